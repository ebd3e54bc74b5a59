import PyProof.Rows.All
import Wide.All
import OpenK.AllK
import Wide.FinOn
import Lean
import PyProof.EqAt
import PyProof.EqKinds
import PyProof.TupleCall
import PySem.Challenge.RW_cellways_k70_whole_sizes
set_option Elab.async false
set_option linter.all false
set_option genSizeOf false
set_option genSizeOfSpec false
set_option bootstrap.genMatcherCode false
set_option compiler.extract_closed false
set_option compiler.reuse false
set_option maxRecDepth 100000
theorem zzf:¬false=true:=Bool.false_ne_true
theorem zza(a b:Bool):((a&&b)=true)=(a=true/\b=true):=Bool.and_eq_true a b
theorem zzg.{u}{α:Type u}{l:List α}{i:Nat}(h:i<l.length):l[i]?=some l[i]:=List.getElem?_eq_getElem h
theorem zzl.{u,v}{α:Type u}{β:Type v}{l:List α}(f:α->β):(l.map f).length=l.length:=List.length_map f
def zzA:=@PySem.wpAny_bind
def zzB:=@PySem.Heap.get?_push_of_some
def zzC:=@List.size_toArray
def zzD:=@List.mem_of_getElem?
def zzE:=@Nat.le_refl
def zzF:=@List.map_cons
def zzG:=@PySem.wpAny_pure
def zzH:=@List.getElem?_eq_some_iff
def zzI:=@List.mem_cons_of_mem
def zzJ:=@Option.map_eq_some_iff
def zzK:=@List.getD_eq_getElem?_getD
def zzL:=@List.length_cons
def zzM:=@List.length_append
def zzN:=@decide_eq_true_eq
def zzO:=@PySem.Heap.lt_size
def zzP:=@List.mem_cons_self
def zzQ:=@List.getElem?_map
def zzR:=@List.mem_append_right
def zzS:=@List.getElem?_set_ne
def zzT:=@List.all_eq_true
def zzU:=@Nat.le_trans
def zzV:=@Nat.lt_of_le_of_lt
def zzW:=@Nat.lt_of_lt_of_le
def zzX:=@PySem.Heap.get?_push_size
def zzY:=@of_decide_eq_true
def zzZ:=@Option.bind_eq_some_iff
def zzb:=@Nat.ne_of_lt
def zzc:=@List.mem_append_left
def zzd:=@Array.length_toList
def zze:=@Bool.false_eq_true
def zzh:=@decide_eq_true
def zzi:=@List.mem_singleton
def zzj:=@List.any_eq_true
namespace L2
open PySem PySem.Spec PyProof.Rows
abbrev Key:=Sum Int Str
def oy:Key->Value->Bool
 |.inl k,v=>Value.isInt k v
 |.inr x,v=>Value.isStrOf x v
def Qk(w:World):Key->Int
 |.inl k=>hashInt k
 |.inr x=>hashStr w x
theorem b9:∀{k:Key} {v:Value},oy k v=true->(∃i t,k=Sum.inl i/\v=Value.int i t)\/(∃x t,k=Sum.inr x/\v=Value.str x t)
 |.inl i,v,h=>by
  obtain⟨t,e⟩:=Value.isInt_shape (k:=i) (v:=v) h
  exact .inl ⟨i,t,rfl,e⟩
 |.inr x,v,h=>by
  obtain⟨t,e⟩:=Value.isStrOf_shape (x:=x) (v:=v) h
  exact .inr ⟨x,t,rfl,e⟩
theorem xU(i:Int)(t:Tok):oy (.inl i) (.int i t)=true:=by simp [oy,Value.isInt]
theorem x6(x:Str)(t:Tok):oy (.inr x) (.str x t)=true:=by simp [oy,Value.isStrOf]
theorem Kk(a b:Int):decide ((Sum.inl a:Key)=Sum.inl b)=(a==b):=by
 by_cases e:a=b
 ·subst e;simp
 ·have h:¬(Sum.inl a:Key)=Sum.inl b:=λq=>e (Sum.inl.inj q)
  rw [decide_eq_false h];exact(beq_eq_false_iff_ne.mpr e).symm
theorem IK(a b:Str):decide ((Sum.inr a:Key)=Sum.inr b)=decide (a=b):=by
 by_cases e:a=b
 ·subst e;simp
 ·have h:¬(Sum.inr a:Key)=Sum.inr b:=λq=>e (Sum.inr.inj q)
  rw [decide_eq_false h,decide_eq_false e]
theorem IL(a:Int)(b:Str):decide ((Sum.inl a:Key)=Sum.inr b)=false:=decide_eq_false (λq=>nomatch q)
theorem Kg(a:Str)(b:Int):decide ((Sum.inr a:Key)=Sum.inl b)=false:=decide_eq_false (λq=>nomatch q)
noncomputable def bW(prog:Program)(w:World):PySem.KeyKind prog w Key where
 is:=oy
 hash:=Qk w
 inj:=λv a b ha hb=>by
  rcases b9 ha with⟨i,t,rfl,rfl⟩|⟨x,t,rfl,rfl⟩
  ·rcases b9 hb with⟨j,u,rfl,e⟩|⟨y,u,rfl,e⟩
   ·injection e with e1 _;rw [e1]
   ·exact nomatch e
  ·rcases b9 hb with⟨j,u,rfl,e⟩|⟨y,u,rfl,e⟩
   ·exact nomatch e
   ·injection e with e1 _;rw [e1]
 byValue:=λk v h=>by
  rcases b9 h with⟨i,t,rfl,rfl⟩|⟨x,t,rfl,rfl⟩<;>rfl
 pyHash:=λhv h=>by
  rcases b9 hv with⟨i,t,rfl,rfl⟩|⟨x,t,rfl,rfl⟩
  ·exact wpAny_pyHash_int h
  ·exact wpAny_pyHash_str h
 eqBool:=λhu hv h=>by
  rcases b9 hu with⟨i,t,rfl,rfl⟩|⟨x,t,rfl,rfl⟩
  ·rcases b9 hv with⟨j,u,rfl,rfl⟩|⟨y,u,rfl,rfl⟩
   ·rw [Kk] at h;exact wpAny_eqBool_int h
   ·rw [IL] at h;exact SeqAt.EqAt.int_str i t y u _ _ _ _ h
  ·rcases b9 hv with⟨j,u,rfl,rfl⟩|⟨y,u,rfl,rfl⟩
   ·rw [Kg] at h;exact SeqAt.EqAt.str_int x t j u _ _ _ _ h
   ·rw [IK] at h;exact wpAny_eqBool_str h
 «strs»:=λk x t v h=>by
  rcases b9 h with⟨i,u,rfl,e⟩|⟨y,u,rfl,e⟩
  ·exact nomatch e
  ·injection e with e1 _
   subst e1;cases v<;>rfl
theorem sN(prog:Program)(w:World)(i:Int)(t:Tok):(bW prog w).is (.inl i) (.int i t)=true:=xU i t
theorem sf(prog:Program)(w:World)(x:Str)(t:Tok):(bW prog w).is (.inr x) (.str x t)=true:=x6 x t
inductive V where
 |az|bl (b:Bool)|int (i:Int)|str (x:Str)|QI (b:Array UInt8)|PF (b:UInt64)|ref (a:Addr)|ty (n:String)
 deriving DecidableEq
def RelV:V->Value->Prop
 |.az,u=>u=Value.none
 |.bl b,u=>u=Value.bool b
 |.int i,u=>∃t,u=Value.int i t
 |.str x,u=>∃t,u=Value.str x t
 |.QI b,u=>∃t,u=Value.bytes b t
 |.PF b,u=>∃t,u=Value.float b t
 |.ref a,u=>u=Value.ref a
 |.ty n,u=>u=Value.type n
abbrev Vals:List V->List Value->Prop:=Paired RelV
theorem Vals.length{xs:List V}{us:List Value}(r:Vals xs us):xs.length=us.length:=Paired.length r
theorem Vals.get:∀{xs:List V} {us:List Value} {i:Nat} {x:V},Vals xs us->xs[i]?=some x->∃u,us[i]?=some u/\RelV x u
 |_,_,_,_,.nil,e=>by simp at e
 |_,_,0,_,.cons r _,e=>by simp at e;subst e;exact⟨_,rfl,r⟩
 |_,_,i+1,x,.cons _ t,e=>by
  obtain⟨u,h1,h2⟩:=Vals.get (i:=i) (x:=x) t (by simpa using e)
  exact⟨u,by simpa using h1,h2⟩
theorem Vals.append:∀{xs ys:List V} {us ws:List Value},Vals xs us->Vals ys ws->Vals (xs++ys) (us++ws)
 |_,_,_,_,.nil,s=>s
 |_,_,_,_,.cons r t,s=>.cons r (Vals.append t s)
theorem Vals.take:∀{xs:List V} {us:List Value} (n:Nat),Vals xs us->Vals (xs.take n) (us.take n)
 |_,_,0,_=>.nil
 |_,_,_+1,.nil=>.nil
 |_,_,n+1,.cons r t=>.cons r (Vals.take n t)
theorem Vals.drop:∀{xs:List V} {us:List Value} (n:Nat),Vals xs us->Vals (xs.drop n) (us.drop n)
 |_,_,0,r=>r
 |_,_,_+1,.nil=>.nil
 |_,_,n+1,.cons _ t=>Vals.drop n t
def kD:Option V->Option Value->Prop
 |some v,some u=>RelV v u
 |none,none=>True
 |_,_=>False
def KV{κ:Type}:List (κ×V)->List (κ×Value)->Prop:=Paired λ(p:κ×V) (q:κ×Value)=>p.1=q.1/\RelV p.2 q.2
def kV:Key->V
 |.inl i=>.int i
 |.inr x=>.str x
inductive HO where
 |lst (xs:List V)
 |tup (xs:List V)
 |dK (av:List (Key×V))|dT (av:List (List Key×V))
 |set (S:Int->Bool) (n:Nat)
 |ins (C dx:Addr) (fs:List (Str×V))
 |own (x:Addr)
 |xd (fs:List (Str×V))
 |met (f x:Addr)
 |kF (lo hi:Int)
 |bF (o:Obj) (u:HO)
 |gf (ps:Array Value)
 |ext (φ:Heap->Prop)
abbrev Hp:=Addr->Option HO
def upd(H:Hp)(a:Addr)(o:HO):Hp:=λb=>if b=a then some o else H b
theorem ak{H:Hp}{a:Addr}{o:HO}:upd H a o a=some o:=by unfold upd;rw [if_pos rfl]
theorem ae{H:Hp}{a b:Addr}{o:HO}(h:b≠a):upd H a o b=H b:=by unfold upd;rw [if_neg h]
theorem fI{H:Hp}{a b:Addr}{o u:HO}(h:H a=some o)(h':H b=some u)(d:o≠u):a≠b:=by
 intro e;subst e;rw [h] at h';exact d (Option.some.inj h')
theorem bJ{H:Hp}{a b:Addr}{o:HO}(h:H a=some o)(h':H b=none):a≠b:=by
 intro e;subst e;rw [h] at h';cases h'
section
variable(P:Program)(w:World)
def cj(H:Hp)(h:Heap)(a:Addr):HO->Prop
 |.lst xs=>xs.length<=sizeLine/\∃(ay:List Value) (n:Nat),Vals xs ay/\h.get? a=some {cls:=.type "list",data:=.seq ay.toArray n}
 |.tup xs=>xs.length<=sizeLine/\∃ay:List Value,Vals xs ay/\IsTup h a ay.toArray
 |.dK av=>av.length<=sizeLine/\(a==sysModules)=false/\∃vs,KV av vs/\h.DictOf (bW P w) a vs
 |.dT av=>av.length<=sizeLine/\(a==sysModules)=false/\∃xs:List (List Key×Addr×Value),
  Paired (λ(p:List Key×V) (q:List Key×Addr×Value)=>p.1=q.1/\H q.2.1=some (.tup (p.1.map kV))/\RelV p.2 q.2.2) av xs/\
  ∃o es ep,h.get? a=some o/\o.ExactDict/\o.data=.dict es ep/\es.toList=xs.map (entryOfKey (tupleKind (bW P w)))/\(xs.map (·.1)).Nodup
 |.set S n=>h.SetOf (intKind P w) a S n
 |.ins C dx fs=>H dx=some (.own a)/\fs.length<=1000/\dx≠a/\h.get? a=some (PySem.W.instObj C dx)/\
  ∃mA,h.Ns1 dx mA/\(∀f,kD (fs.lookup f) (mA f))/\PySem.Within mA (fs.map (·.1))
 |.own _=>∃o,h.get? a=some o
 |.xd fs=>∃mA,h.Ns1 a mA/\∀f,kD (fs.lookup f) (mA f)
 |.kF lo hi=>∃t u v,h.get? a=some {cls:=.type "range",data:=.fields #[.int lo t,.int hi u,.int 1 v]}
 |.bF o u=>h.get? a=some o/\cj H h a u
 |.gf ps=>h.get? a=some {cls:=.none,data:=.fields ps}
 |.met f x=>h.get? a=some (PySem.W.methodObj (.ref f) (.ref x))
 |.ext φ=>φ h/\(∃o,h.get? a=some o)/\∀h1 h2:Heap,φ h1->(∀o,h1.get? a=some o->h2.get? a=some o)->φ h2
def eh(H:Hp)(h:Heap):Prop:=∀a o,H a=some o->cj P w H h a o
end
section
variable{P:Program}{w:World}{H H':Hp}{h h':Heap}{a:Addr}{o:HO}
theorem cj.lt(x:cj P w H h a o):a<h.objs.size:=by
 cases o with
 |lst xs=>obtain⟨_,_,_,_,e⟩:=x;exact zzO e
 |tup xs=>obtain⟨_,_,_,p⟩:=x;exact p.lt
 |dK av=>obtain⟨_,_,_,_,o,_,_,e,_⟩:=x;exact zzO e
 |dT av=>obtain⟨_,_,_,_,o,_,_,e,_⟩:=x;exact zzO e
 |set S n=>obtain⟨o,_,_,_,e,_⟩:=x;exact zzO e
 |ins C dx fs=>obtain⟨_,_,_,e,_⟩:=x;exact zzO e
 |own y=>obtain⟨_,e⟩:=x;exact zzO e
 |xd fs=>obtain⟨_,⟨_,_,_,e,_⟩,_⟩:=x;exact zzO e
 |kF lo hi=>obtain⟨_,_,_,e⟩:=x;exact zzO e
 |bF ob u=>obtain⟨e,_⟩:=x;exact zzO e
 |gf ps=>exact zzO (show h.get? a=some _ from x)
 |met f y=>exact zzO (show h.get? a=some _ from x)
 |ext φ=>obtain⟨_,⟨_,e⟩,_⟩:=x;exact zzO e
theorem Paired.Bz{α β:Type}{F G:α->β->Prop}:∀{l₁:List α} {l₂:List β},Paired F l₁ l₂->(∀a b,F a b->G a b)->Paired G l₁ l₂
 |_,_,.nil,_=>.nil
 |_,_,.cons r t,f=>.cons (f _ _ r) (Paired.Bz t f)
theorem cj.eF(x:cj P w H h a o)(k:∀b u,(b=a\/H b=some (.own a))->h.get? b=some u->h'.get? b=some u)
 (ho:∀b,H b=some (.own a)->H' b=some (.own a)) (ht:∀b xs,H b=some (.tup xs)->H' b=some (.tup xs)):cj P w H' h' a o:=by
 induction o with
 |lst xs=>obtain⟨z,ay,n,r,e⟩:=x;exact⟨z,ay,n,r,k _ _ (.inl rfl) e⟩
 |tup xs=>obtain⟨z,ay,r,ob,e,c⟩:=x;exact⟨z,ay,r,ob,k _ _ (.inl rfl) e,c⟩
 |dK av=>obtain⟨z,y,vs,r,ob,es,ep,e,c⟩:=x;exact⟨z,y,vs,r,ob,es,ep,k _ _ (.inl rfl) e,c⟩
 |dT av=>
  obtain⟨z,y,xs,r,ob,es,ep,e,c⟩:=x
  exact⟨z,y,xs,Paired.Bz r λp q z=>⟨z.1,ht _ _ z.2.1,z.2.2⟩,ob,es,ep,k _ _ (.inl rfl) e,c⟩
 |set S n=>obtain⟨ob,es,ep,t,e,c⟩:=x;exact⟨ob,es,ep,t,k _ _ (.inl rfl) e,c⟩
 |ins C dx fs=>
  obtain⟨d,z,ne,e,mA,⟨od,es,ep,e2,c⟩,r⟩:=x
  exact⟨ho _ d,z,ne,k _ _ (.inl rfl) e,mA,⟨od,es,ep,k _ _ (.inr d) e2,c⟩,r⟩
 |own y=>obtain⟨ob,e⟩:=x;exact⟨ob,k _ _ (.inl rfl) e⟩
 |xd fs=>obtain⟨mA,⟨od,es,ep,e,c⟩,r⟩:=x;exact⟨mA,⟨od,es,ep,k _ _ (.inl rfl) e,c⟩,r⟩
 |kF lo hi=>obtain⟨t,u,v,e⟩:=x;exact⟨t,u,v,k _ _ (.inl rfl) e⟩
 |bF ob u ih=>obtain⟨e,q⟩:=x;exact⟨k _ _ (.inl rfl) e,ih q⟩
 |gf ps=>
  have e:h.get? a=some {cls:=.none,data:=.fields ps}:=x
  show h'.get? a=some {cls:=.none,data:=.fields ps}
  exact k a _ (.inl rfl) e
 |met f y=>
  have e:h.get? a=some (PySem.W.methodObj (.ref f) (.ref y)):=x
  show h'.get? a=some (PySem.W.methodObj (.ref f) (.ref y))
  exact k a _ (.inl rfl) e
 |ext φ=>obtain⟨p,⟨o,e⟩,st⟩:=x;exact⟨st _ _ p λo q=>k _ _ (.inl rfl) q,⟨o,k _ _ (.inl rfl) e⟩,st⟩
theorem eh.lt(x:eh P w H h)(e:H a=some o):a<h.objs.size:=(x a o e).lt
theorem eh.fresh(x:eh P w H h)(e:h.objs.size<=a):H a=none:=by
 cases q:H a with
 |none=>rfl
 |some u=>exact absurd (zzW (x.lt q) e) (Nat.lt_irrefl _)
theorem eh.kept(x:eh P w H h)(k:∀b u,h.get? b=some u->h'.get? b=some u):eh P w H h':=λa o e=>
 (x a o e).eF (λb u _ q=>k b u q) (λ_ q=>q) λ_ _ q=>q
theorem eh.laid(x:eh P w H h)(k:∀b u,h.get? b=some u->h'.get? b=some u)(hp:h.objs.size<=a)(new:cj P w (upd H a o) h' a o):eh P w (upd H a o) h':=λb u e=>by
 have hn:=x.fresh hp
 by_cases hb:b=a
 ·subst hb;rw [ak] at e;cases e;exact new
 ·rw [ae hb] at e;exact(x b u e).eF (λc v _ q=>k c v q) (λc q=>by rw [ae (bJ q hn)];exact q) λc xs q=>by rw [ae (bJ q hn)];exact q
end
def Rd(H:Hp)(a:Addr)(u:HO):Prop:=H a=some u\/∃o,H a=some (.bF o u)
theorem Rd.ok{P:Program}{w:World}{H:Hp}{h:Heap}{a:Addr}{u:HO}(r:Rd H a u)(x:eh P w H h):cj P w H h a u:=by
 rcases r with r|⟨o,r⟩
 ·exact x a u r
 ·obtain⟨_,q⟩:=x a _ r
  exact q
def Mt:Option HO->Prop
 |some (.lst _)=>True
 |some (.dK _)=>True
 |some (.dT _)=>True
 |some (.set _ _)=>True
 |some (.ins _ _ _)=>True
 |some (.ext _)=>True
 |_=>False
section
variable{P:Program}{w:World}{H:Hp}{h h':Heap}{x e:Addr}{o':HO}
theorem eh.write(ok:eh P w H h)(mu:Mt (H x))(he:e=x\/H e=some (.own x))(k:∀b u,b≠e->h.get? b=some u->h'.get? b=some u)(LK:∃u,h'.get? e=some u)
 (new:cj P w (upd H x o') h' x o'):eh P w (upd H x o') h':=λb u q=>by
 have LX:∀c y,H c=some (.own y)->c≠x:=λc y r z=>by subst z;rw [r] at mu;exact mu
 have PC:∀c xs,H c=some (.tup xs)->c≠x:=λc xs r z=>by subst z;rw [r] at mu;exact mu
 by_cases hb:b=x
 ·subst hb;rw [ak] at q;cases q;exact new
 ·rw [ae hb] at q
  by_cases hbe:b=e
  ·have q':H b=some (.own x):=by
    rcases he with z|z
    ·exact absurd (hbe.trans z) hb
    ·rw [hbe];exact z
   rw [q] at q';cases q';obtain⟨v,hv⟩:=LK
   exact⟨v,by rw [hbe];exact hv⟩
  ·refine(ok b u q).eF (λc v hc r=>k c v ?_ r) (λc r=>by rw [ae (LX c b r)];exact r) λc xs r=>by rw [ae (PC c xs r)];exact r
   rcases hc with rfl|hc
   ·exact hbe
   ·rintro rfl
    rcases he with z|z
    ·exact LX c b hc z
    ·rw [hc] at z;cases z;exact hb rfl
end
structure Un(fs ex:List Addr)(H H':Hp)(h h':Heap):Prop where
 keep:∀b o,h.get? b=some o->H b=none->b∉fs->b∉ex->h'.get? b=some o
 slot:∀b o,h.get? b=some o->H b=none->b∈fs->b∉ex->∃sl,h'.get? b=some {o with slots:=sl}
 free:∀b o,h.get? b=some o->H b=none->b∉ex->H' b=none
 there:∀b o,h.get? b=some o->b∉ex->∃o',h'.get? b=some o'
 gk:∀b xs,H b=some (.tup xs)->H' b=some (.tup xs)
 fk:∀b o u,H b=some (.bF o u)->H' b=some (.bF o u)
 fM:∀b ps,H b=some (.gf ps)->∃more,H' b=some (.gf (ps++more))
section
variable{fs ex:List Addr}{H H1:Hp}{h h1 h':Heap}{a x e:Addr}{o:HO}
theorem Un.any(u:Un fs ex H H1 h h1){b:Addr}{ob:Obj}(q:h.get? b=some ob)(n:H b=none)(hx:b∉ex):∃sl,h1.get? b=some {ob with slots:=sl}:=by
 by_cases hb:b∈fs
 ·exact u.slot b ob q n hb hx
 ·exact⟨ob.slots,u.keep b ob q n hb hx⟩
theorem Un.kept(k:∀b u,h.get? b=some u->h'.get? b=some u):Un fs ex H H h h':=
 ⟨λb ob q _ _ _=>k b ob q,λb ob q _ _ _=>⟨ob.slots,k b ob q⟩,λ_ _ _ n _=>n,λb ob q _=>⟨ob,k b ob q⟩,λ_ _ q=>q,λ_ _ _ q=>q,λ_ ps q=>⟨#[],by rw [q];simp⟩⟩
theorem Un.refl:Un fs ex H H h h:=Un.kept λ_ _ q=>q
theorem Un.laid(k:∀b u,h.get? b=some u->h'.get? b=some u)(hp:h.objs.size<=a)(hn:H a=none):Un fs ex H (upd H a o) h h' where
 keep:=λb u q _ _ _=>k b u q
 slot:=λb u q _ _ _=>⟨u.slots,k b u q⟩
 free:=λb u q n _=>by rw [ae (zzb (zzW (zzO q) hp))];exact n
 there:=λb u q _=>⟨u,k b u q⟩
 gk:=λb xs q=>by rw [ae (bJ q hn)];exact q
 fk:=λb u xs q=>by rw [ae (bJ q hn)];exact q
 fM:=λb ps q=>⟨#[],by rw [ae (bJ q hn),q];simp⟩
theorem Un.write(mu:Mt (H x))(he:e=x\/H e=some (.own x))(k:∀b u,b≠e->h.get? b=some u->h'.get? b=some u)(LK:∃u,h'.get? e=some u):Un fs ex H (upd H x o) h h':=by
 have hx:∀b,H b=none->b≠x:=λb n z=>by subst z;rw [n] at mu;exact mu
 have hb:∀b,H b=none->b≠e:=λb n z=>by
  subst z;rcases he with r|r
  ·exact hx b n r
  ·rw [n] at r;cases r
 have hm:∀b u,H b=some u->¬Mt (some u)->b≠x:=λb u q nm z=>by subst z;rw [q] at mu;exact nm mu
 refine⟨λb u q n _ _=>k b u (hb b n) q,λb u q n _ _=>⟨u.slots,k b u (hb b n) q⟩,λb u q n _=>by rw [ae (hx b n)];exact n,λb u q _=>?_,
  λb xs q=>by rw [ae (hm b _ q λz=>z)];exact q,λb u xs q=>by rw [ae (hm b _ q λz=>z)];exact q,λb ps q=>⟨#[],by rw [ae (hm b _ q λz=>z),q];simp⟩⟩
 by_cases hbe:b=e
 ·subst hbe;exact LK
 ·exact⟨u,k b u hbe q⟩
end
def Ow(h:Heap)(H:Hp):List Addr:=(List.range h.objs.size).filter λa=>(H a).isSome
def oT(h:Heap)(H:Hp):Heap:=PySem.W.hideAll h (Ow h H)
theorem ym(h:Heap)(H:Hp):(oT h H).objs.size=h.objs.size:=PySem.W.hideAll_size _ _
theorem B8{h:Heap}{H:Hp}{b:Addr}{o:Obj}(e:h.get? b=some o)(n:H b=none):(oT h H).get? b=some o:=
 PySem.W.hideAll_get _ e λhm=>by
  have q:(H b).isSome=true:=(List.mem_filter.mp hm).2
  rw [n] at q;simp at q
theorem Eo{h:Heap}{H:Hp}{b:Addr}{o:Obj}(e:(oT h H).get? b=some o):h.get? b=some o/\H b=none:=by
 have e':h.get? b=some o:=PySem.W.of_hideAll (Ow h H) e
 refine⟨e',?_⟩;cases q:H b with
 |none=>rfl
 |some x=>
  have hm:b∈Ow h H:=List.mem_filter.mpr ⟨List.mem_range.mpr (zzO e'),by simp [q]⟩
  have z:(oT h H).get? b=none:=PySem.W.hideAll_none (Ow h H) hm
  rw [z] at e;cases e
def EM(g h:Heap)(L:Addr):List (Addr×Obj):=(List.range h.objs.size).filterMap λa=>if a=L\/(g.get? a).isSome=true then none else(h.get? a).map λo=>(a,o)
def rest(g h:Heap)(L d:Addr):List (Addr×Obj):=(EM g h L).filter λp=>decide (p.1≠d)
structure Mod(K:PySem.W.Frag)(mg:Str->Option Value)(base:Heap):Prop where
 NP:K.In base
 glob:base.Ns mainGlobals mg
 blt:∃mb,base.Ns builtinsNs mb/\∀x:Str,x≠"__name__"->mb x=bootBuiltins x
 nolimit:base.NoLimit
structure Cx where
 prog:Program
 w:World
 K:PySem.W.Frag
 mg:Str->Option Value
 base:Heap
 A:Around
 N:List Str
 s₀:Shared
 H₀:Hp
 env:Env
 outer:List Env
 stack:List Env
 ex:List Addr
 fn:Str->Bool
 calm:Bool
 pn:List (Addr×Obj)
 xe:Value->Shared->Prop
def en(l:List Env):List Addr:=l.filterMap (·.frame)
abbrev Cx.fs(X:Cx):List Addr:=en X.outer
def LN(sc:Scope)(x:Str):Prop:=sc.names.lookup x=some .local\/sc.names.lookup x=some .cell\/sc.names.lookup x=some .free
def Loc(sc:Scope)(x:Str):Prop:=sc.names.lookup x=some .local\/sc.names.lookup x=some .cell
def Look(env:Env)(h:Heap)(m:Str->Option Value)(x:Str)(u:Value):Prop:=
 (env.kindOf x=some .local/\m x=some u)\/((env.kindOf x=some .cell\/env.kindOf x=some .free)/\∃c,env.cells.lookup x=some c/\h.IsCell c (some u))
structure Cx.Ok(X:Cx):Prop where
 mod:Mod X.K X.mg X.base
 kind:X.env.scope.kind=.function
 glob:X.env.globals=mainGlobals
 blt:X.env.builtins=builtinsNs
 above:X.s₀.heap.objs.size<=X.env.locals
 inj:∀x y c,X.env.cells.lookup x=some c->X.env.cells.lookup y=some c->x=y
 has:∀x,(X.env.kindOf x=some .cell\/X.env.kindOf x=some .free)->∃c,X.env.cells.lookup x=some c
 Gw:∀x c,X.fn x=true->X.env.cells.lookup x=some c->X.s₀.heap.objs.size<=c
 hd:X.calm=true->X.A.handled=none
 frames:X.A.frames=some X.stack
 Ak:X.stack=X.outer\/(X.stack=X.env::X.outer/\X.env.frame=some X.env.locals)
 Qm:∀b∈X.ex,b≠X.env.locals/\∀x c,X.env.cells.lookup x=some c->c≠b
 bs:∀b o,X.base.get? b=some o->X.s₀.heap.get? b=some o/\X.H₀ b=none
 ud:X.base.objs.size<=X.s₀.heap.objs.size
 yF:∀b o,X.base.get? b=some o->b∉X.ex
 zF:∀b∈X.ex,b∉X.fs
 fV:X.s₀.heap.FunFrames X.base X.outer
 tW:∀b∈X.fs,X.H₀ b=none
structure Inv(X:Cx)(aa:List (Addr×Obj))(σ:List (Option V))(H:Hp)(s:Shared):Prop where
 ok:X.Ok
 os:s.os=X.s₀.os
 bare:AllBare s.gens
 base:Un X.fs X.ex X.H₀ H X.s₀.heap s.heap
 loc:∃m,s.heap.Ns X.env.locals m/\∀(i:Nat) (x:Str) (v:V),X.N[i]?=some x->σ[i]?=some (some v)->LN X.env.scope x->∃u,RelV v u/\Look X.env s.heap m x u
 cell:∀x c,X.env.cells.lookup x=some c->∃v,s.heap.IsCell c v
 free:H X.env.locals=none
 eK:∀x c,X.env.cells.lookup x=some c->H c=none
 pin:∀p∈X.pn++aa,s.heap.get? p.1=some p.2/\H p.1=none/\p.1≠X.env.locals/\p.1∉X.fs/\∀v,p.2.data≠.cell v
 aQ:eh X.prog X.w H s.heap
 len:σ.length=X.N.length
section
variable{X:Cx}{aa:List (Addr×Obj)}{σ:List (Option V)}{H H':Hp}{s:Shared}{h':Heap}
theorem Cx.Ok.Qc(ok:X.Ok){b:Addr}{o:Obj}(e:X.base.get? b=some o):b∉X.fs:=λhb=>by
 have:=(ok.fV.mem hb).1
 rw [e] at this;cases this
theorem Inv.bs(I:Inv X aa σ H s):∀b o,X.base.get? b=some o->s.heap.get? b=some o/\H b=none:=λb o e=>
 ⟨I.base.keep b o (I.ok.bs b o e).1 (I.ok.bs b o e).2 (I.ok.Qc e) (I.ok.yF b o e),I.base.free b o (I.ok.bs b o e).1 (I.ok.bs b o e).2 (I.ok.yF b o e)⟩
theorem Inv.bk(I:Inv X aa σ H s):∀b o,X.base.get? b=some o->s.heap.get? b=some o:=λb o e=>(I.bs b o e).1
theorem Inv.mod(I:Inv X aa σ H s):Mod X.K X.mg X.base:=I.ok.mod
theorem Inv.oD(I:Inv X aa σ H s):X.K.In s.heap:=I.ok.mod.NP.keeps I.bk
theorem Inv.fr(I:Inv X aa σ H s):∃m,Fr X.base X.env.locals s.heap m:=
 let⟨m,hn,_⟩:=I.loc
 ⟨m,hn,I.bk,zzU I.ok.ud I.ok.above⟩
theorem Inv.lt(I:Inv X aa σ H s):X.env.locals<s.heap.objs.size:=let⟨_,hn,_⟩:=I.loc;hn.lt
theorem Inv.sz(I:Inv X aa σ H s):X.s₀.heap.objs.size<=s.heap.objs.size:=zzU I.ok.above (Nat.le_of_lt I.lt)
theorem Inv.O2(I:Inv X aa σ H s){a:Addr}(h:s.heap.objs.size<=a):a∉X.fs:=λhb=>by
 obtain⟨_,o,ho,_⟩:=I.ok.fV.mem hb
 exact absurd (zzW (zzO ho) (zzU I.sz h)) (Nat.lt_irrefl _)
theorem Inv.x5(I:Inv X aa σ H s):∀x c,X.env.cells.lookup x=some c->c≠X.env.locals:=λx c e z=>by
 obtain⟨v,o,ho,hd⟩:=I.cell x c e
 obtain⟨m,⟨o',es,ep,jr,vh,_⟩,_⟩:=I.loc
 rw [z,jr] at ho;cases ho;rw [vh] at hd;cases hd
theorem Inv.fV(I:Inv X aa σ H s):s.heap.FunFrames X.base X.outer:=by
 have all:∀(l:List Env),(∀b∈en l,b∈X.fs)->X.s₀.heap.FunFrames X.base l->s.heap.FunFrames X.base l:=by
  intro l
  induction l with
  |nil=>intro _ _;trivial
  |cons env r ih=>
   intro hs hl;obtain⟨hk,⟨L,o,hf,hn,ho,hd⟩,hr⟩:=hl
   have hL:L∈X.fs:=hs L (by unfold en;rw [List.filterMap_cons,hf];exact zzP)
   obtain⟨sl,e⟩:=I.base.slot L o ho (I.ok.tW L hL) hL λz=>I.ok.zF L z hL
   exact⟨hk,⟨L,_,hf,hn,e,hd⟩,ih (λb hb=>hs b (by unfold en;rw [List.filterMap_cons,hf];exact zzI _ hb)) hr⟩
 exact all X.outer (λ_ hb=>hb) I.ok.fV
theorem Inv.stack(I:Inv X aa σ H s):s.heap.FunFrames X.base X.stack:=by
 rcases I.ok.Ak with e|⟨e,hf⟩
 ·rw [e];exact I.fV
 ·rw [e];obtain⟨m,hn,_⟩:=I.loc
  refine .cons (by rw [I.ok.kind];decide) hf hn ?_ I.fV;exact Heap.get?_none_of_le (zzU I.ok.ud I.ok.above)
theorem Inv.iO(I:Inv X aa σ H s):∀b∈en X.stack,b∈X.env.locals::X.fs:=λb hb=>by
 rcases I.ok.Ak with e|⟨e,hf⟩
 ·rw [e] at hb;exact zzI _ hb
 ·rw [e] at hb;unfold en at hb;rw [List.filterMap_cons,hf] at hb;exact hb
theorem Inv.kO(I:Inv X aa σ H s):∀b∈en X.stack,H b=none:=λb hb=>by
 rcases List.mem_cons.mp (I.iO b hb) with e|hb
 ·rw [e];exact I.free
 ·obtain⟨_,o,ho,_⟩:=I.ok.fV.mem hb
  exact I.base.free b o ho (I.ok.tW b hb) λz=>I.ok.zF b z hb
theorem Inv.step{g':Array GenState}{t':Nat}{d':Drawn}{ch:List Addr}(I:Inv X aa σ H s)
 (zm:∀b∈ch,(b∈X.ex\/X.s₀.heap.objs.size<=b)/\b≠X.env.locals/\(∀x c,X.env.cells.lookup x=some c->c≠b)/\∀p∈X.pn++aa,p.1≠b)
 (keep:∀b o,b≠X.env.locals->b∉X.fs->b∉ch->s.heap.get? b=some o->H b=none->h'.get? b=some o)
 (slot:∀b o,b≠X.env.locals->b∈X.fs->b∉ch->s.heap.get? b=some o->H b=none->∃sl,h'.get? b=some {o with slots:=sl}) (free:∀b o,b∉ch->s.heap.get? b=some o->H b=none->H' b=none)
 (there:∀b o,b∉ch->s.heap.get? b=some o->∃o',h'.get? b=some o')
 (gk:∀b xs,H b=some (.tup xs)->H' b=some (.tup xs)) (fk:∀b o u,H b=some (.bF o u)->H' b=some (.bF o u)) (fM:∀b ps,H b=some (.gf ps)->∃more,H' b=some (.gf (ps++more)))
 (ns:∀m,s.heap.Ns X.env.locals m->h'.Ns X.env.locals m) (aQ:eh X.prog X.w H' h') (hg:AllBare g'):
 Inv X aa σ H' {s with heap:=h',gens:=g',drawn:=d',toks:=t'}:=by
 have Ol:∀b o,X.s₀.heap.get? b=some o->b≠X.env.locals:=λb o e=>zzb (zzW (zzO e) I.ok.above)
 have IM:∀b o,X.s₀.heap.get? b=some o->b∉X.ex->b∉ch:=λb o e hx hb=>by
  rcases(zm b hb).1 with z|z
  ·exact hx z
  ·exact absurd (zzW (zzO e) z) (Nat.lt_irrefl _)
 have cellK:∀x c,X.env.cells.lookup x=some c->∀v,s.heap.IsCell c v->h'.IsCell c v:=λx c e v ⟨o,ho,hd⟩=>by
  have Mf:c∉ch:=λz=>(zm c z).2.2.1 x c e rfl
  by_cases hc:c∈X.fs
  ·obtain⟨sl,q⟩:=slot c o (I.x5 x c e) hc Mf ho (I.eK x c e)
   exact⟨_,q,hd⟩
  ·exact⟨o,keep c o (I.x5 x c e) hc Mf ho (I.eK x c e),hd⟩
 refine⟨I.ok,I.os,hg,⟨λb o e n hb hx=>?_,λb o e n hb hx=>?_,λb o e n hx=>?_,λb o e hx=>?_,λb xs e=>gk b xs (I.base.gk b xs e),λb o xs e=>fk b o xs (I.base.fk b o xs e),λb ps e=>?_⟩,?_,λx c e=>?_,?_,λx c e=>?_,λp hp=>?_,aQ,I.len⟩
 ·exact keep b o (Ol b o e) hb (IM b o e hx) (I.base.keep b o e n hb hx) (I.base.free b o e n hx)
 ·obtain⟨sl,e1⟩:=I.base.slot b o e n hb hx
  obtain⟨sl',e2⟩:=slot b _ (Ol b o e) hb (IM b o e hx) e1 (I.base.free b o e n hx)
  exact⟨sl',e2⟩
 ·obtain⟨o',e1⟩:=I.base.there b o e hx
  exact free b o' (IM b o e hx) e1 (I.base.free b o e n hx)
 ·obtain⟨o',e1⟩:=I.base.there b o e hx
  exact there b o' (IM b o e hx) e1
 ·obtain⟨m1,e1⟩:=I.base.fM b ps e
  obtain⟨m2,e2⟩:=fM b _ e1
  exact⟨m1++m2,by rw [e2,Array.append_assoc]⟩
 ·obtain⟨m,hn,hl⟩:=I.loc
  refine⟨m,ns m hn,λi x v e1 e2 e3=>?_⟩
  obtain⟨u,r,l⟩:=hl i x v e1 e2 e3
  refine⟨u,r,?_⟩;rcases l with l|⟨k,c,e,z⟩
  ·exact .inl l
  ·exact .inr ⟨k,c,e,cellK x c e _ z⟩
 ·obtain⟨v,z⟩:=I.cell x c e
  exact⟨v,cellK x c e v z⟩
 ·obtain⟨m,⟨o,_,_,ho,_⟩,_⟩:=I.loc
  exact free _ o (λz=>(zm _ z).2.1 rfl) ho I.free
 ·obtain⟨v,o,ho,hd⟩:=I.cell x c e
  exact free c o (λz=>(zm c z).2.2.1 x c e rfl) ho (I.eK x c e)
 ·obtain⟨e,n,ne,nf,d⟩:=I.pin p hp
  have Mf:p.1∉ch:=λz=>(zm p.1 z).2.2.2 p hp rfl
  exact⟨keep p.1 p.2 ne nf Mf e n,free p.1 p.2 Mf e n,ne,nf,d⟩
theorem Inv.un{t':Nat}(I:Inv X aa σ H s)(u:Un X.fs [] H H' s.heap h')(aQ:eh X.prog X.w H' h'):Inv X aa σ H' {s with heap:=h',toks:=t'}:=by
 obtain⟨m,⟨o,es,ep,ho,r⟩,_⟩:=id I.loc
 obtain⟨sl,hL⟩:=u.any ho I.free (by simp)
 exact I.step (g':=s.gens) (d':=s.drawn) (ch:=[]) (λ_ z=>nomatch z) (λb o _ hb _ e n=>u.keep b o e n hb (by simp)) (λb o _ hb _ e n=>u.slot b o e n hb (by simp)) (λb o _ e n=>u.free b o e n (by simp)) (λb o _ e=>u.there b o e (by simp)) u.gk u.fk u.fM (λm' hm=>by
  obtain⟨o',es',ep',jr,r'⟩:=hm
  rw [ho] at jr;cases jr;exact⟨_,es',ep',hL,r'⟩) aQ I.bare
theorem Inv.call{g':Array GenState}{t':Nat}{d':Drawn}{ch:List Addr}(I:Inv X aa σ H s)(u:Un (en X.stack) ch H H' s.heap h')(aQ:eh X.prog X.w H' h')(hg:AllBare g')
 (zm:∀b∈ch,(b∈X.ex\/X.s₀.heap.objs.size<=b)/\b≠X.env.locals/\(∀x c,X.env.cells.lookup x=some c->c≠b)/\∀p∈X.pn++aa,p.1≠b):
 Inv X aa σ H' {s with heap:=h',gens:=g',drawn:=d',toks:=t'}:=by
 obtain⟨m,⟨o,es,ep,ho,r⟩,_⟩:=id I.loc
 obtain⟨sl,hL⟩:=u.any ho I.free λz=>(zm _ z).2.1 rfl
 exact I.step (ch:=ch) zm (λb o hL hb hc e n=>u.keep b o e n (λz=>(List.mem_cons.mp (I.iO b z)).elim hL hb) hc) (λb o _ _ hc e n=>u.any e n hc) (λb o hc e n=>u.free b o e n hc) (λb o hc e=>u.there b o e hc) u.gk u.fk u.fM (λm' hm=>by
  obtain⟨o',es',ep',jr,r'⟩:=hm
  rw [ho] at jr;cases jr;exact⟨_,es',ep',hL,r'⟩) aQ hg
theorem Inv.turned{t':Nat}{it:Addr}(I:Inv X aa σ H s)(k:∀b o,b≠it->s.heap.get? b=some o->h'.get? b=some o)(hn:H it=none)(hL:it≠X.env.locals)
 (h1:it∈X.ex\/X.s₀.heap.objs.size<=it) (h2:∀x c,X.env.cells.lookup x=some c->c≠it) (h3:∀p∈X.pn++aa,p.1≠it):Inv X aa σ H {s with heap:=h',toks:=t'}:=by
 have Sd:∀b u,H b=some u->b≠it:=λb u e z=>by rw [z,hn] at e;cases e
 refine I.step (g':=s.gens) (d':=s.drawn) (ch:=[it]) (λb hb=>?_) (λb o _ _ hc e _=>k b o (λz=>hc (by simp [z])) e) (λb o _ _ hc e _=>⟨o.slots,k b o (λz=>hc (by simp [z])) e⟩) (λ_ _ _ _ n=>n)
  (λb o hc e=>⟨o,k b o (λz=>hc (by simp [z])) e⟩) (λ_ _ e=>e) (λ_ _ _ e=>e) (λb ps e=>⟨#[],by rw [e];simp⟩) (λm hm=>?_) (λb u e=>?_) I.bare
 ·have e:b=it:=by simpa using hb
  subst e;exact⟨h1,hL,h2,h3⟩
 ·obtain⟨o,es,ep,ho,r⟩:=hm
  exact⟨o,es,ep,k _ o (Ne.symm hL) ho,r⟩
 ·refine(I.aQ b u e).eF (λc v hc q=>k c v ?_ q) (λ_ q=>q) λ_ _ q=>q
  rcases hc with z|z
  ·rw [z];exact Sd b u e
  ·exact Sd c _ z
theorem Inv.tok(I:Inv X aa σ H s)(t:Nat):Inv X aa σ H {s with toks:=t}:=I.un (h':=s.heap) (t':=t) Un.refl I.aQ
theorem Inv.kept{t':Nat}(I:Inv X aa σ H s)(k:∀b u,s.heap.get? b=some u->h'.get? b=some u):Inv X aa σ H {s with heap:=h',toks:=t'}:=I.un (Un.kept k) (I.aQ.kept k)
theorem Inv.laid{a:Addr}{o:HO}{t':Nat}(I:Inv X aa σ H s)(k:∀b u,s.heap.get? b=some u->h'.get? b=some u)(hp:s.heap.objs.size<=a)(new:cj X.prog X.w (upd H a o) h' a o):
 Inv X aa σ (upd H a o) {s with heap:=h',toks:=t'}:=I.un (Un.laid k hp (I.aQ.fresh hp)) (I.aQ.laid k hp new)
theorem Inv.write{x e:Addr}{o:HO}{t':Nat}(I:Inv X aa σ H s)(mu:Mt (H x))(he:e=x\/H e=some (.own x))(k:∀b u,b≠e->s.heap.get? b=some u->h'.get? b=some u)(LK:∃u,h'.get? e=some u)
 (new:cj X.prog X.w (upd H x o) h' x o):Inv X aa σ (upd H x o) {s with heap:=h',toks:=t'}:=I.un (Un.write mu he k LK) (I.aQ.write mu he k LK new)
theorem Inv.g7{i5:List (Addr×Obj)}(I:Inv X aa σ H s)(h:∀p∈i5,s.heap.get? p.1=some p.2/\H p.1=none/\p.1≠X.env.locals/\p.1∉X.fs/\∀v,p.2.data≠.cell v):Inv X i5 σ H s:=
 ⟨I.ok,I.os,I.bare,I.base,I.loc,I.cell,I.free,I.eK,λp hp=>(List.mem_append.mp hp).elim (λz=>I.pin p (zzc _ z)) (h p),I.aQ,I.len⟩
theorem jq{N:List Str}(hN:N.Nodup){i j:Nat}{x:Str}(a:N[i]?=some x)(b:N[j]?=some x):i=j:=by
 obtain⟨h1,e1⟩:=zzH.mp a
 obtain⟨h2,e2⟩:=zzH.mp b
 exact(List.getElem_inj hN).mp (e1.trans e2.symm)
theorem jZ{M:Model}{A:Around}{E:Value->Shared->Prop}{i:Nat}{x:Str}{v:V}{u:Value}{Q:Unit->Shared->Prop}(I:Inv X aa σ H s)(hN:X.N.Nodup)(hi:X.N[i]?=some x)(hx:Loc X.env.scope x)(r:RelV v u)
 (h:∀s',Inv X aa (σ.set i (some v)) H s'->(∃a,Heap.SameBut a s.heap s'.heap/\(a=X.env.locals\/X.env.cells.lookup x=some a))->Q () s') (hf:X.fn x=true\/X.env.scope.names.lookup x=some .local:=by first|exact .inl rfl|exact .inr rfl|assumption):wpAny M A (storeName X.env x u) Q E s:=by
 obtain⟨m,hn,hl⟩:=id I.loc
 have Jk:(X.env.scope.kind==.class||(X.env.scope.kind==.module&&X.env.locals !=X.env.globals))=false:=by rw [I.ok.kind];rfl
 have hiσ:i<σ.length:=by rw [I.len];exact(zzH.mp hi).1
 have x5:=I.x5
 have tracked:∀{a:Addr} {h':Heap},(∃o,s.heap.get? a=some o/\H a=none)->Heap.SameBut a s.heap h'->eh X.prog X.w H h':=λ{a h'} ha hs b ob e=>by
  obtain⟨_,_,hfree⟩:=ha
  refine(I.aQ b ob e).eF (λc w' hc q=>(hs.2 c ?_).trans q) (λ_ q=>q) λ_ _ q=>q
  rintro rfl
  rcases hc with rfl|hc
  ·rw [hfree] at e;cases e
  ·rw [hfree] at hc;cases hc
 rcases hx with hk|hk
 ·refine wpAny_storeName_local hk hn (λh' Pr hs=>?_) Jk;obtain⟨oL,_,_,hoL,_⟩:=id hn
  refine h _ ⟨I.ok,I.os,I.bare,⟨λb o e n hb hx=>?_,λb o e n hb hx=>?_,I.base.free,λb o e hx=>?_,I.base.gk,I.base.fk,I.base.fM⟩,⟨_,Pr,λj y v' e1 e2 e3=>?_⟩,λy c e=>?_,I.free,I.eK,λp hp=>?_,tracked ⟨oL,hoL,I.free⟩ hs,by simpa using I.len⟩ ⟨_,hs,.inl rfl⟩
  ·exact(hs.2 b (zzb (zzW (zzO e) I.ok.above))).trans (I.base.keep b o e n hb hx)
  ·obtain⟨sl,e1⟩:=I.base.slot b o e n hb hx
   exact⟨sl,(hs.2 b (zzb (zzW (zzO e) I.ok.above))).trans e1⟩
  ·obtain⟨o',e1⟩:=I.base.there b o e hx
   exact⟨o',(hs.2 b (zzb (zzW (zzO e) I.ok.above))).trans e1⟩
  ·by_cases hj:j=i
   ·subst hj;rw [hi] at e1;cases e1;rw [List.getElem?_set_self hiσ] at e2;cases e2;exact⟨u,r,.inl ⟨hk,by simp⟩⟩
   ·rw [zzS (Ne.symm hj)] at e2;obtain⟨u',r',q⟩:=hl j y v' e1 e2 e3
    refine⟨u',r',?_⟩;rcases q with⟨k,e⟩|⟨k,c,e,z⟩
    ·refine .inl ⟨k,?_⟩;have:y≠x:=λe=>hj (jq hN e1 (e▸hi))
     simp [this,e]
    ·exact .inr ⟨k,c,e,z.sameBut hs (x5 y c e)⟩
  ·obtain⟨w',z⟩:=I.cell y c e
   exact⟨w',z.sameBut hs (x5 y c e)⟩
  ·obtain⟨e,n,ne,nf,d⟩:=I.pin p hp
   exact⟨(hs.2 p.1 ne).trans e,n,ne,nf,d⟩
 ·have kf:X.fn x=true:=by
   rcases hf with z|z
   ·exact z
   ·rw [z] at hk;cases hk
  obtain⟨c,hc⟩:=I.ok.has x (.inl hk)
  obtain⟨w',z⟩:=I.cell x c hc
  refine wpAny_storeName_cell I.ok.kind hk hc z (λh' g8 hs=>?_);obtain⟨oc,hoc,hocd⟩:=id z
  refine h {s with heap:=h'} ⟨I.ok,I.os,I.bare,⟨λb o e n hb hx=>?_,λb o e n hb hx=>?_,I.base.free,λb o e hx=>?_,I.base.gk,I.base.fk,I.base.fM⟩,⟨m,hn.sameBut hs (Ne.symm (x5 x c hc)),λj y v' e1 e2 e3=>?_⟩,λy c' e=>?_,I.free,I.eK,λp hp=>?_,tracked ⟨oc,hoc,I.eK x c hc⟩ hs,by simpa using I.len⟩ ⟨c,hs,.inr hc⟩
  ·exact(hs.2 b (zzb (zzW (zzO e) (I.ok.Gw x c kf hc)))).trans (I.base.keep b o e n hb hx)
  ·obtain⟨sl,e1⟩:=I.base.slot b o e n hb hx
   exact⟨sl,(hs.2 b (zzb (zzW (zzO e) (I.ok.Gw x c kf hc)))).trans e1⟩
  ·obtain⟨o',e1⟩:=I.base.there b o e hx
   exact⟨o',(hs.2 b (zzb (zzW (zzO e) (I.ok.Gw x c kf hc)))).trans e1⟩
  ·by_cases hj:j=i
   ·subst hj;rw [hi] at e1;cases e1;rw [List.getElem?_set_self hiσ] at e2;cases e2;exact⟨u,r,.inr ⟨.inl hk,c,hc,g8⟩⟩
   ·rw [zzS (Ne.symm hj)] at e2;obtain⟨u',r',q⟩:=hl j y v' e1 e2 e3
    refine⟨u',r',?_⟩;rcases q with q|⟨k,c',e,z'⟩
    ·exact .inl q
    ·refine .inr ⟨k,c',e,z'.sameBut hs ?_⟩
     rintro rfl
     exact hj (jq hN e1 (I.ok.inj _ _ _ e hc▸hi))
  ·by_cases MV:c'=c
   ·subst MV;exact⟨_,g8⟩
   ·obtain⟨w2,z2⟩:=I.cell y c' e
    exact⟨w2,z2.sameBut hs MV⟩
  ·obtain⟨e,n,ne,nf,d⟩:=I.pin p hp
   refine⟨(hs.2 p.1 ?_).trans e,n,ne,nf,d⟩;intro q;rw [q,hoc] at e;have q':oc=p.2:=Option.some.inj e
   exact d w' (by rw [<-q'];exact hocd)
theorem jk{M:Model}{A:Around}{E:Value->Shared->Prop}{i:Nat}{x:Str}{v:V}{u:Value}{Q:Unit->Shared->Prop}(I:Inv X aa σ H s)(hN:X.N.Nodup)(hi:X.N[i]?=some x)(hx:Loc X.env.scope x)(r:RelV v u)
 (h:∀s',Inv X aa (σ.set i (some v)) H s'->Q () s') (hf:X.fn x=true\/X.env.scope.names.lookup x=some .local:=by first|exact .inl rfl|exact .inr rfl|assumption):wpAny M A (storeName X.env x u) Q E s:=
 jZ I hN hi hx r (λs' I' _=>h s' I') hf
theorem Inv.L9{s':Shared}{ch:List Addr}(I:Inv X aa σ H s)(ho:s'.os=s.os)(u:Un (en X.stack) ch H H' s.heap s'.heap)(aQ:eh X.prog X.w H' s'.heap)(hg:AllBare s'.gens)
 (zm:∀b∈ch,(b∈X.ex\/X.s₀.heap.objs.size<=b)/\b≠X.env.locals/\(∀x c,X.env.cells.lookup x=some c->c≠b)/\∀p∈X.pn++aa,p.1≠b):Inv X aa σ H' s':=by
 obtain⟨h',g',d',t',o'⟩:=s'
 have e:o'=s.os:=ho
 subst e;exact I.call (g':=g') (t':=t') (d':=d') u aQ hg zm
end
abbrev XK:=Value->Option Addr->Hp->Prop
abbrev St:=List (Option V)
abbrev VK:=V->Hp->Prop
abbrev TE:=St->Hp->VK->Prop
abbrev TT:=St->Hp->(Bool->Hp->Prop)->Prop
abbrev TA:=St->Hp->(List V->Hp->Prop)->Prop
structure Ends where
 nx:St->Hp->Prop
 rt:VK
 bk:St->Hp->Prop:=λ_ _=>False
 ct:St->Hp->Prop:=λ_ _=>False
abbrev TS:=Ends->St->Hp->Prop
def EP(X:Cx)(aa:List (Addr×Obj))(σ:St)(Q:VK)(u:Value)(s':Shared):Prop:=∃v H',Inv X aa σ H' s'/\RelV v u/\Q v H'
def TP(X:Cx)(aa:List (Addr×Obj))(σ:St)(Q:Bool->Hp->Prop)(b:Bool)(s':Shared):Prop:=∃H',Inv X aa σ H' s'/\Q b H'
def AP(X:Cx)(aa:List (Addr×Obj))(σ:St)(Q:List V->Hp->Prop)(us:List Value)(s':Shared):Prop:=∃vs H',Inv X aa σ H' s'/\Vals vs us/\Q vs H'
def SP(X:Cx)(aa:List (Addr×Obj))(D:Ends)(f:Flow)(s':Shared):Prop:=
 match f with
 |.next=>∃σ' H',Inv X aa σ' H' s'/\D.nx σ' H'
 |.brk=>∃σ' H',Inv X aa σ' H' s'/\D.bk σ' H'
 |.cont=>∃σ' H',Inv X aa σ' H' s'/\D.ct σ' H'
 |.ret u=>∃v σ' H',Inv X aa σ' H' s'/\RelV v u/\D.rt v H'
def PE(X:Cx)(e:Expr)(t:TE):Prop:=
 ∀(aa:List (Addr×Obj)) (s:Shared) (σ:St) (H:Hp) (Q:VK),Inv X aa σ H s->t σ H Q->wpAny (model X.prog X.w) X.A (eval e X.env) (EP X aa σ Q) X.xe s
def PT(X:Cx)(e:Expr)(t:TT):Prop:=
 ∀(aa:List (Addr×Obj)) (s:Shared) (σ:St) (H:Hp) (Q:Bool->Hp->Prop),Inv X aa σ H s->t σ H Q->wpAny (model X.prog X.w) X.A (isTrue e X.env (eval e X.env)) (TP X aa σ Q) X.xe s
def PW(X:Cx)(e:Expr)(t:TT):Prop:=
 ∀(whole:Sem Value) (aa:List (Addr×Obj)) (s:Shared) (σ:St) (H:Hp) (Q:Bool->Hp->Prop),Inv X aa σ H s->t σ H Q->wpAny (model X.prog X.w) X.A (isTrue e X.env whole) (TP X aa σ Q) X.xe s
theorem PW.pt{X:Cx}{e:Expr}{t:TT}(h:PW X e t):PT X e t:=h _
def PA(X:Cx)(es:List Expr)(t:TA):Prop:=
 ∀(pos:Pos) (aa:List (Addr×Obj)) (s:Shared) (σ:St) (H:Hp) (Q:List V->Hp->Prop),Inv X aa σ H s->t σ H Q->wpAny (model X.prog X.w) X.A (spliced (backTo pos (starEach es X.env))) (AP X aa σ Q) X.xe s
def PS(X:Cx)(st:Stmt)(t:TS):Prop:=
 ∀(aa:List (Addr×Obj)) (s:Shared) (σ:St) (H:Hp) (D:Ends),Inv X aa σ H s->t D σ H->wpAny (model X.prog X.w) X.A (exec st X.env) (SP X aa D) X.xe s
def qJ(X:Cx)(st:List Stmt)(t:TS):Prop:=
 ∀(aa:List (Addr×Obj)) (s:Shared) (σ:St) (H:Hp) (D:Ends),Inv X aa σ H s->t D σ H->wpAny (model X.prog X.w) X.A (execs st X.env) (SP X aa D) X.xe s
theorem bR{α:Type}{t:Sem α}{Q Q':α->Shared->Prop}{M:Model}{A:Around}{E:Value->Shared->Prop}{s:Shared}(h:wpAny M A t Q E s)(hQ:∀a s,Q a s->Q' a s):wpAny M A t Q' E s:=wpAny_mono h hQ λ_ _ x=>x
section
variable{X:Cx}
theorem bin{a b:Expr}{ta tb:TE}(ha:PE X a ta)(hb:PE X b tb){aa:List (Addr×Obj)}{s:Shared}{σ:St}{H:Hp}{R:V->V->Hp->Prop}(I:Inv X aa σ H s)(h:ta σ H λx H1=>tb σ H1 λy H2=>R x y H2)
 {α:Type} {Q:α->Shared->Prop} {f:Value->Value->Sem α}
 (hf:∀v u s2 x y H2,Inv X aa σ H2 s2->RelV x v->RelV y u->R x y H2->wpAny (model X.prog X.w) X.A (f v u) Q X.xe s2):
 wpAny (model X.prog X.w) X.A (eval a X.env) (λv s₁=>wpAny (model X.prog X.w) X.A (eval b X.env) (λu s₂=>wpAny (model X.prog X.w) X.A (f v u) Q X.xe s₂) X.xe s₁) X.xe s:=by
 refine bR (ha aa s σ H _ I h) λv s1 ⟨x,H1,I1,r1,q1⟩=>?_
 refine bR (hb aa s1 σ H1 _ I1 q1) λu s2 ⟨y,H2,I2,r2,q2⟩=>?_
 exact hf v u s2 x y H2 I2 r1 r2 q2
def xV(i:Nat):TE:=λσ H Q=>∃v,σ[i]?=some (some v)/\Q v H
def tC(v:V):TE:=λ_ H Q=>Q v H
theorem fh{i:Nat}{x:Str}{pos:Pos}(hN:X.N[i]?=some x)(hv:LN X.env.scope x)(hd:(x==("__debug__":Str))=false:=by decide)(lj:(x==("__classdict__":Str))=false:=by decide):PE X (.Name x pos) (xV i):=by
 intro aa s σ H Q I h;obtain⟨v,e,h⟩:=h
 obtain⟨m,hn,hl⟩:=I.loc
 obtain⟨u,r,l⟩:=hl i x v hN e hv
 have fin:EP X aa σ Q u s:=⟨v,H,I,r,h⟩
 rcases l with⟨hk,hm⟩|⟨hk,c,hc,dO⟩
 ·exact wpAny_Name (wpAny_loadName_local I.ok.kind hk hn hm fin) hd
 ·rcases hk with hk|hk
  ·exact wpAny_Name (wpAny_loadName_cell I.ok.kind hk hc dO fin) hd
  ·exact wpAny_Name (wpAny_loadName_free I.ok.kind hk hc dO fin lj) hd
theorem zW{i j pos}:PE X (.Constant (.int i) j pos) (tC (.int i)):=λ_ _ _ H _ I h=>wpAny_Constant_int ⟨.int i,H,I.tok _,⟨_,rfl⟩,h⟩
theorem L7{b j pos}:PE X (.Constant (.bool b) j pos) (tC (.bl b)):=λ_ _ _ H _ I h=>Constant_bool ⟨.bl b,H,I,rfl,h⟩
theorem Iu{j pos}:PE X (.Constant .none j pos) (tC .az):=λ_ _ _ H _ I h=>Constant_none ⟨.az,H,I,rfl,h⟩
theorem zX{x j pos}:PE X (.Constant (.str x) j pos) (tC (.str x)):=λ_ _ _ H _ I h=>Calls.Constant_str ⟨.str x,H,I.tok _,⟨_,rfl⟩,h⟩
def Gl(X:Cx)(x:Str):Prop:=X.env.kindOf x=some .globalImplicit
theorem fR{E:Value->Shared->Prop}{aa:List (Addr×Obj)}{s:Shared}{σ:St}{H:Hp}{x:Str}{u:Value}{pos:Pos}{Q:Value->Shared->Prop}(I:Inv X aa σ H s)(hg:Gl X x)(hm:X.mg x=some u)(h:Q u s)
 (hd:(x==("__debug__":Str))=false:=by decide):wpAny (model X.prog X.w) X.A (eval (.Name x pos) X.env) Q E s:=
 Calls.Name_function_global I.ok.kind hg (Calls.loadGlobal_global (by rw [I.ok.glob];exact I.mod.glob.keeps I.bk) hm h) hd
theorem fQ{E:Value->Shared->Prop}{aa:List (Addr×Obj)}{s:Shared}{σ:St}{H:Hp}{x:Str}{u:Value}{pos:Pos}{Q:Value->Shared->Prop}(I:Inv X aa σ H s)(hg:Gl X x)(hm:X.mg x=none)(hv:bootBuiltins x=some u)(h:Q u s)
 (hn:x≠"__name__":=by decide) (hd:(x==("__debug__":Str))=false:=by decide):wpAny (model X.prog X.w) X.A (eval (.Name x pos) X.env) Q E s:=by
 obtain⟨mb,h1,h2⟩:=I.mod.blt
 exact Calls.Name_function_global I.ok.kind hg (Calls.loadGlobal_builtin (by rw [I.ok.glob];exact I.mod.glob.keeps I.bk) hm (by rw [I.ok.blt];exact h1.keeps I.bk) ((h2 x hn).trans hv) h) hd
theorem vM{x:Str}{v:V}{u:Value}{pos:Pos}(hg:Gl X x)(hm:X.mg x=some u)(r:RelV v u)(hd:(x==("__debug__":Str))=false:=by decide):PE X (.Name x pos) (tC v):=
 λ_ _ _ H _ I h=>fR I hg hm ⟨v,H,I,r,h⟩ hd
theorem vN{x:Str}{v:V}{u:Value}{pos:Pos}(hg:Gl X x)(hm:X.mg x=none)(hv:bootBuiltins x=some u)(r:RelV v u)(hn:x≠"__name__":=by decide)(hd:(x==("__debug__":Str))=false:=by decide):PE X (.Name x pos) (tC v):=
 λ_ _ _ H _ I h=>fQ I hg hm hv ⟨v,H,I,r,h⟩ hn hd
variable{a b:Expr}{ta tb:TE}{pos:Pos}
def tB(t:TE):TT:=λσ H Q=>t σ H λx H1=>∃c,x=.bl c/\Q c H1
theorem Ku{e:Expr}{t:TE}(h:PE X e t)(he:∀whole,isTrue e X.env whole=(do let v<-whole;standAt e.pos;holding [v] (truthy v)):=by intro _;rfl):PT X e (tB t):=by
 intro aa s σ H Q I hw;refine isTrue_plain (bR (h aa s σ H _ I hw) λv s1 ⟨x,H1,I1,r1,q1⟩=>?_) (he _)
 obtain⟨d,rfl,q⟩:=q1
 cases r1;exact wpAny_truthy_bool ⟨H1,I1,q⟩
variable{tA OB:TT}{rest:List Expr}
def Qj(t u:TT):TT:=λσ H Q=>t σ H λc H1=>if c=true then u σ H1 Q else Q false H1
def Vx(t u:TT):TT:=λσ H Q=>t σ H λc H1=>if c=true then Q true H1 else u σ H1 Q
def Py(t:TT):TT:=λσ H Q=>t σ H λc H1=>Q (!c) H1
theorem pw_and1(ha:PT X a tA):PW X (.BoolOp .And [a] pos) tA:=by
 intro wh aa s σ H Q I h;refine isTrue_and (bR (ha aa s σ H Q I h) λc s1 e=>?_)
 cases c with
 |true=>exact isTrue_and_nil e
 |false=>exact e
theorem pw_or1(ha:PT X a tA):PW X (.BoolOp .Or [a] pos) tA:=by
 intro wh aa s σ H Q I h;refine isTrue_or (bR (ha aa s σ H Q I h) λc s1 e=>?_)
 cases c with
 |false=>exact isTrue_or_nil e
 |true=>exact e
theorem pw_and(ha:PT X a tA)(hb:PW X (.BoolOp .And (b::rest) pos) OB):PW X (.BoolOp .And (a::b::rest) pos) (Qj tA OB):=by
 intro wh aa s σ H Q I h;refine isTrue_and (bR (ha aa s σ H _ I h) λc s1 ⟨H1,I1,q1⟩=>?_)
 cases c with
 |true=>exact hb wh aa s1 σ H1 Q I1 q1
 |false=>exact⟨H1,I1,q1⟩
theorem pw_or(ha:PT X a tA)(hb:PW X (.BoolOp .Or (b::rest) pos) OB):PW X (.BoolOp .Or (a::b::rest) pos) (Vx tA OB):=by
 intro wh aa s σ H Q I h;refine isTrue_or (bR (ha aa s σ H _ I h) λc s1 ⟨H1,I1,q1⟩=>?_)
 cases c with
 |true=>exact⟨H1,I1,q1⟩
 |false=>exact hb wh aa s1 σ H1 Q I1 q1
theorem HY(ha:PT X a tA):PT X (.UnaryOp .Not a pos) (Py tA):=by
 intro aa s σ H Q I h;exact isTrue_not (ha aa s σ H (λc H1=>Q (!c) H1) I h)
def Nc(ta tb:TE):TE:=λσ H Q=>ta σ H λx H1=>∃c,x=.bl c/\if c=true then tb σ H1 Q else Q (.bl false) H1
def Pe(ta tb:TE):TE:=λσ H Q=>ta σ H λx H1=>∃c,x=.bl c/\if c=true then Q (.bl true) H1 else tb σ H1 Q
def MY(ta:TE):TE:=λσ H Q=>ta σ H λx H1=>∃c,x=.bl c/\Q (.bl (!c)) H1
theorem BW{op}{t:TE}(h:PE X a t):PE X (.BoolOp op [a] pos) t:=λaa s σ H Q I hw=>BoolOp_one (h aa s σ H Q I hw)
theorem JR(ha:PE X a ta)(hb:PE X (.BoolOp .And (b::rest) pos) tb):PE X (.BoolOp .And (a::b::rest) pos) (Nc ta tb):=by
 intro aa s σ H Q I h;refine BoolOp_and (bR (ha aa s σ H _ I h) λv s1 ⟨x,H1,I1,r1,q1⟩=>?_)
 obtain⟨c,rfl,q1⟩:=q1
 cases r1;refine wpAny_truthy_bool ?_;cases c with
 |true=>exact hb aa s1 σ H1 Q I1 q1
 |false=>exact⟨.bl false,H1,I1,rfl,q1⟩
theorem NY(ha:PE X a ta)(hb:PE X (.BoolOp .Or (b::rest) pos) tb):PE X (.BoolOp .Or (a::b::rest) pos) (Pe ta tb):=by
 intro aa s σ H Q I h;refine BoolOp_or (bR (ha aa s σ H _ I h) λv s1 ⟨x,H1,I1,r1,q1⟩=>?_)
 obtain⟨c,rfl,q1⟩:=q1
 cases r1;refine wpAny_truthy_bool ?_;cases c with
 |false=>exact hb aa s1 σ H1 Q I1 q1
 |true=>exact⟨.bl true,H1,I1,rfl,q1⟩
theorem IQ(ha:PE X a ta):PE X (.UnaryOp .Not a pos) (MY ta):=by
 intro aa s σ H Q I h;refine UnaryOp_ (bR (ha aa s σ H _ I h) λv s1 ⟨x,H1,I1,r1,q1⟩=>?_)
 obtain⟨c,rfl,q1⟩:=q1
 cases r1;exact not_of (wpAny_truthy_bool ⟨.bl (!c),H1,I1,rfl,q1⟩)
def Ur(t:TT)(ta tb:TE):TE:=λσ H Q=>t σ H λc H1=>if c=true then ta σ H1 Q else tb σ H1 Q
theorem zP{c:Expr}(hc:PT X c tA)(ha:PE X a ta)(hb:PE X b tb):PE X (.IfExp c a b pos) (Ur tA ta tb):=by
 intro aa s σ H Q I h;refine wpAny_IfExp (bR (hc aa s σ H _ I h) λd s1 ⟨H1,I1,q1⟩=>?_)
 cases d with
 |true=>exact ha aa s1 σ H1 Q I1 q1
 |false=>exact hb aa s1 σ H1 Q I1 q1
end
def gz(K:PySem.W.Frag)(H:Hp)(a:Addr)(xs:List V):Prop:=
 Rd H a (.lst xs)\/
  ∃(o:Obj) (ay:Array Value) (n:Nat),K.lookup a=some o/\o.cls=.type "list"/\o.dict=none/\o.data=.seq ay n/\ay.size<=sizeLine/\Vals xs ay.toList
def f6(K:PySem.W.Frag)(H:Hp)(a:Addr)(xs:List V):Prop:=
 Rd H a (.tup xs)\/
  ∃(o:Obj) (ay:Array Value) (n:Nat),K.lookup a=some o/\o.cls=.type "tuple"/\o.data=.seq ay n/\ay.size<=sizeLine/\Vals xs ay.toList
noncomputable def Qn:Value->Option V
 |.none=>some .az
 |.bool b=>some (.bl b)
 |.int i _=>some (.int i)
 |.str x _=>some (.str x)
 |.bytes b _=>some (.QI b)
 |.float b _=>some (.PF b)
 |.ref a=>some (.ref a)
 |.type n=>some (.ty n)
 |_=>none
theorem RelV.abs{x:V}{u:Value}(r:RelV x u):Qn u=some x:=by
 cases x with
 |az=>cases r;rfl
 |bl _=>cases r;rfl
 |int _=>obtain⟨t,rfl⟩:=r;rfl
 |str _=>obtain⟨t,rfl⟩:=r;rfl
 |QI _=>obtain⟨t,rfl⟩:=r;rfl
 |PF _=>obtain⟨t,rfl⟩:=r;rfl
 |ref _=>cases r;rfl
 |ty _=>cases r;rfl
theorem RelV.inj{x y:V}{u:Value}(r:RelV x u)(q:RelV y u):x=y:=Option.some.inj (r.abs.symm.trans q.abs)
theorem Vals.inj:∀{xs ys:List V} {us:List Value},Vals xs us->Vals ys us->xs=ys
 |_,_,_,.nil,.nil=>rfl
 |_,_,_,.cons r t,.cons r' t'=>by rw [r.inj r',Vals.inj t t']
section
variable{X:Cx}{aa:List (Addr×Obj)}{σ:St}{H:Hp}{s:Shared}{a:Addr}{xs ys:List V}
theorem gz.of{K:PySem.W.Frag}(h:H a=some (.lst xs)):gz K H a xs:=.inl (.inl h)
theorem Inv.list(I:Inv X aa σ H s)(h:gz X.K H a xs):∃ay:List Value,Vals xs ay/\PlainL s.heap a ay.toArray/\xs.length<=sizeLine:=by
 rcases h with h|⟨o,ay,n,hk,hc,hd,hs,hz,r⟩
 ·obtain⟨z,ay,n,r,e⟩:=h.ok I.aQ
  exact⟨ay,r,⟨_,n,e,rfl,rfl,rfl⟩,z⟩
 ·refine⟨ay.toList,r,⟨o,n,I.oD a o hk,hc,hd,by simpa using hs⟩,?_⟩;have e:=r.length
  simp only [zzd] at e;omega
theorem Inv.tuple(I:Inv X aa σ H s)(h:f6 X.K H a xs):∃ay:List Value,Vals xs ay/\IsTup s.heap a ay.toArray/\xs.length<=sizeLine:=by
 rcases h with h|⟨o,ay,n,hk,hc,hs,hz,r⟩
 ·obtain⟨z,ay,r,p⟩:=h.ok I.aQ
  exact⟨ay,r,p,z⟩
 ·refine⟨ay.toList,r,⟨o,I.oD a o hk,hc,n,by simpa using hs⟩,?_⟩;have e:=r.length
  simp only [zzd] at e;omega
theorem Inv.mf(I:Inv X aa σ H s)(h:gz X.K H a xs)(h':gz X.K H a ys):xs=ys:=by
 obtain⟨ay,r,⟨o,n,e,_,_,d⟩,_⟩:=I.list h
 obtain⟨its',r',⟨o',n',e',_,_,d'⟩,_⟩:=I.list h'
 rw [e] at e';cases e';rw [d] at d'
 injection d' with d1 _
 have:ay=its':=by simpa using congrArg Array.toList d1
 subst this;exact r.inj r'
theorem Inv.j7(I:Inv X aa σ H s)(h:f6 X.K H a xs)(h':f6 X.K H a ys):xs=ys:=by
 obtain⟨ay,r,⟨o,e,_,n,d⟩,_⟩:=I.tuple h
 obtain⟨its',r',⟨o',e',_,n',d'⟩,_⟩:=I.tuple h'
 rw [e] at e';cases e';rw [d] at d'
 injection d' with d1 _
 have:ay=its':=by simpa using congrArg Array.toList d1
 subst this;exact r.inj r'
end
section
variable{X:Cx}{st:Stmt}{rest:List Stmt}{t u:TS}{e:Expr}{te:TE}{pos:Pos}
def NT:TS:=λD σ H=>D.nx σ H
def Pa(t u:TS):TS:=λD σ H=>t {D with nx:=u D} σ H
theorem w8:qJ X [] NT:=λ_ _ σ H _ I h=>wpAny_execs_nil ⟨σ,H,I,h⟩
theorem Cb(h1:PS X st t)(h2:qJ X rest u):qJ X (st::rest) (Pa t u):=by
 intro aa s σ H D I h;refine wpAny_execs_cons (bR (h1 aa s σ H {D with nx:=u D} I h) λf s1 q=>?_)
 cases f with
 |next=>
  obtain⟨σ',H',I',q⟩:=q
  exact h2 aa s1 σ' H' D I' q
 |ret v=>exact q
 |brk=>exact q
 |cont=>exact q
theorem vG(h1:PS X st t):qJ X [st] t:=by
 intro aa s σ H D I h;refine wpAny_execs_cons (bR (h1 aa s σ H D I h) λf s1 q=>?_)
 cases f with
 |next=>exact wpAny_execs_nil q
 |ret v=>exact q
 |brk=>exact q
 |cont=>exact q
theorem Inv.quiet{aa:List (Addr×Obj)}{σ:St}{H:Hp}{s:Shared}(I:Inv X aa σ H s):interactive X.env=false:=by simp [interactive,I.ok.kind]
def Nz(te:TE):TS:=λD σ H=>te σ H λ_ H1=>D.nx σ H1
theorem qx(he:PE X e te)(hs:swapsWith e none pos.line X.env=pure false:=by rfl):PS X (.Expr e pos) (Nz te):=by
 intro aa s σ H D I h;exact wpAny_Expr_any (bR (he aa s σ H _ I h) λv s1 ⟨x,H1,I1,r1,q1⟩=>⟨σ,H1,I1,q1⟩) I.quiet hs
def Qu(te:TE):TS:=λD σ H=>te σ H D.rt
theorem BI(he:PE X e te):PS X (.Return (some e) pos) (Qu te):=by
 intro aa s σ H D I h;exact wpAny_Return_some (bR (he aa s σ H _ I h) λv s1 ⟨x,H1,I1,r1,q1⟩=>⟨x,σ,H1,I1,r1,q1⟩)
def Qi(c:TT)(t u:TS):TS:=λD σ H=>c σ H λb H1=>if b=true then t D σ H1 else u D σ H1
theorem Gz{c:Expr}{a b:List Stmt}{tc:TT}(hc:PT X c tc)(ha:qJ X a t)(hb:qJ X b u):PS X (.If c a b pos) (Qi tc t u):=by
 intro aa s σ H D I h;refine wpAny_If (bR (hc aa s σ H _ I h) λd s1 ⟨H1,I1,q1⟩=>?_)
 cases d with
 |true=>exact ha aa s1 σ H1 D I1 q1
 |false=>exact hb aa s1 σ H1 D I1 q1
end
abbrev TG:=V->St->Hp->(St->Hp->Prop)->Prop
abbrev GY:=List V->St->Hp->(St->Hp->Prop)->Prop
def PG(X:Cx)(target:Expr)(t:TG):Prop:=
 ∀(aa:List (Addr×Obj)) (s:Shared) (σ:St) (H:Hp) (v:V) (u:Value) (Q:St->Hp->Prop),Inv X aa σ H s->RelV v u->t v σ H Q->
  wpAny (model X.prog X.w) X.A (assign target X.env u) (λ_ s'=>∃σ' H',Inv X aa σ' H' s'/\Q σ' H') X.xe s
def Mc(X:Cx)(ts:List Expr)(t:GY):Prop:=
 ∀(aa:List (Addr×Obj)) (s:Shared) (σ:St) (H:Hp) (vs:List V) (us:List Value) (Q:St->Hp->Prop),Inv X aa σ H s->Vals vs us->t vs σ H Q->
  wpAny (model X.prog X.w) X.A (assignInOrder ((assignEach ts X.env).map (·.2)) us) (λ_ s'=>∃σ' H',Inv X aa σ' H' s'/\Q σ' H') X.xe s
abbrev Jt:=V->V->V->Hp->(Hp->Prop)->Prop
def Mr(X:Cx)(t:Jt):Prop:=
 ∀(aa:List (Addr×Obj)) (s:Shared) (σ:St) (H:Hp) (o i v:V) (ov iv u:Value) (Q:Hp->Prop),Inv X aa σ H s->RelV o ov->RelV i iv->RelV v u->t o i v H Q->
  wpAny (model X.prog X.w) X.A (setItem ov iv u) (λ_ s'=>∃H',Inv X aa σ H' s'/\Q H') X.xe s
abbrev OG:=V->V->Hp->VK->Prop
def Tb(X:Cx)(op:Operator)(t:OG):Prop:=
 ∀(aa:List (Addr×Obj)) (s:Shared) (σ:St) (H:Hp) (x y:V) (v u:Value) (Q:VK),Inv X aa σ H s->RelV x v->RelV y u->t x y H Q->
  wpAny (model X.prog X.w) X.A (inplaceOp op v u) (EP X aa σ Q) X.xe s
section
variable{X:Cx}{pos:Pos}
def dz(i:Nat):TG:=λv σ H Q=>Q (σ.set i (some v)) H
theorem DW{i:Nat}{x:Str}(hN:X.N.Nodup)(hi:X.N[i]?=some x)(hx:Loc X.env.scope x)(hf:X.fn x=true\/X.env.scope.names.lookup x=some .local:=by first|exact .inl rfl|exact .inr rfl|assumption):PG X (.Name x pos) (dz i):=by
 intro aa s σ H v u Q I r h;exact wpAny_assign_Name (jk I hN hi hx r (λs' I'=>⟨_,H,I',h⟩) hf)
def xn:GY:=λvs σ H Q=>vs=[]/\Q σ H
def gV(t:TG)(u:GY):GY:=λvs σ H Q=>∃v r,vs=v::r/\t v σ H λσ' H'=>u r σ' H' Q
theorem w4:Mc X [] xn:=by
 intro aa s σ H vs us Q I r h;obtain⟨e,h⟩:=h
 subst e;cases r;exact assignInOrder_nil ⟨σ,H,I,h⟩
theorem my{e:Expr}{es:List Expr}{t:TG}{u:GY}(h1:PG X e t)(h2:Mc X es u)
 (hs:(assignEach (e::es) X.env).map (·.2)=assign e X.env::(assignEach es X.env).map (·.2):=by rfl):Mc X (e::es) (gV t u):=by
 intro aa s σ H vs us Q I r h;obtain⟨v,vr,e1,h⟩:=h
 subst e1;cases r with
 |cons r rr=>
  rw [hs];refine assignInOrder_cons (bR (h1 aa s σ H _ _ _ I r h) λ_ s1 ⟨σ1,H1,I1,q1⟩=>?_)
  exact h2 aa s1 σ1 H1 _ _ Q I1 rr q1
noncomputable def zV(K:PySem.W.Frag)(n:Nat)(t:GY):TG:=λv σ H Q=>∃a xs,v=.ref a/\f6 K H a xs/\xs.length=n/\t xs σ H Q
theorem qu{es:List Expr}{k:Nat}{t:GY}{n:Nat}(hc:X.calm=true)(h:Mc X es t)
 (hn:(assignEach es X.env).length=n:=by rfl) (dN:(assignEach es X.env).findIdx? (·.1)=none:=by rfl):PG X (.Tuple es k pos) (zV X.K n t):=by
 intro aa s σ H v u Q I r hw;obtain⟨a,xs,e1,hq,hl,hw⟩:=hw
 subst e1;cases r;obtain⟨ay,rv,ht,hz⟩:=I.tuple hq
 refine assign_Tuple_tuple (I.ok.hd hc) ht (by simp [hn,<-hl,rv.length]) dN λh' hx=>?_
 have I1:Inv X aa σ H {s with heap:=h'}:=I.kept (t':=s.toks) λb o e=>hx b o (zzb (zzO e)) e
 exact h aa _ σ H xs _ Q I1 (by simpa using rv) hw
def Rg(to ti:TE)(t:Jt):TG:=λv σ H Q=>to σ H λo H1=>ti σ H1 λi H2=>t o i v H2 λH3=>Q σ H3
theorem A0{o i:Expr}{to ti:TE}{t:Jt}(ho:PE X o to)(hi:PE X i ti)(hs:Mr X t)
 (ha:∀v,assign (.Subscript o i pos) X.env v=(do
  let ov<-holding [v] (eval o X.env)
  let iv<-holding [v,ov] (eval i X.env)
  standAt pos
  holding [v,ov,iv] (setItem ov iv v)
  release [v,ov,iv] []):=by intro _;rfl):PG X (.Subscript o i pos) (Rg to ti t):=by
 intro aa s σ H v u Q I r h;rw [ha];refine zzA (wpAny_holding (bR (ho aa s σ H _ I h) λov s1 ⟨x,H1,I1,r1,q1⟩=>?_))
 refine zzA (wpAny_holding (bR (hi aa s1 σ H1 _ I1 q1) λiv s2 ⟨y,H2,I2,r2,q2⟩=>?_))
 refine zzA (wpAny_standAt (zzA (wpAny_holding (bR (hs aa s2 σ H2 x y v ov iv u _ I2 r1 r2 r q2) λ_ s3 ⟨H3,I3,q3⟩=>?_))))
 exact wpAny_release ⟨σ,H3,I3,q3⟩
def Cp(te:TE)(g:TG):TS:=λD σ H=>te σ H λx H1=>g x σ H1 D.nx
theorem AF{tg e:Expr}{te:TE}{g:TG}(he:PE X e te)(hg:PG X tg g)(hs:swapsWithSole [tg] e pos.line X.env=pure false:=by rfl)(hw:swappedStores [tg] e X.env=pure none:=by rfl)
 (h1:(assignEach [tg] X.env).map (·.2)=[assign tg X.env]:=by rfl):PS X (.Assign [tg] e pos) (Cp te g):=by
 intro aa s σ H D I h;refine wpAny_Assign_stores (bR (he aa s σ H _ I h) λv s1 ⟨x,H1,I1,r1,q1⟩=>?_) hs hw
 rw [h1];exact bR (hg aa s1 σ H1 x v _ I1 r1 q1) λ_ s2 q=>q
theorem iK{i:Nat}{x:Str}{e:Expr}{te:TE}{pos':Pos}(hN:X.N.Nodup)(hi:X.N[i]?=some x)(hx:Loc X.env.scope x)(he:PE X e te)(hs:swapsWith e (some (.Name x pos')) pos.line X.env=pure false:=by rfl)(hf:X.fn x=true\/X.env.scope.names.lookup x=some .local:=by first|exact .inl rfl|exact .inr rfl|assumption):
 PS X (.Assign [.Name x pos'] e pos) (Cp te (dz i)):=by
 intro aa s σ H D I h;refine wpAny_Assign_Name (bR (he aa s σ H _ I h) λv s1 ⟨y,H1,I1,r1,q1⟩=>?_) hs
 exact jk I1 hN hi hx r1 (λs2 I2=>⟨_,H1,I2,q1⟩) hf
def Rb(i:Nat)(te:TE)(ti:OG):TS:=λD σ H=>∃x,σ[i]?=some (some x)/\te σ H λy H1=>ti x y H1 λz H2=>D.nx (σ.set i (some z)) H2
theorem JH{i:Nat}{x:Str}{e:Expr}{te:TE}{op:Operator}{ti:OG}{pos':Pos}(hN:X.N.Nodup)(hi:X.N[i]?=some x)(hx:Loc X.env.scope x)(he:PE X e te)(ho:Tb X op ti)(hf:X.fn x=true\/X.env.scope.names.lookup x=some .local:=by first|exact .inl rfl|exact .inr rfl|assumption):
 PS X (.AugAssign (.Name x pos') op e pos) (Rb i te ti):=by
 intro aa s σ H D I h;obtain⟨v,e1,h⟩:=h
 obtain⟨m,hn,hl⟩:=I.loc
 have U2:LN X.env.scope x:=by rcases hx with k|k;exact .inl k;exact .inr (.inl k)
 obtain⟨u,r,l⟩:=hl i x v hi e1 U2
 refine wpAny_AugAssign_Name ?_;have go:wpAny (model X.prog X.w) X.A (eval e X.env) (λw s₂=>wpAny (model X.prog X.w) X.A (inplaceOp op u w) (λr s₃=>wpAny (model X.prog X.w) X.A (storeName X.env x r) (λ_=>SP X aa D .next) X.xe s₃) X.xe s₂) X.xe s:=by
  refine bR (he aa s σ H _ I h) λw s1 ⟨y,H1,I1,r1,q1⟩=>?_
  refine bR (ho aa s1 σ H1 v y u w _ I1 r r1 q1) λz s2 ⟨zv,H2,I2,r2,q2⟩=>?_
  exact jk I2 hN hi hx r2 (λs3 I3=>⟨_,H2,I3,q2⟩) hf
 rcases l with⟨hk,hm⟩|⟨hk,c,hc,dO⟩
 ·exact wpAny_loadName_local I.ok.kind hk hn hm go
 ·rcases hk with hk|hk
  ·exact wpAny_loadName_cell I.ok.kind hk hc dO go
  ·rcases hx with k|k
   ·have:X.env.scope.names.lookup x=some .free:=hk
    rw [k] at this;cases this
   ·have:X.env.scope.names.lookup x=some .free:=hk
    rw [k] at this;cases this
def UQ(f:Int->Int->Int):OG:=λx y H Q=>∃i j,x=.int i/\y=.int j/\Q (.int (f i j)) H
theorem Kq:Tb X .Add (UQ λi j=>i+j):=by
 intro aa s σ H x y v u Q I r1 r2 h;obtain⟨i,j,e1,e2,q⟩:=h
 subst e1;subst e2;obtain⟨t,rfl⟩:=r1
 obtain⟨t',rfl⟩:=r2
 exact iadd_int ⟨.int _,H,I.tok _,⟨_,rfl⟩,q⟩
end
section
variable{X:Cx}{pos:Pos}
noncomputable def Iy(c:TT)(tb:TS):TS:=λD σ H=>∃W:Nat->St->Hp->Prop,(∃m,W m σ H)/\∀m σ H,W m σ H->
 c σ H λb H1=>if b=true then∃N:St->Hp->Prop,(∀σ' H',N σ' H'->∃m',m'<m/\W m' σ' H')/\tb {D with nx:=N,ct:=N,bk:=D.nx} σ H1 else D.nx σ H1
theorem CT{c:Expr}{body:List Stmt}{tc:TT}{tb:TS}(hp:PassesOwn (model X.prog X.w) X.A X.env X.xe)(hc:PT X c tc)(hb:qJ X body tb):PS X (.While c body [] pos) (Iy tc tb):=by
 intro aa s σ H D I h;obtain⟨W,⟨m0,w0⟩,turn⟩:=h
 refine wpAny_While (codeAny_whileLoop (λn s'=>∃σ' H',Inv X aa σ' H' s'/\W n σ' H') ?_ m0 ⟨σ,H,I,w0⟩)
 rintro n s1 ⟨σ1,H1,I1,w1⟩
 refine wpAny_passesOwn hp (bR (hc aa s1 σ1 H1 _ I1 (turn n σ1 H1 w1)) λb s2 ⟨H2,I2,q2⟩=>?_)
 cases b with
 |true=>
  obtain⟨N,hN,q2⟩:=q2
  rw [if_pos rfl];refine wpAny_passesOwn hp (bR (hb aa s2 σ1 H2 _ I2 q2) λf s3 q3=>?_)
  cases f with
  |next=>
   obtain⟨σ3,H3,I3,n3⟩:=q3
   obtain⟨m',hm,w3⟩:=hN σ3 H3 n3
   exact⟨m',hm,σ3,H3,I3,w3⟩
  |cont=>
   obtain⟨σ3,H3,I3,n3⟩:=q3
   obtain⟨m',hm,w3⟩:=hN σ3 H3 n3
   exact⟨m',hm,σ3,H3,I3,w3⟩
  |brk=>exact q3
  |ret v=>exact q3
 |false=>
  rw [if_neg zzf];exact wpAny_execs_nil ⟨σ1,H2,I2,q2⟩
end
structure It where
 go:Nat->Hp->Prop
 LO:Nat->Hp->V->Hp->Prop
 stop:Nat->Hp->Prop
def fD(X:Cx)(aa:List (Addr×Obj))(H:Hp)(b:Addr):Prop:=
 H b=none/\b≠X.env.locals/\b∉X.fs/\(b∈X.ex\/X.s₀.heap.objs.size<=b)/\(∀x c,X.env.cells.lookup x=some c->c≠b)/\∀p∈X.pn++aa,p.1≠b
theorem Inv.lB{X:Cx}{aa:List (Addr×Obj)}{σ:St}{H H':Hp}{s:Shared}{b:Addr}(I:Inv X aa σ H s)(hb:s.heap.objs.size<=b)(hn:H' b=none):fD X aa H' b:=by
 refine⟨hn,Nat.ne_of_gt (zzW I.lt hb),I.O2 hb,.inr (zzU I.sz hb),λx c e z=>?_,λp hp z=>?_⟩
 ·obtain⟨v,q⟩:=I.cell x c e
  exact absurd (zzW q.lt (by rw [z];exact hb)) (Nat.lt_irrefl _)
 ·exact absurd (zzW (zzO (I.pin p hp).1) (by rw [z];exact hb)) (Nat.lt_irrefl _)
structure Turn(P:Program)(w:World)(K:PySem.W.Frag)(tg:Expr)(J:It)(fp:List Addr)(it:Addr)(tn:Nat->Heap->Prop):Prop where
 mem:it∈fp
 obj:∀i h,tn i h->∀b∈fp,∃o,h.get? b=some o/\∀v,o.data≠.cell v
 keep:∀i h h',tn i h->(∀b∈fp,∀o,h.get? b=some o->h'.get? b=some o)->tn i h'
 item:∀(X:Cx),X.prog=P->X.w=w->X.K=K->X.calm=true->∀(i:Nat) (aa:List (Addr×Obj)) (s:Shared) (σ:St) (H:Hp) (E:Value->Shared->Prop),Inv X aa σ H s->(∀b∈fp,fD X aa H b)->tn i s.heap->J.go i H->
  wpAny (model P w) X.A (pyNext (.ref it)) (λr s1=>∃u,r=some u/\
   wpAny (model P w) X.A (letOwnedTupleGo tg (.ref it) u) (λ_ s2=>∃x H',Inv X aa σ H' s2/\RelV x u/\J.LO i H x H'/\tn (i+1) s2.heap/\∀b∈fp,H' b=none) E s1) E s
 done:∀(X:Cx),X.prog=P->X.w=w->X.K=K->X.calm=true->∀(i:Nat) (aa:List (Addr×Obj)) (s:Shared) (σ:St) (H:Hp) (E:Value->Shared->Prop),Inv X aa σ H s->(∀b∈fp,fD X aa H b)->tn i s.heap->J.stop i H->
  wpAny (model P w) X.A (pyNext (.ref it)) (λr s1=>r=none/\Inv X aa σ H s1) E s
 self:∀(A:Around) (i:Nat) (s:Shared) (Q:Value->Shared->Prop) (E:Value->Shared->Prop),tn i s.heap->Q (.ref it) s->wpAny (model P w) A (pyIter (.ref it)) Q E s
abbrev TI:=St->Hp->(It->Hp->Prop)->Prop
def S2(X:Cx)(aa:List (Addr×Obj))(σ:St)(tg:Expr)(R:It->Hp->Prop)(Pp:Value)(s2:Shared):Prop:=
 ∃(it:Addr) (fp:List Addr) (tn:Nat->Heap->Prop) (J:It) (H':Hp),Pp=.ref it/\Inv X aa σ H' s2/\Turn X.prog X.w X.K tg J fp it tn/\tn 0 s2.heap/\(∀b∈fp,fD X aa H' b)/\R J H'
def PI(X:Cx)(tg iter:Expr)(wi:TI):Prop:=
 ∀(aa:List (Addr×Obj)) (s:Shared) (σ:St) (H:Hp) (R:It->Hp->Prop),Inv X aa σ H s->wi σ H R->
  wpAny (model X.prog X.w) X.A (eval iter X.env) (λv s1=>wpAny (model X.prog X.w) X.A (pyIter v) (S2 X aa σ tg R) X.xe s1) X.xe s
theorem vE{M:Model}{A:Around}{E:Value->Shared->Prop}{s:Shared}{tg:Expr}{it:Addr}{u:Value}{o:Obj}{n:String}{vs:Array Value}{Q:Unit->Shared->Prop}(ho:s.heap.get? it=some o)(hc:o.cls=.type n)(hd:o.data=.fields vs)
 (hn:["enumerate","zip","dict_itemiterator","dict_reverseitemiterator","odict_iterator","itertools.zip_longest","itertools.pairwise"].contains n=false) (hQ:Q () s):wpAny M A (letOwnedTupleGo tg (.ref it) u) Q E s:=by
 unfold letOwnedTupleGo;cases tg<;>first
  |exact zzG hQ
  |(cases u<;>first
   |exact zzG hQ
   | (refine zzA (wpAny_load ho ?_)
      rw [hc,hd];show wpAny M A (if(["enumerate","zip","dict_itemiterator","dict_reverseitemiterator","odict_iterator","itertools.zip_longest","itertools.pairwise"].contains n&&vs[0]?==some (rawInt _))=true then _ else _) Q E s;rw [if_neg (by intro h;rw [hn,Bool.false_and] at h;cases h)];exact zzG hQ))
noncomputable def Qd(K:PySem.W.Frag)(a:Addr):It:=
 ⟨λi H=>∃xs x,gz K H a xs/\xs[i]?=some x,λi H x H'=>H'=H/\∀xs,gz K H a xs->xs[i]?=some x,λi H=>∃xs,gz K H a xs/\xs.length<=i⟩
noncomputable def QK(K:PySem.W.Frag)(a:Addr):It:=
 ⟨λi H=>∃xs x,f6 K H a xs/\xs[i]?=some x,λi H x H'=>H'=H/\∀xs,f6 K H a xs->xs[i]?=some x,λi H=>∃xs,f6 K H a xs/\xs.length<=i⟩
def Nm(lo:Int)(n:Nat):It:=⟨λi _=>i<n,λi H x H'=>H'=H/\x=.int (lo+i),λi _=>n<=i⟩
theorem yo{P:Program}{w:World}{K:PySem.W.Frag}{tg:Expr}(a it:Addr):Turn P w K tg (Qd K a) [it] it (λi h=>h.IsListIter it a i) where
 mem:=by simp
 obj:=λi h st b hb=>by
  have e:b=it:=by simpa using hb
  subst e;obtain⟨o,e,c,d⟩:=st
  exact⟨o,e,λv z=>by rw [d] at z;cases z⟩
 keep:=λi h h' st k=>st.at λo e=>k it (by simp) o e
 item:=by
  intro X hP hw hK hc i aa s σ H E I hf st hg;subst hP hw hK;obtain⟨xs,x,hq,hx⟩:=hg
  obtain⟨ay,rv,p,hz⟩:=I.list hq
  obtain⟨u,hu,ru⟩:=rv.get hx
  obtain⟨f0,f1,f2,f3,f4,f5⟩:=hf it (by simp)
  refine wpAny_pyNext_list_item st p.isList (x:=u) (by simpa using hu) λh' kM sb=>?_
  have I1:Inv X aa σ H {s with heap:=h'}:=I.turned (t':=s.toks) (λb o hb e=>(sb.2 b hb).trans e) f0 f1 f3 f4 f5
  obtain⟨o,e,c,d⟩:=id kM
  exact⟨u,rfl,vE (s:={s with heap:=h'}) e c d (by decide) ⟨x,H,I1,ru,⟨rfl,λys hy=>by rw [I.mf hy hq];exact hx⟩,kM,λb hb=>(hf b hb).1⟩⟩
 done:=by
  intro X hP hw hK hc i aa s σ H E I hf st hg;subst hP hw hK;obtain⟨xs,hq,hx⟩:=hg
  obtain⟨ay,rv,p,hz⟩:=I.list hq
  obtain⟨f0,f1,f2,f3,f4,f5⟩:=hf it (by simp)
  have hl:=rv.length
  exact wpAny_pyNext_list_end (I.ok.hd hc) st p.isList (by simp;omega) λh' eb=>⟨rfl,I.turned (t':=s.toks) (λb o hb e=>eb b o hb e) f0 f1 f3 f4 f5⟩
 self:=λ_ _ _ _ _ st h=>wpAny_pyIter_listiter st h
theorem u0{P:Program}{w:World}{K:PySem.W.Frag}{tg:Expr}(a it:Addr):Turn P w K tg (QK K a) [it] it (λi h=>h.IsTupleIter it a i) where
 mem:=by simp
 obj:=λi h st b hb=>by
  have e:b=it:=by simpa using hb
  subst e;obtain⟨o,e,c,d⟩:=st
  exact⟨o,e,λv z=>by rw [d] at z;cases z⟩
 keep:=λi h h' st k=>st.at λo e=>k it (by simp) o e
 item:=by
  intro X hP hw hK hc i aa s σ H E I hf st hg;subst hP hw hK;obtain⟨xs,x,hq,hx⟩:=hg
  obtain⟨ay,rv,p,hz⟩:=I.tuple hq
  obtain⟨u,hu,ru⟩:=rv.get hx
  obtain⟨f0,f1,f2,f3,f4,f5⟩:=hf it (by simp)
  refine wpAny_pyNext_tuple_item st (show s.heap.IsTuple a ay.toArray from p) (x:=u) (by simpa using hu) λh' kM sb=>?_
  have I1:Inv X aa σ H {s with heap:=h'}:=I.turned (t':=s.toks) (λb o hb e=>(sb.2 b hb).trans e) f0 f1 f3 f4 f5
  obtain⟨o,e,c,d⟩:=id kM
  exact⟨u,rfl,vE (s:={s with heap:=h'}) e c d (by decide) ⟨x,H,I1,ru,⟨rfl,λys hy=>by rw [I.j7 hy hq];exact hx⟩,kM,λb hb=>(hf b hb).1⟩⟩
 done:=by
  intro X hP hw hK hc i aa s σ H E I hf st hg;subst hP hw hK;obtain⟨xs,hq,hx⟩:=hg
  obtain⟨ay,rv,p,hz⟩:=I.tuple hq
  obtain⟨f0,f1,f2,f3,f4,f5⟩:=hf it (by simp)
  have hl:=rv.length
  exact wpAny_pyNext_tuple_end (I.ok.hd hc) st (show s.heap.IsTuple a ay.toArray from p) (by simp;omega) λh' eb=>⟨rfl,I.turned (t':=s.toks) (λb o hb e=>eb b o hb e) f0 f1 f3 f4 f5⟩
 self:=λ_ _ _ _ _ st h=>wpAny_pyIter_tupleiter st h
theorem tM{P:Program}{w:World}{K:PySem.W.Frag}{tg:Expr}(it:Addr)(lo:Int)(n:Nat):Turn P w K tg (Nm lo n) [it] it (λi h=>IsRangeIter h it (lo+(i:Nat)*1) ((n:Int)-(i:Nat)) 1) where
 mem:=by simp
 obj:=λi h st b hb=>by
  have e:b=it:=by simpa using hb
  subst e;exact⟨_,st,λv z=>by
   have z':Data.fields _=Data.cell v:=z
   cases z'⟩
 keep:=λi h h' st k=>k it (by simp) _ st
 item:=by
  intro X hP hw hK hc i aa s σ H E I hf st hg;subst hP hw hK;obtain⟨f0,f1,f2,f3,f4,f5⟩:=hf it (by simp)
  have W:=Walks.range (prog:=X.prog) (w:=X.w) (I.ok.hd hc) it lo 1 n
  refine W.item i s _ _ hg st λv h' tk hv kM kk=>?_
  obtain⟨t,rfl⟩:=hv
  have I1:Inv X aa σ H {s with heap:=h',toks:=tk}:=I.turned (λb o hb e=>kk b o (by simpa using hb) e) f0 f1 f3 f4 f5
  refine⟨_,rfl,vE (s:={s with heap:=h',toks:=tk}) (n:="range_iterator") kM rfl rfl (by decide) ⟨.int (lo+i),H,I1,⟨t,?_⟩,⟨rfl,rfl⟩,kM,λb hb=>(hf b hb).1⟩⟩
  rw [Int.mul_one]
 done:=by
  intro X hP hw hK hc i aa s σ H E I hf st hg;subst hP hw hK;obtain⟨f0,f1,f2,f3,f4,f5⟩:=hf it (by simp)
  exact wpAny_pyNext_range_end (I.ok.hd hc) st (by have:n<=i:=hg;omega) λh' eb=>⟨rfl,I.turned (t':=s.toks) (λb o hb e=>eb b o hb e) f0 f1 f3 f4 f5⟩
 self:=λ_ _ _ _ _ st h=>wpAny_pyIter_rangeiter st h
section
variable{X:Cx}{tg:Expr}
noncomputable def Mq(K:PySem.W.Frag)(tl:TE):TI:=λσ H R=>tl σ H λx H1=>∃a,x=.ref a/\(∃xs,gz K H1 a xs)/\R (Qd K a) H1
noncomputable def QX(K:PySem.W.Frag)(tl:TE):TI:=λσ H R=>tl σ H λx H1=>∃a,x=.ref a/\(∃xs,f6 K H1 a xs)/\R (QK K a) H1
theorem w5{l:Expr}{tl:TE}(hl:PE X l tl):PI X tg l (Mq X.K tl):=by
 intro aa s σ H R I h;refine bR (hl aa s σ H _ I h) λv s1 ⟨x,H1,I1,r1,q1⟩=>?_
 obtain⟨a,e,⟨xs,hq⟩,q⟩:=q1
 subst e;cases r1;obtain⟨ay,rv,p,hz⟩:=I1.list hq
 refine wpAny_pyIter_list p.isList ?_;refine⟨s1.heap.objs.size,[s1.heap.objs.size],_,_,H1,rfl,I1.kept (t':=s1.toks) λb o e=>zzB _ e,yo a _,⟨_,zzX _ rfl,rfl,rfl⟩,λb hb=>?_,q⟩
 have e:b=s1.heap.objs.size:=by simpa using hb
 subst e;exact I1.lB (zzE _) (I1.aQ.fresh (zzE _))
theorem JA{l:Expr}{tl:TE}(hl:PE X l tl):PI X tg l (QX X.K tl):=by
 intro aa s σ H R I h;refine bR (hl aa s σ H _ I h) λv s1 ⟨x,H1,I1,r1,q1⟩=>?_
 obtain⟨a,e,⟨xs,hq⟩,q⟩:=q1
 subst e;cases r1;obtain⟨ay,rv,p,hz⟩:=I1.tuple hq
 refine wpAny_pyIter_tuple (show s1.heap.IsTuple a ay.toArray from p) ?_;refine⟨s1.heap.objs.size,[s1.heap.objs.size],_,_,H1,rfl,I1.kept (t':=s1.toks) λb o e=>zzB _ e,u0 a _,⟨_,zzX _ rfl,rfl,rfl⟩,λb hb=>?_,q⟩
 have e:b=s1.heap.objs.size:=by simpa using hb
 subst e;exact I1.lB (zzE _) (I1.aQ.fresh (zzE _))
theorem rD{aa:List (Addr×Obj)}{σ:St}{H:Hp}{s:Shared}{R:It->Hp->Prop}{E:Value->Shared->Prop}{lo hi:Int}{t u v:Tok}{tk:Nat}(I:Inv X aa σ H s)(h1: -(2^62)<=lo)(h2:lo<2^62)(h3: -(2^62)<=hi)(h4:hi<2^62)
 (q:R (Nm lo (hi-lo).toNat) H):wpAny (model X.prog X.w) X.A (pyIter (.ref s.heap.objs.size)) (S2 X aa σ tg R) E {s with heap:=s.heap.push {cls:=.type "range",data:=.fields #[.int lo t,.int hi u,.int 1 v]},toks:=tk}:=by
 refine wpAny_pyIter_range (IsRange.new ..) (small_one h1 h2 h3 h4) ?_;have I1:Inv X aa σ H {s with heap:=s.heap.push {cls:=.type "range",data:=.fields #[.int lo t,.int hi u,.int 1 v]},toks:=tk}:=I.kept λb o e=>zzB _ e
 refine⟨(s.heap.push {cls:=.type "range",data:=.fields #[.int lo t,.int hi u,.int 1 v]}).objs.size,[(s.heap.push {cls:=.type "range",data:=.fields #[.int lo t,.int hi u,.int 1 v]}).objs.size],_,_,H,rfl,
  I1.kept (t':=tk) λb o e=>zzB _ e,tM _ lo (hi-lo).toNat,?_,λb hb=>?_,q⟩
 ·have e1:lo+((0:Nat):Int)*1=lo:=by simp
  have e2:(((hi-lo).toNat:Nat):Int)-((0:Nat):Int)=Builtin.Range.rangeSize lo hi 1:=by rw [rangeSize_one];split<;>omega
  show IsRangeIter _ _ (lo+((0:Nat):Int)*1) ((((hi-lo).toNat:Nat):Int)-((0:Nat):Int)) 1
  rw [e1,e2];exact zzX _ rfl
 ·have e:b=(s.heap.push {cls:=.type "range",data:=.fields #[.int lo t,.int hi u,.int 1 v]}).objs.size:=by simpa using hb
  subst e;exact I1.lB (zzE _) (I1.aQ.fresh (zzE _))
def M7(ta:TA):TI:=λσ H R=>ta σ H λvs H1=>∃j:Int,vs=[.int j]/\ -(2^62)<=j/\j<2^62/\R (Nm 0 j.toNat) H1
def Oa(ta:TA):TI:=λσ H R=>ta σ H λvs H1=>∃i j:Int,vs=[.int i,.int j]/\(-(2^62)<=i/\i<2^62/\ -(2^62)<=j/\j<2^62)/\R (Nm i (j-i).toNat) H1
theorem za{a:Expr}{ta:TA}{p pos:Pos}(hg:Gl X "range")(hm:X.mg "range"=none)(ha:PA X [a] ta)(hs:starEach [a] X.env=[(false,eval a X.env)]:=by rfl):PI X tg (.Call (.Name "range" p) [a] [] pos) (M7 ta):=by
 intro aa s σ H R I h;refine Call_ (fQ I hg hm boot_range (PyProof.Rows.callWith_type1 (bR (ha pos aa s σ H _ I h) λus s1 ⟨vs,H1,I1,r1,q1⟩=>?_) hs rfl))
 obtain⟨j,e,q1,q2,q⟩:=q1
 subst e;cases r1 with
 |cons r rr=>
  cases rr;obtain⟨t,rfl⟩:=r
  exact call_range_1 (rD I1 (by omega) (by omega) q1 q2 (by simpa using q))
theorem yP{a b:Expr}{ta:TA}{p pos:Pos}(hg:Gl X "range")(hm:X.mg "range"=none)(ha:PA X [a,b] ta)(hs:starEach [a,b] X.env=[(false,eval a X.env),(false,eval b X.env)]:=by rfl)(vQ:starEach [b] X.env=[(false,eval b X.env)]:=by rfl):
 PI X tg (.Call (.Name "range" p) [a,b] [] pos) (Oa ta):=by
 intro aa s σ H R I h;refine Call_ (fQ I hg hm boot_range (PyProof.Rows.callWith_type1 (bR (ha pos aa s σ H _ I h) λus s1 ⟨vs,H1,I1,r1,q1⟩=>?_) (by rw [hs,vQ]) (by rw [vQ];rfl)))
 obtain⟨i,j,e,⟨q1,q2,q3,q4⟩,q⟩:=q1
 subst e;cases r1 with
 |cons r rr=>
  cases rr with
  |cons r' rr=>
   cases rr;obtain⟨t,rfl⟩:=r
   obtain⟨t',rfl⟩:=r'
   exact call_range_2 (rD I1 q1 q2 q3 q4 q)
noncomputable def P7(wi:TI)(g:TG)(tb:TS):TS:=λD σ H=>wi σ H λJ H1=>∃W:Nat->Nat->St->Hp->Prop,(∃m,W 0 m σ H1)/\∀i m σ H,W i m σ H->
 (J.stop i H/\D.nx σ H)\/(J.go i H/\∃N:St->Hp->Prop,(∀σ' H',N σ' H'->∃m',m'<m/\W (i+1) m' σ' H')/\∀x H',J.LO i H x H'->g x σ H' λσ2 H2=>tb {D with nx:=N,ct:=N,bk:=D.nx} σ2 H2)
def o5(fp:List Addr)(h:Heap):List (Addr×Obj):=fp.filterMap λb=>(h.get? b).map λo=>(b,o)
theorem dI{fp:List Addr}{h:Heap}{b:Addr}{o:Obj}(hb:b∈fp)(e:h.get? b=some o):(b,o)∈o5 fp h:=List.mem_filterMap.mpr ⟨b,hb,by rw [e];rfl⟩
theorem yN{fp:List Addr}{h:Heap}{p:Addr×Obj}(hp:p∈o5 fp h):p.1∈fp/\h.get? p.1=some p.2:=by
 obtain⟨b,hb,e⟩:=List.mem_filterMap.mp hp
 cases q:h.get? b with
 |none=>rw [q] at e;cases e
 |some o=>
  rw [q] at e;have e':(b,o)=p:=Option.some.inj e
  subst e';exact⟨hb,q⟩
theorem Inv.pinned{aa:List (Addr×Obj)}{σ:St}{H:Hp}{s:Shared}{fp:List Addr}(I:Inv X aa σ H s)(hf:∀b∈fp,fD X aa H b)(ho:∀b∈fp,∃o,s.heap.get? b=some o/\∀v,o.data≠.cell v):Inv X (aa++o5 fp s.heap) σ H s:=
 I.g7 λp hp=>(List.mem_append.mp hp).elim (λz=>I.pin p (zzR _ z)) λz=>by
  obtain⟨hb,e⟩:=yN z
  obtain⟨f0,f1,f2,_⟩:=hf p.1 hb
  obtain⟨o,e',d⟩:=ho p.1 hb
  rw [e] at e';cases e';exact⟨e,f0,f1,f2,d⟩
theorem Inv.iZ{aa pl:List (Addr×Obj)}{σ:St}{H:Hp}{s:Shared}(I:Inv X (aa++pl) σ H s):Inv X aa σ H s:=I.g7 λp hp=>I.pin p (zzR _ (zzc _ hp))
theorem JX{iter:Expr}{body:List Stmt}{wi:TI}{g:TG}{tb:TS}{pos:Pos}(hp:PassesOwn (model X.prog X.w) X.A X.env X.xe)(hc:X.calm=true)(hi:PI X tg iter wi)(hg:PG X tg g)(hb:qJ X body tb)
 (hs:∀x,foldedSetIterable iter X.env x=pure x:=by intro _;rfl):PS X (.For tg iter body [] pos) (P7 wi g tb):=by
 intro aa s σ H D I h;refine wpAny_For (bR (hi aa s σ H _ I h) λv s1 h1=>bR h1 λPp s2 h2=>?_) hs
 obtain⟨it,fp,tn,J,H2,e,I2,T,Pd,f2,W,⟨m0,w0⟩,turn⟩:=h2
 subst e;have Le:∀{H':Hp},(∀b∈fp,H' b=none)->∀b∈fp,fD X aa H' b:=λhn b hb=>⟨hn b hb,(f2 b hb).2⟩
 refine codeAny_forLoop_any (λn s'=>∃i σ' H',Inv X aa σ' H' s'/\tn i s'.heap/\(∀b∈fp,H' b=none)/\W i n σ' H') ?_ m0 ⟨0,σ,H2,I2,Pd,λb hb=>(f2 b hb).1,w0⟩
 rintro n s3 ⟨i,σ3,H3,I3,st3,fr3,w3⟩
 rcases turn i n σ3 H3 w3 with⟨stop,qn⟩|⟨go,N,hN,step⟩
 ·refine wpAny_passesOwn hp (bR (T.done X rfl rfl rfl hc i aa s3 σ3 H3 X.xe I3 (Le fr3) st3 stop) λr s4 ⟨hr,I4⟩=>?_)
  subst hr;exact wpAny_execs_nil ⟨σ3,H3,I4,qn⟩
 ·refine wpAny_passesOwn hp (bR (T.item X rfl rfl rfl hc i aa s3 σ3 H3 X.xe I3 (Le fr3) st3 go) λr s4 ⟨u,hr,h4⟩=>?_)
  subst hr;refine wpAny_passesOwn hp (bR h4 λ_ s5 ⟨x,H5,I5,r5,y5,st5,fr5⟩=>?_);have Rf:=I5.pinned (Le fr5) (T.obj _ _ st5)
  refine wpAny_passesOwn hp (bR (hg _ s5 σ3 H5 x u _ Rf r5 (step x H5 y5)) λ_ s6 ⟨σ6,H6,I6,q6⟩=>?_)
  refine wpAny_passesOwn hp (bR (hb _ s6 σ6 H6 _ I6 q6) λf s7 q7=>?_)
  have again:∀{σ7:St} {H7:Hp},Inv X (aa++o5 fp s5.heap) σ7 H7 s7->N σ7 H7->∃m,m<n/\∃i σ' H',Inv X aa σ' H' s7/\tn i s7.heap/\(∀b∈fp,H' b=none)/\W i m σ' H':=λ{σ7 H7} I7 n7=>by
   obtain⟨m',hm,w7⟩:=hN σ7 H7 n7
   refine⟨m',hm,i+1,σ7,H7,I7.iZ,T.keep _ _ _ st5 λb hb o e=>(I7.pin (b,o) (zzR _ (zzR _ (dI hb e)))).1,λb hb=>?_,w7⟩
   obtain⟨o,e,d⟩:=T.obj _ _ st5 b hb
   exact(I7.pin (b,o) (zzR _ (zzR _ (dI hb e)))).2.1
  cases f with
  |next=>obtain⟨σ7,H7,I7,n7⟩:=q7;exact again I7 n7
  |cont=>obtain⟨σ7,H7,I7,n7⟩:=q7;exact again I7 n7
  |brk=>obtain⟨σ7,H7,I7,q7⟩:=q7;exact⟨σ7,H7,I7.iZ,q7⟩
  |ret v=>obtain⟨x7,σ7,H7,I7,r7,q7⟩:=q7;exact⟨x7,σ7,H7,I7.iZ,r7,q7⟩
end
abbrev R2:=V->V->Hp->VK->Prop
def gu(X:Cx)(f:Value->Value->Sem Value)(r:R2):Prop:=
 ∀(aa:List (Addr×Obj)) (s:Shared) (σ:St) (H:Hp) (x y:V) (v u:Value) (Q:VK),Inv X aa σ H s->RelV x v->RelV y u->r x y H Q->
  wpAny (model X.prog X.w) X.A (f v u) (EP X aa σ Q) X.xe s
def O1(X:Cx)(f:Value->Sem Value)(r:V->Hp->VK->Prop):Prop:=
 ∀(aa:List (Addr×Obj)) (s:Shared) (σ:St) (H:Hp) (x:V) (v:Value) (Q:VK),Inv X aa σ H s->RelV x v->r x H Q->
  wpAny (model X.prog X.w) X.A (f v) (EP X aa σ Q) X.xe s
def cD(X:Cx)(f:Value)(r:List V->Hp->VK->Prop):Prop:=
 ∀(aa:List (Addr×Obj)) (s:Shared) (σ:St) (H:Hp) (xs:List V) (us:List Value) (Q:VK),Inv X aa σ H s->Vals xs us->r xs H Q->
  wpAny (model X.prog X.w) X.A (call f us) (EP X aa σ Q) X.xe s
noncomputable def Lu(r:R2)(ta tb:TE):TE:=λσ H Q=>ta σ H λx H1=>tb σ H1 λy H2=>r x y H2 Q
def UD(r:V->Hp->VK->Prop)(ta:TE):TE:=λσ H Q=>ta σ H λx H1=>r x H1 Q
noncomputable def rI(C:Int->Int->Prop)(g:Int->Int->V):R2:=λx y H Q=>∃i j,x=.int i/\y=.int j/\C i j/\Q (g i j) H
noncomputable def GZ(g:Int->Int->V):R2:=λx y H Q=>∃i j,x=.int i/\y=.int j/\Q (g i j) H
def rU(g:Int->V):V->Hp->VK->Prop:=λx H Q=>∃i,x=.int i/\Q (g i) H
section
variable{X:Cx}{a b:Expr}{ta tb:TE}{pos:Pos}
theorem Jr(ha:PE X a ta)(hb:PE X b tb){aa:List (Addr×Obj)}{s:Shared}{σ:St}{H:Hp}{R:V->V->Hp->Prop}(I:Inv X aa σ H s)
 (h:ta σ H λx H1=>tb σ H1 λy H2=>R x y H2) {Q:Value->Shared->Prop} {f:Value->Value->Sem Value}
 (hf:∀v u s2 x y H2,Inv X aa σ H2 s2->RelV x v->RelV y u->R x y H2->wpAny (model X.prog X.w) X.A (f v u) Q X.xe s2):
 wpAny (model X.prog X.w) X.A (eval a X.env) (λv s₁=>wpAny (model X.prog X.w) X.A (eval b X.env) (λu s₂=>wpAny (model X.prog X.w) X.A (f v u) Q X.xe s₂) X.xe s₁) X.xe s:=by
 refine bR (ha aa s σ H _ I h) λv s1 ⟨x,H1,I1,r1,q1⟩=>?_
 refine bR (hb aa s1 σ H1 _ I1 q1) λu s2 ⟨y,H2,I2,r2,q2⟩=>?_
 exact hf v u s2 x y H2 I2 r1 r2 q2
theorem NF{op:Operator}{r:R2}(ho:gu X (binaryOp op) r)(ha:PE X a ta)(hb:PE X b tb):PE X (.BinOp a op b pos) (Lu r ta tb):=by
 intro aa s σ H Q I h;exact wpAny_BinOp (Jr ha hb I h λv u s2 x y H2 I2 rx ry q=>ho aa s2 σ H2 x y v u Q I2 rx ry q)
theorem NK{op:UnaryOp}{r:V->Hp->VK->Prop}(ho:O1 X (unaryOp op) r)(ha:PE X a ta):PE X (.UnaryOp op a pos) (UD r ta):=by
 intro aa s σ H Q I h;exact UnaryOp_ (bR (ha aa s σ H _ I h) λv s1 ⟨x,H1,I1,r1,q1⟩=>ho aa s1 σ H1 x v Q I1 r1 q1)
theorem PZ{f:Value->Value->Sem Value}{C:Int->Int->Prop}{g:Int->Int->Int}
 (rule:∀(i j:Int) (t u:Tok) (s:Shared) (Q:Value->Shared->Prop) (E:Value->Shared->Prop),C i j->Q (.int (g i j) s.toks) {s with toks:=s.toks+1}->wpAny (model X.prog X.w) X.A (f (.int i t) (.int j u)) Q E s):
 gu X f (rI C λi j=>.int (g i j)):=by
 intro aa s σ H x y v u Q I rx ry h;obtain⟨i,j,rfl,rfl,hc,q⟩:=h
 obtain⟨t,rfl⟩:=rx
 obtain⟨t',rfl⟩:=ry
 exact rule i j t t' s _ _ hc ⟨.int (g i j),H,I.tok _,⟨_,rfl⟩,q⟩
theorem My{f:Value->Value->Sem Value}{g:Int->Int->Int}
 (rule:∀(i j:Int) (t u:Tok) (s:Shared) (Q:Value->Shared->Prop) (E:Value->Shared->Prop),Q (.int (g i j) s.toks) {s with toks:=s.toks+1}->wpAny (model X.prog X.w) X.A (f (.int i t) (.int j u)) Q E s):
 gu X f (GZ λi j=>.int (g i j)):=by
 intro aa s σ H x y v u Q I rx ry h;obtain⟨i,j,rfl,rfl,q⟩:=h
 obtain⟨t,rfl⟩:=rx
 obtain⟨t',rfl⟩:=ry
 exact rule i j t t' s _ _ ⟨.int (g i j),H,I.tok _,⟨_,rfl⟩,q⟩
theorem DY{f:Value->Value->Sem Value}{g:Int->Int->Bool}
 (rule:∀(i j:Int) (t u:Tok) (s:Shared) (Q:Value->Shared->Prop) (E:Value->Shared->Prop),Q (.bool (g i j)) s->wpAny (model X.prog X.w) X.A (f (.int i t) (.int j u)) Q E s):
 gu X f (GZ λi j=>.bl (g i j)):=by
 intro aa s σ H x y v u Q I rx ry h;obtain⟨i,j,rfl,rfl,q⟩:=h
 obtain⟨t,rfl⟩:=rx
 obtain⟨t',rfl⟩:=ry
 exact rule i j t t' s _ _ ⟨.bl (g i j),H,I,rfl,q⟩
def QD(i j:Int):Prop:=0<j/\j<1073741824
def JI(i j:Int):Prop:=(-(2^64)<i/\i<2^64)\/(-(2^64)<j/\j<2^64)
theorem JI.ok{i j:Int}(h:JI i j):IntMulOk i j:=by
 rcases h with⟨h1,h2⟩|⟨h1,h2⟩
 ·exact .of_left (intBits_le_64 h1 h2)
 ·exact .of_right (intBits_le_64 h1 h2)
theorem Lg:gu X (binaryOp .Add) (GZ λi j=>.int (i+j)):=My λ_ _ _ _ _ _ _ q=>add_int q
theorem ID:gu X (binaryOp .Sub) (GZ λi j=>.int (i-j)):=My λ_ _ _ _ _ _ _ q=>sub_int q
theorem Ju:gu X (binaryOp .Mult) (rI JI λi j=>.int (i*j)):=PZ λ_ _ _ _ _ _ _ hc q=>mul_int q hc.ok
theorem Ej:gu X (binaryOp .FloorDiv) (rI QD λi j=>.int (i/j)):=PZ λi j _ _ _ _ _ hc q=>by
 have h1:(0:Int)<j:=hc.1
 have h2:j<1073741824:=hc.2
 exact floordiv_int (by omega) (by rw [Int.fdiv_eq_ediv_of_nonneg i (by omega)];exact q) (.inl (PyProof.noPylong_small (by omega)))
theorem HV:gu X (binaryOp .Mod) (rI (λ_ j=>0<j) λi j=>.int (i%j)):=PZ λi j _ _ _ _ _ hc q=>by
 have h1:(0:Int)<j:=hc
 exact mod_int' (by omega) (by rw [Int.fmod_eq_emod_of_nonneg i (by omega)];exact q)
theorem US{f:Value->Sem Value}{g:Int->Int}
 (rule:∀(i:Int) (t:Tok) (s:Shared) (Q:Value->Shared->Prop) (E:Value->Shared->Prop),Q (.int (g i) s.toks) {s with toks:=s.toks+1}->wpAny (model X.prog X.w) X.A (f (.int i t)) Q E s):
 O1 X f (rU λi=>.int (g i)):=by
 intro aa s σ H x v Q I rx h;obtain⟨i,rfl,q⟩:=h
 obtain⟨t,rfl⟩:=rx
 exact rule i t s _ _ ⟨.int (g i),H,I.tok _,⟨_,rfl⟩,q⟩
theorem JF:O1 X (unaryOp .USub) (rU λi=>.int (-i)):=US λ_ _ _ _ _ q=>neg_int q
end
section
variable{X:Cx}{a b c:Expr}{ta tb tc:TE}{pos:Pos}
theorem AG{aa:List (Addr×Obj)}{σ:St}{H:Hp}{s:Shared}{Q:VK}{k k':Bool}(I:Inv X aa σ H s)(q:Q (.bl k) H)(e:k=k'):EP X aa σ Q (.bool k') s:=by
 subst e;exact⟨.bl k,H,I,rfl,q⟩
theorem Nq:gu X (compareOp .Lt) (GZ λi j=>.bl (decide (i<j))):=DY λ_ _ _ _ _ _ _ q=>lt_int q
theorem Nx:gu X (compareOp .LtE) (GZ λi j=>.bl (decide (i<=j))):=DY λ_ _ _ _ _ _ _ q=>le_int q
theorem N0:gu X (compareOp .Gt) (GZ λi j=>.bl (decide (j<i))):=DY λ_ _ _ _ _ _ _ q=>gt_int q
theorem N7:gu X (compareOp .GtE) (GZ λi j=>.bl (decide (j<=i))):=DY λ_ _ _ _ _ _ _ q=>ge_int q
theorem HJ:gu X (compareOp .Is) (λx y H Q=>y=.az/\Q (.bl (decide (x=.az))) H):=by
 intro aa s σ H x y v u Q I rx ry h;obtain⟨rfl,q⟩:=h
 cases ry;refine is_none_gen (AG I q ?_);cases x<;>first
  |(cases rx;rfl)
  |(obtain⟨t,rfl⟩:=rx;rfl)
theorem Gi:gu X (compareOp .IsNot) (λx y H Q=>y=.az/\Q (.bl (!decide (x=.az))) H):=by
 intro aa s σ H x y v u Q I rx ry h;obtain⟨rfl,q⟩:=h
 cases ry;refine isnot_none_gen (AG I q ?_);cases x<;>first
  |(cases rx;rfl)
  |(obtain⟨t,rfl⟩:=rx;rfl)
theorem QO(b:Expr){op:CmpOp}(h:op≠.In:=by decide)(h2:op≠.NotIn:=by decide):behindInMarks op b=false:=by
 have e1:(op==CmpOp.In)=false:=by cases op<;>first|rfl|exact absurd rfl h
 have e2:(op==CmpOp.NotIn)=false:=by cases op<;>first|rfl|exact absurd rfl h2
 cases b<;>simp [behindInMarks,e1,e2]
theorem Du{op:CmpOp}{r:R2}(ho:gu X (compareOp op) r)(ha:PE X a ta)(hb:PE X b tb)(hm:behindInMarks op b=false):PE X (.Compare a [op] [b] pos) (Lu r ta tb):=by
 intro aa s σ H Q I h;exact wpAny_Compare1 (Jr ha hb I h λv u s2 x y H2 I2 rx ry q=>ho aa s2 σ H2 x y v u Q I2 rx ry q) hm
def Cm(t:TE):TT:=λσ H Q=>t σ H λx H'=>∃k,x=.bl k/\Q k H'
theorem Fd{op:CmpOp}{r:R2}(ho:gu X (compareOp op) r)(ha:PE X a ta)(hb:PE X b tb)(hm:behindInMarks op b=false):PT X (.Compare a [op] [b] pos) (Cm (Lu r ta tb)):=by
 intro aa s σ H Q I h;refine wpAny_isTrue_Compare1 (bR (ha aa s σ H _ I h) λv s1 ⟨x,H1,I1,r1,q1⟩=>bR (hb aa s1 σ H1 _ I1 q1) λu s2 ⟨y,H2,I2,r2,q2⟩=>
  bR (ho aa s2 σ H2 x y v u _ I2 r1 r2 q2) λc s3 ⟨z,H3,I3,r3,k,e,q3⟩=>?_) hm
 subst e;cases r3;exact wpAny_truthy_bool ⟨H3,I3,q3⟩
noncomputable def uW(r r':R2)(ta tb tc:TE):TE:=λσ H Q=>ta σ H λx H1=>tb σ H1 λy H2=>r x y H2 λz H3=>∃k,z=.bl k/\
 (if k=true then tc σ H3 λw' H4=>r' y w' H4 Q else Q (.bl false) H3)
theorem zE{op HZ:CmpOp}{r r':R2}(ho:gu X (compareOp op) r)(jr:gu X (compareOp HZ) r')(ha:PE X a ta)(hb:PE X b tb)(hc:PE X c tc)
 (hm:lastMarks [op,HZ] [b,c]=false:=by with_unfolding_all rfl):PE X (.Compare a [op,HZ] [b,c] pos) (uW r r' ta tb tc):=by
 intro aa s σ H Q I h;refine Compare_chain (bR (ha aa s σ H _ I h) λv s1 ⟨x,H1,I1,r1,q1⟩=>chain_link (bR (hb aa s1 σ H1 _ I1 q1) λu s2 ⟨y,H2,I2,r2,q2⟩=>
  bR (ho aa s2 σ H2 x y v u _ I2 r1 r2 q2) λd s3 ⟨z,H3,I3,r3,k,e,q3⟩=>?_)) hm
 subst e;cases r3;refine wpAny_truthy_bool ?_;cases k with
 |false=>exact ite_ff ⟨.bl false,H3,I3,rfl,q3⟩
 |true=>exact ite_tt (chain_last (bR (hc aa s3 σ H3 _ I3 q3) λw' s4 ⟨z',H4,I4,r4,q4⟩=>jr aa s4 σ H4 y z' u w' Q I4 r2 r4 q4))
theorem BK{op HZ:CmpOp}{r r':R2}(ho:gu X (compareOp op) r)(jr:gu X (compareOp HZ) r')(ha:PE X a ta)(hb:PE X b tb)(hc:PE X c tc)
 (hm:lastMarks [op,HZ] [b,c]=false:=by with_unfolding_all rfl):PT X (.Compare a [op,HZ] [b,c] pos) (Cm (uW r r' ta tb tc)):=by
 intro aa s σ H Q I h;refine isTrue_chain (bR (ha aa s σ H _ I h) λv s1 ⟨x,H1,I1,r1,q1⟩=>test_link (bR (hb aa s1 σ H1 _ I1 q1) λu s2 ⟨y,H2,I2,r2,q2⟩=>
  bR (ho aa s2 σ H2 x y v u _ I2 r1 r2 q2) λd s3 ⟨z,H3,I3,r3,k,e,q3⟩=>?_)) hm
 subst e;cases r3;refine wpAny_truthy_bool ?_;cases k with
 |false=>
  obtain⟨k',e',q'⟩:=q3
  cases e';exact ite_ff ⟨H3,I3,q'⟩
 |true=>
  refine ite_tt (test_last (bR (hc aa s3 σ H3 _ I3 q3) λw' s4 ⟨z',H4,I4,r4,q4⟩=>bR (jr aa s4 σ H4 y z' u w' _ I4 r2 r4 q4) λd' s5 ⟨z2,H5,I5,r5,k2,e2,q5⟩=>?_))
  subst e2;cases r5;exact wpAny_truthy_bool ⟨H5,I5,q5⟩
theorem lG:(sizeLine:Nat)<2^63:=by rw [sizeLine_eq];decide
theorem vb:gu X (binaryOp .Add) (λx y H Q=>∃i j,x=.str i/\y=.str j/\i.length+j.length<=sizeLine/\Q (.str (i++j)) H):=by
 intro aa s σ H x y v u Q I rx ry h;obtain⟨i,j,rfl,rfl,hz,q⟩:=h
 obtain⟨t,rfl⟩:=rx
 obtain⟨t',rfl⟩:=ry
 exact add_str (λt' tk=>⟨.str (i++j),H,I.tok _,⟨_,rfl⟩,q⟩) hz
theorem vals1{x:V}{us:List Value}(r:Vals [x] us):∃u,us=[u]/\RelV x u:=by
 cases r with
 |cons r1 r2=>cases r2;exact⟨_,rfl,r1⟩
theorem vals2{x y:V}{us:List Value}(r:Vals [x,y] us):∃u w',us=[u,w']/\RelV x u/\RelV y w':=by
 cases r with
 |cons r1 r2=>
  cases r2 with
  |cons r3 r4=>cases r4;exact⟨_,_,rfl,r1,r3⟩
theorem BY:cD X (.builtin "abs") (λxs H Q=>∃i,xs=[.int i]/\Q (.int (if i<0 then -i else i)) H):=by
 intro aa s σ H xs us Q I r h;obtain⟨i,rfl,q⟩:=h
 obtain⟨u,rfl,t,rfl⟩:=vals1 r
 exact call_abs_int λu tk=>⟨.int (if i<0 then -i else i),H,I.tok _,⟨_,rfl⟩,q⟩
theorem zd(hc:X.calm=true):cD X (.builtin "max") (λxs H Q=>∃i j,xs=[.int i,.int j]/\Q (.int (if j>i then j else i)) H):=by
 intro aa s σ H xs us Q I r h;obtain⟨i,j,rfl,q⟩:=h
 obtain⟨u,w',rfl,⟨t,rfl⟩,⟨t',rfl⟩⟩:=vals2 r
 refine max_two_ints (I.ok.hd hc) λh' tk k=>⟨_,H,I.kept k,?_,q⟩
 by_cases hj:j>i
 ·rw [if_pos hj,if_pos hj];exact⟨_,rfl⟩
 ·rw [if_neg hj,if_neg hj];exact⟨_,rfl⟩
theorem qw:cD X (.type "str") (λxs H Q=>∃i,xs=[.int i]/\i.natAbs.log2<1920/\Q (.str (toString i)) H):=by
 intro aa s σ H xs us Q I r h;obtain⟨i,rfl,hz,q⟩:=h
 obtain⟨u,rfl,t,rfl⟩:=vals1 r
 exact PySem.P.str_of_int hz ⟨.str _,H,I.tok _,⟨_,rfl⟩,q⟩
end
theorem kD.some_of{v:V}{o:Option Value}(r:kD (some v) o):∃u,o=some u/\RelV v u:=by
 cases o with
 |none=>exact(show False from r).elim
 |some u=>exact⟨u,rfl,r⟩
structure dS(k:Nat)(A:Around):Prop where
 hd:A.handled=none
 dp:A.depth+3*k+5<recursionLimit
 un:A.units+16*k+200<cLine
theorem dS.mono{j k:Nat}{A:Around}(r:dS k A)(h:j<=k):dS j A:=⟨r.hd,by have:=r.dp;omega,by have:=r.un;omega⟩
theorem dS.deeper{k:Nat}{A:Around}(r:dS (k+1) A)(env:Env):dS k (A.deeper env):=
 ⟨r.hd,by have:=r.dp;show A.depth+1+3*k+5<_;omega,by have:=r.un;show A.units+3+16*k+200<_;omega⟩
theorem dS.in1{k:Nat}{A:Around}(r:dS (k+1) A):dS k A.in1:=
 ⟨r.hd,by have:=r.dp;show A.depth+3*k+5<_;omega,by have:=r.un;show A.units+1+16*k+200<_;omega⟩
theorem dS.depth{k:Nat}{A:Around}(r:dS k A):A.depth<recursionLimit:=by have:=r.dp;omega
theorem dS.units{k:Nat}{A:Around}(r:dS k A):A.units+64<cLine:=by have:=r.un;omega
def QT:TA:=λ_ H Q=>Q [] H
def NW(ta:TE)(tr:TA):TA:=λσ H Q=>ta σ H λx H1=>tr σ H1 λxs H2=>Q (x::xs) H2
section
variable{X:Cx}{e:Expr}{es:List Expr}{te:TE}{t:TA}{pos:Pos}
theorem dD:PA X [] QT:=λ_ _ _ _ H Q I h=>Calls.spliced_nil ⟨[],H,I,.nil,h⟩
theorem bM(ha:PE X e te)(hr:PA X es t)(hs:starEach (e::es) X.env=(false,eval e X.env)::starEach es X.env:=by rfl):PA X (e::es) (NW te t):=by
 intro pos aa s σ H Q I h;rw [hs];show wpAny _ _ (spliced ((false,eval e X.env)::backTo pos (starEach es X.env))) _ _ s;refine Calls.spliced_cons (bR (ha aa s σ H _ I h) λu s1 ⟨x,H1,I1,r1,q1⟩=>?_)
 exact bR (hr pos aa s1 σ H1 _ I1 q1) λus s2 ⟨xs,H2,I2,r2,q2⟩=>⟨x::xs,H2,I2,.cons r1 r2,q2⟩
def QY(t:TA):TE:=λσ H Q=>t σ H λxs H1=>xs.length<=sizeLine/\∀p,H1 p=none->Q (.ref p) (upd H1 p (.tup xs))
def Pl(t:TA):TE:=λσ H Q=>t σ H λxs H1=>xs.length<=sizeLine/\∀p,H1 p=none->Q (.ref p) (upd H1 p (.lst xs))
theorem Ir{x1}(h:PA X es t):PE X (.Tuple es x1 pos) (QY t):=by
 intro aa s σ H Q I hq;refine wpAny_Tuple_spliced (bR (h pos aa s σ H _ I hq) λus s1 ⟨xs,H1,I1,r,z,q⟩=>⟨by rw [<-r.length];exact z,?_⟩)
 have hf:H1 s1.heap.objs.size=none:=I1.aQ.fresh (zzE _)
 refine⟨.ref s1.heap.objs.size,upd H1 s1.heap.objs.size (.tup xs),I1.laid (t':=s1.toks) (λb u e=>zzB _ e) (zzE _) ?_,rfl,q _ hf⟩;exact⟨z,us,r,⟨_,zzX _ rfl,rfl,_,rfl⟩⟩
theorem Jw(h:PA X es t):PE X (.List es pos) (Pl t):=by
 intro aa s σ H Q I hq;refine wpAny_List_spliced (bR (h pos aa s σ H _ I hq) λus s1 ⟨xs,H1,I1,r,z,q⟩=>⟨by rw [<-r.length];exact z,?_⟩)
 have hf:H1 s1.heap.objs.size=none:=I1.aQ.fresh (zzE _)
 refine⟨.ref s1.heap.objs.size,upd H1 s1.heap.objs.size (.lst xs),I1.laid (t':=s1.toks) (λb u e=>zzB _ e) (zzE _) ?_,rfl,q _ hf⟩;exact⟨z,us,0,r,zzX _ rfl⟩
end
abbrev Sp:=List V->Hp->VK->XK->Prop
abbrev zt:=List Env->Hp->Shared->XK->Value->Shared->Prop
structure i4(P:Program)(w:World)(K:PySem.W.Frag)(mg:Str->Option Value)(base:Heap)(A:Around)(outer:List Env)(s:Shared)(H:Hp):Prop where
 frames:A.frames=some outer
 mod:Mod K mg base
 bs:∀b o,base.get? b=some o->s.heap.get? b=some o/\H b=none
 ud:base.objs.size<=s.heap.objs.size
 fV:s.heap.FunFrames base outer
 tW:∀b∈en outer,H b=none
 aQ:eh P w H s.heap
 bare:AllBare s.gens
def CE(outer:List Env)(P:Program)(w:World)(H:Hp)(s:Shared)(Q:VK)(u:Value)(s':Shared):Prop:=
 ∃v H',s'.os=s.os/\AllBare s'.gens/\Un (en outer) [] H H' s.heap s'.heap/\eh P w H' s'.heap/\RelV v u/\Q v H'
def CR(CX:zt)(outer:List Env)(P:Program)(w:World)(H:Hp)(s:Shared)(Q:VK)(E:XK)(r:Result)(s':Shared):Prop:=
 match r with
 |.ok (.ret u)=>CE outer P w H s Q u s'
 |.ok _=>False
 |.error e=>CX outer H s E e s'
structure gN(P:Program)(w:World)(K:PySem.W.Frag)(mg:Str->Option Value)(base:Heap)(CX:zt)(k:Nat)(f:Addr)(fd:FuncData)(ps:List Str)(sp:Sp):Prop where
 len:∀vs H Q E,sp vs H Q E->vs.length=ps.length
 run:∀(A:Around) (outer:List Env) (s:Shared) (H:Hp) (args:Args) (us:List Value) (vs:List V) (Q:VK) (E:XK),dS k A->i4 P w K mg base A outer s H->BindsTo s fd args (ps.zip us)->Vals vs us->sp vs H Q E->
  codeAny (model P w) A (.call (.ref f) args) (CR CX outer P w H s Q E) s
theorem gN.mono{P:Program}{w:World}{K:PySem.W.Frag}{mg:Str->Option Value}{base:Heap}{CX:zt}{j k:Nat}{f:Addr}{fd:FuncData}{ps:List Str}{sp:Sp}(F:gN P w K mg base CX j f fd ps sp)(h:j<=k):
 gN P w K mg base CX k f fd ps sp:=⟨F.len,λA outer s H args us vs Q E hr=>F.run A outer s H args us vs Q E (hr.mono h)⟩
theorem gN.imp{P:Program}{w:World}{K:PySem.W.Frag}{mg:Str->Option Value}{base:Heap}{CX:zt}{k:Nat}{f:Addr}{fd:FuncData}{ps:List Str}{sp RM:Sp}(F:gN P w K mg base CX k f fd ps sp)
 (h:∀vs H Q E,RM vs H Q E->sp vs H Q E):gN P w K mg base CX k f fd ps RM:=
 ⟨λvs H Q E q=>F.len vs H Q E (h _ _ _ _ q),λA outer s H args us vs Q E hr he hb hv hs=>F.run A outer s H args us vs Q E hr he hb hv (h _ _ _ _ hs)⟩
theorem i4.in1{P:Program}{w:World}{K:PySem.W.Frag}{mg:Str->Option Value}{base:Heap}{A:Around}{outer:List Env}{s:Shared}{H:Hp}(e:i4 P w K mg base A outer s H):
 i4 P w K mg base A.in1 outer s H:=⟨e.frames,e.mod,e.bs,e.ud,e.fV,e.tW,e.aQ,e.bare⟩
section
variable{X:Cx}{aa:List (Addr×Obj)}{σ:St}{H:Hp}{s s':Shared}
theorem Inv.xW(I:Inv X aa σ H s):i4 X.prog X.w X.K X.mg X.base X.A X.stack s H:=
 ⟨I.ok.frames,I.ok.mod,I.bs,zzU I.ok.ud I.sz,I.stack,I.kO,I.aQ,I.bare⟩
theorem Inv.after{Q:VK}{u:Value}(I:Inv X aa σ H s)(h:CE X.stack X.prog X.w H s Q u s'):EP X aa σ Q u s':=by
 obtain⟨v,H',os,bare,un,aQ,r,q⟩:=h
 obtain⟨hh,g,d,t,os'⟩:=s'
 obtain rfl:os'=s.os:=os
 exact⟨v,H',I.call (h':=hh) (g':=g) (d':=d) (t':=t) (ch:=[]) un aQ bare (λb z=>absurd z (by simp)),r,q⟩
end
def Binds(K:PySem.W.Frag)(fd:FuncData)(ps:List Str)(ds:List Value):Prop:=
 ∀(s:Shared) (us:List Value),K.In s.heap->(us++ds).length=ps.length->BindsTo s fd ⟨us,[]⟩ (ps.zip (us++ds))
theorem Binds.all{K:PySem.W.Frag}{fd:FuncData}{ps:List Str}(h:∀us:List Value,us.length=ps.length->bindArgs fd ⟨us,[]⟩=pure (ps.zip us)):Binds K fd ps []:=λs us _ hl=>by
 rw [List.append_nil] at hl⊢;exact .of_eq (h us hl)
def Passes(CX:zt)(X:Cx)(E:XK):Prop:=∀(aa:List (Addr×Obj)) (σ:St) (H:Hp) (s:Shared) (e:Value) (s':Shared),Inv X aa σ H s->CX X.stack H s E e s'->X.xe e s'
structure kU(N P:List Str)(sc:Scope):Prop where
 kind:sc.kind=.function
 co:sc.isCoroutine=false
 gen:sc.isGenerator=false
 nd:N.Nodup
 pre:N.take P.length=P
 par:∀x∈P,sc.names.lookup x=some .local\/sc.names.lookup x=some .cell
 Kw:∀y∈sc.names,y.2≠.free
theorem oE{kindOf:Str->Option NameKind}{x:Str}:∀{binds:List (Str×Value)} {m:Str->Option Value},(∀v,(x,v)∉binds)->bindL kindOf binds m x=m x
 |[],_,_=>rfl
 |(n,v)::r,m,h=>by
  unfold bindL;rw [oE λw hw=>h w (zzI _ hw)]
  split
  ·have:x≠n:=by rintro rfl;exact h v zzP
   simp [this]
  ·rfl
theorem oN{kindOf:Str->Option NameKind}{x:Str}:∀{binds:List (Str×Value)} {m:Str->Option Value},(∀v,(x,v)∉binds)->bindC kindOf binds m x=m x
 |[],_,_=>rfl
 |(n,v)::r,m,h=>by
  unfold bindC;rw [oN λw hw=>h w (zzI _ hw)]
  split
  ·rfl
  ·have:x≠n:=by rintro rfl;exact h v zzP
   simp [this]
theorem og{kindOf:Str->Option NameKind}{x:Str}{v:Value}:∀{P:List Str} {vs:List Value} {i:Nat} {m:Str->Option Value},P.Nodup->P[i]?=some x->vs[i]?=some v->kindOf x=some .local->
 bindL kindOf (P.zip vs) m x=some v
 |[],_,_,_,_,h,_,_=>by simp at h
 |_::_,[],_,_,_,_,h,_=>by simp at h
 |p::P,w::vs,0,m,nd,h1,h2,hk=>by
  simp at h1 h2;subst h1;subst h2;show bindL kindOf ((p,w)::P.zip vs) m p=_
  unfold bindL;rw [oE λv hv=>(List.nodup_cons.mp nd).1 (List.of_mem_zip hv).1,if_pos hk]
  simp
 |p::P,w::vs,i+1,m,nd,h1,h2,hk=>by
  show bindL kindOf ((p,w)::P.zip vs) m x=_
  unfold bindL;exact og (i:=i) (List.nodup_cons.mp nd).2 (by simpa using h1) (by simpa using h2) hk
theorem nU{kindOf:Str->Option NameKind}{x:Str}{v:Value}:∀{P:List Str} {vs:List Value} {i:Nat} {m:Str->Option Value},P.Nodup->P[i]?=some x->vs[i]?=some v->kindOf x≠some .local->
 bindC kindOf (P.zip vs) m x=some v
 |[],_,_,_,_,h,_,_=>by simp at h
 |_::_,[],_,_,_,_,h,_=>by simp at h
 |p::P,w::vs,0,m,nd,h1,h2,hk=>by
  simp at h1 h2;subst h1;subst h2;show bindC kindOf ((p,w)::P.zip vs) m p=_
  unfold bindC;rw [oN λv hv=>(List.nodup_cons.mp nd).1 (List.of_mem_zip hv).1,if_neg hk]
  simp
 |p::P,w::vs,i+1,m,nd,h1,h2,hk=>by
  show bindC kindOf ((p,w)::P.zip vs) m x=_
  unfold bindC;exact nU (i:=i) (List.nodup_cons.mp nd).2 (by simpa using h1) (by simpa using h2) hk
def start(N:List Str)(vs:List V):St:=vs.map some++List.replicate (N.length-vs.length) none
noncomputable def dX(CX:zt)(P:Program)(w:World)(K:PySem.W.Frag)(mg:Str->Option Value)(base:Heap)(N:List Str)(qual:Str)(scope:Scope)(f:Addr)(cd:Value)(A:Around)(outer:List Env)(s:Shared)(H:Hp)(E:XK):Cx where
 prog:=P
 w:=w
 K:=K
 mg:=mg
 base:=base
 A:=A.deeper (envOfC qual scope s.heap.objs.size f cd)
 N:=N
 s₀:=s
 H₀:=H
 env:=envOfC qual scope s.heap.objs.size f cd
 outer:=outer
 stack:=envOfC qual scope s.heap.objs.size f cd::outer
 ex:=[]
 calm:=true
 fn:=λ_=>true
 pn:=[]
 xe:=λe s'=>wpAny (model P w) (A.deeper (envOfC qual scope s.heap.objs.size f cd)) (leaving (envOfC qual scope s.heap.objs.size f cd) e) (λ_ FW=>CX outer H s E e FW) (λe' FW=>CX outer H s E e' FW) s'
theorem rO{sc:Scope}{n:Nat}{x:Str}(h:sc.names.lookup x=some .cell):∃c,(cellsFrom n sc.names []).lookup x=some c:=by
 have q:=PySem.W.cellsFrom_some sc.names n [] (.inl h)
 exact Option.isSome_iff_exists.mp q
theorem xR{CX:zt}{P:Program}{w:World}{K:PySem.W.Frag}{mg:Str->Option Value}{base:Heap}{N ps:List Str}{qual:Str}{scope:Scope}{f:Addr}{cd:Value}{A:Around}{outer:List Env}{s s1:Shared}{H:Hp}{E:XK}{us:List Value}{vs:List V}
 (S:kU N ps scope) (hd:A.handled=none) (e0:i4 P w K mg base A outer s H) (hl:vs.length=ps.length) (r:Vals vs us)
 (x:InCallC s s.heap.objs.size (bindL (envOfC qual scope s.heap.objs.size f cd).kindOf (ps.zip us) λ_=>none) (cellsFrom (s.heap.objs.size+1) scope.names []) (bindC (envOfC qual scope s.heap.objs.size f cd).kindOf (ps.zip us) λ_=>none) s1):
 Inv (dX CX P w K mg base N qual scope f cd A outer s H E) [] (start N vs) H s1:=by
 have hpl:ps.length<=N.length:=by have:=congrArg List.length S.pre;rw [List.length_take] at this;omega
 obtain⟨h1,tk,rfl,hk⟩:=x.done
 have Dq:∀b:Addr,b∉(dX CX P w K mg base N qual scope f cd A outer s H E).ex:=λb z=>absurd (show b∈([]:List Addr) from z) (by simp)
 refine⟨⟨e0.mod,S.kind,rfl,rfl,zzE _,λy z c h1 h2=>?_,λy hy=>?_,λy c _ h=>?_,λ_=>hd,Around.frames_deeper e0.frames,.inr ⟨rfl,rfl⟩,λb z=>absurd z (Dq b),e0.bs,e0.ud,λb _ _=>Dq b,λb z=>absurd z (Dq b),e0.fV,e0.tW⟩,
  rfl,e0.bare,Un.kept hk,⟨_,x.toInCall.ns,λi y v h1 h2 h3=>?_⟩,λy c h=>⟨_,x.cell y c h⟩,e0.aQ.fresh (zzE _),λy c h=>?_,λp hp=>absurd (show p∈([]:List (Addr×Obj)) from hp) (by simp),e0.aQ.kept hk,?_⟩
 ·exact name_of_addr x.apart (PySem.mem_of_lookup h1) (PySem.mem_of_lookup h2)
 ·have hy:scope.names.lookup y=some .cell\/scope.names.lookup y=some .free:=hy
  rcases hy with hy|hy
  ·exact rO hy
  ·exact absurd rfl (S.Kw _ (PySem.mem_of_lookup hy))
 ·exact Nat.le_of_lt (x.above y c (PySem.mem_of_lookup h))
 ·have hi:i<vs.length:=by
   unfold start at h2
   by_cases hi:i<vs.length
   ·exact hi
   ·rw [List.getElem?_append_right (by simpa using hi)] at h2;rw [List.getElem?_replicate] at h2;split at h2<;>cases h2
  have ha:vs[i]?=some v:=by
   unfold start at h2;rw [List.getElem?_append_left (by simpa using hi),zzQ] at h2;cases e:vs[i]? with
   |none=>rw [e] at h2;cases h2
   |some a=>rw [e] at h2;cases h2;rfl
  obtain⟨u,hu,rv⟩:=r.get ha
  have hp:ps[i]?=some y:=by
   rw [<-S.pre,List.getElem?_take_of_lt (by omega)];exact h1
  have RT:ps.Nodup:=by rw [<-S.pre];exact S.nd.sublist (List.take_sublist _ _)
  refine⟨u,rv,?_⟩;rcases S.par y (zzD hp) with k|k
  ·exact .inl ⟨k,og RT hp hu k⟩
  ·obtain⟨c,e⟩:=rO (n:=s.heap.objs.size+1) k
   refine .inr ⟨.inl k,c,e,?_⟩;have q:=x.cell y c e
   rw [nU RT hp hu (by show scope.names.lookup y≠_;rw [k];decide)] at q;exact q
 ·exact e0.aQ.fresh (Nat.le_of_lt (x.above y c (PySem.mem_of_lookup h)))
 ·unfold start;show _=N.length
  rw [zzM,zzl,List.length_replicate];omega
theorem L8{CX:zt}{P:Program}{w:World}{K:PySem.W.Frag}{mg:Str->Option Value}{base:Heap}{k:Nat}{f:Addr}{name qual:Str}{params:Arguments}{body:List Stmt}{scope:Scope}{dV kV doc pm f7 ct oc:Value}{an od:Option Addr}
 {tP:Array (Option Value)} {N ps:List Str} {sp:Sp} (lk:K.lookup f=some ⟨oc,od,.func (PySem.W.fnOf name qual params body scope dV kV doc pm an f7 ct),tP⟩) (lj:PySem.W.codeIn K f7 qual=true) (S:kU N ps scope)
 (len:∀vs H Q E,sp vs H Q E->vs.length=ps.length)
 (Mn:∀(A:Around) (outer:List Env) (s:Shared) (H:Hp) (vs:List V) (Q:VK) (E:XK),dS k (A.deeper (envOfC qual scope s.heap.objs.size f f7))->sp vs H Q E->
  ∃t,qJ (dX CX P w K mg base N qual scope f f7 A outer s H E) body t/\t {nx:=λ_ H'=>Q .az H',rt:=Q} (start N vs) H):
 gN P w K mg base CX (k+1) f (PySem.W.fnOf name qual params body scope dV kV doc pm an f7 ct) ps sp:=by
 refine⟨len,λA outer s H args us vs Q E hr e0 hb r LL=>?_⟩
 have hl:=len _ _ _ _ LL
 have KX:K.In s.heap:=e0.mod.NP.keeps λb o e=>(e0.bs b o e).1
 have lim:s.heap.NoLimit:=e0.mod.nolimit.keeps λb o e=>(e0.bs b o e).1
 have MA:∀y∈ps.zip us,scope.names.lookup y.1=some .local\/(scope.names.lookup y.1=some .cell/\((cellsFrom (s.heap.objs.size+1) scope.names []).lookup y.1).isSome=true):=λ⟨n,v⟩ hy=>by
  rcases S.par n (List.of_mem_zip hy).1 with q|q
  ·exact .inl q
  ·exact .inr ⟨q,PySem.W.cellsFrom_some _ _ _ (.inl q)⟩
 refine codeAny_call_function hr.depth (KX _ _ lk) rfl S.co S.gen rfl (PySem.W.codeRec_of KX lj) (hb _ _ _ _ ?_);refine wpAny_newFunctionEnv_cells S.kind MA λenv he s1 x=>?_
 subst he;refine⟨lim.keeps x.toInCall.keep,codeAny_func ?_⟩;obtain⟨t,ht,hq⟩:=Mn A outer s H vs Q E (hr.deeper _) LL
 have I:Inv (dX CX P w K mg base N qual scope f f7 A outer s H E) [] (start N vs) H s1:=xR S hr.hd e0 hl r x
 refine wpAny_mono (ht [] s1 (start N vs) H _ I hq) (λfl s' hs=>?_) λe s' hs=>hs
 have fin:∀{σ':St} {H':Hp} {v:V} {u:Value},Inv (dX CX P w K mg base N qual scope f f7 A outer s H E) [] σ' H' s'->RelV v u->Q v H'->CE outer P w H s Q u s':=
  λ{σ' H' v u} J rv q=>⟨v,H',J.os,J.bare,J.base,J.aQ,rv,q⟩
 cases fl with
 |ret u=>
  obtain⟨v,σ',H',J,rv,q⟩:=hs
  exact fin J rv q
 |next=>
  obtain⟨σ',H',J,q⟩:=hs
  exact fin (v:=V.az) (u:=Value.none) J rfl q
 |brk=>
  obtain⟨_,_,_,q⟩:=hs
  exact False.elim q
 |cont=>
  obtain⟨_,_,_,q⟩:=hs
  exact False.elim q
section
variable{X:Cx}{x:Str}{p pos:Pos}{e:Expr}{es:List Expr}{t:TA}{id T:String}{r:List V->Hp->VK->Prop}
def Oq(r:List V->Hp->VK->Prop)(t:TA):TE:=λσ H Q=>t σ H λvs H1=>r vs H1 Q
theorem eR(hc:cD X (.builtin id) r)(hg:Gl X x)(hm:X.mg x=none)(hv:bootBuiltins x=some (.builtin id))(ha:PA X (e::es) t)(hn:x≠"__name__":=by decide)(Mu:(x==("__debug__":Str))=false:=by decide)
 (he:starEach (e::es) X.env=(false,eval e X.env)::starEach es X.env:=by rfl) (hpl:(backTo pos (starEach es X.env)).any (·.1)=false:=by rfl):PE X (.Call (.Name x p) (e::es) [] pos) (Oq r t):=by
 intro aa s σ H Q I h;refine wpAny_Call_Name_kw (fQ I hg hm hv ?_ hn Mu);exact PyProof.Rows.callWith_builtin1 (bR (ha pos aa s σ H _ I h) λus s1 ⟨vs,H1,I1,r1,q1⟩=>hc aa s1 σ H1 vs us Q I1 r1 q1) he hpl
theorem eg(hc:cD X (.type T) r)(hg:Gl X x)(hm:X.mg x=none)(hv:bootBuiltins x=some (.type T))(ha:PA X (e::es) t)(hn:x≠"__name__":=by decide)(Mu:(x==("__debug__":Str))=false:=by decide)
 (he:starEach (e::es) X.env=(false,eval e X.env)::starEach es X.env:=by rfl) (hpl:(backTo pos (starEach es X.env)).any (·.1)=false:=by rfl):PE X (.Call (.Name x p) (e::es) [] pos) (Oq r t):=by
 intro aa s σ H Q I h;refine wpAny_Call_Name_kw (fQ I hg hm hv ?_ hn Mu);exact PyProof.Rows.callWith_type1 (bR (ha pos aa s σ H _ I h) λus s1 ⟨vs,H1,I1,r1,q1⟩=>hc aa s1 σ H1 vs us Q I1 r1 q1) he hpl
end
end L2
namespace HT
open PySem PyProof.Rows
def lexLt:List Int->List Int->Bool
 |[],[]=>false
 |[],_::_=>true
 |_::_,[]=>false
 |x::xs,y::ys=>if x=y then lexLt xs ys else decide (x<y)
section
def oH(n d:Nat):Option Int->Nat
 |none=>d
 |some v=>if v<0 then(v+(n:Int)).toNat else min v.toNat n
theorem B6(n d:Nat):oH n d none=d:=rfl
theorem ER(n d k:Nat):oH n d (some (k:Int))=min k n:=by
 show(if(k:Int)<0 then((k:Int)+(n:Int)).toNat else min (k:Int).toNat n)=min k n
 rw [if_neg (by omega),Int.toNat_natCast]
end
end HT
namespace L2
open PySem PySem.Spec PyProof.Rows
abbrev TO:=St->Hp->(Option Int->Hp->Prop)->Prop
def PO(X:Cx)(e:Option Expr)(t:TO):Prop:=
 ∀(aa:List (Addr×Obj)) (s:Shared) (σ:St) (H:Hp) (Q:Option Int->Hp->Prop),Inv X aa σ H s->t σ H Q->
  wpAny (model X.prog X.w) X.A (evalPart e X.env) (λu s'=>∃o H',Inv X aa σ H' s'/\IsPart u o/\Q o H') X.xe s
def D1:TO:=λ_ H Q=>Q none H
def N5(t:TE):TO:=λσ H Q=>t σ H λx H1=>∃i,x=.int i/\Q (some i) H1
section
variable{X:Cx}{e:Expr}{te:TE}{lo hi:Option Expr}{tl th:TO}{pos p2:Pos}
theorem F5:PO X none D1:=by
 intro aa s σ H Q I h;rw [evalPart_none];exact zzG ⟨none,H,I,.none,h⟩
theorem Fo(h:PE X e te):PO X (some e) (N5 te):=by
 intro aa s σ H Q I hw;rw [evalPart_some];refine bR (h aa s σ H _ I hw) λu s1 ⟨x,H1,I1,r1,q1⟩=>?_
 obtain⟨i,rfl,q⟩:=q1
 obtain⟨t,rfl⟩:=r1
 exact⟨some i,H1,I1,.int i t,q⟩
def Gu(X:Cx)(r:V->Option Int->Option Int->Hp->VK->Prop):Prop:=
 ∀(aa:List (Addr×Obj)) (s:Shared) (σ:St) (H:Hp) (x:V) (v vl vu:Value) (lo hi:Option Int) (sl:Addr) (Q:VK),Inv X aa σ H s->RelV x v->s.heap.IsSliceOf sl vl vu .none->IsPart vl lo->IsPart vu hi->r x lo hi H Q->
  ∃T id,typeLookup (.type T) "__getitem__"=pure (some (.builtin id))/\s.TypeIs v T/\wpAny (model X.prog X.w) X.A (getItem v (.ref sl)) (EP X aa σ Q) X.xe s
def Uq(r:V->Option Int->Option Int->Hp->VK->Prop)(te:TE)(tl th:TO):TE:=λσ H Q=>te σ H λx H1=>tl σ H1 λl H2=>th σ H2 λu H3=>r x l u H3 Q
theorem Aj{r:V->Option Int->Option Int->Hp->VK->Prop}(hr:Gu X r)(he:PE X e te)(hl:PO X lo tl)(hu:PO X hi th):PE X (.Subscript e (.Slice lo hi none p2) pos) (Uq r te tl th):=by
 intro aa s σ H Q I h;refine Subscript_ (bR (he aa s σ H _ I h) λv s1 ⟨x,H1,I1,r1,q1⟩=>?_)
 refine wpAny_Slice (bR (hl aa s1 σ H1 _ I1 q1) λvl s2 ⟨l,H2,I2,pl,q2⟩=>bR (hu aa s2 σ H2 _ I2 q2) λvu s3 ⟨u,H3,I3,pu,q3⟩=>?_)
 rw [evalPart_none];refine zzG ?_;have I4:Inv X aa σ H3 {s3 with heap:=s3.heap.push {cls:=.type "slice",data:=.fields #[vl,vu,.none]}}:=I3.kept (t':=s3.toks) λb ob q=>zzB _ q
 obtain⟨T,id,hT,ht,hg⟩:=hr aa {s3 with heap:=s3.heap.push {cls:=.type "slice",data:=.fields #[vl,vu,.none]}} σ H3 x v vl vu l u s3.heap.objs.size Q I4 r1 (Heap.IsSliceOf.new ..) pl pu q3
 show wpAny (model X.prog X.w) X.A (subscriptTail e (.Slice lo hi none p2) v (.ref s3.heap.objs.size)) (EP X aa σ Q) X.xe {s3 with heap:=s3.heap.push {cls:=.type "slice",data:=.fields #[vl,vu,.none]}}
 exact tail_any (ops:=[.ref s3.heap.objs.size,v]) ht hT hg (by with_unfolding_all rfl)
def xY(xs:List V)(lo hi:Option Int):List V:=(xs.drop (HT.oH xs.length 0 lo)).take (HT.oH xs.length xs.length hi-HT.oH xs.length 0 lo)
theorem sR(xs:List V)(lo hi:Option Int):(xY xs lo hi).length<=xs.length:=by
 unfold xY;rw [List.length_take,List.length_drop];omega
end
def Hh(n:Nat)(i:Int):Option Nat:=if 0<=i then(if i<n then some i.toNat else none) else if -(n:Int)<=i then some (i+n).toNat else none
def pV{α:Type}(xs:List α)(i:Int):Option α:=(Hh xs.length i).bind λj=>xs[j]?
theorem DB{n:Nat}{i:Int}{j:Nat}(h:Hh n i=some j):seqIndex? i n=some j/\j<n/\ -(n:Int)<=i/\i<n:=by
 unfold Hh at h
 by_cases h0:0<=i
 ·rw [if_pos h0] at h
  by_cases h1:i<n
  ·rw [if_pos h1] at h;have e:i.toNat=j:=Option.some.inj h
   exact⟨by rw [seqIndex_of h0 h1,e],by omega,by omega,h1⟩
  ·rw [if_neg h1] at h;cases h
 ·rw [if_neg h0] at h
  by_cases h1: -(n:Int)<=i
  ·rw [if_pos h1] at h;have e:(i+n).toNat=j:=Option.some.inj h
   exact⟨by rw [seqIndex_neg (by omega) h1,e],by omega,h1,by omega⟩
  ·rw [if_neg h1] at h;cases h
theorem pN{α:Type}{xs:List α}{i:Int}{v:α}(h:pV xs i=some v):∃j,seqIndex? i xs.length=some j/\xs[j]?=some v/\j<xs.length/\ -(xs.length:Int)<=i/\i<xs.length:=by
 unfold pV at h;cases e:Hh xs.length i with
 |none=>rw [e] at h;cases h
 |some j=>
  rw [e] at h;obtain⟨h1,h2,h3,h4⟩:=DB e
  exact⟨j,h1,h,h2,h3,h4⟩
def o9(b:Expr):Prop:=∀o i,subscripted b false o i=operate [o,i] (getItem o i)
def Lq(X:Cx)(r:R2):Prop:=
 ∀(value slice:Expr) (aa:List (Addr×Obj)) (s:Shared) (σ:St) (H:Hp) (x y:V) (v u:Value) (Q:VK),Inv X aa σ H s->RelV x v->RelV y u->r x y H Q->
  subscripted slice false v u=operate [v,u] (getItem v u)->wpAny (model X.prog X.w) X.A (subscriptTail value slice v u) (EP X aa σ Q) X.xe s
def NC(X:Cx)(id:String)(r:V->List V->Hp->VK->Prop):Prop:=
 ∀(aa:List (Addr×Obj)) (s:Shared) (σ:St) (H:Hp) (x:V) (xs:List V) (v:Value) (us:List Value) (Q:VK),Inv X aa σ H s->RelV x v->Vals xs us->r x xs H Q->
  wpAny (model X.prog X.w) X.A (call (.builtin id) (v::us)) (EP X aa σ Q) X.xe s
section
variable{X:Cx}{a b:Expr}{ta tb:TE}{pos:Pos}
theorem Hu{r:R2}(hr:Lq X r)(ha:PE X a ta)(hb:PE X b tb)(hs:o9 b):PE X (.Subscript a b pos) (Lu r ta tb):=by
 intro aa s σ H Q I h;exact Subscript_ (Jr ha hb I h λv u s2 x y H2 I2 rx ry q=>hr a b aa s2 σ H2 x y v u Q I2 rx ry q (hs _ _))
noncomputable def O3(K:PySem.W.Frag):R2:=λx y H Q=>∃p xs i v,x=.ref p/\y=.int i/\gz K H p xs/\pV xs i=some v/\Q v H
noncomputable def Nb(K:PySem.W.Frag):R2:=λx y H Q=>∃p xs i v,x=.ref p/\y=.int i/\f6 K H p xs/\pV xs i=some v/\Q v H
noncomputable def QR:R2:=λx y H Q=>∃z i c,x=.str z/\y=.int i/\z.length<=sizeLine/\pV z.cps.toList i=some c/\Q (.str ⟨#[c]⟩) H
theorem EG:Lq X (O3 X.K):=by
 intro value slice aa s σ H x y v u Q I rx ry h hs;obtain⟨p,xs,i,z,rfl,rfl,hq,he,q⟩:=h
 cases rx;obtain⟨t,rfl⟩:=ry
 obtain⟨ay,r,pl,hz⟩:=I.list hq
 obtain⟨j,h1,h2,h3,h4,h5⟩:=pN he
 obtain⟨w,ew,iP⟩:=r.get h2
 have hl:=r.length
 have hn:=lG
 have fin:EP X aa σ Q w s:=⟨z,H,I,iP,q⟩
 by_cases h0:0<=i
 ·have hj:i.toNat=j:=by
   rw [seqIndex_of h0 h5] at h1;exact Option.some.inj h1
  exact item_listR pl.isList h0 (by omega) (by rw [hj];simpa using ew) fin hs
 ·have hj:(i+(ay.toArray.size:Int)).toNat=j:=by
   rw [seqIndex_neg (by omega) h4] at h1;rw [zzC,<-hl];exact Option.some.inj h1
  exact subscriptTail_builtinR (x:=w) pl.isList.typeIs slot_list_getitem.lookup
   (wpAny_getItem_list_neg (Q:=λr s'=>r=w/\EP X aa σ Q r s') pl.isList (by omega) (by rw [zzC]<;>omega) (by omega) (by rw [hj];simpa using ew) ⟨rfl,fin⟩) hs
theorem AD:Lq X (Nb X.K):=by
 intro value slice aa s σ H x y v u Q I rx ry h hs;obtain⟨p,xs,i,z,rfl,rfl,hq,he,q⟩:=h
 cases rx;obtain⟨t,rfl⟩:=ry
 obtain⟨ay,r,pl,hz⟩:=I.tuple hq
 obtain⟨j,h1,h2,h3,h4,h5⟩:=pN he
 obtain⟨w,ew,iP⟩:=r.get h2
 have hl:=r.length
 have hn:=lG
 have fin:EP X aa σ Q w s:=⟨z,H,I,iP,q⟩
 exact subscriptTail_builtinR (x:=w) pl.typeIs slot_tuple_getitem.lookup
  (getItem_tuple (j:=j) (Q:=λr s'=>r=w/\EP X aa σ Q r s') pl (by omega) (by omega) (by rw [zzC,<-hl];exact h1) (by simpa using ew) ⟨rfl,fin⟩) hs
theorem IV:Lq X QR:=by
 intro value slice aa s σ H x y v u Q I rx ry h hs;obtain⟨z,i,c,rfl,rfl,hz,he,q⟩:=h
 obtain⟨t,rfl⟩:=rx
 obtain⟨t',rfl⟩:=ry
 obtain⟨j,h1,h2,h3,h4,h5⟩:=pN he
 have hl:z.cps.toList.length=z.length:=by simp [Str.length]
 rw [hl] at h1 h4 h5;have hn:=lG
 exact tail_any (typeIs_str s z t) slot_str_getitem.lookup (getItem_str (c:=c) (by
  have e1:decide (i< -(2^63:Int))=false:=decide_eq_false (by omega)
  have e2:decide (i>=2^63)=false:=decide_eq_false (by omega)
  rw [e1,e2,Bool.or_false]) (by rw [h1];simpa using h2) ⟨.str ⟨#[c]⟩,H,I.tok _,⟨_,rfl⟩,q⟩) hs
theorem qC(lo hi:Option Int)(n:Nat):(sliceBounds lo hi none n).1=((HT.oH n 0 lo:Nat):Int)/\(sliceBounds lo hi none n).2.1=((HT.oH n n hi:Nat):Int)/\(sliceBounds lo hi none n).2.2=1:=by
 refine⟨?_,?_,rfl⟩
 ·cases lo with
  |none=>simp [sliceBounds,HT.oH]
  |some i=>
   simp only [sliceBounds,HT.oH,Option.getD_none,show(1:Int)>0 by decide,if_true]
   by_cases h:i<0
   ·simp only [h,if_true]<;>omega
   ·simp only [h,if_false]<;>omega
 ·cases hi with
  |none=>simp [sliceBounds,HT.oH]
  |some i=>
   simp only [sliceBounds,HT.oH,Option.getD_none,show(1:Int)>0 by decide,if_true]
   by_cases h:i<0
   ·simp only [h,if_true]<;>omega
   ·simp only [h,if_false]<;>omega
theorem nh(ay:List Value)(lo hi:Option Int):slicePick ay.toArray lo hi none=((ay.drop (HT.oH ay.length 0 lo)).take (HT.oH ay.length ay.length hi-HT.oH ay.length 0 lo)).toArray:=by
 obtain⟨h1,h2,h3⟩:=qC lo hi ay.toArray.size
 unfold slicePick;rw [h1,h2,h3];simp only [sliceRange_one,pick_run,zzC]<;>rfl
def Q5(K:PySem.W.Frag):V->Option Int->Option Int->Hp->VK->Prop:=λx lo hi H Q=>∃a xs,x=.ref a/\gz K H a xs/\∀p,H p=none->Q (.ref p) (upd H p (.lst (xY xs lo hi)))
theorem DI:Gu X (Q5 X.K):=by
 intro aa s σ H x v vl vu lo hi sl Q I rx hs pl pu h;obtain⟨a,xs,rfl,hx,q⟩:=h
 cases rx;obtain⟨ay,r,ht,hz⟩:=I.list hx
 have hlen:=r.length
 refine⟨"list",_,slot_list_getitem.lookup,ht.isList.typeIs,?_⟩;refine wpAny_getItem_list_slice ht.isList hs pl pu .none (by simp) ?_ (by rw [zzC]<;>omega);rw [nh,<-hlen];refine⟨.ref s.heap.objs.size,_,I.laid (t':=s.toks) (o:=.lst (xY xs lo hi)) (λb ob q=>zzB _ q) (zzE _) ?_,rfl,q _ (I.aQ.fresh (zzE _))⟩;exact⟨zzU (sR xs lo hi) hz,_,0,(r.drop (HT.oH xs.length 0 lo)).take (HT.oH xs.length xs.length hi-HT.oH xs.length 0 lo),zzX _ rfl⟩
theorem jh:cD X (.builtin "len") (λxs H Q=>∃p ys,xs=[.ref p]/\(gz X.K H p ys\/f6 X.K H p ys)/\Q (.int ys.length) H):=by
 intro aa s σ H xs us Q I r h;obtain⟨p,ys,rfl,hq,q⟩:=h
 obtain⟨u,rfl,rx⟩:=vals1 r
 cases rx;have hn:=lG
 rcases hq with hq|hq
 ·obtain⟨ay,r',pl,hz⟩:=I.list hq
  have hlen:=r'.length
  exact Calls.call_len_list pl.isList (by simp only [zzC]<;>omega) ⟨.int ys.length,H,I.tok _,⟨s.toks+1,by rw [zzC,hlen]⟩,q⟩
 ·obtain⟨ay,r',pl,hz⟩:=I.tuple hq
  have hlen:=r'.length
  exact len_tuple pl (by simp only [zzC]<;>omega) ⟨.int ys.length,H,I.tok _,⟨s.toks+1,by rw [zzC,hlen]⟩,q⟩
theorem p9:cD X (.builtin "len") (λxs H Q=>∃z,xs=[.str z]/\z.length<=sizeLine/\Q (.int z.length) H):=by
 intro aa s σ H xs us Q I r h;obtain⟨z,rfl,hz,q⟩:=h
 obtain⟨u,rfl,t,rfl⟩:=vals1 r
 have hn:=lG
 exact len_str (by omega) ⟨.int z.length,H,I.tok _,⟨_,rfl⟩,q⟩
theorem nH:cD X (.type "tuple") (λxs H Q=>∃p ys,xs=[.ref p]/\((gz X.K H p ys/\∀l,H l=none->Q (.ref l) (upd H l (.tup ys)))\/(f6 X.K H p ys/\Q (.ref p) H))):=by
 intro aa s σ H xs us Q I r h;obtain⟨p,ys,rfl,h⟩:=h
 obtain⟨u,rfl,rx⟩:=vals1 r
 cases rx;rcases h with⟨hq,q⟩|⟨hq,q⟩
 ·obtain⟨ay,r',pl,hz⟩:=I.list hq
  have hlen:=r'.length
  refine call_tuple_list pl.isList (λh' kp=>?_) (by simp only [zzC]<;>omega);have I1:Inv X aa σ H {s with heap:=h'}:=I.kept (t':=s.toks) kp
  have I2:Inv X aa σ (upd H h'.objs.size (.tup ys)) {s with heap:=h'.push {cls:=.type "tuple",data:=.seq ay.toArray}}:=
   I1.laid (t':=s.toks) (λb o e=>zzB _ e) (zzE _) (show cj X.prog X.w _ _ _ (.tup ys) from⟨hz,ay,r',IsTup.new _ _⟩)
  exact⟨.ref h'.objs.size,_,I2,rfl,q _ (I1.aQ.fresh (zzE _))⟩
 ·obtain⟨ay,r',pl,hz⟩:=I.tuple hq
  exact call_tuple_same pl ⟨.ref p,H,I,rfl,q⟩
def QN(K:PySem.W.Frag)(T:String)(x:V)(H:Hp):Prop:=match x with
 |.str _=>T="str"
 |.int _=>T="int"
 |.ref p=>(T="list"/\∃xs,gz K H p xs)\/(T="tuple"/\∃o,K.lookup p=some o/\o.cls=.type "tuple"/\o.dict=none)\/
  (T="dict"/\((∃av,H p=some (.dK av))\/∃av,H p=some (.dT av)))\/(T="set"/\∃S n,H p=some (.set S n))
 |_=>False
theorem J5{aa:List (Addr×Obj)}{σ:St}{H:Hp}{s:Shared}{T:String}{x:V}{v:Value}(I:Inv X aa σ H s)(r:RelV x v)(ty:QN X.K T x H):
 s.TypeIs v T/\∀a,v=.ref a->∃ob,s.heap.get? a=some ob/\ob.dict=none:=by
 cases x with
 |str z=>
  obtain⟨t,rfl⟩:=r
  cases(show T="str" from ty);exact⟨typeIs_str s z t,λ_ e=>nomatch e⟩
 |int i=>
  obtain⟨t,rfl⟩:=r
  cases(show T="int" from ty);exact⟨typeIs_int s i t,λ_ e=>nomatch e⟩
 |ref p=>
  cases r;rcases ty with⟨rfl,xs,hq⟩|⟨rfl,o,hk,hc,hd⟩|⟨rfl,hk⟩|⟨rfl,S,n,hk⟩
  ·obtain⟨ay,_,pl,_⟩:=I.list hq
   refine⟨pl.isList.typeIs,λa e=>?_⟩
   cases e;obtain⟨o,n,e,c,hd,_⟩:=pl
   exact⟨o,e,hd⟩
  ·refine⟨⟨o,I.oD p o hk,hc⟩,λa e=>?_⟩
   cases e;exact⟨o,I.oD _ o hk,hd⟩
  ·have z:∃o,s.heap.get? p=some o/\o.ExactDict:=by
    rcases hk with⟨av,hk⟩|⟨av,hk⟩
    ·obtain⟨_,_,_,_,o,_,_,e,ex,_⟩:=I.aQ p _ hk
     exact⟨o,e,ex⟩
    ·obtain⟨_,_,_,_,o,_,_,e,ex,_⟩:=I.aQ p _ hk
     exact⟨o,e,ex⟩
   obtain⟨o,e,ex⟩:=z
   refine⟨⟨o,e,ex.1⟩,λa e2=>?_⟩
   cases e2;exact⟨o,e,ex.2.1⟩
  ·obtain⟨o,_,_,_,e,ex,_⟩:=I.aQ p _ hk
   refine⟨⟨o,e,ex.1⟩,λa e2=>?_⟩
   cases e2;exact⟨o,e,ex.2.1⟩
 |_=>exact False.elim ty
noncomputable def SE(K:PySem.W.Frag)(T:String)(r:V->List V->Hp->VK->Prop)(to:TE)(t:TA):TE:=λσ H Q=>to σ H λx H1=>QN K T x H1/\t σ H1 λxs H2=>r x xs H2 Q
variable{o e:Expr}{es:List Expr}{to:TE}{t:TA}{name:Str}{apos bQ:Pos}{T id:String}{r:V->List V->Hp->VK->Prop}
theorem sM(pa:PlainAttrs T)(slot:Slot T name id)(TR:typeOf (.builtin id)=pure (.type "method_descriptor"))(hm:NC X id r)(ho:PE X o to)(ha:PA X (e::es) t)
 (eW:attributeBase o name X.env (eval o X.env)=eval o X.env:=by rfl)
 (Bw:((backTo bQ (starEach (e::es) X.env)).all (λx=>!x.1)&&(backToKw bQ (keywordEach [] X.env)).all (λx=>x.1.isSome)
  &&decide ((e::es).length+([]:List Keyword).length+(if([]:List Keyword).isEmpty then 0 else 1)<30))=true:=by rfl)
 (gC:(apos.endLine==bQ.line)=true:=by rfl) (hs:starEach (e::es) X.env=(false,eval e X.env)::starEach es X.env:=by rfl) (iD:(backTo bQ (starEach es X.env)).any (·.1)=false:=by rfl):
 PE X (.Call (.Attribute o name apos) (e::es) [] bQ) (SE X.K T r to t):=by
 intro aa s σ H Q I h;refine wpAny_Call_method_late eW Bw gC rfl (bR (ho aa s σ H _ I h) λv s1 ⟨x,H1,I1,r1,ty,q1⟩=>?_)
 obtain⟨h1,h2⟩:=J5 I1 r1 ty
 refine⟨T,id,pa,slot,TR,h1,h2,?_⟩;have hA:=ha bQ aa s1 σ H1 _ I1 q1
 rw [hs] at hA⊢;refine Calls.callWith_builtin (by show(false||(backTo bQ (starEach es X.env)).any (·.1))=false;rw [iD]<;>rfl) (Calls.evalArgs_plain ?_);exact bR hA λus s2 ⟨vs,H2,I2,r2,q2⟩=>hm aa s2 σ H2 x vs v us Q I2 r1 r2 q2
end
def Vd(X:Cx)(id:String)(r:V->List V->Hp->VK->Prop):Prop:=
 ∀(aa:List (Addr×Obj)) (s:Shared) (σ:St) (H:Hp) (x:V) (xs:List V) (v:Value) (us:List Value) (Q:VK),Inv X aa σ H s->RelV x v->Vals xs us->r x xs H Q->
  wpAny (model X.prog X.w) X.A (call (.builtin id) (v::us)) (EP X aa σ Q) X.xe s
theorem Vals.one:∀{x:V} {us:List Value},Vals [x] us->∃u,us=[u]/\RelV x u
 |_,_,.cons r .nil=>⟨_,rfl,r⟩
theorem Vals.two{x y:V}{us:List Value}(h:Vals [x,y] us):∃u v,us=[u,v]/\RelV x u/\RelV y v:=by
 cases h with
 |cons r q=>
  cases q with
  |cons q n=>cases n;exact⟨_,_,rfl,r,q⟩
theorem Vals.rep{xs:List V}{us:List Value}(h:Vals xs us):∀k:Nat,Vals (List.replicate k xs).flatten (List.replicate k us).flatten
 |0=>.nil
 |k+1=>by
  rw [List.replicate_succ,List.replicate_succ,List.flatten_cons,List.flatten_cons];exact Vals.append h (Vals.rep h k)
theorem foldl_rep(ay:List Value):∀(k:Nat) (acc:List Value),
 List.foldl (λx1 x2=>x1++x2) acc.toArray (List.replicate k ay.toArray)=(acc++(List.replicate k ay).flatten).toArray
 |0,acc=>by simp
 |k+1,acc=>by
  have e:acc.toArray++ay.toArray=(acc++ay).toArray:=by simp
  have e2:(acc++ay)++(List.replicate k ay).flatten=acc++(List.replicate (k+1) ay).flatten:=by
   rw [List.replicate_succ,List.flatten_cons,List.append_assoc]
  rw [<-e2,<-foldl_rep ay k (acc++ay),<-e,List.replicate_succ,List.foldl_cons]
section
variable{X:Cx}{aa:List (Addr×Obj)}{σ:St}{H:Hp}{s:Shared}{l:Addr}{xs ys:List V}
theorem Inv.MT{ay its':List Value}{n:Nat}{f:Array Value->Array Value}{t':Nat}(I:Inv X aa σ H s)(hH:H l=some (.lst xs))
 (e:s.heap.get? l=some {cls:=.type "list",data:=.seq ay.toArray n}) (hf:f ay.toArray=its'.toArray) (hv:Vals ys its') (hz:ys.length<=sizeLine):
 Inv X aa σ (upd H l (.lst ys)) {s with heap:=s.heap.update l (Obj.mapSeq f),toks:=t'}:=by
 have q:=PySem.IsL.update e f
 rw [hf] at q;refine I.write (x:=l) (e:=l) (by rw [hH];exact trivial) (.inl rfl) (λb' u hb hu=>(Heap.get?_update_other s.heap (Obj.mapSeq f) (Ne.symm hb)).trans hu) ⟨_,q⟩ ?_
 exact⟨hz,its',_,hv,q⟩
theorem Inv.N2{ay:List Value}{t':Nat}(I:Inv X aa σ H s)(hv:Vals ys ay)(hz:ys.length<=sizeLine):
 Inv X aa σ (upd H s.heap.objs.size (.lst ys)) {s with heap:=s.heap.push {cls:=.type "list",data:=.seq ay.toArray},toks:=t'}:=
 I.laid (λ_ _ q=>zzB _ q) (zzE _) ⟨hz,ay,0,hv,zzX _ rfl⟩
theorem Inv.fresh(I:Inv X aa σ H s):H s.heap.objs.size=none:=I.aQ.fresh (zzE _)
theorem Inv.Nw(I:Inv X aa σ H s)(hH:H l=some (.lst xs)):xs.length<=sizeLine/\∃(ay:List Value) (n:Nat),Vals xs ay/\xs.length=ay.length/\s.heap.get? l=some {cls:=.type "list",data:=.seq ay.toArray n}:=by
 obtain⟨z,ay,n,r,e⟩:=I.aQ l _ hH
 exact⟨z,ay,n,r,r.length,e⟩
theorem sQ{n:Nat}(h:n<=sizeLine):Builtin.List.listTooLong n=false:=by
 unfold Builtin.List.listTooLong;exact decide_eq_false (by omega)
end
section
variable{X:Cx}
def DM:V->List V->Hp->VK->Prop:=λx vs H Q=>∃l xs y,x=.ref l/\vs=[y]/\H l=some (.lst xs)/\xs.length<sizeLine/\Q .az (upd H l (.lst (xs++[y])))
theorem yH:Vd X "list.append" DM:=by
 intro aa s σ H x vs v us Q I rx rv h;obtain⟨l,xs,y,rfl,rfl,hH,hz,q⟩:=h
 cases rx;obtain⟨u,rfl,ru⟩:=rv.one
 obtain⟨z,ay,n,r,hl,e⟩:=I.Nw hH
 refine call_meets F.slot_list_append ⟨_,e,rfl⟩ F.entry_list_append (F.args_list_append_2 _ _) (PySem.list_append l ay.toArray n u (by rw [zzC];omega)) ⟨e,?_⟩;refine⟨.az,_,I.MT (its':=ay++[u]) hH e (by simp) (r.append (.cons ru .nil)) ?_,rfl,q⟩;rw [zzM,List.length_singleton];omega
theorem len_rep{α:Type}(xs:List α)(k:Nat):(List.replicate k xs).flatten.length=k*xs.length:=by
 induction k with
 |zero=>simp
 |succ k ih=>rw [List.replicate_succ,List.flatten_cons,zzM,ih,Nat.succ_mul,Nat.add_comm]
end
end L2
namespace Att
open PySem PySem.W PySem.Calls PyProof.Rows
theorem kq{P:Params}{h:Heap}:∀(ns:List Int) (vs:List Value),WellAll P h vs (ns.map WData.int)->IntsAre vs ns:=by
 intro ns
 induction ns with
 |nil=>
  intro vs w;rw [List.map_nil] at w;cases w;exact .nil
 |cons n ns ih=>
  intro vs w;rw [zzF] at w;cases w with
  |cons a b=>
   cases a;exact .cons _ _ (ih _ b)
theorem y8{l:OpenLaw}{n:Nat}(hn:l.most=some n){P:Params}{h:Heap}{args:List WData}{vals:List Value}
 (DN:l.row.toRowW.claim.pre args=true) (Qa:WellAll P h vals args):
 ∃a vs ns,vals=[Value.ref a]/\args=[WData.list (ns.map WData.int)]/\h.get? a=some {cls:=.type "list",data:=.seq vs.toArray}/\IntsAre vs ns/\ns.length<=n:=by
 have TU:WShape.hasAll [] args [.list .int]=true:=(pre_splitW DN).1
 have hc:l.pre.holds [] {args:=args}=true:=(pre_splitW DN).2
 obtain⟨d,r,rfl,h1,h2⟩:=hasAllW_cons TU
 obtain rfl:=hasAllW_nil h2
 obtain⟨xs,rfl,h3⟩:=hasW_list h1
 obtain⟨ns,rfl⟩:=items_int h3
 have hlen:ns.length<=n:=by
  unfold OpenLaw.pre at hc;have h4:(WTm.not (.lt (.lit (.int (n:Int))) (.len (.arg 0)))).holds [] {args:=[.list (ns.map .int)]}=true:=by
   have h4:=(holds_andW hc).1
   rw [hn] at h4;exact h4
  have h5:=condW_of h4 (w_not (w_lt w_lit (w_len_list (w_arg rfl))))
  rw [zzl] at h5;refine Nat.le_of_not_lt λq=>?_
  have q':(n:Int)<((ns.length:Nat):Int):=by omega
  first
   |(rw [zzh q'] at h5;exact absurd h5 (by decide))
   |(simp at h5;omega)
 cases Qa with
 |cons w1 w2=>
  cases w2;cases w1 with
  |list ho hall=>exact⟨_,_,ns,rfl,rfl,ho,kq ns _ hall,hlen⟩
theorem yz(l:OpenLaw)(args:List WData):l.row.toRowW.claim.post args (.bool true) args=true:=
 postW_of (r:=l.row.toRowW) (X:=(true==true))
  (show WShape.has [] (.bool true) .bool=true by first|rfl|decide|simp [WShape.has,WShape.arms,WShape.armsAll])
  (show(WTm.eq .res (.lit (.bool true))).value [] {args:=args,res:=some (.bool true),after:=args}=some (.bool (true==true)) from w_eq_bool (w_res rfl) w_lit) rfl
theorem sd{l:OpenLaw}{n:Nat}{q:Program}{loose:List Str}{XP:(Str->Option Value)->Heap->Prop}{YP:World->Heap->Prop}{d:DefRec}
 (hn:l.most=some n) (Np:d.params.defaults=[])
 (call:∀(w:World) (s₀ s₁:Shared) (mg mb:Str->Option Value) (fa:Addr) (o:Obj) (pm cd doc:Value) (a:Addr) (vs:List Value) (ns:List Int),
  Ground q loose [] XP w s₀ mg mb s₁.heap->YP w s₁.heap->
  s₁.heap.get? fa=some o->o.data=.func (docDef d.name d.params d.body d.scope pm cd doc)->s₁.heap.CodeRec cd d.name->mg d.name=some (.ref fa)->
  s₁.heap.get? a=some {cls:=.type "list",data:=.seq vs.toArray}->IntsAre vs ns->ns.length<=n->s₁.gens=#[]->
  codeAny (model l.prog w) callerA (.call (.ref fa) ⟨[.ref a],[]⟩) (λr s'=>r=.ok (.ret (.bool true))/\OldK s₁.heap s'.heap/\s'.os=s₁.os/\AllBare s'.gens) s₁):
 WalkO q loose XP YP l.row.toRowW d [] (λf vs=>PySem.call f vs):=by
 intro w s₀ s₁ mg mb G Y fa o pm cd doc dV kV ho hd lj hD hmg hg args vals as DN hlay hrd Qa hlo;obtain rfl:dV=.none:=Dflts.none hD Np
 obtain rfl:kV=.none:=Dflts.noKw hD
 obtain⟨a,vs,ns,rfl,rfl,hobj,hints,hlen⟩:=y8 hn DN Qa
 refine enter_call (codeAny_mono (call w s₀ s₁ mg mb fa o pm cd doc a vs ns G Y ho (fd_plain hd) lj hmg hobj hints hlen hg) λr s' hq=>?_)
 obtain⟨rfl,h2,h3,h4⟩:=hq
 exact⟨.inl ⟨.bool true,.bool true,[],rfl,λ_=>rfl,.bool true,yz l _,λ_=>⟨List.Pairwise.nil,λ_ hm=>(nomatch hm)⟩⟩,h2,h3,h4⟩
section
def ledger(h:Heap)(L d:Addr):List (Addr×Obj):=(List.range h.objs.size).filterMap λa=>if a=L\/a=d then none else(h.get? a).map λo=>(a,o)
end
end Att
namespace L2
open PySem PySem.Spec PyProof.Rows
theorem oh:∀{vs:List Value} {ns:List Int},IntsAre vs ns->Vals (ns.map V.int) vs
 |_,_,.nil=>.nil
 |_,_,.cons n t h=>.cons ⟨t,rfl⟩ (oh h)
noncomputable def dv(s:Stmt):Arguments:=match s with
 |.FunctionDef _ a _ _ _ _ _ _ _ _=>a
 |_=>{posonlyargs:=[],args:=[],vararg:=none,kwonlyargs:=[],kw_defaults:=[],kwarg:=none,defaults:=[]}
def cV(s:Stmt):List Stmt:=match s with
 |.FunctionDef _ _ b _ _ _ _ _ _ _=>b
 |_=>[]
def ba(s:Stmt):Scope:=match s with
 |.FunctionDef _ _ _ _ _ _ sc _ _ _=>sc
 |_=>{kind:=.function,names:=[],isGenerator:=false,isCoroutine:=false}
structure Ot(K:PySem.W.Frag)(x qual:Str)(st:Stmt)(f:Addr)(fd:FuncData):Prop where
 ex:∃(oc:Value) (od:Option Addr) (kV doc pm:Value) (an:Option Addr) (f7 ct:Value) (tP:Array (Option Value)),
  fd=PySem.W.fnOf x qual (dv st) (cV st) (ba st) .none kV doc pm an f7 ct/\K.lookup f=some ⟨oc,od,.func fd,tP⟩/\PySem.W.codeIn K f7 qual=true
 kp:PySem.W.keepIn K (.ref f)=true
section
variable{K:PySem.W.Frag}
theorem Ot.binds{x qual:Str}{st:Stmt}{f:Addr}{fd:FuncData}{ps:List Str}(F:Ot K x qual st f fd)
 (h:∀(kV doc pm:Value) (an:Option Addr) (f7 ct:Value) (us:List Value),us.length=ps.length->bindArgs (PySem.W.fnOf x qual (dv st) (cV st) (ba st) .none kV doc pm an f7 ct) ⟨us,[]⟩=pure (ps.zip us)):Binds K fd ps []:=by
 obtain⟨oc,od,kV,doc,pm,an,f7,ct,tP,rfl,lk,lj⟩:=F.ex
 exact .all (h kV doc pm an f7 ct)
theorem Bx{x qual:Str}{st:Stmt}{f:Addr}{oc:Value}{od an:Option Addr}{tP:Array (Option Value)}{kV doc pm f7 ct:Value}(l:K.lookup f=some ⟨oc,od,.func (PySem.W.fnOf x qual (dv st) (cV st) (ba st) .none kV doc pm an f7 ct),tP⟩)
 (c:PySem.W.codeIn K f7 qual=true) (k:PySem.W.keepIn K (.ref f)=true):Ot K x qual st f (PySem.W.fnOf x qual (dv st) (cV st) (ba st) .none kV doc pm an f7 ct):=⟨⟨oc,od,kV,doc,pm,an,f7,ct,tP,rfl,l,c⟩,k⟩
end
section
variable{X:Cx}
theorem pv(i:Nat){x:Str}{pos:Pos}(hN:X.N[i]?=some x:=by rfl)(hv:LN X.env.scope x:=by first|exact Or.inl rfl|exact Or.inr (Or.inl rfl)|exact Or.inr (Or.inr rfl))(hd:(x==("__debug__":Str))=false:=by decide)
 (lj:(x==("__classdict__":Str))=false:=by decide):PE X (.Name x pos) (xV i):=fh hN hv hd lj
end
theorem O7{A B:Prop}(h:B):if false=true then A else B:=by
 rw [if_neg zzf];exact h
theorem Pw{A B:Prop}(h:A):if true=true then A else B:=by
 rw [if_pos rfl];exact h
def aC(H H':Hp):Prop:=∀b o,H b=some o->H' b=some o
theorem aC.refl(H:Hp):aC H H:=λ_ _ h=>h
theorem aC.trans{H H1 H2:Hp}(a:aC H H1)(b:aC H1 H2):aC H H2:=λc o h=>b c o (a c o h)
theorem aC.free{H H':Hp}(e:aC H H'){l:Addr}(h:H' l=Option.none):H l=Option.none:=by
 cases q:H l with
 |none=>rfl
 |some o=>
  rw [e l o q] at h;cases h
theorem aC.seq{K:PySem.W.Frag}{H H':Hp}{a:Addr}{xs:List V}(e:aC H H')(h:gz K H a xs):gz K H' a xs:=by
 rcases h with(h|⟨o,h⟩)|h
 ·exact .inl (.inl (e _ _ h))
 ·exact .inl (.inr ⟨o,e _ _ h⟩)
 ·exact .inr h
end L2
set_option maxHeartbeats 8000000
namespace L2
open PySem PySem.Spec PyProof.Rows
open PySem.W (hideAll hideAll_get of_hideAll funFrames_hide)
structure AR(P:Program)(w:World)(outer:List Env)(H:Hp)(s:Shared)(E:XK)(a C t:Addr)(vs:List Value)(H':Hp)(B:Heap)(s':Shared):Prop where
 os:s'.os=s.os
 bare:AllBare s'.gens
 aQ:eh P w H' B
 yO:Heap.FlyingW B outer a (.ref C) (.ref t) s'.heap
 tn:B.get? t=none
 tup:s'.heap.TupAt t vs
 dY:∀b o,s.heap.get? b=some o->H b=none->b∉en outer->B.get? b=some o
 cX:∀b o,s.heap.get? b=some o->b∉en outer->∃o',B.get? b=some o'
 un:Un (en outer) [] H H' s.heap s'.heap
 ends:E (.ref C) (some a) H'
def dZ(P:Program)(w:World):zt:=λouter H s E e s'=>∃a C t vs H' B,e=.ref a/\AR P w outer H s E a C t vs H' B s'
section
variable{P:Program}{w:World}{K:PySem.W.Frag}{mg:Str->Option Value}{base:Heap}{N:List Str}{qual:Str}{scope:Scope}{f:Addr}{cd:Value}{A:Around}{outer:List Env}{s0:Shared}{H0:Hp}{E:XK}
theorem j3{X:Cx}{aa:List (Addr×Obj)}{σ:St}{H:Hp}{s:Shared}(I:Inv X aa σ H s){b:Addr}{o:Obj}(hl:X.env.locals=X.s₀.heap.objs.size)(q:X.s₀.heap.get? b=some o)(hb:b∉X.fs):b∉en X.stack:=λz=>by
 rcases List.mem_cons.mp (I.iO b z) with e|e
 ·rw [hl] at e;exact absurd (zzO q) (by rw [e];exact Nat.lt_irrefl _)
 ·exact hb e
theorem NI:Passes (dZ P w) (dX (dZ P w) P w K mg base N qual scope f cd A outer s0 H0 E) E:=by
 rintro aa σ H s e s' I ⟨a,C,t,vs,H',B,rfl,F⟩
 have nx:∀b:Addr,b∉(dX (dZ P w) P w K mg base N qual scope f cd A outer s0 H0 E).ex:=λb z=>nomatch (show b∈([]:List Addr) from z)
 have dY:∀b o,s0.heap.get? b=some o->H0 b=none->b∉en outer->B.get? b=some o:=λb o q n hb=>
  F.dY b o (I.base.keep b o q n hb (nx b)) (I.base.free b o q n (nx b)) (j3 I rfl q hb)
 have cX:∀b o,s0.heap.get? b=some o->b∉en outer->∃o',B.get? b=some o':=λb o q hb=>by
  obtain⟨o1,q1⟩:=I.base.there b o q (nx b)
  exact F.cX b o1 q1 (j3 I rfl q hb)
 refine wpAny_leaves_onW I.ok.frames rfl F.yO λh' x1 x2=>⟨a,C,t,vs,H',B,rfl,?_⟩
 have slot:∀b o,s0.heap.get? b=some o->H0 b=none->b∈en outer->∃sl,h'.get? b=some {o with slots:=sl}:=λb o q n hb=>by
  obtain⟨sl,q1⟩:=I.base.slot b o q n hb (nx b)
  obtain⟨sl2,q2⟩:=F.un.any q1 (I.base.free b o q n (nx b)) (λz=>nomatch z)
  obtain⟨_,o',q3,hd⟩:=F.yO.2.2.1.mem (b:=b) (List.mem_filterMap.mpr (let⟨v,h1,h2⟩:=List.mem_filterMap.mp hb;⟨v,.tail _ h1,h2⟩))
  rw [q2] at q3;cases q3;obtain⟨sl3,q4⟩:=x2 b _ q2 hd
  exact⟨sl3,q4⟩
 refine⟨F.os.trans I.os,F.bare,F.aQ,x1,F.tn,F.tup.of_slots x2,dY,cX,⟨λb o q n hb _=>x1.1 _ _ (dY b o q n hb),λb o q n hb _=>slot b o q n hb,λb o q n _=>?_,λb o q _=>?_,λb xs q=>F.un.gk _ _ (I.base.gk _ _ q),λb o u q=>F.un.fk _ _ _ (I.base.fk _ _ _ q),λb ps q=>?_⟩,F.ends⟩
 ·obtain⟨sl,q1⟩:=I.base.any q n (nx b)
  exact F.un.free b _ q1 (I.base.free b o q n (nx b)) (λz=>nomatch z)
 ·by_cases hb:b∈en outer
  ·obtain⟨sl,q1⟩:=slot b o q (I.ok.tW b hb) hb
   exact⟨_,q1⟩
  ·obtain⟨o',q1⟩:=cX b o q hb
   exact⟨o',x1.1 _ _ q1⟩
 ·obtain⟨m1,q1⟩:=I.base.fM b ps q
  obtain⟨m2,q2⟩:=F.un.fM b _ q1
  exact⟨m1++m2,by rw [<-Array.append_assoc];exact q2⟩
theorem HU{aa:List (Addr×Obj)}{σ:St}{H:Hp}{s:Shared}{h1:Heap}{e C:Addr}{us:List Value}(I:Inv (dX (dZ P w) P w K mg base N qual scope f cd A outer s0 H0 E) aa σ H s)
 (hx:Heap.MadeExcOf s.heap h1 e (.ref C) us) (hE:E (.ref C) (some e) H):(dX (dZ P w) P w K mg base N qual scope f cd A outer s0 H0 E).xe (.ref e) {s with heap:=h1}:=by
 have nx:∀b:Addr,b∉(dX (dZ P w) P w K mg base N qual scope f cd A outer s0 H0 E).ex:=λb z=>nomatch (show b∈([]:List Addr) from z)
 have OT:∀env∈(dX (dZ P w) P w K mg base N qual scope f cd A outer s0 H0 E).stack,∀b,env.frame=some b->b∈en (dX (dZ P w) P w K mg base N qual scope f cd A outer s0 H0 E).stack:=λenv he b hb=>List.mem_filterMap.mpr ⟨env,he,hb⟩
 refine wpAny_leaves_madeW (h:=s.heap) I.ok.frames rfl (λb o q=>of_hideAll _ q) (funFrames_hide I.stack OT) hx λh' t x1 x2 x3 x4=>⟨e,C,t,us,H,hideAll s.heap (en (dX (dZ P w) P w K mg base N qual scope f cd A outer s0 H0 E).stack),rfl,?_⟩
 have dY:∀b o,s0.heap.get? b=some o->H0 b=none->b∉en outer->(hideAll s.heap (en (dX (dZ P w) P w K mg base N qual scope f cd A outer s0 H0 E).stack)).get? b=some o:=λb o q n hb=>
  hideAll_get _ (I.base.keep b o q n hb (nx b)) (j3 I rfl q hb)
 have cX:∀b o,s0.heap.get? b=some o->b∉en outer->∃o',(hideAll s.heap (en (dX (dZ P w) P w K mg base N qual scope f cd A outer s0 H0 E).stack)).get? b=some o':=λb o q hb=>by
  obtain⟨o1,q1⟩:=I.base.there b o q (nx b)
  exact⟨o1,hideAll_get _ q1 (j3 I rfl q hb)⟩
 have slot:∀b o,s0.heap.get? b=some o->H0 b=none->b∈en outer->∃sl,h'.get? b=some {o with slots:=sl}:=λb o q n hb=>by
  obtain⟨sl,q1⟩:=I.base.slot b o q n hb (nx b)
  obtain⟨_,o',q3,hd⟩:=I.stack.mem (b:=b) (List.mem_filterMap.mpr (let⟨v,h1,h2⟩:=List.mem_filterMap.mp hb;⟨v,.tail _ h1,h2⟩))
  rw [q1] at q3;cases q3;obtain⟨sl3,q4⟩:=x4 b _ (hx.keeps _ _ q1) hd
  exact⟨sl3,q4⟩
 refine⟨I.os,I.bare,λb o q=>?_,x1,x3,x2,dY,cX,⟨λb o q n hb _=>x1.1 _ _ (dY b o q n hb),λb o q n hb _=>slot b o q n hb,λb o q n _=>I.base.free b o q n (nx b),λb o q _=>?_,I.base.gk,I.base.fk,I.base.fM⟩,hE⟩
 ·refine(I.aQ b o q).eF (λc v hc r=>hideAll_get _ r λz=>?_) (λ_ q=>q) λ_ _ q=>q
  have z':=I.kO c z
  rcases hc with rfl|hc
  ·rw [q] at z';cases z'
  ·rw [hc] at z';cases z'
 ·by_cases hb:b∈en outer
  ·obtain⟨sl,q1⟩:=slot b o q (I.ok.tW b hb) hb
   exact⟨_,q1⟩
  ·obtain⟨o',q1⟩:=cX b o q hb
   exact⟨o',x1.1 _ _ q1⟩
end
theorem kb{P:Program}{w:World}{H:Hp}{h:Heap}{a:Addr}{o:HO}(x:cj P w H h a o):∃o',h.get? a=some o':=by
 cases o with
 |lst xs=>obtain⟨_,_,_,_,e⟩:=x;exact⟨_,e⟩
 |tup xs=>obtain⟨_,_,_,o,e,_⟩:=x;exact⟨_,e⟩
 |dK av=>obtain⟨_,_,_,_,o,_,_,e,_⟩:=x;exact⟨_,e⟩
 |dT av=>obtain⟨_,_,_,_,o,_,_,e,_⟩:=x;exact⟨_,e⟩
 |set S n=>obtain⟨o,_,_,_,e,_⟩:=x;exact⟨_,e⟩
 |ins C dx fs=>obtain⟨_,_,_,e,_⟩:=x;exact⟨_,e⟩
 |own y=>exact x
 |xd fs=>obtain⟨_,⟨_,_,_,e,_⟩,_⟩:=x;exact⟨_,e⟩
 |kF lo hi=>obtain⟨_,_,_,e⟩:=x;exact⟨_,e⟩
 |bF ob u=>obtain⟨e,_⟩:=x;exact⟨_,e⟩
 |gf ps=>exact⟨_,x⟩
 |met f y=>exact⟨_,x⟩
 |ext φ=>exact x.2.1
def Jf(C:Addr)(E:XK)(ta:TA):TS:=λ_ σ H=>ta σ H λvs H1=>vs.length<=sizeLine/\∀e,H1 e=none->E (.ref C) (some e) H1
section
variable{P:Program}{w:World}{K:PySem.W.Frag}{mg:Str->Option Value}{base:Heap}{N:List Str}{qual:Str}{scope:Scope}{f:Addr}{cd:Value}{A:Around}{outer:List Env}{s0:Shared}{H0:Hp}{E:XK}
theorem B0{x:Str}{C:Addr}{Bn newId IC:String}{bm:List Value}{e₀:Expr}{rest:List Expr}{np bQ pos:Pos}{ta:TA}(hg:Gl (dX (dZ P w) P w K mg base N qual scope f cd A outer s0 H0 E) x)(O:OwnCls x C bm newId mg base)(FB:ExcBaseFacts Bn newId IC bm)
 (ha:PA (dX (dZ P w) P w K mg base N qual scope f cd A outer s0 H0 E) (e₀::rest) ta)
 (he:starEach (e₀::rest) (dX (dZ P w) P w K mg base N qual scope f cd A outer s0 H0 E).env=(false,eval e₀ (dX (dZ P w) P w K mg base N qual scope f cd A outer s0 H0 E).env)::starEach rest (dX (dZ P w) P w K mg base N qual scope f cd A outer s0 H0 E).env:=by rfl)
 (iD:(backTo bQ (starEach rest (dX (dZ P w) P w K mg base N qual scope f cd A outer s0 H0 E).env)).any (·.1)=false:=by rfl) (hd:(x==("__debug__":Str))=false:=by decide):
 PS (dX (dZ P w) P w K mg base N qual scope f cd A outer s0 H0 E) (.Raise (some (.Call (.Name x np) (e₀::rest) [] bQ)) none pos) (Jf C E ta):=by
 intro aa s σ H D I h;obtain⟨tl,Nn,nm,q,bs,hdct,sn,sub,ab,col,dd,k0,k1,k2,k3,k5,mN,hC,hN,hni,T⟩:=O.obj
 refine wpAny_Raise_call_subT (C:=C) (nm:=nm) (q:=q) (N:=Nn) (bs:=bs) (bm:=tl) (hdct:=hdct) (sn:=sn) (sub:=sub) (ab:=ab) (col:=col) (dd:=dd) (k0:=k0) (k1:=k1) (k2:=k2) (k3:=k3) (k5:=k5)
  FB (mN:=mN) (T.hasType FB.hasBase) (I.ok.hd rfl) (by rw [he];show(false||(backTo bQ (starEach rest (dX (dZ P w) P w K mg base N qual scope f cd A outer s0 H0 E).env)).any (·.1))=false;rw [iD];rfl) hni (fR I hg O.bound ⟨rfl,?_⟩ hd)
 have h2:=ha bQ aa s σ H _ I h
 rw [he] at h2⊢;refine Calls.evalArgs_plain (wpAny_mono h2 (λus s2 ⟨vs,H1,I1,rv,hl,hE⟩=>?_) λ_ _ y=>y)
 refine⟨rfl,by rw [<-rv.length];exact hl,I1.bk _ _ hC,hN.keeps I1.bk,T.keeps I1.bk,λh1 e hx=>HU I1 hx (hE e ?_)⟩
 cases z:H1 e with
 |none=>rfl
 |some o=>
  obtain⟨o',jr⟩:∃o',s2.heap.get? e=some o':=by
   exact kb (I1.aQ _ _ z)
  rw [hx.new] at jr;cases jr
end
def iS(a C:Addr):HO:=.ext λh=>∃ob vs,h.get? a=some ob/\ob.cls=.ref C/\ob.data=.fields vs
section
variable{P:Program}{w:World}
theorem AR.fresh{outer:List Env}{H:Hp}{s s':Shared}{E:XK}{a C t:Addr}{vs:List Value}{H':Hp}{B:Heap}(F:AR P w outer H s E a C t vs H' B s'):H' a=none:=by
 cases z:H' a with
 |none=>rfl
 |some o=>
  obtain⟨o',jr⟩:=kb (F.aQ _ _ z)
  rw [F.yO.2.1] at jr;cases jr
theorem Inv.CA{X:Cx}{aa:List (Addr×Obj)}{σ:St}{H:Hp}{s s':Shared}{E:XK}{a C t:Addr}{vs:List Value}{H':Hp}{B h6:Heap}{tk:Nat}(I:Inv X aa σ H s)(F:AR X.prog X.w X.stack H s E a C t vs H' B s')
 (hf:Heap.FlyingW B X.stack a (.ref C) (.ref t) h6) (hs:s'.heap.UpToSlots h6):Inv X aa σ (upd H' a (iS a C)) {s' with heap:=h6,toks:=tk}:=by
 have ha:=F.fresh
 obtain⟨oa,va,ea,ca,da,_⟩:=hf.first
 have frame:∀b,b∈en X.stack->∃o,h6.get? b=some o/\∀vs,o.data≠.fields vs:=λb hb=>(hf.2.2.1.mem hb).2
 have ne:∀b o,s.heap.get? b=some o->b≠a:=λb o q z=>by
  subst z
  by_cases hb:b∈en X.stack
  ·obtain⟨o',q',hd⟩:=frame b hb
   rw [ea] at q';cases q';exact hd _ da
  ·obtain⟨o',q'⟩:=F.cX b o q hb
   rw [F.yO.2.1] at q';cases q'
 have slot:∀b o,s.heap.get? b=some o->H b=none->b∈en X.stack->∃sl,h6.get? b=some {o with slots:=sl}:=λb o q n hb=>by
  obtain⟨sl2,q2⟩:=F.un.any q n (λz=>nomatch z)
  obtain⟨_,o',q3,hd⟩:=F.yO.2.2.1.mem (b:=b) hb
  rw [q2] at q3;cases q3;obtain⟨sl3,q4⟩:=hs b _ q2 hd
  exact⟨sl3,q4⟩
 have un:Un (en X.stack) [] H (upd H' a (iS a C)) s.heap h6:=by
  refine⟨λb o q n hb _=>hf.1 _ _ (F.dY b o q n hb),λb o q n hb _=>slot b o q n hb,λb o q n _=>?_,λb o q _=>?_,λb xs q=>?_,λb o u q=>?_,λb ps q=>?_⟩
  ·rw [ae (ne b o q)];exact F.un.free b o q n (λz=>nomatch z)
  ·by_cases hb:b∈en X.stack
   ·obtain⟨o',q',_⟩:=frame b hb
    exact⟨o',q'⟩
   ·obtain⟨o',q1⟩:=F.cX b o q hb
    exact⟨o',hf.1 _ _ q1⟩
  ·have q1:=F.un.gk b xs q
   rw [ae (bJ q1 ha)];exact q1
  ·have q1:=F.un.fk b o u q
   rw [ae (bJ q1 ha)];exact q1
  ·obtain⟨m,q1⟩:=F.un.fM b ps q
   exact⟨m,by rw [ae (bJ q1 ha)];exact q1⟩
 have aQ:eh X.prog X.w (upd H' a (iS a C)) h6:=λb o q=>by
  by_cases hb:b=a
  ·subst hb;rw [ak] at q;cases q;exact⟨⟨oa,va,ea,ca,da⟩,⟨oa,ea⟩,λh1 h2 ⟨ob,vs,e1,e2,e3⟩ k=>⟨ob,vs,k _ e1,e2,e3⟩⟩
  ·rw [ae hb] at q;exact(F.aQ b o q).eF (λc v hc r=>hf.1 _ _ r) (λc r=>by rw [ae (bJ r ha)];exact r) λc xs r=>by rw [ae (bJ r ha)];exact r
 obtain⟨hh,g,d,tt,os'⟩:=s'
 obtain rfl:os'=s.os:=F.os
 have fin:=I.call (h':=h6) (g':=g) (d':=d) (t':=tk) (ch:=[]) un aQ F.bare (λb z=>absurd z (by simp))
 exact fin
end
def bP(env:Env)(ys:List Str):List (Str×Addr):=ys.map λy=>(y,(env.cells.lookup y).getD 0)
def B7(σ:St)(is:List Nat):St:=is.map λi=>(σ[i]?).join
def lR(scope:Scope)(x:Str):Bool:=scope.names.lookup x==some .cell
theorem uX{x:Str}{c:Addr}:∀(names:List (Str×NameKind)) (n:Nat) (acc:List (Str×Addr)),(x,c)∈cellsFrom n names acc->(x,c)∈acc\/(x,NameKind.cell)∈names/\n<=c
 |[],n,acc,h=>by rw [cellsFrom.eq_def] at h;exact .inl h
 | (y,k)::r,n,acc,h=>by
  rw [cellsFrom.eq_def] at h;dsimp only at h;split at h
  ·rename_i hk;cases eq_of_beq hk;rcases uX r (n+1) _ h with z|⟨z1,z2⟩
   ·rcases List.mem_cons.mp z with z|z
    ·cases z;exact .inr ⟨zzP ..,zzE _⟩
    ·exact .inl z
   ·exact .inr ⟨zzI _ z1,Nat.le_of_succ_le z2⟩
  ·rcases uX r n _ h with z|⟨z1,z2⟩
   ·exact .inl z
   ·exact .inr ⟨zzI _ z1,z2⟩
theorem pH{x:Str}{c:Addr}:∀(names:List (Str×NameKind)) (n:Nat) (acc:List (Str×Addr)),(cellsFrom n names acc).lookup x=some c->acc.lookup x=some c\/(x,NameKind.cell)∈names/\n<=c
 |[],n,acc,h=>by rw [cellsFrom.eq_def] at h;exact .inl h
 | (y,k)::r,n,acc,h=>by
  rw [cellsFrom.eq_def] at h;dsimp only at h;split at h
  ·rename_i hk;cases eq_of_beq hk;rcases pH r (n+1) _ h with z|⟨z1,z2⟩
   ·rw [List.lookup_cons] at z;cases e:x==y with
    |true=>rw [e] at z;cases z;cases eq_of_beq e;exact .inr ⟨zzP ..,zzE _⟩
    |false=>rw [e] at z;exact .inl z
   ·exact .inr ⟨zzI _ z1,Nat.le_of_succ_le z2⟩
  ·rcases pH r n _ h with z|⟨z1,z2⟩
   ·exact .inl z
   ·exact .inr ⟨zzI _ z1,z2⟩
theorem qv{x:Str}:∀(names:List (Str×NameKind)) (n:Nat) (acc:List (Str×Addr)),(x,NameKind.cell)∉names->(cellsFrom n names acc).lookup x=acc.lookup x
 |[],n,acc,_=>by rw [cellsFrom.eq_def]
 |(y,k)::r,n,acc,h=>by
  rw [cellsFrom.eq_def];dsimp only;have hr:(x,NameKind.cell)∉r:=λz=>h (zzI _ z)
  split
  ·rename_i hk;cases eq_of_beq hk;rw [qv r (n+1) _ hr,List.lookup_cons];cases e:x==y with
   |true=>cases eq_of_beq e;exact absurd (zzP ..) h
   |false=>rfl
  ·exact qv r n acc hr
theorem JU{x:Str}{c:Addr}:∀(names:List (Str×NameKind)) (n:Nat) (acc:List (Str×Addr)),(x,c)∈cellsFrom n names acc->(∀p∈acc,p.2≠c)->(x,c)∈cellsFrom n names []
 |names,n,acc,h,ha=>by
  have key:∀(names:List (Str×NameKind)) (n:Nat) (acc b:List (Str×Addr)),(x,c)∈cellsFrom n names (b++acc)->(∀p∈acc,p.2≠c)->(x,c)∈cellsFrom n names b:=by
   intro names
   induction names with
   |nil=>
    intro n acc b h ha;rw [cellsFrom.eq_def] at h⊢;rcases List.mem_append.mp h with z|z
    ·exact z
    ·exact absurd rfl (ha _ z)
   |cons y r ih=>
    intro n acc b h ha;obtain⟨y,k⟩:=y
    rw [cellsFrom.eq_def] at h⊢;dsimp only at h⊢;split at h
    ·rename_i hk;rw [if_pos hk];exact ih (n+1) acc ((y,n)::b) h ha
    ·rename_i hk;rw [if_neg hk];exact ih n acc b h ha
  exact key names n acc [] h ha
theorem pS{x y:Str}{c:Addr}:∀(names:List (Str×NameKind)) (n:Nat) (acc:List (Str×Addr)),(∀p∈acc,p.2<n)->n<=c->(x,c)∈cellsFrom n names acc->(y,c)∈cellsFrom n names acc->x=y
 |[],n,acc,ha,hc,h1,h2=>by
  rw [cellsFrom.eq_def] at h1;exact absurd (ha _ h1) (Nat.not_lt.mpr hc)
 | (z,k)::r,n,acc,ha,hc,h1,h2=>by
  rw [cellsFrom.eq_def] at h1 h2;dsimp only at h1 h2;split at h1
  ·rename_i hk;rw [if_pos hk] at h2;have M8:∀p∈(z,n)::acc,p.2<n+1:=λp hp=>by
    rcases List.mem_cons.mp hp with q|q
    ·rw [q];exact Nat.lt_succ_self _
    ·exact Nat.lt_succ_of_lt (ha p q)
   by_cases hn:n+1<=c
   ·exact pS r (n+1) _ M8 hn h1 h2
   ·have one:∀{w:Str},(w,c)∈cellsFrom (n+1) r ((z,n)::acc)->w=z:=λ{w} h=>by
     rcases uX r (n+1) _ h with q|q
     ·rcases List.mem_cons.mp q with q|q
      ·cases q;rfl
      ·exact absurd (ha _ q) (Nat.not_lt.mpr hc)
     ·exact absurd q.2 hn
    rw [one h1,one h2]
  ·rename_i hk;rw [if_neg hk] at h2;exact pS r n acc ha hc h1 h2
theorem uQ{M:Model}{A:Around}{E:Value->Shared->Prop}{s:Shared}{scope:Scope}{g:Addr}{cl:List (Str×Addr)}{qual:Str}{around:Env}{Q:Env->Shared->Prop}
 (h:Q (newEnv scope s.heap.objs.size g (cellsFrom (s.heap.objs.size+1) scope.names cl) qual none .none (some around) builtinsNs) {s with heap:=pushCells (s.heap.push {cls:=.type "dict",data:=.dict #[]}) scope.names}):
 wpAny M A (newFunctionEnv scope g cl [] qual none .none (some around)) Q E s:=by
 unfold newFunctionEnv;refine zzA (wpAny_alloc ?_);refine zzA (wpAny_forIn_list _ (λrest b s'=>s'={s with heap:=s'.heap}/\pushCells s'.heap rest=pushCells (s.heap.push {cls:=.type "dict",data:=.dict #[]}) scope.names/\cellsFrom s'.heap.objs.size rest b=cellsFrom (s.heap.objs.size+1) scope.names cl) _ (λx rest b s' hI=>?_) (λb s' hI=>?_) scope.names cl ⟨rfl,rfl,by rw [Heap.size_push]⟩)
 ·obtain⟨h1,h2,h3⟩:=hI
  obtain⟨nm,k⟩:=x
  rw [pushCells.eq_def] at h2;rw [cellsFrom.eq_def] at h3;dsimp only at h2 h3⊢;split
  ·rename_i hk;rw [if_pos hk] at h2 h3;refine zzA (wpAny_alloc (zzG ⟨by rw [h1],h2,?_⟩));dsimp only;rw [Heap.size_push];exact h3
  ·rename_i hk;rw [if_neg hk] at h2 h3;exact zzG ⟨h1,h2,h3⟩
 ·obtain⟨h1,h2,h3⟩:=hI
  rw [pushCells.eq_def] at h2;rw [cellsFrom.eq_def] at h3;dsimp only at h2 h3;subst h3;rw [h1,h2];exact zzA (zzG (zzG h))
noncomputable def cu(X:Cx)(N':List Str)(scope:Scope)(cl:List (Str×Addr))(fp:List Addr)(s₁:Shared)(H₁:Hp)(C:Addr):Cx where
 prog:=X.prog
 w:=X.w
 K:=X.K
 mg:=X.mg
 base:=X.base
 A:=X.A
 N:=N'
 s₀:=s₁
 H₀:=H₁
 env:=compEnvC scope (cellsFrom (C+1) scope.names cl) C X.env
 outer:=X.stack
 stack:=X.stack
 ex:=fp
 fn:=lR scope
 calm:=true
 pn:=[]
 xe:=λ_ _=>False
theorem eY{env:Env}:∀{ys:List Str},(ys.all λy=>(env.cells.lookup y).isSome)=true->∀(x:Str) (c:Addr),(bP env ys).lookup x=some c->env.cells.lookup x=some c
 |[],_,_,_,h=>by simp [bP] at h
 |y::ys,ha,x,c,h=>by
  rw [List.all_cons,zza] at ha;have ih:=eY (env:=env) ha.2 x c
  unfold bP at h ih;rw [zzF,List.lookup_cons] at h;cases e:x==y with
  |true=>
   rw [e] at h;have Pc:x=y:=beq_iff_eq.mp e
   subst Pc;obtain⟨c',g8⟩:=Option.isSome_iff_exists.mp ha.1
   rw [g8] at h⊢;exact h
  |false=>
   rw [e] at h;exact ih h
theorem i9{env:Env}:∀{ys:List Str} {x:Str},x∈ys->∃c,(bP env ys).lookup x=some c
 |[],_,h=>nomatch h
 |y::ys,x,h=>by
  unfold bP;rw [zzF,List.lookup_cons];cases e:x==y with
  |true=>exact⟨_,rfl⟩
  |false=>
   have hx:x∈ys:=by
    rcases List.mem_cons.mp h with z|z
    ·rw [z] at e;simp at e
    ·exact z
   exact i9 (env:=env) hx
theorem j9{scope:Scope}{env:Env}{x:Str}{k:NameKind}(h:(relabel scope env).names.lookup x=some k)(hk:k=.cell\/k=.free):∃k',(x,k')∈scope.names/\(k'=.cell\/k'=.free):=by
 have hm:=PySem.mem_of_lookup h
 unfold relabel at hm;obtain⟨⟨n,k0⟩,h0,e⟩:=List.mem_map.mp hm
 dsimp only at e;split at e
 ·rename_i hc;cases e;refine⟨k0,h0,.inr ?_⟩;rw [zza,zza] at hc;exact beq_iff_eq.mp hc.1.1
 ·cases e;exact⟨k,h0,hk⟩
structure fe(X:Cx)(scope:Scope)(xs ys:List Str)(is:List Nat):Prop where
 kind:scope.kind=.function
 Pb:closureFor scope X.env=pure (bP X.env ys)
 cells:(ys.all λy=>(X.env.cells.lookup y).isSome)=true
 Ie:(scope.names.all λy=>(decide (y.2≠.cell)||!ys.contains y.1)&&(decide (y.2≠.free)||ys.contains y.1))=true
 own:(scope.names.all λy=>decide (y.2≠.cell)||decide (scope.names.lookup y.1=some .cell))=true
 names:(scope.names.all λy=>decide (y.2≠.local)||decide (scope.names.lookup y.1=some .local))=true
 slots:is.map (λi=>X.N[i]?)=ys.map some
 kX:(ys.all λy=>decide (X.env.kindOf y=some .cell))=true
 kY:(ys.all λy=>decide ((relabel scope X.env).names.lookup y=some .cell))=true
section
variable{X:Cx}{aa:List (Addr×Obj)}{σ:St}{H:Hp}{s:Shared}{scope:Scope}{xs ys:List Str}{is:List Nat}
theorem fe.Ij(S:fe X scope xs ys is){x:Str}(h:(x,NameKind.cell)∈scope.names):scope.names.lookup x=some .cell/\x∉ys:=by
 have q:=zzT.mp S.own _ h
 have c:=zzT.mp S.Ie _ h
 rw [zza,Bool.or_eq_true] at c;rw [Bool.or_eq_true] at q;refine⟨zzY (q.resolve_left λz=>zzY z rfl),λhy=>?_⟩
 rcases c.1 with z|z
 ·exact zzY z rfl
 ·rw [List.contains_iff_mem.mpr hy] at z;cases z
theorem gB(I:Inv X aa σ H s)(S:fe X scope xs ys is){C:Addr}(hC:s.heap.objs.size<=C){x:Str}{c:Addr}(h:(cellsFrom (C+1) scope.names (bP X.env ys)).lookup x=some c):
 (X.env.cells.lookup x=some c/\c<s.heap.objs.size/\x∈ys)\/((x,NameKind.cell)∈scope.names/\C+1<=c):=by
 rcases pH _ _ _ h with z|z
 ·have e:=eY S.cells x c z
  obtain⟨v,q⟩:=I.cell x c e
  refine .inl ⟨e,q.lt,?_⟩;have hm:=PySem.mem_of_lookup z
  unfold bP at hm;obtain⟨y,hy,e2⟩:=List.mem_map.mp hm
  cases e2;exact hy
 ·exact .inr z
theorem xm(I:Inv X aa σ H s)(hc:X.calm=true)(S:fe X scope xs ys is){N':List Str}{fp:List Addr}{C:Addr}(hC:s.heap.objs.size<=C)(hf:∀b∈fp,fD X aa H b)(C7:∀b∈fp,b<s.heap.objs.size):
 (cu X N' scope (bP X.env ys) fp s H C).Ok where
 mod:=I.ok.mod
 kind:=S.kind
 glob:=I.ok.glob
 blt:=I.ok.blt
 above:=hC
 inj:=λx y c h1 h2=>by
  rcases gB I S hC h1 with z1|z1
  ·rcases gB I S hC h2 with z2|z2
   ·exact I.ok.inj x y c z1.1 z2.1
   ·exact absurd z1.2.1 (Nat.not_lt.mpr (zzU hC (Nat.le_of_succ_le z2.2)))
  ·refine pS scope.names (C+1) (bP X.env ys) (λp hp=>?_) z1.2 (PySem.mem_of_lookup h1) (PySem.mem_of_lookup h2);unfold bP at hp;obtain⟨y,hy,rfl⟩:=List.mem_map.mp hp
   obtain⟨c',g8⟩:=Option.isSome_iff_exists.mp (zzT.mp S.cells y hy)
   obtain⟨v,q⟩:=I.cell y c' g8
   dsimp only;rw [g8];exact Nat.lt_succ_of_le (zzU (Nat.le_of_lt q.lt) hC)
 has:=λx hx=>by
  have yI:(relabel scope X.env).names.lookup x=some .cell\/(relabel scope X.env).names.lookup x=some .free:=hx
  have:∃k',(x,k')∈scope.names/\(k'=.cell\/k'=.free):=by
   rcases yI with z|z
   ·exact j9 z (.inl rfl)
   ·exact j9 z (.inr rfl)
  obtain⟨k',hm,hk⟩:=this
  have cv:=zzT.mp S.Ie _ hm
  rw [zza,Bool.or_eq_true,Bool.or_eq_true] at cv;rcases hk with z|z
  ·subst z;exact Option.isSome_iff_exists.mp (PySem.W.cellsFrom_some _ _ _ (.inl (S.Ij hm).1))
  ·rcases cv.2 with q|q
   ·exact absurd z (zzY q)
   ·refine Option.isSome_iff_exists.mp (PySem.W.cellsFrom_some _ _ _ (.inr ?_));obtain⟨c,e⟩:=i9 (env:=X.env) (List.contains_iff_mem.mp q)
    rw [e];rfl
 Gw:=λx c h e=>by
  have hm:(x,NameKind.cell)∈scope.names:=PySem.mem_of_lookup (eq_of_beq h)
  rcases gB I S hC e with z|z
  ·exact absurd z.2.2 (S.Ij hm).2
  ·exact zzU hC (Nat.le_of_succ_le z.2)
 hd:=λ_=>I.ok.hd hc
 frames:=I.ok.frames
 Ak:=.inl rfl
 Qm:=λb hb=>⟨zzb (zzW (C7 b hb) hC),λx c h=>(gB I S hC h).elim (λz=>(hf b hb).2.2.2.2.1 x c z.1) λz q=>absurd (C7 b hb) (Nat.not_lt.mpr (q▸zzU hC (Nat.le_of_succ_le z.2)))⟩
 bs:=λb o e=>I.bs b o e
 ud:=zzU I.ok.ud I.sz
 yF:=λb o e hb=>by
  rcases(hf b hb).2.2.2.1 with z|z
  ·exact I.ok.yF b o e z
  ·exact absurd (zzW (zzO e) (zzU I.ok.ud z)) (Nat.lt_irrefl _)
 zF:=λb hb hs=>(List.mem_cons.mp (I.iO b hs)).elim (hf b hb).2.1 (hf b hb).2.2.1
 fV:=I.stack
 tW:=λb hb=>I.kO b hb
theorem v8{N:List Str}:∀{is:List Nat} {ys:List Str},is.map (λi=>N[i]?)=ys.map some->∀(j:Nat) (y:Str) (v:V),ys[j]?=some y->(B7 σ is)[j]?=some (some v)->∃i:Nat,N[i]?=some y/\σ[i]?=some (some v)
 |[],[],_,_,_,_,h,_=>by simp at h
 |[],_::_,h,_,_,_,_,_=>by simp at h
 |_::_,[],h,_,_,_,_,_=>by simp at h
 |i::is,y0::ys,h,0,y,v,h1,h2=>by
  rw [zzF,zzF] at h;have h0:=(List.cons.inj h).1
  simp only [List.getElem?_cons_zero,Option.some.injEq] at h1;subst h1;refine⟨i,h0,?_⟩;unfold B7 at h2;simp only [zzF,List.getElem?_cons_zero,Option.some.injEq] at h2;exact Option.join_eq_some_iff.mp h2
 |i::is,y0::ys,h,j+1,y,v,h1,h2=>by
  rw [zzF,zzF] at h;refine v8 (is:=is) (ys:=ys) (List.cons.inj h).2 j y v (by simpa using h1) ?_;unfold B7 at h2⊢
  simpa using h2
abbrev lobj(ay:List Value)(n:Nat):Obj:={cls:=.type "list",data:=.seq ay.toArray n}
theorem yl(ay:List Value)(n:Nat)(v:Option Value):(lobj ay n).data≠.cell v:=λz=>by cases z
abbrev tests(ifs:List Expr)(env:Env):Sem Bool:=forIn ifs true λc r=>if r=true then do let ok<-isTrue c env (eval c env);pure (ForInStep.yield ok) else pure (ForInStep.yield r)
theorem pj{prog:Program}{w:World}{A:Around}{R:Result->Shared->Prop}{s:Shared}{elt target iter:Expr}{ifs:List Expr}{scope:Scope}{pos:Pos}{it acc:Value}{env:Env}(I:Nat->Shared->Prop)
 (turn:∀n s,I n s->wpAny (model prog w) A (pyNext it) (λr s₁=>match r with
  |none=>R (.ok .next) s₁
  |some v=>wpAny (model prog w) A (letOwnedTupleGo target it v) (λ_ s₁'=>wpAny (model prog w) A (assign target env v) (λ_ s₂=>
   wpAny (model prog w) A (tests ifs env) (λok s₃=>if ok=true then wpAny (model prog w) A (eval elt env) (λx s₄=>
    wpAny (model prog w) A (call (.builtin "list.append") [acc,x]) (λ_ s₅=>∃m,m<n/\I m s₅) (notedBy (model prog w) A env λe s'=>R (.error e) s') s₄) (notedBy (model prog w) A env λe s'=>R (.error e) s') s₃
    else∃m,m<n/\I m s₃) (notedBy (model prog w) A env λe s'=>R (.error e) s') s₂)
   (notedBy (model prog w) A env λe s'=>R (.error e) s') s₁') (notedBy (model prog w) A env λe s'=>R (.error e) s') s₁) (notedBy (model prog w) A env λe s'=>R (.error e) s') s)
 (n:Nat) (h:I n s):
 codeAny (model prog w) A (.compLoop (.ListComp elt [⟨target,iter,ifs,0⟩] scope pos) 0 it acc env) R s:=by
 refine codeAny_loop rfl I (λn s hI=>?_) n h;show wpAny _ A ((compTurn (.ListComp elt [⟨target,iter,ifs,0⟩] scope pos) 0 it acc env).onRaise (λx=>do noteFrame x env;theTreesLotGoes x)) _ _ s;refine wpAny_noted ?_;rw [compTurn_list];refine zzA (wpAny_standAt (zzA (wpAny_mono (turn n s hI) (λr s₁ h₁=>?_) λ_ _ h'=>h')))
 cases r with
 |none=>exact zzG h₁
 |some v=>
  refine zzA (wpAny_mono h₁ (λ_ s₁' h₁'=>?_) λ_ _ h'=>h')
  refine zzA (wpAny_mono h₁' (λ_ s₂ h₂=>zzA (wpAny_mono h₂ (λok s₃ h₃=>?_) λ_ _ h'=>h')) λ_ _ h'=>h')
  cases ok with
  |false=>exact zzG ⟨rfl,h₃⟩
  |true=>exact zzA (zzA (wpAny_mono h₃ (λx s₄ h₄=>zzA (wpAny_mono h₄ (λ_ s₅ h₅=>zzG (zzG ⟨rfl,h₅⟩)) λ_ _ h'=>h')) λ_ _ h'=>h'))
def Rc(X:Cx)(ifs:List Expr)(t:TT):Prop:=
 ∀(aa:List (Addr×Obj)) (s:Shared) (σ:St) (H:Hp) (Q:Bool->Hp->Prop),Inv X aa σ H s->t σ H Q->wpAny (model X.prog X.w) X.A (tests ifs X.env) (TP X aa σ Q) X.xe s
theorem vH{X:Cx}:Rc X [] (λ_ H q=>q true H):=λ_ _ _ H _ I h=>wpAny_tests_nil ⟨H,I,h⟩
theorem vo{X:Cx}{e:Expr}{t:TT}(h:PT X e t):Rc X [e] t:=λaa s σ H Q I z=>wpAny_tests_one (h aa s σ H Q I z)
def NG(J:It)(k:Nat)(g:TG)(te:TE)(fs:St)(Q:VK)(H1:Hp):Prop:=∃(n:Nat) (W:Nat->List V->St->Hp->Prop),W 0 [] (List.replicate k none++fs) H1/\
 ∀i ys σ' H',W i ys σ' H'->ys.length<sizeLine/\((J.stop i H'/\∀p,H' p=none->Q (.ref p) (upd H' p (.lst ys)))\/
  (J.go i H'/\i<n/\∀x nj,J.LO i H' x nj->g x σ' nj λσ2 H2=>te σ2 H2 λy H3=>W (i+1) (ys++[y]) σ2 H3))
noncomputable def AU(wi:TI)(k:Nat)(g:TG)(te:TE)(is:List Nat):TE:=λσ H Q=>wi σ H λJ H1=>NG J k g te (B7 σ is) Q H1
def Ge(J:It)(k:Nat)(g:TG)(tt:TT)(te:TE)(fs:St)(Q:VK)(H1:Hp):Prop:=∃(n:Nat) (W:Nat->List V->St->Hp->Prop),W 0 [] (List.replicate k none++fs) H1/\
 ∀i ys σ' H',W i ys σ' H'->ys.length<sizeLine/\((J.stop i H'/\∀p,H' p=none->Q (.ref p) (upd H' p (.lst ys)))\/
  (J.go i H'/\i<n/\∀x nj,J.LO i H' x nj->g x σ' nj λσ2 H2=>tt σ2 H2 λb H3=>if b=true then te σ2 H3 (λy H4=>W (i+1) (ys++[y]) σ2 H4) else W (i+1) ys σ2 H3))
noncomputable def k7(wi:TI)(k:Nat)(g:TG)(tt:TT)(te:TE)(is:List Nat):TE:=λσ H Q=>wi σ H λJ H1=>Ge J k g tt te (B7 σ is) Q H1
theorem g6{elt tg iter:Expr}{ifs:List Expr}{pos pp:Pos}{wi:TI}{g:TG}{te:TE}{tt:TT}{use:Option (Value->Sem Unit)}{QQ:Value->Shared->Prop}{Q:VK}(hc:X.calm=true)(S:fe X scope xs ys is)(hi:PI X tg iter wi)
 (hg:∀fp s1 H1 C,PG (cu X (xs++ys) scope (bP X.env ys) fp s1 H1 C) tg g) (ht:∀fp s1 H1 C,Rc (cu X (xs++ys) scope (bP X.env ys) fp s1 H1 C) ifs tt) (he:∀fp s1 H1 C,PE (cu X (xs++ys) scope (bP X.env ys) fp s1 H1 C) elt te)
 (hs:∀x,foldedSetIterable iter X.env x=pure x) (I:Inv X aa σ H s) (h:k7 wi xs.length g tt te is σ H Q)
 (fin:∀(D C:Addr) (s4:Shared) (H4:Hp) (m:Str->Option Value),Inv X aa σ H4 s4->s4.heap.Ns C m->fD X aa H4 C->Q (.ref D) H4->compPost (model X.prog X.w) X.A X.xe use QQ (.ref D) C (.ok .next) s4):
 wpAny (model X.prog X.w) X.A (comprehension (.ListComp elt [⟨tg,iter,ifs,0⟩] scope pos) scope X.env pp (newList []) false (eval iter X.env) use) QQ X.xe s:=by
 have Kb:∀x∈scope.names,x.2=.local->scope.names.lookup x.1=some .local:=λx hx hl=>by
  have q:=zzT.mp S.names x hx
  rw [Bool.or_eq_true] at q;rcases q with q|q
  ·exact absurd hl (zzY q)
  ·exact zzY q
 refine wpAny_comprehension_free (use:=use) (Q:=QQ) (g:=⟨tg,iter,ifs,0⟩) (gs:=[]) rfl hs S.Pb S.kind Kb (bR (hi aa s σ H _ I h) λxv s0 h0=>bR h0 λPp s1 h1=>?_)
 obtain⟨it,fp,tn,J,H1,rfl,I1,T,HI,f1,n,W,w0,turn⟩:=h1
 refine wpAny_newObj_type (uQ ?_);dsimp only;generalize hH2:s1.heap.push {cls:=.type "list",dict:=none,data:=.seq ([]:List Value).toArray}=G2
 generalize hh₁:pushCells (G2.push {cls:=.type "dict",data:=.dict #[]}) scope.names=h₁
 have Px:∀b o,(G2.push {cls:=.type "dict",data:=.dict #[]}).get? b=some o->h₁.get? b=some o:=λb o e=>by rw [<-hh₁];exact pushCells_keeps _ _ b o e
 have hns₁:h₁.Ns G2.objs.size λ_=>none:=(Heap.Ns.new G2 (.type "dict")).keeps Px
 have Su:G2.objs.size=s1.heap.objs.size+1:=by rw [<-hH2,Heap.size_push]
 have nE:s1.heap.objs.size<=G2.objs.size:=by rw [Su];exact Nat.le_succ _
 have OS:s1.heap.objs.size≠G2.objs.size:=by rw [Su];exact zzb (Nat.lt_succ_self _)
 have old:∀b o,s1.heap.get? b=some o->h₁.get? b=some o:=λb o e=>Px b o (zzB _ (hH2▸zzB _ e))
 have Qz:h₁.get? s1.heap.objs.size=some (lobj [] 0):=Px _ _ (zzB _ (hH2▸zzX _ rfl))
 have C7:∀b∈fp,b<s1.heap.objs.size:=λb hb=>by
  obtain⟨o,e,_⟩:=T.obj _ _ HI b hb
  exact zzO e
 generalize hY:cu X (xs++ys) scope (bP X.env ys) fp s1 H1 G2.objs.size=Y
 have U7:Y.Ok:=by rw [<-hY];exact xm I1 hc S nE f1 C7
 have SJ:∀b∈fp,s1.heap.objs.size≠b:=λb hb=>Ne.symm (zzb (C7 b hb))
 have QS:∀b,b∈Y.fs->b=X.env.locals\/b∈X.fs:=λb hb=>by
  rw [<-hY] at hb;exact List.mem_cons.mp (I1.iO b hb)
 have P5:∀b∈Y.fs,b<s1.heap.objs.size:=λb hb=>by
  rw [<-hY] at hb;obtain⟨_,o,ho,_⟩:=I1.stack.mem hb
  exact zzO ho
 have PX:s1.heap.objs.size∉Y.fs:=λz=>Nat.lt_irrefl _ (P5 _ z)
 have KO:Y.env.locals=G2.objs.size:=by rw [<-hY];rfl
 have ON:∀x c,Y.env.cells.lookup x=some c->(X.env.cells.lookup x=some c/\c<s1.heap.objs.size/\x∈ys)\/((x,NameKind.cell)∈scope.names/\G2.objs.size+1<=c):=λx c e=>by
  rw [<-hY] at e;exact gB I1 S nE e
 have UG:∀x c,Y.env.cells.lookup x=some c->G2.objs.size+1<=c->h₁.IsCell c none:=λx c e hle=>by
  rw [<-hY] at e;have hm:(x,c)∈cellsFrom (G2.objs.size+1) scope.names []:=JU scope.names _ _ (PySem.mem_of_lookup e) λp hp=>by
   unfold bP at hp;obtain⟨y,hy,rfl⟩:=List.mem_map.mp hp
   obtain⟨c',g8⟩:=Option.isSome_iff_exists.mp (zzT.mp S.cells y hy)
   obtain⟨v,q⟩:=I1.cell y c' g8
   dsimp only;rw [g8];exact zzb (zzW q.lt (zzU nE (Nat.le_of_succ_le hle)))
  have ck:=cellsFrom_ok scope.names (G2.push {cls:=.type "dict",data:=.dict #[]}) 0 [] ⟨(λ_ _ z=>nomatch z),.nil⟩ (Nat.zero_le _)
  rw [Heap.size_push,hh₁] at ck;exact(ck.empty x c hm).1
 have Ue:∀x c,Y.env.cells.lookup x=some c->c≠s1.heap.objs.size:=λx c e=>(ON x c e).elim (λz=>zzb z.2.1) λz=>Ne.symm (zzb (zzV nE z.2))
 have zO:Y.pn=[]:=by rw [<-hY];rfl
 have MF:Y.ex=fp:=by rw [<-hY];rfl
 have LZ:Y.s₀=s1:=by rw [<-hY];rfl
 have S0:Y.H₀=H1:=by rw [<-hY];rfl
 have NA:Y.prog=X.prog:=by rw [<-hY];rfl
 have NU:Y.w=X.w:=by rw [<-hY];rfl
 have RH:Y.K=X.K:=by rw [<-hY];rfl
 have Qw:Y.A=X.A:=by rw [<-hY];rfl
 have UH:compEnvC scope (cellsFrom (G2.objs.size+1) scope.names (bP X.env ys)) G2.objs.size X.env=Y.env:=by rw [<-hY];rfl
 have Mv:Y.calm=true:=by rw [<-hY];rfl
 have Hz:Y.xe=λ_ _=>False:=by rw [<-hY];rfl
 have ML:Y.fs=en X.stack:=by rw [<-hY];rfl
 have MM:∀{H':Hp} {s':Shared} {ay:List Value} {k:Nat},s'.heap.get? s1.heap.objs.size=some (lobj ay k)->H' s1.heap.objs.size=none->∀p∈[(s1.heap.objs.size,lobj ay k)],s'.heap.get? p.1=some p.2/\H' p.1=none/\p.1≠Y.env.locals/\p.1∉Y.fs/\∀v,p.2.data≠.cell v:=
  λ{H' s' ay k} e hn p hp=>by
   obtain rfl:=zzi.mp hp
   exact⟨e,hn,by rw [KO];exact OS,PX,λv=>yl ay k v⟩
 have QH:∀{H':Hp} {ay:List Value} {k:Nat},(∀b∈fp,H' b=none)->∀b∈fp,fD Y [(s1.heap.objs.size,lobj ay k)] H' b:=λ{H' ay k} hn b hb=>
  ⟨hn b hb,by rw [KO];exact zzb (zzW (C7 b hb) nE),λz=>(QS b z).elim (f1 b hb).2.1 (f1 b hb).2.2.1,.inl (by rw [MF];exact hb),
   λx c e=>(ON x c e).elim (λz=>(f1 b hb).2.2.2.2.1 x c z.1) (λz q=>absurd (C7 b hb) (Nat.not_lt.mpr (q▸zzU nE (Nat.le_of_succ_le z.2)))),λp hp=>by
    rw [zO,List.nil_append] at hp;obtain rfl:=zzi.mp hp
    exact SJ b hb⟩
 have NO:H1 s1.heap.objs.size=none:=I1.aQ.fresh (zzE _)
 have I2:∀tk,Inv Y [(s1.heap.objs.size,lobj [] 0)] (List.replicate xs.length none++B7 σ is) H1 {s1 with heap:=h₁,toks:=tk}:=λtk=>by
  refine⟨U7,by rw [LZ],I1.bare,by rw [LZ,S0];exact Un.kept old,⟨_,by rw [KO];exact hns₁,λi x v e1 e2 e3=>?_⟩,λx c e=>?_,?_,λx c e=>(ON x c e).elim (λz=>I1.eK x c z.1) (λz=>I1.aQ.fresh (zzU nE (Nat.le_of_succ_le z.2))),λp hp=>?_,by rw [NA,NU];exact I1.aQ.kept old,?_⟩
  ·
   have P0:Y.N=xs++ys:=by rw [<-hY];rfl
   rw [P0] at e1
   by_cases cg:i<xs.length
   ·rw [List.getElem?_append_left (by rw [List.length_replicate];exact cg),List.getElem?_replicate,if_pos cg] at e2;cases e2
   ·have HX:xs.length<=i:=Nat.not_lt.mp cg
    rw [List.getElem?_append_right (by rw [List.length_replicate];exact HX),List.length_replicate] at e2;rw [List.getElem?_append_right HX] at e1;obtain⟨i0,h0,h1⟩:=v8 S.slots _ x v e1 e2
    have hm:x∈ys:=zzD e1
    have kx:X.env.kindOf x=some .cell:=zzY (zzT.mp S.kX x hm)
    have ky:(relabel scope X.env).names.lookup x=some .cell:=zzY (zzT.mp S.kY x hm)
    obtain⟨m,_,hl⟩:=I1.loc
    obtain⟨u,ru,lk⟩:=hl i0 x v h0 h1 (.inr (.inl kx))
    refine⟨u,ru,.inr ⟨.inl (by rw [<-hY];exact ky),?_⟩⟩;rcases lk with⟨z,_⟩|⟨_,c,hc1,hc2⟩
    ·rw [kx] at z;cases z
    ·obtain⟨c',g8⟩:=i9 (env:=X.env) hm
     have Ma:=eY S.cells x c' g8
     rw [hc1] at Ma;cases Ma;refine⟨c,by rw [<-hY];exact(qv _ _ _ λz=>(S.Ij z).2 hm).trans g8,?_⟩
     obtain⟨o,ho,hd⟩:=hc2
     exact⟨o,old _ _ ho,hd⟩
  ·rcases ON x c e with z|z
   ·obtain⟨v,o,ho,hd⟩:=I1.cell x c z.1
    exact⟨v,o,old _ _ ho,hd⟩
   ·exact⟨none,UG x c e z.2⟩
  ·rw [KO];exact I1.aQ.fresh nE
  ·rw [zO,List.nil_append] at hp;exact MM (s':={s1 with heap:=h₁,toks:=tk}) Qz NO p hp
  ·have P0:Y.N=xs++ys:=by rw [<-hY];rfl
   have hl:=congrArg List.length S.slots
   rw [zzl,zzl] at hl;rw [P0,zzM,zzM,List.length_replicate];unfold B7;rw [zzl,hl]
 have loop:∀s₃:Shared,s₃={s1 with heap:=h₁}->
  codeAny (model X.prog X.w) X.A (.compLoop (.ListComp elt [⟨tg,iter,ifs,0⟩] scope pos) 0 (.ref it) (.ref s1.heap.objs.size) (compEnvC scope (cellsFrom (G2.objs.size+1) scope.names (bP X.env ys)) G2.objs.size X.env))
   (compPost (model X.prog X.w) X.A X.xe use QQ (.ref s1.heap.objs.size) G2.objs.size) s₃:=by
  rintro s₃ rfl
  rw [UH];refine pj (λk s'=>∃i made σ' H' ay c,Inv Y [(s1.heap.objs.size,lobj ay c)] σ' H' s'/\tn i s'.heap/\(∀b∈fp,H' b=none)/\Vals made ay/\k=n-i/\W i made σ' H') ?_ n
   ⟨0,[],_,H1,[],0,I2 _,T.keep _ _ _ HI λb _ o e=>old b o e,λb hb=>(f1 b hb).1,.nil,rfl,w0⟩
  rintro k s' ⟨i,made,σ',H',ay,c,I3,st3,fr3,rv,rfl,w3⟩
  obtain⟨hz,tw⟩:=turn i made σ' H' w3
  have pD:=I3.pin (s1.heap.objs.size,lobj ay c) (by rw [zO];exact zzi.mpr rfl)
  rcases tw with⟨stop,hq⟩|⟨go,OT,step⟩
  ·rw [<-Qw];refine bR (T.done Y NA NU RH Mv i _ s' σ' H' _ I3 (QH fr3) st3 stop) λr s4 ⟨hr,I4⟩=>?_
   subst hr;obtain⟨m,hn4,_⟩:=I4.loc
   rw [KO] at hn4;have Ql:=I4.pin (s1.heap.objs.size,lobj ay c) (by rw [zO];exact zzi.mpr rfl)
   have kp:∀b o,b≠G2.objs.size->s4.heap.get? b=some o->s4.heap.get? b=some o:=λb o hb e=>e
   have Pz:∀{b o},s1.heap.get? b=some o->b≠G2.objs.size:=λ{b o} e=>zzb (zzW (zzO e) nE)
   have eW:=I4.base
   rw [LZ,S0,MF,ML] at eW;have QL:∀{b o},H1 b=some o->b≠s1.heap.objs.size:=λ{b o} e=>zzb (I1.aQ.lt e)
   have u:Un (en X.stack) fp H1 (upd H' s1.heap.objs.size (.lst made)) s1.heap s4.heap:=by
    refine⟨λb o e n hb hx=>kp b o (Pz e) (eW.keep b o e n hb hx),λb o e n hb hx=>?_,λb o e n hx=>?_,λb o e hx=>?_,λb xs e=>?_,λb o u e=>?_,λb ps e=>?_⟩
    ·obtain⟨sl,q⟩:=eW.slot b o e n hb hx
     exact⟨sl,kp b _ (Pz e) q⟩
    ·rw [ae (zzb (zzO e))];exact eW.free b o e n hx
    ·obtain⟨o',q⟩:=eW.there b o e hx
     exact⟨o',kp b _ (Pz e) q⟩
    ·rw [ae (QL e)];exact eW.gk b xs e
    ·rw [ae (QL e)];exact eW.fk b o u e
    ·obtain⟨more,q⟩:=eW.fM b ps e
     exact⟨more,by rw [ae (QL e)];exact q⟩
   have Tj:H' G2.objs.size=none:=by rw [<-KO];exact I4.free
   have EX:eh X.prog X.w (upd H' s1.heap.objs.size (.lst made)) s4.heap:=λb o e=>by
    by_cases hb:b=s1.heap.objs.size
    ·subst hb;rw [ak] at e;cases e;exact⟨Nat.le_of_lt hz,ay,c,rv,kp _ _ OS Ql.1⟩
    ·rw [ae hb] at e;have x4:=I4.aQ b o e
     rw [NA,NU] at x4;have IM:∀b' u,H' b'=some u->b'≠G2.objs.size:=λb' u q z=>by rw [z,Tj] at q;cases q
     have SN:∀b' u,H' b'=some u->b'≠s1.heap.objs.size:=λb' u q z=>by rw [z,Ql.2.1] at q;cases q
     refine x4.eF (λb' u nk q=>kp b' u ?_ q) (λb' q=>?_) λb' xs q=>?_
     ·rcases nk with z|z
      ·rw [z];exact IM b o e
      ·exact IM b' _ z
     ·rw [ae (SN b' _ q)];exact q
     ·rw [ae (SN b' _ q)];exact q
   have I5:Inv X aa σ (upd H' s1.heap.objs.size (.lst made)) s4:=I1.L9 (by show s4.os=s1.os;rw [I4.os,LZ]) u EX I4.bare λb hb=>⟨(f1 b hb).2.2.2.1,(f1 b hb).2.1,(f1 b hb).2.2.2.2.1,(f1 b hb).2.2.2.2.2⟩
   dsimp only;rw [Qw];exact fin s1.heap.objs.size G2.objs.size s4 _ m I5 hn4 (I1.lB nE (by rw [ae (Ne.symm OS)];exact Tj)) (hq _ Ql.2.1)
  ·rw [<-Qw];refine bR (T.item Y NA NU RH Mv i _ s' σ' H' _ I3 (QH fr3) st3 go) λr s4 ⟨u,hr,h4⟩=>?_
   subst hr;dsimp only;refine bR h4 λ_ s5 ⟨x,H5,I5,r5,y5,st5,fr5⟩=>?_
   have Rf:=I5.pinned (QH fr5) (T.obj _ _ st5)
   have S5:=hg fp s1 H1 G2.objs.size
   have Rv:=he fp s1 H1 G2.objs.size
   have RA:=ht fp s1 H1 G2.objs.size
   rw [hY] at S5 Rv RA;rw [<-NA,<-NU];refine wpAny_mono (S5 _ s5 σ' H5 x u _ Rf r5 (step x H5 y5)) (λ_ s6 ⟨σ6,H6,I6,q6⟩=>?_) (λ_ _ f=>by rw [Hz] at f;exact f.elim);refine wpAny_mono (RA _ s6 σ6 H6 _ I6 q6) (λokb sT ⟨HT,IT,qT⟩=>?_) (λ_ _ f=>by rw [Hz] at f;exact f.elim);have Vy:=IT.pin (s1.heap.objs.size,lobj ay c) (zzR _ (zzc _ (zzi.mpr rfl)))
   have UU:tn (i+1) sT.heap:=T.keep _ _ _ st5 λb hb o e=>(IT.pin (b,o) (zzR _ (zzR _ (dI hb e)))).1
   cases okb with
   |false=>
    refine⟨n-(i+1),by omega,i+1,made,σ6,HT,ay,c,IT.iZ,UU,λb hb=>?_,rv,rfl,qT⟩
    obtain⟨o,e,d⟩:=T.obj _ _ st5 b hb
    exact(IT.pin (b,o) (zzR _ (zzR _ (dI hb e)))).2.1
   |true=>
   refine wpAny_mono (Rv _ sT σ6 HT _ IT qT) (λv s7 ⟨y,H7,I7,r7,q7⟩=>?_) (λ_ _ f=>by rw [Hz] at f;exact f.elim);have Pf:=I7.pin (s1.heap.objs.size,lobj ay c) (zzR _ (zzc _ (zzi.mpr rfl)))
   have e7:s7.heap.get? s1.heap.objs.size=some {cls:=.type "list",data:=.seq ay.toArray c}:=Pf.1
   refine append_at (hsz:=by rw [zzC,<-rv.length];exact Nat.le_of_lt hz) e7 λh' yi U9=>?_
   have I8:Inv Y [] σ6 H7 s7:=I7.g7 λ_ z=>nomatch z
   have I9:Inv Y [] σ6 H7 {s7 with heap:=h'}:=I8.turned (t':=s7.toks) (it:=s1.heap.objs.size) (λb o hb e=>yi.extBut b o hb e) Pf.2.1 (by rw [KO];exact OS) (.inr (by rw [LZ];exact zzE _))
    (λx c' e=>Ue x c' e) (λp hp=>by rw [zO] at hp;cases hp)
   have eD:h'.get? s1.heap.objs.size=some (lobj (ay++[v]) (c+1)):=by rw [U9,List.push_toArray]
   have Vi:tn (i+1) s7.heap:=T.keep _ _ _ st5 λb hb o e=>(I7.pin (b,o) (zzR _ (zzR _ (dI hb e)))).1
   refine⟨n-(i+1),by omega,i+1,made++[y],σ6,H7,ay++[v],c+1,I9.g7 (MM (s':={s7 with heap:=h'}) eD Pf.2.1),T.keep _ _ _ Vi λb hb o e=>yi.extBut b o (Ne.symm (SJ b hb)) e,λb hb=>?_,rv.append (.cons r7 .nil),rfl,q7⟩
   obtain⟨o,e,d⟩:=T.obj _ _ st5 b hb
   exact(I7.pin (b,o) (zzR _ (zzR _ (dI hb e)))).2.1
 exact codeAny_compStart_list (loop _ rfl) (T.self _ 0 _ _ _ (T.keep _ _ _ HI λb _ o e=>old b o e) (loop _ rfl))
theorem D5{elt tg iter:Expr}{pos:Pos}{wi:TI}{g:TG}{te:TE}(hc:X.calm=true)(S:fe X scope xs ys is)(hi:PI X tg iter wi)
 (hg:∀fp s1 H1 C,PG (cu X (xs++ys) scope (bP X.env ys) fp s1 H1 C) tg g) (he:∀fp s1 H1 C,PE (cu X (xs++ys) scope (bP X.env ys) fp s1 H1 C) elt te)
 (hs:∀x,foldedSetIterable iter X.env x=pure x:=by intro _;rfl):
 PE X (.ListComp elt [⟨tg,iter,[],0⟩] scope pos) (AU wi xs.length g te is):=by
 intro aa s σ H Q I h;rw [eval_ListComp];exact g6 (use:=none) (Q:=Q) hc S hi hg (λ_ _ _ _=>vH) he hs I h (λD C s4 H4 m I5 hn ⟨g0,g1,_,g3,g4,g5⟩ q=>⟨m,hn,λh' yi=>⟨.ref D,H4,I5.turned (t':=s4.toks) (it:=C) (λb o hb e=>yi.extBut b o hb e) g0 g1 g3 g4 g5,rfl,q⟩⟩)
theorem xu{elt tg iter Ky:Expr}{pos:Pos}{wi:TI}{g:TG}{te:TE}{tt:TT}(hc:X.calm=true)(S:fe X scope xs ys is)(hi:PI X tg iter wi)
 (hg:∀fp s1 H1 C,PG (cu X (xs++ys) scope (bP X.env ys) fp s1 H1 C) tg g) (ht:∀fp s1 H1 C,PT (cu X (xs++ys) scope (bP X.env ys) fp s1 H1 C) Ky tt) (he:∀fp s1 H1 C,PE (cu X (xs++ys) scope (bP X.env ys) fp s1 H1 C) elt te)
 (hs:∀x,foldedSetIterable iter X.env x=pure x:=by intro _;rfl):
 PE X (.ListComp elt [⟨tg,iter,[Ky],0⟩] scope pos) (k7 wi xs.length g tt te is):=by
 intro aa s σ H Q I h;rw [eval_ListComp];exact g6 (use:=none) (Q:=Q) hc S hi hg (λfp s1 H1 C=>vo (ht fp s1 H1 C)) he hs I h (λD C s4 H4 m I5 hn ⟨g0,g1,_,g3,g4,g5⟩ q=>⟨m,hn,λh' yi=>⟨.ref D,H4,I5.turned (t':=s4.toks) (it:=C) (λb o hb e=>yi.extBut b o hb e) g0 g1 g3 g4 g5,rfl,q⟩⟩)
end
theorem bD{H:Hp}{p:Addr}{o:HO}(h:H p=none):aC H (upd H p o):=λb u e=>by rw [ae (bJ e h)];exact e
section
variable{X:Cx}
theorem range_all(bs:List Bool):(List.range bs.length).all (λi=>(bs[i]?).getD true)=bs.all id:=by
 rw [Bool.eq_iff_iff,zzT,zzT]
 constructor
 ·intro h b hb;obtain⟨i,hi,e⟩:=List.getElem_of_mem hb
  have q:=h i (List.mem_range.mpr hi)
  rw [zzg hi,Option.getD_some,e] at q;exact q
 ·intro h i hi;have OR:=List.mem_range.mp hi
  rw [zzg OR,Option.getD_some];exact h _ (List.getElem_mem OR)
theorem BV(hc:X.calm=true):cD X (.builtin "all") (λxs H Q=>∃(p:Addr) (bs:List Bool),xs=[.ref p]/\gz X.K H p (bs.map V.bl)/\Q (.bl (bs.all id)) H):=by
 intro aa s σ H xs us Q I r h;obtain⟨p,bs,rfl,hp,q⟩:=h
 obtain⟨u,rfl,ru⟩:=vals1 r
 cases ru;obtain⟨ay,rv,pl,hz⟩:=I.list hp
 have cg:p<s.heap.objs.size:=by obtain⟨_,e,_⟩:=pl.isList;exact zzO e
 have hlen:ay.length=bs.length:=by rw [<-rv.length,zzl]
 refine call_all_walk (wpAny_pyIter_list pl.isList ?_);refine⟨s.heap.objs.size,_,_,ay.toArray.size,_,_,λi=>(bs[i]?).getD true,rfl,Walks.list (A:=X.A.in1) (I.ok.hd hc) s.heap.objs.size p (zzb cg) ay.toArray,⟨⟨_,zzX _ rfl,rfl,rfl⟩,pl.isList.push _⟩,λi v s2 Q2 E2 hP hQ=>?_,λh' tk hk=>?_⟩
 ·have hv:ay[i]?=some v:=by simpa using hP
  have hi:i<bs.length:=by rw [<-hlen];exact(zzH.mp hv).1
  obtain⟨u,hu,ru⟩:=rv.get (i:=i) (x:=V.bl bs[i]) (by rw [zzQ,zzg hi];rfl)
  rw [hv] at hu;cases hu;have e:v=Value.bool bs[i]:=ru
  rw [e];have q2:Q2 ((bs[i]?).getD true) s2:=hQ
  rw [zzg hi,Option.getD_some] at q2;exact wpAny_truthy_bool q2
 ·rw [zzC,hlen,range_all];exact⟨.bl (bs.all id),H,I.kept λb o e=>hk b o (by simp;exact zzb (zzO e)) (zzB _ e),rfl,q⟩
end
end L2
namespace Cw
open PySem L2
def sgn(c:Nat):Bool:=c==35||(48<=c&&c<=57)
def Ve:V->Bool
 |.str z=>decide (1<=z.cps.toList.length)&&decide (z.cps.toList.length<=12)&&z.cps.toList.all sgn
 |_=>false
def Mw:V->Nat
 |.str z=>z.cps.toList.length
 |_=>0
section
variable{K:PySem.W.Frag}
abbrev C8(K:PySem.W.Frag)(t n:String)(b:Bool):Prop:=PySem.W.kitOne K (.type t) (.type n)=some b
theorem Ao{K:PySem.W.Frag}(t:String):C8 K t t true:=by unfold C8 PySem.W.kitOne;rw [if_pos (by simp)]
theorem A7{t n:String}{b:Bool}(h0:(Value.type t==Value.type n)=false)(h1:PySem.W.kitMeta n=true)(h2:(fastBuiltinMro t).map (·.contains (Value.type n))=some b):C8 K t n b:=by
 unfold C8 PySem.W.kitOne;rw [if_neg (by rw [h0];exact zzf)];show(if PySem.W.kitMeta n=true then PySem.W.subIn K (.type t) (.type n) else none)=some b
 rw [if_pos h1];exact h2
end
abbrev TH:Str:="#0123456789"
end Cw
namespace L2
open PySem PySem.Spec PyProof.Rows
structure lY(K:PySem.W.Frag)(C:Addr):Prop where
 ga:PySem.W.findIn K (.ref C) "__getattribute__"=some (some (.builtin "BaseException.__getattribute__"))
 hk:PySem.W.findIn K (.ref C) "__getattr__"=some none
 cl:PySem.W.findIn K (.ref C) "__class__"=some (some (.builtin "object.__class__"))
 mo:PySem.W.mroIn K C (.type "object")=some true
 mb:PySem.W.mroIn K C (.type "BaseException")=some true
 is:(PySem.W.clsIn K C).isSome=true
section
variable{prog:Program}{w:World}{A:Around}{E:Value->Shared->Prop}{h:Heap}{g:Array GenState}{d:Drawn}{t:Nat}{os:OsState}{x C:Addr}{o:Obj}{K:PySem.W.Frag}
theorem Kf{R:Result->Shared->Prop}(X:K.In h)(Z:lY K C)(hx:h.get? x=some o)(hc:o.cls=.ref C)(hq:R (.ok (.ret (.ref C))) ⟨h,g,d,t,os⟩):
 codeAny (model prog w) A (.call (.builtin "getset_descriptor.__get__") ⟨[.builtin "object.__class__",.ref x,.ref C],[]⟩) R ⟨h,g,d,t,os⟩:=by
 have hY:(⟨h,g,d,t,os⟩:Shared).TypeIs (.builtin "object.__class__") "getset_descriptor":=F.typeOf_object_class
 have LM:PySem.W.Looks (model prog w) h (isSubtype (.ref C) (.type (".".intercalate ("object.__class__".cutAt '.').dropLast))) true:=by
  rw [F.owner_object_class];exact PySem.W.looks_mroIn X Z.mo
 refine codeAny_call_builtin F.slot_gs_get.plain F.entry_gs_get (F.slot_gs_get.check _ _ _ _ _ _ _ _ hY (F.args_gs_get _ _ _) ?_)
 repeat (any_goals (first|assumption|(with_reducible refine wpAny_loadPart_at hx ?_;rw [hc])|(with_reducible refine LM.at ?_)|wp_step))
 refine⟨Code.quiet_builtin _ (show _ by decide+kernel),codeAny_builtin F.entry_object_class ?_⟩
 repeat (any_goals (first|assumption|(with_reducible refine wpAny_loadPart_at hx ?_;rw [hc])|wp_step))
theorem BG{tk:Tok}{Q:Fin->Shared->Prop}(X:K.In h)(Z:lY K C)(hx:h.get? x=some o)(hc:o.cls=.ref C)(hq:Q (.done (.ret (.ref C))) ⟨h,g,d,t,os⟩):
 wpAny (model prog w) A (Builtin.«object.__getattribute__» ⟨[.ref x,.str "__class__" tk],[]⟩) Q E ⟨h,g,d,t,os⟩:=by
 have hY:(⟨h,g,d,t,os⟩:Shared).TypeIs (.builtin "object.__class__") "getset_descriptor":=F.typeOf_object_class
 have y5:=F.typeOf_object_class
 have y6:=F.slot_gs_get.lookup
 have y7:=F.slot_gs_set.lookup
 have LC:=PySem.W.looks_findIn (M:=model prog w) X Z.cl
 repeat (any_goals (first|assumption|(with_reducible refine wpAny_loadPart_at hx ?_;rw [hc])|(with_reducible refine LC.at ?_)|wp_step))
 refine Kf X Z hx hc ?_
 repeat (any_goals (first|assumption|wp_step))
theorem zI{M:Model}{He:Value}{Q:Unit->Shared->Prop}(X:K.In h)(Z:lY K C)(hx:h.get? x=some o)(hc:o.cls=.ref C)(hq:Q () ⟨h,g,d,t,os⟩):
 wpAny M A (checkBuiltinCall "BaseException.__getattribute__" ⟨[.ref x,He],[]⟩) Q E ⟨h,g,d,t,os⟩:=by
 have h1:builtinKind "BaseException.__getattribute__"=some .slot:=by decide+kernel
 have h2:splitId "BaseException.__getattribute__"=some ("BaseException","__getattribute__"):=by decide+kernel
 have LB:=PySem.W.looks_mroIn (M:=M) X Z.mb
 have h3:=F.args_bexc_ga (.ref x) He
 simp only [checkBuiltinCall,h1,h2];refine zzA ?_;unfold isInstance
 repeat (first|(with_reducible refine wpAny_loadPart_at hx ?_;rw [hc])|(with_reducible refine LB.at ?_)|wp_step)
 exact hq
theorem LV{tk:Tok}{Q:Value->Shared->Prop}(X:K.In h)(Z:lY K C)(hx:h.get? x=some o)(hc:o.cls=.ref C)(hq:Q (.ref C) ⟨h,g,d,t,os⟩):
 wpAny (model prog w) A (getAttrBy (.ref x) (.str "__class__" tk) false) Q E ⟨h,g,d,t,os⟩:=by
 have y3:=F.excAttr_ValueError.ga.bind (.ref x)
 have y4:(Value.builtin "BaseException.__getattribute__"==Value.builtin "object.__getattribute__")=false:=by decide+kernel
 have y5:(onTheHeap (Value.ref C)&&Value.builtin "BaseException.__getattribute__"==Value.builtin "object.__getattribute__")=false:=by rw [y4];rfl
 have LG:=PySem.W.looks_findIn (M:=model prog w) X Z.ga
 have LH:=PySem.W.looks_findIn (M:=model prog w) X Z.hk
 repeat (any_goals (first|assumption|(with_reducible refine wpAny_loadPart_at hx ?_;rw [hc])|(with_reducible refine LG.at ?_)|(with_reducible refine LH.at ?_)|wp_step))
 refine codeAny_call_builtin F.excAttr_ValueError.ga.plain F.entry_bexc_ga (zI X Z hx hc (BG X Z hx hc ?_))
 repeat (any_goals (first|assumption|wp_step))
theorem DF{Q:Option Value->Shared->Prop}(X:K.In h)(Z:lY K C)(hx:h.get? x=some o)(hc:o.cls=.ref C)(hq:Q (some (.ref C)) ⟨h,g,d,t+1,os⟩):
 wpAny (model prog w) A (getAttr? (.ref x) "__class__") Q E ⟨h,g,d,t,os⟩:=by
 unfold getAttr? getAttrBy?
 repeat (any_goals (first|assumption|with_reducible apply LV X Z hx hc|wp_step))
end
theorem tm{K:PySem.W.Frag}{x C:Addr}(Z:lY K C):PySem.W.KitX K (.ref x) (.ref C) (λh=>∃ob,h.get? x=some ob/\ob.cls=.ref C) where
 ty:=λM h _ p=>by
  obtain⟨ob,h1,h2⟩:=p
  exact h2▸(PySem.W.Looks.ld h1).andThen .now
 it:=λM h X _=>by
  obtain⟨cd,lj⟩:=Option.isSome_iff_exists.mp Z.is
  unfold PySem.W.clsIn at lj;split at lj
  ·rename_i c1 d1 cd1 GX ho;intro A' Q' E' s' k q;unfold isType loadHead;exact zzA (wpAny_loadPart (k _ _ (X _ _ ho)) (zzG q))
  ·cases lj
 ne:=λh tp dd ay n sl X Vh=>by
  obtain⟨cd,lj⟩:=Option.isSome_iff_exists.mp Z.is
  refine Bool.eq_false_iff.mpr λq=>?_
  have e:C=tp:=Value.ref.inj (beq_iff_eq.mp q)
  subst e;unfold PySem.W.clsIn at lj;split at lj
  ·rename_i c1 d1 cd1 GX ho;have z:=(X _ _ ho).symm.trans Vh
   cases z
  ·cases lj
 ca:=λ{prog w A E Q s} X p k=>by
  obtain⟨ob,h1,h2⟩:=p
  obtain⟨hh,gg,dd,tt,oo⟩:=s
  exact DF X Z h1 h2 k
section
variable{X:Cx}
theorem yw:cD X (.builtin "isinstance") (λxs H Q=>∃(a C D:Addr) (b:Bool),xs=[.ref a,.ref D]/\H a=some (iS a C)/\lY X.K C/\PySem.W.kitOne X.K (.ref C) (.ref D)=some b/\Q (.bl b) H):=by
 intro aa s σ H xs us Q I r h;obtain⟨a,C,D,b,rfl,ha,Z,e,q⟩:=h
 obtain⟨u,u2,rfl,ru,ru2⟩:=vals2 r
 cases ru;cases ru2;obtain⟨⟨ob,vs,h1,h2,_⟩,_⟩:=I.aQ _ _ ha
 exact PySem.W.kia_one (tm Z) I.oD ⟨ob,h1,h2⟩ e (λz=>nomatch z) λtk=>⟨.bl b,H,I.tok tk,rfl,q⟩
theorem yC:cD X (.builtin "isinstance") (λxs H Q=>∃(a C:Addr) (n:String) (b:Bool),xs=[.ref a,.ty n]/\H a=some (iS a C)/\lY X.K C/\PySem.W.kitOne X.K (.ref C) (.type n)=some b/\Q (.bl b) H):=by
 intro aa s σ H xs us Q I r h;obtain⟨a,C,n,b,rfl,ha,Z,e,q⟩:=h
 obtain⟨u,u2,rfl,ru,ru2⟩:=vals2 r
 cases ru;cases ru2;obtain⟨⟨ob,vs,h1,h2,_⟩,_⟩:=I.aQ _ _ ha
 exact PySem.W.kia_one (tm Z) I.oD ⟨ob,h1,h2⟩ e (λz=>nomatch z) λtk=>⟨.bl b,H,I.tok tk,rfl,q⟩
theorem AA{x:Str}{a:Addr}{pos:Pos}(hg:Gl X x)(hm:X.mg x=some (.ref a))(hd:(x==("__debug__":Str))=false:=by decide):PE X (.Name x pos) (tC (.ref a)):=vM hg hm rfl hd
theorem kA{pos:Pos}(hg:Gl X "ValueError")(hm:X.mg "ValueError"=none):PE X (.Name "ValueError" pos) (tC (.ty "ValueError")):=vN hg hm (u:=.type "ValueError") (by decide+kernel) rfl
end
section
variable{X:Cx}{aa:List (Addr×Obj)}{σ:St}{H:Hp}{s:Shared}
theorem kS{M:Model}{A:Around}{E:Value->Shared->Prop}{i:Nat}{x:Str}{pos:Pos}{Q:Unit->Shared->Prop}(I:Inv X aa σ H s)(hN:X.N.Nodup)(hi:X.N[i]?=some x)(hk:X.env.scope.names.lookup x=some .local)
 (h:∀s',Inv X aa (σ.set i none) H s'->Q () s'):wpAny M A (do bindName X.env x .none;unbindBehindTheSuite X.env x pos) Q E s:=by
 obtain⟨m,hn,hl⟩:=id I.loc
 have Jk:(X.env.scope.kind==.class||(X.env.scope.kind==.module&&X.env.locals !=X.env.globals))=false:=by rw [I.ok.kind];rfl
 have hiσ:i<σ.length:=by rw [I.len];exact(zzH.mp hi).1
 have x5:=I.x5
 have tracked:∀{a:Addr} {h':Heap},(∃o,s.heap.get? a=some o/\H a=none)->Heap.SameBut a s.heap h'->eh X.prog X.w H h':=λ{a h'} ha hs b ob e=>by
  obtain⟨_,_,hfree⟩:=ha
  refine(I.aQ b ob e).eF (λc w' hc q=>(hs.2 c ?_).trans q) (λ_ q=>q) λ_ _ q=>q
  rintro rfl
  rcases hc with rfl|hc
  ·rw [hfree] at e;cases e
  ·rw [hfree] at hc;cases hc
 refine wpAny_nameGoes_keeps hk hn Jk λh' v0 Pr hs=>?_
 obtain⟨oL,_,_,hoL,_⟩:=id hn
 refine h _ ⟨I.ok,I.os,I.bare,⟨λb o e n hb hx=>?_,λb o e n hb hx=>?_,I.base.free,λb o e hx=>?_,I.base.gk,I.base.fk,I.base.fM⟩,⟨_,Pr,λj y v' e1 e2 e3=>?_⟩,λy c e=>?_,I.free,I.eK,λp hp=>?_,tracked ⟨oL,hoL,I.free⟩ hs,by simpa using I.len⟩
 ·exact(hs.2 b (zzb (zzW (zzO e) I.ok.above))).trans (I.base.keep b o e n hb hx)
 ·obtain⟨sl,e1⟩:=I.base.slot b o e n hb hx
  exact⟨sl,(hs.2 b (zzb (zzW (zzO e) I.ok.above))).trans e1⟩
 ·obtain⟨o',e1⟩:=I.base.there b o e hx
  exact⟨o',(hs.2 b (zzb (zzW (zzO e) I.ok.above))).trans e1⟩
 ·by_cases hj:j=i
  ·subst hj;rw [List.getElem?_set_self hiσ] at e2;cases e2
  ·rw [zzS (Ne.symm hj)] at e2;obtain⟨u',r',q⟩:=hl j y v' e1 e2 e3
   refine⟨u',r',?_⟩;rcases q with⟨k,e⟩|⟨k,c,e,z⟩
   ·refine .inl ⟨k,?_⟩;have:y≠x:=λe=>hj (jq hN e1 (e▸hi))
    simp [this,e]
   ·exact .inr ⟨k,c,e,z.sameBut hs (x5 y c e)⟩
 ·obtain⟨w',z⟩:=I.cell y c e
  exact⟨w',z.sameBut hs (x5 y c e)⟩
 ·obtain⟨e,n,ne,nf,d⟩:=I.pin p hp
  exact⟨(hs.2 p.1 ne).trans e,n,ne,nf,d⟩
abbrev Cx.with1(X:Cx)(pn:List (Addr×Obj))(xe:Value->Shared->Prop):Cx:={X with pn:=pn,xe:=xe}
abbrev Cx.marked(X:Cx)(a:Addr)(pn:List (Addr×Obj)):Cx:={X with A:=X.A.mark (some (.ref a)),calm:=false,pn:=pn,xe:=λ_ _=>False}
theorem Ar{pn:List (Addr×Obj)}{xe:Value->Shared->Prop}(o:X.Ok):(X.with1 pn xe).Ok:=⟨o.mod,o.kind,o.glob,o.blt,o.above,o.inj,o.has,o.Gw,o.hd,o.frames,o.Ak,o.Qm,o.bs,o.ud,o.yF,o.zF,o.fV,o.tW⟩
theorem xO{a:Addr}{pn:List (Addr×Obj)}(o:X.Ok):(X.marked a pn).Ok:=⟨o.mod,o.kind,o.glob,o.blt,o.above,o.inj,o.has,o.Gw,(λh=>nomatch h),o.frames,o.Ak,o.Qm,o.bs,o.ud,o.yF,o.zF,o.fV,o.tW⟩
theorem Inv.with1{xe:Value->Shared->Prop}(I:Inv X aa σ H s):Inv (X.with1 (X.pn++aa) xe) [] σ H s:=⟨Ar I.ok,I.os,I.bare,I.base,I.loc,I.cell,I.free,I.eK,λp hp=>I.pin p (by rwa [List.append_nil] at hp),I.aQ,I.len⟩
theorem Inv.iV{xe:Value->Shared->Prop}(o:X.Ok){i5:List (Addr×Obj)}(I:Inv (X.with1 (X.pn++aa) xe) i5 σ H s):Inv X aa σ H s:=⟨o,I.os,I.bare,I.base,I.loc,I.cell,I.free,I.eK,λp hp=>I.pin p (zzc _ hp),I.aQ,I.len⟩
theorem Inv.mark{a:Addr}(I:Inv X aa σ H s):Inv (X.marked a (X.pn++aa)) [] σ H s:=⟨xO I.ok,I.os,I.bare,I.base,I.loc,I.cell,I.free,I.eK,λp hp=>I.pin p (by rwa [List.append_nil] at hp),I.aQ,I.len⟩
theorem Inv.unmark{a:Addr}(o:X.Ok){i5:List (Addr×Obj)}(I:Inv (X.marked a (X.pn++aa)) i5 σ H s):Inv X aa σ H s:=⟨o,I.os,I.bare,I.base,I.loc,I.cell,I.free,I.eK,λp hp=>I.pin p (zzc _ hp),I.aQ,I.len⟩
end
open PySem.AutoSeq1 (wpAny_loadPart')
end L2
namespace Cw
open PySem L2
end Cw
namespace L2
open PySem PySem.Spec PyProof.Rows
section
variable{X:Cx}
theorem p7:cD X (.type "int") (λxs H Q=>∃z n,xs=[.str z]/\PySem.intText? z=some n/\z.length<=640/\Q (.int n) H):=by
 intro aa s σ H xs us Q I r h;obtain⟨z,n,rfl,h1,h2,q⟩:=h
 obtain⟨u,rfl,t,rfl⟩:=vals1 r
 exact PySem.W.KIN.call_text h1 h2 ⟨.int n,H,I.tok _,⟨_,rfl⟩,q⟩
end
end L2
namespace Cw
open PySem L2
end Cw
namespace L2
open PySem PySem.Spec PyProof.Rows
theorem oj{α β:Type}{R:α->β->Prop}:∀{xs:List α} {ys:List β},Paired R xs ys->∀{i:Nat} {x:α},xs[i]?=some x->∃y,ys[i]?=some y/\R x y
 |_,_,.nil,_,_,h=>by simp at h
 |_,_,.cons r t,0,x,h=>by simp at h;subst h;exact⟨_,rfl,r⟩
 |_,_,.cons r t,i+1,x,h=>by
  obtain⟨y,h1,h2⟩:=oj t (i:=i) (x:=x) (by simpa using h)
  exact⟨y,by simpa using h1,h2⟩
theorem lJ{α β:Type}{R:α->β->Prop}:∀{xs:List α} {ys:List β},Paired R xs ys->xs.length=ys.length
 |_,_,.nil=>rfl
 |_,_,.cons _ t=>by simp [lJ t]
section
theorem j5{vs:List V}{ay:List Value}(r:Vals vs ay){j:Nat}(h:j<ay.toArray.size):∃v,vs[j]?=some v/\RelV v ay.toArray[j]:=by
 have hl:=r.length
 rw [zzC] at h;have hj:j<vs.length:=by omega
 obtain⟨u,hu,ru⟩:=r.get (i:=j) (x:=vs[j]) (zzg hj)
 rw [zzg h] at hu;cases hu;exact⟨_,zzg hj,by simpa using ru⟩
end
abbrev bO:HO:=.ext λ_=>True
theorem iE{P:Program}{w:World}{H:Hp}{h:Heap}{a:Addr}{o:Obj}(e:h.get? a=some o):cj P w H h a (.bF o bO):=⟨e,trivial,⟨o,e⟩,λ_ _ _ _=>trivial⟩
def aU(Z:List (Addr×Obj))(H:Hp):Hp:=λb=>match Z.lookup b with
 |some o=>some (.bF o bO)
 |none=>H b
def bg(Z:List (Addr×Obj))(H:Hp):Hp:=λb=>match Z.lookup b with
 |some _=>none
 |none=>H b
section
variable{Z:List (Addr×Obj)}{H H':Hp}{b:Addr}{o:Obj}
theorem bj(e:Z.lookup b=some o):aU Z H b=some (.bF o bO):=by unfold aU;rw [e]
theorem ai(e:Z.lookup b=none):aU Z H b=H b:=by unfold aU;rw [e]
theorem fA(e:Z.lookup b=some o):bg Z H b=none:=by unfold bg;rw [e]
theorem aB(e:Z.lookup b=none):bg Z H b=H b:=by unfold bg;rw [e]
theorem eP{u:HO}(e:bg Z H b=some u):Z.lookup b=none/\H b=some u:=by
 cases q:Z.lookup b with
 |none=>rw [aB q] at e;exact⟨rfl,e⟩
 |some o=>rw [fA q] at e;cases e
theorem iJ(h:H b=none):bg Z H b=none:=by
 cases q:Z.lookup b with
 |none=>rw [aB q];exact h
 |some o=>exact fA q
structure vg(Z:List (Addr×Obj))(H:Hp)(fs:List Addr)(h:Heap):Prop where
 at_:∀b o,Z.lookup b=some o->h.get? b=some o
 no:∀b o,Z.lookup b=some o->H b=none
 fr:∀b o,Z.lookup b=some o->b∉fs
variable{P:Program}{w:World}{fs:List Addr}{h h':Heap}
theorem vg.aQ(z:vg Z H fs h)(k:eh P w H h):eh P w (aU Z H) h:=λb u e=>by
 cases q:Z.lookup b with
 |some o=>rw [bj q] at e;cases e;exact iE (z.at_ b o q)
 |none=>
  rw [ai q] at e;have nz:∀c v,H c=some v->Z.lookup c=none:=λc v hv=>by
   cases y:Z.lookup c with
   |none=>rfl
   |some o=>rw [z.no c o y] at hv;cases hv
  exact(k b u e).eF (λc v _ r=>r) (λc r=>by rw [ai (nz c _ r)];exact r) λc xs r=>by rw [ai (nz c _ r)];exact r
theorem vg.wN(z:vg Z H fs h)(u:Un fs [] (aU Z H) H' h h')(k:eh P w H' h'):Un fs [] H (bg Z H') h h'/\eh P w (bg Z H') h':=by
 have zk:∀b o,Z.lookup b=some o->H' b=some (.bF o bO):=λb o q=>u.fk b o _ (bj q)
 have zh:∀b o,Z.lookup b=some o->h'.get? b=some o:=λb o q=>(k b _ (zk b o q)).1
 have nz:∀c v,H c=some v->Z.lookup c=none:=λc v hv=>by
  cases y:Z.lookup c with
  |none=>rfl
  |some o=>rw [z.no c o y] at hv;cases hv
 refine⟨⟨λb o e n hb hx=>?_,λb o e n hb hx=>?_,λb o e n hx=>?_,λb o e hx=>u.there b o e hx,λb xs e=>?_,λb o v e=>?_,λb ps e=>?_⟩,λb v e=>?_⟩
 ·cases q:Z.lookup b with
  |some o'=>
   have e2:=z.at_ b o' q
   rw [e] at e2;cases e2;exact zh b o q
  |none=>exact u.keep b o e (by rw [ai q];exact n) hb hx
 ·cases q:Z.lookup b with
  |some o'=>exact absurd hb (z.fr b o' q)
  |none=>exact u.slot b o e (by rw [ai q];exact n) hb hx
 ·cases q:Z.lookup b with
  |some o'=>exact fA q
  |none=>rw [aB q];exact u.free b o e (by rw [ai q];exact n) hx
 ·rw [aB (nz b _ e)];exact u.gk b xs (by rw [ai (nz b _ e)];exact e)
 ·rw [aB (nz b _ e)];exact u.fk b o v (by rw [ai (nz b _ e)];exact e)
 ·rw [aB (nz b _ e)];exact u.fM b ps (by rw [ai (nz b _ e)];exact e)
 ·obtain⟨q,e1⟩:=eP e
  refine(k b v e1).eF (λc y _ r=>r) (λc r=>?_) λc xs r=>?_
  ·cases y:Z.lookup c with
   |none=>rw [aB y];exact r
   |some o=>rw [zk c o y] at r;cases r
  ·cases y:Z.lookup c with
   |none=>rw [aB y];exact r
   |some o=>rw [zk c o y] at r;cases r
theorem vg.v9(z:vg Z H fs h)(u:Un fs [] H H' h h')(k:eh P w H' h'):Un fs [] (aU Z H) (aU Z H') h h'/\eh P w (aU Z H') h':=by
 have zh:∀b o,Z.lookup b=some o->h'.get? b=some o:=λb o q=>u.keep b o (z.at_ b o q) (z.no b o q) (z.fr b o q) (λy=>nomatch y)
 have zn:∀b o,Z.lookup b=some o->H' b=none:=λb o q=>u.free b o (z.at_ b o q) (z.no b o q) (λy=>nomatch y)
 have nz:∀c v,H' c=some v->Z.lookup c=none:=λc v hv=>by
  cases y:Z.lookup c with
  |none=>rfl
  |some o=>rw [zn c o y] at hv;cases hv
 have nw:∀b,aU Z H b=none->Z.lookup b=none/\H b=none:=λb e=>by
  cases q:Z.lookup b with
  |some o=>rw [bj q] at e;cases e
  |none=>rw [ai q] at e;exact⟨rfl,e⟩
 refine⟨⟨λb o e n hb hx=>u.keep b o e (nw b n).2 hb hx,λb o e n hb hx=>u.slot b o e (nw b n).2 hb hx,λb o e n hx=>?_,λb o e hx=>u.there b o e hx,λb xs e=>?_,λb o v e=>?_,λb ps e=>?_⟩,λb v e=>?_⟩
 ·rw [ai (nw b n).1];exact u.free b o e (nw b n).2 hx
 ·cases q:Z.lookup b with
  |some o=>rw [bj q] at e;cases e
  |none=>rw [ai q] at e⊢;exact u.gk b xs e
 ·cases q:Z.lookup b with
  |some o'=>rw [bj q] at e⊢;exact e
  |none=>rw [ai q] at e⊢;exact u.fk b o v e
 ·cases q:Z.lookup b with
  |some o=>rw [bj q] at e;cases e
  |none=>rw [ai q] at e⊢;exact u.fM b ps e
 ·cases q:Z.lookup b with
  |some o=>rw [bj q] at e;cases e;exact iE (zh b o q)
  |none=>
   rw [ai q] at e;exact(k b v e).eF (λc y _ r=>r) (λc r=>by rw [ai (nz c _ r)];exact r) λc xs r=>by rw [ai (nz c _ r)];exact r
end
section
variable{P:Program}{w:World}{K:PySem.W.Frag}{mg:Str->Option Value}{base:Heap}{A:Around}{outer:List Env}{s s':Shared}{H:Hp}{Z:List (Addr×Obj)}
theorem i4.aU(e:i4 P w K mg base A outer s H)(z:vg Z H (en outer) s.heap)(zb:∀b o,Z.lookup b=some o->base.get? b=none):i4 P w K mg base A outer s (aU Z H) where
 frames:=e.frames
 mod:=e.mod
 bs:=λb o q=>⟨(e.bs b o q).1,by
  cases y:Z.lookup b with
  |some o'=>rw [zb b o' y] at q;cases q
  |none=>rw [ai y];exact(e.bs b o q).2⟩
 ud:=e.ud
 fV:=e.fV
 tW:=λb hb=>by
  cases y:Z.lookup b with
  |some o'=>exact absurd hb (z.fr b o' y)
  |none=>rw [ai y];exact e.tW b hb
 aQ:=z.aQ e.aQ
 bare:=e.bare
theorem CE.less{Q:VK}{u:Value}(z:vg Z H (en outer) s.heap)(h:CE outer P w (aU Z H) s (λv H'=>Q v (bg Z H')) u s'):CE outer P w H s Q u s':=by
 obtain⟨v,H',os,bare,un,aQ,r,q⟩:=h
 obtain⟨u1,k1⟩:=z.wN un aQ
 exact⟨v,_,os,bare,u1,k1,r,q⟩
theorem CE.more{Q:VK}{u:Value}(z:vg Z H (en outer) s.heap)(h:CE outer P w H s (λv H'=>(∀b o,Z.lookup b=some o->H' b=none)->Q v (aU Z H')) u s'):CE outer P w (aU Z H) s Q u s':=by
 obtain⟨v,H',os,bare,un,aQ,r,q⟩:=h
 obtain⟨u1,k1⟩:=z.v9 un aQ
 exact⟨v,_,os,bare,u1,k1,r,q λb o y=>un.free b o (z.at_ b o y) (z.no b o y) (λy=>nomatch y)⟩
theorem dZ.less{E:XK}{e:Value}(z:vg Z H (en outer) s.heap)(h:dZ P w outer (aU Z H) s (λC a H'=>E C a (bg Z H')) e s'):dZ P w outer H s E e s':=by
 obtain⟨a,C,t,vs,H',B,rfl,F⟩:=h
 have zk:∀b o,Z.lookup b=some o->H' b=some (.bF o bO):=λb o q=>F.un.fk b o _ (bj q)
 have kB:∀b o,s.heap.get? b=some o->H b=none->b∉en outer->B.get? b=some o:=λb o e n hb=>by
  cases q:Z.lookup b with
  |some o'=>
   have e2:=z.at_ b o' q
   rw [e] at e2;cases e2;exact(F.aQ b _ (zk b o q)).1
  |none=>exact F.dY b o e (by rw [ai q];exact n) hb
 have hB:eh P w (bg Z H') B:=λb v e=>by
  obtain⟨q,e1⟩:=eP e
  refine(F.aQ b v e1).eF (λc y _ r=>r) (λc r=>?_) λc xs r=>?_
  ·cases y:Z.lookup c with
   |none=>rw [aB y];exact r
   |some o=>rw [zk c o y] at r;cases r
  ·cases y:Z.lookup c with
   |none=>rw [aB y];exact r
   |some o=>rw [zk c o y] at r;cases r
 have hs:eh P w H' s'.heap:=λb v e=>(F.aQ b v e).eF (λc y _ r=>F.yO.1 _ _ r) (λ_ r=>r) λ_ _ r=>r
 obtain⟨u1,_⟩:=z.wN (P:=P) (w:=w) F.un hs
 exact⟨a,C,t,vs,_,B,rfl,⟨F.os,F.bare,hB,F.yO,F.tn,F.tup,kB,F.cX,u1,F.ends⟩⟩
theorem dZ.more{E:XK}{e:Value}(z:vg Z H (en outer) s.heap)(h:dZ P w outer H s (λC a H'=>(∀b o,Z.lookup b=some o->H' b=none)->E C a (aU Z H')) e s'):dZ P w outer (aU Z H) s E e s':=by
 obtain⟨a,C,t,vs,H',B,rfl,F⟩:=h
 have zB:∀b o,Z.lookup b=some o->B.get? b=some o:=λb o q=>F.dY b o (z.at_ b o q) (z.no b o q) (z.fr b o q)
 have zn:∀b o,Z.lookup b=some o->H' b=none:=λb o q=>F.un.free b o (z.at_ b o q) (z.no b o q) (λy=>nomatch y)
 have nz:∀c v,H' c=some v->Z.lookup c=none:=λc v hv=>by
  cases y:Z.lookup c with
  |none=>rfl
  |some o=>rw [zn c o y] at hv;cases hv
 have hB:eh P w (aU Z H') B:=λb v e=>by
  cases q:Z.lookup b with
  |some o=>rw [bj q] at e;cases e;exact iE (zB b o q)
  |none=>
   rw [ai q] at e;exact(F.aQ b v e).eF (λc y _ r=>r) (λc r=>by rw [ai (nz c _ r)];exact r) λc xs r=>by rw [ai (nz c _ r)];exact r
 have hs:eh P w H' s'.heap:=λb v e=>(F.aQ b v e).eF (λc y _ r=>F.yO.1 _ _ r) (λ_ r=>r) λ_ _ r=>r
 obtain⟨u1,_⟩:=z.v9 (P:=P) (w:=w) F.un hs
 refine⟨a,C,t,vs,_,B,rfl,⟨F.os,F.bare,hB,F.yO,F.tn,F.tup,λb o e n hb=>F.dY b o e ?_ hb,F.cX,u1,F.ends zn⟩⟩
 cases q:Z.lookup b with
 |some o=>rw [bj q] at n;cases n
 |none=>rw [ai q] at n;exact n
end
structure sZ(ps ys:List Str)(scope:Scope):Prop where
 kind:scope.kind=.function
 co:scope.isCoroutine=false
 gen:scope.isGenerator=false
 nd:(ps++ys).Nodup
 AB:∀x∈scope.names,x.2≠.cell
 par:∀x∈ps,scope.names.lookup x=some .local
 QG:∀y∈ys,scope.names.lookup y=some .free
 Ie:∀x,scope.names.lookup x=some .free->x∈ys
noncomputable def Hf(P:Program)(w:World)(K:PySem.W.Frag)(mg:Str->Option Value)(base:Heap)(N:List Str)(qual:Str)(scope:Scope)(f:Addr)(cd:Value)(cl:List (Str×Addr))(A:Around)(outer:List Env)(s:Shared)(H:Hp)(E:XK):Cx where
 prog:=P
 w:=w
 K:=K
 mg:=mg
 base:=base
 A:=A.deeper (PySem.W.envX qual scope s.heap.objs.size f cd cl)
 N:=N
 s₀:=s
 H₀:=H
 env:=PySem.W.envX qual scope s.heap.objs.size f cd cl
 outer:=outer
 stack:=PySem.W.envX qual scope s.heap.objs.size f cd cl::outer
 ex:=[]
 calm:=true
 fn:=λ_=>false
 pn:=[]
 xe:=λe s'=>wpAny (model P w) (A.deeper (PySem.W.envX qual scope s.heap.objs.size f cd cl)) (leaving (PySem.W.envX qual scope s.heap.objs.size f cd cl) e) (λ_ FW=>dZ P w outer H s E e FW) (λe' FW=>dZ P w outer H s E e' FW) s'
theorem nX{α:Type}:∀{l:List (Str×α)} {x:Str} {v:α},(l.map (·.1)).Nodup->(x,v)∈l->l.lookup x=some v
 |(y,u)::r,x,v,nd,h=>by
  rw [zzF,List.nodup_cons] at nd;rw [List.lookup_cons];rcases List.mem_cons.mp h with e|e
  ·cases e;simp
  ·have qM:(x==y)=false:=beq_eq_false_iff_ne.mpr λz=>nd.1 (by subst z;exact List.mem_map_of_mem (f:=(·.1)) e)
   rw [qM];exact nX nd.2 e
theorem mG{ps:List Str}{us:List Value}{i:Nat}{x:Str}{u:Value}(nd:ps.Nodup)(h1:ps[i]?=some x)(h2:us[i]?=some u):(ps.zip us).reverse.lookup x=some u:=by
 have hs:∀{ps:List Str} {us:List Value},List.Sublist ((ps.zip us).map (·.1)) ps:=λ{ps us}=>by
  induction ps generalizing us with
  |nil=>simp
  |cons p ps ih=>
   cases us with
   |nil=>simp
   |cons q us=>simpa using ih
 refine nX ?_ ?_
 ·rw [List.map_reverse];exact List.pairwise_reverse.mpr ((nd.sublist hs).imp λh=>Ne.symm h)
 ·rw [List.mem_reverse];refine zzD (i:=i) ?_;rw [List.getElem?_zip_eq_some];exact⟨h1,h2⟩
section
variable{P:Program}{w:World}{K:PySem.W.Frag}{mg:Str->Option Value}{base:Heap}{ps ys:List Str}{qual:Str}{scope:Scope}{f:Addr}{cd:Value}{cl:List (Str×Addr)}{A:Around}{outer:List Env}{s:Shared}{H:Hp}{E:XK}
theorem uK{us:List Value}{vs ws:List V}{h':Heap}{tk:Nat}(S:sZ ps ys scope)(hd:A.handled=none)(e0:i4 P w K mg base A outer s H)(Lr:∀y∈ys,∃c,cl.lookup y=some c)(inj:∀x y c,cl.lookup x=some c->cl.lookup y=some c->x=y)
 (r:Vals vs us) (hl:vs.length=ps.length) (hw:ws.length=ys.length) (cells:∀(i:Nat) y c,ys[i]?=some y->cl.lookup y=some c->∀v,ws[i]?=some v->∃u,RelV v u/\s.heap.IsCell c (some u)) (Ph:∀x c,cl.lookup x=some c->∃v,s.heap.IsCell c v)
 (LW:∀x c,cl.lookup x=some c->H c=none) (ns:h'.Ns s.heap.objs.size (λx=>(ps.zip us).reverse.lookup x)) (hk:∀b o,s.heap.get? b=some o->h'.get? b=some o):
 Inv (Hf P w K mg base (ps++ys) qual scope f cd cl A outer s H E) [] (vs.map some++ws.map some) H {s with heap:=h',toks:=tk}:=by
 have Dq:∀b:Addr,b∉(Hf P w K mg base (ps++ys) qual scope f cd cl A outer s H E).ex:=λb z=>absurd (show b∈([]:List Addr) from z) (by simp)
 have ck:∀c v,s.heap.IsCell c v->h'.IsCell c v:=λc v ⟨o,ho,hd⟩=>⟨o,hk c o ho,hd⟩
 refine⟨⟨e0.mod,S.kind,rfl,rfl,zzE _,inj,λx hx=>?_,(λx c z=>nomatch z),λ_=>hd,Around.frames_deeper e0.frames,.inr ⟨rfl,rfl⟩,λb z=>absurd z (Dq b),e0.bs,e0.ud,λb _ _=>Dq b,λb z=>absurd z (Dq b),e0.fV,e0.tW⟩,
  rfl,e0.bare,Un.kept hk,⟨_,ns,λi x v h1 h2 h3=>?_⟩,λx c h=>let⟨v,z⟩:=Ph x c h;⟨v,ck c v z⟩,e0.aQ.fresh (zzE _),LW,λp hp=>absurd (show p∈([]:List (Addr×Obj)) from hp) (by simp),e0.aQ.kept hk,?_⟩
 ·have hx:scope.names.lookup x=some .cell\/scope.names.lookup x=some .free:=hx
  rcases hx with hx|hx
  ·exact absurd rfl (S.AB _ (PySem.mem_of_lookup hx))
  ·exact Lr x (S.Ie x hx)
 ·have h1:(ps++ys)[i]?=some x:=h1
  by_cases hi:i<vs.length
  ·rw [List.getElem?_append_left (by simpa using hi),zzQ] at h2;have ha:vs[i]?=some v:=by
    cases e:vs[i]? with
    |none=>rw [e] at h2;cases h2
    |some a=>rw [e] at h2;cases h2;rfl
   obtain⟨u,hu,rv⟩:=r.get ha
   have hp:ps[i]?=some x:=by rw [List.getElem?_append_left (by omega)] at h1;exact h1
   exact⟨u,rv,.inl ⟨S.par x (zzD hp),mG (S.nd.sublist (List.sublist_append_left _ _)) hp hu⟩⟩
  ·rw [List.getElem?_append_right (by simpa using hi),zzQ,zzl] at h2;rw [List.getElem?_append_right (by omega)] at h1;have ha:ws[i-vs.length]?=some v:=by
    cases e:ws[i-vs.length]? with
    |none=>rw [e] at h2;cases h2
    |some a=>rw [e] at h2;cases h2;rfl
   rw [<-hl] at h1;obtain⟨c,hc⟩:=Lr x (zzD h1)
   obtain⟨u,rv,z⟩:=cells _ x c h1 hc v ha
   exact⟨u,rv,.inr ⟨.inr (S.QG x (zzD h1)),c,hc,ck c _ z⟩⟩
 ·show _=(ps++ys).length
  rw [zzM,zzM,zzl,zzl,hl,hw]
theorem N6{N:List Str}:Passes (dZ P w) (Hf P w K mg base N qual scope f cd cl A outer s H E) E:=by
 rintro aa σ H1 s1 e s' I ⟨a,C,t,vs,H',B,rfl,F⟩
 have nx:∀b:Addr,b∉(Hf P w K mg base N qual scope f cd cl A outer s H E).ex:=λb z=>nomatch (show b∈([]:List Addr) from z)
 have dY:∀b o,s.heap.get? b=some o->H b=none->b∉en outer->B.get? b=some o:=λb o q n hb=>
  F.dY b o (I.base.keep b o q n hb (nx b)) (I.base.free b o q n (nx b)) (j3 I rfl q hb)
 have cX:∀b o,s.heap.get? b=some o->b∉en outer->∃o',B.get? b=some o':=λb o q hb=>by
  obtain⟨o1,q1⟩:=I.base.there b o q (nx b)
  exact F.cX b o1 q1 (j3 I rfl q hb)
 refine wpAny_leaves_onW I.ok.frames rfl F.yO λh' x1 x2=>⟨a,C,t,vs,H',B,rfl,?_⟩
 have slot:∀b o,s.heap.get? b=some o->H b=none->b∈en outer->∃sl,h'.get? b=some {o with slots:=sl}:=λb o q n hb=>by
  obtain⟨sl,q1⟩:=I.base.slot b o q n hb (nx b)
  obtain⟨sl2,q2⟩:=F.un.any q1 (I.base.free b o q n (nx b)) (λz=>nomatch z)
  obtain⟨_,o',q3,hd⟩:=F.yO.2.2.1.mem (b:=b) (List.mem_filterMap.mpr (let⟨v,h1,h2⟩:=List.mem_filterMap.mp hb;⟨v,.tail _ h1,h2⟩))
  rw [q2] at q3;cases q3;obtain⟨sl3,q4⟩:=x2 b _ q2 hd
  exact⟨sl3,q4⟩
 refine⟨F.os.trans I.os,F.bare,F.aQ,x1,F.tn,F.tup.of_slots x2,dY,cX,⟨λb o q n hb _=>x1.1 _ _ (dY b o q n hb),λb o q n hb _=>slot b o q n hb,λb o q n _=>?_,λb o q _=>?_,λb xs q=>F.un.gk _ _ (I.base.gk _ _ q),λb o u q=>F.un.fk _ _ _ (I.base.fk _ _ _ q),λb ps q=>?_⟩,F.ends⟩
 ·obtain⟨sl,q1⟩:=I.base.any q n (nx b)
  exact F.un.free b _ q1 (I.base.free b o q n (nx b)) (λz=>nomatch z)
 ·by_cases hb:b∈en outer
  ·obtain⟨sl,q1⟩:=slot b o q (I.ok.tW b hb) hb
   exact⟨_,q1⟩
  ·obtain⟨o',q1⟩:=cX b o q hb
   exact⟨o',x1.1 _ _ q1⟩
 ·obtain⟨m1,q1⟩:=I.base.fM b ps q
  obtain⟨m2,q2⟩:=F.un.fM b _ q1
  exact⟨m1++m2,by rw [<-Array.append_assoc];exact q2⟩
theorem vJ{k:Nat}{params:Arguments}{body:Expr}{pm fN:Value}{c':Addr}{oc:Obj}{dm:Array Value}{ct:Tok}{us:List Value}{vs ws:List V}{Q:VK}{Z:List (Addr×Obj)}{t:TE}
 (S:sZ ps ys scope) (hr:dS k A) (e0:i4 P w K mg base A outer s H) (z:vg Z H (en outer) s.heap) (zb:∀b o,Z.lookup b=some o->base.get? b=none)
 (ho:s.heap.get? f=some (PySem.W.kla_obj "<lambda>" qual params body scope cl pm c' fN)) (hc:s.heap.get? c'=some oc) (lj:oc.data=.fields dm) (GG:dm[1]?=some (.str qual ct))
 (hb:bindArgs (PySem.W.kla_fn "<lambda>" qual params body scope cl pm (.ref c') fN) ⟨us,[]⟩=pure (ps.zip us)) (r:Vals vs us) (hl:vs.length=ps.length) (hw:ws.length=ys.length)
 (Lr:∀y∈ys,∃c,cl.lookup y=some c) (inj:∀x y c,cl.lookup x=some c->cl.lookup y=some c->x=y)
 (cz:∀x c,cl.lookup x=some c->∃o v,Z.lookup c=some o/\o.data=.cell v)
 (cells:∀(i:Nat) y c,ys[i]?=some y->cl.lookup y=some c->∀v,ws[i]?=some v->∃u,RelV v u/\s.heap.IsCell c (some u))
 (ht:PE (Hf P w K mg base (ps++ys) qual scope f (.ref c') cl A outer s H (λC a H'=>(∀b o,Z.lookup b=some o->H' b=none)->E C a (aU Z H'))) body t)
 (hq:t (vs.map some++ws.map some) H λv H'=>(∀b o,Z.lookup b=some o->H' b=none)->Q v (aU Z H')):
 codeAny (model P w) A (.call (.ref f) ⟨us,[]⟩) (CR (dZ P w) outer P w (aU Z H) s Q E) s:=by
 have lim:s.heap.NoLimit:=e0.mod.nolimit.keeps λb o e=>(e0.bs b o e).1
 refine PySem.W.kla_callFunE hr.depth ho rfl S.co S.gen rfl ⟨c',oc,dm,ct,rfl,hc,lj,GG⟩ ?_;rw [hb];refine zzG (wpAny_newFunctionEnv S.AB (λy hy=>S.par y.1 (List.of_mem_zip hy).1) (λh₁ OF hsb=>?_) S.kind)
 have hk₁:∀b o,s.heap.get? b=some o->h₁.get? b=some o:=λb o e=>hsb.extBut b o (zzb (zzO e)) (zzB _ e)
 refine⟨lim.keeps hk₁,?_⟩;show codeAny _ _ (.expr body (PySem.W.envX qual scope s.heap.objs.size f (.ref c') cl)) _ _;have I:=uK (E:=λC a H'=>(∀b o,Z.lookup b=some o->H' b=none)->E C a (aU Z H')) (cd:=.ref c') (f:=f) (qual:=qual) (tk:=s.toks+(ps.zip us).length) S hr.hd e0 Lr inj r hl hw cells (λx c h=>by
  obtain⟨o,v,h1,h2⟩:=cz x c h
  exact⟨v,o,z.at_ c o h1,h2⟩) (λx c h=>by
  obtain⟨o,v,h1,h2⟩:=cz x c h
  exact z.no c o h1) OF hk₁
 refine PySem.W.kla_codeExpr (wpAny_mono (ht [] _ _ H _ I hq) (λu s' hs=>?_) λe s' hs=>?_)
 ·obtain⟨v,H',J,rv,q⟩:=hs
  exact CE.more z ⟨v,H',J.os,J.bare,J.base,J.aQ,rv,q⟩
 ·exact wpAny_mono hs (λ_ FW y=>dZ.more z y) λe' FW y=>dZ.more z y
end
theorem vc{p:Pos}{a b:Int}{c cv:Value}:∀(l:List Value),TriplesOk l->codeAmong p (l++[rawInt a,rawInt b,c])=some cv->codeAmong p l=some cv\/cv=c:=by
 intro l h e
 fun_induction TriplesOk l with
 |case1=>
  simp only [List.nil_append,codeAmong,rawInt] at e;split at e
  ·cases e;exact .inr rfl
  ·cases e
 |case2 a' t b' u x rest ih=>
  simp only [List.cons_append,codeAmong] at e⊢;split at e
  ·rename_i hc;rw [if_pos hc];exact .inl e
  ·rename_i hc;rw [if_neg hc];exact ih h e
 |case3 l h1 h2=>exact h.elim
def zH(mg:Str->Option Value)(base:Heap):Prop:=∃bm o,mg "__builtins__"=some (.ref bm)/\bm≠builtinsNs/\bm≠mainGlobals/\base.get? bm=some o/\o.cls=.type "module"/\o.dict=some builtinsNs/\o.data=.plain
noncomputable def gA(H:Hp)(P:Addr)(qH:Array Value)(c':Addr)(oc:Obj)(f:Addr)(fo:Obj):Hp:=upd (upd (upd H P (.gf qH)) c' (.bF oc bO)) f (.bF fo bO)
section
variable{X:Cx}{aa:List (Addr×Obj)}{σ:St}{H:Hp}{s:Shared}{c P c' f:Addr}{ps qH:Array Value}{oc fo:Obj}
theorem Inv.lam{h':Heap}{tk:Nat}(I:Inv X aa σ H s)(hP:H P=some (.gf ps))(hx:∀b o,b≠P->s.heap.get? b=some o->h'.get? b=some o)(OV:h'.get? P=some (PySem.W.tabObj qH))(more:∃m,qH=ps++m)
 (hc:H c'=none/\s.heap.objs.size<=c'\/H c'=some (.bF oc bO)) (Ua:h'.get? c'=some oc) (hf:s.heap.objs.size<=f) (TM:h'.get? f=some fo) (CZ:c'≠f):
 Inv X aa σ (gA H P qH c' oc f fo) {s with heap:=h',toks:=tk}:=by
 have fr:H f=none:=I.aQ.fresh hf
 have nP:∀b u,H b=some u->(∀q,u≠.gf q)->b≠P:=λb u e n z=>by subst z;rw [hP] at e;cases e;exact n _ rfl
 have nf:∀b u,H b=some u->b≠f:=λb u e z=>by subst z;rw [fr] at e;cases e
 have cP:c'≠P:=λz=>by
  subst z;rcases hc with⟨e,_⟩|e
  ·rw [hP] at e;cases e
  ·rw [hP] at e;cases e
 have fP:f≠P:=λz=>by subst z;rw [hP] at fr;cases fr
 have at_:∀b u,H b=some u->(∀q,u≠.gf q)->gA H P qH c' oc f fo b=some u:=λb u e n=>by
  unfold gA;rw [ae (nf b u e)]
  by_cases hb:b=c'
  ·subst hb;rw [ak];rcases hc with⟨z,_⟩|z
   ·rw [z] at e;cases e
   ·rw [z] at e;exact e
  ·rw [ae hb,ae (nP b u e n)];exact e
 have no:∀b o,s.heap.get? b=some o->H b=none->gA H P qH c' oc f fo b=none:=λb o e n=>by
  have E7:b≠f:=λz=>absurd (zzO e) (by rw [z];exact Nat.not_lt.mpr hf)
  have Ly:b≠P:=λz=>by subst z;rw [hP] at n;cases n
  have zw:b≠c':=λz=>by
   rcases hc with⟨_,y⟩|y
   ·exact absurd (zzO e) (by rw [z];exact Nat.not_lt.mpr y)
   ·rw [z,y] at n;cases n
  unfold gA;rw [ae E7,ae zw,ae Ly];exact n
 have kp:∀b o,s.heap.get? b=some o->H b=none->h'.get? b=some o:=λb o e n=>hx b o (λz=>by subst z;rw [hP] at n;cases n) e
 refine I.un ⟨λb o e n _ _=>kp b o e n,λb o e n _ _=>⟨o.slots,kp b o e n⟩,λb o e n _=>no b o e n,λb o e _=>?_,λb xs e=>at_ b _ e (λ_ z=>nomatch z),λb o u e=>at_ b _ e (λ_ z=>nomatch z),λb qs e=>?_⟩ λb u e=>?_
 ·by_cases hb:b=P
  ·exact⟨_,by rw [hb];exact OV⟩
  ·exact⟨o,hx b o hb e⟩
 ·by_cases hb:b=P
  ·subst hb;rw [hP] at e;cases e;obtain⟨m,rfl⟩:=more
   exact⟨m,by unfold gA;rw [ae (Ne.symm fP),ae (Ne.symm cP),ak]⟩
  ·have zw:b≠c':=λz=>by
    subst z;rcases hc with⟨y,_⟩|y
    ·rw [y] at e;cases e
    ·rw [y] at e;cases e
   exact⟨#[],by unfold gA;rw [ae (nf b _ e),ae zw,ae hb,e];simp⟩
 ·unfold gA at e
  by_cases h1:b=f
  ·subst h1;rw [ak] at e;cases e;exact iE TM
  ·rw [ae h1] at e
   by_cases h2:b=c'
   ·subst h2;rw [ak] at e;cases e;exact iE Ua
   ·rw [ae h2] at e
    by_cases h3:b=P
    ·subst h3;rw [ak] at e;cases e;exact OV
    ·rw [ae h3] at e;refine(I.aQ b u e).eF (λd v hd q=>hx d v ?_ q) (λd q=>at_ d _ q (λ_ z=>nomatch z)) λd xs q=>at_ d _ q (λ_ z=>nomatch z)
     rcases hd with hd|hd
     ·rw [hd];exact h3
     ·exact nP d _ hd (λ_ z=>nomatch z)
theorem AS{R:Addr->Obj->Prop}{params:Arguments}{body:Expr}{scope:Scope}{pos:Pos}{cl:List (Str×Addr)}{Q:Value->Shared->Prop}{E:Value->Shared->Prop}(I:Inv X aa σ H s)(hP:H P=some (.gf ps))(ht:TriplesOk ps.toList)(vv:X.env.code=.ref c)(C:PySem.W.CodeHd X.base c P)
 (Uw:zH X.mg X.base) (GC:closureFor scope X.env=pure cl) (Iz:defaultsOf params X.env=([],[]))
 (hit:∀cv,codeAmong pos ps.toList=some cv->∃c' oc dm t,cv=.ref c'/\H c'=some (.bF oc bO)/\R c' oc/\oc.data=.fields dm/\dm[1]?=some (.str (X.env.qual++"<lambda>") t))
 (h:∀(f c':Addr) (oc:Obj) (dm:Array Value) (t:Tok) (fN:Value) (qH:Array Value) (h':Heap) (tk:Nat),H f=none->(H c'=none\/H c'=some (.bF oc bO)/\R c' oc)->c'≠f->f≠P->c'≠P->oc.data=.fields dm->dm[1]?=some (.str (X.env.qual++"<lambda>") t)->TriplesOk qH.toList->
  (∀p cv,codeAmong p qH.toList=some cv->codeAmong p ps.toList=some cv\/cv=.ref c')->(∃m,qH=ps++m)->
  Inv X aa σ (gA H P qH c' oc f (PySem.W.kla_obj "<lambda>" (X.env.qual++"<lambda>") params body scope cl ((X.mg "__name__").getD .none) c' fN)) {s with heap:=h',toks:=tk}->Q (.ref f) {s with heap:=h',toks:=tk}):
 wpAny (model X.prog X.w) X.A (eval (.Lambda params body scope pos) X.env) Q E s:=by
 have Q8:s.heap.get? P=some (PySem.W.tabObj ps):=I.aQ P _ hP
 have hg:=I.ok.mod.glob.keeps I.bk
 have Uy:mainGlobals≠P:=λq=>by
  obtain⟨o,es,ep,e,_⟩:=I.ok.mod.glob
  have:=(I.bs _ _ e).2
  rw [q,hP] at this;cases this
 obtain⟨bm,ob,b1,b2,b3,b4,b5,b6,b7⟩:=Uw
 have hB:s.heap.BuiltinsAt X.mg P:=⟨bm,ob,b1,b2,b3,(λq=>by
  have:=(I.bs _ _ b4).2
  rw [q,hP] at this;cases this),I.bk _ _ b4,b5,b6,b7⟩
 refine PySem.W.kla_eval Iz ?_;cases hm:codeAmong pos ps.toList with
 |none=>
  refine PySem.W.kla_makeFunction (mg:=X.mg) GC I.ok.glob hg vv (C.keeps I.bk) Q8 ht hm Uy hB λc' fN h' tk hx HX cg Qe TN=>?_
  obtain⟨c₂,oc,vs,t,e2,hoc,hd,hv⟩:=Qe
  cases e2;have GG:H c'=none:=I.aQ.fresh HX
  have hsz:s.heap.objs.size<=h'.objs.size:=zzU HX (Nat.le_of_lt cg)
  have kf:H h'.objs.size=none:=I.aQ.fresh hsz
  refine h h'.objs.size c' oc vs t fN _ _ tk kf (.inl GG) (zzb cg) (λz=>by rw [z,hP] at kf;cases kf) (λz=>by rw [z,hP] at GG;cases GG) hd hv ?_ ?_ ⟨_,rfl⟩
   (I.lam hP (λb o hb e=>zzB _ (hx b o hb e)) (zzB _ TN) ⟨_,rfl⟩ (.inl ⟨GG,HX⟩) (zzB _ hoc) hsz (zzX _ rfl) (zzb cg))
  ·rw [Array.toList_append];exact TriplesOk_snoc _ _ _ _ ht
  ·intro p cv e;rw [Array.toList_append] at e;exact vc _ ht e
 |some cv=>
  obtain⟨c',oc,dm,t,rfl,g8,hR,hd,hv⟩:=hit cv hm
  refine PySem.W.kla_makeFunctionHit (mg:=X.mg) GC I.ok.glob hg vv (C.keeps I.bk) Q8 ht hm hB λfN h' tk hk hsz=>?_
  have kf:H h'.objs.size=none:=I.aQ.fresh hsz
  have zm:s.heap.get? c'=some oc:=(I.aQ c' _ g8).1
  have CZ:c'≠h'.objs.size:=λz=>by rw [z,kf] at g8;cases g8
  refine h h'.objs.size c' oc dm t fN ps _ tk kf (.inr ⟨g8,hR⟩) CZ (λz=>by rw [z,hP] at kf;cases kf) (λz=>by rw [z,hP] at g8;cases g8) hd hv ht (λp cv e=>.inl e) ⟨#[],by simp⟩
   (I.lam hP (λb o hb e=>zzB _ (hk b o e)) (zzB _ (hk _ _ Q8)) ⟨#[],by simp⟩ (.inr g8) (zzB _ (hk _ _ zm)) hsz (zzX _ rfl) CZ)
end
section
end
section
end
section
variable{a b:Expr}
end
section
end
section
variable{κ:Type} [DecidableEq κ]
def ik(av:List (κ×V))(k:κ):Option V:=(av.find? λkv=>decide (kv.1=k)).map (·.2)
def putK(av:List (κ×V))(k:κ)(v:V):List (κ×V):=
 if(av.any λkv=>decide (kv.1=k))=true then av.map (λkv=>if kv.1=k then(kv.1,v) else kv) else av++[(k,v)]
def fZ(av:List (κ×V))(k:κ):List (κ×V):=av.filter λkv=>decide (kv.1≠k)
theorem gG{p:κ×V}{r:List (κ×V)}{k:κ}(e:p.1=k):ik (p::r) k=some p.2:=by simp [ik,List.find?_cons,e]
theorem gH{p:κ×V}{r:List (κ×V)}{k:κ}(e:¬p.1=k):ik (p::r) k=ik r k:=by simp [ik,List.find?_cons,e]
theorem lh(k:κ):∀av:List (κ×V),(av.any λkv=>decide (kv.1=k))=(ik av k).isSome
 |[]=>rfl
 |p::r=>by
  rw [List.any_cons]
  by_cases e:p.1=k
  ·simp only [gG e,zzh e,Bool.true_or,Option.isSome_some]
  ·rw [gH e,decide_eq_false e,Bool.false_or];exact lh k r
theorem eX(av:List (κ×V))(k:κ)(v:V):(putK av k v).length<=av.length+1:=by
 unfold putK;split
 ·rw [zzl];omega
 ·rw [zzM,zzL,List.length_nil];omega
theorem kD.j4{o:Option V}{u:Option Value}(r:kD o u):o.isSome=u.isSome:=by
 cases o with
 |none=>cases u with
  |none=>rfl
  |some _=>exact(show False from r).elim
 |some _=>cases u with
  |none=>exact(show False from r).elim
  |some _=>rfl
theorem KV.val{av:List (κ×V)}{vs:List (κ×Value)}(r:KV av vs)(k:κ):kD (ik av k) (valueAt vs k):=by
 unfold KV at r
 induction r with
 |nil=>exact True.intro
 |@cons p q ps qs h t ih=>
  obtain⟨h1,h2⟩:=h
  by_cases e:p.1=k
  ·have e':q.1=k:=h1.symm.trans e
   have b:valueAt (q::qs) k=some q.2:=by simp [valueAt,List.find?_cons,e']
   rw [gG e,b];exact h2
  ·have e':¬q.1=k:=λz=>e (h1.trans z)
   have b:valueAt (q::qs) k=valueAt qs k:=by simp [valueAt,List.find?_cons,e']
   rw [gH e,b];exact ih
theorem KV.any{av:List (κ×V)}{vs:List (κ×Value)}(r:KV av vs)(k:κ):(av.any λkv=>decide (kv.1=k))=vs.any λkv=>decide (kv.1=k):=by
 unfold KV at r
 induction r with
 |nil=>rfl
 |cons h t ih=>rw [List.any_cons,List.any_cons,ih,h.1]
theorem KV.K7{av:List (κ×V)}{vs:List (κ×Value)}(r:KV av vs)(k:κ){y:V}{u:Value}(ry:RelV y u):
 KV (av.map λkv=>if kv.1=k then(kv.1,y) else kv) (vs.map λkv=>if kv.1=k then(kv.1,u) else kv):=by
 unfold KV at r⊢
 induction r with
 |nil=>exact .nil
 |@cons p q ps qs h t ih=>
  rw [zzF,zzF];refine .cons ?_ ih;obtain⟨h1,h2⟩:=h
  by_cases e:p.1=k
  ·rw [if_pos e,if_pos (h1.symm.trans e)];exact⟨h1,ry⟩
  ·rw [if_neg e,if_neg (λz=>e (h1.trans z))];exact⟨h1,h2⟩
theorem KV.put{av:List (κ×V)}{vs:List (κ×Value)}(r:KV av vs)(k:κ){y:V}{u:Value}(ry:RelV y u):KV (putK av k y) (stored vs k u):=by
 unfold putK stored;rw [r.any k]
 by_cases e:(vs.any λkv=>decide (kv.1=k))=true
 ·rw [if_pos e,if_pos e];exact r.K7 k ry
 ·rw [if_neg e,if_neg e];exact Paired.snoc r ⟨rfl,ry⟩
theorem KV.length{av:List (κ×V)}{vs:List (κ×Value)}(r:KV av vs):av.length=vs.length:=Paired.length r
theorem AE(av:List (κ×V))(k:κ):(fZ av k).length<=av.length:=List.length_filter_le _ _
end
theorem vx{P:Program}{w:World}{k:Key}{u:Value}(r:RelV (kV k) u):(bW P w).is k u=true:=by
 cases k with
 |inl i=>obtain⟨t,e⟩:=(show∃t,u=Value.int i t from r);subst e;exact sN P w i t
 |inr x=>obtain⟨t,e⟩:=(show∃t,u=Value.str x t from r);subst e;exact sf P w x t
theorem nN{P:Program}{w:World}:∀{ks:List Key} {us:List Value},Vals (ks.map kV) us->ItemsAre (bW P w) ks us
 |[],_,r=>by rw [List.map_nil] at r;cases r;exact .nil
 |k::ks,_,r=>by
  rw [zzF] at r;cases r with
  |cons h t=>exact .cons (vx h) (nN t)
abbrev KT(H:Hp):List (List Key×V)->List (List Key×Addr×Value)->Prop:=Paired λp q=>p.1=q.1/\H q.2.1=some (.tup (p.1.map kV))/\RelV p.2 q.2.2
theorem KT.val{H:Hp}{av:List (List Key×V)}{xs:List (List Key×Addr×Value)}(r:KT H av xs)(k:List Key):kD (ik av k) ((atKey xs k).map (·.2)):=by
 induction r with
 |nil=>exact True.intro
 |@cons p q ps qs h t ih=>
  obtain⟨h1,_,h2⟩:=h
  by_cases e:p.1=k
  ·have e':q.1=k:=h1.symm.trans e
   have b:atKey (q::qs) k=some q.2:=by simp [atKey,List.find?_cons,e']
   rw [gG e,b];exact h2
  ·have e':¬q.1=k:=λz=>e (h1.trans z)
   have b:atKey (q::qs) k=atKey qs k:=by simp [atKey,List.find?_cons,e']
   rw [gH e,b];exact ih
theorem KT.K7{H:Hp}{av:List (List Key×V)}{xs:List (List Key×Addr×Value)}(r:KT H av xs)(k:List Key){y:V}{u:Value}(ry:RelV y u):
 KT H (av.map λkv=>if kv.1=k then(kv.1,y) else kv) (xs.map (putAt k u)):=by
 induction r with
 |nil=>exact .nil
 |@cons p q ps qs h t ih=>
  rw [zzF,zzF];refine .cons ?_ ih;obtain⟨h1,h2,h3⟩:=h
  unfold putAt
  by_cases e:p.1=k
  ·rw [if_pos e,if_pos (h1.symm.trans e)];exact⟨h1,h2,ry⟩
  ·rw [if_neg e,if_neg (λz=>e (h1.trans z))];exact⟨h1,h2,h3⟩
theorem KT.put{H:Hp}{av:List (List Key×V)}{xs:List (List Key×Addr×Value)}(r:KT H av xs)(k:List Key){b:Addr}{y:V}{u:Value}(hb:H b=some (.tup (k.map kV)))(ry:RelV y u):
 KT H (putK av k y) (storedH xs k b u):=by
 have e:(av.any λkv=>decide (kv.1=k))=(atKey xs k).isSome:=by
  rw [lh,(r.val k).j4,Option.isSome_map]
 unfold putK storedH;rw [e]
 by_cases q:(atKey xs k).isSome=true
 ·rw [if_pos q,if_pos q];exact r.K7 k ry
 ·rw [if_neg q,if_neg q];exact Paired.snoc r ⟨rfl,hb,ry⟩
theorem KT.keeps{H H':Hp}{av:List (List Key×V)}{xs:List (List Key×Addr×Value)}(r:KT H av xs)(ht:∀b ys,H b=some (.tup ys)->H' b=some (.tup ys)):KT H' av xs:=
 Paired.Bz r λ_ _ z=>⟨z.1,ht _ _ z.2.1,z.2.2⟩
section
variable{P:Program}{w:World}{H:Hp}{h:Heap}{a:Addr}
theorem Ho{u:HO}(ok:eh P w H h)(e:Rd H a u):cj P w H h a u:=e.ok ok
theorem rC{av:List (Key×V)}(ok:eh P w H h)(e:Rd H a (.dK av)):av.length<=sizeLine/\(a==sysModules)=false/\∃vs,KV av vs/\h.DictOf (bW P w) a vs:=
 show cj P w H h a (.dK av) from Ho ok e
theorem Mx{av:List (Key×V)}(ok:eh P w H h)(e:H a=some (.dK av)):av.length<=sizeLine/\(a==sysModules)=false/\∃vs,KV av vs/\h.DictOf (bW P w) a vs:=rC ok (.inl e)
theorem iF{ks:List Key}(ok:eh P w H h)(e:H a=some (.tup (ks.map kV))):(tupleKind (bW P w)).is h ks a:=by
 obtain⟨_,ay,r,o,h1,h2,n,h3⟩:=(show cj P w H h a (.tup (ks.map kV)) from ok a _ e)
 exact⟨o,ay.toArray,n,h1,h2,h3,by simpa using nN r⟩
theorem mO{av:List (List Key×V)}(ok:eh P w H h)(e:Rd H a (.dT av)):av.length<=sizeLine/\(a==sysModules)=false/\
 ∃xs,KT H av xs/\h.DictOfH (tupleKind (bW P w)) a xs:=by
 obtain⟨z,y,xs,r,o,es,ep,h1,h2,h3,h4,h5⟩:=(show cj P w H h a (.dT av) from Ho ok e)
 refine⟨z,y,xs,r,o,es,ep,h1,h2,h3,h4,λx hx=>?_,h5⟩
 have all:∀{l:List (List Key×V)} {m:List (List Key×Addr×Value)},KT H l m->∀x∈m,(tupleKind (bW P w)).is h x.1 x.2.1:=by
  intro l m q
  induction q with
  |nil=>intro x hx;exact nomatch hx
  |@cons p q ps qs hq t ih=>
   intro x hx;rcases List.mem_cons.mp hx with e|hx
   ·subst e;exact iF ok (by rw [<-hq.1];exact hq.2.1)
   ·exact ih x hx
 exact all r x hx
theorem zU{av:List (List Key×V)}(ok:eh P w H h)(e:H a=some (.dT av)):av.length<=sizeLine/\(a==sysModules)=false/\
 ∃xs,KT H av xs/\h.DictOfH (tupleKind (bW P w)) a xs:=mO ok (.inl e)
end
def DO(H:Hp)(a:Addr)(y:V)(r:Option V):Prop:=
 (∃av k,Rd H a (.dK av)/\y=kV k/\r=ik av k)\/∃av k b,Rd H a (.dT av)/\y=.ref b/\H b=some (.tup (k.map kV))/\r=ik av k
def xQ(H:Hp)(a:Addr)(y v:V)(H':Hp):Prop:=
 (∃av k,H a=some (.dK av)/\y=kV k/\av.length<sizeLine/\H'=upd H a (.dK (putK av k v)))\/
 ∃av k b,H a=some (.dT av)/\y=.ref b/\H b=some (.tup (k.map kV))/\av.length<sizeLine/\H'=upd H a (.dT (putK av k v))
theorem xQ.t{H:Hp}{a b:Addr}{av:List (List Key×V)}{k:List Key}{v:V}(e:H a=some (.dT av))(eb:H b=some (.tup (k.map kV)))(hl:av.length<sizeLine):
 xQ H a (.ref b) v (upd H a (.dT (putK av k v))):=.inr ⟨av,k,b,e,rfl,eb,hl,rfl⟩
section
variable{X:Cx}{aa:List (Addr×Obj)}{σ:St}{H:Hp}{s:Shared}{a:Addr}{y v:V}{u r:Value}{o:Option V}{A:Around}{E:Value->Shared->Prop}
theorem Inv.big(I:Inv X aa σ H s):sysModules<s.heap.objs.size:=by
 have h:mainGlobals<s.heap.objs.size:=(I.mod.glob.keeps I.bk).lt
 exact Nat.lt_trans (by decide) h
theorem yT{Q:Value->Shared->Prop}(hu:A.units+1<cLine)(I:Inv X aa σ H s)(g:DO H a y (some v))(ry:RelV y u)(h:∀w' s',Inv X aa σ H s'->RelV v w'->Q w' s'):
 wpAny (model X.prog X.w) A (getItem (.ref a) u) Q E s:=by
 rcases g with⟨av,k,e,ey,l⟩|⟨av,k,b,e,ey,eb,l⟩
 ·subst ey;obtain⟨z,hd,vs,rel,dd⟩:=rC I.aQ e
  obtain⟨w',hw,iP⟩:=kD.some_of (v:=v) (o:=valueAt vs k) (by rw [l];exact rel.val k)
  exact wpAny_getItem_of (vx ry) dd.mapOf hw (h w' _ (I.tok _) iP)
 ·subst ey;cases(show u=Value.ref b from ry);obtain⟨z,hd,xs,rel,dd⟩:=mO I.aQ e
  obtain⟨w',hw,iP⟩:=kD.some_of (v:=v) (o:=(atKey xs k).map (·.2)) (by rw [l];exact rel.val k)
  obtain⟨p,hp,hp2⟩:=zzJ.mp hw
  refine wpAny_getItem_heap (tupleKind_room_in1 hu) (iF I.aQ eb) dd hp ?_;rw [hp2];exact h w' _ (I.tok _) iP
theorem Dj{Q:Value->Shared->Prop}(hu:A.units+1<cLine)(I:Inv X aa σ H s)(g:DO H a y o)(ry:RelV y u)(h:∀s',Inv X aa σ H s'->Q (.bool (!o.isSome)) s'):
 wpAny (model X.prog X.w) A (compareOp .NotIn u (.ref a)) Q E s:=by
 rcases g with⟨av,k,e,ey,l⟩|⟨av,k,b,e,ey,eb,l⟩
 ·subst ey;obtain⟨z,hd,vs,rel,dd⟩:=rC I.aQ e
  refine wpAny_notIn_of (vx ry) hd dd.mapOf ?_;rw [<-(rel.val k).j4,<-l];exact h _ (I.tok _)
 ·subst ey;cases(show u=Value.ref b from ry);obtain⟨z,hd,xs,rel,dd⟩:=mO I.aQ e
  refine wpAny_notIn_heap (tupleKind_room_in1 hu) (iF I.aQ eb) hd dd ?_;have q:=(rel.val k).j4
  rw [Option.isSome_map] at q;rw [<-q,<-l];exact h _ (I.tok _)
theorem g9{h':Heap}{t':Nat}{ob:HO}(I:Inv X aa σ H s)(mu:Mt (H a))(hs:Heap.SameBut a s.heap h')(he:∃q,h'.get? a=some q)(new:cj X.prog X.w (upd H a ob) h' a ob):
 Inv X aa σ (upd H a ob) {s with heap:=h',toks:=t'}:=
 I.write (x:=a) (e:=a) mu (.inl rfl) (λb q hb z=>(hs.2 b hb).trans z) he new
theorem Jc{P:Program}{w:World}{H':Hp}{h':Heap}{av:List (Key×V)}{vs:List (Key×Value)}(z:av.length<=sizeLine)(hd:(a==sysModules)=false)(rel:KV av vs)(dd:h'.DictOf (bW P w) a vs):
 cj P w H' h' a (.dK av):=⟨z,hd,vs,rel,dd⟩
theorem yR{H':Hp}{Q:Unit->Shared->Prop}(hu:A.units+1<cLine)(I:Inv X aa σ H s)(g:xQ H a y v H')(ry:RelV y u)(rv:RelV v r)(h:∀s',Inv X aa σ H' s'->Q () s'):
 wpAny (model X.prog X.w) A (setItem (.ref a) u r) Q E s:=by
 rcases g with⟨av,k,e,ey,l,eH⟩|⟨av,k,b,e,ey,eb,l,eH⟩
 ·subst ey eH;obtain⟨z,hd,vs,rel,dd⟩:=Mx I.aQ e
  have hz:vs.length<=sizeLine:=by rw [<-rel.length];exact z
  have hl:(putK av k v).length<=sizeLine:=by have:=eX av k v;omega
  refine wpAny_setItem_pairs (hsz:=hz) (vx ry) dd λh' GU hs=>h _ ?_
  have he:∃q,h'.get? a=some q:=let⟨q,_,_,hq,_⟩:=GU;⟨q,hq⟩
  exact g9 I (by rw [e];exact True.intro) hs he (Jc hl hd (rel.put k rv) GU)
 ·subst ey eH;cases(show u=Value.ref b from ry);obtain⟨z,hd,xs,rel,dd⟩:=zU I.aQ e
  have hz:xs.length<=sizeLine:=by rw [<-Paired.length rel];exact z
  have hl:(putK av k v).length<=sizeLine:=by have:=eX av k v;omega
  refine wpAny_setItem_heap (hsz:=hz) (tupleKind_room_in1 hu) (iF I.aQ eb) dd λh' GU hs=>h _ ?_
  obtain⟨q,es,ep,hq,h2,h3,h4,_,h5⟩:=GU
  refine g9 I (by rw [e];exact True.intro) hs ⟨q,hq⟩ ⟨hl,hd,_,(rel.put k eb rv).keeps λc ys ec=>?_,q,es,ep,hq,h2,h3,h4,h5⟩
  rw [ae (fI ec e (λz=>nomatch z))];exact ec
end
def MB(i:Expr):Prop:=∀ov iv,subscripted i false ov iv=operate [ov,iv] (getItem ov iv)
theorem FZ{prog:Program}{w:World}{A:Around}{E:Value->Shared->Prop}{s:Shared}{env:Env}{value slice:Expr}{pos:Pos}{T id:String}{Q:Value->Shared->Prop}
 (hl:typeLookup (.type T) "__getitem__"=pure (some (.builtin id))) (hs:MB slice)
 (h:wpAny (model prog w) A (eval value env) (λo s₁=>wpAny (model prog w) A (eval slice env) (λi s₂=>s₂.TypeIs o T/\wpAny (model prog w) A (getItem o i) Q E s₂) E s₁) E s):
 wpAny (model prog w) A (eval (.Subscript value slice pos) env) Q E s:=by
 refine Subscript_ (wpAny_mono h (λo s₁ h₁=>wpAny_mono h₁ (λi s₂ h₂=>?_) λ_ _ x=>x) λ_ _ x=>x)
 obtain⟨hT,h₂⟩:=h₂
 unfold subscriptTail;refine zzA ?_;rw [getitemInPython_of_ne hT.not_modules];refine zzA (wpAny_specialOf hT hl ?_);have fin:wpAny (model prog w) A (subscripted slice false o i) (λr s₃=>wpAny (model prog w) A (letTemporaryGo value o r>>=λ_=>pure r) Q E s₃) E s₂:=by
  rw [hs o i];exact wpAny_operating (wpAny_mono h₂ (λr s₃ h₃=>zzA (wpAny_letTemporaryGo (zzG h₃))) λ_ _ x=>x)
 first
  |exact zzG (zzA fin)
  |exact zzA (zzG (zzA fin))
  |exact zzA fin
theorem rA{X:Cx}{aa:List (Addr×Obj)}{σ:St}{H:Hp}{s:Shared}{a:Addr}{y:V}{o:Option V}(I:Inv X aa σ H s)(g:DO H a y o):s.TypeIs (.ref a) "dict":=by
 rcases g with⟨av,k,e,_,_⟩|⟨av,k,b,e,_,_,_⟩
 ·obtain⟨_,_,vs,_,dd⟩:=rC I.aQ e
  exact dd.typeIs
 ·obtain⟨_,_,xs,_,dd⟩:=mO I.aQ e
  exact dd.typeIs
def GV(td ty:TE):TE:=λσ H Q=>td σ H λx H1=>ty σ H1 λy H2=>∃a v,x=.ref a/\DO H2 a y (some v)/\Q v H2
section
variable{X:Cx}{o i:Expr}{pos:Pos}{td ty:TE}
theorem Ed(hu:X.A.units+1<cLine)(ho:PE X o td)(hi:PE X i ty)(hs:MB i):PE X (.Subscript o i pos) (GV td ty):=by
 intro aa s σ H Q I h;refine FZ PySem.F.slot_dict_getitem.lookup hs (bR (ho aa s σ H _ I h) λu s1 ⟨x,H1,I1,rx,q1⟩=>bR (hi aa s1 σ H1 _ I1 q1) λiv s2 ⟨y,H2,I2,ry,a,v,ex,g,q2⟩=>?_)
 subst ex;obtain rfl:u=Value.ref a:=rx
 exact⟨rA I2 g,yT hu I2 g ry λw' s3 I3 iP=>⟨v,H2,I3,iP,q2⟩⟩
end
theorem sO{P:Program}{w:World}{H:Hp}(h:Heap)(hb:sysModules<h.objs.size):cj P w H (h.push {cls:=.type "dict",data:=.dict #[]}) h.objs.size (.dT []):=
 ⟨Nat.zero_le _,beq_eq_false_iff_ne.mpr (Ne.symm (zzb hb)),[],.nil,_,#[],0,zzX _ rfl,⟨rfl,rfl,rfl⟩,rfl,rfl,List.nodup_nil⟩
def Ld:TE:=λ_ H Q=>∀p,H p=none->Q (.ref p) (upd H p (.dT []))
section
variable{X:Cx}{pos:Pos}
theorem AQ:PE X (.Dict [] [] pos) Ld:=λaa s σ H Q I h=>
 wpAny_Dict_empty ⟨.ref s.heap.objs.size,_,I.laid (a:=s.heap.objs.size) (o:=.dT []) (t':=s.toks) (λ_ _ q=>zzB _ q) (zzE _) (sO s.heap I.big),rfl,h _ (I.aQ.fresh (zzE _))⟩
end
structure M1(X:Cx)(o:Expr)(m:Str)(apos:Pos)(e:Expr)(bQ:Pos):Prop where
 base:attributeBase o m X.env (eval o X.env)=eval o X.env
 Tf:((backTo bQ (starEach [e] X.env)).all (λx=>!x.1)&&(backToKw bQ (keywordEach [] X.env)).all (λx=>x.1.isSome)
  &&decide (([e]:List Expr).length+([]:List Keyword).length+(if([]:List Keyword).isEmpty then 0 else 1)<30))=true
 line:(apos.endLine==bQ.line)=true
 trees:backTo bQ (starEach [e] X.env)=[(false,eval e X.env)]
structure M2(X:Cx)(o:Expr)(m:Str)(apos:Pos)(e f:Expr)(bQ:Pos):Prop where
 base:attributeBase o m X.env (eval o X.env)=eval o X.env
 Tf:((backTo bQ (starEach [e,f] X.env)).all (λx=>!x.1)&&(backToKw bQ (keywordEach [] X.env)).all (λx=>x.1.isSome)
  &&decide (([e,f]:List Expr).length+([]:List Keyword).length+(if([]:List Keyword).isEmpty then 0 else 1)<30))=true
 line:(apos.endLine==bQ.line)=true
 trees:backTo bQ (starEach [e,f] X.env)=[(false,eval e X.env),(false,eval f X.env)]
def Gp(H:Hp)(a:Addr):Prop:=(∃av,Rd H a (.dK av))\/∃av,Rd H a (.dT av)
theorem Ja{X:Cx}{aa:List (Addr×Obj)}{σ:St}{H:Hp}{s:Shared}{a:Addr}(I:Inv X aa σ H s)(d:Gp H a):
 s.TypeIs (.ref a) "dict"/\(∀b,Value.ref a=.ref b->∃ob,s.heap.get? b=some ob/\ob.dict=none)/\(a==sysModules)=false:=by
 rcases d with⟨av,e⟩|⟨av,e⟩
 ·obtain⟨_,hd,vs,_,dd⟩:=rC I.aQ e
  refine⟨dd.typeIs,λb q=>?_,hd⟩
  cases q;obtain⟨ob,_,_,h1,h2,_⟩:=dd
  exact⟨ob,h1,h2.2.1⟩
 ·obtain⟨_,hd,xs,_,dd⟩:=mO I.aQ e
  refine⟨dd.typeIs,λb q=>?_,hd⟩
  cases q;obtain⟨ob,_,_,h1,h2,_⟩:=dd
  exact⟨ob,h1,h2.2.1⟩
end L2
namespace Att
open PySem PySem.W PySem.Calls PyProof.Rows
section
end
end Att
namespace L2
open PySem PySem.Spec PyProof.Rows
section
variable{κ:Type} [DecidableEq κ]
theorem yZ{p:κ×V}{r:List (κ×V)}{k:κ}(e:p.1=k):fZ (p::r) k=fZ r k:=by
 unfold fZ;rw [List.filter_cons,if_neg (by simp [e])]
theorem yQ{p:κ×V}{r:List (κ×V)}{k:κ}(e:¬p.1=k):fZ (p::r) k=p::fZ r k:=by
 unfold fZ;rw [List.filter_cons,if_pos (by simp [e])]
end
section
variable{prog:Program}{w:World}{κ:Type} [DecidableEq κ]{knd:HeapKind prog w κ}{A:Around}{E:Value->Shared->Prop}{s:Shared}{d a:Addr}{xs:List (κ×Addr×Value)}{k:κ}
theorem qy(d:Addr)(lo:(d==sysModules)=false):MeetsIn prog w (Builtin.«dict.__len__» ⟨[.ref d],[]⟩) (λ_ R s=>∃xs,s.heap.DictOfH knd d xs/\R (.ok (.ret (.int xs.length s.toks))) {s with toks:=s.toks+1}):=
 .of_wp λA R s ⟨xs,⟨o,es,ep,h1,_,h2,h3,_⟩,h⟩=>by
  show wpAny _ _ (dictSize d>>=λn=>_) _ _ s
  unfold dictSize;refine zzA (zzA (wpAny_dictEntries h1 h2 (zzG (zzA (wpAny_pendingCount_other lo (wpAny_ret_mkInt ?_))))));rw [Nat.add_zero,size_of_entries h3];exact h
theorem KG{Q:Value->Shared->Prop}(lo:(d==sysModules)=false)(hm:s.heap.DictOfH knd d xs)(hf:(xs.length:Int)<2^63)(h:Q (.int xs.length (s.toks+1)) {s with toks:=s.toks+1+1}):wpAny (model prog w) A (call (.builtin "len") [.ref d]) Q E s:=by
 refine Calls.call_function_entry kind_len plain_len entry_len (args_len1 _) ?_;unfold Builtin.«len»;refine zzA (m:=oneArg "len" _) (zzG (zzA (m:=callSpecial? (.ref d) (Str.ofString "__len__")) (wpAny_callSpecial?_slot (name:=Str.ofString "__len__") hm.typeIs F.slot_dict_len
  (call_meetsIn F.slot_dict_len hm.typeIs F.entry_dict_len (F.args_dict_len_1 _) (qy (knd:=knd) d lo) ⟨xs,hm,?_⟩))))
 show wpAny _ _ (holding _ _>>=λz=>_) _ _ {s with toks:=s.toks+1}
 refine zzA (wpAny_holding (zzG (zzA (wpAny_letGo ?_))));show wpAny _ _ (if((xs.length:Nat):Int)<0 then _ else(if((xs.length:Nat):Int)>=2^63 then _ else _)) _ _ _;rw [if_neg (by omega),if_neg (by omega)];exact zzA (wpAny_mkInt (zzG ⟨_,rfl,h⟩))
theorem A1{l:List (κ×Addr×Value)}:∀{j:Nat} {p:Addr×Value},(l.map (·.1)).Nodup->l[j]?=some (k,p)->l.eraseIdx j=l.filter λx=>decide (x.1≠k):=by
 induction l with
 |nil=>intro j p _ h;simp at h
 |cons x r ih=>
  intro j p nd h;rw [zzF,List.nodup_cons] at nd;cases j with
  |zero=>
   simp only [List.getElem?_cons_zero,Option.some.injEq] at h;subst h;simp only [List.eraseIdx_cons_zero,ne_eq,List.filter_cons,not_true,decide_false,zze,if_false];refine(List.filter_eq_self.mpr λy hy=>?_).symm;exact zzh λe=>nd.1 (e▸List.mem_map_of_mem (f:=(·.1)) hy)
  |succ j=>
   simp only [List.getElem?_cons_succ] at h;have qM:¬x.1=k:=λe=>nd.1 (e▸List.mem_map.mpr ⟨(k,p),zzD h,rfl⟩)
   rw [List.eraseIdx_cons_succ,List.filter_cons,if_pos (by simpa using qM),ih nd.2 h]
theorem oC{α β:Type}(f:α->β):∀(l:List α) (j:Nat),(l.eraseIdx j).map f=(l.map f).eraseIdx j
 |[],_=>by simp
 |x::r,0=>by simp
 |x::r,j+1=>by simp [oC f r j]
theorem uG{p:Addr×Value}{Q:Option DictEntry->Shared->Prop}(hu:knd.room A)(hk:knd.is s.heap k a)(hm:s.heap.DictOfH knd d xs)(hp:atKey xs k=some p)(hz:xs.length<=sizeLine)
 (hQ:∀h' e,e.val=p.2->h'.DictOfH knd d (xs.filter λx=>decide (x.1≠k))->Heap.SameBut d s.heap h'->Q (some e) {s with heap:=h',toks:=s.toks+knd.draws k}):wpAny (model prog w) A (Builtin.Dict.takeOut d (.ref a)) Q E s:=by
 obtain⟨o,es,ep,h1,hc,h2,h3,his,nd⟩:=hm
 unfold Builtin.Dict.takeOut
 try with_reducible refine wpAny_holding ?_
 refine zzA (knd.pyHash hu hk (zzA (wpAny_dictFind_heap (s:={s with toks:=s.toks+knd.draws k}) hu hk h1 h2 h3 his nd (λno=>?_) λj q hj=>?_)))
 ·rw [atKey_none_of_get no] at hp;cases hp
 ·rw [atKey_of_get nd hj] at hp;cases hp;refine zzA (wpAny_dictEntries (s:={s with toks:=s.toks+knd.draws k}) h1 h2 ?_);rw [entry_at h3 j,hj];refine zzA (wpAny_updateDictKeys (hz:=by have e:=size_of_entries h3;omega) (s:={s with toks:=s.toks+knd.draws k}) h1 h2 (zzG (hQ _ _ rfl ⟨_,_,ep+1,Heap.get?_update_self _ h1 (Obj.isFreed_of_dict (Obj.data_mapDictKeys h2 _)),
   hc.mapDictKeys _,Obj.data_mapDictKeys h2 _,?_,λx hx=>knd.keeps (his x (List.mem_filter.mp hx).1) h1 h2 (Heap.SameBut.update ..),nd.sublist (List.filter_sublist.map _)⟩ (Heap.SameBut.update ..))))
  rw [<-A1 nd hj,oC,<-h3];obtain⟨l⟩:=es
  simp [Array.eraseIdxIfInBounds];split
  ·simp
  ·rename_i hh;rw [List.eraseIdx_of_length_le (by simpa using hh)]
theorem qf(d a:Addr):MeetsIn prog w (Builtin.«dict.pop» ⟨[.ref d,.ref a],[]⟩) (λA R s=>knd.room A.in1/\∃k xs p,knd.is s.heap k a/\s.heap.DictOfH knd d xs/\xs.length<=sizeLine/\atKey xs k=some p/\
 ∀h',h'.DictOfH knd d (xs.filter λx=>decide (x.1≠k))->Heap.SameBut d s.heap h'->R (.ok (.ret p.2)) {s with heap:=h',toks:=s.toks+knd.draws k}):=
 .of_wp λA R s ⟨hu,k,xs,p,hk,hm,hz,hp,h⟩=>by
  obtain⟨o,es,ep,h1,_,h2,h3,_⟩:=id hm
  have ne:es.isEmpty=false:=by
   cases xs with
   |nil=>cases hp
   |cons x r=>
    have:=size_of_entries h3
    rw [zzL] at this;rw [Array.isEmpty_eq_false_iff_exists_mem];exact⟨es[0]'(by omega),Array.getElem_mem _⟩
  unfold Builtin.«dict.pop»;refine zzA ?_;unfold Builtin.Dict.keyAndDefault;refine zzA (wpAny_notOrdered_dict hm.typeIs ?_);show wpAny _ _ (pure (d,Value.ref a,Option.none)) _ _ s;refine zzG ?_;have kp:(keyPart (Value.ref a)).isSome=false:=rfl
  simp only [kp,zze,if_false];refine zzA (wpAny_dictEntries h1 h2 (zzA (zzG ?_)));rw [ne];simp only [zze,if_false];refine zzA (uG hu hk hm hp hz λh' e ev oq hs=>?_);simp only [Option.isNone_some,zze,if_false];exact zzA (wpAny_letGo (zzG ⟨e.val,rfl,by rw [ev];exact h h' oq hs⟩))
theorem qc{o:Obj}{es:Array DictEntry}{ep:Nat}{Q:Value->Shared->Prop}(lo:(d==sysModules)=false)(h1:s.heap.get? d=some o)(hc:o.ExactDict)(h2:o.data=.dict es ep)
 (hQ:Q (.ref s.heap.objs.size) {s with heap:=s.heap.push {cls:=.type "dict_keyiterator",data:=.fields #[.ref d,.int 0 0,.int es.size 0,.int ep 0]}}):wpAny (model prog w) A (pyIter (.ref d)) Q E s:=by
 have T:s.TypeIs (.ref d) "dict":=⟨o,h1,hc.1⟩
 refine wpAny_pyIter_slot T F.slot_dict_iter (wpAny_call_entry F.slot_dict_iter T F.entry_dict_iter ?_ (F.args_dict_iter_1 _));unfold Builtin.«dict.__iter__» Builtin.Dict.dictSlotNone;refine zzA (zzA (wpAny_notOrdered_dict T ?_));show wpAny _ _ (pure (Value.ref d):Sem Value) _ _ s;refine zzG ?_;show wpAny _ _ (Builtin.Dict.showsAll d>>=λ_=>_) _ _ s;unfold Builtin.Dict.showsAll;rw [if_neg (by rw [lo];exact zzf)];refine zzA (zzG (zzA (wpAny_dictEntries h1 h2 (zzA (wpAny_dictEpoch h1 h2 ?_)))));refine zzA (wpAny_newObj_type (zzG ⟨_,rfl,"dict_keyiterator",_,⟨_,zzX _ rfl,rfl⟩,F.slot_dict_keyiterator_next.lookup,?_⟩))
 simpa [rawInt] using hQ
theorem kK{it:Addr}{i ep:Nat}{o:Obj}{es:Array DictEntry}{Q:Option Value->Shared->Prop}(st:s.heap.IsKeyIter it d i es.size ep)(h1:s.heap.get? d=some o)(h2:o.data=.dict es ep)(hi:i<es.size)
 (hQ:∀h',h'.IsKeyIter it d (i+1) es.size ep->Heap.SameBut it s.heap h'->Q (some es[i].key) {s with heap:=h'}):wpAny (model prog w) A (pyNext (.ref it)) Q E s:=by
 obtain⟨oi,g1,g2,g3⟩:=id st
 have own:Builtin.Dict_items.ownsTuple "dict_keyiterator"=false:=by decide
 unfold pyNext;refine zzA (wpAny_attempt (wpAny_callSpecial?_slot (name:=Str.ofString "__next__") st.typeIs F.slot_dict_keyiterator_next (wpAny_call_entry F.slot_dict_keyiterator_next st.typeIs F.entry_dict_keyiterator_next ?_ (F.args_dict_keyiterator_next_1 _))));refine zzA (zzG (zzA (zzA ?_)))
 first|refine zzA (wpAny_typeNameOfWhole_keyiter st.typeIs (zzG (zzA (wpAny_fieldsOf g1 g3 ?_))))|refine zzA (wpAny_typeNameOf_keyiter st.typeIs (zzG (zzA (wpAny_fieldsOf g1 g3 ?_))))
 simp only [own,zze,if_false];show wpAny _ _ (if(Value.ref d==Value.none)=true then _ else _:Sem _) _ _ s;rw [if_neg (show¬((Value.ref d==Value.none)=true) from zzf)];refine zzA (zzG (zzA (wpAny_dictEntries h1 h2 ?_)));rw [if_neg (by simp)];refine zzA (zzG (zzA (wpAny_dictEpoch h1 h2 ?_)));rw [if_neg (by simp)];refine zzG ?_;simp only [show¬((i:Int)<0) from by omega,if_false,Int.toNat_natCast,Array.getElem?_eq_getElem hi];refine zzA ?_
 first|refine zzA (wpAny_typeNameOfWhole_keyiter st.typeIs (zzG (zzA (wpAny_isOneOf_keyiter st.typeIs ?_))))|refine zzA (wpAny_typeNameOf_keyiter st.typeIs (zzG (zzA (wpAny_isOneOf_keyiter st.typeIs ?_))))
 show wpAny _ _ (setField (.ref it) 1 (rawInt ((i:Int)+1))>>=λ_=>_) _ _ s
 have kM:(s.heap.update it (Obj.mapFields (·.setIfInBounds 1 (rawInt ((i:Int)+1))))).IsKeyIter it d (i+1) es.size ep:=
  ⟨_,Heap.get?_update_self _ g1 (Obj.isFreed_of_fields (Obj.data_mapFields g3 _)),(Obj.cls_mapFields ..).trans g2,by rw [Obj.data_mapFields g3];simp [rawInt]⟩
 refine zzA (wpAny_setField g1 g3 (by simp) (zzA (wpAny_holding (zzA (wpAny_isOneOf_keyiter (s:={s with heap:=s.heap.update it (Obj.mapFields (·.setIfInBounds 1 (rawInt ((i:Int)+1))))}) kM.typeIs ?_)))));show wpAny _ _ (pure es[i].key:Sem Value) _ _ _;exact zzG (zzG ⟨_,rfl,zzG (hQ _ kM (Heap.SameBut.update ..))⟩)
theorem tU{it:Addr}{i ep:Nat}{o:Obj}{es:Array DictEntry}{Q:Option Value->Shared->Prop}(hh:A.handled=none)(st:s.heap.IsKeyIter it d i es.size ep)(h1:s.heap.get? d=some o)(h2:o.data=.dict es ep)(hi:es.size<=i)
 (hQ:∀h',Heap.ExtBut it s.heap h'->Q none {s with heap:=h'}):wpAny (model prog w) A (pyNext (.ref it)) Q E s:=by
 obtain⟨oi,g1,g2,g3⟩:=id st
 have own:Builtin.Dict_items.ownsTuple "dict_keyiterator"=false:=by decide
 unfold pyNext;refine zzA (wpAny_attempt (wpAny_callSpecial?_slot (name:=Str.ofString "__next__") st.typeIs F.slot_dict_keyiterator_next (wpAny_call_entry F.slot_dict_keyiterator_next st.typeIs F.entry_dict_keyiterator_next ?_ (F.args_dict_keyiterator_next_1 _))));refine zzA (zzG (zzA (zzA ?_)))
 first|refine zzA (wpAny_typeNameOfWhole_keyiter st.typeIs (zzG (zzA (wpAny_fieldsOf g1 g3 ?_))))|refine zzA (wpAny_typeNameOf_keyiter st.typeIs (zzG (zzA (wpAny_fieldsOf g1 g3 ?_))))
 simp only [own,zze,if_false];show wpAny _ _ (if(Value.ref d==Value.none)=true then _ else _:Sem _) _ _ s;rw [if_neg (show¬((Value.ref d==Value.none)=true) from zzf)];refine zzA (zzG (zzA (wpAny_dictEntries h1 h2 ?_)));rw [if_neg (by simp)];refine zzA (zzG (zzA (wpAny_dictEpoch h1 h2 ?_)));rw [if_neg (by simp)];refine zzG ?_;simp only [show¬((i:Int)<0) from by omega,if_false,Int.toNat_natCast,Array.getElem?_eq_none hi];refine zzA ?_
 first|refine zzA (wpAny_typeNameOfWhole_keyiter st.typeIs (zzG ?_))|refine zzA (wpAny_typeNameOf_keyiter st.typeIs (zzG ?_))
 show wpAny _ _ (setField (.ref it) 0 .none>>=λ_=>_) _ _ s
 refine zzA (wpAny_setField g1 g3 (by simp) ?_);show wpAny _ _ (newExc (.type "StopIteration") []>>=λ_=>_) _ _ _
 refine zzA ?_;simp only [newExc,newTuple];refine zzA (wpAny_newObj_type (zzA (m:=firstArgMember _ _) (wpAny_of_eq (a:=Value.none) (by first|rfl|(simp only [firstArgMember];rfl)) (wpAny_newObj_type ?_ (by size_fits)))) (by size_fits));simp only [raiseNew];refine zzA (wpAny_handled ?_);rw [show A.in1.handled=none from hh];refine zzA (zzG (wpAny_throw ?_));refine zzA (wpAny_isInstance (T:="StopIteration") (b:=true) ⟨_,zzX _ rfl,rfl⟩ isSubtype_stop ?_);exact zzG (hQ _ (((Heap.SameBut.update ..).extBut.push _).push _))
end
theorem KT.drop{H:Hp}{av:List (List Key×V)}{xs:List (List Key×Addr×Value)}(r:KT H av xs)(k:List Key):KT H (fZ av k) (xs.filter λx=>decide (x.1≠k)):=by
 unfold fZ
 induction r with
 |nil=>exact .nil
 |@cons p q ps qs h t ih=>
  rw [List.filter_cons,List.filter_cons,<-h.1];split
  ·exact .cons h ih
  ·exact ih
theorem KT.len{H:Hp}{av:List (List Key×V)}{xs:List (List Key×Addr×Value)}(r:KT H av xs):av.length=xs.length:=Paired.length r
section
variable{X:Cx}{aa:List (Addr×Obj)}{σ:St}{H:Hp}{s:Shared}{a b:Addr}{av:List (List Key×V)}{k:List Key}{A:Around}{E:Value->Shared->Prop}
theorem HF{Q:Value->Shared->Prop}(I:Inv X aa σ H s)(e:Rd H a (.dT av))(h:∀t s',Inv X aa σ H s'->Q (.int av.length t) s'):wpAny (model X.prog X.w) A (call (.builtin "len") [.ref a]) Q E s:=by
 obtain⟨z,lo,xs,rel,dd⟩:=mO I.aQ e
 refine KG lo dd (by rw [<-rel.len];rw [sizeLine_eq] at z;omega) ?_;rw [<-rel.len];exact h _ _ (I.tok _)
theorem JK{v:V}{Q:Value->Shared->Prop}(hu:A.units+1<cLine)(I:Inv X aa σ H s)(e:H a=some (.dT av))(eb:H b=some (.tup (k.map kV)))(l:ik av k=some v)
 (h:∀w' s',Inv X aa σ (upd H a (.dT (fZ av k))) s'->RelV v w'->Q w' s'):wpAny (model X.prog X.w) A (call (.builtin "dict.pop") [.ref a,.ref b]) Q E s:=by
 obtain⟨z,lo,xs,rel,dd⟩:=zU I.aQ e
 obtain⟨w',hw,iP⟩:=kD.some_of (v:=v) (o:=(atKey xs k).map (·.2)) (by rw [<-l];exact rel.val k)
 obtain⟨p,hp,hp2⟩:=zzJ.mp hw
 refine call_meetsIn PySem.F.slot_dict_pop dd.typeIs PySem.F.entry_dict_pop (PySem.F.args_dict_pop_2 _ _) (qf (knd:=tupleKind (bW X.prog X.w)) a b) ⟨tupleKind_room_in1 hu,k,xs,p,iF I.aQ eb,dd,by rw [<-rel.len];exact z,hp,λh' GU hs=>?_⟩
 rw [hp2];obtain⟨q,es,ep,hq,h2,h3,h4,_,h5⟩:=GU
 refine h w' _ (g9 I (by rw [e];exact True.intro) hs ⟨q,hq⟩ ⟨zzU (AE av k) z,lo,_,(rel.drop k).keeps λc ys ec=>?_,q,es,ep,hq,h2,h3,h4,h5⟩) iP
 rw [ae (fI ec e (λz=>nomatch z))];exact ec
theorem Inv.freeze(I:Inv X aa σ H s)(e:H a=some (.dT av)):∃o,Inv X aa σ (upd H a (.bF o (.dT av))) s:=by
 obtain⟨z,lo,xs,rel,o,es,ep,h1,h2,h3,h4,h5⟩:=(show cj X.prog X.w H s.heap a (.dT av) from I.aQ a _ e)
 refine⟨o,g9 (h':=s.heap) (t':=s.toks) I (by rw [e];exact True.intro) ⟨rfl,λ_ _=>rfl⟩ ⟨o,h1⟩ ⟨h1,z,lo,xs,?_,o,es,ep,h1,h2,h3,h4,h5⟩⟩
 exact KT.keeps (H:=H) rel λc ys ec=>by rw [ae (fI ec e (λz=>nomatch z))];exact ec
end
noncomputable def QV(a:Addr)(o:Obj)(av:List (List Key×V)):It:=
 ⟨λi H=>H a=some (.bF o (.dT av))/\i<av.length,λi H x H'=>H'=H/\∃b k v,x=.ref b/\av[i]?=some (k,v)/\H b=some (.tup (k.map kV)),λi H=>H a=some (.bF o (.dT av))/\av.length<=i⟩
theorem gJ{X:Cx}{aa:List (Addr×Obj)}{σ:St}{H:Hp}{s:Shared}{a:Addr}{o:Obj}{av:List (List Key×V)}(I:Inv X aa σ H s)(e:H a=some (.bF o (.dT av))):
 (a==sysModules)=false/\s.heap.get? a=some o/\o.ExactDict/\∃es ep,o.data=.dict es ep/\es.size=av.length/\∀(i:Nat) (h:i<es.size),∃b k v,es[i].key=.ref b/\av[i]?=some (k,v)/\H b=some (.tup (k.map kV)):=by
 obtain⟨h0,z,lo,xs,rel,o',es,ep,h1,h2,h3,h4,h5⟩:=(show cj X.prog X.w H s.heap a (.bF o (.dT av)) from I.aQ a _ e)
 rw [h0] at h1;cases h1;have hl:es.size=xs.length:=size_of_entries h4
 refine⟨lo,h0,h2,es,ep,h3,hl.trans (KT.len rel).symm,λi hi=>?_⟩
 have hx:i<xs.length:=by omega
 have e1:es[i]?=(xs[i]?).map (entryOfKey (tupleKind (bW X.prog X.w))):=entry_at h4 i
 rw [zzg hx,Array.getElem?_eq_getElem hi] at e1;have hk:i<av.length:=by have:=KT.len rel;omega
 have pr:∀{l:List (List Key×V)} {m:List (List Key×Addr×Value)},KT H l m->∀(j:Nat) p q,l[j]?=some p->m[j]?=some q->p.1=q.1/\H q.2.1=some (.tup (p.1.map kV)):=by
  intro l m r
  induction r with
  |nil=>intro j p q h;simp at h
  |cons h t ih=>
   intro j p q h1 h2;cases j with
   |zero=>simp at h1 h2;subst h1 h2;exact⟨h.1,h.2.1⟩
   |succ j=>simp at h1 h2;exact ih j p q h1 h2
 obtain⟨g1,g2⟩:=pr (KT.keeps (H':=H) rel λ_ _ z=>z) i av[i] xs[i] (zzg hk) (zzg hx)
 refine⟨xs[i].2.1,av[i].1,av[i].2,?_,zzg hk,g2⟩;have e2:es[i]=entryOfKey (tupleKind (bW X.prog X.w)) xs[i]:=Option.some.inj e1
 rw [e2]
 rfl
theorem xZ{P:Program}{w:World}{K:PySem.W.Frag}{tg:Expr}{a it:Addr}{o:Obj}{es:Array DictEntry}{ep:Nat}{av:List (List Key×V)}(hd:o.data=.dict es ep)(hl:es.size=av.length):
 Turn P w K tg (QV a o av) [it] it (λi h=>h.IsKeyIter it a i es.size ep) where
 mem:=by simp
 obj:=λi h st b hb=>by
  have e:b=it:=by simpa using hb
  subst e;obtain⟨q,e,c,d⟩:=st
  exact⟨q,e,λv z=>by rw [d] at z;cases z⟩
 keep:=λi h h' st k=>st.at λo e=>k it (by simp) o e
 item:=by
  intro X hP hw hK hc i aa s σ H E I hf st hg;subst hP hw hK;obtain⟨g1,g2⟩:=hg
  obtain⟨lo,h0,hx,es',ep',h3,uB,wH⟩:=gJ I g1
  rw [hd] at h3;cases h3;obtain⟨f0,f1,f2,f3,f4,f5⟩:=hf it (by simp)
  have hi:i<es.size:=by omega
  refine kK st h0 hd hi λh' kM sb=>?_
  obtain⟨b,k,v,e1,e2,e3⟩:=wH i hi
  have I1:Inv X aa σ H {s with heap:=h'}:=I.turned (t':=s.toks) (λb o hb e=>(sb.2 b hb).trans e) f0 f1 f3 f4 f5
  obtain⟨q,e,c,d⟩:=id kM
  refine⟨_,rfl,vE (s:={s with heap:=h'}) e c d (by decide) ⟨.ref b,H,I1,?_,⟨rfl,b,k,v,rfl,e2,e3⟩,kM,λb hb=>(hf b hb).1⟩⟩
  rw [e1];exact rfl
 done:=by
  intro X hP hw hK hc i aa s σ H E I hf st hg;subst hP hw hK;obtain⟨g1,g2⟩:=hg
  obtain⟨lo,h0,hx,es',ep',h3,uB,wH⟩:=gJ I g1
  rw [hd] at h3;cases h3;obtain⟨f0,f1,f2,f3,f4,f5⟩:=hf it (by simp)
  exact tU (I.ok.hd hc) st h0 hd (by omega) λh' eb=>⟨rfl,I.turned (t':=s.toks) (λb o hb e=>eb b o hb e) f0 f1 f3 f4 f5⟩
 self:=λ_ _ _ _ _ st h=>wpAny_pyIter_keyiter st h
noncomputable def O5(tl:TE):TI:=λσ H R=>tl σ H λx H1=>∃a o av,x=.ref a/\H1 a=some (.bF o (.dT av))/\R (QV a o av) H1
section
variable{X:Cx}{o e:Expr}{apos bQ:Pos}{td ty:TE}
theorem Ko{tg l:Expr}{tl:TE}(hl:PE X l tl):PI X tg l (O5 tl):=by
 intro aa s σ H R I h;refine bR (hl aa s σ H _ I h) λv s1 ⟨x,H1,I1,r1,q1⟩=>?_
 obtain⟨a,o,av,e,hq,q⟩:=q1
 subst e;cases r1;obtain⟨lo,h0,hx,es,ep,h3,uB,wH⟩:=gJ I1 hq
 refine qc lo h0 hx h3 ?_;refine⟨s1.heap.objs.size,[s1.heap.objs.size],_,_,H1,rfl,I1.kept (t':=s1.toks) λb o e=>zzB _ e,xZ h3 uB,⟨_,zzX _ rfl,rfl,rfl⟩,λb hb=>?_,q⟩
 have e:b=s1.heap.objs.size:=by simpa using hb
 subst e;exact I1.lB (zzE _) (I1.aQ.fresh (zzE _))
noncomputable def Mj(td ty:TE):TE:=λσ H Q=>td σ H λx H1=>∃a,x=.ref a/\Gp H1 a/\ty σ H1 λy H2=>∃av k b v,H2 a=some (.dT av)/\y=.ref b/\H2 b=some (.tup (k.map kV))/\ik av k=some v/\Q v (upd H2 a (.dT (fZ av k)))
theorem EO(hu:X.A.units+1<cLine)(ho:PE X o td)(he:PE X e ty)(m:M1 X o "pop" apos e bQ):PE X (.Call (.Attribute o "pop" apos) [e] [] bQ) (Mj td ty):=by
 intro aa s σ H Q I h;refine wpAny_Call_method m.base m.Tf m.line PySem.F.plainAttrs_dict PySem.F.slot_dict_pop PySem.F.type_dict_pop (bR (ho aa s σ H _ I h) λu s1 ⟨x,H1,I1,rx,a,ex,d,q1⟩=>?_)
 subst ex;obtain rfl:u=Value.ref a:=rx
 obtain⟨t1,t2,_⟩:=Ja I1 d
 refine⟨t1,t2,?_⟩;rw [m.trees];refine Calls.callWith_builtin rfl (Calls.evalArgs_plain (Calls.spliced_cons (bR (he aa s1 σ H1 _ I1 q1) λiv s2 ⟨y,H2,I2,ry,av,k,b,v,ea,ey,eb,l,q2⟩=>Calls.spliced_nil ?_)))
 subst ey;cases(show iv=Value.ref b from ry);exact JK hu I2 ea eb l λw' s3 I3 iP=>⟨v,_,I3,iP,q2⟩
end
end L2
namespace L2
open PySem PySem.Spec PyProof.Rows PySem.W
section
variable{n:Nat}(h0:0<n)
include h0
end
end L2
namespace L2
open PySem PySem.Spec PyProof.Rows
theorem yU:typeLookup (.type "list") "keys"=pure none:=by rw [typeLookup_type,builtinLookup_eq_fast];kernel_rfl
theorem rG:entryFor table "dict.update.loop"=some Builtin.«dict.update.loop»:=entryFor_of_tree (by kernel_rfl)
theorem iT:plainId "dict.update.loop"=true:=by decide+kernel
section
variable{prog:Program}{w:World}{A:Around}{E:Value->Shared->Prop}{s:Shared}{a:Addr}{o:Obj}{xs:Array Value}{k:Nat}
theorem Ep{Q:Option Value->Shared->Prop}(hx:s.heap.get? a=some o)(hc:o.cls=.type "list")(MW:o.data=.seq xs k)(hd:o.dict=none)(hA:A.handled=none)
 (h:∀h' tk,(∀b o,s.heap.get? b=some o->h'.get? b=some o)->Q none {s with heap:=h',toks:=tk}):wpAny (model prog w) A (getAttr? (.ref a) "keys") Q E s:=by
 obtain⟨c,aP,dat,sl⟩:=o
 simp only at hc MW hd;subst hc MW hd;obtain⟨hp,g,d,tk,os⟩:=s
 have hT:∀QC,(⟨hp,g,d,QC,os⟩:Shared).TypeIs (.ref a) "list":=λ_=>⟨_,hx,rfl⟩
 have f1:=sub_AttributeError
 have f3:=F.slot_list_getattribute.lookup
 have f4:=F.slot_list_getattribute.bind (.ref a)
 have f5:=am_list_getattr_none
 unfold getAttr? getAttrBy? getAttrBy
 repeat (any_goals (first|assumption|exact hT _|((with_reducible show wpAny _ _ (call (Value.builtin "list.__getattribute__") _ _) _ _ _);refine call_meets F.slot_list_getattribute (hT _) am_entry_list_getattribute (F.args_list_getattribute_2 _ _) (meets_getattribute_miss_list a xs k sl "keys" _ yU (by decide) (by size_fits)) ⟨hx,hA,λh' QC e yI=>?_⟩)|wp_step))
 obtain⟨t',u',he⟩:=yI.there
 show wpAny _ _ (getattributeRaised _ _ _ _ _ _ _) _ _ _
 unfold getattributeRaised
 repeat (any_goals (first|assumption|wp_step))
 exact h h' QC yI.keeps
end
def eL(av more:List (List Key×V)):List (List Key×V):=more.foldl (λacc kv=>putK acc kv.1 kv.2) av
abbrev ir(K:PySem.W.Frag)(H:Hp)(vs:List V)(av:List (List Key×V)):Prop:=Paired (λv kv=>∃q b,v=V.ref q/\f6 K H q [.ref b,kv.2]/\H b=some (.tup (kv.1.map kV))) vs av
section
variable{X:Cx}{aa:List (Addr×Obj)}{σ:St}{l d it:Addr}{vs:List V}{A:Around}{E:Value->Shared->Prop}{R:Result->Shared->Prop}
theorem IE{H:Hp}{s:Shared}{a b:Addr}{av:List (List Key×V)}{k:List Key}{v:V}{r:Value}{Q:Unit->Shared->Prop}(hu:A.units<cLine)(I:Inv X aa σ H s)(e:H a=some (.dT av))(eb:H b=some (.tup (k.map kV)))(l:av.length<sizeLine)(rv:RelV v r)
 (h:∀h' t,Heap.SameBut a s.heap h'->Inv X aa σ (upd H a (.dT (putK av k v))) {s with heap:=h',toks:=t}->Q () {s with heap:=h',toks:=t}):wpAny (model X.prog X.w) A (dictSet a (.ref b) r) Q E s:=by
 obtain⟨z,lo,xs,rel,dd⟩:=zU I.aQ e
 have hz:xs.length<=sizeLine:=by rw [<-rel.len];exact z
 have hl:(putK av k v).length<=sizeLine:=by have:=eX av k v;omega
 refine wpAny_dictSet_heap (hsz:=hz) (knd:=tupleKind (bW X.prog X.w)) hu (iF I.aQ eb) dd λh' GU hs=>h h' _ hs ?_
 obtain⟨q,es,ep,hq,h2,h3,h4,_,h5⟩:=GU
 refine g9 I (by rw [e];exact True.intro) hs ⟨q,hq⟩ ⟨hl,lo,_,(rel.put k eb rv).keeps λc ys ec=>?_,q,es,ep,hq,h2,h3,h4,h5⟩
 rw [ae (fI ec e (λz=>nomatch z))];exact ec
theorem f6.gR{K:PySem.W.Frag}{H H':Hp}{a:Addr}{xs:List V}(h:f6 K H a xs)(e:∀b,b≠d->H' b=H b){acc:List (List Key×V)}(hd:H d=some (.dT acc)):f6 K H' a xs:=by
 rcases h with(h|⟨o,h⟩)|h
 ·exact .inl (.inl (by rw [e a (fI h hd (λz=>nomatch z))];exact h))
 ·exact .inl (.inr ⟨o,by rw [e a (fI h hd (λz=>nomatch z))];exact h⟩)
 ·exact .inr h
theorem gz.gR{K:PySem.W.Frag}{H H':Hp}{a:Addr}{xs:List V}(h:gz K H a xs)(e:∀b,b≠d->H' b=H b){acc:List (List Key×V)}(hd:H d=some (.dT acc)):gz K H' a xs:=by
 rcases h with(h|⟨o,h⟩)|h
 ·exact .inl (.inl (by rw [e a (fI h hd (λz=>nomatch z))];exact h))
 ·exact .inl (.inr ⟨o,by rw [e a (fI h hd (λz=>nomatch z))];exact h⟩)
 ·exact .inr h
theorem ir.gR{K:PySem.W.Frag}{H H':Hp}{av:List (List Key×V)}(e:∀b,b≠d->H' b=H b){acc:List (List Key×V)}(hd:H d=some (.dT acc)):∀{vs:List V},ir K H vs av->ir K H' vs av:=λh=>
 Paired.Bz h λ_ _ ⟨q,b,e1,e2,e3⟩=>⟨q,b,e1,f6.gR e2 e hd,by rw [e b (fI e3 hd (λz=>nomatch z))];exact e3⟩
theorem EB(hu:A.units+1<cLine)(hh:A.handled=none):∀(rest:List (List Key×V)) (i:Nat) (j:Int) (acc:List (List Key×V)) (H:Hp) (s:Shared),Inv X aa σ H s->fD X aa H it->s.heap.IsListIter it l i->gz X.K H l vs->ir X.K H (vs.drop i) rest->H d=some (.dT acc)->acc.length+rest.length<=sizeLine->
 (∀s' H',Inv X aa σ H' s'->H' d=some (.dT (eL acc rest))->(∀b,b≠d->H' b=H b)->R (.ok (.ret .none)) s')->codeAny (model X.prog X.w) A (.builtin "dict.update.loop" ⟨[.ref d,.ref it,rawInt j,.none],[]⟩) R s:=by
 intro rest
 induction rest with
 |nil=>
  intro i j acc H s I hf st hl pr hd hz k;obtain⟨ay,rv,p,_⟩:=I.list hl
  obtain⟨f0,f1,f2,f3,f4,f5⟩:=hf
  have hi:vs.length<=i:=List.drop_eq_nil_iff.mp (by cases h:vs.drop i with|nil=>rfl|cons x r=>rw [h] at pr;cases pr)
  have hle:=rv.length
  refine codeAny_builtin rG ?_;rw [Around.under_plainId iT _];show wpAny _ A.in1 (pyNext (.ref it)>>=λz=>_) _ _ s
  refine zzA (wpAny_pyNext_list_end hh st p.isList (by simp;omega) λh' eb=>?_)
  show wpAny _ _ (Builtin.Dict.addKeywords d []>>=λ_=>_) _ _ _
  exact zzA (zzG (zzG (k _ H (I.turned (t':=s.toks) (λb o hb e=>eb b o hb e) f0 f1 f3 f4 f5) hd λ_ _=>rfl)))
 |cons kv rest ih=>
  intro i j acc H s I hf st hl pr hd hz k;obtain⟨ay,rv,p,_⟩:=I.list hl
  obtain⟨f0,f1,f2,f3,f4,f5⟩:=id hf
  obtain⟨v,vr,hv,⟨q,b,rfl,hq,hb⟩,pr'⟩:∃v vr,vs.drop i=v::vr/\(∃q b,v=V.ref q/\f6 X.K H q [.ref b,kv.2]/\H b=some (.tup (kv.1.map kV)))/\ir X.K H vr rest:=by
   cases h:vs.drop i with
   |nil=>rw [h] at pr;cases pr
   |cons x r=>rw [h] at pr;cases pr with|cons h1 h2=>exact⟨x,r,rfl,h1,h2⟩
  have Ul:vs[i]?=some (.ref q):=by rw [<-List.head?_drop,hv];rfl
  have UM:vs.drop (i+1)=vr:=by rw [<-List.drop_drop,hv];rfl
  obtain⟨u,Hq,ru⟩:=rv.get Ul
  cases(show u=Value.ref q from ru);refine codeAny_builtin rG ?_;rw [Around.under_plainId iT _];show wpAny _ A.in1 (pyNext (.ref it)>>=λz=>_) _ _ s
  refine zzA (wpAny_pyNext_list_item st p.isList (x:=Value.ref q) (by simpa using Hq) λh' kM sb=>?_)
  have I1:Inv X aa σ H {s with heap:=h'}:=I.turned (t':=s.toks) (λb o hb e=>(sb.2 b hb).trans e) f0 f1 f3 f4 f5
  obtain⟨aG,rv2,p2,_⟩:=I1.tuple hq
  obtain⟨o2,g1,g2,n2,g3⟩:=id p2
  obtain⟨u1,u2,rfl,ru1,ru2⟩:∃u1 u2,aG=[u1,u2]/\RelV (.ref b) u1/\RelV kv.2 u2:=by
   cases rv2 with|cons h1 h2=>cases h2 with|cons h3 h4=>cases h4;exact⟨_,_,rfl,h1,h3⟩
  cases(show u1=Value.ref b from ru1);show wpAny _ A.in1 (holding [Value.ref q] _>>=λz=>_) _ _ {s with heap:=h'};refine zzA (wpAny_holding (zzA (wpAny_tryCatch ?_)));unfold Builtin.Dict.pairItems;refine zzA (wpAny_typeOf (s:={s with heap:=h'}) ⟨o2,g1,g2⟩ ?_);rw [if_pos (by decide)];refine zzA (wpAny_seqItems g1 g3 (zzG ?_));show wpAny _ A.in1 (holding [Value.ref b,u2] (dictSet d (.ref b) u2)) _ _ _;refine wpAny_holding (IE hu I1 hd hb (by rw [zzL] at hz;omega) ru2 λh2 t2 Us I2=>?_)
  have gR:∀c,c≠d->upd H d (.dT (putK acc kv.1 kv.2)) c=H c:=λc hc=>ae hc
  have nd:it≠d:=λz=>by rw [z,hd] at f0;cases f0
  refine zzG ⟨plainId_quiet iT _,ih (i+1) (j+1) _ _ _ I2 ⟨by rw [gR _ nd];exact f0,f1,f2,f3,f4,f5⟩ (kM.at λo e=>(Us.2 it nd).trans e) (gz.gR hl gR hd) (ir.gR gR hd (by rw [UM];exact pr')) ak ?_ λs' H' J1 J2 J3=>k s' H' J1 J2 λc hc=>(J3 c hc).trans (gR c hc)⟩
  have:=eX acc kv.1 kv.2
  rw [zzL] at hz;omega
theorem lH(hc:X.calm=true)(hu:X.A.units+3<cLine):cD X (.type "dict") (λxs H Q=>∃l vs av,xs=[V.ref l]/\gz X.K H l vs/\ir X.K H vs av/\∀p,H p=none->Q (.ref p) (upd H p (.dT (eL [] av)))):=by
 intro aa s σ H xs us Q I r h;obtain⟨l,vs,av,rfl,hl,pr,q⟩:=h
 obtain⟨u,rfl,ru⟩:=vals1 r
 cases ru;have hh:X.A.handled=none:=I.ok.hd hc
 refine callType_codes (Q₁:=λobj s₁=>obj=.ref s.heap.objs.size/\s₁={s with heap:=s.heap.push {cls:=.type "dict",data:=.dict #[]}}) F.kt_called_dict (F.kt_typeCall_dict_1 _) F.entry_dict_init (kt_code_dict_new _ ⟨rfl,rfl⟩) ?_
 rintro obj s₁ ⟨rfl,rfl⟩
 have hn:H s.heap.objs.size=none:=I.aQ.fresh (zzE _)
 have I1:=I.laid (a:=s.heap.objs.size) (o:=.dT []) (t':=s.toks) (λ_ _ q=>zzB _ q) (zzE _) (sO s.heap I.big)
 have T:(⟨s.heap.push {cls:=.type "dict",data:=.dict #[]},s.gens,s.drawn,s.toks,s.os⟩:Shared).TypeIs (.ref s.heap.objs.size) "dict":=⟨_,zzX _ rfl,rfl⟩
 have gR:∀c,c≠s.heap.objs.size->upd H s.heap.objs.size (.dT []) c=H c:=λc hc=>ae hc
 have same:aC H (upd H s.heap.objs.size (.dT [])):=bD hn
 have MO:gz X.K (upd H s.heap.objs.size (.dT [])) l vs:=same.seq hl
 obtain⟨ay,rv,p,hz⟩:=I1.list MO
 obtain⟨o,n,g1,g2,g3,g4⟩:=id p
 refine⟨T,F.args_dict_init_2 _ _,?_⟩;unfold Builtin.«dict.__init__» Builtin.Dict.selfAndRest;refine zzA (zzA (wpAny_notOrdered_dict T ?_));show wpAny _ _ (pure (s.heap.objs.size,[Value.ref l]):Sem _) _ _ _;refine zzG ?_;show wpAny _ _ (Builtin.Dict.updateFrom "dict.__init__" s.heap.objs.size (.ref l) [] .none) _ _ _;unfold Builtin.Dict.updateFrom;refine zzA (wpAny_typeOf ⟨o,g1,g2⟩ ?_);rw [if_pos (by decide)];refine zzA (Ep g1 g2 g4 g3 hh λh' tk hk=>?_);rw [if_pos (by decide)];refine zzA (wpAny_rule ?_);have I2:=I1.kept (h':=h') (t':=tk) hk
 obtain⟨its',rv',p',_⟩:=I2.list MO
 refine zzA (wpAny_pyIter_list p'.isList ?_);have I3:=I2.kept (h':=h'.push {cls:=.type "list_iterator",data:=.fields #[.ref l,.int 0 0]}) (t':=tk) λb o e=>zzB _ e
 have TZ:(h'.push {cls:=.type "list_iterator",data:=.fields #[.ref l,.int 0 0]}).IsListIter h'.objs.size l 0:=⟨_,zzX _ rfl,rfl,rfl⟩
 have UR:fD X aa (upd H s.heap.objs.size (.dT [])) h'.objs.size:=I2.lB (zzE _) (I2.aQ.fresh (zzE _))
 refine zzG ⟨plainId_quiet iT _,EB (X:=X) (A:=X.A.in1) (aa:=aa) (σ:=σ) (l:=l) (d:=s.heap.objs.size) (it:=h'.objs.size) (vs:=vs) (by show X.A.units+1+1<cLine;omega) (show X.A.in1.handled=none from hh) av 0 0 [] _ _ I3 UR TZ MO ?_ ak ?_ λs' H' J1 J2 J3=>⟨rfl,?_⟩⟩
 ·exact Paired.Bz pr λ_ _ ⟨q,b,e1,e2,e3⟩=>⟨q,b,e1,(show f6 X.K _ q _ from by
   rcases e2 with(e2|⟨o,e2⟩)|e2
   ·exact .inl (.inl (same _ _ e2))
   ·exact .inl (.inr ⟨o,same _ _ e2⟩)
   ·exact .inr e2),same _ _ e3⟩
 ·have:=Paired.length pr
  rw [List.length_nil];omega
 ·have e:H'=upd H s.heap.objs.size (.dT (eL [] av)):=by
   funext b
   by_cases hb:b=s.heap.objs.size
   ·rw [hb,ak];exact J2
   ·rw [ae hb,J3 b hb,ae hb]
  rw [e] at J1;exact⟨.ref s.heap.objs.size,_,J1,rfl,q _ hn⟩
theorem uJ(hc:X.calm=true)(hu:X.A.units+3<cLine):cD X (.type "dict") (λxs H Q=>∃l vs av,xs=[V.ref l]/\gz X.K H l vs/\ir X.K H vs av/\∀p o,H p=none->Q (.ref p) (upd H p (.bF o (.dT (eL [] av))))):=by
 intro aa s σ H xs us Q I r h;obtain⟨l,vs,av,rfl,hl,pr,q⟩:=h
 refine wpAny_mono (lH hc hu aa s σ H _ us (λv H'=>∃p,v=.ref p/\H p=none/\H'=upd H p (.dT (eL [] av))) I r ⟨l,vs,av,rfl,hl,pr,λp hp=>⟨p,rfl,hp,rfl⟩⟩) ?_ λ_ _ z=>z
 rintro u s' ⟨v,H',I',rv,p,rfl,hp,rfl⟩
 obtain⟨o,J⟩:=I'.freeze ak
 have e:upd (upd H p (.dT (eL [] av))) p (.bF o (.dT (eL [] av)))=upd H p (.bF o (.dT (eL [] av))):=by
  funext b
  by_cases hb:b=p
  ·rw [hb,ak,ak]
  ·rw [ae hb,ae hb,ae hb]
 rw [e] at J;exact⟨_,_,J,rv,q p o hp⟩
end
structure CL(H Hw:Hp)(d:Addr)(o:Obj)(av:List (List Key×V)):Prop where
 at_:Hw d=some (.bF o (.dT av))
 dt:H d=some (.dT av)
 same:∀b u,H b=some u->b≠d->Hw b=some u
 new:∀b u,Hw b=some u->H b=none->∃ob,u=.bF ob bO
section
variable{P:Program}{w:World}{H Hw:Hp}{d:Addr}{o:Obj}{av:List (List Key×V)}{fs:List Addr}{h h':Heap}
theorem CL.back(z:CL H Hw d o av)(u:Un fs [] Hw Hw h h')(k:eh P w Hw h)(k':eh P w Hw h'):Un fs [] H H h h'/\eh P w H h'/\h'.get? d=some o:=by
 have fz:∀b ob,Hw b=some (.bF ob bO)->∀o,h.get? b=some o->h'.get? b=some o:=λb ob e o q=>by
  have h1:h.get? b=some ob:=(k b _ e).1
  have h2:h'.get? b=some ob:=(k' b _ e).1
  rw [h1] at q;cases q;exact h2
 have st:∀c v,Hw c=some v->(∀ob u,v≠.bF ob u)->H c=some v:=λc v e n=>by
  cases q:H c with
  |none=>obtain⟨ob,rfl⟩:=z.new c v e q;exact absurd rfl (n ob _)
  |some u=>
   by_cases hc:c=d
   ·subst hc;rw [z.at_] at e;cases e;exact absurd rfl (n _ _)
   ·rw [z.same c u q hc] at e;exact e
 refine⟨⟨λb ob e n hb hx=>?_,λb ob e n hb hx=>?_,λb ob e n hx=>n,λb ob e hx=>u.there b ob e hx,λ_ _ e=>e,λ_ _ _ e=>e,λb ps e=>⟨#[],by simpa using e⟩⟩,λb v e=>?_,(k' d _ z.at_).1⟩
 ·cases q:Hw b with
  |none=>exact u.keep b ob e q hb hx
  |some v=>obtain⟨o',rfl⟩:=z.new b v q n;exact fz b o' q ob e
 ·cases q:Hw b with
  |none=>exact u.slot b ob e q hb hx
  |some v=>obtain⟨o',rfl⟩:=z.new b v q n;exact⟨ob.slots,fz b o' q ob e⟩
 ·have go:∀v,cj P w Hw h' b v->cj P w H h' b v:=λv y=>y.eF (λ_ _ _ r=>r) (λc r=>st c _ r (λ_ _ z=>nomatch z)) λc xs r=>st c _ r (λ_ _ z=>nomatch z)
  by_cases hb:b=d
  ·subst hb;rw [z.dt] at e;cases e;exact go _ (k' b _ z.at_).2
  ·exact go v (k' b v (z.same b v e hb))
end
structure ux(p y:Str)(params:Arguments)(body:Expr)(scope:Scope):Prop where
 body:∃q1 q2 q3 q4 q5 j,body=.Subscript (.Subscript (.Name y q1) (.Name p q2) q3) (.Constant (.int 0) j q4) q5
 sc:sZ [p] [y] scope
 d1:(p==("__debug__":Str))=false
 d2:(p==("__classdict__":Str))=false
 d3:(y==("__debug__":Str))=false
 d4:(y==("__classdict__":Str))=false
section
variable{X:Cx}{aa:List (Addr×Obj)}{σ:St}{H:Hp}{s:Shared}{d f c c' b:Addr}{o oc:Obj}{av:List (List Key×V)}{kk:Nat}{p y qual:Str}{params:Arguments}{body:Expr}{scope:Scope}{pm fN:Value}{dm:Array Value}{ct:Tok}{k:List Key}{q:Addr}{n:Int}{r:List V}{A:Around}{E:Value->Shared->Prop}
theorem zC(hA:A=X.A.in1)(L:ux p y params body scope)(hr:dS (kk+1) X.A)(I:Inv X aa σ H s)(hd:H d=some (.dT av))(ho:s.heap.get? d=some o)
 (dO:X.env.cells.lookup y=some c) (OE:X.s₀.heap.objs.size<=c) (Vv:s.heap.IsCell c (some (.ref d)))
 (hf:H f=some (.bF (PySem.W.kla_obj "<lambda>" qual params body scope [(y,c)] pm c' fN) bO)) (g8:H c'=some (.bF oc bO)) (lj:oc.data=.fields dm) (GG:dm[1]?=some (.str qual ct))
 (hb:∀u,bindArgs (PySem.W.kla_fn "<lambda>" qual params body scope [(y,c)] pm (.ref c') fN) ⟨[u],[]⟩=pure ([p].zip [u]))
 (NM:H b=some (.tup (k.map kV))) (hv:ik av k=some (.ref q)) (hq:f6 X.K H q (.int n::r)):
 wpAny (model X.prog X.w) A (call (.ref f) [.ref b]) (λu s'=>(∃t,u=.int n t)/\Inv X aa σ H s'/\s'.heap.get? d=some o) E s:=by
 subst hA;obtain⟨q1,q2,q3,q4,q5,j,rfl⟩:=L.body
 obtain⟨ocell,g1,g2⟩:=id Vv
 have D0:H c=none:=I.eK y c dO
 obtain⟨z0,lo,xs,rel,o',es,ep,h1,h2,h3,h4,h5⟩:=(show cj X.prog X.w H s.heap d (.dT av) from I.aQ d _ hd)
 rw [ho] at h1;cases h1;have If:Inv X aa σ (upd H d (.bF o (.dT av))) s:=by
  refine g9 (h':=s.heap) (t':=s.toks) I (by rw [hd];exact True.intro) ⟨rfl,λ_ _=>rfl⟩ ⟨o,ho⟩ ⟨ho,z0,lo,xs,?_,o,es,ep,ho,h2,h3,h4,h5⟩
  exact KT.keeps (H:=H) rel λc ys ec=>by rw [ae (fI ec hd (λz=>nomatch z))];exact ec
 have U0:c≠d:=λz=>by rw [z,hd] at D0;cases D0
 have UJ:f≠d:=fI hf hd (λz=>nomatch z)
 have PK:c'≠d:=fI g8 hd (λz=>nomatch z)
 have ET:vg [(c,ocell)] (upd H d (.bF o (.dT av))) (en X.stack) s.heap:=by
  have lk:∀b o,List.lookup b [(c,ocell)]=some o->b=c/\o=ocell:=λb o e=>by
   rw [List.lookup_cons] at e;cases zw:b==c with
   |true=>rw [zw] at e;cases e;exact⟨beq_iff_eq.mp zw,rfl⟩
   |false=>rw [zw] at e;cases e
  refine⟨λb o e=>?_,λb o e=>?_,λb o e=>?_⟩
  ·obtain⟨rfl,rfl⟩:=lk b o e;exact g1
  ·obtain⟨rfl,rfl⟩:=lk b o e;rw [ae U0];exact D0
  ·obtain⟨rfl,rfl⟩:=lk b o e
   intro Nr;rcases List.mem_cons.mp (I.iO b Nr) with z|z
   ·exact I.x5 y b dO z
   ·obtain⟨_,o',h4,_⟩:=I.ok.fV.mem z
    exact absurd (zzO h4) (Nat.not_lt.mpr OE)
 have zc:List.lookup c [(c,ocell)]=some ocell:=by simp
 have Oc:∀x c1,List.lookup x [(y,c)]=some c1->x=y/\c1=c:=λx c1 e=>by
  rw [List.lookup_cons] at e;cases hx:x==y with
  |true=>rw [hx] at e;cases e;exact⟨beq_iff_eq.mp hx,rfl⟩
  |false=>rw [hx] at e;cases e
 have zb:∀b o,List.lookup b [(c,ocell)]=some o->X.base.get? b=none:=λb o e=>by
  rw [List.lookup_cons] at e;cases zw:b==c with
  |true=>
   have:=beq_iff_eq.mp zw;subst this
   cases y':X.base.get? b with
   |none=>rfl
   |some o'=>exact absurd (zzO (I.ok.bs b o' y').1) (Nat.not_lt.mpr OE)
  |false=>rw [zw] at e;cases e
 have Vl:f6 X.K (upd H d (.bF o (.dT av))) q (.int n::r):=f6.gR hq (λb hb=>ae hb) hd
 have TQ:upd H d (.bF o (.dT av)) b=some (.tup (k.map kV)):=by rw [ae (fI NM hd (λz=>nomatch z))];exact NM
 have wd:CL H (aU [(c,ocell)] (upd H d (.bF o (.dT av)))) d o av:=by
  have nz:∀b u,H b=some u->List.lookup b [(c,ocell)]=none:=λb u e=>by
   rw [List.lookup_cons];cases zw:b==c with
   |true=>have:=beq_iff_eq.mp zw;subst this;rw [D0] at e;cases e
   |false=>rfl
  refine⟨by rw [ai (nz d _ hd),ak],hd,λb u e hb=>by rw [ai (nz b u e),ae hb];exact e,λb u e n=>?_⟩
  cases hz:List.lookup b [(c,ocell)] with
  |some ob=>rw [bj hz] at e;cases e;exact⟨_,rfl⟩
  |none=>
   rw [ai hz] at e;have UE:b≠d:=λz=>by rw [z,hd] at n;cases n
   rw [ae UE,n] at e;cases e
 refine wpAny_call (codeAny_mono (vJ (k:=kk) (E:=λ_ _ _=>False) (Q:=λv H'=>v=.int n/\H'=aU [(c,ocell)] (upd H d (.bF o (.dT av)))) (Z:=[(c,ocell)]) (ws:=[.ref d]) (vs:=[.ref b]) (us:=[.ref b])
  (t:=Lu (Nb X.K) (GV (xV 1) (xV 0)) (tC (.int 0))) L.sc hr.in1 If.xW.in1 ET zb ?fo ?co lj GG (hb _) (.cons rfl .nil) rfl rfl ?Lr ?inj ?cz ?cells ?ht ?hq) λrr s' PH=>?_)
 case fo=>
  have z:upd H d (.bF o (.dT av)) f=H f:=ae UJ
  exact(If.aQ f _ (z.trans hf)).1
 case co=>
  have z:upd H d (.bF o (.dT av)) c'=some (.bF oc bO):=by rw [ae PK];exact g8
  exact(If.aQ c' _ z).1
 case Lr=>intro y' Iv;exact⟨c,by rw [zzi.mp Iv];simp⟩
 case inj=>intro x y' c1 e1 e2;rw [(Oc x c1 e1).1,(Oc y' c1 e2).1]
 case cz=>intro x c1 e;obtain⟨rfl,rfl⟩:=Oc x c1 e;exact⟨ocell,_,zc,g2⟩
 case cells=>
  intro i y' c1 e1 e2 v e3;obtain⟨rfl,rfl⟩:=Oc y' c1 e2
  cases i with
  |zero=>cases e3;exact⟨.ref d,rfl,ocell,g1,g2⟩
  |succ i=>cases e3
 case ht=>
  refine Hu AD (Ed ?_ (fh (i:=1) rfl (.inr (.inr (L.sc.QG y (by simp)))) L.d3 L.d4) (fh (i:=0) rfl (.inl (L.sc.par p (by simp))) L.d1 L.d2) λ_ _=>rfl) zW λ_ _=>rfl
  have:=hr.un
  show X.A.units+1+3+1<cLine
  omega
 case hq=>
  refine⟨_,rfl,_,rfl,d,.ref q,rfl,?_,?_⟩
  ·exact .inr ⟨av,k,b,.inr ⟨o,ak⟩,rfl,TQ,hv.symm⟩
  ·exact⟨q,.int n::r,0,.int n,rfl,rfl,Vl,by simp [pV,Hh],λ_=>⟨rfl,rfl⟩⟩
 ·cases rr with
  |error e=>
   obtain⟨a,C,t,vs,H',B,e1,F⟩:=PH
   exact(F.ends).elim
  |ok fl=>
   cases fl with
   |ret u=>
    obtain⟨v,H',os,bare,un,aQ,rv,rfl,rfl⟩:=PH
    obtain⟨t,rfl⟩:=rv
    obtain⟨u1,k1,L1⟩:=wd.back un (ET.aQ If.aQ) aQ
    obtain⟨hh,g,dr,tk,os'⟩:=s'
    obtain rfl:os'=s.os:=os
    exact⟨⟨t,rfl⟩,I.call (h':=hh) (g':=g) (d':=dr) (t':=tk) (ch:=[]) u1 k1 bare (λb z=>absurd z (by simp)),L1⟩
   |_=>exact PH.elim
end
structure KM(X:Cx)(σ:St)(H:Hp)(kk:Nat)(d f:Addr)(av:List (List Key×V))(cf:Nat->Int):Prop where
 room:dS (kk+1) X.A
 dt:H d=some (.dT av)
 lam:∃(p y:Str) (params:Arguments) (body:Expr) (scope:Scope) (qual:Str) (c c':Addr) (oc:Obj) (dm:Array Value) (ct:Tok) (pm fN:Value) (iy:Nat),ux p y params body scope/\X.env.cells.lookup y=some c/\X.s₀.heap.objs.size<=c/\H f=some (.bF (PySem.W.kla_obj "<lambda>" qual params body scope [(y,c)] pm c' fN) bO)/\
  H c'=some (.bF oc bO)/\oc.data=.fields dm/\dm[1]?=some (.str qual ct)/\(∀u,bindArgs (PySem.W.kla_fn "<lambda>" qual params body scope [(y,c)] pm (.ref c') fN) ⟨[u],[]⟩=pure ([p].zip [u]))/\
  X.N[iy]?=some y/\σ[iy]?=some (some (V.ref d))/\X.env.scope.names.lookup y=some .cell
 cost:∀(i:Nat) k v,av[i]?=some (k,v)->∃q r,v=V.ref q/\f6 X.K H q (.int (cf i)::r)
theorem EE{av:List (List Key×V)}:∀{i:Nat} {k:List Key} {v:V},(av.map (·.1)).Nodup->av[i]?=some (k,v)->ik av k=some v:=by
 induction av with
 |nil=>intro i k v _ h;simp at h
 |cons x r ih=>
  intro i k v nd h;rw [zzF,List.nodup_cons] at nd;cases i with
  |zero=>simp at h;subst h;exact gG rfl
  |succ i=>
   simp at h;rw [gH λe=>nd.1 (e▸List.mem_map.mpr ⟨(k,v),zzD h,rfl⟩)]
   exact ih nd.2 h
section
variable{X:Cx}{aa:List (Addr×Obj)}{σ:St}{H:Hp}{s:Shared}{d f it S:Addr}{o:Obj}{es:Array DictEntry}{ep:Nat}{av:List (List Key×V)}{kk:Nat}{cf:Nat->Int}{R:Result->Shared->Prop}
theorem vy(I:Inv X aa σ H s)(e:H d=some (.dT av)):(d==sysModules)=false/\(av.map (·.1)).Nodup/\∃o es ep,s.heap.get? d=some o/\o.ExactDict/\o.data=.dict es ep/\es.size=av.length/\∀(i:Nat) (h:i<es.size),∃b k v,es[i].key=.ref b/\av[i]?=some (k,v)/\H b=some (.tup (k.map kV)):=by
 obtain⟨o,J⟩:=I.freeze e
 obtain⟨lo,h0,hx,es,ep,h3,hl,hk⟩:=gJ J ak
 obtain⟨z,_,xs,rel,_,_,_,_,_,_,_,h5⟩:=(show cj X.prog X.w H s.heap d (.dT av) from I.aQ d _ e)
 refine⟨lo,?_,o,es,ep,h0,hx,h3,hl,λi hi=>?_⟩
 ·have keys:∀{l:List (List Key×V)} {m:List (List Key×Addr×Value)},KT H l m->l.map (·.1)=m.map (·.1):=by
   intro l m r
   induction r with
   |nil=>rfl
   |cons h t ih=>rw [zzF,zzF,h.1,ih]
  rw [keys (KT.keeps (H':=H) rel λ_ _ z=>z)];exact h5
 ·obtain⟨b,k,v,e1,e2,e3⟩:=hk i hi
  refine⟨b,k,v,e1,e2,?_⟩
  by_cases hb:b=d
  ·rw [hb,ak] at e3;cases e3
  ·rw [ae hb] at e3;exact e3
theorem fD.pin{b:Addr}{ob:Obj}(h:fD X aa H b)(e:s.heap.get? b=some ob)(n:∀v,ob.data≠.cell v):s.heap.get? b=some ob/\H b=none/\b≠X.env.locals/\b∉X.fs/\∀v,ob.data≠.cell v:=⟨e,h.1,h.2.1,h.2.2.1,n⟩
theorem CU(M:KM X σ H kk d f av cf)(I:Inv X aa σ H s)(fi:fD X aa H it)(fS:fD X aa H S)(ho:s.heap.get? d=some o){oi oS:Obj}(hi:s.heap.get? it=some oi)(ci:∀v,oi.data≠.cell v)(hS:s.heap.get? S=some oS)(cS:∀v,oS.data≠.cell v)
 (nd:(av.map (·.1)).Nodup) {i:Nat} {k:List Key} {v:V} {b:Addr} (hk:av[i]?=some (k,v)) (hb:H b=some (.tup (k.map kV))) {E:Value->Shared->Prop} {Q:Value->Shared->Prop}
 (h:∀t s',Inv X aa σ H s'->s'.heap.get? d=some o->s'.heap.get? it=some oi->s'.heap.get? S=some oS->Q (.int (cf i) t) s'):wpAny (model X.prog X.w) X.A.in1 (call (.ref f) [.ref b]) Q E s:=by
 obtain⟨p,y,params,body,scope,qual,c,c',oc,dm,ct,pm,fN,iy,L,l1,l2,l3,l4,l5,l6,l7,l8,l9,l10⟩:=M.lam
 obtain⟨q,r,rfl,hq⟩:=M.cost i k v hk
 have I1:Inv X ((it,oi)::(S,oS)::aa) σ H s:=by
  refine I.g7 λp hp=>?_
  rcases List.mem_cons.mp hp with rfl|hp
  ·exact fi.pin hi ci
  ·rcases List.mem_cons.mp hp with rfl|hp
   ·exact fS.pin hS cS
   ·exact I.pin p (zzR _ hp)
 have cell:s.heap.IsCell c (some (.ref d)):=by
  obtain⟨m,_,hloc⟩:=I.loc
  obtain⟨u,ru,lk⟩:=hloc iy y (.ref d) l8 l9 (.inr (.inl l10))
  cases(show u=Value.ref d from ru);rcases lk with⟨z,_⟩|⟨_,c2,hc2,z⟩
  ·have z2:X.env.scope.names.lookup y=some .local:=z
   rw [l10] at z2;cases z2
  ·rw [l1] at hc2;cases hc2;exact z
 refine wpAny_mono (zC (kk:=kk) rfl L M.room I1 M.dt ho l1 l2 cell l3 l4 l5 l6 l7 hb (EE nd hk) hq) (λu s' hu=>?_) λ_ _ z=>z
 obtain⟨⟨t,rfl⟩,J,hd⟩:=hu
 refine h t s' (J.g7 λp hp=>J.pin p (zzR _ (.tail _ (.tail _ hp)))) hd (J.pin (it,oi) (zzR _ (.head _))).1 (J.pin (S,oS) (zzR _ (.tail _ (.head _)))).1
theorem vI{h:Heap}{c:Nat}{xs ys:Array Value}(e:h.get? S=some (seqObj "list" xs c)):∃c',(h.update S (Obj.mapSeq λ_=>ys)).get? S=some (seqObj "list" ys c'):=⟨_,get?_update_seq e λ_=>ys⟩
theorem lU{xs:Array Value}{c:Nat}:∀v,(seqObj "list" xs c).data≠.cell v:=λv z=>nomatch z
theorem Bt(M:KM X σ H kk d f av cf)(hh:X.A.handled=none)(hd:o.data=.dict es ep)(hl:es.size=av.length)(wH:∀(i:Nat) (h:i<es.size),∃b k v,es[i].key=.ref b/\av[i]?=some (k,v)/\H b=some (.tup (k.map kV)))(nd:(av.map (·.1)).Nodup)
 (fi:fD X aa H it) (fS:fD X aa H S) (nS:S≠it) (hR:∀(i:Nat) (h:i<es.size) s',(∀j,j<es.size->cf i<=cf j/\(j<i->cf i<cf j))->Inv X aa σ H s'->R (.ok (.ret es[i].key)) s'):
 ∀(r j i:Nat) (s:Shared) (t:Tok) (c:Nat) (hi:i<es.size),es.size-(j+1)=r->j+1<=es.size->Inv X aa σ H s->s.heap.get? d=some o->s.heap.IsKeyIter it d (j+1) es.size ep->s.heap.get? S=some (seqObj "list" #[es[i].key,.int (cf i) t] c)->i<=j->(∀j',j'<=j->cf i<=cf j'/\(j'<i->cf i<cf j'))->
  codeAny (model X.prog X.w) X.A (.builtin "min.loop" ⟨[.ref it,.ref f,.ref S],[]⟩) R s:=by
 have name:(toString "min"++toString ".loop":String)="min.loop":=by decide
 have Qy:S≠d:=λz=>by have:=fS.1;rw [z,M.dt] at this;cases this
 have Qx:it≠d:=λz=>by have:=fi.1;rw [z,M.dt] at this;cases this
 intro r
 induction r with
 |zero=>
  intro j i s t c hi hr hj I ho st hS Lw best;refine codeAny_builtin PySem.F.entry_min_loop ?_;rw [Around.under_plainId PySem.F.plain_min_loop _];show wpAny _ X.A.in1 (seqItems? (.ref S)>>=λz=>_) _ _ _
  refine zzA (wpAny_seqItems hS rfl ?_);show wpAny _ X.A.in1 (tryCatch (pyNext (.ref it)) _>>=λz=>_) _ _ _
  refine zzA (wpAny_tryCatch (tU hh st ho hd (by omega) λh' eb=>?_))
  have Il:=eb S _ nS hS
  have I1:=I.turned (h':=h') (t':=s.toks) (λb o hb e=>eb b o hb e) fi.1 fi.2.1 fi.2.2.2.1 fi.2.2.2.2.1 fi.2.2.2.2.2
  show wpAny _ X.A.in1 (updateSeq S (λ_=>#[])>>=λz=>_) _ _ _
  refine zzA (wpAny_updateSeq Il rfl (zzA (wpAny_letGo (zzG ?_))));have s1:=Heap.SameBut.update h' S (Obj.mapSeq λ_=>(#[]:Array Value))
  exact hR i hi _ (λj' QU=>best j' (by omega)) (I1.turned (t':=s.toks) (λb o hb e=>(s1.2 b hb).trans e) fS.1 fS.2.1 fS.2.2.2.1 fS.2.2.2.2.1 fS.2.2.2.2.2)
 |succ r ih=>
  intro j i s t c hi hr hj I ho st hS Lw best;have cg:j+1<es.size:=by omega
  refine codeAny_builtin PySem.F.entry_min_loop ?_;rw [Around.under_plainId PySem.F.plain_min_loop _];show wpAny _ X.A.in1 (seqItems? (.ref S)>>=λz=>_) _ _ _
  refine zzA (wpAny_seqItems hS rfl ?_);show wpAny _ X.A.in1 (tryCatch (pyNext (.ref it)) _>>=λz=>_) _ _ _
  refine zzA (wpAny_tryCatch (kK st ho hd cg λh' kM sb=>?_));have Il:=(sb.2 S nS).trans hS
  have jr:=(sb.2 d (Ne.symm Qx)).trans ho
  have I1:=I.turned (h':=h') (t':=s.toks) (λb o hb e=>(sb.2 b hb).trans e) fi.1 fi.2.1 fi.2.2.2.1 fi.2.2.2.2.1 fi.2.2.2.2.2
  obtain⟨oi,gi,gc,gd⟩:=id kM
  obtain⟨b,k,v,e1,e2,e3⟩:=wH (j+1) cg
  rw [e1];show wpAny _ X.A.in1 (tryCatch (holding [Value.ref b] (call (.ref f) [Value.ref b])) _>>=λz=>_) _ _ _
  refine zzA (wpAny_tryCatch (wpAny_holding (CU M I1 fi fS jr gi (λv z=>by rw [gd] at z;cases z) Il lU nd e2 e3 λt2 s2 I2 Ov MK Lv=>?_)))
  have Pd:s2.heap.IsKeyIter it d (j+1+1) es.size ep:=⟨oi,MK,gc,gd⟩
  show wpAny _ X.A.in1 (tryCatch (holding [Value.ref b,.int (cf (j+1)) t2] (richCompare .Lt (.int (cf (j+1)) t2) (.int (cf i) t)>>=λz=>_)) _>>=λz=>_) _ _ _
  refine zzA (wpAny_tryCatch (wpAny_holding (zzA (CmpOf.ints_lt (prog:=X.prog) (w:=X.w) (A:=X.A.in1) (P:=λi v=>∃t,v=.int (cf i) t) cf (λi v h=>h) (j+1) i _ _ _ _ _ ⟨t2,rfl⟩ ⟨t,rfl⟩ ?_))))
  refine zzA (wpAny_holding (wpAny_truthy_bool (zzA (wpAny_letGo (zzG ?_)))))
  by_cases nk:cf (j+1)<cf i
  ·obtain⟨c2,hc2⟩:=vI (ys:=#[Value.ref b,.int (cf (j+1)) t2]) Lv
   have s1:=Heap.SameBut.update s2.heap S (Obj.mapSeq λ_=>#[Value.ref b,.int (cf (j+1)) t2])
   simp only [nk,decide_true,if_true];refine zzA (wpAny_updateSeq Lv rfl (zzA (wpAny_letGo ?_)));rw [name];rw [<-e1] at hc2 s1⊢;refine zzG ⟨plainId_quiet PySem.F.plain_min_loop _,ih (j+1) (j+1) _ t2 c2 cg (by omega) cg (I2.turned (t':=s2.toks) (λb o hb e=>(s1.2 b hb).trans e) fS.1 fS.2.1 fS.2.2.2.1 fS.2.2.2.2.1 fS.2.2.2.2.2) ?_ ?_ ?_ (zzE _) λj' QU=>?_⟩
   ·exact(s1.2 d (Ne.symm Qy)).trans Ov
   ·exact⟨oi,(s1.2 it (Ne.symm nS)).trans MK,gc,gd⟩
   ·exact hc2
   ·by_cases e:j'=j+1
    ·subst e;exact⟨by omega,λ_=>by omega⟩
    ·have:=best j' (by omega)
     exact⟨by omega,λ_=>by omega⟩
  ·simp only [nk,decide_false,zze,if_false];refine zzA (wpAny_letGo ?_);rw [name];refine zzG ⟨plainId_quiet PySem.F.plain_min_loop _,ih (j+1) i _ t c hi (by omega) cg I2 Ov Pd Lv (by omega) λj' QU=>?_⟩
   by_cases e:j'=j+1
   ·subst e;exact⟨by omega,λ_=>by omega⟩
   ·exact best j' (by omega)
theorem xC(M:KM X σ H kk d f av cf)(qM:0<av.length)(I:Inv X aa σ H s){Q:VK}
 (q:∀i k v b,av[i]?=some (k,v)->H b=some (.tup (k.map kV))->(∀j,j<av.length->cf i<=cf j/\(j<i->cf i<cf j))->Q (.ref b) H):wpAny (model X.prog X.w) X.A (call (.builtin "min") [.ref d] [(Str.ofString "key",.ref f)]) (EP X aa σ Q) X.xe s:=by
 have name:(toString "min"++toString ".loop":String)="min.loop":=by decide
 have hh:X.A.handled=none:=M.room.hd
 obtain⟨lo,nd,o,es,ep,ho,hx,hd,hl,wH⟩:=vy I M.dt
 have fin:∀(i:Nat) (h:i<es.size) s',(∀j,j<es.size->cf i<=cf j/\(j<i->cf i<cf j))->Inv X aa σ H s'->EP X aa σ Q es[i].key s':=λi h s' b J=>by
  obtain⟨a,k,v,e1,e2,e3⟩:=wH i h
  rw [e1];exact⟨.ref a,H,J,rfl,q i k v a e2 e3 λj hj=>b j (by omega)⟩
 refine kmk_tree PySem.F.kind_min PySem.F.plain_min PySem.F.entry_min (kmk_min_key _ _) ?_;show wpAny _ X.A.in1 (Builtin.Builtins.bindParams "min" ["key","default"] 0 ⟨[],[(Str.ofString "key",.ref f)]⟩>>=λz=>_) _ _ s
 refine zzA (wpAny_of_eq (show Builtin.Builtins.bindParams "min" ["key","default"] 0 ⟨[],[(Str.ofString "key",.ref f)]⟩=pure [some (.ref f),none] from rfl) (zzA (zzG ?_)));refine zzA (qc lo ho hx hd (zzA (wpAny_newList ?_ (Nat.zero_le _))));rw [name];generalize hit:s.heap.objs.size=it
 generalize hSS:(s.heap.push {cls:=.type "dict_keyiterator",data:=.fields #[.ref d,.int 0 0,.int es.size 0,.int ep 0]}).objs.size=S
 have eS:S=it+1:=by rw [<-hSS,<-hit];exact size_push' ..
 have nS:S≠it:=by omega
 have hH:s.heap.objs.size<=S:=by omega
 have fi:fD X aa H it:=by rw [<-hit];exact I.lB (zzE _) (I.aQ.fresh (zzE _))
 have fS:fD X aa H S:=I.lB hH (I.aQ.fresh hH)
 have keep:∀b ob,s.heap.get? b=some ob->((s.heap.push {cls:=.type "dict_keyiterator",data:=.fields #[.ref d,.int 0 0,.int es.size 0,.int ep 0]}).push (seqObj "list" #[] 0)).get? b=some ob:=λb ob e=>zzB _ (zzB _ e)
 have I1:=I.kept (t':=s.toks) keep
 have gI:((s.heap.push {cls:=.type "dict_keyiterator",data:=.fields #[.ref d,.int 0 0,.int es.size 0,.int ep 0]}).push (seqObj "list" #[] 0)).get? it=some {cls:=.type "dict_keyiterator",data:=.fields #[.ref d,.int 0 0,.int es.size 0,.int ep 0]}:=by
  rw [<-hit];exact zzB _ (zzX _ rfl)
 have gS:((s.heap.push {cls:=.type "dict_keyiterator",data:=.fields #[.ref d,.int 0 0,.int es.size 0,.int ep 0]}).push (seqObj "list" #[] 0)).get? S=some (seqObj "list" #[] 0):=by
  rw [<-hSS];exact zzX _ rfl
 have Qy:S≠d:=λz=>by have:=fS.1;rw [z,M.dt] at this;cases this
 have Qx:it≠d:=λz=>by have:=fi.1;rw [z,M.dt] at this;cases this
 refine zzG ⟨plainId_quiet PySem.F.plain_min_loop _,codeAny_builtin PySem.F.entry_min_loop ?_⟩;rw [Around.under_plainId PySem.F.plain_min_loop _];show wpAny _ X.A.in1 (seqItems? (.ref S)>>=λz=>_) _ _ _
 refine zzA (wpAny_seqItems gS rfl ?_);show wpAny _ X.A.in1 (tryCatch (pyNext (.ref it)) _>>=λz=>_) _ _ _
 have h0:0<es.size:=by omega
 refine zzA (wpAny_tryCatch (kK (i:=0) ⟨_,gI,rfl,rfl⟩ (keep _ _ ho) hd h0 λh' kM sb=>?_))
 have Il:=(sb.2 S nS).trans gS
 have jr:=(sb.2 d (Ne.symm Qx)).trans (keep _ _ ho)
 have I2:=I1.turned (h':=h') (t':=s.toks) (λb o hb e=>(sb.2 b hb).trans e) fi.1 fi.2.1 fi.2.2.2.1 fi.2.2.2.2.1 fi.2.2.2.2.2
 obtain⟨oi,gi,gc,gd⟩:=id kM
 obtain⟨b,k,v,e1,e2,e3⟩:=wH 0 h0
 rw [e1];show wpAny _ X.A.in1 (tryCatch (holding [Value.ref b] (call (.ref f) [Value.ref b])) _>>=λz=>_) _ _ _
 refine zzA (wpAny_tryCatch (wpAny_holding (CU M I2 fi fS jr gi (λv z=>by rw [gd] at z;cases z) Il lU nd e2 e3 λt2 s2 I3 Ov MK Lv=>?_)))
 obtain⟨c2,hc2⟩:=vI (ys:=#[Value.ref b,.int (cf 0) t2]) Lv
 have s1:=Heap.SameBut.update s2.heap S (Obj.mapSeq λ_=>#[Value.ref b,.int (cf 0) t2])
 show wpAny _ X.A.in1 (updateSeq S (λ_=>#[Value.ref b,.int (cf 0) t2])>>=λz=>_) _ _ _
 refine zzA (wpAny_updateSeq Lv rfl ?_);rw [name];rw [<-e1] at hc2 s1⊢;refine zzG ⟨plainId_quiet PySem.F.plain_min_loop _,Bt M hh hd hl wH nd fi fS nS fin _ 0 0 _ t2 c2 h0 rfl h0 (I3.turned (t':=s2.toks) (λb o hb e=>(s1.2 b hb).trans e) fS.1 fS.2.1 fS.2.2.2.1 fS.2.2.2.2.1 fS.2.2.2.2.2) ((s1.2 d (Ne.symm Qy)).trans Ov) ⟨oi,(s1.2 it (Ne.symm nS)).trans MK,gc,gd⟩ hc2 (zzE _) λj' QU=>?_⟩
 have e:j'=0:=by omega
 subst e;exact⟨by omega,λh=>absurd h (Nat.lt_irrefl _)⟩
end
end L2
namespace L2
open PySem PySem.Spec PyProof.Rows PySem.W
section
variable{prog:Program}{w:World}{A:Around}{E:Value->Shared->Prop}{s:Shared}{a:Addr}
theorem AW{d:Addr}{o:Obj}{es:Array DictEntry}{ep:Nat}(lo:(d==sysModules)=false)(hx:o.ExactDict)(hd:o.data=.dict es ep):KdlSrc prog w "dict" d d es.size (λi v=>∃h:i<es.size,v=es[i].key) (λh=>h.get? d=some o) where
 type:=λs e=>⟨o,e,hx.1⟩
 there:=λh e=>⟨zzO e,zzO e⟩
 keep:=λh h' e k=>k d (.inl rfl) o e
 notList:=by decide
 notTuple:=by decide
 hint:=λA E s Q e q=>kdl_hint_dict ⟨o,e,hx.1⟩ q
 iter:=λA s hh e=>⟨_,λi h=>h.IsKeyIter s.heap.objs.size d i es.size ep/\h.get? d=some o,(λE Q q=>qc lo e hx hd q),{
  sub:=λb hb=>by simp at hb;simp [hb]
  frame:=λ_ _ _ st hk=>⟨st.1.at λo e=>hk _ (by simp) o e,hk d (by simp) o st.2⟩
  item:=λi s' Q E hi st hQ=>kK st.1 st.2 hd hi λh' kM sb=>hQ _ h' s'.toks ⟨hi,rfl⟩ ⟨kM,(sb.2 d (zzb (zzO e))).trans st.2⟩ λb o hb z=>(sb.2 b (λy=>hb (by simp [y]))).trans z
  done:=λs' Q E st hQ=>tU hh st.1 st.2 hd (zzE _) λh' eb=>hQ h' s'.toks λb o hb z=>eb b o (λy=>hb (by simp [y])) z
  self:=λ_ _ _ _ st hQ=>wpAny_pyIter_keyiter st.1 hQ},⟨⟨_,zzX _ rfl,rfl,rfl⟩,zzB _ e⟩⟩
end
section
variable{X:Cx}{aa:List (Addr×Obj)}{σ:St}{H:Hp}{s:Shared}{vs:List V}{us:List Value}{nss:List (List Int)}{Q:VK}
theorem Eu{d:Addr}{av:List (List Key×V)}(I:Inv X aa σ H s)(e:Rd H d (.dT av)):(d==sysModules)=false/\∃o es ep,s.heap.get? d=some o/\o.ExactDict/\o.data=.dict es ep/\es.size=av.length/\∀(i:Nat) (h:i<es.size),∃b k v,es[i].key=.ref b/\av[i]?=some (k,v)/\H b=some (.tup (k.map kV)):=by
 rcases e with e|⟨o,e⟩
 ·obtain⟨h1,_,h2⟩:=vy I e
  exact⟨h1,h2⟩
 ·obtain⟨h1,h2,h3,h4⟩:=gJ I e
  exact⟨h1,o,let⟨es,ep,r⟩:=h4;⟨es,ep,h2,h3,r⟩⟩
theorem B4(I:Inv X aa σ H s){a:Addr}{av:List (List Key×V)}{nss:List (List Int)}{es:Array DictEntry}{acc:Array Value}(hk:av.map (·.1)=nss.map (·.map .inl))(uB:es.size=av.length)(wH:∀(i:Nat) (h:i<es.size),∃b k v,es[i].key=.ref b/\av[i]?=some (k,v)/\H b=some (.tup (k.map kV)))(it:ItemsOf (λi v=>∃h:i<es.size,v=es[i].key) acc es.size):∃vs:List V,Vals vs acc.toList/\Paired (λv ns=>∃b,v=V.ref b/\H b=some (.tup (ns.map V.int))) vs nss:=by
 have hn:nss.length=av.length:=by have:=congrArg List.length hk;simpa using this.symm
 have hs:acc.toList.length=nss.length:=by rw [zzd,it.1];omega
 have ev:∀(i:Nat) v ns,acc.toList[i]?=some v->nss[i]?=some ns->∃b,v=.ref b/\H b=some (.tup (ns.map V.int)):=λi v ns e1 e2=>by
  obtain⟨hi,ev⟩:=it.2 i v (by rw [<-Array.getElem?_toList];exact e1)
  obtain⟨b,k,x,g1,g2,g3⟩:=wH i hi
  refine⟨b,ev.trans g1,?_⟩;have Jm:k=ns.map .inl:=by
   have:=congrArg (λl=>l[i]?) hk
   simp only [zzQ,g2,e2,Option.map_some] at this;exact Option.some.inj this
  rw [g3,Jm,List.map_map]
  rfl
 clear it wH hk I
 generalize acc.toList=us at hs ev
 clear hn
 induction nss generalizing us with
 |nil=>cases us with
  |nil=>exact⟨[],.nil,.nil⟩
  |cons u us=>simp at hs
 |cons ns nss ih=>
  cases us with
  |nil=>simp at hs
  |cons u us=>
   obtain⟨vs,h1,h2⟩:=ih us (by simpa using hs) λi v ns e1 e2=>ev (i+1) v ns (by simpa using e1) (by simpa using e2)
   obtain⟨b,rfl,hb⟩:=ev 0 u ns rfl rfl
   exact⟨.ref b::vs,.cons rfl h1,.cons ⟨b,rfl,hb⟩ h2⟩
theorem uV(hc:X.calm=true):cD X (.type "list") (λxs H Q=>∃a av,∃nss:List (List Int),xs=[V.ref a]/\Rd H a (.dT av)/\av.map (·.1)=nss.map (·.map .inl)/\av.length<=sizeLine/\
 ∀p vs,H p=none->Paired (λv ns=>∃b,v=V.ref b/\H b=some (.tup (ns.map V.int))) vs nss->Q (.ref p) (upd H p (.lst vs))):=by
 intro aa s σ H xs us Q I r h;obtain⟨a,av,nss,rfl,hl,hk,hz,q⟩:=h
 obtain⟨u,rfl,ru⟩:=vals1 r
 cases ru;obtain⟨lo,o,es,ep,h0,hx,h3,uB,wH⟩:=Eu I hl
 refine kdl_call (AW lo hx h3) (I.ok.hd hc) h0 (by omega) λh' tk acc c kp hS it=>?_
 obtain⟨vs,rv,pv⟩:=B4 I (a:=a) hk uB wH it
 have hn:acc.toList.length=vs.length:=rv.length.symm
 refine⟨.ref s.heap.objs.size,upd H s.heap.objs.size (.lst vs),I.laid (a:=s.heap.objs.size) (t':=tk) kp (zzE _) ⟨?_,_,c,rv,?_⟩,rfl,q _ vs (I.aQ.fresh (zzE _)) pv⟩
 ·rw [<-hn,zzd,it.1];omega
 ·exact hS
end
end L2
namespace Ci
open PySem L2
theorem aA{p:Prop}(h:false=true):p:=absurd h zzf
inductive PV where
 |az|bl (b:Bool)|int (i:Int)|str (z:Str)
 |tup (xs:List PV)|lst (xs:List PV)
 |exc (c:Str)
 |aP (ks:List (List Int)) (vs:List PV)
 deriving Inhabited
structure Wd where
 K:PySem.W.Frag
 mg:Str->Option Value
 xs:List Str
 ts:List (Addr×Str):=[]
def qm(K:PySem.W.Frag)(H:Hp)(a:Addr)(vs:List V):Prop:=
 Rd H a (.lst vs)\/∃(ay:Array Value) (n:Nat),K.lookup a=some {cls:=.type "list",data:=.seq ay n}/\ay.size<=sizeLine/\Vals vs ay.toList
def LP(K:PySem.W.Frag)(G:Hp)(a:Addr)(vs:List V):Prop:=G a=some (.tup vs)\/f6 K G a vs/\∃z,V.str z∈vs
theorem LP.sq{K:PySem.W.Frag}{G:Hp}{a:Addr}{vs:List V}:LP K G a vs->f6 K G a vs
 |.inl h=>.inl (.inl h)
 |.inr h=>h.1
def kz(ks:List (List Int))(us:List V):List (List Key×V):=(ks.map λk=>k.map Sum.inl).zip us
mutual
def Rep(W:Wd)(G:Hp):PV->V->Prop
 |.az,v=>v=.az
 |.bl b,v=>v=.bl b
 |.int i,v=>v=.int i
 |.str z,v=>v=.str z
 |.tup xs,v=>∃a vs,v=.ref a/\LP W.K G a vs/\aj W G xs vs
 |.lst xs,v=>∃a vs,v=.ref a/\qm W.K G a vs/\aj W G xs vs
 |.exc c,v=>∃a C,v=.ref a/\c∈W.xs/\W.mg c=some (.ref C)/\G a=some (iS a C)
 |.aP ks vs,v=>∃a o us,v=.ref a/\ks.length=us.length/\G a=some (.bF o (.dT (kz ks us)))/\aj W G vs us
def aj(W:Wd)(G:Hp):List PV->List V->Prop
 |[],vs=>vs=[]
 |p::ps,vs=>∃v r,vs=v::r/\Rep W G p v/\aj W G ps r
end
theorem aC.tup{K:PySem.W.Frag}{H H':Hp}{a:Addr}{xs:List V}(e:aC H H')(h:f6 K H a xs):f6 K H' a xs:=by
 rcases h with(h|⟨o,h⟩)|h
 ·exact .inl (.inl (e _ _ h))
 ·exact .inl (.inr ⟨o,e _ _ h⟩)
 ·exact .inr h
theorem aC.tp{K:PySem.W.Frag}{H H':Hp}{a:Addr}{xs:List V}(e:aC H H')(h:LP K H a xs):LP K H' a xs:=h.elim (λz=>.inl (e _ _ z)) λz=>.inr ⟨aC.tup e z.1,z.2⟩
theorem aC.rd{H H':Hp}{a:Addr}{u:HO}(e:aC H H')(h:Rd H a u):Rd H' a u:=by
 rcases h with h|⟨o,h⟩
 ·exact .inl (e _ _ h)
 ·exact .inr ⟨o,e _ _ h⟩
theorem aC.ls{K:PySem.W.Frag}{H H':Hp}{a:Addr}{vs:List V}(e:aC H H')(h:qm K H a vs):qm K H' a vs:=h.elim (λz=>.inl (aC.rd e z)) .inr
section
variable{W:Wd}{G G':Hp}
mutual
theorem Rep.same(s:aC G G'):∀(p:PV) {v:V},Rep W G p v->Rep W G' p v
 |.az,_,h=>by simpa only [Rep] using h
 |.bl b,_,h=>by simpa only [Rep] using h
 |.int i,_,h=>by simpa only [Rep] using h
 |.str z,_,h=>by simpa only [Rep] using h
 |.tup xs,_,h=>by
  simp only [Rep] at h⊢;obtain⟨a,vs,e,q,l⟩:=h
  exact⟨a,vs,e,aC.tp s q,aj.same s xs l⟩
 |.lst xs,_,h=>by
  simp only [Rep] at h⊢;obtain⟨a,vs,e,q,l⟩:=h
  exact⟨a,vs,e,aC.ls s q,aj.same s xs l⟩
 |.exc c,_,h=>by
  simp only [Rep] at h⊢;obtain⟨a,C,e,x,m,q⟩:=h
  exact⟨a,C,e,x,m,s _ _ q⟩
 |.aP ks vs,_,h=>by
  simp only [Rep] at h⊢;obtain⟨a,o,us,e,n,m,l⟩:=h
  exact⟨a,o,us,e,n,s _ _ m,aj.same s vs l⟩
theorem aj.same(s:aC G G'):∀(ps:List PV) {vs:List V},aj W G ps vs->aj W G' ps vs
 |[],_,h=>by simpa only [aj] using h
 |p::ps,_,h=>by
  simp only [aj] at h⊢;obtain⟨v,r,e,h1,h2⟩:=h
  exact⟨v,r,e,Rep.same s p h1,aj.same s ps h2⟩
end
theorem aj.paired:∀{ps:List PV} {vs:List V},aj W G ps vs->Paired (λv p=>Rep W G p v) vs ps
 |[],_,h=>by simp only [aj] at h;subst h;exact .nil
 |p::ps,_,h=>by
  simp only [aj] at h;obtain⟨v,r,rfl,h1,h2⟩:=h
  exact .cons h1 (aj.paired h2)
theorem aj.length{ps:List PV}{vs:List V}(h:aj W G ps vs):vs.length=ps.length:=lJ h.paired
theorem aj.nil:aj W G [] []:=by simp only [aj]
theorem aj.cons{p:PV}{v:V}{ps:List PV}{vs:List V}(h:Rep W G p v)(t:aj W G ps vs):aj W G (p::ps) (v::vs):=by simp only [aj];exact⟨_,_,rfl,h,t⟩
theorem aj.br{p:PV}{ps:List PV}{vs:List V}(h:aj W G (p::ps) vs):∃v r,vs=v::r/\Rep W G p v/\aj W G ps r:=by simpa only [aj] using h
theorem aj.append:∀{ps qs:List PV} {vs us:List V},aj W G ps vs->aj W G qs us->aj W G (ps++qs) (vs++us)
 |[],_,_,_,h,k=>by simp only [aj] at h;subst h;exact k
 |p::ps,_,_,_,h,k=>by
  obtain⟨v,r,rfl,h1,h2⟩:=h.br
  exact .cons h1 (h2.append k)
theorem aj.get:∀{ps:List PV} {vs:List V} {i:Nat} {v:V},aj W G ps vs->vs[i]?=some v->∃p,ps[i]?=some p/\Rep W G p v:=λh e=>oj h.paired e
theorem aj.nA:∀{ps:List PV} {vs:List V} {i:Nat} {p:PV},aj W G ps vs->ps[i]?=some p->∃v,vs[i]?=some v/\Rep W G p v
 |[],_,_,_,_,e=>by simp at e
 |p::ps,_,0,q,h,e=>by
  obtain⟨v,r,rfl,h1,h2⟩:=h.br
  simp at e;subst e;exact⟨v,rfl,h1⟩
 |p::ps,_,i+1,q,h,e=>by
  obtain⟨v,r,rfl,h1,h2⟩:=h.br
  obtain⟨u,e1,k⟩:=h2.nA (i:=i) (by simpa using e)
  exact⟨u,by simpa using e1,k⟩
theorem aj.drop:∀{ps:List PV} {vs:List V} (n:Nat),aj W G ps vs->aj W G (ps.drop n) (vs.drop n)
 |_,_,0,h=>by simpa using h
 |[],_,n+1,h=>by simp only [aj] at h;subst h;simp only [List.drop_nil];exact .nil
 |p::ps,_,n+1,h=>by
  obtain⟨v,r,rfl,h1,h2⟩:=h.br
  simpa using h2.drop n
theorem aj.take:∀{ps:List PV} {vs:List V} (n:Nat),aj W G ps vs->aj W G (ps.take n) (vs.take n)
 |_,_,0,h=>by simp only [List.take_zero];exact .nil
 |[],_,n+1,h=>by simp only [aj] at h;subst h;simp only [List.take_nil];exact .nil
 |p::ps,_,n+1,h=>by
  obtain⟨v,r,rfl,h1,h2⟩:=h.br
  simp only [List.take_succ_cons];exact .cons h1 (h2.take n)
end
def gZ(H H':Hp):Prop:=∀b o,H b=some o->(∀ps,o≠.gf ps)/\H' b=some o\/∃ps m,o=.gf ps/\H' b=some (.gf (ps++m))
theorem gZ.refl(H:Hp):gZ H H:=λb o h=>by
 cases o with
 |gf ps=>exact .inr ⟨ps,#[],rfl,by simpa using h⟩
 |_=>exact .inl ⟨(λ_ z=>nomatch z),h⟩
theorem gZ.trans{H H1 H2:Hp}(a:gZ H H1)(b:gZ H1 H2):gZ H H2:=λc o h=>by
 rcases a c o h with⟨n,e⟩|⟨ps,m,rfl,e⟩
 ·rcases b c o e with y|⟨ps,m,rfl,e2⟩
  ·exact .inl y
  ·exact absurd rfl (n ps)
 ·rcases b c _ e with⟨n,_⟩|⟨qH,m',e2,e3⟩
  ·exact absurd rfl (n _)
  ·cases e2;exact .inr ⟨ps,m++m',rfl,by rw [e3,Array.append_assoc]⟩
theorem gZ.free{H H':Hp}(e:gZ H H'){l:Addr}(h:H' l=Option.none):H l=Option.none:=by
 cases q:H l with
 |none=>rfl
 |some o=>
  rcases e l o q with⟨_,z⟩|⟨_,_,_,z⟩
  ·rw [h] at z;cases z
  ·rw [h] at z;cases z
theorem gZ.at{H H':Hp}(e:gZ H H'){b:Addr}{o:HO}(h:H b=some o)(n:∀ps,o≠.gf ps):H' b=some o:=by
 rcases e b o h with⟨_,z⟩|⟨ps,_,rfl,_⟩
 ·exact z
 ·exact absurd rfl (n ps)
theorem gZ.so{H H':Hp}(e:gZ H H'){b:Addr}(h:H b≠none)(n:∀vs,H b≠some (.tup vs)):∀vs,H' b≠some (.tup vs):=λvs z=>by
 cases q:H b with
 |none=>exact h q
 |some o=>
  rcases e b o q with⟨_,y⟩|⟨_,_,_,y⟩
  ·rw [z] at y;cases y;exact n vs q
  ·rw [z] at y;cases y
theorem gZ.of{H H':Hp}(e:aC H H'):gZ H H':=λb o h=>by
 cases o with
 |gf ps=>exact .inr ⟨ps,#[],rfl,by simpa using e _ _ h⟩
 |_=>exact .inl ⟨(λ_ z=>nomatch z),e _ _ h⟩
theorem gZ.tup{K:PySem.W.Frag}{H H':Hp}{a:Addr}{xs:List V}(e:gZ H H')(h:f6 K H a xs):f6 K H' a xs:=by
 rcases h with(h|⟨o,h⟩)|h
 ·exact .inl (.inl (e.at h (λ_ z=>nomatch z)))
 ·exact .inl (.inr ⟨o,e.at h (λ_ z=>nomatch z)⟩)
 ·exact .inr h
theorem gZ.ls{K:PySem.W.Frag}{H H':Hp}{a:Addr}{vs:List V}(e:gZ H H')(h:qm K H a vs):qm K H' a vs:=by
 rcases h with(h|⟨o,h⟩)|h
 ·exact .inl (.inl (e.at h (λ_ z=>nomatch z)))
 ·exact .inl (.inr ⟨o,e.at h (λ_ z=>nomatch z)⟩)
 ·exact .inr h
theorem gZ.upd{H H':Hp}{a:Addr}{o:HO}(e:gZ H H')(h:H a=none):gZ H (upd H' a o):=λb u q=>by
 have hb:b≠a:=λz=>by rw [z,h] at q;cases q
 rw [ae hb];exact e b u q
def cO(W:Wd)(G H:Hp):Prop:=∀P q,(P,q)∈W.ts->G P=none/\∃ps,H P=some (.gf ps)/\TriplesOk ps.toList/\
 ∀pos cv,codeAmong pos ps.toList=some cv->∃c' oc dm t,cv=.ref c'/\G c'=some (.bF oc bO)/\oc.data=.fields dm/\dm[1]?=some (.str q t)
theorem cO.same{W:Wd}{G G' H H':Hp}(t:cO W G H)(g:aC G G')(own:∀a,H a≠none->(∀vs,H a≠some (.tup vs))->G a=none->G' a=none)(h:∀P ps,H P=some (.gf ps)->H' P=some (.gf ps)):cO W G' H':=λP q m=>by
 obtain⟨n,ps,e,tr,al⟩:=t P q m
 refine⟨own P (by rw [e];exact λz=>nomatch z) (by rw [e];exact λ_ z=>nomatch z) n,ps,h P ps e,tr,λpos cv y=>?_⟩
 obtain⟨c',oc,dm,t,e1,e2,e3,e4⟩:=al pos cv y
 exact⟨c',oc,dm,t,e1,g _ _ e2,e3,e4⟩
structure aE(W:Wd)(G H G' H':Hp):Prop where
 g:aC G G'
 h:gZ H H'
 sub:aC G' H'
 own:∀a,H a≠none->(∀vs,H a≠some (.tup vs))->G a=none->G' a=none
 tab:cO W G H->cO W G' H'
section
variable{W:Wd}
theorem aE.refl{G H:Hp}(s:aC G H):aE W G H G H:=⟨aC.refl _,gZ.refl _,s,λ_ _ _ h=>h,id⟩
theorem aE.trans{G H G1 H1 G2 H2:Hp}(a:aE W G H G1 H1)(b:aE W G1 H1 G2 H2):aE W G H G2 H2:=
 ⟨a.g.trans b.g,a.h.trans b.h,b.sub,λx hx ht hg=>b.own x (λz=>hx (a.h.free z)) (a.h.so hx ht) (a.own x hx ht hg),λt=>b.tab (a.tab t)⟩
theorem kQ{H:Hp}{p:Addr}{o:HO}(h:∀ps,H p≠some (.gf ps))(P:Addr)(ps:Array Value)(e:H P=some (.gf ps)):upd H p o P=some (.gf ps):=by
 rw [ae (λz=>by subst z;exact h ps e)];exact e
theorem aE.new{G H:Hp}{p:Addr}{o:HO}(s:aC G H)(h:H p=none):aE W G H (upd G p o) (upd H p o) where
 g:=bD (s.free h)
 h:=.of (bD h)
 sub:=λb u e=>by
  by_cases hb:b=p
  ·subst hb;rw [ak] at e⊢;exact e
  ·rw [ae hb] at e⊢;exact s _ _ e
 own:=λa ha _ hg=>by
  have:a≠p:=λz=>by subst z;exact ha h
  rw [ae this];exact hg
 tab:=λt=>t.same (bD (s.free h)) (λa ha _ hg=>by
  have:a≠p:=λz=>by subst z;exact ha h
  rw [ae this];exact hg) (kQ (λps z=>by rw [h] at z;cases z))
theorem aE.adopt{G H:Hp}{b:Addr}{vs:List V}(s:aC G H)(h:H b=some (.tup vs)):aE W G H (upd G b (.tup vs)) H:=by
 have sm:aC G (upd G b (.tup vs)):=λc u e=>by
  by_cases hc:c=b
  ·subst hc;rw [ak];have:=s _ _ e;rw [h] at this;exact this
  ·rw [ae hc];exact e
 have ow:∀a,H a≠none->(∀vs,H a≠some (.tup vs))->G a=none->upd G b (.tup vs) a=none:=λa _ n e=>by
  have:a≠b:=λz=>by subst z;exact n vs h
  rw [ae this];exact e
 exact⟨sm,gZ.refl _,λc u e=>by
  by_cases hc:c=b
  ·subst hc;rw [ak] at e;cases e;exact h
  ·rw [ae hc] at e;exact s _ _ e,ow,λt=>t.same sm ow λ_ _ e=>e⟩
theorem aE.QE{G H:Hp}{p:Addr}{o:HO}(s:aC G H)(h:H p=none):aE W G H G (upd H p o):=
 ⟨aC.refl _,.of (bD h),s.trans (bD h),λ_ _ _ hg=>hg,λt=>t.same (aC.refl _) (λ_ _ _ h=>h) (kQ (λps z=>by rw [h] at z;cases z))⟩
end
def bp(scope:Scope):List Str:=((scope.names.filter λp=>p.2==.free).map (·.1)).reverse
def okN(x:Str):Bool:=!(x=="__debug__")&&!(x=="__classdict__")&&!(x=="__name__")
def gE(x:Str):Bool:=x.cps.toList.contains 64
theorem fg{α:Type}{a:α}{p:Prop}(h:(none:Option α)=some a):p:=nomatch h
theorem AX{α:Type}{o:Option α}{f:α->Bool}(h:o.any f=true):∃x,o=some x/\f x=true:=by
 cases o with
 |none=>cases h
 |some x=>exact⟨x,rfl,h⟩
def fF:Expr->Option Str
 |.Name x _=>some x
 |_=>none
theorem cL{e:Expr}{x:Str}(h:fF e=some x):∃p,e=.Name x p:=by
 cases e with
 |Name y p=>cases h;exact⟨_,rfl⟩
 |_=>exact fg h
def GP:Expr->Option (Expr×List Expr×List Keyword×Pos)
 |.Call f a k p=>some (f,a,k,p)
 |_=>none
theorem jW{e:Expr}{q:Expr×List Expr×List Keyword×Pos}(h:GP e=some q):e=.Call q.1 q.2.1 q.2.2.1 q.2.2.2:=by
 cases e with
 |Call f a k p=>cases h;rfl
 |_=>exact fg h
def Q3:List Arg->Option (List Str)
 |[]=>some []
 |[a]=>some [a.arg]
 |_=>none
noncomputable def pT(p:Arguments):Option (List Str):=if(p.posonlyargs.isEmpty&&p.vararg.isNone&&p.kwonlyargs.isEmpty&&p.kw_defaults.isEmpty&&p.kwarg.isNone&&p.defaults.isEmpty)=true then Q3 p.args else none
theorem wQ{p:Arguments}{ps:List Str}(h:pT p=some ps):(p=⟨[],[],none,[],[],none,[]⟩/\ps=[])\/∃a,p=⟨[],[a],none,[],[],none,[]⟩/\ps=[a.arg]:=by
 obtain⟨a,b,c,d,e,f,g⟩:=p
 unfold pT at h;split at h
 ·rename_i q;simp only [zza,List.isEmpty_iff,Option.isNone_iff_eq_none] at q;obtain⟨⟨⟨⟨⟨q1,q2⟩,q3⟩,q4⟩,q5⟩,q6⟩:=q
  subst q1 q2 q3 q4 q5 q6;cases b with
  |nil=>cases h;exact .inl ⟨rfl,rfl⟩
  |cons a b=>
   cases b with
   |nil=>cases h;exact .inr ⟨a,rfl,rfl⟩
   |cons _ _=>exact fg h
 ·exact fg h
def fv:List Expr->List (Option Str)->Bool
 |[],[]=>true
 |.Name x _::r,some y::t=>x==y&&okN x&&fv r t
 |_,_=>false
noncomputable def Ox(ps:List Str)(scope:Scope):Bool:=
 scope.kind==.function&&!scope.isCoroutine&&!scope.isGenerator&&decide ((ps++bp scope).Nodup)&&(scope.names.all λy=>decide (y.2≠.cell))&&(ps.all λx=>decide (scope.names.lookup x=some .local))&&((bp scope).all λx=>decide (scope.names.lookup x=some .free))
noncomputable def Fi(g:Str)(idx:List Nat)(params:Arguments)(body:Expr)(scope:Scope):Bool:=(pT params).any λps=>(GP body).any λq=>fF q.1==some g&&q.2.2.1.isEmpty&&!q.2.1.isEmpty&&decide (idx.head?=some ps.length)&&scope.names.lookup g==some .globalImplicit&&okN g&&!gE g&&fv q.2.1 (idx.tail.map λi=>(ps++bp scope)[i]?)&&Ox ps scope
structure O4(W:Wd)(G:Hp)(g:Str)(idx:List Nat)(cY:List PV)(f c':Addr)(oc:Obj)(dm:Array Value)(t:Tok)(fN pm:Value)(params:Arguments)(body:Expr)(scope:Scope)(qual:Str)(cl:List (Str×Addr))(Z:List (Addr×Obj))(ws:List V):Prop where
 lg:Fi g idx params body scope=true
 fo:G f=some (.bF (PySem.W.kla_obj "<lambda>" qual params body scope cl pm c' fN) bO)
 co:G c'=some (.bF oc bO)
 cd:oc.data=.fields dm
 cn:dm[1]?=some (.str qual t)
 fz:Z.lookup f=none
 cz:Z.lookup c'=none
 inj:∀x y c,cl.lookup x=some c->cl.lookup y=some c->x=y
 has:∀y∈bp scope,∃c,cl.lookup y=some c
 cells:∀x c,cl.lookup x=some c->∃o v,Z.lookup c=some o/\o.data=.cell v
 zs:∀b o,Z.lookup b=some o->G b=some (.bF o bO)
 zc:∀b o,Z.lookup b=some o->∃v,o.data=.cell v
 vals:∀(i:Nat) y c,(bp scope)[i]?=some y->cl.lookup y=some c->∀v,ws[i]?=some v->∃u o,RelV v u/\Z.lookup c=some o/\o.data=.cell (some u)
 len:ws.length=(bp scope).length
 rep:aj W (bg Z G) cY ws
def qE(W:Wd)(G:Hp)(g:Str)(idx:List Nat)(cY:List PV)(v:V):Prop:=∃f c' oc dm t fN pm params body scope qual cl Z ws,v=.ref f/\O4 W G g idx cY f c' oc dm t fN pm params body scope qual cl Z ws
theorem nW{Z:List (Addr×Obj)}{G G':Hp}(s:aC G G'):aC (bg Z G) (bg Z G'):=λb u e=>by
 obtain⟨q,e1⟩:=eP e
 rw [aB q];exact s _ _ e1
theorem qE.same{W:Wd}{G G':Hp}{g:Str}{idx:List Nat}{cY:List PV}{v:V}(s:aC G G')(h:qE W G g idx cY v):qE W G' g idx cY v:=by
 obtain⟨f,c',oc,dm,t,fN,pm,params,body,scope,qual,cl,Z,ws,e,d⟩:=h
 exact⟨f,c',oc,dm,t,fN,pm,params,body,scope,qual,cl,Z,ws,e,⟨d.lg,s _ _ d.fo,s _ _ d.co,d.cd,d.cn,d.fz,d.cz,d.inj,d.has,d.cells,λb o q=>s _ _ (d.zs b o q),d.zc,d.vals,d.len,aj.same (nW s) cY d.rep⟩⟩
inductive Slot where
 |no|val (p:PV)|own (p:PV)|fn (g:Str) (idx:List Nat) (cY:List PV)
 deriving Inhabited
abbrev Sl:=List Slot
def Own(W:Wd)(H0 G H:Hp):PV->V->Prop
 |.lst xs,v=>∃a vs,v=.ref a/\H a=some (.lst vs)/\G a=none/\H0 a=none/\aj W G xs vs
 |.aP ks ps,v=>∃a us,v=.ref a/\ks.length=us.length/\H a=some (.dT (kz ks us))/\G a=none/\H0 a=none/\aj W G ps us
 |_,_=>False
def Top(W:Wd)(H0 G H:Hp)(p:PV)(v:V):Prop:=Rep W G p v\/Own W H0 G H p v
def Gu(W:Wd)(H0 G H:Hp):Slot->Option V->Prop
 |.no,_=>True
 |.val p,o=>∃v,o=some v/\Rep W G p v
 |.own p,o=>∃v,o=some v/\Own W H0 G H p v
 |.fn g idx cY,o=>∃v,o=some v/\qE W G g idx cY v
structure SR(W:Wd)(H0:Hp)(env:Sl)(σ:St)(G H:Hp):Prop where
 len:env.length=σ.length
 sub:aC G H
 base:gZ H0 H
 slot:∀(i:Nat) (s:Slot),env[i]?=some s->∃o,σ[i]?=some o/\Gu W H0 G H s o
 apart:∀(i j:Nat) (p q:PV) (a:Addr),env[i]?=some (.own p)->env[j]?=some (.own q)->σ[i]?=some (some (.ref a))->σ[j]?=some (some (.ref a))->i=j
 tab:cO W G H
 i8:cO W G H0
section
variable{W:Wd}{H0 G H G' H':Hp}{env:Sl}{σ:St}
theorem Own.grow(g:aE W G H G' H'):∀{p:PV} {v:V},Own W H0 G H p v->Own W H0 G' H' p v
 |.lst xs,_,h=>by
  obtain⟨a,vs,e,h1,h2,h3,l⟩:=h
  exact⟨a,vs,e,g.h.at h1 (λ_ z=>nomatch z),g.own a (by rw [h1];exact λz=>by cases z) (by rw [h1];exact λ_ z=>by cases z) h2,h3,aj.same g.g xs l⟩
 |.aP ks ps,_,h=>by
  obtain⟨a,vs,e,n,h1,h2,h3,l⟩:=h
  exact⟨a,vs,e,n,g.h.at h1 (λ_ z=>nomatch z),g.own a (by rw [h1];exact λz=>by cases z) (by rw [h1];exact λ_ z=>by cases z) h2,h3,aj.same g.g ps l⟩
 |.az,_,h=>h|.bl _,_,h=>h|.int _,_,h=>h|.str _,_,h=>h|.tup _,_,h=>h|.exc _,_,h=>h
theorem Gu.grow(g:aE W G H G' H'):∀{s:Slot} {o:Option V},Gu W H0 G H s o->Gu W H0 G' H' s o
 |.no,_,_=>trivial
 |.val p,_,h=>by obtain⟨v,e,r⟩:=h;exact⟨v,e,Rep.same g.g p r⟩
 |.own p,_,h=>by obtain⟨v,e,r⟩:=h;exact⟨v,e,r.grow g⟩
 |.fn _ _ _,_,h=>by obtain⟨v,e,r⟩:=h;exact⟨v,e,r.same g.g⟩
theorem SR.grow(r:SR W H0 env σ G H)(g:aE W G H G' H'):SR W H0 env σ G' H':=
 ⟨r.len,g.sub,r.base.trans g.h,λi s e=>by obtain⟨o,h1,h2⟩:=r.slot i s e;exact⟨o,h1,h2.grow g⟩,r.apart,g.tab r.tab,r.i8.same g.g (λa h1 h3 h2=>g.own a (λz=>h1 (r.base.free z)) (r.base.so h1 h3) h2) λ_ _ h=>h⟩
theorem Top.grow{p:PV}{v:V}(g:aE W G H G' H')(h:Top W H0 G H p v):Top W H0 G' H' p v:=h.elim (λz=>.inl (Rep.same g.g p z)) λz=>.inr (z.grow g)
theorem Top.lst{xs:List PV}{v:V}(s:aC G H)(h:Top W H0 G H (.lst xs) v):∃a vs,v=.ref a/\qm W.K H a vs/\aj W G xs vs:=by
 rcases h with h|h
 ·simp only [Rep] at h;obtain⟨a,vs,e,q,l⟩:=h
  exact⟨a,vs,e,aC.ls s q,l⟩
 ·obtain⟨a,vs,e,h1,_,_,l⟩:=h
  exact⟨a,vs,e,.inl (.inl h1),l⟩
theorem Top.tup{xs:List PV}{v:V}(s:aC G H)(h:Top W H0 G H (.tup xs) v):∃a vs,v=.ref a/\f6 W.K H a vs/\aj W G xs vs:=by
 rcases h with h|h
 ·simp only [Rep] at h;obtain⟨a,vs,e,q,l⟩:=h
  exact⟨a,vs,e,aC.tup s q.sq,l⟩
 ·exact h.elim
theorem Top.tupI{xs:List PV}{v:V}{ns:List Int}(s:aC G H)(hx:xs=ns.map .int)(h:Top W H0 G H (.tup xs) v):∃a,v=.ref a/\G a=some (.tup (ns.map V.int)):=by
 rcases h with h|h
 ·simp only [Rep] at h;obtain⟨a,vs,e,q,l⟩:=h
  have ev:vs=ns.map V.int:=by
   subst hx
   clear q e
   induction ns generalizing vs with
   |nil=>simp only [List.map_nil,aj] at l;exact l
   |cons n ns ih=>
    obtain⟨u,r,rfl,h1,h2⟩:=l.br
    simp only [Rep] at h1;rw [h1,ih r h2]
    rfl
  subst ev;rcases q with q|⟨_,z,hz⟩
  ·exact⟨a,e,q⟩
  ·obtain⟨n,_,hn⟩:=List.mem_map.mp hz
   cases hn
 ·exact h.elim
theorem Top.aP{ks:List (List Int)}{ps:List PV}{v:V}(s:aC G H)(h:Top W H0 G H (.aP ks ps) v):∃a us,v=.ref a/\ks.length=us.length/\Rd H a (.dT (kz ks us))/\aj W G ps us:=by
 rcases h with h|h
 ·simp only [Rep] at h;obtain⟨a,o,us,e,n,q,l⟩:=h
  exact⟨a,us,e,n,.inr ⟨o,s _ _ q⟩,l⟩
 ·obtain⟨a,vs,e,n,q,_,_,l⟩:=h
  exact⟨a,vs,e,n,.inl q,l⟩
theorem Top.int{i:Int}{v:V}(h:Top W H0 G H (.int i) v):v=.int i:=h.elim (λz=>by simpa only [Rep] using z) λz=>z.elim
theorem Top.bl{b:Bool}{v:V}(h:Top W H0 G H (.bl b) v):v=.bl b:=h.elim (λz=>by simpa only [Rep] using z) λz=>z.elim
theorem Top.str{b:Str}{v:V}(h:Top W H0 G H (.str b) v):v=.str b:=h.elim (λz=>by simpa only [Rep] using z) λz=>z.elim
theorem Top.az{v:V}(h:Top W H0 G H .az v):v=.az:=h.elim (λz=>by simpa only [Rep] using z) λz=>z.elim
theorem Rep.i{i:Int}:Rep W G (.int i) (.int i):=by simp only [Rep]
theorem Rep.b{i:Bool}:Rep W G (.bl i) (.bl i):=by simp only [Rep]
theorem Rep.s{i:Str}:Rep W G (.str i) (.str i):=by simp only [Rep]
theorem Rep.n:Rep W G .az .az:=by simp only [Rep]
theorem Rep.l{a:Addr}{xs:List PV}{vs:List V}(h:qm W.K G a vs)(l:aj W G xs vs):Rep W G (.lst xs) (.ref a):=by simp only [Rep];exact⟨a,vs,rfl,h,l⟩
theorem Rep.t{a:Addr}{xs:List PV}{vs:List V}(h:LP W.K G a vs)(l:aj W G xs vs):Rep W G (.tup xs) (.ref a):=by simp only [Rep];exact⟨a,vs,rfl,h,l⟩
end
end Ci
namespace L2
open PySem PySem.Spec PyProof.Rows
end L2
namespace HT
open PySem PySem.Spec PyProof.Rows
section
end
end HT
namespace L2
open PySem PySem.Spec PyProof.Rows
end L2
namespace L2
open PySem PySem.Spec PyProof.Rows PySem.W
end L2
namespace L2
open PySem PySem.Spec PyProof.Rows
end L2
namespace Ci
open PySem L2
inductive Res(α:Type) where
 |ok (a:α)|exc (c:Str)|bad
@[inline] def Res.bind{α β:Type}:Res α->(α->Res β)->Res β
 |.ok a,f=>f a
 |.exc c,_=>.exc c
 |.bad,_=>.bad
instance:Monad Res where
 pure:=.ok
 bind:=Res.bind
theorem Res.bb{α β:Type}{r:Res α}{f:α->Res β}{b:β}(h:r.bind f=.ok b):∃a,r=.ok a/\f a=.ok b:=by
 cases r with
 |ok a=>exact⟨a,rfl,h⟩
 |exc c=>cases h
 |bad=>cases h
theorem Res.dU{α β:Type}{r:Res α}{f:α->Res β}{c:Str}(h:r.bind f=.exc c):r=.exc c\/∃a,r=.ok a/\f a=.exc c:=by
 cases r with
 |ok a=>exact .inr ⟨a,rfl,h⟩
 |exc c'=>cases h;exact .inl rfl
 |bad=>cases h
def Res.of{α:Type}:Option α->Res α
 |some a=>.ok a
 |none=>.bad
def Res.well{α:Type}:Res α->Res α
 |.ok a=>.ok a
 |_=>.bad
abbrev dA:Nat:=1000000
def eqs(f:PV->PV->Bool):List PV->List PV->Bool
 |[],[]=>true
 |x::xs,y::ys=>f x y&&eqs f xs ys
 |_,_=>false
noncomputable def ip:Nat->PV->PV->Bool
 |_,.az,.az=>true
 |_,.bl a,.bl b=>a==b
 |_,.bl a,.int i=>(if a then 1 else 0)==i
 |_,.int i,.bl a=>i==(if a then 1 else 0)
 |_,.int i,.int j=>i==j
 |_,.str x,.str y=>x==y
 |n+1,.tup xs,.tup ys=>eqs (ip n) xs ys
 |n+1,.lst xs,.lst ys=>eqs (ip n) xs ys
 |_,_,_=>false
noncomputable def plain:Nat->PV->Bool
 |_,.az=>true
 |_,.bl _=>true
 |_,.int _=>true
 |_,.str _=>true
 |n+1,.tup xs=>xs.all (plain n)
 |n+1,.lst xs=>xs.all (plain n)
 |_,_=>false
abbrev DP:Nat:=9
noncomputable abbrev eqv:PV->PV->Bool:=ip DP
noncomputable abbrev tG:PV->Bool:=plain DP
inductive Hl where|add|sub|mul|mod|fdiv
inductive Ab where|eq|ne|lt|le|gt|ge|is|zj|Km|kH
def aR(i:Int):Bool:=decide (-(2^64)<i)&&decide (i<2^64)
noncomputable def binOp:Hl->PV->PV->Res PV
 |.add,.int i,.int j=>.ok (.int (i+j))
 |.add,.str x,.str y=>if x.length+y.length<=dA then .ok (.str (x++y)) else .bad
 |.add,.lst x,.lst y=>if x.length+y.length<=dA then .ok (.lst (x++y)) else .bad
 |.sub,.int i,.int j=>.ok (.int (i-j))
 |.mul,.int i,.int j=>if aR i||aR j then .ok (.int (i*j)) else .bad
 |.mul,.lst x,.int j=>if 0<=j/\j<1000/\x.length<1000 then .ok (.lst (List.replicate j.toNat x).flatten) else .bad
 |.mod,.int i,.int j=>if 0<j then .ok (.int (i%j)) else .bad
 |.fdiv,.int i,.int j=>if 0<j/\j<1073741824 then .ok (.int (i/j)) else .bad
 |_,_,_=>.bad
def intsOf:List PV->Option (List Int)
 |[]=>some []
 |.int i::r=>(intsOf r).map (i::·)
 |_=>none
def au{α:Type}:List (List Int)->List α->List Int->Option α
 |k'::ks,v::vs,k=>if k'=k then some v else au ks vs k
 |_,_,_=>none
def cK(ks:List (List Int))(k:List Int):Bool:=ks.any λk'=>decide (k'=k)
def aZ(ks:List (List Int))(k:List Int):List (List Int):=if cK ks k then ks else ks++[k]
def aY{α:Type}(ks:List (List Int))(vs:List α)(k:List Int)(p:α):List α:=if cK ks k then List.zipWith (λk' v=>if k'=k then p else v) ks vs else vs++[p]
def cb(ks:List (List Int))(k:List Int):List (List Int):=ks.filter λk'=>decide (k'≠k)
def aW{α:Type}:List (List Int)->List α->List Int->List α
 |k'::ks,v::vs,k=>if k'=k then aW ks vs k else v::aW ks vs k
 |_,_,_=>[]
def af(k:List Int):PV:=.tup (k.map .int)
def jz:PV->Option (List Int)
 |.tup xs=>intsOf xs
 |_=>none
def uD:List PV->Option (List (List Int×PV))
 |[]=>some []
 |.tup [x,y]::r=>(jz x).bind λk=>(uD r).map ((k,y)::·)
 |_=>none
def ez{α:Type}:List (List Int×α)->List (List Int)->List α->List (List Int)×List α
 |[],ks,vs=>(ks,vs)
 |p::r,ks,vs=>ez r (aZ ks p.1) (aY ks vs p.1 p.2)
noncomputable def yM(x:PV)(ys:List PV):Bool:=ys.any λy=>eqv y x
noncomputable def fG(a b:PV):Res PV:=if tG a&&tG b then .ok (.bl (eqv a b)) else .bad
noncomputable def gb(a b:PV):Res PV:=if tG a&&tG b then .ok (.bl (!eqv a b)) else .bad
def sL:PV->PV->Res PV
 |.int i,.int j=>.ok (.bl (decide (i<j)))
 |_,_=>.bad
def pZ:PV->PV->Res PV
 |.int i,.int j=>.ok (.bl (decide (i<=j)))
 |_,_=>.bad
def uz:PV->PV->Res PV
 |.int i,.int j=>.ok (.bl (decide (j<i)))
 |_,_=>.bad
def uY:PV->PV->Res PV
 |.int i,.int j=>.ok (.bl (decide (j<=i)))
 |_,_=>.bad
def BD:PV->Bool
 |.az=>true
 |_=>false
def j6:PV->PV->Res PV
 |a,.az=>.ok (.bl (BD a))
 |_,_=>.bad
def fy:PV->PV->Res PV
 |a,.az=>.ok (.bl (!BD a))
 |_,_=>.bad
noncomputable def qN:PV->PV->Res PV
 |a,.lst ys=>if tG a&&ys.all tG then .ok (.bl (yM a ys)) else .bad
 |_,_=>.bad
noncomputable def ja:PV->PV->Res PV
 |a,.lst ys=>if tG a&&ys.all tG then .ok (.bl (!yM a ys)) else .bad
 |a,.aP ks _=>(Res.of (jz a)).bind λk=>.ok (.bl (!cK ks k))
 |_,_=>.bad
noncomputable def dC:Ab->PV->PV->Res PV
 |.eq=>fG|.ne=>gb|.lt=>sL|.le=>pZ|.gt=>uz|.ge=>uY|.is=>j6|.zj=>fy|.Km=>qN|.kH=>ja
noncomputable def aD:PV->PV->Res PV
 |.lst xs,.int i=>Res.of (pV xs i)
 |.tup xs,.int i=>Res.of (pV xs i)
 |.str z,.int i=>if z.length<=dA then(Res.of (pV z.cps.toList i)).bind λc=>.ok (.str ⟨#[c]⟩) else .bad
 |.aP ks vs,y=>(Res.of (jz y)).bind λk=>Res.of (au ks vs k)
 |_,_=>.bad
def BH{α:Type}(xs:List α)(lo hi:Option Int):List α:=(xs.drop (HT.oH xs.length 0 lo)).take (HT.oH xs.length xs.length hi-HT.oH xs.length 0 lo)
def ie:PV->Option Int->Option Int->Res PV
 |.lst xs,lo,hi=>.ok (.lst (BH xs lo hi))
 |_,_,_=>.bad
inductive B where|len|abs|max2|int|str|tuple|all|dict|mS
def boolsOf:List PV->Option (List Bool)
 |[]=>some []
 |.bl b::r=>(boolsOf r).map (b::·)
 |_=>none
def chars(z:Str):List PV:=z.cps.toList.map λc=>.str ⟨#[c]⟩
noncomputable def tX:List PV->Res PV
 |[.lst xs]=>.ok (.int xs.length)
 |[.tup xs]=>.ok (.int xs.length)
 |[.str z]=>if z.length<=dA then .ok (.int z.length) else .bad
 |[.aP ks _]=>.ok (.int ks.length)
 |_=>.bad
def AZ:List PV->Res PV
 |[.int i]=>.ok (.int (if i<0 then -i else i))
 |_=>.bad
def BU:List PV->Res PV
 |[.int i,.int j]=>.ok (.int (if j>i then j else i))
 |_=>.bad
def Ac:List PV->Res PV
 |[.str z]=>if z.length<=640 then(Res.of (PySem.intText? z)).bind λn=>.ok (.int n) else .bad
 |_=>.bad
def CO:List PV->Res PV
 |[.int i]=>if i.natAbs.log2<1920 then .ok (.str (toString i)) else .bad
 |_=>.bad
def l0:List PV->Res PV
 |[.lst xs]=>.ok (.tup xs)
 |_=>.bad
def Bu:List PV->Res PV
 |[.lst xs]=>(Res.of (boolsOf xs)).bind λbs=>.ok (.bl (bs.all id))
 |_=>.bad
def mB:List PV->Res PV
 |[.aP ks _]=>if ks.length<=dA then .ok (.lst (ks.map af)) else .bad
 |_=>.bad
def iQ:List PV->Res PV
 |[.lst xs]=>(Res.of (uD xs)).bind λps=>.ok (.aP (ez ps [] []).1 (ez ps [] []).2)
 |_=>.bad
noncomputable def d5:B->List PV->Res PV
 |.len=>tX|.abs=>AZ|.max2=>BU|.int=>Ac|.str=>CO|.tuple=>l0|.all=>Bu|.dict=>iQ|.mS=>mB
inductive Ty where|int|bool|tuple|list
def il:Ty->PV->Bool
 |.int,.int _=>true
 |.int,.bl _=>true
 |.bool,.bl _=>true
 |.tuple,.tup _=>true
 |.list,.lst _=>true
 |_,_=>false
def jx(t:Ty):PV->Res PV
 |.exc _=>.bad
 |.aP _ _=>.bad
 |p=>.ok (.bl (il t p))
def strsOf:List PV->Option (List Str)
 |[]=>some []
 |.str z::r=>(strsOf r).map (z::·)
 |_=>none
inductive M where|iG|index|join
noncomputable def sW:List PV->Res PV
 |[.str z,.lst xs]=>(Res.of (strsOf xs)).bind λys=>if z.length<=16/\(ys.map (·.length)).sum+ys.length<=dA then .ok (.str (Txt.join z ys)) else .bad
 |_=>.bad
noncomputable def jc:List PV->Res PV
 |[.lst xs,v]=>if tG v&&xs.all tG then .ok (.int ((xs.countP λy=>eqv y v:Nat):Int)) else .bad
 |_=>.bad
noncomputable def mW:List PV->Res PV
 |[.lst xs,v]=>if tG v&&xs.all tG&&decide (xs.length<1000) then(match xs.findIdx? λy=>eqv y v with|some j=>.ok (.int (j:Nat))|none=>.bad) else .bad
 |_=>.bad
noncomputable def rW:M->List PV->Res PV
 |.join=>sW|.iG=>jc|.index=>mW
def wK:M->PV->Bool
 |.join,.str _=>true
 |.iG,.lst _=>true
 |.index,.lst _=>true
 |_,_=>false
inductive Tg where
 |one (i:Nat)|two (i j:Nat)|three (i j k:Nat)|Mh (i j k:Nat)
mutual
inductive E where
 |var (i:Nat)|fO (i:Nat)
 |cst (p:PV)
 |glob (g:Str) (p:PV)
 |call (f:Str) (as:Es)
 |mv (i:Nat) (as:Es)
 |sY (f:Str) (as:Es) (g:Str) (idx:List Nat) (bf:List Nat)
 |blt (b:B) (as:Es)
 |ty (t:Ty) (a:E)
 |Dg (c:Str) (a:E)
 |Au (m:M) (o:E) (as:Es)
 |bin (o:Hl) (a b:E)
 |cmp (o:Ab) (a b:E)
 |ch (o1 o2:Ab) (a b c:E)
 |not (a:E)
 |neg (a:E)
 |and (a b:E)|or (a b:E)
 |ite (c a b:E)
 |tup (as:Es)|lst (as:Es)
 |sub (a b:E)
 |slice (a:E) (lo hi:Oe)
 |comp (k:Nat) (bf:List Nat) (tg:Tg) (it:I) (elt:E)
 |cQ (k:Nat) (bf:List Nat) (tg:Tg) (it:I) (c elt:E)
inductive Es where
 |nil|cons (e:E) (es:Es)
inductive Oe where
 |no|some (e:E)
inductive I where
 |seq (e:E)|kF (e:E)|qb (a b:E)|enum (e:E)
end
mutual
inductive S where
 |expr (e:E)
 |set (i:Nat) (e:E)
 |own (i:Nat) (e:E)
 |bF (i:Nat)
 |app (i:Nat) (e:E)
 |oV (i:Nat) (e:E)
 |put (i:Nat) (k e:E)
 |aug (i:Nat) (o:Hl) (e:E)
 |ret (e:E)
 |ite (c:E) (a b:Ss)
 |di (tg:Tg) (it:I) (b:Ss)
 |xo (c:E) (b:Ss)
 |raise (c:Str) (m:Str)
 |vi (b:Ss) (c:Str) (i j:Nat)
 |lD (i:Nat)
 |pY (i:Nat) (e:E)
 |fj (i j n:Nat)
 |nD (m i:Nat)
inductive Ss where
 |nil|cons (s:S) (ss:Ss)
end
def fc:List Int->Nat->Nat->Int->Nat
 |[],_,b,_=>b
 |c::cs,j,b,m=>if c<m then fc cs (j+1) j c else fc cs (j+1) b m
def CI:List Int->Option Nat
 |[]=>none
 |c::cs=>some (fc cs 1 0 c)
def iI:List PV->Option (List Int)
 |[]=>some []
 |.tup (.int c::_)::r=>(iI r).map (c::·)
 |_=>none
abbrev aN:=Str->List PV->Res PV
def mi:Option Slot->Res PV
 |some (.val p)=>.ok p
 |_=>.bad
def CN:Option Slot->Res PV
 |some (.val p)=>.ok p
 |some (.own p)=>.ok p
 |_=>.bad
noncomputable def Tg.put:Tg->PV->Sl->Res Sl
 |.one i,p,env=>.ok (env.set i (.val p))
 |.two i j,.tup [a,b],env=>.ok ((env.set i (.val a)).set j (.val b))
 |.Mh i j k,.tup [a,.tup [b,c]],env=>.ok (((env.set i (.val a)).set j (.val b)).set k (.val c))
 |.three i j k,.tup [a,b,c],env=>.ok (((env.set i (.val a)).set j (.val b)).set k (.val c))
 |_,_,_=>.bad
def ko(env:Sl):List Nat->Res (List PV)
 |[]=>.ok []
 |i::r=>(mi env[i]?).bind λp=>(ko env r).bind λps=>.ok (p::ps)
def fx(l:List PV):List Nat->Res (List PV)
 |[]=>.ok []
 |i::r=>(Res.of l[i]?).bind λp=>(fx l r).bind λps=>.ok (p::ps)
def fK(env:Sl)(bf:List Nat):Sl:=bf.map λi=>env.getD i .no
def itemsOf:PV->Res (List PV)
 |.lst xs=>.ok xs
 |.tup xs=>.ok xs
 |.str z=>.ok (chars z)
 |_=>.bad
def BZ(e:E)(p:PV):Res (List PV):=match p,e with
 |.aP _ _,.fO _=>.bad
 |.aP ks _,_=>.ok (ks.map af)
 |.lst xs,_=>.ok xs
 |.tup xs,_=>.ok xs
 |_,_=>.bad
def dW(lo:Int)(n:Nat):List PV:=(List.range n).map λi=>.int (lo+(i:Nat))
def aH(i:Int):Bool:=decide (-(2^62)<=i)&&decide (i<2^62)
def cm(n:Nat):List PV->List PV
 |[]=>[]
 |x::xs=>.tup [.int (n:Nat),x]::cm (n+1) xs
def oc:Option PV->List PV->List PV
 |some y,ys=>y::ys
 |none,ys=>ys
def aV(f:PV->Res (Option PV)):List PV->Res (List PV)
 |[]=>.ok []
 |x::xs=>(f x).well.bind λo=>(aV f xs).bind λys=>.ok (oc o ys)
def sJ{α:Type}(p:PV)(f:Bool->Res α):Res α:=match p with
 |.bl b=>f b
 |_=>.bad
section
variable(F:aN)
mutual
noncomputable def aK:E->Sl->Res PV
 |.var i,env=>mi env[i]?
 |.fO i,env=>CN env[i]?
 |.cst p,_=>.ok p
 |.glob _ p,_=>.ok p
 |.call f as,env=>(cU as env).bind λps=>F f ps
 |.mv i as,env=>match env[i]? with
  |some (.fn g idx cY)=>(cU as env).bind λps=>if idx.head?=some ps.length then(fx (ps++cY) idx.tail).bind λqs=>F g qs else .bad
  |_=>.bad
 |.sY f as _ _ bf,env=>(cU as env).bind λps=>(ko env bf).bind λcs=>F f (ps++cs)
 |.blt b as,env=>(cU as env).bind λps=>d5 b ps
 |.ty t a,env=>(aK a env).bind λp=>jx t p
 |.Dg c a,env=>(aK a env).bind λp=>match p with
  |.exc d=>.ok (.bl (if c=="ValueError" then true else(c==d||c=="FloorError")))
  |_=>.bad
 |.Au m o as,env=>(aK o env).bind λp=>if wK m p then(cU as env).bind λps=>rW m (p::ps) else .bad
 |.bin o a b,env=>(aK a env).bind λx=>(aK b env).bind λy=>binOp o x y
 |.cmp o a b,env=>(aK a env).bind λx=>(aK b env).bind λy=>dC o x y
 |.ch o1 o2 a b c,env=>(aK a env).bind λx=>(aK b env).bind λy=>(dC o1 x y).bind λt=>sJ t λt=>
  if t then(aK c env).bind λz=>dC o2 y z else .ok (.bl false)
 |.not a,env=>(aK a env).bind λx=>sJ x λb=>.ok (.bl (!b))
 |.neg a,env=>(aK a env).bind λx=>match x with|.int i=>.ok (.int (-i))|_=>.bad
 |.and a b,env=>(aK a env).bind λx=>sJ x λt=>if t then aK b env else .ok (.bl false)
 |.or a b,env=>(aK a env).bind λx=>sJ x λt=>if t then .ok (.bl true) else aK b env
 |.ite c a b,env=>(aK c env).bind λx=>sJ x λt=>if t then aK a env else aK b env
 |.tup as,env=>(cU as env).bind λps=>.ok (.tup ps)
 |.lst as,env=>(cU as env).bind λps=>.ok (.lst ps)
 |.sub a b,env=>(aK a env).bind λx=>(aK b env).bind λy=>aD x y
 |.slice a lo hi,env=>(aK a env).bind λx=>(uA lo env).bind λl=>(uA hi env).bind λh=>ie x l h
 |.comp k bf tg it elt,env=>(qI it env).bind λxs=>if xs.length<dA then(aV (λx=>(tg.put x (List.replicate k .no++fK env bf)).bind λaw=>(aK elt aw).bind λy=>.ok (some y)) xs).bind λys=>.ok (.lst ys) else .bad
 |.cQ k bf tg it c elt,env=>(qI it env).bind λxs=>if xs.length<dA then(aV (λx=>(tg.put x (List.replicate k .no++fK env bf)).bind λaw=>(aK c aw).bind λt=>sJ t λt=>if t then(aK elt aw).bind λy=>.ok (some y) else .ok none) xs).bind λys=>.ok (.lst ys) else .bad
noncomputable def cU:Es->Sl->Res (List PV)
 |.nil,_=>.ok []
 |.cons e es,env=>(aK e env).bind λp=>(cU es env).bind λps=>.ok (p::ps)
noncomputable def uA:Oe->Sl->Res (Option Int)
 |.no,_=>.ok none
 |.some e,env=>(aK e env).bind λp=>match p with|.int i=>.ok (some i)|_=>.bad
noncomputable def qI:I->Sl->Res (List PV)
 |.seq e,env=>(aK e env).bind (BZ e)
 |.kF e,env=>(aK e env).bind λp=>match p with|.int j=>if aH j then .ok (dW 0 j.toNat) else .bad|_=>.bad
 |.qb a b,env=>(aK a env).bind λp=>(aK b env).bind λq=>match p,q with|.int i,.int j=>if aH i&&aH j then .ok (dW i (j-i).toNat) else .bad|_,_=>.bad
 |.enum e,env=>(aK e env).bind λp=>(itemsOf p).bind λxs=>.ok (cm 0 xs)
end
end
inductive Fl where
 |nx (env:Sl)|bk (env:Sl)|ct (env:Sl)|rt (p:PV)
def Fl.seq(f:Fl)(k:Sl->Res Fl):Res Fl:=match f with
 |.nx env=>k env
 |f=>.ok f
noncomputable def forL(body:PV->Sl->Res Fl):List PV->Sl->Res Fl
 |[],env=>.ok (.nx env)
 |x::xs,env=>(body x env).bind λf=>match f with
  |.nx aw=>forL body xs aw
  |.ct aw=>forL body xs aw
  |.bk aw=>.ok (.nx aw)
  |.rt p=>.ok (.rt p)
noncomputable def bK(c:Sl->Res PV)(body:Sl->Res Fl):Nat->Sl->Res Fl
 |0,_=>.bad
 |n+1,env=>(c env).bind λt=>sJ t λt=>if t then(body env).bind λf=>(match f with
  |.nx aw=>bK c body n aw
  |.ct aw=>bK c body n aw
  |.bk aw=>.ok (.nx aw)
  |.rt p=>.ok (.rt p)) else .ok (.nx env)
abbrev WN:Nat:=1000000
def Slot.mn:Slot->Bool
 |.own _=>true
 |_=>false
def nB:Slot->Slot
 |.own p=>.val p
 |s=>s
section
variable(F:aN)
mutual
noncomputable def fH:S->Sl->Res Fl
 |.expr e,env=>(aK F e env).bind λ_=>.ok (.nx env)
 |.set i e,env=>(aK F e env).bind λp=>.ok (.nx (env.set i (.val p)))
 |.own i e,env=>(aK F e env).bind λp=>.ok (.nx (env.set i (.own p)))
 |.bF i,env=>.ok (.nx (env.modify i nB))
 |.app i e,env=>match env[i]? with
  |some (.own (.lst xs))=>(aK F e env).bind λp=>if xs.length<dA then .ok (.nx (env.set i (.own (.lst (xs++[p]))))) else .bad
  |_=>.bad
 |.oV i e,env=>match env[i]? with
  |some (.own (.lst xs))=>(aK F e env).bind λp=>match p with
   |.lst ys=>if xs.length+ys.length<=dA then .ok (.nx (env.set i (.own (.lst (xs++ys))))) else .bad
   |_=>.bad
  |_=>.bad
 |.put i k e,env=>(aK F e env).bind λp=>match env[i]? with
  |some (.own (.aP ks vs))=>(aK F k env).bind λkp=>match jz kp with
   |some kk=>if ks.length<dA then .ok (.nx (env.set i (.own (.aP (aZ ks kk) (aY ks vs kk p))))) else .bad
   |none=>.bad
  |_=>.bad
 |.aug i o e,env=>(mi env[i]?).bind λx=>(aK F e env).bind λy=>(match x,y with|.int _,.int _=>binOp o x y|_,_=>.bad).bind λp=>.ok (.nx (env.set i (.val p)))
 |.ret e,env=>(aK F e env).bind λp=>.ok (.rt p)
 |.ite c a b,env=>(aK F c env).bind λp=>sJ p λt=>if t then aF a env else aF b env
 |.di tg it b,env=>(qI F it env).bind λxs=>forL (λx env=>(tg.put x env).bind λaw=>aF b aw) xs env
 |.xo c b,env=>bK (aK F c) (aF b) WN env
 |.raise c _,_=>.exc c
 |.vi b c i j,env=>if env.any Slot.mn then .bad else match aF b env with
  |.exc d=>.ok (.nx ((env.set j (.val (.exc d))).set i .no))
  |r=>r
 |.pY i e,env=>(aK F e env).bind λp=>(iQ [p]).bind λq=>.ok (.nx (env.set i (.own q)))
 |.lD i,env=>.ok (.nx (env.set i (.own (.aP [] []))))
 |.fj i j n,env=>match env[j]?,env[i]?,env[n]? with
  |some (.own (.aP ks vs)),some (.own (.aP ks2 vs2)),some (.val kp)=>match jz kp with
   |some kk=>match au ks vs kk with
    |some p=>if ks2.length<dA/\i≠j then .ok (.nx ((env.set j (.own (.aP (cb ks kk) (aW ks vs kk)))).set i (.own (.aP (aZ ks2 kk) (aY ks2 vs2 kk p))))) else .bad
    |none=>.bad
   |none=>.bad
  |_,_,_=>.bad
 |.nD m i,env=>match env[i]? with
  |some (.own (.aP ks vs))=>match iI vs with
   |some cs=>match(CI cs).bind λx=>ks[x]? with
    |some k=>.ok (.nx (env.set m (.val (af k))))
    |none=>.bad
   |none=>.bad
  |_=>.bad
noncomputable def aF:Ss->Sl->Res Fl
 |.nil,env=>.ok (.nx env)
 |.cons s ss,env=>(fH s env).bind λf=>f.seq (aF ss)
end
end
structure Def where
 N:List Str
 np:Nat
 body:Ss
 iM:Option (Str×List Nat):=none
noncomputable def cx(d:Def)(as:List PV):Sl:=match d.iM with
 |none=>as.map .val++List.replicate (d.N.length-as.length) .no
 |some q=>(as.take (d.np-1)).map .val++.fn q.1 q.2 (as.drop (d.np-1))::List.replicate (d.N.length-d.np) .no
noncomputable def cy(d:Def)(as:List PV):Bool:=match d.iM with
 |none=>as.length==d.np
 |some _=>decide (0<d.np)&&decide (d.np-1<=as.length)
noncomputable def aq(F:aN)(d:Def)(as:List PV):Res PV:=
 if cy d as then(aF F d.body (cx d as)).bind λf=>match f with
  |.nx _=>.ok .az
  |.rt p=>.ok p
  |_=>.bad
 else .bad
noncomputable def den:List (Str×Def)->aN
 |[],_,_=>.bad
 |(n,d)::r,f,as=>if f==n then aq (den r) d as else den r f as
abbrev ki(k:List Int):List Key:=k.map Sum.inl
theorem uv{a b:List Int}(h:ki a=ki b):a=b:=by
 induction a generalizing b with
 |nil=>cases b with|nil=>rfl|cons=>cases h
 |cons x a ih=>cases b with
  |nil=>cases h
  |cons y b=>simp only [ki,zzF,List.cons.injEq,Sum.inl.injEq] at h;rw [h.1,ih h.2]
theorem rM(k:List Int):(ki k).map kV=k.map V.int:=by
 unfold ki;rw [List.map_map]
 rfl
theorem iY{k:List Int}{ks:List (List Int)}{u:V}{us:List V}:kz (k::ks) (u::us)=(ki k,u)::kz ks us:=rfl
theorem fX{ks:List (List Int)}{us:List V}(h:ks.length=us.length):(kz ks us).length=ks.length:=by
 unfold kz;rw [List.length_zip,zzl];omega
theorem oX{ks:List (List Int)}{us:List V}(h:ks.length=us.length):(kz ks us).map (·.1)=ks.map ki:=by
 unfold kz;exact List.map_fst_zip (by rw [zzl];omega)
theorem lE(k:List Int):∀(ks:List (List Int)) (us:List V),ik (kz ks us) (ki k)=au ks us k
 |[],us=>by unfold au;rfl
 |a::ks,[]=>by unfold au;rfl
 |a::ks,u::us=>by
  rw [iY];unfold au
  by_cases h:a=k
  ·subst h;rw [if_pos rfl];exact gG rfl
  ·rw [if_neg h,gH (λz=>h (uv z))];exact lE k ks us
theorem pg{α:Type}(k:List Int):∀(ks:List (List Int)) (us:List α),ks.length=us.length->(au ks us k).isSome=cK ks k
 |[],[],_=>rfl
 |a::ks,u::us,h=>by
  unfold au cK;rw [List.any_cons]
  by_cases e:a=k
  ·simp [e]
  ·rw [if_neg e];have:=pg k ks us (by simpa using h)
   unfold cK at this;rw [this];simp [e]
 |[],_::_,h=>by simp at h
 |_::_,[],h=>by simp at h
theorem K9(k:List Int):∀(ks:List (List Int)) (us:List V),ks.length=us.length->((kz ks us).any λkv=>decide (kv.1=ki k))=cK ks k:=λks us h=>by
 rw [lh,lE,pg k ks us h]
theorem uq{ks:List (List Int)}{us:List V}(h:ks.length=us.length)(k:List Int)(v:V):putK (kz ks us) (ki k) v=kz (aZ ks k) (aY ks us k v):=by
 unfold putK aZ aY;rw [K9 k ks us h];split
 ·have go:∀(ks:List (List Int)) (us:List V),(kz ks us).map (λkv=>if kv.1=ki k then(kv.1,v) else kv)=kz ks (List.zipWith (λk' u=>if k'=k then v else u) ks us):=by
   intro ks
   induction ks with
   |nil=>intro us;simp [kz]
   |cons a ks ih=>
    intro us;cases us with
    |nil=>simp [kz]
    |cons u us=>
     rw [iY,zzF,List.zipWith_cons_cons,iY,ih]
     by_cases e:a=k
     ·simp [e]
     ·rw [if_neg (λz=>e (uv z)),if_neg e]
  exact go ks us
 ·unfold kz;rw [List.map_append,List.zip_append (by rw [zzl];exact h)]
  rfl
theorem mF{α:Type}{ks:List (List Int)}{us:List α}(h:ks.length=us.length)(k:List Int)(v:α):(aZ ks k).length=(aY ks us k v).length:=by
 unfold aZ aY;split
 ·rw [List.length_zipWith];omega
 ·simp [h]
theorem wU(k:List Int):∀{ks:List (List Int)} {us:List V},ks.length=us.length->fZ (kz ks us) (ki k)=kz (cb ks k) (aW ks us k)
 |[],[],_=>rfl
 |a::ks,u::us,h=>by
  have ih:=wU k (ks:=ks) (us:=us) (by simpa using h)
  unfold cb aW;rw [iY,List.filter_cons]
  by_cases e:a=k
  ·subst e;rw [yZ rfl,ih];simp [cb]
  ·rw [yQ (λz=>e (uv z)),ih,if_neg e,if_pos (by simpa using e),iY]
   rfl
 |[],_::_,h=>by simp at h
 |_::_,[],h=>by simp at h
theorem sI{α:Type}(k:List Int):∀{ks:List (List Int)} {us:List α},ks.length=us.length->(cb ks k).length=(aW ks us k).length
 |[],[],_=>by unfold aW;rfl
 |a::ks,u::us,h=>by
  have ih:=sI k (ks:=ks) (us:=us) (by simpa using h)
  unfold cb aW;rw [List.filter_cons]
  by_cases e:a=k
  ·subst e;rw [if_neg (by simp),if_pos rfl];exact ih
  ·rw [if_neg e,if_pos (by simpa using e),zzL,zzL];exact congrArg (·+1) ih
 |[],_::_,h=>by simp at h
 |_::_,[],h=>by simp at h
section
variable{W:Wd}{G:Hp}
theorem o8{k:List Int}{p:PV}:∀{ks:List (List Int)} {ps:List PV} {us:List V},aj W G ps us->au ks ps k=some p->∃v,au ks us k=some v/\Rep W G p v
 |[],_,_,_,e=>by unfold au at e;cases e
 |a::ks,[],_,_,e=>by unfold au at e;cases e
 |a::ks,q::ps,_,l,e=>by
  obtain⟨v,r,rfl,h1,h2⟩:=l.br
  unfold au at e⊢
  by_cases h:a=k
  ·rw [if_pos h] at e⊢;cases e;exact⟨v,rfl,h1⟩
  ·rw [if_neg h] at e⊢;exact o8 h2 e
theorem Cz{k:List Int}{p:PV}{v:V}(hp:Rep W G p v):∀{ks:List (List Int)} {ps:List PV} {us:List V},aj W G ps us->aj W G (List.zipWith (λk' v=>if k'=k then p else v) ks ps) (List.zipWith (λk' u=>if k'=k then v else u) ks us)
 |[],_,_,_=>by simp only [List.zipWith_nil_left];exact .nil
 |a::ks,[],_,l=>by simp only [aj] at l;subst l;simp only [List.zipWith_nil_right];exact .nil
 |a::ks,q::ps,_,l=>by
  obtain⟨u,r,rfl,h1,h2⟩:=l.br
  rw [List.zipWith_cons_cons,List.zipWith_cons_cons];refine .cons ?_ (Cz hp h2);split
  ·exact hp
  ·exact h1
theorem qG{ks:List (List Int)}{ps:List PV}{us:List V}{k:List Int}{p:PV}{v:V}(l:aj W G ps us)(hp:Rep W G p v):aj W G (aY ks ps k p) (aY ks us k v):=by
 unfold aY;split
 ·exact Cz hp l
 ·exact l.append (.cons hp .nil)
theorem me{k:List Int}:∀{ks:List (List Int)} {ps:List PV} {us:List V},aj W G ps us->aj W G (aW ks ps k) (aW ks us k)
 |[],_,_,_=>by unfold aW;exact .nil
 |a::ks,[],_,l=>by simp only [aj] at l;subst l;unfold aW;exact .nil
 |a::ks,q::ps,_,l=>by
  obtain⟨u,r,rfl,h1,h2⟩:=l.br
  unfold aW;split
  ·exact me h2
  ·exact .cons h1 (me h2)
end
theorem nO:∀{xs:List PV} {ns:List Int},intsOf xs=some ns->xs=ns.map .int
 |[],_,e=>by cases e;rfl
 |.int i::r,_,e=>by
  unfold intsOf at e;obtain⟨ns,h1,rfl⟩:=zzJ.mp e
  rw [nO h1];rfl
 |.az::_,_,e=>by cases e
 |.bl _::_,_,e=>by cases e
 |.str _::_,_,e=>by cases e
 |.tup _::_,_,e=>by cases e
 |.lst _::_,_,e=>by cases e
 |.exc _::_,_,e=>by cases e
 |.aP _ _::_,_,e=>by cases e
theorem i6{p:PV}{k:List Int}(h:jz p=some k):p=af k:=by
 unfold jz at h;split at h
 ·rw [nO h];rfl
 ·cases h
end Ci
namespace L2
open PySem PySem.Spec PyProof.Rows
end L2
namespace Ci
open PySem L2
theorem mU{n:Nat}(h:n<=dA):n<=sizeLine:=zzU h (by decide)
section
variable{X:Cx}{W:Wd}{H0 G H:Hp}
def dy(W:Wd)(G H:Hp)(r:PV)(Q:VK):Prop:=∀v G' H',aE W G H G' H'->Rep W G' r v->Q v H'
theorem dy.at{r:PV}{Q:VK}{v:V}(h:dy W G H r Q)(s:aC G H)(k:Rep W G r v):Q v H:=h v G H (.refl s) k
theorem dy.tup{xs:List PV}{Q:VK}{vs:List V}{p:Addr}(h:dy W G H (.tup xs) Q)(s:aC G H)(k:aj W G xs vs)(hp:H p=none):Q (.ref p) (upd H p (.tup vs)):=
 h _ _ _ (.new s hp) (.t (.inl ak) (aj.same (bD (s.free hp)) xs k))
theorem dy.lst{xs:List PV}{Q:VK}{vs:List V}{p:Addr}(h:dy W G H (.lst xs) Q)(s:aC G H)(k:aj W G xs vs)(hp:H p=none):Q (.ref p) (upd H p (.lst vs)):=
 h _ _ _ (.new s hp) (.l (.inl (.inl ak)) (aj.same (bD (s.free hp)) xs k))
theorem iR{f:PV->PV->Bool}:∀{xs ys:List PV},xs.length≠ys.length->eqs f xs ys=false
 |[],[],h=>absurd rfl h
 |_::xs,_::ys,h=>by simp only [eqs];rw [iR (xs:=xs) (ys:=ys) (λz=>h (by simp [z]))];simp
 |[],_::_,_=>rfl
 |_::_,[],_=>rfl
theorem jo{f:PV->PV->Bool}:∀{xs ys:List PV},xs.length=ys.length->eqs f xs ys=(List.range xs.length).all λj=>f (xs.getD j .az) (ys.getD j .az)
 |[],[],_=>rfl
 |x::xs,y::ys,h=>by
  simp only [eqs];rw [jo (xs:=xs) (ys:=ys) (by simpa using h),zzL,List.range_succ_eq_map,List.all_cons,List.all_map]
  rfl
 |[],_::_,h=>by simp at h
 |_::_,[],h=>by simp at h
theorem jV{f:PV->PV->Bool}:∀{xs ys:List PV},((List.range (min xs.length ys.length)).all (λj=>f (xs.getD j .az) (ys.getD j .az))&&xs.length==ys.length)=eqs f xs ys:=λ{xs ys}=>by
 by_cases h:xs.length=ys.length
 ·rw [jo h,h,Nat.min_self,beq_self_eq_true,Bool.and_true]
 ·rw [iR h,beq_eq_false_iff_ne.mpr h,Bool.and_false]
theorem rH{f:PV->PV->Bool}:∀{xs ys:List PV},xs.length=ys.length->(∀(j:Nat) x y,xs[j]?=some x->ys[j]?=some y->f x y=true)->eqs f xs ys=true
 |[],[],_,_=>rfl
 |x::xs,y::ys,h,k=>by
  simp only [eqs];rw [k 0 x y rfl rfl,rH (xs:=xs) (ys:=ys) (by simpa using h) λj a b ha hb=>k (j+1) a b (by simpa using ha) (by simpa using hb)]
  rfl
 |[],_::_,h,_=>by simp at h
 |_::_,[],h,_=>by simp at h
theorem eU(hK:W.K=X.K){a:Addr}{vs:List V}(h:qm W.K H a vs):gz X.K H a vs:=by
 rw [hK] at h;rcases h with h|⟨ay,n,h1,h2,h3⟩
 ·exact .inl h
 ·exact .inr ⟨_,ay,n,h1,rfl,rfl,rfl,h2,h3⟩
theorem jf{aa:List (Addr×Obj)}{σ:St}{s:Shared}(I:Inv X aa σ H s){a:Addr}{vs us:List V}(h1:f6 X.K H a vs)(h2:gz X.K H a us):False:=by
 obtain⟨ay,_,⟨o,e,hc,_⟩,_⟩:=I.tuple h1
 obtain⟨aG,_,⟨o2,n,e2,hc2,_⟩,_⟩:=I.list h2
 rw [e] at e2;cases e2;rw [hc] at hc2;exact absurd hc2 (by decide)
theorem vF{aa:List (Addr×Obj)}{σ:St}{s:Shared}(I:Inv X aa σ H s)(hK:W.K=X.K)(sg:aC G H):∀(n:Nat) {p q:PV} {v:V},plain n p=true->plain n q=true->Top W H0 G H p v->Top W H0 G H q v->ip n p q=true:=by
 intro n
 induction n with
 |zero=>
  intro p q v hp hq h1 h2;cases p with
  |az=>
   cases h1.az;cases q with
   |az=>cases h2.az;rfl
   |bl y=>cases h2.bl
   |int y=>cases h2.int
   |str y=>cases h2.str
   |exc c=>exact aA hq
   |aP a b=>exact aA hq
   |tup xs=>exact aA hq
   |lst xs=>exact aA hq
  |bl x=>
   cases h1.bl;cases q with
   |az=>cases h2.az
   |bl y=>cases h2.bl;exact beq_self_eq_true _
   |int y=>cases h2.int
   |str y=>cases h2.str
   |exc c=>exact aA hq
   |aP a b=>exact aA hq
   |tup xs=>exact aA hq
   |lst xs=>exact aA hq
  |int x=>
   cases h1.int;cases q with
   |az=>cases h2.az
   |bl y=>cases h2.bl
   |int y=>cases h2.int;exact beq_self_eq_true _
   |str y=>cases h2.str
   |exc c=>exact aA hq
   |aP a b=>exact aA hq
   |tup xs=>exact aA hq
   |lst xs=>exact aA hq
  |str x=>
   cases h1.str;cases q with
   |az=>cases h2.az
   |bl y=>cases h2.bl
   |int y=>cases h2.int
   |str y=>cases h2.str;exact beq_self_eq_true _
   |exc c=>exact aA hq
   |aP a b=>exact aA hq
   |tup xs=>exact aA hq
   |lst xs=>exact aA hq
  |exc c=>exact aA hp
  |aP a b=>exact aA hp
  |tup xs=>exact aA hp
  |lst xs=>exact aA hp
 |succ n ih=>
  intro p q v hp hq h1 h2;have el:∀{xs ys:List PV} {vs:List V},xs.all (plain n)=true->ys.all (plain n)=true->aj W G xs vs->aj W G ys vs->eqs (ip n) xs ys=true:=λ{xs ys vs} a1 a2 l1 l2=>
   rH (by rw [<-l1.length,l2.length]) λj x y ex ey=>by
    obtain⟨u,eu,ku⟩:=l1.nA ex
    obtain⟨y',ey',ky⟩:=l2.get eu
    rw [ey] at ey';cases ey';exact ih (zzT.mp a1 _ (zzD ex)) (zzT.mp a2 _ (zzD ey)) (.inl ku) (.inl ky)
  cases p with
  |exc c=>exact aA hp
  |aP a b=>exact aA hp
  |tup xs=>
   obtain⟨a,vs,rfl,sq,l⟩:=h1.tup sg
   rw [hK] at sq;cases q with
   |exc c=>exact aA hq
   |aP a b=>exact aA hq
   |az=>cases h2.az
   |bl b=>cases h2.bl
   |int b=>cases h2.int
   |str b=>cases h2.str
   |lst ys=>
    obtain⟨b,us,e,sq20,l2⟩:=h2.lst sg
    have bu:=eU hK sq20
    cases e;exact(jf I sq bu).elim
   |tup ys=>
    obtain⟨b,us,e,bu,l2⟩:=h2.tup sg
    rw [hK] at bu;cases e;cases I.j7 sq bu;exact el hp hq l l2
  |lst xs=>
   obtain⟨a,vs,rfl,sq0,l⟩:=h1.lst sg
   have sq:=eU hK sq0
   cases q with
   |exc c=>exact aA hq
   |aP a b=>exact aA hq
   |az=>cases h2.az
   |bl b=>cases h2.bl
   |int b=>cases h2.int
   |str b=>cases h2.str
   |tup ys=>
    obtain⟨b,us,e,bu,l2⟩:=h2.tup sg
    rw [hK] at bu;cases e;exact(jf I bu sq).elim
   |lst ys=>
    obtain⟨b,us,e,sq20,l2⟩:=h2.lst sg
    have bu:=eU hK sq20
    cases e;cases I.mf sq bu;exact el hp hq l l2
  |az=>
   cases h1.az;cases q with
   |az=>cases h2.az;rfl
   |bl y=>cases h2.bl
   |int y=>cases h2.int
   |str y=>cases h2.str
   |tup ys=>obtain⟨b,us,e,_⟩:=h2.tup sg;cases e
   |lst ys=>obtain⟨b,us,e,_⟩:=h2.lst sg;cases e
   |exc c=>exact aA hq
   |aP a b=>exact aA hq
  |bl x=>
   cases h1.bl;cases q with
   |az=>cases h2.az
   |bl y=>cases h2.bl;exact beq_self_eq_true _
   |int y=>cases h2.int
   |str y=>cases h2.str
   |tup ys=>obtain⟨b,us,e,_⟩:=h2.tup sg;cases e
   |lst ys=>obtain⟨b,us,e,_⟩:=h2.lst sg;cases e
   |exc c=>exact aA hq
   |aP a b=>exact aA hq
  |int x=>
   cases h1.int;cases q with
   |az=>cases h2.az
   |bl y=>cases h2.bl
   |int y=>cases h2.int;exact beq_self_eq_true _
   |str y=>cases h2.str
   |tup ys=>obtain⟨b,us,e,_⟩:=h2.tup sg;cases e
   |lst ys=>obtain⟨b,us,e,_⟩:=h2.lst sg;cases e
   |exc c=>exact aA hq
   |aP a b=>exact aA hq
  |str x=>
   cases h1.str;cases q with
   |az=>cases h2.az
   |bl y=>cases h2.bl
   |int y=>cases h2.int
   |str y=>cases h2.str;exact beq_self_eq_true _
   |tup ys=>obtain⟨b,us,e,_⟩:=h2.tup sg;cases e
   |lst ys=>obtain⟨b,us,e,_⟩:=h2.lst sg;cases e
   |exc c=>exact aA hq
   |aP a b=>exact aA hq
theorem jj{aa:List (Addr×Obj)}{σ:St}{s:Shared}{A:Around}{p q:PV}{v u:V}{v' u':Value}(hp:plain 0 p=true)(hq:plain 0 q=true)(h1:Top W H0 G H p v)(h2:Top W H0 G H q u)(r1:RelV v v')(r2:RelV u u')(n:Nat):SeqAt.EqAt A s v' u' (ip n p q):=by
 cases p with
 |az=>
  cases h1.az;cases r1;cases q with
  |az=>cases h2.az;cases r2;cases n<;>exact SeqAt.EqAt.same _
  |bl y=>cases h2.bl;cases r2;cases n<;>exact SeqAt.EqAt.none_bool _
  |int y=>cases h2.int;obtain⟨t2,rfl⟩:=r2;cases n<;>exact SeqAt.EqAt.none_int _ _
  |str y=>cases h2.str;obtain⟨t2,rfl⟩:=r2;cases n<;>exact SeqAt.EqAt.none_str _ _
  |exc c=>exact aA hq
  |aP a b=>exact aA hq
  |tup xs=>exact aA hq
  |lst xs=>exact aA hq
 |bl x=>
  cases h1.bl;cases r1;cases q with
  |az=>cases h2.az;cases r2;cases n<;>exact SeqAt.EqAt.bool_none _
  |bl y=>cases h2.bl;cases r2;cases n<;>exact SeqAt.EqAt.bool_bool _ _
  |int y=>cases h2.int;obtain⟨t2,rfl⟩:=r2;cases n<;>exact SeqAt.EqAt.bool_int _ _ _
  |str y=>cases h2.str;obtain⟨t2,rfl⟩:=r2;cases n<;>exact SeqAt.EqAt.bool_str _ _ _
  |exc c=>exact aA hq
  |aP a b=>exact aA hq
  |tup xs=>exact aA hq
  |lst xs=>exact aA hq
 |int x=>
  cases h1.int;obtain⟨t1,rfl⟩:=r1
  cases q with
  |az=>cases h2.az;cases r2;cases n<;>exact SeqAt.EqAt.int_none _ _
  |bl y=>cases h2.bl;cases r2;cases n<;>exact SeqAt.EqAt.int_bool _ _ _
  |int y=>cases h2.int;obtain⟨t2,rfl⟩:=r2;cases n<;>exact SeqAt.EqAt.int_int _ _ _ _
  |str y=>cases h2.str;obtain⟨t2,rfl⟩:=r2;cases n<;>exact SeqAt.EqAt.int_str _ _ _ _
  |exc c=>exact aA hq
  |aP a b=>exact aA hq
  |tup xs=>exact aA hq
  |lst xs=>exact aA hq
 |str x=>
  cases h1.str;obtain⟨t1,rfl⟩:=r1
  cases q with
  |az=>cases h2.az;cases r2;cases n<;>exact SeqAt.EqAt.str_none _ _
  |bl y=>cases h2.bl;cases r2;cases n<;>exact SeqAt.EqAt.str_bool _ _ _
  |int y=>cases h2.int;obtain⟨t2,rfl⟩:=r2;cases n<;>exact SeqAt.EqAt.str_int _ _ _ _
  |str y=>cases h2.str;obtain⟨t2,rfl⟩:=r2;cases n<;>exact SeqAt.EqAt.str_str _ _ _ _
  |exc c=>exact aA hq
  |aP a b=>exact aA hq
  |tup xs=>exact aA hq
  |lst xs=>exact aA hq
 |exc c=>exact aA hp
 |aP a b=>exact aA hp
 |tup xs=>exact aA hp
 |lst xs=>exact aA hp
theorem zL{aa:List (Addr×Obj)}{σ:St}{s:Shared}(I:Inv X aa σ H s)(hK:W.K=X.K)(sg:aC G H):∀(n:Nat) {A:Around} {p q:PV} {v u:V} {v' u':Value},A.units+(n+1)<cLine->plain n p=true->plain n q=true->Top W H0 G H p v->Top W H0 G H q u->RelV v v'->RelV u u'->
 SeqAt.EqAt A s v' u' (ip n p q):=by
 intro n
 induction n with
 |zero=>
  intro A p q v u v' u' hu hp hq h1 h2 r1 r2;exact jj (aa:=aa) (σ:=σ) hp hq h1 h2 r1 r2 0
 |succ n ih=>
  intro A p q v u v' u' hu hp hq h1 h2 r1 r2;have cZ:A.units<cLine:=by omega
  have el:∀{xs ys:List PV} {vs us:List V} {ay aG:List Value},xs.all (plain n)=true->ys.all (plain n)=true->aj W G xs vs->aj W G ys us->Vals vs ay->Vals us aG->∀j (h1:j<ay.toArray.size) (h2:j<aG.toArray.size),
   SeqAt.EqAt A.in1 s ay.toArray[j] aG.toArray[j] (ip n (xs.getD j .az) (ys.getD j .az)):=λ{xs ys vs us ay aG} a1 a2 l1 l2 q1 q2 j g1 g2=>by
   obtain⟨x,hx,rx⟩:=j5 q1 g1
   obtain⟨y,hy,ry⟩:=j5 q2 g2
   obtain⟨px,ex,kx⟩:=l1.get hx
   obtain⟨py,ey,ky⟩:=l2.get hy
   rw [zzK,zzK,ex,ey];exact ih (by show A.units+1+(n+1)<_;omega) (zzT.mp a1 _ (zzD ex)) (zzT.mp a2 _ (zzD ey)) (.inl kx) (.inl ky) rx ry
  cases p with
  |exc c=>exact aA hp
  |aP a b=>exact aA hp
  |tup xs=>
   have pF:=h1
   obtain⟨a,vs,rfl,sq,l⟩:=h1.tup sg
   rw [hK] at sq;cases r1;obtain⟨ay,q1,z1,_⟩:=I.tuple sq
   have gy:s.heap.IsTuple a ay.toArray:=z1
   cases q with
   |exc c=>exact aA hq
   |aP a b=>exact aA hq
   |az=>cases h2.az;cases r2;exact SeqAt.EqAt.tuple_none gy cZ
   |bl b=>cases h2.bl;cases r2;exact SeqAt.EqAt.tuple_bool _ gy cZ
   |int b=>cases h2.int;obtain⟨t2,rfl⟩:=r2;exact SeqAt.EqAt.tuple_int _ _ gy cZ
   |str b=>cases h2.str;obtain⟨t2,rfl⟩:=r2;exact SeqAt.EqAt.tuple_str _ _ gy cZ
   |lst ys=>
    obtain⟨b,us,rfl,sq20,l2⟩:=h2.lst sg
    have bu:=eU hK sq20
    cases r2;obtain⟨aG,q2,z2,_⟩:=I.list bu
    exact SeqAt.EqAt.tuple_list gy z2.isList cZ
   |tup ys=>
    have tJ:=h2
    obtain⟨b,us,rfl,bu,l2⟩:=h2.tup sg
    rw [hK] at bu;cases r2;obtain⟨aG,q2,z2,_⟩:=I.tuple bu
    have m1:ay.length=xs.length:=by rw [<-q1.length,l.length]
    have m2:aG.length=ys.length:=by rw [<-q2.length,l2.length]
    by_cases qM:a=b
    ·subst qM;rw [vF I hK sg (n+1) hp hq pF tJ];exact SeqAt.EqAt.same _
    ·refine SeqAt.EqAt.of_refs qM ?_;have:=SeqAt.RcAt.tuples (e:=λj=>ip n (xs.getD j .az) (ys.getD j .az)) gy (show s.heap.IsTuple b aG.toArray from z2) cZ (el hp hq l l2 q1 q2)
     rw [zzC,zzC,m1,m2,jV] at this;exact this
  |lst xs=>
   have pF:=h1
   obtain⟨a,vs,rfl,sq0,l⟩:=h1.lst sg
   have sq:=eU hK sq0
   cases r1;obtain⟨ay,q1,z1,_⟩:=I.list sq
   cases q with
   |exc c=>exact aA hq
   |aP a b=>exact aA hq
   |az=>cases h2.az;cases r2;exact SeqAt.EqAt.list_none z1.isList cZ
   |bl b=>cases h2.bl;cases r2;exact SeqAt.EqAt.list_bool _ z1.isList cZ
   |int b=>cases h2.int;obtain⟨t2,rfl⟩:=r2;exact SeqAt.EqAt.list_int _ _ z1.isList cZ
   |str b=>cases h2.str;obtain⟨t2,rfl⟩:=r2;exact SeqAt.EqAt.list_str _ _ z1.isList cZ
   |tup ys=>
    obtain⟨b,us,rfl,bu,l2⟩:=h2.tup sg
    rw [hK] at bu;cases r2;obtain⟨aG,q2,z2,_⟩:=I.tuple bu
    exact SeqAt.EqAt.list_tuple z1.isList (show s.heap.IsTuple b aG.toArray from z2) cZ
   |lst ys=>
    have tJ:=h2
    obtain⟨b,us,rfl,sq20,l2⟩:=h2.lst sg
    have bu:=eU hK sq20
    cases r2;obtain⟨aG,q2,z2,_⟩:=I.list bu
    have m1:ay.length=xs.length:=by rw [<-q1.length,l.length]
    have m2:aG.length=ys.length:=by rw [<-q2.length,l2.length]
    by_cases qM:a=b
    ·subst qM;rw [vF I hK sg (n+1) hp hq pF tJ];exact SeqAt.EqAt.same _
    ·refine SeqAt.EqAt.of_refs qM ?_
     by_cases hl:xs.length=ys.length
     ·have:=SeqAt.RcAt.lists (e:=λj=>ip n (xs.getD j .az) (ys.getD j .az)) z1.isList z2.isList (by rw [zzC,zzC];omega) cZ (el hp hq l l2 q1 q2)
      rw [zzC,m1,<-jo hl] at this;exact this
     ·have:=SeqAt.RcAt.lists_lengths z1.isList z2.isList (by rw [zzC,zzC,m1,m2];simp [hl]) cZ
      show SeqAt.RcAt _ _ _ _ (eqs (ip n) xs ys)
      rw [iR hl];exact this
  |az=>
   have pF:=h1
   cases h1.az;cases r1;cases q with
   |tup ys=>
    obtain⟨b,us,rfl,bu,l2⟩:=h2.tup sg
    rw [hK] at bu;cases r2;obtain⟨aG,q2,z2,_⟩:=I.tuple bu
    exact SeqAt.EqAt.none_tuple (show s.heap.IsTuple b aG.toArray from z2) cZ
   |lst ys=>
    obtain⟨b,us,rfl,sq20,l2⟩:=h2.lst sg
    have bu:=eU hK sq20
    cases r2;obtain⟨aG,q2,z2,_⟩:=I.list bu
    exact SeqAt.EqAt.none_list z2.isList cZ
   |exc c=>exact aA hq
   |aP a b=>exact aA hq
   |_=>exact jj (aa:=aa) (σ:=σ) rfl rfl pF h2 rfl r2 (n+1)
  |bl x=>
   have pF:=h1
   cases h1.bl;cases r1;cases q with
   |tup ys=>
    obtain⟨b,us,rfl,bu,l2⟩:=h2.tup sg
    rw [hK] at bu;cases r2;obtain⟨aG,q2,z2,_⟩:=I.tuple bu
    exact SeqAt.EqAt.bool_tuple _ (show s.heap.IsTuple b aG.toArray from z2) cZ
   |lst ys=>
    obtain⟨b,us,rfl,sq20,l2⟩:=h2.lst sg
    have bu:=eU hK sq20
    cases r2;obtain⟨aG,q2,z2,_⟩:=I.list bu
    exact SeqAt.EqAt.bool_list _ z2.isList cZ
   |exc c=>exact aA hq
   |aP a b=>exact aA hq
   |_=>exact jj (aa:=aa) (σ:=σ) rfl rfl pF h2 rfl r2 (n+1)
  |int x=>
   have pF:=h1
   have P8:=r1
   cases h1.int;obtain⟨t,rfl⟩:=r1
   cases q with
   |tup ys=>
    obtain⟨b,us,rfl,bu,l2⟩:=h2.tup sg
    rw [hK] at bu;cases r2;obtain⟨aG,q2,z2,_⟩:=I.tuple bu
    exact SeqAt.EqAt.int_tuple _ _ (show s.heap.IsTuple b aG.toArray from z2) cZ
   |lst ys=>
    obtain⟨b,us,rfl,sq20,l2⟩:=h2.lst sg
    have bu:=eU hK sq20
    cases r2;obtain⟨aG,q2,z2,_⟩:=I.list bu
    exact SeqAt.EqAt.int_list _ _ z2.isList cZ
   |exc c=>exact aA hq
   |aP a b=>exact aA hq
   |_=>exact jj (aa:=aa) (σ:=σ) rfl rfl pF h2 P8 r2 (n+1)
  |str x=>
   have pF:=h1
   have P8:=r1
   cases h1.str;obtain⟨t,rfl⟩:=r1
   cases q with
   |tup ys=>
    obtain⟨b,us,rfl,bu,l2⟩:=h2.tup sg
    rw [hK] at bu;cases r2;obtain⟨aG,q2,z2,_⟩:=I.tuple bu
    exact SeqAt.EqAt.str_tuple _ _ (show s.heap.IsTuple b aG.toArray from z2) cZ
   |lst ys=>
    obtain⟨b,us,rfl,sq20,l2⟩:=h2.lst sg
    have bu:=eU hK sq20
    cases r2;obtain⟨aG,q2,z2,_⟩:=I.list bu
    exact SeqAt.EqAt.str_list _ _ z2.isList cZ
   |exc c=>exact aA hq
   |aP a b=>exact aA hq
   |_=>exact jj (aa:=aa) (σ:=σ) rfl rfl pF h2 P8 r2 (n+1)
end
section
variable{X:Cx}{W:Wd}{H0 G H:Hp}
theorem Mo{aa:List (Addr×Obj)}{σ:St}{s:Shared}(I:Inv X aa σ H s)(hK:W.K=X.K)(sg:aC G H)(n:Nat){A:Around}{p q:PV}{v u:V}{v' u':Value}(hu:A.units+(n+2)<cLine)(hp:plain (n+1) p=true)(hq:plain (n+1) q=true)(h1:Top W H0 G H p v)(h2:Top W H0 G H q u)(r1:RelV v v')(r2:RelV u u'):
 SeqAt.RcAt A s v' u' (ip (n+1) p q):=by
 have cZ:A.units<cLine:=by omega
 have el:∀{xs ys:List PV} {vs us:List V} {ay aG:List Value},xs.all (plain n)=true->ys.all (plain n)=true->aj W G xs vs->aj W G ys us->Vals vs ay->Vals us aG->∀j (h1:j<ay.toArray.size) (h2:j<aG.toArray.size),
  SeqAt.EqAt A.in1 s ay.toArray[j] aG.toArray[j] (ip n (xs.getD j .az) (ys.getD j .az)):=λ{xs ys vs us ay aG} a1 a2 l1 l2 q1 q2 j g1 g2=>by
  obtain⟨x,hx,rx⟩:=j5 q1 g1
  obtain⟨y,hy,ry⟩:=j5 q2 g2
  obtain⟨px,ex,kx⟩:=l1.get hx
  obtain⟨py,ey,ky⟩:=l2.get hy
  rw [zzK,zzK,ex,ey];exact zL (H0:=H0) I hK sg n (by show A.units+1+(n+1)<_;omega) (zzT.mp a1 _ (zzD ex)) (zzT.mp a2 _ (zzD ey)) (.inl kx) (.inl ky) rx ry
 cases p with
 |az=>
  cases h1.az;cases r1;cases q with
  |az=>cases h2.az;cases r2;exact SeqAt.RcAt.none_none
  |bl y=>cases h2.bl;cases r2;exact SeqAt.RcAt.none_bool _
  |int y=>cases h2.int;obtain⟨t2,rfl⟩:=r2;exact SeqAt.RcAt.none_int _ _
  |str y=>cases h2.str;obtain⟨t2,rfl⟩:=r2;exact SeqAt.RcAt.none_str _ _
  |tup ys=>
   obtain⟨b,us,rfl,bu,l2⟩:=h2.tup sg
   rw [hK] at bu;cases r2;obtain⟨aG,q2,z2,_⟩:=I.tuple bu
   exact SeqAt.RcAt.none_tuple (show s.heap.IsTuple b aG.toArray from z2) cZ
  |lst ys=>
   obtain⟨b,us,rfl,bu,l2⟩:=h2.lst sg
   cases r2;obtain⟨aG,q2,z2,_⟩:=I.list (eU hK bu)
   exact SeqAt.RcAt.none_list z2.isList cZ
  |exc c=>exact aA hq
  |aP a b=>exact aA hq
 |bl x=>
  cases h1.bl;cases r1;cases q with
  |az=>cases h2.az;cases r2;exact SeqAt.RcAt.bool_none _
  |bl y=>cases h2.bl;cases r2;exact SeqAt.RcAt.bool_bool _ _
  |int y=>cases h2.int;obtain⟨t2,rfl⟩:=r2;exact SeqAt.RcAt.bool_int _ _ _
  |str y=>cases h2.str;obtain⟨t2,rfl⟩:=r2;exact SeqAt.RcAt.bool_str _ _ _
  |tup ys=>
   obtain⟨b,us,rfl,bu,l2⟩:=h2.tup sg
   rw [hK] at bu;cases r2;obtain⟨aG,q2,z2,_⟩:=I.tuple bu
   exact SeqAt.RcAt.bool_tuple _ (show s.heap.IsTuple b aG.toArray from z2) cZ
  |lst ys=>
   obtain⟨b,us,rfl,bu,l2⟩:=h2.lst sg
   cases r2;obtain⟨aG,q2,z2,_⟩:=I.list (eU hK bu)
   exact SeqAt.RcAt.bool_list _ z2.isList cZ
  |exc c=>exact aA hq
  |aP a b=>exact aA hq
 |int x=>
  cases h1.int;obtain⟨t1,rfl⟩:=r1
  cases q with
  |az=>cases h2.az;cases r2;exact SeqAt.RcAt.int_none _ _
  |bl y=>cases h2.bl;cases r2;exact SeqAt.RcAt.int_bool _ _ _
  |int y=>cases h2.int;obtain⟨t2,rfl⟩:=r2;exact SeqAt.RcAt.int_int _ _ _ _
  |str y=>cases h2.str;obtain⟨t2,rfl⟩:=r2;exact SeqAt.RcAt.int_str _ _ _ _
  |tup ys=>
   obtain⟨b,us,rfl,bu,l2⟩:=h2.tup sg
   rw [hK] at bu;cases r2;obtain⟨aG,q2,z2,_⟩:=I.tuple bu
   exact SeqAt.RcAt.int_tuple _ _ (show s.heap.IsTuple b aG.toArray from z2) cZ
  |lst ys=>
   obtain⟨b,us,rfl,bu,l2⟩:=h2.lst sg
   cases r2;obtain⟨aG,q2,z2,_⟩:=I.list (eU hK bu)
   exact SeqAt.RcAt.int_list _ _ z2.isList cZ
  |exc c=>exact aA hq
  |aP a b=>exact aA hq
 |str x=>
  cases h1.str;obtain⟨t1,rfl⟩:=r1
  cases q with
  |az=>cases h2.az;cases r2;exact SeqAt.RcAt.str_none _ _
  |bl y=>cases h2.bl;cases r2;exact SeqAt.RcAt.str_bool _ _ _
  |int y=>cases h2.int;obtain⟨t2,rfl⟩:=r2;exact SeqAt.RcAt.str_int _ _ _ _
  |str y=>cases h2.str;obtain⟨t2,rfl⟩:=r2;exact SeqAt.RcAt.str_str _ _ _ _
  |tup ys=>
   obtain⟨b,us,rfl,bu,l2⟩:=h2.tup sg
   rw [hK] at bu;cases r2;obtain⟨aG,q2,z2,_⟩:=I.tuple bu
   exact SeqAt.RcAt.str_tuple _ _ (show s.heap.IsTuple b aG.toArray from z2) cZ
  |lst ys=>
   obtain⟨b,us,rfl,bu,l2⟩:=h2.lst sg
   cases r2;obtain⟨aG,q2,z2,_⟩:=I.list (eU hK bu)
   exact SeqAt.RcAt.str_list _ _ z2.isList cZ
  |exc c=>exact aA hq
  |aP a b=>exact aA hq
 |tup xs=>
  obtain⟨a,vs,rfl,sq,l⟩:=h1.tup sg
  cases r1;rw [hK] at sq;obtain⟨ay,q1,z1,_⟩:=I.tuple sq
  have gy:s.heap.IsTuple a ay.toArray:=z1
  cases q with
  |az=>cases h2.az;cases r2;exact SeqAt.RcAt.tuple_none gy cZ
  |bl y=>cases h2.bl;cases r2;exact SeqAt.RcAt.tuple_bool _ gy cZ
  |int y=>cases h2.int;obtain⟨t2,rfl⟩:=r2;exact SeqAt.RcAt.tuple_int _ _ gy cZ
  |str y=>cases h2.str;obtain⟨t2,rfl⟩:=r2;exact SeqAt.RcAt.tuple_str _ _ gy cZ
  |exc c=>exact aA hq
  |aP a b=>exact aA hq
  |lst ys=>
   obtain⟨b,us,rfl,bu,l2⟩:=h2.lst sg
   cases r2;obtain⟨aG,q2,z2,_⟩:=I.list (eU hK bu)
   have pd:=z2.isList
   exact SeqAt.RcAt.tuple_list gy pd cZ
  |tup ys=>
   obtain⟨b,us,rfl,bu,l2⟩:=h2.tup sg
   cases r2;rw [hK] at bu;obtain⟨aG,q2,z2,_⟩:=I.tuple bu
   have pd:s.heap.IsTuple b aG.toArray:=z2
   have m1:ay.length=xs.length:=by rw [<-q1.length,l.length]
   have m2:aG.length=ys.length:=by rw [<-q2.length,l2.length]
   have:=SeqAt.RcAt.tuples (e:=λj=>ip n (xs.getD j .az) (ys.getD j .az)) gy pd cZ (el hp hq l l2 q1 q2)
   rw [zzC,zzC,m1,m2,jV] at this;exact this
 |lst xs=>
  obtain⟨a,vs,rfl,sq,l⟩:=h1.lst sg
  cases r1;obtain⟨ay,q1,z1,_⟩:=I.list (eU hK sq)
  have gy:=z1.isList
  cases q with
  |az=>cases h2.az;cases r2;exact SeqAt.RcAt.list_none gy cZ
  |bl y=>cases h2.bl;cases r2;exact SeqAt.RcAt.list_bool _ gy cZ
  |int y=>cases h2.int;obtain⟨t2,rfl⟩:=r2;exact SeqAt.RcAt.list_int _ _ gy cZ
  |str y=>cases h2.str;obtain⟨t2,rfl⟩:=r2;exact SeqAt.RcAt.list_str _ _ gy cZ
  |exc c=>exact aA hq
  |aP a b=>exact aA hq
  |tup ys=>
   obtain⟨b,us,rfl,bu,l2⟩:=h2.tup sg
   cases r2;rw [hK] at bu;obtain⟨aG,q2,z2,_⟩:=I.tuple bu
   have pd:s.heap.IsTuple b aG.toArray:=z2
   exact SeqAt.RcAt.list_tuple gy pd cZ
  |lst ys=>
   obtain⟨b,us,rfl,bu,l2⟩:=h2.lst sg
   cases r2;obtain⟨aG,q2,z2,_⟩:=I.list (eU hK bu)
   have pd:=z2.isList
   have m1:ay.length=xs.length:=by rw [<-q1.length,l.length]
   have m2:aG.length=ys.length:=by rw [<-q2.length,l2.length]
   by_cases hl:xs.length=ys.length
   ·have:=SeqAt.RcAt.lists (e:=λj=>ip n (xs.getD j .az) (ys.getD j .az)) gy pd (by rw [zzC,zzC];omega) cZ (el hp hq l l2 q1 q2)
    rw [zzC,m1,<-jo hl] at this;exact this
   ·have:=SeqAt.RcAt.lists_lengths gy pd (by rw [zzC,zzC,m1,m2];simp [hl]) cZ
    show SeqAt.RcAt _ _ _ _ (eqs (ip n) xs ys)
    rw [iR hl];exact this
 |exc c=>exact aA hp
 |aP a b=>exact aA hp
theorem Fq{aa:List (Addr×Obj)}{σ:St}{s:Shared}(I:Inv X aa σ H s)(hK:W.K=X.K)(sg:aC G H)(n:Nat){A:Around}{p q:PV}{v u:V}{v' u':Value}(hu:A.units+(n+2)<cLine)(hp:plain (n+1) p=true)(hq:plain (n+1) q=true)(h1:Top W H0 G H p v)(h2:Top W H0 G H q u)(r1:RelV v v')(r2:RelV u u'):
 SeqAt.RcNeAt A s v' u' (!ip (n+1) p q):=by
 have cZ:A.units<cLine:=by omega
 have el:∀{xs ys:List PV} {vs us:List V} {ay aG:List Value},xs.all (plain n)=true->ys.all (plain n)=true->aj W G xs vs->aj W G ys us->Vals vs ay->Vals us aG->∀j (h1:j<ay.toArray.size) (h2:j<aG.toArray.size),
  SeqAt.EqAt A.in1 s ay.toArray[j] aG.toArray[j] (ip n (xs.getD j .az) (ys.getD j .az)):=λ{xs ys vs us ay aG} a1 a2 l1 l2 q1 q2 j g1 g2=>by
  obtain⟨x,hx,rx⟩:=j5 q1 g1
  obtain⟨y,hy,ry⟩:=j5 q2 g2
  obtain⟨px,ex,kx⟩:=l1.get hx
  obtain⟨py,ey,ky⟩:=l2.get hy
  rw [zzK,zzK,ex,ey];exact zL (H0:=H0) I hK sg n (by show A.units+1+(n+1)<_;omega) (zzT.mp a1 _ (zzD ex)) (zzT.mp a2 _ (zzD ey)) (.inl kx) (.inl ky) rx ry
 cases p with
 |az=>
  cases h1.az;cases r1;cases q with
  |az=>cases h2.az;cases r2;exact SeqAt.RcNeAt.none_none
  |bl y=>cases h2.bl;cases r2;exact SeqAt.RcNeAt.none_bool _
  |int y=>cases h2.int;obtain⟨t2,rfl⟩:=r2;exact SeqAt.RcNeAt.none_int _ _
  |str y=>cases h2.str;obtain⟨t2,rfl⟩:=r2;exact SeqAt.RcNeAt.none_str _ _
  |tup ys=>
   obtain⟨b,us,rfl,bu,l2⟩:=h2.tup sg
   rw [hK] at bu;cases r2;obtain⟨aG,q2,z2,_⟩:=I.tuple bu
   exact SeqAt.RcNeAt.none_tuple (show s.heap.IsTuple b aG.toArray from z2) cZ
  |lst ys=>
   obtain⟨b,us,rfl,bu,l2⟩:=h2.lst sg
   cases r2;obtain⟨aG,q2,z2,_⟩:=I.list (eU hK bu)
   exact SeqAt.RcNeAt.none_list z2.isList cZ
  |exc c=>exact aA hq
  |aP a b=>exact aA hq
 |bl x=>
  cases h1.bl;cases r1;cases q with
  |az=>cases h2.az;cases r2;exact SeqAt.RcNeAt.bool_none _
  |bl y=>cases h2.bl;cases r2;exact SeqAt.RcNeAt.bool_bool _ _
  |int y=>cases h2.int;obtain⟨t2,rfl⟩:=r2;exact SeqAt.RcNeAt.bool_int _ _ _
  |str y=>cases h2.str;obtain⟨t2,rfl⟩:=r2;exact SeqAt.RcNeAt.bool_str _ _ _
  |tup ys=>
   obtain⟨b,us,rfl,bu,l2⟩:=h2.tup sg
   rw [hK] at bu;cases r2;obtain⟨aG,q2,z2,_⟩:=I.tuple bu
   exact SeqAt.RcNeAt.bool_tuple _ (show s.heap.IsTuple b aG.toArray from z2) cZ
  |lst ys=>
   obtain⟨b,us,rfl,bu,l2⟩:=h2.lst sg
   cases r2;obtain⟨aG,q2,z2,_⟩:=I.list (eU hK bu)
   exact SeqAt.RcNeAt.bool_list _ z2.isList cZ
  |exc c=>exact aA hq
  |aP a b=>exact aA hq
 |int x=>
  cases h1.int;obtain⟨t1,rfl⟩:=r1
  cases q with
  |az=>cases h2.az;cases r2;exact SeqAt.RcNeAt.int_none _ _
  |bl y=>cases h2.bl;cases r2;exact SeqAt.RcNeAt.int_bool _ _ _
  |int y=>cases h2.int;obtain⟨t2,rfl⟩:=r2;exact SeqAt.RcNeAt.int_int _ _ _ _
  |str y=>cases h2.str;obtain⟨t2,rfl⟩:=r2;exact SeqAt.RcNeAt.int_str _ _ _ _
  |tup ys=>
   obtain⟨b,us,rfl,bu,l2⟩:=h2.tup sg
   rw [hK] at bu;cases r2;obtain⟨aG,q2,z2,_⟩:=I.tuple bu
   exact SeqAt.RcNeAt.int_tuple _ _ (show s.heap.IsTuple b aG.toArray from z2) cZ
  |lst ys=>
   obtain⟨b,us,rfl,bu,l2⟩:=h2.lst sg
   cases r2;obtain⟨aG,q2,z2,_⟩:=I.list (eU hK bu)
   exact SeqAt.RcNeAt.int_list _ _ z2.isList cZ
  |exc c=>exact aA hq
  |aP a b=>exact aA hq
 |str x=>
  cases h1.str;obtain⟨t1,rfl⟩:=r1
  cases q with
  |az=>cases h2.az;cases r2;exact SeqAt.RcNeAt.str_none _ _
  |bl y=>cases h2.bl;cases r2;exact SeqAt.RcNeAt.str_bool _ _ _
  |int y=>cases h2.int;obtain⟨t2,rfl⟩:=r2;exact SeqAt.RcNeAt.str_int _ _ _ _
  |str y=>cases h2.str;obtain⟨t2,rfl⟩:=r2;exact SeqAt.RcNeAt.str_str _ _ _ _
  |tup ys=>
   obtain⟨b,us,rfl,bu,l2⟩:=h2.tup sg
   rw [hK] at bu;cases r2;obtain⟨aG,q2,z2,_⟩:=I.tuple bu
   exact SeqAt.RcNeAt.str_tuple _ _ (show s.heap.IsTuple b aG.toArray from z2) cZ
  |lst ys=>
   obtain⟨b,us,rfl,bu,l2⟩:=h2.lst sg
   cases r2;obtain⟨aG,q2,z2,_⟩:=I.list (eU hK bu)
   exact SeqAt.RcNeAt.str_list _ _ z2.isList cZ
  |exc c=>exact aA hq
  |aP a b=>exact aA hq
 |tup xs=>
  obtain⟨a,vs,rfl,sq,l⟩:=h1.tup sg
  cases r1;rw [hK] at sq;obtain⟨ay,q1,z1,_⟩:=I.tuple sq
  have gy:s.heap.IsTuple a ay.toArray:=z1
  cases q with
  |az=>cases h2.az;cases r2;exact SeqAt.RcNeAt.tuple_none gy cZ
  |bl y=>cases h2.bl;cases r2;exact SeqAt.RcNeAt.tuple_bool _ gy cZ
  |int y=>cases h2.int;obtain⟨t2,rfl⟩:=r2;exact SeqAt.RcNeAt.tuple_int _ _ gy cZ
  |str y=>cases h2.str;obtain⟨t2,rfl⟩:=r2;exact SeqAt.RcNeAt.tuple_str _ _ gy cZ
  |exc c=>exact aA hq
  |aP a b=>exact aA hq
  |lst ys=>
   obtain⟨b,us,rfl,bu,l2⟩:=h2.lst sg
   cases r2;obtain⟨aG,q2,z2,_⟩:=I.list (eU hK bu)
   have pd:=z2.isList
   exact SeqAt.RcNeAt.tuple_list gy pd cZ
  |tup ys=>
   obtain⟨b,us,rfl,bu,l2⟩:=h2.tup sg
   cases r2;rw [hK] at bu;obtain⟨aG,q2,z2,_⟩:=I.tuple bu
   have pd:s.heap.IsTuple b aG.toArray:=z2
   have m1:ay.length=xs.length:=by rw [<-q1.length,l.length]
   have m2:aG.length=ys.length:=by rw [<-q2.length,l2.length]
   have:=SeqAt.RcNeAt.tuples (e:=λj=>ip n (xs.getD j .az) (ys.getD j .az)) gy pd cZ (el hp hq l l2 q1 q2)
   rw [zzC,zzC,m1,m2,jV] at this;exact this
 |lst xs=>
  obtain⟨a,vs,rfl,sq,l⟩:=h1.lst sg
  cases r1;obtain⟨ay,q1,z1,_⟩:=I.list (eU hK sq)
  have gy:=z1.isList
  cases q with
  |az=>cases h2.az;cases r2;exact SeqAt.RcNeAt.list_none gy cZ
  |bl y=>cases h2.bl;cases r2;exact SeqAt.RcNeAt.list_bool _ gy cZ
  |int y=>cases h2.int;obtain⟨t2,rfl⟩:=r2;exact SeqAt.RcNeAt.list_int _ _ gy cZ
  |str y=>cases h2.str;obtain⟨t2,rfl⟩:=r2;exact SeqAt.RcNeAt.list_str _ _ gy cZ
  |exc c=>exact aA hq
  |aP a b=>exact aA hq
  |tup ys=>
   obtain⟨b,us,rfl,bu,l2⟩:=h2.tup sg
   cases r2;rw [hK] at bu;obtain⟨aG,q2,z2,_⟩:=I.tuple bu
   have pd:s.heap.IsTuple b aG.toArray:=z2
   exact SeqAt.RcNeAt.list_tuple gy pd cZ
  |lst ys=>
   obtain⟨b,us,rfl,bu,l2⟩:=h2.lst sg
   cases r2;obtain⟨aG,q2,z2,_⟩:=I.list (eU hK bu)
   have pd:=z2.isList
   have m1:ay.length=xs.length:=by rw [<-q1.length,l.length]
   have m2:aG.length=ys.length:=by rw [<-q2.length,l2.length]
   by_cases hl:xs.length=ys.length
   ·have:=SeqAt.RcNeAt.lists (e:=λj=>ip n (xs.getD j .az) (ys.getD j .az)) gy pd (by rw [zzC,zzC];omega) cZ (el hp hq l l2 q1 q2)
    rw [zzC,m1,<-jo hl] at this;exact this
   ·have:=SeqAt.RcNeAt.lists_lengths gy pd (by rw [zzC,zzC,m1,m2];simp [hl]) cZ
    show SeqAt.RcNeAt _ _ _ _ (!eqs (ip n) xs ys)
    rw [iR hl];exact this
 |exc c=>exact aA hp
 |aP a b=>exact aA hp
end
section
variable{X:Cx}{W:Wd}
theorem ug(hK:W.K=X.K){aa:List (Addr×Obj)}{σ:St}{H:Hp}{s:Shared}{a:Addr}{xs:List V}(I:Inv X aa σ H s)(h:qm W.K H a xs):∃(ay:List Value) (n:Nat),Vals xs ay/\xs.length=ay.length/\xs.length<=sizeLine/\s.heap.get? a=some {cls:=.type "list",data:=.seq ay.toArray n}:=by
 rw [hK] at h;rcases h with h|⟨ay,n,h1,h2,h3⟩
 ·obtain⟨z,ay,n,r,e⟩:=h.ok I.aQ
  exact⟨ay,n,r,r.length,z,e⟩
 ·refine⟨ay.toList,n,h3,h3.length,?_,by simpa using I.oD a _ h1⟩;rw [h3.length,zzd];exact h2
theorem FJ(hK:W.K=X.K):gu X (binaryOp .Add) (λx y H Q=>∃l b xs zs,x=.ref l/\y=.ref b/\qm W.K H l xs/\qm W.K H b zs/\xs.length+zs.length<=sizeLine/\∀p,H p=none->Q (.ref p) (upd H p (.lst (xs++zs)))):=by
 intro aa s σ H x y v u Q I rx ry h;obtain⟨l,b,xs,zs,rfl,rfl,hH,hB,hz,q⟩:=h
 cases rx;cases ry;obtain⟨ay,n,r,hl,_,e⟩:=ug hK I hH
 obtain⟨aG,n2,r2,Q0,_,e2⟩:=ug hK I hB
 refine PySem.P.add_list e e2 ?_ (by rw [zzC,zzC];omega);have ea:ay.toArray++aG.toArray=(ay++aG).toArray:=by simp
 rw [ea];exact⟨.ref _,_,I.N2 (t':=s.toks) (r.append r2) (by rw [zzM];omega),rfl,q _ I.fresh⟩
theorem Ds(hK:W.K=X.K):gu X (binaryOp .Mult) (λx y H Q=>∃l k xs,x=.ref l/\y=.int k/\qm W.K H l xs/\0<=k/\k<1000/\xs.length<1000/\∀p,H p=none->Q (.ref p) (upd H p (.lst (List.replicate k.toNat xs).flatten))):=by
 intro aa s σ H x y v u Q I rx ry h;obtain⟨l,k,xs,rfl,rfl,hH,h1,h2,h3,q⟩:=h
 cases rx;obtain⟨t,rfl⟩:=ry
 obtain⟨ay,n,r,hl,_,e⟩:=ug hK I hH
 have hz:xs.length*k.toNat<=sizeLine:=by
  have:xs.length*k.toNat<=1000*1000:=Nat.mul_le_mul (by omega) (by omega)
  have Dp:(1000000:Nat)<=sizeLine:=by decide
  omega
 have hlen:ay.toArray.size*k.toNat<=sizeLine:=by rw [zzC,<-hl];exact hz
 have IG:¬ay.toArray.size*k.toNat>(2^63-1)/8:=by
  have:(sizeLine:Nat)<=(2^63-1)/8:=by decide
  omega
 have PD:¬(!Builtin.List.listFitsIndex k)=true:=by
  rw [fitsIndex_both (by omega) (by omega)];exact zzf
 have Bp:¬Builtin.List.listTooLong (ay.toArray.size*k.toNat)=true:=by
  rw [sQ hlen];exact zzf
 have xJ:List.foldl (λx1 x2=>x1++x2) #[] (List.replicate (if ay.toArray.isEmpty=true then 0 else k.toNat) ay.toArray)=(List.replicate k.toNat ay).flatten.toArray:=by
  have f0:∀m:Nat,List.foldl (λx1 x2=>x1++x2) #[] (List.replicate m ay.toArray)=(List.replicate m ay).flatten.toArray:=λm=>by
   have:=foldl_rep ay m []
   rw [List.nil_append] at this;exact this
  rw [f0];cases ay with
  |nil=>simp
  |cons a r'=>rw [if_neg (by simp)]
 refine wpAny_binaryOp_repeat_ref (T:="list") (U:="int") (by decide) ⟨_,e,rfl⟩ (λs'=>typeIs_int s' k t) noFill_list_mul PySem.F.fills_int_mul PySem.F.slot_int_rmul repeat_list PySem.F.slot_int_index.lookup
  (call_meets PySem.F.slot_int_rmul (typeIs_int s k t) PySem.F.entry_int_rmul (PySem.F.args_int_rmul_2 _ _) (int___rmul___int_list k t l ay.toArray n)
   ⟨e,rfl,⟨_,e,rfl⟩,call_meets PySem.F.slot_list_mul ⟨_,e,rfl⟩ PySem.F.entry_list_mul (PySem.F.args_list_mul_2 _ _) (AutoListH.list___mul___list_int_3 l ay.toArray n k t PD IG Bp) ⟨e,?_⟩⟩)
 rw [xJ];exact⟨.ref _,_,I.N2 (t':=s.toks) (r.rep k.toNat) (by rw [len_rep,Nat.mul_comm];exact hz),rfl,q _ I.fresh⟩
theorem aj.rep{G:Hp}{ps:List PV}{vs:List V}(h:aj W G ps vs):∀k:Nat,aj W G (List.replicate k ps).flatten (List.replicate k vs).flatten
 |0=>.nil
 |k+1=>by
  rw [List.replicate_succ,List.replicate_succ,List.flatten_cons,List.flatten_cons];exact h.append (h.rep k)
def Nl:Hl->Operator
 |.add=>.Add|.sub=>.Sub|.mul=>.Mult|.mod=>.Mod|.fdiv=>.FloorDiv
noncomputable def tx(W:Wd)(f:PV->PV->Res PV):R2:=λx y H Q=>∃H0 G p q r,aC G H/\Top W H0 G H p x/\Top W H0 G H q y/\f p q=.ok r/\dy W G H r Q
theorem Ka(hK:W.K=X.K)(o:Hl):gu X (binaryOp (Nl o)) (tx W (binOp o)):=by
 intro aa s σ H x y v u Q I rx ry h;obtain⟨H0,G,p,q,r,sg,t1,t2,e,wq⟩:=h
 unfold binOp at e;split at e
 ·cases e;exact Lg aa s σ H x y v u Q I rx ry ⟨_,_,t1.int,t2.int,wq.at sg .i⟩
 ·split at e
  ·rename_i hl;cases e;exact vb aa s σ H x y v u Q I rx ry ⟨_,_,t1.str,t2.str,mU hl,wq.at sg .s⟩
  ·cases e
 ·split at e
  ·rename_i hl;cases e;obtain⟨a,vs,rfl,h1,l1⟩:=t1.lst sg
   obtain⟨b,us,rfl,h2,l2⟩:=t2.lst sg
   exact FJ hK aa s σ H _ _ v u Q I rx ry ⟨a,b,vs,us,rfl,rfl,h1,h2,by rw [l1.length,l2.length];exact mU hl,λp hp=>wq.lst sg (l1.append l2) hp⟩
  ·cases e
 ·cases e;exact ID aa s σ H x y v u Q I rx ry ⟨_,_,t1.int,t2.int,wq.at sg .i⟩
 ·split at e
  ·rename_i hc;cases e;refine Ju aa s σ H x y v u Q I rx ry ⟨_,_,t1.int,t2.int,?_,wq.at sg .i⟩;rw [Bool.or_eq_true] at hc;unfold aR at hc;simp only [zza,zzN] at hc;exact hc
  ·cases e
 ·split at e
  ·rename_i hc;cases e;obtain⟨a,vs,rfl,h1,l1⟩:=t1.lst sg
   exact Ds hK aa s σ H _ _ v u Q I rx ry ⟨a,_,vs,rfl,t2.int,h1,hc.1,hc.2.1,by rw [l1.length];exact hc.2.2,λp hp=>wq.lst sg (l1.rep _) hp⟩
  ·cases e
 ·split at e
  ·rename_i hc;cases e;exact HV aa s σ H x y v u Q I rx ry ⟨_,_,t1.int,t2.int,hc,wq.at sg .i⟩
  ·cases e
 ·split at e
  ·rename_i hc;cases e;exact Ej aa s σ H x y v u Q I rx ry ⟨_,_,t1.int,t2.int,hc,wq.at sg .i⟩
  ·cases e
 ·cases e
theorem Fh:O1 X (unaryOp .USub) (λx H Q=>∃(H0 G:Hp) (i:Int),aC G H/\Top W H0 G H (.int i) x/\dy W G H (.int (-i)) Q):=by
 intro aa s σ H x v Q I rx h;obtain⟨H0,G,i,sg,t,wq⟩:=h
 exact JF aa s σ H x v Q I rx ⟨i,t.int,wq.at sg .i⟩
def qK:Ab->CmpOp
 |.eq=>.Eq|.ne=>.NotEq|.lt=>.Lt|.le=>.LtE|.gt=>.Gt|.ge=>.GtE|.is=>.Is|.zj=>.IsNot|.Km=>.In|.kH=>.NotIn
theorem rh{aa:List (Addr×Obj)}{σ:St}{H G:Hp}{s:Shared}{Q:VK}{k:Bool}(I:Inv X aa σ H s)(sg:aC G H)(wq:dy W G H (.bl k) Q):EP X aa σ Q (.bool k) s:=⟨.bl k,H,I,rfl,wq.at sg .b⟩
theorem IS(hK:W.K=X.K)(hu:X.A.units+64<cLine):gu X (compareOp .Eq) (tx W fG):=by
 intro aa s σ H x y v u Q I rx ry h;obtain⟨H0,G,p,q,r,sg,t1,t2,e,wq⟩:=h
 unfold fG at e;split at e
 ·rename_i hc;rw [zza] at hc;cases e;exact Mo I hK sg 8 (by omega) hc.1 hc.2 t1 t2 rx ry _ _ _ _ (rh I sg wq)
 ·cases e
theorem JL(hK:W.K=X.K)(hu:X.A.units+64<cLine):gu X (compareOp .NotEq) (tx W gb):=by
 intro aa s σ H x y v u Q I rx ry h;obtain⟨H0,G,p,q,r,sg,t1,t2,e,wq⟩:=h
 unfold gb at e;split at e
 ·rename_i hc;rw [zza] at hc;cases e;exact Fq I hK sg 8 (by omega) hc.1 hc.2 t1 t2 rx ry _ _ _ _ (rh I sg wq)
 ·cases e
theorem kh{G:Hp}:∀{xs:List PV} {vs:List V} {ns:List Bool},aj W G xs vs->boolsOf xs=some ns->vs=ns.map V.bl
 |[],vs,ns,h,e=>by simp only [aj] at h;subst h;cases e;rfl
 |.bl i::r,vs,ns,h,e=>by
  obtain⟨v,t,rfl,h1,h2⟩:=h.br
  simp only [Rep] at h1;subst h1;unfold boolsOf at e;obtain⟨m,hm,rfl⟩:=zzJ.mp e
  rw [kh h2 hm]
  rfl
 |.az::_,_,_,_,e=>by cases e
 |.int _::_,_,_,_,e=>by cases e
 |.str _::_,_,_,_,e=>by cases e
 |.tup _::_,_,_,_,e=>by cases e
 |.lst _::_,_,_,_,e=>by cases e
 |.exc _::_,_,_,_,e=>by cases e
 |.aP _ _::_,_,_,_,e=>by cases e
theorem mP{G:Hp}:∀{xs:List PV} {vs:List V} {ns:List Str},aj W G xs vs->strsOf xs=some ns->vs=ns.map V.str
 |[],vs,ns,h,e=>by simp only [aj] at h;subst h;cases e;rfl
 |.str i::r,vs,ns,h,e=>by
  obtain⟨v,t,rfl,h1,h2⟩:=h.br
  simp only [Rep] at h1;subst h1;unfold strsOf at e;obtain⟨m,hm,rfl⟩:=zzJ.mp e
  rw [mP h2 hm]
  rfl
 |.az::_,_,_,_,e=>by cases e
 |.int _::_,_,_,_,e=>by cases e
 |.bl _::_,_,_,_,e=>by cases e
 |.tup _::_,_,_,_,e=>by cases e
 |.lst _::_,_,_,_,e=>by cases e
 |.exc _::_,_,_,_,e=>by cases e
 |.aP _ _::_,_,_,_,e=>by cases e
theorem Res.of_ok{α:Type}{o:Option α}{a:α}(h:Res.of o=.ok a):o=some a:=by
 cases o with
 |none=>cases h
 |some b=>cases h;rfl
theorem Iq(hK:W.K=X.K)(hu:X.A.units+64<cLine):gu X (compareOp .Lt) (tx W sL):=by
 intro aa s σ H x y v u Q I rx ry h;obtain⟨H0,G,p,q,r,sg,t1,t2,e,wq⟩:=h
 unfold sL at e;split at e
 ·cases e;exact Nq aa s σ H x y v u Q I rx ry ⟨_,_,t1.int,t2.int,wq.at sg .b⟩
 ·cases e
theorem Iw:gu X (compareOp .LtE) (tx W pZ):=by
 intro aa s σ H x y v u Q I rx ry h;obtain⟨H0,G,p,q,r,sg,t1,t2,e,wq⟩:=h
 unfold pZ at e;split at e
 ·cases e;exact Nx aa s σ H x y v u Q I rx ry ⟨_,_,t1.int,t2.int,wq.at sg .b⟩
 ·cases e
theorem J9:gu X (compareOp .Gt) (tx W uz):=by
 intro aa s σ H x y v u Q I rx ry h;obtain⟨H0,G,p,q,r,sg,t1,t2,e,wq⟩:=h
 unfold uz at e;split at e
 ·cases e;exact N0 aa s σ H x y v u Q I rx ry ⟨_,_,t1.int,t2.int,wq.at sg .b⟩
 ·cases e
theorem KP:gu X (compareOp .GtE) (tx W uY):=by
 intro aa s σ H x y v u Q I rx ry h;obtain⟨H0,G,p,q,r,sg,t1,t2,e,wq⟩:=h
 unfold uY at e;split at e
 ·cases e;exact N7 aa s σ H x y v u Q I rx ry ⟨_,_,t1.int,t2.int,wq.at sg .b⟩
 ·cases e
theorem oK{H0 G H:Hp}{p:PV}{x:V}(sg:aC G H)(t:Top W H0 G H p x):decide (x=.az)=BD p:=by
 cases p with
 |az=>cases t.az;rfl
 |bl b=>cases t.bl;rfl
 |int b=>cases t.int;rfl
 |str b=>cases t.str;rfl
 |tup b=>obtain⟨a,vs,rfl,_⟩:=t.tup sg;rfl
 |lst b=>obtain⟨a,vs,rfl,_⟩:=t.lst sg;rfl
 |aP b c=>obtain⟨a,vs,rfl,_⟩:=t.aP sg;rfl
 |exc c=>
  rcases t with t|t
  ·simp only [Rep] at t;obtain⟨a,C,rfl,_⟩:=t
   rfl
  ·exact t.elim
theorem HP:gu X (compareOp .Is) (tx W j6):=by
 intro aa s σ H x y v u Q I rx ry h;obtain⟨H0,G,p,q,r,sg,t1,t2,e,wq⟩:=h
 unfold j6 at e;split at e
 ·cases e;refine HJ aa s σ H x y v u Q I rx ry ⟨t2.az,?_⟩;rw [oK sg t1];exact wq.at sg .b
 ·cases e
theorem F0:gu X (compareOp .IsNot) (tx W fy):=by
 intro aa s σ H x y v u Q I rx ry h;obtain⟨H0,G,p,q,r,sg,t1,t2,e,wq⟩:=h
 unfold fy at e;split at e
 ·cases e;refine Gi aa s σ H x y v u Q I rx ry ⟨t2.az,?_⟩;rw [oK sg t1];exact wq.at sg .b
 ·cases e
end
theorem ib{α:Type}:∀{xs ys:List α},xs.length=ys.length->(∀(j:Nat) x y,xs[j]?=some x->ys[j]?=some y->x=y)->xs=ys
 |[],[],_,_=>rfl
 |x::xs,y::ys,h,k=>by rw [k 0 x y rfl rfl,ib (xs:=xs) (ys:=ys) (by simpa using h) λj a b ha hb=>k (j+1) a b (by simpa using ha) (by simpa using hb)]
 |[],_::_,h,_=>by simp at h
 |_::_,[],h,_=>by simp at h
section
variable{X:Cx}{W:Wd}{H0 G H:Hp}
theorem E8{aa:List (Addr×Obj)}{σ:St}{s:Shared}(I:Inv X aa σ H s)(hK:W.K=X.K)(sg:aC G H):∀(n:Nat) {p q:PV} {v:V},plain n p=true->plain n q=true->Top W H0 G H p v->Top W H0 G H q v->p=q:=by
 intro n
 induction n with
 |zero=>
  intro p q v hp hq h1 h2;cases p with
  |az=>
   cases h1.az;cases q with
   |az=>cases h2.az;rfl
   |bl y=>cases h2.bl
   |int y=>cases h2.int
   |str y=>cases h2.str
   |exc c=>exact aA hq
   |aP a b=>exact aA hq
   |tup xs=>exact aA hq
   |lst xs=>exact aA hq
  |bl x=>
   cases h1.bl;cases q with
   |az=>cases h2.az
   |bl y=>cases h2.bl;rfl
   |int y=>cases h2.int
   |str y=>cases h2.str
   |exc c=>exact aA hq
   |aP a b=>exact aA hq
   |tup xs=>exact aA hq
   |lst xs=>exact aA hq
  |int x=>
   cases h1.int;cases q with
   |az=>cases h2.az
   |bl y=>cases h2.bl
   |int y=>cases h2.int;rfl
   |str y=>cases h2.str
   |exc c=>exact aA hq
   |aP a b=>exact aA hq
   |tup xs=>exact aA hq
   |lst xs=>exact aA hq
  |str x=>
   cases h1.str;cases q with
   |az=>cases h2.az
   |bl y=>cases h2.bl
   |int y=>cases h2.int
   |str y=>cases h2.str;rfl
   |exc c=>exact aA hq
   |aP a b=>exact aA hq
   |tup xs=>exact aA hq
   |lst xs=>exact aA hq
  |exc c=>exact aA hp
  |aP a b=>exact aA hp
  |tup xs=>exact aA hp
  |lst xs=>exact aA hp
 |succ n ih=>
  intro p q v hp hq h1 h2;have el:∀{xs ys:List PV} {vs:List V},xs.all (plain n)=true->ys.all (plain n)=true->aj W G xs vs->aj W G ys vs->xs=ys:=λ{xs ys vs} a1 a2 l1 l2=>
   ib (by rw [<-l1.length,l2.length]) λj x y ex ey=>by
    obtain⟨u,eu,ku⟩:=l1.nA ex
    obtain⟨y',ey',ky⟩:=l2.get eu
    rw [ey] at ey';cases ey';exact ih (zzT.mp a1 _ (zzD ex)) (zzT.mp a2 _ (zzD ey)) (.inl ku) (.inl ky)
  cases p with
  |exc c=>exact aA hp
  |aP a b=>exact aA hp
  |tup xs=>
   obtain⟨a,vs,rfl,sq,l⟩:=h1.tup sg
   rw [hK] at sq;cases q with
   |exc c=>exact aA hq
   |aP a b=>exact aA hq
   |az=>cases h2.az
   |bl b=>cases h2.bl
   |int b=>cases h2.int
   |str b=>cases h2.str
   |lst ys=>
    obtain⟨b,us,e,sq20,l2⟩:=h2.lst sg
    have bu:=eU hK sq20
    cases e;exact(jf I sq bu).elim
   |tup ys=>
    obtain⟨b,us,e,bu,l2⟩:=h2.tup sg
    rw [hK] at bu;cases e;cases I.j7 sq bu;rw [el hp hq l l2]
  |lst xs=>
   obtain⟨a,vs,rfl,sq0,l⟩:=h1.lst sg
   have sq:=eU hK sq0
   cases q with
   |exc c=>exact aA hq
   |aP a b=>exact aA hq
   |az=>cases h2.az
   |bl b=>cases h2.bl
   |int b=>cases h2.int
   |str b=>cases h2.str
   |tup ys=>
    obtain⟨b,us,e,bu,l2⟩:=h2.tup sg
    rw [hK] at bu;cases e;exact(jf I bu sq).elim
   |lst ys=>
    obtain⟨b,us,e,sq20,l2⟩:=h2.lst sg
    have bu:=eU hK sq20
    cases e;cases I.mf sq bu;rw [el hp hq l l2]
  |az=>
   cases h1.az;cases q with
   |az=>cases h2.az;rfl
   |bl y=>cases h2.bl
   |int y=>cases h2.int
   |str y=>cases h2.str
   |tup ys=>obtain⟨b,us,e,_⟩:=h2.tup sg;cases e
   |lst ys=>obtain⟨b,us,e,_⟩:=h2.lst sg;cases e
   |exc c=>exact aA hq
   |aP a b=>exact aA hq
  |bl x=>
   cases h1.bl;cases q with
   |az=>cases h2.az
   |bl y=>cases h2.bl;rfl
   |int y=>cases h2.int
   |str y=>cases h2.str
   |tup ys=>obtain⟨b,us,e,_⟩:=h2.tup sg;cases e
   |lst ys=>obtain⟨b,us,e,_⟩:=h2.lst sg;cases e
   |exc c=>exact aA hq
   |aP a b=>exact aA hq
  |int x=>
   cases h1.int;cases q with
   |az=>cases h2.az
   |bl y=>cases h2.bl
   |int y=>cases h2.int;rfl
   |str y=>cases h2.str
   |tup ys=>obtain⟨b,us,e,_⟩:=h2.tup sg;cases e
   |lst ys=>obtain⟨b,us,e,_⟩:=h2.lst sg;cases e
   |exc c=>exact aA hq
   |aP a b=>exact aA hq
  |str x=>
   cases h1.str;cases q with
   |az=>cases h2.az
   |bl y=>cases h2.bl
   |int y=>cases h2.int
   |str y=>cases h2.str;rfl
   |tup ys=>obtain⟨b,us,e,_⟩:=h2.tup sg;cases e
   |lst ys=>obtain⟨b,us,e,_⟩:=h2.lst sg;cases e
   |exc c=>exact aA hq
   |aP a b=>exact aA hq
theorem kJ{aa:List (Addr×Obj)}{σ:St}{s:Shared}(I:Inv X aa σ H s)(hK:W.K=X.K)(sg:aC G H){A:Around}{a:PV}{x:V}{x':Value}{ys:List PV}{us:List V}{ay:List Value}(hu:A.units+32<cLine)(ha:tG a=true)(hy:ys.all tG=true)(ta:Top W H0 G H a x)(rx:RelV x x')(l:aj W G ys us)(r:Vals us ay):
 ∃e:Value->Bool,(∀y∈ay,SeqAt.EqAt A s y x' (e y))/\∀(j:Nat) (y:Value) (p:PV),ay[j]?=some y->ys[j]?=some p->e y=eqv p a:=by
 classical
 have key:∀(j:Nat) (y:Value),ay[j]?=some y->∃p u,ys[j]?=some p/\us[j]?=some u/\Rep W G p u/\RelV u y/\tG p=true:=λj y e=>by
  have hj:=(zzH.mp e).1
  have hl:=r.length
  obtain⟨u,Hq,KI⟩:=r.get (i:=j) (x:=us[j]'(by omega)) (zzg (by omega))
  rw [e] at Hq;cases Hq;obtain⟨p,hp,kp⟩:=l.get (zzg (show j<us.length by omega))
  exact⟨p,_,hp,zzg (by omega),kp,KI,zzT.mp hy p (zzD hp)⟩
 refine⟨λy=>if h:∃(j:Nat) (p:PV),ay[j]?=some y/\ys[j]?=some p then eqv h.choose_spec.choose a else false,λy Iv=>?_,λj y p e1 e2=>?_⟩
 ·obtain⟨j,hj,e⟩:=List.getElem_of_mem Iv
  have ej:ay[j]?=some y:=by rw [zzg hj,e]
  obtain⟨p,u,h1,h2,h3,h4,h5⟩:=key j y ej
  have hex:∃(j:Nat) (p:PV),ay[j]?=some y/\ys[j]?=some p:=⟨j,p,ej,h1⟩
  dsimp only;rw [dif_pos hex];have sp:=hex.choose_spec.choose_spec
  obtain⟨p2,u2,g1,g2,g3,g4,g5⟩:=key _ y sp.1
  have e3:hex.choose_spec.choose=p2:=Option.some.inj (sp.2.symm.trans g1)
  rw [e3];exact zL (H0:=H0) I hK sg 9 (by omega) g5 ha (.inl g3) ta g4 rx
 ·have hex:∃(j:Nat) (p:PV),ay[j]?=some y/\ys[j]?=some p:=⟨j,p,e1,e2⟩
  dsimp only;rw [dif_pos hex];obtain⟨p1,u1,f1,f2,f3,f4,f5⟩:=key j y e1
  rw [e2] at f1;cases f1;have sp:=hex.choose_spec.choose_spec
  obtain⟨p2,u2,g1,g2,g3,g4,g5⟩:=key _ y sp.1
  have e3:hex.choose_spec.choose=p2:=Option.some.inj (sp.2.symm.trans g1)
  have e4:u1=u2:=f4.inj g4
  subst e4;rw [e3,E8 I hK sg DP g5 f5 (.inl g3:Top W H0 G H p2 u1) (.inl f3)]
theorem Ah{ay:List Value}{ys:List PV}{e:Value->Bool}{f:PV->Bool}:ay.length=ys.length->(∀(j:Nat) (y:Value) (p:PV),ay[j]?=some y->ys[j]?=some p->e y=f p)->ay.any e=ys.any f:=by
 intro hl h;have:ay.map e=ys.map f:=ib (by simpa using hl) λj x y hx hy=>by
  rw [zzQ] at hx hy;obtain⟨a,ha,rfl⟩:=zzJ.mp hx
  obtain⟨b,hb,rfl⟩:=zzJ.mp hy
  exact h j a b ha hb
 calc ay.any e=(ay.map e).any id:=by rw [List.any_map];rfl
  _=(ys.map f).any id:=by rw [this]
  _=ys.any f:=by rw [List.any_map];rfl
theorem zy{ay:List Value}{ys:List PV}{e:Value->Bool}{f:PV->Bool}:ay.length=ys.length->(∀(j:Nat) (y:Value) (p:PV),ay[j]?=some y->ys[j]?=some p->e y=f p)->ay.countP e=ys.countP f:=by
 intro hl h;have:ay.map e=ys.map f:=ib (by simpa using hl) λj x y hx hy=>by
  rw [zzQ] at hx hy;obtain⟨a,ha,rfl⟩:=zzJ.mp hx
  obtain⟨b,hb,rfl⟩:=zzJ.mp hy
  exact h j a b ha hb
 calc ay.countP e=(ay.map e).countP id:=by rw [List.countP_map];rfl
  _=(ys.map f).countP id:=by rw [this]
  _=ys.countP f:=by rw [List.countP_map];rfl
theorem K5(hK:W.K=X.K)(hu:X.A.units+64<cLine):gu X (compareOp .In) (tx W qN):=by
 intro aa s σ H x y v u Q I rx ry h;obtain⟨H0,G,p,q,r,sg,t1,t2,e,wq⟩:=h
 have Hq:X.A.in1.units+32<cLine:=by show X.A.units+1+32<_;omega
 unfold qN at e;split at e
 ·split at e
  ·rename_i hc;rw [zza] at hc;cases e;obtain⟨b,us,rfl,q2,l2⟩:=t2.lst sg
   cases ry;obtain⟨ay,rv,z,_⟩:=I.list (eU hK q2)
   obtain⟨e,he,hv⟩:=kJ I hK sg Hq hc.1 hc.2 t1 rx l2 rv
   refine SeqAt.in_listAt e z.isList (λy hy=>he y (by simpa using hy)) ?_
   have:=Ah (by rw [<-rv.length,l2.length]) hv
   rw [List.any_toArray,this];exact rh I sg wq
  ·cases e
 ·cases e
theorem FE(hK:W.K=X.K)(hu:X.A.units+64<cLine):gu X (compareOp .NotIn) (tx W ja):=by
 intro aa s σ H x y v u Q I rx ry h;obtain⟨H0,G,p,q,r,sg,t1,t2,e,wq⟩:=h
 have Hq:X.A.in1.units+32<cLine:=by show X.A.units+1+32<_;omega
 unfold ja at e;split at e
 ·split at e
  ·rename_i hc;rw [zza] at hc;cases e;obtain⟨b,us,rfl,q2,l2⟩:=t2.lst sg
   cases ry;obtain⟨ay,rv,z,_⟩:=I.list (eU hK q2)
   obtain⟨e,he,hv⟩:=kJ I hK sg Hq hc.1 hc.2 t1 rx l2 rv
   refine SeqAt.notIn_listAt e z.isList (λy hy=>he y (by simpa using hy)) ?_
   have:=Ah (by rw [<-rv.length,l2.length]) hv
   rw [List.any_toArray,this];exact rh I sg wq
  ·cases e
 ·obtain⟨k,hk,e⟩:=Res.bb e
  cases e;have hk:=i6 (Res.of_ok hk)
  subst hk;obtain⟨b,rfl,hb⟩:=t1.tupI (ns:=k) sg rfl
  obtain⟨a,us,rfl,n,hd,l⟩:=t2.aP sg
  cases ry;refine Dj (show X.A.units+1<cLine by omega) I (.inr ⟨_,ki k,b,hd,rfl,(by rw [rM];exact sg _ _ hb),rfl⟩) rx λs' I'=>?_
  rw [lE,pg k _ us n];exact rh I' sg wq
 ·cases e
theorem ic(hK:W.K=X.K)(hu:X.A.units+64<cLine):∀o:Ab,gu X (compareOp (qK o)) (tx W (dC o))
 |.eq=>IS hK hu|.ne=>JL hK hu|.lt=>Iq hK hu|.le=>Iw|.gt=>J9|.ge=>KP|.is=>HP|.zj=>F0|.Km=>K5 hK hu|.kH=>FE hK hu
theorem wL{ps:List PV}{vs:List V}{i:Int}{p:PV}(l:aj W G ps vs)(h:pV ps i=some p):∃v,pV vs i=some v/\Rep W G p v:=by
 unfold pV at h⊢;rw [l.length];cases e:Hh ps.length i with
 |none=>rw [e] at h;cases h
 |some j=>
  rw [e] at h;exact l.nA h
theorem KL(hu:X.A.units+1<cLine):Lq X (λx y H Q=>∃a av k b v,x=.ref a/\Rd H a (.dT av)/\y=.ref b/\H b=some (.tup (k.map kV))/\ik av k=some v/\Q v H):=by
 intro value slice aa s σ H x y v u Q I rx ry h hs;obtain⟨a,av,k,b,z,rfl,hd,rfl,hb,hv,q⟩:=h
 cases rx;cases ry;obtain⟨_,_,xs,rel,dd⟩:=mO I.aQ hd
 obtain⟨w',hw,iP⟩:=kD.some_of (v:=z) (o:=(atKey xs k).map (·.2)) (by rw [<-hv];exact rel.val k)
 obtain⟨p,hp,hp2⟩:=zzJ.mp hw
 exact PyProof.Rows.subscriptTail_builtinR (x:=w') dd.typeIs PySem.F.slot_dict_getitem.lookup (wpAny_getItem_heap (Q:=λr s'=>r=w'/\EP X aa σ Q r s') (tupleKind_room_in1 hu) (iF I.aQ hb) dd hp ⟨hp2,by rw [hp2];exact⟨z,H,I.tok _,iP,q⟩⟩) hs
theorem Qv(hK:W.K=X.K)(hu:X.A.units+64<cLine):Lq X (tx W aD):=by
 intro value slice aa s σ H x y v u Q I rx ry h hs;obtain⟨H0,G,p,q,r,sg,t1,t2,e,wq⟩:=h
 unfold aD at e;split at e
 ·obtain⟨a,vs,rfl,h1,l1⟩:=t1.lst sg
  obtain⟨w,hw,kw⟩:=wL l1 (Res.of_ok e)
  exact EG value slice aa s σ H _ y v u Q I rx ry ⟨a,vs,_,w,rfl,t2.int,eU hK h1,hw,wq.at sg kw⟩ hs
 ·obtain⟨a,vs,rfl,h1,l1⟩:=t1.tup sg
  rw [hK] at h1;obtain⟨w,hw,kw⟩:=wL l1 (Res.of_ok e)
  exact AD value slice aa s σ H _ y v u Q I rx ry ⟨a,vs,_,w,rfl,t2.int,h1,hw,wq.at sg kw⟩ hs
 ·split at e
  ·rename_i hl;obtain⟨c,hc,e⟩:=Res.bb e
   cases e;exact IV value slice aa s σ H x y v u Q I rx ry ⟨_,_,c,t1.str,t2.int,mU hl,Res.of_ok hc,wq.at sg .s⟩ hs
  ·cases e
 ·obtain⟨k,hk,e2⟩:=Res.bb e
  have hk:=i6 (Res.of_ok hk)
  subst hk;obtain⟨b,rfl,hb⟩:=t2.tupI (ns:=k) sg rfl
  obtain⟨a,us,rfl,n,hd,l⟩:=t1.aP sg
  obtain⟨w,hw,kw⟩:=o8 l (Res.of_ok e2)
  exact KL (by omega) value slice aa s σ H _ _ v u Q I rx ry ⟨a,_,ki k,b,w,rfl,hd,rfl,(by rw [rM];exact sg _ _ hb),(by rw [lE];exact hw),wq.at sg kw⟩ hs
 ·cases e
theorem EL{ps:List PV}{vs:List V}(lo hi:Option Int)(l:aj W G ps vs):aj W G (BH ps lo hi) (xY vs lo hi):=by
 unfold BH xY;rw [l.length];exact(l.drop _).take _
theorem Rh(hK:W.K=X.K):L2.Gu X (λx lo hi H Q=>∃H0 G p r,aC G H/\Top W H0 G H p x/\ie p lo hi=.ok r/\dy W G H r Q):=by
 intro aa s σ H x v vl vu lo hi sl Q I rx hs pl pu h;obtain⟨H0,G,p,r,sg,t1,e,wq⟩:=h
 unfold ie at e;split at e
 ·cases e;obtain⟨a,vs,rfl,h1,l1⟩:=t1.lst sg
  exact DI aa s σ H _ v vl vu _ _ sl Q I rx hs pl pu ⟨a,vs,rfl,eU hK h1,λp hp=>wq.lst sg (EL _ _ l1) hp⟩
 ·cases e
end
section
variable{X:Cx}{W:Wd}
def zu(W:Wd)(f:List PV->Res PV):List V->Hp->VK->Prop:=λvs H Q=>∃H0 G ps r,aC G H/\Paired (λv p=>Top W H0 G H p v) vs ps/\f ps=.ok r/\dy W G H r Q
theorem gU{H0 G H:Hp}{vs:List V}{p:PV}(h:Paired (λv p=>Top W H0 G H p v) vs [p]):∃v,vs=[v]/\Top W H0 G H p v:=by
 cases h with
 |cons h t=>cases t;exact⟨_,rfl,h⟩
theorem vX{H0 G H:Hp}{vs:List V}{p q:PV}(h:Paired (λv p=>Top W H0 G H p v) vs [p,q]):∃v u,vs=[v,u]/\Top W H0 G H p v/\Top W H0 G H q u:=by
 cases h with
 |cons h t=>
  cases t with
  |cons h2 t2=>cases t2;exact⟨_,_,rfl,h,h2⟩
theorem yE(hK:W.K=X.K):cD X (.builtin "len") (zu W tX):=by
 intro aa s σ H xs us Q I r h;obtain⟨H0,G,ps,rr,sg,tp,e,wq⟩:=h
 unfold tX at e;split at e
 ·cases e;obtain⟨v,rfl,t⟩:=gU tp
  obtain⟨a,vs,rfl,h1,l1⟩:=t.lst sg
  exact jh aa s σ H _ us Q I r ⟨a,vs,rfl,.inl (eU hK h1),by rw [l1.length];exact wq.at sg .i⟩
 ·cases e;obtain⟨v,rfl,t⟩:=gU tp
  obtain⟨a,vs,rfl,h1,l1⟩:=t.tup sg
  rw [hK] at h1;exact jh aa s σ H _ us Q I r ⟨a,vs,rfl,.inr h1,by rw [l1.length];exact wq.at sg .i⟩
 ·split at e
  ·rename_i hl;cases e;obtain⟨v,rfl,t⟩:=gU tp
   exact p9 aa s σ H _ us Q I r ⟨_,by rw [t.str],mU hl,wq.at sg .i⟩
  ·cases e
 ·cases e;obtain⟨v,rfl,t⟩:=gU tp
  obtain⟨a,us',rfl,n,hd,l⟩:=t.aP sg
  obtain⟨u,rfl,ru⟩:=vals1 r
  cases ru;exact HF I hd λt s' I'=>⟨.int _,H,I',⟨t,rfl⟩,by rw [fX n];exact wq.at sg .i⟩
 ·cases e
theorem yr:cD X (.builtin "abs") (zu W AZ):=by
 intro aa s σ H xs us Q I r h;obtain⟨H0,G,ps,rr,sg,tp,e,wq⟩:=h
 unfold AZ at e;split at e
 ·cases e;obtain⟨v,rfl,t⟩:=gU tp
  exact BY aa s σ H _ us Q I r ⟨_,by rw [t.int],wq.at sg .i⟩
 ·cases e
theorem x8(hc:X.calm=true):cD X (.builtin "max") (zu W BU):=by
 intro aa s σ H xs us Q I r h;obtain⟨H0,G,ps,rr,sg,tp,e,wq⟩:=h
 unfold BU at e;split at e
 ·cases e;obtain⟨v,u,rfl,t,t2⟩:=vX tp
  exact zd hc aa s σ H _ us Q I r ⟨_,_,by rw [t.int,t2.int],wq.at sg .i⟩
 ·cases e
theorem xI:cD X (.type "int") (zu W Ac):=by
 intro aa s σ H xs us Q I r h;obtain⟨H0,G,ps,rr,sg,tp,e,wq⟩:=h
 unfold Ac at e;split at e
 ·split at e
  ·rename_i hl;obtain⟨n,hn,e⟩:=Res.bb e
   cases e;obtain⟨v,rfl,t⟩:=gU tp
   exact p7 aa s σ H _ us Q I r ⟨_,n,by rw [t.str],Res.of_ok hn,hl,wq.at sg .i⟩
  ·cases e
 ·cases e
theorem yY:cD X (.type "str") (zu W CO):=by
 intro aa s σ H xs us Q I r h;obtain⟨H0,G,ps,rr,sg,tp,e,wq⟩:=h
 unfold CO at e;split at e
 ·split at e
  ·rename_i hl;cases e;obtain⟨v,rfl,t⟩:=gU tp
   exact qw aa s σ H _ us Q I r ⟨_,by rw [t.int],hl,wq.at sg .s⟩
  ·cases e
 ·cases e
theorem rj(hK:W.K=X.K):cD X (.type "tuple") (zu W l0):=by
 intro aa s σ H xs us Q I r h;obtain⟨H0,G,ps,rr,sg,tp,e,wq⟩:=h
 unfold l0 at e;split at e
 ·cases e;obtain⟨v,rfl,t⟩:=gU tp
  obtain⟨a,vs,rfl,h1,l1⟩:=t.lst sg
  exact nH aa s σ H _ us Q I r ⟨a,vs,rfl,.inl ⟨eU hK h1,λp hp=>wq.tup sg l1 hp⟩⟩
 ·cases e
theorem zg(hc:X.calm=true)(hK:W.K=X.K):cD X (.builtin "all") (zu W Bu):=by
 intro aa s σ H xs us Q I r h;obtain⟨H0,G,ps,rr,sg,tp,e,wq⟩:=h
 unfold Bu at e;split at e
 ·obtain⟨bs,hb,e⟩:=Res.bb e
  cases e;obtain⟨v,rfl,t⟩:=gU tp
  obtain⟨a,vs,rfl,h1,l1⟩:=t.lst sg
  cases kh l1 (Res.of_ok hb);exact BV hc aa s σ H _ us Q I r ⟨a,bs,rfl,eU hK h1,wq.at sg .b⟩
 ·cases e
def Ou(W:Wd)(f:List PV->Res PV):V->List V->Hp->VK->Prop:=λx vs H Q=>zu W f (x::vs) H Q
theorem wm:∀{ys:List Str} {ay:List Value},Vals (ys.map V.str) ay->PyProof.Rows.StrsAre ay ys
 |[],_,.nil=>.nil
 |y::ys,_,.cons r t=>by
  obtain⟨tk,rfl⟩:=r
  exact .cons y tk (wm t)
theorem CD(hK:W.K=X.K):NC X "str.join" (Ou W sW):=by
 intro aa s σ H x xs v us Q I rx r h;obtain⟨H0,G,ps,rr,sg,tp,e,wq⟩:=h
 unfold sW at e;split at e
 ·obtain⟨ys,hy,e⟩:=Res.bb e
  split at e
  ·rename_i hc;cases e;obtain⟨v1,u1,e1,t,t2⟩:=vX tp
   cases e1;cases t.str;obtain⟨tk,rfl⟩:=rx
   obtain⟨a,vs,rfl,h1,l1⟩:=t2.lst sg
   obtain⟨u,rfl,ru⟩:=Vals.one r
   cases ru;cases mP l1 (Res.of_ok hy);obtain⟨ay,rv,z,_⟩:=I.list (eU hK h1)
   refine PyProof.Rows.join_listW z.isList (by simpa using wm rv) hc.1 (zzU hc.2 (by decide)) λt' k=>⟨.str _,H,I.tok _,⟨_,rfl⟩,wq.at sg .s⟩
  ·cases e
 ·cases e
theorem uI(hK:W.K=X.K)(hu:X.A.units+64<cLine):NC X "list.count" (Ou W jc):=by
 intro aa s σ H x xs v us Q I rx r h;obtain⟨H0,G,ps,rr,sg,tp,e,wq⟩:=h
 unfold jc at e;split at e
 ·split at e
  ·rename_i hc;rw [zza] at hc;cases e;obtain⟨v1,u1,e1,t,t2⟩:=vX tp
   cases e1;obtain⟨a,vs,rfl,h1,l1⟩:=t.lst sg
   cases rx;obtain⟨u,rfl,ru⟩:=Vals.one r
   obtain⟨ay,n,rv,hl,_,e⟩:=ug hK I h1
   obtain⟨f,he,hv⟩:=kJ (A:=X.A.in1) I hK sg (by show X.A.units+1+32<_;omega) hc.1 hc.2 t2 ru l1 rv
   refine PySem.call_meets PySem.F.slot_list_count ⟨_,e,rfl⟩ PySem.F.entry_list_count (PySem.F.args_list_count_2 _ _) (SeqAt.list_countAt a ay.toArray n none #[] u f) ⟨e,λy hy=>he y (by simpa using hy),?_⟩
   refine⟨.int _,H,I.tok _,⟨_,rfl⟩,?_⟩;rw [zy (by rw [<-hl,l1.length]) hv];exact wq.at sg .i
  ·cases e
 ·cases e
theorem xt(hK:W.K=X.K)(hu:X.A.units+64<cLine):NC X "list.index" (Ou W mW):=by
 intro aa s σ H x xs v us Q I rx r h;obtain⟨H0,G,ps,rr,sg,tp,e,wq⟩:=h
 unfold mW at e;split at e
 ·rename_i ys w;split at e
  ·rename_i hc;rw [zza,zza] at hc;split at e
   ·rename_i j hj;cases e;obtain⟨v1,u1,e1,t,t2⟩:=vX tp
    cases e1;obtain⟨a,vs,rfl,h1,l1⟩:=t.lst sg
    cases rx;obtain⟨u,rfl,ru⟩:=Vals.one r
    obtain⟨ay,n,rv,hl,_,e⟩:=ug hK I h1
    have hlen:ay.length=ys.length:=by rw [<-hl,l1.length]
    have To:ys.length<1000:=zzY hc.2
    obtain⟨f,he,hv⟩:=kJ (A:=X.A.in1) I hK sg (by show X.A.units+1+32<_;omega) hc.1.1 hc.1.2 t2 ru l1 rv
    rw [List.findIdx?_eq_some_iff_getElem] at hj;obtain⟨cg,hyes,hno⟩:=hj
    refine PySem.call_meets PySem.F.slot_list_index ⟨_,e,rfl⟩ PySem.F.entry_list_index (PySem.F.args_list_index_2 _ _) (SeqAt.list_indexAt a ay.toArray n none #[] u f j (by simpa using (by omega:j<ay.length)) (by omega) ?_ λm M6 NQ=>?_) ⟨e,λy hy=>he y (by simpa using hy),⟨.int _,H,I.tok _,⟨_,rfl⟩,wq.at sg .i⟩⟩
    ·have:=hv j (ay[j]'(by omega)) ys[j] (zzg (by omega)) (zzg cg)
     simpa using this.trans hyes
    ·have hm:m<ys.length:=by omega
     have:=hv m (ay[m]'(by omega)) ys[m] (zzg (by omega)) (zzg hm)
     have z:=hno m NQ
     simp only [Bool.not_eq_true] at z
     simpa using this.trans z
   ·cases e
  ·cases e
 ·cases e
def t9:Ty->String
 |.int=>"int"|.bool=>"bool"|.tuple=>"tuple"|.list=>"list"
theorem N3{K:PySem.W.Frag}(t:Ty):Cw.C8 K "NoneType" (t9 t) false/\(∀b,Cw.C8 K "bool" (t9 t) (il t (.bl b)))/\(∀i,Cw.C8 K "int" (t9 t) (il t (.int i)))/\(∀z,Cw.C8 K "str" (t9 t) (il t (.str z)))/\(∀z,Cw.C8 K "tuple" (t9 t) (il t (.tup z)))/\(∀z,Cw.C8 K "list" (t9 t) (il t (.lst z))):=by
 cases t
 all_goals refine⟨?_,λb=>?_,λb=>?_,λb=>?_,λb=>?_,λb=>?_⟩
 all_goals first
  |exact Cw.Ao _
  |exact Cw.A7 (b:=false) (by decide+kernel) (by decide+kernel) (by decide+kernel)
  |exact Cw.A7 (b:=true) (by decide+kernel) (by decide+kernel) (by decide+kernel)
theorem BA(hK:W.K=X.K)(t:Ty):cD X (.builtin "isinstance") (λxs H Q=>∃v H0 G p r,xs=[v,.ty (t9 t)]/\aC G H/\Top W H0 G H p v/\jx t p=.ok r/\dy W G H r Q):=by
 intro aa s σ H xs us Q I rr h;obtain⟨v,H0,G,p,r,rfl,sg,tp,e,wq⟩:=h
 obtain⟨u,u2,rfl,ru,ru2⟩:=Vals.two rr
 cases ru2;obtain⟨k1,k2,k3,k4,k5,k6⟩:=N3 (K:=X.K) t
 cases p with
 |exc c=>cases e
 |aP a b=>cases e
 |az=>cases e;cases tp.az;cases ru;cases t<;>exact PySem.W.kia_one PySem.W.kitx_none I.oD True.intro k1 (λz=>nomatch z) λtk=>⟨.bl _,H,I.tok tk,rfl,wq.at sg .b⟩
 |bl b=>cases e;cases tp.bl;cases ru;exact PySem.W.kia_one PySem.W.kitx_bool I.oD True.intro (k2 b) (λz=>nomatch z) λtk=>⟨.bl _,H,I.tok tk,rfl,wq.at sg .b⟩
 |int b=>cases e;cases tp.int;obtain⟨t1,rfl⟩:=ru;exact PySem.W.kia_one PySem.W.kitx_int I.oD True.intro (k3 b) (λz=>nomatch z) λtk=>⟨.bl _,H,I.tok tk,rfl,wq.at sg .b⟩
 |str b=>cases e;cases tp.str;obtain⟨t1,rfl⟩:=ru;exact PySem.W.kia_one PySem.W.kitx_str I.oD True.intro (k4 b) (λz=>nomatch z) λtk=>⟨.bl _,H,I.tok tk,rfl,wq.at sg .b⟩
 |tup b=>
  cases e;obtain⟨a,vs,rfl,h1,l1⟩:=tp.tup sg
  rw [hK] at h1;cases ru;obtain⟨ay,_,⟨o,e1,e2,_⟩,_⟩:=I.tuple h1
  exact PySem.W.kia_one PySem.W.kitx_tuple I.oD ⟨o,e1,e2⟩ (k5 b) (λz=>nomatch z) λtk=>⟨.bl _,H,I.tok tk,rfl,wq.at sg .b⟩
 |lst b=>
  cases e;obtain⟨a,vs,rfl,h1,l1⟩:=tp.lst sg
  cases ru;obtain⟨ay,n,_,_,_,e1⟩:=ug hK I h1
  exact PySem.W.kia_one PySem.W.kitx_list I.oD ⟨_,e1,rfl⟩ (k6 b) (λz=>nomatch z) λtk=>⟨.bl _,H,I.tok tk,rfl,wq.at sg .b⟩
end
section
variable{W:Wd}{X:Cx}{G H:Hp}
theorem wG{k:List Int}{v:V}(h:Rep W G (af k) v):∃b,v=.ref b/\G b=some (.tup (k.map V.int)):=Top.tupI (H0:=G) (aC.refl G) rfl (.inl h)
theorem hJ:∀{vs:List V} {nss:List (List Int)} {G:Hp},aC G H->Paired (λv ns=>∃b,v=V.ref b/\H b=some (.tup (ns.map V.int))) vs nss->∃G',aE W G H G' H/\aj W G' (nss.map af) vs
 |_,_,G,sg,.nil=>⟨G,.refl sg,.nil⟩
 |_,_,G,sg,.cons (b:=ns) h t=>by
  obtain⟨b,rfl,hb⟩:=h
  have g1:=aE.adopt (W:=W) sg hb
  obtain⟨G2,g2,l⟩:=hJ g1.sub t
  refine⟨G2,g1.trans g2,.cons (Rep.same g2.g _ ?_) l⟩;refine .t (.inl ak) ?_;have go:∀ns:List Int,aj W (upd G b (.tup (ns.map V.int))) (ns.map .int) (ns.map V.int)/\True:=λ_=>⟨by
   rename_i xx;have all:∀(G':Hp) (l:List Int),aj W G' (l.map .int) (l.map V.int):=λG' l=>by
    induction l with
    |nil=>exact .nil
    |cons x l ih=>exact .cons .i ih
   exact all _ _,trivial⟩
  exact(go ns).1
theorem qS(hK:W.K=X.K)(hc:X.calm=true):cD X (.type "list") (zu W mB):=by
 intro aa s σ H xs us Q I r h;obtain⟨H0,G,ps,rr,sg,tp,e,wq⟩:=h
 unfold mB at e;split at e
 ·split at e
  ·rename_i ks qH hb;cases e;obtain⟨v,rfl,t⟩:=gU tp
   obtain⟨a,us',rfl,n,hd,l⟩:=t.aP sg
   refine uV hc aa s σ H _ us Q I r ⟨a,_,ks,rfl,hd,oX n,by rw [fX n];exact zzU hb (by decide),λp vs hp pv=>?_⟩
   obtain⟨G1,g1,l1⟩:=hJ (W:=W) sg pv
   exact wq _ _ _ (g1.trans (.new g1.sub hp)) (.l (.inl (.inl ak)) (aj.same (bD (g1.sub.free hp)) _ l1))
  ·cases e
 ·cases e
theorem zN{K:PySem.W.Frag}(hK:W.K=K)(sg:aC G H):∀{xs:List PV} {ps:List (List Int×PV)} {vs:List V},uD xs=some ps->aj W G xs vs->∃us,aj W G (ps.map (·.2)) us/\ir K H vs ((ps.map λp=>ki p.1).zip us)
 |[],_,_,e,l=>by cases e;simp only [aj] at l;subst l;exact⟨[],.nil,.nil⟩
 |x::xs,ps,vs,e,l=>by
  obtain⟨v,vr,rfl,h1,h2⟩:=l.br
  unfold uD at e;split at e
  ·rename_i heq;cases heq
  ·rename_i heq;cases heq;obtain⟨k,hk,e⟩:=zzZ.mp e
   obtain⟨r,hr,rfl⟩:=zzJ.mp e
   obtain⟨us,l2,p2⟩:=zN hK sg hr h2
   simp only [Rep] at h1;obtain⟨q,ws,rfl,tq,lq⟩:=h1
   obtain⟨w1,wr,rfl,k1,lq⟩:=lq.br
   obtain⟨w2,wr2,rfl,k2,lq⟩:=lq.br
   simp only [aj] at lq;subst lq;rw [i6 hk] at k1;obtain⟨b,rfl,hb⟩:=wG k1
   refine⟨w2::us,.cons k2 l2,.cons ⟨q,b,rfl,?_,by rw [rM];exact sg _ _ hb⟩ p2⟩;rw [<-hK];exact aC.tup sg tq.sq
  ·cases e
theorem nZ:∀(ps:List (List Int×PV)) {us:List V} {ks:List (List Int)} {qs:List PV} {ws:List V},aj W G (ps.map (·.2)) us->ks.length=ws.length->aj W G qs ws->∃zs,(ez ps ks qs).1.length=zs.length/\aj W G (ez ps ks qs).2 zs/\eL (kz ks ws) ((ps.map λp=>ki p.1).zip us)=kz (ez ps ks qs).1 zs
 |[],us,ks,qs,ws,_,n,l=>⟨ws,n,l,rfl⟩
 |p::ps,us,ks,qs,ws,lu,n,l=>by
  obtain⟨u,ur,rfl,h1,h2⟩:=lu.br
  obtain⟨zs,z1,z2,z3⟩:=nZ ps h2 (mF n p.1 u) (qG (ks:=ks) (k:=p.1) l h1)
  refine⟨zs,z1,z2,?_⟩;show eL (putK (kz ks ws) (ki p.1) u) _=_
  rw [uq n];exact z3
theorem rN(hK:W.K=X.K){H0:Hp}{ps:List PV}{q:PV}{xs:List V}(sg:aC G H)(tp:Paired (λv p=>Top W H0 G H p v) xs ps)(e:iQ ps=.ok q):∃ks qs,q=.aP ks qs/\∃a vs av,xs=[V.ref a]/\gz X.K H a vs/\ir X.K H vs av/\∃zs,ks.length=zs.length/\aj W G qs zs/\eL [] av=kz ks zs:=by
 unfold iQ at e;split at e
 ·obtain⟨ps,hp,e⟩:=Res.bb e
  cases e;obtain⟨v,rfl,t⟩:=gU tp
  obtain⟨a,vs,rfl,h1,l1⟩:=t.lst sg
  obtain⟨ws,lw,pw⟩:=zN hK sg (Res.of_ok hp) l1
  obtain⟨zs,z1,z2,z3⟩:=nZ ps (ks:=[]) (qs:=[]) (ws:=[]) lw rfl .nil
  exact⟨_,_,rfl,a,vs,_,rfl,eU hK h1,pw,zs,z1,z2,z3⟩
 ·cases e
theorem qQ(hK:W.K=X.K)(hc:X.calm=true)(hu:X.A.units+64<cLine):cD X (.type "dict") (zu W iQ):=by
 intro aa s σ H xs us Q I r h;obtain⟨H0,G,ps,rr,sg,tp,e,wq⟩:=h
 obtain⟨ks,qs,rfl,a,vs,av,rfl,h1,pw,zs,z1,z2,z3⟩:=rN hK sg tp e
 refine uJ hc (by omega) aa s σ H _ us Q I r ⟨a,vs,_,rfl,h1,pw,λp o hn=>?_⟩
 rw [z3];refine wq _ _ _ (.new sg hn) ?_;simp only [Rep];exact⟨p,o,zs,rfl,z1,ak,aj.same (bD (sg.free hn)) _ z2⟩
end
end Ci
namespace L2
open PySem PySem.Spec PyProof.Rows
section
variable{X:Cx}{scope:Scope}{xs ys:List Str}{is:List Nat}
theorem pP{i₀:Nat}{x₀:Str}{pos' f9:Pos}{elt tg iter Ky:Expr}{pos:Pos}{wi:TI}{g:TG}{te:TE}{tt:TT}(hN₀:X.N.Nodup)(hi₀:X.N[i₀]?=some x₀)(hx₀:Loc X.env.scope x₀)(hc:X.calm=true)(S:fe X scope xs ys is)(hi:PI X tg iter wi)
 (hg:∀fp s1 H1 C,PG (cu X (xs++ys) scope (bP X.env ys) fp s1 H1 C) tg g) (ht:∀fp s1 H1 C,PT (cu X (xs++ys) scope (bP X.env ys) fp s1 H1 C) Ky tt) (he:∀fp s1 H1 C,PE (cu X (xs++ys) scope (bP X.env ys) fp s1 H1 C) elt te)
 (Ba:swapsWith (.ListComp elt [⟨tg,iter,[Ky],0⟩] scope pos) (some (.Name x₀ pos')) f9.line X.env=pure true:=by rfl)
 (hs:∀x,foldedSetIterable iter X.env x=pure x:=by intro _;rfl) (hf₀:X.fn x₀=true\/X.env.scope.names.lookup x₀=some .local:=by first|exact .inl rfl|exact .inr rfl|assumption):
 PS X (.Assign [.Name x₀ pos'] (.ListComp elt [⟨tg,iter,[Ky],0⟩] scope pos) f9) (Cp (k7 wi xs.length g tt te is) (dz i₀)):=by
 intro aa s σ H D₀ I h;rw [exec_Assign_Name_used _ _ _ _ Ba];refine zzA (wpAny_standAt (zzA ?_));show wpAny _ X.A (do let _<-comprehension (.ListComp elt [⟨tg,iter,[Ky],0⟩] scope pos) scope X.env _ (newList []) false (eval iter X.env) (some (assign (.Name x₀ pos') X.env))) _ _ s;refine zzA (wpAny_mono (g6 (QQ:=λ_ s'=>∃σ2 H2,Inv X aa σ2 H2 s'/\D₀.nx σ2 H2) (Q:=λv H4=>dz i₀ v σ H4 D₀.nx) hc S hi hg (λfp s1 H1 C=>vo (ht fp s1 H1 C)) he hs I h λD C s4 H4 m I5 hn ⟨g0,g1,_,g3,g4,g5⟩ q=>?_) (λ_ s' hq=>zzG (zzG hq)) λ_ _ e=>e)
 refine wpAny_assign_Name (jZ I5 hN₀ hi₀ hx₀ (show RelV (.ref D) (.ref D) from rfl) (λs6 I6 ⟨a6,sb6,ha6⟩=>?_) hf₀);have A3:C≠a6:=by
  rcases ha6 with z|z
  ·rw [z];exact g1
  ·exact λz2=>g4 _ _ z z2.symm
 exact⟨m,hn.sameBut sb6 A3,λh' yi=>⟨_,_,I6.turned (t':=s6.toks) (it:=C) (λb o hb e=>yi.extBut b o hb e) g0 g1 g3 g4 g5,q⟩⟩
end
open PySem.AutoSeq1 (wpAny_loadPart')
section
variable{prog:Program}{w:World}{A:Around}{E:Value->Shared->Prop}{s:Shared}{jt tu:Addr}{i:Nat}{ay:Array Value}{Q:Value->Shared->Prop}
theorem km{x:Value}(ih:s.heap.IsTupleIter jt tu i)(th:s.heap.IsTuple tu ay)(hx:ay[i]?=some x)
 (k:∀g,g.IsTupleIter jt tu (i+1)->Heap.SameBut jt s.heap g->Q x {s with heap:=g}):wpAny (model prog w) A (Builtin.SmallTypes.nextOf (.ref jt)) Q E s:=by
 obtain⟨ob,e1,e2,e3⟩:=id ih
 obtain⟨ot,f1,_,nn,f2⟩:=th
 unfold Builtin.SmallTypes.nextOf;refine zzA (wpAny_callSpecial?_slot (name:=Str.ofString "__next__") ih.typeIs F.slot_tuple_iterator_next (wpAny_call_entry F.slot_tuple_iterator_next ih.typeIs F.entry_tuple_iterator_next ?_ (F.args_tuple_iterator_next_1 _)));show wpAny _ _ (field (.ref jt) 0>>=_) _ _ s;refine zzA (wpAny_field e1 e3 (x:=.ref tu) rfl ?_);show wpAny _ _ (if(Value.ref tu==Value.none)=true then _ else _) _ _ s;rw [if_neg (show¬((Value.ref tu==Value.none)=true) from zzf)];show wpAny _ _ (field (.ref jt) 1>>=_) _ _ s;refine zzA (wpAny_field e1 e3 (x:=.int i 0) rfl ?_);show wpAny _ _ (seqItems? (.ref tu)>>=_) _ _ s;refine zzA (wpAny_seqItems f1 f2 ?_);simp only [Int.toNat_natCast,hx];refine zzA (wpAny_setField e1 e3 (by simp) (zzG ⟨x,rfl,zzG (k _ ?_ (Heap.SameBut.update ..))⟩));exact⟨_,Heap.get?_update_self _ e1 (Obj.isFreed_of_fields (Obj.data_mapFields e3 _)),(Obj.cls_mapFields ..).trans e2,by rw [Obj.data_mapFields e3];simp [rawInt]⟩
theorem mr(hh:A.handled=none)(ih:s.heap.IsTupleIter jt tu i)(th:s.heap.IsTuple tu ay)(hx:ay[i]?=none)
 (k:∀g e,Heap.ExtBut jt s.heap g->(∃o,g.get? e=some o/\o.cls=.type "StopIteration")->E (.ref e) {s with heap:=g}):wpAny (model prog w) A (Builtin.SmallTypes.nextOf (.ref jt)) Q E s:=by
 obtain⟨ob,e1,e2,e3⟩:=id ih
 obtain⟨ot,f1,_,nn,f2⟩:=th
 unfold Builtin.SmallTypes.nextOf;refine zzA (wpAny_callSpecial?_slot (name:=Str.ofString "__next__") ih.typeIs F.slot_tuple_iterator_next (wpAny_call_entry F.slot_tuple_iterator_next ih.typeIs F.entry_tuple_iterator_next ?_ (F.args_tuple_iterator_next_1 _)));show wpAny _ _ (field (.ref jt) 0>>=_) _ _ s;refine zzA (wpAny_field e1 e3 (x:=.ref tu) rfl ?_);show wpAny _ _ (if(Value.ref tu==Value.none)=true then _ else _) _ _ s;rw [if_neg (show¬((Value.ref tu==Value.none)=true) from zzf)];show wpAny _ _ (field (.ref jt) 1>>=_) _ _ s;refine zzA (wpAny_field e1 e3 (x:=.int i 0) rfl ?_);show wpAny _ _ (seqItems? (.ref tu)>>=_) _ _ s;refine zzA (wpAny_seqItems f1 f2 ?_);simp only [Int.toNat_natCast,hx];refine zzA (wpAny_rule (zzA (wpAny_setField e1 e3 (by simp) ?_)));show wpAny _ _ (newExc (.type "StopIteration") []>>=_) _ _ _;refine zzA ?_;simp only [newExc,newTuple];refine zzA (wpAny_newObj_type ?_ (by size_fits));refine zzA (m:=firstArgMember _ _) (wpAny_of_eq (a:=Value.none) (by first|rfl|(simp only [firstArgMember];rfl)) ?_);refine wpAny_newObj_type ?_ (by size_fits);simp only [raiseNew];refine zzA (wpAny_handled ?_)
 first|rw [show A.in1.handled=none from hh]|rw [hh]
 refine zzA (zzG (wpAny_throw ?_));exact k _ _ (((Heap.SameBut.update ..).extBut.push _).push _) ⟨_,zzX _ rfl,rfl⟩
end
theorem nR{prog:Program}{w:World}{A:Around}(hh:A.handled=none)(jt tu:Addr)(qM:tu≠jt)(ay:Array Value):
 Draws prog w A jt [jt,tu] ay.size (λi v=>ay[i]?=some v) (λi h=>h.IsTupleIter jt tu i/\h.IsTuple tu ay) where
 live:=λ_ _ st=>let⟨o,ho,_⟩:=st.1;⟨o,ho⟩
 frame:=λ_ _ _ st hk=>⟨st.1.at λo e=>hk jt (by simp) o e,by obtain⟨o,e,r⟩:=st.2;exact⟨o,hk tu (by simp) o e,r⟩⟩
 item:=λi s Q E hi st hQ=>km st.1 st.2 (x:=ay[i]) (by simp [hi]) λg ig sb=>hQ _ g s.toks (by simp [hi]) ⟨ig,by obtain⟨o,e,r⟩:=st.2;exact⟨o,sb.extBut _ _ qM e,r⟩⟩ sb
 done:=λs Q E st hE=>mr hh st.1 st.2 (by simp) hE
theorem yB(l:Addr)(items:Array Value)(n:Nat)(aP:Option Addr)(sl:Array (Option Value)):
 Meets (Builtin.«enumerate.__new__» ⟨[.type "enumerate",.ref l],[]⟩) (λ_ R s=>s.heap.get? l=some {cls:=.type "tuple",dict:=aP,data:=.seq items n,slots:=sl}/\
  R (.ok (.ret (.ref (s.heap.push {cls:=.type "tuple_iterator",data:=.fields #[.ref l,.int 0 0]}).objs.size)))
   {s with heap:=(s.heap.push {cls:=.type "tuple_iterator",data:=.fields #[.ref l,.int 0 0]}).push {cls:=.type "enumerate",data:=.fields #[.none,.bool false,.ref s.heap.objs.size,rawInt 0,.none,.none]}}):=
 .of_wp λprog w A R s h=>by
  obtain⟨hp,g,d,tk,os⟩:=s
  obtain⟨hl,h⟩:=h
  have Uo:=sub_enumerate
  have hL:Heap.IsTuple (Shared.heap ⟨hp,g,d,tk,os⟩) l items:=⟨_,hl,rfl,n,rfl⟩
  wp_walk using wpAny_loadPart' hl
  refine wpAny_stack_any λst=>zzG ?_
  split
  ·rename_i c _ _ _ _ _;cases(c==Value.type "enumerate")<;>(wp_walk using wpAny_loadPart' hl,wpAny_pyIter_tuple hL;exact⟨_,rfl,h⟩)
  ·wp_walk using wpAny_loadPart' hl,wpAny_pyIter_tuple hL
   exact⟨_,rfl,h⟩
theorem fW{h:Heap}{a b:Addr}{o1 o2:Obj}(h1:h.get? a=some o1)(h2:h.get? b=some o2)(hc:o1.cls≠o2.cls):a≠b:=λz=>by
 subst z;rw [h1] at h2;cases h2;exact hc rfl
theorem ft(z:Str):strIterType z="str_ascii_iterator"\/strIterType z="str_iterator":=by
 unfold strIterType;split
 ·exact .inl rfl
 ·exact .inr rfl
theorem jv{X:Cx}{aa:List (Addr×Obj)}{σ:St}{H:Hp}{s:Shared}{E:Value->Shared->Prop}{e it:Addr}{SV:List Addr}{n i:Nat}{Pv:Nat->Value->Prop}{Sv:Nat->Heap->Prop}{old:Value}{Gx:V->Prop}{elts:List Expr}{x1:Nat}{pos:Pos}
 (I:Inv X aa σ H s) (D:Draws X.prog X.w X.A.in1 it SV n Pv Sv) (he:IsEnum s.heap e it i old) (dN:Sv i s.heap) (cg:i<n) (qM:e≠it) (Tq:e∉SV) (hf:∀b∈[e,it],fD X aa H b) (hP:∀u,Pv i u->∃x,RelV x u/\Gx x):
 wpAny (model X.prog X.w) X.A (pyNext (.ref e)) (λr s1=>∃u,r=some u/\wpAny (model X.prog X.w) X.A (letOwnedTupleGo (.Tuple elts x1 pos) (.ref e) u) (λ_ s2=>∃x p,u=.ref p/\Gx x/\H p=none/\e≠p/\it≠p/\
  Inv X aa σ (upd H p (.tup [.int i,x])) s2/\(∃P9,IsEnum s2.heap e it ((i:Int)+1) P9)/\Sv (i+1) s2.heap) E s1) E s:=by
 refine wpAny_pyNext_enum_itemD D he dN cg qM Tq λu h' tk pu ho kM ht hz kk=>?_
 obtain⟨x,rx,gx⟩:=hP u pu
 obtain⟨f0,f1,f2,f3,f4,f5⟩:=hf e (by simp)
 obtain⟨g0,g1,g2,g3,g4,g5⟩:=hf it (by simp)
 have xJ:H s.heap.objs.size=none:=I.aQ.fresh (zzE _)
 obtain⟨oi,hoi⟩:=D.live _ _ dN
 have RS:e≠s.heap.objs.size:=zzb (zzO he)
 have Vb:it≠s.heap.objs.size:=zzb (zzO hoi)
 have F7:∀b o,H b=some o->b≠e/\b≠it/\b≠s.heap.objs.size:=λb o q=>⟨(λz=>(by rw [z,f0] at q;cases q)),(λz=>(by rw [z,g0] at q;cases q)),zzb (I.aQ.lt q)⟩
 have I1:Inv X aa σ (upd H s.heap.objs.size (.tup [.int i,x])) {s with heap:=h',toks:=tk+1}:=by
  refine I.step (g':=s.gens) (d':=s.drawn) (ch:=[e,it]) (λb hb=>?_) (λb o _ _ hc q _=>kk b o (λz=>hc (by simp [z])) (λz=>hc (by simp [z])) q)
   (λb o _ _ hc q _=>⟨o.slots,kk b o (λz=>hc (by simp [z])) (λz=>hc (by simp [z])) q⟩) (λb o _ q nb=>by rw [ae (zzb (zzO q))];exact nb)
   (λb o hc q=>⟨o,kk b o (λz=>hc (by simp [z])) (λz=>hc (by simp [z])) q⟩) (λb xs q=>by rw [ae (F7 b _ q).2.2];exact q) (λb o u q=>by rw [ae (F7 b _ q).2.2];exact q)
   (λb ps q=>⟨#[],by rw [ae (F7 b _ q).2.2,q];simp⟩) (λm hm=>?_) (λb o q=>?_) I.bare
  ·rcases List.mem_cons.mp hb with z|z
   ·subst z;exact⟨f3,f1,f4,f5⟩
   ·rw [zzi.mp z];exact⟨g3,g1,g4,g5⟩
  ·obtain⟨o,es,ep,q,r⟩:=hm
   exact⟨o,es,ep,kk _ o (Ne.symm f1) (Ne.symm g1) q,r⟩
  ·by_cases hb:b=s.heap.objs.size
   ·subst hb;rw [ak] at q;cases q;exact⟨(show 2<=sizeLine by decide),[.int i tk,u],.cons ⟨tk,rfl⟩ (.cons rx .nil),⟨_,ht,rfl,_,rfl⟩⟩
   ·rw [ae hb] at q;refine(I.aQ b o q).eF (λc v hc z=>kk c v ?_ ?_ z) (λc z=>by rw [ae (F7 c _ z).2.2];exact z) λc xs z=>by rw [ae (F7 c _ z).2.2];exact z
    ·rcases hc with z'|z'
     ·rw [z'];exact(F7 b o q).1
     ·exact(F7 c _ z').1
    ·rcases hc with z'|z'
     ·rw [z'];exact(F7 b o q).2.1
     ·exact(F7 c _ z').2.1
 refine⟨_,rfl,wpAny_letOwnedTupleGo_enum ho λh2 HA sb=>?_⟩
 refine⟨x,s.heap.objs.size,rfl,gx,xJ,RS,Vb,I1.turned (t':=tk+1) (it:=e) (λb o hb q=>sb.extBut b o hb q) (by rw [ae RS];exact f0) f1 f3 f4 f5,⟨_,HA⟩,D.frame _ _ _ kM λb hb o q=>sb.extBut b o (λz=>Tq (z▸hb)) q⟩
noncomputable def P4(K:PySem.W.Frag)(a:Addr)(xs:List V):It:=
 ⟨λi H=>f6 K H a xs/\i<xs.length,λi H v H'=>∃p x,v=.ref p/\H p=none/\H'=upd H p (.tup [.int (i:Nat),x])/\xs[i]?=some x,λi H=>f6 K H a xs/\i=xs.length⟩
noncomputable def Od(z:Str):It:=
 ⟨λi _=>i<z.cps.size,λi H v H'=>∃p c,v=.ref p/\H p=none/\H'=upd H p (.tup [.int (i:Nat),.str ⟨#[c]⟩])/\z.cps[i]?=some c,λi _=>i=z.cps.size⟩
theorem uN{P:Program}{w:World}{K:PySem.W.Frag}{elts:List Expr}{x1:Nat}{pos:Pos}(a e it:Addr)(xs:List V):Turn P w K (.Tuple elts x1 pos) (P4 K a xs) [e,it] e (λi h=>(∃old,IsEnum h e it i old)/\h.IsTupleIter it a i) where
 mem:=by simp
 obj:=λi h st b hb=>by
  obtain⟨⟨old,he⟩,o,ho,_,hd⟩:=st
  rcases List.mem_cons.mp hb with z|z
  ·subst z;exact⟨_,he,λv q=>by cases q⟩
  ·rw [zzi.mp z];exact⟨o,ho,λv q=>by rw [hd] at q;cases q⟩
 keep:=λi h h' st k=>⟨by obtain⟨old,he⟩:=st.1;exact⟨old,k e (by simp) _ he⟩,st.2.at λo q=>k it (by simp) o q⟩
 item:=by
  intro X hP hw hK hc i aa s σ H E I hf st hg;subst hP hw hK;obtain⟨hq,cg⟩:=hg
  obtain⟨⟨old,he⟩,hit⟩:=st
  obtain⟨ay,rv,p,hz⟩:=I.tuple hq
  have hl:=rv.length
  have kl:=hit
  obtain⟨oi,e1,e2,_⟩:=hit
  obtain⟨oa,a1,a2,_⟩:=id p
  have A3:a≠it:=fW a1 e1 (by rw [a2,e2];decide+kernel)
  have GK:e≠it:=fW he e1 (by rw [e2];show Value.type "enumerate"≠_;decide+kernel)
  have HK:e≠a:=fW he a1 (by rw [a2];show Value.type "enumerate"≠_;decide+kernel)
  refine bR (jv (Gx:=λx=>xs[i]?=some x) I (nR (A:=X.A.in1) (I.ok.hd hc) it a A3 ay.toArray) he ⟨kl,p⟩ (by rw [zzC];omega) GK (by simp [GK,HK]) hf (λu hu=>?_)) λr s1 ⟨u,hr,k⟩=>⟨u,hr,bR k λ_ s2 ⟨x,q,z1,z2,z3,z4,z5,z6,z7,z8⟩=>?_⟩
  ·have Ni:xs[i]?=some xs[i]:=zzg cg
   obtain⟨u',hu',ru'⟩:=rv.get Ni
   have:ay.toArray[i]?=some u':=by simpa using hu'
   have KI:ay.toArray[i]?=some u:=hu
   rw [this] at KI;cases KI;exact⟨xs[i],ru',Ni⟩
  ·exact⟨.ref q,_,z6,z1.symm▸rfl,⟨q,x,rfl,z3,rfl,z2⟩,⟨z7,z8.1⟩,λb hb=>by
    rcases List.mem_cons.mp hb with w|w
    ·rw [w,ae z4];exact(hf e (by simp)).1
    ·rw [zzi.mp w,ae z5];exact(hf it (by simp)).1⟩
 done:=by
  intro X hP hw hK hc i aa s σ H E I hf st hg;subst hP hw hK;obtain⟨hq,rfl⟩:=hg
  obtain⟨⟨old,he⟩,hit⟩:=st
  obtain⟨ay,rv,p,hz⟩:=I.tuple hq
  have hl:=rv.length
  have kl:=hit
  obtain⟨oi,e1,e2,_⟩:=hit
  obtain⟨oa,a1,a2,_⟩:=id p
  have A3:a≠it:=fW a1 e1 (by rw [a2,e2];decide+kernel)
  obtain⟨g0,g1,g2,g3,g4,g5⟩:=hf it (by simp)
  refine wpAny_pyNext_enum_endD (nR (A:=X.A.in1) (I.ok.hd hc) it a A3 ay.toArray) he ⟨by rw [zzC,<-hl];exact kl,p⟩ λh' eb=>⟨rfl,I.turned (t':=s.toks) (λb o hb q=>eb b o hb q) g0 g1 g3 g4 g5⟩
 self:=λ_ _ _ _ _ st h=>by obtain⟨⟨old,he⟩,_⟩:=st;exact wpAny_pyIter_enum he h
theorem nC{prog:Program}{w:World}{A:Around}{E:Value->Shared->Prop}{s:Shared}{l:Addr}{items:Array Value}{Q:Value->Shared->Prop}(hL:IsTup s.heap l items)
 (h:∀g,IsEnum g (s.heap.objs.size+1) s.heap.objs.size 0 .none->g.IsTupleIter s.heap.objs.size l 0->(∀b o,s.heap.get? b=some o->g.get? b=some o)->Q (.ref (s.heap.objs.size+1)) {s with heap:=g}):
 wpAny (model prog w) A (call (.type "enumerate") [.ref l]) Q E s:=by
 obtain⟨⟨cls,dd,data,sl⟩,ho,hc,n,hd⟩:=id hL
 simp only at hc hd;subst hc hd;have hz:(s.heap.push {cls:=.type "tuple_iterator",data:=.fields #[.ref l,.int 0 0]}).objs.size=s.heap.objs.size+1:=Heap.size_push ..
 refine callType_new F.called_enumerate (by decide) (F.typeCall_enumerate_1 _) (F.newCall_enumerate_1 _) (λobj=>F.args_object_init_2 obj _) F.entry_enumerate_new (yB l items n dd sl) ⟨ho,?_⟩;show _/\_;rw [hz];have he:IsEnum ((s.heap.push {cls:=.type "tuple_iterator",data:=.fields #[.ref l,.int 0 0]}).push {cls:=.type "enumerate",data:=.fields #[.none,.bool false,.ref s.heap.objs.size,rawInt 0,.none,.none]}) (s.heap.objs.size+1) s.heap.objs.size 0 .none:=by
  have q:=zzX (s.heap.push {cls:=.type "tuple_iterator",data:=.fields #[.ref l,.int 0 0]}) (o:={cls:=.type "enumerate",data:=.fields #[.none,.bool false,.ref s.heap.objs.size,rawInt 0,.none,.none]}) rfl
  rw [hz] at q;exact q
 exact⟨⟨_,he,rfl⟩,h _ he ⟨_,zzB _ (zzX _ rfl),rfl,rfl⟩ λb o x=>zzB _ (zzB _ x)⟩
section
variable{X:Cx}{elts:List Expr}{x1:Nat}{uT:Pos}
noncomputable def Qs(K:PySem.W.Frag)(ta:TA):TI:=λσ H R=>ta σ H λvs H1=>∃a xs,vs=[.ref a]/\f6 K H1 a xs/\R (P4 K a xs) H1
theorem Ap{a:Expr}{ta:TA}{p pos:Pos}(hg:Gl X "enumerate")(hm:X.mg "enumerate"=none)(ha:PA X [a] ta)(hs:starEach [a] X.env=[(false,eval a X.env)]:=by rfl):PI X (.Tuple elts x1 uT) (.Call (.Name "enumerate" p) [a] [] pos) (Qs X.K ta):=by
 intro aa s σ H R I h;refine Call_ (fQ I hg hm boot_enumerate (PyProof.Rows.callWith_type1 (bR (ha pos aa s σ H _ I h) λus s1 ⟨vs,H1,I1,r1,q1⟩=>?_) hs rfl))
 obtain⟨a,xs,e,hq,q⟩:=q1
 subst e;obtain⟨u,rfl,ru⟩:=vals1 r1
 cases ru;obtain⟨ay,rv,pt,hz⟩:=I1.tuple hq
 refine nC pt λg he hi kp=>wpAny_pyIter_enum he ?_
 have I2:Inv X aa σ H1 {s1 with heap:=g}:=I1.kept (t':=s1.toks) kp
 refine⟨s1.heap.objs.size+1,[s1.heap.objs.size+1,s1.heap.objs.size],_,_,H1,rfl,I2,uN a _ s1.heap.objs.size xs,⟨⟨_,he⟩,hi⟩,λb hb=>?_,q⟩
 have nk:s1.heap.objs.size<=b:=by
  rcases List.mem_cons.mp hb with z|z
  ·rw [z];exact Nat.le_succ _
  ·rw [zzi.mp z];exact zzE _
 exact I1.lB nk (I1.aQ.fresh nk)
end
theorem tY{P:Program}{w:World}{K:PySem.W.Frag}{elts:List Expr}{x1:Nat}{pos:Pos}(z:Str)(t:Tok)(e it:Addr):Turn P w K (.Tuple elts x1 pos) (Od z) [e,it] e (λi h=>(∃old,IsEnum h e it i old)/\h.IsStrIter it (strIterType z) z t i) where
 mem:=by simp
 obj:=λi h st b hb=>by
  obtain⟨⟨old,he⟩,o,ho,_,hd⟩:=st
  rcases List.mem_cons.mp hb with q|q
  ·subst q;exact⟨_,he,λv q=>by cases q⟩
  ·rw [zzi.mp q];exact⟨o,ho,λv q=>by rw [hd] at q;cases q⟩
 keep:=λi h h' st k=>⟨by obtain⟨old,he⟩:=st.1;exact⟨old,k e (by simp) _ he⟩,by obtain⟨o,q,r⟩:=st.2;exact⟨o,k it (by simp) o q,r⟩⟩
 item:=by
  intro X hP hw hK hc i aa s σ H E I hf st hg;subst hP hw hK;have cg:i<z.cps.size:=hg
  obtain⟨⟨old,he⟩,hit⟩:=st
  have kl:=hit
  obtain⟨oi,e1,e2,_⟩:=hit
  have GK:e≠it:=fW he e1 (by
   rw [e2];show Value.type "enumerate"≠_;rcases ft z with q|q<;>rw [q]<;>decide+kernel)
  have fin:∀{Sv:Nat->Heap->Prop},Draws X.prog X.w X.A.in1 it [it] z.cps.size (λi v=>∃c u,z.cps[i]?=some c/\v=.str ⟨#[c]⟩ u) Sv->Sv i s.heap->(∀h,Sv (i+1) h->h.IsStrIter it (strIterType z) z t (i+1))->
   wpAny (model X.prog X.w) X.A (pyNext (.ref e)) (λr s1=>∃u,r=some u/\wpAny (model X.prog X.w) X.A (letOwnedTupleGo (.Tuple elts x1 pos) (.ref e) u) (λ_ s2=>∃x H',Inv X aa σ H' s2/\RelV x u/\(Od z).LO i H x H'/\((∃old,IsEnum s2.heap e it (((i+1:Nat)):Int) old)/\s2.heap.IsStrIter it (strIterType z) z t (i+1))/\∀b∈[e,it],H' b=none) E s1) E s:=by
   intro Sv D dN back;refine bR (jv (Gx:=λx=>∃c,x=.str ⟨#[c]⟩/\z.cps[i]?=some c) I D he dN cg GK (by simp [GK]) hf (λu ⟨c,tk,hc,hu⟩=>⟨.str ⟨#[c]⟩,⟨tk,hu⟩,c,rfl,hc⟩)) λr s1 ⟨u,hr,k⟩=>⟨u,hr,bR k λ_ s2 ⟨x,q,z1,⟨c,z2,pd⟩,z3,z4,z5,z6,z7,z8⟩=>?_⟩
   subst z2;exact⟨.ref q,_,z6,z1.symm▸rfl,⟨q,c,rfl,z3,rfl,pd⟩,⟨z7,back _ z8⟩,λb hb=>by
    rcases List.mem_cons.mp hb with w|w
    ·rw [w,ae z4];exact(hf e (by simp)).1
    ·rw [zzi.mp w,ae z5];exact(hf it (by simp)).1⟩
  rcases ft z with q|q
  ·rw [q] at kl⊢;rw [q] at fin;exact fin (Draws.strAscii (A:=X.A.in1) (I.ok.hd hc) it z t) kl λh st=>st
  ·rw [q] at kl⊢;rw [q] at fin;exact fin (Draws.strWide (A:=X.A.in1) (I.ok.hd hc) it z t) kl λh st=>st
 done:=by
  intro X hP hw hK hc i aa s σ H E I hf st hg;subst hP hw hK;have hi:i=z.cps.size:=hg
  subst hi;obtain⟨⟨old,he⟩,hit⟩:=st
  obtain⟨g0,g1,g2,g3,g4,g5⟩:=hf it (by simp)
  rcases ft z with q|q
  ·rw [q] at hit;exact wpAny_pyNext_enum_endD (Draws.strAscii (A:=X.A.in1) (I.ok.hd hc) it z t) he hit λh' eb=>⟨rfl,I.turned (t':=s.toks) (λb o hb q=>eb b o hb q) g0 g1 g3 g4 g5⟩
  ·rw [q] at hit;exact wpAny_pyNext_enum_endD (Draws.strWide (A:=X.A.in1) (I.ok.hd hc) it z t) he hit λh' eb=>⟨rfl,I.turned (t':=s.toks) (λb o hb q=>eb b o hb q) g0 g1 g3 g4 g5⟩
 self:=λ_ _ _ _ _ st h=>by obtain⟨⟨old,he⟩,_⟩:=st;exact wpAny_pyIter_enum he h
section
variable{X:Cx}{elts:List Expr}{x1:Nat}{uT:Pos}
noncomputable def PR(ta:TA):TI:=λσ H R=>ta σ H λvs H1=>∃z,vs=[.str z]/\R (Od z) H1
theorem AL{a:Expr}{ta:TA}{p pos:Pos}(hg:Gl X "enumerate")(hm:X.mg "enumerate"=none)(ha:PA X [a] ta)(hs:starEach [a] X.env=[(false,eval a X.env)]:=by rfl):PI X (.Tuple elts x1 uT) (.Call (.Name "enumerate" p) [a] [] pos) (PR ta):=by
 intro aa s σ H R I h;refine Call_ (fQ I hg hm boot_enumerate (PyProof.Rows.callWith_type1 (bR (ha pos aa s σ H _ I h) λus s1 ⟨vs,H1,I1,r1,q1⟩=>?_) hs rfl))
 obtain⟨z,e,q⟩:=q1
 subst e;obtain⟨u,rfl,t,rfl⟩:=vals1 r1
 refine call_enumerate_str λg he hi hz kp=>wpAny_pyIter_enum he ?_
 have I2:Inv X aa σ H1 {s1 with heap:=g}:=I1.kept (t':=s1.toks) kp
 refine⟨s1.heap.objs.size+1,[s1.heap.objs.size+1,s1.heap.objs.size],_,_,H1,rfl,I2,tY z t _ s1.heap.objs.size,⟨⟨_,he⟩,hi⟩,λb hb=>?_,q⟩
 have nk:s1.heap.objs.size<=b:=by
  rcases List.mem_cons.mp hb with z|z
  ·rw [z];exact Nat.le_succ _
  ·rw [zzi.mp z];exact zzE _
 exact I1.lB nk (I1.aQ.fresh nk)
end
noncomputable def IA(K:PySem.W.Frag)(a:Addr)(xs:List V):It:=
 ⟨λi H=>gz K H a xs/\i<xs.length,λi H v H'=>∃p x,v=.ref p/\H p=none/\H'=upd H p (.tup [.int (i:Nat),x])/\xs[i]?=some x,λi H=>gz K H a xs/\i=xs.length⟩
theorem vd{P:Program}{w:World}{K:PySem.W.Frag}{elts:List Expr}{x1:Nat}{pos:Pos}(a e it:Addr)(xs:List V):Turn P w K (.Tuple elts x1 pos) (IA K a xs) [e,it] e (λi h=>(∃old,IsEnum h e it i old)/\h.IsListIter it a i) where
 mem:=by simp
 obj:=λi h st b hb=>by
  obtain⟨⟨old,he⟩,o,ho,_,hd⟩:=st
  rcases List.mem_cons.mp hb with z|z
  ·subst z;exact⟨_,he,λv q=>by cases q⟩
  ·rw [zzi.mp z];exact⟨o,ho,λv q=>by rw [hd] at q;cases q⟩
 keep:=λi h h' st k=>⟨by obtain⟨old,he⟩:=st.1;exact⟨old,k e (by simp) _ he⟩,st.2.at λo q=>k it (by simp) o q⟩
 item:=by
  intro X hP hw hK hc i aa s σ H E I hf st hg;subst hP hw hK;obtain⟨hq,cg⟩:=hg
  obtain⟨⟨old,he⟩,hit⟩:=st
  obtain⟨ay,rv,p,hz⟩:=I.list hq
  have hl:=rv.length
  have kl:=hit
  obtain⟨oi,e1,e2,_⟩:=hit
  obtain⟨oa,a1,a2,_⟩:=p.isList
  have A3:a≠it:=fW a1 e1 (by rw [a2,e2];decide+kernel)
  have GK:e≠it:=fW he e1 (by rw [e2];show Value.type "enumerate"≠_;decide+kernel)
  have HK:e≠a:=fW he a1 (by rw [a2];show Value.type "enumerate"≠_;decide+kernel)
  refine bR (jv (Gx:=λx=>xs[i]?=some x) I (Draws.list (A:=X.A.in1) (I.ok.hd hc) it a A3 ay.toArray) he ⟨kl,p.isList⟩ (by rw [zzC];omega) GK (by simp [GK,HK]) hf (λu hu=>?_)) λr s1 ⟨u,hr,k⟩=>⟨u,hr,bR k λ_ s2 ⟨x,q,z1,z2,z3,z4,z5,z6,z7,z8⟩=>?_⟩
  ·have Ni:xs[i]?=some xs[i]:=zzg cg
   obtain⟨u',hu',ru'⟩:=rv.get Ni
   have:ay.toArray[i]?=some u':=by simpa using hu'
   have KI:ay.toArray[i]?=some u:=hu
   rw [this] at KI;cases KI;exact⟨xs[i],ru',Ni⟩
  ·exact⟨.ref q,_,z6,z1.symm▸rfl,⟨q,x,rfl,z3,rfl,z2⟩,⟨z7,z8.1⟩,λb hb=>by
    rcases List.mem_cons.mp hb with w|w
    ·rw [w,ae z4];exact(hf e (by simp)).1
    ·rw [zzi.mp w,ae z5];exact(hf it (by simp)).1⟩
 done:=by
  intro X hP hw hK hc i aa s σ H E I hf st hg;subst hP hw hK;obtain⟨hq,rfl⟩:=hg
  obtain⟨⟨old,he⟩,hit⟩:=st
  obtain⟨ay,rv,p,hz⟩:=I.list hq
  have hl:=rv.length
  have kl:=hit
  obtain⟨oi,e1,e2,_⟩:=hit
  obtain⟨oa,a1,a2,_⟩:=p.isList
  have A3:a≠it:=fW a1 e1 (by rw [a2,e2];decide+kernel)
  obtain⟨g0,g1,g2,g3,g4,g5⟩:=hf it (by simp)
  refine wpAny_pyNext_enum_endD (Draws.list (A:=X.A.in1) (I.ok.hd hc) it a A3 ay.toArray) he ⟨by rw [zzC,<-hl];exact kl,p.isList⟩ λh' eb=>⟨rfl,I.turned (t':=s.toks) (λb o hb q=>eb b o hb q) g0 g1 g3 g4 g5⟩
 self:=λ_ _ _ _ _ st h=>by obtain⟨⟨old,he⟩,_⟩:=st;exact wpAny_pyIter_enum he h
section
variable{X:Cx}{elts:List Expr}{x1:Nat}{uT:Pos}
noncomputable def QZ(K:PySem.W.Frag)(ta:TA):TI:=λσ H R=>ta σ H λvs H1=>∃a xs,vs=[.ref a]/\gz K H1 a xs/\R (IA K a xs) H1
theorem sE{a:Expr}{ta:TA}{p pos:Pos}(hg:Gl X "enumerate")(hm:X.mg "enumerate"=none)(ha:PA X [a] ta)(hs:starEach [a] X.env=[(false,eval a X.env)]:=by rfl):PI X (.Tuple elts x1 uT) (.Call (.Name "enumerate" p) [a] [] pos) (QZ X.K ta):=by
 intro aa s σ H R I h;refine Call_ (fQ I hg hm boot_enumerate (PyProof.Rows.callWith_type1 (bR (ha pos aa s σ H _ I h) λus s1 ⟨vs,H1,I1,r1,q1⟩=>?_) hs rfl))
 obtain⟨a,xs,e,hq,q⟩:=q1
 subst e;obtain⟨u,rfl,ru⟩:=vals1 r1
 cases ru;obtain⟨ay,rv,pt,hz⟩:=I1.list hq
 refine call_enumerate_list pt.isList λg he hi _ kp=>wpAny_pyIter_enum he ?_
 have I2:Inv X aa σ H1 {s1 with heap:=g}:=I1.kept (t':=s1.toks) kp
 refine⟨s1.heap.objs.size+1,[s1.heap.objs.size+1,s1.heap.objs.size],_,_,H1,rfl,I2,vd a _ s1.heap.objs.size xs,⟨⟨_,he⟩,hi⟩,λb hb=>?_,q⟩
 have nk:s1.heap.objs.size<=b:=by
  rcases List.mem_cons.mp hb with z|z
  ·rw [z];exact Nat.le_succ _
  ·rw [zzi.mp z];exact zzE _
 exact I1.lB nk (I1.aQ.fresh nk)
end
end L2
namespace Ci
open PySem L2
structure Hs where
 f:Str
 h:Str
 g:Str
 idx:List Nat
 np:Nat
structure Pg where
 gs:List (Str×PV)
 bs:List Str
 cs:List Str
 fs:List Str
 rs:List Str
 hs:List Hs:=[]
 hl:Bool:=false
def eJ(sc:Scope)(x:Str):Bool:=sc.names.lookup x==some .local||sc.names.lookup x==some .cell
def fq(sc:Scope)(x:Str):Bool:=eJ sc x||sc.names.lookup x==some .free
def hZ(sc:Scope)(x:Str):Bool:=sc.names.lookup x==some .globalImplicit
def litS:List PV->List PV->Bool
 |[],[]=>true
 |.str x::xs,.str y::ys=>x==y&&litS xs ys
 |_,_=>false
def vP:PV->PV->Bool
 |.int i,.int j=>i==j
 |.str x,.str y=>x==y
 |.tup xs,.tup ys=>litS xs ys
 |_,_=>false
theorem litS_eq:∀{xs ys:List PV},litS xs ys=true->xs=ys
 |[],[],_=>rfl
 |.str x::xs,.str y::ys,h=>by
  unfold litS at h;rw [zza] at h;rw [beq_iff_eq.mp h.1,litS_eq h.2]
theorem CC{p q:PV}(h:vP p q=true):p=q:=by
 unfold vP at h;split at h
 ·rw [beq_iff_eq.mp h]
 ·rw [beq_iff_eq.mp h]
 ·rw [litS_eq h]
 ·cases h
def bN:B->Str
 |.len=>"len"|.abs=>"abs"|.max2=>"max"|.int=>"int"|.str=>"str"|.tuple=>"tuple"|.all=>"all"|.dict=>"dict"|.mS=>"list"
def mN:M->Str
 |.iG=>"count"|.index=>"index"|.join=>"join"
def gQ:E->Bool
 |.fO _=>false
 |_=>true
def ij:Es->Bool
 |.nil=>true
 |.cons e es=>gQ e&&ij es
def Gj:I->Bool
 |.seq e=>gQ e
 |.kF _=>true
 |.qb _ _=>true
 |.enum e=>gQ e
def isNil:Es->Bool
 |.nil=>true
 |_=>false
def gO:Es->Nat
 |.nil=>0
 |.cons _ es=>gO es+1
def xP:Expr->Option (List Expr)
 |.Tuple es _ _=>some es
 |_=>none
theorem jd{e:Expr}{es:List Expr}(h:xP e=some es):∃k p,e=.Tuple es k p:=by
 cases e with
 |Tuple es k p=>cases h;exact⟨_,_,rfl⟩
 |_=>exact fg h
def rf{α:Type}:List α->Option (α×α)
 |[a,b]=>some (a,b)
 |_=>none
theorem vR{α:Type}{ts:List α}{q:α×α}(h:rf ts=some q):ts=[q.1,q.2]:=by
 cases ts with
 |nil=>exact fg h
 |cons a ts=>
  cases ts with
  |nil=>exact fg h
  |cons b ts=>
   cases ts with
   |cons _ _=>exact fg h
   |nil=>cases h;rfl
def OU(N:List Str)(sc:Scope)(fn:Str->Bool)(i:Nat)(p:Expr):Bool:=(fF p).any λx=>N[i]?==some x&&eJ sc x&&(fn x||sc.names.lookup x==some .local)
noncomputable def B9(N:List Str)(sc:Scope)(fn:Str->Bool):List Nat->List Expr->Bool
 |i::is,a::as=>OU N sc fn i a&&B9 N sc fn is as
 |[],[]=>true
 |_,_=>false
noncomputable def iu(N:List Str)(sc:Scope)(fn:Str->Bool):Tg->Expr->Bool
 |.one i,p=>OU N sc fn i p
 |.two i j,p=>(xP p).any (B9 N sc fn [i,j])
 |.three i j k,p=>(xP p).any (B9 N sc fn [i,j,k])
 |.Mh i j k,p=>(xP p).any λes=>(rf es).any λq=>OU N sc fn i q.1&&(xP q.2).any (B9 N sc fn [j,k])
noncomputable def aO:Expr->List Str
 |.Name x _=>[x]
 |.Tuple [.Name x _,.Name y _] _ _=>[x,y]
 |.Tuple [.Name x _,.Name y _,.Name z _] _ _=>[x,y,z]
 |.Tuple [.Name x _,.Tuple [.Name y _,.Name z _] _ _] _ _=>[x,y,z]
 |_=>[]
def du(scope sc:Scope):Scope:=
 {scope with names:=scope.names.map λ(n,k)=>if(k==.free&&sc.kind==.function&&sc.names.lookup n==some .cell) then(n,.cell) else(n,k)}
def freeOf(scope:Scope):List Str:=((scope.names.filter λp=>p.2==.free).map (·.1)).reverse
noncomputable def wo(N:List Str)(sc scope:Scope)(k:Nat)(bf:List Nat)(xs:List Str):Bool:=
 scope.kind==.function&&xs.length==k&&decide ((xs++freeOf scope).Nodup)
 &&(scope.names.all λy=>(decide (y.2≠.cell)||!(freeOf scope).contains y.1)&&(decide (y.2≠.free)||(freeOf scope).contains y.1))
 &&(scope.names.all λy=>decide (y.2≠.cell)||decide (scope.names.lookup y.1=some .cell))
 &&(scope.names.all λy=>decide (y.2≠.local)||decide (scope.names.lookup y.1=some .local))
 &&decide (bf.map (λi=>N[i]?)=(freeOf scope).map some)
 &&((freeOf scope).all λy=>decide (sc.names.lookup y=some .cell))
 &&((freeOf scope).all λy=>decide ((du scope sc).names.lookup y=some .cell))
noncomputable def jY(k:Nat):Tg->Bool
 |.one i=>decide (i<k)
 |.two i j=>decide (i<k)&&decide (j<k)
 |.three i j l=>decide (i<k)&&decide (j<k)&&decide (l<k)
 |.Mh i j l=>decide (i<k)&&decide (j<k)&&decide (l<k)
def fT:E->Bool
 |.ite _ _ _=>false
 |.not a=>fT a
 |.and a b=>fT a&&fT b
 |.or a b=>fT a&&fT b
 |_=>true
def isTup:Expr->Bool
 |.Tuple .. =>true
 |_=>false
noncomputable abbrev Pg.C6(Γ:Pg):Pg:={Γ with hl:=false}
theorem m5{α β:Type}{o:Option α}{f:α->Option β}{b:β}(h:o.bind f=some b):∃a,o=some a/\f a=some b:=zzZ.1 h
theorem if1{α:Type}{c:Bool}{a b:α}(h:(if c=true then some a else none)=some b):c=true/\a=b:=by
 cases c with
 |true=>cases h;exact⟨rfl,rfl⟩
 |false=>exact fg h
def gj{α:Type}:List α->Option α
 |[t]=>some t
 |_=>none
theorem dM{α:Type}{ts:List α}{t:α}(h:gj ts=some t):ts=[t]:=by
 cases ts with
 |nil=>exact fg h
 |cons a ts=>
  cases ts with
  |cons _ _=>exact fg h
  |nil=>cases h;rfl
def L1:Expr->Option (Expr×Str×Pos)
 |.Attribute o m p=>some (o,m,p)
 |_=>none
theorem zA{e:Expr}{q:Expr×Str×Pos}(h:L1 e=some q):e=.Attribute q.1 q.2.1 q.2.2:=by
 cases e with
 |Attribute o m p=>cases h;rfl
 |_=>exact fg h
def PM:Expr->Option (Arguments×Expr×Scope)
 |.Lambda p b s _=>some (p,b,s)
 |_=>none
theorem u9{e:Expr}{q:Arguments×Expr×Scope}(h:PM e=some q):∃p,e=.Lambda q.1 q.2.1 q.2.2 p:=by
 cases e with
 |Lambda p b s x=>cases h;exact⟨_,rfl⟩
 |_=>exact fg h
def Jv:Expr->Option (Expr×Expr)
 |.Subscript a b _=>some (a,b)
 |_=>none
theorem o6{e:Expr}{q:Expr×Expr}(h:Jv e=some q):∃p,e=.Subscript q.1 q.2 p:=by
 cases e with
 |Subscript a b p=>cases h;exact⟨_,rfl⟩
 |_=>exact fg h
def NR:Expr->Option Const
 |.Constant c _ _=>some c
 |_=>none
theorem uc{e:Expr}{c:Const}(h:NR e=some c):∃p q,e=.Constant c p q:=by
 cases e with
 |Constant c p q=>cases h;exact⟨_,_,rfl⟩
 |_=>exact fg h
def HI:Const->Option Str
 |.str z=>some z
 |_=>none
theorem Bo{c:Const}{z:Str}(h:HI c=some z):c=.str z:=by
 cases c with
 |str y=>cases h;rfl
 |_=>exact fg h
def Qg:Const->Option Int
 |.int n=>some n
 |_=>none
theorem Cf{c:Const}{n:Int}(h:Qg c=some n):c=.int n:=by
 cases c with
 |int y=>cases h;rfl
 |_=>exact fg h
theorem Dw{α:Type}{l:List α}(h:l.isEmpty=true):l=[]:=by
 cases l with
 |nil=>rfl
 |cons _ _=>exact aA h
theorem Qp{α:Type}{o:Option α}(h:o.isNone=true):o=none:=by
 cases o with
 |none=>rfl
 |some _=>exact aA h
def Rx:Const->Option Bool
 |.bool b=>some b
 |_=>none
theorem IY{c:Const}{b:Bool}(h:Rx c=some b):c=.bool b:=by
 cases c with
 |bool y=>cases h;rfl
 |_=>exact fg h
def RD:Const->Bool
 |.none=>true
 |_=>false
theorem HE{c:Const}(h:RD c=true):c=.none:=by
 cases c with
 |none=>rfl
 |_=>exact aA h
def RZ:Expr->Option (Expr×Operator×Expr)
 |.BinOp a o b _=>some (a,o,b)
 |_=>none
theorem JJ{e:Expr}{q:Expr×Operator×Expr}(h:RZ e=some q):∃p,e=.BinOp q.1 q.2.1 q.2.2 p:=by
 cases e with
 |BinOp a o b p=>cases h;exact⟨_,rfl⟩
 |_=>exact fg h
def OI:Expr->Option (Expr×List CmpOp×List Expr)
 |.Compare a o b _=>some (a,o,b)
 |_=>none
theorem K4{e:Expr}{q:Expr×List CmpOp×List Expr}(h:OI e=some q):∃p,e=.Compare q.1 q.2.1 q.2.2 p:=by
 cases e with
 |Compare a o b p=>cases h;exact⟨_,rfl⟩
 |_=>exact fg h
def OQ:Expr->Option (UnaryOp×Expr)
 |.UnaryOp o a _=>some (o,a)
 |_=>none
theorem J8{e:Expr}{q:UnaryOp×Expr}(h:OQ e=some q):∃p,e=.UnaryOp q.1 q.2 p:=by
 cases e with
 |UnaryOp o a p=>cases h;exact⟨_,rfl⟩
 |_=>exact fg h
def Gr:UnaryOp->Bool
 |.Not=>true
 |_=>false
theorem B3{o:UnaryOp}(h:Gr o=true):o=.Not:=by
 cases o with
 |Not=>rfl
 |_=>exact aA h
def isNeg:UnaryOp->Bool
 |.USub=>true
 |_=>false
theorem CP{o:UnaryOp}(h:isNeg o=true):o=.USub:=by
 cases o with
 |USub=>rfl
 |_=>exact aA h
def w6:BoolOp->Bool
 |.And=>true
 |.Or=>false
theorem B5{o:BoolOp}(h:w6 o=true):o=.And:=by
 cases o with
 |And=>rfl
 |Or=>exact aA h
theorem Ec{o:BoolOp}(h:(!w6 o)=true):o=.Or:=by
 cases o with
 |Or=>rfl
 |And=>exact aA h
def OC:Expr->Option (BoolOp×List Expr×Pos)
 |.BoolOp o vs p=>some (o,vs,p)
 |_=>none
theorem Ig{e:Expr}{q:BoolOp×List Expr×Pos}(h:OC e=some q):e=.BoolOp q.1 q.2.1 q.2.2:=by
 cases e with
 |BoolOp o vs p=>cases h;rfl
 |_=>exact fg h
def O9(o:BoolOp)(pos:Pos):List Expr->Option (Expr×Expr)
 |a::b::[]=>some (a,b)
 |a::b::c::r=>some (a,.BoolOp o (b::c::r) pos)
 |_=>none
theorem BX{o:BoolOp}{pos:Pos}{vs:List Expr}{q:Expr×Expr}(h:O9 o pos vs=some q):vs=[q.1,q.2]\/∃b c r,vs=q.1::b::c::r/\q.2=.BoolOp o (b::c::r) pos:=by
 cases vs with
 |nil=>exact fg h
 |cons a vs=>
  cases vs with
  |nil=>exact fg h
  |cons b vs=>
   cases vs with
   |nil=>cases h;exact .inl rfl
   |cons c r=>cases h;exact .inr ⟨b,c,r,rfl,rfl⟩
def SD:Expr->Option (Expr×Expr×Expr)
 |.IfExp c a b _=>some (c,a,b)
 |_=>none
theorem K0{e:Expr}{q:Expr×Expr×Expr}(h:SD e=some q):∃p,e=.IfExp q.1 q.2.1 q.2.2 p:=by
 cases e with
 |IfExp c a b p=>cases h;exact⟨_,rfl⟩
 |_=>exact fg h
def Ti:Expr->Option (List Expr)
 |.List es _=>some es
 |_=>none
theorem AV{e:Expr}{es:List Expr}(h:Ti e=some es):∃p,e=.List es p:=by
 cases e with
 |List es p=>cases h;exact⟨_,rfl⟩
 |_=>exact fg h
def GX:Expr->Option (Option Expr×Option Expr×Option Expr)
 |.Slice a b c _=>some (a,b,c)
 |_=>none
theorem Jx{e:Expr}{q:Option Expr×Option Expr×Option Expr}(h:GX e=some q):∃p,e=.Slice q.1 q.2.1 q.2.2 p:=by
 cases e with
 |Slice a b c p=>cases h;exact⟨_,rfl⟩
 |_=>exact fg h
def OZ:Expr->Option (Expr×List Comprehension×Scope)
 |.ListComp e gs s _=>some (e,gs,s)
 |_=>none
theorem Kv{e:Expr}{q:Expr×List Comprehension×Scope}(h:OZ e=some q):∃p,e=.ListComp q.1 q.2.1 q.2.2 p:=by
 cases e with
 |ListComp e gs s p=>cases h;exact⟨_,rfl⟩
 |_=>exact fg h
def zr(e:Expr):Option (Str×List Expr):=(GP e).bind λq=>(fF q.1).bind λg=>if q.2.2.1.isEmpty=true then some (g,q.2.1) else none
theorem Im{e:Expr}{q:Str×List Expr}(h:zr e=some q):∃np p,e=.Call (.Name q.1 np) q.2 [] p:=by
 obtain⟨⟨f,a,k,p⟩,h1,h⟩:=m5 h
 obtain⟨g,h2,h⟩:=m5 h
 obtain⟨h3,rfl⟩:=if1 h
 obtain⟨np,z⟩:=cL h2
 have z3:=Dw h3
 dsimp only at z z3;subst z z3;exact⟨np,p,jW h1⟩
def MG:PV->Const->Bool
 |.az,c=>RD c
 |.bl b,c=>(Rx c).any λx=>b==x
 |.int i,c=>(Qg c).any λx=>i==x
 |.str z,c=>(HI c).any λx=>z==x
 |_,_=>false
def xg(p:Expr):Bool:=(GP p).isNone
theorem ax{a b:Bool}(h:(a&&b)=true):a=true/\b=true:=Bool.and_eq_true_iff.mp h
theorem ah{α:Type}{o:Option α}{f:α->Bool}(h:o.any f=true):∃x,o=some x/\f x=true:=by
 cases o with
 |none=>cases h
 |some x=>exact⟨x,rfl,h⟩
theorem mw{α:Type}{l:List α}{f:α->Bool}(h:(gj l).any f=true):∃a,l=[a]/\f a=true:=let⟨a,e,h1⟩:=ah h;⟨a,dM e,h1⟩
theorem AK{α:Type}{l:List α}{f:α×α->Bool}(h:(rf l).any f=true):∃a b,l=[a,b]/\f (a,b)=true:=let⟨q,e,h1⟩:=ah h;⟨q.1,q.2,vR e,h1⟩
theorem M0{p:Expr}{f:Str->Bool}(h:(fF p).any f=true):∃x np,p=.Name x np/\f x=true:=let⟨x,e,h1⟩:=ah h;let⟨np,z⟩:=cL e;⟨x,np,z,h1⟩
theorem UT{p:Expr}{f:Const->Bool}(h:(NR p).any f=true):∃x a b,p=.Constant x a b/\f x=true:=let⟨x,e,h1⟩:=ah h;let⟨a,b,z⟩:=uc e;⟨x,a,b,z,h1⟩
theorem De{p:Expr}{f:Str×List Expr->Bool}(h:(zr p).any f=true):∃g as np pos,p=.Call (.Name g np) as [] pos/\f (g,as)=true:=let⟨q,e,h1⟩:=ah h;let⟨a,b,z⟩:=Im e;⟨q.1,q.2,a,b,z,h1⟩
theorem SY{p:Expr}{f:Expr×Expr->Bool}(h:(Jv p).any f=true):∃a b pos,p=.Subscript a b pos/\f (a,b)=true:=let⟨q,e,h1⟩:=ah h;let⟨x,z⟩:=o6 e;⟨q.1,q.2,x,z,h1⟩
theorem UO{p:Expr}{f:Option Expr×Option Expr×Option Expr->Bool}(h:(GX p).any f=true):∃a b c pos,p=.Slice a b c pos/\f (a,b,c)=true:=let⟨q,e,h1⟩:=ah h;let⟨x,z⟩:=Jx e;⟨q.1,q.2.1,q.2.2,x,z,h1⟩
theorem RV{p:Expr}{f:UnaryOp×Expr->Bool}(h:(OQ p).any f=true):∃o a pos,p=.UnaryOp o a pos/\f (o,a)=true:=let⟨q,e,h1⟩:=ah h;let⟨x,z⟩:=J8 e;⟨q.1,q.2,x,z,h1⟩
theorem TL{p:Expr}{f:Expr×List CmpOp×List Expr->Bool}(h:(OI p).any f=true):∃a o b pos,p=.Compare a o b pos/\f (a,o,b)=true:=let⟨q,e,h1⟩:=ah h;let⟨x,z⟩:=K4 e;⟨q.1,q.2.1,q.2.2,x,z,h1⟩
theorem Oo{p:Expr}{f:Expr×List Comprehension×Scope->Bool}(h:(OZ p).any f=true):∃a g s pos,p=.ListComp a g s pos/\f (a,g,s)=true:=let⟨q,e,h1⟩:=ah h;let⟨x,z⟩:=Kv e;⟨q.1,q.2.1,q.2.2,x,z,h1⟩
theorem TC{p:Expr}{f:BoolOp×List Expr×Pos->Bool}(h:(OC p).any f=true):∃o vs pos,p=.BoolOp o vs pos/\f (o,vs,pos)=true:=let⟨q,e,h1⟩:=ah h;⟨q.1,q.2.1,q.2.2,Ig e,h1⟩
mutual
noncomputable def bh(Γ:Pg)(N:List Str)(sc:Scope):E->Expr->Bool
 |.var i,p=>(fF p).any λx=>N[i]?==some x&&fq sc x&&okN x
 |.fO i,p=>(fF p).any λx=>N[i]?==some x&&fq sc x&&okN x
 |.cst q,p=>(NR p).any (MG q)
 |.glob g p,e=>(fF e).any λx=>g==x&&hZ sc x&&okN x&&Γ.gs.any λq=>q.1==g&&vP q.2 p
 |.call f as,p=>(zr p).any λq=>f==q.1&&Γ.fs.contains q.1&&hZ sc q.1&&okN q.1&&ij as&&gK Γ N sc as q.2
 |.mv i as,p=>(zr p).any λq=>N[i]?==some q.1&&fq sc q.1&&okN q.1&&ij as&&!isNil as&&gK Γ N sc as q.2
 |.sY f as g idx bf,p=>(zr p).any λr=>Γ.hl&&hZ sc r.1&&okN r.1&&ij as&&!isNil as&&(Γ.hs.any λq=>q.f==f&&q.h==r.1&&q.g==g&&q.idx==idx&&decide (q.np=gO as+1))&&wg Γ N sc g idx bf as r.2
 |.blt b as,p=>(zr p).any λq=>bN b==q.1&&hZ sc q.1&&Γ.bs.contains q.1&&!isNil as&&gK Γ N sc as q.2
 |.ty t a,p=>(zr p).any λq=>(rf q.2).any λr=>(fF r.2).any λtn=>q.1==("isinstance":Str)&&hZ sc q.1&&Γ.bs.contains q.1&&tn==Str.ofString (t9 t)&&hZ sc tn&&Γ.bs.contains tn&&bh Γ N sc a r.1
 |.Dg c a,p=>(zr p).any λq=>(rf q.2).any λr=>(fF r.2).any λcn=>q.1==("isinstance":Str)&&hZ sc q.1&&Γ.bs.contains q.1&&cn==c&&hZ sc cn&&okN cn&&(Γ.cs.contains c||(c=="ValueError"&&Γ.bs.contains c))&&bh Γ N sc a r.1
 |.Au m o as,p=>(GP p).any λq=>(L1 q.1).any λr=>q.2.2.1.isEmpty&&(mN m==r.2.1&&!isNil as&&decide (gO as<30)&&r.2.2.endLine==q.2.2.2.line&&bh Γ N sc o r.1&&gK Γ N sc as q.2.1&&xg r.1)
 |.bin o a b,p=>(RZ p).any λq=>decide (Nl o=q.2.1)&&bh Γ N sc a q.1&&bh Γ N sc b q.2.2
 |.cmp o a b,p=>(OI p).any λq=>(gj q.2.1).any λop=>(gj q.2.2).any λpb=>decide (qK o=op)&&bh Γ N sc a q.1&&bh Γ N sc b pb
 |.ch o1 o2 a b c,p=>(OI p).any λq=>(rf q.2.1).any λop=>(rf q.2.2).any λpb=>decide (qK o1=op.1)&&decide (qK o2=op.2)&&bh Γ N sc a q.1&&bh Γ N sc b pb.1&&bh Γ N sc c pb.2
 |.not a,p=>(OQ p).any λq=>Gr q.1&&bh Γ N sc a q.2
 |.neg a,p=>(OQ p).any λq=>isNeg q.1&&bh Γ N sc a q.2
 |.and a b,p=>(OC p).any λq=>(O9 q.1 q.2.2 q.2.1).any λr=>w6 q.1&&gQ b&&bh Γ N sc a r.1&&bh Γ N sc b r.2
 |.or a b,p=>(OC p).any λq=>(O9 q.1 q.2.2 q.2.1).any λr=>!w6 q.1&&gQ b&&bh Γ N sc a r.1&&bh Γ N sc b r.2
 |.ite c a b,p=>(SD p).any λq=>fT c&&gQ a&&gQ b&&bh Γ N sc c q.1&&bh Γ N sc a q.2.1&&bh Γ N sc b q.2.2
 |.tup as,p=>(xP p).any λps=>ij as&&decide (gO as<1000)&&gK Γ N sc as ps
 |.lst as,p=>(Ti p).any λps=>ij as&&decide (gO as<1000)&&gK Γ N sc as ps
 |.sub a b,p=>(Jv p).any λq=>bh Γ N sc a q.1&&bh Γ N sc b q.2
 |.slice a lo hi,p=>(Jv p).any λq=>(GX q.2).any λr=>r.2.2.isNone&&bh Γ N sc a q.1&&Ib Γ N sc lo r.1&&Ib Γ N sc hi r.2.1
 |.comp k bf tg it elt,p=>(OZ p).any λq=>(gj q.2.1).any λg=>g.ifs.isEmpty&&(wo N sc q.2.2 k bf (aO g.target)&&jY k tg&&gQ elt&&zf Γ N sc g.target it g.iter&&iu (aO g.target++freeOf q.2.2) (du q.2.2 sc) (lR q.2.2) tg g.target&&bh Γ.C6 (aO g.target++freeOf q.2.2) (du q.2.2 sc) elt q.1&&decide (g.is_async=0))
 |.cQ k bf tg it c elt,p=>(OZ p).any λq=>(gj q.2.1).any λg=>(gj g.ifs).any λpc=>fT c&&wo N sc q.2.2 k bf (aO g.target)&&jY k tg&&gQ elt&&zf Γ N sc g.target it g.iter&&iu (aO g.target++freeOf q.2.2) (du q.2.2 sc) (lR q.2.2) tg g.target&&bh Γ.C6 (aO g.target++freeOf q.2.2) (du q.2.2 sc) c pc&&bh Γ.C6 (aO g.target++freeOf q.2.2) (du q.2.2 sc) elt q.1&&decide (g.is_async=0)
noncomputable def gK(Γ:Pg)(N:List Str)(sc:Scope):Es->List Expr->Bool
 |.nil,[]=>true
 |.cons e es,p::ps=>bh Γ N sc e p&&gK Γ N sc es ps
 |_,_=>false
noncomputable def wg(Γ:Pg)(N:List Str)(sc:Scope)(g:Str)(idx bf:List Nat):Es->List Expr->Bool
 |.nil,ps=>(gj ps).any λp=>(PM p).any λl=>Fi g idx l.1 l.2.1 l.2.2&&decide (bf.map (λi=>N[i]?)=(bp l.2.2).map some)&&((bp l.2.2).all λy=>decide (sc.names.lookup y=some .cell))
 |.cons e es,p::ps=>bh Γ N sc e p&&wg Γ N sc g idx bf es ps
 |_,_=>false
noncomputable def Ib(Γ:Pg)(N:List Str)(sc:Scope):Oe->Option Expr->Bool
 |.no,none=>true
 |.some e,some p=>bh Γ N sc e p
 |_,_=>false
noncomputable def zf(Γ:Pg)(N:List Str)(sc:Scope)(tg:Expr):I->Expr->Bool
 |.seq e,p=>bh Γ N sc e p
 |.kF e,p=>(zr p).any λq=>(gj q.2).any λr=>q.1==("range":Str)&&hZ sc q.1&&Γ.bs.contains q.1&&bh Γ N sc e r
 |.qb a b,p=>(zr p).any λq=>(rf q.2).any λr=>q.1==("range":Str)&&hZ sc q.1&&Γ.bs.contains q.1&&bh Γ N sc a r.1&&bh Γ N sc b r.2
 |.enum e,p=>(zr p).any λq=>(gj q.2).any λr=>isTup tg&&q.1==("enumerate":Str)&&hZ sc q.1&&Γ.bs.contains q.1&&bh Γ N sc e r
end
def XE(W:Wd)(c:Str)(G1 H1:Hp):XK:=λCv ao H'=>∃C a G',Cv=.ref C/\ao=some a/\c∈W.xs/\W.mg c=some (.ref C)/\aE W G1 H1 G' H'
def sP(X:Cx)(W:Wd)(σ:St)(c:Str)(G H:Hp):Prop:=∀(aa:List (Addr×Obj)) (G1 H1:Hp) (s1:Shared) (e:Value) (s':Shared),Inv X aa σ H1 s1->aE W G H G1 H1->dZ X.prog X.w X.stack H1 s1 (XE W c G1 H1) e s'->X.xe e s'
def Out{α:Type}(X:Cx)(W:Wd)(r:Res α)(σ:St)(G H:Hp)(k:α->Prop):Prop:=match r with
 |.ok a=>k a
 |.exc c=>sP X W σ c G H
 |.bad=>False
section
variable{X:Cx}{W:Wd}{F:aN}{σ:St}{G H G1 H1:Hp}{α β:Type}
theorem sP.grow{c:Str}(h:sP X W σ c G H)(g:aE W G H G1 H1):sP X W σ c G1 H1:=λaa G2 H2 s1 e s' I g2 x=>h aa G2 H2 s1 e s' I (g.trans g2) x
theorem Out.grow{r:Res α}{k:α->Prop}(h:Out X W r σ G H k)(g:aE W G H G1 H1):Out X W r σ G1 H1 k:=by
 cases r with
 |ok a=>exact h
 |exc c=>exact sP.grow h g
 |bad=>exact h
theorem Out.imp{r:Res α}{k k':α->Prop}(h:Out X W r σ G H k)(i:∀a,k a->k' a):Out X W r σ G H k':=by
 cases r with
 |ok a=>exact i a h
 |exc c=>exact h
 |bad=>exact h
theorem Out.bind{r:Res α}{f:α->Res β}{k:β->Prop}(h:Out X W (r.bind f) σ G H k):Out X W r σ G H λa=>Out X W (f a) σ G H k:=by
 cases r with
 |ok a=>exact h
 |exc c=>exact h
 |bad=>exact h
theorem Out.val{r:Res α}{k:α->Prop}(h:Out X W r σ G H k)(n:∀c,r≠.exc c):∃a,r=.ok a/\k a:=by
 cases r with
 |ok a=>exact⟨a,rfl,h⟩
 |exc c=>exact absurd rfl (n c)
 |bad=>exact h.elim
structure Got(W:Wd)(H0 G H:Hp)(e:E)(p:PV)(v:V):Prop where
 top:Top W H0 G H p v
 rep:gQ e=true->Rep W G p v
theorem Got.of{H0:Hp}{e:E}{p:PV}{v:V}(h:Rep W G p v):Got W H0 G H e p v:=⟨.inl h,λ_=>h⟩
noncomputable def tE(X:Cx)(W:Wd)(F:aN)(e:E):TE:=λσ H Q=>∃H0 G env,SR W H0 env σ G H/\Out X W (aK F e env) σ G H λp=>∀v G' H',aE W G H G' H'->Got W H0 G' H' e p v->Q v H'
noncomputable def tT(X:Cx)(W:Wd)(F:aN)(e:E):TT:=λσ H Q=>∃H0 G env,SR W H0 env σ G H/\Out X W (aK F e env) σ G H λp=>∃b,p=.bl b/\∀G' H',aE W G H G' H'->Q b H'
structure M4(W:Wd)(H0 G H:Hp)(es:Es)(ps:List PV)(vs:List V):Prop where
 top:Paired (λv p=>Top W H0 G H p v) vs ps
 rep:ij es=true->aj W G ps vs
noncomputable def tA(X:Cx)(W:Wd)(F:aN)(es:Es):TA:=λσ H Q=>∃H0 G env,SR W H0 env σ G H/\Out X W (cU F es env) σ G H λps=>∀vs G' H',aE W G H G' H'->M4 W H0 G' H' es ps vs->Q vs H'
noncomputable def Bk(X:Cx)(W:Wd)(F:aN)(o:Oe):TO:=λσ H Q=>∃H0 G env,SR W H0 env σ G H/\Out X W (uA F o env) σ G H λi=>∀G' H',aE W G H G' H'->Q i H'
theorem one{H0:Hp}{env:Sl}{e:E}{f:PV->Res β}{k:β->Prop}{Q:VK}(sr:SR W H0 env σ G H)(o:Out X W ((aK F e env).bind f) σ G H k)
 (h:∀p v G1 H1,aE W G H G1 H1->Got W H0 G1 H1 e p v->SR W H0 env σ G1 H1->Out X W (f p) σ G1 H1 k->Q v H1):tE X W F e σ H Q:=
 ⟨H0,G,env,sr,o.bind.imp λp hp v G1 H1 g t=>h p v G1 H1 g t (sr.grow g) (hp.grow g)⟩
theorem Dz{H0:Hp}{env:Sl}{e:E}{f:Bool->Res β}{k:β->Prop}{Q:Bool->Hp->Prop}(sr:SR W H0 env σ G H)(o:Out X W ((aK F e env).bind λp=>sJ p f) σ G H k)
 (h:∀b G1 H1,aE W G H G1 H1->SR W H0 env σ G1 H1->Out X W (f b) σ G1 H1 k->Q b H1):tT X W F e σ H Q:=by
 refine⟨H0,G,env,sr,o.bind.imp λp hp=>?_⟩
 cases p with
 |bl b=>exact⟨b,rfl,λG1 H1 g=>h b G1 H1 g (sr.grow g) (Out.grow hp g)⟩
 |az=>exact False.elim hp
 |int _=>exact False.elim hp
 |str _=>exact False.elim hp
 |tup _=>exact False.elim hp
 |lst _=>exact False.elim hp
 |exc _=>exact False.elim hp
 |aP _ _=>exact False.elim hp
theorem args{H0:Hp}{env:Sl}{es:Es}{f:List PV->Res β}{k:β->Prop}{Q:List V->Hp->Prop}(sr:SR W H0 env σ G H)(o:Out X W ((cU F es env).bind f) σ G H k)
 (h:∀ps vs G1 H1,aE W G H G1 H1->M4 W H0 G1 H1 es ps vs->SR W H0 env σ G1 H1->Out X W (f ps) σ G1 H1 k->Q vs H1):tA X W F es σ H Q:=
 ⟨H0,G,env,sr,o.bind.imp λp hp v G1 H1 g t=>h p v G1 H1 g t (sr.grow g) (hp.grow g)⟩
def CK(W:Wd)(G:Hp):Option (Str×List Nat)->List PV->List V->Prop
 |none,as,vs=>aj W G as vs
 |some q,as,vs=>∃yq cY wa v,as=yq++cY/\vs=wa++[v]/\aj W G yq wa/\qE W G q.1 q.2 cY v
noncomputable def zo(W:Wd)(F:aN)(f:Str)(n:Nat)(q:Option (Str×List Nat)):Sp:=λvs H Q E=>vs.length=n/\∃G as,aC G H/\cO W G H/\CK W G q as vs/\(match F f as with
 |.ok p=>∀v G' H',aE W G H G' H'->Rep W G' p v->Q v H'
 |.exc c=>∀Cv ao H',XE W c G H Cv ao H'->E Cv ao H'
 |.bad=>False)
structure Kp(X:Cx)(W:Wd)(F:aN)(k:Nat)(f:Str):Prop where
 ex:∃fa fd ps,gN X.prog X.w X.K X.mg X.base (dZ X.prog X.w) k fa fd ps (zo W F f ps.length none)/\X.mg f=some (.ref fa)/\PySem.W.keepIn X.K (.ref fa)=true/\Binds X.K fd ps []/\∀as,F f as≠.bad->as.length=ps.length
structure M3(X:Cx)(W:Wd)(F:aN)(k:Nat)(q:Hs):Prop where
 ex:∃fa fd ps,gN X.prog X.w X.K X.mg X.base (dZ X.prog X.w) k fa fd ps (zo W F q.f ps.length (some (q.g,q.idx)))/\X.mg q.h=some (.ref fa)/\PySem.W.keepIn X.K (.ref fa)=true/\Binds X.K fd ps []/\ps.length=q.np
structure dH(Γ:Pg)(F:aN)(W:Wd)(N:List Str)(sc:Scope)(k:Nat)(X:Cx):Prop where
 hN:X.N=N
 d9:X.env.scope=sc
 calm:X.calm=true
 nd:N.Nodup
 K:W.K=X.K
 mg:W.mg=X.mg
 gs:∀q∈Γ.gs,∃u v,X.mg q.1=some u/\RelV v u/\∀G,Rep W G q.2 v
 bs:∀g∈Γ.bs,X.mg g=none
 room:dS (k+1) X.A
 fns:∀f,Γ.fs.contains f=true->Kp X W F k f
 LI:Γ.cs.contains "ValueError"=false
 cls:∀c∈Γ.cs,∃C,X.mg c=some (.ref C)
 xc:∀d∈W.xs,∀D,X.mg d=some (.ref D)->lY X.K D/\(∀c∈Γ.cs,∀C,X.mg c=some (.ref C)->PySem.W.kitOne X.K (.ref D) (.ref C)=some (c==d||c=="FloorError"))/\PySem.W.kitOne X.K (.ref D) (.type "ValueError")=some true
 sU:∀q∈Γ.hs,M3 X W F k q
 any:∀g as,F g as≠.bad->Γ.fs.contains g=true\/gE g=true
 tb:Γ.hl=true->∃c P,X.env.code=.ref c/\PySem.W.CodeHd X.base c P/\(P,X.env.qual++"<lambda>")∈W.ts/\∀q',(P,q')∈W.ts->q'=X.env.qual++"<lambda>"
 bm:Γ.hl=true->zH X.mg X.base
 fl:Γ.hl=true->∀x,X.fn x=true
end
section
variable{Γ:Pg}{X:Cx}{W:Wd}{F:aN}{N:List Str}{sc:Scope}{k:Nat}
theorem oZ(C:dH Γ F W N sc k X){x:Str}(h:fq sc x=true):LN X.env.scope x:=by
 rw [C.d9];unfold fq eJ at h;simp only [Bool.or_eq_true,beq_iff_eq] at h;rcases h with(h|h)|h
 ·exact .inl h
 ·exact .inr (.inl h)
 ·exact .inr (.inr h)
theorem dR(C:dH Γ F W N sc k X){x:Str}(h:hZ sc x=true):Gl X x:=by
 show X.env.scope.names.lookup x=_
 rw [C.d9];exact beq_iff_eq.mp h
theorem c8{x:Str}(h:okN x=true):(x==("__debug__":Str))=false/\(x==("__classdict__":Str))=false/\x≠"__name__":=by
 unfold okN at h;simp only [zza,Bool.not_eq_true',beq_eq_false_iff_ne] at h;exact⟨beq_eq_false_iff_ne.mpr h.1.1,beq_eq_false_iff_ne.mpr h.1.2,h.2⟩
abbrev GE(X:Cx)(W:Wd)(F:aN)(e:E)(p:Expr):Prop:=PE X p (tE X W F e)
abbrev GT(X:Cx)(W:Wd)(F:aN)(e:E)(p:Expr):Prop:=PT X p (tT X W F e)
abbrev GW(X:Cx)(W:Wd)(F:aN)(e:E)(p:Expr):Prop:=PW X p (tT X W F e)
theorem _root_.L2.PE.imp{p:Expr}{t t':TE}(h:PE X p t)(i:∀σ H Q,t' σ H Q->t σ H Q):PE X p t':=λaa s σ H Q I hw=>h aa s σ H Q I (i σ H Q hw)
theorem _root_.L2.PT.imp{p:Expr}{t t':TT}(h:PT X p t)(i:∀σ H Q,t' σ H Q->t σ H Q):PT X p t':=λaa s σ H Q I hw=>h aa s σ H Q I (i σ H Q hw)
theorem _root_.L2.PW.imp{p:Expr}{t t':TT}(h:PW X p t)(i:∀σ H Q,t' σ H Q->t σ H Q):PW X p t':=λw aa s σ H Q I hw=>h w aa s σ H Q I (i σ H Q hw)
theorem _root_.L2.PA.imp{p:List Expr}{t t':TA}(h:PA X p t)(i:∀σ H Q,t' σ H Q->t σ H Q):PA X p t':=λpos aa s σ H Q I hw=>h pos aa s σ H Q I (i σ H Q hw)
theorem GN{e:E}(σ:St)(H:Hp)(Q:Bool->Hp->Prop)(h:tT X W F e σ H Q):tB (tE X W F e) σ H Q:=by
 obtain⟨H0,G,env,sr,o⟩:=h
 refine⟨H0,G,env,sr,o.imp λp hp v G' H' g t=>?_⟩
 obtain⟨b,rfl,q⟩:=hp
 exact⟨b,t.top.bl,q G' H' g⟩
theorem si{e:E}(σ:St)(H:Hp)(Q:Bool->Hp->Prop)(h:tT X W F e σ H Q):Cm (tE X W F e) σ H Q:=GN σ H Q h
theorem HL(C:dH Γ F W N sc k X){i:Nat}{x:Str}{pos:Pos}(h:(N[i]?==some x&&fq sc x&&okN x)=true):GE X W F (.var i) (.Name x pos):=by
 simp only [zza,beq_iff_eq] at h;obtain⟨h1,h2,h3⟩:=c8 h.2
 refine(fh (i:=i) (by rw [C.hN];exact h.1.1) (oZ C h.1.2) h1 h2).imp λσ H Q hq=>?_
 obtain⟨H0,G,env,sr,o⟩:=hq
 cases e:env[i]? with
 |none=>unfold aK at o;rw [e] at o;exact o.elim
 |some sl=>
  cases sl with
  |no=>unfold aK at o;rw [e] at o;exact o.elim
  |fn _ _ _=>unfold aK at o;rw [e] at o;exact o.elim
  |own p=>unfold aK at o;rw [e] at o;exact o.elim
  |val p=>
   unfold aK at o;rw [e] at o;obtain⟨o2,hs,v,rfl,r⟩:=sr.slot i _ e
   exact⟨v,hs,o v G H (.refl sr.sub) (.of r)⟩
theorem JN(C:dH Γ F W N sc k X){i:Nat}{x:Str}{pos:Pos}(h:(N[i]?==some x&&fq sc x&&okN x)=true):GE X W F (.fO i) (.Name x pos):=by
 simp only [zza,beq_iff_eq] at h;obtain⟨h1,h2,h3⟩:=c8 h.2
 refine(fh (i:=i) (by rw [C.hN];exact h.1.1) (oZ C h.1.2) h1 h2).imp λσ H Q hq=>?_
 obtain⟨H0,G,env,sr,o⟩:=hq
 cases e:env[i]? with
 |none=>unfold aK at o;rw [e] at o;exact o.elim
 |some sl=>
  cases sl with
  |no=>unfold aK at o;rw [e] at o;exact o.elim
  |fn _ _ _=>unfold aK at o;rw [e] at o;exact o.elim
  |own p=>
   unfold aK at o;rw [e] at o;obtain⟨o2,hs,v,rfl,r⟩:=sr.slot i _ e
   exact⟨v,hs,o v G H (.refl sr.sub) ⟨.inr r,λz=>nomatch z⟩⟩
  |val p=>
   unfold aK at o;rw [e] at o;obtain⟨o2,hs,v,rfl,r⟩:=sr.slot i _ e
   exact⟨v,hs,o v G H (.refl sr.sub) (.of r)⟩
theorem i3{p:PV}{v:V}{e:Expr}(h:PE X e (tC v))(r:∀G,Rep W G p v):GE X W F (.cst p) e:=by
 refine L2.PE.imp h λσ H Q hq=>?_
 obtain⟨H0,G,env,sr,o⟩:=hq
 exact o v G H (.refl sr.sub) (.of (r G))
theorem FL(C:dH Γ F W N sc k X){g x:Str}{p:PV}{pos:Pos}(h:(g==x&&hZ sc x&&okN x&&Γ.gs.any λq=>q.1==g&&vP q.2 p)=true):GE X W F (.glob g p) (.Name x pos):=by
 simp only [zza,beq_iff_eq,zzj] at h;obtain⟨⟨⟨rfl,h2⟩,h3⟩,q,hq,e1,e2⟩:=h
 obtain⟨u,v,hm,rv,hr⟩:=C.gs q hq
 rw [e1] at hm;cases CC e2;refine(vM (dR C h2) hm rv (c8 h3).1).imp λσ H Q hq=>?_
 obtain⟨H0,G,env,sr,o⟩:=hq
 exact o v G H (.refl sr.sub) (.of (hr G))
theorem Res.aM{α:Type}{o:Option α}(c:Str):Res.of o≠.exc c:=by cases o<;>exact λz=>nomatch z
theorem kI{α β:Type}{o:Option α}{f:α->Res β}{c:Str}(h:∀a,f a≠.exc c):(Res.of o).bind f≠.exc c:=by
 cases o with
 |none=>exact λz=>nomatch z
 |some a=>exact h a
theorem m8{o:Hl}{p q:PV}(c:Str):binOp o p q≠.exc c:=by
 unfold binOp
 repeat' split
 all_goals exact λz=>nomatch z
theorem F3{p q:PV}(c:Str):fG p q≠.exc c:=by
 unfold fG
 (repeat' first|split|refine kI λ_=>?_|exact Res.aM c|exact(λz=>nomatch z))
theorem FF{p q:PV}(c:Str):gb p q≠.exc c:=by
 unfold gb
 (repeat' first|split|refine kI λ_=>?_|exact Res.aM c|exact(λz=>nomatch z))
theorem E3{p q:PV}(c:Str):sL p q≠.exc c:=by
 unfold sL
 (repeat' first|split|refine kI λ_=>?_|exact Res.aM c|exact(λz=>nomatch z))
theorem Er{p q:PV}(c:Str):pZ p q≠.exc c:=by
 unfold pZ
 (repeat' first|split|refine kI λ_=>?_|exact Res.aM c|exact(λz=>nomatch z))
theorem FP{p q:PV}(c:Str):uz p q≠.exc c:=by
 unfold uz
 (repeat' first|split|refine kI λ_=>?_|exact Res.aM c|exact(λz=>nomatch z))
theorem Ea{p q:PV}(c:Str):uY p q≠.exc c:=by
 unfold uY
 (repeat' first|split|refine kI λ_=>?_|exact Res.aM c|exact(λz=>nomatch z))
theorem Dk{p q:PV}(c:Str):j6 p q≠.exc c:=by
 unfold j6
 (repeat' first|split|refine kI λ_=>?_|exact Res.aM c|exact(λz=>nomatch z))
theorem Av{p q:PV}(c:Str):fy p q≠.exc c:=by
 unfold fy
 (repeat' first|split|refine kI λ_=>?_|exact Res.aM c|exact(λz=>nomatch z))
theorem Ef{p q:PV}(c:Str):qN p q≠.exc c:=by
 unfold qN
 (repeat' first|split|refine kI λ_=>?_|exact Res.aM c|exact(λz=>nomatch z))
theorem By{p q:PV}(c:Str):ja p q≠.exc c:=by
 unfold ja
 (repeat' first|split|refine kI λ_=>?_|exact Res.aM c|exact(λz=>nomatch z))
theorem dJ{o:Ab}{p q:PV}(c:Str):dC o p q≠.exc c:=match o with
 |.eq=>F3 c|.ne=>FF c|.lt=>E3 c|.le=>Er c|.gt=>FP c|.ge=>Ea c|.is=>Dk c|.zj=>Av c|.Km=>Ef c|.kH=>By c
theorem two{op:PV->PV->Res PV}{ea eb:E}{e:E}{σ:St}{H:Hp}{Q:VK}(hn:∀p q c,op p q≠.exc c)(he:∀env,aK F e env=(aK F ea env).bind λx=>(aK F eb env).bind λy=>op x y)
 (h:tE X W F e σ H Q):Lu (tx W op) (tE X W F ea) (tE X W F eb) σ H Q:=by
 obtain⟨H0,G,env,sr,o⟩:=h
 rw [he] at o;refine one sr o λp v G1 H1 g1 t1 bE o1=>one bE o1 λq u G2 H2 g2 t2 fB o2=>?_
 obtain⟨r,hr,kr⟩:=o2.val (hn p q)
 exact⟨H0,G2,p,q,r,fB.sub,t1.top.grow g2,t2.top,hr,λw G' H' g' iP=>kr w G' H' ((g1.trans g2).trans g') (.of iP)⟩
theorem Lh(C:dH Γ F W N sc k X){o:Hl}{a b:E}{pa pb:Expr}{pos:Pos}(ha:GE X W F a pa)(hb:GE X W F b pb):GE X W F (.bin o a b) (.BinOp pa (Nl o) pb pos):=
 (NF (Ka C.K o) ha hb).imp λσ H Q h=>two (λp q c=>m8 c) (λenv=>by rw [aK]) h
theorem HB(C:dH Γ F W N sc k X){o:Ab}{a b:E}{pa pb:Expr}{pos:Pos}(ha:GE X W F a pa)(hb:GE X W F b pb)(hm:behindInMarks (qK o) pb=false):GE X W F (.cmp o a b) (.Compare pa [qK o] [pb] pos):=
 (Du (ic C.K C.room.units o) ha hb hm).imp λσ H Q h=>two (λp q c=>dJ c) (λenv=>by rw [aK]) h
theorem IZ(C:dH Γ F W N sc k X){o:Ab}{a b:E}{pa pb:Expr}{pos:Pos}(ha:GE X W F a pa)(hb:GE X W F b pb)(hm:behindInMarks (qK o) pb=false):GT X W F (.cmp o a b) (.Compare pa [qK o] [pb] pos):=
 (Fd (ic C.K C.room.units o) ha hb hm).imp λσ H Q h=>by
  have h2:=si σ H Q h
  exact two (λp q c=>dJ c) (λenv=>by rw [aK]) h2
theorem G6{c1 c2:Ab}{a b c:E}(σ:St)(H:Hp)(Q:VK)(h:tE X W F (.ch c1 c2 a b c) σ H Q):uW (tx W (dC c1)) (tx W (dC c2)) (tE X W F a) (tE X W F b) (tE X W F c) σ H Q:=by
 obtain⟨H0,G,env,sr,o⟩:=h
 rw [aK] at o;refine one sr o λp v G1 H1 g1 t1 bE o1=>one bE o1 λq u G2 H2 g2 t2 fB o2=>?_
 obtain⟨r,hr,kr⟩:=o2.bind.val (dJ)
 refine⟨H0,G2,p,q,r,fB.sub,t1.top.grow g2,t2.top,hr,λw G3 H3 g3 iP=>?_⟩
 cases r with
 |bl t=>
  simp only [Rep] at iP;subst iP;refine⟨t,rfl,?_⟩;cases t with
  |false=>
   rw [if_neg zzf];have vf:Out X W (Res.ok (PV.bl false)) σ G2 H2 _:=kr
   exact vf _ G3 H3 ((g1.trans g2).trans g3) (.of .b)
  |true=>
   rw [if_pos rfl];have vf:Out X W ((aK F c env).bind λz=>dC c2 q z) σ G2 H2 _:=kr
   refine one (fB.grow g3) (vf.grow g3) λz y G4 H4 g4 t4 KN o4=>?_
   obtain⟨r4,hr4,kr4⟩:=o4.val (dJ)
   exact⟨H0,G4,q,z,r4,KN.sub,t2.top.grow (g3.trans g4),t4.top,hr4,λw G5 H5 g5 U8=>kr4 w G5 H5 ((((g1.trans g2).trans g3).trans g4).trans g5) (.of U8)⟩
 |az=>exact False.elim kr
 |int _=>exact False.elim kr
 |str _=>exact False.elim kr
 |tup _=>exact False.elim kr
 |lst _=>exact False.elim kr
 |exc _=>exact False.elim kr
 |aP _ _=>exact False.elim kr
theorem N8(C:dH Γ F W N sc k X){o1 o2:Ab}{a b c:E}{pa pb pc:Expr}{pos:Pos}(ha:GE X W F a pa)(hb:GE X W F b pb)(hc:GE X W F c pc)(hm:lastMarks [qK o1,qK o2] [pb,pc]=false):GE X W F (.ch o1 o2 a b c) (.Compare pa [qK o1,qK o2] [pb,pc] pos):=
 (zE (ic C.K C.room.units o1) (ic C.K C.room.units o2) ha hb hc hm).imp G6
theorem L5(C:dH Γ F W N sc k X){o1 o2:Ab}{a b c:E}{pa pb pc:Expr}{pos:Pos}(ha:GE X W F a pa)(hb:GE X W F b pb)(hc:GE X W F c pc)(hm:lastMarks [qK o1,qK o2] [pb,pc]=false):GT X W F (.ch o1 o2 a b c) (.Compare pa [qK o1,qK o2] [pb,pc] pos):=
 (BK (ic C.K C.room.units o1) (ic C.K C.room.units o2) ha hb hc hm).imp λσ H Q h=>G6 σ H _ (si σ H Q h)
theorem J6{a:E}{pa:Expr}{pos:Pos}(ha:GE X W F a pa):GE X W F (.neg a) (.UnaryOp .USub pa pos):=
 (NK (Fh (W:=W)) ha).imp λσ H Q h=>by
  obtain⟨H0,G,env,sr,o⟩:=h
  rw [aK] at o;refine one sr o λp v G1 H1 g1 t1 bE o1=>?_
  cases p with
  |int i=>exact⟨H0,G1,i,bE.sub,t1.top,λw G' H' g' iP=>o1 w G' H' (g1.trans g') (.of iP)⟩
  |bl _=>exact False.elim o1
  |az=>exact False.elim o1
  |str _=>exact False.elim o1
  |tup _=>exact False.elim o1
  |lst _=>exact False.elim o1
  |exc _=>exact False.elim o1
  |aP _ _=>exact False.elim o1
theorem Jp{a:E}{pa:Expr}{pos:Pos}(ha:GE X W F a pa):GE X W F (.not a) (.UnaryOp .Not pa pos):=
 (IQ ha).imp λσ H Q h=>by
  obtain⟨H0,G,env,sr,o⟩:=h
  rw [aK] at o;refine one sr o λp v G1 H1 g1 t1 bE o1=>?_
  cases p with
  |bl b=>exact⟨b,t1.top.bl,o1 _ G1 H1 g1 (.of .b)⟩
  |int _=>exact False.elim o1
  |az=>exact False.elim o1
  |str _=>exact False.elim o1
  |tup _=>exact False.elim o1
  |lst _=>exact False.elim o1
  |exc _=>exact False.elim o1
  |aP _ _=>exact False.elim o1
theorem Li{a:E}{pa:Expr}{pos:Pos}(ha:GT X W F a pa):GT X W F (.not a) (.UnaryOp .Not pa pos):=
 (HY ha).imp λσ H Q h=>by
  obtain⟨H0,G,env,sr,o⟩:=h
  rw [aK] at o;refine Dz sr o λb G1 H1 g1 bE o1=>?_
  obtain⟨b',e,q⟩:=o1
  cases e;exact q G1 H1 g1
theorem BQ{a b:E}{pa pb:Expr}{r:List Expr}{pos:Pos}(he:gQ b=true)(ha:GE X W F a pa)(hb:GE X W F b (.BoolOp .And (pb::r) pos)):GE X W F (.and a b) (.BoolOp .And (pa::pb::r) pos):=
 (JR ha hb).imp λσ H Q h=>by
  obtain⟨H0,G,env,sr,o⟩:=h
  rw [aK] at o;refine one sr o λp v G1 H1 g1 t1 bE o1=>?_
  cases p with
  |bl t=>
   refine⟨t,t1.top.bl,?_⟩;cases t with
   |true=>
    rw [if_pos rfl];have sX:Out X W (aK F b env) σ G1 H1 _:=o1
    exact⟨H0,G1,env,bE,sX.imp λp hp v G' H' g' t'=>hp v G' H' (g1.trans g') (.of (t'.rep he))⟩
   |false=>
    rw [if_neg zzf];have sX:Out X W (Res.ok (PV.bl false)) σ G1 H1 _:=o1
    exact sX _ G1 H1 g1 (.of .b)
  |int _=>exact False.elim o1
  |az=>exact False.elim o1
  |str _=>exact False.elim o1
  |tup _=>exact False.elim o1
  |lst _=>exact False.elim o1
  |exc _=>exact False.elim o1
  |aP _ _=>exact False.elim o1
theorem Gy{a b:E}{pa pb:Expr}{r:List Expr}{pos:Pos}(he:gQ b=true)(ha:GE X W F a pa)(hb:GE X W F b (.BoolOp .Or (pb::r) pos)):GE X W F (.or a b) (.BoolOp .Or (pa::pb::r) pos):=
 (NY ha hb).imp λσ H Q h=>by
  obtain⟨H0,G,env,sr,o⟩:=h
  rw [aK] at o;refine one sr o λp v G1 H1 g1 t1 bE o1=>?_
  cases p with
  |bl t=>
   refine⟨t,t1.top.bl,?_⟩;cases t with
   |false=>
    rw [if_neg zzf];have sX:Out X W (aK F b env) σ G1 H1 _:=o1
    exact⟨H0,G1,env,bE,sX.imp λp hp v G' H' g' t'=>hp v G' H' (g1.trans g') (.of (t'.rep he))⟩
   |true=>
    rw [if_pos rfl];have sX:Out X W (Res.ok (PV.bl true)) σ G1 H1 _:=o1
    exact sX _ G1 H1 g1 (.of .b)
  |int _=>exact False.elim o1
  |az=>exact False.elim o1
  |str _=>exact False.elim o1
  |tup _=>exact False.elim o1
  |lst _=>exact False.elim o1
  |exc _=>exact False.elim o1
  |aP _ _=>exact False.elim o1
theorem Al{a b:E}{pa pb:Expr}{r:List Expr}{pos:Pos}(ha:GT X W F a pa)(hb:GW X W F b (.BoolOp .And (pb::r) pos)):GW X W F (.and a b) (.BoolOp .And (pa::pb::r) pos):=
 (pw_and ha hb).imp λσ H Q h=>by
  obtain⟨H0,G,env,sr,o⟩:=h
  rw [aK] at o;refine Dz sr o λt G1 H1 g1 bE o1=>?_
  cases t with
  |true=>
   rw [if_pos rfl];have sX:Out X W (aK F b env) σ G1 H1 _:=o1
   exact⟨H0,G1,env,bE,sX.imp λp hp=>by obtain⟨c,rfl,q⟩:=hp;exact⟨c,rfl,λG' H' g'=>q G' H' (g1.trans g')⟩⟩
  |false=>
   rw [if_neg zzf];obtain⟨c,e,q⟩:=(show Out X W (Res.ok (PV.bl false)) σ G1 H1 _ from o1)
   cases e;exact q G1 H1 g1
theorem GH{a b:E}{pa pb:Expr}{r:List Expr}{pos:Pos}(ha:GT X W F a pa)(hb:GW X W F b (.BoolOp .Or (pb::r) pos)):GW X W F (.or a b) (.BoolOp .Or (pa::pb::r) pos):=
 (pw_or ha hb).imp λσ H Q h=>by
  obtain⟨H0,G,env,sr,o⟩:=h
  rw [aK] at o;refine Dz sr o λt G1 H1 g1 bE o1=>?_
  cases t with
  |false=>
   rw [if_neg zzf];have sX:Out X W (aK F b env) σ G1 H1 _:=o1
   exact⟨H0,G1,env,bE,sX.imp λp hp=>by obtain⟨c,rfl,q⟩:=hp;exact⟨c,rfl,λG' H' g'=>q G' H' (g1.trans g')⟩⟩
  |true=>
   rw [if_pos rfl];obtain⟨c,e,q⟩:=(show Out X W (Res.ok (PV.bl true)) σ G1 H1 _ from o1)
   cases e;exact q G1 H1 g1
theorem JW{c a b:E}{pc pa pb:Expr}{pos:Pos}(U1:gQ a=true)(UA:gQ b=true)(hc:GT X W F c pc)(ha:GE X W F a pa)(hb:GE X W F b pb):GE X W F (.ite c a b) (.IfExp pc pa pb pos):=
 (zP hc ha hb).imp λσ H Q h=>by
  obtain⟨H0,G,env,sr,o⟩:=h
  rw [aK] at o;refine Dz sr o λt G1 H1 g1 bE o1=>?_
  cases t with
  |true=>
   rw [if_pos rfl];have sX:Out X W (aK F a env) σ G1 H1 _:=o1
   exact⟨H0,G1,env,bE,sX.imp λp hp v G' H' g' t'=>hp v G' H' (g1.trans g') (.of (t'.rep U1))⟩
  |false=>
   rw [if_neg zzf];have sX:Out X W (aK F b env) σ G1 H1 _:=o1
   exact⟨H0,G1,env,bE,sX.imp λp hp v G' H' g' t'=>hp v G' H' (g1.trans g') (.of (t'.rep UA))⟩
end
section
variable{Γ:Pg}{X:Cx}{W:Wd}{F:aN}{N:List Str}{sc:Scope}{k:Nat}
noncomputable def tF(X:Cx)(W:Wd)(F:aN)(e:E):TE:=λσ H Q=>∃H0 G env,SR W H0 env σ G H/\Out X W (aK F e env) σ G H λp=>∃xs,p=.lst xs/\∀a vs G' H',aE W G H G' H'->H' a=none->aj W G' xs vs->Q (.ref a) (upd H' a (.lst vs))
abbrev GF(X:Cx)(W:Wd)(F:aN)(e:E)(p:Expr):Prop:=PE X p (tF X W F e)
theorem GF.ge{e:E}{p:Expr}(h:GF X W F e p)(hl:∀env q,aK F e env=.ok q->∃xs,q=.lst xs):GE X W F e p:=
 L2.PE.imp h λσ H Q hq=>by
  obtain⟨H0,G,env,sr,o⟩:=hq
  refine⟨H0,G,env,sr,?_⟩;cases r:aK F e env with
  |bad=>rw [r] at o;exact o
  |exc c=>rw [r] at o;exact o
  |ok q=>
   rw [r] at o;obtain⟨xs,rfl⟩:=hl env q r
   exact⟨xs,rfl,λa vs G' H' g ha l=>o _ _ _ (g.trans (.new g.sub ha)) (.of (.l (.inl (.inl ak)) (aj.same (bD (g.sub.free ha)) xs l)))⟩
theorem notStar{e:E}{p:Expr}(h:bh Γ N sc e p=true):∀env ps,starEach (p::ps) env=(false,eval p env)::starEach ps env:=by
 intro env ps;cases p<;>first|rfl|(cases e<;>first|(exact aA h)|(rename_i q;cases q<;>exact aA h))
theorem eG:∀{es:Es} {ps:List Expr},gK Γ N sc es ps=true->∀env pos,(backTo pos (starEach ps env)).any (·.1)=false
 |.nil,[],_,_,_=>rfl
 |.cons e es,p::ps,h,env,pos=>by
  replace h:=ax h
  rw [notStar h.1];show(false||(backTo pos (starEach ps env)).any (·.1))=false
  rw [eG h.2]
  rfl
 |.nil,_::_,h,_,_=>aA h
 |.cons _ _,[],h,_,_=>aA h
abbrev GA(X:Cx)(W:Wd)(F:aN)(es:Es)(ps:List Expr):Prop:=PA X ps (tA X W F es)
theorem IP:GA X W F .nil []:=L2.PA.imp dD λσ H Q h=>by
 obtain⟨H0,G,env,sr,o⟩:=h
 rw [cU] at o;exact o [] G H (.refl sr.sub) ⟨.nil,λ_=>.nil⟩
theorem EJ{e:E}{es:Es}{p:Expr}{ps:List Expr}(he:GE X W F e p)(hs:GA X W F es ps)(dN:starEach (p::ps) X.env=(false,eval p X.env)::starEach ps X.env):GA X W F (.cons e es) (p::ps):=
 L2.PA.imp (bM he hs dN) λσ H Q h=>by
  obtain⟨H0,G,env,sr,o⟩:=h
  rw [cU] at o;refine one sr o λq v G1 H1 g1 t1 bE o1=>args bE o1 λqs vs G2 H2 g2 t2 fB o2=>?_
  refine o2 (v::vs) G2 H2 (g1.trans g2) ⟨.cons (t1.top.grow g2) t2.top,λz=>?_⟩
  unfold ij at z;rw [zza] at z;exact .cons (Rep.same g2.g q (t1.rep z.1)) (t2.rep z.2)
theorem jm:∀{es:Es} {env:Sl} {ps:List PV},cU F es env=.ok ps->ps.length=gO es
 |.nil,env,ps,h=>by rw [cU] at h;cases h;rfl
 |.cons e es,env,ps,h=>by
  rw [cU] at h;obtain⟨p,_,h⟩:=Res.bb h
  obtain⟨qs,hq,h⟩:=Res.bb h
  cases h;rw [zzL,jm hq]
  rfl
theorem JY{es:Es}{ps:List Expr}{x1:Nat}{pos:Pos}(Aw:ij es=true)(hl:gO es<1000)(h:GA X W F es ps):GE X W F (.tup es) (.Tuple ps x1 pos):=
 L2.PE.imp (Ir h) λσ H Q hq=>by
  obtain⟨H0,G,env,sr,o⟩:=hq
  rw [aK] at o;have o':=o
  refine⟨H0,G,env,sr,?_⟩;cases r:cU F es env with
  |bad=>rw [r] at o;exact o
  |exc c=>rw [r] at o;exact o
  |ok qs=>
   rw [r] at o;have hlen:=jm r
   intro vs G1 H1 g1 t;have l:=t.rep Aw
   refine⟨by rw [l.length,hlen];exact Nat.le_of_lt (Nat.lt_trans hl (by decide)),λp hp=>?_⟩
   exact o _ _ _ (g1.trans (.new g1.sub hp)) (.of (.t (.inl ak) (aj.same (bD (g1.sub.free hp)) qs l)))
theorem zD{es:Es}{ps:List Expr}{pos:Pos}(Aw:ij es=true)(hl:gO es<1000)(h:GA X W F es ps):GF X W F (.lst es) (.List ps pos):=
 L2.PE.imp (Jw h) λσ H Q hq=>by
  obtain⟨H0,G,env,sr,o⟩:=hq
  rw [aK] at o;refine⟨H0,G,env,sr,?_⟩;cases r:cU F es env with
  |bad=>rw [r] at o;exact o
  |exc c=>rw [r] at o;exact o
  |ok qs=>
   rw [r] at o;have hlen:=jm r
   obtain⟨xs,e,o⟩:=o
   cases e;intro vs G1 H1 g1 t;have l:=t.rep Aw
   exact⟨by rw [l.length,hlen];exact Nat.le_of_lt (Nat.lt_trans hl (by decide)),λp hp=>o p vs G1 H1 g1 hp l⟩
theorem lst_is{es:Es}:∀env q,aK F (.lst es) env=.ok q->∃xs,q=.lst xs:=λenv q h=>by
 rw [aK] at h;obtain⟨ps,_,h⟩:=Res.bb h
 cases h;exact⟨_,rfl⟩
theorem xM{p q:PV}(c:Str):aD p q≠.exc c:=by
 unfold aD
 (repeat' first|split|refine kI λ_=>?_|exact Res.aM c|exact(λz=>nomatch z))
theorem IJ(C:dH Γ F W N sc k X){a b:E}{pa pb:Expr}{pos:Pos}(ha:GE X W F a pa)(hb:GE X W F b pb)(hs:o9 pb):GE X W F (.sub a b) (.Subscript pa pb pos):=
 (Hu (Qv C.K C.room.units) ha hb hs).imp λσ H Q h=>two (λp q c=>xM c) (λenv=>by rw [aK]) h
theorem Cr{e:E}{p:Expr}(h:bh Γ N sc e p=true):o9 p:=by
 intro o i;cases p<;>first|rfl|(cases e<;>first|(exact aA h)|(rename_i q;cases q<;>exact aA h))
theorem oY{e:E}{p:Expr}(h:bh Γ N sc e p=true)(op:CmpOp):behindInMarks op p=false:=by
 cases p<;>first|rfl|(cases e<;>first|(exact aA h)|(rename_i q;cases q<;>exact aA h))
theorem FU:PO X none (Bk X W F .no):=λaa s σ H Q I h=>F5 aa s σ H Q I (by
 obtain⟨H0,G,env,sr,o⟩:=h
 rw [uA] at o;exact o G H (.refl sr.sub))
theorem FG{e:E}{p:Expr}(h:GE X W F e p):PO X (some p) (Bk X W F (.some e)):=λaa s σ H Q I hq=>Fo h aa s σ H Q I (by
 obtain⟨H0,G,env,sr,o⟩:=hq
 rw [uA] at o;refine one sr o λq v G1 H1 g1 t1 bE o1=>?_
 cases q with
 |int i=>exact⟨i,t1.top.int,o1 G1 H1 g1⟩
 |bl _=>exact False.elim o1
 |az=>exact False.elim o1
 |str _=>exact False.elim o1
 |tup _=>exact False.elim o1
 |lst _=>exact False.elim o1
 |exc _=>exact False.elim o1
 |aP _ _=>exact False.elim o1)
theorem qX{p:PV}{lo hi:Option Int}(c:Str):ie p lo hi≠.exc c:=by
 unfold ie
 (repeat' first|split|refine kI λ_=>?_|exact Res.aM c|exact(λz=>nomatch z))
theorem Bh(C:dH Γ F W N sc k X){a:E}{lo hi:Oe}{pa:Expr}{pl ph:Option Expr}{p2 pos:Pos}(ha:GE X W F a pa)(hl:PO X pl (Bk X W F lo))(hh:PO X ph (Bk X W F hi)):GE X W F (.slice a lo hi) (.Subscript pa (.Slice pl ph none p2) pos):=
 (Aj (Rh C.K) ha hl hh).imp λσ H Q h=>by
  obtain⟨H0,G,env,sr,o⟩:=h
  rw [aK] at o;refine one sr o λp v G1 H1 g1 t1 bE o1=>?_
  refine⟨H0,G1,env,bE,o1.bind.imp λl uB G2 H2 g2=>?_⟩
  refine⟨H0,G2,env,bE.grow g2,(uB.grow g2).bind.imp λh' Uh G3 H3 g3=>?_⟩
  obtain⟨r,hr,kr⟩:=(Uh.grow g3).val (λc=>qX c)
  exact⟨H0,G3,p,r,((bE.grow g2).grow g3).sub,t1.top.grow (g2.trans g3),hr,λw G' H' g' iP=>kr w G' H' (((g1.trans g2).trans g3).trans g') (.of iP)⟩
theorem Ez{CX:zt}{f:Addr}{fd:FuncData}{ps:List Str}{sp:Sp}{E:XK}{aa:List (Addr×Obj)}{σ:St}{H:Hp}{s:Shared}{Q:VK}{us:List Value}{vs:List V}(FO:gN X.prog X.w X.K X.mg X.base CX k f fd ps sp)(hr:dS k X.A)(hb:Binds X.K fd ps [])
 (hx:∀e s',CX X.stack H s E e s'->X.xe e s') (I:Inv X aa σ H s) (r:Vals vs us) (h:sp vs H Q E):wpAny (model X.prog X.w) X.A (call (.ref f) us) (EP X aa σ Q) X.xe s:=by
 have hl:us.length=ps.length:=by rw [<-r.length];exact FO.len _ _ _ _ h
 have nk:=hb s us I.oD (by rw [List.append_nil];exact hl)
 rw [List.append_nil] at nk;refine wpAny_call (codeAny_mono (FO.run X.A X.stack s H ⟨us,[]⟩ us vs Q E hr I.xW nk r h) λr s' hq=>?_)
 cases r with
 |error e=>exact hx e s' hq
 |ok fl=>
  cases fl with
  |ret u=>exact I.after hq
  |next=>exact False.elim hq
  |brk=>exact False.elim hq
  |cont=>exact False.elim hq
theorem AR.imp{P:Program}{w:World}{outer:List Env}{H:Hp}{s s':Shared}{E E':XK}{e:Value}(h:dZ P w outer H s E e s')(i:∀C a H',E C a H'->E' C a H'):dZ P w outer H s E' e s':=by
 obtain⟨a,C,t,vs,H',B,rfl,F⟩:=h
 exact⟨a,C,t,vs,H',B,rfl,⟨F.os,F.bare,F.aQ,F.yO,F.tn,F.tup,F.dY,F.cX,F.un,i _ _ _ F.ends⟩⟩
theorem mH(hr:dS k X.A){f:Str}{fa:Addr}{fd:FuncData}{pn:List Str}{q:Option (Str×List Nat)}{aa:List (Addr×Obj)}{σ:St}{G H:Hp}{s:Shared}{Q:VK}{us:List Value}{vs:List V}{as:List PV}
 (FO:gN X.prog X.w X.K X.mg X.base (dZ X.prog X.w) k fa fd pn (zo W F f pn.length q)) (hb:Binds X.K fd pn []) (hlen:F f as≠.bad->vs.length=pn.length)
 (I:Inv X aa σ H s) (sg:aC G H) (tb:cO W G H) (l:CK W G q as vs) (r:Vals vs us) (o:Out X W (F f as) σ G H λp=>dy W G H p Q):wpAny (model X.prog X.w) X.A (call (.ref fa) us) (EP X aa σ Q) X.xe s:=by
 have A5:F f as≠.bad:=λz=>by rw [z] at o;exact o
 refine Ez (E:=λCv ao H'=>∃c,F f as=.exc c/\XE W c G H Cv ao H') FO hr hb (λe s' x=>?_) I r ⟨hlen A5,G,as,sg,tb,l,?_⟩
 ·cases z:F f as with
  |ok q=>
   obtain⟨a,C',t,vs,H',B,rfl,Fl⟩:=x
   obtain⟨c,e1,_⟩:=Fl.ends
   rw [z] at e1;cases e1
  |exc c=>
   rw [z] at o;refine o aa G H s e s' I (.refl sg) (AR.imp x λC1 a H' y=>?_);obtain⟨c',e1,y⟩:=y
   rw [z] at e1;cases e1;exact y
  |bad=>exact absurd z A5
 ·cases z:F f as with
  |ok q=>
   rw [z] at o;exact λv G' H' g' rp=>o v G' H' g' rp
  |exc c=>exact λCv ao H' x=>⟨c,rfl,x⟩
  |bad=>exact absurd z A5
theorem dH.rm(C:dH Γ F W N sc k X):dS k X.A:=C.room.mono (Nat.le_succ k)
theorem EK(C:dH Γ F W N sc k X){f:Str}{e:E}{es:Es}{p:Expr}{ps:List Expr}{np pos:Pos}(hf:Γ.fs.contains f=true)(hg:hZ sc f=true)(ho:okN f=true)(Aw:ij (.cons e es)=true)(ha:GA X W F (.cons e es) (p::ps))
 (dN:starEach (p::ps) X.env=(false,eval p X.env)::starEach ps X.env) (hpl:(backTo pos (starEach ps X.env)).any (·.1)=false):GE X W F (.call f (.cons e es)) (.Call (.Name f np) (p::ps) [] pos):=by
 intro aa s σ H Q I h;obtain⟨H0,G,env,sr,o⟩:=h
 rw [aK] at o;obtain⟨fa,fd,pn,FO,hm,hk,hb,hlen⟩:=(C.fns f hf).ex
 refine wpAny_Call_Name_kw (fR I (dR C hg) hm ?_ (c8 ho).1);refine PySem.W.callWith_K (h₀:=X.base) I.ok.mod.NP hk (bR (ha pos aa s σ H (λvs H1=>∃G1 as,aC G1 H1/\cO W G1 H1/\aj W G1 as vs/\Out X W (F f as) σ G1 H1 λp=>dy W G1 H1 p Q) I ?_) λus s1 ⟨vs,H1,I1,r,q⟩=>⟨I1.oD,?_⟩) dN hpl
 ·refine args sr o λas vs G1 H1 g1 t bE o1=>⟨G1,as,bE.sub,bE.tab,t.rep Aw,o1.imp λp hp v G' H' g' rp=>hp v G' H' (g1.trans g') (.of rp)⟩
 ·obtain⟨G1,as,sg,tb,l,o1⟩:=q
  exact mH C.rm FO hb (λz=>by rw [l.length];exact hlen as z) I1 sg tb l r o1
theorem Bq(C:dH Γ F W N sc k X){f:Str}{np pos:Pos}(hf:Γ.fs.contains f=true)(hg:hZ sc f=true)(ho:okN f=true):GE X W F (.call f .nil) (.Call (.Name f np) [] [] pos):=by
 intro aa s σ H Q I h;obtain⟨H0,G,env,sr,o⟩:=h
 rw [aK,cU] at o;obtain⟨fa,fd,pn,FO,hm,hk,hb,hlen⟩:=(C.fns f hf).ex
 refine wpAny_Call_Name_kw (fR I (dR C hg) hm ?_ (c8 ho).1);refine PySem.W.callWith_K0 I.oD hk ?_;have o':Out X W (F f []) σ G H λp=>∀v G' H',aE W G H G' H'->Got W H0 G' H' (.call f .nil) p v->Q v H':=o
 exact mH (us:=[]) (vs:=[]) (as:=[]) (q:=none) C.rm FO hb (λz=>hlen [] z) I sr.sub sr.tab (show aj W G [] [] from .nil) .nil (o'.imp λp hp v G' H' g' rp=>hp v G' H' g' (.of rp))
theorem Gf{ps:List PV}(c:Str):tX ps≠.exc c:=by
 unfold tX
 (repeat' first|split|refine kI λ_=>?_|exact Res.aM c|exact(λz=>nomatch z))
theorem DD{ps:List PV}(c:Str):AZ ps≠.exc c:=by
 unfold AZ
 (repeat' first|split|refine kI λ_=>?_|exact Res.aM c|exact(λz=>nomatch z))
theorem FH{ps:List PV}(c:Str):BU ps≠.exc c:=by
 unfold BU
 (repeat' first|split|refine kI λ_=>?_|exact Res.aM c|exact(λz=>nomatch z))
theorem Dy{ps:List PV}(c:Str):Ac ps≠.exc c:=by
 unfold Ac
 (repeat' first|split|refine kI λ_=>?_|exact Res.aM c|exact(λz=>nomatch z))
theorem D8{ps:List PV}(c:Str):CO ps≠.exc c:=by
 unfold CO
 (repeat' first|split|refine kI λ_=>?_|exact Res.aM c|exact(λz=>nomatch z))
theorem xD{ps:List PV}(c:Str):l0 ps≠.exc c:=by
 unfold l0
 (repeat' first|split|refine kI λ_=>?_|exact Res.aM c|exact(λz=>nomatch z))
theorem E0{ps:List PV}(c:Str):Bu ps≠.exc c:=by
 unfold Bu
 (repeat' first|split|refine kI λ_=>?_|exact Res.aM c|exact(λz=>nomatch z))
theorem rS{ps:List PV}(c:Str):iQ ps≠.exc c:=by
 unfold iQ
 (repeat' first|split|refine kI λ_=>?_|exact Res.aM c|exact(λz=>nomatch z))
theorem xF{ps:List PV}(c:Str):mB ps≠.exc c:=by
 unfold mB
 (repeat' first|split|refine kI λ_=>?_|exact Res.aM c|exact(λz=>nomatch z))
theorem ua{ps:List PV}(c:Str):jc ps≠.exc c:=by
 unfold jc
 (repeat' first|split|refine kI λ_=>?_|exact Res.aM c|exact(λz=>nomatch z))
theorem yb{ps:List PV}(c:Str):mW ps≠.exc c:=by
 unfold mW
 (repeat' first|split|refine kI λ_=>?_|exact Res.aM c|exact(λz=>nomatch z))
theorem B2{ps:List PV}(c:Str):sW ps≠.exc c:=by
 unfold sW
 (repeat' first|split|refine kI λ_=>?_|exact Res.aM c|exact(λz=>nomatch z))
theorem yy{b:B}{ps:List PV}(c:Str):d5 b ps≠.exc c:=match b with
 |.len=>Gf c|.abs=>DD c|.max2=>FH c|.int=>Dy c|.str=>D8 c|.tuple=>xD c|.all=>E0 c|.dict=>rS c|.mS=>xF c
theorem y9{m:M}{ps:List PV}(c:Str):rW m ps≠.exc c:=match m with
 |.iG=>ua c|.index=>yb c|.join=>B2 c
theorem J7(C:dH Γ F W N sc k X)(b:B){e:Expr}{es:List Expr}{t:TA}{np pos:Pos}(hg:hZ sc (bN b)=true)(hm:Γ.bs.contains (bN b)=true)(ha:PA X (e::es) t)
 (he:starEach (e::es) X.env=(false,eval e X.env)::starEach es X.env) (hpl:(backTo pos (starEach es X.env)).any (·.1)=false):PE X (.Call (.Name (bN b) np) (e::es) [] pos) (Oq (zu W (d5 b)) t):=by
 have oq:=C.bs _ (List.contains_iff_mem.mp hm)
 have tv:=dR C hg
 cases b
 case len=>exact eR (yE C.K) tv oq PySem.boot_len ha (he:=he) (hpl:=hpl)
 case abs=>exact eR yr tv oq (by decide+kernel) ha (he:=he) (hpl:=hpl)
 case max2=>exact eR (x8 C.calm) tv oq (by decide+kernel) ha (he:=he) (hpl:=hpl)
 case int=>exact eg xI tv oq (by decide+kernel) ha (he:=he) (hpl:=hpl)
 case str=>exact eg yY tv oq (by decide+kernel) ha (he:=he) (hpl:=hpl)
 case tuple=>exact eg (rj C.K) tv oq (by decide+kernel) ha (he:=he) (hpl:=hpl)
 case all=>exact eR (zg C.calm C.K) tv oq (by decide+kernel) ha (he:=he) (hpl:=hpl)
 case dict=>exact eg (qQ C.K C.calm C.room.units) tv oq (by decide+kernel) ha (he:=he) (hpl:=hpl)
 case mS=>exact eg (qS C.K C.calm) tv oq (by decide+kernel) ha (he:=he) (hpl:=hpl)
theorem HS{op:List PV->Res PV}{es:Es}{e:E}{σ:St}{H:Hp}{Q:VK}(hn:∀ps c,op ps≠.exc c)(he:∀env,aK F e env=(cU F es env).bind λps=>op ps)(h:tE X W F e σ H Q):Oq (zu W op) (tA X W F es) σ H Q:=by
 obtain⟨H0,G,env,sr,o⟩:=h
 rw [he] at o;refine args sr o λps vs G1 H1 g1 t bE o1=>?_
 obtain⟨r,hr,kr⟩:=o1.val (hn ps)
 exact⟨H0,G1,ps,r,bE.sub,t.top,hr,λw G' H' g' iP=>kr w G' H' (g1.trans g') (.of iP)⟩
theorem Jb(C:dH Γ F W N sc k X)(b:B){es:Es}{e:Expr}{ps:List Expr}{np pos:Pos}(hg:hZ sc (bN b)=true)(hm:Γ.bs.contains (bN b)=true)(ha:GA X W F es (e::ps))
 (he:starEach (e::ps) X.env=(false,eval e X.env)::starEach ps X.env) (hpl:(backTo pos (starEach ps X.env)).any (·.1)=false):GE X W F (.blt b es) (.Call (.Name (bN b) np) (e::ps) [] pos):=
 (J7 C b hg hm ha he hpl).imp λσ H Q h=>HS (λps c=>yy c) (λenv=>by rw [aK]) h
end
section
variable{Γ:Pg}{X:Cx}{W:Wd}{F:aN}{N:List Str}{sc:Scope}{k:Nat}
theorem Bf{t:Ty}{p:PV}(c:Str):jx t p≠.exc c:=by
 cases p<;>exact λz=>nomatch z
theorem La(C:dH Γ F W N sc k X)(t:Ty){pos:Pos}(hg:hZ sc (Str.ofString (t9 t))=true)(hm:Γ.bs.contains (Str.ofString (t9 t))=true):PE X (.Name (Str.ofString (t9 t)) pos) (tC (.ty (t9 t))):=by
 have oq:=C.bs _ (List.contains_iff_mem.mp hm)
 have tv:=dR C hg
 cases t
 all_goals exact vN tv oq (u:=.type _) (by decide+kernel) rfl (by decide+kernel) (by decide+kernel)
theorem MX(C:dH Γ F W N sc k X){t:Ty}{a:E}{pa:Expr}{np tp pos:Pos}(hi:hZ sc "isinstance"=true)(hb:Γ.bs.contains "isinstance"=true)(hg:hZ sc (Str.ofString (t9 t))=true)(hm:Γ.bs.contains (Str.ofString (t9 t))=true)(ha:GE X W F a pa)
 (dN:∀env ps,starEach (pa::ps) env=(false,eval pa env)::starEach ps env):GE X W F (.ty t a) (.Call (.Name "isinstance" np) [pa,.Name (Str.ofString (t9 t)) tp] [] pos):=by
 refine(eR (BA C.K t) (dR C hi) (C.bs _ (List.contains_iff_mem.mp hb)) (by decide+kernel) (bM ha (bM (La C t hg hm) dD) (dN _ _)) (he:=dN _ _)).imp λσ H Q h=>?_
 obtain⟨H0,G,env,sr,o⟩:=h
 rw [aK] at o;refine one sr o λp v G1 H1 g1 t1 bE o1=>?_
 obtain⟨r,hr,kr⟩:=o1.val (λc=>Bf c)
 exact⟨v,H0,G1,p,r,rfl,bE.sub,t1.top,hr,λw G' H' g' iP=>kr w G' H' (g1.trans g') (.of iP)⟩
theorem II(C:dH Γ F W N sc k X){c:Str}{a:E}{pa:Expr}{np tp pos:Pos}(hi:hZ sc "isinstance"=true)(hb:Γ.bs.contains "isinstance"=true)(hg:hZ sc c=true)(aQ:okN c=true)(hm:(Γ.cs.contains c||(c=="ValueError"&&Γ.bs.contains c))=true)(ha:GE X W F a pa)
 (dN:∀env ps,starEach (pa::ps) env=(false,eval pa env)::starEach ps env) (GL:Γ.cs.contains "ValueError"=false):GE X W F (.Dg c a) (.Call (.Name "isinstance" np) [pa,.Name c tp] [] pos):=by
 have key:∀{p:PV} {H0 G H:Hp} {v:V} {σ:St} {kk:PV->Prop} {env:Sl},Top W H0 G H p v->aC G H->Out X W (match p with|.exc d=>Res.ok (PV.bl (if c=="ValueError" then true else(c==d||c=="FloorError")))|_=>.bad) σ G H kk->∃a d D,p=.exc d/\v=.ref a/\d∈W.xs/\X.mg d=some (.ref D)/\H a=some (iS a D):=λ{p H0 G H v σ kk env} t sg o=>by
  cases p with
  |exc d=>
   rcases t with t|t
   ·simp only [Rep] at t;obtain⟨a,D,rfl,hx,hm,ha⟩:=t
    exact⟨a,d,D,rfl,rfl,hx,by rw [<-C.mg];exact hm,sg _ _ ha⟩
   ·exact t.elim
  |int _=>exact False.elim o
  |bl _=>exact False.elim o
  |az=>exact False.elim o
  |str _=>exact False.elim o
  |tup _=>exact False.elim o
  |lst _=>exact False.elim o
  |aP _ _=>exact False.elim o
 by_cases hv:(c==("ValueError":Str))=true
 ·have ec:c="ValueError":=beq_iff_eq.mp hv
  have Nr:Γ.bs.contains c=true:=by
   rw [Bool.or_eq_true,zza] at hm;rcases hm with h|h
   ·rw [ec,GL] at h;cases h
   ·exact h.2
  subst ec;refine(eR yC (dR C hi) (C.bs _ (List.contains_iff_mem.mp hb)) (by decide+kernel) (bM ha (bM (kA (dR C hg) (C.bs _ (List.contains_iff_mem.mp Nr))) dD) (dN _ _)) (he:=dN _ _)).imp λσ H Q h=>?_
  obtain⟨H0,G,env,sr,o⟩:=h
  rw [aK] at o;refine one sr o λp v G1 H1 g1 t1 bE o1=>?_
  obtain⟨a1,d,D,rfl,rfl,hx,hmd,hH⟩:=key (env:=env) t1.top bE.sub o1
  obtain⟨xc,_,hk⟩:=C.xc d hx D hmd
  exact⟨a1,D,"ValueError",true,rfl,hH,xc,hk,o1 _ G1 H1 g1 (.of .b)⟩
 ·have MV:Γ.cs.contains c=true:=by
   rw [Bool.or_eq_true,zza] at hm;rcases hm with h|h
   ·exact h
   ·exact absurd h.1 hv
  obtain⟨Cc,hCc⟩:=C.cls c (List.contains_iff_mem.mp MV)
  refine(eR yw (dR C hi) (C.bs _ (List.contains_iff_mem.mp hb)) (by decide+kernel) (bM ha (bM (AA (dR C hg) hCc (c8 aQ).1) dD) (dN _ _)) (he:=dN _ _)).imp λσ H Q h=>?_
  obtain⟨H0,G,env,sr,o⟩:=h
  rw [aK] at o;refine one sr o λp v G1 H1 g1 t1 bE o1=>?_
  obtain⟨a1,d,D,rfl,rfl,hx,hmd,hH⟩:=key (env:=env) t1.top bE.sub o1
  obtain⟨xc,hk,_⟩:=C.xc d hx D hmd
  have o2:Out X W (Res.ok (PV.bl (if c=="ValueError" then true else(c==d||c=="FloorError")))) σ G1 H1 _:=o1
  rw [if_neg hv] at o2;exact⟨a1,D,Cc,_,rfl,hH,xc,hk c (List.contains_iff_mem.mp MV) Cc hCc,o2 _ G1 H1 g1 (.of .b)⟩
def mT:M->String
 |.join=>"str"|.iG=>"list"|.index=>"list"
theorem QA(C:dH Γ F W N sc k X){m:M}{p:PV}{v:V}{H0 G H:Hp}(sg:aC G H)(h:wK m p=true)(t:Top W H0 G H p v):QN X.K (mT m) v H:=by
 cases m<;>cases p<;>first|(exact aA h)|(cases t.str;rfl)|(obtain⟨a,vs,rfl,h1,_⟩:=t.lst sg;exact .inl ⟨rfl,_,eU C.K h1⟩)
theorem HW(C:dH Γ F W N sc k X){m:M}{o:E}{es:Es}{po p:Expr}{ps:List Expr}{apos bQ:Pos}(ho:GE X W F o po)(ha:GA X W F es (p::ps))(eW:attributeBase po (mN m) X.env (eval po X.env)=eval po X.env)
 (Bw:((backTo bQ (starEach (p::ps) X.env)).all (λx=>!x.1)&&(backToKw bQ (keywordEach [] X.env)).all (λx=>x.1.isSome)&&decide ((p::ps).length+([]:List Keyword).length+(if([]:List Keyword).isEmpty then 0 else 1)<30))=true)
 (gC:(apos.endLine==bQ.line)=true) (hs:starEach (p::ps) X.env=(false,eval p X.env)::starEach ps X.env) (iD:(backTo bQ (starEach ps X.env)).any (·.1)=false):GE X W F (.Au m o es) (.Call (.Attribute po (mN m) apos) (p::ps) [] bQ):=by
 have rd:∀σ H Q,tE X W F (.Au m o es) σ H Q->SE X.K (mT m) (Ou W (rW m)) (tE X W F o) (tA X W F es) σ H Q:=λσ H Q h=>by
  obtain⟨H0,G,env,sr,out⟩:=h
  rw [aK] at out;refine one sr out λp v G1 H1 g1 t1 bE o1=>?_
  by_cases hk:wK m p=true
  ·rw [if_pos hk] at o1;refine⟨QA C bE.sub hk t1.top,args bE o1 λps vs G2 H2 g2 t2 fB o2=>?_⟩
   obtain⟨r,hr,kr⟩:=o2.val (λc=>y9 c)
   exact⟨H0,G2,p::ps,r,fB.sub,.cons (t1.top.grow g2) t2.top,hr,λw G' H' g' iP=>kr w G' H' ((g1.trans g2).trans g') (.of iP)⟩
  ·rw [if_neg hk] at o1;exact o1.elim
 cases m
 case join=>exact(sM PySem.F.plainAttrs_str PySem.F.slot_str_join PySem.F.type_str_join (CD C.K) ho ha eW Bw gC hs iD).imp rd
 case iG=>exact(sM PySem.F.plainAttrs_list PySem.F.slot_list_count PySem.F.type_list_count (uI C.K C.room.units) ho ha eW Bw gC hs iD).imp rd
 case index=>exact(sM PySem.F.plainAttrs_list PySem.F.slot_list_index PySem.F.type_list_index (xt C.K C.room.units) ho ha eW Bw gC hs iD).imp rd
end
section
variable{Γ:Pg}{X:Cx}{W:Wd}{F:aN}{N:List Str}{sc:Scope}{k:Nat}
theorem SR.set{H0 G H:Hp}{env:Sl}{σ:St}{p:PV}{v:V}(i:Nat)(r:SR W H0 env σ G H)(h:Rep W G p v):SR W H0 (env.set i (.val p)) (σ.set i (some v)) G H where
 len:=by simpa using r.len
 sub:=r.sub
 tab:=r.tab
 i8:=r.i8
 base:=r.base
 slot:=λj s e=>by
  by_cases hj:i=j
  ·subst hj;have cg:i<env.length:=by
    have:=(zzH.mp e).1
    simpa using this
   rw [List.getElem?_set_self cg] at e;cases e;exact⟨some v,List.getElem?_set_self (by rw [<-r.len];exact cg),v,rfl,h⟩
  ·rw [zzS hj] at e;obtain⟨o,h1,h2⟩:=r.slot j s e
   exact⟨o,by rw [zzS hj];exact h1,h2⟩
 apart:=λa b q q' ad e1 e2 e3 e4=>by
  have ne:∀{c:Nat} {q:PV},(env.set i (.val p))[c]?=some (.own q)->i≠c:=λ{c q} e z=>by
   subst z;have cg:i<env.length:=by
    have:=(zzH.mp e).1
    simpa using this
   rw [List.getElem?_set_self cg] at e;cases e
  have n1:=ne e1
  have n2:=ne e2
  rw [zzS n1] at e1 e3;rw [zzS n2] at e2 e4;exact r.apart a b q q' ad e1 e2 e3 e4
noncomputable def gT(K:PySem.W.Frag):Tg->TG
 |.one i=>dz i
 |.two i j=>zV K 2 (gV (dz i) (gV (dz j) xn))
 |.three i j l=>zV K 3 (gV (dz i) (gV (dz j) (gV (dz l) xn)))
 |.Mh i j l=>zV K 2 (gV (dz i) (gV (zV K 2 (gV (dz j) (gV (dz l) xn))) xn))
theorem uw{K:PySem.W.Frag}(hK:W.K=K){tg:Tg}{H0 G H:Hp}{env aw:Sl}{σ:St}{p:PV}{v:V}{Q:St->Hp->Prop}(e:Tg.put tg p env=.ok aw)(r:SR W H0 env σ G H)(h:Rep W G p v)(hq:∀σ',SR W H0 aw σ' G H->Q σ' H):gT K tg v σ H Q:=by
 unfold Tg.put at e;split at e
 ·cases e;exact hq _ (r.set _ h)
 ·cases e;simp only [Rep] at h;obtain⟨a,vs,rfl,sq,l⟩:=h
  obtain⟨v1,r1,rfl,h1,l⟩:=l.br
  obtain⟨v2,r2,rfl,h2,l⟩:=l.br
  simp only [aj] at l;subst l;rw [hK] at sq;exact⟨a,_,rfl,aC.tup r.sub sq.sq,rfl,_,_,rfl,_,_,rfl,rfl,hq _ ((r.set _ h1).set _ h2)⟩
 ·cases e;simp only [Rep] at h;obtain⟨a,vs,rfl,sq,l⟩:=h
  obtain⟨v1,r1,rfl,h1,l⟩:=l.br
  obtain⟨v2,r2,rfl,h2,l⟩:=l.br
  simp only [aj] at l;subst l;simp only [Rep] at h2;obtain⟨a2,vs2,rfl,bu,l2⟩:=h2
  obtain⟨v3,r3,rfl,h3,l2⟩:=l2.br
  obtain⟨v4,r4,rfl,h4,l2⟩:=l2.br
  simp only [aj] at l2;subst l2;rw [hK] at sq bu;exact⟨a,_,rfl,aC.tup r.sub sq.sq,rfl,_,_,rfl,_,_,rfl,a2,_,rfl,aC.tup r.sub bu.sq,rfl,_,_,rfl,_,_,rfl,rfl,rfl,hq _ (((r.set _ h1).set _ h3).set _ h4)⟩
 ·cases e;simp only [Rep] at h;obtain⟨a,vs,rfl,sq,l⟩:=h
  obtain⟨v1,r1,rfl,h1,l⟩:=l.br
  obtain⟨v2,r2,rfl,h2,l⟩:=l.br
  obtain⟨v3,r3,rfl,h3,l⟩:=l.br
  simp only [aj] at l;subst l;rw [hK] at sq;exact⟨a,_,rfl,aC.tup r.sub sq.sq,rfl,_,_,rfl,_,_,rfl,_,_,rfl,rfl,hq _ (((r.set _ h1).set _ h2).set _ h3)⟩
 ·cases e
theorem uf{x:Str}(d9:X.env.scope=sc)(h:eJ sc x=true):Loc X.env.scope x:=by
 rw [d9];unfold eJ at h;simp only [Bool.or_eq_true,beq_iff_eq] at h;exact h
theorem Bg{fn:Str->Bool}{i:Nat}{p:Expr}(hN:X.N=N)(nd:N.Nodup)(d9:X.env.scope=sc)(kf:∀x,fn x=true->X.fn x=true)(h:OU N sc fn i p=true):PG X p (dz i)/\∃x q,p=.Name x q:=by
 obtain⟨x,hx,h2⟩:=ah h
 obtain⟨q,rfl⟩:=cL hx
 simp only [zza,beq_iff_eq,Bool.or_eq_true] at h2;refine⟨DW (by rw [hN];exact nd) (by rw [hN];exact h2.1.1) (uf d9 h2.1.2) ?_,x,q,rfl⟩;rcases h2.2 with z|z
 ·exact .inl (kf x z)
 ·exact .inr (by rw [d9];exact z)
def SM:List Nat->GY
 |[]=>xn
 |i::is=>gV (dz i) (SM is)
theorem pz{fn:Str->Bool}(hN:X.N=N)(nd:N.Nodup)(d9:X.env.scope=sc)(kf:∀x,fn x=true->X.fn x=true):∀(is:List Nat) (es:List Expr),B9 N sc fn is es=true->Mc X es (SM is)/\(assignEach es X.env).length=is.length/\(assignEach es X.env).findIdx? (·.1)=none
 |[],[],_=>⟨w4,rfl,rfl⟩
 |i::is,a::as,h=>by
  have h:=ax h
  obtain⟨g1,x,p,rfl⟩:=Bg hN nd d9 kf h.1
  obtain⟨g,l,f⟩:=pz hN nd d9 kf is as h.2
  have e:assignEach (.Name x p::as) X.env=(false,assign (.Name x p) X.env)::assignEach as X.env:=rfl
  refine⟨my g1 g,by rw [e,zzL,l,zzL],?_⟩;rw [e,List.findIdx?_cons,f]
  rfl
 |[],_::_,h=>aA h
 |_::_,[],h=>aA h
theorem Ay{fn:Str->Bool}{tg:Tg}{p:Expr}(hN:X.N=N)(nd:N.Nodup)(d9:X.env.scope=sc)(hc:X.calm=true)(kf:∀x,fn x=true->X.fn x=true)(h:iu N sc fn tg p=true):PG X p (gT X.K tg):=by
 cases tg with
 |one i=>exact(Bg hN nd d9 kf h).1
 |two i j=>
  obtain⟨es,h1,h2⟩:=ah h
  obtain⟨k,q,rfl⟩:=jd h1
  obtain⟨g,l,f⟩:=pz hN nd d9 kf _ _ h2
  exact qu hc g l f
 |three i j l=>
  obtain⟨es,h1,h2⟩:=ah h
  obtain⟨k,q,rfl⟩:=jd h1
  obtain⟨g,l,f⟩:=pz hN nd d9 kf _ _ h2
  exact qu hc g l f
 |Mh i j l=>
  obtain⟨es,h1,h2⟩:=ah h
  obtain⟨k,q,rfl⟩:=jd h1
  obtain⟨⟨a,b⟩,h3,h4⟩:=ah h2
  have z3:=vR h3
  have h5:=ax h4
  obtain⟨fs,h6,h7⟩:=ah h5.2
  obtain⟨k2,q2,z6⟩:=jd h6
  obtain⟨g0,x,xp,z5⟩:=Bg hN nd d9 kf h5.1
  dsimp only at z3 z6 z5 g0;subst z3 z6 z5;obtain⟨g,l,f⟩:=pz hN nd d9 kf _ _ h7
  exact qu hc (my g0 (my (qu hc g l f) w4)) rfl rfl
def qo(W:Wd)(J:It)(G B:Hp)(ps:List PV):Prop:=∀(i:Nat) (G' H':Hp),aC G G'->gZ B H'->aC G' H'->
 (i=ps.length->J.stop i H')/\∀p,ps[i]?=some p->J.go i H'/\∀x nj,J.LO i H' x nj->∃xi,aE W G' H' xi nj/\Rep W xi p x
structure Nh(W:Wd)(G H:Hp)(it:I)(J:It)(ps:List PV):Prop where
 any:qo W J G H ps
 bF:Gj it=true->qo W J G G ps
noncomputable def tI(X:Cx)(W:Wd)(F:aN)(it:I):TI:=λσ H R=>∃H0 G env,SR W H0 env σ G H/\Out X W (qI F it env) σ G H λps=>∀J G' H',aE W G H G' H'->Nh W G' H' it J ps->R J H'
abbrev GI(X:Cx)(W:Wd)(F:aN)(tg:Expr)(it:I)(p:Expr):Prop:=PI X tg p (tI X W F it)
theorem vz(hK:W.K=X.K){G B:Hp}{a:Addr}{vs:List V}{ps:List PV}(h:qm W.K B a vs)(l:aj W G ps vs):qo W (Qd X.K a) G B ps:=λi G' H' sG sB sub=>by
 have hq:gz X.K H' a vs:=eU hK (gZ.ls sB h)
 refine⟨λhi=>⟨vs,hq,by rw [l.length];omega⟩,λp hp=>?_⟩
 obtain⟨v,hv,rv⟩:=l.nA hp
 refine⟨⟨vs,v,hq,hv⟩,λx nj hy=>?_⟩
 obtain⟨rfl,hy⟩:=hy
 have:=hy vs hq
 rw [hv] at this;cases this;exact⟨G',.refl sub,Rep.same sG p rv⟩
theorem zK{K:PySem.W.Frag}{G B:Hp}{a:Addr}{vs:List V}{ps:List PV}(h:f6 K B a vs)(l:aj W G ps vs):qo W (QK K a) G B ps:=λi G' H' sG sB sub=>by
 have hq:f6 K H' a vs:=gZ.tup sB h
 refine⟨λhi=>⟨vs,hq,by rw [l.length];omega⟩,λp hp=>?_⟩
 obtain⟨v,hv,rv⟩:=l.nA hp
 refine⟨⟨vs,v,hq,hv⟩,λx nj hy=>?_⟩
 obtain⟨rfl,hy⟩:=hy
 have:=hy vs hq
 rw [hv] at this;cases this;exact⟨G',.refl sub,Rep.same sG p rv⟩
theorem A9{G B:Hp}{a:Addr}{o:Obj}{ks:List (List Int)}{us:List V}(n:ks.length=us.length)(h:B a=some (.bF o (.dT (kz ks us)))):qo W (QV a o (kz ks us)) G B (ks.map af):=λi G' H' sG sB sub=>by
 have hq:H' a=some (.bF o (.dT (kz ks us))):=sB.at h (λ_ z=>nomatch z)
 refine⟨λhi=>⟨hq,by rw [fX n];rw [zzl] at hi;omega⟩,λp hp=>?_⟩
 rw [zzQ] at hp;obtain⟨k,hk,rfl⟩:=zzJ.mp hp
 have hi:i<ks.length:=(zzH.mp hk).1
 refine⟨⟨hq,by rw [fX n];exact hi⟩,λx nj hy=>?_⟩
 obtain⟨rfl,b,k',v,rfl,e2,e3⟩:=hy
 have ek:k'=ki k:=by
  have:=congrArg (λl=>l[i]?) (oX (us:=us) n)
  simp only [zzQ,e2,hk,Option.map_some] at this;exact Option.some.inj this
 rw [ek,rM] at e3;obtain⟨G2,g2,l2⟩:=hJ (W:=W) (vs:=[.ref b]) (nss:=[k]) sub (.cons ⟨b,rfl,e3⟩ .nil)
 obtain⟨w,r,ew,hw,_⟩:=l2.br
 cases ew;exact⟨G2,g2,hw⟩
theorem xw{z:Str}{i:Nat}{p:PV}(h:(chars z)[i]?=some p):∃c,z.cps[i]?=some c/\p=.str ⟨#[c]⟩:=by
 unfold chars at h;rw [zzQ] at h;obtain⟨c,hc,rfl⟩:=zzJ.mp h
 rw [Array.getElem?_toList] at hc;exact⟨c,hc,rfl⟩
theorem xN(z:Str):(chars z).length=z.cps.size:=by unfold chars;rw [zzl,zzd]
theorem qt{G B:Hp}(lo:Int)(n:Nat):qo W (Nm lo n) G B (dW lo n):=λi G' H' sG sB sub=>by
 unfold dW;refine⟨λhi=>by rw [zzl,List.length_range] at hi;exact Nat.le_of_eq hi.symm,λp hp=>?_⟩
 rw [zzQ] at hp;obtain⟨c,hc,rfl⟩:=zzJ.mp hp
 obtain⟨h1,h2⟩:=zzH.mp hc
 rw [List.length_range] at h1;rw [List.getElem_range] at h2;subst h2;refine⟨h1,λx nj hy=>?_⟩
 obtain⟨rfl,rfl⟩:=hy
 exact⟨G',.refl sub,.i⟩
theorem lO{G H:Hp}{p q:PV}{v u:V}{a:Addr}(sub:aC G H)(ha:H a=none)(h1:Rep W G p v)(h2:Rep W G q u):∃xi,aE W G H xi (upd H a (.tup [v,u]))/\Rep W xi (.tup [p,q]) (.ref a):=
 ⟨_,.new sub ha,.t (.inl ak) (aj.same (bD (sub.free ha)) _ (.cons h1 (.cons h2 .nil)))⟩
theorem jl:∀{xs:List PV} {n i:Nat} {p:PV},(cm n xs)[i]?=some p->∃x,xs[i]?=some x/\p=.tup [.int ((n+i:Nat):Int),x]
 |[],_,_,_,h=>by simp [cm] at h
 |x::xs,n,0,p,h=>by simp [cm] at h;exact⟨x,rfl,by rw [<-h];simp⟩
 |x::xs,n,i+1,p,h=>by
  simp only [cm,List.getElem?_cons_succ] at h;obtain⟨y,h1,h2⟩:=jl h
  exact⟨y,by simpa using h1,by rw [h2,show n+1+i=n+(i+1) by omega]⟩
theorem cN:∀(xs:List PV) (n:Nat),(cm n xs).length=xs.length
 |[],_=>rfl
 |_::xs,n=>by simp only [cm,zzL,cN xs]
theorem qW{K:PySem.W.Frag}{G B:Hp}{a:Addr}{vs:List V}{ps:List PV}(h:f6 K B a vs)(l:aj W G ps vs):qo W (P4 K a vs) G B (cm 0 ps):=λi G' H' sG sB sub=>by
 have hq:f6 K H' a vs:=gZ.tup sB h
 refine⟨λhi=>⟨hq,by rw [cN] at hi;rw [l.length];exact hi⟩,λp hp=>?_⟩
 obtain⟨x,hx,rfl⟩:=jl hp
 obtain⟨v,hv,rv⟩:=l.nA hx
 refine⟨⟨hq,(zzH.mp hv).1⟩,λy nj hy=>?_⟩
 obtain⟨b,x',rfl,hb,rfl,yI⟩:=hy
 rw [hv] at yI;cases yI;rw [Nat.zero_add];exact lO sub hb .i (Rep.same sG x rv)
theorem lx(hK:W.K=X.K){G B:Hp}{a:Addr}{vs:List V}{ps:List PV}(h:qm W.K B a vs)(l:aj W G ps vs):qo W (IA X.K a vs) G B (cm 0 ps):=λi G' H' sG sB sub=>by
 have hq:gz X.K H' a vs:=eU hK (gZ.ls sB h)
 refine⟨λhi=>⟨hq,by rw [cN] at hi;rw [l.length];exact hi⟩,λp hp=>?_⟩
 obtain⟨x,hx,rfl⟩:=jl hp
 obtain⟨v,hv,rv⟩:=l.nA hx
 refine⟨⟨hq,(zzH.mp hv).1⟩,λy nj hy=>?_⟩
 obtain⟨b,x',rfl,hb,rfl,yI⟩:=hy
 rw [hv] at yI;cases yI;rw [Nat.zero_add];exact lO sub hb .i (Rep.same sG x rv)
theorem sH{G B:Hp}(z:Str):qo W (Od z) G B (cm 0 (chars z)):=λi G' H' sG sB sub=>by
 refine⟨λhi=>by rw [cN,xN] at hi;exact hi,λp hp=>?_⟩
 obtain⟨x,hx,rfl⟩:=jl hp
 obtain⟨c,hc,rfl⟩:=xw hx
 refine⟨(Array.getElem?_eq_some_iff.mp hc).1,λy nj hy=>?_⟩
 obtain⟨b,c',rfl,hb,rfl,g8⟩:=hy
 rw [hc] at g8;cases g8;rw [Nat.zero_add];exact lO sub hb .i .s
theorem fL{e:E}{σ:St}{H0 G H:Hp}{env:Sl}{Q:VK}{p:PV}(sr:SR W H0 env σ G H)(e1:aK F e env=.ok p)(h:∀v G1 H1,aE W G H G1 H1->Got W H0 G1 H1 e p v->Q v H1):tE X W F e σ H Q:=⟨H0,G,env,sr,by rw [e1];exact h⟩
theorem Aq{e:E}{σ:St}{H0 G H:Hp}{env:Sl}{Q:VK}{c:Str}(sr:SR W H0 env σ G H)(e1:aK F e env=.exc c)(h:sP X W σ c G H):tE X W F e σ H Q:=⟨H0,G,env,sr,by rw [e1];exact h⟩
theorem Jd(C:dH Γ F W N sc k X){tg p:Expr}{e:E}(he:GE X W F e p):GI X W F tg (.seq e) p:=by
 intro aa s σ H R I h;obtain⟨H0,G,env,sr,o⟩:=h
 rw [qI] at o;cases r:aK F e env with
 |bad=>rw [r] at o;exact o.elim
 |exc c=>rw [r] at o;exact w5 he aa s σ H R I (Aq sr r o)
 |ok q=>
  rw [r] at o;cases q with
  |lst xs=>
   refine w5 he aa s σ H R I (fL sr r λv G1 H1 g1 t=>?_);have t':=t
   obtain⟨a,vs,rfl,h1,l1⟩:=t.top.lst g1.sub
   refine⟨a,rfl,⟨vs,eU C.K h1⟩,o _ G1 H1 g1 ⟨vz C.K h1 l1,λz=>?_⟩⟩
   have rp:=t'.rep z
   simp only [Rep] at rp;obtain⟨a',vs',e1,h2,l2⟩:=rp
   cases e1;exact vz C.K h2 l2
  |tup xs=>
   refine JA he aa s σ H R I (fL sr r λv G1 H1 g1 t=>?_);have t':=t
   obtain⟨a,vs,rfl,h1,l1⟩:=t.top.tup g1.sub
   rw [C.K] at h1;refine⟨a,rfl,⟨vs,h1⟩,o _ G1 H1 g1 ⟨zK h1 l1,λz=>?_⟩⟩
   have rp:=t'.rep z
   simp only [Rep] at rp;obtain⟨a',vs',e1,h2,l2⟩:=rp
   cases e1;rw [C.K] at h2;exact zK h2.sq l2
  |str z=>exact False.elim o
  |int _=>exact False.elim o
  |bl _=>exact False.elim o
  |az=>exact False.elim o
  |exc _=>exact False.elim o
  |aP ks qs=>
   by_cases HA:gQ e=true
   ·have Vk:BZ e (.aP ks qs)=.ok (ks.map af):=by
     cases e<;>first|rfl|exact aA HA
    have o2:Out X W (BZ e (.aP ks qs)) σ G H λps=>∀(J:It) (G' H':Hp),aE W G H G' H'->Nh W G' H' (Ci.I.seq e) J ps->R J H':=o
    rw [Vk] at o2;refine Ko he aa s σ H R I (fL sr r λv G1 H1 g1 t=>?_);have rp:=t.rep HA
    simp only [Rep] at rp;obtain⟨a,ob,us,rfl,n,h1,l1⟩:=rp
    exact⟨a,ob,_,rfl,g1.sub _ _ h1,o2 _ G1 H1 g1 ⟨A9 n (g1.sub _ _ h1),λ_=>A9 n h1⟩⟩
   ·have:∃i,e=.fO i:=by
     cases e<;>first|exact⟨_,rfl⟩|exact absurd rfl HA
    obtain⟨i,rfl⟩:=this
    exact False.elim o
theorem dF{i:Int}(h:aH i=true): -(2^62)<=i/\i<2^62:=by
 unfold aH at h
 simpa using h
theorem Jg(C:dH Γ F W N sc k X){tg p:Expr}{e:E}{np pos:Pos}(hg:hZ sc "range"=true)(hb:Γ.bs.contains "range"=true)(dN:∀env ps,starEach (p::ps) env=(false,eval p env)::starEach ps env)(he:GE X W F e p):GI X W F tg (.kF e) (.Call (.Name "range" np) [p] [] pos):=by
 intro aa s σ H R I h;refine za (dR C hg) (C.bs _ (List.contains_iff_mem.mp hb)) (bM he dD (dN _ _)) (dN _ _) aa s σ H R I ?_;obtain⟨H0,G,env,sr,o⟩:=h
 rw [qI] at o;refine one sr o λq v G1 H1 g1 t bE o1=>?_
 cases q with
 |int j=>
  by_cases hj:aH j=true
  ·have o2:Out X W (if aH j=true then Res.ok (dW 0 j.toNat) else .bad) σ G1 H1 _:=o1
   rw [if_pos hj] at o2;exact⟨j,by rw [t.top.int],(dF hj).1,(dF hj).2,o2 _ G1 H1 g1 ⟨qt _ _,λ_=>qt _ _⟩⟩
  ·have o2:Out X W (if aH j=true then Res.ok (dW 0 j.toNat) else .bad) σ G1 H1 _:=o1
   rw [if_neg hj] at o2;exact o2.elim
 |bl _=>exact False.elim o1
 |az=>exact False.elim o1
 |str _=>exact False.elim o1
 |tup _=>exact False.elim o1
 |lst _=>exact False.elim o1
 |exc _=>exact False.elim o1
 |aP _ _=>exact False.elim o1
theorem Ew(C:dH Γ F W N sc k X){tg p q:Expr}{a b:E}{np pos:Pos}(hg:hZ sc "range"=true)(hb:Γ.bs.contains "range"=true)(dN:∀env ps,starEach (p::ps) env=(false,eval p env)::starEach ps env)(Kh:∀env ps,starEach (q::ps) env=(false,eval q env)::starEach ps env)
 (ha:GE X W F a p) (nk:GE X W F b q):GI X W F tg (.qb a b) (.Call (.Name "range" np) [p,q] [] pos):=by
 intro aa s σ H R I h;refine yP (dR C hg) (C.bs _ (List.contains_iff_mem.mp hb)) (bM ha (bM nk dD (Kh _ _)) (dN _ _)) (by rw [dN,Kh];rfl) (Kh _ _) aa s σ H R I ?_;obtain⟨H0,G,env,sr,o⟩:=h
 rw [qI] at o;refine one sr o λx v G1 H1 g1 t bE o1=>one bE o1 λy u G2 H2 g2 t2 fB o2=>?_
 cases x<;>cases y<;>first
  |(exact False.elim o2)
  | (rename_i i j
     by_cases hj:(aH i&&aH j)=true
     ·have o3:Out X W (if(aH i&&aH j)=true then Res.ok (dW i (j-i).toNat) else .bad) σ G2 H2 _:=o2
      rw [if_pos hj] at o3;rw [zza] at hj;exact⟨i,j,by rw [t.top.int,t2.top.int],⟨(dF hj.1).1,(dF hj.1).2,(dF hj.2).1,(dF hj.2).2⟩,o3 _ G2 H2 (g1.trans g2) ⟨qt _ _,λ_=>qt _ _⟩⟩
     ·have o3:Out X W (if(aH i&&aH j)=true then Res.ok (dW i (j-i).toNat) else .bad) σ G2 H2 _:=o2
      rw [if_neg hj] at o3;exact o3.elim)
theorem EW(C:dH Γ F W N sc k X){elts:List Expr}{x1:Nat}{uT:Pos}{p:Expr}{e:E}{np pos:Pos}(hg:hZ sc "enumerate"=true)(hb:Γ.bs.contains "enumerate"=true)(dN:∀env ps,starEach (p::ps) env=(false,eval p env)::starEach ps env)(he:GE X W F e p):
 GI X W F (.Tuple elts x1 uT) (.enum e) (.Call (.Name "enumerate" np) [p] [] pos):=by
 intro aa s σ H R I h;have tv:=dR C hg
 have oq:=C.bs _ (List.contains_iff_mem.mp hb)
 have pa:=bM he dD (dN _ _)
 obtain⟨H0,G,env,sr,o⟩:=h
 rw [qI] at o;cases r:aK F e env with
 |bad=>rw [r] at o;exact o.elim
 |exc c=>rw [r] at o;exact sE tv oq pa (dN _ _) aa s σ H R I (Aq sr r o)
 |ok q=>
  rw [r] at o;cases q with
  |lst xs=>
   refine sE tv oq pa (dN _ _) aa s σ H R I (fL sr r λv G1 H1 g1 t=>?_)
   by_cases hz:gQ e=true
   ·have rp:=t.rep hz
    simp only [Rep] at rp;obtain⟨a,vs,rfl,h2,l2⟩:=rp
    exact⟨a,vs,rfl,eU C.K (aC.ls g1.sub h2),o _ G1 H1 g1 ⟨lx C.K (aC.ls g1.sub h2) l2,λ_=>lx C.K h2 l2⟩⟩
   ·obtain⟨a,vs,rfl,h1,l1⟩:=t.top.lst g1.sub
    exact⟨a,vs,rfl,eU C.K h1,o _ G1 H1 g1 ⟨lx C.K h1 l1,λz=>absurd z hz⟩⟩
  |tup xs=>
   refine Ap tv oq pa (dN _ _) aa s σ H R I (fL sr r λv G1 H1 g1 t=>?_);have t':=t.top
   rcases t' with rp|z
   ·simp only [Rep] at rp;obtain⟨a,vs,rfl,h2,l2⟩:=rp
    rw [C.K] at h2;exact⟨a,vs,rfl,aC.tup g1.sub h2.sq,o _ G1 H1 g1 ⟨qW (aC.tup g1.sub h2.sq) l2,λz=>qW h2.sq l2⟩⟩
   ·exact z.elim
  |str z=>exact AL tv oq pa (dN _ _) aa s σ H R I (fL sr r λv G1 H1 g1 t=>⟨z,by rw [t.top.str],o _ G1 H1 g1 ⟨sH z,λ_=>sH z⟩⟩)
  |int _=>exact False.elim o
  |bl _=>exact False.elim o
  |az=>exact False.elim o
  |exc _=>exact False.elim o
  |aP _ _=>exact False.elim o
end
theorem xX{env:Env}{x:Str}{c:Addr}(h:env.cells.lookup x=some c):cellOf env x=pure c:=by
 unfold cellOf;rw [h]
def frees(names:List (Str×NameKind)):List Str:=((names.filter λp=>p.2==.free).map (·.1)).reverse
theorem iA{scope:Scope}{env:Env}(h:∀y∈scope.names,y.2=.free->∃c,env.cells.lookup y.1=some c):closureFor scope env=pure (bP env (freeOf scope)):=by
 simp only [closureFor];have key:∀(names:List (Str×NameKind)) (acc:List (Str×Addr)),(∀y∈names,y.2=.free->∃c,env.cells.lookup y.1=some c)->
  (forIn (m:=Sem) names acc λx r=>if(x.2==NameKind.free)=true then do
   let c<-cellOf env x.1
   pure (ForInStep.yield ((x.1,c)::r))
   else pure (ForInStep.yield r))=pure (bP env (frees names)++acc):=by
  intro names
  induction names with
  |nil=>intro acc _;rfl
  |cons p r ih=>
   intro acc hh;obtain⟨n,kd⟩:=p
   rw [List.forIn_cons]
   by_cases hk:(kd==NameKind.free)=true
   ·obtain⟨c,hc⟩:=hh (n,kd) (by simp) (beq_iff_eq.mp hk)
    simp only [hk,if_true,xX hc,pure_bind];rw [ih ((n,c)::acc) λy hy=>hh y (zzI _ hy)]
    have e:frees ((n,kd)::r)=frees r++[n]:=by
     unfold frees;rw [List.filter_cons,if_pos hk,zzF,List.reverse_cons]
    rw [e];unfold bP;rw [List.map_append,zzF,List.map_nil,List.append_assoc];show _=pure (_++([(n,(env.cells.lookup n).getD 0)]++acc))
    rw [show env.cells.lookup n=some c from hc]
    rfl
   ·simp only [hk,zze,if_false,pure_bind];rw [ih acc λy hy=>hh y (zzI _ hy)]
    have e:frees ((n,kd)::r)=frees r:=by
     unfold frees;rw [List.filter_cons,if_neg hk]
    rw [e]
 have:=key scope.names [] h
 rw [List.append_nil] at this;simp only [bind_pure_comp,map_pure,id_map',bind_pure];exact this
section
variable{X:Cx}{W:Wd}{N:List Str}{sc:Scope}
theorem fJ{scope:Scope}(h:X.env.scope=sc):relabel scope X.env=du scope sc:=by
 subst h
 rfl
structure mD(N:List Str)(sc scope:Scope)(kk:Nat)(bf:List Nat)(xs:List Str):Prop where
 kind:scope.kind=.function
 len:xs.length=kk
 nd:(xs++freeOf scope).Nodup
 Ie:(scope.names.all λy=>(decide (y.2≠.cell)||!(freeOf scope).contains y.1)&&(decide (y.2≠.free)||(freeOf scope).contains y.1))=true
 own:(scope.names.all λy=>decide (y.2≠.cell)||decide (scope.names.lookup y.1=some .cell))=true
 names:(scope.names.all λy=>decide (y.2≠.local)||decide (scope.names.lookup y.1=some .local))=true
 slots:bf.map (λi=>N[i]?)=(freeOf scope).map some
 kX:((freeOf scope).all λy=>decide (sc.names.lookup y=some .cell))=true
 kY:((freeOf scope).all λy=>decide ((du scope sc).names.lookup y=some .cell))=true
theorem iU{scope:Scope}{kk:Nat}{bf:List Nat}{xs:List Str}(h:wo N sc scope kk bf xs=true):mD N sc scope kk bf xs:=by
 unfold wo at h;simp only [zza] at h;obtain⟨⟨⟨⟨⟨⟨⟨⟨h1,h2⟩,h3⟩,h4⟩,h9⟩,h5⟩,h6⟩,h7⟩,h8⟩:=h
 exact⟨beq_iff_eq.mp h1,beq_iff_eq.mp h2,zzY h3,h4,h9,h5,zzY h6,h7,h8⟩
theorem pM(hN:X.N=N)(d9:X.env.scope=sc)(ok:X.Ok){scope:Scope}{kk:Nat}{bf:List Nat}{xs:List Str}(h:mD N sc scope kk bf xs):fe X scope xs (freeOf scope) bf:=by
 have dO:∀y∈freeOf scope,∃c,X.env.cells.lookup y=some c:=λy hy=>ok.has y (.inl (by
  have:=zzY (zzT.mp h.kX y hy)
  show X.env.scope.names.lookup y=_
  rw [d9];exact this))
 refine⟨h.kind,iA λy hy hf=>?_,zzT.mpr λy hy=>?_,h.Ie,h.own,h.names,by rw [hN];exact h.slots,zzT.mpr λy hy=>?_,?_⟩
 ·have c:=zzT.mp h.Ie y hy
  rw [zza,Bool.or_eq_true,Bool.or_eq_true] at c;rcases c.2 with z|z
  ·exact absurd hf (zzY z)
  ·exact dO _ (List.contains_iff_mem.mp z)
 ·obtain⟨c,hc⟩:=dO y hy
  rw [hc];rfl
 ·have:=zzY (zzT.mp h.kX y hy)
  refine zzh ?_;show X.env.scope.names.lookup y=_
  rw [d9];exact this
 ·rw [fJ d9];exact h.kY
theorem iz{f:PV->Res (Option PV)}{x:PV}:∀{xs:List PV},aV f (xs++[x])=(aV f xs).bind λys=>(f x).well.bind λo=>.ok (ys++o.toList)
 |[]=>by
  simp only [List.nil_append,aV,Res.bind];cases(f x).well with
  |ok o=>cases o<;>rfl
  |exc c=>rfl
  |bad=>rfl
 |y::xs=>by
  rw [List.cons_append];simp only [aV];rw [iz (xs:=xs)];cases(f y).well with
  |exc c=>rfl
  |bad=>rfl
  |ok o=>
   show(((aV f xs).bind λys=>(f x).well.bind λo=>.ok (ys++o.toList)).bind λys=>.ok (oc o ys))=((aV f xs).bind λys=>.ok (oc o ys)).bind λys=>(f x).well.bind λo=>.ok (ys++o.toList)
   cases aV f xs with
   |exc c=>rfl
   |bad=>rfl
   |ok zs=>
    show(((f x).well.bind λo=>.ok (zs++o.toList)).bind λys=>.ok (oc o ys))=(f x).well.bind λo2=>.ok ((oc o zs)++o2.toList)
    cases(f x).well with
    |exc c=>rfl
    |bad=>rfl
    |ok o2=>cases o<;>rfl
theorem lX{f:PV->Res (Option PV)}:∀{xs ys:List PV},aV f xs=.ok ys->∀i,∃zs,aV f (xs.take i)=.ok zs/\zs.length<=i
 |_,_,_,0=>⟨[],by simp [aV],zzE _⟩
 |[],ys,h,i+1=>⟨[],by simp [aV],Nat.zero_le _⟩
 |x::xs,ys,h,i+1=>by
  simp only [aV] at h;obtain⟨o,ho,h⟩:=Res.bb h
  obtain⟨zs,hz,h⟩:=Res.bb h
  obtain⟨ws,hw,hl⟩:=lX hz i
  refine⟨oc o ws,?_,?_⟩
  ·rw [List.take_succ_cons];simp only [aV];rw [ho];show((aV f (xs.take i)).bind λys=>.ok (oc o ys))=_
   rw [hw]
   rfl
  ·cases o with
   |none=>exact Nat.le_succ_of_le hl
   |some y=>exact Nat.succ_le_succ hl
theorem Fj{α:Type}{r:Res α}{a:α}(h:r.well=.ok a):r=.ok a:=by
 cases r with
 |ok b=>cases h;rfl
 |exc c=>cases h
 |bad=>cases h
theorem rJ{f:PV->Res (Option PV)}{xs ys zs:List PV}{i:Nat}{x:PV}(h:aV f xs=.ok ys)(hx:xs[i]?=some x)(hz:aV f (xs.take i)=.ok zs):∃o,f x=.ok o/\aV f (xs.take (i+1))=.ok (zs++o.toList):=by
 have e:xs.take (i+1)=xs.take i++[x]:=by rw [List.take_add_one,hx];rfl
 obtain⟨ws,hw,_⟩:=lX h (i+1)
 rw [e,iz,hz] at hw;obtain⟨o,ho,hw⟩:=Res.bb (show((f x).well.bind λo=>Res.ok (zs++o.toList))=.ok ws from hw)
 refine⟨o,Fj ho,?_⟩;rw [e,iz,hz];show((f x).well.bind λo=>Res.ok (zs++o.toList))=_
 rw [ho]
 rfl
theorem rX{H0 G H:Hp}{env:Sl}{σ:St}{bf:List Nat}{ys:List Str}(kk:Nat)(sr:SR W H0 env σ G H)(hs:bf.map (λi=>N[i]?)=ys.map some)(nd:ys.Nodup):SR W H0 (List.replicate kk .no++fK env bf) (List.replicate kk none++B7 σ bf) G H:=by
 have Ub:∀(i j:Nat) (a:Nat),bf[i]?=some a->bf[j]?=some a->i=j:=λi j a h1 h2=>by
  have e1:(ys.map some)[i]?=some (N[a]?):=by rw [<-hs,zzQ,h1];rfl
  have e2:(ys.map some)[j]?=some (N[a]?):=by rw [<-hs,zzQ,h2];rfl
  rw [zzQ] at e1 e2;obtain⟨y1,g1,q1⟩:=zzJ.mp e1
  obtain⟨y2,g2,q2⟩:=zzJ.mp e2
  have:y1=y2:=Option.some.inj (q1.trans q2.symm)
  subst this;exact jq nd g1 g2
 have inner:∀(j:Nat) (s:Slot),(List.replicate kk Slot.no++fK env bf)[j]?=some s->(j<kk/\s=.no)\/∃a,kk<=j/\bf[j-kk]?=some a/\s=env.getD a .no:=λj s e=>by
  by_cases hj:j<kk
  ·rw [List.getElem?_append_left (by simpa using hj),List.getElem?_replicate,if_pos hj] at e;cases e;exact .inl ⟨hj,rfl⟩
  ·rw [List.getElem?_append_right (by simpa using hj),List.length_replicate] at e;unfold fK at e;rw [zzQ] at e;obtain⟨a,ha,rfl⟩:=zzJ.mp e
   exact .inr ⟨a,by omega,ha,rfl⟩
 have val:∀(j a:Nat),kk<=j->bf[j-kk]?=some a->(List.replicate kk none++B7 σ bf)[j]?=some ((σ[a]?).join):=λj a hj ha=>by
  rw [List.getElem?_append_right (by simpa using hj),List.length_replicate];unfold B7;rw [zzQ,ha]
  rfl
 refine⟨by unfold fK B7;simp,sr.sub,sr.base,λj s e=>?_,λi j p q a e1 e2 e3 e4=>?_,sr.tab,sr.i8⟩
 ·rcases inner j s e with⟨hj,rfl⟩|⟨a,hj,ha,rfl⟩
  ·exact⟨none,by rw [List.getElem?_append_left (by simpa using hj),List.getElem?_replicate,if_pos hj],trivial⟩
  ·refine⟨_,val j a hj ha,?_⟩;rw [zzK];cases e1:env[a]? with
   |none=>exact trivial
   |some s=>
    obtain⟨o,h1,h2⟩:=sr.slot a s e1
    rw [h1];exact h2
 ·rcases inner i _ e1 with⟨_,z⟩|⟨b,hi,hb,z1⟩
  ·cases z
  rcases inner j _ e2 with⟨_,z⟩|⟨c,hj,hc,z2⟩
  ·cases z
  rw [val i b hi hb] at e3;rw [val j c hj hc] at e4;have f1:env[b]?=some (.own p):=by
   rw [zzK] at z1;cases e:env[b]? with
   |none=>rw [e] at z1;cases z1
   |some s=>rw [e] at z1;exact congrArg some z1.symm
  have f2:env[c]?=some (.own q):=by
   rw [zzK] at z2;cases e:env[c]? with
   |none=>rw [e] at z2;cases z2
   |some s=>rw [e] at z2;exact congrArg some z2.symm
  have g1:σ[b]?=some (some (.ref a)):=Option.join_eq_some_iff.mp (Option.some.inj e3)
  have g2:σ[c]?=some (some (.ref a)):=Option.join_eq_some_iff.mp (Option.some.inj e4)
  have bc:=sr.apart b c p q a f1 f2 g1 g2
  subst bc;have:=Ub _ _ b hb hc
  omega
theorem js{H0 G H:Hp}{kk:Nat}{rest aw:Sl}{σ:St}{tg:Tg}{p:PV}(cg:jY kk tg=true)(e:Tg.put tg p (List.replicate kk .no++rest)=.ok aw)(r:SR W H0 aw σ G H):SR W H0 (List.replicate kk .no++rest) σ G H:=by
 have key:∀(j:Nat) (s:Slot),(List.replicate kk Slot.no++rest)[j]?=some s->s≠.no->aw[j]?=some s:=λj s h hs=>by
  have HX:¬j<kk:=λz=>by
   rw [List.getElem?_append_left (by simpa using z),List.getElem?_replicate,if_pos z] at h;cases h;exact hs rfl
  unfold Tg.put at e;split at e
  ·cases e;unfold jY at cg;simp only [zzN] at cg;rw [zzS (by omega)];exact h
  ·cases e;unfold jY at cg;simp only [zza,zzN] at cg;rw [zzS (by omega),zzS (by omega)];exact h
  ·cases e;unfold jY at cg;simp only [zza,zzN] at cg;rw [zzS (by omega),zzS (by omega),zzS (by omega)];exact h
  ·cases e;unfold jY at cg;simp only [zza,zzN] at cg;rw [zzS (by omega),zzS (by omega),zzS (by omega)];exact h
  ·cases e
 have hlen:(List.replicate kk Slot.no++rest).length=σ.length:=by
  rw [<-r.len];unfold Tg.put at e;split at e<;>first|(cases e;simp;done)|(cases e;done)
 refine⟨hlen,r.sub,r.base,λj s h=>?_,λi j p q a e1 e2 e3 e4=>r.apart i j p q a (key i _ e1 (λz=>nomatch z)) (key j _ e2 (λz=>nomatch z)) e3 e4,r.tab,r.i8⟩
 by_cases hs:s=.no
 ·subst hs;have:j<σ.length:=by rw [<-hlen];exact(zzH.mp h).1
  exact⟨σ[j],zzg this,trivial⟩
 ·exact r.slot j s (key j s h hs)
end
section
variable{Γ:Pg}{X:Cx}{W:Wd}{F:aN}{N:List Str}{sc:Scope}{k:Nat}
noncomputable def tN(W:Wd)(F:aN)(e:E):TE:=λσ H Q=>∃H0 G env,SR W H0 env σ G H/\∃p,aK F e env=.ok p/\∀v G' H',aE W G H G' H'->Got W H0 G' H' e p v->Q v H'
noncomputable def Oy(W:Wd)(F:aN)(e:E):TT:=λσ H Q=>∃H0 G env,SR W H0 env σ G H/\∃b,aK F e env=.ok (.bl b)/\∀G' H',aE W G H G' H'->Q b H'
theorem wR{e:E}(σ:St)(H:Hp)(Q:VK)(h:tN W F e σ H Q):tE X W F e σ H Q:=by
 obtain⟨H0,G,env,sr,p,e1,q⟩:=h
 exact⟨H0,G,env,sr,by rw [e1];exact q⟩
theorem AH{e:E}(σ:St)(H:Hp)(Q:Bool->Hp->Prop)(h:Oy W F e σ H Q):tT X W F e σ H Q:=by
 obtain⟨H0,G,env,sr,p,e1,q⟩:=h
 exact⟨H0,G,env,sr,by rw [e1];exact⟨p,rfl,q⟩⟩
theorem fC(C:dH Γ F W N sc k X){scope:Scope}{kk:Nat}{bf:List Nat}{xs:List Str}(h:mD N sc scope kk bf xs)(fp:List Addr)(s1:Shared)(H1:Hp)(A:Addr):dH Γ.C6 F W (xs++freeOf scope) (du scope sc) k (cu X (xs++freeOf scope) scope (bP X.env (freeOf scope)) fp s1 H1 A):=
 ⟨rfl,fJ C.d9,rfl,h.nd,C.K,C.mg,C.gs,C.bs,C.room,λf hf=>⟨(C.fns f hf).ex⟩,C.LI,C.cls,C.xc,λq hq=>⟨(C.sU q hq).ex⟩,C.any,(λz=>nomatch z),(λz=>nomatch z),(λz=>nomatch z)⟩
theorem Kj{e:E}{p:Expr}(h:bh Γ N sc e p=true)(env:Env):∀x,foldedSetIterable p env x=pure x:=by
 intro x;cases p<;>first|rfl|(cases e<;>first|(exact aA h)|(rename_i q;cases q<;>exact aA h))
theorem jn{tg:Expr}{it:I}{p:Expr}(h:zf Γ N sc tg it p=true)(env:Env):∀x,foldedSetIterable p env x=pure x:=by
 intro x;cases it with
 |seq e=>exact Kj h env x
 |kF e=>cases p<;>first|rfl|(exact aA h)
 |qb a b=>cases p<;>first|rfl|(exact aA h)
 |enum e=>cases p<;>first|rfl|(exact aA h)
def CW(W:Wd)(H0 G1 H1:Hp)(xW:Sl)(f:PV->Res (Option PV))(ps:List PV)(i:Nat)(ys:List V)(σ':St)(H':Hp):Prop:=
 i<=ps.length/\∃G',aE W G1 H1 G' H'/\SR W H0 xW σ' G' H'/\∃zs,aV f (ps.take i)=.ok zs/\zs.length<=i/\aj W G' zs ys
theorem vU(hK:W.K=X.K){kk:Nat}{bf:List Nat}{tg:Tg}{it:I}{elt:E}{ys:List Str}(cg:jY kk tg=true)(dP:gQ elt=true)(hs:bf.map (λi=>N[i]?)=ys.map some)(nd:ys.Nodup)(σ:St)(H:Hp)(Q:VK)(h:tF X W F (.comp kk bf tg it elt) σ H Q):
 AU (tI X W F it) kk (gT X.K tg) (tN W F elt) bf σ H Q:=by
 obtain⟨H0,G,env,sr,o⟩:=h
 rw [aK] at o;refine⟨H0,G,env,sr,o.bind.imp λps kL J G1 H1 g1 gi=>?_⟩
 by_cases uB:¬ps.length<dA
 ·rw [if_neg uB] at kL;exact kL.elim
 have hl:=Decidable.not_not.mp uB
 rw [if_pos hl] at kL;generalize hf:(λx=>(tg.put x (List.replicate kk .no++fK env bf)).bind λaw=>(aK F elt aw).bind λy=>Res.ok (some y))=f at kL
 cases hc:aV f ps with
 |bad=>rw [hc] at kL;exact kL.elim
 |exc c=>
  exfalso
  have:∀(l:List PV) (c:Str),aV f l≠.exc c:=λl=>by
   induction l with
   |nil=>intro c z;cases z
   |cons a l ih=>
    intro c z;simp only [aV] at z;rcases Res.dU z with z|⟨o1,_,z⟩
    ·cases e:f a with
     |ok _=>rw [e] at z;cases z
     |exc _=>rw [e] at z;cases z
     |bad=>rw [e] at z;cases z
    ·rcases Res.dU z with z|⟨o2,_,z⟩
     ·exact ih c z
     ·cases z
  exact this _ _ hc
 |ok all=>
  rw [hc] at kL;obtain⟨xs,e1,fin⟩:=kL
  cases e1;have bE:=sr.grow g1
  refine⟨ps.length,CW W H0 G1 H1 (List.replicate kk .no++fK env bf) f ps,⟨Nat.zero_le _,G1,.refl g1.sub,rX kk bE hs nd,[],rfl,zzE _,.nil⟩,?_⟩
  rintro i made σ' H' ⟨hi,G',g',sr',zs,hz,zq,l⟩
  refine⟨by rw [l.length];exact zzV (zzU zq hi) (zzW hl (by decide)),?_⟩;obtain⟨ist,igo⟩:=gi.any i G' H' g'.g g'.h g'.sub
  by_cases hlast:i=ps.length
  ·refine .inl ⟨ist hlast,λp hp=>?_⟩
   rw [hlast,List.take_length,hc] at hz;cases hz;exact fin p made G' H' (g1.trans g') hp l
  ·have m9:i<ps.length:=by omega
   obtain⟨hgo,hyld⟩:=igo ps[i] (zzg m9)
   refine .inr ⟨hgo,m9,λx nj hy=>?_⟩
   obtain⟨xi,g'',rx⟩:=hyld x nj hy
   obtain⟨o1,ho,hnext⟩:=rJ hc (zzg m9) hz
   rw [<-hf] at ho;obtain⟨aw,he',ho⟩:=Res.bb ho
   obtain⟨y,Iv,ho⟩:=Res.bb ho
   cases ho;refine uw hK he' (sr'.grow g'') rx λσ2 fB=>⟨H0,xi,aw,fB,y,Iv,λv G3 H3 g3 t=>?_⟩
   refine⟨m9,G3,g'.trans (g''.trans g3),(js cg he' fB).grow g3,_,hnext,?_,?_⟩
   ·rw [zzM];show zs.length+1<=i+1;omega
   ·exact(aj.same (g''.trans g3).g zs l).append (.cons (t.rep dP) .nil)
theorem oG(hK:W.K=X.K){kk:Nat}{bf:List Nat}{tg:Tg}{it:I}{c elt:E}{ys:List Str}(cg:jY kk tg=true)(dP:gQ elt=true)(hs:bf.map (λi=>N[i]?)=ys.map some)(nd:ys.Nodup)(σ:St)(H:Hp)(Q:VK)(h:tF X W F (.cQ kk bf tg it c elt) σ H Q):
 k7 (tI X W F it) kk (gT X.K tg) (Oy W F c) (tN W F elt) bf σ H Q:=by
 obtain⟨H0,G,env,sr,o⟩:=h
 rw [aK] at o;refine⟨H0,G,env,sr,o.bind.imp λps kL J G1 H1 g1 gi=>?_⟩
 by_cases uB:¬ps.length<dA
 ·rw [if_neg uB] at kL;exact kL.elim
 have hl:=Decidable.not_not.mp uB
 rw [if_pos hl] at kL;generalize hf:(λx=>(tg.put x (List.replicate kk .no++fK env bf)).bind λaw=>(aK F c aw).bind λt=>sJ t λt=>if t then(aK F elt aw).bind λy=>Res.ok (some y) else .ok none)=f at kL
 cases hc:aV f ps with
 |bad=>rw [hc] at kL;exact kL.elim
 |exc c=>
  exfalso
  have:∀(l:List PV) (c:Str),aV f l≠.exc c:=λl=>by
   induction l with
   |nil=>intro c z;cases z
   |cons a l ih=>
    intro c z;simp only [aV] at z;rcases Res.dU z with z|⟨o1,_,z⟩
    ·cases e:f a with
     |ok _=>rw [e] at z;cases z
     |exc _=>rw [e] at z;cases z
     |bad=>rw [e] at z;cases z
    ·rcases Res.dU z with z|⟨o2,_,z⟩
     ·exact ih c z
     ·cases z
  exact this _ _ hc
 |ok all=>
  rw [hc] at kL;obtain⟨xs,e1,fin⟩:=kL
  cases e1;have bE:=sr.grow g1
  refine⟨ps.length,CW W H0 G1 H1 (List.replicate kk .no++fK env bf) f ps,⟨Nat.zero_le _,G1,.refl g1.sub,rX kk bE hs nd,[],rfl,zzE _,.nil⟩,?_⟩
  rintro i made σ' H' ⟨hi,G',g',sr',zs,hz,zq,l⟩
  refine⟨by rw [l.length];exact zzV (zzU zq hi) (zzW hl (by decide)),?_⟩;obtain⟨ist,igo⟩:=gi.any i G' H' g'.g g'.h g'.sub
  by_cases hlast:i=ps.length
  ·refine .inl ⟨ist hlast,λp hp=>?_⟩
   rw [hlast,List.take_length,hc] at hz;cases hz;exact fin p made G' H' (g1.trans g') hp l
  ·have m9:i<ps.length:=by omega
   obtain⟨hgo,hyld⟩:=igo ps[i] (zzg m9)
   refine .inr ⟨hgo,m9,λx nj hy=>?_⟩
   obtain⟨xi,g'',rx⟩:=hyld x nj hy
   obtain⟨o1,ho,hnext⟩:=rJ hc (zzg m9) hz
   rw [<-hf] at ho;obtain⟨aw,he',ho⟩:=Res.bb ho
   obtain⟨t,ht,ho⟩:=Res.bb ho
   obtain⟨b,rfl⟩:∃b,t=.bl b:=by
    cases t<;>first|exact⟨_,rfl⟩|(cases ho)
   refine uw hK he' (sr'.grow g'') rx λσ2 fB=>⟨H0,xi,aw,fB,b,ht,λG3 H3 g3=>?_⟩
   have jr:(if b=true then(aK F elt aw).bind λy=>Res.ok (some y) else .ok none)=Res.ok o1:=ho
   cases b with
   |true=>
    rw [if_pos rfl] at jr;refine Pw ?_;obtain⟨y,Iv,jr⟩:=Res.bb jr
    cases jr;refine⟨H0,G3,aw,fB.grow g3,y,Iv,λv G4 H4 g4 t4=>?_⟩
    refine⟨m9,G4,g'.trans (g''.trans (g3.trans g4)),(js cg he' fB).grow (g3.trans g4),_,hnext,?_,?_⟩
    ·rw [zzM];show zs.length+1<=i+1;omega
    ·exact(aj.same (g''.trans (g3.trans g4)).g zs l).append (.cons (t4.rep dP) .nil)
   |false=>
    rw [if_neg zzf] at jr;refine O7 ?_;cases jr;refine⟨m9,G3,g'.trans (g''.trans g3),(js cg he' fB).grow g3,_,hnext,?_,?_⟩
    ·rw [zzM];show zs.length+0<=i+1;omega
    ·show aj W G3 (zs++[]) made
     rw [List.append_nil];exact aj.same (g''.trans g3).g zs l
theorem wj(C:dH Γ F W N sc k X){kk:Nat}{bf:List Nat}{tg:Tg}{it:I}{elt:E}{dj gv ff:Expr}{scope:Scope}{pos:Pos}(h:mD N sc scope kk bf (aO dj))(cg:jY kk tg=true)(dP:gQ elt=true)(hi:GI X W F dj it gv)(sU:∀x,foldedSetIterable gv X.env x=pure x)
 (Bs:iu (aO dj++freeOf scope) (du scope sc) (lR scope) tg dj=true) (he:∀Y,dH Γ.C6 F W (aO dj++freeOf scope) (du scope sc) k Y->GE Y W F elt ff):GF X W F (.comp kk bf tg it elt) (.ListComp ff [⟨dj,gv,[],0⟩] scope pos):=by
 intro aa s σ H Q I hq;have HH:(freeOf scope).Nodup:=(List.nodup_append.mp h.nd).2.1
 have rd:=vU (N:=N) C.K cg dP h.slots HH σ H Q hq
 have:=D5 (g:=gT X.K tg) (te:=tN W F elt) (xs:=aO dj) (ys:=freeOf scope) (is:=bf) (pos:=pos) C.calm (pM C.hN C.d9 I.ok h) hi
  (λfp s1 H1 A=>Ay (fn:=lR scope) (X:=cu X (aO dj++freeOf scope) scope (bP X.env (freeOf scope)) fp s1 H1 A) rfl h.nd (fJ C.d9) rfl (λ_ z=>z) Bs)
  (λfp s1 H1 A=>L2.PE.imp (he _ (fC C h fp s1 H1 A)) λσ H Q z=>wR σ H Q z) sU aa s σ H Q I
 rw [h.len] at this;exact this rd
theorem nT(C:dH Γ F W N sc k X){kk:Nat}{bf:List Nat}{tg:Tg}{it:I}{c elt:E}{dj gv pc ff:Expr}{scope:Scope}{pos:Pos}(h:mD N sc scope kk bf (aO dj))(cg:jY kk tg=true)(dP:gQ elt=true)(hi:GI X W F dj it gv)(sU:∀x,foldedSetIterable gv X.env x=pure x)
 (Bs:iu (aO dj++freeOf scope) (du scope sc) (lR scope) tg dj=true) (hc:∀Y,dH Γ.C6 F W (aO dj++freeOf scope) (du scope sc) k Y->GT Y W F c pc) (he:∀Y,dH Γ.C6 F W (aO dj++freeOf scope) (du scope sc) k Y->GE Y W F elt ff):
 GF X W F (.cQ kk bf tg it c elt) (.ListComp ff [⟨dj,gv,[pc],0⟩] scope pos):=by
 intro aa s σ H Q I hq;have HH:(freeOf scope).Nodup:=(List.nodup_append.mp h.nd).2.1
 have rd:=oG (N:=N) C.K cg dP h.slots HH σ H Q hq
 have:=xu (g:=gT X.K tg) (tt:=Oy W F c) (te:=tN W F elt) (xs:=aO dj) (ys:=freeOf scope) (is:=bf) (pos:=pos) C.calm (pM C.hN C.d9 I.ok h) hi
  (λfp s1 H1 A=>Ay (fn:=lR scope) (X:=cu X (aO dj++freeOf scope) scope (bP X.env (freeOf scope)) fp s1 H1 A) rfl h.nd (fJ C.d9) rfl (λ_ z=>z) Bs)
  (λfp s1 H1 A=>L2.PT.imp (hc _ (fC C h fp s1 H1 A)) λσ H Q z=>AH σ H Q z)
  (λfp s1 H1 A=>L2.PE.imp (he _ (fC C h fp s1 H1 A)) λσ H Q z=>wR σ H Q z) sU aa s σ H Q I
 rw [h.len] at this;exact this rd
end
section
variable{W:Wd}{Z:List (Addr×Obj)}{G H:Hp}
mutual
theorem Rep.less(zs:∀b o,Z.lookup b=some o->G b=some (.bF o bO)):∀(p:PV) {v:V},Rep W G p v->Rep W (bg Z G) p v
 |.az,_,h=>by simpa only [Rep] using h
 |.bl b,_,h=>by simpa only [Rep] using h
 |.int i,_,h=>by simpa only [Rep] using h
 |.str z,_,h=>by simpa only [Rep] using h
 |.tup xs,_,h=>by
  simp only [Rep] at h⊢;obtain⟨a,vs,e,q,l⟩:=h
  refine⟨a,vs,e,?_,aj.less zs xs l⟩;rcases q with q|⟨(q|⟨o,q⟩)|q,z⟩
  ·cases y:Z.lookup a with
   |none=>exact .inl (by rw [aB y];exact q)
   |some o'=>rw [zs a o' y] at q;cases q
  ·cases y:Z.lookup a with
   |none=>exact .inl (by rw [aB y];exact q)
   |some o'=>rw [zs a o' y] at q;cases q
  ·cases y:Z.lookup a with
   |none=>exact .inr ⟨.inl (.inr ⟨o,by rw [aB y];exact q⟩),z⟩
   |some o'=>rw [zs a o' y] at q;cases q
  ·exact .inr ⟨.inr q,z⟩
 |.lst xs,_,h=>by
  simp only [Rep] at h⊢;obtain⟨a,vs,e,q,l⟩:=h
  refine⟨a,vs,e,?_,aj.less zs xs l⟩;rcases q with(q|⟨o,q⟩)|q
  ·cases y:Z.lookup a with
   |none=>exact .inl (.inl (by rw [aB y];exact q))
   |some o'=>rw [zs a o' y] at q;cases q
  ·cases y:Z.lookup a with
   |none=>exact .inl (.inr ⟨o,by rw [aB y];exact q⟩)
   |some o'=>rw [zs a o' y] at q;cases q
  ·exact .inr q
 |.exc c,_,h=>by
  simp only [Rep] at h⊢;obtain⟨a,C,e,x,m,q⟩:=h
  cases y:Z.lookup a with
  |none=>exact⟨a,C,e,x,m,by rw [aB y];exact q⟩
  |some o'=>
   rw [zs a o' y] at q;unfold iS at q;cases q
 |.aP ks vs,_,h=>by
  simp only [Rep] at h⊢;obtain⟨a,o,us,e,n,m,l⟩:=h
  refine⟨a,o,us,e,n,?_,aj.less zs vs l⟩;cases y:Z.lookup a with
  |none=>rw [aB y];exact m
  |some o'=>rw [zs a o' y] at m;cases m
theorem aj.less(zs:∀b o,Z.lookup b=some o->G b=some (.bF o bO)):∀(ps:List PV) {vs:List V},aj W G ps vs->aj W (bg Z G) ps vs
 |[],_,h=>by simpa only [aj] using h
 |p::ps,_,h=>by
  simp only [aj] at h⊢;obtain⟨v,r,e,h1,h2⟩:=h
  exact⟨v,r,e,Rep.less zs p h1,aj.less zs ps h2⟩
end
theorem lQ(t:cO W G H)(sg:aC G H)(zs:∀b o,Z.lookup b=some o->G b=some (.bF o bO))(zc:∀b o,Z.lookup b=some o->∃v,o.data=.cell v):cO W (bg Z G) (bg Z H):=λP q m=>by
 obtain⟨n,ps,e,tr,al⟩:=t P q m
 refine⟨iJ n,ps,?_,tr,λpos cv y=>?_⟩
 ·cases y:Z.lookup P with
  |none=>rw [aB y];exact e
  |some o=>rw [sg _ _ (zs P o y)] at e;cases e
 ·obtain⟨c',oc,dm,t',e1,e2,e3,e4⟩:=al pos cv y
  refine⟨c',oc,dm,t',e1,?_,e3,e4⟩;cases y:Z.lookup c' with
  |none=>rw [aB y];exact e2
  |some o=>
   rw [zs c' o y] at e2;cases e2;obtain⟨v,hv⟩:=zc c' _ y
   rw [e3] at hv;cases hv
theorem aE.wz{G3 H3:Hp}(g:aE W (bg Z G) (bg Z H) G3 H3)(sg:aC G H)(zs:∀b o,Z.lookup b=some o->G b=some (.bF o bO))(zc:∀b o,Z.lookup b=some o->∃v,o.data=.cell v)(zn:∀b o,Z.lookup b=some o->H3 b=none):aE W G H (aU Z G3) (aU Z H3) where
 g:=λb u e=>by
  cases y:Z.lookup b with
  |none=>rw [ai y];exact g.g _ _ (by rw [aB y];exact e)
  |some o=>rw [bj y];rw [zs b o y] at e;exact e
 h:=λb u e=>by
  cases y:Z.lookup b with
  |none=>rw [ai y];exact g.h _ _ (by rw [aB y];exact e)
  |some o=>
   rw [sg _ _ (zs b o y)] at e;cases e;exact .inl ⟨(λ_ z=>nomatch z),bj y⟩
 sub:=λb u e=>by
  cases y:Z.lookup b with
  |none=>rw [ai y] at e⊢;exact g.sub _ _ e
  |some o=>rw [bj y] at e⊢;exact e
 own:=λa h1 h3 h2=>by
  cases y:Z.lookup a with
  |none=>rw [ai y];exact g.own a (by rw [aB y];exact h1) (by rw [aB y];exact h3) (by rw [aB y];exact h2)
  |some o=>rw [zs a o y] at h2;cases h2
 tab:=λt P q m=>by
  obtain⟨n,ps,e,tr,al⟩:=g.tab (lQ t sg zs zc) P q m
  refine⟨?_,ps,?_,tr,λpos cv y=>?_⟩
  ·cases y:Z.lookup P with
   |none=>rw [ai y];exact n
   |some o=>rw [zn P o y] at e;cases e
  ·cases y:Z.lookup P with
   |none=>rw [ai y];exact e
   |some o=>rw [zn P o y] at e;cases e
  ·obtain⟨c',oc,dm,t',e1,e2,e3,e4⟩:=al pos cv y
   refine⟨c',oc,dm,t',e1,?_,e3,e4⟩;cases y:Z.lookup c' with
   |none=>rw [ai y];exact e2
   |some o=>have:=g.sub _ _ e2;rw [zn c' o y] at this;cases this
theorem rT(t:cO W G H)(sg:aC G H)(zn:∀b o,Z.lookup b=some o->H b=none):cO W (aU Z G) (aU Z H):=λP q m=>by
 obtain⟨n,ps,e,tr,al⟩:=t P q m
 refine⟨?_,ps,?_,tr,λpos cv y=>?_⟩
 ·cases y:Z.lookup P with
  |none=>rw [ai y];exact n
  |some o=>rw [zn P o y] at e;cases e
 ·cases y:Z.lookup P with
  |none=>rw [ai y];exact e
  |some o=>rw [zn P o y] at e;cases e
 ·obtain⟨c',oc,dm,t',e1,e2,e3,e4⟩:=al pos cv y
  refine⟨c',oc,dm,t',e1,?_,e3,e4⟩;cases y:Z.lookup c' with
  |none=>rw [ai y];exact e2
  |some o=>have:=sg _ _ e2;rw [zn c' o y] at this;cases this
theorem aE.lz{G' H':Hp}(g:aE W (aU Z G) (aU Z H) G' H')(sg:aC G H)(zc:∀b o,Z.lookup b=some o->∃v,o.data=.cell v)(zn:∀b o,Z.lookup b=some o->H b=none):aE W G H (bg Z G') (bg Z H') where
 g:=λb u e=>by
  cases y:Z.lookup b with
  |none=>rw [aB y];exact g.g _ _ (by rw [ai y];exact e)
  |some o=>have:=sg _ _ e;rw [zn b o y] at this;cases this
 h:=λb u e=>by
  cases y:Z.lookup b with
  |none=>rw [aB y];exact g.h _ _ (by rw [ai y];exact e)
  |some o=>rw [zn b o y] at e;cases e
 sub:=λb u e=>by
  obtain⟨q,e1⟩:=eP e
  rw [aB q];exact g.sub _ _ e1
 own:=λa h1 h3 h2=>by
  cases y:Z.lookup a with
  |none=>rw [aB y];exact g.own a (by rw [ai y];exact h1) (by rw [ai y];exact h3) (by rw [ai y];exact h2)
  |some o=>exact fA y
 tab:=λt=>lQ (g.tab (rT t sg zn)) g.sub (λb o q=>g.g _ _ (bj q)) zc
theorem yc(sg:aC G H):aC (aU Z G) (aU Z H):=λb u e=>by
 cases y:Z.lookup b with
 |none=>rw [ai y] at e⊢;exact sg _ _ e
 |some o=>rw [bj y] at e⊢;exact e
theorem uM{G3 H3:Hp}(s:aC G3 H3)(zn:∀b o,Z.lookup b=some o->H3 b=none):aC G3 (aU Z G3):=λb u e=>by
 cases y:Z.lookup b with
 |none=>rw [ai y];exact e
 |some o=>have:=s _ _ e;rw [zn b o y] at this;cases this
theorem sD(zs:∀b o,Z.lookup b=some o->H b=some (.bF o bO)):aU Z (bg Z H)=H:=by
 funext b
 cases y:Z.lookup b with
 |none=>rw [ai y,aB y]
 |some o=>rw [bj y,zs b o y]
theorem sA(zs:∀b o,Z.lookup b=some o->H b=none):bg Z (aU Z H)=H:=by
 funext b
 cases y:Z.lookup b with
 |none=>rw [aB y,ai y]
 |some o=>rw [fA y,zs b o y]
theorem Ad{P:Program}{w:World}{h:Heap}(k:eh P w H h)(zs:∀b o,Z.lookup b=some o->H b=some (.bF o bO)):eh P w (bg Z H) h:=λb v e=>by
 obtain⟨q,e1⟩:=eP e
 refine(k b v e1).eF (λc y _ r=>r) (λc r=>?_) λc xs r=>?_
 ·cases y:Z.lookup c with
  |none=>rw [aB y];exact r
  |some o=>rw [zs c o y] at r;cases r
 ·cases y:Z.lookup c with
  |none=>rw [aB y];exact r
  |some o=>rw [zs c o y] at r;cases r
theorem xA{P:Program}{w:World}{K:PySem.W.Frag}{mg:Str->Option Value}{base:Heap}{A:Around}{outer:List Env}{s:Shared}(e:i4 P w K mg base A outer s H)(zs:∀b o,Z.lookup b=some o->H b=some (.bF o bO)):i4 P w K mg base A outer s (bg Z H):=
 ⟨e.frames,e.mod,λb o q=>⟨(e.bs b o q).1,iJ (e.bs b o q).2⟩,e.ud,e.fV,λb hb=>iJ (e.tW b hb),Ad e.aQ zs,e.bare⟩
theorem zY{ps:List Str}{scope:Scope}(h:Ox ps scope=true):sZ ps (bp scope) scope:=by
 unfold Ox at h;simp only [zza,beq_iff_eq,Bool.not_eq_true',zzN,zzT] at h;obtain⟨⟨⟨⟨⟨⟨h1,h2⟩,h3⟩,h4⟩,h5⟩,h6⟩,h7⟩:=h
 refine⟨h1,h2,h3,h4,h5,h6,h7,λx hx=>?_⟩
 unfold bp;rw [List.mem_reverse,List.mem_map];exact⟨(x,.free),List.mem_filter.mpr ⟨PySem.mem_of_lookup hx,rfl⟩,rfl⟩
theorem vS{params:Arguments}{ps:List Str}{qual:Str}{body:Expr}{scope:Scope}{cl:List (Str×Addr)}{pm f7 ct:Value}(h:pT params=some ps)(us:List Value)(hl:us.length=ps.length):bindArgs (PySem.W.kla_fn "<lambda>" qual params body scope cl pm f7 ct) ⟨us,[]⟩=pure (ps.zip us):=by
 rcases wQ h with⟨rfl,rfl⟩|⟨a,rfl,rfl⟩
 ·match us,hl with
  |[],_=>rfl
 ·match us,hl with
  |[u],_=>
   simp [bindArgs,seqItems?,PySem.W.kla_fn]
   rfl
theorem EC{params:Arguments}{ps:List Str}{env:Env}(h:pT params=some ps):defaultsOf params env=([],[]):=by
 rcases wQ h with⟨rfl,rfl⟩|⟨a,rfl,rfl⟩
 ·rfl
 ·rfl
theorem nQ:∀{idx:List Nat} {l qs:List PV} {us:List V},fx l idx=.ok qs->aj W G l us->∃vs:List V,aj W G qs vs/\vs.length=idx.length/\∀(j i:Nat),idx[j]?=some i->∃v,us[i]?=some v/\vs[j]?=some v
 |[],l,qs,us,h,r=>by
  unfold fx at h;cases h;exact⟨[],.nil,rfl,λj i e=>by simp at e⟩
 |i::idx,l,qs,us,h,r=>by
  unfold fx at h;obtain⟨p,hp,h⟩:=Res.bb h
  obtain⟨ps,kL,h⟩:=Res.bb h
  cases h;obtain⟨v,hv,rv⟩:=r.nA (Res.of_ok hp)
  obtain⟨vs,l1,l2,l3⟩:=nQ kL r
  refine⟨v::vs,.cons rv l1,by simp [l2],λj k e=>?_⟩
  cases j with
  |zero=>simp at e;subst e;exact⟨v,hv,rfl⟩
  |succ j=>simpa using l3 j k (by simpa using e)
theorem kj{l:List PV}(c:Str):∀{idx:List Nat},fx l idx≠.exc c
 |[]=>λz=>nomatch z
 |i::idx=>λz=>by
  unfold fx at z;rcases Res.dU z with z|⟨p,_,z⟩
  ·exact Res.aM c z
  ·rcases Res.dU z with z|⟨ps,_,z⟩
   ·exact kj c z
   ·cases z
end
def CB(idx:List Nat):TA:=λσ H Q=>∃vs:List V,vs.length=idx.length/\(∀(j i:Nat),idx[j]?=some i->∃v,σ[i]?=some (some v)/\vs[j]?=some v)/\Q vs H
theorem su{a:Expr}{as:List Expr}{xs:List (Option Str)}(h:fv (a::as) xs=true):∃x np,a=.Name x np/\∃M5,fv as M5=true:=by
 cases xs with
 |nil=>cases a<;>exact aA h
 |cons y ys=>
  cases y with
  |none=>cases a<;>exact aA h
  |some y=>
   cases a with
   |Name x np=>exact⟨x,np,rfl,ys,(Bool.and_eq_true_iff.mp h).2⟩
   |_=>exact aA h
theorem lA{env:Env}:∀{as:List Expr} {xs:List (Option Str)} {pos:Pos},fv as xs=true->(backTo pos (starEach as env)).any (·.1)=false
 |[],_,_,_=>rfl
 |a::as,xs,pos,h=>by
  obtain⟨x,np,rfl,M5,h2⟩:=su h
  show(false||(backTo pos (starEach as env)).any (·.1))=false
  rw [lA h2]
  rfl
theorem rL{X:Cx}(hv:∀(i:Nat) (x:Str),X.N[i]?=some x->LN X.env.scope x):∀{as:List Expr} {idx:List Nat},fv as (idx.map λi=>X.N[i]?)=true->PA X as (CB idx)
 |[],[],_=>L2.PA.imp dD λσ H Q h=>by
  obtain⟨vs,h1,_,h3⟩:=h
  cases vs with
  |nil=>exact h3
  |cons _ _=>simp at h1
 |a::as,i::idx,h=>by
  rw [zzF] at h;cases e:X.N[i]? with
  |none=>rw [e] at h;cases a<;>exact aA h
  |some y=>
   rw [e] at h;cases a<;>first|(exact aA h)|skip
   rename_i x np;unfold fv at h;rw [zza,zza] at h;have Pc:=beq_iff_eq.mp h.1.1
   subst Pc;have Rl:(x==("__debug__":Str))=false/\(x==("__classdict__":Str))=false:=by
    have h2:=h.1.2
    unfold okN at h2;simp only [zza,Bool.not_eq_true'] at h2;exact⟨h2.1.1,h2.1.2⟩
   refine L2.PA.imp (bM (fh (i:=i) e (hv i x e) Rl.1 Rl.2) (rL hv h.2) rfl) λσ H Q hq=>?_
   obtain⟨vs,h1,h2,h3⟩:=hq
   cases vs with
   |nil=>simp at h1
   |cons v vs=>
    obtain⟨v',hv1,hv2⟩:=h2 0 i rfl
    simp at hv2;subst hv2;exact⟨v,hv1,vs,by simpa using h1,λj k ej=>by simpa using h2 (j+1) k (by simpa using ej),h3⟩
 |[],_::_,h=>by cases h
 |a::_,[],h=>by cases a<;>cases h
section
variable{Γ:Pg}{X:Cx}{W:Wd}{F:aN}{N:List Str}{sc:Scope}{k:Nat}
theorem xl{g:Str}{idx:List Nat}{params:Arguments}{body:Expr}{scope:Scope}(h:Fi g idx params body scope=true):∃ps a as np pos,pT params=some ps/\idx.head?=some ps.length/\body=.Call (.Name g np) (a::as) [] pos/\scope.names.lookup g=some .globalImplicit/\okN g=true/\gE g=false/\fv (a::as) (idx.tail.map λi=>(ps++bp scope)[i]?)=true/\sZ ps (bp scope) scope:=by
 obtain⟨ps,e1,h⟩:=AX h
 obtain⟨⟨f,args,kws,pos⟩,e2,h⟩:=AX h
 simp only [zza,beq_iff_eq,Bool.not_eq_true',zzN] at h;obtain⟨⟨⟨⟨⟨⟨⟨⟨h1,h7⟩,h8⟩,h0⟩,h2⟩,h3⟩,h4⟩,h5⟩,h6⟩:=h
 obtain⟨np,z1⟩:=cL h1
 have z7:=List.isEmpty_iff.1 h7
 try dsimp only at z1 z7
 subst z1 z7;cases args with
 |nil=>cases h8
 |cons a as=>exact⟨ps,a,as,np,pos,e1,h0,jW e2,h2,h3,h4,h5,zY h6⟩
theorem uP{a:Expr}{as:List Expr}{xs:List (Option Str)}{env:Env}(h:fv (a::as) xs=true):∃x np,a=.Name x np/\∃M5,fv as M5=true:=su h
theorem Fm(C:dH Γ F W N sc k X){g:Str}{idx:List Nat}{cY as qs:List PV}{f:Addr}{aa:List (Addr×Obj)}{σ:St}{G H:Hp}{s:Shared}{Q:VK}{us:List Value}{vs:List V}
 (I:Inv X aa σ H s) (sg:aC G H) (tb:cO W G H) (cr:qE W G g idx cY (.ref f)) (l:aj W G as vs) (r:Vals vs us) (hn:idx.head?=some as.length) (hq:fx (as++cY) idx.tail=.ok qs)
 (o:Out X W (F g qs) σ G H λp=>dy W G H p Q):wpAny (model X.prog X.w) X.A (call (.ref f) us) (EP X aa σ Q) X.xe s:=by
 obtain⟨f',c',oc,dm,t,fN,pm,params,body,scope,qual,cl,Z,ws,e,d⟩:=cr
 cases e;obtain⟨ps,a,as',np,pos,e1,e0,rfl,e2,e3,e4,e5,S⟩:=xl d.lg
 have A5:F g qs≠.bad:=λz=>by rw [z] at o;exact o
 have hlen:as.length=ps.length:=Option.some.inj (hn.symm.trans e0)
 have NS:∀b o,Z.lookup b=some o->H b=some (.bF o bO):=λb o q=>sg _ _ (d.zs b o q)
 have UC:aU Z (bg Z H)=H:=sD NS
 have ET:vg Z (bg Z H) (en X.stack) s.heap:=⟨λb o q=>(I.aQ b _ (NS b o q)).1,λb o q=>fA q,λb o q hb=>by have:=I.kO b hb;rw [NS b o q] at this;cases this⟩
 have rl:aj W (bg Z G) (as++cY) (vs++ws):=(aj.less d.zs as l).append d.rep
 obtain⟨ys,ry,ly,py⟩:=nQ hq rl
 have sU:Γ.fs.contains g=true:=by
  rcases C.any g qs A5 with z|z
  ·exact z
  ·rw [e4] at z;cases z
 obtain⟨fa,fd,pn,FO,hm,hk,hb,hal⟩:=(C.fns g sU).ex
 have U6:aC (bg Z G) (bg Z H):=nW sg
 refine wpAny_call (codeAny_mono (L2.vJ (E:=λCv ao H'=>∃c,F g qs=.exc c/\XE W c G H Cv ao H') (Q:=Q) (Z:=Z) (ws:=ws) (vs:=vs) (t:=λσ' H1 Q1=>H1=bg Z H/\CB idx.tail σ' H1 λzs H2=>H2=H1/\zs=ys/\∀u H3,(match F g qs with
  |.ok p=>∃G3,aE W (bg Z G) (bg Z H) G3 H3/\Rep W G3 p u
  |_=>False)->Q1 u H3) S C.room (xA I.xW NS) ET ?zb (I.aQ _ _ (sg _ _ d.fo)).1 (I.aQ _ _ (sg _ _ d.co)).1 d.cd d.cn (vS e1 us (by rw [<-r.length,l.length,hlen])) r (by rw [l.length,hlen]) d.len d.has d.inj d.cells ?cells ?ht ?hq) λrr s' hr=>?end_)
 case zb=>
  intro b o q;cases y:X.base.get? b with
  |none=>rfl
  |some o'=>have:=(I.bs b o' y).2;rw [NS b o q] at this;cases this
 case cells=>
  intro i y c h1 h2 v h3;obtain⟨u,o',q1,q2,q3⟩:=d.vals i y c h1 h2 v h3
  exact⟨u,q1,o',ET.at_ c o' q2,q3⟩
 case hq=>
  refine⟨rfl,ys,ly,λj i ej=>?_,rfl,rfl,λu H3 h3 zn=>?_⟩
  ·obtain⟨v,h1,h2⟩:=py j i ej
   refine⟨v,?_,h2⟩;rw [<-List.map_append,zzQ,h1]
   rfl
  ·cases z:F g qs with
   |ok p=>
    rw [z] at h3 o;obtain⟨G3,g3,r3⟩:=h3
    exact o u _ _ (g3.wz sg d.zs d.zc zn) (Rep.same (uM g3.sub zn) p r3)
   |exc c=>rw [z] at h3;exact h3.elim
   |bad=>exact absurd z A5
 case ht=>
  intro i5 s1 σ' H1 Q1 I1 h1;obtain⟨rfl,h1⟩:=h1
  obtain⟨x0,np0,rfl,M5,hrest⟩:=uP (env:=X.env) e5
  refine wpAny_Call_Name_kw (fR (X:=Hf X.prog X.w X.K X.mg X.base (ps++bp scope) qual scope f (.ref c') cl X.A X.stack s (bg Z H) _) I1 e2 hm ?_ (c8 e3).1);refine PySem.W.callWith_K (h₀:=X.base) I.ok.mod.NP hk (bR (rL (X:=Hf X.prog X.w X.K X.mg X.base (ps++bp scope) qual scope f (.ref c') cl X.A X.stack s (bg Z H) _) (λi x hx=>?_) e5 pos i5 s1 σ' _ _ I1 h1) λus2 s2 ⟨vs2,H2,I2,r2,q2⟩=>⟨I2.oD,?_⟩) rfl (lA hrest)
  ·rcases List.mem_append.mp (zzD hx) with z|z
   ·exact .inl (S.par x z)
   ·exact .inr (.inr (S.QG x z))
  ·obtain⟨rfl,rfl,q2⟩:=q2
   refine mH (X:=Hf X.prog X.w X.K X.mg X.base (ps++bp scope) qual scope f (.ref c') cl X.A X.stack s (bg Z H) _) (q:=none) (as:=qs) (G:=bg Z G) (C.room.deeper _) FO hb (λz=>by rw [ry.length];exact hal qs z) I2 U6 (lQ tb sg d.zs d.zc) ry r2 ?_;cases z:F g qs with
   |ok p=>
    rw [z] at q2;exact λv G' H' g' rp=>q2 v H' ⟨G',g',rp⟩
   |exc c=>
    intro pins3 G3 H3 s3 e s' I3 g3 x3;refine N6 pins3 σ' H3 s3 e s' I3 (AR.imp x3 λCv ao H' y zn=>?_);obtain⟨C4,a4,G4,y1,y2,y3,y4,y5⟩:=y
    exact⟨c,rfl,C4,a4,_,y1,y2,y3,y4,(g3.trans y5).wz sg d.zs d.zc zn⟩
   |bad=>exact absurd z A5
 case end_=>
  rw [UC] at hr;cases rr with
  |error e=>
   have hr:dZ X.prog X.w X.stack H s (λCv ao H'=>∃c,F g qs=.exc c/\XE W c G H Cv ao H') e s':=hr
   cases z:F g qs with
   |ok q=>
    obtain⟨a,C',t,vs,H',B,rfl,Fl⟩:=hr
    obtain⟨c,e1,_⟩:=Fl.ends
    rw [z] at e1;cases e1
   |exc c=>
    rw [z] at o;refine o aa G H s e s' I (.refl sg) (AR.imp hr λC1 a H' y=>?_);obtain⟨c',e1,y⟩:=y
    rw [z] at e1;cases e1;exact y
   |bad=>exact absurd z A5
  |ok fl=>
   cases fl with
   |ret u=>exact I.after hr
   |next=>exact False.elim hr
   |brk=>exact False.elim hr
   |cont=>exact False.elim hr
end
section
variable{Γ:Pg}{X:Cx}{W:Wd}{F:aN}{N:List Str}{sc:Scope}{k:Nat}
theorem zZ(C:dH Γ F W N sc k X){i:Nat}{x:Str}{e:E}{es:Es}{p:Expr}{ps:List Expr}{np pos:Pos}(h:(N[i]?==some x&&fq sc x&&okN x)=true)(Aw:ij (.cons e es)=true)(ha:GA X W F (.cons e es) (p::ps))
 (dN:starEach (p::ps) X.env=(false,eval p X.env)::starEach ps X.env) (hpl:(backTo pos (starEach ps X.env)).any (·.1)=false):GE X W F (.mv i (.cons e es)) (.Call (.Name x np) (p::ps) [] pos):=by
 simp only [zza,beq_iff_eq] at h;obtain⟨h1,h2,h3⟩:=c8 h.2
 intro aa s σ H Q I hq;obtain⟨H0,G,env,sr,o⟩:=hq
 rw [aK] at o;cases e1:env[i]? with
 |none=>rw [e1] at o;exact o.elim
 |some sl=>
  cases sl with
  |no=>rw [e1] at o;exact o.elim
  |val _=>rw [e1] at o;exact o.elim
  |own _=>rw [e1] at o;exact o.elim
  |fn g idx cY=>
   rw [e1] at o;obtain⟨o2,hs,v,rfl,cr⟩:=sr.slot i _ e1
   have Uz:=cr
   obtain⟨f,c',oc,dm,t,fN,pm,params,body,scope,qual,cl,Z,ws,e2,d⟩:=Uz
   subst e2;refine wpAny_Call_Name_kw (wpAny_mono (fh (i:=i) (by rw [C.hN];exact h.1.1) (oZ C h.1.2) h1 h2 aa s σ H (λv' H1=>v'=.ref f/\H1=H) I ⟨_,hs,rfl,rfl⟩) (λu s1 hu=>?_) λ_ _ y=>y)
   obtain⟨v',H1,I1,ru,rfl,rfl⟩:=hu
   cases ru;refine PySem.W.callWith_F ⟨_,_,_,_,(I1.aQ _ _ (sr.sub _ _ d.fo)).1⟩ (bR (ha pos aa s1 σ H1 (λvs H2=>∃G2 as qs,aC G2 H2/\cO W G2 H2/\aj W G2 as vs/\qE W G2 g idx cY (.ref f)/\G2 f=some (.bF (PySem.W.kla_obj "<lambda>" qual params body scope cl pm c' fN) bO)/\idx.head?=some as.length/\fx (as++cY) idx.tail=.ok qs/\Out X W (F g qs) σ G2 H2 λp=>dy W G2 H2 p Q) I1 ?_) λus s2 ⟨vs,H2,I2,r,q⟩=>?_) dN hpl
   ·refine args sr o λas vs G1 H2 g1 t1 bE o1=>?_
    split at o1
    ·rename_i hn;cases hq:fx (as++cY) idx.tail with
     |ok qs=>
      rw [hq] at o1;have sX:Out X W (F g qs) σ G1 H2 _:=o1
      exact⟨G1,as,qs,bE.sub,bE.tab,t1.rep Aw,cr.same g1.g,g1.g _ _ d.fo,hn,hq,sX.imp λp hp v G' H' g' rp=>hp v G' H' (g1.trans g') (.of rp)⟩
     |exc c=>exact absurd hq (kj c)
     |bad=>rw [hq] at o1;exact o1.elim
    ·exact o1.elim
   ·obtain⟨G2,as,qs,sg,tb,l,cr2,fo2,hn,hqs,o2⟩:=q
    exact⟨⟨_,_,_,_,(I2.aQ _ _ (sg _ _ fo2)).1⟩,Fm C I2 sg tb cr2 l r hn hqs o2⟩
def pK(X:Cx)(W:Wd)(params:Arguments)(body:Expr)(scope:Scope)(cl:List (Str×Addr))(G1 H1 G2 H2:Hp)(f:Addr):Prop:=aE W G1 H1 G2 H2/\∃c' oc dm t fN pm,G2 f=some (.bF (PySem.W.kla_obj "<lambda>" (X.env.qual++"<lambda>") params body scope cl pm c' fN) bO)/\G2 c'=some (.bF oc bO)/\oc.data=.fields dm/\dm[1]?=some (.str (X.env.qual++"<lambda>") t)
theorem An(C:dH Γ F W N sc k X)(hl:Γ.hl=true){params:Arguments}{ps:List Str}{body:Expr}{scope:Scope}{pos:Pos}{cl:List (Str×Addr)}(hp:pT params=some ps)(GC:closureFor scope X.env=pure cl):
 PE X (.Lambda params body scope pos) (λσ H Q=>∃G,aC G H/\cO W G H/\∀f G2 H2,pK X W params body scope cl G H G2 H2 f->Q (.ref f) H2):=by
 intro aa s σ H Q I h;obtain⟨G,sg,tb,q⟩:=h
 obtain⟨c,P,vv,CH,hts,huq⟩:=C.tb hl
 obtain⟨nG,lW,hP,tr,al⟩:=tb P _ hts
 refine L2.AS (R:=λc' oc=>G c'=some (.bF oc bO)) I hP tr vv CH (C.bm hl) GC (EC hp) (λcv e=>?_) λf c' oc dm t fN qH h' tk hf hc CZ Ud Va hd hv Ui UL more I'=>?_
 ·obtain⟨c',oc,dm,t,e1,e2,e3,e4⟩:=al pos cv e
  exact⟨c',oc,dm,t,e1,sg _ _ e2,e2,e3,e4⟩
 ·have Ug:G f=none:=sg.free hf
  have UZ:G c'=none\/G c'=some (.bF oc bO):=by
   rcases hc with z|z
   ·exact .inl (sg.free z)
   ·exact .inr z.2
  have fo:∀fo,gA H P qH c' oc f fo f=some (.bF fo bO):=λfo=>by unfold gA;rw [ak]
  have sG:∀fo,aC G (upd (upd G c' (.bF oc bO)) f (.bF fo bO)):=λfo b u e=>by
   have E7:b≠f:=λz=>by rw [z,Ug] at e;cases e
   rw [ae E7]
   by_cases hb:b=c'
   ·subst hb;rw [ak];rcases UZ with z|z
    ·rw [z] at e;cases e
    ·rw [z] at e;exact e
   ·rw [ae hb];exact e
  have Ra:∀fo a,H a≠none->(∀vs,H a≠some (.tup vs))->G a=none->(upd (upd G c' (.bF oc bO)) f (.bF fo bO)) a=none:=λfo a h1 _ h2=>by
   have Ut:a≠f:=λz=>h1 (by rw [z];exact hf)
   rw [ae Ut]
   by_cases ha:a=c'
   ·subst ha;rcases hc with z|z
    ·exact absurd z h1
    ·rw [z.2] at h2;cases h2
   ·rw [ae ha];exact h2
  refine⟨.ref f,_,I',rfl,q f (upd (upd G c' (.bF oc bO)) f (.bF _ bO)) _ ⟨⟨sG _,λb u e=>?_,λb u e=>?_,Ra _,λ_ P' q' m=>?_⟩,c',oc,dm,t,fN,(X.mg "__name__").getD .none,ak,by rw [ae CZ,ak],hd,hv⟩⟩
  ·have E7:b≠f:=λz=>by rw [z,hf] at e;cases e
   by_cases Ly:b=P
   ·subst Ly;rw [hP] at e;cases e;obtain⟨m,rfl⟩:=more
    exact .inr ⟨lW,m,rfl,by unfold gA;rw [ae (Ne.symm Ud),ae (Ne.symm Va),ak]⟩
   ·have e2:gA H P qH c' oc f (PySem.W.kla_obj "<lambda>" (X.env.qual++"<lambda>") params body scope cl ((X.mg "__name__").getD .none) c' fN) b=H b:=by
     unfold gA;rw [ae E7]
     by_cases hb:b=c'
     ·subst hb;rw [ak];rcases hc with z|z
      ·rw [z] at e;cases e
      ·rw [z.1]
     ·rw [ae hb,ae Ly]
    rw [e2];exact gZ.refl H b u e
  ·by_cases E7:b=f
   ·subst E7;rw [ak] at e;rw [fo];exact e
   ·rw [ae E7] at e;unfold gA;rw [ae E7]
    by_cases hb:b=c'
    ·subst hb;rw [ak] at e⊢;exact e
    ·rw [ae hb] at e⊢;have Ly:b≠P:=λz=>by rw [z,nG] at e;cases e
     rw [ae Ly];exact sg _ _ e
  ·obtain⟨n1,qs,Df,tr1,al1⟩:=tb P' q' m
   have M9:P'≠f:=λz=>by rw [z,hf] at Df;cases Df
   have g8:P'≠c':=λz=>by
    rcases hc with y|y
    ·rw [z,y] at Df;cases Df
    ·rw [z,y.1] at Df;cases Df
   refine⟨by rw [ae M9,ae g8];exact n1,?_⟩
   by_cases hPP:P'=P
   ·subst hPP;rw [hP] at Df;cases Df;refine⟨qH,by unfold gA;rw [ae M9,ae g8,ak],Ui,λpos' cv y=>?_⟩
    rcases UL pos' cv y with y|y
    ·obtain⟨c2,oc2,cvs2,t2,e1,e2,e3,e4⟩:=al1 pos' cv y
     exact⟨c2,oc2,cvs2,t2,e1,sG _ _ _ e2,e3,e4⟩
    ·exact⟨c',oc,dm,t,y,by rw [ae CZ,ak],hd,by rw [huq q' m];exact hv⟩
   ·refine⟨qs,by unfold gA;rw [ae M9,ae g8,ae hPP];exact Df,tr1,λpos' cv y=>?_⟩
    obtain⟨c2,oc2,cvs2,t2,e1,e2,e3,e4⟩:=al1 pos' cv y
    exact⟨c2,oc2,cvs2,t2,e1,sG _ _ _ e2,e3,e4⟩
end
section
variable{Γ:Pg}{X:Cx}{W:Wd}{F:aN}{N:List Str}{sc:Scope}{k:Nat}
structure Bb(N:List Str)(sc:Scope)(g:Str)(idx bf:List Nat)(params:Arguments)(body:Expr)(scope:Scope):Prop where
 lb:Fi g idx params body scope=true
 cn:bf.map (λi=>N[i]?)=(bp scope).map some
 cc:∀y∈bp scope,sc.names.lookup y=some .cell
noncomputable def L6(X:Cx)(W:Wd)(F:aN)(N:List Str)(sc:Scope)(g:Str)(idx bf:List Nat)(es:Es):TA:=λσ H Q=>∃H0 G env,SR W H0 env σ G H/\Out X W (cU F es env) σ G H λas=>∀vs G1 H1,aE W G H G1 H1->aj W G1 as vs->∀params body scope f G2 H2,Bb N sc g idx bf params body scope->pK X W params body scope (bP X.env (bp scope)) G1 H1 G2 H2 f->Q (vs++[.ref f]) H2
theorem AN(C:dH Γ F W N sc k X)(ok:X.Ok){g:Str}{idx bf:List Nat}{params:Arguments}{body:Expr}{scope:Scope}(a:Bb N sc g idx bf params body scope):closureFor scope X.env=pure (bP X.env (bp scope)):=by
 refine iA λy hy hf=>ok.has y.1 (.inl ?_)
 show X.env.scope.names.lookup y.1=_
 rw [C.d9];refine a.cc y.1 ?_;unfold bp;rw [List.mem_reverse,List.mem_map];exact⟨y,List.mem_filter.mpr ⟨hy,by rw [hf];rfl⟩,rfl⟩
theorem F4(C:dH Γ F W N sc k X)(hl:Γ.hl=true){g:Str}{idx bf:List Nat}{params:Arguments}{body:Expr}{scope:Scope}{pos:Pos}(a:Bb N sc g idx bf params body scope):PA X [.Lambda params body scope pos] (L6 X W F N sc g idx bf .nil):=by
 obtain⟨ps,_,_,_,_,e1,_⟩:=xl a.lb
 intro pos' aa s σ H Q I h;refine bM (An C hl e1 (AN C I.ok a)) dD rfl pos' aa s σ H Q I ?_;obtain⟨H0,G,env,sr,o⟩:=h
 rw [cU] at o;refine⟨G,sr.sub,sr.tab,λf G2 H2 m=>?_⟩
 exact o [] G H (.refl sr.sub) .nil params body scope f G2 H2 a m
theorem AY{g:Str}{idx bf:List Nat}{e:E}{es:Es}{p:Expr}{ps:List Expr}(Aw:ij (.cons e es)=true)(he:GE X W F e p)(hs:PA X ps (L6 X W F N sc g idx bf es))(dN:starEach (p::ps) X.env=(false,eval p X.env)::starEach ps X.env):PA X (p::ps) (L6 X W F N sc g idx bf (.cons e es)):=
 L2.PA.imp (bM he hs dN) λσ H Q h=>by
  obtain⟨H0,G,env,sr,o⟩:=h
  rw [cU] at o;unfold ij at Aw;rw [zza] at Aw;refine one sr o λq v G1 H1 g1 t1 bE o1=>⟨H0,G1,env,bE,o1.bind.imp λas ha vs G2 H2 g2 l=>?_⟩
  intro params body scope f G3 H3 la lm;have:=ha (v::vs) G2 H2 (g1.trans g2) (.cons (Rep.same g2.g q (t1.rep Aw.1)) l) params body scope f G3 H3 la lm
  simpa using this
theorem lookup_all{Z:List (Addr×Obj)}{h:Heap}(ha:∀q∈Z,h.get? q.1=some q.2):∀{c:Addr} {o:Obj},(c,o)∈Z->Z.lookup c=some o:=by
 induction Z with
 |nil=>intro c o m;cases m
 |cons q Z ih=>
  intro c o m;obtain⟨c1,o1⟩:=q
  rw [List.lookup_cons];cases e:c==c1 with
  |true=>
   have e2:=beq_iff_eq.mp e
   subst e2;have h1:=ha (c,o1) zzP
   have h2:h.get? c=some o:=ha (c,o) m
   rw [h1] at h2;exact h2
  |false=>
   rcases List.mem_cons.mp m with z|z
   ·cases z;simp at e
   ·exact ih (λq hq=>ha q (zzI _ hq)) z
theorem rY{H0 G H:Hp}{env:Sl}{σ:St}(sr:SR W H0 env σ G H):∀{bf:List Nat} {cs:List PV},ko env bf=.ok cs->∃ws:List V,aj W G cs ws/\ws.length=bf.length/\∀(j:Nat) (i:Nat),bf[j]?=some i->∃v,ws[j]?=some v/\σ[i]?=some (some v)
 |[],cs,h=>by
  unfold ko at h;cases h;exact⟨[],.nil,rfl,λj i e=>by simp at e⟩
 |i::bf,cs,h=>by
  unfold ko at h;obtain⟨p,hp,h⟩:=Res.bb h
  obtain⟨ps,kL,h⟩:=Res.bb h
  cases h;have hs:env[i]?=some (.val p):=by
   cases e:env[i]? with
   |none=>rw [e] at hp;cases hp
   |some s=>rw [e] at hp;cases s<;>cases hp;rfl
  obtain⟨o,h1,v,rfl,rv⟩:=sr.slot i _ hs
  obtain⟨ws,l1,l2,l3⟩:=rY sr kL
  refine⟨v::ws,.cons rv l1,by simp [l2],λj k e=>?_⟩
  cases j with
  |zero=>simp at e;subst e;exact⟨v,rfl,h1⟩
  |succ j=>simpa using l3 j k (by simpa using e)
theorem mM{env:Sl}(c:Str):∀{bf:List Nat},ko env bf≠.exc c
 |[]=>λz=>nomatch z
 |i::bf=>λz=>by
  unfold ko at z;rcases Res.dU z with z|⟨p,_,z⟩
  ·cases e:env[i]? with
   |none=>rw [e] at z;cases z
   |some s=>rw [e] at z;cases s<;>cases z
  ·rcases Res.dU z with z|⟨ps,_,z⟩
   ·exact mM c z
   ·cases z
theorem yj(C:dH Γ F W N sc k X)(hl:Γ.hl=true){q:Hs}{bf:List Nat}{fa:Addr}{fd:FuncData}{pn:List Str}(FO:gN X.prog X.w X.K X.mg X.base (dZ X.prog X.w) k fa fd pn (zo W F q.f pn.length (some (q.g,q.idx))))(hb:Binds X.K fd pn []){aa:List (Addr×Obj)}{σ:St}{H0 G H:Hp}{env:Sl}{s:Shared}{Q:VK}{us:List Value}{vs:List V}{as cs:List PV}{params:Arguments}{body:Expr}{scope:Scope}{f c':Addr}{oc:Obj}{dm:Array Value}{t:Tok}{fN pm:Value}
 (I:Inv X aa σ H s) (sr:SR W H0 env σ G H) (a:Bb N sc q.g q.idx bf params body scope) (IG:ko env bf=.ok cs) (l:aj W G as vs) (fo:G f=some (.bF (PySem.W.kla_obj "<lambda>" (X.env.qual++"<lambda>") params body scope (bP X.env (bp scope)) pm c' fN) bO)) (co:G c'=some (.bF oc bO)) (cd:oc.data=.fields dm) (cn:dm[1]?=some (.str (X.env.qual++"<lambda>") t))
 (hlen:(vs++[V.ref f]).length=pn.length) (r:Vals (vs++[.ref f]) us) (o:Out X W (F q.f (as++cs)) σ G H λp=>dy W G H p Q):wpAny (model X.prog X.w) X.A (call (.ref fa) us) (EP X aa σ Q) X.xe s:=by
 have A5:F q.f (as++cs)≠.bad:=λz=>by rw [z] at o;exact o
 obtain⟨ws,rws,lws,pws⟩:=rY sr IG
 have dO:∀y∈bp scope,∃c,X.env.cells.lookup y=some c:=λy hy=>I.ok.has y (.inl (by show X.env.scope.names.lookup y=_;rw [C.d9];exact a.cc y hy))
 have call:((bp scope).all λy=>(X.env.cells.lookup y).isSome)=true:=zzT.mpr λy hy=>by obtain⟨c,e⟩:=dO y hy;rw [e];rfl
 let Z:List (Addr×Obj):=(bp scope).filterMap λy=>(X.env.cells.lookup y).bind λc=>(s.heap.get? c).map λo=>(c,o)
 have MS:∀q∈Z,∃y,y∈bp scope/\X.env.cells.lookup y=some q.1/\s.heap.get? q.1=some q.2:=λq hq=>by
  obtain⟨y,hy,e⟩:=List.mem_filterMap.mp hq
  obtain⟨c,hc,e⟩:=zzZ.mp e
  obtain⟨o,ho,rfl⟩:=zzJ.mp e
  exact⟨y,hy,hc,ho⟩
 have Pt:∀q∈Z,s.heap.get? q.1=some q.2:=λq hq=>let⟨_,_,_,h⟩:=MS q hq;h
 have RG:∀y c o,y∈bp scope->X.env.cells.lookup y=some c->s.heap.get? c=some o->Z.lookup c=some o:=λy c o hy hc ho=>lookup_all Pt (List.mem_filterMap.mpr ⟨y,hy,by rw [hc];show(s.heap.get? c).map _=_;rw [ho];rfl⟩)
 have Nk:∀b o,Z.lookup b=some o->∃y,y∈bp scope/\X.env.cells.lookup y=some b/\s.heap.get? b=some o:=λb o e=>by
  obtain⟨y,h1,h2,h3⟩:=MS (b,o) (PySem.W.mem_of_lookupK e)
  exact⟨y,h1,h2,h3⟩
 have zc:∀b o,Z.lookup b=some o->∃v,o.data=.cell v:=λb o e=>by
  obtain⟨y,_,h2,h3⟩:=Nk b o e
  obtain⟨v,o',h4,h5⟩:=I.cell y b h2
  rw [h3] at h4;cases h4;exact⟨v,h5⟩
 have L0:∀b o,Z.lookup b=some o->H b=none:=λb o e=>by obtain⟨y,_,h2,_⟩:=Nk b o e;exact I.eK y b h2
 have Tt:∀b o,Z.lookup b=some o->G b=none:=λb o e=>sr.sub.free (L0 b o e)
 have rB:∀b u,G b=some u->Z.lookup b=none:=λb u e=>by
  cases y:Z.lookup b with
  |none=>rfl
  |some o=>rw [Tt b o y] at e;cases e
 have N1:∀x c,(bP X.env (bp scope)).lookup x=some c->X.env.cells.lookup x=some c:=eY call
 have Qq:∀x c,(bP X.env (bp scope)).lookup x=some c->x∈bp scope:=λx c e=>by
  have:=PySem.mem_of_lookup e
  unfold bP at this;obtain⟨y,hy,e2⟩:=List.mem_map.mp this
  cases e2;exact hy
 have S6:∀b o,Z.lookup b=some o->X.s₀.heap.objs.size<=b:=λb o e=>by
  obtain⟨y,_,h2,_⟩:=Nk b o e
  exact I.ok.Gw y b (C.fl hl y) h2
 have ET:vg Z H (en X.stack) s.heap:=⟨λb o e=>let⟨_,_,_,h⟩:=Nk b o e;h,L0,λb o e Nr=>by
  obtain⟨y,_,h2,h3⟩:=Nk b o e
  rcases List.mem_cons.mp (I.iO b Nr) with z|z
  ·exact I.x5 y b h2 z
  ·obtain⟨_,o',h4,_⟩:=I.ok.fV.mem z
   exact absurd (zzO h4) (Nat.not_lt.mpr (S6 b o e))⟩
 have zb:∀b o,Z.lookup b=some o->X.base.get? b=none:=λb o e=>by
  cases y:X.base.get? b with
  |none=>rfl
  |some o'=>exact absurd (zzO (I.ok.bs b o' y).1) (Nat.not_lt.mpr (S6 b o e))
 have Vo:(bp scope).length=bf.length:=by have:=congrArg List.length a.cn;simpa using this.symm
 have cr:qE W (aU Z G) q.g q.idx cs (.ref f):=by
  refine⟨f,c',oc,dm,t,fN,pm,params,body,scope,_,bP X.env (bp scope),Z,ws,rfl,⟨a.lb,by rw [ai (rB f _ fo)];exact fo,by rw [ai (rB c' _ co)];exact co,cd,cn,rB f _ fo,rB c' _ co,λx y c h1 h2=>I.ok.inj x y c (N1 x c h1) (N1 y c h2),λy hy=>i9 hy,λx c h=>?_,λb o e=>bj e,zc,λi y c h1 h2 v h3=>?_,by rw [lws,Vo],by rw [sA Tt];exact rws⟩⟩
  ·obtain⟨v,o,h1,h2⟩:=I.cell x c (N1 x c h)
   exact⟨o,v,RG x c o (Qq x c h) (N1 x c h) h1,h2⟩
  ·have hi:i<bf.length:=by rw [<-lws];exact(zzH.mp h3).1
   obtain⟨v',q1,q2⟩:=pws i bf[i] (zzg hi)
   rw [h3] at q1;cases q1;have Uk:X.N[bf[i]]?=some y:=by
    rw [C.hN];have:=congrArg (λl=>l[i]?) a.cn
    simp only [zzQ,h1,zzg hi,Option.map_some] at this;exact Option.some.inj this
   obtain⟨m,_,hloc⟩:=I.loc
   obtain⟨u,ru,lk⟩:=hloc bf[i] y v Uk q2 (.inr (.inl (by rw [C.d9];exact a.cc y (zzD h1))))
   have RW:=N1 y c h2
   rcases lk with⟨z,_⟩|⟨_,c2,hc2,o,ho,hd⟩
   ·have z2:X.env.scope.names.lookup y=some .local:=z
    rw [C.d9,a.cc y (zzD h1)] at z2;cases z2
   ·rw [RW] at hc2;cases hc2;exact⟨u,o,ru,RG y c o (zzD h1) RW ho,hd⟩
 have Q0:us.length=pn.length:=by rw [<-r.length];exact hlen
 have nk:=hb s us I.oD (by rw [List.append_nil];exact Q0)
 rw [List.append_nil] at nk;have Uv:aj W (aU Z G) as vs:=aj.same (λb u e=>by rw [ai (rB b u e)];exact e) as l
 have UN:∀G' H',aE W (aU Z G) (aU Z H) G' H'->∀b o,Z.lookup b=some o->G' b=some (.bF o bO):=λG' H' g b o e=>g.g _ _ (bj e)
 refine wpAny_call (codeAny_mono (FO.run X.A X.stack s (aU Z H) ⟨us,[]⟩ us _ (λv H'=>Q v (bg Z H')) (λCv ao H'=>∃c,F q.f (as++cs)=.exc c/\XE W c G H Cv ao (bg Z H')) C.rm (I.xW.aU ET zb) nk r ⟨hlen,aU Z G,as++cs,yc sr.sub,rT sr.tab sr.sub L0,⟨as,cs,vs,.ref f,rfl,rfl,Uv,cr⟩,?_⟩) λrr s' hr=>?_)
 ·cases z:F q.f (as++cs) with
  |ok p=>
   rw [z] at o;exact λv G' H' g' rp=>o v _ _ (g'.lz sr.sub zc L0) (Rep.less (UN G' H' g') p rp)
  |exc c=>
   intro Cv ao H' y;obtain⟨C4,a4,G4,y1,y2,y3,y4,y5⟩:=y
   exact⟨c,rfl,C4,a4,_,y1,y2,y3,y4,y5.lz sr.sub zc L0⟩
  |bad=>exact absurd z A5
 ·cases rr with
  |error e=>
   have hr:dZ X.prog X.w X.stack H s (λCv ao H'=>∃c,F q.f (as++cs)=.exc c/\XE W c G H Cv ao H') e s':=dZ.less ET hr
   cases z:F q.f (as++cs) with
   |ok q=>
    obtain⟨a,C',t,vs,H',B,rfl,Fl⟩:=hr
    obtain⟨c,e1,_⟩:=Fl.ends
    rw [z] at e1;cases e1
   |exc c=>
    rw [z] at o;refine o aa G H s e s' I (.refl sr.sub) (AR.imp hr λC1 a H' y=>?_);obtain⟨c',e1,y⟩:=y
    rw [z] at e1;cases e1;exact y
   |bad=>exact absurd z A5
  |ok fl=>
   cases fl with
   |ret u=>exact I.after (CE.less ET hr)
   |next=>exact False.elim hr
   |brk=>exact False.elim hr
   |cont=>exact False.elim hr
theorem Ai(C:dH Γ F W N sc k X)(hl:Γ.hl=true){q:Hs}(hq:q∈Γ.hs){bf:List Nat}{es:Es}{p:Expr}{ps:List Expr}{np pos:Pos}(hg:hZ sc q.h=true)(ho:okN q.h=true)(hn:q.np=gO es+1)(ha:PA X (p::ps) (L6 X W F N sc q.g q.idx bf es))
 (dN:starEach (p::ps) X.env=(false,eval p X.env)::starEach ps X.env) (hpl:(backTo pos (starEach ps X.env)).any (·.1)=false):GE X W F (.sY q.f es q.g q.idx bf) (.Call (.Name q.h np) (p::ps) [] pos):=by
 intro aa s σ H Q I h;obtain⟨H0,G,env,sr,o⟩:=h
 rw [aK] at o;obtain⟨fa,fd,pn,FO,hm,hk,hb,hpn⟩:=(C.sU q hq).ex
 refine wpAny_Call_Name_kw (fR I (dR C hg) hm ?_ (c8 ho).1);refine PySem.W.callWith_K (h₀:=X.base) I.ok.mod.NP hk (bR (ha pos aa s σ H (λvs H2=>∃G2 as cs wa params body scope f c' oc dm t fN pm,vs=wa++[.ref f]/\as.length=gO es/\SR W H0 env σ G2 H2/\Bb N sc q.g q.idx bf params body scope/\ko env bf=.ok cs/\aj W G2 as wa/\G2 f=some (.bF (PySem.W.kla_obj "<lambda>" (X.env.qual++"<lambda>") params body scope (bP X.env (bp scope)) pm c' fN) bO)/\G2 c'=some (.bF oc bO)/\oc.data=.fields dm/\dm[1]?=some (.str (X.env.qual++"<lambda>") t)/\Out X W (F q.f (as++cs)) σ G2 H2 λp=>dy W G2 H2 p Q) I ?_) λus s1 ⟨vs,H1,I1,r,y⟩=>⟨I1.oD,?_⟩) dN hpl
 ·refine⟨H0,G,env,sr,?_⟩;cases e1:cU F es env with
  |bad=>rw [e1] at o;exact o
  |exc c=>rw [e1] at o;exact o
  |ok as=>
   rw [e1] at o;have o:Out X W ((ko env bf).bind λcs=>F q.f (as++cs)) σ G H _:=o
   cases e2:ko env bf with
   |bad=>rw [e2] at o;exact o.elim
   |exc c=>exact absurd e2 (mM c)
   |ok cs=>
    rw [e2] at o;have o:Out X W (F q.f (as++cs)) σ G H _:=o
    intro vs G1 H1 g1 l params body scope f G2 H2 la lm;obtain⟨g2,c',oc,dm,t,fN,pm,m1,m2,m3,m4⟩:=lm
    exact⟨G2,as,cs,vs,params,body,scope,f,c',oc,dm,t,fN,pm,rfl,jm e1,(sr.grow g1).grow g2,la,rfl,aj.same g2.g as l,m1,m2,m3,m4,(o.grow (g1.trans g2)).imp λp hp v G' H' g' rp=>hp v G' H' ((g1.trans g2).trans g') (.of rp)⟩
 ·obtain⟨G2,as,cs,wa,params,body,scope,f,c',oc,dm,t,fN,pm,rfl,hal,fB,la,GL,l,m1,m2,m3,m4,o2⟩:=y
  exact yj C hl FO hb I1 fB la GL l m1 m2 m3 m4 (by rw [zzM,l.length,hal,hpn,hn];rfl) r o2
end
end Ci
namespace L2
open PySem PySem.Spec PyProof.Rows
end L2
namespace Ci
open PySem L2
section
variable{Γ:Pg}{W:Wd}{F:aN}{k:Nat}
theorem Ll{X:Cx}{e:E}{p:Expr}(h:GE X W F e p)(he:∀whole,isTrue p X.env whole=(do let v<-whole;standAt p.pos;holding [v] (truthy v))):GT X W F e p:=
 L2.PT.imp (Ku h he) λσ H Q hq=>GN σ H Q hq
theorem B1{N:List Str}{sc:Scope}:∀{es:Es} {ps:List Expr},gK Γ N sc es ps=true->∀env pos,(backTo pos (starEach ps env)).all (λx=>!x.1)=true
 |.nil,[],_,_,_=>rfl
 |.cons e es,p::ps,h,env,pos=>by
  replace h:=ax h
  rw [notStar h.1];show(true&&(backTo pos (starEach ps env)).all (λx=>!x.1))=true
  rw [B1 h.2]
  rfl
 |.nil,_::_,h,_,_=>aA h
 |.cons _ _,[],h,_,_=>aA h
theorem A4{N:List Str}{sc:Scope}:∀{es:Es} {ps:List Expr},gK Γ N sc es ps=true->ps.length=gO es
 |.nil,[],_=>rfl
 |.cons e es,p::ps,h=>by
  replace h:=ax h
  rw [zzL,A4 h.2]
  rfl
 |.nil,_::_,h=>aA h
 |.cons _ _,[],h=>aA h
structure Rq(X:Cx)(W:Wd)(F:aN)(e:E)(p:Expr):Prop where
 ge:GE X W F e p
 gt:fT e=true->GT X W F e p
 gw:fT e=true->∀op vs pos,p=.BoolOp op vs pos->GW X W F e p
theorem bG{X:Cx}{e:E}{p:Expr}(h:GE X W F e p)(he:∀whole,isTrue p X.env whole=(do let v<-whole;standAt p.pos;holding [v] (truthy v)))(hb:∀op vs pos,p≠.BoolOp op vs pos):Rq X W F e p:=
 ⟨h,λ_=>Ll h he,λ_ op vs pos e=>absurd e (hb op vs pos)⟩
theorem isTrue_plain{p:Expr}{env:Env}(h:(match p with|.UnaryOp .Not _ _=>false|.BoolOp .. =>false|.IfExp .. =>false|.Compare .. =>false|_=>true)=true):∀whole,isTrue p env whole=(do let v<-whole;standAt p.pos;holding [v] (truthy v)):=by
 intro whole;cases p with
 |UnaryOp op a pos=>cases op<;>first|rfl|(exact aA h)
 |BoolOp _ _ _=>exact aA h
 |IfExp _ _ _ _=>exact aA h
 |Compare _ _ _ _=>exact aA h
 |_=>rfl
theorem uC{po:Expr}{m:Str}{env:Env}(h:xg po=true):attributeBase po m env (eval po env)=eval po env:=by
 cases po<;>first|rfl|(exact aA h)
theorem kg{N:List Str}{sc:Scope}{g:Str}{idx bf:List Nat}:∀{es:Es} {ps:List Expr},wg Γ N sc g idx bf es ps=true->∀env pos,(backTo pos (starEach ps env)).any (·.1)=false
 |.cons e es,p::ps,h,env,pos=>by
  replace h:=ax h
  rw [notStar h.1];show(false||(backTo pos (starEach ps env)).any (·.1))=false
  rw [kg h.2]
  rfl
 |.nil,ps,h,env,pos=>by
  obtain⟨p,e1,h⟩:=ah h
  obtain⟨l,e2,_⟩:=ah h
  rw [dM e1];obtain⟨_,rfl⟩:=u9 e2
  rfl
 |.cons _ _,[],h,_,_=>aA h
theorem Lf{X:Cx}{q:PV}{c:Const}{kk:Nat}{pos:Pos}(h:MG q c=true):GE X W F (.cst q) (.Constant c kk pos):=by
 cases q with
 |az=>cases HE h;exact i3 Iu λG=>.n
 |bl b=>
  obtain⟨x,e,h⟩:=ah h
  cases IY e;cases eq_of_beq h;exact i3 L7 λG=>.b
 |int i=>
  obtain⟨x,e,h⟩:=ah h
  cases Cf e;cases eq_of_beq h;exact i3 zW λG=>.i
 |str z=>
  obtain⟨x,e,h⟩:=ah h
  cases Bo e;cases eq_of_beq h;exact i3 zX λG=>.s
 |_=>exact aA h
theorem Az{α:Type}{r:Res α}{c:α->Prop} [∀a,Decidable (c a)]{f:α->Res (List PV)}{q:PV}(e:(r.bind λa=>if c a then(f a).bind λys=>.ok (.lst ys) else .bad)=.ok q):∃ys,q=.lst ys:=by
 obtain⟨ps,_,e⟩:=Res.bb e
 split at e
 ·obtain⟨ys,_,e⟩:=Res.bb e
  cases e;exact⟨_,rfl⟩
 ·cases e
theorem wV{kk:Nat}{bf:List Nat}{tg:Tg}{it:I}{elt:E}(env:Sl)(q:PV)(e:aK F (.comp kk bf tg it elt) env=.ok q):∃ys,q=.lst ys:=by
 rw [aK] at e;exact Az e
theorem oJ{kk:Nat}{bf:List Nat}{tg:Tg}{it:I}{c elt:E}(env:Sl)(q:PV)(e:aK F (.cQ kk bf tg it c elt) env=.ok q):∃ys,q=.lst ys:=by
 rw [aK] at e;exact Az e
mutual
theorem bx:∀(e:E) {Γ:Pg} {N:List Str} {sc:Scope} {X:Cx} (C:dH Γ F W N sc k X) (p:Expr),bh Γ N sc e p=true->Rq X W F e p
 |.var i,Γ,N,sc,X,C,p,h=>by
  obtain⟨x,_,rfl,h9⟩:=M0 h
  clear h
  have h:=h9
  clear h9
  exact bG (HL C h) (λ_=>rfl) (λ_ _ _ z=>nomatch z)
 |.fO i,Γ,N,sc,X,C,p,h=>by
  obtain⟨x,_,rfl,h9⟩:=M0 h
  clear h
  have h:=h9
  clear h9
  exact bG (JN C h) (λ_=>rfl) (λ_ _ _ z=>nomatch z)
 |.cst q,Γ,N,sc,X,C,p,h=>by
  obtain⟨c,_,_,rfl,h9⟩:=UT h
  clear h
  have h:=h9
  clear h9
  refine bG (Lf h) (λ_=>rfl) (λ_ _ _ z=>nomatch z)
 |.glob g q,Γ,N,sc,X,C,p,h=>by
  obtain⟨x,_,rfl,h9⟩:=M0 h
  clear h
  have h:=h9
  clear h9
  exact bG (FL C h) (λ_=>rfl) (λ_ _ _ z=>nomatch z)
 |.call f as,Γ,N,sc,X,C,p,h=>by
  obtain⟨g,args,_,_,rfl,h9⟩:=De h
  clear h
  have h:=h9
  clear h9
  replace h:=ax h
  try simp only [zza,beq_iff_eq] at h
  obtain⟨⟨⟨⟨⟨rfl,h1⟩,h2⟩,h3⟩,h4⟩,h5⟩:=h
  have ga:=ke as C args h5
  cases as with
  |nil=>
   cases args with
   |nil=>exact bG (Bq C h1 h2 h3) (λ_=>rfl) (λ_ _ _ z=>nomatch z)
   |cons _ _=>exact aA h5
  |cons e es=>
   cases args with
   |nil=>exact aA h5
   |cons q qs=>
    have h6:=ax h5
    exact bG (EK C h1 h2 h3 h4 ga (notStar h6.1 _ _) (eG h6.2 _ _)) (λ_=>rfl) (λ_ _ _ z=>nomatch z)
 |.mv i as,Γ,N,sc,X,C,p,h=>by
  obtain⟨g,args,_,_,rfl,h9⟩:=De h
  clear h
  have h:=h9
  clear h9
  replace h:=ax h
  simp only [zza] at h;obtain⟨⟨⟨⟨⟨h1,h2⟩,h3⟩,h4⟩,h6⟩,h5⟩:=h
  have ga:=ke as C args h5
  cases as with
  |nil=>exact aA h6
  |cons e es=>
   cases args with
   |nil=>exact aA h5
   |cons q qs=>
    have h6:=ax h5
    exact bG (zZ C (by rw [h1,h2,h3];rfl) h4 ga (notStar h6.1 _ _) (eG h6.2 _ _)) (λ_=>rfl) (λ_ _ _ z=>nomatch z)
 |.sY f as g idx bf,Γ,N,sc,X,C,p,h=>by
  obtain⟨hN,args,_,_,rfl,h9⟩:=De h
  clear h
  have h:=h9
  clear h9
  replace h:=ax h
  simp only [zza,zzj,beq_iff_eq] at h;obtain⟨⟨⟨⟨⟨⟨h1,h2⟩,h3⟩,h4⟩,h6⟩,q,hq,⟨⟨⟨rfl,rfl⟩,rfl⟩,rfl⟩,hd⟩,h5⟩:=h
  have Pj:=zzY hd
  have ga:=Hr as C h1 q.g q.idx bf args h4 h5
  cases as with
  |nil=>exact aA h6
  |cons e es=>
   cases args with
   |nil=>exact aA h5
   |cons p qs=>
    have h6:=ax h5
    exact bG (Ai C h1 hq h2 h3 Pj ga (notStar h6.1 _ _) (kg h6.2 _ _)) (λ_=>rfl) (λ_ _ _ z=>nomatch z)
 |.blt b as,Γ,N,sc,X,C,p,h=>by
  obtain⟨g,args,_,_,rfl,h9⟩:=De h
  clear h
  have h:=h9
  clear h9
  replace h:=ax h
  try simp only [zza,beq_iff_eq] at h
  obtain⟨⟨⟨⟨rfl,h1⟩,h2⟩,h3⟩,h5⟩:=h
  have ga:=ke as C args h5
  cases as with
  |nil=>exact aA h3
  |cons e es=>
   cases args with
   |nil=>exact aA h5
   |cons q qs=>
    have h6:=ax h5
    exact bG (Jb C b h1 h2 ga (notStar h6.1 _ _) (eG h6.2 _ _)) (λ_=>rfl) (λ_ _ _ z=>nomatch z)
 |.ty t a,Γ,N,sc,X,C,p,h=>by
  obtain⟨g,args,_,_,rfl,h9⟩:=De h
  clear h
  have h:=h9
  clear h9
  obtain⟨pa,pb,z2,h2⟩:=AK h
  obtain⟨tn,_,z3,h3⟩:=M0 h2
  dsimp only at z2 z3;subst z2 z3
  clear h h2
  have h:=h3
  clear h3
  replace h:=ax h
  try simp only [zza,beq_iff_eq] at h
  obtain⟨⟨⟨⟨⟨⟨rfl,h1⟩,h2⟩,rfl⟩,h3⟩,h4⟩,h5⟩:=h
  exact bG (MX C h1 h2 h3 h4 (bx a C pa h5).ge (notStar h5)) (λ_=>rfl) (λ_ _ _ z=>nomatch z)
 |.Dg c a,Γ,N,sc,X,C,p,h=>by
  obtain⟨g,args,_,_,rfl,h9⟩:=De h
  clear h
  have h:=h9
  clear h9
  obtain⟨pa,pb,z2,h2⟩:=AK h
  obtain⟨tn,_,z3,h3⟩:=M0 h2
  dsimp only at z2 z3;subst z2 z3
  clear h h2
  have h:=h3
  clear h3
  replace h:=ax h
  try simp only [zza] at h
  obtain⟨⟨⟨⟨⟨⟨⟨e1,h1⟩,h2⟩,e2⟩,h3⟩,h4⟩,h5⟩,h6⟩:=h
  cases beq_iff_eq.mp e1;cases beq_iff_eq.mp e2;exact bG (II C h1 h2 h3 h4 h5 (bx a C pa h6).ge (notStar h6) C.LI) (λ_=>rfl) (λ_ _ _ z=>nomatch z)
 |.Au m o as,Γ,N,sc,X,C,p,h=>by
  obtain⟨⟨f,args,kws,pos⟩,e,h1⟩:=ah h
  have z:=jW e
  obtain⟨⟨po,attr,apos⟩,e2,h2⟩:=ah h1
  have z2:=zA e2
  have h3:=ax h2
  have z3:=Dw h3.1
  dsimp only at z z2 z3;subst z z2 z3
  clear h h1 h2
  have h:=ax h3.2
  clear h3
  simp only [zza] at h;obtain⟨⟨⟨⟨⟨⟨e1,h1⟩,h2⟩,h3⟩,h4⟩,h5⟩,h6⟩:=h
  cases beq_iff_eq.mp e1;have ga:=ke as C args h5
  cases as with
  |nil=>exact aA h1
  |cons e es=>
   cases args with
   |nil=>exact aA h5
   |cons q qs=>
    have h7:=ax h5
    have hl:=A4 h5
    refine bG (HW C (bx o C po h4).ge ga (uC h6) ?_ h3 (notStar h7.1 _ _) (eG h7.2 _ _)) (λ_=>rfl) (λ_ _ _ z=>nomatch z);rw [B1 h5];have tJ:=zzY h2
    refine Bool.and_eq_true_iff.mpr ⟨rfl,zzh ?_⟩;rw [hl];exact tJ
 |.bin o a b,Γ,N,sc,X,C,p,h=>by
  obtain⟨q,e,h1⟩:=ah h
  obtain⟨_,rfl⟩:=JJ e
  clear h
  have h:=ax h1
  have h0:=ax h.1
  rw [<-zzY h0.1];exact bG (Lh C (bx a C _ h0.2).ge (bx b C _ h.2).ge) (λ_=>rfl) (λ_ _ _ z=>nomatch z)
 |.cmp o a b,Γ,N,sc,X,C,p,h=>by
  obtain⟨pa,ops,cs,_,rfl,h1⟩:=TL h
  obtain⟨op,z2,h2⟩:=mw h1
  obtain⟨pb,z3,h3⟩:=mw h2
  dsimp only at z2 z3;subst z2 z3
  clear h h1 h2
  have h:=h3
  clear h3
  replace h:=ax h
  have h0:=ax h.1
  cases zzY h0.1;have h1:=h0.2
  have h2:=h.2
  exact⟨HB C (bx a C _ h1).ge (bx b C _ h2).ge (oY h2 _),λ_=>IZ C (bx a C _ h1).ge (bx b C _ h2).ge (oY h2 _),(λ_ _ _ _ z=>nomatch z)⟩
 |.ch o1 o2 a b c,Γ,N,sc,X,C,p,h=>by
  obtain⟨pa,ops,cs,_,rfl,h1⟩:=TL h
  obtain⟨op1,op2,z2,h2⟩:=AK h1
  obtain⟨pb,pc,z3,h3⟩:=AK h2
  dsimp only at z2 z3;subst z2 z3
  clear h h1 h2
  have h:=h3
  clear h3
  replace h:=ax h
  try simp only [zza,zzN] at h
  obtain⟨⟨⟨⟨rfl,rfl⟩,h1⟩,h2⟩,h3⟩:=h
  have hm:lastMarks [qK o1,qK o2] [pb,pc]=false:=oY h3 _
  exact⟨N8 C (bx a C _ h1).ge (bx b C _ h2).ge (bx c C _ h3).ge hm,λ_=>L5 C (bx a C _ h1).ge (bx b C _ h2).ge (bx c C _ h3).ge hm,(λ_ _ _ _ z=>nomatch z)⟩
 |.not a,Γ,N,sc,X,C,p,h=>by
  obtain⟨o,pa,_,rfl,h1⟩:=RV h
  clear h
  have h:=ax h1
  cases B3 h.1;have s:=bx a C pa h.2
  exact⟨Jp s.ge,λz=>Li (s.gt (by simpa only [fT] using z)),(λ_ _ _ _ z=>nomatch z)⟩
 |.neg a,Γ,N,sc,X,C,p,h=>by
  obtain⟨o,pa,_,rfl,h1⟩:=RV h
  clear h
  have h:=ax h1
  cases CP h.1;exact bG (J6 (bx a C pa h.2).ge) (λ_=>rfl) (λ_ _ _ z=>nomatch z)
 |.and a b,Γ,N,sc,X,C,p,h=>by
  obtain⟨o,vs,pos,rfl,h1⟩:=TC h
  obtain⟨⟨pa,pb⟩,e2,h2⟩:=ah h1
  clear h h1
  have h:=ax h2
  clear h2
  try simp only [zza] at h
  obtain⟨⟨⟨h0,he⟩,h1⟩,h2⟩:=h
  cases B5 h0;have sa:=bx a C pa h1
  have sb:=bx b C pb h2
  rcases BX e2 with z|⟨q,c,r,z,z2⟩
  ·dsimp only at z;subst z;have gw:fT (.and a b)=true->GW X W F (.and a b) (.BoolOp .And [pa,pb] pos):=λz=>by
    have z:=ax z
    exact Al (sa.gt z.1) (pw_and1 (sb.gt z.2))
   exact⟨BQ he sa.ge (BW sb.ge),λz=>(gw z).pt,λz _ _ _ _=>gw z⟩
  ·dsimp only at z z2;subst z z2;have gw:fT (.and a b)=true->GW X W F (.and a b) (.BoolOp .And (pa::q::c::r) pos):=λz=>by
    have z:=ax z
    exact Al (sa.gt z.1) (sb.gw z.2 _ _ _ rfl)
   exact⟨BQ he sa.ge sb.ge,λz=>(gw z).pt,λz _ _ _ _=>gw z⟩
 |.or a b,Γ,N,sc,X,C,p,h=>by
  obtain⟨o,vs,pos,rfl,h1⟩:=TC h
  obtain⟨⟨pa,pb⟩,e2,h2⟩:=ah h1
  clear h h1
  have h:=ax h2
  clear h2
  try simp only [zza] at h
  obtain⟨⟨⟨h0,he⟩,h1⟩,h2⟩:=h
  cases Ec h0;have sa:=bx a C pa h1
  have sb:=bx b C pb h2
  rcases BX e2 with z|⟨q,c,r,z,z2⟩
  ·dsimp only at z;subst z;have gw:fT (.or a b)=true->GW X W F (.or a b) (.BoolOp .Or [pa,pb] pos):=λz=>by
    have z:=ax z
    exact GH (sa.gt z.1) (pw_or1 (sb.gt z.2))
   exact⟨Gy he sa.ge (BW sb.ge),λz=>(gw z).pt,λz _ _ _ _=>gw z⟩
  ·dsimp only at z z2;subst z z2;have gw:fT (.or a b)=true->GW X W F (.or a b) (.BoolOp .Or (pa::q::c::r) pos):=λz=>by
    have z:=ax z
    exact GH (sa.gt z.1) (sb.gw z.2 _ _ _ rfl)
   exact⟨Gy he sa.ge sb.ge,λz=>(gw z).pt,λz _ _ _ _=>gw z⟩
 |.ite c a b,Γ,N,sc,X,C,p,h=>by
  obtain⟨q,e,h1⟩:=ah h
  obtain⟨_,rfl⟩:=K0 e
  clear h
  have h:=ax h1
  clear h1
  try simp only [zza] at h
  obtain⟨⟨⟨⟨⟨h0,h1⟩,h2⟩,h3⟩,h4⟩,h5⟩:=h
  exact⟨JW h1 h2 ((bx c C _ h3).gt h0) (bx a C _ h4).ge (bx b C _ h5).ge,(λz=>nomatch z),(λ_ _ _ _ z=>nomatch z)⟩
 |.tup as,Γ,N,sc,X,C,p,h=>by
  obtain⟨ps,e,h1⟩:=ah h
  obtain⟨_,_,rfl⟩:=jd e
  clear h
  have h:=ax h1
  have h0:=ax h.1
  exact bG (JY h0.1 (zzY h0.2) (ke as C _ h.2)) (λ_=>rfl) (λ_ _ _ z=>nomatch z)
 |.lst as,Γ,N,sc,X,C,p,h=>by
  obtain⟨ps,e,h1⟩:=ah h
  obtain⟨_,rfl⟩:=AV e
  clear h
  have h:=ax h1
  have h0:=ax h.1
  exact bG ((zD h0.1 (zzY h0.2) (ke as C _ h.2)).ge lst_is) (λ_=>rfl) (λ_ _ _ z=>nomatch z)
 |.sub a b,Γ,N,sc,X,C,p,h=>by
  obtain⟨pa,pb,_,rfl,h9⟩:=SY h
  clear h
  have h:=h9
  clear h9
  replace h:=ax h
  exact bG (IJ C (bx a C _ h.1).ge (bx b C _ h.2).ge (Cr h.2)) (λ_=>rfl) (λ_ _ _ z=>nomatch z)
 |.slice a lo hi,Γ,N,sc,X,C,p,h=>by
  obtain⟨pa,ps,_,rfl,h1⟩:=SY h
  obtain⟨pl,ph,pst,_,z2,h2⟩:=UO h1
  clear h h1
  have h:=ax h2
  simp only [zza] at h;have w:=Qp h.1.1.1
  dsimp only at z2 w;subst z2 w;exact bG (Bh C (bx a C _ h.1.1.2).ge (MR lo C pl h.1.2) (MR hi C ph h.2)) (λ_=>rfl) (λ_ _ _ z=>nomatch z)
 |.comp kk bf tg it elt,Γ,N,sc,X,C,p,h=>by
  obtain⟨ff,gens,scope,_,rfl,h1⟩:=Oo h
  obtain⟨⟨dj,gv,ifs,asy⟩,z2,h2⟩:=mw h1
  have h3:=ax h2
  have z3:=Dw h3.1
  dsimp only at z2 z3;subst z2 z3
  clear h h1 h2
  have h:=ax h3.2
  clear h3
  simp only [zza] at h;obtain⟨⟨⟨⟨⟨⟨h1,h2⟩,h3⟩,h4⟩,h5⟩,h6⟩,iL⟩:=h
  have iL:=zzY iL
  subst iL;exact bG ((wj C (iU h1) h2 h3 (Cq it C dj gv h4) (jn h4 _) h5 λY CY=>(bx elt CY ff h6).ge).ge wV) (λ_=>rfl) (λ_ _ _ z=>nomatch z)
 |.cQ kk bf tg it c elt,Γ,N,sc,X,C,p,h=>by
  obtain⟨ff,gens,scope,_,rfl,h1⟩:=Oo h
  obtain⟨⟨dj,gv,ifs,asy⟩,z2,h2⟩:=mw h1
  obtain⟨pc,z3,h3⟩:=mw h2
  dsimp only at z2 z3;subst z2 z3
  clear h h1 h2
  have h:=ax h3
  clear h3
  simp only [zza] at h;obtain⟨⟨⟨⟨⟨⟨⟨⟨h0,h1⟩,h2⟩,h3⟩,h4⟩,h5⟩,h6⟩,h7⟩,iL⟩:=h
  have iL:=zzY iL
  subst iL;exact bG ((nT C (iU h1) h2 h3 (Cq it C dj gv h4) (jn h4 _) h5 (λY CY=>(bx c CY pc h6).gt h0) λY CY=>(bx elt CY ff h7).ge).ge oJ) (λ_=>rfl) (λ_ _ _ z=>nomatch z)
theorem ke:∀(es:Es) {Γ:Pg} {N:List Str} {sc:Scope} {X:Cx} (C:dH Γ F W N sc k X) (ps:List Expr),gK Γ N sc es ps=true->GA X W F es ps
 |.nil,Γ,N,sc,X,C,ps,h=>by
  cases ps with
  |nil=>exact IP
  |cons _ _=>exact aA h
 |.cons e es,Γ,N,sc,X,C,ps,h=>by
  cases ps with
  |nil=>exact aA h
  |cons p ps=>
   replace h:=ax h
   exact EJ (bx e C p h.1).ge (ke es C ps h.2) (notStar h.1 _ _)
theorem Hr:∀(es:Es) {Γ:Pg} {N:List Str} {sc:Scope} {X:Cx} (C:dH Γ F W N sc k X) (hl:Γ.hl=true) (g:Str) (idx bf:List Nat) (ps:List Expr),ij es=true->wg Γ N sc g idx bf es ps=true->PA X ps (L6 X W F N sc g idx bf es)
 |.nil,Γ,N,sc,X,C,hl,g,idx,bf,ps,he,h=>by
  obtain⟨p,e1,h⟩:=ah h
  obtain⟨l,e2,h⟩:=ah h
  rw [dM e1];obtain⟨_,rfl⟩:=u9 e2
  replace h:=ax h
  have h1:=ax h.1
  exact F4 C hl ⟨h1.1,zzY h1.2,λy hy=>zzY (zzT.mp h.2 y hy)⟩
 |.cons e es,Γ,N,sc,X,C,hl,g,idx,bf,ps,he,h=>by
  cases ps with
  |nil=>exact aA h
  |cons p ps=>
   replace h:=ax h
   have HA:=ax (show(gQ e&&ij es)=true from he)
   exact AY he (bx e C p h.1).ge (Hr es C hl g idx bf ps HA.2 h.2) (notStar h.1 _ _)
theorem MR:∀(o:Oe) {Γ:Pg} {N:List Str} {sc:Scope} {X:Cx} (C:dH Γ F W N sc k X) (p:Option Expr),Ib Γ N sc o p=true->PO X p (Bk X W F o)
 |.no,Γ,N,sc,X,C,p,h=>by
  cases p with
  |none=>exact FU
  |some _=>exact aA h
 |.some e,Γ,N,sc,X,C,p,h=>by
  cases p with
  |none=>exact aA h
  |some p=>
   exact FG (bx e C p h).ge
theorem Cq:∀(it:I) {Γ:Pg} {N:List Str} {sc:Scope} {X:Cx} (C:dH Γ F W N sc k X) (tg p:Expr),zf Γ N sc tg it p=true->GI X W F tg it p
 |.seq e,Γ,N,sc,X,C,tg,p,h=>by
  exact Jd C (bx e C p h).ge
 |.kF e,Γ,N,sc,X,C,tg,p,h=>by
  obtain⟨g,args,_,_,rfl,h9⟩:=De h
  clear h
  have h:=h9
  clear h9
  obtain⟨q,z2,h2⟩:=mw h
  dsimp only at z2;subst z2
  clear h
  have h:=ax h2
  clear h2
  simp only [zza] at h;obtain⟨⟨⟨e1,h1⟩,h2⟩,h3⟩:=h
  cases beq_iff_eq.mp e1;exact Jg C h1 h2 (notStar h3) (bx e C q h3).ge
 |.qb a b,Γ,N,sc,X,C,tg,p,h=>by
  obtain⟨g,args,_,_,rfl,h9⟩:=De h
  clear h
  have h:=h9
  clear h9
  obtain⟨q,r,z2,h2⟩:=AK h
  dsimp only at z2;subst z2
  clear h
  have h:=ax h2
  clear h2
  simp only [zza] at h;obtain⟨⟨⟨⟨e1,h1⟩,h2⟩,h3⟩,h4⟩:=h
  cases beq_iff_eq.mp e1;exact Ew C h1 h2 (notStar h3) (notStar h4) (bx a C q h3).ge (bx b C r h4).ge
 |.enum e,Γ,N,sc,X,C,tg,p,h=>by
  obtain⟨g,args,_,_,rfl,h9⟩:=De h
  clear h
  have h:=h9
  clear h9
  obtain⟨q,z2,h2⟩:=mw h
  dsimp only at z2;subst z2
  clear h
  have h:=ax h2
  clear h2
  simp only [zza] at h;obtain⟨⟨⟨⟨h0,e1⟩,h1⟩,h2⟩,h3⟩:=h
  cases beq_iff_eq.mp e1;cases tg<;>first|(exact aA h0)|skip
  exact EW C h1 h2 (notStar h3) (bx e C q h3).ge
end
end
end Ci
namespace L2
open PySem PySem.Spec PyProof.Rows
section
variable{X:Cx}{scope:Scope}{xs ys:List Str}{is:List Nat}
theorem ui{i₀:Nat}{x₀:Str}{pos' f9:Pos}{elt tg iter:Expr}{pos:Pos}{wi:TI}{g:TG}{te:TE}(hN₀:X.N.Nodup)(hi₀:X.N[i₀]?=some x₀)(hx₀:Loc X.env.scope x₀)(hc:X.calm=true)(S:fe X scope xs ys is)(hi:PI X tg iter wi)
 (hg:∀fp s1 H1 C,PG (cu X (xs++ys) scope (bP X.env ys) fp s1 H1 C) tg g) (he:∀fp s1 H1 C,PE (cu X (xs++ys) scope (bP X.env ys) fp s1 H1 C) elt te)
 (Ba:swapsWith (.ListComp elt [⟨tg,iter,[],0⟩] scope pos) (some (.Name x₀ pos')) f9.line X.env=pure true:=by rfl)
 (hs:∀x,foldedSetIterable iter X.env x=pure x:=by intro _;rfl) (hf₀:X.fn x₀=true\/X.env.scope.names.lookup x₀=some .local:=by first|exact .inl rfl|exact .inr rfl|assumption):
 PS X (.Assign [.Name x₀ pos'] (.ListComp elt [⟨tg,iter,[],0⟩] scope pos) f9) (Cp (AU wi xs.length g te is) (dz i₀)):=by
 intro aa s σ H D₀ I h;rw [exec_Assign_Name_used _ _ _ _ Ba];refine zzA (wpAny_standAt (zzA ?_));show wpAny _ X.A (do let _<-comprehension (.ListComp elt [⟨tg,iter,[],0⟩] scope pos) scope X.env _ (newList []) false (eval iter X.env) (some (assign (.Name x₀ pos') X.env))) _ _ s;refine zzA (wpAny_mono (g6 (QQ:=λ_ s'=>∃σ2 H2,Inv X aa σ2 H2 s'/\D₀.nx σ2 H2) (Q:=λv H4=>dz i₀ v σ H4 D₀.nx) hc S hi hg (λ_ _ _ _=>vH) he hs I h λD C s4 H4 m I5 hn ⟨g0,g1,_,g3,g4,g5⟩ q=>?_) (λ_ s' hq=>zzG (zzG hq)) λ_ _ e=>e)
 refine wpAny_assign_Name (jZ I5 hN₀ hi₀ hx₀ (show RelV (.ref D) (.ref D) from rfl) (λs6 I6 ⟨a6,sb6,ha6⟩=>?_) hf₀);have A3:C≠a6:=by
  rcases ha6 with z|z
  ·rw [z];exact g1
  ·exact λz2=>g4 _ _ z z2.symm
 exact⟨m,hn.sameBut sb6 A3,λh' yi=>⟨_,_,I6.turned (t':=s6.toks) (it:=C) (λb o hb e=>yi.extBut b o hb e) g0 g1 g3 g4 g5,q⟩⟩
end
end L2
namespace Ci
open PySem L2
section
variable{W:Wd}{G0 H0 G H:Hp}{env:Sl}{σ:St}
theorem Own.Ha{p:PV}{v:V}(h:Own W H0 G H p v):∃a o,v=.ref a/\H a=some o/\G a=none/\H0 a=none/\((∀G',aC G G'->G' a=some o->Rep W G' p (.ref a))\/∃av,o=.dT av/\∀ob G',aC G G'->G' a=some (.bF ob (.dT av))->Rep W G' p (.ref a)):=by
 cases p with
 |lst xs=>
  obtain⟨a,vs,rfl,h1,h2,h3,l⟩:=h
  exact⟨a,_,rfl,h1,h2,h3,.inl λG' s e=>.l (.inl (.inl e)) (aj.same s xs l)⟩
 |aP ks ps=>
  obtain⟨a,us,rfl,n,h1,h2,h3,l⟩:=h
  exact⟨a,_,rfl,h1,h2,h3,.inr ⟨_,rfl,λob G' s e=>by simp only [Rep];exact⟨a,ob,us,rfl,n,e,aj.same s ps l⟩⟩⟩
 |az=>exact h.elim
 |bl _=>exact h.elim
 |int _=>exact h.elim
 |str _=>exact h.elim
 |tup _=>exact h.elim
 |exc _=>exact h.elim
theorem Own.Cn{p:PV}{a:Addr}(h:Own W H0 G H p (.ref a))(ps:Array Value):H a≠some (.gf ps):=λz=>by
 cases p with
 |lst xs=>obtain⟨b,vs,e,h1,_⟩:=h;cases e;rw [z] at h1;cases h1
 |aP ks qs=>
  obtain⟨b,us,e,_,h1,_⟩:=h
  cases e;rw [z] at h1;cases h1
 |az=>exact h.elim
 |bl _=>exact h.elim
 |int _=>exact h.elim
 |str _=>exact h.elim
 |tup _=>exact h.elim
 |exc _=>exact h.elim
theorem qh{a:Addr}{ob:HO}{H':Hp}(t:cO W G H)(hG:G a=none)(n:∀ps,H a≠some (.gf ps))(hH:∀b,b≠a->H' b=H b):cO W (upd G a ob) H':=λP q m=>by
 obtain⟨n1,ps,e,tr,al⟩:=t P q m
 have hP:P≠a:=λz=>by subst z;exact n ps e
 refine⟨by rw [ae hP];exact n1,ps,by rw [hH P hP];exact e,tr,λpos cv y=>?_⟩
 obtain⟨c',oc,dm,t',e1,e2,e3,e4⟩:=al pos cv y
 exact⟨c',oc,dm,t',e1,bD hG _ _ e2,e3,e4⟩
theorem Own.eF{p:PV}{v:V}{a:Addr}{G' H':Hp}(h:Own W H0 G H p v)(hv:v≠.ref a)(sG:aC G G')(hG:∀b,b≠a->G' b=G b)(hH:∀b,b≠a->H' b=H b):Own W H0 G' H' p v:=by
 cases p with
 |lst xs=>
  obtain⟨b,vs,rfl,h1,h2,h3,l⟩:=h
  have hb:b≠a:=λz=>hv (by rw [z])
  exact⟨b,vs,rfl,by rw [hH b hb];exact h1,by rw [hG b hb];exact h2,h3,aj.same sG xs l⟩
 |aP ks ps=>
  obtain⟨b,us,rfl,n,h1,h2,h3,l⟩:=h
  have hb:b≠a:=λz=>hv (by rw [z])
  exact⟨b,us,rfl,n,by rw [hH b hb];exact h1,by rw [hG b hb];exact h2,h3,aj.same sG ps l⟩
 |az=>exact h.elim
 |bl _=>exact h.elim
 |int _=>exact h.elim
 |str _=>exact h.elim
 |tup _=>exact h.elim
 |exc _=>exact h.elim
theorem getElem?_modify{α:Type}(l:List α)(i j:Nat)(f:α->α):(l.modify i f)[j]?=if i=j then(l[j]?).map f else l[j]?:=by
 rw [List.getElem?_modify];split<;>simp_all
theorem qP(r:SR W H0 env σ G H)(g:aE W G0 H0 G H){i:Nat}{p:PV}{a:Addr}{ob LJ:HO}{H':Hp}(hp:env[i]?=some (.own p))(ho:σ[i]?=some (some (.ref a)))(NZ:Own W H0 G H p (.ref a))(hH:H a=some ob)(hG:G a=none)(yS:H0 a=none)
 (BB:∀G',aC G G'->G' a=some LJ->Rep W G' p (.ref a)) (h1:H' a=some LJ) (h2:∀b,b≠a->H' b=H b):SR W H0 (env.modify i nB) σ (upd G a LJ) H'/\aE W G0 H0 (upd G a LJ) H':=by
 have sG:aC G (upd G a LJ):=bD hG
 have sub:aC (upd G a LJ) H':=λb u e=>by
  by_cases hb:b=a
  ·subst hb;rw [ak] at e;cases e;exact h1
  ·rw [ae hb] at e;rw [h2 b hb];exact r.sub _ _ e
 have base:∀{B:Hp},B a=none->gZ B H->gZ B H':=λhB k b u e=>by
  have hb:b≠a:=λz=>by rw [z,hB] at e;cases e
  rw [h2 b hb];exact k b u e
 refine⟨⟨by rw [List.length_modify];exact r.len,sub,base yS r.base,λj s e=>?_,λj l q q' c e1 e2 e3 e4=>?_,qh r.tab hG NZ.Cn h2,qh r.i8 hG (λps z=>by rw [yS] at z;cases z) λ_ _=>rfl⟩,⟨g.g.trans sG,base yS g.h,sub,λb h3 h5 h4=>?_,λt=>qh (g.tab t) hG NZ.Cn h2⟩⟩
 ·rw [getElem?_modify] at e;split at e
  ·rename_i z;subst z;rw [hp] at e;cases e;exact⟨_,ho,_,rfl,BB _ sG ak⟩
  ·rename_i z;obtain⟨o2,k1,k2⟩:=r.slot j s e
   refine⟨o2,k1,?_⟩;cases s with
   |no=>exact trivial
   |val q=>
    obtain⟨v2,rfl,rv⟩:=k2
    exact⟨v2,rfl,Rep.same sG q rv⟩
   |fn _ _ _=>
    obtain⟨v2,rfl,rv⟩:=k2
    exact⟨v2,rfl,rv.same sG⟩
   |own q=>
    obtain⟨v2,rfl,ov⟩:=k2
    refine⟨v2,rfl,ov.eF (a:=a) (λzz=>?_) sG (λb hb=>ae hb) h2⟩;subst zz;exact z (r.apart i j p q a hp e ho k1)
 ·rw [getElem?_modify] at e1 e2;have ne:∀{j:Nat} {q:PV},(if i=j then(env[j]?).map nB else env[j]?)=some (.own q)->i≠j/\env[j]?=some (.own q):=λ{j q} e=>by
   split at e
   ·rename_i z;subst z;rw [hp] at e;cases e
   ·rename_i z;exact⟨z,e⟩
  exact r.apart j l q q' c (ne e1).2 (ne e2).2 e3 e4
 ·have hb:b≠a:=λz=>h3 (by rw [z];exact yS)
  rw [ae hb];exact g.own b h3 h5 h4
theorem JV(r:SR W H0 env σ G H)(g:aE W G0 H0 G H)(i:Nat):(∃G',SR W H0 (env.modify i nB) σ G' H/\aE W G0 H0 G' H)\/∃a av,H a=some (.dT av)/\∀o,∃G',SR W H0 (env.modify i nB) σ G' (upd H a (.bF o (.dT av)))/\aE W G0 H0 G' (upd H a (.bF o (.dT av))):=by
 have same:(∀p,env[i]?≠some (.own p))->env.modify i nB=env:=λh=>by
  refine List.ext_getElem? λj=>?_
  rw [getElem?_modify];split
  ·rename_i e;subst e;cases q:env[i]? with
   |none=>rfl
   |some s=>
    cases s with
    |own p=>exact absurd q (h p)
    |no=>rfl
    |val p=>rfl
    |fn _ _ _=>rfl
  ·rfl
 by_cases hx:∃p,env[i]?=some (.own p)
 ·obtain⟨p,hp⟩:=hx
  obtain⟨o,ho,v,rfl,ow⟩:=r.slot i _ hp
  have NZ:=ow
  obtain⟨a,ob,rfl,hH,hG,yS,BB|⟨av,rfl,BB⟩⟩:=ow.Ha
  ·obtain⟨k1,k2⟩:=qP r g hp ho NZ hH hG yS BB hH λ_ _=>rfl
   exact .inl ⟨_,k1,k2⟩
  ·refine .inr ⟨a,av,hH,λo=>?_⟩
   obtain⟨k1,k2⟩:=qP r g hp ho NZ hH hG yS (BB o) ak λb hb=>ae hb
   exact⟨_,k1,k2⟩
 ·exact .inl ⟨G,by rw [same λp z=>hx ⟨p,z⟩];exact r,g⟩
theorem mz(r:SR W H0 env σ G H)(g:aE W G0 H0 G H){i:Nat}{p p':PV}{a:Addr}{ob:HO}(hp:env[i]?=some (.own p))(hs:σ[i]?=some (some (.ref a)))(hG:G a=none)(yS:H0 a=none)(hn:Own W H0 G (upd H a ob) p' (.ref a)):
 SR W H0 (env.set i (.own p')) σ G (upd H a ob)/\aE W G0 H0 G (upd H a ob):=by
 have cg:i<env.length:=(zzH.mp hp).1
 have UP:∀ps,H a≠some (.gf ps):=by
  obtain⟨o2,h1,v2,rfl,ow⟩:=r.slot i _ hp
  rw [hs] at h1;cases h1;exact ow.Cn
 have tab:∀{G1:Hp},cO W G1 H->cO W G1 (upd H a ob):=λt=>t.same (aC.refl _) (λ_ _ _ h=>h) (kQ UP)
 refine⟨⟨by rw [List.length_set];exact r.len,λb u e=>?_,λb u e=>?_,λj s e=>?_,λj l q q' c e1 e2 e3 e4=>?_,tab r.tab,r.i8⟩,⟨g.g,λb u e=>?_,λb u e=>?_,g.own,λt=>tab (g.tab t)⟩⟩
 ·rw [ae (λz=>by subst z;rw [hG] at e;cases e)];exact r.sub _ _ e
 ·rw [ae (λz=>by subst z;rw [yS] at e;cases e)];exact r.base _ _ e
 ·by_cases hj:i=j
  ·subst hj;rw [List.getElem?_set_self cg] at e;cases e;exact⟨_,hs,_,rfl,hn⟩
  ·rw [zzS hj] at e;obtain⟨o2,h1,h2⟩:=r.slot j s e
   refine⟨o2,h1,?_⟩;cases s with
   |no=>exact trivial
   |val q=>exact h2
   |fn _ _ _=>exact h2
   |own q=>
    obtain⟨v2,rfl,ov⟩:=h2
    refine⟨v2,rfl,ov.eF (a:=a) (λzz=>?_) (aC.refl _) (λb hb=>rfl) λb hb=>ae hb⟩
    subst zz;exact hj (r.apart i j p q a hp e hs h1)
 ·have tr:∀{j:Nat} {q:PV},(env.set i (.own p'))[j]?=some (.own q)->∃q2,env[j]?=some (.own q2):=λ{j q} e=>by
   by_cases hj:i=j
   ·subst hj;exact⟨p,hp⟩
   ·rw [zzS hj] at e;exact⟨q,e⟩
  obtain⟨q2,f1⟩:=tr e1
  obtain⟨q3,f2⟩:=tr e2
  exact r.apart j l q2 q3 c f1 f2 e3 e4
 ·rw [ae (λz=>by subst z;rw [yS] at e;cases e)];exact g.h _ _ e
 ·rw [ae (λz=>by subst z;rw [hG] at e;cases e)];exact g.sub _ _ e
theorem uk(r:SR W H0 env σ G H)(g:aE W G0 H0 G H){i:Nat}{p:PV}{a:Addr}{ob:HO}(hi:i<env.length)(ha:H a=none)(hn:Own W H0 G (upd H a ob) p (.ref a)):
 SR W H0 (env.set i (.own p)) (σ.set i (some (.ref a))) G (upd H a ob)/\aE W G0 H0 G (upd H a ob):=by
 have gm:aE W G H G (upd H a ob):=.QE r.sub ha
 have r1:=r.grow gm
 have old:∀{j:Nat} {q:PV},env[j]?=some (.own q)->σ[j]?=some (some (.ref a))->False:=λ{j q} e1 e2=>by
  obtain⟨o2,h1,v2,rfl,ov⟩:=r.slot j _ e1
  rw [e2] at h1;cases h1;obtain⟨a',o',e3,hH,_⟩:=ov.Ha
  cases e3;rw [ha] at hH;cases hH
 refine⟨⟨by rw [List.length_set,List.length_set];exact r.len,r1.sub,r1.base,λj s e=>?_,λj l q q' c e1 e2 e3 e4=>?_,r1.tab,r1.i8⟩,g.trans gm⟩
 ·by_cases hj:i=j
  ·subst hj;rw [List.getElem?_set_self hi] at e;cases e;exact⟨_,List.getElem?_set_self (by rw [<-r.len];exact hi),_,rfl,hn⟩
  ·rw [zzS hj] at e;obtain⟨o2,h1,h2⟩:=r1.slot j s e
   exact⟨o2,by rw [zzS hj];exact h1,h2⟩
 ·by_cases hj:i=j
  ·by_cases hl:i=l
   ·exact hj.symm.trans hl
   ·exfalso
    subst hj;rw [List.getElem?_set_self (by rw [<-r.len];exact hi)] at e3;rw [zzS hl] at e2 e4;cases e3;exact old e2 e4
  ·by_cases hl:i=l
   ·exfalso
    subst hl;rw [List.getElem?_set_self (by rw [<-r.len];exact hi)] at e4;rw [zzS hj] at e1 e3;cases e4;exact old e1 e3
   ·rw [zzS hj] at e1 e3;rw [zzS hl] at e2 e4;exact r.apart j l q q' c e1 e2 e3 e4
end
def fU:E->Bool
 |.lst _=>true
 |.comp _ _ _ _ _=>true
 |.cQ _ _ _ _ _ _=>true
 |_=>false
def mQ:Expr->Bool
 |.ListComp .. =>false
 |.SetComp .. =>false
 |.DictComp .. =>false
 |_=>true
noncomputable def PL(sc:Scope)(x:Str)(xp:Pos):Expr->Bool
 |.ListComp _ _ s p=>sc.names.lookup x==some .local&&xp.line==p.line&&!(s.names.any λ(n,k)=>n==x&&(k==.local||k==.cell))
 |_=>false
def JP(ts:List Expr):Option Str:=(gj ts).bind fF
def Lx:List Keyword->Option (Str×Expr)
 |[⟨some n,v,_⟩]=>some (n,v)
 |_=>none
theorem KW{ks:List Keyword}{q:Str×Expr}(h:Lx ks=some q):∃p,ks=[⟨some q.1,q.2,p⟩]:=by
 cases ks with
 |nil=>exact fg h
 |cons k ks=>
  obtain⟨kn,kv,kp⟩:=k
  cases kn with
  |none=>exact fg h
  |some n=>
   cases ks with
   |cons _ _=>exact fg h
   |nil=>cases h;exact⟨_,rfl⟩
noncomputable def Om(e:Expr):Option (Str×Str×List Expr):=(GP e).bind λq=>(L1 q.1).bind λr=>(fF r.1).bind λx=>if(q.2.2.1.isEmpty&&r.2.2.endLine==q.2.2.2.line)=true then some (x,r.2.1,q.2.1) else none
noncomputable def Rt(e:Expr):Option (Str×Arguments×Expr×Scope):=(GP e).bind λq=>(fF q.1).bind λf=>(gj q.2.1).bind λa=>(fF a).bind λx=>(Lx q.2.2.1).bind λr=>(PM r.2).bind λl=>if(f=="min"&&r.1=="key")=true then some (x,l.1,l.2.1,l.2.2) else none
theorem KA{e:Expr}{c:Str×Arguments×Expr×Scope}(h:Rt e=some c):∃q1 q2 q3 q4 q5,e=.Call (.Name "min" q1) [.Name c.1 q2] [⟨some "key",.Lambda c.2.1 c.2.2.1 c.2.2.2 q3,q4⟩] q5:=by
 obtain⟨⟨f,a,k,p⟩,h1,h⟩:=m5 h
 obtain⟨g,h2,h⟩:=m5 h
 obtain⟨b,h3,h⟩:=m5 h
 obtain⟨x,h4,h⟩:=m5 h
 obtain⟨⟨n,v⟩,h5,h⟩:=m5 h
 obtain⟨⟨l1,l2,l3⟩,h6,h⟩:=m5 h
 obtain⟨h7,rfl⟩:=if1 h
 rw [zza,beq_iff_eq,beq_iff_eq] at h7;obtain⟨rfl,z8⟩:=h7
 obtain⟨p2,z2⟩:=cL h2
 obtain⟨p4,z4⟩:=cL h4
 obtain⟨p5,z5⟩:=KW h5
 obtain⟨p6,z6⟩:=u9 h6
 have z3:=dM h3
 dsimp only at z2 z3 z4 z5 z6 z8;subst z2 z3 z4 z5 z6 z8;exact⟨_,_,_,_,_,jW h1⟩
def Ex(x p:Str)(e:Expr):Bool:=(Jv e).any λq=>(Jv q.1).any λr=>fF r.1==some x&&fF r.2==some p&&(NR q.2).bind Qg==some 0
noncomputable def wF(x:Str)(params:Arguments)(body:Expr)(scope:Scope):Bool:=match pT params with
 |some [p]=>Ex x p body&&decide (bp scope=[x])&&Ox [p] scope&&okN p&&okN x
 |_=>false
theorem AO{x:Str}{params:Arguments}{body:Expr}{scope:Scope}(h:wF x params body scope=true):∃p,pT params=some [p]/\ux p x params body scope/\bp scope=[x]/\okN x=true:=by
 unfold wF at h;split at h
 ·rename_i p e;simp only [zza,zzN] at h;obtain⟨⟨⟨⟨h1,h2⟩,h3⟩,h4⟩,h5⟩:=h
  refine⟨p,e,⟨?_,by rw [<-h2];exact zY h3,(c8 h4).1,(c8 h4).2.1,(c8 h5).1,(c8 h5).2.1⟩,h2,h5⟩;obtain⟨⟨a,b⟩,e1,h6⟩:=ah h1
  obtain⟨⟨c,d⟩,e2,h7⟩:=ah h6
  simp only [zza,beq_iff_eq] at h7;obtain⟨p1,rfl⟩:=o6 e1
  obtain⟨p2,z2⟩:=o6 e2
  obtain⟨p3,z3⟩:=cL h7.1.1
  obtain⟨p4,z4⟩:=cL h7.1.2
  obtain⟨c5,y5,y6⟩:=m5 h7.2
  obtain⟨p5,p6,z5⟩:=uc y5
  cases Cf y6;dsimp only at z2 z3 z4 z5;subst z3 z4 z5 z2;exact⟨_,_,_,_,_,_,rfl⟩
 ·cases h
def Qb(ts:List Expr):Option (Str×Expr):=(gj ts).bind λt=>(Jv t).bind λq=>(fF q.1).bind λx=>some (x,q.2)
noncomputable def RU(o:Option Expr):Option (Str×Str):=o.bind λe=>(GP e).bind λq=>(fF q.1).bind λx=>(gj q.2.1).bind λa=>(NR a).bind λc=>(HI c).bind λz=>if q.2.2.1.isEmpty=true then some (x,z) else none
noncomputable def Tu:List ExceptHandler->Option (Str×Str×Str)
 |[.ExceptHandler (some (.Name x _)) (some n) [.Assign [.Name y _] (.Name n2 _) _] _]=>if n2==n then some (x,n,y) else none
 |_=>none
theorem j2{ts:List Expr}{x:Str}(h:JP ts=some x):∃xp,ts=[.Name x xp]:=by
 obtain⟨t,h1,h2⟩:=m5 h
 obtain⟨p,rfl⟩:=cL h2
 exact⟨p,dM h1⟩
theorem ue{p:Expr}{x m:Str}{args:List Expr}(h:Om p=some (x,m,args)):∃np apos bQ,p=.Call (.Attribute (.Name x np) m apos) args [] bQ/\(apos.endLine==bQ.line)=true:=by
 obtain⟨⟨f,a,k,cp⟩,h1,h⟩:=m5 h
 obtain⟨⟨o,m',ap⟩,h2,h⟩:=m5 h
 obtain⟨y,h3,h⟩:=m5 h
 obtain⟨h4,h⟩:=if1 h
 cases h;rw [zza] at h4;obtain⟨p3,z3⟩:=cL h3
 have z2:=zA h2
 have z5:=List.isEmpty_iff.1 h4.1
 dsimp only at z2 z3 z5;subst z3 z2 z5;exact⟨_,_,_,jW h1,h4.2⟩
theorem Cg{ts:List Expr}{x:Str}{pk:Expr}(h:Qb ts=some (x,pk)):∃np sp,ts=[.Subscript (.Name x np) pk sp]:=by
 obtain⟨t,h1,h⟩:=m5 h
 obtain⟨⟨a,b⟩,h2,h⟩:=m5 h
 obtain⟨y,h3,h⟩:=m5 h
 cases h;obtain⟨p3,z3⟩:=cL h3
 obtain⟨p2,z2⟩:=o6 h2
 dsimp only at z3;subst z3 z2;exact⟨_,_,dM h1⟩
theorem KC{o:Option Expr}{x z:Str}(h:RU o=some (x,z)):∃np j zp cp,o=some (.Call (.Name x np) [.Constant (.str z) j zp] [] cp):=by
 obtain⟨e,h0,h⟩:=m5 h
 obtain⟨⟨f,a,k,cp⟩,h1,h⟩:=m5 h
 obtain⟨y,h2,h⟩:=m5 h
 obtain⟨t,h3,h⟩:=m5 h
 obtain⟨c,h4,h⟩:=m5 h
 obtain⟨w,h5,h⟩:=m5 h
 obtain⟨h6,h⟩:=if1 h
 cases h;obtain⟨p2,z2⟩:=cL h2
 obtain⟨p4,q4,z4⟩:=uc h4
 have z3:=dM h3
 have z5:=Bo h5
 have z6:=List.isEmpty_iff.1 h6
 dsimp only at z2 z3 z6;subst z2 z5 z4 z3 z6;exact⟨_,_,_,_,h0.trans (congrArg some (jW h1))⟩
theorem Lm{hs:List ExceptHandler}{x n y:Str}(h:Tu hs=some (x,n,y)):∃xp yp np ap hp,hs=[.ExceptHandler (some (.Name x xp)) (some n) [.Assign [.Name y yp] (.Name n np) ap] hp]:=by
 cases hs with
 |nil=>exact fg h
 |cons k ks=>
  obtain⟨ty,nm,bd,kp⟩:=k
  cases ty with
  |none=>exact fg h
  |some te=>
   cases te with
   |Name x0 xp=>
    cases nm with
    |none=>exact fg h
    |some n0=>
     cases bd with
     |nil=>exact fg h
     |cons b bs=>
      cases b with
      |Assign ts v ap=>
       cases ts with
       |nil=>exact fg h
       |cons t1 ts=>
        cases t1 with
        |Name y0 yp=>
         cases ts with
         |cons _ _=>exact fg h
         |nil=>
          cases v with
          |Name n2 np=>
           cases bs with
           |cons _ _=>exact fg h
           |nil=>
            cases ks with
            |cons _ _=>exact fg h
            |nil=>
             have h:(if(n2==n0)=true then some (x0,n0,y0) else none)=some (x,n,y):=h
             split at h
             ·rename_i e;cases h;cases beq_iff_eq.mp e;exact⟨_,_,_,_,_,rfl⟩
             ·cases h
          |_=>exact fg h
        |_=>exact fg h
      |_=>exact fg h
   |_=>exact fg h
mutual
noncomputable def Ax(Γ:Pg)(N:List Str)(sc:Scope):S->Stmt->Bool
 |.set i e,.Assign ts p _=>(JP ts).any λx=>N[i]?==some x&&eJ sc x&&gQ e&&!fU e&&bh Γ N sc e p
 |.ret e,.Return (some p) _=>gQ e&&bh Γ N sc e p
 |.ite c a b,.If p pa pb _=>fT c&&bh Γ N sc c p&&E6 Γ N sc a pa&&E6 Γ N sc b pb
 |_,_=>false
noncomputable def E6(Γ:Pg)(N:List Str)(sc:Scope):Ss->List Stmt->Bool
 |.cons s .nil,[p]=>Ax Γ N sc s p
 |_,_=>false
end
mutual
noncomputable def eV(Γ:Pg)(N:List Str)(sc:Scope):S->Stmt->Bool
 |.expr e,.Expr p _=>mQ p&&bh Γ N sc e p
 |.set i e,.Assign ts p _=>(JP ts).any λx=>N[i]?==some x&&eJ sc x&&gQ e&&bh Γ N sc e p
 |.own i e,.Assign ts p _=>(JP ts).any λx=>N[i]?==some x&&eJ sc x&&fU e&&bh Γ N sc e p
 |.app i e,.Expr v _=>(Om v).any λc=>N[i]?==some c.1&&fq sc c.1&&okN c.1&&c.2.1==("append":Str)&&gQ e&&(gj c.2.2).any λp=>bh Γ N sc e p
 |.oV i e,.Expr v _=>(Om v).any λc=>N[i]?==some c.1&&fq sc c.1&&okN c.1&&c.2.1==("extend":Str)&&(gj c.2.2).any λp=>bh Γ N sc e p
 |.put i kk e,.Assign ts p _=>(Qb ts).any λc=>N[i]?==some c.1&&fq sc c.1&&okN c.1&&gQ e&&bh Γ N sc kk c.2&&bh Γ N sc e p
 |.aug i o e,.AugAssign (.Name x _) op p _=>N[i]?==some x&&eJ sc x&&decide (Nl o=.Add)&&decide (Nl o=op)&&bh Γ N sc e p
 |.ret e,.Return (some p) _=>gQ e&&bh Γ N sc e p
 |.ite c a b,.If p pa pb _=>fT c&&bh Γ N sc c p&&dB Γ N sc a pa&&dB Γ N sc b pb
 |.di tg it b,.For dj gv pb els _=>els.isEmpty&&iu N sc (λ_=>true) tg dj&&Gj it&&zf Γ N sc dj it gv&&dB Γ N sc b pb
 |.xo c b,.While p pb els _=>els.isEmpty&&fT c&&bh Γ N sc c p&&dB Γ N sc b pb
 |.raise c m,.Raise ex fr _=>fr.isNone&&(RU ex).any λq=>c==q.1&&m==q.2&&Γ.rs.contains c&&hZ sc c&&okN c
 |.vi b c i j,.Try pb hs o1 o2 _=>o1.isEmpty&&o2.isEmpty&&E6 Γ N sc b pb&&(Tu hs).any λq=>q.1==c&&Γ.cs.contains c&&c=="FloorError"&&hZ sc c&&okN c&&N[i]?==some q.2.1&&sc.names.lookup q.2.1==some .local&&okN q.2.1&&N[j]?==some q.2.2&&sc.names.lookup q.2.2==some .local
 |.pY i e,.Assign ts v _=>(JP ts).any λx=>(zr v).any λq=>(gj q.2).any λr=>q.1==("dict":Str)&&hZ sc q.1&&Γ.bs.contains q.1&&N[i]?==some x&&eJ sc x&&bh Γ N sc e r
 |.lD i,.Assign ts (.Dict [] [] _) _=>(JP ts).any λx=>N[i]?==some x&&eJ sc x
 |.fj i j n,.Assign ts v _=>(Qb ts).any λc=>(fF c.2).any λz=>N[i]?==some c.1&&fq sc c.1&&okN c.1&&N[n]?==some z&&fq sc z&&okN z&&(Om v).any λd=>d.2.1==("pop":Str)&&(gj d.2.2).any λe=>(fF e).any λz2=>z==z2&&N[j]?==some d.1&&fq sc d.1&&okN d.1
 |.nD m i,.Assign ts v _=>(JP ts).any λy=>(Rt v).any λc=>N[m]?==some y&&eJ sc y&&N[i]?==some c.1&&sc.names.lookup c.1==some .cell&&hZ sc "min"&&Γ.bs.contains "min"&&Γ.hl&&wF c.1 c.2.1 c.2.2.1 c.2.2.2
 |_,_=>false
noncomputable def dB(Γ:Pg)(N:List Str)(sc:Scope):Ss->List Stmt->Bool
 |.nil,[]=>true
 |.cons (.bF _) ss,ps=>dB Γ N sc ss ps
 |.cons s ss,p::ps=>eV Γ N sc s p&&dB Γ N sc ss ps
 |_,_=>false
end
section
variable{Γ:Pg}{X:Cx}{W:Wd}{F:aN}{N:List Str}{sc:Scope}{k:Nat}{H0:Hp}{E:XK}
theorem SR.go{env:Sl}{σ:St}{G H:Hp}(r:SR W H0 env σ G H):aE W G H0 G H:=⟨aC.refl _,r.base,r.sub,λ_ _ _ h=>h,λ_=>r.tab⟩
theorem aE.then{G G1 H1 G2 H2:Hp}(a:aE W G H0 G1 H1)(b:aE W G1 H0 G2 H2):aE W G H0 G2 H2:=⟨a.g.trans b.g,b.h,b.sub,λx h1 h3 h2=>b.own x h1 h3 (a.own x h1 h3 h2),λt=>b.tab (t.same a.g a.own λ_ _ h=>h)⟩
theorem SR.on{env:Sl}{σ:St}{G H G1 H1:Hp}(r:SR W H0 env σ G H)(g:aE W G H G1 H1):aE W G H0 G1 H1:=⟨g.g,r.base.trans g.h,g.sub,λx h1 h3 h2=>g.own x (λz=>h1 (r.base.free z)) (r.base.so h1 h3) h2,λ_=>g.tab r.tab⟩
def Dn(W:Wd)(H0 G:Hp)(D:Ends):Fl->Prop
 |.nx env=>∀σ G' H',SR W H0 env σ G' H'->aE W G H0 G' H'->D.nx σ H'
 |.bk env=>∀σ G' H',SR W H0 env σ G' H'->aE W G H0 G' H'->D.bk σ H'
 |.ct env=>∀σ G' H',SR W H0 env σ G' H'->aE W G H0 G' H'->D.ct σ H'
 |.rt p=>∀v G' H',Rep W G' p v->aE W G H0 G' H'->D.rt v H'
def bL(W:Wd)(H0 G:Hp)(E:XK)(r:Res Fl)(D:Ends):Prop:=match r with
 |.ok f=>Dn W H0 G D f
 |.exc c=>∀Cv ao H',XE W c G H0 Cv ao H'->E Cv ao H'
 |.bad=>False
theorem Dn.on{G G1 H1:Hp}{D:Ends}{f:Fl}(h:Dn W H0 G D f)(g:aE W G H0 G1 H1):Dn W H0 G1 D f:=by
 cases f with
 |nx env=>exact λσ G' H' r g'=>h σ G' H' r (g.then g')
 |bk env=>exact λσ G' H' r g'=>h σ G' H' r (g.then g')
 |ct env=>exact λσ G' H' r g'=>h σ G' H' r (g.then g')
 |rt p=>exact λv G' H' r g'=>h v G' H' r (g.then g')
theorem bL.on{G G1 H1:Hp}{D:Ends}{r:Res Fl}(h:bL W H0 G E r D)(g:aE W G H0 G1 H1):bL W H0 G1 E r D:=by
 cases r with
 |ok f=>exact Dn.on h g
 |exc c=>
  intro Cv ao H' x;obtain⟨C,a,G',e1,e2,e3,e4,g2⟩:=x
  exact h Cv ao H' ⟨C,a,G',e1,e2,e3,e4,g.then g2⟩
 |bad=>exact h
noncomputable def tS(W:Wd)(F:aN)(H0:Hp)(E:XK)(s:S):TS:=λD σ H=>∃G env,SR W H0 env σ G H/\bL W H0 G E (fH F s env) D
noncomputable def Q7(W:Wd)(F:aN)(H0:Hp)(E:XK)(ss:Ss):TS:=λD σ H=>∃G env,SR W H0 env σ G H/\bL W H0 G E (aF F ss env) D
abbrev GS(X:Cx)(W:Wd)(F:aN)(H0:Hp)(E:XK)(s:S)(p:Stmt):Prop:=PS X p (tS W F H0 E s)
abbrev C5(X:Cx)(W:Wd)(F:aN)(H0:Hp)(E:XK)(s:Ss)(p:List Stmt):Prop:=qJ X p (Q7 W F H0 E s)
theorem _root_.L2.PS.imp{p:Stmt}{t t':TS}(h:PS X p t)(i:∀D σ H,t' D σ H->t D σ H):PS X p t':=λaa s σ H D I hw=>h aa s σ H D I (i D σ H hw)
theorem _root_.L2.qJ.imp{p:List Stmt}{t t':TS}(h:qJ X p t)(i:∀D σ H,t' D σ H->t D σ H):qJ X p t':=λaa s σ H D I hw=>h aa s σ H D I (i D σ H hw)
structure eE(Γ:Pg)(F:aN)(W:Wd)(N:List Str)(sc:Scope)(k:Nat)(E:XK)(X:Cx):Prop where
 C:dH Γ F W N sc k X
 fn:∀x,X.fn x=true
 own:PassesOwn (model X.prog X.w) X.A X.env X.xe
 pass:Passes (dZ X.prog X.w) X E
 kind:sc.kind=.function
 Ak:X.stack=X.env::X.outer
 frame:X.env.frame=some X.env.locals
 xs:∀c,Γ.rs.contains c=true->c∈W.xs
 rm:∀c,Γ.rs.contains c=true->∃C,X.mg c=some (.ref C)
 rz:∀(c z:Str) (j:Nat) (np zp cp pos:Pos),Γ.rs.contains c=true->hZ sc c=true->okN c=true->PS X (.Raise (some (.Call (.Name c np) [.Constant (.str z) j zp] [] cp)) none pos) (λ_ _ H=>∀C e,X.mg c=some (.ref C)->H e=none->E (.ref C) (some e) H)
 MP:Γ.cs.contains "FloorError"=true->∀c D,c∈W.xs->X.mg c=some (.ref D)->∀T,X.mg "FloorError"=some (.ref T)->PySem.W.exmOne X.K (.ref D) (.ref T)=some true
theorem Gb(S:eE Γ F W N sc k E X){c:Str}{σ:St}{Gs G H:Hp}(g:aE W Gs H0 G H)(h:∀Cv ao H',XE W c Gs H0 Cv ao H'->E Cv ao H'):sP X W σ c G H:=λaa G1 H1 s1 e s' I g1 x=>
 S.pass aa σ H1 s1 e s' I (AR.imp x λCv a H' y=>h Cv a H' (by
  obtain⟨C,a',G',e1,e2,e3,e4,g2⟩:=y
  have g3:=g1.trans g2
  exact⟨C,a',G',e1,e2,e3,e4,g.g.trans g3.g,g.h.trans g3.h,g3.sub,λx h1 h3 h2=>g3.own x (λz=>h1 (g.h.free z)) (g.h.so h1 h3) (g.own x h1 h3 h2),λt=>g3.tab (g.tab t)⟩))
theorem bL.bind{α:Type}(S:eE Γ F W N sc k E X){r:Res α}{f:α->Res Fl}{D:Ends}{env:Sl}{σ:St}{G H:Hp}(sr:SR W H0 env σ G H)(h:bL W H0 G E (r.bind f) D):Out X W r σ G H λa=>bL W H0 G E (f a) D:=by
 cases r with
 |ok a=>exact h
 |exc c=>exact Gb S sr.go h
 |bad=>exact h
theorem ny(S:eE Γ F W N sc k E X){env:Sl}{σ:St}{G H:Hp}{e:Ci.E}{f:PV->Res Fl}{D:Ends}{Q:VK}(sr:SR W H0 env σ G H)(o:bL W H0 G E ((aK F e env).bind f) D)
 (h:∀p v G1 H1,aE W G H G1 H1->Got W H0 G1 H1 e p v->SR W H0 env σ G1 H1->bL W H0 G1 E (f p) D->Q v H1):tE X W F e σ H Q:=
 ⟨H0,G,env,sr,(o.bind S sr).imp λp hp v G1 H1 g1 t=>h p v G1 H1 g1 t (sr.grow g1) (hp.on (sr.on g1))⟩
theorem GD(S:eE Γ F W N sc k E X){env:Sl}{σ:St}{G H:Hp}{e:Ci.E}{f:Bool->Res Fl}{D:Ends}{Q:Bool->Hp->Prop}(sr:SR W H0 env σ G H)(o:bL W H0 G E ((aK F e env).bind λp=>sJ p f) D)
 (h:∀b G1 H1,aE W G H G1 H1->SR W H0 env σ G1 H1->bL W H0 G1 E (f b) D->Q b H1):tT X W F e σ H Q:=by
 refine⟨H0,G,env,sr,(o.bind S sr).imp λp hp=>?_⟩
 cases p with
 |bl b=>exact⟨b,rfl,λG1 H1 g1=>h b G1 H1 g1 (sr.grow g1) (bL.on hp (sr.on g1))⟩
 |az=>exact False.elim hp
 |int _=>exact False.elim hp
 |str _=>exact False.elim hp
 |tup _=>exact False.elim hp
 |lst _=>exact False.elim hp
 |exc _=>exact False.elim hp
 |aP _ _=>exact False.elim hp
theorem Nv(S:eE Γ F W N sc k E X){env:Sl}{σ:St}{G H:Hp}{e:Ci.E}{f:PV->Res Fl}{D:Ends}{Q:VK}(hl:∀env q,aK F e env=.ok q->∃xs,q=.lst xs)(sr:SR W H0 env σ G H)(o:bL W H0 G E ((aK F e env).bind f) D)
 (h:∀xs a vs G1 H1,aE W G H G1 H1->H1 a=none->aj W G1 xs vs->SR W H0 env σ G1 H1->bL W H0 G1 E (f (.lst xs)) D->Q (.ref a) (upd H1 a (.lst vs))):tF X W F e σ H Q:=by
 refine⟨H0,G,env,sr,?_⟩;have o2:=o.bind S sr
 cases r:aK F e env with
 |bad=>rw [r] at o2;exact o2
 |exc c=>rw [r] at o2;exact o2
 |ok q=>
  rw [r] at o2;obtain⟨xs,rfl⟩:=hl env q r
  exact⟨xs,rfl,λa vs G' H' g ha l=>h xs a vs G' H' g ha l (sr.grow g) (bL.on o2 (sr.on g))⟩
end
section
variable{Γ:Pg}{X:Cx}{W:Wd}{F:aN}{N:List Str}{sc:Scope}{k:Nat}{H0:Hp}{E:XK}
theorem kP{p:Expr}{t:Option Expr}{l:Nat}{env:Env}(h:mQ p=true):swapsWith p t l env=pure false:=by
 cases p<;>first|rfl|(exact aA h)
theorem kW{elt:Expr}{gens:List Comprehension}{s:Scope}{p:Pos}{x:Str}{xp:Pos}{l:Nat}(d9:X.env.scope=sc)(hk:sc.kind=.function):swapsWith (.ListComp elt gens s p) (some (.Name x xp)) l X.env=pure (PL sc x xp (.ListComp elt gens s p)):=by
 have hb:X.env.blockKind=.function:=by
  unfold Env.blockKind;rw [d9,hk]
  rfl
 show(pure (X.env.blockKind==.function&&X.env.kindOf x==some .local&&xp.line==p.line&&!(s.names.any λ(n,k)=>n==x&&(k==.local||k==.cell))):Sem Bool)=_
 rw [hb];show(pure (true&&X.env.scope.names.lookup x==some .local&&_&&_):Sem Bool)=_
 rw [d9]
 rfl
theorem EF(S:eE Γ F W N sc k E X){e:Ci.E}{p:Expr}{pos:Pos}(he:GE X W F e p)(hn:mQ p=true):GS X W F H0 E (.expr e) (.Expr p pos):=
 L2.PS.imp (qx he (kP hn)) λD σ H h=>by
  obtain⟨G,env,sr,o⟩:=h
  rw [fH] at o;exact ny S sr o λq v G1 H1 g t bE o1=>o1 σ G1 H1 bE bE.go
theorem Ia(S:eE Γ F W N sc k E X){e:Ci.E}{p:Expr}{pos:Pos}(dP:gQ e=true)(he:GE X W F e p):GS X W F H0 E (.ret e) (.Return (some p) pos):=
 L2.PS.imp (BI he) λD σ H h=>by
  obtain⟨G,env,sr,o⟩:=h
  rw [fH] at o;exact ny S sr o λq v G1 H1 g t bE o1=>o1 v G1 H1 (t.rep dP) bE.go
theorem Am(S:eE Γ F W N sc k E X){c m:Str}{j:Nat}{np zp cp pos:Pos}(h1:Γ.rs.contains c=true)(h2:hZ sc c=true)(h3:okN c=true):GS X W F H0 E (.raise c m) (.Raise (some (.Call (.Name c np) [.Constant (.str m) j zp] [] cp)) none pos):=
 L2.PS.imp (S.rz c m j np zp cp pos h1 h2 h3) λD σ H h C e hC he=>by
  obtain⟨G,env,sr,o⟩:=h
  rw [fH] at o;exact o _ _ _ ⟨C,e,G,rfl,rfl,S.xs c h1,by rw [S.C.mg];exact hC,sr.go⟩
theorem dQ(S:eE Γ F W N sc k E X){i:Nat}{x:Str}(h:N[i]?=some x)(hl:eJ sc x=true):X.N.Nodup/\X.N[i]?=some x/\Loc X.env.scope x:=by
 refine⟨by rw [S.C.hN];exact S.C.nd,by rw [S.C.hN];exact h,uf S.C.d9 hl⟩
theorem JT(S:eE Γ F W N sc k E X){i:Nat}{x:Str}{e:Ci.E}{p:Expr}{xp pos:Pos}(h:N[i]?=some x)(hl:eJ sc x=true)(dP:gQ e=true)(he:GE X W F e p)(hs:swapsWith p (some (.Name x xp)) pos.line X.env=pure false):GS X W F H0 E (.set i e) (.Assign [.Name x xp] p pos):=by
 obtain⟨a1,a2,a3⟩:=dQ S h hl
 refine L2.PS.imp (iK a1 a2 a3 he hs (.inl (S.fn x))) λD σ H h=>?_
 obtain⟨G,env,sr,o⟩:=h
 rw [fH] at o;exact ny S sr o λq v G1 H1 g t bE o1=>o1 _ G1 H1 (bE.set i (t.rep dP)) bE.go
noncomputable def Lo(X:Cx)(W:Wd)(F:aN)(i:Nat)(e:Ci.E):TS:=λD σ H=>tF X W F e σ H λv H1=>D.nx (σ.set i (some v)) H1
theorem Mk{e:Ci.E}(hl:∀env q,aK F e env=.ok q->∃xs,q=.lst xs)(σ:St)(H:Hp)(Q:VK)(h:tE X W F e σ H Q):tF X W F e σ H Q:=by
 obtain⟨H0,G,env,sr,o⟩:=h
 refine⟨H0,G,env,sr,?_⟩;cases r:aK F e env with
 |bad=>rw [r] at o;exact o
 |exc c=>rw [r] at o;exact o
 |ok q=>
  rw [r] at o;obtain⟨xs,rfl⟩:=hl env q r
  exact⟨xs,rfl,λa vs G' H' g ha l=>o _ _ _ (g.trans (.new g.sub ha)) (.of (.l (.inl (.inl ak)) (aj.same (bD (g.sub.free ha)) xs l)))⟩
theorem E9(S:eE Γ F W N sc k E X){i:Nat}{e:Ci.E}{p:Stmt}(hl:∀env q,aK F e env=.ok q->∃xs,q=.lst xs)(dP:gQ e=true)(h:PS X p (Lo X W F i e)):GS X W F H0 E (.set i e) p:=
 L2.PS.imp h λD σ H hq=>by
  obtain⟨G,env,sr,o⟩:=hq
  rw [fH] at o;refine Mk hl σ H _ (ny S sr o λq v G1 H1 g t bE o1=>?_);exact o1 _ G1 H1 (bE.set i (t.rep dP)) bE.go
theorem FQ(S:eE Γ F W N sc k E X){i:Nat}{x:Str}{e:Ci.E}{p:Stmt}(hi:N[i]?=some x)(hl:∀env q,aK F e env=.ok q->∃xs,q=.lst xs)(h:PS X p (Lo X W F i e)):GS X W F H0 E (.own i e) p:=by
 intro aa s σ H D I hq;have Ih:i<σ.length:=by rw [I.len,S.C.hN];exact(zzH.mp hi).1
 refine h aa s σ H D I ?_;obtain⟨G,env,sr,o⟩:=hq
 rw [fH] at o;refine Nv S hl sr o λxs a vs G1 H1 g ha l bE o1=>?_
 have hO:Own W H0 G1 (upd H1 a (.lst vs)) (.lst xs) (.ref a):=⟨a,vs,rfl,ak,bE.sub.free ha,bE.base.free ha,l⟩
 obtain⟨r2,g2⟩:=uk bE bE.go (i:=i) (by rw [bE.len];exact Ih) ha hO
 exact o1 _ G1 _ r2 g2
theorem qe{i:Nat}{x:Str}{e:Ci.E}{p:Expr}{xp pos:Pos}(S:eE Γ F W N sc k E X)(h:N[i]?=some x)(hl:eJ sc x=true)(he:GF X W F e p)(hs:swapsWith p (some (.Name x xp)) pos.line X.env=pure false):PS X (.Assign [.Name x xp] p pos) (Lo X W F i e):=by
 obtain⟨a1,a2,a3⟩:=dQ S h hl
 exact iK a1 a2 a3 he hs (.inl (S.fn x))
theorem BN(S:eE Γ F W N sc k E X){i:Nat}{x:Str}{xp f9:Pos}(hx:N[i]?=some x)(Dr:eJ sc x=true){kk:Nat}{bf:List Nat}{tg:Tg}{it:I}{elt:Ci.E}{dj gv ff:Expr}{scope:Scope}{pos:Pos}(h:mD N sc scope kk bf (aO dj))(cg:jY kk tg=true)(dP:gQ elt=true)(hi:GI X W F dj it gv)(sU:∀x,foldedSetIterable gv X.env x=pure x)
 (Bs:iu (aO dj++freeOf scope) (du scope sc) (lR scope) tg dj=true) (he:∀Y,dH Γ.C6 F W (aO dj++freeOf scope) (du scope sc) k Y->GE Y W F elt ff):PS X (.Assign [.Name x xp] (.ListComp ff [⟨dj,gv,[],0⟩] scope pos) f9) (Lo X W F i (.comp kk bf tg it elt)):=by
 obtain⟨a1,a2,a3⟩:=dQ S hx Dr
 cases Ba:PL sc x xp (.ListComp ff [⟨dj,gv,[],0⟩] scope pos) with
 |false=>exact qe S hx Dr (wj S.C h cg dP hi sU Bs he) (by rw [kW S.C.d9 S.kind,Ba])
 |true=>
  intro aa s σ H D I hq;have HH:(freeOf scope).Nodup:=(List.nodup_append.mp h.nd).2.1
  have rd:=vU (N:=N) S.C.K cg dP h.slots HH σ H _ hq
  have:=ui (g:=gT X.K tg) (te:=tN W F elt) (xs:=aO dj) (ys:=freeOf scope) (is:=bf) (pos:=pos) a1 a2 a3 S.C.calm (pM S.C.hN S.C.d9 I.ok h) hi
   (λfp s1 H1 A=>Ay (fn:=lR scope) (X:=cu X (aO dj++freeOf scope) scope (bP X.env (freeOf scope)) fp s1 H1 A) rfl h.nd (fJ S.C.d9) rfl (λ_ z=>z) Bs)
   (λfp s1 H1 A=>L2.PE.imp (he _ (fC S.C h fp s1 H1 A)) λσ H Q z=>wR σ H Q z) (by rw [kW (l:=f9.line) S.C.d9 S.kind,Ba]) sU (.inl (S.fn x)) aa s σ H D I
  rw [h.len] at this;exact this rd
theorem tR(S:eE Γ F W N sc k E X){i:Nat}{x:Str}{xp f9:Pos}(hx:N[i]?=some x)(Dr:eJ sc x=true){kk:Nat}{bf:List Nat}{tg:Tg}{it:I}{c elt:Ci.E}{dj gv pc ff:Expr}{scope:Scope}{pos:Pos}(h:mD N sc scope kk bf (aO dj))(cg:jY kk tg=true)(dP:gQ elt=true)(hi:GI X W F dj it gv)(sU:∀x,foldedSetIterable gv X.env x=pure x)
 (Bs:iu (aO dj++freeOf scope) (du scope sc) (lR scope) tg dj=true) (hc:∀Y,dH Γ.C6 F W (aO dj++freeOf scope) (du scope sc) k Y->GT Y W F c pc) (he:∀Y,dH Γ.C6 F W (aO dj++freeOf scope) (du scope sc) k Y->GE Y W F elt ff):PS X (.Assign [.Name x xp] (.ListComp ff [⟨dj,gv,[pc],0⟩] scope pos) f9) (Lo X W F i (.cQ kk bf tg it c elt)):=by
 obtain⟨a1,a2,a3⟩:=dQ S hx Dr
 cases Ba:PL sc x xp (.ListComp ff [⟨dj,gv,[pc],0⟩] scope pos) with
 |false=>exact qe S hx Dr (nT S.C h cg dP hi sU Bs hc he) (by rw [kW S.C.d9 S.kind,Ba])
 |true=>
  intro aa s σ H D I hq;have HH:(freeOf scope).Nodup:=(List.nodup_append.mp h.nd).2.1
  have rd:=oG (N:=N) S.C.K cg dP h.slots HH σ H _ hq
  have:=pP (g:=gT X.K tg) (tt:=Oy W F c) (te:=tN W F elt) (xs:=aO dj) (ys:=freeOf scope) (is:=bf) (pos:=pos) a1 a2 a3 S.C.calm (pM S.C.hN S.C.d9 I.ok h) hi
   (λfp s1 H1 A=>Ay (fn:=lR scope) (X:=cu X (aO dj++freeOf scope) scope (bP X.env (freeOf scope)) fp s1 H1 A) rfl h.nd (fJ S.C.d9) rfl (λ_ z=>z) Bs)
   (λfp s1 H1 A=>L2.PT.imp (hc _ (fC S.C h fp s1 H1 A)) λσ H Q z=>AH σ H Q z)
   (λfp s1 H1 A=>L2.PE.imp (he _ (fC S.C h fp s1 H1 A)) λσ H Q z=>wR σ H Q z) (by rw [kW (l:=f9.line) S.C.d9 S.kind,Ba]) sU (.inl (S.fn x)) aa s σ H D I
  rw [h.len] at this;exact this rd
theorem xG{tg:Tg}{p:PV}{env:Sl}(c:Str):Tg.put tg p env≠.exc c:=by
 unfold Tg.put;split<;>exact λz=>nomatch z
theorem IX(S:eE Γ F W N sc k E X){c:Ci.E}{a b:Ss}{p:Expr}{pa pb:List Stmt}{pos:Pos}(hc:GT X W F c p)(ha:C5 X W F H0 E a pa)(hb:C5 X W F H0 E b pb):GS X W F H0 E (.ite c a b) (.If p pa pb pos):=
 L2.PS.imp (Gz hc ha hb) λD σ H h=>by
  obtain⟨G,env,sr,o⟩:=h
  rw [fH] at o;refine GD S sr o λt G1 H1 g bE o1=>?_
  cases t with
  |true=>
   rw [if_pos rfl] at o1⊢;exact⟨G1,env,bE,o1⟩
  |false=>
   rw [if_neg zzf] at o1⊢;exact⟨G1,env,bE,o1⟩
theorem Kz(S:eE Γ F W N sc k E X){c:Ci.E}{b:Ss}{p:Expr}{pb:List Stmt}{pos:Pos}(hc:GT X W F c p)(hb:C5 X W F H0 E b pb):GS X W F H0 E (.xo c b) (.While p pb [] pos):=
 L2.PS.imp (CT S.own hc hb) λD σ H h=>by
  obtain⟨G,env,sr,o⟩:=h
  rw [fH] at o;refine⟨λm σ' H'=>∃G' aw,SR W H0 aw σ' G' H'/\aE W G H0 G' H'/\bL W H0 G' E (bK (aK F c) (aF F b) m aw) D,⟨_,G,env,sr,sr.go,o⟩,?_⟩
  rintro m σ' H' ⟨G',aw,sr',g',o'⟩
  cases m with
  |zero=>exact o'.elim
  |succ m=>
   unfold bK at o';refine GD S sr' o' λt G1 H1 g1 bE o1=>?_
   cases t with
   |false=>
    rw [if_neg zzf] at o1⊢;exact o1 σ' G1 H1 bE bE.go
   |true=>
    rw [if_pos rfl] at o1⊢;refine⟨λσ2 H2=>∃G2 fu,SR W H0 fu σ2 G2 H2/\aE W G H0 G2 H2/\bL W H0 G2 E (bK (aK F c) (aF F b) m fu) D,λσ2 H2 h2=>⟨m,Nat.lt_succ_self _,h2⟩,G1,aw,bE,?_⟩
    have gg:=g'.then (sr'.on g1)
    cases r:aF F b aw with
    |bad=>rw [r] at o1;exact o1.elim
    |exc cc=>rw [r] at o1;exact o1
    |ok f=>
     rw [r] at o1;cases f with
     |nx fu=>exact λσ2 G2 H2 fB g2=>⟨G2,fu,fB,gg.then g2,bL.on (show bL W H0 G1 E (bK (aK F c) (aF F b) m fu) D from o1) g2⟩
     |ct fu=>exact λσ2 G2 H2 fB g2=>⟨G2,fu,fB,gg.then g2,bL.on (show bL W H0 G1 E (bK (aK F c) (aF F b) m fu) D from o1) g2⟩
     |bk fu=>exact λσ2 G2 H2 fB g2=>o1 σ2 G2 H2 fB g2
     |rt q=>exact λv G2 H2 rv g2=>o1 v G2 H2 rv g2
theorem JM(S:eE Γ F W N sc k E X){tg:Tg}{it:I}{b:Ss}{dj gv:Expr}{pb:List Stmt}{pos:Pos}(Bs:iu N sc (λ_=>true) tg dj=true)(hit:Gj it=true)(hi:GI X W F dj it gv)(sU:∀x,foldedSetIterable gv X.env x=pure x)(hb:C5 X W F H0 E b pb):GS X W F H0 E (.di tg it b) (.For dj gv pb [] pos):=
 L2.PS.imp (JX S.own S.C.calm hi (Ay (fn:=λ_=>true) S.C.hN S.C.nd S.C.d9 S.C.calm (λx _=>S.fn x) Bs) hb sU) λD σ H h=>by
  obtain⟨G,env,sr,o⟩:=h
  rw [fH] at o;refine⟨H0,G,env,sr,(o.bind S sr).imp λps kL J G1 H1 g1 gi=>?_⟩
  have bF:=gi.bF hit
  generalize hf:(λ(x:PV) (env:Sl)=>(tg.put x env).bind λaw=>aF F b aw)=f at kL
  have bE:=sr.grow g1
  refine⟨λi m σ' H'=>i<=ps.length/\m=ps.length-i/\∃G' aw,SR W H0 aw σ' G' H'/\aE W G1 H0 G' H'/\bL W H0 G' E (forL f (ps.drop i) aw) D,⟨_,Nat.zero_le _,rfl,G1,env,bE,bE.go,by rw [List.drop_zero];exact bL.on kL (sr.on g1)⟩,?_⟩
  rintro i m σ' H' ⟨MK,hm,G',aw,sr',g',o'⟩
  obtain⟨ist,igo⟩:=bF i G' H' g'.g (.of (g'.g.trans sr'.sub)) sr'.sub
  by_cases hlast:i=ps.length
  ·refine .inl ⟨ist hlast,?_⟩;rw [hlast,List.drop_length] at o';exact o' σ' G' H' sr' sr'.go
  ·have cg:i<ps.length:=by omega
   obtain⟨hgo,hyld⟩:=igo ps[i] (zzg cg)
   refine .inr ⟨hgo,λσ2 H2=>i+1<=ps.length/\∃G2 fu,SR W H0 fu σ2 G2 H2/\aE W G1 H0 G2 H2/\bL W H0 G2 E (forL f (ps.drop (i+1)) fu) D,λσ2 H2 h2=>⟨ps.length-(i+1),by omega,h2.1,rfl,h2.2⟩,λx nj hy=>?_⟩
   obtain⟨xi,g'',rx⟩:=hyld x nj hy
   rw [List.drop_eq_getElem_cons cg] at o';unfold forL at o';have Vj:f ps[i] aw=(tg.put ps[i] aw).bind λaw=>aF F b aw:=by rw [<-hf]
   rw [Vj] at o';have fB:=sr'.grow g''
   have g2:=g'.then (sr'.on g'')
   cases r:tg.put ps[i] aw with
   |bad=>rw [r] at o';exact o'.elim
   |exc c=>exact absurd r (xG c)
   |ok fu=>
    rw [r] at o';refine uw S.C.K r fB rx λσ2 sr3=>⟨xi,fu,sr3,?_⟩
    have o2:bL W H0 xi E ((aF F b fu).bind λfl=>match fl with
     |.nx aw=>forL f (ps.drop (i+1)) aw
     |.ct aw=>forL f (ps.drop (i+1)) aw
     |.bk aw=>.ok (.nx aw)
     |.rt p=>.ok (.rt p)) D:=bL.on o' (sr'.on g'')
    cases r2:aF F b fu with
    |bad=>rw [r2] at o2;exact o2.elim
    |exc cc=>rw [r2] at o2;exact o2
    |ok fl=>
     rw [r2] at o2;cases fl with
     |nx env3=>exact λσ3 G3 H3 KN g3=>⟨cg,G3,env3,KN,g2.then g3,bL.on (show bL W H0 xi E (forL f (ps.drop (i+1)) env3) D from o2) g3⟩
     |ct env3=>exact λσ3 G3 H3 KN g3=>⟨cg,G3,env3,KN,g2.then g3,bL.on (show bL W H0 xi E (forL f (ps.drop (i+1)) env3) D from o2) g3⟩
     |bk env3=>exact λσ3 G3 H3 KN g3=>o2 σ3 G3 H3 KN g3
     |rt q=>exact λv G3 H3 rv g3=>o2 v G3 H3 rv g3
theorem FN:C5 X W F H0 E .nil []:=L2.qJ.imp w8 λD σ H h=>by
 obtain⟨G,env,sr,o⟩:=h
 rw [aF] at o;exact o σ G H sr sr.go
theorem A6{s:Ci.S}{ss:Ss}{p:Stmt}{ps:List Stmt}(h1:GS X W F H0 E s p)(h2:C5 X W F H0 E ss ps):C5 X W F H0 E (.cons s ss) (p::ps):=
 L2.qJ.imp (Cb h1 h2) λD σ H h=>by
  obtain⟨G,env,sr,o⟩:=h
  rw [aF] at o;refine⟨G,env,sr,?_⟩;cases r:fH F s env with
  |bad=>rw [r] at o;exact o
  |exc c=>rw [r] at o;exact o
  |ok f=>
   rw [r] at o;cases f with
   |nx fu=>exact λσ2 G2 H2 fB g2=>⟨G2,fu,fB,bL.on (show bL W H0 G E (aF F ss fu) D from o) g2⟩
   |bk fu=>exact o
   |ct fu=>exact o
   |rt q=>exact o
theorem E4{i:Nat}{ss:Ss}{ps:List Stmt}(h:C5 X W F H0 E ss ps):C5 X W F H0 E (.cons (.bF i) ss) ps:=by
 intro aa s σ H D I hq;obtain⟨G,env,sr,o⟩:=hq
 rw [aF,fH] at o;rcases JV sr sr.go i with⟨G',sr',g'⟩|⟨a,av,ha,k⟩
 ·exact h aa s σ H D I ⟨G',_,sr',bL.on (show bL W H0 G E (aF F ss (env.modify i nB)) D from o) g'⟩
 ·obtain⟨ob,J⟩:=I.freeze ha
  obtain⟨G',sr',g'⟩:=k ob
  exact h aa s σ _ D J ⟨G',_,sr',bL.on (show bL W H0 G E (aF F ss (env.modify i nB)) D from o) g'⟩
end
end Ci
namespace L2
open PySem PySem.Spec PyProof.Rows
end L2
namespace Ci
open PySem L2
section
variable{Γ:Pg}{X:Cx}{W:Wd}{F:aN}{N:List Str}{sc:Scope}{k:Nat}{H0:Hp}{E:XK}
theorem uZ(hK:W.K=X.K):NC X "list.extend" (λx vs H Q=>∃l b xs zs,x=.ref l/\vs=[.ref b]/\H l=some (.lst xs)/\qm W.K H b zs/\xs.length+zs.length<=sizeLine/\Q .az (upd H l (.lst (xs++zs)))):=by
 intro aa s σ H x vs v us Q I rx rv h;obtain⟨l,b,xs,zs,rfl,rfl,hH,hB,hz,q⟩:=h
 cases rx;obtain⟨u,rfl,ru⟩:=Vals.one rv
 cases ru;obtain⟨z,ay,n,r,hl,e⟩:=I.Nw hH
 obtain⟨aG,n2,r2,Q0,z2,e2⟩:=ug hK I hB
 have hsz:ay.toArray.size+aG.toArray.size<=sizeLine:=by rw [zzC,zzC];omega
 have Bp:¬(!ay.toArray.isEmpty&&Builtin.List.listTooLong (ay.toArray.size+aG.toArray.size))=true:=by
  rw [sQ hsz,Bool.and_false];exact zzf
 refine PySem.call_meets PySem.F.slot_list_extend ⟨_,e,rfl⟩ PySem.F.entry_list_extend (PySem.F.args_list_extend_2 _ _)
  (PySem.AutoSeq1.list_extend_list_list_0 l ay.toArray n b aG.toArray n2 Bp (by rw [zzC];omega) (by omega)) ⟨e,e2,?_⟩
 refine⟨.az,_,I.MT (its':=ay++aG) hH e (by simp) (r.append r2) ?_,rfl,q⟩;rw [zzM];omega
theorem iC(S:eE Γ F W N sc k E X){i:Nat}{x:Str}{pos:Pos}(h:N[i]?=some x)(hv:fq sc x=true)(ho:okN x=true):PE X (.Name x pos) (xV i):=
 fh (by rw [S.C.hN];exact h) (oZ S.C hv) (c8 ho).1 (c8 ho).2.1
theorem wO{env:Sl}{σ:St}{G H:Hp}{i:Nat}{xs:List PV}(sr:SR W H0 env σ G H)(h:env[i]?=some (.own (.lst xs))):∃a vs,σ[i]?=some (some (.ref a))/\H a=some (.lst vs)/\G a=none/\H0 a=none/\aj W G xs vs:=by
 obtain⟨o,ho,v,rfl,a,vs,rfl,h1,h2,h3,l⟩:=sr.slot i _ h
 exact⟨a,vs,ho,h1,h2,h3,l⟩
theorem HQ(S:eE Γ F W N sc k E X){i:Nat}{x:Str}{e:Ci.E}{p:Expr}{np apos bQ pos:Pos}(h:N[i]?=some x)(hv:fq sc x=true)(ho:okN x=true)(gC:(apos.endLine==bQ.line)=true)(dP:gQ e=true)(he:GE X W F e p)
 (dN:∀env ps,starEach (p::ps) env=(false,eval p env)::starEach ps env):GS X W F H0 E (.app i e) (.Expr (.Call (.Attribute (.Name x np) "append" apos) [p] [] bQ) pos):=by
 refine L2.PS.imp (qx (sM PySem.F.plainAttrs_list PySem.F.slot_list_append PySem.F.type_list_append yH (iC S h hv ho) (bM he dD (dN _ _)) rfl (by rw [dN];rfl) gC (dN _ _) rfl) rfl) λD σ H hq=>?_
 obtain⟨G,env,sr,o⟩:=hq
 rw [fH] at o;split at o
 ·rename_i xs hx;obtain⟨a,vs,hs,h1,h2,h3,l⟩:=wO sr hx
  refine⟨.ref a,hs,.inl ⟨rfl,_,gz.of h1⟩,ny S sr o λq v G1 H1 g t bE o1=>?_⟩
  split at o1
  ·rename_i hl;have pF:=g.h.at h1 (λ_ z=>nomatch z)
   have tJ:=g.own a (by rw [h1];exact λz=>nomatch z) (by rw [h1];exact λ_ z=>nomatch z) h2
   have l':=aj.same g.g xs l
   refine⟨a,vs,v,rfl,rfl,pF,by rw [l.length];exact zzW hl (by decide),?_⟩;obtain⟨r2,g2⟩:=mz (p':=.lst (xs++[q])) (ob:=.lst (vs++[v])) bE bE.go hx hs tJ h3 ⟨a,_,rfl,ak,tJ,h3,l'.append (.cons (t.rep dP) .nil)⟩
   exact o1 _ G1 _ r2 g2
  ·exact o1.elim
 ·exact o.elim
theorem EU(S:eE Γ F W N sc k E X){i:Nat}{x:Str}{e:Ci.E}{p:Expr}{np apos bQ pos:Pos}(h:N[i]?=some x)(hv:fq sc x=true)(ho:okN x=true)(gC:(apos.endLine==bQ.line)=true)(he:GE X W F e p)
 (dN:∀env ps,starEach (p::ps) env=(false,eval p env)::starEach ps env):GS X W F H0 E (.oV i e) (.Expr (.Call (.Attribute (.Name x np) "extend" apos) [p] [] bQ) pos):=by
 refine L2.PS.imp (qx (sM PySem.F.plainAttrs_list PySem.F.slot_list_extend PySem.F.type_list_extend (uZ S.C.K) (iC S h hv ho) (bM he dD (dN _ _)) rfl (by rw [dN];rfl) gC (dN _ _) rfl) rfl) λD σ H hq=>?_
 obtain⟨G,env,sr,o⟩:=hq
 rw [fH] at o;split at o
 ·rename_i xs hx;obtain⟨a,vs,hs,h1,h2,h3,l⟩:=wO sr hx
  refine⟨.ref a,hs,.inl ⟨rfl,_,gz.of h1⟩,ny S sr o λq v G1 H1 g t bE o1=>?_⟩
  split at o1
  ·rename_i ys;split at o1
   ·rename_i hl;have pF:=g.h.at h1 (λ_ z=>nomatch z)
    have tJ:=g.own a (by rw [h1];exact λz=>nomatch z) (by rw [h1];exact λ_ z=>nomatch z) h2
    have l':=aj.same g.g xs l
    obtain⟨b,us,rfl,hb,lb⟩:=t.top.lst bE.sub
    refine⟨a,b,vs,us,rfl,rfl,pF,hb,by rw [l.length,lb.length];exact mU hl,?_⟩;obtain⟨r2,g2⟩:=mz (p':=.lst (xs++ys)) (ob:=.lst (vs++us)) bE bE.go hx hs tJ h3 ⟨a,_,rfl,ak,tJ,h3,l'.append lb⟩
    exact o1 _ G1 _ r2 g2
   ·exact o1.elim
  ·exact o1.elim
 ·exact o.elim
def Mb:V->V->V->Hp->(Hp->Prop)->Prop:=λo i v H Q=>∃a H',o=.ref a/\xQ H a i v H'/\Q H'
theorem v5(hu:X.A.units+1<cLine):Mr X Mb:=by
 intro aa s σ H o i v ov iv u Q I ro ri rv h;obtain⟨a,H',rfl,g,q⟩:=h
 cases ro;exact yR hu I g ri rv λs' I'=>⟨H',I',q⟩
theorem jb{env:Sl}{σ:St}{G H:Hp}{i:Nat}{ks:List (List Int)}{ps:List PV}(sr:SR W H0 env σ G H)(h:env[i]?=some (.own (.aP ks ps))):∃a us,σ[i]?=some (some (.ref a))/\ks.length=us.length/\H a=some (.dT (kz ks us))/\G a=none/\H0 a=none/\aj W G ps us:=by
 obtain⟨o,ho,v,rfl,a,us,rfl,n,h1,h2,h3,l⟩:=sr.slot i _ h
 exact⟨a,us,ho,n,h1,h2,h3,l⟩
theorem JE(S:eE Γ F W N sc k E X){i:Nat}{x:Str}{kk e:Ci.E}{pk p:Expr}{np f9 pos:Pos}(h:N[i]?=some x)(hv:fq sc x=true)(ho:okN x=true)(dP:gQ e=true)(Tv:bh Γ N sc kk pk=true)(hk:GE X W F kk pk)(he:GE X W F e p):GS X W F H0 E (.put i kk e) (.Assign [.Subscript (.Name x np) pk f9] p pos):=by
 have Ba:swappedStores [.Subscript (.Name x np) pk f9] p X.env=pure none:=by cases p<;>rfl
 have ha:∀v,assign (.Subscript (.Name x np) pk f9) X.env v=(do
  let ov<-holding [v] (eval (.Name x np) X.env)
  let iv<-holding [v,ov] (eval pk X.env)
  standAt f9
  holding [v,ov,iv] (setItem ov iv v)
  release [v,ov,iv] []):=by
  intro v;cases pk<;>first|rfl|(cases kk<;>first|(exact aA Tv)|(rename_i q;cases q<;>exact aA Tv))
 refine L2.PS.imp (AF he (A0 (iC S h hv ho) hk (v5 (by have:=S.C.room.un;omega)) ha) (by cases p<;>rfl) Ba) λD σ H hq=>?_
 obtain⟨G,env,sr,o⟩:=hq
 rw [fH] at o;refine ny S sr o λq v G1 H1 g t bE o1=>?_
 split at o1
 ·rename_i ks ps hx;obtain⟨a,us,hs,n,h1,h2,h3,l⟩:=jb bE hx
  refine⟨.ref a,hs,ny S bE o1 λq2 v2 G2 H2 g2 t2 fB o2=>?_⟩
  split at o2
  ·rename_i kk Jm;split at o2
   ·rename_i yf;have e2:=i6 Jm
    subst e2;obtain⟨b,rfl,hb⟩:=t2.top.tupI (ns:=kk) fB.sub rfl
    have pF:=g2.h.at h1 (λ_ z=>nomatch z)
    have tJ:=g2.own a (by rw [h1];exact λz=>nomatch z) (by rw [h1];exact λ_ z=>nomatch z) h2
    have l':=aj.same g2.g ps l
    refine⟨a,upd H2 a (.dT (putK (kz ks us) (ki kk) v)),rfl,xQ.t pF (by rw [rM];exact fB.sub _ _ hb) (by rw [fX n];exact zzW yf (by decide)),?_⟩;rw [uq n];obtain⟨r2,gg⟩:=mz (p':=.aP (aZ ks kk) (aY ks ps kk q)) (ob:=.dT (kz (aZ ks kk) (aY ks us kk v))) fB fB.go hx hs tJ h3 ⟨a,_,rfl,mF n kk v,ak,tJ,h3,qG l' (Rep.same g2.g q (t.rep dP))⟩
    exact o2 _ G2 _ r2 gg
   ·exact o2.elim
  ·exact o2.elim
 ·exact o1.elim
theorem Ee(S:eE Γ F W N sc k E X){i:Nat}{x:Str}{np dp pos:Pos}(h:N[i]?=some x)(hl:eJ sc x=true):GS X W F H0 E (.lD i) (.Assign [.Name x np] (.Dict [] [] dp) pos):=by
 obtain⟨a1,a2,a3⟩:=dQ S h hl
 intro aa s σ H D I hq;have Ih:i<σ.length:=by rw [I.len,S.C.hN];exact(zzH.mp h).1
 refine iK a1 a2 a3 AQ rfl (.inl (S.fn x)) aa s σ H D I ?_;obtain⟨G,env,sr,o⟩:=hq
 rw [fH] at o;intro p hp;obtain⟨r2,g2⟩:=uk (i:=i) (p:=.aP [] []) (ob:=.dT []) sr sr.go (by rw [sr.len];exact Ih) hp ⟨p,[],rfl,rfl,ak,sr.sub.free hp,sr.base.free hp,.nil⟩
 exact o _ G _ r2 g2
theorem Em(S:eE Γ F W N sc k E X){i:Nat}{x:Str}{e:Ci.E}{p:Expr}{np gp cp pos:Pos}(h:N[i]?=some x)(hl:eJ sc x=true)(hg:hZ sc "dict"=true)(hm:Γ.bs.contains "dict"=true)(he:GE X W F e p)
 (dN:∀env ps,starEach (p::ps) env=(false,eval p env)::starEach ps env):GS X W F H0 E (.pY i e) (.Assign [.Name x np] (.Call (.Name "dict" gp) [p] [] cp) pos):=by
 obtain⟨a1,a2,a3⟩:=dQ S h hl
 intro aa s σ H D I hq;have Ih:i<σ.length:=by rw [I.len,S.C.hN];exact(zzH.mp h).1
 refine iK a1 a2 a3 (eg (lH S.C.calm (by have:=S.C.room.un;omega)) (dR S.C hg) (S.C.bs _ (List.contains_iff_mem.mp hm)) (by decide+kernel) (bM he dD (dN _ _)) (he:=dN _ _) (hpl:=rfl)) rfl (.inl (S.fn x)) aa s σ H D I ?_;obtain⟨G,env,sr,o⟩:=hq
 rw [fH] at o;refine ny S sr o λq v G1 H1 g t bE o1=>?_
 cases hb:iQ [q] with
 |exc c=>exact absurd hb (rS c)
 |bad=>rw [hb] at o1;exact o1.elim
 |ok r=>
  rw [hb] at o1;obtain⟨ks,qs,rfl,a,vs,av,e1,h1,pw,zs,z1,z2,z3⟩:=rN (X:=X) S.C.K bE.sub (.cons t.top .nil) hb
  refine⟨a,vs,av,e1,h1,pw,λad hp=>?_⟩
  rw [z3];obtain⟨r2,g2⟩:=uk (i:=i) (p:=.aP ks qs) (ob:=.dT (kz ks zs)) bE bE.go (by rw [bE.len];exact Ih) hp ⟨ad,zs,rfl,z1,ak,bE.sub.free hp,bE.base.free hp,z2⟩
  exact o1 _ G1 _ r2 g2
theorem yx(S:eE Γ F W N sc k E X){i j n:Nat}{x y z:Str}{np zp f9 yp apos RL bQ pos:Pos}(h:N[i]?=some x)(hv:fq sc x=true)(ho:okN x=true)(hz:N[n]?=some z)(SH:fq sc z=true)(RY:okN z=true)(hy:N[j]?=some y)(Um:fq sc y=true)(U5:okN y=true)
 (gC:(apos.endLine==bQ.line)=true):GS X W F H0 E (.fj i j n) (.Assign [.Subscript (.Name x np) (.Name z zp) f9] (.Call (.Attribute (.Name y yp) "pop" apos) [.Name z RL] [] bQ) pos):=by
 have hu:X.A.units+1<cLine:=by have:=S.C.room.un;omega
 refine L2.PS.imp (AF (EO hu (iC S hy Um U5) (iC S hz SH RY) ⟨rfl,rfl,gC,rfl⟩) (A0 (iC S h hv ho) (iC S hz SH RY) (v5 hu) λ_=>rfl) (by unfold swapsWithSole;exact kP rfl) rfl) λD σ H hq=>?_
 obtain⟨G,env,sr,o⟩:=hq
 rw [fH] at o;split at o
 ·rename_i ks ps ks2 ps2 kp e1 e2 e3;split at o
  ·rename_i kk Jm;split at o
   ·rename_i p hp;split at o
    ·rename_i yf;have ek:=i6 Jm
     subst ek;obtain⟨a,us,hs,nn,h1,h2,h3,l⟩:=jb sr e1
     obtain⟨ok,hk1,v,rfl,rv⟩:=sr.slot n _ e3
     obtain⟨b,rfl,hb⟩:=wG rv
     obtain⟨w,hw,kw⟩:=o8 l hp
     refine⟨.ref a,hs,a,rfl,.inr ⟨_,.inl h1⟩,.ref b,hk1,_,ki kk,b,w,h1,rfl,(by rw [rM];exact sr.sub _ _ hb),(by rw [lE];exact hw),?_⟩;rw [wU kk nn];obtain⟨r1,g1⟩:=mz (p':=.aP (cb ks kk) (aW ks ps kk)) (ob:=.dT (kz (cb ks kk) (aW ks us kk))) sr sr.go e1 hs h2 h3 ⟨a,_,rfl,sI kk nn,ak,h2,h3,me l⟩
     have SI:(env.set j (.own (.aP (cb ks kk) (aW ks ps kk))))[i]?=some (.own (.aP ks2 ps2)):=by rw [zzS (Ne.symm yf.2)];exact e2
     obtain⟨a2,us2,vQ,n2,k1,k2,k3,l2⟩:=jb r1 SI
     refine⟨.ref a2,vQ,.ref b,hk1,a2,_,rfl,xQ.t k1 (by rw [rM];exact r1.sub _ _ hb) (by rw [fX n2];exact zzW yf.1 (by decide)),?_⟩;rw [uq n2];obtain⟨r2,g2⟩:=mz (p':=.aP (aZ ks2 kk) (aY ks2 ps2 kk p)) (ob:=.dT (kz (aZ ks2 kk) (aY ks2 us2 kk w))) r1 g1 SI vQ k2 k3 ⟨a2,_,rfl,mF n2 kk w,ak,k2,k3,qG l2 kw⟩
     exact o _ G _ r2 g2
    ·exact o.elim
   ·exact o.elim
  ·exact o.elim
 ·exact o.elim
theorem Ic(S:eE Γ F W N sc k E X){i:Nat}{x:Str}{e:Ci.E}{p:Expr}{np pos:Pos}(h:N[i]?=some x)(hl:eJ sc x=true)(he:GE X W F e p):GS X W F H0 E (.aug i .add e) (.AugAssign (.Name x np) .Add p pos):=by
 obtain⟨a1,a2,a3⟩:=dQ S h hl
 refine L2.PS.imp (JH a1 a2 a3 he Kq (.inl (S.fn x))) λD σ H hq=>?_
 obtain⟨G,env,sr,o⟩:=hq
 rw [fH] at o;cases r:env[i]? with
 |none=>rw [r] at o;exact o.elim
 |some sl=>
  rw [r] at o;cases sl with
  |no=>exact o.elim
  |fn _ _ _=>exact o.elim
  |own p=>exact o.elim
  |val q=>
   obtain⟨o2,hs,v,rfl,rv⟩:=sr.slot i _ r
   refine⟨v,hs,?_⟩;have o':bL W H0 G E ((aK F e env).bind λy=>(match q,y with|.int _,.int _=>binOp .add q y|_,_=>.bad).bind λp=>.ok (.nx (env.set i (.val p)))) D:=o
   refine ny S sr o' λy u G1 H1 g t bE o1=>?_
   cases q<;>cases y<;>first|(exact False.elim o1)|skip
   rename_i m n;simp only [Rep] at rv;subst rv;exact⟨m,n,rfl,t.top.int,o1 _ G1 H1 (bE.set i .i) bE.go⟩
end
end Ci
namespace L2
open PySem PySem.Spec PyProof.Rows
end L2
namespace Ci
open PySem L2
theorem oR:∀(cs:List Int) (all:List Int) (j b:Nat) (m:Int),all.drop j=cs->all[b]?=some m->b<j->(∀i c,all[i]?=some c->i<j->m<=c/\(i<b->m<c))->
 ∃m',all[fc cs j b m]?=some m'/\∀i c,all[i]?=some c->m'<=c/\(i<fc cs j b m->m'<c)
 |[],all,j,b,m,hd,hb,_,best=>by
  unfold fc;have hl:all.length<=j:=List.drop_eq_nil_iff.mp hd
  exact⟨m,hb,λi c e=>best i c e (zzW (zzH.mp e).1 hl)⟩
 |x::cs,all,j,b,m,hd,hb,hbj,best=>by
  have hx:all[j]?=some x:=by rw [<-List.head?_drop,hd];rfl
  have vh:all.drop (j+1)=cs:=by rw [<-List.drop_drop,hd];rfl
  unfold fc;split
  ·rename_i cg;refine oR cs all (j+1) j x vh hx (by omega) λi c e hi=>?_
   by_cases h:i=j
   ·subst h;rw [hx] at e;cases e;exact⟨Int.le_refl _,λz=>absurd z (Nat.lt_irrefl _)⟩
   ·have:=best i c e (by omega)
    exact⟨by omega,λ_=>by omega⟩
  ·rename_i cg;refine oR cs all (j+1) b m vh hb (by omega) λi c e hi=>?_
   by_cases h:i=j
   ·subst h;rw [hx] at e;cases e;exact⟨by omega,λz=>by omega⟩
   ·exact best i c e (by omega)
theorem FY{cs:List Int}{x:Nat}(h:CI cs=some x):∃m,cs[x]?=some m/\∀i c,cs[i]?=some c->m<=c/\(i<x->m<c):=by
 cases cs with
 |nil=>cases h
 |cons c cs=>
  cases h;refine oR cs (c::cs) 1 0 c rfl rfl (by omega) λi d e hi=>?_
  have:i=0:=by omega
  subst this;cases e;exact⟨Int.le_refl _,λz=>absurd z (Nat.not_lt_zero _)⟩
theorem oF{W:Wd}{G H:Hp}{K:PySem.W.Frag}(hK:W.K=K)(sg:aC G H):∀{ps:List PV} {us:List V} {cs:List Int},iI ps=some cs->aj W G ps us->cs.length=ps.length/\∀(i:Nat) v,us[i]?=some v->∃q r,v=V.ref q/\f6 K H q (.int (cs.getD i 0)::r)
 |[],_,_,e,l=>by cases e;simp only [aj] at l;subst l;exact⟨rfl,λi v h=>by simp at h⟩
 |p::ps,us,cs,e,l=>by
  obtain⟨u,ur,rfl,h1,h2⟩:=l.br
  unfold iI at e;split at e
  ·rename_i heq;cases heq
  ·rename_i heq;cases heq;obtain⟨r,hr,rfl⟩:=zzJ.mp e
   obtain⟨i1,i2⟩:=oF hK sg hr h2
   refine⟨by simp [i1],λi v hv=>?_⟩
   cases i with
   |zero=>
    cases hv;simp only [Rep] at h1;obtain⟨q,ws,rfl,tq,lq⟩:=h1
    obtain⟨w,wr,rfl,k1,lq⟩:=lq.br
    simp only [Rep] at k1;subst k1;exact⟨q,wr,rfl,by rw [<-hK];simpa using aC.tup sg tq.sq⟩
   |succ i=>simpa using i2 i v (by simpa using hv)
  ·cases e
section
variable{Γ:Pg}{X:Cx}{W:Wd}{F:aN}{N:List Str}{sc:Scope}{k:Nat}{H0:Hp}{E:XK}
theorem Fg(S:eE Γ F W N sc k E X){m i:Nat}{x y:Str}{params:Arguments}{body:Expr}{scope:Scope}{yp q1 q2 q3 q4 q5 pos:Pos}(h1:N[m]?=some y)(h2:eJ sc y=true)(h3:N[i]?=some x)(h4:sc.names.lookup x=some .cell)(h5:hZ sc "min"=true)(h6:Γ.bs.contains "min"=true)(h7:Γ.hl=true)
 (h8:wF x params body scope=true):GS X W F H0 E (.nD m i) (.Assign [.Name y yp] (.Call (.Name "min" q1) [.Name x q2] [⟨some "key",.Lambda params body scope q3,q4⟩] q5) pos):=by
 obtain⟨a1,a2,a3⟩:=dQ S h1 h2
 obtain⟨p,ep,L,hfr,hox⟩:=AO h8
 have pe:PE X (.Call (.Name "min" q1) [.Name x q2] [⟨some "key",.Lambda params body scope q3,q4⟩] q5) (λσ H Q=>∃G env ks ps cs ix kk,SR W H0 env σ G H/\env[i]?=some (.own (.aP ks ps))/\iI ps=some cs/\CI cs=some ix/\ks[ix]?=some kk/\∀v G' H',aE W G H G' H'->Rep W G' (af kk) v->Q v H'):=by
  intro aa s σ H Q I hq;obtain⟨G,env,ks,ps,cs,ix,kk,sr,e1,e2,e3,e4,q⟩:=hq
  obtain⟨d,us,hs,n,k1,k2,k3,l⟩:=jb sr e1
  obtain⟨c,dO⟩:=I.ok.has x (.inl (by show X.env.scope.names.lookup x=_;rw [S.C.d9];exact h4))
  have GC:closureFor scope X.env=pure [(x,c)]:=by
   rw [iA λy hy hf=>?_]
   ·show pure (bP X.env (bp scope))=_
    rw [hfr];simp [bP,dO]
   ·have:y.1∈bp scope:=by
     unfold bp;rw [List.mem_reverse,List.mem_map];exact⟨y,List.mem_filter.mpr ⟨hy,by rw [hf];rfl⟩,rfl⟩
    rw [hfr] at this;rw [zzi.mp this];exact⟨c,dO⟩
  refine wpAny_Call_Name_kw (fQ I (dR S.C h5) (S.C.bs _ (List.contains_iff_mem.mp h6)) (u:=.builtin "min") (by decide+kernel) ?_);refine PyProof.Rows.callWith_kw ?_;refine Calls.spliced_cons (bR (fh (i:=i) (by rw [S.C.hN];exact h3) (.inr (.inl (by show X.env.scope.names.lookup x=_;rw [S.C.d9];exact h4))) (c8 hox).1 (c8 hox).2.1 aa s σ H (λv' H1=>v'=.ref d/\H1=H) I ⟨_,hs,rfl,rfl⟩) λu s1 hu=>Calls.spliced_nil ?_)
  obtain⟨v',H1,I1,ru,rfl,rfl⟩:=hu
  cases ru;refine PyProof.Rows.kws_cons (bR (An S.C h7 ep GC aa s1 σ H1 (λv2 H2=>∃f G2,v2=.ref f/\pK X W params body scope [(x,c)] G H1 G2 H2 f) I1 ⟨G,sr.sub,sr.tab,λf G2 H2 lm=>⟨f,G2,rfl,lm⟩⟩) λu s2 hu=>PyProof.Rows.kws_nil ?_)
  obtain⟨v2,H2,I2,ru,f,G2,rfl,g2,c',oc,dm,t,fN,pm,fo,co,cd,cn⟩:=hu
  cases ru;have fB:=sr.grow g2
  obtain⟨d',us',yi,n',k1',k2',k3',l'⟩:=jb fB e1
  rw [hs] at yi;cases yi;obtain⟨cl1,cl2⟩:=oF (K:=X.K) S.C.K fB.sub e2 l'
  have M:KM X σ H2 k d f (kz ks us') (λi=>cs.getD i 0):=by
   refine⟨S.C.room,k1',⟨p,x,params,body,scope,_,c,c',oc,dm,t,pm,fN,i,L,dO,I.ok.Gw x c (S.C.fl h7 x) dO,fB.sub _ _ fo,fB.sub _ _ co,cd,cn,λu=>vS ep [u] rfl,by rw [S.C.hN];exact h3,hs,by rw [S.C.d9];exact h4⟩,λj kx v e=>?_⟩
   have:us'[j]?=some v:=by
    unfold kz at e;rw [List.getElem?_zip_eq_some] at e;exact e.2
   exact cl2 j v this
  obtain⟨mm,M6,NQ⟩:=FY e3
  have QF:ix<ks.length:=(zzH.mp e4).1
  have Ux:cs.length=ks.length:=by rw [cl1,<-l'.length,n']
  refine xC M (by rw [fX n'];omega) I2 λj kx v b e hb best=>?_
  rw [fX n'] at best;have hj:j<ks.length:=by
   have:=(zzH.mp e).1
   rw [fX n'] at this;exact this
  have ej:j=ix:=by
   have ca:∀a,a<cs.length->cs[a]?=some (cs.getD a 0):=λa ha=>by simp [ha]
   have b1:=best ix QF
   have b2:=NQ j _ (ca j (by omega))
   have em:mm=cs.getD ix 0:=by rw [ca ix (by omega)] at M6;exact(Option.some.inj M6).symm
   rw [em] at b2;rcases Nat.lt_trichotomy j ix with z|z|z
   ·have:=b2.2 z;have:=b1.1;omega
   ·exact z
   ·have:=b1.2 z;have:=b2.1;omega
  subst ej;have ek:kx=ki kk:=by
   have:=congrArg (λl=>l[j]?) (oX (us:=us') n')
   simp only [zzQ,e,e4,Option.map_some] at this;exact Option.some.inj this
  rw [ek,rM] at hb;obtain⟨G3,g3,l3⟩:=hJ (W:=W) (vs:=[.ref b]) (nss:=[kk]) fB.sub (.cons ⟨b,rfl,hb⟩ .nil)
  obtain⟨w,r,ew,hw,_⟩:=l3.br
  cases ew;exact q _ _ _ (g2.trans g3) hw
 refine L2.PS.imp (iK a1 a2 a3 pe rfl (.inl (S.fn y))) λD σ H hq=>?_
 obtain⟨G,env,sr,o⟩:=hq
 rw [fH] at o;split at o
 ·rename_i ks ps hx;split at o
  ·rename_i cs GL;split at o
   ·rename_i kk Jm;obtain⟨ix,Gq,hk2⟩:=zzZ.mp Jm
    exact⟨G,env,ks,ps,cs,ix,kk,sr,hx,GL,Gq,hk2,λv G' H' g' rp=>o _ G' _ ((sr.grow g').set m rp) (sr.on g')⟩
   ·exact o.elim
  ·exact o.elim
 ·exact o.elim
end
section
variable{Γ:Pg}{X:Cx}{W:Wd}{F:aN}{N:List Str}{sc:Scope}{k:Nat}{H0:Hp}{E:XK}
def iH(X:Cx)(E:XK)(σ:St):Prop:=∀(aa:List (Addr×Obj)) (H:Hp) (s:Shared) (e:Value) (s':Shared),Inv X aa σ H s->dZ X.prog X.w X.stack H s E e s'->X.xe e s'
theorem En{σ:St}(S:iH X E σ){c:Str}{Gs G H:Hp}(g:aE W Gs H0 G H)(h:∀Cv ao H',XE W c Gs H0 Cv ao H'->E Cv ao H'):sP X W σ c G H:=λaa G1 H1 s1 e s' I g1 x=>
 S aa H1 s1 e s' I (AR.imp x λCv a H' y=>h Cv a H' (by
  obtain⟨C,a',G',e1,e2,e3,e4,g2⟩:=y
  have g3:=g1.trans g2
  exact⟨C,a',G',e1,e2,e3,e4,g.g.trans g3.g,g.h.trans g3.h,g3.sub,λx h1 h3 h2=>g3.own x (λz=>h1 (g.h.free z)) (g.h.so h1 h3) (g.own x h1 h3 h2),λt=>g3.tab (g.tab t)⟩))
theorem bL.Co{α:Type}{σ:St}(S:iH X E σ){r:Res α}{f:α->Res Fl}{D:Ends}{env:Sl}{G H:Hp}(sr:SR W H0 env σ G H)(h:bL W H0 G E (r.bind f) D):Out X W r σ G H λa=>bL W H0 G E (f a) D:=by
 cases r with
 |ok a=>exact h
 |exc c=>exact En S sr.go h
 |bad=>exact h
theorem oneAt{σ:St}(S:iH X E σ){env:Sl}{G H:Hp}{e:Ci.E}{f:PV->Res Fl}{D:Ends}{Q:VK}(sr:SR W H0 env σ G H)(o:bL W H0 G E ((aK F e env).bind f) D)
 (h:∀p v G1 H1,aE W G H G1 H1->Got W H0 G1 H1 e p v->SR W H0 env σ G1 H1->bL W H0 G1 E (f p) D->Q v H1):tE X W F e σ H Q:=
 ⟨H0,G,env,sr,(o.Co S sr).imp λp hp v G1 H1 g1 t=>h p v G1 H1 g1 t (sr.grow g1) (hp.on (sr.on g1))⟩
theorem JS{σ:St}(S:iH X E σ){env:Sl}{G H:Hp}{e:Ci.E}{f:Bool->Res Fl}{D:Ends}{Q:Bool->Hp->Prop}(sr:SR W H0 env σ G H)(o:bL W H0 G E ((aK F e env).bind λp=>sJ p f) D)
 (h:∀b G1 H1,aE W G H G1 H1->SR W H0 env σ G1 H1->bL W H0 G1 E (f b) D->Q b H1):tT X W F e σ H Q:=by
 refine⟨H0,G,env,sr,(o.Co S sr).imp λp hp=>?_⟩
 cases p with
 |bl b=>exact⟨b,rfl,λG1 H1 g1=>h b G1 H1 g1 (sr.grow g1) (bL.on hp (sr.on g1))⟩
 |az=>exact False.elim hp
 |int _=>exact False.elim hp
 |str _=>exact False.elim hp
 |tup _=>exact False.elim hp
 |lst _=>exact False.elim hp
 |exc _=>exact False.elim hp
 |aP _ _=>exact False.elim hp
theorem zQ{s:Ci.S}{env:Sl}:aF F (.cons s .nil) env=fH F s env:=by
 rw [aF];cases fH F s env with
 |ok f=>
  cases f with
  |nx e=>show aF F .nil e=_;rw [aF]
  |bk e=>rfl
  |ct e=>rfl
  |rt p=>rfl
 |exc c=>rfl
 |bad=>rfl
theorem Fc{e:Ci.E}{p:Expr}(h:bh Γ N sc e p=true)(hf:fU e=false):mQ p=true:=by
 cases p<;>first|rfl|(cases e<;>first|(exact aA h)|(rename_i q;cases q<;>exact aA h)|(cases hf;done))
abbrev Tx(σ0:St)(t:TS):TS:=λD σ H=>σ=σ0/\t D σ H
mutual
theorem Vt{σ0:St}(C:dH Γ F W N sc k X)(fn:∀x,X.fn x=true)(hp:iH X E σ0):∀(s:Ci.S) (p:Stmt),Ax Γ N sc s p=true->PS X p (Tx σ0 (tS W F H0 E s))
 |.set i e,p,h=>by
  cases p<;>first|(exact aA h)|skip
  replace h:=ah h
  simp only [zza,beq_iff_eq,Bool.not_eq_true'] at h;obtain⟨x,h0,⟨⟨⟨h1,h2⟩,h3⟩,h4⟩,h5⟩:=h
  obtain⟨xp,rfl⟩:=j2 h0
  refine L2.PS.imp (iK (by rw [C.hN];exact C.nd) (by rw [C.hN];exact h1) (uf C.d9 h2) (bx e C _ h5).ge (kP (Fc h5 h4)) (.inl (fn x))) λD σ H q=>?_
  obtain⟨rfl,G,env,sr,o⟩:=q
  rw [fH] at o;exact oneAt hp sr o λq v G1 H1 g t bE o1=>o1 _ G1 H1 (bE.set i (t.rep h3)) bE.go
 |.ret e,p,h=>by
  cases p<;>first|(exact aA h)|skip
  rename_i v pos;cases v with
  |none=>exact aA h
  |some v=>
   replace h:=ax h
   refine L2.PS.imp (BI (bx e C v h.2).ge) λD σ H q=>?_
   obtain⟨rfl,G,env,sr,o⟩:=q
   rw [fH] at o;exact oneAt hp sr o λq v G1 H1 g t bE o1=>o1 v G1 H1 (t.rep h.1) bE.go
 |.ite c a b,p,h=>by
  cases p<;>first|(exact aA h)|skip
  replace h:=ax h
  simp only [zza] at h;obtain⟨⟨⟨h1,h2⟩,h3⟩,h4⟩:=h
  refine L2.PS.imp (Gz ((bx c C _ h2).gt h1) (O8 C fn hp a _ h3) (O8 C fn hp b _ h4)) λD σ H q=>?_
  obtain⟨rfl,G,env,sr,o⟩:=q
  rw [fH] at o;refine JS hp sr o λt G1 H1 g bE o1=>?_
  cases t with
  |true=>
   rw [if_pos rfl] at o1⊢;exact⟨rfl,G1,env,bE,o1⟩
  |false=>
   rw [if_neg zzf] at o1⊢;exact⟨rfl,G1,env,bE,o1⟩
 |.expr _,_,h=>aA h
 |.own _ _,_,h=>aA h
 |.bF _,_,h=>aA h
 |.app _ _,_,h=>aA h
 |.oV _ _,_,h=>aA h
 |.put _ _ _,_,h=>aA h
 |.aug _ _ _,_,h=>aA h
 |.di _ _ _,_,h=>aA h
 |.xo _ _,_,h=>aA h
 |.raise _ _,_,h=>aA h
 |.vi _ _ _ _,_,h=>aA h
 |.lD _,_,h=>aA h
 |.pY _ _,_,h=>aA h
 |.fj _ _ _,_,h=>aA h
 |.nD _ _,_,h=>aA h
theorem O8{σ0:St}(C:dH Γ F W N sc k X)(fn:∀x,X.fn x=true)(hp:iH X E σ0):∀(ss:Ss) (ps:List Stmt),E6 Γ N sc ss ps=true->qJ X ps (Tx σ0 (Q7 W F H0 E ss))
 |.nil,ps,h=>aA h
 |.cons s (.cons _ _),ps,h=>aA h
 |.cons s .nil,ps,h=>by
  match ps,h with
  |[],h=>exact aA h
  |_::_::_,h=>exact aA h
  |[p],h=>
   have h:Ax Γ N sc s p=true:=h
   refine L2.qJ.imp (vG (Vt C fn hp s p h)) λD σ H q=>?_
   obtain⟨e,G,env,sr,o⟩:=q
   rw [zQ] at o;exact⟨e,G,env,sr,o⟩
end
theorem dH.with1(C:dH Γ F W N sc k X)(pn:List (Addr×Obj))(xe:Value->Shared->Prop):dH Γ F W N sc k (X.with1 pn xe):=
 ⟨C.hN,C.d9,C.calm,C.nd,C.K,C.mg,C.gs,C.bs,C.room,λf h=>⟨(C.fns f h).ex⟩,C.LI,C.cls,C.xc,λq h=>⟨(C.sU q h).ex⟩,C.any,C.tb,C.bm,C.fl⟩
theorem SR.vals{env:Sl}{σ:St}{G H G' H':Hp}(r:SR W H0 env σ G H)(hn:env.any Slot.mn=false)(g:aE W G H0 G' H'):SR W H0 env σ G' H':=by
 have no:∀(i:Nat) (p:PV),env[i]?≠some (.own p):=λi p e=>by
  have:env.any Slot.mn=true:=zzj.mpr ⟨_,zzD e,rfl⟩
  rw [this] at hn;cases hn
 refine⟨r.len,g.sub,g.h,λi s e=>?_,λi j p q a e=>absurd e (no i p),g.tab r.i8,r.i8.same g.g g.own λ_ _ h=>h⟩
 obtain⟨o,h1,h2⟩:=r.slot i s e
 refine⟨o,h1,?_⟩;cases s with
 |no=>exact trivial
 |val q=>
  obtain⟨v,rfl,rv⟩:=h2
  exact⟨v,rfl,Rep.same g.g q rv⟩
 |own q=>exact absurd e (no i q)
 |fn _ _ _=>
  obtain⟨v,rfl,rv⟩:=h2
  exact⟨v,rfl,rv.same g.g⟩
theorem SR.drop{env:Sl}{σ:St}{G H:Hp}(i:Nat)(r:SR W H0 env σ G H):SR W H0 (env.set i .no) (σ.set i none) G H where
 len:=by simpa using r.len
 sub:=r.sub
 tab:=r.tab
 i8:=r.i8
 base:=r.base
 slot:=λj s e=>by
  by_cases hj:i=j
  ·subst hj;have cg:i<env.length:=by
    have:=(zzH.mp e).1
    simpa using this
   rw [List.getElem?_set_self cg] at e;cases e;exact⟨none,List.getElem?_set_self (by rw [<-r.len];exact cg),trivial⟩
  ·rw [zzS hj] at e;obtain⟨o,h1,h2⟩:=r.slot j s e
   exact⟨o,by rw [zzS hj];exact h1,h2⟩
 apart:=λa b q q' ad e1 e2 e3 e4=>by
  have ne:∀{c:Nat} {q:PV},(env.set i .no)[c]?=some (.own q)->i≠c:=λ{c q} e z=>by
   subst z;have cg:i<env.length:=by
    have:=(zzH.mp e).1
    simpa using this
   rw [List.getElem?_set_self cg] at e;cases e
  have n1:=ne e1
  have n2:=ne e2
  rw [zzS n1] at e1 e3;rw [zzS n2] at e2 e4;exact r.apart a b q q' ad e1 e2 e3 e4
theorem aC.put{G G':Hp}{a:Addr}{o:HO}(h:aC G G')(ha:G a=none):aC G (upd G' a o):=λb u e=>by
 rw [ae (λz=>by subst z;rw [ha] at e;cases e)];exact h b u e
theorem JB(S:eE Γ F W N sc k E X)(b:Ss)(c:Str)(i j:Nat)(p:Stmt)(h:eV Γ N sc (.vi b c i j) p=true):GS X W F H0 E (.vi b c i j) p:=by
 cases p<;>first|(exact aA h)|skip
 rename_i pb hs o1 o2 pos;replace h:=ax h
 simp only [zza,Option.any_eq_true,beq_iff_eq] at h;obtain⟨⟨⟨z1,z2⟩,hb⟩,⟨x,n,y⟩,hh,⟨⟨⟨⟨⟨⟨⟨⟨e1,e2⟩,e3⟩,e4⟩,e5⟩,e6⟩,e7⟩,e8⟩,e9⟩,OX⟩:=h
 cases List.isEmpty_iff.mp z1;cases List.isEmpty_iff.mp z2;obtain⟨np,yp,n2p,ap,hpos,rfl⟩:=Lm hh
 dsimp only at e1 e2 e3 e4 e5 e6 e7 e8 e9 OX;subst e1;subst e3;have GL:Γ.cs.contains "FloorError"=true:=e2
 obtain⟨Dc,hm⟩:=S.C.cls _ (List.contains_iff_mem.mp GL)
 have hN:X.N.Nodup:=by rw [S.C.hN];exact S.C.nd
 have hi:X.N[i]?=some n:=by rw [S.C.hN];exact e6
 have hj:X.N[j]?=some y:=by rw [S.C.hN];exact e9
 have JZ:X.env.scope.names.lookup n=some .local:=by rw [S.C.d9];exact e7
 have S8:X.env.scope.names.lookup y=some .local:=by rw [S.C.d9];exact OX
 intro aa s σ H D I hq;obtain⟨G,env,sr,o⟩:=hq
 rw [fH] at o;cases hn:env.any Slot.mn with
 |true=>rw [if_pos hn] at o;exact o.elim
 |false=>
 rw [if_neg (by rw [hn];exact zzf)] at o
 let E1:XK:=λCv ao H'=>∃d,aF F b env=.exc d/\XE W d G H0 Cv ao H'
 let xe:Value->Shared->Prop:=λe s'=>∃H1 s1,Inv X aa σ H1 s1/\dZ X.prog X.w X.stack H1 s1 E1 e s'
 have hP:iH (X.with1 (X.pn++aa) xe) E1 σ:=λi5 H1 s1 e s' I1 c=>⟨H1,s1,I1.iV I.ok,c⟩
 have ob:bL W H0 G E1 (aF F b env) D:=by
  cases r:aF F b env with
  |ok f=>rw [r] at o;exact o
  |exc d=>exact λCv ao H' x=>⟨d,r,x⟩
  |bad=>rw [r] at o;exact o
 refine wpAny_Try_except (wpAny_mono (O8 (H0:=H0) (S.C.with1 (X.pn++aa) xe) S.fn hP b pb hb [] s σ H D I.with1 ⟨rfl,G,env,sr,ob⟩) (λf s1 hf=>?_) λe s1 hx=>?_)
 ·cases f with
  |next=>
   obtain⟨σ',H',I',q⟩:=hf
   exact w8 aa s1 σ' H' D (I'.iV I.ok) q
  |brk=>
   obtain⟨σ',H',I',q⟩:=hf
   exact⟨σ',H',I'.iV I.ok,q⟩
  |cont=>
   obtain⟨σ',H',I',q⟩:=hf
   exact⟨σ',H',I'.iV I.ok,q⟩
  |ret u=>
   obtain⟨v,σ',H',I',r,q⟩:=hf
   exact⟨v,σ',H',I'.iV I.ok,r,q⟩
 ·obtain⟨H1,s2,I1,a,C,t,vs,H',B,rfl,Fy⟩:=hx
  have C7:=Fy.yO
  rw [S.Ak] at C7;refine wpAny_looks_onW (by rw [<-S.Ak];exact I1.ok.frames) S.frame C7 λh4 NN Sq=>?_
  refine wpAny_landsW NN λh5 Hm Ry=>?_
  have Q6:=Hm
  rw [<-S.Ak] at Q6;have I5:=I1.CA (tk:=s1.toks) Fy Q6 (Sq.trans Ry)
  obtain⟨oa,va,ea,ca,da,_⟩:=Q6.first
  obtain⟨d,ed,C',a',G',q1,q2,hdx,hdm,gr⟩:=Fy.ends
  cases q1;cases q2;have hx:PySem.W.exmOne X.K (.ref C) (.ref Dc)=some true:=S.MP GL d C hdx (by rw [<-S.C.mg];exact hdm) Dc hm
  refine wpAny_handleBy_cons (codeAny_handlers_test (fR (X:=X.marked a (X.pn++aa)) I5.mark (dR S.C e4) hm ?_ (c8 e5).1)) (by intro q;cases q);have LT:PySem.W.Looks (model X.prog X.w) h5 (typeOf (.ref a)) (.ref C):=by
   rw [<-ca];exact(PySem.W.Looks.ld ea).andThen .now
  refine PySem.W.exm_one (K:=X.K) I5.oD LT hx _ _ _ _ (λ_ _ e=>e) ?_;refine codeAny_handlers_suite_as ?_;refine PyProof.Rows.lands_againW Hm λh6 RO U4=>?_
  rw [<-S.Ak] at RO;have I6:=I1.CA (tk:=s1.toks) Fy RO ((Sq.trans Ry).trans U4)
  have ha:H' a=none:=Fy.fresh
  have RF:G' a=none:=gr.sub.free ha
  have yS:H0 a=none:=gr.h.free ha
  have hG:G a=none:=gr.g.free RF
  have Th:aE W G H0 (upd G' a (iS a C)) (upd H' a (iS a C)):=⟨aC.put gr.g hG,gr.h.upd yS,(λq u e=>by
   by_cases hq:q=a
   ·subst hq;rw [ak] at e⊢;exact e
   ·rw [ae hq] at e⊢;exact gr.sub q u e),(λq w1 w3 w2=>by
   rw [ae (λz=>by subst z;exact w1 yS)];exact gr.own q w1 w3 w2),λtt=>(gr.tab tt).same (bD RF) (λq w1 _ w2=>by
   rw [ae (λz=>by subst z;exact w1 ha)];exact w2) (kQ (λps z=>by rw [ha] at z;cases z))⟩
  have rp:Rep W (upd G' a (iS a C)) (.exc d) (.ref a):=by
   simp only [Rep];exact⟨a,C,rfl,hdx,hdm,ak⟩
  have fB:SR W H0 ((env.set j (.val (.exc d))).set i .no) (((σ.set i (some (.ref a))).set j (some (.ref a))).set i none) (upd G' a (iS a C)) (upd H' a (iS a C)):=by
   have z:=(((sr.vals hn Th).set i rp).set j rp).drop i
   have eq:((env.set i (.val (.exc d))).set j (.val (.exc d))).set i .no=(env.set j (.val (.exc d))).set i .no:=by
    by_cases Lw:i=j
    ·subst Lw;rw [List.set_set]
    ·rw [List.set_comm _ _ Lw,List.set_set]
   rw [eq] at z;exact z
  have fin:D.nx (((σ.set i (some (.ref a))).set j (some (.ref a))).set i none) (upd H' a (iS a C)):=by
   rw [ed] at o;exact o _ _ _ fB Th
  have Ih:i<σ.length:=by rw [I1.len];exact(zzH.mp hi).1
  refine jk (X:=X.marked a (X.pn++aa)) (i:=i) (v:=.ref a) I6.mark hN hi (.inl JZ) rfl (λs7 I7=>?_) (.inr JZ);have hs:qJ (X.marked a (X.pn++aa)) [.Assign [.Name y yp] (.Name n n2p) ap] (Cp (xV i) (dz j)):=vG (iK (X:=X.marked a (X.pn++aa)) hN hj (.inl S8) (fh hi (.inl JZ) (c8 e8).1 (c8 e8).2.1) rfl (.inr S8))
  refine wpAny_mono (hs [] s7 _ _ {nx:=λσ2 H2=>D.nx (σ2.set i none) H2,rt:=λv H2=>D.rt v H2,bk:=λσ2 H2=>D.bk (σ2.set i none) H2,ct:=λσ2 H2=>D.ct (σ2.set i none) H2} I7 ?hq) (λf s8 hf=>?_) λ_ _ z=>z.elim
  case hq=>exact⟨.ref a,List.getElem?_set_self Ih,fin⟩
  cases f with
  |next=>
   obtain⟨σ8,H8,I8,q8⟩:=hf
   exact kS (I8.unmark I.ok) hN hi JZ λs9 I9=>⟨_,H8,I9,q8⟩
  |brk=>
   obtain⟨σ8,H8,I8,q8⟩:=hf
   exact kS (I8.unmark I.ok) hN hi JZ λs9 I9=>⟨_,H8,I9,q8⟩
  |cont=>
   obtain⟨σ8,H8,I8,q8⟩:=hf
   exact kS (I8.unmark I.ok) hN hi JZ λs9 I9=>⟨_,H8,I9,q8⟩
  |ret u=>
   obtain⟨v,σ8,H8,I8,r8,q8⟩:=hf
   exact kS (I8.unmark I.ok) hN hi JZ λs9 I9=>⟨v,_,H8,I9,r8,q8⟩
end
section
variable{Γ:Pg}{X:Cx}{W:Wd}{F:aN}{N:List Str}{sc:Scope}{k:Nat}{H0:Hp}{E:XK}
theorem sj{e:Ci.E}(h:fU e=true):∀env q,aK F e env=.ok q->∃xs,q=.lst xs:=by
 cases e<;>first|(exact aA h)|exact lst_is|exact wV|exact oJ
theorem nV(S:eE Γ F W N sc k E X){i:Nat}{x:Str}{xp pos:Pos}(hx:N[i]?=some x)(Dr:eJ sc x=true)(e:Ci.E)(p:Expr)(hf:fU e=true)(h:bh Γ N sc e p=true):PS X (.Assign [.Name x xp] p pos) (Lo X W F i e):=by
 cases e with
 |lst as=>
  obtain⟨ps,e,h1⟩:=ah h
  obtain⟨_,rfl⟩:=AV e
  have h2:=ax h1
  have h0:=ax h2.1
  exact qe S hx Dr (zD h0.1 (zzY h0.2) (ke as S.C _ h2.2)) rfl
 |comp kk bf tg it elt=>
  obtain⟨ff,gens,scope,_,rfl,h1⟩:=Oo h
  obtain⟨⟨dj,gv,ifs,asy⟩,z2,h2⟩:=mw h1
  have h3:=ax h2
  have z3:=Dw h3.1
  dsimp only at z2 z3;subst z2 z3
  clear h h1 h2
  have h:=ax h3.2
  clear h3
  simp only [zza] at h;obtain⟨⟨⟨⟨⟨⟨h1,h2⟩,h3⟩,h4⟩,h5⟩,h6⟩,iL⟩:=h
  have iL:=zzY iL
  subst iL;exact BN S hx Dr (iU h1) h2 h3 (Cq it S.C dj gv h4) (jn h4 _) h5 λY CY=>(bx elt CY ff h6).ge
 |cQ kk bf tg it c elt=>
  obtain⟨ff,gens,scope,_,rfl,h1⟩:=Oo h
  obtain⟨⟨dj,gv,ifs,asy⟩,z2,h2⟩:=mw h1
  obtain⟨pc,z3,h3⟩:=mw h2
  dsimp only at z2 z3;subst z2 z3
  clear h h1 h2
  have h:=ax h3
  clear h3
  simp only [zza] at h;obtain⟨⟨⟨⟨⟨⟨⟨⟨h0,h1⟩,h2⟩,h3⟩,h4⟩,h5⟩,h6⟩,h7⟩,iL⟩:=h
  have iL:=zzY iL
  subst iL;exact tR S hx Dr (iU h1) h2 h3 (Cq it S.C dj gv h4) (jn h4 _) h5 (λY CY=>(bx c CY pc h6).gt h0) λY CY=>(bx elt CY ff h7).ge
 |_=>exact aA hf
theorem ze{e:Ci.E}{p:Expr}(h:bh Γ N sc e p=true)(hf:fU e=false):mQ p=true:=by
 cases p<;>first|rfl|(cases e<;>first|(exact aA h)|(rename_i q;cases q<;>exact aA h)|(cases hf;done))
theorem yd(S:eE Γ F W N sc k E X){i:Nat}{x:Str}{e:Ci.E}{p:Expr}{xp pos:Pos}(h:N[i]?=some x)(hl:eJ sc x=true)(dP:gQ e=true)(hc:bh Γ N sc e p=true):GS X W F H0 E (.set i e) (.Assign [.Name x xp] p pos):=by
 cases hf:fU e with
 |true=>exact E9 S (sj hf) dP (nV S h hl e p hf hc)
 |false=>exact JT S h hl dP (bx e S.C p hc).ge (kP (ze hc hf))
theorem Ck(S:eE Γ F W N sc k E X)(e:Ci.E)(p:Stmt)(h:eV Γ N sc (.expr e) p=true):GS X W F H0 E (.expr e) p:=by
 cases p<;>first|(exact aA h)|skip
 replace h:=ax h
 try simp only [zza] at h
 exact EF S (bx e S.C _ h.2).ge h.1
theorem DA(S:eE Γ F W N sc k E X)(i:Nat)(e:Ci.E)(p:Stmt)(h:eV Γ N sc (.set i e) p=true):GS X W F H0 E (.set i e) p:=by
 cases p<;>first|(exact aA h)|skip
 replace h:=ah h
 simp only [Option.any_eq_true,zza,beq_iff_eq] at h;obtain⟨x,h0,h1⟩:=h
 obtain⟨xp,rfl⟩:=j2 h0
 exact yd S h1.1.1.1 h1.1.1.2 h1.1.2 h1.2
theorem FD(S:eE Γ F W N sc k E X)(i:Nat)(e:Ci.E)(p:Stmt)(h:eV Γ N sc (.own i e) p=true):GS X W F H0 E (.own i e) p:=by
 cases p<;>first|(exact aA h)|skip
 replace h:=ah h
 simp only [Option.any_eq_true,zza,beq_iff_eq] at h;obtain⟨x,h0,h⟩:=h
 obtain⟨xp,rfl⟩:=j2 h0
 exact FQ S h.1.1.1 (sj h.1.2) (nV S h.1.1.1 h.1.1.2 e _ h.1.2 h.2)
theorem DZ(S:eE Γ F W N sc k E X)(i:Nat)(p:Stmt)(h:eV Γ N sc (.bF i) p=true):GS X W F H0 E (.bF i) p:=by
 cases p<;>exact aA h
theorem Eb(S:eE Γ F W N sc k E X)(i:Nat)(e:Ci.E)(p:Stmt)(h:eV Γ N sc (.app i e) p=true):GS X W F H0 E (.app i e) p:=by
 cases p<;>first|(exact aA h)|skip
 replace h:=ah h
 simp only [Option.any_eq_true,zza,beq_iff_eq] at h;obtain⟨⟨x,m,args⟩,h0,⟨⟨⟨⟨h1,h2⟩,h3⟩,h4⟩,h5⟩,q,h6,h7⟩:=h
 obtain⟨np,apos,bQ,rfl,hl⟩:=ue h0
 cases dM h6;cases h4;exact HQ S h1 h2 h3 hl h5 (bx e S.C q h7).ge (notStar h7)
theorem Aa(S:eE Γ F W N sc k E X)(i:Nat)(e:Ci.E)(p:Stmt)(h:eV Γ N sc (.oV i e) p=true):GS X W F H0 E (.oV i e) p:=by
 cases p<;>first|(exact aA h)|skip
 replace h:=ah h
 simp only [Option.any_eq_true,zza,beq_iff_eq] at h;obtain⟨⟨x,m,args⟩,h0,⟨⟨⟨h1,h2⟩,h3⟩,h4⟩,q,h6,h7⟩:=h
 obtain⟨np,apos,bQ,rfl,hl⟩:=ue h0
 cases dM h6;cases h4;exact EU S h1 h2 h3 hl (bx e S.C q h7).ge (notStar h7)
theorem EA(S:eE Γ F W N sc k E X)(i:Nat)(kk e:Ci.E)(p:Stmt)(h:eV Γ N sc (.put i kk e) p=true):GS X W F H0 E (.put i kk e) p:=by
 cases p<;>first|(exact aA h)|skip
 replace h:=ah h
 simp only [Option.any_eq_true,zza,beq_iff_eq] at h;obtain⟨⟨x,pk⟩,h0,⟨⟨⟨⟨h1,h2⟩,h3⟩,h5⟩,h6⟩,h7⟩:=h
 obtain⟨np,sp,rfl⟩:=Cg h0
 exact JE S h1 h2 h3 h5 h6 (bx kk S.C pk h6).ge (bx e S.C _ h7).ge
theorem Ca(S:eE Γ F W N sc k E X)(i:Nat)(p:Stmt)(h:eV Γ N sc (.lD i) p=true):GS X W F H0 E (.lD i) p:=by
 cases p<;>first|(exact aA h)|skip
 rename_i ts v pos;cases v<;>first|(exact aA h)|skip
 rename_i ks vs dp;cases ks<;>first|(exact aA h)|skip
 cases vs<;>first|(exact aA h)|skip
 replace h:=ah h
 simp only [Option.any_eq_true,zza,beq_iff_eq] at h;obtain⟨x,h0,h1,h2⟩:=h
 obtain⟨yp,rfl⟩:=j2 h0
 exact Ee S h1 h2
theorem AJ(S:eE Γ F W N sc k E X)(i:Nat)(e:Ci.E)(p:Stmt)(h:eV Γ N sc (.pY i e) p=true):GS X W F H0 E (.pY i e) p:=by
 cases p<;>first|(exact aA h)|skip
 obtain⟨x,h0,h1⟩:=ah h
 obtain⟨g,as,_,_,rfl,h2⟩:=De h1
 obtain⟨q,rfl,h3⟩:=mw h2
 obtain⟨yp,rfl⟩:=j2 h0
 simp only [zza,beq_iff_eq] at h3;obtain⟨⟨⟨⟨⟨rfl,h4⟩,h5⟩,h6⟩,h7⟩,h8⟩:=h3
 exact Em S h6 h7 h4 h5 (bx e S.C q h8).ge (notStar h8)
theorem uo(S:eE Γ F W N sc k E X)(i j n:Nat)(p:Stmt)(h:eV Γ N sc (.fj i j n) p=true):GS X W F H0 E (.fj i j n) p:=by
 cases p<;>first|(exact aA h)|skip
 replace h:=ah h
 simp only [Option.any_eq_true,zza,beq_iff_eq] at h;obtain⟨⟨x,pk⟩,h0,z,hz,⟨⟨⟨⟨⟨h1,h2⟩,h3⟩,h4⟩,h5⟩,h6⟩,⟨y,m,args⟩,h7,h8,e,he,z2,hz2,⟨⟨h9,h10⟩,h11⟩,h12⟩:=h
 obtain⟨np,sp,rfl⟩:=Cg h0
 obtain⟨zp,rfl⟩:=cL hz
 obtain⟨yp,apos,bQ,rfl,hl⟩:=ue h7
 cases h8;cases dM he;obtain⟨RL,rfl⟩:=cL hz2
 subst h9;exact yx S h1 h2 h3 h4 h5 h6 h10 h11 h12 hl
theorem Bj(S:eE Γ F W N sc k E X)(m i:Nat)(p:Stmt)(h:eV Γ N sc (.nD m i) p=true):GS X W F H0 E (.nD m i) p:=by
 cases p<;>first|(exact aA h)|skip
 replace h:=ah h
 simp only [Option.any_eq_true,zza,beq_iff_eq] at h;obtain⟨y,hy,c,hc,⟨⟨⟨⟨⟨⟨h1,h2⟩,h3⟩,h4⟩,h5⟩,h6⟩,h7⟩,h8⟩:=h
 obtain⟨yp,rfl⟩:=j2 hy
 obtain⟨q1,q2,q3,q4,q5,rfl⟩:=KA hc
 exact Fg S h1 h2 h3 h4 h5 h6 h7 h8
theorem Dm(S:eE Γ F W N sc k E X)(i:Nat)(o:Hl)(e:Ci.E)(p:Stmt)(h:eV Γ N sc (.aug i o e) p=true):GS X W F H0 E (.aug i o e) p:=by
 cases p<;>first|(exact aA h)|skip
 rename_i t op v pos;cases t<;>first|(exact aA h)|skip
 replace h:=ax h
 try simp only [zza,beq_iff_eq,zzN] at h
 obtain⟨⟨⟨⟨h1,h2⟩,h3⟩,h4⟩,h5⟩:=h
 cases o<;>first|(cases h3;done)|skip
 cases h4;exact Ic S h1 h2 (bx e S.C v h5).ge
theorem DC(S:eE Γ F W N sc k E X)(e:Ci.E)(p:Stmt)(h:eV Γ N sc (.ret e) p=true):GS X W F H0 E (.ret e) p:=by
 cases p<;>first|(exact aA h)|skip
 rename_i v pos;cases v with
 |none=>exact aA h
 |some v=>
  replace h:=ax h
  try simp only [zza] at h
  exact Ia S h.1 (bx e S.C v h.2).ge
theorem xE(S:eE Γ F W N sc k E X)(c m:Str)(p:Stmt)(h:eV Γ N sc (.raise c m) p=true):GS X W F H0 E (.raise c m) p:=by
 cases p<;>first|(exact aA h)|skip
 replace h:=ax h
 simp only [Option.any_eq_true,zza,beq_iff_eq] at h;obtain⟨hn,⟨x,z⟩,h0,⟨⟨⟨h1,h2⟩,h3⟩,h4⟩,h5⟩:=h
 obtain⟨np,j,zp,cp,rfl⟩:=KC h0
 cases h1;cases h2;rename_i fr pos;cases Option.isNone_iff_eq_none.mp hn;exact Am S h3 h4 h5
theorem DE{c:Ci.E}{a b:Ss}{p:Stmt}(h:eV Γ N sc (.ite c a b) p=true):∃q pa pb pos,p=.If q pa pb pos/\fT c=true/\bh Γ N sc c q=true/\dB Γ N sc a pa=true/\dB Γ N sc b pb=true:=by
 cases p<;>first|(exact aA h)|skip
 replace h:=ax h
 try simp only [zza] at h
 exact⟨_,_,_,_,rfl,h.1.1.1,h.1.1.2,h.1.2,h.2⟩
theorem D9{tg:Tg}{it:I}{b:Ss}{p:Stmt}(h:eV Γ N sc (.di tg it b) p=true):∃dj gv pb pos,p=.For dj gv pb [] pos/\iu N sc (λ_=>true) tg dj=true/\Gj it=true/\zf Γ N sc dj it gv=true/\dB Γ N sc b pb=true:=by
 cases p<;>first|(exact aA h)|skip
 replace h:=ax h
 try simp only [zza] at h
 cases List.isEmpty_iff.mp h.1.1.1.1;exact⟨_,_,_,_,rfl,h.1.1.1.2,h.1.1.2,h.1.2,h.2⟩
theorem Ga{c:Ci.E}{b:Ss}{p:Stmt}(h:eV Γ N sc (.xo c b) p=true):∃q pb pos,p=.While q pb [] pos/\fT c=true/\bh Γ N sc c q=true/\dB Γ N sc b pb=true:=by
 cases p<;>first|(exact aA h)|skip
 replace h:=ax h
 try simp only [zza] at h
 cases List.isEmpty_iff.mp h.1.1.1;exact⟨_,_,_,rfl,h.1.1.2,h.1.2,h.2⟩
theorem F6{ps:List Stmt}(h:dB Γ N sc .nil ps=true):ps=[]:=by
 cases ps with
 |nil=>rfl
 |cons _ _=>exact aA h
theorem zT{s:Ci.S}{ss:Ss}{ps:List Stmt}(h:dB Γ N sc (.cons s ss) ps=true):(∃i,s=.bF i/\dB Γ N sc ss ps=true)\/∃q qs,ps=q::qs/\eV Γ N sc s q=true/\dB Γ N sc ss qs=true:=by
 by_cases hz:∃i,s=.bF i
 ·obtain⟨i,rfl⟩:=hz
  exact .inl ⟨i,rfl,h⟩
 ·cases ps with
  |nil=>cases s<;>first|(exact absurd ⟨_,rfl⟩ hz)|(exact aA h)
  |cons p ps=>
   have h2:(eV Γ N sc s p&&dB Γ N sc ss ps)=true:=by
    cases s<;>first|(exact absurd ⟨_,rfl⟩ hz)|(exact h)
   rw [zza] at h2;exact .inr ⟨p,ps,rfl,h2.1,h2.2⟩
mutual
theorem PB(S:eE Γ F W N sc k E X):∀(s:Ci.S) (p:Stmt),eV Γ N sc s p=true->GS X W F H0 E s p
 |.expr e,p,h=>Ck S e p h
 |.set i e,p,h=>DA S i e p h
 |.own i e,p,h=>FD S i e p h
 |.bF i,p,h=>DZ S i p h
 |.app i e,p,h=>Eb S i e p h
 |.oV i e,p,h=>Aa S i e p h
 |.put i kk e,p,h=>EA S i kk e p h
 |.pY i e,p,h=>AJ S i e p h
 |.lD i,p,h=>Ca S i p h
 |.fj i j n,p,h=>uo S i j n p h
 |.nD m i,p,h=>Bj S m i p h
 |.aug i o e,p,h=>Dm S i o e p h
 |.ret e,p,h=>DC S e p h
 |.ite c a b,p,h=>by
  obtain⟨q,pa,pb,pos,rfl,h1,h2,h3,h4⟩:=DE h
  exact IX S ((bx c S.C _ h2).gt h1) (mY S a _ h3) (mY S b _ h4)
 |.di tg it b,p,h=>by
  obtain⟨dj,gv,pb,pos,rfl,h1,h2,h3,h4⟩:=D9 h
  exact JM S h1 h2 (Cq it S.C dj gv h3) (jn h3 _) (mY S b _ h4)
 |.xo c b,p,h=>by
  obtain⟨q,pb,pos,rfl,h1,h2,h3⟩:=Ga h
  exact Kz S ((bx c S.C _ h2).gt h1) (mY S b _ h3)
 |.raise c m,p,h=>xE S c m p h
 |.vi b c i j,p,h=>JB S b c i j p h
theorem mY(S:eE Γ F W N sc k E X):∀(ss:Ss) (ps:List Stmt),dB Γ N sc ss ps=true->C5 X W F H0 E ss ps
 |.nil,ps,h=>by
  cases F6 h;exact FN
 |.cons s ss,ps,h=>by
  rcases zT h with⟨i,e,h2⟩|⟨q,qs,e,h1,h2⟩
  ·have:=E4 (i:=i) (mY S ss ps h2)
   rw [<-e] at this;exact this
  ·rw [e];exact A6 (PB S s q h1) (mY S ss qs h2)
end
end
end Ci
namespace L2
open PySem PySem.Spec PyProof.Rows
theorem c7{K:PySem.W.Frag}{C c:Addr}{b:Bool}(h1:PySem.W.isClsIn K c=true)(h2:PySem.W.typeIn K (.ref c)=some (.type "type"))(h3:PySem.W.subIn K (.ref C) (.ref c)=some b)(h4:b=true\/(C==c)=false):PySem.W.kitOne K (.ref C) (.ref c)=some b:=by
 have k:PySem.W.kitCls K (.ref C) (.ref c)=some b:=by
  show(if((PySem.W.clsIn K c).isSome&&PySem.W.typeIn K (.ref c)==some (.type "type"))=true then PySem.W.subIn K (.ref C) (.ref c) else none)=some b
  rw [show(PySem.W.clsIn K c).isSome=true from h1,h2,h3]
  rfl
 unfold PySem.W.kitOne;split
 ·rename_i e;rcases h4 with rfl|h4
  ·rfl
  ·have e2:C=c:=Value.ref.inj (beq_iff_eq.mp e)
   rw [e2,beq_self_eq_true] at h4;cases h4
 ·exact k
theorem BC{K:PySem.W.Frag}{C:Addr}{T:String}{b:Bool}(h1:PySem.W.kitMeta T=true)(h3:PySem.W.subIn K (.ref C) (.type T)=some b):PySem.W.kitOne K (.ref C) (.type T)=some b:=by
 unfold PySem.W.kitOne;split
 ·rename_i e;cases beq_iff_eq.mp e
 ·show(if PySem.W.kitMeta T=true then PySem.W.subIn K (.ref C) (.type T) else none)=some b
  rw [if_pos h1];exact h3
theorem rK{K:PySem.W.Frag}{C c:Addr}{b:Bool}(h0:PySem.W.subIn K (.ref c) (.type "BaseException")=some true)(h1:PySem.W.isClsIn K c=true)(h2:PySem.W.typeIn K (.ref c)=some (.type "type"))(h3:PySem.W.subIn K (.ref C) (.ref c)=some b):PySem.W.exmOne K (.ref C) (.ref c)=some b:=by
 unfold PySem.W.exmOne;rw [h0];show PySem.W.kitCls K (.ref C) (.ref c)=some b
 show(if((PySem.W.clsIn K c).isSome&&PySem.W.typeIn K (.ref c)==some (.type "type"))=true then PySem.W.subIn K (.ref C) (.ref c) else none)=some b
 rw [show(PySem.W.clsIn K c).isSome=true from h1,h2,h3]
 rfl
theorem Jj{K:PySem.W.Frag}{h:Heap}{mg:Str->Option Value}{x:Str}{C:Addr}{SS:List Value}{newId:String}(X:K.In h)(hm:mg x=some (.ref C))(q:PySem.W.excIn K C SS newId=true):OwnCls x C SS newId mg h:=by
 constructor
 ·exact hm
 ·unfold PySem.W.excIn at q;split at q
  ·rename_i dd cd sl ho;split at q
   ·rename_i C1 bm1 k0 k1 k2 k3 n1 k5 M6 Dp;simp only [zza,beq_iff_eq,Bool.not_eq_true'] at q;obtain⟨⟨⟨⟨⟨q1,q2⟩,q3⟩,q4⟩,q5⟩,q6⟩:=q
    subst q1 q2;obtain⟨nm,bs,mro,ns,qn,hd,sn,sub,ab,col,del⟩:=cd
    have NQ:mro=.ref C1::bm1:=M6
    have hd2:del=false:=q3
    have S7:PySem.W.nsOkIn K ns=true:=q5
    have UB:PySem.W.nsIn K ns "__init__"=some none:=q6
    subst NQ hd2;obtain⟨ls⟩:=sl
    have vQ:ls=[k0,k1,k2,k3,some (.builtin n1),k5]:=Dp
    subst vQ;exact⟨bm1,ns,nm,qn,bs,hd,sn,sub,ab,col,dd,k0,k1,k2,k3,k5,_,X _ _ ho,.of_isNs (PySem.W.isNs_of_in X S7),PySem.W.nsMap_none_of_in X S7 UB,PySem.W.tail_of_in X q4⟩
   ·cases q
  ·cases q
end L2
namespace Ci
open PySem L2
abbrev zG:List Value:=[.type "ValueError",.type "Exception",.type "BaseException",.type "object"]
structure tQ(K:PySem.W.Frag)(mg:Str->Option Value)(Γ:Pg)(W:Wd):Prop where
 hK:W.K=K
 hm:W.mg=mg
 gs:∀q∈Γ.gs,∃u v,mg q.1=some u/\RelV v u/\∀G,Rep W G q.2 v
 bs:∀g∈Γ.bs,mg g=none
 LI:Γ.cs.contains "ValueError"=false
 cls:∀c∈Γ.cs,∃C,mg c=some (.ref C)
 xc:∀d∈W.xs,∀D,mg d=some (.ref D)->lY K D/\(∀c∈Γ.cs,∀C,mg c=some (.ref C)->PySem.W.kitOne K (.ref D) (.ref C)=some (c==d||c=="FloorError"))/\PySem.W.kitOne K (.ref D) (.type "ValueError")=some true
 xs:∀c,Γ.rs.contains c=true->c∈W.xs
 rm:∀c,Γ.rs.contains c=true->∃C,mg c=some (.ref C)/\PySem.W.excIn K C zG "ValueError.__new__"=true
 MP:Γ.cs.contains "FloorError"=true->∀c D,c∈W.xs->mg c=some (.ref D)->∀T,mg "FloorError"=some (.ref T)->PySem.W.exmOne K (.ref D) (.ref T)=some true
 bm:W.ts≠[]->∃bm o,mg "__builtins__"=some (.ref bm)/\bm≠builtinsNs/\bm≠mainGlobals/\K.lookup bm=some o/\o.cls=.type "module"/\o.dict=some builtinsNs/\o.data=.plain
structure Row where
 f:Str
 h:Str
 d:Def
 st:Stmt
 hl:Bool:=false
abbrev d7:Type:=List Row
def m7(l:d7):List Str:=l.filterMap λr=>if r.d.iM.isNone then some r.f else none
def zi(l:d7):List Hs:=l.filterMap λr=>r.d.iM.map λq=>⟨r.f,r.h,q.1,q.2,r.d.np⟩
def tab(l:d7):List (Str×Def):=l.map λq=>(q.f,q.d)
noncomputable def Pg.at(Γ:Pg)(l:d7)(hl:Bool):Pg:={Γ with fs:=m7 l,hs:=zi l,hl:=hl}
structure cq(Γ:Pg)(n:Str)(d:Def)(st:Stmt):Prop where
 sc:kU d.N (d.N.take d.np) (ba st)
 np:d.np<=d.N.length
 bind:∀(kV doc pm:Value) (an:Option Addr) (f7 ct:Value) (us:List Value),us.length=(d.N.take d.np).length->bindArgs (PySem.W.fnOf n n (dv st) (cV st) (ba st) .none kV doc pm an f7 ct) ⟨us,[]⟩=pure ((d.N.take d.np).zip us)
 Vu:dB Γ d.N (ba st) d.body (cV st)=true
theorem stM{Γ:Pg}{n:Str}{d:Def}{st:Stmt}(b:∀(kV doc pm:Value) (an:Option Addr) (f7 ct:Value) (us:List Value),us.length=(d.N.take d.np).length->bindArgs (PySem.W.fnOf n n (dv st) (cV st) (ba st) .none kV doc pm an f7 ct) ⟨us,[]⟩=pure ((d.N.take d.np).zip us))
 (a1:(ba st).kind=.function:=by rfl) (a2:(ba st).isCoroutine=false:=by rfl) (a3:(ba st).isGenerator=false:=by rfl) (a4:d.N.Nodup:=by decide+kernel) (a5:d.N.take (d.N.take d.np).length=d.N.take d.np:=by rfl)
 (a6:∀x∈d.N.take d.np,(ba st).names.lookup x=some .local\/(ba st).names.lookup x=some .cell:=by decide+kernel) (a7:∀y∈(ba st).names,y.2≠.free:=by decide+kernel) (a8:d.np<=d.N.length:=by decide+kernel) (a9:dB Γ d.N (ba st) d.body (cV st)=true:=by decide+kernel):cq Γ n d st:=⟨⟨a1,a2,a3,a4,a5,a6,a7⟩,a8,b,a9⟩
def gL(K:PySem.W.Frag)(c P:Addr):Prop:=∃o vs file tf flags tg Qo text tt,K.lookup c=some o/\o.cls=.type "code"/\o.data=.fields vs/\vs[11]?=some (.ref P)/\vs.getD 11 .none=.ref P/\vs.getD 18 .none=.str file tf/\
 vs.getD 7 .none=.int flags tg/\vs.getD 9 .none=.bool Qo/\vs.getD 10 .none=.int text tt/\c≠P
def nu(n:Str):Str:=(n++".<locals>.")++"<lambda>"
def xS(K:PySem.W.Frag)(ts:List (Addr×Str))(hl:Bool)(n:Str)(st:Stmt):Prop:=∃(f:Addr) (oc:Value) (od:Option Addr) (kV doc pm:Value) (an:Option Addr) (f7 ct:Value) (tP:Array (Option Value)),
 PySem.W.nsIn K mainGlobals n=some (some (.ref f))/\K.lookup f=some ⟨oc,od,.func (PySem.W.fnOf n n (dv st) (cV st) (ba st) .none kV doc pm an f7 ct),tP⟩/\PySem.W.codeIn K f7 n=true/\PySem.W.keepIn K (.ref f)=true/\
 (hl=true->∃c P,f7=.ref c/\gL K c P/\(P,nu n)∈ts/\∀q',(P,q')∈ts->q'=nu n)
theorem QJ{K:PySem.W.Frag}{ts:List (Addr×Str)}{n:Str}{st:Stmt}{f:Addr}{oc:Value}{od:Option Addr}{kV doc pm:Value}{an:Option Addr}{f7 ct:Value}{tP:Array (Option Value)}(a:PySem.W.nsIn K mainGlobals n=some (some (.ref f)))
 (l:K.lookup f=some ⟨oc,od,.func (PySem.W.fnOf n n (dv st) (cV st) (ba st) .none kV doc pm an f7 ct),tP⟩) (c:PySem.W.codeIn K f7 n=true) (k:PySem.W.keepIn K (.ref f)=true):xS K ts false n st:=⟨f,oc,od,kV,doc,pm,an,f7,ct,tP,a,l,c,k,(λz=>nomatch z)⟩
structure qB(P:Program)(w:World)(K:PySem.W.Frag)(mg:Str->Option Value)(base:Heap)(W:Wd)(F:aN)(k:Nat)(f:Str):Prop where
 ex:∃fa fd ps,gN P w K mg base (dZ P w) k fa fd ps (zo W F f ps.length none)/\mg f=some (.ref fa)/\PySem.W.keepIn K (.ref fa)=true/\Binds K fd ps []/\∀as,F f as≠.bad->as.length=ps.length
structure Kx(P:Program)(w:World)(K:PySem.W.Frag)(mg:Str->Option Value)(base:Heap)(W:Wd)(F:aN)(k:Nat)(q:Hs):Prop where
 ex:∃fa fd ps,gN P w K mg base (dZ P w) k fa fd ps (zo W F q.f ps.length (some (q.g,q.idx)))/\mg q.h=some (.ref fa)/\PySem.W.keepIn K (.ref fa)=true/\Binds K fd ps []/\ps.length=q.np
section
variable{P:Program}{w:World}{K:PySem.W.Frag}{mg:Str->Option Value}{base:Heap}{Γ:Pg}{W:Wd}
theorem yW{c p:Addr}(KB:K.In base)(h:gL K c p):PySem.W.CodeHd base c p:=by
 obtain⟨o,vs,file,tf,flags,tg,Qo,text,tt,e,r⟩:=h
 exact⟨o,vs,file,tf,flags,tg,Qo,text,tt,KB _ _ e,r⟩
theorem HR(M:tQ K mg Γ W)(KB:K.In base){F:aN}{k:Nat}{N ps:List Str}{qual:Str}{sc:Scope}(S:kU N ps sc)(hF:∀f,Γ.fs.contains f=true->qB P w K mg base W F k f)(hH:∀q∈Γ.hs,Kx P w K mg base W F k q)(hA:∀g as,F g as≠.bad->Γ.fs.contains g=true\/gE g=true){f:Addr}{cd:Value}
 (hL:Γ.hl=true->∃c p,cd=.ref c/\gL K c p/\(p,nu qual)∈W.ts/\∀q',(p,q')∈W.ts->q'=nu qual) {A:Around} {outer:List Env} {s:Shared} {H:Hp} {E:XK} (hr:dS (k+1) (A.deeper (PyProof.Rows.envOfC qual sc s.heap.objs.size f cd))):
 eE Γ F W N sc k E (dX (dZ P w) P w K mg base N qual sc f cd A outer s H E) where
 C:=⟨rfl,rfl,rfl,S.nd,M.hK,M.hm,M.gs,M.bs,hr,λg hg=>⟨(hF g hg).ex⟩,M.LI,M.cls,M.xc,λq hq=>⟨(hH q hq).ex⟩,hA,λz=>by
  obtain⟨c,p,e1,e2,e3,e4⟩:=hL z
  exact⟨c,p,e1,yW KB e2,e3,e4⟩,λz=>by
  obtain⟨c,p,e1,e2,e3,e4⟩:=hL z
  obtain⟨bm,o,b1,b2,b3,b4,b5⟩:=M.bm (λy=>by rw [y] at e3;cases e3)
  exact⟨bm,o,b1,b2,b3,KB _ _ b4,b5⟩,λ_ _=>rfl⟩
 fn:=λ_=>rfl
 own:=PassesOwn.leaving
 pass:=NI
 kind:=S.kind
 Ak:=rfl
 frame:=rfl
 xs:=M.xs
 rm:=λc hc=>let⟨C,h,_⟩:=M.rm c hc;⟨C,h⟩
 rz:=λc z j np zp cp pos h1 h2 h3=>by
  obtain⟨C,hC,hx⟩:=M.rm c h1
  have hg:Gl (dX (dZ P w) P w K mg base N qual sc f cd A outer s H E) c:=beq_iff_eq.mp h2
  refine L2.PS.imp (B0 hg (Jj KB hC hx) PySem.F.excBase_ValueError (bM zX dD) rfl rfl (c8 h3).1) λD σ H1 h=>⟨(show 1<=sizeLine by decide),λe he=>h C e hC he⟩
 MP:=M.MP
theorem rE{H G:Hp}{N:List Str}{as:List PV}{vs:List V}(sg:aC G H)(tb:cO W G H)(l:aj W G as vs)(hn:as.length<=N.length):SR W H (as.map .val++List.replicate (N.length-as.length) .no) (start N vs) G H:=by
 have hl:=l.length
 unfold L2.start;refine⟨by simp;omega,sg,gZ.refl _,λi s e=>?_,λi j p q a e1 _ _ _=>?_,tb,tb⟩
 ·by_cases hi:i<as.length
  ·rw [List.getElem?_append_left (by simpa using hi),zzQ] at e;obtain⟨p,hp,rfl⟩:=zzJ.mp e
   obtain⟨v,hv,rv⟩:=l.nA hp
   exact⟨some v,by rw [List.getElem?_append_left (by simpa using (show i<vs.length by omega)),zzQ,hv];rfl,v,rfl,rv⟩
  ·rw [List.getElem?_append_right (by simpa using hi),List.getElem?_replicate] at e;split at e
   ·rename_i h2;cases e;rw [zzl] at h2;exact⟨none,by rw [List.getElem?_append_right (by simp;omega),List.getElem?_replicate,if_pos (by rw [zzl];omega)],trivial⟩
   ·cases e
 ·exfalso
  by_cases hi:i<as.length
  ·rw [List.getElem?_append_left (by simpa using hi),zzQ] at e1;obtain⟨p,hp,e⟩:=zzJ.mp e1
   cases e
  ·rw [List.getElem?_append_right (by simpa using hi),List.getElem?_replicate] at e1;split at e1<;>cases e1
theorem SR.MJ{H0 G H:Hp}{env:Sl}{σ:St}{g:Str}{idx:List Nat}{cY:List PV}{v:V}(i:Nat)(r:SR W H0 env σ G H)(h:qE W G g idx cY v):SR W H0 (env.set i (.fn g idx cY)) (σ.set i (some v)) G H where
 len:=by simpa using r.len
 sub:=r.sub
 base:=r.base
 tab:=r.tab
 i8:=r.i8
 slot:=λj s e=>by
  by_cases hj:i=j
  ·subst hj;have cg:i<env.length:=by
    have:=(zzH.mp e).1
    simpa using this
   rw [List.getElem?_set_self cg] at e;cases e;exact⟨some v,List.getElem?_set_self (by rw [<-r.len];exact cg),v,rfl,h⟩
  ·rw [zzS hj] at e;obtain⟨o,h1,h2⟩:=r.slot j s e
   exact⟨o,by rw [zzS hj];exact h1,h2⟩
 apart:=λa b q q' ad e1 e2 e3 e4=>by
  have ne:∀{c:Nat} {q:PV},(env.set i (.fn g idx cY))[c]?=some (.own q)->i≠c:=λ{c q} e z=>by
   subst z;have cg:i<env.length:=by
    have:=(zzH.mp e).1
    simpa using this
   rw [List.getElem?_set_self cg] at e;cases e
  have n1:=ne e1
  have n2:=ne e2
  rw [zzS n1] at e1 e3;rw [zzS n2] at e2 e4;exact r.apart a b q q' ad e1 e2 e3 e4
theorem xh{α:Type}{l r:List α}{a b:α}:(l++a::r).set l.length b=l++b::r:=by
 rw [List.set_append_right _ _ (zzE _),Nat.sub_self];rfl
theorem yt{d:Def}{H G:Hp}{as:List PV}{vs:List V}(Pj:d.np<=d.N.length)(sg:aC G H)(tb:cO W G H)(l:CK W G d.iM as vs)(hv:vs.length=d.np):cy d as=true/\SR W H (cx d as) (start d.N vs) G H:=by
 unfold cy cx;cases hc:d.iM with
 |none=>
  rw [hc] at l;have l:aj W G as vs:=l
  exact⟨by rw [<-l.length,hv];simp,rE sg tb l (by rw [<-l.length,hv];exact Pj)⟩
 |some q=>
  rw [hc] at l;obtain⟨yq,cY,wa,v,rfl,rfl,l1,cr⟩:=l
  have MO:=l1.length
  have hn:wa.length=d.np-1/\0<d.np:=by rw [zzM] at hv;simp at hv;omega
  have ha:yq.length=d.np-1:=by omega
  refine⟨by simp;omega,?_⟩;have h0:=rE (N:=d.N) sg tb l1 (by omega)
  have h1:=h0.MJ yq.length cr
  have e1:(yq.map Slot.val++List.replicate (d.N.length-yq.length) Slot.no).set yq.length (.fn q.1 q.2 cY)=((yq++cY).take (d.np-1)).map .val++.fn q.1 q.2 ((yq++cY).drop (d.np-1))::List.replicate (d.N.length-d.np) Slot.no:=by
   rw [<-ha,List.take_left',List.drop_left',show d.N.length-yq.length=(d.N.length-d.np)+1 by omega,List.replicate_succ]
   ·have:=xh (l:=yq.map Slot.val) (r:=List.replicate (d.N.length-d.np) Slot.no) (a:=Slot.no) (b:=.fn q.1 q.2 cY)
    rw [zzl] at this;exact this
   ·rfl
   ·rfl
  have e2:(start d.N wa).set yq.length (some v)=start d.N (wa++[v]):=by
   unfold L2.start;rw [zzM,List.length_singleton,show d.N.length-wa.length=(d.N.length-(wa.length+1))+1 by omega,List.replicate_succ,<-MO];have:=xh (l:=wa.map some) (r:=List.replicate (d.N.length-(wa.length+1)) none) (a:=none) (b:=some v)
   rw [zzl] at this;rw [this];simp
  rw [e1,e2] at h1;exact h1
theorem GQ(M:tQ K mg Γ W)(KB:K.In base){F:aN}{k:Nat}{n nf:Str}{d:Def}{st:Stmt}{fa:Addr}{fd:FuncData}(St:cq Γ n d st)(Fu:Ot K n n st fa fd)(hF:∀f,Γ.fs.contains f=true->qB P w K mg base W F k f)(hH:∀q∈Γ.hs,Kx P w K mg base W F k q)(hA:∀g as,F g as≠.bad->Γ.fs.contains g=true\/gE g=true)
 (hL:Γ.hl=true->∃c p,fd.code=.ref c/\gL K c p/\(p,nu n)∈W.ts/\∀q',(p,q')∈W.ts->q'=nu n):
 gN P w K mg base (dZ P w) (k+2) fa fd (d.N.take d.np) (zo W (λ_ as=>aq F d as) nf (d.N.take d.np).length d.iM):=by
 have hlen:(d.N.take d.np).length=d.np:=by rw [List.length_take];have:=St.np;omega
 obtain⟨oc,od,kV,doc,pm,an,f7,ct,tP,rfl,lk,lj⟩:=Fu.ex
 refine L8 lk lj St.sc (λvs H Q E h=>h.1) λA outer s H vs Q E hr h=>?_
 obtain⟨hl,G,as,sg,tb,l,o⟩:=h
 rw [hlen] at hl;obtain⟨ar,sr⟩:=yt St.np sg tb l hl
 refine⟨Q7 W F H E d.body,mY (HR M KB St.sc hF hH hA hL hr) d.body _ St.Vu,G,cx d as,sr,?_⟩;dsimp only at o;unfold aq at o;rw [if_pos ar] at o;cases r:aF F d.body (cx d as) with
 |bad=>rw [r] at o;exact o
 |exc c=>rw [r] at o;exact o
 |ok fl=>
  rw [r] at o;cases fl with
  |nx env=>exact λσ' G' H' sr g=>o .az G' H' g .n
  |rt p=>exact λv G' H' rv g=>o v G' H' g rv
  |bk env=>exact o.elim
  |ct env=>exact o.elim
def AllK(K:PySem.W.Frag)(ts:List (Addr×Str))(Γ:Pg):d7->Prop
 |[]=>True
 |r::l=>xS K ts r.hl r.h r.st/\cq (Γ.at l r.hl) r.h r.d r.st/\((l.map (·.f)).contains r.f=false/\(r.d.iM.isNone==!gE r.f)=true/\(r.d.iM.isNone=true->r.f=r.h))/\AllK K ts Γ l
theorem vT(M:tQ K mg Γ W)(l:d7)(hl:Bool):tQ K mg (Γ.at l hl) W:=⟨M.hK,M.hm,M.gs,M.bs,M.LI,M.cls,M.xc,M.xs,M.rm,M.MP,M.bm⟩
theorem qB.mono{F:aN}{j k:Nat}{f:Str}(h:qB P w K mg base W F j f)(hk:j<=k):qB P w K mg base W F k f:=by
 obtain⟨fa,fd,ps,h1,h2⟩:=h.ex
 exact⟨fa,fd,ps,h1.mono hk,h2⟩
theorem lV{F F':aN}{f f':Str}{n:Nat}{q:Option (Str×List Nat)}(e:∀as,F' f' as=F f as):zo W F' f' n q=zo W F f n q:=by
 funext vs H Q E
 unfold zo;simp only [e]
theorem qB.swap{F F':aN}{k:Nat}{f:Str}(h:qB P w K mg base W F k f)(e:∀as,F' f as=F f as):qB P w K mg base W F' k f:=by
 obtain⟨fa,fd,ps,h1,h2,h3,h4,h5⟩:=h.ex
 refine⟨fa,fd,ps,?_,h2,h3,h4,λas hn=>h5 as (by rw [<-e];exact hn)⟩
 rw [lV e];exact h1
theorem Kx.swap{F F':aN}{j k:Nat}{q:Hs}(h:Kx P w K mg base W F j q)(hk:j<=k)(e:∀as,F' q.f as=F q.f as):Kx P w K mg base W F' k q:=by
 obtain⟨fa,fd,ps,h1,h2,h3,h4,h5⟩:=h.ex
 refine⟨fa,fd,ps,?_,h2,h3,h4,h5⟩;rw [lV e];exact h1.mono hk
theorem mI{r:Row}{l:d7}{g:Str}(h:(g==r.f)=false)(as:List PV):den (tab (r::l)) g as=den (tab l) g as:=by
 show(if(g==r.f)=true then _ else _)=_
 rw [h]
 rfl
theorem qZ{r:Row}{l:d7}(as:List PV):den (tab (r::l)) r.f as=aq (den (tab l)) r.d as:=by
 show(if(r.f==r.f)=true then _ else _)=_
 rw [beq_self_eq_true]
 rfl
theorem qz:∀(l:d7) {ts:List (Addr×Str)},AllK K ts Γ l->∀g as,den (tab l) g as≠.bad->(m7 l).contains g=true\/gE g=true
 |[],_,_,g,as,h=>absurd rfl h
 |r::l,ts,⟨_,_,⟨_,hn,_⟩,hr⟩,g,as,h=>by
  by_cases e:(g==r.f)=true
  ·have e2:=beq_iff_eq.mp e
   subst e2;cases hc:r.d.iM with
   |none=>
    left
    unfold m7;rw [List.filterMap_cons,hc];simp
   |some q=>
    right
    rw [hc] at hn
    simpa using hn
  ·rw [mI (by simpa using e)] at h;rcases qz l hr g as h with z|z
   ·left
    unfold m7 at z⊢;rw [List.filterMap_cons];split
    ·exact z
    ·rw [List.contains_cons,z,Bool.or_true]
   ·exact .inr z
theorem BR(M:tQ K mg Γ W)(KB:K.In base)(G:base.Ns mainGlobals mg):∀(l:d7),AllK K W.ts Γ l->(∀f,(m7 l).contains f=true->qB P w K mg base W (den (tab l)) (2*l.length) f)/\∀q∈zi l,Kx P w K mg base W (den (tab l)) (2*l.length) q
 |[],_=>⟨λf hf=>by simp [m7] at hf,λq hq=>by simp [zi] at hq⟩
 |r::l,hall=>by
  obtain⟨he,hs,⟨hfr,hnm,hfh⟩,hr⟩:=hall
  obtain⟨ih,ihH⟩:=BR M KB G l hr
  obtain⟨fa,oc,od,kV,doc,pm,an,f7,ct,tP,e1,e2,e3,e4,e5⟩:=he
  have Fu:=Bx (st:=r.st) e2 e3 e4
  have ok:=GQ (P:=P) (w:=w) (nf:=r.f) (vT M l r.hl) KB (k:=2*l.length) hs Fu (λg hg=>ih g hg) (λq hq=>ihH q hq) (qz l hr) e5
  have xJ:∀g,(l.map (·.f)).contains g=true->(g==r.f)=false:=λg hg=>by
   cases z:g==r.f with
   |false=>rfl
   |true=>rw [beq_iff_eq.mp z,hfr] at hg;cases hg
  have sp:zo W (λ_ as=>aq (den (tab l)) r.d as) r.f (r.d.N.take r.d.np).length r.d.iM=zo W (den (tab (r::l))) r.f (r.d.N.take r.d.np).length r.d.iM:=lV λas=>(qZ as).symm
  rw [sp] at ok;have hlen:(r.d.N.take r.d.np).length=r.d.np:=by rw [List.length_take];have:=hs.np;omega
  have ml:∀f,(m7 l).contains f=true->(l.map (·.f)).contains f=true:=λf hf=>by
   rw [List.contains_iff_mem] at hf⊢;unfold m7 at hf;obtain⟨x,hx,e⟩:=List.mem_filterMap.mp hf
   split at e
   ·cases e;exact List.mem_map_of_mem (f:=(·.f)) hx
   ·cases e
  refine⟨λf hf=>?_,λq hq=>?_⟩
  ·by_cases kf:(f==r.f)=true/\r.d.iM=none
   ·obtain⟨h1,h2⟩:=kf
    have e:=beq_iff_eq.mp h1
    subst e;refine⟨fa,_,r.d.N.take r.d.np,by rw [h2] at ok;exact ok,?_,e4,Fu.binds hs.bind,λas hn=>?_⟩
    ·rw [hfh (by rw [h2];rfl)];exact PySem.W.mg_of KB G e1
    ·rw [qZ] at hn;unfold aq at hn
     by_cases ha:cy r.d as=true
     ·unfold cy at ha;rw [h2] at ha;rw [hlen];exact beq_iff_eq.mp ha
     ·rw [if_neg ha] at hn;exact absurd rfl hn
   ·have RR:(m7 l).contains f=true:=by
     unfold m7 at hf⊢;rw [List.filterMap_cons] at hf;split at hf
     ·exact hf
     ·rename_i y hy;split at hy
      ·rename_i hc;cases hy;rw [List.contains_cons,Bool.or_eq_true] at hf;rcases hf with z|z
       ·exact absurd ⟨z,Option.isNone_iff_eq_none.mp hc⟩ kf
       ·exact z
      ·cases hy
    exact((ih f RR).mono (by rw [zzL];omega)).swap λas=>mI (xJ f (ml f RR)) as
  ·unfold zi at hq;rw [List.filterMap_cons] at hq;have tail:q∈zi l->Kx P w K mg base W (den (tab (r::l))) (2*(r::l).length) q:=λhq=>by
    refine(ihH q hq).swap (by rw [zzL];omega) λas=>mI (xJ q.f ?_) as
    unfold zi at hq;obtain⟨x,hx,e⟩:=List.mem_filterMap.mp hq
    obtain⟨y,_,rfl⟩:=zzJ.mp e
    rw [List.contains_iff_mem];exact List.mem_map_of_mem (f:=(·.f)) hx
   cases hc:r.d.iM with
   |none=>rw [hc] at hq;exact tail hq
   |some y=>
    rw [hc] at hq;rcases List.mem_cons.mp hq with z|z
    ·subst z;rw [hc] at ok;exact⟨fa,_,r.d.N.take r.d.np,ok,PySem.W.mg_of KB G e1,e4,Fu.binds hs.bind,hlen⟩
    ·exact tail z
end
end Ci
namespace L2
open PySem PySem.Spec PyProof.Rows
theorem xq{P:Program}{w:World}{K:PySem.W.Frag}{mg mb:Str->Option Value}{CX:zt}{k:Nat}{fa a:Addr}{fd:FuncData}{x:Str}{sp:Sp}{s₁:Shared}{vs:List Value}{ns:List Int}(lW:List Addr)
 (KX:K.In s₁.heap) (OF:s₁.heap.Ns mainGlobals mg) (hb:s₁.heap.Ns builtinsNs mb) (UY:∀x:Str,x≠"__name__"->mb x=bootBuiltins x) (yf:s₁.heap.NoLimit) (hg:s₁.gens=#[])
 (hT:∀p∈lW,s₁.heap.get? p=some (PySem.W.tabObj #[])) (hC:∀p∈lW,∃c,Ci.gL K c p) (Uj:∀p∈lW,K.lookup p=none)
 (ha:s₁.heap.get? a=some {cls:=.type "list",data:=.seq vs.toArray}) (hi:IntsAre vs ns) (hl:ns.length<=sizeLine) (hr:dS k callerA)
 (F:∀base:Heap,K.In base->base.Ns mainGlobals mg->gN P w K mg base CX k fa fd [x] sp) (ND:∀(s:Shared) (u:Value),BindsTo s fd ⟨[u],[]⟩ [(x,u)])
 (LL:∀H:Hp,(∀p∈lW,H p=some (.gf #[]))->Ci.qm K H a (ns.map V.int)->sp [.ref a] H (λv _=>v=.bl true) λ_ _ _=>False)
 (PJ:∀H e s',CX [] H s₁ (λ_ _ _=>False) e s'->False):
 codeAny (model P w) callerA (.call (.ref fa) ⟨[.ref a],[]⟩) (λr s'=>r=.ok (.ret (.bool true))/\OldK s₁.heap s'.heap/\s'.os=s₁.os/\AllBare s'.gens) s₁:=by
 have rv:=oh hi
 have Mw:=hi.length
 have aT:a∉lW:=λz=>by have:=hT a z;rw [ha] at this;cases this
 have core:∀H:Hp,(∀p∈lW,H p=some (.gf #[]))->Ci.qm K H a (ns.map V.int)->eh P w H s₁.heap->(∀b,H b≠none->b∈lW\/b=a/\∃o xs,H b=some (.bF o xs))->(H a≠none->K.lookup a=none)->
  codeAny (model P w) callerA (.call (.ref fa) ⟨[.ref a],[]⟩) (λr s'=>r=.ok (.ret (.bool true))/\OldK s₁.heap s'.heap/\s'.os=s₁.os/\AllBare s'.gens) s₁:=by
  intro H hO hS aQ hA hK;have wb:∀{b:Addr} {o:Obj},s₁.heap.get? b=some o->H b=none->(oT s₁.heap H).get? b=some o:=λe n=>B8 e n
  have Dq:∀{b:Addr} {o:Obj} {es:Array DictEntry} {ep:Nat},s₁.heap.get? b=some o->o.data=.dict es ep->H b=none:=λ{b o es ep} e d=>by
   cases q:H b with
   |none=>rfl
   |some u=>
    rcases hA b (by rw [q];simp) with z|⟨z,_⟩
    ·rw [hT b z] at e;cases e;cases d
    ·subst z;rw [ha] at e;cases e;have d':Data.seq vs.toArray _=Data.dict es ep:=d
     cases d'
  have OM:∀{b:Addr} {m:Str->Option Value},s₁.heap.Ns b m->(oT s₁.heap H).Ns b m:=λ{b m} ⟨o,es,ep,e,d,r⟩=>⟨o,es,ep,wb e (Dq e d),d,r⟩
  have Tw:K.In (oT s₁.heap H):=λb o e=>wb (KX b o e) (by
   cases q:H b with
   |none=>rfl
   |some u=>
    rcases hA b (by rw [q];simp) with z|⟨z,_⟩
    ·rw [Uj b z] at e;cases e
    ·subst z;rw [hK (by rw [q];simp)] at e;cases e)
  have hM:Mod K mg (oT s₁.heap H):=⟨Tw,OM OF,⟨mb,OM hb,UY⟩,let⟨mc,h1,h2⟩:=yf;⟨mc,OM h1,h2⟩⟩
  have e0:i4 P w K mg (oT s₁.heap H) callerA [] s₁ H:=⟨rfl,hM,λb o e=>Eo e,Nat.le_of_eq (ym _ _),trivial,λb hb=>absurd (show b∈([]:List Addr) from hb) (by simp),aQ,.of_eq hg⟩
  refine codeAny_mono ((F _ Tw (OM OF)).run callerA [] s₁ H ⟨[.ref a],[]⟩ [.ref a] [.ref a] _ _ hr e0 (ND s₁ (.ref a)) (.cons rfl .nil) (LL H hO hS)) λr s' h=>?_
  cases r with
  |error e=>exact(PJ H e s' h).elim
  |ok fl=>
   cases fl with
   |next=>exact False.elim h
   |brk=>exact False.elim h
   |cont=>exact False.elim h
   |ret u=>
    obtain⟨v,H',os,bare,un,EX,r',q⟩:=h
    have q':v=.bl true:=q
    subst q';obtain rfl:u=Value.bool true:=r'
    have key:∀b o,s₁.heap.get? b=some o->s'.heap.get? b=some o\/b∈lW/\∃m,s'.heap.get? b=some (PySem.W.tabObj m):=λb o e=>by
     cases q:H b with
     |none=>exact .inl (un.keep b o e q (by intro z;exact absurd (show b∈([]:List Addr) from z) (by simp)) (by simp))
     |some u=>
      rcases hA b (by rw [q];simp) with z|⟨z,ob,xs,z2⟩
      ·right
       obtain⟨m,hm⟩:=un.fM b _ (hO b z)
       exact⟨z,_,EX b _ hm⟩
      ·left
       have z3:=un.fk b ob _ z2
       obtain⟨e1,_⟩:=aQ b _ z2
       obtain⟨e2,_⟩:=EX b _ z3
       rw [e] at e1;cases e1;exact e2
    refine⟨rfl,⟨λb o e=>?_,λb o e=>?_⟩,os,bare⟩
    ·rcases key b o e with z|⟨z,m,z2⟩
     ·exact .inl z
     ·have e':=hT b z
      rw [e] at e';cases e';obtain⟨c,o',vs',_,_,_,_,_,_,_,k1,k2,k3,k4,_⟩:=hC b z
      have tb:s₁.heap.TableAt c b #[]:=⟨⟨o',vs',KX _ _ k1,k2,k3,k4⟩,e⟩
      exact .inr (.inl ⟨tb.isCodeTable,rfl,#[],m,rfl,by rw [z2];simp⟩)
    ·rcases key b o e with z|⟨_,m,z⟩
     ·exact⟨_,z⟩
     ·exact⟨_,z⟩
 cases hk:K.lookup a with
 |some o=>
  have e:=KX a o hk
  rw [ha] at e;cases e;refine core (λb=>if b∈lW then some (.gf #[]) else none) (λp hp=>if_pos hp) (.inr ⟨vs.toArray,_,hk,by rw [zzC,Mw];exact hl,by simpa using rv⟩) (λb u z=>?_) (λb z=>?_) λz=>absurd (if_neg aT) z
  ·by_cases hb:b∈lW
   ·have z':=(if_pos hb).symm.trans z
    cases z';exact hT b hb
   ·have z':=(if_neg hb).symm.trans z
    cases z'
  ·by_cases hb:b∈lW
   ·exact .inl hb
   ·exact absurd (if_neg hb) z
 |none=>
  refine core (λb=>if b=a then some (.bF {cls:=.type "list",data:=.seq vs.toArray} (.lst (ns.map V.int))) else if b∈lW then some (.gf #[]) else none) (λp hp=>?_) (.inl (.inr ⟨{cls:=.type "list",data:=.seq vs.toArray},if_pos rfl⟩)) (λb u z=>?_) (λb z=>?_) λ_=>hk
  ·show(if p=a then _ else _)=_
   rw [if_neg (show¬p=a from λz=>aT (by rw [<-z];exact hp)),if_pos hp]
  ·by_cases hb:b=a
   ·have z':=(if_pos hb).symm.trans z
    cases z';subst hb;exact⟨ha,by rw [zzl];exact hl,vs,_,rv,ha⟩
   ·replace z:=(if_neg hb).symm.trans z
    by_cases hc:b∈lW
    ·have z':=(if_pos hc).symm.trans z
     cases z';exact hT b hc
    ·have z':=(if_neg hc).symm.trans z
     cases z'
  ·by_cases hb:b=a
   ·exact .inr ⟨hb,_,_,if_pos hb⟩
   ·by_cases hc:b∈lW
    ·exact .inl hc
    ·exact absurd ((if_neg hb).trans (if_neg hc)) z
theorem K8{l:PySem.W.OpenLaw}{n k:Nat}{q:Program}{loose:List Str}{XP:(Str->Option Value)->Heap->Prop}{YP:World->Heap->Prop}{d:DefRec}{K:Params->PySem.W.Frag}{CX:World->zt}{sp:World->Sp}{x:Str}(lW:List Addr)
 (hn:l.most=some n) (Vm:n<=sizeLine) (Np:d.params.defaults=[]) (hr:dS k callerA)
 (hY:∀(w:World) (h:Heap),YP w h->(K w.params).In h/\∀p∈lW,h.get? p=some (PySem.W.tabObj #[])) (hC:∀(w:World),∀p∈lW,(∃c,Ci.gL (K w.params) c p)/\(K w.params).lookup p=none)
 (F:∀(w:World) (mg:Str->Option Value) (fa:Addr) (h:Heap),(K w.params).In h->h.Ns mainGlobals mg->mg d.name=some (.ref fa)->
  ∃fd:FuncData,(∀(s:Shared) (u:Value),BindsTo s fd ⟨[u],[]⟩ [(x,u)])/\
   ∀base:Heap,(K w.params).In base->base.Ns mainGlobals mg->gN l.prog w (K w.params) mg base (CX w) k fa fd [x] (sp w))
 (LL:∀(w:World) (H:Hp) (a:Addr) (ns:List Int),ns.length<=n->(∀p∈lW,H p=some (.gf #[]))->Ci.qm (K w.params) H a (ns.map V.int)->sp w [.ref a] H (λv _=>v=.bl true) λ_ _ _=>False)
 (PJ:∀(w:World) (H:Hp) (s:Shared) (e:Value) (s':Shared),CX w [] H s (λ_ _ _=>False) e s'->False):
 PySem.W.WalkO q loose XP YP l.row.toRowW d [] (λf vs=>PySem.call f vs):=by
 refine Att.sd hn Np λw s₀ s₁ mg mb fa o pm cd doc a vs ns G Y ho hd lj hmg hobj hints hlen hg=>?_
 obtain⟨KX,hT⟩:=hY w _ Y
 obtain⟨fd,hb,hF⟩:=F w mg fa _ KX G.T.g hmg
 exact xq lW KX G.T.g G.T.b G.T.builtins G.T.nolimit hg hT (λp hp=>(hC w p hp).1) (λp hp=>(hC w p hp).2) hobj hints (zzU hlen Vm) hr hF hb (λH hO hS=>LL w H a ns hlen hO hS) λH e s'=>PJ w H s₁ e s'
end L2
namespace Ci
open PySem L2
theorem lF{W:Wd}{G:Hp}:∀(ns:List Int),aj W G (ns.map PV.int) (ns.map V.int)
 |[]=>.nil
 |n::ns=>.cons .i (lF ns)
def n8(H:Hp):Hp:=λb=>match H b with
 |some (.gf _)=>none
 |o=>o
theorem um(H:Hp):aC (n8 H) H:=λb o e=>by
 unfold n8 at e;split at e
 ·cases e
 ·exact e
theorem q9{H:Hp}{b:Addr}{o:HO}(h:H b=some o)(n:∀ps,o≠.gf ps):n8 H b=some o:=by
 unfold n8;rw [h];cases o with
 |gf ps=>exact absurd rfl (n ps)
 |_=>rfl
noncomputable def NV(K:PySem.W.Frag)(lW:List Addr):Sp:=λvs H Q _=>∃(a:Addr) (ns:List Int),vs=[.ref a]/\(∀p∈lW,H p=some (.gf #[]))/\qm K H a (ns.map V.int)/\ns.length<=63/\∀H',Q (.bl true) H'
theorem walk{l:PySem.W.OpenLaw}{q:Program}{loose:List Str}{XP:(Str->Option Value)->Heap->Prop}{YP:World->Heap->Prop}{d:DefRec}{K:Params->PySem.W.Frag}(rest:d7)(Γ:Pg)(x:Str)(dl:Def)(xs:List Str)(ts:List (Addr×Str))(st:Stmt)
 (hx:dl.N.take dl.np=[x]) (GC:dl.iM=none) (UX:d.name="law") (hn:l.most=some 63) (Np:d.params.defaults=[]) (hr:dS (2*rest.length+2) callerA) (hY:∀(w:World) (h:Heap),YP w h->(K w.params).In h/\∀p∈ts.map (·.1),h.get? p=some (PySem.W.tabObj #[]))
 (hC:∀(w:World),∀p∈ts.map (·.1),(∃c,gL (K w.params) c p)/\(K w.params).lookup p=none)
 (hM:∀(w:World) (mg:Str->Option Value) (h:Heap),(K w.params).In h->h.Ns mainGlobals mg->tQ (K w.params) mg Γ ⟨K w.params,mg,xs,ts⟩)
 (hE:∀w:World,xS (K w.params) ts false "law" st) (hS:cq (Γ.at rest false) "law" dl st)
 (hA:∀w:World,AllK (K w.params) ts Γ rest)
 (Pu:∀ns:List Int,ns.length<=63->aq (den (tab rest)) dl [.lst (ns.map .int)]=.ok (.bl true)):
 PySem.W.WalkO q loose XP YP l.row.toRowW d [] (λf vs=>PySem.call f vs):=by
 refine L2.K8 (n:=63) (k:=2*rest.length+2) (x:=x) (CX:=λw=>dZ l.prog w) (sp:=λw=>NV (K w.params) (ts.map (·.1))) (ts.map (·.1)) hn (by decide) Np hr hY hC ?_ ?_ ?_
 ·intro w mg fa h KX G hmg;rw [UX] at hmg;obtain⟨f,oc,od,kV,doc,pm,an,f7,ct,tP,e1,e2,e3,e4,e5⟩:=hE w
  have hf:fa=f:=by
   have z:=hmg.symm.trans (PySem.W.mg_of KX G e1)
   cases z
   rfl
  subst hf;refine⟨PySem.W.fnOf "law" "law" (dv st) (cV st) (ba st) .none kV doc pm an f7 ct,λs u=>?_,λbase KB GB=>?_⟩
  ·have hb:=hS.bind kV doc pm an f7 ct [u]
   rw [hx] at hb;exact .of_eq (hb rfl)
  ·have M:=hM w mg base KB GB
   obtain⟨a1,a2⟩:=BR (P:=l.prog) (w:=w) M KB GB rest (hA w)
   have ok:=GQ (P:=l.prog) (w:=w) (nf:="law") (vT M rest false) KB (k:=2*rest.length) hS (Bx (st:=st) e2 e3 e4) (λg hg=>a1 g hg) (λq hq=>a2 q hq) (qz rest (hA w)) (λz=>nomatch z)
   rw [hx] at ok;refine ok.imp λvs H Q E h=>?_
   obtain⟨a,ns,rfl,ht,hl,hlen,q⟩:=h
   refine⟨rfl,n8 H,[.lst (ns.map .int)],um H,λP q m=>?_,?_,?_⟩
   ·have hP:=ht P (List.mem_map_of_mem (f:=(·.1)) m)
    refine⟨by unfold n8;rw [hP],#[],hP,trivial,λpos cv e=>nomatch e⟩
   ·rw [GC];refine aj.cons (.l ?_ (lF ns)) .nil;rcases hl with(h|⟨o,h⟩)|h
    ·exact .inl (.inl (q9 h (λ_ z=>nomatch z)))
    ·exact .inl (.inr ⟨o,q9 h (λ_ z=>nomatch z)⟩)
    ·exact .inr h
   ·dsimp only;rw [Pu ns hlen];intro v G' H' _ rv;simp only [Rep] at rv;subst rv;exact q H'
 ·intro w H a ns hlen hO Il;exact⟨a,ns,rfl,hO,Il,hlen,λ_=>rfl⟩
 ·intro w H s e s' h;obtain⟨a,C,t,vs,H',B,rfl,F⟩:=h
  exact F.ends
end Ci
namespace Hd
open PySem PySem.W PySem.Calls
noncomputable def Ke(st:SharedT->Thread->Option (SharedT×Thread))(ok:Thread->Bool)(n:Nat):SharedT->Thread->Option SharedT:=
 @Nat.rec (λ_=>SharedT->Thread->Option SharedT) (λ_ _=>none) (λ_ ih s t=>match through t with
  |true=>some s
  |false=>match ok t with
   |false=>none
   |true=>match st s t with
    |some (s',t')=>ih s' t'
    |none=>none) n
theorem n6{tb:String->Option Builtin}{p:Program}{w:World}{n₀:Nat}{ann:Option Value}:∀{n:Nat} {s s':SharedT} {t:Thread},Ke (stepT (denote tb) p w) (stepOk n₀ ann) n s t=some s'->topRun tb p w n₀ ann n s.abs t=some s'.abs
 |0,_,_,_,h=>by cases h
 |n+1,s,s',t,h=>by
  have h:(match through t with
   |true=>some s
   |false=>match stepOk n₀ ann t with
    |false=>none
    |true=>match stepT (denote tb) p w s t with
     |some (s',t')=>Ke (stepT (denote tb) p w) (stepOk n₀ ann) n s' t'
     |none=>none)=some s':=h
  unfold topRun;cases ht:through t with
  |true=>rw [ht] at h;cases h;rfl
  |false=>
   rw [ht] at h;cases hk:stepOk n₀ ann t with
   |false=>rw [hk] at h;cases h
   |true=>
    rw [hk] at h;cases hs:stepT (denote tb) p w s t with
    |none=>rw [hs] at h;cases h
    |some r=>obtain⟨s₂,t₂⟩:=r;rw [hs] at h;rw [stepT_spec hs];exact n6 h
def treeOf(l:List Obj):BT:=(l.foldl (λ(T,i) o=>(BT.ins T i o,i+1)) (BT.nil,0)).1
theorem DK{p q:Program}{loose:List Str}{Xt:Shared->Bool}{α:Type}{Yf:Shared->α}{Ya:World->α}{N:Nat}{g0:Bool}{T₀:Params->BT}{life:Life}{m₀:Nat}{ann:Option Value}{M:Nat}
 (e:opening p=plainProg p.main.scope.names) (hN:Nat.ble 600 N=true) (f:∀s,fenceModules? p s=some s)
 (e0:∀P:Params,absHeap (T₀ P) m₀ life=boot_heap P)
 (size:∀w:World,((boot_heap w.params).isNs mainGlobals,(boot_heap w.params).nsMap mainGlobals "__annotations__")=(true,ann))
 (le:Nat.ble M N=true)
 (run:∀(w:World) (os:OsState),(Ke (stepT (denote treeTable) p w) (stepOk m₀ ann) M ⟨T₀ w.params,m₀,life,Array.mk [],boot_drawn,boot_toks,os⟩ (topStub p)).map (λs=>
  ((staticsOk (importedModules p.main.body) (boot_heap w.params) s.abs.heap&&namesBound p s.abs.heap&&gensDone s.abs&&laidKept (boot_heap w.params) s.abs.heap),openSeen q loose (importedModules p.main.body) Xt g0 s.abs,Yf s.abs))
  =some (true,openGood q loose,Ya w)):LeftO p q loose Xt Yf Ya N g0:=λw=>by
 obtain⟨⟨h,gs,d,k,os⟩,e1,e'⟩:=zzJ.mp (boot_open e hN f w)
 obtain⟨rfl,rfl,rfl,rfl⟩:h=boot_heap w.params/\gs=Array.mk []/\d=boot_drawn/\k=boot_toks:=by simpa using e'
 obtain⟨z1,z3⟩:_/\_:=by simpa only [Prod.mk.injEq] using size w
 obtain⟨s,r,l⟩:=zzJ.mp (run w os)
 obtain⟨l1,l2,l3⟩:_/\_/\_:=by simpa only [Prod.mk.injEq] using l
 have r:=n6 r
 have r:=topRun_mono (N-M) _ _ _ _ r
 rw [show M+(N-M)=N by have:=Nat.le_of_ble_eq_true le;omega] at r;have hs:(boot_heap w.params).objs.size=m₀:=by rw [<-e0 w.params];exact absHeap_size _ _ _
 have r:topRun treeTable p w m₀ ann N ⟨boot_heap w.params,Array.mk [],boot_drawn,boot_toks,os⟩ (topStub p)=some s.abs:=by
  have:(⟨T₀ w.params,m₀,life,Array.mk [],boot_drawn,boot_toks,os⟩:SharedT).abs=⟨boot_heap w.params,Array.mk [],boot_drawn,boot_toks,os⟩:=by
   show Shared.mk _ _ _ _ _=_
   rw [show absHeap (T₀ w.params) m₀ life=boot_heap w.params from e0 w.params]
  rw [<-this];exact r
 have t:topFrom treeTable p w N ⟨boot_heap w.params,Array.mk [],boot_drawn,boot_toks,os⟩=some s.abs:=by
  unfold topFrom;dsimp only;rw [z1,z3,hs,r];show(match staticsOk (importedModules p.main.body) (boot_heap w.params) s.abs.heap&&namesBound p s.abs.heap&&gensDone s.abs&&laidKept (boot_heap w.params) s.abs.heap with|true=>_|false=>_)=_
  rw [l1]
 unfold openEnds;rw [e1];show(topFrom treeTable p w N _).map _=_
 rw [t];exact congrArg some (Prod.ext l2 l3)
end Hd
namespace Hd
open PySem PySem.W
theorem Me:∀P:Params,absHeap (treeOf (boot_heap P).objs.toList) 11 {}=boot_heap P:=λP=>by kernel_rfl
theorem NH:∀w:World,((boot_heap w.params).isNs mainGlobals,(boot_heap w.params).nsMap mainGlobals "__annotations__")=(true,some (.ref 6)):=λw=>by kernel_rfl
abbrev de(P:Params)(x:Str)(t:Tok)(v:Value):DictEntry:={hash:=PyData.keyHash P x,key:=.str x t,val:=v}
theorem holds{l:OpenLaw}{keep:List Nat}{K:Params->Frag}{as:List Addr}{d:DefRec}{N:Nat}(P1:l.wellSaid=true)
 (ka:∀P,as=(K P).map (·.1))
 (left:LeftO l.row.prog (view l.row.prog keep) [] (λs=>xlAt (view l.row.prog keep) [] s&&recOk l.row.toRowW.records s) (kHook K as ka).obs (kHook K as ka).val N)
 (Iz:defOf (view l.row.prog keep) l.row.name=some (d,[])) (hp:l.row.prog.theDef l.row.name=some (d.params,d.body,d.scope)) (hk:kwWritten? d.params.kwonlyargs d.params.kw_defaults=some [])
 (ok:(chainsOk (view l.row.prog keep)&&opensWell l.row.prog&&(frees l.row.toRowW&&l.row.within.isEmpty))=true) (hb:l.row.prog.bare) (hw:l.row.toRowW.promised)
 (call:WalkO (view l.row.prog keep) [] (XL (view l.row.prog keep) []) (kHook K as ka).says l.row.toRowW d [] λf vs=>PySem.call f vs):l.Holds:=
 holds_law P1 λk1=>holds_open (N:=N) left (Hook.of (kHook K as ka)) (Hook.keeps (kHook K as ka)) (λs e=>xl_of s (Bool.and_eq_true_iff.mp e).1) XL.keeps Iz hp hk (λs e=>recFacts_of (Bool.and_eq_true_iff.mp e).2) (by cases h:l.row.writes<;>rfl) k1 ok hb hw call
theorem Lz{P:List Value->Prop}(h:∀a0,P [a0]):∀us:List Value,us.length=1->P us
 |[a0],_=>h a0
theorem ub{P:List Value->Prop}(h:∀a0 a1,P [a0,a1]):∀us:List Value,us.length=2->P us
 |[a0,a1],_=>h a0 a1
theorem Bv{P:List Value->Prop}(h:∀a0 a1 a2,P [a0,a1,a2]):∀us:List Value,us.length=3->P us
 |[a0,a1,a2],_=>h a0 a1 a2
theorem Qh{P:List Value->Prop}(h:∀a0 a1 a2 a3,P [a0,a1,a2,a3]):∀us:List Value,us.length=4->P us
 |[a0,a1,a2,a3],_=>h a0 a1 a2 a3
theorem Vg{P:List Value->Prop}(h:∀a0 a1 a2 a3 a4,P [a0,a1,a2,a3,a4]):∀us:List Value,us.length=5->P us
 |[a0,a1,a2,a3,a4],_=>h a0 a1 a2 a3 a4
theorem Vc{P:List Value->Prop}(h:∀a0 a1 a2 a3 a4 a5,P [a0,a1,a2,a3,a4,a5]):∀us:List Value,us.length=6->P us
 |[a0,a1,a2,a3,a4,a5],_=>h a0 a1 a2 a3 a4 a5
end Hd
namespace KJ
open PySem L2 Ci
theorem m6{α β:Type}{a:α}{f:α->Res β}:(Res.ok a).bind f=f a:=rfl
theorem Hb{α:Type}{a:α}:(Res.ok a).well=.ok a:=rfl
theorem SG{α:Type}{a:α}:Res.of (some a)=.ok a:=rfl
theorem Si{env:Sl}{k:Sl->Res Fl}:(Fl.nx env).seq k=k env:=rfl
theorem Ri{p:PV}{k:Sl->Res Fl}:(Fl.rt p).seq k=.ok (.rt p):=rfl
theorem Sf{env:Sl}{k:Sl->Res Fl}:(Fl.bk env).seq k=.ok (.bk env):=rfl
theorem sv{p:PV}:mi (some (.val p))=.ok p:=rfl
theorem Tr{p:PV}:CN (some (.val p))=.ok p:=rfl
theorem S1{p:PV}:CN (some (.own p))=.ok p:=rfl
theorem CV{α:Type}{b:Bool}{f:Bool->Res α}:sJ (.bl b) f=f b:=rfl
theorem Hc{i j:Int}:binOp .add (.int i) (.int j)=.ok (.int (i+j)):=rfl
theorem Gk{i j:Str}:binOp .add (.str i) (.str j)=if i.length+j.length<=dA then .ok (.str (i++j)) else .bad:=rfl
theorem Gv{i j:List PV}:binOp .add (.lst i) (.lst j)=if i.length+j.length<=dA then .ok (.lst (i++j)) else .bad:=rfl
theorem NJ{i j:Int}:binOp .sub (.int i) (.int j)=.ok (.int (i-j)):=rfl
theorem Ob{i j:Int}:binOp .mul (.int i) (.int j)=if aR i||aR j then .ok (.int (i*j)) else .bad:=rfl
theorem Mm{i j:Int}:binOp .mod (.int i) (.int j)=if 0<j then .ok (.int (i%j)) else .bad:=rfl
theorem Ny{i j:Int}:binOp .fdiv (.int i) (.int j)=if 0<j/\j<1073741824 then .ok (.int (i/j)) else .bad:=rfl
theorem Sw:dC .eq=fG:=rfl
theorem Sm:dC .ne=gb:=rfl
theorem RQ:dC .lt=sL:=rfl
theorem Ru:dC .le=pZ:=rfl
theorem TK:dC .ge=uY:=rfl
theorem RN:dC .Km=qN:=rfl
theorem MD:dC .kH=ja:=rfl
theorem oLt{i j:Int}:sL (.int i) (.int j)=.ok (.bl (decide (i<j))):=rfl
theorem oLe{i j:Int}:pZ (.int i) (.int j)=.ok (.bl (decide (i<=j))):=rfl
theorem Rw{i j:Int}:uY (.int i) (.int j)=.ok (.bl (decide (j<=i))):=rfl
theorem lL{xs:List PV}:d5 .len [.lst xs]=.ok (.int xs.length):=rfl
theorem lT{xs:List PV}:d5 .len [.tup xs]=.ok (.int xs.length):=rfl
theorem lS{z:Str}:d5 .len [.str z]=if z.length<=dA then .ok (.int z.length) else .bad:=rfl
theorem tL{xs:List PV}:d5 .tuple [.lst xs]=.ok (.tup xs):=rfl
theorem aL{xs:List PV}:d5 .all [.lst xs]=(Res.of (boolsOf xs)).bind λbs=>.ok (.bl (bs.all id)):=rfl
theorem Sh{i:Nat}{p:PV}{env:Sl}:(Tg.one i).put p env=.ok (env.set i (.val p)):=rfl
theorem Sx{i j:Nat}{a b:PV}{env:Sl}:(Tg.two i j).put (.tup [a,b]) env=.ok ((env.set i (.val a)).set j (.val b)):=rfl
theorem Fx{p:PV}:nB (.own p)=.val p:=rfl
theorem jA{α:Type}{a:α}{as:List α}:(a::as).length=as.length+1:=rfl
theorem jB{α:Type}:([]:List α).length=0:=rfl
theorem jC{α β:Type}{f:α->β}{a:α}{l:List α}:(a::l).map f=f a::l.map f:=rfl
theorem jD{α β:Type}{f:α->β}:([]:List α).map f=[]:=rfl
theorem jE{α:Type}{a:α}{as bs:List α}:a::as++bs=a::(as++bs):=rfl
theorem jF{α:Type}{as:List α}:[]++as=as:=rfl
theorem jG{α:Type}{a:α}{l:List α}:(a::l)[0]?=some a:=rfl
theorem jH{α:Type}{a:α}{l:List α}{i:Nat}:(a::l)[i+1]?=l[i]?:=rfl
theorem jI{α:Type}{a b:α}{l:List α}:(a::l).set 0 b=b::l:=rfl
theorem jJ{α:Type}{a b:α}{l:List α}{i:Nat}:(a::l).set (i+1) b=a::l.set i b:=rfl
theorem jK{α:Type}{a d:α}{l:List α}:(a::l).getD 0 d=a:=rfl
theorem jL{α:Type}{a d:α}{l:List α}{i:Nat}:(a::l).getD (i+1) d=l.getD i d:=rfl
theorem jM{n:Nat}:0+n=n:=Nat.zero_add _
theorem jN:(!true)=false:=rfl
theorem jO:(!false)=true:=rfl
theorem jP:(false=true)=False:=zze
theorem eU{e:E}{xs:List PV}:BZ e (.lst xs)=.ok xs:=rfl
theorem SK{e:E}{xs:List PV}:BZ e (.tup xs)=.ok xs:=rfl
theorem Of{xs:List PV}:itemsOf (.tup xs)=.ok xs:=rfl
theorem Pm{xs:List PV}:itemsOf (.lst xs)=.ok xs:=rfl
theorem Oz{z:Str}:itemsOf (.str z)=.ok (chars z):=rfl
theorem Sj{i j k:Nat}{a b c:PV}{env:Sl}:(Tg.three i j k).put (.tup [a,b,c]) env=.ok (((env.set i (.val a)).set j (.val b)).set k (.val c)):=rfl
theorem jQ{α:Type}{f:α->α}{a:α}{l:List α}:(a::l).modify 0 f=f a::l:=rfl
theorem jR{α:Type}{f:α->α}{a:α}{l:List α}{i:Nat}:(a::l).modify (i+1) f=a::l.modify i f:=by simp
theorem jS{α:Type}{a:α}:List.replicate 0 a=[]:=id rfl
theorem jT{α:Type}{a:α}{n:Nat}:List.replicate (n+1) a=a::List.replicate n a:=id rfl
theorem jU{n:Nat}:(n==n)=true:=beq_self_eq_true n
noncomputable def J:=And.intro @jS (And.intro @jT (And.intro @jU (And.intro @m6 (And.intro @Hb (And.intro @SG (And.intro @Si (And.intro @Ri (And.intro @Sf (And.intro @sv (And.intro @Tr (And.intro @S1 (And.intro @CV (And.intro @Hc (And.intro @Gk (And.intro @Gv (And.intro @NJ (And.intro @Ob (And.intro @Mm (And.intro @Ny (And.intro @Sw (And.intro @Sm (And.intro @RQ (And.intro @Ru (And.intro @TK (And.intro @RN (And.intro @MD (And.intro @oLt (And.intro @oLe (And.intro @Rw (And.intro @lL (And.intro @lT (And.intro @lS (And.intro @tL (And.intro @aL (And.intro @Sh (And.intro @Sx (And.intro @Fx (And.intro @jA (And.intro @jB (And.intro @jC (And.intro @jD (And.intro @jE (And.intro @jF (And.intro @jG (And.intro @jH (And.intro @jI (And.intro @jJ (And.intro @jK (And.intro @jL (And.intro @jM (And.intro @jN (And.intro @jO (And.intro @jP (And.intro @eU (And.intro @SK (And.intro @Of (And.intro @Pm (And.intro @Oz (And.intro @Sj (And.intro @jQ (@jR)))))))))))))))))))))))))))))))))))))))))))))))))))))))))))))
theorem J0{n:Str}{d:Def}{r:List (Str×Def)}:den ((n,d)::r) n=aq (den r) d:=by
 funext as;simp [den]
theorem K3{n f:Str}{d:Def}{r:List (Str×Def)}(h:(f==n)=false):den ((n,d)::r) f=den r f:=by
 funext as;simp [den,h]
theorem sC{f:Str}:∀(n:Nat) {T:List (Str×Def)},((T.take n).all λx=>!(f==x.1))=true->den T f=den (T.drop n) f
 |0,_,_=>rfl
 |n+1,[],_=>rfl
 |n+1,(m,d)::r,h=>by
  rw [List.take_succ_cons,List.all_cons,zza,Bool.not_eq_true'] at h;exact(K3 h.1).trans (sC n h.2)
theorem dk{f:Str}{d:Def}{r T:List (Str×Def)}(k:Nat)(h:((T.take k).all λx=>!(f==x.1))=true:=by decide+kernel)(e:T.drop k=(f,d)::r:=by rfl):den T f=aq (den r) d:=by
 rw [sC k h,e];exact J0
end KJ
namespace K70
open PySem L2 Ci KJ
section
local macro_rules | `(#[]) => `(.nil) | `(#[$x]) => `(.cons $x .nil) | `(#[$x, $xs,*]) => `(.cons $x #[$xs,*]) | `(!$n:num) => `(.var $n) | `(¬$n:num) => `(.cst (.int $n))
noncomputable def dg:Def:=⟨["_law_script","_law_k"],2,#[.ite (.cmp .lt (!1) (.blt .len #[!0])) #[.ret (.sub (!0) (!1))] .nil,.ite (.cmp .eq (!0) (.lst .nil)) #[.ret (¬0)] .nil,.ret (.bin .add (.bin .mul (.sub (!0) (.bin .mod (!1) (.blt .len #[!0]))) (¬31)) (!1))],none⟩
noncomputable def bI:Def:=⟨["_law_script","_law_k","_law_many","_law_drawn"],3,#[.set 3 (.bin .mod (.bin .mul (.bin .add (.call "_law_cell" #[!0,!1]) (.bin .mul (¬6151) (.bin .add (!1) (¬1)))) (¬40692)) (¬2147483399)),.ret (.bin .mod (.bin .mod (.bin .add (.bin .mul (!3) (!3)) (.bin .fdiv (!3) (¬31))) (¬2147483629)) (!2))],none⟩
noncomputable def cC:Def:=⟨["_law_script","_law_at","_law_most","_law_rows","_law_columns","_law_shuts","_law_top","_law_made","_law_row","_law_signs","_law_column","_law_drawn"],3,#[.set 3 (.bin .add (¬1) (.call "_law_pick" #[!0,!1,!2])),.set 4 (.bin .add (¬1) (.call "_law_pick" #[!0,.bin .add (!1) (¬1),!2])),.set 5 (.sub (.lst #[¬0,¬2,¬4,¬6]) (.call "_law_pick" #[!0,.bin .add (!1) (¬2),¬4])),.set 6 (.sub (.lst #[¬1,¬2,¬3,¬10]) (.call "_law_pick" #[!0,.bin .add (!1) (¬3),¬4])),.own 7 (.lst .nil),.di (.one 8) (.kF (!3)) #[.set 9 (.cst (.str "")),.di (.one 10) (.kF (!4)) #[.set 11 (.call "_law_pick" #[!0,.bin .add (.bin .add (.bin .add (!1) (¬4)) (.bin .mul (!2) (!8))) (!10),.bin .mul (¬12) (!6)]),.set 9 (.bin .add (!9) (.ite (.cmp .lt (.bin .mod (!11) (¬12)) (!5)) (.cst (.str "#")) (.blt .str #[.bin .fdiv (!11) (¬12)])))],.app 7 (!9)],.ret (.blt .tuple #[.fO 7])],none⟩
noncomputable def cJ:Def:=⟨["_law_script","_law_at"],2,#[.ret (.tup #[.cmp .eq (.call "_law_pick" #[!0,!1,¬2]) (¬0),.sub (.lst #[¬0,¬1,¬2,¬9]) (.call "_law_pick" #[!0,.bin .add (!1) (¬1),¬4]),.call "_law_pick" #[!0,.bin .add (!1) (¬2),¬4]])],none⟩
noncomputable def bz:Def:=⟨["_law_floor_here","_law_made","_law_row","_law_signs"],1,#[.own 1 (.lst .nil),.di (.two 2 3) (.enum (!0)) #[.oV 1 (.cQ 2 [2] (.two 0 1) (.enum (!3)) (.cmp .ne (!1) (.cst (.str "#"))) (.tup #[!2,!0]))],.bF 1,.ret (!1)],none⟩
noncomputable def bT:Def:=⟨["_law_script","_law_at","_law_floor_here"],3,#[.ret (.tup #[.bin .sub (.call "_law_pick" #[!0,!1,.bin .add (.blt .len #[!2]) (¬2)]) (¬1),.bin .sub (.call "_law_pick" #[!0,.bin .add (!1) (¬1),.bin .add (.blt .len #[.sub (!2) (¬0)]) (¬2)]) (¬1)])],none⟩
noncomputable def bU:Def:=⟨["_law_floor_here","_law_spot","_law_size","_law_spots_here","_law_more","_law_square"],2,#[.set 2 (¬0),.set 3 (.call "_law_spots" #[!0]),.xo (.cst (.bl true)) #[.set 4 (.bin .add (!2) (¬1)),.set 5 (.comp 1 [1,4] (.one 0) (.kF (.bin .mul (!4) (!4))) (.tup #[.bin .add (.sub (!1) (¬0)) (.bin .fdiv (!0) (!2)),.bin .add (.sub (!1) (¬1)) (.bin .mod (!0) (!2))])),.ite (.cmp .ne (.cQ 1 [3] (.one 0) (.seq (!5)) (.cmp .kH (!0) (!1)) (!0)) (.lst .nil)) #[.ret (!2)] .nil,.set 2 (!4)]],none⟩
noncomputable def cH:Def:=⟨["_law_floor_here","_law_size","_law_made","_law_row","_law_signs"],2,#[.own 2 (.lst .nil),.di (.two 3 4) (.enum (!0)) #[.app 2 (.Au .join (.cst (.str "")) #[.comp 2 [1,3,0] (.two 0 1) (.enum (!4)) (.ite (.cmp .ge (.call "_law_clear" #[!4,.tup #[!3,!0]]) (!2)) (!1) (.cst (.str "#")))])],.ret (.blt .tuple #[.fO 2])],none⟩
noncomputable def df:Def:=⟨["_law_kept","_law_kinds"],1,#[.set 1 (.lst #[.Dg "NoSign" (!0),.Dg "NoSize" (!0),.Dg "NoSpot" (!0),.Dg "NoWay" (!0)]),.ite (.or (.cmp .ne (.Au .iG (!1) #[.cst (.bl true)]) (¬1)) (.or (.not (.Dg "ValueError" (!0))) (.not (.Dg "FloorError" (!0))))) #[.ret (.cst (.str "wrong"))] .nil,.ret (.sub (.lst #[.cst (.str "no sign"),.cst (.str "no size"),.cst (.str "no spot"),.cst (.str "no way")]) (.Au .index (!1) #[.cst (.bl true)]))],none⟩
def dG:Def:=⟨["thing"],1,#[.ret (.and (.ty .int (!0)) (.not (.ty .bool (!0))))],none⟩
def er:Def:=⟨["thing"],1,#[.ret (.and (.ty .tuple (!0)) (.and (.cmp .eq (.blt .len #[!0]) (¬2)) (.and (.call "is_whole" #[.sub (!0) (¬0)]) (.call "is_whole" #[.sub (!0) (¬1)]))))],none⟩
def cI:Def:=⟨["floor","spot"],2,#[.ret (.and (.ch .le .lt (¬0) (.sub (!1) (¬0)) (.blt .len #[!0])) (.ch .le .lt (¬0) (.sub (!1) (¬1)) (.blt .len #[.sub (!0) (.sub (!1) (¬0))])))],none⟩
noncomputable def cF:Def:=⟨["floor","thing"],2,#[.ret (.and (.call "is_spot" #[!1]) (.and (.call "is_on_floor" #[!0,!1]) (.cmp .ne (.sub (.sub (!0) (.sub (!1) (¬0))) (.sub (!1) (¬1))) (.glob "WALL" (.str "#")))))],none⟩
def aS:Def:=⟨["floor","spot"],2,#[.ite (.not (.call "is_open" #[!0,!1])) #[.raise "NoSpot" "the spot is not on the floor or a wall"] .nil],none⟩
noncomputable def fw:Def:=⟨["spot","rows","below","beside"],2,#[.set 2 (.comp 1 [0,1] (.one 0) (.kF (.bin .add (!1) (¬1))) (.tup #[.bin .add (.sub (!1) (¬0)) (!2),.bin .add (.sub (!1) (¬1)) (!0)])),.set 3 (.comp 1 [0,1] (.one 0) (.kF (!1)) (.tup #[.bin .add (.sub (!1) (¬0)) (!0),.bin .add (.sub (!1) (¬1)) (!2)])),.ret (.bin .add (!2) (!3))],none⟩
noncomputable def bH:Def:=⟨["floor","spot","rows"],2,#[.expr (.call "need_open" #[!0,!1]),.set 2 (¬1),.xo (.blt .all #[.comp 1 [0] (.one 0) (.seq (.call "rim_of" #[!1,!2])) (.call "is_open" #[!1,!0])]) #[.aug 2 .add (¬1)],.ret (!2)],none⟩
noncomputable def bZ:Def:=⟨["size"],1,#[.ite (.or (.not (.call "is_whole" #[!0])) (.not (.ch .le .le (¬1) (!0) (.glob "LONGEST" (.int 12))))) #[.raise "NoSize" "the size is not a whole number from 1 to 12"] .nil],none⟩
noncomputable def cG:Def:=⟨["floor","size","spot","sign"],3,#[.set 3 (.sub (.sub (!0) (.sub (!2) (¬0))) (.sub (!2) (¬1))),.ite (.and (.cmp .ne (!3) (.glob "WALL" (.str "#"))) (.cmp .lt (.call "clearance" #[!0,!2]) (!1))) #[.ret (.glob "WALL" (.str "#"))] .nil,.ret (!3)],none⟩
noncomputable def cE:Def:=⟨["floor","size","rows","row"],2,#[.expr (.call "need_size" #[!1]),.own 2 (.lst .nil),.di (.one 3) (.kF (.blt .len #[!0])) #[.app 2 (.Au .join (.cst (.str "")) #[.comp 1 [1,3,0] (.one 0) (.kF (.blt .len #[.sub (!0) (!3)])) (.call "shrunk_sign" #[!3,!1,.tup #[!2,!0]])])],.ret (.blt .tuple #[.fO 2])],none⟩
noncomputable def cT:Def:=⟨["one","other"],2,#[.ret (.and (.cmp .ne (!0) (!1)) (.and (.cmp .le (.blt .abs #[.bin .sub (.sub (!0) (¬0)) (.sub (!1) (¬0))]) (¬1)) (.cmp .le (.blt .abs #[.bin .sub (.sub (!0) (¬1)) (.sub (!1) (¬1))]) (¬1))))],none⟩
def dc:Def:=⟨["floor","spot"],2,#[.expr (.call "need_open" #[!0,!1]),.ret (.blt .int #[.sub (.sub (!0) (.sub (!1) (¬0))) (.sub (!1) (¬1))])],none⟩
def bw:Def:=⟨["floor","one","other"],3,#[.ret (.and (.call "is_open" #[!0,.tup #[.sub (!1) (¬0),.sub (!2) (¬1)]]) (.call "is_open" #[!0,.tup #[.sub (!2) (¬0),.sub (!1) (¬1)]]))],none⟩
noncomputable def bC:Def:=⟨["floor","walker","one","other","is_slanting","rise","flat_cost"],4,#[.ite (.not (.call "are_beside" #[!2,!3])) #[.ret (.cst .az)] .nil,.set 4 (.and (.cmp .ne (.sub (!2) (¬0)) (.sub (!3) (¬0))) (.cmp .ne (.sub (!2) (¬1)) (.sub (!3) (¬1)))),.ite (.and (!4) (.not (.and (.sub (!1) (¬0)) (.call "has_open_corners" #[!0,!2,!3])))) #[.ret (.cst .az)] .nil,.set 5 (.bin .sub (.call "height_at" #[!0,!3]) (.call "height_at" #[!0,!2])),.ite (.cmp .gt (.blt .abs #[!5]) (.sub (!1) (¬1))) #[.ret (.cst .az)] .nil,.set 6 (.ite (!4) (.glob "SLANTING_COST" (.int 3)) (.glob "STRAIGHT_COST" (.int 2))),.ret (.bin .add (!6) (.bin .mul (.sub (!1) (¬2)) (.blt .max2 #[!5,¬0])))],none⟩
noncomputable def bo:Def:=⟨["floor","spot","beside","row","column"],2,#[.own 2 (.lst .nil),.di (.one 3) (.qb (.bin .sub (.sub (!1) (¬0)) (¬1)) (.bin .add (.sub (!1) (¬0)) (¬2))) #[.di (.one 4) (.qb (.bin .sub (.sub (!1) (¬1)) (¬1)) (.bin .add (.sub (!1) (¬1)) (¬2))) #[.ite (.and (.cmp .ne (.tup #[!3,!4]) (!1)) (.call "is_open" #[!0,.tup #[!3,!4]])) #[.app 2 (.tup #[!3,!4])] .nil]],.bF 2,.ret (!2)],none⟩
noncomputable def cR:Def:=⟨["floor","walker","spot","steps","other","cost"],3,#[.expr (.call "need_open" #[!0,!2]),.own 3 (.lst .nil),.di (.one 4) (.seq (.call "open_spots_beside" #[!0,!2])) #[.set 5 (.call "step_cost" #[!0,!1,!2,!4]),.ite (.cmp .zj (!5) (.cst .az)) #[.app 3 (.tup #[!4,!5])] .nil],.bF 3,.ret (!3)],none⟩
noncomputable def dE:Def:=⟨["floor","walker","spot"],3,#[.ret (.comp 1 [1,2,0] (.one 0) (.seq (.call "steps_from" #[!0,!1,!2])) (.tup #[.sub (!0) (¬0),.call "step_cost" #[!3,!1,.sub (!0) (¬0),!2]]))],none⟩
noncomputable def bB:Def:=⟨["starts","steps","reached","waiting","start","spot","other","cost","together"],2,#[.lD 2,.lD 3,.di (.one 4) (.seq (!0)) #[.put 3 (!4) (.tup #[¬0,.cst .az])],.xo (.cmp .gt (.blt .len #[.fO 3]) (¬0)) #[.nD 5 3,.fj 2 3 5,.di (.two 6 7) (.seq (.mv 1 #[!5])) #[.set 8 (.bin .add (.sub (.sub (.fO 2) (!5)) (¬0)) (!7)),.ite (.and (.cmp .kH (!6) (.fO 2)) (.or (.cmp .kH (!6) (.fO 3)) (.cmp .lt (!8) (.sub (.sub (.fO 3) (!6)) (¬0))))) #[.put 3 (!6) (.tup #[!8,!5])] .nil]],.bF 2,.ret (!2)],some ("steps_to",[1,2,1,0])⟩
def cB:Def:=⟨["floor","walker","goals","goal"],3,#[.di (.one 3) (.seq (!2)) #[.expr (.call "need_open" #[!0,!3])],.ret (.sY "spread@steps_to" #[!2] "steps_to" [1,2,1,0] [1,0])],none⟩
noncomputable def fE:Def:=⟨["reached","place","trace"],2,#[.own 2 (.lst #[!1]),.xo (.cmp .zj (.sub (.sub (!0) (.sub (.fO 2) (.neg (¬1)))) (¬1)) (.cst .az)) #[.app 2 (.sub (.sub (!0) (.sub (.fO 2) (.neg (¬1)))) (¬1))],.bF 2,.ret (!2)],none⟩
noncomputable def bq:Def:=⟨["floor","walker","start","goal","reached"],4,#[.expr (.call "need_open" #[!0,!2]),.set 4 (.call "spread_to" #[!0,!1,.lst #[!3]]),.ite (.cmp .kH (!2) (!4)) #[.ret (.cst .az)] .nil,.ret (.tup #[.sub (.sub (!4) (!2)) (¬0),.call "traced" #[!4,!2]])],none⟩
def bX:Def:=⟨["floor","walker","size","start","goal"],5,#[.ret (.call "least_way" #[.call "shrunk" #[!0,!2],!1,!3,!4])],none⟩
noncomputable def aJ:Def:=⟨["_law_what","_law_floor_here","_law_walker_here","_law_size","_law_start","_law_goal","_law_kept","_law_answer","e"],6,#[.set 6 (.cst .az),.set 7 (.cst .az),.vi #[.ite (.cmp .eq (!0) (¬0)) #[.set 7 (.call "clearance" #[!1,!4])] #[.ite (.cmp .eq (!0) (¬1)) #[.set 7 (.call "shrunk" #[!1,!3])] #[.set 7 (.call "great_way" #[!1,!2,!3,!4,!5])]]] "FloorError" 8 6,.ite (.cmp .is (!6) (.cst .az)) #[.ret (!7)] .nil,.ret (.call "_law_word" #[!6])],none⟩
noncomputable def bV:Def:=⟨["_law_floor_here","_law_walker_here","_law_spot","_law_goal","_law_rise","_law_cost_here"],4,#[.set 4 (.bin .sub (.blt .int #[.sub (.sub (!0) (.sub (!3) (¬0))) (.sub (!3) (¬1))]) (.blt .int #[.sub (.sub (!0) (.sub (!2) (¬0))) (.sub (!2) (¬1))])),.set 5 (¬2),.ite (.or (.cmp .gt (!4) (.sub (!1) (¬1))) (.cmp .gt (.bin .sub (¬0) (!4)) (.sub (!1) (¬1)))) #[.ret (.cst .az)] .nil,.ite (.and (.cmp .ne (.sub (!2) (¬0)) (.sub (!3) (¬0))) (.cmp .ne (.sub (!2) (¬1)) (.sub (!3) (¬1)))) #[.ite (.or (.not (.sub (!1) (¬0))) (.or (.cmp .eq (.sub (.sub (!0) (.sub (!2) (¬0))) (.sub (!3) (¬1))) (.cst (.str "#"))) (.cmp .eq (.sub (.sub (!0) (.sub (!3) (¬0))) (.sub (!2) (¬1))) (.cst (.str "#"))))) #[.ret (.cst .az)] .nil,.set 5 (¬3)] .nil,.ret (.bin .add (!5) (.ite (.cmp .gt (!4) (¬0)) (.bin .mul (.sub (!1) (¬2)) (!4)) (¬0)))],none⟩
noncomputable def bA:Def:=⟨["_law_floor_here","_law_walker_here","_law_spot","_law_made","_law_k","_law_row","_law_column","_law_cost_here"],3,#[.own 3 (.lst .nil),.di (.one 4) (.kF (¬9)) #[.set 5 (.bin .add (.bin .sub (.sub (!2) (¬0)) (¬1)) (.bin .fdiv (!4) (¬3))),.set 6 (.bin .add (.bin .sub (.sub (!2) (¬1)) (¬1)) (.bin .mod (!4) (¬3))),.ite (.and (.ch .le .lt (¬0) (!5) (.blt .len #[!0])) (.and (.ch .le .lt (¬0) (!6) (.blt .len #[.sub (!0) (¬0)])) (.and (.cmp .ne (!4) (¬4)) (.cmp .ne (.sub (.sub (!0) (!5)) (!6)) (.cst (.str "#")))))) #[.set 7 (.call "_law_cost" #[!0,!1,!2,.tup #[!5,!6]]),.ite (.cmp .zj (!7) (.cst .az)) #[.app 3 (.tup #[.tup #[!5,!6],!7])] .nil] .nil],.bF 3,.ret (!3)],none⟩
noncomputable def bY:Def:=⟨["_law_floor_here","_law_walker_here","_law_starts","_law_steps_here","_law_costs_here","_law_again","_law_spot","_law_goal","_law_cost_here"],3,#[.set 3 (.blt .dict #[.comp 1 [1,0] (.one 0) (.seq (.call "_law_spots" #[!0])) (.tup #[!0,.call "_law_steps" #[!2,!1,!0]])]),.pY 4 (.comp 1 [] (.one 0) (.seq (!2)) (.tup #[!0,¬0])),.set 5 (.cst (.bl true)),.xo (!5) #[.set 5 (.cst (.bl false)),.di (.one 6) (.seq (.blt .mS #[.fO 4])) #[.di (.two 7 8) (.seq (.sub (!3) (!6))) #[.ite (.or (.cmp .kH (!7) (.fO 4)) (.cmp .lt (.bin .add (.sub (.fO 4) (!6)) (!8)) (.sub (.fO 4) (!7)))) #[.put 4 (!7) (.bin .add (.sub (.fO 4) (!6)) (!8)),.set 5 (.cst (.bl true))] .nil]]],.bF 4,.ret (!4)],none⟩
noncomputable def cM:Def:=⟨["_law_floor_here","_law_walker_here","_law_way","_law_spots_here","_law_cost_here","_law_k","_law_goal","_law_found"],3,#[.set 3 (.call "_law_spots" #[!0]),.ite (.or (.not (.ty .list (!2))) (.or (.cmp .eq (!2) (.lst .nil)) (.cmp .ne (.cQ 1 [3] (.one 0) (.seq (!2)) (.cmp .kH (!0) (!1)) (!0)) (.lst .nil)))) #[.ret (.cst .az)] .nil,.set 4 (¬0),.di (.two 5 6) (.enum (.slice (!2) (.some (¬1)) .no)) #[.set 7 (.cQ 1 [6] (.one 0) (.seq (.call "_law_steps" #[!0,!1,.sub (!2) (!5)])) (.cmp .eq (.sub (!0) (¬0)) (!1)) (.sub (!0) (¬1))),.ite (.cmp .eq (!7) (.lst .nil)) #[.ret (.cst .az)] .nil,.set 4 (.bin .add (!4) (.sub (!7) (¬0)))],.ret (!4)],none⟩
noncomputable def j8:Def:=⟨["_law_script","_law_floor_here","_law_walker_here","_law_spots_here","_law_start","_law_size","_law_small","_law_goal","_law_answer","_law_costs_here","_law_less"],1,#[.set 1 (.call "_law_floor" #[!0,¬0,¬5]),.set 2 (.call "_law_walker" #[!0,¬40]),.set 3 (.call "_law_spots" #[!1]),.set 4 (.call "_law_any_spot" #[!0,¬50,!1]),.ite (.cmp .ne (.call "_law_tried" #[¬0,!1,!2,¬1,!4,.cst .az]) (.ite (.cmp .Km (!4) (!3)) (.call "_law_clear" #[!1,!4]) (.cst (.str "no spot")))) #[.ret (.cst (.bl false))] .nil,.ite (.cmp .ne (.comp 1 [2,4,1] (.one 0) (.kF (¬4)) (.call "_law_tried" #[.bin .add (¬1) (.bin .mod (!0) (¬2)),!3,!1,.sub (.lst #[¬0,¬13,.neg (¬1),¬0]) (!0),!2,!2])) (.bin .mul (.lst #[.cst (.str "no size")]) (¬4))) #[.ret (.cst (.bl false))] .nil,.set 5 (.bin .add (¬1) (.call "_law_pick" #[!0,¬52,¬3])),.set 6 (.call "_law_shrunk" #[!1,!5]),.ite (.or (.cmp .ne (.call "shrunk" #[!1,!5]) (!6)) (.or (.cmp .ne (.call "shrunk" #[!1,¬1]) (!1)) (.cmp .eq (!3) (.lst .nil)))) #[.ret (.and (.cmp .eq (!3) (.lst .nil)) (.cmp .eq (.call "shrunk" #[!1,!5]) (!6)))] .nil,.set 4 (.sub (!3) (.call "_law_pick" #[!0,¬53,.blt .len #[!3]])),.set 7 (.sub (!3) (.call "_law_pick" #[!0,¬54,.blt .len #[!3]])),.set 8 (.call "_law_tried" #[¬2,!1,!2,!5,!4,!7]),.ite (.or (.cmp .kH (!4) (.call "_law_spots" #[!6])) (.cmp .kH (!7) (.call "_law_spots" #[!6]))) #[.ret (.cmp .eq (!8) (.cst (.str "no spot")))] .nil,.set 9 (.call "_law_costs" #[!6,!2,.lst #[!4]]),.ite (.cmp .kH (!7) (!9)) #[.ret (.cmp .is (!8) (.cst .az))] .nil,.ite (.or (.cmp .ne (.sub (!8) (¬0)) (.sub (!9) (!7))) (.cmp .ne (.call "_law_sum" #[!6,!2,.sub (!8) (¬1)]) (.sub (!9) (!7)))) #[.ret (.cst (.bl false))] .nil,.ite (.or (.cmp .ne (.sub (.sub (!8) (¬1)) (¬0)) (!4)) (.cmp .ne (.sub (.sub (!8) (¬1)) (.neg (¬1))) (!7))) #[.ret (.cst (.bl false))] .nil,.set 10 (.call "_law_tried" #[¬2,!1,!2,.blt .max2 #[¬1,.bin .sub (!5) (¬1)],!4,!7]),.ret (.and (.cmp .zj (!10) (.cst .az)) (.and (.cmp .le (.sub (!10) (¬0)) (.sub (!8) (¬0))) (.cmp .le (.sub (.call "least_way" #[!1,!2,!4,!7]) (¬0)) (.sub (!10) (¬0)))))],none⟩
end
def T0:List (Str×Def):=[]
noncomputable def T1:List (Str×Def):=(("_law_cell":Str),dg)::T0
noncomputable def T2:List (Str×Def):=(("_law_pick":Str),bI)::T1
noncomputable def T3:List (Str×Def):=(("_law_floor":Str),cC)::T2
noncomputable def T4:List (Str×Def):=(("_law_walker":Str),cJ)::T3
noncomputable def T5:List (Str×Def):=(("_law_spots":Str),bz)::T4
noncomputable def T6:List (Str×Def):=(("_law_any_spot":Str),bT)::T5
noncomputable def T7:List (Str×Def):=(("_law_clear":Str),bU)::T6
noncomputable def T8:List (Str×Def):=(("_law_shrunk":Str),cH)::T7
noncomputable def T9:List (Str×Def):=(("_law_word":Str),df)::T8
noncomputable def P6:List (Str×Def):=(("is_whole":Str),dG)::T9
noncomputable def S9:List (Str×Def):=(("is_spot":Str),er)::P6
noncomputable def Ht:List (Str×Def):=(("is_on_floor":Str),cI)::S9
noncomputable def D3:List (Str×Def):=(("is_open":Str),cF)::Ht
noncomputable def RJ:List (Str×Def):=(("need_open":Str),aS)::D3
noncomputable def Ki:List (Str×Def):=(("rim_of":Str),fw)::RJ
noncomputable def OO:List (Str×Def):=(("clearance":Str),bH)::Ki
noncomputable def P2:List (Str×Def):=(("need_size":Str),bZ)::OO
noncomputable def GJ:List (Str×Def):=(("shrunk_sign":Str),cG)::P2
noncomputable def Se:List (Str×Def):=(("shrunk":Str),cE)::GJ
noncomputable def QW:List (Str×Def):=(("are_beside":Str),cT)::Se
noncomputable def PU:List (Str×Def):=(("height_at":Str),dc)::QW
noncomputable def IH:List (Str×Def):=(("has_open_corners":Str),bw)::PU
noncomputable def QM:List (Str×Def):=(("step_cost":Str),bC)::IH
noncomputable def LF:List (Str×Def):=(("open_spots_beside":Str),bo)::QM
noncomputable def Nj:List (Str×Def):=(("steps_from":Str),cR)::LF
noncomputable def OP:List (Str×Def):=(("steps_to":Str),dE)::Nj
noncomputable def LS:List (Str×Def):=(("spread@steps_to":Str),bB)::OP
noncomputable def Sr:List (Str×Def):=(("spread_to":Str),cB)::LS
noncomputable def JC:List (Str×Def):=(("traced":Str),fE)::Sr
noncomputable def OH:List (Str×Def):=(("least_way":Str),bq)::JC
noncomputable def xr:List (Str×Def):=(("great_way":Str),bX)::OH
noncomputable def RP:List (Str×Def):=(("_law_tried":Str),aJ)::xr
noncomputable def MH:List (Str×Def):=(("_law_cost":Str),bV)::RP
noncomputable def OY:List (Str×Def):=(("_law_steps":Str),bA)::MH
noncomputable def OW:List (Str×Def):=(("_law_costs":Str),bY)::OY
noncomputable def vj:List (Str×Def):=(("_law_sum":Str),cM)::OW
theorem NX:den T1 "_law_cell"=aq (den T0) dg:=dk 0
theorem Ms:den T2 "_law_pick"=aq (den T1) bI:=dk 0
theorem Nf:den T3 "_law_pick"=aq (den T1) bI:=dk 1
theorem Nt:den T5 "_law_pick"=aq (den T1) bI:=dk 3
theorem LR:den T6 "_law_spots"=aq (den T4) bz:=dk 1
theorem Mg:den T7 "_law_clear"=aq (den T6) bU:=dk 0
theorem F8:den P6 "is_whole"=aq (den T9) dG:=dk 0
theorem Di:den Ht "is_spot"=aq (den P6) er:=dk 1
theorem Gd:den Ht "is_on_floor"=aq (den S9) cI:=dk 0
theorem vw:den D3 "is_open"=aq (den Ht) cF:=dk 0
theorem vB:den Ki "need_open"=aq (den D3) aS:=dk 1
theorem Fs:den Ki "rim_of"=aq (den RJ) fw:=dk 0
theorem DQ:den Ki "is_open"=aq (den Ht) cF:=dk 2
theorem Fp:den OO "is_whole"=aq (den T9) dG:=dk 6
theorem ES:den P2 "clearance"=aq (den Ki) bH:=dk 1
theorem wY:den GJ "need_size"=aq (den OO) bZ:=dk 1
theorem Eg:den GJ "shrunk_sign"=aq (den P2) cG:=dk 0
theorem FX:den QW "need_open"=aq (den D3) aS:=dk 6
theorem DG:den PU "is_open"=aq (den Ht) cF:=dk 8
theorem FC:den IH "are_beside"=aq (den Se) cT:=dk 2
theorem DR:den IH "has_open_corners"=aq (den PU) bw:=dk 0
theorem Dh:den IH "height_at"=aq (den QW) dc:=dk 1
theorem EV:den QM "is_open"=aq (den Ht) cF:=dk 10
theorem F1:den LF "need_open"=aq (den D3) aS:=dk 10
theorem FT:den LF "open_spots_beside"=aq (den QM) bo:=dk 0
theorem EZ:den LF "step_cost"=aq (den IH) bC:=dk 1
theorem Ek:den Nj "steps_from"=aq (den LF) cR:=dk 0
theorem Dt:den Nj "step_cost"=aq (den IH) bC:=dk 2
theorem EI:den OP "steps_to"=aq (den Nj) dE:=dk 0
theorem vO:den LS "need_open"=aq (den D3) aS:=dk 13
theorem Ey:den LS "spread@steps_to"=aq (den OP) bB:=dk 0
theorem pB:den JC "need_open"=aq (den D3) aS:=dk 15
theorem xk:den JC "spread_to"=aq (den LS) cB:=dk 1
theorem FA:den JC "traced"=aq (den Sr) fE:=dk 0
theorem wX:den OH "least_way"=aq (den JC) bq:=dk 0
theorem vn:den OH "shrunk"=aq (den GJ) cE:=dk 11
theorem wc:den xr "clearance"=aq (den Ki) bH:=dk 15
theorem ED:den xr "shrunk"=aq (den GJ) cE:=dk 12
theorem wy:den xr "great_way"=aq (den OH) bX:=dk 0
theorem z9:den xr "_law_word"=aq (den T8) df:=dk 22
theorem Fb:den MH "_law_cost"=aq (den RP) bV:=dk 0
theorem HC:den OY "_law_spots"=aq (den T4) bz:=dk 29
theorem Ft:den OY "_law_steps"=aq (den MH) bA:=dk 0
theorem Ip:den OW "_law_spots"=aq (den T4) bz:=dk 30
theorem FK:den OW "_law_steps"=aq (den MH) bA:=dk 1
theorem KQ:den vj "_law_floor"=aq (den T2) cC:=dk 33
theorem Js:den vj "_law_walker"=aq (den T3) cJ:=dk 32
theorem JQ:den vj "_law_spots"=aq (den T4) bz:=dk 31
theorem HN:den vj "_law_any_spot"=aq (den T5) bT:=dk 30
theorem qa:den vj "_law_tried"=aq (den xr) aJ:=dk 4
theorem IB:den vj "_law_clear"=aq (den T6) bU:=dk 29
theorem KD:den vj "_law_pick"=aq (den T1) bI:=dk 34
theorem Kl:den vj "_law_shrunk"=aq (den T7) cH:=dk 28
theorem Fn:den vj "shrunk"=aq (den GJ) cE:=dk 17
theorem Gg:den vj "_law_costs"=aq (den OY) bY:=dk 1
theorem Fv:den vj "_law_sum"=aq (den OW) cM:=dk 0
theorem FV:den vj "least_way"=aq (den JC) bq:=dk 6
abbrev sp(r c:Int):PV:=.tup [.int r,.int c]
abbrev iw(ns:List Int):PV:=.lst (ns.map .int)
theorem aI{i:Int}:d5 .abs [.int i]=.ok (.int (if i<0 then -i else i)):=rfl
theorem mX{i j:Int}:d5 .max2 [.int i,.int j]=.ok (.int (if j>i then j else i)):=rfl
theorem RE:dC .gt=uz:=rfl
theorem TB{i j:Int}:uz (.int i) (.int j)=.ok (.bl (decide (j<i))):=rfl
theorem N4:dC .zj=fy:=rfl
abbrev wk(sl:Bool)(cl pr:Int):PV:=.tup [.bl sl,.int cl,.int pr]
theorem Mp{r c:Int}:aD (sp r c) (.int 0)=.ok (.int r):=rfl
theorem Md{r c:Int}:aD (sp r c) (.int 1)=.ok (.int c):=rfl
theorem TJ{sl:Bool}{cl pr:Int}:aD (wk sl cl pr) (.int 0)=.ok (.bl sl):=rfl
theorem RC{sl:Bool}{cl pr:Int}:aD (wk sl cl pr) (.int 1)=.ok (.int cl):=rfl
theorem Tz{sl:Bool}{cl pr:Int}:aD (wk sl cl pr) (.int 2)=.ok (.int pr):=rfl
theorem nI{i j:Int}:gb (.int i) (.int j)=.ok (.bl (!(i==j))):=rfl
theorem eI{i j:Int}:fG (.int i) (.int j)=.ok (.bl (i==j)):=rfl
theorem nS{r c r' c':Int}:gb (sp r c) (sp r' c')=.ok (.bl (!((r==r')&&((c==c')&&true)))):=rfl
theorem eS{r c r' c':Int}:fG (sp r c) (sp r' c')=.ok (.bl ((r==r')&&((c==c')&&true))):=rfl
theorem Sa:dC .is=j6:=rfl
theorem J4{α β:Type}{c:Str}{f:α->Res β}:(Res.exc c:Res α).bind f=.exc c:=rfl
noncomputable def J2:=And.intro @Mp (And.intro @Md (And.intro @TJ (And.intro @RC (And.intro @Tz (And.intro @aI (And.intro @mX (And.intro @RE (And.intro @TB (And.intro @nI (And.intro @eI (And.intro @nS (And.intro @eS (And.intro @N4 (And.intro @Sa (And.intro @J4 (And.intro @Pm (And.intro @Of (@Oz))))))))))))))))))
set_option hygiene false
local macro_rules | `(tactic| simp! only [$x,*] $[$l:location]?) => `(tactic| simp only [aq, cx, cy, aF, fH, aK, cU, uA, qI, fK, jx, il, List.replicate, Nat.reduceAdd, Nat.reduceSub, reduceIte, ite_true, ite_false, BEq.rfl, beq_self_eq_true, m6, Hb, SG, Si, Ri, Sf, sv, Tr, S1, CV, Hc, Gk, Gv, NJ, Ob, Mm, Ny, Sw, Sm, RQ, Ru, TK, RN, MD, oLt, oLe, Rw, lL, lT, lS, tL, aL, Sh, Sx, Fx, jA, jB, jC, jD, jE, jF, jG, jH, jI, jJ, jK, jL, jM, jN, jO, jP, KJ.eU, SK, Of, Pm, Oz, Sj, jQ, jR, Mp, Md, TJ, RC, Tz, aI, mX, RE, TB, nI, eI, nS, eS, N4, Sa, J4, $x,*] $[$l]?)
local macro_rules | `(tactic| dsimp! only [$x,*] $[$l:location]?) => `(tactic| simp only [aq, cx, cy, aF, fH, aK, cU, uA, qI, fK, jx, il, List.replicate, Nat.reduceAdd, Nat.reduceSub, reduceIte, ite_true, ite_false, BEq.rfl, beq_self_eq_true, J, J2, $x,*] $[$l]?)
set_option hygiene true
theorem ji(F:aN)(i:Int):aq F dG [.int i]=.ok (.bl true):=by rfl
theorem gM{α:Type}{xs:List α}{k:Nat}(h:k<xs.length):pV xs (k:Int)=some xs[k]:=by
 unfold pV Hh;have:((k:Nat):Int)<(xs.length:Int):=by omega
 simp [this,h]
theorem vm{ns:List Int}{k:Int}(h0:0<=k)(h:k<ns.length):∃m,pV (ns.map PV.int) k=some (.int m):=by
 obtain⟨j,rfl⟩:=Int.eq_ofNat_of_zero_le h0
 refine⟨ns[j]'(by omega),?_⟩;rw [gM (k:=j) (by simp;omega)];simp
theorem CG(ns:List Int)(n:Nat):Ci.plain (n+1) (.lst (ns.map .int))=true:=by
 simp only [Ci.plain,zzT,List.mem_map]
 rintro x ⟨i,_,rfl⟩
 cases n<;>rfl
theorem eq_nil(ns:List Int):fG (iw ns) (.lst [])=.ok (.bl (decide (ns=[]))):=by
 have e:tG (iw ns)=true:=CG ns 8
 unfold fG;rw [e];cases ns<;>rfl
theorem DV(F:aN)(ns:List Int)(k:Int)(hk:0<=k):∃m,aq F dg [iw ns,.int k]=.ok (.int m):=by
 simp! only [dg,zzl,eq_nil]
 by_cases h:k<(ns.length:Int)
 ·obtain⟨m,e⟩:=vm hk h
  refine⟨m,?_⟩;simp! only [h,decide_true,aD,e]
 ·simp! only [h,decide_false,eq_nil];cases ns with
  |nil=>exact⟨0,rfl⟩
  |cons n ns=>
   have hl:(0:Int)<((n::ns).length:Int):=by simp only [zzL];omega
   obtain⟨m,e⟩:=vm (ns:=n::ns) (k:=k%((n::ns).length:Int)) (Int.emod_nonneg _ (by omega)) (Int.emod_lt_of_pos _ hl)
   refine⟨m*31+k,?_⟩;have e3:(aR m||aR 31)=true:=by rw [Bool.or_eq_true];exact .inr (by decide)
   have e4:aD (iw (n::ns)) (.int (k%((n::ns).length:Int)))=.ok (.int m):=by simp only [aD,e];rfl
   have e5:decide ((n::ns)=[])=false:=rfl
   simp only [zzL] at hl e4;simp! only [e5,zzl,hl,e4,e3]
theorem Dv(F:aN)(hc:∀ns k,0<=k->∃m,F "_law_cell" [iw ns,.int k]=.ok (.int m))(ns:List Int)(k q:Int)(hk:0<=k)(hq:0<q):∃m,aq F bI [iw ns,.int k,.int q]=.ok (.int m)/\0<=m/\m<q:=by
 obtain⟨m,e⟩:=hc ns k hk
 have s1:(aR 6151||aR (k+1))=true:=by rw [Bool.or_eq_true];exact .inl (by decide)
 have s2:(aR (m+6151*(k+1))||aR 40692)=true:=by rw [Bool.or_eq_true];exact .inr (by decide)
 have s3:(0:Int)<2147483399:=by decide
 have s4:(0:Int)<2147483629:=by decide
 have s5:(0:Int)<31/\(31:Int)<1073741824:=by decide
 have a0:=Int.emod_nonneg ((m+6151*(k+1))*40692) (b:=2147483399) (by decide)
 have a1:=Int.emod_lt_of_pos ((m+6151*(k+1))*40692) s3
 refine⟨((((m+6151*(k+1))*40692%2147483399)*((m+6151*(k+1))*40692%2147483399)+((m+6151*(k+1))*40692%2147483399)/31)%2147483629)%q,?_,Int.emod_nonneg _ (by omega),Int.emod_lt_of_pos _ hq⟩;generalize hd:(m+6151*(k+1))*40692%2147483399=d at a0 a1
 have s6:(aR d||aR d)=true:=by
  have:aR d=true:=by simp only [aR,zza,zzN];omega
  rw [this];rfl
 simp! only [bI,iw] at e⊢;simp! only [e,s1,s2,s3,s4,s5,hd,s6,hq,and_self]
def eT(rows:List Str):Prop:=rows.length<=6/\∀z∈rows,z.length<=6
abbrev fl(rows:List Str):PV:=.tup (rows.map .str)
def cd(rows:List Str)(r c:Nat):Option Nat:=(rows[r]?).bind λz=>z.cps.toList[c]?
def tH(rows:List Str)(r c:Nat):Bool:=match cd rows r c with|some x=>x !=35|none=>false
def aX(rows:List Str)(r c:Int):Bool:=decide (0<=r)&&decide (0<=c)&&tH rows r.toNat c.toNat
theorem uR(F:aN)(h:∀i,F "is_whole" [.int i]=.ok (.bl true))(r c:Int):aq F er [sp r c]=.ok (.bl true):=by
 have e0:aD (sp r c) (.int 0)=.ok (.int r):=rfl
 have e1:aD (sp r c) (.int 1)=.ok (.int c):=rfl
 have e2:fG (.int ((2:Nat):Int)) (.int 2)=.ok (.bl true):=rfl
 simp! only [er,tX,h,e0,e1,e2]
theorem Mi(F:aN)(rows:List Str)(R:eT rows)(r c:Int):aq F cI [fl rows,sp r c]=.ok (.bl (decide (0<=r)&&decide (0<=c)&&(cd rows r.toNat c.toNat).isSome)):=by
 have e0:aD (sp r c) (.int 0)=.ok (.int r):=rfl
 have e1:aD (sp r c) (.int 1)=.ok (.int c):=rfl
 simp! only [cI,tX,e0,e1,pZ,sL,zzl]
 by_cases h0:0<=r
 ·by_cases h1:r<(rows.length:Int)
  ·obtain⟨j,rfl⟩:=Int.eq_ofNat_of_zero_le h0
   have hj:j<rows.length:=by omega
   have e2:aD (fl rows) (.int (j:Int))=.ok (.str rows[j]):=by
    simp only [aD,fl];rw [gM (k:=j) (by simpa using hj)];simp [Res.of]
   have e3:(rows[j]).length<=dA:=zzU (R.2 _ (List.getElem_mem hj)) (by decide)
   have e4:(rows[j]).cps.size=(rows[j]).length:=rfl
   simp! only [h0,h1,decide_true,e2,e3]
   by_cases h2:0<=c
   ·obtain⟨i,rfl⟩:=Int.eq_ofNat_of_zero_le h2
    simp! only [h2,decide_true,cd,Int.toNat_natCast,zzg hj,Option.bind_some,Bool.and_self,Bool.true_and,Res.ok.injEq,PV.bl.injEq];rw [Bool.eq_iff_iff];simp [e4]
   ·simp [aq,cx,cy,aF,fH,aK,cU,uA,qI,fK,jx,il,List.replicate,Nat.reduceAdd,Nat.reduceSub,reduceIte,ite_true,ite_false,BEq.rfl,beq_self_eq_true,J,h2]
  ·have:cd rows r.toNat c.toNat=none:=by
    unfold cd;rw [List.getElem?_eq_none (by omega)];rfl
   simp [aq,cx,cy,aF,fH,aK,cU,uA,qI,fK,jx,il,List.replicate,Nat.reduceAdd,Nat.reduceSub,reduceIte,ite_true,ite_false,BEq.rfl,beq_self_eq_true,J,h0,h1,this]
 ·simp [aq,cx,cy,aF,fH,aK,cU,uA,qI,fK,jx,il,List.replicate,Nat.reduceAdd,Nat.reduceSub,reduceIte,ite_true,ite_false,BEq.rfl,beq_self_eq_true,J,h0]
theorem uE{rows:List Str}{j:Nat}{z:Str}(h:rows[j]?=some z):aD (fl rows) (.int (j:Int))=.ok (.str z):=by
 obtain⟨hj,rfl⟩:=zzH.1 h
 simp only [aD,fl];rw [gM (k:=j) (by simpa using hj)];simp [Res.of]
theorem DT{z:Str}{i x:Nat}(hz:z.length<=dA)(h:z.cps.toList[i]?=some x):aD (.str z) (.int (i:Int))=.ok (.str ⟨#[x]⟩):=by
 obtain⟨hj,rfl⟩:=zzH.1 h
 simp only [aD,hz,if_true];rw [gM (k:=i) hj]
 rfl
theorem wx{rows:List Str}(R:eT rows){j i x:Nat}(h:cd rows j i=some x):∃z,rows[j]?=some z/\aD (fl rows) (.int (j:Int))=.ok (.str z)/\aD (.str z) (.int (i:Int))=.ok (.str ⟨#[x]⟩):=by
 unfold cd at h;cases hz:rows[j]? with
 |none=>rw [hz] at h;cases h
 |some z=>
  rw [hz] at h;exact⟨z,rfl,uE hz,DT (zzU (R.2 _ (zzD hz)) (by decide)) h⟩
theorem oQ(x:Nat):gb (.str ⟨#[x]⟩) (.str "#")=.ok (.bl (x !=35)):=by
 have:(("#":Str))=⟨#[35]⟩:=by decide+kernel
 rw [this];show Res.ok (PV.bl (!((⟨#[x]⟩:Str)==⟨#[35]⟩)))=_
 congr 2
 rw [bne,Bool.eq_iff_iff];simp
theorem DL(F:aN)(hs:∀r c,F "is_spot" [sp r c]=.ok (.bl true))(ho:∀rows,eT rows->∀r c,F "is_on_floor" [fl rows,sp r c]=.ok (.bl (decide (0<=r)&&decide (0<=c)&&(cd rows r.toNat c.toNat).isSome)))
 (rows:List Str) (R:eT rows) (r c:Int):aq F cF [fl rows,sp r c]=.ok (.bl (aX rows r c)):=by
 have e0:aD (sp r c) (.int 0)=.ok (.int r):=rfl
 have e1:aD (sp r c) (.int 1)=.ok (.int c):=rfl
 simp! only [cF,hs,ho rows R,e0,e1];unfold aX tH
 by_cases h0:0<=r
 ·by_cases h1:0<=c
  ·obtain⟨j,rfl⟩:=Int.eq_ofNat_of_zero_le h0
   obtain⟨i,rfl⟩:=Int.eq_ofNat_of_zero_le h1
   simp only [h0,h1,decide_true,Bool.true_and,Bool.and_self,Int.toNat_natCast];cases hc:cd rows j i with
   |none=>simp [aq,cx,cy,aF,fH,aK,cU,uA,qI,fK,jx,il,List.replicate,Nat.reduceAdd,Nat.reduceSub,reduceIte,ite_true,ite_false,BEq.rfl,beq_self_eq_true,J]
   |some x=>
    obtain⟨z,_,e2,e3⟩:=wx R hc
    simp! only [Option.isSome_some,e2,e3,oQ]
  ·simp [aq,cx,cy,aF,fH,aK,cU,uA,qI,fK,jx,il,List.replicate,Nat.reduceAdd,Nat.reduceSub,reduceIte,ite_true,ite_false,BEq.rfl,beq_self_eq_true,J,h1]
 ·simp [aq,cx,cy,aF,fH,aK,cU,uA,qI,fK,jx,il,List.replicate,Nat.reduceAdd,Nat.reduceSub,reduceIte,ite_true,ite_false,BEq.rfl,beq_self_eq_true,J,h0]
theorem qi(F:aN)(ho:∀rows,eT rows->∀r c,F "is_open" [fl rows,sp r c]=.ok (.bl (aX rows r c)))(rows:List Str)(R:eT rows)(r c:Int)(h:aX rows r c=true):aq F aS [fl rows,sp r c]=.ok .az:=by
 simp! only [aS,ho rows R,h]
abbrev F9(p:Int×Int):PV:=sp p.1 p.2
theorem dh{α:Type}{f:PV->Res (Option PV)}{p:α->PV}{g:α->PV}:∀{xs:List α},(∀x∈xs,f (p x)=.ok (some (g x)))->aV f (xs.map p)=.ok (xs.map g)
 |[],_=>rfl
 |x::xs,h=>by
  simp only [zzF,aV,h x (zzP ..),Res.well,Res.bind,dh (xs:=xs) λy hy=>h y (zzI _ hy),oc]
theorem d8{rows:List Str}{r c:Int}:aX rows r c=true↔0<=r/\0<=c/\tH rows r.toNat c.toNat=true:=by
 simp only [aX,zza,zzN,and_assoc]
theorem Bl{rows:List Str}(R:eT rows){r c:Int}(h:aX rows r c=true):0<=r/\r<6:=by
 obtain⟨h0,_,h2⟩:=d8.1 h
 refine⟨h0,?_⟩;unfold tH cd at h2;cases hz:rows[r.toNat]? with
 |none=>rw [hz] at h2;cases h2
 |some z=>
  obtain⟨hj,_⟩:=zzH.1 hz
  have:=R.1
  omega
theorem ef{body:PV->Sl->Res Fl}{P:Nat->Sl->Prop}:∀(xs:List PV) (k:Nat) (env:Sl),P k env->(∀i x env,xs[i]?=some x->P (k+i) env->∃aw,body x env=.ok (.nx aw)/\P (k+i+1) aw)->∃aw,forL body xs env=.ok (.nx aw)/\P (k+xs.length) aw
 |[],k,env,h,_=>⟨env,rfl,h⟩
 |x::xs,k,env,h,g=>by
  obtain⟨e1,b1,p1⟩:=g 0 x env rfl h
  obtain⟨e2,b2,p2⟩:=ef xs (k+1) e1 p1 λi y env hy hp=>by
   obtain⟨e3,b3,p3⟩:=g (i+1) y env hy (by rw [show k+(i+1)=k+1+i by omega];exact hp)
   exact⟨e3,b3,by rw [show k+1+i+1=k+(i+1)+1 by omega];exact p3⟩
  refine⟨e2,?_,by rw [zzL,show k+(xs.length+1)=k+1+xs.length by omega];exact p2⟩;simp only [forL,b1,m6,b2]
theorem uL{n i:Nat}{x:PV}(h:(dW 0 n)[i]?=some x):i<n/\x=.int (i:Int):=by
 simp only [dW,zzQ,zzJ] at h;obtain⟨j,hj,rfl⟩:=h
 obtain⟨h1,h2⟩:=zzH.1 hj
 simp only [List.getElem_range] at h2;subst h2;simp only [List.length_range] at h1;exact⟨h1,by simp⟩
def iN(F:aN):Prop:=∀(ns:List Int) (k q:Int),0<=k->0<q->∃m,F "_law_pick" [iw ns,.int k,.int q]=.ok (.int m)/\0<=m/\m<q
theorem qq{a b c d m:Int}(h0:0<=m)(h1:m<4):∃v,aD (.lst [.int a,.int b,.int c,.int d]) (.int m)=.ok (.int v)/\(v=a\/v=b\/v=c\/v=d):=by
 have:m=0\/m=1\/m=2\/m=3:=by omega
 rcases this with rfl|rfl|rfl|rfl
 ·exact⟨a,rfl,.inl rfl⟩
 ·exact⟨b,rfl,.inr (.inl rfl)⟩
 ·exact⟨c,rfl,.inr (.inr (.inl rfl))⟩
 ·exact⟨d,rfl,.inr (.inr (.inr rfl))⟩
noncomputable def Gm:Ss:=(.cons (.set 11 (.call "_law_pick" (.cons (.var 0) (.cons (.bin .add (.bin .add (.bin .add (.var 1) (.cst (.int 4))) (.bin .mul (.var 2) (.var 8))) (.var 10)) (.cons (.bin .mul (.cst (.int 12)) (.var 6)) .nil)))))
 (.cons (.set 9 (.bin .add (.var 9) (.ite (.cmp .lt (.bin .mod (.var 11) (.cst (.int 12))) (.var 5)) (.cst (.str "#")) (.blt .str (.cons (.bin .fdiv (.var 11) (.cst (.int 12))) .nil)))))
 .nil))
noncomputable def K1:Ss:=(.cons (.set 9 (.cst (.str "")))
 (.cons (.di (.one 10) (.kF (.var 4)) Gm)
 (.cons (.app 7 (.var 9))
 .nil)))
structure Fl(rows:List Str)(w:Nat):Prop where
 kE:eT rows
 ne:0<rows.length
 w1:1<=w
 Br:∀z∈rows,z.length=w
 dig:∀z∈rows,∀x∈z.cps.toList,x=35\/(48<=x/\x<=57)
theorem El{v:Int}(h0:0<=v)(h1:v<10):d5 .str [.int v]=.ok (.str ⟨#[48+v.toNat]⟩):=by
 obtain⟨n,rfl⟩:=Int.eq_ofNat_of_zero_le h0
 have key:∀k:Fin 10,(((k.1:Nat):Int).natAbs.log2<1920)/\((toString ((k.1:Nat):Int)):Str)=⟨#[48+k.1]⟩:=by decide+kernel
 have k:=key ⟨n,Int.ofNat_lt.1 h1⟩
 show(if _ then Res.ok (PV.str _) else _)=_
 rw [if_pos k.1,Int.toNat_natCast,k.2]
theorem DJ{x:Nat}(h0:48<=x)(h1:x<=57):d5 .int [.str ⟨#[x]⟩]=.ok (.int ((x:Int)-48)):=by
 have key:∀k:Fin 10,PySem.intText? (⟨#[48+k.1]⟩:Str)=some (((48+k.1:Nat):Int)-48):=by decide+kernel
 obtain⟨k,rfl⟩:=Nat.exists_eq_add_of_le h0
 have e:=key ⟨k,Nat.lt_succ_of_le (Nat.le_of_add_le_add_left (a:=48) h1)⟩
 show(if(⟨#[48+k]⟩:Str).length<=640 then(Res.of (PySem.intText? (⟨#[48+k]⟩:Str))).bind λn=>Res.ok (PV.int n) else .bad)=_
 rw [if_pos (show(⟨#[48+k]⟩:Str).length<=640 from(by show 1<=640;decide)),e]
 rfl
theorem H9(F:aN)(hp:iN F)(ns:List Int)(q a b sh tp:Int)(TY:0<=q)(SX:q<=6)(h1:1<=tp)(h2:tp<=10)(own:PV)(i n:Nat)(hn:n<=6)(AI Io:Ci.Slot):
 ∃(z:Str) (Hy G7:Ci.Slot),z.length=n/\(∀x∈z.cps.toList,x=35\/(48<=x/\x<=57))/\forL (λx env=>((Tg.one 10).put x env).bind λaw=>aF F Gm aw) (dW 0 n) [.val (iw ns),.val (.int 0),.val (.int q),.val (.int a),.val (.int b),.val (.int sh),.val (.int tp),.own own,.val (.int i),.val (.str ""),AI,Io]=
  .ok (.nx [.val (iw ns),.val (.int 0),.val (.int q),.val (.int a),.val (.int b),.val (.int sh),.val (.int tp),.own own,.val (.int i),.val (.str z),Hy,G7]):=by
 obtain⟨aw,e,z,Hy,G7,hz,hd,rfl⟩:=ef (body:=λx env=>((Tg.one 10).put x env).bind λaw=>aF F Gm aw) (P:=λj env=>∃(z:Str) (Hy G7:Ci.Slot),z.length=j/\(∀x∈z.cps.toList,x=35\/(48<=x/\x<=57))/\env=[.val (iw ns),.val (.int 0),.val (.int q),.val (.int a),.val (.int b),.val (.int sh),.val (.int tp),.own own,.val (.int i),.val (.str z),Hy,G7]) (dW 0 n) 0 [.val (iw ns),.val (.int 0),.val (.int q),.val (.int a),.val (.int b),.val (.int sh),.val (.int tp),.own own,.val (.int i),.val (.str ""),AI,Io] ⟨_,_,_,by decide+kernel,by decide+kernel,rfl⟩ (by
  intro j x env hx hq;obtain⟨hj,rfl⟩:=uL hx
  obtain⟨z,Hy,G7,hz,hd,rfl⟩:=hq
  obtain⟨m,em,m0,m1⟩:=hp ns (0+4+q*(i:Int)+(j:Int)) (12*tp) (by
   have:=Int.mul_nonneg TY (Int.natCast_nonneg i)
   omega) (by omega)
  have q1:(aR q||aR (i:Int))=true:=by
   have:aR q=true:=by simp only [aR,zza,zzN];omega
   rw [this];rfl
  have q2:(aR 12||aR tp)=true:=by rw [Bool.or_eq_true];exact .inl (by decide)
  have q3:(0:Int)<12:=by decide
  have q4:(0:Int)<12/\(12:Int)<1073741824:=by decide
  have ew:=El (v:=m/12) (by omega) (by omega)
  have Pq:(("#":Str))=⟨#[35]⟩:=by decide+kernel
  by_cases hm:m%12<sh
  ·refine⟨[.val (iw ns),.val (.int 0),.val (.int q),.val (.int a),.val (.int b),.val (.int sh),.val (.int tp),.own own,.val (.int i),.val (.str (z++"#")),.val (.int j),.val (.int m)],?_,_,_,_,?_,?_,rfl⟩
   ·have l:z.length+(("#":Str)).length<=dA:=zzU (show _<=8 by rw [Pq];show z.length+1<=8;omega) (by decide)
    simp! only [Gm,q1,q2,q3,q4,em,hm,decide_true,l,and_self]
   ·rw [Str.length_append,Pq];show z.length+1=_;omega
   ·rw [Pq];show∀x∈(z.cps++#[35]).toList,_;intro x hx;simp only [Array.toList_append,List.mem_append,zzi] at hx;rcases hx with hx|hx
    ·exact hd x hx
    ·exact .inl hx
  ·refine⟨[.val (iw ns),.val (.int 0),.val (.int q),.val (.int a),.val (.int b),.val (.int sh),.val (.int tp),.own own,.val (.int i),.val (.str (z++⟨#[48+(m/12).toNat]⟩)),.val (.int j),.val (.int m)],?_,_,_,_,?_,?_,rfl⟩
   ·have l:z.length+(⟨#[48+(m/12).toNat]⟩:Str).length<=dA:=zzU (show z.length+1<=8 by omega) (by decide)
    simp! only [Gm,q1,q2,q3,q4,em,hm,decide_false,l,and_self,ew]
   ·rw [Str.length_append];show z.length+1=_;omega
   ·show∀x∈(z.cps++#[48+(m/12).toNat]).toList,_
    intro x hx;simp only [Array.toList_append,List.mem_append,zzi] at hx;rcases hx with hx|hx
    ·exact hd x hx
    ·exact .inr (by omega))
 refine⟨z,Hy,G7,?_,hd,e⟩
 simpa [dW] using hz
theorem yL(F:aN)(hp:iN F)(ns:List Int)(q:Int)(Df:1<=q)(SX:q<=6):∃rows w,Fl rows w/\aq F cC [iw ns,.int 0,.int q]=.ok (fl rows):=by
 obtain⟨a,ea,a0,a6⟩:=hp ns 0 q (by decide) (by omega)
 obtain⟨b,eb,b0,b6⟩:=hp ns (0+1) q (by decide) (by omega)
 obtain⟨c,ec,c0,c4⟩:=hp ns (0+2) 4 (by decide) (by decide)
 obtain⟨d,ed,d0,d4⟩:=hp ns (0+3) 4 (by decide) (by decide)
 obtain⟨sh,es,hs⟩:=qq (a:=0) (b:=2) (c:=4) (d:=6) c0 c4
 obtain⟨tp,et,ht⟩:=qq (a:=1) (b:=2) (c:=3) (d:=10) d0 d4
 have t1:1<=tp:=by omega
 have t2:tp<=10:=by omega
 have sa:aH (1+a)=true:=by simp only [aH,zza,zzN];omega
 have sb:aH (1+b)=true:=by simp only [aH,zza,zzN];omega
 obtain⟨aw,e,rows,s8,s9,AI,Io,hl,hr,hd,rfl⟩:=ef (body:=λx env=>((Tg.one 8).put x env).bind λaw=>aF F K1 aw)
  (P:=λi env=>∃(rows:List Str) (s8 s9 AI Io:Ci.Slot),rows.length=i/\(∀z∈rows,z.length=(1+b).toNat)/\(∀z∈rows,∀x∈z.cps.toList,x=35\/(48<=x/\x<=57))/\env=[.val (iw ns),.val (.int 0),.val (.int q),.val (.int (1+a)),.val (.int (1+b)),.val (.int sh),.val (.int tp),.own (.lst (rows.map .str)),s8,s9,AI,Io])
  (dW 0 (1+a).toNat) 0 [.val (iw ns),.val (.int 0),.val (.int q),.val (.int (1+a)),.val (.int (1+b)),.val (.int sh),.val (.int tp),.own (.lst []),.no,.no,.no,.no] ⟨[],_,_,_,_,rfl,(λz hz=>by cases hz),(λz hz=>by cases hz),rfl⟩ (by
  intro i x env hx hq;obtain⟨hi,rfl⟩:=uL hx
  obtain⟨rows,s8,s9,AI,Io,hl,hr,hd,rfl⟩:=hq
  obtain⟨z,Hy,G7,hz,hzd,e⟩:=H9 F hp ns q (1+a) (1+b) sh tp (by omega) SX t1 t2 (.lst (rows.map .str)) i (1+b).toNat (by omega) AI Io
  have l:(rows.map PV.str).length<dA:=zzV (m:=6) (by simp only [zzl];omega) (by decide)
  refine⟨[.val (iw ns),.val (.int 0),.val (.int q),.val (.int (1+a)),.val (.int (1+b)),.val (.int sh),.val (.int tp),.own (.lst ((rows++[z]).map .str)),.val (.int i),.val (.str z),Hy,G7],?_,rows++[z],_,_,_,_,by simp;omega,?_,?_,rfl⟩
  ·have e':=e
   simp! only [Gm] at e';simp only [zzl] at l;simp! only [K1,Gm,sb,e',zzl,l,List.map_append]
  ·intro y hy;simp only [List.mem_append,zzi] at hy;rcases hy with hy|rfl
   ·exact hr y hy
   ·exact hz
  ·intro y hy;simp only [List.mem_append,zzi] at hy;rcases hy with hy|rfl
   ·exact hd y hy
   ·exact hzd)
 have uB:rows.length=(1+a).toNat:=by simpa [dW] using hl
 refine⟨rows,(1+b).toNat,⟨⟨by omega,λz hz=>by rw [hr z hz];omega⟩,by omega,by omega,hr,hd⟩,?_⟩
 simp! only [K1,Gm] at e;simp! only [cC,cC,ea,eb,ec,ed,es,et,sa,e]
def cA(rows:List Str)(r c:Int):Int:=match cd rows r.toNat c.toNat with
 |some x=>(x:Int)-48
 |none=>0
theorem AM{rows:List Str}{r c:Int}(h:aX rows r c=true):∃(i j x:Nat),r=i/\c=j/\cd rows i j=some x/\x≠35:=by
 obtain⟨h0,h1,h2⟩:=d8.1 h
 obtain⟨i,rfl⟩:=Int.eq_ofNat_of_zero_le h0
 obtain⟨j,rfl⟩:=Int.eq_ofNat_of_zero_le h1
 simp only [Int.toNat_natCast,tH] at h2;cases hc:cd rows i j with
 |none=>rw [hc] at h2;cases h2
 |some x=>
  rw [hc] at h2;exact⟨i,j,x,rfl,rfl,hc,by simpa using h2⟩
theorem Jl{rows:List Str}{w:Nat}(L:Fl rows w){i j x:Nat}(h:cd rows i j=some x):x=35\/(48<=x/\x<=57):=by
 unfold cd at h;cases hz:rows[i]? with
 |none=>rw [hz] at h;cases h
 |some z=>
  rw [hz] at h;exact L.dig z (zzD hz) x (zzD h)
theorem mL{rows:List Str}{w:Nat}(L:Fl rows w){r c:Int}(h:aX rows r c=true):∃z x,aD (fl rows) (.int r)=.ok (.str z)/\aD (.str z) (.int c)=.ok (.str ⟨#[x]⟩)/\d5 .int [.str ⟨#[x]⟩]=.ok (.int (cA rows r c))/\0<=cA rows r c/\cA rows r c<=9:=by
 obtain⟨i,j,x,rfl,rfl,hc,hx⟩:=AM h
 obtain⟨z,_,e1,e2⟩:=wx L.kE hc
 have hd:=(Jl L hc).resolve_left hx
 have hh:cA rows i j=(x:Int)-48:=by simp only [cA,Int.toNat_natCast,hc]
 refine⟨z,x,e1,e2,?_,?_⟩
 ·rw [hh];exact DJ hd.1 hd.2
 ·rw [hh];omega
noncomputable def cW(rows:List Str)(sl:Bool)(cl pr:Int)(r c r' c':Int):Option Int:=
 if(r=r'/\c=c')\/1<r-r'\/1<r'-r\/1<c-c'\/1<c'-c then none
 else if(r≠r'/\c≠c')/\¬(sl=true/\aX rows r c'=true/\aX rows r' c=true) then none
 else if cl<cA rows r' c'-cA rows r c\/cl<cA rows r c-cA rows r' c' then none
 else some ((if r≠r'/\c≠c' then 3 else 2)+pr*(if cA rows r' c'-cA rows r c>0 then cA rows r' c'-cA rows r c else 0))
def oP:Option Int->PV
 |none=>.az
 |some i=>.int i
def gR(r c r' c':Int):Prop:=(r=r'/\c=c')\/1<r-r'\/1<r'-r\/1<c-c'\/1<c'-c
instance(r c r' c':Int):Decidable (gR r c r' c'):=by unfold gR;infer_instance
theorem yJ(F:aN)(r c r' c':Int):aq F cT [sp r c,sp r' c']=.ok (.bl (!decide (gR r c r' c'))):=by
 simp! only [cT,Mp,Md,aI,nS];have key:∀(a b d:Bool),(Res.ok (PV.bl a)).bind (λx=>sJ x λt=>if t then(Res.ok (PV.bl b)).bind (λx=>sJ x λt=>if t then Res.ok (PV.bl d) else Res.ok (PV.bl false)) else Res.ok (PV.bl false))=Res.ok (PV.bl (a&&(b&&d))):=by
  intro a b d;cases a<;>cases b<;>cases d<;>rfl
 by_cases h1:r=r'/\c=c'
 ·obtain⟨rfl,rfl⟩:=h1
  have:gR r c r c:=.inl ⟨rfl,rfl⟩
  simp [aq,cx,cy,aF,fH,aK,cU,uA,qI,fK,jx,il,List.replicate,Nat.reduceAdd,Nat.reduceSub,reduceIte,ite_true,ite_false,BEq.rfl,beq_self_eq_true,J,this]
 ·have b1:(!((r==r')&&((c==c')&&true)))=true:=by
   cases hh:((r==r')&&((c==c')&&true)) with
   |false=>rfl
   |true=>exact absurd (by simpa using hh) h1
  simp! only [b1]
  by_cases h2:(if r-r'<0 then -(r-r') else r-r')<=1
  ·by_cases h3:(if c-c'<0 then -(c-c') else c-c')<=1
   ·have:¬gR r c r' c':=by
     rintro (h|h|h|h|h)
     ·exact h1 h
     all_goals (split at h2<;>split at h3<;>omega)
    simp! only [h2,h3,this,decide_true,decide_false]
   ·have:gR r c r' c':=by
     unfold gR;split at h3<;>omega
    simp! only [h2,h3,this,decide_true,decide_false]
  ·have:gR r c r' c':=by
    unfold gR;split at h2<;>omega
   simp! only [h2,this,decide_true,decide_false]
def pX(F:aN):Prop:=∀rows,eT rows->∀r c,F "is_open" [fl rows,sp r c]=.ok (.bl (aX rows r c))
theorem yk(F:aN)(hn:∀rows,eT rows->∀r c,aX rows r c=true->F "need_open" [fl rows,sp r c]=.ok .az){rows:List Str}{w:Nat}(L:Fl rows w){r c:Int}(h:aX rows r c=true):aq F dc [fl rows,sp r c]=.ok (.int (cA rows r c)):=by
 obtain⟨z,x,e1,e2,e3,_⟩:=mL L h
 simp! only [dc,hn rows L.kE r c h,Mp,Md,e1,e2,e3]
theorem uu(F:aN)(ho:pX F){rows:List Str}(R:eT rows)(r c r' c':Int):aq F bw [fl rows,sp r c,sp r' c']=.ok (.bl (aX rows r c'&&aX rows r' c)):=by
 simp! only [bw,Mp,Md,ho rows R];cases aX rows r c'<;>simp! only [Bool.false_and,Bool.true_and]
theorem ox{i j:Int}(h0:0<=i)(h1:i<4):(aR i||aR j)=true:=by
 have:aR i=true:=by simp only [aR,zza,zzN];omega
 rw [this];rfl
structure Wk(cl pr:Int):Prop where
 c0:0<=cl
 p0:0<=pr
 p4:pr<4
 c9:cl<=9
theorem Fe(F:aN)(hb:∀r c r' c',F "are_beside" [sp r c,sp r' c']=.ok (.bl (!decide (gR r c r' c'))))(hk:∀rows,eT rows->∀r c r' c',F "has_open_corners" [fl rows,sp r c,sp r' c']=.ok (.bl (aX rows r c'&&aX rows r' c)))
 (hh:∀rows w,Fl rows w->∀r c,aX rows r c=true->F "height_at" [fl rows,sp r c]=.ok (.int (cA rows r c))) {rows:List Str} {w:Nat} (L:Fl rows w) {sl:Bool} {cl pr:Int} (V:Wk cl pr) {r c r' c':Int} (h:aX rows r c=true) (h':aX rows r' c'=true):
 aq F bC [fl rows,wk sl cl pr,sp r c,sp r' c']=.ok (oP (cW rows sl cl pr r c r' c')):=by
 have e1:=hh rows w L r c h
 have e2:=hh rows w L r' c' h'
 have e3:=hk rows L.kE r c r' c'
 have e4:=hb r c r' c'
 by_cases h1:gR r c r' c'
 ·have:cW rows sl cl pr r c r' c'=none:=if_pos h1
  simp! only [bC,e4,h1,decide_true,this,oP]
 ·have q1:cW rows sl cl pr r c r' c'=_:=if_neg h1
  rw [q1];have ms:=λj=>ox (j:=j) V.p0 V.p4
  obtain⟨s,hs⟩:∃s,((!(r==r'))&&!(c==c'))=s:=⟨_,rfl⟩
  have OL:s=true↔r≠r'/\c≠c':=by rw [<-hs];simp
  have ia:∀{t u:Bool},(if t=true then Res.ok (PV.bl u) else Res.ok (PV.bl false))=Res.ok (PV.bl (t&&u)):=λ{t u}=>by cases t<;>rfl
  have ii:(if s=true then Res.ok (PV.int 3) else Res.ok (PV.int 2))=Res.ok (PV.int (if r≠r'/\c≠c' then 3 else 2)):=by
   by_cases n3:r≠r'/\c≠c'
   ·rw [if_pos (OL.2 n3),if_pos n3]
   ·rw [if_neg (λz=>n3 (OL.1 z)),if_neg n3]
  have mx:(if(0:Int)>cA rows r' c'-cA rows r c then 0 else cA rows r' c'-cA rows r c)=(if cA rows r' c'-cA rows r c>0 then cA rows r' c'-cA rows r c else 0):=by
   split<;>split<;>omega
  have cc:(if sl=true then Res.ok (PV.bl (aX rows r c'&&aX rows r' c)) else Res.ok (PV.bl false))=Res.ok (PV.bl (sl&&(aX rows r c'&&aX rows r' c))):=ia
  by_cases hblk:(r≠r'/\c≠c')/\¬(sl=true/\aX rows r c'=true/\aX rows r' c=true)
  ·rw [if_pos hblk];have hB:(!(sl&&(aX rows r c'&&aX rows r' c)))=true:=by
    rw [Bool.not_eq_true',Bool.eq_false_iff];intro z;rw [zza,zza] at z;exact hblk.2 z
   simp! only [bC,e4,e3,h1,decide_false,ia,hs,OL.2 hblk.1,hB,Bool.and_self,oP]
  ·rw [if_neg hblk];have hB:(s&&!(sl&&(aX rows r c'&&aX rows r' c)))=false:=by
    rw [Bool.eq_false_iff];intro z;rw [zza,Bool.not_eq_true',Bool.eq_false_iff] at z;exact hblk ⟨OL.1 z.1,λy=>z.2 (by rw [zza,zza];exact y)⟩
   by_cases hq:cl<(if cA rows r' c'-cA rows r c<0 then -(cA rows r' c'-cA rows r c) else cA rows r' c'-cA rows r c)
   ·have hz:cl<cA rows r' c'-cA rows r c\/cl<cA rows r c-cA rows r' c':=by split at hq<;>omega
    simp! only [bC,e4,e3,e1,e2,h1,decide_false,ia,hs,hB,oP,hq,decide_true,if_pos hz]
   ·have hz:¬(cl<cA rows r' c'-cA rows r c\/cl<cA rows r c-cA rows r' c'):=by split at hq<;>omega
    simp! only [bC,e4,e3,e1,e2,h1,decide_false,ia,hs,hB,oP,hq,if_neg hz,ii,ms,mx]
theorem ME{rows:List Str}{w:Nat}(L:Fl rows w){i j:Nat}(hi:i<rows.length)(hj:j<w):∃x,cd rows i j=some x:=by
 have hz:rows[i]?=some rows[i]:=zzg hi
 have hl:=L.Br _ (zzD hz)
 refine⟨(rows[i]).cps.toList[j]'(by simp only [zzd];rw [<-hl] at hj;exact hj),?_⟩;unfold cd;rw [hz];exact zzg _
theorem ju{rows:List Str}{w:Nat}(L:Fl rows w){r c:Int}(h:aX rows r c=true):0<=r/\r<rows.length/\0<=c/\c<w:=by
 obtain⟨i,j,x,rfl,rfl,hc,_⟩:=AM h
 unfold cd at hc;cases hz:rows[i]? with
 |none=>rw [hz] at hc;cases hc
 |some z=>
  rw [hz] at hc;have h1:=(zzH.1 hz).1
  have h2:=(zzH.1 hc).1
  have hl:=L.Br _ (zzD hz)
  simp only [zzd] at h2;have:z.cps.size=z.length:=rfl
  omega
abbrev kN(p:Nat×Nat):List Int:=[(p.1:Int),(p.2:Int)]
abbrev Up(L:List (Nat×Nat)):Prop:=L.Pairwise λp q=>HT.lexLt (kN p) (kN q)=true
theorem CM:Up []:=.nil
theorem RB{p q:Nat×Nat}(h:p.1<q.1\/p.1=q.1/\p.2<q.2):HT.lexLt (kN p) (kN q)=true:=by
 simp only [HT.lexLt];rcases h with h|⟨h1,h2⟩
 ·rw [if_neg (by omega)];exact zzh (by omega)
 ·rw [if_pos (by omega),if_neg (by omega)];exact zzh (by omega)
abbrev Hk(p:Nat×Nat):PV:=sp p.1 p.2
theorem qp:∀{xs:List PV} {k i:Nat} {x:PV},(cm k xs)[i]?=some x->∃y,xs[i]?=some y/\x=.tup [.int ((k+i:Nat):Int),y]
 |[],_,_,_,h=>by cases h
 |y::ys,k,0,x,h=>by
  simp only [cm,List.getElem?_cons_zero,Option.some.injEq] at h;exact⟨y,rfl,h.symm⟩
 |y::ys,k,i+1,x,h=>by
  simp only [cm,List.getElem?_cons_succ] at h;obtain⟨w,h1,h2⟩:=qp h
  refine⟨w,h1,?_⟩;rw [h2,show k+1+i=k+(i+1) by omega]
theorem cN:∀(xs:List PV) (k:Nat),(cm k xs).length=xs.length
 |[],_=>rfl
 |x::xs,k=>by simp only [cm,zzL,cN xs]
theorem tj{f:PV->Res (Option PV)}{r:Nat}(hf:∀c x:Nat,f (.tup [.int c,.str ⟨#[x]⟩])=.ok (if x !=35 then some (sp r c) else none)):∀(xs:List Nat) (k:Nat),∃L:List (Nat×Nat),aV f (cm k (xs.map λx=>.str ⟨#[x]⟩))=.ok (L.map Hk)/\Up L/\L.length<=xs.length/\∀a b,(a,b)∈L↔a=r/\k<=b/\∃x,xs[b-k]?=some x/\x≠35
 |[],k=>⟨[],rfl,CM,zzE _,λa b=>by simp⟩
 |x::xs,k=>by
  obtain⟨L,e,nd,l,h⟩:=tj hf xs (k+1)
  by_cases hx:x=35
  ·refine⟨L,?_,nd,Nat.le_succ_of_le l,λa b=>?_⟩
   ·have:(x !=35)=false:=by simp [hx]
    simp only [zzF,cm,aV,hf,this,Hb,m6,e,oc]
    rfl
   ·rw [h]
    constructor
    ·rintro ⟨h1,h2,y,h3,h4⟩
     refine⟨h1,by omega,y,?_,h4⟩;rw [show b-k=(b-(k+1))+1 by omega];exact h3
    ·rintro ⟨h1,h2,y,h3,h4⟩
     have:b≠k:=by
      rintro rfl
      simp at h3;omega
     refine⟨h1,by omega,y,?_,h4⟩;rw [show b-k=(b-(k+1))+1 by omega] at h3;exact h3
  ·refine⟨(r,k)::L,?_,List.pairwise_cons.2 ⟨(λp hp=>RB (by have:=(h p.1 p.2).1 hp;omega)),nd⟩,Nat.succ_le_succ l,λa b=>?_⟩
   ·have:(x !=35)=true:=by simp [hx]
    simp only [zzF,cm,aV,hf,this,Hb,m6,e,oc,if_true]
   ·rw [List.mem_cons,h]
    constructor
    ·rintro (h1|⟨h1,h2,y,h3,h4⟩)
     ·cases h1;exact⟨rfl,zzE _,x,by simp,hx⟩
     ·refine⟨h1,by omega,y,?_,h4⟩;rw [show b-k=(b-(k+1))+1 by omega];exact h3
    ·rintro ⟨h1,h2,y,h3,h4⟩
     by_cases hb:b=k
     ·subst hb;subst h1;exact .inl rfl
     ·refine .inr ⟨h1,by omega,y,?_,h4⟩;rw [show b-k=(b-(k+1))+1 by omega] at h3;exact h3
theorem vk{rows:List Str}{r c:Nat}:tH rows r c=true↔∃z,rows[r]?=some z/\∃x,z.cps.toList[c]?=some x/\x≠35:=by
 unfold tH cd;cases hz:rows[r]? with
 |none=>simp
 |some z=>
  simp only [Option.bind_some];cases hx:z.cps.toList[c]? with
  |none=>
   refine⟨(λh=>by cases h),?_⟩
   rintro ⟨w,hw,x,yI,_⟩
   cases hw;rw [hx] at yI;cases yI
  |some x=>
   refine⟨λh=>⟨z,rfl,x,hx,by simpa using h⟩,?_⟩
   rintro ⟨w,hw,y,hy,h⟩
   cases hw;rw [hx] at hy;cases hy
   simpa using h
def Bi:Ss:=(.cons (.oV 1 (.cQ 2 [2] (.two 0 1) (.enum (.var 3)) (.cmp .ne (.var 1) (.cst (.str "#"))) (.tup (.cons (.var 2) (.cons (.var 0) .nil)))))
 .nil)
def pQ(F:aN):Prop:=∀rows,eT rows->∃L:List (Nat×Nat),F "_law_spots" [fl rows]=.ok (.lst (L.map Hk))/\Up L/\L.length<=36/\∀r c,(r,c)∈L↔tH rows r c=true
theorem zM(F:aN)(rows:List Str)(R:eT rows):∃L:List (Nat×Nat),aq F bz [fl rows]=.ok (.lst (L.map Hk))/\Up L/\L.length<=36/\∀r c,(r,c)∈L↔tH rows r c=true:=by
 have So:=R.1
 obtain⟨aw,e,L,s2,s3,nd,hl,hm,rfl⟩:=ef (body:=λx env=>((Tg.two 2 3).put x env).bind λaw=>aF F Bi aw) (P:=λi env=>∃(L:List (Nat×Nat)) (s2 s3:Slot),Up L/\L.length<=6*i/\(∀r c,(r,c)∈L↔r<i/\tH rows r c=true)/\env=[.val (fl rows),.own (.lst (L.map Hk)),s2,s3])
  (cm 0 (rows.map .str)) 0 [.val (fl rows),.own (.lst []),.no,.no] ⟨[],_,_,CM,zzE _,(λr c=>by simp),rfl⟩ (by
  intro i x env hx hq;obtain⟨y,hy,rfl⟩:=qp hx
  obtain⟨L,s2,s3,nd,hl,hm,rfl⟩:=hq
  simp only [zzQ,zzJ] at hy;obtain⟨z,hz,rfl⟩:=hy
  have zq:=R.2 z (zzD hz)
  have hi:i<rows.length:=(zzH.1 hz).1
  obtain⟨M,eM,nM,lM,hM⟩:=tj (f:=λx=>((Tg.two 0 1).put x [.no,.no,.val (.int i)]).bind λaw=>((mi aw[1]?).bind λx=>gb x (.str "#")).bind λt=>sJ t λt=>if t then(((mi aw[2]?).bind λp=>((mi aw[0]?).bind λp=>.ok [p]).bind λps=>.ok (p::ps)).bind λps=>.ok (.tup ps)).bind λy=>.ok (some y) else .ok none) (r:=i) (λc x=>by
   simp! only [oQ];cases(x !=35)<;>rfl) z.cps.toList 0
  have lz:(cm 0 (chars z)).length<dA:=by
   rw [cN];refine zzV (m:=6) ?_ (by decide)
   simpa [chars,Str.length] using zq
  have ll:(L.map Hk).length+(M.map Hk).length<=dA:=by
   refine zzU (m:=100) ?_ (by decide);simp only [zzl];have:z.cps.toList.length=z.length:=by simp [Str.length]
   omega
  refine⟨[.val (fl rows),.own (.lst ((L++M).map Hk)),.val (.int i),.val (.str z)],?_,L++M,_,_,List.pairwise_append.2 ⟨nd,nM,λa ha b hb=>RB (.inl (by have h1:=((hm a.1 a.2).1 ha).1;have h2:=((hM b.1 b.2).1 hb).1;omega))⟩,?_,?_,rfl⟩
  ·simp! only [Bi,Oz,Nat.zero_add,lz];rw [show chars z=z.cps.toList.map λx=>PV.str ⟨#[x]⟩ from rfl,eM]
   simp! only [ll,List.map_append]
  ·have:z.cps.toList.length=z.length:=by simp [Str.length]
   simp only [zzM];omega
  ·intro r c;rw [List.mem_append,hm,hM,vk]
   constructor
   ·rintro (⟨h1,h2⟩|⟨rfl,_,x,h3,h4⟩)
    ·exact⟨by omega,h2⟩
    ·exact⟨by omega,z,hz,x,h3,h4⟩
   ·rintro ⟨h1,w,h2,x,h3,h4⟩
    by_cases hr:r=i
    ·subst hr;rw [hz] at h2;cases h2;exact .inr ⟨rfl,Nat.zero_le _,x,h3,h4⟩
    ·exact .inl ⟨by omega,w,h2,x,h3,h4⟩)
 refine⟨L,?_,nd,(by rw [cN,zzl] at hl;omega),λr c=>?_⟩
 ·simp! only [Bi] at e;simp! only [bz,Of,e,List.modify_succ_cons,List.modify_zero_cons,Fx]
 ·rw [hm];refine⟨λh=>h.2,λh=>⟨?_,h⟩⟩
  obtain⟨z,hz,_⟩:=vk.1 h
  have:=(zzH.1 hz).1
  rw [cN,zzl];omega
theorem ye(F:aN)(hp:iN F)(ns:List Int)(k:Int)(hk:0<=k):∃sl cl pr,Wk cl pr/\aq F cJ [iw ns,.int k]=.ok (wk sl cl pr):=by
 obtain⟨a,ea,a0,a2⟩:=hp ns k 2 hk (by decide)
 obtain⟨b,eb,b0,b4⟩:=hp ns (k+1) 4 (by omega) (by decide)
 obtain⟨c,ec,c0,c4⟩:=hp ns (k+2) 4 (by omega) (by decide)
 obtain⟨v,ev,hv⟩:=qq (a:=0) (b:=1) (c:=2) (d:=9) b0 b4
 refine⟨(a==0),v,c,⟨by omega,c0,c4,by omega⟩,?_⟩;simp! only [cJ,ea,eb,ec,ev]
theorem gP{α σ:Type}{body:PV->Sl->Res Ci.Fl}{g:α->PV}{mk:List PV->σ->Sl}{app:α->List PV}{m M:Nat}:∀(l:List α) (acc:List PV) (s:σ),(∀a∈l,(app a).length<=m)->(∀a∈l,∀acc s,acc.length+m<=M->∃s',body (g a) (mk acc s)=.ok (.nx (mk (acc++app a) s')))->acc.length+m*l.length<=M->∃s',forL body (l.map g) (mk acc s)=.ok (.nx (mk (acc++l.flatMap app) s'))
 |[],acc,s,_,_,_=>⟨s,by simp [forL]⟩
 |a::l,acc,s,h1,h2,h3=>by
  have ha:=h1 a (zzP ..)
  rw [zzL,Nat.mul_succ] at h3;obtain⟨s1,e1⟩:=h2 a (zzP ..) acc s (by omega)
  obtain⟨s2,e2⟩:=gP l (acc++app a) s1 (λb hb=>h1 b (zzI _ hb)) (λb hb=>h2 b (zzI _ hb)) (by rw [zzM];omega)
  refine⟨s2,?_⟩;simp only [zzF,forL,e1,m6,e2,List.flatMap_cons,List.append_assoc]
def gY(x:Int):List Int:=[x-1+(0:Nat),x-1+(1:Nat),x-1+(2:Nat)]
theorem L3(x:Int):dW (x-1) (x+2-(x-1)).toNat=(gY x).map .int:=by
 rw [show(x+2-(x-1)).toNat=3 by omega]
 rfl
noncomputable def oI:Ss:=(.cons (.ite (.and (.cmp .ne (.tup (.cons (.var 3) (.cons (.var 4) .nil))) (.var 1)) (.call "is_open" (.cons (.var 0) (.cons (.tup (.cons (.var 3) (.cons (.var 4) .nil))) .nil))))
 (.cons (.app 2 (.tup (.cons (.var 3) (.cons (.var 4) .nil))))
 .nil)
 .nil)
 .nil)
noncomputable def oO:Ss:=(.cons (.di (.one 4) (.qb (.bin .sub (.sub (.var 1) (.cst (.int 1))) (.cst (.int 1))) (.bin .add (.sub (.var 1) (.cst (.int 1))) (.cst (.int 2)))) oI) .nil)
def Dd(rows:List Str)(r c r' c':Int):Bool:=!((r'==r)&&((c'==c)&&true))&&aX rows r' c'
def sx(rows:List Str)(r c r':Int):List (Int×Int):=(gY c).flatMap λc'=>if Dd rows r c r' c' then [(r',c')] else []
def pA(rows:List Str)(r c:Int):List (Int×Int):=(gY r).flatMap (sx rows r c)
theorem iX(rows:List Str)(r c r':Int):(sx rows r c r').length<=3:=by
 have:∀c',(if Dd rows r c r' c' then [(r',c')] else []).length<=1:=λc'=>by split<;>simp
 simp only [sx,gY,List.flatMap_cons,List.flatMap_nil,zzM,List.length_nil];have h1:=this (c-1+(0:Nat));have h2:=this (c-1+(1:Nat));have h3:=this (c-1+(2:Nat))
 omega
theorem rV(rows:List Str)(r c:Int):(pA rows r c).length<=9:=by
 simp only [pA,gY,List.flatMap_cons,List.flatMap_nil,zzM,List.length_nil];have h1:=iX rows r c (r-1+(0:Nat));have h2:=iX rows r c (r-1+(1:Nat));have h3:=iX rows r c (r-1+(2:Nat))
 omega
theorem lK{rows:List Str}{r c r' c':Int}:(r',c')∈pA rows r c↔¬gR r c r' c'/\aX rows r' c'=true:=by
 have hn:∀x y:Int,y∈gY x↔¬1<x-y/\¬1<y-x:=by
  intro x y;simp only [gY,List.mem_cons,List.not_mem_nil,or_false];omega
 simp only [pA,sx,List.mem_flatMap,hn]
 constructor
 ·rintro ⟨a,ha,b,hb,h⟩
  split at h
  ·rename_i hk;simp only [zzi,Prod.mk.injEq] at h;obtain⟨rfl,rfl⟩:=h
   simp only [Dd,zza,Bool.not_eq_true',Bool.and_true] at hk;refine⟨?_,hk.2⟩;unfold gR;have h1:=hk.1
   rw [Bool.and_eq_false_iff] at h1;simp only [beq_eq_false_iff_ne,ne_eq] at h1;omega
  ·cases h
 ·rintro ⟨hf,ho⟩
  unfold gR at hf;refine⟨r',by omega,c',by omega,?_⟩;have:Dd rows r c r' c'=true:=by
   simp only [Dd,ho,Bool.and_true,Bool.not_eq_true',Bool.and_eq_false_iff,beq_eq_false_iff_ne,ne_eq];omega
  rw [if_pos this];exact zzi.2 rfl
theorem lN{r:Int}(h0:0<=r)(h6:r<6):(aH (r-1)&&aH (r+2))=true:=by
 simp only [aH,zza,zzN];omega
theorem Je(F:aN)(ho:pX F){rows:List Str}(R:eT rows){r c:Int}(Vn:0<=r)(hr:r<6)(UW:0<=c)(hc:c<6):
 aq F bo [fl rows,sp r c]=.ok (.lst ((pA rows r c).map F9)):=by
 have inner:∀(r':Int) (acc:List PV) (s4:Ci.Slot),acc.length+3<=50->∃Q4,forL (λx env=>((Tg.one 4).put x env).bind λaw=>aF F oI aw) ((gY c).map .int) [.val (fl rows),.val (sp r c),.own (.lst acc),.val (.int r'),s4]=.ok (.nx [.val (fl rows),.val (sp r c),.own (.lst (acc++(sx rows r c r').map F9)),.val (.int r'),Q4]):=by
  intro r' acc s4 hl;obtain⟨s',e⟩:=gP (body:=λx env=>((Tg.one 4).put x env).bind λaw=>aF F oI aw) (g:=PV.int) (mk:=λacc (s:Ci.Slot)=>[.val (fl rows),.val (sp r c),.own (.lst acc),.val (.int r'),s]) (app:=λc'=>if Dd rows r c r' c' then [sp r' c'] else []) (m:=1) (M:=60) (gY c) acc s4 (λc' _=>by split<;>simp) (λc' _ acc s hl=>by
   have l:acc.length<dA:=zzV (m:=60) (by omega) (by decide)
   refine⟨.val (.int c'),?_⟩;cases h1:(!((r'==r)&&((c'==c)&&true))) with
   |false=>simp! only [oI,h1,Dd,Bool.false_and,List.append_nil]
   |true=>
    cases h2:aX rows r' c' with
    |false=>simp! only [oI,h1,h2,Dd,ho rows R,Bool.and_false,List.append_nil]
    |true=>simp! only [oI,h1,h2,Dd,ho rows R,Bool.and_self,l]) (by show acc.length+1*3<=60;omega)
  have k:(gY c).flatMap (λc'=>if Dd rows r c r' c' then [sp r' c'] else [])=(sx rows r c r').map F9:=by
   simp only [sx,List.map_flatMap]
   congr 1
   funext c'
   split<;>rfl
  exact⟨s',by rw [e,k]⟩
 obtain⟨s',e⟩:=gP (body:=λx env=>((Tg.one 3).put x env).bind λaw=>aF F oO aw) (g:=PV.int) (mk:=λacc (s:Ci.Slot×Ci.Slot)=>[.val (fl rows),.val (sp r c),.own (.lst acc),s.1,s.2]) (app:=λr'=>(sx rows r c r').map F9) (m:=3) (M:=50) (gY r) [] (.no,.no) (λr' _=>by rw [zzl];exact iX ..) (λr' _ acc s hl=>by
  obtain⟨Q4,e⟩:=inner r' acc s.2 hl
  refine⟨(.val (.int r'),Q4),?_⟩;simp! only [oI] at e;simp! only [oO,oI,lN UW hc,L3,e]) (by show 0+3*3<=50;omega)
 simp! only [oO,oI] at e;simp! only [bo,lN Vn hr,L3,e,Fx,pA,List.map_flatMap]
def E1(rows:List Str)(sl:Bool)(cl pr:Int)(u v:List Int)(e:Int):Prop:=∃r c r' c',u=[r,c]/\v=[r',c']/\aX rows r c=true/\aX rows r' c'=true/\cW rows sl cl pr r c r' c'=some e
abbrev tK(t:List Int×Int):PV:=.tup [af t.1,.int t.2]
def uF(F:aN):Prop:=∀rows w,Fl rows w->∀sl cl pr,Wk cl pr->∀r c r' c',aX rows r c=true->aX rows r' c'=true->F "step_cost" [fl rows,wk sl cl pr,sp r c,sp r' c']=.ok (oP (cW rows sl cl pr r c r' c'))
def Gn(F:aN):Prop:=∀rows,eT rows->∀r c,0<=r->r<6->0<=c->c<6->F "open_spots_beside" [fl rows,sp r c]=.ok (.lst ((pA rows r c).map F9))
def lZ(F:aN):Prop:=∀rows,eT rows->∀r c,aX rows r c=true->F "need_open" [fl rows,sp r c]=.ok .az
def sS(f:List PV->Res PV):Prop:=∀rows w,Fl rows w->∀sl cl pr,Wk cl pr->∀r c,aX rows r c=true->∃T:List (List Int×Int),f [fl rows,wk sl cl pr,af [r,c]]=.ok (.lst (T.map tK))/\T.length<=9/\∀v e,(v,e)∈T↔E1 rows sl cl pr [r,c] v e
def o7(F:aN):Prop:=sS (F "steps_from")
noncomputable def Oi:Ss:=(.cons (.set 5 (.call "step_cost" (.cons (.var 0) (.cons (.var 1) (.cons (.var 2) (.cons (.var 4) .nil))))))
 (.cons (.ite (.cmp .zj (.var 5) (.cst .az))
  (.cons (.app 3 (.tup (.cons (.var 4) (.cons (.var 5) .nil))))
  .nil)
  .nil)
 .nil))
theorem Hi{rows:List Str}{w:Nat}(L:Fl rows w){r c:Int}(h:aX rows r c=true):0<=r/\r<6/\0<=c/\c<6:=by
 have h1:=ju L h
 have h2:=L.kE.1
 have h3:=L.kE.2 _ (List.getElem_mem L.ne)
 rw [L.Br _ (List.getElem_mem L.ne)] at h3;omega
theorem BJ(F:aN)(hn:lZ F)(hb:Gn F)(hs:uF F):sS (aq F cR):=by
 intro rows w L sl cl pr V r c h;obtain⟨r0,r6,c0,c6⟩:=Hi L h
 have GX:∀p:Int×Int,((cW rows sl cl pr r c p.1 p.2).toList.map λe=>(([p.1,p.2]:List Int),e)).length<=1:=λp=>by cases cW rows sl cl pr r c p.1 p.2<;>simp
 refine⟨(pA rows r c).flatMap λp=>(cW rows sl cl pr r c p.1 p.2).toList.map λe=>([p.1,p.2],e),?_,?_,?_⟩
 ·obtain⟨s',e⟩:=gP (body:=λx env=>((Tg.one 4).put x env).bind λaw=>aF F Oi aw) (g:=F9) (mk:=λacc (s:Ci.Slot×Ci.Slot)=>[.val (fl rows),.val (wk sl cl pr),.val (sp r c),.own (.lst acc),s.1,s.2]) (app:=λp=>((cW rows sl cl pr r c p.1 p.2).toList.map λe=>(([p.1,p.2]:List Int),e)).map tK) (m:=1) (M:=50) (pA rows r c) [] (.no,.no) (λp _=>by rw [zzl];exact GX p) (λp hp acc s hl=>by
   have l:acc.length<dA:=zzV (m:=50) (by omega) (by decide)
   have e:=hs rows w L sl cl pr V r c p.1 p.2 h (lK.1 hp).2
   cases hq:cW rows sl cl pr r c p.1 p.2 with
   |none=>
    rw [hq] at e;have e5:fy .az .az=.ok (.bl false):=rfl
    simp only [oP] at e;exact⟨(.val (F9 p),.val .az),by simp! only [Oi,e,e5,Option.toList_none,List.append_nil]⟩
   |some v=>
    rw [hq] at e;have e5:fy (.int v) .az=.ok (.bl true):=rfl
    simp only [oP] at e;exact⟨(.val (F9 p),.val (.int v)),by simp! only [Oi,e,e5,Option.toList_some,l];rfl⟩) (by
   have:=rV rows r c
   show 0+1*_<=50
   omega)
  have k:af [r,c]=sp r c:=rfl
  simp! only [Oi] at e;simp! only [k,cR,hn rows L.kE r c h,hb rows L.kE r c r0 r6 c0 c6,e,Fx,List.map_flatMap]
 ·have:=rV rows r c
  have key:∀l:List (Int×Int),(l.flatMap λp=>(cW rows sl cl pr r c p.1 p.2).toList.map λe=>(([p.1,p.2]:List Int),e)).length<=l.length:=by
   intro l
   induction l with
   |nil=>exact zzE _
   |cons p l ih=>
    have:=GX p
    simp only [List.flatMap_cons,zzM,zzL];omega
  exact zzU (key _) this
 ·intro v e;simp only [List.mem_flatMap,List.mem_map,Option.mem_toList,Option.mem_def,Prod.mk.injEq]
  constructor
  ·rintro ⟨p,hp,e',he,rfl,rfl⟩
   exact⟨r,c,p.1,p.2,rfl,rfl,h,(lK.1 hp).2,he⟩
  ·rintro ⟨a,b,r',c',hu,rfl,_,ho,he⟩
   cases hu;refine⟨(r',c'),lK.2 ⟨λhf=>?_,ho⟩,e,he,rfl,rfl⟩
   rw [show cW rows sl cl pr r c r' c'=none from if_pos hf] at he;cases he
theorem lI:∀k:List Int,intsOf (k.map .int)=some k
 |[]=>rfl
 |i::k=>by simp only [zzF,intsOf,lI k,Option.map_some]
theorem eQ(k:List Int):jz (af k)=some k:=lI k
theorem bS{α:Type}:∀{ks:List (List Int)} {vs:List α} (k:List Int),ks.length=vs.length->cK ks k=(au ks vs k).isSome
 |[],[],_,_=>rfl
 |k'::ks,v::vs,k,h=>by
  have ih:=bS (ks:=ks) (vs:=vs) k (by simpa using h)
  by_cases e:k'=k
  ·simp [cK,au,e]
  ·simp only [cK] at ih;simp [cK,au,e,ih]
theorem jg{α β:Type}(f:α->β):∀(ks:List (List Int)) (vs:List α) (k:List Int),au ks (vs.map f) k=(au ks vs k).map f
 |[],_,_=>by simp [au]
 |_::_,[],_=>by simp [au]
 |k'::ks,v::vs,k=>by
  simp only [zzF,au,jg f ks vs k];split<;>rfl
theorem mV{α β:Type}(f:α->β):∀(ks:List (List Int)) (vs:List α) (k:List Int),aW ks (vs.map f) k=(aW ks vs k).map f
 |[],_,_=>by simp [aW]
 |_::_,[],_=>by simp [aW]
 |k'::ks,v::vs,k=>by
  simp only [zzF,aW,mV f ks vs k];split<;>rfl
theorem jy{α β:Type}(f:α->β)(ks:List (List Int))(vs:List α)(k:List Int)(p:α):aY ks (vs.map f) k (f p)=(aY ks vs k p).map f:=by
 unfold aY;split
 ·rw [List.zipWith_map_right,List.map_zipWith]
  congr 1
  funext a b
  split<;>rfl
 ·simp
theorem sy{α:Type}(k:List Int)(p:α):∀(ks:List (List Int)) (vs:List α) (x:List Int),au ks (List.zipWith (λk' v=>if k'=k then p else v) ks vs) x=(au ks vs x).map λv=>if x=k then p else v
 |[],_,_=>by simp [au]
 |_::_,[],_=>by simp [au]
 |k'::ks,v::vs,x=>by
  simp only [List.zipWith_cons_cons,au,sy k p ks vs x]
  by_cases e:k'=x
  ·subst e;simp
  ·simp [e]
theorem oM{α:Type}(k:List Int)(p:α):∀(ks:List (List Int)) (vs:List α) (x:List Int),ks.length=vs.length->au (ks++[k]) (vs++[p]) x=(au ks vs x).or (if k=x then some p else none)
 |[],[],x,_=>by simp [au]
 |k'::ks,v::vs,x,h=>by
  simp only [List.cons_append,au,oM k p ks vs x (by simpa using h)];split<;>simp
theorem bt{α:Type}{ks:List (List Int)}{vs:List α}(h:ks.length=vs.length)(k:List Int)(p:α)(x:List Int):au (aZ ks k) (aY ks vs k p) x=if k=x then some p else au ks vs x:=by
 have hh:=bS (vs:=vs) k h
 unfold aZ aY;cases hk:cK ks k with
 |true=>
  rw [hk] at hh;simp only [if_true,sy]
  by_cases e:k=x
  ·subst e;obtain⟨v,hv⟩:=Option.isSome_iff_exists.1 hh.symm
   simp [hv]
  ·rw [if_neg e];have e':¬x=k:=λz=>e z.symm
   cases au ks vs x<;>simp [e']
 |false=>
  rw [hk] at hh;simp only [zze,if_false,oM k p ks vs x h]
  by_cases e:k=x
  ·subst e;have:au ks vs k=none:=by simpa using hh.symm
   simp [this]
  ·simp [e]
theorem i7{α:Type}{ks:List (List Int)}{vs:List α}(h:ks.length=vs.length)(k:List Int)(p:α):(aZ ks k).length=(aY ks vs k p).length:=by
 unfold aZ aY;split<;>simp [h]
theorem yK(ks:List (List Int))(k:List Int):(aZ ks k).length<=ks.length+1:=by
 unfold aZ;split<;>simp
theorem dq{ks:List (List Int)}{k:List Int}:cK ks k=true↔k∈ks:=by
 simp [cK]
theorem gF{ks:List (List Int)}(h:ks.Nodup)(k:List Int):(aZ ks k).Nodup:=by
 unfold aZ;split
 ·exact h
 ·rename_i hk;rw [dq] at hk;refine List.nodup_append.2 ⟨h,by simp,?_⟩;intro a ha b hb e;rw [zzi] at hb;exact hk (hb▸e▸ha)
theorem eo{α:Type}(k:List Int):∀(ks:List (List Int)) (vs:List α) (x:List Int),ks.length=vs.length->au (cb ks k) (aW ks vs k) x=if k=x then none else au ks vs x
 |[],[],x,_=>by simp [cb,aW,au]
 |k'::ks,v::vs,x,h=>by
  have ih:=eo k ks vs x (by simpa using h)
  simp only [cb] at ih
  by_cases e:k'=k
  ·subst e;simp only [cb,aW,au,List.filter_cons,ne_eq,not_true_eq_false,decide_false,zze,if_false,if_true,ih];split<;>simp_all
  ·simp only [cb,aW,au,List.filter_cons,ne_eq,e,not_false_eq_true,decide_true,if_true,if_false]
   by_cases e2:k'=x
   ·subst e2;have:¬k=k':=λz=>e z.symm
    simp [au,this]
   ·simp only [au,e2,if_false];exact ih
theorem oA{α:Type}(k:List Int):∀(ks:List (List Int)) (vs:List α),ks.length=vs.length->(cb ks k).length=(aW ks vs k).length
 |[],[],_=>rfl
 |k'::ks,v::vs,h=>by
  have ih:=oA k ks vs (by simpa using h)
  simp only [cb] at ih
  by_cases e:k'=k
  ·simpa [cb,aW,e] using ih
  ·simpa [cb,aW,e] using ih
theorem wI{α:Type}:∀{ks:List (List Int)} {vs:List α} {i:Nat} {k:List Int} {q:α},ks.Nodup->ks[i]?=some k->vs[i]?=some q->au ks vs k=some q
 |[],_,_,_,_,_,h,_=>by simp at h
 |_::_,[],_,_,_,_,_,h=>by simp at h
 |k'::ks,v::vs,0,k,q,_,h1,h2=>by
  simp only [List.getElem?_cons_zero,Option.some.injEq] at h1 h2;simp [au,h1,h2]
 |k'::ks,v::vs,i+1,k,q,nd,h1,h2=>by
  simp only [List.getElem?_cons_succ] at h1 h2;have Tc:=List.nodup_cons.1 nd
  have:¬k'=k:=λz=>Tc.1 (z▸zzD h1)
  simp only [au,this,if_false];exact wI Tc.2 h1 h2
theorem se{α:Type}:∀{ks:List (List Int)} {vs:List α} {k:List Int} {q:α},au ks vs k=some q->q∈vs
 |[],_,_,_,h=>by simp [au] at h
 |_::_,[],_,_,h=>by simp [au] at h
 |k'::ks,v::vs,k,q,h=>by
  simp only [au] at h;split at h
  ·cases h;exact zzP ..
  ·exact zzI _ (se h)
theorem j0:∀(cs:List Int) (b:Nat) (m:Int) (pre:List Int),pre[b]?=some m->(∀x∈pre,m<=x)->∃y,(pre++cs)[fc cs pre.length b m]?=some y/\∀x∈pre++cs,y<=x
 |[],b,m,pre,h1,h2=>⟨m,by simpa [fc] using h1,by simpa using h2⟩
 |c::cs,b,m,pre,h1,h2=>by
  have hb:=(zzH.1 h1).1
  simp only [fc];have hl:pre.length+1=(pre++[c]).length:=by simp
  split
  ·rename_i hc;have:=j0 cs pre.length c (pre++[c]) (by simp) (λx hx=>by
    simp only [List.mem_append,zzi] at hx;rcases hx with hx|hx
    ·have:=h2 x hx;omega
    ·omega)
   rw [<-hl] at this
   simpa using this
  ·rename_i hc;have:=j0 cs b m (pre++[c]) (by rw [List.getElem?_append_left hb];exact h1) (λx hx=>by
    simp only [List.mem_append,zzi] at hx;rcases hx with hx|hx
    ·exact h2 x hx
    ·omega)
   rw [<-hl] at this
   simpa using this
theorem Dl{cs:List Int}(h:cs≠[]):∃i y,CI cs=some i/\cs[i]?=some y/\∀x∈cs,y<=x:=by
 cases cs with
 |nil=>exact absurd rfl h
 |cons c cs=>
  obtain⟨y,h1,h2⟩:=j0 cs 0 c [c] rfl (by simp)
  exact⟨_,y,rfl,h1,h2⟩
abbrev val(q:Int×PV):PV:=.tup [.int q.1,q.2]
theorem om:∀V:List (Int×PV),iI (V.map val)=some (V.map (·.1))
 |[]=>rfl
 |q::V=>by simp only [zzF,iI,om V,Option.map_some]
theorem xB{ks:List (List Int)}{V:List (Int×PV)}(h:ks.length=V.length)(nd:ks.Nodup)(qM:ks≠[]):∃k q,((CI (V.map (·.1))).bind λx=>ks[x]?)=some k/\au ks V k=some q/\∀x q',au ks V x=some q'->q.1<=q'.1:=by
 have hV:V.map (·.1)≠[]:=by
  intro z;rw [List.map_eq_nil_iff] at z;rw [z] at h;exact qM (List.eq_nil_of_length_eq_zero h)
 obtain⟨i,y,h1,h2,h3⟩:=Dl hV
 rw [zzQ,zzJ] at h2;obtain⟨q,hq,rfl⟩:=h2
 have hi:=(zzH.1 hq).1
 have hk:ks[i]?=some (ks[i]'(by omega)):=zzg _
 refine⟨_,q,by rw [h1];exact hk,wI nd hk hq,λx q' hx=>h3 _ (List.mem_map.2 ⟨q',se hx,rfl⟩)⟩
inductive j1(E:List Int->List Int->Int->Prop)(s:List Int):List Int->Int->Prop
 |here:j1 E s s 0
 |go {u v:List Int} {d e:Int}:j1 E s u d->E u v e->j1 E s v (d+e)
abbrev Ks:=List (List Int)
abbrev Vs:=List (Int×PV)
def Kn(kr:Ks)(Vr:Vs)(kw:Ks)(Vw:Vs)(k:List Int)(c:Int):Prop:=(∃q,au kr Vr k=some q/\q.1<=c)\/∃q,au kw Vw k=some q/\q.1<=c
structure qL(E:List Int->List Int->Int->Prop)(O:List Int->Prop)(s:List Int)(kr:Ks)(Vr:Vs)(kw:Ks)(Vw:Vs)(X:List Int->List Int->Int->Prop)(n:Nat)(b:Int):Prop where
 lr:kr.length=Vr.length
 lw:kw.length=Vw.length
 nw:kw.Nodup
 Ls:∀k q q',au kr Vr k=some q->au kw Vw k=some q'->False
 wr:∀k q,au kr Vr k=some q->O k/\j1 E s k q.1
 ww:∀k q,au kw Vw k=some q->O k/\j1 E s k q.1
 mono:∀k q k' q',au kr Vr k=some q->au kw Vw k'=some q'->q.1<=q'.1
 iM:∀u q,au kr Vr u=some q->∀v e,X u v e->Kn kr Vr kw Vw v (q.1+e)
 st:Kn kr Vr kw Vw s 0
 cw:kw.length<=n
 pre:∀k q,au kr Vr k=some q\/au kw Vw k=some q->(q.2=.az/\k=s/\q.1=0)\/∃y q' e,q.2=af y/\au kr Vr y=some q'/\E y k e/\q.1=q'.1+e
 bd:∀k q,au kr Vr k=some q\/au kw Vw k=some q->0<=q.1/\q.1<=b
 nr:kr.Nodup
theorem Kn.put{kr:Ks}{Vr:Vs}{kw:Ks}{Vw:Vs}(h:kw.length=Vw.length){v:List Int}{c:Int}{p:PV}(hv:∀q,au kw Vw v=some q->c<=q.1){k:List Int}{x:Int}(H:Kn kr Vr kw Vw k x):Kn kr Vr (aZ kw v) (aY kw Vw v (c,p)) k x:=by
 rcases H with H|⟨q,h1,h2⟩
 ·exact .inl H
 ·refine .inr ?_;rw [bt h]
  by_cases e:v=k
  ·subst e;exact⟨(c,p),if_pos rfl,Int.le_trans (hv q h1) h2⟩
  ·exact⟨q,by rw [if_neg e];exact h1,h2⟩
theorem qL.put{E:List Int->List Int->Int->Prop}{O:List Int->Prop}{s:List Int}{kr:Ks}{Vr:Vs}{kw:Ks}{Vw:Vs}{X:List Int->List Int->Int->Prop}{n:Nat}{b:Int}(M:qL E O s kr Vr kw Vw X n b){u v:List Int}{d e:Int}{p0:PV}(hu:au kr Vr u=some (d,p0))(hd:∀k q,au kr Vr k=some q->q.1<=d)(he:E u v e)(h0:0<e)(hb:d+e<=b)(ho:O v)
 (hv:au kr Vr v=none) (hw:∀q,au kw Vw v=some q->d+e<=q.1):qL E O s kr Vr (aZ kw v) (aY kw Vw v (d+e,af u)) (λa b c=>X a b c\/a=u/\b=v/\c=e) (n+1) b where
 lr:=M.lr
 lw:=i7 M.lw _ _
 nw:=gF M.nw _
 Ls:=λk q q' h1 h2=>by
  rw [bt M.lw] at h2;split at h2
  ·rename_i z;subst z;rw [hv] at h1;cases h1
  ·exact M.Ls k q q' h1 h2
 wr:=M.wr
 ww:=λk q h=>by
  rw [bt M.lw] at h;split at h
  ·rename_i z;subst z;cases h;exact⟨ho,.go (M.wr u _ hu).2 he⟩
  ·exact M.ww k q h
 mono:=λk q k' q' h1 h2=>by
  rw [bt M.lw] at h2;split at h2
  ·cases h2;have:=hd k q h1;show q.1<=d+e;omega
  ·exact M.mono k q k' q' h1 h2
 iM:=λa q h1 b c hx=>by
  rcases hx with hx|⟨rfl,rfl,rfl⟩
  ·exact(M.iM a q h1 b c hx).put M.lw hw
  ·rw [hu] at h1;cases h1;exact .inr ⟨(d+c,af a),by rw [bt M.lw,if_pos rfl],Int.le_refl _⟩
 st:=M.st.put M.lw hw
 cw:=by have:=yK kw v;have:=M.cw;omega
 pre:=λk q h=>by
  rcases h with h|h
  ·exact M.pre k q (.inl h)
  ·rw [bt M.lw] at h;split at h
   ·rename_i z;subst z;cases h;exact .inr ⟨u,(d,p0),e,rfl,hu,he,rfl⟩
   ·exact M.pre k q (.inr h)
 bd:=λk q h=>by
  rcases h with h|h
  ·exact M.bd k q (.inl h)
  ·rw [bt M.lw] at h;split at h
   ·cases h;have:=(M.bd u _ (.inl hu)).1;exact⟨by show 0<=d+e;omega,hb⟩
   ·exact M.bd k q (.inr h)
 nr:=M.nr
theorem qL.keep{E:List Int->List Int->Int->Prop}{O:List Int->Prop}{s:List Int}{kr:Ks}{Vr:Vs}{kw:Ks}{Vw:Vs}{X Y:List Int->List Int->Int->Prop}{n m:Nat}{b b':Int}(M:qL E O s kr Vr kw Vw X n b)(hm:n<=m)(hb:b<=b')(h:∀u q,au kr Vr u=some q->∀v e,Y u v e->Kn kr Vr kw Vw v (q.1+e)):qL E O s kr Vr kw Vw Y m b':=
 ⟨M.lr,M.lw,M.nw,M.Ls,M.wr,M.ww,M.mono,h,M.st,zzU M.cw hm,M.pre,λk q z=>⟨(M.bd k q z).1,Int.le_trans (M.bd k q z).2 hb⟩,M.nr⟩
theorem Kn.move{kr:Ks}{Vr:Vs}{kw:Ks}{Vw:Vs}(hr:kr.length=Vr.length)(hw:kw.length=Vw.length){k:List Int}{q0:Int×PV}(h0:au kw Vw k=some q0)(hk:au kr Vr k=none){x:List Int}{c:Int}(H:Kn kr Vr kw Vw x c):Kn (aZ kr k) (aY kr Vr k q0) (cb kw k) (aW kw Vw k) x c:=by
 unfold Kn;rw [bt hr,eo k kw Vw x hw]
 by_cases e:k=x
 ·subst e;rcases H with⟨q,h1,_⟩|⟨q,h1,h2⟩
  ·rw [hk] at h1;cases h1
  ·rw [h0] at h1;cases h1;exact .inl ⟨q0,if_pos rfl,h2⟩
 ·simp only [e,if_false];exact H
theorem qL.move{E:List Int->List Int->Int->Prop}{O:List Int->Prop}{s:List Int}{kr:Ks}{Vr:Vs}{kw:Ks}{Vw:Vs}{n:Nat}{b:Int}(M:qL E O s kr Vr kw Vw E n b){k:List Int}{q0:Int×PV}(h0:au kw Vw k=some q0)(hl:∀x q',au kw Vw x=some q'->q0.1<=q'.1):
 qL E O s (aZ kr k) (aY kr Vr k q0) (cb kw k) (aW kw Vw k) (λa b c=>E a b c/\a≠k) n b/\au (aZ kr k) (aY kr Vr k q0) k=some q0/\∀x q,au (aZ kr k) (aY kr Vr k q0) x=some q->q.1<=q0.1:=by
 have hk:au kr Vr k=none:=by
  cases h:au kr Vr k with
  |none=>rfl
  |some q=>exact(M.Ls k q q0 h h0).elim
 have old:∀x q,au (aZ kr k) (aY kr Vr k q0) x=some q\/au (cb kw k) (aW kw Vw k) x=some q->au kr Vr x=some q\/au kw Vw x=some q:=λx q h=>by
  rcases h with h|h
  ·rw [bt M.lr] at h;split at h
   ·rename_i z;subst z;cases h;exact .inr h0
   ·exact .inl h
  ·rw [eo k kw Vw x M.lw] at h;split at h
   ·cases h
   ·exact .inr h
 refine⟨?_,by rw [bt M.lr,if_pos rfl],λx q h=>?_⟩
 ·refine⟨i7 M.lr _ _,oA k kw Vw M.lw,M.nw.filter _,λx q q' h1 h2=>?_,λx q h=>?_,λx q h=>?_,λx q x' q' h1 h2=>?_,λu q h1 v e hx=>?_,M.st.move M.lr M.lw h0 hk,zzU (List.length_filter_le ..) M.cw,λx q h=>?_,λx q h=>M.bd x q (old x q h),gF M.nr _⟩
  ·rw [bt M.lr] at h1;rw [eo k kw Vw x M.lw] at h2;split at h2
   ·cases h2
   ·rename_i z;rw [if_neg z] at h1;exact M.Ls x q q' h1 h2
  ·rw [bt M.lr] at h;split at h
   ·rename_i z;subst z;cases h;exact M.ww k _ h0
   ·exact M.wr x q h
  ·rw [eo k kw Vw x M.lw] at h;split at h
   ·cases h
   ·exact M.ww x q h
  ·rw [bt M.lr] at h1;rw [eo k kw Vw x' M.lw] at h2;split at h2
   ·cases h2
   ·split at h1
    ·cases h1;exact hl x' q' h2
    ·exact M.mono x q x' q' h1 h2
  ·rw [bt M.lr,if_neg (λz=>hx.2 z.symm)] at h1;exact(M.iM u q h1 v e hx.1).move M.lr M.lw h0 hk
  ·rcases M.pre x q (old x q h) with z|⟨y,q',e,z1,z2,z3⟩
   ·exact .inl z
   ·refine .inr ⟨y,q',e,z1,?_,z3⟩;rw [bt M.lr,if_neg (λz=>by rw [<-z,hk] at z2;cases z2)];exact z2
 ·rw [bt M.lr] at h;split at h
  ·cases h;exact Int.le_refl _
  ·exact M.mono x q k q0 h h0
theorem Gh{ks:Ks}{V:Vs}{k:List Int}{q:Int×PV}(h:au ks V k=some q):aD (.aP ks (V.map val)) (af k)=.ok (val q):=by
 show(Res.of (jz (af k))).bind (λk=>Res.of (au ks (V.map val) k))=_
 rw [eQ];show Res.of (au ks (V.map val) k)=_
 rw [jg,h]
 rfl
theorem Cs{q:Int×PV}:aD (val q) (.int 0)=.ok (.int q.1):=rfl
theorem mq{ks:Ks}{vs:List PV}{k:List Int}:ja (af k) (.aP ks vs)=.ok (.bl (!cK ks k)):=by
 show(Res.of (jz (af k))).bind (λk=>Res.ok (PV.bl (!cK ks k)))=_
 rw [eQ]
 rfl
theorem Po{ks:Ks}{vs:List PV}:d5 .len [.aP ks vs]=.ok (.int ks.length):=rfl
noncomputable def wS:Ss:=(.cons (.set 8 (.bin .add (.sub (.sub (.fO 2) (.var 5)) (.cst (.int 0))) (.var 7)))
 (.cons (.ite (.and (.cmp .kH (.var 6) (.fO 2)) (.or (.cmp .kH (.var 6) (.fO 3)) (.cmp .lt (.var 8) (.sub (.sub (.fO 3) (.var 6)) (.cst (.int 0))))))
  (.cons (.put 3 (.var 6) (.tup (.cons (.var 8) (.cons (.var 5) .nil))))
  .nil)
  .nil)
 .nil))
noncomputable abbrev qV(gn:Str)(ix:List Nat)(cp:List PV)(z:PV)(kr:Ks)(Vr:Vs)(kw:Ks)(Vw:Vs)(s4 s5 s6 s7 s8:Ci.Slot):Sl:=[.val z,.fn gn ix cp,.own (.aP kr (Vr.map val)),.own (.aP kw (Vw.map val)),s4,s5,s6,s7,s8]
theorem vV(kw:Ks)(Vw:Vs)(v:List Int)(c:Int)(p:PV):aY kw (Vw.map val) v (.tup [.int c,p])=(aY kw Vw v (c,p)).map val:=jy val kw Vw v (c,p)
theorem LU(F:aN){gn:Str}{ix:List Nat}{cp:List PV}{z:PV}{E:List Int->List Int->Int->Prop}{O:List Int->Prop}{s:List Int}{kr:Ks}{Vr:Vs}{kw:Ks}{Vw:Vs}{X:List Int->List Int->Int->Prop}{n:Nat}{b:Int}(M:qL E O s kr Vr kw Vw X n b)(hn:n<=3000){u v:List Int}{d e:Int}{p0:PV}(hu:au kr Vr u=some (d,p0))(hd:∀k q,au kr Vr k=some q->q.1<=d)(he:E u v e)(h0:0<e)(hb:d+e<=b)(ho:O v)(s4 s6 s7 s8:Ci.Slot):
 ∃G9 Hg KY JD JG,(((Tg.two 6 7).put (tK (v,e)) (qV gn ix cp z kr Vr kw Vw s4 (.val (af u)) s6 s7 s8)).bind λaw=>aF F wS aw)=.ok (.nx (qV gn ix cp z kr Vr G9 Hg s4 (.val (af u)) KY JD JG))/\qL E O s kr Vr G9 Hg (λa b c=>X a b c\/a=u/\b=v/\c=e) (n+1) b:=by
 have e1:=Gh hu
 have l:kw.length<dA:=zzV (zzU M.cw hn) (by decide)
 have g1:=bS (vs:=Vr) v M.lr
 have g2:=bS (vs:=Vw) v M.lw
 cases hv:au kr Vr v with
 |some q=>
  rw [hv] at g1;have Eh:cK kr v=true:=g1
  refine⟨kw,Vw,.val (af v),.val (.int e),.val (.int (d+e)),by simp! only [wS,qV,e1,Cs,mq,Eh],M.keep (Nat.le_succ n) (Int.le_refl _) ?_⟩
  rintro a q' ha b c (hx|⟨rfl,rfl,rfl⟩)
  ·exact M.iM a q' ha b c hx
  ·rw [hu] at ha;cases ha;refine .inl ⟨q,hv,?_⟩;have:=hd _ q hv
   show q.1<=d+c
   omega
 |none=>
  rw [hv] at g1;have Eh:cK kr v=false:=g1
  cases hw:au kw Vw v with
  |none=>
   rw [hw] at g2;have OA:cK kw v=false:=g2
   refine⟨_,_,.val (af v),.val (.int e),.val (.int (d+e)),?_,M.put hu hd he h0 hb ho hv (λq h=>by rw [hw] at h;cases h)⟩;simp! only [wS,qV,e1,Cs,mq,Eh,OA,eQ,l,vV]
  |some q=>
   rw [hw] at g2;have OA:cK kw v=true:=g2
   have e2:=Gh hw
   by_cases cg:d+e<q.1
   ·refine⟨_,_,.val (af v),.val (.int e),.val (.int (d+e)),?_,M.put hu hd he h0 hb ho hv (λq' h=>by rw [hw] at h;cases h;omega)⟩;simp! only [wS,qV,e1,e2,Cs,mq,Eh,OA,cg,decide_true,eQ,l,vV]
   ·refine⟨kw,Vw,.val (af v),.val (.int e),.val (.int (d+e)),by simp! only [wS,qV,e1,e2,Cs,mq,Eh,OA,cg,decide_false],M.keep (Nat.le_succ n) (Int.le_refl _) ?_⟩
    rintro a q' ha b c (hx|⟨rfl,rfl,rfl⟩)
    ·exact M.iM a q' ha b c hx
    ·rw [hu] at ha;cases ha;exact .inr ⟨q,hw,by show q.1<=d+c;omega⟩
theorem Hv(F:aN){gn:Str}{ix:List Nat}{cp:List PV}{z:PV}{E:List Int->List Int->Int->Prop}{O:List Int->Prop}{s:List Int}{b:Int}(hE:∀u v e,E u v e->0<e/\e<=30/\O v){kr:Ks}{Vr:Vs}{u:List Int}{d:Int}{p0:PV}(hu:au kr Vr u=some (d,p0))(hd:∀k q,au kr Vr k=some q->q.1<=d)(Mu:d+30<=b)(s4:Ci.Slot):
 ∀(T:List (List Int×Int)) (kw:Ks) (Vw:Vs) (X:List Int->List Int->Int->Prop) (n:Nat) (s6 s7 s8:Ci.Slot),(∀t∈T,E u t.1 t.2)->qL E O s kr Vr kw Vw X n b->n+T.length<=3000->∃G9 Hg KY JD JG,forL (λx env=>((Tg.two 6 7).put x env).bind λaw=>aF F wS aw) (T.map tK) (qV gn ix cp z kr Vr kw Vw s4 (.val (af u)) s6 s7 s8)=.ok (.nx (qV gn ix cp z kr Vr G9 Hg s4 (.val (af u)) KY JD JG))/\qL E O s kr Vr G9 Hg (λa b c=>X a b c\/a=u/\(b,c)∈T) (n+T.length) b
 |[],kw,Vw,X,n,s6,s7,s8,_,M,_=>⟨kw,Vw,s6,s7,s8,rfl,M.keep (zzE _) (Int.le_refl _) (λa q ha b c hx=>M.iM a q ha b c (hx.resolve_right λz=>by cases z.2))⟩
 |t::T,kw,Vw,X,n,s6,s7,s8,hT,M,hn=>by
  have ht:=hT t (zzP ..)
  rw [zzL] at hn;obtain⟨Lx,Vw1,a6,a7,a8,e1,M1⟩:=LU F (gn:=gn) (ix:=ix) (cp:=cp) (z:=z) M (by omega) hu hd ht (hE _ _ _ ht).1 (by have:=(hE _ _ _ ht).2.1;omega) (hE _ _ _ ht).2.2 s4 s6 s7 s8
  obtain⟨kw2,Vw2,b6,b7,b8,e2,M2⟩:=Hv F hE hu hd Mu s4 T Lx Vw1 _ (n+1) a6 a7 a8 (λx hx=>hT x (zzI _ hx)) M1 (by omega)
  refine⟨kw2,Vw2,b6,b7,b8,?_,M2.keep (by rw [zzL];omega) (Int.le_refl _) λa q ha b c hx=>M2.iM a q ha b c ?_⟩
  ·rw [zzF,forL,e1,m6];exact e2
  ·rcases hx with hx|⟨h1,h2⟩
   ·exact .inl (.inl hx)
   ·rcases List.mem_cons.1 h2 with h2|h2
    ·exact .inl (.inr ⟨h1,by rw [<-h2],by rw [<-h2]⟩)
    ·exact .inr ⟨h1,h2⟩
def C3(U kr:Ks):Nat:=(U.filter λx=>!cK kr x).length
theorem Fz{U kr:Ks}{k:List Int}(hk:k∈U)(hn:cK kr k=false):C3 U (aZ kr k)<C3 U kr:=by
 have hh:∀x,cK (aZ kr k) x=(cK kr x||decide (x=k)):=by
  intro x;rw [Bool.eq_iff_iff,Bool.or_eq_true,dq,dq,zzN];unfold aZ;rw [hn];simp
 unfold C3;simp only [hh]
 induction U with
 |nil=>cases hk
 |cons y U ih=>
  have mono:(U.filter λx=>!(cK kr x||decide (x=k))).length<=(U.filter λx=>!cK kr x).length:=by
   rw [<-List.countP_eq_length_filter,<-List.countP_eq_length_filter];refine List.countP_mono_left λx _ h=>?_
   simp only [Bool.not_or,zza] at h;exact h.1
  rw [List.filter_cons,List.filter_cons]
  by_cases e:y=k
  ·subst e;simp only [hn,decide_true,Bool.or_true,Bool.not_true,zze,if_false,Bool.not_false,if_true,zzL];omega
  ·have:=ih ((List.mem_cons.1 hk).resolve_left λz=>e z.symm)
   simp only [e,decide_false,Bool.or_false];cases cK kr y<;>simp only [Bool.not_true,Bool.not_false,zze,if_true,if_false,zzL]<;>omega
def wC:E:=.cmp .gt (.blt .len (.cons (.fO 3) .nil)) (.cst (.int 0))
noncomputable def wB:Ss:=(.cons (.nD 5 3)
 (.cons (.fj 2 3 5)
 (.cons (.di (.two 6 7) (.seq (.mv 1 (.cons (.var 5) .nil))) wS)
 .nil)))
theorem E5(F:aN){gn:Str}{ix:List Nat}{cp:List PV}{z:PV}{as:List Int->List PV}(Gq:ix.head?=some 1)(Lp:∀u,fx (af u::cp) ix.tail=.ok (as u)){E:List Int->List Int->Int->Prop}{O:List Int->Prop}{s:List Int}{U:Ks}(hU:∀u,O u->u∈U)(KU:U.length<=36)(hE:∀u v e,E u v e->0<e/\e<=30/\O v)(dN:∀u,O u->∃T:List (List Int×Int),F gn (as u)=.ok (.lst (T.map tK))/\T.length<=60/\∀v e,(v,e)∈T↔E u v e)
 {kr:Ks} {Vr:Vs} {kw:Ks} {Vw:Vs} (M:qL E O s kr Vr kw Vw E (1+60*kr.length) (30*kr.length)) (hc:kr.length+C3 U kr<=U.length) (qM:kw≠[]) (s4 s5 s6 s7 s8:Ci.Slot):
 ∃vf NL G9 Hg Pn KY JD JG,aF F wB (qV gn ix cp z kr Vr kw Vw s4 s5 s6 s7 s8)=.ok (.nx (qV gn ix cp z vf NL G9 Hg s4 Pn KY JD JG))/\qL E O s vf NL G9 Hg E (1+60*vf.length) (30*vf.length)/\vf.length+C3 U vf<=U.length/\C3 U vf<C3 U kr:=by
 obtain⟨k,q,h1,h2,h3⟩:=xB M.lw M.nw qM
 obtain⟨M1,h4,h5⟩:=M.move h2 h3
 obtain⟨ho,_⟩:=M.ww k q h2
 have hk:cK kr k=false:=by
  rw [bS (vs:=Vr) k M.lr];cases h:au kr Vr k with
  |none=>rfl
  |some q'=>exact(M.Ls k q' q h h2).elim
 have hl:(aZ kr k).length=kr.length+1:=by unfold aZ;rw [hk];simp
 have cg:=Fz (hU k ho) hk
 obtain⟨T,e1,hT,hT2⟩:=dN k ho
 obtain⟨d,p0⟩:=q
 obtain⟨kw2,Vw2,b6,b7,b8,e2,M2⟩:=Hv F (gn:=gn) (ix:=ix) (cp:=cp) (z:=z) (b:=30*kr.length+30) hE h4 h5 (by have:=(M.bd k (d,p0) (.inr h2)).2;show d+30<=_;omega) s4 T _ _ _ _ s6 s7 s8 (λt ht=>(hT2 t.1 t.2).1 ht) (M1.keep (zzE _) (by omega) M1.iM) (by omega)
 refine⟨_,_,kw2,Vw2,.val (af k),b6,b7,b8,?_,M2.keep (by omega) (by omega) (λa q ha b c hx=>M2.iM a q ha b c ?_),by omega,cg⟩
 ·have l:kr.length<dA/\2≠3:=⟨zzV (m:=36) (by omega) (by decide),by decide⟩
  have gm:au kw (Vw.map val) k=some (val (d,p0)):=by rw [jg,h2];rfl
  have gp:aY kr (Vr.map val) k (val (d,p0))=(aY kr Vr k (d,p0)).map val:=jy val kr Vr k (d,p0)
  have ha:=Lp k
  simp! only [wS,qV] at e2;simp! only [wB,wS,qV,om,h1,eQ,gm,l,and_self,mV,gp,Gq,ha,e1,e2,ne_eq,not_false_eq_true]
 ·by_cases e:a=k
  ·subst e;exact .inr ⟨rfl,(hT2 b c).2 hx⟩
  ·exact .inl ⟨hx,e⟩
theorem wA(F:aN){gn:Str}{ix:List Nat}{cp:List PV}{z:PV}{as:List Int->List PV}(Gq:ix.head?=some 1)(Lp:∀u,fx (af u::cp) ix.tail=.ok (as u)){E:List Int->List Int->Int->Prop}{O:List Int->Prop}{s:List Int}{U:Ks}(hU:∀u,O u->u∈U)(KU:U.length<=36)(hE:∀u v e,E u v e->0<e/\e<=30/\O v)(dN:∀u,O u->∃T:List (List Int×Int),F gn (as u)=.ok (.lst (T.map tK))/\T.length<=60/\∀v e,(v,e)∈T↔E u v e)(s4:Ci.Slot):
 ∀(n:Nat) (kr:Ks) (Vr:Vs) (kw:Ks) (Vw:Vs) (s5 s6 s7 s8:Ci.Slot),qL E O s kr Vr kw Vw E (1+60*kr.length) (30*kr.length)->kr.length+C3 U kr<=U.length->C3 U kr<n->∃vf NL Uc Pn KY JD JG,bK (aK F wC) (aF F wB) n (qV gn ix cp z kr Vr kw Vw s4 s5 s6 s7 s8)=.ok (.nx [.val z,.fn gn ix cp,.own (.aP vf (NL.map val)),Uc,s4,Pn,KY,JD,JG])/\vf.length<=36/\∃m,qL E O s vf NL [] [] E m 1080
 |0,_,_,_,_,_,_,_,_,_,_,h=>absurd h (Nat.not_lt_zero _)
 |n+1,kr,Vr,kw,Vw,s5,s6,s7,s8,M,hc,hn=>by
  have ec:aK F wC (qV gn ix cp z kr Vr kw Vw s4 s5 s6 s7 s8)=.ok (.bl (decide ((0:Int)<kw.length))):=by simp! only [wC,qV,Po]
  by_cases hk:kw=[]
  ·subst hk;have hv:Vw=[]:=List.eq_nil_of_length_eq_zero M.lw.symm
   subst hv;refine⟨kr,Vr,.own (.aP [] []),s5,s6,s7,s8,?_,by omega,_,M.keep (zzE _) (by omega) M.iM⟩;have:decide ((0:Int)<(([]:Ks).length:Nat))=false:=rfl
   rw [this] at ec;simp only [bK,ec,m6,CV,zze,if_false,qV]
   rfl
  ·obtain⟨kr1,Vr1,Lx,Vw1,t5,t6,t7,t8,e1,M1,hc1,cg⟩:=E5 F (gn:=gn) (z:=z) Gq Lp hU KU hE dN M hc hk s4 s5 s6 s7 s8
   obtain⟨kr2,Vr2,u3,u5,u6,u7,u8,e2,h2⟩:=wA F (gn:=gn) (z:=z) Gq Lp hU KU hE dN s4 n kr1 Vr1 Lx Vw1 t5 t6 t7 t8 M1 hc1 (by omega)
   refine⟨kr2,Vr2,u3,u5,u6,u7,u8,?_,h2⟩;have:decide ((0:Int)<(kw.length:Nat))=true:=by
    have:=List.length_pos_iff.2 hk
    simp;omega
   rw [this] at ec;simp only [bK,ec,m6,CV,if_true,e1,e2]
structure Hn(E:List Int->List Int->Int->Prop)(s:List Int)(kr:Ks)(Vr:Vs):Prop where
 len:kr.length=Vr.length
 le:kr.length<=36
 Ff:∀k q,au kr Vr k=some q->k.length=2/\j1 E s k q.1
 iM:∀u q,au kr Vr u=some q->∀v e,E u v e->∃q',au kr Vr v=some q'/\q'.1<=q.1+e
 st:∃q,au kr Vr s=some q/\q.1<=0
 pre:∀k q,au kr Vr k=some q->(q.2=.az/\k=s/\q.1=0)\/∃y q' e,q.2=af y/\au kr Vr y=some q'/\E y k e/\q.1=q'.1+e
 bd:∀k q,au kr Vr k=some q->0<=q.1/\q.1<=1080
 nr:kr.Nodup
noncomputable def G8(gn:Str)(ix:List Nat):Def:=⟨["starts","steps","reached","waiting","start","spot","other","cost","together"],2,(.cons (.lD 2)
 (.cons (.lD 3)
 (.cons (.di (.one 4) (.seq (.var 0))
  (.cons (.put 3 (.var 4) (.tup (.cons (.cst (.int 0)) (.cons (.cst .az) .nil))))
  .nil))
 (.cons (.xo (.cmp .gt (.blt .len (.cons (.fO 3) .nil)) (.cst (.int 0)))
  (.cons (.nD 5 3)
  (.cons (.fj 2 3 5)
  (.cons (.di (.two 6 7) (.seq (.mv 1 (.cons (.var 5) .nil)))
   (.cons (.set 8 (.bin .add (.sub (.sub (.fO 2) (.var 5)) (.cst (.int 0))) (.var 7)))
   (.cons (.ite (.and (.cmp .kH (.var 6) (.fO 2)) (.or (.cmp .kH (.var 6) (.fO 3)) (.cmp .lt (.var 8) (.sub (.sub (.fO 3) (.var 6)) (.cst (.int 0))))))
    (.cons (.put 3 (.var 6) (.tup (.cons (.var 8) (.cons (.var 5) .nil))))
    .nil)
    .nil)
   .nil)))
  .nil))))
 (.cons (.bF 2)
 (.cons (.ret (.var 2))
 .nil)))))),some (gn,ix)⟩
theorem xH(F:aN)(gn:Str){ix:List Nat}{cp:List PV}{as:List Int->List PV}(Gq:ix.head?=some 1)(Lp:∀u,fx (af u::cp) ix.tail=.ok (as u)){E:List Int->List Int->Int->Prop}{O:List Int->Prop}{s:List Int}{U:Ks}(hU:∀u,O u->u∈U)(KU:U.length<=36)(h2:∀u,O u->u.length=2)(hE:∀u v e,E u v e->0<e/\e<=30/\O v)(dN:∀u,O u->∃T:List (List Int×Int),F gn (as u)=.ok (.lst (T.map tK))/\T.length<=60/\∀v e,(v,e)∈T↔E u v e)(hs:O s):
 ∃kr Vr,aq F (G8 gn ix) (.lst [af s]::cp)=.ok (.aP kr (Vr.map val))/\Hn E s kr Vr:=by
 have g:∀x q,au [s] [((0:Int),PV.az)] x=some q->s=x/\q=(0,.az):=λx q h=>by
  simp only [au] at h;split at h
  ·rename_i z;cases h;exact⟨z,rfl⟩
  ·cases h
 have M:qL E O s [] [] [s] [(0,.az)] E (1+60*([]:Ks).length) (30*(([]:Ks).length:Nat)):=⟨rfl,rfl,by simp,(λk q q' h=>by simp [au] at h),(λk q h=>by simp [au] at h),(λk q h=>by obtain⟨rfl,rfl⟩:=g k q h;exact⟨hs,.here⟩),(λk q k' q' h=>by simp [au] at h),(λu q h=>by simp [au] at h),.inr ⟨(0,.az),by simp [au],Int.le_refl _⟩,by simp,(λk q h=>h.elim (λh=>by simp [au] at h) λh=>by obtain⟨z,rfl⟩:=g k q h;exact .inl ⟨rfl,z.symm,rfl⟩),(λk q h=>h.elim (λh=>by simp [au] at h) λh=>by obtain⟨_,rfl⟩:=g k q h;exact⟨Int.le_refl _,Int.le_refl _⟩),List.nodup_nil⟩
 have hl:C3 U []<=U.length:=List.length_filter_le ..
 obtain⟨kr,Vr,u3,u5,u6,u7,u8,e,h3,m,M'⟩:=wA F (gn:=gn) (z:=.lst [af s]) Gq Lp hU KU hE dN (.val (af s)) WN [] [] [s] [(0,.az)] .no .no .no .no M (by simpa using hl) (zzV (zzU hl KU) (by decide))
 refine⟨kr,Vr,?_,M'.lr,h3,λk q h=>⟨h2 k (M'.wr k q h).1,(M'.wr k q h).2⟩,λu q h v c hx=>?_,?_,?_,?_,?_⟩
 ·have l:(0:Nat)<dA:=by decide
  have p1:aZ [] s=[s]:=rfl
  have p2:∀p:PV,aY ([]:Ks) [] s p=[p]:=λp=>rfl
  have a2:List.take 1 (PV.lst [af s]::cp)=[.lst [af s]]:=rfl
  have a3:List.drop 1 (PV.lst [af s]::cp)=cp:=rfl
  simp! only [wC,wB,wS,qV] at e;simp! only [G8,a2,a3,forL,eQ,l,p1,p2,e,Fx];exact if_pos rfl
 ·rcases M'.iM u q h v c hx with h|⟨q',h,_⟩
  ·exact h
  ·simp [au] at h
 ·rcases M'.st with h|⟨q',h,_⟩
  ·exact h
  ·simp [au] at h
 ·exact λk q h=>M'.pre k q (.inl h)
 ·exact λk q h=>M'.bd k q (.inl h)
 ·exact M'.nr
theorem zJ{α:Type}(xs:List α)(x:α):pV (xs++[x]) (-1)=some x:=by
 unfold pV Hh;have h1:¬(0:Int)<= -1:=by decide
 have h2: -((xs++[x]).length:Int)<= -1:=by simp only [zzM,List.length_singleton];omega
 rw [if_neg h1,if_pos h2];have h3:(-1+((xs++[x]).length:Int)).toNat=xs.length:=by simp only [zzM,List.length_singleton];omega
 rw [h3];simp
theorem I0{q:Int×PV}:aD (val q) (.int 1)=.ok q.2:=rfl
def LQ:E:=(.cmp .zj (.sub (.sub (.var 0) (.sub (.fO 2) (.neg (.cst (.int 1))))) (.cst (.int 1))) (.cst .az))
def O0:Ss:=(.cons (.app 2 (.sub (.sub (.var 0) (.sub (.fO 2) (.neg (.cst (.int 1))))) (.cst (.int 1)))) .nil)
theorem vC(xs:List PV)(x:PV):aD (.lst (xs++[x])) (.int (-1))=.ok x:=by
 simp only [aD,zJ]
 rfl
inductive Ag(E:List Int->List Int->Int->Prop)(s:List Int):List Int->Ks->Int->Prop
 |here:Ag E s s [s] 0
 |go {u v:List Int} {l:Ks} {d e:Int}:Ag E s u l d->E u v e->Ag E s v (v::l) (d+e)
theorem vW(F:aN){E:List Int->List Int->Int->Prop}{s:List Int}{kr:Ks}{Vr:Vs}(R:Hn E s kr Vr)(hE:∀u v e,E u v e->0<e)(z:PV):∀(n:Nat) (xs:List PV) (y:List Int) (q:Int×PV),au kr Vr y=some q->q.1<n->(xs.length:Int)+q.1<=2000->∃l,bK (aK F LQ) (aF F O0) n [.val (.aP kr (Vr.map val)),.val z,.own (.lst (xs++[af y]))]=.ok (.nx [.val (.aP kr (Vr.map val)),.val z,.own (.lst (xs++l.map af))])/\Ag E s y l q.1
 |0,xs,y,q,h,hn,_=>by have:=(R.bd y q h).1;omega
 |n+1,xs,y,q,h,hn,hl=>by
  have e1:=vC xs (af y)
  have e2:=Gh h
  have b0:=(R.bd y q h).1
  have l:(xs++[af y]).length<dA:=zzV (m:=3000) (by rw [zzM,List.length_singleton];omega) (by decide)
  rcases R.pre y q h with⟨p,rfl,h0⟩|⟨y',q',e,p,h',he,hq⟩
  ·refine⟨[y],?_,by rw [h0];exact .here⟩;have e5:fy .az .az=.ok (.bl false):=rfl
   have ec:aK F LQ [.val (.aP kr (Vr.map val)),.val z,.own (.lst (xs++[af y]))]=.ok (.bl false):=by simp! only [LQ,e1,e2,I0,p,e5]
   simp only [bK,ec,m6,CV,zze,if_false]
   rfl
  ·have e5:fy (af y') .az=.ok (.bl true):=rfl
   have ec:aK F LQ [.val (.aP kr (Vr.map val)),.val z,.own (.lst (xs++[af y]))]=.ok (.bl true):=by simp! only [LQ,e1,e2,I0,p,e5]
   have eb:aF F O0 [.val (.aP kr (Vr.map val)),.val z,.own (.lst (xs++[af y]))]=.ok (.nx [.val (.aP kr (Vr.map val)),.val z,.own (.lst (xs++[af y]++[af y']))]):=by simp! only [O0,e1,e2,I0,p,l]
   have hp:=hE _ _ _ he
   obtain⟨l',e',t⟩:=vW F R hE z n (xs++[af y]) y' q' h' (by omega) (by rw [zzM,List.length_singleton];omega)
   refine⟨y::l',?_,by rw [hq];exact .go t he⟩;simp only [bK,ec,m6,CV,if_true,eb,e'];simp
theorem yX(F:aN){E:List Int->List Int->Int->Prop}{s:List Int}{kr:Ks}{Vr:Vs}(R:Hn E s kr Vr)(hE:∀u v e,E u v e->0<e){k:List Int}{q:Int×PV}(hq:au kr Vr k=some q):∃l:Ks,aq F fE [.aP kr (Vr.map val),af k]=.ok (.lst (l.map af))/\Ag E s k l q.1:=by
 have hb:=(R.bd k q hq).2
 obtain⟨l,e,hu⟩:=vW F R hE (af k) WN [] k q hq (Int.lt_of_le_of_lt hb (by decide)) (by simp;omega)
 refine⟨l,?_,hu⟩;simp! only [LQ,O0,List.nil_append] at e;simp! only [fE,e,Fx]
theorem wM:∀{a b:List Int},HT.lexLt a b=true->HT.lexLt b a=false
 |[],[],h=>by cases h
 |[],_::_,_=>rfl
 |_::_,[],h=>by cases h
 |x::a,y::b,h=>by
  simp only [HT.lexLt] at h⊢;split at h
  ·subst x;rw [if_pos rfl];exact wM h
  ·have h:=zzY h
   rw [if_neg (by omega)];exact decide_eq_false (by omega)
theorem HD(a:List Int):HT.lexLt a a=false:=by
 cases h:HT.lexLt a a with
 |false=>rfl
 |true=>have:=wM h;rw [h] at this;exact this
abbrev Q9(L:Ks):Prop:=L.Pairwise λa b=>HT.lexLt a b=true
theorem Q9.nodup{L:Ks}(h:Q9 L):L.Nodup:=h.imp λ{a b} e z=>by rw [z,HD] at e;cases e
theorem vY:∀(n:Nat) (a b:List Int),eqs (ip n) (a.map .int) (b.map .int)=decide (a=b)
 |_,[],[]=>rfl
 |_,[],_::_=>rfl
 |_,_::_,[]=>rfl
 |n,x::a,y::b=>by
  have:ip n (.int x) (.int y)=(x==y):=by cases n<;>rfl
  simp only [zzF,eqs,vY n a b,this];rw [Bool.eq_iff_iff];simp
theorem k9(n:Nat)(a b:List Int):ip (n+1) (af a) (af b)=decide (a=b):=vY n a b
theorem md:∀(n:Nat) (a b:Ks),eqs (ip (n+1)) (a.map af) (b.map af)=decide (a=b)
 |_,[],[]=>rfl
 |_,[],_::_=>rfl
 |_,_::_,[]=>rfl
 |n,x::a,y::b=>by
  simp only [zzF,eqs,md n a b,k9];rw [Bool.eq_iff_iff];simp
theorem EH(n:Nat)(a:List Int):(a.map PV.int).all (Ci.plain n)=true:=by
 simp only [zzT,List.mem_map]
 rintro x ⟨i,_,rfl⟩
 cases n<;>rfl
theorem iB(n:Nat)(a:List Int):Ci.plain (n+1) (af a)=true:=EH n a
theorem ql(n:Nat)(a:Ks):(a.map af).all (Ci.plain (n+1))=true:=by
 simp only [zzT,List.mem_map]
 rintro x ⟨i,_,rfl⟩
 exact iB n i
theorem kG(n:Nat)(a:Ks):Ci.plain (n+2) (.lst (a.map af))=true:=ql n a
theorem Tp(a b:Ks):fG (.lst (a.map af)) (.lst (b.map af))=.ok (.bl (decide (a=b))):=by
 show(if(Ci.plain 9 (.lst (a.map af))&&Ci.plain 9 (.lst (b.map af)))=true then Res.ok (PV.bl (ip 9 (.lst (a.map af)) (.lst (b.map af)))) else .bad)=_
 rw [kG 7,kG 7];exact congrArg (λz=>Res.ok (PV.bl z)) (md 7 a b)
theorem Ol(a b:Ks):gb (.lst (a.map af)) (.lst (b.map af))=.ok (.bl (!decide (a=b))):=by
 show(if(Ci.plain 9 (.lst (a.map af))&&Ci.plain 9 (.lst (b.map af)))=true then Res.ok (PV.bl (!ip 9 (.lst (a.map af)) (.lst (b.map af)))) else .bad)=_
 rw [kG 7,kG 7];exact congrArg (λz=>Res.ok (PV.bl (!z))) (md 7 a b)
theorem mem_keys(k:List Int)(L:Ks):yM (af k) (L.map af)=decide (k∈L):=by
 unfold yM;rw [List.any_map,Bool.eq_iff_iff,zzj,zzN]
 constructor
 ·rintro ⟨x,hx,e⟩
  have:decide (x=k)=true:=(k9 8 x k).symm.trans e
  exact zzY this▸hx
 ·intro h;exact⟨k,h,(k9 8 k k).trans (zzh rfl)⟩
theorem F2(k:List Int)(L:Ks):ja (af k) (.lst (L.map af))=.ok (.bl (!decide (k∈L))):=by
 show(if(Ci.plain 9 (af k)&&(L.map af).all (Ci.plain 9))=true then Res.ok (PV.bl (!yM (af k) (L.map af))) else .bad)=_
 rw [iB 8,ql 8,mem_keys]
 rfl
def gq(rows:List Str)(u:List Int):Prop:=∃r c,u=[r,c]/\aX rows r c=true
def yG:Ks:=(List.range 6).flatMap λ(r:Nat)=>(List.range 6).map λ(c:Nat)=>[(r:Int),(c:Int)]
theorem wW:yG.length=36:=by decide
theorem Rj{rows:List Str}{w:Nat}(L:Fl rows w){u:List Int}(h:gq rows u):u∈yG:=by
 obtain⟨r,c,rfl,h⟩:=h
 obtain⟨a,b,d,e⟩:=Hi L h
 refine List.mem_flatMap.2 ⟨r.toNat,List.mem_range.2 (by omega),List.mem_map.2 ⟨c.toNat,List.mem_range.2 (by omega),?_⟩⟩;rw [Int.toNat_of_nonneg a,Int.toNat_of_nonneg d]
theorem eO{rows:List Str}{sl:Bool}{cl pr r c r' c' e:Int}:cW rows sl cl pr r c r' c'=some e↔¬gR r c r' c'/\(r≠r'/\c≠c'->sl=true/\aX rows r c'=true/\aX rows r' c=true)/\cA rows r' c'-cA rows r c<=cl/\cA rows r c-cA rows r' c'<=cl/\e=(if r≠r'/\c≠c' then 3 else 2)+pr*(if cA rows r' c'-cA rows r c>0 then cA rows r' c'-cA rows r c else 0):=by
 unfold cW
 by_cases h1:gR r c r' c'
 ·rw [if_pos (show(r=r'/\c=c')\/1<r-r'\/1<r'-r\/1<c-c'\/1<c'-c from h1)];exact⟨(λz=>by cases z),λz=>absurd h1 z.1⟩
 ·have pF:¬((r=r'/\c=c')\/1<r-r'\/1<r'-r\/1<c-c'\/1<c'-c):=h1
  rw [if_neg pF]
  by_cases h2:(r≠r'/\c≠c')/\¬(sl=true/\aX rows r c'=true/\aX rows r' c=true)
  ·rw [if_pos h2];exact⟨(λz=>by cases z),λz=>absurd (z.2.1 h2.1) h2.2⟩
  ·rw [if_neg h2];have tJ:r≠r'/\c≠c'->sl=true/\aX rows r c'=true/\aX rows r' c=true:=λa=>Classical.byContradiction λb=>h2 ⟨a,b⟩
   by_cases h3:cl<cA rows r' c'-cA rows r c\/cl<cA rows r c-cA rows r' c'
   ·rw [if_pos h3];exact⟨(λz=>by cases z),λz=>by omega⟩
   ·rw [if_neg h3];refine⟨λz=>⟨h1,tJ,by omega,by omega,by cases z;rfl⟩,λz=>by rw [z.2.2.2.2]⟩
theorem zR{rows:List Str}{sl:Bool}{cl pr:Int}{u v:List Int}{e:Int}(h:E1 rows sl cl pr u v e):∃e',E1 rows sl cl pr v u e':=by
 obtain⟨r,c,r',c',h1,h2,h3,h4,h5⟩:=h
 rw [eO] at h5;refine⟨_,r',c',r,c,h2,h1,h4,h3,eO.2 ⟨?_,λz=>?_,h5.2.2.2.1,h5.2.2.1,rfl⟩⟩
 ·have:=h5.1
  unfold gR at this⊢;omega
 ·obtain⟨a,b,d⟩:=h5.2.1 ⟨λx=>z.1 x.symm,λx=>z.2 x.symm⟩
  exact⟨a,d,b⟩
theorem rP{rows:List Str}{w:Nat}(L:Fl rows w){sl:Bool}{cl pr:Int}(V:Wk cl pr){u v:List Int}{e:Int}(h:E1 rows sl cl pr u v e):0<e/\e<=30/\gq rows v:=by
 obtain⟨r,c,r',c',h1,h2,h3,h4,h5⟩:=h
 rw [eO] at h5;obtain⟨_,_,_,_,_,l1,l2⟩:=mL L h3
 obtain⟨_,_,_,_,_,m1,m2⟩:=mL L h4
 have p0:=V.p0
 have p4:=V.p4
 have e5:=h5.2.2.2.2
 generalize hm:(if cA rows r' c'-cA rows r c>0 then cA rows r' c'-cA rows r c else 0)=m at e5
 have QB:0<=m/\m<=9:=by rw [<-hm];split<;>omega
 generalize hf:(if r≠r'/\c≠c' then(3:Int) else 2)=f at e5
 have Vz:2<=f/\f<=3:=by rw [<-hf];split<;>omega
 have a1:=Int.mul_nonneg p0 QB.1
 have a2:pr*m<=3*9:=Int.mul_le_mul (by omega) QB.2 QB.1 (by omega)
 exact⟨by omega,by omega,r',c',h2,h4⟩
def Et(rows:List Str)(sl:Bool)(cl pr:Int)(u v:List Int)(e:Int):Prop:=E1 rows sl cl pr v u e
def sk(f:List PV->Res PV):Prop:=∀rows w,Fl rows w->∀sl cl pr,Wk cl pr->∀r c,aX rows r c=true->∃T:List (List Int×Int),f [fl rows,wk sl cl pr,af [r,c]]=.ok (.lst (T.map tK))/\T.length<=9/\∀v e,(v,e)∈T↔Et rows sl cl pr [r,c] v e
def pL(F:aN):Prop:=sk (F "steps_to")
def Hx(f:List PV->Res PV):Prop:=∀rows w,Fl rows w->∀sl cl pr,Wk cl pr->∀r c,aX rows r c=true->∃kr Vr,f [.lst [sp r c],wk sl cl pr,fl rows]=.ok (.aP kr (Vr.map val))/\Hn (Et rows sl cl pr) [r,c] kr Vr
def KS(F:aN):Prop:=Hx (F "spread@steps_to")
theorem tV(F:aN)(hs:o7 F)(hc:uF F):sk (aq F dE):=by
 intro rows w L sl cl pr V r c h;obtain⟨T,e1,hl,hT⟩:=hs rows w L sl cl pr V r c h
 have key:∀t∈T,∃e,Et rows sl cl pr [r,c] t.1 e/\F "step_cost" [fl rows,wk sl cl pr,af t.1,af [r,c]]=.ok (.int e):=λt ht=>by
  obtain⟨e',he⟩:=zR ((hT t.1 t.2).1 ht)
  refine⟨e',he,?_⟩;obtain⟨a,b,a',b',g1,g2,g3,g4,g5⟩:=he
  cases g2;have:=hc rows w L sl cl pr V a b r c g3 g4
  rw [g5] at this;rw [g1];exact this
 let cf:List Int->Int:=λv=>match v with
  |[a,b]=>(cW rows sl cl pr a b r c).getD 0
  |_=>0
 have CZ:∀v e,Et rows sl cl pr [r,c] v e->cf v=e:=by
  rintro v e ⟨a,b,a',b',rfl,h2,_,_,g⟩
  cases h2;show(cW rows sl cl pr a b r c).getD 0=e
  rw [g]
  rfl
 refine⟨T.map λt=>(t.1,cf t.1),?_,by simpa using hl,λv e=>?_⟩
 ·have l:T.length<dA:=zzV hl (by decide)
  have t0:∀t:List Int×Int,aD (tK t) (.int 0)=.ok (af t.1):=λt=>rfl
  simp! only [dE,e1,zzl,l];rw [dh (p:=tK) (g:=λt=>tK (t.1,cf t.1)) (λt ht=>by
   obtain⟨e,he,ee⟩:=key t ht
   simp! only [t0,ee,CZ _ _ he])]
  simp! only [List.map_map]
  rfl
 ·rw [List.mem_map]
  constructor
  ·rintro ⟨t,ht,z⟩
   cases z;obtain⟨e,he,_⟩:=key t ht
   rw [CZ _ _ he];exact he
  ·intro he;obtain⟨e',h'⟩:=zR he
   exact⟨(v,e'),(hT v e').2 h',by rw [CZ _ _ he]⟩
theorem FI(F:aN)(hs:pL F):Hx (aq F bB):=λrows w L sl cl pr V r c h=>
 xH F "steps_to" (ix:=[1,2,1,0]) (cp:=[wk sl cl pr,fl rows]) (as:=λu=>[fl rows,wk sl cl pr,af u]) rfl (λ_=>rfl) (E:=Et rows sl cl pr) (O:=gq rows) (s:=[r,c]) (U:=yG) (λu hu=>Rj L hu) (Nat.le_of_eq wW) (λu hu=>by obtain⟨_,_,rfl,_⟩:=hu;rfl) (λu v e he=>⟨(rP L V he).1,(rP L V he).2.1,by obtain⟨a,b,_,_,h1,_,h3,_⟩:=he;exact⟨a,b,h1,h3⟩⟩)
  (λu hu=>by obtain⟨a,b,rfl,ho⟩:=hu;obtain⟨T,e,hl,hT⟩:=hs rows w L sl cl pr V a b ho;exact⟨T,e,by omega,hT⟩) ⟨r,c,rfl,h⟩
theorem rR(F:aN)(hn:lZ F)(hs:KS F){rows:List Str}{w:Nat}(L:Fl rows w){sl:Bool}{cl pr:Int}(V:Wk cl pr){r c:Int}(h:aX rows r c=true):∃kr Vr,aq F cB [fl rows,wk sl cl pr,.lst [sp r c]]=.ok (.aP kr (Vr.map val))/\Hn (Et rows sl cl pr) [r,c] kr Vr:=by
 obtain⟨kr,Vr,e,R⟩:=hs rows w L sl cl pr V r c h
 exact⟨kr,Vr,by simp! only [cB,forL,hn rows L.kE r c h,ko,e],R⟩
theorem j1.cons{E:List Int->List Int->Int->Prop}{s u v:List Int}{d e:Int}(h:E s u e)(k:j1 E u v d):j1 E s v (e+d):=by
 induction k with
 |here=>have:=j1.go (j1.here (E:=E) (s:=s)) h;rw [Int.zero_add] at this;rwa [Int.add_zero]
 |go _ he ih=>have:=ih.go he;rwa [Int.add_assoc] at this
theorem wJ{E E':List Int->List Int->Int->Prop}(hE:∀u v e,E u v e->E' v u e){s u:List Int}{c:Int}(h:j1 E s u c):j1 E' u s c:=by
 induction h with
 |here=>exact .here
 |go _ he ih=>have:=j1.cons (hE _ _ _ he) ih;rwa [Int.add_comm] at this
theorem BL{E:List Int->List Int->Int->Prop}{s:List Int}{kr:Ks}{Vr:Vs}(R:Hn E s kr Vr){k:List Int}{c:Int}(h:j1 E s k c):∃q,au kr Vr k=some q/\q.1<=c:=by
 induction h with
 |here=>exact R.st
 |go _ he ih=>
  obtain⟨q,h1,h2⟩:=ih
  obtain⟨q',h3,h4⟩:=R.iM _ q h1 _ _ he
  exact⟨q',h3,by omega⟩
theorem D4{E:List Int->List Int->Int->Prop}{s:List Int}(hE:∀u v e,E u v e->0<e){k:List Int}{l:Ks}{d:Int}(h:Ag E s k l d):(l.length:Int)<=d+1:=by
 induction h with
 |here=>simp
 |go _ he ih=>have:=hE _ _ _ he;rw [zzL];omega
def Mz(E:List Int->List Int->Int->Prop)(u g:List Int)(p:PV):Prop:=(p=.az/\∀c,¬j1 E u g c)\/∃d l,p=.tup [.int d,.lst (l.map af)]/\Ag (λa b e=>E b a e) g u l d/\l.length<=2000/\∀c,j1 E u g c->d<=c
def ra(f:List PV->Res PV):Prop:=∀rows w,Fl rows w->∀sl cl pr,Wk cl pr->∀r c r' c',aX rows r c=true->aX rows r' c'=true->∃p,f [fl rows,wk sl cl pr,sp r c,sp r' c']=.ok p/\Mz (E1 rows sl cl pr) [r,c] [r',c'] p
def fY(F:aN):Prop:=ra (F "least_way")
theorem Ce(F:aN)(hn:lZ F)(hs:∀rows w,Fl rows w->∀sl cl pr,Wk cl pr->∀r c,aX rows r c=true->∃kr Vr,F "spread_to" [fl rows,wk sl cl pr,.lst [sp r c]]=.ok (.aP kr (Vr.map val))/\Hn (Et rows sl cl pr) [r,c] kr Vr)
 (ht:∀E s kr Vr,Hn E s kr Vr->(∀u v e,E u v e->0<e)->∀k q,au kr Vr k=some q->∃l:Ks,F "traced" [.aP kr (Vr.map val),af k]=.ok (.lst (l.map af))/\Ag E s k l q.1):
 ra (aq F bq):=by
 intro rows w L sl cl pr V r c r' c' h h';obtain⟨kr,Vr,e,R⟩:=hs rows w L sl cl pr V r' c' h'
 have n1:=hn rows L.kE r c h
 have k:sp r c=af [r,c]:=rfl
 have g1:=bS (vs:=Vr) [r,c] R.len
 cases hq:au kr Vr [r,c] with
 |none=>
  rw [hq] at g1;have Eh:cK kr [r,c]=false:=g1
  refine⟨.az,?_,.inl ⟨rfl,λc' hw=>?_⟩⟩
  ·rw [k] at n1⊢;simp! only [bq,n1,e,mq,Eh]
  ·obtain⟨q,h1,_⟩:=BL R (wJ (E':=Et rows sl cl pr) (λ_ _ _ z=>z) hw)
   rw [hq] at h1;cases h1
 |some q=>
  rw [hq] at g1;have Eh:cK kr [r,c]=true:=g1
  obtain⟨l,e2,tr⟩:=ht _ _ _ _ R (λu v e he=>(rP L V he).1) [r,c] q hq
  refine⟨.tup [.int q.1,.lst (l.map af)],?_,.inr ⟨q.1,l,rfl,tr,by have:=D4 (λu v e he=>(rP L V he).1) tr;have:=(R.bd _ q hq).2;omega,λc' hw=>?_⟩⟩
  ·rw [k] at n1⊢;simp! only [bq,n1,e,mq,Eh,Gh hq,Cs,e2]
  ·obtain⟨q',h1,h2⟩:=BL R (wJ (E':=Et rows sl cl pr) (λ_ _ _ z=>z) hw)
   rw [hq] at h1;cases h1;exact h2
def xK(f:List PV->Res PV):Prop:=∀rows,eT rows->∃S:Ks,f [fl rows]=.ok (.lst (S.map af))/\S.length<=36/\Q9 S/\∀k,k∈S↔gq rows k
theorem uH{F:aN}(h:pQ F):xK (F "_law_spots"):=by
 intro rows R;obtain⟨L,e,hu,hl,hm⟩:=h rows R
 refine⟨L.map kN,?_,by simpa using hl,?_,λk=>?_⟩
 ·rw [e,List.map_map]
  rfl
 ·exact List.pairwise_map.2 hu
 ·rw [List.mem_map]
  constructor
  ·rintro ⟨p,hp,rfl⟩
   have:=(hm p.1 p.2).1 hp
   exact⟨_,_,rfl,d8.2 ⟨by omega,by omega,this⟩⟩
  ·rintro ⟨r,c,rfl,h⟩
   obtain⟨a,b,d⟩:=d8.1 h
   refine⟨(r.toNat,c.toNat),(hm _ _).2 d,?_⟩;show [(r.toNat:Int),(c.toNat:Int)]=[r,c]
   rw [Int.toNat_of_nonneg a,Int.toNat_of_nonneg b]
theorem Lb{α:Type}(xs:List α){k:Nat}(h:k<=xs.length):BH xs (some (k:Int)) none=xs.drop k:=by
 unfold BH;rw [HT.ER,HT.B6,Nat.min_eq_left h];exact List.take_of_length_le (by simp)
theorem p8{rows:List Str}{w:Nat}(L:Fl rows w){r c:Int}(h0:0<=r)(h1:r<rows.length)(h2:0<=c)(h3:c<w):∃z,aD (fl rows) (.int r)=.ok (.str z)/\∃x:Nat,aD (.str z) (.int c)=.ok (.str ⟨#[x]⟩)/\(x !=35)=aX rows r c:=by
 obtain⟨i,rfl⟩:=Int.eq_ofNat_of_zero_le h0
 obtain⟨j,rfl⟩:=Int.eq_ofNat_of_zero_le h2
 obtain⟨x,hx⟩:=ME L (i:=i) (j:=j) (by omega) (by omega)
 obtain⟨z,_,e1,e2⟩:=wx L.kE hx
 exact⟨z,e1,x,e2,by simp [aX,tH,hx]⟩
theorem CJ(x:Nat):fG (.str ⟨#[x]⟩) (.str "#")=.ok (.bl (!(x !=35))):=by
 have:(("#":Str))=⟨#[35]⟩:=by decide+kernel
 rw [this];show Res.ok (PV.bl ((⟨#[x]⟩:Str)==⟨#[35]⟩))=_
 congr 2
 rw [bne,Bool.not_not,Bool.eq_iff_iff];simp
theorem DU{t u:Bool}:(if t=true then Res.ok (PV.bl true) else Res.ok (PV.bl u))=Res.ok (PV.bl (t||u)):=by cases t<;>rfl
def Og:Ss:=(.cons (.ret (.bin .add (.var 5) (.ite (.cmp .gt (.var 4) (.cst (.int 0))) (.bin .mul (.sub (.var 1) (.cst (.int 2))) (.var 4)) (.cst (.int 0))))) .nil)
noncomputable def LA:Ss:=(.cons (.ite (.and (.cmp .ne (.sub (.var 2) (.cst (.int 0))) (.sub (.var 3) (.cst (.int 0)))) (.cmp .ne (.sub (.var 2) (.cst (.int 1))) (.sub (.var 3) (.cst (.int 1)))))
 (.cons (.ite (.or (.not (.sub (.var 1) (.cst (.int 0)))) (.or (.cmp .eq (.sub (.sub (.var 0) (.sub (.var 2) (.cst (.int 0)))) (.sub (.var 3) (.cst (.int 1)))) (.cst (.str "#"))) (.cmp .eq (.sub (.sub (.var 0) (.sub (.var 3) (.cst (.int 0)))) (.sub (.var 2) (.cst (.int 1)))) (.cst (.str "#")))))
  (.cons (.ret (.cst .az))
  .nil)
  .nil)
 (.cons (.set 5 (.cst (.int 3)))
 .nil))
 .nil) Og)
noncomputable def OD:Ss:=(.cons (.ite (.or (.cmp .gt (.var 4) (.sub (.var 1) (.cst (.int 1)))) (.cmp .gt (.bin .sub (.cst (.int 0)) (.var 4)) (.sub (.var 1) (.cst (.int 1)))))
 (.cons (.ret (.cst .az))
 .nil)
 .nil) LA)
theorem EY:bV.body=(.cons (.set 4 (.bin .sub (.blt .int (.cons (.sub (.sub (.var 0) (.sub (.var 3) (.cst (.int 0)))) (.sub (.var 3) (.cst (.int 1)))) .nil)) (.blt .int (.cons (.sub (.sub (.var 0) (.sub (.var 2) (.cst (.int 0)))) (.sub (.var 2) (.cst (.int 1)))) .nil)))) (.cons (.set 5 (.cst (.int 2))) OD)):=rfl
abbrev Qf(A:PV)(sl:Bool)(cl pr r c r' c' ri k:Int):Sl:=[.val A,.val (wk sl cl pr),.val (sp r c),.val (sp r' c'),.val (.int ri),.val (.int k)]
theorem BM(F:aN)(A:PV)(sl:Bool){cl pr:Int}(V:Wk cl pr)(r c r' c' ri k:Int):aF F Og (Qf A sl cl pr r c r' c' ri k)=.ok (.rt (.int (k+pr*(if ri>0 then ri else 0)))):=by
 have ms:=ox (j:=ri) V.p0 V.p4
 by_cases hp:0<ri
 ·rw [if_pos hp];simp! only [Og,hp,decide_true,ms]
 ·rw [if_neg hp,Int.mul_zero];simp! only [Og,hp,decide_false]
theorem Jh(F:aN){rows:List Str}{w:Nat}(L:Fl rows w){sl:Bool}{cl pr:Int}(V:Wk cl pr){r c r' c':Int}(h:aX rows r c=true)(h':aX rows r' c'=true)(ri:Int):
 aF F LA (Qf (fl rows) sl cl pr r c r' c' ri 2)=.ok (.rt (if(r≠r'/\c≠c')/\¬(sl=true/\aX rows r c'=true/\aX rows r' c=true) then .az else .int ((if r≠r'/\c≠c' then 3 else 2)+pr*(if ri>0 then ri else 0)))):=by
 have i1:=ju L h
 have i2:=ju L h'
 obtain⟨z3,c1,x3,c2,c3⟩:=p8 L (r:=r) (c:=c') i1.1 i1.2.1 i2.2.2.1 i2.2.2.2
 obtain⟨z4,d1,x4,d2,d3⟩:=p8 L (r:=r') (c:=c) i2.1 i2.2.1 i1.2.2.1 i1.2.2.2
 have e3:=BM F (fl rows) sl V r c r' c' ri 3
 have e2:=BM F (fl rows) sl V r c r' c' ri 2
 by_cases n3:r≠r'/\c≠c'
 ·have Dp:(!(r==r'))=true:=by simpa using n3.1
  have vQ:(!(c==c'))=true:=by simpa using n3.2
  rw [if_pos n3]
  by_cases hb:sl=true/\aX rows r c'=true/\aX rows r' c=true
  ·rw [if_neg λz=>z.2 hb]
   have hB:(!sl||(!aX rows r c'||!aX rows r' c))=false:=by rw [hb.1,hb.2.1,hb.2.2];rfl
   simp! only [LA,c1,c2,d1,d2,CJ,c3,d3,DU,Dp,vQ,hB,Bool.true_or,e3]
  ·rw [if_pos ⟨n3,hb⟩];have hB:(!sl||(!aX rows r c'||!aX rows r' c))=true:=by
    cases sl with
    |false=>rfl
    |true=>
     cases o1:aX rows r c' with
     |false=>rfl
     |true=>
      cases o2:aX rows r' c with
      |false=>rfl
      |true=>exact absurd ⟨rfl,o1,o2⟩ hb
   simp! only [LA,c1,c2,d1,d2,CJ,c3,d3,DU,Dp,vQ,hB,Bool.true_or]
 ·rw [if_neg λz=>n3 z.1,if_neg n3]
  cases Dp:(!(r==r')) with
  |false=>simp! only [LA,Dp,e2]
  |true=>
   have vQ:(!(c==c'))=false:=by
    cases vQ:(!(c==c')) with
    |false=>rfl
    |true=>exact absurd ⟨by simpa using Dp,by simpa using vQ⟩ n3
   simp! only [LA,Dp,vQ,e2]
theorem uy(F:aN){rows:List Str}{w:Nat}(L:Fl rows w){sl:Bool}{cl pr:Int}(V:Wk cl pr){r c r' c':Int}(h:aX rows r c=true)(h':aX rows r' c'=true)(hf:¬gR r c r' c'):
 aq F bV [fl rows,wk sl cl pr,sp r c,sp r' c']=.ok (oP (cW rows sl cl pr r c r' c')):=by
 obtain⟨z1,x1,a1,a2,a3,_⟩:=mL L h
 obtain⟨z2,x2,b1,b2,b3,_⟩:=mL L h'
 have q1:cW rows sl cl pr r c r' c'=_:=if_neg hf
 rw [q1];have st:cx bV [fl rows,wk sl cl pr,sp r c,sp r' c']=[.val (fl rows),.val (wk sl cl pr),.val (sp r c),.val (sp r' c'),.no,.no]:=rfl
 have ar:cy bV [fl rows,wk sl cl pr,sp r c,sp r' c']=true:=rfl
 have e4:=Jh F L V (sl:=sl) h h' (cA rows r' c'-cA rows r c)
 have go:∀x,aF F OD (Qf (fl rows) sl cl pr r c r' c' (cA rows r' c'-cA rows r c) 2)=.ok (.rt x)->aq F bV [fl rows,wk sl cl pr,sp r c,sp r' c']=.ok x:=λx e=>by
  unfold aq;rw [ar,if_pos rfl,st,EY];simp only [aF,fH,aK,cU,J,J2,a1,a2,a3,b1,b2,b3,e]
 by_cases hz:cl<cA rows r' c'-cA rows r c\/cl<cA rows r c-cA rows r' c'
 ·have:(if(r≠r'/\c≠c')/\¬(sl=true/\aX rows r c'=true/\aX rows r' c=true) then none else if cl<cA rows r' c'-cA rows r c\/cl<cA rows r c-cA rows r' c' then none else some ((if r≠r'/\c≠c' then 3 else 2)+pr*(if cA rows r' c'-cA rows r c>0 then cA rows r' c'-cA rows r c else 0)))=(none:Option Int):=by
   rw [if_pos hz];split<;>rfl
  rw [this];have hb:(decide (cl<cA rows r' c'-cA rows r c)||decide (cl<0-(cA rows r' c'-cA rows r c)))=true:=by
   rw [Bool.or_eq_true,zzN,zzN];omega
  refine go .az ?_;simp! only [OD,DU,hb]
 ·have hb:(decide (cl<cA rows r' c'-cA rows r c)||decide (cl<0-(cA rows r' c'-cA rows r c)))=false:=by
   rw [Bool.or_eq_false_iff,decide_eq_false_iff_not,decide_eq_false_iff_not];omega
  rw [if_neg hz];refine(go _ ((?_:_=_).trans e4)).trans ?_
  ·simp! only [OD,DU,hb]
  ·split<;>rfl
def nL(F:aN):Prop:=∀rows w,Fl rows w->∀sl cl pr,Wk cl pr->∀r c r' c',aX rows r c=true->aX rows r' c'=true->¬gR r c r' c'->F "_law_cost" [fl rows,wk sl cl pr,sp r c,sp r' c']=.ok (oP (cW rows sl cl pr r c r' c'))
noncomputable def IW(rows:List Str)(sl:Bool)(cl pr r c:Int)(i:Nat):Option (List Int×Int):=if i≠4/\aX rows (r-1+i/3) (c-1+i%3)=true then(cW rows sl cl pr r c (r-1+i/3) (c-1+i%3)).map λv=>([r-1+(i:Int)/3,c-1+(i:Int)%3],v) else none
noncomputable def KR(rows:List Str)(sl:Bool)(cl pr r c:Int)(i:Nat):Option PV:=if i≠4/\aX rows (r-1+i/3) (c-1+i%3)=true then(cW rows sl cl pr r c (r-1+i/3) (c-1+i%3)).map λv=>tK ([r-1+(i:Int)/3,c-1+(i:Int)%3],v) else none
noncomputable def kC:E:=(.and (.ch .le .lt (.cst (.int 0)) (.var 5) (.blt .len (.cons (.var 0) .nil))) (.and (.ch .le .lt (.cst (.int 0)) (.var 6) (.blt .len (.cons (.sub (.var 0) (.cst (.int 0))) .nil))) (.and (.cmp .ne (.var 4) (.cst (.int 4))) (.cmp .ne (.sub (.sub (.var 0) (.var 5)) (.var 6)) (.cst (.str "#"))))))
noncomputable def kT:Ss:=(.cons (.set 7 (.call "_law_cost" (.cons (.var 0) (.cons (.var 1) (.cons (.var 2) (.cons (.tup (.cons (.var 5) (.cons (.var 6) .nil))) .nil))))))
 (.cons (.ite (.cmp .zj (.var 7) (.cst .az))
  (.cons (.app 3 (.tup (.cons (.tup (.cons (.var 5) (.cons (.var 6) .nil))) (.cons (.var 7) .nil))))
  .nil)
  .nil)
 .nil))
noncomputable def kR:Ss:=(.cons (.ite kC kT .nil) .nil)
noncomputable def sV:Ss:=(.cons (.set 5 (.bin .add (.bin .sub (.sub (.var 2) (.cst (.int 0))) (.cst (.int 1))) (.bin .fdiv (.var 4) (.cst (.int 3)))))
 (.cons (.set 6 (.bin .add (.bin .sub (.sub (.var 2) (.cst (.int 1))) (.cst (.int 1))) (.bin .mod (.var 4) (.cst (.int 3))))) kR))
theorem BO{t u:Bool}:(if t=true then Res.ok (PV.bl u) else Res.ok (PV.bl false))=Res.ok (PV.bl (t&&u)):=by cases t<;>rfl
theorem SQ{rows:List Str}{w:Nat}(L:Fl rows w):∃z,aD (fl rows) (.int 0)=.ok (.str z)/\z.length=w/\z.length<=dA:=by
 have hz:rows[0]?=some (rows[0]'L.ne):=zzg L.ne
 have hm:=zzD hz
 exact⟨_,uE (j:=0) hz,L.Br _ hm,zzU (L.kE.2 _ hm) (by decide)⟩
theorem MU(F:aN){rows:List Str}{w:Nat}(L:Fl rows w)(A B:PV)(i:Nat)(s3 s7:Ci.Slot)(r' c':Int):
 aK F kC [.val (fl rows),.val A,.val B,s3,.val (.int i),.val (.int r'),.val (.int c'),s7]=.ok (.bl (decide (i≠4/\aX rows r' c'=true))):=by
 obtain⟨z0,f1,f2,f3⟩:=SQ L
 have RX:(z0.length:Int)=(w:Int):=by rw [f2]
 by_cases hA:0<=r'/\r'<rows.length
 ·by_cases hB:0<=c'/\c'<w
  ·obtain⟨z,g1,x,g2,g3⟩:=p8 L hA.1 hA.2 hB.1 hB.2
   have e:decide (i≠4/\aX rows r' c'=true)=((!((i:Int)==4))&&aX rows r' c'):=by
    rw [Bool.eq_iff_iff,zza,zzN];simp;omega
   rw [e];simp! only [kC,hA.1,hA.2,hB.1,hB.2,f1,RX,f3,decide_true,zzl,g1,g2,g3,oQ,BO,Bool.true_and]
  ·have e:decide (i≠4/\aX rows r' c'=true)=false:=decide_eq_false λz=>hB (ju L z.2).2.2
   have q:(decide (0<=c')&&decide (c'<(w:Int)))=false:=by
    rw [<-Bool.decide_and];exact decide_eq_false hB
   rw [e];simp! only [kC,hA.1,hA.2,f1,RX,f3,decide_true,zzl,BO,q,Bool.true_and,Bool.false_and]
 ·have e:decide (i≠4/\aX rows r' c'=true)=false:=decide_eq_false λz=>hA ⟨(ju L z.2).1,(ju L z.2).2.1⟩
  have q:(decide (0<=r')&&decide (r'<(rows.length:Int)))=false:=by
   rw [<-Bool.decide_and];exact decide_eq_false hA
  rw [e];simp! only [kC,zzl,BO,q,Bool.true_and,Bool.false_and]
theorem A8(F:aN)(hc:nL F){rows:List Str}{w:Nat}(L:Fl rows w){sl:Bool}{cl pr:Int}(V:Wk cl pr){r c:Int}(h:aX rows r c=true)(i:Nat)(hi:i<9)(acc:List PV)(hT:acc.length<=100)(t4 t5 t6 t7:Ci.Slot):
 ∃(u:Ci.Slot),(((Tg.one 4).put (.int i) [.val (fl rows),.val (wk sl cl pr),.val (sp r c),.own (.lst acc),t4,t5,t6,t7]).bind λaw=>aF F sV aw)=
  .ok (.nx [.val (fl rows),.val (wk sl cl pr),.val (sp r c),.own (.lst (acc++(KR rows sl cl pr r c i).toList)),.val (.int i),.val (.int (r-1+i/3)),.val (.int (c-1+i%3)),u]):=by
 have q3:(0:Int)<3:=by decide
 have q4:(0:Int)<3/\(3:Int)<1073741824:=by decide
 have TV:acc.length<dA:=zzV hT (by decide)
 have kc:=MU F L (wk sl cl pr) (sp r c) i (.own (.lst acc)) t7 (r-1+(i:Int)/3) (c-1+(i:Int)%3)
 have go:∀x,aF F kR [.val (fl rows),.val (wk sl cl pr),.val (sp r c),.own (.lst acc),.val (.int i),.val (.int (r-1+i/3)),.val (.int (c-1+i%3)),t7]=x->(((Tg.one 4).put (.int i) [.val (fl rows),.val (wk sl cl pr),.val (sp r c),.own (.lst acc),t4,t5,t6,t7]).bind λaw=>aF F sV aw)=x:=λx e=>by
  simp! only [sV,q3,q4,and_self,e]
 unfold KR
 by_cases hq:i≠4/\aX rows (r-1+i/3) (c-1+i%3)=true
 ·rw [if_pos hq];rw [zzh hq] at kc;have nf:¬gR r c (r-1+i/3) (c-1+i%3):=by unfold gR;omega
  have e:=hc rows w L sl cl pr V r c _ _ h hq.2 nf
  cases hs:cW rows sl cl pr r c (r-1+i/3) (c-1+i%3) with
  |none=>
   rw [hs] at e;simp only [oP] at e;have e5:fy .az .az=.ok (.bl false):=rfl
   refine⟨.val .az,go _ ?_⟩;rw [kR,aF,fH,kc];simp! only [kT,e,e5,Option.map_none,Option.toList_none,List.append_nil]
  |some v=>
   rw [hs] at e;simp only [oP] at e;have e5:fy (.int v) .az=.ok (.bl true):=rfl
   refine⟨.val (.int v),go _ ?_⟩;rw [kR,aF,fH,kc];simp! only [kT,e,e5,TV,Option.map_some,Option.toList_some]
   rfl
 ·rw [if_neg hq];rw [decide_eq_false hq] at kc;refine⟨t7,go _ ?_⟩;rw [kR,aF,fH,kc];simp! only [Option.toList_none,List.append_nil]
theorem K6(rows:List Str)(sl:Bool)(cl pr r c:Int)(i:Nat):KR rows sl cl pr r c i=(IW rows sl cl pr r c i).map tK:=by
 unfold KR IW;split
 ·rw [Option.map_map];rfl
 ·rfl
theorem v7{α β:Type}(f:α->Option β):∀l:List α,(l.flatMap λa=>(f a).toList)=l.filterMap f
 |[]=>rfl
 |a::l=>by
  rw [List.flatMap_cons,v7 f l,List.filterMap_cons];cases f a<;>rfl
def n9(f:List PV->Res PV):Prop:=∀rows w,Fl rows w->∀sl cl pr,Wk cl pr->∀r c,aX rows r c=true->∃T:List (List Int×Int),f [fl rows,wk sl cl pr,af [r,c]]=.ok (.lst (T.map tK))/\T.length<=9/\(T.Pairwise λa b=>a.1≠b.1)/\∀v e,(v,e)∈T↔E1 rows sl cl pr [r,c] v e
def gD(F:aN):Prop:=n9 (F "_law_steps")
theorem yh(F:aN)(hc:nL F):n9 (aq F bA):=by
 intro rows w L sl cl pr V r c h;refine⟨(List.range 9).filterMap (IW rows sl cl pr r c),?_,zzU (List.length_filterMap_le _ _) (by simp),?_,λv e=>?_⟩
 ·obtain⟨s',e⟩:=gP (body:=λx env=>((Tg.one 4).put x env).bind λaw=>aF F sV aw) (g:=λi:Nat=>PV.int (i:Int)) (mk:=λacc (s:Ci.Slot×Ci.Slot×Ci.Slot×Ci.Slot)=>[.val (fl rows),.val (wk sl cl pr),.val (sp r c),.own (.lst acc),s.1,s.2.1,s.2.2.1,s.2.2.2]) (app:=λi=>(KR rows sl cl pr r c i).toList) (m:=1) (M:=50) (List.range 9) [] (.no,.no,.no,.no) (λi _=>by cases KR rows sl cl pr r c i<;>simp) (λi hi acc s hl=>by
   obtain⟨u,e⟩:=A8 F hc L V h i (List.mem_range.1 hi) acc (by omega) s.1 s.2.1 s.2.2.1 s.2.2.2
   exact⟨(_,_,_,u),e⟩) (by decide)
  have k:af [r,c]=sp r c:=rfl
  have s:aH 9=true:=by decide
  have rg:dW 0 (9:Int).toNat=(List.range 9).map λi:Nat=>PV.int (i:Int):=by
   unfold dW;refine List.map_congr_left λi _=>?_
   rw [Int.zero_add]
  have fm:((List.range 9).flatMap λi=>(KR rows sl cl pr r c i).toList)=((List.range 9).filterMap (IW rows sl cl pr r c)).map tK:=by
   rw [v7,List.map_filterMap]
   congr 1
   funext i
   exact K6 ..
  rw [fm,<-rg] at e;have db:bA.body=.cons (.own 3 (.lst .nil)) (.cons (.di (.one 4) (.kF (.cst (.int 9))) sV) (.cons (.bF 3) (.cons (.ret (.var 3)) .nil))):=rfl
  have st:cx bA [fl rows,wk sl cl pr,sp r c]=[.val (fl rows),.val (wk sl cl pr),.val (sp r c),.no,.no,.no,.no,.no]:=rfl
  have ar:cy bA [fl rows,wk sl cl pr,sp r c]=true:=rfl
  rw [k];unfold aq;rw [ar,if_pos rfl,st,db];simp! only [s] at e⊢;simp! only [e,Fx]
 ·refine List.Pairwise.filterMap (S:=λa b:List Int×Int=>a.1≠b.1) (R:=λi j:Nat=>i≠j) _ (λi j Lw a ha b hb OE=>Lw ?_) (List.nodup_range (n:=9));unfold IW at ha hb;split at ha
  ·split at hb
   ·obtain⟨_,_,rfl⟩:=zzJ.1 ha
    obtain⟨_,_,rfl⟩:=zzJ.1 hb
    simp only [List.cons.injEq,and_true] at OE;omega
   ·cases hb
  ·cases ha
 ·rw [List.mem_filterMap]
  constructor
  ·rintro ⟨i,hi,g⟩
   unfold IW at g;split at g
   ·rename_i hh;obtain⟨x,hx,g⟩:=zzJ.1 g
    cases g;exact⟨r,c,_,_,rfl,rfl,h,hh.2,hx⟩
   ·cases g
  ·rintro ⟨a,b,r',c',g1,rfl,_,ho,hs⟩
   cases g1;have nf:=(eO.1 hs).1
   unfold gR at nf;refine⟨(3*(r'-r+1)+(c'-c+1)).toNat,List.mem_range.2 (by omega),?_⟩;have e1:r-1+((3*(r'-r+1)+(c'-c+1)).toNat:Int)/3=r':=by omega
   have e2:c-1+((3*(r'-r+1)+(c'-c+1)).toNat:Int)%3=c':=by omega
   unfold IW;rw [e1,e2,if_pos ⟨by omega,ho⟩,hs]
   rfl
inductive Kc(E:List Int->List Int->Int->Prop):Ks->Int->Prop
 |one {x:List Int}:Kc E [x] 0
 |cons {x y:List Int} {l:Ks} {e d:Int}:E x y e->Kc E (y::l) d->Kc E (x::y::l) (e+d)
theorem pU{E:List Int->List Int->Int->Prop}{g u:List Int}{l:Ks}{d:Int}(h:Ag (λa b e=>E b a e) g u l d):j1 E u g d:=by
 induction h with
 |here=>exact .here
 |go _ he ih=>have:=j1.cons he ih;rwa [Int.add_comm] at this
theorem Nu{rows:List Str}{sl:Bool}{cl pr:Int}{u v:List Int}{e e':Int}(h:E1 rows sl cl pr u v e)(h':E1 rows sl cl pr u v e'):e'=e:=by
 obtain⟨r,c,r',c',rfl,rfl,_,_,h5⟩:=h
 obtain⟨_,_,_,_,g1,g2,_,_,g5⟩:=h'
 cases g1;cases g2;rw [h5] at g5;cases g5
 rfl
theorem lP{f:PV->Res (Option PV)}{g:List Int}(hf:∀t:List Int×Int,f (tK t)=.ok (if decide (t.1=g) then some (.int t.2) else none)):∀T:List (List Int×Int),aV f (T.map tK)=.ok (((T.filter λt=>decide (t.1=g)).map (·.2)).map PV.int)
 |[]=>rfl
 |t::T=>by
  simp only [zzF,aV,hf,Hb,m6,lP hf T,List.filter_cons];cases(decide (t.1=g))<;>rfl
theorem Bc{rows:List Str}{sl:Bool}{cl pr:Int}{u g:List Int}{e:Int}{T:List (List Int×Int)}(hT:∀v e,(v,e)∈T↔E1 rows sl cl pr u v e)(he:E1 rows sl cl pr u g e):∃ns,(T.filter λt=>decide (t.1=g)).map (·.2)=e::ns:=by
 cases hq:T.filter λt=>decide (t.1=g) with
 |nil=>
  have:(g,e)∈T.filter λt=>decide (t.1=g):=List.mem_filter.2 ⟨(hT g e).2 he,zzh rfl⟩
  rw [hq] at this;cases this
 |cons t r=>
  have:t∈T.filter λt=>decide (t.1=g):=by rw [hq];exact zzP ..
  obtain⟨h1,h2⟩:=List.mem_filter.1 this
  obtain⟨a,b⟩:=t
  have h2:a=g:=zzY h2
  subst h2;rw [zzF];exact⟨_,congrArg (·::_) (Nu he ((hT a b).1 h1))⟩
noncomputable def xf:Ss:=(.cons (.set 7 (.cQ 1 [6] (.one 0) (.seq (.call "_law_steps" (.cons (.var 0) (.cons (.var 1) (.cons (.sub (.var 2) (.var 5)) .nil))))) (.cmp .eq (.sub (.var 0) (.cst (.int 0))) (.var 1)) (.sub (.var 0) (.cst (.int 1)))))
 (.cons (.ite (.cmp .eq (.var 7) (.lst .nil))
  (.cons (.ret (.cst .az))
  .nil)
  .nil)
 (.cons (.set 4 (.bin .add (.var 4) (.sub (.var 7) (.cst (.int 0)))))
 .nil)))
theorem Vp(a b:List Int):fG (af a) (af b)=.ok (.bl (decide (a=b))):=by
 show(if(Ci.plain 9 (af a)&&Ci.plain 9 (af b))=true then Res.ok (PV.bl (ip 9 (af a) (af b))) else .bad)=_
 rw [iB 8,iB 8];exact congrArg (λz=>Res.ok (PV.bl z)) (k9 8 a b)
theorem qY(F:aN)(hs:gD F){rows:List Str}{w:Nat}(L:Fl rows w){sl:Bool}{cl pr:Int}(V:Wk cl pr)(A:PV)(W:Ks):∀(l:Ks) (x:List Int) (d s:Int) (k:Nat) (s5 s6 s7:Ci.Slot),Kc (E1 rows sl cl pr) (x::l) d->W.drop k=x::l->∃t5 t6 t7,forL (λx env=>((Tg.two 5 6).put x env).bind λaw=>aF F xf aw) (cm k (l.map af)) [.val (fl rows),.val (wk sl cl pr),.val (.lst (W.map af)),.val A,.val (.int s),s5,s6,s7]=.ok (.nx [.val (fl rows),.val (wk sl cl pr),.val (.lst (W.map af)),.val A,.val (.int (s+d)),t5,t6,t7])
 |[],x,d,s,k,s5,s6,s7,hp,hW=>by
  cases hp;exact⟨s5,s6,s7,by rw [Int.add_zero];rfl⟩
 |y::l,x,d,s,k,s5,s6,s7,hp,hW=>by
  cases hp with
  |@cons _ _ _ e d he hp=>
   obtain⟨r,c,hx,ho⟩:gq rows x:=by obtain⟨r,c,_,_,h1,_,h3,_⟩:=he;exact⟨r,c,h1,h3⟩
   obtain⟨T,e1,lT,_,hT⟩:=hs rows w L sl cl pr V r c ho
   rw [<-hx] at e1 hT;obtain⟨ns,hn⟩:=Bc hT he
   have lT:T.length<dA:=zzV lT (by decide)
   have hk:W[k]?=some x:=by
    have:=congrArg (λz:Ks=>z[0]?) hW
    simpa using this
   have UK:=(zzH.1 hk).1
   have es:aD (.lst (W.map af)) (.int k)=.ok (af x):=by
    simp only [aD];rw [gM (k:=k) (by simpa using UK)];rw [List.getElem_map,(zzH.1 hk).2]
    rfl
   have t0:∀t:List Int×Int,aD (tK t) (.int 0)=.ok (af t.1):=λt=>rfl
   have t1:∀t:List Int×Int,aD (tK t) (.int 1)=.ok (.int t.2):=λt=>rfl
   have q1:fG (.lst ((e::ns).map PV.int)) (.lst [])=.ok (.bl false):=by
    have:=eq_nil (e::ns)
    rwa [decide_eq_false (List.cons_ne_nil _ _)] at this
   have q2:aD (.lst ((e::ns).map PV.int)) (.int 0)=.ok (.int e):=by
    simp only [aD];rw [show(0:Int)=((0:Nat):Int) from rfl,gM (k:=0) (by simp)]
    rfl
   rw [zzF] at q1 q2;have eb:(((Tg.two 5 6).put (.tup [.int (k:Nat),af y]) [.val (fl rows),.val (wk sl cl pr),.val (.lst (W.map af)),.val A,.val (.int s),s5,s6,s7]).bind λaw=>aF F xf aw)=.ok (.nx [.val (fl rows),.val (wk sl cl pr),.val (.lst (W.map af)),.val A,.val (.int (s+e)),.val (.int k),.val (af y),.val (.lst ((e::ns).map PV.int))]):=by
    simp! only [xf,es,e1,zzl,lT];rw [lP (g:=y) (λt=>by
     simp! only [t0,t1,Vp];cases decide (t.1=y)<;>simp! only [t1]),hn]
    simp! only [q1,q2]
   obtain⟨t5,t6,t7,ih⟩:=qY F hs L V A W l y d (s+e) (k+1) (.val (.int k)) (.val (af y)) (.val (.lst ((e::ns).map PV.int))) hp (by
    rw [<-List.drop_drop,hW]
    rfl)
   refine⟨t5,t6,t7,?_⟩;rw [zzF,cm,forL,eb,<-Int.add_assoc];exact ih
theorem mZ{α:Type}{f:PV->Res (Option PV)}{p:α->PV}:∀{xs:List α},(∀x∈xs,f (p x)=.ok none)->aV f (xs.map p)=.ok []
 |[],_=>rfl
 |x::xs,h=>by
  simp only [zzF,aV,h x (zzP ..),Hb,m6,mZ λy hy=>h y (zzI _ hy)]
  rfl
def BF(f:List PV->Res PV):Prop:=∀rows w,Fl rows w->∀sl cl pr,Wk cl pr->∀(l:Ks) d,Kc (E1 rows sl cl pr) l d->(∀x∈l,gq rows x)->l.length<=2000->f [fl rows,wk sl cl pr,.lst (l.map af)]=.ok (.int d)
def rQ(F:aN):Prop:=BF (F "_law_sum")
theorem IF(F:aN)(hp:pQ F)(hs:gD F):BF (aq F cM):=by
 intro rows w L sl cl pr V l d h ho hl;obtain⟨S,e1,_,lS,hS⟩:=hp rows L.kE
 have eS:S.map Hk=(S.map λp=>[(p.1:Int),(p.2:Int)]).map af:=by rw [List.map_map];rfl
 rw [eS] at e1;generalize hK:(S.map λp=>[(p.1:Int),(p.2:Int)])=K at e1
 have OT:∀x∈l,x∈K:=λx hx=>by
  obtain⟨r,c,rfl,hr⟩:=ho x hx
  obtain⟨a,b,h2⟩:=d8.1 hr
  rw [<-hK];exact List.mem_map.2 ⟨(r.toNat,c.toNat),(hS _ _).2 h2,by rw [Int.toNat_of_nonneg a,Int.toNat_of_nonneg b]⟩
 obtain⟨x,t,rfl⟩:∃x t,l=x::t:=by cases h<;>exact⟨_,_,rfl⟩
 obtain⟨t5,t6,t7,e2⟩:=qY F hs L V (.lst (K.map af)) (x::t) t x d 0 0 .no .no .no h rfl
 have ll:(x::t).length<dA:=zzV hl (by decide)
 have q1:fG (.lst ((x::t).map af)) (.lst [])=.ok (.bl false):=by
  have:=Tp (x::t) []
  rwa [decide_eq_false (List.cons_ne_nil _ _)] at this
 have q2:gb (.lst []) (.lst [])=.ok (.bl false):=rfl
 have q3:ie (.lst ((x::t).map af)) (some 1) none=.ok (.lst (t.map af)):=by
  have:=Lb ((x::t).map af) (k:=1) (by simp)
  exact congrArg (λz=>Res.ok (PV.lst z)) this
 have db:cM.body=.cons (.set 3 (.call "_law_spots" (.cons (.var 0) .nil)))
  (.cons (.ite (.or (.not (.ty .list (.var 2))) (.or (.cmp .eq (.var 2) (.lst .nil)) (.cmp .ne (.cQ 1 [3] (.one 0) (.seq (.var 2)) (.cmp .kH (.var 0) (.var 1)) (.var 0)) (.lst .nil)))) (.cons (.ret (.cst .az)) .nil) .nil)
  (.cons (.set 4 (.cst (.int 0))) (.cons (.di (.two 5 6) (.enum (.slice (.var 2) (.some (.cst (.int 1))) .no)) xf) (.cons (.ret (.var 4)) .nil)))):=rfl
 have st:cx cM [fl rows,wk sl cl pr,.lst ((x::t).map af)]=[.val (fl rows),.val (wk sl cl pr),.val (.lst ((x::t).map af)),.no,.no,.no,.no,.no]:=rfl
 have ar:cy cM [fl rows,wk sl cl pr,.lst ((x::t).map af)]=true:=rfl
 unfold aq;rw [ar,if_pos rfl,st,db];rw [zzF] at q1 q3;have ll:t.length+1<dA:=ll
 have hc:aV (λx=>(ja x (.lst (K.map af))).bind λt=>sJ t λt=>if t=true then Res.ok (some x) else Res.ok none) (af x::t.map af)=.ok []:=by
  rw [<-zzF (f:=af)];refine mZ λy hy=>?_
  have q:=F2 y K
  rw [zzh (OT y hy)] at q;rw [q]
  rfl
 simp! only [] at e2⊢;simp! only [e1,q1,zzl,ll,hc,q2,q3,e2,Int.zero_add]
theorem uS{ks:Ks}{ns:List Int}{k:List Int}{n:Int}(h:au ks ns k=some n):aD (.aP ks (ns.map .int)) (af k)=.ok (.int n):=by
 show(Res.of (jz (af k))).bind (λk=>Res.of (au _ _ k))=_
 rw [eQ];show Res.of (au _ _ k)=_
 rw [jg,h]
 rfl
def wt(ks:Ks)(ns:List Int)(k:List Int):Nat:=match au ks ns k with
 |some n=>n.toNat
 |none=>1081
def C9(ks:Ks)(ns:List Int):Nat:=(yG.map (wt ks ns)).sum
theorem tO{α:Type}{f g:α->Nat}:∀{l:List α},(∀a∈l,f a<=g a)->(l.map f).sum<=(l.map g).sum
 |[],_=>zzE _
 |a::l,h=>by
  have:=tO (l:=l) λb hb=>h b (zzI _ hb)
  have:=h a (zzP ..)
  simp only [zzF,List.sum_cons];omega
theorem CF{α:Type}{f g:α->Nat}{x:α}:∀{l:List α},(∀a∈l,f a<=g a)->x∈l->f x<g x->(l.map f).sum<(l.map g).sum
 |a::l,h,hx,hl=>by
  have h1:=tO (l:=l) λb hb=>h b (zzI _ hb)
  have h2:=h a (zzP ..)
  simp only [zzF,List.sum_cons];rcases List.mem_cons.1 hx with rfl|hx
  ·omega
  ·have:=CF (l:=l) (λb hb=>h b (zzI _ hb)) hx hl
   omega
theorem D6(ks:Ks)(ns:List Int)(h:∀k n,au ks ns k=some n->n<=1081):C9 ks ns<=38916:=by
 have h1:(yG.map (wt ks ns)).sum<=(yG.map λ_=>1081).sum:=tO λk _=>by
  unfold wt;cases hg:au ks ns k with
  |none=>exact zzE _
  |some n=>have:=h k n hg;show n.toNat<=1081;omega
 have h2:(yG.map λ_=>1081).sum=38916:=by decide+kernel
 exact h2▸h1
theorem oB{α:Type}:∀(ps:List (List Int×α)) (ks:Ks) (vs:List α),(ks++ps.map (·.1)).Nodup->ez ps ks vs=(ks++ps.map (·.1),vs++ps.map (·.2))
 |[],ks,vs,_=>by simp [ez]
 |p::ps,ks,vs,h=>by
  have hn:cK ks p.1=false:=by
   cases hx:cK ks p.1 with
   |false=>rfl
   |true=>
    have:=(List.nodup_append.1 h).2.2 _ (dq.1 hx) p.1 (by simp)
    exact absurd rfl this
  have hm:=oB ps (ks++[p.1]) (vs++[p.2]) (by rw [List.append_assoc];exact h)
  rw [ez,aZ,aY,hn,if_neg (by simp),if_neg (by simp),hm,List.append_assoc,List.append_assoc]
  rfl
theorem rk{α:Type}(f:List Int->α):∀{ks:Ks} {k:List Int},k∈ks->au ks (ks.map f) k=some (f k)
 |a::ks,k,h=>by
  show(if a=k then some (f a) else au ks (ks.map f) k)=_
  by_cases ha:a=k
  ·rw [if_pos ha,ha]
  ·rw [if_neg ha];exact rk f ((List.mem_cons.1 h).resolve_left λz=>ha z.symm)
abbrev ya(S:Ks)(f:List Int->List (List Int×Int)):PV:=.aP S (S.map λk=>.lst ((f k).map tK))
theorem Lc{S:Ks}{f:List Int->List (List Int×Int)}{k:List Int}(h:k∈S):aD (ya S f) (af k)=.ok (.lst ((f k).map tK)):=by
 show(Res.of (jz (af k))).bind (λk=>Res.of (au _ _ k))=_
 rw [eQ];show Res.of (au _ _ k)=_
 rw [rk _ h]
 rfl
theorem Ct(f:List Int->PV):∀S:Ks,uD (S.map λk=>.tup [af k,f k])=some (S.map λk=>(k,f k))
 |[]=>rfl
 |k::S=>by
  show(jz (af k)).bind (λk'=>(uD (S.map λk=>.tup [af k,f k])).map ((k',f k)::·))=_
  rw [eQ,Ct f S]
  rfl
theorem vZ{S:Ks}(nd:S.Nodup)(f:List Int->PV):d5 .dict [.lst (S.map λk=>.tup [af k,f k])]=.ok (.aP S (S.map f)):=by
 show(Res.of (uD _)).bind _=_
 rw [Ct];show Res.ok (PV.aP (ez (S.map λk=>(k,f k)) [] []).1 (ez (S.map λk=>(k,f k)) [] []).2)=_
 rw [oB _ _ _ (by simpa [Function.comp_def] using nd)];simp [Function.comp_def]
theorem FR{U:Ks}{ks:Ks}(nd:ks.Nodup)(h:∀k∈ks,k∈U):ks.length<=U.length:=by
 induction ks generalizing U with
 |nil=>exact Nat.zero_le _
 |cons a ks ih=>
  obtain⟨n1,n2⟩:=List.nodup_cons.1 nd
  have ha:=h a (zzP ..)
  have:=ih (U:=U.erase a) n2 λk hk=>(List.mem_erase_of_ne (λz:k=a=>n1 (by rw [<-z];exact hk))).2 (h k (zzI _ hk))
  rw [List.length_erase_of_mem ha] at this;have:=List.length_pos_of_mem ha
  rw [zzL];omega
structure x9(E:List Int->List Int->Int->Prop)(O:List Int->Prop)(g:List Int)(ks:Ks)(ns:List Int):Prop where
 len:ks.length=ns.length
 nd:ks.Nodup
 Ff:∀k n,au ks ns k=some n->O k/\j1 E g k n/\0<=n/\n+30<=30*ks.length
 st:au ks ns g=some 0
theorem x9.has{E:List Int->List Int->Int->Prop}{O:List Int->Prop}{g:List Int}{ks:Ks}{ns:List Int}(C:x9 E O g ks ns){k:List Int}(h:k∈ks):∃n,au ks ns k=some n:=by
 have:=bS (vs:=ns) k C.len
 rw [dq.2 h] at this;exact Option.isSome_iff_exists.1 this.symm
theorem x9.le{E:List Int->List Int->Int->Prop}{O:List Int->Prop}{g:List Int}{ks:Ks}{ns:List Int}(C:x9 E O g ks ns)(hO:∀k,O k->k∈yG):ks.length<=36:=by
 rw [<-wW];exact FR C.nd λk hk=>by
  obtain⟨n,hn⟩:=C.has hk
  exact hO k (C.Ff k n hn).1
theorem x9.put{E:List Int->List Int->Int->Prop}{O:List Int->Prop}{g:List Int}{ks:Ks}{ns:List Int}(C:x9 E O g ks ns)(hO:∀k,O k->k∈yG){u v:List Int}{n e:Int}(hv:au ks ns v=some n)(hu:O u)(he:E v u e)(e0:0<e)(Rk:e<=30)(hb:∀m,au ks ns u=some m->n+e<m):x9 E O g (aZ ks u) (aY ks ns u (n+e))/\C9 (aZ ks u) (aY ks ns u (n+e))<C9 ks ns:=by
 have gp:=bt C.len u (n+e)
 obtain⟨_,w1,w2,w3⟩:=C.Ff v n hv
 have KU:=C.le hO
 have lp:ks.length<=(aZ ks u).length:=by
  unfold aZ;split
  ·exact zzE _
  ·rw [zzM];omega
 have wu:n+e+30<=30*(aZ ks u).length:=by
  unfold aZ;cases hx:cK ks u with
  |true=>
   obtain⟨m,hm⟩:=C.has (dq.1 hx)
   have a:=hb m hm
   have b:=(C.Ff u m hm).2.2.2
   simp only [if_true];omega
  |false=>
   simp only [zze,if_false,zzM,zzL,List.length_nil];omega
 refine⟨⟨i7 C.len u _,gF C.nd u,λk m hk=>?_,?_⟩,?_⟩
 ·rw [gp] at hk;split at hk
  ·rename_i h;subst h;cases hk;exact⟨hu,w1.go he,by omega,wu⟩
  ·obtain⟨a,b,c,d⟩:=C.Ff k m hk
   exact⟨a,b,c,by omega⟩
 ·rw [gp];split
  ·rename_i h;subst h;have:=hb 0 C.st
   omega
  ·exact C.st
 ·have cg:wt (aZ ks u) (aY ks ns u (n+e)) u<wt ks ns u:=by
   unfold wt;rw [gp,if_pos rfl];cases hx:au ks ns u with
   |some m=>have:=hb m hx;show(n+e).toNat<m.toNat;omega
   |none=>show(n+e).toNat<1081;omega
  refine CF (x:=u) (λa _=>?_) (hO u hu) cg
  by_cases h:u=a
  ·subst h;exact Nat.le_of_lt cg
  ·unfold wt;rw [gp,if_neg h];exact zzE _
theorem sF(ks:Ks)(ns:List Int)(u:List Int)(n:Int):aY ks (ns.map .int) u (PV.int n)=(aY ks ns u n).map .int:=jy PV.int ks ns u n
theorem mh{α:Type}{body:PV->Sl->Res Ci.Fl}{g:α->PV}{P:List α->Sl->Prop}:∀(l pre:List α) (env:Sl),(∀a∈l,∀pre env,P pre env->∃aw,body (g a) env=.ok (.nx aw)/\P (a::pre) aw)->P pre env->∃aw,forL body (l.map g) env=.ok (.nx aw)/\P (l.reverse++pre) aw
 |[],pre,env,_,h=>⟨env,rfl,h⟩
 |a::l,pre,env,h,h0=>by
  obtain⟨e1,b1,p1⟩:=h a (zzP ..) pre env h0
  obtain⟨e2,b2,p2⟩:=mh l (a::pre) e1 (λb hb=>h b (zzI _ hb)) p1
  exact⟨e2,by simp only [zzF,forL,b1,m6,b2],by rw [List.reverse_cons,List.append_assoc];exact p2⟩
noncomputable def Ln:Ss:=(.cons (.ite (.or (.cmp .kH (.var 7) (.fO 4)) (.cmp .lt (.bin .add (.sub (.fO 4) (.var 6)) (.var 8)) (.sub (.fO 4) (.var 7))))
 (.cons (.put 4 (.var 7) (.bin .add (.sub (.fO 4) (.var 6)) (.var 8)))
 (.cons (.set 5 (.cst (.bl true)))
 .nil))
 .nil)
 .nil)
noncomputable def OK:Ss:=(.cons (.di (.two 7 8) (.seq (.sub (.var 3) (.var 6))) Ln) .nil)
noncomputable def Oj:Ss:=(.cons (.set 5 (.cst (.bl false))) (.cons (.di (.one 6) (.seq (.blt .mS (.cons (.fO 4) .nil))) OK) .nil))
abbrev u4(A B G Q:PV)(ks:Ks)(ns:List Int)(ag:Bool)(s6 s7 s8:Ci.Slot):Sl:=[.val A,.val B,.val G,.val Q,.own (.aP ks (ns.map .int)),.val (.bl ag),s6,s7,s8]
def Hj(ks:Ks)(ns:List Int)(u:List Int)(t:List Int×Int):Prop:=∀n,au ks ns u=some n->∃m,au ks ns t.1=some m/\m<=n+t.2
def Jn(E:List Int->List Int->Int->Prop)(O:List Int->Prop)(g:List Int)(A B G Q:PV)(k0:Ks)(n0:List Int)(D:Prop)(s:Option Ci.Slot)(env:Sl):Prop:=∃ks ns ag s6 s7 s8,env=u4 A B G Q ks ns ag s6 s7 s8/\(∀x,s=some x->s6=x)/\x9 E O g ks ns/\(∀k∈k0,k∈ks)/\C9 ks ns<=C9 k0 n0/\(ag=true->C9 ks ns<C9 k0 n0)/\(ag=false->ks=k0/\ns=n0/\D)
section
variable{E:List Int->List Int->Int->Prop}{O:List Int->Prop}{g:List Int}{A B G Q:PV}
theorem HG(F:aN)(hO:∀k,O k->k∈yG)(k0:Ks)(n0:List Int)(D:Prop){u:List Int}(hu:u∈k0)(t:List Int×Int)(he:E u t.1 t.2)(ho:O t.1)(e0:0<t.2)(Rk:t.2<=30)(env:Sl)(h:Jn E O g A B G Q k0 n0 D (some (.val (af u))) env):∃aw,(((Tg.two 7 8).put (tK t) env).bind λaw=>aF F Ln aw)=.ok (.nx aw)/\Jn E O g A B G Q k0 n0 (D/\Hj k0 n0 u t) (some (.val (af u))) aw:=by
 obtain⟨ks,ns,ag,s6,s7,s8,rfl,h6,C,hk,hp,ha,hd⟩:=h
 cases h6 _ rfl;have l:ks.length<dA:=zzV (C.le hO) (by decide)
 have g2:=bS (vs:=ns) t.1 C.len
 obtain⟨n,hn⟩:=C.has (hk u hu)
 have e1:=uS hn
 have done:(∀m,au ks ns t.1=some m->n+t.2<m)->Jn E O g A B G Q k0 n0 (D/\Hj k0 n0 u t) (some (.val (af u))) (u4 A B G Q (aZ ks t.1) (aY ks ns t.1 (n+t.2)) true (.val (af u)) (.val (af t.1)) (.val (.int t.2))):=λhb=>by
  obtain⟨C',hl⟩:=C.put hO hn ho he e0 Rk hb
  refine⟨_,_,true,_,_,_,rfl,(λx z=>by cases z;rfl),C',λk h=>?_,by omega,λ_=>by omega,λz=>by cases z⟩
  have:=dq.2 (hk k h)
  have q:=bS (vs:=aY ks ns t.1 (n+t.2)) k (i7 C.len t.1 (n+t.2))
  rw [bt C.len] at q;refine dq.1 (q.trans ?_);split
  ·rfl
  ·rw [<-bS k C.len];exact this
 cases hw:au ks ns t.1 with
 |none=>
  rw [hw] at g2;have g3:cK ks t.1=false:=g2
  refine⟨_,?_,done λm hm=>by rw [hw] at hm;cases hm⟩
  simp! only [Ln,u4,mq,g3,e1,eQ,l,sF]
 |some m=>
  rw [hw] at g2;have g3:cK ks t.1=true:=g2
  have e2:=uS hw
  by_cases cg:n+t.2<m
  ·refine⟨_,?_,done λm' hm=>by rw [hw] at hm;cases hm;exact cg⟩
   simp! only [Ln,u4,mq,g3,e1,e2,cg,decide_true,eQ,l,sF]
  ·refine⟨_,?_,ks,ns,ag,_,.val (af t.1),.val (.int t.2),rfl,(λx z=>by cases z;rfl),C,hk,hp,ha,λz=>?_⟩
   ·simp! only [Ln,u4,mq,g3,e1,e2,cg,decide_false]
   ·obtain⟨rfl,rfl,d⟩:=hd z
    exact⟨rfl,rfl,d,λn' h'=>by rw [hn] at h';cases h';exact⟨m,hw,by omega⟩⟩
end
section
variable{E:List Int->List Int->Int->Prop}{O:List Int->Prop}{g:List Int}{A B G Q:PV}{S:Ks}{f:List Int->List (List Int×Int)}
theorem Jn.mono{k0:Ks}{n0:List Int}{D D':Prop}{s:Option Ci.Slot}{env:Sl}(h:Jn E O g A B G Q k0 n0 D s env)(d:D->D'):Jn E O g A B G Q k0 n0 D' s env:=by
 obtain⟨ks,ns,ag,s6,s7,s8,e,h6,C,hk,hp,ha,hd⟩:=h
 exact⟨ks,ns,ag,s6,s7,s8,e,h6,C,hk,hp,ha,λz=>⟨(hd z).1,(hd z).2.1,d (hd z).2.2⟩⟩
theorem Ii(F:aN)(hO:∀k,O k->k∈yG)(hf:∀u∈S,∀t∈f u,E u t.1 t.2/\O t.1/\0<t.2/\t.2<=30)(k0:Ks)(n0:List Int)(D:Prop){u:List Int}(hu:u∈k0)(hs:u∈S)(env:Sl)(h:Jn E O g A B G (ya S f) k0 n0 D none env):∃aw,(((Tg.one 6).put (af u) env).bind λaw=>aF F OK aw)=.ok (.nx aw)/\Jn E O g A B G (ya S f) k0 n0 (D/\∀t∈f u,Hj k0 n0 u t) none aw:=by
 obtain⟨ks,ns,ag,s6,s7,s8,rfl,_,C,hk,hp,ha,hd⟩:=h
 have e1:=Lc (f:=f) hs
 obtain⟨aw,e2,J2⟩:=mh (body:=λx env=>((Tg.two 7 8).put x env).bind λaw=>aF F Ln aw) (g:=tK) (P:=λpre=>Jn E O g A B G (ya S f) k0 n0 (D/\∀t∈pre,Hj k0 n0 u t) (some (.val (af u)))) (f u) [] (u4 A B G (ya S f) ks ns ag (.val (af u)) s7 s8) (λt h pre env hj=>by
  obtain⟨a,b,c,d⟩:=hf u hs t h
  obtain⟨aw,e,J⟩:=HG F hO k0 n0 _ hu t a b c d env hj
  exact⟨aw,e,J.mono λz=>⟨z.1.1,λt' ht=>by
   rcases List.mem_cons.1 ht with rfl|ht
   ·exact z.2
   ·exact z.1.2 t' ht⟩⟩) ⟨ks,ns,ag,_,s7,s8,rfl,(λx z=>by cases z;rfl),C,hk,hp,ha,λz=>⟨(hd z).1,(hd z).2.1,(hd z).2.2,λt ht=>nomatch ht⟩⟩
 obtain⟨yV,xx,Dx,t6,t7,t8,rfl,_,C',hk',OV,M8,vh⟩:=J2
 refine⟨_,?_,yV,xx,Dx,t6,t7,t8,rfl,(λx z=>by cases z),C',hk',OV,M8,λz=>⟨(vh z).1,(vh z).2.1,(vh z).2.2.1,λt ht=>(vh z).2.2.2 t (by simpa using ht)⟩⟩
 simp! only [OK,u4,e1] at e2⊢;simp! only [e2]
theorem Kt(F:aN)(hO:∀k,O k->k∈yG)(hS:∀k,O k->k∈S)(hf:∀u∈S,∀t∈f u,E u t.1 t.2/\O t.1/\0<t.2/\t.2<=30){ks:Ks}{ns:List Int}(C:x9 E O g ks ns)(ag:Bool)(s6 s7 s8:Ci.Slot):∃yV xx Dx t6 t7 t8,aF F Oj (u4 A B G (ya S f) ks ns ag s6 s7 s8)=.ok (.nx (u4 A B G (ya S f) yV xx Dx t6 t7 t8))/\x9 E O g yV xx/\(Dx=true->C9 yV xx<C9 ks ns)/\(Dx=false->yV=ks/\xx=ns/\∀u∈ks,∀t∈f u,Hj ks ns u t):=by
 obtain⟨aw,e2,J2⟩:=mh (body:=λx env=>((Tg.one 6).put x env).bind λaw=>aF F OK aw) (g:=af) (P:=λpre=>Jn E O g A B G (ya S f) ks ns (∀u∈pre,∀t∈f u,Hj ks ns u t) none) ks [] (u4 A B G (ya S f) ks ns false s6 s7 s8) (λu hu pre env hj=>by
  obtain⟨n,hn⟩:=C.has hu
  obtain⟨aw,e,J⟩:=Ii F hO hf ks ns _ hu (hS u (C.Ff u n hn).1) env hj
  exact⟨aw,e,J.mono λz u' hu'=>by
   rcases List.mem_cons.1 hu' with rfl|hu'
   ·exact z.2
   ·exact z.1 u' hu'⟩) ⟨ks,ns,false,s6,s7,s8,rfl,(λx z=>by cases z),C,λ_ h=>h,zzE _,(λz=>by cases z),λ_=>⟨rfl,rfl,λu hu=>nomatch hu⟩⟩
 obtain⟨yV,xx,Dx,t6,t7,t8,rfl,_,C',_,_,M8,vh⟩:=J2
 refine⟨yV,xx,Dx,t6,t7,t8,?_,C',M8,λz=>⟨(vh z).1,(vh z).2.1,λu hu=>(vh z).2.2 u (by simpa using hu)⟩⟩
 have l:ks.length<=dA:=zzU (C.le hO) (by decide)
 have e3:d5 .mS [.aP ks (ns.map .int)]=.ok (.lst (ks.map af)):=if_pos l
 simp! only [Oj,u4] at e2⊢;simp! only [e3,e2]
theorem vA(F:aN)(hO:∀k,O k->k∈yG)(hS:∀k,O k->k∈S)(hf:∀u∈S,∀t∈f u,E u t.1 t.2/\O t.1/\0<t.2/\t.2<=30):∀(n:Nat) (ks:Ks) (ns:List Int) (ag:Bool) (s6 s7 s8:Ci.Slot),x9 E O g ks ns->0<n->(ag=true->C9 ks ns+1<n)->(ag=false->∀u∈ks,∀t∈f u,Hj ks ns u t)->∃yV xx Dx t6 t7 t8,bK (aK F (.var 5)) (aF F Oj) n (u4 A B G (ya S f) ks ns ag s6 s7 s8)=.ok (.nx (u4 A B G (ya S f) yV xx Dx t6 t7 t8))/\x9 E O g yV xx/\∀u∈yV,∀t∈f u,Hj yV xx u t
 |0,_,_,_,_,_,_,_,h,_,_=>absurd h (Nat.lt_irrefl _)
 |n+1,ks,ns,false,s6,s7,s8,C,_,_,c=>⟨ks,ns,false,s6,s7,s8,rfl,C,c rfl⟩
 |n+1,ks,ns,true,s6,s7,s8,C,_,h,_=>by
  have h':=h rfl
  obtain⟨ks1,ns1,ag1,t6,t7,t8,e1,C1,p1,c1⟩:=Kt F (A:=A) (B:=B) (G:=G) hO hS hf C true s6 s7 s8
  obtain⟨ks2,ns2,ag2,u6,u7,u8,e2,C2,c2⟩:=vA F hO hS hf n ks1 ns1 ag1 t6 t7 t8 C1 (by omega) (λz=>by have:=p1 z;omega) (λz=>by obtain⟨rfl,rfl,d⟩:=c1 z;exact d)
  refine⟨ks2,ns2,ag2,u6,u7,u8,?_,C2,c2⟩;have ec:aK F (.var 5) (u4 A B G (ya S f) ks ns true s6 s7 s8)=.ok (.bl true):=rfl
  simp only [bK,ec,m6,CV,if_true,e1,e2]
end
def qD(f:List PV->Res PV):Prop:=∀rows w,Fl rows w->∀sl cl pr,Wk cl pr->∀g,gq rows g->∃ks ns,f [fl rows,wk sl cl pr,.lst [af g]]=.ok (.aP ks (ns.map .int))/\ks.length=ns.length/\(∀k n,au ks ns k=some n->j1 (E1 rows sl cl pr) g k n)/\∀k c,j1 (E1 rows sl cl pr) g k c->∃n,au ks ns k=some n/\n<=c
theorem Af(F:aN)(hk:xK (F "_law_spots"))(hs:gD F):qD (aq F bY):=by
 intro rows w L sl cl pr V g hg;obtain⟨S,e1,hl,hS,hm⟩:=hk rows L.kE
 have:∀k,∃T:List (List Int×Int),k∈S->F "_law_steps" [fl rows,wk sl cl pr,af k]=.ok (.lst (T.map tK))/\∀v e,(v,e)∈T↔E1 rows sl cl pr k v e:=λk=>by
  by_cases h:k∈S
  ·obtain⟨r,c,rfl,ho⟩:=(hm k).1 h
   obtain⟨T,e,_,_,hT⟩:=hs rows w L sl cl pr V r c ho
   exact⟨T,λ_=>⟨e,hT⟩⟩
  ·exact⟨[],λz=>absurd z h⟩
 obtain⟨f,hf⟩:=Classical.skolem.1 this
 have M9:∀u∈S,∀t∈f u,E1 rows sl cl pr u t.1 t.2/\gq rows t.1/\0<t.2/\t.2<=30:=λu hu t ht=>by
  have:=((hf u hu).2 t.1 t.2).1 ht
  obtain⟨a,b,c⟩:=rP L V this
  exact⟨this,c,a,b⟩
 have C0:x9 (E1 rows sl cl pr) (gq rows) g [g] [0]:=⟨rfl,by simp,(λk n h=>by
  by_cases hk:g=k
  ·subst hk;have:(if g=g then some (0:Int) else none)=some n:=h
   rw [if_pos rfl] at this;cases this;exact⟨hg,.here,by omega,by simp⟩
  ·have:(if g=k then some (0:Int) else none)=some n:=h
   rw [if_neg hk] at this;cases this),(if_pos rfl:(if g=g then some (0:Int) else none)=some 0)⟩
 have hp:=D6 [g] [0] λk n h=>by have:=(C0.Ff k n h).2.2.2;simp at this;omega
 obtain⟨ks,ns,ag,t6,t7,t8,e2,C,cl'⟩:=vA F (A:=fl rows) (B:=wk sl cl pr) (G:=.lst [af g]) (S:=S) (f:=f) (λk hk=>Rj L hk) (λk hk=>(hm k).2 hk) M9 WN [g] [0] true .no .no .no C0 (by decide) (λ_=>by have:WN=1000000:=rfl;omega) (λz=>by cases z)
 refine⟨ks,ns,?_,C.len,λk n h=>(C.Ff k n h).2.1,λk c hw=>?_⟩
 ·have l:(S.map af).length<dA:=by
   rw [zzl];exact zzV hl (by decide)
  have e3:=vZ hS.nodup λk=>.lst ((f k).map tK)
  have e4:iQ [.lst [.tup [af g,.int 0]]]=.ok (.aP [g] [.int 0]):=vZ (S:=[g]) (by simp) λ_=>.int 0
  have e6:aV (λx=>Res.ok (some (PV.tup [x,PV.int 0]))) [af g]=.ok [.tup [af g,.int 0]]:=rfl
  have l1:1<dA:=by decide
  have db:bY.body=(.cons (.set 3 (.blt .dict (.cons (.comp 1 [1,0] (.one 0) (.seq (.call "_law_spots" (.cons (.var 0) .nil))) (.tup (.cons (.var 0) (.cons (.call "_law_steps" (.cons (.var 2) (.cons (.var 1) (.cons (.var 0) .nil)))) .nil)))) .nil))) (.cons (.pY 4 (.comp 1 [] (.one 0) (.seq (.var 2)) (.tup (.cons (.var 0) (.cons (.cst (.int 0)) .nil))))) (.cons (.set 5 (.cst (.bl true))) (.cons (.xo (.var 5) Oj) (.cons (.bF 4) (.cons (.ret (.var 4)) .nil)))))):=rfl
  have st:cx bY [fl rows,wk sl cl pr,.lst [af g]]=[.val (fl rows),.val (wk sl cl pr),.val (.lst [af g]),.no,.no,.no,.no,.no,.no]:=rfl
  have ar:cy bY [fl rows,wk sl cl pr,.lst [af g]]=true:=rfl
  unfold aq;rw [ar,if_pos rfl,st,db];dsimp! only [e1,l];rw [dh (p:=af) (g:=λk=>.tup [af k,.lst ((f k).map tK)]) λk hk=>by dsimp! only [(hf k hk).1]]
  dsimp! only [u4,ya,zzF,List.map_nil] at e2;dsimp! only [e3,e4,e6,l1,zzL,List.length_nil,Nat.zero_add,e2,List.modify_succ_cons,List.modify_zero_cons,nB,Fx]
 ·induction hw with
  |here=>exact⟨0,C.st,Int.le_refl _⟩
  |go _ he ih=>
   obtain⟨n,hn,hle⟩:=ih
   have ho:=(C.Ff _ n hn).1
   obtain⟨m,oq,hle'⟩:=cl' _ (dq.1 ((bS _ C.len).trans (by rw [hn];rfl))) _ (((hf _ ((hm _).2 ho)).2 _ _).2 he) n hn
   exact⟨m,oq,by simp only at hle';omega⟩
theorem pG(F:aN)(hw:∀i,F "is_whole" [.int i]=.ok (.bl true))(s:Int)(h1:1<=s)(h2:s<=12):aq F bZ [.int s]=.ok .az:=by
 simp! only [bZ,hw,pZ,h1,h2,decide_true]
def uh(r c:Int)(k:Nat):List (Int×Int):=((List.range (k+1)).map λ(x:Nat)=>(r+k,c+x))++(List.range k).map λ(y:Nat)=>(r+y,c+k)
def Jq(r c:Int)(k:Nat):List PV:=(uh r c k).map F9
theorem Lj(F:aN)(r c:Int)(k:Nat)(hk:k<=100):aq F fw [sp r c,.int k]=.ok (.lst (Jq r c k)):=by
 have e0:aD (sp r c) (.int 0)=.ok (.int r):=rfl
 have e1:aD (sp r c) (.int 1)=.ok (.int c):=rfl
 have s1:aH ((k:Int)+1)=true:=by simp only [aH,zza,zzN];omega
 have s2:aH (k:Int)=true:=by simp only [aH,zza,zzN];omega
 have t1:((k:Int)+1).toNat=k+1:=by omega
 have l1:k+1<dA:=zzV (show k+1<=101 by omega) (by decide)
 have l2:k<dA:=zzV hk (by decide)
 dsimp! only [fw,s1,s2,t1,Int.toNat_natCast,dW,zzl,List.length_range,l1,l2];rw [dh (g:=λx:Nat=>sp (r+k) (c+(0+x))) (λx _=>by dsimp! only [e0,e1])]
 dsimp! only [s2,Int.toNat_natCast,zzl,List.length_range,l2];rw [dh (g:=λx:Nat=>sp (r+(0+x)) (c+k)) (λx _=>by dsimp! only [e0,e1])]
 have l3:k+1+k<=dA:=zzU (show k+1+k<=201 by omega) (by decide)
 dsimp! only [Jq,uh,List.map_append,List.map_map,Function.comp_def,Int.zero_add,zzl,List.length_range,l3]
def rb(rows:List Str)(r c:Int)(k:Nat):Bool:=(uh r c k).all λp=>aX rows p.1 p.2
def sq(rows:List Str)(r c:Int)(k:Nat):Prop:=∀x y:Nat,x<k->y<k->aX rows (r+x) (c+y)=true
theorem Jo{rows:List Str}{r c:Int}{k:Nat}:rb rows r c k=true↔(∀x:Nat,x<k+1->aX rows (r+k) (c+x)=true)/\∀y:Nat,y<k->aX rows (r+y) (c+k)=true:=by
 simp only [rb,uh,List.all_append,zza,List.all_map,zzT,List.mem_range,Function.comp]
theorem wD{rows:List Str}{r c:Int}{k:Nat}:sq rows r c (k+1)↔sq rows r c k/\rb rows r c k=true:=by
 rw [Jo]
 constructor
 ·intro h;exact⟨λx y hx hy=>h x y (by omega) (by omega),λx hx=>h k x (by omega) hx,λy hy=>h y k (by omega) (by omega)⟩
 ·rintro ⟨h1,h2,h3⟩ x y hx hy
  by_cases hxk:x=k
  ·subst hxk;exact h2 y hy
  ·by_cases hyk:y=k
   ·subst hyk;exact h3 x (by omega)
   ·exact h1 x y (by omega) (by omega)
theorem iW{rows:List Str}{r c:Int}{k j:Nat}(h:sq rows r c k)(hj:j<=k):sq rows r c j:=λx y hx hy=>h x y (by omega) (by omega)
theorem vD{rows:List Str}(R:eT rows){r c:Int}{k:Nat}(h:sq rows r c k):k<=6:=by
 cases k with
 |zero=>omega
 |succ k=>
  have a:=Bl R (h 0 0 (by omega) (by omega))
  have b:=Bl R (h k 0 (by omega) (by omega))
  omega
structure LD(rows:List Str)(r c:Int)(k:Nat):Prop where
 one:1<=k
 big:sq rows r c k
 no:¬sq rows r c (k+1)
theorem LD.iff{rows:List Str}{r c:Int}{k s:Nat}(h:LD rows r c k):K70.sq rows r c s↔s<=k:=by
 constructor
 ·intro g;refine Nat.not_lt.1 λhl=>h.no (iW g hl)
 ·exact λg=>iW h.big g
theorem BP{rows:List Str}(R:eT rows){r c:Int}{C:Sl->Res PV}{Bd:Sl->Res Ci.Fl}{env:Nat->Sl}(hC:∀j,j<=100->C (env j)=.ok (.bl (rb rows r c j)))(hB:∀j,Bd (env j)=.ok (.nx (env (j+1)))):
 ∀(n j:Nat),1<=j->7<=j+n->K70.sq rows r c j->∃k,LD rows r c k/\bK C Bd n (env j)=.ok (.nx (env k))
 |0,j,_,h,g=>absurd (vD R g) (by omega)
 |n+1,j,h1,h,g=>by
  have hj:=vD R g
  simp only [bK,hC j (by omega),m6,CV];cases hb:rb rows r c j with
  |false=>exact⟨j,⟨h1,g,λz=>by rw [(wD.1 z).2] at hb;cases hb⟩,rfl⟩
  |true=>
   obtain⟨k,hk,e⟩:=BP R hC hB n (j+1) (by omega) (by omega) (wD.2 ⟨g,hb⟩)
   refine⟨k,hk,?_⟩;simp only [hB,m6,if_true,e]
theorem oz:∀bs:List Bool,boolsOf (bs.map .bl)=some bs
 |[]=>rfl
 |b::bs=>by simp only [zzF,boolsOf,oz bs,Option.map_some]
def rn:E:=.blt .all (.cons (.comp 1 [0] (.one 0) (.seq (.call "rim_of" (.cons (.var 1) (.cons (.var 2) .nil)))) (.call "is_open" (.cons (.var 1) (.cons (.var 0) .nil)))) .nil)
def vL:Ss:=.cons (.aug 2 .add (.cst (.int 1))) .nil
theorem DH(F:aN)(ho:∀rows,eT rows->∀r c,F "is_open" [fl rows,sp r c]=.ok (.bl (aX rows r c)))(hr:∀r c (k:Nat),k<=100->F "rim_of" [sp r c,.int k]=.ok (.lst (Jq r c k))){rows:List Str}(R:eT rows)(r c:Int)(j:Nat)(hj:j<=100):
 aK F rn [.val (fl rows),.val (sp r c),.val (.int j)]=.ok (.bl (rb rows r c j)):=by
 have l:(Jq r c j).length<dA:=by
  simp only [Jq,uh,zzl,zzM,List.length_range];exact zzV (show j+1+j<=201 by omega) (by decide)
 simp! only [rn,hr r c j hj,itemsOf,l];rw [Jq,dh (g:=λp:Int×Int=>.bl (aX rows p.1 p.2)) (λp _=>by simp! only [ho rows R])]
 simp! only [];rw [show(uh r c j).map (λp:Int×Int=>PV.bl (aX rows p.1 p.2))=((uh r c j).map λp=>aX rows p.1 p.2).map .bl by rw [List.map_map];rfl,oz]
 simp! only [rb,List.all_map]
 rfl
theorem Cu(F:aN)(hn:∀rows,eT rows->∀r c,aX rows r c=true->F "need_open" [fl rows,sp r c]=.ok .az)(ho:∀rows,eT rows->∀r c,F "is_open" [fl rows,sp r c]=.ok (.bl (aX rows r c)))(hr:∀r c (k:Nat),k<=100->F "rim_of" [sp r c,.int k]=.ok (.lst (Jq r c k)))
 (rows:List Str) (R:eT rows) (r c:Int) (h:aX rows r c=true):∃k:Nat,LD rows r c k/\aq F bH [fl rows,sp r c]=.ok (.int k):=by
 obtain⟨k,hk,e⟩:=BP R (env:=λj=>[.val (fl rows),.val (sp r c),.val (.int j)]) (C:=aK F rn) (Bd:=aF F vL) (DH F ho hr R r c) (λj=>by simp! only [vL];rfl) WN 1 (by decide) (by decide) (λx y hx hy=>by
  have:x=0:=by omega
  have:y=0:=by omega
  subst x;subst y
  simpa using h)
 refine⟨k,hk,?_⟩;have e':bK (aK F rn) (aF F vL) WN [.val (fl rows),.val (sp r c),.val (.int 1)]=.ok (.nx [.val (fl rows),.val (sp r c),.val (.int k)]):=e
 simp! only [rn,vL] at e';simp! only [bH,hn rows R r c h,e']
def zx(rows:List Str)(r c:Int)(k:Nat):Bool:=(List.range k).all λx=>(List.range k).all λy=>aX rows (r+(x:Nat)) (c+(y:Nat))
theorem fb{rows:List Str}{r c:Int}{k:Nat}:zx rows r c k=true↔sq rows r c k:=by
 simp only [zx,sq,zzT,List.mem_range];exact⟨λh x y hx hy=>h x hx y hy,λh x hx y hy=>h x y hx hy⟩
def xa(F:aN):Prop:=∀rows,eT rows->∀r c,aX rows r c=true->∃k:Nat,LD rows r c k/\F "clearance" [fl rows,sp r c]=.ok (.int k)
def sgn(rows:List Str)(s:Nat)(r c x:Nat):Nat:=if zx rows r c s then x else 35
theorem D7(F:aN)(hc:xa F)(rows:List Str)(R:eT rows)(s:Nat)(hs:1<=s)(r c x:Nat)(h:cd rows r c=some x):aq F cG [fl rows,.int s,sp r c]=.ok (.str ⟨#[sgn rows s r c x]⟩):=by
 have e0:aD (sp r c) (.int 0)=.ok (.int r):=rfl
 have e1:aD (sp r c) (.int 1)=.ok (.int c):=rfl
 obtain⟨z,_,e2,e3⟩:=wx R h
 have w:(("#":Str))=⟨#[35]⟩:=by decide+kernel
 simp! only [cG,e0,e1,e2,e3,oQ]
 by_cases hx:x=35
 ·have:zx rows r c s=false:=by
   rw [Bool.eq_false_iff];intro hq;have:=(fb.1 hq) 0 0 (by omega) (by omega)
   simp [aX,tH,h,hx] at this
  simp [aq,cx,cy,aF,fH,aK,cU,uA,qI,fK,jx,il,List.replicate,Nat.reduceAdd,Nat.reduceSub,reduceIte,ite_true,ite_false,BEq.rfl,beq_self_eq_true,J,hx,sgn,this]
 ·have ho:aX rows r c=true:=by
   simp [aX,tH,h,hx]
  obtain⟨k,hk,e⟩:=hc rows R r c ho
  have hb:(x !=35)=true:=by simp [hx]
  simp! only [hb,e]
  by_cases hl:(k:Int)<(s:Int)
  ·have:zx rows r c s=false:=by
    rw [Bool.eq_false_iff];intro hq;have:=hk.iff.1 (fb.1 hq)
    omega
   simp! only [hl,decide_true,sgn,this,w]
  ·have:zx rows r c s=true:=fb.2 (hk.iff.2 (by omega))
   simp! only [hl,decide_false,sgn,this]
def rF(rows:List Str)(s r:Nat)(z:Str):Str:=⟨(z.cps.toList.mapIdx λc x=>sgn rows s r c x).toArray⟩
def shr(rows:List Str)(s:Nat):List Str:=rows.mapIdx λr z=>rF rows s r z
theorem uj(rows:List Str)(s r c:Nat):cd (shr rows s) r c=(cd rows r c).map (sgn rows s r c):=by
 unfold cd shr rF;simp only [List.getElem?_mapIdx];cases rows[r]? with
 |none=>rfl
 |some z=>simp [List.getElem?_mapIdx]
theorem eT.shr{rows:List Str}(R:eT rows)(s:Nat):eT (shr rows s):=by
 refine⟨?_,λz hz=>?_⟩
 ·simpa [K70.shr] using R.1
 ·simp only [K70.shr,List.mem_mapIdx] at hz;obtain⟨i,hi,rfl⟩:=hz
  have:=R.2 _ (List.getElem_mem hi)
  simpa [rF,Str.length] using this
theorem join_one:∀xs:List Nat,Str.join (⟨#[]⟩:Str) (xs.map λx=>(⟨#[x]⟩:Str))=⟨xs.toArray⟩
 |[]=>rfl
 |[x]=>rfl
 |x::y::r=>by
  have ih:=join_one (y::r)
  show(⟨#[x]⟩:Str)++⟨#[]⟩++Str.join ⟨#[]⟩ ((y::r).map λx=>(⟨#[x]⟩:Str))=_
  rw [ih];show(⟨#[x]++#[]++(y::r).toArray⟩:Str)=_
  simp
theorem yn(xs:List Nat):Txt.join "" (xs.map λx=>(⟨#[x]⟩:Str))=⟨xs.toArray⟩:=by
 unfold Txt.join;rw [StrLaws.glued_eq_join,show(("":Str))=⟨#[]⟩ by decide+kernel];exact join_one xs
theorem mJ{z:Str}{xs:List PV}:rW .join [.str z,.lst xs]=(Res.of (strsOf xs)).bind λys=>if z.length<=16/\(ys.map (·.length)).sum+ys.length<=dA then .ok (.str (Txt.join z ys)) else .bad:=rfl
theorem mK{z:Str}:wK .join (.str z)=true:=rfl
theorem strs_map:∀zs:List Str,strsOf (zs.map .str)=some zs
 |[]=>rfl
 |z::zs=>by simp only [zzF,strsOf,strs_map zs,Option.map_some]
theorem vK:∀xs:List Nat,((xs.map λx=>(⟨#[x]⟩:Str)).map (·.length)).sum=xs.length
 |[]=>rfl
 |x::xs=>by
  have:=vK xs
  simp only [zzF,List.sum_cons,zzL,this];show 1+xs.length=_
  omega
noncomputable def Qr:Ss:=(.cons (.app 2 (.Au .join (.cst (.str "")) (.cons (.comp 1 [1,3,0] (.one 0) (.kF (.blt .len (.cons (.sub (.var 0) (.var 3)) .nil))) (.call "shrunk_sign" (.cons (.var 3) (.cons (.var 1) (.cons (.tup (.cons (.var 2) (.cons (.var 0) .nil))) .nil))))) .nil)))
 .nil)
theorem Ae{α:Type}(z:Str)(g:Nat->Nat->α):(List.range z.length).map (λc=>g c (z.cps.toList.getD c 0))=z.cps.toList.mapIdx g:=by
 apply List.ext_getElem
 ·simp [Str.length]
 ·intro i h1 h2;simp at h2;simp [h2]
theorem qU{rows:List Str}{s i:Nat}{z:Str}(hz:z.length<=6):rW .join [.str "",.lst (z.cps.toList.mapIdx λc x=>PV.str ⟨#[sgn rows s i c x]⟩)]=.ok (.str (rF rows s i z)):=by
 have q:(z.cps.toList.mapIdx λc x=>PV.str ⟨#[sgn rows s i c x]⟩)=((z.cps.toList.mapIdx λc x=>sgn rows s i c x).map λx=>(⟨#[x]⟩:Str)).map .str:=by
  simp only [List.map_map];exact List.ext_getElem? λi=>by simp [Function.comp_def]
 have q2:(("":Str)).length<=16/\(((z.cps.toList.mapIdx λc x=>sgn rows s i c x).map λx=>(⟨#[x]⟩:Str)).map (·.length)).sum+((z.cps.toList.mapIdx λc x=>sgn rows s i c x).map λx=>(⟨#[x]⟩:Str)).length<=dA:=by
  refine⟨by decide+kernel,?_⟩;rw [vK];refine zzU (m:=12) ?_ (by decide);simp only [List.length_mapIdx,zzl,zzd];have:z.cps.size=z.length:=rfl
  omega
 rw [mJ,q,strs_map];show(if _ then Res.ok (PV.str (Txt.join "" _)) else .bad)=_
 rw [if_pos q2,yn]
 rfl
theorem qO{rows:List Str}{s i:Nat}{z:Str}(hz:rows[i]?=some z):(shr rows s).take (i+1)=(shr rows s).take i++[rF rows s i z]:=by
 rw [List.take_succ];simp [shr,hz]
theorem yD(F:aN)(hz:∀s:Nat,1<=s->s<=12->F "need_size" [.int s]=.ok .az)
 (hs:∀rows,eT rows->∀s:Nat,1<=s->∀r c x:Nat,cd rows r c=some x->F "shrunk_sign" [fl rows,.int s,sp r c]=.ok (.str ⟨#[sgn rows s r c x]⟩))
 (rows:List Str) (R:eT rows) (s:Nat) (h1:1<=s) (h2:s<=12):aq F cE [fl rows,.int s]=.ok (fl (shr rows s)):=by
 have So:=R.1
 obtain⟨aw,e,s3,rfl⟩:=ef (body:=λx env=>((Tg.one 3).put x env).bind λaw=>aF F Qr aw) (P:=λi env=>∃s3,env=[.val (fl rows),.val (.int s),.own (.lst (((shr rows s).take i).map .str)),s3]) (dW 0 rows.length) 0 [.val (fl rows),.val (.int s),.own (.lst []),.no] ⟨_,rfl⟩ (by
  intro i x env hx hp;obtain⟨hi,rfl⟩:=uL hx
  obtain⟨s3,rfl⟩:=hp
  obtain⟨z,hzz⟩:∃z,rows[i]?=some z:=⟨_,zzg hi⟩
  have zq:=R.2 z (zzD hzz)
  have lz:z.length<=dA:=zzU zq (by decide)
  have Vf:z.length<dA:=zzV zq (by decide)
  have PQ:aH (z.length:Int)=true:=by simp only [aH,zza,zzN];omega
  refine⟨[.val (fl rows),.val (.int s),.own (.lst (((shr rows s).take (0+i+1)).map .str)),.val (.int i)],?_,_,rfl⟩;have hl:((shr rows s).take i).length<dA:=by
   refine zzV (m:=6) ?_ (by decide);simp only [List.length_take];omega
  dsimp! only [Qr,uE hzz,lz,PQ,Int.toNat_natCast,dW,zzl,List.length_range,Vf,mK];rw [dh (g:=λc:Nat=>.str ⟨#[sgn rows s i c (z.cps.toList.getD c 0)]⟩) (λc hc=>by
   have g8:c<z.cps.toList.length:=by simpa [Str.length] using hc
   have:cd rows i c=some (z.cps.toList.getD c 0):=by
    unfold cd;rw [hzz,Option.bind_some,zzg g8,zzK,zzg g8,Option.getD_some]
   have e:=hs rows R s h1 i c _ this
   dsimp! only [Int.zero_add,e])]
  have q:(List.range z.length).map (λc:Nat=>PV.str ⟨#[sgn rows s i c (z.cps.toList.getD c 0)]⟩)=z.cps.toList.mapIdx λc x=>PV.str ⟨#[sgn rows s i c x]⟩:=Ae z λc x=>PV.str ⟨#[sgn rows s i c x]⟩
  have q3:=qO (s:=s) hzz
  dsimp! only [q,qU zq];rw [q3];dsimp! only [List.map_append,hl])
 have t:(shr rows s).take (0+(dW 0 rows.length).length)=shr rows s:=by
  rw [List.take_of_length_le];simp [dW,shr]
 rw [t] at e;have PQ:aH (rows.length:Int)=true:=by simp only [aH,zza,zzN];omega
 dsimp! only [Qr] at e;dsimp! only [cE,hz s h1 h2,zzl,PQ,Int.toNat_natCast,e]
theorem pO{rows:List Str}{s:Nat}(hs:1<=s){r c:Int}:aX (shr rows s) r c=true↔sq rows r c s:=by
 constructor
 ·intro h;obtain⟨h0,h1,h2⟩:=d8.1 h
  obtain⟨i,rfl⟩:=Int.eq_ofNat_of_zero_le h0
  obtain⟨j,rfl⟩:=Int.eq_ofNat_of_zero_le h1
  simp only [Int.toNat_natCast,tH,uj] at h2;cases hc:cd rows i j with
  |none=>rw [hc] at h2;cases h2
  |some x=>
   rw [hc] at h2
   by_cases hq:zx rows i j s=true
   ·exact fb.1 hq
   ·simp [sgn,hq] at h2
 ·intro h;have ho:=h 0 0 (by omega) (by omega)
  simp only [Int.natCast_zero,Int.add_zero,Int.ofNat_zero] at ho;obtain⟨h0,h1,h2⟩:=d8.1 ho
  refine d8.2 ⟨h0,h1,?_⟩;obtain⟨i,rfl⟩:=Int.eq_ofNat_of_zero_le h0
  obtain⟨j,rfl⟩:=Int.eq_ofNat_of_zero_le h1
  simp only [Int.toNat_natCast,tH,uj] at h2⊢;cases hc:cd rows i j with
  |none=>rw [hc] at h2;cases h2
  |some x=>
   rw [hc] at h2;simp only [Option.map_some,sgn,fb.2 h,if_true];exact h2
theorem hX{rows:List Str}{a b:Int}:gq rows [a,b]↔aX rows a b=true:=⟨λ⟨r,c,e,h⟩=>by cases e;exact h,λh=>⟨a,b,rfl,h⟩⟩
def EN(r c:Int)(m:Nat):Ks:=(List.range (m*m)).map λ(k:Nat)=>[r+((k/m:Nat):Int),c+((k%m:Nat):Int)]
theorem D2{rows:List Str}{r c:Int}{m:Nat}(hm:0<m):(∀k∈EN r c m,gq rows k)↔sq rows r c m:=by
 constructor
 ·intro h x y hx hy;have hk:x*m+y<m*m:=zzW (m:=x*m+m) (by omega) (by have:=Nat.mul_le_mul_right m (show x+1<=m from hx);rwa [Nat.add_mul,Nat.one_mul] at this)
  have:=h _ (List.mem_map.2 ⟨x*m+y,List.mem_range.2 hk,rfl⟩)
  rw [show(x*m+y)/m=x by rw [Nat.mul_comm,Nat.mul_add_div hm,Nat.div_eq_of_lt hy,Nat.add_zero],show(x*m+y)%m=y by rw [Nat.mul_comm,Nat.mul_add_mod,Nat.mod_eq_of_lt hy]] at this;exact hX.1 this
 ·intro h k hk;obtain⟨i,hi,rfl⟩:=List.mem_map.1 hk
  exact hX.2 (h _ _ (Nat.div_lt_of_lt_mul (List.mem_range.1 hi)) (Nat.mod_lt _ hm))
noncomputable def N9:E:=(.comp 1 [1,4] (.one 0) (.kF (.bin .mul (.var 4) (.var 4))) (.tup (.cons (.bin .add (.sub (.var 1) (.cst (.int 0))) (.bin .fdiv (.var 0) (.var 2))) (.cons (.bin .add (.sub (.var 1) (.cst (.int 1))) (.bin .mod (.var 0) (.var 2))) .nil))))
def Oh:E:=(.cQ 1 [3] (.one 0) (.seq (.var 5)) (.cmp .kH (.var 0) (.var 1)) (.var 0))
noncomputable def Kd:Ss:=(.cons (.set 4 (.bin .add (.var 2) (.cst (.int 1))))
 (.cons (.set 5 N9)
 (.cons (.ite (.cmp .ne Oh (.lst .nil))
  (.cons (.ret (.var 2))
  .nil)
  .nil)
 (.cons (.set 2 (.var 4))
 .nil))))
theorem Jz(F:aN)(r c:Int)(m:Nat)(h0:0<m)(h7:m<=7)(s0 s2 s3 s5:Ci.Slot):aK F N9 [s0,.val (sp r c),s2,s3,.val (.int (m:Nat)),s5]=.ok (.lst ((EN r c m).map af)):=by
 have UI:m*m<=49:=Nat.mul_le_mul h7 h7
 have e1:aR (m:Int)=true:=by simp only [aR,zza,zzN];omega
 have e2:aH ((m:Int)*m)=true:=by
  rw [<-Int.natCast_mul];simp only [aH,zza,zzN];omega
 have e3:((m:Int)*m).toNat=m*m:=by rw [<-Int.natCast_mul];exact Int.toNat_natCast _
 have l:m*m<dA:=zzV UI (by decide)
 have e4:(0:Int)<m:=by omega
 have e5:(m:Int)<1073741824:=by omega
 dsimp! only [N9,e1,e2,e3,Bool.true_or,dW,zzl,List.length_range,l];rw [dh (g:=λ(k:Nat)=>af [r+((k/m:Nat):Int),c+((k%m:Nat):Int)]) (λk _=>by
  dsimp! only [e4,e5,and_self,Int.zero_add,Int.natCast_ediv,Int.natCast_emod]
  rfl)]
 simp only [EN,List.map_map,m6]
 rfl
theorem lC{α:Type}{f:PV->Res (Option PV)}{p q:α->PV}{g:α->Bool}:∀{xs:List α},(∀x∈xs,f (p x)=.ok (if g x then some (q x) else none))->aV f (xs.map p)=.ok ((xs.filter g).map q)
 |[],_=>rfl
 |x::xs,h=>by
  have h1:=h x (zzP ..)
  have h2:=lC (xs:=xs) λy hy=>h y (zzI _ hy)
  simp only [zzF,aV,h1,Hb,m6,h2];cases hg:g x<;>simp [List.filter_cons,hg,oc]
theorem IU(F:aN)(L S:Ks)(hl:L.length<dA)(s0 s1 s2 s4:Ci.Slot):aK F Oh [s0,s1,s2,.val (.lst (S.map af)),s4,.val (.lst (L.map af))]=.ok (.lst ((L.filter λk=>!decide (k∈S)).map af)):=by
 simp! only [Oh,zzl,hl];rw [lC (p:=af) (q:=af) (g:=λk=>!decide (k∈S)) (λk _=>by
  simp! only [F2];cases decide (k∈S)<;>rfl)]
 rfl
section
variable{rows:List Str}{S:Ks}
abbrev Ji(rows:List Str)(S:Ks)(r c:Int)(j:Nat)(s4 s5:Ci.Slot):Sl:=[.val (fl rows),.val (sp r c),.val (.int (j:Nat)),.val (.lst (S.map af)),s4,s5]
theorem JO(F:aN)(hm:∀k,k∈S↔gq rows k)(r c:Int)(j:Nat)(h6:j<=6)(s4 s5:Ci.Slot):(sq rows r c (j+1)->∃t4 t5,aF F Kd (Ji rows S r c j s4 s5)=.ok (.nx (Ji rows S r c (j+1) t4 t5)))/\(¬sq rows r c (j+1)->aF F Kd (Ji rows S r c j s4 s5)=.ok (.rt (.int (j:Nat)))):=by
 have hj:(j:Int)+1=((j+1:Nat):Int):=rfl
 have e1:∀s0 s2 s3 s5,aK F N9 [s0,.val (sp r c),s2,s3,.val (.int ((j:Int)+1)),s5]=.ok (.lst ((EN r c (j+1)).map af)):=λs0 s2 s3 s5=>Jz F r c (j+1) (by omega) (by omega) s0 s2 s3 s5
 have ll:(EN r c (j+1)).length<dA:=by
  refine zzV (m:=49) ?_ (by decide);rw [EN,zzl,List.length_range];exact Nat.mul_le_mul (Nat.succ_le_succ h6) (Nat.succ_le_succ h6)
 have e2:=λs0 s1 s2 s4=>IU F (EN r c (j+1)) S ll s0 s1 s2 s4
 have e3:∀a:Ks,gb (.lst (a.map af)) (.lst [])=.ok (.bl (!decide (a=[]))):=λa=>Ol a []
 have hq:(EN r c (j+1)).filter (λk=>!decide (k∈S))=[]↔sq rows r c (j+1):=by
  rw [<-D2 (Nat.succ_pos j),List.filter_eq_nil_iff];exact⟨λh k hk=>(hm k).1 (by simpa using h k hk),λh k hk=>by simpa using (hm k).2 (h k hk)⟩
 refine⟨λh=>⟨.val (.int ((j:Int)+1)),.val (.lst ((EN r c (j+1)).map af)),?_⟩,λh=>?_⟩
 ·dsimp! only [Kd,Ji,e1,e2,e3,hq.2 h,decide_true]
  rfl
 ·dsimp! only [Kd,Ji,e1,e2,e3,mt hq.1 h,decide_false]
theorem xb(F:aN)(R:eT rows)(hm:∀k,k∈S↔gq rows k)(r c:Int):∀(n j:Nat) (s4 s5:Ci.Slot),7<=j+n->sq rows r c j->∃k:Nat,k<=6/\sq rows r c k/\¬sq rows r c (k+1)/\bK (aK F (.cst (.bl true))) (aF F Kd) n (Ji rows S r c j s4 s5)=.ok (.rt (.int (k:Nat)))
 |0,j,_,_,h,g=>absurd (vD R g) (by omega)
 |n+1,j,s4,s5,h,g=>by
  have hj:=vD R g
  have ec:aK F (.cst (.bl true)) (Ji rows S r c j s4 s5)=.ok (.bl true):=rfl
  obtain⟨b1,b2⟩:=JO F hm r c j hj s4 s5
  by_cases hs:sq rows r c (j+1)
  ·obtain⟨t4,t5,e⟩:=b1 hs
   obtain⟨k,k1,k2,k3,e'⟩:=xb F R hm r c n (j+1) t4 t5 (by omega) hs
   exact⟨k,k1,k2,k3,by simp only [bK,ec,m6,CV,if_true,e,e']⟩
  ·exact⟨j,hj,g,hs,by simp only [bK,ec,m6,CV,if_true,b2 hs]⟩
end
def kZ(f:List PV->Res PV):Prop:=∀rows,eT rows->∀r c,∃k:Nat,k<=6/\sq rows r c k/\¬sq rows r c (k+1)/\f [fl rows,sp r c]=.ok (.int (k:Nat))
theorem yA(F:aN)(hk:xK (F "_law_spots")):kZ (aq F bU):=by
 intro rows R r c;obtain⟨S,e1,hl,hS,hm⟩:=hk rows R
 obtain⟨k,k1,k2,k3,e⟩:=xb F R hm r c WN 0 .no .no (by decide) (λx y hx=>absurd hx (Nat.not_lt_zero _))
 refine⟨k,k1,k2,k3,?_⟩;have e':bK (aK F (.cst (.bl true))) (aF F Kd) WN [.val (fl rows),.val (sp r c),.val (.int 0),.val (.lst (S.map af)),.no,.no]=.ok (.rt (.int (k:Nat))):=e
 simp! only [Kd,N9,Oh] at e';simp! only [bU,e1,e']
theorem ma{f:PV->Res (Option PV)}{p:Nat->PV}:∀{g:Nat->Nat->PV} (xs:List Nat) (k:Nat),(∀i x,xs[i]?=some x->f (.tup [.int ((k+i:Nat):Int),p x])=.ok (some (g i x)))->aV f (cm k (xs.map p))=.ok (xs.mapIdx g)
 |_,[],_,_=>rfl
 |g,x::xs,k,h=>by
  have h0:=h 0 x rfl
  have h1:=ma (g:=λi=>g (i+1)) xs (k+1) λi y hy=>by rw [Nat.add_right_comm];exact h (i+1) y hy
  rw [Nat.add_zero] at h0;simp only [zzF,cm,aV,h0,Hb,m6,h1,List.mapIdx_cons]
  rfl
noncomputable def PN:Ss:=(.cons (.app 2 (.Au .join (.cst (.str "")) (.cons (.comp 2 [1,3,0] (.two 0 1) (.enum (.var 4)) (.ite (.cmp .ge (.call "_law_clear" (.cons (.var 4) (.cons (.tup (.cons (.var 3) (.cons (.var 0) .nil))) .nil))) (.var 2)) (.var 1) (.cst (.str "#")))) .nil))) .nil)
theorem pW{rows:List Str}{r c:Int}{k s:Nat}(h1:sq rows r c k)(h2:¬sq rows r c (k+1)):sq rows r c s↔s<=k:=⟨λh=>Nat.le_of_not_lt λz=>h2 (iW h z),λh=>iW h1 h⟩
theorem Ei(F:aN)(hc:kZ (F "_law_clear"))(rows:List Str)(R:eT rows)(s:Nat):aq F cH [fl rows,.int s]=.ok (fl (shr rows s)):=by
 have So:=R.1
 obtain⟨aw,e,s3,s4,rfl⟩:=ef (body:=λx env=>((Tg.two 3 4).put x env).bind λaw=>aF F PN aw) (P:=λi env=>∃s3 s4,env=[.val (fl rows),.val (.int s),.own (.lst (((shr rows s).take i).map .str)),s3,s4]) (cm 0 (rows.map .str)) 0 [.val (fl rows),.val (.int s),.own (.lst []),.no,.no] ⟨_,_,rfl⟩ (by
  intro i x env hx hp;obtain⟨y,hy,rfl⟩:=qp hx
  obtain⟨s3,s4,rfl⟩:=hp
  simp only [zzQ,zzJ] at hy;obtain⟨z,hz,rfl⟩:=hy
  have zq:=R.2 z (zzD hz)
  have hi:i<rows.length:=(zzH.1 hz).1
  have lz:(cm 0 (chars z)).length<dA:=by
   rw [cN];refine zzV (m:=6) ?_ (by decide)
   simpa [chars,Str.length] using zq
  have hl:((shr rows s).take i).length<dA:=by
   refine zzV (m:=6) ?_ (by decide);simp only [List.length_take];omega
  refine⟨[.val (fl rows),.val (.int s),.own (.lst (((shr rows s).take (0+i+1)).map .str)),.val (.int i),.val (.str z)],?_,_,_,rfl⟩;simp only [Nat.zero_add];dsimp! only [PN,Nat.zero_add,lz,mK];rw [show chars z=z.cps.toList.map λx=>PV.str ⟨#[x]⟩ from rfl,ma (g:=λc x=>.str ⟨#[sgn rows s i c x]⟩) z.cps.toList 0 (λc x hx=>by
   obtain⟨k,_,k1,k2,ek⟩:=hc rows R i c
   dsimp! only [Nat.zero_add,ek]
   by_cases hs:s<=k
   ·have:zx rows i c s=true:=fb.2 ((pW k1 k2).2 hs)
    dsimp! only [sgn,this,show(s:Int)<=k from by omega,decide_true]
   ·have:¬zx rows i c s=true:=λh=>hs ((pW k1 k2).1 (fb.1 h))
    dsimp! only [sgn,this,show¬(s:Int)<=k from by omega,decide_false]
    rfl)]
  dsimp! only [qU zq];rw [qO hz];dsimp! only [List.map_append,zzl,hl])
 have t:(shr rows s).take (0+(cm 0 (rows.map .str)).length)=shr rows s:=by
  rw [cN,List.take_of_length_le];simp [shr]
 rw [t] at e;dsimp! only [PN] at e;dsimp! only [cH,e]
def vq(F:aN):Prop:=∀rows,eT rows->∀r c,aX rows r c=false->F "need_open" [fl rows,sp r c]=.exc "NoSpot"
theorem zS(F:aN)(ho:pX F)(rows:List Str)(R:eT rows)(r c:Int)(h:aX rows r c=false):aq F aS [fl rows,sp r c]=.exc "NoSpot":=by
 simp! only [aS,ho rows R,h,J4]
theorem CQ(F:aN)(hw:∀i,F "is_whole" [.int i]=.ok (.bl true))(s:Int)(h:¬(1<=s/\s<=12)):aq F bZ [.int s]=.exc "NoSize":=by
 have e:(decide (1<=s)&&decide (s<=12))=false:=by
  cases h1:decide (1<=s) with
  |false=>rfl
  |true=>exact decide_eq_false λh2=>h ⟨zzY h1,h2⟩
 by_cases h1:1<=s
 ·have h2:¬s<=12:=λz=>h ⟨h1,z⟩
  simp! only [bZ,hw,h1,h2,decide_true,decide_false]
 ·simp! only [bZ,hw,h1,decide_false]
theorem Fw(F:aN)(A:PV)(s:Int)(h:F "need_size" [.int s]=.exc "NoSize"):aq F cE [A,.int s]=.exc "NoSize":=by
 simp! only [cE,h]
theorem xT(F:aN)(hf:vq F){rows:List Str}(R:eT rows){r c:Int}(h:aX rows r c=false):aq F bH [fl rows,sp r c]=.exc "NoSpot":=by
 simp! only [bH,hf rows R r c h]
theorem oW(F:aN)(hf:vq F){rows:List Str}(R:eT rows)(B:PV){r c:Int}(h:aX rows r c=false):aq F cB [fl rows,B,.lst [sp r c]]=.exc "NoSpot":=by
 simp! only [cB,forL,hf rows R r c h]
theorem yu(F:aN)(hn:lZ F)(hf:vq F)(hs:∀rows,eT rows->∀B r c,aX rows r c=false->F "spread_to" [fl rows,B,.lst [sp r c]]=.exc "NoSpot"){rows:List Str}(R:eT rows)(B:PV){r c r' c':Int}(h:¬(aX rows r c=true/\aX rows r' c'=true)):aq F bq [fl rows,B,sp r c,sp r' c']=.exc "NoSpot":=by
 cases h1:aX rows r c with
 |false=>simp! only [bq,hf rows R r c h1]
 |true=>
  have h2:aX rows r' c'=false:=Bool.eq_false_iff.2 λz=>h ⟨h1,z⟩
  simp! only [bq,hn rows R r c h1,hs rows R B r' c' h2]
theorem Fl.shr{rows:List Str}{w:Nat}(L:Fl rows w)(s:Nat):Fl (shr rows s) w:=by
 have key:∀z∈K70.shr rows s,∃i z',rows[i]?=some z'/\z=rF rows s i z':=λz hz=>by
  obtain⟨i,hi,rfl⟩:=List.mem_iff_getElem.1 hz
  have OR:i<rows.length:=by simpa [K70.shr] using hi
  exact⟨i,rows[i],zzg OR,by simp [K70.shr]⟩
 refine⟨L.kE.shr s,by simpa [K70.shr] using L.ne,L.w1,λz hz=>?_,λz hz x hx=>?_⟩
 ·obtain⟨i,z',h,rfl⟩:=key z hz
  rw [<-L.Br z' (zzD h)];simp [rF,Str.length]
 ·obtain⟨i,z',h,rfl⟩:=key z hz
  obtain⟨j,hj,rfl⟩:=List.mem_iff_getElem.1 hx
  simp only [rF,List.getElem_mapIdx,sgn];split
  ·exact L.dig z' (zzD h) _ (List.getElem_mem _)
  ·exact .inl rfl
theorem xj(rows:List Str):shr rows 1=rows:=by
 refine List.ext_getElem? λi=>?_
 simp only [shr,List.getElem?_mapIdx];cases hz:rows[i]? with
 |none=>rfl
 |some z=>
  refine congrArg some ?_;have:(z.cps.toList.mapIdx λc x=>sgn rows 1 i c x)=z.cps.toList:=by
   refine List.ext_getElem? λj=>?_
   rw [List.getElem?_mapIdx];cases hx:z.cps.toList[j]? with
   |none=>rfl
   |some x=>
    refine congrArg some ?_;have hc:cd rows i j=some x:=by unfold cd;rw [hz];exact hx
    have hq:zx rows i j 1=(x !=35):=by
     have:zx rows i j 1=aX rows i j:=by simp [zx]
     rw [this];simp [aX,tH,hc]
    unfold sgn;rw [hq]
    by_cases h:x=35
    ·simp [h]
    ·simp [h]
  show(⟨(z.cps.toList.mapIdx λc x=>sgn rows 1 i c x).toArray⟩:Str)=z
  rw [this]
theorem qA{rows:List Str}{s:Nat}{r c:Int}(h1:1<=s)(h:aX (shr rows s) r c=true):cA (shr rows s) r c=cA rows r c:=by
 have hq:=(pO h1).1 h
 obtain⟨h0,h0',_⟩:=d8.1 h
 obtain⟨i,rfl⟩:=Int.eq_ofNat_of_zero_le h0
 obtain⟨j,rfl⟩:=Int.eq_ofNat_of_zero_le h0'
 unfold cA;rw [uj];simp only [Int.toNat_natCast];cases cd rows i j with
 |none=>rfl
 |some x=>
  have:sgn rows s i j x=x:=if_pos (fb.2 hq)
  show((sgn rows s i j x:Nat):Int)-48=_
  rw [this]
theorem gX{rows:List Str}{s t:Nat}(ht:1<=t)(h:t<=s){r c:Int}(ho:aX (shr rows s) r c=true):aX (shr rows t) r c=true:=(pO ht).2 (iW ((pO (by omega)).1 ho) h)
theorem BE{rows:List Str}{s t:Nat}(ht:1<=t)(h:t<=s){sl:Bool}{cl pr:Int}{u v:List Int}{e:Int}(he:E1 (shr rows s) sl cl pr u v e):E1 (shr rows t) sl cl pr u v e:=by
 obtain⟨r,c,r',c',rfl,rfl,h1,h2,h3⟩:=he
 have hs:1<=s:=by omega
 have a:=gX ht h h1
 have b:=gX ht h h2
 refine⟨r,c,r',c',rfl,rfl,a,b,?_⟩;rw [eO] at h3⊢;rw [qA ht a,qA ht b];rw [qA hs h1,qA hs h2] at h3;obtain⟨q1,q2,q3⟩:=h3
 exact⟨q1,λz=>⟨(q2 z).1,gX ht h (q2 z).2.1,gX ht h (q2 z).2.2⟩,q3⟩
theorem j1.imp{E E':List Int->List Int->Int->Prop}(hE:∀u v e,E u v e->E' u v e){s u:List Int}{c:Int}(h:j1 E s u c):j1 E' s u c:=by
 induction h with
 |here=>exact .here
 |go _ he ih=>exact ih.go (hE _ _ _ he)
theorem DX{E:List Int->List Int->Int->Prop}{g u:List Int}{l:Ks}{d:Int}(h:Ag (λa b e=>E b a e) g u l d):Kc E l d/\(∃t,l=u::t)/\∃t,l=t++[g]:=by
 induction h with
 |here=>exact⟨.one,⟨[],rfl⟩,[],rfl⟩
 |go _ he ih=>
  obtain⟨p,⟨t,rfl⟩,t',e'⟩:=ih
  refine⟨?_,⟨_,rfl⟩,_::t',by rw [e'];rfl⟩;rw [Int.add_comm];exact .cons he p
theorem Ik{rows:List Str}{sl:Bool}{cl pr:Int}{l:Ks}{d:Int}(h:Kc (E1 rows sl cl pr) l d)(h0:∀x,l=[x]->gq rows x):∀x∈l,gq rows x:=by
 induction h with
 |one=>intro x hx;rw [zzi.1 hx];exact h0 _ rfl
 |@cons x y l e d he hp ih=>
  obtain⟨r,c,r',c',h1,h2,h3,h4,_⟩:=he
  intro z hz;rcases List.mem_cons.1 hz with rfl|hz
  ·exact⟨r,c,h1,h3⟩
  ·exact ih (λw hw=>by cases hw;exact⟨r',c',h2,h4⟩) z hz
theorem Vq(k:List Int)(L:Ks):qN (af k) (.lst (L.map af))=.ok (.bl (decide (k∈L))):=by
 show(if(Ci.plain 9 (af k)&&(L.map af).all (Ci.plain 9))=true then Res.ok (PV.bl (yM (af k) (L.map af))) else .bad)=_
 rw [iB 8,ql 8,mem_keys]
 rfl
def As(f:List PV->Res PV):Prop:=∀rows w,Fl rows w->∀sl cl pr,Wk cl pr->∀r c r' c' (s:Nat),1<=s->s<=12->((aX (shr rows s) r c=true/\aX (shr rows s) r' c'=true)->∃p,f [fl rows,wk sl cl pr,.int s,sp r c,sp r' c']=.ok p/\Mz (E1 (shr rows s) sl cl pr) [r,c] [r',c'] p)/\(¬(aX (shr rows s) r c=true/\aX (shr rows s) r' c'=true)->f [fl rows,wk sl cl pr,.int s,sp r c,sp r' c']=.exc "NoSpot")
def KZ(f:List PV->Res PV):Prop:=∀rows,eT rows->∀s:Nat,1<=s->s<=12->f [fl rows,.int s]=.ok (fl (shr rows s))
theorem Cd(F:aN)(hs:KZ (F "shrunk"))(hl:fY F)(hb:∀rows,eT rows->∀B r c r' c',¬(aX rows r c=true/\aX rows r' c'=true)->F "least_way" [fl rows,B,sp r c,sp r' c']=.exc "NoSpot"):As (aq F bX):=by
 intro rows w L sl cl pr V r c r' c' s h1 h2;have e:=hs rows L.kE s h1 h2
 refine⟨λh=>?_,λh=>?_⟩
 ·obtain⟨p,e2,hp⟩:=hl _ w (L.shr s) sl cl pr V r c r' c' h.1 h.2
  exact⟨p,by simp! only [bX,e,e2],hp⟩
 ·have e2:=hb _ (L.shr s).kE (wk sl cl pr) r c r' c' h
  simp! only [bX,e,e2]
theorem zl(F:aN)(A B C D:PV)(s:Int)(h:F "shrunk" [A,.int s]=.exc "NoSize"):aq F bX [A,B,.int s,C,D]=.exc "NoSize":=by
 simp! only [bX,h]
theorem vp(F:aN):aq F df [.exc "NoSpot"]=.ok (.str "no spot")/\aq F df [.exc "NoSize"]=.ok (.str "no size"):=⟨rfl,rfl⟩
theorem HM(F:aN)(A B C D G:PV):(∀v,F "clearance" [A,D]=.ok v->aq F aJ [.int 0,A,B,C,D,G]=.ok v)/\∀n v,F "clearance" [A,D]=.exc n->F "_law_word" [.exc n]=.ok v->aq F aJ [.int 0,A,B,C,D,G]=.ok v:=by
 have e2:([.val (.int 0),.val A,.val B,.val C,.val D,.val G,.val .az,.val .az,.no]:Sl).any Ci.Slot.mn=false:=rfl
 have e1:j6 .az .az=.ok (.bl true):=rfl
 refine⟨λv h=>?_,λn v h hw=>?_⟩
 ·simp! only [aJ,h,e1,e2]
 ·have e3:j6 (.exc n) .az=.ok (.bl false):=rfl
  simp! only [aJ,h,e3,e2,hw]
theorem KH(F:aN)(A B C D G:PV):(∀v,F "shrunk" [A,C]=.ok v->aq F aJ [.int 1,A,B,C,D,G]=.ok v)/\∀n v,F "shrunk" [A,C]=.exc n->F "_law_word" [.exc n]=.ok v->aq F aJ [.int 1,A,B,C,D,G]=.ok v:=by
 have e2:([.val (.int 1),.val A,.val B,.val C,.val D,.val G,.val .az,.val .az,.no]:Sl).any Ci.Slot.mn=false:=rfl
 have e1:j6 .az .az=.ok (.bl true):=rfl
 refine⟨λv h=>?_,λn v h hw=>?_⟩
 ·simp! only [aJ,h,show((1:Int)==0)=false from rfl,e1,e2]
 ·have e3:j6 (.exc n) .az=.ok (.bl false):=rfl
  simp! only [aJ,h,show((1:Int)==0)=false from rfl,e3,e2,hw]
theorem Bm(F:aN)(A B C D G:PV):(∀v,F "great_way" [A,B,C,D,G]=.ok v->aq F aJ [.int 2,A,B,C,D,G]=.ok v)/\∀n v,F "great_way" [A,B,C,D,G]=.exc n->F "_law_word" [.exc n]=.ok v->aq F aJ [.int 2,A,B,C,D,G]=.ok v:=by
 have e2:([.val (.int 2),.val A,.val B,.val C,.val D,.val G,.val .az,.val .az,.no]:Sl).any Ci.Slot.mn=false:=rfl
 have e1:j6 .az .az=.ok (.bl true):=rfl
 refine⟨λv h=>?_,λn v h hw=>?_⟩
 ·simp! only [aJ,h,show((2:Int)==0)=false from rfl,show((2:Int)==1)=false from rfl,e1,e2]
 ·have e3:j6 (.exc n) .az=.ok (.bl false):=rfl
  simp! only [aJ,h,show((2:Int)==0)=false from rfl,show((2:Int)==1)=false from rfl,e3,e2,hw]
theorem TX(a b:List Int):gb (af a) (af b)=.ok (.bl (!decide (a=b))):=by
 show(if(Ci.plain 9 (af a)&&Ci.plain 9 (af b))=true then Res.ok (PV.bl (!ip 9 (af a) (af b))) else .bad)=_
 rw [iB 8,iB 8];exact congrArg (λz=>Res.ok (PV.bl (!z))) (k9 8 a b)
theorem BS{S:Ks}{m:Int}(h0:0<=m)(h:m<S.length):∃u∈S,aD (.lst (S.map af)) (.int m)=.ok (af u):=by
 obtain⟨k,rfl⟩:=Int.eq_ofNat_of_zero_le h0
 have hk:k<S.length:=by omega
 refine⟨S[k],List.getElem_mem hk,?_⟩;show Res.of (pV (S.map af) (k:Int))=_
 rw [gM (by simpa using hk),List.getElem_map]
 rfl
def NB(f:List PV->Res PV):Prop:=∀rows w,Fl rows w->∀sl cl pr,Wk cl pr->∀u v,gq rows u->gq rows v->∀s:Nat,1<=s->s<=12->((gq (shr rows s) u/\gq (shr rows s) v)->∃p,f [.int 2,fl rows,wk sl cl pr,.int s,af u,af v]=.ok p/\Mz (E1 (shr rows s) sl cl pr) u v p)/\(¬(gq (shr rows s) u/\gq (shr rows s) v)->f [.int 2,fl rows,wk sl cl pr,.int s,af u,af v]=.ok (.str "no spot"))
noncomputable def tD:Ss:=(.cons (.ite (.or (.cmp .ne (.sub (.var 8) (.cst (.int 0))) (.sub (.var 9) (.var 7))) (.cmp .ne (.call "_law_sum" (.cons (.var 6) (.cons (.var 2) (.cons (.sub (.var 8) (.cst (.int 1))) .nil)))) (.sub (.var 9) (.var 7)))) (.cons (.ret (.cst (.bl false))) .nil) .nil) (.cons (.ite (.or (.cmp .ne (.sub (.sub (.var 8) (.cst (.int 1))) (.cst (.int 0))) (.var 4)) (.cmp .ne (.sub (.sub (.var 8) (.cst (.int 1))) (.neg (.cst (.int 1)))) (.var 7))) (.cons (.ret (.cst (.bl false))) .nil) .nil) (.cons (.set 10 (.call "_law_tried" (.cons (.cst (.int 2)) (.cons (.var 1) (.cons (.var 2) (.cons (.blt .max2 (.cons (.cst (.int 1)) (.cons (.bin .sub (.var 5) (.cst (.int 1))) .nil))) (.cons (.var 4) (.cons (.var 7) .nil)))))))) (.cons (.ret (.and (.cmp .zj (.var 10) (.cst .az)) (.and (.cmp .le (.sub (.var 10) (.cst (.int 0))) (.sub (.var 8) (.cst (.int 0)))) (.cmp .le (.sub (.call "least_way" (.cons (.var 1) (.cons (.var 2) (.cons (.var 4) (.cons (.var 7) .nil))))) (.cst (.int 0))) (.sub (.var 10) (.cst (.int 0))))))) .nil))))
noncomputable def tC:Ss:=(.cons (.ite (.or (.cmp .kH (.var 4) (.call "_law_spots" (.cons (.var 6) .nil))) (.cmp .kH (.var 7) (.call "_law_spots" (.cons (.var 6) .nil)))) (.cons (.ret (.cmp .eq (.var 8) (.cst (.str "no spot")))) .nil) .nil) (.cons (.set 9 (.call "_law_costs" (.cons (.var 6) (.cons (.var 2) (.cons (.lst (.cons (.var 4) .nil)) .nil))))) (.cons (.ite (.cmp .kH (.var 7) (.var 9)) (.cons (.ret (.cmp .is (.var 8) (.cst .az))) .nil) .nil) tD)))
noncomputable def tA:Ss:=(.cons (.set 4 (.sub (.var 3) (.call "_law_pick" (.cons (.var 0) (.cons (.cst (.int 53)) (.cons (.blt .len (.cons (.var 3) .nil)) .nil)))))) (.cons (.set 7 (.sub (.var 3) (.call "_law_pick" (.cons (.var 0) (.cons (.cst (.int 54)) (.cons (.blt .len (.cons (.var 3) .nil)) .nil)))))) (.cons (.set 8 (.call "_law_tried" (.cons (.cst (.int 2)) (.cons (.var 1) (.cons (.var 2) (.cons (.var 5) (.cons (.var 4) (.cons (.var 7) .nil)))))))) tC)))
section
variable{rows:List Str}{w:Nat}{sl:Bool}{cl pr:Int}{u v:List Int}{S:Ks}{N:PV}{s:Nat}{F:aN}
theorem CS{E E':List Int->List Int->Int->Prop}(hE:∀a b e,E a b e->E' a b e){d:Int}{p:PV}(hw:j1 E u v d)(h:Mz E' u v p):∃d',∃l:Ks,p=.tup [.int d',.lst (l.map af)]/\d'<=d/\j1 E' u v d':=by
 rcases h with⟨_,hn⟩|⟨d',l,rfl,ht,_,hl⟩
 ·exact absurd (hw.imp hE) (hn d)
 ·exact⟨d',l,rfl,hl d (hw.imp hE),pU ht⟩
theorem MN(ht:NB (F "_law_tried"))(hl:fY F)(hm:rQ F)(L:Fl rows w)(V:Wk cl pr)(hu:gq rows u)(hv:gq rows v)(h1:1<=s)(h2:s<=12)(ou:gq (shr rows s) u)(ov:gq (shr rows s) v){d:Int}{l:Ks}(tr:Ag (λa b e=>E1 (shr rows s) sl cl pr b a e) v u l d)(ll:l.length<=2000){ks:Ks}{ns:List Int}(hc:au ks ns v=some d):aF F tD [.val N,.val (fl rows),.val (wk sl cl pr),.val (.lst (S.map af)),.val (af u),.val (.int s),.val (fl (shr rows s)),.val (af v),.val (.tup [.int d,.lst (l.map af)]),.val (.aP ks (ns.map .int)),.no]=.ok (.rt (.bl true)):=by
 obtain⟨pt,⟨t,ht1⟩,t',ht2⟩:=DX tr
 have e1:=uS hc
 have e2:=hm _ w (L.shr s) sl cl pr V l d pt (Ik pt λx hx=>by rw [ht1] at hx;cases hx;exact ou) ll
 have e3:aD (.tup [.int d,.lst (l.map af)]) (.int 0)=.ok (.int d):=rfl
 have e4:aD (.tup [.int d,.lst (l.map af)]) (.int 1)=.ok (.lst (l.map af)):=rfl
 have e5:aD (.lst (l.map af)) (.int 0)=.ok (af u):=by
  rw [ht1];show Res.of (pV ((u::t).map af) ((0:Nat):Int))=_
  rw [gM (by simp)]
  rfl
 have e6:aD (.lst (l.map af)) (.int (-1))=.ok (af v):=by rw [ht2,List.map_append];exact vC _ _
 have e7:∀a,gb (af a) (af a)=.ok (.bl false):=λa=>by rw [TX,zzh rfl];rfl
 obtain⟨m,m1,m2,m3⟩:∃m:Nat,1<=m/\m<=s/\(if(s:Int)-1>1 then(s:Int)-1 else 1)=(m:Int):=by
  by_cases h:2<s
  ·exact⟨s-1,by omega,by omega,by rw [if_pos (by omega)];omega⟩
  ·exact⟨1,by omega,by omega,by rw [if_neg (by omega)];rfl⟩
 obtain⟨r,c,rfl,hu'⟩:=hu
 obtain⟨r',c',rfl,hv'⟩:=hv
 have less:∀{a:List Int},gq (shr rows s) a->gq (shr rows m) a:=λ⟨r,c,e,h⟩=>⟨r,c,e,gX m1 m2 h⟩
 obtain⟨p,e8,hp⟩:=(ht rows w L sl cl pr V _ _ ⟨r,c,rfl,hu'⟩ ⟨r',c',rfl,hv'⟩ m m1 (by omega)).1 ⟨less ou,less ov⟩
 obtain⟨d',l',rfl,hd,hw⟩:=CS (λ_ _ _=>BE m1 m2) (pU tr) hp
 obtain⟨q,e9,hq⟩:=hl rows w L sl cl pr V r c r' c' hu' hv'
 obtain⟨d'',l'',rfl,vh,_⟩:=CS (E':=E1 rows sl cl pr) (λa b e he=>by have:=BE (rows:=rows) (zzE 1) m1 he;rwa [xj] at this) hw hq
 replace e9:F "least_way" [fl rows,wk sl cl pr,af [r,c],af [r',c']]=.ok (.tup [.int d'',.lst (l''.map af)]):=e9
 have OX:fy (.tup [.int d',.lst (l'.map af)]) .az=.ok (.bl true):=rfl
 have U3:∀a b,aD (.tup [.int a,b]) (.int 0)=.ok (.int a):=λ_ _=>rfl
 dsimp! only [tD,e1,e2,e3,e4,e5,e6,e7,m3,e8,e9,OX,U3,hd,vh,decide_true]
end
section
variable{rows:List Str}{w:Nat}{sl:Bool}{cl pr:Int}{u v:List Int}{S:Ks}{N:PV}{s:Nat}{F:aN}
theorem GR(ht:NB (F "_law_tried"))(hl:fY F)(hm:rQ F)(hk:xK (F "_law_spots"))(hc:qD (F "_law_costs"))(L:Fl rows w)(V:Wk cl pr)(hu:gq rows u)(hv:gq rows v)(h1:1<=s)(h2:s<=12){p:PV}(hp:((gq (shr rows s) u/\gq (shr rows s) v)->Mz (E1 (shr rows s) sl cl pr) u v p)/\(¬(gq (shr rows s) u/\gq (shr rows s) v)->p=.str "no spot")):aF F tC [.val N,.val (fl rows),.val (wk sl cl pr),.val (.lst (S.map af)),.val (af u),.val (.int s),.val (fl (shr rows s)),.val (af v),.val p,.no,.no]=.ok (.rt (.bl true)):=by
 obtain⟨S',e1,_,_,m⟩:=hk _ (L.shr s).kE
 have eq1:fG (.str "no spot") (.str "no spot")=.ok (.bl true):=rfl
 have eu:=F2 u S'
 have ev:=F2 v S'
 by_cases ou:u∈S'
 ·by_cases ov:v∈S'
  ·have Pk:=(m u).1 ou
   have Sy:=(m v).1 ov
   rw [zzh ou] at eu;rw [zzh ov] at ev;obtain⟨ks,ns,e2,len,c1,c2⟩:=hc _ w (L.shr s) sl cl pr V u Pk
   have g:=bS (vs:=ns) v len
   rcases hp.1 ⟨Pk,Sy⟩ with⟨rfl,hn⟩|⟨d,l,rfl,tr,ll,le⟩
   ·have g':cK ks v=false:=by
     rw [g];cases hg:au ks ns v with
     |none=>rfl
     |some n=>exact absurd (c1 v n hg) (hn n)
    have e3:j6 .az .az=.ok (.bl true):=rfl
    dsimp! only [tC,e1,eu,ev,e2,mq,g',e3]
   ·have hw:=pU tr
    obtain⟨n,hn,hle⟩:=c2 v d hw
    have:=le n (c1 v n hn)
    have hd:au ks ns v=some d:=by rw [hn];exact congrArg some (by omega)
    have g':cK ks v=true:=by rw [g,hd];rfl
    have eD:=MN (S:=S) (N:=N) ht hl hm L V hu hv h1 h2 Pk Sy tr ll hd
    dsimp! only [tC,e1,eu,ev,e2,mq,g',eD]
  ·have:=hp.2 λz=>ov ((m v).2 z.2)
   subst this;rw [zzh ou] at eu;rw [decide_eq_false ov] at ev;dsimp! only [tC,e1,eu,ev,eq1]
 ·have:=hp.2 λz=>ou ((m u).2 z.1)
  subst this;rw [decide_eq_false ou] at eu;dsimp! only [tC,e1,eu,eq1]
theorem Ng(ht:NB (F "_law_tried"))(hl:fY F)(hm:rQ F)(hk:xK (F "_law_spots"))(hc:qD (F "_law_costs"))(hp:iN F)(L:Fl rows w)(V:Wk cl pr)(h1:1<=s)(h2:s<=12)(ns:List Int)(hS:∀k,k∈S->gq rows k)(h0:S≠[])(s4:Ci.Slot):aF F tA [.val (iw ns),.val (fl rows),.val (wk sl cl pr),.val (.lst (S.map af)),s4,.val (.int s),.val (fl (shr rows s)),.no,.no,.no,.no]=.ok (.rt (.bl true)):=by
 have hlen:(0:Int)<S.length:=by have:=List.length_pos_iff.2 h0;omega
 obtain⟨a,ea,a0,a1⟩:=hp ns 53 S.length (by decide) hlen
 obtain⟨b,eb,b0,b1⟩:=hp ns 54 S.length (by decide) hlen
 obtain⟨u,hu,eu⟩:=BS a0 a1
 obtain⟨v,hv,ev⟩:=BS b0 b1
 obtain⟨t1,t2⟩:=ht rows w L sl cl pr V u v (hS u hu) (hS v hv) s h1 h2
 by_cases h:gq (shr rows s) u/\gq (shr rows s) v
 ·obtain⟨p,ep,lp⟩:=t1 h
  have eC:=GR (S:=S) (N:=iw ns) (sl:=sl) ht hl hm hk hc L V (hS u hu) (hS v hv) h1 h2 (p:=p) ⟨λ_=>lp,λz=>absurd h z⟩
  dsimp! only [tA,zzl,ea,eb,eu,ev,ep,eC]
 ·have eC:=GR (S:=S) (N:=iw ns) (sl:=sl) ht hl hm hk hc L V (hS u hu) (hS v hv) h1 h2 (p:=.str "no spot") ⟨λz=>absurd z h,λ_=>rfl⟩
  dsimp! only [tA,zzl,ea,eb,eu,ev,t2 h,eC]
end
noncomputable def tZ:E:=(.comp 1 [2,4,1] (.one 0) (.kF (.cst (.int 4))) (.call "_law_tried" (.cons (.bin .add (.cst (.int 1)) (.bin .mod (.var 0) (.cst (.int 2)))) (.cons (.var 3) (.cons (.var 1) (.cons (.sub (.lst (.cons (.cst (.int 0)) (.cons (.cst (.int 13)) (.cons (.neg (.cst (.int 1))) (.cons (.cst (.int 0)) .nil))))) (.var 0)) (.cons (.var 2) (.cons (.var 2) .nil))))))))
noncomputable def tB:Ss:=(.cons (.ite (.cmp .ne tZ (.bin .mul (.lst (.cons (.cst (.str "no size")) .nil)) (.cst (.int 4)))) (.cons (.ret (.cst (.bl false))) .nil) .nil) (.cons (.set 5 (.bin .add (.cst (.int 1)) (.call "_law_pick" (.cons (.var 0) (.cons (.cst (.int 52)) (.cons (.cst (.int 3)) .nil)))))) (.cons (.set 6 (.call "_law_shrunk" (.cons (.var 1) (.cons (.var 5) .nil)))) (.cons (.ite (.or (.cmp .ne (.call "shrunk" (.cons (.var 1) (.cons (.var 5) .nil))) (.var 6)) (.or (.cmp .ne (.call "shrunk" (.cons (.var 1) (.cons (.cst (.int 1)) .nil))) (.var 1)) (.cmp .eq (.var 3) (.lst .nil)))) (.cons (.ret (.and (.cmp .eq (.var 3) (.lst .nil)) (.cmp .eq (.call "shrunk" (.cons (.var 1) (.cons (.var 5) .nil))) (.var 6)))) .nil) .nil) tA))))
theorem Nd(F:aN)(A B D:PV)(h1:∀k:Int,k=1\/k=2->∀z:Int,¬(1<=z/\z<=12)->F "_law_tried" [.int k,A,B,.int z,D,D]=.ok (.str "no size"))(s0 s3 s5 s6 s7 s8 s9 AI:Ci.Slot):aK F tZ [s0,.val A,.val B,s3,.val D,s5,s6,s7,s8,s9,AI]=.ok (.lst [.str "no size",.str "no size",.str "no size",.str "no size"]):=by
 have c:aH 4=true:=by decide
 have l:4<dA:=by decide
 have p:(0:Int)<2:=by decide
 have a1:=h1 (1+0%2) (by decide) 0 (by decide)
 have a2:=h1 (1+1%2) (by decide) 13 (by decide)
 have a3:=h1 (1+2%2) (by decide) (-1) (by decide)
 have a4:=h1 (1+3%2) (by decide) 0 (by decide)
 have q1:aD (.lst [.int 0,.int 13,.int (-1),.int 0]) (.int 0)=.ok (.int 0):=rfl
 have q2:aD (.lst [.int 0,.int 13,.int (-1),.int 0]) (.int 1)=.ok (.int 13):=rfl
 have q3:aD (.lst [.int 0,.int 13,.int (-1),.int 0]) (.int 2)=.ok (.int (-1)):=rfl
 have q4:aD (.lst [.int 0,.int 13,.int (-1),.int 0]) (.int 3)=.ok (.int 0):=rfl
 dsimp! only [tZ,c];rw [show dW 0 (4:Int).toNat=[.int 0,.int 1,.int 2,.int 3] from rfl];dsimp! only [zzL,List.length_nil,l,aV,p,q1,q2,q3,q4,a1,a2,a3,a4,oc]
theorem iE(F:aN)(hp:iN F)(ns:List Int)(k:Int)(hk:0<=k){rows:List Str}{w:Nat}(L:Fl rows w):∃a b,aq F bT [iw ns,.int k,fl rows]=.ok (sp a b):=by
 obtain⟨z,f1,f2,f3⟩:=SQ L
 obtain⟨a,ea,_⟩:=hp ns k ((rows.length:Int)+2) hk (by omega)
 obtain⟨b,eb,_⟩:=hp ns (k+1) ((z.length:Int)+2) (by omega) (by omega)
 refine⟨a-1,b-1,?_⟩;simp! only [bT,zzl,ea,f1,f3,eb]
theorem Cj(rows:List Str):Ci.plain 9 (fl rows)=true:=by
 show(rows.map PV.str).all (Ci.plain 8)=true
 simp only [zzT,List.mem_map]
 rintro _ ⟨p,_,rfl⟩
 rfl
theorem pJ(n:Nat):∀rows:List Str,eqs (ip n) (rows.map .str) (rows.map .str)=true
 |[]=>rfl
 |z::zs=>by
  have:ip n (.str z) (.str z)=true:=by
   cases n<;>exact beq_self_eq_true z
  simp only [zzF,eqs,this,pJ n zs,Bool.and_self]
theorem GO(rows:List Str):gb (fl rows) (fl rows)=.ok (.bl false):=by
 show(if(Ci.plain 9 (fl rows)&&Ci.plain 9 (fl rows))=true then Res.ok (PV.bl (!eqs (ip 8) (rows.map .str) (rows.map .str))) else .bad)=_
 rw [Cj,pJ]
 rfl
theorem Na(rows:List Str):fG (fl rows) (fl rows)=.ok (.bl true):=by
 show(if(Ci.plain 9 (fl rows)&&Ci.plain 9 (fl rows))=true then Res.ok (PV.bl (eqs (ip 8) (rows.map .str) (rows.map .str))) else .bad)=_
 rw [Cj,pJ]
 rfl
theorem Kr(F:aN)(ht:NB (F "_law_tried"))(hl:fY F)(hm:rQ F)(hk:xK (F "_law_spots"))(hc:qD (F "_law_costs"))(hp:iN F)(hf:∀ns,∃rows w,Fl rows w/\F "_law_floor" [iw ns,.int 0,.int 5]=.ok (fl rows))(hw:∀ns,∃sl cl pr,Wk cl pr/\F "_law_walker" [iw ns,.int 40]=.ok (wk sl cl pr))
 (ha:∀ns rows w,Fl rows w->∃a b,F "_law_any_spot" [iw ns,.int 50,fl rows]=.ok (sp a b)) (hq:kZ (F "_law_clear")) (hs:KZ (F "shrunk")) (hz:∀rows,eT rows->∀s:Nat,F "_law_shrunk" [fl rows,.int s]=.ok (fl (shr rows s)))
 (h0:∀rows,eT rows->∀B r c,(aX rows r c=true->∃k:Nat,LD rows r c k/\F "_law_tried" [.int 0,fl rows,B,.int 1,sp r c,.az]=.ok (.int k))/\(aX rows r c=false->F "_law_tried" [.int 0,fl rows,B,.int 1,sp r c,.az]=.ok (.str "no spot")))
 (hb:∀rows,eT rows->∀B D,∀k:Int,k=1\/k=2->∀z:Int,¬(1<=z/\z<=12)->F "_law_tried" [.int k,fl rows,B,.int z,D,D]=.ok (.str "no size")) (ns:List Int):aq F j8 [iw ns]=.ok (.bl true):=by
 obtain⟨rows,w,L,e1⟩:=hf ns
 obtain⟨sl,cl,pr,V,e2⟩:=hw ns
 obtain⟨S,e3,hS1,_,m⟩:=hk rows L.kE
 obtain⟨a,b,e4⟩:=ha ns rows w L
 obtain⟨x,ex,x0,x1⟩:=hp ns 52 3 (by decide) (by decide)
 obtain⟨s',rfl⟩:=Int.eq_ofNat_of_zero_le x0
 have hx:(1:Int)+(s':Int)=((s'+1:Nat):Int):=Int.add_comm _ _
 have s1:1<=s'+1:=Nat.succ_pos _
 have s2:s'+1<=12:=by omega
 generalize s'+1=s at hx s1 s2
 have e5:=hz rows L.kE s
 have e6:=hs rows L.kE s s1 s2
 have e7:F "shrunk" [fl rows,.int 1]=.ok (fl rows):=by have:=hs rows L.kE 1 (zzE _) (by decide);rwa [xj] at this
 have eZ:=λs0 s3 s5 s6 s7 s8 s9 AI=>Nd F (fl rows) (wk sl cl pr) (sp a b) (hb rows L.kE _ _) s0 s3 s5 s6 s7 s8 s9 AI
 have r4:binOp .mul (.lst [.str "no size"]) (.int 4)=.ok (.lst [.str "no size",.str "no size",.str "no size",.str "no size"]):=rfl
 have n4:gb (.lst [.str "no size",.str "no size",.str "no size",.str "no size"]) (.lst [.str "no size",.str "no size",.str "no size",.str "no size"])=.ok (.bl false):=rfl
 have eB:aF F tB [.val (iw ns),.val (fl rows),.val (wk sl cl pr),.val (.lst (S.map af)),.val (sp a b),.no,.no,.no,.no,.no,.no]=.ok (.rt (.bl true)):=by
  have eN:=Tp S []
  by_cases hS:S=[]
  ·rw [zzh hS] at eN;replace eN:fG (.lst (S.map af)) (.lst [])=.ok (.bl true):=eN
   dsimp! only [tB,eZ,r4,n4,ex,hx,e5,e6,e7,GO,eN,Na]
  ·rw [decide_eq_false hS] at eN;replace eN:fG (.lst (S.map af)) (.lst [])=.ok (.bl false):=eN
   have eA:=Ng ht hl hm hk hc hp L V s1 s2 ns (sl:=sl) (λk hk=>(m k).1 hk) hS (.val (sp a b))
   dsimp! only [tB,eZ,r4,n4,ex,hx,e5,e6,e7,GO,eN,eA]
 have ei:qN (sp a b) (.lst (S.map af))=.ok (.bl (decide ([a,b]∈S))):=Vq [a,b] S
 have db:j8.body=(.cons (.set 1 (.call "_law_floor" (.cons (.var 0) (.cons (.cst (.int 0)) (.cons (.cst (.int 5)) .nil))))) (.cons (.set 2 (.call "_law_walker" (.cons (.var 0) (.cons (.cst (.int 40)) .nil)))) (.cons (.set 3 (.call "_law_spots" (.cons (.var 1) .nil))) (.cons (.set 4 (.call "_law_any_spot" (.cons (.var 0) (.cons (.cst (.int 50)) (.cons (.var 1) .nil))))) (.cons (.ite (.cmp .ne (.call "_law_tried" (.cons (.cst (.int 0)) (.cons (.var 1) (.cons (.var 2) (.cons (.cst (.int 1)) (.cons (.var 4) (.cons (.cst .az) .nil))))))) (.ite (.cmp .Km (.var 4) (.var 3)) (.call "_law_clear" (.cons (.var 1) (.cons (.var 4) .nil))) (.cst (.str "no spot")))) (.cons (.ret (.cst (.bl false))) .nil) .nil) tB))))):=rfl
 have st:cx j8 [iw ns]=[.val (iw ns),.no,.no,.no,.no,.no,.no,.no,.no,.no,.no]:=rfl
 have ar:cy j8 [iw ns]=true:=rfl
 unfold aq;rw [ar,if_pos rfl,st,db];cases ho:aX rows a b with
 |false=>
  have:¬[a,b]∈S:=λz=>by rw [hX.1 ((m _).1 z)] at ho;cases ho
  rw [decide_eq_false this] at ei;have e8:=(h0 rows L.kE (wk sl cl pr) a b).2 ho
  have n5:gb (.str "no spot") (.str "no spot")=.ok (.bl false):=rfl
  dsimp! only [e1,e2,e3,e4,e8,ei,n5,eB]
 |true=>
  rw [zzh ((m _).2 (hX.2 ho))] at ei;obtain⟨k,ck,e8⟩:=(h0 rows L.kE (wk sl cl pr) a b).1 ho
  obtain⟨k',_,q1,q2,e9⟩:=hq rows L.kE a b
  have:k'=k:=Nat.le_antisymm (ck.iff.1 q1) ((pW q1 q2).1 (ck.iff.2 (zzE _)))
  subst this;dsimp! only [e1,e2,e3,e4,e8,ei,e9,eB]
theorem LY(ns:List Int)(hl:ns.length<=63):aq (den vj) j8 [iw ns]=.ok (.bl true):=by
 have pick:∀F:aN,F "_law_pick"=aq (den T1) bI->iN F:=λF hF ns k q hk hq=>by
  rw [hF];exact Dv (den T1) (λns k hk=>by rw [NX];exact DV _ ns k hk) ns k q hk hq
 have rq:∀F:aN,F "is_open"=aq (den Ht) cF->pX F:=λF hF rows R r c=>by
  rw [hF];exact DL _ (λr c=>by rw [Di];exact uR _ (λi=>by rw [F8];exact ji _ i) r c) (λrows R r c=>by rw [Gd];exact Mi _ rows R r c) rows R r c
 have oe:∀F:aN,F "need_open"=aq (den D3) aS->lZ F:=λF hF rows R r c h=>by
  rw [hF];exact qi _ (rq _ vw) rows R r c h
 have nF:∀F:aN,F "need_open"=aq (den D3) aS->vq F:=λF hF rows R r c h=>by
  rw [hF];exact zS _ (rq _ vw) rows R r c h
 have step:∀F:aN,F "step_cost"=aq (den IH) bC->uF F:=λF hF rows w L sl cl pr V r c r' c' h h'=>by
  rw [hF];exact Fe _ (λr c r' c'=>by rw [FC];exact yJ _ r c r' c') (λrows R r c r' c'=>by rw [DR];exact uu _ (rq _ DG) R r c r' c') (λrows w L r c h=>by rw [Dh];exact yk _ (oe _ FX) L h) L V h h'
 have Uu:Gn (den LF):=λrows R r c a b d e=>by
  rw [FT];exact Je _ (rq _ EV) R a b d e
 have steps:o7 (den Nj):=by
  unfold o7;rw [Ek];exact BJ _ (oe _ F1) Uu (step _ EZ)
 have DS:pL (den OP):=by
  unfold pL;rw [EI];exact tV _ steps (step _ Dt)
 have O6:KS (den LS):=by
  unfold KS;rw [Ey];exact FI _ DS
 have least:∀F:aN,F "least_way"=aq (den JC) bq->fY F:=λF hF=>by
  unfold fY;rw [hF];exact Ce _ (oe _ pB) (λrows w L sl cl pr V r c h=>by rw [xk];exact rR _ (oe _ vO) O6 L V h) λE s kr Vr R hE k q hq=>by rw [FA];exact yX _ R hE hq
 have clear:∀F:aN,F "clearance"=aq (den Ki) bH->xa F:=λF hF rows R r c h=>by
  rw [hF];exact Cu _ (oe _ vB) (rq _ DQ) (λr c k hk=>by rw [Fs];exact Lj _ r c k hk) rows R r c h
 have whole:∀i,den OO "is_whole" [.int i]=.ok (.bl true):=λi=>by rw [Fp];exact ji _ i
 have L4:∀F:aN,F "shrunk"=aq (den GJ) cE->KZ (F "shrunk"):=λF hF rows R s h1 h2=>by
  rw [hF];exact yD _ (λs h1 h2=>by rw [wY];exact pG _ whole s (by omega) (by omega)) (λrows R s hs r c x h=>by rw [Eg];exact D7 _ (clear _ ES) rows R s hs r c x h) rows R s h1 h2
 have MI:∀F:aN,F "shrunk"=aq (den GJ) cE->∀A (z:Int),¬(1<=z/\z<=12)->F "shrunk" [A,.int z]=.exc "NoSize":=λF hF A z hz=>by
  rw [hF];exact Fw _ A z (by rw [wY];exact CQ _ whole z hz)
 have great:As (den xr "great_way"):=by
  rw [wy];exact Cd _ (L4 _ vn) (least _ wX) λrows R B r c r' c' h=>by
   rw [wX];exact yu _ (oe _ pB) (nF _ pB) (λrows R B r c h=>by rw [xk];exact oW _ (nF _ vO) R B h) R B h
 have wS:den xr "_law_word" [.exc "NoSpot"]=.ok (.str "no spot"):=by rw [z9];exact(vp _).1
 have wZ:den xr "_law_word" [.exc "NoSize"]=.ok (.str "no size"):=by rw [z9];exact(vp _).2
 have Be:∀F:aN,F "_law_steps"=aq (den MH) bA->gD F:=λF hF=>by
  unfold gD;rw [hF];exact yh _ (λrows w L sl cl pr V r c r' c' h h' hf=>by rw [Fb];exact uy _ L V h h' hf)
 have w9:∀F:aN,F "_law_spots"=aq (den T4) bz->pQ F:=λF hF rows R=>by
  rw [hF];exact zM _ rows R
 have A2:∀F:aN,F "_law_clear"=aq (den T6) bU->kZ (F "_law_clear"):=λF hF=>by
  rw [hF];exact yA _ (uH (w9 _ LR))
 have MZ:NB (den vj "_law_tried"):=λrows w L sl cl pr V u v hu hv s h1 h2=>by
  obtain⟨r,c,rfl,_⟩:=hu
  obtain⟨r',c',rfl,_⟩:=hv
  obtain⟨g1,g2⟩:=great rows w L sl cl pr V r c r' c' s h1 h2
  obtain⟨t1,t2⟩:=Bm (den xr) (fl rows) (wk sl cl pr) (.int s) (sp r c) (sp r' c')
  rw [qa,hX,hX];exact⟨λh=>by obtain⟨p,e,lp⟩:=g1 h;exact⟨p,t1 p e,lp⟩,λh=>t2 _ _ (g2 h) wS⟩
 refine Kr _ MZ (least _ FV) ?_ (uH (w9 _ JQ)) ?_ (pick _ KD) (λns=>by rw [KQ];exact yL _ (pick _ Ms) ns 5 (by decide) (by decide)) (λns=>by rw [Js];exact ye _ (pick _ Nf) ns 40 (by decide)) (λns rows w L=>by rw [HN];exact iE _ (pick _ Nt) ns 50 (by decide) L) (A2 _ IB) (L4 _ Fn) (λrows R s=>by rw [Kl];exact Ei _ (A2 _ Mg) rows R s) (λrows R B r c=>?_) (λrows R B D k hk z hz=>?_) ns
 ·unfold rQ;rw [Fv];exact IF _ (w9 _ Ip) (Be _ FK)
 ·rw [Gg];exact Af _ (uH (w9 _ HC)) (Be _ Ft)
 ·rw [qa];obtain⟨t1,t2⟩:=HM (den xr) (fl rows) B (.int 1) (sp r c) .az
  refine⟨λh=>?_,λh=>t2 _ _ (by rw [wc];exact xT _ (nF _ vB) R h) wS⟩
  obtain⟨k,ck,e⟩:=clear _ wc rows R r c h
  exact⟨k,ck,t1 _ e⟩
 ·rw [qa];rcases hk with rfl|rfl
  ·exact(KH (den xr) (fl rows) B (.int z) D D).2 _ _ (MI _ ED _ z hz) wZ
  ·exact(Bm (den xr) (fl rows) B (.int z) D D).2 _ _ (by rw [wy];exact zl _ _ _ _ _ z (MI _ vn _ z hz)) wZ
end K70
namespace Hd
open PySem PySem.W L2
noncomputable abbrev fo(n:Str)(st:Stmt)(pm:Value)(c:Addr):Obj:=⟨.type "function",none,.func (fnOf n n (dv st) (cV st) (ba st) .none .none .none pm none (.ref c) .none),#[]⟩
noncomputable abbrev co(n:Str)(a:Nat)(L A:Int)(r:Nat)(x y:Value)(q z:Nat):Obj:={cls:=.type "code",data:=.fields #[.str n a,.str n (a+1),.str "/claim/cut.py" (a+2),.int L 0,.int A 0,.int 0 0,.int 0 0,.int 3 0,.ref r,.bool Bool.true,.int 181 0,.ref (r+1),.none,x,y,.ref q,.int z 0,.int L 0,.str "/claim/cut.py" (z+1)]}
def PY(s:Stmt):Pos:=match s with
 |.FunctionDef _ _ _ _ _ _ _ _ _ p=>p
 |_=>⟨0,0,0,0⟩
theorem ent{K:Frag}{ts:List (Addr×Str)}{n:Str}{st:Stmt}(f c:Addr)(pm:Value)(a:nsIn K mainGlobals n=some (some (.ref f)):=by kernel_rfl)(l:K.lookup f=some (fo n st pm c):=by kernel_rfl)(d:codeIn K (.ref c) n=true:=by kernel_rfl)(k:keepIn K (.ref f)=true:=by kernel_rfl):Ci.xS K ts false n st:=Ci.QJ a l d k
theorem Ml{K:Frag}{ts:List (Addr×Str)}{n:Str}{st:Stmt}(f c p:Addr)(pm:Value)(ck:Ci.gL K c p)(m:(p,Ci.nu n)∈ts)(u:∀q∈ts,q.1=p->q.2=Ci.nu n)(a:nsIn K mainGlobals n=some (some (.ref f)):=by kernel_rfl)(l:K.lookup f=some (fo n st pm c):=by kernel_rfl)(d:codeIn K (.ref c) n=true:=by kernel_rfl)(k:keepIn K (.ref f)=true:=by kernel_rfl):Ci.xS K ts true n st:=⟨f,_,_,_,_,_,_,_,_,_,a,l,d,k,λ_=>⟨c,p,rfl,ck,m,λq' h=>u _ h rfl⟩⟩
theorem ac{K:Frag}{ts:List (Addr×Str)}{Γ:Ci.Pg}{r:Ci.Row}{l:Ci.d7}(e:Ci.xS K ts r.hl r.h r.st)(s:Ci.cq (Γ.at l r.hl) r.h r.d r.st)(t:Ci.AllK K ts Γ l)(a:(l.map (·.f)).contains r.f=false:=by decide+kernel)(b:(r.d.iM.isNone==!Ci.gE r.f)=true:=by decide+kernel)(c:r.d.iM.isNone=true->r.f=r.h:=by first|exact λ_=>rfl|exact λz=>absurd z (by decide)):Ci.AllK K ts Γ (r::l):=⟨e,s,⟨a,b,c⟩,t⟩
theorem Cy{K L:Frag}{b:Addr}{o:Obj}(e:K.lookup b=some o):(K++L).lookup b=some o:=by
 rw [List.lookup_append,e]
 rfl
end Hd
namespace K70
open PySem L2 Ci
abbrev lw:=PySem.Challenge.rw_cellways_k70_whole_sizes
def top(i:Nat):Stmt:=PySem.Challenge.pw_cellways_k70_whole_sizes.main.body.getD i (.Pass ⟨0,0,0,0⟩)
noncomputable def K(P:Params):PySem.W.Frag:=[(2,{cls:=.none,data:=.dict #[]}),
 (3,{cls:=.type "dict",data:=.dict #[Hd.de P "__name__" 165 (.str "law_cellways_k70_whole_sizes" 483),Hd.de P "__doc__" 166 (.none),Hd.de P "__package__" 167 (.none),Hd.de P "__loader__" 168 (.builtin "__main__.__loader__#opaque"),Hd.de P "__spec__" 169 (.none),Hd.de P "__annotations__" 170 (.ref 6),Hd.de P "__builtins__" 171 (.ref 4),Hd.de P "__file__" 173 (.str "/claim/cut.py" 172),Hd.de P "__cached__" 174 (.none),Hd.de P "FloorError" 206 (.ref 24),Hd.de P "NoSpot" 222 (.ref 37),Hd.de P "NoWay" 238 (.ref 49),Hd.de P "NoSign" 254 (.ref 61),Hd.de P "NoSize" 270 (.ref 73),Hd.de P "WALL" 274 (.str "#" 273),Hd.de P "LONGEST" 276 (.int 12 275),Hd.de P "STRAIGHT_COST" 278 (.int 2 277),Hd.de P "SLANTING_COST" 280 (.int 3 279),Hd.de P "is_whole" 287 (.ref 82),Hd.de P "is_spot" 294 (.ref 89),Hd.de P "is_on_floor" 302 (.ref 96),Hd.de P "is_open" 310 (.ref 103),Hd.de P "need_open" 318 (.ref 110),Hd.de P "height_at" 326 (.ref 117),Hd.de P "open_spots_beside" 337 (.ref 124),Hd.de P "are_beside" 345 (.ref 131),Hd.de P "has_open_corners" 354 (.ref 138),Hd.de P "step_cost" 367 (.ref 145),Hd.de P "steps_from" 379 (.ref 152),Hd.de P "steps_to" 385 (.ref 157),Hd.de P "spread" 402 (.ref 164),Hd.de P "spread_to" 414 (.ref 171),Hd.de P "traced" 423 (.ref 178),Hd.de P "least_way" 434 (.ref 185),Hd.de P "need_size" 443 (.ref 192),Hd.de P "rim_of" 449 (.ref 197),Hd.de P "clearance" 455 (.ref 202),Hd.de P "shrunk_sign" 465 (.ref 209),Hd.de P "shrunk" 471 (.ref 214),Hd.de P "great_way" 482 (.ref 221),Hd.de P "_law_cell" 492 (.ref 228),Hd.de P "_law_pick" 502 (.ref 235),Hd.de P "_law_floor" 520 (.ref 242),Hd.de P "_law_walker" 528 (.ref 249),Hd.de P "_law_spots" 534 (.ref 254),Hd.de P "_law_cost" 546 (.ref 261),Hd.de P "_law_steps" 560 (.ref 268),Hd.de P "_law_costs" 566 (.ref 273),Hd.de P "_law_costs_to" 572 (.ref 278),Hd.de P "_law_sum" 578 (.ref 283),Hd.de P "_law_word" 586 (.ref 290),Hd.de P "_law_any_spot" 595 (.ref 297),Hd.de P "_law_tried" 610 (.ref 304),Hd.de P "_law_clear" 616 (.ref 309),Hd.de P "_law_shrunk" 622 (.ref 314),Hd.de P "law" 628 (.ref 319)] 56}),
 (4,{cls:=.type "module",dict:=some builtinsNs,data:=.plain}),
 (23,{cls:=.type "dict",data:=.dict #[Hd.de P "__module__" 196 (.str "cellways.errors" 187),Hd.de P "__firstlineno__" 200 (.int 2 199),Hd.de P "__static_attributes__" 201 (.ref 22),Hd.de P "__weakref__" 203 (.ref 25),Hd.de P "__doc__" 204 (.none)] 3}),
 (24,{cls:=.type "type",data:=.cls {name:="FloorError",bases:=[.type "ValueError"],mro:=[.ref 24,.type "ValueError",.type "Exception",.type "BaseException",.type "object"],ns:=23,qualname:="FloorError",subclasses:=[.ref 37,.ref 49,.ref 61,.ref 73]},slots:=#[some (.ref 15),none,some (.str "FloorError" 189),some (.str "FloorError" 197),some (.builtin "ValueError.__new__"),some (.bool Bool.true)]}),
 (36,{cls:=.type "dict",data:=.dict #[Hd.de P "__module__" 214 (.str "cellways.errors" 187),Hd.de P "__firstlineno__" 218 (.int 4 217),Hd.de P "__static_attributes__" 219 (.ref 35),Hd.de P "__doc__" 220 (.none)] 2}),
 (37,{cls:=.type "type",data:=.cls {name:="NoSpot",bases:=[.ref 24],mro:=[.ref 37,.ref 24,.type "ValueError",.type "Exception",.type "BaseException",.type "object"],ns:=36,qualname:="NoSpot"},slots:=#[some (.ref 28),none,some (.str "NoSpot" 207),some (.str "NoSpot" 215),some (.builtin "ValueError.__new__"),some (.bool Bool.true)]}),
 (48,{cls:=.type "dict",data:=.dict #[Hd.de P "__module__" 230 (.str "cellways.errors" 187),Hd.de P "__firstlineno__" 234 (.int 6 233),Hd.de P "__static_attributes__" 235 (.ref 47),Hd.de P "__doc__" 236 (.none)] 2}),
 (49,{cls:=.type "type",data:=.cls {name:="NoWay",bases:=[.ref 24],mro:=[.ref 49,.ref 24,.type "ValueError",.type "Exception",.type "BaseException",.type "object"],ns:=48,qualname:="NoWay"},slots:=#[some (.ref 40),none,some (.str "NoWay" 223),some (.str "NoWay" 231),some (.builtin "ValueError.__new__"),some (.bool Bool.true)]}),
 (60,{cls:=.type "dict",data:=.dict #[Hd.de P "__module__" 246 (.str "cellways.errors" 187),Hd.de P "__firstlineno__" 250 (.int 8 249),Hd.de P "__static_attributes__" 251 (.ref 59),Hd.de P "__doc__" 252 (.none)] 2}),
 (61,{cls:=.type "type",data:=.cls {name:="NoSign",bases:=[.ref 24],mro:=[.ref 61,.ref 24,.type "ValueError",.type "Exception",.type "BaseException",.type "object"],ns:=60,qualname:="NoSign"},slots:=#[some (.ref 52),none,some (.str "NoSign" 239),some (.str "NoSign" 247),some (.builtin "ValueError.__new__"),some (.bool Bool.true)]}),
 (72,{cls:=.type "dict",data:=.dict #[Hd.de P "__module__" 262 (.str "cellways.errors" 187),Hd.de P "__firstlineno__" 266 (.int 10 265),Hd.de P "__static_attributes__" 267 (.ref 71),Hd.de P "__doc__" 268 (.none)] 2}),
 (73,{cls:=.type "type",data:=.cls {name:="NoSize",bases:=[.ref 24],mro:=[.ref 73,.ref 24,.type "ValueError",.type "Exception",.type "BaseException",.type "object"],ns:=72,qualname:="NoSize"},slots:=#[some (.ref 64),none,some (.str "NoSize" 255),some (.str "NoSize" 263),some (.builtin "ValueError.__new__"),some (.bool Bool.true)]}),
 (81,Hd.co "is_whole" 281 17 1 76 (.ref 78) (.ref 79) 80 285),
 (82,Hd.fo "is_whole" (top 11) (.str "cellways.floors" 271) 81),
 (88,Hd.co "is_spot" 288 19 1 83 (.ref 85) (.ref 86) 87 292),
 (89,Hd.fo "is_spot" (top 12) (.str "cellways.floors" 271) 88),
 (95,Hd.co "is_on_floor" 295 21 2 90 (.ref 92) (.ref 93) 94 300),
 (96,Hd.fo "is_on_floor" (top 13) (.str "cellways.floors" 271) 95),
 (102,Hd.co "is_open" 303 23 2 97 (.ref 99) (.ref 100) 101 308),
 (103,Hd.fo "is_open" (top 14) (.str "cellways.floors" 271) 102),
 (109,Hd.co "need_open" 311 25 2 104 (.ref 106) (.ref 107) 108 316),
 (110,Hd.fo "need_open" (top 15) (.str "cellways.floors" 271) 109),
 (116,Hd.co "height_at" 319 28 2 111 (.ref 113) (.ref 114) 115 324),
 (117,Hd.fo "height_at" (top 16) (.str "cellways.floors" 271) 116),
 (123,Hd.co "open_spots_beside" 327 31 2 118 (.ref 120) (.ref 121) 122 335),
 (124,Hd.fo "open_spots_beside" (top 17) (.str "cellways.floors" 271) 123),
 (130,Hd.co "are_beside" 338 38 2 125 (.ref 127) (.ref 128) 129 343),
 (131,Hd.fo "are_beside" (top 18) (.str "cellways.floors" 271) 130),
 (137,Hd.co "has_open_corners" 346 40 3 132 (.ref 134) (.ref 135) 136 352),
 (138,Hd.fo "has_open_corners" (top 19) (.str "cellways.floors" 271) 137),
 (144,Hd.co "step_cost" 355 42 4 139 (.ref 141) (.ref 142) 143 365),
 (145,Hd.fo "step_cost" (top 20) (.str "cellways.floors" 271) 144),
 (151,Hd.co "steps_from" 368 53 3 146 (.ref 148) (.ref 149) 150 377),
 (152,Hd.fo "steps_from" (top 21) (.str "cellways.floors" 271) 151),
 (156,Hd.co "steps_to" 380 61 3 153 .none .none 155 383),
 (157,Hd.fo "steps_to" (top 22) (.str "cellways.floors" 271) 156),
 (163,Hd.co "spread" 388 64 2 158 (.ref 160) (.ref 161) 162 400),
 (164,Hd.fo "spread" (top 24) (.str "cellways.ways" 386) 163),
 (170,Hd.co "spread_to" 403 77 3 165 (.ref 167) (.ref 168) 169 412),
 (171,Hd.fo "spread_to" (top 25) (.str "cellways.ways" 386) 170),
 (177,Hd.co "traced" 415 81 2 172 (.ref 174) (.ref 175) 176 421),
 (178,Hd.fo "traced" (top 26) (.str "cellways.ways" 386) 177),
 (184,Hd.co "least_way" 424 86 4 179 (.ref 181) (.ref 182) 183 432),
 (185,Hd.fo "least_way" (top 27) (.str "cellways.ways" 386) 184),
 (191,Hd.co "need_size" 437 93 1 186 (.ref 188) (.ref 189) 190 441),
 (192,Hd.fo "need_size" (top 29) (.str "cellways.sizes" 435) 191),
 (196,Hd.co "rim_of" 444 96 2 193 .none .none 195 447),
 (197,Hd.fo "rim_of" (top 30) (.str "cellways.sizes" 435) 196),
 (201,Hd.co "clearance" 450 100 2 198 .none .none 200 453),
 (202,Hd.fo "clearance" (top 31) (.str "cellways.sizes" 435) 201),
 (208,Hd.co "shrunk_sign" 456 106 3 203 (.ref 205) (.ref 206) 207 463),
 (209,Hd.fo "shrunk_sign" (top 32) (.str "cellways.sizes" 435) 208),
 (213,Hd.co "shrunk" 466 111 2 210 .none .none 212 469),
 (214,Hd.fo "shrunk" (top 33) (.str "cellways.sizes" 435) 213),
 (220,Hd.co "great_way" 472 117 5 215 (.ref 217) (.ref 218) 219 480),
 (221,Hd.fo "great_way" (top 34) (.str "cellways.sizes" 435) 220),
 (227,Hd.co "_law_cell" 485 120 2 222 (.ref 224) (.ref 225) 226 490),
 (228,Hd.fo "_law_cell" (top 36) (.str "law_cellways_k70_whole_sizes" 483) 227),
 (234,Hd.co "_law_pick" 493 126 3 229 (.ref 231) (.ref 232) 233 500),
 (235,Hd.fo "_law_pick" (top 37) (.str "law_cellways_k70_whole_sizes" 483) 234),
 (241,Hd.co "_law_floor" 503 129 3 236 (.ref 238) (.ref 239) 240 518),
 (242,Hd.fo "_law_floor" (top 38) (.str "law_cellways_k70_whole_sizes" 483) 241),
 (248,Hd.co "_law_walker" 521 142 2 243 (.ref 245) (.ref 246) 247 526),
 (249,Hd.fo "_law_walker" (top 39) (.str "law_cellways_k70_whole_sizes" 483) 248),
 (253,Hd.co "_law_spots" 529 144 1 250 .none .none 252 532),
 (254,Hd.fo "_law_spots" (top 40) (.str "law_cellways_k70_whole_sizes" 483) 253),
 (260,Hd.co "_law_cost" 535 149 4 255 (.ref 257) (.ref 258) 259 544),
 (261,Hd.fo "_law_cost" (top 41) (.str "law_cellways_k70_whole_sizes" 483) 260),
 (267,Hd.co "_law_steps" 547 159 3 262 (.ref 264) (.ref 265) 266 558),
 (268,Hd.fo "_law_steps" (top 42) (.str "law_cellways_k70_whole_sizes" 483) 267),
 (272,Hd.co "_law_costs" 561 169 3 269 .none .none 271 564),
 (273,Hd.fo "_law_costs" (top 43) (.str "law_cellways_k70_whole_sizes" 483) 272),
 (282,Hd.co "_law_sum" 573 196 3 279 .none .none 281 576),
 (283,Hd.fo "_law_sum" (top 45) (.str "law_cellways_k70_whole_sizes" 483) 282),
 (289,Hd.co "_law_word" 579 207 1 284 (.ref 286) (.ref 287) 288 584),
 (290,Hd.fo "_law_word" (top 46) (.str "law_cellways_k70_whole_sizes" 483) 289),
 (296,Hd.co "_law_any_spot" 587 212 3 291 (.ref 293) (.ref 294) 295 593),
 (297,Hd.fo "_law_any_spot" (top 47) (.str "law_cellways_k70_whole_sizes" 483) 296),
 (303,Hd.co "_law_tried" 596 214 6 298 (.ref 300) (.ref 301) 302 608),
 (304,Hd.fo "_law_tried" (top 48) (.str "law_cellways_k70_whole_sizes" 483) 303),
 (308,Hd.co "_law_clear" 611 229 2 305 .none .none 307 614),
 (309,Hd.fo "_law_clear" (top 49) (.str "law_cellways_k70_whole_sizes" 483) 308),
 (313,Hd.co "_law_shrunk" 617 238 2 310 .none .none 312 620),
 (314,Hd.fo "_law_shrunk" (top 50) (.str "law_cellways_k70_whole_sizes" 483) 313),
 (318,Hd.co "law" 623 243 1 315 .none .none 317 626),
 (319,Hd.fo "law" (top 51) (.str "law_cellways_k70_whole_sizes" 483) 318)]
def ts:List (Addr×Str):=[(159,nu "spread"),(166,nu "spread_to")]
noncomputable def K2(P:Params):PySem.W.Frag:=K P++[(159,PySem.W.tabObj #[]),(166,PySem.W.tabObj #[])]
noncomputable def as:List Addr:=[2,3,4,23,24,36,37,48,49,60,61,72,73,81,82,88,89,95,96,102,103,109,110,116,117,123,124,130,131,137,138,144,145,151,152,156,157,163,164,170,171,177,178,184,185,191,192,196,197,201,202,208,209,213,214,220,221,227,228,234,235,241,242,248,249,253,254,260,261,267,268,272,273,282,283,289,290,296,297,303,304,308,309,313,314,318,319,159,166]
noncomputable def Γ:Pg:=⟨[("WALL",(.str "#")),("LONGEST",(.int 12)),("STRAIGHT_COST",(.int 2)),("SLANTING_COST",(.int 3))],["len","abs","max","min","int","str","list","tuple","all","isinstance","bool","range","enumerate","ValueError","dict"],["FloorError","NoSign","NoSize","NoSpot","NoWay"],[],["NoSize","NoSpot"],[],false⟩
def R0:d7:=[]
theorem pI:cq (Γ.at R0 false) "_law_cell" dg (top 36):=stM λ_ _ _ _ _ _=>Hd.ub λ_ _=>rfl
noncomputable def R1:d7:=⟨"_law_cell","_law_cell",dg,top 36,false⟩::R0
theorem qF:cq (Γ.at R1 false) "_law_pick" bI (top 37):=stM λ_ _ _ _ _ _=>Hd.Bv λ_ _ _=>rfl
noncomputable def R2:d7:=⟨"_law_pick","_law_pick",bI,top 37,false⟩::R1
theorem ng:cq (Γ.at R2 false) "_law_floor" cC (top 38):=stM λ_ _ _ _ _ _=>Hd.Bv λ_ _ _=>rfl
noncomputable def R3:d7:=⟨"_law_floor","_law_floor",cC,top 38,false⟩::R2
theorem mj:cq (Γ.at R3 false) "_law_walker" cJ (top 39):=stM λ_ _ _ _ _ _=>Hd.ub λ_ _=>rfl
noncomputable def R4:d7:=⟨"_law_walker","_law_walker",cJ,top 39,false⟩::R3
theorem ni:cq (Γ.at R4 false) "_law_spots" bz (top 40):=stM λ_ _ _ _ _ _=>Hd.Lz λ_=>rfl
noncomputable def R5:d7:=⟨"_law_spots","_law_spots",bz,top 40,false⟩::R4
theorem jX:cq (Γ.at R5 false) "_law_any_spot" bT (top 47):=stM λ_ _ _ _ _ _=>Hd.Bv λ_ _ _=>rfl
noncomputable def R6:d7:=⟨"_law_any_spot","_law_any_spot",bT,top 47,false⟩::R5
theorem nt:cq (Γ.at R6 false) "_law_clear" bU (top 49):=stM λ_ _ _ _ _ _=>Hd.ub λ_ _=>rfl
noncomputable def R7:d7:=⟨"_law_clear","_law_clear",bU,top 49,false⟩::R6
theorem k8:cq (Γ.at R7 false) "_law_shrunk" cH (top 50):=stM λ_ _ _ _ _ _=>Hd.ub λ_ _=>rfl
noncomputable def R8:d7:=⟨"_law_shrunk","_law_shrunk",cH,top 50,false⟩::R7
theorem pf:cq (Γ.at R8 false) "_law_word" df (top 46):=stM λ_ _ _ _ _ _=>Hd.Lz λ_=>rfl
noncomputable def R9:d7:=⟨"_law_word","_law_word",df,top 46,false⟩::R8
theorem r9:cq (Γ.at R9 false) "is_whole" dG (top 11):=stM λ_ _ _ _ _ _=>Hd.Lz λ_=>rfl
noncomputable def Ts:d7:=⟨"is_whole","is_whole",dG,top 11,false⟩::R9
theorem ve:cq (Γ.at Ts false) "is_spot" er (top 12):=stM λ_ _ _ _ _ _=>Hd.Lz λ_=>rfl
noncomputable def Ro:d7:=⟨"is_spot","is_spot",er,top 12,false⟩::Ts
theorem mC:cq (Γ.at Ro false) "is_on_floor" cI (top 13):=stM λ_ _ _ _ _ _=>Hd.ub λ_ _=>rfl
noncomputable def SW:d7:=⟨"is_on_floor","is_on_floor",cI,top 13,false⟩::Ro
theorem uO:cq (Γ.at SW false) "is_open" cF (top 14):=stM λ_ _ _ _ _ _=>Hd.ub λ_ _=>rfl
noncomputable def SO:d7:=⟨"is_open","is_open",cF,top 14,false⟩::SW
theorem pE:cq (Γ.at SO false) "need_open" aS (top 15):=stM λ_ _ _ _ _ _=>Hd.ub λ_ _=>rfl
noncomputable def Rr:d7:=⟨"need_open","need_open",aS,top 15,false⟩::SO
theorem yg:cq (Γ.at Rr false) "rim_of" fw (top 30):=stM λ_ _ _ _ _ _=>Hd.ub λ_ _=>rfl
noncomputable def Sb:d7:=⟨"rim_of","rim_of",fw,top 30,false⟩::Rr
theorem qk:cq (Γ.at Sb false) "clearance" bH (top 31):=stM λ_ _ _ _ _ _=>Hd.ub λ_ _=>rfl
noncomputable def Rp:d7:=⟨"clearance","clearance",bH,top 31,false⟩::Sb
theorem pR:cq (Γ.at Rp false) "need_size" bZ (top 29):=stM λ_ _ _ _ _ _=>Hd.Lz λ_=>rfl
noncomputable def Tn:d7:=⟨"need_size","need_size",bZ,top 29,false⟩::Rp
theorem mE:cq (Γ.at Tn false) "shrunk_sign" cG (top 32):=stM λ_ _ _ _ _ _=>Hd.Bv λ_ _ _=>rfl
noncomputable def S3:d7:=⟨"shrunk_sign","shrunk_sign",cG,top 32,false⟩::Tn
theorem xy:cq (Γ.at S3 false) "shrunk" cE (top 33):=stM λ_ _ _ _ _ _=>Hd.ub λ_ _=>rfl
noncomputable def Te:d7:=⟨"shrunk","shrunk",cE,top 33,false⟩::S3
theorem nq:cq (Γ.at Te false) "are_beside" cT (top 18):=stM λ_ _ _ _ _ _=>Hd.ub λ_ _=>rfl
noncomputable def Sk:d7:=⟨"are_beside","are_beside",cT,top 18,false⟩::Te
theorem qg:cq (Γ.at Sk false) "height_at" dc (top 16):=stM λ_ _ _ _ _ _=>Hd.ub λ_ _=>rfl
noncomputable def SU:d7:=⟨"height_at","height_at",dc,top 16,false⟩::Sk
theorem iq:cq (Γ.at SU false) "has_open_corners" bw (top 19):=stM λ_ _ _ _ _ _=>Hd.Bv λ_ _ _=>rfl
noncomputable def Sz:d7:=⟨"has_open_corners","has_open_corners",bw,top 19,false⟩::SU
theorem qd:cq (Γ.at Sz false) "step_cost" bC (top 20):=stM λ_ _ _ _ _ _=>Hd.Qh λ_ _ _ _=>rfl
noncomputable def Rm:d7:=⟨"step_cost","step_cost",bC,top 20,false⟩::Sz
theorem gW:cq (Γ.at Rm false) "open_spots_beside" bo (top 17):=stM λ_ _ _ _ _ _=>Hd.ub λ_ _=>rfl
noncomputable def Ta:d7:=⟨"open_spots_beside","open_spots_beside",bo,top 17,false⟩::Rm
theorem nK:cq (Γ.at Ta false) "steps_from" cR (top 21):=stM λ_ _ _ _ _ _=>Hd.Bv λ_ _ _=>rfl
noncomputable def TF:d7:=⟨"steps_from","steps_from",cR,top 21,false⟩::Ta
theorem qR:cq (Γ.at TF false) "steps_to" dE (top 22):=stM λ_ _ _ _ _ _=>Hd.Bv λ_ _ _=>rfl
noncomputable def Td:d7:=⟨"steps_to","steps_to",dE,top 22,false⟩::TF
theorem gh:cq (Γ.at Td true) "spread" bB (top 24):=stM λ_ _ _ _ _ _=>Hd.ub λ_ _=>rfl
noncomputable def Sn:d7:=⟨"spread@steps_to","spread",bB,top 24,true⟩::Td
theorem pq:cq (Γ.at Sn true) "spread_to" cB (top 25):=stM λ_ _ _ _ _ _=>Hd.Bv λ_ _ _=>rfl
noncomputable def RI:d7:=⟨"spread_to","spread_to",cB,top 25,true⟩::Sn
theorem yv:cq (Γ.at RI false) "traced" fE (top 26):=stM λ_ _ _ _ _ _=>Hd.ub λ_ _=>rfl
noncomputable def SA:d7:=⟨"traced","traced",fE,top 26,false⟩::RI
theorem pC:cq (Γ.at SA false) "least_way" bq (top 27):=stM λ_ _ _ _ _ _=>Hd.Qh λ_ _ _ _=>rfl
noncomputable def Sg:d7:=⟨"least_way","least_way",bq,top 27,false⟩::SA
theorem qj:cq (Γ.at Sg false) "great_way" bX (top 34):=stM λ_ _ _ _ _ _=>Hd.Vg λ_ _ _ _ _=>rfl
noncomputable def RK:d7:=⟨"great_way","great_way",bX,top 34,false⟩::Sg
theorem nv:cq (Γ.at RK false) "_law_tried" aJ (top 48):=stM λ_ _ _ _ _ _=>Hd.Vc λ_ _ _ _ _ _=>rfl
noncomputable def Rn:d7:=⟨"_law_tried","_law_tried",aJ,top 48,false⟩::RK
theorem oU:cq (Γ.at Rn false) "_law_cost" bV (top 41):=stM λ_ _ _ _ _ _=>Hd.Qh λ_ _ _ _=>rfl
noncomputable def S4:d7:=⟨"_law_cost","_law_cost",bV,top 41,false⟩::Rn
theorem nc:cq (Γ.at S4 false) "_law_steps" bA (top 42):=stM λ_ _ _ _ _ _=>Hd.Bv λ_ _ _=>rfl
noncomputable def SF:d7:=⟨"_law_steps","_law_steps",bA,top 42,false⟩::S4
theorem nJ:cq (Γ.at SF false) "_law_costs" bY (top 43):=stM λ_ _ _ _ _ _=>Hd.Bv λ_ _ _=>rfl
noncomputable def Rz:d7:=⟨"_law_costs","_law_costs",bY,top 43,false⟩::SF
theorem rZ:cq (Γ.at Rz false) "_law_sum" cM (top 45):=stM λ_ _ _ _ _ _=>Hd.Bv λ_ _ _=>rfl
noncomputable def OJ:d7:=⟨"_law_sum","_law_sum",cM,top 45,false⟩::Rz
theorem Lk:cq (Γ.at OJ false) "law" j8 (top 51):=stM λ_ _ _ _ _ _=>Hd.Lz λ_=>rfl
theorem nY(P:Params):gL (K P) 163 159:=⟨Hd.co "spread" 388 64 2 158 (.ref 160) (.ref 161) 162 400,_,_,_,_,_,_,_,_,by kernel_rfl,rfl,rfl,rfl,rfl,rfl,rfl,rfl,rfl,by decide⟩
theorem je(P:Params):gL (K P) 170 166:=⟨Hd.co "spread_to" 403 77 3 165 (.ref 167) (.ref 168) 169 412,_,_,_,_,_,_,_,_,by kernel_rfl,rfl,rfl,rfl,rfl,rfl,rfl,rfl,rfl,by decide⟩
theorem MC(ns:List Int)(hl:ns.length<=63):aq (den (tab OJ)) j8 [.lst (ns.map .int)]=.ok (.bl true):=LY ns hl
theorem QP(P:Params):AllK (K P) ts Γ OJ:=
 Hd.ac (Hd.ent 283 282 (.str "law_cellways_k70_whole_sizes" 483)) rZ <| Hd.ac (Hd.ent 273 272 (.str "law_cellways_k70_whole_sizes" 483)) nJ <| Hd.ac (Hd.ent 268 267 (.str "law_cellways_k70_whole_sizes" 483)) nc <| Hd.ac (Hd.ent 261 260 (.str "law_cellways_k70_whole_sizes" 483)) oU <| Hd.ac (Hd.ent 304 303 (.str "law_cellways_k70_whole_sizes" 483)) nv <| Hd.ac (Hd.ent 221 220 (.str "cellways.sizes" 435)) qj <| Hd.ac (Hd.ent 185 184 (.str "cellways.ways" 386)) pC <| Hd.ac (Hd.ent 178 177 (.str "cellways.ways" 386)) yv <| Hd.ac (Hd.Ml 171 170 166 (.str "cellways.ways" 386) (je P) (by decide+kernel) (by decide+kernel)) pq <| Hd.ac (Hd.Ml 164 163 159 (.str "cellways.ways" 386) (nY P) (by decide+kernel) (by decide+kernel)) gh <| Hd.ac (Hd.ent 157 156 (.str "cellways.floors" 271)) qR <| Hd.ac (Hd.ent 152 151 (.str "cellways.floors" 271)) nK <| Hd.ac (Hd.ent 124 123 (.str "cellways.floors" 271)) gW <| Hd.ac (Hd.ent 145 144 (.str "cellways.floors" 271)) qd <| Hd.ac (Hd.ent 138 137 (.str "cellways.floors" 271)) iq <| Hd.ac (Hd.ent 117 116 (.str "cellways.floors" 271)) qg <| Hd.ac (Hd.ent 131 130 (.str "cellways.floors" 271)) nq <| Hd.ac (Hd.ent 214 213 (.str "cellways.sizes" 435)) xy <| Hd.ac (Hd.ent 209 208 (.str "cellways.sizes" 435)) mE <| Hd.ac (Hd.ent 192 191 (.str "cellways.sizes" 435)) pR <| Hd.ac (Hd.ent 202 201 (.str "cellways.sizes" 435)) qk <| Hd.ac (Hd.ent 197 196 (.str "cellways.sizes" 435)) yg <| Hd.ac (Hd.ent 110 109 (.str "cellways.floors" 271)) pE <| Hd.ac (Hd.ent 103 102 (.str "cellways.floors" 271)) uO <| Hd.ac (Hd.ent 96 95 (.str "cellways.floors" 271)) mC <| Hd.ac (Hd.ent 89 88 (.str "cellways.floors" 271)) ve <| Hd.ac (Hd.ent 82 81 (.str "cellways.floors" 271)) r9 <| Hd.ac (Hd.ent 290 289 (.str "law_cellways_k70_whole_sizes" 483)) pf <| Hd.ac (Hd.ent 314 313 (.str "law_cellways_k70_whole_sizes" 483)) k8 <| Hd.ac (Hd.ent 309 308 (.str "law_cellways_k70_whole_sizes" 483)) nt <| Hd.ac (Hd.ent 297 296 (.str "law_cellways_k70_whole_sizes" 483)) jX <| Hd.ac (Hd.ent 254 253 (.str "law_cellways_k70_whole_sizes" 483)) ni <| Hd.ac (Hd.ent 249 248 (.str "law_cellways_k70_whole_sizes" 483)) mj <| Hd.ac (Hd.ent 242 241 (.str "law_cellways_k70_whole_sizes" 483)) ng <| Hd.ac (Hd.ent 235 234 (.str "law_cellways_k70_whole_sizes" 483)) qF <| Hd.ac (Hd.ent 228 227 (.str "law_cellways_k70_whole_sizes" 483)) pI trivial
structure Jy(K:PySem.W.Frag)(d:Str)(D:Addr):Prop where
 e:PySem.W.nsIn K mainGlobals d=some (some (.ref D))
 xc:lY K D
 vt:PySem.W.kitOne K (.ref D) (.type "ValueError")=some true
 ex:PySem.W.excIn K D zG "ValueError.__new__"=true
theorem MQ{K:PySem.W.Frag}{d:Str}{D:Addr}(e:PySem.W.nsIn K mainGlobals d=some (some (.ref D)):=by kernel_rfl)(i:PySem.W.isClsIn K D=true:=by kernel_rfl)(v:PySem.W.subIn K (.ref D) (.type "ValueError")=some true:=by kernel_rfl)(ga:PySem.W.findIn K (.ref D) "__getattribute__"=some (some (.builtin "BaseException.__getattribute__")):=by kernel_rfl)(hk:PySem.W.findIn K (.ref D) "__getattr__"=some none:=by kernel_rfl)
 (cl:PySem.W.findIn K (.ref D) "__class__"=some (some (.builtin "object.__class__")):=by kernel_rfl) (mo:PySem.W.mroIn K D (.type "object")=some true:=by kernel_rfl) (mb:PySem.W.mroIn K D (.type "BaseException")=some true:=by kernel_rfl) (ex:PySem.W.excIn K D zG "ValueError.__new__"=true:=by kernel_rfl):Jy K d D:=
 ⟨e,⟨ga,hk,cl,mo,mb,i⟩,BC (by decide+kernel) v,ex⟩
theorem Qt(P:Params){mg:Str->Option Value}{h:Heap}(X:(K P).In h)(G:h.Ns mainGlobals mg):tQ (K P) mg Γ ⟨K P,mg,["NoSize","NoSpot"],ts⟩:=by
 have jw:∀{x:Str} {u:Value},PySem.W.nsIn (K P) mainGlobals x=some (some u)->mg x=some u:=λa=>PySem.W.mg_of X G a
 have uU:∀{x:Str},PySem.W.nsIn (K P) mainGlobals x=some none->mg x=none:=λa=>PySem.W.mg_none_of X G a
 have dn:Jy (K P) "NoSize" 73:=MQ
 have dw:Jy (K P) "NoSpot" 37:=MQ
 have d6:PySem.W.nsIn (K P) mainGlobals "FloorError"=some (some (.ref 24)):=by kernel_rfl
 have mR:PySem.W.nsIn (K P) mainGlobals "NoSign"=some (some (.ref 61)):=by kernel_rfl
 have qr:PySem.W.nsIn (K P) mainGlobals "NoWay"=some (some (.ref 49)):=by kernel_rfl
 refine⟨rfl,rfl,λq hq=>?_,λg hg=>?_,by decide+kernel,λc hc=>?_,λd hd D hD=>?_,λc hc=>?_,λc hc=>?_,λ_ c D hc hD T hT=>?_,λ_=>⟨4,⟨.type "module",some builtinsNs,.plain,#[]⟩,jw (by kernel_rfl),by decide,by decide,by kernel_rfl,rfl,rfl,rfl⟩⟩
 ·simp only [Γ,List.mem_cons,List.not_mem_nil,or_false] at hq;rcases hq with rfl|rfl|rfl|rfl
  ·exact⟨.str "#" 273,.str "#",jw (by kernel_rfl),⟨_,rfl⟩,λG=>.s⟩
  ·exact⟨.int 12 275,.int 12,jw (by kernel_rfl),⟨_,rfl⟩,λG=>.i⟩
  ·exact⟨.int 2 277,.int 2,jw (by kernel_rfl),⟨_,rfl⟩,λG=>.i⟩
  ·exact⟨.int 3 279,.int 3,jw (by kernel_rfl),⟨_,rfl⟩,λG=>.i⟩
 ·simp only [Γ,List.mem_cons,List.not_mem_nil,or_false] at hg;rcases hg with rfl|rfl|rfl|rfl|rfl|rfl|rfl|rfl|rfl|rfl|rfl|rfl|rfl|rfl|rfl
  ·exact uU (by kernel_rfl)
  ·exact uU (by kernel_rfl)
  ·exact uU (by kernel_rfl)
  ·exact uU (by kernel_rfl)
  ·exact uU (by kernel_rfl)
  ·exact uU (by kernel_rfl)
  ·exact uU (by kernel_rfl)
  ·exact uU (by kernel_rfl)
  ·exact uU (by kernel_rfl)
  ·exact uU (by kernel_rfl)
  ·exact uU (by kernel_rfl)
  ·exact uU (by kernel_rfl)
  ·exact uU (by kernel_rfl)
  ·exact uU (by kernel_rfl)
  ·exact uU (by kernel_rfl)
 ·simp only [Γ,List.mem_cons,List.not_mem_nil,or_false] at hc;rcases hc with rfl|rfl|rfl|rfl|rfl
  ·exact⟨_,jw d6⟩
  ·exact⟨_,jw mR⟩
  ·exact⟨_,jw dn.e⟩
  ·exact⟨_,jw dw.e⟩
  ·exact⟨_,jw qr⟩
 ·simp only [List.mem_cons,List.not_mem_nil,or_false] at hd;rcases hd with rfl|rfl
  ·cases(jw dn.e).symm.trans hD;refine⟨dn.xc,λc hc C hC=>?_,dn.vt⟩
   simp only [Γ,List.mem_cons,List.not_mem_nil,or_false] at hc;rcases hc with rfl|rfl|rfl|rfl|rfl
   ·cases(jw d6).symm.trans hC;exact c7 (by kernel_rfl) (by kernel_rfl) (by kernel_rfl) (.inl rfl)
   ·cases(jw mR).symm.trans hC;exact c7 (by kernel_rfl) (by kernel_rfl) (by kernel_rfl) (.inr (by decide))
   ·cases(jw dn.e).symm.trans hC;exact c7 (by kernel_rfl) (by kernel_rfl) (by kernel_rfl) (.inl rfl)
   ·cases(jw dw.e).symm.trans hC;exact c7 (by kernel_rfl) (by kernel_rfl) (by kernel_rfl) (.inr (by decide))
   ·cases(jw qr).symm.trans hC;exact c7 (by kernel_rfl) (by kernel_rfl) (by kernel_rfl) (.inr (by decide))
  ·cases(jw dw.e).symm.trans hD;refine⟨dw.xc,λc hc C hC=>?_,dw.vt⟩
   simp only [Γ,List.mem_cons,List.not_mem_nil,or_false] at hc;rcases hc with rfl|rfl|rfl|rfl|rfl
   ·cases(jw d6).symm.trans hC;exact c7 (by kernel_rfl) (by kernel_rfl) (by kernel_rfl) (.inl rfl)
   ·cases(jw mR).symm.trans hC;exact c7 (by kernel_rfl) (by kernel_rfl) (by kernel_rfl) (.inr (by decide))
   ·cases(jw dn.e).symm.trans hC;exact c7 (by kernel_rfl) (by kernel_rfl) (by kernel_rfl) (.inr (by decide))
   ·cases(jw dw.e).symm.trans hC;exact c7 (by kernel_rfl) (by kernel_rfl) (by kernel_rfl) (.inl rfl)
   ·cases(jw qr).symm.trans hC;exact c7 (by kernel_rfl) (by kernel_rfl) (by kernel_rfl) (.inr (by decide))
 ·simp only [Γ,List.contains_iff_mem,List.mem_cons,List.not_mem_nil,or_false] at hc⊢;exact hc
 ·simp only [Γ,List.contains_iff_mem,List.mem_cons,List.not_mem_nil,or_false] at hc;rcases hc with rfl|rfl
  ·exact⟨_,jw dn.e,dn.ex⟩
  ·exact⟨_,jw dw.e,dw.ex⟩
 ·simp only [List.mem_cons,List.not_mem_nil,or_false] at hc;cases(jw d6).symm.trans hT;rcases hc with rfl|rfl
  ·cases(jw dn.e).symm.trans hD;exact rK (by kernel_rfl) (by kernel_rfl) (by kernel_rfl) (by kernel_rfl)
  ·cases(jw dw.e).symm.trans hD;exact rK (by kernel_rfl) (by kernel_rfl) (by kernel_rfl) (by kernel_rfl)
theorem hY{P:Params}{h:Heap}(X:(K2 P).In h):(K P).In h/\∀p∈ts.map (·.1),h.get? p=some (PySem.W.tabObj #[]):=⟨λb o e=>X b o (Hd.Cy e),λp hp=>by
 simp only [ts,zzF,List.map_nil,List.mem_cons,List.not_mem_nil,or_false] at hp;rcases hp with rfl|rfl
 ·exact X _ _ (by kernel_rfl)
 ·exact X _ _ (by kernel_rfl)
⟩
theorem hC(P:Params):∀p∈ts.map (·.1),(∃c,gL (K P) c p)/\(K P).lookup p=none:=λp hp=>by
 simp only [ts,zzF,List.map_nil,List.mem_cons,List.not_mem_nil,or_false] at hp;rcases hp with rfl|rfl
 ·exact⟨⟨_,nY P⟩,by kernel_rfl⟩
 ·exact⟨⟨_,je P⟩,by kernel_rfl⟩
noncomputable def keep:List Nat:=[1,2,3,4,5,7,8,9,10,11,12,13,14,15,16,17,18,19,20,21,22,24,25,26,27,29,30,31,32,33,34,36,37,38,39,40,41,42,43,44,45,46,47,48,49,50,51]
theorem ka:∀P,as=(K2 P).map (·.1):=λ_=>by kernel_rfl
theorem left:PySem.W.LeftO lw.row.prog (PySem.W.view lw.row.prog keep) [] (λs=>PySem.W.xlAt (PySem.W.view lw.row.prog keep) [] s&&PySem.W.recOk lw.row.toRowW.records s) (PySem.W.kHook K2 as ka).obs (PySem.W.kHook K2 as ka).val 4676:=by
 refine Hd.DK (T₀:=λP=>Hd.treeOf (PySem.W.boot_heap P).objs.toList) (m₀:=11) (life:={}) (ann:=some (.ref 6)) (M:=4626) (by kernel_rfl) (by kernel_rfl) (λs=>by kernel_rfl) Hd.Me Hd.NH (by kernel_rfl) λw os=>?_
 rw [PySem.W.Fast.te10156331382660048174,PySem.W.Fast.te11892475500146522536,PySem.W.Fast.te14364793385576792824,PySem.W.Fast.te6613529449190102663,PySem.W.Fast.te4187177175401517315,PySem.W.Fast.te5923862056798008813]
 kernel_rfl
end K70
open PySem PySem.W PyProof.Rows
set_option maxRecDepth 100000 in
set_option maxHeartbeats 0 in
theorem PySem.Challenge.cw_cellways_k70_whole_sizes_holds : PySem.Challenge.rw_cellways_k70_whole_sizes.Holds := by
 refine Hd.holds (d:=⟨"law",L2.dv (K70.top 51),L2.cV (K70.top 51),L2.ba (K70.top 51),Hd.PY (K70.top 51)⟩) (by kernel_rfl) K70.ka K70.left (by kernel_rfl) (by kernel_rfl) (by kernel_rfl) (by kernel_rfl) ⟨rfl,rfl,rfl,rfl,rfl,by decide+kernel⟩ ?hw ?hc
 case hw=>w_witness2
 case hc=>exact Ci.walk (l:=PySem.Challenge.rw_cellways_k70_whole_sizes) K70.OJ K70.Γ "_law_script" K70.j8 ["NoSize","NoSpot"] K70.ts (K70.top 51) rfl rfl rfl rfl rfl ⟨rfl,by decide,by decide⟩ (λw h Y=>K70.hY (PySem.W.kIn_of Y)) (λw=>K70.hC w.params) (λw mg h KX G=>K70.Qt _ KX G) (λw=>Hd.ent 319 318 (.str "law_cellways_k70_whole_sizes" 483)) K70.Lk (λw=>K70.QP _) K70.MC
#print axioms PySem.Challenge.cw_cellways_k70_whole_sizes_holds
