import PyProof.Rows.All
import Wide.All
import OpenK.AllK
import Wide.FinOn
import Lean
import PyProof.EqAt
import PyProof.EqKinds
import PyProof.TupleCall
import PySem.Challenge.RW_cellways_k22_whole_turned_about
set_option Elab.async false
set_option linter.all false
set_option genSizeOf false
set_option genSizeOfSpec false
set_option bootstrap.genMatcherCode false
set_option compiler.extract_closed false
set_option compiler.reuse false
set_option maxRecDepth 100000
abbrev zz8:=PySem.W.Frag
local macro_rules | `(zz9 $x) => `(($x).heap.objs.size)
local macro_rules | `(tactic| simp! [$x,*] $[$l:location]?) => `(tactic| simp only [$x,*] $[$l]?)
theorem zzf:¬false=true:=Bool.false_ne_true
theorem zza(a b:Bool):((a&&b)=true)=(a=true/\b=true):=Bool.and_eq_true a b
theorem zzg.{u}{α:Type u}{l:List α}{i:Nat}(h:i<l.length):l[i]?=some l[i]:=List.getElem?_eq_getElem h
theorem zzl.{u,v}{α:Type u}{β:Type v}{l:List α}(f:α->β):(l.map f).length=l.length:=List.length_map f
def zzA:=@PySem.wpAny_bind
def zzB:=@PySem.Heap.get?_push_of_some
def zzC:=@List.size_toArray
def zzD:=@List.mem_of_getElem?
def zzE:=@Nat.le_refl
def zzF:=@List.map_cons
def zzG:=@PySem.wpAny_pure
def zzH:=@List.getElem?_eq_some_iff
def zzI:=@List.mem_cons_of_mem
def zzJ:=@Option.map_eq_some_iff
def zzK:=@List.getD_eq_getElem?_getD
def zzL:=@List.length_cons
def zzM:=@List.length_append
def zzN:=@decide_eq_true_eq
def zzO:=@PySem.Heap.lt_size
def zzP:=@List.mem_cons_self
def zzQ:=@List.getElem?_map
def zzR:=@List.mem_append_right
def zzS:=@List.getElem?_set_ne
def zzT:=@List.all_eq_true
def zzU:=@Nat.le_trans
def zzV:=@Nat.lt_of_le_of_lt
def zzW:=@Nat.lt_of_lt_of_le
def zzX:=@PySem.Heap.get?_push_size
def zzY:=@of_decide_eq_true
def zzZ:=@Option.bind_eq_some_iff
def zzb:=@Nat.ne_of_lt
def zzc:=@List.mem_append_left
def zzd:=@Array.length_toList
def zze:=@Bool.false_eq_true
def zzh:=@decide_eq_true
def zzi:=@List.mem_singleton
def zzk:=@False.elim
def zzm:=@List.mem_cons
def zzn:=@List.contains_iff_mem
def zzo:=@List.getElem?_set_self
def zzp:=@Option.isSome_iff_exists
def zzq:=@Option.some.inj
def zzr:=@List.getElem?_append_left
def zzs:=@List.getElem?_append_right
def zzt:=@Bool.or_eq_true
def zzu:=@PySem.Heap.SameBut.update
def zzw:=@Int.eq_ofNat_of_zero_le
def zzx:=@List.mem_map
def zzy:=@beq_iff_eq
def zz0:=@decide_eq_false
def zz1:=@List.mem_filterMap
def zz3:=@List.filter_cons
def zz4:=@Int.toNat_natCast
def zz5:=@List.lookup_cons
def zz6:=@List.append_nil
def zz7:=@PySem.Around.under_plainId
namespace L2
open PySem PySem.Spec PyProof.Rows
abbrev Key:=Sum Int Str
noncomputable def kT:Key->Value->Bool
 |.inl k,v=>Value.isInt k v
 |.inr x,v=>Value.isStrOf x v
noncomputable def NO(w:World):Key->Int
 |.inl k=>hashInt k
 |.inr x=>hashStr w x
theorem bD:∀{k:Key} {v:Value},kT k v=true->(∃i t,k=Sum.inl i/\v=Value.int i t)\/(∃x t,k=Sum.inr x/\v=Value.str x t)
 |.inl i,v,h=>by
  obtain⟨t,e⟩:=Value.isInt_shape (k:=i) (v:=v) h
  exact .inl ⟨i,t,rfl,e⟩
 |.inr x,v,h=>by
  obtain⟨t,e⟩:=Value.isStrOf_shape (x:=x) (v:=v) h
  exact .inr ⟨x,t,rfl,e⟩
def wO(i:Int)(t:Tok):kT (.inl i) (.int i t)=true:=by simp [kT,Value.isInt]
def wQ(x:Str)(t:Tok):kT (.inr x) (.str x t)=true:=by simp [kT,Value.isStrOf]
def G9(a b:Int):decide ((Sum.inl a:Key)=Sum.inl b)=(a==b):=by
 by_cases e:a=b
 ·subst e;simp
 ·have h:¬(Sum.inl a:Key)=Sum.inl b:=λq=>e (Sum.inl.inj q)
  rw [zz0 h];exact(beq_eq_false_iff_ne.mpr e).symm
def Hc(a b:Str):decide ((Sum.inr a:Key)=Sum.inr b)=decide (a=b):=by
 by_cases e:a=b
 ·subst e;simp
 ·have h:¬(Sum.inr a:Key)=Sum.inr b:=λq=>e (Sum.inr.inj q)
  rw [zz0 h,zz0 e]
def Ha(a:Int)(b:Str):decide ((Sum.inl a:Key)=Sum.inr b)=false:=zz0 (λq=>nomatch q)
def Hb(a:Str)(b:Int):decide ((Sum.inr a:Key)=Sum.inl b)=false:=zz0 (λq=>nomatch q)
noncomputable def bu(prog:Program)(w:World):PySem.KeyKind prog w Key where
 is:=kT
 hash:=NO w
 inj:=λv a b ha hb=>by
  rcases bD ha with⟨i,t,rfl,rfl⟩|⟨x,t,rfl,rfl⟩
  ·rcases bD hb with⟨j,u,rfl,e⟩|⟨y,u,rfl,e⟩
   ·injection e with e1 _;rw [e1]
   ·exact nomatch e
  ·rcases bD hb with⟨j,u,rfl,e⟩|⟨y,u,rfl,e⟩
   ·exact nomatch e
   ·injection e with e1 _;rw [e1]
 byValue:=λk v h=>by
  rcases bD h with⟨i,t,rfl,rfl⟩|⟨x,t,rfl,rfl⟩<;>rfl
 pyHash:=λhv h=>by
  rcases bD hv with⟨i,t,rfl,rfl⟩|⟨x,t,rfl,rfl⟩
  ·exact wpAny_pyHash_int h
  ·exact wpAny_pyHash_str h
 eqBool:=λhu hv h=>by
  rcases bD hu with⟨i,t,rfl,rfl⟩|⟨x,t,rfl,rfl⟩
  ·rcases bD hv with⟨j,u,rfl,rfl⟩|⟨y,u,rfl,rfl⟩
   ·rw [G9] at h;exact wpAny_eqBool_int h
   ·rw [Ha] at h;exact SeqAt.EqAt.int_str i t y u _ _ _ _ h
  ·rcases bD hv with⟨j,u,rfl,rfl⟩|⟨y,u,rfl,rfl⟩
   ·rw [Hb] at h;exact SeqAt.EqAt.str_int x t j u _ _ _ _ h
   ·rw [Hc] at h;exact wpAny_eqBool_str h
 «strs»:=λk x t v h=>by
  rcases bD h with⟨i,u,rfl,e⟩|⟨y,u,rfl,e⟩
  ·exact nomatch e
  ·injection e with e1 _
   subst e1;cases v<;>rfl
def qD(prog:Program)(w:World)(i:Int)(t:Tok):(bu prog w).is (.inl i) (.int i t)=true:=wO i t
def qE(prog:Program)(w:World)(x:Str)(t:Tok):(bu prog w).is (.inr x) (.str x t)=true:=wQ x t
inductive V where
 |aM|bl (b:Bool)|int (i:Int)|str (x:Str)|MU (b:Array UInt8)|M6 (b:UInt64)|ref (a:Addr)|ty (n:String)
 deriving DecidableEq
def RelV:V->Value->Prop
 |.aM,u=>u=Value.none
 |.bl b,u=>u=Value.bool b
 |.int i,u=>∃t,u=Value.int i t
 |.str x,u=>∃t,u=Value.str x t
 |.MU b,u=>∃t,u=Value.bytes b t
 |.M6 b,u=>∃t,u=Value.float b t
 |.ref a,u=>u=Value.ref a
 |.ty n,u=>u=Value.type n
abbrev Vals:List V->List Value->Prop:=Paired RelV
def Vals.length{xs:List V}{us:List Value}(r:Vals xs us):xs.length=us.length:=Paired.length r
theorem Vals.get:∀{xs:List V} {us:List Value} {i:Nat} {x:V},Vals xs us->xs[i]?=some x->∃u,us[i]?=some u/\RelV x u
 |_,_,_,_,.nil,e=>by simp at e
 |_,_,0,_,.cons r _,e=>by simp at e;subst e;exact⟨_,rfl,r⟩
 |_,_,i+1,x,.cons _ t,e=>by
  obtain⟨u,h1,h2⟩:=Vals.get (i:=i) (x:=x) t (by simpa using e)
  exact⟨u,by simpa using h1,h2⟩
theorem Vals.append:∀{xs ys:List V} {us ws:List Value},Vals xs us->Vals ys ws->Vals (xs++ys) (us++ws)
 |_,_,_,_,.nil,s=>s
 |_,_,_,_,.cons r t,s=>.cons r (Vals.append t s)
theorem Vals.take:∀{xs:List V} {us:List Value} (n:Nat),Vals xs us->Vals (xs.take n) (us.take n)
 |_,_,0,_=>.nil
 |_,_,_+1,.nil=>.nil
 |_,_,n+1,.cons r t=>.cons r (Vals.take n t)
theorem Vals.drop:∀{xs:List V} {us:List Value} (n:Nat),Vals xs us->Vals (xs.drop n) (us.drop n)
 |_,_,0,r=>r
 |_,_,_+1,.nil=>.nil
 |_,_,n+1,.cons _ t=>Vals.drop n t
def jr:Option V->Option Value->Prop
 |some v,some u=>RelV v u
 |none,none=>True
 |_,_=>False
def KV{κ:Type}:List (κ×V)->List (κ×Value)->Prop:=Paired λ(p:κ×V) (q:κ×Value)=>p.1=q.1/\RelV p.2 q.2
noncomputable def kV:Key->V
 |.inl i=>.int i
 |.inr x=>.str x
inductive bg where
 |k (x:Key)|n|t (ks:List Key)
deriving DecidableEq
section
variable{P:Program}{w:World}
def bg.is(P:Program)(w:World)(h:Heap):bg->Value->Prop
 |.k x,v=>(bu P w).is x v=true
 |.n,v=>v=.none
 |.t ks,v=>∃b,v=.ref b/\IsTupleKey (bu P w) h ks b
noncomputable def bg.hash(P:Program)(w:World):bg->Int
 |.k x=>(bu P w).hash x
 |.n=>0xFCA86420
 |.t ks=>tupleKeyHash (bu P w) ks
noncomputable def bg.dr:bg->Nat
 |.k _=>1
 |.n=>1
 |.t ks=>ks.length+1
noncomputable def wc:List bg->Nat
 |[]=>0
 |x::r=>x.dr+wc r
theorem kK:∀l m:List bg,wc (l++m)=wc l+wc m
 |[],m=>(Nat.zero_add _).symm
 |x::l,m=>by
  show x.dr+wc (l++m)=x.dr+wc l+wc m
  rw [kK l m,Nat.add_assoc]
def jq(P:Program)(w:World)(h:Heap)(k:List bg)(a:Addr):Prop:=∃o items n,h.get? a=some o/\o.cls=.type "tuple"/\o.data=.seq items n/\Paired (bg.is P w h) k items.toList
def cT{x:Key}{v:Value}(h:(bu P w).is x v=true):(∃i t,x=.inl i/\v=.int i t)\/∃z t,x=.inr z/\v=.str z t:=by
 rcases bD (show kT x v=true from h) with⟨i,t,rfl,rfl⟩|⟨z,t,rfl,rfl⟩
 ·exact .inl ⟨i,t,rfl,rfl⟩
 ·exact .inr ⟨z,t,rfl,rfl⟩
theorem bg.inj{h:Heap}{v:Value}:∀{x y:bg},x.is P w h v->y.is P w h v->x=y
 |.k x,.k y,a,b=>congrArg _ ((bu P w).inj _ _ _ a b)
 |.k x,.n,a,b=>by
  cases(b:v=.none);rcases cT a with⟨_,_,_,e⟩|⟨_,_,_,e⟩<;>cases e
 |.k x,.t ks,a,b=>by
  obtain⟨_,rfl,_⟩:=b
  rcases cT a with⟨_,_,_,e⟩|⟨_,_,_,e⟩<;>cases e
 |.n,.k y,a,b=>by
  cases(a:v=.none);rcases cT b with⟨_,_,_,e⟩|⟨_,_,_,e⟩<;>cases e
 |.n,.n,_,_=>rfl
 |.n,.t ks,a,b=>by
  obtain⟨_,rfl,_⟩:=b
  cases(a:Value.ref _=.none)
 |.t ks,.k y,a,b=>by
  obtain⟨_,rfl,_⟩:=a
  rcases cT b with⟨_,_,_,e⟩|⟨_,_,_,e⟩<;>cases e
 |.t ks,.n,a,b=>by
  obtain⟨_,rfl,_⟩:=a
  cases(b:Value.ref _=.none)
 |.t ks,.t ls,a,b=>by
  obtain⟨c,rfl,a⟩:=a
  obtain⟨d,e,b⟩:=b
  cases e;exact congrArg _ (a.inj b)
theorem iN{h:Heap}:∀{x y:List bg} {vs:List Value},Paired (bg.is P w h) x vs->Paired (bg.is P w h) y vs->x=y
 |_,_,_,.nil,.nil=>rfl
 |_,_,_,.cons a l,.cons b m=>by rw [bg.inj a b,iN l m]
theorem bg.keeps{h h':Heap}{d:Addr}{o:Obj}{es:Array DictEntry}{ep:Nat}(ho:h.get? d=some o)(hd:o.data=.dict es ep)(hs:Heap.SameBut d h h'):∀{x:bg} {v:Value},x.is P w h v->x.is P w h' v
 |.k _,_,a=>a
 |.n,_,a=>a
 |.t _,_,⟨b,e,a⟩=>⟨b,e,a.keeps ho hd hs⟩
theorem nk{h h':Heap}{d:Addr}{o:Obj}{es:Array DictEntry}{ep:Nat}(ho:h.get? d=some o)(hd:o.data=.dict es ep)(hs:Heap.SameBut d h h'):∀{l:List bg} {vs:List Value},Paired (bg.is P w h) l vs->Paired (bg.is P w h') l vs
 |_,_,.nil=>.nil
 |_,_,.cons a t=>.cons (bg.keeps ho hd hs a) (nk ho hd hs t)
variable{A:Around}{E:Value->Shared->Prop}{s:Shared}
def iT{Q:Int->Shared->Prop}(h:Q 0xFCA86420 {s with toks:=s.toks+1}):wpAny (model P w) A (pyHash .none) Q E s:=by
 have hT:=typeIs_none s
 unfold pyHash;have hv:[Value.none].any Value.onHeap=false:=rfl
 refine zzA ?_;rw [cRoomFor,if_neg (by rw [hv];exact zzf)];refine zzG ?_;refine zzA (wpAny_specialOf hT F.slot_NoneType_hash.lookup ?_);show wpAny _ _ (if(some (Value.builtin "NoneType.__hash__")==some Value.none)=true then _ else _) Q E s;rw [if_neg (by rw [beq_builtin_none];exact zzf)];refine zzA (wpAny_specialOf hT F.slot_NoneType_hash.lookup ?_);show wpAny _ _ (callSpecialIfBoundUnlessNone? .none "__hash__" _>>=_) Q E s;refine zzA (wpAny_callSpecialIfBoundUnlessNone?_slot hT F.slot_NoneType_hash (wpAny_call_entry F.slot_NoneType_hash hT F.entry_NoneType_hash
  (show wpAny _ _ (do ret (<-mkInt 0xFCA86420)) _ _ s from wpAny_ret_mkInt ?_) (F.args_NoneType_hash_1 _)))
 show wpAny _ _ (if(decide (-(2:Int)^63<=0xFCA86420)&&decide ((0xFCA86420:Int)<2^63))=true then _ else _) Q E _
 rw [if_pos (by decide)];exact zzG h
def bg.pyHash(hu:A.units<cLine){x:bg}{v:Value}{Q:Int->Shared->Prop}(hx:x.is P w s.heap v)(h:Q (x.hash P w) {s with toks:=s.toks+x.dr}):wpAny (model P w) A (PySem.pyHash v) Q E s:=by
 cases x with
 |k x=>exact(bu P w).pyHash hx h
 |n=>
  cases(hx:v=.none);exact iT h
 |t ks=>
  obtain⟨b,rfl,hb⟩:=hx
  exact wpAny_pyHash_tuple hu hb h
noncomputable def sA(P:Program)(w:World)(k:List bg):Int:=reduceHash (Builtin.Tuple.tupleHashOf (k.map (bg.hash P w)))
theorem jq.typeIs{k:List bg}{a:Addr}(x:jq P w s.heap k a):s.TypeIs (.ref a) "tuple":=let⟨o,_,_,ho,hc,_⟩:=x;⟨o,ho,hc⟩
def w5{k:List bg}{a:Addr}{Q:Int->Shared->Prop}(hu:A.units+1<cLine)(hk:jq P w s.heap k a)(h:Q (sA P w k) {s with toks:=s.toks+(wc k+1)}):wpAny (model P w) A (PySem.pyHash (.ref a)) Q E s:=by
 have hT:=hk.typeIs
 obtain⟨o,items,n,ho,_,hd,hi⟩:=hk
 unfold PySem.pyHash
 first|unfold pyHashByItsType|skip
 first|refine zzA (wpAny_cRoomFor_or (.inr (by omega)) ?_)|skip
 refine zzA (wpAny_specialOf hT F.slot_tuple_hash.lookup ?_);show wpAny _ _ (if(some (Value.builtin "tuple.__hash__")==some Value.none)=true then _ else _) Q E s;rw [if_neg (by rw [beq_builtin_none];exact zzf)];refine zzA (wpAny_specialOf hT F.slot_tuple_hash.lookup ?_);show wpAny _ _ (callSpecialIfBoundUnlessNone? (.ref a) "__hash__" _>>=_) Q E s;refine zzA (wpAny_callSpecialIfBoundUnlessNone?_slot hT F.slot_tuple_hash (wpAny_call_entry F.slot_tuple_hash hT F.entry_tuple_hash ?_ (F.args_tuple_hash_1 _)));show wpAny _ _ (Builtin.Tuple.tupleItemsOf (.ref a)>>=_) _ _ s;refine zzA (wpAny_tupleItemsOf ho hd ?_);refine zzA ?_;rw [<-Array.forIn_toList];refine wpAny_forIn_list _
  (λrest (b:Array Int) s'=>∃done left,k=done++left/\Paired (bg.is P w s.heap) left rest/\b.toList=done.map (bg.hash P w)/\s'={s with toks:=s.toks+wc done})
  _ ?_ ?_ _ _ ⟨[],k,rfl,hi,rfl,rfl⟩
 ·rintro x rest b s' ⟨done,left,rfl,hl,hb,rfl⟩
  cases hl with
  |@cons q _ ks' _ h1 qp=>
   refine zzA (bg.pyHash (s:={s with toks:=s.toks+wc done}) hu h1 ?_);have e:wc (done++[q])=wc done+q.dr:=kK done [q]
   first
    |exact zzG ⟨done++[q],ks',by simp,qp,by simp [hb],by rw [e,Nat.add_assoc]⟩
    |exact zzA (zzG (zzG ⟨done++[q],ks',by simp,qp,by simp [hb],by rw [e,Nat.add_assoc]⟩))
 ·rintro b s' ⟨done,left,rfl,hl,hb,rfl⟩
  cases hl;rw [zz6] at h;show wpAny _ _ (retInt (Builtin.Tuple.tupleHashOf b.toList)) _ _ _;rw [hb];refine wpAny_ret_mkInt ?_;show wpAny _ _ (if(decide (-(2:Int)^63<=Builtin.Tuple.tupleHashOf (done.map (bg.hash P w)))&&decide (Builtin.Tuple.tupleHashOf (done.map (bg.hash P w))<2^63))=true then _ else _) Q E _;unfold sA reduceHash at h
  by_cases hr:(decide (-(2:Int)^63<=Builtin.Tuple.tupleHashOf (done.map (bg.hash P w)))&&decide (Builtin.Tuple.tupleHashOf (done.map (bg.hash P w))<2^63))=true
  ·rw [if_pos hr];rw [if_pos hr] at h;exact zzG (by simpa [Nat.add_assoc] using h)
  ·rw [if_neg hr];rw [if_neg hr] at h;exact zzA (wpAny_rule (zzG (by simpa [Nat.add_assoc] using h)))
def eF{ks:List Key}{b:Addr}(h:IsTupleKey (bu P w) s.heap ks b):∃items,s.heap.IsTuple b items:=by
 obtain⟨o,items,n,ho,hc,hd,_⟩:=h
 exact⟨items,o,ho,hc,n,hd⟩
theorem bg.eq(hu:A.units+1<cLine):∀{x y:bg} {u v:Value},x.is P w s.heap u->y.is P w s.heap v->∀{Q:Bool->Shared->Prop},Q (decide (x=y)) s->wpAny (model P w) A (PySem.eqBool u v) Q E s
 |.k x,.k y,u,v,a,b,Q,h=>(bu P w).eqBool a b (by
  rw [show decide (bg.k x=bg.k y)=decide (x=y) from decide_eq_decide.2 ⟨λe=>bg.k.inj e,λe=>congrArg _ e⟩] at h
  exact h)
 |.k x,.n,u,v,a,b,Q,h=>by
  cases(b:v=.none);rw [zz0 nofun] at h;rcases cT a with⟨i,t,rfl,rfl⟩|⟨z,t,rfl,rfl⟩
  ·exact PySem.SeqAt.EqAt.int_none i t P w E Q h
  ·exact PySem.SeqAt.EqAt.str_none z t P w E Q h
 |.k x,.t ks,u,v,a,b,Q,h=>by
  obtain⟨c,rfl,b⟩:=b
  obtain⟨aw,hc⟩:=eF b
  rw [zz0 nofun] at h;rcases cT a with⟨i,t,rfl,rfl⟩|⟨z,t,rfl,rfl⟩
  ·exact PySem.SeqAt.EqAt.int_tuple i t hc (by omega) P w E Q h
  ·exact PySem.SeqAt.EqAt.str_tuple z t hc (by omega) P w E Q h
 |.n,.k y,u,v,a,b,Q,h=>by
  cases(a:u=.none);rw [zz0 nofun] at h;rcases cT b with⟨i,t,rfl,rfl⟩|⟨z,t,rfl,rfl⟩
  ·exact PySem.SeqAt.EqAt.none_int i t P w E Q h
  ·exact PySem.SeqAt.EqAt.none_str z t P w E Q h
 |.n,.n,u,v,a,b,Q,h=>by
  cases(a:u=.none);cases(b:v=.none);exact PySem.SeqAt.EqAt.same _ P w E Q h
 |.n,.t ks,u,v,a,b,Q,h=>by
  cases(a:u=.none);obtain⟨c,rfl,b⟩:=b
  obtain⟨aw,hc⟩:=eF b
  rw [zz0 nofun] at h;exact PySem.SeqAt.EqAt.none_tuple hc (by omega) P w E Q h
 |.t ks,.k y,u,v,a,b,Q,h=>by
  obtain⟨c,rfl,a⟩:=a
  obtain⟨aw,hc⟩:=eF a
  rw [zz0 nofun] at h;rcases cT b with⟨i,t,rfl,rfl⟩|⟨z,t,rfl,rfl⟩
  ·exact PySem.SeqAt.EqAt.tuple_int i t hc (by omega) P w E Q h
  ·exact PySem.SeqAt.EqAt.tuple_str z t hc (by omega) P w E Q h
 |.t ks,.n,u,v,a,b,Q,h=>by
  cases(b:v=.none);obtain⟨c,rfl,a⟩:=a
  obtain⟨aw,hc⟩:=eF a
  rw [zz0 nofun] at h;exact PySem.SeqAt.EqAt.tuple_none hc (by omega) P w E Q h
 |.t ks,.t ls,u,v,a,b,Q,h=>by
  obtain⟨c,rfl,a⟩:=a
  obtain⟨d,rfl,b⟩:=b
  rw [show decide (bg.t ks=bg.t ls)=decide (ks=ls) from decide_eq_decide.2 ⟨λe=>bg.t.inj e,λe=>congrArg _ e⟩] at h
  exact wpAny_eqBool_tuple (by omega) a b h
def sC{x y:List bg}{a b:Addr}{R:Fin->Shared->Prop}(hu:A.units+1<cLine)(hx:jq P w s.heap x a)(hy:jq P w s.heap y b)(h:R (.done (.ret (.bool (decide (x=y))))) s):
 wpAny (model P w) A (Builtin.«tuple.__eq__» ⟨[.ref a,.ref b],[]⟩) R E s:=by
 have QY:=hy.typeIs
 obtain⟨oa,xs,na,hoa,_,hda,hia⟩:=hx
 obtain⟨ob,ys,nb,hob,_,GG,hib⟩:=hy
 show wpAny _ _ (isInstance (.ref b) (.type "tuple")>>=_) _ _ s
 refine zzA (wpAny_isInstance QY isSubtype_tuple_tuple ?_);simp! [Bool.not_true,zze,if_false];refine zzA (wpAny_tupleItemsOf hoa hda ?_);refine zzA (wpAny_tupleItemsOf hob GG ?_);refine zzA ?_;refine wpAny_forIn_list _
  (λrest r s'=>r.1=none/\s'=s/\∃x' y' LM LN,rest=List.zip LM LN/\Paired (bg.is P w s.heap) x' LM/\Paired (bg.is P w s.heap) y' LN/\decide (x'=y')=decide (x=y)/\(LM.length==LN.length)=(xs.size==ys.size))
  _ ?_ ?_ _ _ ⟨rfl,rfl,x,y,xs.toList,ys.toList,rfl,hia,hib,rfl,by simp⟩
 ·rintro ⟨u,v⟩ rest r s' ⟨hr,rfl,x',y',LM,LN,hz,uE,hy',hdec,hlen⟩
  cases uE with
  |nil=>simp at hz
  |@cons k1 u' x'' xs'' h1 hx''=>
   cases hy' with
   |nil=>simp at hz
   |@cons k2 v' y'' ys'' h2 hy''=>
    simp! [List.zip_cons_cons,List.cons.injEq,Prod.mk.injEq] at hz;obtain⟨⟨rfl,rfl⟩,rfl⟩:=hz
    refine zzA (bg.eq hu h1 h2 ?_)
    by_cases hk:k1=k2
    ·subst hk;rw [zzh rfl];simp! [Bool.not_true,zze,if_false];refine zzG ⟨rfl,rfl,x'',y'',xs'',ys'',rfl,hx'',hy'',?_,by simpa using hlen⟩;rw [<-hdec]
     by_cases hxy:x''=y''
     ·simp [hxy]
     ·simp [hxy]
    ·rw [zz0 hk];simp! [Bool.not_false,if_true];have hf:decide (x=y)=false:=by rw [<-hdec];simp [hk]
     rw [hf] at h;exact zzA (zzG (zzG (zzG h)))
 ·rintro ⟨r1,r2⟩ s' ⟨hr,rfl,x',y',LM,LN,hz,uE,hy',hdec,hlen⟩
  simp only at hr;subst hr;refine zzG ?_;have Nq:(xs.size==ys.size)=decide (x=y):=by
   rw [<-hdec,<-hlen];cases uE with
   |nil=>
    cases hy' with
    |nil=>simp
    |cons _ _=>simp
   |cons _ _=>
    cases hy' with
    |nil=>simp
    |cons _ _=>simp at hz
  show R (.done (.ret (.bool (xs.size==ys.size)))) s'
  rw [Nq];exact h
def jq.inj{h:Heap}{a:Addr}{x y:List bg}(hx:jq P w h x a)(hy:jq P w h y a):x=y:=by
 obtain⟨o,items,n,ho,_,hd,hi⟩:=hx
 obtain⟨o',items',n',eC,_,yO,hi'⟩:=hy
 obtain rfl:o=o':=zzq (ho.symm.trans eC)
 rw [hd] at yO
 injection yO with h1 _
 subst h1;exact iN hi hi'
def wZ{x y:List bg}{a b:Addr}{Q:Bool->Shared->Prop}(hu:A.units+2<cLine)(hx:jq P w s.heap x a)(hy:jq P w s.heap y b)(h:Q (decide (x=y)) s):
 wpAny (model P w) A (PySem.eqBool (.ref a) (.ref b)) Q E s:=by
 unfold PySem.eqBool
 try with_reducible refine wpAny_holding ?_
 show wpAny _ _ (if(Value.ref a==Value.ref b)=true then _ else _) Q E s
 by_cases xM:(Value.ref a==Value.ref b)=true
 ·rw [if_pos xM];have e:a=b:=by have:=eq_of_beq xM;injection this
  subst e;obtain rfl:=hx.inj hy
  exact zzA (wpAny_rule (zzG (by simpa using h)))
 ·rw [if_neg xM];exact zzA (wpAny_richCompare_same_room (op:=.Eq) hx.typeIs hy.typeIs F.slot_tuple_eq
   (wpAny_call_entry F.slot_tuple_eq hx.typeIs F.entry_tuple_eq (sC (by show A.units+1+1<_;omega) hx hy ⟨_,rfl,(λe=>nomatch e),wpAny_truthy_bool h⟩) (F.args_tuple_eq_2 _ _)) (by omega))
def rW(m:Nat){ks:List Key}{a:Addr}{Q:Bool->Shared->Prop}(hk:IsTupleKey (bu P w) s.heap ks a)(h:Q true s):wpAny (model P w) A (eqIsQuiet (m+1) (.ref a)) Q E s:=by
 have hT:=hk.typeIs
 obtain⟨o,items,n,ho,_,hd,hi⟩:=hk
 unfold eqIsQuiet;refine zzA (wpAny_specialOf hT F.slot_tuple_eq.lookup ?_);show wpAny _ _ (isInstance (.ref a) (.type "tuple")>>=_) _ _ s;refine zzA (wpAny_isInstance hT isSubtype_tuple_tuple ?_);simp! [Bool.not_true,zze,if_false];refine zzA (wpAny_seqItems ho hd ?_);refine zzA ?_;show wpAny _ _ (forIn items _ _) _ _ s;rw [<-Array.forIn_toList];refine wpAny_forIn_list _ (λrest r s'=>r.1=none/\s'=s/\∀v∈rest,carriedByValue v=true) _ ?_ ?_ _ _ ⟨rfl,rfl,hi.byValue⟩
 ·rintro v rest r s' ⟨hr,rfl,hall⟩
  rw [eqIsQuiet_byValue _ (hall v zzP)];refine zzA (zzG ?_);simp! [Bool.not_true,zze,if_false];exact zzG ⟨rfl,rfl,λu KG=>hall u (zzI _ KG)⟩
 ·rintro ⟨r1,r2⟩ s' ⟨hr,rfl,_⟩
  simp only at hr;subst hr;exact zzG h
def zH{ks:List bg}{a:Addr}{Q:Bool->Shared->Prop}(hk:jq P w s.heap ks a)(h:Q true s):wpAny (model P w) A (eqIsQuiet 8 (.ref a)) Q E s:=by
 have hT:=hk.typeIs
 obtain⟨o,items,n,ho,_,hd,hi⟩:=hk
 unfold eqIsQuiet;refine zzA (wpAny_specialOf hT F.slot_tuple_eq.lookup ?_);show wpAny _ _ (isInstance (.ref a) (.type "tuple")>>=_) _ _ s;refine zzA (wpAny_isInstance hT isSubtype_tuple_tuple ?_);simp! [Bool.not_true,zze,if_false];refine zzA (wpAny_seqItems ho hd ?_);refine zzA ?_;show wpAny _ _ (forIn items _ _) _ _ s;rw [<-Array.forIn_toList];refine wpAny_forIn_list _ (λrest r s'=>r.1=none/\s'=s/\∃l,Paired (bg.is P w s.heap) l rest) _ ?_ ?_ _ _ ⟨rfl,rfl,ks,hi⟩
 ·rintro v rest r s' ⟨hr,rfl,l,hl⟩
  cases hl with
  |@cons x _ l' _ h1 qp=>
   have q:wpAny (model P w) A (eqIsQuiet 7 v) (λb xO=>b=true/\xO=s') E s':=by
    cases x with
    |k x=>
     rw [eqIsQuiet_byValue _ ((bu P w).byValue _ _ h1)];exact zzG ⟨rfl,rfl⟩
    |n=>
     cases(h1:v=.none);rw [eqIsQuiet_byValue _ rfl];exact zzG ⟨rfl,rfl⟩
    |t ks=>
     obtain⟨b,rfl,hb⟩:=h1
     exact rW 6 hb ⟨rfl,rfl⟩
   refine zzA (wpAny_mono q ?_ λ_ _ x=>x)
   rintro b xO ⟨rfl,rfl⟩
   simp! [Bool.not_true,zze,if_false];exact zzG ⟨rfl,rfl,l',qp⟩
 ·rintro ⟨r1,r2⟩ s' ⟨hr,rfl,_⟩
  simp only at hr;subst hr;exact zzG h
end
noncomputable def f7(P:Program)(w:World):HeapKind P w (List bg) where
 is:=jq P w
 hash:=sA P w
 draws:=λks=>wc ks+1
 room:=λA=>A.units+2<cLine
 inj:=λhx hy=>hx.inj hy
 keeps:=λ{h h' k a d o es ep} x ho hd hs=>by
  obtain⟨o',items,n,eC,hc,yO,hi⟩:=x
  have j2:a≠d:=by
   rintro rfl
   obtain rfl:o'=o:=zzq (eC.symm.trans ho)
   rw [hd] at yO;exact nomatch yO
  refine⟨o',items,n,(hs.2 a j2).trans eC,hc,yO,?_⟩;exact nk ho hd hs hi
 pyHash:=λhu hk h=>w5 (by omega) hk h
 eqBool:=λhu hx hy h=>wZ hu hx hy h
 quiet:=λhk h=>zH hk h
inductive HO where
 |lst (xs:List V)
 |tup (xs:List V)
 |dK (av:List (Key×V))|dT (av:List (List bg×V))
 |set (S:Int->Bool) (n:Nat)
 |ins (C dx:Addr) (fs:List (Str×V))
 |own (x:Addr)
 |xd (fs:List (Str×V))
 |met (f x:Addr)
 |rD (lo hi:Int)
 |bq (o:Obj) (u:HO)
 |fG (ps:Array Value)
 |ext (φ:Heap->Prop)
abbrev Hp:=Addr->Option HO
def IZ(H:Hp):bg->V->Prop
 |.k x,v=>v=kV x
 |.n,v=>v=.aM
 |.t ks,v=>∃c,v=.ref c/\H c=some (.tup (ks.map kV))
def cg(H:Hp)(b:Addr)(k:List bg):Prop:=∃vs,H b=some (.tup vs)/\Paired (IZ H) k vs
theorem IZ.keeps{H H':Hp}(ht:∀b xs,H b=some (.tup xs)->H' b=some (.tup xs)):∀{x:bg} {v:V},IZ H x v->IZ H' x v
 |.k _,_,e=>e
 |.n,_,e=>e
 |.t _,_,⟨c,e,f⟩=>⟨c,e,ht _ _ f⟩
def cg.keeps{H H':Hp}{b:Addr}{k:List bg}(x:cg H b k)(ht:∀b xs,H b=some (.tup xs)->H' b=some (.tup xs)):cg H' b k:=by
 obtain⟨vs,e,p⟩:=x
 refine⟨vs,ht _ _ e,?_⟩
 clear e
 induction p with
 |nil=>exact .nil
 |cons z _ ih=>exact .cons (z.keeps ht) ih
abbrev iK(i:Int):bg:=.k (.inl i)
def cg.ints{H:Hp}{b:Addr}{ns:List Int}(e:H b=some (.tup (ns.map V.int))):cg H b (ns.map iK):=by
 refine⟨_,e,?_⟩
 clear e
 induction ns with
 |nil=>exact .nil
 |cons k ks ih=>exact .cons rfl ih
noncomputable def upd(H:Hp)(a:Addr)(o:HO):Hp:=λb=>if b=a then some o else H b
def ak{H:Hp}{a:Addr}{o:HO}:upd H a o a=some o:=by unfold upd;rw [if_pos rfl]
def af{H:Hp}{a b:Addr}{o:HO}(h:b≠a):upd H a o b=H b:=by unfold upd;rw [if_neg h]
def iM{H:Hp}{a b:Addr}{o u:HO}(h:H a=some o)(h':H b=some u)(d:o≠u):a≠b:=by
 intro e;subst e;rw [h] at h';exact d (zzq h')
def dj{H:Hp}{a b:Addr}{o:HO}(h:H a=some o)(h':H b=none):a≠b:=by
 intro e;subst e;rw [h] at h';cases h'
section
variable(P:Program)(w:World)
def bK(H:Hp)(h:Heap)(a:Addr):HO->Prop
 |.lst xs=>xs.length<=sizeLine/\∃(aw:List Value) (n:Nat),Vals xs aw/\h.get? a=some {cls:=.type "list",data:=.seq aw.toArray n}
 |.tup xs=>xs.length<=sizeLine/\∃aw:List Value,Vals xs aw/\IsTup h a aw.toArray
 |.dK av=>av.length<=sizeLine/\(a==sysModules)=false/\∃vs,KV av vs/\h.DictOf (bu P w) a vs
 |.dT av=>av.length<=sizeLine/\(a==sysModules)=false/\∃xs:List (List bg×Addr×Value),
  Paired (λ(p:List bg×V) (q:List bg×Addr×Value)=>p.1=q.1/\cg H q.2.1 p.1/\RelV p.2 q.2.2) av xs/\
  ∃o es ep,h.get? a=some o/\o.ExactDict/\o.data=.dict es ep/\es.toList=xs.map (entryOfKey (f7 P w))/\(xs.map (·.1)).Nodup
 |.set S n=>h.SetOf (intKind P w) a S n
 |.ins C dx fs=>H dx=some (.own a)/\fs.length<=1000/\dx≠a/\h.get? a=some (PySem.W.instObj C dx)/\
  ∃mA,h.Ns1 dx mA/\(∀f,jr (fs.lookup f) (mA f))/\PySem.Within mA (fs.map (·.1))
 |.own _=>∃o,h.get? a=some o
 |.xd fs=>∃mA,h.Ns1 a mA/\∀f,jr (fs.lookup f) (mA f)
 |.rD lo hi=>∃t u v,h.get? a=some {cls:=.type "range",data:=.fields #[.int lo t,.int hi u,.int 1 v]}
 |.bq o u=>h.get? a=some o/\bK H h a u
 |.fG ps=>h.get? a=some {cls:=.none,data:=.fields ps}
 |.met f x=>h.get? a=some (PySem.W.methodObj (.ref f) (.ref x))
 |.ext φ=>φ h/\(∃o,h.get? a=some o)/\∀h1 h2:Heap,φ h1->(∀o,h1.get? a=some o->h2.get? a=some o)->φ h2
def dQ(H:Hp)(h:Heap):Prop:=∀a o,H a=some o->bK P w H h a o
end
section
variable{P:Program}{w:World}{H H':Hp}{h h':Heap}{a:Addr}{o:HO}
def bK.lt(x:bK P w H h a o):a<h.objs.size:=by
 cases o with
 |lst xs=>obtain⟨_,_,_,_,e⟩:=x;exact zzO e
 |tup xs=>obtain⟨_,_,_,p⟩:=x;exact p.lt
 |dK av=>obtain⟨_,_,_,_,o,_,_,e,_⟩:=x;exact zzO e
 |dT av=>obtain⟨_,_,_,_,o,_,_,e,_⟩:=x;exact zzO e
 |set S n=>obtain⟨o,_,_,_,e,_⟩:=x;exact zzO e
 |ins C dx fs=>obtain⟨_,_,_,e,_⟩:=x;exact zzO e
 |own y=>obtain⟨_,e⟩:=x;exact zzO e
 |xd fs=>obtain⟨_,⟨_,_,_,e,_⟩,_⟩:=x;exact zzO e
 |rD lo hi=>obtain⟨_,_,_,e⟩:=x;exact zzO e
 |bq ob u=>obtain⟨e,_⟩:=x;exact zzO e
 |fG ps=>exact zzO (show h.get? a=some _ from x)
 |met f y=>exact zzO (show h.get? a=some _ from x)
 |ext φ=>obtain⟨_,⟨_,e⟩,_⟩:=x;exact zzO e
theorem Paired.Hh{α β:Type}{F G:α->β->Prop}:∀{l₁:List α} {l₂:List β},Paired F l₁ l₂->(∀a b,F a b->G a b)->Paired G l₁ l₂
 |_,_,.nil,_=>.nil
 |_,_,.cons r t,f=>.cons (f _ _ r) (Paired.Hh t f)
def bK.eR(x:bK P w H h a o)(k:∀b u,(b=a\/H b=some (.own a))->h.get? b=some u->h'.get? b=some u)
 (ho:∀b,H b=some (.own a)->H' b=some (.own a)) (ht:∀b xs,H b=some (.tup xs)->H' b=some (.tup xs)):bK P w H' h' a o:=by
 induction o with
 |lst xs=>obtain⟨z,aw,n,r,e⟩:=x;exact⟨z,aw,n,r,k _ _ (.inl rfl) e⟩
 |tup xs=>obtain⟨z,aw,r,ob,e,c⟩:=x;exact⟨z,aw,r,ob,k _ _ (.inl rfl) e,c⟩
 |dK av=>obtain⟨z,y,vs,r,ob,es,ep,e,c⟩:=x;exact⟨z,y,vs,r,ob,es,ep,k _ _ (.inl rfl) e,c⟩
 |dT av=>
  obtain⟨z,y,xs,r,ob,es,ep,e,c⟩:=x
  exact⟨z,y,xs,Paired.Hh r λp q z=>⟨z.1,z.2.1.keeps ht,z.2.2⟩,ob,es,ep,k _ _ (.inl rfl) e,c⟩
 |set S n=>obtain⟨ob,es,ep,t,e,c⟩:=x;exact⟨ob,es,ep,t,k _ _ (.inl rfl) e,c⟩
 |ins C dx fs=>
  obtain⟨d,z,ne,e,mA,⟨od,es,ep,e2,c⟩,r⟩:=x
  exact⟨ho _ d,z,ne,k _ _ (.inl rfl) e,mA,⟨od,es,ep,k _ _ (.inr d) e2,c⟩,r⟩
 |own y=>obtain⟨ob,e⟩:=x;exact⟨ob,k _ _ (.inl rfl) e⟩
 |xd fs=>obtain⟨mA,⟨od,es,ep,e,c⟩,r⟩:=x;exact⟨mA,⟨od,es,ep,k _ _ (.inl rfl) e,c⟩,r⟩
 |rD lo hi=>obtain⟨t,u,v,e⟩:=x;exact⟨t,u,v,k _ _ (.inl rfl) e⟩
 |bq ob u ih=>obtain⟨e,q⟩:=x;exact⟨k _ _ (.inl rfl) e,ih q⟩
 |fG ps=>
  have e:h.get? a=some {cls:=.none,data:=.fields ps}:=x
  show h'.get? a=some {cls:=.none,data:=.fields ps}
  exact k a _ (.inl rfl) e
 |met f y=>
  have e:h.get? a=some (PySem.W.methodObj (.ref f) (.ref y)):=x
  show h'.get? a=some (PySem.W.methodObj (.ref f) (.ref y))
  exact k a _ (.inl rfl) e
 |ext φ=>obtain⟨p,⟨o,e⟩,st⟩:=x;exact⟨st _ _ p λo q=>k _ _ (.inl rfl) q,⟨o,k _ _ (.inl rfl) e⟩,st⟩
def dQ.lt(x:dQ P w H h)(e:H a=some o):a<h.objs.size:=(x a o e).lt
def dQ.fresh(x:dQ P w H h)(e:h.objs.size<=a):H a=none:=by
 cases q:H a with
 |none=>rfl
 |some u=>exact absurd (zzW (x.lt q) e) (Nat.lt_irrefl _)
def dQ.kept(x:dQ P w H h)(k:∀b u,h.get? b=some u->h'.get? b=some u):dQ P w H h':=λa o e=>
 (x a o e).eR (λb u _ q=>k b u q) (λ_ q=>q) λ_ _ q=>q
theorem dQ.laid(x:dQ P w H h)(k:∀b u,h.get? b=some u->h'.get? b=some u)(hp:h.objs.size<=a)(new:bK P w (upd H a o) h' a o):dQ P w (upd H a o) h':=λb u e=>by
 have hn:=x.fresh hp
 by_cases hb:b=a
 ·subst hb;rw [ak] at e;cases e;exact new
 ·rw [af hb] at e;exact(x b u e).eR (λc v _ q=>k c v q) (λc q=>by rw [af (dj q hn)];exact q) λc xs q=>by rw [af (dj q hn)];exact q
end
def Rd(H:Hp)(a:Addr)(u:HO):Prop:=H a=some u\/∃o,H a=some (.bq o u)
def Rd.ok{P:Program}{w:World}{H:Hp}{h:Heap}{a:Addr}{u:HO}(r:Rd H a u)(x:dQ P w H h):bK P w H h a u:=by
 rcases r with r|⟨o,r⟩
 ·exact x a u r
 ·obtain⟨_,q⟩:=x a _ r
  exact q
def JC:Option HO->Prop
 |some (.lst _)=>True
 |some (.dK _)=>True
 |some (.dT _)=>True
 |some (.set _ _)=>True
 |some (.ins _ _ _)=>True
 |some (.ext _)=>True
 |_=>False
section
variable{P:Program}{w:World}{H:Hp}{h h':Heap}{x e:Addr}{o':HO}
def dQ.write(ok:dQ P w H h)(mu:JC (H x))(he:e=x\/H e=some (.own x))(k:∀b u,b≠e->h.get? b=some u->h'.get? b=some u)(Jm:∃u,h'.get? e=some u)
 (new:bK P w (upd H x o') h' x o'):dQ P w (upd H x o') h':=λb u q=>by
 have K6:∀c y,H c=some (.own y)->c≠x:=λc y r z=>by subst z;rw [r] at mu;exact mu
 have N7:∀c xs,H c=some (.tup xs)->c≠x:=λc xs r z=>by subst z;rw [r] at mu;exact mu
 by_cases hb:b=x
 ·subst hb;rw [ak] at q;cases q;exact new
 ·rw [af hb] at q
  by_cases hbe:b=e
  ·have q':H b=some (.own x):=by
    rcases he with z|z
    ·exact absurd (hbe.trans z) hb
    ·rw [hbe];exact z
   rw [q] at q';cases q';obtain⟨v,hv⟩:=Jm
   exact⟨v,by rw [hbe];exact hv⟩
  ·refine(ok b u q).eR (λc v hc r=>k c v ?_ r) (λc r=>by rw [af (K6 c b r)];exact r) λc xs r=>by rw [af (N7 c xs r)];exact r
   rcases hc with rfl|hc
   ·exact hbe
   ·rintro rfl
    rcases he with z|z
    ·exact K6 c b hc z
    ·rw [hc] at z;cases z;exact hb rfl
end
structure Un(fs ex:List Addr)(H H':Hp)(h h':Heap):Prop where
 keep:∀b o,h.get? b=some o->H b=none->b∉fs->b∉ex->h'.get? b=some o
 slot:∀b o,h.get? b=some o->H b=none->b∈fs->b∉ex->∃sl,h'.get? b=some {o with slots:=sl}
 free:∀b o,h.get? b=some o->H b=none->b∉ex->H' b=none
 there:∀b o,h.get? b=some o->b∉ex->∃o',h'.get? b=some o'
 gP:∀b xs,H b=some (.tup xs)->H' b=some (.tup xs)
 fh:∀b o u,H b=some (.bq o u)->H' b=some (.bq o u)
 gq:∀b ps,H b=some (.fG ps)->∃more,H' b=some (.fG (ps++more))
section
variable{fs ex:List Addr}{H H1:Hp}{h h1 h':Heap}{a x e:Addr}{o:HO}
def Un.any(u:Un fs ex H H1 h h1){b:Addr}{ob:Obj}(q:h.get? b=some ob)(n:H b=none)(hx:b∉ex):∃sl,h1.get? b=some {ob with slots:=sl}:=by
 by_cases hb:b∈fs
 ·exact u.slot b ob q n hb hx
 ·exact⟨ob.slots,u.keep b ob q n hb hx⟩
def Un.kept(k:∀b u,h.get? b=some u->h'.get? b=some u):Un fs ex H H h h':=
 ⟨λb ob q _ _ _=>k b ob q,λb ob q _ _ _=>⟨ob.slots,k b ob q⟩,λ_ _ _ n _=>n,λb ob q _=>⟨ob,k b ob q⟩,λ_ _ q=>q,λ_ _ _ q=>q,λ_ ps q=>⟨#[],by rw [q];simp⟩⟩
def Un.refl:Un fs ex H H h h:=Un.kept λ_ _ q=>q
theorem Un.laid(k:∀b u,h.get? b=some u->h'.get? b=some u)(hp:h.objs.size<=a)(hn:H a=none):Un fs ex H (upd H a o) h h' where
 keep:=λb u q _ _ _=>k b u q
 slot:=λb u q _ _ _=>⟨u.slots,k b u q⟩
 free:=λb u q n _=>by rw [af (zzb (zzW (zzO q) hp))];exact n
 there:=λb u q _=>⟨u,k b u q⟩
 gP:=λb xs q=>by rw [af (dj q hn)];exact q
 fh:=λb u xs q=>by rw [af (dj q hn)];exact q
 gq:=λb ps q=>⟨#[],by rw [af (dj q hn),q];simp⟩
def Un.write(mu:JC (H x))(he:e=x\/H e=some (.own x))(k:∀b u,b≠e->h.get? b=some u->h'.get? b=some u)(Jm:∃u,h'.get? e=some u):Un fs ex H (upd H x o) h h':=by
 have hx:∀b,H b=none->b≠x:=λb n z=>by subst z;rw [n] at mu;exact mu
 have hb:∀b,H b=none->b≠e:=λb n z=>by
  subst z;rcases he with r|r
  ·exact hx b n r
  ·rw [n] at r;cases r
 have hm:∀b u,H b=some u->¬JC (some u)->b≠x:=λb u q nm z=>by subst z;rw [q] at mu;exact nm mu
 refine⟨λb u q n _ _=>k b u (hb b n) q,λb u q n _ _=>⟨u.slots,k b u (hb b n) q⟩,λb u q n _=>by rw [af (hx b n)];exact n,λb u q _=>?_,
  λb xs q=>by rw [af (hm b _ q λz=>z)];exact q,λb u xs q=>by rw [af (hm b _ q λz=>z)];exact q,λb ps q=>⟨#[],by rw [af (hm b _ q λz=>z),q];simp⟩⟩
 by_cases hbe:b=e
 ·subst hbe;exact Jm
 ·exact⟨u,k b u hbe q⟩
end
noncomputable def MA(h:Heap)(H:Hp):List Addr:=(List.range h.objs.size).filter λa=>(H a).isSome
noncomputable def oz(h:Heap)(H:Hp):Heap:=PySem.W.hideAll h (MA h H)
def wJ(h:Heap)(H:Hp):(oz h H).objs.size=h.objs.size:=PySem.W.hideAll_size _ _
theorem yT{h:Heap}{H:Hp}{b:Addr}{o:Obj}(e:h.get? b=some o)(n:H b=none):(oz h H).get? b=some o:=
 PySem.W.hideAll_get _ e λhm=>by
  have q:(H b).isSome=true:=(List.mem_filter.mp hm).2
  rw [n] at q;simp at q
def Dd{h:Heap}{H:Hp}{b:Addr}{o:Obj}(e:(oz h H).get? b=some o):h.get? b=some o/\H b=none:=by
 have e':h.get? b=some o:=PySem.W.of_hideAll (MA h H) e
 refine⟨e',?_⟩;cases q:H b with
 |none=>rfl
 |some x=>
  have hm:b∈MA h H:=List.mem_filter.mpr ⟨List.mem_range.mpr (zzO e'),by simp [q]⟩
  have z:(oz h H).get? b=none:=PySem.W.hideAll_none (MA h H) hm
  rw [z] at e;cases e
noncomputable def Bo(g h:Heap)(L:Addr):List (Addr×Obj):=(List.range h.objs.size).filterMap λa=>if a=L\/(g.get? a).isSome=true then none else(h.get? a).map λo=>(a,o)
noncomputable def rest(g h:Heap)(L d:Addr):List (Addr×Obj):=(Bo g h L).filter λp=>decide (p.1≠d)
structure Mod(K:zz8)(mg:Str->Option Value)(base:Heap):Prop where
 KR:K.In base
 glob:base.Ns mainGlobals mg
 blt:∃mb,base.Ns builtinsNs mb/\∀x:Str,x≠"__name__"->mb x=bootBuiltins x
 nolimit:base.NoLimit
structure Cx where
 prog:Program
 w:World
 K:zz8
 mg:Str->Option Value
 base:Heap
 A:Around
 N:List Str
 s₀:Shared
 H₀:Hp
 env:Env
 outer:List Env
 stack:List Env
 ex:List Addr
 fn:Str->Bool
 calm:Bool
 pn:List (Addr×Obj)
 xe:Value->Shared->Prop
noncomputable def eA(l:List Env):List Addr:=l.filterMap (·.frame)
noncomputable abbrev Cx.fs(X:Cx):List Addr:=eA X.outer
def Jc(sc:Scope)(x:Str):Prop:=sc.names.lookup x=some .local\/sc.names.lookup x=some .cell\/sc.names.lookup x=some .free
def Loc(sc:Scope)(x:Str):Prop:=sc.names.lookup x=some .local\/sc.names.lookup x=some .cell
def Look(env:Env)(h:Heap)(m:Str->Option Value)(x:Str)(u:Value):Prop:=
 (env.kindOf x=some .local/\m x=some u)\/((env.kindOf x=some .cell\/env.kindOf x=some .free)/\∃c,env.cells.lookup x=some c/\h.IsCell c (some u))
structure Cx.Ok(X:Cx):Prop where
 mod:Mod X.K X.mg X.base
 kind:X.env.scope.kind=.function
 glob:X.env.globals=mainGlobals
 blt:X.env.builtins=builtinsNs
 above:X.s₀.heap.objs.size<=X.env.locals
 inj:∀x y c,X.env.cells.lookup x=some c->X.env.cells.lookup y=some c->x=y
 has:∀x,(X.env.kindOf x=some .cell\/X.env.kindOf x=some .free)->∃c,X.env.cells.lookup x=some c
 Fq:∀x c,X.fn x=true->X.env.cells.lookup x=some c->X.s₀.heap.objs.size<=c
 hd:X.calm=true->X.A.handled=none
 frames:X.A.frames=some X.stack
 Lx:X.stack=X.outer\/(X.stack=X.env::X.outer/\X.env.frame=some X.env.locals)
 exf:∀b∈X.ex,b≠X.env.locals/\∀x c,X.env.cells.lookup x=some c->c≠b
 bs:∀b o,X.base.get? b=some o->X.s₀.heap.get? b=some o/\X.H₀ b=none
 vL:X.base.objs.size<=X.s₀.heap.objs.size
 CU:∀b o,X.base.get? b=some o->b∉X.ex
 F0:∀b∈X.ex,b∉X.fs
 fB:X.s₀.heap.FunFrames X.base X.outer
 wo:∀b∈X.fs,X.H₀ b=none
structure Inv(X:Cx)(aa:List (Addr×Obj))(σ:List (Option V))(H:Hp)(s:Shared):Prop where
 ok:X.Ok
 os:s.os=X.s₀.os
 bare:AllBare s.gens
 base:Un X.fs X.ex X.H₀ H X.s₀.heap s.heap
 loc:∃m,s.heap.Ns X.env.locals m/\∀(i:Nat) (x:Str) (v:V),X.N[i]?=some x->σ[i]?=some (some v)->Jc X.env.scope x->∃u,RelV v u/\Look X.env s.heap m x u
 cell:∀x c,X.env.cells.lookup x=some c->∃v,s.heap.IsCell c v
 free:H X.env.locals=none
 fT:∀x c,X.env.cells.lookup x=some c->H c=none
 pin:∀p∈X.pn++aa,s.heap.get? p.1=some p.2/\H p.1=none/\p.1≠X.env.locals/\p.1∉X.fs/\∀v,p.2.data≠.cell v
 aN:dQ X.prog X.w H s.heap
 len:σ.length=X.N.length
section
variable{X:Cx}{aa:List (Addr×Obj)}{σ:List (Option V)}{H H':Hp}{s:Shared}{h':Heap}
theorem Cx.Ok.N2(ok:X.Ok){b:Addr}{o:Obj}(e:X.base.get? b=some o):b∉X.fs:=λhb=>by
 have:=(ok.fB.mem hb).1
 rw [e] at this;cases this
def Inv.bs(I:Inv X aa σ H s):∀b o,X.base.get? b=some o->s.heap.get? b=some o/\H b=none:=λb o e=>
 ⟨I.base.keep b o (I.ok.bs b o e).1 (I.ok.bs b o e).2 (I.ok.N2 e) (I.ok.CU b o e),I.base.free b o (I.ok.bs b o e).1 (I.ok.bs b o e).2 (I.ok.CU b o e)⟩
def Inv.bk(I:Inv X aa σ H s):∀b o,X.base.get? b=some o->s.heap.get? b=some o:=λb o e=>(I.bs b o e).1
def Inv.mod(I:Inv X aa σ H s):Mod X.K X.mg X.base:=I.ok.mod
def Inv.qx(I:Inv X aa σ H s):X.K.In s.heap:=I.ok.mod.KR.keeps I.bk
theorem Inv.fr(I:Inv X aa σ H s):∃m,Fr X.base X.env.locals s.heap m:=
 let⟨m,hn,_⟩:=I.loc
 ⟨m,hn,I.bk,zzU I.ok.vL I.ok.above⟩
theorem Inv.lt(I:Inv X aa σ H s):X.env.locals<(zz9 s):=let⟨_,hn,_⟩:=I.loc;hn.lt
def Inv.sz(I:Inv X aa σ H s):X.s₀.heap.objs.size<=(zz9 s):=zzU I.ok.above (Nat.le_of_lt I.lt)
theorem Inv.N4(I:Inv X aa σ H s){a:Addr}(h:(zz9 s)<=a):a∉X.fs:=λhb=>by
 obtain⟨_,o,ho,_⟩:=I.ok.fB.mem hb
 exact absurd (zzW (zzO ho) (zzU I.sz h)) (Nat.lt_irrefl _)
theorem Inv.A2(I:Inv X aa σ H s):∀x c,X.env.cells.lookup x=some c->c≠X.env.locals:=λx c e z=>by
 obtain⟨v,o,ho,hd⟩:=I.cell x c e
 obtain⟨m,⟨o',es,ep,eC,yO,_⟩,_⟩:=I.loc
 rw [z,eC] at ho;cases ho;rw [yO] at hd;cases hd
def Inv.fB(I:Inv X aa σ H s):s.heap.FunFrames X.base X.outer:=by
 have all:∀(l:List Env),(∀b∈eA l,b∈X.fs)->X.s₀.heap.FunFrames X.base l->s.heap.FunFrames X.base l:=by
  intro l
  induction l with
  |nil=>intro _ _;trivial
  |cons env r ih=>
   intro hs hl;obtain⟨hk,⟨L,o,hf,hn,ho,hd⟩,hr⟩:=hl
   have hL:L∈X.fs:=hs L (by unfold eA;rw [List.filterMap_cons,hf];exact zzP)
   obtain⟨sl,e⟩:=I.base.slot L o ho (I.ok.wo L hL) hL λz=>I.ok.F0 L z hL
   exact⟨hk,⟨L,_,hf,hn,e,hd⟩,ih (λb hb=>hs b (by unfold eA;rw [List.filterMap_cons,hf];exact zzI _ hb)) hr⟩
 exact all X.outer (λ_ hb=>hb) I.ok.fB
def Inv.stack(I:Inv X aa σ H s):s.heap.FunFrames X.base X.stack:=by
 rcases I.ok.Lx with e|⟨e,hf⟩
 ·rw [e];exact I.fB
 ·rw [e];obtain⟨m,hn,_⟩:=I.loc
  refine .cons (by rw [I.ok.kind];decide) hf hn ?_ I.fB;exact Heap.get?_none_of_le (zzU I.ok.vL I.ok.above)
def Inv.gj(I:Inv X aa σ H s):∀b∈eA X.stack,b∈X.env.locals::X.fs:=λb hb=>by
 rcases I.ok.Lx with e|⟨e,hf⟩
 ·rw [e] at hb;exact zzI _ hb
 ·rw [e] at hb;unfold eA at hb;rw [List.filterMap_cons,hf] at hb;exact hb
theorem Inv.j7(I:Inv X aa σ H s):∀b∈eA X.stack,H b=none:=λb hb=>by
 rcases zzm.mp (I.gj b hb) with e|hb
 ·rw [e];exact I.free
 ·obtain⟨_,o,ho,_⟩:=I.ok.fB.mem hb
  exact I.base.free b o ho (I.ok.wo b hb) λz=>I.ok.F0 b z hb
def Inv.step{g':Array GenState}{t':Nat}{d':Drawn}{ch:List Addr}(I:Inv X aa σ H s)
 (xN:∀b∈ch,(b∈X.ex\/X.s₀.heap.objs.size<=b)/\b≠X.env.locals/\(∀x c,X.env.cells.lookup x=some c->c≠b)/\∀p∈X.pn++aa,p.1≠b)
 (keep:∀b o,b≠X.env.locals->b∉X.fs->b∉ch->s.heap.get? b=some o->H b=none->h'.get? b=some o)
 (slot:∀b o,b≠X.env.locals->b∈X.fs->b∉ch->s.heap.get? b=some o->H b=none->∃sl,h'.get? b=some {o with slots:=sl}) (free:∀b o,b∉ch->s.heap.get? b=some o->H b=none->H' b=none)
 (there:∀b o,b∉ch->s.heap.get? b=some o->∃o',h'.get? b=some o')
 (gP:∀b xs,H b=some (.tup xs)->H' b=some (.tup xs)) (fh:∀b o u,H b=some (.bq o u)->H' b=some (.bq o u)) (gq:∀b ps,H b=some (.fG ps)->∃more,H' b=some (.fG (ps++more)))
 (ns:∀m,s.heap.Ns X.env.locals m->h'.Ns X.env.locals m) (aN:dQ X.prog X.w H' h') (hg:AllBare g'):
 Inv X aa σ H' {s with heap:=h',gens:=g',drawn:=d',toks:=t'}:=by
 have Qe:∀b o,X.s₀.heap.get? b=some o->b≠X.env.locals:=λb o e=>zzb (zzW (zzO e) I.ok.above)
 have Hl:∀b o,X.s₀.heap.get? b=some o->b∉X.ex->b∉ch:=λb o e hx hb=>by
  rcases(xN b hb).1 with z|z
  ·exact hx z
  ·exact absurd (zzW (zzO e) z) (Nat.lt_irrefl _)
 have cellK:∀x c,X.env.cells.lookup x=some c->∀v,s.heap.IsCell c v->h'.IsCell c v:=λx c e v ⟨o,ho,hd⟩=>by
  have K3:c∉ch:=λz=>(xN c z).2.2.1 x c e rfl
  by_cases hc:c∈X.fs
  ·obtain⟨sl,q⟩:=slot c o (I.A2 x c e) hc K3 ho (I.fT x c e)
   exact⟨_,q,hd⟩
  ·exact⟨o,keep c o (I.A2 x c e) hc K3 ho (I.fT x c e),hd⟩
 refine⟨I.ok,I.os,hg,⟨λb o e n hb hx=>?_,λb o e n hb hx=>?_,λb o e n hx=>?_,λb o e hx=>?_,λb xs e=>gP b xs (I.base.gP b xs e),λb o xs e=>fh b o xs (I.base.fh b o xs e),λb ps e=>?_⟩,?_,λx c e=>?_,?_,λx c e=>?_,λp hp=>?_,aN,I.len⟩
 ·exact keep b o (Qe b o e) hb (Hl b o e hx) (I.base.keep b o e n hb hx) (I.base.free b o e n hx)
 ·obtain⟨sl,e1⟩:=I.base.slot b o e n hb hx
  obtain⟨sl',e2⟩:=slot b _ (Qe b o e) hb (Hl b o e hx) e1 (I.base.free b o e n hx)
  exact⟨sl',e2⟩
 ·obtain⟨o',e1⟩:=I.base.there b o e hx
  exact free b o' (Hl b o e hx) e1 (I.base.free b o e n hx)
 ·obtain⟨o',e1⟩:=I.base.there b o e hx
  exact there b o' (Hl b o e hx) e1
 ·obtain⟨m1,e1⟩:=I.base.gq b ps e
  obtain⟨m2,e2⟩:=gq b _ e1
  exact⟨m1++m2,by rw [e2,Array.append_assoc]⟩
 ·obtain⟨m,hn,hl⟩:=I.loc
  refine⟨m,ns m hn,λi x v e1 e2 e3=>?_⟩
  obtain⟨u,r,l⟩:=hl i x v e1 e2 e3
  refine⟨u,r,?_⟩;rcases l with l|⟨k,c,e,z⟩
  ·exact .inl l
  ·exact .inr ⟨k,c,e,cellK x c e _ z⟩
 ·obtain⟨v,z⟩:=I.cell x c e
  exact⟨v,cellK x c e v z⟩
 ·obtain⟨m,⟨o,_,_,ho,_⟩,_⟩:=I.loc
  exact free _ o (λz=>(xN _ z).2.1 rfl) ho I.free
 ·obtain⟨v,o,ho,hd⟩:=I.cell x c e
  exact free c o (λz=>(xN c z).2.2.1 x c e rfl) ho (I.fT x c e)
 ·obtain⟨e,n,ne,nf,d⟩:=I.pin p hp
  have K3:p.1∉ch:=λz=>(xN p.1 z).2.2.2 p hp rfl
  exact⟨keep p.1 p.2 ne nf K3 e n,free p.1 p.2 K3 e n,ne,nf,d⟩
def Inv.un{t':Nat}(I:Inv X aa σ H s)(u:Un X.fs [] H H' s.heap h')(aN:dQ X.prog X.w H' h'):Inv X aa σ H' {s with heap:=h',toks:=t'}:=by
 obtain⟨m,⟨o,es,ep,ho,r⟩,_⟩:=id I.loc
 obtain⟨sl,hL⟩:=u.any ho I.free (by simp)
 exact I.step (g':=s.gens) (d':=s.drawn) (ch:=[]) (λ_ z=>nomatch z) (λb o _ hb _ e n=>u.keep b o e n hb (by simp)) (λb o _ hb _ e n=>u.slot b o e n hb (by simp)) (λb o _ e n=>u.free b o e n (by simp)) (λb o _ e=>u.there b o e (by simp)) u.gP u.fh u.gq (λm' hm=>by
  obtain⟨o',es',ep',eC,r'⟩:=hm
  rw [ho] at eC;cases eC;exact⟨_,es',ep',hL,r'⟩) aN I.bare
def Inv.call{g':Array GenState}{t':Nat}{d':Drawn}{ch:List Addr}(I:Inv X aa σ H s)(u:Un (eA X.stack) ch H H' s.heap h')(aN:dQ X.prog X.w H' h')(hg:AllBare g')
 (xN:∀b∈ch,(b∈X.ex\/X.s₀.heap.objs.size<=b)/\b≠X.env.locals/\(∀x c,X.env.cells.lookup x=some c->c≠b)/\∀p∈X.pn++aa,p.1≠b):
 Inv X aa σ H' {s with heap:=h',gens:=g',drawn:=d',toks:=t'}:=by
 obtain⟨m,⟨o,es,ep,ho,r⟩,_⟩:=id I.loc
 obtain⟨sl,hL⟩:=u.any ho I.free λz=>(xN _ z).2.1 rfl
 exact I.step (ch:=ch) xN (λb o hL hb hc e n=>u.keep b o e n (λz=>(zzm.mp (I.gj b z)).elim hL hb) hc) (λb o _ _ hc e n=>u.any e n hc) (λb o hc e n=>u.free b o e n hc) (λb o hc e=>u.there b o e hc) u.gP u.fh u.gq (λm' hm=>by
  obtain⟨o',es',ep',eC,r'⟩:=hm
  rw [ho] at eC;cases eC;exact⟨_,es',ep',hL,r'⟩) aN hg
def Inv.turned{t':Nat}{it:Addr}(I:Inv X aa σ H s)(k:∀b o,b≠it->s.heap.get? b=some o->h'.get? b=some o)(hn:H it=none)(hL:it≠X.env.locals)
 (h1:it∈X.ex\/X.s₀.heap.objs.size<=it) (h2:∀x c,X.env.cells.lookup x=some c->c≠it) (h3:∀p∈X.pn++aa,p.1≠it):Inv X aa σ H {s with heap:=h',toks:=t'}:=by
 have Qf:∀b u,H b=some u->b≠it:=λb u e z=>by rw [z,hn] at e;cases e
 refine I.step (g':=s.gens) (d':=s.drawn) (ch:=[it]) (λb hb=>?_) (λb o _ _ hc e _=>k b o (λz=>hc (by simp [z])) e) (λb o _ _ hc e _=>⟨o.slots,k b o (λz=>hc (by simp [z])) e⟩) (λ_ _ _ _ n=>n)
  (λb o hc e=>⟨o,k b o (λz=>hc (by simp [z])) e⟩) (λ_ _ e=>e) (λ_ _ _ e=>e) (λb ps e=>⟨#[],by rw [e];simp⟩) (λm hm=>?_) (λb u e=>?_) I.bare
 ·have e:b=it:=by simpa using hb
  subst e;exact⟨h1,hL,h2,h3⟩
 ·obtain⟨o,es,ep,ho,r⟩:=hm
  exact⟨o,es,ep,k _ o (Ne.symm hL) ho,r⟩
 ·refine(I.aN b u e).eR (λc v hc q=>k c v ?_ q) (λ_ q=>q) λ_ _ q=>q
  rcases hc with z|z
  ·rw [z];exact Qf b u e
  ·exact Qf c _ z
theorem Inv.tok(I:Inv X aa σ H s)(t:Nat):Inv X aa σ H {s with toks:=t}:=I.un (h':=s.heap) (t':=t) Un.refl I.aN
theorem Inv.kept{t':Nat}(I:Inv X aa σ H s)(k:∀b u,s.heap.get? b=some u->h'.get? b=some u):Inv X aa σ H {s with heap:=h',toks:=t'}:=I.un (Un.kept k) (I.aN.kept k)
theorem Inv.laid{a:Addr}{o:HO}{t':Nat}(I:Inv X aa σ H s)(k:∀b u,s.heap.get? b=some u->h'.get? b=some u)(hp:(zz9 s)<=a)(new:bK X.prog X.w (upd H a o) h' a o):
 Inv X aa σ (upd H a o) {s with heap:=h',toks:=t'}:=I.un (Un.laid k hp (I.aN.fresh hp)) (I.aN.laid k hp new)
theorem Inv.write{x e:Addr}{o:HO}{t':Nat}(I:Inv X aa σ H s)(mu:JC (H x))(he:e=x\/H e=some (.own x))(k:∀b u,b≠e->s.heap.get? b=some u->h'.get? b=some u)(Jm:∃u,h'.get? e=some u)
 (new:bK X.prog X.w (upd H x o) h' x o):Inv X aa σ (upd H x o) {s with heap:=h',toks:=t'}:=I.un (Un.write mu he k Jm) (I.aN.write mu he k Jm new)
def Inv.eG{vb:List (Addr×Obj)}(I:Inv X aa σ H s)(h:∀p∈vb,s.heap.get? p.1=some p.2/\H p.1=none/\p.1≠X.env.locals/\p.1∉X.fs/\∀v,p.2.data≠.cell v):Inv X vb σ H s:=
 ⟨I.ok,I.os,I.bare,I.base,I.loc,I.cell,I.free,I.fT,λp hp=>(List.mem_append.mp hp).elim (λz=>I.pin p (zzc _ z)) (h p),I.aN,I.len⟩
def ly{N:List Str}(hN:N.Nodup){i j:Nat}{x:Str}(a:N[i]?=some x)(b:N[j]?=some x):i=j:=by
 obtain⟨h1,e1⟩:=zzH.mp a
 obtain⟨h2,e2⟩:=zzH.mp b
 exact(List.getElem_inj hN).mp (e1.trans e2.symm)
def jd{M:Model}{A:Around}{E:Value->Shared->Prop}{i:Nat}{x:Str}{v:V}{u:Value}{Q:Unit->Shared->Prop}(I:Inv X aa σ H s)(hN:X.N.Nodup)(hi:X.N[i]?=some x)(hx:Loc X.env.scope x)(r:RelV v u)
 (h:∀s',Inv X aa (σ.set i (some v)) H s'->(∃a,Heap.SameBut a s.heap s'.heap/\(a=X.env.locals\/X.env.cells.lookup x=some a))->Q () s') (hf:X.fn x=true\/X.env.scope.names.lookup x=some .local:=by first|exact .inl rfl|exact .inr rfl|assumption):wpAny M A (storeName X.env x u) Q E s:=by
 obtain⟨m,hn,hl⟩:=id I.loc
 have Nl:(X.env.scope.kind==.class||(X.env.scope.kind==.module&&X.env.locals !=X.env.globals))=false:=by rw [I.ok.kind];rfl
 have hiσ:i<σ.length:=by rw [I.len];exact(zzH.mp hi).1
 have A2:=I.A2
 have tracked:∀{a:Addr} {h':Heap},(∃o,s.heap.get? a=some o/\H a=none)->Heap.SameBut a s.heap h'->dQ X.prog X.w H h':=λ{a h'} ha hs b ob e=>by
  obtain⟨_,_,hfree⟩:=ha
  refine(I.aN b ob e).eR (λc w' hc q=>(hs.2 c ?_).trans q) (λ_ q=>q) λ_ _ q=>q
  rintro rfl
  rcases hc with rfl|hc
  ·rw [hfree] at e;cases e
  ·rw [hfree] at hc;cases hc
 rcases hx with hk|hk
 ·refine wpAny_storeName_local hk hn (λh' Rp hs=>?_) Nl;obtain⟨oL,_,_,hoL,_⟩:=id hn
  refine h _ ⟨I.ok,I.os,I.bare,⟨λb o e n hb hx=>?_,λb o e n hb hx=>?_,I.base.free,λb o e hx=>?_,I.base.gP,I.base.fh,I.base.gq⟩,⟨_,Rp,λj y v' e1 e2 e3=>?_⟩,λy c e=>?_,I.free,I.fT,λp hp=>?_,tracked ⟨oL,hoL,I.free⟩ hs,by simpa using I.len⟩ ⟨_,hs,.inl rfl⟩
  ·exact(hs.2 b (zzb (zzW (zzO e) I.ok.above))).trans (I.base.keep b o e n hb hx)
  ·obtain⟨sl,e1⟩:=I.base.slot b o e n hb hx
   exact⟨sl,(hs.2 b (zzb (zzW (zzO e) I.ok.above))).trans e1⟩
  ·obtain⟨o',e1⟩:=I.base.there b o e hx
   exact⟨o',(hs.2 b (zzb (zzW (zzO e) I.ok.above))).trans e1⟩
  ·by_cases hj:j=i
   ·subst hj;rw [hi] at e1;cases e1;rw [zzo hiσ] at e2;cases e2;exact⟨u,r,.inl ⟨hk,by simp⟩⟩
   ·rw [zzS (Ne.symm hj)] at e2;obtain⟨u',r',q⟩:=hl j y v' e1 e2 e3
    refine⟨u',r',?_⟩;rcases q with⟨k,e⟩|⟨k,c,e,z⟩
    ·refine .inl ⟨k,?_⟩;have:y≠x:=λe=>hj (ly hN e1 (e▸hi))
     simp [this,e]
    ·exact .inr ⟨k,c,e,z.sameBut hs (A2 y c e)⟩
  ·obtain⟨w',z⟩:=I.cell y c e
   exact⟨w',z.sameBut hs (A2 y c e)⟩
  ·obtain⟨e,n,ne,nf,d⟩:=I.pin p hp
   exact⟨(hs.2 p.1 ne).trans e,n,ne,nf,d⟩
 ·have kQ:X.fn x=true:=by
   rcases hf with z|z
   ·exact z
   ·rw [z] at hk;cases hk
  obtain⟨c,hc⟩:=I.ok.has x (.inl hk)
  obtain⟨w',z⟩:=I.cell x c hc
  refine wpAny_storeName_cell I.ok.kind hk hc z (λh' fI hs=>?_);obtain⟨oc,hoc,hocd⟩:=id z
  refine h {s with heap:=h'} ⟨I.ok,I.os,I.bare,⟨λb o e n hb hx=>?_,λb o e n hb hx=>?_,I.base.free,λb o e hx=>?_,I.base.gP,I.base.fh,I.base.gq⟩,⟨m,hn.sameBut hs (Ne.symm (A2 x c hc)),λj y v' e1 e2 e3=>?_⟩,λy c' e=>?_,I.free,I.fT,λp hp=>?_,tracked ⟨oc,hoc,I.fT x c hc⟩ hs,by simpa using I.len⟩ ⟨c,hs,.inr hc⟩
  ·exact(hs.2 b (zzb (zzW (zzO e) (I.ok.Fq x c kQ hc)))).trans (I.base.keep b o e n hb hx)
  ·obtain⟨sl,e1⟩:=I.base.slot b o e n hb hx
   exact⟨sl,(hs.2 b (zzb (zzW (zzO e) (I.ok.Fq x c kQ hc)))).trans e1⟩
  ·obtain⟨o',e1⟩:=I.base.there b o e hx
   exact⟨o',(hs.2 b (zzb (zzW (zzO e) (I.ok.Fq x c kQ hc)))).trans e1⟩
  ·by_cases hj:j=i
   ·subst hj;rw [hi] at e1;cases e1;rw [zzo hiσ] at e2;cases e2;exact⟨u,r,.inr ⟨.inl hk,c,hc,fI⟩⟩
   ·rw [zzS (Ne.symm hj)] at e2;obtain⟨u',r',q⟩:=hl j y v' e1 e2 e3
    refine⟨u',r',?_⟩;rcases q with q|⟨k,c',e,z'⟩
    ·exact .inl q
    ·refine .inr ⟨k,c',e,z'.sameBut hs ?_⟩
     rintro rfl
     exact hj (ly hN e1 (I.ok.inj _ _ _ e hc▸hi))
  ·by_cases hcc:c'=c
   ·subst hcc;exact⟨_,fI⟩
   ·obtain⟨w2,z2⟩:=I.cell y c' e
    exact⟨w2,z2.sameBut hs hcc⟩
  ·obtain⟨e,n,ne,nf,d⟩:=I.pin p hp
   refine⟨(hs.2 p.1 ?_).trans e,n,ne,nf,d⟩;intro q;rw [q,hoc] at e;have q':oc=p.2:=zzq e
   exact d w' (by rw [<-q'];exact hocd)
def rb{M:Model}{A:Around}{E:Value->Shared->Prop}{i:Nat}{x:Str}{v:V}{u:Value}{Q:Unit->Shared->Prop}(I:Inv X aa σ H s)(hN:X.N.Nodup)(hi:X.N[i]?=some x)(hx:Loc X.env.scope x)(r:RelV v u)
 (h:∀s',Inv X aa (σ.set i (some v)) H s'->Q () s') (hf:X.fn x=true\/X.env.scope.names.lookup x=some .local:=by first|exact .inl rfl|exact .inr rfl|assumption):wpAny M A (storeName X.env x u) Q E s:=
 jd I hN hi hx r (λs' I' _=>h s' I') hf
def Inv.JU{s':Shared}{ch:List Addr}(I:Inv X aa σ H s)(ho:s'.os=s.os)(u:Un (eA X.stack) ch H H' s.heap s'.heap)(aN:dQ X.prog X.w H' s'.heap)(hg:AllBare s'.gens)
 (xN:∀b∈ch,(b∈X.ex\/X.s₀.heap.objs.size<=b)/\b≠X.env.locals/\(∀x c,X.env.cells.lookup x=some c->c≠b)/\∀p∈X.pn++aa,p.1≠b):Inv X aa σ H' s':=by
 obtain⟨h',g',d',t',o'⟩:=s'
 have e:o'=s.os:=ho
 subst e;exact I.call (g':=g') (t':=t') (d':=d') u aN hg xN
end
noncomputable abbrev XK:=Value->Option Addr->Hp->Prop
abbrev St:=List (Option V)
abbrev VK:=V->Hp->Prop
abbrev TE:=St->Hp->VK->Prop
noncomputable abbrev TT:=St->Hp->(Bool->Hp->Prop)->Prop
noncomputable abbrev TA:=St->Hp->(List V->Hp->Prop)->Prop
structure Ends where
 nx:St->Hp->Prop
 rt:VK
 bk:St->Hp->Prop:=λ_ _=>False
 ct:St->Hp->Prop:=λ_ _=>False
abbrev TS:=Ends->St->Hp->Prop
def EP(X:Cx)(aa:List (Addr×Obj))(σ:St)(Q:VK)(u:Value)(s':Shared):Prop:=∃v H',Inv X aa σ H' s'/\RelV v u/\Q v H'
def TP(X:Cx)(aa:List (Addr×Obj))(σ:St)(Q:Bool->Hp->Prop)(b:Bool)(s':Shared):Prop:=∃H',Inv X aa σ H' s'/\Q b H'
def AP(X:Cx)(aa:List (Addr×Obj))(σ:St)(Q:List V->Hp->Prop)(us:List Value)(s':Shared):Prop:=∃vs H',Inv X aa σ H' s'/\Vals vs us/\Q vs H'
def SP(X:Cx)(aa:List (Addr×Obj))(D:Ends)(f:Flow)(s':Shared):Prop:=
 match f with
 |.next=>∃σ' H',Inv X aa σ' H' s'/\D.nx σ' H'
 |.brk=>∃σ' H',Inv X aa σ' H' s'/\D.bk σ' H'
 |.cont=>∃σ' H',Inv X aa σ' H' s'/\D.ct σ' H'
 |.ret u=>∃v σ' H',Inv X aa σ' H' s'/\RelV v u/\D.rt v H'
def PE(X:Cx)(e:Expr)(t:TE):Prop:=
 ∀(aa:List (Addr×Obj)) (s:Shared) (σ:St) (H:Hp) (Q:VK),Inv X aa σ H s->t σ H Q->wpAny (model X.prog X.w) X.A (eval e X.env) (EP X aa σ Q) X.xe s
def PT(X:Cx)(e:Expr)(t:TT):Prop:=
 ∀(aa:List (Addr×Obj)) (s:Shared) (σ:St) (H:Hp) (Q:Bool->Hp->Prop),Inv X aa σ H s->t σ H Q->wpAny (model X.prog X.w) X.A (isTrue e X.env (eval e X.env)) (TP X aa σ Q) X.xe s
def PW(X:Cx)(e:Expr)(t:TT):Prop:=
 ∀(whole:Sem Value) (aa:List (Addr×Obj)) (s:Shared) (σ:St) (H:Hp) (Q:Bool->Hp->Prop),Inv X aa σ H s->t σ H Q->wpAny (model X.prog X.w) X.A (isTrue e X.env whole) (TP X aa σ Q) X.xe s
def PW.pt{X:Cx}{e:Expr}{t:TT}(h:PW X e t):PT X e t:=h _
def PA(X:Cx)(es:List Expr)(t:TA):Prop:=
 ∀(pos:Pos) (aa:List (Addr×Obj)) (s:Shared) (σ:St) (H:Hp) (Q:List V->Hp->Prop),Inv X aa σ H s->t σ H Q->wpAny (model X.prog X.w) X.A (spliced (backTo pos (starEach es X.env))) (AP X aa σ Q) X.xe s
def PS(X:Cx)(st:Stmt)(t:TS):Prop:=
 ∀(aa:List (Addr×Obj)) (s:Shared) (σ:St) (H:Hp) (D:Ends),Inv X aa σ H s->t D σ H->wpAny (model X.prog X.w) X.A (exec st X.env) (SP X aa D) X.xe s
def tO(X:Cx)(st:List Stmt)(t:TS):Prop:=
 ∀(aa:List (Addr×Obj)) (s:Shared) (σ:St) (H:Hp) (D:Ends),Inv X aa σ H s->t D σ H->wpAny (model X.prog X.w) X.A (execs st X.env) (SP X aa D) X.xe s
def bJ{α:Type}{t:Sem α}{Q Q':α->Shared->Prop}{M:Model}{A:Around}{E:Value->Shared->Prop}{s:Shared}(h:wpAny M A t Q E s)(hQ:∀a s,Q a s->Q' a s):wpAny M A t Q' E s:=wpAny_mono h hQ λ_ _ x=>x
section
variable{X:Cx}
def bin{a b:Expr}{ta tb:TE}(ha:PE X a ta)(hb:PE X b tb){aa:List (Addr×Obj)}{s:Shared}{σ:St}{H:Hp}{R:V->V->Hp->Prop}(I:Inv X aa σ H s)(h:ta σ H λx H1=>tb σ H1 λy H2=>R x y H2)
 {α:Type} {Q:α->Shared->Prop} {f:Value->Value->Sem α}
 (hf:∀v u s2 x y H2,Inv X aa σ H2 s2->RelV x v->RelV y u->R x y H2->wpAny (model X.prog X.w) X.A (f v u) Q X.xe s2):
 wpAny (model X.prog X.w) X.A (eval a X.env) (λv s₁=>wpAny (model X.prog X.w) X.A (eval b X.env) (λu s₂=>wpAny (model X.prog X.w) X.A (f v u) Q X.xe s₂) X.xe s₁) X.xe s:=by
 refine bJ (ha aa s σ H _ I h) λv s1 ⟨x,H1,I1,r1,q1⟩=>?_
 refine bJ (hb aa s1 σ H1 _ I1 q1) λu s2 ⟨y,H2,I2,r2,q2⟩=>?_
 exact hf v u s2 x y H2 I2 r1 r2 q2
noncomputable def pj(i:Nat):TE:=λσ H Q=>∃v,σ[i]?=some (some v)/\Q v H
noncomputable def tC(v:V):TE:=λ_ H Q=>Q v H
def dm{i:Nat}{x:Str}{pos:Pos}(hN:X.N[i]?=some x)(hv:Jc X.env.scope x)(hd:(x==("__debug__":Str))=false:=by decide)(mY:(x==("__classdict__":Str))=false:=by decide):PE X (.Name x pos) (pj i):=by
 intro aa s σ H Q I h;obtain⟨v,e,h⟩:=h
 obtain⟨m,hn,hl⟩:=I.loc
 obtain⟨u,r,l⟩:=hl i x v hN e hv
 have fin:EP X aa σ Q u s:=⟨v,H,I,r,h⟩
 rcases l with⟨hk,hm⟩|⟨hk,c,hc,bS⟩
 ·exact wpAny_Name (wpAny_loadName_local I.ok.kind hk hn hm fin) hd
 ·rcases hk with hk|hk
  ·exact wpAny_Name (wpAny_loadName_cell I.ok.kind hk hc bS fin) hd
  ·exact wpAny_Name (wpAny_loadName_free I.ok.kind hk hc bS fin mY) hd
def lE{i j pos}:PE X (.Constant (.int i) j pos) (tC (.int i)):=λ_ _ _ H _ I h=>wpAny_Constant_int ⟨.int i,H,I.tok _,⟨_,rfl⟩,h⟩
def Lg{b j pos}:PE X (.Constant (.bool b) j pos) (tC (.bl b)):=λ_ _ _ H _ I h=>Constant_bool ⟨.bl b,H,I,rfl,h⟩
def HQ{j pos}:PE X (.Constant .none j pos) (tC .aM):=λ_ _ _ H _ I h=>Constant_none ⟨.aM,H,I,rfl,h⟩
def oR{x j pos}:PE X (.Constant (.str x) j pos) (tC (.str x)):=λ_ _ _ H _ I h=>Calls.Constant_str ⟨.str x,H,I.tok _,⟨_,rfl⟩,h⟩
def Gl(X:Cx)(x:Str):Prop:=X.env.kindOf x=some .globalImplicit
def gE{E:Value->Shared->Prop}{aa:List (Addr×Obj)}{s:Shared}{σ:St}{H:Hp}{x:Str}{u:Value}{pos:Pos}{Q:Value->Shared->Prop}(I:Inv X aa σ H s)(hg:Gl X x)(hm:X.mg x=some u)(h:Q u s)
 (hd:(x==("__debug__":Str))=false:=by decide):wpAny (model X.prog X.w) X.A (eval (.Name x pos) X.env) Q E s:=
 Calls.Name_function_global I.ok.kind hg (Calls.loadGlobal_global (by rw [I.ok.glob];exact I.mod.glob.keeps I.bk) hm h) hd
def eO{E:Value->Shared->Prop}{aa:List (Addr×Obj)}{s:Shared}{σ:St}{H:Hp}{x:Str}{u:Value}{pos:Pos}{Q:Value->Shared->Prop}(I:Inv X aa σ H s)(hg:Gl X x)(hm:X.mg x=none)(hv:bootBuiltins x=some u)(h:Q u s)
 (hn:x≠"__name__":=by decide) (hd:(x==("__debug__":Str))=false:=by decide):wpAny (model X.prog X.w) X.A (eval (.Name x pos) X.env) Q E s:=by
 obtain⟨mb,h1,h2⟩:=I.mod.blt
 exact Calls.Name_function_global I.ok.kind hg (Calls.loadGlobal_builtin (by rw [I.ok.glob];exact I.mod.glob.keeps I.bk) hm (by rw [I.ok.blt];exact h1.keeps I.bk) ((h2 x hn).trans hv) h) hd
def Ds{x:Str}{v:V}{u:Value}{pos:Pos}(hg:Gl X x)(hm:X.mg x=some u)(r:RelV v u)(hd:(x==("__debug__":Str))=false:=by decide):PE X (.Name x pos) (tC v):=
 λ_ _ _ H _ I h=>gE I hg hm ⟨v,H,I,r,h⟩ hd
def Dp{x:Str}{v:V}{u:Value}{pos:Pos}(hg:Gl X x)(hm:X.mg x=none)(hv:bootBuiltins x=some u)(r:RelV v u)(hn:x≠"__name__":=by decide)(hd:(x==("__debug__":Str))=false:=by decide):PE X (.Name x pos) (tC v):=
 λ_ _ _ H _ I h=>eO I hg hm hv ⟨v,H,I,r,h⟩ hn hd
variable{a b:Expr}{ta tb:TE}{pos:Pos}
noncomputable def tB(t:TE):TT:=λσ H Q=>t σ H λx H1=>∃c,x=.bl c/\Q c H1
def Ib{e:Expr}{t:TE}(h:PE X e t)(he:∀whole,isTrue e X.env whole=(do let v<-whole;standAt e.pos;holding [v] (truthy v)):=by intro _;rfl):PT X e (tB t):=by
 intro aa s σ H Q I hw;refine isTrue_plain (bJ (h aa s σ H _ I hw) λv s1 ⟨x,H1,I1,r1,q1⟩=>?_) (he _)
 obtain⟨d,rfl,q⟩:=q1
 cases r1;exact wpAny_truthy_bool ⟨H1,I1,q⟩
variable{tA Mv:TT}{rest:List Expr}
noncomputable def Oz(t u:TT):TT:=λσ H Q=>t σ H λc H1=>if c=true then u σ H1 Q else Q false H1
noncomputable def RY(t u:TT):TT:=λσ H Q=>t σ H λc H1=>if c=true then Q true H1 else u σ H1 Q
noncomputable def OE(t:TT):TT:=λσ H Q=>t σ H λc H1=>Q (!c) H1
def pw_and1(ha:PT X a tA):PW X (.BoolOp .And [a] pos) tA:=by
 intro wh aa s σ H Q I h;refine isTrue_and (bJ (ha aa s σ H Q I h) λc s1 e=>?_)
 cases c with
 |true=>exact isTrue_and_nil e
 |false=>exact e
def pw_or1(ha:PT X a tA):PW X (.BoolOp .Or [a] pos) tA:=by
 intro wh aa s σ H Q I h;refine isTrue_or (bJ (ha aa s σ H Q I h) λc s1 e=>?_)
 cases c with
 |false=>exact isTrue_or_nil e
 |true=>exact e
def pw_and(ha:PT X a tA)(hb:PW X (.BoolOp .And (b::rest) pos) Mv):PW X (.BoolOp .And (a::b::rest) pos) (Oz tA Mv):=by
 intro wh aa s σ H Q I h;refine isTrue_and (bJ (ha aa s σ H _ I h) λc s1 ⟨H1,I1,q1⟩=>?_)
 cases c with
 |true=>exact hb wh aa s1 σ H1 Q I1 q1
 |false=>exact⟨H1,I1,q1⟩
def pw_or(ha:PT X a tA)(hb:PW X (.BoolOp .Or (b::rest) pos) Mv):PW X (.BoolOp .Or (a::b::rest) pos) (RY tA Mv):=by
 intro wh aa s σ H Q I h;refine isTrue_or (bJ (ha aa s σ H _ I h) λc s1 ⟨H1,I1,q1⟩=>?_)
 cases c with
 |true=>exact⟨H1,I1,q1⟩
 |false=>exact hb wh aa s1 σ H1 Q I1 q1
def Ia(ha:PT X a tA):PT X (.UnaryOp .Not a pos) (OE tA):=by
 intro aa s σ H Q I h;exact isTrue_not (ha aa s σ H (λc H1=>Q (!c) H1) I h)
noncomputable def Lz(ta tb:TE):TE:=λσ H Q=>ta σ H λx H1=>∃c,x=.bl c/\if c=true then tb σ H1 Q else Q (.bl false) H1
noncomputable def OF(ta tb:TE):TE:=λσ H Q=>ta σ H λx H1=>∃c,x=.bl c/\if c=true then Q (.bl true) H1 else tb σ H1 Q
noncomputable def LF(ta:TE):TE:=λσ H Q=>ta σ H λx H1=>∃c,x=.bl c/\Q (.bl (!c)) H1
def Ad{op}{t:TE}(h:PE X a t):PE X (.BoolOp op [a] pos) t:=λaa s σ H Q I hw=>BoolOp_one (h aa s σ H Q I hw)
def HM(ha:PE X a ta)(hb:PE X (.BoolOp .And (b::rest) pos) tb):PE X (.BoolOp .And (a::b::rest) pos) (Lz ta tb):=by
 intro aa s σ H Q I h;refine BoolOp_and (bJ (ha aa s σ H _ I h) λv s1 ⟨x,H1,I1,r1,q1⟩=>?_)
 obtain⟨c,rfl,q1⟩:=q1
 cases r1;refine wpAny_truthy_bool ?_;cases c with
 |true=>exact hb aa s1 σ H1 Q I1 q1
 |false=>exact⟨.bl false,H1,I1,rfl,q1⟩
def Li(ha:PE X a ta)(hb:PE X (.BoolOp .Or (b::rest) pos) tb):PE X (.BoolOp .Or (a::b::rest) pos) (OF ta tb):=by
 intro aa s σ H Q I h;refine BoolOp_or (bJ (ha aa s σ H _ I h) λv s1 ⟨x,H1,I1,r1,q1⟩=>?_)
 obtain⟨c,rfl,q1⟩:=q1
 cases r1;refine wpAny_truthy_bool ?_;cases c with
 |false=>exact hb aa s1 σ H1 Q I1 q1
 |true=>exact⟨.bl true,H1,I1,rfl,q1⟩
def HR(ha:PE X a ta):PE X (.UnaryOp .Not a pos) (LF ta):=by
 intro aa s σ H Q I h;refine UnaryOp_ (bJ (ha aa s σ H _ I h) λv s1 ⟨x,H1,I1,r1,q1⟩=>?_)
 obtain⟨c,rfl,q1⟩:=q1
 cases r1;exact not_of (wpAny_truthy_bool ⟨.bl (!c),H1,I1,rfl,q1⟩)
noncomputable def RX(t:TT)(ta tb:TE):TE:=λσ H Q=>t σ H λc H1=>if c=true then ta σ H1 Q else tb σ H1 Q
def Ab{c:Expr}(hc:PT X c tA)(ha:PE X a ta)(hb:PE X b tb):PE X (.IfExp c a b pos) (RX tA ta tb):=by
 intro aa s σ H Q I h;refine wpAny_IfExp (bJ (hc aa s σ H _ I h) λd s1 ⟨H1,I1,q1⟩=>?_)
 cases d with
 |true=>exact ha aa s1 σ H1 Q I1 q1
 |false=>exact hb aa s1 σ H1 Q I1 q1
end
def iW(K:zz8)(H:Hp)(a:Addr)(xs:List V):Prop:=
 Rd H a (.lst xs)\/
  ∃(o:Obj) (aw:Array Value) (n:Nat),K.lookup a=some o/\o.cls=.type "list"/\o.dict=none/\o.data=.seq aw n/\aw.size<=sizeLine/\Vals xs aw.toList
def eU(K:zz8)(H:Hp)(a:Addr)(xs:List V):Prop:=
 Rd H a (.tup xs)\/
  ∃(o:Obj) (aw:Array Value) (n:Nat),K.lookup a=some o/\o.cls=.type "tuple"/\o.data=.seq aw n/\aw.size<=sizeLine/\Vals xs aw.toList
noncomputable def MR:Value->Option V
 |.none=>some .aM
 |.bool b=>some (.bl b)
 |.int i _=>some (.int i)
 |.str x _=>some (.str x)
 |.bytes b _=>some (.MU b)
 |.float b _=>some (.M6 b)
 |.ref a=>some (.ref a)
 |.type n=>some (.ty n)
 |_=>none
def RelV.abs{x:V}{u:Value}(r:RelV x u):MR u=some x:=by
 cases x with
 |aM=>cases r;rfl
 |bl _=>cases r;rfl
 |int _=>obtain⟨t,rfl⟩:=r;rfl
 |str _=>obtain⟨t,rfl⟩:=r;rfl
 |MU _=>obtain⟨t,rfl⟩:=r;rfl
 |M6 _=>obtain⟨t,rfl⟩:=r;rfl
 |ref _=>cases r;rfl
 |ty _=>cases r;rfl
def RelV.inj{x y:V}{u:Value}(r:RelV x u)(q:RelV y u):x=y:=zzq (r.abs.symm.trans q.abs)
theorem Vals.inj:∀{xs ys:List V} {us:List Value},Vals xs us->Vals ys us->xs=ys
 |_,_,_,.nil,.nil=>rfl
 |_,_,_,.cons r t,.cons r' t'=>by rw [r.inj r',Vals.inj t t']
section
variable{X:Cx}{aa:List (Addr×Obj)}{σ:St}{H:Hp}{s:Shared}{a:Addr}{xs ys:List V}
def iW.of{K:zz8}(h:H a=some (.lst xs)):iW K H a xs:=.inl (.inl h)
def Inv.list(I:Inv X aa σ H s)(h:iW X.K H a xs):∃aw:List Value,Vals xs aw/\PlainL s.heap a aw.toArray/\xs.length<=sizeLine:=by
 rcases h with h|⟨o,aw,n,hk,hc,hd,hs,hz,r⟩
 ·obtain⟨z,aw,n,r,e⟩:=h.ok I.aN
  exact⟨aw,r,⟨_,n,e,rfl,rfl,rfl⟩,z⟩
 ·refine⟨aw.toList,r,⟨o,n,I.qx a o hk,hc,hd,by simpa using hs⟩,?_⟩;have e:=r.length
  simp! [zzd] at e;omega
def Inv.tuple(I:Inv X aa σ H s)(h:eU X.K H a xs):∃aw:List Value,Vals xs aw/\IsTup s.heap a aw.toArray/\xs.length<=sizeLine:=by
 rcases h with h|⟨o,aw,n,hk,hc,hs,hz,r⟩
 ·obtain⟨z,aw,r,p⟩:=h.ok I.aN
  exact⟨aw,r,p,z⟩
 ·refine⟨aw.toList,r,⟨o,I.qx a o hk,hc,n,by simpa using hs⟩,?_⟩;have e:=r.length
  simp! [zzd] at e;omega
def Inv.qB(I:Inv X aa σ H s)(h:iW X.K H a xs)(h':iW X.K H a ys):xs=ys:=by
 obtain⟨aw,r,⟨o,n,e,_,_,d⟩,_⟩:=I.list h
 obtain⟨its',r',⟨o',n',e',_,_,d'⟩,_⟩:=I.list h'
 rw [e] at e';cases e';rw [d] at d'
 injection d' with d1 _
 have:aw=its':=by simpa using congrArg Array.toList d1
 subst this;exact r.inj r'
def Inv.nC(I:Inv X aa σ H s)(h:eU X.K H a xs)(h':eU X.K H a ys):xs=ys:=by
 obtain⟨aw,r,⟨o,e,_,n,d⟩,_⟩:=I.tuple h
 obtain⟨its',r',⟨o',e',_,n',d'⟩,_⟩:=I.tuple h'
 rw [e] at e';cases e';rw [d] at d'
 injection d' with d1 _
 have:aw=its':=by simpa using congrArg Array.toList d1
 subst this;exact r.inj r'
variable{st:Stmt}{rest:List Stmt}{t u:TS}{e:Expr}{te:TE}{pos:Pos}
def LD:TS:=λD σ H=>D.nx σ H
noncomputable def OI(t u:TS):TS:=λD σ H=>t {D with nx:=u D} σ H
def DC:tO X [] LD:=λ_ _ σ H _ I h=>wpAny_execs_nil ⟨σ,H,I,h⟩
def Au(h1:PS X st t)(h2:tO X rest u):tO X (st::rest) (OI t u):=by
 intro aa s σ H D I h;refine wpAny_execs_cons (bJ (h1 aa s σ H {D with nx:=u D} I h) λf s1 q=>?_)
 cases f with
 |next=>
  obtain⟨σ',H',I',q⟩:=q
  exact h2 aa s1 σ' H' D I' q
 |ret v=>exact q
 |brk=>exact q
 |cont=>exact q
def IH:TS:=λD σ H=>D.bk σ H
def Aq:PS X (.Break pos) IH:=λ_ _ σ H _ I h=>wpAny_Break ⟨σ,H,I,h⟩
def Inv.quiet{aa:List (Addr×Obj)}{σ:St}{H:Hp}{s:Shared}(I:Inv X aa σ H s):interactive X.env=false:=by simp [interactive,I.ok.kind]
noncomputable def LB(te:TE):TS:=λD σ H=>te σ H λ_ H1=>D.nx σ H1
theorem oV(he:PE X e te)(hs:swapsWith e none pos.line X.env=pure false:=by rfl):PS X (.Expr e pos) (LB te):=by
 intro aa s σ H D I h;exact wpAny_Expr_any (bJ (he aa s σ H _ I h) λv s1 ⟨x,H1,I1,r1,q1⟩=>⟨σ,H1,I1,q1⟩) I.quiet hs
noncomputable def OH(te:TE):TS:=λD σ H=>te σ H D.rt
def H9(he:PE X e te):PS X (.Return (some e) pos) (OH te):=by
 intro aa s σ H D I h;exact wpAny_Return_some (bJ (he aa s σ H _ I h) λv s1 ⟨x,H1,I1,r1,q1⟩=>⟨x,σ,H1,I1,r1,q1⟩)
noncomputable def OB(c:TT)(t u:TS):TS:=λD σ H=>c σ H λb H1=>if b=true then t D σ H1 else u D σ H1
def Lm{c:Expr}{a b:List Stmt}{tc:TT}(hc:PT X c tc)(ha:tO X a t)(hb:tO X b u):PS X (.If c a b pos) (OB tc t u):=by
 intro aa s σ H D I h;refine wpAny_If (bJ (hc aa s σ H _ I h) λd s1 ⟨H1,I1,q1⟩=>?_)
 cases d with
 |true=>exact ha aa s1 σ H1 D I1 q1
 |false=>exact hb aa s1 σ H1 D I1 q1
end
noncomputable abbrev TG:=V->St->Hp->(St->Hp->Prop)->Prop
noncomputable abbrev Eg:=List V->St->Hp->(St->Hp->Prop)->Prop
def PG(X:Cx)(target:Expr)(t:TG):Prop:=
 ∀(aa:List (Addr×Obj)) (s:Shared) (σ:St) (H:Hp) (v:V) (u:Value) (Q:St->Hp->Prop),Inv X aa σ H s->RelV v u->t v σ H Q->
  wpAny (model X.prog X.w) X.A (assign target X.env u) (λ_ s'=>∃σ' H',Inv X aa σ' H' s'/\Q σ' H') X.xe s
def JE(X:Cx)(ts:List Expr)(t:Eg):Prop:=
 ∀(aa:List (Addr×Obj)) (s:Shared) (σ:St) (H:Hp) (vs:List V) (us:List Value) (Q:St->Hp->Prop),Inv X aa σ H s->Vals vs us->t vs σ H Q->
  wpAny (model X.prog X.w) X.A (assignInOrder ((assignEach ts X.env).map (·.2)) us) (λ_ s'=>∃σ' H',Inv X aa σ' H' s'/\Q σ' H') X.xe s
noncomputable abbrev Fe:=V->V->V->Hp->(Hp->Prop)->Prop
def JF(X:Cx)(t:Fe):Prop:=
 ∀(aa:List (Addr×Obj)) (s:Shared) (σ:St) (H:Hp) (o i v:V) (ov iv u:Value) (Q:Hp->Prop),Inv X aa σ H s->RelV o ov->RelV i iv->RelV v u->t o i v H Q->
  wpAny (model X.prog X.w) X.A (setItem ov iv u) (λ_ s'=>∃H',Inv X aa σ H' s'/\Q H') X.xe s
section
variable{X:Cx}{pos:Pos}
noncomputable def fU(i:Nat):TG:=λv σ H Q=>Q (σ.set i (some v)) H
def Dv{i:Nat}{x:Str}(hN:X.N.Nodup)(hi:X.N[i]?=some x)(hx:Loc X.env.scope x)(hf:X.fn x=true\/X.env.scope.names.lookup x=some .local:=by first|exact .inl rfl|exact .inr rfl|assumption):PG X (.Name x pos) (fU i):=by
 intro aa s σ H v u Q I r h;exact wpAny_assign_Name (rb I hN hi hx r (λs' I'=>⟨_,H,I',h⟩) hf)
noncomputable def F4:Eg:=λvs σ H Q=>vs=[]/\Q σ H
noncomputable def uv(t:TG)(u:Eg):Eg:=λvs σ H Q=>∃v r,vs=v::r/\t v σ H λσ' H'=>u r σ' H' Q
def Dw:JE X [] F4:=by
 intro aa s σ H vs us Q I r h;obtain⟨e,h⟩:=h
 subst e;cases r;exact assignInOrder_nil ⟨σ,H,I,h⟩
theorem Ai{e:Expr}{es:List Expr}{t:TG}{u:Eg}(h1:PG X e t)(h2:JE X es u)
 (hs:(assignEach (e::es) X.env).map (·.2)=assign e X.env::(assignEach es X.env).map (·.2):=by rfl):JE X (e::es) (uv t u):=by
 intro aa s σ H vs us Q I r h;obtain⟨v,vr,e1,h⟩:=h
 subst e1;cases r with
 |cons r rr=>
  rw [hs];refine assignInOrder_cons (bJ (h1 aa s σ H _ _ _ I r h) λ_ s1 ⟨σ1,H1,I1,q1⟩=>?_)
  exact h2 aa s1 σ1 H1 _ _ Q I1 rr q1
noncomputable def Kc(K:zz8)(n:Nat)(t:Eg):TG:=λv σ H Q=>∃a xs,v=.ref a/\eU K H a xs/\xs.length=n/\t xs σ H Q
theorem HW{es:List Expr}{k:Nat}{t:Eg}{n:Nat}(hc:X.calm=true)(h:JE X es t)
 (hn:(assignEach es X.env).length=n:=by rfl) (dh:(assignEach es X.env).findIdx? (·.1)=none:=by rfl):PG X (.Tuple es k pos) (Kc X.K n t):=by
 intro aa s σ H v u Q I r hw;obtain⟨a,xs,e1,hq,hl,hw⟩:=hw
 subst e1;cases r;obtain⟨aw,rv,ht,hz⟩:=I.tuple hq
 refine assign_Tuple_tuple (I.ok.hd hc) ht (by simp [hn,<-hl,rv.length]) dh λh' hx=>?_
 have I1:Inv X aa σ H {s with heap:=h'}:=I.kept (t':=s.toks) λb o e=>hx b o (zzb (zzO e)) e
 exact h aa _ σ H xs _ Q I1 (by simpa using rv) hw
noncomputable def Na(to ti:TE)(t:Fe):TG:=λv σ H Q=>to σ H λo H1=>ti σ H1 λi H2=>t o i v H2 λH3=>Q σ H3
def Ah{o i:Expr}{to ti:TE}{t:Fe}(ho:PE X o to)(hi:PE X i ti)(hs:JF X t)
 (ha:∀v,assign (.Subscript o i pos) X.env v=(do
  let ov<-holding [v] (eval o X.env)
  let iv<-holding [v,ov] (eval i X.env)
  standAt pos
  holding [v,ov,iv] (setItem ov iv v)
  release [v,ov,iv] []):=by intro _;rfl):PG X (.Subscript o i pos) (Na to ti t):=by
 intro aa s σ H v u Q I r h;rw [ha];refine zzA (wpAny_holding (bJ (ho aa s σ H _ I h) λov s1 ⟨x,H1,I1,r1,q1⟩=>?_))
 refine zzA (wpAny_holding (bJ (hi aa s1 σ H1 _ I1 q1) λiv s2 ⟨y,H2,I2,r2,q2⟩=>?_))
 refine zzA (wpAny_standAt (zzA (wpAny_holding (bJ (hs aa s2 σ H2 x y v ov iv u _ I2 r1 r2 r q2) λ_ s3 ⟨H3,I3,q3⟩=>?_))))
 exact wpAny_release ⟨σ,H3,I3,q3⟩
noncomputable def DY(te:TE)(g:TG):TS:=λD σ H=>te σ H λx H1=>g x σ H1 D.nx
theorem Ap{tg e:Expr}{te:TE}{g:TG}(he:PE X e te)(hg:PG X tg g)(hs:swapsWithSole [tg] e pos.line X.env=pure false:=by rfl)(hw:swappedStores [tg] e X.env=pure none:=by rfl)
 (h1:(assignEach [tg] X.env).map (·.2)=[assign tg X.env]:=by rfl):PS X (.Assign [tg] e pos) (DY te g):=by
 intro aa s σ H D I h;refine wpAny_Assign_stores (bJ (he aa s σ H _ I h) λv s1 ⟨x,H1,I1,r1,q1⟩=>?_) hs hw
 rw [h1];exact bJ (hg aa s1 σ H1 x v _ I1 r1 q1) λ_ s2 q=>q
theorem lF{i:Nat}{x:Str}{e:Expr}{te:TE}{pos':Pos}(hN:X.N.Nodup)(hi:X.N[i]?=some x)(hx:Loc X.env.scope x)(he:PE X e te)(hs:swapsWith e (some (.Name x pos')) pos.line X.env=pure false:=by rfl)(hf:X.fn x=true\/X.env.scope.names.lookup x=some .local:=by first|exact .inl rfl|exact .inr rfl|assumption):
 PS X (.Assign [.Name x pos'] e pos) (DY te (fU i)):=by
 intro aa s σ H D I h;refine wpAny_Assign_Name (bJ (he aa s σ H _ I h) λv s1 ⟨y,H1,I1,r1,q1⟩=>?_) hs
 exact rb I1 hN hi hx r1 (λs2 I2=>⟨_,H1,I2,q1⟩) hf
noncomputable def IL(c:TT)(tb:TS):TS:=λD σ H=>∃W:Nat->St->Hp->Prop,(∃m,W m σ H)/\∀m σ H,W m σ H->
 c σ H λb H1=>if b=true then∃N:St->Hp->Prop,(∀σ' H',N σ' H'->∃m',m'<m/\W m' σ' H')/\tb {D with nx:=N,ct:=N,bk:=D.nx} σ H1 else D.nx σ H1
def As{c:Expr}{body:List Stmt}{tc:TT}{tb:TS}(hp:PassesOwn (model X.prog X.w) X.A X.env X.xe)(hc:PT X c tc)(hb:tO X body tb):PS X (.While c body [] pos) (IL tc tb):=by
 intro aa s σ H D I h;obtain⟨W,⟨m0,w0⟩,turn⟩:=h
 refine wpAny_While (codeAny_whileLoop (λn s'=>∃σ' H',Inv X aa σ' H' s'/\W n σ' H') ?_ m0 ⟨σ,H,I,w0⟩)
 rintro n s1 ⟨σ1,H1,I1,w1⟩
 refine wpAny_passesOwn hp (bJ (hc aa s1 σ1 H1 _ I1 (turn n σ1 H1 w1)) λb s2 ⟨H2,I2,q2⟩=>?_)
 cases b with
 |true=>
  obtain⟨N,hN,q2⟩:=q2
  rw [if_pos rfl];refine wpAny_passesOwn hp (bJ (hb aa s2 σ1 H2 _ I2 q2) λf s3 q3=>?_)
  cases f with
  |next=>
   obtain⟨σ3,H3,I3,n3⟩:=q3
   obtain⟨m',hm,w3⟩:=hN σ3 H3 n3
   exact⟨m',hm,σ3,H3,I3,w3⟩
  |cont=>
   obtain⟨σ3,H3,I3,n3⟩:=q3
   obtain⟨m',hm,w3⟩:=hN σ3 H3 n3
   exact⟨m',hm,σ3,H3,I3,w3⟩
  |brk=>exact q3
  |ret v=>exact q3
 |false=>
  rw [if_neg zzf];exact wpAny_execs_nil ⟨σ1,H2,I2,q2⟩
end
structure It where
 go:Nat->Hp->Prop
 Ju:Nat->Hp->V->Hp->Prop
 stop:Nat->Hp->Prop
def dN(X:Cx)(aa:List (Addr×Obj))(H:Hp)(b:Addr):Prop:=
 H b=none/\b≠X.env.locals/\b∉X.fs/\(b∈X.ex\/X.s₀.heap.objs.size<=b)/\(∀x c,X.env.cells.lookup x=some c->c≠b)/\∀p∈X.pn++aa,p.1≠b
def Inv.js{X:Cx}{aa:List (Addr×Obj)}{σ:St}{H H':Hp}{s:Shared}{b:Addr}(I:Inv X aa σ H s)(hb:(zz9 s)<=b)(hn:H' b=none):dN X aa H' b:=by
 refine⟨hn,Nat.ne_of_gt (zzW I.lt hb),I.N4 hb,.inr (zzU I.sz hb),λx c e z=>?_,λp hp z=>?_⟩
 ·obtain⟨v,q⟩:=I.cell x c e
  exact absurd (zzW q.lt (by rw [z];exact hb)) (Nat.lt_irrefl _)
 ·exact absurd (zzW (zzO (I.pin p hp).1) (by rw [z];exact hb)) (Nat.lt_irrefl _)
structure Turn(P:Program)(w:World)(K:zz8)(tg:Expr)(J:It)(fp:List Addr)(it:Addr)(tn:Nat->Heap->Prop):Prop where
 mem:it∈fp
 obj:∀i h,tn i h->∀b∈fp,∃o,h.get? b=some o/\∀v,o.data≠.cell v
 keep:∀i h h',tn i h->(∀b∈fp,∀o,h.get? b=some o->h'.get? b=some o)->tn i h'
 item:∀(X:Cx),X.prog=P->X.w=w->X.K=K->X.calm=true->∀(i:Nat) (aa:List (Addr×Obj)) (s:Shared) (σ:St) (H:Hp) (E:Value->Shared->Prop),Inv X aa σ H s->(∀b∈fp,dN X aa H b)->tn i s.heap->J.go i H->
  wpAny (model P w) X.A (pyNext (.ref it)) (λr s1=>∃u,r=some u/\
   wpAny (model P w) X.A (letOwnedTupleGo tg (.ref it) u) (λ_ s2=>∃x H',Inv X aa σ H' s2/\RelV x u/\J.Ju i H x H'/\tn (i+1) s2.heap/\∀b∈fp,H' b=none) E s1) E s
 done:∀(X:Cx),X.prog=P->X.w=w->X.K=K->X.calm=true->∀(i:Nat) (aa:List (Addr×Obj)) (s:Shared) (σ:St) (H:Hp) (E:Value->Shared->Prop),Inv X aa σ H s->(∀b∈fp,dN X aa H b)->tn i s.heap->J.stop i H->
  wpAny (model P w) X.A (pyNext (.ref it)) (λr s1=>r=none/\Inv X aa σ H s1) E s
 self:∀(A:Around) (i:Nat) (s:Shared) (Q:Value->Shared->Prop) (E:Value->Shared->Prop),tn i s.heap->Q (.ref it) s->wpAny (model P w) A (pyIter (.ref it)) Q E s
noncomputable abbrev TI:=St->Hp->(It->Hp->Prop)->Prop
def OQ(X:Cx)(aa:List (Addr×Obj))(σ:St)(tg:Expr)(R:It->Hp->Prop)(NM:Value)(s2:Shared):Prop:=
 ∃(it:Addr) (fp:List Addr) (tn:Nat->Heap->Prop) (J:It) (H':Hp),NM=.ref it/\Inv X aa σ H' s2/\Turn X.prog X.w X.K tg J fp it tn/\tn 0 s2.heap/\(∀b∈fp,dN X aa H' b)/\R J H'
def PI(X:Cx)(tg iter:Expr)(wi:TI):Prop:=
 ∀(aa:List (Addr×Obj)) (s:Shared) (σ:St) (H:Hp) (R:It->Hp->Prop),Inv X aa σ H s->wi σ H R->
  wpAny (model X.prog X.w) X.A (eval iter X.env) (λv s1=>wpAny (model X.prog X.w) X.A (pyIter v) (OQ X aa σ tg R) X.xe s1) X.xe s
def uA{M:Model}{A:Around}{E:Value->Shared->Prop}{s:Shared}{tg:Expr}{it:Addr}{u:Value}{o:Obj}{n:String}{vs:Array Value}{Q:Unit->Shared->Prop}(ho:s.heap.get? it=some o)(hc:o.cls=.type n)(hd:o.data=.fields vs)
 (hn:["enumerate","zip","dict_itemiterator","dict_reverseitemiterator","odict_iterator","itertools.zip_longest","itertools.pairwise"].contains n=false) (hQ:Q () s):wpAny M A (letOwnedTupleGo tg (.ref it) u) Q E s:=by
 unfold letOwnedTupleGo;cases tg<;>first
  |exact zzG hQ
  |(cases u<;>first
   |exact zzG hQ
   | (refine zzA (wpAny_load ho ?_)
      rw [hc,hd];show wpAny M A (if(["enumerate","zip","dict_itemiterator","dict_reverseitemiterator","odict_iterator","itertools.zip_longest","itertools.pairwise"].contains n&&vs[0]?==some (rawInt _))=true then _ else _) Q E s;rw [if_neg (by intro h;rw [hn,Bool.false_and] at h;cases h)];exact zzG hQ))
noncomputable def MI(K:zz8)(a:Addr):It:=
 ⟨λi H=>∃xs x,iW K H a xs/\xs[i]?=some x,λi H x H'=>H'=H/\∀xs,iW K H a xs->xs[i]?=some x,λi H=>∃xs,iW K H a xs/\xs.length<=i⟩
noncomputable def MJ(K:zz8)(a:Addr):It:=
 ⟨λi H=>∃xs x,eU K H a xs/\xs[i]?=some x,λi H x H'=>H'=H/\∀xs,eU K H a xs->xs[i]?=some x,λi H=>∃xs,eU K H a xs/\xs.length<=i⟩
noncomputable def JB(lo:Int)(n:Nat):It:=⟨λi _=>i<n,λi H x H'=>H'=H/\x=.int (lo+i),λi _=>n<=i⟩
def xD{P:Program}{w:World}{K:zz8}{tg:Expr}(a it:Addr):Turn P w K tg (MI K a) [it] it (λi h=>h.IsListIter it a i) where
 mem:=by simp
 obj:=λi h st b hb=>by
  have e:b=it:=by simpa using hb
  subst e;obtain⟨o,e,c,d⟩:=st
  exact⟨o,e,λv z=>by rw [d] at z;cases z⟩
 keep:=λi h h' st k=>st.at λo e=>k it (by simp) o e
 item:=by
  intro X hP hw hK hc i aa s σ H E I hf st hg;subst hP hw hK;obtain⟨xs,x,hq,hx⟩:=hg
  obtain⟨aw,rv,p,hz⟩:=I.list hq
  obtain⟨u,hu,ru⟩:=rv.get hx
  obtain⟨f0,f1,f2,f3,f4,f5⟩:=hf it (by simp)
  refine wpAny_pyNext_list_item st p.isList (x:=u) (by simpa using hu) λh' j6 sb=>?_
  have I1:Inv X aa σ H {s with heap:=h'}:=I.turned (t':=s.toks) (λb o hb e=>(sb.2 b hb).trans e) f0 f1 f3 f4 f5
  obtain⟨o,e,c,d⟩:=id j6
  exact⟨u,rfl,uA (s:={s with heap:=h'}) e c d (by decide) ⟨x,H,I1,ru,⟨rfl,λys hy=>by rw [I.qB hy hq];exact hx⟩,j6,λb hb=>(hf b hb).1⟩⟩
 done:=by
  intro X hP hw hK hc i aa s σ H E I hf st hg;subst hP hw hK;obtain⟨xs,hq,hx⟩:=hg
  obtain⟨aw,rv,p,hz⟩:=I.list hq
  obtain⟨f0,f1,f2,f3,f4,f5⟩:=hf it (by simp)
  have hl:=rv.length
  exact wpAny_pyNext_list_end (I.ok.hd hc) st p.isList (by simp;omega) λh' eb=>⟨rfl,I.turned (t':=s.toks) (λb o hb e=>eb b o hb e) f0 f1 f3 f4 f5⟩
 self:=λ_ _ _ _ _ st h=>wpAny_pyIter_listiter st h
def tD{P:Program}{w:World}{K:zz8}{tg:Expr}(a it:Addr):Turn P w K tg (MJ K a) [it] it (λi h=>h.IsTupleIter it a i) where
 mem:=by simp
 obj:=λi h st b hb=>by
  have e:b=it:=by simpa using hb
  subst e;obtain⟨o,e,c,d⟩:=st
  exact⟨o,e,λv z=>by rw [d] at z;cases z⟩
 keep:=λi h h' st k=>st.at λo e=>k it (by simp) o e
 item:=by
  intro X hP hw hK hc i aa s σ H E I hf st hg;subst hP hw hK;obtain⟨xs,x,hq,hx⟩:=hg
  obtain⟨aw,rv,p,hz⟩:=I.tuple hq
  obtain⟨u,hu,ru⟩:=rv.get hx
  obtain⟨f0,f1,f2,f3,f4,f5⟩:=hf it (by simp)
  refine wpAny_pyNext_tuple_item st (show s.heap.IsTuple a aw.toArray from p) (x:=u) (by simpa using hu) λh' j6 sb=>?_
  have I1:Inv X aa σ H {s with heap:=h'}:=I.turned (t':=s.toks) (λb o hb e=>(sb.2 b hb).trans e) f0 f1 f3 f4 f5
  obtain⟨o,e,c,d⟩:=id j6
  exact⟨u,rfl,uA (s:={s with heap:=h'}) e c d (by decide) ⟨x,H,I1,ru,⟨rfl,λys hy=>by rw [I.nC hy hq];exact hx⟩,j6,λb hb=>(hf b hb).1⟩⟩
 done:=by
  intro X hP hw hK hc i aa s σ H E I hf st hg;subst hP hw hK;obtain⟨xs,hq,hx⟩:=hg
  obtain⟨aw,rv,p,hz⟩:=I.tuple hq
  obtain⟨f0,f1,f2,f3,f4,f5⟩:=hf it (by simp)
  have hl:=rv.length
  exact wpAny_pyNext_tuple_end (I.ok.hd hc) st (show s.heap.IsTuple a aw.toArray from p) (by simp;omega) λh' eb=>⟨rfl,I.turned (t':=s.toks) (λb o hb e=>eb b o hb e) f0 f1 f3 f4 f5⟩
 self:=λ_ _ _ _ _ st h=>wpAny_pyIter_tupleiter st h
def tx{P:Program}{w:World}{K:zz8}{tg:Expr}(it:Addr)(lo:Int)(n:Nat):Turn P w K tg (JB lo n) [it] it (λi h=>IsRangeIter h it (lo+(i:Nat)*1) ((n:Int)-(i:Nat)) 1) where
 mem:=by simp
 obj:=λi h st b hb=>by
  have e:b=it:=by simpa using hb
  subst e;exact⟨_,st,λv z=>by
   have z':Data.fields _=Data.cell v:=z
   cases z'⟩
 keep:=λi h h' st k=>k it (by simp) _ st
 item:=by
  intro X hP hw hK hc i aa s σ H E I hf st hg;subst hP hw hK;obtain⟨f0,f1,f2,f3,f4,f5⟩:=hf it (by simp)
  have W:=Walks.range (prog:=X.prog) (w:=X.w) (I.ok.hd hc) it lo 1 n
  refine W.item i s _ _ hg st λv h' tk hv j6 kk=>?_
  obtain⟨t,rfl⟩:=hv
  have I1:Inv X aa σ H {s with heap:=h',toks:=tk}:=I.turned (λb o hb e=>kk b o (by simpa using hb) e) f0 f1 f3 f4 f5
  refine⟨_,rfl,uA (s:={s with heap:=h',toks:=tk}) (n:="range_iterator") j6 rfl rfl (by decide) ⟨.int (lo+i),H,I1,⟨t,?_⟩,⟨rfl,rfl⟩,j6,λb hb=>(hf b hb).1⟩⟩
  rw [Int.mul_one]
 done:=by
  intro X hP hw hK hc i aa s σ H E I hf st hg;subst hP hw hK;obtain⟨f0,f1,f2,f3,f4,f5⟩:=hf it (by simp)
  exact wpAny_pyNext_range_end (I.ok.hd hc) st (by have:n<=i:=hg;omega) λh' eb=>⟨rfl,I.turned (t':=s.toks) (λb o hb e=>eb b o hb e) f0 f1 f3 f4 f5⟩
 self:=λ_ _ _ _ _ st h=>wpAny_pyIter_rangeiter st h
section
variable{X:Cx}{tg:Expr}
noncomputable def KN(K:zz8)(tl:TE):TI:=λσ H R=>tl σ H λx H1=>∃a,x=.ref a/\(∃xs,iW K H1 a xs)/\R (MI K a) H1
noncomputable def NI(K:zz8)(tl:TE):TI:=λσ H R=>tl σ H λx H1=>∃a,x=.ref a/\(∃xs,eU K H1 a xs)/\R (MJ K a) H1
def u4{l:Expr}{tl:TE}(hl:PE X l tl):PI X tg l (KN X.K tl):=by
 intro aa s σ H R I h;refine bJ (hl aa s σ H _ I h) λv s1 ⟨x,H1,I1,r1,q1⟩=>?_
 obtain⟨a,e,⟨xs,hq⟩,q⟩:=q1
 subst e;cases r1;obtain⟨aw,rv,p,hz⟩:=I1.list hq
 refine wpAny_pyIter_list p.isList ?_;refine⟨(zz9 s1),[(zz9 s1)],_,_,H1,rfl,I1.kept (t':=s1.toks) λb o e=>zzB _ e,xD a _,⟨_,zzX _ rfl,rfl,rfl⟩,λb hb=>?_,q⟩
 have e:b=(zz9 s1):=by simpa using hb
 subst e;exact I1.js (zzE _) (I1.aN.fresh (zzE _))
def HY{l:Expr}{tl:TE}(hl:PE X l tl):PI X tg l (NI X.K tl):=by
 intro aa s σ H R I h;refine bJ (hl aa s σ H _ I h) λv s1 ⟨x,H1,I1,r1,q1⟩=>?_
 obtain⟨a,e,⟨xs,hq⟩,q⟩:=q1
 subst e;cases r1;obtain⟨aw,rv,p,hz⟩:=I1.tuple hq
 refine wpAny_pyIter_tuple (show s1.heap.IsTuple a aw.toArray from p) ?_;refine⟨(zz9 s1),[(zz9 s1)],_,_,H1,rfl,I1.kept (t':=s1.toks) λb o e=>zzB _ e,tD a _,⟨_,zzX _ rfl,rfl,rfl⟩,λb hb=>?_,q⟩
 have e:b=(zz9 s1):=by simpa using hb
 subst e;exact I1.js (zzE _) (I1.aN.fresh (zzE _))
def qS{aa:List (Addr×Obj)}{σ:St}{H:Hp}{s:Shared}{R:It->Hp->Prop}{E:Value->Shared->Prop}{lo hi:Int}{t u v:Tok}{tk:Nat}(I:Inv X aa σ H s)(h1: -(2^62)<=lo)(h2:lo<2^62)(h3: -(2^62)<=hi)(h4:hi<2^62)
 (q:R (JB lo (hi-lo).toNat) H):wpAny (model X.prog X.w) X.A (pyIter (.ref (zz9 s))) (OQ X aa σ tg R) E {s with heap:=s.heap.push {cls:=.type "range",data:=.fields #[.int lo t,.int hi u,.int 1 v]},toks:=tk}:=by
 refine wpAny_pyIter_range (IsRange.new ..) (small_one h1 h2 h3 h4) ?_;have I1:Inv X aa σ H {s with heap:=s.heap.push {cls:=.type "range",data:=.fields #[.int lo t,.int hi u,.int 1 v]},toks:=tk}:=I.kept λb o e=>zzB _ e
 refine⟨(s.heap.push {cls:=.type "range",data:=.fields #[.int lo t,.int hi u,.int 1 v]}).objs.size,[(s.heap.push {cls:=.type "range",data:=.fields #[.int lo t,.int hi u,.int 1 v]}).objs.size],_,_,H,rfl,
  I1.kept (t':=tk) λb o e=>zzB _ e,tx _ lo (hi-lo).toNat,?_,λb hb=>?_,q⟩
 ·have e1:lo+((0:Nat):Int)*1=lo:=by simp
  have e2:(((hi-lo).toNat:Nat):Int)-((0:Nat):Int)=Builtin.Range.rangeSize lo hi 1:=by rw [rangeSize_one];split<;>omega
  show IsRangeIter _ _ (lo+((0:Nat):Int)*1) ((((hi-lo).toNat:Nat):Int)-((0:Nat):Int)) 1
  rw [e1,e2];exact zzX _ rfl
 ·have e:b=(s.heap.push {cls:=.type "range",data:=.fields #[.int lo t,.int hi u,.int 1 v]}).objs.size:=by simpa using hb
  subst e;exact I1.js (zzE _) (I1.aN.fresh (zzE _))
noncomputable def KO(ta:TA):TI:=λσ H R=>ta σ H λvs H1=>∃j:Int,vs=[.int j]/\ -(2^62)<=j/\j<2^62/\R (JB 0 j.toNat) H1
noncomputable def KP(ta:TA):TI:=λσ H R=>ta σ H λvs H1=>∃i j:Int,vs=[.int i,.int j]/\(-(2^62)<=i/\i<2^62/\ -(2^62)<=j/\j<2^62)/\R (JB i (j-i).toNat) H1
theorem xk{a:Expr}{ta:TA}{p pos:Pos}(hg:Gl X "range")(hm:X.mg "range"=none)(ha:PA X [a] ta)(hs:starEach [a] X.env=[(false,eval a X.env)]:=by rfl):PI X tg (.Call (.Name "range" p) [a] [] pos) (KO ta):=by
 intro aa s σ H R I h;refine Call_ (eO I hg hm boot_range (PyProof.Rows.callWith_type1 (bJ (ha pos aa s σ H _ I h) λus s1 ⟨vs,H1,I1,r1,q1⟩=>?_) hs rfl))
 obtain⟨j,e,q1,q2,q⟩:=q1
 subst e;cases r1 with
 |cons r rr=>
  cases rr;obtain⟨t,rfl⟩:=r
  exact call_range_1 (qS I1 (by omega) (by omega) q1 q2 (by simpa using q))
theorem xl{a b:Expr}{ta:TA}{p pos:Pos}(hg:Gl X "range")(hm:X.mg "range"=none)(ha:PA X [a,b] ta)(hs:starEach [a,b] X.env=[(false,eval a X.env),(false,eval b X.env)]:=by rfl)(GQ:starEach [b] X.env=[(false,eval b X.env)]:=by rfl):
 PI X tg (.Call (.Name "range" p) [a,b] [] pos) (KP ta):=by
 intro aa s σ H R I h;refine Call_ (eO I hg hm boot_range (PyProof.Rows.callWith_type1 (bJ (ha pos aa s σ H _ I h) λus s1 ⟨vs,H1,I1,r1,q1⟩=>?_) (by rw [hs,GQ]) (by rw [GQ];rfl)))
 obtain⟨i,j,e,⟨q1,q2,q3,q4⟩,q⟩:=q1
 subst e;cases r1 with
 |cons r rr=>
  cases rr with
  |cons r' rr=>
   cases rr;obtain⟨t,rfl⟩:=r
   obtain⟨t',rfl⟩:=r'
   exact call_range_2 (qS I1 q1 q2 q3 q4 q)
noncomputable def OA(wi:TI)(g:TG)(tb:TS):TS:=λD σ H=>wi σ H λJ H1=>∃W:Nat->Nat->St->Hp->Prop,(∃m,W 0 m σ H1)/\∀i m σ H,W i m σ H->
 (J.stop i H/\D.nx σ H)\/(J.go i H/\∃N:St->Hp->Prop,(∀σ' H',N σ' H'->∃m',m'<m/\W (i+1) m' σ' H')/\∀x H',J.Ju i H x H'->g x σ H' λσ2 H2=>tb {D with nx:=N,ct:=N,bk:=D.nx} σ2 H2)
noncomputable def oT(fp:List Addr)(h:Heap):List (Addr×Obj):=fp.filterMap λb=>(h.get? b).map λo=>(b,o)
def di{fp:List Addr}{h:Heap}{b:Addr}{o:Obj}(hb:b∈fp)(e:h.get? b=some o):(b,o)∈oT fp h:=zz1.mpr ⟨b,hb,by rw [e];rfl⟩
def xh{fp:List Addr}{h:Heap}{p:Addr×Obj}(hp:p∈oT fp h):p.1∈fp/\h.get? p.1=some p.2:=by
 obtain⟨b,hb,e⟩:=zz1.mp hp
 cases q:h.get? b with
 |none=>rw [q] at e;cases e
 |some o=>
  rw [q] at e;have e':(b,o)=p:=zzq e
  subst e';exact⟨hb,q⟩
theorem Inv.pinned{aa:List (Addr×Obj)}{σ:St}{H:Hp}{s:Shared}{fp:List Addr}(I:Inv X aa σ H s)(hf:∀b∈fp,dN X aa H b)(ho:∀b∈fp,∃o,s.heap.get? b=some o/\∀v,o.data≠.cell v):Inv X (aa++oT fp s.heap) σ H s:=
 I.eG λp hp=>(List.mem_append.mp hp).elim (λz=>I.pin p (zzR _ z)) λz=>by
  obtain⟨hb,e⟩:=xh z
  obtain⟨f0,f1,f2,_⟩:=hf p.1 hb
  obtain⟨o,e',d⟩:=ho p.1 hb
  rw [e] at e';cases e';exact⟨e,f0,f1,f2,d⟩
def Inv.iS{aa pl:List (Addr×Obj)}{σ:St}{H:Hp}{s:Shared}(I:Inv X (aa++pl) σ H s):Inv X aa σ H s:=I.eG λp hp=>I.pin p (zzR _ (zzc _ hp))
def H8{iter:Expr}{body:List Stmt}{wi:TI}{g:TG}{tb:TS}{pos:Pos}(hp:PassesOwn (model X.prog X.w) X.A X.env X.xe)(hc:X.calm=true)(hi:PI X tg iter wi)(hg:PG X tg g)(hb:tO X body tb)
 (hs:∀x,foldedSetIterable iter X.env x=pure x:=by intro _;rfl):PS X (.For tg iter body [] pos) (OA wi g tb):=by
 intro aa s σ H D I h;refine wpAny_For (bJ (hi aa s σ H _ I h) λv s1 h1=>bJ h1 λNM s2 h2=>?_) hs
 obtain⟨it,fp,tn,J,H2,e,I2,T,Lw,f2,W,⟨m0,w0⟩,turn⟩:=h2
 subst e;have IE:∀{H':Hp},(∀b∈fp,H' b=none)->∀b∈fp,dN X aa H' b:=λhn b hb=>⟨hn b hb,(f2 b hb).2⟩
 refine codeAny_forLoop_any (λn s'=>∃i σ' H',Inv X aa σ' H' s'/\tn i s'.heap/\(∀b∈fp,H' b=none)/\W i n σ' H') ?_ m0 ⟨0,σ,H2,I2,Lw,λb hb=>(f2 b hb).1,w0⟩
 rintro n s3 ⟨i,σ3,H3,I3,st3,fr3,w3⟩
 rcases turn i n σ3 H3 w3 with⟨stop,qn⟩|⟨go,N,hN,step⟩
 ·refine wpAny_passesOwn hp (bJ (T.done X rfl rfl rfl hc i aa s3 σ3 H3 X.xe I3 (IE fr3) st3 stop) λr s4 ⟨hr,I4⟩=>?_)
  subst hr;exact wpAny_execs_nil ⟨σ3,H3,I4,qn⟩
 ·refine wpAny_passesOwn hp (bJ (T.item X rfl rfl rfl hc i aa s3 σ3 H3 X.xe I3 (IE fr3) st3 go) λr s4 ⟨u,hr,h4⟩=>?_)
  subst hr;refine wpAny_passesOwn hp (bJ h4 λ_ s5 ⟨x,H5,I5,r5,y5,st5,fr5⟩=>?_);have MF:=I5.pinned (IE fr5) (T.obj _ _ st5)
  refine wpAny_passesOwn hp (bJ (hg _ s5 σ3 H5 x u _ MF r5 (step x H5 y5)) λ_ s6 ⟨σ6,H6,I6,q6⟩=>?_)
  refine wpAny_passesOwn hp (bJ (hb _ s6 σ6 H6 _ I6 q6) λf s7 q7=>?_)
  have again:∀{σ7:St} {H7:Hp},Inv X (aa++oT fp s5.heap) σ7 H7 s7->N σ7 H7->∃m,m<n/\∃i σ' H',Inv X aa σ' H' s7/\tn i s7.heap/\(∀b∈fp,H' b=none)/\W i m σ' H':=λ{σ7 H7} I7 n7=>by
   obtain⟨m',hm,w7⟩:=hN σ7 H7 n7
   refine⟨m',hm,i+1,σ7,H7,I7.iS,T.keep _ _ _ st5 λb hb o e=>(I7.pin (b,o) (zzR _ (zzR _ (di hb e)))).1,λb hb=>?_,w7⟩
   obtain⟨o,e,d⟩:=T.obj _ _ st5 b hb
   exact(I7.pin (b,o) (zzR _ (zzR _ (di hb e)))).2.1
  cases f with
  |next=>obtain⟨σ7,H7,I7,n7⟩:=q7;exact again I7 n7
  |cont=>obtain⟨σ7,H7,I7,n7⟩:=q7;exact again I7 n7
  |brk=>obtain⟨σ7,H7,I7,q7⟩:=q7;exact⟨σ7,H7,I7.iS,q7⟩
  |ret v=>obtain⟨x7,σ7,H7,I7,r7,q7⟩:=q7;exact⟨x7,σ7,H7,I7.iS,r7,q7⟩
end
noncomputable abbrev R2:=V->V->Hp->VK->Prop
def gK(X:Cx)(f:Value->Value->Sem Value)(r:R2):Prop:=
 ∀(aa:List (Addr×Obj)) (s:Shared) (σ:St) (H:Hp) (x y:V) (v u:Value) (Q:VK),Inv X aa σ H s->RelV x v->RelV y u->r x y H Q->
  wpAny (model X.prog X.w) X.A (f v u) (EP X aa σ Q) X.xe s
def L0(X:Cx)(f:Value->Sem Value)(r:V->Hp->VK->Prop):Prop:=
 ∀(aa:List (Addr×Obj)) (s:Shared) (σ:St) (H:Hp) (x:V) (v:Value) (Q:VK),Inv X aa σ H s->RelV x v->r x H Q->
  wpAny (model X.prog X.w) X.A (f v) (EP X aa σ Q) X.xe s
def dH(X:Cx)(f:Value)(r:List V->Hp->VK->Prop):Prop:=
 ∀(aa:List (Addr×Obj)) (s:Shared) (σ:St) (H:Hp) (xs:List V) (us:List Value) (Q:VK),Inv X aa σ H s->Vals xs us->r xs H Q->
  wpAny (model X.prog X.w) X.A (call f us) (EP X aa σ Q) X.xe s
noncomputable def IJ(r:R2)(ta tb:TE):TE:=λσ H Q=>ta σ H λx H1=>tb σ H1 λy H2=>r x y H2 Q
noncomputable def Sb(r:V->Hp->VK->Prop)(ta:TE):TE:=λσ H Q=>ta σ H λx H1=>r x H1 Q
noncomputable def rI(C:Int->Int->Prop)(g:Int->Int->V):R2:=λx y H Q=>∃i j,x=.int i/\y=.int j/\C i j/\Q (g i j) H
noncomputable def Ie(g:Int->Int->V):R2:=λx y H Q=>∃i j,x=.int i/\y=.int j/\Q (g i j) H
def rU(g:Int->V):V->Hp->VK->Prop:=λx H Q=>∃i,x=.int i/\Q (g i) H
section
variable{X:Cx}{a b:Expr}{ta tb:TE}{pos:Pos}
def Fn(ha:PE X a ta)(hb:PE X b tb){aa:List (Addr×Obj)}{s:Shared}{σ:St}{H:Hp}{R:V->V->Hp->Prop}(I:Inv X aa σ H s)
 (h:ta σ H λx H1=>tb σ H1 λy H2=>R x y H2) {Q:Value->Shared->Prop} {f:Value->Value->Sem Value}
 (hf:∀v u s2 x y H2,Inv X aa σ H2 s2->RelV x v->RelV y u->R x y H2->wpAny (model X.prog X.w) X.A (f v u) Q X.xe s2):
 wpAny (model X.prog X.w) X.A (eval a X.env) (λv s₁=>wpAny (model X.prog X.w) X.A (eval b X.env) (λu s₂=>wpAny (model X.prog X.w) X.A (f v u) Q X.xe s₂) X.xe s₁) X.xe s:=by
 refine bJ (ha aa s σ H _ I h) λv s1 ⟨x,H1,I1,r1,q1⟩=>?_
 refine bJ (hb aa s1 σ H1 _ I1 q1) λu s2 ⟨y,H2,I2,r2,q2⟩=>?_
 exact hf v u s2 x y H2 I2 r1 r2 q2
def Lh{op:Operator}{r:R2}(ho:gK X (binaryOp op) r)(ha:PE X a ta)(hb:PE X b tb):PE X (.BinOp a op b pos) (IJ r ta tb):=by
 intro aa s σ H Q I h;exact wpAny_BinOp (Fn ha hb I h λv u s2 x y H2 I2 rx ry q=>ho aa s2 σ H2 x y v u Q I2 rx ry q)
def Lj{op:UnaryOp}{r:V->Hp->VK->Prop}(ho:L0 X (unaryOp op) r)(ha:PE X a ta):PE X (.UnaryOp op a pos) (Sb r ta):=by
 intro aa s σ H Q I h;exact UnaryOp_ (bJ (ha aa s σ H _ I h) λv s1 ⟨x,H1,I1,r1,q1⟩=>ho aa s1 σ H1 x v Q I1 r1 q1)
def Oa{f:Value->Value->Sem Value}{C:Int->Int->Prop}{g:Int->Int->Int}
 (rule:∀(i j:Int) (t u:Tok) (s:Shared) (Q:Value->Shared->Prop) (E:Value->Shared->Prop),C i j->Q (.int (g i j) s.toks) {s with toks:=s.toks+1}->wpAny (model X.prog X.w) X.A (f (.int i t) (.int j u)) Q E s):
 gK X f (rI C λi j=>.int (g i j)):=by
 intro aa s σ H x y v u Q I rx ry h;obtain⟨i,j,rfl,rfl,hc,q⟩:=h
 obtain⟨t,rfl⟩:=rx
 obtain⟨t',rfl⟩:=ry
 exact rule i j t t' s _ _ hc ⟨.int (g i j),H,I.tok _,⟨_,rfl⟩,q⟩
def La{f:Value->Value->Sem Value}{g:Int->Int->Int}
 (rule:∀(i j:Int) (t u:Tok) (s:Shared) (Q:Value->Shared->Prop) (E:Value->Shared->Prop),Q (.int (g i j) s.toks) {s with toks:=s.toks+1}->wpAny (model X.prog X.w) X.A (f (.int i t) (.int j u)) Q E s):
 gK X f (Ie λi j=>.int (g i j)):=by
 intro aa s σ H x y v u Q I rx ry h;obtain⟨i,j,rfl,rfl,q⟩:=h
 obtain⟨t,rfl⟩:=rx
 obtain⟨t',rfl⟩:=ry
 exact rule i j t t' s _ _ ⟨.int (g i j),H,I.tok _,⟨_,rfl⟩,q⟩
def Hv{f:Value->Value->Sem Value}{g:Int->Int->Bool}
 (rule:∀(i j:Int) (t u:Tok) (s:Shared) (Q:Value->Shared->Prop) (E:Value->Shared->Prop),Q (.bool (g i j)) s->wpAny (model X.prog X.w) X.A (f (.int i t) (.int j u)) Q E s):
 gK X f (Ie λi j=>.bl (g i j)):=by
 intro aa s σ H x y v u Q I rx ry h;obtain⟨i,j,rfl,rfl,q⟩:=h
 obtain⟨t,rfl⟩:=rx
 obtain⟨t',rfl⟩:=ry
 exact rule i j t t' s _ _ ⟨.bl (g i j),H,I,rfl,q⟩
def MD(i j:Int):Prop:=0<j/\j<1073741824
def E4(i j:Int):Prop:=(-(2^64)<i/\i<2^64)\/(-(2^64)<j/\j<2^64)
def E4.ok{i j:Int}(h:E4 i j):IntMulOk i j:=by
 rcases h with⟨h1,h2⟩|⟨h1,h2⟩
 ·exact .of_left (intBits_le_64 h1 h2)
 ·exact .of_right (intBits_le_64 h1 h2)
def Hx:gK X (binaryOp .Add) (Ie λi j=>.int (i+j)):=La λ_ _ _ _ _ _ _ q=>add_int q
def HI:gK X (binaryOp .Sub) (Ie λi j=>.int (i-j)):=La λ_ _ _ _ _ _ _ q=>sub_int q
def HG:gK X (binaryOp .Mult) (rI E4 λi j=>.int (i*j)):=Oa λ_ _ _ _ _ _ _ hc q=>mul_int q hc.ok
theorem Dg:gK X (binaryOp .FloorDiv) (rI MD λi j=>.int (i/j)):=Oa λi j _ _ _ _ _ hc q=>by
 have h1:(0:Int)<j:=hc.1
 have h2:j<1073741824:=hc.2
 exact floordiv_int (by omega) (by rw [Int.fdiv_eq_ediv_of_nonneg i (by omega)];exact q) (.inl (PyProof.noPylong_small (by omega)))
theorem HF:gK X (binaryOp .Mod) (rI (λ_ j=>0<j) λi j=>.int (i%j)):=Oa λi j _ _ _ _ _ hc q=>by
 have h1:(0:Int)<j:=hc
 exact mod_int' (by omega) (by rw [Int.fmod_eq_emod_of_nonneg i (by omega)];exact q)
def Si{f:Value->Sem Value}{g:Int->Int}
 (rule:∀(i:Int) (t:Tok) (s:Shared) (Q:Value->Shared->Prop) (E:Value->Shared->Prop),Q (.int (g i) s.toks) {s with toks:=s.toks+1}->wpAny (model X.prog X.w) X.A (f (.int i t)) Q E s):
 L0 X f (rU λi=>.int (g i)):=by
 intro aa s σ H x v Q I rx h;obtain⟨i,rfl,q⟩:=h
 obtain⟨t,rfl⟩:=rx
 exact rule i t s _ _ ⟨.int (g i),H,I.tok _,⟨_,rfl⟩,q⟩
def IV:L0 X (unaryOp .USub) (rU λi=>.int (-i)):=Si λ_ _ _ _ _ q=>neg_int q
variable{c:Expr}{tc:TE}
def rV{aa:List (Addr×Obj)}{σ:St}{H:Hp}{s:Shared}{Q:VK}{k k':Bool}(I:Inv X aa σ H s)(q:Q (.bl k) H)(e:k=k'):EP X aa σ Q (.bool k') s:=by
 subst e;exact⟨.bl k,H,I,rfl,q⟩
def Ld:gK X (compareOp .Lt) (Ie λi j=>.bl (decide (i<j))):=Hv λ_ _ _ _ _ _ _ q=>lt_int q
def Lc:gK X (compareOp .LtE) (Ie λi j=>.bl (decide (i<=j))):=Hv λ_ _ _ _ _ _ _ q=>le_int q
def Lb:gK X (compareOp .Gt) (Ie λi j=>.bl (decide (j<i))):=Hv λ_ _ _ _ _ _ _ q=>gt_int q
def HB:gK X (compareOp .Is) (λx y H Q=>y=.aM/\Q (.bl (decide (x=.aM))) H):=by
 intro aa s σ H x y v u Q I rx ry h;obtain⟨rfl,q⟩:=h
 cases ry;refine is_none_gen (rV I q ?_);cases x<;>first
  |(cases rx;rfl)
  |(obtain⟨t,rfl⟩:=rx;rfl)
def Dk:gK X (compareOp .IsNot) (λx y H Q=>y=.aM/\Q (.bl (!decide (x=.aM))) H):=by
 intro aa s σ H x y v u Q I rx ry h;obtain⟨rfl,q⟩:=h
 cases ry;refine isnot_none_gen (rV I q ?_);cases x<;>first
  |(cases rx;rfl)
  |(obtain⟨t,rfl⟩:=rx;rfl)
def N6(b:Expr){op:CmpOp}(h:op≠.In:=by decide)(h2:op≠.NotIn:=by decide):behindInMarks op b=false:=by
 have e1:(op==CmpOp.In)=false:=by cases op<;>first|rfl|exact absurd rfl h
 have e2:(op==CmpOp.NotIn)=false:=by cases op<;>first|rfl|exact absurd rfl h2
 cases b<;>simp [behindInMarks,e1,e2]
def Dq{op:CmpOp}{r:R2}(ho:gK X (compareOp op) r)(ha:PE X a ta)(hb:PE X b tb)(hm:behindInMarks op b=false):PE X (.Compare a [op] [b] pos) (IJ r ta tb):=by
 intro aa s σ H Q I h;exact wpAny_Compare1 (Fn ha hb I h λv u s2 x y H2 I2 rx ry q=>ho aa s2 σ H2 x y v u Q I2 rx ry q) hm
noncomputable def AS(t:TE):TT:=λσ H Q=>t σ H λx H'=>∃k,x=.bl k/\Q k H'
def DD{op:CmpOp}{r:R2}(ho:gK X (compareOp op) r)(ha:PE X a ta)(hb:PE X b tb)(hm:behindInMarks op b=false):PT X (.Compare a [op] [b] pos) (AS (IJ r ta tb)):=by
 intro aa s σ H Q I h;refine wpAny_isTrue_Compare1 (bJ (ha aa s σ H _ I h) λv s1 ⟨x,H1,I1,r1,q1⟩=>bJ (hb aa s1 σ H1 _ I1 q1) λu s2 ⟨y,H2,I2,r2,q2⟩=>
  bJ (ho aa s2 σ H2 x y v u _ I2 r1 r2 q2) λc s3 ⟨z,H3,I3,r3,k,e,q3⟩=>?_) hm
 subst e;cases r3;exact wpAny_truthy_bool ⟨H3,I3,q3⟩
noncomputable def sW(r r':R2)(ta tb tc:TE):TE:=λσ H Q=>ta σ H λx H1=>tb σ H1 λy H2=>r x y H2 λz H3=>∃k,z=.bl k/\
 (if k=true then tc σ H3 λw' H4=>r' y w' H4 Q else Q (.bl false) H3)
def z9{op Hu:CmpOp}{r r':R2}(ho:gK X (compareOp op) r)(eC:gK X (compareOp Hu) r')(ha:PE X a ta)(hb:PE X b tb)(hc:PE X c tc)
 (hm:lastMarks [op,Hu] [b,c]=false:=by with_unfolding_all rfl):PE X (.Compare a [op,Hu] [b,c] pos) (sW r r' ta tb tc):=by
 intro aa s σ H Q I h;refine Compare_chain (bJ (ha aa s σ H _ I h) λv s1 ⟨x,H1,I1,r1,q1⟩=>chain_link (bJ (hb aa s1 σ H1 _ I1 q1) λu s2 ⟨y,H2,I2,r2,q2⟩=>
  bJ (ho aa s2 σ H2 x y v u _ I2 r1 r2 q2) λd s3 ⟨z,H3,I3,r3,k,e,q3⟩=>?_)) hm
 subst e;cases r3;refine wpAny_truthy_bool ?_;cases k with
 |false=>exact ite_ff ⟨.bl false,H3,I3,rfl,q3⟩
 |true=>exact ite_tt (chain_last (bJ (hc aa s3 σ H3 _ I3 q3) λw' s4 ⟨z',H4,I4,r4,q4⟩=>eC aa s4 σ H4 y z' u w' Q I4 r2 r4 q4))
def Av{op Hu:CmpOp}{r r':R2}(ho:gK X (compareOp op) r)(eC:gK X (compareOp Hu) r')(ha:PE X a ta)(hb:PE X b tb)(hc:PE X c tc)
 (hm:lastMarks [op,Hu] [b,c]=false:=by with_unfolding_all rfl):PT X (.Compare a [op,Hu] [b,c] pos) (AS (sW r r' ta tb tc)):=by
 intro aa s σ H Q I h;refine isTrue_chain (bJ (ha aa s σ H _ I h) λv s1 ⟨x,H1,I1,r1,q1⟩=>test_link (bJ (hb aa s1 σ H1 _ I1 q1) λu s2 ⟨y,H2,I2,r2,q2⟩=>
  bJ (ho aa s2 σ H2 x y v u _ I2 r1 r2 q2) λd s3 ⟨z,H3,I3,r3,k,e,q3⟩=>?_)) hm
 subst e;cases r3;refine wpAny_truthy_bool ?_;cases k with
 |false=>
  obtain⟨k',e',q'⟩:=q3
  cases e';exact ite_ff ⟨H3,I3,q'⟩
 |true=>
  refine ite_tt (test_last (bJ (hc aa s3 σ H3 _ I3 q3) λw' s4 ⟨z',H4,I4,r4,q4⟩=>bJ (eC aa s4 σ H4 y z' u w' _ I4 r2 r4 q4) λd' s5 ⟨z2,H5,I5,r5,k2,e2,q5⟩=>?_))
  subst e2;cases r5;exact wpAny_truthy_bool ⟨H5,I5,q5⟩
def k8:(sizeLine:Nat)<2^63:=by rw [sizeLine_eq];decide
def sF:gK X (binaryOp .Add) (λx y H Q=>∃i j,x=.str i/\y=.str j/\i.length+j.length<=sizeLine/\Q (.str (i++j)) H):=by
 intro aa s σ H x y v u Q I rx ry h;obtain⟨i,j,rfl,rfl,hz,q⟩:=h
 obtain⟨t,rfl⟩:=rx
 obtain⟨t',rfl⟩:=ry
 exact add_str (λt' tk=>⟨.str (i++j),H,I.tok _,⟨_,rfl⟩,q⟩) hz
def vals1{x:V}{us:List Value}(r:Vals [x] us):∃u,us=[u]/\RelV x u:=by
 cases r with
 |cons r1 r2=>cases r2;exact⟨_,rfl,r1⟩
def vals2{x y:V}{us:List Value}(r:Vals [x,y] us):∃u w',us=[u,w']/\RelV x u/\RelV y w':=by
 cases r with
 |cons r1 r2=>
  cases r2 with
  |cons r3 r4=>cases r4;exact⟨_,_,rfl,r1,r3⟩
def yf:dH X (.builtin "abs") (λxs H Q=>∃i,xs=[.int i]/\Q (.int (if i<0 then -i else i)) H):=by
 intro aa s σ H xs us Q I r h;obtain⟨i,rfl,q⟩:=h
 obtain⟨u,rfl,t,rfl⟩:=vals1 r
 exact call_abs_int λu tk=>⟨.int (if i<0 then -i else i),H,I.tok _,⟨_,rfl⟩,q⟩
def vQ(hc:X.calm=true):dH X (.builtin "max") (λxs H Q=>∃i j,xs=[.int i,.int j]/\Q (.int (if j>i then j else i)) H):=by
 intro aa s σ H xs us Q I r h;obtain⟨i,j,rfl,q⟩:=h
 obtain⟨u,w',rfl,⟨t,rfl⟩,⟨t',rfl⟩⟩:=vals2 r
 refine max_two_ints (I.ok.hd hc) λh' tk k=>⟨_,H,I.kept k,?_,q⟩
 by_cases hj:j>i
 ·rw [if_pos hj,if_pos hj];exact⟨_,rfl⟩
 ·rw [if_neg hj,if_neg hj];exact⟨_,rfl⟩
def nW:dH X (.type "str") (λxs H Q=>∃i,xs=[.int i]/\i.natAbs.log2<1920/\Q (.str (toString i)) H):=by
 intro aa s σ H xs us Q I r h;obtain⟨i,rfl,hz,q⟩:=h
 obtain⟨u,rfl,t,rfl⟩:=vals1 r
 exact PySem.P.str_of_int hz ⟨.str _,H,I.tok _,⟨_,rfl⟩,q⟩
end
def jr.some_of{v:V}{o:Option Value}(r:jr (some v) o):∃u,o=some u/\RelV v u:=by
 cases o with
 |none=>exact(show False from r).elim
 |some u=>exact⟨u,rfl,r⟩
structure dc(k:Nat)(A:Around):Prop where
 hd:3<=k->A.handled=none
 dp:A.depth+3*k+5<recursionLimit
 un:A.units+16*k+200<cLine
theorem dc.mono{j k:Nat}{A:Around}(r:dc k A)(h:j<=k):dc j A:=⟨λz=>r.hd (by omega),by have:=r.dp;omega,by have:=r.un;omega⟩
theorem dc.deeper{k:Nat}{A:Around}(r:dc (k+1) A)(env:Env):dc k (A.deeper env):=
 ⟨λz=>r.hd (by omega),by have:=r.dp;show A.depth+1+3*k+5<_;omega,by have:=r.un;show A.units+3+16*k+200<_;omega⟩
theorem dc.in1{k:Nat}{A:Around}(r:dc (k+1) A):dc k A.in1:=
 ⟨λz=>r.hd (by omega),by have:=r.dp;show A.depth+3*k+5<_;omega,by have:=r.un;show A.units+1+16*k+200<_;omega⟩
def dc.depth{k:Nat}{A:Around}(r:dc k A):A.depth<recursionLimit:=by have:=r.dp;omega
def dc.units{k:Nat}{A:Around}(r:dc k A):A.units+64<cLine:=by have:=r.un;omega
noncomputable def OD:TA:=λ_ H Q=>Q [] H
noncomputable def LA(ta:TE)(tr:TA):TA:=λσ H Q=>ta σ H λx H1=>tr σ H1 λxs H2=>Q (x::xs) H2
section
variable{X:Cx}{e:Expr}{es:List Expr}{te:TE}{t:TA}{pos:Pos}
def fq:PA X [] OD:=λ_ _ _ _ H Q I h=>Calls.spliced_nil ⟨[],H,I,.nil,h⟩
theorem cH(ha:PE X e te)(hr:PA X es t)(hs:starEach (e::es) X.env=(false,eval e X.env)::starEach es X.env:=by rfl):PA X (e::es) (LA te t):=by
 intro pos aa s σ H Q I h;rw [hs];show wpAny _ _ (spliced ((false,eval e X.env)::backTo pos (starEach es X.env))) _ _ s;refine Calls.spliced_cons (bJ (ha aa s σ H _ I h) λu s1 ⟨x,H1,I1,r1,q1⟩=>?_)
 exact bJ (hr pos aa s1 σ H1 _ I1 q1) λus s2 ⟨xs,H2,I2,r2,q2⟩=>⟨x::xs,H2,I2,.cons r1 r2,q2⟩
noncomputable def OJ(t:TA):TE:=λσ H Q=>t σ H λxs H1=>xs.length<=sizeLine/\∀p,H1 p=none->Q (.ref p) (upd H1 p (.tup xs))
noncomputable def OC(t:TA):TE:=λσ H Q=>t σ H λxs H1=>xs.length<=sizeLine/\∀p,H1 p=none->Q (.ref p) (upd H1 p (.lst xs))
def HU{x1}(h:PA X es t):PE X (.Tuple es x1 pos) (OJ t):=by
 intro aa s σ H Q I hq;refine wpAny_Tuple_spliced (bJ (h pos aa s σ H _ I hq) λus s1 ⟨xs,H1,I1,r,z,q⟩=>⟨by rw [<-r.length];exact z,?_⟩)
 have hf:H1 (zz9 s1)=none:=I1.aN.fresh (zzE _)
 refine⟨.ref (zz9 s1),upd H1 (zz9 s1) (.tup xs),I1.laid (t':=s1.toks) (λb u e=>zzB _ e) (zzE _) ?_,rfl,q _ hf⟩;exact⟨z,us,r,⟨_,zzX _ rfl,rfl,_,rfl⟩⟩
def HP(h:PA X es t):PE X (.List es pos) (OC t):=by
 intro aa s σ H Q I hq;refine wpAny_List_spliced (bJ (h pos aa s σ H _ I hq) λus s1 ⟨xs,H1,I1,r,z,q⟩=>⟨by rw [<-r.length];exact z,?_⟩)
 have hf:H1 (zz9 s1)=none:=I1.aN.fresh (zzE _)
 refine⟨.ref (zz9 s1),upd H1 (zz9 s1) (.lst xs),I1.laid (t':=s1.toks) (λb u e=>zzB _ e) (zzE _) ?_,rfl,q _ hf⟩;exact⟨z,us,0,r,zzX _ rfl⟩
end
noncomputable abbrev Sp:=List V->Hp->VK->XK->Prop
noncomputable abbrev xI:=List Env->Hp->Shared->XK->Value->Shared->Prop
structure ij(P:Program)(w:World)(K:zz8)(mg:Str->Option Value)(base:Heap)(A:Around)(outer:List Env)(s:Shared)(H:Hp):Prop where
 frames:A.frames=some outer
 mod:Mod K mg base
 bs:∀b o,base.get? b=some o->s.heap.get? b=some o/\H b=none
 vL:base.objs.size<=(zz9 s)
 fB:s.heap.FunFrames base outer
 wo:∀b∈eA outer,H b=none
 aN:dQ P w H s.heap
 bare:AllBare s.gens
def CE(outer:List Env)(P:Program)(w:World)(H:Hp)(s:Shared)(Q:VK)(u:Value)(s':Shared):Prop:=
 ∃v H',s'.os=s.os/\AllBare s'.gens/\Un (eA outer) [] H H' s.heap s'.heap/\dQ P w H' s'.heap/\RelV v u/\Q v H'
def CR(CX:xI)(outer:List Env)(P:Program)(w:World)(H:Hp)(s:Shared)(Q:VK)(E:XK)(r:Result)(s':Shared):Prop:=
 match r with
 |.ok (.ret u)=>CE outer P w H s Q u s'
 |.ok _=>False
 |.error e=>CX outer H s E e s'
structure fL(P:Program)(w:World)(K:zz8)(mg:Str->Option Value)(base:Heap)(CX:xI)(k:Nat)(f:Addr)(fd:FuncData)(ps:List Str)(sp:Sp):Prop where
 len:∀vs H Q E,sp vs H Q E->vs.length=ps.length
 run:∀(A:Around) (outer:List Env) (s:Shared) (H:Hp) (args:Args) (us:List Value) (vs:List V) (Q:VK) (E:XK),dc k A->ij P w K mg base A outer s H->BindsTo s fd args (ps.zip us)->Vals vs us->sp vs H Q E->
  codeAny (model P w) A (.call (.ref f) args) (CR CX outer P w H s Q E) s
def fL.mono{P:Program}{w:World}{K:zz8}{mg:Str->Option Value}{base:Heap}{CX:xI}{j k:Nat}{f:Addr}{fd:FuncData}{ps:List Str}{sp:Sp}(F:fL P w K mg base CX j f fd ps sp)(h:j<=k):
 fL P w K mg base CX k f fd ps sp:=⟨F.len,λA outer s H args us vs Q E hr=>F.run A outer s H args us vs Q E (hr.mono h)⟩
def fL.imp{P:Program}{w:World}{K:zz8}{mg:Str->Option Value}{base:Heap}{CX:xI}{k:Nat}{f:Addr}{fd:FuncData}{ps:List Str}{sp Qo:Sp}(F:fL P w K mg base CX k f fd ps sp)
 (h:∀vs H Q E,Qo vs H Q E->sp vs H Q E):fL P w K mg base CX k f fd ps Qo:=
 ⟨λvs H Q E q=>F.len vs H Q E (h _ _ _ _ q),λA outer s H args us vs Q E hr he hb hv hs=>F.run A outer s H args us vs Q E hr he hb hv (h _ _ _ _ hs)⟩
def ij.in1{P:Program}{w:World}{K:zz8}{mg:Str->Option Value}{base:Heap}{A:Around}{outer:List Env}{s:Shared}{H:Hp}(e:ij P w K mg base A outer s H):
 ij P w K mg base A.in1 outer s H:=⟨e.frames,e.mod,e.bs,e.vL,e.fB,e.wo,e.aN,e.bare⟩
section
variable{X:Cx}{aa:List (Addr×Obj)}{σ:St}{H:Hp}{s s':Shared}
def Inv.rT(I:Inv X aa σ H s):ij X.prog X.w X.K X.mg X.base X.A X.stack s H:=
 ⟨I.ok.frames,I.ok.mod,I.bs,zzU I.ok.vL I.sz,I.stack,I.j7,I.aN,I.bare⟩
def Inv.after{Q:VK}{u:Value}(I:Inv X aa σ H s)(h:CE X.stack X.prog X.w H s Q u s'):EP X aa σ Q u s':=by
 obtain⟨v,H',os,bare,un,aN,r,q⟩:=h
 obtain⟨hh,g,d,t,os'⟩:=s'
 obtain rfl:os'=s.os:=os
 exact⟨v,H',I.call (h':=hh) (g':=g) (d':=d) (t':=t) (ch:=[]) un aN bare (λb z=>absurd z (by simp)),r,q⟩
end
def Binds(K:zz8)(fd:FuncData)(ps:List Str)(ds:List Value):Prop:=
 ∀(s:Shared) (us:List Value),K.In s.heap->(us++ds).length=ps.length->BindsTo s fd ⟨us,[]⟩ (ps.zip (us++ds))
def Binds.all{K:zz8}{fd:FuncData}{ps:List Str}(h:∀us:List Value,us.length=ps.length->bindArgs fd ⟨us,[]⟩=pure (ps.zip us)):Binds K fd ps []:=λs us _ hl=>by
 rw [zz6] at hl⊢;exact .of_eq (h us hl)
def Passes(CX:xI)(X:Cx)(E:XK):Prop:=∀(aa:List (Addr×Obj)) (σ:St) (H:Hp) (s:Shared) (e:Value) (s':Shared),Inv X aa σ H s->CX X.stack H s E e s'->X.xe e s'
structure jW(N P:List Str)(sc:Scope):Prop where
 kind:sc.kind=.function
 co:sc.isCoroutine=false
 gen:sc.isGenerator=false
 nd:N.Nodup
 pre:N.take P.length=P
 par:∀x∈P,sc.names.lookup x=some .local\/sc.names.lookup x=some .cell
 Hq:∀y∈sc.names,y.2≠.free
theorem mI{kindOf:Str->Option NameKind}{x:Str}:∀{binds:List (Str×Value)} {m:Str->Option Value},(∀v,(x,v)∉binds)->bindL kindOf binds m x=m x
 |[],_,_=>rfl
 |(n,v)::r,m,h=>by
  unfold bindL;rw [mI λw hw=>h w (zzI _ hw)]
  split
  ·have:x≠n:=by rintro rfl;exact h v zzP
   simp [this]
  ·rfl
theorem mG{kindOf:Str->Option NameKind}{x:Str}:∀{binds:List (Str×Value)} {m:Str->Option Value},(∀v,(x,v)∉binds)->bindC kindOf binds m x=m x
 |[],_,_=>rfl
 |(n,v)::r,m,h=>by
  unfold bindC;rw [mG λw hw=>h w (zzI _ hw)]
  split
  ·rfl
  ·have:x≠n:=by rintro rfl;exact h v zzP
   simp [this]
theorem mH{kindOf:Str->Option NameKind}{x:Str}{v:Value}:∀{P:List Str} {vs:List Value} {i:Nat} {m:Str->Option Value},P.Nodup->P[i]?=some x->vs[i]?=some v->kindOf x=some .local->
 bindL kindOf (P.zip vs) m x=some v
 |[],_,_,_,_,h,_,_=>by simp at h
 |_::_,[],_,_,_,_,h,_=>by simp at h
 |p::P,w::vs,0,m,nd,h1,h2,hk=>by
  simp at h1 h2;subst h1;subst h2;show bindL kindOf ((p,w)::P.zip vs) m p=_
  unfold bindL;rw [mI λv hv=>(List.nodup_cons.mp nd).1 (List.of_mem_zip hv).1,if_pos hk]
  simp
 |p::P,w::vs,i+1,m,nd,h1,h2,hk=>by
  show bindL kindOf ((p,w)::P.zip vs) m x=_
  unfold bindL;exact mH (i:=i) (List.nodup_cons.mp nd).2 (by simpa using h1) (by simpa using h2) hk
theorem mF{kindOf:Str->Option NameKind}{x:Str}{v:Value}:∀{P:List Str} {vs:List Value} {i:Nat} {m:Str->Option Value},P.Nodup->P[i]?=some x->vs[i]?=some v->kindOf x≠some .local->
 bindC kindOf (P.zip vs) m x=some v
 |[],_,_,_,_,h,_,_=>by simp at h
 |_::_,[],_,_,_,_,h,_=>by simp at h
 |p::P,w::vs,0,m,nd,h1,h2,hk=>by
  simp at h1 h2;subst h1;subst h2;show bindC kindOf ((p,w)::P.zip vs) m p=_
  unfold bindC;rw [mG λv hv=>(List.nodup_cons.mp nd).1 (List.of_mem_zip hv).1,if_neg hk]
  simp
 |p::P,w::vs,i+1,m,nd,h1,h2,hk=>by
  show bindC kindOf ((p,w)::P.zip vs) m x=_
  unfold bindC;exact mF (i:=i) (List.nodup_cons.mp nd).2 (by simpa using h1) (by simpa using h2) hk
noncomputable def start(N:List Str)(vs:List V):St:=vs.map some++List.replicate (N.length-vs.length) none
noncomputable def dE(CX:xI)(P:Program)(w:World)(K:zz8)(mg:Str->Option Value)(base:Heap)(N:List Str)(qual:Str)(scope:Scope)(f:Addr)(cd:Value)(A:Around)(outer:List Env)(s:Shared)(H:Hp)(E:XK):Cx where
 prog:=P
 w:=w
 K:=K
 mg:=mg
 base:=base
 A:=A.deeper (envOfC qual scope (zz9 s) f cd)
 N:=N
 s₀:=s
 H₀:=H
 env:=envOfC qual scope (zz9 s) f cd
 outer:=outer
 stack:=envOfC qual scope (zz9 s) f cd::outer
 ex:=[]
 calm:=A.handled.isNone
 fn:=λ_=>true
 pn:=[]
 xe:=λe s'=>wpAny (model P w) (A.deeper (envOfC qual scope (zz9 s) f cd)) (leaving (envOfC qual scope (zz9 s) f cd) e) (λ_ xO=>CX outer H s E e xO) (λe' xO=>CX outer H s E e' xO) s'
def pS{sc:Scope}{n:Nat}{x:Str}(h:sc.names.lookup x=some .cell):∃c,(cellsFrom n sc.names []).lookup x=some c:=by
 have q:=PySem.W.cellsFrom_some sc.names n [] (.inl h)
 exact zzp.mp q
def wN{CX:xI}{P:Program}{w:World}{K:zz8}{mg:Str->Option Value}{base:Heap}{N ps:List Str}{qual:Str}{scope:Scope}{f:Addr}{cd:Value}{A:Around}{outer:List Env}{s s1:Shared}{H:Hp}{E:XK}{us:List Value}{vs:List V}
 (S:jW N ps scope) (e0:ij P w K mg base A outer s H) (hl:vs.length=ps.length) (r:Vals vs us)
 (x:InCallC s (zz9 s) (bindL (envOfC qual scope (zz9 s) f cd).kindOf (ps.zip us) λ_=>none) (cellsFrom ((zz9 s)+1) scope.names []) (bindC (envOfC qual scope (zz9 s) f cd).kindOf (ps.zip us) λ_=>none) s1):
 Inv (dE CX P w K mg base N qual scope f cd A outer s H E) [] (start N vs) H s1:=by
 have hpl:ps.length<=N.length:=by have:=congrArg List.length S.pre;rw [List.length_take] at this;omega
 obtain⟨h1,tk,rfl,hk⟩:=x.done
 have CT:∀b:Addr,b∉(dE CX P w K mg base N qual scope f cd A outer s H E).ex:=λb z=>absurd (show b∈([]:List Addr) from z) (by simp)
 refine⟨⟨e0.mod,S.kind,rfl,rfl,zzE _,λy z c h1 h2=>?_,λy hy=>?_,λy c _ h=>?_,λz=>Option.isNone_iff_eq_none.mp z,Around.frames_deeper e0.frames,.inr ⟨rfl,rfl⟩,λb z=>absurd z (CT b),e0.bs,e0.vL,λb _ _=>CT b,λb z=>absurd z (CT b),e0.fB,e0.wo⟩,
  rfl,e0.bare,Un.kept hk,⟨_,x.toInCall.ns,λi y v h1 h2 h3=>?_⟩,λy c h=>⟨_,x.cell y c h⟩,e0.aN.fresh (zzE _),λy c h=>?_,λp hp=>absurd (show p∈([]:List (Addr×Obj)) from hp) (by simp),e0.aN.kept hk,?_⟩
 ·exact name_of_addr x.apart (PySem.mem_of_lookup h1) (PySem.mem_of_lookup h2)
 ·have hy:scope.names.lookup y=some .cell\/scope.names.lookup y=some .free:=hy
  rcases hy with hy|hy
  ·exact pS hy
  ·exact absurd rfl (S.Hq _ (PySem.mem_of_lookup hy))
 ·exact Nat.le_of_lt (x.above y c (PySem.mem_of_lookup h))
 ·have hi:i<vs.length:=by
   unfold start at h2
   by_cases hi:i<vs.length
   ·exact hi
   ·rw [zzs (by simpa using hi)] at h2;rw [List.getElem?_replicate] at h2;split at h2<;>cases h2
  have ha:vs[i]?=some v:=by
   unfold start at h2;rw [zzr (by simpa using hi),zzQ] at h2;cases e:vs[i]? with
   |none=>rw [e] at h2;cases h2
   |some a=>rw [e] at h2;cases h2;rfl
  obtain⟨u,hu,rv⟩:=r.get ha
  have hp:ps[i]?=some y:=by
   rw [<-S.pre,List.getElem?_take_of_lt (by omega)];exact h1
  have Qc:ps.Nodup:=by rw [<-S.pre];exact S.nd.sublist (List.take_sublist _ _)
  refine⟨u,rv,?_⟩;rcases S.par y (zzD hp) with k|k
  ·exact .inl ⟨k,mH Qc hp hu k⟩
  ·obtain⟨c,e⟩:=pS (n:=(zz9 s)+1) k
   refine .inr ⟨.inl k,c,e,?_⟩;have q:=x.cell y c e
   rw [mF Qc hp hu (by show scope.names.lookup y≠_;rw [k];decide)] at q;exact q
 ·exact e0.aN.fresh (Nat.le_of_lt (x.above y c (PySem.mem_of_lookup h)))
 ·unfold start;show _=N.length
  rw [zzM,zzl,List.length_replicate];omega
def Ka{CX:xI}{P:Program}{w:World}{K:zz8}{mg:Str->Option Value}{base:Heap}{k:Nat}{f:Addr}{name qual:Str}{params:Arguments}{body:List Stmt}{scope:Scope}{dV kV doc pm fv ct oc:Value}{an od:Option Addr}
 {sH:Array (Option Value)} {N ps:List Str} {sp:Sp} (lk:K.lookup f=some ⟨oc,od,.func (PySem.W.fnOf name qual params body scope dV kV doc pm an fv ct),sH⟩) (mY:PySem.W.codeIn K fv qual=true) (S:jW N ps scope)
 (len:∀vs H Q E,sp vs H Q E->vs.length=ps.length)
 (Kr:∀(A:Around) (outer:List Env) (s:Shared) (H:Hp) (vs:List V) (Q:VK) (E:XK),dc k (A.deeper (envOfC qual scope (zz9 s) f fv))->sp vs H Q E->
  ∃t,tO (dE CX P w K mg base N qual scope f fv A outer s H E) body t/\t {nx:=λ_ H'=>Q .aM H',rt:=Q} (start N vs) H):
 fL P w K mg base CX (k+1) f (PySem.W.fnOf name qual params body scope dV kV doc pm an fv ct) ps sp:=by
 refine⟨len,λA outer s H args us vs Q E hr e0 hb r EE=>?_⟩
 have hl:=len _ _ _ _ EE
 have KX:K.In s.heap:=e0.mod.KR.keeps λb o e=>(e0.bs b o e).1
 have lim:s.heap.NoLimit:=e0.mod.nolimit.keeps λb o e=>(e0.bs b o e).1
 have Ky:∀y∈ps.zip us,scope.names.lookup y.1=some .local\/(scope.names.lookup y.1=some .cell/\((cellsFrom ((zz9 s)+1) scope.names []).lookup y.1).isSome=true):=λ⟨n,v⟩ hy=>by
  rcases S.par n (List.of_mem_zip hy).1 with q|q
  ·exact .inl q
  ·exact .inr ⟨q,PySem.W.cellsFrom_some _ _ _ (.inl q)⟩
 refine codeAny_call_function hr.depth (KX _ _ lk) rfl S.co S.gen rfl (PySem.W.codeRec_of KX mY) (hb _ _ _ _ ?_);refine wpAny_newFunctionEnv_cells S.kind Ky λenv he s1 x=>?_
 subst he;refine⟨lim.keeps x.toInCall.keep,codeAny_func ?_⟩;obtain⟨t,ht,hq⟩:=Kr A outer s H vs Q E (hr.deeper _) EE
 have I:Inv (dE CX P w K mg base N qual scope f fv A outer s H E) [] (start N vs) H s1:=wN S e0 hl r x
 refine wpAny_mono (ht [] s1 (start N vs) H _ I hq) (λfl s' hs=>?_) λe s' hs=>hs
 have fin:∀{σ':St} {H':Hp} {v:V} {u:Value},Inv (dE CX P w K mg base N qual scope f fv A outer s H E) [] σ' H' s'->RelV v u->Q v H'->CE outer P w H s Q u s':=
  λ{σ' H' v u} J rv q=>⟨v,H',J.os,J.bare,J.base,J.aN,rv,q⟩
 cases fl with
 |ret u=>
  obtain⟨v,σ',H',J,rv,q⟩:=hs
  exact fin J rv q
 |next=>
  obtain⟨σ',H',J,q⟩:=hs
  exact fin (v:=V.aM) (u:=Value.none) J rfl q
 |brk=>
  obtain⟨_,_,_,q⟩:=hs
  exact zzk q
 |cont=>
  obtain⟨_,_,_,q⟩:=hs
  exact zzk q
section
variable{X:Cx}{x:Str}{p pos:Pos}{e:Expr}{es:List Expr}{t:TA}{id T:String}{r:List V->Hp->VK->Prop}
noncomputable def Mw(r:List V->Hp->VK->Prop)(t:TA):TE:=λσ H Q=>t σ H λvs H1=>r vs H1 Q
def iP(hc:dH X (.builtin id) r)(hg:Gl X x)(hm:X.mg x=none)(hv:bootBuiltins x=some (.builtin id))(ha:PA X (e::es) t)(hn:x≠"__name__":=by decide)(GG:(x==("__debug__":Str))=false:=by decide)
 (he:starEach (e::es) X.env=(false,eval e X.env)::starEach es X.env:=by rfl) (hpl:(backTo pos (starEach es X.env)).any (·.1)=false:=by rfl):PE X (.Call (.Name x p) (e::es) [] pos) (Mw r t):=by
 intro aa s σ H Q I h;refine wpAny_Call_Name_kw (eO I hg hm hv ?_ hn GG);exact PyProof.Rows.callWith_builtin1 (bJ (ha pos aa s σ H _ I h) λus s1 ⟨vs,H1,I1,r1,q1⟩=>hc aa s1 σ H1 vs us Q I1 r1 q1) he hpl
def jb(hc:dH X (.type T) r)(hg:Gl X x)(hm:X.mg x=none)(hv:bootBuiltins x=some (.type T))(ha:PA X (e::es) t)(hn:x≠"__name__":=by decide)(GG:(x==("__debug__":Str))=false:=by decide)
 (he:starEach (e::es) X.env=(false,eval e X.env)::starEach es X.env:=by rfl) (hpl:(backTo pos (starEach es X.env)).any (·.1)=false:=by rfl):PE X (.Call (.Name x p) (e::es) [] pos) (Mw r t):=by
 intro aa s σ H Q I h;refine wpAny_Call_Name_kw (eO I hg hm hv ?_ hn GG);exact PyProof.Rows.callWith_type1 (bJ (ha pos aa s σ H _ I h) λus s1 ⟨vs,H1,I1,r1,q1⟩=>hc aa s1 σ H1 vs us Q I1 r1 q1) he hpl
end
end L2
namespace HT
open PySem PyProof.Rows
noncomputable def lexLt:List Int->List Int->Bool
 |[],[]=>false
 |[],_::_=>true
 |_::_,[]=>false
 |x::xs,y::ys=>if x=y then lexLt xs ys else decide (x<y)
section
variable{prog:Program}{w:World}{A:Around}{E:Value->Shared->Prop}{s:Shared}
noncomputable def dw(n d:Nat):Option Int->Nat
 |none=>d
 |some v=>if v<0 then(v+(n:Int)).toNat else min v.toNat n
def Iw(n d:Nat)(hd:d<=n)(o:Option Int):dw n d o<=n:=by
 cases o with
 |none=>exact hd
 |some v=>
  show(if v<0 then(v+(n:Int)).toNat else min v.toNat n)<=n
  by_cases hv:v<0
  ·rw [if_pos hv];omega
  ·rw [if_neg hv];exact Nat.min_le_right _ _
def t9(v:Int)(n d:Nat):(if v<0 then max (v+(n:Int)) 0 else min v (n:Int))=((dw n d (some v):Nat):Int):=by
 show(if v<0 then max (v+(n:Int)) 0 else min v (n:Int))=(((if v<0 then(v+(n:Int)).toNat else min v.toNat n):Nat):Int)
 by_cases hv:v<0
 ·simp! [if_pos hv];omega
 ·simp! [if_neg hv];omega
def rJ(lo hi:Option Int)(n:Nat):Builtin.Slice.sliceAdjust lo hi 1 (n:Int)=(((dw n 0 lo:Nat):Int),((dw n n hi:Nat):Int)):=by
 have h1:¬((1:Int)<0):=by omega
 unfold Builtin.Slice.sliceAdjust;simp! [h1,if_false];refine Prod.ext ?_ ?_
 ·cases lo with
  |none=>rfl
  |some v=>exact t9 v n 0
 ·cases hi with
  |none=>rfl
  |some v=>exact t9 v n n
def sL(i j:Nat):Builtin.Slice.slicePlaces (i:Int) (j:Int) 1=j-i:=by
 unfold Builtin.Slice.slicePlaces;have h1:(1:Int)>0:=by omega
 simp! [h1,if_true,Int.ediv_one];split<;>omega
def hW{v:Value}{o:Option Int}{Q:Option Int->Shared->Prop}(p:IsPart v o)(h:Q o s):wpAny (model prog w) A (Builtin.Slice.slicePartIndex v) Q E s:=by
 cases p with
 |none=>exact slicePart_none h
 |int i t=>exact slicePart_int h
def fc{sl:Addr}{vl vu:Value}{lo hi:Option Int}{n:Nat}{Q:Int×Int×Nat->Shared->Prop}(hs:s.heap.IsSliceOf sl vl vu .none)(pl:IsPart vl lo)(pu:IsPart vu hi)
 (h:Q (((dw n 0 lo:Nat):Int),1,dw n n hi-dw n 0 lo) s):wpAny (model prog w) A (Builtin.Slice.sliceApplied (.ref sl) (pure (n:Int))) Q E s:=by
 obtain⟨os,hos,hcs,hds⟩:=id hs
 unfold Builtin.Slice.sliceApplied Builtin.Slice.sliceFields;refine zzA (zzA (wpAny_field hos hds (x:=vl) rfl (zzA (wpAny_field hos hds (x:=vu) rfl (zzA (wpAny_field hos hds (x:=.none) rfl (zzG ?_)))))));refine zzA (slicePart_none ?_);show wpAny _ _ (if((1:Int)==0)=true then _ else _) _ _ s;rw [if_neg (by decide)];refine zzA (hW pl (zzA (hW pu (zzA (zzG ?_)))));show wpAny _ _ (match Builtin.Slice.sliceAdjust lo hi 1 (n:Int) with|(lo,hi)=>pure (lo,(1:Int),Builtin.Slice.slicePlaces lo hi 1)) _ _ s
 rw [rJ lo hi n];show wpAny _ _ (pure (((dw n 0 lo:Nat):Int),(1:Int),Builtin.Slice.slicePlaces ((dw n 0 lo:Nat):Int) ((dw n n hi:Nat):Int) 1)) _ _ s;rw [sL];exact zzG h
def Al(xs:Array Value)(i k:Nat):((List.range k).filterMap λ(m:Nat)=>xs[((i:Int)+(m:Int)*1).toNat]?).toArray=((xs.toList.drop i).take k).toArray:=by
 have e:(λ(m:Nat)=>xs[((i:Int)+(m:Int)*1).toNat]?)=λm=>xs[i+m]?:=by
  funext m
  have:((i:Int)+(m:Int)*1).toNat=i+m:=by omega
  rw [this]
 rw [e];have:=pick_run xs i k
 rw [List.filterMap_map] at this;have e2:((λx=>xs[x]?)∘λx=>i+x)=λm=>xs[i+m]?:=rfl
 rw [e2] at this;rw [this]
def iG{t sl:Addr}{items:Array Value}{vl vu:Value}{lo hi:Option Int}{Q:Value->Shared->Prop}(ht:IsTup s.heap t items)(hs:s.heap.IsSliceOf sl vl vu .none)(pl:IsPart vl lo)(pu:IsPart vu hi)
 (hw:¬(dw items.size 0 lo=0/\dw items.size items.size hi=items.size))
 (h:Q (.ref (zz9 s)) {s with heap:=s.heap.push {cls:=.type "tuple",data:=.seq ((items.toList.drop (dw items.size 0 lo)).take (dw items.size items.size hi-dw items.size 0 lo)).toArray}})
 (hsz:items.size<=sizeLine):wpAny (model prog w) A (getItem (.ref t) (.ref sl)) Q E s:=by
 have kR:sizeOk (.seq ((items.toList.drop (dw items.size 0 lo)).take (dw items.size items.size hi-dw items.size 0 lo)).toArray):=by
  show((items.toList.drop (dw items.size 0 lo)).take (dw items.size items.size hi-dw items.size 0 lo)).toArray.size<=sizeLine
  rw [zzC,List.length_take,List.length_drop,zzd];omega
 have hj:dw items.size items.size hi<=items.size:=Iw _ _ (zzE _) hi
 obtain⟨os,hos,hcs,hds⟩:=id hs
 have Ki:s.TypeIs (.ref sl) "slice":=⟨os,hos,hcs⟩
 unfold getItem
 try with_reducible refine wpAny_holding ?_
 first|refine zzA (zzG ?_)|skip
 refine zzA (wpAny_sequenceKey ht.typeIs (by decide) ?_);refine zzA (wpAny_callSpecial?_slot (name:=Str.ofString "__getitem__") ht.typeIs PyProof.Rows.slot_tuple_getitem
  (wpAny_call_entry PyProof.Rows.slot_tuple_getitem ht.typeIs entry_tuple_getitem ?_ (args_tuple_getitem _ _)))
 show wpAny _ _ (Builtin.Tuple.tupleItemsOf (.ref t)>>=_) _ _ s
 refine zzA (tupleItemsOf_ ht ?_);refine zzA (wpAny_typeOf Ki ?_);rw [if_pos (by decide)];refine zzA (fc hs pl pu ?_);have Nx:¬((((dw items.size 0 lo:Nat):Int)==0&&(1:Int)==1&&(dw items.size items.size hi-dw items.size 0 lo)==items.size)=true):=by
  intro q;rw [zza,zza] at q;have q1:((dw items.size 0 lo:Nat):Int)=0:=eq_of_beq q.1.1
  have q2:dw items.size items.size hi-dw items.size 0 lo=items.size:=eq_of_beq q.2
  exact hw ⟨by omega,by omega⟩
 show wpAny _ _ (if(((dw items.size 0 lo:Nat):Int)==0&&(1:Int)==1&&(dw items.size items.size hi-dw items.size 0 lo)==items.size)=true then _ else _) _ _ s
 rw [if_neg Nx,Al]
 first
  |exact zzA (m:=Builtin.Tuple.tupleExact _) (wpAny_newObj_type (zzG ⟨_,rfl,zzG h⟩) kR)
  |exact zzA (m:=Builtin.Tuple.tupleExact _) (wpAny_newObj_type (zzA (zzG (zzG ⟨_,rfl,zzG h⟩))) kR)
  |exact zzA (zzA (m:=Builtin.Tuple.tupleExact _) (wpAny_newObj_type (zzG (zzG ⟨_,rfl,zzG h⟩)) kR))
  |exact zzA (zzA (m:=Builtin.Tuple.tupleExact _) (wpAny_newObj_type (zzG ⟨_,rfl,zzG h⟩) kR))
end
end HT
namespace L2
open PySem PySem.Spec PyProof.Rows
noncomputable abbrev TO:=St->Hp->(Option Int->Hp->Prop)->Prop
def PO(X:Cx)(e:Option Expr)(t:TO):Prop:=
 ∀(aa:List (Addr×Obj)) (s:Shared) (σ:St) (H:Hp) (Q:Option Int->Hp->Prop),Inv X aa σ H s->t σ H Q->
  wpAny (model X.prog X.w) X.A (evalPart e X.env) (λu s'=>∃o H',Inv X aa σ H' s'/\IsPart u o/\Q o H') X.xe s
noncomputable def DZ:TO:=λ_ H Q=>Q none H
noncomputable def LG(t:TE):TO:=λσ H Q=>t σ H λx H1=>∃i,x=.int i/\Q (some i) H1
section
variable{X:Cx}{e:Expr}{te:TE}{lo hi:Option Expr}{tl th:TO}{pos p2:Pos}
def DA:PO X none DZ:=by
 intro aa s σ H Q I h;rw [evalPart_none];exact zzG ⟨none,H,I,.none,h⟩
def DB(h:PE X e te):PO X (some e) (LG te):=by
 intro aa s σ H Q I hw;rw [evalPart_some];refine bJ (h aa s σ H _ I hw) λu s1 ⟨x,H1,I1,r1,q1⟩=>?_
 obtain⟨i,rfl,q⟩:=q1
 obtain⟨t,rfl⟩:=r1
 exact⟨some i,H1,I1,.int i t,q⟩
def Bj(X:Cx)(r:V->Option Int->Option Int->Hp->VK->Prop):Prop:=
 ∀(aa:List (Addr×Obj)) (s:Shared) (σ:St) (H:Hp) (x:V) (v vl vu:Value) (lo hi:Option Int) (sl:Addr) (Q:VK),Inv X aa σ H s->RelV x v->s.heap.IsSliceOf sl vl vu .none->IsPart vl lo->IsPart vu hi->r x lo hi H Q->
  ∃T id,typeLookup (.type T) "__getitem__"=pure (some (.builtin id))/\s.TypeIs v T/\wpAny (model X.prog X.w) X.A (getItem v (.ref sl)) (EP X aa σ Q) X.xe s
noncomputable def Sa(r:V->Option Int->Option Int->Hp->VK->Prop)(te:TE)(tl th:TO):TE:=λσ H Q=>te σ H λx H1=>tl σ H1 λl H2=>th σ H2 λu H3=>r x l u H3 Q
def Ae{r:V->Option Int->Option Int->Hp->VK->Prop}(hr:Bj X r)(he:PE X e te)(hl:PO X lo tl)(hu:PO X hi th):PE X (.Subscript e (.Slice lo hi none p2) pos) (Sa r te tl th):=by
 intro aa s σ H Q I h;refine Subscript_ (bJ (he aa s σ H _ I h) λv s1 ⟨x,H1,I1,r1,q1⟩=>?_)
 refine wpAny_Slice (bJ (hl aa s1 σ H1 _ I1 q1) λvl s2 ⟨l,H2,I2,pl,q2⟩=>bJ (hu aa s2 σ H2 _ I2 q2) λvu s3 ⟨u,H3,I3,pu,q3⟩=>?_)
 rw [evalPart_none];refine zzG ?_;have I4:Inv X aa σ H3 {s3 with heap:=s3.heap.push {cls:=.type "slice",data:=.fields #[vl,vu,.none]}}:=I3.kept (t':=s3.toks) λb ob q=>zzB _ q
 obtain⟨T,id,hT,ht,hg⟩:=hr aa {s3 with heap:=s3.heap.push {cls:=.type "slice",data:=.fields #[vl,vu,.none]}} σ H3 x v vl vu l u (zz9 s3) Q I4 r1 (Heap.IsSliceOf.new ..) pl pu q3
 show wpAny (model X.prog X.w) X.A (subscriptTail e (.Slice lo hi none p2) v (.ref (zz9 s3))) (EP X aa σ Q) X.xe {s3 with heap:=s3.heap.push {cls:=.type "slice",data:=.fields #[vl,vu,.none]}}
 exact tail_any (ops:=[.ref (zz9 s3),v]) ht hT hg (by with_unfolding_all rfl)
noncomputable def v7(xs:List V)(lo hi:Option Int):List V:=(xs.drop (HT.dw xs.length 0 lo)).take (HT.dw xs.length xs.length hi-HT.dw xs.length 0 lo)
def pW(xs:List V)(lo hi:Option Int):(v7 xs lo hi).length<=xs.length:=by
 unfold v7;rw [List.length_take,List.length_drop];omega
def Oi(K:zz8):V->Option Int->Option Int->Hp->VK->Prop:=λx lo hi H Q=>∃a xs,x=.ref a/\eU K H a xs/\
 ¬(HT.dw xs.length 0 lo=0/\HT.dw xs.length xs.length hi=xs.length)/\∀p,H p=none->Q (.ref p) (upd H p (.tup (v7 xs lo hi)))
def IA:Bj X (Oi X.K):=by
 intro aa s σ H x v vl vu lo hi sl Q I rx hs pl pu h;obtain⟨a,xs,rfl,hx,hw,q⟩:=h
 cases rx;obtain⟨aw,r,ht,hz⟩:=I.tuple hx
 have hlen:aw.toArray.size=xs.length:=by rw [zzC];exact r.length.symm
 refine⟨"tuple",_,PyProof.Rows.slot_tuple_getitem.lookup,ht.typeIs,?_⟩;refine HT.iG ht hs pl pu (by rw [hlen];exact hw) ?_ (by rw [hlen];exact hz);rw [hlen];refine⟨.ref (zz9 s),_,I.laid (t':=s.toks) (o:=.tup (v7 xs lo hi)) (λb ob q=>zzB _ q) (zzE _) ?_,rfl,q _ (I.aN.fresh (zzE _))⟩;exact⟨zzU (pW xs lo hi) hz,_,(r.drop (HT.dw xs.length 0 lo)).take (HT.dw xs.length xs.length hi-HT.dw xs.length 0 lo),IsTup.new _ _⟩
end
noncomputable def CF(n:Nat)(i:Int):Option Nat:=if 0<=i then(if i<n then some i.toNat else none) else if -(n:Int)<=i then some (i+n).toNat else none
noncomputable def pC{α:Type}(xs:List α)(i:Int):Option α:=(CF xs.length i).bind λj=>xs[j]?
def CG{n:Nat}{i:Int}{j:Nat}(h:CF n i=some j):seqIndex? i n=some j/\j<n/\ -(n:Int)<=i/\i<n:=by
 unfold CF at h
 by_cases h0:0<=i
 ·rw [if_pos h0] at h
  by_cases h1:i<n
  ·rw [if_pos h1] at h;have e:i.toNat=j:=zzq h
   exact⟨by rw [seqIndex_of h0 h1,e],by omega,by omega,h1⟩
  ·rw [if_neg h1] at h;cases h
 ·rw [if_neg h0] at h
  by_cases h1: -(n:Int)<=i
  ·rw [if_pos h1] at h;have e:(i+n).toNat=j:=zzq h
   exact⟨by rw [seqIndex_neg (by omega) h1,e],by omega,h1,by omega⟩
  ·rw [if_neg h1] at h;cases h
def nQ{α:Type}{xs:List α}{i:Int}{v:α}(h:pC xs i=some v):∃j,seqIndex? i xs.length=some j/\xs[j]?=some v/\j<xs.length/\ -(xs.length:Int)<=i/\i<xs.length:=by
 unfold pC at h;cases e:CF xs.length i with
 |none=>rw [e] at h;cases h
 |some j=>
  rw [e] at h;obtain⟨h1,h2,h3,h4⟩:=CG e
  exact⟨j,h1,h,h2,h3,h4⟩
def nL(b:Expr):Prop:=∀o i,subscripted b false o i=operate [o,i] (getItem o i)
def I0(X:Cx)(r:R2):Prop:=
 ∀(value slice:Expr) (aa:List (Addr×Obj)) (s:Shared) (σ:St) (H:Hp) (x y:V) (v u:Value) (Q:VK),Inv X aa σ H s->RelV x v->RelV y u->r x y H Q->
  subscripted slice false v u=operate [v,u] (getItem v u)->wpAny (model X.prog X.w) X.A (subscriptTail value slice v u) (EP X aa σ Q) X.xe s
def MK(X:Cx)(id:String)(r:V->List V->Hp->VK->Prop):Prop:=
 ∀(aa:List (Addr×Obj)) (s:Shared) (σ:St) (H:Hp) (x:V) (xs:List V) (v:Value) (us:List Value) (Q:VK),Inv X aa σ H s->RelV x v->Vals xs us->r x xs H Q->
  wpAny (model X.prog X.w) X.A (call (.builtin id) (v::us)) (EP X aa σ Q) X.xe s
section
variable{X:Cx}{a b:Expr}{ta tb:TE}{pos:Pos}
def Ac{r:R2}(hr:I0 X r)(ha:PE X a ta)(hb:PE X b tb)(hs:nL b):PE X (.Subscript a b pos) (IJ r ta tb):=by
 intro aa s σ H Q I h;exact Subscript_ (Fn ha hb I h λv u s2 x y H2 I2 rx ry q=>hr a b aa s2 σ H2 x y v u Q I2 rx ry q (hs _ _))
noncomputable def Of(K:zz8):R2:=λx y H Q=>∃p xs i v,x=.ref p/\y=.int i/\iW K H p xs/\pC xs i=some v/\Q v H
noncomputable def Ig(K:zz8):R2:=λx y H Q=>∃p xs i v,x=.ref p/\y=.int i/\eU K H p xs/\pC xs i=some v/\Q v H
noncomputable def Og:R2:=λx y H Q=>∃z i c,x=.str z/\y=.int i/\z.length<=sizeLine/\pC z.cps.toList i=some c/\Q (.str ⟨#[c]⟩) H
def CI:I0 X (Of X.K):=by
 intro value slice aa s σ H x y v u Q I rx ry h hs;obtain⟨p,xs,i,z,rfl,rfl,hq,he,q⟩:=h
 cases rx;obtain⟨t,rfl⟩:=ry
 obtain⟨aw,r,pl,hz⟩:=I.list hq
 obtain⟨j,h1,h2,h3,h4,h5⟩:=nQ he
 obtain⟨w,ew,gH⟩:=r.get h2
 have hl:=r.length
 have hn:=k8
 have fin:EP X aa σ Q w s:=⟨z,H,I,gH,q⟩
 by_cases h0:0<=i
 ·have hj:i.toNat=j:=by
   rw [seqIndex_of h0 h5] at h1;exact zzq h1
  exact item_listR pl.isList h0 (by omega) (by rw [hj];simpa using ew) fin hs
 ·have hj:(i+(aw.toArray.size:Int)).toNat=j:=by
   rw [seqIndex_neg (by omega) h4] at h1;rw [zzC,<-hl];exact zzq h1
  exact subscriptTail_builtinR (x:=w) pl.isList.typeIs slot_list_getitem.lookup
   (wpAny_getItem_list_neg (Q:=λr s'=>r=w/\EP X aa σ Q r s') pl.isList (by omega) (by rw [zzC]<;>omega) (by omega) (by rw [hj];simpa using ew) ⟨rfl,fin⟩) hs
def sk:I0 X (Ig X.K):=by
 intro value slice aa s σ H x y v u Q I rx ry h hs;obtain⟨p,xs,i,z,rfl,rfl,hq,he,q⟩:=h
 cases rx;obtain⟨t,rfl⟩:=ry
 obtain⟨aw,r,pl,hz⟩:=I.tuple hq
 obtain⟨j,h1,h2,h3,h4,h5⟩:=nQ he
 obtain⟨w,ew,gH⟩:=r.get h2
 have hl:=r.length
 have hn:=k8
 have fin:EP X aa σ Q w s:=⟨z,H,I,gH,q⟩
 exact subscriptTail_builtinR (x:=w) pl.typeIs slot_tuple_getitem.lookup
  (getItem_tuple (j:=j) (Q:=λr s'=>r=w/\EP X aa σ Q r s') pl (by omega) (by omega) (by rw [zzC,<-hl];exact h1) (by simpa using ew) ⟨rfl,fin⟩) hs
def G7:I0 X Og:=by
 intro value slice aa s σ H x y v u Q I rx ry h hs;obtain⟨z,i,c,rfl,rfl,hz,he,q⟩:=h
 obtain⟨t,rfl⟩:=rx
 obtain⟨t',rfl⟩:=ry
 obtain⟨j,h1,h2,h3,h4,h5⟩:=nQ he
 have hl:z.cps.toList.length=z.length:=by simp [Str.length]
 rw [hl] at h1 h4 h5;have hn:=k8
 exact tail_any (typeIs_str s z t) slot_str_getitem.lookup (getItem_str (c:=c) (by
  have e1:decide (i< -(2^63:Int))=false:=zz0 (by omega)
  have e2:decide (i>=2^63)=false:=zz0 (by omega)
  rw [e1,e2,Bool.or_false]) (by rw [h1];simpa using h2) ⟨.str ⟨#[c]⟩,H,I.tok _,⟨_,rfl⟩,q⟩) hs
def il:dH X (.builtin "len") (λxs H Q=>∃p ys,xs=[.ref p]/\(iW X.K H p ys\/eU X.K H p ys)/\Q (.int ys.length) H):=by
 intro aa s σ H xs us Q I r h;obtain⟨p,ys,rfl,hq,q⟩:=h
 obtain⟨u,rfl,rx⟩:=vals1 r
 cases rx;have hn:=k8
 rcases hq with hq|hq
 ·obtain⟨aw,r',pl,hz⟩:=I.list hq
  have hlen:=r'.length
  exact Calls.call_len_list pl.isList (by simp! [zzC]<;>omega) ⟨.int ys.length,H,I.tok _,⟨s.toks+1,by rw [zzC,hlen]⟩,q⟩
 ·obtain⟨aw,r',pl,hz⟩:=I.tuple hq
  have hlen:=r'.length
  exact len_tuple pl (by simp! [zzC]<;>omega) ⟨.int ys.length,H,I.tok _,⟨s.toks+1,by rw [zzC,hlen]⟩,q⟩
def nV:dH X (.builtin "len") (λxs H Q=>∃z,xs=[.str z]/\z.length<=sizeLine/\Q (.int z.length) H):=by
 intro aa s σ H xs us Q I r h;obtain⟨z,rfl,hz,q⟩:=h
 obtain⟨u,rfl,t,rfl⟩:=vals1 r
 have hn:=k8
 exact len_str (by omega) ⟨.int z.length,H,I.tok _,⟨_,rfl⟩,q⟩
def me:dH X (.type "tuple") (λxs H Q=>∃p ys,xs=[.ref p]/\((iW X.K H p ys/\∀l,H l=none->Q (.ref l) (upd H l (.tup ys)))\/(eU X.K H p ys/\Q (.ref p) H))):=by
 intro aa s σ H xs us Q I r h;obtain⟨p,ys,rfl,h⟩:=h
 obtain⟨u,rfl,rx⟩:=vals1 r
 cases rx;rcases h with⟨hq,q⟩|⟨hq,q⟩
 ·obtain⟨aw,r',pl,hz⟩:=I.list hq
  have hlen:=r'.length
  refine call_tuple_list pl.isList (λh' kp=>?_) (by simp! [zzC]<;>omega);have I1:Inv X aa σ H {s with heap:=h'}:=I.kept (t':=s.toks) kp
  have I2:Inv X aa σ (upd H h'.objs.size (.tup ys)) {s with heap:=h'.push {cls:=.type "tuple",data:=.seq aw.toArray}}:=
   I1.laid (t':=s.toks) (λb o e=>zzB _ e) (zzE _) (show bK X.prog X.w _ _ _ (.tup ys) from⟨hz,aw,r',IsTup.new _ _⟩)
  exact⟨.ref h'.objs.size,_,I2,rfl,q _ (I1.aN.fresh (zzE _))⟩
 ·obtain⟨aw,r',pl,hz⟩:=I.tuple hq
  exact call_tuple_same pl ⟨.ref p,H,I,rfl,q⟩
def OK(K:zz8)(T:String)(x:V)(H:Hp):Prop:=match x with
 |.str _=>T="str"
 |.int _=>T="int"
 |.ref p=>(T="list"/\∃xs,iW K H p xs)\/(T="tuple"/\∃o,K.lookup p=some o/\o.cls=.type "tuple"/\o.dict=none)\/
  (T="dict"/\((∃av,H p=some (.dK av))\/∃av,H p=some (.dT av)))\/(T="set"/\∃S n,H p=some (.set S n))
 |_=>False
def IS{aa:List (Addr×Obj)}{σ:St}{H:Hp}{s:Shared}{T:String}{x:V}{v:Value}(I:Inv X aa σ H s)(r:RelV x v)(ty:OK X.K T x H):
 s.TypeIs v T/\∀a,v=.ref a->∃ob,s.heap.get? a=some ob/\ob.dict=none:=by
 cases x with
 |str z=>
  obtain⟨t,rfl⟩:=r
  cases(show T="str" from ty);exact⟨typeIs_str s z t,λ_ e=>nomatch e⟩
 |int i=>
  obtain⟨t,rfl⟩:=r
  cases(show T="int" from ty);exact⟨typeIs_int s i t,λ_ e=>nomatch e⟩
 |ref p=>
  cases r;rcases ty with⟨rfl,xs,hq⟩|⟨rfl,o,hk,hc,hd⟩|⟨rfl,hk⟩|⟨rfl,S,n,hk⟩
  ·obtain⟨aw,_,pl,_⟩:=I.list hq
   refine⟨pl.isList.typeIs,λa e=>?_⟩
   cases e;obtain⟨o,n,e,c,hd,_⟩:=pl
   exact⟨o,e,hd⟩
  ·refine⟨⟨o,I.qx p o hk,hc⟩,λa e=>?_⟩
   cases e;exact⟨o,I.qx _ o hk,hd⟩
  ·have z:∃o,s.heap.get? p=some o/\o.ExactDict:=by
    rcases hk with⟨av,hk⟩|⟨av,hk⟩
    ·obtain⟨_,_,_,_,o,_,_,e,ex,_⟩:=I.aN p _ hk
     exact⟨o,e,ex⟩
    ·obtain⟨_,_,_,_,o,_,_,e,ex,_⟩:=I.aN p _ hk
     exact⟨o,e,ex⟩
   obtain⟨o,e,ex⟩:=z
   refine⟨⟨o,e,ex.1⟩,λa e2=>?_⟩
   cases e2;exact⟨o,e,ex.2.1⟩
  ·obtain⟨o,_,_,_,e,ex,_⟩:=I.aN p _ hk
   refine⟨⟨o,e,ex.1⟩,λa e2=>?_⟩
   cases e2;exact⟨o,e,ex.2.1⟩
 |_=>exact zzk ty
noncomputable def Qv(K:zz8)(T:String)(r:V->List V->Hp->VK->Prop)(to:TE)(t:TA):TE:=λσ H Q=>to σ H λx H1=>OK K T x H1/\t σ H1 λxs H2=>r x xs H2 Q
variable{o e:Expr}{es:List Expr}{to:TE}{t:TA}{name:Str}{apos bI:Pos}{T id:String}{r:V->List V->Hp->VK->Prop}
theorem zZ(pa:PlainAttrs T)(slot:Slot T name id)(RB:typeOf (.builtin id)=pure (.type "method_descriptor"))(hm:MK X id r)(ho:PE X o to)(ha:PA X (e::es) t)
 (fy:attributeBase o name X.env (eval o X.env)=eval o X.env:=by rfl)
 (GK:((backTo bI (starEach (e::es) X.env)).all (λx=>!x.1)&&(backToKw bI (keywordEach [] X.env)).all (λx=>x.1.isSome)
  &&decide ((e::es).length+([]:List Keyword).length+(if([]:List Keyword).isEmpty then 0 else 1)<30))=true:=by rfl)
 (iI:(apos.endLine==bI.line)=true:=by rfl) (hs:starEach (e::es) X.env=(false,eval e X.env)::starEach es X.env:=by rfl) (hplain:(backTo bI (starEach es X.env)).any (·.1)=false:=by rfl):
 PE X (.Call (.Attribute o name apos) (e::es) [] bI) (Qv X.K T r to t):=by
 intro aa s σ H Q I h;refine wpAny_Call_method_late fy GK iI rfl (bJ (ho aa s σ H _ I h) λv s1 ⟨x,H1,I1,r1,ty,q1⟩=>?_)
 obtain⟨h1,h2⟩:=IS I1 r1 ty
 refine⟨T,id,pa,slot,RB,h1,h2,?_⟩;have hA:=ha bI aa s1 σ H1 _ I1 q1
 rw [hs] at hA⊢;refine Calls.callWith_builtin (by show(false||(backTo bI (starEach es X.env)).any (·.1))=false;rw [hplain]<;>rfl) (Calls.evalArgs_plain ?_);exact bJ hA λus s2 ⟨vs,H2,I2,r2,q2⟩=>hm aa s2 σ H2 x vs v us Q I2 r1 r2 q2
end
def QG(X:Cx)(id:String)(r:V->List V->Hp->VK->Prop):Prop:=
 ∀(aa:List (Addr×Obj)) (s:Shared) (σ:St) (H:Hp) (x:V) (xs:List V) (v:Value) (us:List Value) (Q:VK),Inv X aa σ H s->RelV x v->Vals xs us->r x xs H Q->
  wpAny (model X.prog X.w) X.A (call (.builtin id) (v::us)) (EP X aa σ Q) X.xe s
theorem Vals.one:∀{x:V} {us:List Value},Vals [x] us->∃u,us=[u]/\RelV x u
 |_,_,.cons r .nil=>⟨_,rfl,r⟩
def Vals.two{x y:V}{us:List Value}(h:Vals [x,y] us):∃u v,us=[u,v]/\RelV x u/\RelV y v:=by
 cases h with
 |cons r q=>
  cases q with
  |cons q n=>cases n;exact⟨_,_,rfl,r,q⟩
theorem Vals.rep{xs:List V}{us:List Value}(h:Vals xs us):∀k:Nat,Vals (List.replicate k xs).flatten (List.replicate k us).flatten
 |0=>.nil
 |k+1=>by
  rw [List.replicate_succ,List.replicate_succ,List.flatten_cons,List.flatten_cons];exact Vals.append h (Vals.rep h k)
theorem foldl_rep(aw:List Value):∀(k:Nat) (acc:List Value),
 List.foldl (λx1 x2=>x1++x2) acc.toArray (List.replicate k aw.toArray)=(acc++(List.replicate k aw).flatten).toArray
 |0,acc=>by simp
 |k+1,acc=>by
  have e:acc.toArray++aw.toArray=(acc++aw).toArray:=by simp
  have e2:(acc++aw)++(List.replicate k aw).flatten=acc++(List.replicate (k+1) aw).flatten:=by
   rw [List.replicate_succ,List.flatten_cons,List.append_assoc]
  rw [<-e2,<-foldl_rep aw k (acc++aw),<-e,List.replicate_succ,List.foldl_cons]
section
variable{X:Cx}{aa:List (Addr×Obj)}{σ:St}{H:Hp}{s:Shared}{l:Addr}{xs ys:List V}
def Inv.KY{aw its':List Value}{n:Nat}{f:Array Value->Array Value}{t':Nat}(I:Inv X aa σ H s)(hH:H l=some (.lst xs))
 (e:s.heap.get? l=some {cls:=.type "list",data:=.seq aw.toArray n}) (hf:f aw.toArray=its'.toArray) (hv:Vals ys its') (hz:ys.length<=sizeLine):
 Inv X aa σ (upd H l (.lst ys)) {s with heap:=s.heap.update l (Obj.mapSeq f),toks:=t'}:=by
 have q:=PySem.IsL.update e f
 rw [hf] at q;refine I.write (x:=l) (e:=l) (by rw [hH];exact trivial) (.inl rfl) (λb' u hb hu=>(Heap.get?_update_other s.heap (Obj.mapSeq f) (Ne.symm hb)).trans hu) ⟨_,q⟩ ?_
 exact⟨hz,its',_,hv,q⟩
def Inv.KZ(I:Inv X aa σ H s)(hH:H l=some (.lst xs)):xs.length<=sizeLine/\∃(aw:List Value) (n:Nat),Vals xs aw/\xs.length=aw.length/\s.heap.get? l=some {cls:=.type "list",data:=.seq aw.toArray n}:=by
 obtain⟨z,aw,n,r,e⟩:=I.aN l _ hH
 exact⟨z,aw,n,r,r.length,e⟩
def zK{n:Nat}(h:n<=sizeLine):Builtin.List.listTooLong n=false:=by
 unfold Builtin.List.listTooLong;exact zz0 (by omega)
def DE:V->List V->Hp->VK->Prop:=λx vs H Q=>∃l xs y,x=.ref l/\vs=[y]/\H l=some (.lst xs)/\xs.length<sizeLine/\Q .aM (upd H l (.lst (xs++[y])))
def wX:QG X "list.append" DE:=by
 intro aa s σ H x vs v us Q I rx rv h;obtain⟨l,xs,y,rfl,rfl,hH,hz,q⟩:=h
 cases rx;obtain⟨u,rfl,ru⟩:=rv.one
 obtain⟨z,aw,n,r,hl,e⟩:=I.KZ hH
 refine call_meets F.slot_list_append ⟨_,e,rfl⟩ F.entry_list_append (F.args_list_append_2 _ _) (PySem.list_append l aw.toArray n u (by rw [zzC];omega)) ⟨e,?_⟩;refine⟨.aM,_,I.KY (its':=aw++[u]) hH e (by simp) (r.append (.cons ru .nil)) ?_,rfl,q⟩;rw [zzM,List.length_singleton];omega
def len_rep{α:Type}(xs:List α)(k:Nat):(List.replicate k xs).flatten.length=k*xs.length:=by
 induction k with
 |zero=>simp
 |succ k ih=>rw [List.replicate_succ,List.flatten_cons,zzM,ih,Nat.succ_mul,Nat.add_comm]
end
end L2
namespace Att
open PySem PySem.W PySem.Calls PyProof.Rows
def jw{P:Params}{h:Heap}:∀(ns:List Int) (vs:List Value),WellAll P h vs (ns.map WData.int)->IntsAre vs ns:=by
 intro ns
 induction ns with
 |nil=>
  intro vs w;rw [List.map_nil] at w;cases w;exact .nil
 |cons n ns ih=>
  intro vs w;rw [zzF] at w;cases w with
  |cons a b=>
   cases a;exact .cons _ _ (ih _ b)
def xu{l:OpenLaw}{n:Nat}(hn:l.most=some n){P:Params}{h:Heap}{args:List WData}{vals:List Value}
 (Cu:l.row.toRowW.claim.pre args=true) (NB:WellAll P h vals args):
 ∃a vs ns,vals=[Value.ref a]/\args=[WData.list (ns.map WData.int)]/\h.get? a=some {cls:=.type "list",data:=.seq vs.toArray}/\IntsAre vs ns/\ns.length<=n:=by
 have Rx:WShape.hasAll [] args [.list .int]=true:=(pre_splitW Cu).1
 have hc:l.pre.holds [] {args:=args}=true:=(pre_splitW Cu).2
 obtain⟨d,r,rfl,h1,h2⟩:=hasAllW_cons Rx
 obtain rfl:=hasAllW_nil h2
 obtain⟨xs,rfl,h3⟩:=hasW_list h1
 obtain⟨ns,rfl⟩:=items_int h3
 have hlen:ns.length<=n:=by
  unfold OpenLaw.pre at hc;have h4:(WTm.not (.lt (.lit (.int (n:Int))) (.len (.arg 0)))).holds [] {args:=[.list (ns.map .int)]}=true:=by
   have h4:=(holds_andW hc).1
   rw [hn] at h4;exact h4
  have h5:=condW_of h4 (w_not (w_lt w_lit (w_len_list (w_arg rfl))))
  rw [zzl] at h5;refine Nat.le_of_not_lt λq=>?_
  have q':(n:Int)<((ns.length:Nat):Int):=by omega
  first
   |(rw [zzh q'] at h5;exact absurd h5 (by decide))
   |(simp at h5;omega)
 cases NB with
 |cons w1 w2=>
  cases w2;cases w1 with
  |list ho hall=>exact⟨_,_,ns,rfl,rfl,ho,jw ns _ hall,hlen⟩
theorem xm(l:OpenLaw)(args:List WData):l.row.toRowW.claim.post args (.bool true) args=true:=
 postW_of (r:=l.row.toRowW) (X:=(true==true))
  (show WShape.has [] (.bool true) .bool=true by first|rfl|decide|simp [WShape.has,WShape.arms,WShape.armsAll])
  (show(WTm.eq .res (.lit (.bool true))).value [] {args:=args,res:=some (.bool true),after:=args}=some (.bool (true==true)) from w_eq_bool (w_res rfl) w_lit) rfl
def pN{l:OpenLaw}{n:Nat}{q:Program}{loose:List Str}{XP:(Str->Option Value)->Heap->Prop}{YP:World->Heap->Prop}{d:DefRec}
 (hn:l.most=some n) (Kv:d.params.defaults=[])
 (call:∀(w:World) (s₀ s₁:Shared) (mg mb:Str->Option Value) (fa:Addr) (o:Obj) (pm cd doc:Value) (a:Addr) (vs:List Value) (ns:List Int),
  Ground q loose [] XP w s₀ mg mb s₁.heap->YP w s₁.heap->
  s₁.heap.get? fa=some o->o.data=.func (docDef d.name d.params d.body d.scope pm cd doc)->s₁.heap.CodeRec cd d.name->mg d.name=some (.ref fa)->
  s₁.heap.get? a=some {cls:=.type "list",data:=.seq vs.toArray}->IntsAre vs ns->ns.length<=n->s₁.gens=#[]->
  codeAny (model l.prog w) callerA (.call (.ref fa) ⟨[.ref a],[]⟩) (λr s'=>r=.ok (.ret (.bool true))/\OldK s₁.heap s'.heap/\s'.os=s₁.os/\AllBare s'.gens) s₁):
 WalkO q loose XP YP l.row.toRowW d [] (λf vs=>PySem.call f vs):=by
 intro w s₀ s₁ mg mb G Y fa o pm cd doc dV kV ho hd mY hD hmg hg args vals as Cu hlay hrd NB hlo;obtain rfl:dV=.none:=Dflts.none hD Kv
 obtain rfl:kV=.none:=Dflts.noKw hD
 obtain⟨a,vs,ns,rfl,rfl,hobj,hints,hlen⟩:=xu hn Cu NB
 refine enter_call (codeAny_mono (call w s₀ s₁ mg mb fa o pm cd doc a vs ns G Y ho (fd_plain hd) mY hmg hobj hints hlen hg) λr s' hq=>?_)
 obtain⟨rfl,h2,h3,h4⟩:=hq
 exact⟨.inl ⟨.bool true,.bool true,[],rfl,λ_=>rfl,.bool true,xm l _,λ_=>⟨List.Pairwise.nil,λ_ hm=>(nomatch hm)⟩⟩,h2,h3,h4⟩
section
noncomputable def ledger(h:Heap)(L d:Addr):List (Addr×Obj):=(List.range h.objs.size).filterMap λa=>if a=L\/a=d then none else(h.get? a).map λo=>(a,o)
end
end Att
namespace L2
open PySem PySem.Spec PyProof.Rows
theorem nD:∀{vs:List Value} {ns:List Int},IntsAre vs ns->Vals (ns.map V.int) vs
 |_,_,.nil=>.nil
 |_,_,.cons n t h=>.cons ⟨t,rfl⟩ (nD h)
noncomputable def cW(s:Stmt):Arguments:=match s with
 |.FunctionDef _ a _ _ _ _ _ _ _ _=>a
 |_=>{posonlyargs:=[],args:=[],vararg:=none,kwonlyargs:=[],kw_defaults:=[],kwarg:=none,defaults:=[]}
noncomputable def cE(s:Stmt):List Stmt:=match s with
 |.FunctionDef _ _ b _ _ _ _ _ _ _=>b
 |_=>[]
noncomputable def aQ(s:Stmt):Scope:=match s with
 |.FunctionDef _ _ _ _ _ _ sc _ _ _=>sc
 |_=>{kind:=.function,names:=[],isGenerator:=false,isCoroutine:=false}
structure LS(K:zz8)(x qual:Str)(st:Stmt)(f:Addr)(fd:FuncData):Prop where
 ex:∃(oc:Value) (od:Option Addr) (kV doc pm:Value) (an:Option Addr) (fv ct:Value) (sH:Array (Option Value)),
  fd=PySem.W.fnOf x qual (cW st) (cE st) (aQ st) .none kV doc pm an fv ct/\K.lookup f=some ⟨oc,od,.func fd,sH⟩/\PySem.W.codeIn K fv qual=true
 kp:PySem.W.keepIn K (.ref f)=true
section
variable{K:zz8}
def LS.binds{x qual:Str}{st:Stmt}{f:Addr}{fd:FuncData}{ps:List Str}(F:LS K x qual st f fd)
 (h:∀(kV doc pm:Value) (an:Option Addr) (fv ct:Value) (us:List Value),us.length=ps.length->bindArgs (PySem.W.fnOf x qual (cW st) (cE st) (aQ st) .none kV doc pm an fv ct) ⟨us,[]⟩=pure (ps.zip us)):Binds K fd ps []:=by
 obtain⟨oc,od,kV,doc,pm,an,fv,ct,sH,rfl,lk,mY⟩:=F.ex
 exact .all (h kV doc pm an fv ct)
def yC{x qual:Str}{st:Stmt}{f:Addr}{oc:Value}{od an:Option Addr}{sH:Array (Option Value)}{kV doc pm fv ct:Value}(l:K.lookup f=some ⟨oc,od,.func (PySem.W.fnOf x qual (cW st) (cE st) (aQ st) .none kV doc pm an fv ct),sH⟩)
 (c:PySem.W.codeIn K fv qual=true) (k:PySem.W.keepIn K (.ref f)=true):LS K x qual st f (PySem.W.fnOf x qual (cW st) (cE st) (aQ st) .none kV doc pm an fv ct):=⟨⟨oc,od,kV,doc,pm,an,fv,ct,sH,rfl,l,c⟩,k⟩
variable{X:Cx}
theorem pv(i:Nat){x:Str}{pos:Pos}(hN:X.N[i]?=some x:=by rfl)(hv:Jc X.env.scope x:=by first|exact Or.inl rfl|exact Or.inr (Or.inl rfl)|exact Or.inr (Or.inr rfl))(hd:(x==("__debug__":Str))=false:=by decide)
 (mY:(x==("__classdict__":Str))=false:=by decide):PE X (.Name x pos) (pj i):=dm hN hv hd mY
end
def NK{A B:Prop}(h:B):if false=true then A else B:=by
 rw [if_neg zzf];exact h
def NL{A B:Prop}(h:A):if true=true then A else B:=by
 rw [if_pos rfl];exact h
def ax(H H':Hp):Prop:=∀b o,H b=some o->H' b=some o
def ax.refl(H:Hp):ax H H:=λ_ _ h=>h
def ax.trans{H H1 H2:Hp}(a:ax H H1)(b:ax H1 H2):ax H H2:=λc o h=>b c o (a c o h)
def ax.free{H H':Hp}(e:ax H H'){l:Addr}(h:H' l=Option.none):H l=Option.none:=by
 cases q:H l with
 |none=>rfl
 |some o=>
  rw [e l o q] at h;cases h
end L2
set_option maxHeartbeats 8000000
namespace L2
open PySem PySem.Spec PyProof.Rows
noncomputable def bE(env:Env)(ys:List Str):List (Str×Addr):=ys.map λy=>(y,(env.cells.lookup y).getD 0)
noncomputable def yZ(σ:St)(is:List Nat):St:=is.map λi=>(σ[i]?).join
noncomputable def lB(scope:Scope)(x:Str):Bool:=scope.names.lookup x==some .cell
theorem rO{x:Str}{c:Addr}:∀(names:List (Str×NameKind)) (n:Nat) (acc:List (Str×Addr)),(x,c)∈cellsFrom n names acc->(x,c)∈acc\/(x,NameKind.cell)∈names/\n<=c
 |[],n,acc,h=>by rw [cellsFrom.eq_def] at h;exact .inl h
 | (y,k)::r,n,acc,h=>by
  rw [cellsFrom.eq_def] at h;dsimp only at h;split at h
  ·rename_i hk;cases eq_of_beq hk;rcases rO r (n+1) _ h with z|⟨z1,z2⟩
   ·rcases zzm.mp z with z|z
    ·cases z;exact .inr ⟨zzP ..,zzE _⟩
    ·exact .inl z
   ·exact .inr ⟨zzI _ z1,Nat.le_of_succ_le z2⟩
  ·rcases rO r n _ h with z|⟨z1,z2⟩
   ·exact .inl z
   ·exact .inr ⟨zzI _ z1,z2⟩
theorem nY{x:Str}{c:Addr}:∀(names:List (Str×NameKind)) (n:Nat) (acc:List (Str×Addr)),(cellsFrom n names acc).lookup x=some c->acc.lookup x=some c\/(x,NameKind.cell)∈names/\n<=c
 |[],n,acc,h=>by rw [cellsFrom.eq_def] at h;exact .inl h
 | (y,k)::r,n,acc,h=>by
  rw [cellsFrom.eq_def] at h;dsimp only at h;split at h
  ·rename_i hk;cases eq_of_beq hk;rcases nY r (n+1) _ h with z|⟨z1,z2⟩
   ·rw [zz5] at z;cases e:x==y with
    |true=>rw [e] at z;cases z;cases eq_of_beq e;exact .inr ⟨zzP ..,zzE _⟩
    |false=>rw [e] at z;exact .inl z
   ·exact .inr ⟨zzI _ z1,Nat.le_of_succ_le z2⟩
  ·rcases nY r n _ h with z|⟨z1,z2⟩
   ·exact .inl z
   ·exact .inr ⟨zzI _ z1,z2⟩
theorem nX{x:Str}:∀(names:List (Str×NameKind)) (n:Nat) (acc:List (Str×Addr)),(x,NameKind.cell)∉names->(cellsFrom n names acc).lookup x=acc.lookup x
 |[],n,acc,_=>by rw [cellsFrom.eq_def]
 |(y,k)::r,n,acc,h=>by
  rw [cellsFrom.eq_def];dsimp only;have hr:(x,NameKind.cell)∉r:=λz=>h (zzI _ z)
  split
  ·rename_i hk;cases eq_of_beq hk;rw [nX r (n+1) _ hr,zz5];cases e:x==y with
   |true=>cases eq_of_beq e;exact absurd (zzP ..) h
   |false=>rfl
  ·exact nX r n acc hr
theorem Fv{x:Str}{c:Addr}:∀(names:List (Str×NameKind)) (n:Nat) (acc:List (Str×Addr)),(x,c)∈cellsFrom n names acc->(∀p∈acc,p.2≠c)->(x,c)∈cellsFrom n names []
 |names,n,acc,h,ha=>by
  have key:∀(names:List (Str×NameKind)) (n:Nat) (acc b:List (Str×Addr)),(x,c)∈cellsFrom n names (b++acc)->(∀p∈acc,p.2≠c)->(x,c)∈cellsFrom n names b:=by
   intro names
   induction names with
   |nil=>
    intro n acc b h ha;rw [cellsFrom.eq_def] at h⊢;rcases List.mem_append.mp h with z|z
    ·exact z
    ·exact absurd rfl (ha _ z)
   |cons y r ih=>
    intro n acc b h ha;obtain⟨y,k⟩:=y
    rw [cellsFrom.eq_def] at h⊢;dsimp only at h⊢;split at h
    ·rename_i hk;rw [if_pos hk];exact ih (n+1) acc ((y,n)::b) h ha
    ·rename_i hk;rw [if_neg hk];exact ih n acc b h ha
  exact key names n acc [] h ha
theorem nZ{x y:Str}{c:Addr}:∀(names:List (Str×NameKind)) (n:Nat) (acc:List (Str×Addr)),(∀p∈acc,p.2<n)->n<=c->(x,c)∈cellsFrom n names acc->(y,c)∈cellsFrom n names acc->x=y
 |[],n,acc,ha,hc,h1,h2=>by
  rw [cellsFrom.eq_def] at h1;exact absurd (ha _ h1) (Nat.not_lt.mpr hc)
 | (z,k)::r,n,acc,ha,hc,h1,h2=>by
  rw [cellsFrom.eq_def] at h1 h2;dsimp only at h1 h2;split at h1
  ·rename_i hk;rw [if_pos hk] at h2;have Mb:∀p∈(z,n)::acc,p.2<n+1:=λp hp=>by
    rcases zzm.mp hp with q|q
    ·rw [q];exact Nat.lt_succ_self _
    ·exact Nat.lt_succ_of_lt (ha p q)
   by_cases hn:n+1<=c
   ·exact nZ r (n+1) _ Mb hn h1 h2
   ·have one:∀{w:Str},(w,c)∈cellsFrom (n+1) r ((z,n)::acc)->w=z:=λ{w} h=>by
     rcases rO r (n+1) _ h with q|q
     ·rcases zzm.mp q with q|q
      ·cases q;rfl
      ·exact absurd (ha _ q) (Nat.not_lt.mpr hc)
     ·exact absurd q.2 hn
    rw [one h1,one h2]
  ·rename_i hk;rw [if_neg hk] at h2;exact nZ r n acc ha hc h1 h2
def tH{M:Model}{A:Around}{E:Value->Shared->Prop}{s:Shared}{scope:Scope}{g:Addr}{cl:List (Str×Addr)}{qual:Str}{around:Env}{Q:Env->Shared->Prop}
 (h:Q (newEnv scope (zz9 s) g (cellsFrom ((zz9 s)+1) scope.names cl) qual none .none (some around) builtinsNs) {s with heap:=pushCells (s.heap.push {cls:=.type "dict",data:=.dict #[]}) scope.names}):
 wpAny M A (newFunctionEnv scope g cl [] qual none .none (some around)) Q E s:=by
 unfold newFunctionEnv;refine zzA (wpAny_alloc ?_);refine zzA (wpAny_forIn_list _ (λrest b s'=>s'={s with heap:=s'.heap}/\pushCells s'.heap rest=pushCells (s.heap.push {cls:=.type "dict",data:=.dict #[]}) scope.names/\cellsFrom (zz9 s') rest b=cellsFrom ((zz9 s)+1) scope.names cl) _ (λx rest b s' hI=>?_) (λb s' hI=>?_) scope.names cl ⟨rfl,rfl,by rw [Heap.size_push]⟩)
 ·obtain⟨h1,h2,h3⟩:=hI
  obtain⟨nm,k⟩:=x
  rw [pushCells.eq_def] at h2;rw [cellsFrom.eq_def] at h3;dsimp only at h2 h3⊢;split
  ·rename_i hk;rw [if_pos hk] at h2 h3;refine zzA (wpAny_alloc (zzG ⟨by rw [h1],h2,?_⟩));dsimp only;rw [Heap.size_push];exact h3
  ·rename_i hk;rw [if_neg hk] at h2 h3;exact zzG ⟨h1,h2,h3⟩
 ·obtain⟨h1,h2,h3⟩:=hI
  rw [pushCells.eq_def] at h2;rw [cellsFrom.eq_def] at h3;dsimp only at h2 h3;subst h3;rw [h1,h2];exact zzA (zzG (zzG h))
noncomputable def bQ(X:Cx)(N':List Str)(scope:Scope)(cl:List (Str×Addr))(fp:List Addr)(s₁:Shared)(H₁:Hp)(C:Addr):Cx where
 prog:=X.prog
 w:=X.w
 K:=X.K
 mg:=X.mg
 base:=X.base
 A:=X.A
 N:=N'
 s₀:=s₁
 H₀:=H₁
 env:=compEnvC scope (cellsFrom (C+1) scope.names cl) C X.env
 outer:=X.stack
 stack:=X.stack
 ex:=fp
 fn:=lB scope
 calm:=true
 pn:=[]
 xe:=λ_ _=>False
theorem ez{env:Env}:∀{ys:List Str},(ys.all λy=>(env.cells.lookup y).isSome)=true->∀(x:Str) (c:Addr),(bE env ys).lookup x=some c->env.cells.lookup x=some c
 |[],_,_,_,h=>by simp [bE] at h
 |y::ys,ha,x,c,h=>by
  rw [List.all_cons,zza] at ha;have ih:=ez (env:=env) ha.2 x c
  unfold bE at h ih;rw [zzF,zz5] at h;cases e:x==y with
  |true=>
   rw [e] at h;have QR:x=y:=zzy.mp e
   subst QR;obtain⟨c',fI⟩:=zzp.mp ha.1
   rw [fI] at h⊢;exact h
  |false=>
   rw [e] at h;exact ih h
theorem ir{env:Env}:∀{ys:List Str} {x:Str},x∈ys->∃c,(bE env ys).lookup x=some c
 |[],_,h=>nomatch h
 |y::ys,x,h=>by
  unfold bE;rw [zzF,zz5];cases e:x==y with
  |true=>exact⟨_,rfl⟩
  |false=>
   have hx:x∈ys:=by
    rcases zzm.mp h with z|z
    ·rw [z] at e;simp at e
    ·exact z
   exact ir (env:=env) hx
def jk{scope:Scope}{env:Env}{x:Str}{k:NameKind}(h:(relabel scope env).names.lookup x=some k)(hk:k=.cell\/k=.free):∃k',(x,k')∈scope.names/\(k'=.cell\/k'=.free):=by
 have hm:=PySem.mem_of_lookup h
 unfold relabel at hm;obtain⟨⟨n,k0⟩,h0,e⟩:=zzx.mp hm
 dsimp only at e;split at e
 ·rename_i hc;cases e;refine⟨k0,h0,.inr ?_⟩;rw [zza,zza] at hc;exact zzy.mp hc.1.1
 ·cases e;exact⟨k,h0,hk⟩
structure eJ(X:Cx)(scope:Scope)(xs ys:List Str)(is:List Nat):Prop where
 kind:scope.kind=.function
 MX:closureFor scope X.env=pure (bE X.env ys)
 cells:(ys.all λy=>(X.env.cells.lookup y).isSome)=true
 FD:(scope.names.all λy=>(decide (y.2≠.cell)||!ys.contains y.1)&&(decide (y.2≠.free)||ys.contains y.1))=true
 own:(scope.names.all λy=>decide (y.2≠.cell)||decide (scope.names.lookup y.1=some .cell))=true
 names:(scope.names.all λy=>decide (y.2≠.local)||decide (scope.names.lookup y.1=some .local))=true
 slots:is.map (λi=>X.N[i]?)=ys.map some
 kX:(ys.all λy=>decide (X.env.kindOf y=some .cell))=true
 kY:(ys.all λy=>decide ((relabel scope X.env).names.lookup y=some .cell))=true
section
variable{X:Cx}{aa:List (Addr×Obj)}{σ:St}{H:Hp}{s:Shared}{scope:Scope}{xs ys:List Str}{is:List Nat}
def eJ.HK(S:eJ X scope xs ys is){x:Str}(h:(x,NameKind.cell)∈scope.names):scope.names.lookup x=some .cell/\x∉ys:=by
 have q:=zzT.mp S.own _ h
 have c:=zzT.mp S.FD _ h
 rw [zza,zzt] at c;rw [zzt] at q;refine⟨zzY (q.resolve_left λz=>zzY z rfl),λhy=>?_⟩
 rcases c.1 with z|z
 ·exact zzY z rfl
 ·rw [zzn.mpr hy] at z;cases z
def fO(I:Inv X aa σ H s)(S:eJ X scope xs ys is){C:Addr}(hC:(zz9 s)<=C){x:Str}{c:Addr}(h:(cellsFrom (C+1) scope.names (bE X.env ys)).lookup x=some c):
 (X.env.cells.lookup x=some c/\c<(zz9 s)/\x∈ys)\/((x,NameKind.cell)∈scope.names/\C+1<=c):=by
 rcases nY _ _ _ h with z|z
 ·have e:=ez S.cells x c z
  obtain⟨v,q⟩:=I.cell x c e
  refine .inl ⟨e,q.lt,?_⟩;have hm:=PySem.mem_of_lookup z
  unfold bE at hm;obtain⟨y,hy,e2⟩:=zzx.mp hm
  cases e2;exact hy
 ·exact .inr z
def v5(I:Inv X aa σ H s)(hc:X.calm=true)(S:eJ X scope xs ys is){N':List Str}{fp:List Addr}{C:Addr}(hC:(zz9 s)<=C)(hf:∀b∈fp,dN X aa H b)(Co:∀b∈fp,b<(zz9 s)):
 (bQ X N' scope (bE X.env ys) fp s H C).Ok where
 mod:=I.ok.mod
 kind:=S.kind
 glob:=I.ok.glob
 blt:=I.ok.blt
 above:=hC
 inj:=λx y c h1 h2=>by
  rcases fO I S hC h1 with z1|z1
  ·rcases fO I S hC h2 with z2|z2
   ·exact I.ok.inj x y c z1.1 z2.1
   ·exact absurd z1.2.1 (Nat.not_lt.mpr (zzU hC (Nat.le_of_succ_le z2.2)))
  ·refine nZ scope.names (C+1) (bE X.env ys) (λp hp=>?_) z1.2 (PySem.mem_of_lookup h1) (PySem.mem_of_lookup h2);unfold bE at hp;obtain⟨y,hy,rfl⟩:=zzx.mp hp
   obtain⟨c',fI⟩:=zzp.mp (zzT.mp S.cells y hy)
   obtain⟨v,q⟩:=I.cell y c' fI
   dsimp only;rw [fI];exact Nat.lt_succ_of_le (zzU (Nat.le_of_lt q.lt) hC)
 has:=λx hx=>by
  have uE:(relabel scope X.env).names.lookup x=some .cell\/(relabel scope X.env).names.lookup x=some .free:=hx
  have:∃k',(x,k')∈scope.names/\(k'=.cell\/k'=.free):=by
   rcases uE with z|z
   ·exact jk z (.inl rfl)
   ·exact jk z (.inr rfl)
  obtain⟨k',hm,hk⟩:=this
  have cv:=zzT.mp S.FD _ hm
  rw [zza,zzt,zzt] at cv;rcases hk with z|z
  ·subst z;exact zzp.mp (PySem.W.cellsFrom_some _ _ _ (.inl (S.HK hm).1))
  ·rcases cv.2 with q|q
   ·exact absurd z (zzY q)
   ·refine zzp.mp (PySem.W.cellsFrom_some _ _ _ (.inr ?_));obtain⟨c,e⟩:=ir (env:=X.env) (zzn.mp q)
    rw [e];rfl
 Fq:=λx c h e=>by
  have hm:(x,NameKind.cell)∈scope.names:=PySem.mem_of_lookup (eq_of_beq h)
  rcases fO I S hC e with z|z
  ·exact absurd z.2.2 (S.HK hm).2
  ·exact zzU hC (Nat.le_of_succ_le z.2)
 hd:=λ_=>I.ok.hd hc
 frames:=I.ok.frames
 Lx:=.inl rfl
 exf:=λb hb=>⟨zzb (zzW (Co b hb) hC),λx c h=>(fO I S hC h).elim (λz=>(hf b hb).2.2.2.2.1 x c z.1) λz q=>absurd (Co b hb) (Nat.not_lt.mpr (q▸zzU hC (Nat.le_of_succ_le z.2)))⟩
 bs:=λb o e=>I.bs b o e
 vL:=zzU I.ok.vL I.sz
 CU:=λb o e hb=>by
  rcases(hf b hb).2.2.2.1 with z|z
  ·exact I.ok.CU b o e z
  ·exact absurd (zzW (zzO e) (zzU I.ok.vL z)) (Nat.lt_irrefl _)
 F0:=λb hb hs=>(zzm.mp (I.gj b hs)).elim (hf b hb).2.1 (hf b hb).2.2.1
 fB:=I.stack
 wo:=λb hb=>I.j7 b hb
theorem uF{N:List Str}:∀{is:List Nat} {ys:List Str},is.map (λi=>N[i]?)=ys.map some->∀(j:Nat) (y:Str) (v:V),ys[j]?=some y->(yZ σ is)[j]?=some (some v)->∃i:Nat,N[i]?=some y/\σ[i]?=some (some v)
 |[],[],_,_,_,_,h,_=>by simp at h
 |[],_::_,h,_,_,_,_,_=>by simp at h
 |_::_,[],h,_,_,_,_,_=>by simp at h
 |i::is,y0::ys,h,0,y,v,h1,h2=>by
  rw [zzF,zzF] at h;have h0:=(List.cons.inj h).1
  simp! [List.getElem?_cons_zero,Option.some.injEq] at h1;subst h1;refine⟨i,h0,?_⟩;unfold yZ at h2;simp! [zzF,List.getElem?_cons_zero,Option.some.injEq] at h2;exact Option.join_eq_some_iff.mp h2
 |i::is,y0::ys,h,j+1,y,v,h1,h2=>by
  rw [zzF,zzF] at h;refine uF (is:=is) (ys:=ys) (List.cons.inj h).2 j y v (by simpa using h1) ?_;unfold yZ at h2⊢
  simpa using h2
noncomputable abbrev lobj(aw:List Value)(n:Nat):Obj:={cls:=.type "list",data:=.seq aw.toArray n}
def wV(aw:List Value)(n:Nat)(v:Option Value):(lobj aw n).data≠.cell v:=λz=>by cases z
noncomputable abbrev tests(ifs:List Expr)(env:Env):Sem Bool:=forIn ifs true λc r=>if r=true then do let ok<-isTrue c env (eval c env);pure (ForInStep.yield ok) else pure (ForInStep.yield r)
theorem n5{prog:Program}{w:World}{A:Around}{R:Result->Shared->Prop}{s:Shared}{elt target iter:Expr}{ifs:List Expr}{scope:Scope}{pos:Pos}{it acc:Value}{env:Env}(I:Nat->Shared->Prop)
 (turn:∀n s,I n s->wpAny (model prog w) A (pyNext it) (λr s₁=>match r with
  |none=>R (.ok .next) s₁
  |some v=>wpAny (model prog w) A (letOwnedTupleGo target it v) (λ_ s₁'=>wpAny (model prog w) A (assign target env v) (λ_ s₂=>
   wpAny (model prog w) A (tests ifs env) (λok s₃=>if ok=true then wpAny (model prog w) A (eval elt env) (λx s₄=>
    wpAny (model prog w) A (call (.builtin "list.append") [acc,x]) (λ_ s₅=>∃m,m<n/\I m s₅) (notedBy (model prog w) A env λe s'=>R (.error e) s') s₄) (notedBy (model prog w) A env λe s'=>R (.error e) s') s₃
    else∃m,m<n/\I m s₃) (notedBy (model prog w) A env λe s'=>R (.error e) s') s₂)
   (notedBy (model prog w) A env λe s'=>R (.error e) s') s₁') (notedBy (model prog w) A env λe s'=>R (.error e) s') s₁) (notedBy (model prog w) A env λe s'=>R (.error e) s') s)
 (n:Nat) (h:I n s):
 codeAny (model prog w) A (.compLoop (.ListComp elt [⟨target,iter,ifs,0⟩] scope pos) 0 it acc env) R s:=by
 refine codeAny_loop rfl I (λn s hI=>?_) n h;show wpAny _ A ((compTurn (.ListComp elt [⟨target,iter,ifs,0⟩] scope pos) 0 it acc env).onRaise (λx=>do noteFrame x env;theTreesLotGoes x)) _ _ s;refine wpAny_noted ?_;rw [compTurn_list];refine zzA (wpAny_standAt (zzA (wpAny_mono (turn n s hI) (λr s₁ h₁=>?_) λ_ _ h'=>h')))
 cases r with
 |none=>exact zzG h₁
 |some v=>
  refine zzA (wpAny_mono h₁ (λ_ s₁' h₁'=>?_) λ_ _ h'=>h')
  refine zzA (wpAny_mono h₁' (λ_ s₂ h₂=>zzA (wpAny_mono h₂ (λok s₃ h₃=>?_) λ_ _ h'=>h')) λ_ _ h'=>h')
  cases ok with
  |false=>exact zzG ⟨rfl,h₃⟩
  |true=>exact zzA (zzA (wpAny_mono h₃ (λx s₄ h₄=>zzA (wpAny_mono h₄ (λ_ s₅ h₅=>zzG (zzG ⟨rfl,h₅⟩)) λ_ _ h'=>h')) λ_ _ h'=>h'))
def ML(X:Cx)(ifs:List Expr)(t:TT):Prop:=
 ∀(aa:List (Addr×Obj)) (s:Shared) (σ:St) (H:Hp) (Q:Bool->Hp->Prop),Inv X aa σ H s->t σ H Q->wpAny (model X.prog X.w) X.A (tests ifs X.env) (TP X aa σ Q) X.xe s
def u9{X:Cx}:ML X [] (λ_ H q=>q true H):=λ_ _ _ H _ I h=>wpAny_tests_nil ⟨H,I,h⟩
def va{X:Cx}{e:Expr}{t:TT}(h:PT X e t):ML X [e] t:=λaa s σ H Q I z=>wpAny_tests_one (h aa s σ H Q I z)
def Jx(J:It)(k:Nat)(g:TG)(te:TE)(fs:St)(Q:VK)(H1:Hp):Prop:=∃(n:Nat) (W:Nat->List V->St->Hp->Prop),W 0 [] (List.replicate k none++fs) H1/\
 ∀i ys σ' H',W i ys σ' H'->ys.length<sizeLine/\((J.stop i H'/\∀p,H' p=none->Q (.ref p) (upd H' p (.lst ys)))\/
  (J.go i H'/\i<n/\∀x l0,J.Ju i H' x l0->g x σ' l0 λσ2 H2=>te σ2 H2 λy H3=>W (i+1) (ys++[y]) σ2 H3))
noncomputable def AN(wi:TI)(k:Nat)(g:TG)(te:TE)(is:List Nat):TE:=λσ H Q=>wi σ H λJ H1=>Jx J k g te (yZ σ is) Q H1
def Bg(J:It)(k:Nat)(g:TG)(tt:TT)(te:TE)(fs:St)(Q:VK)(H1:Hp):Prop:=∃(n:Nat) (W:Nat->List V->St->Hp->Prop),W 0 [] (List.replicate k none++fs) H1/\
 ∀i ys σ' H',W i ys σ' H'->ys.length<sizeLine/\((J.stop i H'/\∀p,H' p=none->Q (.ref p) (upd H' p (.lst ys)))\/
  (J.go i H'/\i<n/\∀x l0,J.Ju i H' x l0->g x σ' l0 λσ2 H2=>tt σ2 H2 λb H3=>if b=true then te σ2 H3 (λy H4=>W (i+1) (ys++[y]) σ2 H4) else W (i+1) ys σ2 H3))
noncomputable def j9(wi:TI)(k:Nat)(g:TG)(tt:TT)(te:TE)(is:List Nat):TE:=λσ H Q=>wi σ H λJ H1=>Bg J k g tt te (yZ σ is) Q H1
def gA{elt tg iter:Expr}{ifs:List Expr}{pos pp:Pos}{wi:TI}{g:TG}{te:TE}{tt:TT}{use:Option (Value->Sem Unit)}{QQ:Value->Shared->Prop}{Q:VK}(hc:X.calm=true)(S:eJ X scope xs ys is)(hi:PI X tg iter wi)
 (hg:∀fp s1 H1 C,PG (bQ X (xs++ys) scope (bE X.env ys) fp s1 H1 C) tg g) (ht:∀fp s1 H1 C,ML (bQ X (xs++ys) scope (bE X.env ys) fp s1 H1 C) ifs tt) (he:∀fp s1 H1 C,PE (bQ X (xs++ys) scope (bE X.env ys) fp s1 H1 C) elt te)
 (hs:∀x,foldedSetIterable iter X.env x=pure x) (I:Inv X aa σ H s) (h:j9 wi xs.length g tt te is σ H Q)
 (fin:∀(D C:Addr) (s4:Shared) (H4:Hp) (m:Str->Option Value),Inv X aa σ H4 s4->s4.heap.Ns C m->dN X aa H4 C->Q (.ref D) H4->compPost (model X.prog X.w) X.A X.xe use QQ (.ref D) C (.ok .next) s4):
 wpAny (model X.prog X.w) X.A (comprehension (.ListComp elt [⟨tg,iter,ifs,0⟩] scope pos) scope X.env pp (newList []) false (eval iter X.env) use) QQ X.xe s:=by
 have GO:∀x∈scope.names,x.2=.local->scope.names.lookup x.1=some .local:=λx hx hl=>by
  have q:=zzT.mp S.names x hx
  rw [zzt] at q;rcases q with q|q
  ·exact absurd hl (zzY q)
  ·exact zzY q
 refine wpAny_comprehension_free (use:=use) (Q:=QQ) (g:=⟨tg,iter,ifs,0⟩) (gs:=[]) rfl hs S.MX S.kind GO (bJ (hi aa s σ H _ I h) λxv s0 h0=>bJ h0 λNM s1 h1=>?_)
 obtain⟨it,fp,tn,J,H1,rfl,I1,T,IC,f1,n,W,w0,turn⟩:=h1
 refine wpAny_newObj_type (tH ?_);dsimp only;generalize hH2:s1.heap.push {cls:=.type "list",dict:=none,data:=.seq ([]:List Value).toArray}=G2
 generalize hh₁:pushCells (G2.push {cls:=.type "dict",data:=.dict #[]}) scope.names=h₁
 have Nu:∀b o,(G2.push {cls:=.type "dict",data:=.dict #[]}).get? b=some o->h₁.get? b=some o:=λb o e=>by rw [<-hh₁];exact pushCells_keeps _ _ b o e
 have hns₁:h₁.Ns G2.objs.size λ_=>none:=(Heap.Ns.new G2 (.type "dict")).keeps Nu
 have PD:G2.objs.size=(zz9 s1)+1:=by rw [<-hH2,Heap.size_push]
 have mf:(zz9 s1)<=G2.objs.size:=by rw [PD];exact Nat.le_succ _
 have L9:(zz9 s1)≠G2.objs.size:=by rw [PD];exact zzb (Nat.lt_succ_self _)
 have old:∀b o,s1.heap.get? b=some o->h₁.get? b=some o:=λb o e=>Nu b o (zzB _ (hH2▸zzB _ e))
 have Nh:h₁.get? (zz9 s1)=some (lobj [] 0):=Nu _ _ (zzB _ (hH2▸zzX _ rfl))
 have Co:∀b∈fp,b<(zz9 s1):=λb hb=>by
  obtain⟨o,e,_⟩:=T.obj _ _ IC b hb
  exact zzO e
 generalize hY:bQ X (xs++ys) scope (bE X.env ys) fp s1 H1 G2.objs.size=Y
 have RK:Y.Ok:=by rw [<-hY];exact v5 I1 hc S mf f1 Co
 have PF:∀b∈fp,(zz9 s1)≠b:=λb hb=>Ne.symm (zzb (Co b hb))
 have M9:∀b,b∈Y.fs->b=X.env.locals\/b∈X.fs:=λb hb=>by
  rw [<-hY] at hb;exact zzm.mp (I1.gj b hb)
 have M8:∀b∈Y.fs,b<(zz9 s1):=λb hb=>by
  rw [<-hY] at hb;obtain⟨_,o,ho,_⟩:=I1.stack.mem hb
  exact zzO ho
 have Nc:(zz9 s1)∉Y.fs:=λz=>Nat.lt_irrefl _ (M8 _ z)
 have Gz:Y.env.locals=G2.objs.size:=by rw [<-hY];rfl
 have Ma:∀x c,Y.env.cells.lookup x=some c->(X.env.cells.lookup x=some c/\c<(zz9 s1)/\x∈ys)\/((x,NameKind.cell)∈scope.names/\G2.objs.size+1<=c):=λx c e=>by
  rw [<-hY] at e;exact fO I1 S mf e
 have Q0:∀x c,Y.env.cells.lookup x=some c->G2.objs.size+1<=c->h₁.IsCell c none:=λx c e hle=>by
  rw [<-hY] at e;have hm:(x,c)∈cellsFrom (G2.objs.size+1) scope.names []:=Fv scope.names _ _ (PySem.mem_of_lookup e) λp hp=>by
   unfold bE at hp;obtain⟨y,hy,rfl⟩:=zzx.mp hp
   obtain⟨c',fI⟩:=zzp.mp (zzT.mp S.cells y hy)
   obtain⟨v,q⟩:=I1.cell y c' fI
   dsimp only;rw [fI];exact zzb (zzW q.lt (zzU mf (Nat.le_of_succ_le hle)))
  have ck:=cellsFrom_ok scope.names (G2.push {cls:=.type "dict",data:=.dict #[]}) 0 [] ⟨(λ_ _ z=>nomatch z),.nil⟩ (Nat.zero_le _)
  rw [Heap.size_push,hh₁] at ck;exact(ck.empty x c hm).1
 have QN:∀x c,Y.env.cells.lookup x=some c->c≠(zz9 s1):=λx c e=>(Ma x c e).elim (λz=>zzb z.2.1) λz=>Ne.symm (zzb (zzV mf z.2))
 have yN:Y.pn=[]:=by rw [<-hY];rfl
 have Kk:Y.ex=fp:=by rw [<-hY];rfl
 have Km:Y.s₀=s1:=by rw [<-hY];rfl
 have PJ:Y.H₀=H1:=by rw [<-hY];rfl
 have Kl:Y.prog=X.prog:=by rw [<-hY];rfl
 have Kp:Y.w=X.w:=by rw [<-hY];rfl
 have PK:Y.K=X.K:=by rw [<-hY];rfl
 have Ng:Y.A=X.A:=by rw [<-hY];rfl
 have QZ:compEnvC scope (cellsFrom (G2.objs.size+1) scope.names (bE X.env ys)) G2.objs.size X.env=Y.env:=by rw [<-hY];rfl
 have Kj:Y.calm=true:=by rw [<-hY];rfl
 have GC:Y.xe=λ_ _=>False:=by rw [<-hY];rfl
 have Ko:Y.fs=eA X.stack:=by rw [<-hY];rfl
 have Lk:∀{H':Hp} {s':Shared} {aw:List Value} {k:Nat},s'.heap.get? (zz9 s1)=some (lobj aw k)->H' (zz9 s1)=none->∀p∈[((zz9 s1),lobj aw k)],s'.heap.get? p.1=some p.2/\H' p.1=none/\p.1≠Y.env.locals/\p.1∉Y.fs/\∀v,p.2.data≠.cell v:=
  λ{H' s' aw k} e hn p hp=>by
   obtain rfl:=zzi.mp hp
   exact⟨e,hn,by rw [Gz];exact L9,Nc,λv=>wV aw k v⟩
 have M7:∀{H':Hp} {aw:List Value} {k:Nat},(∀b∈fp,H' b=none)->∀b∈fp,dN Y [((zz9 s1),lobj aw k)] H' b:=λ{H' aw k} hn b hb=>
  ⟨hn b hb,by rw [Gz];exact zzb (zzW (Co b hb) mf),λz=>(M9 b z).elim (f1 b hb).2.1 (f1 b hb).2.2.1,.inl (by rw [Kk];exact hb),
   λx c e=>(Ma x c e).elim (λz=>(f1 b hb).2.2.2.2.1 x c z.1) (λz q=>absurd (Co b hb) (Nat.not_lt.mpr (q▸zzU mf (Nat.le_of_succ_le z.2)))),λp hp=>by
    rw [yN,List.nil_append] at hp;obtain rfl:=zzi.mp hp
    exact PF b hb⟩
 have Kh:H1 (zz9 s1)=none:=I1.aN.fresh (zzE _)
 have I2:∀tk,Inv Y [((zz9 s1),lobj [] 0)] (List.replicate xs.length none++yZ σ is) H1 {s1 with heap:=h₁,toks:=tk}:=λtk=>by
  refine⟨RK,by rw [Km],I1.bare,by rw [Km,PJ];exact Un.kept old,⟨_,by rw [Gz];exact hns₁,λi x v e1 e2 e3=>?_⟩,λx c e=>?_,?_,λx c e=>(Ma x c e).elim (λz=>I1.fT x c z.1) (λz=>I1.aN.fresh (zzU mf (Nat.le_of_succ_le z.2))),λp hp=>?_,by rw [Kl,Kp];exact I1.aN.kept old,?_⟩
  ·
   have Nd:Y.N=xs++ys:=by rw [<-hY];rfl
   rw [Nd] at e1
   by_cases cm:i<xs.length
   ·rw [zzr (by rw [List.length_replicate];exact cm),List.getElem?_replicate,if_pos cm] at e2;cases e2
   ·have GL:xs.length<=i:=Nat.not_lt.mp cm
    rw [zzs (by rw [List.length_replicate];exact GL),List.length_replicate] at e2;rw [zzs GL] at e1;obtain⟨i0,h0,h1⟩:=uF S.slots _ x v e1 e2
    have hm:x∈ys:=zzD e1
    have kx:X.env.kindOf x=some .cell:=zzY (zzT.mp S.kX x hm)
    have ky:(relabel scope X.env).names.lookup x=some .cell:=zzY (zzT.mp S.kY x hm)
    obtain⟨m,_,hl⟩:=I1.loc
    obtain⟨u,ru,lk⟩:=hl i0 x v h0 h1 (.inr (.inl kx))
    refine⟨u,ru,.inr ⟨.inl (by rw [<-hY];exact ky),?_⟩⟩;rcases lk with⟨z,_⟩|⟨_,c,hc1,hc2⟩
    ·rw [kx] at z;cases z
    ·obtain⟨c',fI⟩:=ir (env:=X.env) hm
     have Ku:=ez S.cells x c' fI
     rw [hc1] at Ku;cases Ku;refine⟨c,by rw [<-hY];exact(nX _ _ _ λz=>(S.HK z).2 hm).trans fI,?_⟩
     obtain⟨o,ho,hd⟩:=hc2
     exact⟨o,old _ _ ho,hd⟩
  ·rcases Ma x c e with z|z
   ·obtain⟨v,o,ho,hd⟩:=I1.cell x c z.1
    exact⟨v,o,old _ _ ho,hd⟩
   ·exact⟨none,Q0 x c e z.2⟩
  ·rw [Gz];exact I1.aN.fresh mf
  ·rw [yN,List.nil_append] at hp;exact Lk (s':={s1 with heap:=h₁,toks:=tk}) Nh Kh p hp
  ·have Nd:Y.N=xs++ys:=by rw [<-hY];rfl
   have hl:=congrArg List.length S.slots
   rw [zzl,zzl] at hl;rw [Nd,zzM,zzM,List.length_replicate];unfold yZ;rw [zzl,hl]
 have loop:∀s₃:Shared,s₃={s1 with heap:=h₁}->
  codeAny (model X.prog X.w) X.A (.compLoop (.ListComp elt [⟨tg,iter,ifs,0⟩] scope pos) 0 (.ref it) (.ref (zz9 s1)) (compEnvC scope (cellsFrom (G2.objs.size+1) scope.names (bE X.env ys)) G2.objs.size X.env))
   (compPost (model X.prog X.w) X.A X.xe use QQ (.ref (zz9 s1)) G2.objs.size) s₃:=by
  rintro s₃ rfl
  rw [QZ];refine n5 (λk s'=>∃i made σ' H' aw c,Inv Y [((zz9 s1),lobj aw c)] σ' H' s'/\tn i s'.heap/\(∀b∈fp,H' b=none)/\Vals made aw/\k=n-i/\W i made σ' H') ?_ n
   ⟨0,[],_,H1,[],0,I2 _,T.keep _ _ _ IC λb _ o e=>old b o e,λb hb=>(f1 b hb).1,.nil,rfl,w0⟩
  rintro k s' ⟨i,made,σ',H',aw,c,I3,st3,fr3,rv,rfl,w3⟩
  obtain⟨hz,tw⟩:=turn i made σ' H' w3
  have pD:=I3.pin ((zz9 s1),lobj aw c) (by rw [yN];exact zzi.mpr rfl)
  rcases tw with⟨stop,hq⟩|⟨go,PY,step⟩
  ·rw [<-Ng];refine bJ (T.done Y Kl Kp PK Kj i _ s' σ' H' _ I3 (M7 fr3) st3 stop) λr s4 ⟨hr,I4⟩=>?_
   subst hr;obtain⟨m,hn4,_⟩:=I4.loc
   rw [Gz] at hn4;have Oc:=I4.pin ((zz9 s1),lobj aw c) (by rw [yN];exact zzi.mpr rfl)
   have kp:∀b o,b≠G2.objs.size->s4.heap.get? b=some o->s4.heap.get? b=some o:=λb o hb e=>e
   have NT:∀{b o},s1.heap.get? b=some o->b≠G2.objs.size:=λ{b o} e=>zzb (zzW (zzO e) mf)
   have fy:=I4.base
   rw [Km,PJ,Kk,Ko] at fy;have NU:∀{b o},H1 b=some o->b≠(zz9 s1):=λ{b o} e=>zzb (I1.aN.lt e)
   have u:Un (eA X.stack) fp H1 (upd H' (zz9 s1) (.lst made)) s1.heap s4.heap:=by
    refine⟨λb o e n hb hx=>kp b o (NT e) (fy.keep b o e n hb hx),λb o e n hb hx=>?_,λb o e n hx=>?_,λb o e hx=>?_,λb xs e=>?_,λb o u e=>?_,λb ps e=>?_⟩
    ·obtain⟨sl,q⟩:=fy.slot b o e n hb hx
     exact⟨sl,kp b _ (NT e) q⟩
    ·rw [af (zzb (zzO e))];exact fy.free b o e n hx
    ·obtain⟨o',q⟩:=fy.there b o e hx
     exact⟨o',kp b _ (NT e) q⟩
    ·rw [af (NU e)];exact fy.gP b xs e
    ·rw [af (NU e)];exact fy.fh b o u e
    ·obtain⟨more,q⟩:=fy.gq b ps e
     exact⟨more,by rw [af (NU e)];exact q⟩
   have PC:H' G2.objs.size=none:=by rw [<-Gz];exact I4.free
   have Ct:dQ X.prog X.w (upd H' (zz9 s1) (.lst made)) s4.heap:=λb o e=>by
    by_cases hb:b=(zz9 s1)
    ·subst hb;rw [ak] at e;cases e;exact⟨Nat.le_of_lt hz,aw,c,rv,kp _ _ L9 Oc.1⟩
    ·rw [af hb] at e;have x4:=I4.aN b o e
     rw [Kl,Kp] at x4;have Hl:∀b' u,H' b'=some u->b'≠G2.objs.size:=λb' u q z=>by rw [z,PC] at q;cases q
     have Qd:∀b' u,H' b'=some u->b'≠(zz9 s1):=λb' u q z=>by rw [z,Oc.2.1] at q;cases q
     refine x4.eR (λb' u j1 q=>kp b' u ?_ q) (λb' q=>?_) λb' xs q=>?_
     ·rcases j1 with z|z
      ·rw [z];exact Hl b o e
      ·exact Hl b' _ z
     ·rw [af (Qd b' _ q)];exact q
     ·rw [af (Qd b' _ q)];exact q
   have I5:Inv X aa σ (upd H' (zz9 s1) (.lst made)) s4:=I1.JU (by show s4.os=s1.os;rw [I4.os,Km]) u Ct I4.bare λb hb=>⟨(f1 b hb).2.2.2.1,(f1 b hb).2.1,(f1 b hb).2.2.2.2.1,(f1 b hb).2.2.2.2.2⟩
   dsimp only;rw [Ng];exact fin (zz9 s1) G2.objs.size s4 _ m I5 hn4 (I1.js mf (by rw [af (Ne.symm L9)];exact PC)) (hq _ Oc.2.1)
  ·rw [<-Ng];refine bJ (T.item Y Kl Kp PK Kj i _ s' σ' H' _ I3 (M7 fr3) st3 go) λr s4 ⟨u,hr,h4⟩=>?_
   subst hr;dsimp only;refine bJ h4 λ_ s5 ⟨x,H5,I5,r5,y5,st5,fr5⟩=>?_
   have MF:=I5.pinned (M7 fr5) (T.obj _ _ st5)
   have PX:=hg fp s1 H1 G2.objs.size
   have PN:=he fp s1 H1 G2.objs.size
   have P1:=ht fp s1 H1 G2.objs.size
   rw [hY] at PX PN P1;rw [<-Kl,<-Kp];refine wpAny_mono (PX _ s5 σ' H5 x u _ MF r5 (step x H5 y5)) (λ_ s6 ⟨σ6,H6,I6,q6⟩=>?_) (λ_ _ f=>by rw [GC] at f;exact f.elim);refine wpAny_mono (P1 _ s6 σ6 H6 _ I6 q6) (λokb sT ⟨HT,IT,qT⟩=>?_) (λ_ _ f=>by rw [GC] at f;exact f.elim);have Sr:=IT.pin ((zz9 s1),lobj aw c) (zzR _ (zzc _ (zzi.mpr rfl)))
   have RV:tn (i+1) sT.heap:=T.keep _ _ _ st5 λb hb o e=>(IT.pin (b,o) (zzR _ (zzR _ (di hb e)))).1
   cases okb with
   |false=>
    refine⟨n-(i+1),by omega,i+1,made,σ6,HT,aw,c,IT.iS,RV,λb hb=>?_,rv,rfl,qT⟩
    obtain⟨o,e,d⟩:=T.obj _ _ st5 b hb
    exact(IT.pin (b,o) (zzR _ (zzR _ (di hb e)))).2.1
   |true=>
   refine wpAny_mono (PN _ sT σ6 HT _ IT qT) (λv s7 ⟨y,H7,I7,r7,q7⟩=>?_) (λ_ _ f=>by rw [GC] at f;exact f.elim);have Od:=I7.pin ((zz9 s1),lobj aw c) (zzR _ (zzc _ (zzi.mpr rfl)))
   have e7:s7.heap.get? (zz9 s1)=some {cls:=.type "list",data:=.seq aw.toArray c}:=Od.1
   refine append_at (hsz:=by rw [zzC,<-rv.length];exact Nat.le_of_lt hz) e7 λh' wL QT=>?_
   have I8:Inv Y [] σ6 H7 s7:=I7.eG λ_ z=>nomatch z
   have I9:Inv Y [] σ6 H7 {s7 with heap:=h'}:=I8.turned (t':=s7.toks) (it:=(zz9 s1)) (λb o hb e=>wL.extBut b o hb e) Od.2.1 (by rw [Gz];exact L9) (.inr (by rw [Km];exact zzE _))
    (λx c' e=>QN x c' e) (λp hp=>by rw [yN] at hp;cases hp)
   have eD:h'.get? (zz9 s1)=some (lobj (aw++[v]) (c+1)):=by rw [QT,List.push_toArray]
   have RU:tn (i+1) s7.heap:=T.keep _ _ _ st5 λb hb o e=>(I7.pin (b,o) (zzR _ (zzR _ (di hb e)))).1
   refine⟨n-(i+1),by omega,i+1,made++[y],σ6,H7,aw++[v],c+1,I9.eG (Lk (s':={s7 with heap:=h'}) eD Od.2.1),T.keep _ _ _ RU λb hb o e=>wL.extBut b o (Ne.symm (PF b hb)) e,λb hb=>?_,rv.append (.cons r7 .nil),rfl,q7⟩
   obtain⟨o,e,d⟩:=T.obj _ _ st5 b hb
   exact(I7.pin (b,o) (zzR _ (zzR _ (di hb e)))).2.1
 exact codeAny_compStart_list (loop _ rfl) (T.self _ 0 _ _ _ (T.keep _ _ _ IC λb _ o e=>old b o e) (loop _ rfl))
def Dr{elt tg iter:Expr}{pos:Pos}{wi:TI}{g:TG}{te:TE}(hc:X.calm=true)(S:eJ X scope xs ys is)(hi:PI X tg iter wi)
 (hg:∀fp s1 H1 C,PG (bQ X (xs++ys) scope (bE X.env ys) fp s1 H1 C) tg g) (he:∀fp s1 H1 C,PE (bQ X (xs++ys) scope (bE X.env ys) fp s1 H1 C) elt te)
 (hs:∀x,foldedSetIterable iter X.env x=pure x:=by intro _;rfl):
 PE X (.ListComp elt [⟨tg,iter,[],0⟩] scope pos) (AN wi xs.length g te is):=by
 intro aa s σ H Q I h;rw [eval_ListComp];exact gA (use:=none) (Q:=Q) hc S hi hg (λ_ _ _ _=>u9) he hs I h (λD C s4 H4 m I5 hn ⟨g0,g1,_,g3,g4,g5⟩ q=>⟨m,hn,λh' wL=>⟨.ref D,H4,I5.turned (t':=s4.toks) (it:=C) (λb o hb e=>wL.extBut b o hb e) g0 g1 g3 g4 g5,rfl,q⟩⟩)
def xj{elt tg iter IP:Expr}{pos:Pos}{wi:TI}{g:TG}{te:TE}{tt:TT}(hc:X.calm=true)(S:eJ X scope xs ys is)(hi:PI X tg iter wi)
 (hg:∀fp s1 H1 C,PG (bQ X (xs++ys) scope (bE X.env ys) fp s1 H1 C) tg g) (ht:∀fp s1 H1 C,PT (bQ X (xs++ys) scope (bE X.env ys) fp s1 H1 C) IP tt) (he:∀fp s1 H1 C,PE (bQ X (xs++ys) scope (bE X.env ys) fp s1 H1 C) elt te)
 (hs:∀x,foldedSetIterable iter X.env x=pure x:=by intro _;rfl):
 PE X (.ListComp elt [⟨tg,iter,[IP],0⟩] scope pos) (j9 wi xs.length g tt te is):=by
 intro aa s σ H Q I h;rw [eval_ListComp];exact gA (use:=none) (Q:=Q) hc S hi hg (λfp s1 H1 C=>va (ht fp s1 H1 C)) he hs I h (λD C s4 H4 m I5 hn ⟨g0,g1,_,g3,g4,g5⟩ q=>⟨m,hn,λh' wL=>⟨.ref D,H4,I5.turned (t':=s4.toks) (it:=C) (λb o hb e=>wL.extBut b o hb e) g0 g1 g3 g4 g5,rfl,q⟩⟩)
end
def bT{H:Hp}{p:Addr}{o:HO}(h:H p=none):ax H (upd H p o):=λb u e=>by rw [af (dj e h)];exact e
section
end
end L2
namespace HT
open PySem PyProof.Rows
def gM{prog:Program}{w:World}{A:Around}{s:Shared}{E:Value->Shared->Prop}{t sl:Addr}{items:Array Value}{vl vu:Value}{lo hi:Option Int}{Q:Value->Shared->Prop}(ht:IsTup s.heap t items)(hs:s.heap.IsSliceOf sl vl vu .none)(pl:IsPart vl lo)(pu:IsPart vu hi)
 (hw:dw items.size 0 lo=0/\dw items.size items.size hi=items.size) (h:Q (.ref t) s):wpAny (model prog w) A (getItem (.ref t) (.ref sl)) Q E s:=by
 obtain⟨os,hos,hcs,hds⟩:=id hs
 have Ki:s.TypeIs (.ref sl) "slice":=⟨os,hos,hcs⟩
 unfold getItem
 try with_reducible refine wpAny_holding ?_
 first|refine zzA (zzG ?_)|skip
 refine zzA (wpAny_sequenceKey ht.typeIs (by decide) ?_);refine zzA (wpAny_callSpecial?_slot (name:=Str.ofString "__getitem__") ht.typeIs PyProof.Rows.slot_tuple_getitem
  (wpAny_call_entry PyProof.Rows.slot_tuple_getitem ht.typeIs entry_tuple_getitem ?_ (args_tuple_getitem _ _)))
 show wpAny _ _ (Builtin.Tuple.tupleItemsOf (.ref t)>>=_) _ _ s
 refine zzA (tupleItemsOf_ ht ?_);refine zzA (wpAny_typeOf Ki ?_);rw [if_pos (by decide)];refine zzA (fc hs pl pu ?_);have NC:(((dw items.size 0 lo:Nat):Int)==0&&(1:Int)==1&&(dw items.size items.size hi-dw items.size 0 lo)==items.size)=true:=by
  rw [hw.1,hw.2];simp
 show wpAny _ _ (if(((dw items.size 0 lo:Nat):Int)==0&&(1:Int)==1&&(dw items.size items.size hi-dw items.size 0 lo)==items.size)=true then _ else _) _ _ s
 rw [if_pos NC];refine zzA (zzA (wpAny_typeOf ht.typeIs ?_));refine zzG ?_;rw [if_pos (by decide)]
 first
  |exact zzA (wpAny_rule (zzG ⟨_,rfl,zzG h⟩))
  |exact wpAny_rule (zzG ⟨_,rfl,zzG h⟩)
  |exact zzA (wpAny_rule (zzA (zzG ⟨_,rfl,zzG h⟩)))
end HT
namespace L2
open PySem PySem.Spec PyProof.Rows
variable{X:Cx}
def DK:Bj X (λx lo hi H Q=>∃a xs,x=.ref a/\eU X.K H a xs/\(HT.dw xs.length 0 lo=0/\HT.dw xs.length xs.length hi=xs.length)/\Q x H):=by
 intro aa s σ H x v vl vu lo hi sl Q I rx hs pl pu h;obtain⟨a,xs,rfl,hx,hw,q⟩:=h
 cases rx;obtain⟨aw,r,ht,hz⟩:=I.tuple hx
 have hlen:aw.toArray.size=xs.length:=by rw [zzC];exact r.length.symm
 refine⟨"tuple",_,PyProof.Rows.slot_tuple_getitem.lookup,ht.typeIs,?_⟩;exact HT.gM ht hs pl pu (by rw [hlen];exact hw) ⟨.ref a,H,I,rfl,q⟩
section
end
section
end
section
variable{a b:Expr}
end
section
end
section
variable{κ:Type} [DecidableEq κ]
noncomputable def fH(av:List (κ×V))(k:κ):Option V:=(av.find? λkv=>decide (kv.1=k)).map (·.2)
noncomputable def putK(av:List (κ×V))(k:κ)(v:V):List (κ×V):=
 if(av.any λkv=>decide (kv.1=k))=true then av.map (λkv=>if kv.1=k then(kv.1,v) else kv) else av++[(k,v)]
noncomputable def fw(av:List (κ×V))(k:κ):List (κ×V):=av.filter λkv=>decide (kv.1≠k)
def gy{p:κ×V}{r:List (κ×V)}{k:κ}(e:p.1=k):fH (p::r) k=some p.2:=by simp [fH,List.find?_cons,e]
def gu{p:κ×V}{r:List (κ×V)}{k:κ}(e:¬p.1=k):fH (p::r) k=fH r k:=by simp [fH,List.find?_cons,e]
theorem lV(k:κ):∀av:List (κ×V),(av.any λkv=>decide (kv.1=k))=(fH av k).isSome
 |[]=>rfl
 |p::r=>by
  rw [List.any_cons]
  by_cases e:p.1=k
  ·simp! [gy e,zzh e,Bool.true_or,Option.isSome_some]
  ·rw [gu e,zz0 e,Bool.false_or];exact lV k r
def jg(av:List (κ×V))(k:κ)(v:V):(putK av k v).length<=av.length+1:=by
 unfold putK;split
 ·rw [zzl];omega
 ·rw [zzM,zzL,List.length_nil];omega
def jr.i6{o:Option V}{u:Option Value}(r:jr o u):o.isSome=u.isSome:=by
 cases o with
 |none=>cases u with
  |none=>rfl
  |some _=>exact(show False from r).elim
 |some _=>cases u with
  |none=>exact(show False from r).elim
  |some _=>rfl
def KV.val{av:List (κ×V)}{vs:List (κ×Value)}(r:KV av vs)(k:κ):jr (fH av k) (valueAt vs k):=by
 unfold KV at r
 induction r with
 |nil=>exact True.intro
 |@cons p q ps qs h t ih=>
  obtain⟨h1,h2⟩:=h
  by_cases e:p.1=k
  ·have e':q.1=k:=h1.symm.trans e
   have b:valueAt (q::qs) k=some q.2:=by simp [valueAt,List.find?_cons,e']
   rw [gy e,b];exact h2
  ·have e':¬q.1=k:=λz=>e (h1.trans z)
   have b:valueAt (q::qs) k=valueAt qs k:=by simp [valueAt,List.find?_cons,e']
   rw [gu e,b];exact ih
def KV.any{av:List (κ×V)}{vs:List (κ×Value)}(r:KV av vs)(k:κ):(av.any λkv=>decide (kv.1=k))=vs.any λkv=>decide (kv.1=k):=by
 unfold KV at r
 induction r with
 |nil=>rfl
 |cons h t ih=>rw [List.any_cons,List.any_cons,ih,h.1]
def KV.Ii{av:List (κ×V)}{vs:List (κ×Value)}(r:KV av vs)(k:κ){y:V}{u:Value}(ry:RelV y u):
 KV (av.map λkv=>if kv.1=k then(kv.1,y) else kv) (vs.map λkv=>if kv.1=k then(kv.1,u) else kv):=by
 unfold KV at r⊢
 induction r with
 |nil=>exact .nil
 |@cons p q ps qs h t ih=>
  rw [zzF,zzF];refine .cons ?_ ih;obtain⟨h1,h2⟩:=h
  by_cases e:p.1=k
  ·rw [if_pos e,if_pos (h1.symm.trans e)];exact⟨h1,ry⟩
  ·rw [if_neg e,if_neg (λz=>e (h1.trans z))];exact⟨h1,h2⟩
def KV.put{av:List (κ×V)}{vs:List (κ×Value)}(r:KV av vs)(k:κ){y:V}{u:Value}(ry:RelV y u):KV (putK av k y) (stored vs k u):=by
 unfold putK stored;rw [r.any k]
 by_cases e:(vs.any λkv=>decide (kv.1=k))=true
 ·rw [if_pos e,if_pos e];exact r.Ii k ry
 ·rw [if_neg e,if_neg e];exact Paired.snoc r ⟨rfl,ry⟩
def KV.length{av:List (κ×V)}{vs:List (κ×Value)}(r:KV av vs):av.length=vs.length:=Paired.length r
def yn(av:List (κ×V))(k:κ):(fw av k).length<=av.length:=List.length_filter_le _ _
end
def qy{P:Program}{w:World}{k:Key}{u:Value}(r:RelV (kV k) u):(bu P w).is k u=true:=by
 cases k with
 |inl i=>obtain⟨t,e⟩:=(show∃t,u=Value.int i t from r);subst e;exact qD P w i t
 |inr x=>obtain⟨t,e⟩:=(show∃t,u=Value.str x t from r);subst e;exact qE P w x t
theorem m7{P:Program}{w:World}:∀{ks:List Key} {us:List Value},Vals (ks.map kV) us->ItemsAre (bu P w) ks us
 |[],_,r=>by rw [List.map_nil] at r;cases r;exact .nil
 |k::ks,_,r=>by
  rw [zzF] at r;cases r with
  |cons h t=>exact .cons (qy h) (m7 t)
abbrev KT(H:Hp):List (List bg×V)->List (List bg×Addr×Value)->Prop:=Paired λp q=>p.1=q.1/\cg H q.2.1 p.1/\RelV p.2 q.2.2
def KT.val{H:Hp}{av:List (List bg×V)}{xs:List (List bg×Addr×Value)}(r:KT H av xs)(k:List bg):jr (fH av k) ((atKey xs k).map (·.2)):=by
 induction r with
 |nil=>exact True.intro
 |@cons p q ps qs h t ih=>
  obtain⟨h1,_,h2⟩:=h
  by_cases e:p.1=k
  ·have e':q.1=k:=h1.symm.trans e
   have b:atKey (q::qs) k=some q.2:=by simp [atKey,List.find?_cons,e']
   rw [gy e,b];exact h2
  ·have e':¬q.1=k:=λz=>e (h1.trans z)
   have b:atKey (q::qs) k=atKey qs k:=by simp [atKey,List.find?_cons,e']
   rw [gu e,b];exact ih
def KT.Ii{H:Hp}{av:List (List bg×V)}{xs:List (List bg×Addr×Value)}(r:KT H av xs)(k:List bg){y:V}{u:Value}(ry:RelV y u):
 KT H (av.map λkv=>if kv.1=k then(kv.1,y) else kv) (xs.map (putAt k u)):=by
 induction r with
 |nil=>exact .nil
 |@cons p q ps qs h t ih=>
  rw [zzF,zzF];refine .cons ?_ ih;obtain⟨h1,h2,h3⟩:=h
  unfold putAt
  by_cases e:p.1=k
  ·rw [if_pos e,if_pos (h1.symm.trans e)];exact⟨h1,h2,ry⟩
  ·rw [if_neg e,if_neg (λz=>e (h1.trans z))];exact⟨h1,h2,h3⟩
def KT.put{H:Hp}{av:List (List bg×V)}{xs:List (List bg×Addr×Value)}(r:KT H av xs)(k:List bg){b:Addr}{y:V}{u:Value}(hb:cg H b k)(ry:RelV y u):
 KT H (putK av k y) (storedH xs k b u):=by
 have e:(av.any λkv=>decide (kv.1=k))=(atKey xs k).isSome:=by
  rw [lV,(r.val k).i6,Option.isSome_map]
 unfold putK storedH;rw [e]
 by_cases q:(atKey xs k).isSome=true
 ·rw [if_pos q,if_pos q];exact r.Ii k ry
 ·rw [if_neg q,if_neg q];exact Paired.snoc r ⟨rfl,hb,ry⟩
def KT.keeps{H H':Hp}{av:List (List bg×V)}{xs:List (List bg×Addr×Value)}(r:KT H av xs)(ht:∀b ys,H b=some (.tup ys)->H' b=some (.tup ys)):KT H' av xs:=
 Paired.Hh r λ_ _ z=>⟨z.1,z.2.1.keeps ht,z.2.2⟩
section
variable{P:Program}{w:World}{H:Hp}{h:Heap}{a:Addr}
def EO{u:HO}(ok:dQ P w H h)(e:Rd H a u):bK P w H h a u:=e.ok ok
def p7{av:List (Key×V)}(ok:dQ P w H h)(e:Rd H a (.dK av)):av.length<=sizeLine/\(a==sysModules)=false/\∃vs,KV av vs/\h.DictOf (bu P w) a vs:=
 show bK P w H h a (.dK av) from EO ok e
def J5{av:List (Key×V)}(ok:dQ P w H h)(e:H a=some (.dK av)):av.length<=sizeLine/\(a==sysModules)=false/\∃vs,KV av vs/\h.DictOf (bu P w) a vs:=p7 ok (.inl e)
def yB{ks:List Key}(ok:dQ P w H h)(e:H a=some (.tup (ks.map kV))):IsTupleKey (bu P w) h ks a:=by
 obtain⟨_,aw,r,o,h1,h2,n,h3⟩:=(show bK P w H h a (.tup (ks.map kV)) from ok a _ e)
 exact⟨o,aw.toArray,n,h1,h2,h3,by simpa using m7 r⟩
theorem qF(ok:dQ P w H h):∀{ks:List bg} {vs:List V} {us:List Value},Paired (IZ H) ks vs->Vals vs us->Paired (bg.is P w h) ks us
 |_,_,_,.nil,.nil=>.nil
 |x::_,_,_,.cons e t,.cons r rs=>by
  refine .cons ?_ (qF ok t rs);cases x with
  |k x=>
   cases(e:_=kV x);exact qy r
  |n=>
   cases(e:_=V.aM);exact r
  |t ks=>
   obtain⟨c,rfl,e⟩:=e
   exact⟨c,r,yB ok e⟩
def i7{ks:List bg}(ok:dQ P w H h)(e:cg H a ks):(f7 P w).is h ks a:=by
 obtain⟨vs,e,p⟩:=e
 obtain⟨_,aw,r,o,h1,h2,n,h3⟩:=(show bK P w H h a (.tup vs) from ok a _ e)
 exact⟨o,aw.toArray,n,h1,h2,h3,by simpa using qF ok p r⟩
def Cz{ns:List Int}:∀{vs:List V},Paired (IZ H) (ns.map iK) vs->vs=ns.map V.int:=by
 induction ns with
 |nil=>intro vs p;cases p;rfl
 |cons n ns ih=>
  intro vs p;cases p with
  |cons e t=>rw [ih t,(show _=V.int n from e)];rfl
def cg.IM{ns:List Int}(x:cg H a (ns.map iK)):H a=some (.tup (ns.map V.int)):=by
 obtain⟨vs,e,p⟩:=x
 rw [e,Cz p]
def dC{A:Around}(hu:A.units+3<cLine):(f7 P w).room A.in1:=by
 show A.units+1+2<_
 omega
def kL{av:List (List bg×V)}(ok:dQ P w H h)(e:Rd H a (.dT av)):av.length<=sizeLine/\(a==sysModules)=false/\
 ∃xs,KT H av xs/\h.DictOfH (f7 P w) a xs:=by
 obtain⟨z,y,xs,r,o,es,ep,h1,h2,h3,h4,h5⟩:=(show bK P w H h a (.dT av) from EO ok e)
 refine⟨z,y,xs,r,o,es,ep,h1,h2,h3,h4,λx hx=>?_,h5⟩
 have all:∀{l:List (List bg×V)} {m:List (List bg×Addr×Value)},KT H l m->∀x∈m,(f7 P w).is h x.1 x.2.1:=by
  intro l m q
  induction q with
  |nil=>intro x hx;exact nomatch hx
  |@cons p q ps qs hq t ih=>
   intro x hx;rcases zzm.mp hx with e|hx
   ·subst e;exact i7 ok (by rw [<-hq.1];exact hq.2.1)
   ·exact ih x hx
 exact all r x hx
def Eu{av:List (List bg×V)}(ok:dQ P w H h)(e:H a=some (.dT av)):av.length<=sizeLine/\(a==sysModules)=false/\
 ∃xs,KT H av xs/\h.DictOfH (f7 P w) a xs:=kL ok (.inl e)
end
def Bh(H:Hp)(a:Addr)(y:V)(r:Option V):Prop:=
 (∃av k,Rd H a (.dK av)/\y=kV k/\r=fH av k)\/∃av k b,Rd H a (.dT av)/\y=.ref b/\cg H b k/\r=fH av k
def vE(H:Hp)(a:Addr)(y v:V)(H':Hp):Prop:=
 (∃av k,H a=some (.dK av)/\y=kV k/\av.length<sizeLine/\H'=upd H a (.dK (putK av k v)))\/
 ∃av k b,H a=some (.dT av)/\y=.ref b/\cg H b k/\av.length<sizeLine/\H'=upd H a (.dT (putK av k v))
def vE.t{H:Hp}{a b:Addr}{av:List (List bg×V)}{k:List bg}{v:V}(e:H a=some (.dT av))(eb:cg H b k)(hl:av.length<sizeLine):
 vE H a (.ref b) v (upd H a (.dT (putK av k v))):=.inr ⟨av,k,b,e,rfl,eb,hl,rfl⟩
section
variable{X:Cx}{aa:List (Addr×Obj)}{σ:St}{H:Hp}{s:Shared}{a:Addr}{y v:V}{u r:Value}{o:Option V}{A:Around}{E:Value->Shared->Prop}
def Inv.big(I:Inv X aa σ H s):sysModules<(zz9 s):=by
 have h:mainGlobals<(zz9 s):=(I.mod.glob.keeps I.bk).lt
 exact Nat.lt_trans (by decide) h
def v8{Q:Value->Shared->Prop}(hu:A.units+3<cLine)(I:Inv X aa σ H s)(g:Bh H a y (some v))(ry:RelV y u)(h:∀w' s',Inv X aa σ H s'->RelV v w'->Q w' s'):
 wpAny (model X.prog X.w) A (getItem (.ref a) u) Q E s:=by
 rcases g with⟨av,k,e,ey,l⟩|⟨av,k,b,e,ey,eb,l⟩
 ·subst ey;obtain⟨z,hd,vs,rel,dd⟩:=p7 I.aN e
  obtain⟨w',hw,gH⟩:=jr.some_of (v:=v) (o:=valueAt vs k) (by rw [l];exact rel.val k)
  exact wpAny_getItem_of (qy ry) dd.mapOf hw (h w' _ (I.tok _) gH)
 ·subst ey;cases(show u=Value.ref b from ry);obtain⟨z,hd,xs,rel,dd⟩:=kL I.aN e
  obtain⟨w',hw,gH⟩:=jr.some_of (v:=v) (o:=(atKey xs k).map (·.2)) (by rw [l];exact rel.val k)
  obtain⟨p,hp,hp2⟩:=zzJ.mp hw
  refine wpAny_getItem_heap (dC hu) (i7 I.aN eb) dd hp ?_;rw [hp2];exact h w' _ (I.tok _) gH
def BW{Q:Value->Shared->Prop}(hu:A.units+3<cLine)(I:Inv X aa σ H s)(g:Bh H a y o)(ry:RelV y u)(h:∀s',Inv X aa σ H s'->Q (.bool (!o.isSome)) s'):
 wpAny (model X.prog X.w) A (compareOp .NotIn u (.ref a)) Q E s:=by
 rcases g with⟨av,k,e,ey,l⟩|⟨av,k,b,e,ey,eb,l⟩
 ·subst ey;obtain⟨z,hd,vs,rel,dd⟩:=p7 I.aN e
  refine wpAny_notIn_of (qy ry) hd dd.mapOf ?_;rw [<-(rel.val k).i6,<-l];exact h _ (I.tok _)
 ·subst ey;cases(show u=Value.ref b from ry);obtain⟨z,hd,xs,rel,dd⟩:=kL I.aN e
  refine wpAny_notIn_heap (dC hu) (i7 I.aN eb) hd dd ?_;have q:=(rel.val k).i6
  rw [Option.isSome_map] at q;rw [<-q,<-l];exact h _ (I.tok _)
theorem iw{h':Heap}{t':Nat}{ob:HO}(I:Inv X aa σ H s)(mu:JC (H a))(hs:Heap.SameBut a s.heap h')(he:∃q,h'.get? a=some q)(new:bK X.prog X.w (upd H a ob) h' a ob):
 Inv X aa σ (upd H a ob) {s with heap:=h',toks:=t'}:=
 I.write (x:=a) (e:=a) mu (.inl rfl) (λb q hb z=>(hs.2 b hb).trans z) he new
def FW{P:Program}{w:World}{H':Hp}{h':Heap}{av:List (Key×V)}{vs:List (Key×Value)}(z:av.length<=sizeLine)(hd:(a==sysModules)=false)(rel:KV av vs)(dd:h'.DictOf (bu P w) a vs):
 bK P w H' h' a (.dK av):=⟨z,hd,vs,rel,dd⟩
def v9{H':Hp}{Q:Unit->Shared->Prop}(hu:A.units+3<cLine)(I:Inv X aa σ H s)(g:vE H a y v H')(ry:RelV y u)(rv:RelV v r)(h:∀s',Inv X aa σ H' s'->Q () s'):
 wpAny (model X.prog X.w) A (setItem (.ref a) u r) Q E s:=by
 rcases g with⟨av,k,e,ey,l,eH⟩|⟨av,k,b,e,ey,eb,l,eH⟩
 ·subst ey eH;obtain⟨z,hd,vs,rel,dd⟩:=J5 I.aN e
  have hz:vs.length<=sizeLine:=by rw [<-rel.length];exact z
  have hl:(putK av k v).length<=sizeLine:=by have:=jg av k v;omega
  refine wpAny_setItem_pairs (hsz:=hz) (qy ry) dd λh' Jh hs=>h _ ?_
  have he:∃q,h'.get? a=some q:=let⟨q,_,_,hq,_⟩:=Jh;⟨q,hq⟩
  exact iw I (by rw [e];exact True.intro) hs he (FW hl hd (rel.put k rv) Jh)
 ·subst ey eH;cases(show u=Value.ref b from ry);obtain⟨z,hd,xs,rel,dd⟩:=Eu I.aN e
  have hz:xs.length<=sizeLine:=by rw [<-Paired.length rel];exact z
  have hl:(putK av k v).length<=sizeLine:=by have:=jg av k v;omega
  refine wpAny_setItem_heap (hsz:=hz) (dC hu) (i7 I.aN eb) dd λh' Jh hs=>h _ ?_
  obtain⟨q,es,ep,hq,h2,h3,h4,_,h5⟩:=Jh
  refine iw I (by rw [e];exact True.intro) hs ⟨q,hq⟩ ⟨hl,hd,_,(rel.put k eb rv).keeps λc ys ec=>?_,q,es,ep,hq,h2,h3,h4,h5⟩
  rw [af (iM ec e (λz=>nomatch z))];exact ec
end
def JD(i:Expr):Prop:=∀ov iv,subscripted i false ov iv=operate [ov,iv] (getItem ov iv)
def DX{prog:Program}{w:World}{A:Around}{E:Value->Shared->Prop}{s:Shared}{env:Env}{value slice:Expr}{pos:Pos}{T id:String}{Q:Value->Shared->Prop}
 (hl:typeLookup (.type T) "__getitem__"=pure (some (.builtin id))) (hs:JD slice)
 (h:wpAny (model prog w) A (eval value env) (λo s₁=>wpAny (model prog w) A (eval slice env) (λi s₂=>s₂.TypeIs o T/\wpAny (model prog w) A (getItem o i) Q E s₂) E s₁) E s):
 wpAny (model prog w) A (eval (.Subscript value slice pos) env) Q E s:=by
 refine Subscript_ (wpAny_mono h (λo s₁ h₁=>wpAny_mono h₁ (λi s₂ h₂=>?_) λ_ _ x=>x) λ_ _ x=>x)
 obtain⟨hT,h₂⟩:=h₂
 unfold subscriptTail;refine zzA ?_;rw [getitemInPython_of_ne hT.not_modules];refine zzA (wpAny_specialOf hT hl ?_);have fin:wpAny (model prog w) A (subscripted slice false o i) (λr s₃=>wpAny (model prog w) A (letTemporaryGo value o r>>=λ_=>pure r) Q E s₃) E s₂:=by
  rw [hs o i];exact wpAny_operating (wpAny_mono h₂ (λr s₃ h₃=>zzA (wpAny_letTemporaryGo (zzG h₃))) λ_ _ x=>x)
 first
  |exact zzG (zzA fin)
  |exact zzA (zzG (zzA fin))
  |exact zzA fin
def pZ{X:Cx}{aa:List (Addr×Obj)}{σ:St}{H:Hp}{s:Shared}{a:Addr}{y:V}{o:Option V}(I:Inv X aa σ H s)(g:Bh H a y o):s.TypeIs (.ref a) "dict":=by
 rcases g with⟨av,k,e,_,_⟩|⟨av,k,b,e,_,_,_⟩
 ·obtain⟨_,_,vs,_,dd⟩:=p7 I.aN e
  exact dd.typeIs
 ·obtain⟨_,_,xs,_,dd⟩:=kL I.aN e
  exact dd.typeIs
noncomputable def vw(td ty:TE):TE:=λσ H Q=>td σ H λx H1=>ty σ H1 λy H2=>∃a v,x=.ref a/\Bh H2 a y (some v)/\Q v H2
section
variable{X:Cx}{o i:Expr}{pos:Pos}{td ty:TE}
def oQ(hu:X.A.units+3<cLine)(ho:PE X o td)(hi:PE X i ty)(hs:JD i):PE X (.Subscript o i pos) (vw td ty):=by
 intro aa s σ H Q I h;refine DX PySem.F.slot_dict_getitem.lookup hs (bJ (ho aa s σ H _ I h) λu s1 ⟨x,H1,I1,rx,q1⟩=>bJ (hi aa s1 σ H1 _ I1 q1) λiv s2 ⟨y,H2,I2,ry,a,v,ex,g,q2⟩=>?_)
 subst ex;obtain rfl:u=Value.ref a:=rx
 exact⟨pZ I2 g,v8 hu I2 g ry λw' s3 I3 gH=>⟨v,H2,I3,gH,q2⟩⟩
end
theorem yo{P:Program}{w:World}{H:Hp}(h:Heap)(hb:sysModules<h.objs.size):bK P w H (h.push {cls:=.type "dict",data:=.dict #[]}) h.objs.size (.dT []):=
 ⟨Nat.zero_le _,beq_eq_false_iff_ne.mpr (Ne.symm (zzb hb)),[],.nil,_,#[],0,zzX _ rfl,⟨rfl,rfl,rfl⟩,rfl,rfl,List.nodup_nil⟩
noncomputable def II:TE:=λ_ H Q=>∀p,H p=none->Q (.ref p) (upd H p (.dT []))
section
variable{X:Cx}{pos:Pos}
theorem Aa:PE X (.Dict [] [] pos) II:=λaa s σ H Q I h=>
 wpAny_Dict_empty ⟨.ref (zz9 s),_,I.laid (a:=(zz9 s)) (o:=.dT []) (t':=s.toks) (λ_ _ q=>zzB _ q) (zzE _) (yo s.heap I.big),rfl,h _ (I.aN.fresh (zzE _))⟩
end
structure M1(X:Cx)(o:Expr)(m:Str)(apos:Pos)(e:Expr)(bI:Pos):Prop where
 base:attributeBase o m X.env (eval o X.env)=eval o X.env
 Px:((backTo bI (starEach [e] X.env)).all (λx=>!x.1)&&(backToKw bI (keywordEach [] X.env)).all (λx=>x.1.isSome)
  &&decide (([e]:List Expr).length+([]:List Keyword).length+(if([]:List Keyword).isEmpty then 0 else 1)<30))=true
 line:(apos.endLine==bI.line)=true
 trees:backTo bI (starEach [e] X.env)=[(false,eval e X.env)]
structure M2(X:Cx)(o:Expr)(m:Str)(apos:Pos)(e f:Expr)(bI:Pos):Prop where
 base:attributeBase o m X.env (eval o X.env)=eval o X.env
 Px:((backTo bI (starEach [e,f] X.env)).all (λx=>!x.1)&&(backToKw bI (keywordEach [] X.env)).all (λx=>x.1.isSome)
  &&decide (([e,f]:List Expr).length+([]:List Keyword).length+(if([]:List Keyword).isEmpty then 0 else 1)<30))=true
 line:(apos.endLine==bI.line)=true
 trees:backTo bI (starEach [e,f] X.env)=[(false,eval e X.env),(false,eval f X.env)]
def Ed(H:Hp)(a:Addr):Prop:=(∃av,Rd H a (.dK av))\/∃av,Rd H a (.dT av)
def GY{X:Cx}{aa:List (Addr×Obj)}{σ:St}{H:Hp}{s:Shared}{a:Addr}(I:Inv X aa σ H s)(d:Ed H a):
 s.TypeIs (.ref a) "dict"/\(∀b,Value.ref a=.ref b->∃ob,s.heap.get? b=some ob/\ob.dict=none)/\(a==sysModules)=false:=by
 rcases d with⟨av,e⟩|⟨av,e⟩
 ·obtain⟨_,hd,vs,_,dd⟩:=p7 I.aN e
  refine⟨dd.typeIs,λb q=>?_,hd⟩
  cases q;obtain⟨ob,_,_,h1,h2,_⟩:=dd
  exact⟨ob,h1,h2.2.1⟩
 ·obtain⟨_,hd,xs,_,dd⟩:=kL I.aN e
  refine⟨dd.typeIs,λb q=>?_,hd⟩
  cases q;obtain⟨ob,_,_,h1,h2,_⟩:=dd
  exact⟨ob,h1,h2.2.1⟩
end L2
namespace Att
open PySem PySem.W PySem.Calls PyProof.Rows
section
end
end Att
namespace L2
open PySem PySem.Spec PyProof.Rows
section
variable{κ:Type} [DecidableEq κ]
def wb{p:κ×V}{r:List (κ×V)}{k:κ}(e:p.1=k):fw (p::r) k=fw r k:=by
 unfold fw;rw [zz3,if_neg (by simp [e])]
def wa{p:κ×V}{r:List (κ×V)}{k:κ}(e:¬p.1=k):fw (p::r) k=p::fw r k:=by
 unfold fw;rw [zz3,if_pos (by simp [e])]
end
section
variable{prog:Program}{w:World}{κ:Type} [DecidableEq κ]{knd:HeapKind prog w κ}{A:Around}{E:Value->Shared->Prop}{s:Shared}{d a:Addr}{xs:List (κ×Addr×Value)}{k:κ}
theorem ou(d:Addr)(lo:(d==sysModules)=false):MeetsIn prog w (Builtin.«dict.__len__» ⟨[.ref d],[]⟩) (λ_ R s=>∃xs,s.heap.DictOfH knd d xs/\R (.ok (.ret (.int xs.length s.toks))) {s with toks:=s.toks+1}):=
 .of_wp λA R s ⟨xs,⟨o,es,ep,h1,_,h2,h3,_⟩,h⟩=>by
  show wpAny _ _ (dictSize d>>=λn=>_) _ _ s
  unfold dictSize;refine zzA (zzA (wpAny_dictEntries h1 h2 (zzG (zzA (wpAny_pendingCount_other lo (wpAny_ret_mkInt ?_))))));rw [Nat.add_zero,size_of_entries h3];exact h
def GD{Q:Value->Shared->Prop}(lo:(d==sysModules)=false)(hm:s.heap.DictOfH knd d xs)(hf:(xs.length:Int)<2^63)(h:Q (.int xs.length (s.toks+1)) {s with toks:=s.toks+1+1}):wpAny (model prog w) A (call (.builtin "len") [.ref d]) Q E s:=by
 refine Calls.call_function_entry kind_len plain_len entry_len (args_len1 _) ?_;unfold Builtin.«len»;refine zzA (m:=oneArg "len" _) (zzG (zzA (m:=callSpecial? (.ref d) (Str.ofString "__len__")) (wpAny_callSpecial?_slot (name:=Str.ofString "__len__") hm.typeIs F.slot_dict_len
  (call_meetsIn F.slot_dict_len hm.typeIs F.entry_dict_len (F.args_dict_len_1 _) (ou (knd:=knd) d lo) ⟨xs,hm,?_⟩))))
 show wpAny _ _ (holding _ _>>=λz=>_) _ _ {s with toks:=s.toks+1}
 refine zzA (wpAny_holding (zzG (zzA (wpAny_letGo ?_))));show wpAny _ _ (if((xs.length:Nat):Int)<0 then _ else(if((xs.length:Nat):Int)>=2^63 then _ else _)) _ _ _;rw [if_neg (by omega),if_neg (by omega)];exact zzA (wpAny_mkInt (zzG ⟨_,rfl,h⟩))
def yu{l:List (κ×Addr×Value)}:∀{j:Nat} {p:Addr×Value},(l.map (·.1)).Nodup->l[j]?=some (k,p)->l.eraseIdx j=l.filter λx=>decide (x.1≠k):=by
 induction l with
 |nil=>intro j p _ h;simp at h
 |cons x r ih=>
  intro j p nd h;rw [zzF,List.nodup_cons] at nd;cases j with
  |zero=>
   simp! [List.getElem?_cons_zero,Option.some.injEq] at h;subst h;simp! [List.eraseIdx_cons_zero,ne_eq,zz3,not_true,decide_false,zze,if_false];refine(List.filter_eq_self.mpr λy hy=>?_).symm;exact zzh λe=>nd.1 (e▸List.mem_map_of_mem (f:=(·.1)) hy)
  |succ j=>
   simp! [List.getElem?_cons_succ] at h;have j2:¬x.1=k:=λe=>nd.1 (e▸zzx.mpr ⟨(k,p),zzD h,rfl⟩)
   rw [List.eraseIdx_cons_succ,zz3,if_pos (by simpa using j2),ih nd.2 h]
theorem ni{α β:Type}(f:α->β):∀(l:List α) (j:Nat),(l.eraseIdx j).map f=(l.map f).eraseIdx j
 |[],_=>by simp
 |x::r,0=>by simp
 |x::r,j+1=>by simp [ni f r j]
def r8{p:Addr×Value}{Q:Option DictEntry->Shared->Prop}(hu:knd.room A)(hk:knd.is s.heap k a)(hm:s.heap.DictOfH knd d xs)(hp:atKey xs k=some p)(hz:xs.length<=sizeLine)
 (hQ:∀h' e,e.val=p.2->h'.DictOfH knd d (xs.filter λx=>decide (x.1≠k))->Heap.SameBut d s.heap h'->Q (some e) {s with heap:=h',toks:=s.toks+knd.draws k}):wpAny (model prog w) A (Builtin.Dict.takeOut d (.ref a)) Q E s:=by
 obtain⟨o,es,ep,h1,hc,h2,h3,his,nd⟩:=hm
 unfold Builtin.Dict.takeOut
 try with_reducible refine wpAny_holding ?_
 refine zzA (knd.pyHash hu hk (zzA (wpAny_dictFind_heap (s:={s with toks:=s.toks+knd.draws k}) hu hk h1 h2 h3 his nd (λno=>?_) λj q hj=>?_)))
 ·rw [atKey_none_of_get no] at hp;cases hp
 ·rw [atKey_of_get nd hj] at hp;cases hp;refine zzA (wpAny_dictEntries (s:={s with toks:=s.toks+knd.draws k}) h1 h2 ?_);rw [entry_at h3 j,hj];refine zzA (wpAny_updateDictKeys (hz:=by have e:=size_of_entries h3;omega) (s:={s with toks:=s.toks+knd.draws k}) h1 h2 (zzG (hQ _ _ rfl ⟨_,_,ep+1,Heap.get?_update_self _ h1 (Obj.isFreed_of_dict (Obj.data_mapDictKeys h2 _)),
   hc.mapDictKeys _,Obj.data_mapDictKeys h2 _,?_,λx hx=>knd.keeps (his x (List.mem_filter.mp hx).1) h1 h2 (zzu ..),nd.sublist (List.filter_sublist.map _)⟩ (zzu ..))))
  rw [<-yu nd hj,ni,<-h3];obtain⟨l⟩:=es
  simp [Array.eraseIdxIfInBounds];split
  ·simp
  ·rename_i hh;rw [List.eraseIdx_of_length_le (by simpa using hh)]
def ox(d a:Addr):MeetsIn prog w (Builtin.«dict.pop» ⟨[.ref d,.ref a],[]⟩) (λA R s=>knd.room A.in1/\∃k xs p,knd.is s.heap k a/\s.heap.DictOfH knd d xs/\xs.length<=sizeLine/\atKey xs k=some p/\
 ∀h',h'.DictOfH knd d (xs.filter λx=>decide (x.1≠k))->Heap.SameBut d s.heap h'->R (.ok (.ret p.2)) {s with heap:=h',toks:=s.toks+knd.draws k}):=
 .of_wp λA R s ⟨hu,k,xs,p,hk,hm,hz,hp,h⟩=>by
  obtain⟨o,es,ep,h1,_,h2,h3,_⟩:=id hm
  have ne:es.isEmpty=false:=by
   cases xs with
   |nil=>cases hp
   |cons x r=>
    have:=size_of_entries h3
    rw [zzL] at this;rw [Array.isEmpty_eq_false_iff_exists_mem];exact⟨es[0]'(by omega),Array.getElem_mem _⟩
  unfold Builtin.«dict.pop»;refine zzA ?_;unfold Builtin.Dict.keyAndDefault;refine zzA (wpAny_notOrdered_dict hm.typeIs ?_);show wpAny _ _ (pure (d,Value.ref a,Option.none)) _ _ s;refine zzG ?_;have kp:(keyPart (Value.ref a)).isSome=false:=rfl
  simp! [kp,zze,if_false];refine zzA (wpAny_dictEntries h1 h2 (zzA (zzG ?_)));rw [ne];simp! [zze,if_false];refine zzA (r8 hu hk hm hp hz λh' e ev sd hs=>?_);simp! [Option.isNone_some,zze,if_false];exact zzA (wpAny_letGo (zzG ⟨e.val,rfl,by rw [ev];exact h h' sd hs⟩))
def uD{o:Obj}{es:Array DictEntry}{ep:Nat}{Q:Value->Shared->Prop}(lo:(d==sysModules)=false)(h1:s.heap.get? d=some o)(hc:o.ExactDict)(h2:o.data=.dict es ep)
 (hQ:Q (.ref (zz9 s)) {s with heap:=s.heap.push {cls:=.type "dict_keyiterator",data:=.fields #[.ref d,.int 0 0,.int es.size 0,.int ep 0]}}):wpAny (model prog w) A (pyIter (.ref d)) Q E s:=by
 have T:s.TypeIs (.ref d) "dict":=⟨o,h1,hc.1⟩
 refine wpAny_pyIter_slot T F.slot_dict_iter (wpAny_call_entry F.slot_dict_iter T F.entry_dict_iter ?_ (F.args_dict_iter_1 _));unfold Builtin.«dict.__iter__» Builtin.Dict.dictSlotNone;refine zzA (zzA (wpAny_notOrdered_dict T ?_));show wpAny _ _ (pure (Value.ref d):Sem Value) _ _ s;refine zzG ?_;show wpAny _ _ (Builtin.Dict.showsAll d>>=λ_=>_) _ _ s;unfold Builtin.Dict.showsAll;rw [if_neg (by rw [lo];exact zzf)];refine zzA (zzG (zzA (wpAny_dictEntries h1 h2 (zzA (wpAny_dictEpoch h1 h2 ?_)))));refine zzA (wpAny_newObj_type (zzG ⟨_,rfl,"dict_keyiterator",_,⟨_,zzX _ rfl,rfl⟩,F.slot_dict_keyiterator_next.lookup,?_⟩))
 simpa [rawInt] using hQ
def oy{it:Addr}{i ep:Nat}{o:Obj}{es:Array DictEntry}{Q:Option Value->Shared->Prop}(st:s.heap.IsKeyIter it d i es.size ep)(h1:s.heap.get? d=some o)(h2:o.data=.dict es ep)(hi:i<es.size)
 (hQ:∀h',h'.IsKeyIter it d (i+1) es.size ep->Heap.SameBut it s.heap h'->Q (some es[i].key) {s with heap:=h'}):wpAny (model prog w) A (pyNext (.ref it)) Q E s:=by
 obtain⟨oi,g1,g2,g3⟩:=id st
 have own:Builtin.Dict_items.ownsTuple "dict_keyiterator"=false:=by decide
 unfold pyNext;refine zzA (wpAny_attempt (wpAny_callSpecial?_slot (name:=Str.ofString "__next__") st.typeIs F.slot_dict_keyiterator_next (wpAny_call_entry F.slot_dict_keyiterator_next st.typeIs F.entry_dict_keyiterator_next ?_ (F.args_dict_keyiterator_next_1 _))));refine zzA (zzG (zzA (zzA ?_)))
 first|refine zzA (wpAny_typeNameOfWhole_keyiter st.typeIs (zzG (zzA (wpAny_fieldsOf g1 g3 ?_))))|refine zzA (wpAny_typeNameOf_keyiter st.typeIs (zzG (zzA (wpAny_fieldsOf g1 g3 ?_))))
 simp! [own,zze,if_false];show wpAny _ _ (if(Value.ref d==Value.none)=true then _ else _:Sem _) _ _ s;rw [if_neg (show¬((Value.ref d==Value.none)=true) from zzf)];refine zzA (zzG (zzA (wpAny_dictEntries h1 h2 ?_)));rw [if_neg (by simp)];refine zzA (zzG (zzA (wpAny_dictEpoch h1 h2 ?_)));rw [if_neg (by simp)];refine zzG ?_;simp! [show¬((i:Int)<0) from by omega,if_false,zz4,Array.getElem?_eq_getElem hi];refine zzA ?_
 first|refine zzA (wpAny_typeNameOfWhole_keyiter st.typeIs (zzG (zzA (wpAny_isOneOf_keyiter st.typeIs ?_))))|refine zzA (wpAny_typeNameOf_keyiter st.typeIs (zzG (zzA (wpAny_isOneOf_keyiter st.typeIs ?_))))
 show wpAny _ _ (setField (.ref it) 1 (rawInt ((i:Int)+1))>>=λ_=>_) _ _ s
 have j6:(s.heap.update it (Obj.mapFields (·.setIfInBounds 1 (rawInt ((i:Int)+1))))).IsKeyIter it d (i+1) es.size ep:=
  ⟨_,Heap.get?_update_self _ g1 (Obj.isFreed_of_fields (Obj.data_mapFields g3 _)),(Obj.cls_mapFields ..).trans g2,by rw [Obj.data_mapFields g3];simp [rawInt]⟩
 refine zzA (wpAny_setField g1 g3 (by simp) (zzA (wpAny_holding (zzA (wpAny_isOneOf_keyiter (s:={s with heap:=s.heap.update it (Obj.mapFields (·.setIfInBounds 1 (rawInt ((i:Int)+1))))}) j6.typeIs ?_)))));show wpAny _ _ (pure es[i].key:Sem Value) _ _ _;exact zzG (zzG ⟨_,rfl,zzG (hQ _ j6 (zzu ..))⟩)
def yP{it:Addr}{i ep:Nat}{o:Obj}{es:Array DictEntry}{Q:Option Value->Shared->Prop}(hh:A.handled=none)(st:s.heap.IsKeyIter it d i es.size ep)(h1:s.heap.get? d=some o)(h2:o.data=.dict es ep)(hi:es.size<=i)
 (hQ:∀h',Heap.ExtBut it s.heap h'->Q none {s with heap:=h'}):wpAny (model prog w) A (pyNext (.ref it)) Q E s:=by
 obtain⟨oi,g1,g2,g3⟩:=id st
 have own:Builtin.Dict_items.ownsTuple "dict_keyiterator"=false:=by decide
 unfold pyNext;refine zzA (wpAny_attempt (wpAny_callSpecial?_slot (name:=Str.ofString "__next__") st.typeIs F.slot_dict_keyiterator_next (wpAny_call_entry F.slot_dict_keyiterator_next st.typeIs F.entry_dict_keyiterator_next ?_ (F.args_dict_keyiterator_next_1 _))));refine zzA (zzG (zzA (zzA ?_)))
 first|refine zzA (wpAny_typeNameOfWhole_keyiter st.typeIs (zzG (zzA (wpAny_fieldsOf g1 g3 ?_))))|refine zzA (wpAny_typeNameOf_keyiter st.typeIs (zzG (zzA (wpAny_fieldsOf g1 g3 ?_))))
 simp! [own,zze,if_false];show wpAny _ _ (if(Value.ref d==Value.none)=true then _ else _:Sem _) _ _ s;rw [if_neg (show¬((Value.ref d==Value.none)=true) from zzf)];refine zzA (zzG (zzA (wpAny_dictEntries h1 h2 ?_)));rw [if_neg (by simp)];refine zzA (zzG (zzA (wpAny_dictEpoch h1 h2 ?_)));rw [if_neg (by simp)];refine zzG ?_;simp! [show¬((i:Int)<0) from by omega,if_false,zz4,Array.getElem?_eq_none hi];refine zzA ?_
 first|refine zzA (wpAny_typeNameOfWhole_keyiter st.typeIs (zzG ?_))|refine zzA (wpAny_typeNameOf_keyiter st.typeIs (zzG ?_))
 show wpAny _ _ (setField (.ref it) 0 .none>>=λ_=>_) _ _ s
 refine zzA (wpAny_setField g1 g3 (by simp) ?_);show wpAny _ _ (newExc (.type "StopIteration") []>>=λ_=>_) _ _ _
 refine zzA ?_;simp! [newExc,newTuple];refine zzA (wpAny_newObj_type (zzA (m:=firstArgMember _ _) (wpAny_of_eq (a:=Value.none) (by first|rfl|(simp! [firstArgMember];rfl)) (wpAny_newObj_type ?_ (by size_fits)))) (by size_fits));simp! [raiseNew];refine zzA (wpAny_handled ?_);rw [show A.in1.handled=none from hh];refine zzA (zzG (wpAny_throw ?_));refine zzA (wpAny_isInstance (T:="StopIteration") (b:=true) ⟨_,zzX _ rfl,rfl⟩ isSubtype_stop ?_);exact zzG (hQ _ (((zzu ..).extBut.push _).push _))
end
end L2
namespace Cw
open PySem L2
noncomputable def sgn(c:Nat):Bool:=c==35||(48<=c&&c<=57)
noncomputable def RO:V->Bool
 |.str z=>decide (1<=z.cps.toList.length)&&decide (z.cps.toList.length<=12)&&z.cps.toList.all sgn
 |_=>false
noncomputable def KW:V->Nat
 |.str z=>z.cps.toList.length
 |_=>0
section
variable{K:zz8}
abbrev A9(K:zz8)(t n:String)(b:Bool):Prop:=PySem.W.kitOne K (.type t) (.type n)=some b
def zg{K:zz8}(t:String):A9 K t t true:=by unfold A9 PySem.W.kitOne;rw [if_pos (by simp)]
def zf{t n:String}{b:Bool}(h0:(Value.type t==Value.type n)=false)(h1:PySem.W.kitMeta n=true)(h2:(fastBuiltinMro t).map (·.contains (Value.type n))=some b):A9 K t n b:=by
 unfold A9 PySem.W.kitOne;rw [if_neg (by rw [h0];exact zzf)];show(if PySem.W.kitMeta n=true then PySem.W.subIn K (.type t) (.type n) else none)=some b
 rw [if_pos h1];exact h2
end
abbrev O9:Str:="#0123456789"
end Cw
namespace L2
open PySem PySem.Spec PyProof.Rows
def KT.drop{H:Hp}{av:List (List bg×V)}{xs:List (List bg×Addr×Value)}(r:KT H av xs)(k:List bg):KT H (fw av k) (xs.filter λx=>decide (x.1≠k)):=by
 unfold fw
 induction r with
 |nil=>exact .nil
 |@cons p q ps qs h t ih=>
  rw [zz3,zz3,<-h.1];split
  ·exact .cons h ih
  ·exact ih
def KT.len{H:Hp}{av:List (List bg×V)}{xs:List (List bg×Addr×Value)}(r:KT H av xs):av.length=xs.length:=Paired.length r
section
variable{X:Cx}{aa:List (Addr×Obj)}{σ:St}{H:Hp}{s:Shared}{a b:Addr}{av:List (List bg×V)}{k:List bg}{A:Around}{E:Value->Shared->Prop}
def FX{Q:Value->Shared->Prop}(I:Inv X aa σ H s)(e:Rd H a (.dT av))(h:∀t s',Inv X aa σ H s'->Q (.int av.length t) s'):wpAny (model X.prog X.w) A (call (.builtin "len") [.ref a]) Q E s:=by
 obtain⟨z,lo,xs,rel,dd⟩:=kL I.aN e
 refine GD lo dd (by rw [<-rel.len];rw [sizeLine_eq] at z;omega) ?_;rw [<-rel.len];exact h _ _ (I.tok _)
def FY{v:V}{Q:Value->Shared->Prop}(hu:A.units+3<cLine)(I:Inv X aa σ H s)(e:H a=some (.dT av))(eb:cg H b k)(l:fH av k=some v)
 (h:∀w' s',Inv X aa σ (upd H a (.dT (fw av k))) s'->RelV v w'->Q w' s'):wpAny (model X.prog X.w) A (call (.builtin "dict.pop") [.ref a,.ref b]) Q E s:=by
 obtain⟨z,lo,xs,rel,dd⟩:=Eu I.aN e
 obtain⟨w',hw,gH⟩:=jr.some_of (v:=v) (o:=(atKey xs k).map (·.2)) (by rw [<-l];exact rel.val k)
 obtain⟨p,hp,hp2⟩:=zzJ.mp hw
 refine call_meetsIn PySem.F.slot_dict_pop dd.typeIs PySem.F.entry_dict_pop (PySem.F.args_dict_pop_2 _ _) (ox (knd:=f7 X.prog X.w) a b) ⟨dC hu,k,xs,p,i7 I.aN eb,dd,by rw [<-rel.len];exact z,hp,λh' Jh hs=>?_⟩
 rw [hp2];obtain⟨q,es,ep,hq,h2,h3,h4,_,h5⟩:=Jh
 refine h w' _ (iw I (by rw [e];exact True.intro) hs ⟨q,hq⟩ ⟨zzU (yn av k) z,lo,_,(rel.drop k).keeps λc ys ec=>?_,q,es,ep,hq,h2,h3,h4,h5⟩) gH
 rw [af (iM ec e (λz=>nomatch z))];exact ec
def Inv.freeze(I:Inv X aa σ H s)(e:H a=some (.dT av)):∃o,Inv X aa σ (upd H a (.bq o (.dT av))) s:=by
 obtain⟨z,lo,xs,rel,o,es,ep,h1,h2,h3,h4,h5⟩:=(show bK X.prog X.w H s.heap a (.dT av) from I.aN a _ e)
 refine⟨o,iw (h':=s.heap) (t':=s.toks) I (by rw [e];exact True.intro) ⟨rfl,λ_ _=>rfl⟩ ⟨o,h1⟩ ⟨h1,z,lo,xs,?_,o,es,ep,h1,h2,h3,h4,h5⟩⟩
 exact KT.keeps (H:=H) rel λc ys ec=>by rw [af (iM ec e (λz=>nomatch z))];exact ec
end
noncomputable def MG(a:Addr)(o:Obj)(av:List (List bg×V)):It:=
 ⟨λi H=>H a=some (.bq o (.dT av))/\i<av.length,λi H x H'=>H'=H/\∃b k v,x=.ref b/\av[i]?=some (k,v)/\cg H b k,λi H=>H a=some (.bq o (.dT av))/\av.length<=i⟩
def sI{α β:Type}{R:α->β->Prop}{l:List α}{m:List β}(r:Paired R l m):∀{i:Nat} {p:α} {q:β},l[i]?=some p->m[i]?=some q->R p q:=by
 induction r with
 |nil=>intro i p q h;simp at h
 |cons h t ih=>
  intro i p q h1 h2;cases i with
  |zero=>simp at h1 h2;subst h1 h2;exact h
  |succ i=>simp at h1 h2;exact ih h1 h2
def Ew{P:Program}{w:World}{H:Hp}{h:Heap}{a:Addr}{av:List (List bg×V)}(x:bK P w H h a (.dT av)):(a==sysModules)=false/\(av.map (·.1)).Nodup/\∃o es ep,h.get? a=some o/\o.ExactDict/\o.data=.dict es ep/\es.size=av.length/\∀(i:Nat) (hi:i<es.size),∃b k v,es[i].key=.ref b/\av[i]?=some (k,v)/\cg H b k/\RelV v es[i].val:=by
 obtain⟨z,lo,xs,rel,o,es,ep,h1,h2,h3,h4,h5⟩:=x
 have hl:es.size=xs.length:=size_of_entries h4
 have hx:av.length=xs.length:=Paired.length rel
 have ks:av.map (·.1)=xs.map (·.1):=by
  clear hl hx h4 h5 z
  induction rel with
  |nil=>rfl
  |cons h t ih=>rw [zzF,zzF,h.1,ih]
 refine⟨lo,ks▸h5,o,es,ep,h1,h2,h3,hl.trans hx.symm,λi hi=>?_⟩
 have e1:es[i]?=(xs[i]?).map (entryOfKey (f7 P w)):=entry_at h4 i
 rw [zzg (show i<xs.length by omega),Array.getElem?_eq_getElem hi] at e1;have q:=sI rel (zzg (show i<av.length by omega)) (zzg (show i<xs.length by omega))
 rw [zzq e1];exact⟨_,_,_,rfl,zzg (show i<av.length by omega),q.2.1,q.2.2⟩
def kH{X:Cx}{aa:List (Addr×Obj)}{σ:St}{H:Hp}{s:Shared}{a:Addr}{o:Obj}{av:List (List bg×V)}(I:Inv X aa σ H s)(e:H a=some (.bq o (.dT av))):
 (a==sysModules)=false/\s.heap.get? a=some o/\o.ExactDict/\∃es ep,o.data=.dict es ep/\es.size=av.length/\∀(i:Nat) (h:i<es.size),∃b k v,es[i].key=.ref b/\av[i]?=some (k,v)/\cg H b k:=by
 obtain⟨h0,ok⟩:=(show bK X.prog X.w H s.heap a (.bq o (.dT av)) from I.aN a _ e)
 obtain⟨lo,_,o',es,ep,h1,h2,h3,hl,hk⟩:=Ew ok
 rw [h0] at h1;cases h1;exact⟨lo,h0,h2,es,ep,h3,hl,λi hi=>let⟨b,k,v,e1,e2,e3,_⟩:=hk i hi;⟨b,k,v,e1,e2,e3⟩⟩
def xC{P:Program}{w:World}{K:zz8}{tg:Expr}{a it:Addr}{o:Obj}{es:Array DictEntry}{ep:Nat}{av:List (List bg×V)}(hd:o.data=.dict es ep)(hl:es.size=av.length):
 Turn P w K tg (MG a o av) [it] it (λi h=>h.IsKeyIter it a i es.size ep) where
 mem:=by simp
 obj:=λi h st b hb=>by
  have e:b=it:=by simpa using hb
  subst e;obtain⟨q,e,c,d⟩:=st
  exact⟨q,e,λv z=>by rw [d] at z;cases z⟩
 keep:=λi h h' st k=>st.at λo e=>k it (by simp) o e
 item:=by
  intro X hP hw hK hc i aa s σ H E I hf st hg;subst hP hw hK;obtain⟨g1,g2⟩:=hg
  obtain⟨lo,h0,hx,es',ep',h3,qp,Cr⟩:=kH I g1
  rw [hd] at h3;cases h3;obtain⟨f0,f1,f2,f3,f4,f5⟩:=hf it (by simp)
  have hi:i<es.size:=by omega
  refine oy st h0 hd hi λh' j6 sb=>?_
  obtain⟨b,k,v,e1,e2,e3⟩:=Cr i hi
  have I1:Inv X aa σ H {s with heap:=h'}:=I.turned (t':=s.toks) (λb o hb e=>(sb.2 b hb).trans e) f0 f1 f3 f4 f5
  obtain⟨q,e,c,d⟩:=id j6
  refine⟨_,rfl,uA (s:={s with heap:=h'}) e c d (by decide) ⟨.ref b,H,I1,?_,⟨rfl,b,k,v,rfl,e2,e3⟩,j6,λb hb=>(hf b hb).1⟩⟩
  rw [e1];exact rfl
 done:=by
  intro X hP hw hK hc i aa s σ H E I hf st hg;subst hP hw hK;obtain⟨g1,g2⟩:=hg
  obtain⟨lo,h0,hx,es',ep',h3,qp,Cr⟩:=kH I g1
  rw [hd] at h3;cases h3;obtain⟨f0,f1,f2,f3,f4,f5⟩:=hf it (by simp)
  exact yP (I.ok.hd hc) st h0 hd (by omega) λh' eb=>⟨rfl,I.turned (t':=s.toks) (λb o hb e=>eb b o hb e) f0 f1 f3 f4 f5⟩
 self:=λ_ _ _ _ _ st h=>wpAny_pyIter_keyiter st h
noncomputable def ND(tl:TE):TI:=λσ H R=>tl σ H λx H1=>∃a o av,x=.ref a/\H1 a=some (.bq o (.dT av))/\R (MG a o av) H1
section
variable{X:Cx}{o e:Expr}{apos bI:Pos}{td ty:TE}
def HX{tg l:Expr}{tl:TE}(hl:PE X l tl):PI X tg l (ND tl):=by
 intro aa s σ H R I h;refine bJ (hl aa s σ H _ I h) λv s1 ⟨x,H1,I1,r1,q1⟩=>?_
 obtain⟨a,o,av,e,hq,q⟩:=q1
 subst e;cases r1;obtain⟨lo,h0,hx,es,ep,h3,qp,Cr⟩:=kH I1 hq
 refine uD lo h0 hx h3 ?_;refine⟨(zz9 s1),[(zz9 s1)],_,_,H1,rfl,I1.kept (t':=s1.toks) λb o e=>zzB _ e,xC h3 qp,⟨_,zzX _ rfl,rfl,rfl⟩,λb hb=>?_,q⟩
 have e:b=(zz9 s1):=by simpa using hb
 subst e;exact I1.js (zzE _) (I1.aN.fresh (zzE _))
noncomputable def LH(td ty:TE):TE:=λσ H Q=>td σ H λx H1=>∃a,x=.ref a/\Ed H1 a/\ty σ H1 λy H2=>∃av k b v,H2 a=some (.dT av)/\y=.ref b/\cg H2 b k/\fH av k=some v/\Q v (upd H2 a (.dT (fw av k)))
def Du(hu:X.A.units+3<cLine)(ho:PE X o td)(he:PE X e ty)(m:M1 X o "pop" apos e bI):PE X (.Call (.Attribute o "pop" apos) [e] [] bI) (LH td ty):=by
 intro aa s σ H Q I h;refine wpAny_Call_method m.base m.Px m.line PySem.F.plainAttrs_dict PySem.F.slot_dict_pop PySem.F.type_dict_pop (bJ (ho aa s σ H _ I h) λu s1 ⟨x,H1,I1,rx,a,ex,d,q1⟩=>?_)
 subst ex;obtain rfl:u=Value.ref a:=rx
 obtain⟨t1,t2,_⟩:=GY I1 d
 refine⟨t1,t2,?_⟩;rw [m.trees];refine Calls.callWith_builtin rfl (Calls.evalArgs_plain (Calls.spliced_cons (bJ (he aa s1 σ H1 _ I1 q1) λiv s2 ⟨y,H2,I2,ry,av,k,b,v,ea,ey,eb,l,q2⟩=>Calls.spliced_nil ?_)))
 subst ey;cases(show iv=Value.ref b from ry);exact FY hu I2 ea eb l λw' s3 I3 gH=>⟨v,_,I3,gH,q2⟩
end
end L2
namespace L2
open PySem PySem.Spec PyProof.Rows PySem.W
section
variable{n:Nat}(h0:0<n)
include h0
end
end L2
namespace L2
open PySem PySem.Spec PyProof.Rows
section
variable{d:Addr}
def eU.lY{K:zz8}{H H':Hp}{a:Addr}{xs:List V}(h:eU K H a xs)(e:∀b,b≠d->H' b=H b){acc:List (List bg×V)}(hd:H d=some (.dT acc)):eU K H' a xs:=by
 rcases h with(h|⟨o,h⟩)|h
 ·exact .inl (.inl (by rw [e a (iM h hd (λz=>nomatch z))];exact h))
 ·exact .inl (.inr ⟨o,by rw [e a (iM h hd (λz=>nomatch z))];exact h⟩)
 ·exact .inr h
end
open PySem.W (hideAll hideAll_get of_hideAll funFrames_hide)
structure Bi(P:Program)(w:World)(outer:List Env)(H:Hp)(s:Shared)(E:XK)(a C t:Addr)(vs:List Value)(H':Hp)(B:Heap)(s':Shared):Prop where
 os:s'.os=s.os
 bare:AllBare s'.gens
 aN:dQ P w H' B
 A3:Heap.FlyingW B outer a (.ref C) (.ref t) s'.heap
 tn:B.get? t=none
 tup:s'.heap.TupAt t vs
 dZ:∀b o,s.heap.get? b=some o->H b=none->b∉eA outer->B.get? b=some o
 c3:∀b o,s.heap.get? b=some o->b∉eA outer->∃o',B.get? b=some o'
 un:Un (eA outer) [] H H' s.heap s'.heap
 ends:E (.ref C) (some a) H'
noncomputable def dO(P:Program)(w:World):xI:=λouter H s E e s'=>∃a C t vs H' B,e=.ref a/\Bi P w outer H s E a C t vs H' B s'
section
variable{P:Program}{w:World}{K:zz8}{mg:Str->Option Value}{base:Heap}{N:List Str}{qual:Str}{scope:Scope}{f:Addr}{cd:Value}{A:Around}{outer:List Env}{s0:Shared}{H0:Hp}{E:XK}
def ja{X:Cx}{aa:List (Addr×Obj)}{σ:St}{H:Hp}{s:Shared}(I:Inv X aa σ H s){b:Addr}{o:Obj}(hl:X.env.locals=X.s₀.heap.objs.size)(q:X.s₀.heap.get? b=some o)(hb:b∉X.fs):b∉eA X.stack:=λz=>by
 rcases zzm.mp (I.gj b z) with e|e
 ·rw [hl] at e;exact absurd (zzO q) (by rw [e];exact Nat.lt_irrefl _)
 ·exact hb e
def Le:Passes (dO P w) (dE (dO P w) P w K mg base N qual scope f cd A outer s0 H0 E) E:=by
 rintro aa σ H s e s' I ⟨a,C,t,vs,H',B,rfl,F⟩
 have nx:∀b:Addr,b∉(dE (dO P w) P w K mg base N qual scope f cd A outer s0 H0 E).ex:=λb z=>nomatch (show b∈([]:List Addr) from z)
 have dZ:∀b o,s0.heap.get? b=some o->H0 b=none->b∉eA outer->B.get? b=some o:=λb o q n hb=>
  F.dZ b o (I.base.keep b o q n hb (nx b)) (I.base.free b o q n (nx b)) (ja I rfl q hb)
 have c3:∀b o,s0.heap.get? b=some o->b∉eA outer->∃o',B.get? b=some o':=λb o q hb=>by
  obtain⟨o1,q1⟩:=I.base.there b o q (nx b)
  exact F.c3 b o1 q1 (ja I rfl q hb)
 refine wpAny_leaves_onW I.ok.frames rfl F.A3 λh' x1 x2=>⟨a,C,t,vs,H',B,rfl,?_⟩
 have slot:∀b o,s0.heap.get? b=some o->H0 b=none->b∈eA outer->∃sl,h'.get? b=some {o with slots:=sl}:=λb o q n hb=>by
  obtain⟨sl,q1⟩:=I.base.slot b o q n hb (nx b)
  obtain⟨sl2,q2⟩:=F.un.any q1 (I.base.free b o q n (nx b)) (λz=>nomatch z)
  obtain⟨_,o',q3,hd⟩:=F.A3.2.2.1.mem (b:=b) (zz1.mpr (let⟨v,h1,h2⟩:=zz1.mp hb;⟨v,.tail _ h1,h2⟩))
  rw [q2] at q3;cases q3;obtain⟨sl3,q4⟩:=x2 b _ q2 hd
  exact⟨sl3,q4⟩
 refine⟨F.os.trans I.os,F.bare,F.aN,x1,F.tn,F.tup.of_slots x2,dZ,c3,⟨λb o q n hb _=>x1.1 _ _ (dZ b o q n hb),λb o q n hb _=>slot b o q n hb,λb o q n _=>?_,λb o q _=>?_,λb xs q=>F.un.gP _ _ (I.base.gP _ _ q),λb o u q=>F.un.fh _ _ _ (I.base.fh _ _ _ q),λb ps q=>?_⟩,F.ends⟩
 ·obtain⟨sl,q1⟩:=I.base.any q n (nx b)
  exact F.un.free b _ q1 (I.base.free b o q n (nx b)) (λz=>nomatch z)
 ·by_cases hb:b∈eA outer
  ·obtain⟨sl,q1⟩:=slot b o q (I.ok.wo b hb) hb
   exact⟨_,q1⟩
  ·obtain⟨o',q1⟩:=c3 b o q hb
   exact⟨o',x1.1 _ _ q1⟩
 ·obtain⟨m1,q1⟩:=I.base.gq b ps q
  obtain⟨m2,q2⟩:=F.un.gq b _ q1
  exact⟨m1++m2,by rw [<-Array.append_assoc];exact q2⟩
def Ih{aa:List (Addr×Obj)}{σ:St}{H:Hp}{s:Shared}{h1:Heap}{e C:Addr}{us:List Value}(I:Inv (dE (dO P w) P w K mg base N qual scope f cd A outer s0 H0 E) aa σ H s)
 (hx:Heap.MadeExcOf s.heap h1 e (.ref C) us) (hE:E (.ref C) (some e) H):(dE (dO P w) P w K mg base N qual scope f cd A outer s0 H0 E).xe (.ref e) {s with heap:=h1}:=by
 have nx:∀b:Addr,b∉(dE (dO P w) P w K mg base N qual scope f cd A outer s0 H0 E).ex:=λb z=>nomatch (show b∈([]:List Addr) from z)
 have PY:∀env∈(dE (dO P w) P w K mg base N qual scope f cd A outer s0 H0 E).stack,∀b,env.frame=some b->b∈eA (dE (dO P w) P w K mg base N qual scope f cd A outer s0 H0 E).stack:=λenv he b hb=>zz1.mpr ⟨env,he,hb⟩
 refine wpAny_leaves_madeW (h:=s.heap) I.ok.frames rfl (λb o q=>of_hideAll _ q) (funFrames_hide I.stack PY) hx λh' t x1 x2 x3 x4=>⟨e,C,t,us,H,hideAll s.heap (eA (dE (dO P w) P w K mg base N qual scope f cd A outer s0 H0 E).stack),rfl,?_⟩
 have dZ:∀b o,s0.heap.get? b=some o->H0 b=none->b∉eA outer->(hideAll s.heap (eA (dE (dO P w) P w K mg base N qual scope f cd A outer s0 H0 E).stack)).get? b=some o:=λb o q n hb=>
  hideAll_get _ (I.base.keep b o q n hb (nx b)) (ja I rfl q hb)
 have c3:∀b o,s0.heap.get? b=some o->b∉eA outer->∃o',(hideAll s.heap (eA (dE (dO P w) P w K mg base N qual scope f cd A outer s0 H0 E).stack)).get? b=some o':=λb o q hb=>by
  obtain⟨o1,q1⟩:=I.base.there b o q (nx b)
  exact⟨o1,hideAll_get _ q1 (ja I rfl q hb)⟩
 have slot:∀b o,s0.heap.get? b=some o->H0 b=none->b∈eA outer->∃sl,h'.get? b=some {o with slots:=sl}:=λb o q n hb=>by
  obtain⟨sl,q1⟩:=I.base.slot b o q n hb (nx b)
  obtain⟨_,o',q3,hd⟩:=I.stack.mem (b:=b) (zz1.mpr (let⟨v,h1,h2⟩:=zz1.mp hb;⟨v,.tail _ h1,h2⟩))
  rw [q1] at q3;cases q3;obtain⟨sl3,q4⟩:=x4 b _ (hx.keeps _ _ q1) hd
  exact⟨sl3,q4⟩
 refine⟨I.os,I.bare,λb o q=>?_,x1,x3,x2,dZ,c3,⟨λb o q n hb _=>x1.1 _ _ (dZ b o q n hb),λb o q n hb _=>slot b o q n hb,λb o q n _=>I.base.free b o q n (nx b),λb o q _=>?_,I.base.gP,I.base.fh,I.base.gq⟩,hE⟩
 ·refine(I.aN b o q).eR (λc v hc r=>hideAll_get _ r λz=>?_) (λ_ q=>q) λ_ _ q=>q
  have z':=I.j7 c z
  rcases hc with rfl|hc
  ·rw [q] at z';cases z'
  ·rw [hc] at z';cases z'
 ·by_cases hb:b∈eA outer
  ·obtain⟨sl,q1⟩:=slot b o q (I.ok.wo b hb) hb
   exact⟨_,q1⟩
  ·obtain⟨o',q1⟩:=c3 b o q hb
   exact⟨o',x1.1 _ _ q1⟩
end
def jh{P:Program}{w:World}{H:Hp}{h:Heap}{a:Addr}{o:HO}(x:bK P w H h a o):∃o',h.get? a=some o':=by
 cases o with
 |lst xs=>obtain⟨_,_,_,_,e⟩:=x;exact⟨_,e⟩
 |tup xs=>obtain⟨_,_,_,o,e,_⟩:=x;exact⟨_,e⟩
 |dK av=>obtain⟨_,_,_,_,o,_,_,e,_⟩:=x;exact⟨_,e⟩
 |dT av=>obtain⟨_,_,_,_,o,_,_,e,_⟩:=x;exact⟨_,e⟩
 |set S n=>obtain⟨o,_,_,_,e,_⟩:=x;exact⟨_,e⟩
 |ins C dx fs=>obtain⟨_,_,_,e,_⟩:=x;exact⟨_,e⟩
 |own y=>exact x
 |xd fs=>obtain⟨_,⟨_,_,_,e,_⟩,_⟩:=x;exact⟨_,e⟩
 |rD lo hi=>obtain⟨_,_,_,e⟩:=x;exact⟨_,e⟩
 |bq ob u=>obtain⟨e,_⟩:=x;exact⟨_,e⟩
 |fG ps=>exact⟨_,x⟩
 |met f y=>exact⟨_,x⟩
 |ext φ=>exact x.2.1
noncomputable def IK(C:Addr)(E:XK)(ta:TA):TS:=λ_ σ H=>ta σ H λvs H1=>vs.length<=sizeLine/\∀e,H1 e=none->E (.ref C) (some e) H1
section
variable{P:Program}{w:World}{K:zz8}{mg:Str->Option Value}{base:Heap}{N:List Str}{qual:Str}{scope:Scope}{f:Addr}{cd:Value}{A:Around}{outer:List Env}{s0:Shared}{H0:Hp}{E:XK}
theorem Ar{x:Str}{C:Addr}{Bn newId GX:String}{bm:List Value}{e₀:Expr}{rest:List Expr}{np bI pos:Pos}{ta:TA}(hg:Gl (dE (dO P w) P w K mg base N qual scope f cd A outer s0 H0 E) x)(O:OwnCls x C bm newId mg base)(FB:ExcBaseFacts Bn newId GX bm)
 (ha:PA (dE (dO P w) P w K mg base N qual scope f cd A outer s0 H0 E) (e₀::rest) ta)
 (he:starEach (e₀::rest) (dE (dO P w) P w K mg base N qual scope f cd A outer s0 H0 E).env=(false,eval e₀ (dE (dO P w) P w K mg base N qual scope f cd A outer s0 H0 E).env)::starEach rest (dE (dO P w) P w K mg base N qual scope f cd A outer s0 H0 E).env:=by rfl)
 (hplain:(backTo bI (starEach rest (dE (dO P w) P w K mg base N qual scope f cd A outer s0 H0 E).env)).any (·.1)=false:=by rfl) (hd:(x==("__debug__":Str))=false:=by decide) (hA:A.handled.isNone=true):
 PS (dE (dO P w) P w K mg base N qual scope f cd A outer s0 H0 E) (.Raise (some (.Call (.Name x np) (e₀::rest) [] bI)) none pos) (IK C E ta):=by
 intro aa s σ H D I h;obtain⟨tl,Nn,nm,q,bs,hdct,sn,sub,ab,col,dd,k0,k1,k2,k3,k5,mN,hC,hN,hni,T⟩:=O.obj
 refine wpAny_Raise_call_subT (C:=C) (nm:=nm) (q:=q) (N:=Nn) (bs:=bs) (bm:=tl) (hdct:=hdct) (sn:=sn) (sub:=sub) (ab:=ab) (col:=col) (dd:=dd) (k0:=k0) (k1:=k1) (k2:=k2) (k3:=k3) (k5:=k5)
  FB (mN:=mN) (T.hasType FB.hasBase) (I.ok.hd hA) (by rw [he];show(false||(backTo bI (starEach rest (dE (dO P w) P w K mg base N qual scope f cd A outer s0 H0 E).env)).any (·.1))=false;rw [hplain];rfl) hni (gE I hg O.bound ⟨rfl,?_⟩ hd)
 have h2:=ha bI aa s σ H _ I h
 rw [he] at h2⊢;refine Calls.evalArgs_plain (wpAny_mono h2 (λus s2 ⟨vs,H1,I1,rv,hl,hE⟩=>?_) λ_ _ y=>y)
 refine⟨rfl,by rw [<-rv.length];exact hl,I1.bk _ _ hC,hN.keeps I1.bk,T.keeps I1.bk,λh1 e hx=>Ih I1 hx (hE e ?_)⟩
 cases z:H1 e with
 |none=>rfl
 |some o=>
  obtain⟨o',eC⟩:∃o',s2.heap.get? e=some o':=by
   exact jh (I1.aN _ _ z)
  rw [hx.new] at eC;cases eC
end
abbrev bz:HO:=.ext λ_=>True
def km{P:Program}{w:World}{H:Hp}{h:Heap}{a:Addr}{o:Obj}(e:h.get? a=some o):bK P w H h a (.bq o bz):=⟨e,trivial,⟨o,e⟩,λ_ _ _ _=>trivial⟩
noncomputable def aH(Z:List (Addr×Obj))(H:Hp):Hp:=λb=>match Z.lookup b with
 |some o=>some (.bq o bz)
 |none=>H b
noncomputable def aL(Z:List (Addr×Obj))(H:Hp):Hp:=λb=>match Z.lookup b with
 |some _=>none
 |none=>H b
section
variable{Z:List (Addr×Obj)}{H H':Hp}{b:Addr}{o:Obj}
def aX(e:Z.lookup b=some o):aH Z H b=some (.bq o bz):=by unfold aH;rw [e]
def ag(e:Z.lookup b=none):aH Z H b=H b:=by unfold aH;rw [e]
def d6(e:Z.lookup b=some o):aL Z H b=none:=by unfold aL;rw [e]
def aq(e:Z.lookup b=none):aL Z H b=H b:=by unfold aL;rw [e]
def d7{u:HO}(e:aL Z H b=some u):Z.lookup b=none/\H b=some u:=by
 cases q:Z.lookup b with
 |none=>rw [aq q] at e;exact⟨rfl,e⟩
 |some o=>rw [d6 q] at e;cases e
def g7(h:H b=none):aL Z H b=none:=by
 cases q:Z.lookup b with
 |none=>rw [aq q];exact h
 |some o=>exact d6 q
structure pK(Z:List (Addr×Obj))(H:Hp)(fs:List Addr)(h:Heap):Prop where
 at_:∀b o,Z.lookup b=some o->h.get? b=some o
 no:∀b o,Z.lookup b=some o->H b=none
 fr:∀b o,Z.lookup b=some o->b∉fs
variable{P:Program}{w:World}{fs:List Addr}{h h':Heap}
theorem pK.aN(z:pK Z H fs h)(k:dQ P w H h):dQ P w (aH Z H) h:=λb u e=>by
 cases q:Z.lookup b with
 |some o=>rw [aX q] at e;cases e;exact km (z.at_ b o q)
 |none=>
  rw [ag q] at e;have nz:∀c v,H c=some v->Z.lookup c=none:=λc v hv=>by
   cases y:Z.lookup c with
   |none=>rfl
   |some o=>rw [z.no c o y] at hv;cases hv
  exact(k b u e).eR (λc v _ r=>r) (λc r=>by rw [ag (nz c _ r)];exact r) λc xs r=>by rw [ag (nz c _ r)];exact r
def pK.pz(z:pK Z H fs h)(u:Un fs [] (aH Z H) H' h h')(k:dQ P w H' h'):Un fs [] H (aL Z H') h h'/\dQ P w (aL Z H') h':=by
 have zk:∀b o,Z.lookup b=some o->H' b=some (.bq o bz):=λb o q=>u.fh b o _ (aX q)
 have zh:∀b o,Z.lookup b=some o->h'.get? b=some o:=λb o q=>(k b _ (zk b o q)).1
 have nz:∀c v,H c=some v->Z.lookup c=none:=λc v hv=>by
  cases y:Z.lookup c with
  |none=>rfl
  |some o=>rw [z.no c o y] at hv;cases hv
 refine⟨⟨λb o e n hb hx=>?_,λb o e n hb hx=>?_,λb o e n hx=>?_,λb o e hx=>u.there b o e hx,λb xs e=>?_,λb o v e=>?_,λb ps e=>?_⟩,λb v e=>?_⟩
 ·cases q:Z.lookup b with
  |some o'=>
   have e2:=z.at_ b o' q
   rw [e] at e2;cases e2;exact zh b o q
  |none=>exact u.keep b o e (by rw [ag q];exact n) hb hx
 ·cases q:Z.lookup b with
  |some o'=>exact absurd hb (z.fr b o' q)
  |none=>exact u.slot b o e (by rw [ag q];exact n) hb hx
 ·cases q:Z.lookup b with
  |some o'=>exact d6 q
  |none=>rw [aq q];exact u.free b o e (by rw [ag q];exact n) hx
 ·rw [aq (nz b _ e)];exact u.gP b xs (by rw [ag (nz b _ e)];exact e)
 ·rw [aq (nz b _ e)];exact u.fh b o v (by rw [ag (nz b _ e)];exact e)
 ·rw [aq (nz b _ e)];exact u.gq b ps (by rw [ag (nz b _ e)];exact e)
 ·obtain⟨q,e1⟩:=d7 e
  refine(k b v e1).eR (λc y _ r=>r) (λc r=>?_) λc xs r=>?_
  ·cases y:Z.lookup c with
   |none=>rw [aq y];exact r
   |some o=>rw [zk c o y] at r;cases r
  ·cases y:Z.lookup c with
   |none=>rw [aq y];exact r
   |some o=>rw [zk c o y] at r;cases r
def pK.vA(z:pK Z H fs h)(u:Un fs [] H H' h h')(k:dQ P w H' h'):Un fs [] (aH Z H) (aH Z H') h h'/\dQ P w (aH Z H') h':=by
 have zh:∀b o,Z.lookup b=some o->h'.get? b=some o:=λb o q=>u.keep b o (z.at_ b o q) (z.no b o q) (z.fr b o q) (λy=>nomatch y)
 have zn:∀b o,Z.lookup b=some o->H' b=none:=λb o q=>u.free b o (z.at_ b o q) (z.no b o q) (λy=>nomatch y)
 have nz:∀c v,H' c=some v->Z.lookup c=none:=λc v hv=>by
  cases y:Z.lookup c with
  |none=>rfl
  |some o=>rw [zn c o y] at hv;cases hv
 have nw:∀b,aH Z H b=none->Z.lookup b=none/\H b=none:=λb e=>by
  cases q:Z.lookup b with
  |some o=>rw [aX q] at e;cases e
  |none=>rw [ag q] at e;exact⟨rfl,e⟩
 refine⟨⟨λb o e n hb hx=>u.keep b o e (nw b n).2 hb hx,λb o e n hb hx=>u.slot b o e (nw b n).2 hb hx,λb o e n hx=>?_,λb o e hx=>u.there b o e hx,λb xs e=>?_,λb o v e=>?_,λb ps e=>?_⟩,λb v e=>?_⟩
 ·rw [ag (nw b n).1];exact u.free b o e (nw b n).2 hx
 ·cases q:Z.lookup b with
  |some o=>rw [aX q] at e;cases e
  |none=>rw [ag q] at e⊢;exact u.gP b xs e
 ·cases q:Z.lookup b with
  |some o'=>rw [aX q] at e⊢;exact e
  |none=>rw [ag q] at e⊢;exact u.fh b o v e
 ·cases q:Z.lookup b with
  |some o=>rw [aX q] at e;cases e
  |none=>rw [ag q] at e⊢;exact u.gq b ps e
 ·cases q:Z.lookup b with
  |some o=>rw [aX q] at e;cases e;exact km (zh b o q)
  |none=>
   rw [ag q] at e;exact(k b v e).eR (λc y _ r=>r) (λc r=>by rw [ag (nz c _ r)];exact r) λc xs r=>by rw [ag (nz c _ r)];exact r
variable{K:zz8}{mg:Str->Option Value}{base:Heap}{A:Around}{outer:List Env}{s s':Shared}
theorem ij.aH(e:ij P w K mg base A outer s H)(z:pK Z H (eA outer) s.heap)(zb:∀b o,Z.lookup b=some o->base.get? b=none):ij P w K mg base A outer s (aH Z H) where
 frames:=e.frames
 mod:=e.mod
 bs:=λb o q=>⟨(e.bs b o q).1,by
  cases y:Z.lookup b with
  |some o'=>rw [zb b o' y] at q;cases q
  |none=>rw [ag y];exact(e.bs b o q).2⟩
 vL:=e.vL
 fB:=e.fB
 wo:=λb hb=>by
  cases y:Z.lookup b with
  |some o'=>exact absurd hb (z.fr b o' y)
  |none=>rw [ag y];exact e.wo b hb
 aN:=z.aN e.aN
 bare:=e.bare
def CE.less{Q:VK}{u:Value}(z:pK Z H (eA outer) s.heap)(h:CE outer P w (aH Z H) s (λv H'=>Q v (aL Z H')) u s'):CE outer P w H s Q u s':=by
 obtain⟨v,H',os,bare,un,aN,r,q⟩:=h
 obtain⟨u1,k1⟩:=z.pz un aN
 exact⟨v,_,os,bare,u1,k1,r,q⟩
def CE.more{Q:VK}{u:Value}(z:pK Z H (eA outer) s.heap)(h:CE outer P w H s (λv H'=>(∀b o,Z.lookup b=some o->H' b=none)->Q v (aH Z H')) u s'):CE outer P w (aH Z H) s Q u s':=by
 obtain⟨v,H',os,bare,un,aN,r,q⟩:=h
 obtain⟨u1,k1⟩:=z.vA un aN
 exact⟨v,_,os,bare,u1,k1,r,q λb o y=>un.free b o (z.at_ b o y) (z.no b o y) (λy=>nomatch y)⟩
def dO.less{E:XK}{e:Value}(z:pK Z H (eA outer) s.heap)(h:dO P w outer (aH Z H) s (λC a H'=>E C a (aL Z H')) e s'):dO P w outer H s E e s':=by
 obtain⟨a,C,t,vs,H',B,rfl,F⟩:=h
 have zk:∀b o,Z.lookup b=some o->H' b=some (.bq o bz):=λb o q=>F.un.fh b o _ (aX q)
 have kB:∀b o,s.heap.get? b=some o->H b=none->b∉eA outer->B.get? b=some o:=λb o e n hb=>by
  cases q:Z.lookup b with
  |some o'=>
   have e2:=z.at_ b o' q
   rw [e] at e2;cases e2;exact(F.aN b _ (zk b o q)).1
  |none=>exact F.dZ b o e (by rw [ag q];exact n) hb
 have hB:dQ P w (aL Z H') B:=λb v e=>by
  obtain⟨q,e1⟩:=d7 e
  refine(F.aN b v e1).eR (λc y _ r=>r) (λc r=>?_) λc xs r=>?_
  ·cases y:Z.lookup c with
   |none=>rw [aq y];exact r
   |some o=>rw [zk c o y] at r;cases r
  ·cases y:Z.lookup c with
   |none=>rw [aq y];exact r
   |some o=>rw [zk c o y] at r;cases r
 have hs:dQ P w H' s'.heap:=λb v e=>(F.aN b v e).eR (λc y _ r=>F.A3.1 _ _ r) (λ_ r=>r) λ_ _ r=>r
 obtain⟨u1,_⟩:=z.pz (P:=P) (w:=w) F.un hs
 exact⟨a,C,t,vs,_,B,rfl,⟨F.os,F.bare,hB,F.A3,F.tn,F.tup,kB,F.c3,u1,F.ends⟩⟩
def dO.more{E:XK}{e:Value}(z:pK Z H (eA outer) s.heap)(h:dO P w outer H s (λC a H'=>(∀b o,Z.lookup b=some o->H' b=none)->E C a (aH Z H')) e s'):dO P w outer (aH Z H) s E e s':=by
 obtain⟨a,C,t,vs,H',B,rfl,F⟩:=h
 have zB:∀b o,Z.lookup b=some o->B.get? b=some o:=λb o q=>F.dZ b o (z.at_ b o q) (z.no b o q) (z.fr b o q)
 have zn:∀b o,Z.lookup b=some o->H' b=none:=λb o q=>F.un.free b o (z.at_ b o q) (z.no b o q) (λy=>nomatch y)
 have nz:∀c v,H' c=some v->Z.lookup c=none:=λc v hv=>by
  cases y:Z.lookup c with
  |none=>rfl
  |some o=>rw [zn c o y] at hv;cases hv
 have hB:dQ P w (aH Z H') B:=λb v e=>by
  cases q:Z.lookup b with
  |some o=>rw [aX q] at e;cases e;exact km (zB b o q)
  |none=>
   rw [ag q] at e;exact(F.aN b v e).eR (λc y _ r=>r) (λc r=>by rw [ag (nz c _ r)];exact r) λc xs r=>by rw [ag (nz c _ r)];exact r
 have hs:dQ P w H' s'.heap:=λb v e=>(F.aN b v e).eR (λc y _ r=>F.A3.1 _ _ r) (λ_ r=>r) λ_ _ r=>r
 obtain⟨u1,_⟩:=z.vA (P:=P) (w:=w) F.un hs
 refine⟨a,C,t,vs,_,B,rfl,⟨F.os,F.bare,hB,F.A3,F.tn,F.tup,λb o e n hb=>F.dZ b o e ?_ hb,F.c3,u1,F.ends zn⟩⟩
 cases q:Z.lookup b with
 |some o=>rw [aX q] at n;cases n
 |none=>rw [ag q] at n;exact n
end
structure kf(ps ys:List Str)(scope:Scope):Prop where
 kind:scope.kind=.function
 co:scope.isCoroutine=false
 gen:scope.isGenerator=false
 nd:(ps++ys).Nodup
 zI:∀x∈scope.names,x.2≠.cell
 par:∀x∈ps,scope.names.lookup x=some .local
 Kb:∀y∈ys,scope.names.lookup y=some .free
 FD:∀x,scope.names.lookup x=some .free->x∈ys
noncomputable def Bu(P:Program)(w:World)(K:zz8)(mg:Str->Option Value)(base:Heap)(N:List Str)(qual:Str)(scope:Scope)(f:Addr)(cd:Value)(cl:List (Str×Addr))(A:Around)(outer:List Env)(s:Shared)(H:Hp)(E:XK):Cx where
 prog:=P
 w:=w
 K:=K
 mg:=mg
 base:=base
 A:=A.deeper (PySem.W.envX qual scope (zz9 s) f cd cl)
 N:=N
 s₀:=s
 H₀:=H
 env:=PySem.W.envX qual scope (zz9 s) f cd cl
 outer:=outer
 stack:=PySem.W.envX qual scope (zz9 s) f cd cl::outer
 ex:=[]
 calm:=A.handled.isNone
 fn:=λ_=>false
 pn:=[]
 xe:=λe s'=>wpAny (model P w) (A.deeper (PySem.W.envX qual scope (zz9 s) f cd cl)) (leaving (PySem.W.envX qual scope (zz9 s) f cd cl) e) (λ_ xO=>dO P w outer H s E e xO) (λe' xO=>dO P w outer H s E e' xO) s'
theorem nh{α:Type}:∀{l:List (Str×α)} {x:Str} {v:α},(l.map (·.1)).Nodup->(x,v)∈l->l.lookup x=some v
 |(y,u)::r,x,v,nd,h=>by
  rw [zzF,List.nodup_cons] at nd;rw [zz5];rcases zzm.mp h with e|e
  ·cases e;simp
  ·have j2:(x==y)=false:=beq_eq_false_iff_ne.mpr λz=>nd.1 (by subst z;exact List.mem_map_of_mem (f:=(·.1)) e)
   rw [j2];exact nh nd.2 e
def lX{ps:List Str}{us:List Value}{i:Nat}{x:Str}{u:Value}(nd:ps.Nodup)(h1:ps[i]?=some x)(h2:us[i]?=some u):(ps.zip us).reverse.lookup x=some u:=by
 have hs:∀{ps:List Str} {us:List Value},List.Sublist ((ps.zip us).map (·.1)) ps:=λ{ps us}=>by
  induction ps generalizing us with
  |nil=>simp
  |cons p ps ih=>
   cases us with
   |nil=>simp
   |cons q us=>simpa using ih
 refine nh ?_ ?_
 ·rw [List.map_reverse];exact List.pairwise_reverse.mpr ((nd.sublist hs).imp λh=>Ne.symm h)
 ·rw [List.mem_reverse];refine zzD (i:=i) ?_;rw [List.getElem?_zip_eq_some];exact⟨h1,h2⟩
section
variable{P:Program}{w:World}{K:zz8}{mg:Str->Option Value}{base:Heap}{ps ys:List Str}{qual:Str}{scope:Scope}{f:Addr}{cd:Value}{cl:List (Str×Addr)}{A:Around}{outer:List Env}{s:Shared}{H:Hp}{E:XK}
def sf{us:List Value}{vs ws:List V}{h':Heap}{tk:Nat}(S:kf ps ys scope)(e0:ij P w K mg base A outer s H)(EF:∀y∈ys,∃c,cl.lookup y=some c)(inj:∀x y c,cl.lookup x=some c->cl.lookup y=some c->x=y)
 (r:Vals vs us) (hl:vs.length=ps.length) (hw:ws.length=ys.length) (cells:∀(i:Nat) y c,ys[i]?=some y->cl.lookup y=some c->∀v,ws[i]?=some v->∃u,RelV v u/\s.heap.IsCell c (some u)) (MV:∀x c,cl.lookup x=some c->∃v,s.heap.IsCell c v)
 (JV:∀x c,cl.lookup x=some c->H c=none) (ns:h'.Ns (zz9 s) (λx=>(ps.zip us).reverse.lookup x)) (hk:∀b o,s.heap.get? b=some o->h'.get? b=some o):
 Inv (Bu P w K mg base (ps++ys) qual scope f cd cl A outer s H E) [] (vs.map some++ws.map some) H {s with heap:=h',toks:=tk}:=by
 have CT:∀b:Addr,b∉(Bu P w K mg base (ps++ys) qual scope f cd cl A outer s H E).ex:=λb z=>absurd (show b∈([]:List Addr) from z) (by simp)
 have ck:∀c v,s.heap.IsCell c v->h'.IsCell c v:=λc v ⟨o,ho,hd⟩=>⟨o,hk c o ho,hd⟩
 refine⟨⟨e0.mod,S.kind,rfl,rfl,zzE _,inj,λx hx=>?_,(λx c z=>nomatch z),λz=>Option.isNone_iff_eq_none.mp z,Around.frames_deeper e0.frames,.inr ⟨rfl,rfl⟩,λb z=>absurd z (CT b),e0.bs,e0.vL,λb _ _=>CT b,λb z=>absurd z (CT b),e0.fB,e0.wo⟩,
  rfl,e0.bare,Un.kept hk,⟨_,ns,λi x v h1 h2 h3=>?_⟩,λx c h=>let⟨v,z⟩:=MV x c h;⟨v,ck c v z⟩,e0.aN.fresh (zzE _),JV,λp hp=>absurd (show p∈([]:List (Addr×Obj)) from hp) (by simp),e0.aN.kept hk,?_⟩
 ·have hx:scope.names.lookup x=some .cell\/scope.names.lookup x=some .free:=hx
  rcases hx with hx|hx
  ·exact absurd rfl (S.zI _ (PySem.mem_of_lookup hx))
  ·exact EF x (S.FD x hx)
 ·have h1:(ps++ys)[i]?=some x:=h1
  by_cases hi:i<vs.length
  ·rw [zzr (by simpa using hi),zzQ] at h2;have ha:vs[i]?=some v:=by
    cases e:vs[i]? with
    |none=>rw [e] at h2;cases h2
    |some a=>rw [e] at h2;cases h2;rfl
   obtain⟨u,hu,rv⟩:=r.get ha
   have hp:ps[i]?=some x:=by rw [zzr (by omega)] at h1;exact h1
   exact⟨u,rv,.inl ⟨S.par x (zzD hp),lX (S.nd.sublist (List.sublist_append_left _ _)) hp hu⟩⟩
  ·rw [zzs (by simpa using hi),zzQ,zzl] at h2;rw [zzs (by omega)] at h1;have ha:ws[i-vs.length]?=some v:=by
    cases e:ws[i-vs.length]? with
    |none=>rw [e] at h2;cases h2
    |some a=>rw [e] at h2;cases h2;rfl
   rw [<-hl] at h1;obtain⟨c,hc⟩:=EF x (zzD h1)
   obtain⟨u,rv,z⟩:=cells _ x c h1 hc v ha
   exact⟨u,rv,.inr ⟨.inr (S.Kb x (zzD h1)),c,hc,ck c _ z⟩⟩
 ·show _=(ps++ys).length
  rw [zzM,zzM,zzl,zzl,hl,hw]
def Lf{N:List Str}:Passes (dO P w) (Bu P w K mg base N qual scope f cd cl A outer s H E) E:=by
 rintro aa σ H1 s1 e s' I ⟨a,C,t,vs,H',B,rfl,F⟩
 have nx:∀b:Addr,b∉(Bu P w K mg base N qual scope f cd cl A outer s H E).ex:=λb z=>nomatch (show b∈([]:List Addr) from z)
 have dZ:∀b o,s.heap.get? b=some o->H b=none->b∉eA outer->B.get? b=some o:=λb o q n hb=>
  F.dZ b o (I.base.keep b o q n hb (nx b)) (I.base.free b o q n (nx b)) (ja I rfl q hb)
 have c3:∀b o,s.heap.get? b=some o->b∉eA outer->∃o',B.get? b=some o':=λb o q hb=>by
  obtain⟨o1,q1⟩:=I.base.there b o q (nx b)
  exact F.c3 b o1 q1 (ja I rfl q hb)
 refine wpAny_leaves_onW I.ok.frames rfl F.A3 λh' x1 x2=>⟨a,C,t,vs,H',B,rfl,?_⟩
 have slot:∀b o,s.heap.get? b=some o->H b=none->b∈eA outer->∃sl,h'.get? b=some {o with slots:=sl}:=λb o q n hb=>by
  obtain⟨sl,q1⟩:=I.base.slot b o q n hb (nx b)
  obtain⟨sl2,q2⟩:=F.un.any q1 (I.base.free b o q n (nx b)) (λz=>nomatch z)
  obtain⟨_,o',q3,hd⟩:=F.A3.2.2.1.mem (b:=b) (zz1.mpr (let⟨v,h1,h2⟩:=zz1.mp hb;⟨v,.tail _ h1,h2⟩))
  rw [q2] at q3;cases q3;obtain⟨sl3,q4⟩:=x2 b _ q2 hd
  exact⟨sl3,q4⟩
 refine⟨F.os.trans I.os,F.bare,F.aN,x1,F.tn,F.tup.of_slots x2,dZ,c3,⟨λb o q n hb _=>x1.1 _ _ (dZ b o q n hb),λb o q n hb _=>slot b o q n hb,λb o q n _=>?_,λb o q _=>?_,λb xs q=>F.un.gP _ _ (I.base.gP _ _ q),λb o u q=>F.un.fh _ _ _ (I.base.fh _ _ _ q),λb ps q=>?_⟩,F.ends⟩
 ·obtain⟨sl,q1⟩:=I.base.any q n (nx b)
  exact F.un.free b _ q1 (I.base.free b o q n (nx b)) (λz=>nomatch z)
 ·by_cases hb:b∈eA outer
  ·obtain⟨sl,q1⟩:=slot b o q (I.ok.wo b hb) hb
   exact⟨_,q1⟩
  ·obtain⟨o',q1⟩:=c3 b o q hb
   exact⟨o',x1.1 _ _ q1⟩
 ·obtain⟨m1,q1⟩:=I.base.gq b ps q
  obtain⟨m2,q2⟩:=F.un.gq b _ q1
  exact⟨m1++m2,by rw [<-Array.append_assoc];exact q2⟩
def oF{k:Nat}{params:Arguments}{body:Expr}{pm dX:Value}{c':Addr}{oc:Obj}{cF:Array Value}{ct:Tok}{us:List Value}{vs ws:List V}{Q:VK}{Z:List (Addr×Obj)}{t:TE}
 (S:kf ps ys scope) (hr:dc k A) (e0:ij P w K mg base A outer s H) (z:pK Z H (eA outer) s.heap) (zb:∀b o,Z.lookup b=some o->base.get? b=none)
 (ho:s.heap.get? f=some (PySem.W.kla_obj "<lambda>" qual params body scope cl pm c' dX)) (hc:s.heap.get? c'=some oc) (mY:oc.data=.fields cF) (wG:cF[1]?=some (.str qual ct))
 (hb:bindArgs (PySem.W.kla_fn "<lambda>" qual params body scope cl pm (.ref c') dX) ⟨us,[]⟩=pure (ps.zip us)) (r:Vals vs us) (hl:vs.length=ps.length) (hw:ws.length=ys.length)
 (EF:∀y∈ys,∃c,cl.lookup y=some c) (inj:∀x y c,cl.lookup x=some c->cl.lookup y=some c->x=y)
 (cz:∀x c,cl.lookup x=some c->∃o v,Z.lookup c=some o/\o.data=.cell v)
 (cells:∀(i:Nat) y c,ys[i]?=some y->cl.lookup y=some c->∀v,ws[i]?=some v->∃u,RelV v u/\s.heap.IsCell c (some u))
 (ht:PE (Bu P w K mg base (ps++ys) qual scope f (.ref c') cl A outer s H (λC a H'=>(∀b o,Z.lookup b=some o->H' b=none)->E C a (aH Z H'))) body t)
 (hq:t (vs.map some++ws.map some) H λv H'=>(∀b o,Z.lookup b=some o->H' b=none)->Q v (aH Z H')):
 codeAny (model P w) A (.call (.ref f) ⟨us,[]⟩) (CR (dO P w) outer P w (aH Z H) s Q E) s:=by
 have lim:s.heap.NoLimit:=e0.mod.nolimit.keeps λb o e=>(e0.bs b o e).1
 refine PySem.W.kla_callFunE hr.depth ho rfl S.co S.gen rfl ⟨c',oc,cF,ct,rfl,hc,mY,wG⟩ ?_;rw [hb];refine zzG (wpAny_newFunctionEnv S.zI (λy hy=>S.par y.1 (List.of_mem_zip hy).1) (λh₁ Md hsb=>?_) S.kind)
 have hk₁:∀b o,s.heap.get? b=some o->h₁.get? b=some o:=λb o e=>hsb.extBut b o (zzb (zzO e)) (zzB _ e)
 refine⟨lim.keeps hk₁,?_⟩;show codeAny _ _ (.expr body (PySem.W.envX qual scope (zz9 s) f (.ref c') cl)) _ _;have I:=sf (E:=λC a H'=>(∀b o,Z.lookup b=some o->H' b=none)->E C a (aH Z H')) (cd:=.ref c') (f:=f) (qual:=qual) (tk:=s.toks+(ps.zip us).length) S e0 EF inj r hl hw cells (λx c h=>by
  obtain⟨o,v,h1,h2⟩:=cz x c h
  exact⟨v,o,z.at_ c o h1,h2⟩) (λx c h=>by
  obtain⟨o,v,h1,h2⟩:=cz x c h
  exact z.no c o h1) Md hk₁
 refine PySem.W.kla_codeExpr (wpAny_mono (ht [] _ _ H _ I hq) (λu s' hs=>?_) λe s' hs=>?_)
 ·obtain⟨v,H',J,rv,q⟩:=hs
  exact CE.more z ⟨v,H',J.os,J.bare,J.base,J.aN,rv,q⟩
 ·exact wpAny_mono hs (λ_ xO y=>dO.more z y) λe' xO y=>dO.more z y
end
def rK{p:Pos}{a b:Int}{c cv:Value}:∀(l:List Value),TriplesOk l->codeAmong p (l++[rawInt a,rawInt b,c])=some cv->codeAmong p l=some cv\/cv=c:=by
 intro l h e
 fun_induction TriplesOk l with
 |case1=>
  simp! [List.nil_append,codeAmong,rawInt] at e;split at e
  ·cases e;exact .inr rfl
  ·cases e
 |case2 a' t b' u x rest ih=>
  simp! [List.cons_append,codeAmong] at e⊢;split at e
  ·rename_i hc;rw [if_pos hc];exact .inl e
  ·rename_i hc;rw [if_neg hc];exact ih h e
 |case3 l h1 h2=>exact h.elim
def xR(mg:Str->Option Value)(base:Heap):Prop:=∃bm o,mg "__builtins__"=some (.ref bm)/\bm≠builtinsNs/\bm≠mainGlobals/\base.get? bm=some o/\o.cls=.type "module"/\o.dict=some builtinsNs/\o.data=.plain
noncomputable def fX(H:Hp)(P:Addr)(qQ:Array Value)(c':Addr)(oc:Obj)(f:Addr)(fo:Obj):Hp:=upd (upd (upd H P (.fG qQ)) c' (.bq oc bz)) f (.bq fo bz)
section
variable{X:Cx}{aa:List (Addr×Obj)}{σ:St}{H:Hp}{s:Shared}{c P c' f:Addr}{ps qQ:Array Value}{oc fo:Obj}
def Inv.lam{h':Heap}{tk:Nat}(I:Inv X aa σ H s)(hP:H P=some (.fG ps))(hx:∀b o,b≠P->s.heap.get? b=some o->h'.get? b=some o)(KD:h'.get? P=some (PySem.W.tabObj qQ))(more:∃m,qQ=ps++m)
 (hc:H c'=none/\(zz9 s)<=c'\/H c'=some (.bq oc bz)) (Q9:h'.get? c'=some oc) (hf:(zz9 s)<=f) (Rh:h'.get? f=some fo) (A5:c'≠f):
 Inv X aa σ (fX H P qQ c' oc f fo) {s with heap:=h',toks:=tk}:=by
 have fr:H f=none:=I.aN.fresh hf
 have nP:∀b u,H b=some u->(∀q,u≠.fG q)->b≠P:=λb u e n z=>by subst z;rw [hP] at e;cases e;exact n _ rfl
 have nf:∀b u,H b=some u->b≠f:=λb u e z=>by subst z;rw [fr] at e;cases e
 have cP:c'≠P:=λz=>by
  subst z;rcases hc with⟨e,_⟩|e
  ·rw [hP] at e;cases e
  ·rw [hP] at e;cases e
 have fP:f≠P:=λz=>by subst z;rw [hP] at fr;cases fr
 have at_:∀b u,H b=some u->(∀q,u≠.fG q)->fX H P qQ c' oc f fo b=some u:=λb u e n=>by
  unfold fX;rw [af (nf b u e)]
  by_cases hb:b=c'
  ·subst hb;rw [ak];rcases hc with⟨z,_⟩|z
   ·rw [z] at e;cases e
   ·rw [z] at e;exact e
  ·rw [af hb,af (nP b u e n)];exact e
 have no:∀b o,s.heap.get? b=some o->H b=none->fX H P qQ c' oc f fo b=none:=λb o e n=>by
  have Cn:b≠f:=λz=>absurd (zzO e) (by rw [z];exact Nat.not_lt.mpr hf)
  have Jl:b≠P:=λz=>by subst z;rw [hP] at n;cases n
  have pE:b≠c':=λz=>by
   rcases hc with⟨_,y⟩|y
   ·exact absurd (zzO e) (by rw [z];exact Nat.not_lt.mpr y)
   ·rw [z,y] at n;cases n
  unfold fX;rw [af Cn,af pE,af Jl];exact n
 have kp:∀b o,s.heap.get? b=some o->H b=none->h'.get? b=some o:=λb o e n=>hx b o (λz=>by subst z;rw [hP] at n;cases n) e
 refine I.un ⟨λb o e n _ _=>kp b o e n,λb o e n _ _=>⟨o.slots,kp b o e n⟩,λb o e n _=>no b o e n,λb o e _=>?_,λb xs e=>at_ b _ e (λ_ z=>nomatch z),λb o u e=>at_ b _ e (λ_ z=>nomatch z),λb qs e=>?_⟩ λb u e=>?_
 ·by_cases hb:b=P
  ·exact⟨_,by rw [hb];exact KD⟩
  ·exact⟨o,hx b o hb e⟩
 ·by_cases hb:b=P
  ·subst hb;rw [hP] at e;cases e;obtain⟨m,rfl⟩:=more
   exact⟨m,by unfold fX;rw [af (Ne.symm fP),af (Ne.symm cP),ak]⟩
  ·have pE:b≠c':=λz=>by
    subst z;rcases hc with⟨y,_⟩|y
    ·rw [y] at e;cases e
    ·rw [y] at e;cases e
   exact⟨#[],by unfold fX;rw [af (nf b _ e),af pE,af hb,e];simp⟩
 ·unfold fX at e
  by_cases h1:b=f
  ·subst h1;rw [ak] at e;cases e;exact km Rh
  ·rw [af h1] at e
   by_cases h2:b=c'
   ·subst h2;rw [ak] at e;cases e;exact km Q9
   ·rw [af h2] at e
    by_cases h3:b=P
    ·subst h3;rw [ak] at e;cases e;exact KD
    ·rw [af h3] at e;refine(I.aN b u e).eR (λd v hd q=>hx d v ?_ q) (λd q=>at_ d _ q (λ_ z=>nomatch z)) λd xs q=>at_ d _ q (λ_ z=>nomatch z)
     rcases hd with hd|hd
     ·rw [hd];exact h3
     ·exact nP d _ hd (λ_ z=>nomatch z)
def zr{R:Addr->Obj->Prop}{params:Arguments}{body:Expr}{scope:Scope}{pos:Pos}{cl:List (Str×Addr)}{Q:Value->Shared->Prop}{E:Value->Shared->Prop}(I:Inv X aa σ H s)(hP:H P=some (.fG ps))(ht:TriplesOk ps.toList)(uC:X.env.code=.ref c)(C:PySem.W.CodeHd X.base c P)
 (Q5:xR X.mg X.base) (A6:closureFor scope X.env=pure cl) (GH:defaultsOf params X.env=([],[]))
 (hit:∀cv,codeAmong pos ps.toList=some cv->∃c' oc cF t,cv=.ref c'/\H c'=some (.bq oc bz)/\R c' oc/\oc.data=.fields cF/\cF[1]?=some (.str (X.env.qual++"<lambda>") t))
 (h:∀(f c':Addr) (oc:Obj) (cF:Array Value) (t:Tok) (dX:Value) (qQ:Array Value) (h':Heap) (tk:Nat),H f=none->(H c'=none\/H c'=some (.bq oc bz)/\R c' oc)->c'≠f->f≠P->c'≠P->oc.data=.fields cF->cF[1]?=some (.str (X.env.qual++"<lambda>") t)->TriplesOk qQ.toList->
  (∀p cv,codeAmong p qQ.toList=some cv->codeAmong p ps.toList=some cv\/cv=.ref c')->(∃m,qQ=ps++m)->
  Inv X aa σ (fX H P qQ c' oc f (PySem.W.kla_obj "<lambda>" (X.env.qual++"<lambda>") params body scope cl ((X.mg "__name__").getD .none) c' dX)) {s with heap:=h',toks:=tk}->Q (.ref f) {s with heap:=h',toks:=tk}):
 wpAny (model X.prog X.w) X.A (eval (.Lambda params body scope pos) X.env) Q E s:=by
 have Nf:s.heap.get? P=some (PySem.W.tabObj ps):=I.aN P _ hP
 have hg:=I.ok.mod.glob.keeps I.bk
 have Rj:mainGlobals≠P:=λq=>by
  obtain⟨o,es,ep,e,_⟩:=I.ok.mod.glob
  have:=(I.bs _ _ e).2
  rw [q,hP] at this;cases this
 obtain⟨bm,ob,b1,b2,b3,b4,b5,b6,b7⟩:=Q5
 have hB:s.heap.BuiltinsAt X.mg P:=⟨bm,ob,b1,b2,b3,(λq=>by
  have:=(I.bs _ _ b4).2
  rw [q,hP] at this;cases this),I.bk _ _ b4,b5,b6,b7⟩
 refine PySem.W.kla_eval GH ?_;cases hm:codeAmong pos ps.toList with
 |none=>
  refine PySem.W.kla_makeFunction (mg:=X.mg) A6 I.ok.glob hg uC (C.keeps I.bk) Nf ht hm Rj hB λc' dX h' tk hx GL cm Ny RA=>?_
  obtain⟨c₂,oc,vs,t,e2,hoc,hd,hv⟩:=Ny
  cases e2;have wG:H c'=none:=I.aN.fresh GL
  have hsz:(zz9 s)<=h'.objs.size:=zzU GL (Nat.le_of_lt cm)
  have kQ:H h'.objs.size=none:=I.aN.fresh hsz
  refine h h'.objs.size c' oc vs t dX _ _ tk kQ (.inl wG) (zzb cm) (λz=>by rw [z,hP] at kQ;cases kQ) (λz=>by rw [z,hP] at wG;cases wG) hd hv ?_ ?_ ⟨_,rfl⟩
   (I.lam hP (λb o hb e=>zzB _ (hx b o hb e)) (zzB _ RA) ⟨_,rfl⟩ (.inl ⟨wG,GL⟩) (zzB _ hoc) hsz (zzX _ rfl) (zzb cm))
  ·rw [Array.toList_append];exact TriplesOk_snoc _ _ _ _ ht
  ·intro p cv e;rw [Array.toList_append] at e;exact rK _ ht e
 |some cv=>
  obtain⟨c',oc,cF,t,rfl,fI,hR,hd,hv⟩:=hit cv hm
  refine PySem.W.kla_makeFunctionHit (mg:=X.mg) A6 I.ok.glob hg uC (C.keeps I.bk) Nf ht hm hB λdX h' tk hk hsz=>?_
  have kQ:H h'.objs.size=none:=I.aN.fresh hsz
  have xN:s.heap.get? c'=some oc:=(I.aN c' _ fI).1
  have A5:c'≠h'.objs.size:=λz=>by rw [z,kQ] at fI;cases fI
  refine h h'.objs.size c' oc cF t dX ps _ tk kQ (.inr ⟨fI,hR⟩) A5 (λz=>by rw [z,hP] at kQ;cases kQ) (λz=>by rw [z,hP] at fI;cases fI) hd hv ht (λp cv e=>.inl e) ⟨#[],by simp⟩
   (I.lam hP (λb o hb e=>zzB _ (hk b o e)) (zzB _ (hk _ _ Nf)) ⟨#[],by simp⟩ (.inr fI) (zzB _ (hk _ _ xN)) hsz (zzX _ rfl) A5)
end
structure xY(H Hw:Hp)(d:Addr)(o:Obj)(av:List (List bg×V)):Prop where
 at_:Hw d=some (.bq o (.dT av))
 dt:H d=some (.dT av)
 same:∀b u,H b=some u->b≠d->Hw b=some u
 new:∀b u,Hw b=some u->H b=none->∃ob,u=.bq ob bz
section
variable{P:Program}{w:World}{H Hw:Hp}{d:Addr}{o:Obj}{av:List (List bg×V)}{fs:List Addr}{h h':Heap}
def xY.back(z:xY H Hw d o av)(u:Un fs [] Hw Hw h h')(k:dQ P w Hw h)(k':dQ P w Hw h'):Un fs [] H H h h'/\dQ P w H h'/\h'.get? d=some o:=by
 have fz:∀b ob,Hw b=some (.bq ob bz)->∀o,h.get? b=some o->h'.get? b=some o:=λb ob e o q=>by
  have h1:h.get? b=some ob:=(k b _ e).1
  have h2:h'.get? b=some ob:=(k' b _ e).1
  rw [h1] at q;cases q;exact h2
 have st:∀c v,Hw c=some v->(∀ob u,v≠.bq ob u)->H c=some v:=λc v e n=>by
  cases q:H c with
  |none=>obtain⟨ob,rfl⟩:=z.new c v e q;exact absurd rfl (n ob _)
  |some u=>
   by_cases hc:c=d
   ·subst hc;rw [z.at_] at e;cases e;exact absurd rfl (n _ _)
   ·rw [z.same c u q hc] at e;exact e
 refine⟨⟨λb ob e n hb hx=>?_,λb ob e n hb hx=>?_,λb ob e n hx=>n,λb ob e hx=>u.there b ob e hx,λ_ _ e=>e,λ_ _ _ e=>e,λb ps e=>⟨#[],by simpa using e⟩⟩,λb v e=>?_,(k' d _ z.at_).1⟩
 ·cases q:Hw b with
  |none=>exact u.keep b ob e q hb hx
  |some v=>obtain⟨o',rfl⟩:=z.new b v q n;exact fz b o' q ob e
 ·cases q:Hw b with
  |none=>exact u.slot b ob e q hb hx
  |some v=>obtain⟨o',rfl⟩:=z.new b v q n;exact⟨ob.slots,fz b o' q ob e⟩
 ·have go:∀v,bK P w Hw h' b v->bK P w H h' b v:=λv y=>y.eR (λ_ _ _ r=>r) (λc r=>st c _ r (λ_ _ z=>nomatch z)) λc xs r=>st c _ r (λ_ _ z=>nomatch z)
  by_cases hb:b=d
  ·subst hb;rw [z.dt] at e;cases e;exact go _ (k' b _ z.at_).2
  ·exact go v (k' b v (z.same b v e hb))
end
structure iV(p y:Str)(params:Arguments)(body:Expr)(scope:Scope):Prop where
 body:∃q1 q2 q3 q4 q5 j,body=.Subscript (.Subscript (.Name y q1) (.Name p q2) q3) (.Constant (.int 0) j q4) q5
 sc:kf [p] [y] scope
 d1:(p==("__debug__":Str))=false
 d2:(p==("__classdict__":Str))=false
 d3:(y==("__debug__":Str))=false
 d4:(y==("__classdict__":Str))=false
section
variable{X:Cx}{aa:List (Addr×Obj)}{σ:St}{H:Hp}{s:Shared}{d f c c' b:Addr}{o oc:Obj}{av:List (List bg×V)}{kk:Nat}{p y qual:Str}{params:Arguments}{body:Expr}{scope:Scope}{pm dX:Value}{cF:Array Value}{ct:Tok}{k:List bg}{q:Addr}{n:Int}{r:List V}{A:Around}{E:Value->Shared->Prop}
def ze(hA:A=X.A.in1)(L:iV p y params body scope)(hr:dc (kk+1) X.A)(I:Inv X aa σ H s)(hd:H d=some (.dT av))(ho:s.heap.get? d=some o)
 (bS:X.env.cells.lookup y=some c) (xM:X.s₀.heap.objs.size<=c) (Nm:s.heap.IsCell c (some (.ref d)))
 (hf:H f=some (.bq (PySem.W.kla_obj "<lambda>" qual params body scope [(y,c)] pm c' dX) bz)) (fI:H c'=some (.bq oc bz)) (mY:oc.data=.fields cF) (wG:cF[1]?=some (.str qual ct))
 (hb:∀u,bindArgs (PySem.W.kla_fn "<lambda>" qual params body scope [(y,c)] pm (.ref c') dX) ⟨[u],[]⟩=pure ([p].zip [u]))
 (Cq:cg H b k) (hv:fH av k=some (.ref q)) (hq:eU X.K H q (.int n::r)):
 wpAny (model X.prog X.w) A (call (.ref f) [.ref b]) (λu s'=>(∃t,u=.int n t)/\Inv X aa σ H s'/\s'.heap.get? d=some o) E s:=by
 subst hA;obtain⟨q1,q2,q3,q4,q5,j,rfl⟩:=L.body
 obtain⟨ocell,g1,g2⟩:=id Nm
 have rZ:H c=none:=I.fT y c bS
 obtain⟨z0,lo,xs,rel,o',es,ep,h1,h2,h3,h4,h5⟩:=(show bK X.prog X.w H s.heap d (.dT av) from I.aN d _ hd)
 rw [ho] at h1;cases h1;have If:Inv X aa σ (upd H d (.bq o (.dT av))) s:=by
  refine iw (h':=s.heap) (t':=s.toks) I (by rw [hd];exact True.intro) ⟨rfl,λ_ _=>rfl⟩ ⟨o,ho⟩ ⟨ho,z0,lo,xs,?_,o,es,ep,ho,h2,h3,h4,h5⟩
  exact KT.keeps (H:=H) rel λc ys ec=>by rw [af (iM ec hd (λz=>nomatch z))];exact ec
 have RH:c≠d:=λz=>by rw [z,hd] at rZ;cases rZ
 have RI:f≠d:=iM hf hd (λz=>nomatch z)
 have NX:c'≠d:=iM fI hd (λz=>nomatch z)
 have xH:pK [(c,ocell)] (upd H d (.bq o (.dT av))) (eA X.stack) s.heap:=by
  have lk:∀b o,List.lookup b [(c,ocell)]=some o->b=c/\o=ocell:=λb o e=>by
   rw [zz5] at e;cases pE:b==c with
   |true=>rw [pE] at e;cases e;exact⟨zzy.mp pE,rfl⟩
   |false=>rw [pE] at e;cases e
  refine⟨λb o e=>?_,λb o e=>?_,λb o e=>?_⟩
  ·obtain⟨rfl,rfl⟩:=lk b o e;exact g1
  ·obtain⟨rfl,rfl⟩:=lk b o e;rw [af RH];exact rZ
  ·obtain⟨rfl,rfl⟩:=lk b o e
   intro Kt;rcases zzm.mp (I.gj b Kt) with z|z
   ·exact I.A2 y b bS z
   ·obtain⟨_,o',h4,_⟩:=I.ok.fB.mem z
    exact absurd (zzO h4) (Nat.not_lt.mpr xM)
 have zc:List.lookup c [(c,ocell)]=some ocell:=by simp
 have Eb:∀x c1,List.lookup x [(y,c)]=some c1->x=y/\c1=c:=λx c1 e=>by
  rw [zz5] at e;cases hx:x==y with
  |true=>rw [hx] at e;cases e;exact⟨zzy.mp hx,rfl⟩
  |false=>rw [hx] at e;cases e
 have zb:∀b o,List.lookup b [(c,ocell)]=some o->X.base.get? b=none:=λb o e=>by
  rw [zz5] at e;cases pE:b==c with
  |true=>
   have:=zzy.mp pE;subst this
   cases y':X.base.get? b with
   |none=>rfl
   |some o'=>exact absurd (zzO (I.ok.bs b o' y').1) (Nat.not_lt.mpr xM)
  |false=>rw [pE] at e;cases e
 have Rv:eU X.K (upd H d (.bq o (.dT av))) q (.int n::r):=eU.lY hq (λb hb=>af hb) hd
 have Rm:cg (upd H d (.bq o (.dT av))) b k:=Cq.keeps λb xs z=>(af (iM z hd (λy=>nomatch y))).trans z
 have wd:xY H (aH [(c,ocell)] (upd H d (.bq o (.dT av)))) d o av:=by
  have nz:∀b u,H b=some u->List.lookup b [(c,ocell)]=none:=λb u e=>by
   rw [zz5];cases pE:b==c with
   |true=>have:=zzy.mp pE;subst this;rw [rZ] at e;cases e
   |false=>rfl
  refine⟨by rw [ag (nz d _ hd),ak],hd,λb u e hb=>by rw [ag (nz b u e),af hb];exact e,λb u e n=>?_⟩
  cases hz:List.lookup b [(c,ocell)] with
  |some ob=>rw [aX hz] at e;cases e;exact⟨_,rfl⟩
  |none=>
   rw [ag hz] at e;have Q4:b≠d:=λz=>by rw [z,hd] at n;cases n
   rw [af Q4,n] at e;cases e
 refine wpAny_call (codeAny_mono (oF (k:=kk) (E:=λ_ _ _=>False) (Q:=λv H'=>v=.int n/\H'=aH [(c,ocell)] (upd H d (.bq o (.dT av)))) (Z:=[(c,ocell)]) (ws:=[.ref d]) (vs:=[.ref b]) (us:=[.ref b])
  (t:=IJ (Ig X.K) (vw (pj 1) (pj 0)) (tC (.int 0))) L.sc hr.in1 If.rT.in1 xH zb ?fo ?co mY wG (hb _) (.cons rfl .nil) rfl rfl ?EF ?inj ?cz ?cells ?ht ?hq) λrr s' GP=>?_)
 case fo=>
  have z:upd H d (.bq o (.dT av)) f=H f:=af RI
  exact(If.aN f _ (z.trans hf)).1
 case co=>
  have z:upd H d (.bq o (.dT av)) c'=some (.bq oc bz):=by rw [af NX];exact fI
  exact(If.aN c' _ z).1
 case EF=>intro y' hy';exact⟨c,by rw [zzi.mp hy'];simp⟩
 case inj=>intro x y' c1 e1 e2;rw [(Eb x c1 e1).1,(Eb y' c1 e2).1]
 case cz=>intro x c1 e;obtain⟨rfl,rfl⟩:=Eb x c1 e;exact⟨ocell,_,zc,g2⟩
 case cells=>
  intro i y' c1 e1 e2 v e3;obtain⟨rfl,rfl⟩:=Eb y' c1 e2
  cases i with
  |zero=>cases e3;exact⟨.ref d,rfl,ocell,g1,g2⟩
  |succ i=>cases e3
 case ht=>
  refine Ac sk (oQ ?_ (dm (i:=1) rfl (.inr (.inr (L.sc.Kb y (by simp)))) L.d3 L.d4) (dm (i:=0) rfl (.inl (L.sc.par p (by simp))) L.d1 L.d2) λ_ _=>rfl) lE λ_ _=>rfl
  have:=hr.un
  show X.A.units+1+3+3<cLine
  omega
 case hq=>
  refine⟨_,rfl,_,rfl,d,.ref q,rfl,?_,?_⟩
  ·exact .inr ⟨av,k,b,.inr ⟨o,ak⟩,rfl,Rm,hv.symm⟩
  ·exact⟨q,.int n::r,0,.int n,rfl,rfl,Rv,by simp [pC,CF],λ_=>⟨rfl,rfl⟩⟩
 ·cases rr with
  |error e=>
   obtain⟨a,C,t,vs,H',B,e1,F⟩:=GP
   exact(F.ends).elim
  |ok fl=>
   cases fl with
   |ret u=>
    obtain⟨v,H',os,bare,un,aN,rv,rfl,rfl⟩:=GP
    obtain⟨t,rfl⟩:=rv
    obtain⟨u1,k1,JK⟩:=wd.back un (xH.aN If.aN) aN
    obtain⟨hh,g,dr,tk,os'⟩:=s'
    obtain rfl:os'=s.os:=os
    exact⟨⟨t,rfl⟩,I.call (h':=hh) (g':=g) (d':=dr) (t':=tk) (ch:=[]) u1 k1 bare (λb z=>absurd z (by simp)),JK⟩
   |_=>exact GP.elim
end
structure KM(X:Cx)(σ:St)(H:Hp)(kk:Nat)(d f:Addr)(av:List (List bg×V))(cf:Nat->Int):Prop where
 room:dc (kk+1) X.A
 hd:X.A.handled=none
 dt:H d=some (.dT av)
 lam:∃(p y:Str) (params:Arguments) (body:Expr) (scope:Scope) (qual:Str) (c c':Addr) (oc:Obj) (cF:Array Value) (ct:Tok) (pm dX:Value) (iy:Nat),iV p y params body scope/\X.env.cells.lookup y=some c/\X.s₀.heap.objs.size<=c/\H f=some (.bq (PySem.W.kla_obj "<lambda>" qual params body scope [(y,c)] pm c' dX) bz)/\
  H c'=some (.bq oc bz)/\oc.data=.fields cF/\cF[1]?=some (.str qual ct)/\(∀u,bindArgs (PySem.W.kla_fn "<lambda>" qual params body scope [(y,c)] pm (.ref c') dX) ⟨[u],[]⟩=pure ([p].zip [u]))/\
  X.N[iy]?=some y/\σ[iy]?=some (some (V.ref d))/\X.env.scope.names.lookup y=some .cell
 cost:∀(i:Nat) k v,av[i]?=some (k,v)->∃q r,v=V.ref q/\eU X.K H q (.int (cf i)::r)
def D8{av:List (List bg×V)}:∀{i:Nat} {k:List bg} {v:V},(av.map (·.1)).Nodup->av[i]?=some (k,v)->fH av k=some v:=by
 induction av with
 |nil=>intro i k v _ h;simp at h
 |cons x r ih=>
  intro i k v nd h;rw [zzF,List.nodup_cons] at nd;cases i with
  |zero=>simp at h;subst h;exact gy rfl
  |succ i=>
   simp at h;rw [gu λe=>nd.1 (e▸zzx.mpr ⟨(k,v),zzD h,rfl⟩)]
   exact ih nd.2 h
section
variable{X:Cx}{aa:List (Addr×Obj)}{σ:St}{H:Hp}{s:Shared}{d f it S:Addr}{o:Obj}{es:Array DictEntry}{ep:Nat}{av:List (List bg×V)}{kk:Nat}{cf:Nat->Int}{R:Result->Shared->Prop}
def BY(I:Inv X aa σ H s)(e:H d=some (.dT av)):(d==sysModules)=false/\(av.map (·.1)).Nodup/\∃o es ep,s.heap.get? d=some o/\o.ExactDict/\o.data=.dict es ep/\es.size=av.length/\∀(i:Nat) (h:i<es.size),∃b k v,es[i].key=.ref b/\av[i]?=some (k,v)/\cg H b k:=by
 obtain⟨lo,nd,o,es,ep,h1,h2,h3,hl,hk⟩:=Ew (I.aN d _ e)
 exact⟨lo,nd,o,es,ep,h1,h2,h3,hl,λi hi=>let⟨b,k,v,e1,e2,e3,_⟩:=hk i hi;⟨b,k,v,e1,e2,e3⟩⟩
def dN.pin{b:Addr}{ob:Obj}(h:dN X aa H b)(e:s.heap.get? b=some ob)(n:∀v,ob.data≠.cell v):s.heap.get? b=some ob/\H b=none/\b≠X.env.locals/\b∉X.fs/\∀v,ob.data≠.cell v:=⟨e,h.1,h.2.1,h.2.2.1,n⟩
def zj(M:KM X σ H kk d f av cf)(I:Inv X aa σ H s)(fi:dN X aa H it)(fS:dN X aa H S)(ho:s.heap.get? d=some o){oi oS:Obj}(hi:s.heap.get? it=some oi)(ci:∀v,oi.data≠.cell v)(hS:s.heap.get? S=some oS)(cS:∀v,oS.data≠.cell v)
 (nd:(av.map (·.1)).Nodup) {i:Nat} {k:List bg} {v:V} {b:Addr} (hk:av[i]?=some (k,v)) (hb:cg H b k) {E:Value->Shared->Prop} {Q:Value->Shared->Prop}
 (h:∀t s',Inv X aa σ H s'->s'.heap.get? d=some o->s'.heap.get? it=some oi->s'.heap.get? S=some oS->Q (.int (cf i) t) s'):wpAny (model X.prog X.w) X.A.in1 (call (.ref f) [.ref b]) Q E s:=by
 obtain⟨p,y,params,body,scope,qual,c,c',oc,cF,ct,pm,dX,iy,L,l1,l2,l3,l4,l5,l6,l7,l8,l9,KU⟩:=M.lam
 obtain⟨q,r,rfl,hq⟩:=M.cost i k v hk
 have I1:Inv X ((it,oi)::(S,oS)::aa) σ H s:=by
  refine I.eG λp hp=>?_
  rcases zzm.mp hp with rfl|hp
  ·exact fi.pin hi ci
  ·rcases zzm.mp hp with rfl|hp
   ·exact fS.pin hS cS
   ·exact I.pin p (zzR _ hp)
 have cell:s.heap.IsCell c (some (.ref d)):=by
  obtain⟨m,_,hloc⟩:=I.loc
  obtain⟨u,ru,lk⟩:=hloc iy y (.ref d) l8 l9 (.inr (.inl KU))
  cases(show u=Value.ref d from ru);rcases lk with⟨z,_⟩|⟨_,c2,hc2,z⟩
  ·have z2:X.env.scope.names.lookup y=some .local:=z
   rw [KU] at z2;cases z2
  ·rw [l1] at hc2;cases hc2;exact z
 refine wpAny_mono (ze (kk:=kk) rfl L M.room I1 M.dt ho l1 l2 cell l3 l4 l5 l6 l7 hb (D8 nd hk) hq) (λu s' hu=>?_) λ_ _ z=>z
 obtain⟨⟨t,rfl⟩,J,hd⟩:=hu
 refine h t s' (J.eG λp hp=>J.pin p (zzR _ (.tail _ (.tail _ hp)))) hd (J.pin (it,oi) (zzR _ (.head _))).1 (J.pin (S,oS) (zzR _ (.tail _ (.head _)))).1
def j5{h:Heap}{c:Nat}{xs ys:Array Value}(e:h.get? S=some (seqObj "list" xs c)):∃c',(h.update S (Obj.mapSeq λ_=>ys)).get? S=some (seqObj "list" ys c'):=⟨_,get?_update_seq e λ_=>ys⟩
def fk{xs:Array Value}{c:Nat}:∀v,(seqObj "list" xs c).data≠.cell v:=λv z=>nomatch z
def zE(M:KM X σ H kk d f av cf)(hh:X.A.handled=none)(hd:o.data=.dict es ep)(hl:es.size=av.length)(Cr:∀(i:Nat) (h:i<es.size),∃b k v,es[i].key=.ref b/\av[i]?=some (k,v)/\cg H b k)(nd:(av.map (·.1)).Nodup)
 (fi:dN X aa H it) (fS:dN X aa H S) (nS:S≠it) (hR:∀(i:Nat) (h:i<es.size) s',(∀j,j<es.size->cf i<=cf j/\(j<i->cf i<cf j))->Inv X aa σ H s'->R (.ok (.ret es[i].key)) s'):
 ∀(r j i:Nat) (s:Shared) (t:Tok) (c:Nat) (hi:i<es.size),es.size-(j+1)=r->j+1<=es.size->Inv X aa σ H s->s.heap.get? d=some o->s.heap.IsKeyIter it d (j+1) es.size ep->s.heap.get? S=some (seqObj "list" #[es[i].key,.int (cf i) t] c)->i<=j->(∀j',j'<=j->cf i<=cf j'/\(j'<i->cf i<cf j'))->
  codeAny (model X.prog X.w) X.A (.builtin "min.loop" ⟨[.ref it,.ref f,.ref S],[]⟩) R s:=by
 have name:(toString "min"++toString ".loop":String)="min.loop":=by decide
 have NY:S≠d:=λz=>by have:=fS.1;rw [z,M.dt] at this;cases this
 have NZ:it≠d:=λz=>by have:=fi.1;rw [z,M.dt] at this;cases this
 intro r
 induction r with
 |zero=>
  intro j i s t c hi hr hj I ho st hS hij best;refine codeAny_builtin PySem.F.entry_min_loop ?_;rw [zz7 PySem.F.plain_min_loop _];show wpAny _ X.A.in1 (seqItems? (.ref S)>>=λz=>_) _ _ _
  refine zzA (wpAny_seqItems hS rfl ?_);show wpAny _ X.A.in1 (tryCatch (pyNext (.ref it)) _>>=λz=>_) _ _ _
  refine zzA (wpAny_tryCatch (yP hh st ho hd (by omega) λh' eb=>?_))
  have wD:=eb S _ nS hS
  have I1:=I.turned (h':=h') (t':=s.toks) (λb o hb e=>eb b o hb e) fi.1 fi.2.1 fi.2.2.2.1 fi.2.2.2.2.1 fi.2.2.2.2.2
  show wpAny _ X.A.in1 (updateSeq S (λ_=>#[])>>=λz=>_) _ _ _
  refine zzA (wpAny_updateSeq wD rfl (zzA (wpAny_letGo (zzG ?_))));have s1:=zzu h' S (Obj.mapSeq λ_=>(#[]:Array Value))
  exact hR i hi _ (λj' GN=>best j' (by omega)) (I1.turned (t':=s.toks) (λb o hb e=>(s1.2 b hb).trans e) fS.1 fS.2.1 fS.2.2.2.1 fS.2.2.2.2.1 fS.2.2.2.2.2)
 |succ r ih=>
  intro j i s t c hi hr hj I ho st hS hij best;have cm:j+1<es.size:=by omega
  refine codeAny_builtin PySem.F.entry_min_loop ?_;rw [zz7 PySem.F.plain_min_loop _];show wpAny _ X.A.in1 (seqItems? (.ref S)>>=λz=>_) _ _ _
  refine zzA (wpAny_seqItems hS rfl ?_);show wpAny _ X.A.in1 (tryCatch (pyNext (.ref it)) _>>=λz=>_) _ _ _
  refine zzA (wpAny_tryCatch (oy st ho hd cm λh' j6 sb=>?_));have wD:=(sb.2 S nS).trans hS
  have eC:=(sb.2 d (Ne.symm NZ)).trans ho
  have I1:=I.turned (h':=h') (t':=s.toks) (λb o hb e=>(sb.2 b hb).trans e) fi.1 fi.2.1 fi.2.2.2.1 fi.2.2.2.2.1 fi.2.2.2.2.2
  obtain⟨oi,gi,gc,gd⟩:=id j6
  obtain⟨b,k,v,e1,e2,e3⟩:=Cr (j+1) cm
  rw [e1];show wpAny _ X.A.in1 (tryCatch (holding [Value.ref b] (call (.ref f) [Value.ref b])) _>>=λz=>_) _ _ _
  refine zzA (wpAny_tryCatch (wpAny_holding (zj M I1 fi fS eC gi (λv z=>by rw [gd] at z;cases z) wD fk nd e2 e3 λt2 s2 I2 Me A7 wF=>?_)))
  have Lw:s2.heap.IsKeyIter it d (j+1+1) es.size ep:=⟨oi,A7,gc,gd⟩
  show wpAny _ X.A.in1 (tryCatch (holding [Value.ref b,.int (cf (j+1)) t2] (richCompare .Lt (.int (cf (j+1)) t2) (.int (cf i) t)>>=λz=>_)) _>>=λz=>_) _ _ _
  refine zzA (wpAny_tryCatch (wpAny_holding (zzA (CmpOf.ints_lt (prog:=X.prog) (w:=X.w) (A:=X.A.in1) (P:=λi v=>∃t,v=.int (cf i) t) cf (λi v h=>h) (j+1) i _ _ _ _ _ ⟨t2,rfl⟩ ⟨t,rfl⟩ ?_))))
  refine zzA (wpAny_holding (wpAny_truthy_bool (zzA (wpAny_letGo (zzG ?_)))))
  by_cases j1:cf (j+1)<cf i
  ·obtain⟨c2,hc2⟩:=j5 (ys:=#[Value.ref b,.int (cf (j+1)) t2]) wF
   have s1:=zzu s2.heap S (Obj.mapSeq λ_=>#[Value.ref b,.int (cf (j+1)) t2])
   simp! [j1,decide_true,if_true];refine zzA (wpAny_updateSeq wF rfl (zzA (wpAny_letGo ?_)));rw [name];rw [<-e1] at hc2 s1⊢;refine zzG ⟨plainId_quiet PySem.F.plain_min_loop _,ih (j+1) (j+1) _ t2 c2 cm (by omega) cm (I2.turned (t':=s2.toks) (λb o hb e=>(s1.2 b hb).trans e) fS.1 fS.2.1 fS.2.2.2.1 fS.2.2.2.2.1 fS.2.2.2.2.2) ?_ ?_ ?_ (zzE _) λj' GN=>?_⟩
   ·exact(s1.2 d (Ne.symm NY)).trans Me
   ·exact⟨oi,(s1.2 it (Ne.symm nS)).trans A7,gc,gd⟩
   ·exact hc2
   ·by_cases e:j'=j+1
    ·subst e;exact⟨by omega,λ_=>by omega⟩
    ·have:=best j' (by omega)
     exact⟨by omega,λ_=>by omega⟩
  ·simp! [j1,decide_false,zze,if_false];refine zzA (wpAny_letGo ?_);rw [name];refine zzG ⟨plainId_quiet PySem.F.plain_min_loop _,ih (j+1) i _ t c hi (by omega) cm I2 Me Lw wF (by omega) λj' GN=>?_⟩
   by_cases e:j'=j+1
   ·subst e;exact⟨by omega,λ_=>by omega⟩
   ·exact best j' (by omega)
def vS(M:KM X σ H kk d f av cf)(j2:0<av.length)(I:Inv X aa σ H s){Q:VK}
 (q:∀i k v b,av[i]?=some (k,v)->cg H b k->(∀j,j<av.length->cf i<=cf j/\(j<i->cf i<cf j))->Q (.ref b) H):wpAny (model X.prog X.w) X.A (call (.builtin "min") [.ref d] [(Str.ofString "key",.ref f)]) (EP X aa σ Q) X.xe s:=by
 have name:(toString "min"++toString ".loop":String)="min.loop":=by decide
 have hh:X.A.handled=none:=M.hd
 obtain⟨lo,nd,o,es,ep,ho,hx,hd,hl,Cr⟩:=BY I M.dt
 have fin:∀(i:Nat) (h:i<es.size) s',(∀j,j<es.size->cf i<=cf j/\(j<i->cf i<cf j))->Inv X aa σ H s'->EP X aa σ Q es[i].key s':=λi h s' b J=>by
  obtain⟨a,k,v,e1,e2,e3⟩:=Cr i h
  rw [e1];exact⟨.ref a,H,J,rfl,q i k v a e2 e3 λj hj=>b j (by omega)⟩
 refine kmk_tree PySem.F.kind_min PySem.F.plain_min PySem.F.entry_min (kmk_min_key _ _) ?_;show wpAny _ X.A.in1 (Builtin.Builtins.bindParams "min" ["key","default"] 0 ⟨[],[(Str.ofString "key",.ref f)]⟩>>=λz=>_) _ _ s
 refine zzA (wpAny_of_eq (show Builtin.Builtins.bindParams "min" ["key","default"] 0 ⟨[],[(Str.ofString "key",.ref f)]⟩=pure [some (.ref f),none] from rfl) (zzA (zzG ?_)));refine zzA (uD lo ho hx hd (zzA (wpAny_newList ?_ (Nat.zero_le _))));rw [name];generalize hit:(zz9 s)=it
 generalize hSS:(s.heap.push {cls:=.type "dict_keyiterator",data:=.fields #[.ref d,.int 0 0,.int es.size 0,.int ep 0]}).objs.size=S
 have eS:S=it+1:=by rw [<-hSS,<-hit];exact size_push' ..
 have nS:S≠it:=by omega
 have hH:(zz9 s)<=S:=by omega
 have fi:dN X aa H it:=by rw [<-hit];exact I.js (zzE _) (I.aN.fresh (zzE _))
 have fS:dN X aa H S:=I.js hH (I.aN.fresh hH)
 have keep:∀b ob,s.heap.get? b=some ob->((s.heap.push {cls:=.type "dict_keyiterator",data:=.fields #[.ref d,.int 0 0,.int es.size 0,.int ep 0]}).push (seqObj "list" #[] 0)).get? b=some ob:=λb ob e=>zzB _ (zzB _ e)
 have I1:=I.kept (t':=s.toks) keep
 have gI:((s.heap.push {cls:=.type "dict_keyiterator",data:=.fields #[.ref d,.int 0 0,.int es.size 0,.int ep 0]}).push (seqObj "list" #[] 0)).get? it=some {cls:=.type "dict_keyiterator",data:=.fields #[.ref d,.int 0 0,.int es.size 0,.int ep 0]}:=by
  rw [<-hit];exact zzB _ (zzX _ rfl)
 have gS:((s.heap.push {cls:=.type "dict_keyiterator",data:=.fields #[.ref d,.int 0 0,.int es.size 0,.int ep 0]}).push (seqObj "list" #[] 0)).get? S=some (seqObj "list" #[] 0):=by
  rw [<-hSS];exact zzX _ rfl
 have NY:S≠d:=λz=>by have:=fS.1;rw [z,M.dt] at this;cases this
 have NZ:it≠d:=λz=>by have:=fi.1;rw [z,M.dt] at this;cases this
 refine zzG ⟨plainId_quiet PySem.F.plain_min_loop _,codeAny_builtin PySem.F.entry_min_loop ?_⟩;rw [zz7 PySem.F.plain_min_loop _];show wpAny _ X.A.in1 (seqItems? (.ref S)>>=λz=>_) _ _ _
 refine zzA (wpAny_seqItems gS rfl ?_);show wpAny _ X.A.in1 (tryCatch (pyNext (.ref it)) _>>=λz=>_) _ _ _
 have h0:0<es.size:=by omega
 refine zzA (wpAny_tryCatch (oy (i:=0) ⟨_,gI,rfl,rfl⟩ (keep _ _ ho) hd h0 λh' j6 sb=>?_))
 have wD:=(sb.2 S nS).trans gS
 have eC:=(sb.2 d (Ne.symm NZ)).trans (keep _ _ ho)
 have I2:=I1.turned (h':=h') (t':=s.toks) (λb o hb e=>(sb.2 b hb).trans e) fi.1 fi.2.1 fi.2.2.2.1 fi.2.2.2.2.1 fi.2.2.2.2.2
 obtain⟨oi,gi,gc,gd⟩:=id j6
 obtain⟨b,k,v,e1,e2,e3⟩:=Cr 0 h0
 rw [e1];show wpAny _ X.A.in1 (tryCatch (holding [Value.ref b] (call (.ref f) [Value.ref b])) _>>=λz=>_) _ _ _
 refine zzA (wpAny_tryCatch (wpAny_holding (zj M I2 fi fS eC gi (λv z=>by rw [gd] at z;cases z) wD fk nd e2 e3 λt2 s2 I3 Me A7 wF=>?_)))
 obtain⟨c2,hc2⟩:=j5 (ys:=#[Value.ref b,.int (cf 0) t2]) wF
 have s1:=zzu s2.heap S (Obj.mapSeq λ_=>#[Value.ref b,.int (cf 0) t2])
 show wpAny _ X.A.in1 (updateSeq S (λ_=>#[Value.ref b,.int (cf 0) t2])>>=λz=>_) _ _ _
 refine zzA (wpAny_updateSeq wF rfl ?_);rw [name];rw [<-e1] at hc2 s1⊢;refine zzG ⟨plainId_quiet PySem.F.plain_min_loop _,zE M hh hd hl Cr nd fi fS nS fin _ 0 0 _ t2 c2 h0 rfl h0 (I3.turned (t':=s2.toks) (λb o hb e=>(s1.2 b hb).trans e) fS.1 fS.2.1 fS.2.2.2.1 fS.2.2.2.2.1 fS.2.2.2.2.2) ((s1.2 d (Ne.symm NY)).trans Me) ⟨oi,(s1.2 it (Ne.symm nS)).trans A7,gc,gd⟩ hc2 (zzE _) λj' GN=>?_⟩
 have e:j'=0:=by omega
 subst e;exact⟨by omega,λh=>absurd h (Nat.lt_irrefl _)⟩
end
end L2
namespace L2
open PySem PySem.Spec PyProof.Rows PySem.W
section
variable{a:Addr}
end
end L2
namespace L2
open PySem PySem.Spec PyProof.Rows
open PySem.AutoSeq1 (wpAny_loadPart')
theorem eZ:fillsNumberSlot (.type "tuple") "mul"=pure false:=
 PySem.fillsNumberSlot_seq (id:="tuple.__mul__") (r:=some (.builtin "tuple.__rmul__")) PySem.F.slot_tuple_mul.lookup (by decide+kernel) PySem.F.slot_tuple_rmul.lookup (by decide+kernel)
def iQ:seqRepeat? (.type "tuple")=pure (some (.builtin "tuple.__mul__")):=by
 unfold seqRepeat?;rw [PySem.seqSlot_of (T:="tuple") (name:="__mul__") (id:="tuple.__mul__") PySem.F.slot_tuple_mul.lookup (by decide+kernel),PySem.seqSlot_of (T:="tuple") (name:="__rmul__") (id:="tuple.__rmul__") PySem.F.slot_tuple_rmul.lookup (by decide+kernel)]
 rfl
theorem fV(a:Int)(t:Tok)(l:Addr)(items:Array Value)(n:Nat)(dd:Option Addr)(sl:Array (Option Value)):
 Meets (Builtin.«int.__rmul__» ⟨[.int a t,.ref l],[]⟩) (λ_ R s=>s.heap.get? l=some {cls:=.type "tuple",dict:=dd,data:=.seq items n,slots:=sl}/\R (.ok (.ret Value.notImplemented)) s):=
 .of_wp λprog w A R s h=>by obtain⟨hp,g,d,tk,os⟩:=s;obtain⟨hl,h⟩:=h;wp_walk;exact⟨_,rfl,h⟩
def sZ(l:Addr)(items:Array Value)(n:Nat)(dd:Option Addr)(sl:Array (Option Value))(x:Int)(u:Tok)(x1:1<x)(x2:x<1000)(i1:0<items.size)(i2:items.size<1000):
 Meets (Builtin.«tuple.__mul__» ⟨[.ref l,.int x u],[]⟩) (λ_ R s=>s.heap.get? l=some {cls:=.type "tuple",dict:=dd,data:=.seq items n,slots:=sl}/\
  R (.ok (.ret (Value.ref (zz9 s)))) {s with heap:=s.heap.push {cls:=Value.type "tuple",data:=Data.seq (List.foldl (λx1 x2=>x1++x2) #[] (List.replicate x.toNat items))},toks:=s.toks}):=
 .of_wp λprog w A R s h=>by
  obtain⟨hp,g,d,tk,os⟩:=s
  obtain⟨hl,h⟩:=h
  have f1:=PySem.AutoSeq1.idx_int
  have f2:=PySem.AutoSeq1.sub_tuple_tuple
  have ie:items.isEmpty=false:=by
   cases h:items.isEmpty with
   |false=>rfl
   |true=>
    have:=Array.isEmpty_iff.mp h
    subst this;exact absurd i1 (by simp)
  wp_walk using wpAny_loadPart' hl
  refine wpAny_ite_false (zz0 (by rw [zzt,zzN,zzN];omega)) ?_;dsimp only
  wp_walk using wpAny_loadPart' hl
  refine wpAny_ite_false (zz0 (by rw [ie,Bool.false_or,zzy];omega)) ?_;refine wpAny_ite_false (zz0 (by rw [ie,Bool.or_false,zzN];omega)) ?_;have hm:(items.size:Int)*x<=1000*1000:=by
   have e1:(items.size:Int)*x<=1000*x:=Int.mul_le_mul_of_nonneg_right (by omega) (by omega)
   omega
  have Jn:items.size*x.toNat<=1000*1000:=Nat.mul_le_mul (by omega) (by omega)
  have Nz:(1000000:Nat)<=sizeLine:=by decide
  have qo:(List.foldl (λx1 x2=>x1++x2) #[] (List.replicate x.toNat items)).size<=sizeLine:=by
   have e:=foldl_rep items.toList x.toNat []
   have e':(items.toList).toArray=items:=by simp
   rw [e',List.nil_append] at e;have e2:(List.foldl (λx1 x2=>x1++x2) #[] (List.replicate x.toNat items))=(List.replicate x.toNat items.toList).flatten.toArray:=e
   rw [e2,zzC,len_rep,zzd,Nat.mul_comm];omega
  refine wpAny_ite_false (zz0 (by omega)) ?_;refine wpAny_ite_false (zz0 (by unfold Builtin.Tuple.tupleTooMany;simp;omega)) ?_
  wp_walk
  exact⟨_,rfl,h⟩
def Di{X:Cx}:gK X (binaryOp .Mult) (λx y H Q=>∃a n xs,x=.ref a/\y=.int n/\eU X.K H a xs/\1<n/\n<1000/\0<xs.length/\xs.length<1000/\∀p,H p=none->Q (.ref p) (upd H p (.tup (List.replicate n.toNat xs).flatten))):=by
 intro aa s σ H x y v u Q I rx ry h;obtain⟨a,n,xs,rfl,rfl,ha,h1,h2,h3,h4,q⟩:=h
 cases rx;obtain⟨t,rfl⟩:=ry
 obtain⟨aw,r,p1,_⟩:=I.tuple ha
 have hl:=r.length
 obtain⟨⟨cls,dd,data,sl⟩,ho,hc,k,hd⟩:=id p1
 simp only at hc hd;subst hc hd;have se:List.foldl (λx1 x2=>x1++x2) #[] (List.replicate n.toNat aw.toArray)=(List.replicate n.toNat aw).flatten.toArray:=by
  have:=foldl_rep aw n.toNat []
  rw [List.nil_append] at this;exact this
 refine wpAny_binaryOp_repeat_ref (T:="tuple") (U:="int") (by decide) ⟨_,ho,rfl⟩ (λs'=>typeIs_int s' n t) eZ PySem.F.fills_int_mul PySem.F.slot_int_rmul iQ PySem.F.slot_int_index.lookup
  (call_meets PySem.F.slot_int_rmul (typeIs_int s n t) PySem.F.entry_int_rmul (PySem.F.args_int_rmul_2 _ _) (fV n t a aw.toArray k dd sl)
   ⟨ho,rfl,⟨_,ho,rfl⟩,call_meets PySem.F.slot_tuple_mul ⟨_,ho,rfl⟩ PySem.F.entry_tuple_mul (PySem.F.args_tuple_mul_2 _ _) (sZ a aw.toArray k dd sl n t h1 h2 (by rw [zzC];omega) (by rw [zzC];omega)) ⟨ho,?_⟩⟩)
 rw [se];have hz:(List.replicate n.toNat xs).flatten.length<=sizeLine:=by
  rw [len_rep];have:n.toNat*xs.length<=1000*1000:=Nat.mul_le_mul (by omega) (by omega)
  have Nz:(1000000:Nat)<=sizeLine:=by decide
  omega
 refine⟨.ref (zz9 s),_,I.laid (t':=s.toks) (o:=.tup (List.replicate n.toNat xs).flatten) (λb ob q=>zzB _ q) (zzE _) ?_,rfl,q _ (I.aN.fresh (zzE _))⟩;exact⟨hz,_,r.rep n.toNat,IsTup.new _ _⟩
end L2
namespace Cw
open PySem L2
end Cw
namespace L2
open PySem PySem.Spec PyProof.Rows
section
variable{X:Cx}
def nU:dH X (.type "int") (λxs H Q=>∃z n,xs=[.str z]/\PySem.intText? z=some n/\z.length<=640/\Q (.int n) H):=by
 intro aa s σ H xs us Q I r h;obtain⟨z,n,rfl,h1,h2,q⟩:=h
 obtain⟨u,rfl,t,rfl⟩:=vals1 r
 exact PySem.W.KIN.call_text h1 h2 ⟨.int n,H,I.tok _,⟨_,rfl⟩,q⟩
end
end L2
namespace Cw
open PySem L2
end Cw
namespace L2
open PySem PySem.Spec PyProof.Rows PySem.W
noncomputable abbrev QM(av:List (Int×Int)):List (Key×V):=av.map λq=>(.inl q.1,V.int q.2)
end L2
namespace L2
open PySem PySem.Spec PyProof.Rows
noncomputable def J9(a C:Addr):HO:=.ext λh=>∃ob vs,h.get? a=some ob/\ob.cls=.ref C/\ob.data=.fields vs
section
variable{P:Program}{w:World}
def Bi.fresh{outer:List Env}{H:Hp}{s s':Shared}{E:XK}{a C t:Addr}{vs:List Value}{H':Hp}{B:Heap}(F:Bi P w outer H s E a C t vs H' B s'):H' a=none:=by
 cases z:H' a with
 |none=>rfl
 |some o=>
  obtain⟨o',eC⟩:=jh (F.aN _ _ z)
  rw [F.A3.2.1] at eC;cases eC
end
structure Fg(K:zz8)(C:Addr):Prop where
 ga:PySem.W.findIn K (.ref C) "__getattribute__"=some (some (.builtin "BaseException.__getattribute__"))
 hk:PySem.W.findIn K (.ref C) "__getattr__"=some none
 cl:PySem.W.findIn K (.ref C) "__class__"=some (some (.builtin "object.__class__"))
 mo:PySem.W.mroIn K C (.type "object")=some true
 mb:PySem.W.mroIn K C (.type "BaseException")=some true
 is:(PySem.W.clsIn K C).isSome=true
theorem nu{α β:Type}{R:α->β->Prop}:∀{xs:List α} {ys:List β},Paired R xs ys->∀{i:Nat} {x:α},xs[i]?=some x->∃y,ys[i]?=some y/\R x y
 |_,_,.nil,_,_,h=>by simp at h
 |_,_,.cons r t,0,x,h=>by simp at h;subst h;exact⟨_,rfl,r⟩
 |_,_,.cons r t,i+1,x,h=>by
  obtain⟨y,h1,h2⟩:=nu t (i:=i) (x:=x) (by simpa using h)
  exact⟨y,by simpa using h1,h2⟩
theorem lD{α β:Type}{R:α->β->Prop}:∀{xs:List α} {ys:List β},Paired R xs ys->xs.length=ys.length
 |_,_,.nil=>rfl
 |_,_,.cons _ t=>by simp [lD t]
section
def AW{vs:List V}{aw:List Value}(r:Vals vs aw){j:Nat}(h:j<aw.toArray.size):∃v,vs[j]?=some v/\RelV v aw.toArray[j]:=by
 have hl:=r.length
 rw [zzC] at h;have hj:j<vs.length:=by omega
 obtain⟨u,hu,ru⟩:=r.get (i:=j) (x:=vs[j]) (zzg hj)
 rw [zzg h] at hu;cases hu;exact⟨_,zzg hj,by simpa using ru⟩
end
end L2
namespace Ci
open PySem L2
def aV{p:Prop}(h:false=true):p:=absurd h zzf
inductive PV where
 |aM|bl (b:Bool)|int (i:Int)|str (z:Str)
 |tup (xs:List PV)|lst (xs:List PV)
 |exc (c:Str)
 |bF (ks:List (List Int)) (vs:List PV)
 deriving Inhabited
structure Wd where
 K:zz8
 mg:Str->Option Value
 xs:List Str
 ts:List (Addr×Str):=[]
def rq(K:zz8)(H:Hp)(a:Addr)(vs:List V):Prop:=
 Rd H a (.lst vs)\/∃(aw:Array Value) (n:Nat),K.lookup a=some {cls:=.type "list",data:=.seq aw n}/\aw.size<=sizeLine/\Vals vs aw.toList
def Jb(K:zz8)(G:Hp)(a:Addr)(vs:List V):Prop:=G a=some (.tup vs)\/eU K G a vs/\(∃z,V.str z∈vs)/\∀c,V.ref c∉vs
theorem Jb.sq{K:zz8}{G:Hp}{a:Addr}{vs:List V}:Jb K G a vs->eU K G a vs
 |.inl h=>.inl (.inl h)
 |.inr h=>h.1
noncomputable def rj:List Str:=["n","s","w","e","ne","nw","se","sw"]
noncomputable def dK(d:Int):bg:=if d= -1 then .n else match(if d<0 then none else rj[d.toNat]?) with
 |some s=>.k (.inr s)
 |none=>.k (.inl d)
noncomputable def ki:List Int->List bg
 |[r,c,d]=>[.t [.inl r,.inl c],dK d]
 |k=>k.map iK
def uL{k:List Int}(n:k.length≠3):ki k=k.map iK:=by
 unfold ki;split
 ·exact absurd rfl n
 ·rfl
noncomputable def kz(ks:List (List Int))(us:List V):List (List bg×V):=(ks.map ki).zip us
mutual
def Rep(W:Wd)(G:Hp):PV->V->Prop
 |.aM,v=>v=.aM
 |.bl b,v=>v=.bl b
 |.int i,v=>v=.int i
 |.str z,v=>v=.str z
 |.tup xs,v=>∃a vs,v=.ref a/\Jb W.K G a vs/\ai W G xs vs
 |.lst xs,v=>∃a vs,v=.ref a/\rq W.K G a vs/\ai W G xs vs
 |.exc c,v=>∃a C,v=.ref a/\c∈W.xs/\W.mg c=some (.ref C)/\G a=some (J9 a C)
 |.bF ks vs,v=>∃a o us,v=.ref a/\ks.length=us.length/\G a=some (.bq o (.dT (kz ks us)))/\ai W G vs us
def ai(W:Wd)(G:Hp):List PV->List V->Prop
 |[],vs=>vs=[]
 |p::ps,vs=>∃v r,vs=v::r/\Rep W G p v/\ai W G ps r
end
def ax.tup{K:zz8}{H H':Hp}{a:Addr}{xs:List V}(e:ax H H')(h:eU K H a xs):eU K H' a xs:=by
 rcases h with(h|⟨o,h⟩)|h
 ·exact .inl (.inl (e _ _ h))
 ·exact .inl (.inr ⟨o,e _ _ h⟩)
 ·exact .inr h
def ax.tp{K:zz8}{H H':Hp}{a:Addr}{xs:List V}(e:ax H H')(h:Jb K H a xs):Jb K H' a xs:=h.elim (λz=>.inl (e _ _ z)) λz=>.inr ⟨ax.tup e z.1,z.2⟩
def ax.rd{H H':Hp}{a:Addr}{u:HO}(e:ax H H')(h:Rd H a u):Rd H' a u:=by
 rcases h with h|⟨o,h⟩
 ·exact .inl (e _ _ h)
 ·exact .inr ⟨o,e _ _ h⟩
def ax.ls{K:zz8}{H H':Hp}{a:Addr}{vs:List V}(e:ax H H')(h:rq K H a vs):rq K H' a vs:=h.elim (λz=>.inl (ax.rd e z)) .inr
section
variable{W:Wd}{G G':Hp}
mutual
theorem Rep.same(s:ax G G'):∀(p:PV) {v:V},Rep W G p v->Rep W G' p v
 |.aM,_,h=>by simpa only [Rep] using h
 |.bl b,_,h=>by simpa only [Rep] using h
 |.int i,_,h=>by simpa only [Rep] using h
 |.str z,_,h=>by simpa only [Rep] using h
 |.tup xs,_,h=>by
  simp! [Rep] at h⊢;obtain⟨a,vs,e,q,l⟩:=h
  exact⟨a,vs,e,ax.tp s q,ai.same s xs l⟩
 |.lst xs,_,h=>by
  simp! [Rep] at h⊢;obtain⟨a,vs,e,q,l⟩:=h
  exact⟨a,vs,e,ax.ls s q,ai.same s xs l⟩
 |.exc c,_,h=>by
  simp! [Rep] at h⊢;obtain⟨a,C,e,x,m,q⟩:=h
  exact⟨a,C,e,x,m,s _ _ q⟩
 |.bF ks vs,_,h=>by
  simp! [Rep] at h⊢;obtain⟨a,o,us,e,n,m,l⟩:=h
  exact⟨a,o,us,e,n,s _ _ m,ai.same s vs l⟩
theorem ai.same(s:ax G G'):∀(ps:List PV) {vs:List V},ai W G ps vs->ai W G' ps vs
 |[],_,h=>by simpa only [ai] using h
 |p::ps,_,h=>by
  simp! [ai] at h⊢;obtain⟨v,r,e,h1,h2⟩:=h
  exact⟨v,r,e,Rep.same s p h1,ai.same s ps h2⟩
end
theorem ai.paired:∀{ps:List PV} {vs:List V},ai W G ps vs->Paired (λv p=>Rep W G p v) vs ps
 |[],_,h=>by simp! [ai] at h;subst h;exact .nil
 |p::ps,_,h=>by
  simp! [ai] at h;obtain⟨v,r,rfl,h1,h2⟩:=h
  exact .cons h1 (ai.paired h2)
def ai.length{ps:List PV}{vs:List V}(h:ai W G ps vs):vs.length=ps.length:=lD h.paired
def ai.nil:ai W G [] []:=by simp! [ai]
def ai.cons{p:PV}{v:V}{ps:List PV}{vs:List V}(h:Rep W G p v)(t:ai W G ps vs):ai W G (p::ps) (v::vs):=by simp! [ai];exact⟨_,_,rfl,h,t⟩
def ai.bU{p:PV}{ps:List PV}{vs:List V}(h:ai W G (p::ps) vs):∃v r,vs=v::r/\Rep W G p v/\ai W G ps r:=by simpa only [ai] using h
theorem ai.append:∀{ps qs:List PV} {vs us:List V},ai W G ps vs->ai W G qs us->ai W G (ps++qs) (vs++us)
 |[],_,_,_,h,k=>by simp! [ai] at h;subst h;exact k
 |p::ps,_,_,_,h,k=>by
  obtain⟨v,r,rfl,h1,h2⟩:=h.bU
  exact .cons h1 (h2.append k)
def ai.get:∀{ps:List PV} {vs:List V} {i:Nat} {v:V},ai W G ps vs->vs[i]?=some v->∃p,ps[i]?=some p/\Rep W G p v:=λh e=>nu h.paired e
theorem ai.oq:∀{ps:List PV} {vs:List V} {i:Nat} {p:PV},ai W G ps vs->ps[i]?=some p->∃v,vs[i]?=some v/\Rep W G p v
 |[],_,_,_,_,e=>by simp at e
 |p::ps,_,0,q,h,e=>by
  obtain⟨v,r,rfl,h1,h2⟩:=h.bU
  simp at e;subst e;exact⟨v,rfl,h1⟩
 |p::ps,_,i+1,q,h,e=>by
  obtain⟨v,r,rfl,h1,h2⟩:=h.bU
  obtain⟨u,e1,k⟩:=h2.oq (i:=i) (by simpa using e)
  exact⟨u,by simpa using e1,k⟩
theorem ai.drop:∀{ps:List PV} {vs:List V} (n:Nat),ai W G ps vs->ai W G (ps.drop n) (vs.drop n)
 |_,_,0,h=>by simpa using h
 |[],_,n+1,h=>by simp! [ai] at h;subst h;simp! [List.drop_nil];exact .nil
 |p::ps,_,n+1,h=>by
  obtain⟨v,r,rfl,h1,h2⟩:=h.bU
  simpa using h2.drop n
theorem ai.take:∀{ps:List PV} {vs:List V} (n:Nat),ai W G ps vs->ai W G (ps.take n) (vs.take n)
 |_,_,0,h=>by simp! [List.take_zero];exact .nil
 |[],_,n+1,h=>by simp! [ai] at h;subst h;simp! [List.take_nil];exact .nil
 |p::ps,_,n+1,h=>by
  obtain⟨v,r,rfl,h1,h2⟩:=h.bU
  simp! [List.take_succ_cons];exact .cons h1 (h2.take n)
end
def gQ(H H':Hp):Prop:=∀b o,H b=some o->(∀ps,o≠.fG ps)/\H' b=some o\/∃ps m,o=.fG ps/\H' b=some (.fG (ps++m))
def gQ.refl(H:Hp):gQ H H:=λb o h=>by
 cases o with
 |fG ps=>exact .inr ⟨ps,#[],rfl,by simpa using h⟩
 |_=>exact .inl ⟨(λ_ z=>nomatch z),h⟩
def gQ.trans{H H1 H2:Hp}(a:gQ H H1)(b:gQ H1 H2):gQ H H2:=λc o h=>by
 rcases a c o h with⟨n,e⟩|⟨ps,m,rfl,e⟩
 ·rcases b c o e with y|⟨ps,m,rfl,e2⟩
  ·exact .inl y
  ·exact absurd rfl (n ps)
 ·rcases b c _ e with⟨n,_⟩|⟨qQ,m',e2,e3⟩
  ·exact absurd rfl (n _)
  ·cases e2;exact .inr ⟨ps,m++m',rfl,by rw [e3,Array.append_assoc]⟩
def gQ.free{H H':Hp}(e:gQ H H'){l:Addr}(h:H' l=Option.none):H l=Option.none:=by
 cases q:H l with
 |none=>rfl
 |some o=>
  rcases e l o q with⟨_,z⟩|⟨_,_,_,z⟩
  ·rw [h] at z;cases z
  ·rw [h] at z;cases z
def gQ.at{H H':Hp}(e:gQ H H'){b:Addr}{o:HO}(h:H b=some o)(n:∀ps,o≠.fG ps):H' b=some o:=by
 rcases e b o h with⟨_,z⟩|⟨ps,_,rfl,_⟩
 ·exact z
 ·exact absurd rfl (n ps)
def gQ.uY{H H':Hp}(e:gQ H H'){b:Addr}(h:H b≠none)(n:∀vs,H b≠some (.tup vs)):∀vs,H' b≠some (.tup vs):=λvs z=>by
 cases q:H b with
 |none=>exact h q
 |some o=>
  rcases e b o q with⟨_,y⟩|⟨_,_,_,y⟩
  ·rw [z] at y;cases y;exact n vs q
  ·rw [z] at y;cases y
def gQ.of{H H':Hp}(e:ax H H'):gQ H H':=λb o h=>by
 cases o with
 |fG ps=>exact .inr ⟨ps,#[],rfl,by simpa using e _ _ h⟩
 |_=>exact .inl ⟨(λ_ z=>nomatch z),e _ _ h⟩
def gQ.tup{K:zz8}{H H':Hp}{a:Addr}{xs:List V}(e:gQ H H')(h:eU K H a xs):eU K H' a xs:=by
 rcases h with(h|⟨o,h⟩)|h
 ·exact .inl (.inl (e.at h (λ_ z=>nomatch z)))
 ·exact .inl (.inr ⟨o,e.at h (λ_ z=>nomatch z)⟩)
 ·exact .inr h
def gQ.ls{K:zz8}{H H':Hp}{a:Addr}{vs:List V}(e:gQ H H')(h:rq K H a vs):rq K H' a vs:=by
 rcases h with(h|⟨o,h⟩)|h
 ·exact .inl (.inl (e.at h (λ_ z=>nomatch z)))
 ·exact .inl (.inr ⟨o,e.at h (λ_ z=>nomatch z)⟩)
 ·exact .inr h
def cq(W:Wd)(G H:Hp):Prop:=∀P q,(P,q)∈W.ts->G P=none/\∃ps,H P=some (.fG ps)/\TriplesOk ps.toList/\
 ∀pos cv,codeAmong pos ps.toList=some cv->∃c' oc cF t,cv=.ref c'/\G c'=some (.bq oc bz)/\oc.data=.fields cF/\cF[1]?=some (.str q t)
theorem cq.same{W:Wd}{G G' H H':Hp}(t:cq W G H)(g:ax G G')(own:∀a,H a≠none->(∀vs,H a≠some (.tup vs))->G a=none->G' a=none)(h:∀P ps,H P=some (.fG ps)->H' P=some (.fG ps)):cq W G' H':=λP q m=>by
 obtain⟨n,ps,e,tr,al⟩:=t P q m
 refine⟨own P (by rw [e];exact λz=>nomatch z) (by rw [e];exact λ_ z=>nomatch z) n,ps,h P ps e,tr,λpos cv y=>?_⟩
 obtain⟨c',oc,cF,t,e1,e2,e3,e4⟩:=al pos cv y
 exact⟨c',oc,cF,t,e1,g _ _ e2,e3,e4⟩
structure aA(W:Wd)(G H G' H':Hp):Prop where
 g:ax G G'
 h:gQ H H'
 sub:ax G' H'
 own:∀a,H a≠none->(∀vs,H a≠some (.tup vs))->G a=none->G' a=none
 tab:cq W G H->cq W G' H'
section
variable{W:Wd}
def aA.refl{G H:Hp}(s:ax G H):aA W G H G H:=⟨ax.refl _,gQ.refl _,s,λ_ _ _ h=>h,id⟩
def aA.trans{G H G1 H1 G2 H2:Hp}(a:aA W G H G1 H1)(b:aA W G1 H1 G2 H2):aA W G H G2 H2:=
 ⟨a.g.trans b.g,a.h.trans b.h,b.sub,λx hx ht hg=>b.own x (λz=>hx (a.h.free z)) (a.h.uY hx ht) (a.own x hx ht hg),λt=>b.tab (a.tab t)⟩
def pw{H:Hp}{p:Addr}{o:HO}(h:∀ps,H p≠some (.fG ps))(P:Addr)(ps:Array Value)(e:H P=some (.fG ps)):upd H p o P=some (.fG ps):=by
 rw [af (λz=>by subst z;exact h ps e)];exact e
theorem aA.new{G H:Hp}{p:Addr}{o:HO}(s:ax G H)(h:H p=none):aA W G H (upd G p o) (upd H p o) where
 g:=bT (s.free h)
 h:=.of (bT h)
 sub:=λb u e=>by
  by_cases hb:b=p
  ·subst hb;rw [ak] at e⊢;exact e
  ·rw [af hb] at e⊢;exact s _ _ e
 own:=λa ha _ hg=>by
  have:a≠p:=λz=>by subst z;exact ha h
  rw [af this];exact hg
 tab:=λt=>t.same (bT (s.free h)) (λa ha _ hg=>by
  have:a≠p:=λz=>by subst z;exact ha h
  rw [af this];exact hg) (pw (λps z=>by rw [h] at z;cases z))
def aA.adopt{G H:Hp}{b:Addr}{vs:List V}(s:ax G H)(h:H b=some (.tup vs)):aA W G H (upd G b (.tup vs)) H:=by
 have sm:ax G (upd G b (.tup vs)):=λc u e=>by
  by_cases hc:c=b
  ·subst hc;rw [ak];have:=s _ _ e;rw [h] at this;exact this
  ·rw [af hc];exact e
 have ow:∀a,H a≠none->(∀vs,H a≠some (.tup vs))->G a=none->upd G b (.tup vs) a=none:=λa _ n e=>by
  have:a≠b:=λz=>by subst z;exact n vs h
  rw [af this];exact e
 exact⟨sm,gQ.refl _,λc u e=>by
  by_cases hc:c=b
  ·subst hc;rw [ak] at e;cases e;exact h
  ·rw [af hc] at e;exact s _ _ e,ow,λt=>t.same sm ow λ_ _ e=>e⟩
def aA.NV{G H:Hp}{p:Addr}{o:HO}(s:ax G H)(h:H p=none):aA W G H G (upd H p o):=
 ⟨ax.refl _,.of (bT h),s.trans (bT h),λ_ _ _ hg=>hg,λt=>t.same (ax.refl _) (λ_ _ _ h=>h) (pw (λps z=>by rw [h] at z;cases z))⟩
end
noncomputable def aO(scope:Scope):List Str:=((scope.names.filter λp=>p.2==.free).map (·.1)).reverse
noncomputable def okN(x:Str):Bool:=!(x=="__debug__")&&!(x=="__classdict__")&&!(x=="__name__")
noncomputable def gb(x:Str):Bool:=x.cps.toList.contains 64
def g8{α:Type}{a:α}{p:Prop}(h:(none:Option α)=some a):p:=nomatch h
def zQ{α:Type}{o:Option α}{f:α->Bool}(h:o.any f=true):∃x,o=some x/\f x=true:=by
 cases o with
 |none=>cases h
 |some x=>exact⟨x,rfl,h⟩
noncomputable def eP:Expr->Option Str
 |.Name x _=>some x
 |_=>none
def bM{e:Expr}{x:Str}(h:eP e=some x):∃p,e=.Name x p:=by
 cases e with
 |Name y p=>cases h;exact⟨_,rfl⟩
 |_=>exact g8 h
noncomputable def Bp:Expr->Option (Expr×List Expr×List Keyword×Pos)
 |.Call f a k p=>some (f,a,k,p)
 |_=>none
def gW{e:Expr}{q:Expr×List Expr×List Keyword×Pos}(h:Bp e=some q):e=.Call q.1 q.2.1 q.2.2.1 q.2.2.2:=by
 cases e with
 |Call f a k p=>cases h;rfl
 |_=>exact g8 h
noncomputable def M5:List Arg->Option (List Str)
 |[]=>some []
 |[a]=>some [a.arg]
 |_=>none
noncomputable def ma(p:Arguments):Option (List Str):=if(p.posonlyargs.isEmpty&&p.vararg.isNone&&p.kwonlyargs.isEmpty&&p.kw_defaults.isEmpty&&p.kwarg.isNone&&p.defaults.isEmpty)=true then M5 p.args else none
def tU{p:Arguments}{ps:List Str}(h:ma p=some ps):(p=⟨[],[],none,[],[],none,[]⟩/\ps=[])\/∃a,p=⟨[],[a],none,[],[],none,[]⟩/\ps=[a.arg]:=by
 obtain⟨a,b,c,d,e,f,g⟩:=p
 unfold ma at h;split at h
 ·rename_i q;simp! [zza,List.isEmpty_iff,Option.isNone_iff_eq_none] at q;obtain⟨⟨⟨⟨⟨q1,q2⟩,q3⟩,q4⟩,q5⟩,q6⟩:=q
  subst q1 q2 q3 q4 q5 q6;cases b with
  |nil=>cases h;exact .inl ⟨rfl,rfl⟩
  |cons a b=>
   cases b with
   |nil=>cases h;exact .inr ⟨a,rfl,rfl⟩
   |cons _ _=>exact g8 h
 ·exact g8 h
noncomputable def Ep(i:Nat):Nat:=(i-10000)/1000
noncomputable def JX(i:Nat):Str:=⟨(List.replicate ((i-10000)%1000/10) (48+i%10)).toArray⟩
noncomputable def L5:Expr->Option Str
 |.Tuple [.Constant (.str z) _ _] _ _=>some z
 |_=>none
def rR{e:Expr}{z:Str}(h:L5 e=some z):∃a b c d,e=.Tuple [.Constant (.str z) a b] c d:=by
 unfold L5 at h;split at h
 ·cases h;exact⟨_,_,_,_,rfl⟩
 ·cases h
noncomputable def Fy:Expr->Option (Str×Int)
 |.BinOp a .Mult (.Constant (.int k) _ _) _=>(L5 a).map λz=>(z,k)
 |_=>none
def ub{e:Expr}{q:Str×Int}(h:Fy e=some q):∃a b c d p1 p2 p3,e=.BinOp (.Tuple [.Constant (.str q.1) a b] c d) .Mult (.Constant (.int q.2) p1 p2) p3:=by
 unfold Fy at h;split at h
 ·obtain⟨z,h1,rfl⟩:=zzJ.mp h
  obtain⟨a,b,c,d,rfl⟩:=rR h1
  exact⟨_,_,_,_,_,_,_,rfl⟩
 ·cases h
noncomputable def Jf(i:Nat)(e:Expr):Bool:=if Ep i=1 then L5 e==some (JX i) else decide (2<=Ep i)&&decide (Ep i<1000)&&Fy e==some (JX i,(Ep i:Int))
noncomputable def x5(N:List Str)(i:Nat)(a:Expr):Bool:=if i<10000 then(eP a).any λx=>N[i]?==some x&&okN x else Jf i a
noncomputable def gR(N:List Str):List Expr->List Nat->Bool
 |[],[]=>true
 |a::r,i::t=>x5 N i a&&gR N r t
 |_,_=>false
noncomputable def Mt(ps:List Str)(scope:Scope):Bool:=
 scope.kind==.function&&!scope.isCoroutine&&!scope.isGenerator&&decide ((ps++aO scope).Nodup)&&(scope.names.all λy=>decide (y.2≠.cell))&&(ps.all λx=>decide (scope.names.lookup x=some .local))&&((aO scope).all λx=>decide (scope.names.lookup x=some .free))
noncomputable def CL(g:Str)(idx:List Nat)(params:Arguments)(body:Expr)(scope:Scope):Bool:=(ma params).any λps=>(Bp body).any λq=>eP q.1==some g&&q.2.2.1.isEmpty&&!q.2.1.isEmpty&&decide (idx.head?=some ps.length)&&scope.names.lookup g==some .globalImplicit&&okN g&&!gb g&&gR (ps++aO scope) q.2.1 idx.tail&&Mt ps scope
structure ME(W:Wd)(G:Hp)(g:Str)(idx:List Nat)(cu:List PV)(f c':Addr)(oc:Obj)(cF:Array Value)(t:Tok)(dX pm:Value)(params:Arguments)(body:Expr)(scope:Scope)(qual:Str)(cl:List (Str×Addr))(Z:List (Addr×Obj))(ws:List V):Prop where
 lg:CL g idx params body scope=true
 fo:G f=some (.bq (PySem.W.kla_obj "<lambda>" qual params body scope cl pm c' dX) bz)
 co:G c'=some (.bq oc bz)
 cd:oc.data=.fields cF
 cn:cF[1]?=some (.str qual t)
 fz:Z.lookup f=none
 cz:Z.lookup c'=none
 inj:∀x y c,cl.lookup x=some c->cl.lookup y=some c->x=y
 has:∀y∈aO scope,∃c,cl.lookup y=some c
 cells:∀x c,cl.lookup x=some c->∃o v,Z.lookup c=some o/\o.data=.cell v
 zs:∀b o,Z.lookup b=some o->G b=some (.bq o bz)
 zc:∀b o,Z.lookup b=some o->∃v,o.data=.cell v
 vals:∀(i:Nat) y c,(aO scope)[i]?=some y->cl.lookup y=some c->∀v,ws[i]?=some v->∃u o,RelV v u/\Z.lookup c=some o/\o.data=.cell (some u)
 len:ws.length=(aO scope).length
 rep:ai W (aL Z G) cu ws
def nF(W:Wd)(G:Hp)(g:Str)(idx:List Nat)(cu:List PV)(v:V):Prop:=∃f c' oc cF t dX pm params body scope qual cl Z ws,v=.ref f/\ME W G g idx cu f c' oc cF t dX pm params body scope qual cl Z ws
theorem ny{Z:List (Addr×Obj)}{G G':Hp}(s:ax G G'):ax (aL Z G) (aL Z G'):=λb u e=>by
 obtain⟨q,e1⟩:=d7 e
 rw [aq q];exact s _ _ e1
def nF.same{W:Wd}{G G':Hp}{g:Str}{idx:List Nat}{cu:List PV}{v:V}(s:ax G G')(h:nF W G g idx cu v):nF W G' g idx cu v:=by
 obtain⟨f,c',oc,cF,t,dX,pm,params,body,scope,qual,cl,Z,ws,e,d⟩:=h
 exact⟨f,c',oc,cF,t,dX,pm,params,body,scope,qual,cl,Z,ws,e,⟨d.lg,s _ _ d.fo,s _ _ d.co,d.cd,d.cn,d.fz,d.cz,d.inj,d.has,d.cells,λb o q=>s _ _ (d.zs b o q),d.zc,d.vals,d.len,ai.same (ny s) cu d.rep⟩⟩
inductive Slot where
 |no|val (p:PV)|own (p:PV)|fn (g:Str) (idx:List Nat) (cu:List PV)|Bs (av:List (Int×Int))
 deriving Inhabited
abbrev Sl:=List Slot
def Own(W:Wd)(H0 G H:Hp):PV->V->Prop
 |.lst xs,v=>∃a vs,v=.ref a/\H a=some (.lst vs)/\G a=none/\H0 a=none/\ai W G xs vs
 |.bF ks ps,v=>∃a us,v=.ref a/\ks.length=us.length/\H a=some (.dT (kz ks us))/\G a=none/\H0 a=none/\ai W G ps us
 |_,_=>False
def Top(W:Wd)(H0 G H:Hp)(p:PV)(v:V):Prop:=Rep W G p v\/Own W H0 G H p v
def Bj(W:Wd)(H0 G H:Hp):Slot->Option V->Prop
 |.no,_=>True
 |.val p,o=>∃v,o=some v/\Rep W G p v
 |.own p,o=>∃v,o=some v/\Own W H0 G H p v
 |.fn g idx cu,o=>∃v,o=some v/\nF W G g idx cu v
 |.Bs av,o=>∃a,o=some (.ref a)/\H a=some (.dK (QM av))/\G a=none/\H0 a=none/\(av.map (·.1)).Nodup
structure SR(W:Wd)(H0:Hp)(env:Sl)(σ:St)(G H:Hp):Prop where
 len:env.length=σ.length
 sub:ax G H
 base:gQ H0 H
 slot:∀(i:Nat) (s:Slot),env[i]?=some s->∃o,σ[i]?=some o/\Bj W H0 G H s o
 apart:∀(i j:Nat) (p q:PV) (a:Addr),env[i]?=some (.own p)->env[j]?=some (.own q)->σ[i]?=some (some (.ref a))->σ[j]?=some (some (.ref a))->i=j
 tab:cq W G H
 mB:cq W G H0
section
variable{W:Wd}{H0 G H G' H':Hp}{env:Sl}{σ:St}
theorem Own.grow(g:aA W G H G' H'):∀{p:PV} {v:V},Own W H0 G H p v->Own W H0 G' H' p v
 |.lst xs,_,h=>by
  obtain⟨a,vs,e,h1,h2,h3,l⟩:=h
  exact⟨a,vs,e,g.h.at h1 (λ_ z=>nomatch z),g.own a (by rw [h1];exact λz=>by cases z) (by rw [h1];exact λ_ z=>by cases z) h2,h3,ai.same g.g xs l⟩
 |.bF ks ps,_,h=>by
  obtain⟨a,vs,e,n,h1,h2,h3,l⟩:=h
  exact⟨a,vs,e,n,g.h.at h1 (λ_ z=>nomatch z),g.own a (by rw [h1];exact λz=>by cases z) (by rw [h1];exact λ_ z=>by cases z) h2,h3,ai.same g.g ps l⟩
 |.aM,_,h=>h|.bl _,_,h=>h|.int _,_,h=>h|.str _,_,h=>h|.tup _,_,h=>h|.exc _,_,h=>h
theorem Bj.grow(g:aA W G H G' H'):∀{s:Slot} {o:Option V},Bj W H0 G H s o->Bj W H0 G' H' s o
 |.no,_,_=>trivial
 |.val p,_,h=>by obtain⟨v,e,r⟩:=h;exact⟨v,e,Rep.same g.g p r⟩
 |.own p,_,h=>by obtain⟨v,e,r⟩:=h;exact⟨v,e,r.grow g⟩
 |.fn _ _ _,_,h=>by obtain⟨v,e,r⟩:=h;exact⟨v,e,r.same g.g⟩
 |.Bs _,_,h=>by
  obtain⟨a,e,h1,h2,h3,n⟩:=h
  exact⟨a,e,g.h.at h1 (λ_ z=>nomatch z),g.own a (by rw [h1];exact λz=>nomatch z) (by rw [h1];exact λ_ z=>nomatch z) h2,h3,n⟩
theorem SR.grow(r:SR W H0 env σ G H)(g:aA W G H G' H'):SR W H0 env σ G' H':=
 ⟨r.len,g.sub,r.base.trans g.h,λi s e=>by obtain⟨o,h1,h2⟩:=r.slot i s e;exact⟨o,h1,h2.grow g⟩,r.apart,g.tab r.tab,r.mB.same g.g (λa h1 h3 h2=>g.own a (λz=>h1 (r.base.free z)) (r.base.uY h1 h3) h2) λ_ _ h=>h⟩
def Top.grow{p:PV}{v:V}(g:aA W G H G' H')(h:Top W H0 G H p v):Top W H0 G' H' p v:=h.elim (λz=>.inl (Rep.same g.g p z)) λz=>.inr (z.grow g)
def Top.lst{xs:List PV}{v:V}(s:ax G H)(h:Top W H0 G H (.lst xs) v):∃a vs,v=.ref a/\rq W.K H a vs/\ai W G xs vs:=by
 rcases h with h|h
 ·simp! [Rep] at h;obtain⟨a,vs,e,q,l⟩:=h
  exact⟨a,vs,e,ax.ls s q,l⟩
 ·obtain⟨a,vs,e,h1,_,_,l⟩:=h
  exact⟨a,vs,e,.inl (.inl h1),l⟩
def Top.tup{xs:List PV}{v:V}(s:ax G H)(h:Top W H0 G H (.tup xs) v):∃a vs,v=.ref a/\eU W.K H a vs/\ai W G xs vs:=by
 rcases h with h|h
 ·simp! [Rep] at h;obtain⟨a,vs,e,q,l⟩:=h
  exact⟨a,vs,e,ax.tup s q.sq,l⟩
 ·exact h.elim
def Top.tupI{xs:List PV}{v:V}{ns:List Int}(s:ax G H)(hx:xs=ns.map .int)(h:Top W H0 G H (.tup xs) v):∃a,v=.ref a/\G a=some (.tup (ns.map V.int)):=by
 rcases h with h|h
 ·simp! [Rep] at h;obtain⟨a,vs,e,q,l⟩:=h
  have ev:vs=ns.map V.int:=by
   subst hx
   clear q e
   induction ns generalizing vs with
   |nil=>simp! [List.map_nil,ai] at l;exact l
   |cons n ns ih=>
    obtain⟨u,r,rfl,h1,h2⟩:=l.bU
    simp! [Rep] at h1;rw [h1,ih r h2]
    rfl
  subst ev;rcases q with q|⟨_,⟨z,hz⟩,_⟩
  ·exact⟨a,e,q⟩
  ·obtain⟨n,_,hn⟩:=zzx.mp hz
   cases hn
 ·exact h.elim
def Top.bF{ks:List (List Int)}{ps:List PV}{v:V}(s:ax G H)(h:Top W H0 G H (.bF ks ps) v):∃a us,v=.ref a/\ks.length=us.length/\Rd H a (.dT (kz ks us))/\ai W G ps us:=by
 rcases h with h|h
 ·simp! [Rep] at h;obtain⟨a,o,us,e,n,q,l⟩:=h
  exact⟨a,us,e,n,.inr ⟨o,s _ _ q⟩,l⟩
 ·obtain⟨a,vs,e,n,q,_,_,l⟩:=h
  exact⟨a,vs,e,n,.inl q,l⟩
def Top.int{i:Int}{v:V}(h:Top W H0 G H (.int i) v):v=.int i:=h.elim (λz=>by simpa only [Rep] using z) λz=>z.elim
def Top.bl{b:Bool}{v:V}(h:Top W H0 G H (.bl b) v):v=.bl b:=h.elim (λz=>by simpa only [Rep] using z) λz=>z.elim
def Top.str{b:Str}{v:V}(h:Top W H0 G H (.str b) v):v=.str b:=h.elim (λz=>by simpa only [Rep] using z) λz=>z.elim
def Top.aM{v:V}(h:Top W H0 G H .aM v):v=.aM:=h.elim (λz=>by simpa only [Rep] using z) λz=>z.elim
def Rep.i{i:Int}:Rep W G (.int i) (.int i):=by simp! [Rep]
def Rep.b{i:Bool}:Rep W G (.bl i) (.bl i):=by simp! [Rep]
def Rep.s{i:Str}:Rep W G (.str i) (.str i):=by simp! [Rep]
def Rep.n:Rep W G .aM .aM:=by simp! [Rep]
def Rep.l{a:Addr}{xs:List PV}{vs:List V}(h:rq W.K G a vs)(l:ai W G xs vs):Rep W G (.lst xs) (.ref a):=by simp! [Rep];exact⟨a,vs,rfl,h,l⟩
def Rep.t{a:Addr}{xs:List PV}{vs:List V}(h:Jb W.K G a vs)(l:ai W G xs vs):Rep W G (.tup xs) (.ref a):=by simp! [Rep];exact⟨a,vs,rfl,h,l⟩
end
end Ci
namespace L2
open PySem PySem.Spec PyProof.Rows
end L2
namespace HT
open PySem PySem.Spec PyProof.Rows
section
variable{prog:Program}{w:World}{A:Around}{E:Value->Shared->Prop}{s:Shared}
def pM{sl:Addr}{vk:Value}{n:Nat}{Q:Int×Int×Nat->Shared->Prop}(hs:s.heap.IsSliceOf sl .none .none vk)(pk:IsPart vk (some (-1)))
 (h:Q ((n:Int)-1, -1,n) s):wpAny (model prog w) A (Builtin.Slice.sliceApplied (.ref sl) (pure (n:Int))) Q E s:=by
 obtain⟨os,hos,hcs,hds⟩:=id hs
 unfold Builtin.Slice.sliceApplied Builtin.Slice.sliceFields;refine zzA (zzA (wpAny_field hos hds (x:=.none) rfl (zzA (wpAny_field hos hds (x:=.none) rfl (zzA (wpAny_field hos hds (x:=vk) rfl (zzG ?_)))))));refine zzA (hW pk ?_);show wpAny _ _ (if((-1:Int)==0)=true then _ else _) _ _ s;rw [if_neg (by decide)];refine zzA (slicePart_none (zzA (slicePart_none (zzA (zzG ?_)))));show wpAny _ _ (pure ((n:Int)-1,(-1:Int),Builtin.Slice.slicePlaces ((n:Int)-1) (-1) (-1))) _ _ s;have e:Builtin.Slice.slicePlaces ((n:Int)-1) (-1) (-1)=n:=by
  unfold Builtin.Slice.slicePlaces;rw [if_neg (by decide)];split
  ·have:((n:Int)-1 - -1-1)/(- -1)+1=n:=by rw [show(- -1:Int)=1 from rfl,Int.ediv_one];omega
   rw [this];omega
  ·omega
 rw [e];exact zzG h
theorem qd{α β:Type}{f g:α->Option β}:∀(l:List α),(∀m∈l,f m=g m)->l.filterMap f=l.filterMap g
 |[],_=>rfl
 |a::l,h=>by
  rw [List.filterMap_cons,List.filterMap_cons,h a (zzP ..),qd l λm hm=>h m (zzI _ hm)]
def Am(xs:Array Value):((List.range xs.size).filterMap λ(m:Nat)=>xs[((xs.size:Int)-1+(m:Int)*(-1)).toNat]?).toArray=xs.toList.reverse.toArray:=by
 congr 1
 refine List.ext_getElem? λi=>?_
 have key:∀k,k<=xs.size->(List.range k).filterMap (λ(m:Nat)=>xs[((xs.size:Int)-1+(m:Int)*(-1)).toNat]?)=(List.range k).filterMap λm=>xs.toList.reverse[m]?:=λk hk=>by
  refine qd _ λm hm=>?_
  have:=List.mem_range.1 hm
  rw [List.getElem?_reverse (by simpa using (by omega:m<xs.size)),Array.getElem?_toList,zzd]
  congr 1
  omega
 rw [key _ (zzE _)];have:∀l:List Value,(List.range l.length).filterMap (λm=>l[m]?)=l:=λl=>by
  have:=PySem.W.krv_all l.toArray
  simpa using this
 have:=this xs.toList.reverse
 rw [List.length_reverse,zzd] at this;rw [this]
def iH{t sl:Addr}{items:Array Value}{vk:Value}{Q:Value->Shared->Prop}(ht:IsTup s.heap t items)(hs:s.heap.IsSliceOf sl .none .none vk)(pk:IsPart vk (some (-1)))
 (h:Q (.ref (zz9 s)) {s with heap:=s.heap.push {cls:=.type "tuple",data:=.seq items.toList.reverse.toArray}})
 (hsz:items.size<=sizeLine):wpAny (model prog w) A (getItem (.ref t) (.ref sl)) Q E s:=by
 have kR:sizeOk (.seq items.toList.reverse.toArray):=by
  show items.toList.reverse.toArray.size<=sizeLine
  rw [zzC,List.length_reverse,zzd];exact hsz
 obtain⟨os,hos,hcs,hds⟩:=id hs
 have Ki:s.TypeIs (.ref sl) "slice":=⟨os,hos,hcs⟩
 unfold getItem
 try with_reducible refine wpAny_holding ?_
 first|refine zzA (zzG ?_)|skip
 refine zzA (wpAny_sequenceKey ht.typeIs (by decide) ?_);refine zzA (wpAny_callSpecial?_slot (name:=Str.ofString "__getitem__") ht.typeIs PyProof.Rows.slot_tuple_getitem
  (wpAny_call_entry PyProof.Rows.slot_tuple_getitem ht.typeIs entry_tuple_getitem ?_ (args_tuple_getitem _ _)))
 show wpAny _ _ (Builtin.Tuple.tupleItemsOf (.ref t)>>=_) _ _ s
 refine zzA (tupleItemsOf_ ht ?_);refine zzA (wpAny_typeOf Ki ?_);rw [if_pos (by decide)];refine zzA (pM hs pk ?_);have Nx:¬((((items.size:Int)-1)==0&&(-1:Int)==1&&items.size==items.size)=true):=by
  intro q;rw [zza,zza] at q;exact absurd q.1.2 (by decide)
 show wpAny _ _ (if(((items.size:Int)-1)==0&&(-1:Int)==1&&items.size==items.size)=true then _ else _) _ _ s
 rw [if_neg Nx,Am]
 first
  |exact zzA (m:=Builtin.Tuple.tupleExact _) (wpAny_newObj_type (zzG ⟨_,rfl,zzG h⟩) kR)
  |exact zzA (m:=Builtin.Tuple.tupleExact _) (wpAny_newObj_type (zzA (zzG (zzG ⟨_,rfl,zzG h⟩))) kR)
end
end HT
namespace L2
open PySem PySem.Spec PyProof.Rows
noncomputable def ft(z:Str):Str:=⟨z.cps.toList.reverse.toArray⟩
def DI(n:Nat):Builtin.Str.strSliceIndices none none (-1) n=(List.range n).map λk=>n-1-k:=by
 show sliceRange ((n:Int)-1) (-1) (-1)=_
 exact PySem.W.krv_sliceRange n
def nE{vs:List V}{us:List Value}(r:Vals vs us):Vals vs.reverse us.reverse:=by
 induction r with
 |nil=>exact .nil
 |cons h t ih=>
  rw [List.reverse_cons,List.reverse_cons];exact ih.append (.cons h .nil)
section
variable{X:Cx}{e st:Expr}{te ts:TE}{pos p2:Pos}
def AZ(X:Cx)(r:V->Hp->VK->Prop):Prop:=
 ∀(aa:List (Addr×Obj)) (s:Shared) (σ:St) (H:Hp) (x:V) (v vk:Value) (sl:Addr) (Q:VK),Inv X aa σ H s->RelV x v->s.heap.IsSliceOf sl .none .none vk->IsPart vk (some (-1))->r x H Q->
  ∃T id,typeLookup (.type T) "__getitem__"=pure (some (.builtin id))/\s.TypeIs v T/\wpAny (model X.prog X.w) X.A (getItem v (.ref sl)) (EP X aa σ Q) X.xe s
def AZ.or{r r':V->Hp->VK->Prop}(h:AZ X r)(h':AZ X r'):AZ X (λx H Q=>r x H Q\/r' x H Q):=by
 intro aa s σ H x v vk sl Q I rx hs pk q;rcases q with q|q
 ·exact h aa s σ H x v vk sl Q I rx hs pk q
 ·exact h' aa s σ H x v vk sl Q I rx hs pk q
def Im:AZ X (λx H Q=>∃a xs,x=.ref a/\eU X.K H a xs/\∀p,H p=none->Q (.ref p) (upd H p (.tup xs.reverse))):=by
 intro aa s σ H x v vk sl Q I rx hs pk h;obtain⟨a,xs,rfl,hx,q⟩:=h
 cases rx;obtain⟨aw,r,ht,hz⟩:=I.tuple hx
 have hlen:aw.toArray.size=xs.length:=by rw [zzC];exact r.length.symm
 refine⟨"tuple",_,PyProof.Rows.slot_tuple_getitem.lookup,ht.typeIs,HT.iH ht hs pk ?_ (by rw [hlen];exact hz)⟩;refine⟨.ref (zz9 s),_,I.laid (t':=s.toks) (o:=.tup xs.reverse) (λb ob q=>zzB _ q) (zzE _) ?_,rfl,q _ (I.aN.fresh (zzE _))⟩;exact⟨by rw [List.length_reverse];exact hz,_,nE r,IsTup.new _ _⟩
def Ik:AZ X (λx H Q=>∃a xs,x=.ref a/\iW X.K H a xs/\∀p,H p=none->Q (.ref p) (upd H p (.lst xs.reverse))):=by
 intro aa s σ H x v vk sl Q I rx hs pk h;obtain⟨a,xs,rfl,hx,q⟩:=h
 cases rx;obtain⟨aw,r,ht,hz⟩:=I.list hx
 refine⟨"list",_,PySem.F.slot_list_getitem.lookup,⟨_,ht.isList.choose_spec.1,ht.isList.choose_spec.2.1⟩,?_⟩;refine wpAny_getItem_list_slice ht.isList hs .none .none pk (by decide) ?_ (by rw [zzC,<-r.length];exact hz);rw [PySem.W.krv_pick];refine⟨.ref (zz9 s),_,I.laid (t':=s.toks) (o:=.lst xs.reverse) (λb ob q=>zzB _ q) (zzE _) ?_,rfl,q _ (I.aN.fresh (zzE _))⟩;exact⟨by rw [List.length_reverse];exact hz,_,0,nE r,zzX _ rfl⟩
def Il:AZ X (λx H Q=>∃z,x=.str z/\z.length<=sizeLine/\Q (.str (ft z)) H):=by
 intro aa s σ H x v vk sl Q I rx hs pk h;obtain⟨z,rfl,hz,q⟩:=h
 obtain⟨t,rfl⟩:=rx
 refine⟨"str",_,F.slot_str_getitem.lookup,typeIs_str _ _ _,?_⟩;cases pk with
 |int i ui=>
  refine wpAny_getItem_str_slice (l:=none) (u:=none) (st:=some (-1,ui)) hs rfl ?_;have e:sliceMade z t none none (some (-1,ui))=.str (ft z):=by
   unfold sliceMade;rw [if_neg (λq=>by rw [zza] at q;exact absurd q.1 (show¬((-1:Int)==1)=true by decide))]
   unfold slicePicked ft
   congr 2
   show((Builtin.Str.strSliceIndices none none (-1) z.length).filterMap (z.cps[·]?)).toArray=_
   rw [DI,PySem.W.krv_range,List.filterMap_reverse]
   congr 2
   have:=PySem.W.krv_all z.cps
   exact this
  rw [e];refine⟨?_,⟨.str _,H,I.tok _,⟨_,rfl⟩,q⟩⟩;show(ft z).cps.size<=sizeLine;have:(ft z).cps.size=z.length:=by simp [ft,Str.length]
  rw [this];exact hz
noncomputable def RZ(r:V->Hp->VK->Prop)(te ts:TE):TE:=λσ H Q=>te σ H λx H1=>ts σ H1 λk H2=>k=.int (-1)/\r x H2 Q
def HS{r:V->Hp->VK->Prop}(hr:AZ X r)(he:PE X e te)(hs:PE X st ts):PE X (.Subscript e (.Slice none none (some st) p2) pos) (RZ r te ts):=by
 intro aa s σ H Q I h;refine Subscript_ (bJ (he aa s σ H _ I h) λv s1 ⟨x,H1,I1,r1,q1⟩=>?_)
 refine wpAny_Slice ?_;rw [evalPart_none];refine zzG (zzG ?_);rw [evalPart_some];refine bJ (hs aa s1 σ H1 _ I1 q1) λu s3 ⟨k,H3,I3,r3,q3⟩=>?_
 obtain⟨rfl,q3⟩:=q3
 obtain⟨t,rfl⟩:=r3
 have I4:Inv X aa σ H3 {s3 with heap:=s3.heap.push {cls:=.type "slice",data:=.fields #[.none,.none,.int (-1) t]}}:=I3.kept (t':=s3.toks) λb ob q=>zzB _ q
 obtain⟨T,id,hT,ht,hg⟩:=hr aa {s3 with heap:=s3.heap.push {cls:=.type "slice",data:=.fields #[.none,.none,.int (-1) t]}} σ H3 x v (.int (-1) t) (zz9 s3) Q I4 r1 (Heap.IsSliceOf.new ..) (.int _ _) q3
 show wpAny (model X.prog X.w) X.A (subscriptTail e (.Slice none none (some st) p2) v (.ref (zz9 s3))) (EP X aa σ Q) X.xe {s3 with heap:=s3.heap.push {cls:=.type "slice",data:=.fields #[.none,.none,.int (-1) t]}}
 exact tail_any (ops:=[v,.ref (zz9 s3)]) ht hT hg (by with_unfolding_all rfl)
end
end L2
namespace Ci
open PySem L2
inductive Res(α:Type) where
 |ok (a:α)|exc (c:Str)|bad
noncomputable def Res.bind{α β:Type}:Res α->(α->Res β)->Res β
 |.ok a,f=>f a
 |.exc c,_=>.exc c
 |.bad,_=>.bad
noncomputable instance:Monad Res where
 pure:=.ok
 bind:=Res.bind
def Res.aZ{α β:Type}{r:Res α}{f:α->Res β}{b:β}(h:r.bind f=.ok b):∃a,r=.ok a/\f a=.ok b:=by
 cases r with
 |ok a=>exact⟨a,rfl,h⟩
 |exc c=>cases h
 |bad=>cases h
def Res.dz{α β:Type}{r:Res α}{f:α->Res β}{c:Str}(h:r.bind f=.exc c):r=.exc c\/∃a,r=.ok a/\f a=.exc c:=by
 cases r with
 |ok a=>exact .inr ⟨a,rfl,h⟩
 |exc c'=>cases h;exact .inl rfl
 |bad=>cases h
noncomputable def Res.of{α:Type}:Option α->Res α
 |some a=>.ok a
 |none=>.bad
noncomputable def Res.well{α:Type}:Res α->Res α
 |.ok a=>.ok a
 |_=>.bad
abbrev eg:Nat:=1000000
noncomputable def eqs(f:PV->PV->Bool):List PV->List PV->Bool
 |[],[]=>true
 |x::xs,y::ys=>f x y&&eqs f xs ys
 |_,_=>false
noncomputable def kM:Nat->PV->PV->Bool
 |_,.aM,.aM=>true
 |_,.bl a,.bl b=>a==b
 |_,.bl a,.int i=>(if a then 1 else 0)==i
 |_,.int i,.bl a=>i==(if a then 1 else 0)
 |_,.int i,.int j=>i==j
 |_,.str x,.str y=>x==y
 |n+1,.tup xs,.tup ys=>eqs (kM n) xs ys
 |n+1,.lst xs,.lst ys=>eqs (kM n) xs ys
 |_,_,_=>false
noncomputable def plain:Nat->PV->Bool
 |_,.aM=>true
 |_,.bl _=>true
 |_,.int _=>true
 |_,.str _=>true
 |n+1,.tup xs=>xs.all (plain n)
 |n+1,.lst xs=>xs.all (plain n)
 |_,_=>false
abbrev DP:Nat:=9
noncomputable abbrev eqv:PV->PV->Bool:=kM DP
noncomputable abbrev Ll:PV->Bool:=plain DP
inductive E3 where|add|sub|mul|mod|fdiv
inductive xT where|eq|ne|lt|le|gt|is|CD|uV
noncomputable def aK(i:Int):Bool:=decide (-(2^64)<i)&&decide (i<2^64)
noncomputable def binOp:E3->PV->PV->Res PV
 |.add,.int i,.int j=>.ok (.int (i+j))
 |.add,.str x,.str y=>if x.length+y.length<=eg then .ok (.str (x++y)) else .bad
 |.sub,.int i,.int j=>.ok (.int (i-j))
 |.mul,.int i,.int j=>if aK i||aK j then .ok (.int (i*j)) else .bad
 |.mul,.tup x,.int j=>if 1<=j/\j<1000/\0<x.length/\x.length<1000 then .ok (.tup (List.replicate j.toNat x).flatten) else .bad
 |.mod,.int i,.int j=>if 0<j then .ok (.int (i%j)) else .bad
 |.fdiv,.int i,.int j=>if 0<j/\j<1073741824 then .ok (.int (i/j)) else .bad
 |_,_,_=>.bad
noncomputable def intsOf:List PV->Option (List Int)
 |[]=>some []
 |.int i::r=>(intsOf r).map (i::·)
 |_=>none
noncomputable def aj{α:Type}:List (List Int)->List α->List Int->Option α
 |k'::ks,v::vs,k=>if k'=k then some v else aj ks vs k
 |_,_,_=>none
noncomputable def cJ(ks:List (List Int))(k:List Int):Bool:=ks.any λk'=>decide (k'=k)
noncomputable def bG(ks:List (List Int))(k:List Int):List (List Int):=if cJ ks k then ks else ks++[k]
noncomputable def bC{α:Type}(ks:List (List Int))(vs:List α)(k:List Int)(p:α):List α:=if cJ ks k then List.zipWith (λk' v=>if k'=k then p else v) ks vs else vs++[p]
noncomputable def bP(ks:List (List Int))(k:List Int):List (List Int):=ks.filter λk'=>decide (k'≠k)
noncomputable def aP{α:Type}:List (List Int)->List α->List Int->List α
 |k'::ks,v::vs,k=>if k'=k then aP ks vs k else v::aP ks vs k
 |_,_,_=>[]
noncomputable def bZ(k:List Int):PV:=.tup (k.map .int)
noncomputable def G8:PV->Option (List Int)
 |.tup xs=>intsOf xs
 |_=>none
noncomputable def dP(d:Int):PV:=if d= -1 then .aM else match(if d<0 then none else rj[d.toNat]?) with
 |some s=>.str s
 |none=>.int d
noncomputable def dI:PV->Option Int
 |.aM=>some (-1)
 |.str s=>if s∈rj then some (rj.idxOf s) else none
 |_=>none
noncomputable def kP:List Int->PV
 |[r,c,d]=>.tup [.tup [.int r,.int c],dP d]
 |k=>bZ k
noncomputable def kI:PV->Option (List Int)
 |.tup [.tup [.int r,.int c],x]=>(dI x).map λd=>[r,c,d]
 |x=>(G8 x).bind λk=>if k.length=3 then none else some k
noncomputable def g9(a b:PV):Res PV:=if Ll a&&Ll b then .ok (.bl (eqv a b)) else .bad
noncomputable def mn(a b:PV):Res PV:=if Ll a&&Ll b then .ok (.bl (!eqv a b)) else .bad
noncomputable def qO:PV->PV->Res PV
 |.int i,.int j=>.ok (.bl (decide (i<j)))
 |_,_=>.bad
noncomputable def qN:PV->PV->Res PV
 |.int i,.int j=>.ok (.bl (decide (i<=j)))
 |_,_=>.bad
noncomputable def sE:PV->PV->Res PV
 |.int i,.int j=>.ok (.bl (decide (j<i)))
 |.str i,.str j=>.ok (.bl (decide (j.cps.toList<i.cps.toList)))
 |_,_=>.bad
noncomputable def y8:PV->Bool
 |.aM=>true
 |_=>false
noncomputable def oM:PV->PV->Res PV
 |a,.aM=>.ok (.bl (y8 a))
 |_,_=>.bad
noncomputable def f9:PV->PV->Res PV
 |a,.aM=>.ok (.bl (!y8 a))
 |_,_=>.bad
noncomputable def ji:PV->PV->Res PV
 |a,.bF ks _=>(Res.of (kI a)).bind λk=>.ok (.bl (!cJ ks k))
 |_,_=>.bad
noncomputable def dJ:xT->PV->PV->Res PV
 |.eq=>g9|.ne=>mn|.lt=>qO|.le=>qN|.gt=>sE|.is=>oM|.CD=>f9|.uV=>ji
noncomputable def aJ:PV->PV->Res PV
 |.lst xs,.int i=>Res.of (pC xs i)
 |.tup xs,.int i=>Res.of (pC xs i)
 |.str z,.int i=>if z.length<=eg then(Res.of (pC z.cps.toList i)).bind λc=>.ok (.str ⟨#[c]⟩) else .bad
 |.bF ks vs,y=>(Res.of (kI y)).bind λk=>Res.of (aj ks vs k)
 |_,_=>.bad
noncomputable def yj{α:Type}(xs:List α)(lo hi:Option Int):List α:=(xs.drop (HT.dw xs.length 0 lo)).take (HT.dw xs.length xs.length hi-HT.dw xs.length 0 lo)
noncomputable def gJ:PV->Option Int->Option Int->Res PV
 |.tup xs,lo,hi=>.ok (.tup (yj xs lo hi))
 |_,_,_=>.bad
inductive B where|len|abs|max2|int|str|tuple
noncomputable def chars(z:Str):List PV:=z.cps.toList.map λc=>.str ⟨#[c]⟩
noncomputable def rN:List PV->Res PV
 |[.lst xs]=>.ok (.int xs.length)
 |[.tup xs]=>.ok (.int xs.length)
 |[.str z]=>if z.length<=eg then .ok (.int z.length) else .bad
 |[.bF ks _]=>.ok (.int ks.length)
 |_=>.bad
noncomputable def ya:List PV->Res PV
 |[.int i]=>.ok (.int (if i<0 then -i else i))
 |_=>.bad
noncomputable def yc:List PV->Res PV
 |[.int i,.int j]=>.ok (.int (if j>i then j else i))
 |_=>.bad
noncomputable def yb:List PV->Res PV
 |[.str z]=>if z.length<=640 then(Res.of (PySem.intText? z)).bind λn=>.ok (.int n) else .bad
 |_=>.bad
noncomputable def yd:List PV->Res PV
 |[.int i]=>if i.natAbs.log2<1920 then .ok (.str (toString i)) else .bad
 |_=>.bad
noncomputable def kA:List PV->Res PV
 |[.lst xs]=>.ok (.tup xs)
 |_=>.bad
noncomputable def er:B->List PV->Res PV
 |.len=>rN|.abs=>ya|.max2=>yc|.int=>yb|.str=>yd|.tuple=>kA
inductive Ty where|int|bool|tuple
noncomputable def g6:Ty->PV->Bool
 |.int,.int _=>true
 |.int,.bl _=>true
 |.bool,.bl _=>true
 |.tuple,.tup _=>true
 |_,_=>false
noncomputable def jV(t:Ty):PV->Res PV
 |.exc _=>.bad
 |.bF _ _=>.bad
 |p=>.ok (.bl (g6 t p))
noncomputable def strsOf:List PV->Option (List Str)
 |[]=>some []
 |.str z::r=>(strsOf r).map (z::·)
 |_=>none
inductive M where|join
noncomputable def qC:List PV->Res PV
 |[.str z,.lst xs]=>(Res.of (strsOf xs)).bind λys=>if z.length<=16/\(ys.map (·.length)).sum+ys.length<=eg then .ok (.str (Txt.join z ys)) else .bad
 |_=>.bad
noncomputable def uU:M->List PV->Res PV
 |.join=>qC
noncomputable def uS:M->PV->Bool
 |.join,.str _=>true
 |_,_=>false
inductive Tg where
 |one (i:Nat)|two (i j:Nat)
mutual
inductive E where
 |var (i:Nat)|gV (i:Nat)
 |cst (p:PV)
 |glob (g:Str) (p:PV)
 |call (f:Str) (as:Es)
 |ip (i:Nat) (as:Es)
 |mJ (f:Str) (as:Es) (g:Str) (idx:List Nat) (aS:List Nat)
 |blt (b:B) (as:Es)
 |ty (t:Ty) (a:E)
 |Jp (m:M) (o:E) (as:Es)
 |bin (o:E3) (a b:E)
 |cmp (o:xT) (a b:E)
 |ch (o1 o2:xT) (a b c:E)
 |not (a:E)
 |neg (a:E)
 |and (a b:E)|or (a b:E)
 |ite (c a b:E)
 |tup (as:Es)|lst (as:Es)
 |sub (a b:E)
 |slice (a:E) (lo hi:Oe)
 |comp (k:Nat) (aS:List Nat) (tg:Tg) (it:I) (elt:E)
 |dD (k:Nat) (aS:List Nat) (tg:Tg) (it:I) (c elt:E)
 |rev (a:E)
inductive Es where
 |nil|cons (e:E) (es:Es)
inductive Oe where
 |no|some (e:E)
inductive I where
 |seq (e:E)|rD (e:E)|oY (a b:E)|enum (e:E)
end
mutual
inductive S where
 |expr (e:E)
 |set (i:Nat) (e:E)
 |own (i:Nat) (e:E)
 |bq (i:Nat)
 |app (i:Nat) (e:E)
 |og (i:Nat) (e:E)
 |put (i:Nat) (k e:E)
 |ret (e:E)
 |ite (c:E) (a b:Ss)
 |dF (tg:Tg) (it:I) (b:Ss)
 |Bd (c:E) (b:Ss)
 |raise (c:Str) (m:Str)
 |brk
 |i4 (i:Nat)
 |d8 (i j n:Nat)
 |lh (m i:Nat)
 |mi (m:Nat) (e:E) (i:Nat)
inductive Ss where
 |nil|cons (s:S) (ss:Ss)
end
noncomputable def eL:List Int->Nat->Nat->Int->Nat
 |[],_,b,_=>b
 |c::cs,j,b,m=>if c<m then eL cs (j+1) j c else eL cs (j+1) b m
noncomputable def pL:List Int->Option Nat
 |[]=>none
 |c::cs=>some (eL cs 1 0 c)
noncomputable def qA:List PV->Option (List (List Int))
 |[]=>some []
 |x::r=>(kI x).bind λk=>(qA r).map (k::·)
noncomputable def L6(b:Bool):PV->Option Int
 |.tup (.int n::_)=>if b then some n else none
 |.int n=>if b then none else some n
 |_=>none
noncomputable def Br(b:Bool)(ks:List (List Int))(ps:List PV):List (List Int)->Option (List Int)
 |[]=>some []
 |k::r=>((aj ks ps k).bind (L6 b)).bind λn=>(Br b ks ps r).map (n::·)
noncomputable def nj(b:Bool)(s:Option Slot)(p:PV):Res PV:=match p,s with
 |.lst xs,some (.val (.bF ks ps))=>match(qA xs).bind λkl=>(Br b ks ps kl).bind λcs=>(pL cs).bind λix=>kl[ix]? with
  |some k=>.ok (kP k)
  |none=>.bad
 |_,_=>.bad
noncomputable def gY:List PV->Option (List Int)
 |[]=>some []
 |.tup (.int c::_)::r=>(gY r).map (c::·)
 |_=>none
abbrev aU:=Str->List PV->Res PV
noncomputable def nA:Option Slot->Res PV
 |some (.val p)=>.ok p
 |_=>.bad
noncomputable def AB:Option Slot->Res PV
 |some (.val p)=>.ok p
 |some (.own p)=>.ok p
 |_=>.bad
noncomputable def Tg.put:Tg->PV->Sl->Res Sl
 |.one i,p,env=>.ok (env.set i (.val p))
 |.two i j,.tup [a,b],env=>.ok ((env.set i (.val a)).set j (.val b))
 |_,_,_=>.bad
noncomputable def iZ(env:Sl):List Nat->Res (List PV)
 |[]=>.ok []
 |i::r=>(nA env[i]?).bind λp=>(iZ env r).bind λps=>.ok (p::ps)
noncomputable def FC(i:Nat):PV:=.tup (List.replicate (Ep i) (.str (JX i)))
noncomputable def atC(l:List PV)(i:Nat):Res PV:=if i<10000 then Res.of l[i]? else .ok (FC i)
noncomputable def en(l:List PV):List Nat->Res (List PV)
 |[]=>.ok []
 |i::r=>(atC l i).bind λp=>(en l r).bind λps=>.ok (p::ps)
noncomputable def ff(env:Sl)(aS:List Nat):Sl:=aS.map λi=>env.getD i .no
noncomputable def itemsOf:PV->Res (List PV)
 |.lst xs=>.ok xs
 |.tup xs=>.ok xs
 |.str z=>.ok (chars z)
 |_=>.bad
noncomputable def xw(e:E)(p:PV):Res (List PV):=match p,e with
 |.bF _ _,.gV _=>.bad
 |.bF ks _,_=>.ok (ks.map kP)
 |.lst xs,_=>.ok xs
 |.tup xs,_=>.ok xs
 |_,_=>.bad
noncomputable def fb(lo:Int)(n:Nat):List PV:=(List.range n).map λi=>.int (lo+(i:Nat))
noncomputable def aR(i:Int):Bool:=decide (-(2^62)<=i)&&decide (i<2^62)
noncomputable def mi:List (List PV)->Nat
 |[]=>0
 |[xs]=>xs.length
 |xs::r=>min xs.length (mi r)
noncomputable def cG(n:Nat):List PV->List PV
 |[]=>[]
 |x::xs=>.tup [.int (n:Nat),x]::cG (n+1) xs
noncomputable def oc:Option PV->List PV->List PV
 |some y,ys=>y::ys
 |none,ys=>ys
noncomputable def bb(f:PV->Res (Option PV)):List PV->Res (List PV)
 |[]=>.ok []
 |x::xs=>(f x).well.bind λo=>(bb f xs).bind λys=>.ok (oc o ys)
noncomputable def pB{α:Type}(p:PV)(f:Bool->Res α):Res α:=match p with
 |.bl b=>f b
 |_=>.bad
section
variable(F:aU)
mutual
noncomputable def aC:E->Sl->Res PV
 |.var i,env=>nA env[i]?
 |.gV i,env=>AB env[i]?
 |.cst p,_=>.ok p
 |.glob _ p,_=>.ok p
 |.call f as,env=>(bY as env).bind λps=>F f ps
 |.ip i as,env=>match env[i]? with
  |some (.fn g idx cu)=>(bY as env).bind λps=>if idx.head?=some ps.length then(en (ps++cu) idx.tail).bind λqs=>F g qs else .bad
  |_=>.bad
 |.mJ f as _ _ aS,env=>(bY as env).bind λps=>(iZ env aS).bind λcs=>F f (ps++cs)
 |.blt b as,env=>(bY as env).bind λps=>er b ps
 |.ty t a,env=>(aC a env).bind λp=>jV t p
 |.Jp m o as,env=>(aC o env).bind λp=>if uS m p then(bY as env).bind λps=>uU m (p::ps) else .bad
 |.bin o a b,env=>(aC a env).bind λx=>(aC b env).bind λy=>binOp o x y
 |.cmp o a b,env=>(aC a env).bind λx=>(aC b env).bind λy=>dJ o x y
 |.ch o1 o2 a b c,env=>(aC a env).bind λx=>(aC b env).bind λy=>(dJ o1 x y).bind λt=>pB t λt=>
  if t then(aC c env).bind λz=>dJ o2 y z else .ok (.bl false)
 |.not a,env=>(aC a env).bind λx=>pB x λb=>.ok (.bl (!b))
 |.neg a,env=>(aC a env).bind λx=>match x with|.int i=>.ok (.int (-i))|_=>.bad
 |.and a b,env=>(aC a env).bind λx=>pB x λt=>if t then aC b env else .ok (.bl false)
 |.or a b,env=>(aC a env).bind λx=>pB x λt=>if t then .ok (.bl true) else aC b env
 |.ite c a b,env=>(aC c env).bind λx=>pB x λt=>if t then aC a env else aC b env
 |.tup as,env=>(bY as env).bind λps=>.ok (.tup ps)
 |.lst as,env=>(bY as env).bind λps=>.ok (.lst ps)
 |.sub a b,env=>(aC a env).bind λx=>(aC b env).bind λy=>aJ x y
 |.slice a lo hi,env=>(aC a env).bind λx=>(uu lo env).bind λl=>(uu hi env).bind λh=>gJ x l h
 |.comp k aS tg it elt,env=>(qb it env).bind λxs=>if xs.length<eg then(bb (λx=>(tg.put x (List.replicate k .no++ff env aS)).bind λay=>(aC elt ay).bind λy=>.ok (some y)) xs).bind λys=>.ok (.lst ys) else .bad
 |.dD k aS tg it c elt,env=>(qb it env).bind λxs=>if xs.length<eg then(bb (λx=>(tg.put x (List.replicate k .no++ff env aS)).bind λay=>(aC c ay).bind λt=>pB t λt=>if t then(aC elt ay).bind λy=>.ok (some y) else .ok none) xs).bind λys=>.ok (.lst ys) else .bad
 |.rev a,env=>(aC a env).bind λp=>match p with|.str z=>(if z.length<=eg then .ok (.str (ft z)) else .bad)|.tup xs=>.ok (.tup xs.reverse)|.lst xs=>.ok (.lst xs.reverse)|_=>.bad
noncomputable def bY:Es->Sl->Res (List PV)
 |.nil,_=>.ok []
 |.cons e es,env=>(aC e env).bind λp=>(bY es env).bind λps=>.ok (p::ps)
noncomputable def uu:Oe->Sl->Res (Option Int)
 |.no,_=>.ok none
 |.some e,env=>(aC e env).bind λp=>match p with|.int i=>.ok (some i)|_=>.bad
noncomputable def qb:I->Sl->Res (List PV)
 |.seq e,env=>(aC e env).bind (xw e)
 |.rD e,env=>(aC e env).bind λp=>match p with|.int j=>if aR j then .ok (fb 0 j.toNat) else .bad|_=>.bad
 |.oY a b,env=>(aC a env).bind λp=>(aC b env).bind λq=>match p,q with|.int i,.int j=>if aR i&&aR j then .ok (fb i (j-i).toNat) else .bad|_,_=>.bad
 |.enum e,env=>(aC e env).bind λp=>(itemsOf p).bind λxs=>.ok (cG 0 xs)
end
end
inductive Fl where
 |nx (env:Sl)|bk (env:Sl)|ct (env:Sl)|rt (p:PV)
noncomputable def Fl.seq(f:Fl)(k:Sl->Res Fl):Res Fl:=match f with
 |.nx env=>k env
 |f=>.ok f
noncomputable def forL(body:PV->Sl->Res Fl):List PV->Sl->Res Fl
 |[],env=>.ok (.nx env)
 |x::xs,env=>(body x env).bind λf=>match f with
  |.nx ay=>forL body xs ay
  |.ct ay=>forL body xs ay
  |.bk ay=>.ok (.nx ay)
  |.rt p=>.ok (.rt p)
noncomputable def c7(c:Sl->Res PV)(body:Sl->Res Fl):Nat->Sl->Res Fl
 |0,_=>.bad
 |n+1,env=>(c env).bind λt=>pB t λt=>if t then(body env).bind λf=>(match f with
  |.nx ay=>c7 c body n ay
  |.ct ay=>c7 c body n ay
  |.bk ay=>.ok (.nx ay)
  |.rt p=>.ok (.rt p)) else .ok (.nx env)
abbrev WN:Nat:=1000000
noncomputable def oj:Slot->Slot
 |.own p=>.val p
 |s=>s
section
variable(F:aU)
mutual
noncomputable def ib:S->Sl->Res Fl
 |.expr e,env=>(aC F e env).bind λ_=>.ok (.nx env)
 |.set i e,env=>(aC F e env).bind λp=>.ok (.nx (env.set i (.val p)))
 |.own i e,env=>(aC F e env).bind λp=>.ok (.nx (env.set i (.own p)))
 |.bq i,env=>.ok (.nx (env.modify i oj))
 |.app i e,env=>match env[i]? with
  |some (.own (.lst xs))=>(aC F e env).bind λp=>if xs.length<eg then .ok (.nx (env.set i (.own (.lst (xs++[p]))))) else .bad
  |_=>.bad
 |.og i e,env=>match env[i]? with
  |some (.own (.lst xs))=>(aC F e env).bind λp=>match p with
   |.lst ys=>if xs.length+ys.length<=eg then .ok (.nx (env.set i (.own (.lst (xs++ys))))) else .bad
   |_=>.bad
  |_=>.bad
 |.put i k e,env=>(aC F e env).bind λp=>match env[i]? with
  |some (.own (.bF ks vs))=>(aC F k env).bind λkp=>match kI kp with
   |some kk=>if ks.length<eg then .ok (.nx (env.set i (.own (.bF (bG ks kk) (bC ks vs kk p))))) else .bad
   |none=>.bad
  |_=>.bad
 |.ret e,env=>(aC F e env).bind λp=>.ok (.rt p)
 |.ite c a b,env=>(aC F c env).bind λp=>pB p λt=>if t then bw a env else bw b env
 |.dF tg it b,env=>(qb F it env).bind λxs=>forL (λx env=>(tg.put x env).bind λay=>bw b ay) xs env
 |.Bd c b,env=>c7 (aC F c) (bw b) WN env
 |.raise c _,_=>.exc c
 |.brk,env=>.ok (.bk env)
 |.i4 i,env=>.ok (.nx (env.set i (.own (.bF [] []))))
 |.d8 i j n,env=>match env[j]?,env[i]?,env[n]? with
  |some (.own (.bF ks vs)),some (.own (.bF ks2 LK)),some (.val kp)=>match kI kp with
   |some kk=>match aj ks vs kk with
    |some p=>if ks2.length<eg/\i≠j then .ok (.nx ((env.set j (.own (.bF (bP ks kk) (aP ks vs kk)))).set i (.own (.bF (bG ks2 kk) (bC ks2 LK kk p))))) else .bad
    |none=>.bad
   |none=>.bad
  |_,_,_=>.bad
 |.mi m e i,env=>(aC F e env).bind λp=>match nj true env[i]? p with
  |.ok r=>.ok (.nx (env.set m (.val r)))
  |_=>.bad
 |.lh m i,env=>match env[i]? with
  |some (.own (.bF ks vs))=>match gY vs with
   |some cs=>match(pL cs).bind λx=>ks[x]? with
    |some k=>.ok (.nx (env.set m (.val (kP k))))
    |none=>.bad
   |none=>.bad
  |_=>.bad
noncomputable def bw:Ss->Sl->Res Fl
 |.nil,env=>.ok (.nx env)
 |.cons s ss,env=>(ib s env).bind λf=>f.seq (bw ss)
end
end
structure Def where
 N:List Str
 np:Nat
 body:Ss
 gz:Option (Str×List Nat):=none
noncomputable def cK(d:Def)(as:List PV):Sl:=match d.gz with
 |none=>as.map .val++List.replicate (d.N.length-as.length) .no
 |some q=>(as.take (d.np-1)).map .val++.fn q.1 q.2 (as.drop (d.np-1))::List.replicate (d.N.length-d.np) .no
noncomputable def cI(d:Def)(as:List PV):Bool:=match d.gz with
 |none=>as.length==d.np
 |some _=>decide (0<d.np)&&decide (d.np-1<=as.length)
noncomputable def az(F:aU)(d:Def)(as:List PV):Res PV:=
 if cI d as then(bw F d.body (cK d as)).bind λf=>match f with
  |.nx _=>.ok .aM
  |.rt p=>.ok p
  |_=>.bad
 else .bad
noncomputable def den:List (Str×Def)->aU
 |[],_,_=>.bad
 |(n,d)::r,f,as=>if f==n then az (den r) d as else den r f as
def LI{a b:Int}{s:Str}(e:(if a<0 then none else rj[a.toNat]?)=some s)(e':(if b<0 then none else rj[b.toNat]?)=some s):a=b:=by
 have nd:rj.Nodup:=by decide+kernel
 split at e
 ·cases e
 split at e'
 ·cases e'
 obtain⟨i1,e1⟩:=zzH.mp e
 obtain⟨i2,e2⟩:=zzH.mp e'
 have:=(List.getElem_inj nd).1 (e1.trans e2.symm)
 omega
def FI{a b:Int}(h:dK a=dK b):a=b:=by
 unfold dK at h
 by_cases ha:a= -1<;>by_cases hb:b= -1
 ·omega
 ·rw [if_pos ha,if_neg hb] at h;split at h<;>cases h
 ·rw [if_neg ha,if_pos hb] at h;split at h<;>cases h
 ·rw [if_neg ha,if_neg hb] at h;cases e:(if a<0 then none else rj[a.toNat]?)<;>cases e':(if b<0 then none else rj[b.toNat]?)<;>rw [e,e'] at h<;>cases h
  ·rfl
  ·exact LI e e'
def so{a b:List Int}(h:ki a=ki b):a=b:=by
 have go:∀{a b:List Int},a.map iK=b.map iK->a=b:=by
  intro a
  induction a with
  |nil=>intro b h;cases b with|nil=>rfl|cons=>cases h
  |cons x a ih=>intro b h;cases b with
   |nil=>cases h
   |cons y b=>simp! [zzF,List.cons.injEq,bg.k.injEq,Sum.inl.injEq] at h;rw [h.1,ih h.2]
 unfold ki at h;split at h<;>split at h
 ·simp! [List.cons.injEq,bg.t.injEq,Sum.inl.injEq] at h;rw [h.1.1,h.1.2.1,FI h.2.1]
 ·rename_i x _;rcases b with _|⟨q,b⟩
  ·cases h
  ·cases h
 ·rcases a with _|⟨q,b⟩
  ·cases h
  ·cases h
 ·exact go h
def NQ{H:Hp}{b:Addr}{k:List Int}(n:k.length≠3)(e:H b=some (.tup (k.map V.int))):cg H b (ki k):=by rw [uL n];exact cg.ints e
def NP{H:Hp}{b:Addr}{k:List Int}(n:k.length≠3)(e:cg H b (ki k)):H b=some (.tup (k.map V.int)):=by rw [uL n] at e;exact e.IM
theorem iL{k:List Int}{ks:List (List Int)}{u:V}{us:List V}:kz (k::ks) (u::us)=(ki k,u)::kz ks us:=rfl
def fW{ks:List (List Int)}{us:List V}(h:ks.length=us.length):(kz ks us).length=ks.length:=by
 unfold kz;rw [List.length_zip,zzl];omega
def uO{ks:List (List Int)}{us:List V}(h:ks.length=us.length):(kz ks us).map (·.1)=ks.map ki:=by
 unfold kz;exact List.map_fst_zip (by rw [zzl];omega)
theorem i9(k:List Int):∀(ks:List (List Int)) (us:List V),fH (kz ks us) (ki k)=aj ks us k
 |[],us=>by unfold aj;rfl
 |a::ks,[]=>by unfold aj;rfl
 |a::ks,u::us=>by
  rw [iL];unfold aj
  by_cases h:a=k
  ·subst h;rw [if_pos rfl];exact gy rfl
  ·rw [if_neg h,gu (λz=>h (so z))];exact i9 k ks us
theorem du{α:Type}(k:List Int):∀(ks:List (List Int)) (us:List α),ks.length=us.length->(aj ks us k).isSome=cJ ks k
 |[],[],_=>rfl
 |a::ks,u::us,h=>by
  unfold aj cJ;rw [List.any_cons]
  by_cases e:a=k
  ·simp [e]
  ·rw [if_neg e];have:=du k ks us (by simpa using h)
   unfold cJ at this;rw [this];simp [e]
 |[],_::_,h=>by simp at h
 |_::_,[],h=>by simp at h
def Fh(k:List Int):∀(ks:List (List Int)) (us:List V),ks.length=us.length->((kz ks us).any λkv=>decide (kv.1=ki k))=cJ ks k:=λks us h=>by
 rw [lV,i9,du k ks us h]
def zo{ks:List (List Int)}{us:List V}(h:ks.length=us.length)(k:List Int)(v:V):putK (kz ks us) (ki k) v=kz (bG ks k) (bC ks us k v):=by
 unfold putK bG bC;rw [Fh k ks us h];split
 ·have go:∀(ks:List (List Int)) (us:List V),(kz ks us).map (λkv=>if kv.1=ki k then(kv.1,v) else kv)=kz ks (List.zipWith (λk' u=>if k'=k then v else u) ks us):=by
   intro ks
   induction ks with
   |nil=>intro us;simp [kz]
   |cons a ks ih=>
    intro us;cases us with
    |nil=>simp [kz]
    |cons u us=>
     rw [iL,zzF,List.zipWith_cons_cons,iL,ih]
     by_cases e:a=k
     ·simp [e]
     ·rw [if_neg (λz=>e (so z)),if_neg e]
  exact go ks us
 ·unfold kz;rw [List.map_append,List.zip_append (by rw [zzl];exact h)]
  rfl
def qR{α:Type}{ks:List (List Int)}{us:List α}(h:ks.length=us.length)(k:List Int)(v:α):(bG ks k).length=(bC ks us k v).length:=by
 unfold bG bC;split
 ·rw [List.length_zipWith];omega
 ·simp [h]
theorem uN(k:List Int):∀{ks:List (List Int)} {us:List V},ks.length=us.length->fw (kz ks us) (ki k)=kz (bP ks k) (aP ks us k)
 |[],[],_=>rfl
 |a::ks,u::us,h=>by
  have ih:=uN k (ks:=ks) (us:=us) (by simpa using h)
  unfold bP aP;rw [iL,zz3]
  by_cases e:a=k
  ·subst e;rw [wb rfl,ih];simp [bP]
  ·rw [wa (λz=>e (so z)),ih,if_neg e,if_pos (by simpa using e),iL]
   rfl
 |[],_::_,h=>by simp at h
 |_::_,[],h=>by simp at h
theorem p8{α:Type}(k:List Int):∀{ks:List (List Int)} {us:List α},ks.length=us.length->(bP ks k).length=(aP ks us k).length
 |[],[],_=>by unfold aP;rfl
 |a::ks,u::us,h=>by
  have ih:=p8 k (ks:=ks) (us:=us) (by simpa using h)
  unfold bP aP;rw [zz3]
  by_cases e:a=k
  ·subst e;rw [if_neg (by simp),if_pos rfl];exact ih
  ·rw [if_neg e,if_pos (by simpa using e),zzL,zzL];exact congrArg (·+1) ih
 |[],_::_,h=>by simp at h
 |_::_,[],h=>by simp at h
section
variable{W:Wd}{G:Hp}
theorem kb{k:List Int}{p:PV}:∀{ks:List (List Int)} {ps:List PV} {us:List V},ai W G ps us->aj ks ps k=some p->∃v,aj ks us k=some v/\Rep W G p v
 |[],_,_,_,e=>by unfold aj at e;cases e
 |a::ks,[],_,_,e=>by unfold aj at e;cases e
 |a::ks,q::ps,_,l,e=>by
  obtain⟨v,r,rfl,h1,h2⟩:=l.bU
  unfold aj at e⊢
  by_cases h:a=k
  ·rw [if_pos h] at e⊢;cases e;exact⟨v,rfl,h1⟩
  ·rw [if_neg h] at e⊢;exact kb h2 e
theorem AY{k:List Int}{p:PV}{v:V}(hp:Rep W G p v):∀{ks:List (List Int)} {ps:List PV} {us:List V},ai W G ps us->ai W G (List.zipWith (λk' v=>if k'=k then p else v) ks ps) (List.zipWith (λk' u=>if k'=k then v else u) ks us)
 |[],_,_,_=>by simp! [List.zipWith_nil_left];exact .nil
 |a::ks,[],_,l=>by simp! [ai] at l;subst l;simp! [List.zipWith_nil_right];exact .nil
 |a::ks,q::ps,_,l=>by
  obtain⟨u,r,rfl,h1,h2⟩:=l.bU
  rw [List.zipWith_cons_cons,List.zipWith_cons_cons];refine .cons ?_ (AY hp h2);split
  ·exact hp
  ·exact h1
def ve{ks:List (List Int)}{ps:List PV}{us:List V}{k:List Int}{p:PV}{v:V}(l:ai W G ps us)(hp:Rep W G p v):ai W G (bC ks ps k p) (bC ks us k v):=by
 unfold bC;split
 ·exact AY hp l
 ·exact l.append (.cons hp .nil)
theorem kJ{k:List Int}:∀{ks:List (List Int)} {ps:List PV} {us:List V},ai W G ps us->ai W G (aP ks ps k) (aP ks us k)
 |[],_,_,_=>by unfold aP;exact .nil
 |a::ks,[],_,l=>by simp! [ai] at l;subst l;unfold aP;exact .nil
 |a::ks,q::ps,_,l=>by
  obtain⟨u,r,rfl,h1,h2⟩:=l.bU
  unfold aP;split
  ·exact kJ h2
  ·exact .cons h1 (kJ h2)
end
theorem mZ:∀{xs:List PV} {ns:List Int},intsOf xs=some ns->xs=ns.map .int
 |[],_,e=>by cases e;rfl
 |.int i::r,_,e=>by
  unfold intsOf at e;obtain⟨ns,h1,rfl⟩:=zzJ.mp e
  rw [mZ h1];rfl
 |.aM::_,_,e=>by cases e
 |.bl _::_,_,e=>by cases e
 |.str _::_,_,e=>by cases e
 |.tup _::_,_,e=>by cases e
 |.lst _::_,_,e=>by cases e
 |.exc _::_,_,e=>by cases e
 |.bF _ _::_,_,e=>by cases e
def CK{p:PV}{k:List Int}(h:G8 p=some k):p=bZ k:=by
 unfold G8 at h;split at h
 ·rw [mZ h];rfl
 ·cases h
def JZ{p:PV}{d:Int}(h:dI p=some d):p=dP d:=by
 unfold dI at h;split at h
 ·cases h;rfl
 ·rename_i s;split at h
  ·rename_i m;cases h;have hl:=List.idxOf_lt_length_iff.2 m
   unfold dP;rw [if_neg (by omega),if_neg (by omega),zz4,zzg hl,List.getElem_idxOf]
  ·cases h
 ·cases h
def oE{k:List Int}(n:k.length≠3):kP k=bZ k:=by
 unfold kP;split
 ·exact absurd rfl n
 ·rfl
def qw{p:PV}{k:List Int}(h:kI p=some k):p=kP k:=by
 unfold kI at h;split at h
 ·obtain⟨d,h1,rfl⟩:=zzJ.mp h
  rw [JZ h1];rfl
 ·obtain⟨k',h1,h2⟩:=zzZ.mp h
  split at h2
  ·cases h2
  ·rename_i n;cases h2;rw [oE n];exact CK h1
section
variable{W:Wd}{G H H0:Hp}
def Top.ky{k:List Int}{v:V}(s:ax G H)(h:Top W H0 G H (kP k) v):∃b,v=.ref b/\cg G b (ki k):=by
 by_cases n:k.length=3
 ·match k,n with
  |[r,c,d],_=>
   rcases h with h|h
   ·have h:Rep W G (.tup [.tup [.int r,.int c],dP d]) v:=h
    simp! [Rep] at h;obtain⟨a,vs,rfl,q,l⟩:=h
    obtain⟨u,us,rfl,h1,l⟩:=l.bU
    obtain⟨w,ws,rfl,h2,l⟩:=l.bU
    simp! [ai] at l;subst l;obtain⟨a1,rfl,e1⟩:=Top.tupI (W:=W) (H0:=G) (G:=G) (H:=G) (ns:=[r,c]) (ax.refl G) rfl (.inl h1)
    rcases q with q|⟨_,_,z⟩
    ·refine⟨a,rfl,_,q,.cons ⟨a1,rfl,e1⟩ (.cons ?_ .nil)⟩;unfold dP at h2;unfold dK;split at h2
     ·simp! [Rep] at h2;rw [if_pos (by assumption)];exact h2
     ·rw [if_neg (by assumption)];split at h2<;>rename_i e<;>(try rw [e])<;>simp! [Rep] at h2<;>exact h2
    ·exact absurd zzP (z a1)
   ·exact h.elim
 ·rw [oE n] at h;obtain⟨a,e,q⟩:=Top.tupI s rfl h
  exact⟨a,e,NQ n q⟩
theorem Rep.ky{k:List Int}{v:V}(h:Rep W G (kP k) v):∃b,v=.ref b/\cg G b (ki k):=Top.ky (H0:=G) (ax.refl G) (.inl h)
def i8{b:Addr}{k:List bg}(s:ax G H)(h:cg G b k):cg H b k:=h.keeps λ_ _ e=>s _ _ e
def kU{b:Addr}{k:List Int}(sg:ax G H)(h:cg H b (ki k)):∃G',aA W G H G' H/\Rep W G' (kP k) (.ref b):=by
 have all:∀(G':Hp) (l:List Int),ai W G' (l.map .int) (l.map V.int):=λG' l=>by
  induction l with
  |nil=>exact .nil
  |cons x l ih=>exact .cons .i ih
 by_cases n:k.length=3
 ·match k,n with
  |[r,c,d],_=>
   obtain⟨vs,e,p⟩:=h
   cases p with
   |cons e1 p=>
    cases p with
    |cons e2 p=>
     cases p;obtain⟨a,rfl,e3⟩:=e1
     have g1:=aA.adopt (W:=W) sg e3
     have g2:=aA.adopt (W:=W) g1.sub e
     refine⟨_,g1.trans g2,.t (.inl ak) (.cons (Rep.same g2.g _ (.t (.inl ak) (all _ [r,c]))) (.cons ?_ .nil))⟩;unfold dK at e2;unfold dP;split at e2
     ·rw [if_pos (by assumption)];simp! [Rep];exact e2
     ·rw [if_neg (by assumption)];split at e2<;>rename_i z<;>(try rw [z])<;>simp! [Rep]<;>exact e2
 ·have e:=NP n h
  rw [oE n];exact⟨_,aA.adopt sg e,.t (.inl ak) (all _ _)⟩
end
end Ci
namespace L2
open PySem PySem.Spec PyProof.Rows
end L2
namespace Ci
open PySem L2
def k7{n:Nat}(h:n<=eg):n<=sizeLine:=zzU h (by decide)
section
variable{X:Cx}{W:Wd}{H0 G H:Hp}
def cL(W:Wd)(G H:Hp)(r:PV)(Q:VK):Prop:=∀v G' H',aA W G H G' H'->Rep W G' r v->Q v H'
def cL.at{r:PV}{Q:VK}{v:V}(h:cL W G H r Q)(s:ax G H)(k:Rep W G r v):Q v H:=h v G H (.refl s) k
def cL.tup{xs:List PV}{Q:VK}{vs:List V}{p:Addr}(h:cL W G H (.tup xs) Q)(s:ax G H)(k:ai W G xs vs)(hp:H p=none):Q (.ref p) (upd H p (.tup vs)):=
 h _ _ _ (.new s hp) (.t (.inl ak) (ai.same (bT (s.free hp)) xs k))
def cL.lst{xs:List PV}{Q:VK}{vs:List V}{p:Addr}(h:cL W G H (.lst xs) Q)(s:ax G H)(k:ai W G xs vs)(hp:H p=none):Q (.ref p) (upd H p (.lst vs)):=
 h _ _ _ (.new s hp) (.l (.inl (.inl ak)) (ai.same (bT (s.free hp)) xs k))
theorem j0{f:PV->PV->Bool}:∀{xs ys:List PV},xs.length≠ys.length->eqs f xs ys=false
 |[],[],h=>absurd rfl h
 |_::xs,_::ys,h=>by simp! [eqs];rw [j0 (xs:=xs) (ys:=ys) (λz=>h (by simp [z]))];simp
 |[],_::_,_=>rfl
 |_::_,[],_=>rfl
theorem jZ{f:PV->PV->Bool}:∀{xs ys:List PV},xs.length=ys.length->eqs f xs ys=(List.range xs.length).all λj=>f (xs.getD j .aM) (ys.getD j .aM)
 |[],[],_=>rfl
 |x::xs,y::ys,h=>by
  simp! [eqs];rw [jZ (xs:=xs) (ys:=ys) (by simpa using h),zzL,List.range_succ_eq_map,List.all_cons,List.all_map]
  rfl
 |[],_::_,h=>by simp at h
 |_::_,[],h=>by simp at h
def mR{f:PV->PV->Bool}:∀{xs ys:List PV},((List.range (min xs.length ys.length)).all (λj=>f (xs.getD j .aM) (ys.getD j .aM))&&xs.length==ys.length)=eqs f xs ys:=λ{xs ys}=>by
 by_cases h:xs.length=ys.length
 ·rw [jZ h,h,Nat.min_self,beq_self_eq_true,Bool.and_true]
 ·rw [j0 h,beq_eq_false_iff_ne.mpr h,Bool.and_false]
theorem qa{f:PV->PV->Bool}:∀{xs ys:List PV},xs.length=ys.length->(∀(j:Nat) x y,xs[j]?=some x->ys[j]?=some y->f x y=true)->eqs f xs ys=true
 |[],[],_,_=>rfl
 |x::xs,y::ys,h,k=>by
  simp! [eqs];rw [k 0 x y rfl rfl,qa (xs:=xs) (ys:=ys) (by simpa using h) λj a b ha hb=>k (j+1) a b (by simpa using ha) (by simpa using hb)]
  rfl
 |[],_::_,h,_=>by simp at h
 |_::_,[],h,_=>by simp at h
def qY(hK:W.K=X.K){a:Addr}{vs:List V}(h:rq W.K H a vs):iW X.K H a vs:=by
 rw [hK] at h;rcases h with h|⟨aw,n,h1,h2,h3⟩
 ·exact .inl h
 ·exact .inr ⟨_,aw,n,h1,rfl,rfl,rfl,h2,h3⟩
def qJ{aa:List (Addr×Obj)}{σ:St}{s:Shared}(I:Inv X aa σ H s){a:Addr}{vs us:List V}(h1:eU X.K H a vs)(h2:iW X.K H a us):False:=by
 obtain⟨aw,_,⟨o,e,hc,_⟩,_⟩:=I.tuple h1
 obtain⟨fD,_,⟨o2,n,e2,hc2,_⟩,_⟩:=I.list h2
 rw [e] at e2;cases e2;rw [hc] at hc2;exact absurd hc2 (by decide)
theorem nc{α:Type}:∀{xs ys:List α},xs.length=ys.length->(∀(j:Nat) x y,xs[j]?=some x->ys[j]?=some y->x=y)->xs=ys
 |[],[],_,_=>rfl
 |x::xs,y::ys,h,k=>by rw [k 0 x y rfl rfl,nc (xs:=xs) (ys:=ys) (by simpa using h) λj a b ha hb=>k (j+1) a b (by simpa using ha) (by simpa using hb)]
 |[],_::_,h,_=>by simp at h
 |_::_,[],h,_=>by simp at h
def QI(X:Cx)(W:Wd)(G H:Hp):PV->V->Prop
 |.aM,v=>v=.aM
 |.bl b,v=>v=.bl b
 |.int i,v=>v=.int i
 |.str z,v=>v=.str z
 |.tup xs,v=>∃a,v=.ref a/\∃vs,eU X.K H a vs/\ai W G xs vs
 |.lst xs,v=>∃a,v=.ref a/\∃vs,iW X.K H a vs/\ai W G xs vs
 |_,_=>False
def MB(hK:W.K=X.K)(sg:ax G H){n:Nat}{p:PV}{v:V}(hp:plain n p=true)(h:Top W H0 G H p v):QI X W G H p v:=by
 cases p with
 |aM=>exact h.aM
 |bl b=>exact h.bl
 |int i=>exact h.int
 |str z=>exact h.str
 |tup xs=>
  obtain⟨a,vs,e,sq,l⟩:=h.tup sg
  rw [hK] at sq;exact⟨a,e,vs,sq,l⟩
 |lst xs=>
  obtain⟨a,vs,e,sq,l⟩:=h.lst sg
  exact⟨a,e,vs,qY hK sq,l⟩
 |exc c=>cases n<;>exact aV hp
 |bF a b=>cases n<;>exact aV hp
def DH{aa:List (Addr×Obj)}{σ:St}{s:Shared}(I:Inv X aa σ H s)(hK:W.K=X.K)(sg:ax G H):∀(n:Nat) {p q:PV} {v:V},plain n p=true->plain n q=true->Top W H0 G H p v->Top W H0 G H q v->p=q:=by
 intro n
 induction n with
 |zero=>
  intro p q v hp hq h1 h2;have a:=MB hK sg hp h1
  have b:=MB hK sg hq h2
  cases p<;>cases q<;>first|exact aV hp|exact aV hq|(cases a;cases b;rfl)|(cases a;cases b)
 |succ n ih=>
  intro p q v hp hq h1 h2;have a:=MB hK sg hp h1
  have b:=MB hK sg hq h2
  have el:∀{xs ys:List PV} {vs:List V},xs.all (plain n)=true->ys.all (plain n)=true->ai W G xs vs->ai W G ys vs->xs=ys:=λ{xs ys vs} a1 a2 l1 l2=>
   nc (by rw [<-l1.length,l2.length]) λj x y ex ey=>by
    obtain⟨u,eu,ku⟩:=l1.oq ex
    obtain⟨y',ey',ky⟩:=l2.get eu
    rw [ey] at ey';cases ey';exact ih (zzT.mp a1 _ (zzD ex)) (zzT.mp a2 _ (zzD ey)) (.inl ku) (.inl ky)
  cases p<;>cases q<;>first|exact aV hp|exact aV hq|(cases a;cases b;done)|(cases a;cases b;rfl)|(obtain⟨_,e1,_⟩:=a;cases b;cases e1;done)|(obtain⟨_,e2,_⟩:=b;cases a;cases e2;done)|(obtain⟨x,rfl,vs,s1,l1⟩:=a;obtain⟨y,e2,us,s2,l2⟩:=b;cases e2;first|exact(qJ I s1 s2).elim|exact(qJ I s2 s1).elim|(cases I.nC s1 s2;rw [el hp hq l1 l2])|(cases I.qB s1 s2;rw [el hp hq l1 l2]))
def yt:∀{n:Nat} {p:PV},plain n p=true->kM n p p=true:=by
 intro n
 induction n with
 |zero=>intro p h;cases p<;>first|exact aV h|rfl|exact beq_self_eq_true _
 |succ n ih=>
  intro p h;cases p<;>first|exact aV h|rfl|exact beq_self_eq_true _|exact qa rfl λj x y e1 e2=>by rw [e1] at e2;cases e2;exact ih (zzT.mp h _ (zzD e1))
def uj{aa:List (Addr×Obj)}{σ:St}{s:Shared}(I:Inv X aa σ H s)(hK:W.K=X.K)(sg:ax G H):∀(n:Nat) {p q:PV} {v:V},plain n p=true->plain n q=true->Top W H0 G H p v->Top W H0 G H q v->kM n p q=true:=λn {p q v} hp hq h1 h2=>by
 cases DH I hK sg n hp hq h1 h2;exact yt hp
def j4{x:V}{a:Addr}(r:RelV x (.ref a)):x=.ref a:=by
 cases x<;>first|(cases r;rfl)|(obtain⟨_,h⟩:=r;cases h)|cases r
def QH(W:Wd)(G:Hp)(h:Heap):PV->Value->Prop
 |.aM,v=>∃_t:Nat,v=.none/\True
 |.bl b,v=>∃_t:Nat,v=.bool b/\True
 |.int i,v=>∃t,v=.int i t/\True
 |.str z,v=>∃t,v=.str z t/\True
 |.tup xs,v=>∃a,v=.ref a/\∃aw vs,ai W G xs vs/\Vals vs aw/\h.IsTuple a aw.toArray
 |.lst xs,v=>∃a,v=.ref a/\∃aw vs,ai W G xs vs/\Vals vs aw/\h.IsList a aw.toArray
 |_,_=>False
def ER{aa:List (Addr×Obj)}{σ:St}{s:Shared}(I:Inv X aa σ H s)(hK:W.K=X.K)(sg:ax G H){n:Nat}{p:PV}{v:V}{v':Value}(hp:plain n p=true)(h:Top W H0 G H p v)(r:RelV v v'):QH W G s.heap p v':=by
 cases p with
 |aM=>cases h.aM;cases r;exact⟨0,rfl,trivial⟩
 |bl b=>cases h.bl;cases r;exact⟨0,rfl,trivial⟩
 |int i=>cases h.int;obtain⟨t,rfl⟩:=r;exact⟨t,rfl,trivial⟩
 |str z=>cases h.str;obtain⟨t,rfl⟩:=r;exact⟨t,rfl,trivial⟩
 |tup xs=>
  obtain⟨a,vs,rfl,sq,l⟩:=h.tup sg
  rw [hK] at sq;cases r;obtain⟨aw,q,z,_⟩:=I.tuple sq
  exact⟨a,rfl,aw,vs,l,q,z⟩
 |lst xs=>
  obtain⟨a,vs,rfl,sq,l⟩:=h.lst sg
  cases r;obtain⟨aw,q,z,_⟩:=I.list (qY hK sq)
  exact⟨a,rfl,aw,vs,l,q,z.isList⟩
 |exc c=>cases n<;>exact aV hp
 |bF a b=>cases n<;>exact aV hp
def pG(W:Wd)(G:Hp)(s:Shared)(n:Nat)(A:Around)(xs ys:List PV):Prop:=∀{vs us:List V} {aw fD:List Value},ai W G xs vs->ai W G ys us->Vals vs aw->Vals us fD->∀j (h1:j<aw.toArray.size) (h2:j<fD.toArray.size),SeqAt.EqAt A s aw.toArray[j] fD.toArray[j] (kM n (xs.getD j .aM) (ys.getD j .aM))
theorem yr{s:Shared}{n:Nat}{A:Around}{xs ys:List PV}(h:∀{p q:PV} {v u:V} {v' u':Value},plain n p=true->plain n q=true->Rep W G p v->Rep W G q u->RelV v v'->RelV u u'->SeqAt.EqAt A s v' u' (kM n p q))(a1:xs.all (plain n)=true)(a2:ys.all (plain n)=true):pG W G s n A xs ys:=λ{vs us aw fD} l1 l2 q1 q2 j g1 g2=>by
 obtain⟨x,hx,rx⟩:=AW q1 g1
 obtain⟨y,hy,ry⟩:=AW q2 g2
 obtain⟨px,ex,kx⟩:=l1.get hx
 obtain⟨py,ey,ky⟩:=l2.get hy
 rw [zzK,zzK,ex,ey];exact h (zzT.mp a1 _ (zzD ex)) (zzT.mp a2 _ (zzD ey)) kx ky rx ry
def vg{s:Shared}{n:Nat}{A:Around}{a b:Addr}{xs ys:List PV}(hu:A.units<cLine)(el:pG W G s n A.in1 xs ys)(k1:∃aw vs,ai W G xs vs/\Vals vs aw/\s.heap.IsTuple a aw.toArray)(k2:∃aw vs,ai W G ys vs/\Vals vs aw/\s.heap.IsTuple b aw.toArray):SeqAt.RcAt A s (.ref a) (.ref b) (eqs (kM n) xs ys):=by
 obtain⟨aw,vs,l,q1,z1⟩:=k1
 obtain⟨fD,us,l2,q2,z2⟩:=k2
 have m1:aw.length=xs.length:=by rw [<-q1.length,l.length]
 have m2:fD.length=ys.length:=by rw [<-q2.length,l2.length]
 have:=SeqAt.RcAt.tuples (e:=λj=>kM n (xs.getD j .aM) (ys.getD j .aM)) z1 z2 hu (el l l2 q1 q2)
 rw [zzC,zzC,m1,m2,mR] at this;exact this
def vf{s:Shared}{n:Nat}{A:Around}{a b:Addr}{xs ys:List PV}(hu:A.units<cLine)(el:pG W G s n A.in1 xs ys)(k1:∃aw vs,ai W G xs vs/\Vals vs aw/\s.heap.IsList a aw.toArray)(k2:∃aw vs,ai W G ys vs/\Vals vs aw/\s.heap.IsList b aw.toArray):SeqAt.RcAt A s (.ref a) (.ref b) (eqs (kM n) xs ys):=by
 obtain⟨aw,vs,l,q1,z1⟩:=k1
 obtain⟨fD,us,l2,q2,z2⟩:=k2
 have m1:aw.length=xs.length:=by rw [<-q1.length,l.length]
 have m2:fD.length=ys.length:=by rw [<-q2.length,l2.length]
 by_cases hl:xs.length=ys.length
 ·have:=SeqAt.RcAt.lists (e:=λj=>kM n (xs.getD j .aM) (ys.getD j .aM)) z1 z2 (by rw [zzC,zzC];omega) hu (el l l2 q1 q2)
  rw [zzC,m1,<-jZ hl] at this;exact this
 ·have:=SeqAt.RcAt.lists_lengths z1 z2 (by rw [zzC,zzC,m1,m2];simp [hl]) hu
  rw [j0 hl];exact this
open SeqAt.EqAt in
def Ex{aa:List (Addr×Obj)}{σ:St}{s:Shared}(I:Inv X aa σ H s)(hK:W.K=X.K)(sg:ax G H):∀(n:Nat) {A:Around} {p q:PV} {v u:V} {v' u':Value},A.units+(n+1)<cLine->plain n p=true->plain n q=true->Top W H0 G H p v->Top W H0 G H q u->RelV v v'->RelV u u'->
 SeqAt.EqAt A s v' u' (kM n p q):=by
 intro n
 induction n with
 |zero=>
  intro A p q v u v' u' hu hp hq h1 h2 r1 r2;have a:=ER I hK sg hp h1 r1
  have b:=ER I hK sg hq h2 r2
  cases p<;>cases q<;>first|exact aV hp|exact aV hq|(obtain⟨t1,rfl,_⟩:=a;obtain⟨t2,rfl,_⟩:=b)
  exact same _
  exact none_bool _
  exact none_int _ _
  exact none_str _ _
  exact bool_none _
  exact bool_bool _ _
  exact bool_int _ _ _
  exact bool_str _ _ _
  exact int_none _ _
  exact int_bool _ _ _
  exact int_int _ _ _ _
  exact int_str _ _ _ _
  exact str_none _ _
  exact str_bool _ _ _
  exact str_int _ _ _ _
  exact str_str _ _ _ _
 |succ n ih=>
  intro A p q v u v' u' hu hp hq h1 h2 r1 r2;have cQ:A.units<cLine:=by omega
  have a:=ER I hK sg hp h1 r1
  have b:=ER I hK sg hq h2 r2
  have el:∀{xs ys:List PV},xs.all (plain n)=true->ys.all (plain n)=true->pG W G s n A.in1 xs ys:=λa1 a2=>yr (λhp hq h1 h2 r1 r2=>ih (by show A.units+1+(n+1)<_;omega) hp hq (.inl h1) (.inl h2) r1 r2) a1 a2
  cases p<;>cases q<;>first|exact aV hp|exact aV hq|(obtain⟨t1,rfl,k1⟩:=a;obtain⟨t2,rfl,k2⟩:=b;try obtain⟨_,_,_,_,z1⟩:=id k1;try obtain⟨_,_,_,_,z2⟩:=id k2)
  exact same _
  exact none_bool _
  exact none_int _ _
  exact none_str _ _
  exact none_tuple z2 cQ
  exact none_list z2 cQ
  exact bool_none _
  exact bool_bool _ _
  exact bool_int _ _ _
  exact bool_str _ _ _
  exact bool_tuple _ z2 cQ
  exact bool_list _ z2 cQ
  exact int_none _ _
  exact int_bool _ _ _
  exact int_int _ _ _ _
  exact int_str _ _ _ _
  exact int_tuple _ _ z2 cQ
  exact int_list _ _ z2 cQ
  exact str_none _ _
  exact str_bool _ _ _
  exact str_int _ _ _ _
  exact str_str _ _ _ _
  exact str_tuple _ _ z2 cQ
  exact str_list _ _ z2 cQ
  exact tuple_none z1 cQ
  exact tuple_bool _ z1 cQ
  exact tuple_int _ _ z1 cQ
  exact tuple_str _ _ z1 cQ
  by_cases j2:t1=t2
  ·subst j2;cases j4 r1;cases j4 r2;rw [uj I hK sg (n+1) hp hq h1 h2];exact same _
  ·exact of_refs j2 (vg cQ (el hp hq) k1 k2)
  exact tuple_list z1 z2 cQ
  exact list_none z1 cQ
  exact list_bool _ z1 cQ
  exact list_int _ _ z1 cQ
  exact list_str _ _ z1 cQ
  exact list_tuple z1 z2 cQ
  by_cases j2:t1=t2
  ·subst j2;cases j4 r1;cases j4 r2;rw [uj I hK sg (n+1) hp hq h1 h2];exact same _
  ·exact of_refs j2 (vf cQ (el hp hq) k1 k2)
end
section
variable{X:Cx}{W:Wd}{H0 G H:Hp}
open SeqAt.RcAt in
def Lp{aa:List (Addr×Obj)}{σ:St}{s:Shared}(I:Inv X aa σ H s)(hK:W.K=X.K)(sg:ax G H)(n:Nat){A:Around}{p q:PV}{v u:V}{v' u':Value}(hu:A.units+(n+2)<cLine)(hp:plain (n+1) p=true)(hq:plain (n+1) q=true)(h1:Top W H0 G H p v)(h2:Top W H0 G H q u)(r1:RelV v v')(r2:RelV u u'):
 SeqAt.RcAt A s v' u' (kM (n+1) p q):=by
 have cQ:A.units<cLine:=by omega
 have a:=ER I hK sg hp h1 r1
 have b:=ER I hK sg hq h2 r2
 have el:∀{xs ys:List PV},xs.all (plain n)=true->ys.all (plain n)=true->pG W G s n A.in1 xs ys:=λa1 a2=>yr (λhp hq h1 h2 r1 r2=>Ex (H0:=H0) I hK sg n (by show A.units+1+(n+1)<_;omega) hp hq (.inl h1) (.inl h2) r1 r2) a1 a2
 cases p<;>cases q<;>first|exact aV hp|exact aV hq|(obtain⟨t1,rfl,k1⟩:=a;obtain⟨t2,rfl,k2⟩:=b;try obtain⟨_,_,_,_,z1⟩:=id k1;try obtain⟨_,_,_,_,z2⟩:=id k2)
 exact none_none
 exact none_bool _
 exact none_int _ _
 exact none_str _ _
 exact none_tuple z2 cQ
 exact none_list z2 cQ
 exact bool_none _
 exact bool_bool _ _
 exact bool_int _ _ _
 exact bool_str _ _ _
 exact bool_tuple _ z2 cQ
 exact bool_list _ z2 cQ
 exact int_none _ _
 exact int_bool _ _ _
 exact int_int _ _ _ _
 exact int_str _ _ _ _
 exact int_tuple _ _ z2 cQ
 exact int_list _ _ z2 cQ
 exact str_none _ _
 exact str_bool _ _ _
 exact str_int _ _ _ _
 exact str_str _ _ _ _
 exact str_tuple _ _ z2 cQ
 exact str_list _ _ z2 cQ
 exact tuple_none z1 cQ
 exact tuple_bool _ z1 cQ
 exact tuple_int _ _ z1 cQ
 exact tuple_str _ _ z1 cQ
 exact vg cQ (el hp hq) k1 k2
 exact tuple_list z1 z2 cQ
 exact list_none z1 cQ
 exact list_bool _ z1 cQ
 exact list_int _ _ z1 cQ
 exact list_str _ _ z1 cQ
 exact list_tuple z1 z2 cQ
 exact vf cQ (el hp hq) k1 k2
def xq{s:Shared}{n:Nat}{A:Around}{a b:Addr}{xs ys:List PV}(hu:A.units<cLine)(el:pG W G s n A.in1 xs ys)(k1:∃aw vs,ai W G xs vs/\Vals vs aw/\s.heap.IsTuple a aw.toArray)(k2:∃aw vs,ai W G ys vs/\Vals vs aw/\s.heap.IsTuple b aw.toArray):SeqAt.RcNeAt A s (.ref a) (.ref b) (!eqs (kM n) xs ys):=by
 obtain⟨aw,vs,l,q1,z1⟩:=k1
 obtain⟨fD,us,l2,q2,z2⟩:=k2
 have m1:aw.length=xs.length:=by rw [<-q1.length,l.length]
 have m2:fD.length=ys.length:=by rw [<-q2.length,l2.length]
 have:=SeqAt.RcNeAt.tuples (e:=λj=>kM n (xs.getD j .aM) (ys.getD j .aM)) z1 z2 hu (el l l2 q1 q2)
 rw [zzC,zzC,m1,m2,mR] at this;exact this
def xo{s:Shared}{n:Nat}{A:Around}{a b:Addr}{xs ys:List PV}(hu:A.units<cLine)(el:pG W G s n A.in1 xs ys)(k1:∃aw vs,ai W G xs vs/\Vals vs aw/\s.heap.IsList a aw.toArray)(k2:∃aw vs,ai W G ys vs/\Vals vs aw/\s.heap.IsList b aw.toArray):SeqAt.RcNeAt A s (.ref a) (.ref b) (!eqs (kM n) xs ys):=by
 obtain⟨aw,vs,l,q1,z1⟩:=k1
 obtain⟨fD,us,l2,q2,z2⟩:=k2
 have m1:aw.length=xs.length:=by rw [<-q1.length,l.length]
 have m2:fD.length=ys.length:=by rw [<-q2.length,l2.length]
 by_cases hl:xs.length=ys.length
 ·have:=SeqAt.RcNeAt.lists (e:=λj=>kM n (xs.getD j .aM) (ys.getD j .aM)) z1 z2 (by rw [zzC,zzC];omega) hu (el l l2 q1 q2)
  rw [zzC,m1,<-jZ hl] at this;exact this
 ·have:=SeqAt.RcNeAt.lists_lengths z1 z2 (by rw [zzC,zzC,m1,m2];simp [hl]) hu
  rw [j0 hl];exact this
open SeqAt.RcNeAt in
def DG{aa:List (Addr×Obj)}{σ:St}{s:Shared}(I:Inv X aa σ H s)(hK:W.K=X.K)(sg:ax G H)(n:Nat){A:Around}{p q:PV}{v u:V}{v' u':Value}(hu:A.units+(n+2)<cLine)(hp:plain (n+1) p=true)(hq:plain (n+1) q=true)(h1:Top W H0 G H p v)(h2:Top W H0 G H q u)(r1:RelV v v')(r2:RelV u u'):
 SeqAt.RcNeAt A s v' u' (!kM (n+1) p q):=by
 have cQ:A.units<cLine:=by omega
 have a:=ER I hK sg hp h1 r1
 have b:=ER I hK sg hq h2 r2
 have el:∀{xs ys:List PV},xs.all (plain n)=true->ys.all (plain n)=true->pG W G s n A.in1 xs ys:=λa1 a2=>yr (λhp hq h1 h2 r1 r2=>Ex (H0:=H0) I hK sg n (by show A.units+1+(n+1)<_;omega) hp hq (.inl h1) (.inl h2) r1 r2) a1 a2
 cases p<;>cases q<;>first|exact aV hp|exact aV hq|(obtain⟨t1,rfl,k1⟩:=a;obtain⟨t2,rfl,k2⟩:=b;try obtain⟨_,_,_,_,z1⟩:=id k1;try obtain⟨_,_,_,_,z2⟩:=id k2)
 exact none_none
 exact none_bool _
 exact none_int _ _
 exact none_str _ _
 exact none_tuple z2 cQ
 exact none_list z2 cQ
 exact bool_none _
 exact bool_bool _ _
 exact bool_int _ _ _
 exact bool_str _ _ _
 exact bool_tuple _ z2 cQ
 exact bool_list _ z2 cQ
 exact int_none _ _
 exact int_bool _ _ _
 exact int_int _ _ _ _
 exact int_str _ _ _ _
 exact int_tuple _ _ z2 cQ
 exact int_list _ _ z2 cQ
 exact str_none _ _
 exact str_bool _ _ _
 exact str_int _ _ _ _
 exact str_str _ _ _ _
 exact str_tuple _ _ z2 cQ
 exact str_list _ _ z2 cQ
 exact tuple_none z1 cQ
 exact tuple_bool _ z1 cQ
 exact tuple_int _ _ z1 cQ
 exact tuple_str _ _ z1 cQ
 exact xq cQ (el hp hq) k1 k2
 exact tuple_list z1 z2 cQ
 exact list_none z1 cQ
 exact list_bool _ z1 cQ
 exact list_int _ _ z1 cQ
 exact list_str _ _ z1 cQ
 exact list_tuple z1 z2 cQ
 exact xo cQ (el hp hq) k1 k2
end
end Ci
namespace L2
open PySem PySem.Spec PyProof.Rows
open PySem.AutoSeq1 (wpAny_loadPart')
theorem sY(l:Addr)(items:Array Value)(n:Nat)(dd:Option Addr)(sl:Array (Option Value))(u:Tok):
 Meets (Builtin.«tuple.__mul__» ⟨[.ref l,.int 1 u],[]⟩) (λ_ R s=>s.heap.get? l=some {cls:=.type "tuple",dict:=dd,data:=.seq items n,slots:=sl}/\R (.ok (.ret (Value.ref l))) s):=
 .of_wp λprog w A R s h=>by
  obtain⟨hp,g,d,tk,os⟩:=s
  obtain⟨hl,h⟩:=h
  have f1:=PySem.AutoSeq1.idx_int
  have f2:=PySem.AutoSeq1.sub_tuple_tuple
  wp_walk using wpAny_loadPart' hl
  exact⟨_,rfl,h⟩
def zS{X:Cx}:gK X (binaryOp .Mult) (λx y H Q=>∃a xs,x=.ref a/\y=.int 1/\eU X.K H a xs/\Q (.ref a) H):=by
 intro aa s σ H x y v u Q I rx ry h;obtain⟨a,xs,rfl,rfl,ha,q⟩:=h
 cases rx;obtain⟨t,rfl⟩:=ry
 obtain⟨aw,r,p1,_⟩:=I.tuple ha
 obtain⟨⟨cls,dd,data,sl⟩,ho,hc,k,hd⟩:=id p1
 simp only at hc hd;subst hc hd;refine wpAny_binaryOp_repeat_ref (T:="tuple") (U:="int") (by decide) ⟨_,ho,rfl⟩ (λs'=>typeIs_int s' 1 t) eZ PySem.F.fills_int_mul PySem.F.slot_int_rmul iQ PySem.F.slot_int_index.lookup
  (call_meets PySem.F.slot_int_rmul (typeIs_int s 1 t) PySem.F.entry_int_rmul (PySem.F.args_int_rmul_2 _ _) (fV 1 t a aw.toArray k dd sl)
   ⟨ho,rfl,⟨_,ho,rfl⟩,call_meets PySem.F.slot_tuple_mul ⟨_,ho,rfl⟩ PySem.F.entry_tuple_mul (PySem.F.args_tuple_mul_2 _ _) (sY a aw.toArray k dd sl t) ⟨ho,?_⟩⟩)
 exact⟨.ref a,H,I,rfl,q⟩
end L2
namespace Ci
open PySem L2
section
variable{X:Cx}{W:Wd}
def K0(hK:W.K=X.K){aa:List (Addr×Obj)}{σ:St}{H:Hp}{s:Shared}{a:Addr}{xs:List V}(I:Inv X aa σ H s)(h:rq W.K H a xs):∃(aw:List Value) (n:Nat),Vals xs aw/\xs.length=aw.length/\xs.length<=sizeLine/\s.heap.get? a=some {cls:=.type "list",data:=.seq aw.toArray n}:=by
 rw [hK] at h;rcases h with h|⟨aw,n,h1,h2,h3⟩
 ·obtain⟨z,aw,n,r,e⟩:=h.ok I.aN
  exact⟨aw,n,r,r.length,z,e⟩
 ·refine⟨aw.toList,n,h3,h3.length,?_,by simpa using I.qx a _ h1⟩;rw [h3.length,zzd];exact h2
theorem ai.rep{G:Hp}{ps:List PV}{vs:List V}(h:ai W G ps vs):∀k:Nat,ai W G (List.replicate k ps).flatten (List.replicate k vs).flatten
 |0=>.nil
 |k+1=>by
  rw [List.replicate_succ,List.replicate_succ,List.flatten_cons,List.flatten_cons];exact h.append (h.rep k)
noncomputable def Ms:E3->Operator
 |.add=>.Add|.sub=>.Sub|.mul=>.Mult|.mod=>.Mod|.fdiv=>.FloorDiv
noncomputable def tJ(W:Wd)(f:PV->PV->Res PV):R2:=λx y H Q=>∃H0 G p q r,ax G H/\Top W H0 G H p x/\Top W H0 G H q y/\f p q=.ok r/\cL W G H r Q
def Hy(hK:W.K=X.K)(o:E3):gK X (binaryOp (Ms o)) (tJ W (binOp o)):=by
 intro aa s σ H x y v u Q I rx ry h;obtain⟨H0,G,p,q,r,sg,t1,t2,e,wq⟩:=h
 unfold binOp at e;split at e
 ·cases e;exact Hx aa s σ H x y v u Q I rx ry ⟨_,_,t1.int,t2.int,wq.at sg .i⟩
 ·split at e
  ·rename_i hl;cases e;exact sF aa s σ H x y v u Q I rx ry ⟨_,_,t1.str,t2.str,k7 hl,wq.at sg .s⟩
  ·cases e
 ·cases e;exact HI aa s σ H x y v u Q I rx ry ⟨_,_,t1.int,t2.int,wq.at sg .i⟩
 ·split at e
  ·rename_i hc;cases e;refine HG aa s σ H x y v u Q I rx ry ⟨_,_,t1.int,t2.int,?_,wq.at sg .i⟩;rw [zzt] at hc;unfold aK at hc;simp! [zza,zzN] at hc;exact hc
  ·cases e
 ·split at e
  ·rename_i hc;cases e;have RW:=t1
   obtain⟨a,vs,rfl,h1,l1⟩:=t1.tup sg
   rw [hK] at h1;have m1:=l1.length
   rename_i xs jj
   by_cases hj:jj=1
   ·subst hj;refine zS aa s σ H _ _ v u Q I rx ry ⟨a,vs,rfl,t2.int,h1,?_⟩;have ex:(List.replicate (1:Int).toNat xs).flatten=xs:=by
     show(List.replicate 1 xs).flatten=xs
     simp
    rw [ex] at wq;exact wq.at sg (RW.elim id λz=>z.elim)
   ·exact Di aa s σ H _ _ v u Q I rx ry ⟨a,_,vs,rfl,t2.int,h1,by omega,hc.2.1,by rw [m1];exact hc.2.2.1,by rw [m1];exact hc.2.2.2,λp hp=>wq.tup sg (l1.rep _) hp⟩
  ·cases e
 ·split at e
  ·rename_i hc;cases e;exact HF aa s σ H x y v u Q I rx ry ⟨_,_,t1.int,t2.int,hc,wq.at sg .i⟩
  ·cases e
 ·split at e
  ·rename_i hc;cases e;exact Dg aa s σ H x y v u Q I rx ry ⟨_,_,t1.int,t2.int,hc,wq.at sg .i⟩
  ·cases e
 ·cases e
def D7:L0 X (unaryOp .USub) (λx H Q=>∃(H0 G:Hp) (i:Int),ax G H/\Top W H0 G H (.int i) x/\cL W G H (.int (-i)) Q):=by
 intro aa s σ H x v Q I rx h;obtain⟨H0,G,i,sg,t,wq⟩:=h
 exact IV aa s σ H x v Q I rx ⟨i,t.int,wq.at sg .i⟩
noncomputable def pF:xT->CmpOp
 |.eq=>.Eq|.ne=>.NotEq|.lt=>.Lt|.le=>.LtE|.gt=>.Gt|.is=>.Is|.CD=>.IsNot|.uV=>.NotIn
def yx{aa:List (Addr×Obj)}{σ:St}{H G:Hp}{s:Shared}{Q:VK}{k:Bool}(I:Inv X aa σ H s)(sg:ax G H)(wq:cL W G H (.bl k) Q):EP X aa σ Q (.bool k) s:=⟨.bl k,H,I,rfl,wq.at sg .b⟩
def Hz(hK:W.K=X.K)(hu:X.A.units+64<cLine):gK X (compareOp .Eq) (tJ W g9):=by
 intro aa s σ H x y v u Q I rx ry h;obtain⟨H0,G,p,q,r,sg,t1,t2,e,wq⟩:=h
 unfold g9 at e;split at e
 ·rename_i hc;rw [zza] at hc;cases e;exact Lp I hK sg 8 (by omega) hc.1 hc.2 t1 t2 rx ry _ _ _ _ (yx I sg wq)
 ·cases e
def HH(hK:W.K=X.K)(hu:X.A.units+64<cLine):gK X (compareOp .NotEq) (tJ W mn):=by
 intro aa s σ H x y v u Q I rx ry h;obtain⟨H0,G,p,q,r,sg,t1,t2,e,wq⟩:=h
 unfold mn at e;split at e
 ·rename_i hc;rw [zza] at hc;cases e;exact DG I hK sg 8 (by omega) hc.1 hc.2 t1 t2 rx ry _ _ _ _ (yx I sg wq)
 ·cases e
theorem lQ{G:Hp}:∀{xs:List PV} {vs:List V} {ns:List Str},ai W G xs vs->strsOf xs=some ns->vs=ns.map V.str
 |[],vs,ns,h,e=>by simp! [ai] at h;subst h;cases e;rfl
 |.str i::r,vs,ns,h,e=>by
  obtain⟨v,t,rfl,h1,h2⟩:=h.bU
  simp! [Rep] at h1;subst h1;unfold strsOf at e;obtain⟨m,hm,rfl⟩:=zzJ.mp e
  rw [lQ h2 hm]
  rfl
 |.aM::_,_,_,_,e=>by cases e
 |.int _::_,_,_,_,e=>by cases e
 |.bl _::_,_,_,_,e=>by cases e
 |.tup _::_,_,_,_,e=>by cases e
 |.lst _::_,_,_,_,e=>by cases e
 |.exc _::_,_,_,_,e=>by cases e
 |.bF _ _::_,_,_,_,e=>by cases e
def Res.of_ok{α:Type}{o:Option α}{a:α}(h:Res.of o=.ok a):o=some a:=by
 cases o with
 |none=>cases h
 |some b=>cases h;rfl
def HE(hK:W.K=X.K)(hu:X.A.units+64<cLine):gK X (compareOp .Lt) (tJ W qO):=by
 intro aa s σ H x y v u Q I rx ry h;obtain⟨H0,G,p,q,r,sg,t1,t2,e,wq⟩:=h
 unfold qO at e;split at e
 ·cases e;exact Ld aa s σ H x y v u Q I rx ry ⟨_,_,t1.int,t2.int,wq.at sg .b⟩
 ·cases e
def HD:gK X (compareOp .LtE) (tJ W qN):=by
 intro aa s σ H x y v u Q I rx ry h;obtain⟨H0,G,p,q,r,sg,t1,t2,e,wq⟩:=h
 unfold qN at e;split at e
 ·cases e;exact Lc aa s σ H x y v u Q I rx ry ⟨_,_,t1.int,t2.int,wq.at sg .b⟩
 ·cases e
def HA:gK X (compareOp .Gt) (tJ W sE):=by
 intro aa s σ H x y v u Q I rx ry h;obtain⟨H0,G,p,q,r,sg,t1,t2,e,wq⟩:=h
 unfold sE at e;split at e
 ·cases e;exact Lb aa s σ H x y v u Q I rx ry ⟨_,_,t1.int,t2.int,wq.at sg .b⟩
 ·cases e;obtain⟨t,rfl⟩:=(t1.str▸rx:RelV (.str _) v)
  obtain⟨t',rfl⟩:=(t2.str▸ry:RelV (.str _) u)
  exact PySem.P.gt_str (rV I (wq.at sg .b) rfl)
 ·cases e
def m6{H0 G H:Hp}{p:PV}{x:V}(sg:ax G H)(t:Top W H0 G H p x):decide (x=.aM)=y8 p:=by
 cases p with
 |aM=>cases t.aM;rfl
 |bl b=>cases t.bl;rfl
 |int b=>cases t.int;rfl
 |str b=>cases t.str;rfl
 |tup b=>obtain⟨a,vs,rfl,_⟩:=t.tup sg;rfl
 |lst b=>obtain⟨a,vs,rfl,_⟩:=t.lst sg;rfl
 |bF b c=>obtain⟨a,vs,rfl,_⟩:=t.bF sg;rfl
 |exc c=>
  rcases t with t|t
  ·simp! [Rep] at t;obtain⟨a,C,rfl,_⟩:=t
   rfl
  ·exact t.elim
def HC:gK X (compareOp .Is) (tJ W oM):=by
 intro aa s σ H x y v u Q I rx ry h;obtain⟨H0,G,p,q,r,sg,t1,t2,e,wq⟩:=h
 unfold oM at e;split at e
 ·cases e;refine HB aa s σ H x y v u Q I rx ry ⟨t2.aM,?_⟩;rw [m6 sg t1];exact wq.at sg .b
 ·cases e
def Dh:gK X (compareOp .IsNot) (tJ W f9):=by
 intro aa s σ H x y v u Q I rx ry h;obtain⟨H0,G,p,q,r,sg,t1,t2,e,wq⟩:=h
 unfold f9 at e;split at e
 ·cases e;refine Dk aa s σ H x y v u Q I rx ry ⟨t2.aM,?_⟩;rw [m6 sg t1];exact wq.at sg .b
 ·cases e
variable{H0 G H:Hp}
def Dj(hK:W.K=X.K)(hu:X.A.units+64<cLine):gK X (compareOp .NotIn) (tJ W ji):=by
 intro aa s σ H x y v u Q I rx ry h;obtain⟨H0,G,p,q,r,sg,t1,t2,e,wq⟩:=h
 have So:X.A.in1.units+32<cLine:=by show X.A.units+1+32<_;omega
 unfold ji at e;split at e
 ·obtain⟨k,hk,e⟩:=Res.aZ e
  cases e;have hk:=qw (Res.of_ok hk)
  subst hk;obtain⟨b,rfl,hb⟩:=t1.ky (k:=k) sg
  obtain⟨a,us,rfl,n,hd,l⟩:=t2.bF sg
  cases ry;refine BW (show X.A.units+3<cLine by omega) I (.inr ⟨_,ki k,b,hd,rfl,(i8 sg hb),rfl⟩) rx λs' I'=>?_
  rw [i9,du k _ us n];exact yx I' sg wq
 ·cases e
theorem gG(hK:W.K=X.K)(hu:X.A.units+64<cLine):∀o:xT,gK X (compareOp (pF o)) (tJ W (dJ o))
 |.eq=>Hz hK hu|.ne=>HH hK hu|.lt=>HE hK hu|.le=>HD|.gt=>HA|.is=>HC|.CD=>Dh|.uV=>Dj hK hu
def tX{ps:List PV}{vs:List V}{i:Int}{p:PV}(l:ai W G ps vs)(h:pC ps i=some p):∃v,pC vs i=some v/\Rep W G p v:=by
 unfold pC at h⊢;rw [l.length];cases e:CF ps.length i with
 |none=>rw [e] at h;cases h
 |some j=>
  rw [e] at h;exact l.oq h
def G6(hu:X.A.units+3<cLine):I0 X (λx y H Q=>∃a av k b v,x=.ref a/\Rd H a (.dT av)/\y=.ref b/\cg H b k/\fH av k=some v/\Q v H):=by
 intro value slice aa s σ H x y v u Q I rx ry h hs;obtain⟨a,av,k,b,z,rfl,hd,rfl,hb,hv,q⟩:=h
 cases rx;cases ry;obtain⟨_,_,xs,rel,dd⟩:=kL I.aN hd
 obtain⟨w',hw,gH⟩:=jr.some_of (v:=z) (o:=(atKey xs k).map (·.2)) (by rw [<-hv];exact rel.val k)
 obtain⟨p,hp,hp2⟩:=zzJ.mp hw
 exact PyProof.Rows.subscriptTail_builtinR (x:=w') dd.typeIs PySem.F.slot_dict_getitem.lookup (wpAny_getItem_heap (Q:=λr s'=>r=w'/\EP X aa σ Q r s') (dC hu) (i7 I.aN hb) dd hp ⟨hp2,by rw [hp2];exact⟨z,H,I.tok _,gH,q⟩⟩) hs
def NN(hK:W.K=X.K)(hu:X.A.units+64<cLine):I0 X (tJ W aJ):=by
 intro value slice aa s σ H x y v u Q I rx ry h hs;obtain⟨H0,G,p,q,r,sg,t1,t2,e,wq⟩:=h
 unfold aJ at e;split at e
 ·obtain⟨a,vs,rfl,h1,l1⟩:=t1.lst sg
  obtain⟨w,hw,kw⟩:=tX l1 (Res.of_ok e)
  exact CI value slice aa s σ H _ y v u Q I rx ry ⟨a,vs,_,w,rfl,t2.int,qY hK h1,hw,wq.at sg kw⟩ hs
 ·obtain⟨a,vs,rfl,h1,l1⟩:=t1.tup sg
  rw [hK] at h1;obtain⟨w,hw,kw⟩:=tX l1 (Res.of_ok e)
  exact sk value slice aa s σ H _ y v u Q I rx ry ⟨a,vs,_,w,rfl,t2.int,h1,hw,wq.at sg kw⟩ hs
 ·split at e
  ·rename_i hl;obtain⟨c,hc,e⟩:=Res.aZ e
   cases e;exact G7 value slice aa s σ H x y v u Q I rx ry ⟨_,_,c,t1.str,t2.int,k7 hl,Res.of_ok hc,wq.at sg .s⟩ hs
  ·cases e
 ·obtain⟨k,hk,e2⟩:=Res.aZ e
  have hk:=qw (Res.of_ok hk)
  subst hk;obtain⟨b,rfl,hb⟩:=t2.ky (k:=k) sg
  obtain⟨a,us,rfl,n,hd,l⟩:=t1.bF sg
  obtain⟨w,hw,kw⟩:=kb l (Res.of_ok e2)
  exact G6 (by omega) value slice aa s σ H _ _ v u Q I rx ry ⟨a,_,ki k,b,w,rfl,hd,rfl,(i8 sg hb),(by rw [i9];exact hw),wq.at sg kw⟩ hs
 ·cases e
def Bt{ps:List PV}{vs:List V}(lo hi:Option Int)(l:ai W G ps vs):ai W G (yj ps lo hi) (v7 vs lo hi):=by
 unfold yj v7;rw [l.length];exact(l.drop _).take _
def Oq(hK:W.K=X.K):L2.Bj X (λx lo hi H Q=>∃H0 G p r,ax G H/\Top W H0 G H p x/\gJ p lo hi=.ok r/\cL W G H r Q):=by
 intro aa s σ H x v vl vu lo hi sl Q I rx hs pl pu h;obtain⟨H0,G,p,r,sg,t1,e,wq⟩:=h
 unfold gJ at e;split at e
 ·cases e;have rp:=t1.elim id λz=>z.elim
  obtain⟨a,vs,rfl,h1,l1⟩:=t1.tup sg
  rw [hK] at h1
  by_cases hw:HT.dw vs.length 0 lo=0/\HT.dw vs.length vs.length hi=vs.length
  ·have ec:∀ys:List PV,ys.length=vs.length->yj ys lo hi=ys:=λys hy=>by
    unfold yj;rw [hy,hw.1,hw.2,<-hy];simp
   rw [ec _ l1.length.symm] at wq;exact DK aa s σ H _ v vl vu _ _ sl Q I rx hs pl pu ⟨a,vs,rfl,h1,hw,wq.at sg rp⟩
  ·exact IA aa s σ H _ v vl vu _ _ sl Q I rx hs pl pu ⟨a,vs,rfl,h1,hw,λp hp=>wq.tup sg (Bt _ _ l1) hp⟩
 ·cases e
def Bf(W:Wd)(f:List PV->Res PV):List V->Hp->VK->Prop:=λvs H Q=>∃H0 G ps r,ax G H/\Paired (λv p=>Top W H0 G H p v) vs ps/\f ps=.ok r/\cL W G H r Q
def jo{H0 G H:Hp}{vs:List V}{p:PV}(h:Paired (λv p=>Top W H0 G H p v) vs [p]):∃v,vs=[v]/\Top W H0 G H p v:=by
 cases h with
 |cons h t=>cases t;exact⟨_,rfl,h⟩
def E0{H0 G H:Hp}{vs:List V}{p q:PV}(h:Paired (λv p=>Top W H0 G H p v) vs [p,q]):∃v u,vs=[v,u]/\Top W H0 G H p v/\Top W H0 G H q u:=by
 cases h with
 |cons h t=>
  cases t with
  |cons h2 t2=>cases t2;exact⟨_,_,rfl,h,h2⟩
def vP(hK:W.K=X.K):dH X (.builtin "len") (Bf W rN):=by
 intro aa s σ H xs us Q I r h;obtain⟨H0,G,ps,rr,sg,tp,e,wq⟩:=h
 unfold rN at e;split at e
 ·cases e;obtain⟨v,rfl,t⟩:=jo tp
  obtain⟨a,vs,rfl,h1,l1⟩:=t.lst sg
  exact il aa s σ H _ us Q I r ⟨a,vs,rfl,.inl (qY hK h1),by rw [l1.length];exact wq.at sg .i⟩
 ·cases e;obtain⟨v,rfl,t⟩:=jo tp
  obtain⟨a,vs,rfl,h1,l1⟩:=t.tup sg
  rw [hK] at h1;exact il aa s σ H _ us Q I r ⟨a,vs,rfl,.inr h1,by rw [l1.length];exact wq.at sg .i⟩
 ·split at e
  ·rename_i hl;cases e;obtain⟨v,rfl,t⟩:=jo tp
   exact nV aa s σ H _ us Q I r ⟨_,by rw [t.str],k7 hl,wq.at sg .i⟩
  ·cases e
 ·cases e;obtain⟨v,rfl,t⟩:=jo tp
  obtain⟨a,us',rfl,n,hd,l⟩:=t.bF sg
  obtain⟨u,rfl,ru⟩:=vals1 r
  cases ru;exact FX I hd λt s' I'=>⟨.int _,H,I',⟨t,rfl⟩,by rw [fW n];exact wq.at sg .i⟩
 ·cases e
def vN:dH X (.builtin "abs") (Bf W ya):=by
 intro aa s σ H xs us Q I r h;obtain⟨H0,G,ps,rr,sg,tp,e,wq⟩:=h
 unfold ya at e;split at e
 ·cases e;obtain⟨v,rfl,t⟩:=jo tp
  exact yf aa s σ H _ us Q I r ⟨_,by rw [t.int],wq.at sg .i⟩
 ·cases e
def vR(hc:X.calm=true):dH X (.builtin "max") (Bf W yc):=by
 intro aa s σ H xs us Q I r h;obtain⟨H0,G,ps,rr,sg,tp,e,wq⟩:=h
 unfold yc at e;split at e
 ·cases e;obtain⟨v,u,rfl,t,t2⟩:=E0 tp
  exact vQ hc aa s σ H _ us Q I r ⟨_,_,by rw [t.int,t2.int],wq.at sg .i⟩
 ·cases e
def vO:dH X (.type "int") (Bf W yb):=by
 intro aa s σ H xs us Q I r h;obtain⟨H0,G,ps,rr,sg,tp,e,wq⟩:=h
 unfold yb at e;split at e
 ·split at e
  ·rename_i hl;obtain⟨n,hn,e⟩:=Res.aZ e
   cases e;obtain⟨v,rfl,t⟩:=jo tp
   exact nU aa s σ H _ us Q I r ⟨_,n,by rw [t.str],Res.of_ok hn,hl,wq.at sg .i⟩
  ·cases e
 ·cases e
def vU:dH X (.type "str") (Bf W yd):=by
 intro aa s σ H xs us Q I r h;obtain⟨H0,G,ps,rr,sg,tp,e,wq⟩:=h
 unfold yd at e;split at e
 ·split at e
  ·rename_i hl;cases e;obtain⟨v,rfl,t⟩:=jo tp
   exact nW aa s σ H _ us Q I r ⟨_,by rw [t.int],hl,wq.at sg .s⟩
  ·cases e
 ·cases e
def pQ(hK:W.K=X.K):dH X (.type "tuple") (Bf W kA):=by
 intro aa s σ H xs us Q I r h;obtain⟨H0,G,ps,rr,sg,tp,e,wq⟩:=h
 unfold kA at e;split at e
 ·cases e;obtain⟨v,rfl,t⟩:=jo tp
  obtain⟨a,vs,rfl,h1,l1⟩:=t.lst sg
  exact me aa s σ H _ us Q I r ⟨a,vs,rfl,.inl ⟨qY hK h1,λp hp=>wq.tup sg l1 hp⟩⟩
 ·cases e
def OP(W:Wd)(f:List PV->Res PV):V->List V->Hp->VK->Prop:=λx vs H Q=>Bf W f (x::vs) H Q
theorem vv:∀{ys:List Str} {aw:List Value},Vals (ys.map V.str) aw->PyProof.Rows.StrsAre aw ys
 |[],_,.nil=>.nil
 |y::ys,_,.cons r t=>by
  obtain⟨tk,rfl⟩:=r
  exact .cons y tk (vv t)
def zF(hK:W.K=X.K):MK X "str.join" (OP W qC):=by
 intro aa s σ H x xs v us Q I rx r h;obtain⟨H0,G,ps,rr,sg,tp,e,wq⟩:=h
 unfold qC at e;split at e
 ·obtain⟨ys,hy,e⟩:=Res.aZ e
  split at e
  ·rename_i hc;cases e;obtain⟨v1,u1,e1,t,t2⟩:=E0 tp
   cases e1;cases t.str;obtain⟨tk,rfl⟩:=rx
   obtain⟨a,vs,rfl,h1,l1⟩:=t2.lst sg
   obtain⟨u,rfl,ru⟩:=Vals.one r
   cases ru;cases lQ l1 (Res.of_ok hy);obtain⟨aw,rv,z,_⟩:=I.list (qY hK h1)
   refine PyProof.Rows.join_listW z.isList (by simpa using vv rv) hc.1 (zzU hc.2 (by decide)) λt' k=>⟨.str _,H,I.tok _,⟨_,rfl⟩,wq.at sg .s⟩
  ·cases e
 ·cases e
noncomputable def tG:Ty->String
 |.int=>"int"|.bool=>"bool"|.tuple=>"tuple"
def KS{K:zz8}(t:Ty):Cw.A9 K "NoneType" (tG t) false/\(∀b,Cw.A9 K "bool" (tG t) (g6 t (.bl b)))/\(∀i,Cw.A9 K "int" (tG t) (g6 t (.int i)))/\(∀z,Cw.A9 K "str" (tG t) (g6 t (.str z)))/\(∀z,Cw.A9 K "tuple" (tG t) (g6 t (.tup z)))/\(∀z,Cw.A9 K "list" (tG t) (g6 t (.lst z))):=by
 cases t
 all_goals refine⟨?_,λb=>?_,λb=>?_,λb=>?_,λb=>?_,λb=>?_⟩
 all_goals first
  |exact Cw.zg _
  |exact Cw.zf (b:=false) (by decide+kernel) (by decide+kernel) (by decide+kernel)
  |exact Cw.zf (b:=true) (by decide+kernel) (by decide+kernel) (by decide+kernel)
def yg(hK:W.K=X.K)(t:Ty):dH X (.builtin "isinstance") (λxs H Q=>∃v H0 G p r,xs=[v,.ty (tG t)]/\ax G H/\Top W H0 G H p v/\jV t p=.ok r/\cL W G H r Q):=by
 intro aa s σ H xs us Q I rr h;obtain⟨v,H0,G,p,r,rfl,sg,tp,e,wq⟩:=h
 obtain⟨u,u2,rfl,ru,ru2⟩:=Vals.two rr
 cases ru2;obtain⟨k1,k2,k3,k4,k5,k6⟩:=KS (K:=X.K) t
 cases p with
 |exc c=>cases e
 |bF a b=>cases e
 |aM=>cases e;cases tp.aM;cases ru;cases t<;>exact PySem.W.kia_one PySem.W.kitx_none I.qx True.intro k1 (λz=>nomatch z) λtk=>⟨.bl _,H,I.tok tk,rfl,wq.at sg .b⟩
 |bl b=>cases e;cases tp.bl;cases ru;exact PySem.W.kia_one PySem.W.kitx_bool I.qx True.intro (k2 b) (λz=>nomatch z) λtk=>⟨.bl _,H,I.tok tk,rfl,wq.at sg .b⟩
 |int b=>cases e;cases tp.int;obtain⟨t1,rfl⟩:=ru;exact PySem.W.kia_one PySem.W.kitx_int I.qx True.intro (k3 b) (λz=>nomatch z) λtk=>⟨.bl _,H,I.tok tk,rfl,wq.at sg .b⟩
 |str b=>cases e;cases tp.str;obtain⟨t1,rfl⟩:=ru;exact PySem.W.kia_one PySem.W.kitx_str I.qx True.intro (k4 b) (λz=>nomatch z) λtk=>⟨.bl _,H,I.tok tk,rfl,wq.at sg .b⟩
 |tup b=>
  cases e;obtain⟨a,vs,rfl,h1,l1⟩:=tp.tup sg
  rw [hK] at h1;cases ru;obtain⟨aw,_,⟨o,e1,e2,_⟩,_⟩:=I.tuple h1
  exact PySem.W.kia_one PySem.W.kitx_tuple I.qx ⟨o,e1,e2⟩ (k5 b) (λz=>nomatch z) λtk=>⟨.bl _,H,I.tok tk,rfl,wq.at sg .b⟩
 |lst b=>
  cases e;obtain⟨a,vs,rfl,h1,l1⟩:=tp.lst sg
  cases ru;obtain⟨aw,n,_,_,_,e1⟩:=K0 hK I h1
  exact PySem.W.kia_one PySem.W.kitx_list I.qx ⟨_,e1,rfl⟩ (k6 b) (λz=>nomatch z) λtk=>⟨.bl _,H,I.tok tk,rfl,wq.at sg .b⟩
end
end Ci
namespace L2
open PySem PySem.Spec PyProof.Rows
section
variable{X:Cx}{scope:Scope}{xs ys:List Str}{is:List Nat}
theorem oW{i₀:Nat}{x₀:Str}{pos' fE:Pos}{elt tg iter IP:Expr}{pos:Pos}{wi:TI}{g:TG}{te:TE}{tt:TT}(hN₀:X.N.Nodup)(hi₀:X.N[i₀]?=some x₀)(hx₀:Loc X.env.scope x₀)(hc:X.calm=true)(S:eJ X scope xs ys is)(hi:PI X tg iter wi)
 (hg:∀fp s1 H1 C,PG (bQ X (xs++ys) scope (bE X.env ys) fp s1 H1 C) tg g) (ht:∀fp s1 H1 C,PT (bQ X (xs++ys) scope (bE X.env ys) fp s1 H1 C) IP tt) (he:∀fp s1 H1 C,PE (bQ X (xs++ys) scope (bE X.env ys) fp s1 H1 C) elt te)
 (yX:swapsWith (.ListComp elt [⟨tg,iter,[IP],0⟩] scope pos) (some (.Name x₀ pos')) fE.line X.env=pure true:=by rfl)
 (hs:∀x,foldedSetIterable iter X.env x=pure x:=by intro _;rfl) (hf₀:X.fn x₀=true\/X.env.scope.names.lookup x₀=some .local:=by first|exact .inl rfl|exact .inr rfl|assumption):
 PS X (.Assign [.Name x₀ pos'] (.ListComp elt [⟨tg,iter,[IP],0⟩] scope pos) fE) (DY (j9 wi xs.length g tt te is) (fU i₀)):=by
 intro aa s σ H D₀ I h;rw [exec_Assign_Name_used _ _ _ _ yX];refine zzA (wpAny_standAt (zzA ?_));show wpAny _ X.A (do let _<-comprehension (.ListComp elt [⟨tg,iter,[IP],0⟩] scope pos) scope X.env _ (newList []) false (eval iter X.env) (some (assign (.Name x₀ pos') X.env))) _ _ s;refine zzA (wpAny_mono (gA (QQ:=λ_ s'=>∃σ2 H2,Inv X aa σ2 H2 s'/\D₀.nx σ2 H2) (Q:=λv H4=>fU i₀ v σ H4 D₀.nx) hc S hi hg (λfp s1 H1 C=>va (ht fp s1 H1 C)) he hs I h λD C s4 H4 m I5 hn ⟨g0,g1,_,g3,g4,g5⟩ q=>?_) (λ_ s' hq=>zzG (zzG hq)) λ_ _ e=>e)
 refine wpAny_assign_Name (jd I5 hN₀ hi₀ hx₀ (show RelV (.ref D) (.ref D) from rfl) (λs6 I6 ⟨a6,sb6,ha6⟩=>?_) hf₀);have zG:C≠a6:=by
  rcases ha6 with z|z
  ·rw [z];exact g1
  ·exact λz2=>g4 _ _ z z2.symm
 exact⟨m,hn.sameBut sb6 zG,λh' wL=>⟨_,_,I6.turned (t':=s6.toks) (it:=C) (λb o hb e=>wL.extBut b o hb e) g0 g1 g3 g4 g5,q⟩⟩
end
open PySem.AutoSeq1 (wpAny_loadPart')
section
variable{prog:Program}{w:World}{A:Around}{E:Value->Shared->Prop}{s:Shared}{jt tu:Addr}{i:Nat}{aw:Array Value}{Q:Value->Shared->Prop}
def jx{x:Value}(ih:s.heap.IsTupleIter jt tu i)(th:s.heap.IsTuple tu aw)(hx:aw[i]?=some x)
 (k:∀g,g.IsTupleIter jt tu (i+1)->Heap.SameBut jt s.heap g->Q x {s with heap:=g}):wpAny (model prog w) A (Builtin.SmallTypes.nextOf (.ref jt)) Q E s:=by
 obtain⟨ob,e1,e2,e3⟩:=id ih
 obtain⟨ot,f1,_,nn,f2⟩:=th
 unfold Builtin.SmallTypes.nextOf;refine zzA (wpAny_callSpecial?_slot (name:=Str.ofString "__next__") ih.typeIs F.slot_tuple_iterator_next (wpAny_call_entry F.slot_tuple_iterator_next ih.typeIs F.entry_tuple_iterator_next ?_ (F.args_tuple_iterator_next_1 _)));show wpAny _ _ (field (.ref jt) 0>>=_) _ _ s;refine zzA (wpAny_field e1 e3 (x:=.ref tu) rfl ?_);show wpAny _ _ (if(Value.ref tu==Value.none)=true then _ else _) _ _ s;rw [if_neg (show¬((Value.ref tu==Value.none)=true) from zzf)];show wpAny _ _ (field (.ref jt) 1>>=_) _ _ s;refine zzA (wpAny_field e1 e3 (x:=.int i 0) rfl ?_);show wpAny _ _ (seqItems? (.ref tu)>>=_) _ _ s;refine zzA (wpAny_seqItems f1 f2 ?_);simp! [zz4,hx];refine zzA (wpAny_setField e1 e3 (by simp) (zzG ⟨x,rfl,zzG (k _ ?_ (zzu ..))⟩));exact⟨_,Heap.get?_update_self _ e1 (Obj.isFreed_of_fields (Obj.data_mapFields e3 _)),(Obj.cls_mapFields ..).trans e2,by rw [Obj.data_mapFields e3];simp [rawInt]⟩
def lp(hh:A.handled=none)(ih:s.heap.IsTupleIter jt tu i)(th:s.heap.IsTuple tu aw)(hx:aw[i]?=none)
 (k:∀g e,Heap.ExtBut jt s.heap g->(∃o,g.get? e=some o/\o.cls=.type "StopIteration")->E (.ref e) {s with heap:=g}):wpAny (model prog w) A (Builtin.SmallTypes.nextOf (.ref jt)) Q E s:=by
 obtain⟨ob,e1,e2,e3⟩:=id ih
 obtain⟨ot,f1,_,nn,f2⟩:=th
 unfold Builtin.SmallTypes.nextOf;refine zzA (wpAny_callSpecial?_slot (name:=Str.ofString "__next__") ih.typeIs F.slot_tuple_iterator_next (wpAny_call_entry F.slot_tuple_iterator_next ih.typeIs F.entry_tuple_iterator_next ?_ (F.args_tuple_iterator_next_1 _)));show wpAny _ _ (field (.ref jt) 0>>=_) _ _ s;refine zzA (wpAny_field e1 e3 (x:=.ref tu) rfl ?_);show wpAny _ _ (if(Value.ref tu==Value.none)=true then _ else _) _ _ s;rw [if_neg (show¬((Value.ref tu==Value.none)=true) from zzf)];show wpAny _ _ (field (.ref jt) 1>>=_) _ _ s;refine zzA (wpAny_field e1 e3 (x:=.int i 0) rfl ?_);show wpAny _ _ (seqItems? (.ref tu)>>=_) _ _ s;refine zzA (wpAny_seqItems f1 f2 ?_);simp! [zz4,hx];refine zzA (wpAny_rule (zzA (wpAny_setField e1 e3 (by simp) ?_)));show wpAny _ _ (newExc (.type "StopIteration") []>>=_) _ _ _;refine zzA ?_;simp! [newExc,newTuple];refine zzA (wpAny_newObj_type ?_ (by size_fits));refine zzA (m:=firstArgMember _ _) (wpAny_of_eq (a:=Value.none) (by first|rfl|(simp! [firstArgMember];rfl)) ?_);refine wpAny_newObj_type ?_ (by size_fits);simp! [raiseNew];refine zzA (wpAny_handled ?_)
 first|rw [show A.in1.handled=none from hh]|rw [hh]
 refine zzA (zzG (wpAny_throw ?_));exact k _ _ (((zzu ..).extBut.push _).push _) ⟨_,zzX _ rfl,rfl⟩
end
theorem mQ{prog:Program}{w:World}{A:Around}(hh:A.handled=none)(jt tu:Addr)(j2:tu≠jt)(aw:Array Value):
 Draws prog w A jt [jt,tu] aw.size (λi v=>aw[i]?=some v) (λi h=>h.IsTupleIter jt tu i/\h.IsTuple tu aw) where
 live:=λ_ _ st=>let⟨o,ho,_⟩:=st.1;⟨o,ho⟩
 frame:=λ_ _ _ st hk=>⟨st.1.at λo e=>hk jt (by simp) o e,by obtain⟨o,e,r⟩:=st.2;exact⟨o,hk tu (by simp) o e,r⟩⟩
 item:=λi s Q E hi st hQ=>jx st.1 st.2 (x:=aw[i]) (by simp [hi]) λg ig sb=>hQ _ g s.toks (by simp [hi]) ⟨ig,by obtain⟨o,e,r⟩:=st.2;exact⟨o,sb.extBut _ _ j2 e,r⟩⟩ sb
 done:=λs Q E st hE=>lp hh st.1 st.2 (by simp) hE
theorem wg(l:Addr)(items:Array Value)(n:Nat)(bF:Option Addr)(sl:Array (Option Value)):
 Meets (Builtin.«enumerate.__new__» ⟨[.type "enumerate",.ref l],[]⟩) (λ_ R s=>s.heap.get? l=some {cls:=.type "tuple",dict:=bF,data:=.seq items n,slots:=sl}/\
  R (.ok (.ret (.ref (s.heap.push {cls:=.type "tuple_iterator",data:=.fields #[.ref l,.int 0 0]}).objs.size)))
   {s with heap:=(s.heap.push {cls:=.type "tuple_iterator",data:=.fields #[.ref l,.int 0 0]}).push {cls:=.type "enumerate",data:=.fields #[.none,.bool false,.ref (zz9 s),rawInt 0,.none,.none]}}):=
 .of_wp λprog w A R s h=>by
  obtain⟨hp,g,d,tk,os⟩:=s
  obtain⟨hl,h⟩:=h
  have Rz:=sub_enumerate
  have hL:Heap.IsTuple (Shared.heap ⟨hp,g,d,tk,os⟩) l items:=⟨_,hl,rfl,n,rfl⟩
  wp_walk using wpAny_loadPart' hl
  refine wpAny_stack_any λst=>zzG ?_
  split
  ·rename_i c _ _ _ _ _;cases(c==Value.type "enumerate")<;>(wp_walk using wpAny_loadPart' hl,wpAny_pyIter_tuple hL;exact⟨_,rfl,h⟩)
  ·wp_walk using wpAny_loadPart' hl,wpAny_pyIter_tuple hL
   exact⟨_,rfl,h⟩
def fj{h:Heap}{a b:Addr}{o1 o2:Obj}(h1:h.get? a=some o1)(h2:h.get? b=some o2)(hc:o1.cls≠o2.cls):a≠b:=λz=>by
 subst z;rw [h1] at h2;cases h2;exact hc rfl
def eT(z:Str):strIterType z="str_ascii_iterator"\/strIterType z="str_iterator":=by
 unfold strIterType;split
 ·exact .inl rfl
 ·exact .inr rfl
def i5{X:Cx}{aa:List (Addr×Obj)}{σ:St}{H:Hp}{s:Shared}{E:Value->Shared->Prop}{e it:Addr}{Pz:List Addr}{n i:Nat}{Pv:Nat->Value->Prop}{Sv:Nat->Heap->Prop}{old:Value}{Gx:V->Prop}{elts:List Expr}{x1:Nat}{pos:Pos}
 (I:Inv X aa σ H s) (D:Draws X.prog X.w X.A.in1 it Pz n Pv Sv) (he:IsEnum s.heap e it i old) (dh:Sv i s.heap) (cm:i<n) (j2:e≠it) (PQ:e∉Pz) (hf:∀b∈[e,it],dN X aa H b) (hP:∀u,Pv i u->∃x,RelV x u/\Gx x):
 wpAny (model X.prog X.w) X.A (pyNext (.ref e)) (λr s1=>∃u,r=some u/\wpAny (model X.prog X.w) X.A (letOwnedTupleGo (.Tuple elts x1 pos) (.ref e) u) (λ_ s2=>∃x p,u=.ref p/\Gx x/\H p=none/\e≠p/\it≠p/\
  Inv X aa σ (upd H p (.tup [.int i,x])) s2/\(∃N9,IsEnum s2.heap e it ((i:Int)+1) N9)/\Sv (i+1) s2.heap) E s1) E s:=by
 refine wpAny_pyNext_enum_itemD D he dh cm j2 PQ λu h' tk pu ho j6 ht hz kk=>?_
 obtain⟨x,rx,gx⟩:=hP u pu
 obtain⟨f0,f1,f2,f3,f4,f5⟩:=hf e (by simp)
 obtain⟨g0,g1,g2,g3,g4,g5⟩:=hf it (by simp)
 have se:H (zz9 s)=none:=I.aN.fresh (zzE _)
 obtain⟨oi,hoi⟩:=D.live _ _ dh
 have PR:e≠(zz9 s):=zzb (zzO he)
 have Rl:it≠(zz9 s):=zzb (zzO hoi)
 have CP:∀b o,H b=some o->b≠e/\b≠it/\b≠(zz9 s):=λb o q=>⟨(λz=>(by rw [z,f0] at q;cases q)),(λz=>(by rw [z,g0] at q;cases q)),zzb (I.aN.lt q)⟩
 have I1:Inv X aa σ (upd H (zz9 s) (.tup [.int i,x])) {s with heap:=h',toks:=tk+1}:=by
  refine I.step (g':=s.gens) (d':=s.drawn) (ch:=[e,it]) (λb hb=>?_) (λb o _ _ hc q _=>kk b o (λz=>hc (by simp [z])) (λz=>hc (by simp [z])) q)
   (λb o _ _ hc q _=>⟨o.slots,kk b o (λz=>hc (by simp [z])) (λz=>hc (by simp [z])) q⟩) (λb o _ q nb=>by rw [af (zzb (zzO q))];exact nb)
   (λb o hc q=>⟨o,kk b o (λz=>hc (by simp [z])) (λz=>hc (by simp [z])) q⟩) (λb xs q=>by rw [af (CP b _ q).2.2];exact q) (λb o u q=>by rw [af (CP b _ q).2.2];exact q)
   (λb ps q=>⟨#[],by rw [af (CP b _ q).2.2,q];simp⟩) (λm hm=>?_) (λb o q=>?_) I.bare
  ·rcases zzm.mp hb with z|z
   ·subst z;exact⟨f3,f1,f4,f5⟩
   ·rw [zzi.mp z];exact⟨g3,g1,g4,g5⟩
  ·obtain⟨o,es,ep,q,r⟩:=hm
   exact⟨o,es,ep,kk _ o (Ne.symm f1) (Ne.symm g1) q,r⟩
  ·by_cases hb:b=(zz9 s)
   ·subst hb;rw [ak] at q;cases q;exact⟨(show 2<=sizeLine by decide),[.int i tk,u],.cons ⟨tk,rfl⟩ (.cons rx .nil),⟨_,ht,rfl,_,rfl⟩⟩
   ·rw [af hb] at q;refine(I.aN b o q).eR (λc v hc z=>kk c v ?_ ?_ z) (λc z=>by rw [af (CP c _ z).2.2];exact z) λc xs z=>by rw [af (CP c _ z).2.2];exact z
    ·rcases hc with z'|z'
     ·rw [z'];exact(CP b o q).1
     ·exact(CP c _ z').1
    ·rcases hc with z'|z'
     ·rw [z'];exact(CP b o q).2.1
     ·exact(CP c _ z').2.1
 refine⟨_,rfl,wpAny_letOwnedTupleGo_enum ho λh2 GJ sb=>?_⟩
 refine⟨x,(zz9 s),rfl,gx,se,PR,Rl,I1.turned (t':=tk+1) (it:=e) (λb o hb q=>sb.extBut b o hb q) (by rw [af PR];exact f0) f1 f3 f4 f5,⟨_,GJ⟩,D.frame _ _ _ j6 λb hb o q=>sb.extBut b o (λz=>PQ (z▸hb)) q⟩
noncomputable def MH(K:zz8)(a:Addr)(xs:List V):It:=
 ⟨λi H=>eU K H a xs/\i<xs.length,λi H v H'=>∃p x,v=.ref p/\H p=none/\H'=upd H p (.tup [.int (i:Nat),x])/\xs[i]?=some x,λi H=>eU K H a xs/\i=xs.length⟩
noncomputable def LU(z:Str):It:=
 ⟨λi _=>i<z.cps.size,λi H v H'=>∃p c,v=.ref p/\H p=none/\H'=upd H p (.tup [.int (i:Nat),.str ⟨#[c]⟩])/\z.cps[i]?=some c,λi _=>i=z.cps.size⟩
def tv{P:Program}{w:World}{K:zz8}{elts:List Expr}{x1:Nat}{pos:Pos}(a e it:Addr)(xs:List V):Turn P w K (.Tuple elts x1 pos) (MH K a xs) [e,it] e (λi h=>(∃old,IsEnum h e it i old)/\h.IsTupleIter it a i) where
 mem:=by simp
 obj:=λi h st b hb=>by
  obtain⟨⟨old,he⟩,o,ho,_,hd⟩:=st
  rcases zzm.mp hb with z|z
  ·subst z;exact⟨_,he,λv q=>by cases q⟩
  ·rw [zzi.mp z];exact⟨o,ho,λv q=>by rw [hd] at q;cases q⟩
 keep:=λi h h' st k=>⟨by obtain⟨old,he⟩:=st.1;exact⟨old,k e (by simp) _ he⟩,st.2.at λo q=>k it (by simp) o q⟩
 item:=by
  intro X hP hw hK hc i aa s σ H E I hf st hg;subst hP hw hK;obtain⟨hq,cm⟩:=hg
  obtain⟨⟨old,he⟩,hit⟩:=st
  obtain⟨aw,rv,p,hz⟩:=I.tuple hq
  have hl:=rv.length
  have jv:=hit
  obtain⟨oi,e1,e2,_⟩:=hit
  obtain⟨oa,a1,a2,_⟩:=id p
  have zG:a≠it:=fj a1 e1 (by rw [a2,e2];decide+kernel)
  have EI:e≠it:=fj he e1 (by rw [e2];show Value.type "enumerate"≠_;decide+kernel)
  have Hm:e≠a:=fj he a1 (by rw [a2];show Value.type "enumerate"≠_;decide+kernel)
  refine bJ (i5 (Gx:=λx=>xs[i]?=some x) I (mQ (A:=X.A.in1) (I.ok.hd hc) it a zG aw.toArray) he ⟨jv,p⟩ (by rw [zzC];omega) EI (by simp [EI,Hm]) hf (λu hu=>?_)) λr s1 ⟨u,hr,k⟩=>⟨u,hr,bJ k λ_ s2 ⟨x,q,z1,z2,z3,z4,z5,z6,z7,z8⟩=>?_⟩
  ·have KI:xs[i]?=some xs[i]:=zzg cm
   obtain⟨u',KG,ru'⟩:=rv.get KI
   have:aw.toArray[i]?=some u':=by simpa using KG
   have KH:aw.toArray[i]?=some u:=hu
   rw [this] at KH;cases KH;exact⟨xs[i],ru',KI⟩
  ·exact⟨.ref q,_,z6,z1.symm▸rfl,⟨q,x,rfl,z3,rfl,z2⟩,⟨z7,z8.1⟩,λb hb=>by
    rcases zzm.mp hb with w|w
    ·rw [w,af z4];exact(hf e (by simp)).1
    ·rw [zzi.mp w,af z5];exact(hf it (by simp)).1⟩
 done:=by
  intro X hP hw hK hc i aa s σ H E I hf st hg;subst hP hw hK;obtain⟨hq,rfl⟩:=hg
  obtain⟨⟨old,he⟩,hit⟩:=st
  obtain⟨aw,rv,p,hz⟩:=I.tuple hq
  have hl:=rv.length
  have jv:=hit
  obtain⟨oi,e1,e2,_⟩:=hit
  obtain⟨oa,a1,a2,_⟩:=id p
  have zG:a≠it:=fj a1 e1 (by rw [a2,e2];decide+kernel)
  obtain⟨g0,g1,g2,g3,g4,g5⟩:=hf it (by simp)
  refine wpAny_pyNext_enum_endD (mQ (A:=X.A.in1) (I.ok.hd hc) it a zG aw.toArray) he ⟨by rw [zzC,<-hl];exact jv,p⟩ λh' eb=>⟨rfl,I.turned (t':=s.toks) (λb o hb q=>eb b o hb q) g0 g1 g3 g4 g5⟩
 self:=λ_ _ _ _ _ st h=>by obtain⟨⟨old,he⟩,_⟩:=st;exact wpAny_pyIter_enum he h
def md{prog:Program}{w:World}{A:Around}{E:Value->Shared->Prop}{s:Shared}{l:Addr}{items:Array Value}{Q:Value->Shared->Prop}(hL:IsTup s.heap l items)
 (h:∀g,IsEnum g ((zz9 s)+1) (zz9 s) 0 .none->g.IsTupleIter (zz9 s) l 0->(∀b o,s.heap.get? b=some o->g.get? b=some o)->Q (.ref ((zz9 s)+1)) {s with heap:=g}):
 wpAny (model prog w) A (call (.type "enumerate") [.ref l]) Q E s:=by
 obtain⟨⟨cls,dd,data,sl⟩,ho,hc,n,hd⟩:=id hL
 simp only at hc hd;subst hc hd;have hz:(s.heap.push {cls:=.type "tuple_iterator",data:=.fields #[.ref l,.int 0 0]}).objs.size=(zz9 s)+1:=Heap.size_push ..
 refine callType_new F.called_enumerate (by decide) (F.typeCall_enumerate_1 _) (F.newCall_enumerate_1 _) (λobj=>F.args_object_init_2 obj _) F.entry_enumerate_new (wg l items n dd sl) ⟨ho,?_⟩;show _/\_;rw [hz];have he:IsEnum ((s.heap.push {cls:=.type "tuple_iterator",data:=.fields #[.ref l,.int 0 0]}).push {cls:=.type "enumerate",data:=.fields #[.none,.bool false,.ref (zz9 s),rawInt 0,.none,.none]}) ((zz9 s)+1) (zz9 s) 0 .none:=by
  have q:=zzX (s.heap.push {cls:=.type "tuple_iterator",data:=.fields #[.ref l,.int 0 0]}) (o:={cls:=.type "enumerate",data:=.fields #[.none,.bool false,.ref (zz9 s),rawInt 0,.none,.none]}) rfl
  rw [hz] at q;exact q
 exact⟨⟨_,he,rfl⟩,h _ he ⟨_,zzB _ (zzX _ rfl),rfl,rfl⟩ λb o x=>zzB _ (zzB _ x)⟩
section
variable{X:Cx}{elts:List Expr}{x1:Nat}{sX:Pos}
noncomputable def NH(K:zz8)(ta:TA):TI:=λσ H R=>ta σ H λvs H1=>∃a xs,vs=[.ref a]/\eU K H1 a xs/\R (MH K a xs) H1
theorem Ak{a:Expr}{ta:TA}{p pos:Pos}(hg:Gl X "enumerate")(hm:X.mg "enumerate"=none)(ha:PA X [a] ta)(hs:starEach [a] X.env=[(false,eval a X.env)]:=by rfl):PI X (.Tuple elts x1 sX) (.Call (.Name "enumerate" p) [a] [] pos) (NH X.K ta):=by
 intro aa s σ H R I h;refine Call_ (eO I hg hm boot_enumerate (PyProof.Rows.callWith_type1 (bJ (ha pos aa s σ H _ I h) λus s1 ⟨vs,H1,I1,r1,q1⟩=>?_) hs rfl))
 obtain⟨a,xs,e,hq,q⟩:=q1
 subst e;obtain⟨u,rfl,ru⟩:=vals1 r1
 cases ru;obtain⟨aw,rv,pt,hz⟩:=I1.tuple hq
 refine md pt λg he hi kp=>wpAny_pyIter_enum he ?_
 have I2:Inv X aa σ H1 {s1 with heap:=g}:=I1.kept (t':=s1.toks) kp
 refine⟨(zz9 s1)+1,[(zz9 s1)+1,(zz9 s1)],_,_,H1,rfl,I2,tv a _ (zz9 s1) xs,⟨⟨_,he⟩,hi⟩,λb hb=>?_,q⟩
 have j1:(zz9 s1)<=b:=by
  rcases zzm.mp hb with z|z
  ·rw [z];exact Nat.le_succ _
  ·rw [zzi.mp z];exact zzE _
 exact I1.js j1 (I1.aN.fresh j1)
end
def tm{P:Program}{w:World}{K:zz8}{elts:List Expr}{x1:Nat}{pos:Pos}(z:Str)(t:Tok)(e it:Addr):Turn P w K (.Tuple elts x1 pos) (LU z) [e,it] e (λi h=>(∃old,IsEnum h e it i old)/\h.IsStrIter it (strIterType z) z t i) where
 mem:=by simp
 obj:=λi h st b hb=>by
  obtain⟨⟨old,he⟩,o,ho,_,hd⟩:=st
  rcases zzm.mp hb with q|q
  ·subst q;exact⟨_,he,λv q=>by cases q⟩
  ·rw [zzi.mp q];exact⟨o,ho,λv q=>by rw [hd] at q;cases q⟩
 keep:=λi h h' st k=>⟨by obtain⟨old,he⟩:=st.1;exact⟨old,k e (by simp) _ he⟩,by obtain⟨o,q,r⟩:=st.2;exact⟨o,k it (by simp) o q,r⟩⟩
 item:=by
  intro X hP hw hK hc i aa s σ H E I hf st hg;subst hP hw hK;have cm:i<z.cps.size:=hg
  obtain⟨⟨old,he⟩,hit⟩:=st
  have jv:=hit
  obtain⟨oi,e1,e2,_⟩:=hit
  have EI:e≠it:=fj he e1 (by
   rw [e2];show Value.type "enumerate"≠_;rcases eT z with q|q<;>rw [q]<;>decide+kernel)
  have fin:∀{Sv:Nat->Heap->Prop},Draws X.prog X.w X.A.in1 it [it] z.cps.size (λi v=>∃c u,z.cps[i]?=some c/\v=.str ⟨#[c]⟩ u) Sv->Sv i s.heap->(∀h,Sv (i+1) h->h.IsStrIter it (strIterType z) z t (i+1))->
   wpAny (model X.prog X.w) X.A (pyNext (.ref e)) (λr s1=>∃u,r=some u/\wpAny (model X.prog X.w) X.A (letOwnedTupleGo (.Tuple elts x1 pos) (.ref e) u) (λ_ s2=>∃x H',Inv X aa σ H' s2/\RelV x u/\(LU z).Ju i H x H'/\((∃old,IsEnum s2.heap e it (((i+1:Nat)):Int) old)/\s2.heap.IsStrIter it (strIterType z) z t (i+1))/\∀b∈[e,it],H' b=none) E s1) E s:=by
   intro Sv D dh back;refine bJ (i5 (Gx:=λx=>∃c,x=.str ⟨#[c]⟩/\z.cps[i]?=some c) I D he dh cm EI (by simp [EI]) hf (λu ⟨c,tk,hc,hu⟩=>⟨.str ⟨#[c]⟩,⟨tk,hu⟩,c,rfl,hc⟩)) λr s1 ⟨u,hr,k⟩=>⟨u,hr,bJ k λ_ s2 ⟨x,q,z1,⟨c,z2,z2'⟩,z3,z4,z5,z6,z7,z8⟩=>?_⟩
   subst z2;exact⟨.ref q,_,z6,z1.symm▸rfl,⟨q,c,rfl,z3,rfl,z2'⟩,⟨z7,back _ z8⟩,λb hb=>by
    rcases zzm.mp hb with w|w
    ·rw [w,af z4];exact(hf e (by simp)).1
    ·rw [zzi.mp w,af z5];exact(hf it (by simp)).1⟩
  rcases eT z with q|q
  ·rw [q] at jv⊢;rw [q] at fin;exact fin (Draws.strAscii (A:=X.A.in1) (I.ok.hd hc) it z t) jv λh st=>st
  ·rw [q] at jv⊢;rw [q] at fin;exact fin (Draws.strWide (A:=X.A.in1) (I.ok.hd hc) it z t) jv λh st=>st
 done:=by
  intro X hP hw hK hc i aa s σ H E I hf st hg;subst hP hw hK;have hi:i=z.cps.size:=hg
  subst hi;obtain⟨⟨old,he⟩,hit⟩:=st
  obtain⟨g0,g1,g2,g3,g4,g5⟩:=hf it (by simp)
  rcases eT z with q|q
  ·rw [q] at hit;exact wpAny_pyNext_enum_endD (Draws.strAscii (A:=X.A.in1) (I.ok.hd hc) it z t) he hit λh' eb=>⟨rfl,I.turned (t':=s.toks) (λb o hb q=>eb b o hb q) g0 g1 g3 g4 g5⟩
  ·rw [q] at hit;exact wpAny_pyNext_enum_endD (Draws.strWide (A:=X.A.in1) (I.ok.hd hc) it z t) he hit λh' eb=>⟨rfl,I.turned (t':=s.toks) (λb o hb q=>eb b o hb q) g0 g1 g3 g4 g5⟩
 self:=λ_ _ _ _ _ st h=>by obtain⟨⟨old,he⟩,_⟩:=st;exact wpAny_pyIter_enum he h
section
variable{X:Cx}{elts:List Expr}{x1:Nat}{sX:Pos}
noncomputable def NG(ta:TA):TI:=λσ H R=>ta σ H λvs H1=>∃z,vs=[.str z]/\R (LU z) H1
theorem Aj{a:Expr}{ta:TA}{p pos:Pos}(hg:Gl X "enumerate")(hm:X.mg "enumerate"=none)(ha:PA X [a] ta)(hs:starEach [a] X.env=[(false,eval a X.env)]:=by rfl):PI X (.Tuple elts x1 sX) (.Call (.Name "enumerate" p) [a] [] pos) (NG ta):=by
 intro aa s σ H R I h;refine Call_ (eO I hg hm boot_enumerate (PyProof.Rows.callWith_type1 (bJ (ha pos aa s σ H _ I h) λus s1 ⟨vs,H1,I1,r1,q1⟩=>?_) hs rfl))
 obtain⟨z,e,q⟩:=q1
 subst e;obtain⟨u,rfl,t,rfl⟩:=vals1 r1
 refine call_enumerate_str λg he hi hz kp=>wpAny_pyIter_enum he ?_
 have I2:Inv X aa σ H1 {s1 with heap:=g}:=I1.kept (t':=s1.toks) kp
 refine⟨(zz9 s1)+1,[(zz9 s1)+1,(zz9 s1)],_,_,H1,rfl,I2,tm z t _ (zz9 s1),⟨⟨_,he⟩,hi⟩,λb hb=>?_,q⟩
 have j1:(zz9 s1)<=b:=by
  rcases zzm.mp hb with z|z
  ·rw [z];exact Nat.le_succ _
  ·rw [zzi.mp z];exact zzE _
 exact I1.js j1 (I1.aN.fresh j1)
end
noncomputable def E7(K:zz8)(a:Addr)(xs:List V):It:=
 ⟨λi H=>iW K H a xs/\i<xs.length,λi H v H'=>∃p x,v=.ref p/\H p=none/\H'=upd H p (.tup [.int (i:Nat),x])/\xs[i]?=some x,λi H=>iW K H a xs/\i=xs.length⟩
def tj{P:Program}{w:World}{K:zz8}{elts:List Expr}{x1:Nat}{pos:Pos}(a e it:Addr)(xs:List V):Turn P w K (.Tuple elts x1 pos) (E7 K a xs) [e,it] e (λi h=>(∃old,IsEnum h e it i old)/\h.IsListIter it a i) where
 mem:=by simp
 obj:=λi h st b hb=>by
  obtain⟨⟨old,he⟩,o,ho,_,hd⟩:=st
  rcases zzm.mp hb with z|z
  ·subst z;exact⟨_,he,λv q=>by cases q⟩
  ·rw [zzi.mp z];exact⟨o,ho,λv q=>by rw [hd] at q;cases q⟩
 keep:=λi h h' st k=>⟨by obtain⟨old,he⟩:=st.1;exact⟨old,k e (by simp) _ he⟩,st.2.at λo q=>k it (by simp) o q⟩
 item:=by
  intro X hP hw hK hc i aa s σ H E I hf st hg;subst hP hw hK;obtain⟨hq,cm⟩:=hg
  obtain⟨⟨old,he⟩,hit⟩:=st
  obtain⟨aw,rv,p,hz⟩:=I.list hq
  have hl:=rv.length
  have jv:=hit
  obtain⟨oi,e1,e2,_⟩:=hit
  obtain⟨oa,a1,a2,_⟩:=p.isList
  have zG:a≠it:=fj a1 e1 (by rw [a2,e2];decide+kernel)
  have EI:e≠it:=fj he e1 (by rw [e2];show Value.type "enumerate"≠_;decide+kernel)
  have Hm:e≠a:=fj he a1 (by rw [a2];show Value.type "enumerate"≠_;decide+kernel)
  refine bJ (i5 (Gx:=λx=>xs[i]?=some x) I (Draws.list (A:=X.A.in1) (I.ok.hd hc) it a zG aw.toArray) he ⟨jv,p.isList⟩ (by rw [zzC];omega) EI (by simp [EI,Hm]) hf (λu hu=>?_)) λr s1 ⟨u,hr,k⟩=>⟨u,hr,bJ k λ_ s2 ⟨x,q,z1,z2,z3,z4,z5,z6,z7,z8⟩=>?_⟩
  ·have KI:xs[i]?=some xs[i]:=zzg cm
   obtain⟨u',KG,ru'⟩:=rv.get KI
   have:aw.toArray[i]?=some u':=by simpa using KG
   have KH:aw.toArray[i]?=some u:=hu
   rw [this] at KH;cases KH;exact⟨xs[i],ru',KI⟩
  ·exact⟨.ref q,_,z6,z1.symm▸rfl,⟨q,x,rfl,z3,rfl,z2⟩,⟨z7,z8.1⟩,λb hb=>by
    rcases zzm.mp hb with w|w
    ·rw [w,af z4];exact(hf e (by simp)).1
    ·rw [zzi.mp w,af z5];exact(hf it (by simp)).1⟩
 done:=by
  intro X hP hw hK hc i aa s σ H E I hf st hg;subst hP hw hK;obtain⟨hq,rfl⟩:=hg
  obtain⟨⟨old,he⟩,hit⟩:=st
  obtain⟨aw,rv,p,hz⟩:=I.list hq
  have hl:=rv.length
  have jv:=hit
  obtain⟨oi,e1,e2,_⟩:=hit
  obtain⟨oa,a1,a2,_⟩:=p.isList
  have zG:a≠it:=fj a1 e1 (by rw [a2,e2];decide+kernel)
  obtain⟨g0,g1,g2,g3,g4,g5⟩:=hf it (by simp)
  refine wpAny_pyNext_enum_endD (Draws.list (A:=X.A.in1) (I.ok.hd hc) it a zG aw.toArray) he ⟨by rw [zzC,<-hl];exact jv,p.isList⟩ λh' eb=>⟨rfl,I.turned (t':=s.toks) (λb o hb q=>eb b o hb q) g0 g1 g3 g4 g5⟩
 self:=λ_ _ _ _ _ st h=>by obtain⟨⟨old,he⟩,_⟩:=st;exact wpAny_pyIter_enum he h
section
variable{X:Cx}{elts:List Expr}{x1:Nat}{sX:Pos}
noncomputable def NF(K:zz8)(ta:TA):TI:=λσ H R=>ta σ H λvs H1=>∃a xs,vs=[.ref a]/\iW K H1 a xs/\R (E7 K a xs) H1
theorem qP{a:Expr}{ta:TA}{p pos:Pos}(hg:Gl X "enumerate")(hm:X.mg "enumerate"=none)(ha:PA X [a] ta)(hs:starEach [a] X.env=[(false,eval a X.env)]:=by rfl):PI X (.Tuple elts x1 sX) (.Call (.Name "enumerate" p) [a] [] pos) (NF X.K ta):=by
 intro aa s σ H R I h;refine Call_ (eO I hg hm boot_enumerate (PyProof.Rows.callWith_type1 (bJ (ha pos aa s σ H _ I h) λus s1 ⟨vs,H1,I1,r1,q1⟩=>?_) hs rfl))
 obtain⟨a,xs,e,hq,q⟩:=q1
 subst e;obtain⟨u,rfl,ru⟩:=vals1 r1
 cases ru;obtain⟨aw,rv,pt,hz⟩:=I1.list hq
 refine call_enumerate_list pt.isList λg he hi _ kp=>wpAny_pyIter_enum he ?_
 have I2:Inv X aa σ H1 {s1 with heap:=g}:=I1.kept (t':=s1.toks) kp
 refine⟨(zz9 s1)+1,[(zz9 s1)+1,(zz9 s1)],_,_,H1,rfl,I2,tj a _ (zz9 s1) xs,⟨⟨_,he⟩,hi⟩,λb hb=>?_,q⟩
 have j1:(zz9 s1)<=b:=by
  rcases zzm.mp hb with z|z
  ·rw [z];exact Nat.le_succ _
  ·rw [zzi.mp z];exact zzE _
 exact I1.js j1 (I1.aN.fresh j1)
end
structure Zd where
 it:Addr
 fp:List Addr
 n:Nat
 P:Nat->Value->Prop
 St:Nat->Heap->Prop
end L2
namespace Ci
open PySem L2
structure Hs where
 f:Str
 h:Str
 g:Str
 idx:List Nat
 np:Nat
structure Pg where
 gs:List (Str×PV)
 bs:List Str
 cs:List Str
 fs:List Str
 rs:List Str
 hs:List Hs:=[]
 hl:Bool:=false
 qt:Bool:=false
 qs:List Str:=[]
noncomputable def nq(Γ:Pg)(b:Bool):Bool:=b&&!Γ.qt
def qL{Γ:Pg}{b:Bool}(h:nq Γ b=true):Γ.qt=false/\b=true:=by
 unfold nq at h;rw [zza,Bool.not_eq_true'] at h;exact⟨h.2,h.1⟩
noncomputable def eY(sc:Scope)(x:Str):Bool:=sc.names.lookup x==some .local||sc.names.lookup x==some .cell
noncomputable def ei(sc:Scope)(x:Str):Bool:=eY sc x||sc.names.lookup x==some .free
noncomputable def ic(sc:Scope)(x:Str):Bool:=sc.names.lookup x==some .globalImplicit
noncomputable def litS:List PV->List PV->Bool
 |[],[]=>true
 |.str x::xs,.str y::ys=>x==y&&litS xs ys
 |_,_=>false
noncomputable def uQ:PV->PV->Bool
 |.int i,.int j=>i==j
 |.str x,.str y=>x==y
 |.tup xs,.tup ys=>litS xs ys
 |_,_=>false
theorem litS_eq:∀{xs ys:List PV},litS xs ys=true->xs=ys
 |[],[],_=>rfl
 |.str x::xs,.str y::ys,h=>by
  unfold litS at h;rw [zza] at h;rw [zzy.mp h.1,litS_eq h.2]
def zv{p q:PV}(h:uQ p q=true):p=q:=by
 unfold uQ at h;split at h
 ·rw [zzy.mp h]
 ·rw [zzy.mp h]
 ·rw [litS_eq h]
 ·cases h
noncomputable def bN:B->Str
 |.len=>"len"|.abs=>"abs"|.max2=>"max"|.int=>"int"|.str=>"str"|.tuple=>"tuple"
def mN:M->Str
 |.join=>"join"
noncomputable def gB:E->Bool
 |.gV _=>false
 |_=>true
noncomputable def fA:Es->Bool
 |.nil=>true
 |.cons e es=>gB e&&fA es
noncomputable def B1:I->Bool
 |.seq e=>gB e
 |.rD _=>true
 |.oY _ _=>true
 |.enum e=>gB e
noncomputable def isNil:Es->Bool
 |.nil=>true
 |_=>false
noncomputable def fY:Es->Nat
 |.nil=>0
 |.cons _ es=>fY es+1
noncomputable def IQ:Expr->Option (List Expr)
 |.Tuple es _ _=>some es
 |_=>none
def vz{e:Expr}{es:List Expr}(h:IQ e=some es):∃k p,e=.Tuple es k p:=by
 cases e with
 |Tuple es k p=>cases h;exact⟨_,_,rfl⟩
 |_=>exact g8 h
noncomputable def xF{α:Type}:List α->Option (α×α)
 |[a,b]=>some (a,b)
 |_=>none
def D2{α:Type}{ts:List α}{q:α×α}(h:xF ts=some q):ts=[q.1,q.2]:=by
 cases ts with
 |nil=>exact g8 h
 |cons a ts=>
  cases ts with
  |nil=>exact g8 h
  |cons b ts=>
   cases ts with
   |cons _ _=>exact g8 h
   |nil=>cases h;rfl
noncomputable def N0(N:List Str)(sc:Scope)(fn:Str->Bool)(i:Nat)(p:Expr):Bool:=(eP p).any λx=>N[i]?==some x&&eY sc x&&(fn x||sc.names.lookup x==some .local)
noncomputable def Hn(N:List Str)(sc:Scope)(fn:Str->Bool):List Nat->List Expr->Bool
 |i::is,a::as=>N0 N sc fn i a&&Hn N sc fn is as
 |[],[]=>true
 |_,_=>false
noncomputable def gU(N:List Str)(sc:Scope)(fn:Str->Bool):Tg->Expr->Bool
 |.one i,p=>N0 N sc fn i p
 |.two i j,p=>(IQ p).any (Hn N sc fn [i,j])
noncomputable def aF:Expr->List Str
 |.Name x _=>[x]
 |.Tuple [.Name x _,.Name y _] _ _=>[x,y]
 |.Tuple [.Name x _,.Name y _,.Name z _] _ _=>[x,y,z]
 |.Tuple [.Name x _,.Tuple [.Name y _,.Name z _] _ _] _ _=>[x,y,z]
 |_=>[]
noncomputable def cZ(scope sc:Scope):Scope:=
 {scope with names:=scope.names.map λ(n,k)=>if(k==.free&&sc.kind==.function&&sc.names.lookup n==some .cell) then(n,.cell) else(n,k)}
noncomputable def freeOf(scope:Scope):List Str:=((scope.names.filter λp=>p.2==.free).map (·.1)).reverse
noncomputable def uc(N:List Str)(sc scope:Scope)(k:Nat)(aS:List Nat)(xs:List Str):Bool:=
 scope.kind==.function&&xs.length==k&&decide ((xs++freeOf scope).Nodup)
 &&(scope.names.all λy=>(decide (y.2≠.cell)||!(freeOf scope).contains y.1)&&(decide (y.2≠.free)||(freeOf scope).contains y.1))
 &&(scope.names.all λy=>decide (y.2≠.cell)||decide (scope.names.lookup y.1=some .cell))
 &&(scope.names.all λy=>decide (y.2≠.local)||decide (scope.names.lookup y.1=some .local))
 &&decide (aS.map (λi=>N[i]?)=(freeOf scope).map some)
 &&((freeOf scope).all λy=>decide (sc.names.lookup y=some .cell))
 &&((freeOf scope).all λy=>decide ((cZ scope sc).names.lookup y=some .cell))
noncomputable def lR(k:Nat):Tg->Bool
 |.one i=>decide (i<k)
 |.two i j=>decide (i<k)&&decide (j<k)
noncomputable def fC:E->Bool
 |.ite _ _ _=>false
 |.not a=>fC a
 |.and a b=>fC a&&fC b
 |.or a b=>fC a&&fC b
 |_=>true
noncomputable def isTup:Expr->Bool
 |.Tuple .. =>true
 |_=>false
noncomputable abbrev Pg.Bb(Γ:Pg):Pg:={Γ with hl:=false}
def iY{α β:Type}{o:Option α}{f:α->Option β}{b:β}(h:o.bind f=some b):∃a,o=some a/\f a=some b:=zzZ.1 h
def if1{α:Type}{c:Bool}{a b:α}(h:(if c=true then some a else none)=some b):c=true/\a=b:=by
 cases c with
 |true=>cases h;exact⟨rfl,rfl⟩
 |false=>exact g8 h
noncomputable def fm{α:Type}:List α->Option α
 |[t]=>some t
 |_=>none
def cY{α:Type}{ts:List α}{t:α}(h:fm ts=some t):ts=[t]:=by
 cases ts with
 |nil=>exact g8 h
 |cons a ts=>
  cases ts with
  |cons _ _=>exact g8 h
  |nil=>cases h;rfl
noncomputable def JK:Expr->Option (Expr×Str×Pos)
 |.Attribute o m p=>some (o,m,p)
 |_=>none
def x8{e:Expr}{q:Expr×Str×Pos}(h:JK e=some q):e=.Attribute q.1 q.2.1 q.2.2:=by
 cases e with
 |Attribute o m p=>cases h;rfl
 |_=>exact g8 h
noncomputable def Mn:Expr->Option (Arguments×Expr×Scope)
 |.Lambda p b s _=>some (p,b,s)
 |_=>none
def k9{e:Expr}{q:Arguments×Expr×Scope}(h:Mn e=some q):∃p,e=.Lambda q.1 q.2.1 q.2.2 p:=by
 cases e with
 |Lambda p b s x=>cases h;exact⟨_,rfl⟩
 |_=>exact g8 h
noncomputable def EU:Expr->Option (Expr×Expr)
 |.Subscript a b _=>some (a,b)
 |_=>none
def pf{e:Expr}{q:Expr×Expr}(h:EU e=some q):∃p,e=.Subscript q.1 q.2 p:=by
 cases e with
 |Subscript a b p=>cases h;exact⟨_,rfl⟩
 |_=>exact g8 h
noncomputable def Je:Expr->Option Const
 |.Constant c _ _=>some c
 |_=>none
def rP{e:Expr}{c:Const}(h:Je e=some c):∃p q,e=.Constant c p q:=by
 cases e with
 |Constant c p q=>cases h;exact⟨_,_,rfl⟩
 |_=>exact g8 h
noncomputable def IC:Const->Option Str
 |.str z=>some z
 |_=>none
def AL{c:Const}{z:Str}(h:IC c=some z):c=.str z:=by
 cases c with
 |str y=>cases h;rfl
 |_=>exact g8 h
noncomputable def Mg:Const->Option Int
 |.int n=>some n
 |_=>none
def sj{c:Const}{n:Int}(h:Mg c=some n):c=.int n:=by
 cases c with
 |int y=>cases h;rfl
 |_=>exact g8 h
def CQ{α:Type}{l:List α}(h:l.isEmpty=true):l=[]:=by
 cases l with
 |nil=>rfl
 |cons _ _=>exact aV h
def Hr{α:Type}{o:Option α}(h:o.isNone=true):o=none:=by
 cases o with
 |none=>rfl
 |some _=>exact aV h
noncomputable def Ph:Const->Option Bool
 |.bool b=>some b
 |_=>none
def Fo{c:Const}{b:Bool}(h:Ph c=some b):c=.bool b:=by
 cases c with
 |bool y=>cases h;rfl
 |_=>exact g8 h
noncomputable def Qg:Const->Bool
 |.none=>true
 |_=>false
def Ho{c:Const}(h:Qg c=true):c=.none:=by
 cases c with
 |none=>rfl
 |_=>exact aV h
noncomputable def Pf:Expr->Option (Expr×Operator×Expr)
 |.BinOp a o b _=>some (a,o,b)
 |_=>none
def Fm{e:Expr}{q:Expr×Operator×Expr}(h:Pf e=some q):∃p,e=.BinOp q.1 q.2.1 q.2.2 p:=by
 cases e with
 |BinOp a o b p=>cases h;exact⟨_,rfl⟩
 |_=>exact g8 h
noncomputable def L4:Expr->Option (Expr×List CmpOp×List Expr)
 |.Compare a o b _=>some (a,o,b)
 |_=>none
def Fz{e:Expr}{q:Expr×List CmpOp×List Expr}(h:L4 e=some q):∃p,e=.Compare q.1 q.2.1 q.2.2 p:=by
 cases e with
 |Compare a o b p=>cases h;exact⟨_,rfl⟩
 |_=>exact g8 h
noncomputable def LJ:Expr->Option (UnaryOp×Expr)
 |.UnaryOp o a _=>some (o,a)
 |_=>none
def IU{e:Expr}{q:UnaryOp×Expr}(h:LJ e=some q):∃p,e=.UnaryOp q.1 q.2 p:=by
 cases e with
 |UnaryOp o a p=>cases h;exact⟨_,rfl⟩
 |_=>exact g8 h
noncomputable def EG:UnaryOp->Bool
 |.Not=>true
 |_=>false
def y9{o:UnaryOp}(h:EG o=true):o=.Not:=by
 cases o with
 |Not=>rfl
 |_=>exact aV h
noncomputable def isNeg:UnaryOp->Bool
 |.USub=>true
 |_=>false
def qr{o:UnaryOp}(h:isNeg o=true):o=.USub:=by
 cases o with
 |USub=>rfl
 |_=>exact aV h
noncomputable def uI:BoolOp->Bool
 |.And=>true
 |.Or=>false
def y7{o:BoolOp}(h:uI o=true):o=.And:=by
 cases o with
 |And=>rfl
 |Or=>exact aV h
def CC{o:BoolOp}(h:(!uI o)=true):o=.Or:=by
 cases o with
 |Or=>rfl
 |And=>exact aV h
noncomputable def L3:Expr->Option (BoolOp×List Expr×Pos)
 |.BoolOp o vs p=>some (o,vs,p)
 |_=>none
def Fp{e:Expr}{q:BoolOp×List Expr×Pos}(h:L3 e=some q):e=.BoolOp q.1 q.2.1 q.2.2:=by
 cases e with
 |BoolOp o vs p=>cases h;rfl
 |_=>exact g8 h
noncomputable def MT(o:BoolOp)(pos:Pos):List Expr->Option (Expr×Expr)
 |a::b::[]=>some (a,b)
 |a::b::c::r=>some (a,.BoolOp o (b::c::r) pos)
 |_=>none
def ye{o:BoolOp}{pos:Pos}{vs:List Expr}{q:Expr×Expr}(h:MT o pos vs=some q):vs=[q.1,q.2]\/∃b c r,vs=q.1::b::c::r/\q.2=.BoolOp o (b::c::r) pos:=by
 cases vs with
 |nil=>exact g8 h
 |cons a vs=>
  cases vs with
  |nil=>exact g8 h
  |cons b vs=>
   cases vs with
   |nil=>cases h;exact .inl rfl
   |cons c r=>cases h;exact .inr ⟨b,c,r,rfl,rfl⟩
noncomputable def P5:Expr->Option (Expr×Expr×Expr)
 |.IfExp c a b _=>some (c,a,b)
 |_=>none
def GU{e:Expr}{q:Expr×Expr×Expr}(h:P5 e=some q):∃p,e=.IfExp q.1 q.2.1 q.2.2 p:=by
 cases e with
 |IfExp c a b p=>cases h;exact⟨_,rfl⟩
 |_=>exact g8 h
noncomputable def P7:Expr->Option (List Expr)
 |.List es _=>some es
 |_=>none
def zu{e:Expr}{es:List Expr}(h:P7 e=some es):∃p,e=.List es p:=by
 cases e with
 |List es p=>cases h;exact⟨_,rfl⟩
 |_=>exact g8 h
noncomputable def Iy:Expr->Option (Option Expr×Option Expr×Option Expr)
 |.Slice a b c _=>some (a,b,c)
 |_=>none
def Iz{e:Expr}{q:Option Expr×Option Expr×Option Expr}(h:Iy e=some q):∃p,e=.Slice q.1 q.2.1 q.2.2 p:=by
 cases e with
 |Slice a b c p=>cases h;exact⟨_,rfl⟩
 |_=>exact g8 h
noncomputable def Ml:Expr->Option (Expr×List Comprehension×Scope)
 |.ListComp e gs s _=>some (e,gs,s)
 |_=>none
def Hg{e:Expr}{q:Expr×List Comprehension×Scope}(h:Ml e=some q):∃p,e=.ListComp q.1 q.2.1 q.2.2 p:=by
 cases e with
 |ListComp e gs s p=>cases h;exact⟨_,rfl⟩
 |_=>exact g8 h
noncomputable def A1(e:Expr):Option (Str×List Expr):=(Bp e).bind λq=>(eP q.1).bind λg=>if q.2.2.1.isEmpty=true then some (g,q.2.1) else none
def Fw{e:Expr}{q:Str×List Expr}(h:A1 e=some q):∃np p,e=.Call (.Name q.1 np) q.2 [] p:=by
 obtain⟨⟨f,a,k,p⟩,h1,h⟩:=iY h
 obtain⟨g,h2,h⟩:=iY h
 obtain⟨h3,rfl⟩:=if1 h
 obtain⟨np,z⟩:=bM h2
 have z3:=CQ h3
 dsimp only at z z3;subst z z3;exact⟨np,p,gW h1⟩
noncomputable def JY:PV->Const->Bool
 |.aM,c=>Qg c
 |.bl b,c=>(Ph c).any λx=>b==x
 |.int i,c=>(Mg c).any λx=>i==x
 |.str z,c=>(IC c).any λx=>z==x
 |_,_=>false
noncomputable def He:List Keyword->Option (Str×Expr)
 |[⟨some n,v,_⟩]=>some (n,v)
 |_=>none
def zl{ks:List Keyword}{q:Str×Expr}(h:He ks=some q):∃p,ks=[⟨some q.1,q.2,p⟩]:=by
 cases ks with
 |nil=>exact g8 h
 |cons k ks=>
  obtain⟨kn,kv,kp⟩:=k
  cases kn with
  |none=>exact g8 h
  |some n=>
   cases ks with
   |cons _ _=>exact g8 h
   |nil=>cases h;exact⟨_,rfl⟩
noncomputable def uX(p:Expr):Bool:=(Bp p).isNone
def au{a b:Bool}(h:(a&&b)=true):a=true/\b=true:=Bool.and_eq_true_iff.mp h
def ah{α:Type}{o:Option α}{f:α->Bool}(h:o.any f=true):∃x,o=some x/\f x=true:=by
 cases o with
 |none=>cases h
 |some x=>exact⟨x,rfl,h⟩
theorem lA{α:Type}{l:List α}{f:α->Bool}(h:(fm l).any f=true):∃a,l=[a]/\f a=true:=let⟨a,e,h1⟩:=ah h;⟨a,cY e,h1⟩
theorem D4{α:Type}{l:List α}{f:α×α->Bool}(h:(xF l).any f=true):∃a b,l=[a,b]/\f (a,b)=true:=let⟨q,e,h1⟩:=ah h;⟨q.1,q.2,D2 e,h1⟩
theorem Mp{p:Expr}{f:Str->Bool}(h:(eP p).any f=true):∃x np,p=.Name x np/\f x=true:=let⟨x,e,h1⟩:=ah h;let⟨np,z⟩:=bM e;⟨x,np,z,h1⟩
theorem Pu{p:Expr}{f:Const->Bool}(h:(Je p).any f=true):∃x a b,p=.Constant x a b/\f x=true:=let⟨x,e,h1⟩:=ah h;let⟨a,b,z⟩:=rP e;⟨x,a,b,z,h1⟩
theorem En{p:Expr}{f:Str×List Expr->Bool}(h:(A1 p).any f=true):∃g as np pos,p=.Call (.Name g np) as [] pos/\f (g,as)=true:=let⟨q,e,h1⟩:=ah h;let⟨a,b,z⟩:=Fw e;⟨q.1,q.2,a,b,z,h1⟩
theorem Ox{p:Expr}{f:Expr×Expr->Bool}(h:(EU p).any f=true):∃a b pos,p=.Subscript a b pos/\f (a,b)=true:=let⟨q,e,h1⟩:=ah h;let⟨x,z⟩:=pf e;⟨q.1,q.2,x,z,h1⟩
theorem Qn{p:Expr}{f:Option Expr×Option Expr×Option Expr->Bool}(h:(Iy p).any f=true):∃a b c pos,p=.Slice a b c pos/\f (a,b,c)=true:=let⟨q,e,h1⟩:=ah h;let⟨x,z⟩:=Iz e;⟨q.1,q.2.1,q.2.2,x,z,h1⟩
theorem OM{p:Expr}{f:UnaryOp×Expr->Bool}(h:(LJ p).any f=true):∃o a pos,p=.UnaryOp o a pos/\f (o,a)=true:=let⟨q,e,h1⟩:=ah h;let⟨x,z⟩:=IU e;⟨q.1,q.2,x,z,h1⟩
theorem Pt{p:Expr}{f:Expr×List CmpOp×List Expr->Bool}(h:(L4 p).any f=true):∃a o b pos,p=.Compare a o b pos/\f (a,o,b)=true:=let⟨q,e,h1⟩:=ah h;let⟨x,z⟩:=Fz e;⟨q.1,q.2.1,q.2.2,x,z,h1⟩
theorem Mm{p:Expr}{f:Expr×List Comprehension×Scope->Bool}(h:(Ml p).any f=true):∃a g s pos,p=.ListComp a g s pos/\f (a,g,s)=true:=let⟨q,e,h1⟩:=ah h;let⟨x,z⟩:=Hg e;⟨q.1,q.2.1,q.2.2,x,z,h1⟩
theorem Pk{p:Expr}{f:BoolOp×List Expr×Pos->Bool}(h:(L3 p).any f=true):∃o vs pos,p=.BoolOp o vs pos/\f (o,vs,pos)=true:=let⟨q,e,h1⟩:=ah h;⟨q.1,q.2.1,q.2.2,Fp e,h1⟩
mutual
noncomputable def bh(Γ:Pg)(N:List Str)(sc:Scope):E->Expr->Bool
 |.var i,p=>(eP p).any λx=>N[i]?==some x&&ei sc x&&okN x
 |.gV i,p=>(eP p).any λx=>N[i]?==some x&&ei sc x&&okN x
 |.cst q,p=>(Je p).any (JY q)
 |.glob g p,e=>(eP e).any λx=>g==x&&ic sc x&&okN x&&Γ.gs.any λq=>q.1==g&&uQ q.2 p
 |.call f as,p=>(A1 p).any λq=>f==q.1&&Γ.fs.contains q.1&&ic sc q.1&&okN q.1&&fA as&&fQ Γ N sc as q.2
 |.ip i as,p=>(A1 p).any λq=>N[i]?==some q.1&&ei sc q.1&&okN q.1&&fA as&&fQ Γ N sc as q.2
 |.mJ f as g idx aS,p=>(A1 p).any λr=>Γ.hl&&ic sc r.1&&okN r.1&&fA as&&(Γ.hs.any λq=>q.f==f&&q.h==r.1&&q.g==g&&q.idx==idx&&decide (q.np=fY as+1))&&tZ Γ N sc g idx aS as r.2
 |.blt b as,p=>nq Γ ((A1 p).any λq=>bN b==q.1&&ic sc q.1&&Γ.bs.contains q.1&&!isNil as&&fQ Γ N sc as q.2)
 |.ty t a,p=>(A1 p).any λq=>(xF q.2).any λr=>(eP r.2).any λtn=>q.1==("isinstance":Str)&&ic sc q.1&&Γ.bs.contains q.1&&tn==Str.ofString (tG t)&&ic sc tn&&Γ.bs.contains tn&&bh Γ N sc a r.1
 |.Jp m o as,p=>(Bp p).any λq=>(JK q.1).any λr=>q.2.2.1.isEmpty&&(mN m==r.2.1&&!isNil as&&decide (fY as<30)&&r.2.2.endLine==q.2.2.2.line&&bh Γ N sc o r.1&&fQ Γ N sc as q.2.1&&uX r.1)
 |.bin o a b,p=>(Pf p).any λq=>decide (Ms o=q.2.1)&&bh Γ N sc a q.1&&bh Γ N sc b q.2.2
 |.cmp o a b,p=>(L4 p).any λq=>(fm q.2.1).any λop=>(fm q.2.2).any λpb=>decide (pF o=op)&&bh Γ N sc a q.1&&bh Γ N sc b pb
 |.ch o1 o2 a b c,p=>(L4 p).any λq=>(xF q.2.1).any λop=>(xF q.2.2).any λpb=>decide (pF o1=op.1)&&decide (pF o2=op.2)&&bh Γ N sc a q.1&&bh Γ N sc b pb.1&&bh Γ N sc c pb.2
 |.not a,p=>(LJ p).any λq=>EG q.1&&bh Γ N sc a q.2
 |.neg a,p=>(LJ p).any λq=>isNeg q.1&&bh Γ N sc a q.2
 |.and a b,p=>(L3 p).any λq=>(MT q.1 q.2.2 q.2.1).any λr=>uI q.1&&gB b&&bh Γ N sc a r.1&&bh Γ N sc b r.2
 |.or a b,p=>(L3 p).any λq=>(MT q.1 q.2.2 q.2.1).any λr=>!uI q.1&&gB b&&bh Γ N sc a r.1&&bh Γ N sc b r.2
 |.ite c a b,p=>(P5 p).any λq=>fC c&&gB a&&gB b&&bh Γ N sc c q.1&&bh Γ N sc a q.2.1&&bh Γ N sc b q.2.2
 |.tup as,p=>(IQ p).any λps=>fA as&&decide (fY as<1000)&&fQ Γ N sc as ps
 |.lst as,p=>(P7 p).any λps=>fA as&&decide (fY as<1000)&&fQ Γ N sc as ps
 |.sub a b,p=>(EU p).any λq=>bh Γ N sc a q.1&&bh Γ N sc b q.2
 |.slice a lo hi,p=>(EU p).any λq=>(Iy q.2).any λr=>r.2.2.isNone&&bh Γ N sc a q.1&&Fx Γ N sc lo r.1&&Fx Γ N sc hi r.2.1
 |.comp k aS tg it elt,p=>nq Γ ((Ml p).any λq=>(fm q.2.1).any λg=>g.ifs.isEmpty&&(uc N sc q.2.2 k aS (aF g.target)&&lR k tg&&gB elt&&vY Γ N sc g.target it g.iter&&gU (aF g.target++freeOf q.2.2) (cZ q.2.2 sc) (lB q.2.2) tg g.target&&bh Γ.Bb (aF g.target++freeOf q.2.2) (cZ q.2.2 sc) elt q.1&&decide (g.is_async=0)))
 |.dD k aS tg it c elt,p=>nq Γ ((Ml p).any λq=>(fm q.2.1).any λg=>(fm g.ifs).any λpc=>fC c&&uc N sc q.2.2 k aS (aF g.target)&&lR k tg&&gB elt&&vY Γ N sc g.target it g.iter&&gU (aF g.target++freeOf q.2.2) (cZ q.2.2 sc) (lB q.2.2) tg g.target&&bh Γ.Bb (aF g.target++freeOf q.2.2) (cZ q.2.2 sc) c pc&&bh Γ.Bb (aF g.target++freeOf q.2.2) (cZ q.2.2 sc) elt q.1&&decide (g.is_async=0))
 |.rev a,p=>(EU p).any λq=>(Iy q.2).any λr=>(r.2.2).any λst=>(LJ st).any λu=>(Je u.2).any λc=>r.1.isNone&&r.2.1.isNone&&isNeg u.1&&Mg c==some 1&&bh Γ N sc a q.1
noncomputable def fQ(Γ:Pg)(N:List Str)(sc:Scope):Es->List Expr->Bool
 |.nil,[]=>true
 |.cons e es,p::ps=>bh Γ N sc e p&&fQ Γ N sc es ps
 |_,_=>false
noncomputable def tZ(Γ:Pg)(N:List Str)(sc:Scope)(g:Str)(idx aS:List Nat):Es->List Expr->Bool
 |.nil,ps=>(fm ps).any λp=>(Mn p).any λl=>CL g idx l.1 l.2.1 l.2.2&&decide (aS.map (λi=>N[i]?)=(aO l.2.2).map some)&&((aO l.2.2).all λy=>decide (sc.names.lookup y=some .cell))
 |.cons e es,p::ps=>bh Γ N sc e p&&tZ Γ N sc g idx aS es ps
 |_,_=>false
noncomputable def Fx(Γ:Pg)(N:List Str)(sc:Scope):Oe->Option Expr->Bool
 |.no,none=>true
 |.some e,some p=>bh Γ N sc e p
 |_,_=>false
noncomputable def vY(Γ:Pg)(N:List Str)(sc:Scope)(tg:Expr):I->Expr->Bool
 |.seq e,p=>bh Γ N sc e p
 |.rD e,p=>(A1 p).any λq=>(fm q.2).any λr=>q.1==("range":Str)&&ic sc q.1&&Γ.bs.contains q.1&&bh Γ N sc e r
 |.oY a b,p=>(A1 p).any λq=>(xF q.2).any λr=>q.1==("range":Str)&&ic sc q.1&&Γ.bs.contains q.1&&bh Γ N sc a r.1&&bh Γ N sc b r.2
 |.enum e,p=>(A1 p).any λq=>(fm q.2).any λr=>isTup tg&&q.1==("enumerate":Str)&&ic sc q.1&&Γ.bs.contains q.1&&bh Γ N sc e r
end
noncomputable def XE(W:Wd)(c:Str)(G1 H1:Hp):XK:=λCv ao H'=>∃C a G',Cv=.ref C/\ao=some a/\c∈W.xs/\W.mg c=some (.ref C)/\aA W G1 H1 G' H'
def rG(X:Cx)(W:Wd)(σ:St)(c:Str)(G H:Hp):Prop:=∀(aa:List (Addr×Obj)) (G1 H1:Hp) (s1:Shared) (e:Value) (s':Shared),Inv X aa σ H1 s1->aA W G H G1 H1->dO X.prog X.w X.stack H1 s1 (XE W c G1 H1) e s'->X.xe e s'
def Out{α:Type}(X:Cx)(W:Wd)(r:Res α)(σ:St)(G H:Hp)(k:α->Prop):Prop:=match r with
 |.ok a=>k a
 |.exc c=>rG X W σ c G H
 |.bad=>False
section
variable{X:Cx}{W:Wd}{F:aU}{σ:St}{G H G1 H1:Hp}{α β:Type}
def rG.grow{c:Str}(h:rG X W σ c G H)(g:aA W G H G1 H1):rG X W σ c G1 H1:=λaa G2 H2 s1 e s' I g2 x=>h aa G2 H2 s1 e s' I (g.trans g2) x
def Out.grow{r:Res α}{k:α->Prop}(h:Out X W r σ G H k)(g:aA W G H G1 H1):Out X W r σ G1 H1 k:=by
 cases r with
 |ok a=>exact h
 |exc c=>exact rG.grow h g
 |bad=>exact h
def Out.imp{r:Res α}{k k':α->Prop}(h:Out X W r σ G H k)(i:∀a,k a->k' a):Out X W r σ G H k':=by
 cases r with
 |ok a=>exact i a h
 |exc c=>exact h
 |bad=>exact h
def Out.bind{r:Res α}{f:α->Res β}{k:β->Prop}(h:Out X W (r.bind f) σ G H k):Out X W r σ G H λa=>Out X W (f a) σ G H k:=by
 cases r with
 |ok a=>exact h
 |exc c=>exact h
 |bad=>exact h
def Out.val{r:Res α}{k:α->Prop}(h:Out X W r σ G H k)(n:∀c,r≠.exc c):∃a,r=.ok a/\k a:=by
 cases r with
 |ok a=>exact⟨a,rfl,h⟩
 |exc c=>exact absurd rfl (n c)
 |bad=>exact h.elim
structure Got(W:Wd)(H0 G H:Hp)(e:E)(p:PV)(v:V):Prop where
 top:Top W H0 G H p v
 rep:gB e=true->Rep W G p v
def Got.of{H0:Hp}{e:E}{p:PV}{v:V}(h:Rep W G p v):Got W H0 G H e p v:=⟨.inl h,λ_=>h⟩
noncomputable def tE(X:Cx)(W:Wd)(F:aU)(e:E):TE:=λσ H Q=>∃H0 G env,SR W H0 env σ G H/\Out X W (aC F e env) σ G H λp=>∀v G' H',aA W G H G' H'->Got W H0 G' H' e p v->Q v H'
noncomputable def tT(X:Cx)(W:Wd)(F:aU)(e:E):TT:=λσ H Q=>∃H0 G env,SR W H0 env σ G H/\Out X W (aC F e env) σ G H λp=>∃b,p=.bl b/\∀G' H',aA W G H G' H'->Q b H'
structure JA(W:Wd)(H0 G H:Hp)(es:Es)(ps:List PV)(vs:List V):Prop where
 top:Paired (λv p=>Top W H0 G H p v) vs ps
 rep:fA es=true->ai W G ps vs
noncomputable def tA(X:Cx)(W:Wd)(F:aU)(es:Es):TA:=λσ H Q=>∃H0 G env,SR W H0 env σ G H/\Out X W (bY F es env) σ G H λps=>∀vs G' H',aA W G H G' H'->JA W H0 G' H' es ps vs->Q vs H'
noncomputable def AR(X:Cx)(W:Wd)(F:aU)(o:Oe):TO:=λσ H Q=>∃H0 G env,SR W H0 env σ G H/\Out X W (uu F o env) σ G H λi=>∀G' H',aA W G H G' H'->Q i H'
def one{H0:Hp}{env:Sl}{e:E}{f:PV->Res β}{k:β->Prop}{Q:VK}(sr:SR W H0 env σ G H)(o:Out X W ((aC F e env).bind f) σ G H k)
 (h:∀p v G1 H1,aA W G H G1 H1->Got W H0 G1 H1 e p v->SR W H0 env σ G1 H1->Out X W (f p) σ G1 H1 k->Q v H1):tE X W F e σ H Q:=
 ⟨H0,G,env,sr,o.bind.imp λp hp v G1 H1 g t=>h p v G1 H1 g t (sr.grow g) (hp.grow g)⟩
def Df{H0:Hp}{env:Sl}{e:E}{f:Bool->Res β}{k:β->Prop}{Q:Bool->Hp->Prop}(sr:SR W H0 env σ G H)(o:Out X W ((aC F e env).bind λp=>pB p f) σ G H k)
 (h:∀b G1 H1,aA W G H G1 H1->SR W H0 env σ G1 H1->Out X W (f b) σ G1 H1 k->Q b H1):tT X W F e σ H Q:=by
 refine⟨H0,G,env,sr,o.bind.imp λp hp=>?_⟩
 cases p with
 |bl b=>exact⟨b,rfl,λG1 H1 g=>h b G1 H1 g (sr.grow g) (Out.grow hp g)⟩
 |aM=>exact zzk hp
 |int _=>exact zzk hp
 |str _=>exact zzk hp
 |tup _=>exact zzk hp
 |lst _=>exact zzk hp
 |exc _=>exact zzk hp
 |bF _ _=>exact zzk hp
def args{H0:Hp}{env:Sl}{es:Es}{f:List PV->Res β}{k:β->Prop}{Q:List V->Hp->Prop}(sr:SR W H0 env σ G H)(o:Out X W ((bY F es env).bind f) σ G H k)
 (h:∀ps vs G1 H1,aA W G H G1 H1->JA W H0 G1 H1 es ps vs->SR W H0 env σ G1 H1->Out X W (f ps) σ G1 H1 k->Q vs H1):tA X W F es σ H Q:=
 ⟨H0,G,env,sr,o.bind.imp λp hp v G1 H1 g t=>h p v G1 H1 g t (sr.grow g) (hp.grow g)⟩
def Got.grow{H0 G2 H2:Hp}{e:E}{p:PV}{v:V}(h:Got W H0 G H e p v)(g:aA W G H G2 H2):Got W H0 G2 H2 e p v:=⟨h.top.grow g,λz=>Rep.same g.g p (h.rep z)⟩
def xQ(W:Wd)(G:Hp):Option (Str×List Nat)->List PV->List V->Prop
 |none,as,vs=>ai W G as vs
 |some q,as,vs=>∃tV cu vB v,as=tV++cu/\vs=vB++[v]/\ai W G tV vB/\nF W G q.1 q.2 cu v
noncomputable def xP(W:Wd)(F:aU)(f:Str)(n:Nat)(q:Option (Str×List Nat)):Sp:=λvs H Q E=>vs.length=n/\∃G as,ax G H/\cq W G H/\xQ W G q as vs/\(match F f as with
 |.ok p=>∀v G' H',aA W G H G' H'->Rep W G' p v->Q v H'
 |.exc c=>∀Cv ao H',XE W c G H Cv ao H'->E Cv ao H'
 |.bad=>False)
structure xS(X:Cx)(W:Wd)(F:aU)(k:Nat)(f:Str):Prop where
 ex:∃fa fd ps,fL X.prog X.w X.K X.mg X.base (dO X.prog X.w) k fa fd ps (xP W F f ps.length none)/\X.mg f=some (.ref fa)/\PySem.W.keepIn X.K (.ref fa)=true/\Binds X.K fd ps []/\∀as,F f as≠.bad->as.length=ps.length
structure Jv(X:Cx)(W:Wd)(F:aU)(k:Nat)(q:Hs):Prop where
 ex:∃fa fd ps,fL X.prog X.w X.K X.mg X.base (dO X.prog X.w) k fa fd ps (xP W F q.f ps.length (some (q.g,q.idx)))/\X.mg q.h=some (.ref fa)/\PySem.W.keepIn X.K (.ref fa)=true/\Binds X.K fd ps []/\ps.length=q.np
structure dy(Γ:Pg)(F:aU)(W:Wd)(N:List Str)(sc:Scope)(k:Nat)(X:Cx):Prop where
 hN:X.N=N
 eE:X.env.scope=sc
 calm:Γ.qt=false->X.calm=true
 nd:N.Nodup
 K:W.K=X.K
 mg:W.mg=X.mg
 gs:∀q∈Γ.gs,∃u v,X.mg q.1=some u/\RelV v u/\∀G,Rep W G q.2 v
 bs:∀g∈Γ.bs,X.mg g=none
 room:dc (k+1) X.A
 fns:∀f,Γ.fs.contains f=true->xS X W F k f
 Mq:Γ.cs.contains "ValueError"=false
 cls:∀c∈Γ.cs,∃C,X.mg c=some (.ref C)
 xc:∀d∈W.xs,∀D,X.mg d=some (.ref D)->Fg X.K D/\(∀c∈Γ.cs,∀C,X.mg c=some (.ref C)->PySem.W.kitOne X.K (.ref D) (.ref C)=some (c==d||c=="FloorError"))/\PySem.W.kitOne X.K (.ref D) (.type "ValueError")=some true
 qo:∀q∈Γ.hs,Jv X W F k q
 Qk:∀f,Γ.qs.contains f=true->2<=k/\xS X W F 2 f
 any:∀g as,F g as≠.bad->Γ.fs.contains g=true\/gb g=true
 tb:Γ.hl=true->∃c P,X.env.code=.ref c/\PySem.W.CodeHd X.base c P/\(P,X.env.qual++"<lambda>")∈W.ts/\∀q',(P,q')∈W.ts->q'=X.env.qual++"<lambda>"
 bm:Γ.hl=true->xR X.mg X.base
 fl:Γ.hl=true->∀x,X.fn x=true
variable{Γ:Pg}{N:List Str}{sc:Scope}{k:Nat}
def lW(C:dy Γ F W N sc k X){x:Str}(h:ei sc x=true):Jc X.env.scope x:=by
 rw [C.eE];unfold ei eY at h;simp! [zzt,zzy] at h;rcases h with(h|h)|h
 ·exact .inl h
 ·exact .inr (.inl h)
 ·exact .inr (.inr h)
def fx(C:dy Γ F W N sc k X){x:Str}(h:ic sc x=true):Gl X x:=by
 show X.env.scope.names.lookup x=_
 rw [C.eE];exact zzy.mp h
def da{x:Str}(h:okN x=true):(x==("__debug__":Str))=false/\(x==("__classdict__":Str))=false/\x≠"__name__":=by
 unfold okN at h;simp! [zza,Bool.not_eq_true',beq_eq_false_iff_ne] at h;exact⟨beq_eq_false_iff_ne.mpr h.1.1,beq_eq_false_iff_ne.mpr h.1.2,h.2⟩
abbrev GE(X:Cx)(W:Wd)(F:aU)(e:E)(p:Expr):Prop:=PE X p (tE X W F e)
abbrev GT(X:Cx)(W:Wd)(F:aU)(e:E)(p:Expr):Prop:=PT X p (tT X W F e)
abbrev GW(X:Cx)(W:Wd)(F:aU)(e:E)(p:Expr):Prop:=PW X p (tT X W F e)
def _root_.L2.PE.imp{p:Expr}{t t':TE}(h:PE X p t)(i:∀σ H Q,t' σ H Q->t σ H Q):PE X p t':=λaa s σ H Q I hw=>h aa s σ H Q I (i σ H Q hw)
def _root_.L2.PT.imp{p:Expr}{t t':TT}(h:PT X p t)(i:∀σ H Q,t' σ H Q->t σ H Q):PT X p t':=λaa s σ H Q I hw=>h aa s σ H Q I (i σ H Q hw)
def _root_.L2.PW.imp{p:Expr}{t t':TT}(h:PW X p t)(i:∀σ H Q,t' σ H Q->t σ H Q):PW X p t':=λw aa s σ H Q I hw=>h w aa s σ H Q I (i σ H Q hw)
def _root_.L2.PA.imp{p:List Expr}{t t':TA}(h:PA X p t)(i:∀σ H Q,t' σ H Q->t σ H Q):PA X p t':=λpos aa s σ H Q I hw=>h pos aa s σ H Q I (i σ H Q hw)
def EX{e:E}(σ:St)(H:Hp)(Q:Bool->Hp->Prop)(h:tT X W F e σ H Q):tB (tE X W F e) σ H Q:=by
 obtain⟨H0,G,env,sr,o⟩:=h
 refine⟨H0,G,env,sr,o.imp λp hp v G' H' g t=>?_⟩
 obtain⟨b,rfl,q⟩:=hp
 exact⟨b,t.top.bl,q G' H' g⟩
def rf{e:E}(σ:St)(H:Hp)(Q:Bool->Hp->Prop)(h:tT X W F e σ H Q):AS (tE X W F e) σ H Q:=EX σ H Q h
def uy{i:Nat}{x:Str}{pos:Pos}(hn:X.N[i]?=some x)(hv:Jc X.env.scope x)(h:okN x=true):GE X W F (.var i) (.Name x pos):=by
 obtain⟨h1,h2,h3⟩:=da h
 refine(dm (i:=i) hn hv h1 h2).imp λσ H Q hq=>?_
 obtain⟨H0,G,env,sr,o⟩:=hq
 cases e:env[i]? with
 |none=>unfold aC at o;rw [e] at o;exact o.elim
 |some sl=>
  cases sl with
  |no=>unfold aC at o;rw [e] at o;exact o.elim
  |fn _ _ _=>unfold aC at o;rw [e] at o;exact o.elim
  |Bs _=>unfold aC at o;rw [e] at o;exact o.elim
  |own p=>unfold aC at o;rw [e] at o;exact o.elim
  |val p=>
   unfold aC at o;rw [e] at o;obtain⟨o2,hs,v,rfl,r⟩:=sr.slot i _ e
   exact⟨v,hs,o v G H (.refl sr.sub) (.of r)⟩
def Gg(C:dy Γ F W N sc k X){i:Nat}{x:Str}{pos:Pos}(h:(N[i]?==some x&&ei sc x&&okN x)=true):GE X W F (.var i) (.Name x pos):=by
 simp! [zza,zzy] at h;exact uy (by rw [C.hN];exact h.1.1) (lW C h.1.2) h.2
def Gf(C:dy Γ F W N sc k X){i:Nat}{x:Str}{pos:Pos}(h:(N[i]?==some x&&ei sc x&&okN x)=true):GE X W F (.gV i) (.Name x pos):=by
 simp! [zza,zzy] at h;obtain⟨h1,h2,h3⟩:=da h.2
 refine(dm (i:=i) (by rw [C.hN];exact h.1.1) (lW C h.1.2) h1 h2).imp λσ H Q hq=>?_
 obtain⟨H0,G,env,sr,o⟩:=hq
 cases e:env[i]? with
 |none=>unfold aC at o;rw [e] at o;exact o.elim
 |some sl=>
  cases sl with
  |no=>unfold aC at o;rw [e] at o;exact o.elim
  |fn _ _ _=>unfold aC at o;rw [e] at o;exact o.elim
  |Bs _=>unfold aC at o;rw [e] at o;exact o.elim
  |own p=>
   unfold aC at o;rw [e] at o;obtain⟨o2,hs,v,rfl,r⟩:=sr.slot i _ e
   exact⟨v,hs,o v G H (.refl sr.sub) ⟨.inr r,λz=>nomatch z⟩⟩
  |val p=>
   unfold aC at o;rw [e] at o;obtain⟨o2,hs,v,rfl,r⟩:=sr.slot i _ e
   exact⟨v,hs,o v G H (.refl sr.sub) (.of r)⟩
def dA{p:PV}{v:V}{e:Expr}(h:PE X e (tC v))(r:∀G,Rep W G p v):GE X W F (.cst p) e:=by
 refine L2.PE.imp h λσ H Q hq=>?_
 obtain⟨H0,G,env,sr,o⟩:=hq
 exact o v G H (.refl sr.sub) (.of (r G))
def B7(C:dy Γ F W N sc k X){g x:Str}{p:PV}{pos:Pos}(h:(g==x&&ic sc x&&okN x&&Γ.gs.any λq=>q.1==g&&uQ q.2 p)=true):GE X W F (.glob g p) (.Name x pos):=by
 simp! [zza,zzy,List.any_eq_true] at h;obtain⟨⟨⟨rfl,h2⟩,h3⟩,q,hq,e1,e2⟩:=h
 obtain⟨u,v,hm,rv,hr⟩:=C.gs q hq
 rw [e1] at hm;cases zv e2;refine(Ds (fx C h2) hm rv (da h3).1).imp λσ H Q hq=>?_
 obtain⟨H0,G,env,sr,o⟩:=hq
 exact o v G H (.refl sr.sub) (.of (hr G))
def Res.bf{α:Type}{o:Option α}(c:Str):Res.of o≠.exc c:=by cases o<;>exact λz=>nomatch z
def qH{α β:Type}{o:Option α}{f:α->Res β}{c:Str}(h:∀a,f a≠.exc c):(Res.of o).bind f≠.exc c:=by
 cases o with
 |none=>exact λz=>nomatch z
 |some a=>exact h a
def mr{o:E3}{p q:PV}(c:Str):binOp o p q≠.exc c:=by
 unfold binOp
 repeat' split
 all_goals exact λz=>nomatch z
def C5{p q:PV}(c:Str):g9 p q≠.exc c:=by
 unfold g9
 (repeat' first|split|refine qH λ_=>?_|exact Res.bf c|exact(λz=>nomatch z))
def Dc{p q:PV}(c:Str):mn p q≠.exc c:=by
 unfold mn
 (repeat' first|split|refine qH λ_=>?_|exact Res.bf c|exact(λz=>nomatch z))
def C9{p q:PV}(c:Str):qO p q≠.exc c:=by
 unfold qO
 (repeat' first|split|refine qH λ_=>?_|exact Res.bf c|exact(λz=>nomatch z))
def C8{p q:PV}(c:Str):qN p q≠.exc c:=by
 unfold qN
 (repeat' first|split|refine qH λ_=>?_|exact Res.bf c|exact(λz=>nomatch z))
def C6{p q:PV}(c:Str):sE p q≠.exc c:=by
 unfold sE
 (repeat' first|split|refine qH λ_=>?_|exact Res.bf c|exact(λz=>nomatch z))
def C7{p q:PV}(c:Str):oM p q≠.exc c:=by
 unfold oM
 (repeat' first|split|refine qH λ_=>?_|exact Res.bf c|exact(λz=>nomatch z))
def zO{p q:PV}(c:Str):f9 p q≠.exc c:=by
 unfold f9
 (repeat' first|split|refine qH λ_=>?_|exact Res.bf c|exact(λz=>nomatch z))
def zP{p q:PV}(c:Str):ji p q≠.exc c:=by
 unfold ji
 (repeat' first|split|refine qH λ_=>?_|exact Res.bf c|exact(λz=>nomatch z))
def dv{o:xT}{p q:PV}(c:Str):dJ o p q≠.exc c:=match o with
 |.eq=>C5 c|.ne=>Dc c|.lt=>C9 c|.le=>C8 c|.gt=>C6 c|.is=>C7 c|.CD=>zO c|.uV=>zP c
def two{op:PV->PV->Res PV}{ea eb:E}{e:E}{σ:St}{H:Hp}{Q:VK}(hn:∀p q c,op p q≠.exc c)(he:∀env,aC F e env=(aC F ea env).bind λx=>(aC F eb env).bind λy=>op x y)
 (h:tE X W F e σ H Q):IJ (tJ W op) (tE X W F ea) (tE X W F eb) σ H Q:=by
 obtain⟨H0,G,env,sr,o⟩:=h
 rw [he] at o;refine one sr o λp v G1 H1 g1 t1 bH o1=>one bH o1 λq u G2 H2 g2 t2 d9 o2=>?_
 obtain⟨r,hr,kr⟩:=o2.val (hn p q)
 exact⟨H0,G2,p,q,r,d9.sub,t1.top.grow g2,t2.top,hr,λw G' H' g' gH=>kr w G' H' ((g1.trans g2).trans g') (.of gH)⟩
def ux(hK:W.K=X.K){o:E3}{a b:E}{pa pb:Expr}{pos:Pos}(ha:GE X W F a pa)(hb:GE X W F b pb):GE X W F (.bin o a b) (.BinOp pa (Ms o) pb pos):=
 (Lh (Hy hK o) ha hb).imp λσ H Q h=>two (λp q c=>mr c) (λenv=>by rw [aC]) h
def F5(C:dy Γ F W N sc k X){o:E3}{a b:E}{pa pb:Expr}{pos:Pos}(ha:GE X W F a pa)(hb:GE X W F b pb):GE X W F (.bin o a b) (.BinOp pa (Ms o) pb pos):=ux C.K ha hb
def F7(C:dy Γ F W N sc k X){o:xT}{a b:E}{pa pb:Expr}{pos:Pos}(ha:GE X W F a pa)(hb:GE X W F b pb)(hm:behindInMarks (pF o) pb=false):GE X W F (.cmp o a b) (.Compare pa [pF o] [pb] pos):=
 (Dq (gG C.K C.room.units o) ha hb hm).imp λσ H Q h=>two (λp q c=>dv c) (λenv=>by rw [aC]) h
theorem Gu(C:dy Γ F W N sc k X){o:xT}{a b:E}{pa pb:Expr}{pos:Pos}(ha:GE X W F a pa)(hb:GE X W F b pb)(hm:behindInMarks (pF o) pb=false):GT X W F (.cmp o a b) (.Compare pa [pF o] [pb] pos):=
 (DD (gG C.K C.room.units o) ha hb hm).imp λσ H Q h=>by
  have h2:=rf σ H Q h
  exact two (λp q c=>dv c) (λenv=>by rw [aC]) h2
def Eo{c1 c2:xT}{a b c:E}(σ:St)(H:Hp)(Q:VK)(h:tE X W F (.ch c1 c2 a b c) σ H Q):sW (tJ W (dJ c1)) (tJ W (dJ c2)) (tE X W F a) (tE X W F b) (tE X W F c) σ H Q:=by
 obtain⟨H0,G,env,sr,o⟩:=h
 rw [aC] at o;refine one sr o λp v G1 H1 g1 t1 bH o1=>one bH o1 λq u G2 H2 g2 t2 d9 o2=>?_
 obtain⟨r,hr,kr⟩:=o2.bind.val (dv)
 refine⟨H0,G2,p,q,r,d9.sub,t1.top.grow g2,t2.top,hr,λw G3 H3 g3 gH=>?_⟩
 cases r with
 |bl t=>
  simp! [Rep] at gH;subst gH;refine⟨t,rfl,?_⟩;cases t with
  |false=>
   rw [if_neg zzf];have su:Out X W (Res.ok (PV.bl false)) σ G2 H2 _:=kr
   exact su _ G3 H3 ((g1.trans g2).trans g3) (.of .b)
  |true=>
   rw [if_pos rfl];have su:Out X W ((aC F c env).bind λz=>dJ c2 q z) σ G2 H2 _:=kr
   refine one (d9.grow g3) (su.grow g3) λz y G4 H4 g4 t4 IB o4=>?_
   obtain⟨r4,hr4,kr4⟩:=o4.val (dv)
   exact⟨H0,G4,q,z,r4,IB.sub,t2.top.grow (g3.trans g4),t4.top,hr4,λw G5 H5 g5 RP=>kr4 w G5 H5 ((((g1.trans g2).trans g3).trans g4).trans g5) (.of RP)⟩
 |aM=>exact zzk kr
 |int _=>exact zzk kr
 |str _=>exact zzk kr
 |tup _=>exact zzk kr
 |lst _=>exact zzk kr
 |exc _=>exact zzk kr
 |bF _ _=>exact zzk kr
def Kd(C:dy Γ F W N sc k X){o1 o2:xT}{a b c:E}{pa pb pc:Expr}{pos:Pos}(ha:GE X W F a pa)(hb:GE X W F b pb)(hc:GE X W F c pc)(hm:lastMarks [pF o1,pF o2] [pb,pc]=false):GE X W F (.ch o1 o2 a b c) (.Compare pa [pF o1,pF o2] [pb,pc] pos):=
 (z9 (gG C.K C.room.units o1) (gG C.K C.room.units o2) ha hb hc hm).imp Eo
def Kg(C:dy Γ F W N sc k X){o1 o2:xT}{a b c:E}{pa pb pc:Expr}{pos:Pos}(ha:GE X W F a pa)(hb:GE X W F b pb)(hc:GE X W F c pc)(hm:lastMarks [pF o1,pF o2] [pb,pc]=false):GT X W F (.ch o1 o2 a b c) (.Compare pa [pF o1,pF o2] [pb,pc] pos):=
 (Av (gG C.K C.room.units o1) (gG C.K C.room.units o2) ha hb hc hm).imp λσ H Q h=>Eo σ H _ (rf σ H Q h)
theorem yH{a:E}{pa:Expr}{pos:Pos}(ha:GE X W F a pa):GE X W F (.neg a) (.UnaryOp .USub pa pos):=
 (Lj (D7 (W:=W)) ha).imp λσ H Q h=>by
  obtain⟨H0,G,env,sr,o⟩:=h
  rw [aC] at o;refine one sr o λp v G1 H1 g1 t1 bH o1=>?_
  cases p with
  |int i=>exact⟨H0,G1,i,bH.sub,t1.top,λw G' H' g' gH=>o1 w G' H' (g1.trans g') (.of gH)⟩
  |bl _=>exact zzk o1
  |aM=>exact zzk o1
  |str _=>exact zzk o1
  |tup _=>exact zzk o1
  |lst _=>exact zzk o1
  |exc _=>exact zzk o1
  |bF _ _=>exact zzk o1
theorem Ga{a:E}{pa:Expr}{pos:Pos}(ha:GE X W F a pa):GE X W F (.not a) (.UnaryOp .Not pa pos):=
 (HR ha).imp λσ H Q h=>by
  obtain⟨H0,G,env,sr,o⟩:=h
  rw [aC] at o;refine one sr o λp v G1 H1 g1 t1 bH o1=>?_
  cases p with
  |bl b=>exact⟨b,t1.top.bl,o1 _ G1 H1 g1 (.of .b)⟩
  |int _=>exact zzk o1
  |aM=>exact zzk o1
  |str _=>exact zzk o1
  |tup _=>exact zzk o1
  |lst _=>exact zzk o1
  |exc _=>exact zzk o1
  |bF _ _=>exact zzk o1
theorem Gv{a:E}{pa:Expr}{pos:Pos}(ha:GT X W F a pa):GT X W F (.not a) (.UnaryOp .Not pa pos):=
 (Ia ha).imp λσ H Q h=>by
  obtain⟨H0,G,env,sr,o⟩:=h
  rw [aC] at o;refine Df sr o λb G1 H1 g1 bH o1=>?_
  obtain⟨b',e,q⟩:=o1
  cases e;exact q G1 H1 g1
theorem yE{a b:E}{pa pb:Expr}{r:List Expr}{pos:Pos}(he:gB b=true)(ha:GE X W F a pa)(hb:GE X W F b (.BoolOp .And (pb::r) pos)):GE X W F (.and a b) (.BoolOp .And (pa::pb::r) pos):=
 (HM ha hb).imp λσ H Q h=>by
  obtain⟨H0,G,env,sr,o⟩:=h
  rw [aC] at o;refine one sr o λp v G1 H1 g1 t1 bH o1=>?_
  cases p with
  |bl t=>
   refine⟨t,t1.top.bl,?_⟩;cases t with
   |true=>
    rw [if_pos rfl];have qM:Out X W (aC F b env) σ G1 H1 _:=o1
    exact⟨H0,G1,env,bH,qM.imp λp hp v G' H' g' t'=>hp v G' H' (g1.trans g') (.of (t'.rep he))⟩
   |false=>
    rw [if_neg zzf];have qM:Out X W (Res.ok (PV.bl false)) σ G1 H1 _:=o1
    exact qM _ G1 H1 g1 (.of .b)
  |int _=>exact zzk o1
  |aM=>exact zzk o1
  |str _=>exact zzk o1
  |tup _=>exact zzk o1
  |lst _=>exact zzk o1
  |exc _=>exact zzk o1
  |bF _ _=>exact zzk o1
theorem EB{a b:E}{pa pb:Expr}{r:List Expr}{pos:Pos}(he:gB b=true)(ha:GE X W F a pa)(hb:GE X W F b (.BoolOp .Or (pb::r) pos)):GE X W F (.or a b) (.BoolOp .Or (pa::pb::r) pos):=
 (Li ha hb).imp λσ H Q h=>by
  obtain⟨H0,G,env,sr,o⟩:=h
  rw [aC] at o;refine one sr o λp v G1 H1 g1 t1 bH o1=>?_
  cases p with
  |bl t=>
   refine⟨t,t1.top.bl,?_⟩;cases t with
   |false=>
    rw [if_neg zzf];have qM:Out X W (aC F b env) σ G1 H1 _:=o1
    exact⟨H0,G1,env,bH,qM.imp λp hp v G' H' g' t'=>hp v G' H' (g1.trans g') (.of (t'.rep he))⟩
   |true=>
    rw [if_pos rfl];have qM:Out X W (Res.ok (PV.bl true)) σ G1 H1 _:=o1
    exact qM _ G1 H1 g1 (.of .b)
  |int _=>exact zzk o1
  |aM=>exact zzk o1
  |str _=>exact zzk o1
  |tup _=>exact zzk o1
  |lst _=>exact zzk o1
  |exc _=>exact zzk o1
  |bF _ _=>exact zzk o1
theorem yM{a b:E}{pa pb:Expr}{r:List Expr}{pos:Pos}(ha:GT X W F a pa)(hb:GW X W F b (.BoolOp .And (pb::r) pos)):GW X W F (.and a b) (.BoolOp .And (pa::pb::r) pos):=
 (pw_and ha hb).imp λσ H Q h=>by
  obtain⟨H0,G,env,sr,o⟩:=h
  rw [aC] at o;refine Df sr o λt G1 H1 g1 bH o1=>?_
  cases t with
  |true=>
   rw [if_pos rfl];have qM:Out X W (aC F b env) σ G1 H1 _:=o1
   exact⟨H0,G1,env,bH,qM.imp λp hp=>by obtain⟨c,rfl,q⟩:=hp;exact⟨c,rfl,λG' H' g'=>q G' H' (g1.trans g')⟩⟩
  |false=>
   rw [if_neg zzf];obtain⟨c,e,q⟩:=(show Out X W (Res.ok (PV.bl false)) σ G1 H1 _ from o1)
   cases e;exact q G1 H1 g1
theorem EC{a b:E}{pa pb:Expr}{r:List Expr}{pos:Pos}(ha:GT X W F a pa)(hb:GW X W F b (.BoolOp .Or (pb::r) pos)):GW X W F (.or a b) (.BoolOp .Or (pa::pb::r) pos):=
 (pw_or ha hb).imp λσ H Q h=>by
  obtain⟨H0,G,env,sr,o⟩:=h
  rw [aC] at o;refine Df sr o λt G1 H1 g1 bH o1=>?_
  cases t with
  |false=>
   rw [if_neg zzf];have qM:Out X W (aC F b env) σ G1 H1 _:=o1
   exact⟨H0,G1,env,bH,qM.imp λp hp=>by obtain⟨c,rfl,q⟩:=hp;exact⟨c,rfl,λG' H' g'=>q G' H' (g1.trans g')⟩⟩
  |true=>
   rw [if_pos rfl];obtain⟨c,e,q⟩:=(show Out X W (Res.ok (PV.bl true)) σ G1 H1 _ from o1)
   cases e;exact q G1 H1 g1
theorem F8{c a b:E}{pc pa pb:Expr}{pos:Pos}(Rb:gB a=true)(Rc:gB b=true)(hc:GT X W F c pc)(ha:GE X W F a pa)(hb:GE X W F b pb):GE X W F (.ite c a b) (.IfExp pc pa pb pos):=
 (Ab hc ha hb).imp λσ H Q h=>by
  obtain⟨H0,G,env,sr,o⟩:=h
  rw [aC] at o;refine Df sr o λt G1 H1 g1 bH o1=>?_
  cases t with
  |true=>
   rw [if_pos rfl];have qM:Out X W (aC F a env) σ G1 H1 _:=o1
   exact⟨H0,G1,env,bH,qM.imp λp hp v G' H' g' t'=>hp v G' H' (g1.trans g') (.of (t'.rep Rb))⟩
  |false=>
   rw [if_neg zzf];have qM:Out X W (aC F b env) σ G1 H1 _:=o1
   exact⟨H0,G1,env,bH,qM.imp λp hp v G' H' g' t'=>hp v G' H' (g1.trans g') (.of (t'.rep Rc))⟩
noncomputable def tF(X:Cx)(W:Wd)(F:aU)(e:E):TE:=λσ H Q=>∃H0 G env,SR W H0 env σ G H/\Out X W (aC F e env) σ G H λp=>∃xs,p=.lst xs/\∀a vs G' H',aA W G H G' H'->H' a=none->ai W G' xs vs->Q (.ref a) (upd H' a (.lst vs))
abbrev GF(X:Cx)(W:Wd)(F:aU)(e:E)(p:Expr):Prop:=PE X p (tF X W F e)
theorem GF.ge{e:E}{p:Expr}(h:GF X W F e p)(hl:∀env q,aC F e env=.ok q->∃xs,q=.lst xs):GE X W F e p:=
 L2.PE.imp h λσ H Q hq=>by
  obtain⟨H0,G,env,sr,o⟩:=hq
  refine⟨H0,G,env,sr,?_⟩;cases r:aC F e env with
  |bad=>rw [r] at o;exact o
  |exc c=>rw [r] at o;exact o
  |ok q=>
   rw [r] at o;obtain⟨xs,rfl⟩:=hl env q r
   exact⟨xs,rfl,λa vs G' H' g ha l=>o _ _ _ (g.trans (.new g.sub ha)) (.of (.l (.inl (.inl ak)) (ai.same (bT (g.sub.free ha)) xs l)))⟩
def notStar{e:E}{p:Expr}(h:bh Γ N sc e p=true):∀env ps,starEach (p::ps) env=(false,eval p env)::starEach ps env:=by
 intro env ps;cases p<;>first|rfl|(cases e<;>first|(exact aV h)|(rename_i q;cases q<;>exact aV h))
theorem ef:∀{es:Es} {ps:List Expr},fQ Γ N sc es ps=true->∀env pos,(backTo pos (starEach ps env)).any (·.1)=false
 |.nil,[],_,_,_=>rfl
 |.cons e es,p::ps,h,env,pos=>by
  replace h:=au h
  rw [notStar h.1];show(false||(backTo pos (starEach ps env)).any (·.1))=false
  rw [ef h.2]
  rfl
 |.nil,_::_,h,_,_=>aV h
 |.cons _ _,[],h,_,_=>aV h
abbrev GA(X:Cx)(W:Wd)(F:aU)(es:Es)(ps:List Expr):Prop:=PA X ps (tA X W F es)
theorem oo:GA X W F .nil []:=L2.PA.imp fq λσ H Q h=>by
 obtain⟨H0,G,env,sr,o⟩:=h
 rw [bY] at o;exact o [] G H (.refl sr.sub) ⟨.nil,λ_=>.nil⟩
theorem iF{e:E}{es:Es}{p:Expr}{ps:List Expr}(he:GE X W F e p)(hs:GA X W F es ps)(dh:starEach (p::ps) X.env=(false,eval p X.env)::starEach ps X.env):GA X W F (.cons e es) (p::ps):=
 L2.PA.imp (cH he hs dh) λσ H Q h=>by
  obtain⟨H0,G,env,sr,o⟩:=h
  rw [bY] at o;refine one sr o λq v G1 H1 g1 t1 bH o1=>args bH o1 λqs vs G2 H2 g2 t2 d9 o2=>?_
  refine o2 (v::vs) G2 H2 (g1.trans g2) ⟨.cons (t1.top.grow g2) t2.top,λz=>?_⟩
  unfold fA at z;rw [zza] at z;exact .cons (Rep.same g2.g q (t1.rep z.1)) (t2.rep z.2)
theorem iB:∀{es:Es} {env:Sl} {ps:List PV},bY F es env=.ok ps->ps.length=fY es
 |.nil,env,ps,h=>by rw [bY] at h;cases h;rfl
 |.cons e es,env,ps,h=>by
  rw [bY] at h;obtain⟨p,_,h⟩:=Res.aZ h
  obtain⟨qs,hq,h⟩:=Res.aZ h
  cases h;rw [zzL,iB hq]
  rfl
theorem rY{es:Es}{ps:List Expr}{x1:Nat}{pos:Pos}(yR:fA es=true)(hl:fY es<1000)(h:GA X W F es ps):GE X W F (.tup es) (.Tuple ps x1 pos):=
 L2.PE.imp (HU h) λσ H Q hq=>by
  obtain⟨H0,G,env,sr,o⟩:=hq
  rw [aC] at o;have o':=o
  refine⟨H0,G,env,sr,?_⟩;cases r:bY F es env with
  |bad=>rw [r] at o;exact o
  |exc c=>rw [r] at o;exact o
  |ok qs=>
   rw [r] at o;have hlen:=iB r
   intro vs G1 H1 g1 t;have l:=t.rep yR
   refine⟨by rw [l.length,hlen];exact Nat.le_of_lt (Nat.lt_trans hl (by decide)),λp hp=>?_⟩
   exact o _ _ _ (g1.trans (.new g1.sub hp)) (.of (.t (.inl ak) (ai.same (bT (g1.sub.free hp)) qs l)))
theorem yJ{es:Es}{ps:List Expr}{pos:Pos}(yR:fA es=true)(hl:fY es<1000)(h:GA X W F es ps):GF X W F (.lst es) (.List ps pos):=
 L2.PE.imp (HP h) λσ H Q hq=>by
  obtain⟨H0,G,env,sr,o⟩:=hq
  rw [aC] at o;refine⟨H0,G,env,sr,?_⟩;cases r:bY F es env with
  |bad=>rw [r] at o;exact o
  |exc c=>rw [r] at o;exact o
  |ok qs=>
   rw [r] at o;have hlen:=iB r
   obtain⟨xs,e,o⟩:=o
   cases e;intro vs G1 H1 g1 t;have l:=t.rep yR
   exact⟨by rw [l.length,hlen];exact Nat.le_of_lt (Nat.lt_trans hl (by decide)),λp hp=>o p vs G1 H1 g1 hp l⟩
theorem lst_is{es:Es}:∀env q,aC F (.lst es) env=.ok q->∃xs,q=.lst xs:=λenv q h=>by
 rw [aC] at h;obtain⟨ps,_,h⟩:=Res.aZ h
 cases h;exact⟨_,rfl⟩
def xf{p q:PV}(c:Str):aJ p q≠.exc c:=by
 unfold aJ
 (repeat' first|split|refine qH λ_=>?_|exact Res.bf c|exact(λz=>nomatch z))
def Ge(C:dy Γ F W N sc k X){a b:E}{pa pb:Expr}{pos:Pos}(ha:GE X W F a pa)(hb:GE X W F b pb)(hs:nL pb):GE X W F (.sub a b) (.Subscript pa pb pos):=
 (Ac (NN C.K C.room.units) ha hb hs).imp λσ H Q h=>two (λp q c=>xf c) (λenv=>by rw [aC]) h
def An{e:E}{p:Expr}(h:bh Γ N sc e p=true):nL p:=by
 intro o i;cases p<;>first|rfl|(cases e<;>first|(exact aV h)|(rename_i q;cases q<;>exact aV h))
def oJ{e:E}{p:Expr}(h:bh Γ N sc e p=true)(op:CmpOp):behindInMarks op p=false:=by
 cases p<;>first|rfl|(cases e<;>first|(exact aV h)|(rename_i q;cases q<;>exact aV h))
theorem Ca:PO X none (AR X W F .no):=λaa s σ H Q I h=>DA aa s σ H Q I (by
 obtain⟨H0,G,env,sr,o⟩:=h
 rw [uu] at o;exact o G H (.refl sr.sub))
theorem Cb{e:E}{p:Expr}(h:GE X W F e p):PO X (some p) (AR X W F (.some e)):=λaa s σ H Q I hq=>DB h aa s σ H Q I (by
 obtain⟨H0,G,env,sr,o⟩:=hq
 rw [uu] at o;refine one sr o λq v G1 H1 g1 t1 bH o1=>?_
 cases q with
 |int i=>exact⟨i,t1.top.int,o1 G1 H1 g1⟩
 |bl _=>exact zzk o1
 |aM=>exact zzk o1
 |str _=>exact zzk o1
 |tup _=>exact zzk o1
 |lst _=>exact zzk o1
 |exc _=>exact zzk o1
 |bF _ _=>exact zzk o1)
def qI{p:PV}{lo hi:Option Int}(c:Str):gJ p lo hi≠.exc c:=by
 unfold gJ
 (repeat' first|split|refine qH λ_=>?_|exact Res.bf c|exact(λz=>nomatch z))
theorem yI(C:dy Γ F W N sc k X){a:E}{lo hi:Oe}{pa:Expr}{pl ph:Option Expr}{p2 pos:Pos}(ha:GE X W F a pa)(hl:PO X pl (AR X W F lo))(hh:PO X ph (AR X W F hi)):GE X W F (.slice a lo hi) (.Subscript pa (.Slice pl ph none p2) pos):=
 (Ae (Oq C.K) ha hl hh).imp λσ H Q h=>by
  obtain⟨H0,G,env,sr,o⟩:=h
  rw [aC] at o;refine one sr o λp v G1 H1 g1 t1 bH o1=>?_
  refine⟨H0,G1,env,bH,o1.bind.imp λl qp G2 H2 g2=>?_⟩
  refine⟨H0,G2,env,bH.grow g2,(qp.grow g2).bind.imp λh' Rk G3 H3 g3=>?_⟩
  obtain⟨r,hr,kr⟩:=(Rk.grow g3).val (λc=>qI c)
  exact⟨H0,G3,p,r,((bH.grow g2).grow g3).sub,t1.top.grow (g2.trans g3),hr,λw G' H' g' gH=>kr w G' H' (((g1.trans g2).trans g3).trans g') (.of gH)⟩
def DJ{CX:xI}{f:Addr}{fd:FuncData}{ps:List Str}{sp:Sp}{E:XK}{aa:List (Addr×Obj)}{σ:St}{H:Hp}{s:Shared}{Q:VK}{us:List Value}{vs:List V}(FO:fL X.prog X.w X.K X.mg X.base CX k f fd ps sp)(hr:dc k X.A)(hb:Binds X.K fd ps [])
 (hx:∀e s',CX X.stack H s E e s'->X.xe e s') (I:Inv X aa σ H s) (r:Vals vs us) (h:sp vs H Q E):wpAny (model X.prog X.w) X.A (call (.ref f) us) (EP X aa σ Q) X.xe s:=by
 have hl:us.length=ps.length:=by rw [<-r.length];exact FO.len _ _ _ _ h
 have j1:=hb s us I.qx (by rw [zz6];exact hl)
 rw [zz6] at j1;refine wpAny_call (codeAny_mono (FO.run X.A X.stack s H ⟨us,[]⟩ us vs Q E hr I.rT j1 r h) λr s' hq=>?_)
 cases r with
 |error e=>exact hx e s' hq
 |ok fl=>
  cases fl with
  |ret u=>exact I.after hq
  |next=>exact zzk hq
  |brk=>exact zzk hq
  |cont=>exact zzk hq
def Bi.imp{P:Program}{w:World}{outer:List Env}{H:Hp}{s s':Shared}{E E':XK}{e:Value}(h:dO P w outer H s E e s')(i:∀C a H',E C a H'->E' C a H'):dO P w outer H s E' e s':=by
 obtain⟨a,C,t,vs,H',B,rfl,F⟩:=h
 exact⟨a,C,t,vs,H',B,rfl,⟨F.os,F.bare,F.aN,F.A3,F.tn,F.tup,F.dZ,F.c3,F.un,i _ _ _ F.ends⟩⟩
def kD(hr:dc k X.A){f:Str}{fa:Addr}{fd:FuncData}{pn:List Str}{q:Option (Str×List Nat)}{aa:List (Addr×Obj)}{σ:St}{G H:Hp}{s:Shared}{Q:VK}{us:List Value}{vs:List V}{as:List PV}
 (FO:fL X.prog X.w X.K X.mg X.base (dO X.prog X.w) k fa fd pn (xP W F f pn.length q)) (hb:Binds X.K fd pn []) (hlen:F f as≠.bad->vs.length=pn.length)
 (I:Inv X aa σ H s) (sg:ax G H) (tb:cq W G H) (l:xQ W G q as vs) (r:Vals vs us) (o:Out X W (F f as) σ G H λp=>cL W G H p Q):wpAny (model X.prog X.w) X.A (call (.ref fa) us) (EP X aa σ Q) X.xe s:=by
 have yU:F f as≠.bad:=λz=>by rw [z] at o;exact o
 refine DJ (E:=λCv ao H'=>∃c,F f as=.exc c/\XE W c G H Cv ao H') FO hr hb (λe s' x=>?_) I r ⟨hlen yU,G,as,sg,tb,l,?_⟩
 ·cases z:F f as with
  |ok q=>
   obtain⟨a,C',t,vs,H',B,rfl,Fl⟩:=x
   obtain⟨c,e1,_⟩:=Fl.ends
   rw [z] at e1;cases e1
  |exc c=>
   rw [z] at o;refine o aa G H s e s' I (.refl sg) (Bi.imp x λC1 a H' y=>?_);obtain⟨c',e1,y⟩:=y
   rw [z] at e1;cases e1;exact y
  |bad=>exact absurd z yU
 ·cases z:F f as with
  |ok q=>
   rw [z] at o;exact λv G' H' g' rp=>o v G' H' g' rp
  |exc c=>exact λCv ao H' x=>⟨c,rfl,x⟩
  |bad=>exact absurd z yU
def dy.rm(C:dy Γ F W N sc k X):dc k X.A:=C.room.mono (Nat.le_succ k)
def B6(C:dy Γ F W N sc k X){f:Str}{e:E}{es:Es}{p:Expr}{ps:List Expr}{np pos:Pos}(hf:Γ.fs.contains f=true)(hg:ic sc f=true)(ho:okN f=true)(yR:fA (.cons e es)=true)(ha:GA X W F (.cons e es) (p::ps))
 (dh:starEach (p::ps) X.env=(false,eval p X.env)::starEach ps X.env) (hpl:(backTo pos (starEach ps X.env)).any (·.1)=false):GE X W F (.call f (.cons e es)) (.Call (.Name f np) (p::ps) [] pos):=by
 intro aa s σ H Q I h;obtain⟨H0,G,env,sr,o⟩:=h
 rw [aC] at o;obtain⟨fa,fd,pn,FO,hm,hk,hb,hlen⟩:=(C.fns f hf).ex
 refine wpAny_Call_Name_kw (gE I (fx C hg) hm ?_ (da ho).1);refine PySem.W.callWith_K (h₀:=X.base) I.ok.mod.KR hk (bJ (ha pos aa s σ H (λvs H1=>∃G1 as,ax G1 H1/\cq W G1 H1/\ai W G1 as vs/\Out X W (F f as) σ G1 H1 λp=>cL W G1 H1 p Q) I ?_) λus s1 ⟨vs,H1,I1,r,q⟩=>⟨I1.qx,?_⟩) dh hpl
 ·refine args sr o λas vs G1 H1 g1 t bH o1=>⟨G1,as,bH.sub,bH.tab,t.rep yR,o1.imp λp hp v G' H' g' rp=>hp v G' H' (g1.trans g') (.of rp)⟩
 ·obtain⟨G1,as,sg,tb,l,o1⟩:=q
  exact kD C.rm FO hb (λz=>by rw [l.length];exact hlen as z) I1 sg tb l r o1
def yF(C:dy Γ F W N sc k X){f:Str}{np pos:Pos}(hf:Γ.fs.contains f=true)(hg:ic sc f=true)(ho:okN f=true):GE X W F (.call f .nil) (.Call (.Name f np) [] [] pos):=by
 intro aa s σ H Q I h;obtain⟨H0,G,env,sr,o⟩:=h
 rw [aC,bY] at o;obtain⟨fa,fd,pn,FO,hm,hk,hb,hlen⟩:=(C.fns f hf).ex
 refine wpAny_Call_Name_kw (gE I (fx C hg) hm ?_ (da ho).1);refine PySem.W.callWith_K0 I.qx hk ?_;have o':Out X W (F f []) σ G H λp=>∀v G' H',aA W G H G' H'->Got W H0 G' H' (.call f .nil) p v->Q v H':=o
 exact kD (us:=[]) (vs:=[]) (as:=[]) (q:=none) C.rm FO hb (λz=>hlen [] z) I sr.sub sr.tab (show ai W G [] [] from .nil) .nil (o'.imp λp hp v G' H' g' rp=>hp v G' H' g' (.of rp))
def C0{ps:List PV}(c:Str):rN ps≠.exc c:=by
 unfold rN
 (repeat' first|split|refine qH λ_=>?_|exact Res.bf c|exact(λz=>nomatch z))
def CV{ps:List PV}(c:Str):ya ps≠.exc c:=by
 unfold ya
 (repeat' first|split|refine qH λ_=>?_|exact Res.bf c|exact(λz=>nomatch z))
def C2{ps:List PV}(c:Str):yc ps≠.exc c:=by
 unfold yc
 (repeat' first|split|refine qH λ_=>?_|exact Res.bf c|exact(λz=>nomatch z))
def CZ{ps:List PV}(c:Str):yb ps≠.exc c:=by
 unfold yb
 (repeat' first|split|refine qH λ_=>?_|exact Res.bf c|exact(λz=>nomatch z))
def C3{ps:List PV}(c:Str):yd ps≠.exc c:=by
 unfold yd
 (repeat' first|split|refine qH λ_=>?_|exact Res.bf c|exact(λz=>nomatch z))
def xg{ps:List PV}(c:Str):kA ps≠.exc c:=by
 unfold kA
 (repeat' first|split|refine qH λ_=>?_|exact Res.bf c|exact(λz=>nomatch z))
def zN{ps:List PV}(c:Str):qC ps≠.exc c:=by
 unfold qC
 (repeat' first|split|refine qH λ_=>?_|exact Res.bf c|exact(λz=>nomatch z))
def w9{b:B}{ps:List PV}(c:Str):er b ps≠.exc c:=match b with
 |.len=>C0 c|.abs=>CV c|.max2=>C2 c|.int=>CZ c|.str=>C3 c|.tuple=>xg c
def xa{m:M}{ps:List PV}(c:Str):uU m ps≠.exc c:=match m with
 |.join=>zN c
def HN(C:dy Γ F W N sc k X)(hq:Γ.qt=false)(b:B){e:Expr}{es:List Expr}{t:TA}{np pos:Pos}(hg:ic sc (bN b)=true)(hm:Γ.bs.contains (bN b)=true)(ha:PA X (e::es) t)
 (he:starEach (e::es) X.env=(false,eval e X.env)::starEach es X.env) (hpl:(backTo pos (starEach es X.env)).any (·.1)=false):PE X (.Call (.Name (bN b) np) (e::es) [] pos) (Mw (Bf W (er b)) t):=by
 have sd:=C.bs _ (zzn.mp hm)
 have wI:=fx C hg
 cases b
 case len=>exact iP (vP C.K) wI sd PySem.boot_len ha (he:=he) (hpl:=hpl)
 case abs=>exact iP vN wI sd (by decide+kernel) ha (he:=he) (hpl:=hpl)
 case max2=>exact iP (vR (C.calm hq)) wI sd (by decide+kernel) ha (he:=he) (hpl:=hpl)
 case int=>exact jb vO wI sd (by decide+kernel) ha (he:=he) (hpl:=hpl)
 case str=>exact jb vU wI sd (by decide+kernel) ha (he:=he) (hpl:=hpl)
 case tuple=>exact jb (pQ C.K) wI sd (by decide+kernel) ha (he:=he) (hpl:=hpl)
def Fs{op:List PV->Res PV}{es:Es}{e:E}{σ:St}{H:Hp}{Q:VK}(hn:∀ps c,op ps≠.exc c)(he:∀env,aC F e env=(bY F es env).bind λps=>op ps)(h:tE X W F e σ H Q):Mw (Bf W op) (tA X W F es) σ H Q:=by
 obtain⟨H0,G,env,sr,o⟩:=h
 rw [he] at o;refine args sr o λps vs G1 H1 g1 t bH o1=>?_
 obtain⟨r,hr,kr⟩:=o1.val (hn ps)
 exact⟨H0,G1,ps,r,bH.sub,t.top,hr,λw G' H' g' gH=>kr w G' H' (g1.trans g') (.of gH)⟩
def F6(C:dy Γ F W N sc k X)(hq:Γ.qt=false)(b:B){es:Es}{e:Expr}{ps:List Expr}{np pos:Pos}(hg:ic sc (bN b)=true)(hm:Γ.bs.contains (bN b)=true)(ha:GA X W F es (e::ps))
 (he:starEach (e::ps) X.env=(false,eval e X.env)::starEach ps X.env) (hpl:(backTo pos (starEach ps X.env)).any (·.1)=false):GE X W F (.blt b es) (.Call (.Name (bN b) np) (e::ps) [] pos):=
 (HN C hq b hg hm ha he hpl).imp λσ H Q h=>Fs (λps c=>w9 c) (λenv=>by rw [aC]) h
def zJ{t:Ty}{p:PV}(c:Str):jV t p≠.exc c:=by
 cases p<;>exact λz=>nomatch z
def HV(C:dy Γ F W N sc k X)(t:Ty){pos:Pos}(hg:ic sc (Str.ofString (tG t))=true)(hm:Γ.bs.contains (Str.ofString (tG t))=true):PE X (.Name (Str.ofString (tG t)) pos) (tC (.ty (tG t))):=by
 have sd:=C.bs _ (zzn.mp hm)
 have wI:=fx C hg
 cases t
 all_goals exact Dp wI sd (u:=.type _) (by decide+kernel) rfl (by decide+kernel) (by decide+kernel)
def Kf(C:dy Γ F W N sc k X){t:Ty}{a:E}{pa:Expr}{np tp pos:Pos}(hi:ic sc "isinstance"=true)(hb:Γ.bs.contains "isinstance"=true)(hg:ic sc (Str.ofString (tG t))=true)(hm:Γ.bs.contains (Str.ofString (tG t))=true)(ha:GE X W F a pa)
 (dh:∀env ps,starEach (pa::ps) env=(false,eval pa env)::starEach ps env):GE X W F (.ty t a) (.Call (.Name "isinstance" np) [pa,.Name (Str.ofString (tG t)) tp] [] pos):=by
 refine(iP (yg C.K t) (fx C hi) (C.bs _ (zzn.mp hb)) (by decide+kernel) (cH ha (cH (HV C t hg hm) fq) (dh _ _)) (he:=dh _ _)).imp λσ H Q h=>?_
 obtain⟨H0,G,env,sr,o⟩:=h
 rw [aC] at o;refine one sr o λp v G1 H1 g1 t1 bH o1=>?_
 obtain⟨r,hr,kr⟩:=o1.val (λc=>zJ c)
 exact⟨v,H0,G1,p,r,rfl,bH.sub,t1.top,hr,λw G' H' g' gH=>kr w G' H' (g1.trans g') (.of gH)⟩
def mT:M->String
 |.join=>"str"
def OL(C:dy Γ F W N sc k X){m:M}{p:PV}{v:V}{H0 G H:Hp}(sg:ax G H)(h:uS m p=true)(t:Top W H0 G H p v):OK X.K (mT m) v H:=by
 cases m<;>cases p<;>first|(exact aV h)|(cases t.str;rfl)|(obtain⟨a,vs,rfl,h1,_⟩:=t.lst sg;exact .inl ⟨rfl,_,qY C.K h1⟩)
def F9(C:dy Γ F W N sc k X){m:M}{o:E}{es:Es}{po p:Expr}{ps:List Expr}{apos bI:Pos}(ho:GE X W F o po)(ha:GA X W F es (p::ps))(fy:attributeBase po (mN m) X.env (eval po X.env)=eval po X.env)
 (GK:((backTo bI (starEach (p::ps) X.env)).all (λx=>!x.1)&&(backToKw bI (keywordEach [] X.env)).all (λx=>x.1.isSome)&&decide ((p::ps).length+([]:List Keyword).length+(if([]:List Keyword).isEmpty then 0 else 1)<30))=true)
 (iI:(apos.endLine==bI.line)=true) (hs:starEach (p::ps) X.env=(false,eval p X.env)::starEach ps X.env) (hplain:(backTo bI (starEach ps X.env)).any (·.1)=false):GE X W F (.Jp m o es) (.Call (.Attribute po (mN m) apos) (p::ps) [] bI):=by
 have rd:∀σ H Q,tE X W F (.Jp m o es) σ H Q->Qv X.K (mT m) (OP W (uU m)) (tE X W F o) (tA X W F es) σ H Q:=λσ H Q h=>by
  obtain⟨H0,G,env,sr,out⟩:=h
  rw [aC] at out;refine one sr out λp v G1 H1 g1 t1 bH o1=>?_
  by_cases hk:uS m p=true
  ·rw [if_pos hk] at o1;refine⟨OL C bH.sub hk t1.top,args bH o1 λps vs G2 H2 g2 t2 d9 o2=>?_⟩
   obtain⟨r,hr,kr⟩:=o2.val (λc=>xa c)
   exact⟨H0,G2,p::ps,r,d9.sub,.cons (t1.top.grow g2) t2.top,hr,λw G' H' g' gH=>kr w G' H' ((g1.trans g2).trans g') (.of gH)⟩
  ·rw [if_neg hk] at o1;exact o1.elim
 cases m
 case join=>exact(zZ PySem.F.plainAttrs_str PySem.F.slot_str_join PySem.F.type_str_join (zF C.K) ho ha fy GK iI hs hplain).imp rd
def SR.set{H0 G H:Hp}{env:Sl}{σ:St}{p:PV}{v:V}(i:Nat)(r:SR W H0 env σ G H)(h:Rep W G p v):SR W H0 (env.set i (.val p)) (σ.set i (some v)) G H where
 len:=by simpa using r.len
 sub:=r.sub
 tab:=r.tab
 mB:=r.mB
 base:=r.base
 slot:=λj s e=>by
  by_cases hj:i=j
  ·subst hj;have cm:i<env.length:=by
    have:=(zzH.mp e).1
    simpa using this
   rw [zzo cm] at e;cases e;exact⟨some v,zzo (by rw [<-r.len];exact cm),v,rfl,h⟩
  ·rw [zzS hj] at e;obtain⟨o,h1,h2⟩:=r.slot j s e
   exact⟨o,by rw [zzS hj];exact h1,h2⟩
 apart:=λa b q q' ad e1 e2 e3 e4=>by
  have ne:∀{c:Nat} {q:PV},(env.set i (.val p))[c]?=some (.own q)->i≠c:=λ{c q} e z=>by
   subst z;have cm:i<env.length:=by
    have:=(zzH.mp e).1
    simpa using this
   rw [zzo cm] at e;cases e
  have n1:=ne e1
  have n2:=ne e2
  rw [zzS n1] at e1 e3;rw [zzS n2] at e2 e4;exact r.apart a b q q' ad e1 e2 e3 e4
noncomputable def gT(K:zz8):Tg->TG
 |.one i=>fU i
 |.two i j=>Kc K 2 (uv (fU i) (uv (fU j) F4))
def rX{K:zz8}(hK:W.K=K){tg:Tg}{H0 G H:Hp}{env ay:Sl}{σ:St}{p:PV}{v:V}{Q:St->Hp->Prop}(e:Tg.put tg p env=.ok ay)(r:SR W H0 env σ G H)(h:Rep W G p v)(hq:∀σ',SR W H0 ay σ' G H->Q σ' H):gT K tg v σ H Q:=by
 unfold Tg.put at e;split at e
 ·cases e;exact hq _ (r.set _ h)
 ·cases e;simp! [Rep] at h;obtain⟨a,vs,rfl,sq,l⟩:=h
  obtain⟨v1,r1,rfl,h1,l⟩:=l.bU
  obtain⟨v2,r2,rfl,h2,l⟩:=l.bU
  simp! [ai] at l;subst l;rw [hK] at sq;exact⟨a,_,rfl,ax.tup r.sub sq.sq,rfl,_,_,rfl,_,_,rfl,rfl,hq _ ((r.set _ h1).set _ h2)⟩
 ·cases e
def zw{x:Str}(eE:X.env.scope=sc)(h:eY sc x=true):Loc X.env.scope x:=by
 rw [eE];unfold eY at h;simp! [zzt,zzy] at h;exact h
def EN{fn:Str->Bool}{i:Nat}{p:Expr}(hN:X.N=N)(nd:N.Nodup)(eE:X.env.scope=sc)(kQ:∀x,fn x=true->X.fn x=true)(h:N0 N sc fn i p=true):PG X p (fU i)/\∃x q,p=.Name x q:=by
 obtain⟨x,hx,h2⟩:=ah h
 obtain⟨q,rfl⟩:=bM hx
 simp! [zza,zzy,zzt] at h2;refine⟨Dv (by rw [hN];exact nd) (by rw [hN];exact h2.1.1) (zw eE h2.1.2) ?_,x,q,rfl⟩;rcases h2.2 with z|z
 ·exact .inl (kQ x z)
 ·exact .inr (by rw [eE];exact z)
noncomputable def PB:List Nat->Eg
 |[]=>F4
 |i::is=>uv (fU i) (PB is)
theorem Ag{fn:Str->Bool}(hN:X.N=N)(nd:N.Nodup)(eE:X.env.scope=sc)(kQ:∀x,fn x=true->X.fn x=true):∀(is:List Nat) (es:List Expr),Hn N sc fn is es=true->JE X es (PB is)/\(assignEach es X.env).length=is.length/\(assignEach es X.env).findIdx? (·.1)=none
 |[],[],_=>⟨Dw,rfl,rfl⟩
 |i::is,a::as,h=>by
  have h:=au h
  obtain⟨g1,x,p,rfl⟩:=EN hN nd eE kQ h.1
  obtain⟨g,l,f⟩:=Ag hN nd eE kQ is as h.2
  have e:assignEach (.Name x p::as) X.env=(false,assign (.Name x p) X.env)::assignEach as X.env:=rfl
  refine⟨Ai g1 g,by rw [e,zzL,l,zzL],?_⟩;rw [e,List.findIdx?_cons,f]
  rfl
 |[],_::_,h=>aV h
 |_::_,[],h=>aV h
def Af{fn:Str->Bool}{tg:Tg}{p:Expr}(hN:X.N=N)(nd:N.Nodup)(eE:X.env.scope=sc)(hc:X.calm=true)(kQ:∀x,fn x=true->X.fn x=true)(h:gU N sc fn tg p=true):PG X p (gT X.K tg):=by
 cases tg with
 |one i=>exact(EN hN nd eE kQ h).1
 |two i j=>
  obtain⟨es,h1,h2⟩:=ah h
  obtain⟨k,q,rfl⟩:=vz h1
  obtain⟨g,l,f⟩:=Ag hN nd eE kQ _ _ h2
  exact HW hc g l f
def nH(W:Wd)(J:It)(G B:Hp)(ps:List PV):Prop:=∀(i:Nat) (G' H':Hp),ax G G'->gQ B H'->ax G' H'->
 (i=ps.length->J.stop i H')/\∀p,ps[i]?=some p->J.go i H'/\∀x l0,J.Ju i H' x l0->∃tM,aA W G' H' tM l0/\Rep W tM p x
structure Jz(W:Wd)(G H:Hp)(it:I)(J:It)(ps:List PV):Prop where
 any:nH W J G H ps
 bq:B1 it=true->nH W J G G ps
noncomputable def tI(X:Cx)(W:Wd)(F:aU)(it:I):TI:=λσ H R=>∃H0 G env,SR W H0 env σ G H/\Out X W (qb F it env) σ G H λps=>∀J G' H',aA W G H G' H'->Jz W G' H' it J ps->R J H'
abbrev GI(X:Cx)(W:Wd)(F:aU)(tg:Expr)(it:I)(p:Expr):Prop:=PI X tg p (tI X W F it)
theorem uJ(hK:W.K=X.K){G B:Hp}{a:Addr}{vs:List V}{ps:List PV}(h:rq W.K B a vs)(l:ai W G ps vs):nH W (MI X.K a) G B ps:=λi G' H' sG sB sub=>by
 have hq:iW X.K H' a vs:=qY hK (gQ.ls sB h)
 refine⟨λhi=>⟨vs,hq,by rw [l.length];omega⟩,λp hp=>?_⟩
 obtain⟨v,hv,rv⟩:=l.oq hp
 refine⟨⟨vs,v,hq,hv⟩,λx l0 hy=>?_⟩
 obtain⟨rfl,hy⟩:=hy
 have:=hy vs hq
 rw [hv] at this;cases this;exact⟨G',.refl sub,Rep.same sG p rv⟩
theorem zd{K:zz8}{G B:Hp}{a:Addr}{vs:List V}{ps:List PV}(h:eU K B a vs)(l:ai W G ps vs):nH W (MJ K a) G B ps:=λi G' H' sG sB sub=>by
 have hq:eU K H' a vs:=gQ.tup sB h
 refine⟨λhi=>⟨vs,hq,by rw [l.length];omega⟩,λp hp=>?_⟩
 obtain⟨v,hv,rv⟩:=l.oq hp
 refine⟨⟨vs,v,hq,hv⟩,λx l0 hy=>?_⟩
 obtain⟨rfl,hy⟩:=hy
 have:=hy vs hq
 rw [hv] at this;cases this;exact⟨G',.refl sub,Rep.same sG p rv⟩
def za{G B:Hp}{a:Addr}{o:Obj}{ks:List (List Int)}{us:List V}(n:ks.length=us.length)(h:B a=some (.bq o (.dT (kz ks us)))):nH W (MG a o (kz ks us)) G B (ks.map kP):=λi G' H' sG sB sub=>by
 have hq:H' a=some (.bq o (.dT (kz ks us))):=sB.at h (λ_ z=>nomatch z)
 refine⟨λhi=>⟨hq,by rw [fW n];rw [zzl] at hi;omega⟩,λp hp=>?_⟩
 rw [zzQ] at hp;obtain⟨k,hk,rfl⟩:=zzJ.mp hp
 have hi:i<ks.length:=(zzH.mp hk).1
 refine⟨⟨hq,by rw [fW n];exact hi⟩,λx l0 hy=>?_⟩
 obtain⟨rfl,b,k',v,rfl,e2,e3⟩:=hy
 have ek:k'=ki k:=by
  have:=congrArg (λl=>l[i]?) (uO (us:=us) n)
  simp! [zzQ,e2,hk,Option.map_some] at this;exact zzq this
 rw [ek] at e3;obtain⟨G2,g2,hw⟩:=kU (W:=W) sub e3
 exact⟨G2,g2,hw⟩
def vW{z:Str}{i:Nat}{p:PV}(h:(chars z)[i]?=some p):∃c,z.cps[i]?=some c/\p=.str ⟨#[c]⟩:=by
 unfold chars at h;rw [zzQ] at h;obtain⟨c,hc,rfl⟩:=zzJ.mp h
 rw [Array.getElem?_toList] at hc;exact⟨c,hc,rfl⟩
def vX(z:Str):(chars z).length=z.cps.size:=by unfold chars;rw [zzl,zzd]
theorem oD{G B:Hp}(lo:Int)(n:Nat):nH W (JB lo n) G B (fb lo n):=λi G' H' sG sB sub=>by
 unfold fb;refine⟨λhi=>by rw [zzl,List.length_range] at hi;exact Nat.le_of_eq hi.symm,λp hp=>?_⟩
 rw [zzQ] at hp;obtain⟨c,hc,rfl⟩:=zzJ.mp hp
 obtain⟨h1,h2⟩:=zzH.mp hc
 rw [List.length_range] at h1;rw [List.getElem_range] at h2;subst h2;refine⟨h1,λx l0 hy=>?_⟩
 obtain⟨rfl,rfl⟩:=hy
 exact⟨G',.refl sub,.i⟩
def lC{G H:Hp}{p q:PV}{v u:V}{a:Addr}(sub:ax G H)(ha:H a=none)(h1:Rep W G p v)(h2:Rep W G q u):∃tM,aA W G H tM (upd H a (.tup [v,u]))/\Rep W tM (.tup [p,q]) (.ref a):=
 ⟨_,.new sub ha,.t (.inl ak) (ai.same (bT (sub.free ha)) _ (.cons h1 (.cons h2 .nil)))⟩
theorem iA:∀{xs:List PV} {n i:Nat} {p:PV},(cG n xs)[i]?=some p->∃x,xs[i]?=some x/\p=.tup [.int ((n+i:Nat):Int),x]
 |[],_,_,_,h=>by simp [cG] at h
 |x::xs,n,0,p,h=>by simp [cG] at h;exact⟨x,rfl,by rw [<-h];simp⟩
 |x::xs,n,i+1,p,h=>by
  simp! [cG,List.getElem?_cons_succ] at h;obtain⟨y,h1,h2⟩:=iA h
  exact⟨y,by simpa using h1,by rw [h2,show n+1+i=n+(i+1) by omega]⟩
theorem cX:∀(xs:List PV) (n:Nat),(cG n xs).length=xs.length
 |[],_=>rfl
 |_::xs,n=>by simp! [cG,zzL,cX xs]
theorem qv{K:zz8}{G B:Hp}{a:Addr}{vs:List V}{ps:List PV}(h:eU K B a vs)(l:ai W G ps vs):nH W (MH K a vs) G B (cG 0 ps):=λi G' H' sG sB sub=>by
 have hq:eU K H' a vs:=gQ.tup sB h
 refine⟨λhi=>⟨hq,by rw [cX] at hi;rw [l.length];exact hi⟩,λp hp=>?_⟩
 obtain⟨x,hx,rfl⟩:=iA hp
 obtain⟨v,hv,rv⟩:=l.oq hx
 refine⟨⟨hq,(zzH.mp hv).1⟩,λy l0 hy=>?_⟩
 obtain⟨b,x',rfl,hb,rfl,uE⟩:=hy
 rw [hv] at uE;cases uE;rw [Nat.zero_add];exact lC sub hb .i (Rep.same sG x rv)
theorem kS(hK:W.K=X.K){G B:Hp}{a:Addr}{vs:List V}{ps:List PV}(h:rq W.K B a vs)(l:ai W G ps vs):nH W (E7 X.K a vs) G B (cG 0 ps):=λi G' H' sG sB sub=>by
 have hq:iW X.K H' a vs:=qY hK (gQ.ls sB h)
 refine⟨λhi=>⟨hq,by rw [cX] at hi;rw [l.length];exact hi⟩,λp hp=>?_⟩
 obtain⟨x,hx,rfl⟩:=iA hp
 obtain⟨v,hv,rv⟩:=l.oq hx
 refine⟨⟨hq,(zzH.mp hv).1⟩,λy l0 hy=>?_⟩
 obtain⟨b,x',rfl,hb,rfl,uE⟩:=hy
 rw [hv] at uE;cases uE;rw [Nat.zero_add];exact lC sub hb .i (Rep.same sG x rv)
theorem qu{G B:Hp}(z:Str):nH W (LU z) G B (cG 0 (chars z)):=λi G' H' sG sB sub=>by
 refine⟨λhi=>by rw [cX,vX] at hi;exact hi,λp hp=>?_⟩
 obtain⟨x,hx,rfl⟩:=iA hp
 obtain⟨c,hc,rfl⟩:=vW hx
 refine⟨(Array.getElem?_eq_some_iff.mp hc).1,λy l0 hy=>?_⟩
 obtain⟨b,c',rfl,hb,rfl,fI⟩:=hy
 rw [hc] at fI;cases fI;rw [Nat.zero_add];exact lC sub hb .i .s
def fe{e:E}{σ:St}{H0 G H:Hp}{env:Sl}{Q:VK}{p:PV}(sr:SR W H0 env σ G H)(e1:aC F e env=.ok p)(h:∀v G1 H1,aA W G H G1 H1->Got W H0 G1 H1 e p v->Q v H1):tE X W F e σ H Q:=⟨H0,G,env,sr,by rw [e1];exact h⟩
def AO{e:E}{σ:St}{H0 G H:Hp}{env:Sl}{Q:VK}{c:Str}(sr:SR W H0 env σ G H)(e1:aC F e env=.exc c)(h:rG X W σ c G H):tE X W F e σ H Q:=⟨H0,G,env,sr,by rw [e1];exact h⟩
def Gi(C:dy Γ F W N sc k X){tg p:Expr}{e:E}(he:GE X W F e p):GI X W F tg (.seq e) p:=by
 intro aa s σ H R I h;obtain⟨H0,G,env,sr,o⟩:=h
 rw [qb] at o;cases r:aC F e env with
 |bad=>rw [r] at o;exact o.elim
 |exc c=>rw [r] at o;exact u4 he aa s σ H R I (AO sr r o)
 |ok q=>
  rw [r] at o;cases q with
  |lst xs=>
   refine u4 he aa s σ H R I (fe sr r λv G1 H1 g1 t=>?_);have t':=t
   obtain⟨a,vs,rfl,h1,l1⟩:=t.top.lst g1.sub
   refine⟨a,rfl,⟨vs,qY C.K h1⟩,o _ G1 H1 g1 ⟨uJ C.K h1 l1,λz=>?_⟩⟩
   have rp:=t'.rep z
   simp! [Rep] at rp;obtain⟨a',vs',e1,h2,l2⟩:=rp
   cases e1;exact uJ C.K h2 l2
  |tup xs=>
   refine HY he aa s σ H R I (fe sr r λv G1 H1 g1 t=>?_);have t':=t
   obtain⟨a,vs,rfl,h1,l1⟩:=t.top.tup g1.sub
   rw [C.K] at h1;refine⟨a,rfl,⟨vs,h1⟩,o _ G1 H1 g1 ⟨zd h1 l1,λz=>?_⟩⟩
   have rp:=t'.rep z
   simp! [Rep] at rp;obtain⟨a',vs',e1,h2,l2⟩:=rp
   cases e1;rw [C.K] at h2;exact zd h2.sq l2
  |str z=>exact zzk o
  |int _=>exact zzk o
  |bl _=>exact zzk o
  |aM=>exact zzk o
  |exc _=>exact zzk o
  |bF ks qs=>
   by_cases GJ:gB e=true
   ·have Ry:xw e (.bF ks qs)=.ok (ks.map kP):=by
     cases e<;>first|rfl|exact aV GJ
    have o2:Out X W (xw e (.bF ks qs)) σ G H λps=>∀(J:It) (G' H':Hp),aA W G H G' H'->Jz W G' H' (Ci.I.seq e) J ps->R J H':=o
    rw [Ry] at o2;refine HX he aa s σ H R I (fe sr r λv G1 H1 g1 t=>?_);have rp:=t.rep GJ
    simp! [Rep] at rp;obtain⟨a,ob,us,rfl,n,h1,l1⟩:=rp
    exact⟨a,ob,_,rfl,g1.sub _ _ h1,o2 _ G1 H1 g1 ⟨za n (g1.sub _ _ h1),λ_=>za n h1⟩⟩
   ·have:∃i,e=.gV i:=by
     cases e<;>first|exact⟨_,rfl⟩|exact absurd rfl GJ
    obtain⟨i,rfl⟩:=this
    exact zzk o
def dn{i:Int}(h:aR i=true): -(2^62)<=i/\i<2^62:=by
 unfold aR at h
 simpa using h
def Gh(C:dy Γ F W N sc k X){tg p:Expr}{e:E}{np pos:Pos}(hg:ic sc "range"=true)(hb:Γ.bs.contains "range"=true)(dh:∀env ps,starEach (p::ps) env=(false,eval p env)::starEach ps env)(he:GE X W F e p):GI X W F tg (.rD e) (.Call (.Name "range" np) [p] [] pos):=by
 intro aa s σ H R I h;refine xk (fx C hg) (C.bs _ (zzn.mp hb)) (cH he fq (dh _ _)) (dh _ _) aa s σ H R I ?_;obtain⟨H0,G,env,sr,o⟩:=h
 rw [qb] at o;refine one sr o λq v G1 H1 g1 t bH o1=>?_
 cases q with
 |int j=>
  by_cases hj:aR j=true
  ·have o2:Out X W (if aR j=true then Res.ok (fb 0 j.toNat) else .bad) σ G1 H1 _:=o1
   rw [if_pos hj] at o2;exact⟨j,by rw [t.top.int],(dn hj).1,(dn hj).2,o2 _ G1 H1 g1 ⟨oD _ _,λ_=>oD _ _⟩⟩
  ·have o2:Out X W (if aR j=true then Res.ok (fb 0 j.toNat) else .bad) σ G1 H1 _:=o1
   rw [if_neg hj] at o2;exact o2.elim
 |bl _=>exact zzk o1
 |aM=>exact zzk o1
 |str _=>exact zzk o1
 |tup _=>exact zzk o1
 |lst _=>exact zzk o1
 |exc _=>exact zzk o1
 |bF _ _=>exact zzk o1
def B9(C:dy Γ F W N sc k X){tg p q:Expr}{a b:E}{np pos:Pos}(hg:ic sc "range"=true)(hb:Γ.bs.contains "range"=true)(dh:∀env ps,starEach (p::ps) env=(false,eval p env)::starEach ps env)(GR:∀env ps,starEach (q::ps) env=(false,eval q env)::starEach ps env)
 (ha:GE X W F a p) (j1:GE X W F b q):GI X W F tg (.oY a b) (.Call (.Name "range" np) [p,q] [] pos):=by
 intro aa s σ H R I h;refine xl (fx C hg) (C.bs _ (zzn.mp hb)) (cH ha (cH j1 fq (GR _ _)) (dh _ _)) (by rw [dh,GR];rfl) (GR _ _) aa s σ H R I ?_;obtain⟨H0,G,env,sr,o⟩:=h
 rw [qb] at o;refine one sr o λx v G1 H1 g1 t bH o1=>one bH o1 λy u G2 H2 g2 t2 d9 o2=>?_
 cases x<;>cases y<;>first
  |(exact zzk o2)
  | (rename_i i j
     by_cases hj:(aR i&&aR j)=true
     ·have o3:Out X W (if(aR i&&aR j)=true then Res.ok (fb i (j-i).toNat) else .bad) σ G2 H2 _:=o2
      rw [if_pos hj] at o3;rw [zza] at hj;exact⟨i,j,by rw [t.top.int,t2.top.int],⟨(dn hj.1).1,(dn hj.1).2,(dn hj.2).1,(dn hj.2).2⟩,o3 _ G2 H2 (g1.trans g2) ⟨oD _ _,λ_=>oD _ _⟩⟩
     ·have o3:Out X W (if(aR i&&aR j)=true then Res.ok (fb i (j-i).toNat) else .bad) σ G2 H2 _:=o2
      rw [if_neg hj] at o3;exact o3.elim)
def B8(C:dy Γ F W N sc k X){elts:List Expr}{x1:Nat}{sX:Pos}{p:Expr}{e:E}{np pos:Pos}(hg:ic sc "enumerate"=true)(hb:Γ.bs.contains "enumerate"=true)(dh:∀env ps,starEach (p::ps) env=(false,eval p env)::starEach ps env)(he:GE X W F e p):
 GI X W F (.Tuple elts x1 sX) (.enum e) (.Call (.Name "enumerate" np) [p] [] pos):=by
 intro aa s σ H R I h;have wI:=fx C hg
 have sd:=C.bs _ (zzn.mp hb)
 have pa:=cH he fq (dh _ _)
 obtain⟨H0,G,env,sr,o⟩:=h
 rw [qb] at o;cases r:aC F e env with
 |bad=>rw [r] at o;exact o.elim
 |exc c=>rw [r] at o;exact qP wI sd pa (dh _ _) aa s σ H R I (AO sr r o)
 |ok q=>
  rw [r] at o;cases q with
  |lst xs=>
   refine qP wI sd pa (dh _ _) aa s σ H R I (fe sr r λv G1 H1 g1 t=>?_)
   by_cases hz:gB e=true
   ·have rp:=t.rep hz
    simp! [Rep] at rp;obtain⟨a,vs,rfl,h2,l2⟩:=rp
    exact⟨a,vs,rfl,qY C.K (ax.ls g1.sub h2),o _ G1 H1 g1 ⟨kS C.K (ax.ls g1.sub h2) l2,λ_=>kS C.K h2 l2⟩⟩
   ·obtain⟨a,vs,rfl,h1,l1⟩:=t.top.lst g1.sub
    exact⟨a,vs,rfl,qY C.K h1,o _ G1 H1 g1 ⟨kS C.K h1 l1,λz=>absurd z hz⟩⟩
  |tup xs=>
   refine Ak wI sd pa (dh _ _) aa s σ H R I (fe sr r λv G1 H1 g1 t=>?_);have t':=t.top
   rcases t' with rp|z
   ·simp! [Rep] at rp;obtain⟨a,vs,rfl,h2,l2⟩:=rp
    rw [C.K] at h2;exact⟨a,vs,rfl,ax.tup g1.sub h2.sq,o _ G1 H1 g1 ⟨qv (ax.tup g1.sub h2.sq) l2,λz=>qv h2.sq l2⟩⟩
   ·exact z.elim
  |str z=>exact Aj wI sd pa (dh _ _) aa s σ H R I (fe sr r λv G1 H1 g1 t=>⟨z,by rw [t.top.str],o _ G1 H1 g1 ⟨qu z,λ_=>qu z⟩⟩)
  |int _=>exact zzk o
  |bl _=>exact zzk o
  |aM=>exact zzk o
  |exc _=>exact zzk o
  |bF _ _=>exact zzk o
end
def vV{env:Env}{x:Str}{c:Addr}(h:env.cells.lookup x=some c):cellOf env x=pure c:=by
 unfold cellOf;rw [h]
noncomputable def frees(names:List (Str×NameKind)):List Str:=((names.filter λp=>p.2==.free).map (·.1)).reverse
def fg{scope:Scope}{env:Env}(h:∀y∈scope.names,y.2=.free->∃c,env.cells.lookup y.1=some c):closureFor scope env=pure (bE env (freeOf scope)):=by
 simp! [closureFor];have key:∀(names:List (Str×NameKind)) (acc:List (Str×Addr)),(∀y∈names,y.2=.free->∃c,env.cells.lookup y.1=some c)->
  (forIn (m:=Sem) names acc λx r=>if(x.2==NameKind.free)=true then do
   let c<-cellOf env x.1
   pure (ForInStep.yield ((x.1,c)::r))
   else pure (ForInStep.yield r))=pure (bE env (frees names)++acc):=by
  intro names
  induction names with
  |nil=>intro acc _;rfl
  |cons p r ih=>
   intro acc hh;obtain⟨n,kd⟩:=p
   rw [List.forIn_cons]
   by_cases hk:(kd==NameKind.free)=true
   ·obtain⟨c,hc⟩:=hh (n,kd) (by simp) (zzy.mp hk)
    simp! [hk,if_true,vV hc,pure_bind];rw [ih ((n,c)::acc) λy hy=>hh y (zzI _ hy)]
    have e:frees ((n,kd)::r)=frees r++[n]:=by
     unfold frees;rw [zz3,if_pos hk,zzF,List.reverse_cons]
    rw [e];unfold bE;rw [List.map_append,zzF,List.map_nil,List.append_assoc];show _=pure (_++([(n,(env.cells.lookup n).getD 0)]++acc))
    rw [show env.cells.lookup n=some c from hc]
    rfl
   ·simp! [hk,zze,if_false,pure_bind];rw [ih acc λy hy=>hh y (zzI _ hy)]
    have e:frees ((n,kd)::r)=frees r:=by
     unfold frees;rw [zz3,if_neg hk]
    rw [e]
 have:=key scope.names [] h
 rw [zz6] at this;simp! [bind_pure_comp,map_pure,id_map',bind_pure];exact this
section
variable{X:Cx}{W:Wd}{N:List Str}{sc:Scope}
def e9{scope:Scope}(h:X.env.scope=sc):relabel scope X.env=cZ scope sc:=by
 subst h
 rfl
structure ke(N:List Str)(sc scope:Scope)(kk:Nat)(aS:List Nat)(xs:List Str):Prop where
 kind:scope.kind=.function
 len:xs.length=kk
 nd:(xs++freeOf scope).Nodup
 FD:(scope.names.all λy=>(decide (y.2≠.cell)||!(freeOf scope).contains y.1)&&(decide (y.2≠.free)||(freeOf scope).contains y.1))=true
 own:(scope.names.all λy=>decide (y.2≠.cell)||decide (scope.names.lookup y.1=some .cell))=true
 names:(scope.names.all λy=>decide (y.2≠.local)||decide (scope.names.lookup y.1=some .local))=true
 slots:aS.map (λi=>N[i]?)=(freeOf scope).map some
 kX:((freeOf scope).all λy=>decide (sc.names.lookup y=some .cell))=true
 kY:((freeOf scope).all λy=>decide ((cZ scope sc).names.lookup y=some .cell))=true
def iu{scope:Scope}{kk:Nat}{aS:List Nat}{xs:List Str}(h:uc N sc scope kk aS xs=true):ke N sc scope kk aS xs:=by
 unfold uc at h;simp! [zza] at h;obtain⟨⟨⟨⟨⟨⟨⟨⟨h1,h2⟩,h3⟩,h4⟩,h9⟩,h5⟩,h6⟩,h7⟩,h8⟩:=h
 exact⟨zzy.mp h1,zzy.mp h2,zzY h3,h4,h9,h5,zzY h6,h7,h8⟩
def n6(hN:X.N=N)(eE:X.env.scope=sc)(ok:X.Ok){scope:Scope}{kk:Nat}{aS:List Nat}{xs:List Str}(h:ke N sc scope kk aS xs):eJ X scope xs (freeOf scope) aS:=by
 have bS:∀y∈freeOf scope,∃c,X.env.cells.lookup y=some c:=λy hy=>ok.has y (.inl (by
  have:=zzY (zzT.mp h.kX y hy)
  show X.env.scope.names.lookup y=_
  rw [eE];exact this))
 refine⟨h.kind,fg λy hy hf=>?_,zzT.mpr λy hy=>?_,h.FD,h.own,h.names,by rw [hN];exact h.slots,zzT.mpr λy hy=>?_,?_⟩
 ·have c:=zzT.mp h.FD y hy
  rw [zza,zzt,zzt] at c;rcases c.2 with z|z
  ·exact absurd hf (zzY z)
  ·exact bS _ (zzn.mp z)
 ·obtain⟨c,hc⟩:=bS y hy
  rw [hc];rfl
 ·have:=zzY (zzT.mp h.kX y hy)
  refine zzh ?_;show X.env.scope.names.lookup y=_
  rw [eE];exact this
 ·rw [e9 eE];exact h.kY
theorem gX{f:PV->Res (Option PV)}{x:PV}:∀{xs:List PV},bb f (xs++[x])=(bb f xs).bind λys=>(f x).well.bind λo=>.ok (ys++o.toList)
 |[]=>by
  simp! [List.nil_append,bb,Res.bind];cases(f x).well with
  |ok o=>cases o<;>rfl
  |exc c=>rfl
  |bad=>rfl
 |y::xs=>by
  rw [List.cons_append];simp! [bb];rw [gX (xs:=xs)];cases(f y).well with
  |exc c=>rfl
  |bad=>rfl
  |ok o=>
   show(((bb f xs).bind λys=>(f x).well.bind λo=>.ok (ys++o.toList)).bind λys=>.ok (oc o ys))=((bb f xs).bind λys=>.ok (oc o ys)).bind λys=>(f x).well.bind λo=>.ok (ys++o.toList)
   cases bb f xs with
   |exc c=>rfl
   |bad=>rfl
   |ok zs=>
    show(((f x).well.bind λo=>.ok (zs++o.toList)).bind λys=>.ok (oc o ys))=(f x).well.bind λo2=>.ok ((oc o zs)++o2.toList)
    cases(f x).well with
    |exc c=>rfl
    |bad=>rfl
    |ok o2=>cases o<;>rfl
theorem kG{f:PV->Res (Option PV)}:∀{xs ys:List PV},bb f xs=.ok ys->∀i,∃zs,bb f (xs.take i)=.ok zs/\zs.length<=i
 |_,_,_,0=>⟨[],by simp [bb],zzE _⟩
 |[],ys,h,i+1=>⟨[],by simp [bb],Nat.zero_le _⟩
 |x::xs,ys,h,i+1=>by
  simp! [bb] at h;obtain⟨o,ho,h⟩:=Res.aZ h
  obtain⟨zs,hz,h⟩:=Res.aZ h
  obtain⟨ws,hw,hl⟩:=kG hz i
  refine⟨oc o ws,?_,?_⟩
  ·rw [List.take_succ_cons];simp! [bb];rw [ho];show((bb f (xs.take i)).bind λys=>.ok (oc o ys))=_
   rw [hw]
   rfl
  ·cases o with
   |none=>exact Nat.le_succ_of_le hl
   |some y=>exact Nat.succ_le_succ hl
def D9{α:Type}{r:Res α}{a:α}(h:r.well=.ok a):r=.ok a:=by
 cases r with
 |ok b=>cases h;rfl
 |exc c=>cases h
 |bad=>cases h
def pT{f:PV->Res (Option PV)}{xs ys zs:List PV}{i:Nat}{x:PV}(h:bb f xs=.ok ys)(hx:xs[i]?=some x)(hz:bb f (xs.take i)=.ok zs):∃o,f x=.ok o/\bb f (xs.take (i+1))=.ok (zs++o.toList):=by
 have e:xs.take (i+1)=xs.take i++[x]:=by rw [List.take_add_one,hx];rfl
 obtain⟨ws,hw,_⟩:=kG h (i+1)
 rw [e,gX,hz] at hw;obtain⟨o,ho,hw⟩:=Res.aZ (show((f x).well.bind λo=>Res.ok (zs++o.toList))=.ok ws from hw)
 refine⟨o,D9 ho,?_⟩;rw [e,gX,hz];show((f x).well.bind λo=>Res.ok (zs++o.toList))=_
 rw [ho]
 rfl
def qZ{H0 G H:Hp}{env:Sl}{σ:St}{aS:List Nat}{ys:List Str}(kk:Nat)(sr:SR W H0 env σ G H)(hs:aS.map (λi=>N[i]?)=ys.map some)(nd:ys.Nodup):SR W H0 (List.replicate kk .no++ff env aS) (List.replicate kk none++yZ σ aS) G H:=by
 have Rr:∀(i j:Nat) (a:Nat),aS[i]?=some a->aS[j]?=some a->i=j:=λi j a h1 h2=>by
  have e1:(ys.map some)[i]?=some (N[a]?):=by rw [<-hs,zzQ,h1];rfl
  have e2:(ys.map some)[j]?=some (N[a]?):=by rw [<-hs,zzQ,h2];rfl
  rw [zzQ] at e1 e2;obtain⟨y1,g1,q1⟩:=zzJ.mp e1
  obtain⟨y2,g2,q2⟩:=zzJ.mp e2
  have:y1=y2:=zzq (q1.trans q2.symm)
  subst this;exact ly nd g1 g2
 have inner:∀(j:Nat) (s:Slot),(List.replicate kk Slot.no++ff env aS)[j]?=some s->(j<kk/\s=.no)\/∃a,kk<=j/\aS[j-kk]?=some a/\s=env.getD a .no:=λj s e=>by
  by_cases hj:j<kk
  ·rw [zzr (by simpa using hj),List.getElem?_replicate,if_pos hj] at e;cases e;exact .inl ⟨hj,rfl⟩
  ·rw [zzs (by simpa using hj),List.length_replicate] at e;unfold ff at e;rw [zzQ] at e;obtain⟨a,ha,rfl⟩:=zzJ.mp e
   exact .inr ⟨a,by omega,ha,rfl⟩
 have val:∀(j a:Nat),kk<=j->aS[j-kk]?=some a->(List.replicate kk none++yZ σ aS)[j]?=some ((σ[a]?).join):=λj a hj ha=>by
  rw [zzs (by simpa using hj),List.length_replicate];unfold yZ;rw [zzQ,ha]
  rfl
 refine⟨by unfold ff yZ;simp,sr.sub,sr.base,λj s e=>?_,λi j p q a e1 e2 e3 e4=>?_,sr.tab,sr.mB⟩
 ·rcases inner j s e with⟨hj,rfl⟩|⟨a,hj,ha,rfl⟩
  ·exact⟨none,by rw [zzr (by simpa using hj),List.getElem?_replicate,if_pos hj],trivial⟩
  ·refine⟨_,val j a hj ha,?_⟩;rw [zzK];cases e1:env[a]? with
   |none=>exact trivial
   |some s=>
    obtain⟨o,h1,h2⟩:=sr.slot a s e1
    rw [h1];exact h2
 ·rcases inner i _ e1 with⟨_,z⟩|⟨b,hi,hb,z1⟩
  ·cases z
  rcases inner j _ e2 with⟨_,z⟩|⟨c,hj,hc,z2⟩
  ·cases z
  rw [val i b hi hb] at e3;rw [val j c hj hc] at e4;have f1:env[b]?=some (.own p):=by
   rw [zzK] at z1;cases e:env[b]? with
   |none=>rw [e] at z1;cases z1
   |some s=>rw [e] at z1;exact congrArg some z1.symm
  have f2:env[c]?=some (.own q):=by
   rw [zzK] at z2;cases e:env[c]? with
   |none=>rw [e] at z2;cases z2
   |some s=>rw [e] at z2;exact congrArg some z2.symm
  have g1:σ[b]?=some (some (.ref a)):=Option.join_eq_some_iff.mp (zzq e3)
  have g2:σ[c]?=some (some (.ref a)):=Option.join_eq_some_iff.mp (zzq e4)
  have bc:=sr.apart b c p q a f1 f2 g1 g2
  subst bc;have:=Rr _ _ b hb hc
  omega
def jc{H0 G H:Hp}{kk:Nat}{rest ay:Sl}{σ:St}{tg:Tg}{p:PV}(cm:lR kk tg=true)(e:Tg.put tg p (List.replicate kk .no++rest)=.ok ay)(r:SR W H0 ay σ G H):SR W H0 (List.replicate kk .no++rest) σ G H:=by
 have key:∀(j:Nat) (s:Slot),(List.replicate kk Slot.no++rest)[j]?=some s->s≠.no->ay[j]?=some s:=λj s h hs=>by
  have GL:¬j<kk:=λz=>by
   rw [zzr (by simpa using z),List.getElem?_replicate,if_pos z] at h;cases h;exact hs rfl
  unfold Tg.put at e;split at e
  ·cases e;unfold lR at cm;simp! [zzN] at cm;rw [zzS (by omega)];exact h
  ·cases e;unfold lR at cm;simp! [zza,zzN] at cm;rw [zzS (by omega),zzS (by omega)];exact h
  ·cases e
 have hlen:(List.replicate kk Slot.no++rest).length=σ.length:=by
  rw [<-r.len];unfold Tg.put at e;split at e<;>first|(cases e;simp;done)|(cases e;done)
 refine⟨hlen,r.sub,r.base,λj s h=>?_,λi j p q a e1 e2 e3 e4=>r.apart i j p q a (key i _ e1 (λz=>nomatch z)) (key j _ e2 (λz=>nomatch z)) e3 e4,r.tab,r.mB⟩
 by_cases hs:s=.no
 ·subst hs;have:j<σ.length:=by rw [<-hlen];exact(zzH.mp h).1
  exact⟨σ[j],zzg this,trivial⟩
 ·exact r.slot j s (key j s h hs)
variable{Γ:Pg}{F:aU}{k:Nat}
noncomputable def tN(W:Wd)(F:aU)(e:E):TE:=λσ H Q=>∃H0 G env,SR W H0 env σ G H/\∃p,aC F e env=.ok p/\∀v G' H',aA W G H G' H'->Got W H0 G' H' e p v->Q v H'
noncomputable def Mx(W:Wd)(F:aU)(e:E):TT:=λσ H Q=>∃H0 G env,SR W H0 env σ G H/\∃b,aC F e env=.ok (.bl b)/\∀G' H',aA W G H G' H'->Q b H'
def vx{e:E}(σ:St)(H:Hp)(Q:VK)(h:tN W F e σ H Q):tE X W F e σ H Q:=by
 obtain⟨H0,G,env,sr,p,e1,q⟩:=h
 exact⟨H0,G,env,sr,by rw [e1];exact q⟩
def AQ{e:E}(σ:St)(H:Hp)(Q:Bool->Hp->Prop)(h:Mx W F e σ H Q):tT X W F e σ H Q:=by
 obtain⟨H0,G,env,sr,p,e1,q⟩:=h
 exact⟨H0,G,env,sr,by rw [e1];exact⟨p,rfl,q⟩⟩
def eV(C:dy Γ F W N sc k X){scope:Scope}{kk:Nat}{aS:List Nat}{xs:List Str}(h:ke N sc scope kk aS xs)(fp:List Addr)(s1:Shared)(H1:Hp)(A:Addr):dy Γ.Bb F W (xs++freeOf scope) (cZ scope sc) k (bQ X (xs++freeOf scope) scope (bE X.env (freeOf scope)) fp s1 H1 A):=
 ⟨rfl,e9 C.eE,λ_=>rfl,h.nd,C.K,C.mg,C.gs,C.bs,C.room,λf hf=>⟨(C.fns f hf).ex⟩,C.Mq,C.cls,C.xc,λq hq=>⟨(C.qo q hq).ex⟩,λf hf=>⟨(C.Qk f hf).1,⟨(C.Qk f hf).2.ex⟩⟩,C.any,(λz=>nomatch z),(λz=>nomatch z),(λz=>nomatch z)⟩
def F2{e:E}{p:Expr}(h:bh Γ N sc e p=true)(env:Env):∀x,foldedSetIterable p env x=pure x:=by
 intro x;cases p<;>first|rfl|(cases e<;>first|(exact aV h)|(rename_i q;cases q<;>exact aV h))
def iC{tg:Expr}{it:I}{p:Expr}(h:vY Γ N sc tg it p=true)(env:Env):∀x,foldedSetIterable p env x=pure x:=by
 intro x;cases it with
 |seq e=>exact F2 h env x
 |rD e=>cases p<;>first|rfl|(exact aV h)
 |oY a b=>cases p<;>first|rfl|(exact aV h)
 |enum e=>cases p<;>first|rfl|(exact aV h)
def CW(W:Wd)(H0 G1 H1:Hp)(rT:Sl)(f:PV->Res (Option PV))(ps:List PV)(i:Nat)(ys:List V)(σ':St)(H':Hp):Prop:=
 i<=ps.length/\∃G',aA W G1 H1 G' H'/\SR W H0 rT σ' G' H'/\∃zs,bb f (ps.take i)=.ok zs/\zs.length<=i/\ai W G' zs ys
def uf(hK:W.K=X.K){kk:Nat}{aS:List Nat}{tg:Tg}{it:I}{elt:E}{ys:List Str}(cm:lR kk tg=true)(dB:gB elt=true)(hs:aS.map (λi=>N[i]?)=ys.map some)(nd:ys.Nodup)(σ:St)(H:Hp)(Q:VK)(h:tF X W F (.comp kk aS tg it elt) σ H Q):
 AN (tI X W F it) kk (gT X.K tg) (tN W F elt) aS σ H Q:=by
 obtain⟨H0,G,env,sr,o⟩:=h
 rw [aC] at o;refine⟨H0,G,env,sr,o.bind.imp λps j3 J G1 H1 g1 gi=>?_⟩
 by_cases qp:¬ps.length<eg
 ·rw [if_neg qp] at j3;exact j3.elim
 have hl:=Decidable.not_not.mp qp
 rw [if_pos hl] at j3;generalize hf:(λx=>(tg.put x (List.replicate kk .no++ff env aS)).bind λay=>(aC F elt ay).bind λy=>Res.ok (some y))=f at j3
 cases hc:bb f ps with
 |bad=>rw [hc] at j3;exact j3.elim
 |exc c=>
  exfalso
  have:∀(l:List PV) (c:Str),bb f l≠.exc c:=λl=>by
   induction l with
   |nil=>intro c z;cases z
   |cons a l ih=>
    intro c z;simp! [bb] at z;rcases Res.dz z with z|⟨o1,_,z⟩
    ·cases e:f a with
     |ok _=>rw [e] at z;cases z
     |exc _=>rw [e] at z;cases z
     |bad=>rw [e] at z;cases z
    ·rcases Res.dz z with z|⟨o2,_,z⟩
     ·exact ih c z
     ·cases z
  exact this _ _ hc
 |ok all=>
  rw [hc] at j3;obtain⟨xs,e1,fin⟩:=j3
  cases e1;have bH:=sr.grow g1
  refine⟨ps.length,CW W H0 G1 H1 (List.replicate kk .no++ff env aS) f ps,⟨Nat.zero_le _,G1,.refl g1.sub,qZ kk bH hs nd,[],rfl,zzE _,.nil⟩,?_⟩
  rintro i made σ' H' ⟨hi,G',g',sr',zs,hz,KL,l⟩
  refine⟨by rw [l.length];exact zzV (zzU KL hi) (zzW hl (by decide)),?_⟩;obtain⟨ist,igo⟩:=gi.any i G' H' g'.g g'.h g'.sub
  by_cases hlast:i=ps.length
  ·refine .inl ⟨ist hlast,λp hp=>?_⟩
   rw [hlast,List.take_length,hc] at hz;cases hz;exact fin p made G' H' (g1.trans g') hp l
  ·have mh:i<ps.length:=by omega
   obtain⟨hgo,hyld⟩:=igo ps[i] (zzg mh)
   refine .inr ⟨hgo,mh,λx l0 hy=>?_⟩
   obtain⟨tM,g'',rx⟩:=hyld x l0 hy
   obtain⟨o1,ho,hnext⟩:=pT hc (zzg mh) hz
   rw [<-hf] at ho;obtain⟨ay,he',ho⟩:=Res.aZ ho
   obtain⟨y,hy',ho⟩:=Res.aZ ho
   cases ho;refine rX hK he' (sr'.grow g'') rx λσ2 d9=>⟨H0,tM,ay,d9,y,hy',λv G3 H3 g3 t=>?_⟩
   refine⟨mh,G3,g'.trans (g''.trans g3),(jc cm he' d9).grow g3,_,hnext,?_,?_⟩
   ·rw [zzM];show zs.length+1<=i+1;omega
   ·exact(ai.same (g''.trans g3).g zs l).append (.cons (t.rep dB) .nil)
def mL(hK:W.K=X.K){kk:Nat}{aS:List Nat}{tg:Tg}{it:I}{c elt:E}{ys:List Str}(cm:lR kk tg=true)(dB:gB elt=true)(hs:aS.map (λi=>N[i]?)=ys.map some)(nd:ys.Nodup)(σ:St)(H:Hp)(Q:VK)(h:tF X W F (.dD kk aS tg it c elt) σ H Q):
 j9 (tI X W F it) kk (gT X.K tg) (Mx W F c) (tN W F elt) aS σ H Q:=by
 obtain⟨H0,G,env,sr,o⟩:=h
 rw [aC] at o;refine⟨H0,G,env,sr,o.bind.imp λps j3 J G1 H1 g1 gi=>?_⟩
 by_cases qp:¬ps.length<eg
 ·rw [if_neg qp] at j3;exact j3.elim
 have hl:=Decidable.not_not.mp qp
 rw [if_pos hl] at j3;generalize hf:(λx=>(tg.put x (List.replicate kk .no++ff env aS)).bind λay=>(aC F c ay).bind λt=>pB t λt=>if t then(aC F elt ay).bind λy=>Res.ok (some y) else .ok none)=f at j3
 cases hc:bb f ps with
 |bad=>rw [hc] at j3;exact j3.elim
 |exc c=>
  exfalso
  have:∀(l:List PV) (c:Str),bb f l≠.exc c:=λl=>by
   induction l with
   |nil=>intro c z;cases z
   |cons a l ih=>
    intro c z;simp! [bb] at z;rcases Res.dz z with z|⟨o1,_,z⟩
    ·cases e:f a with
     |ok _=>rw [e] at z;cases z
     |exc _=>rw [e] at z;cases z
     |bad=>rw [e] at z;cases z
    ·rcases Res.dz z with z|⟨o2,_,z⟩
     ·exact ih c z
     ·cases z
  exact this _ _ hc
 |ok all=>
  rw [hc] at j3;obtain⟨xs,e1,fin⟩:=j3
  cases e1;have bH:=sr.grow g1
  refine⟨ps.length,CW W H0 G1 H1 (List.replicate kk .no++ff env aS) f ps,⟨Nat.zero_le _,G1,.refl g1.sub,qZ kk bH hs nd,[],rfl,zzE _,.nil⟩,?_⟩
  rintro i made σ' H' ⟨hi,G',g',sr',zs,hz,KL,l⟩
  refine⟨by rw [l.length];exact zzV (zzU KL hi) (zzW hl (by decide)),?_⟩;obtain⟨ist,igo⟩:=gi.any i G' H' g'.g g'.h g'.sub
  by_cases hlast:i=ps.length
  ·refine .inl ⟨ist hlast,λp hp=>?_⟩
   rw [hlast,List.take_length,hc] at hz;cases hz;exact fin p made G' H' (g1.trans g') hp l
  ·have mh:i<ps.length:=by omega
   obtain⟨hgo,hyld⟩:=igo ps[i] (zzg mh)
   refine .inr ⟨hgo,mh,λx l0 hy=>?_⟩
   obtain⟨tM,g'',rx⟩:=hyld x l0 hy
   obtain⟨o1,ho,hnext⟩:=pT hc (zzg mh) hz
   rw [<-hf] at ho;obtain⟨ay,he',ho⟩:=Res.aZ ho
   obtain⟨t,ht,ho⟩:=Res.aZ ho
   obtain⟨b,rfl⟩:∃b,t=.bl b:=by
    cases t<;>first|exact⟨_,rfl⟩|(cases ho)
   refine rX hK he' (sr'.grow g'') rx λσ2 d9=>⟨H0,tM,ay,d9,b,ht,λG3 H3 g3=>?_⟩
   have eC:(if b=true then(aC F elt ay).bind λy=>Res.ok (some y) else .ok none)=Res.ok o1:=ho
   cases b with
   |true=>
    rw [if_pos rfl] at eC;refine NL ?_;obtain⟨y,hy',eC⟩:=Res.aZ eC
    cases eC;refine⟨H0,G3,ay,d9.grow g3,y,hy',λv G4 H4 g4 t4=>?_⟩
    refine⟨mh,G4,g'.trans (g''.trans (g3.trans g4)),(jc cm he' d9).grow (g3.trans g4),_,hnext,?_,?_⟩
    ·rw [zzM];show zs.length+1<=i+1;omega
    ·exact(ai.same (g''.trans (g3.trans g4)).g zs l).append (.cons (t4.rep dB) .nil)
   |false=>
    rw [if_neg zzf] at eC;refine NK ?_;cases eC;refine⟨mh,G3,g'.trans (g''.trans g3),(jc cm he' d9).grow g3,_,hnext,?_,?_⟩
    ·rw [zzM];show zs.length+0<=i+1;omega
    ·show ai W G3 (zs++[]) made
     rw [zz6];exact ai.same (g''.trans g3).g zs l
def uz(C:dy Γ F W N sc k X)(hq:Γ.qt=false){kk:Nat}{aS:List Nat}{tg:Tg}{it:I}{elt:E}{cU fJ eQ:Expr}{scope:Scope}{pos:Pos}(h:ke N sc scope kk aS (aF cU))(cm:lR kk tg=true)(dB:gB elt=true)(hi:GI X W F cU it fJ)(qo:∀x,foldedSetIterable fJ X.env x=pure x)
 (yY:gU (aF cU++freeOf scope) (cZ scope sc) (lB scope) tg cU=true) (he:∀Y,dy Γ.Bb F W (aF cU++freeOf scope) (cZ scope sc) k Y->GE Y W F elt eQ):GF X W F (.comp kk aS tg it elt) (.ListComp eQ [⟨cU,fJ,[],0⟩] scope pos):=by
 intro aa s σ H Q I hqq;have Hk:(freeOf scope).Nodup:=(List.nodup_append.mp h.nd).2.1
 have rd:=uf (N:=N) C.K cm dB h.slots Hk σ H Q hqq
 have:=Dr (g:=gT X.K tg) (te:=tN W F elt) (xs:=aF cU) (ys:=freeOf scope) (is:=aS) (pos:=pos) (C.calm hq) (n6 C.hN C.eE I.ok h) hi
  (λfp s1 H1 A=>Af (fn:=lB scope) (X:=bQ X (aF cU++freeOf scope) scope (bE X.env (freeOf scope)) fp s1 H1 A) rfl h.nd (e9 C.eE) rfl (λ_ z=>z) yY)
  (λfp s1 H1 A=>L2.PE.imp (he _ (eV C h fp s1 H1 A)) λσ H Q z=>vx σ H Q z) qo aa s σ H Q I
 rw [h.len] at this;exact this rd
def mW(C:dy Γ F W N sc k X)(hq:Γ.qt=false){kk:Nat}{aS:List Nat}{tg:Tg}{it:I}{c elt:E}{cU fJ pc eQ:Expr}{scope:Scope}{pos:Pos}(h:ke N sc scope kk aS (aF cU))(cm:lR kk tg=true)(dB:gB elt=true)(hi:GI X W F cU it fJ)(qo:∀x,foldedSetIterable fJ X.env x=pure x)
 (yY:gU (aF cU++freeOf scope) (cZ scope sc) (lB scope) tg cU=true) (hc:∀Y,dy Γ.Bb F W (aF cU++freeOf scope) (cZ scope sc) k Y->GT Y W F c pc) (he:∀Y,dy Γ.Bb F W (aF cU++freeOf scope) (cZ scope sc) k Y->GE Y W F elt eQ):
 GF X W F (.dD kk aS tg it c elt) (.ListComp eQ [⟨cU,fJ,[pc],0⟩] scope pos):=by
 intro aa s σ H Q I hqq;have Hk:(freeOf scope).Nodup:=(List.nodup_append.mp h.nd).2.1
 have rd:=mL (N:=N) C.K cm dB h.slots Hk σ H Q hqq
 have:=xj (g:=gT X.K tg) (tt:=Mx W F c) (te:=tN W F elt) (xs:=aF cU) (ys:=freeOf scope) (is:=aS) (pos:=pos) (C.calm hq) (n6 C.hN C.eE I.ok h) hi
  (λfp s1 H1 A=>Af (fn:=lB scope) (X:=bQ X (aF cU++freeOf scope) scope (bE X.env (freeOf scope)) fp s1 H1 A) rfl h.nd (e9 C.eE) rfl (λ_ z=>z) yY)
  (λfp s1 H1 A=>L2.PT.imp (hc _ (eV C h fp s1 H1 A)) λσ H Q z=>AQ σ H Q z)
  (λfp s1 H1 A=>L2.PE.imp (he _ (eV C h fp s1 H1 A)) λσ H Q z=>vx σ H Q z) qo aa s σ H Q I
 rw [h.len] at this;exact this rd
variable{Z:List (Addr×Obj)}{G H:Hp}
mutual
theorem Rep.less(zs:∀b o,Z.lookup b=some o->G b=some (.bq o bz)):∀(p:PV) {v:V},Rep W G p v->Rep W (aL Z G) p v
 |.aM,_,h=>by simpa only [Rep] using h
 |.bl b,_,h=>by simpa only [Rep] using h
 |.int i,_,h=>by simpa only [Rep] using h
 |.str z,_,h=>by simpa only [Rep] using h
 |.tup xs,_,h=>by
  simp! [Rep] at h⊢;obtain⟨a,vs,e,q,l⟩:=h
  refine⟨a,vs,e,?_,ai.less zs xs l⟩;rcases q with q|⟨(q|⟨o,q⟩)|q,z⟩
  ·cases y:Z.lookup a with
   |none=>exact .inl (by rw [aq y];exact q)
   |some o'=>rw [zs a o' y] at q;cases q
  ·cases y:Z.lookup a with
   |none=>exact .inl (by rw [aq y];exact q)
   |some o'=>rw [zs a o' y] at q;cases q
  ·cases y:Z.lookup a with
   |none=>exact .inr ⟨.inl (.inr ⟨o,by rw [aq y];exact q⟩),z⟩
   |some o'=>rw [zs a o' y] at q;cases q
  ·exact .inr ⟨.inr q,z⟩
 |.lst xs,_,h=>by
  simp! [Rep] at h⊢;obtain⟨a,vs,e,q,l⟩:=h
  refine⟨a,vs,e,?_,ai.less zs xs l⟩;rcases q with(q|⟨o,q⟩)|q
  ·cases y:Z.lookup a with
   |none=>exact .inl (.inl (by rw [aq y];exact q))
   |some o'=>rw [zs a o' y] at q;cases q
  ·cases y:Z.lookup a with
   |none=>exact .inl (.inr ⟨o,by rw [aq y];exact q⟩)
   |some o'=>rw [zs a o' y] at q;cases q
  ·exact .inr q
 |.exc c,_,h=>by
  simp! [Rep] at h⊢;obtain⟨a,C,e,x,m,q⟩:=h
  cases y:Z.lookup a with
  |none=>exact⟨a,C,e,x,m,by rw [aq y];exact q⟩
  |some o'=>
   rw [zs a o' y] at q;unfold J9 at q;cases q
 |.bF ks vs,_,h=>by
  simp! [Rep] at h⊢;obtain⟨a,o,us,e,n,m,l⟩:=h
  refine⟨a,o,us,e,n,?_,ai.less zs vs l⟩;cases y:Z.lookup a with
  |none=>rw [aq y];exact m
  |some o'=>rw [zs a o' y] at m;cases m
theorem ai.less(zs:∀b o,Z.lookup b=some o->G b=some (.bq o bz)):∀(ps:List PV) {vs:List V},ai W G ps vs->ai W (aL Z G) ps vs
 |[],_,h=>by simpa only [ai] using h
 |p::ps,_,h=>by
  simp! [ai] at h⊢;obtain⟨v,r,e,h1,h2⟩:=h
  exact⟨v,r,e,Rep.less zs p h1,ai.less zs ps h2⟩
end
theorem iR(t:cq W G H)(sg:ax G H)(zs:∀b o,Z.lookup b=some o->G b=some (.bq o bz))(zc:∀b o,Z.lookup b=some o->∃v,o.data=.cell v):cq W (aL Z G) (aL Z H):=λP q m=>by
 obtain⟨n,ps,e,tr,al⟩:=t P q m
 refine⟨g7 n,ps,?_,tr,λpos cv y=>?_⟩
 ·cases y:Z.lookup P with
  |none=>rw [aq y];exact e
  |some o=>rw [sg _ _ (zs P o y)] at e;cases e
 ·obtain⟨c',oc,cF,t',e1,e2,e3,e4⟩:=al pos cv y
  refine⟨c',oc,cF,t',e1,?_,e3,e4⟩;cases y:Z.lookup c' with
  |none=>rw [aq y];exact e2
  |some o=>
   rw [zs c' o y] at e2;cases e2;obtain⟨v,hv⟩:=zc c' _ y
   rw [e3] at hv;cases hv
theorem aA.wz{G3 H3:Hp}(g:aA W (aL Z G) (aL Z H) G3 H3)(sg:ax G H)(zs:∀b o,Z.lookup b=some o->G b=some (.bq o bz))(zc:∀b o,Z.lookup b=some o->∃v,o.data=.cell v)(zn:∀b o,Z.lookup b=some o->H3 b=none):aA W G H (aH Z G3) (aH Z H3) where
 g:=λb u e=>by
  cases y:Z.lookup b with
  |none=>rw [ag y];exact g.g _ _ (by rw [aq y];exact e)
  |some o=>rw [aX y];rw [zs b o y] at e;exact e
 h:=λb u e=>by
  cases y:Z.lookup b with
  |none=>rw [ag y];exact g.h _ _ (by rw [aq y];exact e)
  |some o=>
   rw [sg _ _ (zs b o y)] at e;cases e;exact .inl ⟨(λ_ z=>nomatch z),aX y⟩
 sub:=λb u e=>by
  cases y:Z.lookup b with
  |none=>rw [ag y] at e⊢;exact g.sub _ _ e
  |some o=>rw [aX y] at e⊢;exact e
 own:=λa h1 h3 h2=>by
  cases y:Z.lookup a with
  |none=>rw [ag y];exact g.own a (by rw [aq y];exact h1) (by rw [aq y];exact h3) (by rw [aq y];exact h2)
  |some o=>rw [zs a o y] at h2;cases h2
 tab:=λt P q m=>by
  obtain⟨n,ps,e,tr,al⟩:=g.tab (iR t sg zs zc) P q m
  refine⟨?_,ps,?_,tr,λpos cv y=>?_⟩
  ·cases y:Z.lookup P with
   |none=>rw [ag y];exact n
   |some o=>rw [zn P o y] at e;cases e
  ·cases y:Z.lookup P with
   |none=>rw [ag y];exact e
   |some o=>rw [zn P o y] at e;cases e
  ·obtain⟨c',oc,cF,t',e1,e2,e3,e4⟩:=al pos cv y
   refine⟨c',oc,cF,t',e1,?_,e3,e4⟩;cases y:Z.lookup c' with
   |none=>rw [ag y];exact e2
   |some o=>have:=g.sub _ _ e2;rw [zn c' o y] at this;cases this
theorem rh(t:cq W G H)(sg:ax G H)(zn:∀b o,Z.lookup b=some o->H b=none):cq W (aH Z G) (aH Z H):=λP q m=>by
 obtain⟨n,ps,e,tr,al⟩:=t P q m
 refine⟨?_,ps,?_,tr,λpos cv y=>?_⟩
 ·cases y:Z.lookup P with
  |none=>rw [ag y];exact n
  |some o=>rw [zn P o y] at e;cases e
 ·cases y:Z.lookup P with
  |none=>rw [ag y];exact e
  |some o=>rw [zn P o y] at e;cases e
 ·obtain⟨c',oc,cF,t',e1,e2,e3,e4⟩:=al pos cv y
  refine⟨c',oc,cF,t',e1,?_,e3,e4⟩;cases y:Z.lookup c' with
  |none=>rw [ag y];exact e2
  |some o=>have:=sg _ _ e2;rw [zn c' o y] at this;cases this
theorem aA.lz{G' H':Hp}(g:aA W (aH Z G) (aH Z H) G' H')(sg:ax G H)(zc:∀b o,Z.lookup b=some o->∃v,o.data=.cell v)(zn:∀b o,Z.lookup b=some o->H b=none):aA W G H (aL Z G') (aL Z H') where
 g:=λb u e=>by
  cases y:Z.lookup b with
  |none=>rw [aq y];exact g.g _ _ (by rw [ag y];exact e)
  |some o=>have:=sg _ _ e;rw [zn b o y] at this;cases this
 h:=λb u e=>by
  cases y:Z.lookup b with
  |none=>rw [aq y];exact g.h _ _ (by rw [ag y];exact e)
  |some o=>rw [zn b o y] at e;cases e
 sub:=λb u e=>by
  obtain⟨q,e1⟩:=d7 e
  rw [aq q];exact g.sub _ _ e1
 own:=λa h1 h3 h2=>by
  cases y:Z.lookup a with
  |none=>rw [aq y];exact g.own a (by rw [ag y];exact h1) (by rw [ag y];exact h3) (by rw [ag y];exact h2)
  |some o=>exact d6 y
 tab:=λt=>iR (g.tab (rh t sg zn)) g.sub (λb o q=>g.g _ _ (aX q)) zc
def xt(sg:ax G H):ax (aH Z G) (aH Z H):=λb u e=>by
 cases y:Z.lookup b with
 |none=>rw [ag y] at e⊢;exact sg _ _ e
 |some o=>rw [aX y] at e⊢;exact e
theorem sO{G3 H3:Hp}(s:ax G3 H3)(zn:∀b o,Z.lookup b=some o->H3 b=none):ax G3 (aH Z G3):=λb u e=>by
 cases y:Z.lookup b with
 |none=>rw [ag y];exact e
 |some o=>have:=s _ _ e;rw [zn b o y] at this;cases this
def rk(zs:∀b o,Z.lookup b=some o->H b=some (.bq o bz)):aH Z (aL Z H)=H:=by
 funext b
 cases y:Z.lookup b with
 |none=>rw [ag y,aq y]
 |some o=>rw [aX y,zs b o y]
def fZ(zs:∀b o,Z.lookup b=some o->H b=none):aL Z (aH Z H)=H:=by
 funext b
 cases y:Z.lookup b with
 |none=>rw [aq y,ag y]
 |some o=>rw [d6 y,zs b o y]
theorem yV{P:Program}{w:World}{h:Heap}(k:dQ P w H h)(zs:∀b o,Z.lookup b=some o->H b=some (.bq o bz)):dQ P w (aL Z H) h:=λb v e=>by
 obtain⟨q,e1⟩:=d7 e
 refine(k b v e1).eR (λc y _ r=>r) (λc r=>?_) λc xs r=>?_
 ·cases y:Z.lookup c with
  |none=>rw [aq y];exact r
  |some o=>rw [zs c o y] at r;cases r
 ·cases y:Z.lookup c with
  |none=>rw [aq y];exact r
  |some o=>rw [zs c o y] at r;cases r
def wj{P:Program}{w:World}{K:zz8}{mg:Str->Option Value}{base:Heap}{A:Around}{outer:List Env}{s:Shared}(e:ij P w K mg base A outer s H)(zs:∀b o,Z.lookup b=some o->H b=some (.bq o bz)):ij P w K mg base A outer s (aL Z H):=
 ⟨e.frames,e.mod,λb o q=>⟨(e.bs b o q).1,g7 (e.bs b o q).2⟩,e.vL,e.fB,λb hb=>g7 (e.wo b hb),yV e.aN zs,e.bare⟩
def Az{ps:List Str}{scope:Scope}(h:Mt ps scope=true):kf ps (aO scope) scope:=by
 unfold Mt at h;simp! [zza,zzy,Bool.not_eq_true',zzN,zzT] at h;obtain⟨⟨⟨⟨⟨⟨h1,h2⟩,h3⟩,h4⟩,h5⟩,h6⟩,h7⟩:=h
 refine⟨h1,h2,h3,h4,h5,h6,h7,λx hx=>?_⟩
 unfold aO;rw [List.mem_reverse,zzx];exact⟨(x,.free),List.mem_filter.mpr ⟨PySem.mem_of_lookup hx,rfl⟩,rfl⟩
def nT{params:Arguments}{ps:List Str}{qual:Str}{body:Expr}{scope:Scope}{cl:List (Str×Addr)}{pm fv ct:Value}(h:ma params=some ps)(us:List Value)(hl:us.length=ps.length):bindArgs (PySem.W.kla_fn "<lambda>" qual params body scope cl pm fv ct) ⟨us,[]⟩=pure (ps.zip us):=by
 rcases tU h with⟨rfl,rfl⟩|⟨a,rfl,rfl⟩
 ·match us,hl with
  |[],_=>rfl
 ·match us,hl with
  |[u],_=>
   simp [bindArgs,seqItems?,PySem.W.kla_fn]
   rfl
def BX{params:Arguments}{ps:List Str}{env:Env}(h:ma params=some ps):defaultsOf params env=([],[]):=by
 rcases tU h with⟨rfl,rfl⟩|⟨a,rfl,rfl⟩
 ·rfl
 ·rfl
theorem fM{l:List PV}(c:Str):∀{idx:List Nat},en l idx≠.exc c
 |[]=>λz=>nomatch z
 |i::idx=>λz=>by
  unfold en at z;rcases Res.dz z with z|⟨p,_,z⟩
  ·unfold atC at z;split at z;exact Res.bf c z;cases z
  ·rcases Res.dz z with z|⟨ps,_,z⟩
   ·exact fM c z
   ·cases z
end
noncomputable def Jg(i:Nat):E:=if Ep i=1 then .tup (.cons (.cst (.str (JX i))) .nil) else .bin .mul (.tup (.cons (.cst (.str (JX i))) .nil)) (.cst (.int (Ep i)))
noncomputable def vH(i:Nat):E:=if i<10000 then .var i else Jg i
noncomputable def oe:List Nat->Es
 |[]=>.nil
 |i::r=>.cons (vH i) (oe r)
def B2(i:Nat):gB (vH i)=true:=by
 unfold vH Jg;split
 ·rfl
 ·split<;>rfl
theorem um:∀idx:List Nat,fA (oe idx)=true
 |[]=>rfl
 |i::r=>by
  unfold oe fA;rw [B2,um r]
  rfl
theorem qc{α:Type}{a:α}:∀n:Nat,(List.replicate n [a]).flatten=List.replicate n a
 |0=>rfl
 |n+1=>by rw [List.replicate_succ,List.flatten_cons,qc n];rfl
def FA{F:aU}{i:Nat}{e:Expr}{env:Sl}(h:Jf i e=true):aC F (Jg i) env=.ok (FC i):=by
 unfold Jf at h;unfold Jg FC
 by_cases h1:Ep i=1
 ·rw [if_pos h1,h1];simp! [aC,bY,Res.bind]
  rfl
 ·rw [if_neg h1] at h⊢;simp! [zza,zzN] at h;simp! [aC,bY,Res.bind,binOp];rw [if_pos ⟨by omega,by omega,by simp,by simp⟩,zz4,qc]
theorem uq{F:aU}{N:List Str}{l:List PV}:∀{as:List Expr} {idx:List Nat} {qs:List PV},gR N as idx=true->en l idx=.ok qs->bY F (oe idx) (l.map .val)=.ok qs
 |[],[],qs,_,h=>by
  cases h;unfold oe;rw [bY]
 |a::as,i::idx,qs,hb,h=>by
  unfold gR at hb;rw [zza] at hb;unfold en at h;obtain⟨p,hp,h⟩:=Res.aZ h
  obtain⟨ps,j3,h⟩:=Res.aZ h
  cases h;unfold oe;rw [bY];have e1:aC F (vH i) (l.map .val)=.ok p:=by
   unfold vH;have Ni:=hb.1
   unfold x5 at Ni;unfold atC at hp
   by_cases hi:i<10000
   ·rw [if_pos hi] at hp⊢;have:=Res.of_ok hp
    rw [aC,zzQ,this]
    rfl
   ·rw [if_neg hi] at hp Ni⊢;cases hp;exact FA Ni
  rw [e1];show(bY F (oe idx) (l.map .val)).bind _=_
  rw [uq hb.2 j3]
  rfl
 |[],_::_,_,h,_=>aV h
 |_::_,[],_,h,_=>aV h
def ko{N:List Str}{a:Expr}{i:Nat}(h:x5 N i a=true)(as:List Expr)(env:Env):starEach (a::as) env=(false,eval a env)::starEach as env:=by
 unfold x5 at h;split at h
 ·obtain⟨x,e,_⟩:=ah h
  obtain⟨p,rfl⟩:=bM e
  rfl
 ·unfold Jf at h;split at h
  ·obtain⟨_,_,_,_,rfl⟩:=rR (zzy.mp h)
   rfl
  ·rw [zza] at h;obtain⟨_,_,_,_,_,_,_,rfl⟩:=ub (zzy.mp h.2)
   rfl
theorem mC{N:List Str}{env:Env}:∀{as:List Expr} {idx:List Nat} {pos:Pos},gR N as idx=true->(backTo pos (starEach as env)).any (·.1)=false
 |[],_,_,_=>rfl
 |a::as,[],_,h=>aV h
 |a::as,i::idx,pos,h=>by
  unfold gR at h;rw [zza] at h;rw [ko h.1];show(false||(backTo pos (starEach as env)).any (·.1))=false
  rw [mC h.2]
  rfl
def Ke{X:Cx}{W:Wd}{F:aU}(hK:W.K=X.K){i:Nat}{a:Expr}(h:Jf i a=true):GE X W F (Jg i) a:=by
 unfold Jf at h;unfold Jg;split at h
 ·rename_i h1;rw [if_pos h1];obtain⟨_,_,_,_,rfl⟩:=rR (zzy.mp h)
  exact rY rfl (show 1<1000 by decide) (iF (dA oR λG=>.s) oo rfl)
 ·rename_i h1;rw [if_neg h1];rw [zza] at h;obtain⟨_,_,_,_,_,_,_,rfl⟩:=ub (zzy.mp h.2)
  exact ux (o:=.mul) hK (rY rfl (show 1<1000 by decide) (iF (dA oR λG=>.s) oo rfl)) (dA lE λG=>.i)
theorem om{X:Cx}{W:Wd}{F:aU}(hK:W.K=X.K)(hv:∀(i:Nat) (x:Str),X.N[i]?=some x->Jc X.env.scope x):∀{as:List Expr} {idx:List Nat},gR X.N as idx=true->GA X W F (oe idx) as
 |[],[],_=>oo
 |a::as,i::idx,h=>by
  unfold gR at h;rw [zza] at h;have hs:=ko h.1 as X.env
  have h1:=h.1
  unfold x5 at h1;unfold oe vH
  by_cases hi:i<10000
  ·rw [if_pos hi] at h1⊢;obtain⟨x,e,h2⟩:=ah h1
   obtain⟨p,rfl⟩:=bM e
   rw [zza,zzy] at h2;exact iF (uy h2.1 (hv i x h2.1) h2.2) (om hK hv h.2) hs
  ·rw [if_neg hi] at h1⊢;exact iF (Ke hK h1) (om hK hv h.2) hs
 |[],_::_,h=>aV h
 |_::_,[],h=>aV h
def DU{W:Wd}{H G:Hp}{as:List PV}{vs:List V}(sg:ax G H)(tb:cq W G H)(l:ai W G as vs):SR W H (as.map .val) (vs.map some) G H:=by
 refine⟨by rw [zzl,zzl];exact l.length.symm,sg,gQ.refl _,λi s e=>?_,λi j p q a e1 _ _ _=>?_,tb,tb⟩
 ·rw [zzQ] at e;obtain⟨p,hp,rfl⟩:=zzJ.mp e
  obtain⟨v,hv,rv⟩:=l.oq hp
  exact⟨some v,by rw [zzQ,hv];rfl,v,rfl,rv⟩
 ·rw [zzQ] at e1;obtain⟨p,hp,e⟩:=zzJ.mp e1
  cases e
section
variable{Γ:Pg}{X:Cx}{W:Wd}{F:aU}{N:List Str}{sc:Scope}{k:Nat}
def uP{g:Str}{idx:List Nat}{params:Arguments}{body:Expr}{scope:Scope}(h:CL g idx params body scope=true):∃ps a as np pos,ma params=some ps/\idx.head?=some ps.length/\body=.Call (.Name g np) (a::as) [] pos/\scope.names.lookup g=some .globalImplicit/\okN g=true/\gb g=false/\gR (ps++aO scope) (a::as) idx.tail=true/\kf ps (aO scope) scope:=by
 obtain⟨ps,e1,h⟩:=zQ h
 obtain⟨⟨f,args,kws,pos⟩,e2,h⟩:=zQ h
 simp! [zza,zzy,Bool.not_eq_true',zzN] at h;obtain⟨⟨⟨⟨⟨⟨⟨⟨h1,h7⟩,h8⟩,h0⟩,h2⟩,h3⟩,h4⟩,h5⟩,h6⟩:=h
 obtain⟨np,z1⟩:=bM h1
 have z7:=List.isEmpty_iff.1 h7
 try dsimp only at z1 z7
 subst z1 z7;cases args with
 |nil=>cases h8
 |cons a as=>exact⟨ps,a,as,np,pos,e1,h0,gW e2,h2,h3,h4,h5,Az h6⟩
def ua(C:dy Γ F W N sc k X){g:Str}{idx:List Nat}{cu as qs:List PV}{f:Addr}{aa:List (Addr×Obj)}{σ:St}{G H:Hp}{s:Shared}{Q:VK}{us:List Value}{vs:List V}
 (I:Inv X aa σ H s) (sg:ax G H) (tb:cq W G H) (cr:nF W G g idx cu (.ref f)) (l:ai W G as vs) (r:Vals vs us) (hn:idx.head?=some as.length) (hq:en (as++cu) idx.tail=.ok qs)
 (o:Out X W (F g qs) σ G H λp=>cL W G H p Q):wpAny (model X.prog X.w) X.A (call (.ref f) us) (EP X aa σ Q) X.xe s:=by
 obtain⟨f',c',oc,cF,t,dX,pm,params,body,scope,qual,cl,Z,ws,e,d⟩:=cr
 cases e;obtain⟨ps,a,as',np,pos,e1,e0,rfl,e2,e3,e4,e5,S⟩:=uP d.lg
 have yU:F g qs≠.bad:=λz=>by rw [z] at o;exact o
 have hlen:as.length=ps.length:=zzq (hn.symm.trans e0)
 have LR:∀b o,Z.lookup b=some o->H b=some (.bq o bz):=λb o q=>sg _ _ (d.zs b o q)
 have QO:aH Z (aL Z H)=H:=rk LR
 have xH:pK Z (aL Z H) (eA X.stack) s.heap:=⟨λb o q=>(I.aN b _ (LR b o q)).1,λb o q=>d6 q,λb o q hb=>by have:=I.j7 b hb;rw [LR b o q] at this;cases this⟩
 have rl:ai W (aL Z G) (as++cu) (vs++ws):=(ai.less d.zs as l).append d.rep
 have qo:Γ.fs.contains g=true:=by
  rcases C.any g qs yU with z|z
  ·exact z
  ·rw [e4] at z;cases z
 obtain⟨fa,fd,pn,FO,hm,hk,hb,hal⟩:=(C.fns g qo).ex
 have RR:ax (aL Z G) (aL Z H):=ny sg
 refine wpAny_call (codeAny_mono (L2.oF (E:=λCv ao H'=>∃c,F g qs=.exc c/\XE W c G H Cv ao H') (Q:=Q) (Z:=Z) (ws:=ws) (vs:=vs) (t:=λσ' H1 Q1=>H1=aL Z H/\σ'=vs.map some++ws.map some/\∀u H3,(match F g qs with
  |.ok p=>∃G3,aA W (aL Z G) (aL Z H) G3 H3/\Rep W G3 p u
  |_=>False)->Q1 u H3) S C.room (wj I.rT LR) xH ?zb (I.aN _ _ (sg _ _ d.fo)).1 (I.aN _ _ (sg _ _ d.co)).1 d.cd d.cn (nT e1 us (by rw [<-r.length,l.length,hlen])) r (by rw [l.length,hlen]) d.len d.has d.inj d.cells ?cells ?ht ?hq) λrr s' hr=>?end_)
 case zb=>
  intro b o q;cases y:X.base.get? b with
  |none=>rfl
  |some o'=>have:=(I.bs b o' y).2;rw [LR b o q] at this;cases this
 case cells=>
  intro i y c h1 h2 v h3;obtain⟨u,o',q1,q2,q3⟩:=d.vals i y c h1 h2 v h3
  exact⟨u,q1,o',xH.at_ c o' q2,q3⟩
 case hq=>
  refine⟨rfl,rfl,λu H3 h3 zn=>?_⟩
  ·cases z:F g qs with
   |ok p=>
    rw [z] at h3 o;obtain⟨G3,g3,r3⟩:=h3
    exact o u _ _ (g3.wz sg d.zs d.zc zn) (Rep.same (sO g3.sub zn) p r3)
   |exc c=>rw [z] at h3;exact h3.elim
   |bad=>exact absurd z yU
 case ht=>
  intro vb s1 σ' H1 Q1 I1 h1;obtain⟨rfl,rfl,q2⟩:=h1
  have RT:=DU RR (iR tb sg d.zs d.zc) rl
  have e6:=e5
  cases hi:idx.tail with
  |nil=>rw [hi] at e6;exact aV e6
  |cons i0 idx'=>
  rw [hi] at e6;unfold gR at e6;rw [zza] at e6;refine wpAny_Call_Name_kw (gE (X:=Bu X.prog X.w X.K X.mg X.base (ps++aO scope) qual scope f (.ref c') cl X.A X.stack s (aL Z H) _) I1 e2 hm ?_ (da e3).1);refine PySem.W.callWith_K (h₀:=X.base) I.ok.mod.KR hk (bJ (om (F:=F) (X:=Bu X.prog X.w X.K X.mg X.base (ps++aO scope) qual scope f (.ref c') cl X.A X.stack s (aL Z H) _) C.K (λi x hx=>?_) e5 pos vb s1 _ (aL Z H) (λLK H2=>∃G2,aA W (aL Z G) (aL Z H) G2 H2/\ai W G2 qs LK) I1 ⟨aL Z H,aL Z G,(as++cu).map .val,(by rw [<-List.map_append];exact RT),?_⟩) λus2 s2 ⟨LK,H2,I2,r2,G2,g2,ry⟩=>⟨I2.qx,?_⟩) (ko e6.1 _ _) (mC e6.2)
  ·rcases List.mem_append.mp (zzD hx) with z|z
   ·exact .inl (S.par x z)
   ·exact .inr (.inr (S.Kb x z))
  ·rw [uq e5 hq];exact λLK G1 H1 g1 t1=>⟨G1,g1,t1.rep (um _)⟩
  ·refine kD (X:=Bu X.prog X.w X.K X.mg X.base (ps++aO scope) qual scope f (.ref c') cl X.A X.stack s (aL Z H) _) (q:=none) (as:=qs) (G:=G2) (C.room.deeper _) FO hb (λz=>by rw [ry.length];exact hal qs z) I2 g2.sub (g2.tab (iR tb sg d.zs d.zc)) ry r2 ?_;cases z:F g qs with
   |ok p=>
    rw [z] at q2;exact λv G' H' g' rp=>q2 v H' ⟨G',g2.trans g',rp⟩
   |exc c=>
    intro pins3 G3 H3 s3 e s' I3 g3 x3;refine Lf pins3 _ H3 s3 e s' I3 (Bi.imp x3 λCv ao H' y zn=>?_);obtain⟨C4,a4,G4,y1,y2,y3,y4,y5⟩:=y
    exact⟨c,rfl,C4,a4,_,y1,y2,y3,y4,((g2.trans g3).trans y5).wz sg d.zs d.zc zn⟩
   |bad=>exact absurd z yU
 case end_=>
  rw [QO] at hr;cases rr with
  |error e=>
   have hr:dO X.prog X.w X.stack H s (λCv ao H'=>∃c,F g qs=.exc c/\XE W c G H Cv ao H') e s':=hr
   cases z:F g qs with
   |ok q=>
    obtain⟨a,C',t,vs,H',B,rfl,Fl⟩:=hr
    obtain⟨c,e1,_⟩:=Fl.ends
    rw [z] at e1;cases e1
   |exc c=>
    rw [z] at o;refine o aa G H s e s' I (.refl sg) (Bi.imp hr λC1 a H' y=>?_);obtain⟨c',e1,y⟩:=y
    rw [z] at e1;cases e1;exact y
   |bad=>exact absurd z yU
  |ok fl=>
   cases fl with
   |ret u=>exact I.after hr
   |next=>exact zzk hr
   |brk=>exact zzk hr
   |cont=>exact zzk hr
def yG(C:dy Γ F W N sc k X){i:Nat}{x:Str}{e:E}{es:Es}{p:Expr}{ps:List Expr}{np pos:Pos}(h:(N[i]?==some x&&ei sc x&&okN x)=true)(yR:fA (.cons e es)=true)(ha:GA X W F (.cons e es) (p::ps))
 (dh:starEach (p::ps) X.env=(false,eval p X.env)::starEach ps X.env) (hpl:(backTo pos (starEach ps X.env)).any (·.1)=false):GE X W F (.ip i (.cons e es)) (.Call (.Name x np) (p::ps) [] pos):=by
 simp! [zza,zzy] at h;obtain⟨h1,h2,h3⟩:=da h.2
 intro aa s σ H Q I hq;obtain⟨H0,G,env,sr,o⟩:=hq
 rw [aC] at o;cases e1:env[i]? with
 |none=>rw [e1] at o;exact o.elim
 |some sl=>
  cases sl with
  |no=>rw [e1] at o;exact o.elim
  |val _=>rw [e1] at o;exact o.elim
  |own _=>rw [e1] at o;exact o.elim
  |Bs _=>rw [e1] at o;exact o.elim
  |fn g idx cu=>
   rw [e1] at o;obtain⟨o2,hs,v,rfl,cr⟩:=sr.slot i _ e1
   have MZ:=cr
   obtain⟨f,c',oc,cF,t,dX,pm,params,body,scope,qual,cl,Z,ws,e2,d⟩:=MZ
   subst e2;refine wpAny_Call_Name_kw (wpAny_mono (dm (i:=i) (by rw [C.hN];exact h.1.1) (lW C h.1.2) h1 h2 aa s σ H (λv' H1=>v'=.ref f/\H1=H) I ⟨_,hs,rfl,rfl⟩) (λu s1 hu=>?_) λ_ _ y=>y)
   obtain⟨v',H1,I1,ru,rfl,rfl⟩:=hu
   cases ru;refine PySem.W.callWith_F ⟨_,_,_,_,(I1.aN _ _ (sr.sub _ _ d.fo)).1⟩ (bJ (ha pos aa s1 σ H1 (λvs H2=>∃G2 as qs,ax G2 H2/\cq W G2 H2/\ai W G2 as vs/\nF W G2 g idx cu (.ref f)/\G2 f=some (.bq (PySem.W.kla_obj "<lambda>" qual params body scope cl pm c' dX) bz)/\idx.head?=some as.length/\en (as++cu) idx.tail=.ok qs/\Out X W (F g qs) σ G2 H2 λp=>cL W G2 H2 p Q) I1 ?_) λus s2 ⟨vs,H2,I2,r,q⟩=>?_) dh hpl
   ·refine args sr o λas vs G1 H2 g1 t1 bH o1=>?_
    split at o1
    ·rename_i hn;cases hq:en (as++cu) idx.tail with
     |ok qs=>
      rw [hq] at o1;have qM:Out X W (F g qs) σ G1 H2 _:=o1
      exact⟨G1,as,qs,bH.sub,bH.tab,t1.rep yR,cr.same g1.g,g1.g _ _ d.fo,hn,hq,qM.imp λp hp v G' H' g' rp=>hp v G' H' (g1.trans g') (.of rp)⟩
     |exc c=>exact absurd hq (fM c)
     |bad=>rw [hq] at o1;exact o1.elim
    ·exact o1.elim
   ·obtain⟨G2,as,qs,sg,tb,l,cr2,fo2,hn,hqs,o2⟩:=q
    exact⟨⟨_,_,_,_,(I2.aN _ _ (sg _ _ fo2)).1⟩,ua C I2 sg tb cr2 l r hn hqs o2⟩
def wx(C:dy Γ F W N sc k X){i:Nat}{x:Str}{np pos:Pos}(h:(N[i]?==some x&&ei sc x&&okN x)=true):GE X W F (.ip i .nil) (.Call (.Name x np) [] [] pos):=by
 simp! [zza,zzy] at h;obtain⟨h1,h2,h3⟩:=da h.2
 intro aa s σ H Q I hq;obtain⟨H0,G,env,sr,o⟩:=hq
 rw [aC] at o;cases e1:env[i]? with
 |none=>rw [e1] at o;exact o.elim
 |some sl=>
  cases sl with
  |no=>rw [e1] at o;exact o.elim
  |val _=>rw [e1] at o;exact o.elim
  |own _=>rw [e1] at o;exact o.elim
  |Bs _=>rw [e1] at o;exact o.elim
  |fn g idx cu=>
   rw [e1] at o;obtain⟨o2,hs,v,rfl,cr⟩:=sr.slot i _ e1
   have MZ:=cr
   obtain⟨f,c',oc,cF,t,dX,pm,params,body,scope,qual,cl,Z,ws,e2,d⟩:=MZ
   subst e2;refine wpAny_Call_Name_kw (wpAny_mono (dm (i:=i) (by rw [C.hN];exact h.1.1) (lW C h.1.2) h1 h2 aa s σ H (λv' H1=>v'=.ref f/\H1=H) I ⟨_,hs,rfl,rfl⟩) (λu s1 hu=>?_) λ_ _ y=>y)
   obtain⟨v',H1,I1,ru,rfl,rfl⟩:=hu
   cases ru;refine PySem.W.callWith_F0 ⟨_,_,_,_,(I1.aN _ _ (sr.sub _ _ d.fo)).1⟩ ?_;rw [bY] at o;have o:Out X W (if idx.head?=some 0 then(en ([]++cu) idx.tail).bind λqs=>F g qs else .bad) σ G H1 _:=o
   split at o
   ·rename_i hn;cases hq:en ([]++cu) idx.tail with
    |ok qs=>
     rw [hq] at o;have o':Out X W (F g qs) σ G H1 _:=o
     exact ua C I1 sr.sub sr.tab cr (show ai W G [] [] from .nil) .nil hn hq (o'.imp λp hp v G' H' g' rp=>hp v G' H' g' (.of rp))
    |exc c=>exact absurd hq (fM c)
    |bad=>rw [hq] at o;exact o.elim
   ·exact o.elim
def jX(X:Cx)(W:Wd)(params:Arguments)(body:Expr)(scope:Scope)(cl:List (Str×Addr))(G1 H1 G2 H2:Hp)(f:Addr):Prop:=aA W G1 H1 G2 H2/\∃c' oc cF t dX pm,G2 f=some (.bq (PySem.W.kla_obj "<lambda>" (X.env.qual++"<lambda>") params body scope cl pm c' dX) bz)/\G2 c'=some (.bq oc bz)/\oc.data=.fields cF/\cF[1]?=some (.str (X.env.qual++"<lambda>") t)
def sJ(C:dy Γ F W N sc k X)(hl:Γ.hl=true){params:Arguments}{ps:List Str}{body:Expr}{scope:Scope}{pos:Pos}{cl:List (Str×Addr)}(hp:ma params=some ps)(A6:closureFor scope X.env=pure cl):
 PE X (.Lambda params body scope pos) (λσ H Q=>∃G,ax G H/\cq W G H/\∀f G2 H2,jX X W params body scope cl G H G2 H2 f->Q (.ref f) H2):=by
 intro aa s σ H Q I h;obtain⟨G,sg,tb,q⟩:=h
 obtain⟨c,P,uC,CH,hts,huq⟩:=C.tb hl
 obtain⟨nG,lU,hP,tr,al⟩:=tb P _ hts
 refine L2.zr (R:=λc' oc=>G c'=some (.bq oc bz)) I hP tr uC CH (C.bm hl) A6 (BX hp) (λcv e=>?_) λf c' oc cF t dX qQ h' tk hf hc A5 Rf Q7 hd hv Sd QK more I'=>?_
 ·obtain⟨c',oc,cF,t,e1,e2,e3,e4⟩:=al pos cv e
  exact⟨c',oc,cF,t,e1,sg _ _ e2,e2,e3,e4⟩
 ·have QV:G f=none:=sg.free hf
  have QU:G c'=none\/G c'=some (.bq oc bz):=by
   rcases hc with z|z
   ·exact .inl (sg.free z)
   ·exact .inr z.2
  have fo:∀fo,fX H P qQ c' oc f fo f=some (.bq fo bz):=λfo=>by unfold fX;rw [ak]
  have sG:∀fo,ax G (upd (upd G c' (.bq oc bz)) f (.bq fo bz)):=λfo b u e=>by
   have Cn:b≠f:=λz=>by rw [z,QV] at e;cases e
   rw [af Cn]
   by_cases hb:b=c'
   ·subst hb;rw [ak];rcases QU with z|z
    ·rw [z] at e;cases e
    ·rw [z] at e;exact e
   ·rw [af hb];exact e
  have Ob:∀fo a,H a≠none->(∀vs,H a≠some (.tup vs))->G a=none->(upd (upd G c' (.bq oc bz)) f (.bq fo bz)) a=none:=λfo a h1 _ h2=>by
   have Q2:a≠f:=λz=>h1 (by rw [z];exact hf)
   rw [af Q2]
   by_cases ha:a=c'
   ·subst ha;rcases hc with z|z
    ·exact absurd z h1
    ·rw [z.2] at h2;cases h2
   ·rw [af ha];exact h2
  refine⟨.ref f,_,I',rfl,q f (upd (upd G c' (.bq oc bz)) f (.bq _ bz)) _ ⟨⟨sG _,λb u e=>?_,λb u e=>?_,Ob _,λ_ P' q' m=>?_⟩,c',oc,cF,t,dX,(X.mg "__name__").getD .none,ak,by rw [af A5,ak],hd,hv⟩⟩
  ·have Cn:b≠f:=λz=>by rw [z,hf] at e;cases e
   by_cases Jl:b=P
   ·subst Jl;rw [hP] at e;cases e;obtain⟨m,rfl⟩:=more
    exact .inr ⟨lU,m,rfl,by unfold fX;rw [af (Ne.symm Rf),af (Ne.symm Q7),ak]⟩
   ·have e2:fX H P qQ c' oc f (PySem.W.kla_obj "<lambda>" (X.env.qual++"<lambda>") params body scope cl ((X.mg "__name__").getD .none) c' dX) b=H b:=by
     unfold fX;rw [af Cn]
     by_cases hb:b=c'
     ·subst hb;rw [ak];rcases hc with z|z
      ·rw [z] at e;cases e
      ·rw [z.1]
     ·rw [af hb,af Jl]
    rw [e2];exact gQ.refl H b u e
  ·by_cases Cn:b=f
   ·subst Cn;rw [ak] at e;rw [fo];exact e
   ·rw [af Cn] at e;unfold fX;rw [af Cn]
    by_cases hb:b=c'
    ·subst hb;rw [ak] at e⊢;exact e
    ·rw [af hb] at e⊢;have Jl:b≠P:=λz=>by rw [z,nG] at e;cases e
     rw [af Jl];exact sg _ _ e
  ·obtain⟨n1,qs,A8,tr1,al1⟩:=tb P' q' m
   have Np:P'≠f:=λz=>by rw [z,hf] at A8;cases A8
   have fI:P'≠c':=λz=>by
    rcases hc with y|y
    ·rw [z,y] at A8;cases A8
    ·rw [z,y.1] at A8;cases A8
   refine⟨by rw [af Np,af fI];exact n1,?_⟩
   by_cases hPP:P'=P
   ·subst hPP;rw [hP] at A8;cases A8;refine⟨qQ,by unfold fX;rw [af Np,af fI,ak],Sd,λpos' cv y=>?_⟩
    rcases QK pos' cv y with y|y
    ·obtain⟨c2,oc2,cvs2,t2,e1,e2,e3,e4⟩:=al1 pos' cv y
     exact⟨c2,oc2,cvs2,t2,e1,sG _ _ _ e2,e3,e4⟩
    ·exact⟨c',oc,cF,t,y,by rw [af A5,ak],hd,by rw [huq q' m];exact hv⟩
   ·refine⟨qs,by unfold fX;rw [af Np,af fI,af hPP];exact A8,tr1,λpos' cv y=>?_⟩
    obtain⟨c2,oc2,cvs2,t2,e1,e2,e3,e4⟩:=al1 pos' cv y
    exact⟨c2,oc2,cvs2,t2,e1,sG _ _ _ e2,e3,e4⟩
structure xW(N:List Str)(sc:Scope)(g:Str)(idx aS:List Nat)(params:Arguments)(body:Expr)(scope:Scope):Prop where
 lb:CL g idx params body scope=true
 cn:aS.map (λi=>N[i]?)=(aO scope).map some
 cc:∀y∈aO scope,sc.names.lookup y=some .cell
noncomputable def Ly(X:Cx)(W:Wd)(F:aU)(N:List Str)(sc:Scope)(g:Str)(idx aS:List Nat)(es:Es):TA:=λσ H Q=>∃H0 G env,SR W H0 env σ G H/\Out X W (bY F es env) σ G H λas=>∀vs G1 H1,aA W G H G1 H1->ai W G1 as vs->∀params body scope f G2 H2,xW N sc g idx aS params body scope->jX X W params body scope (bE X.env (aO scope)) G1 H1 G2 H2 f->Q (vs++[.ref f]) H2
def zq(C:dy Γ F W N sc k X)(ok:X.Ok){g:Str}{idx aS:List Nat}{params:Arguments}{body:Expr}{scope:Scope}(a:xW N sc g idx aS params body scope):closureFor scope X.env=pure (bE X.env (aO scope)):=by
 refine fg λy hy hf=>ok.has y.1 (.inl ?_)
 show X.env.scope.names.lookup y.1=_
 rw [C.eE];refine a.cc y.1 ?_;unfold aO;rw [List.mem_reverse,zzx];exact⟨y,List.mem_filter.mpr ⟨hy,by rw [hf];rfl⟩,rfl⟩
def Dm(C:dy Γ F W N sc k X)(hl:Γ.hl=true){g:Str}{idx aS:List Nat}{params:Arguments}{body:Expr}{scope:Scope}{pos:Pos}(a:xW N sc g idx aS params body scope):PA X [.Lambda params body scope pos] (Ly X W F N sc g idx aS .nil):=by
 obtain⟨ps,_,_,_,_,e1,_⟩:=uP a.lb
 intro pos' aa s σ H Q I h;refine cH (sJ C hl e1 (zq C I.ok a)) fq rfl pos' aa s σ H Q I ?_;obtain⟨H0,G,env,sr,o⟩:=h
 rw [bY] at o;refine⟨G,sr.sub,sr.tab,λf G2 H2 m=>?_⟩
 exact o [] G H (.refl sr.sub) .nil params body scope f G2 H2 a m
theorem zY{g:Str}{idx aS:List Nat}{e:E}{es:Es}{p:Expr}{ps:List Expr}(yR:fA (.cons e es)=true)(he:GE X W F e p)(hs:PA X ps (Ly X W F N sc g idx aS es))(dh:starEach (p::ps) X.env=(false,eval p X.env)::starEach ps X.env):PA X (p::ps) (Ly X W F N sc g idx aS (.cons e es)):=
 L2.PA.imp (cH he hs dh) λσ H Q h=>by
  obtain⟨H0,G,env,sr,o⟩:=h
  rw [bY] at o;unfold fA at yR;rw [zza] at yR;refine one sr o λq v G1 H1 g1 t1 bH o1=>⟨H0,G1,env,bH,o1.bind.imp λas ha vs G2 H2 g2 l=>?_⟩
  intro params body scope f G3 H3 la lm;have:=ha (v::vs) G2 H2 (g1.trans g2) (.cons (Rep.same g2.g q (t1.rep yR.1)) l) params body scope f G3 H3 la lm
  simpa using this
def lookup_all{Z:List (Addr×Obj)}{h:Heap}(ha:∀q∈Z,h.get? q.1=some q.2):∀{c:Addr} {o:Obj},(c,o)∈Z->Z.lookup c=some o:=by
 induction Z with
 |nil=>intro c o m;cases m
 |cons q Z ih=>
  intro c o m;obtain⟨c1,o1⟩:=q
  rw [zz5];cases e:c==c1 with
  |true=>
   have e2:=zzy.mp e
   subst e2;have h1:=ha (c,o1) zzP
   have h2:h.get? c=some o:=ha (c,o) m
   rw [h1] at h2;exact h2
  |false=>
   rcases zzm.mp m with z|z
   ·cases z;simp at e
   ·exact ih (λq hq=>ha q (zzI _ hq)) z
theorem pR{H0 G H:Hp}{env:Sl}{σ:St}(sr:SR W H0 env σ G H):∀{aS:List Nat} {cs:List PV},iZ env aS=.ok cs->∃ws:List V,ai W G cs ws/\ws.length=aS.length/\∀(j:Nat) (i:Nat),aS[j]?=some i->∃v,ws[j]?=some v/\σ[i]?=some (some v)
 |[],cs,h=>by
  unfold iZ at h;cases h;exact⟨[],.nil,rfl,λj i e=>by simp at e⟩
 |i::aS,cs,h=>by
  unfold iZ at h;obtain⟨p,hp,h⟩:=Res.aZ h
  obtain⟨ps,j3,h⟩:=Res.aZ h
  cases h;have hs:env[i]?=some (.val p):=by
   cases e:env[i]? with
   |none=>rw [e] at hp;cases hp
   |some s=>rw [e] at hp;cases s<;>cases hp;rfl
  obtain⟨o,h1,v,rfl,rv⟩:=sr.slot i _ hs
  obtain⟨ws,l1,l2,l3⟩:=pR sr j3
  refine⟨v::ws,.cons rv l1,by simp [l2],λj k e=>?_⟩
  cases j with
  |zero=>simp at e;subst e;exact⟨v,rfl,h1⟩
  |succ j=>simpa using l3 j k (by simpa using e)
theorem kE{env:Sl}(c:Str):∀{aS:List Nat},iZ env aS≠.exc c
 |[]=>λz=>nomatch z
 |i::aS=>λz=>by
  unfold iZ at z;rcases Res.dz z with z|⟨p,_,z⟩
  ·cases e:env[i]? with
   |none=>rw [e] at z;cases z
   |some s=>rw [e] at z;cases s<;>cases z
  ·rcases Res.dz z with z|⟨ps,_,z⟩
   ·exact kE c z
   ·cases z
def vM(C:dy Γ F W N sc k X)(hl:Γ.hl=true){q:Hs}{aS:List Nat}{fa:Addr}{fd:FuncData}{pn:List Str}(FO:fL X.prog X.w X.K X.mg X.base (dO X.prog X.w) k fa fd pn (xP W F q.f pn.length (some (q.g,q.idx))))(hb:Binds X.K fd pn []){aa:List (Addr×Obj)}{σ:St}{H0 G H:Hp}{env:Sl}{s:Shared}{Q:VK}{us:List Value}{vs:List V}{as cs:List PV}{params:Arguments}{body:Expr}{scope:Scope}{f c':Addr}{oc:Obj}{cF:Array Value}{t:Tok}{dX pm:Value}
 (I:Inv X aa σ H s) (sr:SR W H0 env σ G H) (a:xW N sc q.g q.idx aS params body scope) (Nk:iZ env aS=.ok cs) (l:ai W G as vs) (fo:G f=some (.bq (PySem.W.kla_obj "<lambda>" (X.env.qual++"<lambda>") params body scope (bE X.env (aO scope)) pm c' dX) bz)) (co:G c'=some (.bq oc bz)) (cd:oc.data=.fields cF) (cn:cF[1]?=some (.str (X.env.qual++"<lambda>") t))
 (hlen:(vs++[V.ref f]).length=pn.length) (r:Vals (vs++[.ref f]) us) (o:Out X W (F q.f (as++cs)) σ G H λp=>cL W G H p Q):wpAny (model X.prog X.w) X.A (call (.ref fa) us) (EP X aa σ Q) X.xe s:=by
 have yU:F q.f (as++cs)≠.bad:=λz=>by rw [z] at o;exact o
 obtain⟨ws,rws,lws,pws⟩:=pR sr Nk
 have bS:∀y∈aO scope,∃c,X.env.cells.lookup y=some c:=λy hy=>I.ok.has y (.inl (by show X.env.scope.names.lookup y=_;rw [C.eE];exact a.cc y hy))
 have call:((aO scope).all λy=>(X.env.cells.lookup y).isSome)=true:=zzT.mpr λy hy=>by obtain⟨c,e⟩:=bS y hy;rw [e];rfl
 let Z:List (Addr×Obj):=(aO scope).filterMap λy=>(X.env.cells.lookup y).bind λc=>(s.heap.get? c).map λo=>(c,o)
 have LP:∀q∈Z,∃y,y∈aO scope/\X.env.cells.lookup y=some q.1/\s.heap.get? q.1=some q.2:=λq hq=>by
  obtain⟨y,hy,e⟩:=zz1.mp hq
  obtain⟨c,hc,e⟩:=zzZ.mp e
  obtain⟨o,ho,rfl⟩:=zzJ.mp e
  exact⟨y,hy,hc,ho⟩
 have ON:∀q∈Z,s.heap.get? q.1=some q.2:=λq hq=>let⟨_,_,_,h⟩:=LP q hq;h
 have QD:∀y c o,y∈aO scope->X.env.cells.lookup y=some c->s.heap.get? c=some o->Z.lookup c=some o:=λy c o hy hc ho=>lookup_all ON (zz1.mpr ⟨y,hy,by rw [hc];show(s.heap.get? c).map _=_;rw [ho];rfl⟩)
 have LO:∀b o,Z.lookup b=some o->∃y,y∈aO scope/\X.env.cells.lookup y=some b/\s.heap.get? b=some o:=λb o e=>by
  obtain⟨y,h1,h2,h3⟩:=LP (b,o) (PySem.W.mem_of_lookupK e)
  exact⟨y,h1,h2,h3⟩
 have zc:∀b o,Z.lookup b=some o->∃v,o.data=.cell v:=λb o e=>by
  obtain⟨y,_,h2,h3⟩:=LO b o e
  obtain⟨v,o',h4,h5⟩:=I.cell y b h2
  rw [h3] at h4;cases h4;exact⟨v,h5⟩
 have LQ:∀b o,Z.lookup b=some o->H b=none:=λb o e=>by obtain⟨y,_,h2,_⟩:=LO b o e;exact I.fT y b h2
 have QE:∀b o,Z.lookup b=some o->G b=none:=λb o e=>sr.sub.free (LQ b o e)
 have qK:∀b u,G b=some u->Z.lookup b=none:=λb u e=>by
  cases y:Z.lookup b with
  |none=>rfl
  |some o=>rw [QE b o y] at e;cases e
 have JW:∀x c,(bE X.env (aO scope)).lookup x=some c->X.env.cells.lookup x=some c:=ez call
 have MW:∀x c,(bE X.env (aO scope)).lookup x=some c->x∈aO scope:=λx c e=>by
  have:=PySem.mem_of_lookup e
  unfold bE at this;obtain⟨y,hy,e2⟩:=zzx.mp this
  cases e2;exact hy
 have QC:∀b o,Z.lookup b=some o->X.s₀.heap.objs.size<=b:=λb o e=>by
  obtain⟨y,_,h2,_⟩:=LO b o e
  exact I.ok.Fq y b (C.fl hl y) h2
 have xH:pK Z H (eA X.stack) s.heap:=⟨λb o e=>let⟨_,_,_,h⟩:=LO b o e;h,LQ,λb o e Kt=>by
  obtain⟨y,_,h2,h3⟩:=LO b o e
  rcases zzm.mp (I.gj b Kt) with z|z
  ·exact I.A2 y b h2 z
  ·obtain⟨_,o',h4,_⟩:=I.ok.fB.mem z
   exact absurd (zzO h4) (Nat.not_lt.mpr (QC b o e))⟩
 have zb:∀b o,Z.lookup b=some o->X.base.get? b=none:=λb o e=>by
  cases y:X.base.get? b with
  |none=>rfl
  |some o'=>exact absurd (zzO (I.ok.bs b o' y).1) (Nat.not_lt.mpr (QC b o e))
 have Ro:(aO scope).length=aS.length:=by have:=congrArg List.length a.cn;simpa using this.symm
 have cr:nF W (aH Z G) q.g q.idx cs (.ref f):=by
  refine⟨f,c',oc,cF,t,dX,pm,params,body,scope,_,bE X.env (aO scope),Z,ws,rfl,⟨a.lb,by rw [ag (qK f _ fo)];exact fo,by rw [ag (qK c' _ co)];exact co,cd,cn,qK f _ fo,qK c' _ co,λx y c h1 h2=>I.ok.inj x y c (JW x c h1) (JW y c h2),λy hy=>ir hy,λx c h=>?_,λb o e=>aX e,zc,λi y c h1 h2 v h3=>?_,by rw [lws,Ro],by rw [fZ QE];exact rws⟩⟩
  ·obtain⟨v,o,h1,h2⟩:=I.cell x c (JW x c h)
   exact⟨o,v,QD x c o (MW x c h) (JW x c h) h1,h2⟩
  ·have hi:i<aS.length:=by rw [<-lws];exact(zzH.mp h3).1
   obtain⟨v',q1,q2⟩:=pws i aS[i] (zzg hi)
   rw [h3] at q1;cases q1;have QX:X.N[aS[i]]?=some y:=by
    rw [C.hN];have:=congrArg (λl=>l[i]?) a.cn
    simp! [zzQ,h1,zzg hi,Option.map_some] at this;exact zzq this
   obtain⟨m,_,hloc⟩:=I.loc
   obtain⟨u,ru,lk⟩:=hloc aS[i] y v QX q2 (.inr (.inl (by rw [C.eE];exact a.cc y (zzD h1))))
   have PL:=JW y c h2
   rcases lk with⟨z,_⟩|⟨_,c2,hc2,o,ho,hd⟩
   ·have z2:X.env.scope.names.lookup y=some .local:=z
    rw [C.eE,a.cc y (zzD h1)] at z2;cases z2
   ·rw [PL] at hc2;cases hc2;exact⟨u,o,ru,QD y c o (zzD h1) PL ho,hd⟩
 have PZ:us.length=pn.length:=by rw [<-r.length];exact hlen
 have j1:=hb s us I.qx (by rw [zz6];exact PZ)
 rw [zz6] at j1;have RN:ai W (aH Z G) as vs:=ai.same (λb u e=>by rw [ag (qK b u e)];exact e) as l
 have Sj:∀G' H',aA W (aH Z G) (aH Z H) G' H'->∀b o,Z.lookup b=some o->G' b=some (.bq o bz):=λG' H' g b o e=>g.g _ _ (aX e)
 refine wpAny_call (codeAny_mono (FO.run X.A X.stack s (aH Z H) ⟨us,[]⟩ us _ (λv H'=>Q v (aL Z H')) (λCv ao H'=>∃c,F q.f (as++cs)=.exc c/\XE W c G H Cv ao (aL Z H')) C.rm (I.rT.aH xH zb) j1 r ⟨hlen,aH Z G,as++cs,xt sr.sub,rh sr.tab sr.sub LQ,⟨as,cs,vs,.ref f,rfl,rfl,RN,cr⟩,?_⟩) λrr s' hr=>?_)
 ·cases z:F q.f (as++cs) with
  |ok p=>
   rw [z] at o;exact λv G' H' g' rp=>o v _ _ (g'.lz sr.sub zc LQ) (Rep.less (Sj G' H' g') p rp)
  |exc c=>
   intro Cv ao H' y;obtain⟨C4,a4,G4,y1,y2,y3,y4,y5⟩:=y
   exact⟨c,rfl,C4,a4,_,y1,y2,y3,y4,y5.lz sr.sub zc LQ⟩
  |bad=>exact absurd z yU
 ·cases rr with
  |error e=>
   have hr:dO X.prog X.w X.stack H s (λCv ao H'=>∃c,F q.f (as++cs)=.exc c/\XE W c G H Cv ao H') e s':=dO.less xH hr
   cases z:F q.f (as++cs) with
   |ok q=>
    obtain⟨a,C',t,vs,H',B,rfl,Fl⟩:=hr
    obtain⟨c,e1,_⟩:=Fl.ends
    rw [z] at e1;cases e1
   |exc c=>
    rw [z] at o;refine o aa G H s e s' I (.refl sr.sub) (Bi.imp hr λC1 a H' y=>?_);obtain⟨c',e1,y⟩:=y
    rw [z] at e1;cases e1;exact y
   |bad=>exact absurd z yU
  |ok fl=>
   cases fl with
   |ret u=>exact I.after (CE.less xH hr)
   |next=>exact zzk hr
   |brk=>exact zzk hr
   |cont=>exact zzk hr
def qj(C:dy Γ F W N sc k X)(hl:Γ.hl=true){q:Hs}(hq:q∈Γ.hs){aS:List Nat}{es:Es}{p:Expr}{ps:List Expr}{np pos:Pos}(hg:ic sc q.h=true)(ho:okN q.h=true)(hn:q.np=fY es+1)(ha:PA X (p::ps) (Ly X W F N sc q.g q.idx aS es))
 (dh:starEach (p::ps) X.env=(false,eval p X.env)::starEach ps X.env) (hpl:(backTo pos (starEach ps X.env)).any (·.1)=false):GE X W F (.mJ q.f es q.g q.idx aS) (.Call (.Name q.h np) (p::ps) [] pos):=by
 intro aa s σ H Q I h;obtain⟨H0,G,env,sr,o⟩:=h
 rw [aC] at o;obtain⟨fa,fd,pn,FO,hm,hk,hb,hpn⟩:=(C.qo q hq).ex
 refine wpAny_Call_Name_kw (gE I (fx C hg) hm ?_ (da ho).1);refine PySem.W.callWith_K (h₀:=X.base) I.ok.mod.KR hk (bJ (ha pos aa s σ H (λvs H2=>∃G2 as cs vB params body scope f c' oc cF t dX pm,vs=vB++[.ref f]/\as.length=fY es/\SR W H0 env σ G2 H2/\xW N sc q.g q.idx aS params body scope/\iZ env aS=.ok cs/\ai W G2 as vB/\G2 f=some (.bq (PySem.W.kla_obj "<lambda>" (X.env.qual++"<lambda>") params body scope (bE X.env (aO scope)) pm c' dX) bz)/\G2 c'=some (.bq oc bz)/\oc.data=.fields cF/\cF[1]?=some (.str (X.env.qual++"<lambda>") t)/\Out X W (F q.f (as++cs)) σ G2 H2 λp=>cL W G2 H2 p Q) I ?_) λus s1 ⟨vs,H1,I1,r,y⟩=>⟨I1.qx,?_⟩) dh hpl
 ·refine⟨H0,G,env,sr,?_⟩;cases e1:bY F es env with
  |bad=>rw [e1] at o;exact o
  |exc c=>rw [e1] at o;exact o
  |ok as=>
   rw [e1] at o;have o:Out X W ((iZ env aS).bind λcs=>F q.f (as++cs)) σ G H _:=o
   cases e2:iZ env aS with
   |bad=>rw [e2] at o;exact o.elim
   |exc c=>exact absurd e2 (kE c)
   |ok cs=>
    rw [e2] at o;have o:Out X W (F q.f (as++cs)) σ G H _:=o
    intro vs G1 H1 g1 l params body scope f G2 H2 la lm;obtain⟨g2,c',oc,cF,t,dX,pm,m1,m2,m3,m4⟩:=lm
    exact⟨G2,as,cs,vs,params,body,scope,f,c',oc,cF,t,dX,pm,rfl,iB e1,(sr.grow g1).grow g2,la,rfl,ai.same g2.g as l,m1,m2,m3,m4,(o.grow (g1.trans g2)).imp λp hp v G' H' g' rp=>hp v G' H' ((g1.trans g2).trans g') (.of rp)⟩
 ·obtain⟨G2,as,cs,vB,params,body,scope,f,c',oc,cF,t,dX,pm,rfl,hal,d9,la,hcs,l,m1,m2,m3,m4,o2⟩:=y
  exact vM C hl FO hb I1 d9 la hcs l m1 m2 m3 m4 (by rw [zzM,l.length,hal,hpn,hn];rfl) r o2
def xr{G:Hp}{p:PV}{v:V}(h:Rep W G p v):∀{ps:List PV} {vs:List V},ai W G ps vs->ai W G (ps++[p]) (vs++[v]):=by
 intro ps
 induction ps with
 |nil=>
  intro vs t;have:=t.length
  cases vs with
  |nil=>exact .cons h .nil
  |cons _ _=>cases this
 |cons q ps ih=>
  intro vs t;obtain⟨u,r,rfl,h1,t⟩:=t.bU
  exact .cons h1 (ih t)
def qU{G:Hp}:∀{ps:List PV} {vs:List V},ai W G ps vs->ai W G ps.reverse vs.reverse:=by
 intro ps
 induction ps with
 |nil=>
  intro vs t;have:=t.length
  cases vs with
  |nil=>exact .nil
  |cons _ _=>cases this
 |cons q ps ih=>
  intro vs t;obtain⟨u,r,rfl,h1,t⟩:=t.bU
  rw [List.reverse_cons,List.reverse_cons];exact xr h1 (ih t)
def Gb(C:dy Γ F W N sc k X){a:E}{pa st:Expr}{p2 pos:Pos}(ha:GE X W F a pa)(hs:GE X W F (.neg (.cst (.int 1))) st):GE X W F (.rev a) (.Subscript pa (.Slice none none (some st) p2) pos):=
 (HS (AZ.or (AZ.or Im Ik) Il) ha hs).imp λσ H Q h=>by
  obtain⟨H0,G,env,sr,o⟩:=h
  rw [aC] at o;refine one sr o λp v G1 H1 g t bH o1=>⟨H0,G1,env,bH,?_⟩
  have e:aC F (.neg (.cst (.int 1))) env=.ok (.int (-1)):=by rw [aC,aC];rfl
  rw [e];intro v2 G2 H2 g2 t2;refine⟨t2.top.int,?_⟩;have t3:=t.grow g2
  cases p with
  |str z=>
   by_cases hl:z.length<=eg
   ·have o2:Out X W (if z.length<=eg then Res.ok (PV.str (ft z)) else .bad) σ G1 H1 _:=o1
    rw [if_pos hl] at o2;exact .inr ⟨z,t3.top.str,k7 hl,o2 _ G2 H2 (g.trans g2) (.of .s)⟩
   ·have o2:Out X W (if z.length<=eg then Res.ok (PV.str (ft z)) else .bad) σ G1 H1 _:=o1
    rw [if_neg hl] at o2;exact o2.elim
  |tup xs=>
   obtain⟨l,vs,rfl,h1,l1⟩:=t3.top.tup g2.sub
   rw [C.K] at h1;exact .inl (.inl ⟨l,vs,rfl,h1,λp hp=>cL.tup (W:=W) (G:=G2) (H:=H2) (xs:=xs.reverse) (λw G' H' g' gH=>o1 w G' H' ((g.trans g2).trans g') (.of gH)) g2.sub (qU l1) hp⟩)
  |lst xs=>
   obtain⟨l,vs,rfl,h1,l1⟩:=t3.top.lst g2.sub
   exact .inl (.inr ⟨l,vs,rfl,qY C.K h1,λp hp=>cL.lst (W:=W) (G:=G2) (H:=H2) (xs:=xs.reverse) (λw G' H' g' gH=>o1 w G' H' ((g.trans g2).trans g') (.of gH)) g2.sub (qU l1) hp⟩)
  |_=>exact zzk o1
end
end Ci
namespace L2
open PySem PySem.Spec PyProof.Rows
end L2
namespace Ci
open PySem L2
section
variable{Γ:Pg}{W:Wd}{F:aU}{k:Nat}
def Gw{X:Cx}{e:E}{p:Expr}(h:GE X W F e p)(he:∀whole,isTrue p X.env whole=(do let v<-whole;standAt p.pos;holding [v] (truthy v))):GT X W F e p:=
 L2.PT.imp (Ib h he) λσ H Q hq=>EX σ H Q hq
theorem yw{N:List Str}{sc:Scope}:∀{es:Es} {ps:List Expr},fQ Γ N sc es ps=true->∀env pos,(backTo pos (starEach ps env)).all (λx=>!x.1)=true
 |.nil,[],_,_,_=>rfl
 |.cons e es,p::ps,h,env,pos=>by
  replace h:=au h
  rw [notStar h.1];show(true&&(backTo pos (starEach ps env)).all (λx=>!x.1))=true
  rw [yw h.2]
  rfl
 |.nil,_::_,h,_,_=>aV h
 |.cons _ _,[],h,_,_=>aV h
theorem zt{N:List Str}{sc:Scope}:∀{es:Es} {ps:List Expr},fQ Γ N sc es ps=true->ps.length=fY es
 |.nil,[],_=>rfl
 |.cons e es,p::ps,h=>by
  replace h:=au h
  rw [zzL,zt h.2]
  rfl
 |.nil,_::_,h=>aV h
 |.cons _ _,[],h=>aV h
structure Pa(X:Cx)(W:Wd)(F:aU)(e:E)(p:Expr):Prop where
 ge:GE X W F e p
 gt:fC e=true->GT X W F e p
 gw:fC e=true->∀op vs pos,p=.BoolOp op vs pos->GW X W F e p
def ba{X:Cx}{e:E}{p:Expr}(h:GE X W F e p)(he:∀whole,isTrue p X.env whole=(do let v<-whole;standAt p.pos;holding [v] (truthy v)))(hb:∀op vs pos,p≠.BoolOp op vs pos):Pa X W F e p:=
 ⟨h,λ_=>Gw h he,λ_ op vs pos e=>absurd e (hb op vs pos)⟩
def isTrue_plain{p:Expr}{env:Env}(h:(match p with|.UnaryOp .Not _ _=>false|.BoolOp .. =>false|.IfExp .. =>false|.Compare .. =>false|_=>true)=true):∀whole,isTrue p env whole=(do let v<-whole;standAt p.pos;holding [v] (truthy v)):=by
 intro whole;cases p with
 |UnaryOp op a pos=>cases op<;>first|rfl|(exact aV h)
 |BoolOp _ _ _=>exact aV h
 |IfExp _ _ _ _=>exact aV h
 |Compare _ _ _ _=>exact aV h
 |_=>rfl
def rM{po:Expr}{m:Str}{env:Env}(h:uX po=true):attributeBase po m env (eval po env)=eval po env:=by
 cases po<;>first|rfl|(exact aV h)
theorem jm{N:List Str}{sc:Scope}{g:Str}{idx aS:List Nat}:∀{es:Es} {ps:List Expr},tZ Γ N sc g idx aS es ps=true->∀env pos,(backTo pos (starEach ps env)).any (·.1)=false
 |.cons e es,p::ps,h,env,pos=>by
  replace h:=au h
  rw [notStar h.1];show(false||(backTo pos (starEach ps env)).any (·.1))=false
  rw [jm h.2]
  rfl
 |.nil,ps,h,env,pos=>by
  obtain⟨p,e1,h⟩:=ah h
  obtain⟨l,e2,_⟩:=ah h
  rw [cY e1];obtain⟨_,rfl⟩:=k9 e2
  rfl
 |.cons _ _,[],h,_,_=>aV h
def FE{X:Cx}{q:PV}{c:Const}{kk:Nat}{pos:Pos}(h:JY q c=true):GE X W F (.cst q) (.Constant c kk pos):=by
 cases q with
 |aM=>cases Ho h;exact dA HQ λG=>.n
 |bl b=>
  obtain⟨x,e,h⟩:=ah h
  cases Fo e;cases eq_of_beq h;exact dA Lg λG=>.b
 |int i=>
  obtain⟨x,e,h⟩:=ah h
  cases sj e;cases eq_of_beq h;exact dA lE λG=>.i
 |str z=>
  obtain⟨x,e,h⟩:=ah h
  cases AL e;cases eq_of_beq h;exact dA oR λG=>.s
 |_=>exact aV h
def zy{α:Type}{r:Res α}{c:α->Prop} [∀a,Decidable (c a)]{f:α->Res (List PV)}{q:PV}(e:(r.bind λa=>if c a then(f a).bind λys=>.ok (.lst ys) else .bad)=.ok q):∃ys,q=.lst ys:=by
 obtain⟨ps,_,e⟩:=Res.aZ e
 split at e
 ·obtain⟨ys,_,e⟩:=Res.aZ e
  cases e;exact⟨_,rfl⟩
 ·cases e
def ud{kk:Nat}{aS:List Nat}{tg:Tg}{it:I}{elt:E}(env:Sl)(q:PV)(e:aC F (.comp kk aS tg it elt) env=.ok q):∃ys,q=.lst ys:=by
 rw [aC] at e;exact zy e
def mK{kk:Nat}{aS:List Nat}{tg:Tg}{it:I}{c elt:E}(env:Sl)(q:PV)(e:aC F (.dD kk aS tg it c elt) env=.ok q):∃ys,q=.lst ys:=by
 rw [aC] at e;exact zy e
mutual
theorem br:∀(e:E) {Γ:Pg} {N:List Str} {sc:Scope} {X:Cx} (C:dy Γ F W N sc k X) (p:Expr),bh Γ N sc e p=true->Pa X W F e p
 |.var i,Γ,N,sc,X,C,p,h=>by
  obtain⟨x,_,rfl,h9⟩:=Mp h
  clear h
  have h:=h9
  clear h9
  exact ba (Gg C h) (λ_=>rfl) (λ_ _ _ z=>nomatch z)
 |.gV i,Γ,N,sc,X,C,p,h=>by
  obtain⟨x,_,rfl,h9⟩:=Mp h
  clear h
  have h:=h9
  clear h9
  exact ba (Gf C h) (λ_=>rfl) (λ_ _ _ z=>nomatch z)
 |.cst q,Γ,N,sc,X,C,p,h=>by
  obtain⟨c,_,_,rfl,h9⟩:=Pu h
  clear h
  have h:=h9
  clear h9
  refine ba (FE h) (λ_=>rfl) (λ_ _ _ z=>nomatch z)
 |.glob g q,Γ,N,sc,X,C,p,h=>by
  obtain⟨x,_,rfl,h9⟩:=Mp h
  clear h
  have h:=h9
  clear h9
  exact ba (B7 C h) (λ_=>rfl) (λ_ _ _ z=>nomatch z)
 |.call f as,Γ,N,sc,X,C,p,h=>by
  obtain⟨g,args,_,_,rfl,h9⟩:=En h
  clear h
  have h:=h9
  clear h9
  replace h:=au h
  try simp! [zza,zzy] at h
  obtain⟨⟨⟨⟨⟨rfl,h1⟩,h2⟩,h3⟩,h4⟩,h5⟩:=h
  have ga:=jl as C args h5
  cases as with
  |nil=>
   cases args with
   |nil=>exact ba (yF C h1 h2 h3) (λ_=>rfl) (λ_ _ _ z=>nomatch z)
   |cons _ _=>exact aV h5
  |cons e es=>
   cases args with
   |nil=>exact aV h5
   |cons q qs=>
    have h6:=au h5
    exact ba (B6 C h1 h2 h3 h4 ga (notStar h6.1 _ _) (ef h6.2 _ _)) (λ_=>rfl) (λ_ _ _ z=>nomatch z)
 |.ip i as,Γ,N,sc,X,C,p,h=>by
  obtain⟨g,args,_,_,rfl,h9⟩:=En h
  clear h
  have h:=h9
  clear h9
  replace h:=au h
  simp! [zza] at h;obtain⟨⟨⟨⟨h1,h2⟩,h3⟩,h4⟩,h5⟩:=h
  have ga:=jl as C args h5
  cases as with
  |nil=>
   cases args with
   |nil=>exact ba (wx C (by rw [h1,h2,h3];rfl)) (λ_=>rfl) (λ_ _ _ z=>nomatch z)
   |cons _ _=>exact aV h5
  |cons e es=>
   cases args with
   |nil=>exact aV h5
   |cons q qs=>
    have h6:=au h5
    exact ba (yG C (by rw [h1,h2,h3];rfl) h4 ga (notStar h6.1 _ _) (ef h6.2 _ _)) (λ_=>rfl) (λ_ _ _ z=>nomatch z)
 |.mJ f as g idx aS,Γ,N,sc,X,C,p,h=>by
  obtain⟨hN,args,_,_,rfl,h9⟩:=En h
  clear h
  have h:=h9
  clear h9
  replace h:=au h
  simp! [zza,List.any_eq_true,zzy] at h;obtain⟨⟨⟨⟨⟨h1,h2⟩,h3⟩,h4⟩,q,hq,⟨⟨⟨rfl,rfl⟩,rfl⟩,rfl⟩,hd⟩,h5⟩:=h
  have Mc:=zzY hd
  have ga:=ES as C h1 q.g q.idx aS args h4 h5
  cases as with
  |nil=>
   have h7:((fm args).any _)=true:=h5
   obtain⟨pl,e7,h8⟩:=lA h7
   subst e7;obtain⟨l,e8,_⟩:=ah h8
   obtain⟨_,rfl⟩:=k9 e8
   exact ba (qj C h1 hq h2 h3 Mc ga rfl rfl) (λ_=>rfl) (λ_ _ _ z=>nomatch z)
  |cons e es=>
   cases args with
   |nil=>exact aV h5
   |cons p qs=>
    have h6:=au h5
    exact ba (qj C h1 hq h2 h3 Mc ga (notStar h6.1 _ _) (jm h6.2 _ _)) (λ_=>rfl) (λ_ _ _ z=>nomatch z)
 |.blt b as,Γ,N,sc,X,C,p,h=>by
  obtain⟨hq,h⟩:=qL h
  obtain⟨g,args,_,_,rfl,h9⟩:=En h
  clear h
  have h:=h9
  clear h9
  replace h:=au h
  try simp! [zza,zzy] at h
  obtain⟨⟨⟨⟨rfl,h1⟩,h2⟩,h3⟩,h5⟩:=h
  have ga:=jl as C args h5
  cases as with
  |nil=>exact aV h3
  |cons e es=>
   cases args with
   |nil=>exact aV h5
   |cons q qs=>
    have h6:=au h5
    exact ba (F6 C hq b h1 h2 ga (notStar h6.1 _ _) (ef h6.2 _ _)) (λ_=>rfl) (λ_ _ _ z=>nomatch z)
 |.ty t a,Γ,N,sc,X,C,p,h=>by
  obtain⟨g,args,_,_,rfl,h9⟩:=En h
  clear h
  have h:=h9
  clear h9
  obtain⟨pa,pb,z2,h2⟩:=D4 h
  obtain⟨tn,_,z3,h3⟩:=Mp h2
  dsimp only at z2 z3;subst z2 z3
  clear h h2
  have h:=h3
  clear h3
  replace h:=au h
  try simp! [zza,zzy] at h
  obtain⟨⟨⟨⟨⟨⟨rfl,h1⟩,h2⟩,rfl⟩,h3⟩,h4⟩,h5⟩:=h
  exact ba (Kf C h1 h2 h3 h4 (br a C pa h5).ge (notStar h5)) (λ_=>rfl) (λ_ _ _ z=>nomatch z)
 |.Jp m o as,Γ,N,sc,X,C,p,h=>by
  obtain⟨⟨f,args,kws,pos⟩,e,h1⟩:=ah h
  have z:=gW e
  obtain⟨⟨po,attr,apos⟩,e2,h2⟩:=ah h1
  have z2:=x8 e2
  have h3:=au h2
  have z3:=CQ h3.1
  dsimp only at z z2 z3;subst z z2 z3
  clear h h1 h2
  have h:=au h3.2
  clear h3
  simp! [zza] at h;obtain⟨⟨⟨⟨⟨⟨e1,h1⟩,h2⟩,h3⟩,h4⟩,h5⟩,h6⟩:=h
  cases zzy.mp e1;have ga:=jl as C args h5
  cases as with
  |nil=>exact aV h1
  |cons e es=>
   cases args with
   |nil=>exact aV h5
   |cons q qs=>
    have h7:=au h5
    have hl:=zt h5
    refine ba (F9 C (br o C po h4).ge ga (rM h6) ?_ h3 (notStar h7.1 _ _) (ef h7.2 _ _)) (λ_=>rfl) (λ_ _ _ z=>nomatch z);rw [yw h5];have xK:=zzY h2
    refine Bool.and_eq_true_iff.mpr ⟨rfl,zzh ?_⟩;rw [hl];exact xK
 |.bin o a b,Γ,N,sc,X,C,p,h=>by
  obtain⟨q,e,h1⟩:=ah h
  obtain⟨_,rfl⟩:=Fm e
  clear h
  have h:=au h1
  have h0:=au h.1
  rw [<-zzY h0.1];exact ba (F5 C (br a C _ h0.2).ge (br b C _ h.2).ge) (λ_=>rfl) (λ_ _ _ z=>nomatch z)
 |.cmp o a b,Γ,N,sc,X,C,p,h=>by
  obtain⟨pa,ops,cs,_,rfl,h1⟩:=Pt h
  obtain⟨op,z2,h2⟩:=lA h1
  obtain⟨pb,z3,h3⟩:=lA h2
  dsimp only at z2 z3;subst z2 z3
  clear h h1 h2
  have h:=h3
  clear h3
  replace h:=au h
  have h0:=au h.1
  cases zzY h0.1;have h1:=h0.2
  have h2:=h.2
  exact⟨F7 C (br a C _ h1).ge (br b C _ h2).ge (oJ h2 _),λ_=>Gu C (br a C _ h1).ge (br b C _ h2).ge (oJ h2 _),(λ_ _ _ _ z=>nomatch z)⟩
 |.ch o1 o2 a b c,Γ,N,sc,X,C,p,h=>by
  obtain⟨pa,ops,cs,_,rfl,h1⟩:=Pt h
  obtain⟨op1,op2,z2,h2⟩:=D4 h1
  obtain⟨pb,pc,z3,h3⟩:=D4 h2
  dsimp only at z2 z3;subst z2 z3
  clear h h1 h2
  have h:=h3
  clear h3
  replace h:=au h
  try simp! [zza,zzN] at h
  obtain⟨⟨⟨⟨rfl,rfl⟩,h1⟩,h2⟩,h3⟩:=h
  have hm:lastMarks [pF o1,pF o2] [pb,pc]=false:=oJ h3 _
  exact⟨Kd C (br a C _ h1).ge (br b C _ h2).ge (br c C _ h3).ge hm,λ_=>Kg C (br a C _ h1).ge (br b C _ h2).ge (br c C _ h3).ge hm,(λ_ _ _ _ z=>nomatch z)⟩
 |.not a,Γ,N,sc,X,C,p,h=>by
  obtain⟨o,pa,_,rfl,h1⟩:=OM h
  clear h
  have h:=au h1
  cases y9 h.1;have s:=br a C pa h.2
  exact⟨Ga s.ge,λz=>Gv (s.gt (by simpa only [fC] using z)),(λ_ _ _ _ z=>nomatch z)⟩
 |.neg a,Γ,N,sc,X,C,p,h=>by
  obtain⟨o,pa,_,rfl,h1⟩:=OM h
  clear h
  have h:=au h1
  cases qr h.1;exact ba (yH (br a C pa h.2).ge) (λ_=>rfl) (λ_ _ _ z=>nomatch z)
 |.and a b,Γ,N,sc,X,C,p,h=>by
  obtain⟨o,vs,pos,rfl,h1⟩:=Pk h
  obtain⟨⟨pa,pb⟩,e2,h2⟩:=ah h1
  clear h h1
  have h:=au h2
  clear h2
  try simp! [zza] at h
  obtain⟨⟨⟨h0,he⟩,h1⟩,h2⟩:=h
  cases y7 h0;have sa:=br a C pa h1
  have sb:=br b C pb h2
  rcases ye e2 with z|⟨q,c,r,z,z2⟩
  ·dsimp only at z;subst z;have gw:fC (.and a b)=true->GW X W F (.and a b) (.BoolOp .And [pa,pb] pos):=λz=>by
    have z:=au z
    exact yM (sa.gt z.1) (pw_and1 (sb.gt z.2))
   exact⟨yE he sa.ge (Ad sb.ge),λz=>(gw z).pt,λz _ _ _ _=>gw z⟩
  ·dsimp only at z z2;subst z z2;have gw:fC (.and a b)=true->GW X W F (.and a b) (.BoolOp .And (pa::q::c::r) pos):=λz=>by
    have z:=au z
    exact yM (sa.gt z.1) (sb.gw z.2 _ _ _ rfl)
   exact⟨yE he sa.ge sb.ge,λz=>(gw z).pt,λz _ _ _ _=>gw z⟩
 |.or a b,Γ,N,sc,X,C,p,h=>by
  obtain⟨o,vs,pos,rfl,h1⟩:=Pk h
  obtain⟨⟨pa,pb⟩,e2,h2⟩:=ah h1
  clear h h1
  have h:=au h2
  clear h2
  try simp! [zza] at h
  obtain⟨⟨⟨h0,he⟩,h1⟩,h2⟩:=h
  cases CC h0;have sa:=br a C pa h1
  have sb:=br b C pb h2
  rcases ye e2 with z|⟨q,c,r,z,z2⟩
  ·dsimp only at z;subst z;have gw:fC (.or a b)=true->GW X W F (.or a b) (.BoolOp .Or [pa,pb] pos):=λz=>by
    have z:=au z
    exact EC (sa.gt z.1) (pw_or1 (sb.gt z.2))
   exact⟨EB he sa.ge (Ad sb.ge),λz=>(gw z).pt,λz _ _ _ _=>gw z⟩
  ·dsimp only at z z2;subst z z2;have gw:fC (.or a b)=true->GW X W F (.or a b) (.BoolOp .Or (pa::q::c::r) pos):=λz=>by
    have z:=au z
    exact EC (sa.gt z.1) (sb.gw z.2 _ _ _ rfl)
   exact⟨EB he sa.ge sb.ge,λz=>(gw z).pt,λz _ _ _ _=>gw z⟩
 |.ite c a b,Γ,N,sc,X,C,p,h=>by
  obtain⟨q,e,h1⟩:=ah h
  obtain⟨_,rfl⟩:=GU e
  clear h
  have h:=au h1
  clear h1
  try simp! [zza] at h
  obtain⟨⟨⟨⟨⟨h0,h1⟩,h2⟩,h3⟩,h4⟩,h5⟩:=h
  exact⟨F8 h1 h2 ((br c C _ h3).gt h0) (br a C _ h4).ge (br b C _ h5).ge,(λz=>nomatch z),(λ_ _ _ _ z=>nomatch z)⟩
 |.tup as,Γ,N,sc,X,C,p,h=>by
  obtain⟨ps,e,h1⟩:=ah h
  obtain⟨_,_,rfl⟩:=vz e
  clear h
  have h:=au h1
  have h0:=au h.1
  exact ba (rY h0.1 (zzY h0.2) (jl as C _ h.2)) (λ_=>rfl) (λ_ _ _ z=>nomatch z)
 |.lst as,Γ,N,sc,X,C,p,h=>by
  obtain⟨ps,e,h1⟩:=ah h
  obtain⟨_,rfl⟩:=zu e
  clear h
  have h:=au h1
  have h0:=au h.1
  exact ba ((yJ h0.1 (zzY h0.2) (jl as C _ h.2)).ge lst_is) (λ_=>rfl) (λ_ _ _ z=>nomatch z)
 |.sub a b,Γ,N,sc,X,C,p,h=>by
  obtain⟨pa,pb,_,rfl,h9⟩:=Ox h
  clear h
  have h:=h9
  clear h9
  replace h:=au h
  exact ba (Ge C (br a C _ h.1).ge (br b C _ h.2).ge (An h.2)) (λ_=>rfl) (λ_ _ _ z=>nomatch z)
 |.rev a,Γ,N,sc,X,C,p,h=>by
  obtain⟨pa,ps,_,rfl,h1⟩:=Ox h
  obtain⟨pl,ph,pst,_,z2,h2⟩:=Qn h1
  obtain⟨st,z3,h3⟩:=ah h2
  obtain⟨uo,ue,_,z4,h4⟩:=OM h3
  obtain⟨cc,_,_,z5,h5⟩:=Pu h4
  clear h h1 h2 h3 h4
  have h:=au h5
  clear h5
  simp! [zza] at h;obtain⟨⟨⟨⟨y1,y2⟩,y3⟩,y4⟩,y5⟩:=h
  have w1:=Hr y1
  have w2:=Hr y2
  have w3:=qr y3
  have w4:=sj (eq_of_beq y4)
  dsimp only at z2 z3 z4 z5 w1 w2 w3 w4;subst z2 z3 z4 z5 w1 w2 w3 w4;exact ba (Gb C (br a C pa y5).ge (yH (dA lE λG=>.i))) (λ_=>rfl) (λ_ _ _ z=>nomatch z)
 |.slice a lo hi,Γ,N,sc,X,C,p,h=>by
  obtain⟨pa,ps,_,rfl,h1⟩:=Ox h
  obtain⟨pl,ph,pst,_,z2,h2⟩:=Qn h1
  clear h h1
  have h:=au h2
  simp! [zza] at h;have w:=Hr h.1.1.1
  dsimp only at z2 w;subst z2 w;exact ba (yI C (br a C _ h.1.1.2).ge (Lr lo C pl h.1.2) (Lr hi C ph h.2)) (λ_=>rfl) (λ_ _ _ z=>nomatch z)
 |.comp kk aS tg it elt,Γ,N,sc,X,C,p,h=>by
  obtain⟨hq,h⟩:=qL h
  obtain⟨eQ,gens,scope,_,rfl,h1⟩:=Mm h
  obtain⟨⟨cU,fJ,ifs,asy⟩,z2,h2⟩:=lA h1
  have h3:=au h2
  have z3:=CQ h3.1
  dsimp only at z2 z3;subst z2 z3
  clear h h1 h2
  have h:=au h3.2
  clear h3
  simp! [zza] at h;obtain⟨⟨⟨⟨⟨⟨h1,h2⟩,h3⟩,h4⟩,h5⟩,h6⟩,gZ⟩:=h
  have gZ:=zzY gZ
  subst gZ;exact ba ((uz C hq (iu h1) h2 h3 (AD it C cU fJ h4) (iC h4 _) h5 λY CY=>(br elt CY eQ h6).ge).ge ud) (λ_=>rfl) (λ_ _ _ z=>nomatch z)
 |.dD kk aS tg it c elt,Γ,N,sc,X,C,p,h=>by
  obtain⟨hq,h⟩:=qL h
  obtain⟨eQ,gens,scope,_,rfl,h1⟩:=Mm h
  obtain⟨⟨cU,fJ,ifs,asy⟩,z2,h2⟩:=lA h1
  obtain⟨pc,z3,h3⟩:=lA h2
  dsimp only at z2 z3;subst z2 z3
  clear h h1 h2
  have h:=au h3
  clear h3
  simp! [zza] at h;obtain⟨⟨⟨⟨⟨⟨⟨⟨h0,h1⟩,h2⟩,h3⟩,h4⟩,h5⟩,h6⟩,h7⟩,gZ⟩:=h
  have gZ:=zzY gZ
  subst gZ;exact ba ((mW C hq (iu h1) h2 h3 (AD it C cU fJ h4) (iC h4 _) h5 (λY CY=>(br c CY pc h6).gt h0) λY CY=>(br elt CY eQ h7).ge).ge mK) (λ_=>rfl) (λ_ _ _ z=>nomatch z)
theorem jl:∀(es:Es) {Γ:Pg} {N:List Str} {sc:Scope} {X:Cx} (C:dy Γ F W N sc k X) (ps:List Expr),fQ Γ N sc es ps=true->GA X W F es ps
 |.nil,Γ,N,sc,X,C,ps,h=>by
  cases ps with
  |nil=>exact oo
  |cons _ _=>exact aV h
 |.cons e es,Γ,N,sc,X,C,ps,h=>by
  cases ps with
  |nil=>exact aV h
  |cons p ps=>
   replace h:=au h
   exact iF (br e C p h.1).ge (jl es C ps h.2) (notStar h.1 _ _)
theorem ES:∀(es:Es) {Γ:Pg} {N:List Str} {sc:Scope} {X:Cx} (C:dy Γ F W N sc k X) (hl:Γ.hl=true) (g:Str) (idx aS:List Nat) (ps:List Expr),fA es=true->tZ Γ N sc g idx aS es ps=true->PA X ps (Ly X W F N sc g idx aS es)
 |.nil,Γ,N,sc,X,C,hl,g,idx,aS,ps,he,h=>by
  obtain⟨p,e1,h⟩:=ah h
  obtain⟨l,e2,h⟩:=ah h
  rw [cY e1];obtain⟨_,rfl⟩:=k9 e2
  replace h:=au h
  have h1:=au h.1
  exact Dm C hl ⟨h1.1,zzY h1.2,λy hy=>zzY (zzT.mp h.2 y hy)⟩
 |.cons e es,Γ,N,sc,X,C,hl,g,idx,aS,ps,he,h=>by
  cases ps with
  |nil=>exact aV h
  |cons p ps=>
   replace h:=au h
   have GJ:=au (show(gB e&&fA es)=true from he)
   exact zY he (br e C p h.1).ge (ES es C hl g idx aS ps GJ.2 h.2) (notStar h.1 _ _)
theorem Lr:∀(o:Oe) {Γ:Pg} {N:List Str} {sc:Scope} {X:Cx} (C:dy Γ F W N sc k X) (p:Option Expr),Fx Γ N sc o p=true->PO X p (AR X W F o)
 |.no,Γ,N,sc,X,C,p,h=>by
  cases p with
  |none=>exact Ca
  |some _=>exact aV h
 |.some e,Γ,N,sc,X,C,p,h=>by
  cases p with
  |none=>exact aV h
  |some p=>
   exact Cb (br e C p h).ge
theorem AD:∀(it:I) {Γ:Pg} {N:List Str} {sc:Scope} {X:Cx} (C:dy Γ F W N sc k X) (tg p:Expr),vY Γ N sc tg it p=true->GI X W F tg it p
 |.seq e,Γ,N,sc,X,C,tg,p,h=>by
  exact Gi C (br e C p h).ge
 |.rD e,Γ,N,sc,X,C,tg,p,h=>by
  obtain⟨g,args,_,_,rfl,h9⟩:=En h
  clear h
  have h:=h9
  clear h9
  obtain⟨q,z2,h2⟩:=lA h
  dsimp only at z2;subst z2
  clear h
  have h:=au h2
  clear h2
  simp! [zza] at h;obtain⟨⟨⟨e1,h1⟩,h2⟩,h3⟩:=h
  cases zzy.mp e1;exact Gh C h1 h2 (notStar h3) (br e C q h3).ge
 |.oY a b,Γ,N,sc,X,C,tg,p,h=>by
  obtain⟨g,args,_,_,rfl,h9⟩:=En h
  clear h
  have h:=h9
  clear h9
  obtain⟨q,r,z2,h2⟩:=D4 h
  dsimp only at z2;subst z2
  clear h
  have h:=au h2
  clear h2
  simp! [zza] at h;obtain⟨⟨⟨⟨e1,h1⟩,h2⟩,h3⟩,h4⟩:=h
  cases zzy.mp e1;exact B9 C h1 h2 (notStar h3) (notStar h4) (br a C q h3).ge (br b C r h4).ge
 |.enum e,Γ,N,sc,X,C,tg,p,h=>by
  obtain⟨g,args,_,_,rfl,h9⟩:=En h
  clear h
  have h:=h9
  clear h9
  obtain⟨q,z2,h2⟩:=lA h
  dsimp only at z2;subst z2
  clear h
  have h:=au h2
  clear h2
  simp! [zza] at h;obtain⟨⟨⟨⟨h0,e1⟩,h1⟩,h2⟩,h3⟩:=h
  cases zzy.mp e1;cases tg<;>first|(exact aV h0)|skip
  exact B8 C h1 h2 (notStar h3) (br e C q h3).ge
end
end
end Ci
namespace L2
open PySem PySem.Spec PyProof.Rows
section
variable{X:Cx}{scope:Scope}{xs ys:List Str}{is:List Nat}
theorem sN{i₀:Nat}{x₀:Str}{pos' fE:Pos}{elt tg iter:Expr}{pos:Pos}{wi:TI}{g:TG}{te:TE}(hN₀:X.N.Nodup)(hi₀:X.N[i₀]?=some x₀)(hx₀:Loc X.env.scope x₀)(hc:X.calm=true)(S:eJ X scope xs ys is)(hi:PI X tg iter wi)
 (hg:∀fp s1 H1 C,PG (bQ X (xs++ys) scope (bE X.env ys) fp s1 H1 C) tg g) (he:∀fp s1 H1 C,PE (bQ X (xs++ys) scope (bE X.env ys) fp s1 H1 C) elt te)
 (yX:swapsWith (.ListComp elt [⟨tg,iter,[],0⟩] scope pos) (some (.Name x₀ pos')) fE.line X.env=pure true:=by rfl)
 (hs:∀x,foldedSetIterable iter X.env x=pure x:=by intro _;rfl) (hf₀:X.fn x₀=true\/X.env.scope.names.lookup x₀=some .local:=by first|exact .inl rfl|exact .inr rfl|assumption):
 PS X (.Assign [.Name x₀ pos'] (.ListComp elt [⟨tg,iter,[],0⟩] scope pos) fE) (DY (AN wi xs.length g te is) (fU i₀)):=by
 intro aa s σ H D₀ I h;rw [exec_Assign_Name_used _ _ _ _ yX];refine zzA (wpAny_standAt (zzA ?_));show wpAny _ X.A (do let _<-comprehension (.ListComp elt [⟨tg,iter,[],0⟩] scope pos) scope X.env _ (newList []) false (eval iter X.env) (some (assign (.Name x₀ pos') X.env))) _ _ s;refine zzA (wpAny_mono (gA (QQ:=λ_ s'=>∃σ2 H2,Inv X aa σ2 H2 s'/\D₀.nx σ2 H2) (Q:=λv H4=>fU i₀ v σ H4 D₀.nx) hc S hi hg (λ_ _ _ _=>u9) he hs I h λD C s4 H4 m I5 hn ⟨g0,g1,_,g3,g4,g5⟩ q=>?_) (λ_ s' hq=>zzG (zzG hq)) λ_ _ e=>e)
 refine wpAny_assign_Name (jd I5 hN₀ hi₀ hx₀ (show RelV (.ref D) (.ref D) from rfl) (λs6 I6 ⟨a6,sb6,ha6⟩=>?_) hf₀);have zG:C≠a6:=by
  rcases ha6 with z|z
  ·rw [z];exact g1
  ·exact λz2=>g4 _ _ z z2.symm
 exact⟨m,hn.sameBut sb6 zG,λh' wL=>⟨_,_,I6.turned (t':=s6.toks) (it:=C) (λb o hb e=>wL.extBut b o hb e) g0 g1 g3 g4 g5,q⟩⟩
end
end L2
namespace Ci
open PySem L2
section
variable{W:Wd}{G0 H0 G H:Hp}{env:Sl}{σ:St}
def Own.EY{p:PV}{v:V}(h:Own W H0 G H p v):∃a o,v=.ref a/\H a=some o/\G a=none/\H0 a=none/\((∀G',ax G G'->G' a=some o->Rep W G' p (.ref a))\/∃av,o=.dT av/\∀ob G',ax G G'->G' a=some (.bq ob (.dT av))->Rep W G' p (.ref a)):=by
 cases p with
 |lst xs=>
  obtain⟨a,vs,rfl,h1,h2,h3,l⟩:=h
  exact⟨a,_,rfl,h1,h2,h3,.inl λG' s e=>.l (.inl (.inl e)) (ai.same s xs l)⟩
 |bF ks ps=>
  obtain⟨a,us,rfl,n,h1,h2,h3,l⟩:=h
  exact⟨a,_,rfl,h1,h2,h3,.inr ⟨_,rfl,λob G' s e=>by simp! [Rep];exact⟨a,ob,us,rfl,n,e,ai.same s ps l⟩⟩⟩
 |aM=>exact h.elim
 |bl _=>exact h.elim
 |int _=>exact h.elim
 |str _=>exact h.elim
 |tup _=>exact h.elim
 |exc _=>exact h.elim
theorem Own.zL{p:PV}{a:Addr}(h:Own W H0 G H p (.ref a))(ps:Array Value):H a≠some (.fG ps):=λz=>by
 cases p with
 |lst xs=>obtain⟨b,vs,e,h1,_⟩:=h;cases e;rw [z] at h1;cases h1
 |bF ks qs=>
  obtain⟨b,us,e,_,h1,_⟩:=h
  cases e;rw [z] at h1;cases h1
 |aM=>exact h.elim
 |bl _=>exact h.elim
 |int _=>exact h.elim
 |str _=>exact h.elim
 |tup _=>exact h.elim
 |exc _=>exact h.elim
theorem Own.K5{p:PV}{a b:Addr}{av:List (Key×V)}(h:Own W H0 G H p (.ref a))(hb:H b=some (.dK av)):b≠a:=λz=>by
 subst z;cases p with
 |lst xs=>obtain⟨b,vs,e,h1,_⟩:=h;cases e;rw [hb] at h1;cases h1
 |bF ks qs=>obtain⟨b,us,e,_,h1,_⟩:=h;cases e;rw [hb] at h1;cases h1
 |aM=>exact h.elim
 |bl _=>exact h.elim
 |int _=>exact h.elim
 |str _=>exact h.elim
 |tup _=>exact h.elim
 |exc _=>exact h.elim
theorem pq{a:Addr}{ob:HO}{H':Hp}(t:cq W G H)(hG:G a=none)(n:∀ps,H a≠some (.fG ps))(hH:∀b,b≠a->H' b=H b):cq W (upd G a ob) H':=λP q m=>by
 obtain⟨n1,ps,e,tr,al⟩:=t P q m
 have hP:P≠a:=λz=>by subst z;exact n ps e
 refine⟨by rw [af hP];exact n1,ps,by rw [hH P hP];exact e,tr,λpos cv y=>?_⟩
 obtain⟨c',oc,cF,t',e1,e2,e3,e4⟩:=al pos cv y
 exact⟨c',oc,cF,t',e1,bT hG _ _ e2,e3,e4⟩
def Own.eR{p:PV}{v:V}{a:Addr}{G' H':Hp}(h:Own W H0 G H p v)(hv:v≠.ref a)(sG:ax G G')(hG:∀b,b≠a->G' b=G b)(hH:∀b,b≠a->H' b=H b):Own W H0 G' H' p v:=by
 cases p with
 |lst xs=>
  obtain⟨b,vs,rfl,h1,h2,h3,l⟩:=h
  have hb:b≠a:=λz=>hv (by rw [z])
  exact⟨b,vs,rfl,by rw [hH b hb];exact h1,by rw [hG b hb];exact h2,h3,ai.same sG xs l⟩
 |bF ks ps=>
  obtain⟨b,us,rfl,n,h1,h2,h3,l⟩:=h
  have hb:b≠a:=λz=>hv (by rw [z])
  exact⟨b,us,rfl,n,by rw [hH b hb];exact h1,by rw [hG b hb];exact h2,h3,ai.same sG ps l⟩
 |aM=>exact h.elim
 |bl _=>exact h.elim
 |int _=>exact h.elim
 |str _=>exact h.elim
 |tup _=>exact h.elim
 |exc _=>exact h.elim
def getElem?_modify{α:Type}(l:List α)(i j:Nat)(f:α->α):(l.modify i f)[j]?=if i=j then(l[j]?).map f else l[j]?:=by
 rw [List.getElem?_modify];split<;>simp_all
def qf(r:SR W H0 env σ G H)(g:aA W G0 H0 G H){i:Nat}{p:PV}{a:Addr}{ob Jr:HO}{H':Hp}(hp:env[i]?=some (.own p))(ho:σ[i]?=some (some (.ref a)))(EM:Own W H0 G H p (.ref a))(hH:H a=some ob)(hG:G a=none)(A4:H0 a=none)
 (yW:∀G',ax G G'->G' a=some Jr->Rep W G' p (.ref a)) (h1:H' a=some Jr) (h2:∀b,b≠a->H' b=H b):SR W H0 (env.modify i oj) σ (upd G a Jr) H'/\aA W G0 H0 (upd G a Jr) H':=by
 have sG:ax G (upd G a Jr):=bT hG
 have sub:ax (upd G a Jr) H':=λb u e=>by
  by_cases hb:b=a
  ·subst hb;rw [ak] at e;cases e;exact h1
  ·rw [af hb] at e;rw [h2 b hb];exact r.sub _ _ e
 have base:∀{B:Hp},B a=none->gQ B H->gQ B H':=λhB k b u e=>by
  have hb:b≠a:=λz=>by rw [z,hB] at e;cases e
  rw [h2 b hb];exact k b u e
 refine⟨⟨by rw [List.length_modify];exact r.len,sub,base A4 r.base,λj s e=>?_,λj l q q' c e1 e2 e3 e4=>?_,pq r.tab hG EM.zL h2,pq r.mB hG (λps z=>by rw [A4] at z;cases z) λ_ _=>rfl⟩,⟨g.g.trans sG,base A4 g.h,sub,λb h3 h5 h4=>?_,λt=>pq (g.tab t) hG EM.zL h2⟩⟩
 ·rw [getElem?_modify] at e;split at e
  ·rename_i z;subst z;rw [hp] at e;cases e;exact⟨_,ho,_,rfl,yW _ sG ak⟩
  ·rename_i z;obtain⟨o2,k1,k2⟩:=r.slot j s e
   refine⟨o2,k1,?_⟩;cases s with
   |no=>exact trivial
   |val q=>
    obtain⟨v2,rfl,rv⟩:=k2
    exact⟨v2,rfl,Rep.same sG q rv⟩
   |fn _ _ _=>
    obtain⟨v2,rfl,rv⟩:=k2
    exact⟨v2,rfl,rv.same sG⟩
   |Bs av=>
    obtain⟨b,e1,f1,f2,f3,n⟩:=k2
    have hb:=EM.K5 f1
    exact⟨b,e1,by rw [h2 b hb];exact f1,by rw [af hb];exact f2,f3,n⟩
   |own q=>
    obtain⟨v2,rfl,ov⟩:=k2
    refine⟨v2,rfl,ov.eR (a:=a) (λzz=>?_) sG (λb hb=>af hb) h2⟩;subst zz;exact z (r.apart i j p q a hp e ho k1)
 ·rw [getElem?_modify] at e1 e2;have ne:∀{j:Nat} {q:PV},(if i=j then(env[j]?).map oj else env[j]?)=some (.own q)->i≠j/\env[j]?=some (.own q):=λ{j q} e=>by
   split at e
   ·rename_i z;subst z;rw [hp] at e;cases e
   ·rename_i z;exact⟨z,e⟩
  exact r.apart j l q q' c (ne e1).2 (ne e2).2 e3 e4
 ·have hb:b≠a:=λz=>h3 (by rw [z];exact A4)
  rw [af hb];exact g.own b h3 h5 h4
def F3(r:SR W H0 env σ G H)(g:aA W G0 H0 G H)(i:Nat):(∃G',SR W H0 (env.modify i oj) σ G' H/\aA W G0 H0 G' H)\/∃a av,H a=some (.dT av)/\∀o,∃G',SR W H0 (env.modify i oj) σ G' (upd H a (.bq o (.dT av)))/\aA W G0 H0 G' (upd H a (.bq o (.dT av))):=by
 have same:(∀p,env[i]?≠some (.own p))->env.modify i oj=env:=λh=>by
  refine List.ext_getElem? λj=>?_
  rw [getElem?_modify];split
  ·rename_i e;subst e;cases q:env[i]? with
   |none=>rfl
   |some s=>
    cases s with
    |own p=>exact absurd q (h p)
    |no=>rfl
    |val p=>rfl
    |fn _ _ _=>rfl
    |Bs _=>rfl
  ·rfl
 by_cases hx:∃p,env[i]?=some (.own p)
 ·obtain⟨p,hp⟩:=hx
  obtain⟨o,ho,v,rfl,ow⟩:=r.slot i _ hp
  have EM:=ow
  obtain⟨a,ob,rfl,hH,hG,A4,yW|⟨av,rfl,yW⟩⟩:=ow.EY
  ·obtain⟨k1,k2⟩:=qf r g hp ho EM hH hG A4 yW hH λ_ _=>rfl
   exact .inl ⟨_,k1,k2⟩
  ·refine .inr ⟨a,av,hH,λo=>?_⟩
   obtain⟨k1,k2⟩:=qf r g hp ho EM hH hG A4 (yW o) ak λb hb=>af hb
   exact⟨_,k1,k2⟩
 ·exact .inl ⟨G,by rw [same λp z=>hx ⟨p,z⟩];exact r,g⟩
def lj(r:SR W H0 env σ G H)(g:aA W G0 H0 G H){i:Nat}{p p':PV}{a:Addr}{ob:HO}(hp:env[i]?=some (.own p))(hs:σ[i]?=some (some (.ref a)))(hG:G a=none)(A4:H0 a=none)(hn:Own W H0 G (upd H a ob) p' (.ref a)):
 SR W H0 (env.set i (.own p')) σ G (upd H a ob)/\aA W G0 H0 G (upd H a ob):=by
 have cm:i<env.length:=(zzH.mp hp).1
 have EM:Own W H0 G H p (.ref a):=by
  obtain⟨o2,h1,v2,rfl,ow⟩:=r.slot i _ hp
  rw [hs] at h1;cases h1;exact ow
 have RJ:∀ps,H a≠some (.fG ps):=by
  obtain⟨o2,h1,v2,rfl,ow⟩:=r.slot i _ hp
  rw [hs] at h1;cases h1;exact ow.zL
 have tab:∀{G1:Hp},cq W G1 H->cq W G1 (upd H a ob):=λt=>t.same (ax.refl _) (λ_ _ _ h=>h) (pw RJ)
 refine⟨⟨by rw [List.length_set];exact r.len,λb u e=>?_,λb u e=>?_,λj s e=>?_,λj l q q' c e1 e2 e3 e4=>?_,tab r.tab,r.mB⟩,⟨g.g,λb u e=>?_,λb u e=>?_,g.own,λt=>tab (g.tab t)⟩⟩
 ·rw [af (λz=>by subst z;rw [hG] at e;cases e)];exact r.sub _ _ e
 ·rw [af (λz=>by subst z;rw [A4] at e;cases e)];exact r.base _ _ e
 ·by_cases hj:i=j
  ·subst hj;rw [zzo cm] at e;cases e;exact⟨_,hs,_,rfl,hn⟩
  ·rw [zzS hj] at e;obtain⟨o2,h1,h2⟩:=r.slot j s e
   refine⟨o2,h1,?_⟩;cases s with
   |no=>exact trivial
   |val q=>exact h2
   |fn _ _ _=>exact h2
   |Bs av=>
    obtain⟨b,e1,f1,f2,f3,n⟩:=h2
    have hb:=EM.K5 f1
    exact⟨b,e1,by rw [af hb];exact f1,f2,f3,n⟩
   |own q=>
    obtain⟨v2,rfl,ov⟩:=h2
    refine⟨v2,rfl,ov.eR (a:=a) (λzz=>?_) (ax.refl _) (λb hb=>rfl) λb hb=>af hb⟩
    subst zz;exact hj (r.apart i j p q a hp e hs h1)
 ·have tr:∀{j:Nat} {q:PV},(env.set i (.own p'))[j]?=some (.own q)->∃q2,env[j]?=some (.own q2):=λ{j q} e=>by
   by_cases hj:i=j
   ·subst hj;exact⟨p,hp⟩
   ·rw [zzS hj] at e;exact⟨q,e⟩
  obtain⟨q2,f1⟩:=tr e1
  obtain⟨q3,f2⟩:=tr e2
  exact r.apart j l q2 q3 c f1 f2 e3 e4
 ·rw [af (λz=>by subst z;rw [A4] at e;cases e)];exact g.h _ _ e
 ·rw [af (λz=>by subst z;rw [hG] at e;cases e)];exact g.sub _ _ e
def zW(r:SR W H0 env σ G H)(g:aA W G0 H0 G H){i:Nat}{p:PV}{a:Addr}{ob:HO}(hi:i<env.length)(ha:H a=none)(hn:Own W H0 G (upd H a ob) p (.ref a)):
 SR W H0 (env.set i (.own p)) (σ.set i (some (.ref a))) G (upd H a ob)/\aA W G0 H0 G (upd H a ob):=by
 have gm:aA W G H G (upd H a ob):=.NV r.sub ha
 have r1:=r.grow gm
 have old:∀{j:Nat} {q:PV},env[j]?=some (.own q)->σ[j]?=some (some (.ref a))->False:=λ{j q} e1 e2=>by
  obtain⟨o2,h1,v2,rfl,ov⟩:=r.slot j _ e1
  rw [e2] at h1;cases h1;obtain⟨a',o',e3,hH,_⟩:=ov.EY
  cases e3;rw [ha] at hH;cases hH
 refine⟨⟨by rw [List.length_set,List.length_set];exact r.len,r1.sub,r1.base,λj s e=>?_,λj l q q' c e1 e2 e3 e4=>?_,r1.tab,r1.mB⟩,g.trans gm⟩
 ·by_cases hj:i=j
  ·subst hj;rw [zzo hi] at e;cases e;exact⟨_,zzo (by rw [<-r.len];exact hi),_,rfl,hn⟩
  ·rw [zzS hj] at e;obtain⟨o2,h1,h2⟩:=r1.slot j s e
   exact⟨o2,by rw [zzS hj];exact h1,h2⟩
 ·by_cases hj:i=j
  ·by_cases hl:i=l
   ·exact hj.symm.trans hl
   ·exfalso
    subst hj;rw [zzo (by rw [<-r.len];exact hi)] at e3;rw [zzS hl] at e2 e4;cases e3;exact old e2 e4
  ·by_cases hl:i=l
   ·exfalso
    subst hl;rw [zzo (by rw [<-r.len];exact hi)] at e4;rw [zzS hj] at e1 e3;cases e4;exact old e1 e3
   ·rw [zzS hj] at e1 e3;rw [zzS hl] at e2 e4;exact r.apart j l q q' c e1 e2 e3 e4
end
noncomputable def iJ:E->Bool
 |.lst _=>true
 |.comp _ _ _ _ _=>true
 |.dD _ _ _ _ _ _=>true
 |_=>false
noncomputable def oH:Expr->Bool
 |.ListComp .. =>false
 |.SetComp .. =>false
 |.DictComp .. =>false
 |_=>true
noncomputable def Oy(sc:Scope)(x:Str)(xp:Pos):Expr->Bool
 |.ListComp _ _ s p=>sc.names.lookup x==some .local&&xp.line==p.line&&!(s.names.any λ(n,k)=>n==x&&(k==.local||k==.cell))
 |_=>false
noncomputable def Jq(ts:List Expr):Option Str:=(fm ts).bind eP
noncomputable def Mo(e:Expr):Option (Str×Str×List Expr):=(Bp e).bind λq=>(JK q.1).bind λr=>(eP r.1).bind λx=>if(q.2.2.1.isEmpty&&r.2.2.endLine==q.2.2.2.line)=true then some (x,r.2.1,q.2.1) else none
noncomputable def P9(e:Expr):Option (Str×Arguments×Expr×Scope):=(Bp e).bind λq=>(eP q.1).bind λf=>(fm q.2.1).bind λa=>(eP a).bind λx=>(He q.2.2.1).bind λr=>(Mn r.2).bind λl=>if(f=="min"&&r.1=="key")=true then some (x,l.1,l.2.1,l.2.2) else none
def Hi{e:Expr}{c:Str×Arguments×Expr×Scope}(h:P9 e=some c):∃q1 q2 q3 q4 q5,e=.Call (.Name "min" q1) [.Name c.1 q2] [⟨some "key",.Lambda c.2.1 c.2.2.1 c.2.2.2 q3,q4⟩] q5:=by
 obtain⟨⟨f,a,k,p⟩,h1,h⟩:=iY h
 obtain⟨g,h2,h⟩:=iY h
 obtain⟨b,h3,h⟩:=iY h
 obtain⟨x,h4,h⟩:=iY h
 obtain⟨⟨n,v⟩,h5,h⟩:=iY h
 obtain⟨⟨l1,l2,l3⟩,h6,h⟩:=iY h
 obtain⟨h7,rfl⟩:=if1 h
 rw [zza,zzy,zzy] at h7;obtain⟨rfl,z8⟩:=h7
 obtain⟨p2,z2⟩:=bM h2
 obtain⟨p4,z4⟩:=bM h4
 obtain⟨p5,z5⟩:=zl h5
 obtain⟨p6,z6⟩:=k9 h6
 have z3:=cY h3
 dsimp only at z2 z3 z4 z5 z6 z8;subst z2 z3 z4 z5 z6 z8;exact⟨_,_,_,_,_,gW h1⟩
noncomputable def Qa(e:Expr):Option (Expr×Arguments×Expr×Scope):=(Bp e).bind λq=>(eP q.1).bind λf=>(fm q.2.1).bind λa=>(He q.2.2.1).bind λr=>(Mn r.2).bind λl=>if(f=="min"&&r.1=="key")=true then some (a,l.1,l.2.1,l.2.2) else none
def Hj{e:Expr}{c:Expr×Arguments×Expr×Scope}(h:Qa e=some c):∃q1 q3 q4 q5,e=.Call (.Name "min" q1) [c.1] [⟨some "key",.Lambda c.2.1 c.2.2.1 c.2.2.2 q3,q4⟩] q5:=by
 obtain⟨⟨f,a,k,p⟩,h1,h⟩:=iY h
 obtain⟨g,h2,h⟩:=iY h
 obtain⟨b,h3,h⟩:=iY h
 obtain⟨⟨n,v⟩,h5,h⟩:=iY h
 obtain⟨⟨l1,l2,l3⟩,h6,h⟩:=iY h
 obtain⟨h7,rfl⟩:=if1 h
 rw [zza,zzy,zzy] at h7;obtain⟨rfl,z8⟩:=h7
 obtain⟨p2,z2⟩:=bM h2
 obtain⟨p5,z5⟩:=zl h5
 obtain⟨p6,z6⟩:=k9 h6
 have z3:=cY h3
 dsimp only at z2 z3 z5 z6 z8;subst z2 z3 z5 z6 z8;exact⟨_,_,_,_,gW h1⟩
noncomputable def CJ(x p:Str)(e:Expr):Bool:=(EU e).any λq=>(EU q.1).any λr=>eP r.1==some x&&eP r.2==some p&&(Je q.2).bind Mg==some 0
noncomputable def m8(x:Str)(params:Arguments)(body:Expr)(scope:Scope):Bool:=match ma params with
 |some [p]=>CJ x p body&&decide (aO scope=[x])&&Mt [p] scope&&okN p&&okN x
 |_=>false
def qz{x:Str}{params:Arguments}{body:Expr}{scope:Scope}(h:m8 x params body scope=true):∃p,ma params=some [p]/\iV p x params body scope/\aO scope=[x]/\okN x=true:=by
 unfold m8 at h;split at h
 ·rename_i p e;simp! [zza,zzN] at h;obtain⟨⟨⟨⟨h1,h2⟩,h3⟩,h4⟩,h5⟩:=h
  refine⟨p,e,⟨?_,by rw [<-h2];exact Az h3,(da h4).1,(da h4).2.1,(da h5).1,(da h5).2.1⟩,h2,h5⟩;obtain⟨⟨a,b⟩,e1,h6⟩:=ah h1
  obtain⟨⟨c,d⟩,e2,h7⟩:=ah h6
  simp! [zza,zzy] at h7;obtain⟨p1,rfl⟩:=pf e1
  obtain⟨p2,z2⟩:=pf e2
  obtain⟨p3,z3⟩:=bM h7.1.1
  obtain⟨p4,z4⟩:=bM h7.1.2
  obtain⟨c5,y5,y6⟩:=iY h7.2
  obtain⟨p5,p6,z5⟩:=rP y5
  cases sj y6;dsimp only at z2 z3 z4 z5;subst z3 z4 z5 z2;exact⟨_,_,_,_,_,_,rfl⟩
 ·cases h
noncomputable def Oo(ts:List Expr):Option (Str×Expr):=(fm ts).bind λt=>(EU t).bind λq=>(eP q.1).bind λx=>some (x,q.2)
noncomputable def Qm(o:Option Expr):Option (Str×Str):=o.bind λe=>(Bp e).bind λq=>(eP q.1).bind λx=>(fm q.2.1).bind λa=>(Je a).bind λc=>(IC c).bind λz=>if q.2.2.1.isEmpty=true then some (x,z) else none
noncomputable def tV:Stmt->Option (List Expr×Expr×Pos)
 |.Assign ts v p=>some (ts,v,p)
 |_=>none
def lx{ts:List Expr}{x:Str}(h:Jq ts=some x):∃xp,ts=[.Name x xp]:=by
 obtain⟨t,h1,h2⟩:=iY h
 obtain⟨p,rfl⟩:=bM h2
 exact⟨p,cY h1⟩
def sx{p:Expr}{x m:Str}{args:List Expr}(h:Mo p=some (x,m,args)):∃np apos bI,p=.Call (.Attribute (.Name x np) m apos) args [] bI/\(apos.endLine==bI.line)=true:=by
 obtain⟨⟨f,a,k,cp⟩,h1,h⟩:=iY h
 obtain⟨⟨o,m',ap⟩,h2,h⟩:=iY h
 obtain⟨y,h3,h⟩:=iY h
 obtain⟨h4,h⟩:=if1 h
 cases h;rw [zza] at h4;obtain⟨p3,z3⟩:=bM h3
 have z2:=x8 h2
 have z5:=List.isEmpty_iff.1 h4.1
 dsimp only at z2 z3 z5;subst z3 z2 z5;exact⟨_,_,_,gW h1,h4.2⟩
def Ay{ts:List Expr}{x:Str}{pk:Expr}(h:Oo ts=some (x,pk)):∃np sp,ts=[.Subscript (.Name x np) pk sp]:=by
 obtain⟨t,h1,h⟩:=iY h
 obtain⟨⟨a,b⟩,h2,h⟩:=iY h
 obtain⟨y,h3,h⟩:=iY h
 cases h;obtain⟨p3,z3⟩:=bM h3
 obtain⟨p2,z2⟩:=pf h2
 dsimp only at z3;subst z3 z2;exact⟨_,_,cY h1⟩
def Io{o:Option Expr}{x z:Str}(h:Qm o=some (x,z)):∃np j zp cp,o=some (.Call (.Name x np) [.Constant (.str z) j zp] [] cp):=by
 obtain⟨e,h0,h⟩:=iY h
 obtain⟨⟨f,a,k,cp⟩,h1,h⟩:=iY h
 obtain⟨y,h2,h⟩:=iY h
 obtain⟨t,h3,h⟩:=iY h
 obtain⟨c,h4,h⟩:=iY h
 obtain⟨w,h5,h⟩:=iY h
 obtain⟨h6,h⟩:=if1 h
 cases h;obtain⟨p2,z2⟩:=bM h2
 obtain⟨p4,q4,z4⟩:=rP h4
 have z3:=cY h3
 have z5:=AL h5
 have z6:=List.isEmpty_iff.1 h6
 dsimp only at z2 z3 z6;subst z2 z5 z4 z3 z6;exact⟨_,_,_,_,h0.trans (congrArg some (gW h1))⟩
mutual
noncomputable def eh(Γ:Pg)(N:List Str)(sc:Scope):S->Stmt->Bool
 |.expr e,.Expr p _=>oH p&&bh Γ N sc e p
 |.set i e,.Assign ts p _=>(Jq ts).any λx=>N[i]?==some x&&eY sc x&&gB e&&bh Γ N sc e p
 |.own i e,.Assign ts p _=>(Jq ts).any λx=>N[i]?==some x&&eY sc x&&iJ e&&bh Γ N sc e p
 |.app i e,.Expr v _=>(Mo v).any λc=>N[i]?==some c.1&&ei sc c.1&&okN c.1&&c.2.1==("append":Str)&&gB e&&(fm c.2.2).any λp=>bh Γ N sc e p
 |.og i e,.Expr v _=>(Mo v).any λc=>N[i]?==some c.1&&ei sc c.1&&okN c.1&&c.2.1==("extend":Str)&&(fm c.2.2).any λp=>bh Γ N sc e p
 |.put i kk e,.Assign ts p _=>(Oo ts).any λc=>N[i]?==some c.1&&ei sc c.1&&okN c.1&&gB e&&bh Γ N sc kk c.2&&bh Γ N sc e p
 |.ret e,.Return (some p) _=>gB e&&bh Γ N sc e p
 |.ite c a b,.If p pa pb _=>fC c&&bh Γ N sc c p&&cV Γ N sc a pa&&cV Γ N sc b pb
 |.dF tg it b,.For cU fJ pb els _=>els.isEmpty&&gU N sc (λ_=>true) tg cU&&B1 it&&vY Γ N sc cU it fJ&&cV Γ N sc b pb
 |.Bd c b,.While p pb els _=>els.isEmpty&&fC c&&bh Γ N sc c p&&cV Γ N sc b pb
 |.raise c m,.Raise ex fr _=>fr.isNone&&(Qm ex).any λq=>c==q.1&&m==q.2&&Γ.rs.contains c&&ic sc c&&okN c
 |.brk,.Break _=>true
 |.i4 i,.Assign ts (.Dict [] [] _) _=>(Jq ts).any λx=>N[i]?==some x&&eY sc x
 |.d8 i j n,.Assign ts v _=>(Oo ts).any λc=>(eP c.2).any λz=>N[i]?==some c.1&&ei sc c.1&&okN c.1&&N[n]?==some z&&ei sc z&&okN z&&(Mo v).any λd=>d.2.1==("pop":Str)&&(fm d.2.2).any λe=>(eP e).any λz2=>z==z2&&N[j]?==some d.1&&ei sc d.1&&okN d.1
 |.mi m e i,.Assign ts v _=>(Jq ts).any λy=>(Qa v).any λc=>(N[i]?).any λx=>N[m]?==some y&&eY sc y&&sc.names.lookup x==some .cell&&ic sc "min"&&Γ.bs.contains "min"&&Γ.hl&&m8 x c.2.1 c.2.2.1 c.2.2.2&&bh Γ N sc e c.1
 |.lh m i,.Assign ts v _=>(Jq ts).any λy=>(P9 v).any λc=>N[m]?==some y&&eY sc y&&N[i]?==some c.1&&sc.names.lookup c.1==some .cell&&ic sc "min"&&Γ.bs.contains "min"&&Γ.hl&&m8 c.1 c.2.1 c.2.2.1 c.2.2.2
 |_,_=>false
noncomputable def cV(Γ:Pg)(N:List Str)(sc:Scope):Ss->List Stmt->Bool
 |.nil,[]=>true
 |.cons (.bq _) ss,ps=>cV Γ N sc ss ps
 |.cons s ss,p::ps=>eh Γ N sc s p&&cV Γ N sc ss ps
 |_,_=>false
end
section
variable{Γ:Pg}{X:Cx}{W:Wd}{F:aU}{N:List Str}{sc:Scope}{k:Nat}{H0:Hp}{E:XK}
def SR.go{env:Sl}{σ:St}{G H:Hp}(r:SR W H0 env σ G H):aA W G H0 G H:=⟨ax.refl _,r.base,r.sub,λ_ _ _ h=>h,λ_=>r.tab⟩
def aA.then{G G1 H1 G2 H2:Hp}(a:aA W G H0 G1 H1)(b:aA W G1 H0 G2 H2):aA W G H0 G2 H2:=⟨a.g.trans b.g,b.h,b.sub,λx h1 h3 h2=>b.own x h1 h3 (a.own x h1 h3 h2),λt=>b.tab (t.same a.g a.own λ_ _ h=>h)⟩
def SR.on{env:Sl}{σ:St}{G H G1 H1:Hp}(r:SR W H0 env σ G H)(g:aA W G H G1 H1):aA W G H0 G1 H1:=⟨g.g,r.base.trans g.h,g.sub,λx h1 h3 h2=>g.own x (λz=>h1 (r.base.free z)) (r.base.uY h1 h3) h2,λ_=>g.tab r.tab⟩
def Dn(W:Wd)(H0 G:Hp)(D:Ends):Fl->Prop
 |.nx env=>∀σ G' H',SR W H0 env σ G' H'->aA W G H0 G' H'->D.nx σ H'
 |.bk env=>∀σ G' H',SR W H0 env σ G' H'->aA W G H0 G' H'->D.bk σ H'
 |.ct env=>∀σ G' H',SR W H0 env σ G' H'->aA W G H0 G' H'->D.ct σ H'
 |.rt p=>∀v G' H',Rep W G' p v->aA W G H0 G' H'->D.rt v H'
def cj(W:Wd)(H0 G:Hp)(E:XK)(r:Res Fl)(D:Ends):Prop:=match r with
 |.ok f=>Dn W H0 G D f
 |.exc c=>∀Cv ao H',XE W c G H0 Cv ao H'->E Cv ao H'
 |.bad=>False
def Dn.on{G G1 H1:Hp}{D:Ends}{f:Fl}(h:Dn W H0 G D f)(g:aA W G H0 G1 H1):Dn W H0 G1 D f:=by
 cases f with
 |nx env=>exact λσ G' H' r g'=>h σ G' H' r (g.then g')
 |bk env=>exact λσ G' H' r g'=>h σ G' H' r (g.then g')
 |ct env=>exact λσ G' H' r g'=>h σ G' H' r (g.then g')
 |rt p=>exact λv G' H' r g'=>h v G' H' r (g.then g')
def cj.on{G G1 H1:Hp}{D:Ends}{r:Res Fl}(h:cj W H0 G E r D)(g:aA W G H0 G1 H1):cj W H0 G1 E r D:=by
 cases r with
 |ok f=>exact Dn.on h g
 |exc c=>
  intro Cv ao H' x;obtain⟨C,a,G',e1,e2,e3,e4,g2⟩:=x
  exact h Cv ao H' ⟨C,a,G',e1,e2,e3,e4,g.then g2⟩
 |bad=>exact h
noncomputable def tS(W:Wd)(F:aU)(H0:Hp)(E:XK)(s:S):TS:=λD σ H=>∃G env,SR W H0 env σ G H/\cj W H0 G E (ib F s env) D
noncomputable def Qw(W:Wd)(F:aU)(H0:Hp)(E:XK)(ss:Ss):TS:=λD σ H=>∃G env,SR W H0 env σ G H/\cj W H0 G E (bw F ss env) D
abbrev GS(X:Cx)(W:Wd)(F:aU)(H0:Hp)(E:XK)(s:S)(p:Stmt):Prop:=PS X p (tS W F H0 E s)
abbrev xU(X:Cx)(W:Wd)(F:aU)(H0:Hp)(E:XK)(s:Ss)(p:List Stmt):Prop:=tO X p (Qw W F H0 E s)
def _root_.L2.PS.imp{p:Stmt}{t t':TS}(h:PS X p t)(i:∀D σ H,t' D σ H->t D σ H):PS X p t':=λaa s σ H D I hw=>h aa s σ H D I (i D σ H hw)
def _root_.L2.tO.imp{p:List Stmt}{t t':TS}(h:tO X p t)(i:∀D σ H,t' D σ H->t D σ H):tO X p t':=λaa s σ H D I hw=>h aa s σ H D I (i D σ H hw)
structure dU(Γ:Pg)(F:aU)(W:Wd)(N:List Str)(sc:Scope)(k:Nat)(E:XK)(X:Cx):Prop where
 C:dy Γ F W N sc k X
 fn:∀x,X.fn x=true
 own:PassesOwn (model X.prog X.w) X.A X.env X.xe
 pass:Passes (dO X.prog X.w) X E
 kind:sc.kind=.function
 Lx:X.stack=X.env::X.outer
 frame:X.env.frame=some X.env.locals
 xs:∀c,Γ.rs.contains c=true->c∈W.xs
 rm:∀c,Γ.rs.contains c=true->∃C,X.mg c=some (.ref C)
 rz:Γ.qt=false->∀(c z:Str) (j:Nat) (np zp cp pos:Pos),Γ.rs.contains c=true->ic sc c=true->okN c=true->PS X (.Raise (some (.Call (.Name c np) [.Constant (.str z) j zp] [] cp)) none pos) (λ_ _ H=>∀C e,X.mg c=some (.ref C)->H e=none->E (.ref C) (some e) H)
 L7:Γ.cs.contains "FloorError"=true->∀c D,c∈W.xs->X.mg c=some (.ref D)->∀T,X.mg "FloorError"=some (.ref T)->PySem.W.exmOne X.K (.ref D) (.ref T)=some true
theorem DF(S:dU Γ F W N sc k E X){c:Str}{σ:St}{Gs G H:Hp}(g:aA W Gs H0 G H)(h:∀Cv ao H',XE W c Gs H0 Cv ao H'->E Cv ao H'):rG X W σ c G H:=λaa G1 H1 s1 e s' I g1 x=>
 S.pass aa σ H1 s1 e s' I (Bi.imp x λCv a H' y=>h Cv a H' (by
  obtain⟨C,a',G',e1,e2,e3,e4,g2⟩:=y
  have g3:=g1.trans g2
  exact⟨C,a',G',e1,e2,e3,e4,g.g.trans g3.g,g.h.trans g3.h,g3.sub,λx h1 h3 h2=>g3.own x (λz=>h1 (g.h.free z)) (g.h.uY h1 h3) (g.own x h1 h3 h2),λt=>g3.tab (g.tab t)⟩))
def cj.bind{α:Type}(S:dU Γ F W N sc k E X){r:Res α}{f:α->Res Fl}{D:Ends}{env:Sl}{σ:St}{G H:Hp}(sr:SR W H0 env σ G H)(h:cj W H0 G E (r.bind f) D):Out X W r σ G H λa=>cj W H0 G E (f a) D:=by
 cases r with
 |ok a=>exact h
 |exc c=>exact DF S sr.go h
 |bad=>exact h
def oK(S:dU Γ F W N sc k E X){env:Sl}{σ:St}{G H:Hp}{e:Ci.E}{f:PV->Res Fl}{D:Ends}{Q:VK}(sr:SR W H0 env σ G H)(o:cj W H0 G E ((aC F e env).bind f) D)
 (h:∀p v G1 H1,aA W G H G1 H1->Got W H0 G1 H1 e p v->SR W H0 env σ G1 H1->cj W H0 G1 E (f p) D->Q v H1):tE X W F e σ H Q:=
 ⟨H0,G,env,sr,(o.bind S sr).imp λp hp v G1 H1 g1 t=>h p v G1 H1 g1 t (sr.grow g1) (hp.on (sr.on g1))⟩
def EK(S:dU Γ F W N sc k E X){env:Sl}{σ:St}{G H:Hp}{e:Ci.E}{f:Bool->Res Fl}{D:Ends}{Q:Bool->Hp->Prop}(sr:SR W H0 env σ G H)(o:cj W H0 G E ((aC F e env).bind λp=>pB p f) D)
 (h:∀b G1 H1,aA W G H G1 H1->SR W H0 env σ G1 H1->cj W H0 G1 E (f b) D->Q b H1):tT X W F e σ H Q:=by
 refine⟨H0,G,env,sr,(o.bind S sr).imp λp hp=>?_⟩
 cases p with
 |bl b=>exact⟨b,rfl,λG1 H1 g1=>h b G1 H1 g1 (sr.grow g1) (cj.on hp (sr.on g1))⟩
 |aM=>exact zzk hp
 |int _=>exact zzk hp
 |str _=>exact zzk hp
 |tup _=>exact zzk hp
 |lst _=>exact zzk hp
 |exc _=>exact zzk hp
 |bF _ _=>exact zzk hp
def K9(S:dU Γ F W N sc k E X){env:Sl}{σ:St}{G H:Hp}{e:Ci.E}{f:PV->Res Fl}{D:Ends}{Q:VK}(hl:∀env q,aC F e env=.ok q->∃xs,q=.lst xs)(sr:SR W H0 env σ G H)(o:cj W H0 G E ((aC F e env).bind f) D)
 (h:∀xs a vs G1 H1,aA W G H G1 H1->H1 a=none->ai W G1 xs vs->SR W H0 env σ G1 H1->cj W H0 G1 E (f (.lst xs)) D->Q (.ref a) (upd H1 a (.lst vs))):tF X W F e σ H Q:=by
 refine⟨H0,G,env,sr,?_⟩;have o2:=o.bind S sr
 cases r:aC F e env with
 |bad=>rw [r] at o2;exact o2
 |exc c=>rw [r] at o2;exact o2
 |ok q=>
  rw [r] at o2;obtain⟨xs,rfl⟩:=hl env q r
  exact⟨xs,rfl,λa vs G' H' g ha l=>h xs a vs G' H' g ha l (sr.grow g) (cj.on o2 (sr.on g))⟩
def pg{p:Expr}{t:Option Expr}{l:Nat}{env:Env}(h:oH p=true):swapsWith p t l env=pure false:=by
 cases p<;>first|rfl|(exact aV h)
def j8{elt:Expr}{gens:List Comprehension}{s:Scope}{p:Pos}{x:Str}{xp:Pos}{l:Nat}(eE:X.env.scope=sc)(hk:sc.kind=.function):swapsWith (.ListComp elt gens s p) (some (.Name x xp)) l X.env=pure (Oy sc x xp (.ListComp elt gens s p)):=by
 have hb:X.env.blockKind=.function:=by
  unfold Env.blockKind;rw [eE,hk]
  rfl
 show(pure (X.env.blockKind==.function&&X.env.kindOf x==some .local&&xp.line==p.line&&!(s.names.any λ(n,k)=>n==x&&(k==.local||k==.cell))):Sem Bool)=_
 rw [hb];show(pure (true&&X.env.scope.names.lookup x==some .local&&_&&_):Sem Bool)=_
 rw [eE]
 rfl
theorem Cd(S:dU Γ F W N sc k E X){e:Ci.E}{p:Expr}{pos:Pos}(he:GE X W F e p)(hn:oH p=true):GS X W F H0 E (.expr e) (.Expr p pos):=
 L2.PS.imp (oV he (pg hn)) λD σ H h=>by
  obtain⟨G,env,sr,o⟩:=h
  rw [ib] at o;exact oK S sr o λq v G1 H1 g t bH o1=>o1 σ G1 H1 bH bH.go
theorem Gp(S:dU Γ F W N sc k E X){e:Ci.E}{p:Expr}{pos:Pos}(dB:gB e=true)(he:GE X W F e p):GS X W F H0 E (.ret e) (.Return (some p) pos):=
 L2.PS.imp (H9 he) λD σ H h=>by
  obtain⟨G,env,sr,o⟩:=h
  rw [ib] at o;exact oK S sr o λq v G1 H1 g t bH o1=>o1 v G1 H1 (t.rep dB) bH.go
theorem Gk{pos:Pos}:GS X W F H0 E .brk (.Break pos):=
 L2.PS.imp Aq λD σ H h=>by
  obtain⟨G,env,sr,o⟩:=h
  rw [ib] at o;exact o σ G H sr sr.go
theorem yL(S:dU Γ F W N sc k E X)(rC:Γ.qt=false){c m:Str}{j:Nat}{np zp cp pos:Pos}(h1:Γ.rs.contains c=true)(h2:ic sc c=true)(h3:okN c=true):GS X W F H0 E (.raise c m) (.Raise (some (.Call (.Name c np) [.Constant (.str m) j zp] [] cp)) none pos):=
 L2.PS.imp (S.rz rC c m j np zp cp pos h1 h2 h3) λD σ H h C e hC he=>by
  obtain⟨G,env,sr,o⟩:=h
  rw [ib] at o;exact o _ _ _ ⟨C,e,G,rfl,rfl,S.xs c h1,by rw [S.C.mg];exact hC,sr.go⟩
def dW(S:dU Γ F W N sc k E X){i:Nat}{x:Str}(h:N[i]?=some x)(hl:eY sc x=true):X.N.Nodup/\X.N[i]?=some x/\Loc X.env.scope x:=by
 refine⟨by rw [S.C.hN];exact S.C.nd,by rw [S.C.hN];exact h,zw S.C.eE hl⟩
def Gq(S:dU Γ F W N sc k E X){i:Nat}{x:Str}{e:Ci.E}{p:Expr}{xp pos:Pos}(h:N[i]?=some x)(hl:eY sc x=true)(dB:gB e=true)(he:GE X W F e p)(hs:swapsWith p (some (.Name x xp)) pos.line X.env=pure false):GS X W F H0 E (.set i e) (.Assign [.Name x xp] p pos):=by
 obtain⟨a1,a2,a3⟩:=dW S h hl
 refine L2.PS.imp (lF a1 a2 a3 he hs (.inl (S.fn x))) λD σ H h=>?_
 obtain⟨G,env,sr,o⟩:=h
 rw [ib] at o;exact oK S sr o λq v G1 H1 g t bH o1=>o1 _ G1 H1 (bH.set i (t.rep dB)) bH.go
noncomputable def Js(X:Cx)(W:Wd)(F:aU)(i:Nat)(e:Ci.E):TS:=λD σ H=>tF X W F e σ H λv H1=>D.nx (σ.set i (some v)) H1
def LC{e:Ci.E}(hl:∀env q,aC F e env=.ok q->∃xs,q=.lst xs)(σ:St)(H:Hp)(Q:VK)(h:tE X W F e σ H Q):tF X W F e σ H Q:=by
 obtain⟨H0,G,env,sr,o⟩:=h
 refine⟨H0,G,env,sr,?_⟩;cases r:aC F e env with
 |bad=>rw [r] at o;exact o
 |exc c=>rw [r] at o;exact o
 |ok q=>
  rw [r] at o;obtain⟨xs,rfl⟩:=hl env q r
  exact⟨xs,rfl,λa vs G' H' g ha l=>o _ _ _ (g.trans (.new g.sub ha)) (.of (.l (.inl (.inl ak)) (ai.same (bT (g.sub.free ha)) xs l)))⟩
theorem Ck(S:dU Γ F W N sc k E X){i:Nat}{e:Ci.E}{p:Stmt}(hl:∀env q,aC F e env=.ok q->∃xs,q=.lst xs)(dB:gB e=true)(h:PS X p (Js X W F i e)):GS X W F H0 E (.set i e) p:=
 L2.PS.imp h λD σ H hq=>by
  obtain⟨G,env,sr,o⟩:=hq
  rw [ib] at o;refine LC hl σ H _ (oK S sr o λq v G1 H1 g t bH o1=>?_);exact o1 _ G1 H1 (bH.set i (t.rep dB)) bH.go
def Cj(S:dU Γ F W N sc k E X){i:Nat}{x:Str}{e:Ci.E}{p:Stmt}(hi:N[i]?=some x)(hl:∀env q,aC F e env=.ok q->∃xs,q=.lst xs)(h:PS X p (Js X W F i e)):GS X W F H0 E (.own i e) p:=by
 intro aa s σ H D I hq;have Nt:i<σ.length:=by rw [I.len,S.C.hN];exact(zzH.mp hi).1
 refine h aa s σ H D I ?_;obtain⟨G,env,sr,o⟩:=hq
 rw [ib] at o;refine K9 S hl sr o λxs a vs G1 H1 g ha l bH o1=>?_
 have hO:Own W H0 G1 (upd H1 a (.lst vs)) (.lst xs) (.ref a):=⟨a,vs,rfl,ak,bH.sub.free ha,bH.base.free ha,l⟩
 obtain⟨r2,g2⟩:=zW bH bH.go (i:=i) (by rw [bH.len];exact Nt) ha hO
 exact o1 _ G1 _ r2 g2
def oU{i:Nat}{x:Str}{e:Ci.E}{p:Expr}{xp pos:Pos}(S:dU Γ F W N sc k E X)(h:N[i]?=some x)(hl:eY sc x=true)(he:GF X W F e p)(hs:swapsWith p (some (.Name x xp)) pos.line X.env=pure false):PS X (.Assign [.Name x xp] p pos) (Js X W F i e):=by
 obtain⟨a1,a2,a3⟩:=dW S h hl
 exact lF a1 a2 a3 he hs (.inl (S.fn x))
def x6(S:dU Γ F W N sc k E X)(rC:Γ.qt=false){i:Nat}{x:Str}{xp fE:Pos}(hx:N[i]?=some x)(Cs:eY sc x=true){kk:Nat}{aS:List Nat}{tg:Tg}{it:I}{elt:Ci.E}{cU fJ eQ:Expr}{scope:Scope}{pos:Pos}(h:ke N sc scope kk aS (aF cU))(cm:lR kk tg=true)(dB:gB elt=true)(hi:GI X W F cU it fJ)(qo:∀x,foldedSetIterable fJ X.env x=pure x)
 (yY:gU (aF cU++freeOf scope) (cZ scope sc) (lB scope) tg cU=true) (he:∀Y,dy Γ.Bb F W (aF cU++freeOf scope) (cZ scope sc) k Y->GE Y W F elt eQ):PS X (.Assign [.Name x xp] (.ListComp eQ [⟨cU,fJ,[],0⟩] scope pos) fE) (Js X W F i (.comp kk aS tg it elt)):=by
 obtain⟨a1,a2,a3⟩:=dW S hx Cs
 cases yX:Oy sc x xp (.ListComp eQ [⟨cU,fJ,[],0⟩] scope pos) with
 |false=>exact oU S hx Cs (uz S.C rC h cm dB hi qo yY he) (by rw [j8 S.C.eE S.kind,yX])
 |true=>
  intro aa s σ H D I hq;have Hk:(freeOf scope).Nodup:=(List.nodup_append.mp h.nd).2.1
  have rd:=uf (N:=N) S.C.K cm dB h.slots Hk σ H _ hq
  have:=sN (g:=gT X.K tg) (te:=tN W F elt) (xs:=aF cU) (ys:=freeOf scope) (is:=aS) (pos:=pos) a1 a2 a3 (S.C.calm rC) (n6 S.C.hN S.C.eE I.ok h) hi
   (λfp s1 H1 A=>Af (fn:=lB scope) (X:=bQ X (aF cU++freeOf scope) scope (bE X.env (freeOf scope)) fp s1 H1 A) rfl h.nd (e9 S.C.eE) rfl (λ_ z=>z) yY)
   (λfp s1 H1 A=>L2.PE.imp (he _ (eV S.C h fp s1 H1 A)) λσ H Q z=>vx σ H Q z) (by rw [j8 (l:=fE.line) S.C.eE S.kind,yX]) qo (.inl (S.fn x)) aa s σ H D I
  rw [h.len] at this;exact this rd
def rL(S:dU Γ F W N sc k E X)(rC:Γ.qt=false){i:Nat}{x:Str}{xp fE:Pos}(hx:N[i]?=some x)(Cs:eY sc x=true){kk:Nat}{aS:List Nat}{tg:Tg}{it:I}{c elt:Ci.E}{cU fJ pc eQ:Expr}{scope:Scope}{pos:Pos}(h:ke N sc scope kk aS (aF cU))(cm:lR kk tg=true)(dB:gB elt=true)(hi:GI X W F cU it fJ)(qo:∀x,foldedSetIterable fJ X.env x=pure x)
 (yY:gU (aF cU++freeOf scope) (cZ scope sc) (lB scope) tg cU=true) (hc:∀Y,dy Γ.Bb F W (aF cU++freeOf scope) (cZ scope sc) k Y->GT Y W F c pc) (he:∀Y,dy Γ.Bb F W (aF cU++freeOf scope) (cZ scope sc) k Y->GE Y W F elt eQ):PS X (.Assign [.Name x xp] (.ListComp eQ [⟨cU,fJ,[pc],0⟩] scope pos) fE) (Js X W F i (.dD kk aS tg it c elt)):=by
 obtain⟨a1,a2,a3⟩:=dW S hx Cs
 cases yX:Oy sc x xp (.ListComp eQ [⟨cU,fJ,[pc],0⟩] scope pos) with
 |false=>exact oU S hx Cs (mW S.C rC h cm dB hi qo yY hc he) (by rw [j8 S.C.eE S.kind,yX])
 |true=>
  intro aa s σ H D I hq;have Hk:(freeOf scope).Nodup:=(List.nodup_append.mp h.nd).2.1
  have rd:=mL (N:=N) S.C.K cm dB h.slots Hk σ H _ hq
  have:=oW (g:=gT X.K tg) (tt:=Mx W F c) (te:=tN W F elt) (xs:=aF cU) (ys:=freeOf scope) (is:=aS) (pos:=pos) a1 a2 a3 (S.C.calm rC) (n6 S.C.hN S.C.eE I.ok h) hi
   (λfp s1 H1 A=>Af (fn:=lB scope) (X:=bQ X (aF cU++freeOf scope) scope (bE X.env (freeOf scope)) fp s1 H1 A) rfl h.nd (e9 S.C.eE) rfl (λ_ z=>z) yY)
   (λfp s1 H1 A=>L2.PT.imp (hc _ (eV S.C h fp s1 H1 A)) λσ H Q z=>AQ σ H Q z)
   (λfp s1 H1 A=>L2.PE.imp (he _ (eV S.C h fp s1 H1 A)) λσ H Q z=>vx σ H Q z) (by rw [j8 (l:=fE.line) S.C.eE S.kind,yX]) qo (.inl (S.fn x)) aa s σ H D I
  rw [h.len] at this;exact this rd
def xb{tg:Tg}{p:PV}{env:Sl}(c:Str):Tg.put tg p env≠.exc c:=by
 unfold Tg.put;split<;>exact λz=>nomatch z
theorem yK(S:dU Γ F W N sc k E X){c:Ci.E}{a b:Ss}{p:Expr}{pa pb:List Stmt}{pos:Pos}(hc:GT X W F c p)(ha:xU X W F H0 E a pa)(hb:xU X W F H0 E b pb):GS X W F H0 E (.ite c a b) (.If p pa pb pos):=
 L2.PS.imp (Lm hc ha hb) λD σ H h=>by
  obtain⟨G,env,sr,o⟩:=h
  rw [ib] at o;refine EK S sr o λt G1 H1 g bH o1=>?_
  cases t with
  |true=>
   rw [if_pos rfl] at o1⊢;exact⟨G1,env,bH,o1⟩
  |false=>
   rw [if_neg zzf] at o1⊢;exact⟨G1,env,bH,o1⟩
theorem Gr(S:dU Γ F W N sc k E X){c:Ci.E}{b:Ss}{p:Expr}{pb:List Stmt}{pos:Pos}(hc:GT X W F c p)(hb:xU X W F H0 E b pb):GS X W F H0 E (.Bd c b) (.While p pb [] pos):=
 L2.PS.imp (As S.own hc hb) λD σ H h=>by
  obtain⟨G,env,sr,o⟩:=h
  rw [ib] at o;refine⟨λm σ' H'=>∃G' ay,SR W H0 ay σ' G' H'/\aA W G H0 G' H'/\cj W H0 G' E (c7 (aC F c) (bw F b) m ay) D,⟨_,G,env,sr,sr.go,o⟩,?_⟩
  rintro m σ' H' ⟨G',ay,sr',g',o'⟩
  cases m with
  |zero=>exact o'.elim
  |succ m=>
   unfold c7 at o';refine EK S sr' o' λt G1 H1 g1 bH o1=>?_
   cases t with
   |false=>
    rw [if_neg zzf] at o1⊢;exact o1 σ' G1 H1 bH bH.go
   |true=>
    rw [if_pos rfl] at o1⊢;refine⟨λσ2 H2=>∃G2 eN,SR W H0 eN σ2 G2 H2/\aA W G H0 G2 H2/\cj W H0 G2 E (c7 (aC F c) (bw F b) m eN) D,λσ2 H2 h2=>⟨m,Nat.lt_succ_self _,h2⟩,G1,ay,bH,?_⟩
    have gg:=g'.then (sr'.on g1)
    cases r:bw F b ay with
    |bad=>rw [r] at o1;exact o1.elim
    |exc cc=>rw [r] at o1;exact o1
    |ok f=>
     rw [r] at o1;cases f with
     |nx eN=>exact λσ2 G2 H2 d9 g2=>⟨G2,eN,d9,gg.then g2,cj.on (show cj W H0 G1 E (c7 (aC F c) (bw F b) m eN) D from o1) g2⟩
     |ct eN=>exact λσ2 G2 H2 d9 g2=>⟨G2,eN,d9,gg.then g2,cj.on (show cj W H0 G1 E (c7 (aC F c) (bw F b) m eN) D from o1) g2⟩
     |bk eN=>exact λσ2 G2 H2 d9 g2=>o1 σ2 G2 H2 d9 g2
     |rt q=>exact λv G2 H2 rv g2=>o1 v G2 H2 rv g2
def Gm(S:dU Γ F W N sc k E X)(rC:Γ.qt=false){tg:Tg}{it:I}{b:Ss}{cU fJ:Expr}{pb:List Stmt}{pos:Pos}(yY:gU N sc (λ_=>true) tg cU=true)(hit:B1 it=true)(hi:GI X W F cU it fJ)(qo:∀x,foldedSetIterable fJ X.env x=pure x)(hb:xU X W F H0 E b pb):GS X W F H0 E (.dF tg it b) (.For cU fJ pb [] pos):=
 L2.PS.imp (H8 S.own (S.C.calm rC) hi (Af (fn:=λ_=>true) S.C.hN S.C.nd S.C.eE (S.C.calm rC) (λx _=>S.fn x) yY) hb qo) λD σ H h=>by
  obtain⟨G,env,sr,o⟩:=h
  rw [ib] at o;refine⟨H0,G,env,sr,(o.bind S sr).imp λps j3 J G1 H1 g1 gi=>?_⟩
  have bq:=gi.bq hit
  generalize hf:(λ(x:PV) (env:Sl)=>(tg.put x env).bind λay=>bw F b ay)=f at j3
  have bH:=sr.grow g1
  refine⟨λi m σ' H'=>i<=ps.length/\m=ps.length-i/\∃G' ay,SR W H0 ay σ' G' H'/\aA W G1 H0 G' H'/\cj W H0 G' E (forL f (ps.drop i) ay) D,⟨_,Nat.zero_le _,rfl,G1,env,bH,bH.go,by rw [List.drop_zero];exact cj.on j3 (sr.on g1)⟩,?_⟩
  rintro i m σ' H' ⟨A7,hm,G',ay,sr',g',o'⟩
  obtain⟨ist,igo⟩:=bq i G' H' g'.g (.of (g'.g.trans sr'.sub)) sr'.sub
  by_cases hlast:i=ps.length
  ·refine .inl ⟨ist hlast,?_⟩;rw [hlast,List.drop_length] at o';exact o' σ' G' H' sr' sr'.go
  ·have cm:i<ps.length:=by omega
   obtain⟨hgo,hyld⟩:=igo ps[i] (zzg cm)
   refine .inr ⟨hgo,λσ2 H2=>i+1<=ps.length/\∃G2 eN,SR W H0 eN σ2 G2 H2/\aA W G1 H0 G2 H2/\cj W H0 G2 E (forL f (ps.drop (i+1)) eN) D,λσ2 H2 h2=>⟨ps.length-(i+1),by omega,h2.1,rfl,h2.2⟩,λx l0 hy=>?_⟩
   obtain⟨tM,g'',rx⟩:=hyld x l0 hy
   rw [List.drop_eq_getElem_cons cm] at o';unfold forL at o';have Rg:f ps[i] ay=(tg.put ps[i] ay).bind λay=>bw F b ay:=by rw [<-hf]
   rw [Rg] at o';have d9:=sr'.grow g''
   have g2:=g'.then (sr'.on g'')
   cases r:tg.put ps[i] ay with
   |bad=>rw [r] at o';exact o'.elim
   |exc c=>exact absurd r (xb c)
   |ok eN=>
    rw [r] at o';refine rX S.C.K r d9 rx λσ2 sr3=>⟨tM,eN,sr3,?_⟩
    have o2:cj W H0 tM E ((bw F b eN).bind λfl=>match fl with
     |.nx ay=>forL f (ps.drop (i+1)) ay
     |.ct ay=>forL f (ps.drop (i+1)) ay
     |.bk ay=>.ok (.nx ay)
     |.rt p=>.ok (.rt p)) D:=cj.on o' (sr'.on g'')
    cases r2:bw F b eN with
    |bad=>rw [r2] at o2;exact o2.elim
    |exc cc=>rw [r2] at o2;exact o2
    |ok fl=>
     rw [r2] at o2;cases fl with
     |nx env3=>exact λσ3 G3 H3 IB g3=>⟨cm,G3,env3,IB,g2.then g3,cj.on (show cj W H0 tM E (forL f (ps.drop (i+1)) env3) D from o2) g3⟩
     |ct env3=>exact λσ3 G3 H3 IB g3=>⟨cm,G3,env3,IB,g2.then g3,cj.on (show cj W H0 tM E (forL f (ps.drop (i+1)) env3) D from o2) g3⟩
     |bk env3=>exact λσ3 G3 H3 IB g3=>o2 σ3 G3 H3 IB g3
     |rt q=>exact λv G3 H3 rv g3=>o2 v G3 H3 rv g3
theorem uB:xU X W F H0 E .nil []:=L2.tO.imp DC λD σ H h=>by
 obtain⟨G,env,sr,o⟩:=h
 rw [bw] at o;exact o σ G H sr sr.go
theorem ql{s:Ci.S}{ss:Ss}{p:Stmt}{ps:List Stmt}(h1:GS X W F H0 E s p)(h2:xU X W F H0 E ss ps):xU X W F H0 E (.cons s ss) (p::ps):=
 L2.tO.imp (Au h1 h2) λD σ H h=>by
  obtain⟨G,env,sr,o⟩:=h
  rw [bw] at o;refine⟨G,env,sr,?_⟩;cases r:ib F s env with
  |bad=>rw [r] at o;exact o
  |exc c=>rw [r] at o;exact o
  |ok f=>
   rw [r] at o;cases f with
   |nx eN=>exact λσ2 G2 H2 d9 g2=>⟨G2,eN,d9,cj.on (show cj W H0 G E (bw F ss eN) D from o) g2⟩
   |bk eN=>exact o
   |ct eN=>exact o
   |rt q=>exact o
def Cm{i:Nat}{ss:Ss}{ps:List Stmt}(h:xU X W F H0 E ss ps):xU X W F H0 E (.cons (.bq i) ss) ps:=by
 intro aa s σ H D I hq;obtain⟨G,env,sr,o⟩:=hq
 rw [bw,ib] at o;rcases F3 sr sr.go i with⟨G',sr',g'⟩|⟨a,av,ha,k⟩
 ·exact h aa s σ H D I ⟨G',_,sr',cj.on (show cj W H0 G E (bw F ss (env.modify i oj)) D from o) g'⟩
 ·obtain⟨ob,J⟩:=I.freeze ha
  obtain⟨G',sr',g'⟩:=k ob
  exact h aa s σ _ D J ⟨G',_,sr',cj.on (show cj W H0 G E (bw F ss (env.modify i oj)) D from o) g'⟩
def sy(hK:W.K=X.K):MK X "list.extend" (λx vs H Q=>∃l b xs zs,x=.ref l/\vs=[.ref b]/\H l=some (.lst xs)/\rq W.K H b zs/\xs.length+zs.length<=sizeLine/\Q .aM (upd H l (.lst (xs++zs)))):=by
 intro aa s σ H x vs v us Q I rx rv h;obtain⟨l,b,xs,zs,rfl,rfl,hH,hB,hz,q⟩:=h
 cases rx;obtain⟨u,rfl,ru⟩:=Vals.one rv
 cases ru;obtain⟨z,aw,n,r,hl,e⟩:=I.KZ hH
 obtain⟨fD,n2,r2,PZ,z2,e2⟩:=K0 hK I hB
 have hsz:aw.toArray.size+fD.toArray.size<=sizeLine:=by rw [zzC,zzC];omega
 have KC:¬(!aw.toArray.isEmpty&&Builtin.List.listTooLong (aw.toArray.size+fD.toArray.size))=true:=by
  rw [zK hsz,Bool.and_false];exact zzf
 refine PySem.call_meets PySem.F.slot_list_extend ⟨_,e,rfl⟩ PySem.F.entry_list_extend (PySem.F.args_list_extend_2 _ _)
  (PySem.AutoSeq1.list_extend_list_list_0 l aw.toArray n b fD.toArray n2 KC (by rw [zzC];omega) (by omega)) ⟨e,e2,?_⟩
 refine⟨.aM,_,I.KY (its':=aw++fD) hH e (by simp) (r.append r2) ?_,rfl,q⟩;rw [zzM];omega
def hJ(S:dU Γ F W N sc k E X){i:Nat}{x:Str}{pos:Pos}(h:N[i]?=some x)(hv:ei sc x=true)(ho:okN x=true):PE X (.Name x pos) (pj i):=
 dm (by rw [S.C.hN];exact h) (lW S.C hv) (da ho).1 (da ho).2.1
def u0{env:Sl}{σ:St}{G H:Hp}{i:Nat}{xs:List PV}(sr:SR W H0 env σ G H)(h:env[i]?=some (.own (.lst xs))):∃a vs,σ[i]?=some (some (.ref a))/\H a=some (.lst vs)/\G a=none/\H0 a=none/\ai W G xs vs:=by
 obtain⟨o,ho,v,rfl,a,vs,rfl,h1,h2,h3,l⟩:=sr.slot i _ h
 exact⟨a,vs,ho,h1,h2,h3,l⟩
def Gj(S:dU Γ F W N sc k E X){i:Nat}{x:Str}{e:Ci.E}{p:Expr}{np apos bI pos:Pos}(h:N[i]?=some x)(hv:ei sc x=true)(ho:okN x=true)(iI:(apos.endLine==bI.line)=true)(dB:gB e=true)(he:GE X W F e p)
 (dh:∀env ps,starEach (p::ps) env=(false,eval p env)::starEach ps env):GS X W F H0 E (.app i e) (.Expr (.Call (.Attribute (.Name x np) "append" apos) [p] [] bI) pos):=by
 refine L2.PS.imp (oV (zZ PySem.F.plainAttrs_list PySem.F.slot_list_append PySem.F.type_list_append wX (hJ S h hv ho) (cH he fq (dh _ _)) rfl (by rw [dh];rfl) iI (dh _ _) rfl) rfl) λD σ H hq=>?_
 obtain⟨G,env,sr,o⟩:=hq
 rw [ib] at o;split at o
 ·rename_i xs hx;obtain⟨a,vs,hs,h1,h2,h3,l⟩:=u0 sr hx
  refine⟨.ref a,hs,.inl ⟨rfl,_,iW.of h1⟩,oK S sr o λq v G1 H1 g t bH o1=>?_⟩
  split at o1
  ·rename_i hl;have Gy:=g.h.at h1 (λ_ z=>nomatch z)
   have xK:=g.own a (by rw [h1];exact λz=>nomatch z) (by rw [h1];exact λ_ z=>nomatch z) h2
   have l':=ai.same g.g xs l
   refine⟨a,vs,v,rfl,rfl,Gy,by rw [l.length];exact zzW hl (by decide),?_⟩;obtain⟨r2,g2⟩:=lj (p':=.lst (xs++[q])) (ob:=.lst (vs++[v])) bH bH.go hx hs xK h3 ⟨a,_,rfl,ak,xK,h3,l'.append (.cons (t.rep dB) .nil)⟩
   exact o1 _ G1 _ r2 g2
  ·exact o1.elim
 ·exact o.elim
def Ce(S:dU Γ F W N sc k E X){i:Nat}{x:Str}{e:Ci.E}{p:Expr}{np apos bI pos:Pos}(h:N[i]?=some x)(hv:ei sc x=true)(ho:okN x=true)(iI:(apos.endLine==bI.line)=true)(he:GE X W F e p)
 (dh:∀env ps,starEach (p::ps) env=(false,eval p env)::starEach ps env):GS X W F H0 E (.og i e) (.Expr (.Call (.Attribute (.Name x np) "extend" apos) [p] [] bI) pos):=by
 refine L2.PS.imp (oV (zZ PySem.F.plainAttrs_list PySem.F.slot_list_extend PySem.F.type_list_extend (sy S.C.K) (hJ S h hv ho) (cH he fq (dh _ _)) rfl (by rw [dh];rfl) iI (dh _ _) rfl) rfl) λD σ H hq=>?_
 obtain⟨G,env,sr,o⟩:=hq
 rw [ib] at o;split at o
 ·rename_i xs hx;obtain⟨a,vs,hs,h1,h2,h3,l⟩:=u0 sr hx
  refine⟨.ref a,hs,.inl ⟨rfl,_,iW.of h1⟩,oK S sr o λq v G1 H1 g t bH o1=>?_⟩
  split at o1
  ·rename_i ys;split at o1
   ·rename_i hl;have Gy:=g.h.at h1 (λ_ z=>nomatch z)
    have xK:=g.own a (by rw [h1];exact λz=>nomatch z) (by rw [h1];exact λ_ z=>nomatch z) h2
    have l':=ai.same g.g xs l
    obtain⟨b,us,rfl,hb,lb⟩:=t.top.lst bH.sub
    refine⟨a,b,vs,us,rfl,rfl,Gy,hb,by rw [l.length,lb.length];exact k7 hl,?_⟩;obtain⟨r2,g2⟩:=lj (p':=.lst (xs++ys)) (ob:=.lst (vs++us)) bH bH.go hx hs xK h3 ⟨a,_,rfl,ak,xK,h3,l'.append lb⟩
    exact o1 _ G1 _ r2 g2
   ·exact o1.elim
  ·exact o1.elim
 ·exact o.elim
def Lo:V->V->V->Hp->(Hp->Prop)->Prop:=λo i v H Q=>∃a H',o=.ref a/\vE H a i v H'/\Q H'
def vh(hu:X.A.units+3<cLine):JF X Lo:=by
 intro aa s σ H o i v ov iv u Q I ro ri rv h;obtain⟨a,H',rfl,g,q⟩:=h
 cases ro;exact v9 hu I g ri rv λs' I'=>⟨H',I',q⟩
def iO{env:Sl}{σ:St}{G H:Hp}{i:Nat}{ks:List (List Int)}{ps:List PV}(sr:SR W H0 env σ G H)(h:env[i]?=some (.own (.bF ks ps))):∃a us,σ[i]?=some (some (.ref a))/\ks.length=us.length/\H a=some (.dT (kz ks us))/\G a=none/\H0 a=none/\ai W G ps us:=by
 obtain⟨o,ho,v,rfl,a,us,rfl,n,h1,h2,h3,l⟩:=sr.slot i _ h
 exact⟨a,us,ho,n,h1,h2,h3,l⟩
def Gn(S:dU Γ F W N sc k E X){i:Nat}{x:Str}{kk e:Ci.E}{pk p:Expr}{np fE pos:Pos}(h:N[i]?=some x)(hv:ei sc x=true)(ho:okN x=true)(dB:gB e=true)(PM:bh Γ N sc kk pk=true)(hk:GE X W F kk pk)(he:GE X W F e p):GS X W F H0 E (.put i kk e) (.Assign [.Subscript (.Name x np) pk fE] p pos):=by
 have yX:swappedStores [.Subscript (.Name x np) pk fE] p X.env=pure none:=by cases p<;>rfl
 have ha:∀v,assign (.Subscript (.Name x np) pk fE) X.env v=(do
  let ov<-holding [v] (eval (.Name x np) X.env)
  let iv<-holding [v,ov] (eval pk X.env)
  standAt fE
  holding [v,ov,iv] (setItem ov iv v)
  release [v,ov,iv] []):=by
  intro v;cases pk<;>first|rfl|(cases kk<;>first|(exact aV PM)|(rename_i q;cases q<;>exact aV PM))
 refine L2.PS.imp (Ap he (Ah (hJ S h hv ho) hk (vh (by have:=S.C.room.un;omega)) ha) (by cases p<;>rfl) yX) λD σ H hq=>?_
 obtain⟨G,env,sr,o⟩:=hq
 rw [ib] at o;refine oK S sr o λq v G1 H1 g t bH o1=>?_
 split at o1
 ·rename_i ks ps hx;obtain⟨a,us,hs,n,h1,h2,h3,l⟩:=iO bH hx
  refine⟨.ref a,hs,oK S bH o1 λq2 v2 G2 H2 g2 t2 d9 o2=>?_⟩
  split at o2
  ·rename_i kk hkk;split at o2
   ·rename_i wK;have e2:=qw hkk
    subst e2;obtain⟨b,rfl,hb⟩:=t2.top.ky (k:=kk) d9.sub
    have Gy:=g2.h.at h1 (λ_ z=>nomatch z)
    have xK:=g2.own a (by rw [h1];exact λz=>nomatch z) (by rw [h1];exact λ_ z=>nomatch z) h2
    have l':=ai.same g2.g ps l
    refine⟨a,upd H2 a (.dT (putK (kz ks us) (ki kk) v)),rfl,vE.t Gy (i8 d9.sub hb) (by rw [fW n];exact zzW wK (by decide)),?_⟩;rw [zo n];obtain⟨r2,gg⟩:=lj (p':=.bF (bG ks kk) (bC ks ps kk q)) (ob:=.dT (kz (bG ks kk) (bC ks us kk v))) d9 d9.go hx hs xK h3 ⟨a,_,rfl,qR n kk v,ak,xK,h3,ve l' (Rep.same g2.g q (t.rep dB))⟩
    exact o2 _ G2 _ r2 gg
   ·exact o2.elim
  ·exact o2.elim
 ·exact o1.elim
def Cc(S:dU Γ F W N sc k E X){i:Nat}{x:Str}{np dp pos:Pos}(h:N[i]?=some x)(hl:eY sc x=true):GS X W F H0 E (.i4 i) (.Assign [.Name x np] (.Dict [] [] dp) pos):=by
 obtain⟨a1,a2,a3⟩:=dW S h hl
 intro aa s σ H D I hq;have Nt:i<σ.length:=by rw [I.len,S.C.hN];exact(zzH.mp h).1
 refine lF a1 a2 a3 Aa rfl (.inl (S.fn x)) aa s σ H D I ?_;obtain⟨G,env,sr,o⟩:=hq
 rw [ib] at o;intro p hp;obtain⟨r2,g2⟩:=zW (i:=i) (p:=.bF [] []) (ob:=.dT []) sr sr.go (by rw [sr.len];exact Nt) hp ⟨p,[],rfl,rfl,ak,sr.sub.free hp,sr.base.free hp,.nil⟩
 exact o _ G _ r2 g2
def wy(S:dU Γ F W N sc k E X){i j n:Nat}{x y z:Str}{np zp fE yp apos QF bI pos:Pos}(h:N[i]?=some x)(hv:ei sc x=true)(ho:okN x=true)(hz:N[n]?=some z)(P4:ei sc z=true)(P2:okN z=true)(hy:N[j]?=some y)(RE:ei sc y=true)(RD:okN y=true)
 (iI:(apos.endLine==bI.line)=true):GS X W F H0 E (.d8 i j n) (.Assign [.Subscript (.Name x np) (.Name z zp) fE] (.Call (.Attribute (.Name y yp) "pop" apos) [.Name z QF] [] bI) pos):=by
 have hu:X.A.units+3<cLine:=by have:=S.C.room.un;omega
 refine L2.PS.imp (Ap (Du hu (hJ S hy RE RD) (hJ S hz P4 P2) ⟨rfl,rfl,iI,rfl⟩) (Ah (hJ S h hv ho) (hJ S hz P4 P2) (vh hu) λ_=>rfl) (by unfold swapsWithSole;exact pg rfl) rfl) λD σ H hq=>?_
 obtain⟨G,env,sr,o⟩:=hq
 rw [ib] at o;split at o
 ·rename_i ks ps ks2 ps2 kp e1 e2 e3;split at o
  ·rename_i kk hkk;split at o
   ·rename_i p hp;split at o
    ·rename_i wK;have ek:=qw hkk
     subst ek;obtain⟨a,us,hs,nn,h1,h2,h3,l⟩:=iO sr e1
     obtain⟨ok,hk1,v,rfl,rv⟩:=sr.slot n _ e3
     obtain⟨b,rfl,hb⟩:=Rep.ky rv
     obtain⟨w,hw,kw⟩:=kb l hp
     refine⟨.ref a,hs,a,rfl,.inr ⟨_,.inl h1⟩,.ref b,hk1,_,ki kk,b,w,h1,rfl,(i8 sr.sub hb),(by rw [i9];exact hw),?_⟩;rw [uN kk nn];obtain⟨r1,g1⟩:=lj (p':=.bF (bP ks kk) (aP ks ps kk)) (ob:=.dT (kz (bP ks kk) (aP ks us kk))) sr sr.go e1 hs h2 h3 ⟨a,_,rfl,p8 kk nn,ak,h2,h3,kJ l⟩
     have Pw:(env.set j (.own (.bF (bP ks kk) (aP ks ps kk))))[i]?=some (.own (.bF ks2 ps2)):=by rw [zzS (Ne.symm wK.2)];exact e2
     obtain⟨a2,us2,GQ,n2,k1,k2,k3,l2⟩:=iO r1 Pw
     refine⟨.ref a2,GQ,.ref b,hk1,a2,_,rfl,vE.t k1 (i8 r1.sub hb) (by rw [fW n2];exact zzW wK.1 (by decide)),?_⟩;rw [zo n2];obtain⟨r2,g2⟩:=lj (p':=.bF (bG ks2 kk) (bC ks2 ps2 kk p)) (ob:=.dT (kz (bG ks2 kk) (bC ks2 us2 kk w))) r1 g1 Pw GQ k2 k3 ⟨a2,_,rfl,qR n2 kk w,ak,k2,k3,ve l2 kw⟩
     exact o _ G _ r2 g2
    ·exact o.elim
   ·exact o.elim
  ·exact o.elim
 ·exact o.elim
end
end Ci
namespace L2
open PySem PySem.Spec PyProof.Rows
end L2
namespace Ci
open PySem L2
theorem nO:∀(cs:List Int) (all:List Int) (j b:Nat) (m:Int),all.drop j=cs->all[b]?=some m->b<j->(∀i c,all[i]?=some c->i<j->m<=c/\(i<b->m<c))->
 ∃m',all[eL cs j b m]?=some m'/\∀i c,all[i]?=some c->m'<=c/\(i<eL cs j b m->m'<c)
 |[],all,j,b,m,hd,hb,_,best=>by
  unfold eL;have hl:all.length<=j:=List.drop_eq_nil_iff.mp hd
  exact⟨m,hb,λi c e=>best i c e (zzW (zzH.mp e).1 hl)⟩
 |x::cs,all,j,b,m,hd,hb,hbj,best=>by
  have hx:all[j]?=some x:=by rw [<-List.head?_drop,hd];rfl
  have yO:all.drop (j+1)=cs:=by rw [<-List.drop_drop,hd];rfl
  unfold eL;split
  ·rename_i cm;refine nO cs all (j+1) j x yO hx (by omega) λi c e hi=>?_
   by_cases h:i=j
   ·subst h;rw [hx] at e;cases e;exact⟨Int.le_refl _,λz=>absurd z (Nat.lt_irrefl _)⟩
   ·have:=best i c e (by omega)
    exact⟨by omega,λ_=>by omega⟩
  ·rename_i cm;refine nO cs all (j+1) b m yO hb (by omega) λi c e hi=>?_
   by_cases h:i=j
   ·subst h;rw [hx] at e;cases e;exact⟨by omega,λz=>by omega⟩
   ·exact best i c e (by omega)
def tQ{cs:List Int}{x:Nat}(h:pL cs=some x):∃m,cs[x]?=some m/\∀i c,cs[i]?=some c->m<=c/\(i<x->m<c):=by
 cases cs with
 |nil=>cases h
 |cons c cs=>
  cases h;refine nO cs (c::cs) 1 0 c rfl rfl (by omega) λi d e hi=>?_
  have:i=0:=by omega
  subst this;cases e;exact⟨Int.le_refl _,λz=>absurd z (Nat.not_lt_zero _)⟩
theorem mO{W:Wd}{G H:Hp}{K:zz8}(hK:W.K=K)(sg:ax G H):∀{ps:List PV} {us:List V} {cs:List Int},gY ps=some cs->ai W G ps us->cs.length=ps.length/\∀(i:Nat) v,us[i]?=some v->∃q r,v=V.ref q/\eU K H q (.int (cs.getD i 0)::r)
 |[],_,_,e,l=>by cases e;simp! [ai] at l;subst l;exact⟨rfl,λi v h=>by simp at h⟩
 |p::ps,us,cs,e,l=>by
  obtain⟨u,ur,rfl,h1,h2⟩:=l.bU
  unfold gY at e;split at e
  ·rename_i heq;cases heq
  ·rename_i heq;cases heq;obtain⟨r,hr,rfl⟩:=zzJ.mp e
   obtain⟨i1,i2⟩:=mO hK sg hr h2
   refine⟨by simp [i1],λi v hv=>?_⟩
   cases i with
   |zero=>
    cases hv;simp! [Rep] at h1;obtain⟨q,ws,rfl,tq,lq⟩:=h1
    obtain⟨w,wr,rfl,k1,lq⟩:=lq.bU
    simp! [Rep] at k1;subst k1;exact⟨q,wr,rfl,by rw [<-hK];simpa using ax.tup sg tq.sq⟩
   |succ i=>simpa using i2 i v (by simpa using hv)
  ·cases e
section
variable{Γ:Pg}{X:Cx}{W:Wd}{F:aU}{N:List Str}{sc:Scope}{k:Nat}{H0:Hp}{E:XK}
def Cf(S:dU Γ F W N sc k E X)(rC:Γ.qt=false){m i:Nat}{x y:Str}{params:Arguments}{body:Expr}{scope:Scope}{yp q1 q2 q3 q4 q5 pos:Pos}(h1:N[m]?=some y)(h2:eY sc y=true)(h3:N[i]?=some x)(h4:sc.names.lookup x=some .cell)(h5:ic sc "min"=true)(h6:Γ.bs.contains "min"=true)(h7:Γ.hl=true)
 (h8:m8 x params body scope=true):GS X W F H0 E (.lh m i) (.Assign [.Name y yp] (.Call (.Name "min" q1) [.Name x q2] [⟨some "key",.Lambda params body scope q3,q4⟩] q5) pos):=by
 obtain⟨a1,a2,a3⟩:=dW S h1 h2
 obtain⟨p,ep,L,Cp,hox⟩:=qz h8
 have pe:PE X (.Call (.Name "min" q1) [.Name x q2] [⟨some "key",.Lambda params body scope q3,q4⟩] q5) (λσ H Q=>∃G env ks ps cs ix kk,SR W H0 env σ G H/\env[i]?=some (.own (.bF ks ps))/\gY ps=some cs/\pL cs=some ix/\ks[ix]?=some kk/\∀v G' H',aA W G H G' H'->Rep W G' (kP kk) v->Q v H'):=by
  intro aa s σ H Q I hq;obtain⟨G,env,ks,ps,cs,ix,kk,sr,e1,e2,e3,e4,q⟩:=hq
  obtain⟨d,us,hs,n,k1,k2,k3,l⟩:=iO sr e1
  obtain⟨c,bS⟩:=I.ok.has x (.inl (by show X.env.scope.names.lookup x=_;rw [S.C.eE];exact h4))
  have A6:closureFor scope X.env=pure [(x,c)]:=by
   rw [fg λy hy hf=>?_]
   ·show pure (bE X.env (aO scope))=_
    rw [Cp];simp [bE,bS]
   ·have:y.1∈aO scope:=by
     unfold aO;rw [List.mem_reverse,zzx];exact⟨y,List.mem_filter.mpr ⟨hy,by rw [hf];rfl⟩,rfl⟩
    rw [Cp] at this;rw [zzi.mp this];exact⟨c,bS⟩
  refine wpAny_Call_Name_kw (eO I (fx S.C h5) (S.C.bs _ (zzn.mp h6)) (u:=.builtin "min") (by decide+kernel) ?_);refine PyProof.Rows.callWith_kw ?_;refine Calls.spliced_cons (bJ (dm (i:=i) (by rw [S.C.hN];exact h3) (.inr (.inl (by show X.env.scope.names.lookup x=_;rw [S.C.eE];exact h4))) (da hox).1 (da hox).2.1 aa s σ H (λv' H1=>v'=.ref d/\H1=H) I ⟨_,hs,rfl,rfl⟩) λu s1 hu=>Calls.spliced_nil ?_)
  obtain⟨v',H1,I1,ru,rfl,rfl⟩:=hu
  cases ru;refine PyProof.Rows.kws_cons (bJ (sJ S.C h7 ep A6 aa s1 σ H1 (λv2 H2=>∃f G2,v2=.ref f/\jX X W params body scope [(x,c)] G H1 G2 H2 f) I1 ⟨G,sr.sub,sr.tab,λf G2 H2 lm=>⟨f,G2,rfl,lm⟩⟩) λu s2 hu=>PyProof.Rows.kws_nil ?_)
  obtain⟨v2,H2,I2,ru,f,G2,rfl,g2,c',oc,cF,t,dX,pm,fo,co,cd,cn⟩:=hu
  cases ru;have d9:=sr.grow g2
  obtain⟨d',us',wL,n',k1',k2',k3',l'⟩:=iO d9 e1
  rw [hs] at wL;cases wL;obtain⟨cl1,cl2⟩:=mO (K:=X.K) S.C.K d9.sub e2 l'
  have M:KM X σ H2 k d f (kz ks us') (λi=>cs.getD i 0):=by
   refine⟨S.C.room,I.ok.hd (S.C.calm rC),k1',⟨p,x,params,body,scope,_,c,c',oc,cF,t,pm,dX,i,L,bS,I.ok.Fq x c (S.C.fl h7 x) bS,d9.sub _ _ fo,d9.sub _ _ co,cd,cn,λu=>nT ep [u] rfl,by rw [S.C.hN];exact h3,hs,by rw [S.C.eE];exact h4⟩,λj kx v e=>?_⟩
   have:us'[j]?=some v:=by
    unfold kz at e;rw [List.getElem?_zip_eq_some] at e;exact e.2
   exact cl2 j v this
  obtain⟨mm,hm1,Jn⟩:=tQ e3
  have Kx:ix<ks.length:=(zzH.mp e4).1
  have Q8:cs.length=ks.length:=by rw [cl1,<-l'.length,n']
  refine vS M (by rw [fW n'];omega) I2 λj kx v b e hb best=>?_
  rw [fW n'] at best;have hj:j<ks.length:=by
   have:=(zzH.mp e).1
   rw [fW n'] at this;exact this
  have ej:j=ix:=by
   have ca:∀a,a<cs.length->cs[a]?=some (cs.getD a 0):=λa ha=>by simp [ha]
   have b1:=best ix Kx
   have b2:=Jn j _ (ca j (by omega))
   have em:mm=cs.getD ix 0:=by rw [ca ix (by omega)] at hm1;exact(zzq hm1).symm
   rw [em] at b2;rcases Nat.lt_trichotomy j ix with z|z|z
   ·have:=b2.2 z;have:=b1.1;omega
   ·exact z
   ·have:=b1.2 z;have:=b2.1;omega
  subst ej;have ek:kx=ki kk:=by
   have:=congrArg (λl=>l[j]?) (uO (us:=us') n')
   simp! [zzQ,e,e4,Option.map_some] at this;exact zzq this
  rw [ek] at hb;obtain⟨G3,g3,hw⟩:=kU (W:=W) d9.sub hb
  exact q _ _ _ (g2.trans g3) hw
 refine L2.PS.imp (lF a1 a2 a3 pe rfl (.inl (S.fn y))) λD σ H hq=>?_
 obtain⟨G,env,sr,o⟩:=hq
 rw [ib] at o;split at o
 ·rename_i ks ps hx;split at o
  ·rename_i cs hcs;split at o
   ·rename_i kk hkk;obtain⟨ix,ED,hk2⟩:=zzZ.mp hkk
    exact⟨G,env,ks,ps,cs,ix,kk,sr,hx,hcs,ED,hk2,λv G' H' g' rp=>o _ G' _ ((sr.grow g').set m rp) (sr.on g')⟩
   ·exact o.elim
  ·exact o.elim
 ·exact o.elim
end
end Ci
namespace L2
open PySem PySem.Spec PyProof.Rows
def xV(X:Cx)(σ:St)(H:Hp)(f:Addr)(bs:List Addr)(cf:Nat->Int):Prop:=
 ∀(i:Nat) (h:i<bs.length) (aa:List (Addr×Obj)) (s:Shared) (Q:Value->Shared->Prop) (E:Value->Shared->Prop),Inv X aa σ H s->(∀t s',Inv X aa σ H s'->Q (.int (cf i) t) s')->wpAny (model X.prog X.w) X.A.in1 (call (.ref f) [.ref bs[i]]) Q E s
section
variable{X:Cx}{aa:List (Addr×Obj)}{σ:St}{H:Hp}{s:Shared}{p f it S:Addr}{bs:List Addr}{cf:Nat->Int}{R:Result->Shared->Prop}
def gF(I:Inv X aa σ H s)(hp:iW X.K H p (bs.map V.ref)):s.heap.IsList p (bs.map Value.ref).toArray:=by
 obtain⟨aw,rv,pl,hz⟩:=I.list hp
 have e:aw=bs.map Value.ref:=by
  clear pl hz hp
  induction bs generalizing aw with
  |nil=>cases rv;rfl
  |cons b bs ih=>cases rv with|cons r t=>rw [zzF,<-ih _ t,(show _=Value.ref b from r)]
 rw [<-e];exact pl.isList
def uK(K:xV X σ H f bs cf)(I:Inv X aa σ H s)(fi:dN X aa H it)(fS:dN X aa H S){oi oS:Obj}(hi:s.heap.get? it=some oi)(ci:∀v,oi.data≠.cell v)(hS:s.heap.get? S=some oS)(cS:∀v,oS.data≠.cell v)
 {i:Nat} (hl:i<bs.length) {E:Value->Shared->Prop} {Q:Value->Shared->Prop} (h:∀t s',Inv X aa σ H s'->s'.heap.get? it=some oi->s'.heap.get? S=some oS->Q (.int (cf i) t) s'):wpAny (model X.prog X.w) X.A.in1 (call (.ref f) [.ref bs[i]]) Q E s:=by
 have I1:Inv X ((it,oi)::(S,oS)::aa) σ H s:=by
  refine I.eG λp hp=>?_
  rcases zzm.mp hp with rfl|hp
  ·exact fi.pin hi ci
  ·rcases zzm.mp hp with rfl|hp
   ·exact fS.pin hS cS
   ·exact I.pin p (zzR _ hp)
 exact K i hl _ _ _ _ I1 λt s' J=>h t s' (J.eG λp hp=>J.pin p (zzR _ (.tail _ (.tail _ hp)))) (J.pin (it,oi) (zzR _ (.head _))).1 (J.pin (S,oS) (zzR _ (.tail _ (.head _)))).1
def wW(K:xV X σ H f bs cf)(hh:X.A.handled=none)(hp:iW X.K H p (bs.map V.ref))(fi:dN X aa H it)(fS:dN X aa H S)(nS:S≠it)(Sq:p≠it)(Qh:p≠S)
 (hR:∀(i:Nat) (h:i<bs.length) s',(∀j,j<bs.length->cf i<=cf j/\(j<i->cf i<cf j))->Inv X aa σ H s'->R (.ok (.ret (.ref bs[i]))) s'):
 ∀(r j i:Nat) (s:Shared) (t:Tok) (c:Nat) (hi:i<bs.length),bs.length-(j+1)=r->j+1<=bs.length->Inv X aa σ H s->s.heap.IsListIter it p (j+1)->s.heap.get? S=some (seqObj "list" #[.ref bs[i],.int (cf i) t] c)->i<=j->(∀j',j'<=j->cf i<=cf j'/\(j'<i->cf i<cf j'))->
  codeAny (model X.prog X.w) X.A (.builtin "min.loop" ⟨[.ref it,.ref f,.ref S],[]⟩) R s:=by
 have name:(toString "min"++toString ".loop":String)="min.loop":=by decide
 intro r
 induction r with
 |zero=>
  intro j i s t c hi hr hj I st hS hij best;refine codeAny_builtin PySem.F.entry_min_loop ?_;rw [zz7 PySem.F.plain_min_loop _];show wpAny _ X.A.in1 (seqItems? (.ref S)>>=λz=>_) _ _ _
  refine zzA (wpAny_seqItems hS rfl ?_);show wpAny _ X.A.in1 (tryCatch (pyNext (.ref it)) _>>=λz=>_) _ _ _
  refine zzA (wpAny_tryCatch (wpAny_pyNext_list_end hh st (gF I hp) (by simp;omega) λh' eb=>?_))
  have wD:=eb S _ nS hS
  have I1:=I.turned (h':=h') (t':=s.toks) (λb o hb e=>eb b o hb e) fi.1 fi.2.1 fi.2.2.2.1 fi.2.2.2.2.1 fi.2.2.2.2.2
  show wpAny _ X.A.in1 (updateSeq S (λ_=>#[])>>=λz=>_) _ _ _
  refine zzA (wpAny_updateSeq wD rfl (zzA (wpAny_letGo (zzG ?_))));have s1:=zzu h' S (Obj.mapSeq λ_=>(#[]:Array Value))
  exact hR i hi _ (λj' GN=>best j' (by omega)) (I1.turned (t':=s.toks) (λb o hb e=>(s1.2 b hb).trans e) fS.1 fS.2.1 fS.2.2.2.1 fS.2.2.2.2.1 fS.2.2.2.2.2)
 |succ r ih=>
  intro j i s t c hi hr hj I st hS hij best;have cm:j+1<bs.length:=by omega
  refine codeAny_builtin PySem.F.entry_min_loop ?_;rw [zz7 PySem.F.plain_min_loop _];show wpAny _ X.A.in1 (seqItems? (.ref S)>>=λz=>_) _ _ _
  refine zzA (wpAny_seqItems hS rfl ?_);show wpAny _ X.A.in1 (tryCatch (pyNext (.ref it)) _>>=λz=>_) _ _ _
  refine zzA (wpAny_tryCatch (wpAny_pyNext_list_item st (gF I hp) (x:=.ref bs[j+1]) (by simp [cm]) λh' j6 sb=>?_))
  have wD:=(sb.2 S nS).trans hS
  have I1:=I.turned (h':=h') (t':=s.toks) (λb o hb e=>(sb.2 b hb).trans e) fi.1 fi.2.1 fi.2.2.2.1 fi.2.2.2.2.1 fi.2.2.2.2.2
  obtain⟨oi,gi,gc,gd⟩:=id j6
  show wpAny _ X.A.in1 (tryCatch (holding [Value.ref bs[j+1]] (call (.ref f) [Value.ref bs[j+1]])) _>>=λz=>_) _ _ _
  refine zzA (wpAny_tryCatch (wpAny_holding (uK K I1 fi fS gi (λv z=>by rw [gd] at z;cases z) wD fk cm λt2 s2 I2 A7 wF=>?_)))
  have Lw:s2.heap.IsListIter it p (j+1+1):=⟨oi,A7,gc,gd⟩
  show wpAny _ X.A.in1 (tryCatch (holding [Value.ref bs[j+1],.int (cf (j+1)) t2] (richCompare .Lt (.int (cf (j+1)) t2) (.int (cf i) t)>>=λz=>_)) _>>=λz=>_) _ _ _
  refine zzA (wpAny_tryCatch (wpAny_holding (zzA (CmpOf.ints_lt (prog:=X.prog) (w:=X.w) (A:=X.A.in1) (P:=λi v=>∃t,v=.int (cf i) t) cf (λi v h=>h) (j+1) i _ _ _ _ _ ⟨t2,rfl⟩ ⟨t,rfl⟩ ?_))))
  refine zzA (wpAny_holding (wpAny_truthy_bool (zzA (wpAny_letGo (zzG ?_)))))
  by_cases j1:cf (j+1)<cf i
  ·obtain⟨c2,hc2⟩:=j5 (ys:=#[Value.ref bs[j+1],.int (cf (j+1)) t2]) wF
   have s1:=zzu s2.heap S (Obj.mapSeq λ_=>#[Value.ref bs[j+1],.int (cf (j+1)) t2])
   simp! [j1,decide_true,if_true];refine zzA (wpAny_updateSeq wF rfl (zzA (wpAny_letGo ?_)));rw [name];refine zzG ⟨plainId_quiet PySem.F.plain_min_loop _,ih (j+1) (j+1) _ t2 c2 cm (by omega) cm (I2.turned (t':=s2.toks) (λb o hb e=>(s1.2 b hb).trans e) fS.1 fS.2.1 fS.2.2.2.1 fS.2.2.2.2.1 fS.2.2.2.2.2) ?_ ?_ (zzE _) λj' GN=>?_⟩
   ·exact⟨oi,(s1.2 it (Ne.symm nS)).trans A7,gc,gd⟩
   ·exact hc2
   ·by_cases e:j'=j+1
    ·subst e;exact⟨by omega,λ_=>by omega⟩
    ·have:=best j' (by omega)
     exact⟨by omega,λ_=>by omega⟩
  ·simp! [j1,decide_false,zze,if_false];refine zzA (wpAny_letGo ?_);rw [name];refine zzG ⟨plainId_quiet PySem.F.plain_min_loop _,ih (j+1) i _ t c hi (by omega) cm I2 Lw wF (by omega) λj' GN=>?_⟩
   by_cases e:j'=j+1
   ·subst e;exact⟨by omega,λ_=>by omega⟩
   ·exact best j' (by omega)
def vT(K:xV X σ H f bs cf)(hh:X.A.handled=none)(h0:0<bs.length)(I:Inv X aa σ H s)(hp:iW X.K H p (bs.map V.ref)){Q:VK}
 (q:∀i (h:i<bs.length),(∀j,j<bs.length->cf i<=cf j/\(j<i->cf i<cf j))->Q (.ref bs[i]) H):wpAny (model X.prog X.w) X.A (call (.builtin "min") [.ref p] [(Str.ofString "key",.ref f)]) (EP X aa σ Q) X.xe s:=by
 have name:(toString "min"++toString ".loop":String)="min.loop":=by decide
 have pl:=gF I hp
 have cm:p<(zz9 s):=by obtain⟨_,e,_⟩:=pl;exact zzO e
 refine kmk_tree PySem.F.kind_min PySem.F.plain_min PySem.F.entry_min (kmk_min_key _ _) ?_;show wpAny _ X.A.in1 (Builtin.Builtins.bindParams "min" ["key","default"] 0 ⟨[],[(Str.ofString "key",.ref f)]⟩>>=λz=>_) _ _ s
 refine zzA (wpAny_of_eq (show Builtin.Builtins.bindParams "min" ["key","default"] 0 ⟨[],[(Str.ofString "key",.ref f)]⟩=pure [some (.ref f),none] from rfl) (zzA (zzG ?_)));refine zzA (wpAny_pyIter_list pl (zzA (wpAny_newList ?_ (Nat.zero_le _))));rw [name];generalize hit:(zz9 s)=it
 generalize hSS:(s.heap.push {cls:=.type "list_iterator",data:=.fields #[.ref p,.int 0 0]}).objs.size=S
 have eS:S=it+1:=by rw [<-hSS,<-hit];exact size_push' ..
 have nS:S≠it:=by omega
 have hH:(zz9 s)<=S:=by omega
 have np:p≠it:=by rw [<-hit];exact zzb cm
 have Qh:p≠S:=by rw [eS,<-hit];exact zzb (Nat.lt_succ_of_lt cm)
 have fi:dN X aa H it:=by rw [<-hit];exact I.js (zzE _) (I.aN.fresh (zzE _))
 have fS:dN X aa H S:=I.js hH (I.aN.fresh hH)
 have keep:∀b ob,s.heap.get? b=some ob->((s.heap.push {cls:=.type "list_iterator",data:=.fields #[.ref p,.int 0 0]}).push (seqObj "list" #[] 0)).get? b=some ob:=λb ob e=>zzB _ (zzB _ e)
 have I1:=I.kept (t':=s.toks) keep
 have gI:((s.heap.push {cls:=.type "list_iterator",data:=.fields #[.ref p,.int 0 0]}).push (seqObj "list" #[] 0)).IsListIter it p 0:=by
  rw [<-hit];exact⟨_,zzB _ (zzX _ rfl),rfl,rfl⟩
 have gS:((s.heap.push {cls:=.type "list_iterator",data:=.fields #[.ref p,.int 0 0]}).push (seqObj "list" #[] 0)).get? S=some (seqObj "list" #[] 0):=by
  rw [<-hSS];exact zzX _ rfl
 refine zzG ⟨plainId_quiet PySem.F.plain_min_loop _,codeAny_builtin PySem.F.entry_min_loop ?_⟩;rw [zz7 PySem.F.plain_min_loop _];show wpAny _ X.A.in1 (seqItems? (.ref S)>>=λz=>_) _ _ _
 refine zzA (wpAny_seqItems gS rfl ?_);show wpAny _ X.A.in1 (tryCatch (pyNext (.ref it)) _>>=λz=>_) _ _ _
 refine zzA (wpAny_tryCatch (wpAny_pyNext_list_item gI (gF I1 hp) (x:=.ref bs[0]) (by simp [h0]) λh' j6 sb=>?_))
 have wD:=(sb.2 S nS).trans gS
 have I2:=I1.turned (h':=h') (t':=s.toks) (λb o hb e=>(sb.2 b hb).trans e) fi.1 fi.2.1 fi.2.2.2.1 fi.2.2.2.2.1 fi.2.2.2.2.2
 obtain⟨oi,gi,gc,gd⟩:=id j6
 show wpAny _ X.A.in1 (tryCatch (holding [Value.ref bs[0]] (call (.ref f) [Value.ref bs[0]])) _>>=λz=>_) _ _ _
 refine zzA (wpAny_tryCatch (wpAny_holding (uK K I2 fi fS gi (λv z=>by rw [gd] at z;cases z) wD fk h0 λt2 s2 I3 A7 wF=>?_)))
 obtain⟨c2,hc2⟩:=j5 (ys:=#[Value.ref bs[0],.int (cf 0) t2]) wF
 have s1:=zzu s2.heap S (Obj.mapSeq λ_=>#[Value.ref bs[0],.int (cf 0) t2])
 show wpAny _ X.A.in1 (updateSeq S (λ_=>#[Value.ref bs[0],.int (cf 0) t2])>>=λz=>_) _ _ _
 refine zzA (wpAny_updateSeq wF rfl ?_);rw [name];refine zzG ⟨plainId_quiet PySem.F.plain_min_loop _,wW K hh hp fi fS nS np Qh (R:=_) (λi h s' b J=>⟨.ref bs[i],H,J,rfl,q i h b⟩) _ 0 0 _ t2 c2 h0 rfl h0 (I3.turned (t':=s2.toks) (λb o hb e=>(s1.2 b hb).trans e) fS.1 fS.2.1 fS.2.2.2.1 fS.2.2.2.2.1 fS.2.2.2.2.2) ⟨oi,(s1.2 it (Ne.symm nS)).trans A7,gc,gd⟩ hc2 (zzE _) λj' GN=>?_⟩
 have e:j'=0:=by omega
 subst e;exact⟨by omega,λh=>absurd h (Nat.lt_irrefl _)⟩
end
structure nJ(p y:Str)(params:Arguments)(body:Expr)(scope:Scope):Prop where
 body:∃q1 q2 q5,body=.Subscript (.Name y q1) (.Name p q2) q5
 sc:kf [p] [y] scope
 d1:(p==("__debug__":Str))=false
 d2:(p==("__classdict__":Str))=false
 d3:(y==("__debug__":Str))=false
 d4:(y==("__classdict__":Str))=false
section
variable{X:Cx}{aa:List (Addr×Obj)}{σ:St}{H:Hp}{s:Shared}{d f c c' b:Addr}{o oc:Obj}{av:List (List bg×V)}{kk:Nat}{p y qual:Str}{params:Arguments}{body:Expr}{scope:Scope}{pm dX:Value}{cF:Array Value}{ct:Tok}{k:List bg}{q:Addr}{n:Int}{v0:V}{r:List V}{A:Around}{E:Value->Shared->Prop}
def fZ{Z:List (Addr×Obj)}{fs:List Addr}{h:Heap}(z:pK Z H fs h):aL Z (aH Z H)=H:=by
 funext b
 cases e:Z.lookup b with
 |some o=>rw [d6 e];exact(z.2 b o e).symm
 |none=>rw [aq e,ag e]
def m9(hA:A=X.A.in1)(L:iV p y params body scope/\eU X.K H q (.int n::r)/\v0=V.ref q\/nJ p y params body scope/\v0=V.int n)(hr:dc (kk+1) X.A)(I:Inv X aa σ H s)(hd:Rd H d (.dT av))
 (bS:X.env.cells.lookup y=some c) (xM:X.s₀.heap.objs.size<=c) (Nm:s.heap.IsCell c (some (.ref d)))
 (hf:H f=some (.bq (PySem.W.kla_obj "<lambda>" qual params body scope [(y,c)] pm c' dX) bz)) (fI:H c'=some (.bq oc bz)) (mY:oc.data=.fields cF) (wG:cF[1]?=some (.str qual ct))
 (hb:∀u,bindArgs (PySem.W.kla_fn "<lambda>" qual params body scope [(y,c)] pm (.ref c') dX) ⟨[u],[]⟩=pure ([p].zip [u]))
 (Cq:cg H b k) (hv:fH av k=some v0):
 wpAny (model X.prog X.w) A (call (.ref f) [.ref b]) (λu s'=>(∃t,u=.int n t)/\Inv X aa σ H s') E s:=by
 subst hA;obtain⟨ocell,g1,g2⟩:=id Nm
 have rZ:H c=none:=I.fT y c bS
 have lk:∀b o,List.lookup b [(c,ocell)]=some o->b=c/\o=ocell:=λb o e=>by
  rw [zz5] at e;cases pE:b==c with
  |true=>rw [pE] at e;cases e;exact⟨zzy.mp pE,rfl⟩
  |false=>rw [pE] at e;cases e
 have xH:pK [(c,ocell)] H (eA X.stack) s.heap:=by
  refine⟨λb o e=>?_,λb o e=>?_,λb o e=>?_⟩
  ·obtain⟨rfl,rfl⟩:=lk b o e;exact g1
  ·obtain⟨rfl,rfl⟩:=lk b o e;exact rZ
  ·obtain⟨rfl,rfl⟩:=lk b o e
   intro Kt;rcases zzm.mp (I.gj b Kt) with z|z
   ·exact I.A2 y b bS z
   ·obtain⟨_,o',h4,_⟩:=I.ok.fB.mem z
    exact absurd (zzO h4) (Nat.not_lt.mpr xM)
 have zc:List.lookup c [(c,ocell)]=some ocell:=by simp
 have Eb:∀x c1,List.lookup x [(y,c)]=some c1->x=y/\c1=c:=λx c1 e=>by
  rw [zz5] at e;cases hx:x==y with
  |true=>rw [hx] at e;cases e;exact⟨zzy.mp hx,rfl⟩
  |false=>rw [hx] at e;cases e
 have zb:∀b o,List.lookup b [(c,ocell)]=some o->X.base.get? b=none:=λb o e=>by
  obtain⟨rfl,rfl⟩:=lk b o e
  cases y':X.base.get? b with
  |none=>rfl
  |some o'=>exact absurd (zzO (I.ok.bs b o' y').1) (Nat.not_lt.mpr xM)
 have hZ:∀b u,H b=some u->aH [(c,ocell)] H b=some u:=λb u e=>by
  rw [ag]
  ·exact e
  ·rw [zz5];cases pE:b==c with
   |true=>have:=zzy.mp pE;subst this;rw [rZ] at e;cases e
   |false=>rfl
 have un:X.A.units+1+3+3<cLine:=by have:=hr.un;omega
 have main:∀(t:TE) (sc:kf [p] [y] scope),(∀E',PE (Bu X.prog X.w X.K X.mg X.base ([p]++[y]) qual scope f (.ref c') [(y,c)] X.A.in1 X.stack s H E') body t)->(∀Q:VK,Q (.int n) H->t [some (.ref b),some (.ref d)] H Q)->
  wpAny (model X.prog X.w) X.A.in1 (call (.ref f) [.ref b]) (λu s'=>(∃t,u=.int n t)/\Inv X aa σ H s') E s:=λt sc ht hq=>by
  refine wpAny_call (codeAny_mono (oF (k:=kk) (E:=λ_ _ _=>False) (Q:=λv H'=>v=.int n/\H'=aH [(c,ocell)] H) (Z:=[(c,ocell)]) (ws:=[.ref d]) (vs:=[.ref b]) (us:=[.ref b])
   (t:=t) sc hr.in1 I.rT.in1 xH zb (I.aN f _ hf).1 (I.aN c' _ fI).1 mY wG (hb _) (.cons rfl .nil) rfl rfl ?EF ?inj ?cz ?cells (ht _) ?hq) λrr s' GP=>?_)
  case EF=>intro y' hy';exact⟨c,by rw [zzi.mp hy'];simp⟩
  case inj=>intro x y' c1 e1 e2;rw [(Eb x c1 e1).1,(Eb y' c1 e2).1]
  case cz=>intro x c1 e;obtain⟨rfl,rfl⟩:=Eb x c1 e;exact⟨ocell,_,zc,g2⟩
  case cells=>
   intro i y' c1 e1 e2 v e3;obtain⟨rfl,rfl⟩:=Eb y' c1 e2
   cases i with
   |zero=>cases e3;exact⟨.ref d,rfl,ocell,g1,g2⟩
   |succ i=>cases e3
  case hq=>exact hq _ λ_=>⟨rfl,rfl⟩
  ·cases rr with
   |error e=>
    obtain⟨a,C,t,vs,H',B,e1,F⟩:=GP
    exact(F.ends).elim
   |ok fl=>
    cases fl with
    |ret u=>
     obtain⟨v,H',os,bare,un,aN,rv,rfl,rfl⟩:=GP
     obtain⟨t,rfl⟩:=rv
     obtain⟨u1,k1⟩:=xH.pz un aN
     rw [fZ xH] at u1 k1;obtain⟨hh,g,dr,tk,os'⟩:=s'
     obtain rfl:os'=s.os:=os
     exact⟨⟨t,rfl⟩,I.call (h':=hh) (g':=g) (d':=dr) (t':=tk) (ch:=[]) u1 k1 bare (λb z=>absurd z (by simp))⟩
    |_=>exact GP.elim
 rcases L with⟨L,hq,rfl⟩|⟨L,rfl⟩
 ·obtain⟨q1,q2,q3,q4,q5,j,rfl⟩:=L.body
  refine main (IJ (Ig X.K) (vw (pj 1) (pj 0)) (tC (.int 0))) L.sc (λE'=>?_) λQ h=>?_
  ·exact Ac sk (oQ un (dm (i:=1) rfl (.inr (.inr (L.sc.Kb y (by simp)))) L.d3 L.d4) (dm (i:=0) rfl (.inl (L.sc.par p (by simp))) L.d1 L.d2) λ_ _=>rfl) lE λ_ _=>rfl
  ·refine⟨_,rfl,_,rfl,d,.ref q,rfl,?_,?_⟩
   ·exact .inr ⟨av,k,b,hd,rfl,Cq,hv.symm⟩
   ·exact⟨q,.int n::r,0,.int n,rfl,rfl,hq,by simp [pC,CF],h⟩
 ·obtain⟨q1,q2,q5,rfl⟩:=L.body
  refine main (vw (pj 1) (pj 0)) L.sc (λE'=>?_) λQ h=>?_
  ·exact oQ un (dm (i:=1) rfl (.inr (.inr (L.sc.Kb y (by simp)))) L.d3 L.d4) (dm (i:=0) rfl (.inl (L.sc.par p (by simp))) L.d1 L.d2) λ_ _=>rfl
  ·exact⟨_,rfl,_,rfl,d,.int n,rfl,.inr ⟨av,k,b,hd,rfl,Cq,hv.symm⟩,h⟩
end
end L2
namespace Ci
open PySem L2
section
variable{W:Wd}{G H:Hp}{K:zz8}
theorem zm(sg:ax G H):∀{xs:List PV} {kl:List (List Int)} {vs:List V},qA xs=some kl->ai W G xs vs->∃bs:List Addr,vs=bs.map V.ref/\Paired (λb k=>cg H b (ki k)) bs kl
 |[],_,_,e,l=>by cases e;simp! [ai] at l;subst l;exact⟨[],rfl,.nil⟩
 |x::xs,_,_,e,l=>by
  obtain⟨v,vr,rfl,h1,h2⟩:=l.bU
  unfold qA at e;obtain⟨k,hk,e⟩:=zzZ.mp e
  obtain⟨r,hr,rfl⟩:=zzJ.mp e
  obtain⟨bs,rfl,p⟩:=zm sg hr h2
  rw [qw hk] at h1;obtain⟨b,rfl,hb⟩:=h1.ky
  exact⟨b::bs,rfl,.cons (i8 sg hb) p⟩
theorem sM{α β:Type}{R:α->β->Prop}:∀{l:List α} {m:List β},Paired R l m->∀{j:Nat} {a:α},l[j]?=some a->∃b,m[j]?=some b/\R a b
 |_,_,.nil,j,a,h=>by simp at h
 |_,_,.cons e t,0,a,h=>by cases h;exact⟨_,rfl,e⟩
 |_,_,.cons e t,j+1,a,h=>by simpa using sM t (by simpa using h)
theorem yh{b:Bool}{ks:List (List Int)}{ps:List PV}:∀{kl:List (List Int)} {cs:List Int},Br b ks ps kl=some cs->cs.length=kl.length/\∀(j:Nat) k,kl[j]?=some k->∃p,aj ks ps k=some p/\L6 b p=some (cs.getD j 0)
 |[],_,e=>by cases e;exact⟨rfl,λj k h=>by simp at h⟩
 |k::kl,_,e=>by
  unfold Br at e;obtain⟨n,hn,e⟩:=zzZ.mp e
  obtain⟨r,hr,rfl⟩:=zzJ.mp e
  obtain⟨p,hp,hc⟩:=zzZ.mp hn
  obtain⟨i1,i2⟩:=yh hr
  refine⟨by simp [i1],λj k' h=>?_⟩
  cases j with
  |zero=>cases h;exact⟨p,hp,by simpa using hc⟩
  |succ j=>simpa using i2 j k' (by simpa using h)
def FF{b:Bool}{p:PV}{n:Int}{v:V}(hK:W.K=K)(sg:ax G H)(h:L6 b p=some n)(r:Rep W G p v):b=true/\(∃q r,v=.ref q/\eU K H q (.int n::r))\/b=false/\v=.int n:=by
 unfold L6 at h;split at h
 ·split at h
  ·rename_i hb;cases h;simp! [Rep] at r;obtain⟨a,vs,rfl,q,l⟩:=r
   obtain⟨u,us,rfl,h1,_⟩:=l.bU
   simp! [Rep] at h1;subst h1;exact .inl ⟨hb,a,us,rfl,hK▸ax.tup sg q.sq⟩
  ·cases h
 ·split at h
  ·cases h
  ·rename_i hb;cases h;simp! [Rep] at r;exact .inr ⟨by simpa using hb,r⟩
 ·cases h
variable{Γ:Pg}{X:Cx}{F:aU}{N:List Str}{sc:Scope}{k:Nat}{H0:Hp}{E:XK}
def KQ(C:dy Γ F W N sc k X){σ:St}{G H:Hp}{i:Nat}{x p:Str}{params:Arguments}{body:Expr}{scope:Scope}{b:Bool}{bs:List Addr}{kl ks:List (List Int)}{ps:List PV}{us:List V}{cs:List Int}{d f c c':Addr}{o oc:Obj}{qual:Str}{cF:Array Value}{ct:Tok}{pm dX:Value}
 (sg:ax G H) (h3:N[i]?=some x) (h4:sc.names.lookup x=some .cell) (L:if b=true then iV p x params body scope else nJ p x params body scope)
 (hs:σ[i]?=some (some (.ref d))) (hd:G d=some (.bq o (.dT (kz ks us)))) (l:ai W G ps us) (n:ks.length=us.length) (bS:X.env.cells.lookup x=some c) (xM:X.s₀.heap.objs.size<=c)
 (hf:H f=some (.bq (PySem.W.kla_obj "<lambda>" qual params body scope [(x,c)] pm c' dX) bz)) (fI:H c'=some (.bq oc bz)) (mY:oc.data=.fields cF) (wG:cF[1]?=some (.str qual ct))
 (hb:∀u,bindArgs (PySem.W.kla_fn "<lambda>" qual params body scope [(x,c)] pm (.ref c') dX) ⟨[u],[]⟩=pure ([p].zip [u]))
 (hk:Paired (λb k=>cg H b (ki k)) bs kl) (hc:Br b ks ps kl=some cs):xV X σ H f bs λj=>cs.getD j 0:=by
 intro j hj aa s Q E' I q;obtain⟨kj,hkj,hky⟩:=sM hk (zzg hj)
 obtain⟨_,c2⟩:=yh hc
 obtain⟨pv,g1,g2⟩:=c2 j kj hkj
 obtain⟨w,w1,w2⟩:=kb l g1
 have hv:fH (kz ks us) (ki kj)=some w:=by rw [i9];exact w1
 have cell:s.heap.IsCell c (some (.ref d)):=by
  obtain⟨m,_,hloc⟩:=I.loc
  have KU:X.env.scope.names.lookup x=some .cell:=by rw [C.eE];exact h4
  obtain⟨u,ru,lk⟩:=hloc i x (.ref d) (by rw [C.hN];exact h3) hs (.inr (.inl KU))
  cases(show u=Value.ref d from ru);rcases lk with⟨z,_⟩|⟨_,c2,hc2,z⟩
  ·have z2:X.env.scope.names.lookup x=some .local:=z
   rw [KU] at z2;cases z2
  ·rw [bS] at hc2;cases hc2;exact z
 rcases FF (H:=H) C.K sg g2 w2 with⟨rfl,q',r,rfl,hq⟩|⟨rfl,rfl⟩
 ·refine wpAny_mono (m9 (kk:=k) (n:=cs.getD j 0) (r:=r) (q:=q') rfl (.inl ⟨L,hq,rfl⟩) C.room I (.inr ⟨o,sg _ _ hd⟩) bS xM cell hf fI mY wG hb hky hv) (λu s' hu=>?_) λ_ _ z=>z
  obtain⟨⟨t,rfl⟩,J⟩:=hu
  exact q t s' J
 ·refine wpAny_mono (m9 (kk:=k) (n:=cs.getD j 0) (r:=[]) (q:=d) rfl (.inr ⟨L,rfl⟩) C.room I (.inr ⟨o,sg _ _ hd⟩) bS xM cell hf fI mY wG hb hky hv) (λu s' hu=>?_) λ_ _ z=>z
  obtain⟨⟨t,rfl⟩,J⟩:=hu
  exact q t s' J
def zC{b:Bool}{s:Option Slot}{p r:PV}(o:nj b s p=.ok r):∃xs ks ps kl cs ix kk,p=.lst xs/\s=some (.val (.bF ks ps))/\qA xs=some kl/\Br b ks ps kl=some cs/\pL cs=some ix/\kl[ix]?=some kk/\r=kP kk:=by
 unfold nj at o;split at o
 ·rename_i xs ks ps;split at o
  ·rename_i kk e;cases o;obtain⟨kl,e1,e⟩:=zzZ.mp e
   obtain⟨cs,e2,e⟩:=zzZ.mp e
   obtain⟨ix,e3,e4⟩:=zzZ.mp e
   exact⟨xs,ks,ps,kl,cs,ix,kk,rfl,rfl,e1,e2,e3,e4,rfl⟩
  ·cases o
 ·cases o
def Dt(C:dy Γ F W N sc k X)(rC:Γ.qt=false){e:Ci.E}{pa:Expr}{b:Bool}{i:Nat}{x p:Str}{params:Arguments}{body:Expr}{scope:Scope}{q1 q3 q4 q5:Pos}(ha:GE X W F e pa)(he:starEach [pa] X.env=(false,eval pa X.env)::starEach [] X.env)
 (h3:N[i]?=some x) (h4:sc.names.lookup x=some .cell) (h5:ic sc "min"=true) (h6:Γ.bs.contains "min"=true) (h7:Γ.hl=true) (ep:ma params=some [p]) (L:if b=true then iV p x params body scope else nJ p x params body scope) (Cp:aO scope=[x]):
 PE X (.Call (.Name "min" q1) [pa] [⟨some "key",.Lambda params body scope q3,q4⟩] q5) (λσ H Q=>tE X W F e σ H λu H1=>∃H0 env G1 xs ks ps kl cs ix kk,Got W H0 G1 H1 e (.lst xs) u/\SR W H0 env σ G1 H1/\env[i]?=some (.val (.bF ks ps))/\qA xs=some kl/\Br b ks ps kl=some cs/\pL cs=some ix/\kl[ix]?=some kk/\∀v G' H',aA W G1 H1 G' H'->Rep W G' (kP kk) v->Q v H'):=by
 intro aa s σ H Q I hq;obtain⟨c,bS⟩:=I.ok.has x (.inl (by show X.env.scope.names.lookup x=_;rw [C.eE];exact h4))
 have A6:closureFor scope X.env=pure [(x,c)]:=by
  rw [fg λy hy hf=>?_]
  ·show pure (bE X.env (aO scope))=_
   rw [Cp];simp [bE,bS]
  ·have:y.1∈aO scope:=by
    unfold aO;rw [List.mem_reverse,zzx];exact⟨y,List.mem_filter.mpr ⟨hy,by rw [hf];rfl⟩,rfl⟩
   rw [Cp] at this;rw [zzi.mp this];exact⟨c,bS⟩
 refine wpAny_Call_Name_kw (eO I (fx C h5) (C.bs _ (zzn.mp h6)) (u:=.builtin "min") (by decide+kernel) ?_);refine PyProof.Rows.callWith_kw (he:=by rw [he];rfl) (hplain:=by rw [he];rfl) ?_;rw [show backTo q5 (starEach [pa] X.env)=[(false,eval pa X.env)] from by rw [he];rfl];refine Calls.spliced_cons (bJ (ha aa s σ H _ I hq) λu s1 hu=>Calls.spliced_nil ?_)
 obtain⟨v',H1,I1,ru,H0,env,G1,xs,ks,ps,kl,cs,ix,kk,t,bH,e1,e2,e3,e4,e5,q⟩:=hu
 refine PyProof.Rows.kws_cons (bJ (sJ C h7 ep A6 aa s1 σ H1 (λv2 H2=>∃f G2,v2=.ref f/\jX X W params body scope [(x,c)] G1 H1 G2 H2 f) I1 ⟨G1,bH.sub,bH.tab,λf G2 H2 lm=>⟨f,G2,rfl,lm⟩⟩) λu s2 hu=>PyProof.Rows.kws_nil ?_)
 obtain⟨v2,H2,I2,ru2,f,G2,rfl,g2,c',oc,cF,t',dX,pm,fo,co,cd,cn⟩:=hu
 cases ru2;have d9:=bH.grow g2
 obtain⟨l,vs,rfl,k1,k2⟩:=(t.grow g2).top.lst d9.sub
 cases ru;obtain⟨bs,rfl,pk⟩:=zm d9.sub e2 k2
 obtain⟨v3,hs,_,rfl,rv⟩:=d9.slot i _ e1
 simp! [Rep] at rv;obtain⟨d,o2,us,rfl,n,hd,lu⟩:=rv
 have kc:xV X σ H2 f bs λj=>cs.getD j 0:=KQ C d9.sub h3 h4 L hs hd lu n bS (I.ok.Fq x c (C.fl h7 x) bS) (d9.sub _ _ fo) (d9.sub _ _ co) cd cn (λu=>nT ep [u] rfl) pk e3
 obtain⟨mm,hm1,Jn⟩:=tQ e4
 obtain⟨cl,_⟩:=yh e3
 have Sk:bs.length=kl.length:=pk.length
 have Kx:ix<kl.length:=(zzH.mp e5).1
 refine vT kc (I.ok.hd (C.calm rC)) (by omega) I2 (qY C.K k1) λj hj best=>?_
 have ej:j=ix:=by
  have ca:∀a,a<cs.length->cs[a]?=some (cs.getD a 0):=λa ha=>by simp [ha]
  have b1:=best ix (by omega)
  have b2:=Jn j _ (ca j (by omega))
  have em:mm=cs.getD ix 0:=by rw [ca ix (by omega)] at hm1;exact(zzq hm1).symm
  rw [em] at b2;rcases Nat.lt_trichotomy j ix with z|z|z
  ·have:=b2.2 z;have:=b1.1;omega
  ·exact z
  ·have:=b1.2 z;have:=b2.1;omega
 subst ej;obtain⟨kj,h1,h2⟩:=sM pk (zzg hj)
 rw [e5] at h1;cases h1;obtain⟨G3,g3,hw⟩:=kU (W:=W) d9.sub h2
 exact q _ _ _ (g2.trans g3) hw
def Cg(S:dU Γ F W N sc k E X)(rC:Γ.qt=false){e:Ci.E}{pa:Expr}{m i:Nat}{x y:Str}{params:Arguments}{body:Expr}{scope:Scope}{yp q1 q3 q4 q5 pos:Pos}(ha:GE X W F e pa)(dh:∀env ps,starEach (pa::ps) env=(false,eval pa env)::starEach ps env)
 (h1:N[m]?=some y) (h2:eY sc y=true) (h3:N[i]?=some x) (h4:sc.names.lookup x=some .cell) (h5:ic sc "min"=true) (h6:Γ.bs.contains "min"=true) (h7:Γ.hl=true) (h8:m8 x params body scope=true):
 GS X W F H0 E (.mi m e i) (.Assign [.Name y yp] (.Call (.Name "min" q1) [pa] [⟨some "key",.Lambda params body scope q3,q4⟩] q5) pos):=by
 obtain⟨a1,a2,a3⟩:=dW S h1 h2
 obtain⟨p,ep,L,Cp,hox⟩:=qz h8
 refine L2.PS.imp (lF a1 a2 a3 (Dt S.C rC (b:=true) (p:=p) ha (dh _ _) h3 h4 h5 h6 h7 ep L Cp) rfl (.inl (S.fn y))) λD σ H hq=>?_
 obtain⟨G,env,sr,o⟩:=hq
 rw [ib] at o;refine oK S sr o λq v G1 H1 g t bH o1=>?_
 cases z:nj true env[i]? q with
 |bad=>rw [z] at o1;exact o1.elim
 |exc c=>rw [z] at o1;exact o1.elim
 |ok r=>
  rw [z] at o1;obtain⟨xs,ks,ps,kl,cs,ix,kk,rfl,e1,e2,e3,e4,e5,rfl⟩:=zC z
  exact⟨H0,env,G1,xs,ks,ps,kl,cs,ix,kk,t,bH,e1,e2,e3,e4,e5,λv G' H' g' rp=>o1 _ G' _ ((bH.grow g').set m rp) (bH.on g')⟩
def qe{e:Ci.E}(h:iJ e=true):∀env q,aC F e env=.ok q->∃xs,q=.lst xs:=by
 cases e<;>first|(exact aV h)|exact lst_is|exact ud|exact mK
def mE(S:dU Γ F W N sc k E X){i:Nat}{x:Str}{xp pos:Pos}(hx:N[i]?=some x)(Cs:eY sc x=true)(e:Ci.E)(p:Expr)(hf:iJ e=true)(h:bh Γ N sc e p=true):PS X (.Assign [.Name x xp] p pos) (Js X W F i e):=by
 cases e with
 |lst as=>
  obtain⟨ps,e,h1⟩:=ah h
  obtain⟨_,rfl⟩:=zu e
  have h2:=au h1
  have h0:=au h2.1
  exact oU S hx Cs (yJ h0.1 (zzY h0.2) (jl as S.C _ h2.2)) rfl
 |comp kk aS tg it elt=>
  obtain⟨hq,h⟩:=qL h
  obtain⟨eQ,gens,scope,_,rfl,h1⟩:=Mm h
  obtain⟨⟨cU,fJ,ifs,asy⟩,z2,h2⟩:=lA h1
  have h3:=au h2
  have z3:=CQ h3.1
  dsimp only at z2 z3;subst z2 z3
  clear h h1 h2
  have h:=au h3.2
  clear h3
  simp! [zza] at h;obtain⟨⟨⟨⟨⟨⟨h1,h2⟩,h3⟩,h4⟩,h5⟩,h6⟩,gZ⟩:=h
  have gZ:=zzY gZ
  subst gZ;exact x6 S hq hx Cs (iu h1) h2 h3 (AD it S.C cU fJ h4) (iC h4 _) h5 λY CY=>(br elt CY eQ h6).ge
 |dD kk aS tg it c elt=>
  obtain⟨hq,h⟩:=qL h
  obtain⟨eQ,gens,scope,_,rfl,h1⟩:=Mm h
  obtain⟨⟨cU,fJ,ifs,asy⟩,z2,h2⟩:=lA h1
  obtain⟨pc,z3,h3⟩:=lA h2
  dsimp only at z2 z3;subst z2 z3
  clear h h1 h2
  have h:=au h3
  clear h3
  simp! [zza] at h;obtain⟨⟨⟨⟨⟨⟨⟨⟨h0,h1⟩,h2⟩,h3⟩,h4⟩,h5⟩,h6⟩,h7⟩,gZ⟩:=h
  have gZ:=zzY gZ
  subst gZ;exact rL S hq hx Cs (iu h1) h2 h3 (AD it S.C cU fJ h4) (iC h4 _) h5 (λY CY=>(br c CY pc h6).gt h0) λY CY=>(br elt CY eQ h7).ge
 |_=>exact aV hf
def w8{e:Ci.E}{p:Expr}(h:bh Γ N sc e p=true)(hf:iJ e=false):oH p=true:=by
 cases p<;>first|rfl|(cases e<;>first|(exact aV h)|(rename_i q;cases q<;>exact aV h)|(cases hf;done))
def wA(S:dU Γ F W N sc k E X){i:Nat}{x:Str}{e:Ci.E}{p:Expr}{xp pos:Pos}(h:N[i]?=some x)(hl:eY sc x=true)(dB:gB e=true)(hc:bh Γ N sc e p=true):GS X W F H0 E (.set i e) (.Assign [.Name x xp] p pos):=by
 cases hf:iJ e with
 |true=>exact Ck S (qe hf) dB (mE S h hl e p hf hc)
 |false=>exact Gq S h hl dB (br e S.C p hc).ge (pg (w8 hc hf))
def AF(S:dU Γ F W N sc k E X)(e:Ci.E)(p:Stmt)(h:eh Γ N sc (.expr e) p=true):GS X W F H0 E (.expr e) p:=by
 cases p<;>first|(exact aV h)|skip
 replace h:=au h
 try simp! [zza] at h
 exact Cd S (br e S.C _ h.2).ge h.1
def vo(S:dU Γ F W N sc k E X)(i:Nat)(e:Ci.E)(p:Stmt)(h:eh Γ N sc (.set i e) p=true):GS X W F H0 E (.set i e) p:=by
 cases p<;>first|(exact aV h)|skip
 replace h:=ah h
 simp! [Option.any_eq_true,zza,zzy] at h;obtain⟨x,h0,h1⟩:=h
 obtain⟨xp,rfl⟩:=lx h0
 exact wA S h1.1.1.1 h1.1.1.2 h1.1.2 h1.2
def DO(S:dU Γ F W N sc k E X)(i:Nat)(e:Ci.E)(p:Stmt)(h:eh Γ N sc (.own i e) p=true):GS X W F H0 E (.own i e) p:=by
 cases p<;>first|(exact aV h)|skip
 replace h:=ah h
 simp! [Option.any_eq_true,zza,zzy] at h;obtain⟨x,h0,h⟩:=h
 obtain⟨xp,rfl⟩:=lx h0
 exact Cj S h.1.1.1 (qe h.1.2) (mE S h.1.1.1 h.1.1.2 e _ h.1.2 h.2)
def DN(S:dU Γ F W N sc k E X)(i:Nat)(p:Stmt)(h:eh Γ N sc (.bq i) p=true):GS X W F H0 E (.bq i) p:=by
 cases p<;>exact aV h
def DL(S:dU Γ F W N sc k E X)(i:Nat)(e:Ci.E)(p:Stmt)(h:eh Γ N sc (.app i e) p=true):GS X W F H0 E (.app i e) p:=by
 cases p<;>first|(exact aV h)|skip
 replace h:=ah h
 simp! [Option.any_eq_true,zza,zzy] at h;obtain⟨⟨x,m,args⟩,h0,⟨⟨⟨⟨h1,h2⟩,h3⟩,h4⟩,h5⟩,q,h6,h7⟩:=h
 obtain⟨np,apos,bI,rfl,hl⟩:=sx h0
 cases cY h6;cases h4;exact Gj S h1 h2 h3 hl h5 (br e S.C q h7).ge (notStar h7)
def AG(S:dU Γ F W N sc k E X)(i:Nat)(e:Ci.E)(p:Stmt)(h:eh Γ N sc (.og i e) p=true):GS X W F H0 E (.og i e) p:=by
 cases p<;>first|(exact aV h)|skip
 replace h:=ah h
 simp! [Option.any_eq_true,zza,zzy] at h;obtain⟨⟨x,m,args⟩,h0,⟨⟨⟨h1,h2⟩,h3⟩,h4⟩,q,h6,h7⟩:=h
 obtain⟨np,apos,bI,rfl,hl⟩:=sx h0
 cases cY h6;cases h4;exact Ce S h1 h2 h3 hl (br e S.C q h7).ge (notStar h7)
def DQ(S:dU Γ F W N sc k E X)(i:Nat)(kk e:Ci.E)(p:Stmt)(h:eh Γ N sc (.put i kk e) p=true):GS X W F H0 E (.put i kk e) p:=by
 cases p<;>first|(exact aV h)|skip
 replace h:=ah h
 simp! [Option.any_eq_true,zza,zzy] at h;obtain⟨⟨x,pk⟩,h0,⟨⟨⟨⟨h1,h2⟩,h3⟩,h5⟩,h6⟩,h7⟩:=h
 obtain⟨np,sp,rfl⟩:=Ay h0
 exact Gn S h1 h2 h3 h5 h6 (br kk S.C pk h6).ge (br e S.C _ h7).ge
def AE(S:dU Γ F W N sc k E X)(i:Nat)(p:Stmt)(h:eh Γ N sc (.i4 i) p=true):GS X W F H0 E (.i4 i) p:=by
 cases p<;>first|(exact aV h)|skip
 rename_i ts v pos;cases v<;>first|(exact aV h)|skip
 rename_i ks vs dp;cases ks<;>first|(exact aV h)|skip
 cases vs<;>first|(exact aV h)|skip
 replace h:=ah h
 simp! [Option.any_eq_true,zza,zzy] at h;obtain⟨x,h0,h1,h2⟩:=h
 obtain⟨yp,rfl⟩:=lx h0
 exact Cc S h1 h2
def sP(S:dU Γ F W N sc k E X)(i j n:Nat)(p:Stmt)(h:eh Γ N sc (.d8 i j n) p=true):GS X W F H0 E (.d8 i j n) p:=by
 cases p<;>first|(exact aV h)|skip
 replace h:=ah h
 simp! [Option.any_eq_true,zza,zzy] at h;obtain⟨⟨x,pk⟩,h0,z,hz,⟨⟨⟨⟨⟨h1,h2⟩,h3⟩,h4⟩,h5⟩,h6⟩,⟨y,m,args⟩,h7,h8,e,he,z2,hz2,⟨⟨h9,h10⟩,h11⟩,h12⟩:=h
 obtain⟨np,sp,rfl⟩:=Ay h0
 obtain⟨zp,rfl⟩:=bM hz
 obtain⟨yp,apos,bI,rfl,hl⟩:=sx h7
 cases h8;cases cY he;obtain⟨QF,rfl⟩:=bM hz2
 subst h9;exact wy S h1 h2 h3 h4 h5 h6 h10 h11 h12 hl
def AH(S:dU Γ F W N sc k E X)(hq:Γ.qt=false)(m i:Nat)(p:Stmt)(h:eh Γ N sc (.lh m i) p=true):GS X W F H0 E (.lh m i) p:=by
 cases p<;>first|(exact aV h)|skip
 replace h:=ah h
 simp! [Option.any_eq_true,zza,zzy] at h;obtain⟨y,hy,c,hc,⟨⟨⟨⟨⟨⟨h1,h2⟩,h3⟩,h4⟩,h5⟩,h6⟩,h7⟩,h8⟩:=h
 obtain⟨yp,rfl⟩:=lx hy
 obtain⟨q1,q2,q3,q4,q5,rfl⟩:=Hi hc
 exact Cf S hq h1 h2 h3 h4 h5 h6 h7 h8
def AI(S:dU Γ F W N sc k E X)(hq:Γ.qt=false)(m:Nat)(e:Ci.E)(i:Nat)(p:Stmt)(h:eh Γ N sc (.mi m e i) p=true):GS X W F H0 E (.mi m e i) p:=by
 cases p<;>first|(exact aV h)|skip
 replace h:=ah h
 simp! [Option.any_eq_true,zza,zzy] at h;obtain⟨y,hy,c,hc,x,hx,⟨⟨⟨⟨⟨⟨h1,h2⟩,h4⟩,h5⟩,h6⟩,h7⟩,h8⟩,h9⟩:=h
 obtain⟨yp,rfl⟩:=lx hy
 obtain⟨q1,q3,q4,q5,rfl⟩:=Hj hc
 exact Cg S hq (br e S.C c.1 h9).ge (notStar h9) h1 h2 hx h4 h5 h6 h7 h8
def vn(S:dU Γ F W N sc k E X)(e:Ci.E)(p:Stmt)(h:eh Γ N sc (.ret e) p=true):GS X W F H0 E (.ret e) p:=by
 cases p<;>first|(exact aV h)|skip
 rename_i v pos;cases v with
 |none=>exact aV h
 |some v=>
  replace h:=au h
  try simp! [zza] at h
  exact Gp S h.1 (br e S.C v h.2).ge
def xx(S:dU Γ F W N sc k E X)(hq:Γ.qt=false)(c m:Str)(p:Stmt)(h:eh Γ N sc (.raise c m) p=true):GS X W F H0 E (.raise c m) p:=by
 cases p<;>first|(exact aV h)|skip
 replace h:=au h
 simp! [Option.any_eq_true,zza,zzy] at h;obtain⟨hn,⟨x,z⟩,h0,⟨⟨⟨h1,h2⟩,h3⟩,h4⟩,h5⟩:=h
 obtain⟨np,j,zp,cp,rfl⟩:=Io h0
 cases h1;cases h2;rename_i fr pos;cases Option.isNone_iff_eq_none.mp hn;exact yL S hq h3 h4 h5
def DM(S:dU Γ F W N sc k E X)(p:Stmt)(h:eh Γ N sc (.brk) p=true):GS X W F H0 E (.brk) p:=by
 cases p<;>first|(exact aV h)|skip
 exact Gk
def uG{c:Ci.E}{a b:Ss}{p:Stmt}(h:eh Γ N sc (.ite c a b) p=true):∃q pa pb pos,p=.If q pa pb pos/\fC c=true/\bh Γ N sc c q=true/\cV Γ N sc a pa=true/\cV Γ N sc b pb=true:=by
 cases p<;>first|(exact aV h)|skip
 replace h:=au h
 try simp! [zza] at h
 exact⟨_,_,_,_,rfl,h.1.1.1,h.1.1.2,h.1.2,h.2⟩
def CA{tg:Tg}{it:I}{b:Ss}{p:Stmt}(h:eh Γ N sc (.dF tg it b) p=true):∃cU fJ pb pos,p=.For cU fJ pb [] pos/\gU N sc (λ_=>true) tg cU=true/\B1 it=true/\vY Γ N sc cU it fJ=true/\cV Γ N sc b pb=true:=by
 cases p<;>first|(exact aV h)|skip
 replace h:=au h
 try simp! [zza] at h
 cases List.isEmpty_iff.mp h.1.1.1.1;exact⟨_,_,_,_,rfl,h.1.1.1.2,h.1.1.2,h.1.2,h.2⟩
def CB{c:Ci.E}{b:Ss}{p:Stmt}(h:eh Γ N sc (.Bd c b) p=true):∃q pb pos,p=.While q pb [] pos/\fC c=true/\bh Γ N sc c q=true/\cV Γ N sc b pb=true:=by
 cases p<;>first|(exact aV h)|skip
 replace h:=au h
 try simp! [zza] at h
 cases List.isEmpty_iff.mp h.1.1.1;exact⟨_,_,_,rfl,h.1.1.2,h.1.2,h.2⟩
def uH{ps:List Stmt}(h:cV Γ N sc .nil ps=true):ps=[]:=by
 cases ps with
 |nil=>rfl
 |cons _ _=>exact aV h
def qq{s:Ci.S}{ss:Ss}{ps:List Stmt}(h:cV Γ N sc (.cons s ss) ps=true):(∃i,s=.bq i/\cV Γ N sc ss ps=true)\/∃q qs,ps=q::qs/\eh Γ N sc s q=true/\cV Γ N sc ss qs=true:=by
 by_cases hz:∃i,s=.bq i
 ·obtain⟨i,rfl⟩:=hz
  exact .inl ⟨i,rfl,h⟩
 ·cases ps with
  |nil=>cases s<;>first|(exact absurd ⟨_,rfl⟩ hz)|(exact aV h)
  |cons p ps=>
   have h2:(eh Γ N sc s p&&cV Γ N sc ss ps)=true:=by
    cases s<;>first|(exact absurd ⟨_,rfl⟩ hz)|(exact h)
   rw [zza] at h2;exact .inr ⟨p,ps,rfl,h2.1,h2.2⟩
mutual
theorem Ou(S:dU Γ F W N sc k E X)(hq:Γ.qt=false):∀(s:Ci.S) (p:Stmt),eh Γ N sc s p=true->GS X W F H0 E s p
 |.expr e,p,h=>AF S e p h
 |.set i e,p,h=>vo S i e p h
 |.own i e,p,h=>DO S i e p h
 |.bq i,p,h=>DN S i p h
 |.app i e,p,h=>DL S i e p h
 |.og i e,p,h=>AG S i e p h
 |.put i kk e,p,h=>DQ S i kk e p h
 |.i4 i,p,h=>AE S i p h
 |.d8 i j n,p,h=>sP S i j n p h
 |.lh m i,p,h=>AH S hq m i p h
 |.mi m e i,p,h=>AI S hq m e i p h
 |.ret e,p,h=>vn S e p h
 |.ite c a b,p,h=>by
  obtain⟨q,pa,pb,pos,rfl,h1,h2,h3,h4⟩:=uG h
  exact yK S ((br c S.C _ h2).gt h1) (lJ S hq a _ h3) (lJ S hq b _ h4)
 |.dF tg it b,p,h=>by
  obtain⟨cU,fJ,pb,pos,rfl,h1,h2,h3,h4⟩:=CA h
  exact Gm S hq h1 h2 (AD it S.C cU fJ h3) (iC h3 _) (lJ S hq b _ h4)
 |.Bd c b,p,h=>by
  obtain⟨q,pb,pos,rfl,h1,h2,h3⟩:=CB h
  exact Gr S ((br c S.C _ h2).gt h1) (lJ S hq b _ h3)
 |.raise c m,p,h=>xx S hq c m p h
 |.brk,p,h=>DM S p h
theorem lJ(S:dU Γ F W N sc k E X)(hq:Γ.qt=false):∀(ss:Ss) (ps:List Stmt),cV Γ N sc ss ps=true->xU X W F H0 E ss ps
 |.nil,ps,h=>by
  cases uH h;exact uB
 |.cons s ss,ps,h=>by
  rcases qq h with⟨i,e,h2⟩|⟨q,qs,e,h1,h2⟩
  ·have:=Cm (i:=i) (lJ S hq ss ps h2)
   rw [<-e] at this;exact this
  ·rw [e];exact ql (Ou S hq s q h1) (lJ S hq ss qs h2)
end
mutual
noncomputable def Ic:Ci.S->Bool
 |.set _ _=>true
 |.ret _=>true
 |.ite _ a b=>lG a&&lG b
 |_=>false
noncomputable def lG:Ss->Bool
 |.nil=>true
 |.cons s ss=>Ic s&&lG ss
end
mutual
theorem Ot(S:dU Γ F W N sc k E X):∀(s:Ci.S) (p:Stmt),Ic s=true->eh Γ N sc s p=true->GS X W F H0 E s p
 |.set i e,p,_,h=>vo S i e p h
 |.ret e,p,_,h=>vn S e p h
 |.ite c a b,p,hz,h=>by
  unfold Ic at hz;rw [zza] at hz;obtain⟨q,pa,pb,pos,rfl,h1,h2,h3,h4⟩:=uG h
  exact yK S ((br c S.C _ h2).gt h1) (vm S a _ hz.1 h3) (vm S b _ hz.2 h4)
 |.expr _,_,h,_=>aV h
 |.own _ _,_,h,_=>aV h
 |.bq _,_,h,_=>aV h
 |.app _ _,_,h,_=>aV h
 |.og _ _,_,h,_=>aV h
 |.put _ _ _,_,h,_=>aV h
 |.i4 _,_,h,_=>aV h
 |.d8 _ _ _,_,h,_=>aV h
 |.lh _ _,_,h,_=>aV h
 |.mi _ _ _,_,h,_=>aV h
 |.dF _ _ _,_,h,_=>aV h
 |.Bd _ _,_,h,_=>aV h
 |.raise _ _,_,h,_=>aV h
 |.brk,_,h,_=>aV h
theorem vm(S:dU Γ F W N sc k E X):∀(ss:Ss) (ps:List Stmt),lG ss=true->cV Γ N sc ss ps=true->xU X W F H0 E ss ps
 |.nil,ps,_,h=>by
  cases uH h;exact uB
 |.cons s ss,ps,hz,h=>by
  unfold lG at hz;rw [zza] at hz;rcases qq h with⟨i,e,h2⟩|⟨q,qs,e,h1,h2⟩
  ·rw [e] at hz;exact aV hz.1
  ·rw [e];exact ql (Ot S s q hz.1 h1) (vm S ss qs hz.2 h2)
end
end
end Ci
namespace L2
open PySem PySem.Spec PyProof.Rows
def zi{K:zz8}{C:Addr}{T:String}{b:Bool}(h1:PySem.W.kitMeta T=true)(h3:PySem.W.subIn K (.ref C) (.type T)=some b):PySem.W.kitOne K (.ref C) (.type T)=some b:=by
 unfold PySem.W.kitOne;split
 ·rename_i e;cases zzy.mp e
 ·show(if PySem.W.kitMeta T=true then PySem.W.subIn K (.ref C) (.type T) else none)=some b
  rw [if_pos h1];exact h3
def HL{K:zz8}{h:Heap}{mg:Str->Option Value}{x:Str}{C:Addr}{Pj:List Value}{newId:String}(X:K.In h)(hm:mg x=some (.ref C))(q:PySem.W.excIn K C Pj newId=true):OwnCls x C Pj newId mg h:=by
 constructor
 ·exact hm
 ·unfold PySem.W.excIn at q;split at q
  ·rename_i dd cd sl ho;split at q
   ·rename_i C1 bm1 k0 k1 k2 k3 n1 k5 hm1 Nz;simp! [zza,zzy,Bool.not_eq_true'] at q;obtain⟨⟨⟨⟨⟨q1,q2⟩,q3⟩,q4⟩,q5⟩,q6⟩:=q
    subst q1 q2;obtain⟨nm,bs,mro,ns,qn,hd,sn,sub,ab,col,del⟩:=cd
    have Jn:mro=.ref C1::bm1:=hm1
    have hd2:del=false:=q3
    have Qj:PySem.W.nsOkIn K ns=true:=q5
    have RL:PySem.W.nsIn K ns "__init__"=some none:=q6
    subst Jn hd2;obtain⟨ls⟩:=sl
    have GQ:ls=[k0,k1,k2,k3,some (.builtin n1),k5]:=Nz
    subst GQ;exact⟨bm1,ns,nm,qn,bs,hd,sn,sub,ab,col,dd,k0,k1,k2,k3,k5,_,X _ _ ho,.of_isNs (PySem.W.isNs_of_in X Qj),PySem.W.nsMap_none_of_in X Qj RL,PySem.W.tail_of_in X q4⟩
   ·cases q
  ·cases q
end L2
namespace Ci
open PySem L2
noncomputable abbrev yv:List Value:=[.type "ValueError",.type "Exception",.type "BaseException",.type "object"]
structure rE(K:zz8)(mg:Str->Option Value)(Γ:Pg)(W:Wd):Prop where
 hK:W.K=K
 hm:W.mg=mg
 gs:∀q∈Γ.gs,∃u v,mg q.1=some u/\RelV v u/\∀G,Rep W G q.2 v
 bs:∀g∈Γ.bs,mg g=none
 Mq:Γ.cs.contains "ValueError"=false
 cls:∀c∈Γ.cs,∃C,mg c=some (.ref C)
 xc:∀d∈W.xs,∀D,mg d=some (.ref D)->Fg K D/\(∀c∈Γ.cs,∀C,mg c=some (.ref C)->PySem.W.kitOne K (.ref D) (.ref C)=some (c==d||c=="FloorError"))/\PySem.W.kitOne K (.ref D) (.type "ValueError")=some true
 xs:∀c,Γ.rs.contains c=true->c∈W.xs
 rm:∀c,Γ.rs.contains c=true->∃C,mg c=some (.ref C)/\PySem.W.excIn K C yv "ValueError.__new__"=true
 L7:Γ.cs.contains "FloorError"=true->∀c D,c∈W.xs->mg c=some (.ref D)->∀T,mg "FloorError"=some (.ref T)->PySem.W.exmOne K (.ref D) (.ref T)=some true
 bm:W.ts≠[]->∃bm o,mg "__builtins__"=some (.ref bm)/\bm≠builtinsNs/\bm≠mainGlobals/\K.lookup bm=some o/\o.cls=.type "module"/\o.dict=some builtinsNs/\o.data=.plain
structure Row where
 f:Str
 h:Str
 d:Def
 st:Stmt
 hl:Bool:=false
abbrev eK:Type:=List Row
noncomputable def ju(l:eK):List Str:=l.filterMap λr=>if r.d.gz.isNone then some r.f else none
noncomputable def wM(l:eK):List Hs:=l.filterMap λr=>r.d.gz.map λq=>⟨r.f,r.h,q.1,q.2,r.d.np⟩
noncomputable def tab(l:eK):List (Str×Def):=l.map λq=>(q.f,q.d)
noncomputable def kZ(l:eK):List Str:=match l.getLast? with|some r=>if r.d.gz.isNone then [r.f] else []|none=>[]
noncomputable def Pg.at(Γ:Pg)(l:eK)(hl:Bool):Pg:={Γ with fs:=ju l,hs:=wM l,hl:=hl,qt:=l.isEmpty,qs:=kZ l}
structure cA(Γ:Pg)(n:Str)(d:Def)(st:Stmt):Prop where
 sc:jW d.N (d.N.take d.np) (aQ st)
 np:d.np<=d.N.length
 bind:∀(kV doc pm:Value) (an:Option Addr) (fv ct:Value) (us:List Value),us.length=(d.N.take d.np).length->bindArgs (PySem.W.fnOf n n (cW st) (cE st) (aQ st) .none kV doc pm an fv ct) ⟨us,[]⟩=pure ((d.N.take d.np).zip us)
 Pr:cV Γ d.N (aQ st) d.body (cE st)=true
 RM:(!Γ.qt||lG d.body)=true
theorem stM{Γ:Pg}{n:Str}{d:Def}{st:Stmt}(b:∀(kV doc pm:Value) (an:Option Addr) (fv ct:Value) (us:List Value),us.length=(d.N.take d.np).length->bindArgs (PySem.W.fnOf n n (cW st) (cE st) (aQ st) .none kV doc pm an fv ct) ⟨us,[]⟩=pure ((d.N.take d.np).zip us))
 (a1:(aQ st).kind=.function:=by rfl) (a2:(aQ st).isCoroutine=false:=by rfl) (a3:(aQ st).isGenerator=false:=by rfl) (a4:d.N.Nodup:=by decide+kernel) (a5:d.N.take (d.N.take d.np).length=d.N.take d.np:=by rfl)
 (a6:∀x∈d.N.take d.np,(aQ st).names.lookup x=some .local\/(aQ st).names.lookup x=some .cell:=by decide+kernel) (a7:∀y∈(aQ st).names,y.2≠.free:=by decide+kernel) (a8:d.np<=d.N.length:=by decide+kernel) (a9:cV Γ d.N (aQ st) d.body (cE st)=true:=by decide+kernel) (QJ:(!Γ.qt||lG d.body)=true:=by decide+kernel):cA Γ n d st:=⟨⟨a1,a2,a3,a4,a5,a6,a7⟩,a8,b,a9,QJ⟩
def fu(K:zz8)(c P:Addr):Prop:=∃o vs file tf flags tg NJ text tt,K.lookup c=some o/\o.cls=.type "code"/\o.data=.fields vs/\vs[11]?=some (.ref P)/\vs.getD 11 .none=.ref P/\vs.getD 18 .none=.str file tf/\
 vs.getD 7 .none=.int flags tg/\vs.getD 9 .none=.bool NJ/\vs.getD 10 .none=.int text tt/\c≠P
noncomputable def kW(n:Str):Str:=(n++".<locals>.")++"<lambda>"
def vF(K:zz8)(ts:List (Addr×Str))(hl:Bool)(n:Str)(st:Stmt):Prop:=∃(f:Addr) (oc:Value) (od:Option Addr) (kV doc pm:Value) (an:Option Addr) (fv ct:Value) (sH:Array (Option Value)),
 PySem.W.nsIn K mainGlobals n=some (some (.ref f))/\K.lookup f=some ⟨oc,od,.func (PySem.W.fnOf n n (cW st) (cE st) (aQ st) .none kV doc pm an fv ct),sH⟩/\PySem.W.codeIn K fv n=true/\PySem.W.keepIn K (.ref f)=true/\
 (hl=true->∃c P,fv=.ref c/\fu K c P/\(P,kW n)∈ts/\∀q',(P,q')∈ts->q'=kW n)
def M4{K:zz8}{ts:List (Addr×Str)}{n:Str}{st:Stmt}{f:Addr}{oc:Value}{od:Option Addr}{kV doc pm:Value}{an:Option Addr}{fv ct:Value}{sH:Array (Option Value)}(a:PySem.W.nsIn K mainGlobals n=some (some (.ref f)))
 (l:K.lookup f=some ⟨oc,od,.func (PySem.W.fnOf n n (cW st) (cE st) (aQ st) .none kV doc pm an fv ct),sH⟩) (c:PySem.W.codeIn K fv n=true) (k:PySem.W.keepIn K (.ref f)=true):vF K ts false n st:=⟨f,oc,od,kV,doc,pm,an,fv,ct,sH,a,l,c,k,(λz=>nomatch z)⟩
structure iU(P:Program)(w:World)(K:zz8)(mg:Str->Option Value)(base:Heap)(W:Wd)(F:aU)(k:Nat)(f:Str):Prop where
 ex:∃fa fd ps,fL P w K mg base (dO P w) k fa fd ps (xP W F f ps.length none)/\mg f=some (.ref fa)/\PySem.W.keepIn K (.ref fa)=true/\Binds K fd ps []/\∀as,F f as≠.bad->as.length=ps.length
structure E6(P:Program)(w:World)(K:zz8)(mg:Str->Option Value)(base:Heap)(W:Wd)(F:aU)(k:Nat)(q:Hs):Prop where
 ex:∃fa fd ps,fL P w K mg base (dO P w) k fa fd ps (xP W F q.f ps.length (some (q.g,q.idx)))/\mg q.h=some (.ref fa)/\PySem.W.keepIn K (.ref fa)=true/\Binds K fd ps []/\ps.length=q.np
section
variable{P:Program}{w:World}{K:zz8}{mg:Str->Option Value}{base:Heap}{Γ:Pg}{W:Wd}
def vZ{c p:Addr}(KB:K.In base)(h:fu K c p):PySem.W.CodeHd base c p:=by
 obtain⟨o,vs,file,tf,flags,tg,NJ,text,tt,e,r⟩:=h
 exact⟨o,vs,file,tf,flags,tg,NJ,text,tt,KB _ _ e,r⟩
theorem FG(M:rE K mg Γ W)(KB:K.In base){F:aU}{k:Nat}{N ps:List Str}{qual:Str}{sc:Scope}(S:jW N ps sc)(hF:∀f,Γ.fs.contains f=true->iU P w K mg base W F k f)(hH:∀q∈Γ.hs,E6 P w K mg base W F k q)(hQ:∀f,Γ.qs.contains f=true->2<=k/\iU P w K mg base W F 2 f)(hk:Γ.qt=false->2<=k)(hA:∀g as,F g as≠.bad->Γ.fs.contains g=true\/gb g=true){f:Addr}{cd:Value}
 (hL:Γ.hl=true->∃c p,cd=.ref c/\fu K c p/\(p,kW qual)∈W.ts/\∀q',(p,q')∈W.ts->q'=kW qual) {A:Around} {outer:List Env} {s:Shared} {H:Hp} {E:XK} (hr:dc (k+1) (A.deeper (PyProof.Rows.envOfC qual sc (zz9 s) f cd))):
 dU Γ F W N sc k E (dE (dO P w) P w K mg base N qual sc f cd A outer s H E) where
 C:=⟨rfl,rfl,λz=>Option.isNone_iff_eq_none.mpr (hr.hd (by have:=hk z;omega)),S.nd,M.hK,M.hm,M.gs,M.bs,hr,λg hg=>⟨(hF g hg).ex⟩,M.Mq,M.cls,M.xc,λq hq=>⟨(hH q hq).ex⟩,λf hf=>⟨(hQ f hf).1,⟨(hQ f hf).2.ex⟩⟩,hA,λz=>by
  obtain⟨c,p,e1,e2,e3,e4⟩:=hL z
  exact⟨c,p,e1,vZ KB e2,e3,e4⟩,λz=>by
  obtain⟨c,p,e1,e2,e3,e4⟩:=hL z
  obtain⟨bm,o,b1,b2,b3,b4,b5⟩:=M.bm (λy=>by rw [y] at e3;cases e3)
  exact⟨bm,o,b1,b2,b3,KB _ _ b4,b5⟩,λ_ _=>rfl⟩
 fn:=λ_=>rfl
 own:=PassesOwn.leaving
 pass:=Le
 kind:=S.kind
 Lx:=rfl
 frame:=rfl
 xs:=M.xs
 rm:=λc hc=>let⟨C,h,_⟩:=M.rm c hc;⟨C,h⟩
 rz:=λhq c z j np zp cp pos h1 h2 h3=>by
  obtain⟨C,hC,hx⟩:=M.rm c h1
  have hg:Gl (dE (dO P w) P w K mg base N qual sc f cd A outer s H E) c:=zzy.mp h2
  refine L2.PS.imp (Ar hg (HL KB hC hx) PySem.F.excBase_ValueError (cH oR fq) rfl rfl (da h3).1 (Option.isNone_iff_eq_none.mpr (hr.hd (by have:=hk hq;omega)))) λD σ H1 h=>⟨(show 1<=sizeLine by decide),λe he=>h C e hC he⟩
 L7:=M.L7
def q8{H G:Hp}{N:List Str}{as:List PV}{vs:List V}(sg:ax G H)(tb:cq W G H)(l:ai W G as vs)(hn:as.length<=N.length):SR W H (as.map .val++List.replicate (N.length-as.length) .no) (start N vs) G H:=by
 have hl:=l.length
 unfold L2.start;refine⟨by simp;omega,sg,gQ.refl _,λi s e=>?_,λi j p q a e1 _ _ _=>?_,tb,tb⟩
 ·by_cases hi:i<as.length
  ·rw [zzr (by simpa using hi),zzQ] at e;obtain⟨p,hp,rfl⟩:=zzJ.mp e
   obtain⟨v,hv,rv⟩:=l.oq hp
   exact⟨some v,by rw [zzr (by simpa using (show i<vs.length by omega)),zzQ,hv];rfl,v,rfl,rv⟩
  ·rw [zzs (by simpa using hi),List.getElem?_replicate] at e;split at e
   ·rename_i h2;cases e;rw [zzl] at h2;exact⟨none,by rw [zzs (by simp;omega),List.getElem?_replicate,if_pos (by rw [zzl];omega)],trivial⟩
   ·cases e
 ·exfalso
  by_cases hi:i<as.length
  ·rw [zzr (by simpa using hi),zzQ] at e1;obtain⟨p,hp,e⟩:=zzJ.mp e1
   cases e
  ·rw [zzs (by simpa using hi),List.getElem?_replicate] at e1;split at e1<;>cases e1
def SR.Ln{H0 G H:Hp}{env:Sl}{σ:St}{g:Str}{idx:List Nat}{cu:List PV}{v:V}(i:Nat)(r:SR W H0 env σ G H)(h:nF W G g idx cu v):SR W H0 (env.set i (.fn g idx cu)) (σ.set i (some v)) G H where
 len:=by simpa using r.len
 sub:=r.sub
 base:=r.base
 tab:=r.tab
 mB:=r.mB
 slot:=λj s e=>by
  by_cases hj:i=j
  ·subst hj;have cm:i<env.length:=by
    have:=(zzH.mp e).1
    simpa using this
   rw [zzo cm] at e;cases e;exact⟨some v,zzo (by rw [<-r.len];exact cm),v,rfl,h⟩
  ·rw [zzS hj] at e;obtain⟨o,h1,h2⟩:=r.slot j s e
   exact⟨o,by rw [zzS hj];exact h1,h2⟩
 apart:=λa b q q' ad e1 e2 e3 e4=>by
  have ne:∀{c:Nat} {q:PV},(env.set i (.fn g idx cu))[c]?=some (.own q)->i≠c:=λ{c q} e z=>by
   subst z;have cm:i<env.length:=by
    have:=(zzH.mp e).1
    simpa using this
   rw [zzo cm] at e;cases e
  have n1:=ne e1
  have n2:=ne e2
  rw [zzS n1] at e1 e3;rw [zzS n2] at e2 e4;exact r.apart a b q q' ad e1 e2 e3 e4
def vi{α:Type}{l r:List α}{a b:α}:(l++a::r).set l.length b=l++b::r:=by
 rw [List.set_append_right _ _ (zzE _),Nat.sub_self];rfl
def xy{d:Def}{H G:Hp}{as:List PV}{vs:List V}(Mc:d.np<=d.N.length)(sg:ax G H)(tb:cq W G H)(l:xQ W G d.gz as vs)(hv:vs.length=d.np):cI d as=true/\SR W H (cK d as) (start d.N vs) G H:=by
 unfold cI cK;cases hc:d.gz with
 |none=>
  rw [hc] at l;have l:ai W G as vs:=l
  exact⟨by rw [<-l.length,hv];simp,q8 sg tb l (by rw [<-l.length,hv];exact Mc)⟩
 |some q=>
  rw [hc] at l;obtain⟨tV,cu,vB,v,rfl,rfl,l1,cr⟩:=l
  have Rn:=l1.length
  have hn:vB.length=d.np-1/\0<d.np:=by rw [zzM] at hv;simp at hv;omega
  have ha:tV.length=d.np-1:=by omega
  refine⟨by simp;omega,?_⟩;have h0:=q8 (N:=d.N) sg tb l1 (by omega)
  have h1:=h0.Ln tV.length cr
  have e1:(tV.map Slot.val++List.replicate (d.N.length-tV.length) Slot.no).set tV.length (.fn q.1 q.2 cu)=((tV++cu).take (d.np-1)).map .val++.fn q.1 q.2 ((tV++cu).drop (d.np-1))::List.replicate (d.N.length-d.np) Slot.no:=by
   rw [<-ha,List.take_left',List.drop_left',show d.N.length-tV.length=(d.N.length-d.np)+1 by omega,List.replicate_succ]
   ·have:=vi (l:=tV.map Slot.val) (r:=List.replicate (d.N.length-d.np) Slot.no) (a:=Slot.no) (b:=.fn q.1 q.2 cu)
    rw [zzl] at this;exact this
   ·rfl
   ·rfl
  have e2:(start d.N vB).set tV.length (some v)=start d.N (vB++[v]):=by
   unfold L2.start;rw [zzM,List.length_singleton,show d.N.length-vB.length=(d.N.length-(vB.length+1))+1 by omega,List.replicate_succ,<-Rn];have:=vi (l:=vB.map some) (r:=List.replicate (d.N.length-(vB.length+1)) none) (a:=none) (b:=some v)
   rw [zzl] at this;rw [this];simp
  rw [e1,e2] at h1;exact h1
def Ez(M:rE K mg Γ W)(KB:K.In base){F:aU}{k:Nat}{n nf:Str}{d:Def}{st:Stmt}{fa:Addr}{fd:FuncData}(St:cA Γ n d st)(Fu:LS K n n st fa fd)(hF:∀f,Γ.fs.contains f=true->iU P w K mg base W F k f)(hH:∀q∈Γ.hs,E6 P w K mg base W F k q)(hQ:∀f,Γ.qs.contains f=true->2<=k/\iU P w K mg base W F 2 f)(hk:Γ.qt=false->2<=k)(hA:∀g as,F g as≠.bad->Γ.fs.contains g=true\/gb g=true)
 (hL:Γ.hl=true->∃c p,fd.code=.ref c/\fu K c p/\(p,kW n)∈W.ts/\∀q',(p,q')∈W.ts->q'=kW n):
 fL P w K mg base (dO P w) (k+2) fa fd (d.N.take d.np) (xP W (λ_ as=>az F d as) nf (d.N.take d.np).length d.gz):=by
 have hlen:(d.N.take d.np).length=d.np:=by rw [List.length_take];have:=St.np;omega
 obtain⟨oc,od,kV,doc,pm,an,fv,ct,sH,rfl,lk,mY⟩:=Fu.ex
 refine Ka lk mY St.sc (λvs H Q E h=>h.1) λA outer s H vs Q E hr h=>?_
 obtain⟨hl,G,as,sg,tb,l,o⟩:=h
 rw [hlen] at hl;obtain⟨ar,sr⟩:=xy St.np sg tb l hl
 have CS:=FG (outer:=outer) (s:=s) (H:=H) (E:=E) M KB St.sc hF hH hQ hk hA hL hr
 refine⟨Qw W F H E d.body,(by
  cases hz:Γ.qt with
  |false=>exact lJ CS hz d.body _ St.Pr
  |true=>exact vm CS d.body _ (by have:=St.RM;rw [hz] at this;exact this) St.Pr),G,cK d as,sr,?_⟩
 dsimp only at o;unfold az at o;rw [if_pos ar] at o;cases r:bw F d.body (cK d as) with
 |bad=>rw [r] at o;exact o
 |exc c=>rw [r] at o;exact o
 |ok fl=>
  rw [r] at o;cases fl with
  |nx env=>exact λσ' G' H' sr g=>o .aM G' H' g .n
  |rt p=>exact λv G' H' rv g=>o v G' H' g rv
  |bk env=>exact o.elim
  |ct env=>exact o.elim
def AllK(K:zz8)(ts:List (Addr×Str))(Γ:Pg):eK->Prop
 |[]=>True
 |r::l=>vF K ts r.hl r.h r.st/\cA (Γ.at l r.hl) r.h r.d r.st/\((l.map (·.f)).contains r.f=false/\(r.d.gz.isNone==!gb r.f)=true/\(r.d.gz.isNone=true->r.f=r.h))/\AllK K ts Γ l
def uT(M:rE K mg Γ W)(l:eK)(hl:Bool):rE K mg (Γ.at l hl) W:=⟨M.hK,M.hm,M.gs,M.bs,M.Mq,M.cls,M.xc,M.xs,M.rm,M.L7,M.bm⟩
def iU.mono{F:aU}{j k:Nat}{f:Str}(h:iU P w K mg base W F j f)(hk:j<=k):iU P w K mg base W F k f:=by
 obtain⟨fa,fd,ps,h1,h2⟩:=h.ex
 exact⟨fa,fd,ps,h1.mono hk,h2⟩
def lK{F F':aU}{f f':Str}{n:Nat}{q:Option (Str×List Nat)}(e:∀as,F' f' as=F f as):xP W F' f' n q=xP W F f n q:=by
 funext vs H Q E
 unfold xP;simp! [e]
def iU.swap{F F':aU}{k:Nat}{f:Str}(h:iU P w K mg base W F k f)(e:∀as,F' f as=F f as):iU P w K mg base W F' k f:=by
 obtain⟨fa,fd,ps,h1,h2,h3,h4,h5⟩:=h.ex
 refine⟨fa,fd,ps,?_,h2,h3,h4,λas hn=>h5 as (by rw [<-e];exact hn)⟩
 rw [lK e];exact h1
def E6.swap{F F':aU}{j k:Nat}{q:Hs}(h:E6 P w K mg base W F j q)(hk:j<=k)(e:∀as,F' q.f as=F q.f as):E6 P w K mg base W F' k q:=by
 obtain⟨fa,fd,ps,h1,h2,h3,h4,h5⟩:=h.ex
 refine⟨fa,fd,ps,?_,h2,h3,h4,h5⟩;rw [lK e];exact h1.mono hk
def iz{r:Row}{l:eK}{g:Str}(h:(g==r.f)=false)(as:List PV):den (tab (r::l)) g as=den (tab l) g as:=by
 show(if(g==r.f)=true then _ else _)=_
 rw [h]
 rfl
def pX{r:Row}{l:eK}(as:List PV):den (tab (r::l)) r.f as=az (den (tab l)) r.d as:=by
 show(if(r.f==r.f)=true then _ else _)=_
 rw [beq_self_eq_true]
 rfl
theorem n9:∀(l:eK) {ts:List (Addr×Str)},AllK K ts Γ l->∀g as,den (tab l) g as≠.bad->(ju l).contains g=true\/gb g=true
 |[],_,_,g,as,h=>absurd rfl h
 |r::l,ts,⟨_,_,⟨_,hn,_⟩,hr⟩,g,as,h=>by
  by_cases e:(g==r.f)=true
  ·have e2:=zzy.mp e
   subst e2;cases hc:r.d.gz with
   |none=>
    left
    unfold ju;rw [List.filterMap_cons,hc];simp
   |some q=>
    right
    rw [hc] at hn
    simpa using hn
  ·rw [iz (by simpa using e)] at h;rcases n9 l hr g as h with z|z
   ·left
    unfold ju at z⊢;rw [List.filterMap_cons];split
    ·exact z
    ·rw [List.contains_cons,z,Bool.or_true]
   ·exact .inr z
def gD:∀{l:eK} {f:Str},(kZ l).contains f=true->l≠[]/\(ju l).contains f=true:=by
 intro l f h;unfold kZ at h;cases e:l.getLast? with
 |none=>rw [e] at h;cases h
 |some r=>
  rw [e] at h;have hm:=List.mem_of_getLast? e
  refine⟨λz=>(by rw [z] at hm;cases hm),?_⟩
  dsimp only at h;split at h
  ·rename_i hc;have hf:f=r.f:=by simpa using h
   rw [zzn,hf];exact zz1.mpr ⟨r,hm,if_pos hc⟩
  ·cases h
theorem xZ(M:rE K mg Γ W)(KB:K.In base)(G:base.Ns mainGlobals mg):∀(l:eK),AllK K W.ts Γ l->(∀f,(ju l).contains f=true->iU P w K mg base W (den (tab l)) (2*l.length) f)/\(∀q∈wM l,E6 P w K mg base W (den (tab l)) (2*l.length) q)/\∀f,(kZ l).contains f=true->iU P w K mg base W (den (tab l)) 2 f
 |[],_=>⟨λf hf=>by simp [ju] at hf,λq hq=>by simp [wM] at hq,λf hf=>absurd rfl (gD hf).1⟩
 |r::l,hall=>by
  obtain⟨he,hs,⟨Cp,hnm,hfh⟩,hr⟩:=hall
  obtain⟨ih,ihH,ihQ⟩:=xZ M KB G l hr
  have ne2:l≠[]->2<=2*l.length:=λz=>by have:=List.length_pos_iff.mpr z;omega
  obtain⟨fa,oc,od,kV,doc,pm,an,fv,ct,sH,e1,e2,e3,e4,e5⟩:=he
  have Fu:=yC (st:=r.st) e2 e3 e4
  have ok:=Ez (P:=P) (w:=w) (nf:=r.f) (uT M l r.hl) KB (k:=2*l.length) hs Fu (λg hg=>ih g hg) (λq hq=>ihH q hq) (λf hf=>⟨ne2 (gD hf).1,ihQ f hf⟩) (λz=>ne2 λy=>by subst y;cases z) (n9 l hr) e5
  have se:∀g,(l.map (·.f)).contains g=true->(g==r.f)=false:=λg hg=>by
   cases z:g==r.f with
   |false=>rfl
   |true=>rw [zzy.mp z,Cp] at hg;cases hg
  have sp:xP W (λ_ as=>az (den (tab l)) r.d as) r.f (r.d.N.take r.d.np).length r.d.gz=xP W (den (tab (r::l))) r.f (r.d.N.take r.d.np).length r.d.gz:=lK λas=>(pX as).symm
  rw [sp] at ok;have hlen:(r.d.N.take r.d.np).length=r.d.np:=by rw [List.length_take];have:=hs.np;omega
  have ml:∀f,(ju l).contains f=true->(l.map (·.f)).contains f=true:=λf hf=>by
   rw [zzn] at hf⊢;unfold ju at hf;obtain⟨x,hx,e⟩:=zz1.mp hf
   split at e
   ·cases e;exact List.mem_map_of_mem (f:=(·.f)) hx
   ·cases e
  have main:∀f,(ju (r::l)).contains f=true->iU P w K mg base W (den (tab (r::l))) (2*(r::l).length) f:=λf hf=>by
   by_cases kQ:(f==r.f)=true/\r.d.gz=none
   ·obtain⟨h1,h2⟩:=kQ
    have e:=zzy.mp h1
    subst e;refine⟨fa,_,r.d.N.take r.d.np,by rw [h2] at ok;exact ok,?_,e4,Fu.binds hs.bind,λas hn=>?_⟩
    ·rw [hfh (by rw [h2];rfl)];exact PySem.W.mg_of KB G e1
    ·rw [pX] at hn;unfold az at hn
     by_cases ha:cI r.d as=true
     ·unfold cI at ha;rw [h2] at ha;rw [hlen];exact zzy.mp ha
     ·rw [if_neg ha] at hn;exact absurd rfl hn
   ·have PU:(ju l).contains f=true:=by
     unfold ju at hf⊢;rw [List.filterMap_cons] at hf;split at hf
     ·exact hf
     ·rename_i y hy;split at hy
      ·rename_i hc;cases hy;rw [List.contains_cons,zzt] at hf;rcases hf with z|z
       ·exact absurd ⟨z,Option.isNone_iff_eq_none.mp hc⟩ kQ
       ·exact z
      ·cases hy
    exact((ih f PU).mono (by rw [zzL];omega)).swap λas=>iz (se f (ml f PU)) as
  refine⟨main,λq hq=>?_,λf hf=>?_⟩
  rotate_left
  ·cases l with
   |nil=>exact main f (gD hf).2
   |cons x l'=>
    have e:kZ (r::x::l')=kZ (x::l'):=by unfold kZ;rw [List.getLast?_cons_cons]
    rw [e] at hf;exact(ihQ f hf).swap λas=>iz (se f (ml f (gD hf).2)) as
  ·unfold wM at hq;rw [List.filterMap_cons] at hq;have tail:q∈wM l->E6 P w K mg base W (den (tab (r::l))) (2*(r::l).length) q:=λhq=>by
    refine(ihH q hq).swap (by rw [zzL];omega) λas=>iz (se q.f ?_) as
    unfold wM at hq;obtain⟨x,hx,e⟩:=zz1.mp hq
    obtain⟨y,_,rfl⟩:=zzJ.mp e
    rw [zzn];exact List.mem_map_of_mem (f:=(·.f)) hx
   cases hc:r.d.gz with
   |none=>rw [hc] at hq;exact tail hq
   |some y=>
    rw [hc] at hq;rcases zzm.mp hq with z|z
    ·subst z;rw [hc] at ok;exact⟨fa,_,r.d.N.take r.d.np,ok,PySem.W.mg_of KB G e1,e4,Fu.binds hs.bind,hlen⟩
    ·exact tail z
end
end Ci
namespace L2
open PySem PySem.Spec PyProof.Rows
def wR{P:Program}{w:World}{K:zz8}{mg mb:Str->Option Value}{CX:xI}{k:Nat}{fa a:Addr}{fd:FuncData}{x:Str}{sp:Sp}{s₁:Shared}{vs:List Value}{ns:List Int}(lU:List Addr)
 (KX:K.In s₁.heap) (Md:s₁.heap.Ns mainGlobals mg) (hb:s₁.heap.Ns builtinsNs mb) (Q3:∀x:Str,x≠"__name__"->mb x=bootBuiltins x) (wK:s₁.heap.NoLimit) (hg:s₁.gens=#[])
 (hT:∀p∈lU,s₁.heap.get? p=some (PySem.W.tabObj #[])) (hC:∀p∈lU,∃c,Ci.fu K c p) (QW:∀p∈lU,K.lookup p=none)
 (ha:s₁.heap.get? a=some {cls:=.type "list",data:=.seq vs.toArray}) (hi:IntsAre vs ns) (hl:ns.length<=sizeLine) (hr:dc k callerA)
 (F:∀base:Heap,K.In base->base.Ns mainGlobals mg->fL P w K mg base CX k fa fd [x] sp) (Kq:∀(s:Shared) (u:Value),BindsTo s fd ⟨[u],[]⟩ [(x,u)])
 (EE:∀H:Hp,(∀p∈lU,H p=some (.fG #[]))->Ci.rq K H a (ns.map V.int)->sp [.ref a] H (λv _=>v=.bl true) λ_ _ _=>False)
 (Nb:∀H e s',CX [] H s₁ (λ_ _ _=>False) e s'->False):
 codeAny (model P w) callerA (.call (.ref fa) ⟨[.ref a],[]⟩) (λr s'=>r=.ok (.ret (.bool true))/\OldK s₁.heap s'.heap/\s'.os=s₁.os/\AllBare s'.gens) s₁:=by
 have rv:=nD hi
 have KW:=hi.length
 have aT:a∉lU:=λz=>by have:=hT a z;rw [ha] at this;cases this
 have core:∀H:Hp,(∀p∈lU,H p=some (.fG #[]))->Ci.rq K H a (ns.map V.int)->dQ P w H s₁.heap->(∀b,H b≠none->b∈lU\/b=a/\∃o xs,H b=some (.bq o xs))->(H a≠none->K.lookup a=none)->
  codeAny (model P w) callerA (.call (.ref fa) ⟨[.ref a],[]⟩) (λr s'=>r=.ok (.ret (.bool true))/\OldK s₁.heap s'.heap/\s'.os=s₁.os/\AllBare s'.gens) s₁:=by
  intro H hO hS aN hA hK;have tY:∀{b:Addr} {o:Obj},s₁.heap.get? b=some o->H b=none->(oz s₁.heap H).get? b=some o:=λe n=>yT e n
  have CT:∀{b:Addr} {o:Obj} {es:Array DictEntry} {ep:Nat},s₁.heap.get? b=some o->o.data=.dict es ep->H b=none:=λ{b o es ep} e d=>by
   cases q:H b with
   |none=>rfl
   |some u=>
    rcases hA b (by rw [q];simp) with z|⟨z,_⟩
    ·rw [hT b z] at e;cases e;cases d
    ·subst z;rw [ha] at e;cases e;have d':Data.seq vs.toArray _=Data.dict es ep:=d
     cases d'
  have Mr:∀{b:Addr} {m:Str->Option Value},s₁.heap.Ns b m->(oz s₁.heap H).Ns b m:=λ{b m} ⟨o,es,ep,e,d,r⟩=>⟨o,es,ep,tY e (CT e d),d,r⟩
  have PH:K.In (oz s₁.heap H):=λb o e=>tY (KX b o e) (by
   cases q:H b with
   |none=>rfl
   |some u=>
    rcases hA b (by rw [q];simp) with z|⟨z,_⟩
    ·rw [QW b z] at e;cases e
    ·subst z;rw [hK (by rw [q];simp)] at e;cases e)
  have hM:Mod K mg (oz s₁.heap H):=⟨PH,Mr Md,⟨mb,Mr hb,Q3⟩,let⟨mc,h1,h2⟩:=wK;⟨mc,Mr h1,h2⟩⟩
  have e0:ij P w K mg (oz s₁.heap H) callerA [] s₁ H:=⟨rfl,hM,λb o e=>Dd e,Nat.le_of_eq (wJ _ _),trivial,λb hb=>absurd (show b∈([]:List Addr) from hb) (by simp),aN,.of_eq hg⟩
  refine codeAny_mono ((F _ PH (Mr Md)).run callerA [] s₁ H ⟨[.ref a],[]⟩ [.ref a] [.ref a] _ _ hr e0 (Kq s₁ (.ref a)) (.cons rfl .nil) (EE H hO hS)) λr s' h=>?_
  cases r with
  |error e=>exact(Nb H e s' h).elim
  |ok fl=>
   cases fl with
   |next=>exact zzk h
   |brk=>exact zzk h
   |cont=>exact zzk h
   |ret u=>
    obtain⟨v,H',os,bare,un,Ct,r',q⟩:=h
    have q':v=.bl true:=q
    subst q';obtain rfl:u=Value.bool true:=r'
    have key:∀b o,s₁.heap.get? b=some o->s'.heap.get? b=some o\/b∈lU/\∃m,s'.heap.get? b=some (PySem.W.tabObj m):=λb o e=>by
     cases q:H b with
     |none=>exact .inl (un.keep b o e q (by intro z;exact absurd (show b∈([]:List Addr) from z) (by simp)) (by simp))
     |some u=>
      rcases hA b (by rw [q];simp) with z|⟨z,ob,xs,z2⟩
      ·right
       obtain⟨m,hm⟩:=un.gq b _ (hO b z)
       exact⟨z,_,Ct b _ hm⟩
      ·left
       have z3:=un.fh b ob _ z2
       obtain⟨e1,_⟩:=aN b _ z2
       obtain⟨e2,_⟩:=Ct b _ z3
       rw [e] at e1;cases e1;exact e2
    refine⟨rfl,⟨λb o e=>?_,λb o e=>?_⟩,os,bare⟩
    ·rcases key b o e with z|⟨z,m,z2⟩
     ·exact .inl z
     ·have e':=hT b z
      rw [e] at e';cases e';obtain⟨c,o',vs',_,_,_,_,_,_,_,k1,k2,k3,k4,_⟩:=hC b z
      have tb:s₁.heap.TableAt c b #[]:=⟨⟨o',vs',KX _ _ k1,k2,k3,k4⟩,e⟩
      exact .inr (.inl ⟨tb.isCodeTable,rfl,#[],m,rfl,by rw [z2];simp⟩)
    ·rcases key b o e with z|⟨_,m,z⟩
     ·exact⟨_,z⟩
     ·exact⟨_,z⟩
 cases hk:K.lookup a with
 |some o=>
  have e:=KX a o hk
  rw [ha] at e;cases e;refine core (λb=>if b∈lU then some (.fG #[]) else none) (λp hp=>if_pos hp) (.inr ⟨vs.toArray,_,hk,by rw [zzC,KW];exact hl,by simpa using rv⟩) (λb u z=>?_) (λb z=>?_) λz=>absurd (if_neg aT) z
  ·by_cases hb:b∈lU
   ·have z':=(if_pos hb).symm.trans z
    cases z';exact hT b hb
   ·have z':=(if_neg hb).symm.trans z
    cases z'
  ·by_cases hb:b∈lU
   ·exact .inl hb
   ·exact absurd (if_neg hb) z
 |none=>
  refine core (λb=>if b=a then some (.bq {cls:=.type "list",data:=.seq vs.toArray} (.lst (ns.map V.int))) else if b∈lU then some (.fG #[]) else none) (λp hp=>?_) (.inl (.inr ⟨{cls:=.type "list",data:=.seq vs.toArray},if_pos rfl⟩)) (λb u z=>?_) (λb z=>?_) λ_=>hk
  ·show(if p=a then _ else _)=_
   rw [if_neg (show¬p=a from λz=>aT (by rw [<-z];exact hp)),if_pos hp]
  ·by_cases hb:b=a
   ·have z':=(if_pos hb).symm.trans z
    cases z';subst hb;exact⟨ha,by rw [zzl];exact hl,vs,_,rv,ha⟩
   ·replace z:=(if_neg hb).symm.trans z
    by_cases hc:b∈lU
    ·have z':=(if_pos hc).symm.trans z
     cases z';exact hT b hc
    ·have z':=(if_neg hc).symm.trans z
     cases z'
  ·by_cases hb:b=a
   ·exact .inr ⟨hb,_,_,if_pos hb⟩
   ·by_cases hc:b∈lU
    ·exact .inl hc
    ·exact absurd ((if_neg hb).trans (if_neg hc)) z
def IW{l:PySem.W.OpenLaw}{n k:Nat}{q:Program}{loose:List Str}{XP:(Str->Option Value)->Heap->Prop}{YP:World->Heap->Prop}{d:DefRec}{K:Params->zz8}{CX:World->xI}{sp:World->Sp}{x:Str}(lU:List Addr)
 (hn:l.most=some n) (Rq:n<=sizeLine) (Kv:d.params.defaults=[]) (hr:dc k callerA)
 (hY:∀(w:World) (h:Heap),YP w h->(K w.params).In h/\∀p∈lU,h.get? p=some (PySem.W.tabObj #[])) (hC:∀(w:World),∀p∈lU,(∃c,Ci.fu (K w.params) c p)/\(K w.params).lookup p=none)
 (F:∀(w:World) (mg:Str->Option Value) (fa:Addr) (h:Heap),(K w.params).In h->h.Ns mainGlobals mg->mg d.name=some (.ref fa)->
  ∃fd:FuncData,(∀(s:Shared) (u:Value),BindsTo s fd ⟨[u],[]⟩ [(x,u)])/\
   ∀base:Heap,(K w.params).In base->base.Ns mainGlobals mg->fL l.prog w (K w.params) mg base (CX w) k fa fd [x] (sp w))
 (EE:∀(w:World) (H:Hp) (a:Addr) (ns:List Int),ns.length<=n->(∀p∈lU,H p=some (.fG #[]))->Ci.rq (K w.params) H a (ns.map V.int)->sp w [.ref a] H (λv _=>v=.bl true) λ_ _ _=>False)
 (Nb:∀(w:World) (H:Hp) (s:Shared) (e:Value) (s':Shared),CX w [] H s (λ_ _ _=>False) e s'->False):
 PySem.W.WalkO q loose XP YP l.row.toRowW d [] (λf vs=>PySem.call f vs):=by
 refine Att.pN hn Kv λw s₀ s₁ mg mb fa o pm cd doc a vs ns G Y ho hd mY hmg hobj hints hlen hg=>?_
 obtain⟨KX,hT⟩:=hY w _ Y
 obtain⟨fd,hb,hF⟩:=F w mg fa _ KX G.T.g hmg
 exact wR lU KX G.T.g G.T.b G.T.builtins G.T.nolimit hg hT (λp hp=>(hC w p hp).1) (λp hp=>(hC w p hp).2) hobj hints (zzU hlen Rq) hr hF hb (λH hO hS=>EE w H a ns hlen hO hS) λH e s'=>Nb w H s₁ e s'
end L2
namespace Ci
open PySem L2
theorem lH{W:Wd}{G:Hp}:∀(ns:List Int),ai W G (ns.map PV.int) (ns.map V.int)
 |[]=>.nil
 |n::ns=>.cons .i (lH ns)
noncomputable def nt(H:Hp):Hp:=λb=>match H b with
 |some (.fG _)=>none
 |o=>o
def sD(H:Hp):ax (nt H) H:=λb o e=>by
 unfold nt at e;split at e
 ·cases e
 ·exact e
def qG{H:Hp}{b:Addr}{o:HO}(h:H b=some o)(n:∀ps,o≠.fG ps):nt H b=some o:=by
 unfold nt;rw [h];cases o with
 |fG ps=>exact absurd rfl (n ps)
 |_=>rfl
noncomputable def Lv(K:zz8)(lU:List Addr):Sp:=λvs H Q _=>∃(a:Addr) (ns:List Int),vs=[.ref a]/\(∀p∈lU,H p=some (.fG #[]))/\rq K H a (ns.map V.int)/\ns.length<=63/\∀H',Q (.bl true) H'
def walk{l:PySem.W.OpenLaw}{q:Program}{loose:List Str}{XP:(Str->Option Value)->Heap->Prop}{YP:World->Heap->Prop}{d:DefRec}{K:Params->zz8}(rest:eK)(Γ:Pg)(x:Str)(dl:Def)(xs:List Str)(ts:List (Addr×Str))(st:Stmt)(NS:Bool)
 (hx:dl.N.take dl.np=[x]) (A6:dl.gz=none) (Ra:d.name="law") (hn:l.most=some 63) (Kv:d.params.defaults=[]) (hr:dc (2*rest.length+2) callerA) (hY:∀(w:World) (h:Heap),YP w h->(K w.params).In h/\∀p∈ts.map (·.1),h.get? p=some (PySem.W.tabObj #[]))
 (hC:∀(w:World),∀p∈ts.map (·.1),(∃c,fu (K w.params) c p)/\(K w.params).lookup p=none)
 (hM:∀(w:World) (mg:Str->Option Value) (h:Heap),(K w.params).In h->h.Ns mainGlobals mg->rE (K w.params) mg Γ ⟨K w.params,mg,xs,ts⟩)
 (hE:∀w:World,vF (K w.params) ts NS "law" st) (hS:cA (Γ.at rest NS) "law" dl st) (j2:rest≠[])
 (hA:∀w:World,AllK (K w.params) ts Γ rest)
 (Nv:∀ns:List Int,ns.length<=63->az (den (tab rest)) dl [.lst (ns.map .int)]=.ok (.bl true)):
 PySem.W.WalkO q loose XP YP l.row.toRowW d [] (λf vs=>PySem.call f vs):=by
 refine L2.IW (n:=63) (k:=2*rest.length+2) (x:=x) (CX:=λw=>dO l.prog w) (sp:=λw=>Lv (K w.params) (ts.map (·.1))) (ts.map (·.1)) hn (by decide) Kv hr hY hC ?_ ?_ ?_
 ·intro w mg fa h KX G hmg;rw [Ra] at hmg;obtain⟨f,oc,od,kV,doc,pm,an,fv,ct,sH,e1,e2,e3,e4,e5⟩:=hE w
  have hf:fa=f:=by
   have z:=hmg.symm.trans (PySem.W.mg_of KX G e1)
   cases z
   rfl
  subst hf;refine⟨PySem.W.fnOf "law" "law" (cW st) (cE st) (aQ st) .none kV doc pm an fv ct,λs u=>?_,λbase KB GB=>?_⟩
  ·have hb:=hS.bind kV doc pm an fv ct [u]
   rw [hx] at hb;exact .of_eq (hb rfl)
  ·have M:=hM w mg base KB GB
   have ne2:2<=2*rest.length:=by have:=List.length_pos_iff.mpr j2;omega
   obtain⟨a1,a2,a3⟩:=xZ (P:=l.prog) (w:=w) M KB GB rest (hA w)
   have ok:=Ez (P:=l.prog) (w:=w) (nf:="law") (uT M rest NS) KB (k:=2*rest.length) hS (yC (st:=st) e2 e3 e4) (λg hg=>a1 g hg) (λq hq=>a2 q hq) (λf hf=>⟨ne2,a3 f hf⟩) (λ_=>ne2) (n9 rest (hA w)) e5
   rw [hx] at ok;refine ok.imp λvs H Q E h=>?_
   obtain⟨a,ns,rfl,ht,hl,hlen,q⟩:=h
   refine⟨rfl,nt H,[.lst (ns.map .int)],sD H,λP q m=>?_,?_,?_⟩
   ·have hP:=ht P (List.mem_map_of_mem (f:=(·.1)) m)
    refine⟨by unfold nt;rw [hP],#[],hP,trivial,λpos cv e=>nomatch e⟩
   ·rw [A6];refine ai.cons (.l ?_ (lH ns)) .nil;rcases hl with(h|⟨o,h⟩)|h
    ·exact .inl (.inl (qG h (λ_ z=>nomatch z)))
    ·exact .inl (.inr ⟨o,qG h (λ_ z=>nomatch z)⟩)
    ·exact .inr h
   ·dsimp only;rw [Nv ns hlen];intro v G' H' _ rv;simp! [Rep] at rv;subst rv;exact q H'
 ·intro w H a ns hlen hO wD;exact⟨a,ns,rfl,hO,wD,hlen,λ_=>rfl⟩
 ·intro w H s e s' h;obtain⟨a,C,t,vs,H',B,rfl,F⟩:=h
  exact F.ends
end Ci
namespace Hd
open PySem PySem.W PySem.Calls
noncomputable def Ij(st:SharedT->Thread->Option (SharedT×Thread))(ok:Thread->Bool)(n:Nat):SharedT->Thread->Option SharedT:=
 @Nat.rec (λ_=>SharedT->Thread->Option SharedT) (λ_ _=>none) (λ_ ih s t=>match through t with
  |true=>some s
  |false=>match ok t with
   |false=>none
   |true=>match st s t with
    |some (s',t')=>ih s' t'
    |none=>none) n
theorem nv{tb:String->Option Builtin}{p:Program}{w:World}{n₀:Nat}{ann:Option Value}:∀{n:Nat} {s s':SharedT} {t:Thread},Ij (stepT (denote tb) p w) (stepOk n₀ ann) n s t=some s'->topRun tb p w n₀ ann n s.abs t=some s'.abs
 |0,_,_,_,h=>by cases h
 |n+1,s,s',t,h=>by
  have h:(match through t with
   |true=>some s
   |false=>match stepOk n₀ ann t with
    |false=>none
    |true=>match stepT (denote tb) p w s t with
     |some (s',t')=>Ij (stepT (denote tb) p w) (stepOk n₀ ann) n s' t'
     |none=>none)=some s':=h
  unfold topRun;cases ht:through t with
  |true=>rw [ht] at h;cases h;rfl
  |false=>
   rw [ht] at h;cases hk:stepOk n₀ ann t with
   |false=>rw [hk] at h;cases h
   |true=>
    rw [hk] at h;cases hs:stepT (denote tb) p w s t with
    |none=>rw [hs] at h;cases h
    |some r=>obtain⟨s₂,t₂⟩:=r;rw [hs] at h;rw [stepT_spec hs];exact nv h
noncomputable def treeOf(l:List Obj):BT:=(l.foldl (λ(T,i) o=>(BT.ins T i o,i+1)) (BT.nil,0)).1
def CN{p q:Program}{loose:List Str}{Xt:Shared->Bool}{α:Type}{Yf:Shared->α}{Ya:World->α}{N:Nat}{g0:Bool}{T₀:Params->BT}{life:Life}{m₀:Nat}{ann:Option Value}{M:Nat}
 (e:opening p=plainProg p.main.scope.names) (hN:Nat.ble 600 N=true) (f:∀s,fenceModules? p s=some s)
 (e0:∀P:Params,absHeap (T₀ P) m₀ life=boot_heap P)
 (size:∀w:World,((boot_heap w.params).isNs mainGlobals,(boot_heap w.params).nsMap mainGlobals "__annotations__")=(true,ann))
 (le:Nat.ble M N=true)
 (run:∀(w:World) (os:OsState),(Ij (stepT (denote treeTable) p w) (stepOk m₀ ann) M ⟨T₀ w.params,m₀,life,Array.mk [],boot_drawn,boot_toks,os⟩ (topStub p)).map (λs=>
  ((staticsOk (importedModules p.main.body) (boot_heap w.params) s.abs.heap&&namesBound p s.abs.heap&&gensDone s.abs&&laidKept (boot_heap w.params) s.abs.heap),openSeen q loose (importedModules p.main.body) Xt g0 s.abs,Yf s.abs))
  =some (true,openGood q loose,Ya w)):LeftO p q loose Xt Yf Ya N g0:=λw=>by
 obtain⟨⟨h,gs,d,k,os⟩,e1,e'⟩:=zzJ.mp (boot_open e hN f w)
 obtain⟨rfl,rfl,rfl,rfl⟩:h=boot_heap w.params/\gs=Array.mk []/\d=boot_drawn/\k=boot_toks:=by simpa using e'
 obtain⟨z1,z3⟩:_/\_:=by simpa only [Prod.mk.injEq] using size w
 obtain⟨s,r,l⟩:=zzJ.mp (run w os)
 obtain⟨l1,l2,l3⟩:_/\_/\_:=by simpa only [Prod.mk.injEq] using l
 have r:=nv r
 have r:=topRun_mono (N-M) _ _ _ _ r
 rw [show M+(N-M)=N by have:=Nat.le_of_ble_eq_true le;omega] at r;have hs:(boot_heap w.params).objs.size=m₀:=by rw [<-e0 w.params];exact absHeap_size _ _ _
 have r:topRun treeTable p w m₀ ann N ⟨boot_heap w.params,Array.mk [],boot_drawn,boot_toks,os⟩ (topStub p)=some s.abs:=by
  have:(⟨T₀ w.params,m₀,life,Array.mk [],boot_drawn,boot_toks,os⟩:SharedT).abs=⟨boot_heap w.params,Array.mk [],boot_drawn,boot_toks,os⟩:=by
   show Shared.mk _ _ _ _ _=_
   rw [show absHeap (T₀ w.params) m₀ life=boot_heap w.params from e0 w.params]
  rw [<-this];exact r
 have t:topFrom treeTable p w N ⟨boot_heap w.params,Array.mk [],boot_drawn,boot_toks,os⟩=some s.abs:=by
  unfold topFrom;dsimp only;rw [z1,z3,hs,r];show(match staticsOk (importedModules p.main.body) (boot_heap w.params) s.abs.heap&&namesBound p s.abs.heap&&gensDone s.abs&&laidKept (boot_heap w.params) s.abs.heap with|true=>_|false=>_)=_
  rw [l1]
 unfold openEnds;rw [e1];show(topFrom treeTable p w N _).map _=_
 rw [t];exact congrArg some (Prod.ext l2 l3)
end Hd
namespace Hd
open PySem PySem.W
def JQ:∀P:Params,absHeap (treeOf (boot_heap P).objs.toList) 11 {}=boot_heap P:=λP=>by kernel_rfl
def JR:∀w:World,((boot_heap w.params).isNs mainGlobals,(boot_heap w.params).nsMap mainGlobals "__annotations__")=(true,some (.ref 6)):=λw=>by kernel_rfl
noncomputable abbrev de(P:Params)(x:Str)(t:Tok)(v:Value):DictEntry:={hash:=PyData.keyHash P x,key:=.str x t,val:=v}
theorem holds{l:OpenLaw}{keep:List Nat}{K:Params->Frag}{as:List Addr}{d:DefRec}{N:Nat}(Om:l.wellSaid=true)
 (ka:∀P,as=(K P).map (·.1))
 (left:LeftO l.row.prog (view l.row.prog keep) [] (λs=>xlAt (view l.row.prog keep) [] s&&recOk l.row.toRowW.records s) (kHook K as ka).obs (kHook K as ka).val N)
 (GH:defOf (view l.row.prog keep) l.row.name=some (d,[])) (hp:l.row.prog.theDef l.row.name=some (d.params,d.body,d.scope)) (hk:kwWritten? d.params.kwonlyargs d.params.kw_defaults=some [])
 (ok:(chainsOk (view l.row.prog keep)&&opensWell l.row.prog&&(frees l.row.toRowW&&l.row.within.isEmpty))=true) (hb:l.row.prog.bare) (hw:l.row.toRowW.promised)
 (call:WalkO (view l.row.prog keep) [] (XL (view l.row.prog keep) []) (kHook K as ka).says l.row.toRowW d [] λf vs=>PySem.call f vs):l.Holds:=
 holds_law Om λk1=>holds_open (N:=N) left (Hook.of (kHook K as ka)) (Hook.keeps (kHook K as ka)) (λs e=>xl_of s (Bool.and_eq_true_iff.mp e).1) XL.keeps GH hp hk (λs e=>recFacts_of (Bool.and_eq_true_iff.mp e).2) (by cases h:l.row.writes<;>rfl) k1 ok hb hw call
theorem JJ{P:List Value->Prop}(h:∀a0,P [a0]):∀us:List Value,us.length=1->P us
 |[a0],_=>h a0
theorem vG{P:List Value->Prop}(h:∀a0 a1,P [a0,a1]):∀us:List Value,us.length=2->P us
 |[a0,a1],_=>h a0 a1
theorem Fi{P:List Value->Prop}(h:∀a0 a1 a2,P [a0,a1,a2]):∀us:List Value,us.length=3->P us
 |[a0,a1,a2],_=>h a0 a1 a2
theorem L1{P:List Value->Prop}(h:∀a0 a1 a2 a3,P [a0,a1,a2,a3]):∀us:List Value,us.length=4->P us
 |[a0,a1,a2,a3],_=>h a0 a1 a2 a3
end Hd
namespace KJ
open PySem L2 Ci
theorem vK{α β:Type}{a:α}{f:α->Res β}:(Res.ok a).bind f=f a:=rfl
theorem MC{α:Type}{a:α}:(Res.ok a).well=.ok a:=rfl
theorem Ql{α:Type}{a:α}:Res.of (some a)=.ok a:=rfl
theorem Qr{env:Sl}{k:Sl->Res Fl}:(Fl.nx env).seq k=k env:=rfl
theorem Qs{p:PV}{k:Sl->Res Fl}:(Fl.rt p).seq k=.ok (.rt p):=rfl
theorem Qq{env:Sl}{k:Sl->Res Fl}:(Fl.bk env).seq k=.ok (.bk env):=rfl
theorem sv{p:PV}:nA (some (.val p))=.ok p:=rfl
theorem Qu{p:PV}:AB (some (.val p))=.ok p:=rfl
theorem Qt{p:PV}:AB (some (.own p))=.ok p:=rfl
theorem Jd{α:Type}{b:Bool}{f:Bool->Res α}:pB (.bl b) f=f b:=rfl
theorem Ek{i j:Int}:binOp .add (.int i) (.int j)=.ok (.int (i+j)):=rfl
theorem El{i j:Str}:binOp .add (.str i) (.str j)=if i.length+j.length<=eg then .ok (.str (i++j)) else .bad:=rfl
theorem JO{i j:Int}:binOp .sub (.int i) (.int j)=.ok (.int (i-j)):=rfl
theorem JN{i j:Int}:binOp .mul (.int i) (.int j)=if aK i||aK j then .ok (.int (i*j)) else .bad:=rfl
theorem JM{i j:Int}:binOp .mod (.int i) (.int j)=if 0<j then .ok (.int (i%j)) else .bad:=rfl
theorem JL{i j:Int}:binOp .fdiv (.int i) (.int j)=if 0<j/\j<1073741824 then .ok (.int (i/j)) else .bad:=rfl
theorem Pl:dJ .eq=g9:=rfl
theorem Pq:dJ .ne=mn:=rfl
theorem Pp:dJ .lt=qO:=rfl
theorem Po:dJ .le=qN:=rfl
theorem JT:dJ .uV=ji:=rfl
theorem oLt{i j:Int}:qO (.int i) (.int j)=.ok (.bl (decide (i<j))):=rfl
theorem oLe{i j:Int}:qN (.int i) (.int j)=.ok (.bl (decide (i<=j))):=rfl
theorem lL{xs:List PV}:er .len [.lst xs]=.ok (.int xs.length):=rfl
theorem lT{xs:List PV}:er .len [.tup xs]=.ok (.int xs.length):=rfl
theorem lS{z:Str}:er .len [.str z]=if z.length<=eg then .ok (.int z.length) else .bad:=rfl
theorem tL{xs:List PV}:er .tuple [.lst xs]=.ok (.tup xs):=rfl
theorem My{i:Nat}{p:PV}{env:Sl}:(Tg.one i).put p env=.ok (env.set i (.val p)):=rfl
theorem Qx{i j:Nat}{a b:PV}{env:Sl}:(Tg.two i j).put (.tup [a,b]) env=.ok ((env.set i (.val a)).set j (.val b)):=rfl
theorem B3{p:PV}:oj (.own p)=.val p:=rfl
theorem jA{α:Type}{a:α}{as:List α}:(a::as).length=as.length+1:=rfl
theorem jB{α:Type}:([]:List α).length=0:=rfl
theorem jC{α β:Type}{f:α->β}{a:α}{l:List α}:(a::l).map f=f a::l.map f:=rfl
theorem jD{α β:Type}{f:α->β}:([]:List α).map f=[]:=rfl
theorem jE{α:Type}{a:α}{as bs:List α}:a::as++bs=a::(as++bs):=rfl
theorem jF{α:Type}{as:List α}:[]++as=as:=rfl
theorem jG{α:Type}{a:α}{l:List α}:(a::l)[0]?=some a:=rfl
theorem jH{α:Type}{a:α}{l:List α}{i:Nat}:(a::l)[i+1]?=l[i]?:=rfl
theorem jI{α:Type}{a b:α}{l:List α}:(a::l).set 0 b=b::l:=rfl
theorem jJ{α:Type}{a b:α}{l:List α}{i:Nat}:(a::l).set (i+1) b=a::l.set i b:=rfl
theorem jK{α:Type}{a d:α}{l:List α}:(a::l).getD 0 d=a:=rfl
theorem jL{α:Type}{a d:α}{l:List α}{i:Nat}:(a::l).getD (i+1) d=l.getD i d:=rfl
def jM{n:Nat}:0+n=n:=Nat.zero_add _
theorem jN:(!true)=false:=rfl
theorem jO:(!false)=true:=rfl
def jP:(false=true)=False:=zze
theorem qY{e:E}{xs:List PV}:xw e (.lst xs)=.ok xs:=rfl
theorem Qp{e:E}{xs:List PV}:xw e (.tup xs)=.ok xs:=rfl
theorem Mj{xs:List PV}:itemsOf (.tup xs)=.ok xs:=rfl
theorem Mh{xs:List PV}:itemsOf (.lst xs)=.ok xs:=rfl
theorem Mi{z:Str}:itemsOf (.str z)=.ok (chars z):=rfl
theorem jQ{α:Type}{f:α->α}{a:α}{l:List α}:(a::l).modify 0 f=f a::l:=rfl
def jR{α:Type}{f:α->α}{a:α}{l:List α}{i:Nat}:(a::l).modify (i+1) f=a::l.modify i f:=by simp
theorem jS{α:Type}{a:α}:List.replicate 0 a=[]:=id rfl
theorem jT{α:Type}{a:α}{n:Nat}:List.replicate (n+1) a=a::List.replicate n a:=id rfl
def jU{n:Nat}:(n==n)=true:=beq_self_eq_true n
noncomputable def J:=And.intro @jS (And.intro @jT (And.intro @jU (And.intro @vK (And.intro @MC (And.intro @Ql (And.intro @Qr (And.intro @Qs (And.intro @Qq (And.intro @sv (And.intro @Qu (And.intro @Qt (And.intro @Jd (And.intro @Ek (And.intro @El (And.intro @JO (And.intro @JN (And.intro @JM (And.intro @JL (And.intro @Pl (And.intro @Pq (And.intro @Pp (And.intro @Po (And.intro @JT (And.intro @oLt (And.intro @oLe (And.intro @lL (And.intro @lT (And.intro @lS (And.intro @tL (And.intro @My (And.intro @Qx (And.intro @B3 (And.intro @jA (And.intro @jB (And.intro @jC (And.intro @jD (And.intro @jE (And.intro @jF (And.intro @jG (And.intro @jH (And.intro @jI (And.intro @jJ (And.intro @jK (And.intro @jL (And.intro @jM (And.intro @jN (And.intro @jO (And.intro @jP (And.intro @qY (And.intro @Qp (And.intro @Mj (And.intro @Mh (And.intro @Mi (And.intro @jQ (@jR)))))))))))))))))))))))))))))))))))))))))))))))))))))))
def FT{n:Str}{d:Def}{r:List (Str×Def)}:den ((n,d)::r) n=az (den r) d:=by
 funext as;simp [den]
def FU{n f:Str}{d:Def}{r:List (Str×Def)}(h:(f==n)=false):den ((n,d)::r) f=den r f:=by
 funext as;simp [den,h]
theorem pY{f:Str}:∀(n:Nat) {T:List (Str×Def)},((T.take n).all λx=>!(f==x.1))=true->den T f=den (T.drop n) f
 |0,_,_=>rfl
 |n+1,[],_=>rfl
 |n+1,(m,d)::r,h=>by
  rw [List.take_succ_cons,List.all_cons,zza,Bool.not_eq_true'] at h;exact(FU h.1).trans (pY n h.2)
def dk{f:Str}{d:Def}{r T:List (Str×Def)}(k:Nat)(h:((T.take k).all λx=>!(f==x.1))=true:=by decide+kernel)(e:T.drop k=(f,d)::r:=by rfl):den T f=az (den r) d:=by
 rw [pY k h,e];exact FT
end KJ
local macro_rules | `(#v[]) => `(.nil) | `(#v[$x]) => `(.cons $x .nil) | `(#v[$x, $xs,*]) => `(.cons $x #v[$xs,*]) | `(!$n:num) => `(.var $n) | `(¬$n:num) => `(.cst (.int $n))
namespace K22
open PySem L2 Ci KJ
noncomputable def dY:Def:=⟨["thing"],1,#v[.ret (.and (.ty .int (!0)) (.not (.ty .bool (!0))))],none⟩
noncomputable def cM:Def:=⟨["_law_script","_law_k"],2,#v[.ite (.cmp .lt (!1) (.blt .len #v[!0])) #v[.ret (.sub (!0) (!1))] .nil,.ite (.cmp .eq (!0) (.lst .nil)) #v[.ret (¬0)] .nil,.ret (.bin .add (.bin .mul (.sub (!0) (.bin .mod (!1) (.blt .len #v[!0]))) (¬31)) (!1))],none⟩
noncomputable def bL:Def:=⟨["_law_script","_law_k","_law_many","_law_drawn"],3,#v[.set 3 (.bin .mod (.bin .mul (.bin .add (.call "_law_cell" #v[!0,!1]) (.bin .mul (¬6151) (.bin .add (!1) (¬1)))) (¬40692)) (¬2147483399)),.ret (.bin .mod (.bin .mod (.bin .add (.bin .mul (!3) (!3)) (.bin .fdiv (!3) (¬31))) (¬2147483629)) (!2))],none⟩
noncomputable def bW:Def:=⟨["_law_script","_law_at","_law_most","_law_rows","_law_columns","_law_shuts","_law_top","_law_made","_law_row","_law_signs","_law_column","_law_drawn"],3,#v[.set 3 (.bin .add (¬1) (.call "_law_pick" #v[!0,!1,!2])),.set 4 (.bin .add (¬1) (.call "_law_pick" #v[!0,.bin .add (!1) (¬1),!2])),.set 5 (.sub (.lst #v[¬0,¬2,¬4,¬6]) (.call "_law_pick" #v[!0,.bin .add (!1) (¬2),¬4])),.set 6 (.sub (.lst #v[¬1,¬2,¬3,¬10]) (.call "_law_pick" #v[!0,.bin .add (!1) (¬3),¬4])),.own 7 (.lst .nil),.dF (.one 8) (.rD (!3)) #v[.set 9 (.cst (.str "")),.dF (.one 10) (.rD (!4)) #v[.set 11 (.call "_law_pick" #v[!0,.bin .add (.bin .add (.bin .add (!1) (¬4)) (.bin .mul (!2) (!8))) (!10),.bin .mul (¬12) (!6)]),.set 9 (.bin .add (!9) (.ite (.cmp .lt (.bin .mod (!11) (¬12)) (!5)) (.cst (.str "#")) (.blt .str #v[.bin .fdiv (!11) (¬12)])))],.app 7 (!9)],.ret (.blt .tuple #v[.gV 7])],none⟩
noncomputable def b9:Def:=⟨["_law_script","_law_at"],2,#v[.ret (.tup #v[.cmp .eq (.call "_law_pick" #v[!0,!1,¬2]) (¬0),.sub (.lst #v[¬0,¬1,¬2,¬9]) (.call "_law_pick" #v[!0,.bin .add (!1) (¬1),¬4]),.call "_law_pick" #v[!0,.bin .add (!1) (¬2),¬4]])],none⟩
noncomputable def cB:Def:=⟨["_law_floor_here","_law_made","_law_row","_law_signs"],1,#v[.own 1 (.lst .nil),.dF (.two 2 3) (.enum (!0)) #v[.og 1 (.dD 2 [2] (.two 0 1) (.enum (!3)) (.cmp .ne (!1) (.cst (.str "#"))) (.tup #v[!2,!0]))],.bq 1,.ret (!1)],none⟩
noncomputable def aD:Def:=⟨["_law_floor_here","_law_way"],2,#v[.ite (.cmp .eq (!1) (¬0)) #v[.ret (.blt .tuple #v[.comp 1 [] (.one 0) (.seq (!0)) (.rev (!0))])] .nil,.ite (.cmp .eq (!1) (¬1)) #v[.ret (.rev (!0))] .nil,.ret (.blt .tuple #v[.comp 1 [0] (.one 0) (.rD (.blt .len #v[.sub (!0) (¬0)])) (.Jp .join (.cst (.str "")) #v[.comp 1 [0] (.one 0) (.seq (!1)) (.sub (!0) (!1))])])],none⟩
noncomputable def cC:Def:=⟨["one","other"],2,#v[.ret (.and (.cmp .ne (!0) (!1)) (.and (.cmp .le (.blt .abs #v[.bin .sub (.sub (!0) (¬0)) (.sub (!1) (¬0))]) (¬1)) (.cmp .le (.blt .abs #v[.bin .sub (.sub (!0) (¬1)) (.sub (!1) (¬1))]) (¬1))))],none⟩
noncomputable def dR:Def:=⟨["thing"],1,#v[.ret (.and (.ty .tuple (!0)) (.and (.cmp .eq (.blt .len #v[!0]) (¬2)) (.and (.call "is_whole" #v[.sub (!0) (¬0)]) (.call "is_whole" #v[.sub (!0) (¬1)]))))],none⟩
noncomputable def cb:Def:=⟨["floor","spot"],2,#v[.ret (.and (.ch .le .lt (¬0) (.sub (!1) (¬0)) (.blt .len #v[!0])) (.ch .le .lt (¬0) (.sub (!1) (¬1)) (.blt .len #v[.sub (!0) (.sub (!1) (¬0))])))],none⟩
noncomputable def cD:Def:=⟨["floor","thing"],2,#v[.ret (.and (.call "is_spot" #v[!1]) (.and (.call "is_on_floor" #v[!0,!1]) (.cmp .ne (.sub (.sub (!0) (.sub (!1) (¬0))) (.sub (!1) (¬1))) (.glob "WALL" (.str "#")))))],none⟩
noncomputable def bB:Def:=⟨["floor","spot"],2,#v[.ite (.not (.call "is_open" #v[!0,!1])) #v[.raise "NoSpot" "the spot is not on the floor or a wall"] .nil],none⟩
noncomputable def cN:Def:=⟨["floor","spot"],2,#v[.expr (.call "need_open" #v[!0,!1]),.ret (.blt .int #v[.sub (.sub (!0) (.sub (!1) (¬0))) (.sub (!1) (¬1))])],none⟩
noncomputable def bj:Def:=⟨["floor","one","other"],3,#v[.ret (.and (.call "is_open" #v[!0,.tup #v[.sub (!1) (¬0),.sub (!2) (¬1)]]) (.call "is_open" #v[!0,.tup #v[.sub (!2) (¬0),.sub (!1) (¬1)]]))],none⟩
noncomputable def bp:Def:=⟨["floor","walker","one","other","is_slanting","rise","flat_cost"],4,#v[.ite (.not (.call "are_beside" #v[!2,!3])) #v[.ret (.cst .aM)] .nil,.set 4 (.and (.cmp .ne (.sub (!2) (¬0)) (.sub (!3) (¬0))) (.cmp .ne (.sub (!2) (¬1)) (.sub (!3) (¬1)))),.ite (.and (!4) (.not (.and (.sub (!1) (¬0)) (.call "has_open_corners" #v[!0,!2,!3])))) #v[.ret (.cst .aM)] .nil,.set 5 (.bin .sub (.call "height_at" #v[!0,!3]) (.call "height_at" #v[!0,!2])),.ite (.cmp .gt (.blt .abs #v[!5]) (.sub (!1) (¬1))) #v[.ret (.cst .aM)] .nil,.set 6 (.ite (!4) (.glob "SLANTING_COST" (.int 3)) (.glob "STRAIGHT_COST" (.int 2))),.ret (.bin .add (!6) (.bin .mul (.sub (!1) (¬2)) (.blt .max2 #v[!5,¬0])))],none⟩
noncomputable def aY:Def:=⟨["floor","spot","beside","row","column"],2,#v[.own 2 (.lst .nil),.dF (.one 3) (.oY (.bin .sub (.sub (!1) (¬0)) (¬1)) (.bin .add (.sub (!1) (¬0)) (¬2))) #v[.dF (.one 4) (.oY (.bin .sub (.sub (!1) (¬1)) (¬1)) (.bin .add (.sub (!1) (¬1)) (¬2))) #v[.ite (.and (.cmp .ne (.tup #v[!3,!4]) (!1)) (.call "is_open" #v[!0,.tup #v[!3,!4]])) #v[.app 2 (.tup #v[!3,!4])] .nil]],.bq 2,.ret (!2)],none⟩
noncomputable def bX:Def:=⟨["floor","walker","spot","steps","other","cost"],3,#v[.expr (.call "need_open" #v[!0,!2]),.own 3 (.lst .nil),.dF (.one 4) (.seq (.call "open_spots_beside" #v[!0,!2])) #v[.set 5 (.call "step_cost" #v[!0,!1,!2,!4]),.ite (.cmp .CD (!5) (.cst .aM)) #v[.app 3 (.tup #v[!4,!5])] .nil],.bq 3,.ret (!3)],none⟩
noncomputable def cy:Def:=⟨["floor","walker","spot"],3,#v[.ret (.comp 1 [1,2,0] (.one 0) (.seq (.call "steps_from" #v[!0,!1,!2])) (.tup #v[.sub (!0) (¬0),.call "step_cost" #v[!3,!1,.sub (!0) (¬0),!2]]))],none⟩
noncomputable def bR:Def:=⟨["floor","walker","reached","spot","before","other","cost"],4,#v[.own 4 (.lst .nil),.dF (.two 5 6) (.seq (.call "steps_to" #v[!0,!1,!3])) #v[.ite (.cmp .eq (.sub (.sub (!2) (!5)) (¬0)) (.bin .add (!6) (.sub (.sub (!2) (!3)) (¬0)))) #v[.app 4 (!5)] .nil],.bq 4,.ret (!4)],none⟩
noncomputable def aB:Def:=⟨["one","other","along","across"],2,#v[.set 2 (.ite (.cmp .lt (.sub (!1) (¬0)) (.sub (!0) (¬0))) (.cst (.str "n")) (.cst (.str "s"))),.set 3 (.ite (.cmp .lt (.sub (!1) (¬1)) (.sub (!0) (¬1))) (.cst (.str "w")) (.cst (.str "e"))),.ret (.bin .add (.ite (.cmp .ne (.sub (!1) (¬0)) (.sub (!0) (¬0))) (!2) (.cst (.str ""))) (.ite (.cmp .ne (.sub (!1) (¬1)) (.sub (!0) (¬1))) (!3) (.cst (.str ""))))],none⟩
noncomputable def bt:Def:=⟨["floor","walker","reached","heading","before","other","direction","turns"],4,#v[.own 4 (.lst .nil),.dF (.one 5) (.seq (.call "least_before" #v[!0,!1,!2,.sub (!3) (¬0)])) #v[.set 6 (.call "direction_of" #v[!5,.sub (!3) (¬0)]),.set 7 (.ite (.or (.cmp .is (.sub (!3) (¬1)) (.cst .aM)) (.cmp .eq (.sub (!3) (¬1)) (!6))) (¬0) (¬1)),.app 4 (.tup #v[.tup #v[!5,!6],!7])],.bq 4,.ret (!4)],none⟩
noncomputable def aE:Def:=⟨["starts","steps","reached","waiting","start","spot","other","cost","together"],2,#v[.i4 2,.i4 3,.dF (.one 4) (.seq (!0)) #v[.put 3 (!4) (.tup #v[¬0,.cst .aM])],.Bd (.cmp .gt (.blt .len #v[.gV 3]) (¬0)) #v[.lh 5 3,.d8 2 3 5,.dF (.two 6 7) (.seq (.ip 1 #v[!5])) #v[.set 8 (.bin .add (.sub (.sub (.gV 2) (!5)) (¬0)) (!7)),.ite (.and (.cmp .uV (!6) (.gV 2)) (.or (.cmp .uV (!6) (.gV 3)) (.cmp .lt (!8) (.sub (.sub (.gV 3) (!6)) (¬0))))) #v[.put 3 (!6) (.tup #v[!8,!5])] .nil]],.bq 2,.ret (!2)],some ("headings_before",[1,3,1,2,0])⟩
noncomputable def bo:Def:=⟨["starts","steps","reached","waiting","start","spot","other","cost","together"],2,#v[.i4 2,.i4 3,.dF (.one 4) (.seq (!0)) #v[.put 3 (!4) (.tup #v[¬0,.cst .aM])],.Bd (.cmp .gt (.blt .len #v[.gV 3]) (¬0)) #v[.lh 5 3,.d8 2 3 5,.dF (.two 6 7) (.seq (.ip 1 #v[!5])) #v[.set 8 (.bin .add (.sub (.sub (.gV 2) (!5)) (¬0)) (!7)),.ite (.and (.cmp .uV (!6) (.gV 2)) (.or (.cmp .uV (!6) (.gV 3)) (.cmp .lt (!8) (.sub (.sub (.gV 3) (!6)) (¬0))))) #v[.put 3 (!6) (.tup #v[!8,!5])] .nil]],.bq 2,.ret (!2)],some ("steps_to",[1,2,1,0])⟩
noncomputable def cO:Def:=⟨["floor","walker","goals","goal"],3,#v[.dF (.one 3) (.seq (!2)) #v[.expr (.call "need_open" #v[!0,!3])],.ret (.mJ "spread@steps_to" #v[!2] "steps_to" [1,2,1,0] [1,0])],none⟩
noncomputable def eW:Def:=⟨["reached","place","trace"],2,#v[.own 2 (.lst #v[!1]),.Bd (.cmp .CD (.sub (.sub (!0) (.sub (.gV 2) (.neg (¬1)))) (¬1)) (.cst .aM)) #v[.app 2 (.sub (.sub (!0) (.sub (.gV 2) (.neg (¬1)))) (¬1))],.bq 2,.ret (!2)],none⟩
noncomputable def bO:Def:=⟨["floor","walker","start","goal","reached","headings","leaving","way"],4,#v[.expr (.call "need_open" #v[!0,!2]),.set 4 (.call "spread_to" #v[!0,!1,.lst #v[!3]]),.ite (.cmp .uV (!2) (!4)) #v[.ret (.cst .aM)] .nil,.set 5 (.mJ "spread@headings_before" #v[.lst #v[.tup #v[!3,.cst .aM]]] "headings_before" [1,3,1,2,0] [1,4,0]),.mi 6 (.dD 1 [2] (.one 0) (.seq (!5)) (.cmp .eq (.sub (!0) (¬0)) (!1)) (!0)) 5,.set 7 (.comp 1 [] (.one 0) (.seq (.call "traced" #v[!5,!6])) (.sub (!0) (¬0))),.ret (.tup #v[.sub (.sub (!4) (!2)) (¬0),.sub (.sub (!5) (!6)) (¬0),!7])],none⟩
noncomputable def aG:Def:=⟨["_law_floor_here","_law_way","_law_spot"],3,#v[.ite (.cmp .eq (!1) (¬0)) #v[.ret (.tup #v[.sub (!2) (¬0),.bin .sub (.bin .sub (.blt .len #v[.sub (!0) (¬0)]) (¬1)) (.sub (!2) (¬1))])] .nil,.ite (.cmp .eq (!1) (¬1)) #v[.ret (.tup #v[.bin .sub (.bin .sub (.blt .len #v[!0]) (¬1)) (.sub (!2) (¬0)),.sub (!2) (¬1)])] .nil,.ret (.tup #v[.sub (!2) (¬1),.sub (!2) (¬0)])],none⟩
noncomputable def bV:Def:=⟨["_law_script","_law_floor_here","_law_walker_here","_law_spots_here","_law_start","_law_goal","_law_way","_law_turned","_law_one","_law_other","_law_back","_law_on","_law_wide"],1,#v[.set 1 (.call "_law_floor" #v[!0,¬0,¬4]),.set 2 (.call "_law_walker" #v[!0,¬40]),.set 3 (.call "_law_spots" #v[!1]),.ite (.cmp .eq (!3) (.lst .nil)) #v[.ret (.cst (.bl true))] .nil,.set 4 (.sub (!3) (.call "_law_pick" #v[!0,¬50,.blt .len #v[!3]])),.set 5 (.sub (!3) (.call "_law_pick" #v[!0,¬51,.blt .len #v[!3]])),.set 6 (.call "_law_pick" #v[!0,¬52,¬3]),.set 7 (.call "_law_turned_floor" #v[!1,!6]),.set 8 (.call "straightest" #v[!1,!2,!4,!5]),.set 9 (.call "straightest" #v[!7,!2,.call "_law_turned_spot" #v[!1,!6,!4],.call "_law_turned_spot" #v[!1,!6,!5]]),.ite (.or (.cmp .is (!8) (.cst .aM)) (.cmp .is (!9) (.cst .aM))) #v[.ret (.and (.cmp .is (!8) (.cst .aM)) (.cmp .is (!9) (.cst .aM)))] .nil,.ite (.cmp .ne (.slice (!8) .no (.some (¬2))) (.slice (!9) .no (.some (¬2)))) #v[.ret (.cst (.bl false))] .nil,.set 10 (.call "straightest" #v[!1,.tup #v[.sub (!2) (¬0),.sub (!2) (¬1),¬0],!5,!4]),.set 11 (.call "straightest" #v[!1,.tup #v[.sub (!2) (¬0),.sub (!2) (¬1),¬0],!4,!5]),.ite (.cmp .ne (.slice (!10) .no (.some (¬2))) (.slice (!11) .no (.some (¬2)))) #v[.ret (.cst (.bl false))] .nil,.set 12 (.call "straightest" #v[!1,.tup #v[.cst (.bl true),.sub (!2) (¬1),.sub (!2) (¬2)],!4,!5]),.ret (.or (.cmp .lt (.sub (!12) (¬0)) (.sub (!8) (¬0))) (.and (.cmp .eq (.sub (!12) (¬0)) (.sub (!8) (¬0))) (.cmp .le (.sub (!12) (¬1)) (.sub (!8) (¬1)))))],none⟩
noncomputable def mP:Def:=⟨["_law_script","_law_turn"],1,#v[.dF (.one 1) (.rD (¬3)) #v[.ite (.not (.call "_law_once" #v[.comp 1 [1] (.one 0) (.seq (!0)) (.bin .add (!0) (.bin .mul (¬7919) (!1)))])) #v[.ret (.cst (.bl false))] .nil,.ite (.cmp .eq (!0) (.lst .nil)) #v[.brk] .nil],.ret (.cst (.bl true))],none⟩
def T0:List (Str×Def):=[]
noncomputable def T1:List (Str×Def):=(("is_whole":Str),dY)::T0
noncomputable def T2:List (Str×Def):=(("_law_cell":Str),cM)::T1
noncomputable def T3:List (Str×Def):=(("_law_pick":Str),bL)::T2
noncomputable def T4:List (Str×Def):=(("_law_floor":Str),bW)::T3
noncomputable def T5:List (Str×Def):=(("_law_walker":Str),b9)::T4
noncomputable def T6:List (Str×Def):=(("_law_spots":Str),cB)::T5
noncomputable def T7:List (Str×Def):=(("_law_turned_floor":Str),aD)::T6
noncomputable def T8:List (Str×Def):=(("are_beside":Str),cC)::T7
noncomputable def T9:List (Str×Def):=(("is_spot":Str),dR)::T8
noncomputable def E9:List (Str×Def):=(("is_on_floor":Str),cb)::T9
noncomputable def Fb:List (Str×Def):=(("is_open":Str),cD)::E9
noncomputable def MM:List (Str×Def):=(("need_open":Str),bB)::Fb
noncomputable def MN:List (Str×Def):=(("height_at":Str),cN)::MM
noncomputable def Fc:List (Str×Def):=(("has_open_corners":Str),bj)::MN
noncomputable def MO:List (Str×Def):=(("step_cost":Str),bp)::Fc
noncomputable def Fd:List (Str×Def):=(("open_spots_beside":Str),aY)::MO
noncomputable def Ja:List (Str×Def):=(("steps_from":Str),bX)::Fd
noncomputable def MP:List (Str×Def):=(("steps_to":Str),cy)::Ja
noncomputable def Pb:List (Str×Def):=(("least_before":Str),bR)::MP
noncomputable def LX:List (Str×Def):=(("direction_of":Str),aB)::Pb
noncomputable def LY:List (Str×Def):=(("headings_before":Str),bt)::LX
noncomputable def MQ:List (Str×Def):=(("spread@headings_before":Str),aE)::LY
noncomputable def JG:List (Str×Def):=(("spread@steps_to":Str),bo)::MQ
noncomputable def Pc:List (Str×Def):=(("spread_to":Str),cO)::JG
noncomputable def Bm:List (Str×Def):=(("traced":Str),eW)::Pc
noncomputable def Pd:List (Str×Def):=(("straightest":Str),bO)::Bm
noncomputable def A0:List (Str×Def):=(("_law_turned_spot":Str),aG)::Pd
noncomputable def Pe:List (Str×Def):=(("_law_once":Str),bV)::A0
def J0:den T2 "_law_cell"=az (den T1) cM:=dk 0
def J1:den T3 "_law_pick"=az (den T2) bL:=dk 0
def J3:den T4 "_law_pick"=az (den T2) bL:=dk 1
def J4:den T8 "is_whole"=az (den T0) dY:=dk 7
def FJ:den E9 "is_spot"=az (den T8) dR:=dk 1
def Bv:den E9 "is_on_floor"=az (den T9) cb:=dk 0
def Bw:den Fb "is_open"=az (den E9) cD:=dk 0
def Bx:den MM "need_open"=az (den Fb) bB:=dk 0
def By:den MN "is_open"=az (den E9) cD:=dk 2
def FK:den Fc "are_beside"=az (den T7) cC:=dk 6
def BA:den Fc "has_open_corners"=az (den MN) bj:=dk 0
def Bz:den Fc "height_at"=az (den MM) cN:=dk 1
def BB:den MO "is_open"=az (den E9) cD:=dk 4
def BC:den Fd "need_open"=az (den Fb) bB:=dk 4
def BE:den Fd "open_spots_beside"=az (den MO) aY:=dk 0
def BD:den Fd "step_cost"=az (den Fc) bp:=dk 1
def BG:den Ja "steps_from"=az (den Fd) bX:=dk 0
def BF:den Ja "step_cost"=az (den Fc) bp:=dk 2
def BH:den MP "steps_to"=az (den Ja) cy:=dk 0
def BI:den LX "least_before"=az (den MP) bR:=dk 1
def BJ:den LX "direction_of"=az (den Pb) aB:=dk 0
def BK:den LY "headings_before"=az (den LX) bt:=dk 0
def BL:den MQ "steps_to"=az (den Ja) cy:=dk 4
def BM:den JG "need_open"=az (den Fb) bB:=dk 11
def BN:den JG "spread@steps_to"=az (den MQ) bo:=dk 0
def BO:den Bm "need_open"=az (den Fb) bB:=dk 13
def BQ:den Bm "spread_to"=az (den JG) cO:=dk 1
def BP:den Bm "spread@headings_before"=az (den LY) aE:=dk 3
def BR:den Bm "traced"=az (den Pc) eW:=dk 0
def FN:den A0 "_law_floor"=az (den T3) bW:=dk 23
def FP:den A0 "_law_walker"=az (den T4) b9:=dk 22
def FQ:den A0 "_law_spots"=az (den T5) cB:=dk 21
def FL:den A0 "_law_pick"=az (den T2) bL:=dk 24
def FR:den A0 "_law_turned_floor"=az (den T6) aD:=dk 20
def BS:den A0 "straightest"=az (den Bm) bO:=dk 1
def BU:den A0 "_law_turned_spot"=az (den Pd) aG:=dk 0
def BV:den Pe "_law_once"=az (den A0) bV:=dk 0
noncomputable abbrev sp(r c:Int):PV:=.tup [.int r,.int c]
noncomputable abbrev fK(ns:List Int):PV:=.lst (ns.map .int)
theorem aI{i:Int}:er .abs [.int i]=.ok (.int (if i<0 then -i else i)):=rfl
theorem mX{i j:Int}:er .max2 [.int i,.int j]=.ok (.int (if j>i then j else i)):=rfl
theorem Pm:dJ .gt=sE:=rfl
theorem Qi{i j:Int}:sE (.int i) (.int j)=.ok (.bl (decide (j<i))):=rfl
theorem JS:dJ .CD=f9:=rfl
noncomputable abbrev wk(sl:Bool)(cl pr:Int):PV:=.tup [.bl sl,.int cl,.int pr]
theorem Ls{r c:Int}:aJ (sp r c) (.int 0)=.ok (.int r):=rfl
theorem Lu{r c:Int}:aJ (sp r c) (.int 1)=.ok (.int c):=rfl
theorem Qz{sl:Bool}{cl pr:Int}:aJ (wk sl cl pr) (.int 0)=.ok (.bl sl):=rfl
theorem QA{sl:Bool}{cl pr:Int}:aJ (wk sl cl pr) (.int 1)=.ok (.int cl):=rfl
theorem QB{sl:Bool}{cl pr:Int}:aJ (wk sl cl pr) (.int 2)=.ok (.int pr):=rfl
theorem nI{i j:Int}:mn (.int i) (.int j)=.ok (.bl (!(i==j))):=rfl
theorem eI{i j:Int}:g9 (.int i) (.int j)=.ok (.bl (i==j)):=rfl
theorem nS{r c r' c':Int}:mn (sp r c) (sp r' c')=.ok (.bl (!((r==r')&&((c==c')&&true)))):=rfl
theorem eS{r c r' c':Int}:g9 (sp r c) (sp r' c')=.ok (.bl ((r==r')&&((c==c')&&true))):=rfl
theorem Pn:dJ .is=oM:=rfl
theorem JP{α β:Type}{c:Str}{f:α->Res β}:(Res.exc c:Res α).bind f=.exc c:=rfl
noncomputable def J2:=And.intro @Ls (And.intro @Lu (And.intro @Qz (And.intro @QA (And.intro @QB (And.intro @aI (And.intro @mX (And.intro @Pm (And.intro @Qi (And.intro @nI (And.intro @eI (And.intro @nS (And.intro @eS (And.intro @JS (And.intro @Pn (And.intro @JP (And.intro @Mh (And.intro @Mj (@Mi))))))))))))))))))
set_option hygiene false
local macro_rules | `(tactic| simp! only [$x,*] $[$l:location]?) => `(tactic| simp only [az, cK, cI, bw, ib, aC, bY, uu, qb, ff, jV, g6, List.replicate, Nat.reduceAdd, Nat.reduceSub, reduceIte, ite_true, ite_false, BEq.rfl, beq_self_eq_true, vK, MC, Ql, Qr, Qs, Qq, sv, Qu, Qt, Jd, Ek, El, JO, JN, JM, JL, Pl, Pq, Pp, Po, JT, oLt, oLe, lL, lT, lS, tL, My, Qx, B3, jA, jB, jC, jD, jE, jF, jG, jH, jI, jJ, jK, jL, jM, jN, jO, jP, KJ.qY, Qp, Mj, Mh, Mi, jQ, jR, Ls, Lu, Qz, QA, QB, aI, mX, Pm, Qi, nI, eI, nS, eS, JS, Pn, JP, $x,*] $[$l]?)
local macro_rules | `(tactic| dsimp! only [$x,*] $[$l:location]?) => `(tactic| simp only [az, cK, cI, bw, ib, aC, bY, uu, qb, ff, jV, g6, List.replicate, Nat.reduceAdd, Nat.reduceSub, reduceIte, ite_true, ite_false, BEq.rfl, beq_self_eq_true, J, J2, $x,*] $[$l]?)
set_option hygiene true
theorem oC(F:aU)(i:Int):az F dY [.int i]=.ok (.bl true):=by rfl
def kq{α:Type}{xs:List α}{k:Nat}(h:k<xs.length):pC xs (k:Int)=some xs[k]:=by
 unfold pC CF;have:((k:Nat):Int)<(xs.length:Int):=by omega
 simp [this,h]
def tW{ns:List Int}{k:Int}(h0:0<=k)(h:k<ns.length):∃m,pC (ns.map PV.int) k=some (.int m):=by
 obtain⟨j,rfl⟩:=zzw h0
 refine⟨ns[j]'(by omega),?_⟩;rw [kq (k:=j) (by simp;omega)];simp
def Ao(ns:List Int)(n:Nat):Ci.plain (n+1) (.lst (ns.map .int))=true:=by
 simp! [Ci.plain,zzT,zzx]
 rintro x ⟨i,_,rfl⟩
 cases n<;>rfl
def eq_nil(ns:List Int):g9 (fK ns) (.lst [])=.ok (.bl (decide (ns=[]))):=by
 have e:Ll (fK ns)=true:=Ao ns 8
 unfold g9;rw [e];cases ns<;>rfl
def Bq(F:aU)(ns:List Int)(k:Int)(hk:0<=k):∃m,az F cM [fK ns,.int k]=.ok (.int m):=by
 simp! only [cM,zzl,eq_nil]
 by_cases h:k<(ns.length:Int)
 ·obtain⟨m,e⟩:=tW hk h
  refine⟨m,?_⟩;simp! only [h,decide_true,aJ,e]
 ·simp! only [h,decide_false,eq_nil];cases ns with
  |nil=>exact⟨0,rfl⟩
  |cons n ns=>
   have hl:(0:Int)<((n::ns).length:Int):=by simp! [zzL];omega
   obtain⟨m,e⟩:=tW (ns:=n::ns) (k:=k%((n::ns).length:Int)) (Int.emod_nonneg _ (by omega)) (Int.emod_lt_of_pos _ hl)
   refine⟨m*31+k,?_⟩;have e3:(aK m||aK 31)=true:=by rw [zzt];exact .inr (by decide)
   have e4:aJ (fK (n::ns)) (.int (k%((n::ns).length:Int)))=.ok (.int m):=by simp! [aJ,e];rfl
   have e5:decide ((n::ns)=[])=false:=rfl
   simp! [zzL] at hl e4;simp! only [e5,zzl,hl,e4,e3]
def Dx(F:aU)(hc:∀ns k,0<=k->∃m,F "_law_cell" [fK ns,.int k]=.ok (.int m))(ns:List Int)(k q:Int)(hk:0<=k)(hq:0<q):∃m,az F bL [fK ns,.int k,.int q]=.ok (.int m)/\0<=m/\m<q:=by
 obtain⟨m,e⟩:=hc ns k hk
 have s1:(aK 6151||aK (k+1))=true:=by rw [zzt];exact .inl (by decide)
 have s2:(aK (m+6151*(k+1))||aK 40692)=true:=by rw [zzt];exact .inr (by decide)
 have s3:(0:Int)<2147483399:=by decide
 have s4:(0:Int)<2147483629:=by decide
 have s5:(0:Int)<31/\(31:Int)<1073741824:=by decide
 have a0:=Int.emod_nonneg ((m+6151*(k+1))*40692) (b:=2147483399) (by decide)
 have a1:=Int.emod_lt_of_pos ((m+6151*(k+1))*40692) s3
 refine⟨((((m+6151*(k+1))*40692%2147483399)*((m+6151*(k+1))*40692%2147483399)+((m+6151*(k+1))*40692%2147483399)/31)%2147483629)%q,?_,Int.emod_nonneg _ (by omega),Int.emod_lt_of_pos _ hq⟩;generalize hd:(m+6151*(k+1))*40692%2147483399=d at a0 a1
 have s6:(aK d||aK d)=true:=by
  have:aK d=true:=by simp! [aK,zza,zzN];omega
  rw [this];rfl
 simp! only [bL,fK] at e⊢;simp! only [e,s1,s2,s3,s4,s5,hd,s6,hq,and_self]
def rB(ae:List Str):Prop:=ae.length<=6/\∀z∈ae,z.length<=6
noncomputable abbrev fl(ae:List Str):PV:=.tup (ae.map .str)
noncomputable def cd(ae:List Str)(r c:Nat):Option Nat:=(ae[r]?).bind λz=>z.cps.toList[c]?
noncomputable def zR(ae:List Str)(r c:Nat):Bool:=match cd ae r c with|some x=>x !=35|none=>false
noncomputable def cx(ae:List Str)(r c:Int):Bool:=decide (0<=r)&&decide (0<=c)&&zR ae r.toNat c.toNat
def si(F:aU)(h:∀i,F "is_whole" [.int i]=.ok (.bl true))(r c:Int):az F dR [sp r c]=.ok (.bl true):=by
 have e0:aJ (sp r c) (.int 0)=.ok (.int r):=rfl
 have e1:aJ (sp r c) (.int 1)=.ok (.int c):=rfl
 have e2:g9 (.int ((2:Nat):Int)) (.int 2)=.ok (.bl true):=rfl
 simp! only [dR,rN,h,e0,e1,e2]
def K8(F:aU)(ae:List Str)(R:rB ae)(r c:Int):az F cb [fl ae,sp r c]=.ok (.bl (decide (0<=r)&&decide (0<=c)&&(cd ae r.toNat c.toNat).isSome)):=by
 have e0:aJ (sp r c) (.int 0)=.ok (.int r):=rfl
 have e1:aJ (sp r c) (.int 1)=.ok (.int c):=rfl
 simp! only [cb,rN,e0,e1,qN,qO,zzl]
 by_cases h0:0<=r
 ·by_cases h1:r<(ae.length:Int)
  ·obtain⟨j,rfl⟩:=zzw h0
   have hj:j<ae.length:=by omega
   have e2:aJ (fl ae) (.int (j:Int))=.ok (.str ae[j]):=by
    simp! [aJ,fl];rw [kq (k:=j) (by simpa using hj)];simp [Res.of]
   have e3:(ae[j]).length<=eg:=zzU (R.2 _ (List.getElem_mem hj)) (by decide)
   have e4:(ae[j]).cps.size=(ae[j]).length:=rfl
   simp! only [h0,h1,decide_true,e2,e3]
   by_cases h2:0<=c
   ·obtain⟨i,rfl⟩:=zzw h2
    simp! only [h2,decide_true,cd,zz4,zzg hj,Option.bind_some,Bool.and_self,Bool.true_and,Res.ok.injEq,PV.bl.injEq];rw [Bool.eq_iff_iff];simp [e4]
   ·simp [az,cK,cI,bw,ib,aC,bY,uu,qb,ff,jV,g6,List.replicate,Nat.reduceAdd,Nat.reduceSub,reduceIte,ite_true,ite_false,BEq.rfl,beq_self_eq_true,J,h2]
  ·have:cd ae r.toNat c.toNat=none:=by
    unfold cd;rw [List.getElem?_eq_none (by omega)];rfl
   simp [az,cK,cI,bw,ib,aC,bY,uu,qb,ff,jV,g6,List.replicate,Nat.reduceAdd,Nat.reduceSub,reduceIte,ite_true,ite_false,BEq.rfl,beq_self_eq_true,J,h0,h1,this]
 ·simp [az,cK,cI,bw,ib,aC,bY,uu,qb,ff,jV,g6,List.replicate,Nat.reduceAdd,Nat.reduceSub,reduceIte,ite_true,ite_false,BEq.rfl,beq_self_eq_true,J,h0]
def Ax{ae:List Str}{j:Nat}{z:Str}(h:ae[j]?=some z):aJ (fl ae) (.int (j:Int))=.ok (.str z):=by
 obtain⟨hj,rfl⟩:=zzH.1 h
 simp! [aJ,fl];rw [kq (k:=j) (by simpa using hj)];simp [Res.of]
def vj{z:Str}{i x:Nat}(hz:z.length<=eg)(h:z.cps.toList[i]?=some x):aJ (.str z) (.int (i:Int))=.ok (.str ⟨#[x]⟩):=by
 obtain⟨hj,rfl⟩:=zzH.1 h
 simp! [aJ,hz,if_true];rw [kq (k:=i) hj]
 rfl
def Em{ae:List Str}(R:rB ae){j i x:Nat}(h:cd ae j i=some x):∃z,ae[j]?=some z/\aJ (fl ae) (.int (j:Int))=.ok (.str z)/\aJ (.str z) (.int (i:Int))=.ok (.str ⟨#[x]⟩):=by
 unfold cd at h;cases hz:ae[j]? with
 |none=>rw [hz] at h;cases h
 |some z=>
  rw [hz] at h;exact⟨z,rfl,Ax hz,vj (zzU (R.2 _ (zzD hz)) (by decide)) h⟩
def AA(x:Nat):mn (.str ⟨#[x]⟩) (.str "#")=.ok (.bl (x !=35)):=by
 have:(("#":Str))=⟨#[35]⟩:=by decide+kernel
 rw [this];show Res.ok (PV.bl (!((⟨#[x]⟩:Str)==⟨#[35]⟩)))=_
 congr 2
 rw [bne,Bool.eq_iff_iff];simp
def Dl(F:aU)(hs:∀r c,F "is_spot" [sp r c]=.ok (.bl true))(ho:∀ae,rB ae->∀r c,F "is_on_floor" [fl ae,sp r c]=.ok (.bl (decide (0<=r)&&decide (0<=c)&&(cd ae r.toNat c.toNat).isSome)))
 (ae:List Str) (R:rB ae) (r c:Int):az F cD [fl ae,sp r c]=.ok (.bl (cx ae r c)):=by
 have e0:aJ (sp r c) (.int 0)=.ok (.int r):=rfl
 have e1:aJ (sp r c) (.int 1)=.ok (.int c):=rfl
 simp! only [cD,hs,ho ae R,e0,e1];unfold cx zR
 by_cases h0:0<=r
 ·by_cases h1:0<=c
  ·obtain⟨j,rfl⟩:=zzw h0
   obtain⟨i,rfl⟩:=zzw h1
   simp! [h0,h1,decide_true,Bool.true_and,Bool.and_self,zz4];cases hc:cd ae j i with
   |none=>simp [az,cK,cI,bw,ib,aC,bY,uu,qb,ff,jV,g6,List.replicate,Nat.reduceAdd,Nat.reduceSub,reduceIte,ite_true,ite_false,BEq.rfl,beq_self_eq_true,J]
   |some x=>
    obtain⟨z,_,e2,e3⟩:=Em R hc
    simp! only [Option.isSome_some,e2,e3,AA]
  ·simp [az,cK,cI,bw,ib,aC,bY,uu,qb,ff,jV,g6,List.replicate,Nat.reduceAdd,Nat.reduceSub,reduceIte,ite_true,ite_false,BEq.rfl,beq_self_eq_true,J,h1]
 ·simp [az,cK,cI,bw,ib,aC,bY,uu,qb,ff,jV,g6,List.replicate,Nat.reduceAdd,Nat.reduceSub,reduceIte,ite_true,ite_false,BEq.rfl,beq_self_eq_true,J,h0]
def oG(F:aU)(ho:∀ae,rB ae->∀r c,F "is_open" [fl ae,sp r c]=.ok (.bl (cx ae r c)))(ae:List Str)(R:rB ae)(r c:Int)(h:cx ae r c=true):az F bB [fl ae,sp r c]=.ok .aM:=by
 simp! only [bB,ho ae R,h]
noncomputable abbrev ET(p:Int×Int):PV:=sp p.1 p.2
theorem df{α:Type}{f:PV->Res (Option PV)}{p:α->PV}{g:α->PV}:∀{xs:List α},(∀x∈xs,f (p x)=.ok (some (g x)))->bb f (xs.map p)=.ok (xs.map g)
 |[],_=>rfl
 |x::xs,h=>by
  simp! [zzF,bb,h x (zzP ..),Res.well,Res.bind,df (xs:=xs) λy hy=>h y (zzI _ hy),oc]
def oN{ae:List Str}{r c:Int}:cx ae r c=true↔0<=r/\0<=c/\zR ae r.toNat c.toNat=true:=by
 simp! [cx,zza,zzN,and_assoc]
theorem gC{body:PV->Sl->Res Fl}{P:Nat->Sl->Prop}:∀(xs:List PV) (k:Nat) (env:Sl),P k env->(∀i x env,xs[i]?=some x->P (k+i) env->∃ay,body x env=.ok (.nx ay)/\P (k+i+1) ay)->∃ay,forL body xs env=.ok (.nx ay)/\P (k+xs.length) ay
 |[],k,env,h,_=>⟨env,rfl,h⟩
 |x::xs,k,env,h,g=>by
  obtain⟨e1,b1,p1⟩:=g 0 x env rfl h
  obtain⟨e2,b2,p2⟩:=gC xs (k+1) e1 p1 λi y env hy hp=>by
   obtain⟨e3,b3,p3⟩:=g (i+1) y env hy (by rw [show k+(i+1)=k+1+i by omega];exact hp)
   exact⟨e3,b3,by rw [show k+1+i+1=k+(i+1)+1 by omega];exact p3⟩
  refine⟨e2,?_,by rw [zzL,show k+(xs.length+1)=k+1+xs.length by omega];exact p2⟩;simp! [forL,b1,vK,b2]
def Aw{n i:Nat}{x:PV}(h:(fb 0 n)[i]?=some x):i<n/\x=.int (i:Int):=by
 simp! [fb,zzQ,zzJ] at h;obtain⟨j,hj,rfl⟩:=h
 obtain⟨h1,h2⟩:=zzH.1 hj
 simp! [List.getElem_range] at h2;subst h2;simp! [List.length_range] at h1;exact⟨h1,by simp⟩
def kg(F:aU):Prop:=∀(ns:List Int) (k q:Int),0<=k->0<q->∃m,F "_law_pick" [fK ns,.int k,.int q]=.ok (.int m)/\0<=m/\m<q
def oh{a b c d m:Int}(h0:0<=m)(h1:m<4):∃v,aJ (.lst [.int a,.int b,.int c,.int d]) (.int m)=.ok (.int v)/\(v=a\/v=b\/v=c\/v=d):=by
 have:m=0\/m=1\/m=2\/m=3:=by omega
 rcases this with rfl|rfl|rfl|rfl
 ·exact⟨a,rfl,.inl rfl⟩
 ·exact⟨b,rfl,.inr (.inl rfl)⟩
 ·exact⟨c,rfl,.inr (.inr (.inl rfl))⟩
 ·exact⟨d,rfl,.inr (.inr (.inr rfl))⟩
noncomputable def Ey:Ss:=#v[.set 11 (.call "_law_pick" #v[!0,.bin .add (.bin .add (.bin .add (!1) (¬4)) (.bin .mul (!2) (!8))) (!10),.bin .mul (¬12) (!6)]),.set 9 (.bin .add (!9) (.ite (.cmp .lt (.bin .mod (!11) (¬12)) (!5)) (.cst (.str "#")) (.blt .str #v[.bin .fdiv (!11) (¬12)])))]
noncomputable def F1:Ss:=#v[.set 9 (.cst (.str "")),.dF (.one 10) (.rD (!4)) Ey,.app 7 (!9)]
structure Fl(ae:List Str)(w:Nat):Prop where
 lZ:rB ae
 ne:0<ae.length
 w1:1<=w
 mq:∀z∈ae,z.length=w
 dig:∀z∈ae,∀x∈z.cps.toList,x=35\/(48<=x/\x<=57)
def DW{v:Int}(h0:0<=v)(h1:v<10):er .str [.int v]=.ok (.str ⟨#[48+v.toNat]⟩):=by
 obtain⟨n,rfl⟩:=zzw h0
 have key:∀k:Fin 10,(((k.1:Nat):Int).natAbs.log2<1920)/\((toString ((k.1:Nat):Int)):Str)=⟨#[48+k.1]⟩:=by decide+kernel
 have k:=key ⟨n,Int.ofNat_lt.1 h1⟩
 show(if _ then Res.ok (PV.str _) else _)=_
 rw [if_pos k.1,zz4,k.2]
def Cy{x:Nat}(h0:48<=x)(h1:x<=57):er .int [.str ⟨#[x]⟩]=.ok (.int ((x:Int)-48)):=by
 have key:∀k:Fin 10,PySem.intText? (⟨#[48+k.1]⟩:Str)=some (((48+k.1:Nat):Int)-48):=by decide+kernel
 obtain⟨k,rfl⟩:=Nat.exists_eq_add_of_le h0
 have e:=key ⟨k,Nat.lt_succ_of_le (Nat.le_of_add_le_add_left (a:=48) h1)⟩
 show(if(⟨#[48+k]⟩:Str).length<=640 then(Res.of (PySem.intText? (⟨#[48+k]⟩:Str))).bind λn=>Res.ok (PV.int n) else .bad)=_
 rw [if_pos (show(⟨#[48+k]⟩:Str).length<=640 from(by show 1<=640;decide)),e]
 rfl
def GV(F:aU)(hp:kg F)(ns:List Int)(q a b sh tp:Int)(Ru:0<=q)(P0:q<=6)(h1:1<=tp)(h2:tp<=10)(own:PV)(i n:Nat)(hn:n<=6)(Ip Iq:Ci.Slot):
 ∃(z:Str) (EV EW:Ci.Slot),z.length=n/\(∀x∈z.cps.toList,x=35\/(48<=x/\x<=57))/\forL (λx env=>((Tg.one 10).put x env).bind λay=>bw F Ey ay) (fb 0 n) [.val (fK ns),.val (.int 0),.val (.int q),.val (.int a),.val (.int b),.val (.int sh),.val (.int tp),.own own,.val (.int i),.val (.str ""),Ip,Iq]=
  .ok (.nx [.val (fK ns),.val (.int 0),.val (.int q),.val (.int a),.val (.int b),.val (.int sh),.val (.int tp),.own own,.val (.int i),.val (.str z),EV,EW]):=by
 obtain⟨ay,e,z,EV,EW,hz,hd,rfl⟩:=gC (body:=λx env=>((Tg.one 10).put x env).bind λay=>bw F Ey ay) (P:=λj env=>∃(z:Str) (EV EW:Ci.Slot),z.length=j/\(∀x∈z.cps.toList,x=35\/(48<=x/\x<=57))/\env=[.val (fK ns),.val (.int 0),.val (.int q),.val (.int a),.val (.int b),.val (.int sh),.val (.int tp),.own own,.val (.int i),.val (.str z),EV,EW]) (fb 0 n) 0 [.val (fK ns),.val (.int 0),.val (.int q),.val (.int a),.val (.int b),.val (.int sh),.val (.int tp),.own own,.val (.int i),.val (.str ""),Ip,Iq] ⟨_,_,_,by decide+kernel,by decide+kernel,rfl⟩ (by
  intro j x env hx hq;obtain⟨hj,rfl⟩:=Aw hx
  obtain⟨z,EV,EW,hz,hd,rfl⟩:=hq
  obtain⟨m,em,m0,m1⟩:=hp ns (0+4+q*(i:Int)+(j:Int)) (12*tp) (by
   have:=Int.mul_nonneg Ru (Int.natCast_nonneg i)
   omega) (by omega)
  have q1:(aK q||aK (i:Int))=true:=by
   have:aK q=true:=by simp! [aK,zza,zzN];omega
   rw [this];rfl
  have q2:(aK 12||aK tp)=true:=by rw [zzt];exact .inl (by decide)
  have q3:(0:Int)<12:=by decide
  have q4:(0:Int)<12/\(12:Int)<1073741824:=by decide
  have ew:=DW (v:=m/12) (by omega) (by omega)
  have NA:(("#":Str))=⟨#[35]⟩:=by decide+kernel
  by_cases hm:m%12<sh
  ·refine⟨[.val (fK ns),.val (.int 0),.val (.int q),.val (.int a),.val (.int b),.val (.int sh),.val (.int tp),.own own,.val (.int i),.val (.str (z++"#")),.val (.int j),.val (.int m)],?_,_,_,_,?_,?_,rfl⟩
   ·have l:z.length+(("#":Str)).length<=eg:=zzU (show _<=8 by rw [NA];show z.length+1<=8;omega) (by decide)
    simp! only [Ey,q1,q2,q3,q4,em,hm,decide_true,l,and_self]
   ·rw [Str.length_append,NA];show z.length+1=_;omega
   ·rw [NA];show∀x∈(z.cps++#[35]).toList,_;intro x hx;simp! [Array.toList_append,List.mem_append,zzi] at hx;rcases hx with hx|hx
    ·exact hd x hx
    ·exact .inl hx
  ·refine⟨[.val (fK ns),.val (.int 0),.val (.int q),.val (.int a),.val (.int b),.val (.int sh),.val (.int tp),.own own,.val (.int i),.val (.str (z++⟨#[48+(m/12).toNat]⟩)),.val (.int j),.val (.int m)],?_,_,_,_,?_,?_,rfl⟩
   ·have l:z.length+(⟨#[48+(m/12).toNat]⟩:Str).length<=eg:=zzU (show z.length+1<=8 by omega) (by decide)
    simp! only [Ey,q1,q2,q3,q4,em,hm,decide_false,l,and_self,ew]
   ·rw [Str.length_append];show z.length+1=_;omega
   ·show∀x∈(z.cps++#[48+(m/12).toNat]).toList,_
    intro x hx;simp! [Array.toList_append,List.mem_append,zzi] at hx;rcases hx with hx|hx
    ·exact hd x hx
    ·exact .inr (by omega))
 refine⟨z,EV,EW,?_,hd,e⟩
 simpa [fb] using hz
def wm(F:aU)(hp:kg F)(ns:List Int)(q:Int)(A8:1<=q)(P0:q<=6):∃ae w,Fl ae w/\az F bW [fK ns,.int 0,.int q]=.ok (fl ae):=by
 obtain⟨a,ea,a0,a6⟩:=hp ns 0 q (by decide) (by omega)
 obtain⟨b,eb,b0,b6⟩:=hp ns (0+1) q (by decide) (by omega)
 obtain⟨c,ec,c0,c4⟩:=hp ns (0+2) 4 (by decide) (by decide)
 obtain⟨d,ed,d0,d4⟩:=hp ns (0+3) 4 (by decide) (by decide)
 obtain⟨sh,es,hs⟩:=oh (a:=0) (b:=2) (c:=4) (d:=6) c0 c4
 obtain⟨tp,et,ht⟩:=oh (a:=1) (b:=2) (c:=3) (d:=10) d0 d4
 have t1:1<=tp:=by omega
 have t2:tp<=10:=by omega
 have sa:aR (1+a)=true:=by simp! [aR,zza,zzN];omega
 have sb:aR (1+b)=true:=by simp! [aR,zza,zzN];omega
 obtain⟨ay,e,ae,s8,s9,Ip,Iq,hl,hr,hd,rfl⟩:=gC (body:=λx env=>((Tg.one 8).put x env).bind λay=>bw F F1 ay)
  (P:=λi env=>∃(ae:List Str) (s8 s9 Ip Iq:Ci.Slot),ae.length=i/\(∀z∈ae,z.length=(1+b).toNat)/\(∀z∈ae,∀x∈z.cps.toList,x=35\/(48<=x/\x<=57))/\env=[.val (fK ns),.val (.int 0),.val (.int q),.val (.int (1+a)),.val (.int (1+b)),.val (.int sh),.val (.int tp),.own (.lst (ae.map .str)),s8,s9,Ip,Iq])
  (fb 0 (1+a).toNat) 0 [.val (fK ns),.val (.int 0),.val (.int q),.val (.int (1+a)),.val (.int (1+b)),.val (.int sh),.val (.int tp),.own (.lst []),.no,.no,.no,.no] ⟨[],_,_,_,_,rfl,(λz hz=>by cases hz),(λz hz=>by cases hz),rfl⟩ (by
  intro i x env hx hq;obtain⟨hi,rfl⟩:=Aw hx
  obtain⟨ae,s8,s9,Ip,Iq,hl,hr,hd,rfl⟩:=hq
  obtain⟨z,EV,EW,hz,hzd,e⟩:=GV F hp ns q (1+a) (1+b) sh tp (by omega) P0 t1 t2 (.lst (ae.map .str)) i (1+b).toNat (by omega) Ip Iq
  have l:(ae.map PV.str).length<eg:=zzV (m:=6) (by simp! [zzl];omega) (by decide)
  refine⟨[.val (fK ns),.val (.int 0),.val (.int q),.val (.int (1+a)),.val (.int (1+b)),.val (.int sh),.val (.int tp),.own (.lst ((ae++[z]).map .str)),.val (.int i),.val (.str z),EV,EW],?_,ae++[z],_,_,_,_,by simp;omega,?_,?_,rfl⟩
  ·have e':=e
   simp! only [Ey] at e';simp! [zzl] at l;simp! only [F1,Ey,sb,e',zzl,l,List.map_append]
  ·intro y hy;simp! [List.mem_append,zzi] at hy;rcases hy with hy|rfl
   ·exact hr y hy
   ·exact hz
  ·intro y hy;simp! [List.mem_append,zzi] at hy;rcases hy with hy|rfl
   ·exact hd y hy
   ·exact hzd)
 have qp:ae.length=(1+a).toNat:=by simpa [fb] using hl
 refine⟨ae,(1+b).toNat,⟨⟨by omega,λz hz=>by rw [hr z hz];omega⟩,by omega,by omega,hr,hd⟩,?_⟩
 simp! only [F1,Ey] at e;simp! only [bW,bW,ea,eb,ec,ed,es,et,sa,e]
noncomputable def c8(ae:List Str)(r c:Int):Int:=match cd ae r.toNat c.toNat with
 |some x=>(x:Int)-48
 |none=>0
def zU{ae:List Str}{r c:Int}(h:cx ae r c=true):∃(i j x:Nat),r=i/\c=j/\cd ae i j=some x/\x≠35:=by
 obtain⟨h0,h1,h2⟩:=oN.1 h
 obtain⟨i,rfl⟩:=zzw h0
 obtain⟨j,rfl⟩:=zzw h1
 simp! [zz4,zR] at h2;cases hc:cd ae i j with
 |none=>rw [hc] at h2;cases h2
 |some x=>
  rw [hc] at h2;exact⟨i,j,x,rfl,rfl,hc,by simpa using h2⟩
def Ft{ae:List Str}{w:Nat}(L:Fl ae w){i j x:Nat}(h:cd ae i j=some x):x=35\/(48<=x/\x<=57):=by
 unfold cd at h;cases hz:ae[i]? with
 |none=>rw [hz] at h;cases h
 |some z=>
  rw [hz] at h;exact L.dig z (zzD hz) x (zzD h)
def r9{ae:List Str}{w:Nat}(L:Fl ae w){r c:Int}(h:cx ae r c=true):∃z x,aJ (fl ae) (.int r)=.ok (.str z)/\aJ (.str z) (.int c)=.ok (.str ⟨#[x]⟩)/\er .int [.str ⟨#[x]⟩]=.ok (.int (c8 ae r c))/\0<=c8 ae r c/\c8 ae r c<=9:=by
 obtain⟨i,j,x,rfl,rfl,hc,hx⟩:=zU h
 obtain⟨z,_,e1,e2⟩:=Em L.lZ hc
 have hd:=(Ft L hc).resolve_left hx
 have hh:c8 ae i j=(x:Int)-48:=by simp! [c8,zz4,hc]
 refine⟨z,x,e1,e2,?_,?_⟩
 ·rw [hh];exact Cy hd.1 hd.2
 ·rw [hh];omega
noncomputable def dM(ae:List Str)(sl:Bool)(cl pr:Int)(r c r' c':Int):Option Int:=
 if(r=r'/\c=c')\/1<r-r'\/1<r'-r\/1<c-c'\/1<c'-c then none
 else if(r≠r'/\c≠c')/\¬(sl=true/\cx ae r c'=true/\cx ae r' c=true) then none
 else if cl<c8 ae r' c'-c8 ae r c\/cl<c8 ae r c-c8 ae r' c' then none
 else some ((if r≠r'/\c≠c' then 3 else 2)+pr*(if c8 ae r' c'-c8 ae r c>0 then c8 ae r' c'-c8 ae r c else 0))
noncomputable def oP:Option Int->PV
 |none=>.aM
 |some i=>.int i
def lY(r c r' c':Int):Prop:=(r=r'/\c=c')\/1<r-r'\/1<r'-r\/1<c-c'\/1<c'-c
noncomputable instance(r c r' c':Int):Decidable (lY r c r' c'):=by unfold lY;infer_instance
def vJ(F:aU)(r c r' c':Int):az F cC [sp r c,sp r' c']=.ok (.bl (!decide (lY r c r' c'))):=by
 simp! only [cC,Ls,Lu,aI,nS];have key:∀(a b d:Bool),(Res.ok (PV.bl a)).bind (λx=>pB x λt=>if t then(Res.ok (PV.bl b)).bind (λx=>pB x λt=>if t then Res.ok (PV.bl d) else Res.ok (PV.bl false)) else Res.ok (PV.bl false))=Res.ok (PV.bl (a&&(b&&d))):=by
  intro a b d;cases a<;>cases b<;>cases d<;>rfl
 by_cases h1:r=r'/\c=c'
 ·obtain⟨rfl,rfl⟩:=h1
  have:lY r c r c:=.inl ⟨rfl,rfl⟩
  simp [az,cK,cI,bw,ib,aC,bY,uu,qb,ff,jV,g6,List.replicate,Nat.reduceAdd,Nat.reduceSub,reduceIte,ite_true,ite_false,BEq.rfl,beq_self_eq_true,J,this]
 ·have b1:(!((r==r')&&((c==c')&&true)))=true:=by
   cases hh:((r==r')&&((c==c')&&true)) with
   |false=>rfl
   |true=>exact absurd (by simpa using hh) h1
  simp! only [b1]
  by_cases h2:(if r-r'<0 then -(r-r') else r-r')<=1
  ·by_cases h3:(if c-c'<0 then -(c-c') else c-c')<=1
   ·have:¬lY r c r' c':=by
     rintro (h|h|h|h|h)
     ·exact h1 h
     all_goals (split at h2<;>split at h3<;>omega)
    simp! only [h2,h3,this,decide_true,decide_false]
   ·have:lY r c r' c':=by
     unfold lY;split at h3<;>omega
    simp! only [h2,h3,this,decide_true,decide_false]
  ·have:lY r c r' c':=by
    unfold lY;split at h2<;>omega
   simp! only [h2,this,decide_true,decide_false]
def rF(F:aU):Prop:=∀ae,rB ae->∀r c,F "is_open" [fl ae,sp r c]=.ok (.bl (cx ae r c))
def wH(F:aU)(hn:∀ae,rB ae->∀r c,cx ae r c=true->F "need_open" [fl ae,sp r c]=.ok .aM){ae:List Str}{w:Nat}(L:Fl ae w){r c:Int}(h:cx ae r c=true):az F cN [fl ae,sp r c]=.ok (.int (c8 ae r c)):=by
 obtain⟨z,x,e1,e2,e3,_⟩:=r9 L h
 simp! only [cN,hn ae L.lZ r c h,Ls,Lu,e1,e2,e3]
def rQ(F:aU)(ho:rF F){ae:List Str}(R:rB ae)(r c r' c':Int):az F bj [fl ae,sp r c,sp r' c']=.ok (.bl (cx ae r c'&&cx ae r' c)):=by
 simp! only [bj,Ls,Lu,ho ae R];cases cx ae r c'<;>simp! only [Bool.false_and,Bool.true_and]
def wY{i j:Int}(h0:0<=i)(h1:i<4):(aK i||aK j)=true:=by
 have:aK i=true:=by simp! [aK,zza,zzN];omega
 rw [this];rfl
structure Wk(cl pr:Int):Prop where
 c0:0<=cl
 p0:0<=pr
 p4:pr<4
 c9:cl<=9
def DV(F:aU)(hb:∀r c r' c',F "are_beside" [sp r c,sp r' c']=.ok (.bl (!decide (lY r c r' c'))))(hk:∀ae,rB ae->∀r c r' c',F "has_open_corners" [fl ae,sp r c,sp r' c']=.ok (.bl (cx ae r c'&&cx ae r' c)))
 (hh:∀ae w,Fl ae w->∀r c,cx ae r c=true->F "height_at" [fl ae,sp r c]=.ok (.int (c8 ae r c))) {ae:List Str} {w:Nat} (L:Fl ae w) {sl:Bool} {cl pr:Int} (V:Wk cl pr) {r c r' c':Int} (h:cx ae r c=true) (h':cx ae r' c'=true):
 az F bp [fl ae,wk sl cl pr,sp r c,sp r' c']=.ok (oP (dM ae sl cl pr r c r' c')):=by
 have e1:=hh ae w L r c h
 have e2:=hh ae w L r' c' h'
 have e3:=hk ae L.lZ r c r' c'
 have e4:=hb r c r' c'
 by_cases h1:lY r c r' c'
 ·have:dM ae sl cl pr r c r' c'=none:=if_pos h1
  simp! only [bp,e4,h1,decide_true,this,oP]
 ·have q1:dM ae sl cl pr r c r' c'=_:=if_neg h1
  rw [q1];have ms:=λj=>wY (j:=j) V.p0 V.p4
  obtain⟨s,hs⟩:∃s,((!(r==r'))&&!(c==c'))=s:=⟨_,rfl⟩
  have Mf:s=true↔r≠r'/\c≠c':=by rw [<-hs];simp
  have ia:∀{t u:Bool},(if t=true then Res.ok (PV.bl u) else Res.ok (PV.bl false))=Res.ok (PV.bl (t&&u)):=λ{t u}=>by cases t<;>rfl
  have ii:(if s=true then Res.ok (PV.int 3) else Res.ok (PV.int 2))=Res.ok (PV.int (if r≠r'/\c≠c' then 3 else 2)):=by
   by_cases n3:r≠r'/\c≠c'
   ·rw [if_pos (Mf.2 n3),if_pos n3]
   ·rw [if_neg (λz=>n3 (Mf.1 z)),if_neg n3]
  have mx:(if(0:Int)>c8 ae r' c'-c8 ae r c then 0 else c8 ae r' c'-c8 ae r c)=(if c8 ae r' c'-c8 ae r c>0 then c8 ae r' c'-c8 ae r c else 0):=by
   split<;>split<;>omega
  have cc:(if sl=true then Res.ok (PV.bl (cx ae r c'&&cx ae r' c)) else Res.ok (PV.bl false))=Res.ok (PV.bl (sl&&(cx ae r c'&&cx ae r' c))):=ia
  by_cases hblk:(r≠r'/\c≠c')/\¬(sl=true/\cx ae r c'=true/\cx ae r' c=true)
  ·rw [if_pos hblk];have hB:(!(sl&&(cx ae r c'&&cx ae r' c)))=true:=by
    rw [Bool.not_eq_true',Bool.eq_false_iff];intro z;rw [zza,zza] at z;exact hblk.2 z
   simp! only [bp,e4,e3,h1,decide_false,ia,hs,Mf.2 hblk.1,hB,Bool.and_self,oP]
  ·rw [if_neg hblk];have hB:(s&&!(sl&&(cx ae r c'&&cx ae r' c)))=false:=by
    rw [Bool.eq_false_iff];intro z;rw [zza,Bool.not_eq_true',Bool.eq_false_iff] at z;exact hblk ⟨Mf.1 z.1,λy=>z.2 (by rw [zza,zza];exact y)⟩
   by_cases hq:cl<(if c8 ae r' c'-c8 ae r c<0 then -(c8 ae r' c'-c8 ae r c) else c8 ae r' c'-c8 ae r c)
   ·have hz:cl<c8 ae r' c'-c8 ae r c\/cl<c8 ae r c-c8 ae r' c':=by split at hq<;>omega
    simp! only [bp,e4,e3,e1,e2,h1,decide_false,ia,hs,hB,oP,hq,decide_true,if_pos hz]
   ·have hz:¬(cl<c8 ae r' c'-c8 ae r c\/cl<c8 ae r c-c8 ae r' c'):=by split at hq<;>omega
    simp! only [bp,e4,e3,e1,e2,h1,decide_false,ia,hs,hB,oP,hq,if_neg hz,ii,ms,mx]
def HJ{ae:List Str}{w:Nat}(L:Fl ae w){r c:Int}(h:cx ae r c=true):0<=r/\r<ae.length/\0<=c/\c<w:=by
 obtain⟨i,j,x,rfl,rfl,hc,_⟩:=zU h
 unfold cd at hc;cases hz:ae[i]? with
 |none=>rw [hz] at hc;cases hc
 |some z=>
  rw [hz] at hc;have h1:=(zzH.1 hz).1
  have h2:=(zzH.1 hc).1
  have hl:=L.mq _ (zzD hz)
  simp! [zzd] at h2;have:z.cps.size=z.length:=rfl
  omega
noncomputable abbrev kN(p:Nat×Nat):List Int:=[(p.1:Int),(p.2:Int)]
abbrev Up(L:List (Nat×Nat)):Prop:=L.Pairwise λp q=>HT.lexLt (kN p) (kN q)=true
def AV:Up []:=.nil
def P8{p q:Nat×Nat}(h:p.1<q.1\/p.1=q.1/\p.2<q.2):HT.lexLt (kN p) (kN q)=true:=by
 simp! [HT.lexLt];rcases h with h|⟨h1,h2⟩
 ·rw [if_neg (by omega)];exact zzh (by omega)
 ·rw [if_pos (by omega),if_neg (by omega)];exact zzh (by omega)
noncomputable abbrev AJ(p:Nat×Nat):PV:=sp p.1 p.2
theorem uh:∀{xs:List PV} {k i:Nat} {x:PV},(cG k xs)[i]?=some x->∃y,xs[i]?=some y/\x=.tup [.int ((k+i:Nat):Int),y]
 |[],_,_,_,h=>by cases h
 |y::ys,k,0,x,h=>by
  simp! [cG,List.getElem?_cons_zero,Option.some.injEq] at h;exact⟨y,rfl,h.symm⟩
 |y::ys,k,i+1,x,h=>by
  simp! [cG,List.getElem?_cons_succ] at h;obtain⟨w,h1,h2⟩:=uh h
  refine⟨w,h1,?_⟩;rw [h2,show k+1+i=k+(i+1) by omega]
theorem cX:∀(xs:List PV) (k:Nat),(cG k xs).length=xs.length
 |[],_=>rfl
 |x::xs,k=>by simp! [cG,zzL,cX xs]
theorem pV{f:PV->Res (Option PV)}{r:Nat}(hf:∀c x:Nat,f (.tup [.int c,.str ⟨#[x]⟩])=.ok (if x !=35 then some (sp r c) else none)):∀(xs:List Nat) (k:Nat),∃L:List (Nat×Nat),bb f (cG k (xs.map λx=>.str ⟨#[x]⟩))=.ok (L.map AJ)/\Up L/\L.length<=xs.length/\∀a b,(a,b)∈L↔a=r/\k<=b/\∃x,xs[b-k]?=some x/\x≠35
 |[],k=>⟨[],rfl,AV,zzE _,λa b=>by simp⟩
 |x::xs,k=>by
  obtain⟨L,e,nd,l,h⟩:=pV hf xs (k+1)
  by_cases hx:x=35
  ·refine⟨L,?_,nd,Nat.le_succ_of_le l,λa b=>?_⟩
   ·have:(x !=35)=false:=by simp [hx]
    simp! [zzF,cG,bb,hf,this,MC,vK,e,oc]
    rfl
   ·rw [h]
    constructor
    ·rintro ⟨h1,h2,y,h3,h4⟩
     refine⟨h1,by omega,y,?_,h4⟩;rw [show b-k=(b-(k+1))+1 by omega];exact h3
    ·rintro ⟨h1,h2,y,h3,h4⟩
     have:b≠k:=by
      rintro rfl
      simp at h3;omega
     refine⟨h1,by omega,y,?_,h4⟩;rw [show b-k=(b-(k+1))+1 by omega] at h3;exact h3
  ·refine⟨(r,k)::L,?_,List.pairwise_cons.2 ⟨(λp hp=>P8 (by have:=(h p.1 p.2).1 hp;omega)),nd⟩,Nat.succ_le_succ l,λa b=>?_⟩
   ·have:(x !=35)=true:=by simp [hx]
    simp! [zzF,cG,bb,hf,this,MC,vK,e,oc,if_true]
   ·rw [zzm,h]
    constructor
    ·rintro (h1|⟨h1,h2,y,h3,h4⟩)
     ·cases h1;exact⟨rfl,zzE _,x,by simp,hx⟩
     ·refine⟨h1,by omega,y,?_,h4⟩;rw [show b-k=(b-(k+1))+1 by omega];exact h3
    ·rintro ⟨h1,h2,y,h3,h4⟩
     by_cases hb:b=k
     ·subst hb;subst h1;exact .inl rfl
     ·refine .inr ⟨h1,by omega,y,?_,h4⟩;rw [show b-k=(b-(k+1))+1 by omega] at h3;exact h3
def uZ{ae:List Str}{r c:Nat}:zR ae r c=true↔∃z,ae[r]?=some z/\∃x,z.cps.toList[c]?=some x/\x≠35:=by
 unfold zR cd;cases hz:ae[r]? with
 |none=>simp
 |some z=>
  simp! [Option.bind_some];cases hx:z.cps.toList[c]? with
  |none=>
   refine⟨(λh=>by cases h),?_⟩
   rintro ⟨w,hw,x,uE,_⟩
   cases hw;rw [hx] at uE;cases uE
  |some x=>
   refine⟨λh=>⟨z,rfl,x,hx,by simpa using h⟩,?_⟩
   rintro ⟨w,hw,y,hy,h⟩
   cases hw;rw [hx] at hy;cases hy
   simpa using h
noncomputable def zX:Ss:=#v[.og 1 (.dD 2 [2] (.two 0 1) (.enum (!3)) (.cmp .ne (!1) (.cst (.str "#"))) (.tup #v[!2,!0]))]
def Bk(F:aU):Prop:=∀ae,rB ae->∃L:List (Nat×Nat),F "_law_spots" [fl ae]=.ok (.lst (L.map AJ))/\Up L/\L.length<=36/\∀r c,(r,c)∈L↔zR ae r c=true
def AK(F:aU)(ae:List Str)(R:rB ae):∃L:List (Nat×Nat),az F cB [fl ae]=.ok (.lst (L.map AJ))/\Up L/\L.length<=36/\∀r c,(r,c)∈L↔zR ae r c=true:=by
 have Sn:=R.1
 obtain⟨ay,e,L,s2,s3,nd,hl,hm,rfl⟩:=gC (body:=λx env=>((Tg.two 2 3).put x env).bind λay=>bw F zX ay) (P:=λi env=>∃(L:List (Nat×Nat)) (s2 s3:Slot),Up L/\L.length<=6*i/\(∀r c,(r,c)∈L↔r<i/\zR ae r c=true)/\env=[.val (fl ae),.own (.lst (L.map AJ)),s2,s3])
  (cG 0 (ae.map .str)) 0 [.val (fl ae),.own (.lst []),.no,.no] ⟨[],_,_,AV,zzE _,(λr c=>by simp),rfl⟩ (by
  intro i x env hx hq;obtain⟨y,hy,rfl⟩:=uh hx
  obtain⟨L,s2,s3,nd,hl,hm,rfl⟩:=hq
  simp! [zzQ,zzJ] at hy;obtain⟨z,hz,rfl⟩:=hy
  have KL:=R.2 z (zzD hz)
  have hi:i<ae.length:=(zzH.1 hz).1
  obtain⟨M,eM,nM,lM,hM⟩:=pV (f:=λx=>((Tg.two 0 1).put x [.no,.no,.val (.int i)]).bind λay=>((nA ay[1]?).bind λx=>mn x (.str "#")).bind λt=>pB t λt=>if t then(((nA ay[2]?).bind λp=>((nA ay[0]?).bind λp=>.ok [p]).bind λps=>.ok (p::ps)).bind λps=>.ok (.tup ps)).bind λy=>.ok (some y) else .ok none) (r:=i) (λc x=>by
   simp! only [AA];cases(x !=35)<;>rfl) z.cps.toList 0
  have lz:(cG 0 (chars z)).length<eg:=by
   rw [cX];refine zzV (m:=6) ?_ (by decide)
   simpa [chars,Str.length] using KL
  have ll:(L.map AJ).length+(M.map AJ).length<=eg:=by
   refine zzU (m:=100) ?_ (by decide);simp! [zzl];have:z.cps.toList.length=z.length:=by simp [Str.length]
   omega
  refine⟨[.val (fl ae),.own (.lst ((L++M).map AJ)),.val (.int i),.val (.str z)],?_,L++M,_,_,List.pairwise_append.2 ⟨nd,nM,λa ha b hb=>P8 (.inl (by have h1:=((hm a.1 a.2).1 ha).1;have h2:=((hM b.1 b.2).1 hb).1;omega))⟩,?_,?_,rfl⟩
  ·simp! only [zX,Mi,Nat.zero_add,lz];rw [show chars z=z.cps.toList.map λx=>PV.str ⟨#[x]⟩ from rfl,eM]
   simp! only [ll,List.map_append]
  ·have:z.cps.toList.length=z.length:=by simp [Str.length]
   simp! [zzM];omega
  ·intro r c;rw [List.mem_append,hm,hM,uZ]
   constructor
   ·rintro (⟨h1,h2⟩|⟨rfl,_,x,h3,h4⟩)
    ·exact⟨by omega,h2⟩
    ·exact⟨by omega,z,hz,x,h3,h4⟩
   ·rintro ⟨h1,w,h2,x,h3,h4⟩
    by_cases hr:r=i
    ·subst hr;rw [hz] at h2;cases h2;exact .inr ⟨rfl,Nat.zero_le _,x,h3,h4⟩
    ·exact .inl ⟨by omega,w,h2,x,h3,h4⟩)
 refine⟨L,?_,nd,(by rw [cX,zzl] at hl;omega),λr c=>?_⟩
 ·simp! only [zX] at e;simp! only [cB,Mj,e,List.modify_succ_cons,List.modify_zero_cons,B3]
 ·rw [hm];refine⟨λh=>h.2,λh=>⟨?_,h⟩⟩
  obtain⟨z,hz,_⟩:=uZ.1 h
  have:=(zzH.1 hz).1
  rw [cX,zzl];omega
def xG(F:aU)(hp:kg F)(ns:List Int)(k:Int)(hk:0<=k):∃sl cl pr,Wk cl pr/\az F b9 [fK ns,.int k]=.ok (wk sl cl pr):=by
 obtain⟨a,ea,a0,a2⟩:=hp ns k 2 hk (by decide)
 obtain⟨b,eb,b0,b4⟩:=hp ns (k+1) 4 (by omega) (by decide)
 obtain⟨c,ec,c0,c4⟩:=hp ns (k+2) 4 (by omega) (by decide)
 obtain⟨v,ev,hv⟩:=oh (a:=0) (b:=1) (c:=2) (d:=9) b0 b4
 refine⟨(a==0),v,c,⟨by omega,c0,c4,by omega⟩,?_⟩;simp! only [b9,ea,eb,ec,ev]
theorem eX{α σ:Type}{body:PV->Sl->Res Ci.Fl}{g:α->PV}{mk:List PV->σ->Sl}{app:α->List PV}{m M:Nat}:∀(l:List α) (acc:List PV) (s:σ),(∀a∈l,(app a).length<=m)->(∀a∈l,∀acc s,acc.length+m<=M->∃s',body (g a) (mk acc s)=.ok (.nx (mk (acc++app a) s')))->acc.length+m*l.length<=M->∃s',forL body (l.map g) (mk acc s)=.ok (.nx (mk (acc++l.flatMap app) s'))
 |[],acc,s,_,_,_=>⟨s,by simp [forL]⟩
 |a::l,acc,s,h1,h2,h3=>by
  have ha:=h1 a (zzP ..)
  rw [zzL,Nat.mul_succ] at h3;obtain⟨s1,e1⟩:=h2 a (zzP ..) acc s (by omega)
  obtain⟨s2,e2⟩:=eX l (acc++app a) s1 (λb hb=>h1 b (zzI _ hb)) (λb hb=>h2 b (zzI _ hb)) (by rw [zzM];omega)
  refine⟨s2,?_⟩;simp! [zzF,forL,e1,vK,e2,List.flatMap_cons,List.append_assoc]
noncomputable def f6(x:Int):List Int:=[x-1+(0:Nat),x-1+(1:Nat),x-1+(2:Nat)]
def Lq(x:Int):fb (x-1) (x+2-(x-1)).toNat=(f6 x).map .int:=by
 rw [show(x+2-(x-1)).toNat=3 by omega]
 rfl
noncomputable def oI:Ss:=#v[.ite (.and (.cmp .ne (.tup #v[!3,!4]) (!1)) (.call "is_open" #v[!0,.tup #v[!3,!4]])) #v[.app 2 (.tup #v[!3,!4])] .nil]
noncomputable def oO:Ss:=#v[.dF (.one 4) (.oY (.bin .sub (.sub (!1) (¬1)) (¬1)) (.bin .add (.sub (!1) (¬1)) (¬2))) oI]
noncomputable def Bc(ae:List Str)(r c r' c':Int):Bool:=!((r'==r)&&((c'==c)&&true))&&cx ae r' c'
noncomputable def pO(ae:List Str)(r c r':Int):List (Int×Int):=(f6 c).flatMap λc'=>if Bc ae r c r' c' then [(r',c')] else []
noncomputable def nR(ae:List Str)(r c:Int):List (Int×Int):=(f6 r).flatMap (pO ae r c)
def ik(ae:List Str)(r c r':Int):(pO ae r c r').length<=3:=by
 have:∀c',(if Bc ae r c r' c' then [(r',c')] else []).length<=1:=λc'=>by split<;>simp
 simp! [pO,f6,List.flatMap_cons,List.flatMap_nil,zzM,List.length_nil];have h1:=this (c-1+(0:Nat));have h2:=this (c-1+(1:Nat));have h3:=this (c-1+(2:Nat))
 omega
def pP(ae:List Str)(r c:Int):(nR ae r c).length<=9:=by
 simp! [nR,f6,List.flatMap_cons,List.flatMap_nil,zzM,List.length_nil];have h1:=ik ae r c (r-1+(0:Nat));have h2:=ik ae r c (r-1+(1:Nat));have h3:=ik ae r c (r-1+(2:Nat))
 omega
def kC{ae:List Str}{r c r' c':Int}:(r',c')∈nR ae r c↔¬lY r c r' c'/\cx ae r' c'=true:=by
 have hn:∀x y:Int,y∈f6 x↔¬1<x-y/\¬1<y-x:=by
  intro x y;simp! [f6,zzm,List.not_mem_nil,or_false];omega
 simp! [nR,pO,List.mem_flatMap,hn]
 constructor
 ·rintro ⟨a,ha,b,hb,h⟩
  split at h
  ·rename_i hk;simp! [zzi,Prod.mk.injEq] at h;obtain⟨rfl,rfl⟩:=h
   simp! [Bc,zza,Bool.not_eq_true',Bool.and_true] at hk;refine⟨?_,hk.2⟩;unfold lY;have h1:=hk.1
   rw [Bool.and_eq_false_iff] at h1;simp! [beq_eq_false_iff_ne,ne_eq] at h1;omega
  ·cases h
 ·rintro ⟨hf,ho⟩
  unfold lY at hf;refine⟨r',by omega,c',by omega,?_⟩;have:Bc ae r c r' c'=true:=by
   simp! [Bc,ho,Bool.and_true,Bool.not_eq_true',Bool.and_eq_false_iff,beq_eq_false_iff_ne,ne_eq];omega
  rw [if_pos this];exact zzi.2 rfl
def lI{r:Int}(h0:0<=r)(h6:r<6):(aR (r-1)&&aR (r+2))=true:=by
 simp! [aR,zza,zzN];omega
def Fj(F:aU)(ho:rF F){ae:List Str}(R:rB ae){r c:Int}(Rw:0<=r)(hr:r<6)(Q6:0<=c)(hc:c<6):
 az F aY [fl ae,sp r c]=.ok (.lst ((nR ae r c).map ET)):=by
 have inner:∀(r':Int) (acc:List PV) (s4:Ci.Slot),acc.length+3<=50->∃Oj,forL (λx env=>((Tg.one 4).put x env).bind λay=>bw F oI ay) ((f6 c).map .int) [.val (fl ae),.val (sp r c),.own (.lst acc),.val (.int r'),s4]=.ok (.nx [.val (fl ae),.val (sp r c),.own (.lst (acc++(pO ae r c r').map ET)),.val (.int r'),Oj]):=by
  intro r' acc s4 hl;obtain⟨s',e⟩:=eX (body:=λx env=>((Tg.one 4).put x env).bind λay=>bw F oI ay) (g:=PV.int) (mk:=λacc (s:Ci.Slot)=>[.val (fl ae),.val (sp r c),.own (.lst acc),.val (.int r'),s]) (app:=λc'=>if Bc ae r c r' c' then [sp r' c'] else []) (m:=1) (M:=60) (f6 c) acc s4 (λc' _=>by split<;>simp) (λc' _ acc s hl=>by
   have l:acc.length<eg:=zzV (m:=60) (by omega) (by decide)
   refine⟨.val (.int c'),?_⟩;cases h1:(!((r'==r)&&((c'==c)&&true))) with
   |false=>simp! only [oI,h1,Bc,Bool.false_and,zz6]
   |true=>
    cases h2:cx ae r' c' with
    |false=>simp! only [oI,h1,h2,Bc,ho ae R,Bool.and_false,zz6]
    |true=>simp! only [oI,h1,h2,Bc,ho ae R,Bool.and_self,l]) (by show acc.length+1*3<=60;omega)
  have k:(f6 c).flatMap (λc'=>if Bc ae r c r' c' then [sp r' c'] else [])=(pO ae r c r').map ET:=by
   simp! [pO,List.map_flatMap]
   congr 1
   funext c'
   split<;>rfl
  exact⟨s',by rw [e,k]⟩
 obtain⟨s',e⟩:=eX (body:=λx env=>((Tg.one 3).put x env).bind λay=>bw F oO ay) (g:=PV.int) (mk:=λacc (s:Ci.Slot×Ci.Slot)=>[.val (fl ae),.val (sp r c),.own (.lst acc),s.1,s.2]) (app:=λr'=>(pO ae r c r').map ET) (m:=3) (M:=50) (f6 r) [] (.no,.no) (λr' _=>by rw [zzl];exact ik ..) (λr' _ acc s hl=>by
  obtain⟨Oj,e⟩:=inner r' acc s.2 hl
  refine⟨(.val (.int r'),Oj),?_⟩;simp! only [oI] at e;simp! only [oO,oI,lI Q6 hc,Lq,e]) (by show 0+3*3<=50;omega)
 simp! only [oO,oI] at e;simp! only [aY,lI Rw hr,Lq,e,B3,nR,List.map_flatMap]
def E1(ae:List Str)(sl:Bool)(cl pr:Int)(u v:List Int)(e:Int):Prop:=∃r c r' c',u=[r,c]/\v=[r',c']/\cx ae r c=true/\cx ae r' c'=true/\dM ae sl cl pr r c r' c'=some e
noncomputable abbrev tK(t:List Int×Int):PV:=.tup [bZ t.1,.int t.2]
def rH(F:aU):Prop:=∀ae w,Fl ae w->∀sl cl pr,Wk cl pr->∀r c r' c',cx ae r c=true->cx ae r' c'=true->F "step_cost" [fl ae,wk sl cl pr,sp r c,sp r' c']=.ok (oP (dM ae sl cl pr r c r' c'))
def Ec(F:aU):Prop:=∀ae,rB ae->∀r c,0<=r->r<6->0<=c->c<6->F "open_spots_beside" [fl ae,sp r c]=.ok (.lst ((nR ae r c).map ET))
def nK(F:aU):Prop:=∀ae,rB ae->∀r c,cx ae r c=true->F "need_open" [fl ae,sp r c]=.ok .aM
def pH(f:List PV->Res PV):Prop:=∀ae w,Fl ae w->∀sl cl pr,Wk cl pr->∀r c,cx ae r c=true->∃T:List (List Int×Int),f [fl ae,wk sl cl pr,bZ [r,c]]=.ok (.lst (T.map tK))/\T.length<=9/\∀v e,(v,e)∈T↔E1 ae sl cl pr [r,c] v e
def nN(F:aU):Prop:=pH (F "steps_from")
noncomputable def Mu:Ss:=#v[.set 5 (.call "step_cost" #v[!0,!1,!2,!4]),.ite (.cmp .CD (!5) (.cst .aM)) #v[.app 3 (.tup #v[!4,!5])] .nil]
def EL{ae:List Str}{w:Nat}(L:Fl ae w){r c:Int}(h:cx ae r c=true):0<=r/\r<6/\0<=c/\c<6:=by
 have h1:=HJ L h
 have h2:=L.lZ.1
 have h3:=L.lZ.2 _ (List.getElem_mem L.ne)
 rw [L.mq _ (List.getElem_mem L.ne)] at h3;omega
def AM(F:aU)(hn:nK F)(hb:Ec F)(hs:rH F):pH (az F bX):=by
 intro ae w L sl cl pr V r c h;obtain⟨r0,r6,c0,c6⟩:=EL L h
 have Iy:∀p:Int×Int,((dM ae sl cl pr r c p.1 p.2).toList.map λe=>(([p.1,p.2]:List Int),e)).length<=1:=λp=>by cases dM ae sl cl pr r c p.1 p.2<;>simp
 refine⟨(nR ae r c).flatMap λp=>(dM ae sl cl pr r c p.1 p.2).toList.map λe=>([p.1,p.2],e),?_,?_,?_⟩
 ·obtain⟨s',e⟩:=eX (body:=λx env=>((Tg.one 4).put x env).bind λay=>bw F Mu ay) (g:=ET) (mk:=λacc (s:Ci.Slot×Ci.Slot)=>[.val (fl ae),.val (wk sl cl pr),.val (sp r c),.own (.lst acc),s.1,s.2]) (app:=λp=>((dM ae sl cl pr r c p.1 p.2).toList.map λe=>(([p.1,p.2]:List Int),e)).map tK) (m:=1) (M:=50) (nR ae r c) [] (.no,.no) (λp _=>by rw [zzl];exact Iy p) (λp hp acc s hl=>by
   have l:acc.length<eg:=zzV (m:=50) (by omega) (by decide)
   have e:=hs ae w L sl cl pr V r c p.1 p.2 h (kC.1 hp).2
   cases hq:dM ae sl cl pr r c p.1 p.2 with
   |none=>
    rw [hq] at e;have e5:f9 .aM .aM=.ok (.bl false):=rfl
    simp! [oP] at e;exact⟨(.val (ET p),.val .aM),by simp! only [Mu,e,e5,Option.toList_none,zz6]⟩
   |some v=>
    rw [hq] at e;have e5:f9 (.int v) .aM=.ok (.bl true):=rfl
    simp! [oP] at e;exact⟨(.val (ET p),.val (.int v)),by simp! only [Mu,e,e5,Option.toList_some,l];rfl⟩) (by
   have:=pP ae r c
   show 0+1*_<=50
   omega)
  have k:bZ [r,c]=sp r c:=rfl
  simp! only [Mu] at e;simp! only [k,bX,hn ae L.lZ r c h,hb ae L.lZ r c r0 r6 c0 c6,e,B3,List.map_flatMap]
 ·have:=pP ae r c
  have key:∀l:List (Int×Int),(l.flatMap λp=>(dM ae sl cl pr r c p.1 p.2).toList.map λe=>(([p.1,p.2]:List Int),e)).length<=l.length:=by
   intro l
   induction l with
   |nil=>exact zzE _
   |cons p l ih=>
    have:=Iy p
    simp! [List.flatMap_cons,zzM,zzL];omega
  exact zzU (key _) this
 ·intro v e;simp! [List.mem_flatMap,zzx,Option.mem_toList,Option.mem_def,Prod.mk.injEq]
  constructor
  ·rintro ⟨p,hp,e',he,rfl,rfl⟩
   exact⟨r,c,p.1,p.2,rfl,rfl,h,(kC.1 hp).2,he⟩
  ·rintro ⟨a,b,r',c',hu,rfl,_,ho,he⟩
   cases hu;refine⟨(r',c'),kC.2 ⟨λhf=>?_,ho⟩,e,he,rfl,rfl⟩
   rw [show dM ae sl cl pr r c r' c'=none from if_pos hf] at he;cases he
theorem dg{α:Type}:∀{ks:List (List Int)} {vs:List α} (k:List Int),ks.length=vs.length->cJ ks k=(aj ks vs k).isSome
 |[],[],_,_=>rfl
 |k'::ks,v::vs,k,h=>by
  have ih:=dg (ks:=ks) (vs:=vs) k (by simpa using h)
  by_cases e:k'=k
  ·simp [cJ,aj,e]
  ·simp! [cJ] at ih;simp [cJ,aj,e,ih]
theorem iE{α β:Type}(f:α->β):∀(ks:List (List Int)) (vs:List α) (k:List Int),aj ks (vs.map f) k=(aj ks vs k).map f
 |[],_,_=>by simp [aj]
 |_::_,[],_=>by simp [aj]
 |k'::ks,v::vs,k=>by
  simp! [zzF,aj,iE f ks vs k];split<;>rfl
theorem kO{α β:Type}(f:α->β):∀(ks:List (List Int)) (vs:List α) (k:List Int),aP ks (vs.map f) k=(aP ks vs k).map f
 |[],_,_=>by simp [aP]
 |_::_,[],_=>by simp [aP]
 |k'::ks,v::vs,k=>by
  simp! [zzF,aP,kO f ks vs k];split<;>rfl
def mU{α β:Type}(f:α->β)(ks:List (List Int))(vs:List α)(k:List Int)(p:α):bC ks (vs.map f) k (f p)=(bC ks vs k p).map f:=by
 unfold bC;split
 ·rw [List.zipWith_map_right,List.map_zipWith]
  congr 1
  funext a b
  split<;>rfl
 ·simp
theorem qi{α:Type}(k:List Int)(p:α):∀(ks:List (List Int)) (vs:List α) (x:List Int),aj ks (List.zipWith (λk' v=>if k'=k then p else v) ks vs) x=(aj ks vs x).map λv=>if x=k then p else v
 |[],_,_=>by simp [aj]
 |_::_,[],_=>by simp [aj]
 |k'::ks,v::vs,x=>by
  simp! [List.zipWith_cons_cons,aj,qi k p ks vs x]
  by_cases e:k'=x
  ·subst e;simp
  ·simp [e]
theorem mV{α:Type}(k:List Int)(p:α):∀(ks:List (List Int)) (vs:List α) (x:List Int),ks.length=vs.length->aj (ks++[k]) (vs++[p]) x=(aj ks vs x).or (if k=x then some p else none)
 |[],[],x,_=>by simp [aj]
 |k'::ks,v::vs,x,h=>by
  simp! [List.cons_append,aj,mV k p ks vs x (by simpa using h)];split<;>simp
def bA{α:Type}{ks:List (List Int)}{vs:List α}(h:ks.length=vs.length)(k:List Int)(p:α)(x:List Int):aj (bG ks k) (bC ks vs k p) x=if k=x then some p else aj ks vs x:=by
 have hh:=dg (vs:=vs) k h
 unfold bG bC;cases hk:cJ ks k with
 |true=>
  rw [hk] at hh;simp! [if_true,qi]
  by_cases e:k=x
  ·subst e;obtain⟨v,hv⟩:=zzp.1 hh.symm
   simp [hv]
  ·rw [if_neg e];have e':¬x=k:=λz=>e z.symm
   cases aj ks vs x<;>simp [e']
 |false=>
  rw [hk] at hh;simp! [zze,if_false,mV k p ks vs x h]
  by_cases e:k=x
  ·subst e;have:aj ks vs k=none:=by simpa using hh.symm
   simp [this]
  ·simp [e]
def qg{α:Type}{ks:List (List Int)}{vs:List α}(h:ks.length=vs.length)(k:List Int)(p:α):(bG ks k).length=(bC ks vs k p).length:=by
 unfold bG bC;split<;>simp [h]
def wu(ks:List (List Int))(k:List Int):(bG ks k).length<=ks.length+1:=by
 unfold bG;split<;>simp
def iD{ks:List (List Int)}{k:List Int}:cJ ks k=true↔k∈ks:=by
 simp [cJ]
def jf{ks:List (List Int)}(h:ks.Nodup)(k:List Int):(bG ks k).Nodup:=by
 unfold bG;split
 ·exact h
 ·rename_i hk;rw [iD] at hk;refine List.nodup_append.2 ⟨h,by simp,?_⟩;intro a ha b hb e;rw [zzi] at hb;exact hk (hb▸e▸ha)
theorem dS{α:Type}(k:List Int):∀(ks:List (List Int)) (vs:List α) (x:List Int),ks.length=vs.length->aj (bP ks k) (aP ks vs k) x=if k=x then none else aj ks vs x
 |[],[],x,_=>by simp [bP,aP,aj]
 |k'::ks,v::vs,x,h=>by
  have ih:=dS k ks vs x (by simpa using h)
  simp! [bP] at ih
  by_cases e:k'=k
  ·subst e;simp! [bP,aP,aj,zz3,ne_eq,not_true_eq_false,decide_false,zze,if_false,if_true,ih];split<;>simp_all
  ·simp! [bP,aP,aj,zz3,ne_eq,e,not_false_eq_true,decide_true,if_true,if_false]
   by_cases e2:k'=x
   ·subst e2;have:¬k=k':=λz=>e z.symm
    simp [aj,this]
   ·simp! [aj,e2,if_false];exact ih
theorem mS{α:Type}(k:List Int):∀(ks:List (List Int)) (vs:List α),ks.length=vs.length->(bP ks k).length=(aP ks vs k).length
 |[],[],_=>rfl
 |k'::ks,v::vs,h=>by
  have ih:=mS k ks vs (by simpa using h)
  simp! [bP] at ih
  by_cases e:k'=k
  ·simpa [bP,aP,e] using ih
  ·simpa [bP,aP,e] using ih
theorem uw{α:Type}:∀{ks:List (List Int)} {vs:List α} {i:Nat} {k:List Int} {q:α},ks.Nodup->ks[i]?=some k->vs[i]?=some q->aj ks vs k=some q
 |[],_,_,_,_,_,h,_=>by simp at h
 |_::_,[],_,_,_,_,_,h=>by simp at h
 |k'::ks,v::vs,0,k,q,_,h1,h2=>by
  simp! [List.getElem?_cons_zero,Option.some.injEq] at h1 h2;simp [aj,h1,h2]
 |k'::ks,v::vs,i+1,k,q,nd,h1,h2=>by
  simp! [List.getElem?_cons_succ] at h1 h2;have Qb:=List.nodup_cons.1 nd
  have:¬k'=k:=λz=>Qb.1 (z▸zzD h1)
  simp! [aj,this,if_false];exact uw Qb.2 h1 h2
theorem qh{α:Type}:∀{ks:List (List Int)} {vs:List α} {k:List Int} {q:α},aj ks vs k=some q->q∈vs
 |[],_,_,_,h=>by simp [aj] at h
 |_::_,[],_,_,h=>by simp [aj] at h
 |k'::ks,v::vs,k,q,h=>by
  simp! [aj] at h;split at h
  ·cases h;exact zzP ..
  ·exact zzI _ (qh h)
theorem iX:∀(cs:List Int) (b:Nat) (m:Int) (pre:List Int),pre[b]?=some m->(∀x∈pre,m<=x)->∃y,(pre++cs)[eL cs pre.length b m]?=some y/\∀x∈pre++cs,y<=x
 |[],b,m,pre,h1,h2=>⟨m,by simpa [eL] using h1,by simpa using h2⟩
 |c::cs,b,m,pre,h1,h2=>by
  have hb:=(zzH.1 h1).1
  simp! [eL];have hl:pre.length+1=(pre++[c]).length:=by simp
  split
  ·rename_i hc;have:=iX cs pre.length c (pre++[c]) (by simp) (λx hx=>by
    simp! [List.mem_append,zzi] at hx;rcases hx with hx|hx
    ·have:=h2 x hx;omega
    ·omega)
   rw [<-hl] at this
   simpa using this
  ·rename_i hc;have:=iX cs b m (pre++[c]) (by rw [zzr hb];exact h1) (λx hx=>by
    simp! [List.mem_append,zzi] at hx;rcases hx with hx|hx
    ·exact h2 x hx
    ·omega)
   rw [<-hl] at this
   simpa using this
def tR{cs:List Int}(h:cs≠[]):∃i y,pL cs=some i/\cs[i]?=some y/\∀x∈cs,y<=x:=by
 cases cs with
 |nil=>exact absurd rfl h
 |cons c cs=>
  obtain⟨y,h1,h2⟩:=iX cs 0 c [c] rfl (by simp)
  exact⟨_,y,rfl,h1,h2⟩
def Gd(k:List Int):Prop:=kI (kP k)=some k
noncomputable abbrev val(q:Int×PV):PV:=.tup [.int q.1,q.2]
theorem mM:∀V:List (Int×PV),gY (V.map val)=some (V.map (·.1))
 |[]=>rfl
 |q::V=>by simp! [zzF,gY,mM V,Option.map_some]
def wU{ks:List (List Int)}{V:List (Int×PV)}(h:ks.length=V.length)(nd:ks.Nodup)(j2:ks≠[]):∃k q,((pL (V.map (·.1))).bind λx=>ks[x]?)=some k/\aj ks V k=some q/\∀x q',aj ks V x=some q'->q.1<=q'.1:=by
 have hV:V.map (·.1)≠[]:=by
  intro z;rw [List.map_eq_nil_iff] at z;rw [z] at h;exact j2 (List.eq_nil_of_length_eq_zero h)
 obtain⟨i,y,h1,h2,h3⟩:=tR hV
 rw [zzQ,zzJ] at h2;obtain⟨q,hq,rfl⟩:=h2
 have hi:=(zzH.1 hq).1
 have hk:ks[i]?=some (ks[i]'(by omega)):=zzg _
 refine⟨_,q,by rw [h1];exact hk,uw nd hk hq,λx q' hx=>h3 _ (zzx.2 ⟨q',qh hx,rfl⟩)⟩
inductive xJ(E:List Int->List Int->Int->Prop)(s:List Int):List Int->Int->Prop
 |here:xJ E s s 0
 |go {u v:List Int} {d e:Int}:xJ E s u d->E u v e->xJ E s v (d+e)
abbrev Ks:=List (List Int)
abbrev Vs:=List (Int×PV)
def Kn(kr:Ks)(Vr:Vs)(kw:Ks)(Vw:Vs)(k:List Int)(c:Int):Prop:=(∃q,aj kr Vr k=some q/\q.1<=c)\/∃q,aj kw Vw k=some q/\q.1<=c
structure pA(E:List Int->List Int->Int->Prop)(O:List Int->Prop)(s:List Int)(kr:Ks)(Vr:Vs)(kw:Ks)(Vw:Vs)(X:List Int->List Int->Int->Prop)(n:Nat)(b:Int):Prop where
 lr:kr.length=Vr.length
 lw:kw.length=Vw.length
 nw:kw.Nodup
 Ji:∀k q q',aj kr Vr k=some q->aj kw Vw k=some q'->False
 wr:∀k q,aj kr Vr k=some q->O k/\xJ E s k q.1
 ww:∀k q,aj kw Vw k=some q->O k/\xJ E s k q.1
 mono:∀k q k' q',aj kr Vr k=some q->aj kw Vw k'=some q'->q.1<=q'.1
 gz:∀u q,aj kr Vr u=some q->∀v e,X u v e->Kn kr Vr kw Vw v (q.1+e)
 st:Kn kr Vr kw Vw s 0
 cw:kw.length<=n
 pre:∀k q,aj kr Vr k=some q\/aj kw Vw k=some q->(q.2=.aM/\k=s/\q.1=0)\/∃y q' e,q.2=kP y/\aj kr Vr y=some q'/\E y k e/\q.1=q'.1+e
 bd:∀k q,aj kr Vr k=some q\/aj kw Vw k=some q->0<=q.1/\q.1<=b
 nr:kr.Nodup
def Kn.put{kr:Ks}{Vr:Vs}{kw:Ks}{Vw:Vs}(h:kw.length=Vw.length){v:List Int}{c:Int}{p:PV}(hv:∀q,aj kw Vw v=some q->c<=q.1){k:List Int}{x:Int}(H:Kn kr Vr kw Vw k x):Kn kr Vr (bG kw v) (bC kw Vw v (c,p)) k x:=by
 rcases H with H|⟨q,h1,h2⟩
 ·exact .inl H
 ·refine .inr ?_;rw [bA h]
  by_cases e:v=k
  ·subst e;exact⟨(c,p),if_pos rfl,Int.le_trans (hv q h1) h2⟩
  ·exact⟨q,by rw [if_neg e];exact h1,h2⟩
def pA.put{E:List Int->List Int->Int->Prop}{O:List Int->Prop}{s:List Int}{kr:Ks}{Vr:Vs}{kw:Ks}{Vw:Vs}{X:List Int->List Int->Int->Prop}{n:Nat}{b:Int}(M:pA E O s kr Vr kw Vw X n b){u v:List Int}{d e:Int}{p0:PV}(hu:aj kr Vr u=some (d,p0))(hd:∀k q,aj kr Vr k=some q->q.1<=d)(he:E u v e)(h0:0<=e)(hb:d+e<=b)(ho:O v)
 (hv:aj kr Vr v=none) (hw:∀q,aj kw Vw v=some q->d+e<=q.1):pA E O s kr Vr (bG kw v) (bC kw Vw v (d+e,kP u)) (λa b c=>X a b c\/a=u/\b=v/\c=e) (n+1) b where
 lr:=M.lr
 lw:=qg M.lw _ _
 nw:=jf M.nw _
 Ji:=λk q q' h1 h2=>by
  rw [bA M.lw] at h2;split at h2
  ·rename_i z;subst z;rw [hv] at h1;cases h1
  ·exact M.Ji k q q' h1 h2
 wr:=M.wr
 ww:=λk q h=>by
  rw [bA M.lw] at h;split at h
  ·rename_i z;subst z;cases h;exact⟨ho,.go (M.wr u _ hu).2 he⟩
  ·exact M.ww k q h
 mono:=λk q k' q' h1 h2=>by
  rw [bA M.lw] at h2;split at h2
  ·cases h2;have:=hd k q h1;show q.1<=d+e;omega
  ·exact M.mono k q k' q' h1 h2
 gz:=λa q h1 b c hx=>by
  rcases hx with hx|⟨rfl,rfl,rfl⟩
  ·exact(M.gz a q h1 b c hx).put M.lw hw
  ·rw [hu] at h1;cases h1;exact .inr ⟨(d+c,kP a),by rw [bA M.lw,if_pos rfl],Int.le_refl _⟩
 st:=M.st.put M.lw hw
 cw:=by have:=wu kw v;have:=M.cw;omega
 pre:=λk q h=>by
  rcases h with h|h
  ·exact M.pre k q (.inl h)
  ·rw [bA M.lw] at h;split at h
   ·rename_i z;subst z;cases h;exact .inr ⟨u,(d,p0),e,rfl,hu,he,rfl⟩
   ·exact M.pre k q (.inr h)
 bd:=λk q h=>by
  rcases h with h|h
  ·exact M.bd k q (.inl h)
  ·rw [bA M.lw] at h;split at h
   ·cases h;have:=(M.bd u _ (.inl hu)).1;exact⟨by show 0<=d+e;omega,hb⟩
   ·exact M.bd k q (.inr h)
 nr:=M.nr
def pA.keep{E:List Int->List Int->Int->Prop}{O:List Int->Prop}{s:List Int}{kr:Ks}{Vr:Vs}{kw:Ks}{Vw:Vs}{X Y:List Int->List Int->Int->Prop}{n m:Nat}{b b':Int}(M:pA E O s kr Vr kw Vw X n b)(hm:n<=m)(hb:b<=b')(h:∀u q,aj kr Vr u=some q->∀v e,Y u v e->Kn kr Vr kw Vw v (q.1+e)):pA E O s kr Vr kw Vw Y m b':=
 ⟨M.lr,M.lw,M.nw,M.Ji,M.wr,M.ww,M.mono,h,M.st,zzU M.cw hm,M.pre,λk q z=>⟨(M.bd k q z).1,Int.le_trans (M.bd k q z).2 hb⟩,M.nr⟩
def Kn.move{kr:Ks}{Vr:Vs}{kw:Ks}{Vw:Vs}(hr:kr.length=Vr.length)(hw:kw.length=Vw.length){k:List Int}{q0:Int×PV}(h0:aj kw Vw k=some q0)(hk:aj kr Vr k=none){x:List Int}{c:Int}(H:Kn kr Vr kw Vw x c):Kn (bG kr k) (bC kr Vr k q0) (bP kw k) (aP kw Vw k) x c:=by
 unfold Kn;rw [bA hr,dS k kw Vw x hw]
 by_cases e:k=x
 ·subst e;rcases H with⟨q,h1,_⟩|⟨q,h1,h2⟩
  ·rw [hk] at h1;cases h1
  ·rw [h0] at h1;cases h1;exact .inl ⟨q0,if_pos rfl,h2⟩
 ·simp! [e,if_false];exact H
def pA.move{E:List Int->List Int->Int->Prop}{O:List Int->Prop}{s:List Int}{kr:Ks}{Vr:Vs}{kw:Ks}{Vw:Vs}{n:Nat}{b:Int}(M:pA E O s kr Vr kw Vw E n b){k:List Int}{q0:Int×PV}(h0:aj kw Vw k=some q0)(hl:∀x q',aj kw Vw x=some q'->q0.1<=q'.1):
 pA E O s (bG kr k) (bC kr Vr k q0) (bP kw k) (aP kw Vw k) (λa b c=>E a b c/\a≠k) n b/\aj (bG kr k) (bC kr Vr k q0) k=some q0/\∀x q,aj (bG kr k) (bC kr Vr k q0) x=some q->q.1<=q0.1:=by
 have hk:aj kr Vr k=none:=by
  cases h:aj kr Vr k with
  |none=>rfl
  |some q=>exact(M.Ji k q q0 h h0).elim
 have old:∀x q,aj (bG kr k) (bC kr Vr k q0) x=some q\/aj (bP kw k) (aP kw Vw k) x=some q->aj kr Vr x=some q\/aj kw Vw x=some q:=λx q h=>by
  rcases h with h|h
  ·rw [bA M.lr] at h;split at h
   ·rename_i z;subst z;cases h;exact .inr h0
   ·exact .inl h
  ·rw [dS k kw Vw x M.lw] at h;split at h
   ·cases h
   ·exact .inr h
 refine⟨?_,by rw [bA M.lr,if_pos rfl],λx q h=>?_⟩
 ·refine⟨qg M.lr _ _,mS k kw Vw M.lw,M.nw.filter _,λx q q' h1 h2=>?_,λx q h=>?_,λx q h=>?_,λx q x' q' h1 h2=>?_,λu q h1 v e hx=>?_,M.st.move M.lr M.lw h0 hk,zzU (List.length_filter_le ..) M.cw,λx q h=>?_,λx q h=>M.bd x q (old x q h),jf M.nr _⟩
  ·rw [bA M.lr] at h1;rw [dS k kw Vw x M.lw] at h2;split at h2
   ·cases h2
   ·rename_i z;rw [if_neg z] at h1;exact M.Ji x q q' h1 h2
  ·rw [bA M.lr] at h;split at h
   ·rename_i z;subst z;cases h;exact M.ww k _ h0
   ·exact M.wr x q h
  ·rw [dS k kw Vw x M.lw] at h;split at h
   ·cases h
   ·exact M.ww x q h
  ·rw [bA M.lr] at h1;rw [dS k kw Vw x' M.lw] at h2;split at h2
   ·cases h2
   ·split at h1
    ·cases h1;exact hl x' q' h2
    ·exact M.mono x q x' q' h1 h2
  ·rw [bA M.lr,if_neg (λz=>hx.2 z.symm)] at h1;exact(M.gz u q h1 v e hx.1).move M.lr M.lw h0 hk
  ·rcases M.pre x q (old x q h) with z|⟨y,q',e,z1,z2,z3⟩
   ·exact .inl z
   ·refine .inr ⟨y,q',e,z1,?_,z3⟩;rw [bA M.lr,if_neg (λz=>by rw [<-z,hk] at z2;cases z2)];exact z2
 ·rw [bA M.lr] at h;split at h
  ·cases h;exact Int.le_refl _
  ·exact M.mono x q k q0 h h0
def sV{ks:Ks}{V:Vs}{k:List Int}(g:Gd k){q:Int×PV}(h:aj ks V k=some q):aJ (.bF ks (V.map val)) (kP k)=.ok (val q):=by
 show(Res.of (kI (kP k))).bind (λk=>Res.of (aj ks (V.map val) k))=_
 rw [show kI (kP k)=some k from g];show Res.of (aj ks (V.map val) k)=_
 rw [iE,h]
 rfl
theorem sU{q:Int×PV}:aJ (val q) (.int 0)=.ok (.int q.1):=rfl
def K4{ks:Ks}{vs:List PV}{k:List Int}(g:Gd k):ji (kP k) (.bF ks vs)=.ok (.bl (!cJ ks k)):=by
 show(Res.of (kI (kP k))).bind (λk=>Res.ok (PV.bl (!cJ ks k)))=_
 rw [show kI (kP k)=some k from g]
 rfl
theorem NR{ks:Ks}{vs:List PV}:er .len [.bF ks vs]=.ok (.int ks.length):=rfl
noncomputable abbrev tP(t:List Int×Int):PV:=.tup [kP t.1,.int t.2]
noncomputable def wS:Ss:=#v[.set 8 (.bin .add (.sub (.sub (.gV 2) (!5)) (¬0)) (!7)),.ite (.and (.cmp .uV (!6) (.gV 2)) (.or (.cmp .uV (!6) (.gV 3)) (.cmp .lt (!8) (.sub (.sub (.gV 3) (!6)) (¬0))))) #v[.put 3 (!6) (.tup #v[!8,!5])] .nil]
noncomputable abbrev qW(gn:Str)(ix:List Nat)(cp:List PV)(z:PV)(kr:Ks)(Vr:Vs)(kw:Ks)(Vw:Vs)(s4 s5 s6 s7 s8:Ci.Slot):Sl:=[.val z,.fn gn ix cp,.own (.bF kr (Vr.map val)),.own (.bF kw (Vw.map val)),s4,s5,s6,s7,s8]
def vd(kw:Ks)(Vw:Vs)(v:List Int)(c:Int)(p:PV):bC kw (Vw.map val) v (.tup [.int c,p])=(bC kw Vw v (c,p)).map val:=mU val kw Vw v (c,p)
def LL(F:aU){gn:Str}{ix:List Nat}{cp:List PV}{z:PV}{E:List Int->List Int->Int->Prop}{O:List Int->Prop}{s:List Int}{kr:Ks}{Vr:Vs}{kw:Ks}{Vw:Vs}{X:List Int->List Int->Int->Prop}{n:Nat}{b:Int}(M:pA E O s kr Vr kw Vw X n b)(hG:∀u,O u->Gd u)(hn:n<=30000){u v:List Int}{d e:Int}{p0:PV}(hu:aj kr Vr u=some (d,p0))(hd:∀k q,aj kr Vr k=some q->q.1<=d)(he:E u v e)(h0:0<=e)(hb:d+e<=b)(ho:O v)(s4 s6 s7 s8:Ci.Slot):
 ∃EH Ej Ir Iu Iv,(((Tg.two 6 7).put (tP (v,e)) (qW gn ix cp z kr Vr kw Vw s4 (.val (kP u)) s6 s7 s8)).bind λay=>bw F wS ay)=.ok (.nx (qW gn ix cp z kr Vr EH Ej s4 (.val (kP u)) Ir Iu Iv))/\pA E O s kr Vr EH Ej (λa b c=>X a b c\/a=u/\b=v/\c=e) (n+1) b:=by
 have gv:=hG v ho
 have gi:kI (kP v)=some v:=gv
 have nd:∀{ks:Ks} {vs:List PV},ji (kP v) (.bF ks vs)=.ok (.bl (!cJ ks v)):=K4 gv
 have e1:=sV (hG u (M.wr u _ hu).1) hu
 have l:kw.length<eg:=zzV (zzU M.cw hn) (by decide)
 have g1:=dg (vs:=Vr) v M.lr
 have g2:=dg (vs:=Vw) v M.lw
 cases hv:aj kr Vr v with
 |some q=>
  rw [hv] at g1;have B4:cJ kr v=true:=g1
  refine⟨kw,Vw,.val (kP v),.val (.int e),.val (.int (d+e)),by simp! only [wS,qW,e1,sU,nd,B4],M.keep (Nat.le_succ n) (Int.le_refl _) ?_⟩
  rintro a q' ha b c (hx|⟨rfl,rfl,rfl⟩)
  ·exact M.gz a q' ha b c hx
  ·rw [hu] at ha;cases ha;refine .inl ⟨q,hv,?_⟩;have:=hd _ q hv
   show q.1<=d+c
   omega
 |none=>
  rw [hv] at g1;have B4:cJ kr v=false:=g1
  cases hw:aj kw Vw v with
  |none=>
   rw [hw] at g2;have L8:cJ kw v=false:=g2
   refine⟨_,_,.val (kP v),.val (.int e),.val (.int (d+e)),?_,M.put hu hd he h0 hb ho hv (λq h=>by rw [hw] at h;cases h)⟩;simp! only [wS,qW,e1,sU,nd,B4,L8,gi,l,vd]
  |some q=>
   rw [hw] at g2;have L8:cJ kw v=true:=g2
   have e2:=sV gv hw
   by_cases cm:d+e<q.1
   ·refine⟨_,_,.val (kP v),.val (.int e),.val (.int (d+e)),?_,M.put hu hd he h0 hb ho hv (λq' h=>by rw [hw] at h;cases h;omega)⟩;simp! only [wS,qW,e1,e2,sU,nd,B4,L8,cm,decide_true,gi,l,vd]
   ·refine⟨kw,Vw,.val (kP v),.val (.int e),.val (.int (d+e)),by simp! only [wS,qW,e1,e2,sU,nd,B4,L8,cm,decide_false],M.keep (Nat.le_succ n) (Int.le_refl _) ?_⟩
    rintro a q' ha b c (hx|⟨rfl,rfl,rfl⟩)
    ·exact M.gz a q' ha b c hx
    ·rw [hu] at ha;cases ha;exact .inr ⟨q,hw,by show q.1<=d+c;omega⟩
theorem E2(F:aU){gn:Str}{ix:List Nat}{cp:List PV}{z:PV}{E:List Int->List Int->Int->Prop}{O:List Int->Prop}{s:List Int}{b:Int}(hG:∀u,O u->Gd u)(hE:∀u v e,E u v e->0<=e/\e<=30/\O v){kr:Ks}{Vr:Vs}{u:List Int}{d:Int}{p0:PV}(hu:aj kr Vr u=some (d,p0))(hd:∀k q,aj kr Vr k=some q->q.1<=d)(GG:d+30<=b)(s4:Ci.Slot):
 ∀(T:List (List Int×Int)) (kw:Ks) (Vw:Vs) (X:List Int->List Int->Int->Prop) (n:Nat) (s6 s7 s8:Ci.Slot),(∀t∈T,E u t.1 t.2)->pA E O s kr Vr kw Vw X n b->n+T.length<=30000->∃EH Ej Ir Iu Iv,forL (λx env=>((Tg.two 6 7).put x env).bind λay=>bw F wS ay) (T.map tP) (qW gn ix cp z kr Vr kw Vw s4 (.val (kP u)) s6 s7 s8)=.ok (.nx (qW gn ix cp z kr Vr EH Ej s4 (.val (kP u)) Ir Iu Iv))/\pA E O s kr Vr EH Ej (λa b c=>X a b c\/a=u/\(b,c)∈T) (n+T.length) b
 |[],kw,Vw,X,n,s6,s7,s8,_,M,_=>⟨kw,Vw,s6,s7,s8,rfl,M.keep (zzE _) (Int.le_refl _) (λa q ha b c hx=>M.gz a q ha b c (hx.resolve_right λz=>by cases z.2))⟩
 |t::T,kw,Vw,X,n,s6,s7,s8,hT,M,hn=>by
  have ht:=hT t (zzP ..)
  rw [zzL] at hn;obtain⟨He,Vw1,a6,a7,a8,e1,M1⟩:=LL F (gn:=gn) (ix:=ix) (cp:=cp) (z:=z) M hG (by omega) hu hd ht (hE _ _ _ ht).1 (by have:=(hE _ _ _ ht).2.1;omega) (hE _ _ _ ht).2.2 s4 s6 s7 s8
  obtain⟨kw2,Vw2,b6,b7,b8,e2,M2⟩:=E2 F hG hE hu hd GG s4 T He Vw1 _ (n+1) a6 a7 a8 (λx hx=>hT x (zzI _ hx)) M1 (by omega)
  refine⟨kw2,Vw2,b6,b7,b8,?_,M2.keep (by rw [zzL];omega) (Int.le_refl _) λa q ha b c hx=>M2.gz a q ha b c ?_⟩
  ·rw [zzF,forL,e1,vK];exact e2
  ·rcases hx with hx|⟨h1,h2⟩
   ·exact .inl (.inl hx)
   ·rcases zzm.1 h2 with h2|h2
    ·exact .inl (.inr ⟨h1,by rw [<-h2],by rw [<-h2]⟩)
    ·exact .inr ⟨h1,h2⟩
noncomputable def Ba(U kr:Ks):Nat:=(U.filter λx=>!cJ kr x).length
def CO{U kr:Ks}{k:List Int}(hk:k∈U)(hn:cJ kr k=false):Ba U (bG kr k)<Ba U kr:=by
 have hh:∀x,cJ (bG kr k) x=(cJ kr x||decide (x=k)):=by
  intro x;rw [Bool.eq_iff_iff,zzt,iD,iD,zzN];unfold bG;rw [hn];simp
 unfold Ba;simp! [hh]
 induction U with
 |nil=>cases hk
 |cons y U ih=>
  have mono:(U.filter λx=>!(cJ kr x||decide (x=k))).length<=(U.filter λx=>!cJ kr x).length:=by
   rw [<-List.countP_eq_length_filter,<-List.countP_eq_length_filter];refine List.countP_mono_left λx _ h=>?_
   simp! [Bool.not_or,zza] at h;exact h.1
  rw [zz3,zz3]
  by_cases e:y=k
  ·subst e;simp! [hn,decide_true,Bool.or_true,Bool.not_true,zze,if_false,Bool.not_false,if_true,zzL];omega
  ·have:=ih ((zzm.1 hk).resolve_left λz=>e z.symm)
   simp! [e,decide_false,Bool.or_false];cases cJ kr y<;>simp! [Bool.not_true,Bool.not_false,zze,if_true,if_false,zzL]<;>omega
noncomputable def wC:E:=.cmp .gt (.blt .len #v[.gV 3]) (¬0)
noncomputable def wB:Ss:=#v[.lh 5 3,.d8 2 3 5,.dF (.two 6 7) (.seq (.ip 1 #v[!5])) wS]
def D0(F:aU){gn:Str}{ix:List Nat}{cp:List PV}{z:PV}{as:List Int->List PV}(ED:ix.head?=some 1)(Jk:∀u,en (kP u::cp) ix.tail=.ok (as u)){E:List Int->List Int->Int->Prop}{O:List Int->Prop}{s:List Int}{U:Ks}(hU:∀u,O u->u∈U)(Jj:U.length<=400)(hG:∀u,O u->Gd u)(hE:∀u v e,E u v e->0<=e/\e<=30/\O v)(dh:∀u,O u->∃T:List (List Int×Int),F gn (as u)=.ok (.lst (T.map tP))/\T.length<=60/\∀v e,(v,e)∈T↔E u v e)
 {kr:Ks} {Vr:Vs} {kw:Ks} {Vw:Vs} (M:pA E O s kr Vr kw Vw E (1+60*kr.length) (30*kr.length)) (hc:kr.length+Ba U kr<=U.length) (j2:kw≠[]) (s4 s5 s6 s7 s8:Ci.Slot):
 ∃su JI EH Ej Ol Ir Iu Iv,bw F wB (qW gn ix cp z kr Vr kw Vw s4 s5 s6 s7 s8)=.ok (.nx (qW gn ix cp z su JI EH Ej s4 Ol Ir Iu Iv))/\pA E O s su JI EH Ej E (1+60*su.length) (30*su.length)/\su.length+Ba U su<=U.length/\Ba U su<Ba U kr:=by
 obtain⟨k,q,h1,h2,h3⟩:=wU M.lw M.nw j2
 obtain⟨M1,h4,h5⟩:=M.move h2 h3
 obtain⟨ho,_⟩:=M.ww k q h2
 have hk:cJ kr k=false:=by
  rw [dg (vs:=Vr) k M.lr];cases h:aj kr Vr k with
  |none=>rfl
  |some q'=>exact(M.Ji k q' q h h2).elim
 have hl:(bG kr k).length=kr.length+1:=by unfold bG;rw [hk];simp
 have cm:=CO (hU k ho) hk
 obtain⟨T,e1,hT,hT2⟩:=dh k ho
 obtain⟨d,p0⟩:=q
 obtain⟨kw2,Vw2,b6,b7,b8,e2,M2⟩:=E2 F (gn:=gn) (ix:=ix) (cp:=cp) (z:=z) (b:=30*kr.length+30) hG hE h4 h5 (by have:=(M.bd k (d,p0) (.inr h2)).2;show d+30<=_;omega) s4 T _ _ _ _ s6 s7 s8 (λt ht=>(hT2 t.1 t.2).1 ht) (M1.keep (zzE _) (by omega) M1.gz) (by omega)
 refine⟨_,_,kw2,Vw2,.val (kP k),b6,b7,b8,?_,M2.keep (by omega) (by omega) (λa q ha b c hx=>M2.gz a q ha b c ?_),by omega,cm⟩
 ·have l:kr.length<eg/\2≠3:=⟨zzV (m:=400) (by omega) (by decide),by decide⟩
  have gm:aj kw (Vw.map val) k=some (val (d,p0)):=by rw [iE,h2];rfl
  have gp:bC kr (Vr.map val) k (val (d,p0))=(bC kr Vr k (d,p0)).map val:=mU val kr Vr k (d,p0)
  have ha:=Jk k
  have gk:kI (kP k)=some k:=hG k ho
  simp! only [wS,qW] at e2;simp! only [wB,wS,qW,mM,h1,gk,gm,l,and_self,kO,gp,ED,ha,e1,e2,ne_eq,not_false_eq_true]
 ·by_cases e:a=k
  ·subst e;exact .inr ⟨rfl,(hT2 b c).2 hx⟩
  ·exact .inl ⟨hx,e⟩
theorem uR(F:aU){gn:Str}{ix:List Nat}{cp:List PV}{z:PV}{as:List Int->List PV}(ED:ix.head?=some 1)(Jk:∀u,en (kP u::cp) ix.tail=.ok (as u)){E:List Int->List Int->Int->Prop}{O:List Int->Prop}{s:List Int}{U:Ks}(hU:∀u,O u->u∈U)(Jj:U.length<=400)(hG:∀u,O u->Gd u)(hE:∀u v e,E u v e->0<=e/\e<=30/\O v)(dh:∀u,O u->∃T:List (List Int×Int),F gn (as u)=.ok (.lst (T.map tP))/\T.length<=60/\∀v e,(v,e)∈T↔E u v e)(s4:Ci.Slot):
 ∀(n:Nat) (kr:Ks) (Vr:Vs) (kw:Ks) (Vw:Vs) (s5 s6 s7 s8:Ci.Slot),pA E O s kr Vr kw Vw E (1+60*kr.length) (30*kr.length)->kr.length+Ba U kr<=U.length->Ba U kr<n->∃su JI RQ Ol Ir Iu Iv,c7 (aC F wC) (bw F wB) n (qW gn ix cp z kr Vr kw Vw s4 s5 s6 s7 s8)=.ok (.nx [.val z,.fn gn ix cp,.own (.bF su (JI.map val)),RQ,s4,Ol,Ir,Iu,Iv])/\su.length<=400/\∃m,pA E O s su JI [] [] E m 12000
 |0,_,_,_,_,_,_,_,_,_,_,h=>absurd h (Nat.not_lt_zero _)
 |n+1,kr,Vr,kw,Vw,s5,s6,s7,s8,M,hc,hn=>by
  have ec:aC F wC (qW gn ix cp z kr Vr kw Vw s4 s5 s6 s7 s8)=.ok (.bl (decide ((0:Int)<kw.length))):=by simp! only [wC,qW,NR]
  by_cases hk:kw=[]
  ·subst hk;have hv:Vw=[]:=List.eq_nil_of_length_eq_zero M.lw.symm
   subst hv;refine⟨kr,Vr,.own (.bF [] []),s5,s6,s7,s8,?_,by omega,_,M.keep (zzE _) (by omega) M.gz⟩;have:decide ((0:Int)<(([]:Ks).length:Nat))=false:=rfl
   rw [this] at ec;simp! [c7,ec,vK,Jd,zze,if_false,qW]
   rfl
  ·obtain⟨kr1,Vr1,He,Vw1,t5,t6,t7,t8,e1,M1,hc1,cm⟩:=D0 F (gn:=gn) (z:=z) ED Jk hU Jj hG hE dh M hc hk s4 s5 s6 s7 s8
   obtain⟨kr2,Vr2,u3,u5,u6,u7,u8,e2,h2⟩:=uR F (gn:=gn) (z:=z) ED Jk hU Jj hG hE dh s4 n kr1 Vr1 He Vw1 t5 t6 t7 t8 M1 hc1 (by omega)
   refine⟨kr2,Vr2,u3,u5,u6,u7,u8,?_,h2⟩;have:decide ((0:Int)<(kw.length:Nat))=true:=by
    have:=List.length_pos_iff.2 hk
    simp;omega
   rw [this] at ec;simp! [c7,ec,vK,Jd,if_true,e1,e2]
structure rA(E:List Int->List Int->Int->Prop)(s:List Int)(kr:Ks)(Vr:Vs):Prop where
 len:kr.length=Vr.length
 le:kr.length<=400
 Be:∀k q,aj kr Vr k=some q->Gd k/\xJ E s k q.1
 gz:∀u q,aj kr Vr u=some q->∀v e,E u v e->∃q',aj kr Vr v=some q'/\q'.1<=q.1+e
 st:∃q,aj kr Vr s=some q/\q.1<=0
 pre:∀k q,aj kr Vr k=some q->(q.2=.aM/\k=s/\q.1=0)\/∃y q' e,q.2=kP y/\aj kr Vr y=some q'/\E y k e/\q.1=q'.1+e
 bd:∀k q,aj kr Vr k=some q->0<=q.1/\q.1<=12000
 nr:kr.Nodup
noncomputable def Er(gn:Str)(ix:List Nat):Def:=⟨["starts","steps","reached","waiting","start","spot","other","cost","together"],2,(.cons (.i4 2)
 (.cons (.i4 3)
 (.cons (.dF (.one 4) (.seq (.var 0))
  (.cons (.put 3 (.var 4) (.tup (.cons (.cst (.int 0)) (.cons (.cst .aM) .nil))))
  .nil))
 (.cons (.Bd (.cmp .gt (.blt .len (.cons (.gV 3) .nil)) (.cst (.int 0)))
  (.cons (.lh 5 3)
  (.cons (.d8 2 3 5)
  (.cons (.dF (.two 6 7) (.seq (.ip 1 (.cons (.var 5) .nil)))
   (.cons (.set 8 (.bin .add (.sub (.sub (.gV 2) (.var 5)) (.cst (.int 0))) (.var 7)))
   (.cons (.ite (.and (.cmp .uV (.var 6) (.gV 2)) (.or (.cmp .uV (.var 6) (.gV 3)) (.cmp .lt (.var 8) (.sub (.sub (.gV 3) (.var 6)) (.cst (.int 0))))))
    (.cons (.put 3 (.var 6) (.tup (.cons (.var 8) (.cons (.var 5) .nil))))
    .nil)
    .nil)
   .nil)))
  .nil))))
 (.cons (.bq 2)
 (.cons (.ret (.var 2))
 .nil)))))),some (gn,ix)⟩
def nB(F:aU)(gn:Str){ix:List Nat}{cp:List PV}{as:List Int->List PV}(ED:ix.head?=some 1)(Jk:∀u,en (kP u::cp) ix.tail=.ok (as u)){E:List Int->List Int->Int->Prop}{O:List Int->Prop}{s:List Int}{U:Ks}(hU:∀u,O u->u∈U)(Jj:U.length<=400)(hG:∀u,O u->Gd u)(hE:∀u v e,E u v e->0<=e/\e<=30/\O v)(dh:∀u,O u->∃T:List (List Int×Int),F gn (as u)=.ok (.lst (T.map tP))/\T.length<=60/\∀v e,(v,e)∈T↔E u v e)(hs:O s):
 ∃kr Vr,az F (Er gn ix) (.lst [kP s]::cp)=.ok (.bF kr (Vr.map val))/\rA E s kr Vr:=by
 have g:∀x q,aj [s] [((0:Int),PV.aM)] x=some q->s=x/\q=(0,.aM):=λx q h=>by
  simp! [aj] at h;split at h
  ·rename_i z;cases h;exact⟨z,rfl⟩
  ·cases h
 have M:pA E O s [] [] [s] [(0,.aM)] E (1+60*([]:Ks).length) (30*(([]:Ks).length:Nat)):=⟨rfl,rfl,by simp,(λk q q' h=>by simp [aj] at h),(λk q h=>by simp [aj] at h),(λk q h=>by obtain⟨rfl,rfl⟩:=g k q h;exact⟨hs,.here⟩),(λk q k' q' h=>by simp [aj] at h),(λu q h=>by simp [aj] at h),.inr ⟨(0,.aM),by simp [aj],Int.le_refl _⟩,by simp,(λk q h=>h.elim (λh=>by simp [aj] at h) λh=>by obtain⟨z,rfl⟩:=g k q h;exact .inl ⟨rfl,z.symm,rfl⟩),(λk q h=>h.elim (λh=>by simp [aj] at h) λh=>by obtain⟨_,rfl⟩:=g k q h;exact⟨Int.le_refl _,Int.le_refl _⟩),List.nodup_nil⟩
 have hl:Ba U []<=U.length:=List.length_filter_le ..
 obtain⟨kr,Vr,u3,u5,u6,u7,u8,e,h3,m,M'⟩:=uR F (gn:=gn) (z:=.lst [kP s]) ED Jk hU Jj hG hE dh (.val (kP s)) WN [] [] [s] [(0,.aM)] .no .no .no .no M (by simpa using hl) (zzV (zzU hl Jj) (by decide))
 refine⟨kr,Vr,?_,M'.lr,h3,λk q h=>⟨hG k (M'.wr k q h).1,(M'.wr k q h).2⟩,λu q h v c hx=>?_,?_,?_,?_,?_⟩
 ·have l:(0:Nat)<eg:=by decide
  have gs:kI (kP s)=some s:=hG s hs
  have p1:bG [] s=[s]:=rfl
  have p2:∀p:PV,bC ([]:Ks) [] s p=[p]:=λp=>rfl
  have a2:List.take 1 (PV.lst [kP s]::cp)=[.lst [kP s]]:=rfl
  have a3:List.drop 1 (PV.lst [kP s]::cp)=cp:=rfl
  simp! only [wC,wB,wS,qW] at e;simp! only [Er,a2,a3,forL,gs,l,p1,p2,e,B3];exact if_pos rfl
 ·rcases M'.gz u q h v c hx with h|⟨q',h,_⟩
  ·exact h
  ·simp [aj] at h
 ·rcases M'.st with h|⟨q',h,_⟩
  ·exact h
  ·simp [aj] at h
 ·exact λk q h=>M'.pre k q (.inl h)
 ·exact λk q h=>M'.bd k q (.inl h)
 ·exact M'.nr
def x9{α:Type}(xs:List α)(x:α):pC (xs++[x]) (-1)=some x:=by
 unfold pC CF;have h1:¬(0:Int)<= -1:=by decide
 have h2: -((xs++[x]).length:Int)<= -1:=by simp! [zzM,List.length_singleton];omega
 rw [if_neg h1,if_pos h2];have h3:(-1+((xs++[x]).length:Int)).toNat=xs.length:=by simp! [zzM,List.length_singleton];omega
 rw [h3];simp
theorem IG{q:Int×PV}:aJ (val q) (.int 1)=.ok q.2:=rfl
noncomputable def Jt:E:=.cmp .CD (.sub (.sub (!0) (.sub (.gV 2) (.neg (¬1)))) (¬1)) (.cst .aM)
noncomputable def Mz:Ss:=#v[.app 2 (.sub (.sub (!0) (.sub (.gV 2) (.neg (¬1)))) (¬1))]
def CM(xs:List PV)(x:PV):aJ (.lst (xs++[x])) (.int (-1))=.ok x:=by
 simp! [aJ,x9]
 rfl
def GZ(k:List Int):f9 (kP k) .aM=.ok (.bl true):=by
 unfold kP;split<;>rfl
inductive Ff(E:List Int->List Int->Int->Prop)(s:List Int):List Int->Ks->Int->Prop
 |here:Ff E s s [s] 0
 |go {u v:List Int} {l:Ks} {d e:Int}:Ff E s u l d->E u v e->Ff E s v (v::l) (d+e)
theorem vy(F:aU){E:List Int->List Int->Int->Prop}{s:List Int}{kr:Ks}{Vr:Vs}(R:rA E s kr Vr){mu:List Int->Nat}(hm:∀y k e q q',E y k e->aj kr Vr k=some q->aj kr Vr y=some q'->q.1=q'.1+e->mu y<mu k)(z:PV):∀(n:Nat) (xs:List PV) (y:List Int) (q:Int×PV),aj kr Vr y=some q->mu y<n->xs.length+mu y<=20000->∃l,c7 (aC F Jt) (bw F Mz) n [.val (.bF kr (Vr.map val)),.val z,.own (.lst (xs++[kP y]))]=.ok (.nx [.val (.bF kr (Vr.map val)),.val z,.own (.lst (xs++l.map kP))])/\Ff E s y l q.1
 |0,xs,y,q,h,hn,_=>absurd hn (Nat.not_lt_zero _)
 |n+1,xs,y,q,h,hn,hl=>by
  have e1:=CM xs (kP y)
  have e2:=sV (R.Be y q h).1 h
  have l:(xs++[kP y]).length<eg:=zzV (m:=30000) (by rw [zzM,List.length_singleton];omega) (by decide)
  rcases R.pre y q h with⟨p,rfl,h0⟩|⟨y',q',e,p,h',he,hq⟩
  ·refine⟨[y],?_,by rw [h0];exact .here⟩;have e5:f9 .aM .aM=.ok (.bl false):=rfl
   have ec:aC F Jt [.val (.bF kr (Vr.map val)),.val z,.own (.lst (xs++[kP y]))]=.ok (.bl false):=by simp! only [Jt,e1,e2,IG,p,e5]
   simp! [c7,ec,vK,Jd,zze,if_false]
   rfl
  ·have e5:f9 (kP y') .aM=.ok (.bl true):=GZ y'
   have ec:aC F Jt [.val (.bF kr (Vr.map val)),.val z,.own (.lst (xs++[kP y]))]=.ok (.bl true):=by simp! only [Jt,e1,e2,IG,p,e5]
   have eb:bw F Mz [.val (.bF kr (Vr.map val)),.val z,.own (.lst (xs++[kP y]))]=.ok (.nx [.val (.bF kr (Vr.map val)),.val z,.own (.lst (xs++[kP y]++[kP y']))]):=by simp! only [Mz,e1,e2,IG,p,l]
   have hp:=hm _ _ _ _ _ he h h' hq
   obtain⟨l',e',t⟩:=vy F R hm z n (xs++[kP y]) y' q' h' (by omega) (by rw [zzM,List.length_singleton];omega)
   refine⟨y::l',?_,by rw [hq];exact .go t he⟩;simp! [c7,ec,vK,Jd,if_true,eb,e'];simp
def xB(F:aU){E:List Int->List Int->Int->Prop}{s:List Int}{kr:Ks}{Vr:Vs}(R:rA E s kr Vr){mu:List Int->Nat}(hm:∀y k e q q',E y k e->aj kr Vr k=some q->aj kr Vr y=some q'->q.1=q'.1+e->mu y<mu k){k:List Int}(hk:mu k<=20000){q:Int×PV}(hq:aj kr Vr k=some q):∃l:Ks,az F eW [.bF kr (Vr.map val),kP k]=.ok (.lst (l.map kP))/\Ff E s k l q.1:=by
 obtain⟨l,e,hu⟩:=vy F R hm (kP k) WN [] k q hq (zzV hk (by decide)) (by simp;omega)
 refine⟨l,?_,hu⟩;simp! only [Jt,Mz,List.nil_append] at e;simp! only [eW,e,B3]
def LV(ae:List Str)(u:List Int):Prop:=∃r c,u=[r,c]/\cx ae r c=true
noncomputable def LZ:Ks:=(List.range 6).flatMap λ(r:Nat)=>(List.range 6).map λ(c:Nat)=>[(r:Int),(c:Int)]
def D6:LZ.length=36:=by decide
def Qy{ae:List Str}{w:Nat}(L:Fl ae w){u:List Int}(h:LV ae u):u∈LZ:=by
 obtain⟨r,c,rfl,h⟩:=h
 obtain⟨a,b,d,e⟩:=EL L h
 refine List.mem_flatMap.2 ⟨r.toNat,List.mem_range.2 (by omega),zzx.2 ⟨c.toNat,List.mem_range.2 (by omega),?_⟩⟩;rw [Int.toNat_of_nonneg a,Int.toNat_of_nonneg d]
def bx{ae:List Str}{sl:Bool}{cl pr r c r' c' e:Int}:dM ae sl cl pr r c r' c'=some e↔¬lY r c r' c'/\(r≠r'/\c≠c'->sl=true/\cx ae r c'=true/\cx ae r' c=true)/\c8 ae r' c'-c8 ae r c<=cl/\c8 ae r c-c8 ae r' c'<=cl/\e=(if r≠r'/\c≠c' then 3 else 2)+pr*(if c8 ae r' c'-c8 ae r c>0 then c8 ae r' c'-c8 ae r c else 0):=by
 unfold dM
 by_cases h1:lY r c r' c'
 ·rw [if_pos (show(r=r'/\c=c')\/1<r-r'\/1<r'-r\/1<c-c'\/1<c'-c from h1)];exact⟨(λz=>by cases z),λz=>absurd h1 z.1⟩
 ·have Gy:¬((r=r'/\c=c')\/1<r-r'\/1<r'-r\/1<c-c'\/1<c'-c):=h1
  rw [if_neg Gy]
  by_cases h2:(r≠r'/\c≠c')/\¬(sl=true/\cx ae r c'=true/\cx ae r' c=true)
  ·rw [if_pos h2];exact⟨(λz=>by cases z),λz=>absurd (z.2.1 h2.1) h2.2⟩
  ·rw [if_neg h2];have xK:r≠r'/\c≠c'->sl=true/\cx ae r c'=true/\cx ae r' c=true:=λa=>Classical.byContradiction λb=>h2 ⟨a,b⟩
   by_cases h3:cl<c8 ae r' c'-c8 ae r c\/cl<c8 ae r c-c8 ae r' c'
   ·rw [if_pos h3];exact⟨(λz=>by cases z),λz=>by omega⟩
   ·rw [if_neg h3];refine⟨λz=>⟨h1,xK,by omega,by omega,by cases z;rfl⟩,λz=>by rw [z.2.2.2.2]⟩
def rS{ae:List Str}{sl:Bool}{cl pr:Int}{u v:List Int}{e:Int}(h:E1 ae sl cl pr u v e):∃e',E1 ae sl cl pr v u e':=by
 obtain⟨r,c,r',c',h1,h2,h3,h4,h5⟩:=h
 rw [bx] at h5;refine⟨_,r',c',r,c,h2,h1,h4,h3,bx.2 ⟨?_,λz=>?_,h5.2.2.2.1,h5.2.2.1,rfl⟩⟩
 ·have:=h5.1
  unfold lY at this⊢;omega
 ·obtain⟨a,b,d⟩:=h5.2.1 ⟨λx=>z.1 x.symm,λx=>z.2 x.symm⟩
  exact⟨a,d,b⟩
def ug{ae:List Str}{w:Nat}(L:Fl ae w){sl:Bool}{cl pr:Int}(V:Wk cl pr){u v:List Int}{e:Int}(h:E1 ae sl cl pr u v e):0<e/\e<=30/\LV ae v:=by
 obtain⟨r,c,r',c',h1,h2,h3,h4,h5⟩:=h
 rw [bx] at h5;obtain⟨_,_,_,_,_,l1,l2⟩:=r9 L h3
 obtain⟨_,_,_,_,_,m1,m2⟩:=r9 L h4
 have p0:=V.p0
 have p4:=V.p4
 have e5:=h5.2.2.2.2
 generalize hm:(if c8 ae r' c'-c8 ae r c>0 then c8 ae r' c'-c8 ae r c else 0)=m at e5
 have Nw:0<=m/\m<=9:=by rw [<-hm];split<;>omega
 generalize hf:(if r≠r'/\c≠c' then(3:Int) else 2)=f at e5
 have Sm:2<=f/\f<=3:=by rw [<-hf];split<;>omega
 have a1:=Int.mul_nonneg p0 Nw.1
 have a2:pr*m<=3*9:=Int.mul_le_mul (by omega) Nw.2 Nw.1 (by omega)
 exact⟨by omega,by omega,r',c',h2,h4⟩
def Et(ae:List Str)(sl:Bool)(cl pr:Int)(u v:List Int)(e:Int):Prop:=E1 ae sl cl pr v u e
def pI(f:List PV->Res PV):Prop:=∀ae w,Fl ae w->∀sl cl pr,Wk cl pr->∀r c,cx ae r c=true->∃T:List (List Int×Int),f [fl ae,wk sl cl pr,bZ [r,c]]=.ok (.lst (T.map tK))/\T.length<=9/\∀v e,(v,e)∈T↔Et ae sl cl pr [r,c] v e
def jY(F:aU):Prop:=pI (F "steps_to")
def Ef(f:List PV->Res PV):Prop:=∀ae w,Fl ae w->∀sl cl pr,Wk cl pr->∀r c,cx ae r c=true->∃kr Vr,f [.lst [sp r c],wk sl cl pr,fl ae]=.ok (.bF kr (Vr.map val))/\rA (Et ae sl cl pr) [r,c] kr Vr
def E8(F:aU):Prop:=Ef (F "spread@steps_to")
def sS(F:aU)(hs:nN F)(hc:rH F):pI (az F cy):=by
 intro ae w L sl cl pr V r c h;obtain⟨T,e1,hl,hT⟩:=hs ae w L sl cl pr V r c h
 have key:∀t∈T,∃e,Et ae sl cl pr [r,c] t.1 e/\F "step_cost" [fl ae,wk sl cl pr,bZ t.1,bZ [r,c]]=.ok (.int e):=λt ht=>by
  obtain⟨e',he⟩:=rS ((hT t.1 t.2).1 ht)
  refine⟨e',he,?_⟩;obtain⟨a,b,a',b',g1,g2,g3,g4,g5⟩:=he
  cases g2;have:=hc ae w L sl cl pr V a b r c g3 g4
  rw [g5] at this;rw [g1];exact this
 let cf:List Int->Int:=λv=>match v with
  |[a,b]=>(dM ae sl cl pr a b r c).getD 0
  |_=>0
 have A5:∀v e,Et ae sl cl pr [r,c] v e->cf v=e:=by
  rintro v e ⟨a,b,a',b',rfl,h2,_,_,g⟩
  cases h2;show(dM ae sl cl pr a b r c).getD 0=e
  rw [g]
  rfl
 refine⟨T.map λt=>(t.1,cf t.1),?_,by simpa using hl,λv e=>?_⟩
 ·have l:T.length<eg:=zzV hl (by decide)
  have t0:∀t:List Int×Int,aJ (tK t) (.int 0)=.ok (bZ t.1):=λt=>rfl
  simp! only [cy,e1,zzl,l];rw [df (p:=tK) (g:=λt=>tK (t.1,cf t.1)) (λt ht=>by
   obtain⟨e,he,ee⟩:=key t ht
   simp! only [t0,ee,A5 _ _ he])]
  simp! only [List.map_map]
  rfl
 ·rw [zzx]
  constructor
  ·rintro ⟨t,ht,z⟩
   cases z;obtain⟨e,he,_⟩:=key t ht
   rw [A5 _ _ he];exact he
  ·intro he;obtain⟨e',h'⟩:=rS he
   exact⟨(v,e'),(hT v e').2 h',by rw [A5 _ _ he]⟩
theorem OG{ae:List Str}{sl:Bool}{cl pr:Int}{u:List Int}{T:List (List Int×Int)}(h:∀t∈T,Et ae sl cl pr u t.1 t.2):T.map tK=T.map tP:=List.map_congr_left λt ht=>by
 obtain⟨_,_,_,_,e,_⟩:=h t ht
 show PV.tup [bZ t.1,_]=PV.tup [kP t.1,_]
 rw [e]
 rfl
theorem DT(F:aU)(hs:jY F):Ef (az F bo):=λae w L sl cl pr V r c h=>
 nB F "steps_to" (ix:=[1,2,1,0]) (cp:=[wk sl cl pr,fl ae]) (as:=λu=>[fl ae,wk sl cl pr,kP u]) rfl (λ_=>rfl) (E:=Et ae sl cl pr) (O:=LV ae) (s:=[r,c]) (U:=LZ) (λu hu=>Qy L hu) (zzU (Nat.le_of_eq D6) (by decide)) (λu hu=>by obtain⟨_,_,rfl,_⟩:=hu;rfl) (λu v e he=>⟨Int.le_of_lt (ug L V he).1,(ug L V he).2.1,by obtain⟨a,b,_,_,h1,_,h3,_⟩:=he;exact⟨a,b,h1,h3⟩⟩)
  (λu hu=>by obtain⟨a,b,rfl,ho⟩:=hu;obtain⟨T,e,hl,hT⟩:=hs ae w L sl cl pr V a b ho;exact⟨T,e.trans (congrArg (λx=>Res.ok (PV.lst x)) (OG λt ht=>(hT t.1 t.2).1 ht)),by omega,hT⟩) ⟨r,c,rfl,h⟩
def qX(F:aU)(hn:nK F)(hs:E8 F){ae:List Str}{w:Nat}(L:Fl ae w){sl:Bool}{cl pr:Int}(V:Wk cl pr){r c:Int}(h:cx ae r c=true):∃kr Vr,az F cO [fl ae,wk sl cl pr,.lst [sp r c]]=.ok (.bF kr (Vr.map val))/\rA (Et ae sl cl pr) [r,c] kr Vr:=by
 obtain⟨kr,Vr,e,R⟩:=hs ae w L sl cl pr V r c h
 exact⟨kr,Vr,by simp! only [cO,forL,hn ae L.lZ r c h,iZ,e],R⟩
def oX{E:List Int->List Int->Int->Prop}{s:List Int}{kr:Ks}{Vr:Vs}(R:rA E s kr Vr){k:List Int}{c:Int}(h:xJ E s k c):∃q,aj kr Vr k=some q/\q.1<=c:=by
 induction h with
 |here=>exact R.st
 |go _ he ih=>
  obtain⟨q,h1,h2⟩:=ih
  obtain⟨q',h3,h4⟩:=R.gz _ q h1 _ _ he
  exact⟨q',h3,by omega⟩
noncomputable def cz(ae:List Str)(r c:Int):Option Nat:=if 0<=r/\0<=c then cd ae r.toNat c.toNat else none
def zV{ae:List Str}{r c:Int}:cx ae r c=match cz ae r c with|some x=>x !=35|none=>false:=by
 unfold cz cx zR
 by_cases h0:0<=r
 ·by_cases h1:0<=c
  ·rw [zzh h0,zzh h1,if_pos ⟨h0,h1⟩]
   rfl
  ·rw [zz0 h1,if_neg λz=>h1 z.2,Bool.and_false]
   rfl
 ·rw [zz0 h0,if_neg λz=>h0 z.1]
  rfl
def yS{ae:List Str}{r c:Int}(h:cx ae r c=true):c8 ae r c=match cz ae r c with|some x=>(x:Int)-48|none=>0:=by
 obtain⟨a,b,_⟩:=oN.1 h
 unfold cz;rw [if_pos ⟨a,b⟩]
 rfl
noncomputable def gT(y H W r c:Int):Int×Int:=if y=0 then(r,W-1-c) else if y=1 then(H-1-r,c) else(c,r)
noncomputable def gL(y H W:Int):List Int->List Int
 |[r,c]=>[(gT y H W r c).1,(gT y H W r c).2]
 |l=>l
structure Tw(y H W:Int)(ae aW:List Str):Prop where
 pt:∀r c,cz aW (gT y H W r c).1 (gT y H W r c).2=cz ae r c
def EA(y H W r c:Int):gT y H W (gT y H W r c).1 (gT y H W r c).2=(r,c):=by
 unfold gT
 by_cases h0:y=0
 ·simp! [h0,if_true,Prod.mk.injEq,true_and];omega
 ·by_cases h1:y=1
  ·simp! [h1,if_true,show((1:Int)=0)=False by decide,if_false,Prod.mk.injEq,and_true];omega
  ·simp! [h0,h1,if_false]
theorem Tw.symm{y H W:Int}{ae aW:List Str}(T:Tw y H W ae aW):Tw y H W aW ae:=⟨λr c=>by
 have:=T.pt (gT y H W r c).1 (gT y H W r c).2
 rw [EA] at this;exact this.symm⟩
def Tw.op{y H W:Int}{ae aW:List Str}(T:Tw y H W ae aW)(r c:Int):cx aW (gT y H W r c).1 (gT y H W r c).2=cx ae r c:=by
 rw [zV,zV,T.pt]
def Tw.hg{y H W:Int}{ae aW:List Str}(T:Tw y H W ae aW){r c:Int}(h:cx ae r c=true):c8 aW (gT y H W r c).1 (gT y H W r c).2=c8 ae r c:=by
 rw [yS h,yS (by rw [T.op];exact h),T.pt]
def Tw.e{y H W:Int}{ae aW:List Str}(T:Tw y H W ae aW){sl:Bool}{cl pr:Int}{u v:List Int}{e:Int}(h:E1 ae sl cl pr u v e):E1 aW sl cl pr (gL y H W u) (gL y H W v) e:=by
 obtain⟨r,c,r',c',rfl,rfl,h3,h4,h5⟩:=h
 rw [bx] at h5;obtain⟨a1,a2,a3,a4,a5⟩:=h5
 refine⟨_,_,_,_,rfl,rfl,by rw [T.op];exact h3,by rw [T.op];exact h4,?_⟩;have hd:((gT y H W r c).1≠(gT y H W r' c').1/\(gT y H W r c).2≠(gT y H W r' c').2)↔(r≠r'/\c≠c'):=by
  unfold gT;split
  ·simp! [];omega
  ·split
   ·simp! [];omega
   ·exact And.comm
 rw [bx,T.hg h3,T.hg h4];refine⟨?_,λz=>?_,a3,a4,?_⟩
 ·unfold lY at a1⊢;unfold gT;split
  ·simp! [];omega
  ·split
   ·simp! [];omega
   ·simp! [];omega
 ·obtain⟨b1,b2,b3⟩:=a2 (hd.1 z)
  rw [<-T.op] at b2 b3;refine⟨b1,?_⟩
  clear z hd a5
  unfold gT at b2 b3⊢;split at b2
  ·rename_i q;simp! [q,if_true] at b3⊢;exact⟨b2,b3⟩
  ·rename_i q;split at b2
   ·rename_i q1;simp! [q1,if_true,show((1:Int)=0)=False by decide,if_false] at b3⊢;exact⟨b2,b3⟩
   ·rename_i q1;simp! [q,q1,if_false] at b3⊢;exact⟨b3,b2⟩
 ·rw [a5]
  by_cases hq:r≠r'/\c≠c'
  ·rw [if_pos hq,if_pos (hd.2 hq)]
  ·rw [if_neg hq,if_neg λz=>hq (hd.1 z)]
def yD(y H W r c:Int):gL y H W (gL y H W [r,c])=[r,c]:=by
 show [(gT y H W (gT y H W r c).1 (gT y H W r c).2).1,(gT y H W (gT y H W r c).1 (gT y H W r c).2).2]=_
 rw [EA]
def Py{ae:List Str}{w:Nat}(L:Fl ae w):∃z,aJ (fl ae) (.int 0)=.ok (.str z)/\z.length=w/\z.length<=eg:=by
 have hz:ae[0]?=some (ae[0]'L.ne):=zzg L.ne
 have hm:=zzD hz
 exact⟨_,Ax (j:=0) hz,L.mq _ hm,zzU (L.lZ.2 _ hm) (by decide)⟩
def FH{ae:List Str}(i j:Nat):cz ae i j=cd ae i j:=by
 unfold cz;rw [if_pos ⟨Int.natCast_nonneg _,Int.natCast_nonneg _⟩]
 rfl
def yk{ae:List Str}{w:Nat}(L:Fl ae w){r c:Int}(h:¬(0<=r/\r<ae.length/\0<=c/\c<w)):cz ae r c=none:=by
 unfold cz
 by_cases h0:0<=r/\0<=c
 ·rw [if_pos h0];unfold cd;cases hz:ae[r.toNat]? with
  |none=>rfl
  |some z=>
   have h1:=(zzH.1 hz).1
   have hl:=L.mq _ (zzD hz)
   show z.cps.toList[c.toNat]?=none
   rw [List.getElem?_eq_none_iff,zzd];have:z.cps.size=w:=hl
   omega
 ·rw [if_neg h0]
theorem AU{y:Int}{ae aW:List Str}{w w':Nat}(L:Fl ae w)(L':Fl aW w')(hb:∀r c:Int,(0<=r/\r<ae.length/\0<=c/\c<w)↔(0<=(gT y ae.length w r c).1/\(gT y ae.length w r c).1<aW.length/\0<=(gT y ae.length w r c).2/\(gT y ae.length w r c).2<w'))(hi:∀i j:Nat,i<ae.length->j<w->cd aW (gT y ae.length w i j).1.toNat (gT y ae.length w i j).2.toNat=cd ae i j):Tw y ae.length w ae aW:=⟨λr c=>by
 by_cases h:0<=r/\r<ae.length/\0<=c/\c<w
 ·have h':=(hb r c).1 h
  obtain⟨i,rfl⟩:=zzw h.1
  obtain⟨j,rfl⟩:=zzw h.2.2.1
  rw [FH,<-hi i j (by omega) (by omega)];unfold cz;rw [if_pos ⟨h'.1,h'.2.2.1⟩]
 ·rw [yk L h,yk L' λz=>h ((hb r c).2 z)]⟩
def qV(z:Str):(ft z).length=z.length:=by simp [ft,Str.length]
def yA{ae:List Str}{w:Nat}(L:Fl ae w):Fl ae.reverse w:=⟨⟨by rw [List.length_reverse];exact L.lZ.1,λz hz=>L.lZ.2 z (List.mem_reverse.1 hz)⟩,by rw [List.length_reverse];exact L.ne,L.w1,λz hz=>L.mq z (List.mem_reverse.1 hz),λz hz=>L.dig z (List.mem_reverse.1 hz)⟩
def yz{ae:List Str}{w:Nat}(L:Fl ae w):Fl (ae.map ft) w:=by
 refine⟨⟨by rw [zzl];exact L.lZ.1,λz hz=>?_⟩,by rw [zzl];exact L.ne,L.w1,λz hz=>?_,λz hz x hx=>?_⟩<;>obtain⟨y,hy,rfl⟩:=zzx.1 hz
 ·rw [qV];exact L.lZ.2 y hy
 ·rw [qV];exact L.mq y hy
 ·refine L.dig y hy x ?_
  simpa [ft] using hx
def Sg{ae:List Str}{w:Nat}(L:Fl ae w):Tw 1 ae.length w ae ae.reverse:=by
 refine AU L (yA L) (λr c=>?_) λi j hi hj=>?_
 ·simp! [gT,show((1:Int)=0)=False by decide,if_false,if_true,List.length_reverse];omega
 ·simp! [gT,show((1:Int)=0)=False by decide,if_false,if_true,zz4];unfold cd;have:((ae.length:Int)-1-i).toNat=ae.length-1-i:=by omega
  rw [this,List.getElem?_reverse (by omega)]
  congr 2
  omega
def Sf{ae:List Str}{w:Nat}(L:Fl ae w):Tw 0 ae.length w ae (ae.map ft):=by
 refine AU L (yz L) (λr c=>?_) λi j hi hj=>?_
 ·simp! [gT,if_true,zzl];omega
 ·simp! [gT,if_true,zz4];unfold cd;rw [zzQ];cases hz:ae[i]? with
  |none=>rfl
  |some z=>
   have hl:z.cps.size=w:=L.mq _ (zzD hz)
   have:((w:Int)-1-j).toNat=w-1-j:=by omega
   show(ft z).cps.toList[_]?=z.cps.toList[j]?
   rw [this];show z.cps.toList.reverse[_]?=_
   rw [List.getElem?_reverse (by rw [zzd];omega),zzd]
   congr 1
   omega
noncomputable def kF(ae:List Str)(j:Nat):List Nat:=ae.map λz=>(z.cps.toList[j]?).getD 0
noncomputable def je(ae:List Str)(w:Nat):List Str:=(List.range w).map λj=>⟨(kF ae j).toArray⟩
theorem qk:∀(xs:List Nat) (acc:Array Nat),(xs.map λx=>(⟨#[x]⟩:Str)).foldl (λacc p=>acc++("":Str).cps++p.cps) acc=acc++xs.toArray
 |[],acc=>by simp
 |x::xs,acc=>by
  rw [zzF,List.foldl_cons,qk xs];have:(("":Str)).cps=#[]:=by decide+kernel
  rw [this]
  apply Array.ext'
  simp
def join_one(xs:List Nat):Txt.join "" (xs.map λx=>(⟨#[x]⟩:Str))=⟨xs.toArray⟩:=by
 cases xs with
 |nil=>rfl
 |cons x xs=>
  show(⟨List.foldl _ (#[x]:Array Nat) (xs.map _)⟩:Str)=_
  rw [qk]
  congr 1
  apply Array.ext'
  simp
theorem strs_map{α:Type}(f:α->Str):∀xs:List α,strsOf (xs.map λx=>PV.str (f x))=some (xs.map f)
 |[]=>rfl
 |x::xs=>by simp! [zzF,strsOf,strs_map f xs,Option.map_some]
def n4{ae:List Str}{w:Nat}(L:Fl ae w){j:Nat}(hj:j<w){z:Str}(hz:z∈ae):z.cps.toList[j]?=some ((z.cps.toList[j]?).getD 0):=by
 have hl:z.cps.size=w:=L.mq _ hz
 have:j<z.cps.toList.length:=by rw [zzd];omega
 rw [zzg this]
 rfl
def yy{ae:List Str}{w:Nat}(L:Fl ae w):Fl (je ae w) ae.length:=by
 have w6:w<=6:=by
  have h:=List.getElem_mem L.ne
  rw [<-L.mq _ h];exact L.lZ.2 _ h
 have len:∀j,(⟨(kF ae j).toArray⟩:Str).length=ae.length:=λj=>by simp [Str.length,kF]
 refine⟨⟨by simpa [je] using w6,λz hz=>?_⟩,by simp! [je,zzl,List.length_range];exact L.w1,L.ne,λz hz=>?_,λz hz x hx=>?_⟩<;>obtain⟨j,hj,rfl⟩:=zzx.1 hz
 ·rw [len];exact L.lZ.1
 ·exact len j
 ·obtain⟨y,hy,rfl⟩:=zzx.1 (show x∈kF ae j by simpa using hx)
  exact L.dig y hy _ (zzD (n4 L (List.mem_range.1 hj) hy))
def Sh{ae:List Str}{w:Nat}(L:Fl ae w):Tw 2 ae.length w ae (je ae w):=by
 have g2:∀r c:Int,gT 2 ae.length w r c=(c,r):=λr c=>rfl
 refine AU L (yy L) (λr c=>?_) λi j hi hj=>?_
 ·rw [g2];simp! [je,zzl,List.length_range];omega
 ·rw [g2];simp! [zz4];unfold cd je;rw [zzQ,List.getElem?_range hj];show(kF ae j).toArray.toList[i]?=_
  show(kF ae j)[i]?=_
  unfold kF;rw [zzQ];cases hz:ae[i]? with
  |none=>rfl
  |some z=>exact(n4 L hj (zzD hz)).symm
def xE(F:aU){ae:List Str}{w:Nat}(L:Fl ae w){y:Int}(h0:0<=y)(h3:y<3):∃aW w',az F aD [fl ae,.int y]=.ok (fl aW)/\Fl aW w'/\Tw y ae.length w ae aW:=by
 have l6:ae.length<eg:=zzV L.lZ.1 (by decide)
 have tl:er .tuple [.lst ((ae.map ft).map PV.str)]=.ok (fl (ae.map ft)):=rfl
 obtain rfl|rfl|rfl:y=0\/y=1\/y=2:=by omega
 ·refine⟨_,_,?_,yz L,Sf L⟩;dsimp! only [aD,zzl,l6];rw [df (p:=PV.str) (g:=λz=>PV.str (ft z)) (λz hz=>by
   have hz:z.length<=eg:=zzU (L.lZ.2 z hz) (by decide)
   dsimp! only [hz])]
  dsimp! only [J];show Res.ok (PV.tup _)=Res.ok (PV.tup ((ae.map ft).map PV.str))
  rw [List.map_map]
  rfl
 ·refine⟨_,_,?_,yA L,Sg L⟩;have e1:((1:Int)==0)=false:=by decide
  dsimp! only [aD,e1];show Res.ok (PV.tup (ae.map PV.str).reverse)=Res.ok (PV.tup (ae.reverse.map PV.str))
  rw [List.map_reverse]
 ·refine⟨_,_,?_,yy L,Sh L⟩;have e1:((2:Int)==0)=false:=by decide
  have e2:((2:Int)==1)=false:=by decide
  obtain⟨z0,f1,f2,f3⟩:=Py L
  have w6:z0.length<=6:=by
   rw [f2];have h:=List.getElem_mem L.ne
   rw [<-L.mq _ h];exact L.lZ.2 _ h
  have s6:aR (z0.length:Int)=true:=by
   unfold aR;rw [zza,zzN,zzN];omega
  have rg:fb 0 ((z0.length:Int)).toNat=(List.range w).map λi:Nat=>PV.int (i:Int):=by
   rw [f2];unfold fb;refine List.map_congr_left λi _=>?_
   rw [Int.zero_add]
  have wl:w<eg:=zzV (m:=6) (by omega) (by decide)
  dsimp! only [aD,e1,e2,f1,f3,s6,rg,zzl,List.length_range,wl];rw [df (p:=λi:Nat=>PV.int (i:Int)) (g:=λj:Nat=>PV.str ⟨(kF ae j).toArray⟩) (λj hj=>by
   have hj:=List.mem_range.1 hj
   dsimp! only [zzl,l6];rw [df (p:=PV.str) (g:=λz=>PV.str ⟨#[(z.cps.toList[j]?).getD 0]⟩) (λz hz=>by
    have e:=vj (z:=z) (i:=j) (zzU (L.lZ.2 z hz) (by decide)) (n4 L hj hz)
    dsimp! only [e])]
   have st:=strs_map (λz:Str=>(⟨#[(z.cps.toList[j]?).getD 0]⟩:Str)) ae
   have ln:("":Str).length<=16/\((ae.map λz:Str=>(⟨#[(z.cps.toList[j]?).getD 0]⟩:Str)).map (·.length)).sum+(ae.map λz:Str=>(⟨#[(z.cps.toList[j]?).getD 0]⟩:Str)).length<=eg:=by
    refine⟨by decide+kernel,?_⟩;have h1:∀l:List Str,((l.map λz:Str=>(⟨#[(z.cps.toList[j]?).getD 0]⟩:Str)).map (·.length)).sum=l.length:=λl=>by
     induction l with
     |nil=>rfl
     |cons a l ih=>
      rw [zzF,zzF,List.sum_cons,ih,zzL];show 1+l.length=_
      omega
    rw [h1,zzl];exact zzU (m:=12) (by have:=L.lZ.1;omega) (by decide)
   have jn:Txt.join "" (ae.map λz:Str=>(⟨#[(z.cps.toList[j]?).getD 0]⟩:Str))=⟨(kF ae j).toArray⟩:=by
    rw [<-join_one];unfold kF;rw [List.map_map]
    rfl
   have mj:uU .join [.str "",.lst (ae.map λz:Str=>PV.str ⟨#[(z.cps.toList[j]?).getD 0]⟩)]=.ok (.str ⟨(kF ae j).toArray⟩):=by
    show(Res.of (strsOf _)).bind _=_
    rw [st];show(if _ then _ else _)=_
    rw [if_pos ln,jn]
   dsimp! only [uS,mj])]
  dsimp! only [J];show Res.ok (PV.tup _)=Res.ok (PV.tup ((je ae w).map PV.str))
  unfold je;rw [List.map_map]
  rfl
def DR(F:aU){ae:List Str}{w:Nat}(L:Fl ae w){y:Int}(h0:0<=y)(h3:y<3)(r c:Int):az F aG [fl ae,.int y,sp r c]=.ok (bZ (gL y ae.length w [r,c])):=by
 obtain⟨z0,f1,f2,f3⟩:=Py L
 have QS:(z0.length:Int)=(w:Int):=by rw [f2]
 obtain rfl|rfl|rfl:y=0\/y=1\/y=2:=by omega
 ·simp! only [aG,f1,QS,f3]
  rfl
 ·have e1:((1:Int)==0)=false:=by decide
  simp! only [aG,e1,zzl]
  rfl
 ·have e1:((2:Int)==0)=false:=by decide
  have e2:((2:Int)==1)=false:=by decide
  simp! only [aG,e1,e2]
  rfl
noncomputable def dl:List Int->List Int->List Int
 |[r,c],[r',c']=>[r'-r,c'-c]
 |_,_=>[]
noncomputable def ng:List Int->List Int
 |[a,b]=>[-a, -b]
 |l=>l
noncomputable def tn(d d':List Int):Int:=if d=[]\/d=d' then 0 else 1
inductive Wt(E:List Int->List Int->Int->Prop)(g:List Int):List Int->Int->List Int->Int->Prop
 |here:Wt E g g 0 [] 0
 |go {u v:List Int} {e c n:Int} {d:List Int}:E u v e->Wt E g v c d n->Wt E g u (c+e) (dl u v) (n+tn d (dl u v))
section
variable{E E':List Int->List Int->Int->Prop}{g h u v:List Int}{c n:Int}{d:List Int}
def Wt.Be(w:Wt E g u c d n):xJ (λa b e=>E b a e) g u c:=by
 induction w with
 |here=>exact .here
 |go he _ ih=>exact .go ih he
def IX(w:xJ (λa b e=>E b a e) g u c):∃d n,Wt E g u c d n:=by
 induction w with
 |here=>exact⟨_,_,.here⟩
 |go _ he ih=>obtain⟨d,n,w⟩:=ih;exact⟨_,_,.go he w⟩
def Wt.map{f m:List Int->List Int}(m0:m []=[])(mm:∀a,m (m a)=a)(hE:∀u v e,E u v e->E' (f u) (f v) e/\dl (f u) (f v)=m (dl u v))(w:Wt E g u c d n):Wt E' (f g) (f u) c (m d) n:=by
 induction w with
 |here=>rw [m0];exact .here
 |@go u v e c n d he _ ih=>
  obtain⟨a,b⟩:=hE u v e he
  have:=Wt.go a ih
  have t:tn (m d) (m (dl u v))=tn d (dl u v):=by
   have z:∀x y,m x=m y↔x=y:=λx y=>⟨λh=>by rw [<-mm x,h,mm],λh=>by rw [h]⟩
   unfold tn;have z0:=z d []
   rw [m0] at z0;simp! [z,z0]
  rw [b,t] at this;exact this
noncomputable def xn(d d':List Int):Int:=if d=[]\/d'=[]\/d'=ng d then 0 else 1
def EJ(d:List Int):ng (ng d)=d:=by
 unfold ng;split
 ·rename_i h;split at h
  ·rename_i a b;cases h;simp! [Int.neg_neg]
  ·rename_i h2;exact absurd h (h2 _ _)
 ·rename_i h;split
  ·rename_i a b;exact absurd rfl (h (-a) (-b))
  ·rfl
def Wt.join(hE:∀u v e,E u v e->dl v u=ng (dl u v)/\dl u v≠[]){c1 n1:Int}{d1:List Int}(w:Wt (λa b e=>E b a e) g v c1 d1 n1):∀{c2 n2:Int} {d2:List Int},Wt E h v c2 d2 n2->∃d,Wt E h g (c2+c1) d (n2+n1+xn d1 d2):=by
 induction w with
 |here=>
  intro c2 n2 d2 k;refine⟨d2,?_⟩;have:xn [] d2=0:=if_pos (.inl rfl)
  rw [this,Int.add_zero,Int.add_zero,Int.add_zero];exact k
 |@go v w e c n d he _ ih=>
  intro c2 n2 d2 k;obtain⟨b1,b2⟩:=hE _ _ _ he
  have b3:dl w v=ng (dl v w):=by rw [b1,EJ]
  have b4:dl v w≠[]:=λz=>b2 (by rw [b3,z];rfl)
  obtain⟨d',k'⟩:=ih (Wt.go he k)
  refine⟨d',?_⟩;have t1:tn d2 (dl w v)=xn (dl v w) d2:=by unfold tn xn;simp! [b4,false_or,b3]
  have t2:xn d (dl w v)=tn d (dl v w):=by
   have:dl w v=ng d↔d=dl v w:=⟨λz=>by rw [b1,z,EJ],λz=>by rw [z,b3]⟩
   unfold tn xn;simp! [b2,false_or,this]
  rw [t1,t2] at k';have e1:c2+e+c=c2+(c+e):=by omega
  have e2:n2+xn (dl v w) d2+n+tn d (dl v w)=n2+(n+tn d (dl v w))+xn (dl v w) d2:=by omega
  rw [e1,e2] at k';exact k'
def Wt.back(hE:∀u v e,E u v e->E v u e/\dl v u=ng (dl u v)/\dl u v≠[])(w:Wt E g u c d n):∃d',Wt E u g c d' n:=by
 have w':Wt (λa b e=>E b a e) g u c d n:=w.map (f:=id) (m:=id) rfl (λ_=>rfl) λa b e h=>⟨(hE a b e h).1,rfl⟩
 obtain⟨d',k⟩:=w'.join (λa b e h=>(hE a b e h).2) (h:=u) (.here (g:=u))
 refine⟨d',?_⟩;have:xn d []=0:=if_pos (.inr (.inl rfl))
 rw [this,Int.zero_add,Int.zero_add,Int.add_zero] at k;exact k
end
noncomputable def ix:List Int->Int
 |[a,b]=>if a<0 then(if b<0 then 5 else if b=0 then 0 else 4) else if a=0 then(if b<0 then 2 else 3) else if b<0 then 7 else if b=0 then 1 else 6
 |_=> -1
def Nr(d:List Int):Prop:=∃a b,d=[a,b]/\ -1<=a/\a<=1/\ -1<=b/\b<=1/\¬(a=0/\b=0)
def zM{d:List Int}(h:Nr d):0<=ix d/\ix d<8:=by
 obtain⟨a,b,rfl,_⟩:=h
 simp! [ix];omega
def Ht{d d':List Int}(h:Nr d)(h':Nr d'):ix d=ix d'↔d=d':=by
 refine⟨λe=>?_,λe=>by rw [e]⟩
 obtain⟨a,b,rfl,h1,h2,h3,h4,h5⟩:=h
 obtain⟨a',b',rfl,k1,k2,k3,k4,k5⟩:=h'
 simp! [ix] at e;have:a=a'/\b=b':=by omega
 rw [this.1,this.2]
def BZ{ae:List Str}{sl:Bool}{cl pr:Int}{u v:List Int}{e:Int}(h:E1 ae sl cl pr u v e):Nr (dl u v):=by
 obtain⟨r,c,r',c',rfl,rfl,_,_,h⟩:=h
 have:=(bx.1 h).1
 unfold lY at this;exact⟨r'-r,c'-c,rfl,by omega,by omega,by omega,by omega,by omega⟩
def M3{ae:List Str}{sl:Bool}{cl pr:Int}{u v:List Int}{e:Int}(h:E1 ae sl cl pr u v e):dl v u=ng (dl u v)/\dl u v≠[]:=by
 obtain⟨r,c,r',c',rfl,rfl,_⟩:=h
 refine⟨?_,λz=>by cases z⟩
 show [r-r',c-c']=[-(r'-r), -(c'-c)]
 rw [Int.neg_sub,Int.neg_sub]
def EZ{d d':List Int}(h:d=[]\/Nr d)(h':Nr d'):tn d d'=if ix d= -1\/ix d=ix d' then 0 else 1:=by
 rcases h with rfl|h
 ·rw [if_pos (.inl rfl)];exact if_pos (.inl rfl)
 ·have h1:=(zM h).1
  have h2:d≠[]:=by obtain⟨_,_,rfl,_⟩:=h;exact λz=>by cases z
  have h3:¬ix d= -1:=by omega
  unfold tn;simp! [h2,h3,false_or,Ht h h']
def Eh(E:List Int->List Int->Int->Prop)(D:List Int->Option Int)(u v:List Int)(e:Int):Prop:=∃r c r' c' d x a,u=[r,c,d]/\v=[r',c',ix (dl [r',c'] [r,c])]/\E [r',c'] [r,c] x/\D [r,c]=some a/\D [r',c']=some (x+a)/\e=if d= -1\/d=ix (dl [r',c'] [r,c]) then 0 else 1
noncomputable abbrev cR(kr:Ks)(Vr:Vs)(k:List Int):Option Int:=(aj kr Vr k).map (·.1)
section
variable{E:List Int->List Int->Int->Prop}{D:List Int->Option Int}{gr gc:Int}{kr:Ks}{Vr:Vs}
def AX(hE:∀u v e,E u v e->Nr (dl u v))(h0:D [gr,gc]=some 0){k:List Int}{n:Int}(w:xJ (Eh E D) [gr,gc, -1] k n):∃r c d a,k=[r,c,ix d]/\D [r,c]=some a/\Wt E [gr,gc] [r,c] a d n/\(d=[]\/Nr d):=by
 induction w with
 |here=>exact⟨gr,gc,[],0,rfl,h0,.here,.inl rfl⟩
 |go _ he ih=>
  obtain⟨r,c,d,a,rfl,ha,w,hd⟩:=ih
  obtain⟨r1,c1,r',c',d1,x,a',e1,rfl,he,Mb,hv,rfl⟩:=he
  cases e1;rw [ha] at Mb;cases Mb;have nr:=hE _ _ _ he
  refine⟨r',c',dl [r',c'] [r,c],x+a,rfl,hv,?_,.inr nr⟩;have:=Wt.go he w
  rw [EZ hd nr,Int.add_comm a x] at this;exact this
def dq{k:List Int}{q:Int×PV}(h:aj kr Vr k=some q):cR kr Vr k=some q.1:=by
 unfold cR;rw [h];rfl
def Ea(R:rA (λa b e=>E b a e) [gr,gc] kr Vr)(hE:∀u v e,E u v e->(∃r c r' c',u=[r,c]/\v=[r',c'])/\Nr (dl u v)){u:List Int}{a n:Int}{d:List Int}(w:Wt E [gr,gc] u a d n):cR kr Vr u=some a->(∃r c,u=[r,c]/\(d=[]\/Nr d)/\xJ (Eh E (cR kr Vr)) [gr,gc, -1] [r,c,ix d] n):=by
 induction w with
 |here=>exact λ_=>⟨gr,gc,rfl,.inl rfl,.here⟩
 |@go u v e c n d he w ih=>
  intro ha;obtain⟨⟨r,k,r',k',rfl,rfl⟩,nr⟩:=hE _ _ _ he
  obtain⟨q,hq,lq⟩:=oX R w.Be
  obtain⟨q',hq',lq'⟩:=R.gz _ q hq _ _ he
  rw [dq hq'] at ha;have e1:q'.1=c+e:=zzq ha
  have hv:cR kr Vr [r',k']=some c:=by rw [dq hq,show q.1=c by omega]
  obtain⟨r1,c1,e2,hd,w1⟩:=ih hv
  cases e2;refine⟨r,k,rfl,.inr nr,?_⟩;rw [EZ hd nr];exact .go w1 ⟨r',k',r,k,ix d,e,c,rfl,rfl,he,hv,by rw [dq hq',e1,Int.add_comm],rfl⟩
end
def FV(F:aU)(r c r' c':Int)(h:¬(r=r'/\c=c')):az F aB [sp r c,sp r' c']=.ok (dP (ix [r'-r,c'-c])):=by
 have a:(r'<r/\ix [r'-r,c'-c]=if c'<c then 5 else if c=c' then 0 else 4)\/(r'=r/\ix [r'-r,c'-c]=if c'<c then 2 else 3)\/(r<r'/\ix [r'-r,c'-c]=if c'<c then 7 else if c=c' then 1 else 6):=by
  simp! [ix];omega
 have b:c'<c\/c'=c\/c<c':=by omega
 have k:∀x y:Str,x.length+y.length<=eg->binOp .add (.str x) (.str y)=.ok (.str (x++y)):=λx y h=>if_pos h
 have z:∀{i j:Int},i<j->(i==j)=false/\(j==i)=false/\decide (i<j)=true/\decide (j<i)=false/\¬j<i/\¬j=i/\¬i=j:=λh=>⟨by simp;omega,by simp;omega,by simp;omega,by simp;omega,by omega,by omega,by omega⟩
 have s0:∀i:Int,decide (i<i)=false:=λi=>by simp
 rcases a with⟨a,e⟩|⟨rfl,e⟩|⟨a,e⟩<;>rcases b with b|rfl|b
 ·obtain⟨a1,a2,a3,a4,a5,a6,a7⟩:=z a;obtain⟨b1,b2,b3,b4,b5,b6,b7⟩:=z b
  rw [e,if_pos b];dsimp! only [aB,a1,a2,a3,a4,b1,b2,b3,b4];rfl
 ·obtain⟨a1,a2,a3,a4,a5,a6,a7⟩:=z a
  rw [e,if_neg (Int.lt_irrefl _),if_pos rfl];dsimp! only [aB,a1,a2,a3,a4,s0];rfl
 ·obtain⟨a1,a2,a3,a4,a5,a6,a7⟩:=z a;obtain⟨b1,b2,b3,b4,b5,b6,b7⟩:=z b
  rw [e,if_neg b5,if_neg b7];dsimp! only [aB,a1,a2,a3,a4,b1,b2,b3,b4];rfl
 ·obtain⟨b1,b2,b3,b4,b5,b6,b7⟩:=z b
  rw [e,if_pos b];dsimp! only [aB,s0,b1,b2,b3,b4];rfl
 ·exact absurd ⟨rfl,rfl⟩ h
 ·obtain⟨b1,b2,b3,b4,b5,b6,b7⟩:=z b
  rw [e,if_neg b5];dsimp! only [aB,s0,b1,b2,b3,b4];rfl
 ·obtain⟨a1,a2,a3,a4,a5,a6,a7⟩:=z a;obtain⟨b1,b2,b3,b4,b5,b6,b7⟩:=z b
  rw [e,if_pos b];dsimp! only [aB,a1,a2,a3,a4,b1,b2,b3,b4];rfl
 ·obtain⟨a1,a2,a3,a4,a5,a6,a7⟩:=z a
  rw [e,if_neg (Int.lt_irrefl _),if_pos rfl];dsimp! only [aB,a1,a2,a3,a4,s0];rfl
 ·obtain⟨a1,a2,a3,a4,a5,a6,a7⟩:=z a;obtain⟨b1,b2,b3,b4,b5,b6,b7⟩:=z b
  rw [e,if_neg b5,if_neg b7];dsimp! only [aB,a1,a2,a3,a4,b1,b2,b3,b4];rfl
noncomputable def Mk:Ss:=#v[.ite (.cmp .eq (.sub (.sub (!2) (!5)) (¬0)) (.bin .add (!6) (.sub (.sub (!2) (!3)) (¬0)))) #v[.app 4 (!5)] .nil]
section
variable{ae:List Str}{w:Nat}{sl:Bool}{cl pr:Int}{kr:Ks}{Vr:Vs}{G:List Int}
def J8{u v:List Int}{e:Int}(h:Et ae sl cl pr u v e):Gd v/\kP v=bZ v/\LV ae v:=by
 obtain⟨r,c,_,_,rfl,_,h,_⟩:=h
 exact⟨rfl,rfl,r,c,rfl,h⟩
def vI(F:aU)(hs:jY F)(L:Fl ae w)(V:Wk cl pr)(R:rA (Et ae sl cl pr) G kr Vr){r c a:Int}(ho:cx ae r c=true)(ha:cR kr Vr [r,c]=some a):
 ∃B:Ks,az F bR [fl ae,wk sl cl pr,.bF kr (Vr.map val),sp r c]=.ok (.lst (B.map bZ))/\B.length<=9/\∀v,v∈B↔∃x,Et ae sl cl pr [r,c] v x/\cR kr Vr v=some (x+a):=by
 obtain⟨T,e1,hl,hT⟩:=hs ae w L sl cl pr V r c ho
 have k:bZ [r,c]=sp r c:=rfl
 rw [k] at e1;obtain⟨q,hq,hqa⟩:=zzJ.1 ha
 have e2:aJ (.bF kr (Vr.map val)) (sp r c)=.ok (val q):=sV (k:=[r,c]) rfl hq
 obtain⟨s',e⟩:=eX (body:=λx env=>((Tg.two 5 6).put x env).bind λay=>bw F Mk ay) (g:=tK) (mk:=λacc (s:Ci.Slot×Ci.Slot)=>[.val (fl ae),.val (wk sl cl pr),.val (.bF kr (Vr.map val)),.val (sp r c),.own (.lst acc),s.1,s.2])
  (app:=λt:List Int×Int=>if cR kr Vr t.1=some (t.2+a) then [bZ t.1] else []) (m:=1) (M:=50) T [] (.no,.no) (λt _=>by split<;>simp) (λt ht acc s hl=>by
   have l:acc.length<eg:=zzV (m:=50) (by omega) (by decide)
   have he:=(hT t.1 t.2).1 ht
   obtain⟨g1,g2,_⟩:=J8 he
   obtain⟨q',hq',_⟩:=R.gz _ q hq _ _ he
   have e3:=sV g1 hq'
   rw [g2] at e3;refine⟨(.val (bZ t.1),.val (.int t.2)),?_⟩;rw [dq hq',<-hqa]
   by_cases z:q'.1=t.2+q.1
   ·rw [if_pos (by rw [z])];have z':(q'.1==t.2+q.1)=true:=zzy.2 z
    simp! only [Mk,e2,e3,sU,z',l]
   ·rw [if_neg λy=>z (zzq y)]
    have z':(q'.1==t.2+q.1)=false:=by simpa using z
    simp! only [Mk,e2,e3,sU,z',zz6]) (by show 0+1*_<=50;omega)
 simp! only [Mk] at e;refine⟨T.flatMap λt=>if cR kr Vr t.1=some (t.2+a) then [t.1] else [],?_,?_,λv=>?_⟩
 ·simp! only [bR,e1,e,B3,List.map_flatMap]
  congr 3
  funext t
  split<;>rfl
 ·have:∀T:List (List Int×Int),(T.flatMap λt=>if cR kr Vr t.1=some (t.2+a) then [t.1] else []).length<=T.length:=λT=>by
   induction T with
   |nil=>exact zzE _
   |cons t T ih=>
    rw [List.flatMap_cons,zzM,zzL];have:(if cR kr Vr t.1=some (t.2+a) then [t.1] else []).length<=1:=by split<;>simp
    omega
  exact zzU (this T) hl
 ·rw [List.mem_flatMap]
  constructor
  ·rintro ⟨t,ht,h⟩
   split at h
   ·rename_i z;cases zzi.1 h;exact⟨t.2,(hT t.1 t.2).1 ht,z⟩
   ·cases h
  ·rintro ⟨x,hx,h⟩
   exact⟨(v,x),(hT v x).2 hx,by rw [if_pos h];exact zzi.2 rfl⟩
end
noncomputable def Nj:Ss:=#v[.set 6 (.call "direction_of" #v[!5,.sub (!3) (¬0)]),.set 7 (.ite (.or (.cmp .is (.sub (!3) (¬1)) (.cst .aM)) (.cmp .eq (.sub (!3) (¬1)) (!6))) (¬0) (¬1)),.app 4 (.tup #v[.tup #v[!5,!6],!7])]
def Jy(F:aU):Prop:=∀r c r' c',¬(r=r'/\c=c')->F "direction_of" [sp r c,sp r' c']=.ok (dP (ix [r'-r,c'-c]))
def yl{d:Int}(h:0<=d/\d<8):∃z,dP d=.str z/\∀d',0<=d'/\d'<8->g9 (dP d) (dP d')=.ok (.bl (decide (d=d'))):=by
 have key:∀a b:Fin 8,(rj[a.1]'a.2==rj[b.1]'b.2)=decide (a=b):=by decide+kernel
 have s:∀a:Fin 8,dP (a.1:Int)=.str (rj[a.1]'a.2):=by
  intro a;unfold dP;rw [if_neg (by omega),if_neg (by omega),zz4,zzg a.2]
 obtain⟨n,rfl⟩:=zzw h.1
 have s1:=s ⟨n,by omega⟩
 refine⟨_,s1,λd' h'=>?_⟩
 obtain⟨m,rfl⟩:=zzw h'.1
 rw [s1,s ⟨m,by omega⟩];show Res.ok (PV.bl (_==_))=_
 rw [key ⟨n,by omega⟩ ⟨m,by omega⟩]
 congr 2
 rw [Bool.eq_iff_iff,zzN,zzN,Fin.mk.injEq];omega
noncomputable def Tm(d d':Int):Int:=if d= -1\/d=d' then 0 else 1
def B5{r c d:Int}(h:d= -1\/0<=d/\d<8):Gd [r,c,d]:=by
 rcases h with rfl|h
 ·rfl
 ·have key:∀a:Fin 8,(if rj[a.1]'a.2∈rj then some ((rj.idxOf (rj[a.1]'a.2):Nat):Int) else none)=some (a.1:Int):=by decide+kernel
  have s:∀a:Fin 8,dP (a.1:Int)=.str (rj[a.1]'a.2):=by
   intro a;unfold dP;rw [if_neg (by omega),if_neg (by omega),zz4,zzg a.2]
  obtain⟨n,rfl⟩:=zzw h.1
  show(dI (dP (n:Int))).map (λd=>[r,c,d])=_
  rw [s ⟨n,by omega⟩];show(if _ then _ else _:Option Int).map (λd=>[r,c,d])=_
  rw [key ⟨n,by omega⟩]
  rfl
section
variable{ae:List Str}{sl:Bool}{cl pr:Int}{kr:Ks}{Vr:Vs}
def yQ(F:aU)(hd:Jy F)(hb:∀r c a,cx ae r c=true->cR kr Vr [r,c]=some a->∃B:Ks,F "least_before" [fl ae,wk sl cl pr,.bF kr (Vr.map val),sp r c]=.ok (.lst (B.map bZ))/\B.length<=9/\∀v,v∈B↔∃x,Et ae sl cl pr [r,c] v x/\cR kr Vr v=some (x+a))
 {r c d a:Int} (ho:cx ae r c=true) (ha:cR kr Vr [r,c]=some a) (h8:d= -1\/0<=d/\d<8):
 ∃T:List (List Int×Int),az F bt [fl ae,wk sl cl pr,.bF kr (Vr.map val),kP [r,c,d]]=.ok (.lst (T.map tP))/\T.length<=60/\∀v e,(v,e)∈T↔Eh (E1 ae sl cl pr) (cR kr Vr) [r,c,d] v e:=by
 obtain⟨B,e1,hl,hB⟩:=hb r c a ho ha
 have k0:aJ (kP [r,c,d]) (.int 0)=.ok (sp r c):=rfl
 have k1:aJ (kP [r,c,d]) (.int 1)=.ok (dP d):=rfl
 have i0:oM (dP d) .aM=.ok (.bl (decide (d= -1))):=by
  rcases h8 with rfl|h8
  ·rfl
  ·obtain⟨z,hz,_⟩:=yl h8
   rw [hz,zz0 (by omega)]
   rfl
 let hk:List Int->List Int×Int:=λv=>(v++[ix (dl v [r,c])],Tm d (ix (dl v [r,c])))
 obtain⟨s',e⟩:=eX (body:=λx env=>((Tg.one 5).put x env).bind λay=>bw F Nj ay) (g:=bZ) (mk:=λacc (s:Ci.Slot×Ci.Slot×Ci.Slot)=>[.val (fl ae),.val (wk sl cl pr),.val (.bF kr (Vr.map val)),.val (kP [r,c,d]),.own (.lst acc),s.1,s.2.1,s.2.2])
  (app:=λv=>[tP (hk v)]) (m:=1) (M:=50) B [] (.no,.no,.no) (λt _=>zzE _) (λv hv acc s hl=>by
   have l:acc.length<eg:=zzV (m:=50) (by omega) (by decide)
   obtain⟨x,he,_⟩:=(hB v).1 hv
   have nr:=BZ he
   obtain⟨r',c',_,_,rfl,z,_,_,dh⟩:=he
   cases z;have ne:¬(r'=r/\c'=c):=by
    have:=(bx.1 dh).1
    unfold lY at this;omega
   have e2:=hd r' c' r c ne
   have n8:0<=ix [r-r',c-c']/\ix [r-r',c-c']<8:=zM nr
   have k2:bZ [r',c']=sp r' c':=rfl
   refine⟨(.val (bZ [r',c']),.val (dP (ix [r-r',c-c'])),.val (.int (Tm d (ix [r-r',c-c'])))),?_⟩;have eo:(if decide (d= -1) then Res.ok (PV.bl true) else g9 (dP d) (dP (ix [r-r',c-c'])))=.ok (.bl (decide (d= -1\/d=ix [r-r',c-c']))):=by
    rcases h8 with rfl|h8
    ·rfl
    ·rw [zz0 (show¬d= -1 by omega),if_neg (by decide)];obtain⟨_,_,hz⟩:=yl h8
     rw [hz _ n8]
     congr 2
     simp! [show¬d= -1 by omega,false_or]
   have et:(if decide (d= -1\/d=ix [r-r',c-c']) then Res.ok (PV.int 0) else Res.ok (PV.int 1))=.ok (.int (Tm d (ix [r-r',c-c']))):=by
    unfold Tm
    by_cases y:d= -1\/d=ix [r-r',c-c']
    ·rw [if_pos (zzh y),if_pos y]
    ·rw [if_neg (by rw [zz0 y];exact zzf),if_neg y]
   simp! only [Nj,k0,k1,k2,e2,i0,eo,et,l]
   rfl) (by show 0+1*_<=50;omega)
 simp! only [Nj] at e;refine⟨B.map hk,?_,by rw [zzl];omega,λv e'=>?_⟩
 ·simp! only [bt,k0,e1,e,B3];rw [List.map_map];have fs:∀B:Ks,B.flatMap (λv=>[tP (hk v)])=B.map (tP∘hk):=λB=>by
   induction B with
   |nil=>rfl
   |cons v B ih=>rw [List.flatMap_cons,ih];rfl
  rw [fs]
 ·rw [zzx]
  constructor
  ·rintro ⟨u,hu,z⟩
   obtain⟨x,he,hx⟩:=(hB u).1 hu
   obtain⟨r',c',_,_,rfl,z2,h1,h2,h3⟩:=id he
   cases z2;cases z;exact⟨r,c,r',c',d,x,a,rfl,rfl,he,ha,hx,rfl⟩
  ·rintro ⟨r1,c1,r',c',d1,x,a1,z1,rfl,he,ha1,hx,rfl⟩
   cases z1;rw [ha] at ha1;cases ha1;exact⟨[r',c'],(hB _).2 ⟨x,he,hx⟩,rfl⟩
end
def OO(F:aU)(ae:List Str)(sl:Bool)(cl pr:Int)(kr:Ks)(Vr:Vs):Prop:=∀r c a d,cx ae r c=true->cR kr Vr [r,c]=some a->d= -1\/0<=d/\d<8->∃T:List (List Int×Int),F "headings_before" [fl ae,wk sl cl pr,.bF kr (Vr.map val),kP [r,c,d]]=.ok (.lst (T.map tP))/\T.length<=60/\∀v e,(v,e)∈T↔Eh (E1 ae sl cl pr) (cR kr Vr) [r,c,d] v e
def Oh(ae:List Str)(kr:Ks)(Vr:Vs)(u:List Int):Prop:=∃r c d a,u=[r,c,d]/\cx ae r c=true/\cR kr Vr [r,c]=some a/\(d= -1\/0<=d/\d<8)
noncomputable def U9:Ks:=LZ.flatMap λu=>[u++[-1],u++[0],u++[1],u++[2],u++[3],u++[4],u++[5],u++[6],u++[7]]
section
variable{ae:List Str}{w:Nat}{sl:Bool}{cl pr:Int}{kr:Ks}{Vr:Vs}{gr gc:Int}
def N8(L:Fl ae w){u:List Int}(h:Oh ae kr Vr u):u∈U9:=by
 obtain⟨r,c,d,a,rfl,ho,_,hd⟩:=h
 refine List.mem_flatMap.2 ⟨[r,c],Qy L ⟨r,c,rfl,ho⟩,?_⟩;have:d= -1\/d=0\/d=1\/d=2\/d=3\/d=4\/d=5\/d=6\/d=7:=by omega
 rcases this with rfl|rfl|rfl|rfl|rfl|rfl|rfl|rfl|rfl<;>simp
def J7{u v:List Int}{e:Int}(h:Eh (E1 ae sl cl pr) (cR kr Vr) u v e):0<=e/\e<=30/\Oh ae kr Vr v:=by
 obtain⟨r,c,r',c',d,x,a,rfl,rfl,he,ha,hx,rfl⟩:=h
 have n8:=zM (BZ he)
 obtain⟨_,_,_,_,z1,z2,h1,_⟩:=id he
 cases z1;refine⟨?_,?_,r',c',_,_,rfl,h1,hx,.inr n8⟩<;>split<;>decide
theorem DS(F:aU)(L:Fl ae w)(hb:OO F ae sl cl pr kr Vr)(ho:cx ae gr gc=true){a:Int}(ha:cR kr Vr [gr,gc]=some a):
 ∃kh Vh,az F aE [.lst [kP [gr,gc, -1]],wk sl cl pr,.bF kr (Vr.map val),fl ae]=.ok (.bF kh (Vh.map val))/\rA (Eh (E1 ae sl cl pr) (cR kr Vr)) [gr,gc, -1] kh Vh:=
 nB F "headings_before" (ix:=[1,3,1,2,0]) (cp:=[wk sl cl pr,.bF kr (Vr.map val),fl ae]) (as:=λu=>[fl ae,wk sl cl pr,.bF kr (Vr.map val),kP u]) rfl (λ_=>rfl) (O:=Oh ae kr Vr) (U:=U9) (λu hu=>N8 L hu) (by decide+kernel) (λu hu=>by obtain⟨r,c,d,_,rfl,_,_,h⟩:=hu;exact B5 h) (λu v e he=>J7 he)
  (λu hu=>by obtain⟨r,c,d,a,rfl,ho,ha,h⟩:=hu;exact hb r c a d ho ha h) ⟨gr,gc, -1,a,rfl,ho,ha,.inl rfl⟩
theorem uM:∀{L:Ks},(∀k∈L,Gd k)->qA (L.map kP)=some L
 |[],_=>rfl
 |k::L,h=>by
  rw [zzF,qA,show kI (kP k)=some k from h k (zzP ..),Option.bind_some,uM λx hx=>h x (zzI _ hx)]
  rfl
noncomputable def cst(kh:Ks)(Vh:Vs)(k:List Int):Int:=(cR kh Vh k).getD 0
theorem yi{kh:Ks}{Vh:Vs}:∀{L:Ks},(∀k∈L,∃q,aj kh Vh k=some q)->Br true kh (Vh.map val) L=some (L.map (cst kh Vh))
 |[],_=>rfl
 |k::L,h=>by
  obtain⟨q,hq⟩:=h k (zzP ..)
  have e:cst kh Vh k=q.1:=by unfold cst;rw [dq hq];rfl
  rw [Br,iE,hq,yi λx hx=>h x (zzI _ hx),zzF,e]
  rfl
def zD{kh:Ks}{Vh:Vs}{L:Ks}(hg:∀k∈L,Gd k)(hv:∀k∈L,∃q,aj kh Vh k=some q)(j2:L≠[]):∃k∈L,nj true (some (.val (.bF kh (Vh.map val)))) (.lst (L.map kP))=.ok (kP k)/\∀k'∈L,cst kh Vh k<=cst kh Vh k':=by
 obtain⟨i,y,h1,h2,h3⟩:=tR (cs:=L.map (cst kh Vh)) (by simpa using j2)
 rw [zzQ,zzJ] at h2;obtain⟨k,hk,rfl⟩:=h2
 refine⟨k,zzD hk,?_,λk' h'=>h3 _ (zzx.2 ⟨k',h',rfl⟩)⟩
 unfold nj;dsimp only;rw [uM hg,Option.bind_some,yi hv,Option.bind_some,h1,Option.bind_some,hk]
theorem pU{α:Type}{f:PV->Res (Option PV)}{p:α->PV}{t:α->Bool}{g:α->PV}:∀{xs:List α},(∀x∈xs,f (p x)=.ok (if t x then some (g x) else none))->bb f (xs.map p)=.ok ((xs.filter t).map g)
 |[],_=>rfl
 |x::xs,h=>by
  have ih:=pU (xs:=xs) λy hy=>h y (zzI _ hy)
  have hx:=h x (zzP ..)
  rw [zzF,bb,hx,zz3];cases hp:t x with
  |true=>simp! [Res.well,Res.bind,ih,if_true,oc,zzF]
  |false=>simp! [Res.well,Res.bind,ih,if_false,oc,zze]
def pJ(E:List Int->List Int->Int->Prop)(s g:List Int)(p:PV):Prop:=(p=.aM/\∀c d n,¬Wt E g s c d n)\/∃(D N:Int) (W:PV),p=.tup [.int D,.int N,W]/\(∃d,Wt E g s D d N)/\∀c d n,Wt E g s c d n->D<c\/D=c/\N<=n
def Bl(f:List PV->Res PV):Prop:=∀ae w,Fl ae w->∀sl cl pr,Wk cl pr->∀r c r' c',cx ae r c=true->cx ae r' c'=true->∃p,f [fl ae,wk sl cl pr,sp r c,sp r' c']=.ok p/\pJ (E1 ae sl cl pr) [r,c] [r',c'] p
def JH(F:aU):Prop:=∀ae w,Fl ae w->∀sl cl pr,Wk cl pr->∀r c,cx ae r c=true->∃kr Vr,F "spread_to" [fl ae,wk sl cl pr,.lst [sp r c]]=.ok (.bF kr (Vr.map val))/\rA (Et ae sl cl pr) [r,c] kr Vr
def xX(F:aU):Prop:=∀ae w,Fl ae w->∀sl cl pr,Wk cl pr->∀kr Vr gr gc a,rA (Et ae sl cl pr) [gr,gc] kr Vr->cx ae gr gc=true->cR kr Vr [gr,gc]=some a->∃kh Vh,F "spread@headings_before" [.lst [kP [gr,gc, -1]],wk sl cl pr,.bF kr (Vr.map val),fl ae]=.ok (.bF kh (Vh.map val))/\rA (Eh (E1 ae sl cl pr) (cR kr Vr)) [gr,gc, -1] kh Vh
def Ei(F:aU):Prop:=∀{E:List Int->List Int->Int->Prop} {s:List Int} {kr:Ks} {Vr:Vs},rA E s kr Vr->∀{mu:List Int->Nat},(∀y k e q q',E y k e->aj kr Vr k=some q->aj kr Vr y=some q'->q.1=q'.1+e->mu y<mu k)->∀{k:List Int},mu k<=20000->∀{q:Int×PV},aj kr Vr k=some q->∃l:Ks,F "traced" [.bF kr (Vr.map val),kP k]=.ok (.lst (l.map kP))/\Ff E s k l q.1
def Kw{D:List Int->Option Int}{E:List Int->List Int->Int->Prop}{s k:List Int}(hs:∃a b x,s=[a,b,x])(w:∃n,xJ (Eh E D) s k n):∃a b x,k=[a,b,x]:=by
 obtain⟨n,w⟩:=w
 cases w with
 |here=>exact hs
 |go _ h=>obtain⟨_,_,r',c',_,_,_,_,rfl,_⟩:=h;exact⟨_,_,_,rfl⟩
def du{kh:Ks}{Vh:Vs}(h:kh.length=Vh.length){k:List Int}:k∈kh↔∃q,aj kh Vh k=some q:=by
 rw [<-iD,dg (vs:=Vh) k h,zzp]
noncomputable def mu(kr:Ks)(Vr:Vs):List Int->Nat
 |[r,c,_]=>((cR kr Vr [r,c]).getD 0).toNat
 |_=>0
def ym(R:rA (Et ae sl cl pr) [gr,gc] kr Vr):cR kr Vr [gr,gc]=some 0:=by
 obtain⟨q,hq,h⟩:=R.st
 have:=(R.bd _ q hq).1
 rw [dq hq,show q.1=0 by omega]
def IF(F:aU)(hn:nK F)(ht:JH F)(hh:xX F)(hc:Ei F):Bl (az F bO):=by
 intro ae w L sl cl pr V r c r' c' ho eC;obtain⟨kr,Vr,e1,R⟩:=ht ae w L sl cl pr V r' c' eC
 have n1:=hn ae L.lZ r c ho
 have g1:=dg (vs:=Vr) [r,c] R.len
 have gd:Gd [r,c]:=rfl
 have k:sp r c=kP [r,c]:=rfl
 have nd:=K4 (vs:=Vr.map val) (ks:=kr) gd
 rw [<-k] at nd;have R':rA (λa b e=>E1 ae sl cl pr b a e) [r',c'] kr Vr:=R
 cases hq:aj kr Vr [r,c] with
 |none=>
  rw [hq] at g1;have B4:cJ kr [r,c]=false:=g1
  refine⟨.aM,by simp! only [bO,n1,e1,nd,B4],.inl ⟨rfl,λx d n z=>?_⟩⟩
  obtain⟨q,h1,_⟩:=oX R' z.Be
  rw [hq] at h1;cases h1
 |some q=>
  rw [hq] at g1;have B4:cJ kr [r,c]=true:=g1
  have ha:=dq hq
  have ee:∀u v e,E1 ae sl cl pr u v e->(∃r c r' c',u=[r,c]/\v=[r',c'])/\Nr (dl u v):=λu v e h=>⟨by obtain⟨a,b,a',b',h1,h2,_⟩:=h;exact⟨a,b,a',b',h1,h2⟩,BZ h⟩
  obtain⟨kh,Vh,e2,H⟩:=hh ae w L sl cl pr V kr Vr r' c' 0 R eC (ym R)
  have k2:PV.tup [sp r' c',.aM]=kP [r',c', -1]:=rfl
  have k3:∀k∈kh,∃a b x,k=[a,b,x]:=λk hk=>by
   obtain⟨p,hp⟩:=(du H.len).1 hk
   exact Kw ⟨_,_,_,rfl⟩ ⟨_,(H.Be k p hp).2⟩
  have P6:∀{n:Int} {d:List Int},Wt (E1 ae sl cl pr) [r',c'] [r,c] q.1 d n->∃p,aj kh Vh [r,c,ix d]=some p/\p.1<=n:=λw=>by
   obtain⟨a,b,z,_,w2⟩:=Ea R' ee w ha
   cases z;exact oX H w2
  have hL:∀k,k∈kh.filter (λk=>decide (k.take 2=[r,c]))↔k∈kh/\∃x,k=[r,c,x]:=λk=>by
   rw [List.mem_filter,zzN];refine⟨λz=>⟨z.1,?_⟩,λz=>⟨z.1,?_⟩⟩
   ·obtain⟨a,b,x,rfl⟩:=k3 k z.1
    have:=z.2
    simp! [List.take_succ_cons,List.take_zero,List.cons.injEq,and_true] at this;rw [this.1,this.2];exact⟨x,rfl⟩
   ·obtain⟨x,rfl⟩:=z.2
    rfl
  have ne:kh.filter (λk=>decide (k.take 2=[r,c]))≠[]:=by
   obtain⟨d,n,w⟩:=IX (E:=E1 ae sl cl pr) (R'.Be _ q hq).2
   obtain⟨p,hp,_⟩:=P6 w
   exact List.ne_nil_of_mem ((hL _).2 ⟨(du H.len).2 ⟨p,hp⟩,_,rfl⟩)
  obtain⟨kk,hk,e3,hmin⟩:=zD (kh:=kh) (Vh:=Vh) (λk hk=>by obtain⟨p,hp⟩:=(du H.len).1 ((hL k).1 hk).1;exact(H.Be k p hp).1) (λk hk=>(du H.len).1 ((hL k).1 hk).1) ne
  obtain⟨hk1,x,rfl⟩:=(hL kk).1 hk
  obtain⟨p,hp⟩:=(du H.len).1 hk1
  have lk:∀{l:Nat},l<=400->l<eg:=λh=>zzV h (by decide)
  have cc:bb (λx=>((Tg.one 0).put x [.no,.val (sp r c)]).bind λay=>(aC F (.cmp .eq (.sub (.var 0) (.cst (.int 0))) (.var 1)) ay).bind λt=>pB t λt=>if t then(aC F (.var 0) ay).bind λy=>.ok (some y) else .ok none) (kh.map kP)=.ok ((kh.filter λk=>decide (k.take 2=[r,c])).map kP):=by
   have f2:∀k∈kh,(λx=>((Tg.one 0).put x [.no,.val (sp r c)]).bind λay=>(aC F (.cmp .eq (.sub (.var 0) (.cst (.int 0))) (.var 1)) ay).bind λt=>pB t λt=>if t then(aC F (.var 0) ay).bind λy=>.ok (some y) else .ok none) (kP k)=.ok (if decide (k.take 2=[r,c]) then some (kP k) else none):=λk hk=>by
    obtain⟨a,b,x,rfl⟩:=k3 k hk
    have k0:aJ (kP [a,b,x]) (.int 0)=.ok (sp a b):=rfl
    have z:((a==r)&&((b==c)&&true))=decide (List.take 2 [a,b,x]=[r,c]):=by
     rw [Bool.eq_iff_iff,zzN];simp
    dsimp! only [k0,z];split<;>rfl
   have gen:∀l:Ks,(∀k∈l,k∈kh)->bb (λx=>((Tg.one 0).put x [.no,.val (sp r c)]).bind λay=>(aC F (.cmp .eq (.sub (.var 0) (.cst (.int 0))) (.var 1)) ay).bind λt=>pB t λt=>if t then(aC F (.var 0) ay).bind λy=>.ok (some y) else .ok none) (l.map kP)=.ok ((l.filter λk=>decide (k.take 2=[r,c])).map kP):=λl hl=>pU λk hk=>f2 k (hl k hk)
   exact gen kh λ_ h=>h
  have bd:∀k:List Int,mu kr Vr k<=20000:=λk=>by
   unfold mu;split
   ·rename_i a b _;cases hv:aj kr Vr [a,b] with
    |none=>unfold cR;rw [hv];exact Nat.zero_le _
    |some q'=>rw [dq hv];have:=R.bd _ q' hv;show q'.1.toNat<=_;omega
   ·exact Nat.zero_le _
  obtain⟨l,e4,tr⟩:=hc H (mu:=mu kr Vr) (λy k e _ _ he _ _ _=>by
   obtain⟨a,b,a',b',d,x,m,rfl,rfl,he,hm,hx,rfl⟩:=he
   have:=(ug L V he).1
   obtain⟨qm,hqm,rfl⟩:=zzJ.1 hm
   have:=(R.bd _ qm hqm).1
   show((cR kr Vr [a,b]).getD 0).toNat<((cR kr Vr [a',b']).getD 0).toNat
   rw [hx,hm];show qm.1.toNat<(x+qm.1).toNat;omega) (bd _) hp
  have tl:∀{k:List Int} {l:Ks} {d:Int},Ff (Eh (E1 ae sl cl pr) (cR kr Vr)) [r',c', -1] k l d->l.length<=mu kr Vr k+1/\∀k∈l,∃a b x,k=[a,b,x]:=λ{k l d} t=>by
   induction t with
   |here=>exact⟨Nat.le_add_left _ _,λk hk=>by rw [zzi.1 hk];exact⟨_,_,_,rfl⟩⟩
   |go _ he ih=>
    obtain⟨a,b,a',b',d,x,m,rfl,rfl,he,hm,hx,rfl⟩:=he
    have:=(ug L V he).1
    obtain⟨qm,hqm,rfl⟩:=zzJ.1 hm
    have:=(R.bd _ qm hqm).1
    refine⟨?_,λk hk=>?_⟩
    ·have h1:=ih.1
     have z:mu kr Vr [a,b,d]<mu kr Vr [a',b',ix (dl [a',b'] [a,b])]:=by
      show((cR kr Vr [a,b]).getD 0).toNat<((cR kr Vr [a',b']).getD 0).toNat
      rw [hx,hm];show qm.1.toNat<(x+qm.1).toNat;omega
     rw [zzL];omega
    ·rcases zzm.1 hk with rfl|hk
     ·exact⟨_,_,_,rfl⟩
     ·exact ih.2 k hk
  obtain⟨tl1,tl2⟩:=tl tr
  have ll:l.length<eg:=zzV (m:=20001) (by have:=bd [r,c,x];omega) (by decide)
  have cd:bb (λx=>((Tg.one 0).put x [.no]).bind λay=>(aC F (.sub (.var 0) (.cst (.int 0))) ay).bind λy=>.ok (some y)) (l.map kP)=.ok (l.map λk=>bZ (k.take 2)):=df λk hk=>by
   obtain⟨a,b,x,rfl⟩:=tl2 k hk
   rfl
  have sa:aJ (.bF kr (Vr.map val)) (sp r c)=.ok (val q):=sV gd hq
  have sb:=sV (H.Be _ p hp).1 hp
  have kl:kh.length<eg:=lk H.le
  have s1:∀{ks:Ks} {vs:List PV},xw (.var 5) (.bF ks vs)=.ok (ks.map kP):=rfl
  simp! only [] at cc cd;refine⟨.tup [.int q.1,.int p.1,.lst (l.map λk=>bZ (k.take 2))],?_,.inr ⟨q.1,p.1,_,rfl,?_,λx' d n w=>?_⟩⟩
  ·simp! only [bO,n1,e1,nd,B4,iZ,k2,e2,s1,zzl,kl,cc,e3,e4,ll,cd,sa,sb,sU]
  ·obtain⟨a,b,d,m,z,hm,w,_⟩:=AX (λu v e h=>BZ h) (ym R) (H.Be _ p hp).2
   cases z;rw [ha] at hm;cases hm;exact⟨d,w⟩
  ·obtain⟨q',h1,h2⟩:=oX R' w.Be
   rw [hq] at h1;cases h1
   by_cases z:q.1=x'
   ·subst z;obtain⟨p',KD,hl⟩:=P6 w
    have:=hmin _ ((hL _).2 ⟨(du H.len).2 ⟨p',KD⟩,_,rfl⟩)
    unfold cst at this;rw [dq hp,dq KD] at this;exact .inr ⟨rfl,Int.le_trans this hl⟩
   ·exact .inl (by omega)
end
noncomputable def mD(y:Int):List Int->List Int
 |[a,b]=>if y=0 then [a, -b] else if y=1 then [-a,b] else [b,a]
 |l=>l
def K1(y:Int)(d:List Int):mD y (mD y d)=d:=by
 match d with
 |[a,b]=>
  by_cases h:y=0
  ·simp! [mD,h,if_true,Int.neg_neg]
  ·by_cases h1:y=1
   ·simp! [mD,h1,show((1:Int)=0)=False by decide,if_false,if_true,Int.neg_neg]
   ·simp! [mD,h,h1,if_false]
 |[]=>rfl
 |[_]=>rfl
 |_::_::_::_=>rfl
section
variable{ae aW:List Str}{sl:Bool}{cl pr:Int}{y H W:Int}
def Tw.dl(T:Tw y H W ae aW){u v:List Int}{e:Int}(h:E1 ae sl cl pr u v e):E1 aW sl cl pr (gL y H W u) (gL y H W v) e/\K22.dl (gL y H W u) (gL y H W v)=mD y (K22.dl u v):=by
 refine⟨T.e h,?_⟩;obtain⟨r,c,r',c',rfl,rfl,_⟩:=h
 by_cases h:y=0
 ·simp! [gL,gT,K22.dl,mD,h,if_true]
  congr 2
  omega
 ·by_cases h1:y=1
  ·simp! [gL,gT,K22.dl,mD,h1,show((1:Int)=0)=False by decide,if_false,if_true]
   congr 1
   omega
  ·simp! [gL,gT,K22.dl,mD,h,h1,if_false]
def Tw.wt(T:Tw y H W ae aW){g u d:List Int}{c n:Int}(h:Wt (E1 ae sl cl pr) g u c d n):Wt (E1 aW sl cl pr) (gL y H W g) (gL y H W u) c (mD y d) n:=h.map rfl (K1 y) λ_ _ _ h=>T.dl h
def yq{u v:List Int}{e:Int}(h:E1 ae sl cl 0 u v e):E1 ae sl cl 0 v u e/\dl v u=ng (dl u v)/\dl u v≠[]:=by
 refine⟨?_,M3 h⟩;obtain⟨e',k⟩:=rS h
 have:e'=e:=by
  obtain⟨r,c,r',c',rfl,rfl,_,_,h⟩:=h
  obtain⟨_,_,_,_,z1,z2,_,_,k⟩:=k
  cases z1;cases z2;rw [bx] at h k;have h5:=h.2.2.2.2
  have k5:=k.2.2.2.2
  rw [Int.zero_mul,Int.add_zero] at h5 k5;rw [h5,k5];have:(r'≠r/\c'≠c)↔(r≠r'/\c≠c'):=⟨λz=>⟨z.1.symm,z.2.symm⟩,λz=>⟨z.1.symm,z.2.symm⟩⟩
  simp! [this]
 rw [<-this];exact k
def J6{pr':Int}{u v:List Int}{e:Int}(h:E1 ae sl cl pr u v e):∃e',E1 ae sl cl pr' u v e':=by
 obtain⟨r,c,r',c',rfl,rfl,h1,h2,h⟩:=h
 obtain⟨a,b,c1,d,_⟩:=bx.1 h
 exact⟨_,r,c,r',c',rfl,rfl,h1,h2,bx.2 ⟨a,b,c1,d,rfl⟩⟩
def IY{pr':Int}{g u d:List Int}{c n:Int}(h:Wt (E1 ae sl cl pr) g u c d n):∃c' d' n',Wt (E1 ae sl cl pr') g u c' d' n':=by
 induction h with
 |here=>exact⟨_,_,_,.here⟩
 |go he _ ih=>obtain⟨e',h'⟩:=J6 (pr':=pr') he;obtain⟨_,_,_,k⟩:=ih;exact⟨_,_,_,.go h' k⟩
theorem vC{g u d:List Int}{c n:Int}(h:Wt (E1 ae sl cl pr) g u c d n):Wt (E1 ae true cl pr) g u c d n:=h.map (f:=id) (m:=id) rfl (λ_=>rfl) λu v e h=>⟨by
 obtain⟨r,c,r',c',rfl,rfl,h1,h2,h⟩:=h
 obtain⟨a,b,c1,d,k⟩:=bx.1 h
 exact⟨r,c,r',c',rfl,rfl,h1,h2,bx.2 ⟨a,λz=>⟨rfl,(b z).2⟩,c1,d,k⟩⟩,rfl⟩
variable{E E':List Int->List Int->Int->Prop}{s g s' g':List Int}{p p':PV}
def pJ.some(S:pJ E s g p)(h:∃c d n,Wt E g s c d n):∃(D N:Int) (W:PV),p=.tup [.int D,.int N,W]/\(∃d,Wt E g s D d N)/\∀c d n,Wt E g s c d n->D<c\/D=c/\N<=n:=by
 rcases S with⟨_,k⟩|k
 ·obtain⟨c,d,n,h⟩:=h
  exact(k c d n h).elim
 ·exact k
def pJ.none(S:pJ E s g p)(h:∀c d n,¬Wt E g s c d n):p=.aM:=by
 rcases S with⟨k,_⟩|⟨_,_,_,_,⟨d,k⟩,_⟩
 ·exact k
 ·exact(h _ _ _ k).elim
def pJ.same(S:pJ E s g p)(S':pJ E' s' g' p')(h:∀c d n,Wt E g s c d n->∃d',Wt E' g' s' c d' n)(h':∀c d n,Wt E' g' s' c d n->∃d',Wt E g s c d' n):(p=.aM/\p'=.aM)\/∃(D N:Int) (W W':PV),p=.tup [.int D,.int N,W]/\p'=.tup [.int D,.int N,W']:=by
 rcases id S with⟨k,n⟩|⟨D,N,W,rfl,⟨d,k⟩,m⟩
 ·exact .inl ⟨k,S'.none λc d x z=>by obtain⟨d',z'⟩:=h' c d x z;exact n _ _ _ z'⟩
 ·obtain⟨d',k1⟩:=h _ _ _ k
  obtain⟨D',N',W',rfl,⟨e,k'⟩,m'⟩:=S'.some ⟨_,_,_,k1⟩
  obtain⟨e',k2⟩:=h' _ _ _ k'
  have a:=m _ _ _ k2
  have b:=m' _ _ _ k1
  have:D=D'/\N=N':=by omega
  obtain⟨rfl,rfl⟩:=this
  exact .inr ⟨D,N,W,W',rfl,rfl⟩
end
theorem uk:∀(n:Nat) (a b:List Int),eqs (kM n) (a.map .int) (b.map .int)=decide (a=b)
 |_,[],[]=>rfl
 |_,[],_::_=>rfl
 |_,_::_,[]=>rfl
 |n,x::a,y::b=>by
  have:kM n (.int x) (.int y)=(x==y):=by cases n<;>rfl
  simp! [zzF,eqs,uk n a b,this];rw [Bool.eq_iff_iff];simp
def FZ(n:Nat)(a b:List Int):kM (n+1) (bZ a) (bZ b)=decide (a=b):=uk n a b
theorem p9:∀(n:Nat) (a b:Ks),eqs (kM (n+1)) (a.map bZ) (b.map bZ)=decide (a=b)
 |_,[],[]=>rfl
 |_,[],_::_=>rfl
 |_,_::_,[]=>rfl
 |n,x::a,y::b=>by
  simp! [zzF,eqs,p9 n a b,FZ];rw [Bool.eq_iff_iff];simp
def Dy(n:Nat)(a:List Int):(a.map PV.int).all (Ci.plain n)=true:=by
 simp! [zzT,zzx]
 rintro x ⟨i,_,rfl⟩
 cases n<;>rfl
def HZ(n:Nat)(a:List Int):Ci.plain (n+1) (bZ a)=true:=Dy n a
def Dz(n:Nat)(a:Ks):(a.map bZ).all (Ci.plain (n+1))=true:=by
 simp! [zzT,zzx]
 rintro x ⟨i,_,rfl⟩
 exact HZ n i
def vc(n:Nat)(a:Ks):Ci.plain (n+2) (.lst (a.map bZ))=true:=Dz n a
def QP(a b:Ks):g9 (.lst (a.map bZ)) (.lst (b.map bZ))=.ok (.bl (decide (a=b))):=by
 show(if(Ci.plain 9 (.lst (a.map bZ))&&Ci.plain 9 (.lst (b.map bZ)))=true then Res.ok (PV.bl (kM 9 (.lst (a.map bZ)) (.lst (b.map bZ)))) else .bad)=_
 rw [vc 7,vc 7];exact congrArg (λz=>Res.ok (PV.bl z)) (p9 7 a b)
def vp{ae:List Str}{Sp:List (Nat×Nat)}(hm:∀r c,(r,c)∈Sp↔zR ae r c=true){m:Int}(h0:0<=m)(h1:m<Sp.length):∃r c:Int,aJ (.lst (Sp.map AJ)) (.int m)=.ok (sp r c)/\cx ae r c=true:=by
 obtain⟨k,rfl⟩:=zzw h0
 have hk:k<Sp.length:=by omega
 refine⟨(Sp[k]).1,(Sp[k]).2,?_,?_⟩
 ·simp! [aJ];rw [kq (k:=k) (by simpa using hk),List.getElem_map]
  rfl
 ·refine oN.2 ⟨by omega,by omega,?_⟩;have:=(hm (Sp[k]).1 (Sp[k]).2).1 (List.getElem_mem hk)
  simpa using this
def Ee(F:aU):Prop:=∀ae w,Fl ae w->∀y:Int,0<=y->y<3->∀r c,F "_law_turned_spot" [fl ae,.int y,sp r c]=.ok (bZ (gL y ae.length w [r,c]))
def E5(F:aU):Prop:=∀ae w,Fl ae w->∀y:Int,0<=y->y<3->∃aW w',F "_law_turned_floor" [fl ae,.int y]=.ok (fl aW)/\Fl aW w'/\Tw y ae.length w ae aW
noncomputable def oB:Ss:=#v[.set 8 (.call "straightest" #v[!1,!2,!4,!5]),.set 9 (.call "straightest" #v[!7,!2,.call "_law_turned_spot" #v[!1,!6,!4],.call "_law_turned_spot" #v[!1,!6,!5]]),.ite (.or (.cmp .is (!8) (.cst .aM)) (.cmp .is (!9) (.cst .aM))) #v[.ret (.and (.cmp .is (!8) (.cst .aM)) (.cmp .is (!9) (.cst .aM)))] .nil,.ite (.cmp .ne (.slice (!8) .no (.some (¬2))) (.slice (!9) .no (.some (¬2)))) #v[.ret (.cst (.bl false))] .nil,.set 10 (.call "straightest" #v[!1,.tup #v[.sub (!2) (¬0),.sub (!2) (¬1),¬0],!5,!4]),.set 11 (.call "straightest" #v[!1,.tup #v[.sub (!2) (¬0),.sub (!2) (¬1),¬0],!4,!5]),.ite (.cmp .ne (.slice (!10) .no (.some (¬2))) (.slice (!11) .no (.some (¬2)))) #v[.ret (.cst (.bl false))] .nil,.set 12 (.call "straightest" #v[!1,.tup #v[.cst (.bl true),.sub (!2) (¬1),.sub (!2) (¬2)],!4,!5]),.ret (.or (.cmp .lt (.sub (!12) (¬0)) (.sub (!8) (¬0))) (.and (.cmp .eq (.sub (!12) (¬0)) (.sub (!8) (¬0))) (.cmp .le (.sub (!12) (¬1)) (.sub (!8) (¬1)))))]
noncomputable def oA:Ss:=.cons (.ite (.cmp .eq (!3) (.lst .nil)) #v[.ret (.cst (.bl true))] .nil) (.cons (.set 4 (.sub (!3) (.call "_law_pick" #v[!0,¬50,.blt .len #v[!3]]))) (.cons (.set 5 (.sub (!3) (.call "_law_pick" #v[!0,¬51,.blt .len #v[!3]]))) (.cons (.set 6 (.call "_law_pick" #v[!0,¬52,¬3])) (.cons (.set 7 (.call "_law_turned_floor" #v[!1,!6])) oB))))
theorem xi:bV.body=.cons (.set 1 (.call "_law_floor" (.cons (.var 0) (.cons (.cst (.int 0)) (.cons (.cst (.int 4)) .nil))))) (.cons (.set 2 (.call "_law_walker" (.cons (.var 0) (.cons (.cst (.int 40)) .nil)))) (.cons (.set 3 (.call "_law_spots" (.cons (.var 1) .nil))) oA)):=rfl
section
variable{ae aW:List Str}{w w':Nat}{sl:Bool}{cl pr y:Int}
theorem RS{D N:Int}{W:PV}:gJ (.tup [.int D,.int N,W]) none (some 2)=.ok (sp D N):=rfl
theorem RG{l:List PV}:oM (.tup l) .aM=.ok (.bl false):=rfl
theorem RF:oM .aM .aM=.ok (.bl true):=rfl
def K7(F:aU)(dh:Ee F)(hs:Bl (F "straightest"))(L:Fl ae w)(L':Fl aW w')(y0:0<=y)(y3:y<3)(T:Tw y ae.length w ae aW)(V:Wk cl pr){r c r' c':Int}(ho:cx ae r c=true)(eC:cx ae r' c'=true)(a b:Ci.Slot):
 bw F oB [a,.val (fl ae),.val (wk sl cl pr),b,.val (sp r c),.val (sp r' c'),.val (.int y),.val (fl aW),.no,.no,.no,.no,.no]=.ok (.rt (.bl true)):=by
 have V0:Wk cl 0:=⟨V.c0,Int.le_refl _,by decide,V.c9⟩
 obtain⟨p1,e1,S1⟩:=hs ae w L sl cl pr V r c r' c' ho eC
 have t1:F "_law_turned_spot" [fl ae,.int y,sp r c]=.ok (sp (gT y ae.length w r c).1 (gT y ae.length w r c).2):=dh ae w L y y0 y3 r c
 have t2:F "_law_turned_spot" [fl ae,.int y,sp r' c']=.ok (sp (gT y ae.length w r' c').1 (gT y ae.length w r' c').2):=dh ae w L y y0 y3 r' c'
 obtain⟨p2,e2,S2⟩:=hs aW w' L' sl cl pr V _ _ _ _ (by rw [T.op];exact ho:cx aW (gT y ae.length w r c).1 (gT y ae.length w r c).2=true) (by rw [T.op];exact eC:cx aW (gT y ae.length w r' c').1 (gT y ae.length w r' c').2=true)
 have i1:=yD y ae.length w r c
 have i2:=yD y ae.length w r' c'
 rcases S1.same S2 (λx d n z=>⟨_,T.wt z⟩) (λx d n z=>⟨mD y d,by
  have:=T.symm.wt z
  rw [show([(gT y ae.length w r c).1,(gT y ae.length w r c).2]:List Int)=gL y ae.length w [r,c] from rfl,show([(gT y ae.length w r' c').1,(gT y ae.length w r' c').2]:List Int)=gL y ae.length w [r',c'] from rfl,i1,i2] at this;exact this⟩) with⟨rfl,rfl⟩|⟨D,N,W,W',rfl,rfl⟩
 ·simp! only [oB,e1,t1,t2,e2,RF]
 ·obtain⟨D1,N1,W1,z1,⟨d1,k1⟩,m1⟩:∃(D1 N1:Int) (W1:PV),PV.tup [.int D,.int N,W]=.tup [.int D1,.int N1,W1]/\(∃d,Wt (E1 ae sl cl pr) [r',c'] [r,c] D1 d N1)/\∀x d n,Wt (E1 ae sl cl pr) [r',c'] [r,c] x d n->D1<x\/D1=x/\N1<=n:=by
   rcases S1 with⟨z,_⟩|z
   ·cases z
   ·exact z
  cases z1;obtain⟨x0,d0,n0,k0⟩:=IY (pr':=0) k1
  obtain⟨p3,e3,S3⟩:=hs ae w L sl cl 0 V0 r' c' r c eC ho
  obtain⟨p4,e4,S4⟩:=hs ae w L sl cl 0 V0 r c r' c' ho eC
  obtain⟨p5,e5,S5⟩:=hs ae w L true cl pr V r c r' c' ho eC
  obtain⟨D5,N5,W5,rfl,⟨d5,k5⟩,m5⟩:=S5.some ⟨_,_,_,vC k1⟩
  rcases S3.same S4 (λx d n z=>z.back λ_ _ _=>yq) (λx d n z=>z.back λ_ _ _=>yq) with⟨_,rfl⟩|⟨D3,N3,W3,W4,rfl,rfl⟩
  ·obtain⟨_,_,_,z,_⟩:=S4.some ⟨_,_,_,k0⟩
   cases z
  ·have fin:(if decide (D5<D) then Res.ok (PV.bl true) else if D5==D then Res.ok (PV.bl (decide (N5<=N))) else Res.ok (PV.bl false))=.ok (.bl true):=by
    rcases m5 _ _ _ (vC k1) with z|⟨z,z'⟩
    ·rw [zzh z];rfl
    ·rw [z,zzh z'];split
     ·rfl
     ·rw [if_pos (beq_self_eq_true D)]
   simp! only [oB,e1,t1,t2,e2,RG,RS,e3,e4,e5,Bool.and_true,Bool.not_true];have q1:∀{x y z:PV},aJ (.tup [x,y,z]) (.int 0)=.ok x:=rfl
   have q2:∀{x y z:PV},aJ (.tup [x,y,z]) (.int 1)=.ok y:=rfl
   simp! only [q1,q2,fin]
end
def De(F:aU)(hp:kg F)(Co:∀ns,∃ae w,Fl ae w/\F "_law_floor" [fK ns,.int 0,.int 4]=.ok (fl ae))(RC:∀ns,∃sl cl pr,Wk cl pr/\F "_law_walker" [fK ns,.int 40]=.ok (wk sl cl pr))(EE:Bk F)(dh:Ee F)(Ri:E5 F)(hs:Bl (F "straightest"))(ns:List Int):az F bV [fK ns]=.ok (.bl true):=by
 obtain⟨ae,w,L,e1⟩:=Co ns
 obtain⟨sl,cl,pr,V,e2⟩:=RC ns
 obtain⟨Sp,e3,nd,l36,hm⟩:=EE ae L.lZ
 have q0:g9 (.lst (Sp.map AJ)) (.lst [])=.ok (.bl (decide (Sp=[]))):=by
  have eS:Sp.map AJ=(Sp.map λp=>[(p.1:Int),(p.2:Int)]).map bZ:=by rw [List.map_map];rfl
  rw [eS];refine(QP _ []).trans ?_;simp
 have st:cK bV [fK ns]=[.val (fK ns),.no,.no,.no,.no,.no,.no,.no,.no,.no,.no,.no,.no]:=rfl
 have ar:cI bV [fK ns]=true:=rfl
 unfold az;rw [ar,if_pos rfl,st,xi]
 by_cases h2:Sp=[]
 ·rw [zzh h2] at q0;dsimp! only [oA,e1,e2,e3,q0]
 ·rw [zz0 h2] at q0;have Rt:=List.length_pos_iff.2 h2
  obtain⟨m0,p0,a0,b0⟩:=hp ns 50 Sp.length (by decide) (by omega)
  obtain⟨m1,p1,a1,b1⟩:=hp ns 51 Sp.length (by decide) (by omega)
  obtain⟨y,py,y0,y3⟩:=hp ns 52 3 (by decide) (by decide)
  obtain⟨r,c,g0,ho⟩:=vp hm a0 b0
  obtain⟨r',c',g1,eC⟩:=vp hm a1 b1
  obtain⟨aW,w',et,L',T⟩:=Ri ae w L y y0 y3
  have eB:=K7 F dh hs L L' y0 y3 T V (sl:=sl) ho eC (.val (fK ns)) (.val (.lst (Sp.map AJ)))
  dsimp! only [oA,e1,e2,e3,q0,zzl,p0,p1,py,g0,g1,et,eB]
noncomputable def vD:Ss:=#v[.ite (.not (.call "_law_once" #v[.comp 1 [1] (.one 0) (.seq (!0)) (.bin .add (!0) (.bin .mul (¬7919) (!1)))])) #v[.ret (.cst (.bl false))] .nil,.ite (.cmp .eq (!0) (.lst .nil)) #v[.brk] .nil]
def rn(F:aU)(ho:∀ns,F "_law_once" [fK ns]=.ok (.bl true))(ns:List Int)(hl:ns.length<=63)(t:Int):bw F vD [.val (fK ns),.val (.int t)]=.ok (if ns=[] then .bk [.val (fK ns),.val (.int t)] else .nx [.val (fK ns),.val (.int t)]):=by
 have l:ns.length<eg:=zzV hl (by decide)
 have s:(aK 7919||aK t)=true:=by rw [zzt];exact .inl (by decide)
 dsimp! only [vD,Mh,zzl,l];rw [df (g:=λn:Int=>.int (n+7919*t)) (λn _=>by dsimp! only [s])]
 have e:=ho (ns.map λn=>n+7919*t)
 simp! [fK,List.map_map,Function.comp_def] at e;dsimp! only [e,eq_nil]
 by_cases h:ns=[]
 ·dsimp! only [h,decide_true]
 ·dsimp! only [h,decide_false]
def Hf(F:aU)(ho:∀ns,F "_law_once" [fK ns]=.ok (.bl true))(ns:List Int)(hl:ns.length<=63):az F mP [fK ns]=.ok (.bl true):=by
 have e:∃t:Int,forL (λx env=>((Tg.one 1).put x env).bind λay=>bw F vD ay) (fb 0 (3:Int).toNat) [.val (fK ns),.no]=.ok (.nx [.val (fK ns),.val (.int t)]):=by
  rw [show fb 0 (3:Int).toNat=[.int 0,.int 1,.int 2] from rfl]
  by_cases h:ns=[]
  ·refine⟨0,?_⟩;simp! [forL,My,vK,List.set_cons_succ,List.set_cons_zero,rn F ho ns hl,if_pos h]
  ·refine⟨2,?_⟩;simp! [forL,My,vK,List.set_cons_succ,List.set_cons_zero,rn F ho ns hl,h,if_false]
 obtain⟨t,e⟩:=e
 have s:aR 3=true:=by decide
 dsimp! only [vD] at e;dsimp! only [mP,s,e]
def Kz(ns:List Int)(hl:ns.length<=63):az (den Pe) mP [fK ns]=.ok (.bl true):=by
 have pick:∀F:aU,F "_law_pick"=az (den T2) bL->kg F:=λF hF ns k q hk hq=>by
  rw [hF];exact Dx (den T2) (λns k hk=>by rw [J0];exact Bq _ ns k hk) ns k q hk hq
 have zT:∀F:aU,F "is_open"=az (den E9) cD->rF F:=λF hF ae R r c=>by
  rw [hF];exact Dl _ (λr c=>by rw [FJ];exact si _ (λi=>by rw [J4];exact oC _ i) r c) (λae R r c=>by rw [Bv];exact K8 _ ae R r c) ae R r c
 have uW:∀F:aU,F "need_open"=az (den Fb) bB->nK F:=λF hF ae R r c h=>by
  rw [hF];exact oG _ (zT _ Bw) ae R r c h
 have step:∀F:aU,F "step_cost"=az (den Fc) bp->rH F:=λF hF ae w L sl cl pr V r c r' c' h h'=>by
  rw [hF];exact DV _ (λr c r' c'=>by rw [FK];exact vJ _ r c r' c') (λae R r c r' c'=>by rw [BA];exact rQ _ (zT _ By) R r c r' c') (λae w L r c h=>by rw [Bz];exact wH _ (uW _ Bx) L h) L V h h'
 have QL:Ec (den Fd):=λae R r c a b d e=>by
  rw [BE];exact Fj _ (zT _ BB) R a b d e
 have steps:∀F:aU,F "steps_from"=az (den Fd) bX->nN F:=λF hF=>by
  unfold nN;rw [hF];exact AM _ (uW _ BC) QL (step _ BD)
 have vq:∀F:aU,F "steps_to"=az (den Ja) cy->jY F:=λF hF=>by
  unfold jY;rw [hF];exact sS _ (steps _ BG) (step _ BF)
 have Ow:E8 (den JG):=by
  unfold E8;rw [BN];exact DT _ (vq _ BL)
 have to:JH (den Bm):=λae w L sl cl pr V r c h=>by
  rw [BQ];exact qX _ (uW _ BM) Ow L V h
 have heads:∀ae w,Fl ae w->∀sl cl pr,Wk cl pr->∀kr Vr G,rA (Et ae sl cl pr) G kr Vr->OO (den LY) ae sl cl pr kr Vr:=λae w L sl cl pr V kr Vr G R r c a d ho ha h8=>by
  rw [BK];exact yQ _ (λr c r' c' h=>by rw [BJ];exact FV _ r c r' c' h) (λr c a ho ha=>by rw [BI];exact vI _ (vq _ BH) L V R ho ha) ho ha h8
 have Ov:xX (den Bm):=λae w L sl cl pr V kr Vr gr gc a R ho ha=>by
  rw [BP];exact DS _ L (heads ae w L sl cl pr V kr Vr _ R) ho ha
 have Se:Ei (den Bm):=λ{E s kr Vr} R {mu} hm {k} hk {q} hq=>by
  rw [BR];exact xB _ R hm hk hq
 have str:Bl (den A0 "straightest"):=by
  rw [BS];exact IF _ (uW _ BO) to Ov Se
 refine Hf _ (λns=>?_) ns hl;rw [BV];exact De _ (pick _ FL) (λns=>by rw [FN];exact wm _ (pick _ J1) ns 4 (by decide) (by decide)) (λns=>by rw [FP];exact xG _ (pick _ J3) ns 40 (by decide)) (λae R=>by rw [FQ];exact AK _ ae R)
  (λae w L y h0 h3 r c=>by rw [BU];exact DR _ L h0 h3 r c) (λae w L y h0 h3=>by rw [FR];exact xE _ L h0 h3) str ns
end K22
namespace Hd
open PySem PySem.W L2
noncomputable abbrev fo(n:Str)(st:Stmt)(pm:Value)(c:Addr):Obj:=⟨.type "function",none,.func (fnOf n n (cW st) (cE st) (aQ st) .none .none .none pm none (.ref c) .none),#[]⟩
noncomputable abbrev co(n:Str)(a:Nat)(L A:Int)(r:Nat)(x y:Value)(q z:Nat):Obj:={cls:=.type "code",data:=.fields #[.str n a,.str n (a+1),.str "/claim/cut.py" (a+2),.int L 0,.int A 0,.int 0 0,.int 0 0,.int 3 0,.ref r,.bool Bool.true,.int 181 0,.ref (r+1),.none,x,y,.ref q,.int z 0,.int L 0,.str "/claim/cut.py" (z+1)]}
noncomputable def M0(s:Stmt):Pos:=match s with
 |.FunctionDef _ _ _ _ _ _ _ _ _ p=>p
 |_=>⟨0,0,0,0⟩
def ent{K:Frag}{ts:List (Addr×Str)}{n:Str}{st:Stmt}(f c:Addr)(pm:Value)(a:nsIn K mainGlobals n=some (some (.ref f)):=by kernel_rfl)(l:K.lookup f=some (fo n st pm c):=by kernel_rfl)(d:codeIn K (.ref c) n=true:=by kernel_rfl)(k:keepIn K (.ref f)=true:=by kernel_rfl):Ci.vF K ts false n st:=Ci.M4 a l d k
def B0{K:Frag}{ts:List (Addr×Str)}{n:Str}{st:Stmt}(f c p:Addr)(pm:Value)(ck:Ci.fu K c p)(m:(p,Ci.kW n)∈ts)(u:∀q∈ts,q.1=p->q.2=Ci.kW n)(a:nsIn K mainGlobals n=some (some (.ref f)):=by kernel_rfl)(l:K.lookup f=some (fo n st pm c):=by kernel_rfl)(d:codeIn K (.ref c) n=true:=by kernel_rfl)(k:keepIn K (.ref f)=true:=by kernel_rfl):Ci.vF K ts true n st:=⟨f,_,_,_,_,_,_,_,_,_,a,l,d,k,λ_=>⟨c,p,rfl,ck,m,λq' h=>u _ h rfl⟩⟩
def ac{K:Frag}{ts:List (Addr×Str)}{Γ:Ci.Pg}{r:Ci.Row}{l:Ci.eK}(e:Ci.vF K ts r.hl r.h r.st)(s:Ci.cA (Γ.at l r.hl) r.h r.d r.st)(t:Ci.AllK K ts Γ l)(a:(l.map (·.f)).contains r.f=false:=by decide+kernel)(b:(r.d.gz.isNone==!Ci.gb r.f)=true:=by decide+kernel)(c:r.d.gz.isNone=true->r.f=r.h:=by first|exact λ_=>rfl|exact λz=>absurd z (by decide)):Ci.AllK K ts Γ (r::l):=⟨e,s,⟨a,b,c⟩,t⟩
def zx{K L:Frag}{b:Addr}{o:Obj}(e:K.lookup b=some o):(K++L).lookup b=some o:=by
 rw [List.lookup_append,e]
 rfl
end Hd
namespace K22
open PySem L2 Ci
noncomputable abbrev lw:=PySem.Challenge.rw_cellways_k22_whole_turned_about
noncomputable def top(i:Nat):Stmt:=PySem.Challenge.pw_cellways_k22_whole_turned_about.main.body.getD i (.Pass ⟨0,0,0,0⟩)
noncomputable abbrev m1:Value:=.str "cellways.floors" 223
noncomputable abbrev m2:Value:=.str "cellways.ways" 336
noncomputable abbrev m3:Value:=.str "cellways.turns" 374
noncomputable abbrev m4:Value:=.str "law_cellways_k22_whole_turned_about" 419
noncomputable def K(P:Params):zz8:=[(2,{cls:=.none,data:=.dict #[]}),
 (3,{cls:=.type "dict",data:=.dict #[Hd.de P "__name__" 165 (.str "law_cellways_k22_whole_turned_about" 419),Hd.de P "__doc__" 166 (.none),Hd.de P "__package__" 167 (.none),Hd.de P "__loader__" 168 (.builtin "__main__.__loader__#opaque"),Hd.de P "__spec__" 169 (.none),Hd.de P "__annotations__" 170 (.ref 6),Hd.de P "__builtins__" 171 (.ref 4),Hd.de P "__file__" 173 (.str "/claim/cut.py" 172),Hd.de P "__cached__" 174 (.none),Hd.de P "FloorError" 206 (.ref 24),Hd.de P "NoSpot" 222 (.ref 37),Hd.de P "WALL" 226 (.str "#" 225),Hd.de P "STRAIGHT_COST" 228 (.int 2 227),Hd.de P "SLANTING_COST" 230 (.int 3 229),Hd.de P "is_whole" 237 (.ref 46),Hd.de P "is_spot" 244 (.ref 53),Hd.de P "is_on_floor" 252 (.ref 60),Hd.de P "is_open" 260 (.ref 67),Hd.de P "need_open" 268 (.ref 74),Hd.de P "height_at" 276 (.ref 81),Hd.de P "open_spots_beside" 287 (.ref 88),Hd.de P "are_beside" 295 (.ref 95),Hd.de P "has_open_corners" 304 (.ref 102),Hd.de P "step_cost" 317 (.ref 109),Hd.de P "steps_from" 329 (.ref 116),Hd.de P "steps_to" 335 (.ref 121),Hd.de P "spread" 352 (.ref 128),Hd.de P "spread_to" 364 (.ref 135),Hd.de P "traced" 373 (.ref 142),Hd.de P "direction_of" 385 (.ref 149),Hd.de P "least_before" 398 (.ref 156),Hd.de P "headings_before" 412 (.ref 163),Hd.de P "straightest" 418 (.ref 168),Hd.de P "_law_cell" 428 (.ref 175),Hd.de P "_law_pick" 438 (.ref 182),Hd.de P "_law_floor" 456 (.ref 189),Hd.de P "_law_walker" 464 (.ref 196),Hd.de P "_law_spots" 470 (.ref 201),Hd.de P "_law_turned_floor" 476 (.ref 206),Hd.de P "_law_turned_spot" 485 (.ref 213),Hd.de P "_law_once" 504 (.ref 220),Hd.de P "law" 510 (.ref 225)] 42}),
 (4,{cls:=.type "module",dict:=some builtinsNs,data:=.plain}),
 (23,{cls:=.type "dict",data:=.dict #[Hd.de P "__module__" 196 (.str "cellways.errors" 187),Hd.de P "__firstlineno__" 200 (.int 2 199),Hd.de P "__static_attributes__" 201 (.ref 22),Hd.de P "__weakref__" 203 (.ref 25),Hd.de P "__doc__" 204 (.none)] 3}),
 (24,{cls:=.type "type",data:=.cls {name:="FloorError",bases:=[.type "ValueError"],mro:=[.ref 24,.type "ValueError",.type "Exception",.type "BaseException",.type "object"],ns:=23,qualname:="FloorError",subclasses:=[.ref 37]},slots:=#[some (.ref 15),none,some (.str "FloorError" 189),some (.str "FloorError" 197),some (.builtin "ValueError.__new__"),some (.bool Bool.true)]}),
 (36,{cls:=.type "dict",data:=.dict #[Hd.de P "__module__" 214 (.str "cellways.errors" 187),Hd.de P "__firstlineno__" 218 (.int 4 217),Hd.de P "__static_attributes__" 219 (.ref 35),Hd.de P "__doc__" 220 (.none)] 2}),
 (37,{cls:=.type "type",data:=.cls {name:="NoSpot",bases:=[.ref 24],mro:=[.ref 37,.ref 24,.type "ValueError",.type "Exception",.type "BaseException",.type "object"],ns:=36,qualname:="NoSpot"},slots:=#[some (.ref 28),none,some (.str "NoSpot" 207),some (.str "NoSpot" 215),some (.builtin "ValueError.__new__"),some (.bool Bool.true)]}),
 (45,Hd.co "is_whole" 231 10 1 40 (.ref 42) (.ref 43) 44 235),
 (46,Hd.fo "is_whole" (top 7) m1 45),
 (52,Hd.co "is_spot" 238 12 1 47 (.ref 49) (.ref 50) 51 242),
 (53,Hd.fo "is_spot" (top 8) m1 52),
 (59,Hd.co "is_on_floor" 245 14 2 54 (.ref 56) (.ref 57) 58 250),
 (60,Hd.fo "is_on_floor" (top 9) m1 59),
 (66,Hd.co "is_open" 253 16 2 61 (.ref 63) (.ref 64) 65 258),
 (67,Hd.fo "is_open" (top 10) m1 66),
 (73,Hd.co "need_open" 261 18 2 68 (.ref 70) (.ref 71) 72 266),
 (74,Hd.fo "need_open" (top 11) m1 73),
 (80,Hd.co "height_at" 269 21 2 75 (.ref 77) (.ref 78) 79 274),
 (81,Hd.fo "height_at" (top 12) m1 80),
 (87,Hd.co "open_spots_beside" 277 24 2 82 (.ref 84) (.ref 85) 86 285),
 (88,Hd.fo "open_spots_beside" (top 13) m1 87),
 (94,Hd.co "are_beside" 288 31 2 89 (.ref 91) (.ref 92) 93 293),
 (95,Hd.fo "are_beside" (top 14) m1 94),
 (101,Hd.co "has_open_corners" 296 33 3 96 (.ref 98) (.ref 99) 100 302),
 (102,Hd.fo "has_open_corners" (top 15) m1 101),
 (108,Hd.co "step_cost" 305 35 4 103 (.ref 105) (.ref 106) 107 315),
 (109,Hd.fo "step_cost" (top 16) m1 108),
 (115,Hd.co "steps_from" 318 46 3 110 (.ref 112) (.ref 113) 114 327),
 (116,Hd.fo "steps_from" (top 17) m1 115),
 (120,Hd.co "steps_to" 330 54 3 117 .none .none 119 333),
 (121,Hd.fo "steps_to" (top 18) m1 120),
 (127,Hd.co "spread" 338 57 2 122 (.ref 124) (.ref 125) 126 350),
 (128,Hd.fo "spread" (top 20) m2 127),
 (134,Hd.co "spread_to" 353 70 3 129 (.ref 131) (.ref 132) 133 362),
 (135,Hd.fo "spread_to" (top 21) m2 134),
 (141,Hd.co "traced" 365 74 2 136 (.ref 138) (.ref 139) 140 371),
 (142,Hd.fo "traced" (top 22) m2 141),
 (148,Hd.co "direction_of" 376 80 2 143 (.ref 145) (.ref 146) 147 383),
 (149,Hd.fo "direction_of" (top 24) m3 148),
 (155,Hd.co "least_before" 386 84 4 150 (.ref 152) (.ref 153) 154 396),
 (156,Hd.fo "least_before" (top 25) m3 155),
 (162,Hd.co "headings_before" 399 90 4 157 (.ref 159) (.ref 160) 161 410),
 (163,Hd.fo "headings_before" (top 26) m3 162),
 (167,Hd.co "straightest" 413 97 4 164 .none .none 166 416),
 (168,Hd.fo "straightest" (top 27) m3 167),
 (174,Hd.co "_law_cell" 421 107 2 169 (.ref 171) (.ref 172) 173 426),
 (175,Hd.fo "_law_cell" (top 29) m4 174),
 (181,Hd.co "_law_pick" 429 113 3 176 (.ref 178) (.ref 179) 180 436),
 (182,Hd.fo "_law_pick" (top 30) m4 181),
 (188,Hd.co "_law_floor" 439 116 3 183 (.ref 185) (.ref 186) 187 454),
 (189,Hd.fo "_law_floor" (top 31) m4 188),
 (195,Hd.co "_law_walker" 457 129 2 190 (.ref 192) (.ref 193) 194 462),
 (196,Hd.fo "_law_walker" (top 32) m4 195),
 (200,Hd.co "_law_spots" 465 131 1 197 .none .none 199 468),
 (201,Hd.fo "_law_spots" (top 33) m4 200),
 (205,Hd.co "_law_turned_floor" 471 136 2 202 .none .none 204 474),
 (206,Hd.fo "_law_turned_floor" (top 34) m4 205),
 (212,Hd.co "_law_turned_spot" 477 142 3 207 (.ref 209) (.ref 210) 211 483),
 (213,Hd.fo "_law_turned_spot" (top 35) m4 212),
 (219,Hd.co "_law_once" 486 148 1 214 (.ref 216) (.ref 217) 218 502),
 (220,Hd.fo "_law_once" (top 36) m4 219),
 (224,Hd.co "law" 505 170 1 221 .none .none 223 508),
 (225,Hd.fo "law" (top 37) m4 224)]
noncomputable def ts:List (Addr×Str):=[(123,kW "spread"),(130,kW "spread_to"),(165,kW "straightest")]
noncomputable def K2(P:Params):zz8:=K P++[(123,PySem.W.tabObj #[]),(130,PySem.W.tabObj #[]),(165,PySem.W.tabObj #[])]
noncomputable def as:List Addr:=[2,3,4,23,24,36,37,45,46,52,53,59,60,66,67,73,74,80,81,87,88,94,95,101,102,108,109,115,116,120,121,127,128,134,135,141,142,148,149,155,156,162,163,167,168,174,175,181,182,188,189,195,196,200,201,205,206,212,213,219,220,224,225,123,130,165]
noncomputable def Γ:Pg:=⟨[("WALL",(.str "#")),("STRAIGHT_COST",(.int 2)),("SLANTING_COST",(.int 3))],["len","abs","max","min","int","str","tuple","isinstance","bool","range","enumerate"],[],[],["NoSpot"],[],false,false,[]⟩
def R0:eK:=[]
def q9:cA (Γ.at R0 false) "is_whole" dY (top 7):=stM λ_ _ _ _ _ _=>Hd.JJ λ_=>rfl
noncomputable def R1:eK:=⟨"is_whole","is_whole",dY,top 7,false⟩::R0
def oZ:cA (Γ.at R1 false) "_law_cell" cM (top 29):=stM λ_ _ _ _ _ _=>Hd.vG λ_ _=>rfl
noncomputable def R2:eK:=⟨"_law_cell","_law_cell",cM,top 29,false⟩::R1
def o6:cA (Γ.at R2 false) "_law_pick" bL (top 30):=stM λ_ _ _ _ _ _=>Hd.Fi λ_ _ _=>rfl
noncomputable def R3:eK:=⟨"_law_pick","_law_pick",bL,top 30,false⟩::R2
def mv:cA (Γ.at R3 false) "_law_floor" bW (top 31):=stM λ_ _ _ _ _ _=>Hd.Fi λ_ _ _=>rfl
noncomputable def R4:eK:=⟨"_law_floor","_law_floor",bW,top 31,false⟩::R3
def lN:cA (Γ.at R4 false) "_law_walker" b9 (top 32):=stM λ_ _ _ _ _ _=>Hd.vG λ_ _=>rfl
noncomputable def R5:eK:=⟨"_law_walker","_law_walker",b9,top 32,false⟩::R4
def mw:cA (Γ.at R5 false) "_law_spots" cB (top 33):=stM λ_ _ _ _ _ _=>Hd.JJ λ_=>rfl
noncomputable def R6:eK:=⟨"_law_spots","_law_spots",cB,top 33,false⟩::R5
def gf:cA (Γ.at R6 false) "_law_turned_floor" aD (top 34):=stM λ_ _ _ _ _ _=>Hd.vG λ_ _=>rfl
noncomputable def R7:eK:=⟨"_law_turned_floor","_law_turned_floor",aD,top 34,false⟩::R6
def my:cA (Γ.at R7 false) "are_beside" cC (top 14):=stM λ_ _ _ _ _ _=>Hd.vG λ_ _=>rfl
noncomputable def R8:eK:=⟨"are_beside","are_beside",cC,top 14,false⟩::R7
def sR:cA (Γ.at R8 false) "is_spot" dR (top 8):=stM λ_ _ _ _ _ _=>Hd.JJ λ_=>rfl
noncomputable def R9:eK:=⟨"is_spot","is_spot",dR,top 8,false⟩::R8
def lO:cA (Γ.at R9 false) "is_on_floor" cb (top 9):=stM λ_ _ _ _ _ _=>Hd.vG λ_ _=>rfl
noncomputable def OR:eK:=⟨"is_on_floor","is_on_floor",cb,top 9,false⟩::R9
def sQ:cA (Γ.at OR false) "is_open" cD (top 10):=stM λ_ _ _ _ _ _=>Hd.vG λ_ _=>rfl
noncomputable def OS:eK:=⟨"is_open","is_open",cD,top 10,false⟩::OR
def o8:cA (Γ.at OS false) "need_open" bB (top 11):=stM λ_ _ _ _ _ _=>Hd.vG λ_ _=>rfl
noncomputable def OT:eK:=⟨"need_open","need_open",bB,top 11,false⟩::OS
def o7:cA (Γ.at OT false) "height_at" cN (top 12):=stM λ_ _ _ _ _ _=>Hd.vG λ_ _=>rfl
noncomputable def OU:eK:=⟨"height_at","height_at",cN,top 12,false⟩::OT
def gO:cA (Γ.at OU false) "has_open_corners" bj (top 15):=stM λ_ _ _ _ _ _=>Hd.Fi λ_ _ _=>rfl
noncomputable def OV:eK:=⟨"has_open_corners","has_open_corners",bj,top 15,false⟩::OU
def pd:cA (Γ.at OV false) "step_cost" bp (top 16):=stM λ_ _ _ _ _ _=>Hd.L1 λ_ _ _ _=>rfl
noncomputable def OW:eK:=⟨"step_cost","step_cost",bp,top 16,false⟩::OV
def gh:cA (Γ.at OW false) "open_spots_beside" aY (top 13):=stM λ_ _ _ _ _ _=>Hd.vG λ_ _=>rfl
noncomputable def OX:eK:=⟨"open_spots_beside","open_spots_beside",aY,top 13,false⟩::OW
def mz:cA (Γ.at OX false) "steps_from" bX (top 17):=stM λ_ _ _ _ _ _=>Hd.Fi λ_ _ _=>rfl
noncomputable def OY:eK:=⟨"steps_from","steps_from",bX,top 17,false⟩::OX
def ra:cA (Γ.at OY false) "steps_to" cy (top 18):=stM λ_ _ _ _ _ _=>Hd.Fi λ_ _ _=>rfl
noncomputable def OZ:eK:=⟨"steps_to","steps_to",cy,top 18,false⟩::OY
def jz:cA (Γ.at OZ false) "least_before" bR (top 25):=stM λ_ _ _ _ _ _=>Hd.L1 λ_ _ _ _=>rfl
noncomputable def O0:eK:=⟨"least_before","least_before",bR,top 25,false⟩::OZ
def jy:cA (Γ.at O0 false) "direction_of" aB (top 24):=stM λ_ _ _ _ _ _=>Hd.vG λ_ _=>rfl
noncomputable def O1:eK:=⟨"direction_of","direction_of",aB,top 24,false⟩::O0
def hX:cA (Γ.at O1 false) "headings_before" bt (top 26):=stM λ_ _ _ _ _ _=>Hd.L1 λ_ _ _ _=>rfl
noncomputable def O2:eK:=⟨"headings_before","headings_before",bt,top 26,false⟩::O1
def dG:cA (Γ.at O2 true) "spread" aE (top 20):=stM λ_ _ _ _ _ _=>Hd.vG λ_ _=>rfl
noncomputable def O3:eK:=⟨"spread@headings_before","spread",aE,top 20,true⟩::O2
def fF:cA (Γ.at O3 true) "spread" bo (top 20):=stM λ_ _ _ _ _ _=>Hd.vG λ_ _=>rfl
noncomputable def O4:eK:=⟨"spread@steps_to","spread",bo,top 20,true⟩::O3
def o9:cA (Γ.at O4 true) "spread_to" cO (top 21):=stM λ_ _ _ _ _ _=>Hd.Fi λ_ _ _=>rfl
noncomputable def O5:eK:=⟨"spread_to","spread_to",cO,top 21,true⟩::O4
def xA:cA (Γ.at O5 false) "traced" eW (top 22):=stM λ_ _ _ _ _ _=>Hd.vG λ_ _=>rfl
noncomputable def O6:eK:=⟨"traced","traced",eW,top 22,false⟩::O5
def lP:cA (Γ.at O6 true) "straightest" bO (top 27):=stM λ_ _ _ _ _ _=>Hd.L1 λ_ _ _ _=>rfl
noncomputable def O7:eK:=⟨"straightest","straightest",bO,top 27,true⟩::O6
def gN:cA (Γ.at O7 false) "_law_turned_spot" aG (top 35):=stM λ_ _ _ _ _ _=>Hd.Fi λ_ _ _=>rfl
noncomputable def O8:eK:=⟨"_law_turned_spot","_law_turned_spot",aG,top 35,false⟩::O7
def o5:cA (Γ.at O8 false) "_law_once" bV (top 36):=stM λ_ _ _ _ _ _=>Hd.JJ λ_=>rfl
noncomputable def LW:eK:=⟨"_law_once","_law_once",bV,top 36,false⟩::O8
def ID:cA (Γ.at LW false) "law" mP (top 37):=stM λ_ _ _ _ _ _=>Hd.JJ λ_=>rfl
def i3(P:Params):fu (K P) 127 123:=⟨Hd.co "spread" 338 57 2 122 (.ref 124) (.ref 125) 126 350,_,_,_,_,_,_,_,_,by kernel_rfl,rfl,rfl,rfl,rfl,rfl,rfl,rfl,rfl,by decide⟩
def iq(P:Params):fu (K P) 134 130:=⟨Hd.co "spread_to" 353 70 3 129 (.ref 131) (.ref 132) 133 362,_,_,_,_,_,_,_,_,by kernel_rfl,rfl,rfl,rfl,rfl,rfl,rfl,rfl,rfl,by decide⟩
def fR(P:Params):fu (K P) 167 165:=⟨Hd.co "straightest" 413 97 4 164 .none .none 166 416,_,_,_,_,_,_,_,_,by kernel_rfl,rfl,rfl,rfl,rfl,rfl,rfl,rfl,rfl,by decide⟩
def KA(ns:List Int)(hl:ns.length<=63):az (den (tab LW)) mP [.lst (ns.map .int)]=.ok (.bl true):=Kz ns hl
def MS(P:Params):AllK (K P) ts Γ LW:=
 Hd.ac (Hd.ent 220 219 m4) o5 <| Hd.ac (Hd.ent 213 212 m4) gN <| Hd.ac (Hd.B0 168 167 165 m3 (fR P) (by decide+kernel) (by decide+kernel)) lP <| Hd.ac (Hd.ent 142 141 m2) xA <| Hd.ac (Hd.B0 135 134 130 m2 (iq P) (by decide+kernel) (by decide+kernel)) o9 <| Hd.ac (Hd.B0 128 127 123 m2 (i3 P) (by decide+kernel) (by decide+kernel)) fF <| Hd.ac (Hd.B0 128 127 123 m2 (i3 P) (by decide+kernel) (by decide+kernel)) dG <| Hd.ac (Hd.ent 163 162 m3) hX <| Hd.ac (Hd.ent 149 148 m3) jy <| Hd.ac (Hd.ent 156 155 m3) jz <| Hd.ac (Hd.ent 121 120 m1) ra <| Hd.ac (Hd.ent 116 115 m1) mz <| Hd.ac (Hd.ent 88 87 m1) gh <| Hd.ac (Hd.ent 109 108 m1) pd <| Hd.ac (Hd.ent 102 101 m1) gO <| Hd.ac (Hd.ent 81 80 m1) o7 <| Hd.ac (Hd.ent 74 73 m1) o8 <| Hd.ac (Hd.ent 67 66 m1) sQ <| Hd.ac (Hd.ent 60 59 m1) lO <| Hd.ac (Hd.ent 53 52 m1) sR <| Hd.ac (Hd.ent 95 94 m1) my <| Hd.ac (Hd.ent 206 205 m4) gf <| Hd.ac (Hd.ent 201 200 m4) mw <| Hd.ac (Hd.ent 196 195 m4) lN <| Hd.ac (Hd.ent 189 188 m4) mv <| Hd.ac (Hd.ent 182 181 m4) o6 <| Hd.ac (Hd.ent 175 174 m4) oZ <| Hd.ac (Hd.ent 46 45 m1) q9 trivial
structure Jw(K:zz8)(d:Str)(D:Addr):Prop where
 e:PySem.W.nsIn K mainGlobals d=some (some (.ref D))
 xc:Fg K D
 vt:PySem.W.kitOne K (.ref D) (.type "ValueError")=some true
 ex:PySem.W.excIn K D yv "ValueError.__new__"=true
def MY{K:zz8}{d:Str}{D:Addr}(e:PySem.W.nsIn K mainGlobals d=some (some (.ref D)):=by kernel_rfl)(i:PySem.W.isClsIn K D=true:=by kernel_rfl)(v:PySem.W.subIn K (.ref D) (.type "ValueError")=some true:=by kernel_rfl)(ga:PySem.W.findIn K (.ref D) "__getattribute__"=some (some (.builtin "BaseException.__getattribute__")):=by kernel_rfl)(hk:PySem.W.findIn K (.ref D) "__getattr__"=some none:=by kernel_rfl)
 (cl:PySem.W.findIn K (.ref D) "__class__"=some (some (.builtin "object.__class__")):=by kernel_rfl) (mo:PySem.W.mroIn K D (.type "object")=some true:=by kernel_rfl) (mb:PySem.W.mroIn K D (.type "BaseException")=some true:=by kernel_rfl) (ex:PySem.W.excIn K D yv "ValueError.__new__"=true:=by kernel_rfl):Jw K d D:=
 ⟨e,⟨ga,hk,cl,mo,mb,i⟩,zi (by decide+kernel) v,ex⟩
def NW(P:Params){mg:Str->Option Value}{h:Heap}(X:(K P).In h)(G:h.Ns mainGlobals mg):rE (K P) mg Γ ⟨K P,mg,["NoSpot"],ts⟩:=by
 have Jo:∀{x:Str} {u:Value},PySem.W.nsIn (K P) mainGlobals x=some (some u)->mg x=some u:=λa=>PySem.W.mg_of X G a
 have zA:∀{x:Str},PySem.W.nsIn (K P) mainGlobals x=some none->mg x=none:=λa=>PySem.W.mg_none_of X G a
 have fN:Jw (K P) "NoSpot" 37:=MY
 refine⟨rfl,rfl,λq hq=>?_,λg hg=>?_,by decide+kernel,λc hc=>?_,λd hd D hD=>?_,λc hc=>?_,λc hc=>?_,λz=>absurd z (by decide+kernel),λ_=>⟨4,⟨.type "module",some builtinsNs,.plain,#[]⟩,Jo (by kernel_rfl),by decide,by decide,by kernel_rfl,rfl,rfl,rfl⟩⟩
 ·simp! [Γ,zzm,List.not_mem_nil,or_false] at hq;rcases hq with rfl|rfl|rfl
  ·exact⟨.str "#" 225,.str "#",Jo (by kernel_rfl),⟨_,rfl⟩,λG=>.s⟩
  ·exact⟨.int 2 227,.int 2,Jo (by kernel_rfl),⟨_,rfl⟩,λG=>.i⟩
  ·exact⟨.int 3 229,.int 3,Jo (by kernel_rfl),⟨_,rfl⟩,λG=>.i⟩
 ·simp! [Γ,zzm,List.not_mem_nil,or_false] at hg;rcases hg with rfl|rfl|rfl|rfl|rfl|rfl|rfl|rfl|rfl|rfl|rfl
  ·exact zA (by kernel_rfl)
  ·exact zA (by kernel_rfl)
  ·exact zA (by kernel_rfl)
  ·exact zA (by kernel_rfl)
  ·exact zA (by kernel_rfl)
  ·exact zA (by kernel_rfl)
  ·exact zA (by kernel_rfl)
  ·exact zA (by kernel_rfl)
  ·exact zA (by kernel_rfl)
  ·exact zA (by kernel_rfl)
  ·exact zA (by kernel_rfl)
 ·simp! [Γ,zzm,List.not_mem_nil,or_false] at hc
 ·simp! [zzm,List.not_mem_nil,or_false] at hd;rcases hd with rfl
  ·cases(Jo fN.e).symm.trans hD;refine⟨fN.xc,λc hc C hC=>?_,fN.vt⟩
   simp! [Γ,zzm,List.not_mem_nil,or_false] at hc
 ·simp! [Γ,zzn,zzm,List.not_mem_nil,or_false] at hc⊢;exact hc
 ·simp! [Γ,zzn,zzm,List.not_mem_nil,or_false] at hc;rcases hc with rfl
  ·exact⟨_,Jo fN.e,fN.ex⟩
def hY{P:Params}{h:Heap}(X:(K2 P).In h):(K P).In h/\∀p∈ts.map (·.1),h.get? p=some (PySem.W.tabObj #[]):=⟨λb o e=>X b o (Hd.zx e),λp hp=>by
 simp! [ts,zzF,List.map_nil,zzm,List.not_mem_nil,or_false] at hp;rcases hp with rfl|rfl|rfl
 ·exact X _ _ (by kernel_rfl)
 ·exact X _ _ (by kernel_rfl)
 ·exact X _ _ (by kernel_rfl)
⟩
def hC(P:Params):∀p∈ts.map (·.1),(∃c,fu (K P) c p)/\(K P).lookup p=none:=λp hp=>by
 simp! [ts,zzF,List.map_nil,zzm,List.not_mem_nil,or_false] at hp;rcases hp with rfl|rfl|rfl
 ·exact⟨⟨_,i3 P⟩,by kernel_rfl⟩
 ·exact⟨⟨_,iq P⟩,by kernel_rfl⟩
 ·exact⟨⟨_,fR P⟩,by kernel_rfl⟩
noncomputable def keep:List Nat:=[1,2,4,5,6,7,8,9,10,11,12,13,14,15,16,17,18,20,21,22,24,25,26,27,29,30,31,32,33,34,35,36,37]
def ka:∀P,as=(K2 P).map (·.1):=λ_=>by kernel_rfl
def left:PySem.W.LeftO lw.row.prog (PySem.W.view lw.row.prog keep) [] (λs=>PySem.W.xlAt (PySem.W.view lw.row.prog keep) [] s&&PySem.W.recOk lw.row.toRowW.records s) (PySem.W.kHook K2 as ka).obs (PySem.W.kHook K2 as ka).val 2828:=by
 refine Hd.CN (T₀:=λP=>Hd.treeOf (PySem.W.boot_heap P).objs.toList) (m₀:=11) (life:={}) (ann:=some (.ref 6)) (M:=2778) (by kernel_rfl) (by kernel_rfl) (λs=>by kernel_rfl) Hd.JQ Hd.JR (by kernel_rfl) λw os=>?_
 rw [PySem.W.Fast.te10156331382660048174,PySem.W.Fast.te11892475500146522536,PySem.W.Fast.te14364793385576792824,PySem.W.Fast.te6613529449190102663,PySem.W.Fast.te4187177175401517315,PySem.W.Fast.te5923862056798008813]
 kernel_rfl
end K22
open PySem PySem.W PyProof.Rows
set_option maxRecDepth 100000 in
set_option maxHeartbeats 0 in
theorem PySem.Challenge.cw_cellways_k22_whole_turned_about_holds : PySem.Challenge.rw_cellways_k22_whole_turned_about.Holds := by
 refine Hd.holds (d:=⟨"law",L2.cW (K22.top 37),L2.cE (K22.top 37),L2.aQ (K22.top 37),Hd.M0 (K22.top 37)⟩) (by kernel_rfl) K22.ka K22.left (by kernel_rfl) (by kernel_rfl) (by kernel_rfl) (by kernel_rfl) ⟨rfl,rfl,rfl,rfl,rfl,by decide+kernel⟩ ?hw ?hc
 case hw=>w_witness2
 case hc=>exact Ci.walk (l:=PySem.Challenge.rw_cellways_k22_whole_turned_about) K22.LW K22.Γ "_law_script" K22.mP ["NoSpot"] K22.ts (K22.top 37) false rfl rfl rfl rfl rfl ⟨λ_=>rfl,by decide,by decide⟩ (λw h Y=>K22.hY (PySem.W.kIn_of Y)) (λw=>K22.hC w.params) (λw mg h KX G=>K22.NW _ KX G) (λw=>Hd.ent 225 224 K22.m4) K22.ID (List.cons_ne_nil _ _) (λw=>K22.MS _) K22.KA
#print axioms PySem.Challenge.cw_cellways_k22_whole_turned_about_holds
