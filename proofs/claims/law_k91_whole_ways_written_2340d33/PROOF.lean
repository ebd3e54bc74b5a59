import PyProof.Rows.All
import Wide.All
import OpenK.AllK
import Wide.FinOn
import Lean
import PyProof.EqAt
import PyProof.EqKinds
import PyProof.TupleCall
import PySem.Challenge.RW_cellways_k91_whole_ways_written
set_option Elab.async false
set_option tactic.hygienic false
set_option linter.all false
set_option genSizeOf false
set_option genSizeOfSpec false
set_option bootstrap.genMatcherCode false
set_option compiler.extract_closed false
set_option compiler.reuse false
set_option maxRecDepth 100000
abbrev zz8:=PySem.W.Frag
local macro_rules | `(zz9 $x) => `(($x).heap.objs.size)
local macro_rules | `(tactic| simp! [$x,*] $[$l:location]?) => `(tactic| simp only [$x,*] $[$l]?)
theorem zzf:¬false=true:=Bool.false_ne_true
theorem zza(a b:Bool):((a&&b)=true)=(a=true/\b=true):=Bool.and_eq_true a b
theorem zzg.{u}{a:Type u}{l:List a}{i:Nat}(h:i<l.length):l[i]?=some l[i]:=List.getElem?_eq_getElem h
theorem zzl.{u,v}{a:Type u}{b:Type v}{l:List a}(f:a->b):(l.map f).length=l.length:=List.length_map f
def zzN:=@decide_eq_true_eq
def zzY:=@of_decide_eq_true
def zzh:=@decide_eq_true
def zzq:=@Option.some.inj
def zzy:=@beq_iff_eq
def zz0:=@decide_eq_false
open PySem renaming wpAny_bind→aT,wpAny_pure→b4,Value→i1,Shared→i2,Addr→i6,Expr→jj,wpAny→jk,Program→jm,World→kd,model→kn,Around→ku,Scope→kv,Heap→kB,sizeLine→k6,Stmt→k7,mainGlobals→k8,Builtin→la,Arguments→lq,cellsFrom→lE
open PySem.Heap renaming get?_push_of_some→a5,lt_size→dn,get?_push_size→et
open List renaming size_toArray→a7,mem_of_getElem?→a9,map_cons→bf,getElem?_eq_some_iff→cP,mem_cons_of_mem→c3,getD_eq_getElem?_getD→c5,length_cons→c6,length_append→dj,mem_cons_self→dV,getElem?_map→d0,mem_append_right→ea,getElem?_set_ne→ed,all_eq_true→ef,mem_append_left→ey,mem_singleton→e6,any_eq_true→fi,mem_cons→fP,contains_iff_mem→fS,getElem?_set_self→gv,getElem?_append_left→gR,getElem?_append_right→gS,mem_map→hG,mem_filterMap→hI,filter_cons→hL,lookup_cons→hV,append_nil→hW,replicate→l0
open Nat renaming le_refl→bc,le_trans→eg,lt_of_le_of_lt→el,lt_of_lt_of_le→eo,ne_of_lt→ew
open Option renaming map_eq_some_iff→c4,bind_eq_some_iff→eu,isSome_iff_exists→gG,some→ia,none→ie
open Array renaming length_toList→eH
open Bool renaming false_eq_true→eM,or_eq_true→gU,true→ig,false→iv
open False renaming elim→fA
open PySem.Heap.SameBut renaming update→hD
open Int renaming eq_ofNat_of_zero_le→hF,toNat_natCast→hU
open PySem.Around renaming under_plainId→h9
open And renaming intro→lM
abbrev ml:=PySem.Value->PySem.Shared->Prop
abbrev mn:=List (PySem.Addr×PySem.Obj)
abbrev mq:=List (List Int)
abbrev mx:=List Int->List Int->Int->Prop
local macro_rules|`(zx6 $x)=>`(by simpa using $x)
def zy0:Nat->Lean.Syntax->Lean.MacroM (Lean.TSyntax `rcasesPat)
 |n+1,t=>do match t with
  |`(($a,$b,*))=>let q<-(#[a]++b.getElems).mapM fun x=>do`(Lean.Parser.Tactic.rcasesPatLo|$(<-zy0 n x):rcasesPat)
                 `(rcasesPat|⟨$q,*⟩)
  |`($x:ident)=>`(rcasesPat|$x:ident)
  |`(_)=>`(rcasesPat|_)
  |_=>Lean.Macro.throwUnsupported
 |_,_=>Lean.Macro.throwUnsupported
local macro_rules|`(tactic|let $p:term:=$e)=>do let q<-zy0 19 p;let k:=Lean.mkIdent (.mkSimple s!"K{hash (toString p.raw)%997}");if q.raw[1].getNumArgs<4 then`(tactic|obtain $q:rcasesPat:=$e)else`(tactic|first|(refine Classical.byContradiction fun $k=>?_;obtain $q:rcasesPat:=$e;refine $k ?_;clear $k)|obtain $q:rcasesPat:=$e)
local macro_rules(kind:=«term{_}»)|`({$x,*})=>`(⟨$x,*⟩)
open PySem
variable{us:List i1}{x y g qual z:Str}{u k ns:List Int}{h h' base:kB}{d j c r cl pr:Int}{o:Obj}{e body:jj}{a:i6}{ks:mq}{P prog:jm}{w:kd}{t' x1 kk:Nat}{N rows:List Str}{A:ku}{R:List (Str×Int)}{pos np:Pos}{mg:Str->Option i1}{outer:List Env}{st:k7}{idx:List Nat}{elts:List jj}{sl:Bool}
local macro_rules|`(zx7 $x $y*)=>`(PySem.wpAny (PySem.model ($x).prog ($x).w) ($x).A $y*)
local macro_rules|`(abbrev $i:declId $s:optDeclSig:=$v)=>`(noncomputable def $i $s:optDeclSig:=$v)|`(abbrev $i:declId $s:optDeclSig $v:declValEqns)=>`(noncomputable def $i $s:optDeclSig $v:declValEqns)
set_option hygiene false
local macro_rules|`(zv0 $x)=>`(ez (eK P w) P w K mg base N qual scope f cd A outer s0 H0 $x)
local macro_rules|`(zv1 $x)=>`(eQ Γ F W N sc k E $x)
local macro_rules|`(zv2 $x)=>`(Inv X aa σ H $x)
local macro_rules|`(zv3 $x)=>`(dY Γ F W N sc k $x)
set_option hygiene true
open PySem
set_option hygiene false
local macro_rules|`(zx2 $a $b $c $d)=>`(⟨$a,$a,$b,K91.top $c,$d⟩)
local macro_rules|`(zx5 $a $n $b $c $d $e $f)=>do let k:=(⟨e.raw⟩:Lean.NumLit).getNat;`(($a,Hd.co $n $b $c $d $e (.ref $(Lean.quote (k+2))) (.ref $(Lean.quote (k+3))) $(Lean.quote (k+4)) $f))|`(zx3 $a $n $c $m)=>do let k:=(⟨a.raw⟩:Lean.NumLit).getNat;`(($a,Hd.fo $n (K91.top $c) $m $(Lean.quote (k-1))))
set_option hygiene true
local macro_rules|`(zu $n)=>return Lean.Syntax.mkStrLit (("enumerate|<lambda>|is_list_of_open_spots|_law_pick|need_open|is_positive_count|headings_before|direction_of|straightest|open_spots_beside|has_open_corners|dict_keyiterator|step_cost|written_runs|ValueError.__new__|is_open|__debug__|0123456789|spread_to|ValueError|spread@headings_before|_law_walker|least_before|FloorError|__classdict__|read_runs|steps_to|is_count|spot_beside|is_on_floor|costs_along|steps_from|read_place|after_step|_law_spots|_law_floor|least_way|_law_once|BaseException|are_beside|__name__|tuple_iterator|height_at|__static_attributes__|StopIteration|read_spot|_law_cell|_law_script|spread@steps_to|read_run|is_whole".splitOn "|")[(⟨n.raw⟩:Lean.NumLit).getNat]!)
namespace L2
open PySem.Spec PyProof.Rows
noncomputable abbrev Key:=Sum Int Str
abbrev m9:Key->i1->Bool
 |.inl k,v=>i1.isInt k v|.inr x,v=>i1.isStrOf x v
abbrev Tu(w:kd):Key->Int
 |.inl k=>hashInt k|.inr x=>hashStr w x
theorem bE:∀{k:Key} {v:i1},m9 k v=ig->(∃i t,k=Sum.inl i/\v=i1.int i t)\/(∃x t,k=Sum.inr x/\v=i1.str x t)
 |.inl i,v,h=>by let(t,e):=i1.isInt_shape (k:=i) (v:=v) h;exact .inl ⟨i,t,rfl,e⟩|.inr x,v,h=>by let(t,e):=i1.isStrOf_shape (x:=x) (v:=v) h;exact .inr ⟨x,t,rfl,e⟩
def An(i:Int)(t:Tok):m9 (.inl i) (.int i t)=ig:=by simp [m9,i1.isInt]
def Ao(x:Str)(t:Tok):m9 (.inr x) (.str x t)=ig:=by simp [m9,i1.isStrOf]
def LN(a b:Int):decide ((Sum.inl a:Key)=Sum.inl b)=(a==b):=by
 by_cases e:a=b
 .subst e;simp
 .have h:¬(Sum.inl a:Key)=Sum.inl b:=λq=>e (Sum.inl.inj q);rw [zz0 h];exact(beq_eq_false_iff_ne.mpr e).symm
def LQ(a b:Str):decide ((Sum.inr a:Key)=Sum.inr b)=decide (a=b):=by
 by_cases e:a=b
 .subst e;simp
 .have h:¬(Sum.inr a:Key)=Sum.inr b:=λq=>e (Sum.inr.inj q);rw [zz0 h,zz0 e]
def LO(a:Int)(b:Str):decide ((Sum.inl a:Key)=Sum.inr b)=iv:=zz0 nofun
def LP(a:Str)(b:Int):decide ((Sum.inr a:Key)=Sum.inl b)=iv:=zz0 nofun
noncomputable def bx(prog:jm)(w:kd):PySem.KeyKind prog w Key where
 is:=m9
 hash:=Tu w
 inj:=λv a b g f=>by
  rcases bE g with⟨i,t,rfl,rfl⟩|⟨x,t,rfl,rfl⟩
  .rcases bE f with⟨j,u,rfl,e⟩|⟨y,u,rfl,e⟩
   .injection e with c _;rw [c]
   .exact nomatch e
  .rcases bE f with⟨j,u,rfl,e⟩|⟨y,u,rfl,e⟩
   .exact nomatch e
   .injection e with c _;rw [c]
 byValue:=λk v h=>by rcases bE h with⟨i,t,rfl,rfl⟩|⟨x,t,rfl,rfl⟩<;>rfl
 pyHash:=λd h=>by
  rcases bE d with⟨i,t,rfl,rfl⟩|⟨x,t,rfl,rfl⟩
  .exact wpAny_pyHash_int h
  .exact wpAny_pyHash_str h
 eqBool:=λm d h=>by
  rcases bE m with⟨i,t,rfl,rfl⟩|⟨x,t,rfl,rfl⟩
  .rcases bE d with⟨j,u,rfl,rfl⟩|⟨y,u,rfl,rfl⟩
   .rw [LN] at h;exact wpAny_eqBool_int h
   .rw [LO] at h;exact SeqAt.EqAt.int_str i t y u _ _ _ _ h
  .rcases bE d with⟨j,u,rfl,rfl⟩|⟨y,u,rfl,rfl⟩
   .rw [LP] at h;exact SeqAt.EqAt.str_int x t j u _ _ _ _ h
   .rw [LQ] at h;exact wpAny_eqBool_str h
 «strs»:=λk x t v h=>by
  rcases bE h with⟨i,u,rfl,e⟩|⟨y,u,rfl,e⟩
  .exact nomatch e
  .injection e with c _
   subst c;cases v<;>rfl
def uH(prog:jm)(w:kd)(i:Int)(t:Tok):(bx prog w).is (.inl i) (.int i t)=ig:=An i t
def uI(prog:jm)(w:kd)(x:Str)(t:Tok):(bx prog w).is (.inr x) (.str x t)=ig:=Ao x t
inductive V where
 |aG|bl (b:Bool)|int (i:Int)|str (x:Str)|Sn (b:Array UInt8)|Sz (b:UInt64)|ref (a:i6)|ty (n:String)
 deriving DecidableEq
variable{v:V}{vs:List V}
def RelV:V->i1->Prop
 |.aG,u=>u=i1.none|.bl b,u=>u=i1.bool b|.int i,u=>∃t,u=i1.int i t|.str x,u=>∃t,u=i1.str x t|.Sn b,u=>∃t,u=i1.bytes b t|.Sz b,u=>∃t,u=i1.float b t|.ref a,u=>u=i1.ref a|.ty n,u=>u=i1.type n
noncomputable abbrev Vals:List V->List i1->Prop:=Paired RelV
def Vals.length{xs:List V}(r:Vals xs us):xs.length=us.length:=Paired.length r
theorem Vals.get:∀{xs:List V} {us:List i1} {i:Nat} {x:V},Vals xs us->xs[i]?=ia x->∃u,us[i]?=ia u/\RelV x u
 |_,_,_,_,.nil,e=>by simp at e|_,_,0,_,.cons r _,e=>by simp at e;subst e;exact{_,rfl,r}|_,_,i+1,x,.cons _ t,e=>by let(u,a,b):=Vals.get (i:=i) (x:=x) t (zx6 e);exact{u,zx6 a,b}
theorem Vals.set{x:V}{u:i1}(r:RelV x u):∀{xs:List V} {us:List i1} (i:Nat),Vals xs us->Vals (xs.set i x) (us.set i u)
 |_,_,_,.nil=>.nil|_,_,0,.cons _ t=>.cons r t|_,_,i+1,.cons q t=>.cons q (Vals.set r i t)
theorem Vals.append:∀{xs ys:List V} {us ws:List i1},Vals xs us->Vals ys ws->Vals (xs++ys) (us++ws)
 |_,_,_,_,.nil,s=>s|_,_,_,_,.cons r t,s=>.cons r (Vals.append t s)
theorem Vals.take:∀{xs:List V} {us:List i1} (n:Nat),Vals xs us->Vals (xs.take n) (us.take n)
 |_,_,0,_=>.nil|_,_,_+1,.nil=>.nil|_,_,n+1,.cons r t=>.cons r (Vals.take n t)
theorem Vals.drop:∀{xs:List V} {us:List i1} (n:Nat),Vals xs us->Vals (xs.drop n) (us.drop n)
 |_,_,0,r=>r|_,_,_+1,.nil=>.nil|_,_,n+1,.cons _ t=>Vals.drop n t
def lB:Option V->Option i1->Prop
 |some v,ia u=>RelV v u|none,ie=>True|_,_=>False
def KV{a:Type}:List (a×V)->List (a×i1)->Prop:=Paired λ(p:a×V) (q:a×i1)=>p.1=q.1/\RelV p.2 q.2
abbrev kV:Key->V
 |.inl i=>.int i|.inr x=>.str x
inductive bj where
 |k (x:Key)|n|t (ks:List Key)
deriving DecidableEq
section
def bj.is(P:jm)(w:kd)(h:kB):bj->i1->Prop
 |.k x,v=>(bx P w).is x v=ig|.n,v=>v=.none|.t ks,v=>∃b,v=.ref b/\IsTupleKey (bx P w) h ks b
abbrev bj.hash(P:jm)(w:kd):bj->Int
 |.k x=>(bx P w).hash x|.n=>4238894112|.t ks=>tupleKeyHash (bx P w) ks
abbrev bj.dr:bj->Nat
 |.k _=>1|.n=>1|.t ks=>ks.length+1
abbrev zT:List bj->Nat
 |[]=>0|x::r=>x.dr+zT r
theorem mR:∀l m:List bj,zT (l++m)=zT l+zT m
 |[],m=>(Nat.zero_add _).symm|x::l,m=>by show x.dr+zT (l++m)=x.dr+zT l+zT m;rw [mR l m,Nat.add_assoc]
def lA(P:jm)(w:kd)(h:kB)(k:List bj)(a:i6):Prop:=∃o b n,h.get? a=ia o/\o.cls=.type "tuple"/\o.data=.seq b n/\Paired (bj.is P w h) k b.toList
def dm{x:Key}{v:i1}(h:(bx P w).is x v=ig):(∃i t,x=.inl i/\v=.int i t)\/∃z t,x=.inr z/\v=.str z t:=by
 rcases bE (show m9 x v=ig from h) with⟨i,t,rfl,rfl⟩|⟨z,t,rfl,rfl⟩
 .exact .inl ⟨i,t,rfl,rfl⟩
 .exact .inr ⟨z,t,rfl,rfl⟩
theorem bj.inj{v:i1}:∀{x y:bj},x.is P w h v->y.is P w h v->x=y
 |.k x,.k y,a,b=>congrArg _ ((bx P w).inj _ _ _ a b)|.k x,.n,a,b=>by cases(b:v=.none);rcases dm a with⟨_,_,_,e⟩|⟨_,_,_,e⟩<;>cases e
 |.k x,.t ks,a,b=>by
  let(_,rfl,_):=b
  rcases dm a with⟨_,_,_,e⟩|⟨_,_,_,e⟩<;>cases e
 |.n,.k y,a,b=>by cases(a:v=.none);rcases dm b with⟨_,_,_,e⟩|⟨_,_,_,e⟩<;>cases e
 |.n,.n,_,_=>rfl|.n,.t ks,a,b=>by let(_,rfl,_):=b;cases(a:i1.ref _=.none)
 |.t ks,.k y,a,b=>by
  let(_,rfl,_):=a
  rcases dm b with⟨_,_,_,e⟩|⟨_,_,_,e⟩<;>cases e
 |.t ks,.n,a,b=>by let(_,rfl,_):=a;cases(b:i1.ref _=.none)
 |.t ks,.t ls,a,b=>by let(c,rfl,a):=a;let(d,e,b):=b;cases e;exact congrArg _ (a.inj b)
theorem j2:∀{x y:List bj} {vs:List i1},Paired (bj.is P w h) x vs->Paired (bj.is P w h) y vs->x=y
 |_,_,_,.nil,.nil=>rfl|_,_,_,.cons a l,.cons b m=>by rw [bj.inj a b,j2 l m]
theorem bj.keeps{d:i6}{c:Array DictEntry}{f:Nat}(g:h.get? d=ia o)(hd:o.data=.dict c f)(hs:kB.SameBut d h h'):∀{x:bj} {v:i1},x.is P w h v->x.is P w h' v
 |.k _,_,a=>a|.n,_,a=>a|.t _,_,⟨b,e,a⟩=>{b,e,a.keeps g hd hs}
theorem qb{d:i6}{c:Array DictEntry}{e:Nat}(b:h.get? d=ia o)(hd:o.data=.dict c e)(hs:kB.SameBut d h h'):∀{l:List bj} {vs:List i1},Paired (bj.is P w h) l vs->Paired (bj.is P w h') l vs
 |_,_,.nil=>.nil|_,_,.cons a t=>.cons (bj.keeps b hd hs a) (qb b hd hs t)
variable{E:ml}{s:i2}
def kb{Q:Int->i2->Prop}(h:Q 4238894112 {s with toks:=s.toks+1}):jk (kn P w) A (pyHash .none) Q E s:=by
 have b:=typeIs_none s;unfold pyHash;have c:[i1.none].any i1.onHeap=iv:=rfl
 refine aT ?_;rw [cRoomFor,if_neg (by rw [c];exact zzf)];refine b4 ?_;refine aT (wpAny_specialOf b F.slot_NoneType_hash.lookup ?_);show jk _ _ (if(ia (i1.builtin "NoneType.__hash__")==ia i1.none)=ig then _ else _) Q E s;rw [if_neg (by rw [beq_builtin_none];exact zzf)];refine aT (wpAny_specialOf b F.slot_NoneType_hash.lookup ?_);show jk _ _ (callSpecialIfBoundUnlessNone? .none "__hash__" _>>=_) Q E s;refine aT (wpAny_callSpecialIfBoundUnlessNone?_slot b F.slot_NoneType_hash (wpAny_call_entry F.slot_NoneType_hash b F.entry_NoneType_hash
  (show jk _ _ (do ret (<-mkInt 4238894112)) _ _ s from wpAny_ret_mkInt ?_) (F.args_NoneType_hash_1 _)))
 show jk _ _ (if(decide (-(2:Int)^63<=4238894112)&&decide ((4238894112:Int)<2^63))=ig then _ else _) Q E _;rw [if_pos (by decide)];exact b4 h
def bj.pyHash(c:A.units<cLine){x:bj}{v:i1}{Q:Int->i2->Prop}(a:x.is P w s.heap v)(h:Q (x.hash P w) {s with toks:=s.toks+x.dr}):jk (kn P w) A (PySem.pyHash v) Q E s:=by
 cases x with
 |k x=>exact(bx P w).pyHash a h|n=>cases(a:v=.none);exact kb h
 |t e=>let(b,rfl,d):=a;exact wpAny_pyHash_tuple c d h
abbrev wy(P:jm)(w:kd)(k:List bj):Int:=reduceHash (la.Tuple.tupleHashOf (k.map (bj.hash P w)))
theorem lA.typeIs{k:List bj}(x:lA P w s.heap k a):s.TypeIs (.ref a) "tuple":=let⟨o,_,_,b,c,_⟩:=x;⟨o,b,c⟩
def AD{k:List bj}{Q:Int->i2->Prop}(p:A.units+1<cLine)(hk:lA P w s.heap k a)(h:Q (wy P w k) {s with toks:=s.toks+(zT k+1)}):jk (kn P w) A (PySem.pyHash (.ref a)) Q E s:=by
 have d:=hk.typeIs;let(o,i,n,r,_,hd,t):=hk;unfold PySem.pyHash
 first|unfold pyHashByItsType|skip
 first|refine aT (wpAny_cRoomFor_or (.inr (by omega)) ?_)|skip
 refine aT (wpAny_specialOf d F.slot_tuple_hash.lookup ?_);show jk _ _ (if(ia (i1.builtin "tuple.__hash__")==ia i1.none)=ig then _ else _) Q E s;rw [if_neg (by rw [beq_builtin_none];exact zzf)];refine aT (wpAny_specialOf d F.slot_tuple_hash.lookup ?_);show jk _ _ (callSpecialIfBoundUnlessNone? (.ref a) "__hash__" _>>=_) Q E s;refine aT (wpAny_callSpecialIfBoundUnlessNone?_slot d F.slot_tuple_hash (wpAny_call_entry F.slot_tuple_hash d F.entry_tuple_hash ?_ (F.args_tuple_hash_1 _)));show jk _ _ (la.Tuple.tupleItemsOf (.ref a)>>=_) _ _ s;refine aT (wpAny_tupleItemsOf r hd ?_);refine aT ?_;rw [<-Array.forIn_toList];refine wpAny_forIn_list _
  (λrest (b:Array Int) j=>∃done left,k=done++left/\Paired (bj.is P w s.heap) left rest/\b.toList=done.map (bj.hash P w)/\j={s with toks:=s.toks+zT done})
  _ ?_ ?_ _ _ {[],k,rfl,t,rfl,rfl}
 .rintro x rest b j ⟨done,left,rfl,hl,f,rfl⟩
  cases hl with
  |@cons q _ c _ u m=>
   refine aT (bj.pyHash (s:={s with toks:=s.toks+zT done}) p u ?_);have e:zT (done++[q])=zT done+q.dr:=mR done [q]
   first
    |exact b4 ⟨done++[q],c,by simp,m,by simp [f],by rw [e,Nat.add_assoc]⟩
    |exact aT (b4 (b4 ⟨done++[q],c,by simp,m,by simp [f],by rw [e,Nat.add_assoc]⟩))
 .rintro b j ⟨done,left,rfl,hl,f,rfl⟩
  cases hl;rw [hW] at h;show jk _ _ (retInt (la.Tuple.tupleHashOf b.toList)) _ _ _;rw [f];refine wpAny_ret_mkInt ?_;show jk _ _ (if(decide (-(2:Int)^63<=la.Tuple.tupleHashOf (done.map (bj.hash P w)))&&decide (la.Tuple.tupleHashOf (done.map (bj.hash P w))<2^63))=ig then _ else _) Q E _;unfold wy reduceHash at h;by_cases g:(decide (-(2:Int)^63<=la.Tuple.tupleHashOf (done.map (bj.hash P w)))&&decide (la.Tuple.tupleHashOf (done.map (bj.hash P w))<2^63))=ig
  .rw [if_pos g];rw [if_pos g] at h;exact b4 (by simpa [Nat.add_assoc] using h)
  .rw [if_neg g];rw [if_neg g] at h;exact aT (wpAny_rule (b4 (by simpa [Nat.add_assoc] using h)))
def fv{ks:List Key}{b:i6}(h:IsTupleKey (bx P w) s.heap ks b):∃a,s.heap.IsTuple b a:=by let(o,a,n,c,d,hd,_):=h;exact⟨a,o,c,d,n,hd⟩
theorem bj.eq(j:A.units+1<cLine):∀{x y:bj} {u v:i1},x.is P w s.heap u->y.is P w s.heap v->∀{Q:Bool->i2->Prop},Q (decide (x=y)) s->jk (kn P w) A (PySem.eqBool u v) Q E s
 |.k x,.k y,u,v,a,b,Q,h=>(bx P w).eqBool a b (by rw [show decide (bj.k x=bj.k y)=decide (x=y) from decide_eq_decide.2 {λe=>bj.k.inj e,λe=>congrArg _ e}] at h;exact h)|.k x,.n,u,v,a,b,Q,h=>by
  cases(b:v=.none);rw [zz0 nofun] at h;rcases dm a with⟨i,t,rfl,rfl⟩|⟨z,t,rfl,rfl⟩
  .exact PySem.SeqAt.EqAt.int_none i t P w E Q h
  .exact PySem.SeqAt.EqAt.str_none z t P w E Q h
 |.k x,.t ks,u,v,a,b,Q,h=>by
  let(c,rfl,b):=b;let(g,f):=fv b
  rw [zz0 nofun] at h;rcases dm a with⟨i,t,rfl,rfl⟩|⟨z,t,rfl,rfl⟩
  .exact PySem.SeqAt.EqAt.int_tuple i t f (by omega) P w E Q h
  .exact PySem.SeqAt.EqAt.str_tuple z t f (by omega) P w E Q h
 |.n,.k y,u,v,a,b,Q,h=>by
  cases(a:u=.none);rw [zz0 nofun] at h;rcases dm b with⟨i,t,rfl,rfl⟩|⟨z,t,rfl,rfl⟩
  .exact PySem.SeqAt.EqAt.none_int i t P w E Q h
  .exact PySem.SeqAt.EqAt.none_str z t P w E Q h
 |.n,.n,u,v,a,b,Q,h=>by cases(a:u=.none);cases(b:v=.none);exact PySem.SeqAt.EqAt.same _ P w E Q h
 |.n,.t ks,u,v,a,b,Q,h=>by cases(a:u=.none);let(c,rfl,b):=b;let(g,f):=fv b;rw [zz0 nofun] at h;exact PySem.SeqAt.EqAt.none_tuple f (by omega) P w E Q h
 |.t ks,.k y,u,v,a,b,Q,h=>by
  let(c,rfl,a):=a;let(g,f):=fv a
  rw [zz0 nofun] at h;rcases dm b with⟨i,t,rfl,rfl⟩|⟨z,t,rfl,rfl⟩
  .exact PySem.SeqAt.EqAt.tuple_int i t f (by omega) P w E Q h
  .exact PySem.SeqAt.EqAt.tuple_str z t f (by omega) P w E Q h
 |.t ks,.n,u,v,a,b,Q,h=>by cases(b:v=.none);let(c,rfl,a):=a;let(g,f):=fv a;rw [zz0 nofun] at h;exact PySem.SeqAt.EqAt.tuple_none f (by omega) P w E Q h
 |.t ks,.t ls,u,v,a,b,Q,h=>by let(c,rfl,a):=a;let(d,rfl,b):=b;rw [show decide (bj.t ks=bj.t ls)=decide (ks=ls) from decide_eq_decide.2 {λe=>bj.t.inj e,λe=>congrArg _ e}] at h;exact wpAny_eqBool_tuple (by omega) a b h
def wA{x y:List bj}{b:i6}{R:Fin->i2->Prop}(N:A.units+1<cLine)(O:lA P w s.heap x a)(M:lA P w s.heap y b)(h:R (.done (.ret (.bool (decide (x=y))))) s):
 jk (kn P w) A (la.«tuple.__eq__» {[.ref a,.ref b],[]}) R E s:=by
 have Q:=M.typeIs;let(Z,xs,na,D,_,F,G):=O;let(ob,q,nb,H,_,S,I):=M;show jk _ _ (isInstance (.ref b) (.type "tuple")>>=_) _ _ s
 refine aT (wpAny_isInstance Q isSubtype_tuple_tuple ?_);simp! [Bool.not_true,eM,if_false];refine aT (wpAny_tupleItemsOf D F ?_);refine aT (wpAny_tupleItemsOf H S ?_);refine aT ?_;refine wpAny_forIn_list _
  (λrest r t=>r.1=ie/\t=s/\∃z B e f,rest=List.zip e f/\Paired (bj.is P w s.heap) z e/\Paired (bj.is P w s.heap) B f/\decide (z=B)=decide (x=y)/\(e.length==f.length)=(xs.size==q.size))
  _ ?_ ?_ _ _ {rfl,rfl,x,y,xs.toList,q.toList,rfl,G,I,rfl,by simp}
 .rintro ⟨u,v⟩ rest r t ⟨K,rfl,z,B,e,f,d,L,C,c,hlen⟩
  cases L with
  |nil=>simp at d|@cons T u' g i U j=>
   cases C with
   |nil=>simp at d|@cons V v' k m W o=>
    simp! [List.zip_cons_cons,List.cons.injEq,Prod.mk.injEq] at d;let((rfl,rfl),rfl):=d;refine aT (bj.eq N U W ?_);by_cases hk:T=V
    .subst hk;rw [zzh rfl];simp! [Bool.not_true,eM,if_false];refine b4 {rfl,rfl,g,k,i,m,rfl,j,o,?_,zx6 hlen};rw [<-c];by_cases p:g=k
     .simp [p]
     .simp [p]
    .rw [zz0 hk];simp! [Bool.not_false,if_true];have X:decide (x=y)=iv:=by rw [<-c];simp [hk]
     rw [X] at h;exact aT (b4 (b4 (b4 h)))
 .rintro ⟨r1,r2⟩ t ⟨K,rfl,z,B,e,f,d,L,C,c,hlen⟩
  simp only at K;subst K;refine b4 ?_;have Y:(xs.size==q.size)=decide (x=y):=by
   rw [<-c,<-hlen];cases L with
   |nil=>
    cases C with
    |nil=>simp|cons _ _=>simp
   |cons _ _=>
    cases C with
    |nil=>simp|cons _ _=>simp at d
  show R (.done (.ret (.bool (xs.size==q.size)))) t;rw [Y];exact h
def lA.inj{x y:List bj}(e:lA P w h x a)(f:lA P w h y a):x=y:=by
 let(o,c,n,g,_,hd,i):=e;let(j,b,q,k,_,d,m):=f;obtain rfl:o=j:=zzq (g.symm.trans k);rw [hd] at d
 injection d with p _
 subst p;exact j2 i m
def AB{x y:List bj}{b:i6}{Q:Bool->i2->Prop}(g:A.units+2<cLine)(c:lA P w s.heap x a)(d:lA P w s.heap y b)(h:Q (decide (x=y)) s):
 jk (kn P w) A (PySem.eqBool (.ref a) (.ref b)) Q E s:=by
 unfold PySem.eqBool
 try with_reducible refine wpAny_holding ?_
 show jk _ _ (if(i1.ref a==i1.ref b)=ig then _ else _) Q E s;by_cases f:(i1.ref a==i1.ref b)=ig
 .rw [if_pos f];have e:a=b:=by have:=eq_of_beq f;injection this
  subst e;obtain rfl:=c.inj d;exact aT (wpAny_rule (b4 (zx6 h)))
 .rw [if_neg f];exact aT (wpAny_richCompare_same_room (op:=.Eq) c.typeIs d.typeIs F.slot_tuple_eq
   (wpAny_call_entry F.slot_tuple_eq c.typeIs F.entry_tuple_eq (wA (by show A.units+1+1<_;omega) c d {_,rfl,nofun,wpAny_truthy_bool h}) (F.args_tuple_eq_2 _ _)) (by omega))
def vT(m:Nat){ks:List Key}{Q:Bool->i2->Prop}(hk:IsTupleKey (bx P w) s.heap ks a)(h:Q ig s):jk (kn P w) A (eqIsQuiet (m+1) (.ref a)) Q E s:=by
 have f:=hk.typeIs;let(o,c,n,g,_,hd,i):=hk;unfold eqIsQuiet;refine aT (wpAny_specialOf f F.slot_tuple_eq.lookup ?_);show jk _ _ (isInstance (.ref a) (.type "tuple")>>=_) _ _ s;refine aT (wpAny_isInstance f isSubtype_tuple_tuple ?_);simp! [Bool.not_true,eM,if_false];refine aT (wpAny_seqItems g hd ?_);refine aT ?_;show jk _ _ (forIn c _ _) _ _ s;rw [<-Array.forIn_toList];refine wpAny_forIn_list _ (λrest r d=>r.1=ie/\d=s/\∀v∈rest,carriedByValue v=ig) _ ?_ ?_ _ _ ⟨rfl,rfl,i.byValue⟩
 .rintro v rest r d ⟨e,rfl,b⟩
  rw [eqIsQuiet_byValue _ (b v dV)];refine aT (b4 ?_);simp! [Bool.not_true,eM,if_false];exact b4 {rfl,rfl,λu j=>b u (c3 _ j)}
 .rintro ⟨k,p⟩ d ⟨e,rfl,_⟩
  simp only at e;subst e;exact b4 h
def Dw{ks:List bj}{Q:Bool->i2->Prop}(hk:lA P w s.heap ks a)(h:Q ig s):jk (kn P w) A (eqIsQuiet 8 (.ref a)) Q E s:=by
 have g:=hk.typeIs;let(o,c,n,j,_,hd,m):=hk;unfold eqIsQuiet;refine aT (wpAny_specialOf g F.slot_tuple_eq.lookup ?_);show jk _ _ (isInstance (.ref a) (.type "tuple")>>=_) _ _ s;refine aT (wpAny_isInstance g isSubtype_tuple_tuple ?_);simp! [Bool.not_true,eM,if_false];refine aT (wpAny_seqItems j hd ?_);refine aT ?_;show jk _ _ (forIn c _ _) _ _ s;rw [<-Array.forIn_toList];refine wpAny_forIn_list _ (λrest r d=>r.1=ie/\d=s/\∃l,Paired (bj.is P w s.heap) l rest) _ ?_ ?_ _ _ ⟨rfl,rfl,ks,m⟩
 .rintro v rest r d ⟨e,rfl,l,hl⟩
  cases hl with
  |@cons x _ p _ f u=>
   have q:jk (kn P w) A (eqIsQuiet 7 v) (λb i=>b=ig/\i=d) E d:=by
    cases x with
    |k x=>rw [eqIsQuiet_byValue _ ((bx P w).byValue _ _ f)];exact b4 ⟨rfl,rfl⟩|n=>cases(f:v=.none);rw [eqIsQuiet_byValue _ rfl];exact b4 ⟨rfl,rfl⟩
    |t ks=>let(b,rfl,y):=f;exact vT 6 y ⟨rfl,rfl⟩
   refine aT (wpAny_mono q ?_ λZ Z x=>x)
   rintro b i ⟨rfl,rfl⟩
   simp! [Bool.not_true,eM,if_false];exact b4 ⟨rfl,rfl,p,u⟩
 .rintro ⟨z,B⟩ d ⟨e,rfl,_⟩
  simp only at e;subst e;exact b4 h
end
noncomputable def ic(P:jm)(w:kd):HeapKind P w (List bj) where
 is:=lA P w
 hash:=wy P w
 draws:=λp=>zT p+1
 room:=λA=>A.units+2<cLine
 inj:=λc e=>c.inj e
 keeps:=λ{h t k a d o u y} x g hd hs=>by
  let(i,b,n,j,q,f,r):=x
  have s:a≠d:=by
   rintro rfl
   obtain rfl:i=o:=zzq (j.symm.trans g);rw [hd] at f;exact nomatch f
  refine{i,b,n,(hs.2 a s).trans j,q,f,?_};exact qb g hd hs r
 pyHash:=λm hk h=>AD (by omega) hk h
 eqBool:=λm c e h=>AB m c e h
 quiet:=λhk h=>Dw hk h
inductive HO where
 |lst (xs:List V)
 |tup (xs:List V)
 |dK (ay:List (Key×V))|dT (ay:List (List bj×V))
 |set (S:Int->Bool) (n:Nat)
 |ins (C dx:i6) (fs:List (Str×V))
 |own (x:i6)
 |xd (fs:List (Str×V))
 |met (f x:i6)
 |va (lo hi:Int)
 |bq (o:Obj) (u:HO)
 |gK (ps:Array i1)
 |ext (φ:kB->Prop)
noncomputable abbrev Hp:=i6->Option HO
variable{H G H0:Hp}
def Nw(H:Hp):bj->V->Prop
 |.k x,v=>v=kV x|.n,v=>v=.aG|.t ks,v=>∃c,v=.ref c/\H c=ia (.tup (ks.map kV))
def cF(H:Hp)(b:i6)(k:List bj):Prop:=∃a,H b=ia (.tup a)/\Paired (Nw H) k a
theorem Nw.keeps{a:Hp}(d:∀b xs,H b=ia (.tup xs)->a b=ia (.tup xs)):∀{x:bj} {v:V},Nw H x v->Nw a x v
 |.k _,_,e=>e|.n,_,e=>e|.t _,_,⟨c,e,f⟩=>{c,e,d _ _ f}
def cF.keeps{a:Hp}{b:i6}{k:List bj}(x:cF H b k)(c:∀b xs,H b=ia (.tup xs)->a b=ia (.tup xs)):cF a b k:=by
 let(d,e,p):=x;refine{d,c _ _ e,?_};clear e
 induction p with
 |nil=>exact .nil|cons z _ f=>exact .cons (z.keeps c) f
noncomputable abbrev iK(i:Int):bj:=.k (.inl i)
def cF.ints{b:i6}(e:H b=ia (.tup (ns.map V.int))):cF H b (ns.map iK):=by
 refine{_,e,?_};clear e
 induction ns with
 |nil=>exact .nil|cons k c a=>exact .cons rfl a
abbrev upd(H:Hp)(a:i6)(o:HO):Hp:=λb=>if b=a then ia o else H b
def ak{o:HO}:upd H a o a=ia o:=by unfold upd;rw [if_pos rfl]
def ae{b:i6}{o:HO}(h:b≠a):upd H a o b=H b:=by unfold upd;rw [if_neg h]
def j1{b:i6}{o u:HO}(h:H a=ia o)(h':H b=ia u)(d:o≠u):a≠b:=by intro e;subst e;rw [h] at h';exact d (zzq h')
def dQ{b:i6}{o:HO}(h:H a=ia o)(h':H b=ie):a≠b:=by intro e;subst e;rw [h] at h';cases h'
section
variable(P:jm)(w:kd)
def bO(H:Hp)(h:kB)(a:i6):HO->Prop
 |.lst xs=>xs.length<=k6/\∃(c:List i1) (n:Nat),Vals xs c/\h.get? a=ia {cls:=.type "list",data:=.seq c.toArray n}|.tup xs=>xs.length<=k6/\∃c:List i1,Vals xs c/\IsTup h a c.toArray|.dK d=>d.length<=k6/\(a==sysModules)=iv/\∃vs,KV d vs/\h.DictOf (bx P w) a vs|.dT d=>d.length<=k6/\(a==sysModules)=iv/\∃xs:List (List bj×i6×i1),
  Paired (λ(p:List bj×V) (q:List bj×i6×i1)=>p.1=q.1/\cF H q.2.1 p.1/\RelV p.2 q.2.2) d xs/\
  ∃o i m,h.get? a=ia o/\o.ExactDict/\o.data=.dict i m/\i.toList=xs.map (entryOfKey (ic P w))/\(xs.map (·.1)).Nodup
 |.set S n=>h.SetOf (intKind P w) a S n|.ins C e fs=>H e=ia (.own a)/\fs.length<=1000/\e≠a/\h.get? a=ia (PySem.W.instObj C e)/\
  ∃b,h.Ns1 e b/\(∀f,lB (fs.lookup f) (b f))/\PySem.Within b (fs.map (·.1))
 |.own _=>∃o,h.get? a=ia o|.xd fs=>∃b,h.Ns1 a b/\∀f,lB (fs.lookup f) (b f)|.va lo r=>∃t u v,h.get? a=ia {cls:=.type "range",data:=.fields #[.int lo t,.int r u,.int 1 v]}|.bq o u=>h.get? a=ia o/\bO H h a u|.gK ps=>h.get? a=ia {cls:=.none,data:=.fields ps}|.met f x=>h.get? a=ia (PySem.W.methodObj (.ref f) (.ref x))|.ext g=>g h/\(∃o,h.get? a=ia o)/\∀j k:kB,g j->(∀o,j.get? a=ia o->k.get? a=ia o)->g k
def eL(H:Hp)(h:kB):Prop:=∀a o,H a=ia o->bO P w H h a o
end
section
variable{H':Hp}{o:HO}
def bO.lt(x:bO P w H h a o):a<h.objs.size:=by
 cases o with
 |lst xs=>let(_,_,_,_,e):=x;exact dn e|tup xs=>let(_,_,_,p):=x;exact p.lt|dK b=>let(_,_,_,_,o,_,_,e,_):=x;exact dn e|dT b=>let(_,_,_,_,o,_,_,e,_):=x;exact dn e|set S n=>let(o,_,_,_,e,_):=x;exact dn e|ins C c fs=>let(_,_,_,e,_):=x;exact dn e|own y=>let(_,e):=x;exact dn e|xd fs=>let(_,(_,_,_,e,_),_):=x;exact dn e|va lo d=>let(_,_,_,e):=x;exact dn e|bq g u=>let(e,_):=x;exact dn e|gK i=>exact dn (show h.get? a=ia _ from x)|met f y=>exact dn (show h.get? a=ia _ from x)|ext j=>let(_,(_,e),_):=x;exact dn e
theorem Paired.LY{d e:Type}{F G:d->e->Prop}:∀{l₁:List d} {c:List e},Paired F l₁ c->(∀a b,F a b->G a b)->Paired G l₁ c
 |_,_,.nil,_=>.nil|_,_,.cons r t,f=>.cons (f _ _ r) (Paired.LY t f)
def bO.fe(x:bO P w H h a o)(k:∀b u,(b=a\/H b=ia (.own a))->h.get? b=ia u->h'.get? b=ia u)
 (D:∀b,H b=ia (.own a)->H' b=ia (.own a)) (E:∀b xs,H b=ia (.tup xs)->H' b=ia (.tup xs)):bO P w H' h' a o:=by
 induction o with
 |lst xs=>let(z,m,n,r,e):=x;exact{z,m,n,r,k _ _ (.inl rfl) e}|tup xs=>let(z,m,r,g,e,c):=x;exact{z,m,r,g,k _ _ (.inl rfl) e,c}|dK F=>let(z,y,G,r,g,i,j,e,c):=x;exact{z,y,G,r,g,i,j,k _ _ (.inl rfl) e,c}|dT F=>let(z,y,xs,r,g,i,j,e,c):=x;exact{z,y,xs,Paired.LY r λp q z=>{z.1,z.2.1.keeps E,z.2.2},g,i,j,k _ _ (.inl rfl) e,c}|set S n=>let(g,i,j,t,e,c):=x;exact{g,i,j,t,k _ _ (.inl rfl) e,c}|ins C L fs=>let(d,z,ne,e,s,(A,i,j,I,c),r):=x;exact{D _ d,z,ne,k _ _ (.inl rfl) e,s,{A,i,j,k _ _ (.inr d) I,c},r}|own y=>let(g,e):=x;exact{g,k _ _ (.inl rfl) e}|xd fs=>let(s,(A,i,j,e,c),r):=x;exact{s,{A,i,j,k _ _ (.inl rfl) e,c},r}|va lo M=>let(t,u,v,e):=x;exact{t,u,v,k _ _ (.inl rfl) e}|bq g u K=>let(e,q):=x;exact{k _ _ (.inl rfl) e,K q}|gK B=>have e:h.get? a=ia {cls:=.none,data:=.fields B}:=x;show h'.get? a=ia {cls:=.none,data:=.fields B};exact k a _ (.inl rfl) e|met f y=>have e:h.get? a=ia (PySem.W.methodObj (.ref f) (.ref y)):=x;show h'.get? a=ia (PySem.W.methodObj (.ref f) (.ref y));exact k a _ (.inl rfl) e|ext N=>let(p,(o,e),st):=x;exact{st _ _ p λo q=>k _ _ (.inl rfl) q,{o,k _ _ (.inl rfl) e},st}
def eL.lt(x:eL P w H h)(e:H a=ia o):a<h.objs.size:=(x a o e).lt
def eL.fresh(x:eL P w H h)(e:h.objs.size<=a):H a=ie:=by
 cases q:H a with
 |none=>rfl|some u=>exact absurd (eo (x.lt q) e) (Nat.lt_irrefl _)
def eL.kept(x:eL P w H h)(k:∀b u,h.get? b=ia u->h'.get? b=ia u):eL P w H h':=λa o e=>(x a o e).fe (λb u Z q=>k b u q) (λZ q=>q) λZ Z q=>q
theorem eL.laid(x:eL P w H h)(k:∀b u,h.get? b=ia u->h'.get? b=ia u)(g:h.objs.size<=a)(new:bO P w (upd H a o) h' a o):eL P w (upd H a o) h':=λb u e=>by
 have d:=x.fresh g;by_cases f:b=a
 .subst f;rw [ak] at e;cases e;exact new
 .rw [ae f] at e;exact(x b u e).fe (λc v Z q=>k c v q) (λc q=>by rw [ae (dQ q d)];exact q) λc xs q=>by rw [ae (dQ q d)];exact q
end
def Rd(H:Hp)(a:i6)(u:HO):Prop:=H a=ia u\/∃o,H a=ia (.bq o u)
def Rd.ok{u:HO}(r:Rd H a u)(x:eL P w H h):bO P w H h a u:=by
 rcases r with r|⟨o,r⟩
 .exact x a u r
 .let(_,q):=x a _ r;exact q
def NZ:Option HO->Prop
 |some (.lst _)=>True|some (.dK _)=>True|some (.dT _)=>True|some (.set _ _)=>True|some (.ins _ _ _)=>True|some (.ext _)=>True|_=>False
section
variable{x e:i6}{o':HO}
def eL.write(ok:eL P w H h)(mu:NZ (H x))(he:e=x\/H e=ia (.own x))(k:∀b u,b≠e->h.get? b=ia u->h'.get? b=ia u)(j:∃u,h'.get? e=ia u)
 (new:bO P w (upd H x o') h' x o'):eL P w (upd H x o') h':=λb u q=>by
 have g:∀c y,H c=ia (.own y)->c≠x:=λc y r z=>by subst z;rw [r] at mu;exact mu
 have m:∀c xs,H c=ia (.tup xs)->c≠x:=λc xs r z=>by subst z;rw [r] at mu;exact mu
 by_cases d:b=x
 .subst d;rw [ak] at q;cases q;exact new
 .rw [ae d] at q;by_cases a:b=e
  .have i:H b=ia (.own x):=by
    rcases he with z|z
    .exact absurd (a.trans z) d
    .rw [a];exact z
   rw [q] at i;cases i;let(v,o):=j;exact{v,by rw [a];exact o}
  .refine(ok b u q).fe (λc v f r=>k c v ?_ r) (λc r=>by rw [ae (g c b r)];exact r) λc xs r=>by rw [ae (m c xs r)];exact r
   rcases f with rfl|f
   .exact a
   .rintro rfl
    rcases he with z|z
    .exact g c b f z
    .rw [f] at z;cases z;exact d rfl
end
structure Un(fs ex:List i6)(H H':Hp)(h h':kB):Prop where
 keep:∀b o,h.get? b=ia o->H b=ie->b∉fs->b∉ex->h'.get? b=ia o
 slot:∀b o,h.get? b=ia o->H b=ie->b∈fs->b∉ex->∃sl,h'.get? b=ia {o with slots:=sl}
 free:∀b o,h.get? b=ia o->H b=ie->b∉ex->H' b=ie
 there:∀b o,h.get? b=ia o->b∉ex->∃o',h'.get? b=ia o'
 iO:∀b xs,H b=ia (.tup xs)->H' b=ia (.tup xs)
 gf:∀b o u,H b=ia (.bq o u)->H' b=ia (.bq o u)
 ir:∀b ps,H b=ia (.gK ps)->∃more,H' b=ia (.gK (ps++more))
section
variable{fs ex:List i6}{H1:Hp}{h1:kB}{x e:i6}{o:HO}
def Un.any(u:Un fs ex H H1 h h1){b:i6}{ob:Obj}(q:h.get? b=ia ob)(n:H b=ie)(c:b∉ex):∃sl,h1.get? b=ia {ob with slots:=sl}:=by
 by_cases d:b∈fs
 .exact u.slot b ob q n d c
 .exact{ob.slots,u.keep b ob q n d c}
def Un.kept(k:∀b u,h.get? b=ia u->h'.get? b=ia u):Un fs ex H H h h':=
 {λb c q Z Z Z=>k b c q,λb c q Z Z Z=>{c.slots,k b c q},λZ Z Z n Z=>n,λb c q Z=>{c,k b c q},λZ Z q=>q,λZ Z Z q=>q,λZ d q=>{#[],by rw [q];simp}}
def Un.refl:Un fs ex H H h h:=Un.kept λZ Z q=>q
theorem Un.laid(k:∀b u,h.get? b=ia u->h'.get? b=ia u)(d:h.objs.size<=a)(c:H a=ie):Un fs ex H (upd H a o) h h' where
 keep:=λb u q Z Z Z=>k b u q
 slot:=λb u q Z Z Z=>{u.slots,k b u q}
 free:=λb u q n Z=>by rw [ae (ew (eo (dn q) d))];exact n
 there:=λb u q Z=>{u,k b u q}
 iO:=λb xs q=>by rw [ae (dQ q c)];exact q
 gf:=λb u xs q=>by rw [ae (dQ q c)];exact q
 ir:=λb f q=>{#[],by rw [ae (dQ q c),q];simp}
def Un.write(mu:NZ (H x))(he:e=x\/H e=ia (.own x))(k:∀b u,b≠e->h.get? b=ia u->h'.get? b=ia u)(g:∃u,h'.get? e=ia u):Un fs ex H (upd H x o) h h':=by
 have d:∀b,H b=ie->b≠x:=λb n z=>by subst z;rw [n] at mu;exact mu
 have f:∀b,H b=ie->b≠e:=λb n z=>by
  subst z;rcases he with r|r
  .exact d b n r
  .rw [n] at r;cases r
 have hm:∀b u,H b=ia u->¬NZ (ia u)->b≠x:=λb u q nm z=>by subst z;rw [q] at mu;exact nm mu
 refine{λb u q n Z Z=>k b u (f b n) q,λb u q n Z Z=>{u.slots,k b u (f b n) q},λb u q n Z=>by rw [ae (d b n)];exact n,λb u q Z=>?_,
  λb xs q=>by rw [ae (hm b _ q λz=>z)];exact q,λb u xs q=>by rw [ae (hm b _ q λz=>z)];exact q,λb i q=>{#[],by rw [ae (hm b _ q λz=>z),q];simp}}
 by_cases c:b=e
 .subst c;exact g
 .exact{u,k b u c q}
end
abbrev RC(h:kB)(H:Hp):List Addr:=(List.range h.objs.size).filter λa=>(H a).isSome
abbrev ra(h:kB)(H:Hp):Heap:=PySem.W.hideAll h (RC h H)
def Ah(h:kB)(H:Hp):(ra h H).objs.size=h.objs.size:=PySem.W.hideAll_size _ _
theorem CC{b:i6}(e:h.get? b=ia o)(n:H b=ie):(ra h H).get? b=ia o:=
 PySem.W.hideAll_get _ e λhm=>by have q:(H b).isSome=ig:=(List.mem_filter.mp hm).2;rw [n] at q;simp at q
def HS{b:i6}(e:(ra h H).get? b=ia o):h.get? b=ia o/\H b=ie:=by
 have a:h.get? b=ia o:=PySem.W.of_hideAll (RC h H) e
 refine{a,?_};cases q:H b with
 |none=>rfl|some x=>have hm:b∈RC h H:=List.mem_filter.mpr {List.mem_range.mpr (dn a),by simp [q]};have z:(ra h H).get? b=ie:=PySem.W.hideAll_none (RC h H) hm;rw [z] at e;cases e
abbrev Fg(g h:kB)(L:i6):mn:=(List.range h.objs.size).filterMap λa=>if a=L\/(g.get? a).isSome=ig then ie else(h.get? a).map λo=>(a,o)
abbrev rest(g h:kB)(L d:i6):mn:=(Fg g h L).filter λp=>decide (p.1≠d)
structure Mod(K:zz8)(mg:Str->Option i1)(base:kB):Prop where
 Pl:K.In base
 glob:base.Ns k8 mg
 blt:∃mb,base.Ns builtinsNs mb/\∀x:Str,x≠(zu 40)->mb x=bootBuiltins x
 nolimit:base.NoLimit
structure Cx where
 prog:jm
 w:kd
 K:zz8
 mg:Str->Option i1
 base:kB
 A:ku
 N:List Str
 s₀:i2
 H₀:Hp
 env:Env
 outer:List Env
 stack:List Env
 ex:List i6
 fn:Str->Bool
 calm:Bool
 pn:mn
 xe:ml
variable{X:Cx}
abbrev ft(l:List Env):List Addr:=l.filterMap (·.frame)
noncomputable abbrev Cx.fs(X:Cx):List Addr:=ft X.outer
def NA(sc:kv)(x:Str):Prop:=sc.names.lookup x=ia .local\/sc.names.lookup x=ia .cell\/sc.names.lookup x=ia .free
def Loc(sc:kv)(x:Str):Prop:=sc.names.lookup x=ia .local\/sc.names.lookup x=ia .cell
def Look(env:Env)(h:kB)(m:Str->Option i1)(x:Str)(u:i1):Prop:=
 (env.kindOf x=ia .local/\m x=ia u)\/((env.kindOf x=ia .cell\/env.kindOf x=ia .free)/\∃c,env.cells.lookup x=ia c/\h.IsCell c (ia u))
structure Cx.Ok(X:Cx):Prop where
 mod:Mod X.K X.mg X.base
 kind:X.env.scope.kind=.function
 glob:X.env.globals=k8
 blt:X.env.builtins=builtinsNs
 above:X.s₀.heap.objs.size<=X.env.locals
 inj:∀x y c,X.env.cells.lookup x=ia c->X.env.cells.lookup y=ia c->x=y
 has:∀x,(X.env.kindOf x=ia .cell\/X.env.kindOf x=ia .free)->∃c,X.env.cells.lookup x=ia c
 Kc:∀x c,X.fn x=ig->X.env.cells.lookup x=ia c->X.s₀.heap.objs.size<=c
 hd:X.calm=ig->X.A.handled=ie
 frames:X.A.frames=ia X.stack
 Qb:X.stack=X.outer\/(X.stack=X.env::X.outer/\X.env.frame=ia X.env.locals)
 exf:∀b∈X.ex,b≠X.env.locals/\∀x c,X.env.cells.lookup x=ia c->c≠b
 bs:∀b o,X.base.get? b=ia o->X.s₀.heap.get? b=ia o/\X.H₀ b=ie
 zv:X.base.objs.size<=X.s₀.heap.objs.size
 HC:∀b o,X.base.get? b=ia o->b∉X.ex
 KQ:∀b∈X.ex,b∉X.fs
 gE:X.s₀.heap.FunFrames X.base X.outer
 zX:∀b∈X.fs,X.H₀ b=ie
structure Inv(X:Cx)(aa:mn)(σ:List (Option V))(H:Hp)(s:i2):Prop where
 ok:X.Ok
 os:s.os=X.s₀.os
 bare:AllBare s.gens
 base:Un X.fs X.ex X.H₀ H X.s₀.heap s.heap
 loc:∃m,s.heap.Ns X.env.locals m/\∀(i:Nat) (x:Str) (v:V),X.N[i]?=ia x->σ[i]?=ia (ia v)->NA X.env.scope x->∃u,RelV v u/\Look X.env s.heap m x u
 cell:∀x c,X.env.cells.lookup x=ia c->∃v,s.heap.IsCell c v
 free:H X.env.locals=ie
 gY:∀x c,X.env.cells.lookup x=ia c->H c=ie
 pin:∀p∈X.pn++aa,s.heap.get? p.1=ia p.2/\H p.1=ie/\p.1≠X.env.locals/\p.1∉X.fs/\∀v,p.2.data≠.cell v
 aM:eL X.prog X.w H s.heap
 len:σ.length=X.N.length
section
variable{aa:mn}{σ:List (Option V)}{H':Hp}{s:i2}
theorem Cx.Ok.TQ(ok:X.Ok){b:i6}(e:X.base.get? b=ia o):b∉X.fs:=λa=>by have:=(ok.gE.mem a).1;rw [e] at this;cases this
def Inv.bs(I:zv2 s):∀b o,X.base.get? b=ia o->s.heap.get? b=ia o/\H b=ie:=λb o e=>{I.base.keep b o (I.ok.bs b o e).1 (I.ok.bs b o e).2 (I.ok.TQ e) (I.ok.HC b o e),I.base.free b o (I.ok.bs b o e).1 (I.ok.bs b o e).2 (I.ok.HC b o e)}
def Inv.bk(I:zv2 s):∀b o,X.base.get? b=ia o->s.heap.get? b=ia o:=λb o e=>(I.bs b o e).1
def Inv.mod(I:zv2 s):Mod X.K X.mg X.base:=I.ok.mod
def Inv.uA(I:zv2 s):X.K.In s.heap:=I.ok.mod.Pl.keeps I.bk
theorem Inv.fr(I:zv2 s):∃m,Fr X.base X.env.locals s.heap m:=
 let⟨m,a,_⟩:=I.loc
 {m,a,I.bk,eg I.ok.zv I.ok.above}
theorem Inv.lt(I:zv2 s):X.env.locals<(zz9 s):=let⟨_,a,_⟩:=I.loc;a.lt
def Inv.sz(I:zv2 s):X.s₀.heap.objs.size<=(zz9 s):=eg I.ok.above (Nat.le_of_lt I.lt)
theorem Inv.TR(I:zv2 s)(h:(zz9 s)<=a):a∉X.fs:=λb=>by let(_,o,c,_):=I.ok.gE.mem b;exact absurd (eo (dn c) (eg I.sz h)) (Nat.lt_irrefl _)
theorem Inv.EO(I:zv2 s):∀x c,X.env.cells.lookup x=ia c->c≠X.env.locals:=λx c e z=>by let(v,o,a,hd):=I.cell x c e;let(m,(f,g,h,b,d,_),_):=I.loc;rw [z,b] at a;cases a;rw [d] at hd;cases hd
def Inv.gE(I:zv2 s):s.heap.FunFrames X.base X.outer:=by
 have all:∀(l:List Env),(∀b∈ft l,b∈X.fs)->X.s₀.heap.FunFrames X.base l->s.heap.FunFrames X.base l:=by
  intro l
  induction l with
  |nil=>intro _ _;trivial|cons env r f=>intro hs hl;let(hk,(L,o,a,g,h,hd),i):=hl;have c:L∈X.fs:=hs L (by unfold ft;rw [List.filterMap_cons,a];exact dV);let(j,e):=I.base.slot L o h (I.ok.zX L c) c λz=>I.ok.KQ L z c;exact{hk,{L,_,a,g,e,hd},f (λb d=>hs b (by unfold ft;rw [List.filterMap_cons,a];exact c3 _ d)) i}
 exact all X.outer (λZ d=>d) I.ok.gE
def Inv.stack(I:zv2 s):s.heap.FunFrames X.base X.stack:=by
 rcases I.ok.Qb with e|⟨e,hf⟩
 .rw [e];exact I.gE
 .rw [e];let(m,a,_):=I.loc;refine .cons (by rw [I.ok.kind];decide) hf a ?_ I.gE;exact kB.get?_none_of_le (eg I.ok.zv I.ok.above)
def Inv.iq(I:zv2 s):∀b∈ft X.stack,b∈X.env.locals::X.fs:=λb a=>by
 rcases I.ok.Qb with e|⟨e,hf⟩
 .rw [e] at a;exact c3 _ a
 .rw [e] at a;unfold ft at a;rw [List.filterMap_cons,hf] at a;exact a
theorem Inv.me(I:zv2 s):∀b∈ft X.stack,H b=ie:=λb a=>by
 rcases fP.mp (I.iq b a) with e|a
 .rw [e];exact I.free
 .let(_,o,c,_):=I.ok.gE.mem a;exact I.base.free b o c (I.ok.zX b a) λz=>I.ok.KQ b z a
def Inv.step{g':Array GenState}{t':Nat}{d':Drawn}{ch:List i6}(I:zv2 s)
 (t:∀b∈ch,(b∈X.ex\/X.s₀.heap.objs.size<=b)/\b≠X.env.locals/\(∀x c,X.env.cells.lookup x=ia c->c≠b)/\∀p∈X.pn++aa,p.1≠b)
 (keep:∀b o,b≠X.env.locals->b∉X.fs->b∉ch->s.heap.get? b=ia o->H b=ie->h'.get? b=ia o)
 (slot:∀b o,b≠X.env.locals->b∈X.fs->b∉ch->s.heap.get? b=ia o->H b=ie->∃sl,h'.get? b=ia {o with slots:=sl}) (free:∀b o,b∉ch->s.heap.get? b=ia o->H b=ie->H' b=ie)
 (there:∀b o,b∉ch->s.heap.get? b=ia o->∃y,h'.get? b=ia y)
 (iO:∀b xs,H b=ia (.tup xs)->H' b=ia (.tup xs)) (gf:∀b o u,H b=ia (.bq o u)->H' b=ia (.bq o u)) (ir:∀b ps,H b=ia (.gK ps)->∃more,H' b=ia (.gK (ps++more)))
 (ns:∀m,s.heap.Ns X.env.locals m->h'.Ns X.env.locals m) (aM:eL X.prog X.w H' h') (M:AllBare g'):
 Inv X aa σ H' {s with heap:=h',gens:=g',drawn:=d',toks:=t'}:=by
 have F:∀b o,X.s₀.heap.get? b=ia o->b≠X.env.locals:=λb o e=>ew (eo (dn e) I.ok.above)
 have C:∀b o,X.s₀.heap.get? b=ia o->b∉X.ex->b∉ch:=λb o e a h=>by
  rcases(t b h).1 with z|z
  .exact a z
  .exact absurd (eo (dn e) z) (Nat.lt_irrefl _)
 have f:∀x c,X.env.cells.lookup x=ia c->∀v,s.heap.IsCell c v->h'.IsCell c v:=λx c e v D=>by
  let(o,j,hd):=D;have A:c∉ch:=λz=>(t c z).2.2.1 x c e rfl;by_cases G:c∈X.fs
  .let(sl,q):=slot c o (I.EO x c e) G A j (I.gY x c e);exact{_,q,hd}
  .exact{o,keep c o (I.EO x c e) G A j (I.gY x c e),hd}
 refine{I.ok,I.os,M,{λb o e n h a=>?_,λb o e n h a=>?_,λb o e n a=>?_,λb o e a=>?_,λb xs e=>iO b xs (I.base.iO b xs e),λb o xs e=>gf b o xs (I.base.gf b o xs e),λb ps e=>?_},?_,λx c e=>?_,?_,λx c e=>?_,λp K=>?_,aM,I.len}
 .exact keep b o (F b o e) h (C b o e a) (I.base.keep b o e n h a) (I.base.free b o e n a)
 .let(sl,g):=I.base.slot b o e n h a;let(E,B):=slot b _ (F b o e) h (C b o e a) g (I.base.free b o e n a);exact⟨E,B⟩
 .let(y,g):=I.base.there b o e a;exact free b y (C b o e a) g (I.base.free b o e n a)
 .let(y,g):=I.base.there b o e a;exact there b y (C b o e a) g
 .let(m1,g):=I.base.ir b ps e;let(m2,B):=ir b _ g;exact{m1++m2,by rw [B,Array.append_assoc]}
 .let(m,N,hl):=I.loc;refine{m,ns m N,λi x v g B O=>?_};let(u,r,l):=hl i x v g B O
  refine{u,r,?_};rcases l with l|⟨k,c,e,z⟩
  .exact .inl l
  .exact .inr {k,c,e,f x c e _ z}
 .let(v,z):=I.cell x c e;exact{v,f x c e v z}
 .let(m,(o,_,_,j,_),_):=I.loc;exact free _ o (λz=>(t _ z).2.1 rfl) j I.free
 .let(v,o,j,hd):=I.cell x c e;exact free c o (λz=>(t c z).2.2.1 x c e rfl) j (I.gY x c e)
 .let(e,n,ne,L,d):=I.pin p K;have A:p.1∉ch:=λz=>(t p.1 z).2.2.2 p K rfl;exact{keep p.1 p.2 ne L A e n,free p.1 p.2 A e n,ne,L,d}
def Inv.un{t':Nat}(I:zv2 s)(u:Un X.fs [] H H' s.heap h')(aM:eL X.prog X.w H' h'):Inv X aa σ H' {s with heap:=h',toks:=t'}:=by let(m,(o,j,k,f,r),_):=id I.loc;let(p,h):=u.any f I.free (by simp);exact I.step (g':=s.gens) (d':=s.drawn) (ch:=[]) (λZ z=>nomatch z) (λb o Z a Z e n=>u.keep b o e n a (by simp)) (λb o Z a Z e n=>u.slot b o e n a (by simp)) (λb o Z e n=>u.free b o e n (by simp)) (λb o Z e=>u.there b o e (by simp)) u.iO u.gf u.ir (λq hm=>by let(t,c,d,g,i):=hm;rw [f] at g;cases g;exact{_,c,d,h,i}) aM I.bare
def Inv.call{g':Array GenState}{t':Nat}{d':Drawn}{ch:List i6}(I:zv2 s)(u:Un (ft X.stack) ch H H' s.heap h')(aM:eL X.prog X.w H' h')(k:AllBare g')
 (h:∀b∈ch,(b∈X.ex\/X.s₀.heap.objs.size<=b)/\b≠X.env.locals/\(∀x c,X.env.cells.lookup x=ia c->c≠b)/\∀p∈X.pn++aa,p.1≠b):
 Inv X aa σ H' {s with heap:=h',gens:=g',drawn:=d',toks:=t'}:=by
 let(m,(o,y,A,i,r),_):=id I.loc;let(B,d):=u.any i I.free λz=>(h _ z).2.1 rfl;exact I.step (ch:=ch) h (λb o d q a e n=>u.keep b o e n (λz=>(fP.mp (I.iq b z)).elim d q) a) (λb o Z Z a e n=>u.any e n a) (λb o a e n=>u.free b o e n a) (λb o a e=>u.there b o e a) u.iO u.gf u.ir (λC hm=>by let(D,f,g,j,t):=hm;rw [i] at j;cases j;exact{_,f,g,d,t}) aM k
def Inv.turned{t':Nat}{it:i6}(I:zv2 s)(k:∀b o,b≠it->s.heap.get? b=ia o->h'.get? b=ia o)(g:H it=ie)(d:it≠X.env.locals)
 (h:it∈X.ex\/X.s₀.heap.objs.size<=it) (i:∀x c,X.env.cells.lookup x=ia c->c≠it) (j:∀p∈X.pn++aa,p.1≠it):Inv X aa σ H {s with heap:=h',toks:=t'}:=by
 have f:∀b u,H b=ia u->b≠it:=λb u e z=>by rw [z,g] at e;cases e
 refine I.step (g':=s.gens) (d':=s.drawn) (ch:=[it]) (λb t=>?_) (λb o Z Z a e Z=>k b o (λz=>a (by simp [z])) e) (λb o Z Z a e Z=>{o.slots,k b o (λz=>a (by simp [z])) e}) (λZ Z Z Z n=>n)
  (λb o a e=>{o,k b o (λz=>a (by simp [z])) e}) (λZ Z e=>e) (λZ Z Z e=>e) (λb B e=>{#[],by rw [e];simp}) (λm hm=>?_) (λb u e=>?_) I.bare
 .have e:b=it:=zx6 t;subst e;exact⟨h,d,i,j⟩
 .let(o,w,y,A,r):=hm;exact{o,w,y,k _ o (Ne.symm d) A,r}
 .refine(I.aM b u e).fe (λc v a q=>k c v ?_ q) (λZ q=>q) λZ Z q=>q
  rcases a with z|z
  .rw [z];exact f b u e
  .exact f c _ z
theorem Inv.tok(I:zv2 s)(t:Nat):Inv X aa σ H {s with toks:=t}:=I.un (h':=s.heap) (t':=t) Un.refl I.aM
theorem Inv.kept{t':Nat}(I:zv2 s)(k:∀b u,s.heap.get? b=ia u->h'.get? b=ia u):Inv X aa σ H {s with heap:=h',toks:=t'}:=I.un (Un.kept k) (I.aM.kept k)
theorem Inv.laid{o:HO}{t':Nat}(I:zv2 s)(k:∀b u,s.heap.get? b=ia u->h'.get? b=ia u)(c:(zz9 s)<=a)(new:bO X.prog X.w (upd H a o) h' a o):
 Inv X aa σ (upd H a o) {s with heap:=h',toks:=t'}:=I.un (Un.laid k c (I.aM.fresh c)) (I.aM.laid k c new)
theorem Inv.write{x e:i6}{o:HO}{t':Nat}(I:zv2 s)(mu:NZ (H x))(he:e=x\/H e=ia (.own x))(k:∀b u,b≠e->s.heap.get? b=ia u->h'.get? b=ia u)(a:∃u,h'.get? e=ia u)
 (new:bO X.prog X.w (upd H x o) h' x o):Inv X aa σ (upd H x o) {s with heap:=h',toks:=t'}:=I.un (Un.write mu he k a) (I.aM.write mu he k a new)
def Inv.fw{a:mn}(I:zv2 s)(h:∀p∈a,s.heap.get? p.1=ia p.2/\H p.1=ie/\p.1≠X.env.locals/\p.1∉X.fs/\∀v,p.2.data≠.cell v):Inv X a σ H s:=
 {I.ok,I.os,I.bare,I.base,I.loc,I.cell,I.free,I.gY,λp b=>(List.mem_append.mp b).elim (λz=>I.pin p (ey _ z)) (h p),I.aM,I.len}
def nB(hN:N.Nodup){i j:Nat}(a:N[i]?=ia x)(b:N[j]?=ia x):i=j:=by let(e,c):=cP.mp a;let(f,d):=cP.mp b;exact(List.getElem_inj hN).mp (c.trans d.symm)
def kW{M:Model}{E:ml}{i:Nat}{u:i1}{Q:Unit->i2->Prop}(I:zv2 s)(hN:X.N.Nodup)(L:X.N[i]?=ia x)(B:Loc X.env.scope x)(r:RelV v u)
 (h:∀s',Inv X aa (σ.set i (ia v)) H s'->(∃a,kB.SameBut a s.heap s'.heap/\(a=X.env.locals\/X.env.cells.lookup x=ia a))->Q () s') (hf:X.fn x=ig\/X.env.scope.names.lookup x=ia .local:=by first|exact .inl rfl|exact .inr rfl|assumption):jk M A (storeName X.env x u) Q E s:=by
 let(m,U,hl):=id I.loc;have SQ:(X.env.scope.kind==.class||(X.env.scope.kind==.module&&X.env.locals !=X.env.globals))=iv:=by rw [I.ok.kind];rfl
 have F:i<σ.length:=by rw [I.len];exact(cP.mp L).1
 have EO:=I.EO
 have f:∀{a:i6} {h':kB},(∃o,s.heap.get? a=ia o/\H a=ie)->kB.SameBut a s.heap h'->eL X.prog X.w H h':=λ{a h'} ha hs b ob e=>by
  let(_,_,C):=ha;refine(I.aM b ob e).fe (λc S t q=>(hs.2 c ?_).trans q) (λ_ q=>q) λ_ _ q=>q
  rintro rfl
  rcases t with rfl|t
  .rw [C] at e;cases e
  .rw [C] at t;cases t
 rcases B with hk|hk
 .refine wpAny_storeName_local hk U (λh' XU hs=>?_) SQ;let(oL,_,_,W,_):=id U;refine h _ {I.ok,I.os,I.bare,{λb o e n G B=>?_,λb o e n G B=>?_,I.base.free,λb o e B=>?_,I.base.iO,I.base.gf,I.base.ir},{_,XU,λj y Y g D Z=>?_},λy c e=>?_,I.free,I.gY,λp hp=>?_,f ⟨oL,W,I.free⟩ hs,zx6 I.len} {_,hs,.inl rfl}
  .exact(hs.2 b (ew (eo (dn e) I.ok.above))).trans (I.base.keep b o e n G B)
  .let(sl,g):=I.base.slot b o e n G B;exact{sl,(hs.2 b (ew (eo (dn e) I.ok.above))).trans g}
  .let(o',g):=I.base.there b o e B;exact{o',(hs.2 b (ew (eo (dn e) I.ok.above))).trans g}
  .by_cases K:j=i
   .subst K;rw [L] at g;cases g;rw [gv F] at D;cases D;exact{u,r,.inl {hk,by simp}}
   .rw [ed (Ne.symm K)] at D;let(u',r',q):=hl j y Y g D Z
    refine{u',r',?_};rcases q with⟨k,e⟩|⟨k,c,e,z⟩
    .refine .inl {k,?_};have:y≠x:=λe=>K (nB hN g (e▸L));simp [this,e]
    .exact .inr {k,c,e,z.sameBut hs (EO y c e)}
  .let(S,z):=I.cell y c e;exact{S,z.sameBut hs (EO y c e)}
  .let(e,n,ne,nf,d):=I.pin p hp;exact{(hs.2 p.1 ne).trans e,n,ne,nf,d}
 .have mZ:X.fn x=ig:=by
   rcases hf with z|z
   .exact z
   .rw [z] at hk;cases hk
  let(c,t):=I.ok.has x (.inl hk);let(S,z):=I.cell x c t;refine wpAny_storeName_cell I.ok.kind hk t z (λh' fT hs=>?_);let(oc,O,P):=id z;refine h {s with heap:=h'} {I.ok,I.os,I.bare,{λb o e n G B=>?_,λb o e n G B=>?_,I.base.free,λb o e B=>?_,I.base.iO,I.base.gf,I.base.ir},{m,U.sameBut hs (Ne.symm (EO x c t)),λj y Y g D Z=>?_},λy T e=>?_,I.free,I.gY,λp hp=>?_,f {oc,O,I.gY x c t} hs,zx6 I.len} {c,hs,.inr t}
  .exact(hs.2 b (ew (eo (dn e) (I.ok.Kc x c mZ t)))).trans (I.base.keep b o e n G B)
  .let(sl,g):=I.base.slot b o e n G B;exact{sl,(hs.2 b (ew (eo (dn e) (I.ok.Kc x c mZ t)))).trans g}
  .let(o',g):=I.base.there b o e B;exact{o',(hs.2 b (ew (eo (dn e) (I.ok.Kc x c mZ t)))).trans g}
  .by_cases K:j=i
   .subst K;rw [L] at g;cases g;rw [gv F] at D;cases D;exact{u,r,.inr {.inl hk,c,t,fT}}
   .rw [ed (Ne.symm K)] at D;let(u',r',q):=hl j y Y g D Z
    refine{u',r',?_};rcases q with q|⟨k,T,e,z'⟩
    .exact .inl q
    .refine .inr {k,T,e,z'.sameBut hs ?_}
     rintro rfl
     exact K (nB hN g (I.ok.inj _ _ _ e t▸L))
  .by_cases R:T=c
   .subst R;exact{_,fT}
   .let(w2,z2):=I.cell y T e;exact{w2,z2.sameBut hs R}
  .let(e,n,ne,nf,d):=I.pin p hp;refine{(hs.2 p.1 ?_).trans e,n,ne,nf,d};intro q;rw [q,O] at e;have q':oc=p.2:=zzq e;exact d S (by rw [<-q'];exact P)
def vm{M:Model}{E:ml}{i:Nat}{u:i1}{Q:Unit->i2->Prop}(I:zv2 s)(hN:X.N.Nodup)(a:X.N[i]?=ia x)(b:Loc X.env.scope x)(r:RelV v u)
 (h:∀s',Inv X aa (σ.set i (ia v)) H s'->Q () s') (c:X.fn x=ig\/X.env.scope.names.lookup x=ia .local:=by first|exact .inl rfl|exact .inr rfl|assumption):jk M A (storeName X.env x u) Q E s:=
 kW I hN a b r (λs' d Z=>h s' d) c
def Inv.Om{s':i2}{ch:List i6}(I:zv2 s)(a:s'.os=s.os)(u:Un (ft X.stack) ch H H' s.heap s'.heap)(aM:eL X.prog X.w H' s'.heap)(d:AllBare s'.gens)
 (f:∀b∈ch,(b∈X.ex\/X.s₀.heap.objs.size<=b)/\b≠X.env.locals/\(∀x c,X.env.cells.lookup x=ia c->c≠b)/\∀p∈X.pn++aa,p.1≠b):Inv X aa σ H' s':=by
 let(h',g',d',t',g):=s';have e:g=s.os:=a;subst e;exact I.call (g':=g') (t':=t') (d':=d') u aM d f
end
noncomputable abbrev XK:=i1->Option i6->Hp->Prop
noncomputable abbrev St:=List (Option V)
variable{σ:St}
noncomputable abbrev VK:=V->Hp->Prop
variable{Q:VK}
noncomputable abbrev TE:=St->Hp->VK->Prop
variable{te:TE}
noncomputable abbrev TT:=St->Hp->(Bool->Hp->Prop)->Prop
noncomputable abbrev TA:=St->Hp->(List V->Hp->Prop)->Prop
structure Ends where
 nx:St->Hp->Prop
 rt:VK
 bk:St->Hp->Prop:=λ_ _=>False
 ct:St->Hp->Prop:=λ_ _=>False
noncomputable abbrev TS:=Ends->St->Hp->Prop
def EP(X:Cx)(b:mn)(c:St)(Q:VK)(u:i1)(s':i2):Prop:=∃v a,Inv X b c a s'/\RelV v u/\Q v a
def TP(X:Cx)(c:mn)(d:St)(Q:Bool->Hp->Prop)(b:Bool)(s':i2):Prop:=∃a,Inv X c d a s'/\Q b a
def AP(X:Cx)(c:mn)(d:St)(Q:List V->Hp->Prop)(us:List i1)(s':i2):Prop:=∃a b,Inv X c d b s'/\Vals a us/\Q a b
def SP(X:Cx)(c:mn)(D:Ends)(f:Flow)(s':i2):Prop:=
 match f with
 |.next=>∃a b,Inv X c a b s'/\D.nx a b|.brk=>∃a b,Inv X c a b s'/\D.bk a b|.cont=>∃a b,Inv X c a b s'/\D.ct a b|.ret u=>∃v a b,Inv X c a b s'/\RelV v u/\D.rt v b
def PE(X:Cx)(e:jj)(t:TE):Prop:=
 ∀(b:mn) (s:i2) (a:St) (H:Hp) (Q:VK),Inv X b a H s->t a H Q->zx7 X (eval e X.env) (EP X b a Q) X.xe s
def PT(X:Cx)(e:jj)(t:TT):Prop:=
 ∀(b:mn) (s:i2) (a:St) (H:Hp) (Q:Bool->Hp->Prop),Inv X b a H s->t a H Q->zx7 X (isTrue e X.env (eval e X.env)) (TP X b a Q) X.xe s
def PW(X:Cx)(e:jj)(t:TT):Prop:=
 ∀(a:Sem i1) (c:mn) (s:i2) (b:St) (H:Hp) (Q:Bool->Hp->Prop),Inv X c b H s->t b H Q->zx7 X (isTrue e X.env a) (TP X c b Q) X.xe s
def PW.pt{t:TT}(h:PW X e t):PT X e t:=h _
def PA(X:Cx)(d:List jj)(t:TA):Prop:=
 ∀(a:Pos) (c:mn) (s:i2) (b:St) (H:Hp) (Q:List V->Hp->Prop),Inv X c b H s->t b H Q->zx7 X (spliced (backTo a (starEach d X.env))) (AP X c b Q) X.xe s
def PS(X:Cx)(st:k7)(t:TS):Prop:=
 ∀(a:mn) (s:i2) (b:St) (H:Hp) (D:Ends),Inv X a b H s->t D b H->zx7 X (exec st X.env) (SP X a D) X.xe s
def xn(X:Cx)(st:List k7)(t:TS):Prop:=
 ∀(a:mn) (s:i2) (b:St) (H:Hp) (D:Ends),Inv X a b H s->t D b H->zx7 X (execs st X.env) (SP X a D) X.xe s
def bL{b:Type}{t:Sem b}{Q c:b->i2->Prop}{M:Model}{E:ml}{s:i2}(h:jk M A t Q E s)(d:∀a s,Q a s->c a s):jk M A t c E s:=wpAny_mono h d λZ Z x=>x
section
def bin{a b:jj}{o tb:TE}(q:PE X a o)(r:PE X b tb){j:mn}{s:i2}{d:St}{R:V->V->Hp->Prop}(I:Inv X j d H s)(h:o d H λx m=>tb d m λy e=>R x y e)
 {p:Type} {Q:p->i2->Prop} {f:i1->i1->Sem p}
 (hf:∀v u k x y e,Inv X j d e k->RelV x v->RelV y u->R x y e->zx7 X (f v u) Q X.xe k):
 zx7 X (eval a X.env) (λv g=>zx7 X (eval b X.env) (λu i=>zx7 X (f v u) Q X.xe i) X.xe g) X.xe s:=by
 refine bL (q j s d H _ I h) λv t c=>?_;let(x,m,z,B,C):=c;refine bL (r j t d m _ z C) λu k c=>?_;let(y,e,D,E,F):=c;exact hf v u k x y e D B E F
abbrev se(i:Nat):TE:=λa H Q=>∃v,a[i]?=ia (ia v)/\Q v H
abbrev tC(v:V):TE:=λZ H Q=>Q v H
def dR{i:Nat}(hN:X.N[i]?=ia x)(f:NA X.env.scope x)(hd:(x==(zu 16:Str))=iv:=by decide)(g:(x==(zu 24:Str))=iv:=by decide):PE X (.Name x pos) (se i):=by
 intro j s k H Q I h;let(v,e,h):=h;let(m,o,hl):=I.loc;let(u,r,l):=hl i x v hN e f;have a:EP X j k Q u s:=⟨v,H,I,r,h⟩
 rcases l with⟨hk,hm⟩|⟨hk,c,b,d⟩
 .exact wpAny_Name (wpAny_loadName_local I.ok.kind hk o hm a) hd
 .rcases hk with hk|hk
  .exact wpAny_Name (wpAny_loadName_cell I.ok.kind hk b d a) hd
  .exact wpAny_Name (wpAny_loadName_free I.ok.kind hk b d a g) hd
def rD{i j pos}:PE X (.Constant (.int i) j pos) (tC (.int i)):=λZ Z Z H Z I h=>wpAny_Constant_int {.int i,H,I.tok _,{_,rfl},h}
def PL{b j pos}:PE X (.Constant (.bool b) j pos) (tC (.bl b)):=λZ Z Z H Z I h=>Constant_bool {.bl b,H,I,rfl,h}
def Mw{j pos}:PE X (.Constant .none j pos) (tC .aG):=λZ Z Z H Z I h=>Constant_none {.aG,H,I,rfl,h}
def rE{x j pos}:PE X (.Constant (.str x) j pos) (tC (.str x)):=λZ Z Z H Z I h=>Calls.Constant_str {.str x,H,I.tok _,{_,rfl},h}
def Gl(X:Cx)(x:Str):Prop:=X.env.kindOf x=ia .globalImplicit
def iF{E:ml}{a:mn}{s:i2}{b:St}{u:i1}{Q:ml}(I:Inv X a b H s)(c:Gl X x)(hm:X.mg x=ia u)(h:Q u s)
 (hd:(x==(zu 16:Str))=iv:=by decide):zx7 X (eval (.Name x pos) X.env) Q E s:=
 Calls.Name_function_global I.ok.kind c (Calls.loadGlobal_global (by rw [I.ok.glob];exact I.mod.glob.keeps I.bk) hm h) hd
def eY{E:ml}{a:mn}{s:i2}{b:St}{u:i1}{Q:ml}(I:Inv X a b H s)(c:Gl X x)(hm:X.mg x=ie)(d:bootBuiltins x=ia u)(h:Q u s)
 (e:x≠(zu 40):=by decide) (hd:(x==(zu 16:Str))=iv:=by decide):zx7 X (eval (.Name x pos) X.env) Q E s:=by
 let(mb,f,g):=I.mod.blt;exact Calls.Name_function_global I.ok.kind c (Calls.loadGlobal_builtin (by rw [I.ok.glob];exact I.mod.glob.keeps I.bk) hm (by rw [I.ok.blt];exact f.keeps I.bk) ((g x e).trans d) h) hd
def Ih{u:i1}(a:Gl X x)(hm:X.mg x=ia u)(r:RelV v u)(hd:(x==(zu 16:Str))=iv:=by decide):PE X (.Name x pos) (tC v):=
 λZ Z Z H Z I h=>iF I a hm ⟨v,H,I,r,h⟩ hd
def Ic{u:i1}(a:Gl X x)(hm:X.mg x=ie)(b:bootBuiltins x=ia u)(r:RelV v u)(c:x≠(zu 40):=by decide)(hd:(x==(zu 16:Str))=iv:=by decide):PE X (.Name x pos) (tC v):=
 λZ Z Z H Z I h=>eY I a hm b ⟨v,H,I,r,h⟩ c hd
variable{a b:jj}{ta tb:TE}
abbrev tB(t:TE):TT:=λd H Q=>t d H λx e=>∃c,x=.bl c/\Q c e
def MJ{t:TE}(h:PE X e t)(he:∀c,isTrue e X.env c=(do let v<-c;standAt e.pos;holding [v] (truthy v)):=by intro _;rfl):PT X e (tB t):=by intro g s i H Q I j;refine isTrue_plain (bL (h g s i H _ I j) λv r f=>?_) (he _);let(x,k,m,o,p):=f;let(d,rfl,q):=p;cases o;exact wpAny_truthy_bool ⟨k,m,q⟩
variable{tA Rw:TT}{rest:List jj}
abbrev Uz(t u:TT):TT:=λd H Q=>t d H λc e=>if c=ig then u d e Q else Q iv e
abbrev YA(t u:TT):TT:=λd H Q=>t d H λc e=>if c=ig then Q ig e else u d e Q
abbrev UE(t:TT):TT:=λd H Q=>t d H λc e=>Q (!c) e
def pw_and1(d:PT X a tA):PW X (.BoolOp .And [a] pos) tA:=by
 intro i f s g H Q I h;refine isTrue_and (bL (d f s g H Q I h) λc j e=>?_)
 cases c with
 |true=>exact isTrue_and_nil e|false=>exact e
def pw_or1(d:PT X a tA):PW X (.BoolOp .Or [a] pos) tA:=by
 intro i f s g H Q I h;refine isTrue_or (bL (d f s g H Q I h) λc j e=>?_)
 cases c with
 |false=>exact isTrue_or_nil e|true=>exact e
def pw_and(k:PT X a tA)(m:PW X (.BoolOp .And (b::rest) pos) Rw):PW X (.BoolOp .And (a::b::rest) pos) (Uz tA Rw):=by
 intro o e s f H Q I h;refine isTrue_and (bL (k e s f H _ I h) λc p d=>?_);let(g,i,j):=d
 cases c with
 |true=>exact m o e p f g Q i j|false=>exact⟨g,i,j⟩
def pw_or(k:PT X a tA)(m:PW X (.BoolOp .Or (b::rest) pos) Rw):PW X (.BoolOp .Or (a::b::rest) pos) (YA tA Rw):=by
 intro o e s f H Q I h;refine isTrue_or (bL (k e s f H _ I h) λc p d=>?_);let(g,i,j):=d
 cases c with
 |true=>exact⟨g,i,j⟩|false=>exact m o e p f g Q i j
def MI(d:PT X a tA):PT X (.UnaryOp .Not a pos) (UE tA):=by intro e s f H Q I h;exact isTrue_not (d e s f H (λc g=>Q (!c) g) I h)
abbrev Qf(ta tb:TE):TE:=λd H Q=>ta d H λx e=>∃c,x=.bl c/\if c=ig then tb d e Q else Q (.bl iv) e
abbrev UG(ta tb:TE):TE:=λd H Q=>ta d H λx e=>∃c,x=.bl c/\if c=ig then Q (.bl ig) e else tb d e Q
abbrev Qk(ta:TE):TE:=λd H Q=>ta d H λx e=>∃c,x=.bl c/\Q (.bl (!c)) e
def DQ{op}{t:TE}(h:PE X a t):PE X (.BoolOp op [a] pos) t:=λc s d H Q I e=>BoolOp_one (h c s d H Q I e)
def Mt(k:PE X a ta)(m:PE X (.BoolOp .And (b::rest) pos) tb):PE X (.BoolOp .And (a::b::rest) pos) (Qf ta tb):=by
 intro f s g H Q I h;refine BoolOp_and (bL (k f s g H _ I h) λv o e=>?_);let(x,i,j,p,d):=e;let(c,rfl,d):=d
 cases p;refine wpAny_truthy_bool ?_;cases c with
 |true=>exact m f o g i Q j d|false=>exact{.bl iv,i,j,rfl,d}
def PN(k:PE X a ta)(m:PE X (.BoolOp .Or (b::rest) pos) tb):PE X (.BoolOp .Or (a::b::rest) pos) (UG ta tb):=by
 intro f s g H Q I h;refine BoolOp_or (bL (k f s g H _ I h) λv o e=>?_);let(x,i,j,p,d):=e;let(c,rfl,d):=d
 cases p;refine wpAny_truthy_bool ?_;cases c with
 |false=>exact m f o g i Q j d|true=>exact{.bl ig,i,j,rfl,d}
def Mx(f:PE X a ta):PE X (.UnaryOp .Not a pos) (Qk ta):=by intro g s i H Q I h;refine UnaryOp_ (bL (f g s i H _ I h) λv o d=>?_);let(x,j,k,m,e):=d;let(c,rfl,e):=e;cases m;exact not_of (wpAny_truthy_bool {.bl (!c),j,k,rfl,e})
abbrev Yz(t:TT)(ta tb:TE):TE:=λd H Q=>t d H λc e=>if c=ig then ta d e Q else tb d e Q
def DN{c:jj}(o:PT X c tA)(p:PE X a ta)(q:PE X b tb):PE X (.IfExp c a b pos) (Yz tA ta tb):=by
 intro e s f H Q I h;refine wpAny_IfExp (bL (o e s f H _ I h) λd i g=>?_);let(j,k,m):=g
 cases d with
 |true=>exact p e i f j Q k m|false=>exact q e i f j Q k m
end
def iX(K:zz8)(H:Hp)(a:i6)(xs:List V):Prop:=
 Rd H a (.lst xs)\/
  ∃(o:Obj) (b:Array i1) (n:Nat),K.lookup a=ia o/\o.cls=.type "list"/\o.dict=ie/\o.data=.seq b n/\b.size<=k6/\Vals xs b.toList
def fK(K:zz8)(H:Hp)(a:i6)(xs:List V):Prop:=
 Rd H a (.tup xs)\/
  ∃(o:Obj) (b:Array i1) (n:Nat),K.lookup a=ia o/\o.cls=.type "tuple"/\o.data=.seq b n/\b.size<=k6/\Vals xs b.toList
abbrev Sj:i1->Option V
 |.none=>ia .aG|.bool b=>ia (.bl b)|.int i _=>ia (.int i)|.str x _=>ia (.str x)|.bytes b _=>ia (.Sn b)|.float b _=>ia (.Sz b)|.ref a=>ia (.ref a)|.type n=>ia (.ty n)|_=>ie
def RelV.abs{x:V}{u:i1}(r:RelV x u):Sj u=ia x:=by
 cases x with
 |aG=>cases r;rfl
 |bl _=>cases r;rfl
 |int _=>let(t,rfl):=r;rfl|str _=>let(t,rfl):=r;rfl|Sn _=>let(t,rfl):=r;rfl|Sz _=>let(t,rfl):=r;rfl|ref _=>cases r;rfl
 |ty _=>cases r;rfl
def RelV.inj{x y:V}{u:i1}(r:RelV x u)(q:RelV y u):x=y:=zzq (r.abs.symm.trans q.abs)
theorem Vals.inj:∀{xs ys:List V} {us:List i1},Vals xs us->Vals ys us->xs=ys
 |_,_,_,.nil,.nil=>rfl|_,_,_,.cons r t,.cons a t'=>by rw [r.inj a,Vals.inj t t']
section
variable{aa:mn}{s:i2}{xs ys:List V}
def iX.of{K:zz8}(h:H a=ia (.lst xs)):iX K H a xs:=.inl (.inl h)
def Inv.list(I:zv2 s)(h:iX X.K H a xs):∃b:List i1,Vals xs b/\PlainL s.heap a b.toArray/\xs.length<=sizeLine:=by
 rcases h with h|⟨o,b,n,hk,c,hd,hs,d,r⟩
 .let(z,b,n,r,e):=h.ok I.aM;exact{b,r,{_,n,e,rfl,rfl,rfl},z}
 .refine{b.toList,r,{o,n,I.uA a o hk,c,hd,zx6 hs},?_};have e:=r.length;simp! [eH] at e;omega
def Inv.tuple(I:zv2 s)(h:fK X.K H a xs):∃b:List i1,Vals xs b/\IsTup s.heap a b.toArray/\xs.length<=sizeLine:=by
 rcases h with h|⟨o,b,n,hk,c,hs,d,r⟩
 .let(z,b,r,p):=h.ok I.aM;exact⟨b,r,p,z⟩
 .refine{b.toList,r,{o,I.uA a o hk,c,n,zx6 hs},?_};have e:=r.length;simp! [eH] at e;omega
def Inv.uF(I:zv2 s)(h:iX X.K H a xs)(h':iX X.K H a ys):xs=ys:=by
 let(g,r,(o,n,e,_,_,d),_):=I.list h;let(b,i,(j,k,c,_,_,f),_):=I.list h';rw [e] at c;cases c;rw [d] at f
 injection f with d1 _
 have:g=b:=by simpa using congrArg Array.toList d1
 subst this;exact r.inj i
def Inv.qr(I:zv2 s)(h:fK X.K H a xs)(h':fK X.K H a ys):xs=ys:=by
 let(g,r,(o,e,_,n,d),_):=I.tuple h;let(b,i,(j,c,_,k,f),_):=I.tuple h';rw [e] at c;cases c;rw [d] at f
 injection f with d1 _
 have:g=b:=by simpa using congrArg Array.toList d1
 subst this;exact r.inj i
variable{rest:List k7}{t u:TS}
abbrev Qj:TS:=λD σ H=>D.nx σ H
abbrev UJ(t u:TS):TS:=λD σ H=>t {D with nx:=u D} σ H
def Iv:xn X [] Qj:=λZ Z σ H Z I h=>wpAny_execs_nil ⟨σ,H,I,h⟩
def D7(c:PS X st t)(d:xn X rest u):xn X (st::rest) (UJ t u):=by
 intro aa s σ H D I h;refine wpAny_execs_cons (bL (c aa s σ H {D with nx:=u D} I h) λf g q=>?_)
 cases f with
 |next=>let(b,i,j,q):=q;exact d aa g b i D j q|ret v=>exact q|brk=>exact q|cont=>exact q
def M8:TS:=λD σ H=>D.bk σ H
def D4:PS X (.Break pos) M8:=λZ Z σ H Z I h=>wpAny_Break ⟨σ,H,I,h⟩
def Inv.quiet{aa:mn}{s:i2}(I:zv2 s):interactive X.env=iv:=by simp [interactive,I.ok.kind]
abbrev Qh(te:TE):TS:=λD σ H=>te σ H λZ b=>D.nx σ b
theorem rH(he:PE X e te)(hs:swapsWith e ie pos.line X.env=pure iv:=by rfl):PS X (.Expr e pos) (Qh te):=by intro aa s σ H D I h;exact wpAny_Expr_any (bL (he aa s σ H _ I h) λv d ⟨x,H1,b,f,c⟩=>⟨σ,H1,b,c⟩) I.quiet hs
abbrev UI(te:TE):TS:=λD σ H=>te σ H D.rt
def MH(he:PE X e te):PS X (.Return (ia e) pos) (UI te):=by intro aa s σ H D I h;exact wpAny_Return_some (bL (he aa s σ H _ I h) λv f ⟨x,H1,b,c,d⟩=>⟨x,σ,H1,b,c,d⟩)
abbrev UB(c:TT)(t u:TS):TS:=λD σ H=>c σ H λb d=>if b=ig then t D σ d else u D σ d
def PU{c:jj}{a b:List k7}{g:TT}(o:PT X c g)(p:xn X a t)(q:xn X b u):PS X (.If c a b pos) (UB g t u):=by
 intro aa s σ H D I h;refine wpAny_If (bL (o aa s σ H _ I h) λd i f=>?_);let(j,k,m):=f
 cases d with
 |true=>exact p aa i σ j D k m|false=>exact q aa i σ j D k m
end
noncomputable abbrev TG:=V->St->Hp->(St->Hp->Prop)->Prop
noncomputable abbrev Ji:=List V->St->Hp->(St->Hp->Prop)->Prop
def PG(X:Cx)(a:jj)(t:TG):Prop:=
 ∀(c:mn) (s:i2) (d:St) (H:Hp) (v:V) (u:i1) (Q:St->Hp->Prop),Inv X c d H s->RelV v u->t v d H Q->
  zx7 X (assign a X.env u) (λZ f=>∃b e,Inv X c b e f/\Q b e) X.xe s
def N3(X:Cx)(ts:List jj)(t:Ji):Prop:=
 ∀(b:mn) (s:i2) (c:St) (H:Hp) (d:List V) (e:List i1) (Q:St->Hp->Prop),Inv X b c H s->Vals d e->t d c H Q->
  zx7 X (assignInOrder ((assignEach ts X.env).map (·.2)) e) (λZ g=>∃a f,Inv X b a f g/\Q a f) X.xe s
noncomputable abbrev Fd:=V->V->V->Hp->(Hp->Prop)->Prop
def sF(X:Cx)(t:Fd):Prop:=
 ∀(a:mn) (s:i2) (b:St) (H:Hp) (o i v:V) (c d u:i1) (Q:Hp->Prop),Inv X a b H s->RelV o c->RelV i d->RelV v u->t o i v H Q->
  zx7 X (setItem c d u) (λZ f=>∃e,Inv X a b e f/\Q e) X.xe s
abbrev gZ(i:Nat):TG:=λv a H Q=>Q (a.set i (ia v)) H
def Ik{i:Nat}(hN:X.N.Nodup)(a:X.N[i]?=ia x)(b:Loc X.env.scope x)(c:X.fn x=ig\/X.env.scope.names.lookup x=ia .local:=by first|exact .inl rfl|exact .inr rfl|assumption):PG X (.Name x pos) (gZ i):=by intro e s f H v u Q I r h;exact wpAny_assign_Name (vm I hN a b r (λg d=>{_,H,d,h}) c)
abbrev KW:Ji:=λa b H Q=>a=[]/\Q b H
abbrev xQ(t:TG)(u:Ji):Ji:=λb c H Q=>∃v r,b=v::r/\t v c H λa d=>u r a d Q
def Il:N3 X [] KW:=by intro b s a H c d Q I r h;let(e,h):=h;subst e;cases r;exact assignInOrder_nil ⟨a,H,I,h⟩
theorem DV{a:List jj}{t:TG}{u:Ji}(f:PG X e t)(g:N3 X a u)
 (hs:(assignEach (e::a) X.env).map (·.2)=assign e X.env::(assignEach a X.env).map (·.2):=by rfl):N3 X (e::a) (xQ t u):=by
 intro d s i H w y Q I r h;let(v,z,j,h):=h
 subst j;cases r with
 |cons r k=>rw [hs];refine assignInOrder_cons (bL (f d s i H _ _ _ I r h) λZ m b=>?_);let(c,o,p,q):=b;exact g d m c o _ _ Q p k q
abbrev OK(K:zz8)(n:Nat)(t:Ji):TG:=λv b H Q=>∃a xs,v=.ref a/\fK K H a xs/\xs.length=n/\t xs b H Q
theorem MA{c:List jj}{k:Nat}{t:Ji}{n:Nat}(j:X.calm=ig)(h:N3 X c t)
 (m:(assignEach c X.env).length=n:=by rfl) (p:(assignEach c X.env).findIdx? (·.1)=ie:=by rfl):PG X (.Tuple c k pos) (OK X.K n t):=by
 intro f s g H v u Q I r d;let(a,xs,q,w,hl,d):=d;subst q;cases r;let(C,i,y,D):=I.tuple w;refine assign_Tuple_tuple (I.ok.hd j) y (by simp [m,<-hl,i.length]) p λz A=>?_;have B:Inv X f g H {s with heap:=z}:=I.kept (t':=s.toks) λb o e=>A b o (ew (dn e)) e;exact h f _ g H xs _ Q B (zx6 i) d
abbrev SF(b c:TE)(t:Fd):TG:=λv a H Q=>b a H λo d=>c a d λi e=>t o i v e λf=>Q a f
def DU{o i:jj}{f g:TE}{t:Fd}(j:PE X o f)(k:PE X i g)(hs:sF X t)
 (m:∀v,assign (.Subscript o i pos) X.env v=(do
  let b<-holding [v] (eval o X.env);let c<-holding [v,b] (eval i X.env)
  standAt pos
  holding [v,b,c] (setItem b c v)
  release [v,b,c] []):=by intro _;rfl):PG X (.Subscript o i pos) (SF f g t):=by
 intro e s d H v u Q I r h;rw [m];refine aT (wpAny_holding (bL (j e s d H _ I h) λb p a=>?_));let(x,q,w,z,A):=a;refine aT (wpAny_holding (bL (k e p d q _ w A) λc B a=>?_));let(y,C,D,E,F):=a;refine aT (wpAny_standAt (aT (wpAny_holding (bL (hs e B d C x y v b c u _ D z E r F) λZ M a=>?_))));let(G,K,L):=a;exact wpAny_release ⟨d,G,K,L⟩
abbrev IS(te:TE)(g:TG):TS:=λD a H=>te a H λx b=>g x a b D.nx
theorem D3{a:jj}{g:TG}(he:PE X e te)(f:PG X a g)(hs:swapsWithSole [a] e pos.line X.env=pure iv:=by rfl)(i:swappedStores [a] e X.env=pure ie:=by rfl)
 (j:(assignEach [a] X.env).map (·.2)=[assign a X.env]:=by rfl):PS X (.Assign [a] e pos) (IS te g):=by
 intro c s d H D I h;refine wpAny_Assign_stores (bL (he c s d H _ I h) λv k b=>?_) hs i;let(x,m,o,p,r):=b;rw [j];exact bL (f c k d m x v _ o p r) λZ t q=>q
theorem nK{i:Nat}{a:Pos}(hN:X.N.Nodup)(c:X.N[i]?=ia x)(d:Loc X.env.scope x)(he:PE X e te)(hs:swapsWith e (ia (.Name x a)) pos.line X.env=pure iv:=by rfl)(f:X.fn x=ig\/X.env.scope.names.lookup x=ia .local:=by first|exact .inl rfl|exact .inr rfl|assumption):
 PS X (.Assign [.Name x a] e pos) (IS te (gZ i)):=by
 intro g s j H D I h;refine wpAny_Assign_Name (bL (he g s j H _ I h) λv r b=>?_) hs;let(y,k,m,o,p):=b;exact vm m hN c d o (λt q=>{_,k,q,p}) f
abbrev Nd(c:TT)(tb:TS):TS:=λD a H=>∃W:Nat->St->Hp->Prop,(∃m,W m a H)/\∀m a H,W m a H->
 c a H λb e=>if b=ig then∃N:St->Hp->Prop,(∀d f,N d f->∃g,g<m/\W g d f)/\tb {D with nx:=N,ct:=N,bk:=D.nx} a e else D.nx a e
def D6{c:jj}{body:List k7}{u:TT}{tb:TS}(y:PassesOwn (kn X.prog X.w) X.A X.env X.xe)(E:PT X c u)(F:xn X body tb):PS X (.While c body [] pos) (Nd u tb):=by
 intro m s G H D I h;let(W,(K,w0),e):=h;refine wpAny_While (codeAny_whileLoop (λn L=>∃g z,Inv X m g z L/\W n g z) ?_ K ⟨G,H,I,w0⟩)
 rintro n s1 ⟨d,H1,M,w1⟩
 refine wpAny_passesOwn y (bL (E m s1 d H1 _ M (e n d H1 w1)) λb O o=>?_);let(B,C,j):=o
 cases b with
 |true=>
  let(N,hN,j):=j;rw [if_pos rfl];refine wpAny_passesOwn y (bL (F m O d B _ C j) λf P k=>?_)
  cases f with
  |next=>let(a,i,p,q):=k;let(r,hm,t):=hN a i q;exact⟨r,hm,a,i,p,t⟩|cont=>let(a,i,p,q):=k;let(r,hm,t):=hN a i q;exact⟨r,hm,a,i,p,t⟩|brk=>exact k|ret v=>exact k
 |false=>rw [if_neg zzf];exact wpAny_execs_nil ⟨d,B,C,j⟩
structure It where
 go:Nat->Hp->Prop
 Nv:Nat->Hp->V->Hp->Prop
 stop:Nat->Hp->Prop
def dE(X:Cx)(a:mn)(H:Hp)(b:i6):Prop:=
 H b=ie/\b≠X.env.locals/\b∉X.fs/\(b∈X.ex\/X.s₀.heap.objs.size<=b)/\(∀x c,X.env.cells.lookup x=ia c->c≠b)/\∀p∈X.pn++a,p.1≠b
def Inv.jy{d:mn}{g:St}{f:Hp}{s:i2}{b:i6}(I:Inv X d g H s)(a:(zz9 s)<=b)(h:f b=ie):dE X d f b:=by
 refine{h,Nat.ne_of_gt (eo I.lt a),I.TR a,.inr (eg I.sz a),λx c e z=>?_,λp i z=>?_}
 .let(v,q):=I.cell x c e;exact absurd (eo q.lt (by rw [z];exact a)) (Nat.lt_irrefl _)
 .exact absurd (eo (dn (I.pin p i).1) (by rw [z];exact a)) (Nat.lt_irrefl _)
structure Turn(P:jm)(w:kd)(K:zz8)(tg:jj)(J:It)(fp:List i6)(it:i6)(tn:Nat->kB->Prop):Prop where
 mem:it∈fp
 obj:∀i h,tn i h->∀b∈fp,∃o,h.get? b=ia o/\∀v,o.data≠.cell v
 keep:∀i h h',tn i h->(∀b∈fp,∀o,h.get? b=ia o->h'.get? b=ia o)->tn i h'
 item:∀(X:Cx),X.prog=P->X.w=w->X.K=K->X.calm=ig->∀(i:Nat) (aa:mn) (s:i2) (σ:St) (H:Hp) (E:ml),Inv X aa σ H s->(∀b∈fp,dE X aa H b)->tn i s.heap->J.go i H->
  jk (kn P w) X.A (pyNext (.ref it)) (λr s1=>∃u,r=ia u/\
   jk (kn P w) X.A (letOwnedTupleGo tg (.ref it) u) (λ_ s2=>∃x H',Inv X aa σ H' s2/\RelV x u/\J.Nv i H x H'/\tn (i+1) s2.heap/\∀b∈fp,H' b=ie) E s1) E s
 done:∀(X:Cx),X.prog=P->X.w=w->X.K=K->X.calm=ig->∀(i:Nat) (aa:mn) (s:i2) (σ:St) (H:Hp) (E:ml),Inv X aa σ H s->(∀b∈fp,dE X aa H b)->tn i s.heap->J.stop i H->
  jk (kn P w) X.A (pyNext (.ref it)) (λr s1=>r=ie/\Inv X aa σ H s1) E s
 self:∀(A:ku) (i:Nat) (s:i2) (Q:ml) (E:ml),tn i s.heap->Q (.ref it) s->jk (kn P w) A (pyIter (.ref it)) Q E s
noncomputable abbrev TI:=St->Hp->(It->Hp->Prop)->Prop
def RO(X:Cx)(c:mn)(e:St)(f:jj)(R:It->Hp->Prop)(g:i1)(d:i2):Prop:=
 ∃(it:i6) (fp:List i6) (tn:Nat->kB->Prop) (J:It) (a:Hp),g=.ref it/\Inv X c e a d/\Turn X.prog X.w X.K f J fp it tn/\tn 0 d.heap/\(∀b∈fp,dE X c a b)/\R J a
def PI(X:Cx)(c iter:jj)(d:TI):Prop:=
 ∀(b:mn) (s:i2) (a:St) (H:Hp) (R:It->Hp->Prop),Inv X b a H s->d a H R->
  zx7 X (eval iter X.env) (λv e=>zx7 X (pyIter v) (RO X b a c R) X.xe e) X.xe s
def ud{M:Model}{E:ml}{s:i2}{b:jj}{it:i6}{u:i1}{n:String}{vs:Array i1}{Q:Unit->i2->Prop}(c:s.heap.get? it=ia o)(d:o.cls=.type n)(hd:o.data=.fields vs)
 (e:[zu 0,"zip","dict_itemiterator","dict_reverseitemiterator","odict_iterator","itertools.zip_longest","itertools.pairwise"].contains n=iv) (a:Q () s):jk M A (letOwnedTupleGo b (.ref it) u) Q E s:=by
 unfold letOwnedTupleGo;cases b<;>first
  |exact b4 a
  |(cases u<;>first
   |exact b4 a
   | (refine aT (wpAny_load c ?_)
      rw [d,hd];show jk M A (if([zu 0,"zip","dict_itemiterator","dict_reverseitemiterator","odict_iterator","itertools.zip_longest","itertools.pairwise"].contains n&&vs[0]?==ia (rawInt _))=ig then _ else _) Q E s;rw [if_neg (by intro h;rw [e,Bool.false_and] at h;cases h)];exact b4 a))
abbrev RM(K:zz8)(a:i6):It:=
 {λi H=>∃xs x,iX K H a xs/\xs[i]?=ia x,λi H x b=>b=H/\∀xs,iX K H a xs->xs[i]?=ia x,λi H=>∃xs,iX K H a xs/\xs.length<=i}
abbrev RN(K:zz8)(a:i6):It:=
 {λi H=>∃xs x,fK K H a xs/\xs[i]?=ia x,λi H x b=>b=H/\∀xs,fK K H a xs->xs[i]?=ia x,λi H=>∃xs,fK K H a xs/\xs.length<=i}
abbrev NY(a:Int)(n:Nat):It:={λi Z=>i<n,λi H x b=>b=H/\x=.int (a+i),λi Z=>n<=i}
def Bc{K:zz8}{Q:jj}(a it:i6):Turn P w K Q (RM K a) [it] it (λi h=>h.IsListIter it a i) where
 mem:=by simp
 obj:=λi h st b f=>by have e:b=it:=zx6 f;subst e;let(o,e,c,d):=st;exact{o,e,λv z=>by rw [d] at z;cases z}
 keep:=λi h g st k=>st.at λo e=>k it (by simp) o e
 item:=by intro X q r hK L i M s N H E I j st t;subst q r hK;let(xs,x,m,y):=t;let(R,A,p,S):=I.list m;let(u,T,U):=A.get y;let(B,C,V,D,F,G):=j it (by simp);refine wpAny_pyNext_list_item st p.isList (x:=u) (zx6 T) λg O W=>?_;have Y:Inv X M N H {s with heap:=g}:=I.turned (t':=s.toks) (λb o f e=>(W.2 b f).trans e) B C D F G;let(o,e,c,d):=id O;exact{u,rfl,ud (s:={s with heap:=g}) e c d (by decide) {x,H,Y,U,{rfl,λys Z=>by rw [I.uF Z m];exact y},O,λb f=>(j b f).1}}
 done:=by intro X q r hK L i M s N H E I j st t;subst q r hK;let(xs,m,y):=t;let(R,A,p,S):=I.list m;let(B,C,V,D,F,G):=j it (by simp);have hl:=A.length;exact wpAny_pyNext_list_end (I.ok.hd L) st p.isList (by simp;omega) λg eb=>{rfl,I.turned (t':=s.toks) (λb o f e=>eb b o f e) B C D F G}
 self:=λ_ _ _ _ _ st h=>wpAny_pyIter_listiter st h
def xg{K:zz8}{R:jj}(a it:i6):Turn P w K R (RN K a) [it] it (λi h=>h.IsTupleIter it a i) where
 mem:=by simp
 obj:=λi h st b f=>by have e:b=it:=zx6 f;subst e;let(o,e,c,d):=st;exact{o,e,λv z=>by rw [d] at z;cases z}
 keep:=λi h g st k=>st.at λo e=>k it (by simp) o e
 item:=by intro X q r hK M i N s O H E I j st t;subst q r hK;let(xs,x,m,y):=t;let(A,B,p,S):=I.tuple m;let(u,T,U):=B.get y;let(C,D,V,F,G,L):=j it (by simp);refine wpAny_pyNext_tuple_item st (show s.heap.IsTuple a A.toArray from p) (x:=u) (zx6 T) λg Q W=>?_;have Y:Inv X N O H {s with heap:=g}:=I.turned (t':=s.toks) (λb o f e=>(W.2 b f).trans e) C D F G L;let(o,e,c,d):=id Q;exact{u,rfl,ud (s:={s with heap:=g}) e c d (by decide) {x,H,Y,U,{rfl,λys Z=>by rw [I.qr Z m];exact y},Q,λb f=>(j b f).1}}
 done:=by intro X q r hK M i N s O H E I j st t;subst q r hK;let(xs,m,y):=t;let(A,B,p,S):=I.tuple m;let(C,D,V,F,G,L):=j it (by simp);have hl:=B.length;exact wpAny_pyNext_tuple_end (I.ok.hd M) st (show s.heap.IsTuple a A.toArray from p) (by simp;omega) λg eb=>{rfl,I.turned (t':=s.toks) (λb o f e=>eb b o f e) C D F G L}
 self:=λ_ _ _ _ _ st h=>wpAny_pyIter_tupleiter st h
def xf{w:kd}{K:zz8}{G:jj}(it:i6)(c:Int)(n:Nat):Turn P w K G (NY c n) [it] it (λi h=>IsRangeIter h it (c+(i:Nat)*1) ((n:Int)-(i:Nat)) 1) where
 mem:=by simp
 obj:=λi h st b a=>by have e:b=it:=zx6 a;subst e;exact{_,st,λv z=>by have L:Data.fields _=Data.cell v:=z;cases L}
 keep:=λi h d st k=>k it (by simp) _ st
 item:=by intro X g j hK m i B s C H E I f st p;subst g j hK;let(q,r,M,u,y,A):=f it (by simp);have W:=Walks.range (prog:=X.prog) (w:=X.w) (I.ok.hd m) it c 1 n;refine W.item i s _ _ p st λv d D N F O=>?_;let(t,rfl):=N;have Q:Inv X B C H {s with heap:=d,toks:=D}:=I.turned (λb o a e=>O b o (zx6 a) e) q r u y A;refine{_,rfl,ud (s:={s with heap:=d,toks:=D}) (n:="range_iterator") F rfl rfl (by decide) {.int (c+i),H,Q,{t,?_},⟨rfl,rfl⟩,F,λb a=>(f b a).1}};rw [Int.mul_one]
 done:=by intro X g j hK m i B s C H E I f st p;subst g j hK;let(q,r,M,u,y,A):=f it (by simp);exact wpAny_pyNext_range_end (I.ok.hd m) st (by have:n<=i:=p;omega) λd R=>{rfl,I.turned (t':=s.toks) (λb o a e=>R b o a e) q r u y A}
 self:=λZ Z Z Z Z st h=>wpAny_pyIter_rangeiter st h
section
variable{tg:jj}
abbrev Pc(K:zz8)(c:TE):TI:=λd H R=>c d H λx b=>∃a,x=.ref a/\(∃xs,iX K b a xs)/\R (RM K a) b
abbrev To(K:zz8)(c:TE):TI:=λd H R=>c d H λx b=>∃a,x=.ref a/\(∃xs,fK K b a xs)/\R (RN K a) b
def yB{l:jj}{g:TE}(hl:PE X l g):PI X tg l (Pc X.K g):=by intro i s j H R I h;refine bL (hl i s j H _ I h) λv c f=>?_;let(x,k,d,m,r):=f;let(a,e,(xs,t),q):=r;subst e;cases m;let(w,y,p,z):=d.list t;refine wpAny_pyIter_list p.isList ?_;refine{(zz9 c),[(zz9 c)],_,_,k,rfl,d.kept (t':=c.toks) λb o e=>a5 _ e,Bc a _,{_,et _ rfl,rfl,rfl},λb u=>?_,q};have e:b=(zz9 c):=zx6 u;subst e;exact d.jy (bc _) (d.aM.fresh (bc _))
def MD{l:jj}{g:TE}(hl:PE X l g):PI X tg l (To X.K g):=by intro i s j H R I h;refine bL (hl i s j H _ I h) λv c f=>?_;let(x,k,d,m,r):=f;let(a,e,(xs,t),q):=r;subst e;cases m;let(u,y,p,z):=d.tuple t;refine wpAny_pyIter_tuple (show c.heap.IsTuple a u.toArray from p) ?_;refine{(zz9 c),[(zz9 c)],_,_,k,rfl,d.kept (t':=c.toks) λb o e=>a5 _ e,xg a _,{_,et _ rfl,rfl,rfl},λb w=>?_,q};have e:b=(zz9 c):=zx6 w;subst e;exact d.jy (bc _) (d.aM.fresh (bc _))
def u0{d:mn}{f:St}{s:i2}{R:It->Hp->Prop}{E:ml}{a:Int}{t u v:Tok}{tk:Nat}(I:Inv X d f H s)(h: -(2^62)<=a)(i:a<2^62)(j: -(2^62)<=c)(k:c<2^62)
 (q:R (NY a (c-a).toNat) H):zx7 X (pyIter (.ref (zz9 s))) (RO X d f tg R) E {s with heap:=s.heap.push {cls:=.type "range",data:=.fields #[.int a t,.int c u,.int 1 v]},toks:=tk}:=by
 refine wpAny_pyIter_range (IsRange.new ..) (small_one h i j k) ?_;have g:Inv X d f H {s with heap:=s.heap.push {cls:=.type "range",data:=.fields #[.int a t,.int c u,.int 1 v]},toks:=tk}:=I.kept λb o e=>a5 _ e
 refine{(s.heap.push {cls:=.type "range",data:=.fields #[.int a t,.int c u,.int 1 v]}).objs.size,[(s.heap.push {cls:=.type "range",data:=.fields #[.int a t,.int c u,.int 1 v]}).objs.size],_,_,H,rfl,
  g.kept (t':=tk) λb o e=>a5 _ e,xf _ a (c-a).toNat,?_,λb m=>?_,q}
 .have p:a+((0:Nat):Int)*1=a:=by simp
  have r:(((c-a).toNat:Nat):Int)-((0:Nat):Int)=la.Range.rangeSize a c 1:=by rw [rangeSize_one];split<;>omega
  show IsRangeIter _ _ (a+((0:Nat):Int)*1) ((((c-a).toNat:Nat):Int)-((0:Nat):Int)) 1;rw [p,r];exact et _ rfl
 .have e:b=(s.heap.push {cls:=.type "range",data:=.fields #[.int a t,.int c u,.int 1 v]}).objs.size:=zx6 m;subst e;exact g.jy (bc _) (g.aM.fresh (bc _))
abbrev Pd(a:TA):TI:=λb H R=>a b H λc d=>∃j:Int,c=[.int j]/\ -(2^62)<=j/\j<2^62/\R (NY 0 j.toNat) d
abbrev Pe(a:TA):TI:=λb H R=>a b H λc d=>∃i j:Int,c=[.int i,.int j]/\(-(2^62)<=i/\i<2^62/\ -(2^62)<=j/\j<2^62)/\R (NY i (j-i).toNat) d
theorem AR{a:jj}{d:TA}{p:Pos}(f:Gl X "range")(hm:X.mg "range"=ie)(g:PA X [a] d)(hs:starEach [a] X.env=[(iv,eval a X.env)]:=by rfl):PI X tg (.Call (.Name "range" p) [a] [] pos) (Pd d):=by
 intro i s k H R I h;refine Call_ (eY I f hm boot_range (PyProof.Rows.callWith_type1 (bL (g pos i s k H _ I h) λy z b=>?_) hs rfl));let(A,B,m,o,c):=b;let(j,e,c,u,q):=c
 subst e;cases o with
 |cons r w=>cases w;let(t,rfl):=r;exact call_range_1 (u0 m (by omega) (by omega) c u (zx6 q))
theorem AS{a b:jj}{g:TA}{p:Pos}(m:Gl X "range")(hm:X.mg "range"=ie)(o:PA X [a,b] g)(hs:starEach [a,b] X.env=[(iv,eval a X.env),(iv,eval b X.env)]:=by rfl)(k:starEach [b] X.env=[(iv,eval b X.env)]:=by rfl):
 PI X tg (.Call (.Name "range" p) [a,b] [] pos) (Pe g):=by
 intro u s w H R I h;refine Call_ (eY I m hm boot_range (PyProof.Rows.callWith_type1 (bL (o pos u s w H _ I h) λE F c=>?_) (by rw [hs,k]) (by rw [k];rfl)));let(G,K,y,z,d):=c;let(i,j,e,(d,A,B,C),q):=d
 subst e;cases z with
 |cons r f=>
  cases f with
  |cons D f=>cases f;let(t,rfl):=r;let(L,rfl):=D;exact call_range_2 (u0 y d A B C q)
abbrev UA(f:TI)(g:TG)(tb:TS):TS:=λD a H=>f a H λJ h=>∃W:Nat->Nat->St->Hp->Prop,(∃m,W 0 m a h)/\∀i m a H,W i m a H->
 (J.stop i H/\D.nx a H)\/(J.go i H/\∃N:St->Hp->Prop,(∀b c,N b c->∃e,e<m/\W (i+1) e b c)/\∀x c,J.Nv i H x c->g x a c λd j=>tb {D with nx:=N,ct:=N,bk:=D.nx} d j)
abbrev rF(fp:List i6)(h:kB):mn:=fp.filterMap λb=>(h.get? b).map λo=>(b,o)
def dO{fp:List i6}{b:i6}(a:b∈fp)(e:h.get? b=ia o):(b,o)∈rF fp h:=hI.mpr {b,a,by rw [e];rfl}
def AM{fp:List i6}{p:i6×Obj}(a:p∈rF fp h):p.1∈fp/\h.get? p.1=ia p.2:=by
 let(b,c,e):=hI.mp a
 cases q:h.get? b with
 |none=>rw [q] at e;cases e
 |some o=>rw [q] at e;have d:(b,o)=p:=zzq e;subst d;exact⟨c,q⟩
theorem Inv.pinned{a:mn}{c:St}{s:i2}{fp:List i6}(I:Inv X a c H s)(h:∀b∈fp,dE X a H b)(i:∀b∈fp,∃o,s.heap.get? b=ia o/\∀v,o.data≠.cell v):Inv X (a++rF fp s.heap) c H s:=
 I.fw λp j=>(List.mem_append.mp j).elim (λz=>I.pin p (ea _ z)) λz=>by let(f,e):=AM z;let(k,m,q,_):=h p.1 f;let(o,g,d):=i p.1 f;rw [e] at g;cases g;exact⟨e,k,m,q,d⟩
def Inv.j9{a c:mn}{b:St}{s:i2}(I:Inv X (a++c) b H s):Inv X a b H s:=I.fw λp d=>I.pin p (ea _ (ey _ d))
def MG{iter:jj}{body:List k7}{V:TI}{g:TG}{tb:TS}(F:PassesOwn (kn X.prog X.w) X.A X.env X.xe)(Y:X.calm=ig)(hi:PI X tg iter V)(hg:PG X tg g)(c:xn X body tb)
 (hs:∀x,foldedSetIterable iter X.env x=pure x:=by intro _;rfl):PS X (.For tg iter body [] pos) (UA V g tb):=by
 intro B s Z H D I h;refine wpAny_For (bL (hi B s Z H _ I h) λv s1 h1=>bL h1 λRg s2 h2=>?_) hs;let(it,fp,tn,J,H2,e,I2,T,M0,f2,W,(m0,w0),G):=h2;subst e;have P:∀{y:Hp},(∀b∈fp,y b=ie)->∀b∈fp,dE X B y b:=λhn b c=>{hn b c,(f2 b c).2};refine codeAny_forLoop_any (λn s'=>∃i j y,Inv X B j y s'/\tn i s'.heap/\(∀b∈fp,y b=ie)/\W i n j y) ?_ m0 {0,Z,H2,I2,M0,λb c=>(f2 b c).1,w0}
 rintro n s3 ⟨i,k,O,I3,K,L,w3⟩
 rcases G i n k O w3 with⟨stop,qn⟩|⟨go,N,hN,step⟩
 .refine wpAny_passesOwn F (bL (T.done X rfl rfl rfl Y i B s3 k O X.xe I3 (P L) K stop) λr s4 ⟨Q,I4⟩=>?_);subst Q;exact wpAny_execs_nil ⟨k,O,I4,qn⟩
 .refine wpAny_passesOwn F (bL (T.item X rfl rfl rfl Y i B s3 k O X.xe I3 (P L) K go) λr s4 ⟨u,Q,h4⟩=>?_);subst Q;refine wpAny_passesOwn F (bL h4 λ_ s5 C=>?_);let(x,H5,I5,r5,y5,E,R):=C;have RI:=I5.pinned (P R) (T.obj _ _ E);refine wpAny_passesOwn F (bL (hg _ s5 k H5 x u _ RI r5 (step x H5 y5)) λ_ s6 C=>?_);let(S,H6,I6,q6):=C;refine wpAny_passesOwn F (bL (c _ s6 S H6 _ I6 q6) λf U z=>?_);have p:∀{a:St} {q:Hp},Inv X (B++rF fp s5.heap) a q U->N a q->∃m,m<n/\∃i j y,Inv X B j y U/\tn i U.heap/\(∀b∈fp,y b=ie)/\W i m j y:=λ{a q} t M=>by let(m',hm,w7):=hN a q M;refine{m',hm,i+1,a,q,t.j9,T.keep _ _ _ E λb c o e=>(t.pin (b,o) (ea _ (ea _ (dO c e)))).1,λb c=>?_,w7};let(o,e,d):=T.obj _ _ E b c;exact(t.pin (b,o) (ea _ (ea _ (dO c e)))).2.1
  cases f with
  |next=>let(a,q,t,M):=z;exact p t M|cont=>let(a,q,t,M):=z;exact p t M|brk=>let(a,q,t,z):=z;exact⟨a,q,t.j9,z⟩|ret v=>let(x7,a,q,t,r7,z):=z;exact⟨x7,a,q,t.j9,r7,z⟩
end
noncomputable abbrev R2:=V->V->Hp->VK->Prop
def gM(X:Cx)(f:i1->i1->Sem i1)(r:R2):Prop:=
 ∀(a:mn) (s:i2) (b:St) (H:Hp) (x y:V) (v u:i1) (Q:VK),Inv X a b H s->RelV x v->RelV y u->r x y H Q->
  zx7 X (f v u) (EP X a b Q) X.xe s
def QO(X:Cx)(f:i1->Sem i1)(r:V->Hp->VK->Prop):Prop:=
 ∀(a:mn) (s:i2) (b:St) (H:Hp) (x:V) (v:i1) (Q:VK),Inv X a b H s->RelV x v->r x H Q->
  zx7 X (f v) (EP X a b Q) X.xe s
def da(X:Cx)(f:i1)(r:List V->Hp->VK->Prop):Prop:=
 ∀(a:mn) (s:i2) (b:St) (H:Hp) (xs:List V) (c:List i1) (Q:VK),Inv X a b H s->Vals xs c->r xs H Q->
  zx7 X (call f c) (EP X a b Q) X.xe s
abbrev Na(r:R2)(b tb:TE):TE:=λa H Q=>b a H λx c=>tb a c λy d=>r x y d Q
abbrev YC(r:V->Hp->VK->Prop)(a:TE):TE:=λb H Q=>a b H λx c=>r x c Q
abbrev rI(C:Int->Int->Prop)(g:Int->Int->V):R2:=λx y H Q=>∃i j,x=.int i/\y=.int j/\C i j/\Q (g i j) H
abbrev ML(g:Int->Int->V):R2:=λx y H Q=>∃i j,x=.int i/\y=.int j/\Q (g i j) H
def rU(g:Int->V):V->Hp->VK->Prop:=λx H Q=>∃i,x=.int i/\Q (g i) H
section
variable{a b:jj}{ta tb:TE}
def J9(o:PE X a ta)(p:PE X b tb){j:mn}{s:i2}{d:St}{R:V->V->Hp->Prop}(I:Inv X j d H s)
 (h:ta d H λx m=>tb d m λy e=>R x y e) {Q:ml} {f:i1->i1->Sem i1}
 (hf:∀v u k x y e,Inv X j d e k->RelV x v->RelV y u->R x y e->zx7 X (f v u) Q X.xe k):
 zx7 X (eval a X.env) (λv g=>zx7 X (eval b X.env) (λu i=>zx7 X (f v u) Q X.xe i) X.xe g) X.xe s:=by
 refine bL (o j s d H _ I h) λv q c=>?_;let(x,m,r,t,z):=c;refine bL (p j q d m _ r z) λu k c=>?_;let(y,e,B,C,D):=c;exact hf v u k x y e B t C D
def PM{op:Operator}{r:R2}(c:gM X (binaryOp op) r)(d:PE X a ta)(e:PE X b tb):PE X (.BinOp a op b pos) (Na r ta tb):=by intro f s g H Q I h;exact wpAny_BinOp (J9 d e I h λv u i x y j k m o q=>c f i g j x y v u Q k m o q)
def PQ{op:UnaryOp}{r:V->Hp->VK->Prop}(e:QO X (unaryOp op) r)(f:PE X a ta):PE X (.UnaryOp op a pos) (YC r ta):=by intro c s d H Q I h;exact UnaryOp_ (bL (f c s d H _ I h) λv g ⟨x,H1,i,j,k⟩=>e c g d H1 x v Q i j k)
def Ua{f:i1->i1->Sem i1}{C:Int->Int->Prop}{g:Int->Int->Int}
 (rule:∀(i j:Int) (t u:Tok) (s:i2) (Q:ml) (E:ml),C i j->Q (.int (g i j) s.toks) {s with toks:=s.toks+1}->zx7 X (f (.int i t) (.int j u)) Q E s):
 gM X f (rI C λi j=>.int (g i j)):=by
 intro m s o H x y v u Q I c d h;let(i,j,rfl,rfl,e,q):=h;let(t,rfl):=c;let(k,rfl):=d;exact rule i j t k s _ _ e {.int (g i j),H,I.tok _,{_,rfl},q}
def PC{f:i1->i1->Sem i1}{g:Int->Int->Int}
 (rule:∀(i j:Int) (t u:Tok) (s:i2) (Q:ml) (E:ml),Q (.int (g i j) s.toks) {s with toks:=s.toks+1}->zx7 X (f (.int i t) (.int j u)) Q E s):
 gM X f (ML λi j=>.int (g i j)):=by
 intro k s m H x y v u Q I c d h;let(i,j,rfl,rfl,q):=h;let(t,rfl):=c;let(e,rfl):=d;exact rule i j t e s _ _ {.int (g i j),H,I.tok _,{_,rfl},q}
def Mc{f:i1->i1->Sem i1}{g:Int->Int->Bool}
 (rule:∀(i j:Int) (t u:Tok) (s:i2) (Q:ml) (E:ml),Q (.bool (g i j)) s->zx7 X (f (.int i t) (.int j u)) Q E s):
 gM X f (ML λi j=>.bl (g i j)):=by
 intro k s m H x y v u Q I c d h;let(i,j,rfl,rfl,q):=h;let(t,rfl):=c;let(e,rfl):=d;exact rule i j t e s _ _ {.bl (g i j),H,I,rfl,q}
def RG(i j:Int):Prop:=0<j/\j<1073741824
def JQ(i j:Int):Prop:=(-(2^64)<i/\i<2^64)\/(-(2^64)<j/\j<2^64)
def JQ.ok{i:Int}(h:JQ i j):IntMulOk i j:=by
 rcases h with⟨c,d⟩|⟨c,d⟩
 .exact .of_left (intBits_le_64 c d)
 .exact .of_right (intBits_le_64 c d)
def Md:gM X (binaryOp .Add) (ML λi j=>.int (i+j)):=PC λZ Z Z Z Z Z Z q=>add_int q
def Mp:gM X (binaryOp .Sub) (ML λi j=>.int (i-j)):=PC λZ Z Z Z Z Z Z q=>sub_int q
def Mn:gM X (binaryOp .Mult) (rI JQ λi j=>.int (i*j)):=Ua λZ Z Z Z Z Z Z c q=>mul_int q c.ok
theorem HW:gM X (binaryOp .FloorDiv) (rI RG λi j=>.int (i/j)):=Ua λi j Z Z Z Z Z c q=>by have d:(0:Int)<j:=c.1;have e:j<1073741824:=c.2;exact floordiv_int (by omega) (by rw [Int.fdiv_eq_ediv_of_nonneg i (by omega)];exact q) (.inl (PyProof.noPylong_small (by omega)))
theorem Mm:gM X (binaryOp .Mod) (rI (λZ j=>0<j) λi j=>.int (i%j)):=Ua λi j Z Z Z Z Z c q=>by have d:(0:Int)<j:=c;exact mod_int' (by omega) (by rw [Int.fmod_eq_emod_of_nonneg i (by omega)];exact q)
def YF{f:i1->Sem i1}{g:Int->Int}
 (rule:∀(i:Int) (t:Tok) (s:i2) (Q:ml) (E:ml),Q (.int (g i) s.toks) {s with toks:=s.toks+1}->zx7 X (f (.int i t)) Q E s):
 QO X f (rU λi=>.int (g i)):=by
 intro d s e H x v Q I c h;let(i,rfl,q):=h;let(t,rfl):=c;exact rule i t s _ _ {.int (g i),H,I.tok _,{_,rfl},q}
def Np:QO X (unaryOp .USub) (rU λi=>.int (-i)):=YF λZ Z Z Z Z q=>neg_int q
variable{c:jj}{tc:TE}
def qS{d:mn}{f:St}{s:i2}{k g:Bool}(I:Inv X d f H s)(q:Q (.bl k) H)(e:k=g):EP X d f Q (.bool g) s:=by subst e;exact{.bl k,H,I,rfl,q}
def PH:gM X (compareOp .Lt) (ML λi j=>.bl (decide (i<j))):=Mc λZ Z Z Z Z Z Z q=>lt_int q
def PF:gM X (compareOp .LtE) (ML λi j=>.bl (decide (i<=j))):=Mc λZ Z Z Z Z Z Z q=>le_int q
def PD:gM X (compareOp .Gt) (ML λi j=>.bl (decide (j<i))):=Mc λZ Z Z Z Z Z Z q=>gt_int q
def AO:gM X (compareOp .In) (λx y H Q=>∃i j,x=.str i/\y=.str j/\Q (.bl (!(la.Str.occurrences j i 0 j.length 1).isEmpty)) H):=by intro f s g H x y v u Q I d e h;let(i,j,rfl,rfl,q):=h;let(t,rfl):=d;let(k,rfl):=e;exact in_str (qS I q rfl)
def Mi:gM X (compareOp .Is) (λx y H Q=>y=.aG/\Q (.bl (decide (x=.aG))) H):=by
 intro f s g H x y v u Q I d e h;let(rfl,q):=h
 cases e;refine is_none_gen (qS I q ?_);cases x<;>first
  |(cases d;rfl)
  |(let(t,rfl):=d;rfl)
def H8:gM X (compareOp .IsNot) (λx y H Q=>y=.aG/\Q (.bl (!decide (x=.aG))) H):=by
 intro f s g H x y v u Q I d e h;let(rfl,q):=h
 cases e;refine isnot_none_gen (qS I q ?_);cases x<;>first
  |(cases d;rfl)
  |(let(t,rfl):=d;rfl)
def TU(b:jj){op:CmpOp}(h:op≠.In:=by decide)(d:op≠.NotIn:=by decide):behindInMarks op b=iv:=by
 have e:(op==CmpOp.In)=iv:=by cases op<;>first|rfl|exact absurd rfl h
 have f:(op==CmpOp.NotIn)=iv:=by cases op<;>first|rfl|exact absurd rfl d
 cases b<;>simp [behindInMarks,e,f]
def Ie{op:CmpOp}{r:R2}(d:gM X (compareOp op) r)(e:PE X a ta)(f:PE X b tb)(hm:behindInMarks op b=iv):PE X (.Compare a [op] [b] pos) (Na r ta tb):=by intro g s i H Q I h;exact wpAny_Compare1 (J9 e f I h λv u j x y k m o p q=>d g j i k x y v u Q m o p q) hm
abbrev EA(t:TE):TT:=λd H Q=>t d H λx e=>∃k,x=.bl k/\Q k e
def Iw{op:CmpOp}{r:R2}(g:gM X (compareOp op) r)(i:PE X a ta)(j:PE X b tb)(hm:behindInMarks op b=iv):PT X (.Compare a [op] [b] pos) (EA (Na r ta tb)):=by intro d s f H Q I h;refine wpAny_isTrue_Compare1 (bL (i d s f H _ I h) λv m ⟨x,H1,o,p,q⟩=>bL (j d m f H1 _ o q) λu t ⟨y,w,A,B,C⟩=>bL (g d t f w x y v u _ A p B C) λc K ⟨z,D,E,F,k,e,G⟩=>?_) hm;subst e;cases F;exact wpAny_truthy_bool ⟨D,E,G⟩
abbrev w5(r f:R2)(ta tb tc:TE):TE:=λd H Q=>ta d H λx g=>tb d g λy h=>r x y h λz e=>∃k,z=.bl k/\
 (if k=ig then tc d e λi j=>f y i j Q else Q (.bl iv) e)
def DL{op i:CmpOp}{r j:R2}(t:gM X (compareOp op) r)(w:gM X (compareOp i) j)(A:PE X a ta)(B:PE X b tb)(C:PE X c tc)
 (hm:lastMarks [op,i] [b,c]=iv:=by with_unfolding_all rfl):PE X (.Compare a [op,i] [b,c] pos) (w5 r j ta tb tc):=by
 intro f s g H Q I h;refine Compare_chain (bL (A f s g H _ I h) λv D ⟨x,H1,E,F,G⟩=>chain_link (bL (B f D g H1 _ E G) λu K ⟨y,L,M,m,N⟩=>bL (t f K g L x y v u _ M F m N) λd O ⟨z,o,p,P,k,e,q⟩=>?_)) hm
 subst e;cases P;refine wpAny_truthy_bool ?_;cases k with
 |false=>exact ite_ff {.bl iv,o,p,rfl,q}|true=>exact ite_tt (chain_last (bL (C f O g o _ p q) λR S ⟨T,U,V,W,Y⟩=>w f S g U y T u R Q V m W Y))
def D8{op i:CmpOp}{r m:R2}(w:gM X (compareOp op) r)(A:gM X (compareOp i) m)(B:PE X a ta)(C:PE X b tb)(D:PE X c tc)
 (hm:lastMarks [op,i] [b,c]=iv:=by with_unfolding_all rfl):PT X (.Compare a [op,i] [b,c] pos) (EA (w5 r m ta tb tc)):=by
 intro f s g H Q I h;refine isTrue_chain (bL (B f s g H _ I h) λv E ⟨x,H1,F,G,K⟩=>test_link (bL (C f E g H1 _ F K) λu L ⟨y,M,N,o,O⟩=>bL (w f L g M x y v u _ N G o O) λd P ⟨z,p,q,R,k,e,t⟩=>?_)) hm
 subst e;cases R;refine wpAny_truthy_bool ?_;cases k with
 |false=>let(k',S,T):=t;cases S;exact ite_ff ⟨p,q,T⟩
 |true=>refine ite_tt (test_last (bL (D f P g p _ q t) λU V ⟨W,Y,Z,r4,q4⟩=>bL (A f V g Y y W u U _ Z o r4 q4) λd' s5 j=>?_));let(z2,H5,I5,r5,k2,e2,q5):=j;subst e2;cases r5;exact wpAny_truthy_bool ⟨H5,I5,q5⟩
def kL:(k6:Nat)<2^63:=by rw [sizeLine_eq];decide
def wJ:gM X (binaryOp .Add) (λx y H Q=>∃i j,x=.str i/\y=.str j/\i.length+j.length<=k6/\Q (.str (i++j)) H):=by intro k s m H x y v u Q I d e h;let(i,j,rfl,rfl,f,q):=h;let(t,rfl):=d;let(g,rfl):=e;exact add_str (λg o=>{.str (i++j),H,I.tok _,{_,rfl},q}) f
def vals1{x:V}(r:Vals [x] us):∃u,us=[u]/\RelV x u:=by
 cases r with
 |cons d e=>cases e;exact{_,rfl,d}
def vals2{x y:V}(r:Vals [x,y] us):∃u d,us=[u,d]/\RelV x u/\RelV y d:=by
 cases r with
 |cons e f=>
  cases f with
  |cons g h=>cases h;exact{_,_,rfl,e,g}
def BX:da X (.builtin "abs") (λxs H Q=>∃i,xs=[.int i]/\Q (.int (if i<0 then -i else i)) H):=by intro d s e H xs f Q I r h;let(i,rfl,q):=h;let(u,rfl,t,rfl):=vals1 r;exact call_abs_int λu g=>{.int (if i<0 then -i else i),H,I.tok _,{_,rfl},q}
def zE(e:X.calm=ig):da X (.builtin "max") (λxs H Q=>∃i j,xs=[.int i,.int j]/\Q (.int (if j>i then j else i)) H):=by
 intro f s g H xs m Q I r h;let(i,j,rfl,q):=h;let(u,o,rfl,(t,rfl),(p,rfl)):=vals2 r;refine max_two_ints (I.ok.hd e) λw y k=>{_,H,I.kept k,?_,q};by_cases d:j>i
 .rw [if_pos d,if_pos d];exact{_,rfl}
 .rw [if_neg d,if_neg d];exact{_,rfl}
def qJ:da X (.type "str") (λxs H Q=>∃i,xs=[.int i]/\i.natAbs.log2<1920/\Q (.str (toString i)) H):=by intro e s f H xs g Q I r h;let(i,rfl,d,q):=h;let(u,rfl,t,rfl):=vals1 r;exact PySem.P.str_of_int d {.str _,H,I.tok _,{_,rfl},q}
end
def lB.some_of{o:Option i1}(r:lB (ia v) o):∃u,o=ia u/\RelV v u:=by
 cases o with
 |none=>exact(show False from r).elim|some u=>exact⟨u,rfl,r⟩
structure dq(k:Nat)(A:ku):Prop where
 hd:3<=k->A.handled=ie
 dp:A.depth+3*k+5<recursionLimit
 un:A.units+16*k+200<cLine
theorem dq.mono{j k:Nat}(r:dq k A)(h:j<=k):dq j A:={λz=>r.hd (by omega),by have:=r.dp;omega,by have:=r.un;omega}
theorem dq.deeper{k:Nat}(r:dq (k+1) A)(env:Env):dq k (A.deeper env):=
 {λz=>r.hd (by omega),by have:=r.dp;show A.depth+1+3*k+5<_;omega,by have:=r.un;show A.units+3+16*k+200<_;omega}
theorem dq.in1{k:Nat}(r:dq (k+1) A):dq k A.in1:=
 {λz=>r.hd (by omega),by have:=r.dp;show A.depth+3*k+5<_;omega,by have:=r.un;show A.units+1+16*k+200<_;omega}
def dq.depth{k:Nat}(r:dq k A):A.depth<recursionLimit:=by have:=r.dp;omega
def dq.units{k:Nat}(r:dq k A):A.units+64<cLine:=by have:=r.un;omega
abbrev UD:TA:=λZ H Q=>Q [] H
abbrev Qg(b:TE)(c:TA):TA:=λa H Q=>b a H λx d=>c a d λxs e=>Q (x::xs) e
section
variable{es:List jj}{t:TA}
def gu:PA X [] UD:=λZ Z Z Z H Q I h=>Calls.spliced_nil {[],H,I,.nil,h}
theorem cZ(d:PE X e te)(f:PA X es t)(hs:starEach (e::es) X.env=(iv,eval e X.env)::starEach es X.env:=by rfl):PA X (e::es) (Qg te t):=by intro pos b s c H Q I h;rw [hs];show jk _ _ (spliced ((iv,eval e X.env)::backTo pos (starEach es X.env))) _ _ s;refine Calls.spliced_cons (bL (d b s c H _ I h) λu g a=>?_);let(x,i,j,k,m):=a;exact bL (f pos b g c i _ j m) λw y ⟨xs,o,p,q,r⟩=>{x::xs,o,p,.cons k q,r}
abbrev UK(t:TA):TE:=λb H Q=>t b H λxs a=>xs.length<=k6/\∀p,a p=ie->Q (.ref p) (upd a p (.tup xs))
abbrev UC(t:TA):TE:=λb H Q=>t b H λxs a=>xs.length<=k6/\∀p,a p=ie->Q (.ref p) (upd a p (.lst xs))
def My{x1}(h:PA X es t):PE X (.Tuple es x1 pos) (UK t):=by intro d s f H Q I g;refine wpAny_Tuple_spliced (bL (h pos d s f H _ I g) λi a ⟨xs,H1,c,r,z,q⟩=>{by rw [<-r.length];exact z,?_});have j:H1 (zz9 a)=ie:=c.aM.fresh (bc _);refine{.ref (zz9 a),upd H1 (zz9 a) (.tup xs),c.laid (t':=a.toks) (λb u e=>a5 _ e) (bc _) ?_,rfl,q _ j};exact{z,i,r,{_,et _ rfl,rfl,_,rfl}}
def Mv(h:PA X es t):PE X (.List es pos) (UC t):=by intro d s f H Q I g;refine wpAny_List_spliced (bL (h pos d s f H _ I g) λi a ⟨xs,H1,c,r,z,q⟩=>{by rw [<-r.length];exact z,?_});have j:H1 (zz9 a)=ie:=c.aM.fresh (bc _);refine{.ref (zz9 a),upd H1 (zz9 a) (.lst xs),c.laid (t':=a.toks) (λb u e=>a5 _ e) (bc _) ?_,rfl,q _ j};exact{z,i,0,r,et _ rfl}
end
noncomputable abbrev Sp:=List V->Hp->VK->XK->Prop
noncomputable abbrev Bi:=List Env->Hp->i2->XK->i1->i2->Prop
structure iV(P:jm)(w:kd)(K:zz8)(mg:Str->Option i1)(base:kB)(A:ku)(outer:List Env)(s:i2)(H:Hp):Prop where
 frames:A.frames=ia outer
 mod:Mod K mg base
 bs:∀b o,base.get? b=ia o->s.heap.get? b=ia o/\H b=ie
 zv:base.objs.size<=(zz9 s)
 gE:s.heap.FunFrames base outer
 zX:∀b∈ft outer,H b=ie
 aM:eL P w H s.heap
 bare:AllBare s.gens
def CE(outer:List Env)(P:jm)(w:kd)(H:Hp)(s:i2)(Q:VK)(u:i1)(s':i2):Prop:=
 ∃v a,s'.os=s.os/\AllBare s'.gens/\Un (ft outer) [] H a s.heap s'.heap/\eL P w a s'.heap/\RelV v u/\Q v a
def CR(CX:Bi)(outer:List Env)(P:jm)(w:kd)(H:Hp)(s:i2)(Q:VK)(E:XK)(r:Result)(s':i2):Prop:=
 match r with
 |.ok (.ret u)=>CE outer P w H s Q u s'|.ok _=>False|.error e=>CX outer H s E e s'
structure gO(P:jm)(w:kd)(K:zz8)(mg:Str->Option i1)(base:kB)(CX:Bi)(k:Nat)(f:i6)(fd:FuncData)(ps:List Str)(sp:Sp):Prop where
 len:∀vs H Q E,sp vs H Q E->vs.length=ps.length
 run:∀(A:ku) (outer:List Env) (s:i2) (H:Hp) (args:Args) (us:List i1) (vs:List V) (Q:VK) (E:XK),dq k A->iV P w K mg base A outer s H->BindsTo s fd args (ps.zip us)->Vals vs us->sp vs H Q E->
  codeAny (kn P w) A (.call (.ref f) args) (CR CX outer P w H s Q E) s
def gO.mono{K:zz8}{CX:Bi}{j k:Nat}{f:i6}{fd:FuncData}{ps:List Str}{sp:Sp}(F:gO P w K mg base CX j f fd ps sp)(h:j<=k):
 gO P w K mg base CX k f fd ps sp:={F.len,λA outer s H args a b Q E c=>F.run A outer s H args a b Q E (c.mono h)}
def gO.imp{K:zz8}{CX:Bi}{k:Nat}{f:i6}{fd:FuncData}{ps:List Str}{sp a:Sp}(F:gO P w K mg base CX k f fd ps sp)
 (h:∀vs H Q E,a vs H Q E->sp vs H Q E):gO P w K mg base CX k f fd ps a:=
 {λvs H Q E q=>F.len vs H Q E (h _ _ _ _ q),λA outer s H args b vs Q E c d e g hs=>F.run A outer s H args b vs Q E c d e g (h _ _ _ _ hs)}
def iV.in1{K:zz8}{s:i2}(e:iV P w K mg base A outer s H):
 iV P w K mg base A.in1 outer s H:=⟨e.frames,e.mod,e.bs,e.zv,e.gE,e.zX,e.aM,e.bare⟩
section
variable{aa:mn}{s s':i2}
def Inv.tM(I:zv2 s):iV X.prog X.w X.K X.mg X.base X.A X.stack s H:=
 {I.ok.frames,I.ok.mod,I.bs,eg I.ok.zv I.sz,I.stack,I.me,I.aM,I.bare}
def Inv.after{u:i1}(I:zv2 s)(h:CE X.stack X.prog X.w H s Q u s'):EP X aa σ Q u s':=by let(v,c,os,bare,un,aM,r,q):=h;let(e,g,d,t,a):=s';obtain rfl:a=s.os:=os;exact{v,c,I.call (h':=e) (g':=g) (d':=d) (t':=t) (ch:=[]) un aM bare (λb z=>absurd z (by simp)),r,q}
end
def Binds(K:zz8)(fd:FuncData)(ps:List Str)(ds:List i1):Prop:=
 ∀(s:i2) (a:List i1),K.In s.heap->(a++ds).length=ps.length->BindsTo s fd {a,[]} (ps.zip (a++ds))
def Binds.all{K:zz8}{fd:FuncData}{ps:List Str}(h:∀us:List i1,us.length=ps.length->bindArgs fd {us,[]}=pure (ps.zip us)):Binds K fd ps []:=λs us Z hl=>by rw [hW] at hl⊢;exact .of_eq (h us hl)
def Passes(CX:Bi)(X:Cx)(E:XK):Prop:=∀(b:mn) (c:St) (H:Hp) (s:i2) (e:i1) (a:i2),Inv X b c H s->CX X.stack H s E e a->X.xe e a
structure lP(N P:List Str)(sc:kv):Prop where
 kind:sc.kind=.function
 co:sc.isCoroutine=iv
 gen:sc.isGenerator=iv
 nd:N.Nodup
 pre:N.take P.length=P
 par:∀x∈P,sc.names.lookup x=ia .local\/sc.names.lookup x=ia .cell
 L9:∀y∈sc.names,y.2≠.free
theorem pB{a:Str->Option NameKind}:∀{binds:List (Str×i1)} {m:Str->Option i1},(∀v,(x,v)∉binds)->bindL a binds m x=m x
 |[],_,_=>rfl|(n,v)::r,m,h=>by
  unfold bindL;rw [pB λw b=>h w (c3 _ b)];split
  .have:x≠n:=by rintro rfl;exact h v dV
   simp [this]
  .rfl
theorem pz{a:Str->Option NameKind}:∀{binds:List (Str×i1)} {m:Str->Option i1},(∀v,(x,v)∉binds)->bindC a binds m x=m x
 |[],_,_=>rfl|(n,v)::r,m,h=>by
  unfold bindC;rw [pz λw b=>h w (c3 _ b)];split
  .rfl
  .have:x≠n:=by rintro rfl;exact h v dV
   simp [this]
theorem pA{a:Str->Option NameKind}{v:i1}:∀{P:List Str} {vs:List i1} {i:Nat} {m:Str->Option i1},P.Nodup->P[i]?=ia x->vs[i]?=ia v->a x=ia .local->
 bindL a (P.zip vs) m x=ia v
 |[],_,_,_,_,h,_,_=>by simp at h|_::_,[],_,_,_,_,h,_=>by simp at h|p::P,w::vs,0,m,nd,b,c,hk=>by simp at b c;subst b;subst c;show bindL a ((p,w)::P.zip vs) m p=_;unfold bindL;rw [pB λv d=>(List.nodup_cons.mp nd).1 (List.of_mem_zip d).1,if_pos hk];simp|p::P,w::vs,i+1,m,nd,b,c,hk=>by show bindL a ((p,w)::P.zip vs) m x=_;unfold bindL;exact pA (i:=i) (List.nodup_cons.mp nd).2 (zx6 b) (zx6 c) hk
theorem pq{a:Str->Option NameKind}{v:i1}:∀{P:List Str} {vs:List i1} {i:Nat} {m:Str->Option i1},P.Nodup->P[i]?=ia x->vs[i]?=ia v->a x≠ia .local->
 bindC a (P.zip vs) m x=ia v
 |[],_,_,_,_,h,_,_=>by simp at h|_::_,[],_,_,_,_,h,_=>by simp at h|p::P,w::vs,0,m,nd,b,c,hk=>by simp at b c;subst b;subst c;show bindC a ((p,w)::P.zip vs) m p=_;unfold bindC;rw [pz λv d=>(List.nodup_cons.mp nd).1 (List.of_mem_zip d).1,if_neg hk];simp|p::P,w::vs,i+1,m,nd,b,c,hk=>by show bindC a ((p,w)::P.zip vs) m x=_;unfold bindC;exact pq (i:=i) (List.nodup_cons.mp nd).2 (zx6 b) (zx6 c) hk
abbrev start(N:List Str)(vs:List V):St:=vs.map ia++l0 (N.length-vs.length) ie
noncomputable def ez(CX:Bi)(P:jm)(w:kd)(K:zz8)(mg:Str->Option i1)(base:kB)(N:List Str)(qual:Str)(a:kv)(f:i6)(cd:i1)(A:ku)(outer:List Env)(s:i2)(H:Hp)(E:XK):Cx where
 prog:=P
 w:=w
 K:=K
 mg:=mg
 base:=base
 A:=A.deeper (envOfC qual a (zz9 s) f cd)
 N:=N
 s₀:=s
 H₀:=H
 env:=envOfC qual a (zz9 s) f cd
 outer:=outer
 stack:=envOfC qual a (zz9 s) f cd::outer
 ex:=[]
 calm:=A.handled.isNone
 fn:=λZ=>ig
 pn:=[]
 xe:=λe c=>jk (kn P w) (A.deeper (envOfC qual a (zz9 s) f cd)) (leaving (envOfC qual a (zz9 s) f cd) e) (λZ b=>CX outer H s E e b) (λd b=>CX outer H s E d b) c
def sV{sc:kv}{n:Nat}(h:sc.names.lookup x=ia .cell):∃c,(lE n sc.names []).lookup x=ia c:=by have q:=PySem.W.cellsFrom_some sc.names n [] (.inl h);exact gG.mp q
def Al{CX:Bi}{K:zz8}{ps:List Str}{d:kv}{f:i6}{cd:i1}{s D:i2}{E:XK}
 (S:lP N ps d) (j:iV P w K mg base A outer s H) (hl:vs.length=ps.length) (r:Vals vs us)
 (x:InCallC s (zz9 s) (bindL (envOfC qual d (zz9 s) f cd).kindOf (ps.zip us) λZ=>ie) (lE ((zz9 s)+1) d.names []) (bindC (envOfC qual d (zz9 s) f cd).kindOf (ps.zip us) λZ=>ie) D):
 Inv (ez CX P w K mg base N qual d f cd A outer s H E) [] (start N vs) H D:=by
 have I:ps.length<=N.length:=by have:=congrArg List.length S.pre;rw [List.length_take] at this;omega
 let(t,O,rfl,hk):=x.done;have C:∀b:i6,b∉(ez CX P w K mg base N qual d f cd A outer s H E).ex:=λb z=>absurd (show b∈([]:List i6) from z) (by simp)
 refine{{j.mod,S.kind,rfl,rfl,bc _,λy z c t g=>?_,λy m=>?_,λy c Z h=>?_,λz=>Option.isNone_iff_eq_none.mp z,ku.frames_deeper j.frames,.inr ⟨rfl,rfl⟩,λb z=>absurd z (C b),j.bs,j.zv,λb Z Z=>C b,λb z=>absurd z (C b),j.gE,j.zX},
  rfl,j.bare,Un.kept hk,{_,x.toInCall.ns,λi y v t g Q=>?_},λy c h=>{_,x.cell y c h},j.aM.fresh (bc _),λy c h=>?_,λp o=>absurd (show p∈([]:mn) from o) (by simp),j.aM.kept hk,?_}
 .exact name_of_addr x.apart (PySem.mem_of_lookup t) (PySem.mem_of_lookup g)
 .have m:d.names.lookup y=ia .cell\/d.names.lookup y=ia .free:=m
  rcases m with m|m
  .exact sV m
  .exact absurd rfl (S.L9 _ (PySem.mem_of_lookup m))
 .exact Nat.le_of_lt (x.above y c (PySem.mem_of_lookup h))
 .have B:i<vs.length:=by
   unfold start at g;by_cases B:i<vs.length
   .exact B
   .rw [gS (zx6 B)] at g;rw [List.getElem?_replicate] at g;split at g<;>cases g
  have L:vs[i]?=ia v:=by
   unfold start at g;rw [gR (zx6 B),d0] at g;cases e:vs[i]? with
   |none=>rw [e] at g;cases g
   |some a=>rw [e] at g;cases g;rfl
  let(u,F,M):=r.get L;have o:ps[i]?=ia y:=by rw [<-S.pre,List.getElem?_take_of_lt (by omega)];exact t
  have G:ps.Nodup:=by rw [<-S.pre];exact S.nd.sublist (List.take_sublist _ _)
  refine{u,M,?_};rcases S.par y (a9 o) with k|k
  .exact .inl {k,pA G o F k}
  .let(c,e):=sV (n:=(zz9 s)+1) k;refine .inr {.inl k,c,e,?_};have q:=x.cell y c e;rw [pq G o F (by show d.names.lookup y≠_;rw [k];decide)] at q;exact q
 .exact j.aM.fresh (Nat.le_of_lt (x.above y c (PySem.mem_of_lookup h)))
 .unfold start;show _=N.length;rw [dj,zzl,List.length_replicate];omega
def OI{CX:Bi}{K:zz8}{k:Nat}{f:i6}{name:Str}{c:lq}{body:List k7}{a:kv}{D kV i F h ct oc:i1}{G T:Option i6}
 {U:Array (Option i1)} {ps:List Str} {sp:Sp} (X:K.lookup f=ia {oc,T,.func (PySem.W.fnOf name qual c body a D kV i F G h ct),U}) (Y:PySem.W.codeIn K h qual=ig) (S:lP N ps a)
 (len:∀vs H Q E,sp vs H Q E->vs.length=ps.length)
 (Z:∀(A:ku) (outer:List Env) (s:i2) (H:Hp) (vs:List V) (Q:VK) (E:XK),dq k (A.deeper (envOfC qual a (zz9 s) f h))->sp vs H Q E->
  ∃t,xn (ez CX P w K mg base N qual a f h A outer s H E) body t/\t {nx:=λ_ g=>Q .aG g,rt:=Q} (start N vs) H):
 gO P w K mg base CX (k+1) f (PySem.W.fnOf name qual c body a D kV i F G h ct) ps sp:=by
 refine{len,λA outer s H args us vs Q E L j hb r M=>?_};have hl:=len _ _ _ _ M;have O:K.In s.heap:=j.mod.Pl.keeps λb o e=>(j.bs b o e).1;have p:s.heap.NoLimit:=j.mod.nolimit.keeps λb o e=>(j.bs b o e).1
 have O4:∀y∈ps.zip us,a.names.lookup y.1=ia .local\/(a.names.lookup y.1=ia .cell/\((lE ((zz9 s)+1) a.names []).lookup y.1).isSome=ig):=λz hy=>by
  let(n,v):=z
  rcases S.par n (List.of_mem_zip hy).1 with q|q
  .exact .inl q
  .exact .inr {q,PySem.W.cellsFrom_some _ _ _ (.inl q)}
 refine codeAny_call_function L.depth (O _ _ X) rfl S.co S.gen rfl (PySem.W.codeRec_of O Y) (hb _ _ _ _ ?_);refine wpAny_newFunctionEnv_cells S.kind O4 λenv he R x=>?_;subst he;refine{p.keeps x.toInCall.keep,codeAny_func ?_};let(t,ht,hq):=Z A outer s H vs Q E (L.deeper _) M;have I:Inv (ez CX P w K mg base N qual a f h A outer s H E) [] (start N vs) H R:=Al S j hl r x;refine wpAny_mono (ht [] R (start N vs) H _ I hq) (λfl B hs=>?_) λe B hs=>hs
 have m:∀{d:St} {g:Hp} {v:V} {u:i1},Inv (ez CX P w K mg base N qual a f h A outer s H E) [] d g B->RelV v u->Q v g->CE outer P w H s Q u B:=
  λ{d g v u} J C q=>⟨v,g,J.os,J.bare,J.base,J.aM,C,q⟩
 cases fl with
 |ret u=>let(v,d,g,J,C,q):=hs;exact m J C q|next=>let(d,g,J,q):=hs;exact m (v:=V.aG) (u:=i1.none) J rfl q|brk=>let(_,_,_,q):=hs;exact fA q|cont=>let(_,_,_,q):=hs;exact fA q
section
variable{p:Pos}{es:List jj}{t:TA}{id T:String}{r:List V->Hp->VK->Prop}
abbrev Rx(r:List V->Hp->VK->Prop)(t:TA):TE:=λa H Q=>t a H λb c=>r b c Q
def fZ(c:da X (.builtin id) r)(d:Gl X x)(hm:X.mg x=ie)(f:bootBuiltins x=ia (.builtin id))(g:PA X (e::es) t)(i:x≠(zu 40):=by decide)(j:(x==(zu 16:Str))=iv:=by decide)
 (he:starEach (e::es) X.env=(iv,eval e X.env)::starEach es X.env:=by rfl) (hpl:(backTo pos (starEach es X.env)).any (·.1)=iv:=by rfl):PE X (.Call (.Name x p) (e::es) [] pos) (Rx r t):=by
 intro a s b H Q I h;refine wpAny_Call_Name_kw (eY I d hm f ?_ i j);exact PyProof.Rows.callWith_builtin1 (bL (g pos a s b H _ I h) λk m ⟨o,H1,q,u,w⟩=>c a m b H1 o k Q q u w) he hpl
def kR(c:da X (.type T) r)(d:Gl X x)(hm:X.mg x=ie)(f:bootBuiltins x=ia (.type T))(g:PA X (e::es) t)(i:x≠(zu 40):=by decide)(j:(x==(zu 16:Str))=iv:=by decide)
 (he:starEach (e::es) X.env=(iv,eval e X.env)::starEach es X.env:=by rfl) (hpl:(backTo pos (starEach es X.env)).any (·.1)=iv:=by rfl):PE X (.Call (.Name x p) (e::es) [] pos) (Rx r t):=by
 intro a s b H Q I h;refine wpAny_Call_Name_kw (eY I d hm f ?_ i j);exact PyProof.Rows.callWith_type1 (bL (g pos a s b H _ I h) λk m ⟨o,H1,q,u,w⟩=>c a m b H1 o k Q q u w) he hpl
end
end L2
variable{v:L2.V}{Q:L2.VK}{H G H0:L2.Hp}{X:L2.Cx}{σ:L2.St}{te:L2.TE}{vs:List L2.V}
namespace HT
open PyProof.Rows
abbrev lexLt:List Int->List Int->Bool
 |[],[]=>iv|[],_::_=>ig|_::_,[]=>iv|x::xs,y::ys=>if x=y then lexLt xs ys else decide (x<y)
abbrev rM(n d:Nat):Option Int->Nat
 |none=>d|some v=>if v<0 then(v+(n:Int)).toNat else min v.toNat n
end HT
namespace L2
open PySem.Spec PyProof.Rows
noncomputable abbrev TO:=St->Hp->(Option Int->Hp->Prop)->Prop
def PO(X:Cx)(e:Option jj)(t:TO):Prop:=
 ∀(b:mn) (s:i2) (a:St) (H:Hp) (Q:Option Int->Hp->Prop),Inv X b a H s->t a H Q->
  zx7 X (evalPart e X.env) (λu d=>∃o c,Inv X b a c d/\IsPart u o/\Q o c) X.xe s
abbrev IU:TO:=λZ H Q=>Q ie H
abbrev Ql(t:TE):TO:=λa H Q=>t a H λx b=>∃i,x=.int i/\Q (ia i) b
section
variable{lo hi:Option jj}{tl th:TO}{p2:Pos}
def Ir:PO X ie IU:=by intro a s b H Q I h;rw [evalPart_none];exact b4 {ie,H,I,.none,h}
def Iu(h:PE X e te):PO X (ia e) (Ql te):=by intro b s c H Q I d;rw [evalPart_some];refine bL (h b s c H _ I d) λu m a=>?_;let(x,f,g,j,k):=a;let(i,rfl,q):=k;let(t,rfl):=j;exact{ia i,f,g,.int i t,q}
def E9(X:Cx)(r:V->Option Int->Option Int->Hp->VK->Prop):Prop:=
 ∀(a:mn) (s:i2) (b:St) (H:Hp) (x:V) (v c d:i1) (lo hi:Option Int) (f:i6) (Q:VK),Inv X a b H s->RelV x v->s.heap.IsSliceOf f c d .none->IsPart c lo->IsPart d hi->r x lo hi H Q->
  ∃T g,typeLookup (.type T) "__getitem__"=pure (ia (.builtin g))/\s.TypeIs v T/\zx7 X (getItem v (.ref f)) (EP X a b Q) X.xe s
abbrev YB(r:V->Option Int->Option Int->Hp->VK->Prop)(te:TE)(tl th:TO):TE:=λa H Q=>te a H λx b=>tl a b λl c=>th a c λu d=>r x l u d Q
def DR{r:V->Option Int->Option Int->Hp->VK->Prop}(k:E9 X r)(he:PE X e te)(hl:PO X lo tl)(m:PO X hi th):PE X (.Subscript e (.Slice lo hi ie p2) pos) (YB r te tl th):=by
 intro d s f H Q I h;refine Subscript_ (bL (he d s f H _ I h) λv o c=>?_);let(x,p,t,y,z):=c;refine wpAny_Slice (bL (hl d o f p _ t z) λg B ⟨l,C,D,E,F⟩=>bL (m d B f C _ D F) λi a c=>?_);let(u,j,G,K,L):=c
 rw [evalPart_none];refine b4 ?_;have M:Inv X d f j {a with heap:=a.heap.push {cls:=.type "slice",data:=.fields #[g,i,.none]}}:=G.kept (t':=a.toks) λb R q=>a5 _ q
 let(T,S,N,O,P):=k d {a with heap:=a.heap.push {cls:=.type "slice",data:=.fields #[g,i,.none]}} f j x v g i l u (zz9 a) Q M y (kB.IsSliceOf.new ..) E K L
 show zx7 X (subscriptTail e (.Slice lo hi ie p2) v (.ref (zz9 a))) (EP X d f Q) X.xe {a with heap:=a.heap.push {cls:=.type "slice",data:=.fields #[g,i,.none]}};exact tail_any (ops:=[.ref (zz9 a),v]) O N P (by with_unfolding_all rfl)
abbrev zO(xs:List V)(lo hi:Option Int):List V:=(xs.drop (HT.rM xs.length 0 lo)).take (HT.rM xs.length xs.length hi-HT.rM xs.length 0 lo)
def tm(xs:List V)(lo hi:Option Int):(zO xs lo hi).length<=xs.length:=by unfold zO;rw [List.length_take,List.length_drop];omega
end
abbrev ye(n:Nat)(i:Int):Option Nat:=if 0<=i then(if i<n then ia i.toNat else ie) else if -(n:Int)<=i then ia (i+n).toNat else ie
abbrev oF{a:Type}(xs:List a)(i:Int):Option a:=(ye xs.length i).bind λj=>xs[j]?
def yf{n:Nat}{i:Int}{j:Nat}(h:ye n i=ia j):seqIndex? i n=ia j/\j<n/\ -(n:Int)<=i/\i<n:=by
 unfold ye at h;by_cases h0:0<=i
 .rw [if_pos h0] at h;by_cases a:i<n
  .rw [if_pos a] at h;have e:i.toNat=j:=zzq h;exact{by rw [seqIndex_of h0 a,e],by omega,by omega,a}
  .rw [if_neg a] at h;cases h
 .rw [if_neg h0] at h;by_cases a: -(n:Int)<=i
  .rw [if_pos a] at h;have e:(i+n).toNat=j:=zzq h;exact{by rw [seqIndex_neg (by omega) a,e],by omega,a,by omega}
  .rw [if_neg a] at h;cases h
def qE{a:Type}{xs:List a}{i:Int}{v:a}(h:oF xs i=ia v):∃j,seqIndex? i xs.length=ia j/\xs[j]?=ia v/\j<xs.length/\ -(xs.length:Int)<=i/\i<xs.length:=by
 unfold oF at h;cases e:ye xs.length i with
 |none=>rw [e] at h;cases h
 |some j=>rw [e] at h;let(b,c,d,f):=yf e;exact⟨j,b,h,c,d,f⟩
def qz(b:jj):Prop:=∀o i,subscripted b iv o i=operate [o,i] (getItem o i)
def Nx(X:Cx)(r:R2):Prop:=
 ∀(a slice:jj) (b:mn) (s:i2) (c:St) (H:Hp) (x y:V) (v u:i1) (Q:VK),Inv X b c H s->RelV x v->RelV y u->r x y H Q->
  subscripted slice iv v u=operate [v,u] (getItem v u)->zx7 X (subscriptTail a slice v u) (EP X b c Q) X.xe s
def Bz(X:Cx)(id:String)(r:V->List V->Hp->VK->Prop):Prop:=
 ∀(a:mn) (s:i2) (b:St) (H:Hp) (x:V) (xs:List V) (v:i1) (c:List i1) (Q:VK),Inv X a b H s->RelV x v->Vals xs c->r x xs H Q->
  zx7 X (call (.builtin id) (v::c)) (EP X a b Q) X.xe s
section
variable{a b:jj}{ta tb:TE}
def DO{r:R2}(c:Nx X r)(d:PE X a ta)(e:PE X b tb)(hs:qz b):PE X (.Subscript a b pos) (Na r ta tb):=by intro f s g H Q I h;exact Subscript_ (J9 d e I h λv u i x y j k m o q=>c a b f i g j x y v u Q k m o q (hs _ _))
abbrev Ue(K:zz8):R2:=λx y H Q=>∃p xs i v,x=.ref p/\y=.int i/\iX K H p xs/\oF xs i=ia v/\Q v H
abbrev MM(K:zz8):R2:=λx y H Q=>∃p xs i v,x=.ref p/\y=.int i/\fK K H p xs/\oF xs i=ia v/\Q v H
abbrev Ug:R2:=λx y H Q=>∃z i c,x=.str z/\y=.int i/\z.length<=k6/\oF z.cps.toList i=ia c/\Q (.str {#[c]}) H
def Hk:Nx X (Ue X.K):=by
 intro e slice k s m H x y v u Q I A B h hs;let(p,xs,i,z,rfl,rfl,C,D,q):=h;cases A;let(t,rfl):=B;let(E,r,f,O):=I.list C;let(j,d,F,P,G,L):=qE D;let(w,o,M):=r.get F;have hl:=r.length;have R:=kL;have c:EP X k m Q w s:=⟨z,H,I,M,q⟩;by_cases h0:0<=i
 .have g:i.toNat=j:=by
   rw [seqIndex_of h0 L] at d;exact zzq d
  exact item_listR f.isList h0 (by omega) (by rw [g];simpa using o) c hs
 .have g:(i+(E.toArray.size:Int)).toNat=j:=by
   rw [seqIndex_neg (by omega) G] at d;rw [a7,<-hl];exact zzq d
  exact subscriptTail_builtinR (x:=w) f.isList.typeIs slot_list_getitem.lookup
   (wpAny_getItem_list_neg (Q:=λr N=>r=w/\EP X k m Q r N) f.isList (by omega) (by rw [a7]<;>omega) (by omega) (by rw [g];simpa using o) ⟨rfl,c⟩) hs
def v9:Nx X (MM X.K):=by
 intro c slice e s f H x y v u Q I k m h hs;let(p,xs,i,z,rfl,rfl,o,A,q):=h;cases k;let(t,rfl):=m;let(G,r,g,L):=I.tuple o;let(j,B,C,M,N,O):=qE A;let(w,D,E):=r.get C;have hl:=r.length;have P:=kL;have d:EP X e f Q w s:=⟨z,H,I,E,q⟩
 exact subscriptTail_builtinR (x:=w) g.typeIs slot_tuple_getitem.lookup
  (getItem_tuple (j:=j) (Q:=λr F=>r=w/\EP X e f Q r F) g (by omega) (by omega) (by rw [a7,<-hl];exact B) (zx6 D) ⟨rfl,d⟩) hs
def LL:Nx X Ug:=by
 intro d slice A s B H x y v u Q I f g h hs;let(z,i,c,rfl,rfl,C,k,q):=h;let(t,rfl):=f;let(D,rfl):=g;let(j,e,m,E,o,p):=qE k;have hl:z.cps.toList.length=z.length:=by simp [Str.length]
 rw [hl] at e o p;have F:=kL;exact tail_any (typeIs_str s z t) slot_str_getitem.lookup (getItem_str (c:=c) (by have r:decide (i< -(2^63:Int))=iv:=zz0 (by omega);have w:decide (i>=2^63)=iv:=zz0 (by omega);rw [r,w,Bool.or_false]) (by rw [e];simpa using m) {.str {#[c]},H,I.tok _,{_,rfl},q}) hs
def wg(c:List i1)(n j:Nat)(u:i1):Obj.mapSeq (·.setIfInBounds j u) {cls:=.type "list",data:=.seq c.toArray n}={cls:=.type "list",data:=.seq (c.set j u).toArray n}:=by simp [Obj.mapSeq]
def Inv.lst{d:mn}{f:St}{s:i2}{p:i6}{xs:List V}(I:Inv X d f H s)(h:H p=ia (.lst xs)):
 ∃(c:List i1) (n:Nat),Vals xs c/\s.heap.get? p=ia {cls:=.type "list",data:=.seq c.toArray n}/\xs.length<=sizeLine:=by
 let(z,c,n,r,e):=I.aM p _ h;exact⟨c,n,r,e,z⟩
def Inv.LX{d:mn}{g:St}{s:i2}{p:i6}{xs ys:List V}{i its':List i1}{n c:Nat}{f:Obj->Obj}(I:Inv X d g H s)(h:H p=ia (.lst xs))
 (k:s.heap.get? p=ia {cls:=.type "list",data:=.seq i.toArray n}) (j:f {cls:=.type "list",data:=.seq i.toArray n}={cls:=.type "list",data:=.seq its'.toArray c}) (r:Vals ys its') (hz:ys.length<=k6) (t:Nat):
 Inv X d g (upd H p (.lst ys)) {s with heap:=s.heap.update p f,toks:=t}:=by
 have e:(s.heap.update p f).get? p=ia {cls:=.type "list",data:=.seq its'.toArray c}:=by rw [kB.get?_update_self f k (by rw [j]<;>rfl),j]
 refine I.write (x:=p) (e:=p) (by rw [h];trivial) (.inl rfl) (λb u m q=>(kB.get?_update_other _ _ (Ne.symm m)).trans q) {_,e} ?_;exact⟨hz,its',c,r,e⟩
def PZ:V->V->V->Hp->(Hp->Prop)->Prop:=λo i v H Q=>∃p xs k j,o=.ref p/\i=.int k/\H p=ia (.lst xs)/\ye xs.length k=ia j/\Q (upd H p (.lst (xs.set j v)))
def set_list:sF X PZ:=by
 intro y s z H o i v F G u Q I A B C h;let(p,xs,k,j,rfl,rfl,e,D,q):=h;cases A;let(t,rfl):=B;let(f,n,r,d,E):=I.lst e;let(c,K,g,m):=yf D;have hl:=r.length;have L:=kL
 have w:Inv X y z (upd H p (.lst (xs.set j v))) {s with heap:=s.heap.update p (Obj.mapSeq (·.setIfInBounds j u))}:=
  I.LX e d (wg f n j u) (r.set C j) (by rw [List.length_set];exact E) s.toks
 by_cases h0:0<=k
 .have hk:k.toNat=j:=by
   rw [seqIndex_of h0 m] at c;exact zzq c
  exact PySem.W.ki_setAt d h0 (by omega) (by rw [a7,<-hl];exact m) (by rw [hk];exact{_,w,q})
 .have hk:(k+(f.toArray.size:Int)).toNat=j:=by
   rw [seqIndex_neg (by omega) g] at c;rw [a7,<-hl];exact zzq c
  exact PySem.W.ki_setBack d (by omega) (by rw [a7,<-hl];exact g) (by omega) (by rw [hk];exact{_,w,q})
def rN(c d:Option Int)(n:Nat):(sliceBounds c d ie n).1=((HT.rM n 0 c:Nat):Int)/\(sliceBounds c d ie n).2.1=((HT.rM n n d:Nat):Int)/\(sliceBounds c d ie n).2.2=1:=by
 refine{?_,?_,rfl}
 .cases c with
  |none=>simp [sliceBounds,HT.rM]|some i=>
   simp! [sliceBounds,HT.rM,Option.getD_none,show(1:Int)>0 by decide,if_true];by_cases h:i<0
   .simp! [h,if_true]<;>omega
   .simp! [h,if_false]<;>omega
 .cases d with
  |none=>simp [sliceBounds,HT.rM]|some i=>
   simp! [sliceBounds,HT.rM,Option.getD_none,show(1:Int)>0 by decide,if_true];by_cases h:i<0
   .simp! [h,if_true]<;>omega
   .simp! [h,if_false]<;>omega
def oY(c:List i1)(d e:Option Int):slicePick c.toArray d e ie=((c.drop (HT.rM c.length 0 d)).take (HT.rM c.length c.length e-HT.rM c.length 0 d)).toArray:=by let(f,g,h):=rN d e c.toArray.size;unfold slicePick;rw [f,g,h];simp! [sliceRange_one,pick_run,a7]<;>rfl
def Ui(K:zz8):V->Option Int->Option Int->Hp->VK->Prop:=λx c d H Q=>∃a xs,x=.ref a/\iX K H a xs/\∀p,H p=ie->Q (.ref p) (upd H p (.lst (zO xs c d)))
def ID:E9 X (Ui X.K):=by intro p s t H x v u w d e y Q I g hs i j h;let(a,xs,rfl,k,q):=h;cases g;let(z,r,f,m):=I.list k;have c:=r.length;refine{"list",_,slot_list_getitem.lookup,f.isList.typeIs,?_};refine wpAny_getItem_list_slice f.isList hs i j .none (by simp) ?_ (by rw [a7]<;>omega);rw [oY,<-c];refine{.ref (zz9 s),_,I.laid (t':=s.toks) (o:=.lst (zO xs d e)) (λb A q=>a5 _ q) (bc _) ?_,rfl,q _ (I.aM.fresh (bc _))};exact{eg (tm xs d e) m,_,0,(r.drop (HT.rM xs.length 0 d)).take (HT.rM xs.length xs.length e-HT.rM xs.length 0 d),et _ rfl}
def jn:da X (.builtin "len") (λxs H Q=>∃p ys,xs=[.ref p]/\(iX X.K H p ys\/fK X.K H p ys)/\Q (.int ys.length) H):=by
 intro k s m H xs o Q I r h;let(p,ys,rfl,d,q):=h;let(u,rfl,g):=vals1 r;cases g;have t:=kL
 rcases d with d|d
 .let(i,e,f,j):=I.list d;have c:=e.length;exact Calls.call_len_list f.isList (by simp! [a7]<;>omega) {.int ys.length,H,I.tok _,{s.toks+1,by rw [a7,c]},q}
 .let(i,e,f,j):=I.tuple d;have c:=e.length;exact len_tuple f (by simp! [a7]<;>omega) {.int ys.length,H,I.tok _,{s.toks+1,by rw [a7,c]},q}
def qI:da X (.builtin "len") (λxs H Q=>∃z,xs=[.str z]/\z.length<=k6/\Q (.int z.length) H):=by intro c s d H xs e Q I r h;let(z,rfl,f,q):=h;let(u,rfl,t,rfl):=vals1 r;have g:=kL;exact len_str (by omega) {.int z.length,H,I.tok _,{_,rfl},q}
def oM:da X (.type "tuple") (λxs H Q=>∃p ys,xs=[.ref p]/\((iX X.K H p ys/\∀l,H l=ie->Q (.ref l) (upd H l (.tup ys)))\/(fK X.K H p ys/\Q (.ref p) H))):=by
 intro j s k H xs B Q I r h;let(p,ys,rfl,h):=h;let(u,rfl,z):=vals1 r
 cases z;rcases h with⟨d,q⟩|⟨d,q⟩
 .let(f,g,i,m):=I.list d;have t:=g.length;refine call_tuple_list i.isList (λc kp=>?_) (by simp! [a7]<;>omega);have y:Inv X j k H {s with heap:=c}:=I.kept (t':=s.toks) kp
  have A:Inv X j k (upd H c.objs.size (.tup ys)) {s with heap:=c.push {cls:=.type "tuple",data:=.seq f.toArray}}:=
   y.laid (t':=s.toks) (λb o e=>a5 _ e) (bc _) (show bO X.prog X.w _ _ _ (.tup ys) from{m,f,g,IsTup.new _ _})
  exact{.ref c.objs.size,_,A,rfl,q _ (y.aM.fresh (bc _))}
 .let(f,g,i,m):=I.tuple d;exact call_tuple_same i {.ref p,H,I,rfl,q}
def UL(K:zz8)(T:String)(x:V)(H:Hp):Prop:=match x with
 |.str _=>T="str"|.int _=>T="int"|.ref p=>(T="list"/\∃xs,iX K H p xs)\/(T="tuple"/\∃o,K.lookup p=ia o/\o.cls=.type "tuple"/\o.dict=ie)\/
  (T="dict"/\((∃c,H p=ia (.dK c))\/∃c,H p=ia (.dT c)))\/(T="set"/\∃S n,H p=ia (.set S n))
 |_=>False
def Nl{g:mn}{h:St}{s:i2}{T:String}{x:V}{v:i1}(I:Inv X g h H s)(r:RelV x v)(ty:UL X.K T x H):
 s.TypeIs v T/\∀a,v=.ref a->∃ob,s.heap.get? a=ia ob/\ob.dict=ie:=by
 cases x with
 |str z=>let(t,rfl):=r;cases(show T="str" from ty);exact{typeIs_str s z t,λZ e=>nomatch e}
 |int i=>let(t,rfl):=r;cases(show T="int" from ty);exact{typeIs_int s i t,λZ e=>nomatch e}
 |ref p=>
  cases r;rcases ty with⟨rfl,xs,j⟩|⟨rfl,o,hk,k,hd⟩|⟨rfl,hk⟩|⟨rfl,S,n,hk⟩
  .let(q,_,f,_):=I.list j;refine{f.isList.typeIs,λa e=>?_};cases e;let(o,n,e,c,hd,_):=f;exact⟨o,e,hd⟩
  .refine{{o,I.uA p o hk,k},λa e=>?_};cases e;exact{o,I.uA _ o hk,hd}
  .have z:∃o,s.heap.get? p=ia o/\o.ExactDict:=by
    rcases hk with⟨m,hk⟩|⟨m,hk⟩
    .let(_,_,_,_,o,_,_,e,ex,_):=I.aM p _ hk;exact⟨o,e,ex⟩
    .let(_,_,_,_,o,_,_,e,ex,_):=I.aM p _ hk;exact⟨o,e,ex⟩
   let(o,e,ex):=z;refine{⟨o,e,ex.1⟩,λa d=>?_};cases d;exact⟨o,e,ex.2.1⟩
  .let(o,_,_,_,e,ex,_):=I.aM p _ hk;refine{⟨o,e,ex.1⟩,λa d=>?_};cases d;exact⟨o,e,ex.2.1⟩
 |_=>exact fA ty
abbrev WL(K:zz8)(T:String)(r:V->List V->Hp->VK->Prop)(e:TE)(t:TA):TE:=λc H Q=>e c H λx d=>UL K T x d/\t c d λxs f=>r x xs f Q
variable{o:jj}{es:List jj}{to:TE}{t:TA}{name:Str}{apos bJ:Pos}{T id:String}{r:V->List V->Hp->VK->Prop}
theorem nJ(k:PlainAttrs T)(slot:Slot T name id)(m:typeOf (.builtin id)=pure (.type "method_descriptor"))(hm:Bz X id r)(p:PE X o to)(q:PA X (e::es) t)
 (u:attributeBase o name X.env (eval o X.env)=eval o X.env:=by rfl)
 (w:((backTo bJ (starEach (e::es) X.env)).all (λx=>!x.1)&&(backToKw bJ (keywordEach [] X.env)).all (λx=>x.1.isSome)
  &&decide ((e::es).length+([]:List Keyword).length+(if([]:List Keyword).isEmpty then 0 else 1)<30))=ig:=by rfl)
 (y:(apos.endLine==bJ.line)=ig:=by rfl) (hs:starEach (e::es) X.env=(iv,eval e X.env)::starEach es X.env:=by rfl) (hplain:(backTo bJ (starEach es X.env)).any (·.1)=iv:=by rfl):
 PE X (.Call (.Attribute o name apos) (e::es) [] bJ) (WL X.K T r to t):=by
 intro c s d H Q I h;refine wpAny_Call_method_late u w y rfl (bL (p c s d H _ I h) λv z f=>?_);let(x,A,g,i,ty,B):=f;let(C,D):=Nl g i ty;refine{T,id,k,slot,m,C,D,?_};have j:=q bJ c z d A _ g B;rw [hs] at j⊢;refine Calls.callWith_builtin (by show(iv||(backTo bJ (starEach es X.env)).any (·.1))=iv;rw [hplain]<;>rfl) (Calls.evalArgs_plain ?_);exact bL j λE F ⟨G,L,M,N,O⟩=>hm c F d L x G v E Q M i N O
end
def W3(X:Cx)(id:String)(r:V->List V->Hp->VK->Prop):Prop:=
 ∀(a:mn) (s:i2) (b:St) (H:Hp) (x:V) (xs:List V) (v:i1) (c:List i1) (Q:VK),Inv X a b H s->RelV x v->Vals xs c->r x xs H Q->
  zx7 X (call (.builtin id) (v::c)) (EP X a b Q) X.xe s
theorem Vals.one:∀{x:V} {us:List i1},Vals [x] us->∃u,us=[u]/\RelV x u
 |_,_,.cons r .nil=>{_,rfl,r}
def Vals.two{x y:V}(h:Vals [x,y] us):∃u v,us=[u,v]/\RelV x u/\RelV y v:=by
 cases h with
 |cons r q=>
  cases q with
  |cons q n=>cases n;exact{_,_,rfl,r,q}
theorem Vals.rep{xs:List V}(h:Vals xs us):∀k:Nat,Vals (l0 k xs).flatten (l0 k us).flatten
 |0=>.nil|k+1=>by rw [List.replicate_succ,List.replicate_succ,List.flatten_cons,List.flatten_cons];exact Vals.append h (Vals.rep h k)
theorem foldl_rep(b:List i1):∀(k:Nat) (a:List i1),
 List.foldl (λx1 c=>x1++c) a.toArray (l0 k b.toArray)=(a++(l0 k b).flatten).toArray
 |0,a=>by simp|k+1,a=>by
  have e:a.toArray++b.toArray=(a++b).toArray:=by simp
  have d:(a++b)++(l0 k b).flatten=a++(l0 (k+1) b).flatten:=by rw [List.replicate_succ,List.flatten_cons,List.append_assoc]
  rw [<-d,<-foldl_rep b k (a++b),<-e,List.replicate_succ,List.foldl_cons]
section
variable{aa:mn}{s:i2}{l:i6}{xs ys:List V}
def Inv.Pr{a its':List i1}{n:Nat}{f:Array i1->Array i1}{t':Nat}(I:zv2 s)(b:H l=ia (.lst xs))
 (e:s.heap.get? l=ia {cls:=.type "list",data:=.seq a.toArray n}) (c:f a.toArray=its'.toArray) (d:Vals ys its') (hz:ys.length<=k6):
 Inv X aa σ (upd H l (.lst ys)) {s with heap:=s.heap.update l (Obj.mapSeq f),toks:=t'}:=by
 have q:=PySem.IsL.update e f;rw [c] at q;refine I.write (x:=l) (e:=l) (by rw [b];exact trivial) (.inl rfl) (λi u g h=>(kB.get?_update_other s.heap (Obj.mapSeq f) (Ne.symm g)).trans h) {_,q} ?_;exact{hz,its',_,d,q}
theorem Inv.TB{a:List i1}{t':Nat}(I:zv2 s)(b:Vals ys a)(hz:ys.length<=k6):
 Inv X aa σ (upd H (zz9 s) (.lst ys)) {s with heap:=s.heap.push {cls:=.type "list",data:=.seq a.toArray},toks:=t'}:=
 I.laid (λZ Z q=>a5 _ q) (bc _) {hz,a,0,b,et _ rfl}
def Inv.fresh(I:zv2 s):H (zz9 s)=ie:=I.aM.fresh (bc _)
def Inv.Pt(I:zv2 s)(b:H l=ia (.lst xs)):xs.length<=k6/\∃(a:List i1) (n:Nat),Vals xs a/\xs.length=a.length/\s.heap.get? l=ia {cls:=.type "list",data:=.seq a.toArray n}:=by let(z,a,n,r,e):=I.aM l _ b;exact⟨z,a,n,r,r.length,e⟩
def uN{n:Nat}(h:n<=k6):la.List.listTooLong n=iv:=by unfold la.List.listTooLong;exact zz0 (by omega)
def Iy:V->List V->Hp->VK->Prop:=λx a H Q=>∃l xs y,x=.ref l/\a=[y]/\H l=ia (.lst xs)/\xs.length<k6/\Q .aG (upd H l (.lst (xs++[y])))
def Av:W3 X "list.append" Iy:=by intro aa s σ H x g v i Q I c d h;let(l,xs,y,rfl,rfl,a,j,q):=h;cases c;let(u,rfl,f):=d.one;let(z,b,n,r,hl,e):=I.Pt a;refine call_meets F.slot_list_append {_,e,rfl} F.entry_list_append (F.args_list_append_2 _ _) (PySem.list_append l b.toArray n u (by rw [a7];omega)) {e,?_};refine{.aG,_,I.Pr (its':=b++[u]) a e (by simp) (r.append (.cons f .nil)) ?_,rfl,q};rw [dj,List.length_singleton];omega
def len_rep{a:Type}(xs:List a)(k:Nat):(l0 k xs).flatten.length=k*xs.length:=by
 induction k with
 |zero=>simp|succ k b=>rw [List.replicate_succ,List.flatten_cons,dj,b,Nat.succ_mul,Nat.add_comm]
end
end L2
namespace Att
open PySem.W PySem.Calls PyProof.Rows
def lG{P:Params}:∀(ns:List Int) (vs:List i1),WellAll P h vs (ns.map WData.int)->IntsAre vs ns:=by
 intro ns
 induction ns with
 |nil=>intro vs w;rw [List.map_nil] at w;cases w;exact .nil
 |cons n ns c=>
  intro vs w;rw [bf] at w;cases w with
  |cons a b=>cases a;exact .cons _ _ (c _ b)
def A0{l:OpenLaw}{n:Nat}(j:l.most=ia n){P:Params}{args:List WData}{vals:List i1}
 (g:l.row.toRowW.claim.pre args=ig) (k:WellAll P h vals args):
 ∃a vs ns,vals=[i1.ref a]/\args=[WData.list (ns.map WData.int)]/\h.get? a=ia {cls:=.type "list",data:=.seq vs.toArray}/\IntsAre vs ns/\ns.length<=n:=by
 have m:WShape.hasAll [] args [.list .int]=ig:=(pre_splitW g).1;have i:l.pre.holds [] {args:=args}=ig:=(pre_splitW g).2;let(d,r,rfl,o,p):=hasAllW_cons m;obtain rfl:=hasAllW_nil p;let(xs,rfl,s):=hasW_list o;let(ns,rfl):=items_int s
 have b:ns.length<=n:=by
  unfold OpenLaw.pre at i;have e:(WTm.not (.lt (.lit (.int (n:Int))) (.len (.arg 0)))).holds [] {args:=[.list (ns.map .int)]}=ig:=by have e:=(holds_andW i).1;rw [j] at e;exact e
  have f:=condW_of e (w_not (w_lt w_lit (w_len_list (w_arg rfl))));rw [zzl] at f;refine Nat.le_of_not_lt λq=>?_;have t:(n:Int)<((ns.length:Nat):Int):=by omega
  first
   |(rw [zzh t] at f;exact absurd f (by decide))
   |(simp at f;omega)
 cases k with
 |cons w1 u=>
  cases u;cases w1 with
  |list w c=>exact{_,_,ns,rfl,rfl,w,lG ns _ c,b}
theorem AU(l:OpenLaw)(args:List WData):l.row.toRowW.claim.post args (.bool ig) args=ig:=
 postW_of (r:=l.row.toRowW) (X:=(ig==ig))
  (show WShape.has [] (.bool ig) .bool=ig by first|rfl|decide|simp [WShape.has,WShape.arms,WShape.armsAll])
  (show(WTm.eq .res (.lit (.bool ig))).value [] {args:=args,res:=ia (.bool ig),after:=args}=ia (.bool (ig==ig)) from w_eq_bool (w_res rfl) w_lit) rfl
def sP{l:OpenLaw}{n:Nat}{q:jm}{c:List Str}{p:(Str->Option i1)->kB->Prop}{s:kd->kB->Prop}{d:DefRec}
 (y:l.most=ia n) (z:d.params.defaults=[])
 (call:∀(w:kd) (s₀ b:i2) (mg mb:Str->Option i1) (h:i6) (o:Obj) (k cd e:i1) (a:i6) (vs:List i1) (ns:List Int),
  Ground q c [] p w s₀ mg mb b.heap->s w b.heap->
  b.heap.get? h=ia o->o.data=.func (docDef d.name d.params d.body d.scope k cd e)->b.heap.CodeRec cd d.name->mg d.name=ia (.ref h)->
  b.heap.get? a=ia {cls:=.type "list",data:=.seq vs.toArray}->IntsAre vs ns->ns.length<=n->b.gens=#[]->
  codeAny (kn l.prog w) callerA (.call (.ref h) {[.ref a],[]}) (λr s'=>r=.ok (.ret (.bool ig))/\OldK b.heap s'.heap/\s'.os=b.os/\AllBare s'.gens) b):
 WalkO q c p s l.row.toRowW d [] (λf vs=>PySem.call f vs):=by
 intro w s₀ b mg mb G Y h o k cd e A kV B hd C t m D args vals as E u N F H;obtain rfl:A=.none:=Dflts.none t z;obtain rfl:kV=.none:=Dflts.noKw t;let(a,vs,ns,rfl,rfl,i,g,j):=A0 y E F;refine enter_call (codeAny_mono (call w s₀ b mg mb h o k cd e a vs ns G Y B (fd_plain hd) C m i g j D) λr s' I=>?_);let(rfl,K,L,M):=I;exact{.inl {.bool ig,.bool ig,[],rfl,λZ=>rfl,.bool ig,AU l _,λZ=>{List.Pairwise.nil,λZ hm=>(nomatch hm)}},K,L,M}
abbrev ledger(h:kB)(L d:i6):mn:=(List.range h.objs.size).filterMap λa=>if a=L\/a=d then ie else(h.get? a).map λo=>(a,o)
end Att
namespace L2
open PySem.Spec PyProof.Rows
theorem qv:∀{vs:List i1} {ns:List Int},IntsAre vs ns->Vals (ns.map V.int) vs
 |_,_,.nil=>.nil|_,_,.cons n t h=>.cons ⟨t,rfl⟩ (qv h)
abbrev dy(s:k7):Arguments:=match s with
 |.FunctionDef _ a _ _ _ _ _ _ _ _=>a|_=>{posonlyargs:=[],args:=[],vararg:=ie,kwonlyargs:=[],kw_defaults:=[],kwarg:=ie,defaults:=[]}
abbrev cT(s:k7):List Stmt:=match s with
 |.FunctionDef _ _ b _ _ _ _ _ _ _=>b|_=>[]
abbrev aU(s:k7):Scope:=match s with
 |.FunctionDef _ _ _ _ _ _ sc _ _ _=>sc|_=>{kind:=.function,names:=[],isGenerator:=iv,isCoroutine:=iv}
structure QC(K:zz8)(x qual:Str)(st:k7)(f:i6)(fd:FuncData):Prop where
 ex:∃(oc:i1) (od:Option i6) (kV doc pm:i1) (an:Option i6) (gz ct:i1) (wK:Array (Option i1)),
  fd=PySem.W.fnOf x qual (dy st) (cT st) (aU st) .none kV doc pm an gz ct/\K.lookup f=ia {oc,od,.func fd,wK}/\PySem.W.codeIn K gz qual=ig
 kp:PySem.W.keepIn K (.ref f)=ig
section
variable{K:zz8}
def QC.binds{f:i6}{fd:FuncData}{ps:List Str}(F:QC K x qual st f fd)
 (h:∀(kV a b:i1) (c:Option i6) (d ct:i1) (us:List i1),us.length=ps.length->bindArgs (PySem.W.fnOf x qual (dy st) (cT st) (aU st) .none kV a b c d ct) {us,[]}=pure (ps.zip us)):Binds K fd ps []:=by
 let(oc,e,kV,a,b,c,d,ct,g,rfl,i,j):=F.ex;exact .all (h kV a b c d ct)
def Cj{f:i6}{oc:i1}{g d:Option i6}{h:Array (Option i1)}{kV a e b ct:i1}(l:K.lookup f=ia {oc,g,.func (PySem.W.fnOf x qual (dy st) (cT st) (aU st) .none kV a e d b ct),h})
 (c:PySem.W.codeIn K b qual=ig) (k:PySem.W.keepIn K (.ref f)=ig):QC K x qual st f (PySem.W.fnOf x qual (dy st) (cT st) (aU st) .none kV a e d b ct):={⟨oc,g,kV,a,e,d,b,ct,h,rfl,l,c⟩,k}
theorem pv(i:Nat)(hN:X.N[i]?=ia x:=by rfl)(a:NA X.env.scope x:=by first|exact Or.inl rfl|exact Or.inr (Or.inl rfl)|exact Or.inr (Or.inr rfl))(hd:(x==(zu 16:Str))=iv:=by decide)
 (b:(x==(zu 24:Str))=iv:=by decide):PE X (.Name x pos) (se i):=dR hN a hd b
end
def Tr{A B:Prop}(h:B):if iv=ig then A else B:=by rw [if_neg zzf];exact h
def Ts{A B:Prop}(h:A):if ig=ig then A else B:=by rw [if_pos rfl];exact h
def az(H a:Hp):Prop:=∀b o,H b=ia o->a b=ia o
def az.refl(H:Hp):az H H:=λZ Z h=>h
def az.trans{d e:Hp}(a:az H d)(b:az d e):az H e:=λc o h=>b c o (a c o h)
def az.free{a:Hp}(e:az H a){l:i6}(h:a l=Option.none):H l=Option.none:=by
 cases q:H l with
 |none=>rfl|some o=>rw [e l o q] at h;cases h
end L2
set_option maxHeartbeats 8000000
namespace L2
open PySem.Spec PyProof.Rows
abbrev bG(env:Env)(ys:List Str):List (Str×i6):=ys.map λy=>(y,(env.cells.lookup y).getD 0)
abbrev CL(a:St)(is:List Nat):St:=is.map λi=>(a[i]?).join
abbrev nE(a:kv)(x:Str):Bool:=a.names.lookup x==ia .cell
theorem vP{c:i6}:∀(names:List (Str×NameKind)) (n:Nat) (a:List (Str×i6)),(x,c)∈lE n names a->(x,c)∈a\/(x,NameKind.cell)∈names/\n<=c
 |[],n,a,h=>by rw [lE.eq_def] at h;exact .inl h
 | (y,k)::r,n,a,h=>by
  rw [lE.eq_def] at h;dsimp only at h;split at h
  .rename_i hk;cases eq_of_beq hk;rcases vP r (n+1) _ h with z|⟨b,d⟩
   .rcases fP.mp z with z|z
    .cases z;exact .inr {dV ..,bc _}
    .exact .inl z
   .exact .inr {c3 _ b,Nat.le_of_succ_le d}
  .rcases vP r n _ h with z|⟨b,d⟩
   .exact .inl z
   .exact .inr {c3 _ b,d}
theorem qL{c:i6}:∀(names:List (Str×NameKind)) (n:Nat) (a:List (Str×i6)),(lE n names a).lookup x=ia c->a.lookup x=ia c\/(x,NameKind.cell)∈names/\n<=c
 |[],n,a,h=>by rw [lE.eq_def] at h;exact .inl h
 | (y,k)::r,n,a,h=>by
  rw [lE.eq_def] at h;dsimp only at h;split at h
  .rename_i hk;cases eq_of_beq hk;rcases qL r (n+1) _ h with z|⟨b,d⟩
   .rw [hV] at z;cases e:x==y with
    |true=>rw [e] at z;cases z;cases eq_of_beq e;exact .inr {dV ..,bc _}
    |false=>rw [e] at z;exact .inl z
   .exact .inr {c3 _ b,Nat.le_of_succ_le d}
  .rcases qL r n _ h with z|⟨b,d⟩
   .exact .inl z
   .exact .inr {c3 _ b,d}
theorem qK:∀(names:List (Str×NameKind)) (n:Nat) (a:List (Str×i6)),(x,NameKind.cell)∉names->(lE n names a).lookup x=a.lookup x
 |[],n,a,_=>by rw [lE.eq_def]|(y,k)::r,n,a,h=>by
  rw [lE.eq_def];dsimp only;have b:(x,NameKind.cell)∉r:=λz=>h (c3 _ z);split
  .rename_i hk;cases eq_of_beq hk;rw [qK r (n+1) _ b,hV];cases e:x==y with
   |true=>cases eq_of_beq e;exact absurd (dV ..) h
   |false=>rfl
  .exact qK r n a b
theorem Kf{c:i6}:∀(names:List (Str×NameKind)) (n:Nat) (a:List (Str×i6)),(x,c)∈lE n names a->(∀p∈a,p.2≠c)->(x,c)∈lE n names []
 |names,n,a,h,d=>by
  have key:∀(names:List (Str×NameKind)) (n:Nat) (a b:List (Str×i6)),(x,c)∈lE n names (b++a)->(∀p∈a,p.2≠c)->(x,c)∈lE n names b:=by
   intro names
   induction names with
   |nil=>
    intro n a b h d;rw [lE.eq_def] at h⊢;rcases List.mem_append.mp h with z|z
    .exact z
    .exact absurd rfl (d _ z)
   |cons y r e=>
    intro n a b h d;let(y,k):=y;rw [lE.eq_def] at h⊢;dsimp only at h⊢;split at h
    .rename_i hk;rw [if_pos hk];exact e (n+1) a ((y,n)::b) h d
    .rename_i hk;rw [if_neg hk];exact e n a b h d
  exact key names n a [] h d
theorem qM{c:i6}:∀(names:List (Str×NameKind)) (n:Nat) (a:List (Str×i6)),(∀p∈a,p.2<n)->n<=c->(x,c)∈lE n names a->(y,c)∈lE n names a->x=y
 |[],n,a,e,f,b,d=>by rw [lE.eq_def] at b;exact absurd (e _ b) (Nat.not_lt.mpr f)
 | (z,k)::r,n,a,e,f,b,d=>by
  rw [lE.eq_def] at b d;dsimp only at b d;split at b
  .rename_i hk;rw [if_pos hk] at d;have i:∀p∈(z,n)::a,p.2<n+1:=λp j=>by
    rcases fP.mp j with q|q
    .rw [q];exact Nat.lt_succ_self _
    .exact Nat.lt_succ_of_lt (e p q)
   by_cases g:n+1<=c
   .exact qM r (n+1) _ i g b d
   .have one:∀{w:Str},(w,c)∈lE (n+1) r ((z,n)::a)->w=z:=λ{w} h=>by
     rcases vP r (n+1) _ h with q|q
     .rcases fP.mp q with q|q
      .cases q;rfl
      .exact absurd (e _ q) (Nat.not_lt.mpr f)
     .exact absurd q.2 g
    rw [one b,one d]
  .rename_i hk;rw [if_neg hk] at d;exact qM r n a e f b d
def xj{M:Model}{E:ml}{s:i2}{a:kv}{g:i6}{cl:List (Str×i6)}{c:Env}{Q:Env->i2->Prop}
 (h:Q (newEnv a (zz9 s) g (lE ((zz9 s)+1) a.names cl) qual ie .none (ia c) builtinsNs) {s with heap:=pushCells (s.heap.push {cls:=.type "dict",data:=.dict #[]}) a.names}):
 jk M A (newFunctionEnv a g cl [] qual ie .none (ia c)) Q E s:=by
 unfold newFunctionEnv;refine aT (wpAny_alloc ?_);refine aT (wpAny_forIn_list _ (λrest b f=>f={s with heap:=f.heap}/\pushCells f.heap rest=pushCells (s.heap.push {cls:=.type "dict",data:=.dict #[]}) a.names/\lE (zz9 f) rest b=lE ((zz9 s)+1) a.names cl) _ (λx rest b f j=>?_) (λb f j=>?_) a.names cl {rfl,rfl,by rw [kB.size_push]})
 .let(i,d,e):=j;let(nm,k):=x;rw [pushCells.eq_def] at d;rw [lE.eq_def] at e;dsimp only at d e⊢;split
  .rename_i hk;rw [if_pos hk] at d e;refine aT (wpAny_alloc (b4 {by rw [i],d,?_}));dsimp only;rw [kB.size_push];exact e
  .rename_i hk;rw [if_neg hk] at d e;exact b4 ⟨i,d,e⟩
 .let(i,d,e):=j;rw [pushCells.eq_def] at d;rw [lE.eq_def] at e;dsimp only at d e;subst e;rw [i,d];exact aT (b4 (b4 h))
noncomputable def bV(X:Cx)(d:List Str)(a:kv)(cl:List (Str×i6))(fp:List i6)(b:i2)(c:Hp)(C:i6):Cx where
 prog:=X.prog
 w:=X.w
 K:=X.K
 mg:=X.mg
 base:=X.base
 A:=X.A
 N:=d
 s₀:=b
 H₀:=c
 env:=compEnvC a (lE (C+1) a.names cl) C X.env
 outer:=X.stack
 stack:=X.stack
 ex:=fp
 fn:=nE a
 calm:=ig
 pn:=[]
 xe:=λZ Z=>False
theorem fq{env:Env}:∀{ys:List Str},(ys.all λy=>(env.cells.lookup y).isSome)=ig->∀(x:Str) (c:i6),(bG env ys).lookup x=ia c->env.cells.lookup x=ia c
 |[],_,_,_,h=>by simp [bG] at h|y::ys,a,x,c,h=>by
  rw [List.all_cons,zza] at a;have b:=fq (env:=env) a.2 x c
  unfold bG at h b;rw [bf,hV] at h;cases e:x==y with
  |true=>rw [e] at h;have d:x=y:=zzy.mp e;subst d;let(g,f):=gG.mp a.1;rw [f] at h⊢;exact h|false=>rw [e] at h;exact b h
theorem jr{env:Env}:∀{ys:List Str} {x:Str},x∈ys->∃c,(bG env ys).lookup x=ia c
 |[],_,h=>nomatch h|y::ys,x,h=>by
  unfold bG;rw [bf,hV];cases e:x==y with
  |true=>exact{_,rfl}|false=>
   have a:x∈ys:=by
    rcases fP.mp h with z|z
    .rw [z] at e;simp at e
    .exact z
   exact jr (env:=env) a
def lp{a:kv}{env:Env}{k:NameKind}(h:(relabel a env).names.lookup x=ia k)(hk:k=.cell\/k=.free):∃b,(x,b)∈a.names/\(b=.cell\/b=.free):=by
 have hm:=PySem.mem_of_lookup h;unfold relabel at hm;let((n,f),c,e):=hG.mp hm;dsimp only at e;split at e
 .rename_i d;cases e;refine{f,c,.inr ?_};rw [zza,zza] at d;exact zzy.mp d.1.1
 .cases e;exact⟨k,c,hk⟩
structure fx(X:Cx)(scope:kv)(xs ys:List Str)(is:List Nat):Prop where
 kind:scope.kind=.function
 Sr:closureFor scope X.env=pure (bG X.env ys)
 cells:(ys.all λy=>(X.env.cells.lookup y).isSome)=ig
 Ko:(scope.names.all λy=>(decide (y.2≠.cell)||!ys.contains y.1)&&(decide (y.2≠.free)||ys.contains y.1))=ig
 own:(scope.names.all λy=>decide (y.2≠.cell)||decide (scope.names.lookup y.1=ia .cell))=ig
 names:(scope.names.all λy=>decide (y.2≠.local)||decide (scope.names.lookup y.1=ia .local))=ig
 slots:is.map (λi=>X.N[i]?)=ys.map ia
 kX:(ys.all λy=>decide (X.env.kindOf y=ia .cell))=ig
 kY:(ys.all λy=>decide ((relabel scope X.env).names.lookup y=ia .cell))=ig
section
variable{aa:mn}{s:i2}{scope:kv}{xs ys:List Str}{is:List Nat}
def fx.Mr(S:fx X scope xs ys is)(h:(x,NameKind.cell)∈scope.names):scope.names.lookup x=ia .cell/\x∉ys:=by
 have q:=ef.mp S.own _ h;have c:=ef.mp S.Ko _ h;rw [zza,gU] at c;rw [gU] at q;refine{zzY (q.resolve_left λz=>zzY z rfl),λa=>?_}
 rcases c.1 with z|z
 .exact zzY z rfl
 .rw [fS.mpr a] at z;cases z
def gV(I:zv2 s)(S:fx X scope xs ys is){C:i6}(hC:(zz9 s)<=C){c:i6}(h:(lE (C+1) scope.names (bG X.env ys)).lookup x=ia c):
 (X.env.cells.lookup x=ia c/\c<(zz9 s)/\x∈ys)\/((x,NameKind.cell)∈scope.names/\C+1<=c):=by
 rcases qL _ _ _ h with z|z
 .have e:=fq S.cells x c z;let(v,q):=I.cell x c e;refine .inl {e,q.lt,?_};have hm:=PySem.mem_of_lookup z;unfold bG at hm;let(y,a,b):=hG.mp hm;cases b;exact a
 .exact .inr z
def zN(I:zv2 s)(w:X.calm=ig)(S:fx X scope xs ys is){A:List Str}{fp:List i6}{C:i6}(hC:(zz9 s)<=C)(d:∀b∈fp,dE X aa H b)(j:∀b∈fp,b<(zz9 s)):
 (bV X A scope (bG X.env ys) fp s H C).Ok where
 mod:=I.ok.mod
 kind:=S.kind
 glob:=I.ok.glob
 blt:=I.ok.blt
 above:=hC
 inj:=λx y c k m=>by
  rcases gV I S hC k with f|f
  .rcases gV I S hC m with i|i
   .exact I.ok.inj x y c f.1 i.1
   .exact absurd f.2.1 (Nat.not_lt.mpr (eg hC (Nat.le_of_succ_le i.2)))
  .refine qM scope.names (C+1) (bG X.env ys) (λp r=>?_) f.2 (PySem.mem_of_lookup k) (PySem.mem_of_lookup m);unfold bG at r;let(y,B,rfl):=hG.mp r;let(D,t):=gG.mp (ef.mp S.cells y B);let(v,q):=I.cell y D t;dsimp only;rw [t];exact Nat.lt_succ_of_le (eg (Nat.le_of_lt q.lt) hC)
 has:=λx E=>by
  have F:(relabel scope X.env).names.lookup x=ia .cell\/(relabel scope X.env).names.lookup x=ia .free:=E
  have:∃g,(x,g)∈scope.names/\(g=.cell\/g=.free):=by
   rcases F with z|z
   .exact lp z (.inl rfl)
   .exact lp z (.inr rfl)
  let(g,hm,hk):=this;have u:=ef.mp S.Ko _ hm
  rw [zza,gU,gU] at u;rcases hk with z|z
  .subst z;exact gG.mp (PySem.W.cellsFrom_some _ _ _ (.inl (S.Mr hm).1))
  .rcases u.2 with q|q
   .exact absurd z (zzY q)
   .refine gG.mp (PySem.W.cellsFrom_some _ _ _ (.inr ?_));let(c,e):=jr (env:=X.env) (fS.mp q);rw [e];rfl
 Kc:=λx c h e=>by
  have hm:(x,NameKind.cell)∈scope.names:=PySem.mem_of_lookup (eq_of_beq h)
  rcases gV I S hC e with z|z
  .exact absurd z.2.2 (S.Mr hm).2
  .exact eg hC (Nat.le_of_succ_le z.2)
 hd:=λZ=>I.ok.hd w
 frames:=I.ok.frames
 Qb:=.inl rfl
 exf:=λb a=>{ew (eo (j b a) hC),λx c h=>(gV I S hC h).elim (λz=>(d b a).2.2.2.2.1 x c z.1) λz q=>absurd (j b a) (Nat.not_lt.mpr (q▸eg hC (Nat.le_of_succ_le z.2)))}
 bs:=λb o e=>I.bs b o e
 zv:=eg I.ok.zv I.sz
 HC:=λb o e a=>by
  rcases(d b a).2.2.2.1 with z|z
  .exact I.ok.HC b o e z
  .exact absurd (eo (dn e) (eg I.ok.zv z)) (Nat.lt_irrefl _)
 KQ:=λb a hs=>(fP.mp (I.iq b hs)).elim (d b a).2.1 (d b a).2.2.1
 gE:=I.stack
 zX:=λb a=>I.me b a
theorem x5:∀{is:List Nat} {ys:List Str},is.map (λi=>N[i]?)=ys.map ia->∀(j:Nat) (y:Str) (v:V),ys[j]?=ia y->(CL σ is)[j]?=ia (ia v)->∃i:Nat,N[i]?=ia y/\σ[i]?=ia (ia v)
 |[],[],_,_,_,_,h,_=>by simp at h|[],_::_,h,_,_,_,_,_=>by simp at h|_::_,[],h,_,_,_,_,_=>by simp at h|i::is,c::ys,h,0,y,v,b,a=>by rw [bf,bf] at h;have d:=(List.cons.inj h).1;simp! [List.getElem?_cons_zero,Option.some.injEq] at b;subst b;refine{i,d,?_};unfold CL at a;simp! [bf,List.getElem?_cons_zero,Option.some.injEq] at a;exact Option.join_eq_some_iff.mp a|i::is,c::ys,h,j+1,y,v,b,a=>by rw [bf,bf] at h;refine x5 (is:=is) (ys:=ys) (List.cons.inj h).2 j y v (zx6 b) ?_;unfold CL at a⊢;simpa using a
noncomputable abbrev lobj(a:List i1)(n:Nat):Obj:={cls:=.type "list",data:=.seq a.toArray n}
def Ar(a:List i1)(n:Nat)(v:Option i1):(lobj a n).data≠.cell v:=λz=>by cases z
noncomputable abbrev tests(a:List jj)(env:Env):Sem Bool:=forIn a ig λc r=>if r=ig then do let ok<-isTrue c env (eval c env);pure (ForInStep.yield ok) else pure (ForInStep.yield r)
theorem qN{R:Result->i2->Prop}{s:i2}{p a iter:jj}{q:List jj}{scope:kv}{it t:i1}{env:Env}(I:Nat->i2->Prop)
 (turn:∀n s,I n s->jk (kn prog w) A (pyNext it) (λr b=>match r with
  |none=>R (.ok .next) b|some v=>jk (kn prog w) A (letOwnedTupleGo a it v) (λZ c=>jk (kn prog w) A (assign a env v) (λZ g=>
   jk (kn prog w) A (tests q env) (λok d=>if ok=ig then jk (kn prog w) A (eval p env) (λx i=>
    jk (kn prog w) A (call (.builtin "list.append") [t,x]) (λZ j=>∃m,m<n/\I m j) (notedBy (kn prog w) A env λe s'=>R (.error e) s') i) (notedBy (kn prog w) A env λe s'=>R (.error e) s') d
    else∃m,m<n/\I m d) (notedBy (kn prog w) A env λe s'=>R (.error e) s') g)
   (notedBy (kn prog w) A env λe s'=>R (.error e) s') c) (notedBy (kn prog w) A env λe s'=>R (.error e) s') b) (notedBy (kn prog w) A env λe s'=>R (.error e) s') s)
 (n:Nat) (h:I n s):
 codeAny (kn prog w) A (.compLoop (.ListComp p [{a,iter,q,0}] scope pos) 0 it t env) R s:=by
 refine codeAny_loop rfl I (λn s C=>?_) n h;show jk _ A ((compTurn (.ListComp p [{a,iter,q,0}] scope pos) 0 it t env).onRaise (λx=>do noteFrame x env;theTreesLotGoes x)) _ _ s;refine wpAny_noted ?_;rw [compTurn_list];refine aT (wpAny_standAt (aT (wpAny_mono (turn n s C) (λr b k=>?_) λZ Z f=>f)))
 cases r with
 |none=>exact b4 k|some v=>
  refine aT (wpAny_mono k (λZ c u=>?_) λZ Z f=>f);refine aT (wpAny_mono u (λZ g y=>aT (wpAny_mono y (λok d o=>?_) λZ Z f=>f)) λZ Z f=>f)
  cases ok with
  |false=>exact b4 ⟨rfl,o⟩|true=>exact aT (aT (wpAny_mono o (λx i z=>aT (wpAny_mono z (λZ j B=>b4 (b4 ⟨rfl,B⟩)) λZ Z f=>f)) λZ Z f=>f))
def RP(X:Cx)(a:List jj)(t:TT):Prop:=
 ∀(aa:mn) (s:i2) (σ:St) (H:Hp) (Q:Bool->Hp->Prop),Inv X aa σ H s->t σ H Q->zx7 X (tests a X.env) (TP X aa σ Q) X.xe s
def yC:RP X [] (λZ H q=>q ig H):=λZ Z Z H Z I h=>wpAny_tests_nil ⟨H,I,h⟩
def yD{t:TT}(h:PT X e t):RP X [e] t:=λaa s σ H Q I z=>wpAny_tests_one (h aa s σ H Q I z)
def NV(J:It)(k:Nat)(g:TG)(te:TE)(fs:St)(Q:VK)(e:Hp):Prop:=∃(n:Nat) (W:Nat->List V->St->Hp->Prop),W 0 [] (l0 k ie++fs) e/\
 ∀i ys b a,W i ys b a->ys.length<k6/\((J.stop i a/\∀p,a p=ie->Q (.ref p) (upd a p (.lst ys)))\/
  (J.go i a/\i<n/\∀x d,J.Nv i a x d->g x b d λc f=>te c f λy h=>W (i+1) (ys++[y]) c h))
abbrev Ew(a:TI)(k:Nat)(g:TG)(te:TE)(is:List Nat):TE:=λσ H Q=>a σ H λJ b=>NV J k g te (CL σ is) Q b
def E6(J:It)(k:Nat)(g:TG)(tt:TT)(te:TE)(fs:St)(Q:VK)(h:Hp):Prop:=∃(n:Nat) (W:Nat->List V->St->Hp->Prop),W 0 [] (l0 k ie++fs) h/\
 ∀i ys d c,W i ys d c->ys.length<k6/\((J.stop i c/\∀p,c p=ie->Q (.ref p) (upd c p (.lst ys)))\/
  (J.go i c/\i<n/\∀x e,J.Nv i c x e->g x d e λa j=>tt a j λb f=>if b=ig then te a f (λy m=>W (i+1) (ys++[y]) a m) else W (i+1) ys a f))
abbrev mh(a:TI)(k:Nat)(g:TG)(tt:TT)(te:TE)(is:List Nat):TE:=λσ H Q=>a σ H λJ b=>E6 J k g tt te (CL σ is) Q b
def iB{elt tg iter:jj}{ifs:List jj}{pp:Pos}{wi:TI}{g:TG}{tt:TT}{use:Option (i1->Sem Unit)}{QQ:ml}{Q:VK}(hc:X.calm=ig)(S:fx X scope xs ys is)(hi:PI X tg iter wi)
 (hg:∀fp a L C,PG (bV X (xs++ys) scope (bG X.env ys) fp a L C) tg g) (ht:∀fp a L C,RP (bV X (xs++ys) scope (bG X.env ys) fp a L C) ifs tt) (he:∀fp a L C,PE (bV X (xs++ys) scope (bG X.env ys) fp a L C) elt te)
 (hs:∀x,foldedSetIterable iter X.env x=pure x) (I:zv2 s) (h:mh wi xs.length g tt te is σ H Q)
 (fin:∀(D C:i6) (Z:i2) (H4:Hp) (m:Str->Option i1),Inv X aa σ H4 Z->Z.heap.Ns C m->dE X aa H4 C->Q (.ref D) H4->compPost (kn X.prog X.w) X.A X.xe use QQ (.ref D) C (.ok .next) Z):
 zx7 X (comprehension (.ListComp elt [{tg,iter,ifs,0}] scope pos) scope X.env pp (newList []) iv (eval iter X.env) use) QQ X.xe s:=by
 have Lw:∀x∈scope.names,x.2=.local->scope.names.lookup x.1=ia .local:=λx hx hl=>by
  have q:=ef.mp S.names x hx
  rw [gU] at q;rcases q with q|q
  .exact absurd hl (zzY q)
  .exact zzY q
 refine wpAny_comprehension_free (use:=use) (Q:=QQ) (g:={tg,iter,ifs,0}) (gs:=[]) rfl hs S.Sr S.kind Lw (bL (hi aa s σ H _ I h) λxv s0 h0=>bL h0 λRg a h1=>?_);let(it,fp,tn,J,L,rfl,M,T,MZ,f1,n,W,w0,turn):=h1;refine wpAny_newObj_type (xj ?_);dsimp only;generalize hH2:a.heap.push {cls:=.type "list",dict:=ie,data:=.seq ([]:List i1).toArray}=B;generalize hh₁:pushCells (B.push {cls:=.type "dict",data:=.dict #[]}) scope.names=E;have S4:∀b o,(B.push {cls:=.type "dict",data:=.dict #[]}).get? b=ia o->E.get? b=ia o:=λb o e=>by rw [<-hh₁];exact pushCells_keeps _ _ b o e
 have hns₁:E.Ns B.objs.size λ_=>ie:=(kB.Ns.new B (.type "dict")).keeps S4;have VS:B.objs.size=(zz9 a)+1:=by rw [<-hH2,kB.size_push]
 have oQ:(zz9 a)<=B.objs.size:=by rw [VS];exact Nat.le_succ _
 have QY:(zz9 a)≠B.objs.size:=by rw [VS];exact ew (Nat.lt_succ_self _)
 have R:∀b o,a.heap.get? b=ia o->E.get? b=ia o:=λb o e=>S4 b o (a5 _ (hH2▸a5 _ e));have SM:E.get? (zz9 a)=ia (lobj [] 0):=S4 _ _ (a5 _ (hH2▸et _ rfl));have G6:∀b∈fp,b<(zz9 a):=λb j=>by let(o,e,_):=T.obj _ _ MZ b j;exact dn e
 generalize hY:bV X (xs++ys) scope (bG X.env ys) fp a L B.objs.size=Y;have Yn:Y.Ok:=by rw [<-hY];exact zN M hc S oQ f1 G6
 have VT:∀b∈fp,(zz9 a)≠b:=λb j=>Ne.symm (ew (G6 b j));have SE:∀b,b∈Y.fs->b=X.env.locals\/b∈X.fs:=λb j=>by rw [<-hY] at j;exact fP.mp (M.iq b j)
 have SD:∀b∈Y.fs,b<(zz9 a):=λb j=>by rw [<-hY] at j;let(_,o,ho,_):=M.stack.mem j;exact dn ho
 have SH:(zz9 a)∉Y.fs:=λz=>Nat.lt_irrefl _ (SD _ z);have Lm:Y.env.locals=B.objs.size:=by rw [<-hY];rfl
 have QZ:∀x c,Y.env.cells.lookup x=ia c->(X.env.cells.lookup x=ia c/\c<(zz9 a)/\x∈ys)\/((x,NameKind.cell)∈scope.names/\B.objs.size+1<=c):=λx c e=>by rw [<-hY] at e;exact gV M S oQ e
 have Xs:∀x c,Y.env.cells.lookup x=ia c->B.objs.size+1<=c->E.IsCell c ie:=λx c e hle=>by
  rw [<-hY] at e;have hm:(x,c)∈lE (B.objs.size+1) scope.names []:=Kf scope.names _ _ (PySem.mem_of_lookup e) λp U=>by unfold bG at U;let(y,hy,rfl):=hG.mp U;let(c',fT):=gG.mp (ef.mp S.cells y hy);let(v,q):=M.cell y c' fT;dsimp only;rw [fT];exact ew (eo q.lt (eg oQ (Nat.le_of_succ_le hle)))
  have ck:=cellsFrom_ok scope.names (B.push {cls:=.type "dict",data:=.dict #[]}) 0 [] {(λ_ _ z=>nomatch z),.nil} (Nat.zero_le _);rw [kB.size_push,hh₁] at ck;exact(ck.empty x c hm).1
 have Xb:∀x c,Y.env.cells.lookup x=ia c->c≠(zz9 a):=λx c e=>(QZ x c e).elim (λz=>ew z.2.1) λz=>Ne.symm (ew (el oQ z.2));have Cy:Y.pn=[]:=by rw [<-hY];rfl
 have OR:Y.ex=fp:=by rw [<-hY];rfl
 have OT:Y.s₀=a:=by rw [<-hY];rfl
 have VW:Y.H₀=L:=by rw [<-hY];rfl
 have OS:Y.prog=X.prog:=by rw [<-hY];rfl
 have OV:Y.w=X.w:=by rw [<-hY];rfl
 have VX:Y.K=X.K:=by rw [<-hY];rfl
 have SK:Y.A=X.A:=by rw [<-hY];rfl
 have Xr:compEnvC scope (lE (B.objs.size+1) scope.names (bG X.env ys)) B.objs.size X.env=Y.env:=by rw [<-hY];rfl
 have OQ:Y.calm=ig:=by rw [<-hY];rfl
 have Ln:Y.xe=λ_ _=>False:=by rw [<-hY];rfl
 have OU:Y.fs=ft X.stack:=by rw [<-hY];rfl
 have PR:∀{F:Hp} {s':i2} {G:List i1} {k:Nat},s'.heap.get? (zz9 a)=ia (lobj G k)->F (zz9 a)=ie->∀p∈[((zz9 a),lobj G k)],s'.heap.get? p.1=ia p.2/\F p.1=ie/\p.1≠Y.env.locals/\p.1∉Y.fs/\∀v,p.2.data≠.cell v:=
  λ{F s' G k} e hn p U=>by obtain rfl:=e6.mp U;exact{e,hn,by rw [Lm];exact QY,SH,λv=>Ar G k v}
 have SA:∀{F:Hp} {G:List i1} {k:Nat},(∀b∈fp,F b=ie)->∀b∈fp,dE Y [((zz9 a),lobj G k)] F b:=λ{F G k} hn b j=>
  {hn b j,by rw [Lm];exact ew (eo (G6 b j) oQ),λz=>(SE b z).elim (f1 b j).2.1 (f1 b j).2.2.1,.inl (by rw [OR];exact j),
   λx c e=>(QZ x c e).elim (λz=>(f1 b j).2.2.2.2.1 x c z.1) (λz q=>absurd (G6 b j) (Nat.not_lt.mpr (q▸eg oQ (Nat.le_of_succ_le z.2)))),λp U=>by rw [Cy,List.nil_append] at U;obtain rfl:=e6.mp U;exact VT b j}
 have OP:L (zz9 a)=ie:=M.aM.fresh (bc _)
 have I2:∀tk,Inv Y [((zz9 a),lobj [] 0)] (l0 xs.length ie++CL σ is) L {a with heap:=E,toks:=tk}:=λtk=>by
  refine{Yn,by rw [OT],M.bare,by rw [OT,VW];exact Un.kept R,{_,by rw [Lm];exact hns₁,λi x v e1 e2 e3=>?_},λx c e=>?_,?_,λx c e=>(QZ x c e).elim (λz=>M.gY x c z.1) (λz=>M.aM.fresh (eg oQ (Nat.le_of_succ_le z.2))),λp U=>?_,by rw [OS,OV];exact M.aM.kept R,?_}
  .
   have SI:Y.N=xs++ys:=by rw [<-hY];rfl
   rw [SI] at e1;by_cases cy:i<xs.length
   .rw [gR (by rw [List.length_replicate];exact cy),List.getElem?_replicate,if_pos cy] at e2;cases e2
   .have Lu:xs.length<=i:=Nat.not_lt.mp cy;rw [gS (by rw [List.length_replicate];exact Lu),List.length_replicate] at e2;rw [gS Lu] at e1;let(i0,h0,h1):=x5 S.slots _ x v e1 e2;have hm:x∈ys:=a9 e1;have kx:X.env.kindOf x=ia .cell:=zzY (ef.mp S.kX x hm);have ky:(relabel scope X.env).names.lookup x=ia .cell:=zzY (ef.mp S.kY x hm);let(m,_,hl):=M.loc;let(u,ru,lk):=hl i0 x v h0 h1 (.inr (.inl kx))
    refine{u,ru,.inr {.inl (by rw [<-hY];exact ky),?_}};rcases lk with⟨z,_⟩|⟨_,c,hc1,hc2⟩
    .rw [kx] at z;cases z
    .let(c',fT):=jr (env:=X.env) hm;have OZ:=fq S.cells x c' fT;rw [hc1] at OZ;cases OZ;refine{c,by rw [<-hY];exact(qK _ _ _ λz=>(S.Mr z).2 hm).trans fT,?_};let(o,ho,hd):=hc2;exact{o,R _ _ ho,hd}
  .rcases QZ x c e with z|z
   .let(v,o,ho,hd):=M.cell x c z.1;exact{v,o,R _ _ ho,hd}
   .exact{ie,Xs x c e z.2}
  .rw [Lm];exact M.aM.fresh oQ
  .rw [Cy,List.nil_append] at U;exact PR (s':={a with heap:=E,toks:=tk}) SM OP p U
  .have SI:Y.N=xs++ys:=by rw [<-hY];rfl
   have hl:=congrArg List.length S.slots;rw [zzl,zzl] at hl;rw [SI,dj,dj,List.length_replicate];unfold CL;rw [zzl,hl]
 have loop:∀s₃:i2,s₃={a with heap:=E}->
  codeAny (kn X.prog X.w) X.A (.compLoop (.ListComp elt [{tg,iter,ifs,0}] scope pos) 0 (.ref it) (.ref (zz9 a)) (compEnvC scope (lE (B.objs.size+1) scope.names (bG X.env ys)) B.objs.size X.env))
   (compPost (kn X.prog X.w) X.A X.xe use QQ (.ref (zz9 a)) B.objs.size) s₃:=by
  rintro s₃ rfl
  rw [Xr];refine qN (λk s'=>∃i t O F G c,Inv Y [((zz9 a),lobj G c)] O F s'/\tn i s'.heap/\(∀b∈fp,F b=ie)/\Vals t G/\k=n-i/\W i t O F) ?_ n
   {0,[],_,L,[],0,I2 _,T.keep _ _ _ MZ λb _ o e=>R b o e,λb j=>(f1 b j).1,.nil,rfl,w0}
  rintro k s' ⟨i,t,O,F,G,c,I3,st3,fr3,rv,rfl,w3⟩
  let(hz,tw):=turn i t O F w3;have pD:=I3.pin ((zz9 a),lobj G c) (by rw [Cy];exact e6.mpr rfl)
  rcases tw with⟨stop,hq⟩|⟨go,V4,step⟩
  .rw [<-SK];refine bL (T.done Y OS OV VX OQ i _ s' O F _ I3 (SA fr3) st3 stop) λr Z ⟨hr,I4⟩=>?_;subst hr;let(m,hn4,_):=I4.loc;rw [Lm] at hn4;have Uc:=I4.pin ((zz9 a),lobj G c) (by rw [Cy];exact e6.mpr rfl);have kp:∀b o,b≠B.objs.size->Z.heap.get? b=ia o->Z.heap.get? b=ia o:=λb o j e=>e;have TC:∀{b o},a.heap.get? b=ia o->b≠B.objs.size:=λ{b o} e=>ew (eo (dn e) oQ);have eE:=I4.base;rw [OT,VW,OR,OU] at eE;have TF:∀{b o},L b=ia o->b≠(zz9 a):=λ{b o} e=>ew (M.aM.lt e)
   have u:Un (ft X.stack) fp L (upd F (zz9 a) (.lst t)) a.heap Z.heap:=by
    refine{λb o e n j hx=>kp b o (TC e) (eE.keep b o e n j hx),λb o e n j hx=>?_,λb o e n hx=>?_,λb o e hx=>?_,λb xs e=>?_,λb o u e=>?_,λb ps e=>?_}
    .let(sl,q):=eE.slot b o e n j hx;exact{sl,kp b _ (TC e) q}
    .rw [ae (ew (dn e))];exact eE.free b o e n hx
    .let(o',q):=eE.there b o e hx;exact{o',kp b _ (TC e) q}
    .rw [ae (TF e)];exact eE.iO b xs e
    .rw [ae (TF e)];exact eE.gf b o u e
    .let(more,q):=eE.ir b ps e;exact{more,by rw [ae (TF e)];exact q}
   have VR:F B.objs.size=ie:=by rw [<-Lm];exact I4.free
   have Hb:eL X.prog X.w (upd F (zz9 a) (.lst t)) Z.heap:=λb o e=>by
    by_cases j:b=(zz9 a)
    .subst j;rw [ak] at e;cases e;exact{Nat.le_of_lt hz,G,c,rv,kp _ _ QY Uc.1}
    .rw [ae j] at e;have x4:=I4.aM b o e;rw [OS,OV] at x4;have L3:∀P u,F P=ia u->P≠B.objs.size:=λP u q z=>by rw [z,VR] at q;cases q
     have Wo:∀P u,F P=ia u->P≠(zz9 a):=λP u q z=>by rw [z,Uc.2.1] at q;cases q
     refine x4.fe (λP u ji q=>kp P u ?_ q) (λP q=>?_) λP xs q=>?_
     .rcases ji with z|z
      .rw [z];exact L3 b o e
      .exact L3 P _ z
     .rw [ae (Wo P _ q)];exact q
     .rw [ae (Wo P _ q)];exact q
   have I5:Inv X aa σ (upd F (zz9 a) (.lst t)) Z:=M.Om (by show Z.os=a.os;rw [I4.os,OT]) u Hb I4.bare λb j=>{(f1 b j).2.2.2.1,(f1 b j).2.1,(f1 b j).2.2.2.2.1,(f1 b j).2.2.2.2.2};dsimp only;rw [SK];exact fin (zz9 a) B.objs.size Z _ m I5 hn4 (M.jy oQ (by rw [ae (Ne.symm QY)];exact VR)) (hq _ Uc.2.1)
  .rw [<-SK];refine bL (T.item Y OS OV VX OQ i _ s' O F _ I3 (SA fr3) st3 go) λr Z ⟨u,hr,h4⟩=>?_;subst hr;dsimp only;refine bL h4 λ_ s5 yq0=>?_;let(x,H5,I5,r5,y5,st5,fr5):=yq0;have RI:=I5.pinned (SA fr5) (T.obj _ _ st5);have V3:=hg fp a L B.objs.size;have VZ:=he fp a L B.objs.size;have Wa:=ht fp a L B.objs.size;rw [hY] at V3 VZ Wa;rw [<-OS,<-OV];refine wpAny_mono (V3 _ s5 O H5 x u _ RI r5 (step x H5 y5)) (λ_ s6 ⟨V,H6,I6,q6⟩=>?_) (λ_ _ f=>by rw [Ln] at f;exact f.elim);refine wpAny_mono (Wa _ s6 V H6 _ I6 q6) (λokb sT ⟨HT,IT,qT⟩=>?_) (λ_ _ f=>by rw [Ln] at f;exact f.elim);have YN:=IT.pin ((zz9 a),lobj G c) (ea _ (ey _ (e6.mpr rfl)));have Yx:tn (i+1) sT.heap:=T.keep _ _ _ st5 λb j o e=>(IT.pin (b,o) (ea _ (ea _ (dO j e)))).1
   cases okb with
   |false=>refine{n-(i+1),by omega,i+1,t,V,HT,G,c,IT.j9,Yx,λb j=>?_,rv,rfl,qT};let(o,e,d):=T.obj _ _ st5 b j;exact(IT.pin (b,o) (ea _ (ea _ (dO j e)))).2.1|true=>
   refine wpAny_mono (VZ _ sT V HT _ IT qT) (λv s7 ⟨y,H7,I7,r7,q7⟩=>?_) (λ_ _ f=>by rw [Ln] at f;exact f.elim);have Ud:=I7.pin ((zz9 a),lobj G c) (ea _ (ey _ (e6.mpr rfl)));have e7:s7.heap.get? (zz9 a)=ia {cls:=.type "list",data:=.seq G.toArray c}:=Ud.1;refine append_at (hsz:=by rw [a7,<-rv.length];exact Nat.le_of_lt hz) e7 λh' Aj Xj=>?_;have I8:Inv Y [] V H7 s7:=I7.fw λ_ z=>nomatch z
   have I9:Inv Y [] V H7 {s7 with heap:=h'}:=I8.turned (t':=s7.toks) (it:=(zz9 a)) (λb o j e=>Aj.extBut b o j e) Ud.2.1 (by rw [Lm];exact QY) (.inr (by rw [OT];exact bc _))
    (λx c' e=>Xb x c' e) (λp U=>by rw [Cy] at U;cases U)
   have eD:h'.get? (zz9 a)=ia (lobj (G++[v]) (c+1)):=by rw [Xj,List.push_toArray]
   have Yw:tn (i+1) s7.heap:=T.keep _ _ _ st5 λb j o e=>(I7.pin (b,o) (ea _ (ea _ (dO j e)))).1;refine{n-(i+1),by omega,i+1,t++[y],V,H7,G++[v],c+1,I9.fw (PR (s':={s7 with heap:=h'}) eD Ud.2.1),T.keep _ _ _ Yw λb j o e=>Aj.extBut b o (Ne.symm (VT b j)) e,λb j=>?_,rv.append (.cons r7 .nil),rfl,q7};let(o,e,d):=T.obj _ _ st5 b j;exact(I7.pin (b,o) (ea _ (ea _ (dO j e)))).2.1
 exact codeAny_compStart_list (loop _ rfl) (T.self _ 0 _ _ _ (T.keep _ _ _ MZ λb _ o e=>R b o e) (loop _ rfl))
def Ig{a c iter:jj}{i:TI}{g:TG}(j:X.calm=ig)(S:fx X scope xs ys is)(k:PI X c iter i)
 (p:∀fp d f C,PG (bV X (xs++ys) scope (bG X.env ys) fp d f C) c g) (he:∀fp d f C,PE (bV X (xs++ys) scope (bG X.env ys) fp d f C) a te)
 (hs:∀x,foldedSetIterable iter X.env x=pure x:=by intro _;rfl):
 PE X (.ListComp a [{c,iter,[],0}] scope pos) (Ew i xs.length g te is):=by
 intro aa s σ H Q I h;rw [eval_ListComp];exact iB (use:=ie) (Q:=Q) j S k p (λZ Z Z Z=>yC) he hs I h (λD C r t m u w ⟨y,g1,_,g3,z,A⟩ q=>{m,w,λF B=>{.ref D,t,u.turned (t':=r.toks) (it:=C) (λb o E e=>B.extBut b o E e) y g1 g3 z A,rfl,q}})
def AQ{d f iter i:jj}{j:TI}{g:TG}{tt:TT}(k:X.calm=ig)(S:fx X scope xs ys is)(p:PI X f iter j)
 (r:∀fp a c C,PG (bV X (xs++ys) scope (bG X.env ys) fp a c C) f g) (t:∀fp a c C,PT (bV X (xs++ys) scope (bG X.env ys) fp a c C) i tt) (he:∀fp a c C,PE (bV X (xs++ys) scope (bG X.env ys) fp a c C) d te)
 (hs:∀x,foldedSetIterable iter X.env x=pure x:=by intro _;rfl):
 PE X (.ListComp d [{f,iter,[i],0}] scope pos) (mh j xs.length g tt te is):=by
 intro aa s σ H Q I h;rw [eval_ListComp];exact iB (use:=ie) (Q:=Q) k S p r (λfp a c C=>yD (t fp a c C)) he hs I h (λD C u w m y z ⟨A,g1,_,g3,B,E⟩ q=>{m,z,λK F=>{.ref D,w,y.turned (t':=u.toks) (it:=C) (λb o G e=>F.extBut b o G e) A g1 g3 B E,rfl,q}})
end
def bS{p:i6}{o:HO}(h:H p=ie):az H (upd H p o):=λb u e=>by rw [ae (dQ e h)];exact e
def range_all(bs:List Bool):(List.range bs.length).all (λi=>(bs[i]?).getD ig)=bs.all id:=by
 rw [Bool.eq_iff_iff,ef,ef];constructor
 .intro h b d;let(i,a,e):=List.getElem_of_mem d;have q:=h i (List.mem_range.mpr a);rw [zzg a,Option.getD_some,e] at q;exact q
 .intro h i a;have c:=List.mem_range.mp a;rw [zzg c,Option.getD_some];exact h _ (List.getElem_mem c)
def BY(w:X.calm=ig):da X (.builtin "all") (λxs H Q=>∃(p:i6) (bs:List Bool),xs=[.ref p]/\iX X.K H p (bs.map V.bl)/\Q (.bl (bs.all id)) H):=by
 intro F s G H xs L Q I r h;let(p,bs,rfl,y,q):=h;let(u,rfl,d):=vals1 r;cases d;let(c,g,f,M):=I.list y;have z:p<(zz9 s):=by let(_,e,_):=f.isList;exact dn e
 have a:c.length=bs.length:=by rw [<-g.length,zzl]
 refine call_all_walk (wpAny_pyIter_list f.isList ?_);refine{(zz9 s),_,_,c.toArray.size,_,_,λi=>(bs[i]?).getD ig,rfl,Walks.list (A:=X.A.in1) (I.ok.hd w) (zz9 s) p (ew z) c.toArray,{{_,et _ rfl,rfl,rfl},f.isList.push _},λi v B C N D E=>?_,λO P hk=>?_}
 .have j:c[i]?=ia v:=zx6 D;have k:i<bs.length:=by rw [<-a];exact(cP.mp j).1
  let(u,m,d):=g.get (i:=i) (x:=V.bl bs[i]) (by rw [d0,zzg k];rfl);rw [j] at m;cases m;have e:v=i1.bool bs[i]:=d;rw [e];have t:C ((bs[i]?).getD ig) B:=E;rw [zzg k,Option.getD_some] at t;exact wpAny_truthy_bool t
 .rw [a7,a,range_all];exact{.bl (bs.all id),H,I.kept λb o e=>hk b o (by simp;exact ew (dn e)) (a5 _ e),rfl,q}
abbrev QE(z:Str):It:={λi Z=>i<z.cps.size,λi H x a=>a=H/\∃c,z.cps[i]?=ia c/\x=.str {#[c]},λi Z=>z.cps.size<=i}
def EC{w:kd}{K:zz8}{W:jj}(z:Str)(t:Tok)(it:i6)(ty:String)(C:ty="str_ascii_iterator"\/ty="str_iterator"):Turn P w K W (QE z) [it] it (λi h=>h.IsStrIter it ty z t i/\i<=z.cps.size) where
 mem:=by simp
 obj:=λi h st b g=>by have e:b=it:=zx6 g;subst e;let((o,e,c,d),_):=st;exact{o,e,λv z=>by rw [d] at z;cases z}
 keep:=λi h a st k=>{by let((o,e,r),_):=st;exact{o,k it (by simp) o e,r},st.2}
 item:=by
  intro X O R hK m i S s T H E I D st U;subst O R hK;let(F,G,Z,L,M,N):=D it (by simp);have q:i<z.cps.size:=U
  have y:∀(v:i1) (a:kB) (f:Nat),SignAt z i v->a.IsStrIter it ty z t (i+1)->(∀b o,b∉[it]->s.heap.get? b=ia o->a.get? b=ia o)->
   ∃u,(ia v:Option i1)=ia u/\zx7 X (letOwnedTupleGo W (.ref it) u) (λ_ Y=>∃x V,Inv X S T V Y/\RelV x u/\(QE z).Nv i H x V/\(Y.heap.IsStrIter it ty z t (i+1)/\i+1<=z.cps.size)/\∀b∈[it],V b=ie) E {s with heap:=a,toks:=f}:=by
   intro v a f B p j;let(c,u,m,rfl):=B;have I1:Inv X S T H {s with heap:=a,toks:=f}:=I.turned (λb o g e=>j b o (zx6 g) e) F G L M N;let(o,e,c',d):=id p
   exact{_,rfl,ud (s:={s with heap:=a,toks:=f}) e c' d (by rcases C with rfl|rfl<;>decide) {.str {#[c]},H,I1,⟨u,rfl⟩,⟨rfl,c,m,rfl⟩,⟨p,q⟩,λb g=>(D b g).1}}
  rcases C with rfl|rfl
  .exact(Walks.strAscii (prog:=X.prog) (w:=X.w) (I.ok.hd m) it z t).item i s _ _ q st.1 λv a f B p j=>y v a f B p j
  .exact(Walks.strWide (prog:=X.prog) (w:=X.w) (I.ok.hd m) it z t).item i s _ _ q st.1 λv a f B p j=>y v a f B p j
 done:=by
  intro X O R hK m i S s T H E I D st U;subst O R hK;let(F,G,Z,L,M,N):=D it (by simp);have q:i=z.cps.size:=Nat.le_antisymm st.2 U
  subst q;rcases C with rfl|rfl
  .exact(Walks.strAscii (prog:=X.prog) (w:=X.w) (I.ok.hd m) it z t).done s _ _ st.1 λa f j=>{rfl,I.turned (λb o g e=>j b o (zx6 g) e) F G L M N}
  .exact(Walks.strWide (prog:=X.prog) (w:=X.w) (I.ok.hd m) it z t).done s _ _ st.1 λa f j=>{rfl,I.turned (λb o g e=>j b o (zx6 g) e) F G L M N}
 self:=λA i s Q E st h=>by
  rcases C with rfl|rfl
  .exact wpAny_pyIter_striter_ascii st.1 h
  .exact wpAny_pyIter_striter_wide st.1 h
abbrev Tn(a:TE):TI:=λb H R=>a b H λx c=>∃z,x=.str z/\R (QE z) c
def MC{g l:jj}{i:TE}(hl:PE X l i):PI X g l (Tn i):=by
 intro j s k H R I h;refine bL (hl j s k H _ I h) λv a d=>?_;let(x,p,f,r,u):=d;let(z,e,q):=u;subst e;let(t,rfl):=r
 have c:∀ty:String,(ty="str_ascii_iterator"\/ty="str_iterator")->RO X j k g R (.ref (zz9 a)) {a with heap:=a.heap.push {cls:=.type ty,data:=.fields #[.str z t,.int 0 0]}}:=λty w=>by refine{(zz9 a),[(zz9 a)],_,_,p,rfl,f.kept (t':=a.toks) λb o e=>a5 _ e,EC z t _ ty w,{{_,et _ rfl,rfl,rfl},Nat.zero_le _},λb y=>?_,q};have e:b=(zz9 a):=zx6 y;subst e;exact f.jy (bc _) (f.aM.fresh (bc _))
 cases m:z.cps.all (·<128)
 .exact wpAny_pyIter_wide m (c _ (.inr rfl))
 .exact wpAny_pyIter_ascii m (c _ (.inl rfl))
def Uj:V->Option Int->Option Int->Hp->VK->Prop:=λx a b H Q=>∃z,x=.str z/\z.length<=k6/\Q (.str (Txt.slice z a b)) H
def MX:E9 X Uj:=by
 intro g s m H x v y A o p B Q I r hs w e h;let(z,rfl,b,q):=h;let(t,rfl):=r;refine{"str",_,F.slot_str_getitem.lookup,typeIs_str _ _ _,?_};have a:∀c k,EP X g m Q (.str (Txt.slice z o p) c) {s with toks:=k}:=λc k=>{.str _,H,I.tok k,⟨c,rfl⟩,q}
 cases w with
 |none=>
  cases e with
  |none=>exact wpAny_getItem_str_slice (l:=ie) (u:=ie) (st:=ie) hs rfl (post_val_or_str {eg (Txt.slice_le z _ _) b,a})|int j d=>exact wpAny_getItem_str_slice (l:=ie) (u:=ia (j,d)) (st:=ie) hs rfl (post_val_or_str {eg (Txt.slice_le z _ _) b,a})
 |int i f=>
  cases e with
  |none=>exact wpAny_getItem_str_slice (l:=ia (i,f)) (u:=ie) (st:=ie) hs rfl (post_val_or_str {eg (Txt.slice_le z _ _) b,a})|int j d=>exact wpAny_getItem_str_slice (l:=ia (i,f)) (u:=ia (j,d)) (st:=ie) hs rfl (post_val_or_str {eg (Txt.slice_le z _ _) b,a})
end L2
namespace HT
open PyProof.Rows
end HT
namespace L2
open PySem.Spec PyProof.Rows
section
variable{a b:jj}
end
section
variable{κ:Type}[DecidableEq κ]
abbrev gL(a:List (κ×V))(k:κ):Option V:=(a.find? λb=>decide (b.1=k)).map (·.2)
abbrev putK(b:List (κ×V))(k:κ)(v:V):List (κ×V):=
 if(b.any λa=>decide (a.1=k))=ig then b.map (λa=>if a.1=k then(a.1,v) else a) else b++[(k,v)]
abbrev gA(a:List (κ×V))(k:κ):List (κ×V):=a.filter λb=>decide (b.1≠k)
def iw{p:κ×V}{r:List (κ×V)}{k:κ}(e:p.1=k):gL (p::r) k=ia p.2:=by simp [gL,List.find?_cons,e]
def iu{p:κ×V}{r:List (κ×V)}{k:κ}(e:¬p.1=k):gL (p::r) k=gL r k:=by simp [gL,List.find?_cons,e]
theorem oo(k:κ):∀a:List (κ×V),(a.any λb=>decide (b.1=k))=(gL a k).isSome
 |[]=>rfl|p::r=>by
  rw [List.any_cons];by_cases e:p.1=k
  .simp! [iw e,zzh e,Bool.true_or,Option.isSome_some]
  .rw [iu e,zz0 e,Bool.false_or];exact oo k r
def lh(a:List (κ×V))(k:κ)(v:V):(putK a k v).length<=a.length+1:=by
 unfold putK;split
 .rw [zzl];omega
 .rw [dj,c6,List.length_nil];omega
def lB.kG{o:Option V}{u:Option i1}(r:lB o u):o.isSome=u.isSome:=by
 cases o with
 |none=>cases u with
  |none=>rfl|some _=>exact(show False from r).elim
 |some _=>cases u with
  |none=>exact(show False from r).elim|some _=>rfl
def KV.val{c:List (κ×V)}{vs:List (κ×i1)}(r:KV c vs)(k:κ):lB (gL c k) (valueAt vs k):=by
 unfold KV at r
 induction r with
 |nil=>exact True.intro|@cons p q i qs h t f=>
  let(d,g):=h;by_cases e:p.1=k
  .have a:q.1=k:=d.symm.trans e;have b:valueAt (q::qs) k=ia q.2:=by simp [valueAt,List.find?_cons,a]
   rw [iw e,b];exact g
  .have a:¬q.1=k:=λz=>e (d.trans z);have b:valueAt (q::qs) k=valueAt qs k:=by simp [valueAt,List.find?_cons,a]
   rw [iu e,b];exact f
def KV.any{b:List (κ×V)}{vs:List (κ×i1)}(r:KV b vs)(k:κ):(b.any λa=>decide (a.1=k))=vs.any λa=>decide (a.1=k):=by
 unfold KV at r
 induction r with
 |nil=>rfl|cons h t c=>rw [List.any_cons,List.any_cons,c,h.1]
def KV.MO{c:List (κ×V)}{vs:List (κ×i1)}(r:KV c vs)(k:κ){y:V}{u:i1}(d:RelV y u):
 KV (c.map λa=>if a.1=k then(a.1,y) else a) (vs.map λa=>if a.1=k then(a.1,u) else a):=by
 unfold KV at r⊢
 induction r with
 |nil=>exact .nil|@cons p q i qs h t f=>
  rw [bf,bf];refine .cons ?_ f;let(b,g):=h;by_cases e:p.1=k
  .rw [if_pos e,if_pos (b.symm.trans e)];exact⟨b,d⟩
  .rw [if_neg e,if_neg (λz=>e (b.trans z))];exact⟨b,g⟩
def KV.put{a:List (κ×V)}{vs:List (κ×i1)}(r:KV a vs)(k:κ){y:V}{u:i1}(b:RelV y u):KV (putK a k y) (stored vs k u):=by
 unfold putK stored;rw [r.any k];by_cases e:(vs.any λc=>decide (c.1=k))=ig
 .rw [if_pos e,if_pos e];exact r.MO k b
 .rw [if_neg e,if_neg e];exact Paired.snoc r ⟨rfl,b⟩
def KV.length{a:List (κ×V)}{vs:List (κ×i1)}(r:KV a vs):a.length=vs.length:=Paired.length r
def B7(a:List (κ×V))(k:κ):(gA a k).length<=a.length:=List.length_filter_le _ _
end
def uB{k:Key}{u:i1}(r:RelV (kV k) u):(bx P w).is k u=ig:=by
 cases k with
 |inl i=>let(t,e):=(show∃t,u=i1.int i t from r);subst e;exact uH P w i t|inr x=>let(t,e):=(show∃t,u=i1.str x t from r);subst e;exact uI P w x t
theorem pW:∀{ks:List Key} {us:List i1},Vals (ks.map kV) us->ItemsAre (bx P w) ks us
 |[],_,r=>by rw [List.map_nil] at r;cases r;exact .nil
 |k::ks,_,r=>by
  rw [bf] at r;cases r with
  |cons h t=>exact .cons (uB h) (pW t)
noncomputable abbrev KT(H:Hp):List (List bj×V)->List (List bj×i6×i1)->Prop:=Paired λp q=>p.1=q.1/\cF H q.2.1 p.1/\RelV p.2 q.2.2
def KT.val{c:List (List bj×V)}{xs:List (List bj×i6×i1)}(r:KT H c xs)(k:List bj):lB (gL c k) ((atKey xs k).map (·.2)):=by
 induction r with
 |nil=>exact True.intro|@cons p q i qs h t f=>
  let(d,_,g):=h;by_cases e:p.1=k
  .have a:q.1=k:=d.symm.trans e;have b:atKey (q::qs) k=ia q.2:=by simp [atKey,List.find?_cons,a]
   rw [iw e,b];exact g
  .have a:¬q.1=k:=λz=>e (d.trans z);have b:atKey (q::qs) k=atKey qs k:=by simp [atKey,List.find?_cons,a]
   rw [iu e,b];exact f
def KT.MO{c:List (List bj×V)}{xs:List (List bj×i6×i1)}(r:KT H c xs)(k:List bj){y:V}{u:i1}(f:RelV y u):
 KT H (c.map λb=>if b.1=k then(b.1,y) else b) (xs.map (putAt k u)):=by
 induction r with
 |nil=>exact .nil|@cons p q j qs h t g=>
  rw [bf,bf];refine .cons ?_ g;let(a,d,i):=h;unfold putAt;by_cases e:p.1=k
  .rw [if_pos e,if_pos (a.symm.trans e)];exact⟨a,d,f⟩
  .rw [if_neg e,if_neg (λz=>e (a.trans z))];exact⟨a,d,i⟩
def KT.put{a:List (List bj×V)}{xs:List (List bj×i6×i1)}(r:KT H a xs)(k:List bj){b:i6}{y:V}{u:i1}(d:cF H b k)(c:RelV y u):
 KT H (putK a k y) (storedH xs k b u):=by
 have e:(a.any λf=>decide (f.1=k))=(atKey xs k).isSome:=by rw [oo,(r.val k).kG,Option.isSome_map]
 unfold putK storedH;rw [e];by_cases q:(atKey xs k).isSome=ig
 .rw [if_pos q,if_pos q];exact r.MO k c
 .rw [if_neg q,if_neg q];exact Paired.snoc r ⟨rfl,d,c⟩
def KT.keeps{a:Hp}{c:List (List bj×V)}{xs:List (List bj×i6×i1)}(r:KT H c xs)(d:∀b ys,H b=ia (.tup ys)->a b=ia (.tup ys)):KT a c xs:=
 Paired.LY r λZ Z z=>{z.1,z.2.1.keeps d,z.2.2}
def JI{u:HO}(ok:eL P w H h)(e:Rd H a u):bO P w H h a u:=e.ok ok
def tH{b:List (Key×V)}(ok:eL P w H h)(e:Rd H a (.dK b)):b.length<=k6/\(a==sysModules)=iv/\∃vs,KV b vs/\h.DictOf (bx P w) a vs:=
 show bO P w H h a (.dK b) from JI ok e
def OE{b:List (Key×V)}(ok:eL P w H h)(e:H a=ia (.dK b)):b.length<=k6/\(a==sysModules)=iv/\∃vs,KV b vs/\h.DictOf (bx P w) a vs:=tH ok (.inl e)
def Cg{ks:List Key}(ok:eL P w H h)(e:H a=ia (.tup (ks.map kV))):IsTupleKey (bx P w) h ks a:=by let(_,b,r,o,c,d,n,f):=(show bO P w H h a (.tup (ks.map kV)) from ok a _ e);exact{o,b.toArray,n,c,d,f,by simpa using pW r}
theorem uK(ok:eL P w H h):∀{ks:List bj} {vs:List V} {us:List i1},Paired (Nw H) ks vs->Vals vs us->Paired (bj.is P w h) ks us
 |_,_,_,.nil,.nil=>.nil|x::_,_,_,.cons e t,.cons r rs=>by
  refine .cons ?_ (uK ok t rs);cases x with
  |k x=>cases(e:_=kV x);exact uB r
  |n=>cases(e:_=V.aG);exact r
  |t ks=>let(c,rfl,e):=e;exact{c,r,Cg ok e}
def kH{ks:List bj}(ok:eL P w H h)(e:cF H a ks):(ic P w).is h ks a:=by let(b,e,p):=e;let(_,c,r,o,d,f,n,g):=(show bO P w H h a (.tup b) from ok a _ e);exact{o,c.toArray,n,d,f,g,by simpa using uK ok p r}
def Hf:∀{vs:List V},Paired (Nw H) (ns.map iK) vs->vs=ns.map V.int:=by
 induction ns with
 |nil=>intro vs p;cases p;rfl
 |cons n ns b=>
  intro vs p;cases p with
  |cons e t=>rw [b t,(show _=V.int n from e)];rfl
def cF.Nf(x:cF H a (ns.map iK)):H a=ia (.tup (ns.map V.int)):=by let(b,e,p):=x;rw [e,Hf p]
def d9(b:A.units+3<cLine):(ic P w).room A.in1:=by show A.units+1+2<_;omega
def mS{c:List (List bj×V)}(ok:eL P w H h)(e:Rd H a (.dT c)):c.length<=k6/\(a==sysModules)=iv/\
 ∃xs,KT H c xs/\h.DictOfH (ic P w) a xs:=by
 let(z,y,xs,r,o,f,g,i,j,k,s,u):=(show bO P w H h a (.dT c) from JI ok e);refine{z,y,xs,r,o,f,g,i,j,k,s,λx b=>?_,u}
 have all:∀{l:List (List bj×V)} {m:List (List bj×i6×i1)},KT H l m->∀x∈m,(ic P w).is h x.1 x.2.1:=by
  intro l m q
  induction q with
  |nil=>intro x b;exact nomatch b|@cons p q B qs d t A=>
   intro x b;rcases fP.mp b with e|b
   .subst e;exact kH ok (by rw [<-d.1];exact d.2.1)
   .exact A x b
 exact all r x b
def Jq{b:List (List bj×V)}(ok:eL P w H h)(e:H a=ia (.dT b)):b.length<=k6/\(a==sysModules)=iv/\
 ∃xs,KT H b xs/\h.DictOfH (ic P w) a xs:=mS ok (.inl e)
def E7(H:Hp)(a:i6)(y:V)(r:Option V):Prop:=
 (∃c k,Rd H a (.dK c)/\y=kV k/\r=gL c k)\/∃c k b,Rd H a (.dT c)/\y=.ref b/\cF H b k/\r=gL c k
def zj(H:Hp)(a:i6)(y v:V)(d:Hp):Prop:=
 (∃c k,H a=ia (.dK c)/\y=kV k/\c.length<k6/\d=upd H a (.dK (putK c k v)))\/
 ∃c k b,H a=ia (.dT c)/\y=.ref b/\cF H b k/\c.length<k6/\d=upd H a (.dT (putK c k v))
def zj.t{b:i6}{c:List (List bj×V)}{k:List bj}(e:H a=ia (.dT c))(d:cF H b k)(hl:c.length<k6):
 zj H a (.ref b) v (upd H a (.dT (putK c k v))):=.inr ⟨c,k,b,e,rfl,d,hl,rfl⟩
section
variable{aa:mn}{s:i2}{y:V}{u r:i1}{o:Option V}{E:ml}
def Inv.big(I:zv2 s):sysModules<(zz9 s):=by have h:k8<(zz9 s):=(I.mod.glob.keeps I.bk).lt;exact Nat.lt_trans (by decide) h
def zP{Q:ml}(B:A.units+3<cLine)(I:zv2 s)(g:E7 H a y (ia v))(t:RelV y u)(h:∀d s',Inv X aa σ H s'->RelV v d->Q d s'):
 jk (kn X.prog X.w) A (getItem (.ref a) u) Q E s:=by
 rcases g with⟨C,k,e,f,l⟩|⟨C,k,b,e,f,D,l⟩
 .subst f;let(z,hd,F,c,i):=tH I.aM e;let(d,j,m):=lB.some_of (v:=v) (o:=valueAt F k) (by rw [l];exact c.val k);exact wpAny_getItem_of (uB t) i.mapOf j (h d _ (I.tok _) m)
 .subst f;cases(show u=i1.ref b from t);let(z,hd,xs,c,i):=mS I.aM e;let(d,j,m):=lB.some_of (v:=v) (o:=(atKey xs k).map (·.2)) (by rw [l];exact c.val k);let(p,G,q):=c4.mp j;refine wpAny_getItem_heap (d9 B) (kH I.aM D) i G ?_;rw [q];exact h d _ (I.tok _) m
def Gm{Q:ml}(j:A.units+3<cLine)(I:zv2 s)(g:E7 H a y o)(i:RelV y u)(h:∀s',Inv X aa σ H s'->Q (.bool (!o.isSome)) s'):
 jk (kn X.prog X.w) A (compareOp .NotIn u (.ref a)) Q E s:=by
 rcases g with⟨m,k,e,d,l⟩|⟨m,k,b,e,d,p,l⟩
 .subst d;let(z,hd,t,c,f):=tH I.aM e;refine wpAny_notIn_of (uB i) hd f.mapOf ?_;rw [<-(c.val k).kG,<-l];exact h _ (I.tok _)
 .subst d;cases(show u=i1.ref b from i);let(z,hd,xs,c,f):=mS I.aM e;refine wpAny_notIn_heap (d9 j) (kH I.aM p) hd f ?_;have q:=(c.val k).kG;rw [Option.isSome_map] at q;rw [<-q,<-l];exact h _ (I.tok _)
theorem ju{t':Nat}{ob:HO}(I:zv2 s)(mu:NZ (H a))(hs:kB.SameBut a s.heap h')(he:∃q,h'.get? a=ia q)(new:bO X.prog X.w (upd H a ob) h' a ob):
 Inv X aa σ (upd H a ob) {s with heap:=h',toks:=t'}:=
 I.write (x:=a) (e:=a) mu (.inl rfl) (λb q c z=>(hs.2 b c).trans z) he new
def KI{d:Hp}{b:List (Key×V)}{vs:List (Key×i1)}(z:b.length<=k6)(hd:(a==sysModules)=iv)(c:KV b vs)(dd:h'.DictOf (bx P w) a vs):
 bO P w d h' a (.dK b):=⟨z,hd,vs,c,dd⟩
def zQ{C:Hp}{Q:Unit->i2->Prop}(M:A.units+3<cLine)(I:zv2 s)(g:zj H a y v C)(D:RelV y u)(F:RelV v r)(h:∀s',Inv X aa σ C s'->Q () s'):
 jk (kn X.prog X.w) A (setItem (.ref a) u r) Q E s:=by
 rcases g with⟨f,k,e,m,l,p⟩|⟨f,k,b,e,m,G,l,p⟩
 .subst m p;let(z,hd,N,d,t):=OE I.aM e;have B:N.length<=sizeLine:=by rw [<-d.length];exact z
  have hl:(putK f k v).length<=sizeLine:=by have:=lh f k v;omega
  refine wpAny_setItem_pairs (hsz:=B) (uB D) t λK i hs=>h _ ?_;have O:∃q,K.get? a=ia q:=let⟨q,_,_,j,_⟩:=i;⟨q,j⟩;exact ju I (by rw [e];exact True.intro) hs O (KI hl hd (d.put k F) i)
 .subst m p;cases(show u=i1.ref b from D);let(z,hd,xs,d,t):=Jq I.aM e;have B:xs.length<=sizeLine:=by rw [<-Paired.length d];exact z
  have hl:(putK f k v).length<=sizeLine:=by have:=lh f k v;omega
  refine wpAny_setItem_heap (hsz:=B) (d9 M) (kH I.aM G) t λK i hs=>h _ ?_;let(q,P,R,j,S,T,U,_,V):=i;refine ju I (by rw [e];exact True.intro) hs ⟨q,j⟩ {hl,hd,_,(d.put k G F).keeps λc W L=>?_,q,P,R,j,S,T,U,V};rw [ae (j1 L e nofun)];exact L
end
def N0(i:jj):Prop:=∀a b,subscripted i iv a b=operate [a,b] (getItem a b)
def IQ{E:ml}{s:i2}{env:Env}{a slice:jj}{T id:String}{Q:ml}
 (hl:typeLookup (.type T) "__getitem__"=pure (ia (.builtin id))) (hs:N0 slice)
 (h:jk (kn prog w) A (eval a env) (λo d=>jk (kn prog w) A (eval slice env) (λi b=>b.TypeIs o T/\jk (kn prog w) A (getItem o i) Q E b) E d) E s):
 jk (kn prog w) A (eval (.Subscript a slice pos) env) Q E s:=by
 refine Subscript_ (wpAny_mono h (λo d g=>wpAny_mono g (λi b c=>?_) λZ Z x=>x) λZ Z x=>x);let(k,c):=c;unfold subscriptTail;refine aT ?_;rw [getitemInPython_of_ne k.not_modules];refine aT (wpAny_specialOf k hl ?_);have f:jk (kn prog w) A (subscripted slice iv o i) (λr e=>jk (kn prog w) A (letTemporaryGo a o r>>=λZ=>pure r) Q E e) E b:=by rw [hs o i];exact wpAny_operating (wpAny_mono c (λr e j=>aT (wpAny_letTemporaryGo (b4 j))) λZ Z x=>x)
 first
  |exact b4 (aT f)
  |exact aT (b4 (aT f))
  |exact aT f
def tG{d:mn}{f:St}{s:i2}{y:V}{o:Option V}(I:Inv X d f H s)(g:E7 H a y o):s.TypeIs (.ref a) "dict":=by
 rcases g with⟨h,k,e,_,_⟩|⟨h,k,b,e,_,_,_⟩
 .let(_,_,i,_,c):=tH I.aM e;exact c.typeIs
 .let(_,_,xs,_,c):=mS I.aM e;exact c.typeIs
abbrev yY(d ty:TE):TE:=λb H Q=>d b H λx e=>ty b e λy c=>∃a v,x=.ref a/\E7 c a y (ia v)/\Q v c
section
variable{o i:jj}{td ty:TE}
def rC(f:X.A.units+3<cLine)(j:PE X o td)(k:PE X i ty)(hs:N0 i):PE X (.Subscript o i pos) (yY td ty):=by intro c s d H Q I h;refine IQ PySem.F.slot_dict_getitem.lookup hs (bL (j c s d H _ I h) λu m ⟨x,H1,p,q,r⟩=>bL (k c m d H1 _ p r) λD E b=>?_);let(y,t,e,w,a,v,ex,g,z):=b;subst ex;obtain rfl:u=i1.ref a:=q;exact{tG e g,zP f e g w λG K B C=>⟨v,t,B,C,z⟩}
end
theorem B8(h:kB)(a:sysModules<h.objs.size):bO P w H (h.push {cls:=.type "dict",data:=.dict #[]}) h.objs.size (.dT []):=
 {Nat.zero_le _,beq_eq_false_iff_ne.mpr (Ne.symm (ew a)),[],.nil,_,#[],0,et _ rfl,⟨rfl,rfl,rfl⟩,rfl,rfl,List.nodup_nil}
abbrev M9:TE:=λZ H Q=>∀p,H p=ie->Q (.ref p) (upd H p (.dT []))
theorem DM:PE X (.Dict [] [] pos) M9:=λb s c H Q I h=>wpAny_Dict_empty {.ref (zz9 s),_,I.laid (a:=(zz9 s)) (o:=.dT []) (t':=s.toks) (λZ Z q=>a5 _ q) (bc _) (B8 s.heap I.big),rfl,h _ (I.aM.fresh (bc _))}
structure M1(X:Cx)(o:jj)(m:Str)(apos:Pos)(e:jj)(bJ:Pos):Prop where
 base:attributeBase o m X.env (eval o X.env)=eval o X.env
 VO:((backTo bJ (starEach [e] X.env)).all (λx=>!x.1)&&(backToKw bJ (keywordEach [] X.env)).all (λx=>x.1.isSome)
  &&decide (([e]:List jj).length+([]:List Keyword).length+(if([]:List Keyword).isEmpty then 0 else 1)<30))=ig
 line:(apos.endLine==bJ.line)=ig
 trees:backTo bJ (starEach [e] X.env)=[(iv,eval e X.env)]
structure M2(X:Cx)(o:jj)(m:Str)(apos:Pos)(e f:jj)(bJ:Pos):Prop where
 base:attributeBase o m X.env (eval o X.env)=eval o X.env
 VO:((backTo bJ (starEach [e,f] X.env)).all (λx=>!x.1)&&(backToKw bJ (keywordEach [] X.env)).all (λx=>x.1.isSome)
  &&decide (([e,f]:List jj).length+([]:List Keyword).length+(if([]:List Keyword).isEmpty then 0 else 1)<30))=ig
 line:(apos.endLine==bJ.line)=ig
 trees:backTo bJ (starEach [e,f] X.env)=[(iv,eval e X.env),(iv,eval f X.env)]
def Jf(H:Hp)(a:i6):Prop:=(∃b,Rd H a (.dK b))\/∃b,Rd H a (.dT b)
def LI{h:mn}{i:St}{s:i2}(I:Inv X h i H s)(d:Jf H a):
 s.TypeIs (.ref a) "dict"/\(∀b,i1.ref a=.ref b->∃ob,s.heap.get? b=ia ob/\ob.dict=ie)/\(a==sysModules)=iv:=by
 rcases d with⟨j,e⟩|⟨j,e⟩
 .let(_,hd,k,_,c):=tH I.aM e;refine{c.typeIs,λb q=>?_,hd};cases q;let(ob,_,_,f,g,_):=c;exact⟨ob,f,g.2.1⟩
 .let(_,hd,xs,_,c):=mS I.aM e;refine{c.typeIs,λb q=>?_,hd};cases q;let(ob,_,_,f,g,_):=c;exact⟨ob,f,g.2.1⟩
end L2
namespace Att
open PySem.W PySem.Calls PyProof.Rows
end Att
namespace L2
open PySem.Spec PyProof.Rows
section
variable{κ:Type}[DecidableEq κ]
def zS{p:κ×V}{r:List (κ×V)}{k:κ}(e:p.1=k):gA (p::r) k=gA r k:=by unfold gA;rw [hL,if_neg (by simp [e])]
def zR{p:κ×V}{r:List (κ×V)}{k:κ}(e:¬p.1=k):gA (p::r) k=p::gA r k:=by unfold gA;rw [hL,if_pos (by simp [e])]
end
section
variable{κ:Type}[DecidableEq κ]{knd:HeapKind prog w κ}{E:ml}{s:i2}{d:i6}{xs:List (κ×i6×i1)}{k:κ}
theorem qZ(d:i6)(c:(d==sysModules)=iv):MeetsIn prog w (la.«dict.__len__» {[.ref d],[]}) (λZ R s=>∃xs,s.heap.DictOfH knd d xs/\R (.ok (.ret (.int xs.length s.toks))) {s with toks:=s.toks+1}):=
 .of_wp λA R s b=>by let(xs,(o,i,j,e,_,f,g,_),h):=b;show jk _ _ (dictSize d>>=λn=>_) _ _ s;unfold dictSize;refine aT (aT (wpAny_dictEntries e f (b4 (aT (wpAny_pendingCount_other c (wpAny_ret_mkInt ?_))))));rw [Nat.add_zero,size_of_entries g];exact h
def Lp{Q:ml}(b:(d==sysModules)=iv)(hm:s.heap.DictOfH knd d xs)(c:(xs.length:Int)<2^63)(h:Q (.int xs.length (s.toks+1)) {s with toks:=s.toks+1+1}):jk (kn prog w) A (call (.builtin "len") [.ref d]) Q E s:=by
 refine Calls.call_function_entry kind_len plain_len entry_len (args_len1 _) ?_;unfold la.«len»;refine aT (m:=oneArg "len" _) (b4 (aT (m:=callSpecial? (.ref d) (Str.ofString "__len__")) (wpAny_callSpecial?_slot (name:=Str.ofString "__len__") hm.typeIs F.slot_dict_len
  (call_meetsIn F.slot_dict_len hm.typeIs F.entry_dict_len (F.args_dict_len_1 _) (qZ (knd:=knd) d b) {xs,hm,?_}))))
 show jk _ _ (holding _ _>>=λz=>_) _ _ {s with toks:=s.toks+1};refine aT (wpAny_holding (b4 (aT (wpAny_letGo ?_))));show jk _ _ (if((xs.length:Nat):Int)<0 then _ else(if((xs.length:Nat):Int)>=2^63 then _ else _)) _ _ _;rw [if_neg (by omega),if_neg (by omega)];exact aT (wpAny_mkInt (b4 {_,rfl,h}))
def Cd{l:List (κ×i6×i1)}:∀{j:Nat} {p:i6×i1},(l.map (·.1)).Nodup->l[j]?=ia (k,p)->l.eraseIdx j=l.filter λx=>decide (x.1≠k):=by
 induction l with
 |nil=>intro j p _ h;simp at h|cons x r b=>
  intro j p nd h;rw [bf,List.nodup_cons] at nd;cases j with
  |zero=>simp! [List.getElem?_cons_zero,Option.some.injEq] at h;subst h;simp! [List.eraseIdx_cons_zero,ne_eq,hL,not_true,decide_false,eM,if_false];refine(List.filter_eq_self.mpr λy c=>?_).symm;exact zzh λe=>nd.1 (e▸List.mem_map_of_mem (f:=(·.1)) c)|succ j=>simp! [List.getElem?_cons_succ] at h;have g:¬x.1=k:=λe=>nd.1 (e▸hG.mpr {(k,p),a9 h,rfl});rw [List.eraseIdx_cons_succ,hL,if_pos (zx6 g),b nd.2 h]
theorem p8{b c:Type}(f:b->c):∀(l:List b) (j:Nat),(l.eraseIdx j).map f=(l.map f).eraseIdx j
 |[],_=>by simp|x::r,0=>by simp|x::r,j+1=>by simp [p8 f r j]
def vX{p:i6×i1}{Q:Option DictEntry->i2->Prop}(m:knd.room A)(hk:knd.is s.heap k a)(hm:s.heap.DictOfH knd d xs)(g:atKey xs k=ia p)(hz:xs.length<=k6)
 (r:∀h' e,e.val=p.2->h'.DictOfH knd d (xs.filter λx=>decide (x.1≠k))->kB.SameBut d s.heap h'->Q (ia e) {s with heap:=h',toks:=s.toks+knd.draws k}):jk (kn prog w) A (la.Dict.takeOut d (.ref a)) Q E s:=by
 let(o,t,u,c,y,b,h,f,nd):=hm;unfold la.Dict.takeOut
 try with_reducible refine wpAny_holding ?_
 refine aT (knd.pyHash m hk (aT (wpAny_dictFind_heap (s:={s with toks:=s.toks+knd.draws k}) m hk c b h f nd (λno=>?_) λj q i=>?_)))
 .rw [atKey_none_of_get no] at g;cases g
 .rw [atKey_of_get nd i] at g;cases g;refine aT (wpAny_dictEntries (s:={s with toks:=s.toks+knd.draws k}) c b ?_);rw [entry_at h j,i];refine aT (wpAny_updateDictKeys (hz:=by have e:=size_of_entries h;omega) (s:={s with toks:=s.toks+knd.draws k}) c b (b4 (r _ _ rfl {_,_,u+1,kB.get?_update_self _ c (Obj.isFreed_of_dict (Obj.data_mapDictKeys b _)),
   y.mapDictKeys _,Obj.data_mapDictKeys b _,?_,λx z=>knd.keeps (f x (List.mem_filter.mp z).1) c b (hD ..),nd.sublist (List.filter_sublist.map _)} (hD ..))))
  rw [<-Cd nd i,p8,<-h];obtain⟨l⟩:=t;simp [Array.eraseIdxIfInBounds];split
  .simp
  .rename_i B;rw [List.eraseIdx_of_length_le (zx6 B)]
def q8(d a:i6):MeetsIn prog w (la.«dict.pop» {[.ref d,.ref a],[]}) (λA R s=>knd.room A.in1/\∃k xs p,knd.is s.heap k a/\s.heap.DictOfH knd d xs/\xs.length<=k6/\atKey xs k=ia p/\
 ∀h',h'.DictOfH knd d (xs.filter λx=>decide (x.1≠k))->kB.SameBut d s.heap h'->R (.ok (.ret p.2)) {s with heap:=h',toks:=s.toks+knd.draws k}):=
 .of_wp λA R s b=>by
  let(g,k,xs,p,hk,hm,i,c,h):=b;let(o,f,y,j,_,m,q,_):=id hm
  have ne:f.isEmpty=iv:=by
   cases xs with
   |nil=>cases c
   |cons x r=>have:=size_of_entries q;rw [c6] at this;rw [Array.isEmpty_eq_false_iff_exists_mem];exact{f[0]'(by omega),Array.getElem_mem _}
  unfold la.«dict.pop»;refine aT ?_;unfold la.Dict.keyAndDefault;refine aT (wpAny_notOrdered_dict hm.typeIs ?_);show jk _ _ (pure (d,i1.ref a,Option.none)) _ _ s;refine b4 ?_;have kp:(keyPart (i1.ref a)).isSome=iv:=rfl;simp! [kp,eM,if_false];refine aT (wpAny_dictEntries j m (aT (b4 ?_)));rw [ne];simp! [eM,if_false];refine aT (vX g hk hm c i λh' e t u hs=>?_);simp! [Option.isNone_some,eM,if_false];exact aT (wpAny_letGo (b4 {e.val,rfl,by rw [t];exact h h' u hs}))
def xX{c:Array DictEntry}{e:Nat}{Q:ml}(g:(d==sysModules)=iv)(b:s.heap.get? d=ia o)(h:o.ExactDict)(f:o.data=.dict c e)
 (i:Q (.ref (zz9 s)) {s with heap:=s.heap.push {cls:=.type (zu 11),data:=.fields #[.ref d,.int 0 0,.int c.size 0,.int e 0]}}):jk (kn prog w) A (pyIter (.ref d)) Q E s:=by
 have T:s.TypeIs (.ref d) "dict":=⟨o,b,h.1⟩;refine wpAny_pyIter_slot T F.slot_dict_iter (wpAny_call_entry F.slot_dict_iter T F.entry_dict_iter ?_ (F.args_dict_iter_1 _));unfold la.«dict.__iter__» la.Dict.dictSlotNone;refine aT (aT (wpAny_notOrdered_dict T ?_));show jk _ _ (pure (i1.ref d):Sem i1) _ _ s;refine b4 ?_;show jk _ _ (la.Dict.showsAll d>>=λZ=>_) _ _ s;unfold la.Dict.showsAll;rw [if_neg (by rw [g];exact zzf)];refine aT (b4 (aT (wpAny_dictEntries b f (aT (wpAny_dictEpoch b f ?_)))));refine aT (wpAny_newObj_type (b4 {_,rfl,zu 11,_,{_,et _ rfl,rfl},F.slot_dict_keyiterator_next.lookup,?_}));simpa [rawInt] using i
def q9{it:i6}{i e:Nat}{b:Array DictEntry}{Q:Option i1->i2->Prop}(st:s.heap.IsKeyIter it d i b.size e)(g:s.heap.get? d=ia o)(h:o.data=.dict b e)(m:i<b.size)
 (p:∀h',h'.IsKeyIter it d (i+1) b.size e->kB.SameBut it s.heap h'->Q (ia b[i].key) {s with heap:=h'}):jk (kn prog w) A (pyNext (.ref it)) Q E s:=by
 let(r,f,q,c):=id st;have own:la.Dict_items.ownsTuple (zu 11)=iv:=by decide
 unfold pyNext;refine aT (wpAny_attempt (wpAny_callSpecial?_slot (name:=Str.ofString "__next__") st.typeIs F.slot_dict_keyiterator_next (wpAny_call_entry F.slot_dict_keyiterator_next st.typeIs F.entry_dict_keyiterator_next ?_ (F.args_dict_keyiterator_next_1 _))));refine aT (b4 (aT (aT ?_)))
 first|refine aT (wpAny_typeNameOfWhole_keyiter st.typeIs (b4 (aT (wpAny_fieldsOf f c ?_))))|refine aT (wpAny_typeNameOf_keyiter st.typeIs (b4 (aT (wpAny_fieldsOf f c ?_))))
 simp! [own,eM,if_false];show jk _ _ (if(i1.ref d==i1.none)=ig then _ else _:Sem _) _ _ s;rw [if_neg (show¬((i1.ref d==i1.none)=ig) from zzf)];refine aT (b4 (aT (wpAny_dictEntries g h ?_)));rw [if_neg (by simp)];refine aT (b4 (aT (wpAny_dictEpoch g h ?_)));rw [if_neg (by simp)];refine b4 ?_;simp! [show¬((i:Int)<0) from by omega,if_false,hU,Array.getElem?_eq_getElem m];refine aT ?_
 first|refine aT (wpAny_typeNameOfWhole_keyiter st.typeIs (b4 (aT (wpAny_isOneOf_keyiter st.typeIs ?_))))|refine aT (wpAny_typeNameOf_keyiter st.typeIs (b4 (aT (wpAny_isOneOf_keyiter st.typeIs ?_))))
 show jk _ _ (setField (.ref it) 1 (rawInt ((i:Int)+1))>>=λZ=>_) _ _ s
 have j:(s.heap.update it (Obj.mapFields (·.setIfInBounds 1 (rawInt ((i:Int)+1))))).IsKeyIter it d (i+1) b.size e:=
  {_,kB.get?_update_self _ f (Obj.isFreed_of_fields (Obj.data_mapFields c _)),(Obj.cls_mapFields ..).trans q,by rw [Obj.data_mapFields c];simp [rawInt]}
 refine aT (wpAny_setField f c (by simp) (aT (wpAny_holding (aT (wpAny_isOneOf_keyiter (s:={s with heap:=s.heap.update it (Obj.mapFields (·.setIfInBounds 1 (rawInt ((i:Int)+1))))}) j.typeIs ?_)))));show jk _ _ (pure b[i].key:Sem i1) _ _ _;exact b4 (b4 {_,rfl,b4 (p _ j (hD ..))})
def CA{it:i6}{i g:Nat}{c:Array DictEntry}{Q:Option i1->i2->Prop}(p:A.handled=ie)(st:s.heap.IsKeyIter it d i c.size g)(h:s.heap.get? d=ia o)(j:o.data=.dict c g)(q:c.size<=i)
 (r:∀h',kB.ExtBut it s.heap h'->Q ie {s with heap:=h'}):jk (kn prog w) A (pyNext (.ref it)) Q E s:=by
 let(t,e,u,f):=id st;have own:la.Dict_items.ownsTuple (zu 11)=iv:=by decide
 unfold pyNext;refine aT (wpAny_attempt (wpAny_callSpecial?_slot (name:=Str.ofString "__next__") st.typeIs F.slot_dict_keyiterator_next (wpAny_call_entry F.slot_dict_keyiterator_next st.typeIs F.entry_dict_keyiterator_next ?_ (F.args_dict_keyiterator_next_1 _))));refine aT (b4 (aT (aT ?_)))
 first|refine aT (wpAny_typeNameOfWhole_keyiter st.typeIs (b4 (aT (wpAny_fieldsOf e f ?_))))|refine aT (wpAny_typeNameOf_keyiter st.typeIs (b4 (aT (wpAny_fieldsOf e f ?_))))
 simp! [own,eM,if_false];show jk _ _ (if(i1.ref d==i1.none)=ig then _ else _:Sem _) _ _ s;rw [if_neg (show¬((i1.ref d==i1.none)=ig) from zzf)];refine aT (b4 (aT (wpAny_dictEntries h j ?_)));rw [if_neg (by simp)];refine aT (b4 (aT (wpAny_dictEpoch h j ?_)));rw [if_neg (by simp)];refine b4 ?_;simp! [show¬((i:Int)<0) from by omega,if_false,hU,Array.getElem?_eq_none q];refine aT ?_
 first|refine aT (wpAny_typeNameOfWhole_keyiter st.typeIs (b4 ?_))|refine aT (wpAny_typeNameOf_keyiter st.typeIs (b4 ?_))
 show jk _ _ (setField (.ref it) 0 .none>>=λZ=>_) _ _ s;refine aT (wpAny_setField e f (by simp) ?_);show jk _ _ (newExc (.type (zu 44)) []>>=λZ=>_) _ _ _;refine aT ?_;simp! [newExc,newTuple];refine aT (wpAny_newObj_type (aT (m:=firstArgMember _ _) (wpAny_of_eq (a:=i1.none) (by first|rfl|(simp! [firstArgMember];rfl)) (wpAny_newObj_type ?_ (by size_fits)))) (by size_fits));simp! [raiseNew];refine aT (wpAny_handled ?_);rw [show A.in1.handled=ie from p];refine aT (b4 (wpAny_throw ?_));refine aT (wpAny_isInstance (T:=(zu 44)) (b:=ig) {_,et _ rfl,rfl} isSubtype_stop ?_);exact b4 (r _ (((hD ..).extBut.push _).push _))
end
end L2
namespace Cw
open L2
abbrev sgn(c:Nat):Bool:=c==35||(48<=c&&c<=57)
abbrev Yq:V->Bool
 |.str z=>decide (1<=z.cps.toList.length)&&decide (z.cps.toList.length<=12)&&z.cps.toList.all sgn|_=>iv
abbrev Pq:V->Nat
 |.str z=>z.cps.toList.length|_=>0
section
variable{K:zz8}
noncomputable abbrev EW(K:zz8)(t n:String)(b:Bool):Prop:=PySem.W.kitOne K (.type t) (.type n)=ia b
def C5{K:zz8}(t:String):EW K t t ig:=by unfold EW PySem.W.kitOne;rw [if_pos (by simp)]
def C3{t n:String}{b:Bool}(a:(i1.type t==i1.type n)=iv)(c:PySem.W.kitMeta n=ig)(d:(fastBuiltinMro t).map (·.contains (i1.type n))=ia b):EW K t n b:=by unfold EW PySem.W.kitOne;rw [if_neg (by rw [a];exact zzf)];show(if PySem.W.kitMeta n=ig then PySem.W.subIn K (.type t) (.type n) else ie)=ia b;rw [if_pos c];exact d
end
noncomputable abbrev Vp:Str:="#0123456789"
end Cw
namespace L2
open PySem.Spec PyProof.Rows
def KT.drop{a:List (List bj×V)}{xs:List (List bj×i6×i1)}(r:KT H a xs)(k:List bj):KT H (gA a k) (xs.filter λx=>decide (x.1≠k)):=by
 unfold gA
 induction r with
 |nil=>exact .nil|@cons p q c qs h t b=>
  rw [hL,hL,<-h.1];split
  .exact .cons h b
  .exact b
def KT.len{a:List (List bj×V)}{xs:List (List bj×i6×i1)}(r:KT H a xs):a.length=xs.length:=Paired.length r
section
variable{aa:mn}{s:i2}{b:i6}{ay:List (List bj×V)}{k:List bj}{E:ml}
def KL{Q:ml}(I:zv2 s)(e:Rd H a (.dT ay))(h:∀t s',Inv X aa σ H s'->Q (.int ay.length t) s'):jk (kn X.prog X.w) A (call (.builtin "len") [.ref a]) Q E s:=by let(z,d,xs,c,f):=mS I.aM e;refine Lp d f (by rw [<-c.len];rw [sizeLine_eq] at z;omega) ?_;rw [<-c.len];exact h _ _ (I.tok _)
def KN{v:V}{Q:ml}(r:A.units+3<cLine)(I:zv2 s)(e:H a=ia (.dT ay))(t:cF H b k)(l:gL ay k=ia v)
 (h:∀f s',Inv X aa σ (upd H a (.dT (gA ay k))) s'->RelV v f->Q f s'):jk (kn X.prog X.w) A (call (.builtin "dict.pop") [.ref a,.ref b]) Q E s:=by
 let(z,u,xs,d,i):=Jq I.aM e;let(f,y,B):=lB.some_of (v:=v) (o:=(atKey xs k).map (·.2)) (by rw [<-l];exact d.val k);let(p,C,g):=c4.mp y;refine call_meetsIn PySem.F.slot_dict_pop i.typeIs PySem.F.entry_dict_pop (PySem.F.args_dict_pop_2 _ _) (q8 (knd:=ic X.prog X.w) a b) {d9 r,k,xs,p,kH I.aM t,i,by rw [<-d.len];exact z,C,λP D hs=>?_};rw [g];let(q,G,K,j,L,M,N,_,O):=D;refine h f _ (ju I (by rw [e];exact True.intro) hs ⟨q,j⟩ {eg (B7 ay k) z,u,_,(d.drop k).keeps λc R m=>?_,q,G,K,j,L,M,N,O}) B;rw [ae (j1 m e nofun)];exact m
def Inv.freeze(I:zv2 s)(e:H a=ia (.dT ay)):∃o,Inv X aa σ (upd H a (.bq o (.dT ay))) s:=by let(z,h,xs,d,o,i,j,f,m,p,q,r):=(show bO X.prog X.w H s.heap a (.dT ay) from I.aM a _ e);refine{o,ju (h':=s.heap) (t':=s.toks) I (by rw [e];exact True.intro) {rfl,λZ Z=>rfl} ⟨o,f⟩ {f,z,h,xs,?_,o,i,j,f,m,p,q,r}};exact KT.keeps (H:=H) d λc t g=>by rw [ae (j1 g e nofun)];exact g
end
abbrev RK(a:i6)(o:Obj)(c:List (List bj×V)):It:=
 {λi H=>H a=ia (.bq o (.dT c))/\i<c.length,λi H x d=>d=H/\∃b k v,x=.ref b/\c[i]?=ia (k,v)/\cF H b k,λi H=>H a=ia (.bq o (.dT c))/\c.length<=i}
def wL{c d:Type}{R:c->d->Prop}{l:List c}{m:List d}(r:Paired R l m):∀{i:Nat} {p:c} {q:d},l[i]?=ia p->m[i]?=ia q->R p q:=by
 induction r with
 |nil=>intro i p q h;simp at h|cons h t e=>
  intro i p q a b;cases i with
  |zero=>simp at a b;subst a b;exact h|succ i=>simp at a b;exact e a b
def Jr{d:List (List bj×V)}(x:bO P w H h a (.dT d)):(a==sysModules)=iv/\(d.map (·.1)).Nodup/\∃o c f,h.get? a=ia o/\o.ExactDict/\o.data=.dict c f/\c.size=d.length/\∀(i:Nat) (j:i<c.size),∃b k v,c[i].key=.ref b/\d[i]?=ia (k,v)/\cF H b k/\RelV v c[i].val:=by
 let(z,s,xs,e,o,c,f,u,y,A,g,m):=x;have hl:c.size=xs.length:=size_of_entries g;have p:d.length=xs.length:=Paired.length e
 have B:d.map (·.1)=xs.map (·.1):=by
  clear hl p g m z
  induction e with
  |nil=>rfl|cons h t C=>rw [bf,bf,h.1,C]
 refine{s,B▸m,o,c,f,u,y,A,hl.trans p.symm,λi j=>?_};have r:c[i]?=(xs[i]?).map (entryOfKey (ic P w)):=entry_at g i;rw [zzg (show i<xs.length by omega),Array.getElem?_eq_getElem j] at r;have q:=wL e (zzg (show i<d.length by omega)) (zzg (show i<xs.length by omega));rw [zzq r];exact{_,_,_,rfl,zzg (show i<d.length by omega),q.2.1,q.2.2}
def mP{m:mn}{p:St}{s:i2}{d:List (List bj×V)}(I:Inv X m p H s)(e:H a=ia (.bq o (.dT d))):
 (a==sysModules)=iv/\s.heap.get? a=ia o/\o.ExactDict/\∃c f,o.data=.dict c f/\c.size=d.length/\∀(i:Nat) (h:i<c.size),∃b k v,c[i].key=.ref b/\d[i]?=ia (k,v)/\cF H b k:=by
 let(g,ok):=(show bO X.prog X.w H s.heap a (.bq o (.dT d)) from I.aM a _ e);let(q,_,B,c,f,j,r,t,hl,hk):=Jr ok;rw [g] at j;cases j;exact{q,g,r,c,f,t,hl,λi u=>let⟨b,k,v,y,z,A,_⟩:=hk i u;⟨b,k,v,y,z,A⟩}
def Bb{K:zz8}{Y:jj}{it:i6}{j:Array DictEntry}{N:Nat}{O:List (List bj×V)}(hd:o.data=.dict j N)(hl:j.size=O.length):
 Turn P w K Y (RK a o O) [it] it (λi h=>h.IsKeyIter it a i j.size N) where
 mem:=by simp
 obj:=λi h st b f=>by have e:b=it:=zx6 f;subst e;let(q,e,c,d):=st;exact{q,e,λv z=>by rw [d] at z;cases z}
 keep:=λi h m st k=>st.at λo e=>k it (by simp) o e
 item:=by
  intro X r t hK Q i R s S H E I p st u;subst r t hK;let(y,Z):=u;let(lo,A,hx,B,C,g,oR,T):=mP I y;rw [hd] at g;cases g;let(D,F,f2,G,L,M):=p it (by simp);have U:i<j.size:=by omega
  refine q9 st A hd U λm W sb=>?_;let(b,k,v,e1,e2,e3):=T i U;have I1:Inv X R S H {s with heap:=m}:=I.turned (t':=s.toks) (λb o f e=>(sb.2 b f).trans e) D F G L M;let(q,e,c,d):=id W;refine{_,rfl,ud (s:={s with heap:=m}) e c d (by decide) {.ref b,H,I1,?_,⟨rfl,b,k,v,rfl,e2,e3⟩,W,λb f=>(p b f).1}};rw [e1];exact rfl
 done:=by intro X r t hK Q i R s S H E I p st u;subst r t hK;let(y,Z):=u;let(lo,A,hx,B,C,g,oR,T):=mP I y;rw [hd] at g;cases g;let(D,F,f2,G,L,M):=p it (by simp);exact CA (I.ok.hd Q) st A hd (by omega) λm eb=>{rfl,I.turned (t':=s.toks) (λb o f e=>eb b o f e) D F G L M}
 self:=λ_ _ _ _ _ st h=>wpAny_pyIter_keyiter st h
abbrev Tf(d:TE):TI:=λe H R=>d e H λx b=>∃a o c,x=.ref a/\b a=ia (.bq o (.dT c))/\R (RK a o c) b
section
variable{o:jj}{apos bJ:Pos}{td ty:TE}
def MB{j l:jj}{g:TE}(hl:PE X l g):PI X j l (Tf g):=by intro k s m H R I h;refine bL (hl k s m H _ I h) λv c f=>?_;let(x,p,d,r,t):=f;let(a,o,C,e,u,q):=t;subst e;cases r;let(w,y,z,D,E,i,A,F):=mP d u;refine xX w y z i ?_;refine{(zz9 c),[(zz9 c)],_,_,p,rfl,d.kept (t':=c.toks) λb o e=>a5 _ e,Bb i A,{_,et _ rfl,rfl,rfl},λb B=>?_,q};have e:b=(zz9 c):=zx6 B;subst e;exact d.jy (bc _) (d.aM.fresh (bc _))
abbrev Qm(td ty:TE):TE:=λf H Q=>td f H λx g=>∃a,x=.ref a/\Jf g a/\ty f g λy c=>∃d k b v,c a=ia (.dT d)/\y=.ref b/\cF c b k/\gL d k=ia v/\Q v (upd c a (.dT (gA d k)))
def Ij(j:X.A.units+3<cLine)(p:PE X o td)(he:PE X e ty)(m:M1 X o "pop" apos e bJ):PE X (.Call (.Attribute o "pop" apos) [e] [] bJ) (Qm td ty):=by intro f s g H Q I h;refine wpAny_Call_method m.base m.VO m.line PySem.F.plainAttrs_dict PySem.F.slot_dict_pop PySem.F.type_dict_pop (bL (p f s g H _ I h) λu q c=>?_);let(x,r,i,t,a,ex,d,w):=c;subst ex;obtain rfl:u=i1.ref a:=t;let(z,B,_):=LI i d;refine{z,B,?_};rw [m.trees];refine Calls.callWith_builtin rfl (Calls.evalArgs_plain (Calls.spliced_cons (bL (he f q g r _ i w) λC P ⟨y,R,D,E,S,k,b,v,G,K,L,l,M⟩=>Calls.spliced_nil ?_)));subst K;cases(show C=i1.ref b from E);exact KN j D G L l λT U N O=>{v,_,N,O,M}
end
end L2
namespace L2
open PySem.Spec PyProof.Rows PySem.W
section
variable{n:Nat}(h0:0<n)
include h0
end
end L2
namespace L2
open PySem.Spec PyProof.Rows
section
variable{d:i6}
def fK.oN{K:zz8}{f:Hp}{xs:List V}(h:fK K H a xs)(e:∀b,b≠d->f b=H b){c:List (List bj×V)}(hd:H d=ia (.dT c)):fK K f a xs:=by
 rcases h with(h|⟨o,h⟩)|h
 .exact .inl (.inl (by rw [e a (j1 h hd nofun)];exact h))
 .exact .inl (.inr {o,by rw [e a (j1 h hd nofun)];exact h})
 .exact .inr h
end
open PySem.W (hideAll hideAll_get of_hideAll funFrames_hide)
structure E8(P:jm)(w:kd)(outer:List Env)(H:Hp)(s:i2)(E:XK)(a C t:i6)(vs:List i1)(H':Hp)(B:kB)(s':i2):Prop where
 os:s'.os=s.os
 bare:AllBare s'.gens
 aM:eL P w H' B
 ER:kB.FlyingW B outer a (.ref C) (.ref t) s'.heap
 tn:B.get? t=ie
 tup:s'.heap.TupAt t vs
 eX:∀b o,s.heap.get? b=ia o->H b=ie->b∉ft outer->B.get? b=ia o
 dC:∀b o,s.heap.get? b=ia o->b∉ft outer->∃o',B.get? b=ia o'
 un:Un (ft outer) [] H H' s.heap s'.heap
 ends:E (.ref C) (ia a) H'
abbrev eK(P:jm)(w:kd):Bi:=λouter H s E e b=>∃a C t c d B,e=.ref a/\E8 P w outer H s E a C t c d B b
section
variable{K:zz8}{scope:kv}{f:i6}{cd:i1}{s0:i2}{E:XK}
def kQ{a:mn}{c:St}{s:i2}(I:Inv X a c H s){b:i6}(hl:X.env.locals=X.s₀.heap.objs.size)(q:X.s₀.heap.get? b=ia o)(d:b∉X.fs):b∉ft X.stack:=λz=>by
 rcases fP.mp (I.iq b z) with e|e
 .rw [hl] at e;exact absurd (dn q) (by rw [e];exact Nat.lt_irrefl _)
 .exact d e
def PJ:Passes (eK P w) (zv0 E) E:=by
 rintro S σ H s e T I ⟨a,C,t,r,y,B,rfl,F⟩
 have nx:∀b:i6,b∉(zv0 E).ex:=λb z=>nomatch (show b∈([]:List i6) from z);have eX:∀b o,s0.heap.get? b=ia o->H0 b=ie->b∉ft outer->B.get? b=ia o:=λb o q n c=>F.eX b o (I.base.keep b o q n c (nx b)) (I.base.free b o q n (nx b)) (kQ I rfl q c);have dC:∀b o,s0.heap.get? b=ia o->b∉ft outer->∃g,B.get? b=ia g:=λb o q c=>by let(D,d):=I.base.there b o q (nx b);exact F.dC b D d (kQ I rfl q c)
 refine wpAny_leaves_onW I.ok.frames rfl F.ER λG j m=>{a,C,t,r,y,B,rfl,?_};have slot:∀b o,s0.heap.get? b=ia o->H0 b=ie->b∈ft outer->∃h,G.get? b=ia {o with slots:=h}:=λb o q n c=>by let(h,d):=I.base.slot b o q n c (nx b);let(L,i):=F.un.any d (I.base.free b o q n (nx b)) nofun;let(_,g,p,hd):=F.ER.2.2.1.mem (b:=b) (hI.mpr (let⟨v,M,O⟩:=hI.mp c;{v,.tail _ M,O}));rw [i] at p;cases p;let(k,Q):=m b _ i hd;exact⟨k,Q⟩
 refine{F.os.trans I.os,F.bare,F.aM,j,F.tn,F.tup.of_slots m,eX,dC,{λb o q n c Z=>j.1 _ _ (eX b o q n c),λb o q n c Z=>slot b o q n c,λb o q n Z=>?_,λb o q Z=>?_,λb xs q=>F.un.iO _ _ (I.base.iO _ _ q),λb o u q=>F.un.gf _ _ _ (I.base.gf _ _ _ q),λb R q=>?_},F.ends}
 .let(h,d):=I.base.any q n (nx b);exact F.un.free b _ d (I.base.free b o q n (nx b)) nofun
 .by_cases c:b∈ft outer
  .let(h,d):=slot b o q (I.ok.zX b c) c;exact{_,d}
  .let(g,d):=dC b o q c;exact{g,j.1 _ _ d}
 .let(m1,d):=I.base.ir b R q;let(m2,i):=F.un.ir b _ d;exact{m1++m2,by rw [<-Array.append_assoc];exact i}
def MN{D:mn}{F:St}{s:i2}{g:kB}{e C:i6}(I:Inv (zv0 E) D F H s)
 (y:kB.MadeExcOf s.heap g e (.ref C) us) (G:E (.ref C) (ia e) H):(zv0 E).xe (.ref e) {s with heap:=g}:=by
 have nx:∀b:i6,b∉(zv0 E).ex:=λb z=>nomatch (show b∈([]:List i6) from z);have L:∀env∈(zv0 E).stack,∀b,env.frame=ia b->b∈ft (zv0 E).stack:=λenv M b a=>hI.mpr ⟨env,M,a⟩;refine wpAny_leaves_madeW (h:=s.heap) I.ok.frames rfl (λb o q=>of_hideAll _ q) (funFrames_hide I.stack L) y λO t k Q R S=>{e,C,t,us,H,hideAll s.heap (ft (zv0 E).stack),rfl,?_};have eX:∀b o,s0.heap.get? b=ia o->H0 b=ie->b∉ft outer->(hideAll s.heap (ft (zv0 E).stack)).get? b=ia o:=λb o q n a=>hideAll_get _ (I.base.keep b o q n a (nx b)) (kQ I rfl q a);have dC:∀b o,s0.heap.get? b=ia o->b∉ft outer->∃i,(hideAll s.heap (ft (zv0 E).stack)).get? b=ia i:=λb o q a=>by let(T,d):=I.base.there b o q (nx b);exact{T,hideAll_get _ d (kQ I rfl q a)}
 have slot:∀b o,s0.heap.get? b=ia o->H0 b=ie->b∈ft outer->∃m,O.get? b=ia {o with slots:=m}:=λb o q n a=>by let(m,d):=I.base.slot b o q n a (nx b);let(_,i,B,hd):=I.stack.mem (b:=b) (hI.mpr (let⟨v,g,U⟩:=hI.mp a;{v,.tail _ g,U}));rw [d] at B;cases B;let(p,V):=S b _ (y.keeps _ _ d) hd;exact⟨p,V⟩
 refine{I.os,I.bare,λb o q=>?_,k,R,Q,eX,dC,{λb o q n a Z=>k.1 _ _ (eX b o q n a),λb o q n a Z=>slot b o q n a,λb o q n Z=>I.base.free b o q n (nx b),λb o q Z=>?_,I.base.iO,I.base.gf,I.base.ir},G}
 .refine(I.aM b o q).fe (λc v u r=>hideAll_get _ r λz=>?_) (λZ q=>q) λZ Z q=>q;have j:=I.me c z
  rcases u with rfl|u
  .rw [q] at j;cases j
  .rw [u] at j;cases j
 .by_cases a:b∈ft outer
  .let(m,d):=slot b o q (I.ok.zX b a) a;exact{_,d}
  .let(i,d):=dC b o q a;exact{i,k.1 _ _ d}
end
def lj{o:HO}(x:bO P w H h a o):∃b,h.get? a=ia b:=by
 cases o with
 |lst xs=>let(_,_,_,_,e):=x;exact{_,e}|tup xs=>let(_,_,_,o,e,_):=x;exact{_,e}|dK c=>let(_,_,_,_,o,_,_,e,_):=x;exact{_,e}|dT c=>let(_,_,_,_,o,_,_,e,_):=x;exact{_,e}|set S n=>let(o,_,_,_,e,_):=x;exact{_,e}|ins C d fs=>let(_,_,_,e,_):=x;exact{_,e}|own y=>exact x|xd fs=>let(_,(_,_,_,e,_),_):=x;exact{_,e}|va lo g=>let(_,_,_,e):=x;exact{_,e}|bq i u=>let(e,_):=x;exact{_,e}|gK j=>exact{_,x}|met f y=>exact{_,x}|ext k=>exact x.2.1
abbrev Nb(C:i6)(E:XK)(b:TA):TS:=λZ c H=>b c H λd a=>d.length<=k6/\∀e,a e=ie->E (.ref C) (ia e) a
section
variable{K:zz8}{scope:kv}{f:i6}{cd:i1}{s0:i2}{E:XK}
theorem D5{C:i6}{u b B:String}{bm:List i1}{a:jj}{rest:List jj}{d:Pos}{j:TA}(F:Gl (zv0 E) x)(O:OwnCls x C bm b mg base)(k:ExcBaseFacts u b B bm)
 (G:PA (zv0 E) (a::rest) j)
 (he:starEach (a::rest) (zv0 E).env=(iv,eval a (zv0 E).env)::starEach rest (zv0 E).env:=by rfl)
 (hplain:(backTo d (starEach rest (zv0 E).env)).any (·.1)=iv:=by rfl) (hd:(x==(zu 16:Str))=iv:=by decide) (L:A.handled.isNone=ig):
 PS (zv0 E) (.Raise (ia (.Call (.Name x np) (a::rest) [] d)) ie pos) (Nb C E j):=by
 intro M s Q H D I h;let(R,S,nm,q,bs,hdct,sn,sub,ab,col,dd,k0,k1,k2,k3,k5,mN,hC,hN,g,T):=O.obj
 refine wpAny_Raise_call_subT (C:=C) (nm:=nm) (q:=q) (N:=S) (bs:=bs) (bm:=R) (hdct:=hdct) (sn:=sn) (sub:=sub) (ab:=ab) (col:=col) (dd:=dd) (k0:=k0) (k1:=k1) (k2:=k2) (k3:=k3) (k5:=k5)
  k (mN:=mN) (T.hasType k.hasBase) (I.ok.hd L) (by rw [he];show(iv||(backTo d (starEach rest (zv0 E).env)).any (·.1))=iv;rw [hplain];rfl) g (iF I F O.bound {rfl,?_} hd)
 have m:=G d M s Q H _ I h;rw [he] at m⊢;refine Calls.evalArgs_plain (wpAny_mono m (λY U i=>?_) λ_ _ y=>y);let(Z,V,c,W,hl,X):=i;refine{rfl,by rw [<-W.length];exact hl,c.bk _ _ hC,hN.keeps c.bk,T.keeps c.bk,λh1 e p=>MN c p (X e ?_)}
 cases z:V e with
 |none=>rfl|some o=>
  obtain⟨r,t⟩:∃r,U.heap.get? e=ia r:=by exact lj (c.aM _ _ z)
  rw [p.new] at t;cases t
end
noncomputable abbrev bA:HO:=.ext λZ=>True
def mF(e:h.get? a=ia o):bO P w H h a (.bq o bA):={e,trivial,⟨o,e⟩,λZ Z Z Z=>trivial}
abbrev aK(Z:mn)(H:Hp):Hp:=λb=>match Z.lookup b with
 |some o=>ia (.bq o bA)|none=>H b
abbrev aO(Z:mn)(H:Hp):Hp:=λb=>match Z.lookup b with
 |some _=>ie|none=>H b
section
variable{Z:mn}{H':Hp}{b:i6}
def ba(e:Z.lookup b=ia o):aK Z H b=ia (.bq o bA):=by unfold aK;rw [e]
def af(e:Z.lookup b=ie):aK Z H b=H b:=by unfold aK;rw [e]
def e9(e:Z.lookup b=ia o):aO Z H b=ie:=by unfold aO;rw [e]
def ax(e:Z.lookup b=ie):aO Z H b=H b:=by unfold aO;rw [e]
def fb{u:HO}(e:aO Z H b=ia u):Z.lookup b=ie/\H b=ia u:=by
 cases q:Z.lookup b with
 |none=>rw [ax q] at e;exact⟨rfl,e⟩|some o=>rw [e9 q] at e;cases e
def i9(h:H b=ie):aO Z H b=ie:=by
 cases q:Z.lookup b with
 |none=>rw [ax q];exact h|some o=>exact e9 q
structure sL(Z:mn)(H:Hp)(fs:List i6)(h:kB):Prop where
 at_:∀b o,Z.lookup b=ia o->h.get? b=ia o
 no:∀b o,Z.lookup b=ia o->H b=ie
 fr:∀b o,Z.lookup b=ia o->b∉fs
variable{fs:List i6}
theorem sL.aM(z:sL Z H fs h)(k:eL P w H h):eL P w (aK Z H) h:=λb u e=>by
 cases q:Z.lookup b with
 |some o=>rw [ba q] at e;cases e;exact mF (z.at_ b o q)
 |none=>
  rw [af q] at e;have a:∀c v,H c=ia v->Z.lookup c=ie:=λc v d=>by
   cases y:Z.lookup c with
   |none=>rfl|some o=>rw [z.no c o y] at d;cases d
  exact(k b u e).fe (λc v Y r=>r) (λc r=>by rw [af (a c _ r)];exact r) λc xs r=>by rw [af (a c _ r)];exact r
def sL.sk(z:sL Z H fs h)(u:Un fs [] (aK Z H) H' h h')(k:eL P w H' h'):Un fs [] H (aO Z H') h h'/\eL P w (aO Z H') h':=by
 have i:∀b o,Z.lookup b=ia o->H' b=ia (.bq o bA):=λb o q=>u.gf b o _ (ba q);have p:∀b o,Z.lookup b=ia o->h'.get? b=ia o:=λb o q=>(k b _ (i b o q)).1
 have d:∀c v,H c=ia v->Z.lookup c=ie:=λc v j=>by
  cases y:Z.lookup c with
  |none=>rfl|some o=>rw [z.no c o y] at j;cases j
 refine{{λb o e n f a=>?_,λb o e n f a=>?_,λb o e n a=>?_,λb o e a=>u.there b o e a,λb xs e=>?_,λb o v e=>?_,λb s e=>?_},λb v e=>?_}
 .cases q:Z.lookup b with
  |some g=>have m:=z.at_ b g q;rw [e] at m;cases m;exact p b o q
  |none=>exact u.keep b o e (by rw [af q];exact n) f a
 .cases q:Z.lookup b with
  |some g=>exact absurd f (z.fr b g q)|none=>exact u.slot b o e (by rw [af q];exact n) f a
 .cases q:Z.lookup b with
  |some g=>exact e9 q|none=>rw [ax q];exact u.free b o e (by rw [af q];exact n) a
 .rw [ax (d b _ e)];exact u.iO b xs (by rw [af (d b _ e)];exact e)
 .rw [ax (d b _ e)];exact u.gf b o v (by rw [af (d b _ e)];exact e)
 .rw [ax (d b _ e)];exact u.ir b s (by rw [af (d b _ e)];exact e)
 .let(q,t):=fb e;refine(k b v t).fe (λc y Y r=>r) (λc r=>?_) λc xs r=>?_
  .cases y:Z.lookup c with
   |none=>rw [ax y];exact r|some o=>rw [i c o y] at r;cases r
  .cases y:Z.lookup c with
   |none=>rw [ax y];exact r|some o=>rw [i c o y] at r;cases r
def sL.zd(z:sL Z H fs h)(u:Un fs [] H H' h h')(k:eL P w H' h'):Un fs [] (aK Z H) (aK Z H') h h'/\eL P w (aK Z H') h':=by
 have i:∀b o,Z.lookup b=ia o->h'.get? b=ia o:=λb o q=>u.keep b o (z.at_ b o q) (z.no b o q) (z.fr b o q) nofun;have j:∀b o,Z.lookup b=ia o->H' b=ie:=λb o q=>u.free b o (z.at_ b o q) (z.no b o q) nofun
 have f:∀c v,H' c=ia v->Z.lookup c=ie:=λc v g=>by
  cases y:Z.lookup c with
  |none=>rfl|some o=>rw [j c o y] at g;cases g
 have nw:∀b,aK Z H b=ie->Z.lookup b=ie/\H b=ie:=λb e=>by
  cases q:Z.lookup b with
  |some o=>rw [ba q] at e;cases e
  |none=>rw [af q] at e;exact⟨rfl,e⟩
 refine{{λb o e n d a=>u.keep b o e (nw b n).2 d a,λb o e n d a=>u.slot b o e (nw b n).2 d a,λb o e n a=>?_,λb o e a=>u.there b o e a,λb xs e=>?_,λb o v e=>?_,λb m e=>?_},λb v e=>?_}
 .rw [af (nw b n).1];exact u.free b o e (nw b n).2 a
 .cases q:Z.lookup b with
  |some o=>rw [ba q] at e;cases e
  |none=>rw [af q] at e⊢;exact u.iO b xs e
 .cases q:Z.lookup b with
  |some p=>rw [ba q] at e⊢;exact e|none=>rw [af q] at e⊢;exact u.gf b o v e
 .cases q:Z.lookup b with
  |some o=>rw [ba q] at e;cases e
  |none=>rw [af q] at e⊢;exact u.ir b m e
 .cases q:Z.lookup b with
  |some o=>rw [ba q] at e;cases e;exact mF (i b o q)
  |none=>rw [af q] at e;exact(k b v e).fe (λc y Y r=>r) (λc r=>by rw [af (f c _ r)];exact r) λc xs r=>by rw [af (f c _ r)];exact r
variable{K:zz8}{s s':i2}
theorem iV.aK(e:iV P w K mg base A outer s H)(z:sL Z H (ft outer) s.heap)(d:∀b o,Z.lookup b=ia o->base.get? b=ie):iV P w K mg base A outer s (aK Z H) where
 frames:=e.frames
 mod:=e.mod
 bs:=λb o q=>{(e.bs b o q).1,by
  cases y:Z.lookup b with
  |some a=>rw [d b a y] at q;cases q
  |none=>rw [af y];exact(e.bs b o q).2}
 zv:=e.zv
 gE:=e.gE
 zX:=λb c=>by
  cases y:Z.lookup b with
  |some a=>exact absurd c (z.fr b a y)|none=>rw [af y];exact e.zX b c
 aM:=z.aM e.aM
 bare:=e.bare
def CE.less{u:i1}(z:sL Z H (ft outer) s.heap)(h:CE outer P w (aK Z H) s (λv H'=>Q v (aO Z H')) u s'):CE outer P w H s Q u s':=by let(v,H',os,bare,un,aM,r,q):=h;let(a,c):=z.sk un aM;exact{v,_,os,bare,a,c,r,q}
def CE.more{u:i1}(z:sL Z H (ft outer) s.heap)(h:CE outer P w H s (λv H'=>(∀b o,Z.lookup b=ia o->H' b=ie)->Q v (aK Z H')) u s'):CE outer P w (aK Z H) s Q u s':=by let(v,H',os,bare,un,aM,r,q):=h;let(a,c):=z.zd un aM;exact{v,_,os,bare,a,c,r,q λb o y=>un.free b o (z.at_ b o y) (z.no b o y) nofun}
def eK.less{E:XK}{e:i1}(z:sL Z H (ft outer) s.heap)(h:eK P w outer (aK Z H) s (λC a H'=>E C a (aO Z H')) e s'):eK P w outer H s E e s':=by
 let(a,C,t,g,H',B,rfl,F):=h;have d:∀b o,Z.lookup b=ia o->H' b=ia (.bq o bA):=λb o q=>F.un.gf b o _ (ba q)
 have i:∀b o,s.heap.get? b=ia o->H b=ie->b∉ft outer->B.get? b=ia o:=λb o e n j=>by
  cases q:Z.lookup b with
  |some k=>have f:=z.at_ b k q;rw [e] at f;cases f;exact(F.aM b _ (d b o q)).1
  |none=>exact F.eX b o e (by rw [af q];exact n) j
 have hB:eL P w (aO Z H') B:=λb v e=>by
  let(q,m):=fb e;refine(F.aM b v m).fe (λc y Y r=>r) (λc r=>?_) λc xs r=>?_
  .cases y:Z.lookup c with
   |none=>rw [ax y];exact r|some o=>rw [d c o y] at r;cases r
  .cases y:Z.lookup c with
   |none=>rw [ax y];exact r|some o=>rw [d c o y] at r;cases r
 have hs:eL P w H' s'.heap:=λb v e=>(F.aM b v e).fe (λc y Y r=>F.ER.1 _ _ r) (λY r=>r) λY Y r=>r;let(p,_):=z.sk (P:=P) (w:=w) F.un hs;exact{a,C,t,g,_,B,rfl,⟨F.os,F.bare,hB,F.ER,F.tn,F.tup,i,F.dC,p,F.ends⟩}
def eK.more{E:XK}{e:i1}(z:sL Z H (ft outer) s.heap)(h:eK P w outer H s (λC a H'=>(∀b o,Z.lookup b=ia o->H' b=ie)->E C a (aK Z H')) e s'):eK P w outer (aK Z H) s E e s':=by
 let(a,C,t,i,H',B,rfl,F):=h;have j:∀b o,Z.lookup b=ia o->B.get? b=ia o:=λb o q=>F.eX b o (z.at_ b o q) (z.no b o q) (z.fr b o q);have d:∀b o,Z.lookup b=ia o->H' b=ie:=λb o q=>F.un.free b o (z.at_ b o q) (z.no b o q) nofun
 have f:∀c v,H' c=ia v->Z.lookup c=ie:=λc v g=>by
  cases y:Z.lookup c with
  |none=>rfl|some o=>rw [d c o y] at g;cases g
 have hB:eL P w (aK Z H') B:=λb v e=>by
  cases q:Z.lookup b with
  |some o=>rw [ba q] at e;cases e;exact mF (j b o q)
  |none=>rw [af q] at e;exact(F.aM b v e).fe (λc y Y r=>r) (λc r=>by rw [af (f c _ r)];exact r) λc xs r=>by rw [af (f c _ r)];exact r
 have hs:eL P w H' s'.heap:=λb v e=>(F.aM b v e).fe (λc y Y r=>F.ER.1 _ _ r) (λY r=>r) λY Y r=>r;let(k,_):=z.zd (P:=P) (w:=w) F.un hs;refine{a,C,t,i,_,B,rfl,{F.os,F.bare,hB,F.ER,F.tn,F.tup,λb o e n m=>F.eX b o e ?_ m,F.dC,k,F.ends d}}
 cases q:Z.lookup b with
 |some o=>rw [ba q] at n;cases n
 |none=>rw [af q] at n;exact n
end
structure mw(ps ys:List Str)(scope:kv):Prop where
 kind:scope.kind=.function
 co:scope.isCoroutine=iv
 gen:scope.isGenerator=iv
 nd:(ps++ys).Nodup
 Dx:∀x∈scope.names,x.2≠.cell
 par:∀x∈ps,scope.names.lookup x=ia .local
 OJ:∀y∈ys,scope.names.lookup y=ia .free
 Ko:∀x,scope.names.lookup x=ia .free->x∈ys
noncomputable def Ft(P:jm)(w:kd)(K:zz8)(mg:Str->Option i1)(base:kB)(N:List Str)(qual:Str)(a:kv)(f:i6)(cd:i1)(cl:List (Str×i6))(A:ku)(outer:List Env)(s:i2)(H:Hp)(E:XK):Cx where
 prog:=P
 w:=w
 K:=K
 mg:=mg
 base:=base
 A:=A.deeper (PySem.W.envX qual a (zz9 s) f cd cl)
 N:=N
 s₀:=s
 H₀:=H
 env:=PySem.W.envX qual a (zz9 s) f cd cl
 outer:=outer
 stack:=PySem.W.envX qual a (zz9 s) f cd cl::outer
 ex:=[]
 calm:=A.handled.isNone
 fn:=λZ=>iv
 pn:=[]
 xe:=λe c=>jk (kn P w) (A.deeper (PySem.W.envX qual a (zz9 s) f cd cl)) (leaving (PySem.W.envX qual a (zz9 s) f cd cl) e) (λZ b=>eK P w outer H s E e b) (λd b=>eK P w outer H s E d b) c
theorem p7{a:Type}:∀{l:List (Str×a)} {x:Str} {v:a},(l.map (·.1)).Nodup->(x,v)∈l->l.lookup x=ia v
 |(y,u)::r,x,v,nd,h=>by
  rw [bf,List.nodup_cons] at nd;rw [hV];rcases fP.mp h with e|e
  .cases e;simp
  .have b:(x==y)=iv:=beq_eq_false_iff_ne.mpr λz=>nd.1 (by subst z;exact List.mem_map_of_mem (f:=(·.1)) e);rw [b];exact p7 nd.2 e
def oD{ps:List Str}{i:Nat}{u:i1}(nd:ps.Nodup)(a:ps[i]?=ia x)(b:us[i]?=ia u):(ps.zip us).reverse.lookup x=ia u:=by
 have hs:∀{ps:List Str} {us:List i1},List.Sublist ((ps.zip us).map (·.1)) ps:=λ{ps us}=>by
  induction ps generalizing us with
  |nil=>simp|cons p ps c=>
   cases us with
   |nil=>simp|cons q us=>simpa using c
 refine p7 ?_ ?_
 .rw [List.map_reverse];exact List.pairwise_reverse.mpr ((nd.sublist hs).imp λh=>Ne.symm h)
 .rw [List.mem_reverse];refine a9 (i:=i) ?_;rw [List.getElem?_zip_eq_some];exact⟨a,b⟩
section
variable{K:zz8}{ps ys:List Str}{scope:kv}{f:i6}{cd:i1}{cl:List (Str×i6)}{s:i2}{E:XK}
def v7{ws:List V}{tk:Nat}(S:mw ps ys scope)(g:iV P w K mg base A outer s H)(C:∀y∈ys,∃c,cl.lookup y=ia c)(inj:∀x y c,cl.lookup x=ia c->cl.lookup y=ia c->x=y)
 (r:Vals vs us) (hl:vs.length=ps.length) (I:ws.length=ys.length) (cells:∀(i:Nat) y c,ys[i]?=ia y->cl.lookup y=ia c->∀v,ws[i]?=ia v->∃u,RelV v u/\s.heap.IsCell c (ia u)) (L:∀x c,cl.lookup x=ia c->∃v,s.heap.IsCell c v)
 (M:∀x c,cl.lookup x=ia c->H c=ie) (ns:h'.Ns (zz9 s) (λx=>(ps.zip us).reverse.lookup x)) (hk:∀b o,s.heap.get? b=ia o->h'.get? b=ia o):
 Inv (Ft P w K mg base (ps++ys) qual scope f cd cl A outer s H E) [] (vs.map ia++ws.map ia) H {s with heap:=h',toks:=tk}:=by
 have q:∀b:i6,b∉(Ft P w K mg base (ps++ys) qual scope f cd cl A outer s H E).ex:=λb z=>absurd (show b∈([]:List i6) from z) (by simp);have D:∀c v,s.heap.IsCell c v->h'.IsCell c v:=λc v ⟨o,N,hd⟩=>{o,hk c o N,hd}
 refine{{g.mod,S.kind,rfl,rfl,bc _,inj,λx k=>?_,(λx c z=>nomatch z),λz=>Option.isNone_iff_eq_none.mp z,ku.frames_deeper g.frames,.inr ⟨rfl,rfl⟩,λb z=>absurd z (q b),g.bs,g.zv,λb Z Z=>q b,λb z=>absurd z (q b),g.gE,g.zX},
  rfl,g.bare,Un.kept hk,{_,ns,λi x v j d Q=>?_},λx c h=>let⟨v,z⟩:=L x c h;{v,D c v z},g.aM.fresh (bc _),M,λp m=>absurd (show p∈([]:mn) from m) (by simp),g.aM.kept hk,?_}
 .have k:scope.names.lookup x=ia .cell\/scope.names.lookup x=ia .free:=k
  rcases k with k|k
  .exact absurd rfl (S.Dx _ (PySem.mem_of_lookup k))
  .exact C x (S.Ko x k)
 .have j:(ps++ys)[i]?=ia x:=j;by_cases F:i<vs.length
  .rw [gR (zx6 F),d0] at d;have t:vs[i]?=ia v:=by
    cases e:vs[i]? with
    |none=>rw [e] at d;cases d
    |some a=>rw [e] at d;cases d;rfl
   let(u,O,B):=r.get t;have m:ps[i]?=ia x:=by rw [gR (by omega)] at j;exact j
   exact{u,B,.inl {S.par x (a9 m),oD (S.nd.sublist (List.sublist_append_left _ _)) m O}}
  .rw [gS (zx6 F),d0,zzl] at d;rw [gS (by omega)] at j;have t:ws[i-vs.length]?=ia v:=by
    cases e:ws[i-vs.length]? with
    |none=>rw [e] at d;cases d
    |some a=>rw [e] at d;cases d;rfl
   rw [<-hl] at j;let(c,G):=C x (a9 j);let(u,B,z):=cells _ x c j G v t;exact{u,B,.inr {.inr (S.OJ x (a9 j)),c,G,D c _ z}}
 .show _=(ps++ys).length;rw [dj,dj,zzl,zzl,hl,I]
def PK:Passes (eK P w) (Ft P w K mg base N qual scope f cd cl A outer s H E) E:=by
 rintro R σ H1 s1 e S I ⟨a,C,t,r,y,B,rfl,F⟩
 have nx:∀b:i6,b∉(Ft P w K mg base N qual scope f cd cl A outer s H E).ex:=λb z=>nomatch (show b∈([]:List i6) from z);have eX:∀b o,s.heap.get? b=ia o->H b=ie->b∉ft outer->B.get? b=ia o:=λb o q n c=>F.eX b o (I.base.keep b o q n c (nx b)) (I.base.free b o q n (nx b)) (kQ I rfl q c);have dC:∀b o,s.heap.get? b=ia o->b∉ft outer->∃g,B.get? b=ia g:=λb o q c=>by let(D,d):=I.base.there b o q (nx b);exact F.dC b D d (kQ I rfl q c)
 refine wpAny_leaves_onW I.ok.frames rfl F.ER λG j m=>{a,C,t,r,y,B,rfl,?_};have slot:∀b o,s.heap.get? b=ia o->H b=ie->b∈ft outer->∃h,G.get? b=ia {o with slots:=h}:=λb o q n c=>by let(h,d):=I.base.slot b o q n c (nx b);let(L,i):=F.un.any d (I.base.free b o q n (nx b)) nofun;let(_,g,p,hd):=F.ER.2.2.1.mem (b:=b) (hI.mpr (let⟨v,M,O⟩:=hI.mp c;{v,.tail _ M,O}));rw [i] at p;cases p;let(k,Q):=m b _ i hd;exact⟨k,Q⟩
 refine{F.os.trans I.os,F.bare,F.aM,j,F.tn,F.tup.of_slots m,eX,dC,{λb o q n c Z=>j.1 _ _ (eX b o q n c),λb o q n c Z=>slot b o q n c,λb o q n Z=>?_,λb o q Z=>?_,λb xs q=>F.un.iO _ _ (I.base.iO _ _ q),λb o u q=>F.un.gf _ _ _ (I.base.gf _ _ _ q),λb ps q=>?_},F.ends}
 .let(h,d):=I.base.any q n (nx b);exact F.un.free b _ d (I.base.free b o q n (nx b)) nofun
 .by_cases c:b∈ft outer
  .let(h,d):=slot b o q (I.ok.zX b c) c;exact{_,d}
  .let(g,d):=dC b o q c;exact{g,j.1 _ _ d}
 .let(m1,d):=I.base.ir b ps q;let(m2,i):=F.un.ir b _ d;exact{m1++m2,by rw [<-Array.append_assoc];exact i}
def rh{k:Nat}{d:lq}{M N:i1}{m:i6}{oc:Obj}{B:Array i1}{ct:Tok}{ws:List V}{Z:mn}{t:TE}
 (S:mw ps ys scope) (R:dq k A) (D:iV P w K mg base A outer s H) (z:sL Z H (ft outer) s.heap) (zb:∀b o,Z.lookup b=ia o->base.get? b=ie)
 (T:s.heap.get? f=ia (PySem.W.kla_obj (zu 1) qual d body scope cl M m N)) (U:s.heap.get? m=ia oc) (X:oc.data=.fields B) (Y:B[1]?=ia (.str qual ct))
 (hb:bindArgs (PySem.W.kla_fn (zu 1) qual d body scope cl M (.ref m) N) {us,[]}=pure (ps.zip us)) (r:Vals vs us) (hl:vs.length=ps.length) (hw:ws.length=ys.length)
 (JB:∀y∈ys,∃c,cl.lookup y=ia c) (inj:∀x y c,cl.lookup x=ia c->cl.lookup y=ia c->x=y)
 (cz:∀x c,cl.lookup x=ia c->∃o v,Z.lookup c=ia o/\o.data=.cell v)
 (cells:∀(i:Nat) y c,ys[i]?=ia y->cl.lookup y=ia c->∀v,ws[i]?=ia v->∃u,RelV v u/\s.heap.IsCell c (ia u))
 (ht:PE (Ft P w K mg base (ps++ys) qual scope f (.ref m) cl A outer s H (λC a j=>(∀b o,Z.lookup b=ia o->j b=ie)->E C a (aK Z j))) body t)
 (hq:t (vs.map ia++ws.map ia) H λv j=>(∀b o,Z.lookup b=ia o->j b=ie)->Q v (aK Z j)):
 codeAny (kn P w) A (.call (.ref f) {us,[]}) (CR (eK P w) outer P w (aK Z H) s Q E) s:=by
 have F:s.heap.NoLimit:=D.mod.nolimit.keeps λb o e=>(D.bs b o e).1;refine PySem.W.kla_callFunE R.depth T rfl S.co S.gen rfl ⟨m,oc,B,ct,rfl,U,X,Y⟩ ?_;rw [hb];refine b4 (wpAny_newFunctionEnv S.Dx (λy hy=>S.par y.1 (List.of_mem_zip hy).1) (λp Q6 G=>?_) S.kind);have g:∀b o,s.heap.get? b=ia o->p.get? b=ia o:=λb o e=>G.extBut b o (ew (dn e)) (a5 _ e)
 refine{F.keeps g,?_};show codeAny _ _ (.expr body (PySem.W.envX qual scope (zz9 s) f (.ref m) cl)) _ _;have I:=v7 (E:=λC a j=>(∀b o,Z.lookup b=ia o->j b=ie)->E C a (aK Z j)) (cd:=.ref m) (f:=f) (qual:=qual) (tk:=s.toks+(ps.zip us).length) S D JB inj r hl hw cells (λx c h=>by
  let(o,v,L,O):=cz x c h;exact{v,o,z.at_ c o L,O}) (λx c h=>by
  let(o,v,L,O):=cz x c h;exact z.no c o L) Q6 g
 refine PySem.W.kla_codeExpr (wpAny_mono (ht [] _ _ H _ I hq) (λu s' hs=>?_) λe s' hs=>?_)
 .let(v,j,J,rv,q):=hs;exact CE.more z ⟨v,j,J.os,J.bare,J.base,J.aM,rv,q⟩
 .exact wpAny_mono hs (λ_ Bp y=>eK.more z y) λe' Bp y=>eK.more z y
end
def vJ{p:Pos}{a b:Int}{c d:i1}:∀(l:List i1),TriplesOk l->codeAmong p (l++[rawInt a,rawInt b,c])=ia d->codeAmong p l=ia d\/d=c:=by
 intro l h e
 fun_induction TriplesOk l with
 |case1=>
  simp! [List.nil_append,codeAmong,rawInt] at e;split at e
  .cases e;exact .inr rfl
  .cases e
 |case2 i t j u x rest g=>
  simp! [List.cons_append,codeAmong] at e⊢;split at e
  .rename_i f;rw [if_pos f];exact .inl e
  .rename_i f;rw [if_neg f];exact g h e
 |case3 l k m=>exact h.elim
def Bs(mg:Str->Option i1)(base:kB):Prop:=∃bm o,mg "__builtins__"=ia (.ref bm)/\bm≠builtinsNs/\bm≠k8/\base.get? bm=ia o/\o.cls=.type "module"/\o.dict=ia builtinsNs/\o.data=.plain
abbrev hJ(H:Hp)(P:i6)(a:Array i1)(b:i6)(oc:Obj)(f:i6)(fo:Obj):Hp:=upd (upd (upd H P (.gK a)) b (.bq oc bA)) f (.bq fo bA)
section
variable{aa:mn}{s:i2}{c P c' f:i6}{ps uY:Array i1}{oc fo:Obj}
def Inv.lam{tk:Nat}(I:zv2 s)(g:H P=ia (.gK ps))(i:∀b o,b≠P->s.heap.get? b=ia o->h'.get? b=ia o)(p:h'.get? P=ia (PySem.W.tabObj uY))(more:∃m,uY=ps++m)
 (h:H c'=ie/\(zz9 s)<=c'\/H c'=ia (.bq oc bA)) (C:h'.get? c'=ia oc) (r:(zz9 s)<=f) (D:h'.get? f=ia fo) (L:c'≠f):
 Inv X aa σ (hJ H P uY c' oc f fo) {s with heap:=h',toks:=tk}:=by
 have fr:H f=ie:=I.aM.fresh r;have t:∀b u,H b=ia u->(∀q,u≠.gK q)->b≠P:=λb u e n z=>by subst z;rw [g] at e;cases e;exact n _ rfl
 have w:∀b u,H b=ia u->b≠f:=λb u e z=>by subst z;rw [fr] at e;cases e
 have E:c'≠P:=λz=>by
  subst z;rcases h with⟨e,_⟩|e
  .rw [g] at e;cases e
  .rw [g] at e;cases e
 have F:f≠P:=λz=>by subst z;rw [g] at fr;cases fr
 have at_:∀b u,H b=ia u->(∀q,u≠.gK q)->hJ H P uY c' oc f fo b=ia u:=λb u e n=>by
  unfold hJ;rw [ae (w b u e)];by_cases a:b=c'
  .subst a;rw [ak];rcases h with⟨z,_⟩|z
   .rw [z] at e;cases e
   .rw [z] at e;exact e
  .rw [ae a,ae (t b u e n)];exact e
 have no:∀b o,s.heap.get? b=ia o->H b=ie->hJ H P uY c' oc f fo b=ie:=λb o e n=>by
  have G:b≠f:=λz=>absurd (dn e) (by rw [z];exact Nat.not_lt.mpr r);have K:b≠P:=λz=>by subst z;rw [g] at n;cases n
  have j:b≠c':=λz=>by
   rcases h with⟨_,y⟩|y
   .exact absurd (dn e) (by rw [z];exact Nat.not_lt.mpr y)
   .rw [z,y] at n;cases n
  unfold hJ;rw [ae G,ae j,ae K];exact n
 have kp:∀b o,s.heap.get? b=ia o->H b=ie->h'.get? b=ia o:=λb o e n=>i b o (λz=>by subst z;rw [g] at n;cases n) e;refine I.un {λb o e n Z Z=>kp b o e n,λb o e n Z Z=>{o.slots,kp b o e n},λb o e n Z=>no b o e n,λb o e Z=>?_,λb xs e=>at_ b _ e (λZ z=>nomatch z),λb o u e=>at_ b _ e (λZ z=>nomatch z),λb qs e=>?_} λb u e=>?_
 .by_cases a:b=P
  .exact{_,by rw [a];exact p}
  .exact{o,i b o a e}
 .by_cases a:b=P
  .subst a;rw [g] at e;cases e;let(m,rfl):=more;exact{m,by unfold hJ;rw [ae (Ne.symm F),ae (Ne.symm E),ak]}
  .have j:b≠c':=λz=>by
    subst z;rcases h with⟨y,_⟩|y
    .rw [y] at e;cases e
    .rw [y] at e;cases e
   exact{#[],by unfold hJ;rw [ae (w b _ e),ae j,ae a,e];simp}
 .unfold hJ at e;by_cases A:b=f
  .subst A;rw [ak] at e;cases e;exact mF D
  .rw [ae A] at e;by_cases B:b=c'
   .subst B;rw [ak] at e;cases e;exact mF C
   .rw [ae B] at e;by_cases k:b=P
    .subst k;rw [ak] at e;cases e;exact p
    .rw [ae k] at e;refine(I.aM b u e).fe (λd v hd q=>i d v ?_ q) (λd q=>at_ d _ q (λZ z=>nomatch z)) λd xs q=>at_ d _ q (λZ z=>nomatch z)
     rcases hd with hd|hd
     .rw [hd];exact k
     .exact t d _ hd (λZ z=>nomatch z)
def De{R:i6->Obj->Prop}{a:lq}{d:kv}{cl:List (Str×i6)}{Q:ml}{E:ml}(I:zv2 s)(j:H P=ia (.gK ps))(y:TriplesOk ps.toList)(N:X.env.code=.ref c)(C:PySem.W.CodeHd X.base c P)
 (Z:Bs X.mg X.base) (O:closureFor d X.env=pure cl) (Lr:defaultsOf a X.env=([],[]))
 (hit:∀i,codeAmong pos ps.toList=ia i->∃c' oc r t,i=.ref c'/\H c'=ia (.bq oc bA)/\R c' oc/\oc.data=.fields r/\r[1]?=ia (.str (X.env.qual++(zu 1)) t))
 (h:∀(f c':i6) (oc:Obj) (r:Array i1) (t:Tok) (B:i1) (uY:Array i1) (h':kB) (tk:Nat),H f=ie->(H c'=ie\/H c'=ia (.bq oc bA)/\R c' oc)->c'≠f->f≠P->c'≠P->oc.data=.fields r->r[1]?=ia (.str (X.env.qual++(zu 1)) t)->TriplesOk uY.toList->
  (∀p i,codeAmong p uY.toList=ia i->codeAmong p ps.toList=ia i\/i=.ref c')->(∃m,uY=ps++m)->
  Inv X aa σ (hJ H P uY c' oc f (PySem.W.kla_obj (zu 1) (X.env.qual++(zu 1)) a body d cl ((X.mg (zu 40)).getD .none) c' B)) {s with heap:=h',toks:=tk}->Q (.ref f) {s with heap:=h',toks:=tk}):
 zx7 X (eval (.Lambda a body d pos) X.env) Q E s:=by
 have F:s.heap.get? P=ia (PySem.W.tabObj ps):=I.aM P _ j;have S:=I.ok.mod.glob.keeps I.bk;have XM:k8≠P:=λq=>by let(o,es,ep,e,_):=I.ok.mod.glob;have:=(I.bs _ _ e).2;rw [q,j] at this;cases this
 let(bm,ob,b1,b2,b3,T,b5,b6,b7):=Z;have hB:s.heap.BuiltinsAt X.mg P:={bm,ob,b1,b2,b3,(λq=>by have:=(I.bs _ _ T).2;rw [q,j] at this;cases this),I.bk _ _ T,b5,b6,b7}
 refine PySem.W.kla_eval Lr ?_;cases hm:codeAmong pos ps.toList with
 |none=>
  refine PySem.W.kla_makeFunction (mg:=X.mg) O I.ok.glob S N (C.keeps I.bk) F y hm XM hB λc' B h' tk hx G K S7 X4=>?_;let(U,oc,vs,t,e2,L,hd,M):=S7;cases e2;have D:H c'=ie:=I.aM.fresh G;have g:(zz9 s)<=h'.objs.size:=eg G (Nat.le_of_lt K);have k:H h'.objs.size=ie:=I.aM.fresh g
  refine h h'.objs.size c' oc vs t B _ _ tk k (.inl D) (ew K) (λz=>by rw [z,j] at k;cases k) (λz=>by rw [z,j] at D;cases D) hd M ?_ ?_ {_,rfl}
   (I.lam j (λb o V e=>a5 _ (hx b o V e)) (a5 _ X4) {_,rfl} (.inl ⟨D,G⟩) (a5 _ L) g (et _ rfl) (ew K))
  .rw [Array.toList_append];exact TriplesOk_snoc _ _ _ _ y
  .intro p i e;rw [Array.toList_append] at e;exact vJ _ y e
 |some i=>
  let(c',oc,r,t,rfl,u,hR,hd,M):=hit i hm;refine PySem.W.kla_makeFunctionHit (mg:=X.mg) O I.ok.glob S N (C.keeps I.bk) F y hm hB λB h' tk hk g=>?_;have k:H h'.objs.size=ie:=I.aM.fresh g;have Bl:s.heap.get? c'=ia oc:=(I.aM c' _ u).1;have Y:c'≠h'.objs.size:=λz=>by rw [z,k] at u;cases u
  refine h h'.objs.size c' oc r t B ps _ tk k (.inr ⟨u,hR⟩) Y (λz=>by rw [z,j] at k;cases k) (λz=>by rw [z,j] at u;cases u) hd M y (λp i e=>.inl e) {#[],by simp}
   (I.lam j (λb o V e=>a5 _ (hk b o e)) (a5 _ (hk _ _ F)) {#[],by simp} (.inr u) (a5 _ (hk _ _ Bl)) g (et _ rfl) Y)
end
structure BD(H Hw:Hp)(d:i6)(o:Obj)(ay:List (List bj×V)):Prop where
 at_:Hw d=ia (.bq o (.dT ay))
 dt:H d=ia (.dT ay)
 same:∀b u,H b=ia u->b≠d->Hw b=ia u
 new:∀b u,Hw b=ia u->H b=ie->∃ob,u=.bq ob bA
section
variable{Hw:Hp}{d:i6}{ay:List (List bj×V)}{fs:List i6}
def BD.back(z:BD H Hw d o ay)(u:Un fs [] Hw Hw h h')(k:eL P w Hw h)(i:eL P w Hw h'):Un fs [] H H h h'/\eL P w H h'/\h'.get? d=ia o:=by
 have fz:∀b a,Hw b=ia (.bq a bA)->∀o,h.get? b=ia o->h'.get? b=ia o:=λb a e o q=>by have p:h.get? b=ia a:=(k b _ e).1;have s:h'.get? b=ia a:=(i b _ e).1;rw [p] at q;cases q;exact s
 have st:∀c v,Hw c=ia v->(∀a u,v≠.bq a u)->H c=ia v:=λc v e n=>by
  cases q:H c with
  |none=>let(a,rfl):=z.new c v e q;exact absurd rfl (n a _)|some u=>
   by_cases m:c=d
   .subst m;rw [z.at_] at e;cases e;exact absurd rfl (n _ _)
   .rw [z.same c u q m] at e;exact e
 refine{{λb a e n f g=>?_,λb a e n f g=>?_,λb a e n g=>n,λb a e g=>u.there b a e g,λZ Z e=>e,λZ Z Z e=>e,λb t e=>{#[],zx6 e}},λb v e=>?_,(i d _ z.at_).1}
 .cases q:Hw b with
  |none=>exact u.keep b a e q f g|some v=>let(j,rfl):=z.new b v q n;exact fz b j q a e
 .cases q:Hw b with
  |none=>exact u.slot b a e q f g|some v=>let(j,rfl):=z.new b v q n;exact{a.slots,fz b j q a e}
 .have go:∀v,bO P w Hw h' b v->bO P w H h' b v:=λv y=>y.fe (λZ Z Z r=>r) (λc r=>st c _ r (λZ Z z=>nomatch z)) λc xs r=>st c _ r (λZ Z z=>nomatch z);by_cases f:b=d
  .subst f;rw [z.dt] at e;cases e;exact go _ (i b _ z.at_).2
  .exact go v (i b v (z.same b v e f))
end
structure kf(p y:Str)(params:lq)(body:jj)(scope:kv):Prop where
 body:∃q1 q2 q3 q4 q5 j,body=.Subscript (.Subscript (.Name y q1) (.Name p q2) q3) (.Constant (.int 0) j q4) q5
 sc:mw [p] [y] scope
 d1:(p==(zu 16:Str))=iv
 d2:(p==(zu 24:Str))=iv
 d3:(y==(zu 16:Str))=iv
 d4:(y==(zu 24:Str))=iv
section
variable{aa:mn}{s:i2}{d f c c' b:i6}{oc:Obj}{ay:List (List bj×V)}{p:Str}{params:lq}{scope:kv}{pm eT:i1}{cU:Array i1}{ct:Tok}{k:List bj}{q:i6}{n:Int}{r:List V}{E:ml}
def C2(hA:A=X.A.in1)(L:kf p y params body scope)(hr:dq (kk+1) X.A)(I:zv2 s)(hd:H d=ia (.dT ay))(N:s.heap.get? d=ia o)
 (b9:X.env.cells.lookup y=ia c) (Bk:X.s₀.heap.objs.size<=c) (SU:s.heap.IsCell c (ia (.ref d)))
 (hf:H f=ia (.bq (PySem.W.kla_obj (zu 1) qual params body scope [(y,c)] pm c' eT) bA)) (fT:H c'=ia (.bq oc bA)) (pS:oc.data=.fields cU) (Ae:cU[1]?=ia (.str qual ct))
 (M:∀u,bindArgs (PySem.W.kla_fn (zu 1) qual params body scope [(y,c)] pm (.ref c') eT) {[u],[]}=pure ([p].zip [u]))
 (G8:cF H b k) (hv:gL ay k=ia (.ref q)) (S:fK X.K H q (.int n::r)):
 jk (kn X.prog X.w) A (call (.ref f) [.ref b]) (λu s'=>(∃t,u=.int n t)/\Inv X aa σ H s'/\s'.heap.get? d=ia o) E s:=by
 subst hA;let(q1,q2,q3,q4,q5,j,rfl):=L.body;let(h,g1,g2):=id SU;have O:H c=ie:=I.gY y c b9;let(z0,lo,xs,T,U,es,ep,h1,h2,h3,V,h5):=(show bO X.prog X.w H s.heap d (.dT ay) from I.aM d _ hd);rw [N] at h1;cases h1;have P:Inv X aa σ (upd H d (.bq o (.dT ay))) s:=by refine ju (h':=s.heap) (t':=s.toks) I (by rw [hd];exact True.intro) {rfl,λ_ _=>rfl} ⟨o,N⟩ {N,z0,lo,xs,?_,o,es,ep,N,h2,h3,V,h5};exact KT.keeps (H:=H) T λc ys ec=>by rw [ae (j1 ec hd nofun)];exact ec
 have Yk:c≠d:=λz=>by rw [z,hd] at O;cases O
 have Yl:f≠d:=j1 hf hd nofun;have TK:c'≠d:=j1 fT hd nofun
 have Bh:sL [(c,h)] (upd H d (.bq o (.dT ay))) (ft X.stack) s.heap:=by
  have Y:∀b o,List.lookup b [(c,h)]=ia o->b=c/\o=h:=λb o e=>by
   rw [hV] at e;cases D:b==c with
   |true=>rw [D] at e;cases e;exact{zzy.mp D,rfl}
   |false=>rw [D] at e;cases e
  refine{λb o e=>?_,λb o e=>?_,λb o e=>?_}
  .let(rfl,rfl):=Y b o e;exact g1
  .let(rfl,rfl):=Y b o e;rw [ae Yk];exact O
  .let(rfl,rfl):=Y b o e
   intro OY;rcases fP.mp (I.iq b OY) with z|z
   .exact I.EO y b b9 z
   .let(_,U,V,_):=I.ok.gE.mem z;exact absurd (dn V) (Nat.not_lt.mpr Bk)
 have zc:List.lookup c [(c,h)]=ia h:=by simp
 have R:∀x m,List.lookup x [(y,c)]=ia m->x=y/\m=c:=λx m e=>by
  rw [hV] at e;cases hx:x==y with
  |true=>rw [hx] at e;cases e;exact{zzy.mp hx,rfl}
  |false=>rw [hx] at e;cases e
 have zb:∀b o,List.lookup b [(c,h)]=ia o->X.base.get? b=ie:=λb o e=>by
  rw [hV] at e;cases D:b==c with
  |true=>
   have:=zzy.mp D;subst this
   cases G:X.base.get? b with
   |none=>rfl|some U=>exact absurd (dn (I.ok.bs b U G).1) (Nat.not_lt.mpr Bk)
  |false=>rw [D] at e;cases e
 have X0:fK X.K (upd H d (.bq o (.dT ay))) q (.int n::r):=fK.oN S (λb M=>ae M) hd;have XR:cF (upd H d (.bq o (.dT ay))) b k:=G8.keeps λb xs z=>(ae (j1 z hd nofun)).trans z
 have wd:BD H (aK [(c,h)] (upd H d (.bq o (.dT ay)))) d o ay:=by
  have nz:∀b u,H b=ia u->List.lookup b [(c,h)]=ie:=λb u e=>by
   rw [hV];cases D:b==c with
   |true=>have:=zzy.mp D;subst this;rw [O] at e;cases e
   |false=>rfl
  refine{by rw [af (nz d _ hd),ak],hd,λb u e M=>by rw [af (nz b u e),ae M];exact e,λb u e n=>?_}
  cases hz:List.lookup b [(c,h)] with
  |some ob=>rw [ba hz] at e;cases e;exact{_,rfl}
  |none=>
   rw [af hz] at e;have Xw:b≠d:=λz=>by rw [z,hd] at n;cases n
   rw [ae Xw,n] at e;cases e
 refine wpAny_call (codeAny_mono (rh (k:=kk) (E:=λ_ _ _=>False) (Q:=λv H'=>v=.int n/\H'=aK [(c,h)] (upd H d (.bq o (.dT ay)))) (Z:=[(c,h)]) (ws:=[.ref d]) (vs:=[.ref b]) (us:=[.ref b])
  (t:=Na (MM X.K) (yY (se 1) (se 0)) (tC (.int 0))) L.sc hr.in1 P.tM.in1 Bh zb ?fo ?co pS Ae (M _) (.cons rfl .nil) rfl rfl ?JB ?inj ?cz ?cells ?ht ?S) λrr s' Lx=>?_)
 case fo=>have z:upd H d (.bq o (.dT ay)) f=H f:=ae Yl;exact(P.aM f _ (z.trans hf)).1
 case co=>
  have z:upd H d (.bq o (.dT ay)) c'=ia (.bq oc bA):=by rw [ae TK];exact fT
  exact(P.aM c' _ z).1
 case JB=>intro G xZ;exact{c,by rw [e6.mp xZ];simp}
 case inj=>intro x G m e1 e2;rw [(R x m e1).1,(R G m e2).1]
 case cz=>intro x m e;let(rfl,rfl):=R x m e;exact{h,_,zc,g2}
 case cells=>
  intro i G m e1 e2 v e3;let(rfl,rfl):=R G m e2
  cases i with
  |zero=>cases e3;exact{.ref d,rfl,h,g1,g2}
  |succ i=>cases e3
 case ht=>refine DO v9 (rC ?_ (dR (i:=1) rfl (.inr (.inr (L.sc.OJ y (by simp)))) L.d3 L.d4) (dR (i:=0) rfl (.inl (L.sc.par p (by simp))) L.d1 L.d2) λ_ _=>rfl) rD λ_ _=>rfl;have:=hr.un;show X.A.units+1+3+3<cLine;omega
 case S=>
  refine{_,rfl,_,rfl,d,.ref q,rfl,?_,?_}
  .exact .inr {ay,k,b,.inr ⟨o,ak⟩,rfl,XR,hv.symm}
  .exact{q,.int n::r,0,.int n,rfl,rfl,X0,by simp [oF,ye],λ_=>⟨rfl,rfl⟩}
 .cases rr with
  |error e=>let(a,C,t,vs,H',B,e1,F):=Lx;exact(F.ends).elim|ok fl=>
   cases fl with
   |ret u=>let(v,H',os,bare,un,aM,rv,rfl,rfl):=Lx;let(t,rfl):=rv;let(u1,k1,N9):=wd.back un (Bh.aM P.aM) aM;let(hh,g,dr,tk,os'):=s';obtain rfl:os'=s.os:=os;exact{⟨t,rfl⟩,I.call (h':=hh) (g':=g) (d':=dr) (t':=tk) (ch:=[]) u1 k1 bare (λb z=>absurd z (by simp)),N9}|_=>exact Lx.elim
end
structure KM(X:Cx)(σ:St)(H:Hp)(kk:Nat)(d f:i6)(ay:List (List bj×V))(cf:Nat->Int):Prop where
 room:dq (kk+1) X.A
 hd:X.A.handled=ie
 dt:H d=ia (.dT ay)
 lam:∃(p y:Str) (params:lq) (body:jj) (scope:kv) (qual:Str) (c c':i6) (oc:Obj) (cU:Array i1) (ct:Tok) (pm eT:i1) (iy:Nat),kf p y params body scope/\X.env.cells.lookup y=ia c/\X.s₀.heap.objs.size<=c/\H f=ia (.bq (PySem.W.kla_obj (zu 1) qual params body scope [(y,c)] pm c' eT) bA)/\
  H c'=ia (.bq oc bA)/\oc.data=.fields cU/\cU[1]?=ia (.str qual ct)/\(∀u,bindArgs (PySem.W.kla_fn (zu 1) qual params body scope [(y,c)] pm (.ref c') eT) {[u],[]}=pure ([p].zip [u]))/\
  X.N[iy]?=ia y/\σ[iy]?=ia (ia (V.ref d))/\X.env.scope.names.lookup y=ia .cell
 cost:∀(i:Nat) k v,ay[i]?=ia (k,v)->∃q r,v=V.ref q/\fK X.K H q (.int (cf i)::r)
def Ja{a:List (List bj×V)}:∀{i:Nat} {k:List bj} {v:V},(a.map (·.1)).Nodup->a[i]?=ia (k,v)->gL a k=ia v:=by
 induction a with
 |nil=>intro i k v _ h;simp at h|cons x r b=>
  intro i k v nd h;rw [bf,List.nodup_cons] at nd;cases i with
  |zero=>simp at h;subst h;exact iw rfl|succ i=>simp at h;rw [iu λe=>nd.1 (e▸hG.mpr {(k,v),a9 h,rfl})];exact b nd.2 h
section
variable{aa:mn}{s:i2}{d f it S:i6}{es:Array DictEntry}{ep:Nat}{ay:List (List bj×V)}{cf:Nat->Int}{R:Result->i2->Prop}
def Gp(I:zv2 s)(e:H d=ia (.dT ay)):(d==sysModules)=iv/\(ay.map (·.1)).Nodup/\∃o es ep,s.heap.get? d=ia o/\o.ExactDict/\o.data=.dict es ep/\es.size=ay.length/\∀(i:Nat) (h:i<es.size),∃b k v,es[i].key=.ref b/\ay[i]?=ia (k,v)/\cF H b k:=by let(a,nd,o,es,ep,c,g,j,hl,hk):=Jr (I.aM d _ e);exact{a,nd,o,es,ep,c,g,j,hl,λi m=>let⟨b,k,v,p,q,r,_⟩:=hk i m;⟨b,k,v,p,q,r⟩}
def dE.pin{b:i6}{ob:Obj}(h:dE X aa H b)(e:s.heap.get? b=ia ob)(n:∀v,ob.data≠.cell v):s.heap.get? b=ia ob/\H b=ie/\b≠X.env.locals/\b∉X.fs/\∀v,ob.data≠.cell v:=⟨e,h.1,h.2.1,h.2.2.1,n⟩
def C7(M:KM X σ H kk d f ay cf)(I:zv2 s)(O:dE X aa H it)(P:dE X aa H S)(T:s.heap.get? d=ia o){e g:Obj}(U:s.heap.get? it=ia e)(W:∀v,e.data≠.cell v)(Y:s.heap.get? S=ia g)(cS:∀v,g.data≠.cell v)
 (nd:(ay.map (·.1)).Nodup) {i:Nat} {k:List bj}  {b:i6} (hk:ay[i]?=ia (k,v)) (Z:cF H b k) {E:ml} {Q:ml}
 (h:∀t s',Inv X aa σ H s'->s'.heap.get? d=ia o->s'.heap.get? it=ia e->s'.heap.get? S=ia g->Q (.int (cf i) t) s'):jk (kn X.prog X.w) X.A.in1 (call (.ref f) [.ref b]) Q E s:=by
 let(p,y,C,body,D,F,c,c',oc,cU,ct,pm,eT,iy,L,G,l2,l3,l4,l5,l6,l7,l8,l9,K):=M.lam;let(q,r,rfl,hq):=M.cost i k v hk
 have I1:Inv X ((it,e)::(S,g)::aa) σ H s:=by
  refine I.fw λp a=>?_
  rcases fP.mp a with rfl|a
  .exact O.pin U W
  .rcases fP.mp a with rfl|a
   .exact P.pin Y cS
   .exact I.pin p (ea _ a)
 have cell:s.heap.IsCell c (ia (.ref d)):=by
  let(m,_,j):=I.loc;let(u,ru,lk):=j iy y (.ref d) l8 l9 (.inr (.inl K))
  cases(show u=i1.ref d from ru);rcases lk with⟨z,_⟩|⟨_,c2,B,z⟩
  .have N:X.env.scope.names.lookup y=ia .local:=z;rw [K] at N;cases N
  .rw [G] at B;cases B;exact z
 refine wpAny_mono (C2 (kk:=kk) rfl L M.room I1 M.dt T G l2 cell l3 l4 l5 l6 l7 Z (Ja nd hk) hq) (λu s' hu=>?_) λ_ _ z=>z;let((t,rfl),J,hd):=hu;refine h t s' (J.fw λp a=>J.pin p (ea _ (.tail _ (.tail _ a)))) hd (J.pin (it,e) (ea _ (.head _))).1 (J.pin (S,g) (ea _ (.tail _ (.head _)))).1
def ma{c:Nat}{xs ys:Array i1}(e:h.get? S=ia (seqObj "list" xs c)):∃a,(h.update S (Obj.mapSeq λZ=>ys)).get? S=ia (seqObj "list" ys a):={_,get?_update_seq e λZ=>ys}
def gj{xs:Array i1}{c:Nat}:∀v,(seqObj "list" xs c).data≠.cell v:=λv z=>nomatch z
def Dr(M:KM X σ H kk d f ay cf)(hh:X.A.handled=ie)(hd:o.data=.dict es ep)(hl:es.size=ay.length)(G9:∀(i:Nat) (h:i<es.size),∃b k v,es[i].key=.ref b/\ay[i]?=ia (k,v)/\cF H b k)(nd:(ay.map (·.1)).Nodup)
 (g:dE X aa H it) (m:dE X aa H S) (nS:S≠it) (hR:∀(i:Nat) (h:i<es.size) s',(∀j,j<es.size->cf i<=cf j/\(j<i->cf i<cf j))->Inv X aa σ H s'->R (.ok (.ret es[i].key)) s'):
 ∀(r j i:Nat) (s:i2) (t:Tok) (c:Nat) (G:i<es.size),es.size-(j+1)=r->j+1<=es.size->zv2 s->s.heap.get? d=ia o->s.heap.IsKeyIter it d (j+1) es.size ep->s.heap.get? S=ia (seqObj "list" #[es[i].key,.int (cf i) t] c)->i<=j->(∀p,p<=j->cf i<=cf p/\(p<i->cf i<cf p))->
  codeAny (kn X.prog X.w) X.A (.builtin "min.loop" {[.ref it,.ref f,.ref S],[]}) R s:=by
 have q:(toString "min"++toString ".loop":String)="min.loop":=by decide
 have TL:S≠d:=λz=>by have:=m.1;rw [z,M.dt] at this;cases this
 have TM:it≠d:=λz=>by have:=g.1;rw [z,M.dt] at this;cases this
 intro r
 induction r with
 |zero=>intro j i s t c G hr hj I K st C Q4 a;refine codeAny_builtin PySem.F.entry_min_loop ?_;rw [h9 PySem.F.plain_min_loop _];show jk _ X.A.in1 (seqItems? (.ref S)>>=λz=>_) _ _ _;refine aT (wpAny_seqItems C rfl ?_);show jk _ X.A.in1 (tryCatch (pyNext (.ref it)) _>>=λz=>_) _ _ _;refine aT (wpAny_tryCatch (CA hh st K hd (by omega) λh' V=>?_));have L:=V S _ nS C;have N:=I.turned (h':=h') (t':=s.toks) (λb o u e=>V b o u e) g.1 g.2.1 g.2.2.2.1 g.2.2.2.2.1 g.2.2.2.2.2;show jk _ X.A.in1 (updateSeq S (λ_=>#[])>>=λz=>_) _ _ _;refine aT (wpAny_updateSeq L rfl (aT (wpAny_letGo (b4 ?_))));have y:=hD h' S (Obj.mapSeq λ_=>(#[]:Array i1));exact hR i G _ (λp W=>a p (by omega)) (N.turned (t':=s.toks) (λb o u e=>(y.2 b u).trans e) m.1 m.2.1 m.2.2.2.1 m.2.2.2.2.1 m.2.2.2.2.2)|succ r Y=>
  intro j i s t c G hr hj I K st C Q4 a;have D:j+1<es.size:=by omega
  refine codeAny_builtin PySem.F.entry_min_loop ?_;rw [h9 PySem.F.plain_min_loop _];show jk _ X.A.in1 (seqItems? (.ref S)>>=λz=>_) _ _ _;refine aT (wpAny_seqItems C rfl ?_);show jk _ X.A.in1 (tryCatch (pyNext (.ref it)) _>>=λz=>_) _ _ _;refine aT (wpAny_tryCatch (q9 st K hd D λh' jd O=>?_));have L:=(O.2 S nS).trans C;have fC:=(O.2 d (Ne.symm TM)).trans K;have N:=I.turned (h':=h') (t':=s.toks) (λb o u e=>(O.2 b u).trans e) g.1 g.2.1 g.2.2.2.1 g.2.2.2.2.1 g.2.2.2.2.2;let(Z,gi,gc,Q):=id jd;let(b,k,v,e1,e2,e3):=G9 (j+1) D;rw [e1];show jk _ X.A.in1 (tryCatch (holding [i1.ref b] (call (.ref f) [i1.ref b])) _>>=λz=>_) _ _ _;refine aT (wpAny_tryCatch (wpAny_holding (C7 M N g m fC gi (λv z=>by rw [Q] at z;cases z) L gj nd e2 e3 λB T I2 Q7 EU U=>?_)));have M0:T.heap.IsKeyIter it d (j+1+1) es.size ep:=⟨Z,EU,gc,Q⟩;show jk _ X.A.in1 (tryCatch (holding [i1.ref b,.int (cf (j+1)) B] (richCompare .Lt (.int (cf (j+1)) B) (.int (cf i) t)>>=λz=>_)) _>>=λz=>_) _ _ _;refine aT (wpAny_tryCatch (wpAny_holding (aT (CmpOf.ints_lt (prog:=X.prog) (w:=X.w) (A:=X.A.in1) (P:=λi v=>∃t,v=.int (cf i) t) cf (λi v h=>h) (j+1) i _ _ _ _ _ ⟨B,rfl⟩ ⟨t,rfl⟩ ?_))));refine aT (wpAny_holding (wpAny_truthy_bool (aT (wpAny_letGo (b4 ?_)))));by_cases ji:cf (j+1)<cf i
  .let(c2,E):=ma (ys:=#[i1.ref b,.int (cf (j+1)) B]) U;have y:=hD T.heap S (Obj.mapSeq λ_=>#[i1.ref b,.int (cf (j+1)) B]);simp! [ji,decide_true,if_true];refine aT (wpAny_updateSeq U rfl (aT (wpAny_letGo ?_)));rw [q];rw [<-e1] at E y⊢;refine b4 {plainId_quiet PySem.F.plain_min_loop _,Y (j+1) (j+1) _ B c2 D (by omega) D (I2.turned (t':=T.toks) (λb o u e=>(y.2 b u).trans e) m.1 m.2.1 m.2.2.2.1 m.2.2.2.2.1 m.2.2.2.2.2) ?_ ?_ ?_ (bc _) λp W=>?_}
   .exact(y.2 d (Ne.symm TL)).trans Q7
   .exact{Z,(y.2 it (Ne.symm nS)).trans EU,gc,Q}
   .exact E
   .by_cases e:p=j+1
    .subst e;exact{by omega,λ_=>by omega}
    .have:=a p (by omega);exact{by omega,λ_=>by omega}
  .simp! [ji,decide_false,eM,if_false];refine aT (wpAny_letGo ?_);rw [q];refine b4 {plainId_quiet PySem.F.plain_min_loop _,Y (j+1) i _ t c G (by omega) D I2 Q7 M0 U (by omega) λp W=>?_};by_cases e:p=j+1
   .subst e;exact{by omega,λ_=>by omega}
   .exact a p (by omega)
def zG(M:KM X σ H kk d f ay cf)(iJ:0<ay.length)(I:zv2 s)
 (q:∀i k v b,ay[i]?=ia (k,v)->cF H b k->(∀j,j<ay.length->cf i<=cf j/\(j<i->cf i<cf j))->Q (.ref b) H):zx7 X (call (.builtin "min") [.ref d] [(Str.ofString "key",.ref f)]) (EP X aa σ Q) X.xe s:=by
 have c:(toString "min"++toString ".loop":String)="min.loop":=by decide
 have Z:X.A.handled=ie:=M.hd;let(lo,nd,o,es,ep,C,hx,hd,hl,D):=Gp I M.dt;have E:∀(i:Nat) (h:i<es.size) G,(∀j,j<es.size->cf i<=cf j/\(j<i->cf i<cf j))->Inv X aa σ H G->EP X aa σ Q es[i].key G:=λi h G b J=>by let(a,k,v,t,K,L):=D i h;rw [t];exact{.ref a,H,J,rfl,q i k v a K L λj hj=>b j (by omega)}
 refine kmk_tree PySem.F.kind_min PySem.F.plain_min PySem.F.entry_min (kmk_min_key _ _) ?_;show jk _ X.A.in1 (la.Builtins.bindParams "min" ["key","default"] 0 {[],[(Str.ofString "key",.ref f)]}>>=λz=>_) _ _ s;refine aT (wpAny_of_eq (show la.Builtins.bindParams "min" ["key","default"] 0 {[],[(Str.ofString "key",.ref f)]}=pure [ia (.ref f),ie] from rfl) (aT (b4 ?_)));refine aT (xX lo C hx hd (aT (wpAny_newList ?_ (Nat.zero_le _))));rw [c];generalize hit:(zz9 s)=it;generalize p:(s.heap.push {cls:=.type (zu 11),data:=.fields #[.ref d,.int 0 0,.int es.size 0,.int ep 0]}).objs.size=S;have eS:S=it+1:=by rw [<-p,<-hit];exact size_push' ..
 have nS:S≠it:=by omega
 have T:(zz9 s)<=S:=by omega
 have g:dE X aa H it:=by rw [<-hit];exact I.jy (bc _) (I.aM.fresh (bc _))
 have m:dE X aa H S:=I.jy T (I.aM.fresh T);have keep:∀b N,s.heap.get? b=ia N->((s.heap.push {cls:=.type (zu 11),data:=.fields #[.ref d,.int 0 0,.int es.size 0,.int ep 0]}).push (seqObj "list" #[] 0)).get? b=ia N:=λb N e=>a5 _ (a5 _ e);have I1:=I.kept (t':=s.toks) keep;have gI:((s.heap.push {cls:=.type (zu 11),data:=.fields #[.ref d,.int 0 0,.int es.size 0,.int ep 0]}).push (seqObj "list" #[] 0)).get? it=ia {cls:=.type (zu 11),data:=.fields #[.ref d,.int 0 0,.int es.size 0,.int ep 0]}:=by rw [<-hit];exact a5 _ (et _ rfl)
 have U:((s.heap.push {cls:=.type (zu 11),data:=.fields #[.ref d,.int 0 0,.int es.size 0,.int ep 0]}).push (seqObj "list" #[] 0)).get? S=ia (seqObj "list" #[] 0):=by rw [<-p];exact et _ rfl
 have TL:S≠d:=λz=>by have:=m.1;rw [z,M.dt] at this;cases this
 have TM:it≠d:=λz=>by have:=g.1;rw [z,M.dt] at this;cases this
 refine b4 {plainId_quiet PySem.F.plain_min_loop _,codeAny_builtin PySem.F.entry_min_loop ?_};rw [h9 PySem.F.plain_min_loop _];show jk _ X.A.in1 (seqItems? (.ref S)>>=λz=>_) _ _ _;refine aT (wpAny_seqItems U rfl ?_);show jk _ X.A.in1 (tryCatch (pyNext (.ref it)) _>>=λz=>_) _ _ _;have u:0<es.size:=by omega
 refine aT (wpAny_tryCatch (q9 (i:=0) {_,gI,rfl,rfl} (keep _ _ C) hd u λh' jd O=>?_));have Ac:=(O.2 S nS).trans U;have fC:=(O.2 d (Ne.symm TM)).trans (keep _ _ C);have I2:=I1.turned (h':=h') (t':=s.toks) (λb o P e=>(O.2 b P).trans e) g.1 g.2.1 g.2.2.2.1 g.2.2.2.2.1 g.2.2.2.2.2;let(oi,gi,gc,V):=id jd;let(b,k,v,t,K,L):=D 0 u;rw [t];show jk _ X.A.in1 (tryCatch (holding [i1.ref b] (call (.ref f) [i1.ref b])) _>>=λz=>_) _ _ _;refine aT (wpAny_tryCatch (wpAny_holding (C7 M I2 g m fC gi (λv z=>by rw [V] at z;cases z) Ac gj nd K L λy W I3 Q7 EU Y=>?_)));let(c2,r):=ma (ys:=#[i1.ref b,.int (cf 0) y]) Y;have B:=hD W.heap S (Obj.mapSeq λ_=>#[i1.ref b,.int (cf 0) y]);show jk _ X.A.in1 (updateSeq S (λ_=>#[i1.ref b,.int (cf 0) y])>>=λz=>_) _ _ _;refine aT (wpAny_updateSeq Y rfl ?_);rw [c];rw [<-t] at r B⊢;refine b4 {plainId_quiet PySem.F.plain_min_loop _,Dr M Z hd hl D nd g m nS E _ 0 0 _ y c2 u rfl u (I3.turned (t':=W.toks) (λb o P e=>(B.2 b P).trans e) m.1 m.2.1 m.2.2.2.1 m.2.2.2.2.1 m.2.2.2.2.2) ((B.2 d (Ne.symm TL)).trans Q7) {oi,(B.2 it (Ne.symm nS)).trans EU,gc,V} r (bc _) λj' Lv=>?_};have e:j'=0:=by omega
 subst e;exact{by omega,λh=>absurd h (Nat.lt_irrefl _)}
end
end L2
namespace L2
open PySem.Spec PyProof.Rows PySem.W
end L2
namespace L2
open PySem.Spec PyProof.Rows
open PySem.AutoSeq1 (wpAny_loadPart')
theorem fX:fillsNumberSlot (.type "tuple") "mul"=pure iv:=
 PySem.fillsNumberSlot_seq (id:="tuple.__mul__") (r:=ia (.builtin "tuple.__rmul__")) PySem.F.slot_tuple_mul.lookup (by decide+kernel) PySem.F.slot_tuple_rmul.lookup (by decide+kernel)
def j5:seqRepeat? (.type "tuple")=pure (ia (.builtin "tuple.__mul__")):=by unfold seqRepeat?;rw [PySem.seqSlot_of (T:="tuple") (name:="__mul__") (id:="tuple.__mul__") PySem.F.slot_tuple_mul.lookup (by decide+kernel),PySem.seqSlot_of (T:="tuple") (name:="__rmul__") (id:="tuple.__rmul__") PySem.F.slot_tuple_rmul.lookup (by decide+kernel)];rfl
theorem g6(a:Int)(t:Tok)(l:i6)(b:Array i1)(n:Nat)(dd:Option i6)(sl:Array (Option i1)):
 Meets (la.«int.__rmul__» {[.int a t,.ref l],[]}) (λZ R s=>s.heap.get? l=ia {cls:=.type "tuple",dict:=dd,data:=.seq b n,slots:=sl}/\R (.ok (.ret i1.notImplemented)) s):=
 .of_wp λprog w A R s h=>by let(c,g,d,e,os):=s;let(hl,h):=h;wp_walk;exact{_,rfl,h}
def w8(l:i6)(a:Array i1)(n:Nat)(dd:Option i6)(sl:Array (Option i1))(x:Int)(u:Tok)(x1:1<x)(b:x<1000)(f:0<a.size)(k:a.size<1000):
 Meets (la.«tuple.__mul__» {[.ref l,.int x u],[]}) (λZ R s=>s.heap.get? l=ia {cls:=.type "tuple",dict:=dd,data:=.seq a n,slots:=sl}/\
  R (.ok (.ret (i1.ref (zz9 s)))) {s with heap:=s.heap.push {cls:=i1.type "tuple",data:=Data.seq (List.foldl (λx1 b=>x1++b) #[] (l0 x.toNat a))},toks:=s.toks}):=
 .of_wp λprog w A R s h=>by
  let(m,g,d,o,os):=s;let(hl,h):=h;have p:=PySem.AutoSeq1.idx_int;have q:=PySem.AutoSeq1.sub_tuple_tuple
  have c:a.isEmpty=iv:=by
   cases h:a.isEmpty with
   |false=>rfl|true=>have:=Array.isEmpty_iff.mp h;subst this;exact absurd f (by simp)
  wp_walk using wpAny_loadPart' hl
  refine wpAny_ite_false (zz0 (by rw [gU,zzN,zzN];omega)) ?_;dsimp only
  wp_walk using wpAny_loadPart' hl
  refine wpAny_ite_false (zz0 (by rw [c,Bool.false_or,zzy];omega)) ?_;refine wpAny_ite_false (zz0 (by rw [c,Bool.or_false,zzN];omega)) ?_;have hm:(a.size:Int)*x<=1000*1000:=by have r:(a.size:Int)*x<=1000*x:=Int.mul_le_mul_of_nonneg_right (by omega) (by omega);omega
  have t:a.size*x.toNat<=1000*1000:=Nat.mul_le_mul (by omega) (by omega);have y:(1000000:Nat)<=sizeLine:=by decide
  have uh:(List.foldl (λx1 b=>x1++b) #[] (l0 x.toNat a)).size<=sizeLine:=by
   have e:=foldl_rep a.toList x.toNat [];have i:(a.toList).toArray=a:=by simp
   rw [i,List.nil_append] at e;have j:(List.foldl (λx1 b=>x1++b) #[] (l0 x.toNat a))=(l0 x.toNat a.toList).flatten.toArray:=e;rw [j,a7,len_rep,eH,Nat.mul_comm];omega
  refine wpAny_ite_false (zz0 (by omega)) ?_;refine wpAny_ite_false (zz0 (by unfold la.Tuple.tupleTooMany;simp;omega)) ?_
  wp_walk
  exact{_,rfl,h}
def HY:gM X (binaryOp .Mult) (λx y H Q=>∃a n xs,x=.ref a/\y=.int n/\fK X.K H a xs/\1<n/\n<1000/\0<xs.length/\xs.length<1000/\∀p,H p=ie->Q (.ref p) (upd H p (.tup (l0 n.toNat xs).flatten))):=by
 intro M s N H x y v u Q I j m h;let(a,n,xs,rfl,rfl,w,z,A,O,P,q):=h;cases j;let(t,rfl):=m;let(c,r,B,_):=I.tuple w;have hl:=r.length;let((cls,e,f,g),d,i,k,hd):=id B;simp only at i hd;subst i hd;have C:List.foldl (λD E=>D++E) #[] (l0 n.toNat c.toArray)=(l0 n.toNat c).flatten.toArray:=by have:=foldl_rep c n.toNat [];rw [List.nil_append] at this;exact this
 refine wpAny_binaryOp_repeat_ref (T:="tuple") (U:="int") (by decide) {_,d,rfl} (λG=>typeIs_int G n t) fX PySem.F.fills_int_mul PySem.F.slot_int_rmul j5 PySem.F.slot_int_index.lookup
  (call_meets PySem.F.slot_int_rmul (typeIs_int s n t) PySem.F.entry_int_rmul (PySem.F.args_int_rmul_2 _ _) (g6 n t a c.toArray k e g)
   {d,rfl,{_,d,rfl},call_meets PySem.F.slot_tuple_mul {_,d,rfl} PySem.F.entry_tuple_mul (PySem.F.args_tuple_mul_2 _ _) (w8 a c.toArray k e g n t z A (by rw [a7];omega) (by rw [a7];omega)) {d,?_}})
 rw [C];have L:(l0 n.toNat xs).flatten.length<=sizeLine:=by
  rw [len_rep];have:n.toNat*xs.length<=1000*1000:=Nat.mul_le_mul (by omega) (by omega);have R:(1000000:Nat)<=sizeLine:=by decide
  omega
 refine{.ref (zz9 s),_,I.laid (t':=s.toks) (o:=.tup (l0 n.toNat xs).flatten) (λb S q=>a5 _ q) (bc _) ?_,rfl,q _ (I.aM.fresh (bc _))};exact{L,_,r.rep n.toNat,IsTup.new _ _}
end L2
namespace Cw
open L2
end Cw
namespace L2
open PySem.Spec PyProof.Rows
def qH:da X (.type "int") (λxs H Q=>∃z n,xs=[.str z]/\PySem.intText? z=ia n/\z.length<=640/\Q (.int n) H):=by intro c s d H xs e Q I r h;let(z,n,rfl,a,b,q):=h;let(u,rfl,t,rfl):=vals1 r;exact PySem.W.KIN.call_text a b {.int n,H,I.tok _,{_,rfl},q}
end L2
namespace Cw
open L2
end Cw
namespace L2
open PySem.Spec PyProof.Rows PySem.W
noncomputable abbrev Xa(a:List (Int×Int)):List (Key×V):=a.map λq=>(.inl q.1,V.int q.2)
end L2
namespace L2
open PySem.Spec PyProof.Rows
abbrev OH(a C:i6):HO:=.ext λh=>∃b c,h.get? a=ia b/\b.cls=.ref C/\b.data=.fields c
def E8.fresh{s s':i2}{E:XK}{C t:i6}{vs:List i1}{b:Hp}{B:kB}(F:E8 P w outer H s E a C t vs b B s'):b a=ie:=by
 cases z:b a with
 |none=>rfl|some o=>let(d,c):=lj (F.aM _ _ z);rw [F.ER.2.1] at c;cases c
structure J3(K:zz8)(C:i6):Prop where
 ga:PySem.W.findIn K (.ref C) "__getattribute__"=ia (ia (.builtin "BaseException.__getattribute__"))
 hk:PySem.W.findIn K (.ref C) "__getattr__"=ia ie
 cl:PySem.W.findIn K (.ref C) "__class__"=ia (ia (.builtin "object.__class__"))
 mo:PySem.W.mroIn K C (.type "object")=ia ig
 mb:PySem.W.mroIn K C (.type (zu 38))=ia ig
 is:(PySem.W.clsIn K C).isSome=ig
theorem qe{a b:Type}{R:a->b->Prop}:∀{xs:List a} {ys:List b},Paired R xs ys->∀{i:Nat} {x:a},xs[i]?=ia x->∃y,ys[i]?=ia y/\R x y
 |_,_,.nil,_,_,h=>by simp at h|_,_,.cons r t,0,x,h=>by simp at h;subst h;exact{_,rfl,r}|_,_,.cons r t,i+1,x,h=>by let(y,c,d):=qe t (i:=i) (x:=x) (zx6 h);exact{y,zx6 c,d}
theorem nH{a b:Type}{R:a->b->Prop}:∀{xs:List a} {ys:List b},Paired R xs ys->xs.length=ys.length
 |_,_,.nil=>rfl|_,_,.cons _ t=>by simp [nH t]
def EE{a:List i1}(r:Vals vs a){j:Nat}(h:j<a.toArray.size):∃v,vs[j]?=ia v/\RelV v a.toArray[j]:=by
 have hl:=r.length;rw [a7] at h;have b:j<vs.length:=by omega
 let(u,c,d):=r.get (i:=j) (x:=vs[j]) (zzg b);rw [zzg h] at c;cases c;exact{_,zzg b,zx6 d}
def range_any(bs:List Bool):(List.range bs.length).any (λi=>(bs[i]?).getD ig)=bs.any id:=by
 rw [Bool.eq_iff_iff,fi,fi];constructor
 .rintro ⟨i,a,h⟩
  have a:=List.mem_range.1 a;rw [zzg a] at h;exact{_,List.getElem_mem a,h}
 .rintro ⟨b,c,h⟩
  let(i,a,e):=List.getElem_of_mem c;exact{i,List.mem_range.2 a,by rw [zzg a,e];exact h}
def BZ(w:X.calm=ig):da X (.builtin "any") (λxs H Q=>∃(p:i6) (bs:List Bool),xs=[.ref p]/\iX X.K H p (bs.map V.bl)/\Q (.bl (bs.any id)) H):=by
 intro F s G H xs L Q I r h;let(p,bs,rfl,y,q):=h;let(u,rfl,d):=vals1 r;cases d;let(c,g,f,M):=I.list y;have z:p<(zz9 s):=by let(_,e,_):=f.isList;exact dn e
 have a:c.length=bs.length:=by rw [<-g.length,zzl]
 refine call_any_walk (wpAny_pyIter_list f.isList ?_);refine{(zz9 s),_,_,c.toArray.size,_,_,λi=>(bs[i]?).getD ig,rfl,Walks.list (A:=X.A.in1) (I.ok.hd w) (zz9 s) p (ew z) c.toArray,{{_,et _ rfl,rfl,rfl},f.isList.push _},λi v B C N D E=>?_,λO P hk=>?_}
 .have j:c[i]?=ia v:=zx6 D;have k:i<bs.length:=by rw [<-a];exact(cP.mp j).1
  let(u,m,d):=g.get (i:=i) (x:=V.bl bs[i]) (by rw [d0,zzg k];rfl);rw [j] at m;cases m;have e:v=i1.bool bs[i]:=d;rw [e];have t:C ((bs[i]?).getD ig) B:=E;rw [zzg k,Option.getD_some] at t;exact wpAny_truthy_bool t
 .rw [a7,a,range_any];exact{.bl (bs.any id),H,I.kept λb o e=>hk b o (by simp;exact ew (dn e)) (a5 _ e),rfl,q}
end L2
namespace Ci
open L2
def aY{p:Prop}(h:iv=ig):p:=absurd h zzf
inductive PV where
 |aG|bl (b:Bool)|int (i:Int)|str (z:Str)
 |tup (xs:List PV)|lst (xs:List PV)
 |exc (c:Str)
 |bC (ks:mq) (vs:List PV)
 deriving Inhabited
structure Wd where
 K:zz8
 mg:Str->Option i1
 xs:List Str
 ts:List (i6×Str):=[]
def so(K:zz8)(H:Hp)(a:i6)(vs:List V):Prop:=
 Rd H a (.lst vs)\/∃(b:Array i1) (n:Nat),K.lookup a=ia {cls:=.type "list",data:=.seq b n}/\b.size<=k6/\Vals vs b.toList
def J1(K:zz8)(G:Hp)(a:i6)(vs:List V):Prop:=G a=ia (.tup vs)\/fK K G a vs/\(∃z,V.str z∈vs)/\∀c,V.ref c∉vs
theorem J1.sq{K:zz8}:J1 K G a vs->fK K G a vs
 |.inl h=>.inl (.inl h)|.inr h=>h.1
abbrev vv:List Str:=["n","s","w","e","ne","nw","se","sw"]
abbrev dK(d:Int):bj:=if d= -1 then .n else match(if d<0 then ie else vv[d.toNat]?) with
 |some s=>.k (.inr s)|none=>.k (.inl d)
abbrev ki:List Int->List bj
 |[r,c,d]=>[.t [.inl r,.inl c],dK d]|k=>k.map iK
def yh(n:k.length≠3):ki k=k.map iK:=by
 unfold ki;split
 .exact absurd rfl n
 .rfl
abbrev kz(ks:mq)(us:List V):List (List bj×V):=(ks.map ki).zip us
mutual
def Rep(W:Wd)(G:Hp):PV->V->Prop
 |.aG,v=>v=.aG|.bl b,v=>v=.bl b|.int i,v=>v=.int i|.str z,v=>v=.str z|.tup xs,v=>∃a vs,v=.ref a/\J1 W.K G a vs/\ag W G xs vs|.lst xs,v=>∃a vs,v=.ref a/\so W.K G a vs/\ag W G xs vs|.exc c,v=>∃a C,v=.ref a/\c∈W.xs/\W.mg c=ia (.ref C)/\G a=ia (OH a C)|.bC ks vs,v=>∃a o us,v=.ref a/\ks.length=us.length/\G a=ia (.bq o (.dT (kz ks us)))/\ag W G vs us
def ag(W:Wd)(G:Hp):List PV->List V->Prop
 |[],vs=>vs=[]|p::ps,vs=>∃v r,vs=v::r/\Rep W G p v/\ag W G ps r
end
def az.tup{K:zz8}{b:Hp}{xs:List V}(e:az H b)(h:fK K H a xs):fK K b a xs:=by
 rcases h with(h|⟨o,h⟩)|h
 .exact .inl (.inl (e _ _ h))
 .exact .inl (.inr {o,e _ _ h})
 .exact .inr h
def az.tp{K:zz8}{b:Hp}{xs:List V}(e:az H b)(h:J1 K H a xs):J1 K b a xs:=h.elim (λz=>.inl (e _ _ z)) λz=>.inr {az.tup e z.1,z.2}
def az.rd{b:Hp}{u:HO}(e:az H b)(h:Rd H a u):Rd b a u:=by
 rcases h with h|⟨o,h⟩
 .exact .inl (e _ _ h)
 .exact .inr {o,e _ _ h}
def az.ls{K:zz8}{b:Hp}(e:az H b)(h:so K H a vs):so K b a vs:=h.elim (λz=>.inl (az.rd e z)) .inr
section
variable{W:Wd}{G':Hp}
mutual
theorem Rep.same(s:az G G'):∀(p:PV) {v:V},Rep W G p v->Rep W G' p v
 |.aG,_,h=>by simpa only [Rep] using h|.bl b,_,h=>by simpa only [Rep] using h|.int i,_,h=>by simpa only [Rep] using h|.str z,_,h=>by simpa only [Rep] using h|.tup xs,_,h=>by simp! [Rep] at h⊢;let(a,vs,e,q,l):=h;exact{a,vs,e,az.tp s q,ag.same s xs l}|.lst xs,_,h=>by simp! [Rep] at h⊢;let(a,vs,e,q,l):=h;exact{a,vs,e,az.ls s q,ag.same s xs l}|.exc c,_,h=>by simp! [Rep] at h⊢;let(a,C,e,x,m,q):=h;exact{a,C,e,x,m,s _ _ q}|.bC f vs,_,h=>by simp! [Rep] at h⊢;let(a,o,d,e,n,m,l):=h;exact{a,o,d,e,n,s _ _ m,ag.same s vs l}
theorem ag.same(s:az G G'):∀(ps:List PV) {vs:List V},ag W G ps vs->ag W G' ps vs
 |[],_,h=>by simpa only [ag] using h|p::ps,_,h=>by simp! [ag] at h⊢;let(v,r,e,a,b):=h;exact{v,r,e,Rep.same s p a,ag.same s ps b}
end
theorem ag.paired:∀{ps:List PV} {vs:List V},ag W G ps vs->Paired (λv p=>Rep W G p v) vs ps
 |[],_,h=>by simp! [ag] at h;subst h;exact .nil|p::ps,_,h=>by simp! [ag] at h;let(v,r,rfl,a,b):=h;exact .cons a (ag.paired b)
def ag.length{ps:List PV}(h:ag W G ps vs):vs.length=ps.length:=nH h.paired
def ag.nil:ag W G [] []:=by simp! [ag]
def ag.cons{p:PV}{v:V}{ps:List PV}{vs:List V}(h:Rep W G p v)(t:ag W G ps vs):ag W G (p::ps) (v::vs):=by simp! [ag];exact{_,_,rfl,h,t}
def ag.bM{p:PV}{ps:List PV}(h:ag W G (p::ps) vs):∃v r,vs=v::r/\Rep W G p v/\ag W G ps r:=by simpa only [ag] using h
theorem ag.append:∀{ps qs:List PV} {vs us:List V},ag W G ps vs->ag W G qs us->ag W G (ps++qs) (vs++us)
 |[],_,_,_,h,k=>by simp! [ag] at h;subst h;exact k|p::ps,_,_,_,h,k=>by let(v,r,rfl,a,b):=h.bM;exact .cons a (b.append k)
def ag.get:∀{ps:List PV} {vs:List V} {i:Nat} {v:V},ag W G ps vs->vs[i]?=ia v->∃p,ps[i]?=ia p/\Rep W G p v:=λh e=>qe h.paired e
theorem ag.qY:∀{ps:List PV} {vs:List V} {i:Nat} {p:PV},ag W G ps vs->ps[i]?=ia p->∃v,vs[i]?=ia v/\Rep W G p v
 |[],_,_,_,_,e=>by simp at e|p::ps,_,0,q,h,e=>by let(v,r,rfl,a,b):=h.bM;simp at e;subst e;exact⟨v,rfl,a⟩|p::ps,_,i+1,q,h,e=>by let(v,r,rfl,a,b):=h.bM;let(u,c,k):=b.qY (i:=i) (zx6 e);exact{u,zx6 c,k}
theorem ag.drop:∀{ps:List PV} {vs:List V} (n:Nat),ag W G ps vs->ag W G (ps.drop n) (vs.drop n)
 |_,_,0,h=>zx6 h|[],_,n+1,h=>by simp! [ag] at h;subst h;simp! [List.drop_nil];exact .nil|p::ps,_,n+1,h=>by let(v,r,rfl,b,a):=h.bM;simpa using a.drop n
theorem ag.take:∀{ps:List PV} {vs:List V} (n:Nat),ag W G ps vs->ag W G (ps.take n) (vs.take n)
 |_,_,0,h=>by simp! [List.take_zero];exact .nil|[],_,n+1,h=>by simp! [ag] at h;subst h;simp! [List.take_nil];exact .nil|p::ps,_,n+1,h=>by let(v,r,rfl,a,b):=h.bM;simp! [List.take_succ_cons];exact .cons a (b.take n)
theorem ag.set:∀{ps:List PV} {vs:List V} {p:PV} {v:V} (n:Nat),ag W G ps vs->Rep W G p v->ag W G (ps.set n p) (vs.set n v)
 |[],_,_,_,_,h,_=>by simp! [ag] at h;subst h;simp! [List.set_nil];exact .nil|q::ps,_,p,v,0,h,k=>by let(u,r,rfl,b,a):=h.bM;simp! [List.set_cons_zero];exact .cons k a|q::ps,_,p,v,n+1,h,k=>by let(u,r,rfl,b,a):=h.bM;simp! [List.set_cons_succ];exact .cons b (a.set n k)
end
def iP(H c:Hp):Prop:=∀b o,H b=ia o->(∀a,o≠.gK a)/\c b=ia o\/∃a m,o=.gK a/\c b=ia (.gK (a++m))
def iP.refl(H:Hp):iP H H:=λb o h=>by
 cases o with
 |gK a=>exact .inr {a,#[],rfl,zx6 h}|_=>exact .inl {(λZ z=>nomatch z),h}
def iP.trans{f g:Hp}(a:iP H f)(b:iP f g):iP H g:=λc o h=>by
 rcases a c o h with⟨n,e⟩|⟨d,m,rfl,e⟩
 .rcases b c o e with y|⟨d,m,rfl,i⟩
  .exact .inl y
  .exact absurd rfl (n d)
 .rcases b c _ e with⟨n,_⟩|⟨p,j,i,k⟩
  .exact absurd rfl (n _)
  .cases i;exact .inr {d,m++j,rfl,by rw [k,Array.append_assoc]}
def iP.free{a:Hp}(e:iP H a){l:i6}(h:a l=Option.none):H l=Option.none:=by
 cases q:H l with
 |none=>rfl|some o=>
  rcases e l o q with⟨_,z⟩|⟨_,_,_,z⟩
  .rw [h] at z;cases z
  .rw [h] at z;cases z
def iP.at{a:Hp}(e:iP H a){b:i6}{o:HO}(h:H b=ia o)(n:∀ps,o≠.gK ps):a b=ia o:=by
 rcases e b o h with⟨_,z⟩|⟨ps,_,rfl,_⟩
 .exact z
 .exact absurd rfl (n ps)
def iP.yy{a:Hp}(e:iP H a){b:i6}(h:H b≠ie)(n:∀vs,H b≠ia (.tup vs)):∀vs,a b≠ia (.tup vs):=λvs z=>by
 cases q:H b with
 |none=>exact h q|some o=>
  rcases e b o q with⟨_,y⟩|⟨_,_,_,y⟩
  .rw [z] at y;cases y;exact n vs q
  .rw [z] at y;cases y
def iP.of{a:Hp}(e:az H a):iP H a:=λb o h=>by
 cases o with
 |gK c=>exact .inr {c,#[],rfl,by simpa using e _ _ h}|_=>exact .inl {(λZ z=>nomatch z),e _ _ h}
def iP.tup{K:zz8}{b:Hp}{xs:List V}(e:iP H b)(h:fK K H a xs):fK K b a xs:=by
 rcases h with(h|⟨o,h⟩)|h
 .exact .inl (.inl (e.at h (λZ z=>nomatch z)))
 .exact .inl (.inr {o,e.at h (λZ z=>nomatch z)})
 .exact .inr h
def iP.ls{K:zz8}{b:Hp}(e:iP H b)(h:so K H a vs):so K b a vs:=by
 rcases h with(h|⟨o,h⟩)|h
 .exact .inl (.inl (e.at h (λZ z=>nomatch z)))
 .exact .inl (.inr {o,e.at h (λZ z=>nomatch z)})
 .exact .inr h
def cH(W:Wd)(G H:Hp):Prop:=∀P q,(P,q)∈W.ts->G P=ie/\∃a,H P=ia (.gK a)/\TriplesOk a.toList/\
 ∀b c,codeAmong b a.toList=ia c->∃d oc e t,c=.ref d/\G d=ia (.bq oc bA)/\oc.data=.fields e/\e[1]?=ia (.str q t)
theorem cH.same{W:Wd}{b d:Hp}(t:cH W G H)(g:az G b)(own:∀a,H a≠ie->(∀vs,H a≠ia (.tup vs))->G a=ie->b a=ie)(h:∀P ps,H P=ia (.gK ps)->d P=ia (.gK ps)):cH W b d:=λP q m=>by let(n,ps,e,f,i):=t P q m;refine{own P (by rw [e];exact nofun) (by rw [e];exact λZ z=>nomatch z) n,ps,h P ps e,f,λc j y=>?_};let(k,oc,o,t,p,r,s,u):=i c j y;exact{k,oc,o,t,p,g _ _ r,s,u}
structure aA(W:Wd)(G H G' H':Hp):Prop where
 g:az G G'
 h:iP H H'
 sub:az G' H'
 own:∀a,H a≠ie->(∀vs,H a≠ia (.tup vs))->G a=ie->G' a=ie
 tab:cH W G H->cH W G' H'
section
variable{W:Wd}
def aA.refl(s:az G H):aA W G H G H:={az.refl _,iP.refl _,s,λZ Z Z h=>h,id}
def aA.trans{d e f i:Hp}(a:aA W G H d e)(b:aA W d e f i):aA W G H f i:=
 {a.g.trans b.g,a.h.trans b.h,b.sub,λx c j k=>b.own x (λz=>c (a.h.free z)) (a.h.yy c j) (a.own x c j k),λt=>b.tab (a.tab t)}
def si{p:i6}{o:HO}(h:∀ps,H p≠ia (.gK ps))(P:i6)(ps:Array i1)(e:H P=ia (.gK ps)):upd H p o P=ia (.gK ps):=by rw [ae (λz=>by subst z;exact h ps e)];exact e
theorem aA.new{p:i6}{o:HO}(s:az G H)(h:H p=ie):aA W G H (upd G p o) (upd H p o) where
 g:=bS (s.free h)
 h:=.of (bS h)
 sub:=λb u e=>by
  by_cases f:b=p
  .subst f;rw [ak] at e⊢;exact e
  .rw [ae f] at e⊢;exact s _ _ e
 own:=λa c Z d=>by
  have:a≠p:=λz=>by subst z;exact c h
  rw [ae this];exact d
 tab:=λt=>t.same (bS (s.free h)) (λa c Z d=>by
  have:a≠p:=λz=>by subst z;exact c h
  rw [ae this];exact d) (si (λi z=>by rw [h] at z;cases z))
def aA.adopt{b:i6}(s:az G H)(h:H b=ia (.tup vs)):aA W G H (upd G b (.tup vs)) H:=by
 have f:az G (upd G b (.tup vs)):=λc u e=>by
  by_cases d:c=b
  .subst d;rw [ak];have:=s _ _ e;rw [h] at this;exact this
  .rw [ae d];exact e
 have g:∀a,H a≠ie->(∀vs,H a≠ia (.tup vs))->G a=ie->upd G b (.tup vs) a=ie:=λa Z n e=>by
  have:a≠b:=λz=>by subst z;exact n vs h
  rw [ae this];exact e
 exact{f,iP.refl _,λc u e=>by
  by_cases d:c=b
  .subst d;rw [ak] at e;cases e;exact h
  .rw [ae d] at e;exact s _ _ e,g,λt=>t.same f g λZ Z e=>e}
def aA.TH{p:i6}{o:HO}(s:az G H)(h:H p=ie):aA W G H G (upd H p o):=
 {az.refl _,.of (bS h),s.trans (bS h),λZ Z Z a=>a,λt=>t.same (az.refl _) (λZ Z Z h=>h) (si (λb z=>by rw [h] at z;cases z))}
end
abbrev aQ(a:kv):List Str:=((a.names.filter λp=>p.2==.free).map (·.1)).reverse
abbrev okN(x:Str):Bool:=!(x==(zu 16))&&!(x==(zu 24))&&!(x==(zu 40))
abbrev ik(x:Str):Bool:=x.cps.toList.contains 64
def ja{b:Type}{a:b}{p:Prop}(h:(ie:Option b)=ia a):p:=nomatch h
def DE{a:Type}{o:Option a}{f:a->Bool}(h:o.any f=ig):∃x,o=ia x/\f x=ig:=by
 cases o with
 |none=>cases h
 |some x=>exact⟨x,rfl,h⟩
abbrev fD:jj->Option Str
 |.Name x _=>ia x|_=>ie
def bR(h:fD e=ia x):∃p,e=.Name x p:=by
 cases e with
 |Name y p=>cases h;exact{_,rfl}
 |_=>exact ja h
abbrev Fj:jj->Option (jj×List jj×List Keyword×Pos)
 |.Call f a k p=>ia (f,a,k,p)|_=>ie
def i3{q:jj×List jj×List Keyword×Pos}(h:Fj e=ia q):e=.Call q.1 q.2.1 q.2.2.1 q.2.2.2:=by
 cases e with
 |Call f a k p=>cases h;rfl
 |_=>exact ja h
abbrev Sy:List Arg->Option (List Str)
 |[]=>ia []|[a]=>ia [a.arg]|_=>ie
abbrev oH(p:lq):Option (List Str):=if(p.posonlyargs.isEmpty&&p.vararg.isNone&&p.kwonlyargs.isEmpty&&p.kw_defaults.isEmpty&&p.kwarg.isNone&&p.defaults.isEmpty)=ig then Sy p.args else ie
def xu{p:lq}{ps:List Str}(h:oH p=ia ps):(p={[],[],ie,[],[],ie,[]}/\ps=[])\/∃a,p={[],[a],ie,[],[],ie,[]}/\ps=[a.arg]:=by
 let(a,b,c,d,e,f,g):=p;unfold oH at h;split at h
 .rename_i q;simp! [zza,List.isEmpty_iff,Option.isNone_iff_eq_none] at q;let(((((i,j),k),m),o),r):=q
  subst i j k m o r;cases b with
  |nil=>cases h;exact .inl ⟨rfl,rfl⟩
  |cons a b=>
   cases b with
   |nil=>cases h;exact .inr ⟨a,rfl,rfl⟩
   |cons _ _=>exact ja h
 .exact ja h
abbrev Jo(i:Nat):Nat:=(i-10000)/1000
abbrev Ou(i:Nat):Str:={(l0 ((i-10000)%1000/10) (48+i%10)).toArray}
abbrev QS:jj->Option Str
 |.Tuple [.Constant (.str z) _ _] _ _=>ia z|_=>ie
def vS(h:QS e=ia z):∃a b c d,e=.Tuple [.Constant (.str z) a b] c d:=by
 unfold QS at h;split at h
 .cases h;exact{_,_,_,_,rfl}
 .cases h
abbrev Kj:jj->Option (Str×Int)
 |.BinOp a .Mult (.Constant (.int k) _ _) _=>(QS a).map λz=>(z,k)|_=>ie
def xD{q:Str×Int}(h:Kj e=ia q):∃a b c d f g i,e=.BinOp (.Tuple [.Constant (.str q.1) a b] c d) .Mult (.Constant (.int q.2) f g) i:=by
 unfold Kj at h;split at h
 .let(z,j,rfl):=c4.mp h;let(a,b,c,d,rfl):=vS j;exact{_,_,_,_,_,_,_,rfl}
 .cases h
abbrev NC(i:Nat)(e:jj):Bool:=if Jo i=1 then QS e==ia (Ou i) else decide (2<=Jo i)&&decide (Jo i<1000)&&Kj e==ia (Ou i,(Jo i:Int))
abbrev BL(N:List Str)(i:Nat)(a:jj):Bool:=if i<10000 then(fD a).any λx=>N[i]?==ia x&&okN x else NC i a
abbrev iQ(N:List Str):List jj->List Nat->Bool
 |[],[]=>ig|a::r,i::t=>BL N i a&&iQ N r t|_,_=>iv
abbrev Ru(ps:List Str)(a:kv):Bool:=
 a.kind==.function&&!a.isCoroutine&&!a.isGenerator&&decide ((ps++aQ a).Nodup)&&(a.names.all λy=>decide (y.2≠.cell))&&(ps.all λx=>decide (a.names.lookup x=ia .local))&&((aQ a).all λx=>decide (a.names.lookup x=ia .free))
abbrev Hn(g:Str)(idx:List Nat)(b:lq)(body:jj)(a:kv):Bool:=(oH b).any λc=>(Fj body).any λq=>fD q.1==ia g&&q.2.2.1.isEmpty&&!q.2.1.isEmpty&&decide (idx.head?=ia c.length)&&a.names.lookup g==ia .globalImplicit&&okN g&&!ik g&&iQ (c++aQ a) q.2.1 idx.tail&&Ru c a
structure RH(W:Wd)(G:Hp)(g:Str)(idx:List Nat)(cI:List PV)(f c':i6)(oc:Obj)(cU:Array i1)(t:Tok)(eT pm:i1)(params:lq)(body:jj)(scope:kv)(qual:Str)(cl:List (Str×i6))(Z:mn)(ws:List V):Prop where
 lg:Hn g idx params body scope=ig
 fo:G f=ia (.bq (PySem.W.kla_obj (zu 1) qual params body scope cl pm c' eT) bA)
 co:G c'=ia (.bq oc bA)
 cd:oc.data=.fields cU
 cn:cU[1]?=ia (.str qual t)
 fz:Z.lookup f=ie
 cz:Z.lookup c'=ie
 inj:∀x y c,cl.lookup x=ia c->cl.lookup y=ia c->x=y
 has:∀y∈aQ scope,∃c,cl.lookup y=ia c
 cells:∀x c,cl.lookup x=ia c->∃o v,Z.lookup c=ia o/\o.data=.cell v
 zs:∀b o,Z.lookup b=ia o->G b=ia (.bq o bA)
 zc:∀b o,Z.lookup b=ia o->∃v,o.data=.cell v
 vals:∀(i:Nat) y c,(aQ scope)[i]?=ia y->cl.lookup y=ia c->∀v,ws[i]?=ia v->∃u o,RelV v u/\Z.lookup c=ia o/\o.data=.cell (ia u)
 len:ws.length=(aQ scope).length
 rep:ag W (aO Z G) cI ws
def qx(W:Wd)(G:Hp)(g:Str)(idx:List Nat)(d:List PV)(v:V):Prop:=∃f e oc h t i j a body b c cl Z k,v=.ref f/\RH W G g idx d f e oc h t i j a body b c cl Z k
theorem qi{Z:mn}{a:Hp}(s:az G a):az (aO Z G) (aO Z a):=λb u e=>by let(q,c):=fb e;rw [ax q];exact s _ _ c
def qx.same{W:Wd}{k:Hp}{j:List PV}(s:az G k)(h:qx W G g idx j v):qx W k g idx j v:=by let(f,m,oc,p,t,r,u,a,body,c,i,cl,Z,w,e,d):=h;exact{f,m,oc,p,t,r,u,a,body,c,i,cl,Z,w,e,{d.lg,s _ _ d.fo,s _ _ d.co,d.cd,d.cn,d.fz,d.cz,d.inj,d.has,d.cells,λb o q=>s _ _ (d.zs b o q),d.zc,d.vals,d.len,ag.same (qi s) j d.rep}}
inductive Slot where
 |no|val (p:PV)|own (p:PV)|fn (g:Str) (idx:List Nat) (cI:List PV)|Fp (ay:List (Int×Int))
 deriving Inhabited
noncomputable abbrev Sl:=List Slot
def Own(W:Wd)(H0 G H:Hp):PV->V->Prop
 |.lst xs,v=>∃a vs,v=.ref a/\H a=ia (.lst vs)/\G a=ie/\H0 a=ie/\ag W G xs vs|.bC ks ps,v=>∃a us,v=.ref a/\ks.length=us.length/\H a=ia (.dT (kz ks us))/\G a=ie/\H0 a=ie/\ag W G ps us|_,_=>False
def Top(W:Wd)(H0 G H:Hp)(p:PV)(v:V):Prop:=Rep W G p v\/Own W H0 G H p v
def E9(W:Wd)(H0 G H:Hp):Slot->Option V->Prop
 |.no,_=>True|.val p,o=>∃v,o=ia v/\Rep W G p v|.own p,o=>∃v,o=ia v/\Own W H0 G H p v|.fn g idx c,o=>∃v,o=ia v/\qx W G g idx c v|.Fp b,o=>∃a,o=ia (.ref a)/\H a=ia (.dK (Xa b))/\G a=ie/\H0 a=ie/\(b.map (·.1)).Nodup
structure SR(W:Wd)(H0:Hp)(env:Sl)(σ:St)(G H:Hp):Prop where
 len:env.length=σ.length
 sub:az G H
 base:iP H0 H
 slot:∀(i:Nat) (s:Slot),env[i]?=ia s->∃o,σ[i]?=ia o/\E9 W H0 G H s o
 apart:∀(i j:Nat) (p q:PV) (a:i6),env[i]?=ia (.own p)->env[j]?=ia (.own q)->σ[i]?=ia (ia (.ref a))->σ[j]?=ia (ia (.ref a))->i=j
 tab:cH W G H
 pf:cH W G H0
section
variable{W:Wd}{G' H':Hp}{env:Sl}
theorem Own.grow(g:aA W G H G' H'):∀{p:PV} {v:V},Own W H0 G H p v->Own W H0 G' H' p v
 |.lst xs,_,h=>by let(a,vs,e,b,c,d,l):=h;exact{a,vs,e,g.h.at b (λZ z=>nomatch z),g.own a (by rw [b];exact λz=>by cases z) (by rw [b];exact λZ z=>by cases z) c,d,ag.same g.g xs l}
 |.bC i f,_,h=>by let(a,vs,e,n,b,c,d,l):=h;exact{a,vs,e,n,g.h.at b (λZ z=>nomatch z),g.own a (by rw [b];exact λz=>by cases z) (by rw [b];exact λZ z=>by cases z) c,d,ag.same g.g f l}
 |.aG,_,h=>h|.bl _,_,h=>h|.int _,_,h=>h|.str _,_,h=>h|.tup _,_,h=>h|.exc _,_,h=>h
theorem E9.grow(g:aA W G H G' H'):∀{s:Slot} {o:Option V},E9 W H0 G H s o->E9 W H0 G' H' s o
 |.no,_,_=>trivial|.val p,_,h=>by let(v,e,r):=h;exact{v,e,Rep.same g.g p r}|.own p,_,h=>by let(v,e,r):=h;exact{v,e,r.grow g}|.fn _ _ _,_,h=>by let(v,e,r):=h;exact{v,e,r.same g.g}|.Fp _,_,h=>by let(a,e,b,c,d,n):=h;exact{a,e,g.h.at b (λZ z=>nomatch z),g.own a (by rw [b];exact nofun) (by rw [b];exact λZ z=>nomatch z) c,d,n}
theorem SR.grow(r:SR W H0 env σ G H)(g:aA W G H G' H'):SR W H0 env σ G' H':=
 {r.len,g.sub,r.base.trans g.h,λi s e=>by let(o,b,c):=r.slot i s e;exact{o,b,c.grow g},r.apart,g.tab r.tab,r.pf.same g.g (λa b d c=>g.own a (λz=>b (r.base.free z)) (r.base.yy b d) c) λZ Z h=>h}
def Top.grow{p:PV}(g:aA W G H G' H')(h:Top W H0 G H p v):Top W H0 G' H' p v:=h.elim (λz=>.inl (Rep.same g.g p z)) λz=>.inr (z.grow g)
def Top.lst{xs:List PV}(s:az G H)(h:Top W H0 G H (.lst xs) v):∃a vs,v=.ref a/\so W.K H a vs/\ag W G xs vs:=by
 rcases h with h|h
 .simp! [Rep] at h;let(a,vs,e,q,l):=h;exact{a,vs,e,az.ls s q,l}
 .let(a,vs,e,b,_,_,l):=h;exact{a,vs,e,.inl (.inl b),l}
def Top.tup{xs:List PV}(s:az G H)(h:Top W H0 G H (.tup xs) v):∃a vs,v=.ref a/\fK W.K H a vs/\ag W G xs vs:=by
 rcases h with h|h
 .simp! [Rep] at h;let(a,vs,e,q,l):=h;exact{a,vs,e,az.tup s q.sq,l}
 .exact h.elim
def Top.tupI{xs:List PV}(s:az G H)(d:xs=ns.map .int)(h:Top W H0 G H (.tup xs) v):∃a,v=.ref a/\G a=ia (.tup (ns.map V.int)):=by
 rcases h with h|h
 .simp! [Rep] at h;let(a,b,e,q,l):=h
  have f:b=ns.map V.int:=by
   subst d;clear q e
   induction ns generalizing b with
   |nil=>simp! [List.map_nil,ag] at l;exact l|cons n ns g=>let(u,r,rfl,c,i):=l.bM;simp! [Rep] at c;rw [c,g r i];rfl
  subst f;rcases q with q|⟨_,⟨z,j⟩,_⟩
  .exact⟨a,e,q⟩
  .let(n,_,k):=hG.mp j;cases k
 .exact h.elim
def Top.bC{ps:List PV}(s:az G H)(h:Top W H0 G H (.bC ks ps) v):∃a us,v=.ref a/\ks.length=us.length/\Rd H a (.dT (kz ks us))/\ag W G ps us:=by
 rcases h with h|h
 .simp! [Rep] at h;let(a,o,us,e,n,q,l):=h;exact{a,us,e,n,.inr {o,s _ _ q},l}
 .let(a,b,e,n,q,_,_,l):=h;exact{a,b,e,n,.inl q,l}
def Top.int{i:Int}(h:Top W H0 G H (.int i) v):v=.int i:=h.elim (λz=>by simpa only [Rep] using z) λz=>z.elim
def Top.bl{b:Bool}(h:Top W H0 G H (.bl b) v):v=.bl b:=h.elim (λz=>by simpa only [Rep] using z) λz=>z.elim
def Top.str{b:Str}(h:Top W H0 G H (.str b) v):v=.str b:=h.elim (λz=>by simpa only [Rep] using z) λz=>z.elim
def Top.aG(h:Top W H0 G H .aG v):v=.aG:=h.elim (λz=>by simpa only [Rep] using z) λz=>z.elim
def Rep.i{i:Int}:Rep W G (.int i) (.int i):=by simp! [Rep]
def Rep.b{i:Bool}:Rep W G (.bl i) (.bl i):=by simp! [Rep]
def Rep.s{i:Str}:Rep W G (.str i) (.str i):=by simp! [Rep]
def Rep.n:Rep W G .aG .aG:=by simp! [Rep]
def Rep.l{xs:List PV}(h:so W.K G a vs)(l:ag W G xs vs):Rep W G (.lst xs) (.ref a):=by simp! [Rep];exact⟨a,vs,rfl,h,l⟩
def Rep.t{xs:List PV}(h:J1 W.K G a vs)(l:ag W G xs vs):Rep W G (.tup xs) (.ref a):=by simp! [Rep];exact⟨a,vs,rfl,h,l⟩
end
end Ci
variable{xs ps ys cp:List Ci.PV}{p q:Ci.PV}{env:Ci.Sl}
namespace L2
open PySem.Spec PyProof.Rows
abbrev mM(z y:Str):Int:=((la.Str.occurrences z y 0 z.length (z.length+1)).length:Int)
def Aw:Bz X "str.count" (λx vs H Q=>∃z y,x=.str z/\vs=[.str y]/\Q (.int (mM z y)) H):=by intro d s e H x vs v f Q I a b h;let(z,y,rfl,rfl,q):=h;let(t,rfl):=a;let(u,rfl,c,rfl):=b.one;exact call_meets F.slot_str_count (typeIs_str s z t) F.entry_str_count (F.args_str_count_2 _ _) (gives_str_count z y t c).meets {.int _,H,I.tok _,{_,rfl},q}
end L2
namespace HT
open PySem.Spec PyProof.Rows
end HT
namespace L2
open PySem.Spec PyProof.Rows
end L2
namespace L2
open PySem.Spec PyProof.Rows PySem.Builtin PySem.Builtin.Str
section
variable{E:ml}{s:i2}{x y:PySem.Str}{t u:Tok}{Q:ml}
def A4(b:(y.length==0)=iv)(hsz:x.length+2<=k6)
 (h:∀l k,l.map (·.1)=Txt.split x y->Q (.ref (zz9 s)) {s with toks:=k,heap:=s.heap.push {cls:=.type "list",data:=.seq (strValues l).toArray}}):
 jk (kn prog w) A (call (.builtin "str.split") [.str x t,.str y u]) Q E s:=by
 have c:(partsBetween x (occurrences x y 0 x.length (x.length+1)) y.length).length<=sizeLine:=by have d:=StrLaws.occ_length_le x y 0 x.length (x.length+1);rw [length_partsBetween];omega
 cases a:(decide (x.length<y.length)||decide (strKind x<strKind y))
 .cases hf:(occurrences x y 0 x.length (x.length+1)).isEmpty
  .refine call_meets F.slot_str_split (typeIs_str _ _ _) F.entry_str_split (F.args_str_split_2 _ _) (meets_str_split_sep x y t u a b hf (by omega) c) ?_;show wants Q E _ {s with toks:=_,heap:=s.heap.push {cls:=.type "list",data:=.seq (strsFrom s.toks (partsBetween x (occurrences x y 0 x.length (x.length+1)) y.length)).toArray}};rw [strsFrom_eq];exact h (numbered s.toks _) _ ((numbered_texts _ _).trans ((if_neg (ne_true_of_eq_false a)).trans (if_neg (ne_true_of_eq_false hf))).symm)
  .exact call_meets F.slot_str_split (typeIs_str _ _ _) F.entry_str_split (F.args_str_split_2 _ _) (meets_str_split_not_found x y t u a b hf)
    (h [(x,t)] s.toks ((if_neg (ne_true_of_eq_false a)).trans (if_pos hf)).symm)
 .exact call_meets F.slot_str_split (typeIs_str _ _ _) F.entry_str_split (F.args_str_split_2 _ _) (meets_str_split_cannot_occur x y t u a)
   (h [(x,t)] s.toks (if_pos a).symm)
theorem ou:∀l:List (PySem.Str×Tok),Vals ((l.map (·.1)).map V.str) (strValues l)
 |[]=>.nil|p::r=>.cons ⟨p.2,rfl⟩ (ou r)
def Du:Bz X "str.split" (λx vs H Q=>∃z y,x=.str z/\vs=[.str y]/\(y.length==0)=iv/\z.length<=100000/\∀a,H a=ie->Q (.ref a) (upd H a (.lst ((Txt.split z y).map V.str)))):=by intro i s j H x vs v m Q I c d h;let(z,y,rfl,rfl,f,hl,q):=h;let(t,rfl):=c;let(u,rfl,p,rfl):=d.one;refine A4 f (by rw [sizeLine_eq];omega) λl k e=>{.ref (zz9 s),upd H (zz9 s) (.lst ((Txt.split z y).map V.str)),?_,rfl,q _ (I.aM.fresh (bc _))};have g:(Txt.split z y).length<=z.length+2:=split_le z y;rw [<-e] at g⊢;exact I.laid (h':=s.heap.push {cls:=.type "list",data:=.seq (strValues l).toArray}) (λb o z=>a5 _ z) (bc _) {by rw [zzl,sizeLine_eq];omega,_,0,ou l,et _ rfl}
def Az:Bz X "str.startswith" (λx vs H Q=>∃z y,x=.str z/\vs=[.str y]/\Q (.bl (Txt.startswith z y)) H):=by intro c s d H x vs v e Q I a b h;let(z,y,rfl,rfl,q):=h;let(t,rfl):=a;let(u,rfl,f,rfl):=b.one;exact SC.startswith {.bl _,H,I,rfl,q}
def wu:Bz X "str.rstrip" (λx vs H Q=>∃z y,x=.str z/\vs=[.str y]/\z.length<=100000/\Q (.str (Txt.rstripChars z y)) H):=by intro c s d H x vs v e Q I a b h;let(z,y,rfl,rfl,hl,q):=h;let(t,rfl):=a;let(u,rfl,f,rfl):=b.one;exact SC.rstripChars (λg k=>{.str _,H,I.tok _,{_,rfl},q}) (by rw [sizeLine_eq];omega)
end
end L2
namespace Ci
open L2
inductive Res(α:Type) where
 |ok (a:α)|exc (c:Str)|bad
variable{f:PV->Res (Option PV)}
abbrev Res.bind{b d:Type}:Res b->(b->Res d)->Res d
 |.ok a,f=>f a|.exc c,_=>.exc c|.bad,_=>.bad
noncomputable instance:Monad Res where
 pure:=.ok
 bind:=Res.bind
def Res.aV{d e:Type}{r:Res d}{f:d->Res e}{b:e}(h:r.bind f=.ok b):∃a,r=.ok a/\f a=.ok b:=by
 cases r with
 |ok a=>exact⟨a,rfl,h⟩|exc c=>cases h
 |bad=>cases h
def Res.dZ{b d:Type}{r:Res b}{f:b->Res d}{c:Str}(h:r.bind f=.exc c):r=.exc c\/∃a,r=.ok a/\f a=.exc c:=by
 cases r with
 |ok a=>exact .inr ⟨a,rfl,h⟩|exc e=>cases h;exact .inl rfl
 |bad=>cases h
abbrev Res.of{b:Type}:Option b->Res b
 |some a=>.ok a|none=>.bad
abbrev Res.well{b:Type}:Res b->Res b
 |.ok a=>.ok a|_=>.bad
noncomputable abbrev cY:Nat:=1000000
abbrev eqs(f:PV->PV->Bool):List PV->List PV->Bool
 |[],[]=>ig|x::xs,y::ys=>f x y&&eqs f xs ys|_,_=>iv
abbrev jg:Nat->PV->PV->Bool
 |_,.aG,.aG=>ig|_,.bl a,.bl b=>a==b|_,.bl a,.int i=>(if a then 1 else 0)==i
 |_,.int i,.bl a=>i==(if a then 1 else 0)
 |_,.int i,.int j=>i==j|_,.str x,.str y=>x==y|n+1,.tup xs,.tup ys=>eqs (jg n) xs ys|n+1,.lst xs,.lst ys=>eqs (jg n) xs ys|_,_,_=>iv
abbrev plain:Nat->PV->Bool
 |_,.aG=>ig|_,.bl _=>ig|_,.int _=>ig|_,.str _=>ig|n+1,.tup xs=>xs.all (plain n)|n+1,.lst xs=>xs.all (plain n)|_,_=>iv
noncomputable abbrev DP:Nat:=9
noncomputable abbrev eqv:PV->PV->Bool:=jg DP
noncomputable abbrev uX:PV->Bool:=plain DP
inductive JP where|add|sub|mul|mod|fdiv
inductive Bv where|eq|ne|lt|le|gt|is|Hj|LD|rn
abbrev aN(i:Int):Bool:=decide (-(2^64)<i)&&decide (i<2^64)
abbrev binOp:JP->PV->PV->Res PV
 |.add,.int i,.int j=>.ok (.int (i+j))|.add,.str x,.str y=>if x.length+y.length<=cY then .ok (.str (x++y)) else .bad
 |.sub,.int i,.int j=>.ok (.int (i-j))|.mul,.int i,.int j=>if aN i||aN j then .ok (.int (i*j)) else .bad
 |.mul,.lst x,.int j=>if 0<=j/\j<1000/\x.length<1000 then .ok (.lst (l0 j.toNat x).flatten) else .bad
 |.mul,.tup x,.int j=>if 1<=j/\j<1000/\0<x.length/\x.length<1000 then .ok (.tup (l0 j.toNat x).flatten) else .bad
 |.mod,.int i,.int j=>if 0<j then .ok (.int (i%j)) else .bad
 |.fdiv,.int i,.int j=>if 0<j/\j<1073741824 then .ok (.int (i/j)) else .bad
 |_,_,_=>.bad
abbrev intsOf:List PV->Option (List Int)
 |[]=>ia []|.int i::r=>(intsOf r).map (i::·)|_=>ie
abbrev au{a:Type}:List (List Int)->List a->List Int->Option a
 |b::ks,v::vs,k=>if b=k then ia v else au ks vs k
 |_,_,_=>ie
abbrev cW(ks:mq)(k:List Int):Bool:=ks.any λa=>decide (a=k)
abbrev bH(ks:mq)(k:List Int):mq:=if cW ks k then ks else ks++[k]
abbrev bD{a:Type}(ks:mq)(vs:List a)(k:List Int)(p:a):List a:=if cW ks k then List.zipWith (λb v=>if b=k then p else v) ks vs else vs++[p]
abbrev bU(ks:mq)(k:List Int):mq:=ks.filter λa=>decide (a≠k)
abbrev aR{a:Type}:List (List Int)->List a->List Int->List a
 |b::ks,v::vs,k=>if b=k then aR ks vs k else v::aR ks vs k
 |_,_,_=>[]
abbrev cb(k:List Int):PV:=.tup (k.map .int)
abbrev LM:PV->Option (List Int)
 |.tup xs=>intsOf xs|_=>ie
abbrev dP(d:Int):PV:=if d= -1 then .aG else match(if d<0 then ie else vv[d.toNat]?) with
 |some s=>.str s|none=>.int d
abbrev dI:PV->Option Int
 |.aG=>ia (-1)|.str s=>if s∈vv then ia (vv.idxOf s) else ie
 |_=>ie
abbrev kP:List Int->PV
 |[r,c,d]=>.tup [.tup [.int r,.int c],dP d]|k=>cb k
abbrev kI:PV->Option (List Int)
 |.tup [.tup [.int r,.int c],x]=>(dI x).map λd=>[r,c,d]|x=>(LM x).bind λk=>if k.length=3 then ie else ia k
abbrev Dm(x:PV)(ys:List PV):Bool:=ys.any λy=>eqv y x
abbrev iL(a b:PV):Res PV:=if uX a&&uX b then .ok (.bl (eqv a b)) else .bad
abbrev iM(a b:PV):Res PV:=if uX a&&uX b then .ok (.bl (!eqv a b)) else .bad
abbrev uT:PV->PV->Res PV
 |.int i,.int j=>.ok (.bl (decide (i<j)))|_,_=>.bad
abbrev uS:PV->PV->Res PV
 |.int i,.int j=>.ok (.bl (decide (i<=j)))|_,_=>.bad
abbrev wH:PV->PV->Res PV
 |.int i,.int j=>.ok (.bl (decide (j<i)))|.str i,.str j=>.ok (.bl (decide (j.cps.toList<i.cps.toList)))|_,_=>.bad
abbrev CP:PV->Bool
 |.aG=>ig|_=>iv
abbrev nD:PV->PV->Res PV
 |a,.aG=>.ok (.bl (CP a))|_,_=>.bad
abbrev ij:PV->PV->Res PV
 |a,.aG=>.ok (.bl (!CP a))|_,_=>.bad
abbrev wI:PV->PV->Res PV
 |.str i,.str j=>.ok (.bl (!(la.Str.occurrences j i 0 j.length 1).isEmpty))|_,_=>.bad
abbrev iT:PV->PV->Res PV
 |a,.lst ys=>if uX a&&ys.all uX then .ok (.bl (!Dm a ys)) else .bad
 |a,.tup ys=>if uX a&&ys.all uX then .ok (.bl (!Dm a ys)) else .bad
 |a,.bC ks _=>(Res.of (kI a)).bind λk=>.ok (.bl (!cW ks k))|_,_=>.bad
abbrev d6:Bv->PV->PV->Res PV
 |.eq=>iL|.ne=>iM|.lt=>uT|.le=>uS|.gt=>wH|.is=>nD|.Hj=>ij|.LD=>wI|.rn=>iT
abbrev aB:PV->PV->Res PV
 |.lst xs,.int i=>Res.of (oF xs i)|.tup xs,.int i=>Res.of (oF xs i)|.str z,.int i=>if z.length<=cY then(Res.of (oF z.cps.toList i)).bind λc=>.ok (.str {#[c]}) else .bad
 |.bC ks vs,y=>(Res.of (kI y)).bind λk=>Res.of (au ks vs k)|_,_=>.bad
abbrev qP{a:Type}(xs:List a)(b c:Option Int):List a:=(xs.drop (HT.rM xs.length 0 b)).take (HT.rM xs.length xs.length c-HT.rM xs.length 0 b)
abbrev dX:PV->Option Int->Option Int->Res PV
 |.lst xs,lo,a=>.ok (.lst (qP xs lo a))|.str z,lo,a=>if z.length<=cY then .ok (.str (Txt.slice z lo a)) else .bad
 |_,_,_=>.bad
inductive B where|len|abs|max2|int|str|tuple|all|any
abbrev boolsOf:List PV->Option (List Bool)
 |[]=>ia []|.bl b::r=>(boolsOf r).map (b::·)|_=>ie
abbrev chars(z:Str):List PV:=z.cps.toList.map λc=>.str {#[c]}
abbrev vN:List PV->Res PV
 |[.lst xs]=>.ok (.int xs.length)|[.tup xs]=>.ok (.int xs.length)|[.str z]=>if z.length<=cY then .ok (.int z.length) else .bad
 |[.bC ks _]=>.ok (.int ks.length)|_=>.bad
abbrev BO:List PV->Res PV
 |[.int i]=>.ok (.int (if i<0 then -i else i))
 |_=>.bad
abbrev BS:List PV->Res PV
 |[.int i,.int j]=>.ok (.int (if j>i then j else i))
 |_=>.bad
abbrev BR:List PV->Res PV
 |[.str z]=>if z.length<=640 then(Res.of (PySem.intText? z)).bind λn=>.ok (.int n) else .bad
 |_=>.bad
abbrev BU:List PV->Res PV
 |[.int i]=>if i.natAbs.log2<1920 then .ok (.str (toString i)) else .bad
 |_=>.bad
abbrev mI:List PV->Res PV
 |[.lst xs]=>.ok (.tup xs)|_=>.bad
abbrev BP:List PV->Res PV
 |[.lst xs]=>(Res.of (boolsOf xs)).bind λbs=>.ok (.bl (bs.all id))|_=>.bad
abbrev BQ:List PV->Res PV
 |[.lst xs]=>(Res.of (boolsOf xs)).bind λbs=>.ok (.bl (bs.any id))|_=>.bad
abbrev d5:B->List PV->Res PV
 |.len=>vN|.abs=>BO|.max2=>BS|.int=>BR|.str=>BU|.tuple=>mI|.all=>BP|.any=>BQ
inductive Ty where|int|bool|tuple|list
abbrev i7:Ty->PV->Bool
 |.int,.int _=>ig|.int,.bl _=>ig|.bool,.bl _=>ig|.tuple,.tup _=>ig|.list,.lst _=>ig|_,_=>iv
abbrev kZ(t:Ty):PV->Res PV
 |.exc _=>.bad|.bC _ _=>.bad|p=>.ok (.bl (i7 t p))
abbrev strsOf:List PV->Option (List Str)
 |[]=>ia []|.str z::r=>(strsOf r).map (z::·)|_=>ie
inductive M where|en|join|fG|jf|eJ
abbrev nt:List PV->Res PV
 |[.str z,.str y]=>if(y.length==0)=iv/\z.length<=100000 then .ok (.lst ((Txt.split z y).map .str)) else .bad
 |_=>.bad
abbrev mStart:List PV->Res PV
 |[.str z,.str y]=>.ok (.bl (Txt.startswith z y))|_=>.bad
abbrev j0:List PV->Res PV
 |[.str z,.str y]=>if z.length<=100000 then .ok (.str (Txt.rstripChars z y)) else .bad
 |_=>.bad
abbrev uG:List PV->Res PV
 |[.str z,.lst xs]=>(Res.of (strsOf xs)).bind λys=>if z.length<=16/\(ys.map (·.length)).sum+ys.length<=cY then .ok (.str (Txt.join z ys)) else .bad
 |_=>.bad
abbrev jZ:List PV->Res PV
 |[.str z,.str y]=>.ok (.int (mM z y))|_=>.bad
abbrev nv:M->List PV->Res PV
 |.join=>uG|.en=>jZ|.fG=>nt|.jf=>mStart|.eJ=>j0
abbrev nk:M->PV->Bool
 |.join,.str _=>ig|.en,.str _=>ig|.fG,.str _=>ig|.jf,.str _=>ig|.eJ,.str _=>ig|_,_=>iv
inductive Tg where
 |one (i:Nat)|two (i j:Nat)
mutual
inductive E where
 |var (i:Nat)|f7 (i:Nat)
 |cst (p:PV)
 |glob (g:Str) (p:PV)
 |call (f:Str) (as:Es)
 |jo (i:Nat) (as:Es)
 |pC (f:Str) (as:Es) (g:Str) (idx:List Nat) (aZ:List Nat)
 |blt (b:B) (as:Es)
 |ty (t:Ty) (a:E)
 |yv (m:M) (o:E) (as:Es)
 |bin (o:JP) (a b:E)
 |cmp (o:Bv) (a b:E)
 |ch (o1 o2:Bv) (a b c:E)
 |not (a:E)
 |neg (a:E)
 |and (a b:E)|or (a b:E)
 |ite (c a b:E)
 |tup (as:Es)|lst (as:Es)
 |sub (a b:E)
 |slice (a:E) (lo hi:Oe)
 |comp (k:Nat) (aZ:List Nat) (tg:Tg) (it:I) (elt:E)
 |ei (k:Nat) (aZ:List Nat) (tg:Tg) (it:I) (c elt:E)
inductive Es where
 |nil|cons (e:E) (es:Es)
inductive Oe where
 |no|some (e:E)
inductive I where
 |seq (e:E)|va (e:E)|rL (a b:E)|enum (e:E)|zip (as:Es)
end
mutual
inductive S where
 |expr (e:E)
 |set (i:Nat) (e:E)
 |own (i:Nat) (e:E)
 |bq (i:Nat)
 |app (i:Nat) (e:E)
 |lC (i:Nat) (e:E)
 |put (i:Nat) (k e:E)
 |ret (e:E)
 |ite (c:E) (a b:Ss)
 |cV (tg:Tg) (it:I) (b:Ss)
 |E4 (c:E) (b:Ss)
 |raise (c:Str) (m:Str)
 |brk
 |kC (i:Nat)
 |fc (i j n:Nat)
 |nu (m i:Nat)
 |fW (m:Nat) (e:E) (i:Nat)
inductive Ss where
 |nil|cons (s:S) (ss:Ss)
end
abbrev fy:List Int->Nat->Nat->Int->Nat
 |[],_,b,_=>b|c::cs,j,b,m=>if c<m then fy cs (j+1) j c else fy cs (j+1) b m
abbrev sO:List Int->Option Nat
 |[]=>ie|c::cs=>ia (fy cs 1 0 c)
abbrev uD:List PV->Option (mq)
 |[]=>ia []|x::r=>(kI x).bind λk=>(uD r).map (k::·)
abbrev QT(b:Bool):PV->Option Int
 |.tup (.int n::_)=>if b then ia n else ie
 |.int n=>if b then ie else ia n
 |_=>ie
abbrev Fo(b:Bool)(ks:mq)(ps:List PV):List (List Int)->Option (List Int)
 |[]=>ia []|k::r=>((au ks ps k).bind (QT b)).bind λn=>(Fo b ks ps r).map (n::·)
abbrev p9(b:Bool)(s:Option Slot)(p:PV):Res PV:=match p,s with
 |.lst xs,ia (.val (.bC c d))=>match(uD xs).bind λa=>(Fo b c d a).bind λcs=>(sO cs).bind λix=>a[ix]? with
  |some k=>.ok (kP k)|none=>.bad
 |_,_=>.bad
abbrev i5:List PV->Option (List Int)
 |[]=>ia []|.tup (.int c::_)::r=>(i5 r).map (c::·)|_=>ie
noncomputable abbrev aJ:=Str->List PV->Res PV
abbrev qj:Option Slot->Res PV
 |some (.val p)=>.ok p|_=>.bad
abbrev Ei:Option Slot->Res PV
 |some (.val p)=>.ok p|some (.own p)=>.ok p|_=>.bad
abbrev Tg.put:Tg->PV->Sl->Res Sl
 |.one i,p,env=>.ok (env.set i (.val p))|.two i j,.tup [a,b],env=>.ok ((env.set i (.val a)).set j (.val b))|_,_,_=>.bad
abbrev kq(env:Sl):List Nat->Res (List PV)
 |[]=>.ok []|i::r=>(qj env[i]?).bind λp=>(kq env r).bind λps=>.ok (p::ps)
abbrev Km(i:Nat):PV:=.tup (l0 (Jo i) (.str (Ou i)))
abbrev atC(l:List PV)(i:Nat):Res PV:=if i<10000 then Res.of l[i]? else .ok (Km i)
abbrev fm(l:List PV):List Nat->Res (List PV)
 |[]=>.ok []|i::r=>(atC l i).bind λp=>(fm l r).bind λps=>.ok (p::ps)
abbrev f9(env:Sl)(a:List Nat):Sl:=a.map λi=>env.getD i .no
abbrev itemsOf:PV->Res (List PV)
 |.lst xs=>.ok xs|.tup xs=>.ok xs|.str z=>.ok (chars z)|_=>.bad
abbrev wU(e:E)(p:PV):Res (List PV):=match p,e with
 |.bC _ _,.f7 _=>.bad|.bC a _,_=>.ok (a.map kP)|p,_=>itemsOf p
abbrev fF(a:Int)(n:Nat):List PV:=(List.range n).map λi=>.int (a+(i:Nat))
abbrev aW(i:Int):Bool:=decide (-(2^62)<=i)&&decide (i<2^62)
abbrev P6:PV->Option (List PV)
 |.lst xs=>ia xs|.tup xs=>ia xs|_=>ie
abbrev j6:List PV->Option (List (List PV))
 |[]=>ia []|p::r=>(P6 p).bind λxs=>(j6 r).map (xs::·)
abbrev fW:List (List PV)->Nat
 |[]=>0|[xs]=>xs.length|xs::r=>min xs.length (fW r)
abbrev oz(xss:List (List PV)):List PV:=(List.range (fW xss)).map λi=>.tup (xss.map λxs=>xs.getD i .aG)
abbrev cX(n:Nat):List PV->List PV
 |[]=>[]|x::xs=>.tup [.int (n:Nat),x]::cX (n+1) xs
abbrev oc:Option PV->List PV->List PV
 |some y,ys=>y::ys|none,ys=>ys
abbrev aP(f:PV->Res (Option PV)):List PV->Res (List PV)
 |[]=>.ok []|x::xs=>(f x).well.bind λo=>(aP f xs).bind λys=>.ok (oc o ys)
abbrev sy{a:Type}(p:PV)(f:Bool->Res a):Res a:=match p with
 |.bl b=>f b|_=>.bad
section
variable(F:aJ)
mutual
noncomputable def aC:E->Sl->Res PV
 |.var i,env=>qj env[i]?|.f7 i,env=>Ei env[i]?|.cst p,_=>.ok p|.glob _ p,_=>.ok p|.call f as,env=>(bZ as env).bind λps=>F f ps|.jo i as,env=>match env[i]? with
  |some (.fn g idx q)=>(bZ as env).bind λps=>if idx.head?=ia ps.length then(fm (ps++q) idx.tail).bind λqs=>F g qs else .bad
  |_=>.bad
 |.pC f as _ _ d,env=>(bZ as env).bind λps=>(kq env d).bind λcs=>F f (ps++cs)|.blt b as,env=>(bZ as env).bind λps=>d5 b ps|.ty t a,env=>(aC a env).bind λp=>kZ t p|.yv m o as,env=>(aC o env).bind λp=>if nk m p then(bZ as env).bind λps=>nv m (p::ps) else .bad
 |.bin o a b,env=>(aC a env).bind λx=>(aC b env).bind λy=>binOp o x y|.cmp o a b,env=>(aC a env).bind λx=>(aC b env).bind λy=>d6 o x y|.ch r s a b c,env=>(aC a env).bind λx=>(aC b env).bind λy=>(d6 r x y).bind λt=>sy t λt=>if t then(aC c env).bind λz=>d6 s y z else .ok (.bl iv)
 |.not a,env=>(aC a env).bind λx=>sy x λb=>.ok (.bl (!b))|.neg a,env=>(aC a env).bind λx=>match x with|.int i=>.ok (.int (-i))|_=>.bad
 |.and a b,env=>(aC a env).bind λx=>sy x λt=>if t then aC b env else .ok (.bl iv)
 |.or a b,env=>(aC a env).bind λx=>sy x λt=>if t then .ok (.bl ig) else aC b env
 |.ite c a b,env=>(aC c env).bind λx=>sy x λt=>if t then aC a env else aC b env
 |.tup as,env=>(bZ as env).bind λps=>.ok (.tup ps)|.lst as,env=>(bZ as env).bind λps=>.ok (.lst ps)|.sub a b,env=>(aC a env).bind λx=>(aC b env).bind λy=>aB x y|.slice a lo u,env=>(aC a env).bind λx=>(xO lo env).bind λl=>(xO u env).bind λh=>dX x l h|.comp k d j it elt,env=>(sA it env).bind λxs=>if xs.length<cY then(aP (λx=>(j.put x (l0 k .no++f9 env d)).bind λe=>(aC elt e).bind λy=>.ok (ia y)) xs).bind λys=>.ok (.lst ys) else .bad
 |.ei k d j it c elt,env=>(sA it env).bind λxs=>if xs.length<cY then(aP (λx=>(j.put x (l0 k .no++f9 env d)).bind λe=>(aC c e).bind λt=>sy t λt=>if t then(aC elt e).bind λy=>.ok (ia y) else .ok ie) xs).bind λys=>.ok (.lst ys) else .bad
noncomputable def bZ:Es->Sl->Res (List PV)
 |.nil,_=>.ok []|.cons e a,env=>(aC e env).bind λp=>(bZ a env).bind λps=>.ok (p::ps)
noncomputable def xO:Oe->Sl->Res (Option Int)
 |.no,_=>.ok ie|.some e,env=>(aC e env).bind λp=>match p with|.int i=>.ok (ia i)|_=>.bad
noncomputable def sA:I->Sl->Res (List PV)
 |.seq e,env=>(aC e env).bind (wU e)|.va e,env=>(aC e env).bind λp=>match p with|.int j=>if aW j then .ok (fF 0 j.toNat) else .bad|_=>.bad
 |.rL a b,env=>(aC a env).bind λp=>(aC b env).bind λq=>match p,q with|.int i,.int j=>if aW i&&aW j then .ok (fF i (j-i).toNat) else .bad|_,_=>.bad
 |.enum e,env=>(aC e env).bind λp=>(itemsOf p).bind λxs=>.ok (cX 0 xs)|.zip as,env=>(bZ as env).bind λps=>(Res.of (j6 ps)).bind λxss=>.ok (oz xss)
end
end
inductive Fl where
 |nx (env:Sl)|bk (env:Sl)|ct (env:Sl)|rt (p:PV)
abbrev Fl.seq(f:Fl)(k:Sl->Res Fl):Res Fl:=match f with
 |.nx env=>k env|f=>.ok f
abbrev forL(body:PV->Sl->Res Fl):List PV->Sl->Res Fl
 |[],env=>.ok (.nx env)|x::xs,env=>(body x env).bind λf=>match f with
  |.nx a=>forL body xs a|.ct a=>forL body xs a|.bk a=>.ok (.nx a)|.rt p=>.ok (.rt p)
abbrev dD(c:Sl->Res PV)(body:Sl->Res Fl):Nat->Sl->Res Fl
 |0,_=>.bad|n+1,env=>(c env).bind λt=>sy t λt=>if t then(body env).bind λf=>(match f with
  |.nx a=>dD c body n a|.ct a=>dD c body n a|.bk a=>.ok (.nx a)|.rt p=>.ok (.rt p)) else .ok (.nx env)
noncomputable abbrev WN:Nat:=1000000
abbrev qV:Slot->Slot
 |.own p=>.val p|s=>s
section
variable(F:aJ)
mutual
noncomputable def jh:S->Sl->Res Fl
 |.expr e,env=>(aC F e env).bind λZ=>.ok (.nx env)|.set i e,env=>(aC F e env).bind λp=>.ok (.nx (env.set i (.val p)))|.own i e,env=>(aC F e env).bind λp=>.ok (.nx (env.set i (.own p)))|.bq i,env=>.ok (.nx (env.modify i qV))|.app i e,env=>match env[i]? with
  |some (.own (.lst xs))=>(aC F e env).bind λp=>if xs.length<cY then .ok (.nx (env.set i (.own (.lst (xs++[p]))))) else .bad
  |_=>.bad
 |.lC i e,env=>match env[i]? with
  |some (.own (.lst xs))=>(aC F e env).bind λp=>match p with
   |.lst ys=>if xs.length+ys.length<=cY then .ok (.nx (env.set i (.own (.lst (xs++ys))))) else .bad
   |_=>.bad
  |_=>.bad
 |.put i k e,env=>(aC F e env).bind λp=>match env[i]? with
  |some (.own (.lst xs))=>(aC F k env).bind λkp=>match kp with
   |.int n=>(Res.of (ye xs.length n)).bind λj=>.ok (.nx (env.set i (.own (.lst (xs.set j p)))))|_=>.bad
  |some (.own (.bC ks vs))=>(aC F k env).bind λkp=>match kI kp with
   |some kk=>if ks.length<cY then .ok (.nx (env.set i (.own (.bC (bH ks kk) (bD ks vs kk p))))) else .bad
   |none=>.bad
  |_=>.bad
 |.ret e,env=>(aC F e env).bind λp=>.ok (.rt p)|.ite c a b,env=>(aC F c env).bind λp=>sy p λt=>if t then aX a env else aX b env
 |.cV f it b,env=>(sA F it env).bind λxs=>forL (λx env=>(f.put x env).bind λg=>aX b g) xs env|.E4 c b,env=>dD (aC F c) (aX b) WN env|.raise c _,_=>.exc c|.brk,env=>.ok (.bk env)|.kC i,env=>.ok (.nx (env.set i (.own (.bC [] []))))|.fc i j n,env=>match env[j]?,env[i]?,env[n]? with
  |some (.own (.bC ks vs)),ia (.own (.bC d h)),ia (.val kp)=>match kI kp with
   |some kk=>match au ks vs kk with
    |some p=>if d.length<cY/\i≠j then .ok (.nx ((env.set j (.own (.bC (bU ks kk) (aR ks vs kk)))).set i (.own (.bC (bH d kk) (bD d h kk p))))) else .bad
    |none=>.bad
   |none=>.bad
  |_,_,_=>.bad
 |.fW m e i,env=>(aC F e env).bind λp=>match p9 ig env[i]? p with
  |.ok r=>.ok (.nx (env.set m (.val r)))|_=>.bad
 |.nu m i,env=>match env[i]? with
  |some (.own (.bC ks vs))=>match i5 vs with
   |some cs=>match(sO cs).bind λx=>ks[x]? with
    |some k=>.ok (.nx (env.set m (.val (kP k))))|none=>.bad
   |none=>.bad
  |_=>.bad
noncomputable def aX:Ss->Sl->Res Fl
 |.nil,env=>.ok (.nx env)|.cons s ss,env=>(jh s env).bind λf=>f.seq (aX ss)
end
end
structure Def where
 N:List Str
 np:Nat
 body:Ss
 iA:Option (Str×List Nat):=ie
abbrev c8(d:Def)(as:List PV):Sl:=match d.iA with
 |none=>as.map .val++l0 (d.N.length-as.length) .no|some q=>(as.take (d.np-1)).map .val++.fn q.1 q.2 (as.drop (d.np-1))::l0 (d.N.length-d.np) .no
abbrev c7(d:Def)(as:List PV):Bool:=match d.iA with
 |none=>as.length==d.np|some _=>decide (0<d.np)&&decide (d.np-1<=as.length)
abbrev aq(F:aJ)(d:Def)(as:List PV):Res PV:=
 if c7 d as then(aX F d.body (c8 d as)).bind λf=>match f with
  |.nx _=>.ok .aG|.rt p=>.ok p|_=>.bad
 else .bad
abbrev den:List (Str×Def)->aJ
 |[],_,_=>.bad|(n,d)::r,f,as=>if f==n then aq (den r) d as else den r f as
def Qp{a b:Int}{s:Str}(e:(if a<0 then ie else vv[a.toNat]?)=ia s)(c:(if b<0 then ie else vv[b.toNat]?)=ia s):a=b:=by
 have nd:vv.Nodup:=by decide+kernel
 split at e
 .cases e
 split at c
 .cases c
 let(g,d):=cP.mp e;let(h,f):=cP.mp c;have:=(List.getElem_inj nd).1 (d.trans f.symm);omega
def Kt{a b:Int}(h:dK a=dK b):a=b:=by
 unfold dK at h;by_cases c:a= -1<;>by_cases d:b= -1
 .omega
 .rw [if_pos c,if_neg d] at h;split at h<;>cases h
 .rw [if_neg c,if_pos d] at h;split at h<;>cases h
 .rw [if_neg c,if_neg d] at h;cases e:(if a<0 then ie else vv[a.toNat]?)<;>cases f:(if b<0 then ie else vv[b.toNat]?)<;>rw [e,f] at h<;>cases h
  .rfl
  .exact Qp e f
set_option tactic.hygienic true in
def wb{a b:List Int}(h:ki a=ki b):a=b:=by
 have go:∀{a b:List Int},a.map iK=b.map iK->a=b:=by
  intro a
  induction a with
  |nil=>intro b h;cases b with|nil=>rfl|cons=>cases h
  |cons x a c=>intro b h;cases b with
   |nil=>cases h
   |cons y b=>simp! [bf,List.cons.injEq,bj.k.injEq,Sum.inl.injEq] at h;rw [h.1,c h.2]
 unfold ki at h;split at h<;>split at h
 .simp! [List.cons.injEq,bj.t.injEq,Sum.inl.injEq] at h;rw [h.1.1,h.1.2.1,Kt h.2.1]
 .rename_i x _;rcases b with _|⟨q,b⟩
  .cases h
  .cases h
 .rcases a with _|⟨q,b⟩
  .cases h
  .cases h
 .exact go h
def Tw{b:i6}(n:k.length≠3)(e:H b=ia (.tup (k.map V.int))):cF H b (ki k):=by rw [yh n];exact cF.ints e
def Tv{b:i6}(n:k.length≠3)(e:cF H b (ki k)):H b=ia (.tup (k.map V.int)):=by rw [yh n] at e;exact e.Nf
theorem jY{u:V}{us:List V}:kz (k::ks) (u::us)=(ki k,u)::kz ks us:=rfl
def g9{us:List V}(h:ks.length=us.length):(kz ks us).length=ks.length:=by unfold kz;rw [List.length_zip,zzl];omega
def yk{us:List V}(h:ks.length=us.length):(kz ks us).map (·.1)=ks.map ki:=by unfold kz;exact List.map_fst_zip (by rw [zzl];omega)
theorem kK(k:List Int):∀(ks:mq) (us:List V),gL (kz ks us) (ki k)=au ks us k
 |[],us=>by unfold au;rfl|a::ks,[]=>by unfold au;rfl|a::ks,u::us=>by
  rw [jY];unfold au;by_cases h:a=k
  .subst h;rw [if_pos rfl];exact iw rfl
  .rw [if_neg h,iu (λz=>h (wb z))];exact kK k ks us
theorem eG{b:Type}(k:List Int):∀(ks:mq) (us:List b),ks.length=us.length->(au ks us k).isSome=cW ks k
 |[],[],_=>rfl|a::ks,u::us,h=>by
  unfold au cW;rw [List.any_cons];by_cases e:a=k
  .simp [e]
  .rw [if_neg e];have:=eG k ks us (zx6 h);unfold cW at this;rw [this];simp [e]
 |[],_::_,h=>by simp at h|_::_,[],h=>by simp at h
def J5(k:List Int):∀(ks:mq) (us:List V),ks.length=us.length->((kz ks us).any λa=>decide (a.1=ki k))=cW ks k:=λks us h=>by rw [oo,kK,eG k ks us h]
def Dc{us:List V}(h:ks.length=us.length)(k:List Int)(v:V):putK (kz ks us) (ki k) v=kz (bH ks k) (bD ks us k v):=by
 unfold putK bH bD;rw [J5 k ks us h];split
 .have go:∀(ks:mq) (us:List V),(kz ks us).map (λb=>if b.1=ki k then(b.1,v) else b)=kz ks (List.zipWith (λc u=>if c=k then v else u) ks us):=by
   intro ks
   induction ks with
   |nil=>intro us;simp [kz]|cons a ks d=>
    intro us;cases us with
    |nil=>simp [kz]|cons u us=>
     rw [jY,bf,List.zipWith_cons_cons,jY,d];by_cases e:a=k
     .simp [e]
     .rw [if_neg (λz=>e (wb z)),if_neg e]
  exact go ks us
 .unfold kz;rw [List.map_append,List.zip_append (by rw [zzl];exact h)];rfl
def uZ{a:Type}{us:List a}(h:ks.length=us.length)(k:List Int)(v:a):(bH ks k).length=(bD ks us k v).length:=by
 unfold bH bD;split
 .rw [List.length_zipWith];omega
 .simp [h]
theorem yj(k:List Int):∀{ks:mq} {us:List V},ks.length=us.length->gA (kz ks us) (ki k)=kz (bU ks k) (aR ks us k)
 |[],[],_=>rfl|a::ks,u::us,h=>by
  have b:=yj k (ks:=ks) (us:=us) (zx6 h);unfold bU aR;rw [jY,hL];by_cases e:a=k
  .subst e;rw [zS rfl,b];simp [bU]
  .rw [zR (λz=>e (wb z)),b,if_neg e,if_pos (zx6 e),jY];rfl
 |[],_::_,h=>by simp at h|_::_,[],h=>by simp at h
theorem tJ{c:Type}(k:List Int):∀{ks:mq} {us:List c},ks.length=us.length->(bU ks k).length=(aR ks us k).length
 |[],[],_=>by unfold aR;rfl|a::ks,u::us,h=>by
  have b:=tJ k (ks:=ks) (us:=us) (zx6 h);unfold bU aR;rw [hL];by_cases e:a=k
  .subst e;rw [if_neg (by simp),if_pos rfl];exact b
  .rw [if_neg e,if_pos (zx6 e),c6,c6];exact congrArg (·+1) b
 |[],_::_,h=>by simp at h|_::_,[],h=>by simp at h
section
variable{W:Wd}
theorem mi:∀{ks:mq} {ps:List PV} {us:List V},ag W G ps us->au ks ps k=ia p->∃v,au ks us k=ia v/\Rep W G p v
 |[],_,_,_,e=>by unfold au at e;cases e
 |a::ks,[],_,_,e=>by unfold au at e;cases e
 |a::ks,q::ps,_,l,e=>by
  let(v,r,rfl,b,c):=l.bM;unfold au at e⊢;by_cases h:a=k
  .rw [if_pos h] at e⊢;cases e;exact⟨v,rfl,b⟩
  .rw [if_neg h] at e⊢;exact mi c e
theorem EM(c:Rep W G p v):∀{ks:mq} {ps:List PV} {us:List V},ag W G ps us->ag W G (List.zipWith (λb v=>if b=k then p else v) ks ps) (List.zipWith (λb u=>if b=k then v else u) ks us)
 |[],_,_,_=>by simp! [List.zipWith_nil_left];exact .nil|a::ks,[],_,l=>by simp! [ag] at l;subst l;simp! [List.zipWith_nil_right];exact .nil|a::ks,q::ps,_,l=>by
  let(u,r,rfl,d,e):=l.bM;rw [List.zipWith_cons_cons,List.zipWith_cons_cons];refine .cons ?_ (EM c e);split
  .exact c
  .exact d
def yH{us:List V}(l:ag W G ps us)(a:Rep W G p v):ag W G (bD ks ps k p) (bD ks us k v):=by
 unfold bD;split
 .exact EM a l
 .exact l.append (.cons a .nil)
theorem mQ:∀{ks:mq} {ps:List PV} {us:List V},ag W G ps us->ag W G (aR ks ps k) (aR ks us k)
 |[],_,_,_=>by unfold aR;exact .nil|a::ks,[],_,l=>by simp! [ag] at l;subst l;unfold aR;exact .nil|a::ks,q::ps,_,l=>by
  let(u,r,rfl,c,b):=l.bM;unfold aR;split
  .exact mQ b
  .exact .cons c (mQ b)
end
theorem pU:∀{xs:List PV} {ns:List Int},intsOf xs=ia ns->xs=ns.map .int
 |[],_,e=>by cases e;rfl
 |.int i::r,_,e=>by unfold intsOf at e;let(ns,a,rfl):=c4.mp e;rw [pU a];rfl|.aG::_,_,e=>by cases e
 |.bl _::_,_,e=>by cases e
 |.str _::_,_,e=>by cases e
 |.tup _::_,_,e=>by cases e
 |.lst _::_,_,e=>by cases e
 |.exc _::_,_,e=>by cases e
 |.bC _ _::_,_,e=>by cases e
def Hm(h:LM p=ia k):p=cb k:=by
 unfold LM at h;split at h
 .rw [pU h];rfl
 .cases h
def Ow(h:dI p=ia d):p=dP d:=by
 unfold dI at h;split at h
 .cases h;rfl
 .rename_i s;split at h
  .rename_i m;cases h;have hl:=List.idxOf_lt_length_iff.2 m;unfold dP;rw [if_neg (by omega),if_neg (by omega),hU,zzg hl,List.getElem_idxOf]
  .cases h
 .cases h
def rg(n:k.length≠3):kP k=cb k:=by
 unfold kP;split
 .exact absurd rfl n
 .rfl
def uz(h:kI p=ia k):p=kP k:=by
 unfold kI at h;split at h
 .let(d,a,rfl):=c4.mp h;rw [Ow a];rfl
 .let(c,a,b):=eu.mp h;split at b
  .cases b
  .rename_i n;cases b;rw [rg n];exact Hm a
section
variable{W:Wd}
def Top.ky(s:az G H)(h:Top W H0 G H (kP k) v):∃b,v=.ref b/\cF G b (ki k):=by
 by_cases n:k.length=3
 .match k,n with
  |[r,c,d],_=>
   rcases h with h|h
   .have h:Rep W G (.tup [.tup [.int r,.int c],dP d]) v:=h;simp! [Rep] at h;let(a,m,rfl,q,l):=h;let(u,o,rfl,i,l):=l.bM;let(w,p,rfl,f,l):=l.bM;simp! [ag] at l;subst l;let(g,rfl,j):=Top.tupI (W:=W) (H0:=G) (G:=G) (H:=G) (ns:=[r,c]) (az.refl G) rfl (.inl i)
    rcases q with q|⟨_,_,z⟩
    .refine{a,rfl,_,q,.cons ⟨g,rfl,j⟩ (.cons ?_ .nil)};unfold dP at f;unfold dK;split at f
     .simp! [Rep] at f;rw [if_pos (by assumption)];exact f
     .rw [if_neg (by assumption)];split at f<;>rename_i e<;>(try rw [e])<;>simp! [Rep] at f<;>exact f
    .exact absurd dV (z g)
   .exact h.elim
 .rw [rg n] at h;let(a,e,q):=Top.tupI s rfl h;exact{a,e,Tw n q}
theorem Rep.ky(h:Rep W G (kP k) v):∃b,v=.ref b/\cF G b (ki k):=Top.ky (H0:=G) (az.refl G) (.inl h)
def kJ{b:i6}{k:List bj}(s:az G H)(h:cF G b k):cF H b k:=h.keeps λZ Z e=>s _ _ e
def nc{b:i6}(sg:az G H)(h:cF H b (ki k)):∃f,aA W G H f H/\Rep W f (kP k) (.ref b):=by
 have all:∀(f:Hp) (l:List Int),ag W f (l.map .int) (l.map V.int):=λf l=>by
  induction l with
  |nil=>exact .nil|cons x l q=>exact .cons .i q
 by_cases n:k.length=3
 .match k,n with
  |[r,c,d],_=>
   let(w,e,p):=h
   cases p with
   |cons s p=>
    cases p with
    |cons j p=>
     cases p;let(a,rfl,u):=s;have m:=aA.adopt (W:=W) sg u;have o:=aA.adopt (W:=W) m.sub e;refine{_,m.trans o,.t (.inl ak) (.cons (Rep.same o.g _ (.t (.inl ak) (all _ [r,c]))) (.cons ?_ .nil))};unfold dK at j;unfold dP;split at j
     .rw [if_pos (by assumption)];simp! [Rep];exact j
     .rw [if_neg (by assumption)];split at j<;>rename_i z<;>(try rw [z])<;>simp! [Rep]<;>exact j
 .have e:=Tv n h;rw [rg n];exact{_,aA.adopt sg e,.t (.inl ak) (all _ _)}
end
end Ci
variable{f:Ci.PV->Ci.Res (Option Ci.PV)}{it:Ci.I}
namespace L2
open PySem.Spec PyProof.Rows
end L2
namespace Ci
open L2
def ni{n:Nat}(h:n<=cY):n<=sizeLine:=eg h (by decide)
section
variable{W:Wd}
def dG(W:Wd)(G H:Hp)(r:PV)(Q:VK):Prop:=∀v a b,aA W G H a b->Rep W a r v->Q v b
def dG.at{r:PV}(h:dG W G H r Q)(s:az G H)(k:Rep W G r v):Q v H:=h v G H (.refl s) k
def dG.tup{p:i6}(h:dG W G H (.tup xs) Q)(s:az G H)(k:ag W G xs vs)(a:H p=ie):Q (.ref p) (upd H p (.tup vs)):=
 h _ _ _ (.new s a) (.t (.inl ak) (ag.same (bS (s.free a)) xs k))
def dG.lst{p:i6}(h:dG W G H (.lst xs) Q)(s:az G H)(k:ag W G xs vs)(a:H p=ie):Q (.ref p) (upd H p (.lst vs)):=
 h _ _ _ (.new s a) (.l (.inl (.inl ak)) (ag.same (bS (s.free a)) xs k))
theorem lV{f:PV->PV->Bool}:∀{xs ys:List PV},xs.length≠ys.length->eqs f xs ys=iv
 |[],[],h=>absurd rfl h|_::xs,_::ys,h=>by simp! [eqs];rw [lV (xs:=xs) (ys:=ys) (λz=>h (by simp [z]))];simp|[],_::_,_=>rfl|_::_,[],_=>rfl
theorem lU{f:PV->PV->Bool}:∀{xs ys:List PV},xs.length=ys.length->eqs f xs ys=(List.range xs.length).all λj=>f (xs.getD j .aG) (ys.getD j .aG)
 |[],[],_=>rfl|x::xs,y::ys,h=>by simp! [eqs];rw [lU (xs:=xs) (ys:=ys) (zx6 h),c6,List.range_succ_eq_map,List.all_cons,List.all_map];rfl|[],_::_,h=>by simp at h|_::_,[],h=>by simp at h
def pM{f:PV->PV->Bool}:∀{xs ys:List PV},((List.range (min xs.length ys.length)).all (λj=>f (xs.getD j .aG) (ys.getD j .aG))&&xs.length==ys.length)=eqs f xs ys:=λ{xs ys}=>by
 by_cases h:xs.length=ys.length
 .rw [lU h,h,Nat.min_self,beq_self_eq_true,Bool.and_true]
 .rw [lV h,beq_eq_false_iff_ne.mpr h,Bool.and_false]
theorem tQ{f:PV->PV->Bool}:∀{xs ys:List PV},xs.length=ys.length->(∀(j:Nat) x y,xs[j]?=ia x->ys[j]?=ia y->f x y=ig)->eqs f xs ys=ig
 |[],[],_,_=>rfl|x::xs,y::ys,h,k=>by simp! [eqs];rw [k 0 x y rfl rfl,tQ (xs:=xs) (ys:=ys) (zx6 h) λj a b c d=>k (j+1) a b (zx6 c) (zx6 d)];rfl|[],_::_,h,_=>by simp at h|_::_,[],h,_=>by simp at h
def oG(hK:W.K=X.K){a:i6}{vs:List V}(h:so W.K H a vs):iX X.K H a vs:=by
 rw [hK] at h;rcases h with h|⟨b,n,c,d,e⟩
 .exact .inl h
 .exact .inr {_,b,n,c,rfl,rfl,rfl,d,e}
def uO{d:mn}{f:St}{s:i2}(I:Inv X d f H s){us:List V}(g:fK X.K H a vs)(h:iX X.K H a us):False:=by let(j,_,(o,e,i,_),_):=I.tuple g;let(k,_,(m,n,c,b,_),_):=I.list h;rw [e] at c;cases c;rw [i] at b;exact absurd b (by decide)
theorem kM{c:Type}:∀{xs ys:List c},xs.length=ys.length->(∀(j:Nat) x y,xs[j]?=ia x->ys[j]?=ia y->x=y)->xs=ys
 |[],[],_,_=>rfl|x::xs,y::ys,h,k=>by rw [k 0 x y rfl rfl,kM (xs:=xs) (ys:=ys) (zx6 h) λj a b d e=>k (j+1) a b (zx6 d) (zx6 e)]|[],_::_,h,_=>by simp at h|_::_,[],h,_=>by simp at h
def W5(X:Cx)(W:Wd)(G H:Hp):PV->V->Prop
 |.aG,v=>v=.aG|.bl b,v=>v=.bl b|.int i,v=>v=.int i|.str z,v=>v=.str z|.tup xs,v=>∃a,v=.ref a/\∃vs,fK X.K H a vs/\ag W G xs vs|.lst xs,v=>∃a,v=.ref a/\∃vs,iX X.K H a vs/\ag W G xs vs|_,_=>False
def RE(hK:W.K=X.K)(sg:az G H){n:Nat}(f:plain n p=ig)(h:Top W H0 G H p v):W5 X W G H p v:=by
 cases p with
 |aG=>exact h.aG|bl b=>exact h.bl|int i=>exact h.int|str z=>exact h.str|tup xs=>let(a,d,e,sq,l):=h.tup sg;rw [hK] at sq;exact⟨a,e,d,sq,l⟩|lst xs=>let(a,d,e,sq,l):=h.lst sg;exact{a,e,d,oG hK sq,l}|exc c=>cases n<;>exact aY f
 |bC a b=>cases n<;>exact aY f
def yK{A:mn}{B:St}{s:i2}(I:Inv X A B H s)(hK:W.K=X.K)(sg:az G H):∀(n:Nat) {p q:PV} {v:V},plain n p=ig->plain n q=ig->Top W H0 G H p v->Top W H0 G H q v->p=q:=by
 intro n
 induction n with
 |zero=>
  intro p q v c d o r;have a:=RE hK sg c o;have b:=RE hK sg d r;cases p<;>cases q<;>first|exact aY c|exact aY d|(cases a;cases b;rfl)|(cases a;cases b)
 |succ n C=>
  intro p q v c d o r;have a:=RE hK sg c o;have b:=RE hK sg d r
  have w:∀{xs h:List PV} {i:List V},xs.all (plain n)=ig->h.all (plain n)=ig->ag W G xs i->ag W G h i->xs=h:=λ{xs h i} a1 a2 e f=>kM (by rw [<-e.length,f.length]) λj x y ex z=>by let(u,D,E):=e.qY ex;let(L,g,ky):=f.get D;rw [z] at g;cases g;exact C (ef.mp a1 _ (a9 ex)) (ef.mp a2 _ (a9 z)) (.inl E) (.inl ky)
  cases p<;>cases q<;>first|exact aY c|exact aY d|(cases a;cases b;done)|(cases a;cases b;rfl)|(let(_,F,_):=a;cases b;cases F;done)|(let(_,t,_):=b;cases a;cases t;done)|(let(x,rfl,i,k,e):=a;let(y,t,M,m,f):=b;cases t;first|exact(uO I k m).elim|exact(uO I m k).elim|(cases I.qr k m;rw [w c d e f])|(cases I.uF k m;rw [w c d e f]))
def Cb:∀{n:Nat} {p:PV},plain n p=ig->jg n p p=ig:=by
 intro n
 induction n with
 |zero=>intro p h;cases p<;>first|exact aY h|rfl|exact beq_self_eq_true _
 |succ n c=>
  intro p h;cases p<;>first|exact aY h|rfl|exact beq_self_eq_true _|exact tQ rfl λj x y a b=>by rw [a] at b;cases b;exact c (ef.mp h _ (a9 a))
def xJ{b:mn}{c:St}{s:i2}(I:Inv X b c H s)(hK:W.K=X.K)(sg:az G H):∀(n:Nat) {p q:PV} {v:V},plain n p=ig->plain n q=ig->Top W H0 G H p v->Top W H0 G H q v->jg n p q=ig:=λn {p q v} a d e f=>by cases yK I hK sg n a d e f;exact Cb a
def lZ{x:V}(r:RelV x (.ref a)):x=.ref a:=by
 cases x<;>first|(cases r;rfl)|(let(_,h):=r;cases h)|cases r
def W4(W:Wd)(G:Hp)(h:kB):PV->i1->Prop
 |.aG,v=>∃_t:Nat,v=.none/\True|.bl b,v=>∃_t:Nat,v=.bool b/\True|.int i,v=>∃t,v=.int i t/\True|.str z,v=>∃t,v=.str z t/\True|.tup xs,v=>∃a,v=.ref a/\∃c vs,ag W G xs vs/\Vals vs c/\h.IsTuple a c.toArray|.lst xs,v=>∃a,v=.ref a/\∃c vs,ag W G xs vs/\Vals vs c/\h.IsList a c.toArray|_,_=>False
def JJ{j:mn}{k:St}{s:i2}(I:Inv X j k H s)(hK:W.K=X.K)(sg:az G H){n:Nat}{f:i1}(g:plain n p=ig)(h:Top W H0 G H p v)(r:RelV v f):W4 W G s.heap p f:=by
 cases p with
 |aG=>cases h.aG;cases r;exact{0,rfl,trivial}
 |bl b=>cases h.bl;cases r;exact{0,rfl,trivial}
 |int i=>cases h.int;let(t,rfl):=r;exact⟨t,rfl,trivial⟩
 |str z=>cases h.str;let(t,rfl):=r;exact⟨t,rfl,trivial⟩
 |tup xs=>let(a,d,rfl,sq,l):=h.tup sg;rw [hK] at sq;cases r;let(e,q,z,_):=I.tuple sq;exact⟨a,rfl,e,d,l,q,z⟩
 |lst xs=>let(a,d,rfl,sq,l):=h.lst sg;cases r;let(e,q,z,_):=I.list (oG hK sq);exact⟨a,rfl,e,d,l,q,z.isList⟩
 |exc c=>cases n<;>exact aY g
 |bC a b=>cases n<;>exact aY g
def sE(W:Wd)(G:Hp)(s:i2)(n:Nat)(A:ku)(xs ys:List PV):Prop:=∀{c d:List V} {a b:List i1},ag W G xs c->ag W G ys d->Vals c a->Vals d b->∀j (e:j<a.toArray.size) (f:j<b.toArray.size),SeqAt.EqAt A s a.toArray[j] b.toArray[j] (jg n (xs.getD j .aG) (ys.getD j .aG))
theorem Ca{s:i2}{n:Nat}(h:∀{p q:PV} {v u:V} {a b:i1},plain n p=ig->plain n q=ig->Rep W G p v->Rep W G q u->RelV v a->RelV u b->SeqAt.EqAt A s a b (jg n p q))(d:xs.all (plain n)=ig)(e:ys.all (plain n)=ig):sE W G s n A xs ys:=λ{z us B C} f g i k j g1 g2=>by let(x,m,o):=EE i g1;let(y,r,t):=EE k g2;let(D,ex,w):=f.get m;let(E,c,ky):=g.get r;rw [c5,c5,ex,c];exact h (ef.mp d _ (a9 ex)) (ef.mp e _ (a9 c)) w ky o t
def yJ{s:i2}{n:Nat}{b:i6}(h:A.units<cLine)(i:sE W G s n A.in1 xs ys)(k1:∃c vs,ag W G xs vs/\Vals vs c/\s.heap.IsTuple a c.toArray)(k2:∃c vs,ag W G ys vs/\Vals vs c/\s.heap.IsTuple b c.toArray):SeqAt.RcAt A s (.ref a) (.ref b) (eqs (jg n) xs ys):=by
 let(c,vs,l,d,k):=k1;let(m,p,f,g,o):=k2;have m1:c.length=xs.length:=by rw [<-d.length,l.length]
 have m2:m.length=ys.length:=by rw [<-g.length,f.length]
 have:=SeqAt.RcAt.tuples (e:=λj=>jg n (xs.getD j .aG) (ys.getD j .aG)) k o h (i l f d g);rw [a7,a7,m1,m2,pM] at this;exact this
def yI{s:i2}{n:Nat}{b:i6}(d:A.units<cLine)(m:sE W G s n A.in1 xs ys)(k1:∃c vs,ag W G xs vs/\Vals vs c/\s.heap.IsList a c.toArray)(k2:∃c vs,ag W G ys vs/\Vals vs c/\s.heap.IsList b c.toArray):SeqAt.RcAt A s (.ref a) (.ref b) (eqs (jg n) xs ys):=by
 let(c,vs,l,f,g):=k1;let(o,p,h,i,k):=k2;have m1:c.length=xs.length:=by rw [<-f.length,l.length]
 have m2:o.length=ys.length:=by rw [<-i.length,h.length]
 by_cases hl:xs.length=ys.length
 .have:=SeqAt.RcAt.lists (e:=λj=>jg n (xs.getD j .aG) (ys.getD j .aG)) g k (by rw [a7,a7];omega) d (m l h f i);rw [a7,m1,<-lU hl] at this;exact this
 .have:=SeqAt.RcAt.lists_lengths g k (by rw [a7,a7,m1,m2];simp [hl]) d;rw [lV hl];exact this
open SeqAt.EqAt in
def Cc{D:mn}{E:St}{s:i2}(I:Inv X D E H s)(hK:W.K=X.K)(sg:az G H):∀(n:Nat) {A:ku} {p q:PV} {v u:V} {o r:i1},A.units+(n+1)<cLine->plain n p=ig->plain n q=ig->Top W H0 G H p v->Top W H0 G H q u->RelV v o->RelV u r->
 SeqAt.EqAt A s o r (jg n p q):=by
 intro n
 induction n with
 |zero=>
  intro A p q v u o r F d e h i j k;have a:=JJ I hK sg d h j;have b:=JJ I hK sg e i k;cases p<;>cases q<;>first|exact aY d|exact aY e|(let(t,rfl,_):=a;let(w,rfl,_):=b)
  exact same _;exact none_bool _;exact none_int _ _;exact none_str _ _;exact bool_none _;exact bool_bool _ _;exact bool_int _ _ _;exact bool_str _ _ _;exact int_none _ _;exact int_bool _ _ _;exact int_int _ _ _ _;exact int_str _ _ _ _;exact str_none _ _;exact str_bool _ _ _;exact str_int _ _ _ _;exact str_str _ _ _ _
 |succ n L=>
  intro A p q v u o r F d e h i j k;have c:A.units<cLine:=by omega
  have a:=JJ I hK sg d h j;have b:=JJ I hK sg e i k;have B:∀{xs C:List PV},xs.all (plain n)=ig->C.all (plain n)=ig->sE W G s n A.in1 xs C:=λM N=>Ca (λd e h i j k=>L (by show A.units+1+(n+1)<_;omega) d e (.inl h) (.inl i) j k) M N;cases p<;>cases q<;>first|exact aY d|exact aY e|(let(t,rfl,y):=a;let(w,rfl,z):=b;try let(_,_,_,_,f):=id y;try let(_,_,_,_,g):=id z)
  exact same _;exact none_bool _;exact none_int _ _;exact none_str _ _;exact none_tuple g c;exact none_list g c;exact bool_none _;exact bool_bool _ _;exact bool_int _ _ _;exact bool_str _ _ _;exact bool_tuple _ g c;exact bool_list _ g c;exact int_none _ _;exact int_bool _ _ _;exact int_int _ _ _ _;exact int_str _ _ _ _;exact int_tuple _ _ g c;exact int_list _ _ g c;exact str_none _ _;exact str_bool _ _ _;exact str_int _ _ _ _;exact str_str _ _ _ _;exact str_tuple _ _ g c;exact str_list _ _ g c;exact tuple_none f c;exact tuple_bool _ f c;exact tuple_int _ _ f c;exact tuple_str _ _ f c;by_cases m:t=w
  .subst m;cases lZ j;cases lZ k;rw [xJ I hK sg (n+1) d e h i];exact same _
  .exact of_refs m (yJ c (B d e) y z)
  exact tuple_list f g c;exact list_none f c;exact list_bool _ f c;exact list_int _ _ f c;exact list_str _ _ f c;exact list_tuple f g c;by_cases m:t=w
  .subst m;cases lZ j;cases lZ k;rw [xJ I hK sg (n+1) d e h i];exact same _
  .exact of_refs m (yI c (B d e) y z)
end
section
variable{W:Wd}
open SeqAt.RcAt in
def P0{z:mn}{B:St}{s:i2}(I:Inv X z B H s)(hK:W.K=X.K)(sg:az G H)(n:Nat){u:V}{r t:i1}(E:A.units+(n+2)<cLine)(f:plain (n+1) p=ig)(g:plain (n+1) q=ig)(h:Top W H0 G H p v)(i:Top W H0 G H q u)(j:RelV v r)(k:RelV u t):
 SeqAt.RcAt A s r t (jg (n+1) p q):=by
 have c:A.units<cLine:=by omega
 have a:=JJ I hK sg f h j;have b:=JJ I hK sg g i k;have w:∀{xs y:List PV},xs.all (plain n)=ig->y.all (plain n)=ig->sE W G s n A.in1 xs y:=λC D=>Ca (λf g h i j k=>Cc (H0:=H0) I hK sg n (by show A.units+1+(n+1)<_;omega) f g (.inl h) (.inl i) j k) C D;cases p<;>cases q<;>first|exact aY f|exact aY g|(let(F,rfl,m):=a;let(L,rfl,o):=b;try let(_,_,_,_,d):=id m;try let(_,_,_,_,e):=id o)
 exact none_none;exact none_bool _;exact none_int _ _;exact none_str _ _;exact none_tuple e c;exact none_list e c;exact bool_none _;exact bool_bool _ _;exact bool_int _ _ _;exact bool_str _ _ _;exact bool_tuple _ e c;exact bool_list _ e c;exact int_none _ _;exact int_bool _ _ _;exact int_int _ _ _ _;exact int_str _ _ _ _;exact int_tuple _ _ e c;exact int_list _ _ e c;exact str_none _ _;exact str_bool _ _ _;exact str_int _ _ _ _;exact str_str _ _ _ _;exact str_tuple _ _ e c;exact str_list _ _ e c;exact tuple_none d c;exact tuple_bool _ d c;exact tuple_int _ _ d c;exact tuple_str _ _ d c;exact yJ c (w f g) m o;exact tuple_list d e c;exact list_none d c;exact list_bool _ d c;exact list_int _ _ d c;exact list_str _ _ d c;exact list_tuple d e c;exact yI c (w f g) m o
def AW{s:i2}{n:Nat}{b:i6}(h:A.units<cLine)(i:sE W G s n A.in1 xs ys)(k1:∃c vs,ag W G xs vs/\Vals vs c/\s.heap.IsTuple a c.toArray)(k2:∃c vs,ag W G ys vs/\Vals vs c/\s.heap.IsTuple b c.toArray):SeqAt.RcNeAt A s (.ref a) (.ref b) (!eqs (jg n) xs ys):=by
 let(c,vs,l,d,k):=k1;let(m,p,f,g,o):=k2;have m1:c.length=xs.length:=by rw [<-d.length,l.length]
 have m2:m.length=ys.length:=by rw [<-g.length,f.length]
 have:=SeqAt.RcNeAt.tuples (e:=λj=>jg n (xs.getD j .aG) (ys.getD j .aG)) k o h (i l f d g);rw [a7,a7,m1,m2,pM] at this;exact this
def AV{s:i2}{n:Nat}{b:i6}(d:A.units<cLine)(m:sE W G s n A.in1 xs ys)(k1:∃c vs,ag W G xs vs/\Vals vs c/\s.heap.IsList a c.toArray)(k2:∃c vs,ag W G ys vs/\Vals vs c/\s.heap.IsList b c.toArray):SeqAt.RcNeAt A s (.ref a) (.ref b) (!eqs (jg n) xs ys):=by
 let(c,vs,l,f,g):=k1;let(o,p,h,i,k):=k2;have m1:c.length=xs.length:=by rw [<-f.length,l.length]
 have m2:o.length=ys.length:=by rw [<-i.length,h.length]
 by_cases hl:xs.length=ys.length
 .have:=SeqAt.RcNeAt.lists (e:=λj=>jg n (xs.getD j .aG) (ys.getD j .aG)) g k (by rw [a7,a7];omega) d (m l h f i);rw [a7,m1,<-lU hl] at this;exact this
 .have:=SeqAt.RcNeAt.lists_lengths g k (by rw [a7,a7,m1,m2];simp [hl]) d;rw [lV hl];exact this
open SeqAt.RcNeAt in
def IA{z:mn}{B:St}{s:i2}(I:Inv X z B H s)(hK:W.K=X.K)(sg:az G H)(n:Nat){u:V}{r t:i1}(E:A.units+(n+2)<cLine)(f:plain (n+1) p=ig)(g:plain (n+1) q=ig)(h:Top W H0 G H p v)(i:Top W H0 G H q u)(j:RelV v r)(k:RelV u t):
 SeqAt.RcNeAt A s r t (!jg (n+1) p q):=by
 have c:A.units<cLine:=by omega
 have a:=JJ I hK sg f h j;have b:=JJ I hK sg g i k;have w:∀{xs y:List PV},xs.all (plain n)=ig->y.all (plain n)=ig->sE W G s n A.in1 xs y:=λC D=>Ca (λf g h i j k=>Cc (H0:=H0) I hK sg n (by show A.units+1+(n+1)<_;omega) f g (.inl h) (.inl i) j k) C D;cases p<;>cases q<;>first|exact aY f|exact aY g|(let(F,rfl,m):=a;let(L,rfl,o):=b;try let(_,_,_,_,d):=id m;try let(_,_,_,_,e):=id o)
 exact none_none;exact none_bool _;exact none_int _ _;exact none_str _ _;exact none_tuple e c;exact none_list e c;exact bool_none _;exact bool_bool _ _;exact bool_int _ _ _;exact bool_str _ _ _;exact bool_tuple _ e c;exact bool_list _ e c;exact int_none _ _;exact int_bool _ _ _;exact int_int _ _ _ _;exact int_str _ _ _ _;exact int_tuple _ _ e c;exact int_list _ _ e c;exact str_none _ _;exact str_bool _ _ _;exact str_int _ _ _ _;exact str_str _ _ _ _;exact str_tuple _ _ e c;exact str_list _ _ e c;exact tuple_none d c;exact tuple_bool _ d c;exact tuple_int _ _ d c;exact tuple_str _ _ d c;exact AW c (w f g) m o;exact tuple_list d e c;exact list_none d c;exact list_bool _ d c;exact list_int _ _ d c;exact list_str _ _ d c;exact list_tuple d e c;exact AV c (w f g) m o
end
end Ci
namespace L2
open PySem.Spec PyProof.Rows
open PySem.AutoSeq1 (wpAny_loadPart')
theorem w6(l:i6)(a:Array i1)(n:Nat)(dd:Option i6)(sl:Array (Option i1))(u:Tok):
 Meets (la.«tuple.__mul__» {[.ref l,.int 1 u],[]}) (λZ R s=>s.heap.get? l=ia {cls:=.type "tuple",dict:=dd,data:=.seq a n,slots:=sl}/\R (.ok (.ret (i1.ref l))) s):=
 .of_wp λprog w A R s h=>by
  let(b,g,d,c,os):=s;let(hl,h):=h;have e:=PySem.AutoSeq1.idx_int;have f:=PySem.AutoSeq1.sub_tuple_tuple
  wp_walk using wpAny_loadPart' hl
  exact{_,rfl,h}
def DF:gM X (binaryOp .Mult) (λx y H Q=>∃a xs,x=.ref a/\y=.int 1/\fK X.K H a xs/\Q (.ref a) H):=by
 intro w s z H x y v u Q I i j h;let(a,xs,rfl,rfl,m,q):=h;cases i;let(t,rfl):=j;let(c,r,o,_):=I.tuple m;let((cls,d,e,f),b,g,k,hd):=id o
 simp only at g hd;subst g hd;refine wpAny_binaryOp_repeat_ref (T:="tuple") (U:="int") (by decide) {_,b,rfl} (λp=>typeIs_int p 1 t) fX PySem.F.fills_int_mul PySem.F.slot_int_rmul j5 PySem.F.slot_int_index.lookup
  (call_meets PySem.F.slot_int_rmul (typeIs_int s 1 t) PySem.F.entry_int_rmul (PySem.F.args_int_rmul_2 _ _) (g6 1 t a c.toArray k d f)
   {b,rfl,{_,b,rfl},call_meets PySem.F.slot_tuple_mul {_,b,rfl} PySem.F.entry_tuple_mul (PySem.F.args_tuple_mul_2 _ _) (w6 a c.toArray k d f t) {b,?_}})
 exact{.ref a,H,I,rfl,q}
end L2
namespace Ci
open L2
section
variable{W:Wd}
def LW(hK:W.K=X.K){d:mn}{f:St}{s:i2}{xs:List V}(I:Inv X d f H s)(h:so W.K H a xs):∃(b:List i1) (n:Nat),Vals xs b/\xs.length=b.length/\xs.length<=k6/\s.heap.get? a=ia {cls:=.type "list",data:=.seq b.toArray n}:=by
 rw [hK] at h;rcases h with h|⟨b,n,g,i,c⟩
 .let(z,b,n,r,e):=h.ok I.aM;exact⟨b,n,r,r.length,z,e⟩
 .refine{b.toList,n,c,c.length,?_,by simpa using I.uA a _ g};rw [c.length,eH];exact i
def H9(hK:W.K=X.K):gM X (binaryOp .Mult) (λx y H Q=>∃l k xs,x=.ref l/\y=.int k/\so W.K H l xs/\0<=k/\k<1000/\xs.length<1000/\∀p,H p=ie->Q (.ref p) (upd H p (.lst (l0 k.toNat xs).flatten))):=by
 intro E s G H x y v u Q I i j h;let(l,k,xs,rfl,rfl,o,L,M,N,q):=h;cases i;let(t,rfl):=j;let(b,n,r,hl,_,e):=LW hK I o
 have g:xs.length*k.toNat<=sizeLine:=by
  have:xs.length*k.toNat<=1000*1000:=Nat.mul_le_mul (by omega) (by omega);have O:(1000000:Nat)<=sizeLine:=by decide
  omega
 have c:b.toArray.size*k.toNat<=sizeLine:=by rw [a7,<-hl];exact g
 have w:¬b.toArray.size*k.toNat>(2^63-1)/8:=by
  have:(k6:Nat)<=(2^63-1)/8:=by decide
  omega
 have z:¬(!Builtin.List.listFitsIndex k)=ig:=by rw [fitsIndex_both (by omega) (by omega)];exact zzf
 have A:¬la.List.listTooLong (b.toArray.size*k.toNat)=ig:=by rw [uN c];exact zzf
 have B:List.foldl (λd f=>d++f) #[] (l0 (if b.toArray.isEmpty=ig then 0 else k.toNat) b.toArray)=(l0 k.toNat b).flatten.toArray:=by
  have C:∀m:Nat,List.foldl (λd f=>d++f) #[] (l0 m b.toArray)=(l0 m b).flatten.toArray:=λm=>by have:=foldl_rep b m [];rw [List.nil_append] at this;exact this
  rw [C];cases b with
  |nil=>simp|cons a P=>rw [if_neg (by simp)]
 refine wpAny_binaryOp_repeat_ref (T:="list") (U:="int") (by decide) {_,e,rfl} (λD=>typeIs_int D k t) noFill_list_mul PySem.F.fills_int_mul PySem.F.slot_int_rmul repeat_list PySem.F.slot_int_index.lookup
  (call_meets PySem.F.slot_int_rmul (typeIs_int s k t) PySem.F.entry_int_rmul (PySem.F.args_int_rmul_2 _ _) (int___rmul___int_list k t l b.toArray n)
   {e,rfl,{_,e,rfl},call_meets PySem.F.slot_list_mul {_,e,rfl} PySem.F.entry_list_mul (PySem.F.args_list_mul_2 _ _) (AutoListH.list___mul___list_int_3 l b.toArray n k t z w A) {e,?_}})
 rw [B];exact{.ref _,_,I.TB (t':=s.toks) (r.rep k.toNat) (by rw [len_rep,Nat.mul_comm];exact g),rfl,q _ I.fresh}
theorem ag.rep(h:ag W G ps vs):∀k:Nat,ag W G (l0 k ps).flatten (l0 k vs).flatten
 |0=>.nil|k+1=>by rw [List.replicate_succ,List.replicate_succ,List.flatten_cons,List.flatten_cons];exact h.append (h.rep k)
abbrev Rq:JP->Operator
 |.add=>.Add|.sub=>.Sub|.mul=>.Mult|.mod=>.Mod|.fdiv=>.FloorDiv
abbrev vE(W:Wd)(f:PV->PV->Res PV):R2:=λx y H Q=>∃a G p q r,az G H/\Top W a G H p x/\Top W a G H q y/\f p q=.ok r/\dG W G H r Q
set_option tactic.hygienic true in
def Me(hK:W.K=X.K)(o:JP):gM X (binaryOp (Rq o)) (vE W (binOp o)):=by
 intro d s f H x y v u Q I g j h;let(F,G,p,q,r,sg,k,m,e,c):=h;unfold binOp at e;split at e
 .cases e;exact Md d s f H x y v u Q I g j {_,_,k.int,m.int,c.at sg .i}
 .split at e
  .rename_i hl;cases e;exact wJ d s f H x y v u Q I g j {_,_,k.str,m.str,ni hl,c.at sg .s}
  .cases e
 .cases e;exact Mp d s f H x y v u Q I g j {_,_,k.int,m.int,c.at sg .i}
 .split at e
  .rename_i b;cases e;refine Mn d s f H x y v u Q I g j {_,_,k.int,m.int,?_,c.at sg .i};rw [gU] at b;unfold aN at b;simp! [zza,zzN] at b;exact b
  .cases e
 .split at e
  .rename_i b;cases e;let(a,A,rfl,t,w):=k.lst sg;exact H9 hK d s f H _ _ v u Q I g j {a,_,A,rfl,m.int,t,b.1,b.2.1,by rw [w.length];exact b.2.2,λp B=>c.lst sg (w.rep _) B}
  .cases e
 .split at e
  .rename_i b;cases e;have C:=k;let(a,A,rfl,t,w):=k.tup sg;rw [hK] at t;have m1:=w.length;rename_i xs D;by_cases E:D=1
   .subst E;refine DF d s f H _ _ v u Q I g j {a,A,rfl,m.int,t,?_};have ex:(l0 (1:Int).toNat xs).flatten=xs:=by
     show(l0 1 xs).flatten=xs;simp
    rw [ex] at c;exact c.at sg (C.elim id λz=>z.elim)
   .exact HY d s f H _ _ v u Q I g j {a,_,A,rfl,m.int,t,by omega,b.2.1,by rw [m1];exact b.2.2.1,by rw [m1];exact b.2.2.2,λp B=>c.tup sg (w.rep _) B}
  .cases e
 .split at e
  .rename_i b;cases e;exact Mm d s f H x y v u Q I g j {_,_,k.int,m.int,b,c.at sg .i}
  .cases e
 .split at e
  .rename_i b;cases e;exact HW d s f H x y v u Q I g j {_,_,k.int,m.int,b,c.at sg .i}
  .cases e
 .cases e
def I0:QO X (unaryOp .USub) (λx H Q=>∃(H0 G:Hp) (i:Int),az G H/\Top W H0 G H (.int i) x/\dG W G H (.int (-i)) Q):=by intro a s b H x v Q I c h;let(H0,G,i,sg,t,d):=h;exact Np a s b H x v Q I c {i,t.int,d.at sg .i}
abbrev sD:Bv->CmpOp
 |.eq=>.Eq|.ne=>.NotEq|.lt=>.Lt|.le=>.LtE|.gt=>.Gt|.is=>.Is|.Hj=>.IsNot|.LD=>.In|.rn=>.NotIn
def tR{a:mn}{c:St}{s:i2}{k:Bool}(I:Inv X a c H s)(sg:az G H)(d:dG W G H (.bl k) Q):EP X a c Q (.bool k) s:={.bl k,H,I,rfl,d.at sg .b}
def Mf(hK:W.K=X.K)(i:X.A.units+64<cLine):gM X (compareOp .Eq) (vE W iL):=by
 intro j s k H x y v u Q I b c h;let(m,G,p,q,r,sg,d,f,e,g):=h;unfold iL at e;split at e
 .rename_i a;rw [zza] at a;cases e;exact P0 I hK sg 8 (by omega) a.1 a.2 d f b c _ _ _ _ (tR I sg g)
 .cases e
def Mo(hK:W.K=X.K)(i:X.A.units+64<cLine):gM X (compareOp .NotEq) (vE W iM):=by
 intro j s k H x y v u Q I b c h;let(m,G,p,q,r,sg,d,f,e,g):=h;unfold iM at e;split at e
 .rename_i a;rw [zza] at a;cases e;exact IA I hK sg 8 (by omega) a.1 a.2 d f b c _ _ _ _ (tR I sg g)
 .cases e
theorem gQ:∀{xs:List PV} {vs:List V} {ns:List Bool},ag W G xs vs->boolsOf xs=ia ns->vs=ns.map V.bl
 |[],vs,ns,h,e=>by simp! [ag] at h;subst h;cases e;rfl
 |.bl i::r,vs,ns,h,e=>by let(v,t,rfl,a,b):=h.bM;simp! [Rep] at a;subst a;unfold boolsOf at e;let(m,hm,rfl):=c4.mp e;rw [gQ b hm];rfl|.aG::_,_,_,_,e=>by cases e
 |.int _::_,_,_,_,e=>by cases e
 |.str _::_,_,_,_,e=>by cases e
 |.tup _::_,_,_,_,e=>by cases e
 |.lst _::_,_,_,_,e=>by cases e
 |.exc _::_,_,_,_,e=>by cases e
 |.bC _ _::_,_,_,_,e=>by cases e
theorem n9:∀{xs:List PV} {vs:List V} {ns:List Str},ag W G xs vs->strsOf xs=ia ns->vs=ns.map V.str
 |[],vs,ns,h,e=>by simp! [ag] at h;subst h;cases e;rfl
 |.str i::r,vs,ns,h,e=>by let(v,t,rfl,a,b):=h.bM;simp! [Rep] at a;subst a;unfold strsOf at e;let(m,hm,rfl):=c4.mp e;rw [n9 b hm];rfl|.aG::_,_,_,_,e=>by cases e
 |.int _::_,_,_,_,e=>by cases e
 |.bl _::_,_,_,_,e=>by cases e
 |.tup _::_,_,_,_,e=>by cases e
 |.lst _::_,_,_,_,e=>by cases e
 |.exc _::_,_,_,_,e=>by cases e
 |.bC _ _::_,_,_,_,e=>by cases e
def Res.of_ok{c:Type}{o:Option c}{a:c}(h:Res.of o=.ok a):o=ia a:=by
 cases o with
 |none=>cases h
 |some b=>cases h;rfl
def Ml(hK:W.K=X.K)(k:X.A.units+64<cLine):gM X (compareOp .Lt) (vE W uT):=by
 intro a s c H x y v u Q I d f h;let(m,G,p,q,r,sg,g,i,e,j):=h;unfold uT at e;split at e
 .cases e;exact PH a s c H x y v u Q I d f {_,_,g.int,i.int,j.at sg .b}
 .cases e
def Mk:gM X (compareOp .LtE) (vE W uS):=by
 intro a s c H x y v u Q I d f h;let(k,G,p,q,r,sg,g,i,e,j):=h;unfold uS at e;split at e
 .cases e;exact PF a s c H x y v u Q I d f {_,_,g.int,i.int,j.at sg .b}
 .cases e
def Mg:gM X (compareOp .Gt) (vE W wH):=by
 intro i s j H x y v u Q I a c h;let(k,G,p,q,r,sg,d,f,e,g):=h;unfold wH at e;split at e
 .cases e;exact PD i s j H x y v u Q I a c {_,_,d.int,f.int,g.at sg .b}
 .cases e;let(t,rfl):=(d.str▸a:RelV (.str _) v);let(m,rfl):=(f.str▸c:RelV (.str _) u);exact PySem.P.gt_str (qS I (g.at sg .b) rfl)
 .cases e
def pV{x:V}(sg:az G H)(t:Top W H0 G H p x):decide (x=.aG)=CP p:=by
 cases p with
 |aG=>cases t.aG;rfl
 |bl b=>cases t.bl;rfl
 |int b=>cases t.int;rfl
 |str b=>cases t.str;rfl
 |tup b=>let(a,d,rfl,_):=t.tup sg;rfl|lst b=>let(a,d,rfl,_):=t.lst sg;rfl|bC b c=>let(a,d,rfl,_):=t.bC sg;rfl|exc c=>
  rcases t with t|t
  .simp! [Rep] at t;let(a,C,rfl,_):=t;rfl
  .exact t.elim
def Mj:gM X (compareOp .Is) (vE W nD):=by
 intro a s c H x y v u Q I d f h;let(k,G,p,q,r,sg,g,i,e,j):=h;unfold nD at e;split at e
 .cases e;refine Mi a s c H x y v u Q I d f {i.aG,?_};rw [pV sg g];exact j.at sg .b
 .cases e
def HX:gM X (compareOp .IsNot) (vE W ij):=by
 intro a s c H x y v u Q I d f h;let(k,G,p,q,r,sg,g,i,e,j):=h;unfold ij at e;split at e
 .cases e;refine H8 a s c H x y v u Q I d f {i.aG,?_};rw [pV sg g];exact j.at sg .b
 .cases e
def yc{N:mn}{O:St}{s:i2}(I:Inv X N O H s)(hK:W.K=X.K)(sg:az G H){a:PV}{x:V}{t:i1}{us:List V}{d:List i1}(hu:A.units+32<cLine)(P:uX a=ig)(Q:ys.all uX=ig)(R:Top W H0 G H a x)(S:RelV x t)(l:ag W G ys us)(r:Vals us d):
 ∃e:i1->Bool,(∀y∈d,SeqAt.EqAt A s y t (e y))/\∀(j:Nat) (y:i1) (p:PV),d[j]?=ia y->ys[j]?=ia p->e y=eqv p a:=by
 classical
 have c:∀(j:Nat) (y:i1),d[j]?=ia y->∃p u,ys[j]?=ia p/\us[j]?=ia u/\Rep W G p u/\RelV u y/\uX p=ig:=λj y e=>by have w:=(cP.mp e).1;have hl:=r.length;let(u,z,T):=r.get (i:=j) (x:=us[j]'(by omega)) (zzg (by omega));rw [e] at z;cases z;let(p,B,kp):=l.get (zzg (show j<us.length by omega));exact{p,_,B,zzg (by omega),kp,T,ef.mp Q p (a9 B)}
 refine{λy=>if h:∃(j:Nat) (p:PV),d[j]?=ia y/\ys[j]?=ia p then eqv h.choose_spec.choose a else iv,λy U=>?_,λj y p C D=>?_}
 .let(j,w,e):=List.getElem_of_mem U;have E:d[j]?=ia y:=by rw [zzg w,e]
  let(p,u,Y,h2,h3,h4,h5):=c j y E;have b:∃(j:Nat) (p:PV),d[j]?=ia y/\ys[j]?=ia p:=⟨j,p,E,Y⟩;dsimp only;rw [dif_pos b];have sp:=b.choose_spec.choose_spec;let(f,F,g,Z,k,m,o):=c _ y sp.1;have q:b.choose_spec.choose=f:=zzq (sp.2.symm.trans g);rw [q];exact Cc (H0:=H0) I hK sg 9 (by omega) o P (.inl k) R m S
 .have b:∃(j:Nat) (p:PV),d[j]?=ia y/\ys[j]?=ia p:=⟨j,p,C,D⟩;dsimp only;rw [dif_pos b];let(p1,L,M,f2,f3,f4,f5):=c j y C;rw [D] at M;cases M;have sp:=b.choose_spec.choose_spec;let(f,F,g,Z,k,m,o):=c _ y sp.1;have q:b.choose_spec.choose=f:=zzq (sp.2.symm.trans g);have e4:L=F:=f4.inj m;subst e4;rw [q,yK I hK sg DP o f5 (.inl k:Top W H0 G H f L) (.inl f3)]
def BJ{c:List i1}{e:i1->Bool}{f:PV->Bool}:c.length=ys.length->(∀(j:Nat) (y:i1) (p:PV),c[j]?=ia y->ys[j]?=ia p->e y=f p)->c.any e=ys.any f:=by
 intro hl h;have:c.map e=ys.map f:=kM (zx6 hl) λj x y d g=>by rw [d0] at d g;let(a,i,rfl):=c4.mp d;let(b,k,rfl):=c4.mp g;exact h j a b i k
 calc c.any e=(c.map e).any id:=by rw [List.any_map];rfl
  _=(ys.map f).any id:=by rw [this]
  _=ys.any f:=by rw [List.any_map];rfl
def Mh(hK:W.K=X.K)(k:X.A.units+64<cLine):gM X (compareOp .In) (vE W wI):=by
 intro a s c H x y v u Q I d f h;let(H0,G,p,q,r,sg,g,i,e,j):=h;have m:X.A.in1.units+32<cLine:=by show X.A.units+1+32<_;omega
 unfold wI at e;split at e
 .cases e;exact AO a s c H x y v u Q I d f {_,_,g.str,i.str,j.at sg .b}
 .cases e
def HZ(hK:W.K=X.K)(N:X.A.units+64<cLine):gM X (compareOp .NotIn) (vE W iT):=by
 intro O s P H x y v u Q I i j h;let(H0,G,p,q,r,sg,m,o,e,t):=h;have E:X.A.in1.units+32<cLine:=by show X.A.units+1+32<_;omega
 unfold iT at e;split at e
 .split at e
  .rename_i c;rw [zza] at c;cases e;let(b,w,rfl,g,d):=o.lst sg;cases j;let(F,f,z,_):=I.list (oG hK g);let(e,B,C):=yc I hK sg E c.1 c.2 m i d f;refine SeqAt.notIn_listAt e z.isList (λy D=>B y (zx6 D)) ?_;have:=BJ (by rw [<-f.length,d.length]) C;rw [List.any_toArray,this];exact tR I sg t
  .cases e
 .split at e
  .rename_i c;rw [zza] at c;cases e;let(b,w,rfl,g,d):=o.tup sg;rw [hK] at g;cases j;let(F,f,z,_):=I.tuple g;let(e,B,C):=yc I hK sg E c.1 c.2 m i d f;refine SeqAt.notIn_tupleAt e (show s.heap.IsTuple b F.toArray from z) (λy D=>B y (zx6 D)) ?_;have:=BJ (by rw [<-f.length,d.length]) C;rw [List.any_toArray,this];exact tR I sg t
  .cases e
 .let(k,hk,e):=Res.aV e;cases e;have hk:=uz (Res.of_ok hk);subst hk;let(b,rfl,L):=m.ky (k:=k) sg;let(a,w,rfl,n,hd,l):=o.bC sg;cases j;refine Gm (show X.A.units+3<cLine by omega) I (.inr {_,ki k,b,hd,rfl,(kJ sg L),rfl}) i λR M=>?_;rw [kK,eG k _ w n];exact tR M sg t
 .cases e
theorem iH(hK:W.K=X.K)(a:X.A.units+64<cLine):∀o:Bv,gM X (compareOp (sD o)) (vE W (d6 o))
 |.eq=>Mf hK a|.ne=>Mo hK a|.lt=>Ml hK a|.le=>Mk|.gt=>Mg|.is=>Mj|.Hj=>HX|.LD=>Mh hK a|.rn=>HZ hK a
def xy{i:Int}(l:ag W G ps vs)(h:oF ps i=ia p):∃v,oF vs i=ia v/\Rep W G p v:=by
 unfold oF at h⊢;rw [l.length];cases e:ye ps.length i with
 |none=>rw [e] at h;cases h
 |some j=>rw [e] at h;exact l.qY h
def LK(j:X.A.units+3<cLine):Nx X (λx y H Q=>∃a d k b v,x=.ref a/\Rd H a (.dT d)/\y=.ref b/\cF H b k/\gL d k=ia v/\Q v H):=by intro e slice m s t H x y v u Q I w B h hs;let(a,d,k,b,z,rfl,hd,rfl,C,D,q):=h;cases w;cases B;let(_,_,xs,f,g):=mS I.aM hd;let(i,E,K):=lB.some_of (v:=z) (o:=(atKey xs k).map (·.2)) (by rw [<-D];exact f.val k);let(p,L,c):=c4.mp E;exact PyProof.Rows.subscriptTail_builtinR (x:=i) g.typeIs PySem.F.slot_dict_getitem.lookup (wpAny_getItem_heap (Q:=λr M=>r=i/\EP X m t Q r M) (d9 j) (kH I.aM C) g L {c,by rw [c];exact{z,H,I.tok _,K,q}}) hs
def Tt(hK:W.K=X.K)(N:X.A.units+64<cLine):Nx X (vE W aB):=by
 intro d slice i s j H x y v u Q I m o h hs;let(H0,G,p,q,r,sg,t,z,e,B):=h;unfold aB at e;split at e
 .let(a,D,rfl,C,E):=t.lst sg;let(w,f,g):=xy E (Res.of_ok e);exact Hk d slice i s j H _ y v u Q I m o {a,D,_,w,rfl,z.int,oG hK C,f,B.at sg g} hs
 .let(a,D,rfl,C,E):=t.tup sg;rw [hK] at C;let(w,f,g):=xy E (Res.of_ok e);exact v9 d slice i s j H _ y v u Q I m o {a,D,_,w,rfl,z.int,C,f,B.at sg g} hs
 .split at e
  .rename_i hl;let(c,F,e):=Res.aV e;cases e;exact LL d slice i s j H x y v u Q I m o {_,_,c,t.str,z.int,ni hl,Res.of_ok F,B.at sg .s} hs
  .cases e
 .let(k,hk,L):=Res.aV e;have hk:=uz (Res.of_ok hk);subst hk;let(b,rfl,M):=z.ky (k:=k) sg;let(a,O,rfl,n,hd,l):=t.bC sg;let(w,f,g):=mi l (Res.of_ok L);exact LK (by omega) d slice i s j H _ _ v u Q I m o {a,_,ki k,b,w,rfl,hd,rfl,(kJ sg M),(by rw [kK];exact f),B.at sg g} hs
 .cases e
def Fs(a b:Option Int)(l:ag W G ps vs):ag W G (qP ps a b) (zO vs a b):=by unfold qP zO;rw [l.length];exact(l.drop _).take _
def Us(hK:W.K=X.K):L2.E9 X (λx b c H Q=>∃H0 G p r,az G H/\Top W H0 G H p x/\dX p b c=.ok r/\dG W G H r Q):=by
 intro d s f H x v g i b c j Q I k hs m o h;let(H0,G,p,r,sg,q,e,t):=h;unfold dX at e;split at e
 .cases e;let(a,u,rfl,w,y):=q.lst sg;exact ID d s f H _ v g i _ _ j Q I k hs m o {a,u,rfl,oG hK w,λp z=>t.lst sg (Fs _ _ y) z}
 .split at e
  .rename_i hl;cases e;exact MX d s f H _ v g i _ _ j Q I k hs m o {_,q.str,ni hl,t.at sg .s}
  .cases e
 .cases e
def Bt(W:Wd)(f:List PV->Res PV):List V->Hp->VK->Prop:=λb H Q=>∃H0 G a r,az G H/\Paired (λv p=>Top W H0 G H p v) b a/\f a=.ok r/\dG W G H r Q
def iU(h:Paired (λv p=>Top W H0 G H p v) vs [p]):∃v,vs=[v]/\Top W H0 G H p v:=by
 cases h with
 |cons h t=>cases t;exact{_,rfl,h}
def qp(h:Paired (λv p=>Top W H0 G H p v) vs [p,q]):∃v u,vs=[v,u]/\Top W H0 G H p v/\Top W H0 G H q u:=by
 cases h with
 |cons h t=>
  cases t with
  |cons a b=>cases b;exact{_,_,rfl,h,a}
def zD(hK:W.K=X.K):da X (.builtin "len") (Bt W vN):=by
 intro d s f H xs g Q I r h;let(H0,G,q,w,sg,tp,e,b):=h;unfold vN at e;split at e
 .cases e;let(v,rfl,t):=iU tp;let(a,j,rfl,c,k):=t.lst sg;exact jn d s f H _ g Q I r {a,j,rfl,.inl (oG hK c),by rw [k.length];exact b.at sg .i}
 .cases e;let(v,rfl,t):=iU tp;let(a,j,rfl,c,k):=t.tup sg;rw [hK] at c;exact jn d s f H _ g Q I r {a,j,rfl,.inr c,by rw [k.length];exact b.at sg .i}
 .split at e
  .rename_i hl;cases e;let(v,rfl,t):=iU tp;exact qI d s f H _ g Q I r {_,by rw [t.str],ni hl,b.at sg .i}
  .cases e
 .cases e;let(v,rfl,t):=iU tp;let(a,m,rfl,n,hd,l):=t.bC sg;let(u,rfl,o):=vals1 r;cases o;exact KL I hd λt y p=>{.int _,H,p,⟨t,rfl⟩,by rw [g9 n];exact b.at sg .i}
 .cases e
def zx:da X (.builtin "abs") (Bt W BO):=by
 intro a s b H xs c Q I r h;let(H0,G,f,g,sg,tp,e,d):=h;unfold BO at e;split at e
 .cases e;let(v,rfl,t):=iU tp;exact BX a s b H _ c Q I r {_,by rw [t.int],d.at sg .i}
 .cases e
def zF(a:X.calm=ig):da X (.builtin "max") (Bt W BS):=by
 intro b s c H xs d Q I r h;let(H0,G,j,k,sg,tp,e,f):=h;unfold BS at e;split at e
 .cases e;let(v,u,rfl,t,g):=qp tp;exact zE a b s c H _ d Q I r {_,_,by rw [t.int,g.int],f.at sg .i}
 .cases e
def zC:da X (.type "int") (Bt W BR):=by
 intro a s b H xs c Q I r h;let(H0,G,g,j,sg,tp,e,d):=h;unfold BR at e;split at e
 .split at e
  .rename_i hl;let(n,f,e):=Res.aV e;cases e;let(v,rfl,t):=iU tp;exact qH a s b H _ c Q I r {_,n,by rw [t.str],Res.of_ok f,hl,d.at sg .i}
  .cases e
 .cases e
def zI:da X (.type "str") (Bt W BU):=by
 intro a s b H xs c Q I r h;let(H0,G,f,g,sg,tp,e,d):=h;unfold BU at e;split at e
 .split at e
  .rename_i hl;cases e;let(v,rfl,t):=iU tp;exact qJ a s b H _ c Q I r {_,by rw [t.int],hl,d.at sg .s}
  .cases e
 .cases e
def sS(hK:W.K=X.K):da X (.type "tuple") (Bt W mI):=by
 intro b s c H xs d Q I r h;let(H0,G,m,o,sg,tp,e,f):=h;unfold mI at e;split at e
 .cases e;let(v,rfl,t):=iU tp;let(a,g,rfl,i,j):=t.lst sg;exact oM b s c H _ d Q I r {a,g,rfl,.inl {oG hK i,λp k=>f.tup sg j k}}
 .cases e
def zy(c:X.calm=ig)(hK:W.K=X.K):da X (.builtin "all") (Bt W BP):=by
 intro d s f H xs g Q I r h;let(H0,G,o,p,sg,tp,e,i):=h;unfold BP at e;split at e
 .let(bs,j,e):=Res.aV e;cases e;let(v,rfl,t):=iU tp;let(a,q,rfl,k,m):=t.lst sg;cases gQ m (Res.of_ok j);exact BY c d s f H _ g Q I r {a,bs,rfl,oG hK k,i.at sg .b}
 .cases e
def zA(c:X.calm=ig)(hK:W.K=X.K):da X (.builtin "any") (Bt W BQ):=by
 intro d s f H xs g Q I r h;let(H0,G,o,p,sg,tp,e,i):=h;unfold BQ at e;split at e
 .let(bs,j,e):=Res.aV e;cases e;let(v,rfl,t):=iU tp;let(a,q,rfl,k,m):=t.lst sg;cases gQ m (Res.of_ok j);exact BZ c d s f H _ g Q I r {a,bs,rfl,oG hK k,i.at sg .b}
 .cases e
def Ny(W:Wd)(f:List PV->Res PV):V->List V->Hp->VK->Prop:=λx a H Q=>Bt W f (x::a) H Q
def wo:Bz X "str.count" (Ny W jZ):=by
 intro a s b H x xs v c Q I d r h;let(H0,G,k,m,sg,tp,e,f):=h;unfold jZ at e;split at e
 .cases e;let(o,p,g,t,j):=qp tp;cases g;exact Aw a s b H _ _ v c Q I d r {_,_,t.str,by rw [j.str],f.at sg .i}
 .cases e
theorem qo(W:Wd)(G:Hp):∀l:List Str,ag W G (l.map PV.str) (l.map V.str)
 |[]=>.nil|_::l=>.cons .s (qo W G l)
def Ax:Bz X "str.split" (Ny W nt):=by
 intro c s d H x xs v f Q I g r h;let(H0,G,o,p,sg,tp,e,i):=h;unfold nt at e;split at e
 .split at e
  .rename_i b;cases e;let(q,u,j,t,k):=qp tp;cases j;exact Du c s d H _ _ v f Q I g r {_,_,t.str,by rw [k.str],b.1,b.2,λa m=>i _ _ _ (.new sg m) (.l (.inl (.inl ak)) (qo _ _ _))}
  .cases e
 .cases e
def Ay:Bz X "str.startswith" (Ny W mStart):=by
 intro a s c H x xs v d Q I f r h;let(H0,G,k,m,sg,tp,e,g):=h;unfold mStart at e;split at e
 .cases e;let(o,p,i,t,j):=qp tp;cases i;exact Az a s c H _ _ v d Q I f r {_,_,t.str,by rw [j.str],g.at sg .b}
 .cases e
def wx:Bz X "str.rstrip" (Ny W j0):=by
 intro a s b H x xs v c Q I d r h;let(H0,G,k,m,sg,tp,e,f):=h;unfold j0 at e;split at e
 .split at e
  .rename_i g;cases e;let(o,p,i,t,j):=qp tp;cases i;exact wu a s b H _ _ v c Q I d r {_,_,t.str,by rw [j.str],g,f.at sg .s}
  .cases e
 .cases e
theorem yV:∀{ys:List Str} {a:List i1},Vals (ys.map V.str) a->PyProof.Rows.StrsAre a ys
 |[],_,.nil=>.nil|y::ys,_,.cons r t=>by let(tk,rfl):=r;exact .cons y tk (yV t)
def Dt(hK:W.K=X.K):Bz X "str.join" (Ny W uG):=by
 intro q s w H x xs v y Q I c r h;let(H0,G,A,B,sg,tp,e,d):=h;unfold uG at e;split at e
 .let(C,f,e):=Res.aV e;split at e
  .rename_i b;cases e;let(D,E,g,t,i):=qp tp;cases g;cases t.str;let(F,rfl):=c;let(a,L,rfl,j,m):=i.lst sg;let(u,rfl,o):=Vals.one r;cases o;cases n9 m (Res.of_ok f);let(M,p,z,_):=I.list (oG hK j);refine PyProof.Rows.join_listW z.isList (by simpa using yV p) b.1 (eg b.2 (by decide)) λN k=>{.str _,H,I.tok _,{_,rfl},d.at sg .s}
  .cases e
 .cases e
abbrev xh:Ty->String
 |.int=>"int"|.bool=>"bool"|.tuple=>"tuple"|.list=>"list"
def Pm{K:zz8}(t:Ty):Cw.EW K "NoneType" (xh t) iv/\(∀b,Cw.EW K "bool" (xh t) (i7 t (.bl b)))/\(∀i,Cw.EW K "int" (xh t) (i7 t (.int i)))/\(∀z,Cw.EW K "str" (xh t) (i7 t (.str z)))/\(∀z,Cw.EW K "tuple" (xh t) (i7 t (.tup z)))/\(∀z,Cw.EW K "list" (xh t) (i7 t (.lst z))):=by
 cases t
 all_goals refine{?_,λb=>?_,λb=>?_,λb=>?_,λb=>?_,λb=>?_}
 all_goals first
  |exact Cw.C5 _
  |exact Cw.C3 (b:=iv) (by decide+kernel) (by decide+kernel) (by decide+kernel)
  |exact Cw.C3 (b:=ig) (by decide+kernel) (by decide+kernel) (by decide+kernel)
def B0(hK:W.K=X.K)(t:Ty):da X (.builtin "isinstance") (λxs H Q=>∃v H0 G p r,xs=[v,.ty (xh t)]/\az G H/\Top W H0 G H p v/\kZ t p=.ok r/\dG W G H r Q):=by
 intro N s O H xs P Q I m h;let(v,H0,G,p,r,rfl,sg,tp,e,f):=h;let(u,R,rfl,g,j):=Vals.two m;cases j;let(q,w,y,A,B,C):=Pm (K:=X.K) t
 cases p with
 |exc c=>cases e
 |bC a b=>cases e
 |aG=>cases e;cases tp.aG;cases g;cases t<;>exact PySem.W.kia_one PySem.W.kitx_none I.uA True.intro q nofun λd=>⟨.bl _,H,I.tok d,rfl,f.at sg .b⟩
 |bl b=>cases e;cases tp.bl;cases g;exact PySem.W.kia_one PySem.W.kitx_bool I.uA True.intro (w b) nofun λd=>⟨.bl _,H,I.tok d,rfl,f.at sg .b⟩
 |int b=>cases e;cases tp.int;let(D,rfl):=g;exact PySem.W.kia_one PySem.W.kitx_int I.uA True.intro (y b) nofun λd=>⟨.bl _,H,I.tok d,rfl,f.at sg .b⟩
 |str b=>cases e;cases tp.str;let(D,rfl):=g;exact PySem.W.kia_one PySem.W.kitx_str I.uA True.intro (A b) nofun λd=>⟨.bl _,H,I.tok d,rfl,f.at sg .b⟩
 |tup b=>cases e;let(a,E,rfl,i,F):=tp.tup sg;rw [hK] at i;cases g;let(L,_,(o,k,M,_),_):=I.tuple i;exact PySem.W.kia_one PySem.W.kitx_tuple I.uA ⟨o,k,M⟩ (B b) nofun λd=>{.bl _,H,I.tok d,rfl,f.at sg .b}
 |lst b=>cases e;let(a,E,rfl,i,F):=tp.lst sg;cases g;let(L,n,_,_,_,k):=LW hK I i;exact PySem.W.kia_one PySem.W.kitx_list I.uA {_,k,rfl} (C b) nofun λd=>{.bl _,H,I.tok d,rfl,f.at sg .b}
end
end Ci
namespace L2
open PySem.Spec PyProof.Rows
section
variable{scope:kv}{xs ys:List Str}{is:List Nat}
theorem rJ{c:Nat}{a:Str}{d G:Pos}{f w iter B:jj}{K:TI}{g:TG}{tt:TT}(j:X.N.Nodup)(k:X.N[c]?=ia a)(p:Loc X.env.scope a)(R:X.calm=ig)(S:fx X scope xs ys is)(T:PI X w iter K)
 (U:∀fp r t C,PG (bV X (xs++ys) scope (bG X.env ys) fp r t C) w g) (V:∀fp r t C,PT (bV X (xs++ys) scope (bG X.env ys) fp r t C) B tt) (he:∀fp r t C,PE (bV X (xs++ys) scope (bG X.env ys) fp r t C) f te)
 (W:swapsWith (.ListComp f [{w,iter,[B],0}] scope pos) (ia (.Name a d)) G.line X.env=pure ig:=by rfl)
 (hs:∀x,foldedSetIterable iter X.env x=pure x:=by intro _;rfl) (u:X.fn a=ig\/X.env.scope.names.lookup a=ia .local:=by first|exact .inl rfl|exact .inr rfl|assumption):
 PS X (.Assign [.Name a d] (.ListComp f [{w,iter,[B],0}] scope pos) G) (IS (mh K xs.length g tt te is) (gZ c)):=by
 intro Y s Z H i I h;rw [exec_Assign_Name_used _ _ _ _ W];refine aT (wpAny_standAt (aT ?_));show jk _ X.A (do let _<-comprehension (.ListComp f [⟨w,iter,[B],0⟩] scope pos) scope X.env _ (newList []) iv (eval iter X.env) (ia (assign (.Name a d) X.env))) _ _ s;refine aT (wpAny_mono (iB (QQ:=λ_ L=>∃y M,Inv X Y y M L/\i.nx y M) (Q:=λv O=>gZ c v Z O i.nx) R S T U (λfp r t C=>yD (V fp r t C)) he hs I h λD C s4 O m I5 hn ⟨g0,g1,_,g3,P,g5⟩ q=>?_) (λ_ L hq=>b4 (b4 hq)) λ_ _ e=>e)
 refine wpAny_assign_Name (kW I5 j k p (show RelV (.ref D) (.ref D) from rfl) (λs6 I6 ⟨a6,E,F⟩=>?_) u);have Dv:C≠a6:=by
  rcases F with z|z
  .rw [z];exact g1
  .exact λz2=>P _ _ z z2.symm
 exact{m,hn.sameBut E Dv,λh' Aj=>{_,_,I6.turned (t':=s6.toks) (it:=C) (λb o hb e=>Aj.extBut b o hb e) g0 g1 g3 P g5,q}}
end
open PySem.AutoSeq1 (wpAny_loadPart')
section
variable{E:ml}{s:i2}{jt tu:i6}{i:Nat}{ai:Array i1}{Q:ml}
def lH{x:i1}(c:s.heap.IsTupleIter jt tu i)(d:s.heap.IsTuple tu ai)(e:ai[i]?=ia x)
 (k:∀g,g.IsTupleIter jt tu (i+1)->kB.SameBut jt s.heap g->Q x {s with heap:=g}):jk (kn prog w) A (la.SmallTypes.nextOf (.ref jt)) Q E s:=by
 let(m,b,f,a):=id c;let(o,h,_,p,j):=d;unfold la.SmallTypes.nextOf;refine aT (wpAny_callSpecial?_slot (name:=Str.ofString "__next__") c.typeIs F.slot_tuple_iterator_next (wpAny_call_entry F.slot_tuple_iterator_next c.typeIs F.entry_tuple_iterator_next ?_ (F.args_tuple_iterator_next_1 _)));show jk _ _ (field (.ref jt) 0>>=_) _ _ s;refine aT (wpAny_field b a (x:=.ref tu) rfl ?_);show jk _ _ (if(i1.ref tu==i1.none)=ig then _ else _) _ _ s;rw [if_neg (show¬((i1.ref tu==i1.none)=ig) from zzf)];show jk _ _ (field (.ref jt) 1>>=_) _ _ s;refine aT (wpAny_field b a (x:=.int i 0) rfl ?_);show jk _ _ (seqItems? (.ref tu)>>=_) _ _ s;refine aT (wpAny_seqItems h j ?_);simp! [hU,e];refine aT (wpAny_setField b a (by simp) (b4 {x,rfl,b4 (k _ ?_ (hD ..))}));exact{_,kB.get?_update_self _ b (Obj.isFreed_of_fields (Obj.data_mapFields a _)),(Obj.cls_mapFields ..).trans f,by rw [Obj.data_mapFields a];simp [rawInt]}
def ny(f:A.handled=ie)(b:s.heap.IsTupleIter jt tu i)(h:s.heap.IsTuple tu ai)(j:ai[i]?=ie)
 (k:∀g e,kB.ExtBut jt s.heap g->(∃o,g.get? e=ia o/\o.cls=.type (zu 44))->E (.ref e) {s with heap:=g}):jk (kn prog w) A (la.SmallTypes.nextOf (.ref jt)) Q E s:=by
 let(r,c,t,d):=id b;let(u,p,_,y,q):=h;unfold la.SmallTypes.nextOf;refine aT (wpAny_callSpecial?_slot (name:=Str.ofString "__next__") b.typeIs F.slot_tuple_iterator_next (wpAny_call_entry F.slot_tuple_iterator_next b.typeIs F.entry_tuple_iterator_next ?_ (F.args_tuple_iterator_next_1 _)));show jk _ _ (field (.ref jt) 0>>=_) _ _ s;refine aT (wpAny_field c d (x:=.ref tu) rfl ?_);show jk _ _ (if(i1.ref tu==i1.none)=ig then _ else _) _ _ s;rw [if_neg (show¬((i1.ref tu==i1.none)=ig) from zzf)];show jk _ _ (field (.ref jt) 1>>=_) _ _ s;refine aT (wpAny_field c d (x:=.int i 0) rfl ?_);show jk _ _ (seqItems? (.ref tu)>>=_) _ _ s;refine aT (wpAny_seqItems p q ?_);simp! [hU,j];refine aT (wpAny_rule (aT (wpAny_setField c d (by simp) ?_)));show jk _ _ (newExc (.type (zu 44)) []>>=_) _ _ _;refine aT ?_;simp! [newExc,newTuple];refine aT (wpAny_newObj_type ?_ (by size_fits));refine aT (m:=firstArgMember _ _) (wpAny_of_eq (a:=i1.none) (by first|rfl|(simp! [firstArgMember];rfl)) ?_);refine wpAny_newObj_type ?_ (by size_fits);simp! [raiseNew];refine aT (wpAny_handled ?_)
 first|rw [show A.in1.handled=ie from f]|rw [f]
 refine aT (b4 (wpAny_throw ?_));exact k _ _ (((hD ..).extBut.push _).push _) {_,et _ rfl,rfl}
end
theorem kD(j:A.handled=ie)(a b:i6)(k:b≠a)(c:Array i1):
 Draws prog w A a [a,b] c.size (λi v=>c[i]?=ia v) (λi h=>h.IsTupleIter a b i/\h.IsTuple b c) where
 live:=λZ Z st=>let⟨o,m,_⟩:=st.1;⟨o,m⟩
 frame:=λZ Z Z st hk=>{st.1.at λo e=>hk a (by simp) o e,by let(o,e,r):=st.2;exact{o,hk b (by simp) o e,r}}
 item:=λi s Q E d st p=>lH st.1 st.2 (x:=c[i]) (by simp [d]) λg q f=>p _ g s.toks (by simp [d]) {q,by let(o,e,r):=st.2;exact{o,f.extBut _ _ k e,r}} f
 done:=λs Q E st t=>ny j st.1 st.2 (by simp) t
set_option tactic.hygienic true in
theorem zU(l:i6)(a:Array i1)(n:Nat)(bC:Option i6)(sl:Array (Option i1)):
 Meets (la.«enumerate.__new__» {[.type (zu 0),.ref l],[]}) (λZ R s=>s.heap.get? l=ia {cls:=.type "tuple",dict:=bC,data:=.seq a n,slots:=sl}/\
  R (.ok (.ret (.ref (s.heap.push {cls:=.type (zu 41),data:=.fields #[.ref l,.int 0 0]}).objs.size)))
   {s with heap:=(s.heap.push {cls:=.type (zu 41),data:=.fields #[.ref l,.int 0 0]}).push {cls:=.type (zu 0),data:=.fields #[.none,.bool iv,.ref (zz9 s),rawInt 0,.none,.none]}}):=
 .of_wp λprog w A R s h=>by
  let(e,g,d,f,os):=s;let(hl,h):=h;have i:=sub_enumerate;have b:kB.IsTuple (i2.heap ⟨e,g,d,f,os⟩) l a:={_,hl,rfl,n,rfl}
  wp_walk using wpAny_loadPart' hl
  refine wpAny_stack_any λst=>b4 ?_;split
  .rename_i c _ _ _ _ _;cases(c==i1.type (zu 0))<;>(wp_walk using wpAny_loadPart' hl,wpAny_pyIter_tuple b;exact{_,rfl,h})
  .wp_walk using wpAny_loadPart' hl,wpAny_pyIter_tuple b
   exact{_,rfl,h}
def gh{b:i6}{c d:Obj}(f:h.get? a=ia c)(e:h.get? b=ia d)(g:c.cls≠d.cls):a≠b:=λz=>by subst z;rw [f] at e;cases e;exact g rfl
def fI(z:Str):strIterType z="str_ascii_iterator"\/strIterType z="str_iterator":=by
 unfold strIterType;split
 .exact .inl rfl
 .exact .inr rfl
def kE{j:mn}{t:St}{s:i2}{E:ml}{e it:i6}{K:List i6}{n i:Nat}{L:Nat->i1->Prop}{y:Nat->kB->Prop}{B:i1}{Gx:V->Prop}
 (I:Inv X j t H s) (D:Draws X.prog X.w X.A.in1 it K n L y) (he:IsEnum s.heap e it i B) (M:y i s.heap) (Y:i<n) (Z:e≠it) (N:e∉K) (O:∀b∈[e,it],dE X j H b) (hP:∀u,L i u->∃x,RelV x u/\Gx x):
 zx7 X (pyNext (.ref e)) (λr s1=>∃u,r=ia u/\zx7 X (letOwnedTupleGo (.Tuple elts x1 pos) (.ref e) u) (λ_ C=>∃x p,u=.ref p/\Gx x/\H p=ie/\e≠p/\it≠p/\
  Inv X j t (upd H p (.tup [.int i,x])) C/\(∃TZ,IsEnum C.heap e it ((i:Int)+1) TZ)/\y (i+1) C.heap) E s1) E s:=by
 refine wpAny_pyNext_enum_itemD D he M Y Z N λu h' k pu ho jd ht hz h=>?_;let(x,rx,gx):=hP u pu;let(P,F,f2,Q,R,S):=O e (by simp);let(g0,T,g2,g3,g4,g5):=O it (by simp);have m6:H (zz9 s)=ie:=I.aM.fresh (bc _);let(oi,G):=D.live _ _ M;have U:e≠(zz9 s):=ew (dn he);have XO:it≠(zz9 s):=ew (dn G);have d:∀b o,H b=ia o->b≠e/\b≠it/\b≠(zz9 s):=λb o q=>{(λz=>(by rw [z,P] at q;cases q)),(λz=>(by rw [z,g0] at q;cases q)),ew (I.aM.lt q)}
 have I1:Inv X j t (upd H (zz9 s) (.tup [.int i,x])) {s with heap:=h',toks:=k+1}:=by
  refine I.step (g':=s.gens) (d':=s.drawn) (ch:=[e,it]) (λb f=>?_) (λb o _ _ a q _=>h b o (λz=>a (by simp [z])) (λz=>a (by simp [z])) q)
   (λb o _ _ a q _=>{o.slots,h b o (λz=>a (by simp [z])) (λz=>a (by simp [z])) q}) (λb o _ q nb=>by rw [ae (ew (dn q))];exact nb)
   (λb o a q=>{o,h b o (λz=>a (by simp [z])) (λz=>a (by simp [z])) q}) (λb xs q=>by rw [ae (d b _ q).2.2];exact q) (λb o u q=>by rw [ae (d b _ q).2.2];exact q)
   (λb ps q=>{#[],by rw [ae (d b _ q).2.2,q];simp}) (λm hm=>?_) (λb o q=>?_) I.bare
  .rcases fP.mp f with z|z
   .subst z;exact⟨Q,F,R,S⟩
   .rw [e6.mp z];exact⟨g3,T,g4,g5⟩
  .let(o,es,ep,q,r):=hm;exact{o,es,ep,h _ o (Ne.symm F) (Ne.symm T) q,r}
  .by_cases f:b=(zz9 s)
   .subst f;rw [ak] at q;cases q;exact{(show 2<=k6 by decide),[.int i k,u],.cons ⟨k,rfl⟩ (.cons rx .nil),{_,ht,rfl,_,rfl}}
   .rw [ae f] at q;refine(I.aM b o q).fe (λc v a z=>h c v ?_ ?_ z) (λc z=>by rw [ae (d c _ z).2.2];exact z) λc xs z=>by rw [ae (d c _ z).2.2];exact z
    .rcases a with g|g
     .rw [g];exact(d b o q).1
     .exact(d c _ g).1
    .rcases a with g|g
     .rw [g];exact(d b o q).2.1
     .exact(d c _ g).2.1
 refine{_,rfl,wpAny_letOwnedTupleGo_enum ho λh2 Ls W=>?_};refine{x,(zz9 s),rfl,gx,m6,U,XO,I1.turned (t':=k+1) (it:=e) (λb o f q=>W.extBut b o f q) (by rw [ae U];exact P) F Q R S,{_,Ls},D.frame _ _ _ jd λb f o q=>W.extBut b o (λz=>N (z▸f)) q}
abbrev RL(K:zz8)(a:i6)(xs:List V):It:=
 {λi H=>fK K H a xs/\i<xs.length,λi H v b=>∃p x,v=.ref p/\H p=ie/\b=upd H p (.tup [.int (i:Nat),x])/\xs[i]?=ia x,λi H=>fK K H a xs/\i=xs.length}
abbrev QD(z:Str):It:=
 {λi Z=>i<z.cps.size,λi H v a=>∃p c,v=.ref p/\H p=ie/\a=upd H p (.tup [.int (i:Nat),.str {#[c]}])/\z.cps[i]?=ia c,λi Z=>i=z.cps.size}
def xb{K:zz8}(a e it:i6)(xs:List V):Turn P w K (.Tuple elts x1 pos) (RL K a xs) [e,it] e (λi h=>(∃c,IsEnum h e it i c)/\h.IsTupleIter it a i) where
 mem:=by simp
 obj:=λi h st b g=>by
  let((c,d),o,W,_,hd):=st
  rcases fP.mp g with z|z
  .subst z;exact{_,d,λv q=>by cases q}
  .rw [e6.mp z];exact{o,W,λv q=>by rw [hd] at q;cases q}
 keep:=λi h Y st k=>{by let(c,d):=st.1;exact{c,k e (by simp) _ d},st.2.at λo q=>k it (by simp) o q}
 item:=by
  intro X F G hK L i Z s σ H E I j st M;subst F G hK;let(N,cy):=M;let((c,d),f):=st;let(m,t,p,hz):=I.tuple N;have hl:=t.length;have O:=f;let(oi,y,B,_):=f;let(oa,C,D,_):=id p;have Q:a≠it:=gh C y (by rw [D,B];decide+kernel);have S:e≠it:=gh d y (by rw [B];show i1.type (zu 0)≠_;decide+kernel);have L5:e≠a:=gh d C (by rw [D];show i1.type (zu 0)≠_;decide+kernel);refine bL (kE (Gx:=λx=>xs[i]?=ia x) I (kD (A:=X.A.in1) (I.ok.hd L) it a Q m.toArray) d ⟨O,p⟩ (by rw [a7];omega) S (by simp [S,L5]) j (λu hu=>?_)) λr s1 ⟨u,hr,k⟩=>{u,hr,bL k λ_ s2 ⟨x,q,z1,z2,z3,z4,z5,z6,z7,z8⟩=>?_}
  .have T:xs[i]?=ia xs[i]:=zzg cy;let(u',JA,R):=t.get T;have:m.toArray[i]?=ia u':=zx6 JA;have U:m.toArray[i]?=ia u:=hu;rw [this] at U;cases U;exact{xs[i],R,T}
  .exact{.ref q,_,z6,z1.symm▸rfl,⟨q,x,rfl,z3,rfl,z2⟩,⟨z7,z8.1⟩,λb g=>by
    rcases fP.mp g with w|w
    .rw [w,ae z4];exact(j e (by simp)).1
    .rw [e6.mp w,ae z5];exact(j it (by simp)).1}
 done:=by intro X F G hK L i Z s σ H E I j st M;subst F G hK;let(N,rfl):=M;let((c,d),f):=st;let(m,t,p,hz):=I.tuple N;have hl:=t.length;have O:=f;let(oi,y,B,_):=f;let(oa,C,D,_):=id p;have Q:a≠it:=gh C y (by rw [D,B];decide+kernel);let(g0,g1,g2,g3,g4,g5):=j it (by simp);refine wpAny_pyNext_enum_endD (kD (A:=X.A.in1) (I.ok.hd L) it a Q m.toArray) d {by rw [a7,<-hl];exact O,p} λY eb=>{rfl,I.turned (t':=s.toks) (λb o g q=>eb b o g q) g0 g1 g3 g4 g5}
 self:=λ_ _ _ _ _ st h=>by let((c,d),_):=st;exact wpAny_pyIter_enum d h
def oK{E:ml}{s:i2}{l:i6}{a:Array i1}{Q:ml}(f:IsTup s.heap l a)
 (h:∀g,IsEnum g ((zz9 s)+1) (zz9 s) 0 .none->g.IsTupleIter (zz9 s) l 0->(∀b o,s.heap.get? b=ia o->g.get? b=ia o)->Q (.ref ((zz9 s)+1)) {s with heap:=g}):
 jk (kn prog w) A (call (.type (zu 0)) [.ref l]) Q E s:=by
 let((cls,i,data,j),k,c,n,hd):=id f;simp only at c hd;subst c hd;have d:(s.heap.push {cls:=.type (zu 41),data:=.fields #[.ref l,.int 0 0]}).objs.size=(zz9 s)+1:=kB.size_push ..;refine callType_new F.called_enumerate (by decide) (F.typeCall_enumerate_1 _) (F.newCall_enumerate_1 _) (λobj=>F.args_object_init_2 obj _) F.entry_enumerate_new (zU l a n i j) {k,?_};show _/\_;rw [d];have e:IsEnum ((s.heap.push {cls:=.type (zu 41),data:=.fields #[.ref l,.int 0 0]}).push {cls:=.type (zu 0),data:=.fields #[.none,.bool iv,.ref (zz9 s),rawInt 0,.none,.none]}) ((zz9 s)+1) (zz9 s) 0 .none:=by have q:=et (s.heap.push {cls:=.type (zu 41),data:=.fields #[.ref l,.int 0 0]}) (o:={cls:=.type (zu 0),data:=.fields #[.none,.bool iv,.ref (zz9 s),rawInt 0,.none,.none]}) rfl;rw [d] at q;exact q
 exact{{_,e,rfl},h _ e {_,a5 _ (et _ rfl),rfl,rfl} λb o x=>a5 _ (a5 _ x)}
section
variable{lN:Pos}
abbrev Tj(K:zz8)(c:TA):TI:=λd H R=>c d H λe b=>∃a xs,e=[.ref a]/\fK K b a xs/\R (RL K a xs) b
theorem DX{a:jj}{i:TA}{p:Pos}(t:Gl X (zu 0))(hm:X.mg (zu 0)=ie)(w:PA X [a] i)(hs:starEach [a] X.env=[(iv,eval a X.env)]:=by rfl):PI X (.Tuple elts x1 lN) (.Call (.Name (zu 0) p) [a] [] pos) (Tj X.K i):=by
 intro j s k H R I h;refine Call_ (eY I t hm boot_enumerate (PyProof.Rows.callWith_type1 (bL (w pos j s k H _ I h) λG c f=>?_) hs rfl));let(L,m,d,y,A):=f;let(a,xs,e,B,q):=A;subst e;let(u,rfl,C):=vals1 y;cases C;let(M,N,pt,O):=d.tuple B;refine oK pt λg o D kp=>wpAny_pyIter_enum o ?_;have E:Inv X j k m {c with heap:=g}:=d.kept (t':=c.toks) kp;refine{(zz9 c)+1,[(zz9 c)+1,(zz9 c)],_,_,m,rfl,E,xb a _ (zz9 c) xs,{{_,o},D},λb F=>?_,q}
 have r:(zz9 c)<=b:=by
  rcases fP.mp F with z|z
  .rw [z];exact Nat.le_succ _
  .rw [e6.mp z];exact bc _
 exact d.jy r (d.aM.fresh r)
end
def xa{K:zz8}(z:Str)(t:Tok)(e it:i6):Turn P w K (.Tuple elts x1 pos) (QD z) [e,it] e (λi h=>(∃a,IsEnum h e it i a)/\h.IsStrIter it (strIterType z) z t i) where
 mem:=by simp
 obj:=λi h st b j=>by
  let((a,f),o,ho,_,hd):=st
  rcases fP.mp j with q|q
  .subst q;exact{_,f,λv q=>by cases q}
  .rw [e6.mp q];exact{o,ho,λv q=>by rw [hd] at q;cases q}
 keep:=λi h R st k=>{by let(a,f):=st.1;exact{a,k e (by simp) _ f},by let(o,q,r):=st.2;exact{o,k it (by simp) o q,r}}
 item:=by
  intro X F G hK m i S s T H E I p st L;subst F G hK;have cy:i<z.cps.size:=L;let((a,f),d):=st;have y:=d;let(oi,e1,e2,_):=d
  have U:e≠it:=gh f e1 (by rw [e2];show i1.type (zu 0)≠_;rcases fI z with q|q<;>rw [q]<;>decide+kernel)
  have g:∀{B:Nat->kB->Prop},Draws X.prog X.w X.A.in1 it [it] z.cps.size (λi v=>∃c u,z.cps[i]?=ia c/\v=.str {#[c]} u) B->B i s.heap->(∀h,B (i+1) h->h.IsStrIter it (strIterType z) z t (i+1))->
   zx7 X (pyNext (.ref e)) (λr V=>∃u,r=ia u/\zx7 X (letOwnedTupleGo (.Tuple elts x1 pos) (.ref e) u) (λ_ C=>∃x M,Inv X S T M C/\RelV x u/\(QD z).Nv i H x M/\((∃a,IsEnum C.heap e it (((i+1:Nat)):Int) a)/\C.heap.IsStrIter it (strIterType z) z t (i+1))/\∀b∈[e,it],M b=ie) E V) E s:=by
   intro B D eh back;refine bL (kE (Gx:=λx=>∃c,x=.str {#[c]}/\z.cps[i]?=ia c) I D f eh cy U (by simp [U]) p (λu ⟨c,tk,m,hu⟩=>{.str {#[c]},⟨tk,hu⟩,c,rfl,m})) λr V ⟨u,hr,k⟩=>{u,hr,bL k λ_ C N=>?_};let(x,q,z1,(c,z2,O),z3,z4,z5,z6,z7,z8):=N
   subst z2;exact{.ref q,_,z6,z1.symm▸rfl,⟨q,c,rfl,z3,rfl,O⟩,{z7,back _ z8},λb j=>by
    rcases fP.mp j with w|w
    .rw [w,ae z4];exact(p e (by simp)).1
    .rw [e6.mp w,ae z5];exact(p it (by simp)).1}
  rcases fI z with q|q
  .rw [q] at y⊢;rw [q] at g;exact g (Draws.strAscii (A:=X.A.in1) (I.ok.hd m) it z t) y λh st=>st
  .rw [q] at y⊢;rw [q] at g;exact g (Draws.strWide (A:=X.A.in1) (I.ok.hd m) it z t) y λh st=>st
 done:=by
  intro X F G hK m i S s T H E I p st L;subst F G hK;have hi:i=z.cps.size:=L;subst hi;let((a,f),d):=st;let(W,Y,g2,Z,g4,g5):=p it (by simp)
  rcases fI z with q|q
  .rw [q] at d;exact wpAny_pyNext_enum_endD (Draws.strAscii (A:=X.A.in1) (I.ok.hd m) it z t) f d λR Q=>{rfl,I.turned (t':=s.toks) (λb o j q=>Q b o j q) W Y Z g4 g5}
  .rw [q] at d;exact wpAny_pyNext_enum_endD (Draws.strWide (A:=X.A.in1) (I.ok.hd m) it z t) f d λR Q=>{rfl,I.turned (t':=s.toks) (λb o j q=>Q b o j q) W Y Z g4 g5}
 self:=λ_ _ _ _ _ st h=>by let((a,f),_):=st;exact wpAny_pyIter_enum f h
section
variable{lN:Pos}
abbrev Ti(a:TA):TI:=λb H R=>a b H λc d=>∃z,c=[.str z]/\R (QD z) d
theorem DW{a:jj}{i:TA}{p:Pos}(w:Gl X (zu 0))(hm:X.mg (zu 0)=ie)(y:PA X [a] i)(hs:starEach [a] X.env=[(iv,eval a X.env)]:=by rfl):PI X (.Tuple elts x1 lN) (.Call (.Name (zu 0) p) [a] [] pos) (Ti i):=by
 intro j s k H R I h;refine Call_ (eY I w hm boot_enumerate (PyProof.Rows.callWith_type1 (bL (y pos j s k H _ I h) λF c d=>?_) hs rfl));let(G,m,f,A,B):=d;let(z,e,q):=B;subst e;let(u,rfl,t,rfl):=vals1 A;refine call_enumerate_str λg o C K kp=>wpAny_pyIter_enum o ?_;have D:Inv X j k m {c with heap:=g}:=f.kept (t':=c.toks) kp;refine{(zz9 c)+1,[(zz9 c)+1,(zz9 c)],_,_,m,rfl,D,xa z t _ (zz9 c),{{_,o},C},λb E=>?_,q}
 have r:(zz9 c)<=b:=by
  rcases fP.mp E with z|z
  .rw [z];exact Nat.le_succ _
  .rw [e6.mp z];exact bc _
 exact f.jy r (f.aM.fresh r)
end
abbrev JU(K:zz8)(a:i6)(xs:List V):It:=
 {λi H=>iX K H a xs/\i<xs.length,λi H v b=>∃p x,v=.ref p/\H p=ie/\b=upd H p (.tup [.int (i:Nat),x])/\xs[i]?=ia x,λi H=>iX K H a xs/\i=xs.length}
def w9{K:zz8}(a e it:i6)(xs:List V):Turn P w K (.Tuple elts x1 pos) (JU K a xs) [e,it] e (λi h=>(∃c,IsEnum h e it i c)/\h.IsListIter it a i) where
 mem:=by simp
 obj:=λi h st b g=>by
  let((c,d),o,W,_,hd):=st
  rcases fP.mp g with z|z
  .subst z;exact{_,d,λv q=>by cases q}
  .rw [e6.mp z];exact{o,W,λv q=>by rw [hd] at q;cases q}
 keep:=λi h Y st k=>{by let(c,d):=st.1;exact{c,k e (by simp) _ d},st.2.at λo q=>k it (by simp) o q}
 item:=by
  intro X F G hK L i Z s σ H E I j st M;subst F G hK;let(N,cy):=M;let((c,d),f):=st;let(m,t,p,hz):=I.list N;have hl:=t.length;have O:=f;let(oi,y,B,_):=f;let(oa,C,D,_):=p.isList;have Q:a≠it:=gh C y (by rw [D,B];decide+kernel);have S:e≠it:=gh d y (by rw [B];show i1.type (zu 0)≠_;decide+kernel);have L5:e≠a:=gh d C (by rw [D];show i1.type (zu 0)≠_;decide+kernel);refine bL (kE (Gx:=λx=>xs[i]?=ia x) I (Draws.list (A:=X.A.in1) (I.ok.hd L) it a Q m.toArray) d ⟨O,p.isList⟩ (by rw [a7];omega) S (by simp [S,L5]) j (λu hu=>?_)) λr s1 ⟨u,hr,k⟩=>{u,hr,bL k λ_ s2 ⟨x,q,z1,z2,z3,z4,z5,z6,z7,z8⟩=>?_}
  .have T:xs[i]?=ia xs[i]:=zzg cy;let(u',JA,R):=t.get T;have:m.toArray[i]?=ia u':=zx6 JA;have U:m.toArray[i]?=ia u:=hu;rw [this] at U;cases U;exact{xs[i],R,T}
  .exact{.ref q,_,z6,z1.symm▸rfl,⟨q,x,rfl,z3,rfl,z2⟩,⟨z7,z8.1⟩,λb g=>by
    rcases fP.mp g with w|w
    .rw [w,ae z4];exact(j e (by simp)).1
    .rw [e6.mp w,ae z5];exact(j it (by simp)).1}
 done:=by intro X F G hK L i Z s σ H E I j st M;subst F G hK;let(N,rfl):=M;let((c,d),f):=st;let(m,t,p,hz):=I.list N;have hl:=t.length;have O:=f;let(oi,y,B,_):=f;let(oa,C,D,_):=p.isList;have Q:a≠it:=gh C y (by rw [D,B];decide+kernel);let(g0,g1,g2,g3,g4,g5):=j it (by simp);refine wpAny_pyNext_enum_endD (Draws.list (A:=X.A.in1) (I.ok.hd L) it a Q m.toArray) d {by rw [a7,<-hl];exact O,p.isList} λY eb=>{rfl,I.turned (t':=s.toks) (λb o g q=>eb b o g q) g0 g1 g3 g4 g5}
 self:=λ_ _ _ _ _ st h=>by let((c,d),_):=st;exact wpAny_pyIter_enum d h
section
variable{lN:Pos}
abbrev Th(K:zz8)(c:TA):TI:=λd H R=>c d H λe b=>∃a xs,e=[.ref a]/\iX K b a xs/\R (JU K a xs) b
theorem uW{a:jj}{i:TA}{p:Pos}(t:Gl X (zu 0))(hm:X.mg (zu 0)=ie)(w:PA X [a] i)(hs:starEach [a] X.env=[(iv,eval a X.env)]:=by rfl):PI X (.Tuple elts x1 lN) (.Call (.Name (zu 0) p) [a] [] pos) (Th X.K i):=by
 intro j s k H R I h;refine Call_ (eY I t hm boot_enumerate (PyProof.Rows.callWith_type1 (bL (w pos j s k H _ I h) λG c f=>?_) hs rfl));let(L,m,d,y,A):=f;let(a,xs,e,B,q):=A;subst e;let(u,rfl,C):=vals1 y;cases C;let(M,N,pt,O):=d.list B;refine call_enumerate_list pt.isList λg o D Z kp=>wpAny_pyIter_enum o ?_;have E:Inv X j k m {c with heap:=g}:=d.kept (t':=c.toks) kp;refine{(zz9 c)+1,[(zz9 c)+1,(zz9 c)],_,_,m,rfl,E,w9 a _ (zz9 c) xs,{{_,o},D},λb F=>?_,q}
 have r:(zz9 c)<=b:=by
  rcases fP.mp F with z|z
  .rw [z];exact Nat.le_succ _
  .rw [e6.mp z];exact bc _
 exact d.jy r (d.aM.fresh r)
variable{aa:mn}{s:i2}{ch:List i6}
def Inv.moved{tk:Nat}(I:zv2 s)(d:∀b∈ch,dE X aa H b)(kk:∀b o,b∉ch->s.heap.get? b=ia o->h'.get? b=ia o):Inv X aa σ H {s with heap:=h',toks:=tk}:=by
 have f:∀b o,H b=ia o->b∉ch:=λb o q z=>by rw [(d b z).1] at q;cases q
 refine I.step (g':=s.gens) (d':=s.drawn) (ch:=ch) (λb g=>?_) (λb o Z Z a q Z=>kk b o a q) (λb o Z Z a q Z=>{o.slots,kk b o a q}) (λZ Z Z Z n=>n)
  (λb o a q=>{o,kk b o a q}) (λb xs q=>q) (λb o u q=>q) (λb w q=>{#[],by rw [q];simp}) (λm hm=>?_) (λb o q=>?_) I.bare
 .let(y,h,A,i,j,k):=d b g;exact⟨i,h,j,k⟩
 .let(o,p,t,q,r):=hm;exact{o,p,t,kk _ o (λz=>(d _ z).2.1 rfl) q,r}
 .refine(I.aM b o q).fe (λc v a z=>kk c v ?_ z) (λc z=>z) λc xs z=>z
  rcases a with e|e
  .rw [e];exact f b o q
  .exact f c _ e
end
structure Zd where
 it:i6
 fp:List i6
 n:Nat
 P:Nat->i1->Prop
 St:Nat->kB->Prop
structure N8(prog:jm)(w:kd)(A:ku)(z TI TO:i6)(ds:List Zd):Prop where
 D:∀d∈ds,Draws prog w A d.it d.fp d.n d.P d.St
 zf:∀d∈ds,z∉d.fp/\TO∉d.fp/\d.it≠z/\d.it≠TO/\d.it≠TI
 ap:ds.Pairwise λa b=>a.it∉b.fp/\b.it∉a.fp
 tz:TI≠z/\TO≠z/\TI≠TO
noncomputable abbrev iW(h:kB)(T:i6)(xs:Array i1):Prop:=h.get? T=ia {cls:=.type "tuple",data:=.seq xs}
section
variable{E:ml}{s:i2}{z TI TO:i6}{ds:List Zd}{k:Nat}
def Sh(z TI TO:i6)(k:Nat)(e:kB)(ds:List Zd)(rest:List (i1×Nat))(h:kB):Prop:=
 ∃a b xs f,ds=a++b/\rest=(b.map λd=>i1.ref d.it).zipIdx a.length/\Paired (λd x=>d.P k x) a xs/\f.length=b.length/\IsZip h z TI TO .ellipsis/\iW h TO (xs++f).toArray/\
  (∀d∈a,d.St (k+1) h)/\(∀d∈b,d.St k h)/\h.objs.size=e.objs.size/\∀c o,c≠z->c≠TO->(∀d∈ds,c≠d.it)->e.get? c=ia o->h.get? c=ia o
def vy{Q:Fin->i2->Prop}(Z:N8 prog w A z TI TO ds)(hl:ds.length<=9)(iJ:ds≠[])(hz:IsZip s.heap z TI TO .none)(Xo:iW s.heap TI (ds.map λd=>i1.ref d.it).toArray)(Xp:∃c,iW s.heap TO c/\c.size=ds.length)(hs:∀d∈ds,d.St k s.heap/\k<=d.n)
 (hQ:∀h' tk xs,Paired (λd x=>d.P k x) ds xs->IsZip h' z TI TO (rawInt (zz9 s))->(∃c,iW h' TO c/\c.size=ds.length)->(∀d∈ds,d.St (k+1) h')->iW h' (zz9 s) xs.toArray->h'.objs.size=(zz9 s)+1->
  (∀c o,c≠z->c≠TO->(∀d∈ds,c≠d.it)->s.heap.get? c=ia o->h'.get? c=ia o)->Q (.done (.ret (.ref (zz9 s)))) {s with heap:=h',toks:=tk})
 (hE:∀h' tk e,(∃d∈ds,d.n<=k)->(∀c o,c≠z->c≠TO->(∀d∈ds,c≠d.it)->s.heap.get? c=ia o->h'.get? c=ia o)->(∃o,h'.get? e=ia o/\o.cls=.type (zu 44))->E (.ref e) {s with heap:=h',toks:=tk}):
 jk (kn prog w) A (la.«zip.__next__» {[.ref z],[]}) Q E s:=by
 let(t1,Y,t3):=Z.tz;show jk _ _ (field (.ref z) 2>>=_) _ _ _;refine aT (wpAny_field hz rfl (x:=.bool iv) rfl ?_);show jk _ _ (field (.ref z) 3>>=_) _ _ _;refine aT (wpAny_field hz rfl (x:=.ref TI) rfl ?_);refine aT (wpAny_seqItems Xo rfl ?_);have SV:(ds.map λd=>i1.ref d.it).toArray.isEmpty=iv:=by cases ds<;>simp_all
 simp! [SV,eM,if_false];show jk _ _ (la.SmallTypes.ownedTupleIsFree (.ref z)>>=_) _ _ _;refine aT ?_;unfold la.SmallTypes.ownedTupleIsFree;refine aT (wpAny_field hz rfl (x:=.none) rfl (b4 ?_));simp! [if_true];refine aT (wpAny_rule ?_);refine aT (wpAny_field hz rfl (x:=.ref TO) rfl ?_);refine aT (wpAny_setField_rec hz (by simp) λt p f=>?_);replace p:IsZip t z TI TO .ellipsis:=p;refine aT ?_;let(c,hc,Bm):=Xp;have Pk:∀{h h':kB},kB.SameBut z h h'->∀d∈ds,∀{i},d.St i h->d.St i h':=λI d hd i q=>(Z.D d hd).frame _ _ _ q λb u o e=>I.extBut b o (λx=>(Z.zf d hd).1 (x▸u)) e;refine wpAny_forIn_list _ (λrest b s'=>b=⟨ie,PUnit.unit⟩/\∃h tk,s'={s with heap:=h,toks:=tk}/\Sh z TI TO k s.heap ds rest h) _ ?_ ?_ _ _ {rfl,t,s.toks,rfl,[],ds,[],c.toList,rfl,rfl,.nil,zx6 Bm,p,?_,(λd hd=>nomatch hd),(λd hd=>Pk f d hd (hs d hd).1),f.1,λc o h1 _ _ e=>f.extBut _ _ h1 e}
 .rintro ⟨Rg,j⟩ rest b s' ⟨rfl,h,tk,rfl,K,lf,xs,S,rfl,T,pr,B,C,F,sd,W,H,U⟩
  cases lf with
  |nil=>cases T
  |cons d lf=>
   simp! [bf,List.zipIdx_cons,List.cons.injEq,Prod.mk.injEq] at T;let((rfl,rfl),rfl):=T;have hd:d∈K++d::lf:=by simp
   have D:=Z.D d hd;let(f1,f2,f3,f4,f5):=Z.zf d hd
   refine aT (wpAny_onRaise ?_);show jk _ _ (la.SmallTypes.nextOf (.ref d.it)>>=_) _ _ _;have Gu:∀a∈K++lf,d.it∉a.fp/\a.it∉d.fp:=λa g=>by
    have q:=List.pairwise_append.1 Z.ap
    rcases List.mem_append.1 g with g|g
    .exact(q.2.2 a g d (dV ..)).symm
    .exact(List.pairwise_cons.1 q.2.1).1 a g
   by_cases hk:k<d.n
   .refine aT (D.item k _ _ _ hk (W d (dV ..)) λx N YD px M0 I=>b4 ?_);have LA:iW N TO (xs++S).toArray:=I.extBut _ _ (Ne.symm f4) F;refine aT (wpAny_seqItems LA rfl ?_);have lx:=Paired.length pr
    obtain⟨y,r,rfl⟩:∃y r,S=y::r:=by cases S with|nil=>cases B|cons y r=>exact⟨y,r,rfl⟩
    have O9:(xs++y::r).toArray.size<=sizeLine:=by
     have:(xs++y::r).toArray.size<=9:=by simp! [a7,dj,c6] at B hl⊢;omega
     exact eg this (by decide)
    refine aT (wpAny_updateSeq LA rfl ?_ O9 (by rw [Array.size_setIfInBounds];exact Nat.le_succ_of_le O9));refine aT (wpAny_letGo (b4 ?_));have O:kB.SameBut TO N (N.update TO (Obj.mapSeq λv=>v.setIfInBounds K.length x)):=hD ..
    have Tb:iW (N.update TO (Obj.mapSeq λv=>v.setIfInBounds K.length x)) TO (xs++[x]++r).toArray:=by
     show kB.get? _ TO=_;rw [kB.get?_update_self _ LA rfl];have:(xs++y::r).toArray.setIfInBounds K.length x=(xs++[x]++r).toArray:=by rw [List.setIfInBounds_toArray,lx,List.set_append_right _ _ (bc _),Nat.sub_self,List.set_cons_zero];simp
     have ls:((xs++[x]++r).toArray.size==(xs++y::r).toArray.size)=ig:=by simp
     simp! [Obj.mapSeq,this,ls,if_true]
    refine{rfl,_,YD,rfl,K++[d],lf,xs++[x],r,by simp,by simp,Paired.snoc pr px,zx6 B,?_,Tb,λa g=>?_,λa g=>?_,?_,λc o G R L e=>?_}
    .exact O.extBut _ _ (Ne.symm Y) (I.extBut _ _ (Ne.symm f3) C)
    .rcases List.mem_append.1 g with g|g
     .refine(Z.D a (by simp [g])).frame _ _ _ (sd a g) λb u o e=>O.extBut _ _ (λq=>(Z.zf a (by simp [g])).2.1 (q▸u)) (I.extBut _ _ (λq=>(Gu a (by simp [g])).1 (q▸u)) e)
     .rw [e6.1 g];exact D.frame _ _ _ M0 λb u o e=>O.extBut _ _ (λq=>f2 (q▸u)) e
    .refine(Z.D a (by simp [g])).frame _ _ _ (W a (c3 _ g)) λb u o e=>O.extBut _ _ (λq=>(Z.zf a (by simp [g])).2.1 (q▸u)) (I.extBut _ _ (λq=>(Gu a (by simp [g])).1 (q▸u)) e)
    .rw [O.1,I.1,H]
    .exact O.extBut _ _ R (I.extBut _ _ (L d hd) (U c o G R L e))
   .have hn:d.n=k:=Nat.le_antisymm (Nat.le_of_not_lt hk) (hs d hd).2;refine aT (D.done _ _ _ (by rw [hn];exact W d (dV ..)) λN e eb he=>?_);let(oe,M,O0):=he;have NO:IsZip N z TI TO .ellipsis:=eb _ _ (Ne.symm f3) C;have XG:e≠z:=λq=>by subst q;rw [NO] at M;cases M;simp at O0
    exact wpAny_setField_rec NO (by simp) λh3 _ V9=>hE h3 tk e {d,hd,Nat.le_of_eq hn} (λc o G R L q=>V9.extBut _ _ G (eb _ _ (L d hd) (U c o G R L q))) {oe,V9.extBut _ _ XG M,O0}
 .rintro b s' ⟨rfl,h,tk,rfl,K,lf,xs,S,rfl,T,pr,B,C,F,sd,W,H,U⟩
  obtain rfl:lf=[]:=by cases lf with|nil=>rfl|cons d lf=>cases T
  obtain rfl:S=[]:=List.eq_nil_of_length_eq_zero B;simp! [hW] at F hQ Z U hl;have lx:=Paired.length pr;refine aT (wpAny_seqItems F rfl ?_);refine aT (wpAny_newTuple ?_ (eg (m:=9) (by show xs.length<=9;omega) (by decide)));show jk _ _ (la.SmallTypes.ownedTupleHandOut (.ref z) (.ref h.objs.size)>>=_) _ _ _;refine aT ?_;unfold la.SmallTypes.ownedTupleHandOut;have WY:z<h.objs.size:=dn C;have X8:IsZip (h.push {cls:=.type "tuple",data:=.seq xs.toArray}) z TI TO .ellipsis:=a5 _ C;refine aT (wpAny_setField_rec X8 (by simp) λh7 Te S8=>?_);replace Te:IsZip h7 z TI TO (rawInt h.objs.size):=Te;refine wpAny_setField_rec Te (by simp) λV X S9=>?_;replace X:IsZip V z TI TO (rawInt h.objs.size):=X;have up:∀c o,c≠z->h.get? c=ia o->V.get? c=ia o:=λc o G e=>S9.extBut _ _ G (S8.extBut _ _ G (a5 _ e));have VV:iW V h.objs.size xs.toArray:=S9.extBut _ _ (Nat.ne_of_gt WY) (S8.extBut _ _ (Nat.ne_of_gt WY) (et _ rfl));have V6:V.objs.size=h.objs.size+1:=by rw [S9.1,S8.1,kB.size_push]
  rw [H] at X VV V6;refine b4 ?_;show Q (.done (.ret (.ref h.objs.size))) _;rw [H];exact hQ V tk xs pr X {_,up _ _ Y F,by simp [lx]} (λd hd=>(Z.D d hd).frame _ _ _ (sd d hd) λb u o e=>up b o (λq=>(Z.zf d hd).1 (q▸u)) e) VV V6 λc o G R L e=>up c o G (U c o G R L e)
 .show iW t TO _;exact f.extBut _ _ Y (zx6 hc)
variable{aa:mn}{ch:List i6}
def Inv.Ds{tk:Nat}{xs:List V}{ob:Obj}{n:Nat}(I:zv2 s)(f:∀b∈ch,dE X aa H b)(kk:∀b o,b∉ch->s.heap.get? b=ia o->h'.get? b=ia o)
 (h:h'.get? (zz9 s)=ia ob) (a:ob.cls=.type "tuple") (hd:ob.data=.seq us.toArray n) (i:Vals xs us) (hl:xs.length<=k6):Inv X aa σ (upd H (zz9 s) (.tup xs)) {s with heap:=h',toks:=tk}:=by
 have d:∀b o,H b=ia o->b∉ch/\b≠(zz9 s):=λb o q=>{(λz=>(by rw [(f b z).1] at q;cases q)),ew (I.aM.lt q)}
 refine I.step (g':=s.gens) (d':=s.drawn) (ch:=ch) (λb e=>?_) (λb o Z Z a q Z=>kk b o a q) (λb o Z Z a q Z=>{o.slots,kk b o a q}) (λb o Z q j=>by rw [ae (ew (dn q))];exact j)
  (λb o a q=>{o,kk b o a q}) (λb xs q=>by rw [ae (d b _ q).2];exact q) (λb o u q=>by rw [ae (d b _ q).2];exact q) (λb F q=>{#[],by rw [ae (d b _ q).2,q];simp}) (λm hm=>?_) (λb o q=>?_) I.bare
 .let(G,p,K,t,y,B):=f b e;exact⟨t,p,y,B⟩
 .let(o,C,D,q,r):=hm;exact{o,C,D,kk _ o (λz=>(f _ z).2.1 rfl) q,r}
 .by_cases e:b=(zz9 s)
  .subst e;rw [ak] at q;cases q;exact{hl,us,i,{_,h,a,_,hd}}
  .rw [ae e] at q;refine(I.aM b o q).fe (λc v a z=>kk c v ?_ z) (λc z=>by rw [ae (d c _ z).2];exact z) λc xs z=>by rw [ae (d c _ z).2];exact z
   rcases a with g|g
   .rw [g];exact(d b o q).1
   .exact(d c _ g).1
end
structure Zs where
 it:i6
 b:Bool
 a:i6
 xs:List V
def Zs.iter(q:Zs)(i:Nat)(h:kB):Prop:=if q.b=ig then h.IsListIter q.it q.a i else h.IsTupleIter q.it q.a i
noncomputable abbrev Zt:=Bool×i6×List V
abbrev Zs.t(q:Zs):Zt:=(q.b,q.a,q.xs)
def Zq(K:zz8)(H:Hp)(q:Zt):Prop:=if q.1=ig then iX K H q.2.1 q.2.2 else fK K H q.2.1 q.2.2
def Zs.sq(K:zz8)(H:Hp)(q:Zs):Prop:=if q.b=ig then iX K H q.a q.xs else fK K H q.a q.xs
def Zs.yd{q:Zs}{i:Nat}(st:q.iter i h)(k:∀o,h.get? q.it=ia o->h'.get? q.it=ia o):q.iter i h':=by
 unfold Zs.iter at st⊢;split
 .rename_i e;rw [if_pos e] at st;exact st.at k
 .rename_i e;rw [if_neg e] at st;exact st.at k
def Zs.uv{q:Zs}{i:Nat}(st:q.iter i h):∃o,h.get? q.it=ia o/\∀v,o.data≠.cell v:=by
 unfold Zs.iter at st;split at st
 .let(o,a,_,hd):=st;exact{o,a,λv z=>by rw [hd] at z;cases z}
 .let(o,a,_,hd):=st;exact{o,a,λv z=>by rw [hd] at z;cases z}
abbrev RJ(K:zz8)(ts:List Zt):It:=
 {λi H=>∀q∈ts,Zq K H q/\i<q.2.2.length,λi H v b=>∃p a,v=.ref p/\H p=ie/\b=upd H p (.tup a)/\Paired (λ(q:Zt) y=>q.2.2[i]?=ia y) ts a,
  λi H=>(∀q∈ts,Zq K H q/\i<=q.2.2.length)/\∃q∈ts,q.2.2.length=i}
structure BE(prog:jm)(w:kd)(A:ku)(i:Nat)(h:kB)(q:Zs)(d:Zd):Prop where
 it:d.it=q.it
 fp:d.fp=[q.it,q.a]
 n:d.n=q.xs.length
 D:Draws prog w A d.it d.fp d.n d.P d.St
 st:d.St i h
 back:∀j g,d.St j g->q.iter j g
 val:∀j u,d.P j u->∃x,RelV x u/\q.xs[j]?=ia x
section
variable{aa:mn}{s:i2}
def EI{xs:List V}{b:List i1}(d:Vals xs b)(j:Nat)(u:i1)(a:b.toArray[j]?=ia u):∃x,RelV x u/\xs[j]?=ia x:=by
 have a:b[j]?=ia u:=zx6 a;have e:j<xs.length:=by rw [d.length];exact(cP.mp a).1
 let(g,f,c):=d.get (zzg e);rw [a] at f;cases f;exact{_,c,zzg e}
def Qx(k:X.calm=ig)(I:zv2 s){q:Zs}{i:Nat}(m:q.a≠q.it)(h:q.sq X.K H)(st:q.iter i s.heap):∃d,BE X.prog X.w X.A.in1 i s.heap q d:=by
 unfold Zs.sq at h;unfold Zs.iter at st;cases f:q.b with
 |true=>
  rw [if_pos f] at h st;let(c,e,p,_):=I.list h;refine{{q.it,[q.it,q.a],c.toArray.size,_,_},rfl,rfl,?_,Draws.list (A:=X.A.in1) (I.ok.hd k) q.it q.a m c.toArray,⟨st,p.isList⟩,λj g z=>?_,EI e}
  .rw [a7,<-e.length]
  .unfold Zs.iter;rw [if_pos f];exact z.1
 |false=>
  have o:¬q.b=ig:=by rw [f];exact zzf
  rw [if_neg o] at h st;let(c,e,p,_):=I.tuple h;refine{{q.it,[q.it,q.a],c.toArray.size,_,_},rfl,rfl,?_,kD (A:=X.A.in1) (I.ok.hd k) q.it q.a m c.toArray,⟨st,p⟩,λj g z=>?_,EI e}
  .rw [a7,<-e.length]
  .unfold Zs.iter;rw [if_neg o];exact z.1
theorem xl(c:X.calm=ig)(I:zv2 s){i:Nat}:∀{qs:List Zs},(∀q∈qs,q.a≠q.it/\q.sq X.K H/\q.iter i s.heap)->∃ds,Paired (BE X.prog X.w X.A.in1 i s.heap) qs ds
 |[],_=>{[],.nil}|q::qs,h=>by let(e,f,g):=h q (dV ..);let(d,hd):=Qx c I e f g;let(ds,b):=xl c I (qs:=qs) λr j=>h r (c3 _ j);exact{d::ds,.cons hd b}
variable{α β:Type}{R:α->β->Prop}
theorem cM:∀{l:List α} {m:List β},Paired R l m->∀b∈m,∃a∈l,R a b
 |_,_,.cons h t,b,c=>by
  rcases fP.1 c with rfl|c
  .exact{_,dV ..,h}
  .let(a,d,e):=cM t b c;exact{a,c3 _ d,e}
theorem fY:∀{l:List α} {m:List β},Paired R l m->∀a∈l,∃b∈m,R a b
 |_,_,.cons h t,b,c=>by
  rcases fP.1 c with rfl|c
  .exact{_,dV ..,h}
  .let(a,d,e):=fY t b c;exact{a,c3 _ d,e}
theorem qf{S:α->α->Prop}{T:β->β->Prop}(h:∀a c b d,R a b->R c d->S a c->T b d):∀{l:List α} {m:List β},Paired R l m->l.Pairwise S->m.Pairwise T
 |_,_,.nil,_=>.nil|_,_,.cons r t,p=>by let(e,f):=List.pairwise_cons.1 p;refine List.pairwise_cons.2 {λb g=>?_,qf h t f};let(a,i,j):=cM t b g;exact h _ _ _ _ r j (e a i)
end
structure Sg(z TI TO:i6)(qs:List Zs):Prop where
 tz:TI≠z/\TO≠z/\TI≠TO
 ne:qs≠[]
 len:qs.length<=9
 it:∀q∈qs,q.it≠z/\q.it≠TO/\q.it≠TI
 a:∀q∈qs,q.a≠z/\q.a≠TO/\∀r∈qs,q.a≠r.it
 pw:qs.Pairwise λa b=>a.it≠b.it
def W6(z TI TO:i6)(qs:List Zs)(i:Nat)(h:kB):Prop:=IsZip h z TI TO .none/\iW h TI (qs.map λq=>i1.ref q.it).toArray/\(∃c,iW h TO c/\c.size=qs.length)/\∀q∈qs,q.iter i h
def EK{i:Nat}{z TI TO:i6}{qs:List Zs}{ds:List Zd}(Z:Sg z TI TO qs)(p:Paired (BE prog w A i h) qs ds):N8 prog w A z TI TO ds where
 D:=λd hd=>by let(q,_,r):=cM p d hd;exact r.D
 zf:=λd hd=>by let(q,e,r):=cM p d hd;let(f,g,s):=Z.it q e;let(t,u,_):=Z.a q e;rw [r.fp,r.it];simp! [fP,List.not_mem_nil,or_false,not_or];exact{{Ne.symm f,Ne.symm t},{Ne.symm g,Ne.symm u},f,g,s}
 ap:=by
  have q:qs.Pairwise λa b=>a.it≠b.it/\a.it≠b.a/\b.it≠a.a:=by refine List.Pairwise.imp_of_mem (λ{a b} j k h=>{h,λz=>(Z.a b k).2.2 a j z.symm,λz=>(Z.a a j).2.2 b k z.symm}) Z.pw
  refine qf (λa C b E r m c=>?_) p q;let(o,y,B):=c;rw [r.fp,m.fp,r.it,m.it];simp! [fP,List.not_mem_nil,or_false,not_or];exact{⟨o,y⟩,Ne.symm o,B}
 tz:=Z.tz
theorem jb{i:Nat}:∀{qs:List Zs} {ds:List Zd},Paired (BE prog w A i h) qs ds->(qs.map λq=>i1.ref q.it)=ds.map λd=>i1.ref d.it
 |_,_,.nil=>rfl|_,_,.cons r t=>by rw [bf,bf,r.it,jb t]
theorem oE{i:Nat}:∀{qs:List Zs} {ds:List Zd} {us:List i1},Paired (BE prog w A i h) qs ds->Paired (λd x=>d.P i x) ds us->∃ys,Vals ys us/\Paired (λ(q:Zt) y=>q.2.2[i]?=ia y) (qs.map Zs.t) ys
 |_,_,_,.nil,.nil=>{[],.nil,.nil}|_,_,_,.cons r t,.cons u v=>by let(x,a,b):=r.val i _ u;let(ys,c,e):=oE t v;exact{x::ys,.cons a c,.cons b e}
def Bd{K:zz8}{z TI TO:i6}{qs:List Zs}(Z:Sg z TI TO qs):
 Turn P w K (.Tuple elts x1 pos) (RJ K (qs.map Zs.t)) (z::TI::TO::qs.map (·.it)) z (W6 z TI TO qs) where
 mem:=by simp
 obj:=λi h st c D=>by
  let(u,A,(_,B,_),C):=st
  simp! [fP,hG] at D;rcases D with rfl|rfl|rfl|⟨q,f,rfl⟩
  .exact{_,u,λv q=>by cases q}
  .exact{_,A,λv q=>by cases q}
  .exact{_,B,λv q=>by cases q}
  .exact Zs.uv (C q f)
 keep:=λi h Q st k=>by let(u,A,(c,B,G),C):=st;exact{k z (by simp) _ u,k TI (by simp) _ A,{c,k TO (by simp) _ B,G},λq f=>Zs.yd (C q f) λo e=>k q.it (by simp;exact .inr (.inr (.inr ⟨q,f,rfl⟩))) o e}
 item:=by
  intro X U V hK D i W s σ H E I L st p;subst U V hK;replace p:∀q∈qs,q.sq X.K H/\i<q.xs.length:=λq f=>p q.t (List.mem_map_of_mem f);let(u,A,(c,B,G),C):=st;let(ds,j):=xl D I λq f=>{(Z.a q f).2.2 q f,(p q f).1,C q f};have M:s.TypeIs (.ref z) "zip":={_,u,rfl};have len:=Paired.length j;have m6:H (zz9 s)=ie:=I.aM.fresh (bc _)
  have lt:∀b∈z::TI::TO::qs.map (·.it),b<(zz9 s):=λb g=>by
   simp! [fP,hG] at g;rcases g with rfl|rfl|rfl|⟨q,f,rfl⟩
   .exact dn u
   .exact dn A
   .exact dn B
   .let(o,Y,_):=Zs.uv (C q f);exact dn Y
  unfold pyNext;refine aT (wpAny_attempt (wpAny_callSpecial?_slot (name:=Str.ofString "__next__") M PySem.F.slot_zip_next (wpAny_call_entry PySem.F.slot_zip_next M PySem.F.entry_zip_next
   (vy (k:=i) (EK Z j) (by rw [<-len];exact Z.len) (by have:=Z.ne;intro e;subst e;cases j;exact this rfl) u (by rw [<-jb j];exact A) {c,B,by rw [<-len];exact G} (λd hd=>by let(q,f,r):=cM j d hd;exact{r.st,by rw [r.n];exact Nat.le_of_lt (p q f).2})
    (λQ tk us pu z1 z2 z3 z4 z5 N=>{_,rfl,b4 ?_}) λQ tk e O _ _=>?_) (PySem.F.args_zip_next_1 _))))
  .let(ys,rv,R):=oE j pu
   have SX:∀b∈z::TO::qs.map (·.it),dE X W H b:=λb g=>L b (by simp! [fP] at g⊢;rcases g with h|h|h<;>simp [h]);have I1:=Inv.Ds (tk:=tk) (xs:=ys) I SX (λb o g e=>N b o (λq=>g (by simp [q])) (λq=>g (by simp [q])) (λd hd q=>g (by let(q',lF,r):=cM j d hd;simp! [fP,hG];exact .inr (.inr {q',lF,by rw [q,r.it]}))) e) z4 rfl rfl rv (eg (m:=9) (by have h1:=Paired.length R;have:=Z.len;rw [zzl] at h1;omega) (by decide));refine{_,rfl,wpAny_letOwnedTupleGo_zip z1 λh2 NO S=>?_};let(f0,f1,f2,f3,f4,f5):=L z (by simp);have nz:z≠(zz9 s):=ew (lt z (by simp));refine{.ref (zz9 s),_,I1.turned (t':=tk) (it:=z) (λb o g q=>S.extBut b o g q) (by rw [ae nz];exact f0) f1 f3 f4 f5,rfl,{_,_,rfl,m6,rfl,R},{NO,?_,?_,λq f=>?_},λb g=>?_}
   .exact S.extBut _ _ Z.tz.1 (N _ _ Z.tz.1 Z.tz.2.2 (λd hd=>by let(q,f,r):=cM j d hd;rw [r.it];exact Ne.symm (Z.it q f).2.2) A)
   .let(c',e1,e2):=z2;exact{c',S.extBut _ _ Z.tz.2.1 e1,by rw [e2,len]}
   .let(d,hd,r):=fY j q f;exact Zs.yd (r.back _ _ (z3 d hd)) λo e=>S.extBut _ _ (Z.it q f).1 e
   .rw [ae (ew (lt b g))];exact(L b g).1
  .let(d,hd,hn):=O;let(q,f,r):=cM j d hd;have:=(p q f).2;rw [r.n] at hn;omega
 done:=by
  intro X U V hK D i W s σ H E I L st p;subst U V hK;let(p,t0,ht0,hn0):=p;replace p:∀q∈qs,q.sq X.K H/\i<=q.xs.length:=λq f=>p q.t (List.mem_map_of_mem f);let(u,A,(c,B,G),C):=st;let(ds,j):=xl D I λq f=>{(Z.a q f).2.2 q f,(p q f).1,C q f};have M:s.TypeIs (.ref z) "zip":={_,u,rfl};have len:=Paired.length j
  unfold pyNext;refine aT (wpAny_attempt (wpAny_callSpecial?_slot (name:=Str.ofString "__next__") M PySem.F.slot_zip_next (wpAny_call_entry PySem.F.slot_zip_next M PySem.F.entry_zip_next
   (vy (k:=i) (EK Z j) (by rw [<-len];exact Z.len) (by have:=Z.ne;intro e;subst e;cases j;exact this rfl) u (by rw [<-jb j];exact A) {c,B,by rw [<-len];exact G} (λd hd=>by let(q,f,r):=cM j d hd;exact{r.st,by rw [r.n];exact(p q f).2})
    (λQ tk us pu z1 z2 z3 z4 z5 N=>?_) λQ tk e O N he=>?_) (PySem.F.args_zip_next_1 _))))
  .let(ys,rv,R):=oE j pu;let(y,_,hy):=fY R t0 ht0;have:=(cP.1 hy).1;omega
  .let(o,Y,fT):=he
   refine aT (wpAny_isInstance (T:=(zu 44)) (b:=ig) ⟨o,Y,fT⟩ isSubtype_stop ?_);have SX:∀b∈z::TO::qs.map (·.it),dE X W H b:=λb g=>L b (by simp! [fP] at g⊢;rcases g with h|h|h<;>simp [h]);exact b4 {rfl,Inv.moved (tk:=tk) I SX λb o g e=>N b o (λq=>g (by simp [q])) (λq=>g (by simp [q])) (λd hd q=>g (by let(q',lF,r):=cM j d hd;simp! [fP,hG];exact .inr (.inr {q',lF,by rw [q,r.it]}))) e}
 self:=λ_ _ _ _ _ st h=>wpAny_pyIter_zip st.1 h
def om(a b c:i1):checkTypeCall "zip" {[a,b,c],[]}=pure ():=by kernel_rfl
def oU(a b c:i1):checkBuiltinCall "zip.__new__" {[.type "zip",a,b,c],[]}=pure ():=by kernel_rfl
def iY(a b c d:i1):argsOk "object.__init__" {[a,b,c,d],[]}:=by unfold argsOk;rw [signature?_of (n:=['_','_','t','i','n','i','_','_']) (by kernel_rfl) PySem.F.owner_object];kernel_rfl
def Src(h:kB)(b:Bool)(a:i6):Prop:=if b=ig then∃c,h.IsList a c else∃c,h.IsTuple a c
abbrev Yd(b:Bool):String:=if b=ig then "list_iterator" else (zu 41)
def Src.push{b:Bool}(q:Src h b a)(o:Obj):Src (h.push o) b a:=by
 unfold Src at q⊢;split
 .rename_i e;rw [if_pos e] at q;let(c,q):=q;exact{c,q.push o}
 .rename_i e;rw [if_neg e] at q;let(c,d,f,r):=q;exact{c,d,a5 _ f,r}
abbrev Ph(b:Bool)(a:i6):Obj:={cls:=.type (Yd b),data:=.fields #[.ref a,.int 0 0]}
section
variable{E:ml}{s:i2}
def wQ{b:Bool}{Q:ml}(h:Src s.heap b a)(q:Q (.ref (zz9 s)) {s with heap:=s.heap.push (Ph b a)}):jk (kn prog w) A (pyIter (.ref a)) Q E s:=by
 cases b with
 |true=>let(c,h):=h;exact wpAny_pyIter_list h q|false=>let(c,h):=h;exact wpAny_pyIter_tuple h q
end
abbrev g7(h:kB)(qs:List (Bool×i6)):Heap:=qs.foldl (λg q=>g.push (Ph q.1 q.2)) h
def i8(qs:List (Bool×i6)):∀h:kB,(g7 h qs).objs.size=h.objs.size+qs.length:=by
 induction qs with
 |nil=>exact λh=>rfl|cons q qs a=>intro h;rw [g7,List.foldl_cons,<-g7,a,kB.size_push,c6];omega
section
variable{E:ml}{s:i2}
def uu{Q:List i1->i2->Prop}:∀(qs:List (Bool×i6)),(∀q∈qs,Src s.heap q.1 q.2)->Q ((List.range qs.length).map λi=>i1.ref ((zz9 s)+i)) {s with heap:=g7 s.heap qs}->
 jk (kn prog w) A (la.SmallTypes.iterAll (qs.map λq=>i1.ref q.2)) Q E s:=by
 intro qs j h;unfold la.SmallTypes.iterAll;refine aT ?_;refine wpAny_forIn_list _ (λrest (b:Array i1) e=>∃c a,qs=c++a/\rest=a.map (λq=>i1.ref q.2)/\b.toList=(List.range c.length).map (λi=>i1.ref ((zz9 s)+i))/\e={s with heap:=g7 s.heap c}) _ ?_ ?_ _ _ {[],qs,rfl,rfl,rfl,rfl}
 .rintro x rest b e ⟨c,a,rfl,d,f,rfl⟩
  cases a with
  |nil=>cases d
  |cons q a=>
   simp! [bf,List.cons.injEq] at d;let(rfl,rfl):=d
   have hs:∀(l:List (Bool×i6)) (g:kB),Src g q.1 q.2->Src (g7 g l) q.1 q.2:=λl=>by
    induction l with
    |nil=>exact λg h=>h|cons r l k=>exact λg h=>k _ (h.push _)
   refine aT (wpAny_holding (wQ (hs c _ (j q (by simp))) ?_));refine b4 {c++[q],a,by simp,rfl,?_,?_}
   .rw [Array.toList_push,f,dj,List.length_singleton,List.range_succ,List.map_append];simp [i8]
   .simp [g7,List.foldl_append]
 .rintro b e ⟨c,a,rfl,d,f,rfl⟩
  obtain rfl:a=[]:=by cases a with|nil=>rfl|cons q a=>cases d
  refine b4 ?_;rw [f];simpa using h
end
theorem rK{n:i6}(e:h.objs.size=n)(f:o.isFreed=iv:=by rfl):(h.push o).get? n=ia o:=e▸et h f
abbrev gC(h:kB)(qs:List (Bool×i6)):Heap:=
 (((g7 h qs).push {cls:=.type "tuple",data:=.seq ((List.range qs.length).map λi=>i1.ref (h.objs.size+i)).toArray}).push {cls:=.type "tuple",data:=.seq (((List.range qs.length).map λi=>i1.ref (h.objs.size+i)).map λZ=>i1.none).toArray}).push
   {cls:=.type "zip",data:=.fields #[.none,.bool iv,.bool iv,.ref (h.objs.size+qs.length),.ref (h.objs.size+qs.length+1)]}
theorem EJ(qs:List (Bool×i6))(hl:qs.length<=9):
 Meets (la.«zip.__new__» {.type "zip"::qs.map (λq=>i1.ref q.2),[]}) (λZ R s=>(∀q∈qs,Src s.heap q.1 q.2)/\R (.ok (.ret (.ref ((zz9 s)+qs.length+2)))) {s with heap:=gC s.heap qs}):=
 .of_wp λprog w A R s h=>by
  let(hs,h):=h;have b:=sub_zip;have a:∀l:List i1,l.length=qs.length->l.length<=sizeLine:=λl e=>eg (m:=9) (by omega) (by decide);show jk _ _ (la.SmallTypes.newClass "zip" _>>=_) _ _ s;unfold la.SmallTypes.newClass
  wp_walk using uu qs hs
  rw [if_neg (by rw [a7];exact Nat.not_lt.2 (a _ (by simp)))]
  wp_walk
  rw [if_neg (by rw [a7];exact Nat.not_lt.2 (a _ (by simp)))]
  wp_walk
  refine{_,rfl,?_};simp! [kB.size_push,i8];exact h
def pX(qs:List (Bool×i6)):∀(h:kB) (c:i6) (o:Obj),h.get? c=ia o->(g7 h qs).get? c=ia o:=by
 induction qs with
 |nil=>exact λh c o e=>e|cons q qs a=>exact λh c o e=>a _ c o (a5 _ e)
theorem uw:∀(qs:List (Bool×i6)) (h:kB) (i:Nat) (q:Bool×i6),qs[i]?=ia q->(g7 h qs).get? (h.objs.size+i)=ia (Ph q.1 q.2)
 |q::qs,h,0,r,e=>by cases e;exact pX qs _ _ _ (et _ rfl)
 |q::qs,h,i+1,r,e=>by have:=uw qs (h.push (Ph q.1 q.2)) i r (zx6 e);rw [kB.size_push] at this;rw [show h.objs.size+(i+1)=h.objs.size+1+i by omega];exact this
section
variable{E:ml}{s:i2}
def zJ{qs:List (Bool×i6)}{Q:ml}(hl:qs.length<=9)(hs:∀q∈qs,Src s.heap q.1 q.2)(f:checkTypeCall "zip" {qs.map (λq=>i1.ref q.2),[]}=pure ())(g:checkBuiltinCall "zip.__new__" {.type "zip"::qs.map (λq=>i1.ref q.2),[]}=pure ())(j:∀obj,argsOk "object.__init__" {obj::qs.map (λq=>i1.ref q.2),[]})
 (h:IsZip (gC s.heap qs) ((zz9 s)+qs.length+2) ((zz9 s)+qs.length) ((zz9 s)+qs.length+1) .none->iW (gC s.heap qs) ((zz9 s)+qs.length) ((List.range qs.length).map λi=>i1.ref ((zz9 s)+i)).toArray->(∃c,iW (gC s.heap qs) ((zz9 s)+qs.length+1) c/\c.size=qs.length)->
  (∀i q,qs[i]?=ia q->(gC s.heap qs).get? ((zz9 s)+i)=ia (Ph q.1 q.2))->(∀c o,s.heap.get? c=ia o->(gC s.heap qs).get? c=ia o)->Q (.ref ((zz9 s)+qs.length+2)) {s with heap:=gC s.heap qs}):
 jk (kn prog w) A (call (.type "zip") (qs.map λq=>i1.ref q.2)) Q E s:=by
 have a:=i8 qs s.heap;have b:∀c o,(g7 s.heap qs).get? c=ia o->(gC s.heap qs).get? c=ia o:=λc o e=>a5 _ (a5 _ (a5 _ e));have d:IsZip (gC s.heap qs) ((zz9 s)+qs.length+2) ((zz9 s)+qs.length) ((zz9 s)+qs.length+1) .none:=rK (by rw [kB.size_push,kB.size_push,a]);have k:iW (gC s.heap qs) ((zz9 s)+qs.length) ((List.range qs.length).map λi=>i1.ref ((zz9 s)+i)).toArray:=a5 _ (a5 _ (rK a));have m:iW (gC s.heap qs) ((zz9 s)+qs.length+1) (((List.range qs.length).map λi=>i1.ref ((zz9 s)+i)).map λZ=>i1.none).toArray:=a5 _ (rK (by rw [kB.size_push,a]));exact callType_new PySem.F.called_zip (by decide) f g j PySem.F.entry_zip_new (EJ qs hl) {hs,{_,d,rfl},h d k {_,m,by simp} (λi q e=>b _ _ (uw qs _ i q e)) λc o e=>b _ _ (pX qs _ c o e)}
end
theorem qw:∀{ts:List Zt} {us:List i1},Vals (ts.map λt=>V.ref t.2.1) us->us=ts.map λt=>i1.ref t.2.1
 |[],_,.nil=>rfl|t::ts,_,.cons h r=>by cases h;rw [qw r];rfl
section
variable{lN:Pos}
abbrev Pf(K:zz8)(b:TA):TI:=λc H R=>b c H λd a=>∃ts:List Zt,d=ts.map (λt=>.ref t.2.1)/\(ts.length=2\/ts.length=3)/\(∀t∈ts,Zq K a t)/\R (RJ K ts) a
def Im{u:List jj}{M:TA}{p pos:Pos}(hg:Gl X "zip")(hm:X.mg "zip"=ie)(ha:PA X (e::u) M)(he:starEach (e::u) X.env=(iv,eval e X.env)::starEach u X.env)(hp:(backTo pos (starEach u X.env)).any (·.1)=iv):
 PI X (.Tuple elts x1 lN) (.Call (.Name "zip" p) (e::u) [] pos) (Pf X.K M):=by
 intro N s O H R I h;refine Call_ (eY I hg hm (show bootBuiltins "zip"=ia (.type "zip") by decide+kernel) (PyProof.Rows.callWith_type1 (bL (ha pos N s O H _ I h) λus d ⟨vs,H1,y,r1,q1⟩=>?_) he hp));let(ts,rfl,hn,hq,q):=q1;obtain rfl:=qw r1;have Q:ts.length<=9:=by omega
 have D:(ts.map λt=>(t.1,t.2.1)).length=ts.length:=zzl ..;have em:(ts.map λt=>i1.ref t.2.1)=(ts.map λt=>(t.1,t.2.1)).map λq=>i1.ref q.2:=by rw [List.map_map];rfl
 have A:∀t∈ts,Src d.heap t.1 t.2.1/\t.2.1<(zz9 d):=λt E=>by
  have:=hq t E
  unfold Zq at this;unfold Src;cases g:t.1 with
  |true=>rw [if_pos g] at this;let(ai,_,B,_):=y.list this;exact{{_,B.isList},by let(_,e,_):=B.isList;exact dn e}|false=>rw [if_neg (by rw [g];exact zzf)] at this;let(ai,_,B,_):=y.tuple this;exact{{_,B},by let(_,e,_):=B;exact dn e}
 have go:∀l,(l=2\/l=3)->ts.length=l->checkTypeCall "zip" {ts.map (λt=>i1.ref t.2.1),[]}=pure ()/\checkBuiltinCall "zip.__new__" {.type "zip"::ts.map (λt=>i1.ref t.2.1),[]}=pure ()/\∀obj,argsOk "object.__init__" {obj::ts.map (λt=>i1.ref t.2.1),[]}:=λl hl e=>by
  rcases hl with rfl|rfl
  .match ts,e with
   |[a,b],_=>exact{PySem.F.typeCall_zip_2 _ _,PySem.F.newCall_zip_2 _ _,λobj=>PySem.F.args_object_init_3 obj _ _}
  .match ts,e with
   |[a,b,c],_=>exact{om _ _ _,oU _ _ _,λobj=>iY obj _ _ _}
 let(S,U,V):=go _ hn rfl;rw [em] at S U V⊢;refine zJ (by rw [D];exact Q) (λq f=>by let(t,E,rfl):=hG.1 f;exact(A t E).1) S U V λG W Y a4 kk=>wpAny_pyIter_zip G ?_;rw [D] at G W Y;have I2:Inv X N O H1 {d with heap:=gC d.heap (ts.map λt=>(t.1,t.2.1))}:=y.kept (t':=d.toks) kk;have eqs:(ts.zipIdx.map λp=>({(zz9 d)+p.2,p.1.1,p.1.2.1,p.1.2.2}:Zs)).map Zs.t=ts:=by rw [List.map_map];refine List.ext_getElem (by simp) λi m k=>?_;simp [Zs.t]
 have C:∀q∈ts.zipIdx.map λp=>(⟨(zz9 d)+p.2,p.1.1,p.1.2.1,p.1.2.2⟩:Zs),∃i,i<ts.length/\ts[i]?=ia q.t/\q.it=(zz9 d)+i:=λq f=>by let((t,i),NM,rfl):=hG.1 f;have:=List.mem_zipIdx_iff_getElem?.1 NM;exact{i,(cP.1 this).1,this,rfl}
 have Z:Sg ((zz9 d)+ts.length+2) ((zz9 d)+ts.length) ((zz9 d)+ts.length+1) (ts.zipIdx.map λp=>({(zz9 d)+p.2,p.1.1,p.1.2.1,p.1.2.2}:Zs)):=by
  refine{{ew (by show _<_;omega),ew (by show _<_;omega),ew (by show _<_;omega)},λz=>?_,zx6 Q,λq f=>?_,λq f=>?_,?_}
  .have:=congrArg List.length z;simp! [zzl,List.length_zipIdx,List.length_nil] at this;omega
  .let(i,m,_,o):=C q f;rw [o];exact{ew (by show _<_;omega),ew (by show _<_;omega),ew (by show _<_;omega)}
  .let(i,m,k,o):=C q f;have L:q.a<(zz9 d):=(A q.t (a9 k)).2;refine{ew (eo L (by show _<=_;omega)),ew (eo L (by show _<=_;omega)),λr hr=>?_};let(j,_,_,h5):=C r hr;rw [h5];exact ew (eo L (by show _<=_;omega))
  .refine List.pairwise_map.2 ?_;refine List.pairwise_iff_getElem.2 λi j hi hj Q4=>?_;simp! [List.getElem_zipIdx];exact ew (by show _<_;omega)
 have T:=Bd (P:=X.prog) (w:=X.w) (K:=X.K) (elts:=elts) (x1:=x1) (pos:=lN) Z;rw [eqs] at T;refine{_,_,_,_,H1,by rw [D],I2,T,{G,?_,?_,λq f=>?_},λb g=>?_,q}
 .have:(ts.zipIdx.map λp=>({(zz9 d)+p.2,p.1.1,p.1.2.1,p.1.2.2}:Zs)).map (λq=>i1.ref q.it)=(List.range ts.length).map λi=>i1.ref ((zz9 d)+i):=by
   refine List.ext_getElem (by simp) λi m k=>?_;simp
  rw [this];exact W
 .let(c,m,k):=Y;exact{c,m,zx6 k}
 .let(i,m,k,o):=C q f;have:=a4 i (q.b,q.a) (by rw [d0,k];rfl)
  unfold Zs.iter;rw [o];cases g:q.b with
  |true=>rw [g] at this;exact{_,this,rfl,rfl}|false=>rw [g] at this;exact{_,this,rfl,rfl}
 .have ji:(zz9 d)<=b:=by
   simp! [fP,hG] at g;rcases g with e|e|e|⟨q,f,e⟩
   .rw [e];exact eg (Nat.le_add_right _ _) (Nat.le_add_right _ _)
   .rw [e];exact Nat.le_add_right _ _
   .rw [e];exact eg (Nat.le_add_right _ _) (Nat.le_add_right _ _)
   .let(i,_,_,o):=C q (hG.2 f);rw [<-e,o];exact Nat.le_add_right _ _
  exact y.jy ji (y.aM.fresh ji)
end
end L2
namespace Ci
open L2
set_option backward.match.sparseCases false
structure Hs where
 f:Str
 h:Str
 g:Str
 idx:List Nat
 np:Nat
structure Pg where
 gs:List (Str×PV)
 bs:List Str
 cs:List Str
 fs:List Str
 rs:List Str
 hs:List Hs:=[]
 hl:Bool:=iv
 qt:Bool:=iv
 qs:List Str:=[]
abbrev nq(Γ:Pg)(b:Bool):Bool:=b&&!Γ.qt
def uQ{Γ:Pg}{b:Bool}(h:nq Γ b=ig):Γ.qt=iv/\b=ig:=by unfold nq at h;rw [zza,Bool.not_eq_true'] at h;exact⟨h.2,h.1⟩
abbrev fV(sc:kv)(x:Str):Bool:=sc.names.lookup x==ia .local||sc.names.lookup x==ia .cell
abbrev fk(sc:kv)(x:Str):Bool:=fV sc x||sc.names.lookup x==ia .free
abbrev iS(sc:kv)(x:Str):Bool:=sc.names.lookup x==ia .globalImplicit
abbrev litS:List PV->List PV->Bool
 |[],[]=>ig|.str x::xs,.str y::ys=>x==y&&litS xs ys|_,_=>iv
abbrev yn:PV->PV->Bool
 |.int i,.int j=>i==j|.str x,.str y=>x==y|.tup xs,.tup ys=>litS xs ys|_,_=>iv
theorem litS_eq:∀{xs ys:List PV},litS xs ys=ig->xs=ys
 |[],[],_=>rfl|.str x::xs,.str y::ys,h=>by unfold litS at h;rw [zza] at h;rw [zzy.mp h.1,litS_eq h.2]
def Di(h:yn p q=ig):p=q:=by
 unfold yn at h;split at h
 .rw [zzy.mp h]
 .rw [zzy.mp h]
 .rw [litS_eq h]
 .cases h
abbrev bN:B->Str
 |.len=>"len"|.abs=>"abs"|.max2=>"max"|.int=>"int"|.str=>"str"|.tuple=>"tuple"|.all=>"all"|.any=>"any"
abbrev mN:M->Str
 |.en=>"count"|.join=>"join"|.fG=>"split"|.jf=>"startswith"|.eJ=>"rstrip"
abbrev iC:E->Bool
 |.f7 _=>iv|_=>ig
abbrev fO:Es->Bool
 |.nil=>ig|.cons e a=>iC e&&fO a
abbrev Gw:I->Bool
 |.seq e=>iC e|.va _=>ig|.rL _ _=>ig|.enum e=>iC e|.zip _=>ig
abbrev isNil:Es->Bool
 |.nil=>ig|_=>iv
abbrev eZ:Es->Nat
 |.nil=>0|.cons _ a=>eZ a+1
abbrev Ni:jj->Option (List jj)
 |.Tuple a _ _=>ia a|_=>ie
def y8{a:List jj}(h:Ni e=ia a):∃k p,e=.Tuple a k p:=by
 cases e with
 |Tuple a k p=>cases h;exact{_,_,rfl}
 |_=>exact ja h
abbrev Be{c:Type}:List c->Option (c×c)
 |[a,b]=>ia (a,b)|_=>ie
def IY{c:Type}{ts:List c}{q:c×c}(h:Be ts=ia q):ts=[q.1,q.2]:=by
 cases ts with
 |nil=>exact ja h|cons a ts=>
  cases ts with
  |nil=>exact ja h|cons b ts=>
   cases ts with
   |cons _ _=>exact ja h|nil=>cases h;rfl
abbrev TN(N:List Str)(sc:kv)(fn:Str->Bool)(i:Nat)(p:jj):Bool:=(fD p).any λx=>N[i]?==ia x&&fV sc x&&(fn x||sc.names.lookup x==ia .local)
abbrev L7(N:List Str)(sc:kv)(fn:Str->Bool):List Nat->List jj->Bool
 |i::is,a::as=>TN N sc fn i a&&L7 N sc fn is as|[],[]=>ig|_,_=>iv
abbrev iR(N:List Str)(sc:kv)(fn:Str->Bool):Tg->jj->Bool
 |.one i,p=>TN N sc fn i p|.two i j,p=>(Ni p).any (L7 N sc fn [i,j])
abbrev aF:jj->List Str
 |.Name x _=>[x]|.Tuple [.Name x _,.Name y _] _ _=>[x,y]|.Tuple [.Name x _,.Name y _,.Name z _] _ _=>[x,y,z]|.Tuple [.Name x _,.Tuple [.Name y _,.Name z _] _ _] _ _=>[x,y,z]|_=>[]
abbrev dB(a sc:kv):Scope:=
 {a with names:=a.names.map λ(n,k)=>if(k==.free&&sc.kind==.function&&sc.names.lookup n==ia .cell) then(n,.cell) else(n,k)}
abbrev freeOf(a:kv):List Str:=((a.names.filter λp=>p.2==.free).map (·.1)).reverse
abbrev xE(N:List Str)(sc a:kv)(k:Nat)(b:List Nat)(xs:List Str):Bool:=
 a.kind==.function&&xs.length==k&&decide ((xs++freeOf a).Nodup)
 &&(a.names.all λy=>(decide (y.2≠.cell)||!(freeOf a).contains y.1)&&(decide (y.2≠.free)||(freeOf a).contains y.1))
 &&(a.names.all λy=>decide (y.2≠.cell)||decide (a.names.lookup y.1=ia .cell))
 &&(a.names.all λy=>decide (y.2≠.local)||decide (a.names.lookup y.1=ia .local))
 &&decide (b.map (λi=>N[i]?)=(freeOf a).map ia)
 &&((freeOf a).all λy=>decide (sc.names.lookup y=ia .cell))
 &&((freeOf a).all λy=>decide ((dB a sc).names.lookup y=ia .cell))
abbrev oh(k:Nat):Tg->Bool
 |.one i=>decide (i<k)|.two i j=>decide (i<k)&&decide (j<k)
abbrev gF:E->Bool
 |.ite _ _ _=>iv|.not a=>gF a|.and a b=>gF a&&gF b|.or a b=>gF a&&gF b|_=>ig
abbrev isTup:jj->Bool
 |.Tuple .. =>ig|_=>iv
noncomputable abbrev Pg.EY(Γ:Pg):Pg:={Γ with hl:=iv}
def ko{c d:Type}{o:Option c}{f:c->Option d}{b:d}(h:o.bind f=ia b):∃a,o=ia a/\f a=ia b:=eu.1 h
def if1{d:Type}{c:Bool}{a b:d}(h:(if c=ig then ia a else ie)=ia b):c=ig/\a=b:=by
 cases c with
 |true=>cases h;exact⟨rfl,rfl⟩
 |false=>exact ja h
abbrev gq{a:Type}:List a->Option a
 |[t]=>ia t|_=>ie
def dA{b:Type}{ts:List b}{t:b}(h:gq ts=ia t):ts=[t]:=by
 cases ts with
 |nil=>exact ja h|cons a ts=>
  cases ts with
  |cons _ _=>exact ja h|nil=>cases h;rfl
abbrev N9:jj->Option (jj×Str×Pos)
 |.Attribute o m p=>ia (o,m,p)|_=>ie
def BN{q:jj×Str×Pos}(h:N9 e=ia q):e=.Attribute q.1 q.2.1 q.2.2:=by
 cases e with
 |Attribute o m p=>cases h;rfl
 |_=>exact ja h
abbrev Rk:jj->Option (lq×jj×kv)
 |.Lambda p b s _=>ia (p,b,s)|_=>ie
def nj{q:lq×jj×kv}(h:Rk e=ia q):∃p,e=.Lambda q.1 q.2.1 q.2.2 p:=by
 cases e with
 |Lambda p b s x=>cases h;exact{_,rfl}
 |_=>exact ja h
abbrev M6:jj->Option (jj×jj)
 |.Subscript a b _=>ia (a,b)|_=>ie
def r8{q:jj×jj}(h:M6 e=ia q):∃p,e=.Subscript q.1 q.2 p:=by
 cases e with
 |Subscript a b p=>cases h;exact{_,rfl}
 |_=>exact ja h
abbrev Ot:jj->Option Const
 |.Constant c _ _=>ia c|_=>ie
def vQ{c:Const}(h:Ot e=ia c):∃p q,e=.Constant c p q:=by
 cases e with
 |Constant c p q=>cases h;exact{_,_,rfl}
 |_=>exact ja h
abbrev MZ:Const->Option Str
 |.str z=>ia z|_=>ie
def Er{c:Const}(h:MZ c=ia z):c=.str z:=by
 cases c with
 |str y=>cases h;rfl
 |_=>exact ja h
abbrev Tq:Const->Option Int
 |.int n=>ia n|_=>ie
def CT{c:Const}{n:Int}(h:Tq c=ia n):c=.int n:=by
 cases c with
 |int y=>cases h;rfl
 |_=>exact ja h
def Hx{a:Type}{l:List a}(h:l.isEmpty=ig):l=[]:=by
 cases l with
 |nil=>rfl|cons _ _=>exact aY h
def TV{a:Type}{o:Option a}(h:o.isNone=ig):o=ie:=by
 cases o with
 |none=>rfl|some _=>exact aY h
abbrev Vz:Const->Option Bool
 |.bool b=>ia b|_=>ie
def Ka{c:Const}{b:Bool}(h:Vz c=ia b):c=.bool b:=by
 cases c with
 |bool y=>cases h;rfl
 |_=>exact ja h
abbrev Wu:Const->Bool
 |.none=>ig|_=>iv
def L8{c:Const}(h:Wu c=ig):c=.none:=by
 cases c with
 |none=>rfl|_=>exact aY h
abbrev Vy:jj->Option (jj×Operator×jj)
 |.BinOp a o b _=>ia (a,o,b)|_=>ie
def J8{q:jj×Operator×jj}(h:Vy e=ia q):∃p,e=.BinOp q.1 q.2.1 q.2.2 p:=by
 cases e with
 |BinOp a o b p=>cases h;exact{_,rfl}
 |_=>exact ja h
abbrev QR:jj->Option (jj×List CmpOp×List jj)
 |.Compare a o b _=>ia (a,o,b)|_=>ie
def Kk{q:jj×List CmpOp×List jj}(h:QR e=ia q):∃p,e=.Compare q.1 q.2.1 q.2.2 p:=by
 cases e with
 |Compare a o b p=>cases h;exact{_,rfl}
 |_=>exact ja h
abbrev RD:jj->Option (UnaryOp×jj)
 |.UnaryOp o a _=>ia (o,a)|_=>ie
def Nm{q:UnaryOp×jj}(h:RD e=ia q):∃p,e=.UnaryOp q.1 q.2 p:=by
 cases e with
 |UnaryOp o a p=>cases h;exact{_,rfl}
 |_=>exact ja h
abbrev JC:UnaryOp->Bool
 |.Not=>ig|_=>iv
def CQ{o:UnaryOp}(h:JC o=ig):o=.Not:=by
 cases o with
 |Not=>rfl|_=>exact aY h
abbrev isNeg:UnaryOp->Bool
 |.USub=>ig|_=>iv
def CO{o:UnaryOp}(h:isNeg o=ig):o=.USub:=by
 cases o with
 |USub=>rfl|_=>exact aY h
abbrev ya:BoolOp->Bool
 |.And=>ig|.Or=>iv
def CN{o:BoolOp}(h:ya o=ig):o=.And:=by
 cases o with
 |And=>rfl|Or=>exact aY h
def Hi{o:BoolOp}(h:(!ya o)=ig):o=.Or:=by
 cases o with
 |Or=>rfl|And=>exact aY h
abbrev QP:jj->Option (BoolOp×List jj×Pos)
 |.BoolOp o vs p=>ia (o,vs,p)|_=>ie
def Kb{q:BoolOp×List jj×Pos}(h:QP e=ia q):e=.BoolOp q.1 q.2.1 q.2.2:=by
 cases e with
 |BoolOp o a p=>cases h;rfl
 |_=>exact ja h
abbrev Sm(o:BoolOp)(pos:Pos):List jj->Option (jj×jj)
 |a::b::[]=>ia (a,b)|a::b::c::r=>ia (a,.BoolOp o (b::c::r) pos)|_=>ie
def BW{o:BoolOp}{vs:List jj}{q:jj×jj}(h:Sm o pos vs=ia q):vs=[q.1,q.2]\/∃b c r,vs=q.1::b::c::r/\q.2=.BoolOp o (b::c::r) pos:=by
 cases vs with
 |nil=>exact ja h|cons a vs=>
  cases vs with
  |nil=>exact ja h|cons b vs=>
   cases vs with
   |nil=>cases h;exact .inl rfl
   |cons c r=>cases h;exact .inr ⟨b,c,r,rfl,rfl⟩
abbrev We:jj->Option (jj×jj×jj)
 |.IfExp c a b _=>ia (c,a,b)|_=>ie
def LC{q:jj×jj×jj}(h:We e=ia q):∃p,e=.IfExp q.1 q.2.1 q.2.2 p:=by
 cases e with
 |IfExp c a b p=>cases h;exact{_,rfl}
 |_=>exact ja h
abbrev Wg:jj->Option (List jj)
 |.List a _=>ia a|_=>ie
def Dh{a:List jj}(h:Wg e=ia a):∃p,e=.List a p:=by
 cases e with
 |List a p=>cases h;exact{_,rfl}
 |_=>exact ja h
abbrev JK:jj->Option (Option jj×Option jj×Option jj)
 |.Slice a b c _=>ia (a,b,c)|_=>ie
def MW{q:Option jj×Option jj×Option jj}(h:JK e=ia q):∃p,e=.Slice q.1 q.2.1 q.2.2 p:=by
 cases e with
 |Slice a b c p=>cases h;exact{_,rfl}
 |_=>exact ja h
abbrev Ri:jj->Option (jj×List Comprehension×kv)
 |.ListComp e gs s _=>ia (e,gs,s)|_=>ie
def LU{q:jj×List Comprehension×kv}(h:Ri e=ia q):∃p,e=.ListComp q.1 q.2.1 q.2.2 p:=by
 cases e with
 |ListComp e gs s p=>cases h;exact{_,rfl}
 |_=>exact ja h
abbrev B1(e:jj):Option (Str×List jj):=(Fj e).bind λq=>(fD q.1).bind λg=>if q.2.2.1.isEmpty=ig then ia (g,q.2.1) else ie
def Kg{q:Str×List jj}(h:B1 e=ia q):∃np p,e=.Call (.Name q.1 np) q.2 [] p:=by let((f,a,k,p),c,h):=ko h;let(g,d,h):=ko h;let(i,rfl):=if1 h;let(np,z):=bR d;have b:=Hx i;dsimp only at z b;subst z b;exact{np,p,i3 c}
abbrev Ov:PV->Const->Bool
 |.aG,c=>Wu c|.bl b,c=>(Vz c).any λx=>b==x|.int i,c=>(Tq c).any λx=>i==x|.str z,c=>(MZ c).any λx=>z==x|_,_=>iv
abbrev LR:List Keyword->Option (Str×jj)
 |[⟨ia n,v,_⟩]=>ia (n,v)|_=>ie
def C8{ks:List Keyword}{q:Str×jj}(h:LR ks=ia q):∃p,ks=[{ia q.1,q.2,p}]:=by
 cases ks with
 |nil=>exact ja h|cons k ks=>
  let(a,b,kp):=k
  cases a with
  |none=>exact ja h|some n=>
   cases ks with
   |cons _ _=>exact ja h|nil=>cases h;exact{_,rfl}
abbrev yx(p:jj):Bool:=(Fj p).isNone
def aw{a b:Bool}(h:(a&&b)=ig):a=ig/\b=ig:=Bool.and_eq_true_iff.mp h
def ah{a:Type}{o:Option a}{f:a->Bool}(h:o.any f=ig):∃x,o=ia x/\f x=ig:=by
 cases o with
 |none=>cases h
 |some x=>exact⟨x,rfl,h⟩
theorem nC{b:Type}{l:List b}{f:b->Bool}(h:(gq l).any f=ig):∃a,l=[a]/\f a=ig:=let⟨a,e,c⟩:=ah h;{a,dA e,c}
theorem IZ{c:Type}{l:List c}{f:c×c->Bool}(h:(Be l).any f=ig):∃a b,l=[a,b]/\f (a,b)=ig:=let⟨q,e,d⟩:=ah h;{q.1,q.2,IY e,d}
theorem Rn{p:jj}{f:Str->Bool}(h:(fD p).any f=ig):∃x np,p=.Name x np/\f x=ig:=let⟨x,e,a⟩:=ah h;let⟨np,z⟩:=bR e;⟨x,np,z,a⟩
theorem Xc{p:jj}{f:Const->Bool}(h:(Ot p).any f=ig):∃x a b,p=.Constant x a b/\f x=ig:=let⟨x,e,c⟩:=ah h;let⟨a,b,z⟩:=vQ e;⟨x,a,b,z,c⟩
theorem Fn{p:jj}{f:Str×List jj->Bool}(h:(B1 p).any f=ig):∃g as np pos,p=.Call (.Name g np) as [] pos/\f (g,as)=ig:=let⟨q,e,c⟩:=ah h;let⟨a,b,z⟩:=Kg e;⟨q.1,q.2,a,b,z,c⟩
theorem WK{p:jj}{f:jj×jj->Bool}(h:(M6 p).any f=ig):∃a b pos,p=.Subscript a b pos/\f (a,b)=ig:=let⟨q,e,c⟩:=ah h;let⟨x,z⟩:=r8 e;⟨q.1,q.2,x,z,c⟩
theorem Yu{p:jj}{f:Option jj×Option jj×Option jj->Bool}(h:(JK p).any f=ig):∃a b c pos,p=.Slice a b c pos/\f (a,b,c)=ig:=let⟨q,e,d⟩:=ah h;let⟨x,z⟩:=MW e;⟨q.1,q.2.1,q.2.2,x,z,d⟩
theorem WQ{p:jj}{f:UnaryOp×jj->Bool}(h:(RD p).any f=ig):∃o a pos,p=.UnaryOp o a pos/\f (o,a)=ig:=let⟨q,e,b⟩:=ah h;let⟨x,z⟩:=Nm e;⟨q.1,q.2,x,z,b⟩
theorem VL{p:jj}{f:jj×List CmpOp×List jj->Bool}(h:(QR p).any f=ig):∃a o b pos,p=.Compare a o b pos/\f (a,o,b)=ig:=let⟨q,e,c⟩:=ah h;let⟨x,z⟩:=Kk e;⟨q.1,q.2.1,q.2.2,x,z,c⟩
theorem Rj{p:jj}{f:jj×List Comprehension×kv->Bool}(h:(Ri p).any f=ig):∃a g s pos,p=.ListComp a g s pos/\f (a,g,s)=ig:=let⟨q,e,b⟩:=ah h;let⟨x,z⟩:=LU e;⟨q.1,q.2.1,q.2.2,x,z,b⟩
theorem VB{p:jj}{f:BoolOp×List jj×Pos->Bool}(h:(QP p).any f=ig):∃o vs pos,p=.BoolOp o vs pos/\f (o,vs,pos)=ig:=let⟨q,e,a⟩:=ah h;{q.1,q.2.1,q.2.2,Kb e,a}
mutual
noncomputable def bo(Γ:Pg)(N:List Str)(sc:kv):E->jj->Bool
 |.var i,p=>(fD p).any λx=>N[i]?==ia x&&fk sc x&&okN x|.f7 i,p=>(fD p).any λx=>N[i]?==ia x&&fk sc x&&okN x|.cst q,p=>(Ot p).any (Ov q)|.glob g p,e=>(fD e).any λx=>g==x&&iS sc x&&okN x&&Γ.gs.any λq=>q.1==g&&yn q.2 p|.call f as,p=>(B1 p).any λq=>f==q.1&&Γ.fs.contains q.1&&iS sc q.1&&okN q.1&&fO as&&fL Γ N sc as q.2|.jo i as,p=>(B1 p).any λq=>N[i]?==ia q.1&&fk sc q.1&&okN q.1&&fO as&&fL Γ N sc as q.2|.pC f as g idx d,p=>(B1 p).any λr=>Γ.hl&&iS sc r.1&&okN r.1&&fO as&&(Γ.hs.any λq=>q.f==f&&q.h==r.1&&q.g==g&&q.idx==idx&&decide (q.np=eZ as+1))&&xB Γ N sc g idx d as r.2|.blt b as,p=>nq Γ ((B1 p).any λq=>bN b==q.1&&iS sc q.1&&Γ.bs.contains q.1&&!isNil as&&fL Γ N sc as q.2)|.ty t a,p=>(B1 p).any λq=>(Be q.2).any λr=>(fD r.2).any λtn=>q.1==("isinstance":Str)&&iS sc q.1&&Γ.bs.contains q.1&&tn==Str.ofString (xh t)&&iS sc tn&&Γ.bs.contains tn&&bo Γ N sc a r.1|.yv m o as,p=>(Fj p).any λq=>(N9 q.1).any λr=>q.2.2.1.isEmpty&&(mN m==r.2.1&&!isNil as&&decide (eZ as<30)&&r.2.2.endLine==q.2.2.2.line&&bo Γ N sc o r.1&&fL Γ N sc as q.2.1&&yx r.1)|.bin o a b,p=>(Vy p).any λq=>decide (Rq o=q.2.1)&&bo Γ N sc a q.1&&bo Γ N sc b q.2.2|.cmp o a b,p=>(QR p).any λq=>(gq q.2.1).any λop=>(gq q.2.2).any λs=>decide (sD o=op)&&bo Γ N sc a q.1&&bo Γ N sc b s|.ch u w a b c,p=>(QR p).any λq=>(Be q.2.1).any λop=>(Be q.2.2).any λs=>decide (sD u=op.1)&&decide (sD w=op.2)&&bo Γ N sc a q.1&&bo Γ N sc b s.1&&bo Γ N sc c s.2|.not a,p=>(RD p).any λq=>JC q.1&&bo Γ N sc a q.2|.neg a,p=>(RD p).any λq=>isNeg q.1&&bo Γ N sc a q.2|.and a b,p=>(QP p).any λq=>(Sm q.1 q.2.2 q.2.1).any λr=>ya q.1&&iC b&&bo Γ N sc a r.1&&bo Γ N sc b r.2|.or a b,p=>(QP p).any λq=>(Sm q.1 q.2.2 q.2.1).any λr=>!ya q.1&&iC b&&bo Γ N sc a r.1&&bo Γ N sc b r.2|.ite c a b,p=>(We p).any λq=>gF c&&iC a&&iC b&&bo Γ N sc c q.1&&bo Γ N sc a q.2.1&&bo Γ N sc b q.2.2|.tup as,p=>(Ni p).any λps=>fO as&&decide (eZ as<1000)&&fL Γ N sc as ps|.lst as,p=>(Wg p).any λps=>fO as&&decide (eZ as<1000)&&fL Γ N sc as ps|.sub a b,p=>(M6 p).any λq=>bo Γ N sc a q.1&&bo Γ N sc b q.2|.slice a lo y,p=>(M6 p).any λq=>(JK q.2).any λr=>r.2.2.isNone&&bo Γ N sc a q.1&&Kh Γ N sc lo r.1&&Kh Γ N sc y r.2.1|.comp k d j it elt,p=>nq Γ ((Ri p).any λq=>(gq q.2.1).any λg=>g.ifs.isEmpty&&(xE N sc q.2.2 k d (aF g.target)&&oh k j&&iC elt&&zL Γ N sc g.target it g.iter&&iR (aF g.target++freeOf q.2.2) (dB q.2.2 sc) (nE q.2.2) j g.target&&bo Γ.EY (aF g.target++freeOf q.2.2) (dB q.2.2 sc) elt q.1&&decide (g.is_async=0)))|.ei k d j it c elt,p=>nq Γ ((Ri p).any λq=>(gq q.2.1).any λg=>(gq g.ifs).any λz=>gF c&&xE N sc q.2.2 k d (aF g.target)&&oh k j&&iC elt&&zL Γ N sc g.target it g.iter&&iR (aF g.target++freeOf q.2.2) (dB q.2.2 sc) (nE q.2.2) j g.target&&bo Γ.EY (aF g.target++freeOf q.2.2) (dB q.2.2 sc) c z&&bo Γ.EY (aF g.target++freeOf q.2.2) (dB q.2.2 sc) elt q.1&&decide (g.is_async=0))
noncomputable def fL(Γ:Pg)(N:List Str)(sc:kv):Es->List jj->Bool
 |.nil,[]=>ig|.cons e a,p::ps=>bo Γ N sc e p&&fL Γ N sc a ps|_,_=>iv
noncomputable def xB(Γ:Pg)(N:List Str)(sc:kv)(g:Str)(idx a:List Nat):Es->List jj->Bool
 |.nil,ps=>(gq ps).any λp=>(Rk p).any λl=>Hn g idx l.1 l.2.1 l.2.2&&decide (a.map (λi=>N[i]?)=(aQ l.2.2).map ia)&&((aQ l.2.2).all λy=>decide (sc.names.lookup y=ia .cell))|.cons e b,p::ps=>bo Γ N sc e p&&xB Γ N sc g idx a b ps|_,_=>iv
noncomputable def Kh(Γ:Pg)(N:List Str)(sc:kv):Oe->Option jj->Bool
 |.no,ie=>ig|.some e,ia p=>bo Γ N sc e p|_,_=>iv
noncomputable def zL(Γ:Pg)(N:List Str)(sc:kv)(c:jj):I->jj->Bool
 |.seq e,p=>bo Γ N sc e p|.va e,p=>(B1 p).any λq=>(gq q.2).any λr=>q.1==("range":Str)&&iS sc q.1&&Γ.bs.contains q.1&&bo Γ N sc e r|.rL a b,p=>(B1 p).any λq=>(Be q.2).any λr=>q.1==("range":Str)&&iS sc q.1&&Γ.bs.contains q.1&&bo Γ N sc a r.1&&bo Γ N sc b r.2|.enum e,p=>(B1 p).any λq=>(gq q.2).any λr=>isTup c&&q.1==(zu 0:Str)&&iS sc q.1&&Γ.bs.contains q.1&&bo Γ N sc e r|.zip as,p=>(B1 p).any λq=>isTup c&&q.1==("zip":Str)&&iS sc q.1&&Γ.bs.contains q.1&&fO as&&(eZ as==2||eZ as==3)&&fL Γ N sc as q.2
end
set_option backward.match.sparseCases true
abbrev XE(W:Wd)(c:Str)(b d:Hp):XK:=λe f g=>∃C a h,e=.ref C/\f=ia a/\c∈W.xs/\W.mg c=ia (.ref C)/\aA W b d h g
def vH(X:Cx)(W:Wd)(g:St)(c:Str)(G H:Hp):Prop:=∀(h:mn) (b a:Hp) (d:i2) (e:i1) (f:i2),Inv X h g a d->aA W G H b a->eK X.prog X.w X.stack a d (XE W c b a) e f->X.xe e f
def Out{b:Type}(X:Cx)(W:Wd)(r:Res b)(d:St)(G H:Hp)(k:b->Prop):Prop:=match r with
 |.ok a=>k a|.exc c=>vH X W d c G H|.bad=>False
section
variable{W:Wd}{F:aJ}{G1 H1:Hp}{α β:Type}
def vH.grow{c:Str}(h:vH X W σ c G H)(g:aA W G H G1 H1):vH X W σ c G1 H1:=λa b d f e i I j x=>h a b d f e i I (g.trans j) x
def Out.grow{r:Res α}{k:α->Prop}(h:Out X W r σ G H k)(g:aA W G H G1 H1):Out X W r σ G1 H1 k:=by
 cases r with
 |ok a=>exact h|exc c=>exact vH.grow h g|bad=>exact h
def Out.imp{r:Res α}{k b:α->Prop}(h:Out X W r σ G H k)(i:∀a,k a->b a):Out X W r σ G H b:=by
 cases r with
 |ok a=>exact i a h|exc c=>exact h|bad=>exact h
def Out.bind{r:Res α}{f:α->Res β}{k:β->Prop}(h:Out X W (r.bind f) σ G H k):Out X W r σ G H λa=>Out X W (f a) σ G H k:=by
 cases r with
 |ok a=>exact h|exc c=>exact h|bad=>exact h
def Out.val{r:Res α}{k:α->Prop}(h:Out X W r σ G H k)(n:∀c,r≠.exc c):∃a,r=.ok a/\k a:=by
 cases r with
 |ok a=>exact⟨a,rfl,h⟩|exc c=>exact absurd rfl (n c)|bad=>exact h.elim
structure Got(W:Wd)(H0 G H:Hp)(e:E)(p:PV)(v:V):Prop where
 top:Top W H0 G H p v
 rep:iC e=ig->Rep W G p v
def Got.of{e:E}(h:Rep W G p v):Got W H0 G H e p v:={.inl h,λZ=>h}
abbrev tE(X:Cx)(W:Wd)(F:aJ)(e:E):TE:=λσ H Q=>∃b G env,SR W b env σ G H/\Out X W (aC F e env) σ G H λp=>∀v c a,aA W G H c a->Got W b c a e p v->Q v a
abbrev tT(X:Cx)(W:Wd)(F:aJ)(e:E):TT:=λσ H Q=>∃c G env,SR W c env σ G H/\Out X W (aC F e env) σ G H λp=>∃b,p=.bl b/\∀d a,aA W G H d a->Q b a
structure NX(W:Wd)(H0 G H:Hp)(es:Es)(ps:List PV)(vs:List V):Prop where
 top:Paired (λv p=>Top W H0 G H p v) vs ps
 rep:fO es=ig->ag W G ps vs
abbrev tA(X:Cx)(W:Wd)(F:aJ)(b:Es):TA:=λσ H Q=>∃c G env,SR W c env σ G H/\Out X W (bZ F b env) σ G H λf=>∀d e a,aA W G H e a->NX W c e a b f d->Q d a
abbrev Ez(X:Cx)(W:Wd)(F:aJ)(o:Oe):TO:=λσ H Q=>∃b G env,SR W b env σ G H/\Out X W (xO F o env) σ G H λi=>∀c a,aA W G H c a->Q i a
def one{e:E}{f:PV->Res β}{k:β->Prop}(a:SR W H0 env σ G H)(o:Out X W ((aC F e env).bind f) σ G H k)
 (h:∀p v G1 H1,aA W G H G1 H1->Got W H0 G1 H1 e p v->SR W H0 env σ G1 H1->Out X W (f p) σ G1 H1 k->Q v H1):tE X W F e σ H Q:=
 {H0,G,env,a,o.bind.imp λp b v G1 H1 g t=>h p v G1 H1 g t (a.grow g) (b.grow g)}
def HV{e:E}{f:Bool->Res β}{k:β->Prop}{Q:Bool->Hp->Prop}(c:SR W H0 env σ G H)(o:Out X W ((aC F e env).bind λp=>sy p f) σ G H k)
 (h:∀b G1 H1,aA W G H G1 H1->SR W H0 env σ G1 H1->Out X W (f b) σ G1 H1 k->Q b H1):tT X W F e σ H Q:=by
 refine{H0,G,env,c,o.bind.imp λp a=>?_}
 cases p with
 |bl b=>exact{b,rfl,λG1 H1 g=>h b G1 H1 g (c.grow g) (Out.grow a g)}|aG=>exact fA a|int _=>exact fA a|str _=>exact fA a|tup _=>exact fA a|lst _=>exact fA a|exc _=>exact fA a|bC _ _=>exact fA a
def args{a:Es}{f:List PV->Res β}{k:β->Prop}{Q:List V->Hp->Prop}(b:SR W H0 env σ G H)(o:Out X W ((bZ F a env).bind f) σ G H k)
 (h:∀ps vs G1 H1,aA W G H G1 H1->NX W H0 G1 H1 a ps vs->SR W H0 env σ G1 H1->Out X W (f ps) σ G1 H1 k->Q vs H1):tA X W F a σ H Q:=
 {H0,G,env,b,o.bind.imp λp c v G1 H1 g t=>h p v G1 H1 g t (b.grow g) (c.grow g)}
def Got.grow{a b:Hp}{e:E}(h:Got W H0 G H e p v)(g:aA W G H a b):Got W H0 a b e p v:={h.top.grow g,λz=>Rep.same g.g p (h.rep z)}
def Br(W:Wd)(G:Hp):Option (Str×List Nat)->List PV->List V->Prop
 |none,as,vs=>ag W G as vs|some q,as,vs=>∃xw a b v,as=xw++a/\vs=b++[v]/\ag W G xw b/\qx W G q.1 q.2 a v
abbrev Bq(W:Wd)(F:aJ)(f:Str)(n:Nat)(q:Option (Str×List Nat)):Sp:=λb H Q E=>b.length=n/\∃G as,az G H/\cH W G H/\Br W G q as b/\(match F f as with
 |.ok p=>∀v d a,aA W G H d a->Rep W d p v->Q v a|.exc c=>∀e g a,XE W c G H e g a->E e g a|.bad=>False)
structure Bu(X:Cx)(W:Wd)(F:aJ)(k:Nat)(f:Str):Prop where
 ex:∃fa fd ps,gO X.prog X.w X.K X.mg X.base (eK X.prog X.w) k fa fd ps (Bq W F f ps.length ie)/\X.mg f=ia (.ref fa)/\PySem.W.keepIn X.K (.ref fa)=ig/\Binds X.K fd ps []/\∀as,F f as≠.bad->as.length=ps.length
structure NU(X:Cx)(W:Wd)(F:aJ)(k:Nat)(q:Hs):Prop where
 ex:∃fa fd ps,gO X.prog X.w X.K X.mg X.base (eK X.prog X.w) k fa fd ps (Bq W F q.f ps.length (ia (q.g,q.idx)))/\X.mg q.h=ia (.ref fa)/\PySem.W.keepIn X.K (.ref fa)=ig/\Binds X.K fd ps []/\ps.length=q.np
structure dY(Γ:Pg)(F:aJ)(W:Wd)(N:List Str)(sc:kv)(k:Nat)(X:Cx):Prop where
 hN:X.N=N
 fu:X.env.scope=sc
 calm:Γ.qt=iv->X.calm=ig
 nd:N.Nodup
 K:W.K=X.K
 mg:W.mg=X.mg
 gs:∀q∈Γ.gs,∃u v,X.mg q.1=ia u/\RelV v u/\∀G,Rep W G q.2 v
 bs:∀g∈Γ.bs,X.mg g=ie
 room:dq (k+1) X.A
 fns:∀f,Γ.fs.contains f=ig->Bu X W F k f
 Ro:Γ.cs.contains (zu 19)=iv
 cls:∀c∈Γ.cs,∃C,X.mg c=ia (.ref C)
 xc:∀d∈W.xs,∀D,X.mg d=ia (.ref D)->J3 X.K D/\(∀c∈Γ.cs,∀C,X.mg c=ia (.ref C)->PySem.W.kitOne X.K (.ref D) (.ref C)=ia (c==d||c==(zu 23)))/\PySem.W.kitOne X.K (.ref D) (.type (zu 19))=ia ig
 uh:∀q∈Γ.hs,NU X W F k q
 Wz:∀f,Γ.qs.contains f=ig->2<=k/\Bu X W F 2 f
 any:∀g as,F g as≠.bad->Γ.fs.contains g=ig\/ik g=ig
 tb:Γ.hl=ig->∃c P,X.env.code=.ref c/\PySem.W.CodeHd X.base c P/\(P,X.env.qual++(zu 1))∈W.ts/\∀q',(P,q')∈W.ts->q'=X.env.qual++(zu 1)
 bm:Γ.hl=ig->Bs X.mg X.base
 fl:Γ.hl=ig->∀x,X.fn x=ig
variable{Γ:Pg}{sc:kv}{k:Nat}
def ox(C:zv3 X)(h:fk sc x=ig):NA X.env.scope x:=by
 rw [C.fu];unfold fk fV at h;simp! [gU,zzy] at h;rcases h with(h|h)|h
 .exact .inl h
 .exact .inr (.inl h)
 .exact .inr (.inr h)
def fR(C:zv3 X){x:Str}(h:iS sc x=ig):Gl X x:=by show X.env.scope.names.lookup x=_;rw [C.fu];exact zzy.mp h
def dH(h:okN x=ig):(x==(zu 16:Str))=iv/\(x==(zu 24:Str))=iv/\x≠(zu 40):=by unfold okN at h;simp! [zza,Bool.not_eq_true',beq_eq_false_iff_ne] at h;exact{beq_eq_false_iff_ne.mpr h.1.1,beq_eq_false_iff_ne.mpr h.1.2,h.2}
noncomputable abbrev GE(X:Cx)(W:Wd)(F:aJ)(e:E)(p:jj):Prop:=PE X p (tE X W F e)
noncomputable abbrev GT(X:Cx)(W:Wd)(F:aJ)(e:E)(p:jj):Prop:=PT X p (tT X W F e)
noncomputable abbrev GW(X:Cx)(W:Wd)(F:aJ)(e:E)(p:jj):Prop:=PW X p (tT X W F e)
def _root_.L2.PE.imp{p:jj}{t t':TE}(h:PE X p t)(i:∀σ H Q,t' σ H Q->t σ H Q):PE X p t':=λa s σ H Q I b=>h a s σ H Q I (i σ H Q b)
def _root_.L2.PT.imp{p:jj}{t t':TT}(h:PT X p t)(i:∀σ H Q,t' σ H Q->t σ H Q):PT X p t':=λa s σ H Q I b=>h a s σ H Q I (i σ H Q b)
def _root_.L2.PW.imp{p:jj}{t t':TT}(h:PW X p t)(i:∀σ H Q,t' σ H Q->t σ H Q):PW X p t':=λw a s σ H Q I b=>h w a s σ H Q I (i σ H Q b)
def _root_.L2.PA.imp{p:List jj}{t t':TA}(h:PA X p t)(i:∀σ H Q,t' σ H Q->t σ H Q):PA X p t':=λa b s σ H Q I c=>h a b s σ H Q I (i σ H Q c)
def JM{e:E}(σ:St)(H:Hp)(Q:Bool->Hp->Prop)(h:tT X W F e σ H Q):tB (tE X W F e) σ H Q:=by let(a,G,env,c,o):=h;refine{a,G,env,c,o.imp λp d v f i g t=>?_};let(b,rfl,q):=d;exact{b,t.top.bl,q f i g}
def vp{e:E}(σ:St)(H:Hp)(Q:Bool->Hp->Prop)(h:tT X W F e σ H Q):EA (tE X W F e) σ H Q:=JM σ H Q h
def xT{i:Nat}(b:X.N[i]?=ia x)(c:NA X.env.scope x)(h:okN x=ig):GE X W F (.var i) (.Name x pos):=by
 let(d,f,m):=dH h;refine(dR (i:=i) b c d f).imp λσ H Q g=>?_;let(q,G,env,a,o):=g
 cases e:env[i]? with
 |none=>unfold aC at o;rw [e] at o;exact o.elim|some j=>
  cases j with
  |no=>unfold aC at o;rw [e] at o;exact o.elim|fn _ _ _=>unfold aC at o;rw [e] at o;exact o.elim|Fp _=>unfold aC at o;rw [e] at o;exact o.elim|own p=>unfold aC at o;rw [e] at o;exact o.elim|val p=>unfold aC at o;rw [e] at o;let(s,hs,v,rfl,r):=a.slot i _ e;exact{v,hs,o v G H (.refl a.sub) (.of r)}
def K8(C:zv3 X){i:Nat}(h:(N[i]?==ia x&&fk sc x&&okN x)=ig):GE X W F (.var i) (.Name x pos):=by simp! [zza,zzy] at h;exact xT (by rw [C.hN];exact h.1.1) (ox C h.1.2) h.2
def K7(C:zv3 X){i:Nat}(h:(N[i]?==ia x&&fk sc x&&okN x)=ig):GE X W F (.f7 i) (.Name x pos):=by
 simp! [zza,zzy] at h;let(b,c,j):=dH h.2;refine(dR (i:=i) (by rw [C.hN];exact h.1.1) (ox C h.1.2) b c).imp λσ H Q d=>?_;let(m,G,env,a,o):=d
 cases e:env[i]? with
 |none=>unfold aC at o;rw [e] at o;exact o.elim|some f=>
  cases f with
  |no=>unfold aC at o;rw [e] at o;exact o.elim|fn _ _ _=>unfold aC at o;rw [e] at o;exact o.elim|Fp _=>unfold aC at o;rw [e] at o;exact o.elim|own p=>unfold aC at o;rw [e] at o;let(g,hs,v,rfl,r):=a.slot i _ e;exact{v,hs,o v G H (.refl a.sub) {.inr r,nofun}}|val p=>unfold aC at o;rw [e] at o;let(g,hs,v,rfl,r):=a.slot i _ e;exact{v,hs,o v G H (.refl a.sub) (.of r)}
def eW(h:PE X e (tC v))(r:∀G,Rep W G p v):GE X W F (.cst p) e:=by refine L2.PE.imp h λσ H Q a=>?_;let(c,G,env,b,o):=a;exact o v G H (.refl b.sub) (.of (r G))
def GD(C:zv3 X)(h:(g==x&&iS sc x&&okN x&&Γ.gs.any λq=>q.1==g&&yn q.2 p)=ig):GE X W F (.glob g p) (.Name x pos):=by simp! [zza,zzy,fi] at h;let(((rfl,b),c),q,a,d,e):=h;let(u,v,hm,f,i):=C.gs q a;rw [d] at hm;cases Di e;refine(Ih (fR C b) hm f (dH c).1).imp λσ H Q a=>?_;let(m,G,env,j,o):=a;exact o v G H (.refl j.sub) (.of (i G))
def Res.aD{α:Type}{o:Option α}(c:Str):Res.of o≠.exc c:=by cases o<;>exact nofun
def lY{α β:Type}{o:Option α}{f:α->Res β}{c:Str}(h:∀a,f a≠.exc c):(Res.of o).bind f≠.exc c:=by
 cases o with
 |none=>exact nofun|some a=>exact h a
def oX{o:JP}(c:Str):binOp o p q≠.exc c:=by
 unfold binOp
 repeat' split
 all_goals exact nofun
local macro_rules|`(tactic|ac_rfl)=>`(tactic|repeat' first|split|refine lY fun _=>?_|exact Res.aD _|exact nofun)
def HK(c:Str):iL p q≠.exc c:=by
 unfold iL
 ac_rfl
def HR(c:Str):iM p q≠.exc c:=by
 unfold iM
 ac_rfl
def HQ(c:Str):uT p q≠.exc c:=by
 unfold uT
 ac_rfl
def HP(c:Str):uS p q≠.exc c:=by
 unfold uS
 ac_rfl
def HL(c:Str):wH p q≠.exc c:=by
 unfold wH
 ac_rfl
def HN(c:Str):nD p q≠.exc c:=by
 unfold nD
 ac_rfl
def DC(c:Str):ij p q≠.exc c:=by
 unfold ij
 ac_rfl
def HM(c:Str):wI p q≠.exc c:=by
 unfold wI
 ac_rfl
def DD(c:Str):iT p q≠.exc c:=by
 unfold iT
 ac_rfl
def dW{o:Bv}(c:Str):d6 o p q≠.exc c:=match o with
 |.eq=>HK c|.ne=>HR c|.lt=>HQ c|.le=>HP c|.gt=>HL c|.is=>HN c|.Hj=>DC c|.LD=>HM c|.rn=>DD c
def two{op:PV->PV->Res PV}{a b:E}{e:E}(f:∀p q c,op p q≠.exc c)(he:∀env,aC F e env=(aC F a env).bind λx=>(aC F b env).bind λy=>op x y)
 (h:tE X W F e σ H Q):Na (vE W op) (tE X W F a) (tE X W F b) σ H Q:=by
 let(g,G,env,i,o):=h;rw [he] at o;refine one i o λp v G1 H1 j m s t=>one s t λq u z P d A B C=>?_;let(r,D,I):=C.val (f p q);exact{g,z,p,q,r,B.sub,m.top.grow d,A.top,D,λw K L M O=>I w K L ((j.trans d).trans M) (.of O)}
def xS(hK:W.K=X.K){o:JP}{a b:E}{d:jj}(f:GE X W F a d)(g:GE X W F b e):GE X W F (.bin o a b) (.BinOp d (Rq o) e pos):=
 (PM (Me hK o) f g).imp λσ H Q h=>two (λp q c=>oX c) (λenv=>by rw [aC]) h
def KY(C:zv3 X){o:JP}{a b:E}{c d:jj}(e:GE X W F a c)(f:GE X W F b d):GE X W F (.bin o a b) (.BinOp c (Rq o) d pos):=xS C.K e f
def K0(C:zv3 X){o:Bv}{a b:E}{d:jj}(f:GE X W F a e)(g:GE X W F b d)(hm:behindInMarks (sD o) d=iv):GE X W F (.cmp o a b) (.Compare e [sD o] [d] pos):=
 (Ie (iH C.K C.room.units o) f g hm).imp λσ H Q h=>two (λp q c=>dW c) (λenv=>by rw [aC]) h
theorem Lj(C:zv3 X){o:Bv}{a b:E}{d:jj}(f:GE X W F a e)(g:GE X W F b d)(hm:behindInMarks (sD o) d=iv):GT X W F (.cmp o a b) (.Compare e [sD o] [d] pos):=
 (Iw (iH C.K C.room.units o) f g hm).imp λσ H Q h=>by have i:=vp σ H Q h;exact two (λp q c=>dW c) (λenv=>by rw [aC]) i
def Jn{A f:Bv}{a b c:E}(σ:St)(H:Hp)(Q:VK)(h:tE X W F (.ch A f a b c) σ H Q):w5 (vE W (d6 A)) (vE W (d6 f)) (tE X W F a) (tE X W F b) (tE X W F c) σ H Q:=by
 let(B,G,env,O,o):=h;rw [aC] at o;refine one O o λp v G1 H1 C P R S=>one R S λq u g D i I K T=>?_;let(r,U,d):=T.bind.val (dW);refine{B,g,p,q,r,K.sub,P.top.grow i,I.top,U,λw V Y e L=>?_}
 cases r with
 |bl t=>
  simp! [Rep] at L;subst L;refine{t,rfl,?_};cases t with
  |false=>rw [if_neg zzf];have j:Out X W (Res.ok (PV.bl iv)) σ g D _:=d;exact j _ V Y ((C.trans i).trans e) (.of .b)|true=>rw [if_pos rfl];have j:Out X W ((aC F c env).bind λz=>d6 f q z) σ g D _:=d;refine one (K.grow e) (j.grow e) λz y Z H4 M t4 MY o4=>?_;let(r4,m,s):=o4.val (dW);exact{B,Z,q,z,r4,MY.sub,I.top.grow (e.trans M),t4.top,m,λw G5 H5 g5 Yr=>s w G5 H5 ((((C.trans i).trans e).trans M).trans g5) (.of Yr)}
 |aG=>exact fA d|int _=>exact fA d|str _=>exact fA d|tup _=>exact fA d|lst _=>exact fA d|exc _=>exact fA d|bC _ _=>exact fA d
def OL(C:zv3 X){d e:Bv}{a b c:E}{h f g:jj}(i:GE X W F a h)(j:GE X W F b f)(m:GE X W F c g)(hm:lastMarks [sD d,sD e] [f,g]=iv):GE X W F (.ch d e a b c) (.Compare h [sD d,sD e] [f,g] pos):=
 (DL (iH C.K C.room.units d) (iH C.K C.room.units e) i j m hm).imp Jn
def OO(C:zv3 X){d e:Bv}{a b c:E}{i f g:jj}(j:GE X W F a i)(m:GE X W F b f)(o:GE X W F c g)(hm:lastMarks [sD d,sD e] [f,g]=iv):GT X W F (.ch d e a b c) (.Compare i [sD d,sD e] [f,g] pos):=
 (D8 (iH C.K C.room.units d) (iH C.K C.room.units e) j m o hm).imp λσ H Q h=>Jn σ H _ (vp σ H Q h)
theorem K4{a:E}{c:jj}(d:GE X W F a c):GE X W F (.neg a) (.UnaryOp .USub c pos):=
 (PQ (I0 (W:=W)) d).imp λσ H Q h=>by
  let(e,G,env,f,o):=h;rw [aC] at o;refine one f o λp v G1 H1 g j m b=>?_
  cases p with
  |int i=>exact{e,G1,i,m.sub,j.top,λw q r s t=>b w q r (g.trans s) (.of t)}|bl _=>exact fA b|aG=>exact fA b|str _=>exact fA b|tup _=>exact fA b|lst _=>exact fA b|exc _=>exact fA b|bC _ _=>exact fA b
theorem K5{a:E}{d:jj}(e:GE X W F a d):GE X W F (.not a) (.UnaryOp .Not d pos):=
 (Mx e).imp λσ H Q h=>by
  let(j,G,env,f,o):=h;rw [aC] at o;refine one f o λp v G1 H1 g i m c=>?_
  cases p with
  |bl b=>exact{b,i.top.bl,c _ G1 H1 g (.of .b)}|int _=>exact fA c|aG=>exact fA c|str _=>exact fA c|tup _=>exact fA c|lst _=>exact fA c|exc _=>exact fA c|bC _ _=>exact fA c
theorem Lk{a:E}{c:jj}(d:GT X W F a c):GT X W F (.not a) (.UnaryOp .Not c pos):=
 (MI d).imp λσ H Q h=>by let(j,G,env,f,o):=h;rw [aC] at o;refine HV f o λb G1 H1 g m i=>?_;let(p,e,q):=i;cases e;exact q G1 H1 g
theorem Cm{a b:E}{f:jj}{r:List jj}(he:iC b=ig)(i:GE X W F a e)(j:GE X W F b (.BoolOp .And (f::r) pos)):GE X W F (.and a b) (.BoolOp .And (e::f::r) pos):=
 (Mt i j).imp λσ H Q h=>by
  let(m,G,env,q,o):=h;rw [aC] at o;refine one q o λp v G1 H1 g s u c=>?_
  cases p with
  |bl t=>
   refine{t,s.top.bl,?_};cases t with
   |true=>rw [if_pos rfl];have d:Out X W (aC F b env) σ G1 H1 _:=c;exact{m,G1,env,u,d.imp λp w v y z A B=>w v y z (g.trans A) (.of (B.rep he))}|false=>rw [if_neg zzf];have d:Out X W (Res.ok (PV.bl iv)) σ G1 H1 _:=c;exact d _ G1 H1 g (.of .b)
  |int _=>exact fA c|aG=>exact fA c|str _=>exact fA c|tup _=>exact fA c|lst _=>exact fA c|exc _=>exact fA c|bC _ _=>exact fA c
theorem Jv{a b:E}{f:jj}{r:List jj}(he:iC b=ig)(i:GE X W F a e)(j:GE X W F b (.BoolOp .Or (f::r) pos)):GE X W F (.or a b) (.BoolOp .Or (e::f::r) pos):=
 (PN i j).imp λσ H Q h=>by
  let(m,G,env,q,o):=h;rw [aC] at o;refine one q o λp v G1 H1 g s u c=>?_
  cases p with
  |bl t=>
   refine{t,s.top.bl,?_};cases t with
   |false=>rw [if_neg zzf];have d:Out X W (aC F b env) σ G1 H1 _:=c;exact{m,G1,env,u,d.imp λp w v y z A B=>w v y z (g.trans A) (.of (B.rep he))}|true=>rw [if_pos rfl];have d:Out X W (Res.ok (PV.bl ig)) σ G1 H1 _:=c;exact d _ G1 H1 g (.of .b)
  |int _=>exact fA c|aG=>exact fA c|str _=>exact fA c|tup _=>exact fA c|lst _=>exact fA c|exc _=>exact fA c|bC _ _=>exact fA c
theorem Cu{a b:E}{d f:jj}{r:List jj}(j:GT X W F a d)(m:GW X W F b (.BoolOp .And (f::r) pos)):GW X W F (.and a b) (.BoolOp .And (d::f::r) pos):=
 (pw_and j m).imp λσ H Q h=>by
  let(s,G,env,u,o):=h;rw [aC] at o;refine HV u o λt G1 H1 g w i=>?_
  cases t with
  |true=>rw [if_pos rfl];have y:Out X W (aC F b env) σ G1 H1 _:=i;exact{s,G1,env,w,y.imp λp z=>by let(c,rfl,q):=z;exact{c,rfl,λA B C=>q A B (g.trans C)}}|false=>rw [if_neg zzf];let(c,e,q):=(show Out X W (Res.ok (PV.bl iv)) σ G1 H1 _ from i);cases e;exact q G1 H1 g
theorem Jw{a b:E}{d f:jj}{r:List jj}(j:GT X W F a d)(m:GW X W F b (.BoolOp .Or (f::r) pos)):GW X W F (.or a b) (.BoolOp .Or (d::f::r) pos):=
 (pw_or j m).imp λσ H Q h=>by
  let(s,G,env,u,o):=h;rw [aC] at o;refine HV u o λt G1 H1 g w i=>?_
  cases t with
  |false=>rw [if_neg zzf];have y:Out X W (aC F b env) σ G1 H1 _:=i;exact{s,G1,env,w,y.imp λp z=>by let(c,rfl,q):=z;exact{c,rfl,λA B C=>q A B (g.trans C)}}|true=>rw [if_pos rfl];let(c,e,q):=(show Out X W (Res.ok (PV.bl ig)) σ G1 H1 _ from i);cases e;exact q G1 H1 g
theorem K1{c a b:E}{m q r:jj}(z:iC a=ig)(A:iC b=ig)(B:GT X W F c m)(C:GE X W F a q)(D:GE X W F b r):GE X W F (.ite c a b) (.IfExp m q r pos):=
 (DN B C D).imp λσ H Q h=>by
  let(s,G,env,I,o):=h;rw [aC] at o;refine HV I o λt G1 H1 u w y=>?_
  cases t with
  |true=>rw [if_pos rfl];have d:Out X W (aC F a env) σ G1 H1 _:=y;exact{s,G1,env,w,d.imp λp e v f g i j=>e v f g (u.trans i) (.of (j.rep z))}|false=>rw [if_neg zzf];have d:Out X W (aC F b env) σ G1 H1 _:=y;exact{s,G1,env,w,d.imp λp e v f g i j=>e v f g (u.trans i) (.of (j.rep A))}
abbrev tF(X:Cx)(W:Wd)(F:aJ)(e:E):TE:=λσ H Q=>∃f G env,SR W f env σ G H/\Out X W (aC F e env) σ G H λp=>∃xs,p=.lst xs/\∀a c d b,aA W G H d b->b a=ie->ag W d xs c->Q (.ref a) (upd b a (.lst c))
noncomputable abbrev GF(X:Cx)(W:Wd)(F:aJ)(e:E)(p:jj):Prop:=PE X p (tF X W F e)
theorem GF.ge{e:E}{p:jj}(h:GF X W F e p)(hl:∀env q,aC F e env=.ok q->∃xs,q=.lst xs):GE X W F e p:=
 L2.PE.imp h λσ H Q d=>by
  let(f,G,env,i,o):=d
  refine{f,G,env,i,?_};cases r:aC F e env with
  |bad=>rw [r] at o;exact o|exc c=>rw [r] at o;exact o|ok q=>rw [r] at o;let(xs,rfl):=hl env q r;exact{xs,rfl,λa j m s g b l=>o _ _ _ (g.trans (.new g.sub b)) (.of (.l (.inl (.inl ak)) (ag.same (bS (g.sub.free b)) xs l)))}
def notStar{e:E}{p:jj}(h:bo Γ N sc e p=ig):∀env ps,starEach (p::ps) env=(iv,eval p env)::starEach ps env:=by
 intro env ps;cases p<;>first|rfl|(cases e<;>first|(exact aY h)|(rename_i q;cases q<;>exact aY h))
theorem dU:∀{a:Es} {ps:List jj},fL Γ N sc a ps=ig->∀env pos,(backTo pos (starEach ps env)).any (·.1)=iv
 |.nil,[],_,_,_=>rfl|.cons e a,p::ps,h,env,pos=>by replace h:=aw h;rw [notStar h.1];show(iv||(backTo pos (starEach ps env)).any (·.1))=iv;rw [dU h.2];rfl
 |.nil,_::_,h,_,_=>aY h|.cons _ _,[],h,_,_=>aY h
noncomputable abbrev GA(X:Cx)(W:Wd)(F:aJ)(a:Es)(ps:List jj):Prop:=PA X ps (tA X W F a)
theorem qX:GA X W F .nil []:=L2.PA.imp gu λσ H Q h=>by let(b,G,env,a,o):=h;rw [bZ] at o;exact o [] G H (.refl a.sub) {.nil,λZ=>.nil}
theorem jW{e:E}{b:Es}{p:jj}{ps:List jj}(he:GE X W F e p)(hs:GA X W F b ps)(f:starEach (p::ps) X.env=(iv,eval p X.env)::starEach ps X.env):GA X W F (.cons e b) (p::ps):=
 L2.PA.imp (cZ he hs f) λσ H Q h=>by let(y,G,env,i,o):=h;rw [bZ] at o;refine one i o λq v G1 H1 j c m r=>args m r λqs s t u a d A w=>?_;refine w (v::s) t u (j.trans a) {.cons (c.top.grow a) d.top,λz=>?_};unfold fO at z;rw [zza] at z;exact .cons (Rep.same a.g q (c.rep z.1)) (d.rep z.2)
theorem gX:∀{a:Es} {env:Sl} {ps:List PV},bZ F a env=.ok ps->ps.length=eZ a
 |.nil,env,ps,h=>by rw [bZ] at h;cases h;rfl
 |.cons e a,env,ps,h=>by rw [bZ] at h;let(p,_,h):=Res.aV h;let(qs,b,h):=Res.aV h;cases h;rw [c6,gX b];rfl
theorem vV{a:Es}{ps:List jj}(f:fO a=ig)(hl:eZ a<1000)(h:GA X W F a ps):GE X W F (.tup a) (.Tuple ps x1 pos):=
 L2.PE.imp (My h) λσ H Q g=>by
  let(i,G,env,j,o):=g;rw [aC] at o;have m:=o
  refine{i,G,env,j,?_};cases r:bZ F a env with
  |bad=>rw [r] at o;exact o|exc c=>rw [r] at o;exact o|ok qs=>rw [r] at o;have b:=gX r;intro q G1 H1 d t;have l:=t.rep f;refine{by rw [l.length,b];exact Nat.le_of_lt (Nat.lt_trans hl (by decide)),λp e=>?_};exact o _ _ _ (d.trans (.new d.sub e)) (.of (.t (.inl ak) (ag.same (bS (d.sub.free e)) qs l)))
theorem Cq{a:Es}{ps:List jj}(d:fO a=ig)(hl:eZ a<1000)(h:GA X W F a ps):GF X W F (.lst a) (.List ps pos):=
 L2.PE.imp (Mv h) λσ H Q f=>by
  let(g,G,env,i,o):=f
  rw [aC] at o;refine{g,G,env,i,?_};cases r:bZ F a env with
  |bad=>rw [r] at o;exact o|exc c=>rw [r] at o;exact o|ok qs=>rw [r] at o;have b:=gX r;let(xs,e,o):=o;cases e;intro j G1 H1 m t;have l:=t.rep d;exact{by rw [l.length,b];exact Nat.le_of_lt (Nat.lt_trans hl (by decide)),λp q=>o p j G1 H1 m q l}
theorem lst_is{a:Es}:∀env q,aC F (.lst a) env=.ok q->∃xs,q=.lst xs:=λenv q h=>by rw [aC] at h;let(b,_,h):=Res.aV h;cases h;exact{_,rfl}
def AI(c:Str):aB p q≠.exc c:=by
 unfold aB
 ac_rfl
def K6(C:zv3 X){a b:E}{d:jj}(f:GE X W F a e)(g:GE X W F b d)(hs:qz d):GE X W F (.sub a b) (.Subscript e d pos):=
 (DO (Tt C.K C.room.units) f g hs).imp λσ H Q h=>two (λp q c=>AI c) (λenv=>by rw [aC]) h
def DZ{e:E}{p:jj}(h:bo Γ N sc e p=ig):qz p:=by
 intro o i;cases p<;>first|rfl|(cases e<;>first|(exact aY h)|(rename_i q;cases q<;>exact aY h))
def rA{e:E}{p:jj}(h:bo Γ N sc e p=ig)(op:CmpOp):behindInMarks op p=iv:=by
 cases p<;>first|rfl|(cases e<;>first|(exact aY h)|(rename_i q;cases q<;>exact aY h))
theorem GK:PO X ie (Ez X W F .no):=λa s σ H Q I h=>Ir a s σ H Q I (by let(c,G,env,b,o):=h;rw [xO] at o;exact o G H (.refl b.sub))
theorem GL{e:E}{p:jj}(h:GE X W F e p):PO X (ia p) (Ez X W F (.some e)):=λb s σ H Q I c=>Iu h b s σ H Q I (by
 let(j,G,env,d,o):=c;rw [xO] at o;refine one d o λq v G1 H1 f g m a=>?_
 cases q with
 |int i=>exact{i,g.top.int,a G1 H1 f}|bl _=>exact fA a|aG=>exact fA a|str _=>exact fA a|tup _=>exact fA a|lst _=>exact fA a|exc _=>exact fA a|bC _ _=>exact fA a)
def uM{a b:Option Int}(c:Str):dX p a b≠.exc c:=by
 unfold dX
 ac_rfl
theorem Cp(C:zv3 X){a:E}{g i:Oe}{j:jj}{m q:Option jj}{s:Pos}(t:GE X W F a j)(hl:PO X m (Ez X W F g))(u:PO X q (Ez X W F i)):GE X W F (.slice a g i) (.Subscript j (.Slice m q ie s) pos):=
 (DR (Us C.K) t hl u).imp λσ H Q h=>by let(e,G,env,y,o):=h;rw [aC] at o;refine one y o λp v G1 H1 z A f B=>?_;refine{e,G1,env,f,B.bind.imp λl D I V b=>?_};refine{e,I,env,f.grow b,(D.grow b).bind.imp λY L M Z d=>?_};let(r,O,P):=(L.grow d).val (λc=>uM c);exact{e,M,p,r,((f.grow b).grow d).sub,A.top.grow (b.trans d),O,λw R S T U=>P w R S (((z.trans b).trans d).trans T) (.of U)}
def IC{CX:Bi}{f:i6}{fd:FuncData}{ps:List Str}{sp:Sp}{E:XK}{b:mn}{s:i2}(c:gO X.prog X.w X.K X.mg X.base CX k f fd ps sp)(g:dq k X.A)(i:Binds X.K fd ps [])
 (j:∀e s',CX X.stack H s E e s'->X.xe e s') (I:Inv X b σ H s) (r:Vals vs us) (h:sp vs H Q E):zx7 X (call (.ref f) us) (EP X b σ Q) X.xe s:=by
 have hl:us.length=ps.length:=by rw [<-r.length];exact c.len _ _ _ _ h
 have d:=i s us I.uA (by rw [hW];exact hl);rw [hW] at d;refine wpAny_call (codeAny_mono (c.run X.A X.stack s H {us,[]} us vs Q E g I.tM d r h) λr s' a=>?_)
 cases r with
 |error e=>exact j e s' a|ok fl=>
  cases fl with
  |ret u=>exact I.after a|next=>exact fA a|brk=>exact fA a|cont=>exact fA a
def E8.imp{s s':i2}{E c:XK}{e:i1}(h:eK P w outer H s E e s')(i:∀C a b,E C a b->c C a b):eK P w outer H s c e s':=by let(a,C,t,d,b,B,rfl,F):=h;exact{a,C,t,d,b,B,rfl,{F.os,F.bare,F.aM,F.ER,F.tn,F.tup,F.eX,F.dC,F.un,i _ _ _ F.ends}}
def mK(C:dq k X.A){f:Str}{j:i6}{fd:FuncData}{pn:List Str}{q:Option (Str×List Nat)}{h:mn}{s:i2}{as:List PV}
 (D:gO X.prog X.w X.K X.mg X.base (eK X.prog X.w) k j fd pn (Bq W F f pn.length q)) (L:Binds X.K fd pn []) (d:F f as≠.bad->vs.length=pn.length)
 (I:Inv X h σ H s) (sg:az G H) (tb:cH W G H) (l:Br W G q as vs) (r:Vals vs us) (o:Out X W (F f as) σ G H λp=>dG W G H p Q):zx7 X (call (.ref j) us) (EP X h σ Q) X.xe s:=by
 have i:F f as≠.bad:=λz=>by rw [z] at o;exact o
 refine IC (E:=λm u b=>∃c,F f as=.exc c/\XE W c G H m u b) D C L (λe M x=>?_) I r {d i,G,as,sg,tb,l,?_}
 .cases z:F f as with
  |ok q=>let(a,S,t,vs,b,B,rfl,Fl):=x;let(c,g,_):=Fl.ends;rw [z] at g;cases g
  |exc c=>rw [z] at o;refine o h G H s e M I (.refl sg) (E8.imp x λT a b y=>?_);let(U,g,y):=y;rw [z] at g;cases g;exact y
  |bad=>exact absurd z i
 .cases z:F f as with
  |ok q=>rw [z] at o;exact λv O b P R=>o v O b P R|exc c=>exact λm u b x=>⟨c,rfl,x⟩|bad=>exact absurd z i
def dY.rm(C:zv3 X):dq k X.A:=C.room.mono (Nat.le_succ k)
def GC(C:zv3 X){f:Str}{e:E}{b:Es}{p:jj}{ps:List jj}(j:Γ.fs.contains f=ig)(m:iS sc f=ig)(u:okN f=ig)(w:fO (.cons e b)=ig)(y:GA X W F (.cons e b) (p::ps))
 (A:starEach (p::ps) X.env=(iv,eval p X.env)::starEach ps X.env) (hpl:(backTo pos (starEach ps X.env)).any (·.1)=iv):GE X W F (.call f (.cons e b)) (.Call (.Name f np) (p::ps) [] pos):=by
 intro B s σ H Q I h;let(U,G,env,D,o):=h;rw [aC] at o;let(V,fd,pn,K,hm,hk,L,a):=(C.fns f j).ex;refine wpAny_Call_Name_kw (iF I (fR C m) hm ?_ (dH u).1);refine PySem.W.callWith_K (h₀:=X.base) I.ok.mod.Pl hk (bL (y pos B s σ H (λc H1=>∃G1 as,az G1 H1/\cH W G1 H1/\ag W G1 as c/\Out X W (F f as) σ G1 H1 λp=>dG W G1 H1 p Q) I ?_) λY Z ⟨c,H1,g,r,q⟩=>{g.uA,?_}) A hpl
 .refine args D o λas c G1 H1 M t i d=>{G1,as,i.sub,i.tab,t.rep w,d.imp λp O v P R S T=>O v P R (M.trans S) (.of T)}
 .let(G1,as,sg,tb,l,d):=q;exact mK C.rm K L (λz=>by rw [l.length];exact a as z) g sg tb l r d
def Cn(C:zv3 X){f:Str}(e:Γ.fs.contains f=ig)(g:iS sc f=ig)(i:okN f=ig):GE X W F (.call f .nil) (.Call (.Name f np) [] [] pos):=by intro A s σ H Q I h;let(j,G,env,d,o):=h;rw [aC,bZ] at o;let(B,fd,pn,m,hm,hk,r,a):=(C.fns f e).ex;refine wpAny_Call_Name_kw (iF I (fR C g) hm ?_ (dH i).1);refine PySem.W.callWith_K0 I.uA hk ?_;have t:Out X W (F f []) σ G H λp=>∀v c b,aA W G H c b->Got W j c b (.call f .nil) p v->Q v b:=o;exact mK (us:=[]) (vs:=[]) (as:=[]) (q:=ie) C.rm m r (λz=>a [] z) I d.sub d.tab (show ag W G [] [] from .nil) .nil (t.imp λp u v c b w y=>u v c b w (.of y))
def HH(c:Str):vN ps≠.exc c:=by
 unfold vN
 ac_rfl
def HD(c:Str):BO ps≠.exc c:=by
 unfold BO
 ac_rfl
def HI(c:Str):BS ps≠.exc c:=by
 unfold BS
 ac_rfl
def HG(c:Str):BR ps≠.exc c:=by
 unfold BR
 ac_rfl
def HJ(c:Str):BU ps≠.exc c:=by
 unfold BU
 ac_rfl
def AJ(c:Str):mI ps≠.exc c:=by
 unfold mI
 ac_rfl
def HE(c:Str):BP ps≠.exc c:=by
 unfold BP
 ac_rfl
def HF(c:Str):BQ ps≠.exc c:=by
 unfold BQ
 ac_rfl
def wF(c:Str):jZ ps≠.exc c:=by
 unfold jZ
 ac_rfl
def DB(c:Str):uG ps≠.exc c:=by
 unfold uG
 ac_rfl
def AK(c:Str):nt ps≠.exc c:=by
 unfold nt
 ac_rfl
def AL(c:Str):mStart ps≠.exc c:=by
 unfold mStart
 ac_rfl
def wG(c:Str):j0 ps≠.exc c:=by
 unfold j0
 ac_rfl
def AF{b:B}(c:Str):d5 b ps≠.exc c:=match b with
 |.len=>HH c|.abs=>HD c|.max2=>HI c|.int=>HG c|.str=>HJ c|.tuple=>AJ c|.all=>HE c|.any=>HF c
def AG{m:M}(c:Str):nv m ps≠.exc c:=match m with
 |.en=>wF c|.join=>DB c|.fG=>AK c|.jf=>AL c|.eJ=>wG c
def Mu(C:zv3 X)(g:Γ.qt=iv)(b:B){f:List jj}{t:TA}(h:iS sc (bN b)=ig)(hm:Γ.bs.contains (bN b)=ig)(a:PA X (e::f) t)
 (he:starEach (e::f) X.env=(iv,eval e X.env)::starEach f X.env) (hpl:(backTo pos (starEach f X.env)).any (·.1)=iv):PE X (.Call (.Name (bN b) np) (e::f) [] pos) (Rx (Bt W (d5 b)) t):=by
 have c:=C.bs _ (fS.mp hm);have d:=fR C h;cases b
 case len=>exact fZ (zD C.K) d c PySem.boot_len a (he:=he) (hpl:=hpl)
 case abs=>exact fZ zx d c (by decide+kernel) a (he:=he) (hpl:=hpl)
 case max2=>exact fZ (zF (C.calm g)) d c (by decide+kernel) a (he:=he) (hpl:=hpl)
 case int=>exact kR zC d c (by decide+kernel) a (he:=he) (hpl:=hpl)
 case str=>exact kR zI d c (by decide+kernel) a (he:=he) (hpl:=hpl)
 case tuple=>exact kR (sS C.K) d c (by decide+kernel) a (he:=he) (hpl:=hpl)
 case all=>exact fZ (zy (C.calm g) C.K) d c (by decide+kernel) a (he:=he) (hpl:=hpl)
 case any=>exact fZ (zA (C.calm g) C.K) d c (by decide+kernel) a (he:=he) (hpl:=hpl)
def Kd{op:List PV->Res PV}{a:Es}{e:E}(b:∀ps c,op ps≠.exc c)(he:∀env,aC F e env=(bZ F a env).bind λps=>op ps)(h:tE X W F e σ H Q):Rx (Bt W op) (tA X W F a) σ H Q:=by let(d,G,env,f,o):=h;rw [he] at o;refine args f o λps z G1 H1 g t i j=>?_;let(r,m,p):=j.val (b ps);exact{d,G1,ps,r,i.sub,t.top,m,λw q s u y=>p w q s (g.trans u) (.of y)}
def KZ(C:zv3 X)(d:Γ.qt=iv)(b:B){a:Es}{ps:List jj}(f:iS sc (bN b)=ig)(hm:Γ.bs.contains (bN b)=ig)(g:GA X W F a (e::ps))
 (he:starEach (e::ps) X.env=(iv,eval e X.env)::starEach ps X.env) (hpl:(backTo pos (starEach ps X.env)).any (·.1)=iv):GE X W F (.blt b a) (.Call (.Name (bN b) np) (e::ps) [] pos):=
 (Mu C d b f hm g he hpl).imp λσ H Q h=>Kd (λps c=>AF c) (λenv=>by rw [aC]) h
def Dy{t:Ty}(c:Str):kZ t p≠.exc c:=by cases p<;>exact nofun
def Mz(C:zv3 X)(t:Ty)(a:iS sc (Str.ofString (xh t))=ig)(hm:Γ.bs.contains (Str.ofString (xh t))=ig):PE X (.Name (Str.ofString (xh t)) pos) (tC (.ty (xh t))):=by
 have b:=C.bs _ (fS.mp hm);have c:=fR C a;cases t
 all_goals exact Ic c b (u:=.type _) (by decide+kernel) rfl (by decide+kernel) (by decide+kernel)
def ON(C:zv3 X){t:Ty}{a:E}{b:jj}{tp:Pos}(e:iS sc "isinstance"=ig)(f:Γ.bs.contains "isinstance"=ig)(g:iS sc (Str.ofString (xh t))=ig)(hm:Γ.bs.contains (Str.ofString (xh t))=ig)(i:GE X W F a b)
 (d:∀env ps,starEach (b::ps) env=(iv,eval b env)::starEach ps env):GE X W F (.ty t a) (.Call (.Name "isinstance" np) [b,.Name (Str.ofString (xh t)) tp] [] pos):=by
 refine(fZ (B0 C.K t) (fR C e) (C.bs _ (fS.mp f)) (by decide+kernel) (cZ i (cZ (Mz C t g hm) gu) (d _ _)) (he:=d _ _)).imp λσ H Q h=>?_;let(j,G,env,m,o):=h;rw [aC] at o;refine one m o λp v G1 H1 q s u y=>?_;let(r,z,A):=y.val (λc=>Dy c);exact{v,j,G1,p,r,rfl,u.sub,s.top,z,λw B D I L=>A w B D (q.trans I) (.of L)}
abbrev mT:M->String
 |.join=>"str"|.en=>"str"|.fG=>"str"|.jf=>"str"|.eJ=>"str"
def UM(C:zv3 X){m:M}(sg:az G H)(h:nk m p=ig)(t:Top W H0 G H p v):UL X.K (mT m) v H:=by
 cases m<;>cases p<;>first|(exact aY h)|(cases t.str;rfl)|(let(a,c,rfl,b,_):=t.lst sg;exact .inl ⟨rfl,_,oG C.K b⟩)
def K3(C:zv3 X){m:M}{o:E}{s:Es}{b p:jj}{ps:List jj}{a d:Pos}(e:GE X W F o b)(f:GA X W F s (p::ps))(g:attributeBase b (mN m) X.env (eval b X.env)=eval b X.env)
 (i:((backTo d (starEach (p::ps) X.env)).all (λx=>!x.1)&&(backToKw d (keywordEach [] X.env)).all (λx=>x.1.isSome)&&decide ((p::ps).length+([]:List Keyword).length+(if([]:List Keyword).isEmpty then 0 else 1)<30))=ig)
 (j:(a.endLine==d.line)=ig) (hs:starEach (p::ps) X.env=(iv,eval p X.env)::starEach ps X.env) (hplain:(backTo d (starEach ps X.env)).any (·.1)=iv):GE X W F (.yv m o s) (.Call (.Attribute b (mN m) a) (p::ps) [] d):=by
 have rd:∀σ H Q,tE X W F (.yv m o s) σ H Q->WL X.K (mT m) (Ny W (nv m)) (tE X W F o) (tA X W F s) σ H Q:=λσ H Q h=>by
  let(A,G,env,B,q):=h;rw [aC] at q;refine one B q λp v G1 H1 D u y t=>?_;by_cases hk:nk m p=ig
  .rw [if_pos hk] at t;refine{UM C y.sub hk u.top,args y t λps Z I H2 z L O P=>?_};let(r,R,S):=P.val (λc=>AG c);exact{A,I,p::ps,r,O.sub,.cons (u.top.grow z) L.top,R,λw T U V Y=>S w T U ((D.trans z).trans V) (.of Y)}
  .rw [if_neg hk] at t;exact t.elim
 cases m
 case en=>exact(nJ PySem.F.plainAttrs_str PySem.F.slot_str_count PySem.F.type_str_count wo e f g i j hs hplain).imp rd
 case join=>exact(nJ PySem.F.plainAttrs_str PySem.F.slot_str_join PySem.F.type_str_join (Dt C.K) e f g i j hs hplain).imp rd
 case fG=>exact(nJ PySem.F.plainAttrs_str PySem.F.slot_str_split PySem.F.type_str_split Ax e f g i j hs hplain).imp rd
 case jf=>exact(nJ PySem.F.plainAttrs_str PySem.F.slot_str_startswith PySem.F.type_str_startswith Ay e f g i j hs hplain).imp rd
 case eJ=>exact(nJ PySem.F.plainAttrs_str PySem.F.slot_str_rstrip PySem.F.type_str_rstrip wx e f g i j hs hplain).imp rd
def SR.set(i:Nat)(r:SR W H0 env σ G H)(h:Rep W G p v):SR W H0 (env.set i (.val p)) (σ.set i (ia v)) G H where
 len:=zx6 r.len
 sub:=r.sub
 tab:=r.tab
 pf:=r.pf
 base:=r.base
 slot:=λj s e=>by
  by_cases f:i=j
  .subst f;have d:i<env.length:=by
    have:=(cP.mp e).1;simpa using this
   rw [gv d] at e;cases e;exact{ia v,gv (by rw [<-r.len];exact d),v,rfl,h}
  .rw [ed f] at e;let(o,w,y):=r.slot j s e;exact{o,by rw [ed f];exact w,y}
 apart:=λa b q A B g m t u=>by
  have ne:∀{c:Nat} {q:PV},(env.set i (.val p))[c]?=ia (.own q)->i≠c:=λ{c q} e z=>by
   subst z;have d:i<env.length:=by have:=(cP.mp e).1;simpa using this
   rw [gv d] at e;cases e
  have C:=ne g;have D:=ne m;rw [ed C] at g t;rw [ed D] at m u;exact r.apart a b q A B g m t u
abbrev gT(K:zz8):Tg->TG
 |.one i=>gZ i|.two i j=>OK K 2 (xQ (gZ i) (xQ (gZ j) KW))
def vU{K:zz8}(hK:W.K=K){c:Tg}{d:Sl}{Q:St->Hp->Prop}(e:Tg.put c p env=.ok d)(r:SR W H0 env σ G H)(h:Rep W G p v)(f:∀b,SR W H0 d b G H->Q b H):gT K c v σ H Q:=by
 unfold Tg.put at e;split at e
 .cases e;exact f _ (r.set _ h)
 .cases e;simp! [Rep] at h;let(a,j,rfl,sq,l):=h;let(m,o,rfl,g,l):=l.bM;let(q,s,rfl,i,l):=l.bM;simp! [ag] at l;subst l;rw [hK] at sq;exact{a,_,rfl,az.tup r.sub sq.sq,rfl,_,_,rfl,_,_,rfl,rfl,f _ ((r.set _ g).set _ i)}
 .cases e
def Dj(fu:X.env.scope=sc)(h:fV sc x=ig):Loc X.env.scope x:=by rw [fu];unfold fV at h;simp! [gU,zzy] at h;exact h
def JH{fn:Str->Bool}{i:Nat}{p:jj}(hN:X.N=N)(nd:N.Nodup)(fu:X.env.scope=sc)(b:∀x,fn x=ig->X.fn x=ig)(h:TN N sc fn i p=ig):PG X p (gZ i)/\∃x q,p=.Name x q:=by
 let(x,c,a):=ah h;let(q,rfl):=bR c
 simp! [zza,zzy,gU] at a;refine{Ik (by rw [hN];exact nd) (by rw [hN];exact a.1.1) (Dj fu a.1.2) ?_,x,q,rfl};rcases a.2 with z|z
 .exact .inl (b x z)
 .exact .inr (by rw [fu];exact z)
abbrev VQ:List Nat->Ji
 |[]=>KW|i::is=>xQ (gZ i) (VQ is)
theorem DT{fn:Str->Bool}(hN:X.N=N)(nd:N.Nodup)(fu:X.env.scope=sc)(c:∀x,fn x=ig->X.fn x=ig):∀(is:List Nat) (b:List jj),L7 N sc fn is b=ig->N3 X b (VQ is)/\(assignEach b X.env).length=is.length/\(assignEach b X.env).findIdx? (·.1)=ie
 |[],[],_=>⟨Il,rfl,rfl⟩|i::is,a::as,h=>by have h:=aw h;let(d,x,p,rfl):=JH hN nd fu c h.1;let(g,l,f):=DT hN nd fu c is as h.2;have e:assignEach (.Name x p::as) X.env=(iv,assign (.Name x p) X.env)::assignEach as X.env:=rfl;refine{DV d g,by rw [e,c6,l,c6],?_};rw [e,List.findIdx?_cons,f];rfl|[],_::_,h=>aY h|_::_,[],h=>aY h
def DS{fn:Str->Bool}{a:Tg}{p:jj}(hN:X.N=N)(nd:N.Nodup)(fu:X.env.scope=sc)(c:X.calm=ig)(b:∀x,fn x=ig->X.fn x=ig)(h:iR N sc fn a p=ig):PG X p (gT X.K a):=by
 cases a with
 |one i=>exact(JH hN nd fu b h).1|two i j=>let(m,d,e):=ah h;let(k,q,rfl):=y8 d;let(g,l,f):=DT hN nd fu b _ _ e;exact MA c g l f
def mv(W:Wd)(J:It)(G B:Hp)(ps:List PV):Prop:=∀(i:Nat) (b a:Hp),az G b->iP B a->az b a->
 (i=ps.length->J.stop i a)/\∀p,ps[i]?=ia p->J.go i a/\∀x c,J.Nv i a x c->∃d,aA W b a d c/\Rep W d p x
structure JS(W:Wd)(G H:Hp)(it:I)(J:It)(ps:List PV):Prop where
 any:mv W J G H ps
 bq:Gw it=ig->mv W J G G ps
abbrev tI(X:Cx)(W:Wd)(F:aJ)(it:I):TI:=λσ H R=>∃c G env,SR W c env σ G H/\Out X W (sA F it env) σ G H λd=>∀J b a,aA W G H b a->JS W b a it J d->R J a
noncomputable abbrev GI(X:Cx)(W:Wd)(F:aJ)(a:jj)(it:I)(p:jj):Prop:=PI X a p (tI X W F it)
theorem yb(hK:W.K=X.K){B:Hp}(h:so W.K B a vs)(l:ag W G ps vs):mv W (RM X.K a) G B ps:=λi e f g j sub=>by have b:iX X.K f a vs:=oG hK (iP.ls j h);refine{λq=>{vs,b,by rw [l.length];omega},λp m=>?_};let(v,d,o):=l.qY m;refine{⟨vs,v,b,d⟩,λx r c=>?_};let(rfl,c):=c;have:=c vs b;rw [d] at this;cases this;exact{e,.refl sub,Rep.same g p o}
theorem CZ{K:zz8}{B:Hp}(h:fK K B a vs)(l:ag W G ps vs):mv W (RN K a) G B ps:=λi e f g j sub=>by have b:fK K f a vs:=iP.tup j h;refine{λq=>{vs,b,by rw [l.length];omega},λp m=>?_};let(v,d,o):=l.qY m;refine{⟨vs,v,b,d⟩,λx r c=>?_};let(rfl,c):=c;have:=c vs b;rw [d] at this;cases this;exact{e,.refl sub,Rep.same g p o}
def CU{B:Hp}{us:List V}(n:ks.length=us.length)(h:B a=ia (.bq o (.dT (kz ks us)))):mv W (RK a o (kz ks us)) G B (ks.map kP):=λi y g A j sub=>by
 have d:g a=ia (.bq o (.dT (kz ks us))):=j.at h (λZ z=>nomatch z);refine{λc=>{d,by rw [g9 n];rw [zzl] at c;omega},λp e=>?_};rw [d0] at e;let(k,hk,rfl):=c4.mp e;have c:i<ks.length:=(cP.mp hk).1;refine{{d,by rw [g9 n];exact c},λx C m=>?_};let(rfl,b,q,v,rfl,r,f):=m;have s:q=ki k:=by have:=congrArg (λl=>l[i]?) (yk (us:=us) n);simp! [d0,r,hk,Option.map_some] at this;exact zzq this
 rw [s] at f;let(t,u,w):=nc (W:=W) sub f;exact⟨t,u,w⟩
def pE{i:Nat}(h:(chars z)[i]?=ia p):∃c,z.cps[i]?=ia c/\p=.str {#[c]}:=by unfold chars at h;rw [d0] at h;let(c,a,rfl):=c4.mp h;rw [Array.getElem?_toList] at a;exact⟨c,a,rfl⟩
def pF(z:Str):(chars z).length=z.cps.size:=by unfold chars;rw [zzl,eH]
theorem CV{B:Hp}(z:Str):mv W (QE z) G B (chars z):=λi e h j m sub=>by refine{λa=>by rw [pF] at a;exact Nat.le_of_eq a.symm,λp f=>?_};let(c,b,rfl):=pE f;refine{(Array.getElem?_eq_some_iff.mp b).1,λx o g=>?_};let(rfl,q,d,rfl):=g;rw [b] at d;cases d;exact{e,.refl sub,.s}
theorem rf{B:Hp}(a:Int)(n:Nat):mv W (NY a n) G B (fF a n):=λi g m o q sub=>by unfold fF;refine{λb=>by rw [zzl,List.length_range] at b;exact Nat.le_of_eq b.symm,λp d=>?_};rw [d0] at d;let(c,h,rfl):=c4.mp d;let(e,f):=cP.mp h;rw [List.length_range] at e;rw [List.getElem_range] at f;subst f;refine{e,λx r j=>?_};let(rfl,rfl):=j;exact{g,.refl sub,.i}
def nF{u:V}(sub:az G H)(b:H a=ie)(d:Rep W G p v)(e:Rep W G q u):∃c,aA W G H c (upd H a (.tup [v,u]))/\Rep W c (.tup [p,q]) (.ref a):=
 {_,.new sub b,.t (.inl ak) (ag.same (bS (sub.free b)) _ (.cons d (.cons e .nil)))}
theorem jw:∀{xs:List PV} {n i:Nat} {p:PV},(cX n xs)[i]?=ia p->∃x,xs[i]?=ia x/\p=.tup [.int ((n+i:Nat):Int),x]
 |[],_,_,_,h=>by simp [cX] at h|x::xs,n,0,p,h=>by simp [cX] at h;exact{x,rfl,by rw [<-h];simp}|x::xs,n,i+1,p,h=>by simp! [cX,List.getElem?_cons_succ] at h;let(y,a,b):=jw h;exact{y,zx6 a,by rw [b,show n+1+i=n+(i+1) by omega]}
theorem dz:∀(xs:List PV) (n:Nat),(cX n xs).length=xs.length
 |[],_=>rfl|_::xs,n=>by simp! [cX,c6,dz xs]
theorem uq{K:zz8}{B:Hp}(h:fK K B a vs)(l:ag W G ps vs):mv W (RL K a vs) G B (cX 0 ps):=λi u g j m sub=>by have c:fK K g a vs:=iP.tup m h;refine{λd=>{c,by rw [dz] at d;rw [l.length];exact d},λp o=>?_};let(x,q,rfl):=jw o;let(v,e,r):=l.qY q;refine{{c,(cP.mp e).1},λy w s=>?_};let(b,z,rfl,t,rfl,f):=s;rw [e] at f;cases f;rw [Nat.zero_add];exact nF sub t .i (Rep.same j x r)
theorem m7(hK:W.K=X.K){B:Hp}(h:so W.K B a vs)(l:ag W G ps vs):mv W (JU X.K a vs) G B (cX 0 ps):=λi u g j m sub=>by have c:iX X.K g a vs:=oG hK (iP.ls m h);refine{λd=>{c,by rw [dz] at d;rw [l.length];exact d},λp o=>?_};let(x,q,rfl):=jw o;let(v,e,r):=l.qY q;refine{{c,(cP.mp e).1},λy w s=>?_};let(b,z,rfl,t,rfl,f):=s;rw [e] at f;cases f;rw [Nat.zero_add];exact nF sub t .i (Rep.same j x r)
theorem uo{B:Hp}(z:Str):mv W (QD z) G B (cX 0 (chars z)):=λi m o q r sub=>by refine{λa=>by rw [dz,pF] at a;exact a,λp f=>?_};let(x,g,rfl):=jw f;let(c,d,rfl):=pE g;refine{(Array.getElem?_eq_some_iff.mp d).1,λy t h=>?_};let(b,u,rfl,j,rfl,e):=h;rw [d] at e;cases e;rw [Nat.zero_add];exact nF sub j .i .s
def Si(W:Wd)(G:Hp)(t:Zt)(xs:List PV):Prop:=(if t.1=ig then so W.K G t.2.1 t.2.2 else J1 W.K G t.2.1 t.2.2)/\ag W G xs t.2.2
theorem EL:∀{ps:List PV} {vs:List V} {xss:List (List PV)},ag W G ps vs->j6 ps=ia xss->∃ts:List Zt,vs=ts.map (λt=>V.ref t.2.1)/\Paired (Si W G) ts xss
 |[],vs,xss,l,h=>by simp! [ag] at l;subst l;cases h;exact{[],rfl,.nil}
 |p::ps,vs,xss,l,h=>by
  let(v,r,rfl,b,f):=l.bM;let(xs,c,h):=eu.1 (show(P6 p).bind (λxs=>(j6 ps).map (xs::·))=ia xss from h);let(g,i,rfl):=c4.1 h;let(ts,rfl,e):=EL f i
  cases p with
  |lst j=>cases c;simp! [Rep] at b;let(a,d,rfl,k,m):=b;exact{(ig,a,d)::ts,rfl,.cons ⟨k,m⟩ e}
  |tup j=>cases c;simp! [Rep] at b;let(a,d,rfl,k,m):=b;exact{(iv,a,d)::ts,rfl,.cons ⟨k,m⟩ e}
  |_=>cases c
theorem yt:∀{xss:List (List PV)},∀xs∈xss,fW xss<=xs.length
 |[xs],ys,h=>by rw [e6.1 h];exact bc _|xs::y::r,ys,h=>by
  show min xs.length (fW (y::r))<=_
  rcases fP.1 h with rfl|h
  .exact Nat.min_le_left ..
  .exact eg (Nat.min_le_right ..) (yt ys h)
theorem yq:∀{xss:List (List PV)},xss≠[]->∃xs∈xss,xs.length=fW xss
 |[xs],_=>{xs,e6.2 rfl,rfl}|xs::y::r,_=>by
  show∃zs∈xs::y::r,zs.length=min xs.length (fW (y::r))
  rcases Nat.le_total xs.length (fW (y::r)) with h|h
  .exact{xs,dV ..,(Nat.min_eq_left h).symm}
  .let(zs,a,b):=yq (xss:=y::r) (List.cons_ne_nil _ _);exact{zs,c3 _ a,by rw [b,Nat.min_eq_right h]}
theorem zi{i:Nat}:∀{ts:List Zt} {xss:List (List PV)} {ys:List V},Paired (Si W G) ts xss->Paired (λ(q:Zt) y=>q.2.2[i]?=ia y) ts ys->ag W G (xss.map λxs=>xs.getD i .aG) ys
 |_,_,_,.nil,.nil=>.nil|_,_,_,.cons r t,.cons u v=>by let(p,a,b):=r.2.get u;refine .cons ?_ (zi t v);dsimp only;rw [c5,a];exact b
def C0(hK:W.K=X.K){B:Hp}{ts:List Zt}{xss:List (List PV)}(q:ts≠[])(h:Paired (Si W G) ts xss)(hB:az G B):mv W (RJ X.K ts) G B (oz xss):=λi D s f E sub=>by
 have sq:∀t∈ts,Zq X.K s t:=λt b=>by
  let(xs,_,r):=fY h t b;have:=r.1;unfold Zq;split
  .rename_i e;rw [if_pos e] at this;exact oG hK (az.ls (λa o z=>sub a o (f a o z)) this)
  .rename_i e;rw [if_neg e] at this;exact hK▸az.tup (λa o z=>sub a o (f a o z)) this.sq
 have len:∀t∈ts,fW xss<=t.2.2.length:=λt b=>by let(xs,g,r):=fY h t b;rw [r.2.length];exact yt xs g
 have j:(oz xss).length=fW xss:=by simp [oz]
 refine{λc=>?_,λp d=>?_}
 .rw [j] at c;subst c;refine{λt b=>{sq t b,len t b},?_};have u:xss≠[]:=λz=>by subst z;cases h;exact q rfl
  let(xs,g,w):=yq u;let(t,b,r):=cM h xs g;exact{t,b,by rw [r.2.length,w]}
 .have c:i<fW xss:=by rw [<-j];exact(cP.1 d).1
  have y:p=.tup (xss.map λxs=>xs.getD i .aG):=by unfold oz at d;rw [d0,List.getElem?_range c] at d;exact(zzq d).symm
  refine{λt b=>{sq t b,eo c (len t b)},λx I A=>?_};let(a,L,rfl,m,rfl,C):=A;subst y;refine{_,.new sub m,.t (.inl ak) (ag.same (bS (sub.free m)) _ (ag.same f _ (zi h C)))}
def fg{e:E}(a:SR W H0 env σ G H)(b:aC F e env=.ok p)(h:∀v G1 H1,aA W G H G1 H1->Got W H0 G1 H1 e p v->Q v H1):tE X W F e σ H Q:={H0,G,env,a,by rw [b];exact h}
def Ex{e:E}{c:Str}(a:SR W H0 env σ G H)(b:aC F e env=.exc c)(h:vH X W σ c G H):tE X W F e σ H Q:={H0,G,env,a,by rw [b];exact h}
def La(C:zv3 X){S p:jj}{e:E}(he:GE X W F e p):GI X W F S (.seq e) p:=by
 intro g s σ H R I h;let(Z,G,env,j,o):=h
 rw [sA] at o;cases r:aC F e env with
 |bad=>rw [r] at o;exact o.elim|exc c=>rw [r] at o;exact yB he g s σ H R I (Ex j r o)|ok q=>
  rw [r] at o;cases q with
  |lst xs=>refine yB he g s σ H R I (fg j r λv G1 H1 b t=>?_);have w:=t;let(a,y,rfl,d,m):=t.top.lst b.sub;refine{a,rfl,{y,oG C.K d},o _ G1 H1 b {yb C.K d m,λz=>?_}};have f:=w.rep z;simp! [Rep] at f;let(T,A,B,u,D):=f;cases B;exact yb C.K u D
  |tup xs=>refine MD he g s σ H R I (fg j r λv G1 H1 b t=>?_);have w:=t;let(a,y,rfl,d,m):=t.top.tup b.sub;rw [C.K] at d;refine{a,rfl,⟨y,d⟩,o _ G1 H1 b {CZ d m,λz=>?_}};have f:=w.rep z;simp! [Rep] at f;let(T,A,B,u,D):=f;cases B;rw [C.K] at u;exact CZ u.sq D
  |str z=>exact MC he g s σ H R I (fg j r λv G1 H1 b t=>{z,t.top.str,o _ G1 H1 b {CV z,λ_=>CV z}})|int _=>exact fA o|bl _=>exact fA o|aG=>exact fA o|exc _=>exact fA o|bC L qs=>
   by_cases M:iC e=ig
   .have U:wU e (.bC L qs)=.ok (L.map kP):=by
     cases e<;>first|rfl|exact aY M
    have P:Out X W (wU e (.bC L qs)) σ G H λV=>∀(J:It) (Q O:Hp),aA W G H Q O->JS W Q O (Ci.I.seq e) J V->R J O:=o;rw [U] at P;refine MB he g s σ H R I (fg j r λv G1 H1 b t=>?_);have f:=t.rep M;simp! [Rep] at f;let(a,Y,us,rfl,n,d,m):=f;exact{a,Y,_,rfl,b.sub _ _ d,P _ G1 H1 b {CU n (b.sub _ _ d),λ_=>CU n d}}
   .have:∃i,e=.f7 i:=by
     cases e<;>first|exact⟨_,rfl⟩|exact absurd rfl M
    let(i,rfl):=this;exact fA o
def dS{i:Int}(h:aW i=ig): -(2^62)<=i/\i<2^62:=by unfold aW at h;simpa using h
def K9(C:zv3 X){f p:jj}{e:E}(g:iS sc "range"=ig)(i:Γ.bs.contains "range"=ig)(d:∀env ps,starEach (p::ps) env=(iv,eval p env)::starEach ps env)(he:GE X W F e p):GI X W F f (.va e) (.Call (.Name "range" np) [p] [] pos):=by
 intro m s σ H R I h;refine AR (fR C g) (C.bs _ (fS.mp i)) (cZ he gu (d _ _)) (d _ _) m s σ H R I ?_;let(w,G,env,r,o):=h;rw [sA] at o;refine one r o λq v G1 H1 u t y a=>?_
 cases q with
 |int j=>
  by_cases c:aW j=ig
  .have b:Out X W (if aW j=ig then Res.ok (fF 0 j.toNat) else .bad) σ G1 H1 _:=a;rw [if_pos c] at b;exact{j,by rw [t.top.int],(dS c).1,(dS c).2,b _ G1 H1 u {rf _ _,λZ=>rf _ _}}
  .have b:Out X W (if aW j=ig then Res.ok (fF 0 j.toNat) else .bad) σ G1 H1 _:=a;rw [if_neg c] at b;exact b.elim
 |bl _=>exact fA a|aG=>exact fA a|str _=>exact fA a|tup _=>exact fA a|lst _=>exact fA a|exc _=>exact fA a|bC _ _=>exact fA a
set_option tactic.hygienic true in
def GH(C:zv3 X){w p q:jj}{a b:E}(z:iS sc "range"=ig)(A:Γ.bs.contains "range"=ig)(r:∀env ps,starEach (p::ps) env=(iv,eval p env)::starEach ps env)(e:∀env ps,starEach (q::ps) env=(iv,eval q env)::starEach ps env)
 (B:GE X W F a p) (D:GE X W F b q):GI X W F w (.rL a b) (.Call (.Name "range" np) [p,q] [] pos):=by
 intro K s σ H R I h;refine AS (fR C z) (C.bs _ (fS.mp A)) (cZ B (cZ D gu (e _ _)) (r _ _)) (by rw [r,e];rfl) (e _ _) K s σ H R I ?_;let(T,G,env,L,o):=h;rw [sA] at o;refine one L o λx v G1 H1 M t O P=>one O P λy u f g Q S U m=>?_
 cases x<;>cases y<;>first
  |(exact fA m)
  | (rename_i i j
     by_cases c:(aW i&&aW j)=ig
     .have d:Out X W (if(aW i&&aW j)=ig then Res.ok (fF i (j-i).toNat) else .bad) σ f g _:=m;rw [if_pos c] at d;rw [zza] at c;exact⟨i,j,by rw [t.top.int,S.top.int],⟨(dS c.1).1,(dS c.1).2,(dS c.2).1,(dS c.2).2⟩,d _ f g (M.trans Q) ⟨rf _ _,λZ=>rf _ _⟩⟩
     .have d:Out X W (if(aW i&&aW j)=ig then Res.ok (fF i (j-i).toNat) else .bad) σ f g _:=m;rw [if_neg c] at d;exact d.elim)
def GG(C:zv3 X){L:Pos}{p:jj}{e:E}(M:iS sc (zu 0)=ig)(O:Γ.bs.contains (zu 0)=ig)(f:∀env ps,starEach (p::ps) env=(iv,eval p env)::starEach ps env)(he:GE X W F e p):
 GI X W F (.Tuple elts x1 L) (.enum e) (.Call (.Name (zu 0) np) [p] [] pos):=by
 intro m s σ H R I h;have u:=fR C M;have w:=C.bs _ (fS.mp O);have y:=cZ he gu (f _ _);let(S,G,env,A,o):=h
 rw [sA] at o;cases r:aC F e env with
 |bad=>rw [r] at o;exact o.elim|exc c=>rw [r] at o;exact uW u w y (f _ _) m s σ H R I (Ex A r o)|ok q=>
  rw [r] at o;cases q with
  |lst xs=>
   refine uW u w y (f _ _) m s σ H R I (fg A r λv G1 H1 b t=>?_);by_cases B:iC e=ig
   .have g:=t.rep B;simp! [Rep] at g;let(a,i,rfl,d,j):=g;exact{a,i,rfl,oG C.K (az.ls b.sub d),o _ G1 H1 b {m7 C.K (az.ls b.sub d) j,λZ=>m7 C.K d j}}
   .let(a,i,rfl,D,P):=t.top.lst b.sub;exact{a,i,rfl,oG C.K D,o _ G1 H1 b {m7 C.K D P,λz=>absurd z B}}
  |tup xs=>
   refine DX u w y (f _ _) m s σ H R I (fg A r λv G1 H1 b t=>?_);have Q:=t.top
   rcases Q with g|z
   .simp! [Rep] at g;let(a,i,rfl,d,j):=g;rw [C.K] at d;exact{a,i,rfl,az.tup b.sub d.sq,o _ G1 H1 b {uq (az.tup b.sub d.sq) j,λz=>uq d.sq j}}
   .exact z.elim
  |str z=>exact DW u w y (f _ _) m s σ H R I (fg A r λv G1 H1 b t=>{z,by rw [t.top.str],o _ G1 H1 b {uo z,λZ=>uo z}})|int _=>exact fA o|bl _=>exact fA o|aG=>exact fA o|exc _=>exact fA o|bC _ _=>exact fA o
def Lb(C:zv3 X){m:Pos}{p:jj}{ps:List jj}{as:Es}(u:iS sc "zip"=ig)(w:Γ.bs.contains "zip"=ig)(y:fO as=ig)(O:eZ as=2\/eZ as=3)(A:GA X W F as (p::ps))
 (B:starEach (p::ps) X.env=(iv,eval p X.env)::starEach ps X.env) (hpl:(backTo pos (starEach ps X.env)).any (·.1)=iv):GI X W F (.Tuple elts x1 m) (.zip as) (.Call (.Name "zip" np) (p::ps) [] pos):=by
 intro D s σ H R I h;refine Im (fR C u) (C.bs _ (fS.mp w)) A B hpl D s σ H R I ?_;let(E,G,env,L,o):=h
 rw [sA] at o;refine{E,G,env,L,?_};cases r:bZ F as env with
 |bad=>rw [r] at o;exact o|exc c=>rw [r] at o;exact o|ok qs=>
  rw [r] at o;have g:=gX r;intro P G1 H1 b t;have l:=t.rep y;have o:Out X W ((Res.of (j6 qs)).bind λa=>.ok (oz a)) σ G H λps=>∀J i d,aA W G H i d->JS W i d (.zip as) J ps->R J d:=o
  cases e:j6 qs with
  |none=>rw [e] at o;exact fA o|some a=>
   rw [e] at o;let(ts,rfl,f):=EL l e;have lt:ts.length=qs.length:=by have:=l.length;rwa [zzl] at this
   have j:ts≠[]:=λz=>by subst z;simp at lt;omega
   refine{ts,rfl,by omega,λq M=>?_,o _ G1 H1 b {C0 C.K j f b.sub,λZ=>C0 C.K j f (az.refl _)}};let(xs,_,r):=fY f q M;have:=r.1;unfold Zq;split
   .rename_i e;rw [if_pos e] at this;exact oG C.K (az.ls b.sub this)
   .rename_i e;rw [if_neg e] at this;exact C.K▸az.tup b.sub this.sq
end
def zK{env:Env}{c:i6}(h:env.cells.lookup x=ia c):cellOf env x=pure c:=by unfold cellOf;rw [h]
abbrev frees(names:List (Str×NameKind)):List Str:=((names.filter λp=>p.2==.free).map (·.1)).reverse
def gb{a:kv}{env:Env}(h:∀y∈a.names,y.2=.free->∃c,env.cells.lookup y.1=ia c):closureFor a env=pure (bG env (freeOf a)):=by
 simp! [closureFor];have f:∀(names:List (Str×NameKind)) (b:List (Str×i6)),(∀y∈names,y.2=.free->∃c,env.cells.lookup y.1=ia c)->
  (forIn (m:=Sem) names b λx r=>if(x.2==NameKind.free)=ig then do
   let c<-cellOf env x.1
   pure (ForInStep.yield ((x.1,c)::r))
   else pure (ForInStep.yield r))=pure (bG env (frees names)++b):=by
  intro names
  induction names with
  |nil=>intro b _;rfl|cons p r j=>
   intro b g;let(n,d):=p;rw [List.forIn_cons];by_cases hk:(d==NameKind.free)=ig
   .let(c,k):=g (n,d) (by simp) (zzy.mp hk);simp! [hk,if_true,zK k,pure_bind];rw [j ((n,c)::b) λy i=>g y (c3 _ i)];have e:frees ((n,d)::r)=frees r++[n]:=by unfold frees;rw [hL,if_pos hk,bf,List.reverse_cons]
    rw [e];unfold bG;rw [List.map_append,bf,List.map_nil,List.append_assoc];show _=pure (_++([(n,(env.cells.lookup n).getD 0)]++b));rw [show env.cells.lookup n=ia c from k];rfl
   .simp! [hk,eM,if_false,pure_bind];rw [j b λy i=>g y (c3 _ i)];have e:frees ((n,d)::r)=frees r:=by unfold frees;rw [hL,if_neg hk]
    rw [e]
 have:=f a.names [] h;rw [hW] at this;simp! [bind_pure_comp,map_pure,id_map',bind_pure];exact this
section
variable{W:Wd}{sc:kv}
def f6{a:kv}(h:X.env.scope=sc):relabel a X.env=dB a sc:=by subst h;rfl
structure mj(N:List Str)(sc scope:kv)(kk:Nat)(aZ:List Nat)(xs:List Str):Prop where
 kind:scope.kind=.function
 len:xs.length=kk
 nd:(xs++freeOf scope).Nodup
 Ko:(scope.names.all λy=>(decide (y.2≠.cell)||!(freeOf scope).contains y.1)&&(decide (y.2≠.free)||(freeOf scope).contains y.1))=ig
 own:(scope.names.all λy=>decide (y.2≠.cell)||decide (scope.names.lookup y.1=ia .cell))=ig
 names:(scope.names.all λy=>decide (y.2≠.local)||decide (scope.names.lookup y.1=ia .local))=ig
 slots:aZ.map (λi=>N[i]?)=(freeOf scope).map ia
 kX:((freeOf scope).all λy=>decide (sc.names.lookup y=ia .cell))=ig
 kY:((freeOf scope).all λy=>decide ((dB scope sc).names.lookup y=ia .cell))=ig
def js{a:kv}{b:List Nat}{xs:List Str}(h:xE N sc a kk b xs=ig):mj N sc a kk b xs:=by unfold xE at h;simp! [zza] at h;let((((((((c,d),e),f),g),i),j),k),m):=h;exact{zzy.mp c,zzy.mp d,zzY e,f,g,i,zzY j,k,m}
def qO(hN:X.N=N)(fu:X.env.scope=sc)(ok:X.Ok){a:kv}{d:List Nat}{xs:List Str}(h:mj N sc a kk d xs):fx X a xs (freeOf a) d:=by
 have e:∀y∈freeOf a,∃c,X.env.cells.lookup y=ia c:=λy b=>ok.has y (.inl (by have:=zzY (ef.mp h.kX y b);show X.env.scope.names.lookup y=_;rw [fu];exact this));refine{h.kind,gb λy b f=>?_,ef.mpr λy b=>?_,h.Ko,h.own,h.names,by rw [hN];exact h.slots,ef.mpr λy b=>?_,?_}
 .have c:=ef.mp h.Ko y b
  rw [zza,gU,gU] at c;rcases c.2 with z|z
  .exact absurd f (zzY z)
  .exact e _ (fS.mp z)
 .let(c,g):=e y b;rw [g];rfl
 .have:=zzY (ef.mp h.kX y b);refine zzh ?_;show X.env.scope.names.lookup y=_;rw [fu];exact this
 .rw [f6 fu];exact h.kY
theorem i4{x:PV}:∀{xs:List PV},aP f (xs++[x])=(aP f xs).bind λys=>(f x).well.bind λo=>.ok (ys++o.toList)
 |[]=>by
  simp! [List.nil_append,aP,Res.bind];cases(f x).well with
  |ok o=>cases o<;>rfl
  |exc c=>rfl|bad=>rfl
 |y::xs=>by
  rw [List.cons_append];simp! [aP];rw [i4 (xs:=xs)];cases(f y).well with
  |exc c=>rfl|bad=>rfl|ok o=>
   show(((aP f xs).bind λys=>(f x).well.bind λo=>.ok (ys++o.toList)).bind λys=>.ok (oc o ys))=((aP f xs).bind λys=>.ok (oc o ys)).bind λys=>(f x).well.bind λo=>.ok (ys++o.toList)
   cases aP f xs with
   |exc c=>rfl|bad=>rfl|ok zs=>
    show(((f x).well.bind λo=>.ok (zs++o.toList)).bind λys=>.ok (oc o ys))=(f x).well.bind λa=>.ok ((oc o zs)++a.toList)
    cases(f x).well with
    |exc c=>rfl|bad=>rfl|ok a=>cases o<;>rfl
theorem mO:∀{xs ys:List PV},aP f xs=.ok ys->∀i,∃zs,aP f (xs.take i)=.ok zs/\zs.length<=i
 |_,_,_,0=>{[],by simp [aP],bc _}|[],ys,h,i+1=>{[],by simp [aP],Nat.zero_le _}|x::xs,ys,h,i+1=>by
  simp! [aP] at h;let(o,a,h):=Res.aV h;let(zs,b,h):=Res.aV h;let(c,d,hl):=mO b i;refine{oc o c,?_,?_}
  .rw [List.take_succ_cons];simp! [aP];rw [a];show((aP f (xs.take i)).bind λys=>.ok (oc o ys))=_;rw [d];rfl
  .cases o with
   |none=>exact Nat.le_succ_of_le hl|some y=>exact Nat.succ_le_succ hl
def Jb{d:Type}{r:Res d}{a:d}(h:r.well=.ok a):r=.ok a:=by
 cases r with
 |ok b=>cases h;rfl
 |exc c=>cases h
 |bad=>cases h
def sW{zs:List PV}{i:Nat}{x:PV}(h:aP f xs=.ok ys)(c:xs[i]?=ia x)(hz:aP f (xs.take i)=.ok zs):∃o,f x=.ok o/\aP f (xs.take (i+1))=.ok (zs++o.toList):=by
 have e:xs.take (i+1)=xs.take i++[x]:=by rw [List.take_add_one,c];rfl
 let(d,a,_):=mO h (i+1);rw [e,i4,hz] at a;let(o,b,a):=Res.aV (show((f x).well.bind λo=>Res.ok (zs++o.toList))=.ok d from a);refine{o,Jb b,?_};rw [e,i4,hz];show((f x).well.bind λo=>Res.ok (zs++o.toList))=_;rw [b];rfl
def ve{h:St}{g:List Nat}{ys:List Str}(kk:Nat)(k:SR W H0 env h G H)(hs:g.map (λi=>N[i]?)=ys.map ia)(nd:ys.Nodup):SR W H0 (l0 kk .no++f9 env g) (l0 kk ie++CL h g) G H:=by
 have K:∀(i j:Nat) (a:Nat),g[i]?=ia a->g[j]?=ia a->i=j:=λi j a y A=>by
  have m:(ys.map ia)[i]?=ia (N[a]?):=by rw [<-hs,d0,y];rfl
  have w:(ys.map ia)[j]?=ia (N[a]?):=by rw [<-hs,d0,A];rfl
  rw [d0] at m w;let(L,B,M):=c4.mp m;let(O,C,P):=c4.mp w;have:L=O:=zzq (M.trans P.symm);subst this;exact nB nd B C
 have d:∀(j:Nat) (s:Slot),(l0 kk Slot.no++f9 env g)[j]?=ia s->(j<kk/\s=.no)\/∃a,kk<=j/\g[j-kk]?=ia a/\s=env.getD a .no:=λj s e=>by
  by_cases f:j<kk
  .rw [gR (zx6 f),List.getElem?_replicate,if_pos f] at e;cases e;exact .inl ⟨f,rfl⟩
  .rw [gS (zx6 f),List.length_replicate] at e;unfold f9 at e;rw [d0] at e;let(a,r,rfl):=c4.mp e;exact .inr {a,by omega,r,rfl}
 have val:∀(j a:Nat),kk<=j->g[j-kk]?=ia a->(l0 kk ie++CL h g)[j]?=ia ((h[a]?).join):=λj a f r=>by rw [gS (zx6 f),List.length_replicate];unfold CL;rw [d0,r];rfl
 refine{by unfold f9 CL;simp,k.sub,k.base,λj s e=>?_,λi j p q a m w D E=>?_,k.tab,k.pf}
 .rcases d j s e with⟨f,rfl⟩|⟨a,f,r,rfl⟩
  .exact{ie,by rw [gR (zx6 f),List.getElem?_replicate,if_pos f],trivial}
  .refine{_,val j a f r,?_};rw [c5];cases m:env[a]? with
   |none=>exact trivial|some s=>let(o,y,A):=k.slot a s m;rw [y];exact A
 .rcases d i _ m with⟨_,z⟩|⟨b,Q,F,t⟩
  .cases z
  rcases d j _ w with⟨_,z⟩|⟨c,f,I,u⟩
  .cases z
  rw [val i b Q F] at D;rw [val j c f I] at E;have R:env[b]?=ia (.own p):=by
   rw [c5] at t;cases e:env[b]? with
   |none=>rw [e] at t;cases t
   |some s=>rw [e] at t;exact congrArg ia t.symm
  have S:env[c]?=ia (.own q):=by
   rw [c5] at u;cases e:env[c]? with
   |none=>rw [e] at u;cases u
   |some s=>rw [e] at u;exact congrArg ia u.symm
  have B:h[b]?=ia (ia (.ref a)):=Option.join_eq_some_iff.mp (zzq D);have C:h[c]?=ia (ia (.ref a)):=Option.join_eq_some_iff.mp (zzq E);have T:=k.apart b c p q a R S B C;subst T;have:=K _ _ b F I;omega
def kU{rest g:Sl}{d:St}{k:Tg}(f:oh kk k=ig)(e:Tg.put k p (l0 kk .no++rest)=.ok g)(r:SR W H0 g d G H):SR W H0 (l0 kk .no++rest) d G H:=by
 have c:∀(j:Nat) (s:Slot),(l0 kk Slot.no++rest)[j]?=ia s->s≠.no->g[j]?=ia s:=λj s h hs=>by
  have w:¬j<kk:=λz=>by rw [gR (zx6 z),List.getElem?_replicate,if_pos z] at h;cases h;exact hs rfl
  unfold Tg.put at e;split at e
  .cases e;unfold oh at f;simp! [zzN] at f;rw [ed (by omega)];exact h
  .cases e;unfold oh at f;simp! [zza,zzN] at f;rw [ed (by omega),ed (by omega)];exact h
  .cases e
 have b:(l0 kk Slot.no++rest).length=d.length:=by
  rw [<-r.len];unfold Tg.put at e;split at e<;>first|(cases e;simp;done)|(cases e;done)
 refine{b,r.sub,r.base,λj s h=>?_,λi j p q a m o t u=>r.apart i j p q a (c i _ m nofun) (c j _ o nofun) t u,r.tab,r.pf};by_cases hs:s=.no
 .subst hs;have:j<d.length:=by rw [<-b];exact(cP.mp h).1
  exact{d[j],zzg this,trivial}
 .exact r.slot j s (c j s h hs)
variable{Γ:Pg}{F:aJ}{k:Nat}
abbrev tN(W:Wd)(F:aJ)(e:E):TE:=λd H Q=>∃b G env,SR W b env d G H/\∃p,aC F e env=.ok p/\∀v c a,aA W G H c a->Got W b c a e p v->Q v a
abbrev Ry(W:Wd)(F:aJ)(e:E):TT:=λc H Q=>∃d G env,SR W d env c G H/\∃b,aC F e env=.ok (.bl b)/\∀f a,aA W G H f a->Q b a
def yZ{e:E}(a:St)(H:Hp)(Q:VK)(h:tN W F e a H Q):tE X W F e a H Q:=by let(b,G,env,c,p,d,q):=h;exact{b,G,env,c,by rw [d];exact q}
def Ey{e:E}(a:St)(H:Hp)(Q:Bool->Hp->Prop)(h:Ry W F e a H Q):tT X W F e a H Q:=by let(b,G,env,c,p,d,q):=h;exact{b,G,env,c,by rw [d];exact⟨p,rfl,q⟩}
def fM(C:zv3 X){a:kv}{c:List Nat}{xs:List Str}(h:mj N sc a kk c xs)(fp:List i6)(d:i2)(e:Hp)(A:i6):dY Γ.EY F W (xs++freeOf a) (dB a sc) k (bV X (xs++freeOf a) a (bG X.env (freeOf a)) fp d e A):=
 {rfl,f6 C.fu,λZ=>rfl,h.nd,C.K,C.mg,C.gs,C.bs,C.room,λf b=>{(C.fns f b).ex},C.Ro,C.cls,C.xc,λq g=>{(C.uh q g).ex},λf b=>{(C.Wz f b).1,{(C.Wz f b).2.ex}},C.any,nofun,nofun,nofun}
def KS{e:E}{p:jj}(h:bo Γ N sc e p=ig)(env:Env):∀x,foldedSetIterable p env x=pure x:=by
 intro x;cases p<;>first|rfl|(cases e<;>first|(exact aY h)|(rename_i q;cases q<;>exact aY h))
def jx{c:jj}{p:jj}(h:zL Γ N sc c it p=ig)(env:Env):∀x,foldedSetIterable p env x=pure x:=by
 intro x;cases it with
 |seq e=>exact KS h env x|va e=>cases p<;>first|rfl|(exact aY h)
 |rL a b=>cases p<;>first|rfl|(exact aY h)
 |enum e=>cases p<;>first|rfl|(exact aY h)
 |zip as=>cases p<;>first|rfl|(exact aY h)
def CW(W:Wd)(H0 d e:Hp)(tM:Sl)(f:PV->Res (Option PV))(ps:List PV)(i:Nat)(ys:List V)(a:St)(c:Hp):Prop:=
 i<=ps.length/\∃b,aA W d e b c/\SR W H0 tM a b c/\∃zs,aP f (ps.take i)=.ok zs/\zs.length<=i/\ag W b zs ys
def xG(hK:W.K=X.K){u:List Nat}{D:Tg}{d:E}{ys:List Str}(cy:oh kk D=ig)(dN:iC d=ig)(hs:u.map (λi=>N[i]?)=ys.map ia)(nd:ys.Nodup)(σ:St)(H:Hp)(Q:VK)(h:tF X W F (.comp kk u D it d) σ H Q):
 Ew (tI X W F it) kk (gT X.K D) (tN W F d) u σ H Q:=by
 let(M,G,env,sr,o):=h;rw [aC] at o;refine{M,G,env,sr,o.bind.imp λm j J G1 H1 O gi=>?_};by_cases oR:¬m.length<cY
 .rw [if_neg oR] at j;exact j.elim
 have hl:=Decidable.not_not.mp oR;rw [if_pos hl] at j;generalize hf:(λx=>(D.put x (l0 kk .no++f9 env u)).bind λP=>(aC F d P).bind λy=>Res.ok (ia y))=f at j
 cases w:aP f m with
 |bad=>rw [w] at j;exact j.elim|exc c=>
  exfalso
  have:∀(l:List PV) (c:Str),aP f l≠.exc c:=λl=>by
   induction l with
   |nil=>intro c z;cases z
   |cons a l ih=>
    intro c z;simp! [aP] at z;rcases Res.dZ z with z|⟨o1,_,z⟩
    .cases e:f a with
     |ok _=>rw [e] at z;cases z
     |exc _=>rw [e] at z;cases z
     |bad=>rw [e] at z;cases z
    .rcases Res.dZ z with z|⟨o2,_,z⟩
     .exact ih c z
     .cases z
  exact this _ _ w
 |ok all=>
  rw [w] at j;let(xs,e1,R):=j;cases e1;have bI:=sr.grow O;refine{m.length,CW W M G1 H1 (l0 kk .no++f9 env u) f m,{Nat.zero_le _,G1,.refl O.sub,ve kk bI hs nd,[],rfl,bc _,.nil},?_}
  rintro i made σ' H' ⟨hi,G',A,S,zs,T,Pb,l⟩
  refine{by rw [l.length];exact el (eg Pb hi) (eo hl (by decide)),?_};let(U,V):=gi.any i G' H' A.g A.h A.sub;by_cases b:i=m.length
  .refine .inl {U b,λp hp=>?_};rw [b,List.take_length,w] at T;cases T;exact R p made G' H' (O.trans A) hp l
  .have L:i<m.length:=by omega
   let(Y,B):=V m[i] (zzg L);refine .inr {Y,L,λx mr hy=>?_};let(xm,q,rx):=B x mr hy;let(o1,s,r):=sW w (zzg L) T;rw [<-hf] at s;let(P,C,s):=Res.aV s;let(y,xZ,s):=Res.aV s;cases s;refine vU hK C (S.grow q) rx λσ2 eF=>{M,xm,P,eF,y,xZ,λv G3 H3 Z t=>?_};refine{L,G3,A.trans (q.trans Z),(kU cy C eF).grow Z,_,r,?_,?_}
   .rw [dj];show zs.length+1<=i+1;omega
   .exact(ag.same (q.trans Z).g zs l).append (.cons (t.rep dN) .nil)
def pH(hK:W.K=X.K){L:List Nat}{R:Tg}{c d:E}{ys:List Str}(cy:oh kk R=ig)(dN:iC d=ig)(hs:L.map (λi=>N[i]?)=ys.map ia)(nd:ys.Nodup)(σ:St)(H:Hp)(Q:VK)(h:tF X W F (.ei kk L R it c d) σ H Q):
 mh (tI X W F it) kk (gT X.K R) (Ry W F c) (tN W F d) L σ H Q:=by
 let(S,G,env,sr,o):=h;rw [aC] at o;refine{S,G,env,sr,o.bind.imp λs r J G1 H1 U gi=>?_};by_cases oR:¬s.length<cY
 .rw [if_neg oR] at r;exact r.elim
 have hl:=Decidable.not_not.mp oR;rw [if_pos hl] at r;generalize hf:(λx=>(R.put x (l0 kk .no++f9 env L)).bind λB=>(aC F c B).bind λt=>sy t λt=>if t then(aC F d B).bind λy=>Res.ok (ia y) else .ok ie)=f at r
 cases M:aP f s with
 |bad=>rw [M] at r;exact r.elim|exc c=>
  exfalso
  have:∀(l:List PV) (c:Str),aP f l≠.exc c:=λl=>by
   induction l with
   |nil=>intro c z;cases z
   |cons a l ih=>
    intro c z;simp! [aP] at z;rcases Res.dZ z with z|⟨o1,_,z⟩
    .cases e:f a with
     |ok _=>rw [e] at z;cases z
     |exc _=>rw [e] at z;cases z
     |bad=>rw [e] at z;cases z
    .rcases Res.dZ z with z|⟨o2,_,z⟩
     .exact ih c z
     .cases z
  exact this _ _ M
 |ok all=>
  rw [M] at r;let(xs,e1,V):=r;cases e1;have bI:=sr.grow U;refine{s.length,CW W S G1 H1 (l0 kk .no++f9 env L) f s,{Nat.zero_le _,G1,.refl U.sub,ve kk bI hs nd,[],rfl,bc _,.nil},?_}
  rintro i made σ' H' ⟨hi,G',C,Y,zs,Z,Pb,l⟩
  refine{by rw [l.length];exact el (eg Pb hi) (eo hl (by decide)),?_};let(ist,igo):=gi.any i G' H' C.g C.h C.sub;by_cases j:i=s.length
  .refine .inl {ist j,λp hp=>?_};rw [j,List.take_length,M] at Z;cases Z;exact V p made G' H' (U.trans C) hp l
  .have O:i<s.length:=by omega
   let(hgo,P):=igo s[i] (zzg O);refine .inr {hgo,O,λx mr hy=>?_};let(xm,m,rx):=P x mr hy;let(o1,u,q):=sW M (zzg O) Z;rw [<-hf] at u;let(B,w,u):=Res.aV u;let(t,ht,u):=Res.aV u
   obtain⟨b,rfl⟩:∃b,t=.bl b:=by
    cases t<;>first|exact⟨_,rfl⟩|(cases u)
   refine vU hK w (Y.grow m) rx λσ2 T=>{S,xm,B,T,b,ht,λG3 H3 A=>?_};have D:(if b=ig then(aC F d B).bind λy=>Res.ok (ia y) else .ok ie)=Res.ok o1:=u
   cases b with
   |true=>
    rw [if_pos rfl] at D;refine Ts ?_;let(y,xZ,D):=Res.aV D;cases D;refine{S,G3,B,T.grow A,y,xZ,λv G4 H4 g4 t4=>?_};refine{O,G4,C.trans (m.trans (A.trans g4)),(kU cy w T).grow (A.trans g4),_,q,?_,?_}
    .rw [dj];show zs.length+1<=i+1;omega
    .exact(ag.same (m.trans (A.trans g4)).g zs l).append (.cons (t4.rep dN) .nil)
   |false=>
    rw [if_neg zzf] at D;refine Tr ?_;cases D;refine{O,G3,C.trans (m.trans A),(kU cy w T).grow A,_,q,?_,?_}
    .rw [dj];show zs.length+0<=i+1;omega
    .show ag W G3 (zs++[]) made;rw [hW];exact ag.same (m.trans A).g zs l
def xU(C:zv3 X)(q:Γ.qt=iv){f:List Nat}{d:Tg}{b:E}{c i p:jj}{a:kv}{pos:Pos}(h:mj N sc a kk f (aF c))(r:oh kk d=ig)(t:iC b=ig)(u:GI X W F c it i)(uh:∀x,foldedSetIterable i X.env x=pure x)
 (w:iR (aF c++freeOf a) (dB a sc) (nE a) d c=ig) (he:∀Y,dY Γ.EY F W (aF c++freeOf a) (dB a sc) k Y->GE Y W F b p):GF X W F (.comp kk f d it b) (.ListComp p [{c,i,[],0}] a pos):=by
 intro y s e H Q I j;have B:(freeOf a).Nodup:=(List.nodup_append.mp h.nd).2.1;have rd:=xG (N:=N) C.K r t h.slots B e H Q j
 have:=Ig (g:=gT X.K d) (te:=tN W F b) (xs:=aF c) (ys:=freeOf a) (is:=f) (pos:=pos) (C.calm q) (qO C.hN C.fu I.ok h) u
  (λfp m o A=>DS (fn:=nE a) (X:=bV X (aF c++freeOf a) a (bG X.env (freeOf a)) fp m o A) rfl h.nd (f6 C.fu) rfl (λZ z=>z) w)
  (λfp m o A=>L2.PE.imp (he _ (fM C h fp m o A)) λe H Q z=>yZ e H Q z) uh y s e H Q I
 rw [h.len] at this;exact this rd
def pR(C:zv3 X)(t:Γ.qt=iv){m:List Nat}{j:Tg}{c b:E}{d o q r:jj}{a:kv}{pos:Pos}(h:mj N sc a kk m (aF d))(u:oh kk j=ig)(w:iC b=ig)(y:GI X W F d it o)(uh:∀x,foldedSetIterable o X.env x=pure x)
 (B:iR (aF d++freeOf a) (dB a sc) (nE a) j d=ig) (D:∀Y,dY Γ.EY F W (aF d++freeOf a) (dB a sc) k Y->GT Y W F c q) (he:∀Y,dY Γ.EY F W (aF d++freeOf a) (dB a sc) k Y->GE Y W F b r):
 GF X W F (.ei kk m j it c b) (.ListComp r [{d,o,[q],0}] a pos):=by
 intro G s e H Q I p;have L:(freeOf a).Nodup:=(List.nodup_append.mp h.nd).2.1;have rd:=pH (N:=N) C.K u w h.slots L e H Q p
 have:=AQ (g:=gT X.K j) (tt:=Ry W F c) (te:=tN W F b) (xs:=aF d) (ys:=freeOf a) (is:=m) (pos:=pos) (C.calm t) (qO C.hN C.fu I.ok h) y
  (λfp f i A=>DS (fn:=nE a) (X:=bV X (aF d++freeOf a) a (bG X.env (freeOf a)) fp f i A) rfl h.nd (f6 C.fu) rfl (λZ z=>z) B)
  (λfp f i A=>L2.PT.imp (D _ (fM C h fp f i A)) λe H Q z=>Ey e H Q z)
  (λfp f i A=>L2.PE.imp (he _ (fM C h fp f i A)) λe H Q z=>yZ e H Q z) uh G s e H Q I
 rw [h.len] at this;exact this rd
variable{Z:mn}
mutual
theorem Rep.less(zs:∀b o,Z.lookup b=ia o->G b=ia (.bq o bA)):∀(p:PV) {v:V},Rep W G p v->Rep W (aO Z G) p v
 |.aG,_,h=>by simpa only [Rep] using h|.bl b,_,h=>by simpa only [Rep] using h|.int i,_,h=>by simpa only [Rep] using h|.str z,_,h=>by simpa only [Rep] using h|.tup xs,_,h=>by
  simp! [Rep] at h⊢;let(a,vs,e,q,l):=h
  refine{a,vs,e,?_,ag.less zs xs l};rcases q with q|⟨(q|⟨o,q⟩)|q,z⟩
  .cases y:Z.lookup a with
   |none=>exact .inl (by rw [ax y];exact q)|some d=>rw [zs a d y] at q;cases q
  .cases y:Z.lookup a with
   |none=>exact .inl (by rw [ax y];exact q)|some d=>rw [zs a d y] at q;cases q
  .cases y:Z.lookup a with
   |none=>exact .inr {.inl (.inr {o,by rw [ax y];exact q}),z}|some d=>rw [zs a d y] at q;cases q
  .exact .inr {.inr q,z}
 |.lst xs,_,h=>by
  simp! [Rep] at h⊢;let(a,vs,e,q,l):=h
  refine{a,vs,e,?_,ag.less zs xs l};rcases q with(q|⟨o,q⟩)|q
  .cases y:Z.lookup a with
   |none=>exact .inl (.inl (by rw [ax y];exact q))|some d=>rw [zs a d y] at q;cases q
  .cases y:Z.lookup a with
   |none=>exact .inl (.inr {o,by rw [ax y];exact q})|some d=>rw [zs a d y] at q;cases q
  .exact .inr q
 |.exc c,_,h=>by
  simp! [Rep] at h⊢;let(a,C,e,x,m,q):=h
  cases y:Z.lookup a with
  |none=>exact{a,C,e,x,m,by rw [ax y];exact q}|some d=>rw [zs a d y] at q;unfold OH at q;cases q
 |.bC g vs,_,h=>by
  simp! [Rep] at h⊢;let(a,o,f,e,n,m,l):=h
  refine{a,o,f,e,n,?_,ag.less zs vs l};cases y:Z.lookup a with
  |none=>rw [ax y];exact m|some d=>rw [zs a d y] at m;cases m
theorem ag.less(zs:∀b o,Z.lookup b=ia o->G b=ia (.bq o bA)):∀(ps:List PV) {vs:List V},ag W G ps vs->ag W (aO Z G) ps vs
 |[],_,h=>by simpa only [ag] using h|p::ps,_,h=>by simp! [ag] at h⊢;let(v,r,e,a,c):=h;exact{v,r,e,Rep.less zs p a,ag.less zs ps c}
end
theorem j8(t:cH W G H)(sg:az G H)(zs:∀b o,Z.lookup b=ia o->G b=ia (.bq o bA))(zc:∀b o,Z.lookup b=ia o->∃v,o.data=.cell v):cH W (aO Z G) (aO Z H):=λP q m=>by
 let(n,h,e,i,j):=t P q m;refine{i9 n,h,?_,i,λc p y=>?_}
 .cases y:Z.lookup P with
  |none=>rw [ax y];exact e|some o=>rw [sg _ _ (zs P o y)] at e;cases e
 .let(a,oc,r,s,u,d,f,w):=j c p y
  refine{a,oc,r,s,u,?_,f,w};cases y:Z.lookup a with
  |none=>rw [ax y];exact d|some o=>rw [zs a o y] at d;cases d;let(v,g):=zc a _ y;rw [f] at g;cases g
theorem aA.wz{p c:Hp}(g:aA W (aO Z G) (aO Z H) p c)(sg:az G H)(zs:∀b o,Z.lookup b=ia o->G b=ia (.bq o bA))(zc:∀b o,Z.lookup b=ia o->∃v,o.data=.cell v)(d:∀b o,Z.lookup b=ia o->c b=ie):aA W G H (aK Z p) (aK Z c) where
 g:=λb u e=>by
  cases y:Z.lookup b with
  |none=>rw [af y];exact g.g _ _ (by rw [ax y];exact e)|some o=>rw [ba y];rw [zs b o y] at e;exact e
 h:=λb u e=>by
  cases y:Z.lookup b with
  |none=>rw [af y];exact g.h _ _ (by rw [ax y];exact e)|some o=>rw [sg _ _ (zs b o y)] at e;cases e;exact .inl {(λY z=>nomatch z),ba y}
 sub:=λb u e=>by
  cases y:Z.lookup b with
  |none=>rw [af y] at e⊢;exact g.sub _ _ e|some o=>rw [ba y] at e⊢;exact e
 own:=λa s w f=>by
  cases y:Z.lookup a with
  |none=>rw [af y];exact g.own a (by rw [ax y];exact s) (by rw [ax y];exact w) (by rw [ax y];exact f)|some o=>rw [zs a o y] at f;cases f
 tab:=λt P q m=>by
  let(n,A,e,B,C):=g.tab (j8 t sg zs zc) P q m;refine{?_,A,?_,B,λi D y=>?_}
  .cases y:Z.lookup P with
   |none=>rw [af y];exact n|some o=>rw [d P o y] at e;cases e
  .cases y:Z.lookup P with
   |none=>rw [af y];exact e|some o=>rw [d P o y] at e;cases e
  .let(j,oc,E,I,K,r,L,M):=C i D y
   refine{j,oc,E,I,K,?_,L,M};cases y:Z.lookup j with
   |none=>rw [af y];exact r|some o=>have:=g.sub _ _ r;rw [d j o y] at this;cases this
theorem vq(t:cH W G H)(sg:az G H)(a:∀b o,Z.lookup b=ia o->H b=ie):cH W (aK Z G) (aK Z H):=λP q m=>by
 let(n,g,e,h,i):=t P q m;refine{?_,g,?_,h,λc j y=>?_}
 .cases y:Z.lookup P with
  |none=>rw [af y];exact n|some o=>rw [a P o y] at e;cases e
 .cases y:Z.lookup P with
  |none=>rw [af y];exact e|some o=>rw [a P o y] at e;cases e
 .let(d,oc,p,r,s,f,u,w):=i c j y
  refine{d,oc,p,r,s,?_,u,w};cases y:Z.lookup d with
  |none=>rw [af y];exact f|some o=>have:=sg _ _ f;rw [a d o y] at this;cases this
theorem aA.lz{d f:Hp}(g:aA W (aK Z G) (aK Z H) d f)(sg:az G H)(zc:∀b o,Z.lookup b=ia o->∃v,o.data=.cell v)(c:∀b o,Z.lookup b=ia o->H b=ie):aA W G H (aO Z d) (aO Z f) where
 g:=λb u e=>by
  cases y:Z.lookup b with
  |none=>rw [ax y];exact g.g _ _ (by rw [af y];exact e)|some o=>have:=sg _ _ e;rw [c b o y] at this;cases this
 h:=λb u e=>by
  cases y:Z.lookup b with
  |none=>rw [ax y];exact g.h _ _ (by rw [af y];exact e)|some o=>rw [c b o y] at e;cases e
 sub:=λb u e=>by let(q,i):=fb e;rw [ax q];exact g.sub _ _ i
 own:=λa j m p=>by
  cases y:Z.lookup a with
  |none=>rw [ax y];exact g.own a (by rw [af y];exact j) (by rw [af y];exact m) (by rw [af y];exact p)|some o=>exact e9 y
 tab:=λt=>j8 (g.tab (vq t sg c)) g.sub (λb o q=>g.g _ _ (ba q)) zc
def AZ(sg:az G H):az (aK Z G) (aK Z H):=λb u e=>by
 cases y:Z.lookup b with
 |none=>rw [af y] at e⊢;exact sg _ _ e|some o=>rw [ba y] at e⊢;exact e
theorem wR{a c:Hp}(s:az a c)(d:∀b o,Z.lookup b=ia o->c b=ie):az a (aK Z a):=λb u e=>by
 cases y:Z.lookup b with
 |none=>rw [af y];exact e|some o=>have:=s _ _ e;rw [d b o y] at this;cases this
def vw(zs:∀b o,Z.lookup b=ia o->H b=ia (.bq o bA)):aK Z (aO Z H)=H:=by
 funext b
 cases y:Z.lookup b with
 |none=>rw [af y,ax y]|some o=>rw [ba y,zs b o y]
def hX(zs:∀b o,Z.lookup b=ia o->H b=ie):aO Z (aK Z H)=H:=by
 funext b
 cases y:Z.lookup b with
 |none=>rw [ax y,af y]|some o=>rw [e9 y,zs b o y]
theorem CG(k:eL P w H h)(zs:∀b o,Z.lookup b=ia o->H b=ia (.bq o bA)):eL P w (aO Z H) h:=λb v e=>by
 let(q,a):=fb e;refine(k b v a).fe (λc y Y r=>r) (λc r=>?_) λc xs r=>?_
 .cases y:Z.lookup c with
  |none=>rw [ax y];exact r|some o=>rw [zs c o y] at r;cases r
 .cases y:Z.lookup c with
  |none=>rw [ax y];exact r|some o=>rw [zs c o y] at r;cases r
def zV{K:zz8}{s:i2}(e:iV P w K mg base A outer s H)(zs:∀b o,Z.lookup b=ia o->H b=ia (.bq o bA)):iV P w K mg base A outer s (aO Z H):=
 {e.frames,e.mod,λb o q=>{(e.bs b o q).1,i9 (e.bs b o q).2},e.zv,e.gE,λb a=>i9 (e.zX b a),CG e.aM zs,e.bare}
def Ee{ps:List Str}{a:kv}(h:Ru ps a=ig):mw ps (aQ a) a:=by unfold Ru at h;simp! [zza,zzy,Bool.not_eq_true',zzN,ef] at h;let((((((b,c),d),e),f),g),i):=h;refine{b,c,d,e,f,g,i,λx j=>?_};unfold aQ;rw [List.mem_reverse,hG];exact{(x,.free),List.mem_filter.mpr {PySem.mem_of_lookup j,rfl},rfl}
def qG{b:lq}{ps:List Str}{c:kv}{cl:List (Str×i6)}{d e ct:i1}(h:oH b=ia ps)(us:List i1)(hl:us.length=ps.length):bindArgs (PySem.W.kla_fn (zu 1) qual b body c cl d e ct) {us,[]}=pure (ps.zip us):=by
 rcases xu h with⟨rfl,rfl⟩|⟨a,rfl,rfl⟩
 .match us,hl with
  |[],_=>rfl
 .match us,hl with
  |[u],_=>simp [bindArgs,seqItems?,PySem.W.kla_fn];rfl
def Gn{b:lq}{ps:List Str}{env:Env}(h:oH b=ia ps):defaultsOf b env=([],[]):=by
 rcases xu h with⟨rfl,rfl⟩|⟨a,rfl,rfl⟩
 .rfl
 .rfl
theorem gP{l:List PV}(c:Str):∀{idx:List Nat},fm l idx≠.exc c
 |[]=>nofun|i::idx=>λz=>by
  unfold fm at z;rcases Res.dZ z with z|⟨p,_,z⟩
  .unfold atC at z;split at z;exact Res.aD c z;cases z
  .rcases Res.dZ z with z|⟨ps,_,z⟩
   .exact gP c z
   .cases z
end
abbrev ND(i:Nat):E:=if Jo i=1 then .tup (.cons (.cst (.str (Ou i))) .nil) else .bin .mul (.tup (.cons (.cst (.str (Ou i))) .nil)) (.cst (.int (Jo i)))
abbrev zq(i:Nat):E:=if i<10000 then .var i else ND i
abbrev qR:List Nat->Es
 |[]=>.nil|i::r=>.cons (zq i) (qR r)
def Gy(i:Nat):iC (zq i)=ig:=by
 unfold zq ND;split
 .rfl
 .split<;>rfl
theorem xM:∀idx:List Nat,fO (qR idx)=ig
 |[]=>rfl|i::r=>by unfold qR fO;rw [Gy,xM r];rfl
theorem tU{b:Type}{a:b}:∀n:Nat,(l0 n [a]).flatten=l0 n a
 |0=>rfl|n+1=>by rw [List.replicate_succ,List.flatten_cons,tU n];rfl
def Kl{F:aJ}{i:Nat}(h:NC i e=ig):aC F (ND i) env=.ok (Km i):=by
 unfold NC at h;unfold ND Km;by_cases a:Jo i=1
 .rw [if_pos a,a];simp! [aC,bZ,Res.bind];rfl
 .rw [if_neg a] at h⊢;simp! [zza,zzN] at h;simp! [aC,bZ,Res.bind,binOp];rw [if_pos {by omega,by omega,by simp,by simp},hU,tU]
theorem xN{F:aJ}{l:List PV}:∀{as:List jj} {idx:List Nat} {qs:List PV},iQ N as idx=ig->fm l idx=.ok qs->bZ F (qR idx) (l.map .val)=.ok qs
 |[],[],qs,_,h=>by cases h;unfold qR;rw [bZ]
 |a::as,i::idx,qs,c,h=>by
  unfold iQ at c;rw [zza] at c;unfold fm at h;let(p,b,h):=Res.aV h;let(j,f,h):=Res.aV h
  cases h;unfold qR;rw [bZ];have g:aC F (zq i) (l.map .val)=.ok p:=by
   unfold zq;have d:=c.1;unfold BL at d;unfold atC at b;by_cases e:i<10000
   .rw [if_pos e] at b⊢;have:=Res.of_ok b;rw [aC,d0,this];rfl
   .rw [if_neg e] at b d⊢;cases b;exact Kl d
  rw [g];show(bZ F (qR idx) (l.map .val)).bind _=_;rw [xN c.2 f];rfl
 |[],_::_,_,h,_=>aY h|_::_,[],_,h,_=>aY h
def mG{a:jj}{i:Nat}(h:BL N i a=ig)(as:List jj)(env:Env):starEach (a::as) env=(iv,eval a env)::starEach as env:=by
 unfold BL at h;split at h
 .let(x,e,_):=ah h;let(p,rfl):=bR e;rfl
 .unfold NC at h;split at h
  .let(_,_,_,_,rfl):=vS (zzy.mp h);rfl
  .rw [zza] at h;let(_,_,_,_,_,_,_,rfl):=xD (zzy.mp h.2);rfl
theorem pg{env:Env}:∀{as:List jj} {idx:List Nat} {pos:Pos},iQ N as idx=ig->(backTo pos (starEach as env)).any (·.1)=iv
 |[],_,_,_=>rfl|a::as,[],_,h=>aY h|a::as,i::idx,pos,h=>by unfold iQ at h;rw [zza] at h;rw [mG h.1];show(iv||(backTo pos (starEach as env)).any (·.1))=iv;rw [pg h.2];rfl
def OM{W:Wd}{F:aJ}(hK:W.K=X.K){i:Nat}{a:jj}(h:NC i a=ig):GE X W F (ND i) a:=by
 unfold NC at h;unfold ND;split at h
 .rename_i b;rw [if_pos b];let(_,_,_,_,rfl):=vS (zzy.mp h);exact vV rfl (show 1<1000 by decide) (jW (eW rE λG=>.s) qX rfl)
 .rename_i b;rw [if_neg b];rw [zza] at h;let(_,_,_,_,_,_,_,rfl):=xD (zzy.mp h.2);exact xS (o:=.mul) hK (vV rfl (show 1<1000 by decide) (jW (eW rE λG=>.s) qX rfl)) (eW rD λG=>.i)
theorem qW{W:Wd}{F:aJ}(hK:W.K=X.K)(d:∀(i:Nat) (x:Str),X.N[i]?=ia x->NA X.env.scope x):∀{as:List jj} {idx:List Nat},iQ X.N as idx=ig->GA X W F (qR idx) as
 |[],[],_=>qX|a::as,i::idx,h=>by
  unfold iQ at h;rw [zza] at h;have hs:=mG h.1 as X.env;have b:=h.1;unfold BL at b;unfold qR zq;by_cases f:i<10000
  .rw [if_pos f] at b⊢;let(x,e,c):=ah b;let(p,rfl):=bR e;rw [zza,zzy] at c;exact jW (xT c.1 (d i x c.1) c.2) (qW hK d h.2) hs
  .rw [if_neg f] at b⊢;exact jW (OM hK b) (qW hK d h.2) hs
 |[],_::_,h=>aY h|_::_,[],h=>aY h
def IL{W:Wd}{as:List PV}(sg:az G H)(tb:cH W G H)(l:ag W G as vs):SR W H (as.map .val) (vs.map ia) G H:=by
 refine{by rw [zzl,zzl];exact l.length.symm,sg,iP.refl _,λi s e=>?_,λi j p q a b Z Z Z=>?_,tb,tb}
 .rw [d0] at e;let(p,c,rfl):=c4.mp e;let(v,d,f):=l.qY c;exact{ia v,by rw [d0,d];rfl,v,rfl,f}
 .rw [d0] at b;let(p,c,e):=c4.mp b;cases e
section
variable{Γ:Pg}{W:Wd}{F:aJ}{sc:kv}{k:Nat}
def yl{c:lq}{b:kv}(h:Hn g idx c body b=ig):∃ps a as np pos,oH c=ia ps/\idx.head?=ia ps.length/\body=.Call (.Name g np) (a::as) [] pos/\b.names.lookup g=ia .globalImplicit/\okN g=ig/\ik g=iv/\iQ (ps++aQ b) (a::as) idx.tail=ig/\mw ps (aQ b) b:=by
 let(ps,i,h):=DE h;let((f,args,j,pos),m,h):=DE h;simp! [zza,zzy,Bool.not_eq_true',zzN] at h;let((((((((o,p),q),r),s),t),u),w),y):=h;let(np,d):=bR o;have e:=List.isEmpty_iff.1 p
 try dsimp only at d e
 subst d e;cases args with
 |nil=>cases q
 |cons a as=>exact{ps,a,as,np,pos,i,r,i3 m,s,t,u,w,Ee y}
def xC(C:zv3 X){cI as qs:List PV}{f:i6}{aa:mn}{G:Hp}{s:i2}{Q:VK}{vs:List V}
 (I:zv2 s) (sg:az G H) (tb:cH W G H) (cr:qx W G g idx cI (.ref f)) (l:ag W G as vs) (r:Vals vs us) (hn:idx.head?=ia as.length) (hq:fm (as++cI) idx.tail=.ok qs)
 (o:Out X W (F g qs) σ G H λp=>dG W G H p Q):zx7 X (call (.ref f) us) (EP X aa σ Q) X.xe s:=by
 let(f',c',oc,cU,t,eT,pm,params,body,h,j,cl,Z,ws,e,d):=cr;cases e;let(ps,a,as',np,pos,M,e0,rfl,e2,e3,e4,e5,S):=yl d.lg;have CF:F g qs≠.bad:=λz=>by rw [z] at o;exact o
 have D:as.length=ps.length:=zzq (hn.symm.trans e0);have T:∀b o,Z.lookup b=ia o->H b=ia (.bq o bA):=λb o q=>sg _ _ (d.zs b o q);have Xe:aK Z (aO Z H)=H:=vw T;have Bh:sL Z (aO Z H) (ft X.stack) s.heap:={λb o q=>(I.aM b _ (T b o q)).1,λb o q=>e9 q,λb o q hb=>by have:=I.me b hb;rw [T b o q] at this;cases this};have rl:ag W (aO Z G) (as++cI) (vs++ws):=(ag.less d.zs as l).append d.rep
 have uh:Γ.fs.contains g=ig:=by
  rcases C.any g qs CF with z|z
  .exact z
  .rw [e4] at z;cases z
 let(fa,fd,pn,FO,hm,hk,hb,hal):=(C.fns g uh).ex;have Yt:az (aO Z G) (aO Z H):=qi sg
 refine wpAny_call (codeAny_mono (L2.rh (E:=λCv ao L=>∃c,F g qs=.exc c/\XE W c G H Cv ao L) (Q:=Q) (Z:=Z) (ws:=ws) (vs:=vs) (t:=λU H1 Q1=>H1=aO Z H/\U=vs.map ia++ws.map ia/\∀u Y,(match F g qs with
  |.ok p=>∃G3,aA W (aO Z G) (aO Z H) G3 Y/\Rep W G3 p u|_=>False)->Q1 u Y) S C.room (zV I.tM T) Bh ?zb (I.aM _ _ (sg _ _ d.fo)).1 (I.aM _ _ (sg _ _ d.co)).1 d.cd d.cn (qG M us (by rw [<-r.length,l.length,D])) r (by rw [l.length,D]) d.len d.has d.inj d.cells ?cells ?ht ?hq) λrr s' m=>?end_)
 case zb=>
  intro b o q;cases y:X.base.get? b with
  |none=>rfl|some o'=>have:=(I.bs b o' y).2;rw [T b o q] at this;cases this
 case cells=>intro i y c h1 h2 v R;let(u,o',q1,q2,q3):=d.vals i y c h1 h2 v R;exact{u,q1,o',Bh.at_ c o' q2,q3}
 case hq=>
  refine{rfl,rfl,λu Y R zn=>?_}
  .cases z:F g qs with
   |ok p=>rw [z] at R o;let(G3,g3,r3):=R;exact o u _ _ (g3.wz sg d.zs d.zc zn) (Rep.same (wR g3.sub zn) p r3)|exc c=>rw [z] at R;exact R.elim|bad=>exact absurd z CF
 case ht=>
  intro yE s1 U H1 Q1 I1 h1;let(rfl,rfl,q2):=h1;have Yv:=IL Yt (j8 tb sg d.zs d.zc) rl;have O:=e5
  cases hi:idx.tail with
  |nil=>rw [hi] at O;exact aY O|cons i0 idx'=>
  rw [hi] at O;unfold iQ at O;rw [zza] at O;refine wpAny_Call_Name_kw (iF (X:=Ft X.prog X.w X.K X.mg X.base (ps++aQ h) j h f (.ref c') cl X.A X.stack s (aO Z H) _) I1 e2 hm ?_ (dH e3).1);refine PySem.W.callWith_K (h₀:=X.base) I.ok.mod.Pl hk (bL (qW (F:=F) (X:=Ft X.prog X.w X.K X.mg X.base (ps++aQ h) j h f (.ref c') cl X.A X.stack s (aO Z H) _) C.K (λi x hx=>?_) e5 pos yE s1 _ (aO Z H) (λQr H2=>∃G2,aA W (aO Z G) (aO Z H) G2 H2/\ag W G2 qs Qr) I1 {aO Z H,aO Z G,(as++cI).map .val,(by rw [<-List.map_append];exact Yv),?_}) λus2 s2 ⟨Qr,H2,I2,r2,G2,g2,ry⟩=>{I2.uA,?_}) (mG O.1 _ _) (pg O.2)
  .rcases List.mem_append.mp (a9 hx) with z|z
   .exact .inl (S.par x z)
   .exact .inr (.inr (S.OJ x z))
  .rw [xN e5 hq];exact λQr G1 H1 g1 t1=>{G1,g1,t1.rep (xM _)}
  .refine mK (X:=Ft X.prog X.w X.K X.mg X.base (ps++aQ h) j h f (.ref c') cl X.A X.stack s (aO Z H) _) (q:=ie) (as:=qs) (G:=G2) (C.room.deeper _) FO hb (λz=>by rw [ry.length];exact hal qs z) I2 g2.sub (g2.tab (j8 tb sg d.zs d.zc)) ry r2 ?_;cases z:F g qs with
   |ok p=>rw [z] at q2;exact λv G' L g' rp=>q2 v L {G',g2.trans g',rp}|exc c=>intro P G3 Y s3 e s' I3 g3 x3;refine PK P _ Y s3 e s' I3 (E8.imp x3 λCv ao L y zn=>?_);let(C4,a4,G4,y1,y2,y3,y4,y5):=y;exact{c,rfl,C4,a4,_,y1,y2,y3,y4,((g2.trans g3).trans y5).wz sg d.zs d.zc zn}|bad=>exact absurd z CF
 case end_=>
  rw [Xe] at m;cases rr with
  |error e=>
   have m:eK X.prog X.w X.stack H s (λCv ao L=>∃c,F g qs=.exc c/\XE W c G H Cv ao L) e s':=m
   cases z:F g qs with
   |ok q=>let(a,C',t,vs,L,B,rfl,Fl):=m;let(c,M,_):=Fl.ends;rw [z] at M;cases M
   |exc c=>rw [z] at o;refine o aa G H s e s' I (.refl sg) (E8.imp m λC1 a L y=>?_);let(c',M,y):=y;rw [z] at M;cases M;exact y
   |bad=>exact absurd z CF
  |ok fl=>
   cases fl with
   |ret u=>exact I.after m|next=>exact fA m|brk=>exact fA m|cont=>exact fA m
def Co(C:zv3 X){i:Nat}{e:E}{K:Es}{p:jj}{ps:List jj}(h:(N[i]?==ia x&&fk sc x&&okN x)=ig)(Ag:fO (.cons e K)=ig)(ha:GA X W F (.cons e K) (p::ps))
 (eh:starEach (p::ps) X.env=(iv,eval p X.env)::starEach ps X.env) (hpl:(backTo pos (starEach ps X.env)).any (·.1)=iv):GE X W F (.jo i (.cons e K)) (.Call (.Name x np) (p::ps) [] pos):=by
 simp! [zza,zzy] at h;let(h1,h2,h3):=dH h.2;intro Y s D H Q I z;let(H0,G,env,L,o):=z
 rw [aC] at o;cases j:env[i]? with
 |none=>rw [j] at o;exact o.elim|some sl=>
  cases sl with
  |no=>rw [j] at o;exact o.elim|val _=>rw [j] at o;exact o.elim|own _=>rw [j] at o;exact o.elim|Fp _=>rw [j] at o;exact o.elim|fn g idx M=>
   rw [j] at o;let(o2,hs,v,rfl,cr):=L.slot i _ j;have Su:=cr;let(f,c',oc,cU,t,eT,pm,a,body,m,B,cl,Z,ws,e2,d):=Su;subst e2;refine wpAny_Call_Name_kw (wpAny_mono (dR (i:=i) (by rw [C.hN];exact h.1.1) (ox C h.1.2) h1 h2 Y s D H (λv' O=>v'=.ref f/\O=H) I {_,hs,rfl,rfl}) (λu s1 hu=>?_) λ_ _ y=>y);let(v',O,I1,ru,rfl,rfl):=hu;cases ru;refine PySem.W.callWith_F {_,_,_,_,(I1.aM _ _ (L.sub _ _ d.fo)).1} (bL (ha pos Y s1 D O (λP w=>∃b as qs,az b w/\cH W b w/\ag W b as P/\qx W b g idx M (.ref f)/\b f=ia (.bq (PySem.W.kla_obj (zu 1) B a body m cl pm c' eT) bA)/\idx.head?=ia as.length/\fm (as++M) idx.tail=.ok qs/\Out X W (F g qs) D b w λp=>dG W b w p Q) I1 ?_) λus s2 ⟨P,w,I2,r,q⟩=>?_) eh hpl
   .refine args L o λas P G1 w R t1 bI A=>?_;split at A
    .rename_i S;cases z:fm (as++M) idx.tail with
     |ok qs=>rw [z] at A;have uR:Out X W (F g qs) D G1 w _:=A;exact{G1,as,qs,bI.sub,bI.tab,t1.rep Ag,cr.same R.g,R.g _ _ d.fo,S,z,uR.imp λp hp v G' H' g' rp=>hp v G' H' (R.trans g') (.of rp)}|exc c=>exact absurd z (gP c)|bad=>rw [z] at A;exact A.elim
    .exact A.elim
   .let(b,as,qs,sg,tb,l,T,U,S,V,o2):=q;exact{{_,_,_,_,(I2.aM _ _ (sg _ _ U)).1},xC C I2 sg tb T l r S V o2}
def z9(C:zv3 X){i:Nat}(h:(N[i]?==ia x&&fk sc x&&okN x)=ig):GE X W F (.jo i .nil) (.Call (.Name x np) [] [] pos):=by
 simp! [zza,zzy] at h;let(E,K,h3):=dH h.2;intro L s q H Q I b;let(H0,G,env,e,o):=b
 rw [aC] at o;cases a:env[i]? with
 |none=>rw [a] at o;exact o.elim|some M=>
  cases M with
  |no=>rw [a] at o;exact o.elim|val _=>rw [a] at o;exact o.elim|own _=>rw [a] at o;exact o.elim|Fp _=>rw [a] at o;exact o.elim|fn g idx w=>
   rw [a] at o;let(o2,hs,v,rfl,z):=e.slot i _ a;have O:=z;let(f,c',oc,cU,t,eT,pm,j,body,r,A,cl,Z,ws,P,d):=O;subst P;refine wpAny_Call_Name_kw (wpAny_mono (dR (i:=i) (by rw [C.hN];exact h.1.1) (ox C h.1.2) E K L s q H (λB m=>B=.ref f/\m=H) I {_,hs,rfl,rfl}) (λu s1 R=>?_) λ_ _ y=>y);let(B,m,D,S,rfl,rfl):=R;cases S;refine PySem.W.callWith_F0 {_,_,_,_,(D.aM _ _ (e.sub _ _ d.fo)).1} ?_;rw [bZ] at o;have o:Out X W (if idx.head?=ia 0 then(fm ([]++w) idx.tail).bind λqs=>F g qs else .bad) q G m _:=o;split at o
   .rename_i T;cases b:fm ([]++w) idx.tail with
    |ok qs=>rw [b] at o;have U:Out X W (F g qs) q G m _:=o;exact xC C D e.sub e.tab z (show ag W G [] [] from .nil) .nil T b (U.imp λp V v Y H' g' rp=>V v Y H' g' (.of rp))|exc c=>exact absurd b (gP c)|bad=>rw [b] at o;exact o.elim
   .exact o.elim
def lQ(X:Cx)(W:Wd)(a:lq)(body:jj)(b:kv)(cl:List (Str×i6))(g h c i:Hp)(f:i6):Prop:=aA W g h c i/\∃d oc e t j m,c f=ia (.bq (PySem.W.kla_obj (zu 1) (X.env.qual++(zu 1)) a body b cl m d j) bA)/\c d=ia (.bq oc bA)/\oc.data=.fields e/\e[1]?=ia (.str (X.env.qual++(zu 1)) t)
def wM(C:zv3 X)(hl:Γ.hl=ig){d:lq}{ps:List Str}{g:kv}{cl:List (Str×i6)}(hp:oH d=ia ps)(Bm:closureFor g X.env=pure cl):
 PE X (.Lambda d body g pos) (λσ H Q=>∃G,az G H/\cH W G H/\∀f G2 H2,lQ X W d body g cl G H G2 H2 f->Q (.ref f) H2):=by
 intro aa s σ H Q I h;let(G,sg,tb,q):=h;let(c,P,xW,CH,Z,huq):=C.tb hl;let(nG,oj,hP,tr,al):=tb P _ Z;refine L2.De (R:=λi oc=>G i=ia (.bq oc bA)) I hP tr xW CH (C.bm hl) Bm (Gn hp) (λD e=>?_) λf i oc S t eT uY h' tk T U ET XH Xz hd hv YE W8 more I'=>?_
 .let(i,oc,S,t,E,r,K,L):=al pos D e;exact{i,oc,S,t,E,sg _ _ r,r,K,L}
 .have Xl:G f=ie:=sg.free T
  have Xk:G i=ie\/G i=ia (.bq oc bA):=by
   rcases U with z|z
   .exact .inl (sg.free z)
   .exact .inr z.2
  have fo:∀fo,hJ H P uY i oc f fo f=ia (.bq fo bA):=λfo=>by unfold hJ;rw [ak]
  have sG:∀fo,az G (upd (upd G i (.bq oc bA)) f (.bq fo bA)):=λfo b u e=>by
   have A:b≠f:=λz=>by rw [z,Xl] at e;cases e
   rw [ae A];by_cases w:b=i
   .subst w;rw [ak];rcases Xk with z|z
    .rw [z] at e;cases e
    .rw [z] at e;exact e
   .rw [ae w];exact e
  have Ub:∀fo a,H a≠ie->(∀vs,H a≠ia (.tup vs))->G a=ie->(upd (upd G i (.bq oc bA)) f (.bq fo bA)) a=ie:=λfo a h1 _ h2=>by
   have Xu:a≠f:=λz=>h1 (by rw [z];exact T);rw [ae Xu];by_cases ha:a=i
   .subst ha;rcases U with z|z
    .exact absurd z h1
    .rw [z.2] at h2;cases h2
   .rw [ae ha];exact h2
  refine{.ref f,_,I',rfl,q f (upd (upd G i (.bq oc bA)) f (.bq _ bA)) _ {{sG _,λb u e=>?_,λb u e=>?_,Ub _,λ_ V q' m=>?_},i,oc,S,t,eT,(X.mg (zu 40)).getD .none,ak,by rw [ae ET,ak],hd,hv}}
  .have A:b≠f:=λz=>by rw [z,T] at e;cases e
   by_cases Y:b=P
   .subst Y;rw [hP] at e;cases e;let(m,rfl):=more;exact .inr {oj,m,rfl,by unfold hJ;rw [ae (Ne.symm XH),ae (Ne.symm Xz),ak]}
   .have r:hJ H P uY i oc f (PySem.W.kla_obj (zu 1) (X.env.qual++(zu 1)) d body g cl ((X.mg (zu 40)).getD .none) i eT) b=H b:=by
     unfold hJ;rw [ae A];by_cases w:b=i
     .subst w;rw [ak];rcases U with z|z
      .rw [z] at e;cases e
      .rw [z.1]
     .rw [ae w,ae Y]
    rw [r];exact iP.refl H b u e
  .by_cases A:b=f
   .subst A;rw [ak] at e;rw [fo];exact e
   .rw [ae A] at e;unfold hJ;rw [ae A];by_cases w:b=i
    .subst w;rw [ak] at e⊢;exact e
    .rw [ae w] at e⊢;have Y:b≠P:=λz=>by rw [z,nG] at e;cases e
     rw [ae Y];exact sg _ _ e
  .let(n1,qs,p,tr1,M):=tb V q' m;have SW:V≠f:=λz=>by rw [z,T] at p;cases p
   have fT:V≠i:=λz=>by
    rcases U with y|y
    .rw [z,y] at p;cases p
    .rw [z,y.1] at p;cases p
   refine{by rw [ae SW,ae fT];exact n1,?_};by_cases O:V=P
   .subst O;rw [hP] at p;cases p;refine{uY,by unfold hJ;rw [ae SW,ae fT,ak],YE,λj D y=>?_}
    rcases W8 j D y with y|y
    .let(c2,B,o,t2,E,r,K,L):=M j D y;exact{c2,B,o,t2,E,sG _ _ _ r,K,L}
    .exact{i,oc,S,t,y,by rw [ae ET,ak],hd,by rw [huq q' m];exact hv}
   .refine{qs,by unfold hJ;rw [ae SW,ae fT,ae O];exact p,tr1,λj D y=>?_};let(c2,B,o,t2,E,r,K,L):=M j D y;exact{c2,B,o,t2,E,sG _ _ _ r,K,L}
structure By(N:List Str)(sc:kv)(g:Str)(idx aZ:List Nat)(params:lq)(body:jj)(scope:kv):Prop where
 lb:Hn g idx params body scope=ig
 cn:aZ.map (λi=>N[i]?)=(aQ scope).map ia
 cc:∀y∈aQ scope,sc.names.lookup y=ia .cell
abbrev Qe(X:Cx)(W:Wd)(F:aJ)(N:List Str)(sc:kv)(g:Str)(idx j:List Nat)(m:Es):TA:=λd H Q=>∃o G env,SR W o env d G H/\Out X W (bZ F m env) d G H λas=>∀e c h,aA W G H c h->ag W c as e->∀b body a f p i,By N sc g idx j b body a->lQ X W b body a (bG X.env (aQ a)) c h p i f->Q (e++[.ref f]) i
def Dd(C:zv3 X)(ok:X.Ok){d:List Nat}{c:lq}{b:kv}(a:By N sc g idx d c body b):closureFor b X.env=pure (bG X.env (aQ b)):=by refine gb λy e f=>ok.has y.1 (.inl ?_);show X.env.scope.names.lookup y.1=_;rw [C.fu];refine a.cc y.1 ?_;unfold aQ;rw [List.mem_reverse,hG];exact{y,List.mem_filter.mpr {e,by rw [f];rfl},rfl}
def Ib(C:zv3 X)(hl:Γ.hl=ig){i:List Nat}{b:lq}{c:kv}(a:By N sc g idx i b body c):PA X [.Lambda b body c pos] (Qe X W F N sc g idx i .nil):=by let(u,_,_,_,_,j,_):=yl a.lb;intro d p s q H Q I h;refine cZ (wM C hl j (Dd C I.ok a)) gu rfl d p s q H Q I ?_;let(w,G,env,e,o):=h;rw [bZ] at o;refine{G,e.sub,e.tab,λf r t m=>?_};exact o [] G H (.refl e.sub) .nil b body c f r t a m
theorem DK{i:List Nat}{e:E}{c:Es}{p:jj}{ps:List jj}(d:fO (.cons e c)=ig)(he:GE X W F e p)(hs:PA X ps (Qe X W F N sc g idx i c))(m:starEach (p::ps) X.env=(iv,eval p X.env)::starEach ps X.env):PA X (p::ps) (Qe X W F N sc g idx i (.cons e c)):=
 L2.PA.imp (cZ he hs m) λO H Q h=>by let(r,G,env,s,o):=h;rw [bZ] at o;unfold fO at d;rw [zza] at d;refine one s o λq v t P u w y z=>{r,t,env,y,z.bind.imp λas A B C D j l=>?_};intro a body b f I K L M;have:=A (v::B) C D (u.trans j) (.cons (Rep.same j.g q (w.rep d.1)) l) a body b f I K L M;simpa using this
def lookup_all{Z:mn}(a:∀q∈Z,h.get? q.1=ia q.2):∀{c:i6} {o:Obj},(c,o)∈Z->Z.lookup c=ia o:=by
 induction Z with
 |nil=>intro c o m;cases m
 |cons q Z d=>
  intro c o m;let(f,g):=q
  rw [hV];cases e:c==f with
  |true=>have i:=zzy.mp e;subst i;have j:=a (c,g) dV;have b:h.get? c=ia o:=a (c,o) m;rw [j] at b;exact b|false=>
   rcases fP.mp m with z|z
   .cases z;simp at e
   .exact d (λq p=>a q (c3 _ p)) z
theorem sU{c:St}(d:SR W H0 env c G H):∀{a:List Nat} {cs:List PV},kq env a=.ok cs->∃ws:List V,ag W G cs ws/\ws.length=a.length/\∀(j:Nat) (i:Nat),a[j]?=ia i->∃v,ws[j]?=ia v/\c[i]?=ia (ia v)
 |[],cs,h=>by unfold kq at h;cases h;exact{[],.nil,rfl,λj i e=>by simp at e}
 |i::a,cs,h=>by
  unfold kq at h;let(p,b,h):=Res.aV h;let(u,f,h):=Res.aV h
  cases h;have hs:env[i]?=ia (.val p):=by
   cases e:env[i]? with
   |none=>rw [e] at b;cases b
   |some s=>rw [e] at b;cases s<;>cases b;rfl
  let(o,g,v,rfl,m):=d.slot i _ hs;let(ws,q,r,t):=sU d f;refine{v::ws,.cons m q,by simp [r],λj k e=>?_}
  cases j with
  |zero=>simp at e;subst e;exact⟨v,rfl,g⟩|succ j=>simpa using t j k (zx6 e)
theorem mL(c:Str):∀{a:List Nat},kq env a≠.exc c
 |[]=>nofun|i::a=>λz=>by
  unfold kq at z;rcases Res.dZ z with z|⟨p,_,z⟩
  .cases e:env[i]? with
   |none=>rw [e] at z;cases z
   |some s=>rw [e] at z;cases s<;>cases z
  .rcases Res.dZ z with z|⟨ps,_,z⟩
   .exact mL c z
   .cases z
def zw(C:zv3 X)(hl:Γ.hl=ig){q:Hs}{R:List Nat}{fa:i6}{fd:FuncData}{pn:List Str}(FO:gO X.prog X.w X.K X.mg X.base (eK X.prog X.w) k fa fd pn (Bq W F q.f pn.length (ia (q.g,q.idx))))(hb:Binds X.K fd pn []){aa:mn}{s:i2}{as cs:List PV}{j:lq}{d:kv}{f T:i6}{oc:Obj}{cU:Array i1}{t:Tok}{eT pm:i1}
 (I:zv2 s) (O:SR W H0 env σ G H) (a:By N sc q.g q.idx R j body d) (Lo:kq env R=.ok cs) (l:ag W G as vs) (fo:G f=ia (.bq (PySem.W.kla_obj (zu 1) (X.env.qual++(zu 1)) j body d (bG X.env (aQ d)) pm T eT) bA)) (co:G T=ia (.bq oc bA)) (cd:oc.data=.fields cU) (cn:cU[1]?=ia (.str (X.env.qual++(zu 1)) t))
 (hlen:(vs++[V.ref f]).length=pn.length) (r:Vals (vs++[.ref f]) us) (o:Out X W (F q.f (as++cs)) σ G H λp=>dG W G H p Q):zx7 X (call (.ref fa) us) (EP X aa σ Q) X.xe s:=by
 have CF:F q.f (as++cs)≠.bad:=λz=>by rw [z] at o;exact o
 let(ws,rws,U,pws):=sU O Lo;have b9:∀y∈aQ d,∃c,X.env.cells.lookup y=ia c:=λy L=>I.ok.has y (.inl (by show X.env.scope.names.lookup y=_;rw [C.fu];exact a.cc y L));have call:((aQ d).all λy=>(X.env.cells.lookup y).isSome)=ig:=ef.mpr λy L=>by let(c,e):=b9 y L;rw [e];rfl
 let Z:mn:=(aQ d).filterMap λy=>(X.env.cells.lookup y).bind λc=>(s.heap.get? c).map λo=>(c,o);have Qz:∀q∈Z,∃y,y∈aQ d/\X.env.cells.lookup y=ia q.1/\s.heap.get? q.1=ia q.2:=λq hq=>by let(y,L,e):=hI.mp hq;let(c,hc,e):=eu.mp e;let(o,Y,rfl):=c4.mp e;exact⟨y,L,hc,Y⟩
 have UO:∀q∈Z,s.heap.get? q.1=ia q.2:=λq hq=>let⟨_,_,_,h⟩:=Qz q hq;h;have WX:∀y c o,y∈aQ d->X.env.cells.lookup y=ia c->s.heap.get? c=ia o->Z.lookup c=ia o:=λy c o L hc Y=>lookup_all UO (hI.mpr {y,L,by rw [hc];show(s.heap.get? c).map _=_;rw [Y];rfl});have Qy:∀b o,Z.lookup b=ia o->∃y,y∈aQ d/\X.env.cells.lookup y=ia b/\s.heap.get? b=ia o:=λb o e=>by let(y,M,D,S):=Qz (b,o) (PySem.W.mem_of_lookupK e);exact⟨y,M,D,S⟩
 have zc:∀b o,Z.lookup b=ia o->∃v,o.data=.cell v:=λb o e=>by let(y,_,D,S):=Qy b o e;let(v,o',h4,h5):=I.cell y b D;rw [S] at h4;cases h4;exact⟨v,h5⟩
 have QA:∀b o,Z.lookup b=ia o->H b=ie:=λb o e=>by let(y,_,D,_):=Qy b o e;exact I.gY y b D
 have WZ:∀b o,Z.lookup b=ia o->G b=ie:=λb o e=>O.sub.free (QA b o e)
 have uP:∀b u,G b=ia u->Z.lookup b=ie:=λb u e=>by
  cases y:Z.lookup b with
  |none=>rfl|some o=>rw [WZ b o y] at e;cases e
 have Oq:∀x c,(bG X.env (aQ d)).lookup x=ia c->X.env.cells.lookup x=ia c:=fq call;have Sq:∀x c,(bG X.env (aQ d)).lookup x=ia c->x∈aQ d:=λx c e=>by have:=PySem.mem_of_lookup e;unfold bG at this;let(y,L,e2):=hG.mp this;cases e2;exact L
 have WV:∀b o,Z.lookup b=ia o->X.s₀.heap.objs.size<=b:=λb o e=>by let(y,_,D,_):=Qy b o e;exact I.ok.Kc y b (C.fl hl y) D
 have Bh:sL Z H (ft X.stack) s.heap:={λb o e=>let⟨_,_,_,h⟩:=Qy b o e;h,QA,λb o e OY=>by
  let(y,_,D,S):=Qy b o e
  rcases fP.mp (I.iq b OY) with z|z
  .exact I.EO y b D z
  .let(_,o',h4,_):=I.ok.gE.mem z;exact absurd (dn h4) (Nat.not_lt.mpr (WV b o e))}
 have zb:∀b o,Z.lookup b=ia o->X.base.get? b=ie:=λb o e=>by
  cases y:X.base.get? b with
  |none=>rfl|some o'=>exact absurd (dn (I.ok.bs b o' y).1) (Nat.not_lt.mpr (WV b o e))
 have XT:(aQ d).length=R.length:=by have:=congrArg List.length a.cn;simpa using this.symm
 have cr:qx W (aK Z G) q.g q.idx cs (.ref f):=by
  refine{f,T,oc,cU,t,eT,pm,j,body,d,_,bG X.env (aQ d),Z,ws,rfl,{a.lb,by rw [af (uP f _ fo)];exact fo,by rw [af (uP T _ co)];exact co,cd,cn,uP f _ fo,uP T _ co,λx y c M D=>I.ok.inj x y c (Oq x c M) (Oq y c D),λy L=>jr L,λx c h=>?_,λb o e=>ba e,zc,λi y c M D v S=>?_,by rw [U,XT],by rw [hX WZ];exact rws}}
  .let(v,o,M,D):=I.cell x c (Oq x c h);exact{o,v,WX x c o (Sq x c h) (Oq x c h) M,D}
  .have hi:i<R.length:=by rw [<-U];exact(cP.mp S).1
   let(v',q1,q2):=pws i R[i] (zzg hi);rw [S] at q1;cases q1;have Xn:X.N[R[i]]?=ia y:=by rw [C.hN];have:=congrArg (λl=>l[i]?) a.cn;simp! [d0,M,zzg hi,Option.map_some] at this;exact zzq this
   let(m,_,hloc):=I.loc;let(u,ru,lk):=hloc R[i] y v Xn q2 (.inr (.inl (by rw [C.fu];exact a.cc y (a9 M))));have O0:=Oq y c D
   rcases lk with⟨z,_⟩|⟨_,c2,hc2,o,Y,hd⟩
   .have z2:X.env.scope.names.lookup y=ia .local:=z;rw [C.fu,a.cc y (a9 M)] at z2;cases z2
   .rw [O0] at hc2;cases hc2;exact{u,o,ru,WX y c o (a9 M) O0 Y,hd}
 have V5:us.length=pn.length:=by rw [<-r.length];exact hlen
 have ji:=hb s us I.uA (by rw [hW];exact V5);rw [hW] at ji;have Yp:ag W (aK Z G) as vs:=ag.same (λb u e=>by rw [af (uP b u e)];exact e) as l;have YH:∀G' E,aA W (aK Z G) (aK Z H) G' E->∀b o,Z.lookup b=ia o->G' b=ia (.bq o bA):=λG' E g b o e=>g.g _ _ (ba e);refine wpAny_call (codeAny_mono (FO.run X.A X.stack s (aK Z H) {us,[]} us _ (λv E=>Q v (aO Z E)) (λCv ao E=>∃c,F q.f (as++cs)=.exc c/\XE W c G H Cv ao (aO Z E)) C.rm (I.tM.aK Bh zb) ji r {hlen,aK Z G,as++cs,AZ O.sub,vq O.tab O.sub QA,{as,cs,vs,.ref f,rfl,rfl,Yp,cr},?_}) λrr s' P=>?_)
 .cases z:F q.f (as++cs) with
  |ok p=>rw [z] at o;exact λv G' E g' rp=>o v _ _ (g'.lz O.sub zc QA) (Rep.less (YH G' E g') p rp)|exc c=>intro Cv ao E y;let(C4,a4,G4,y1,y2,y3,y4,y5):=y;exact{c,rfl,C4,a4,_,y1,y2,y3,y4,y5.lz O.sub zc QA}|bad=>exact absurd z CF
 .cases rr with
  |error e=>
   have P:eK X.prog X.w X.stack H s (λCv ao E=>∃c,F q.f (as++cs)=.exc c/\XE W c G H Cv ao E) e s':=eK.less Bh P
   cases z:F q.f (as++cs) with
   |ok q=>let(a,C',t,vs,E,B,rfl,Fl):=P;let(c,e1,_):=Fl.ends;rw [z] at e1;cases e1
   |exc c=>rw [z] at o;refine o aa G H s e s' I (.refl O.sub) (E8.imp P λC1 a E y=>?_);let(T,e1,y):=y;rw [z] at e1;cases e1;exact y
   |bad=>exact absurd z CF
  |ok fl=>
   cases fl with
   |ret u=>exact I.after (CE.less Bh P)|next=>exact fA P|brk=>exact fA P|cont=>exact fA P
def ua(C:zv3 X)(hl:Γ.hl=ig){q:Hs}(Y:q∈Γ.hs){e:List Nat}{i:Es}{p:jj}{ps:List jj}(Z:iS sc q.h=ig)(ho:okN q.h=ig)(hn:q.np=eZ i+1)(ha:PA X (p::ps) (Qe X W F N sc q.g q.idx e i))
 (eh:starEach (p::ps) X.env=(iv,eval p X.env)::starEach ps X.env) (hpl:(backTo pos (starEach ps X.env)).any (·.1)=iv):GE X W F (.pC q.f i q.g q.idx e) (.Call (.Name q.h np) (p::ps) [] pos):=by
 intro aa s j H Q I h;let(T,G,env,U,o):=h;rw [aC] at o;let(fa,fd,pn,FO,hm,hk,hb,K):=(C.uh q Y).ex;refine wpAny_Call_Name_kw (iF I (fR C Z) hm ?_ (dH ho).1);refine PySem.W.callWith_K (h₀:=X.base) I.ok.mod.Pl hk (bL (ha pos aa s j H (λw z=>∃d as cs L a body b f m oc u t A B,w=L++[.ref f]/\as.length=eZ i/\SR W T env j d z/\By N sc q.g q.idx e a body b/\kq env e=.ok cs/\ag W d as L/\d f=ia (.bq (PySem.W.kla_obj (zu 1) (X.env.qual++(zu 1)) a body b (bG X.env (aQ b)) B m A) bA)/\d m=ia (.bq oc bA)/\oc.data=.fields u/\u[1]?=ia (.str (X.env.qual++(zu 1)) t)/\Out X W (F q.f (as++cs)) j d z λp=>dG W d z p Q) I ?_) λus s1 ⟨w,H1,V,r,y⟩=>{V.uA,?_}) eh hpl
 .refine{T,G,env,U,?_};cases D:bZ F i env with
  |bad=>rw [D] at o;exact o|exc c=>rw [D] at o;exact o|ok as=>
   rw [D] at o;have o:Out X W ((kq env e).bind λcs=>F q.f (as++cs)) j G H _:=o
   cases M:kq env e with
   |bad=>rw [M] at o;exact o.elim|exc c=>exact absurd M (mL c)|ok cs=>rw [M] at o;have o:Out X W (F q.f (as++cs)) j G H _:=o;intro w G1 H1 O l a body b f d z P lm;let(E,m,oc,u,t,A,B,m1,m2,m3,m4):=lm;exact{d,as,cs,w,a,body,b,f,m,oc,u,t,A,B,rfl,gX D,(U.grow O).grow E,P,rfl,ag.same E.g as l,m1,m2,m3,m4,(o.grow (O.trans E)).imp λp hp v G' H' g' rp=>hp v G' H' ((O.trans E).trans g') (.of rp)}
 .let(d,as,cs,L,a,body,b,f,m,oc,u,t,A,B,rfl,R,eF,P,S,l,m1,m2,m3,m4,o2):=y;exact zw C hl FO hb V eF P S l m1 m2 m3 m4 (by rw [dj,l.length,R,K,hn];rfl) r o2
end
end Ci
namespace L2
open PySem.Spec PyProof.Rows
end L2
namespace Ci
open L2
section
variable{Γ:Pg}{W:Wd}{F:aJ}{k:Nat}
set_option backward.match.sparseCases false
def Ll{e:E}{p:jj}(h:GE X W F e p)(he:∀a,isTrue p X.env a=(do let v<-a;standAt p.pos;holding [v] (truthy v))):GT X W F e p:=
 L2.PT.imp (MJ h he) λb H Q c=>JM b H Q c
theorem Cf{sc:kv}:∀{a:Es} {ps:List jj},fL Γ N sc a ps=ig->∀env pos,(backTo pos (starEach ps env)).all (λx=>!x.1)=ig
 |.nil,[],_,_,_=>rfl|.cons e a,p::ps,h,env,pos=>by replace h:=aw h;rw [notStar h.1];show(ig&&(backTo pos (starEach ps env)).all (λx=>!x.1))=ig;rw [Cf h.2];rfl|.nil,_::_,h,_,_=>aY h|.cons _ _,[],h,_,_=>aY h
theorem Dg{sc:kv}:∀{a:Es} {ps:List jj},fL Γ N sc a ps=ig->ps.length=eZ a
 |.nil,[],_=>rfl|.cons e a,p::ps,h=>by replace h:=aw h;rw [c6,Dg h.2];rfl|.nil,_::_,h=>aY h|.cons _ _,[],h=>aY h
structure Vq(X:Cx)(W:Wd)(F:aJ)(e:E)(p:jj):Prop where
 ge:GE X W F e p
 gt:gF e=ig->GT X W F e p
 gw:gF e=ig->∀op vs pos,p=.BoolOp op vs pos->GW X W F e p
def br{e:E}{p:jj}(h:GE X W F e p)(he:∀a,isTrue p X.env a=(do let v<-a;standAt p.pos;holding [v] (truthy v)))(b:∀op vs pos,p≠.BoolOp op vs pos):Vq X W F e p:=
 {h,λZ=>Ll h he,λZ op vs pos e=>absurd e (b op vs pos)}
def isTrue_plain{p:jj}{env:Env}(h:(match p with|.UnaryOp .Not _ _=>iv|.BoolOp .. =>iv|.IfExp .. =>iv|.Compare .. =>iv|_=>ig)=ig):∀b,isTrue p env b=(do let v<-b;standAt p.pos;holding [v] (truthy v)):=by
 intro b;cases p with
 |UnaryOp op a pos=>cases op<;>first|rfl|(exact aY h)
 |BoolOp _ _ _=>exact aY h|IfExp _ _ _ _=>exact aY h|Compare _ _ _ _=>exact aY h|_=>rfl
def vM{a:jj}{m:Str}{env:Env}(h:yx a=ig):attributeBase a m env (eval a env)=eval a env:=by
 cases a<;>first|rfl|(exact aY h)
theorem ly{sc:kv}{b:List Nat}:∀{a:Es} {ps:List jj},xB Γ N sc g idx b a ps=ig->∀env pos,(backTo pos (starEach ps env)).any (·.1)=iv
 |.cons e a,p::ps,h,env,pos=>by replace h:=aw h;rw [notStar h.1];show(iv||(backTo pos (starEach ps env)).any (·.1))=iv;rw [ly h.2];rfl
 |.nil,ps,h,env,pos=>by let(p,c,h):=ah h;let(l,d,_):=ah h;rw [dA c];let(_,rfl):=nj d;rfl|.cons _ _,[],h,_,_=>aY h
def Kp{c:Const}(h:Ov q c=ig):GE X W F (.cst q) (.Constant c kk pos):=by
 cases q with
 |aG=>cases L8 h;exact eW Mw λG=>.n
 |bl b=>let(x,e,h):=ah h;cases Ka e;cases eq_of_beq h;exact eW PL λG=>.b
 |int i=>let(x,e,h):=ah h;cases CT e;cases eq_of_beq h;exact eW rD λG=>.i
 |str z=>let(x,e,h):=ah h;cases Er e;cases eq_of_beq h;exact eW rE λG=>.s
 |_=>exact aY h
def Dl{b:Type}{r:Res b}{c:b->Prop} [∀a,Decidable (c a)]{f:b->Res (List PV)}(e:(r.bind λa=>if c a then(f a).bind λys=>.ok (.lst ys) else .bad)=.ok q):∃ys,q=.lst ys:=by
 let(d,_,e):=Res.aV e;split at e
 .let(ys,_,e):=Res.aV e;cases e;exact{_,rfl}
 .cases e
def xF{b:List Nat}{c:Tg}{a:E}(env:Sl)(q:PV)(e:aC F (.comp kk b c it a) env=.ok q):∃ys,q=.lst ys:=by rw [aC] at e;exact Dl e
def pG{b:List Nat}{d:Tg}{c a:E}(env:Sl)(q:PV)(e:aC F (.ei kk b d it c a) env=.ok q):∃ys,q=.lst ys:=by rw [aC] at e;exact Dl e
mutual
theorem bz:∀(e:E) {Γ:Pg} {N:List Str} {sc:kv} {X:Cx} (C:zv3 X) (p:jj),bo Γ N sc e p=ig->Vq X W F e p
 |.var i,Γ,N,sc,X,C,p,h=>by let(x,_,rfl,A):=Rn h;clear h;have h:=A;clear A;exact br (K8 C h) (λ_=>rfl) nofun|.f7 i,Γ,N,sc,X,C,p,h=>by let(x,_,rfl,A):=Rn h;clear h;have h:=A;clear A;exact br (K7 C h) (λ_=>rfl) nofun|.cst q,Γ,N,sc,X,C,p,h=>by let(c,_,_,rfl,A):=Xc h;clear h;have h:=A;clear A;refine br (Kp h) (λ_=>rfl) nofun|.glob g q,Γ,N,sc,X,C,p,h=>by let(x,_,rfl,A):=Rn h;clear h;have h:=A;clear A;exact br (GD C h) (λ_=>rfl) nofun|.call f as,Γ,N,sc,X,C,p,h=>by
  let(g,args,_,_,rfl,A):=Fn h;clear h;have h:=A;clear A;replace h:=aw h
  try simp! [zza,zzy] at h
  let(((((rfl,d),j),u),G),y):=h;have ga:=j7 as C args y
  cases as with
  |nil=>
   cases args with
   |nil=>exact br (Cn C d j u) (λ_=>rfl) nofun|cons _ _=>exact aY y
  |cons e es=>
   cases args with
   |nil=>exact aY y|cons q qs=>have H:=aw y;exact br (GC C d j u G ga (notStar H.1 _ _) (dU H.2 _ _)) (λ_=>rfl) nofun
 |.jo i as,Γ,N,sc,X,C,p,h=>by
  let(g,args,_,_,rfl,A):=Fn h;clear h;have h:=A;clear A;replace h:=aw h;simp! [zza] at h;let((((d,j),u),G),y):=h;have ga:=j7 as C args y
  cases as with
  |nil=>
   cases args with
   |nil=>exact br (z9 C (by rw [d,j,u];rfl)) (λ_=>rfl) nofun|cons _ _=>exact aY y
  |cons e es=>
   cases args with
   |nil=>exact aY y|cons q qs=>have H:=aw y;exact br (Co C (by rw [d,j,u];rfl) G ga (notStar H.1 _ _) (dU H.2 _ _)) (λ_=>rfl) nofun
 |.pC f as g idx aZ,Γ,N,sc,X,C,p,h=>by
  let(hN,args,_,_,rfl,A):=Fn h;clear h;have h:=A;clear A;replace h:=aw h;simp! [zza,fi,zzy] at h;let(((((d,j),u),G),q,Q,(((rfl,rfl),rfl),rfl),hd),y):=h;have Q5:=zzY hd;have ga:=JL as C d q.g q.idx aZ args G y
  cases as with
  |nil=>have T:((gq args).any _)=ig:=y;let(pl,e7,h8):=nC T;subst e7;let(l,e8,_):=ah h8;let(_,rfl):=nj e8;exact br (ua C d Q j u Q5 ga rfl rfl) (λ_=>rfl) nofun|cons e es=>
   cases args with
   |nil=>exact aY y|cons p qs=>have H:=aw y;exact br (ua C d Q j u Q5 ga (notStar H.1 _ _) (ly H.2 _ _)) (λ_=>rfl) nofun
 |.blt b as,Γ,N,sc,X,C,p,h=>by
  let(Q,h):=uQ h;let(g,args,_,_,rfl,A):=Fn h;clear h;have h:=A;clear A;replace h:=aw h
  try simp! [zza,zzy] at h
  let((((rfl,d),j),u),y):=h;have ga:=j7 as C args y
  cases as with
  |nil=>exact aY u|cons e es=>
   cases args with
   |nil=>exact aY y|cons q qs=>have H:=aw y;exact br (KZ C Q b d j ga (notStar H.1 _ _) (dU H.2 _ _)) (λ_=>rfl) nofun
 |.ty t a,Γ,N,sc,X,C,p,h=>by
  let(g,args,_,_,rfl,A):=Fn h;clear h;have h:=A;clear A;let(I,M,B,j):=IZ h;let(tn,_,K,u):=Rn j;dsimp only at B K;subst B K;clear h j;have h:=u;clear u;replace h:=aw h
  try simp! [zza,zzy] at h
  let((((((rfl,d),j),rfl),u),G),y):=h;exact br (ON C d j u G (bz a C I y).ge (notStar y)) (λ_=>rfl) nofun
 |.yv m o as,Γ,N,sc,X,C,p,h=>by
  let((f,args,kws,L),e,d):=ah h;have z:=i3 e;let((po,attr,apos),U,j):=ah d;have B:=BN U;have u:=aw j;have K:=Hx u.1;dsimp only at z B K;subst z B K;clear h d j;have h:=aw u.2;clear u;simp! [zza] at h;let((((((e1,d),j),u),G),y),H):=h;cases zzy.mp e1;have ga:=j7 as C args y
  cases as with
  |nil=>exact aY d|cons e es=>
   cases args with
   |nil=>exact aY y|cons q qs=>have T:=aw y;have hl:=Dg y;refine br (K3 C (bz o C po G).ge ga (vM H) ?_ u (notStar T.1 _ _) (dU T.2 _ _)) (λ_=>rfl) nofun;rw [Cf y];have ug:=zzY j;refine Bool.and_eq_true_iff.mpr {rfl,zzh ?_};rw [hl];exact ug
 |.bin o a b,Γ,N,sc,X,C,p,h=>by let(q,e,d):=ah h;let(_,rfl):=J8 e;clear h;have h:=aw d;have D:=aw h.1;rw [<-zzY D.1];exact br (KY C (bz a C _ D.2).ge (bz b C _ h.2).ge) (λ_=>rfl) nofun|.cmp o a b,Γ,N,sc,X,C,p,h=>by let(I,ops,cs,_,rfl,d):=VL h;let(op,B,j):=nC d;let(M,K,u):=nC j;dsimp only at B K;subst B K;clear h d j;have h:=u;clear u;replace h:=aw h;have D:=aw h.1;cases zzY D.1;have d:=D.2;have j:=h.2;exact{K0 C (bz a C _ d).ge (bz b C _ j).ge (rA j _),λ_=>Lj C (bz a C _ d).ge (bz b C _ j).ge (rA j _),(λ_ _ _ _ z=>nomatch z)}
 |.ch o1 o2 a b c,Γ,N,sc,X,C,p,h=>by
  let(I,ops,cs,_,rfl,d):=VL h;let(op1,op2,B,j):=IZ d;let(M,pc,K,u):=IZ j;dsimp only at B K;subst B K;clear h d j;have h:=u;clear u;replace h:=aw h
  try simp! [zza,zzN] at h
  let((((rfl,rfl),d),j),u):=h;have hm:lastMarks [sD o1,sD o2] [M,pc]=iv:=rA u _;exact{OL C (bz a C _ d).ge (bz b C _ j).ge (bz c C _ u).ge hm,λ_=>OO C (bz a C _ d).ge (bz b C _ j).ge (bz c C _ u).ge hm,(λ_ _ _ _ z=>nomatch z)}
 |.not a,Γ,N,sc,X,C,p,h=>by let(o,I,_,rfl,d):=WQ h;clear h;have h:=aw d;cases CQ h.1;have s:=bz a C I h.2;exact{K5 s.ge,λz=>Lk (s.gt (by simpa only [gF] using z)),(λ_ _ _ _ z=>nomatch z)}
 |.neg a,Γ,N,sc,X,C,p,h=>by let(o,I,_,rfl,d):=WQ h;clear h;have h:=aw d;cases CO h.1;exact br (K4 (bz a C I h.2).ge) (λ_=>rfl) nofun
 |.and a b,Γ,N,sc,X,C,p,h=>by
  let(o,vs,L,rfl,d):=VB h;let((I,M),U,j):=ah d;clear h d;have h:=aw j;clear j
  try simp! [zza] at h
  let(((D,V),d),j):=h;cases CN D;have O:=bz a C I d;have P:=bz b C M j
  rcases BW U with z|⟨q,c,r,z,B⟩
  .dsimp only at z;subst z;have gw:gF (.and a b)=ig->GW X W F (.and a b) (.BoolOp .And [I,M] L):=λz=>by
    have z:=aw z;exact Cu (O.gt z.1) (pw_and1 (P.gt z.2))
   exact{Cm V O.ge (DQ P.ge),λz=>(gw z).pt,λz _ _ _ _=>gw z}
  .dsimp only at z B;subst z B;have gw:gF (.and a b)=ig->GW X W F (.and a b) (.BoolOp .And (I::q::c::r) L):=λz=>by
    have z:=aw z;exact Cu (O.gt z.1) (P.gw z.2 _ _ _ rfl)
   exact{Cm V O.ge P.ge,λz=>(gw z).pt,λz _ _ _ _=>gw z}
 |.or a b,Γ,N,sc,X,C,p,h=>by
  let(o,vs,L,rfl,d):=VB h;let((I,M),U,j):=ah d;clear h d;have h:=aw j;clear j
  try simp! [zza] at h
  let(((D,V),d),j):=h;cases Hi D;have O:=bz a C I d;have P:=bz b C M j
  rcases BW U with z|⟨q,c,r,z,B⟩
  .dsimp only at z;subst z;have gw:gF (.or a b)=ig->GW X W F (.or a b) (.BoolOp .Or [I,M] L):=λz=>by
    have z:=aw z;exact Jw (O.gt z.1) (pw_or1 (P.gt z.2))
   exact{Jv V O.ge (DQ P.ge),λz=>(gw z).pt,λz _ _ _ _=>gw z}
  .dsimp only at z B;subst z B;have gw:gF (.or a b)=ig->GW X W F (.or a b) (.BoolOp .Or (I::q::c::r) L):=λz=>by
    have z:=aw z;exact Jw (O.gt z.1) (P.gw z.2 _ _ _ rfl)
   exact{Jv V O.ge P.ge,λz=>(gw z).pt,λz _ _ _ _=>gw z}
 |.ite c a b,Γ,N,sc,X,C,p,h=>by
  let(q,e,d):=ah h;let(_,rfl):=LC e;clear h;have h:=aw d;clear d
  try simp! [zza] at h
  let(((((D,d),j),u),G),y):=h;exact{K1 d j ((bz c C _ u).gt D) (bz a C _ G).ge (bz b C _ y).ge,nofun,(λ_ _ _ _ z=>nomatch z)}
 |.tup as,Γ,N,sc,X,C,p,h=>by let(ps,e,d):=ah h;let(_,_,rfl):=y8 e;clear h;have h:=aw d;have D:=aw h.1;exact br (vV D.1 (zzY D.2) (j7 as C _ h.2)) (λ_=>rfl) nofun|.lst as,Γ,N,sc,X,C,p,h=>by let(ps,e,d):=ah h;let(_,rfl):=Dh e;clear h;have h:=aw d;have D:=aw h.1;exact br ((Cq D.1 (zzY D.2) (j7 as C _ h.2)).ge lst_is) (λ_=>rfl) nofun|.sub a b,Γ,N,sc,X,C,p,h=>by let(I,M,_,rfl,A):=WK h;clear h;have h:=A;clear A;replace h:=aw h;exact br (K6 C (bz a C _ h.1).ge (bz b C _ h.2).ge (DZ h.2)) (λ_=>rfl) nofun|.slice a lo hi,Γ,N,sc,X,C,p,h=>by let(I,ps,_,rfl,d):=WK h;let(pl,ph,pst,_,B,j):=Yu d;clear h d;have h:=aw j;simp! [zza] at h;have w:=TV h.1.1.1;dsimp only at B w;subst B w;exact br (Cp C (bz a C _ h.1.1.2).ge (P7 lo C pl h.1.2) (P7 hi C ph h.2)) (λ_=>rfl) nofun|.comp kk aZ tg it elt,Γ,N,sc,X,C,p,h=>by let(Q,h):=uQ h;let(fE,Z,R,_,rfl,d):=Rj h;let((du,gN,ifs,asy),B,j):=nC d;have u:=aw j;have K:=Hx u.1;dsimp only at B K;subst B K;clear h d j;have h:=aw u.2;clear u;simp! [zza] at h;let((((((d,j),u),G),y),H),S):=h;have S:=zzY S;subst S;exact br ((xU C Q (js d) j u (Ej it C du gN G) (jx G _) y λY CY=>(bz elt CY fE H).ge).ge xF) (λ_=>rfl) nofun|.ei kk aZ tg it c elt,Γ,N,sc,X,C,p,h=>by let(Q,h):=uQ h;let(fE,Z,R,_,rfl,d):=Rj h;let((du,gN,ifs,asy),B,j):=nC d;let(pc,K,u):=nC j;dsimp only at B K;subst B K;clear h d j;have h:=aw u;clear u;simp! [zza] at h;let((((((((D,d),j),u),G),y),H),T),S):=h;have S:=zzY S;subst S;exact br ((pR C Q (js d) j u (Ej it C du gN G) (jx G _) y (λY CY=>(bz c CY pc H).gt D) λY CY=>(bz elt CY fE T).ge).ge pG) (λ_=>rfl) nofun
theorem j7:∀(a:Es) {Γ:Pg} {N:List Str} {sc:kv} {X:Cx} (C:zv3 X) (ps:List jj),fL Γ N sc a ps=ig->GA X W F a ps
 |.nil,Γ,N,sc,X,C,ps,h=>by
  cases ps with
  |nil=>exact qX|cons _ _=>exact aY h
 |.cons e a,Γ,N,sc,X,C,ps,h=>by
  cases ps with
  |nil=>exact aY h|cons p ps=>replace h:=aw h;exact jW (bz e C p h.1).ge (j7 a C ps h.2) (notStar h.1 _ _)
theorem JL:∀(a:Es) {Γ:Pg} {N:List Str} {sc:kv} {X:Cx} (C:zv3 X) (hl:Γ.hl=ig) (g:Str) (idx b:List Nat) (ps:List jj),fO a=ig->xB Γ N sc g idx b a ps=ig->PA X ps (Qe X W F N sc g idx b a)
 |.nil,Γ,N,sc,X,C,hl,g,idx,b,ps,he,h=>by let(p,d,h):=ah h;let(l,f,h):=ah h;rw [dA d];let(_,rfl):=nj f;replace h:=aw h;have c:=aw h.1;exact Ib C hl {c.1,zzY c.2,λy i=>zzY (ef.mp h.2 y i)}|.cons e a,Γ,N,sc,X,C,hl,g,idx,b,ps,he,h=>by
  cases ps with
  |nil=>exact aY h|cons p ps=>replace h:=aw h;have j:=aw (show(iC e&&fO a)=ig from he);exact DK he (bz e C p h.1).ge (JL a C hl g idx b ps j.2 h.2) (notStar h.1 _ _)
theorem P7:∀(o:Oe) {Γ:Pg} {N:List Str} {sc:kv} {X:Cx} (C:zv3 X) (p:Option jj),Kh Γ N sc o p=ig->PO X p (Ez X W F o)
 |.no,Γ,N,sc,X,C,p,h=>by
  cases p with
  |none=>exact GK|some _=>exact aY h
 |.some e,Γ,N,sc,X,C,p,h=>by
  cases p with
  |none=>exact aY h|some p=>exact GL (bz e C p h).ge
theorem Ej:∀(it:I) {Γ:Pg} {N:List Str} {sc:kv} {X:Cx} (C:zv3 X) (i p:jj),zL Γ N sc i it p=ig->GI X W F i it p
 |.seq e,Γ,N,sc,X,C,i,p,h=>by exact La C (bz e C p h).ge|.va e,Γ,N,sc,X,C,i,p,h=>by let(g,args,_,_,rfl,d):=Fn h;clear h;have h:=d;clear d;let(q,j,c):=nC h;dsimp only at j;subst j;clear h;have h:=aw c;clear c;simp! [zza] at h;let(((m,o),c),f):=h;cases zzy.mp m;exact K9 C o c (notStar f) (bz e C q f).ge
 |.rL a b,Γ,N,sc,X,C,i,p,h=>by let(g,args,_,_,rfl,d):=Fn h;clear h;have h:=d;clear d;let(q,r,j,c):=IZ h;dsimp only at j;subst j;clear h;have h:=aw c;clear c;simp! [zza] at h;let((((m,o),c),f),s):=h;cases zzy.mp m;exact GH C o c (notStar f) (notStar s) (bz a C q f).ge (bz b C r s).ge
 |.enum e,Γ,N,sc,X,C,i,p,h=>by
  let(g,args,_,_,rfl,d):=Fn h;clear h;have h:=d;clear d;let(q,j,c):=nC h;dsimp only at j;subst j;clear h;have h:=aw c;clear c;simp! [zza] at h;let((((t,m),o),c),f):=h;cases zzy.mp m;cases i<;>first|(exact aY t)|skip
  exact GG C o c (notStar f) (bz e C q f).ge
 |.zip as,Γ,N,sc,X,C,i,p,h=>by
  let(g,args,_,_,rfl,d):=Fn h;clear h;replace h:=aw d;clear d;simp! [zza] at h;let((((((t,m),o),c),f),s),u):=h;cases zzy.mp m;cases i<;>first|(exact aY t)|skip
  rw [gU,zzy,zzy] at s;cases as with
  |nil=>exact absurd s (by show¬(0=2\/0=3);omega)|cons a as=>
   cases args with
   |nil=>exact aY u|cons q qs=>have w:=aw (show(bo Γ N sc a q&&fL Γ N sc as qs)=ig from u);exact Lb C o c f s (j7 (.cons a as) C (q::qs) u) (notStar w.1 _ _) (dU w.2 _ _)
end
set_option backward.match.sparseCases true
end
end Ci
namespace L2
open PySem.Spec PyProof.Rows
section
variable{scope:kv}{xs ys:List Str}{is:List Nat}
theorem wO{c:Nat}{a:Str}{d F:Pos}{f t iter:jj}{G:TI}{g:TG}(j:X.N.Nodup)(k:X.N[c]?=ia a)(p:Loc X.env.scope a)(P:X.calm=ig)(S:fx X scope xs ys is)(R:PI X t iter G)
 (T:∀fp w y C,PG (bV X (xs++ys) scope (bG X.env ys) fp w y C) t g) (he:∀fp w y C,PE (bV X (xs++ys) scope (bG X.env ys) fp w y C) f te)
 (U:swapsWith (.ListComp f [{t,iter,[],0}] scope pos) (ia (.Name a d)) F.line X.env=pure ig:=by rfl)
 (hs:∀x,foldedSetIterable iter X.env x=pure x:=by intro _;rfl) (r:X.fn a=ig\/X.env.scope.names.lookup a=ia .local:=by first|exact .inl rfl|exact .inr rfl|assumption):
 PS X (.Assign [.Name a d] (.ListComp f [{t,iter,[],0}] scope pos) F) (IS (Ew G xs.length g te is) (gZ c)):=by
 intro V s W H i I h;rw [exec_Assign_Name_used _ _ _ _ U];refine aT (wpAny_standAt (aT ?_));show jk _ X.A (do let _<-comprehension (.ListComp f [⟨t,iter,[],0⟩] scope pos) scope X.env _ (newList []) iv (eval iter X.env) (ia (assign (.Name a d) X.env))) _ _ s;refine aT (wpAny_mono (iB (QQ:=λ_ K=>∃u L,Inv X V u L K/\i.nx u L) (Q:=λv M=>gZ c v W M i.nx) P S R T (λ_ _ _ _=>yC) he hs I h λD C s4 M m Y Z ⟨g0,g1,_,g3,O,g5⟩ q=>?_) (λ_ K hq=>b4 (b4 hq)) λ_ _ e=>e)
 refine wpAny_assign_Name (kW Y j k p (show RelV (.ref D) (.ref D) from rfl) (λs6 I6 ⟨a6,B,E⟩=>?_) r);have Dv:C≠a6:=by
  rcases E with z|z
  .rw [z];exact g1
  .exact λz2=>O _ _ z z2.symm
 exact{m,Z.sameBut B Dv,λh' Aj=>{_,_,I6.turned (t':=s6.toks) (it:=C) (λb o hb e=>Aj.extBut b o hb e) g0 g1 g3 O g5,q}}
end
end L2
namespace Ci
open L2
section
variable{W:Wd}{G0:Hp}
def Own.JN(h:Own W H0 G H p v):∃a o,v=.ref a/\H a=ia o/\G a=ie/\H0 a=ie/\((∀b,az G b->b a=ia o->Rep W b p (.ref a))\/∃g,o=.dT g/\∀ob b,az G b->b a=ia (.bq ob (.dT g))->Rep W b p (.ref a)):=by
 cases p with
 |lst xs=>let(a,k,rfl,c,d,f,l):=h;exact{a,_,rfl,c,d,f,.inl λb s e=>.l (.inl (.inl e)) (ag.same s xs l)}|bC m i=>let(a,j,rfl,n,c,d,f,l):=h;exact{a,_,rfl,c,d,f,.inr {_,rfl,λob b s e=>by simp! [Rep];exact{a,ob,j,rfl,n,e,ag.same s i l}}}|aG=>exact h.elim|bl _=>exact h.elim|int _=>exact h.elim|str _=>exact h.elim|tup _=>exact h.elim|exc _=>exact h.elim
theorem Own.Dz(h:Own W H0 G H p (.ref a))(ps:Array i1):H a≠ia (.gK ps):=λz=>by
 cases p with
 |lst xs=>let(b,d,e,c,_):=h;cases e;rw [z] at c;cases c
 |bC f qs=>let(b,g,e,_,c,_):=h;cases e;rw [z] at c;cases c
 |aG=>exact h.elim|bl _=>exact h.elim|int _=>exact h.elim|str _=>exact h.elim|tup _=>exact h.elim|exc _=>exact h.elim
theorem Own.Pw{b:i6}{f:List (Key×V)}(h:Own W H0 G H p (.ref a))(d:H b=ia (.dK f)):b≠a:=λz=>by
 subst z;cases p with
 |lst xs=>let(b,g,e,c,_):=h;cases e;rw [d] at c;cases c
 |bC i qs=>let(b,j,e,_,c,_):=h;cases e;rw [d] at c;cases c
 |aG=>exact h.elim|bl _=>exact h.elim|int _=>exact h.elim|str _=>exact h.elim|tup _=>exact h.elim|exc _=>exact h.elim
theorem sf{ob:HO}{d:Hp}(t:cH W G H)(g:G a=ie)(n:∀ps,H a≠ia (.gK ps))(h:∀b,b≠a->d b=H b):cH W (upd G a ob) d:=λP q m=>by
 let(i,ps,e,j,k):=t P q m;have f:P≠a:=λz=>by subst z;exact n ps e
 refine{by rw [ae f];exact i,ps,by rw [h P f];exact e,j,λc o y=>?_};let(p,oc,r,s,u,w,A,B):=k c o y;exact{p,oc,r,s,u,bS g _ _ w,A,B}
def Own.fe{d i:Hp}(h:Own W H0 G H p v)(j:v≠.ref a)(k:az G d)(m:∀b,b≠a->d b=G b)(o:∀b,b≠a->i b=H b):Own W H0 d i p v:=by
 cases p with
 |lst xs=>let(b,q,rfl,e,f,g,l):=h;have c:b≠a:=λz=>j (by rw [z]);exact{b,q,rfl,by rw [o b c];exact e,by rw [m b c];exact f,g,ag.same k xs l}|bC t r=>let(b,s,rfl,n,e,f,g,l):=h;have c:b≠a:=λz=>j (by rw [z]);exact{b,s,rfl,n,by rw [o b c];exact e,by rw [m b c];exact f,g,ag.same k r l}|aG=>exact h.elim|bl _=>exact h.elim|int _=>exact h.elim|str _=>exact h.elim|tup _=>exact h.elim|exc _=>exact h.elim
def getElem?_modify{a:Type}(l:List a)(i j:Nat)(f:a->a):(l.modify i f)[j]?=if i=j then(l[j]?).map f else l[j]?:=by rw [List.getElem?_modify];split<;>simp_all
def tW(r:SR W H0 env σ G H)(g:aA W G0 H0 G H){i:Nat}{a:i6}{ob f:HO}{m:Hp}(F:env[i]?=ia (.own p))(M:σ[i]?=ia (ia (.ref a)))(I:Own W H0 G H p (.ref a))(hH:H a=ia ob)(A:G a=ie)(C:H0 a=ie)
 (R:∀K,az G K->K a=ia f->Rep W K p (.ref a)) (S:m a=ia f) (o:∀b,b≠a->m b=H b):SR W H0 (env.modify i qV) σ (upd G a f) m/\aA W G0 H0 (upd G a f) m:=by
 have w:az G (upd G a f):=bS A
 have sub:az (upd G a f) m:=λb u e=>by
  by_cases d:b=a
  .subst d;rw [ak] at e;cases e;exact S
  .rw [ae d] at e;rw [o b d];exact r.sub _ _ e
 have base:∀{B:Hp},B a=ie->iP B H->iP B m:=λhB k b u e=>by
  have d:b≠a:=λz=>by rw [z,hB] at e;cases e
  rw [o b d];exact k b u e
 refine{{by rw [List.length_modify];exact r.len,sub,base C r.base,λj s e=>?_,λj l q T c D N U V=>?_,sf r.tab A I.Dz o,sf r.pf A (λps z=>by rw [C] at z;cases z) λ_ _=>rfl},{g.g.trans w,base C g.h,sub,λb O X Y=>?_,λt=>sf (g.tab t) A I.Dz o}}
 .rw [getElem?_modify] at e;split at e
  .rename_i z;subst z;rw [F] at e;cases e;exact{_,M,_,rfl,R _ w ak}
  .rename_i z;let(Z,P,E):=r.slot j s e
   refine{Z,P,?_};cases s with
   |no=>exact trivial|val q=>let(y,rfl,L):=E;exact{y,rfl,Rep.same w q L}|fn _ _ _=>let(y,rfl,L):=E;exact{y,rfl,L.same w}|Fp ay=>let(b,D,Q,f2,f3,n):=E;have d:=I.Pw Q;exact{b,D,by rw [o b d];exact Q,by rw [ae d];exact f2,f3,n}|own q=>let(y,rfl,ov):=E;refine{y,rfl,ov.fe (a:=a) (λzz=>?_) w (λb d=>ae d) o};subst zz;exact z (r.apart i j p q a F e M P)
 .rw [getElem?_modify] at D N;have ne:∀{j:Nat} {q:PV},(if i=j then(env[j]?).map qV else env[j]?)=ia (.own q)->i≠j/\env[j]?=ia (.own q):=λ{j q} e=>by
   split at e
   .rename_i z;subst z;rw [F] at e;cases e
   .rename_i z;exact⟨z,e⟩
  exact r.apart j l q T c (ne D).2 (ne N).2 U V
 .have d:b≠a:=λz=>O (by rw [z];exact C);rw [ae d];exact g.own b O X Y
def KU(r:SR W H0 env σ G H)(g:aA W G0 H0 G H)(i:Nat):(∃c,SR W H0 (env.modify i qV) σ c H/\aA W G0 H0 c H)\/∃a d,H a=ia (.dT d)/\∀o,∃c,SR W H0 (env.modify i qV) σ c (upd H a (.bq o (.dT d)))/\aA W G0 H0 c (upd H a (.bq o (.dT d))):=by
 have same:(∀p,env[i]?≠ia (.own p))->env.modify i qV=env:=λh=>by
  refine List.ext_getElem? λj=>?_;rw [getElem?_modify];split
  .rename_i e;subst e;cases q:env[i]? with
   |none=>rfl|some s=>
    cases s with
    |own p=>exact absurd q (h p)|no=>rfl|val p=>rfl|fn _ _ _=>rfl|Fp _=>rfl
  .rfl
 by_cases w:∃p,env[i]?=ia (.own p)
 .let(p,k):=w;let(o,y,v,rfl,A):=r.slot i _ k;have B:=A;obtain⟨a,F,rfl,f,C,D,m|⟨d,rfl,m⟩⟩:=A.JN
  .let(t,u):=tW r g k y B f C D m f λZ Z=>rfl;exact .inl {_,t,u}
  .refine .inr {a,d,f,λo=>?_};let(t,u):=tW r g k y B f C D (m o) ak λb E=>ae E;exact{_,t,u}
 .exact .inl {G,by rw [same λp z=>w ⟨p,z⟩];exact r,g}
def kO(r:SR W H0 env σ G H)(g:aA W G0 H0 G H){i:Nat}{p':PV}{a:i6}{ob:HO}(k:env[i]?=ia (.own p))(hs:σ[i]?=ia (ia (.ref a)))(F:G a=ie)(I:H0 a=ie)(M:Own W H0 G (upd H a ob) p' (.ref a)):
 SR W H0 (env.set i (.own p')) σ G (upd H a ob)/\aA W G0 H0 G (upd H a ob):=by
 have N:i<env.length:=(cP.mp k).1;have O:Own W H0 G H p (.ref a):=by let(y,d,A,rfl,B):=r.slot i _ k;rw [hs] at d;cases d;exact B
 have P:∀Q,H a≠ia (.gK Q):=by let(y,d,A,rfl,B):=r.slot i _ k;rw [hs] at d;cases d;exact B.Dz
 have tab:∀{K:Hp},cH W K H->cH W K (upd H a ob):=λt=>t.same (az.refl _) (λ_ _ _ h=>h) (si P);refine{{by rw [List.length_set];exact r.len,λb u e=>?_,λb u e=>?_,λj s e=>?_,λj l q Z c C R S T=>?_,tab r.tab,r.pf},{g.g,λb u e=>?_,λb u e=>?_,g.own,λt=>tab (g.tab t)}}
 .rw [ae (λz=>by subst z;rw [F] at e;cases e)];exact r.sub _ _ e
 .rw [ae (λz=>by subst z;rw [I] at e;cases e)];exact r.base _ _ e
 .by_cases f:i=j
  .subst f;rw [gv N] at e;cases e;exact{_,hs,_,rfl,M}
  .rw [ed f] at e;let(y,d,m):=r.slot j s e
   refine{y,d,?_};cases s with
   |no=>exact trivial|val q=>exact m|fn _ _ _=>exact m|Fp ay=>let(b,C,o,D,U,n):=m;have w:=O.Pw o;exact{b,C,by rw [ae w];exact o,D,U,n}|own q=>let(A,rfl,V):=m;refine{A,rfl,V.fe (a:=a) (λX=>?_) (az.refl _) (λb w=>rfl) λb w=>ae w};subst X;exact f (r.apart i j p q a k e hs d)
 .have L:∀{j:Nat} {q:PV},(env.set i (.own p'))[j]?=ia (.own q)->∃E,env[j]?=ia (.own E):=λ{j q} e=>by
   by_cases f:i=j
   .subst f;exact⟨p,k⟩
   .rw [ed f] at e;exact⟨q,e⟩
  let(E,o):=L C;let(Y,D):=L R;exact r.apart j l E Y c o D S T
 .rw [ae (λz=>by subst z;rw [I] at e;cases e)];exact g.h _ _ e
 .rw [ae (λz=>by subst z;rw [F] at e;cases e)];exact g.sub _ _ e
def DI(r:SR W H0 env σ G H)(g:aA W G0 H0 G H){i:Nat}{ob:HO}(t:i<env.length)(w:H a=ie)(B:Own W H0 G (upd H a ob) p (.ref a)):
 SR W H0 (env.set i (.own p)) (σ.set i (ia (.ref a))) G (upd H a ob)/\aA W G0 H0 G (upd H a ob):=by
 have y:aA W G H G (upd H a ob):=.TH r.sub w;have m:=r.grow y;have o:∀{j:Nat} {q:PV},env[j]?=ia (.own q)->σ[j]?=ia (ia (.ref a))->False:=λ{j q} f h=>by let(z,u,F,rfl,C):=r.slot j _ f;rw [h] at u;cases u;let(I,K,b,A,_):=C.JN;cases b;rw [w] at A;cases A
 refine{{by rw [List.length_set,List.length_set];exact r.len,m.sub,m.base,λj s e=>?_,λj l q D c f h b k=>?_,m.tab,m.pf},g.trans y}
 .by_cases d:i=j
  .subst d;rw [gv t] at e;cases e;exact{_,gv (by rw [<-r.len];exact t),_,rfl,B}
  .rw [ed d] at e;let(z,u,E):=m.slot j s e;exact{z,by rw [ed d];exact u,E}
 .by_cases d:i=j
  .by_cases hl:i=l
   .exact d.symm.trans hl
   .exfalso;subst d;rw [gv (by rw [<-r.len];exact t)] at b;rw [ed hl] at h k;cases b;exact o h k
  .by_cases hl:i=l
   .exfalso;subst hl;rw [gv (by rw [<-r.len];exact t)] at k;rw [ed d] at f b;cases k;exact o f b
   .rw [ed d] at f b;rw [ed hl] at h k;exact r.apart j l q D c f h b k
end
abbrev jX:E->Bool
 |.lst _=>ig|.comp _ _ _ _ _=>ig|.ei _ _ _ _ _ _=>ig|_=>iv
abbrev rq:jj->Bool
 |.ListComp .. =>iv|.SetComp .. =>iv|.DictComp .. =>iv|_=>ig
abbrev Uy(sc:kv)(x:Str)(a:Pos):jj->Bool
 |.ListComp _ _ s p=>sc.names.lookup x==ia .local&&a.line==p.line&&!(s.names.any λ(n,k)=>n==x&&(k==.local||k==.cell))
 |_=>iv
abbrev NP(ts:List jj):Option Str:=(gq ts).bind fD
abbrev Rm(e:jj):Option (Str×Str×List jj):=(Fj e).bind λq=>(N9 q.1).bind λr=>(fD r.1).bind λx=>if(q.2.2.1.isEmpty&&r.2.2.endLine==q.2.2.2.line)=ig then ia (x,r.2.1,q.2.1) else ie
abbrev Wj(e:jj):Option (Str×lq×jj×kv):=(Fj e).bind λq=>(fD q.1).bind λf=>(gq q.2.1).bind λa=>(fD a).bind λx=>(LR q.2.2.1).bind λr=>(Rk r.2).bind λl=>if(f=="min"&&r.1=="key")=ig then ia (x,l.1,l.2.1,l.2.2) else ie
def LZ{c:Str×lq×jj×kv}(h:Wj e=ia c):∃s t u w y,e=.Call (.Name "min" s) [.Name c.1 t] [{ia "key",.Lambda c.2.1 c.2.2.1 c.2.2.2 u,w}] y:=by let((f,a,k,p),z,h):=ko h;let(g,A,h):=ko h;let(b,B,h):=ko h;let(x,C,h):=ko h;let((n,v),D,h):=ko h;let((F,G,H),E,h):=ko h;let(d,rfl):=if1 h;rw [zza,zzy,zzy] at d;let(rfl,i):=d;let(I,j):=bR A;let(p4,m):=bR C;let(K,o):=C8 D;let(L,q):=nj E;have r:=dA B;dsimp only at j r m o q i;subst j r m o q i;exact{_,_,_,_,_,i3 z}
abbrev Wl(e:jj):Option (jj×lq×jj×kv):=(Fj e).bind λq=>(fD q.1).bind λf=>(gq q.2.1).bind λa=>(LR q.2.2.1).bind λr=>(Rk r.2).bind λl=>if(f=="min"&&r.1=="key")=ig then ia (a,l.1,l.2.1,l.2.2) else ie
def L0{c:jj×lq×jj×kv}(h:Wl e=ia c):∃r s t u,e=.Call (.Name "min" r) [c.1] [{ia "key",.Lambda c.2.1 c.2.2.1 c.2.2.2 s,t}] u:=by let((f,a,k,p),w,h):=ko h;let(g,y,h):=ko h;let(b,z,h):=ko h;let((n,v),A,h):=ko h;let((C,D,E),B,h):=ko h;let(d,rfl):=if1 h;rw [zza,zzy,zzy] at d;let(rfl,i):=d;let(F,j):=bR y;let(G,m):=C8 A;let(H,o):=nj B;have q:=dA z;dsimp only at j q m o i;subst j q m o i;exact{_,_,_,_,i3 w}
abbrev Hl(x p:Str)(e:jj):Bool:=(M6 e).any λq=>(M6 q.1).any λr=>fD r.1==ia x&&fD r.2==ia p&&(Ot q.2).bind Tq==ia 0
abbrev pY(x:Str)(b:lq)(body:jj)(a:kv):Bool:=match oH b with
 |some [p]=>Hl x p body&&decide (aQ a=[x])&&Ru [p] a&&okN p&&okN x|_=>iv
set_option tactic.hygienic true in
def uC{f:lq}{g:kv}(h:pY x f body g=ig):∃p,oH f=ia [p]/\kf p x f body g/\aQ g=[x]/\okN x=ig:=by
 unfold pY at h;split at h
 .rename_i p e;simp! [zza,zzN] at h;let((((t,k),u),m),j):=h;refine{p,e,{?_,by rw [<-k];exact Ee u,(dH m).1,(dH m).2.1,(dH j).1,(dH j).2.1},k,j};let((a,b),w,y):=ah t;let((c,d),z,i):=ah y;simp! [zza,zzy] at i;let(C,rfl):=r8 w;let(D,o):=r8 z;let(E,q):=bR i.1.1;let(p4,r):=bR i.1.2;let(F,A,B):=ko i.2;let(G,H,s):=vQ A;cases CT B;dsimp only at o q r s;subst q r s o;exact{_,_,_,_,_,_,rfl}
 .cases h
abbrev Ur(ts:List jj):Option (Str×jj):=(gq ts).bind λt=>(M6 t).bind λq=>(fD q.1).bind λx=>ia (x,q.2)
abbrev WA(o:Option jj):Option (Str×Str):=o.bind λe=>(Fj e).bind λq=>(fD q.1).bind λx=>(gq q.2.1).bind λa=>(Ot a).bind λc=>(MZ c).bind λz=>if q.2.2.1.isEmpty=ig then ia (x,z) else ie
abbrev xw:k7->Option (List jj×jj×Pos)
 |.Assign ts v p=>ia (ts,v,p)|_=>ie
def nA{ts:List jj}(h:NP ts=ia x):∃a,ts=[.Name x a]:=by let(t,b,c):=ko h;let(p,rfl):=bR c;exact{p,dA b}
def wj{p:jj}{m:Str}{args:List jj}(h:Rm p=ia (x,m,args)):∃np b d,p=.Call (.Attribute (.Name x np) m b) args [] d/\(b.endLine==d.line)=ig:=by let((f,a,k,s),j,h):=ko h;let((o,t,ap),q,h):=ko h;let(y,r,h):=ko h;let(c,h):=if1 h;cases h;rw [zza] at c;let(u,e):=bR r;have g:=BN q;have i:=List.isEmpty_iff.1 c.1;dsimp only at g e i;subst e g i;exact{_,_,_,i3 j,c.2}
def Ed{ts:List jj}{c:jj}(h:Ur ts=ia (x,c)):∃np sp,ts=[.Subscript (.Name x np) c sp]:=by let(t,e,h):=ko h;let((a,b),f,h):=ko h;let(y,g,h):=ko h;cases h;let(j,d):=bR g;let(k,i):=r8 f;dsimp only at d;subst d i;exact{_,_,dA e}
def MS{o:Option jj}(h:WA o=ia (x,z)):∃np j i cp,o=ia (.Call (.Name x np) [.Constant (.str z) j i] [] cp):=by let(e,m,h):=ko h;let((f,a,k,cp),p,h):=ko h;let(y,q,h):=ko h;let(t,r,h):=ko h;let(c,s,h):=ko h;let(w,u,h):=ko h;let(A,h):=if1 h;cases h;let(D,b):=bR q;let(p4,E,B):=vQ s;have d:=dA r;have C:=Er u;have g:=List.isEmpty_iff.1 A;dsimp only at b d g;subst b C B d g;exact{_,_,_,_,m.trans (congrArg ia (i3 p))}
mutual
noncomputable def fj(Γ:Pg)(N:List Str)(sc:kv):S->k7->Bool
 |.expr e,.Expr p _=>rq p&&bo Γ N sc e p|.set i e,.Assign ts p _=>(NP ts).any λx=>N[i]?==ia x&&fV sc x&&iC e&&bo Γ N sc e p|.own i e,.Assign ts p _=>(NP ts).any λx=>N[i]?==ia x&&fV sc x&&jX e&&bo Γ N sc e p|.app i e,.Expr v _=>(Rm v).any λc=>N[i]?==ia c.1&&fk sc c.1&&okN c.1&&c.2.1==("append":Str)&&iC e&&(gq c.2.2).any λp=>bo Γ N sc e p|.lC i e,.Expr v _=>(Rm v).any λc=>N[i]?==ia c.1&&fk sc c.1&&okN c.1&&c.2.1==("extend":Str)&&(gq c.2.2).any λp=>bo Γ N sc e p|.put i kk e,.Assign ts p _=>(Ur ts).any λc=>N[i]?==ia c.1&&fk sc c.1&&okN c.1&&iC e&&bo Γ N sc kk c.2&&bo Γ N sc e p|.ret e,.Return (ia p) _=>iC e&&bo Γ N sc e p|.ite c a b,.If p k g _=>gF c&&bo Γ N sc c p&&dw Γ N sc a k&&dw Γ N sc b g|.cV o it b,.For h r g f _=>f.isEmpty&&iR N sc (λZ=>ig) o h&&Gw it&&zL Γ N sc h it r&&dw Γ N sc b g|.E4 c b,.While p g f _=>f.isEmpty&&gF c&&bo Γ N sc c p&&dw Γ N sc b g|.raise c m,.Raise ex fr _=>fr.isNone&&(WA ex).any λq=>c==q.1&&m==q.2&&Γ.rs.contains c&&iS sc c&&okN c|.brk,.Break _=>ig|.kC i,.Assign ts (.Dict [] [] _) _=>(NP ts).any λx=>N[i]?==ia x&&fV sc x|.fc i j n,.Assign ts v _=>(Ur ts).any λc=>(fD c.2).any λz=>N[i]?==ia c.1&&fk sc c.1&&okN c.1&&N[n]?==ia z&&fk sc z&&okN z&&(Rm v).any λd=>d.2.1==("pop":Str)&&(gq d.2.2).any λe=>(fD e).any λs=>z==s&&N[j]?==ia d.1&&fk sc d.1&&okN d.1|.fW m e i,.Assign ts v _=>(NP ts).any λy=>(Wl v).any λc=>(N[i]?).any λx=>N[m]?==ia y&&fV sc y&&sc.names.lookup x==ia .cell&&iS sc "min"&&Γ.bs.contains "min"&&Γ.hl&&pY x c.2.1 c.2.2.1 c.2.2.2&&bo Γ N sc e c.1|.nu m i,.Assign ts v _=>(NP ts).any λy=>(Wj v).any λc=>N[m]?==ia y&&fV sc y&&N[i]?==ia c.1&&sc.names.lookup c.1==ia .cell&&iS sc "min"&&Γ.bs.contains "min"&&Γ.hl&&pY c.1 c.2.1 c.2.2.1 c.2.2.2|_,_=>iv
noncomputable def dw(Γ:Pg)(N:List Str)(sc:kv):Ss->List k7->Bool
 |.nil,[]=>ig|.cons (.bq _) ss,ps=>dw Γ N sc ss ps|.cons s ss,p::ps=>fj Γ N sc s p&&dw Γ N sc ss ps|_,_=>iv
end
section
variable{Γ:Pg}{W:Wd}{F:aJ}{sc:kv}{k:Nat}{E:XK}
def SR.go{env:Sl}{a:St}{G H:Hp}(r:SR W H0 env a G H):aA W G H0 G H:={az.refl _,r.base,r.sub,λZ Z Z h=>h,λZ=>r.tab}
def aA.then{c j d e:Hp}(a:aA W G H0 c j)(b:aA W c H0 d e):aA W G H0 d e:={a.g.trans b.g,b.h,b.sub,λx f i m=>b.own x f i (a.own x f i m),λt=>b.tab (t.same a.g a.own λZ Z h=>h)}
def SR.on{d:St}{a b:Hp}(r:SR W H0 env d G H)(g:aA W G H a b):aA W G H0 a b:={g.g,r.base.trans g.h,g.sub,λx c e f=>g.own x (λz=>c (r.base.free z)) (r.base.yy c e) f,λZ=>g.tab r.tab}
def Dn(W:Wd)(H0 G:Hp)(D:Ends):Fl->Prop
 |.nx env=>∀c b a,SR W H0 env c b a->aA W G H0 b a->D.nx c a|.bk env=>∀c b a,SR W H0 env c b a->aA W G H0 b a->D.bk c a|.ct env=>∀c b a,SR W H0 env c b a->aA W G H0 b a->D.ct c a|.rt p=>∀v b a,Rep W b p v->aA W G H0 b a->D.rt v a
def cG(W:Wd)(H0 G:Hp)(E:XK)(r:Res Fl)(D:Ends):Prop:=match r with
 |.ok f=>Dn W H0 G D f|.exc c=>∀a b d,XE W c G H0 a b d->E a b d|.bad=>False
def Dn.on{e i:Hp}{D:Ends}{f:Fl}(h:Dn W H0 G D f)(g:aA W G H0 e i):Dn W H0 e D f:=by
 cases f with
 |nx env=>exact λd a b r c=>h d a b r (g.then c)|bk env=>exact λd a b r c=>h d a b r (g.then c)|ct env=>exact λd a b r c=>h d a b r (g.then c)|rt p=>exact λv a b r c=>h v a b r (g.then c)
def cG.on{b d:Hp}{D:Ends}{r:Res Fl}(h:cG W H0 G E r D)(g:aA W G H0 b d):cG W H0 b E r D:=by
 cases r with
 |ok f=>exact Dn.on h g|exc c=>intro e i j x;let(C,a,m,o,p,q,s,t):=x;exact h e i j {C,a,m,o,p,q,s,g.then t}|bad=>exact h
abbrev tS(W:Wd)(F:aJ)(H0:Hp)(E:XK)(s:S):TS:=λD a H=>∃G env,SR W H0 env a G H/\cG W H0 G E (jh F s env) D
abbrev WM(W:Wd)(F:aJ)(H0:Hp)(E:XK)(a:Ss):TS:=λD b H=>∃G env,SR W H0 env b G H/\cG W H0 G E (aX F a env) D
noncomputable abbrev GS(X:Cx)(W:Wd)(F:aJ)(H0:Hp)(E:XK)(s:S)(p:k7):Prop:=PS X p (tS W F H0 E s)
noncomputable abbrev Bw(X:Cx)(W:Wd)(F:aJ)(H0:Hp)(E:XK)(s:Ss)(p:List k7):Prop:=xn X p (WM W F H0 E s)
def _root_.L2.PS.imp{p:k7}{t t':TS}(h:PS X p t)(i:∀D a H,t' D a H->t D a H):PS X p t':=λb s a H D I c=>h b s a H D I (i D a H c)
def _root_.L2.xn.imp{p:List k7}{t t':TS}(h:xn X p t)(i:∀D a H,t' D a H->t D a H):xn X p t':=λb s a H D I c=>h b s a H D I (i D a H c)
structure eQ(Γ:Pg)(F:aJ)(W:Wd)(N:List Str)(sc:kv)(k:Nat)(E:XK)(X:Cx):Prop where
 C:zv3 X
 fn:∀x,X.fn x=ig
 own:PassesOwn (kn X.prog X.w) X.A X.env X.xe
 pass:Passes (eK X.prog X.w) X E
 kind:sc.kind=.function
 Qb:X.stack=X.env::X.outer
 frame:X.env.frame=ia X.env.locals
 xs:∀c,Γ.rs.contains c=ig->c∈W.xs
 rm:∀c,Γ.rs.contains c=ig->∃C,X.mg c=ia (.ref C)
 rz:Γ.qt=iv->∀(c z:Str) (j:Nat) (np zp cp pos:Pos),Γ.rs.contains c=ig->iS sc c=ig->okN c=ig->PS X (.Raise (ia (.Call (.Name c np) [.Constant (.str z) j zp] [] cp)) ie pos) (λ_ _ H=>∀C e,X.mg c=ia (.ref C)->H e=ie->E (.ref C) (ia e) H)
 QV:Γ.cs.contains (zu 23)=ig->∀c D,c∈W.xs->X.mg c=ia (.ref D)->∀T,X.mg (zu 23)=ia (.ref T)->PySem.W.exmOne X.K (.ref D) (.ref T)=ia ig
theorem Iz(S:zv1 X){c:Str}{j:St}{m:Hp}(g:aA W m H0 G H)(h:∀d o f,XE W c m H0 d o f->E d o f):vH X W j c G H:=λq Q r s e u I w x=>S.pass q j r s e u I (E8.imp x λd a f y=>h d a f (by let(C,A,B,D,K,L,M,O):=y;have b:=w.trans O;exact{C,A,B,D,K,L,M,g.g.trans b.g,g.h.trans b.h,b.sub,λx i p P=>b.own x (λz=>i (g.h.free z)) (g.h.yy i p) (g.own x i p P),λt=>b.tab (g.tab t)}))
def cG.bind{b:Type}(S:zv1 X){r:Res b}{f:b->Res Fl}{D:Ends}{d:St}(e:SR W H0 env d G H)(h:cG W H0 G E (r.bind f) D):Out X W r d G H λa=>cG W H0 G E (f a) D:=by
 cases r with
 |ok a=>exact h|exc c=>exact Iz S e.go h|bad=>exact h
def oV(S:zv1 X){d:St}{e:Ci.E}{f:PV->Res Fl}{D:Ends}(c:SR W H0 env d G H)(o:cG W H0 G E ((aC F e env).bind f) D)
 (h:∀p v a b,aA W G H a b->Got W H0 a b e p v->SR W H0 env d a b->cG W H0 a E (f p) D->Q v b):tE X W F e d H Q:=
 {H0,G,env,c,(o.bind S c).imp λp i v a b g t=>h p v a b g t (c.grow g) (i.on (c.on g))}
def JF(S:zv1 X){i:St}{e:Ci.E}{f:Bool->Res Fl}{D:Ends}{Q:Bool->Hp->Prop}(g:SR W H0 env i G H)(o:cG W H0 G E ((aC F e env).bind λp=>sy p f) D)
 (h:∀b c d,aA W G H c d->SR W H0 env i c d->cG W H0 c E (f b) D->Q b d):tT X W F e i H Q:=by
 refine{H0,G,env,g,(o.bind S g).imp λp a=>?_}
 cases p with
 |bl b=>exact{b,rfl,λc d j=>h b c d j (g.grow j) (cG.on a (g.on j))}|aG=>exact fA a|int _=>exact fA a|str _=>exact fA a|tup _=>exact fA a|lst _=>exact fA a|exc _=>exact fA a|bC _ _=>exact fA a
def PB(S:zv1 X){m:St}{e:Ci.E}{f:PV->Res Fl}{D:Ends}(hl:∀env q,aC F e env=.ok q->∃xs,q=.lst xs)(d:SR W H0 env m G H)(o:cG W H0 G E ((aC F e env).bind f) D)
 (h:∀xs a vs i j,aA W G H i j->j a=ie->ag W i xs vs->SR W H0 env m i j->cG W H0 i E (f (.lst xs)) D->Q (.ref a) (upd j a (.lst vs))):tF X W F e m H Q:=by
 refine{H0,G,env,d,?_};have b:=o.bind S d
 cases r:aC F e env with
 |bad=>rw [r] at b;exact b|exc c=>rw [r] at b;exact b|ok q=>rw [r] at b;let(xs,rfl):=hl env q r;exact{xs,rfl,λa vs p s g t l=>h xs a vs p s g t l (d.grow g) (cG.on b (d.on g))}
def r9{p:jj}{t:Option jj}{l:Nat}{env:Env}(h:rq p=ig):swapsWith p t l env=pure iv:=by
 cases p<;>first|rfl|(exact aY h)
def mf{a:jj}{gens:List Comprehension}{s:kv}{p:Pos}{b:Pos}{l:Nat}(fu:X.env.scope=sc)(hk:sc.kind=.function):swapsWith (.ListComp a gens s p) (ia (.Name x b)) l X.env=pure (Uy sc x b (.ListComp a gens s p)):=by
 have c:X.env.blockKind=.function:=by unfold Env.blockKind;rw [fu,hk];rfl
 show(pure (X.env.blockKind==.function&&X.env.kindOf x==ia .local&&b.line==p.line&&!(s.names.any λ(n,k)=>n==x&&(k==.local||k==.cell))):Sem Bool)=_;rw [c];show(pure (ig&&X.env.scope.names.lookup x==ia .local&&_&&_):Sem Bool)=_;rw [fu];rfl
theorem GO(S:zv1 X){e:Ci.E}{p:jj}(he:GE X W F e p)(b:rq p=ig):GS X W F H0 E (.expr e) (.Expr p pos):=
 L2.PS.imp (rH he (r9 b)) λD c H h=>by let(G,env,d,o):=h;rw [jh] at o;exact oV S d o λq v f i g t a j=>j c f i a a.go
theorem Lg(S:zv1 X){e:Ci.E}{p:jj}(a:iC e=ig)(he:GE X W F e p):GS X W F H0 E (.ret e) (.Return (ia p) pos):=
 L2.PS.imp (MH he) λD j H h=>by let(G,env,b,o):=h;rw [jh] at o;exact oV S b o λq v c d g t f i=>i v c d (t.rep a) f.go
theorem Ld:GS X W F H0 E .brk (.Break pos):=
 L2.PS.imp D4 λD b H h=>by let(G,env,a,o):=h;rw [jh] at o;exact o b G H a a.go
theorem Ct(S:zv1 X)(d:Γ.qt=iv){c m:Str}{j:Nat}{a cp:Pos}(b:Γ.rs.contains c=ig)(f:iS sc c=ig)(g:okN c=ig):GS X W F H0 E (.raise c m) (.Raise (ia (.Call (.Name c np) [.Constant (.str m) j a] [] cp)) ie pos):=
 L2.PS.imp (S.rz d c m j np a cp pos b f g) λD p H h C e hC q=>by let(G,env,i,o):=h;rw [jh] at o;exact o _ _ _ {C,e,G,rfl,rfl,S.xs c b,by rw [S.C.mg];exact hC,i.go}
def eR(S:zv1 X){i:Nat}(h:N[i]?=ia x)(hl:fV sc x=ig):X.N.Nodup/\X.N[i]?=ia x/\Loc X.env.scope x:=by refine{by rw [S.C.hN];exact S.C.nd,by rw [S.C.hN];exact h,Dj S.C.fu hl}
def Lh(S:zv1 X){i:Nat}{e:Ci.E}{p:jj}{a:Pos}(h:N[i]?=ia x)(hl:fV sc x=ig)(c:iC e=ig)(he:GE X W F e p)(hs:swapsWith p (ia (.Name x a)) pos.line X.env=pure iv):GS X W F H0 E (.set i e) (.Assign [.Name x a] p pos):=by let(d,f,j):=eR S h hl;refine L2.PS.imp (nK d f j he hs (.inl (S.fn x))) λD w H h=>?_;let(G,env,m,o):=h;rw [jh] at o;exact oV S m o λq v r s g t b u=>u _ r s (b.set i (t.rep c)) b.go
abbrev NS(X:Cx)(W:Wd)(F:aJ)(i:Nat)(e:Ci.E):TS:=λD a H=>tF X W F e a H λv b=>D.nx (a.set i (ia v)) b
def Qi{e:Ci.E}(hl:∀env q,aC F e env=.ok q->∃xs,q=.lst xs)(b:St)(H:Hp)(Q:VK)(h:tE X W F e b H Q):tF X W F e b H Q:=by
 let(H0,G,env,f,o):=h
 refine{H0,G,env,f,?_};cases r:aC F e env with
 |bad=>rw [r] at o;exact o|exc c=>rw [r] at o;exact o|ok q=>rw [r] at o;let(xs,rfl):=hl env q r;exact{xs,rfl,λa i j m g d l=>o _ _ _ (g.trans (.new g.sub d)) (.of (.l (.inl (.inl ak)) (ag.same (bS (g.sub.free d)) xs l)))}
theorem GV(S:zv1 X){i:Nat}{e:Ci.E}{p:k7}(hl:∀env q,aC F e env=.ok q->∃xs,q=.lst xs)(b:iC e=ig)(h:PS X p (NS X W F i e)):GS X W F H0 E (.set i e) p:=
 L2.PS.imp h λD c H d=>by let(G,env,f,o):=d;rw [jh] at o;refine Qi hl c H _ (oV S f o λq v j m g t a r=>?_);exact r _ j m (a.set i (t.rep b)) a.go
def GU(S:zv1 X){i:Nat}{e:Ci.E}{p:k7}(m:N[i]?=ia x)(hl:∀env q,aC F e env=.ok q->∃xs,q=.lst xs)(h:PS X p (NS X W F i e)):GS X W F H0 E (.own i e) p:=by
 intro r s d H D I t;have u:i<d.length:=by rw [I.len,S.C.hN];exact(cP.mp m).1
 refine h r s d H D I ?_;let(G,env,w,o):=t;rw [jh] at o;refine PB S hl w o λxs a f j y g c l b z=>?_;have A:Own W H0 j (upd y a (.lst f)) (.lst xs) (.ref a):={a,f,rfl,ak,b.sub.free c,b.base.free c,l};let(B,K):=DI b b.go (i:=i) (by rw [b.len];exact u) c A;exact z _ j _ B K
def rG{i:Nat}{e:Ci.E}{p:jj}{a:Pos}(S:zv1 X)(h:N[i]?=ia x)(hl:fV sc x=ig)(he:GF X W F e p)(hs:swapsWith p (ia (.Name x a)) pos.line X.env=pure iv):PS X (.Assign [.Name x a] p pos) (NS X W F i e):=by let(b,c,d):=eR S h hl;exact nK b c d he hs (.inl (S.fn x))
def BM(S:zv1 X)(q:Γ.qt=iv){i:Nat}{r t:Pos}(u:N[i]?=ia x)(w:fV sc x=ig){j:List Nat}{d:Tg}{b:Ci.E}{c m:jj}{a:kv}{pos:Pos}(h:mj N sc a kk j (aF c))(y:oh kk d=ig)(B:iC b=ig)(G:GI X W F c it e)(uh:∀x,foldedSetIterable e X.env x=pure x)
 (L:iR (aF c++freeOf a) (dB a sc) (nE a) d c=ig) (he:∀Y,dY Γ.EY F W (aF c++freeOf a) (dB a sc) k Y->GE Y W F b m):PS X (.Assign [.Name x r] (.ListComp m [{c,e,[],0}] a pos) t) (NS X W F i (.comp kk j d it b)):=by
 let(O,P,R):=eR S u w
 cases M:Uy sc x r (.ListComp m [⟨c,e,[],0⟩] a pos) with
 |false=>exact rG S u w (xU S.C q h y B G uh L he) (by rw [mf S.C.fu S.kind,M])|true=>
  intro T s f H D I U;have V:(freeOf a).Nodup:=(List.nodup_append.mp h.nd).2.1;have rd:=xG (N:=N) S.C.K y B h.slots V f H _ U
  have:=wO (g:=gT X.K d) (te:=tN W F b) (xs:=aF c) (ys:=freeOf a) (is:=j) (pos:=pos) O P R (S.C.calm q) (qO S.C.hN S.C.fu I.ok h) G
   (λfp o p A=>DS (fn:=nE a) (X:=bV X (aF c++freeOf a) a (bG X.env (freeOf a)) fp o p A) rfl h.nd (f6 S.C.fu) rfl (λZ z=>z) L)
   (λfp o p A=>L2.PE.imp (he _ (fM S.C h fp o p A)) λf H Q z=>yZ f H Q z) (by rw [mf (l:=t.line) S.C.fu S.kind,M]) uh (.inl (S.fn x)) T s f H D I
  rw [h.len] at this;exact this rd
def vL(S:zv1 X)(t:Γ.qt=iv){i:Nat}{u w:Pos}(y:N[i]?=ia x)(B:fV sc x=ig){p:List Nat}{m:Tg}{c d:Ci.E}{b o q r:jj}{a:kv}{pos:Pos}(h:mj N sc a kk p (aF b))(G:oh kk m=ig)(L:iC d=ig)(M:GI X W F b it o)(uh:∀x,foldedSetIterable o X.env x=pure x)
 (O:iR (aF b++freeOf a) (dB a sc) (nE a) m b=ig) (P:∀Y,dY Γ.EY F W (aF b++freeOf a) (dB a sc) k Y->GT Y W F c q) (he:∀Y,dY Γ.EY F W (aF b++freeOf a) (dB a sc) k Y->GE Y W F d r):PS X (.Assign [.Name x u] (.ListComp r [{b,o,[q],0}] a pos) w) (NS X W F i (.ei kk p m it c d)):=by
 let(T,U,V):=eR S y B
 cases R:Uy sc x u (.ListComp r [⟨b,o,[q],0⟩] a pos) with
 |false=>exact rG S y B (pR S.C t h G L M uh O P he) (by rw [mf S.C.fu S.kind,R])|true=>
  intro Z s e H D I hq;have L1:(freeOf a).Nodup:=(List.nodup_append.mp h.nd).2.1;have rd:=pH (N:=N) S.C.K G L h.slots L1 e H _ hq
  have:=rJ (g:=gT X.K m) (tt:=Ry W F c) (te:=tN W F d) (xs:=aF b) (ys:=freeOf a) (is:=p) (pos:=pos) T U V (S.C.calm t) (qO S.C.hN S.C.fu I.ok h) M
   (λfp f j A=>DS (fn:=nE a) (X:=bV X (aF b++freeOf a) a (bG X.env (freeOf a)) fp f j A) rfl h.nd (f6 S.C.fu) rfl (λ_ z=>z) O)
   (λfp f j A=>L2.PT.imp (P _ (fM S.C h fp f j A)) λe H Q z=>Ey e H Q z)
   (λfp f j A=>L2.PE.imp (he _ (fM S.C h fp f j A)) λe H Q z=>yZ e H Q z) (by rw [mf (l:=w.line) S.C.fu S.kind,R]) uh (.inl (S.fn x)) Z s e H D I
  rw [h.len] at this;exact this rd
def AH{a:Tg}(c:Str):Tg.put a p env≠.exc c:=by unfold Tg.put;split<;>exact nofun
theorem Cs(S:zv1 X){c:Ci.E}{a b:Ss}{p:jj}{e f:List k7}(m:GT X W F c p)(q:Bw X W F H0 E a e)(r:Bw X W F H0 E b f):GS X W F H0 E (.ite c a b) (.If p e f pos):=
 L2.PS.imp (PU m q r) λD u H h=>by
  let(G,env,s,o):=h;rw [jh] at o;refine JF S s o λt i w g j d=>?_
  cases t with
  |true=>rw [if_pos rfl] at d⊢;exact⟨i,env,j,d⟩|false=>rw [if_neg zzf] at d⊢;exact⟨i,env,j,d⟩
theorem Li(S:zv1 X){c:Ci.E}{b:Ss}{p:jj}{K:List k7}(O:GT X W F c p)(P:Bw X W F H0 E b K):GS X W F H0 E (.E4 c b) (.While p K [] pos):=
 L2.PS.imp (D6 S.own O P) λD Y H h=>by
  let(G,env,L,o):=h;rw [jh] at o;refine{λm s B=>∃z u,SR W H0 u s z B/\aA W G H0 z B/\cG W H0 z E (dD (aC F c) (aX F b) m u) D,{_,G,env,L,L.go,o},?_}
  rintro m s B ⟨z,u,w,Q,C⟩
  cases m with
  |zero=>exact C.elim|succ m=>
   unfold dD at C;refine JF S w C λt A R T I d=>?_
   cases t with
   |false=>rw [if_neg zzf] at d⊢;exact d s A R I I.go|true=>
    rw [if_pos rfl] at d⊢;refine{λa g=>∃e i,SR W H0 i a e g/\aA W G H0 e g/\cG W H0 e E (dD (aC F c) (aX F b) m i) D,λa g U=>{m,Nat.lt_succ_self _,U},A,u,I,?_};have M:=Q.then (w.on T)
    cases r:aX F b u with
    |bad=>rw [r] at d;exact d.elim|exc cc=>rw [r] at d;exact d|ok f=>
     rw [r] at d;cases f with
     |nx i=>exact λa e g y j=>{e,i,y,M.then j,cG.on (show cG W H0 A E (dD (aC F c) (aX F b) m i) D from d) j}|ct i=>exact λa e g y j=>{e,i,y,M.then j,cG.on (show cG W H0 A E (dD (aC F c) (aX F b) m i) D from d) j}|bk i=>exact λa e g y j=>d a e g y j|rt q=>exact λv e g V j=>d v e g V j
def Le(S:zv1 X)(vC:Γ.qt=iv){P:Tg}{b:Ss}{du gN:jj}{pb:List k7}(CK:iR N sc (λ_=>ig) P du=ig)(hit:Gw it=ig)(hi:GI X W F du it gN)(uh:∀x,foldedSetIterable gN X.env x=pure x)(hb:Bw X W F H0 E b pb):GS X W F H0 E (.cV P it b) (.For du gN pb [] pos):=
 L2.PS.imp (MG S.own (S.C.calm vC) hi (DS (fn:=λ_=>ig) S.C.hN S.C.nd S.C.fu (S.C.calm vC) (λx _=>S.fn x) CK) hb uh) λD σ H h=>by
  let(G,env,V,o):=h;rw [jh] at o;refine{H0,G,env,V,(o.bind S V).imp λd lW J G1 H1 g1 gi=>?_};have bq:=gi.bq hit;generalize hf:(λ(x:PV) (env:Sl)=>(P.put x env).bind λe=>aX F b e)=f at lW;have bI:=V.grow g1;refine{λi m y Q=>i<=d.length/\m=d.length-i/\∃M e,SR W H0 e y M Q/\aA W G1 H0 M Q/\cG W H0 M E (forL f (d.drop i) e) D,{_,Nat.zero_le _,rfl,G1,env,bI,bI.go,by rw [List.drop_zero];exact cG.on lW (V.on g1)},?_}
  rintro i m y Q ⟨EU,hm,M,e,j,g',t⟩
  let(ist,igo):=bq i M Q g'.g (.of (g'.g.trans j.sub)) j.sub;by_cases s:i=d.length
  .refine .inl {ist s,?_};rw [s,List.drop_length] at t;exact t y M Q j j.go
  .have Y:i<d.length:=by omega
   let(hgo,R):=igo d[i] (zzg Y);refine .inr {hgo,λz H2=>i+1<=d.length/\∃G2 O,SR W H0 O z G2 H2/\aA W G1 H0 G2 H2/\cG W H0 G2 E (forL f (d.drop (i+1)) O) D,λz H2 h2=>{d.length-(i+1),by omega,h2.1,rfl,h2.2},λx mr hy=>?_};let(Z,A,rx):=R x mr hy;rw [List.drop_eq_getElem_cons Y] at t;unfold forL at t;have XI:f d[i] e=(P.put d[i] e).bind λe=>aX F b e:=by rw [<-hf]
   rw [XI] at t;have eF:=j.grow A;have g2:=g'.then (j.on A)
   cases r:P.put d[i] e with
   |bad=>rw [r] at t;exact t.elim|exc c=>exact absurd r (AH c)|ok O=>
    rw [r] at t;refine vU S.C.K r eF rx λz sr3=>{Z,O,sr3,?_}
    have u:cG W H0 Z E ((aX F b O).bind λfl=>match fl with
     |.nx e=>forL f (d.drop (i+1)) e|.ct e=>forL f (d.drop (i+1)) e|.bk e=>.ok (.nx e)|.rt p=>.ok (.rt p)) D:=cG.on t (j.on A)
    cases r2:aX F b O with
    |bad=>rw [r2] at u;exact u.elim|exc cc=>rw [r2] at u;exact u|ok fl=>
     rw [r2] at u;cases fl with
     |nx a=>exact λB L T U w=>{Y,L,a,U,g2.then w,cG.on (show cG W H0 Z E (forL f (d.drop (i+1)) a) D from u) w}|ct a=>exact λB L T U w=>{Y,L,a,U,g2.then w,cG.on (show cG W H0 Z E (forL f (d.drop (i+1)) a) D from u) w}|bk a=>exact λB L T U w=>u B L T U w|rt q=>exact λv L T rv w=>u v L T rv w
theorem xV:Bw X W F H0 E .nil []:=L2.xn.imp Iv λD b H h=>by let(G,env,a,o):=h;rw [aX] at o;exact o b G H a a.go
theorem uf{s:Ci.S}{b:Ss}{p:k7}{ps:List k7}(d:GS X W F H0 E s p)(e:Bw X W F H0 E b ps):Bw X W F H0 E (.cons s b) (p::ps):=
 L2.xn.imp (D7 d e) λD u H h=>by
  let(G,env,g,o):=h
  rw [aX] at o;refine{G,env,g,?_};cases r:jh F s env with
  |bad=>rw [r] at o;exact o|exc c=>rw [r] at o;exact o|ok f=>
   rw [r] at o;cases f with
   |nx a=>exact λi j w m t=>{j,a,m,cG.on (show cG W H0 G E (aX F b a) D from o) t}|bk a=>exact o|ct a=>exact o|rt q=>exact o
def GX{i:Nat}{c:Ss}{ps:List k7}(h:Bw X W F H0 E c ps):Bw X W F H0 E (.cons (.bq i) c) ps:=by
 intro f s g H D I m;let(G,env,j,o):=m
 rw [aX,jh] at o;rcases KU j j.go i with⟨d,b,e⟩|⟨a,r,p,k⟩
 .exact h f s g H D I {d,_,b,cG.on (show cG W H0 G E (aX F c (env.modify i qV)) D from o) e}
 .let(q,J):=I.freeze p;let(d,b,e):=k q;exact h f s g _ D J {d,_,b,cG.on (show cG W H0 G E (aX F c (env.modify i qV)) D from o) e}
def wt(hK:W.K=X.K):Bz X "list.extend" (λx vs H Q=>∃l b xs zs,x=.ref l/\vs=[.ref b]/\H l=ia (.lst xs)/\so W.K H b zs/\xs.length+zs.length<=k6/\Q .aG (upd H l (.lst (xs++zs)))):=by
 intro w s y H x vs v A Q I g i h;let(l,b,xs,zs,rfl,rfl,f,hB,B,q):=h;cases g;let(u,rfl,j):=Vals.one i;cases j;let(z,a,n,r,hl,e):=I.Pt f;let(c,m,o,C,D,p):=LW hK I hB;have d:a.toArray.size+c.toArray.size<=sizeLine:=by rw [a7,a7];omega
 have t:¬(!a.toArray.isEmpty&&la.List.listTooLong (a.toArray.size+c.toArray.size))=ig:=by rw [uN d,Bool.and_false];exact zzf
 refine PySem.call_meets PySem.F.slot_list_extend {_,e,rfl} PySem.F.entry_list_extend (PySem.F.args_list_extend_2 _ _)
  (PySem.AutoSeq1.list_extend_list_list_0 l a.toArray n b c.toArray m t (by rw [a7];omega) (by omega)) {e,p,?_}
 refine{.aG,_,I.Pr (its':=a++c) f e (by simp) (r.append o) ?_,rfl,q};rw [dj];omega
def jc(S:zv1 X){i:Nat}(h:N[i]?=ia x)(b:fk sc x=ig)(a:okN x=ig):PE X (.Name x pos) (se i):=
 dR (by rw [S.C.hN];exact h) (ox S.C b) (dH a).1 (dH a).2.1
def rB{b:St}{i:Nat}(c:SR W H0 env b G H)(h:env[i]?=ia (.own (.lst xs))):∃a vs,b[i]?=ia (ia (.ref a))/\H a=ia (.lst vs)/\G a=ie/\H0 a=ie/\ag W G xs vs:=by let(o,d,v,rfl,a,vs,rfl,e,f,g,l):=c.slot i _ h;exact⟨a,vs,d,e,f,g,l⟩
set_option tactic.hygienic true in
def Lc(S:zv1 X){i:Nat}{e:Ci.E}{p:jj}{b j:Pos}(h:N[i]?=ia x)(A:fk sc x=ig)(B:okN x=ig)(C:(b.endLine==j.line)=ig)(I:iC e=ig)(he:GE X W F e p)
 (d:∀env ps,starEach (p::ps) env=(iv,eval p env)::starEach ps env):GS X W F H0 E (.app i e) (.Expr (.Call (.Attribute (.Name x np) "append" b) [p] [] j) pos):=by
 refine L2.PS.imp (rH (nJ PySem.F.plainAttrs_list PySem.F.slot_list_append PySem.F.type_list_append Av (jc S h A B) (cZ he gu (d _ _)) rfl (by rw [d];rfl) C (d _ _) rfl) rfl) λD T H K=>?_;let(G,env,m,o):=K;rw [jh] at o;split at o
 .rename_i xs r;let(a,s,hs,c,L,u,l):=rB m r;refine{.ref a,hs,.inl {rfl,_,iX.of c},oV S m o λq v M U g t w f=>?_};split at f
  .rename_i hl;have O:=g.h.at c (λZ z=>nomatch z);have y:=g.own a (by rw [c];exact nofun) (by rw [c];exact λZ z=>nomatch z) L;have P:=ag.same g.g xs l;refine{a,s,v,rfl,rfl,O,by rw [l.length];exact eo hl (by decide),?_};let(Q,R):=kO (p':=.lst (xs++[q])) (ob:=.lst (s++[v])) w w.go r hs y u {a,_,rfl,ak,y,u,P.append (.cons (t.rep I) .nil)};exact f _ M _ Q R
  .exact f.elim
 .exact o.elim
set_option tactic.hygienic true in
def GP(S:zv1 X){i:Nat}{e:Ci.E}{p:jj}{c r:Pos}(h:N[i]?=ia x)(I:fk sc x=ig)(L:okN x=ig)(M:(c.endLine==r.line)=ig)(he:GE X W F e p)
 (j:∀env ps,starEach (p::ps) env=(iv,eval p env)::starEach ps env):GS X W F H0 E (.lC i e) (.Expr (.Call (.Attribute (.Name x np) "extend" c) [p] [] r) pos):=by
 refine L2.PS.imp (rH (nJ PySem.F.plainAttrs_list PySem.F.slot_list_extend PySem.F.type_list_extend (wt S.C.K) (jc S h I L) (cZ he gu (j _ _)) rfl (by rw [j];rfl) M (j _ _) rfl) rfl) λD σ H O=>?_;let(G,env,s,o):=O;rw [jh] at o;split at o
 .rename_i xs u;let(a,w,hs,f,P,y,l):=rB s u;refine{.ref a,hs,.inl {rfl,_,iX.of f},oV S s o λq v Q H1 g t m d=>?_};split at d
  .rename_i R;split at d
   .rename_i hl;have T:=g.h.at f (λ_ z=>nomatch z);have A:=g.own a (by rw [f];exact nofun) (by rw [f];exact λ_ z=>nomatch z) P;have U:=ag.same g.g xs l;let(b,B,rfl,V,lb):=t.top.lst m.sub;refine{a,b,w,B,rfl,rfl,T,V,by rw [l.length,lb.length];exact ni hl,?_};let(Y,Z):=kO (p':=.lst (xs++R)) (ob:=.lst (w++B)) m m.go u hs A y {a,_,rfl,ak,A,y,U.append lb};exact d _ Q _ Y Z
   .exact d.elim
  .exact d.elim
 .exact o.elim
def PY:V->V->V->Hp->(Hp->Prop)->Prop:=λo i v H Q=>∃a b,o=.ref a/\zj H a i v b/\Q b
def yN(b:X.A.units+3<cLine):sF X PY:=by intro m s p H o i v r t u Q I c d e h;let(a,f,rfl,g,q):=h;cases c;exact zQ b I g d e λw j=>⟨f,j,q⟩
def sF.or{t t':Fd}(h:sF X t)(h':sF X t'):sF X (λo i v H Q=>t o i v H Q\/t' o i v H Q):=by
 intro a s b H o i v c d u Q I e f g q;rcases q with q|q
 .exact h a s b H o i v c d u Q I e f g q
 .exact h' a s b H o i v c d u Q I e f g q
def j4{b:St}{i:Nat}(c:SR W H0 env b G H)(h:env[i]?=ia (.own (.bC ks ps))):∃a us,b[i]?=ia (ia (.ref a))/\ks.length=us.length/\H a=ia (.dT (kz ks us))/\G a=ie/\H0 a=ie/\ag W G ps us:=by let(o,d,v,rfl,a,us,rfl,n,e,f,g,l):=c.slot i _ h;exact⟨a,us,d,n,e,f,g,l⟩
set_option tactic.hygienic true in
def Lf(S:zv1 X){i:Nat}{kk e:Ci.E}{f p:jj}{B:Pos}(h:N[i]?=ia x)(hv:fk sc x=ig)(ho:okN x=ig)(Z:iC e=ig)(VY:bo Γ N sc kk f=ig)(hk:GE X W F kk f)(he:GE X W F e p):GS X W F H0 E (.put i kk e) (.Assign [.Subscript (.Name x np) f B] p pos):=by
 have CJ:swappedStores [.Subscript (.Name x np) f B] p X.env=pure ie:=by cases p<;>rfl
 have ha:∀v,assign (.Subscript (.Name x np) f B) X.env v=(do
  let I<-holding [v] (eval (.Name x np) X.env);let M<-holding [v,I] (eval f X.env)
  standAt B
  holding [v,I,M] (setItem I M v)
  release [v,I,M] []):=by
  intro v;cases f<;>first|rfl|(cases kk<;>first|(exact aY VY)|(rename_i q;cases q<;>exact aY VY))
 refine L2.PS.imp (D3 he (DU (jc S h hv ho) hk (sF.or set_list (yN (by have:=S.C.room.un;omega))) ha) (by cases p<;>rfl) CJ) λD σ H hq=>?_;let(G,env,sr,o):=hq;rw [jh] at o;refine oV S sr o λq v G1 H1 g t K L=>?_;split at L
 .rename_i xs u;let(a,vs,hs,m,O,w,l):=rB K u;refine{.ref a,hs,oV S K L λq2 v2 P H2 d Q s c=>?_};split at c
  .rename_i n;cases r:ye xs.length n with
   |none=>rw [r] at c;exact c.elim|some j=>rw [r] at c;have R:=d.h.at m (λ_ z=>nomatch z);have y:=d.own a (by rw [m];exact nofun) (by rw [m];exact λ_ z=>nomatch z) O;have T:=ag.same d.g xs l;refine .inl {a,vs,n,j,rfl,Q.top.int,R,by rw [l.length];exact r,?_};let(U,V):=kO (p':=.lst (xs.set j q)) (ob:=.lst (vs.set j v)) s s.go u hs y w {a,_,rfl,ak,y,w,T.set j (Rep.same d.g q (t.rep Z))};exact c _ P _ U V
  .exact c.elim
 .rename_i A ps u;let(a,us,hs,n,m,O,w,l):=j4 K u;refine{.ref a,hs,oV S K L λq2 v2 P H2 d Q s c=>?_};split at c
  .rename_i kk Y;split at c
   .rename_i Ai;have e2:=uz Y;subst e2;let(b,rfl,hb):=Q.top.ky (k:=kk) s.sub;have R:=d.h.at m (λ_ z=>nomatch z);have y:=d.own a (by rw [m];exact nofun) (by rw [m];exact λ_ z=>nomatch z) O;have T:=ag.same d.g ps l;refine .inr {a,upd H2 a (.dT (putK (kz A us) (ki kk) v)),rfl,zj.t R (kJ s.sub hb) (by rw [g9 n];exact eo Ai (by decide)),?_};rw [Dc n];let(U,V):=kO (p':=.bC (bH A kk) (bD A ps kk q)) (ob:=.dT (kz (bH A kk) (bD A us kk v))) s s.go u hs y w {a,_,rfl,uZ n kk v,ak,y,w,yH T (Rep.same d.g q (t.rep Z))};exact c _ P _ U V
   .exact c.elim
  .exact c.elim
 .exact L.elim
def GN(S:zv1 X){i:Nat}{dp:Pos}(h:N[i]?=ia x)(hl:fV sc x=ig):GS X W F H0 E (.kC i) (.Assign [.Name x np] (.Dict [] [] dp) pos):=by
 let(d,e,f):=eR S h hl;intro g s c H D I j;have m:i<c.length:=by rw [I.len,S.C.hN];exact(cP.mp h).1
 refine nK d e f DM rfl (.inl (S.fn x)) g s c H D I ?_;let(G,env,a,o):=j;rw [jh] at o;intro p b;let(q,r):=DI (i:=i) (p:=.bC [] []) (ob:=.dT []) a a.go (by rw [a.len];exact m) b {p,[],rfl,rfl,ak,a.sub.free b,a.base.free b,.nil};exact o _ G _ q r
set_option tactic.hygienic true in
def Aa(S:zv1 X){i j n:Nat}{zp gH yp e W0 K:Pos}(h:N[i]?=ia x)(hv:fk sc x=ig)(ho:okN x=ig)(hz:N[n]?=ia z)(L:fk sc z=ig)(M:okN z=ig)(hy:N[j]?=ia y)(X7:fk sc y=ig)(X6:okN y=ig)
 (fU:(e.endLine==K.line)=ig):GS X W F H0 E (.fc i j n) (.Assign [.Subscript (.Name x np) (.Name z zp) gH] (.Call (.Attribute (.Name y yp) "pop" e) [.Name z W0] [] K) pos):=by
 have O:X.A.units+3<cLine:=by have:=S.C.room.un;omega
 refine L2.PS.imp (D3 (Ij O (jc S hy X7 X6) (jc S hz L M) ⟨rfl,rfl,fU,rfl⟩) (DU (jc S h hv ho) (jc S hz L M) (yN O) λ_=>rfl) (by unfold swapsWithSole;exact r9 rfl) rfl) λD σ H hq=>?_;let(G,env,g,o):=hq;rw [jh] at o;split at o
 .rename_i f P d m kp Q e2 e3;split at o
  .rename_i c r;split at o
   .rename_i p hp;split at o
    .rename_i R;have ek:=uz r;subst ek;let(a,us,hs,T,U,V,Y,l):=j4 g Q;let(ok,q,v,rfl,rv):=g.slot n _ e3;let(b,rfl,Z):=Rep.ky rv;let(w,hw,kw):=mi l hp;refine{.ref a,hs,a,rfl,.inr {_,.inl U},.ref b,q,_,ki c,b,w,U,rfl,(kJ g.sub Z),(by rw [kK];exact hw),?_};rw [yj c T];let(s,g1):=kO (p':=.bC (bU f c) (aR f P c)) (ob:=.dT (kz (bU f c) (aR f us c))) g g.go Q hs V Y {a,_,rfl,tJ c T,ak,V,Y,mQ l};have VM:(env.set j (.own (.bC (bU f c) (aR f P c))))[i]?=ia (.own (.bC d m)):=by rw [ed (Ne.symm R.2)];exact e2
     let(u,B,Ly,I,k1,k2,k3,l2):=j4 s VM;refine{.ref u,Ly,.ref b,q,u,_,rfl,zj.t k1 (kJ s.sub Z) (by rw [g9 I];exact eo R.1 (by decide)),?_};rw [Dc I];let(r2,g2):=kO (p':=.bC (bH d c) (bD d m c p)) (ob:=.dT (kz (bH d c) (bD d B c w))) s g1 VM Ly k2 k3 {u,_,rfl,uZ I c w,ak,k2,k3,yH l2 kw};exact o _ G _ r2 g2
    .exact o.elim
   .exact o.elim
  .exact o.elim
 .exact o.elim
end
end Ci
namespace L2
open PySem.Spec PyProof.Rows
end L2
namespace Ci
open L2
theorem qD:∀(cs:List Int) (all:List Int) (j b:Nat) (m:Int),all.drop j=cs->all[b]?=ia m->b<j->(∀i c,all[i]?=ia c->i<j->m<=c/\(i<b->m<c))->
 ∃a,all[fy cs j b m]?=ia a/\∀i c,all[i]?=ia c->a<=c/\(i<fy cs j b m->a<c)
 |[],all,j,b,m,hd,d,_,best=>by unfold fy;have hl:all.length<=j:=List.drop_eq_nil_iff.mp hd;exact{m,d,λi c e=>best i c e (eo (cP.mp e).1 hl)}|x::cs,all,j,b,m,hd,d,k,best=>by
  have f:all[j]?=ia x:=by rw [<-List.head?_drop,hd];rfl
  have g:all.drop (j+1)=cs:=by rw [<-List.drop_drop,hd];rfl
  unfold fy;split
  .rename_i o;refine qD cs all (j+1) j x g f (by omega) λi c e p=>?_;by_cases h:i=j
   .subst h;rw [f] at e;cases e;exact{Int.le_refl _,λz=>absurd z (Nat.lt_irrefl _)}
   .have:=best i c e (by omega);exact{by omega,λZ=>by omega}
  .rename_i o;refine qD cs all (j+1) b m g d (by omega) λi c e p=>?_;by_cases h:i=j
   .subst h;rw [f] at e;cases e;exact{by omega,λz=>by omega}
   .exact best i c e (by omega)
def xq{cs:List Int}{x:Nat}(h:sO cs=ia x):∃m,cs[x]?=ia m/\∀i c,cs[i]?=ia c->m<=c/\(i<x->m<c):=by
 cases cs with
 |nil=>cases h
 |cons c cs=>
  cases h;refine qD cs (c::cs) 1 0 c rfl rfl (by omega) λi d e a=>?_;have:i=0:=by omega
  subst this;cases e;exact{Int.le_refl _,λz=>absurd z (Nat.not_lt_zero _)}
theorem pJ{W:Wd}{K:zz8}(hK:W.K=K)(sg:az G H):∀{ps:List PV} {us:List V} {cs:List Int},i5 ps=ia cs->ag W G ps us->cs.length=ps.length/\∀(i:Nat) v,us[i]?=ia v->∃q r,v=V.ref q/\fK K H q (.int (cs.getD i 0)::r)
 |[],_,_,e,l=>by cases e;simp! [ag] at l;subst l;exact{rfl,λi v h=>by simp at h}
 |p::ps,us,cs,e,l=>by
  let(u,s,rfl,b,g):=l.bM;unfold i5 at e;split at e
  .rename_i a;cases a
  .rename_i a;cases a;let(r,j,rfl):=c4.mp e;let(k,m):=pJ hK sg j g;refine{by simp [k],λi v c=>?_}
   cases i with
   |zero=>cases c;simp! [Rep] at b;let(q,t,rfl,o,d):=b;let(w,wr,rfl,f,d):=d.bM;simp! [Rep] at f;subst f;exact{q,wr,rfl,by rw [<-hK];simpa using az.tup sg o.sq}
   |succ i=>simpa using m i v (zx6 c)
  .cases e
section
variable{Γ:Pg}{W:Wd}{F:aJ}{sc:kv}{k:Nat}{E:XK}
set_option tactic.hygienic true in
def GQ(S:zv1 X)(vC:Γ.qt=iv){m i:Nat}{h:lq}{g:kv}{yp q1 q2 q3 q4 q5:Pos}(h1:N[m]?=ia y)(h2:fV sc y=ig)(h3:N[i]?=ia x)(h4:sc.names.lookup x=ia .cell)(h5:iS sc "min"=ig)(h6:Γ.bs.contains "min"=ig)(h7:Γ.hl=ig)
 (h8:pY x h body g=ig):GS X W F H0 E (.nu m i) (.Assign [.Name y yp] (.Call (.Name "min" q1) [.Name x q2] [{ia "key",.Lambda h body g q3,q4}] q5) pos):=by
 let(a1,a2,a3):=eR S h1 h2;let(p,ep,L,G7,R):=uC h8
 have pe:PE X (.Call (.Name "min" q1) [.Name x q2] [{ia "key",.Lambda h body g q3,q4}] q5) (λO H Q=>∃G env r T cs ix P,SR W H0 env O G H/\env[i]?=ia (.own (.bC r T))/\i5 T=ia cs/\sO cs=ia ix/\r[ix]?=ia P/\∀v Z H',aA W G H Z H'->Rep W Z (kP P) v->Q v H'):=by
  intro aa s O H Q I hq;let(G,env,r,T,cs,ix,P,w,e1,e2,e3,e4,q):=hq;let(d,us,hs,n,k1,k2,k3,l):=j4 w e1;let(c,b9):=I.ok.has x (.inl (by show X.env.scope.names.lookup x=_;rw [S.C.fu];exact h4))
  have Bm:closureFor g X.env=pure [(x,c)]:=by
   rw [gb λy hy hf=>?_]
   .show pure (bG X.env (aQ g))=_;rw [G7];simp [bG,b9]
   .have:y.1∈aQ g:=by
     unfold aQ;rw [List.mem_reverse,hG];exact{y,List.mem_filter.mpr {hy,by rw [hf];rfl},rfl}
    rw [G7] at this;rw [e6.mp this];exact⟨c,b9⟩
  refine wpAny_Call_Name_kw (eY I (fR S.C h5) (S.C.bs _ (fS.mp h6)) (u:=.builtin "min") (by decide+kernel) ?_);refine PyProof.Rows.callWith_kw ?_;refine Calls.spliced_cons (bL (dR (i:=i) (by rw [S.C.hN];exact h3) (.inr (.inl (by show X.env.scope.names.lookup x=_;rw [S.C.fu];exact h4))) (dH R).1 (dH R).2.1 aa s O H (λv' H1=>v'=.ref d/\H1=H) I {_,hs,rfl,rfl}) λu s1 hu=>Calls.spliced_nil ?_);let(v',H1,I1,ru,rfl,rfl):=hu;cases ru;refine PyProof.Rows.kws_cons (bL (wM S.C h7 ep Bm aa s1 O H1 (λv2 H2=>∃f G2,v2=.ref f/\lQ X W h body g [(x,c)] G H1 G2 H2 f) I1 {G,w.sub,w.tab,λf G2 H2 lm=>⟨f,G2,rfl,lm⟩}) λu s2 hu=>PyProof.Rows.kws_nil ?_);let(v2,H2,I2,ru,f,G2,rfl,g2,c',oc,cU,t,eT,pm,fo,co,cd,cn):=hu;cases ru;have U:=w.grow g2;let(d',B,Aj,V,k1',k2',k3',l'):=j4 U e1;rw [hs] at Aj;cases Aj;let(cl1,cl2):=pJ (K:=X.K) S.C.K U.sub e2 l'
  have M:KM X O H2 k d f (kz r B) (λi=>cs.getD i 0):=by
   refine{S.C.room,I.ok.hd (S.C.calm vC),k1',{p,x,h,body,g,_,c,c',oc,cU,t,pm,eT,i,L,b9,I.ok.Kc x c (S.C.fl h7 x) b9,U.sub _ _ fo,U.sub _ _ co,cd,cn,λu=>qG ep [u] rfl,by rw [S.C.hN];exact h3,hs,by rw [S.C.fu];exact h4},λj kx v e=>?_};have:B[j]?=ia v:=by unfold kz at e;rw [List.getElem?_zip_eq_some] at e;exact e.2
   exact cl2 j v this
  let(mm,Y,NL):=xq e3;have O3:ix<r.length:=(cP.mp e4).1;have XA:cs.length=r.length:=by rw [cl1,<-l'.length,V]
  refine zG M (by rw [g9 V];omega) I2 λj kx v b e hb A=>?_;rw [g9 V] at A;have hj:j<r.length:=by have:=(cP.mp e).1;rw [g9 V] at this;exact this
  have ej:j=ix:=by
   have ca:∀a,a<cs.length->cs[a]?=ia (cs.getD a 0):=λa ha=>by simp [ha]
   have b1:=A ix O3;have b2:=NL j _ (ca j (by omega));have em:mm=cs.getD ix 0:=by rw [ca ix (by omega)] at Y;exact(zzq Y).symm
   rw [em] at b2;rcases Nat.lt_trichotomy j ix with z|z|z
   .have:=b2.2 z;have:=b1.1;omega
   .exact z
   .have:=b1.2 z;have:=b2.1;omega
  subst ej;have ek:kx=ki P:=by have:=congrArg (λl=>l[j]?) (yk (us:=B) V);simp! [d0,e,e4,Option.map_some] at this;exact zzq this
  rw [ek] at hb;let(G3,g3,hw):=nc (W:=W) U.sub hb;exact q _ _ _ (g2.trans g3) hw
 refine L2.PS.imp (nK a1 a2 a3 pe rfl (.inl (S.fn y))) λD O H hq=>?_;let(G,env,w,o):=hq;rw [jh] at o;split at o
 .rename_i r T hx;split at o
  .rename_i cs hcs;split at o
   .rename_i P hkk;let(ix,Jx,hk2):=eu.mp hkk;exact{G,env,r,T,cs,ix,P,w,hx,hcs,Jx,hk2,λv Z H' g' rp=>o _ Z _ ((w.grow g').set m rp) (w.on g')}
   .exact o.elim
  .exact o.elim
 .exact o.elim
end
end Ci
namespace L2
open PySem.Spec PyProof.Rows
def Bx(X:Cx)(A:ku)(a:St)(H:Hp)(f:i6)(bs:List i6)(d:Nat->Int):Prop:=
 ∀(i:Nat) (h:i<bs.length) (b:mn) (s:i2) (Q:ml) (E:ml),Inv X b a H s->(∀t c,Inv X b a H c->Q (.int (d i) t) c)->jk (kn X.prog X.w) A (call (.ref f) [.ref bs[i]]) Q E s
section
variable{aa:mn}{s:i2}{p f it S:i6}{bs:List i6}{cf:Nat->Int}{R:Result->i2->Prop}
def iG(I:zv2 s)(a:iX X.K H p (bs.map V.ref)):s.heap.IsList p (bs.map i1.ref).toArray:=by
 let(c,d,g,h):=I.list a
 have e:c=bs.map i1.ref:=by
  clear g h a
  induction bs generalizing c with
  |nil=>cases d;rfl
  |cons b bs i=>cases d with|cons r t=>rw [bf,<-i _ t,(show _=i1.ref b from r)]
 rw [<-e];exact g.isList
def yg(K:Bx X A σ H f bs cf)(I:zv2 s)(d:dE X aa H it)(e:dE X aa H S){b c:Obj}(g:s.heap.get? it=ia b)(j:∀v,b.data≠.cell v)(k:s.heap.get? S=ia c)(cS:∀v,c.data≠.cell v)
 {i:Nat} (hl:i<bs.length) {E:ml} {Q:ml} (h:∀t s',Inv X aa σ H s'->s'.heap.get? it=ia b->s'.heap.get? S=ia c->Q (.int (cf i) t) s'):jk (kn X.prog X.w) A (call (.ref f) [.ref bs[i]]) Q E s:=by
 have m:Inv X ((it,b)::(S,c)::aa) σ H s:=by
  refine I.fw λp a=>?_
  rcases fP.mp a with rfl|a
  .exact d.pin g j
  .rcases fP.mp a with rfl|a
   .exact e.pin k cS
   .exact I.pin p (ea _ a)
 exact K i hl _ _ _ _ m λt s' J=>h t s' (J.fw λp a=>J.pin p (ea _ (.tail _ (.tail _ a)))) (J.pin (it,b) (ea _ (.head _))).1 (J.pin (S,c) (ea _ (.tail _ (.head _)))).1
def Au(K:Bx X X.A.in1 σ H f bs cf)(hh:X.A.handled=ie)(Q:iX X.K H p (bs.map V.ref))(g:dE X aa H it)(k:dE X aa H S)(nS:S≠it)(YM:p≠it)(Wv:p≠S)
 (hR:∀(i:Nat) (h:i<bs.length) s',(∀j,j<bs.length->cf i<=cf j/\(j<i->cf i<cf j))->Inv X aa σ H s'->R (.ok (.ret (.ref bs[i]))) s'):
 ∀(r j i:Nat) (s:i2) (t:Tok) (c:Nat) (C:i<bs.length),bs.length-(j+1)=r->j+1<=bs.length->zv2 s->s.heap.IsListIter it p (j+1)->s.heap.get? S=ia (seqObj "list" #[.ref bs[i],.int (cf i) t] c)->i<=j->(∀d,d<=j->cf i<=cf d/\(d<i->cf i<cf d))->
  codeAny (kn X.prog X.w) X.A (.builtin "min.loop" {[.ref it,.ref f,.ref S],[]}) R s:=by
 have m:(toString "min"++toString ".loop":String)="min.loop":=by decide
 intro r
 induction r with
 |zero=>intro j i s t c C hr hj I st y Q4 a;refine codeAny_builtin PySem.F.entry_min_loop ?_;rw [h9 PySem.F.plain_min_loop _];show jk _ X.A.in1 (seqItems? (.ref S)>>=λz=>_) _ _ _;refine aT (wpAny_seqItems y rfl ?_);show jk _ X.A.in1 (tryCatch (pyNext (.ref it)) _>>=λz=>_) _ _ _;refine aT (wpAny_tryCatch (wpAny_pyNext_list_end hh st (iG I Q) (by simp;omega) λh' T=>?_));have E:=T S _ nS y;have G:=I.turned (h':=h') (t':=s.toks) (λb o q e=>T b o q e) g.1 g.2.1 g.2.2.2.1 g.2.2.2.2.1 g.2.2.2.2.2;show jk _ X.A.in1 (updateSeq S (λ_=>#[])>>=λz=>_) _ _ _;refine aT (wpAny_updateSeq E rfl (aT (wpAny_letGo (b4 ?_))));have D:=hD h' S (Obj.mapSeq λ_=>(#[]:Array i1));exact hR i C _ (λd U=>a d (by omega)) (G.turned (t':=s.toks) (λb o q e=>(D.2 b q).trans e) k.1 k.2.1 k.2.2.2.1 k.2.2.2.2.1 k.2.2.2.2.2)|succ r W=>
  intro j i s t c C hr hj I st y Q4 a;have B:j+1<bs.length:=by omega
  refine codeAny_builtin PySem.F.entry_min_loop ?_;rw [h9 PySem.F.plain_min_loop _];show jk _ X.A.in1 (seqItems? (.ref S)>>=λz=>_) _ _ _;refine aT (wpAny_seqItems y rfl ?_);show jk _ X.A.in1 (tryCatch (pyNext (.ref it)) _>>=λz=>_) _ _ _;refine aT (wpAny_tryCatch (wpAny_pyNext_list_item st (iG I Q) (x:=.ref bs[j+1]) (by simp [B]) λh' jd Y=>?_));have E:=(Y.2 S nS).trans y;have G:=I.turned (h':=h') (t':=s.toks) (λb o q e=>(Y.2 b q).trans e) g.1 g.2.1 g.2.2.2.1 g.2.2.2.2.1 g.2.2.2.2.2;let(Z,gi,gc,L):=id jd;show jk _ X.A.in1 (tryCatch (holding [i1.ref bs[j+1]] (call (.ref f) [i1.ref bs[j+1]])) _>>=λz=>_) _ _ _;refine aT (wpAny_tryCatch (wpAny_holding (yg K G g k gi (λv z=>by rw [L] at z;cases z) E gj B λu M I2 EU N=>?_)));have M0:M.heap.IsListIter it p (j+1+1):=⟨Z,EU,gc,L⟩;show jk _ X.A.in1 (tryCatch (holding [i1.ref bs[j+1],.int (cf (j+1)) u] (richCompare .Lt (.int (cf (j+1)) u) (.int (cf i) t)>>=λz=>_)) _>>=λz=>_) _ _ _;refine aT (wpAny_tryCatch (wpAny_holding (aT (CmpOf.ints_lt (prog:=X.prog) (w:=X.w) (A:=X.A.in1) (P:=λi v=>∃t,v=.int (cf i) t) cf (λi v h=>h) (j+1) i _ _ _ _ _ ⟨u,rfl⟩ ⟨t,rfl⟩ ?_))));refine aT (wpAny_holding (wpAny_truthy_bool (aT (wpAny_letGo (b4 ?_)))));by_cases ji:cf (j+1)<cf i
  .let(c2,O):=ma (ys:=#[i1.ref bs[j+1],.int (cf (j+1)) u]) N;have D:=hD M.heap S (Obj.mapSeq λ_=>#[i1.ref bs[j+1],.int (cf (j+1)) u]);simp! [ji,decide_true,if_true];refine aT (wpAny_updateSeq N rfl (aT (wpAny_letGo ?_)));rw [m];refine b4 {plainId_quiet PySem.F.plain_min_loop _,W (j+1) (j+1) _ u c2 B (by omega) B (I2.turned (t':=M.toks) (λb o q e=>(D.2 b q).trans e) k.1 k.2.1 k.2.2.2.1 k.2.2.2.2.1 k.2.2.2.2.2) ?_ ?_ (bc _) λd U=>?_}
   .exact{Z,(D.2 it (Ne.symm nS)).trans EU,gc,L}
   .exact O
   .by_cases e:d=j+1
    .subst e;exact{by omega,λ_=>by omega}
    .have:=a d (by omega);exact{by omega,λ_=>by omega}
  .simp! [ji,decide_false,eM,if_false];refine aT (wpAny_letGo ?_);rw [m];refine b4 {plainId_quiet PySem.F.plain_min_loop _,W (j+1) i _ t c C (by omega) B I2 M0 N (by omega) λd U=>?_};by_cases e:d=j+1
   .subst e;exact{by omega,λ_=>by omega}
   .exact a d (by omega)
def zH(K:Bx X X.A.in1 σ H f bs cf)(T:X.A.handled=ie)(k:0<bs.length)(I:zv2 s)(r:iX X.K H p (bs.map V.ref))
 (q:∀i (h:i<bs.length),(∀j,j<bs.length->cf i<=cf j/\(j<i->cf i<cf j))->Q (.ref bs[i]) H):zx7 X (call (.builtin "min") [.ref p] [(Str.ofString "key",.ref f)]) (EP X aa σ Q) X.xe s:=by
 have a:(toString "min"++toString ".loop":String)="min.loop":=by decide
 have B:=iG I r;have C:p<(zz9 s):=by let(_,e,_):=B;exact dn e
 refine kmk_tree PySem.F.kind_min PySem.F.plain_min PySem.F.entry_min (kmk_min_key _ _) ?_;show jk _ X.A.in1 (la.Builtins.bindParams "min" ["key","default"] 0 {[],[(Str.ofString "key",.ref f)]}>>=λz=>_) _ _ s;refine aT (wpAny_of_eq (show la.Builtins.bindParams "min" ["key","default"] 0 {[],[(Str.ofString "key",.ref f)]}=pure [ia (.ref f),ie] from rfl) (aT (b4 ?_)));refine aT (wpAny_pyIter_list B (aT (wpAny_newList ?_ (Nat.zero_le _))));rw [a];generalize hit:(zz9 s)=it;generalize g:(s.heap.push {cls:=.type "list_iterator",data:=.fields #[.ref p,.int 0 0]}).objs.size=S;have eS:S=it+1:=by rw [<-g,<-hit];exact size_push' ..
 have nS:S≠it:=by omega
 have D:(zz9 s)<=S:=by omega
 have np:p≠it:=by rw [<-hit];exact ew C
 have U:p≠S:=by rw [eS,<-hit];exact ew (Nat.lt_succ_of_lt C)
 have c:dE X aa H it:=by rw [<-hit];exact I.jy (bc _) (I.aM.fresh (bc _))
 have d:dE X aa H S:=I.jy D (I.aM.fresh D);have keep:∀b t,s.heap.get? b=ia t->((s.heap.push {cls:=.type "list_iterator",data:=.fields #[.ref p,.int 0 0]}).push (seqObj "list" #[] 0)).get? b=ia t:=λb t e=>a5 _ (a5 _ e);have E:=I.kept (t':=s.toks) keep;have W:((s.heap.push {cls:=.type "list_iterator",data:=.fields #[.ref p,.int 0 0]}).push (seqObj "list" #[] 0)).IsListIter it p 0:=by rw [<-hit];exact{_,a5 _ (et _ rfl),rfl,rfl}
 have G:((s.heap.push {cls:=.type "list_iterator",data:=.fields #[.ref p,.int 0 0]}).push (seqObj "list" #[] 0)).get? S=ia (seqObj "list" #[] 0):=by rw [<-g];exact et _ rfl
 refine b4 {plainId_quiet PySem.F.plain_min_loop _,codeAny_builtin PySem.F.entry_min_loop ?_};rw [h9 PySem.F.plain_min_loop _];show jk _ X.A.in1 (seqItems? (.ref S)>>=λz=>_) _ _ _;refine aT (wpAny_seqItems G rfl ?_);show jk _ X.A.in1 (tryCatch (pyNext (.ref it)) _>>=λz=>_) _ _ _;refine aT (wpAny_tryCatch (wpAny_pyNext_list_item W (iG E r) (x:=.ref bs[0]) (by simp [k]) λh' Y L=>?_));have Z:=(L.2 S nS).trans G;have I2:=E.turned (h':=h') (t':=s.toks) (λb o u e=>(L.2 b u).trans e) c.1 c.2.1 c.2.2.2.1 c.2.2.2.2.1 c.2.2.2.2.2;let(oi,gi,gc,M):=id Y;show jk _ X.A.in1 (tryCatch (holding [i1.ref bs[0]] (call (.ref f) [i1.ref bs[0]])) _>>=λz=>_) _ _ _;refine aT (wpAny_tryCatch (wpAny_holding (yg K I2 c d gi (λv z=>by rw [M] at z;cases z) Z gj k λm N I3 EU O=>?_)));let(c2,y):=ma (ys:=#[i1.ref bs[0],.int (cf 0) m]) O;have P:=hD N.heap S (Obj.mapSeq λ_=>#[i1.ref bs[0],.int (cf 0) m]);show jk _ X.A.in1 (updateSeq S (λ_=>#[i1.ref bs[0],.int (cf 0) m])>>=λz=>_) _ _ _;refine aT (wpAny_updateSeq O rfl ?_);rw [a];refine b4 {plainId_quiet PySem.F.plain_min_loop _,Au K T r c d nS np U (R:=_) (λi h s' b J=>{.ref bs[i],H,J,rfl,q i h b}) _ 0 0 _ m c2 k rfl k (I3.turned (t':=N.toks) (λb o u e=>(P.2 b u).trans e) d.1 d.2.1 d.2.2.2.1 d.2.2.2.2.1 d.2.2.2.2.2) {oi,(P.2 it (Ne.symm nS)).trans EU,gc,M} y (bc _) λj' Lv=>?_};have e:j'=0:=by omega
 subst e;exact{by omega,λh=>absurd h (Nat.lt_irrefl _)}
end
structure qy(p y:Str)(params:lq)(body:jj)(scope:kv):Prop where
 body:∃q1 q2 q5,body=.Subscript (.Name y q1) (.Name p q2) q5
 sc:mw [p] [y] scope
 d1:(p==(zu 16:Str))=iv
 d2:(p==(zu 24:Str))=iv
 d3:(y==(zu 16:Str))=iv
 d4:(y==(zu 24:Str))=iv
section
variable{aa:mn}{s:i2}{d f c c' b:i6}{oc:Obj}{ay:List (List bj×V)}{p:Str}{params:lq}{scope:kv}{pm eT:i1}{cU:Array i1}{ct:Tok}{k:List bj}{q:i6}{n:Int}{v0:V}{r:List V}{E:ml}
def hX{Z:mn}{fs:List i6}(z:sL Z H fs h):aO Z (aK Z H)=H:=by
 funext b
 cases e:Z.lookup b with
 |some o=>rw [e9 e];exact(z.2 b o e).symm|none=>rw [ax e,af e]
theorem Ea{k:Nat}(r:dq (k+1) A):dq k A.in1.in1:={λz=>r.hd (by omega),by have:=r.dp;show A.depth+3*k+5<_;omega,by have:=r.un;show A.units+1+1+16*k+200<_;omega}
def pZ(hA:A=X.A.in1\/A=X.A.in1.in1)(L:kf p y params body scope/\fK X.K H q (.int n::r)/\v0=V.ref q\/qy p y params body scope/\v0=V.int n)(hr:dq (kk+1) X.A)(I:zv2 s)(hd:Rd H d (.dT ay))
 (b9:X.env.cells.lookup y=ia c) (Bk:X.s₀.heap.objs.size<=c) (SU:s.heap.IsCell c (ia (.ref d)))
 (hf:H f=ia (.bq (PySem.W.kla_obj (zu 1) qual params body scope [(y,c)] pm c' eT) bA)) (fT:H c'=ia (.bq oc bA)) (pS:oc.data=.fields cU) (Ae:cU[1]?=ia (.str qual ct))
 (hb:∀u,bindArgs (PySem.W.kla_fn (zu 1) qual params body scope [(y,c)] pm (.ref c') eT) {[u],[]}=pure ([p].zip [u]))
 (G8:cF H b k) (hv:gL ay k=ia v0):
 jk (kn X.prog X.w) A (call (.ref f) [.ref b]) (λu s'=>(∃t,u=.int n t)/\Inv X aa σ H s') E s:=by
 have V8:dq kk A:=by rcases hA with rfl|rfl;exact hr.in1;exact Ea hr
 have eA:iV X.prog X.w X.K X.mg X.base A X.stack s H:=by rcases hA with rfl|rfl;exact I.tM.in1;exact I.tM.in1.in1
 let(m,g1,g2):=id SU;have vW:H c=ie:=I.gY y c b9
 have P:∀b o,List.lookup b [(c,m)]=ia o->b=c/\o=m:=λb o e=>by
  rw [hV] at e;cases N:b==c with
  |true=>rw [N] at e;cases e;exact{zzy.mp N,rfl}
  |false=>rw [N] at e;cases e
 have S:sL [(c,m)] H (ft X.stack) s.heap:=by
  refine{λb o e=>?_,λb o e=>?_,λb o e=>?_}
  .let(rfl,rfl):=P b o e;exact g1
  .let(rfl,rfl):=P b o e;exact vW
  .let(rfl,rfl):=P b o e
   intro OY;rcases fP.mp (I.iq b OY) with z|z
   .exact I.EO y b b9 z
   .let(_,o',h4,_):=I.ok.gE.mem z;exact absurd (dn h4) (Nat.not_lt.mpr Bk)
 have zc:List.lookup c [(c,m)]=ia m:=by simp
 have R:∀x D,List.lookup x [(y,c)]=ia D->x=y/\D=c:=λx D e=>by
  rw [hV] at e;cases T:x==y with
  |true=>rw [T] at e;cases e;exact{zzy.mp T,rfl}
  |false=>rw [T] at e;cases e
 have zb:∀b o,List.lookup b [(c,m)]=ia o->X.base.get? b=ie:=λb o e=>by
  let(rfl,rfl):=P b o e
  cases M:X.base.get? b with
  |none=>rfl|some o'=>exact absurd (dn (I.ok.bs b o' M).1) (Nat.not_lt.mpr Bk)
 have hZ:∀b u,H b=ia u->aK [(c,m)] H b=ia u:=λb u e=>by
  rw [af]
  .exact e
  .rw [hV];cases N:b==c with
   |true=>have:=zzy.mp N;subst this;rw [vW] at e;cases e
   |false=>rfl
 have un:A.units+3+3<cLine:=by have:=V8.un;omega
 have G:∀(t:TE) (sc:mw [p] [y] scope),(∀U,PE (Ft X.prog X.w X.K X.mg X.base ([p]++[y]) qual scope f (.ref c') [(y,c)] A X.stack s H U) body t)->(∀Q:VK,Q (.int n) H->t [ia (.ref b),ia (.ref d)] H Q)->
  jk (kn X.prog X.w) A (call (.ref f) [.ref b]) (λu s'=>(∃t,u=.int n t)/\Inv X aa σ H s') E s:=λt sc ht O=>by
  refine wpAny_call (codeAny_mono (rh (k:=kk) (E:=λ_ _ _=>False) (Q:=λv Y=>v=.int n/\Y=aK [(c,m)] H) (Z:=[(c,m)]) (ws:=[.ref d]) (vs:=[.ref b]) (us:=[.ref b])
   (t:=t) sc V8 eA S zb (I.aM f _ hf).1 (I.aM c' _ fT).1 pS Ae (hb _) (.cons rfl .nil) rfl rfl ?JB ?inj ?cz ?cells (ht _) ?O) λrr s' Lx=>?_)
  case JB=>intro M xZ;exact{c,by rw [e6.mp xZ];simp}
  case inj=>intro x M D e1 e2;rw [(R x D e1).1,(R M D e2).1]
  case cz=>intro x D e;let(rfl,rfl):=R x D e;exact{m,_,zc,g2}
  case cells=>
   intro i M D e1 e2 v e3;let(rfl,rfl):=R M D e2
   cases i with
   |zero=>cases e3;exact{.ref d,rfl,m,g1,g2}
   |succ i=>cases e3
  case O=>exact O _ λ_=>⟨rfl,rfl⟩
  .cases rr with
   |error e=>let(a,C,t,vs,Y,B,e1,F):=Lx;exact(F.ends).elim|ok fl=>
    cases fl with
    |ret u=>let(v,Y,os,bare,un,aM,rv,rfl,rfl):=Lx;let(t,rfl):=rv;let(u1,k1):=S.sk un aM;rw [hX S] at u1 k1;let(hh,g,dr,tk,os'):=s';obtain rfl:os'=s.os:=os;exact{⟨t,rfl⟩,I.call (h':=hh) (g':=g) (d':=dr) (t':=tk) (ch:=[]) u1 k1 bare (λb z=>absurd z (by simp))}|_=>exact Lx.elim
 rcases L with⟨L,O,rfl⟩|⟨L,rfl⟩
 .let(q1,q2,q3,q4,q5,j,rfl):=L.body;refine G (Na (MM X.K) (yY (se 1) (se 0)) (tC (.int 0))) L.sc (λU=>?_) λQ h=>?_
  .exact DO v9 (rC un (dR (i:=1) rfl (.inr (.inr (L.sc.OJ y (by simp)))) L.d3 L.d4) (dR (i:=0) rfl (.inl (L.sc.par p (by simp))) L.d1 L.d2) λ_ _=>rfl) rD λ_ _=>rfl
  .refine{_,rfl,_,rfl,d,.ref q,rfl,?_,?_}
   .exact .inr ⟨ay,k,b,hd,rfl,G8,hv.symm⟩
   .exact{q,.int n::r,0,.int n,rfl,rfl,O,by simp [oF,ye],h}
 .let(q1,q2,q5,rfl):=L.body;refine G (yY (se 1) (se 0)) L.sc (λU=>?_) λQ h=>?_
  .exact rC un (dR (i:=1) rfl (.inr (.inr (L.sc.OJ y (by simp)))) L.d3 L.d4) (dR (i:=0) rfl (.inl (L.sc.par p (by simp))) L.d1 L.d2) λ_ _=>rfl
  .exact{_,rfl,_,rfl,d,.int n,rfl,.inr ⟨ay,k,b,hd,rfl,G8,hv.symm⟩,h}
end
end L2
namespace Ci
open L2
section
variable{W:Wd}{K:zz8}
theorem C9(sg:az G H):∀{xs:List PV} {a:mq} {vs:List V},uD xs=ia a->ag W G xs vs->∃bs:List i6,vs=bs.map V.ref/\Paired (λb k=>cF H b (ki k)) bs a
 |[],_,_,e,l=>by cases e;simp! [ag] at l;subst l;exact{[],rfl,.nil}
 |x::xs,_,_,e,l=>by let(v,h,rfl,c,d):=l.bM;unfold uD at e;let(k,hk,e):=eu.mp e;let(r,f,rfl):=c4.mp e;let(bs,rfl,p):=C9 sg f d;rw [uz hk] at c;let(b,rfl,g):=c.ky;exact{b::bs,rfl,.cons (kJ sg g) p}
theorem wN{c d:Type}{R:c->d->Prop}:∀{l:List c} {m:List d},Paired R l m->∀{j:Nat} {a:c},l[j]?=ia a->∃b,m[j]?=ia b/\R a b
 |_,_,.nil,j,a,h=>by simp at h|_,_,.cons e t,0,a,h=>by cases h;exact{_,rfl,e}
 |_,_,.cons e t,j+1,a,h=>by simpa using wN t (zx6 h)
theorem B3{b:Bool}:∀{a:mq} {cs:List Int},Fo b ks ps a=ia cs->cs.length=a.length/\∀(j:Nat) k,a[j]?=ia k->∃p,au ks ps k=ia p/\QT b p=ia (cs.getD j 0)
 |[],_,e=>by cases e;exact{rfl,λj k h=>by simp at h}
 |k::a,_,e=>by
  unfold Fo at e;let(n,c,e):=eu.mp e;let(r,d,rfl):=c4.mp e;let(p,f,g):=eu.mp c;let(i,m):=B3 d;refine{by simp [i],λj o h=>?_}
  cases j with
  |zero=>cases h;exact{p,f,zx6 g}
  |succ j=>simpa using m j o (zx6 h)
def Kq{b:Bool}{n:Int}(hK:W.K=K)(sg:az G H)(h:QT b p=ia n)(r:Rep W G p v):b=ig/\(∃q r,v=.ref q/\fK K H q (.int n::r))\/b=iv/\v=.int n:=by
 unfold QT at h;split at h
 .split at h
  .rename_i c;cases h;simp! [Rep] at r;let(a,f,rfl,q,l):=r;let(u,e,rfl,d,_):=l.bM;simp! [Rep] at d;subst d;exact .inl {c,a,e,rfl,hK▸az.tup sg q.sq}
  .cases h
 .split at h
  .cases h
  .rename_i c;cases h;simp! [Rep] at r;exact .inr {zx6 c,r}
 .cases h
variable{Γ:Pg}{F:aJ}{sc:kv}{k:Nat}{E:XK}
def Pj(R:A=X.A.in1\/A=X.A.in1.in1)(C:zv3 X){S:St}{H:Hp}{i:Nat}{p:Str}{a:lq}{e:kv}{b:Bool}{bs:List i6}{T:mq}{us:List V}{cs:List Int}{d f c B:i6}{oc:Obj}{U:Array i1}{ct:Tok}{Y Z:i1}
 (sg:az G H) (h3:N[i]?=ia x) (h4:sc.names.lookup x=ia .cell) (L:if b=ig then kf p x a body e else qy p x a body e)
 (hs:S[i]?=ia (ia (.ref d))) (hd:G d=ia (.bq o (.dT (kz ks us)))) (l:ag W G ps us) (n:ks.length=us.length) (D:X.env.cells.lookup x=ia c) (Bk:X.s₀.heap.objs.size<=c)
 (hf:H f=ia (.bq (PySem.W.kla_obj (zu 1) qual a body e [(x,c)] Y B Z) bA)) (fT:H B=ia (.bq oc bA)) (pS:oc.data=.fields U) (Ae:U[1]?=ia (.str qual ct))
 (hb:∀u,bindArgs (PySem.W.kla_fn (zu 1) qual a body e [(x,c)] Y (.ref B) Z) {[u],[]}=pure ([p].zip [u]))
 (hk:Paired (λb k=>cF H b (ki k)) bs T) (hc:Fo b ks ps T=ia cs):Bx X A S H f bs λj=>cs.getD j 0:=by
 intro j hj aa s Q E' I q;let(kj,M,g):=wN hk (zzg hj);let(_,c2):=B3 hc;let(pv,g1,g2):=c2 j kj M;let(w,w1,w2):=mi l g1;have hv:gL (kz ks us) (ki kj)=ia w:=by rw [kK];exact w1
 have cell:s.heap.IsCell c (ia (.ref d)):=by
  let(m,_,h):=I.loc;have Pn:X.env.scope.names.lookup x=ia .cell:=by rw [C.fu];exact h4
  let(u,ru,lk):=h i x (.ref d) (by rw [C.hN];exact h3) hs (.inr (.inl Pn))
  cases(show u=i1.ref d from ru);rcases lk with⟨z,_⟩|⟨_,c2,y,z⟩
  .have z2:X.env.scope.names.lookup x=ia .local:=z;rw [Pn] at z2;cases z2
  .rw [D] at y;cases y;exact z
 rcases Kq (H:=H) C.K sg g2 w2 with⟨rfl,q',r,rfl,hq⟩|⟨rfl,rfl⟩
 .refine wpAny_mono (pZ (kk:=k) (n:=cs.getD j 0) (r:=r) (q:=q') R (.inl ⟨L,hq,rfl⟩) C.room I (.inr {o,sg _ _ hd}) D Bk cell hf fT pS Ae hb g hv) (λu O P=>?_) λ_ _ z=>z;let((t,rfl),J):=P;exact q t O J
 .refine wpAny_mono (pZ (kk:=k) (n:=cs.getD j 0) (r:=[]) (q:=d) R (.inr ⟨L,rfl⟩) C.room I (.inr {o,sg _ _ hd}) D Bk cell hf fT pS Ae hb g hv) (λu O P=>?_) λ_ _ z=>z;let((t,rfl),J):=P;exact q t O J
set_option tactic.hygienic true in
def Dp{b:Bool}{s:Option Slot}{r:PV}(o:p9 b s p=.ok r):∃xs ks ps a cs ix kk,p=.lst xs/\s=ia (.val (.bC ks ps))/\uD xs=ia a/\Fo b ks ps a=ia cs/\sO cs=ia ix/\a[ix]?=ia kk/\r=kP kk:=by
 unfold p9 at o;split at o
 .rename_i xs ks ps;split at o
  .rename_i kk e;cases o;let(a,c,e):=eu.mp e;let(cs,d,e):=eu.mp e;let(ix,f,g):=eu.mp e;exact⟨xs,ks,ps,a,cs,ix,kk,rfl,rfl,c,d,f,g,rfl⟩
  .cases o
 .cases o
def Ii(C:zv3 X)(vC:Γ.qt=iv){e:Ci.E}{o:jj}{b:Bool}{i:Nat}{p:Str}{h:lq}{g:kv}{q1 q3 q4 q5:Pos}(T:GE X W F e o)(he:starEach [o] X.env=(iv,eval o X.env)::starEach [] X.env)
 (h3:N[i]?=ia x) (h4:sc.names.lookup x=ia .cell) (h5:iS sc "min"=ig) (h6:Γ.bs.contains "min"=ig) (h7:Γ.hl=ig) (ep:oH h=ia [p]) (L:if b=ig then kf p x h body g else qy p x h body g) (G7:aQ g=[x]):
 PE X (.Call (.Name "min" q1) [o] [{ia "key",.Lambda h body g q3,q4}] q5) (λr H Q=>tE X W F e r H λu w=>∃H0 env B xs ks ps D cs ix kk,Got W H0 B w e (.lst xs) u/\SR W H0 env r B w/\env[i]?=ia (.val (.bC ks ps))/\uD xs=ia D/\Fo b ks ps D=ia cs/\sO cs=ia ix/\D[ix]?=ia kk/\∀v G' H',aA W B w G' H'->Rep W G' (kP kk) v->Q v H'):=by
 intro aa s r H Q I hq;let(c,P):=I.ok.has x (.inl (by show X.env.scope.names.lookup x=_;rw [C.fu];exact h4))
 have Bm:closureFor g X.env=pure [(x,c)]:=by
  rw [gb λy hy hf=>?_]
  .show pure (bG X.env (aQ g))=_;rw [G7];simp [bG,P]
  .have:y.1∈aQ g:=by
    unfold aQ;rw [List.mem_reverse,hG];exact{y,List.mem_filter.mpr {hy,by rw [hf];rfl},rfl}
   rw [G7] at this;rw [e6.mp this];exact⟨c,P⟩
 refine wpAny_Call_Name_kw (eY I (fR C h5) (C.bs _ (fS.mp h6)) (u:=.builtin "min") (by decide+kernel) ?_);refine PyProof.Rows.callWith_kw (he:=by rw [he];rfl) (hplain:=by rw [he];rfl) ?_;rw [show backTo q5 (starEach [o] X.env)=[(iv,eval o X.env)] from by rw [he];rfl];refine Calls.spliced_cons (bL (T aa s r H _ I hq) λu s1 U=>Calls.spliced_nil ?_);let(v',w,I1,ru,H0,env,B,xs,ks,ps,D,cs,ix,kk,t,V,e1,e2,e3,e4,e5,q):=U;refine PyProof.Rows.kws_cons (bL (wM C h7 ep Bm aa s1 r w (λv2 R=>∃f S,v2=.ref f/\lQ X W h body g [(x,c)] B w S R f) I1 {B,V.sub,V.tab,λf S R lm=>⟨f,S,rfl,lm⟩}) λu s2 U=>PyProof.Rows.kws_nil ?_);let(v2,R,I2,Y,f,S,rfl,Z,c',oc,cU,t',eT,pm,fo,co,cd,cn):=U;cases Y;have m:=V.grow Z;let(l,vs,rfl,k1,k2):=(t.grow Z).top.lst m.sub;cases ru;let(bs,rfl,pk):=C9 m.sub e2 k2;let(v3,hs,_,rfl,rv):=m.slot i _ e1;simp! [Rep] at rv;let(d,o2,us,rfl,n,hd,lu):=rv;have kc:Bx X X.A.in1 r R f bs λj=>cs.getD j 0:=Pj (.inl rfl) C m.sub h3 h4 L hs hd lu n P (I.ok.Kc x c (C.fl h7 x) P) (m.sub _ _ fo) (m.sub _ _ co) cd cn (λu=>qG ep [u] rfl) pk e3;let(mm,M,NL):=xq e4;let(cl,_):=B3 e3;have YJ:bs.length=D.length:=pk.length;have O3:ix<D.length:=(cP.mp e5).1;refine zH kc (I.ok.hd (C.calm vC)) (by omega) I2 (oG C.K k1) λj hj O=>?_
 have ej:j=ix:=by
  have ca:∀a,a<cs.length->cs[a]?=ia (cs.getD a 0):=λa T=>by simp [T]
  have b1:=O ix (by omega);have b2:=NL j _ (ca j (by omega));have em:mm=cs.getD ix 0:=by rw [ca ix (by omega)] at M;exact(zzq M).symm
  rw [em] at b2;rcases Nat.lt_trichotomy j ix with z|z|z
  .have:=b2.2 z;have:=b1.1;omega
  .exact z
  .have:=b1.2 z;have:=b2.1;omega
 subst ej;let(kj,h1,h2):=wN pk (zzg hj);rw [e5] at h1;cases h1;let(G3,g3,hw):=nc (W:=W) m.sub h2;exact q _ _ _ (Z.trans g3) hw
def GR(S:zv1 X)(u:Γ.qt=iv){e:Ci.E}{h:jj}{m i:Nat}{a:lq}{d:kv}{w A B I M:Pos}(O:GE X W F e h)(P:∀env ps,starEach (h::ps) env=(iv,eval h env)::starEach ps env)
 (Q:N[m]?=ia y) (R:fV sc y=ig) (T:N[i]?=ia x) (U:sc.names.lookup x=ia .cell) (V:iS sc "min"=ig) (Y:Γ.bs.contains "min"=ig) (Z:Γ.hl=ig) (h8:pY x a body d=ig):
 GS X W F H0 E (.fW m e i) (.Assign [.Name y w] (.Call (.Name "min" A) [h] [{ia "key",.Lambda a body d B,I}] M) pos):=by
 let(a1,a2,a3):=eR S Q R;let(p,ep,L,G7,hox):=uC h8;refine L2.PS.imp (nK a1 a2 a3 (Ii S.C u (b:=ig) (p:=p) O (P _ _) T U V Y Z ep L G7) rfl (.inl (S.fn y))) λD σ H hq=>?_;let(G,env,sr,o):=hq;rw [jh] at o;refine oV S sr o λq v G1 H1 g t j f=>?_
 cases z:p9 ig env[i]? q with
 |bad=>rw [z] at f;exact f.elim|exc c=>rw [z] at f;exact f.elim|ok r=>rw [z] at f;let(xs,ks,ps,kl,cs,ix,kk,rfl,e1,e2,e3,e4,e5,rfl):=Dp z;exact{H0,env,G1,xs,ks,ps,kl,cs,ix,kk,t,j,e1,e2,e3,e4,e5,λv G' H' s rp=>f _ G' _ ((j.grow s).set m rp) (j.on s)}
def tV{e:Ci.E}(h:jX e=ig):∀env q,aC F e env=.ok q->∃xs,q=.lst xs:=by
 cases e<;>first|(exact aY h)|exact lst_is|exact xF|exact pG
def pj(S:zv1 X){i:Nat}{M:Pos}(t:N[i]?=ia x)(u:fV sc x=ig)(e:Ci.E)(p:jj)(O:jX e=ig)(h:bo Γ N sc e p=ig):PS X (.Assign [.Name x M] p pos) (NS X W F i e):=by
 cases e with
 |lst as=>let(V,e,b):=ah h;let(_,rfl):=Dh e;have a:=aw b;have s:=aw a.1;exact rG S t u (Cq s.1 (zzY s.2) (j7 as S.C _ a.2)) rfl|comp P Q R it elt=>let(w,h):=uQ h;let(y,j,f,_,rfl,b):=Rj h;let((z,A,B,D),m,a):=nC b;have d:=aw a;have o:=Hx d.1;dsimp only at m o;subst m o;clear h b a;have h:=aw d.2;clear d;simp! [zza] at h;let((((((b,a),d),q),I),L),g):=h;have g:=zzY g;subst g;exact BM S w t u (js b) a d (Ej it S.C z A q) (jx q _) I λY r=>(bz elt r y L).ge|ei P Q R it c elt=>let(w,h):=uQ h;let(y,j,f,_,rfl,b):=Rj h;let((z,A,B,D),m,a):=nC b;let(T,o,d):=nC a;dsimp only at m o;subst m o;clear h b a;have h:=aw d;clear d;simp! [zza] at h;let((((((((s,b),a),d),q),I),L),U),g):=h;have g:=zzY g;subst g;exact vL S w t u (js b) a d (Ej it S.C z A q) (jx q _) I (λY r=>(bz c r T L).gt s) λY r=>(bz elt r y U).ge|_=>exact aY O
def AE{e:Ci.E}{p:jj}(h:bo Γ N sc e p=ig)(a:jX e=iv):rq p=ig:=by
 cases p<;>first|rfl|(cases e<;>first|(exact aY h)|(rename_i q;cases q<;>exact aY h)|(cases a;done))
def Ab(S:zv1 X){i:Nat}{e:Ci.E}{p:jj}{c:Pos}(h:N[i]?=ia x)(hl:fV sc x=ig)(b:iC e=ig)(a:bo Γ N sc e p=ig):GS X W F H0 E (.set i e) (.Assign [.Name x c] p pos):=by
 cases hf:jX e with
 |true=>exact GV S (tV hf) b (pj S h hl e p hf a)|false=>exact Lh S h hl b (bz e S.C p a).ge (r9 (AE a hf))
def El(S:zv1 X)(e:Ci.E)(p:k7)(h:fj Γ N sc (.expr e) p=ig):GS X W F H0 E (.expr e) p:=by
 cases p<;>first|(exact aY h)|skip
 replace h:=aw h
 try simp! [zza] at h
 exact GO S (bz e S.C _ h.2).ge h.1
def yS(S:zv1 X)(i:Nat)(e:Ci.E)(p:k7)(h:fj Γ N sc (.set i e) p=ig):GS X W F H0 E (.set i e) p:=by
 cases p<;>first|(exact aY h)|skip
 replace h:=ah h;simp! [Option.any_eq_true,zza,zzy] at h;let(x,b,a):=h;let(c,rfl):=nA b;exact Ab S a.1.1.1 a.1.1.2 a.1.2 a.2
def IH(S:zv1 X)(i:Nat)(e:Ci.E)(p:k7)(h:fj Γ N sc (.own i e) p=ig):GS X W F H0 E (.own i e) p:=by
 cases p<;>first|(exact aY h)|skip
 replace h:=ah h;simp! [Option.any_eq_true,zza,zzy] at h;let(x,a,h):=h;let(b,rfl):=nA a;exact GU S h.1.1.1 (tV h.1.2) (pj S h.1.1.1 h.1.1.2 e _ h.1.2 h.2)
def IG(S:zv1 X)(i:Nat)(p:k7)(h:fj Γ N sc (.bq i) p=ig):GS X W F H0 E (.bq i) p:=by cases p<;>exact aY h
def IE(S:zv1 X)(i:Nat)(e:Ci.E)(p:k7)(h:fj Γ N sc (.app i e) p=ig):GS X W F H0 E (.app i e) p:=by
 cases p<;>first|(exact aY h)|skip
 replace h:=ah h;simp! [Option.any_eq_true,zza,zzy] at h;let((x,m,args),c,((((d,f),g),j),o),q,r,a):=h;let(np,b,s,rfl,hl):=wj c;cases dA r;cases j;exact Lc S d f g hl o (bz e S.C q a).ge (notStar a)
def Em(S:zv1 X)(i:Nat)(e:Ci.E)(p:k7)(h:fj Γ N sc (.lC i e) p=ig):GS X W F H0 E (.lC i e) p:=by
 cases p<;>first|(exact aY h)|skip
 replace h:=ah h;simp! [Option.any_eq_true,zza,zzy] at h;let((x,m,args),c,(((d,f),g),j),q,o,a):=h;let(np,b,r,rfl,hl):=wj c;cases dA o;cases j;exact GP S d f g hl (bz e S.C q a).ge (notStar a)
def II(S:zv1 X)(i:Nat)(kk e:Ci.E)(p:k7)(h:fj Γ N sc (.put i kk e) p=ig):GS X W F H0 E (.put i kk e) p:=by
 cases p<;>first|(exact aY h)|skip
 replace h:=ah h;simp! [Option.any_eq_true,zza,zzy] at h;let((x,b),c,((((d,f),g),j),a),m):=h;let(np,sp,rfl):=Ed c;exact Lf S d f g j a (bz kk S.C b a).ge (bz e S.C _ m).ge
set_option tactic.hygienic true in
def Ek(S:zv1 X)(i:Nat)(p:k7)(h:fj Γ N sc (.kC i) p=ig):GS X W F H0 E (.kC i) p:=by
 cases p<;>first|(exact aY h)|skip
 rename_i ts v a;cases v<;>first|(exact aY h)|skip
 rename_i b c dp;cases b<;>first|(exact aY h)|skip
 cases c<;>first|(exact aY h)|skip
 replace h:=ah h;simp! [Option.any_eq_true,zza,zzy] at h;let(x,d,e,f):=h;let(g,rfl):=nA d;exact GN S e f
def wV(S:zv1 X)(i j n:Nat)(p:k7)(h:fj Γ N sc (.fc i j n) p=ig):GS X W F H0 E (.fc i j n) p:=by
 cases p<;>first|(exact aY h)|skip
 replace h:=ah h;simp! [Option.any_eq_true,zza,zzy] at h;let((x,I),d,z,f,(((((g,o),q),r),s),t),(y,m,args),u,w,e,A,L,B,((C,D),a),b):=h;let(np,sp,rfl):=Ed d;let(M,rfl):=bR f;let(O,c,P,rfl,hl):=wj u;cases w;cases dA A;let(Q,rfl):=bR B;subst C;exact Aa S g o q r s t D a b hl
def En(S:zv1 X)(a:Γ.qt=iv)(m i:Nat)(p:k7)(h:fj Γ N sc (.nu m i) p=ig):GS X W F H0 E (.nu m i) p:=by
 cases p<;>first|(exact aY h)|skip
 replace h:=ah h;simp! [Option.any_eq_true,zza,zzy] at h;let(y,b,c,d,((((((e,f),g),j),o),q),r),s):=h;let(t,rfl):=nA b;let(u,w,z,A,B,rfl):=LZ d;exact GQ S a e f g j o q r s
def Eo(S:zv1 X)(b:Γ.qt=iv)(m:Nat)(e:Ci.E)(i:Nat)(p:k7)(h:fj Γ N sc (.fW m e i) p=ig):GS X W F H0 E (.fW m e i) p:=by
 cases p<;>first|(exact aY h)|skip
 replace h:=ah h;simp! [Option.any_eq_true,zza,zzy] at h;let(y,d,c,f,x,g,((((((j,o),q),r),s),t),u),a):=h;let(w,rfl):=nA d;let(z,A,B,D,rfl):=L0 f;exact GR S b (bz e S.C c.1 a).ge (notStar a) j o g q r s t u
set_option tactic.hygienic true in
def yR(S:zv1 X)(e:Ci.E)(p:k7)(h:fj Γ N sc (.ret e) p=ig):GS X W F H0 E (.ret e) p:=by
 cases p<;>first|(exact aY h)|skip
 rename_i v a;cases v with
 |none=>exact aY h|some v=>
  replace h:=aw h
  try simp! [zza] at h
  exact Lg S h.1 (bz e S.C v h.2).ge
set_option tactic.hygienic true in
def A3(S:zv1 X)(a:Γ.qt=iv)(c m:Str)(p:k7)(h:fj Γ N sc (.raise c m) p=ig):GS X W F H0 E (.raise c m) p:=by
 cases p<;>first|(exact aY h)|skip
 replace h:=aw h;simp! [Option.any_eq_true,zza,zzy] at h;let(b,(x,z),d,(((e,f),g),i),o):=h;let(np,j,r,s,rfl):=MS d;cases e;cases f;rename_i fr q;cases Option.isNone_iff_eq_none.mp b;exact Ct S a g i o
def IF(S:zv1 X)(p:k7)(h:fj Γ N sc (.brk) p=ig):GS X W F H0 E (.brk) p:=by
 cases p<;>first|(exact aY h)|skip
 exact Ld
def x8{c:Ci.E}{a b:Ss}{p:k7}(h:fj Γ N sc (.ite c a b) p=ig):∃q d e pos,p=.If q d e pos/\gF c=ig/\bo Γ N sc c q=ig/\dw Γ N sc a d=ig/\dw Γ N sc b e=ig:=by
 cases p<;>first|(exact aY h)|skip
 replace h:=aw h
 try simp! [zza] at h
 exact{_,_,_,_,rfl,h.1.1.1,h.1.1.2,h.1.2,h.2}
def Hg{c:Tg}{b:Ss}{p:k7}(h:fj Γ N sc (.cV c it b) p=ig):∃a d e pos,p=.For a d e [] pos/\iR N sc (λZ=>ig) c a=ig/\Gw it=ig/\zL Γ N sc a it d=ig/\dw Γ N sc b e=ig:=by
 cases p<;>first|(exact aY h)|skip
 replace h:=aw h
 try simp! [zza] at h
 cases List.isEmpty_iff.mp h.1.1.1.1;exact{_,_,_,_,rfl,h.1.1.1.2,h.1.1.2,h.1.2,h.2}
def Hh{c:Ci.E}{b:Ss}{p:k7}(h:fj Γ N sc (.E4 c b) p=ig):∃q a pos,p=.While q a [] pos/\gF c=ig/\bo Γ N sc c q=ig/\dw Γ N sc b a=ig:=by
 cases p<;>first|(exact aY h)|skip
 replace h:=aw h
 try simp! [zza] at h
 cases List.isEmpty_iff.mp h.1.1.1;exact{_,_,_,rfl,h.1.1.2,h.1.2,h.2}
def x9{ps:List k7}(h:dw Γ N sc .nil ps=ig):ps=[]:=by
 cases ps with
 |nil=>rfl|cons _ _=>exact aY h
def um{s:Ci.S}{a:Ss}{ps:List k7}(h:dw Γ N sc (.cons s a) ps=ig):(∃i,s=.bq i/\dw Γ N sc a ps=ig)\/∃q qs,ps=q::qs/\fj Γ N sc s q=ig/\dw Γ N sc a qs=ig:=by
 by_cases b:∃i,s=.bq i
 .let(i,rfl):=b;exact .inl ⟨i,rfl,h⟩
 .cases ps with
  |nil=>cases s<;>first|(exact absurd ⟨_,rfl⟩ b)|(exact aY h)
  |cons p ps=>
   have c:(fj Γ N sc s p&&dw Γ N sc a ps)=ig:=by
    cases s<;>first|(exact absurd ⟨_,rfl⟩ b)|(exact h)
   rw [zza] at c;exact .inr ⟨p,ps,rfl,c.1,c.2⟩
mutual
theorem Uv(S:zv1 X)(d:Γ.qt=iv):∀(s:Ci.S) (p:k7),fj Γ N sc s p=ig->GS X W F H0 E s p
 |.expr e,p,h=>El S e p h|.set i e,p,h=>yS S i e p h|.own i e,p,h=>IH S i e p h|.bq i,p,h=>IG S i p h|.app i e,p,h=>IE S i e p h|.lC i e,p,h=>Em S i e p h|.put i kk e,p,h=>II S i kk e p h|.kC i,p,h=>Ek S i p h|.fc i j n,p,h=>wV S i j n p h|.nu m i,p,h=>En S d m i p h|.fW m e i,p,h=>Eo S d m e i p h|.ret e,p,h=>yR S e p h|.ite c a b,p,h=>by let(q,y,t,pos,rfl,g,o,f,r):=x8 h;exact Cs S ((bz c S.C _ o).gt g) (nQ S d a _ f) (nQ S d b _ r)|.cV z it b,p,h=>by let(u,w,t,pos,rfl,g,o,f,r):=Hg h;exact Le S d g o (Ej it S.C u w f) (jx f _) (nQ S d b _ r)|.E4 c b,p,h=>by let(q,t,pos,rfl,g,o,f):=Hh h;exact Li S ((bz c S.C _ o).gt g) (nQ S d b _ f)|.raise c m,p,h=>A3 S d c m p h|.brk,p,h=>IF S p h
theorem nQ(S:zv1 X)(b:Γ.qt=iv):∀(a:Ss) (ps:List k7),dw Γ N sc a ps=ig->Bw X W F H0 E a ps
 |.nil,ps,h=>by cases x9 h;exact xV
 |.cons s a,ps,h=>by
  rcases um h with⟨i,e,c⟩|⟨q,qs,e,d,c⟩
  .have:=GX (i:=i) (nQ S b a ps c);rw [<-e] at this;exact this
  .rw [e];exact uf (Uv S b s q d) (nQ S b a qs c)
end
mutual
noncomputable def MK:Ci.S->Bool
 |.set _ _=>ig|.ret _=>ig|.ite _ a b=>nL a&&nL b|_=>iv
noncomputable def nL:Ss->Bool
 |.nil=>ig|.cons s ss=>MK s&&nL ss
end
mutual
theorem Uu(S:zv1 X):∀(s:Ci.S) (p:k7),MK s=ig->fj Γ N sc s p=ig->GS X W F H0 E s p
 |.set i e,p,_,h=>yS S i e p h|.ret e,p,_,h=>yR S e p h|.ite c a b,p,hz,h=>by unfold MK at hz;rw [zza] at hz;let(q,m,o,pos,rfl,d,f,g,j):=x8 h;exact Cs S ((bz c S.C _ f).gt d) (yQ S a _ hz.1 g) (yQ S b _ hz.2 j)|.expr _,_,h,_=>aY h|.own _ _,_,h,_=>aY h|.bq _,_,h,_=>aY h|.app _ _,_,h,_=>aY h|.lC _ _,_,h,_=>aY h|.put _ _ _,_,h,_=>aY h|.kC _,_,h,_=>aY h|.fc _ _ _,_,h,_=>aY h|.nu _ _,_,h,_=>aY h|.fW _ _ _,_,h,_=>aY h|.cV _ _ _,_,h,_=>aY h|.E4 _ _,_,h,_=>aY h|.raise _ _,_,h,_=>aY h|.brk,_,h,_=>aY h
theorem yQ(S:zv1 X):∀(a:Ss) (ps:List k7),nL a=ig->dw Γ N sc a ps=ig->Bw X W F H0 E a ps
 |.nil,ps,_,h=>by cases x9 h;exact xV
 |.cons s a,ps,hz,h=>by
  unfold nL at hz;rw [zza] at hz;rcases um h with⟨i,e,b⟩|⟨q,qs,e,c,b⟩
  .rw [e] at hz;exact aY hz.1
  .rw [e];exact uf (Uu S s q hz.1 c) (yQ S a qs hz.2 b)
end
end
end Ci
namespace L2
open PySem.Spec PyProof.Rows
def C6{K:zz8}{C:i6}{T:String}{b:Bool}(a:PySem.W.kitMeta T=ig)(c:PySem.W.subIn K (.ref C) (.type T)=ia b):PySem.W.kitOne K (.ref C) (.type T)=ia b:=by
 unfold PySem.W.kitOne;split
 .rename_i e;cases zzy.mp e
 .show(if PySem.W.kitMeta T=ig then PySem.W.subIn K (.ref C) (.type T) else ie)=ia b;rw [if_pos a];exact c
set_option tactic.hygienic true in
def Ms{K:zz8}{C:i6}{j:List i1}{a:String}(X:K.In h)(hm:mg x=ia (.ref C))(q:PySem.W.excIn K C j a=ig):OwnCls x C j a mg h:=by
 constructor
 .exact hm
 .unfold PySem.W.excIn at q;split at q
  .rename_i t cd u w;split at q
   .rename_i y b k m o p z r c A;simp! [zza,zzy,Bool.not_eq_true'] at q;let(((((B,D),E),F),G),H):=q;subst B D;let(nm,bs,d,e,I,hd,L,sub,M,f,g):=cd;have N:d=.ref y::b:=c;have i:g=iv:=E;have s:PySem.W.nsOkIn K e=ig:=G;have O:PySem.W.nsIn K e "__init__"=ia ie:=H;subst N i;obtain⟨ls⟩:=u;have P:ls=[k,m,o,p,ia (.builtin z),r]:=A;subst P;exact{b,e,nm,I,bs,hd,L,sub,M,f,t,k,m,o,p,r,_,X _ _ w,.of_isNs (PySem.W.isNs_of_in X s),PySem.W.nsMap_none_of_in X s O,PySem.W.tail_of_in X F}
   .cases q
  .cases q
end L2
namespace Ci
open L2
noncomputable abbrev Ce:List Value:=[.type (zu 19),.type "Exception",.type (zu 38),.type "object"]
structure vG(K:zz8)(mg:Str->Option i1)(Γ:Pg)(W:Wd):Prop where
 hK:W.K=K
 hm:W.mg=mg
 gs:∀q∈Γ.gs,∃u v,mg q.1=ia u/\RelV v u/\∀G,Rep W G q.2 v
 bs:∀g∈Γ.bs,mg g=ie
 Ro:Γ.cs.contains (zu 19)=iv
 cls:∀c∈Γ.cs,∃C,mg c=ia (.ref C)
 xc:∀d∈W.xs,∀D,mg d=ia (.ref D)->J3 K D/\(∀c∈Γ.cs,∀C,mg c=ia (.ref C)->PySem.W.kitOne K (.ref D) (.ref C)=ia (c==d||c==(zu 23)))/\PySem.W.kitOne K (.ref D) (.type (zu 19))=ia ig
 xs:∀c,Γ.rs.contains c=ig->c∈W.xs
 rm:∀c,Γ.rs.contains c=ig->∃C,mg c=ia (.ref C)/\PySem.W.excIn K C Ce (zu 14)=ig
 QV:Γ.cs.contains (zu 23)=ig->∀c D,c∈W.xs->mg c=ia (.ref D)->∀T,mg (zu 23)=ia (.ref T)->PySem.W.exmOne K (.ref D) (.ref T)=ia ig
 bm:W.ts≠[]->∃bm o,mg "__builtins__"=ia (.ref bm)/\bm≠builtinsNs/\bm≠k8/\K.lookup bm=ia o/\o.cls=.type "module"/\o.dict=ia builtinsNs/\o.data=.plain
structure Row where
 f:Str
 h:Str
 d:Def
 st:k7
 hl:Bool:=iv
noncomputable abbrev dF:Type:=List Row
abbrev lD(l:dF):List Str:=l.filterMap λr=>if r.d.iA.isNone then ia r.f else ie
abbrev Ak(l:dF):List Hs:=l.filterMap λr=>r.d.iA.map λq=>⟨r.f,r.h,q.1,q.2,r.d.np⟩
abbrev tab(l:dF):List (Str×Def):=l.map λq=>(q.f,q.d)
abbrev nh(l:dF):List Str:=match l.getLast? with|some r=>if r.d.iA.isNone then [r.f] else []|none=>[]
abbrev Pg.at(Γ:Pg)(l:dF)(hl:Bool):Pg:={Γ with fs:=lD l,hs:=Ak l,hl:=hl,qt:=l.isEmpty,qs:=nh l}
structure bF(Γ:Pg)(n:Str)(d:Def)(st:k7):Prop where
 sc:lP d.N (d.N.take d.np) (aU st)
 np:d.np<=d.N.length
 bind:∀(kV doc pm:i1) (an:Option i6) (gz ct:i1) (us:List i1),us.length=(d.N.take d.np).length->bindArgs (PySem.W.fnOf n n (dy st) (cT st) (aU st) .none kV doc pm an gz ct) {us,[]}=pure ((d.N.take d.np).zip us)
 VJ:dw Γ d.N (aU st) d.body (cT st)=ig
 Yo:(!Γ.qt||nL d.body)=ig
theorem stM{Γ:Pg}{n:Str}{d:Def}(b:∀(kV a c:i1) (e:Option i6) (f ct:i1) (us:List i1),us.length=(d.N.take d.np).length->bindArgs (PySem.W.fnOf n n (dy st) (cT st) (aU st) .none kV a c e f ct) {us,[]}=pure ((d.N.take d.np).zip us))
 (a1:(aU st).kind=.function:=by rfl) (g:(aU st).isCoroutine=iv:=by rfl) (h:(aU st).isGenerator=iv:=by rfl) (i:d.N.Nodup:=by decide+kernel) (j:d.N.take (d.N.take d.np).length=d.N.take d.np:=by rfl)
 (k:∀x∈d.N.take d.np,(aU st).names.lookup x=ia .local\/(aU st).names.lookup x=ia .cell:=by decide+kernel) (m:∀y∈(aU st).names,y.2≠.free:=by decide+kernel) (o:d.np<=d.N.length:=by decide+kernel) (p:dw Γ d.N (aU st) d.body (cT st)=ig:=by decide+kernel) (q:(!Γ.qt||nL d.body)=ig:=by decide+kernel):bF Γ n d st:={⟨a1,g,h,i,j,k,m⟩,o,b,p,q}
def gy(K:zz8)(c P:i6):Prop:=∃o a d f b g h e i,K.lookup c=ia o/\o.cls=.type "code"/\o.data=.fields a/\a[11]?=ia (.ref P)/\a.getD 11 .none=.ref P/\a.getD 18 .none=.str d f/\
 a.getD 7 .none=.int b g/\a.getD 9 .none=.bool h/\a.getD 10 .none=.int e i/\c≠P
abbrev ng(n:Str):Str:=(n++".<locals>.")++(zu 1)
def zm(K:zz8)(ts:List (i6×Str))(hl:Bool)(n:Str)(st:k7):Prop:=∃(f:i6) (oc:i1) (e:Option i6) (kV a g:i1) (h:Option i6) (b ct:i1) (i:Array (Option i1)),
 PySem.W.nsIn K k8 n=ia (ia (.ref f))/\K.lookup f=ia {oc,e,.func (PySem.W.fnOf n n (dy st) (cT st) (aU st) .none kV a g h b ct),i}/\PySem.W.codeIn K b n=ig/\PySem.W.keepIn K (.ref f)=ig/\
 (hl=ig->∃c P,b=.ref c/\gy K c P/\(P,ng n)∈ts/\∀d,(P,d)∈ts->d=ng n)
def Sx{K:zz8}{ts:List (i6×Str)}{n:Str}{f:i6}{oc:i1}{e:Option i6}{kV b g:i1}{h:Option i6}{d ct:i1}{i:Array (Option i1)}(a:PySem.W.nsIn K k8 n=ia (ia (.ref f)))
 (l:K.lookup f=ia {oc,e,.func (PySem.W.fnOf n n (dy st) (cT st) (aU st) .none kV b g h d ct),i}) (c:PySem.W.codeIn K d n=ig) (k:PySem.W.keepIn K (.ref f)=ig):zm K ts iv n st:={f,oc,e,kV,b,g,h,d,ct,i,a,l,c,k,nofun}
structure ke(P:jm)(w:kd)(K:zz8)(mg:Str->Option i1)(base:kB)(W:Wd)(F:aJ)(k:Nat)(f:Str):Prop where
 ex:∃fa fd ps,gO P w K mg base (eK P w) k fa fd ps (Bq W F f ps.length ie)/\mg f=ia (.ref fa)/\PySem.W.keepIn K (.ref fa)=ig/\Binds K fd ps []/\∀as,F f as≠.bad->as.length=ps.length
structure JT(P:jm)(w:kd)(K:zz8)(mg:Str->Option i1)(base:kB)(W:Wd)(F:aJ)(k:Nat)(q:Hs):Prop where
 ex:∃fa fd ps,gO P w K mg base (eK P w) k fa fd ps (Bq W F q.f ps.length (ia (q.g,q.idx)))/\mg q.h=ia (.ref fa)/\PySem.W.keepIn K (.ref fa)=ig/\Binds K fd ps []/\ps.length=q.np
section
variable{K:zz8}{Γ:Pg}{W:Wd}
def zM{c p:i6}(f:K.In base)(h:gy K c p):PySem.W.CodeHd base c p:=by let(o,g,b,i,a,j,k,d,m,e,r):=h;exact{o,g,b,i,a,j,k,d,m,f _ _ e,r}
theorem Kr(M:vG K mg Γ W)(b:K.In base){F:aJ}{k:Nat}{ps:List Str}{sc:kv}(S:lP N ps sc)(O:∀f,Γ.fs.contains f=ig->ke P w K mg base W F k f)(Q:∀q∈Γ.hs,JT P w K mg base W F k q)(r:∀f,Γ.qs.contains f=ig->2<=k/\ke P w K mg base W F 2 f)(hk:Γ.qt=iv->2<=k)(R:∀g as,F g as≠.bad->Γ.fs.contains g=ig\/ik g=ig){f:i6}{cd:i1}
 (t:Γ.hl=ig->∃c p,cd=.ref c/\gy K c p/\(p,ng qual)∈W.ts/\∀u,(p,u)∈W.ts->u=ng qual)   {s:i2}  {E:XK} (d:dq (k+1) (A.deeper (PyProof.Rows.envOfC qual sc (zz9 s) f cd))):
 eQ Γ F W N sc k E (ez (eK P w) P w K mg base N qual sc f cd A outer s H E) where
 C:={rfl,rfl,λz=>Option.isNone_iff_eq_none.mpr (d.hd (by have:=hk z;omega)),S.nd,M.hK,M.hm,M.gs,M.bs,d,λg i=>{(O g i).ex},M.Ro,M.cls,M.xc,λq m=>{(Q q m).ex},λf B=>{(r f B).1,{(r f B).2.ex}},R,λz=>by
  let(c,p,G,I,a,L):=t z;exact{c,p,G,zM b I,a,L},λz=>by
  let(c,p,G,I,a,L):=t z;let(bm,o,T,U,V,X,Y):=M.bm (λy=>by rw [y] at a;cases a);exact{bm,o,T,U,V,b _ _ X,Y},λ_ _=>rfl}
 fn:=λ_=>rfl
 own:=PassesOwn.leaving
 pass:=PJ
 kind:=S.kind
 Qb:=rfl
 frame:=rfl
 xs:=M.xs
 rm:=λc Z=>let⟨C,h,_⟩:=M.rm c Z;⟨C,h⟩
 rz:=λm c z j np zp cp pos h1 h2 h3=>by let(C,hC,hx):=M.rm c h1;have i:Gl (ez (eK P w) P w K mg base N qual sc f cd A outer s H E) c:=zzy.mp h2;refine L2.PS.imp (D5 i (Ms b hC hx) PySem.F.excBase_ValueError (cZ rE gu) rfl rfl (dH h3).1 (Option.isNone_iff_eq_none.mpr (d.hd (by have:=hk m;omega)))) λD σ H1 h=>{(show 1<=k6 by decide),λe he=>h C e hC he}
 QV:=M.QV
def vf{as:List PV}(sg:az G H)(tb:cH W G H)(l:ag W G as vs)(k:as.length<=N.length):SR W H (as.map .val++l0 (N.length-as.length) .no) (start N vs) G H:=by
 have hl:=l.length;unfold L2.start;refine{by simp;omega,sg,iP.refl _,λi s e=>?_,λi j p q a b Z Z Z=>?_,tb,tb}
 .by_cases c:i<as.length
  .rw [gR (zx6 c),d0] at e;let(p,d,rfl):=c4.mp e;let(v,f,g):=l.qY d;exact{ia v,by rw [gR (by simpa using (show i<vs.length by omega)),d0,f];rfl,v,rfl,g}
  .rw [gS (zx6 c),List.getElem?_replicate] at e;split at e
   .rename_i h;cases e;rw [zzl] at h;exact{ie,by rw [gS (by simp;omega),List.getElem?_replicate,if_pos (by rw [zzl];omega)],trivial}
   .cases e
 .exfalso;by_cases c:i<as.length
  .rw [gR (zx6 c),d0] at b;let(p,d,e):=c4.mp b;cases e
  .rw [gS (zx6 c),List.getElem?_replicate] at b;split at b<;>cases b
def SR.PX{t:St}{f:List PV}(i:Nat)(r:SR W H0 env t G H)(h:qx W G g idx f v):SR W H0 (env.set i (.fn g idx f)) (t.set i (ia v)) G H where
 len:=zx6 r.len
 sub:=r.sub
 base:=r.base
 tab:=r.tab
 pf:=r.pf
 slot:=λj s e=>by
  by_cases k:i=j
  .subst k;have d:i<env.length:=by
    have:=(cP.mp e).1;simpa using this
   rw [gv d] at e;cases e;exact{ia v,gv (by rw [<-r.len];exact d),v,rfl,h}
  .rw [ed k] at e;let(o,A,B):=r.slot j s e;exact{o,by rw [ed k];exact A,B}
 apart:=λa b q C D m p u y=>by
  have ne:∀{c:Nat} {q:PV},(env.set i (.fn g idx f))[c]?=ia (.own q)->i≠c:=λ{c q} e z=>by
   subst z;have d:i<env.length:=by have:=(cP.mp e).1;simpa using this
   rw [gv d] at e;cases e
  have E:=ne m;have F:=ne p;rw [ed E] at m u;rw [ed F] at p y;exact r.apart a b q C D m p u y
def yO{c:Type}{l r:List c}{a b:c}:(l++a::r).set l.length b=l++b::r:=by rw [List.set_append_right _ _ (bc _),Nat.sub_self];rfl
def A6{d:Def}{as:List PV}(j:d.np<=d.N.length)(sg:az G H)(tb:cH W G H)(l:Br W G d.iA as vs)(e:vs.length=d.np):c7 d as=ig/\SR W H (c8 d as) (start d.N vs) G H:=by
 unfold c7 c8;cases g:d.iA with
 |none=>rw [g] at l;have l:ag W G as vs:=l;exact{by rw [<-l.length,e];simp,vf sg tb l (by rw [<-l.length,e];exact j)}|some q=>
  rw [g] at l;let(xw,f,c,v,rfl,rfl,h,k):=l;have m:=h.length;have u:c.length=d.np-1/\0<d.np:=by rw [dj] at e;simp at e;omega
  have o:xw.length=d.np-1:=by omega
  refine{by simp;omega,?_};have p:=vf (N:=d.N) sg tb h (by omega);have i:=p.PX xw.length k
  have s:(xw.map Slot.val++l0 (d.N.length-xw.length) Slot.no).set xw.length (.fn q.1 q.2 f)=((xw++f).take (d.np-1)).map .val++.fn q.1 q.2 ((xw++f).drop (d.np-1))::l0 (d.N.length-d.np) Slot.no:=by
   rw [<-o,List.take_left',List.drop_left',show d.N.length-xw.length=(d.N.length-d.np)+1 by omega,List.replicate_succ]
   .have:=yO (l:=xw.map Slot.val) (r:=l0 (d.N.length-d.np) Slot.no) (a:=Slot.no) (b:=.fn q.1 q.2 f);rw [zzl] at this;exact this
   .rfl
   .rfl
  have t:(start d.N c).set xw.length (ia v)=start d.N (c++[v]):=by unfold L2.start;rw [dj,List.length_singleton,show d.N.length-c.length=(d.N.length-(c.length+1))+1 by omega,List.replicate_succ,<-m];have:=yO (l:=c.map ia) (r:=l0 (d.N.length-(c.length+1)) ie) (a:=ie) (b:=ia v);rw [zzl] at this;rw [this];simp
  rw [s,t] at i;exact i
def Ju(M:vG K mg Γ W)(y:K.In base){F:aJ}{k:Nat}{n nf:Str}{d:Def}{i:i6}{fd:FuncData}(St:bF Γ n d st)(z:QC K n n st i fd)(B:∀f,Γ.fs.contains f=ig->ke P w K mg base W F k f)(C:∀q∈Γ.hs,JT P w K mg base W F k q)(D:∀f,Γ.qs.contains f=ig->2<=k/\ke P w K mg base W F 2 f)(hk:Γ.qt=iv->2<=k)(I:∀g as,F g as≠.bad->Γ.fs.contains g=ig\/ik g=ig)
 (L:Γ.hl=ig->∃c p,fd.code=.ref c/\gy K c p/\(p,ng n)∈W.ts/\∀j,(p,j)∈W.ts->j=ng n):
 gO P w K mg base (eK P w) (k+2) i fd (d.N.take d.np) (Bq W (λ_ as=>aq F d as) nf (d.N.take d.np).length d.iA):=by
 have a:(d.N.take d.np).length=d.np:=by rw [List.length_take];have:=St.np;omega
 let(oc,Z,kV,O,pm,an,gz,ct,wK,rfl,R,S):=z.ex;refine OI R S St.sc (λT H Q E h=>h.1) λA outer s H T Q E U h=>?_;let(hl,G,as,sg,tb,l,o):=h;rw [a] at hl;let(V,m):=A6 St.np sg tb l hl;have t:=Kr (outer:=outer) (s:=s) (H:=H) (E:=E) M y St.sc B C D hk I L U
 refine{WM W F H E d.body,(by
  cases u:Γ.qt with
  |false=>exact nQ t u d.body _ St.VJ|true=>exact yQ t d.body _ (by have:=St.Yo;rw [u] at this;exact this) St.VJ),G,c8 d as,m,?_}
 dsimp only at o;unfold aq at o;rw [if_pos V] at o;cases r:aX F d.body (c8 d as) with
 |bad=>rw [r] at o;exact o|exc c=>rw [r] at o;exact o|ok fl=>
  rw [r] at o;cases fl with
  |nx env=>exact λX b e m g=>o .aG b e g .n|rt p=>exact λv b e Y g=>o v b e g Y|bk env=>exact o.elim|ct env=>exact o.elim
def AllK(K:zz8)(ts:List (i6×Str))(Γ:Pg):dF->Prop
 |[]=>True|r::l=>zm K ts r.hl r.h r.st/\bF (Γ.at l r.hl) r.h r.d r.st/\((l.map (·.f)).contains r.f=iv/\(r.d.iA.isNone==!ik r.f)=ig/\(r.d.iA.isNone=ig->r.f=r.h))/\AllK K ts Γ l
def yu(M:vG K mg Γ W)(l:dF)(hl:Bool):vG K mg (Γ.at l hl) W:=⟨M.hK,M.hm,M.gs,M.bs,M.Ro,M.cls,M.xc,M.xs,M.rm,M.QV,M.bm⟩
def ke.mono{F:aJ}{j k:Nat}{f:Str}(h:ke P w K mg base W F j f)(hk:j<=k):ke P w K mg base W F k f:=by let(a,fd,b,c,d):=h.ex;exact{a,fd,b,c.mono hk,d}
def nR{F a:aJ}{f b:Str}{n:Nat}{q:Option (Str×List Nat)}(e:∀as,a b as=F f as):Bq W a b n q=Bq W F f n q:=by
 funext c H Q E
 unfold Bq;simp! [e]
def ke.swap{F a:aJ}{k:Nat}{f:Str}(h:ke P w K mg base W F k f)(e:∀as,a f as=F f as):ke P w K mg base W a k f:=by let(b,fd,c,d,g,i,j,m):=h.ex;refine{b,fd,c,?_,g,i,j,λas o=>m as (by rw [<-e];exact o)};rw [nR e];exact d
def JT.swap{F a:aJ}{j k:Nat}{q:Hs}(h:JT P w K mg base W F j q)(hk:j<=k)(e:∀as,a q.f as=F q.f as):JT P w K mg base W a k q:=by let(b,fd,c,d,g,i,m,o):=h.ex;refine{b,fd,c,?_,g,i,m,o};rw [nR e];exact d.mono hk
def jv{r:Row}{l:dF}(h:(g==r.f)=iv)(as:List PV):den (tab (r::l)) g as=den (tab l) g as:=by show(if(g==r.f)=ig then _ else _)=_;rw [h];rfl
def tv{r:Row}{l:dF}(as:List PV):den (tab (r::l)) r.f as=aq (den (tab l)) r.d as:=by show(if(r.f==r.f)=ig then _ else _)=_;rw [beq_self_eq_true];rfl
theorem qQ:∀(l:dF) {ts:List (i6×Str)},AllK K ts Γ l->∀g as,den (tab l) g as≠.bad->(lD l).contains g=ig\/ik g=ig
 |[],_,_,g,as,h=>absurd rfl h|r::l,ts,⟨_,_,⟨_,a,_⟩,c⟩,g,as,h=>by
  by_cases e:(g==r.f)=ig
  .have i:=zzy.mp e
   subst i;cases b:r.d.iA with
   |none=>left;unfold lD;rw [List.filterMap_cons,b];simp|some q=>right;rw [b] at a;simpa using a
  .rw [jv (zx6 e)] at h;rcases qQ l c g as h with z|z
   .left;unfold lD at z⊢;rw [List.filterMap_cons];split
    .exact z
    .rw [List.contains_cons,z,Bool.or_true]
   .exact .inr z
def iE:∀{l:dF} {f:Str},(nh l).contains f=ig->l≠[]/\(lD l).contains f=ig:=by
 intro l f h;unfold nh at h;cases e:l.getLast? with
 |none=>rw [e] at h;cases h
 |some r=>
  rw [e] at h;have hm:=List.mem_of_getLast? e;refine{λz=>(by rw [z] at hm;cases hm),?_};dsimp only at h;split at h
  .rename_i a;have b:f=r.f:=zx6 h;rw [fS,b];exact hI.mpr {r,hm,if_pos a}
  .cases h
set_option tactic.hygienic true in
theorem BH(M:vG K mg Γ W)(t:K.In base)(G:base.Ns k8 mg):∀(l:dF),AllK K W.ts Γ l->(∀f,(lD l).contains f=ig->ke P w K mg base W (den (tab l)) (2*l.length) f)/\(∀q∈Ak l,JT P w K mg base W (den (tab l)) (2*l.length) q)/\∀f,(nh l).contains f=ig->ke P w K mg base W (den (tab l)) 2 f
 |[],_=>{λf a=>by simp [lD] at a,λq b=>by simp [Ak] at b,λf a=>absurd rfl (iE a).1}|r::l,j=>by
  let(he,hs,(Y,Z,C),O):=j;let(Q,m,o):=BH M t G l O;have p:l≠[]->2<=2*l.length:=λz=>by have:=List.length_pos_iff.mpr z;omega
  let(R,oc,od,kV,doc,pm,an,gz,ct,wK,S,e2,e3,D,e5):=he;have E:=Cj (st:=r.st) e2 e3 D;have ok:=Ju (P:=P) (w:=w) (nf:=r.f) (yu M l r.hl) t (k:=2*l.length) hs E (λg u=>Q g u) (λq b=>m q b) (λf a=>{p (iE a).1,o f a}) (λz=>p λy=>by subst y;cases z) (qQ l O) e5
  have F:∀g,(l.map (·.f)).contains g=ig->(g==r.f)=iv:=λg u=>by
   cases z:g==r.f with
   |false=>rfl|true=>rw [zzy.mp z,Y] at u;cases u
  have sp:Bq W (λ_ as=>aq (den (tab l)) r.d as) r.f (r.d.N.take r.d.np).length r.d.iA=Bq W (den (tab (r::l))) r.f (r.d.N.take r.d.np).length r.d.iA:=nR λas=>(tv as).symm;rw [sp] at ok;have c:(r.d.N.take r.d.np).length=r.d.np:=by rw [List.length_take];have:=hs.np;omega
  have T:∀f,(lD l).contains f=ig->(l.map (·.f)).contains f=ig:=λf a=>by
   rw [fS] at a⊢;unfold lD at a;let(x,H,e):=hI.mp a;split at e
   .cases e;exact List.mem_map_of_mem (f:=(·.f)) H
   .cases e
  have h:∀f,(lD (r::l)).contains f=ig->ke P w K mg base W (den (tab (r::l))) (2*(r::l).length) f:=λf a=>by
   by_cases U:(f==r.f)=ig/\r.d.iA=ie
   .let(h1,I):=U;have e:=zzy.mp h1;subst e;refine{R,_,r.d.N.take r.d.np,by rw [I] at ok;exact ok,?_,D,E.binds hs.bind,λas A=>?_}
    .rw [C (by rw [I];rfl)];exact PySem.W.mg_of t G S
    .rw [tv] at A;unfold aq at A;by_cases B:c7 r.d as=ig
     .unfold c7 at B;rw [I] at B;rw [c];exact zzy.mp B
     .rw [if_neg B] at A;exact absurd rfl A
   .have V:(lD l).contains f=ig:=by
     unfold lD at a⊢;rw [List.filterMap_cons] at a;split at a
     .exact a
     .rename_i y L;split at L
      .rename_i s;cases L;rw [List.contains_cons,gU] at a;rcases a with z|z
       .exact absurd {z,Option.isNone_iff_eq_none.mp s} U
       .exact z
      .cases L
    exact((Q f V).mono (by rw [c6];omega)).swap λas=>jv (F f (T f V)) as
  refine{h,λq b=>?_,λf a=>?_}
  rotate_left
  .cases l with
   |nil=>exact h f (iE a).2|cons x X=>
    have e:nh (r::x::X)=nh (x::X):=by unfold nh;rw [List.getLast?_cons_cons]
    rw [e] at a;exact(o f a).swap λas=>jv (F f (T f (iE a).2)) as
  .unfold Ak at b;rw [List.filterMap_cons] at b;have i:q∈Ak l->JT P w K mg base W (den (tab (r::l))) (2*(r::l).length) q:=λb=>by
    refine(m q b).swap (by rw [c6];omega) λas=>jv (F q.f ?_) as;unfold Ak at b;let(x,H,e):=hI.mp b;let(y,_,rfl):=c4.mp e;rw [fS];exact List.mem_map_of_mem (f:=(·.f)) H
   cases s:r.d.iA with
   |none=>rw [s] at b;exact i b|some y=>
    rw [s] at b;rcases fP.mp b with z|z
    .subst z;rw [s] at ok;exact{R,_,r.d.N.take r.d.np,ok,PySem.W.mg_of t G S,D,E.binds hs.bind,c}
    .exact i z
end
end Ci
namespace L2
open PySem.Spec PyProof.Rows
def Ap{K:zz8}{mb:Str->Option i1}{CX:Bi}{k:Nat}{M:i6}{fd:FuncData}{sp:Sp}{f:i2}{vs:List i1}(i:List i6)
 (N:K.In f.heap) (R:f.heap.Ns k8 mg) (g:f.heap.Ns builtinsNs mb) (Xv:∀x:Str,x≠(zu 40)->mb x=bootBuiltins x) (Ai:f.heap.NoLimit) (hg:f.gens=#[])
 (A:∀p∈i,f.heap.get? p=ia (PySem.W.tabObj #[])) (hC:∀p∈i,∃c,Ci.gy K c p) (Xm:∀p∈i,K.lookup p=ie)
 (B:f.heap.get? a=ia {cls:=.type "list",data:=.seq vs.toArray}) (S:IntsAre vs ns) (hl:ns.length<=k6) (hr:dq k callerA)
 (F:∀base:kB,K.In base->base.Ns k8 mg->gO P w K mg base CX k M fd [x] sp) (OW:∀(s:i2) (u:i1),BindsTo s fd {[u],[]} [(x,u)])
 (Jy:∀H:Hp,(∀p∈i,H p=ia (.gK #[]))->Ci.so K H a (ns.map V.int)->sp [.ref a] H (λv _=>v=.bl ig) λ_ _ _=>False)
 (SG:∀H e s',CX [] H f (λ_ _ _=>False) e s'->False):
 codeAny (kn P w) callerA (.call (.ref M) {[.ref a],[]}) (λr s'=>r=.ok (.ret (.bool ig))/\OldK f.heap s'.heap/\s'.os=f.os/\AllBare s'.gens) f:=by
 have T:=qv S;have Pq:=S.length;have U:a∉i:=λz=>by have:=A a z;rw [B] at this;cases this
 have t:∀H:Hp,(∀p∈i,H p=ia (.gK #[]))->Ci.so K H a (ns.map V.int)->eL P w H f.heap->(∀b,H b≠ie->b∈i\/b=a/\∃o xs,H b=ia (.bq o xs))->(H a≠ie->K.lookup a=ie)->
  codeAny (kn P w) callerA (.call (.ref M) {[.ref a],[]}) (λr s'=>r=.ok (.ret (.bool ig))/\OldK f.heap s'.heap/\s'.os=f.os/\AllBare s'.gens) f:=by
  intro H X hS aM O hK;have Y:∀{b:i6} {o:Obj},f.heap.get? b=ia o->H b=ie->(ra f.heap H).get? b=ia o:=λe n=>CC e n
  have HA:∀{b:i6} {o:Obj} {C:Array DictEntry} {D:Nat},f.heap.get? b=ia o->o.data=.dict C D->H b=ie:=λ{b o C D} e d=>by
   cases q:H b with
   |none=>rfl|some u=>
    rcases O b (by rw [q];simp) with z|⟨z,_⟩
    .rw [A b z] at e;cases e;cases d
    .subst z;rw [B] at e;cases e;have d':Data.seq vs.toArray _=Data.dict C D:=d;cases d'
  have G:∀{b:i6} {m:Str->Option i1},f.heap.Ns b m->(ra f.heap H).Ns b m:=λ{b m} ⟨o,C,D,e,d,r⟩=>{o,C,D,Y e (HA e d),d,r}
  have Z:K.In (ra f.heap H):=λb o e=>Y (N b o e) (by
   cases q:H b with
   |none=>rfl|some u=>
    rcases O b (by rw [q];simp) with z|⟨z,_⟩
    .rw [Xm b z] at e;cases e
    .subst z;rw [hK (by rw [q];simp)] at e;cases e)
  have hM:Mod K mg (ra f.heap H):={Z,G R,{mb,G g,Xv},let⟨mc,h1,h2⟩:=Ai;{mc,G h1,h2}};have e0:iV P w K mg (ra f.heap H) callerA [] f H:={rfl,hM,λb o e=>HS e,Nat.le_of_eq (Ah _ _),trivial,λb g=>absurd (show b∈([]:List i6) from g) (by simp),aM,.of_eq hg};refine codeAny_mono ((F _ Z (G R)).run callerA [] f H {[.ref a],[]} [.ref a] [.ref a] _ _ hr e0 (OW f (.ref a)) (.cons rfl .nil) (Jy H X hS)) λr s' h=>?_
  cases r with
  |error e=>exact(SG H e s' h).elim|ok fl=>
   cases fl with
   |next=>exact fA h|brk=>exact fA h|cont=>exact fA h|ret u=>
    let(v,H',os,bare,un,Hb,r',q):=h;have q':v=.bl ig:=q;subst q';obtain rfl:u=i1.bool ig:=r'
    have E:∀b o,f.heap.get? b=ia o->s'.heap.get? b=ia o\/b∈i/\∃m,s'.heap.get? b=ia (PySem.W.tabObj m):=λb o e=>by
     cases q:H b with
     |none=>exact .inl (un.keep b o e q (by intro z;exact absurd (show b∈([]:List i6) from z) (by simp)) (by simp))|some u=>
      rcases O b (by rw [q];simp) with z|⟨z,ob,xs,I⟩
      .right;let(m,hm):=un.ir b _ (X b z);exact{z,_,Hb b _ hm}
      .left;have z3:=un.gf b ob _ I;let(e1,_):=aM b _ I;let(e2,_):=Hb b _ z3;rw [e] at e1;cases e1;exact e2
    refine{rfl,{λb o e=>?_,λb o e=>?_},os,bare}
    .rcases E b o e with z|⟨z,m,I⟩
     .exact .inl z
     .have e':=A b z;rw [e] at e';cases e';let(c,o',Q,_,_,_,_,_,_,_,k1,k2,k3,k4,_):=hC b z;have tb:f.heap.TableAt c b #[]:={{o',Q,N _ _ k1,k2,k3,k4},e};exact .inr (.inl {tb.isCodeTable,rfl,#[],m,rfl,by rw [I];simp})
    .rcases E b o e with z|⟨_,m,z⟩
     .exact{_,z}
     .exact{_,z}
 cases hk:K.lookup a with
 |some o=>
  have e:=N a o hk;rw [B] at e;cases e;refine t (λb=>if b∈i then ia (.gK #[]) else ie) (λp L=>if_pos L) (.inr {vs.toArray,_,hk,by rw [a7,Pq];exact hl,zx6 T}) (λb u z=>?_) (λb z=>?_) λz=>absurd (if_neg U) z
  .by_cases g:b∈i
   .have j:=(if_pos g).symm.trans z;cases j;exact A b g
   .have j:=(if_neg g).symm.trans z;cases j
  .by_cases g:b∈i
   .exact .inl g
   .exact absurd (if_neg g) z
 |none=>
  refine t (λb=>if b=a then ia (.bq {cls:=.type "list",data:=.seq vs.toArray} (.lst (ns.map V.int))) else if b∈i then ia (.gK #[]) else ie) (λp L=>?_) (.inl (.inr {{cls:=.type "list",data:=.seq vs.toArray},if_pos rfl})) (λb u z=>?_) (λb z=>?_) λ_=>hk
  .show(if p=a then _ else _)=_;rw [if_neg (show¬p=a from λz=>U (by rw [<-z];exact L)),if_pos L]
  .by_cases g:b=a
   .have j:=(if_pos g).symm.trans z;cases j;subst g;exact{B,by rw [zzl];exact hl,vs,_,T,B}
   .replace z:=(if_neg g).symm.trans z;by_cases y:b∈i
    .have j:=(if_pos y).symm.trans z;cases j;exact A b y
    .have j:=(if_neg y).symm.trans z;cases j
  .by_cases g:b=a
   .exact .inr {g,_,_,if_pos g}
   .by_cases y:b∈i
    .exact .inl y
    .exact absurd ((if_neg g).trans (if_neg y)) z
def Nq{l:PySem.W.OpenLaw}{n k:Nat}{q:jm}{j:List Str}{E:(Str->Option i1)->kB->Prop}{C:kd->kB->Prop}{d:DefRec}{K:Params->zz8}{CX:kd->Bi}{sp:kd->Sp}(y:List i6)
 (I:l.most=ia n) (L:n<=k6) (M:d.params.defaults=[]) (N:dq k callerA)
 (hY:∀(w:kd) (h:kB),C w h->(K w.params).In h/\∀p∈y,h.get? p=ia (PySem.W.tabObj #[])) (hC:∀(w:kd),∀p∈y,(∃c,Ci.gy (K w.params) c p)/\(K w.params).lookup p=ie)
 (F:∀(w:kd) (mg:Str->Option i1) (z:i6) (h:kB),(K w.params).In h->h.Ns k8 mg->mg d.name=ia (.ref z)->
  ∃fd:FuncData,(∀(s:i2) (u:i1),BindsTo s fd {[u],[]} [(x,u)])/\
   ∀base:kB,(K w.params).In base->base.Ns k8 mg->gO l.prog w (K w.params) mg base (CX w) k z fd [x] (sp w))
 (O:∀(w:kd) (H:Hp) (a:i6) (ns:List Int),ns.length<=n->(∀p∈y,H p=ia (.gK #[]))->Ci.so (K w.params) H a (ns.map V.int)->sp w [.ref a] H (λv _=>v=.bl ig) λ_ _ _=>False)
 (P:∀(w:kd) (H:Hp) (s:i2) (e:i1) (s':i2),CX w [] H s (λ_ _ _=>False) e s'->False):
 PySem.W.WalkO q j E C l.row.toRowW d [] (λf vs=>PySem.call f vs):=by
 refine Att.sP I M λw s₀ r mg mb z o pm cd Q a vs ns G Y ho hd pS A t m i R=>?_;let(D,S):=hY w _ Y;let(fd,U,X):=F w mg z _ D G.T.g A;exact Ap y D G.T.g G.T.b G.T.builtins G.T.nolimit R S (λp B=>(hC w p B).1) (λp B=>(hC w p B).2) t m (eg i L) N X U (λH Z hS=>O w H a ns i Z hS) λH e s'=>P w H r e s'
end L2
namespace Ci
open L2
theorem nN{W:Wd}:∀(ns:List Int),ag W G (ns.map PV.int) (ns.map V.int)
 |[]=>.nil|n::ns=>.cons .i (nN ns)
abbrev qc(H:Hp):Hp:=λb=>match H b with
 |some (.gK _)=>ie|o=>o
def wD(H:Hp):az (qc H) H:=λb o e=>by
 unfold qc at e;split at e
 .cases e
 .exact e
def uL{b:i6}{o:HO}(h:H b=ia o)(n:∀ps,o≠.gK ps):qc H b=ia o:=by
 unfold qc;rw [h];cases o with
 |gK ps=>exact absurd rfl (n ps)|_=>rfl
abbrev Qa(K:zz8)(c:List i6):Sp:=λd H Q Z=>∃(a:i6) (b:List Int),d=[.ref a]/\(∀p∈c,H p=ia (.gK #[]))/\so K H a (b.map V.int)/\b.length<=63/\∀e,Q (.bl ig) e
def walk{l:PySem.W.OpenLaw}{q:jm}{i:List Str}{XP:(Str->Option i1)->kB->Prop}{L:kd->kB->Prop}{d:DefRec}{K:Params->zz8}(rest:dF)(Γ:Pg)(x:Str)(dl:Def)(xs:List Str)(ts:List (i6×Str))(st:k7)(A:Bool)
 (O:dl.N.take dl.np=[x]) (Bm:dl.iA=ie) (XC:d.name="law") (hn:l.most=ia 63) (O1:d.params.defaults=[]) (hr:dq (2*rest.length+2) callerA) (hY:∀(w:kd) (h:kB),L w h->(K w.params).In h/\∀p∈ts.map (·.1),h.get? p=ia (PySem.W.tabObj #[]))
 (hC:∀(w:kd),∀p∈ts.map (·.1),(∃c,gy (K w.params) c p)/\(K w.params).lookup p=ie)
 (hM:∀(w:kd) (mg:Str->Option i1) (h:kB),(K w.params).In h->h.Ns k8 mg->vG (K w.params) mg Γ {K w.params,mg,xs,ts})
 (hE:∀w:kd,zm (K w.params) ts A "law" st) (R:bF (Γ.at rest A) "law" dl st) (iJ:rest≠[])
 (S:∀w:kd,AllK (K w.params) ts Γ rest)
 (S5:∀ns:List Int,ns.length<=63->aq (den (tab rest)) dl [.lst (ns.map .int)]=.ok (.bl ig)):
 PySem.W.WalkO q i XP L l.row.toRowW d [] (λf vs=>PySem.call f vs):=by
 refine L2.Nq (n:=63) (k:=2*rest.length+2) (x:=x) (CX:=λw=>eK l.prog w) (sp:=λw=>Qa (K w.params) (ts.map (·.1))) (ts.map (·.1)) hn (by decide) O1 hr hY hC ?_ ?_ ?_
 .intro w mg fa h KX G j;rw [XC] at j;let(f,oc,od,kV,r,T,U,V,ct,wK,e1,e2,e3,e4,e5):=hE w;have D:fa=f:=by have z:=j.symm.trans (PySem.W.mg_of KX G e1);cases z;rfl
  subst D;refine{PySem.W.fnOf "law" "law" (dy st) (cT st) (aU st) .none kV r T U V ct,λs u=>?_,λbase I X=>?_}
  .have Y:=R.bind kV r T U V ct [u];rw [O] at Y;exact .of_eq (Y rfl)
  .have M:=hM w mg base I X;have y:2<=2*rest.length:=by have:=List.length_pos_iff.mpr iJ;omega
   let(a1,a2,a3):=BH (P:=l.prog) (w:=w) M I X rest (S w);have ok:=Ju (P:=l.prog) (w:=w) (nf:="law") (yu M rest A) I (k:=2*rest.length) R (Cj (st:=st) e2 e3 e4) (λg hg=>a1 g hg) (λq hq=>a2 q hq) (λf D=>{y,a3 f D}) (λ_=>y) (qQ rest (S w)) e5;rw [O] at ok;refine ok.imp λvs H Q E h=>?_;let(a,ns,rfl,ht,hl,b,q):=h;refine{rfl,qc H,[.lst (ns.map .int)],wD H,λP q m=>?_,?_,?_}
   .have Z:=ht P (List.mem_map_of_mem (f:=(·.1)) m);refine{by unfold qc;rw [Z],#[],Z,trivial,λpos cv e=>nomatch e}
   .rw [Bm];refine ag.cons (.l ?_ (nN ns)) .nil;rcases hl with(h|⟨o,h⟩)|h
    .exact .inl (.inl (uL h (λ_ z=>nomatch z)))
    .exact .inl (.inr {o,uL h (λ_ z=>nomatch z)})
    .exact .inr h
   .dsimp only;rw [S5 ns b];intro v G' H' _ rv;simp! [Rep] at rv;subst rv;exact q H'
 .intro w H a ns b hO Ac;exact{a,ns,rfl,hO,Ac,b,λ_=>rfl}
 .intro w H s e s' h;let(a,C,t,vs,H',B,rfl,F):=h;exact F.ends
end Ci
namespace Hd
open PySem.W PySem.Calls
abbrev MQ(st:SharedT->Thread->Option (SharedT×Thread))(ok:Thread->Bool)(n:Nat):SharedT->Thread->Option SharedT:=
 @Nat.rec (λZ=>SharedT->Thread->Option SharedT) (λZ Z=>ie) (λZ a s t=>match through t with
  |true=>ia s|false=>match ok t with
   |false=>ie|true=>match st s t with
    |some (b,c)=>a b c|none=>ie) n
theorem qg{tb:String->Option la}{p:jm}{a:Nat}{ann:Option i1}:∀{n:Nat} {s s':SharedT} {t:Thread},MQ (stepT (denote tb) p w) (stepOk a ann) n s t=ia s'->topRun tb p w a ann n s.abs t=ia s'.abs
 |0,_,_,_,h=>by cases h
 |n+1,s,s',t,h=>by
  have h:(match through t with
   |true=>ia s|false=>match stepOk a ann t with
    |false=>ie|true=>match stepT (denote tb) p w s t with
     |some (s',t')=>MQ (stepT (denote tb) p w) (stepOk a ann) n s' t'|none=>ie)=ia s':=h
  unfold topRun;cases b:through t with
  |true=>rw [b] at h;cases h;rfl
  |false=>
   rw [b] at h;cases hk:stepOk a ann t with
   |false=>rw [hk] at h;cases h
   |true=>
    rw [hk] at h;cases hs:stepT (denote tb) p w s t with
    |none=>rw [hs] at h;cases h
    |some r=>let(c,d):=r;rw [hs] at h;rw [stepT_spec hs];exact qg h
abbrev treeOf(l:List Obj):BT:=(l.foldl (λ(T,i) o=>(BT.ins T i o,i+1)) (BT.nil,0)).1
def Hq{p q:jm}{a:List Str}{b:i2->Bool}{c:Type}{g:i2->c}{i:kd->c}{N:Nat}{j:Bool}{T₀:Params->BT}{life:Life}{m₀:Nat}{ann:Option i1}{M:Nat}
 (e:opening p=plainProg p.main.scope.names) (hN:Nat.ble 600 N=ig) (f:∀s,fenceModules? p s=ia s)
 (m:∀P:Params,absHeap (T₀ P) m₀ life=boot_heap P)
 (size:∀w:kd,((boot_heap w.params).isNs k8,(boot_heap w.params).nsMap k8 "__annotations__")=(ig,ann))
 (le:Nat.ble M N=ig)
 (run:∀(w:kd) (os:OsState),(MQ (stepT (denote treeTable) p w) (stepOk m₀ ann) M {T₀ w.params,m₀,life,Array.mk [],boot_drawn,boot_toks,os} (topStub p)).map (λs=>
  ((staticsOk (importedModules p.main.body) (boot_heap w.params) s.abs.heap&&namesBound p s.abs.heap&&gensDone s.abs&&laidKept (boot_heap w.params) s.abs.heap),openSeen q a (importedModules p.main.body) b j s.abs,g s.abs))
  =ia (ig,openGood q a,i w)):LeftO p q a b g i N j:=λw=>by
 let((h,gs,d,k,os),o,u):=c4.mp (boot_open e hN f w);obtain⟨rfl,rfl,rfl,rfl⟩:h=boot_heap w.params/\gs=Array.mk []/\d=boot_drawn/\k=boot_toks:=zx6 u;obtain⟨y,z⟩:_/\_:=by simpa only [Prod.mk.injEq] using size w
 let(s,r,l):=c4.mp (run w os);obtain⟨A,B,C⟩:_/\_/\_:=by simpa only [Prod.mk.injEq] using l
 have r:=qg r;have r:=topRun_mono (N-M) _ _ _ _ r;rw [show M+(N-M)=N by have:=Nat.le_of_ble_eq_true le;omega] at r;have hs:(boot_heap w.params).objs.size=m₀:=by rw [<-m w.params];exact absHeap_size _ _ _
 have r:topRun treeTable p w m₀ ann N {boot_heap w.params,Array.mk [],boot_drawn,boot_toks,os} (topStub p)=ia s.abs:=by
  have:({T₀ w.params,m₀,life,Array.mk [],boot_drawn,boot_toks,os}:SharedT).abs={boot_heap w.params,Array.mk [],boot_drawn,boot_toks,os}:=by show i2.mk _ _ _ _ _=_;rw [show absHeap (T₀ w.params) m₀ life=boot_heap w.params from m w.params]
  rw [<-this];exact r
 have t:topFrom treeTable p w N {boot_heap w.params,Array.mk [],boot_drawn,boot_toks,os}=ia s.abs:=by
  unfold topFrom;dsimp only;rw [y,z,hs,r];show(match staticsOk (importedModules p.main.body) (boot_heap w.params) s.abs.heap&&namesBound p s.abs.heap&&gensDone s.abs&&laidKept (boot_heap w.params) s.abs.heap with|true=>_|false=>_)=_;rw [A]
 unfold openEnds;rw [o];show(topFrom treeTable p w N _).map _=_;rw [t];exact congrArg ia (Prod.ext B C)
end Hd
namespace Hd
open PySem.W
def Of:∀P:Params,absHeap (treeOf (boot_heap P).objs.toList) 11 {}=boot_heap P:=λP=>by kernel_rfl
def Og:∀w:kd,((boot_heap w.params).isNs k8,(boot_heap w.params).nsMap k8 "__annotations__")=(ig,ia (.ref 6)):=λw=>by kernel_rfl
noncomputable abbrev de(P:Params)(x:Str)(t:Tok)(v:i1):DictEntry:={hash:=PyData.keyHash P x,key:=.str x t,val:=v}
theorem holds{l:OpenLaw}{keep:List Nat}{K:Params->Frag}{as:List i6}{d:DefRec}{N:Nat}(a:l.wellSaid=ig)
 (ka:∀P,as=(K P).map (·.1))
 (left:LeftO l.row.prog (view l.row.prog keep) [] (λs=>xlAt (view l.row.prog keep) [] s&&recOk l.row.toRowW.records s) (kHook K as ka).obs (kHook K as ka).val N)
 (b:defOf (view l.row.prog keep) l.row.name=ia (d,[])) (c:l.row.prog.theDef l.row.name=ia (d.params,d.body,d.scope)) (hk:kwWritten? d.params.kwonlyargs d.params.kw_defaults=ia [])
 (ok:(chainsOk (view l.row.prog keep)&&opensWell l.row.prog&&(frees l.row.toRowW&&l.row.within.isEmpty))=ig) (g:l.row.prog.bare) (i:l.row.toRowW.promised)
 (call:WalkO (view l.row.prog keep) [] (XL (view l.row.prog keep) []) (kHook K as ka).says l.row.toRowW d [] λf vs=>PySem.call f vs):l.Holds:=
 holds_law a λj=>holds_open (N:=N) left (Hook.of (kHook K as ka)) (Hook.keeps (kHook K as ka)) (λs e=>xl_of s (Bool.and_eq_true_iff.mp e).1) XL.keeps b c hk (λs e=>recFacts_of (Bool.and_eq_true_iff.mp e).2) (by cases h:l.row.writes<;>rfl) j ok g i call
theorem BK{P:List i1->Prop}(h:∀a,P [a]):∀us:List i1,us.length=1->P us
 |[a],_=>h a
theorem vK{P:List i1->Prop}(h:∀a b,P [a,b]):∀us:List i1,us.length=2->P us
 |[a,b],_=>h a b
theorem EN{P:List i1->Prop}(h:∀a b c,P [a,b,c]):∀us:List i1,us.length=3->P us
 |[a,b,c],_=>h a b c
theorem J6{P:List i1->Prop}(h:∀a b c d,P [a,b,c,d]):∀us:List i1,us.length=4->P us
 |[a,b,c,d],_=>h a b c d
end Hd
namespace KJ
open L2 Ci
theorem vB{b c:Type}{a:b}{f:b->Res c}:(Res.ok a).bind f=f a:=rfl
theorem RF{b:Type}{a:b}:(Res.ok a).well=.ok a:=rfl
theorem Uk{b:Type}{a:b}:Res.of (ia a)=.ok a:=rfl
theorem WG{env:Sl}{k:Sl->Res Fl}:(Fl.nx env).seq k=k env:=rfl
theorem WH{p:PV}{k:Sl->Res Fl}:(Fl.rt p).seq k=.ok (.rt p):=rfl
theorem WE{env:Sl}{k:Sl->Res Fl}:(Fl.bk env).seq k=.ok (.bk env):=rfl
theorem sv{p:PV}:qj (ia (.val p))=.ok p:=rfl
theorem WJ{p:PV}:Ei (ia (.val p))=.ok p:=rfl
theorem WI{p:PV}:Ei (ia (.own p))=.ok p:=rfl
theorem NB{a:Type}{b:Bool}{f:Bool->Res a}:sy (.bl b) f=f b:=rfl
theorem Jk{i j:Int}:binOp .add (.int i) (.int j)=.ok (.int (i+j)):=rfl
theorem Jl{i j:Str}:binOp .add (.str i) (.str j)=if i.length+j.length<=cY then .ok (.str (i++j)) else .bad:=rfl
theorem Od{i j:Int}:binOp .sub (.int i) (.int j)=.ok (.int (i-j)):=rfl
theorem Oc{i j:Int}:binOp .mul (.int i) (.int j)=if aN i||aN j then .ok (.int (i*j)) else .bad:=rfl
theorem Ob{i j:Int}:binOp .mod (.int i) (.int j)=if 0<j then .ok (.int (i%j)) else .bad:=rfl
theorem Oa{i j:Int}:binOp .fdiv (.int i) (.int j)=if 0<j/\j<1073741824 then .ok (.int (i/j)) else .bad:=rfl
theorem VC:d6 .eq=iL:=rfl
theorem VI:d6 .ne=iM:=rfl
theorem VH:d6 .lt=uT:=rfl
theorem VG:d6 .le=uS:=rfl
theorem VE:d6 .LD=wI:=rfl
theorem Ol:d6 .rn=iT:=rfl
theorem oLt{i j:Int}:uT (.int i) (.int j)=.ok (.bl (decide (i<j))):=rfl
theorem oLe{i j:Int}:uS (.int i) (.int j)=.ok (.bl (decide (i<=j))):=rfl
theorem lL{xs:List PV}:d5 .len [.lst xs]=.ok (.int xs.length):=rfl
theorem lT{xs:List PV}:d5 .len [.tup xs]=.ok (.int xs.length):=rfl
theorem lS{z:Str}:d5 .len [.str z]=if z.length<=cY then .ok (.int z.length) else .bad:=rfl
theorem tL{xs:List PV}:d5 .tuple [.lst xs]=.ok (.tup xs):=rfl
theorem aL{xs:List PV}:d5 .all [.lst xs]=(Res.of (boolsOf xs)).bind λbs=>.ok (.bl (bs.all id)):=rfl
theorem Qn{i:Nat}{p:PV}{env:Sl}:(Tg.one i).put p env=.ok (env.set i (.val p)):=rfl
theorem Rz{i j:Nat}{a b:PV}{env:Sl}:(Tg.two i j).put (.tup [a,b]) env=.ok ((env.set i (.val a)).set j (.val b)):=rfl
theorem Bj{p:PV}:qV (.own p)=.val p:=rfl
theorem jA{b:Type}{a:b}{as:List b}:(a::as).length=as.length+1:=rfl
theorem jB{a:Type}:([]:List a).length=0:=rfl
theorem jC{b c:Type}{f:b->c}{a:b}{l:List b}:(a::l).map f=f a::l.map f:=rfl
theorem jD{a b:Type}{f:a->b}:([]:List a).map f=[]:=rfl
theorem jE{b:Type}{a:b}{as bs:List b}:a::as++bs=a::(as++bs):=rfl
theorem jF{a:Type}{as:List a}:[]++as=as:=rfl
theorem jG{b:Type}{a:b}{l:List b}:(a::l)[0]?=ia a:=rfl
theorem jH{b:Type}{a:b}{l:List b}{i:Nat}:(a::l)[i+1]?=l[i]?:=rfl
theorem jI{c:Type}{a b:c}{l:List c}:(a::l).set 0 b=b::l:=rfl
theorem jJ{c:Type}{a b:c}{l:List c}{i:Nat}:(a::l).set (i+1) b=a::l.set i b:=rfl
theorem jK{b:Type}{a d:b}{l:List b}:(a::l).getD 0 d=a:=rfl
theorem jL{b:Type}{a d:b}{l:List b}{i:Nat}:(a::l).getD (i+1) d=l.getD i d:=rfl
def jM{n:Nat}:0+n=n:=Nat.zero_add _
theorem jN:(!true)=iv:=rfl
theorem jO:(!false)=ig:=rfl
def jP:(iv=ig)=False:=eM
theorem oG{e:E}{xs:List PV}:wU e (.lst xs)=.ok xs:=rfl
theorem WD{e:E}{xs:List PV}:wU e (.tup xs)=.ok xs:=rfl
theorem Rf{xs:List PV}:itemsOf (.tup xs)=.ok xs:=rfl
theorem Rb{xs:List PV}:itemsOf (.lst xs)=.ok xs:=rfl
theorem Rc{z:Str}:itemsOf (.str z)=.ok (chars z):=rfl
theorem jQ{b:Type}{f:b->b}{a:b}{l:List b}:(a::l).modify 0 f=f a::l:=rfl
def jR{b:Type}{f:b->b}{a:b}{l:List b}{i:Nat}:(a::l).modify (i+1) f=a::l.modify i f:=by simp
theorem jS{b:Type}{a:b}:l0 0 a=[]:=id rfl
theorem jT{b:Type}{a:b}{n:Nat}:l0 (n+1) a=a::l0 n a:=id rfl
def jU{n:Nat}:(n==n)=ig:=beq_self_eq_true n
abbrev J:=lM @jS (lM @jT (lM @jU (lM @vB (lM @RF (lM @Uk (lM @WG (lM @WH (lM @WE (lM @sv (lM @WJ (lM @WI (lM @NB (lM @Jk (lM @Jl (lM @Od (lM @Oc (lM @Ob (lM @Oa (lM @VC (lM @VI (lM @VH (lM @VG (lM @VE (lM @Ol (lM @oLt (lM @oLe (lM @lL (lM @lT (lM @lS (lM @tL (lM @aL (lM @Qn (lM @Rz (lM @Bj (lM @jA (lM @jB (lM @jC (lM @jD (lM @jE (lM @jF (lM @jG (lM @jH (lM @jI (lM @jJ (lM @jK (lM @jL (lM @jM (lM @jN (lM @jO (lM @jP (lM @oG (lM @WD (lM @Rf (lM @Rb (lM @Rc (lM @jQ (@jR)))))))))))))))))))))))))))))))))))))))))))))))))))))))))
def KD{n:Str}{d:Def}{r:List (Str×Def)}:den ((n,d)::r) n=aq (den r) d:=by funext as;simp [den]
def KG{n f:Str}{d:Def}{r:List (Str×Def)}(h:(f==n)=iv):den ((n,d)::r) f=den r f:=by funext as;simp [den,h]
theorem tD{f:Str}:∀(n:Nat) {T:List (Str×Def)},((T.take n).all λx=>!(f==x.1))=ig->den T f=den (T.drop n) f
 |0,_,_=>rfl|n+1,[],_=>rfl|n+1,(m,d)::r,h=>by rw [List.take_succ_cons,List.all_cons,zza,Bool.not_eq_true'] at h;exact(KG h.1).trans (tD n h.2)
def dk{f:Str}{d:Def}{r T:List (Str×Def)}(k:Nat)(h:((T.take k).all λx=>!(f==x.1))=ig:=by decide+kernel)(e:T.drop k=(f,d)::r:=by rfl):den T f=aq (den r) d:=by rw [tD k h,e];exact KD
end KJ
local macro_rules | `(#v[]) => `(.nil) | `(#v[$x]) => `(.cons $x .nil) | `(#v[$x, $xs,*]) => `(.cons $x #v[$xs,*]) | `(!$n:num) => `(.var $n) | `(¬$n:num) => `(.cst (.int $n))
namespace K91
open L2 Ci KJ
abbrev eU:Def:={["thing"],1,#v[.ret (.and (.ty .int (!0)) (.not (.ty .bool (!0))))],ie}
abbrev dc:Def:={[zu 47,"_law_k"],2,#v[.ite (.cmp .lt (!1) (.blt .len #v[!0])) #v[.ret (.sub (!0) (!1))] .nil,.ite (.cmp .eq (!0) (.lst .nil)) #v[.ret (¬0)] .nil,.ret (.bin .add (.bin .mul (.sub (!0) (.bin .mod (!1) (.blt .len #v[!0]))) (¬31)) (!1))],ie}
abbrev bP:Def:={[zu 47,"_law_k","_law_many","_law_drawn"],3,#v[.set 3 (.bin .mod (.bin .mul (.bin .add (.call (zu 46) #v[!0,!1]) (.bin .mul (¬6151) (.bin .add (!1) (¬1)))) (¬40692)) (¬2147483399)),.ret (.bin .mod (.bin .mod (.bin .add (.bin .mul (!3) (!3)) (.bin .fdiv (!3) (¬31))) (¬2147483629)) (!2))],ie}
abbrev cu:Def:={[zu 47,"_law_at","_law_most","_law_rows","_law_columns","_law_shuts","_law_top","_law_made","_law_row","_law_signs","_law_column","_law_drawn"],3,#v[.set 3 (.bin .add (¬1) (.call (zu 3) #v[!0,!1,!2])),.set 4 (.bin .add (¬1) (.call (zu 3) #v[!0,.bin .add (!1) (¬1),!2])),.set 5 (.sub (.lst #v[¬0,¬2,¬4,¬6]) (.call (zu 3) #v[!0,.bin .add (!1) (¬2),¬4])),.set 6 (.sub (.lst #v[¬1,¬2,¬3,¬10]) (.call (zu 3) #v[!0,.bin .add (!1) (¬3),¬4])),.own 7 (.lst .nil),.cV (.one 8) (.va (!3)) #v[.set 9 (.cst (.str "")),.cV (.one 10) (.va (!4)) #v[.set 11 (.call (zu 3) #v[!0,.bin .add (.bin .add (.bin .add (!1) (¬4)) (.bin .mul (!2) (!8))) (!10),.bin .mul (¬12) (!6)]),.set 9 (.bin .add (!9) (.ite (.cmp .lt (.bin .mod (!11) (¬12)) (!5)) (.cst (.str "#")) (.blt .str #v[.bin .fdiv (!11) (¬12)])))],.app 7 (!9)],.ret (.blt .tuple #v[.f7 7])],ie}
abbrev cB:Def:={[zu 47,"_law_at"],2,#v[.ret (.tup #v[.cmp .eq (.call (zu 3) #v[!0,!1,¬2]) (¬0),.sub (.lst #v[¬0,¬1,¬2,¬9]) (.call (zu 3) #v[!0,.bin .add (!1) (¬1),¬4]),.call (zu 3) #v[!0,.bin .add (!1) (¬2),¬4]])],ie}
abbrev cN:Def:={["_law_floor_here","_law_made","_law_row","_law_signs"],1,#v[.own 1 (.lst .nil),.cV (.two 2 3) (.enum (!0)) #v[.lC 1 (.ei 2 [2] (.two 0 1) (.enum (!3)) (.cmp .ne (!1) (.cst (.str "#"))) (.tup #v[!2,!0]))],.bq 1,.ret (!1)],ie}
abbrev eN:Def:={["thing"],1,#v[.ret (.and (.ty .tuple (!0)) (.and (.cmp .eq (.blt .len #v[!0]) (¬2)) (.and (.call (zu 50) #v[.sub (!0) (¬0)]) (.call (zu 50) #v[.sub (!0) (¬1)]))))],ie}
abbrev cD:Def:={["floor","spot"],2,#v[.ret (.and (.ch .le .lt (¬0) (.sub (!1) (¬0)) (.blt .len #v[!0])) (.ch .le .lt (¬0) (.sub (!1) (¬1)) (.blt .len #v[.sub (!0) (.sub (!1) (¬0))])))],ie}
abbrev bW:Def:={["floor","thing"],2,#v[.ret (.and (.call "is_spot" #v[!1]) (.and (.call (zu 29) #v[!0,!1]) (.cmp .ne (.sub (.sub (!0) (.sub (!1) (¬0))) (.sub (!1) (¬1))) (.glob "WALL" (.str "#")))))],ie}
abbrev bh:Def:={["floor","spot"],2,#v[.ite (.not (.call (zu 15) #v[!0,!1])) #v[.raise "NoSpot" "the spot is not on the floor or a wall"] .nil],ie}
abbrev cO:Def:={["one","other"],2,#v[.ret (.and (.cmp .ne (!0) (!1)) (.and (.cmp .le (.blt .abs #v[.bin .sub (.sub (!0) (¬0)) (.sub (!1) (¬0))]) (¬1)) (.cmp .le (.blt .abs #v[.bin .sub (.sub (!0) (¬1)) (.sub (!1) (¬1))]) (¬1))))],ie}
abbrev df:Def:={["floor","spot"],2,#v[.expr (.call (zu 4) #v[!0,!1]),.ret (.blt .int #v[.sub (.sub (!0) (.sub (!1) (¬0))) (.sub (!1) (¬1))])],ie}
abbrev bp:Def:={["floor","one","other"],3,#v[.ret (.and (.call (zu 15) #v[!0,.tup #v[.sub (!1) (¬0),.sub (!2) (¬1)]]) (.call (zu 15) #v[!0,.tup #v[.sub (!2) (¬0),.sub (!1) (¬1)]]))],ie}
abbrev aS:Def:={["floor","walker","one","other","is_slanting","rise","flat_cost"],4,#v[.ite (.not (.call (zu 39) #v[!2,!3])) #v[.ret (.cst .aG)] .nil,.set 4 (.and (.cmp .ne (.sub (!2) (¬0)) (.sub (!3) (¬0))) (.cmp .ne (.sub (!2) (¬1)) (.sub (!3) (¬1)))),.ite (.and (!4) (.not (.and (.sub (!1) (¬0)) (.call (zu 10) #v[!0,!2,!3])))) #v[.ret (.cst .aG)] .nil,.set 5 (.bin .sub (.call (zu 42) #v[!0,!3]) (.call (zu 42) #v[!0,!2])),.ite (.cmp .gt (.blt .abs #v[!5]) (.sub (!1) (¬1))) #v[.ret (.cst .aG)] .nil,.set 6 (.ite (!4) (.glob "SLANTING_COST" (.int 3)) (.glob "STRAIGHT_COST" (.int 2))),.ret (.bin .add (!6) (.bin .mul (.sub (!1) (¬2)) (.blt .max2 #v[!5,¬0])))],ie}
abbrev bg:Def:={["floor","spot","beside","row","column"],2,#v[.own 2 (.lst .nil),.cV (.one 3) (.rL (.bin .sub (.sub (!1) (¬0)) (¬1)) (.bin .add (.sub (!1) (¬0)) (¬2))) #v[.cV (.one 4) (.rL (.bin .sub (.sub (!1) (¬1)) (¬1)) (.bin .add (.sub (!1) (¬1)) (¬2))) #v[.ite (.and (.cmp .ne (.tup #v[!3,!4]) (!1)) (.call (zu 15) #v[!0,.tup #v[!3,!4]])) #v[.app 2 (.tup #v[!3,!4])] .nil]],.bq 2,.ret (!2)],ie}
abbrev cx:Def:={["floor","walker","spot","steps","other","cost"],3,#v[.expr (.call (zu 4) #v[!0,!2]),.own 3 (.lst .nil),.cV (.one 4) (.seq (.call (zu 9) #v[!0,!2])) #v[.set 5 (.call (zu 12) #v[!0,!1,!2,!4]),.ite (.cmp .Hj (!5) (.cst .aG)) #v[.app 3 (.tup #v[!4,!5])] .nil],.bq 3,.ret (!3)],ie}
abbrev cL:Def:={["floor","walker","spot"],3,#v[.ret (.comp 1 [1,2,0] (.one 0) (.seq (.call (zu 31) #v[!0,!1,!2])) (.tup #v[.sub (!0) (¬0),.call (zu 12) #v[!3,!1,.sub (!0) (¬0),!2]]))],ie}
abbrev bt:Def:={["starts","steps","reached","waiting","start","spot","other","cost","together"],2,#v[.kC 2,.kC 3,.cV (.one 4) (.seq (!0)) #v[.put 3 (!4) (.tup #v[¬0,.cst .aG])],.E4 (.cmp .gt (.blt .len #v[.f7 3]) (¬0)) #v[.nu 5 3,.fc 2 3 5,.cV (.two 6 7) (.seq (.jo 1 #v[!5])) #v[.set 8 (.bin .add (.sub (.sub (.f7 2) (!5)) (¬0)) (!7)),.ite (.and (.cmp .rn (!6) (.f7 2)) (.or (.cmp .rn (!6) (.f7 3)) (.cmp .lt (!8) (.sub (.sub (.f7 3) (!6)) (¬0))))) #v[.put 3 (!6) (.tup #v[!8,!5])] .nil]],.bq 2,.ret (!2)],ia (zu 26,[1,2,1,0])}
abbrev cq:Def:={["floor","walker","goals","goal"],3,#v[.cV (.one 3) (.seq (!2)) #v[.expr (.call (zu 4) #v[!0,!3])],.ret (.pC (zu 48) #v[!2] (zu 26) [1,2,1,0] [1,0])],ie}
abbrev d7:Def:={["reached","place","trace"],2,#v[.own 2 (.lst #v[!1]),.E4 (.cmp .Hj (.sub (.sub (!0) (.sub (.f7 2) (.neg (¬1)))) (¬1)) (.cst .aG)) #v[.app 2 (.sub (.sub (!0) (.sub (.f7 2) (.neg (¬1)))) (¬1))],.bq 2,.ret (!2)],ie}
abbrev cK:Def:={["floor","walker","start","goal","reached"],4,#v[.expr (.call (zu 4) #v[!0,!2]),.set 4 (.call (zu 18) #v[!0,!1,.lst #v[!3]]),.ite (.cmp .rn (!2) (!4)) #v[.ret (.cst .aG)] .nil,.ret (.tup #v[.sub (.sub (!4) (!2)) (¬0),.call "traced" #v[!4,!2]])],ie}
abbrev aH:Def:={["floor","thing"],2,#v[.ite (.or (.not (.ty .list (!1))) (.cmp .eq (.blt .len #v[!1]) (¬0))) #v[.ret (.cst (.bl iv))] .nil,.ret (.blt .all #v[.comp 1 [0] (.one 0) (.seq (!1)) (.call (zu 15) #v[!1,!0])])],ie}
abbrev cC:Def:={["floor","walker","spots"],3,#v[.ret (.comp 2 [1,0] (.two 0 1) (.zip #v[!2,.slice (!2) (.some (¬1)) .no]) (.call (zu 12) #v[!3,!2,!0,!1]))],ie}
abbrev fN:Def:={["floor","walker","thing"],3,#v[.ret (.and (.call (zu 2) #v[!0,!2]) (.cmp .rn (.cst .aG) (.call (zu 30) #v[!0,!1,!2])))],ie}
abbrev dJ:Def:={["floor","walker","thing"],3,#v[.ite (.not (.call "is_way" #v[!0,!1,!2])) #v[.raise "NoWay" "this is no way of the walker over the floor"] .nil],ie}
abbrev aj:Def:={["one","other","along","across"],2,#v[.set 2 (.ite (.cmp .lt (.sub (!1) (¬0)) (.sub (!0) (¬0))) (.cst (.str "n")) (.cst (.str "s"))),.set 3 (.ite (.cmp .lt (.sub (!1) (¬1)) (.sub (!0) (¬1))) (.cst (.str "w")) (.cst (.str "e"))),.ret (.bin .add (.ite (.cmp .ne (.sub (!1) (¬0)) (.sub (!0) (¬0))) (!2) (.cst (.str ""))) (.ite (.cmp .ne (.sub (!1) (¬1)) (.sub (!0) (¬1))) (!3) (.cst (.str ""))))],ie}
abbrev eO:Def:={["floor","walker","way","runs","one","other","direction"],3,#v[.expr (.call "need_way" #v[!0,!1,!2]),.own 3 (.lst .nil),.cV (.two 4 5) (.zip #v[!2,.slice (!2) (.some (¬1)) .no]) #v[.set 6 (.call (zu 7) #v[!4,!5]),.ite (.and (.cmp .gt (.blt .len #v[.f7 3]) (¬0)) (.cmp .eq (.sub (.sub (.f7 3) (.neg (¬1))) (¬0)) (!6))) #v[.put 3 (.neg (¬1)) (.tup #v[!6,.bin .add (.sub (.sub (.f7 3) (.neg (¬1))) (¬1)) (¬1)])] #v[.app 3 (.tup #v[!6,¬1])]],.bq 3,.ret (!3)],ie}
abbrev bY:Def:={["start","runs","words"],2,#v[.own 2 (.lst #v[.bin .add (.bin .add (.blt .str #v[.sub (!0) (¬0)]) (.cst (.str ","))) (.blt .str #v[.sub (!0) (¬1)])]),.lC 2 (.comp 1 [] (.one 0) (.seq (!1)) (.bin .add (.sub (!0) (¬0)) (.blt .str #v[.sub (!0) (¬1)]))),.ret (.yv .join (.cst (.str " ")) #v[.f7 2])],ie}
abbrev bX:Def:={["floor","walker","reached","spot","before","other","cost"],4,#v[.own 4 (.lst .nil),.cV (.two 5 6) (.seq (.call (zu 26) #v[!0,!1,!3])) #v[.ite (.cmp .eq (.sub (.sub (!2) (!5)) (¬0)) (.bin .add (!6) (.sub (.sub (!2) (!3)) (¬0)))) #v[.app 4 (!5)] .nil],.bq 4,.ret (!4)],ie}
abbrev bw:Def:={["floor","walker","reached","heading","before","other","direction","turns"],4,#v[.own 4 (.lst .nil),.cV (.one 5) (.seq (.call (zu 22) #v[!0,!1,!2,.sub (!3) (¬0)])) #v[.set 6 (.call (zu 7) #v[!5,.sub (!3) (¬0)]),.set 7 (.ite (.or (.cmp .is (.sub (!3) (¬1)) (.cst .aG)) (.cmp .eq (.sub (!3) (¬1)) (!6))) (¬0) (¬1)),.app 4 (.tup #v[.tup #v[!5,!6],!7])],.bq 4,.ret (!4)],ie}
abbrev aE:Def:={["starts","steps","reached","waiting","start","spot","other","cost","together"],2,#v[.kC 2,.kC 3,.cV (.one 4) (.seq (!0)) #v[.put 3 (!4) (.tup #v[¬0,.cst .aG])],.E4 (.cmp .gt (.blt .len #v[.f7 3]) (¬0)) #v[.nu 5 3,.fc 2 3 5,.cV (.two 6 7) (.seq (.jo 1 #v[!5])) #v[.set 8 (.bin .add (.sub (.sub (.f7 2) (!5)) (¬0)) (!7)),.ite (.and (.cmp .rn (!6) (.f7 2)) (.or (.cmp .rn (!6) (.f7 3)) (.cmp .lt (!8) (.sub (.sub (.f7 3) (!6)) (¬0))))) #v[.put 3 (!6) (.tup #v[!8,!5])] .nil]],.bq 2,.ret (!2)],ia (zu 6,[1,3,1,2,0])}
abbrev bT:Def:={["floor","walker","start","goal","reached","headings","leaving","way"],4,#v[.expr (.call (zu 4) #v[!0,!2]),.set 4 (.call (zu 18) #v[!0,!1,.lst #v[!3]]),.ite (.cmp .rn (!2) (!4)) #v[.ret (.cst .aG)] .nil,.set 5 (.pC (zu 20) #v[.lst #v[.tup #v[!3,.cst .aG]]] (zu 6) [1,3,1,2,0] [1,4,0]),.fW 6 (.ei 1 [2] (.one 0) (.seq (!5)) (.cmp .eq (.sub (!0) (¬0)) (!1)) (!0)) 5,.set 7 (.comp 1 [] (.one 0) (.seq (.call "traced" #v[!5,!6])) (.sub (!0) (¬0))),.ret (.tup #v[.sub (.sub (!4) (!2)) (¬0),.sub (.sub (!5) (!6)) (¬0),!7])],ie}
abbrev cJ:Def:={["word"],1,#v[.ite (.or (.not (.ch .le .le (¬1) (.blt .len #v[!0]) (.glob "MOST_DIGITS" (.int 3)))) (.not (.blt .all #v[.comp 1 [] (.one 0) (.seq (!0)) (.cmp .LD (!0) (.glob "DIGITS" (.str (zu 17))))]))) #v[.ret (.cst (.bl iv))] .nil,.ret (.or (.cmp .eq (!0) (.cst (.str "0"))) (.cmp .ne (.sub (!0) (¬0)) (.cst (.str "0"))))],ie}
abbrev bb:Def:={["word"],1,#v[.ret (.and (.call (zu 27) #v[!0]) (.cmp .ne (!0) (.cst (.str "0"))))],ie}
abbrev cQ:Def:={["word"],1,#v[.ite (.and (.not (.call (zu 27) #v[!0])) (.not (.and (.yv .jf (!0) #v[.cst (.str "-")]) (.call (zu 5) #v[.slice (!0) (.some (¬1)) .no])))) #v[.raise "NoText" "this is not the writing of a row or column"] .nil,.ret (.blt .int #v[!0])],ie}
abbrev dh:Def:={["word","parts"],1,#v[.set 1 (.yv .fG (!0) #v[.cst (.str ",")]),.ite (.cmp .ne (.blt .len #v[!1]) (¬2)) #v[.raise "NoText" "this is not the writing of a spot"] .nil,.ret (.tup #v[.call (zu 32) #v[.sub (!1) (¬0)],.call (zu 32) #v[.sub (!1) (¬1)]])],ie}
abbrev dM:Def:={["word","direction","steps"],1,#v[.set 1 (.yv .eJ (!0) #v[.glob "DIGITS" (.str (zu 17))]),.set 2 (.slice (!0) (.some (.blt .len #v[!1])) .no),.ite (.or (.cmp .rn (!1) (.glob "DIRECTIONS" (.tup [(.str "n"),(.str "s"),(.str "w"),(.str "e"),(.str "ne"),(.str "nw"),(.str "se"),(.str "sw")]))) (.not (.call (zu 5) #v[!2]))) #v[.raise "NoText" "this is not the writing of a run"] .nil,.ret (.tup #v[!1,.blt .int #v[!2]])],ie}
abbrev dg:Def:={["text","words","start","runs"],1,#v[.set 1 (.yv .fG (!0) #v[.cst (.str " ")]),.set 2 (.call (zu 45) #v[.sub (!1) (¬0)]),.set 3 (.comp 1 [] (.one 0) (.seq (.slice (!1) (.some (¬1)) .no)) (.call (zu 49) #v[!0])),.ite (.blt .any #v[.comp 2 [] (.two 0 1) (.zip #v[!3,.slice (!3) (.some (¬1)) .no]) (.cmp .eq (.sub (!0) (¬0)) (.sub (!1) (¬0)))]) #v[.raise "NoText" "two runs of one direction stand beside each other"] .nil,.ret (.tup #v[!2,!3])],ie}
abbrev cE:Def:={["spot","direction","row","column"],2,#v[.set 2 (.bin .sub (.bin .add (.sub (!0) (¬0)) (.yv .en (!1) #v[.cst (.str "s")])) (.yv .en (!1) #v[.cst (.str "n")])),.set 3 (.bin .sub (.bin .add (.sub (!0) (¬1)) (.yv .en (!1) #v[.cst (.str "e")])) (.yv .en (!1) #v[.cst (.str "w")])),.ret (.tup #v[!2,!3])],ie}
abbrev bQ:Def:={["floor","walker","spot","direction","other"],4,#v[.set 4 (.call (zu 28) #v[!2,!3]),.ite (.or (.not (.call (zu 15) #v[!0,!4])) (.cmp .is (.call (zu 12) #v[!0,!1,!2,!4]) (.cst .aG))) #v[.raise "NoWay" "no step leads on in this direction"] .nil,.ret (!4)],ie}
abbrev eV:Def:={["floor","walker","start","runs","way","direction","how_many","step"],4,#v[.expr (.call (zu 4) #v[!0,!2]),.own 4 (.lst #v[!2]),.cV (.two 5 6) (.seq (!3)) #v[.ite (.cmp .rn (!5) (.glob "DIRECTIONS" (.tup [(.str "n"),(.str "s"),(.str "w"),(.str "e"),(.str "ne"),(.str "nw"),(.str "se"),(.str "sw")]))) #v[.raise "NoWay" "this is no direction"] .nil,.cV (.one 7) (.va (!6)) #v[.app 4 (.call (zu 33) #v[!0,!1,.sub (.f7 4) (.neg (¬1)),!5])]],.bq 4,.ret (!4)],ie}
abbrev cm:Def:={[zu 47,"_law_floor_here","_law_walker_here","_law_spots_here","_law_start","_law_goal","_law_one","_law_way","_law_runs","_law_text","_law_steps","_law_name","_law_many"],1,#v[.set 1 (.call (zu 35) #v[!0,¬0,¬5]),.set 2 (.call (zu 21) #v[!0,¬40]),.set 3 (.call (zu 34) #v[!1]),.ite (.cmp .eq (!3) (.lst .nil)) #v[.ret (.cst (.bl ig))] .nil,.set 4 (.sub (!3) (.call (zu 3) #v[!0,¬50,.blt .len #v[!3]])),.set 5 (.sub (!3) (.call (zu 3) #v[!0,¬51,.blt .len #v[!3]])),.set 6 (.call (zu 36) #v[!1,!2,!4,!5]),.ite (.cmp .is (!6) (.cst .aG)) #v[.ret (.cmp .is (.call (zu 8) #v[!1,!2,!4,!5]) (.cst .aG))] .nil,.cV (.one 7) (.seq (.tup #v[.sub (!6) (¬1),.sub (.call (zu 8) #v[!1,!2,!4,!5]) (¬2)])) #v[.set 8 (.call "runs_of" #v[!1,!2,!7]),.set 9 (.call (zu 13) #v[.sub (!7) (¬0),!8]),.ite (.or (.cmp .ne (.call (zu 25) #v[!9]) (.tup #v[.sub (!7) (¬0),!8])) (.cmp .ne (.call "way_by" #v[!1,!2,!4,.sub (.call (zu 25) #v[!9]) (¬1)]) (!7))) #v[.ret (.cst (.bl iv))] .nil,.own 10 (.lst .nil),.cV (.two 11 12) (.seq (!8)) #v[.lC 10 (.bin .mul (.lst #v[.tup #v[!11,¬1]]) (!12))],.bq 10,.ite (.cmp .gt (.blt .len #v[!9]) (.blt .len #v[.call (zu 13) #v[.sub (!7) (¬0),!10]])) #v[.ret (.cst (.bl iv))] .nil],.ret (.cst (.bl ig))],ie}
abbrev pK:Def:={[zu 47,"_law_turn"],1,#v[.cV (.one 1) (.va (¬8)) #v[.ite (.not (.call (zu 37) #v[.comp 1 [1] (.one 0) (.seq (!0)) (.bin .add (!0) (.bin .mul (¬7919) (!1)))])) #v[.ret (.cst (.bl iv))] .nil,.ite (.cmp .eq (!0) (.lst .nil)) #v[.brk] .nil],.ret (.cst (.bl ig))],ie}
def T0:List (Str×Def):=[]
abbrev T1:List (Str×Def):=((zu 50:Str),eU)::T0
abbrev T2:List (Str×Def):=((zu 46:Str),dc)::T1
abbrev T3:List (Str×Def):=((zu 3:Str),bP)::T2
abbrev T4:List (Str×Def):=((zu 35:Str),cu)::T3
abbrev T5:List (Str×Def):=((zu 21:Str),cB)::T4
abbrev T6:List (Str×Def):=((zu 34:Str),cN)::T5
abbrev T7:List (Str×Def):=(("is_spot":Str),eN)::T6
abbrev T8:List (Str×Def):=((zu 29:Str),cD)::T7
abbrev T9:List (Str×Def):=((zu 15:Str),bW)::T8
abbrev Vt:List (Str×Def):=((zu 4:Str),bh)::T9
abbrev RS:List (Str×Def):=((zu 39:Str),cO)::Vt
abbrev RT:List (Str×Def):=((zu 42:Str),df)::RS
abbrev Fc:List (Str×Def):=((zu 10:Str),bp)::RT
abbrev RU:List (Str×Def):=((zu 12:Str),aS)::Fc
abbrev JX:List (Str×Def):=((zu 9:Str),bg)::RU
abbrev Nz:List (Str×Def):=((zu 31:Str),cx)::JX
abbrev RV:List (Str×Def):=((zu 26:Str),cL)::Nz
abbrev JY:List (Str×Def):=((zu 48:Str),bt)::RV
abbrev QG:List (Str×Def):=((zu 18:Str),cq)::JY
abbrev N4:List (Str×Def):=(("traced":Str),d7)::QG
abbrev RW:List (Str×Def):=((zu 36:Str),cK)::N4
abbrev RX:List (Str×Def):=((zu 2:Str),aH)::RW
abbrev QH:List (Str×Def):=((zu 30:Str),cC)::RX
abbrev RY:List (Str×Def):=(("is_way":Str),fN)::QH
abbrev RZ:List (Str×Def):=(("need_way":Str),dJ)::RY
abbrev QI:List (Str×Def):=((zu 7:Str),aj)::RZ
abbrev Vu:List (Str×Def):=(("runs_of":Str),eO)::QI
abbrev Sa:List (Str×Def):=((zu 13:Str),bY)::Vu
abbrev QJ:List (Str×Def):=((zu 22:Str),bX)::Sa
abbrev QK:List (Str×Def):=((zu 6:Str),bw)::QJ
abbrev JZ:List (Str×Def):=((zu 20:Str),aE)::QK
abbrev QL:List (Str×Def):=((zu 8:Str),bT)::JZ
abbrev Sb:List (Str×Def):=((zu 27:Str),cJ)::QL
abbrev Sd:List (Str×Def):=((zu 5:Str),bb)::Sb
abbrev Se:List (Str×Def):=((zu 32:Str),cQ)::Sd
abbrev Sf:List (Str×Def):=((zu 45:Str),dh)::Se
abbrev QM:List (Str×Def):=((zu 49:Str),dM)::Sf
abbrev Vv:List (Str×Def):=((zu 25:Str),dg)::QM
abbrev N5:List (Str×Def):=((zu 28:Str),cE)::Vv
abbrev N6:List (Str×Def):=((zu 33:Str),bQ)::N5
abbrev sx:List (Str×Def):=(("way_by":Str),eV)::N6
abbrev Vx:List (Str×Def):=((zu 37:Str),cm)::sx
def Ox:den T2 (zu 46)=aq (den T1) dc:=dk 0
def Oy:den T3 (zu 3)=aq (den T2) bP:=dk 0
def Oz:den T4 (zu 3)=aq (den T2) bP:=dk 1
def OA:den T6 (zu 50)=aq (den T0) eU:=dk 5
def OB:den T8 "is_spot"=aq (den T6) eN:=dk 1
def OC:den T8 (zu 29)=aq (den T7) cD:=dk 0
def OD:den T9 (zu 15)=aq (den T8) bW:=dk 0
def Fv:den RS (zu 4)=aq (den T9) bh:=dk 1
def Ku:den RT (zu 15)=aq (den T8) bW:=dk 3
def Fw:den Fc (zu 39)=aq (den Vt) cO:=dk 2
def Fy:den Fc (zu 10)=aq (den RT) bp:=dk 0
def Fx:den Fc (zu 42)=aq (den RS) df:=dk 1
def Kv:den RU (zu 15)=aq (den T8) bW:=dk 5
def Fz:den JX (zu 4)=aq (den T9) bh:=dk 5
def FC:den JX (zu 9)=aq (den RU) bg:=dk 0
def FA:den JX (zu 12)=aq (den Fc) aS:=dk 1
def FE:den Nz (zu 31)=aq (den JX) cx:=dk 0
def FD:den Nz (zu 12)=aq (den Fc) aS:=dk 2
def FF:den RV (zu 26)=aq (den Nz) cL:=dk 0
def FG:den JY (zu 4)=aq (den T9) bh:=dk 8
def FH:den JY (zu 48)=aq (den RV) bt:=dk 0
def FI:den N4 (zu 4)=aq (den T9) bh:=dk 10
def FJ:den N4 (zu 18)=aq (den JY) cq:=dk 1
def FK:den N4 "traced"=aq (den QG) d7:=dk 0
def Kw:den RW (zu 15)=aq (den T8) bW:=dk 12
def FL:den RX (zu 12)=aq (den Fc) aS:=dk 8
def FN:den QH (zu 2)=aq (den RW) aH:=dk 1
def FP:den QH (zu 30)=aq (den RX) cC:=dk 0
def FQ:den RY "is_way"=aq (den QH) fN:=dk 0
def FR:den QI "need_way"=aq (den RY) dJ:=dk 1
def FT:den QI (zu 7)=aq (den RZ) aj:=dk 0
def FU:den Sa (zu 26)=aq (den Nz) cL:=dk 11
def FW:den QJ (zu 22)=aq (den Sa) bX:=dk 0
def FV:den QJ (zu 7)=aq (den RZ) aj:=dk 3
def FX:den QK (zu 6)=aq (den QJ) bw:=dk 0
def FY:den JZ (zu 4)=aq (den T9) bh:=dk 21
def FZ:den JZ (zu 18)=aq (den JY) cq:=dk 12
def F1:den JZ (zu 20)=aq (den QK) aE:=dk 0
def F0:den JZ "traced"=aq (den QG) d7:=dk 11
def F2:den Sb (zu 27)=aq (den QL) cJ:=dk 0
def F3:den Sd (zu 27)=aq (den QL) cJ:=dk 1
def F4:den Se (zu 32)=aq (den Sd) cQ:=dk 0
def F5:den Sf (zu 5)=aq (den Sb) bb:=dk 2
def F6:den QM (zu 45)=aq (den Se) dh:=dk 1
def F7:den QM (zu 49)=aq (den Sf) dM:=dk 0
def F9:den N5 (zu 28)=aq (den Vv) cE:=dk 0
def Kx:den N5 (zu 15)=aq (den T8) bW:=dk 30
def F8:den N5 (zu 12)=aq (den Fc) aS:=dk 25
def Ga:den N6 (zu 4)=aq (den T9) bh:=dk 30
def Gb:den N6 (zu 33)=aq (den N5) bQ:=dk 0
def Kz:den sx (zu 35)=aq (den T3) cu:=dk 37
def KA:den sx (zu 21)=aq (den T4) cB:=dk 36
def KC:den sx (zu 34)=aq (den T5) cN:=dk 35
def Ky:den sx (zu 3)=aq (den T2) bP:=dk 38
def Ge:den sx (zu 36)=aq (den N4) cK:=dk 20
def Gh:den sx (zu 8)=aq (den JZ) bT:=dk 9
def Gf:den sx "runs_of"=aq (den QI) eO:=dk 14
def Gg:den sx (zu 13)=aq (den Vu) bY:=dk 13
def Gi:den sx (zu 25)=aq (den QM) dg:=dk 3
def Gj:den sx "way_by"=aq (den N6) eV:=dk 0
def Gk:den Vx (zu 37)=aq (den sx) cm:=dk 0
noncomputable abbrev sp(r c:Int):PV:=.tup [.int r,.int c]
noncomputable abbrev fJ(ns:List Int):PV:=.lst (ns.map .int)
theorem aI{i:Int}:d5 .abs [.int i]=.ok (.int (if i<0 then -i else i)):=rfl
theorem mX{i j:Int}:d5 .max2 [.int i,.int j]=.ok (.int (if j>i then j else i)):=rfl
theorem VD:d6 .gt=wH:=rfl
theorem Ww{i j:Int}:wH (.int i) (.int j)=.ok (.bl (decide (j<i))):=rfl
theorem Oj:d6 .Hj=ij:=rfl
noncomputable abbrev wk(sl:Bool)(cl pr:Int):PV:=.tup [.bl sl,.int cl,.int pr]
theorem P8{r c:Int}:aB (sp r c) (.int 0)=.ok (.int r):=rfl
theorem P9{r c:Int}:aB (sp r c) (.int 1)=.ok (.int c):=rfl
theorem WS{sl:Bool}{cl pr:Int}:aB (wk sl cl pr) (.int 0)=.ok (.bl sl):=rfl
theorem WT{sl:Bool}{cl pr:Int}:aB (wk sl cl pr) (.int 1)=.ok (.int cl):=rfl
theorem WU{sl:Bool}{cl pr:Int}:aB (wk sl cl pr) (.int 2)=.ok (.int pr):=rfl
theorem nI{i j:Int}:iM (.int i) (.int j)=.ok (.bl (!(i==j))):=rfl
theorem eI{i j:Int}:iL (.int i) (.int j)=.ok (.bl (i==j)):=rfl
theorem nS{r c a b:Int}:iM (sp r c) (sp a b)=.ok (.bl (!((r==a)&&((c==b)&&ig)))):=rfl
theorem eS{r c a b:Int}:iL (sp r c) (sp a b)=.ok (.bl ((r==a)&&((c==b)&&ig))):=rfl
theorem VF:d6 .is=nD:=rfl
theorem oJ{a b:Type}{c:Str}{f:a->Res b}:(Res.exc c:Res a).bind f=.exc c:=rfl
abbrev J2:=lM @P8 (lM @P9 (lM @WS (lM @WT (lM @WU (lM @aI (lM @mX (lM @VD (lM @Ww (lM @nI (lM @eI (lM @nS (lM @eS (lM @Oj (lM @VF (lM @oJ (lM @Rb (lM @Rf (@Rc))))))))))))))))))
set_option hygiene false
local macro_rules|`(tactic|simp! only [$x,*] $[$l:location]?)=>do let q<-("aq c8 c7 aX jh aC bZ xO sA f9 kZ i7 l0 Nat.reduceAdd Nat.reduceSub reduceIte ite_true ite_false BEq.rfl beq_self_eq_true vB RF Uk WG WH WE sv WJ WI NB Jk Jl Od Oc Ob Oa VC VI VH VG VE Ol oLt oLe lL lT lS tL aL Qn Rz Bj jA jB jC jD jE jF jG jH jI jJ jK jL jM jN jO jP KJ.oG WD Rf Rb Rc jQ jR P8 P9 WS WT WU aI mX VD Ww nI eI nS eS Oj VF oJ".splitOn " ").toArray.mapM fun n=>`(Lean.Parser.Tactic.simpLemma|$(Lean.mkIdent n.toName):ident);`(tactic|simp only [$[$q:simpLemma],*,$x,*] $[$l]?)
local macro_rules|`(tactic|dsimp! only [$x,*] $[$l:location]?)=>do let q<-("aq c8 c7 aX jh aC bZ xO sA f9 kZ i7 l0 Nat.reduceAdd Nat.reduceSub reduceIte ite_true ite_false BEq.rfl beq_self_eq_true J J2".splitOn " ").toArray.mapM fun n=>`(Lean.Parser.Tactic.simpLemma|$(Lean.mkIdent n.toName):ident);`(tactic|simp only [$[$q:simpLemma],*,$x,*] $[$l]?)
set_option hygiene true
theorem rb(F:aJ)(i:Int):aq F eU [.int i]=.ok (.bl ig):=by rfl
def iZ{a:Type}{xs:List a}{k:Nat}(h:k<xs.length):oF xs (k:Int)=ia xs[k]:=by
 unfold oF ye;have:((k:Nat):Int)<(xs.length:Int):=by omega
 simp [this,h]
def xx{k:Int}(a:0<=k)(h:k<ns.length):∃m,oF (ns.map PV.int) k=ia (.int m):=by let(j,rfl):=hF a;refine{ns[j]'(by omega),?_};rw [iZ (k:=j) (by simp;omega)];simp
def D0(ns:List Int)(n:Nat):Ci.plain (n+1) (.lst (ns.map .int))=ig:=by
 simp! [Ci.plain,ef,hG]
 rintro x ⟨i,_,rfl⟩
 cases n<;>rfl
def eq_nil(ns:List Int):iL (fJ ns) (.lst [])=.ok (.bl (decide (ns=[]))):=by have e:uX (fJ ns)=ig:=D0 ns 8;unfold iL;rw [e];cases ns<;>rfl
def Fm(F:aJ)(ns:List Int)(k:Int)(hk:0<=k):∃m,aq F dc [fJ ns,.int k]=.ok (.int m):=by
 simp! only [dc,zzl,eq_nil];by_cases h:k<(ns.length:Int)
 .let(m,e):=xx hk h;refine{m,?_};simp! only [h,decide_true,aB,e]
 .simp! only [h,decide_false,eq_nil];cases ns with
  |nil=>exact{0,rfl}|cons n ns=>
   have hl:(0:Int)<((n::ns).length:Int):=by simp! [c6];omega
   let(m,e):=xx (ns:=n::ns) (k:=k%((n::ns).length:Int)) (Int.emod_nonneg _ (by omega)) (Int.emod_lt_of_pos _ hl);refine{m*31+k,?_};have b:(aN m||aN 31)=ig:=by rw [gU];exact .inr (by decide)
   have a:aB (fJ (n::ns)) (.int (k%((n::ns).length:Int)))=.ok (.int m):=by simp! [aB,e];rfl
   have c:decide ((n::ns)=[])=iv:=rfl;simp! [c6] at hl a;simp! only [c,zzl,hl,a,b]
def Io(F:aJ)(f:∀ns k,0<=k->∃m,F (zu 46) [fJ ns,.int k]=.ok (.int m))(ns:List Int)(k q:Int)(hk:0<=k)(a:0<q):∃m,aq F bP [fJ ns,.int k,.int q]=.ok (.int m)/\0<=m/\m<q:=by
 let(m,e):=f ns k hk;have g:(aN 6151||aN (k+1))=ig:=by rw [gU];exact .inl (by decide)
 have h:(aN (m+6151*(k+1))||aN 40692)=ig:=by rw [gU];exact .inr (by decide)
 have c:(0:Int)<2147483399:=by decide
 have i:(0:Int)<2147483629:=by decide
 have j:(0:Int)<31/\(31:Int)<1073741824:=by decide
 have o:=Int.emod_nonneg ((m+6151*(k+1))*40692) (b:=2147483399) (by decide);have p:=Int.emod_lt_of_pos ((m+6151*(k+1))*40692) c;refine{((((m+6151*(k+1))*40692%2147483399)*((m+6151*(k+1))*40692%2147483399)+((m+6151*(k+1))*40692%2147483399)/31)%2147483629)%q,?_,Int.emod_nonneg _ (by omega),Int.emod_lt_of_pos _ a};generalize hd:(m+6151*(k+1))*40692%2147483399=d at o p
 have r:(aN d||aN d)=ig:=by
  have:aN d=ig:=by simp! [aN,zza,zzN];omega
  rw [this];rfl
 simp! only [bP,fJ] at e⊢;simp! only [e,g,h,c,i,j,hd,r,a,and_self]
def vA(rows:List Str):Prop:=rows.length<=6/\∀z∈rows,z.length<=6
noncomputable abbrev fl(rows:List Str):PV:=.tup (rows.map .str)
abbrev cd(rows:List Str)(r c:Nat):Option Nat:=(rows[r]?).bind λz=>z.cps.toList[c]?
abbrev E0(rows:List Str)(r c:Nat):Bool:=match cd rows r c with|some x=>x !=35|none=>iv
abbrev cg(rows:List Str)(r c:Int):Bool:=decide (0<=r)&&decide (0<=c)&&E0 rows r.toNat c.toNat
def v8(F:aJ)(h:∀i,F (zu 50) [.int i]=.ok (.bl ig))(r c:Int):aq F eN [sp r c]=.ok (.bl ig):=by have a:aB (sp r c) (.int 0)=.ok (.int r):=rfl;have b:aB (sp r c) (.int 1)=.ok (.int c):=rfl;have d:iL (.int ((2:Nat):Int)) (.int 2)=.ok (.bl ig):=rfl;simp! only [eN,vN,h,a,b,d]
def Pz(F:aJ)(rows:List Str)(R:vA rows)(r c:Int):aq F cD [fl rows,sp r c]=.ok (.bl (decide (0<=r)&&decide (0<=c)&&(cd rows r.toNat c.toNat).isSome)):=by
 have e:aB (sp r c) (.int 0)=.ok (.int r):=rfl;have f:aB (sp r c) (.int 1)=.ok (.int c):=rfl;simp! only [cD,vN,e,f,uS,uT,zzl];by_cases h0:0<=r
 .by_cases d:r<(rows.length:Int)
  .let(j,rfl):=hF h0;have a:j<rows.length:=by omega
   have g:aB (fl rows) (.int (j:Int))=.ok (.str rows[j]):=by simp! [aB,fl];rw [iZ (k:=j) (zx6 a)];simp [Res.of]
   have h:(rows[j]).length<=cY:=eg (R.2 _ (List.getElem_mem a)) (by decide);have m:(rows[j]).cps.size=(rows[j]).length:=rfl;simp! only [h0,d,decide_true,g,h];by_cases b:0<=c
   .let(i,rfl):=hF b;simp! only [b,decide_true,cd,hU,zzg a,Option.bind_some,Bool.and_self,Bool.true_and,Res.ok.injEq,PV.bl.injEq];rw [Bool.eq_iff_iff];simp [m]
   .simp [aq,c8,c7,aX,jh,aC,bZ,xO,sA,f9,kZ,i7,l0,Nat.reduceAdd,Nat.reduceSub,reduceIte,ite_true,ite_false,BEq.rfl,beq_self_eq_true,J,b]
  .have:cd rows r.toNat c.toNat=ie:=by
    unfold cd;rw [List.getElem?_eq_none (by omega)];rfl
   simp [aq,c8,c7,aX,jh,aC,bZ,xO,sA,f9,kZ,i7,l0,Nat.reduceAdd,Nat.reduceSub,reduceIte,ite_true,ite_false,BEq.rfl,beq_self_eq_true,J,h0,d,this]
 .simp [aq,c8,c7,aX,jh,aC,bZ,xO,sA,f9,kZ,i7,l0,Nat.reduceAdd,Nat.reduceSub,reduceIte,ite_true,ite_false,BEq.rfl,beq_self_eq_true,J,h0]
def MP{j:Nat}(h:rows[j]?=ia z):aB (fl rows) (.int (j:Int))=.ok (.str z):=by let(a,rfl):=cP.1 h;simp! [aB,fl];rw [iZ (k:=j) (zx6 a)];simp [Res.of]
def yP{i x:Nat}(hz:z.length<=cY)(h:z.cps.toList[i]?=ia x):aB (.str z) (.int (i:Int))=.ok (.str {#[x]}):=by let(a,rfl):=cP.1 h;simp! [aB,hz,if_true];rw [iZ (k:=i) a];rfl
def Jm(R:vA rows){j i x:Nat}(h:cd rows j i=ia x):∃z,rows[j]?=ia z/\aB (fl rows) (.int (j:Int))=.ok (.str z)/\aB (.str z) (.int (i:Int))=.ok (.str {#[x]}):=by
 unfold cd at h;cases a:rows[j]? with
 |none=>rw [a] at h;cases h
 |some z=>rw [a] at h;exact{z,rfl,MP a,yP (eg (R.2 _ (a9 a)) (by decide)) h}
def Eg(x:Nat):iM (.str {#[x]}) (.str "#")=.ok (.bl (x !=35)):=by
 have:(("#":Str))={#[35]}:=by decide+kernel
 rw [this];show Res.ok (PV.bl (!(({#[x]}:Str)=={#[35]})))=_
 congr 2
 rw [bne,Bool.eq_iff_iff];simp
def Ia(F:aJ)(hs:∀r c,F "is_spot" [sp r c]=.ok (.bl ig))(b:∀rows,vA rows->∀r c,F (zu 29) [fl rows,sp r c]=.ok (.bl (decide (0<=r)&&decide (0<=c)&&(cd rows r.toNat c.toNat).isSome)))
 (rows:List Str) (R:vA rows) (r c:Int):aq F bW [fl rows,sp r c]=.ok (.bl (cg rows r c)):=by
 have d:aB (sp r c) (.int 0)=.ok (.int r):=rfl;have e:aB (sp r c) (.int 1)=.ok (.int c):=rfl;simp! only [bW,hs,b rows R,d,e];unfold cg E0;by_cases h0:0<=r
 .by_cases a:0<=c
  .let(j,rfl):=hF h0;let(i,rfl):=hF a
   simp! [h0,a,decide_true,Bool.true_and,Bool.and_self,hU];cases f:cd rows j i with
   |none=>simp [aq,c8,c7,aX,jh,aC,bZ,xO,sA,f9,kZ,i7,l0,Nat.reduceAdd,Nat.reduceSub,reduceIte,ite_true,ite_false,BEq.rfl,beq_self_eq_true,J]|some x=>let(z,_,g,h):=Jm R f;simp! only [Option.isSome_some,g,h,Eg]
  .simp [aq,c8,c7,aX,jh,aC,bZ,xO,sA,f9,kZ,i7,l0,Nat.reduceAdd,Nat.reduceSub,reduceIte,ite_true,ite_false,BEq.rfl,beq_self_eq_true,J,a]
 .simp [aq,c8,c7,aX,jh,aC,bZ,xO,sA,f9,kZ,i7,l0,Nat.reduceAdd,Nat.reduceSub,reduceIte,ite_true,ite_false,BEq.rfl,beq_self_eq_true,J,h0]
def rk(F:aJ)(a:∀rows,vA rows->∀r c,F (zu 15) [fl rows,sp r c]=.ok (.bl (cg rows r c)))(rows:List Str)(R:vA rows)(r c:Int)(h:cg rows r c=ig):aq F bh [fl rows,sp r c]=.ok .aG:=by simp! only [bh,a rows R,h]
noncomputable abbrev bK(p:Int×Int):PV:=sp p.1 p.2
theorem cA{a:Type}{p:a->PV}{g:a->PV}:∀{xs:List a},(∀x∈xs,f (p x)=.ok (ia (g x)))->aP f (xs.map p)=.ok (xs.map g)
 |[],_=>rfl|x::xs,h=>by simp! [bf,aP,h x (dV ..),Res.well,Res.bind,cA (xs:=xs) λy b=>h y (c3 _ b),oc]
def yA:cg rows r c=ig↔0<=r/\0<=c/\E0 rows r.toNat c.toNat=ig:=by simp! [cg,zza,zzN,and_assoc]
theorem iD{body:PV->Sl->Res Fl}{P:Nat->Sl->Prop}:∀(xs:List PV) (k:Nat) (env:Sl),P k env->(∀i x env,xs[i]?=ia x->P (k+i) env->∃a,body x env=.ok (.nx a)/\P (k+i+1) a)->∃a,forL body xs env=.ok (.nx a)/\P (k+xs.length) a
 |[],k,env,h,_=>⟨env,rfl,h⟩|x::xs,k,env,h,g=>by
  let(b,c,d):=g 0 x env rfl h;let(e,f,j):=iD xs (k+1) b d λi y env m o=>by let(p,q,r):=g (i+1) y env m (by rw [show k+(i+1)=k+1+i by omega];exact o);exact{p,q,by rw [show k+1+i+1=k+(i+1)+1 by omega];exact r}
  refine{e,?_,by rw [c6,show k+(xs.length+1)=k+1+xs.length by omega];exact j};simp! [forL,c,vB,f]
def D9{n i:Nat}{x:PV}(h:(fF 0 n)[i]?=ia x):i<n/\x=.int (i:Int):=by simp! [fF,d0,c4] at h;let(j,c,rfl):=h;let(a,b):=cP.1 c;simp! [List.getElem_range] at b;subst b;simp! [List.length_range] at a;exact{a,by simp}
def mB(F:aJ):Prop:=∀(a:List Int) (k q:Int),0<=k->0<q->∃m,F (zu 3) [fJ a,.int k,.int q]=.ok (.int m)/\0<=m/\m<q
def qU{a b m:Int}(e:0<=m)(f:m<4):∃v,aB (.lst [.int a,.int b,.int c,.int d]) (.int m)=.ok (.int v)/\(v=a\/v=b\/v=c\/v=d):=by
 have:m=0\/m=1\/m=2\/m=3:=by omega
 rcases this with rfl|rfl|rfl|rfl
 .exact{a,rfl,.inl rfl}
 .exact{b,rfl,.inr (.inl rfl)}
 .exact{c,rfl,.inr (.inr (.inl rfl))}
 .exact{d,rfl,.inr (.inr (.inr rfl))}
abbrev Jt:Ss:=#v[.set 11 (.call (zu 3) #v[!0,.bin .add (.bin .add (.bin .add (!1) (¬4)) (.bin .mul (!2) (!8))) (!10),.bin .mul (¬12) (!6)]),.set 9 (.bin .add (!9) (.ite (.cmp .lt (.bin .mod (!11) (¬12)) (!5)) (.cst (.str "#")) (.blt .str #v[.bin .fdiv (!11) (¬12)])))]
abbrev KR:Ss:=#v[.set 9 (.cst (.str "")),.cV (.one 10) (.va (!4)) Jt,.app 7 (!9)]
structure Fl(rows:List Str)(w:Nat):Prop where
 yM:vA rows
 ne:0<rows.length
 w1:1<=w
 P4:∀z∈rows,z.length=w
 dig:∀z∈rows,∀x∈z.cps.toList,x=35\/(48<=x/\x<=57)
def IP{v:Int}(b:0<=v)(c:v<10):d5 .str [.int v]=.ok (.str {#[48+v.toNat]}):=by
 let(n,rfl):=hF b;have a:∀k:Fin 10,(((k.1:Nat):Int).natAbs.log2<1920)/\((toString ((k.1:Nat):Int)):Str)={#[48+k.1]}:=by decide+kernel
 have k:=a {n,Int.ofNat_lt.1 c};show(if _ then Res.ok (PV.str _) else _)=_;rw [if_pos k.1,hU,k.2]
def He{x:Nat}(c:48<=x)(d:x<=57):d5 .int [.str {#[x]}]=.ok (.int ((x:Int)-48)):=by
 have b:∀k:Fin 10,PySem.intText? ({#[48+k.1]}:Str)=ia (((48+k.1:Nat):Int)-48):=by decide+kernel
 let(k,rfl):=Nat.exists_eq_add_of_le c;have e:=b {k,Nat.lt_succ_of_le (Nat.le_of_add_le_add_left (a:=48) d)};show(if({#[48+k]}:Str).length<=640 then(Res.of (PySem.intText? ({#[48+k]}:Str))).bind λn=>Res.ok (PV.int n) else .bad)=_;rw [if_pos (show({#[48+k]}:Str).length<=640 from(by show 1<=640;decide)),e];rfl
def LG(F:aJ)(A:mB F)(ns:List Int)(q a b d tp:Int)(B:0<=q)(E:q<=6)(G:1<=tp)(H:tp<=10)(own:PV)(i n:Nat)(I:n<=6)(o p:Ci.Slot):
 ∃(z:Str) (f g:Ci.Slot),z.length=n/\(∀x∈z.cps.toList,x=35\/(48<=x/\x<=57))/\forL (λx env=>((Tg.one 10).put x env).bind λh=>aX F Jt h) (fF 0 n) [.val (fJ ns),.val (.int 0),.val (.int q),.val (.int a),.val (.int b),.val (.int d),.val (.int tp),.own own,.val (.int i),.val (.str ""),o,p]=
  .ok (.nx [.val (fJ ns),.val (.int 0),.val (.int q),.val (.int a),.val (.int b),.val (.int d),.val (.int tp),.own own,.val (.int i),.val (.str z),f,g]):=by
 let(h,e,z,f,g,r,hd,rfl):=iD (body:=λx env=>((Tg.one 10).put x env).bind λh=>aX F Jt h) (P:=λj env=>∃(z:Str) (f g:Ci.Slot),z.length=j/\(∀x∈z.cps.toList,x=35\/(48<=x/\x<=57))/\env=[.val (fJ ns),.val (.int 0),.val (.int q),.val (.int a),.val (.int b),.val (.int d),.val (.int tp),.own own,.val (.int i),.val (.str z),f,g]) (fF 0 n) 0 [.val (fJ ns),.val (.int 0),.val (.int q),.val (.int a),.val (.int b),.val (.int d),.val (.int tp),.own own,.val (.int i),.val (.str ""),o,p] {_,_,_,by decide+kernel,by decide+kernel,rfl} (by
  intro j x env c C;let(K,rfl):=D9 c;let(z,f,g,r,hd,rfl):=C;let(m,s,L,m1):=A ns (0+4+q*(i:Int)+(j:Int)) (12*tp) (by have:=Int.mul_nonneg B (Int.natCast_nonneg i);omega) (by omega)
  have t:(aN q||aN (i:Int))=ig:=by
   have:aN q=ig:=by simp! [aN,zza,zzN];omega
   rw [this];rfl
  have u:(aN 12||aN tp)=ig:=by rw [gU];exact .inl (by decide)
  have w:(0:Int)<12:=by decide
  have y:(0:Int)<12/\(12:Int)<1073741824:=by decide
  have D:=IP (v:=m/12) (by omega) (by omega);have k:(("#":Str))={#[35]}:=by decide+kernel
  by_cases hm:m%12<d
  .refine{[.val (fJ ns),.val (.int 0),.val (.int q),.val (.int a),.val (.int b),.val (.int d),.val (.int tp),.own own,.val (.int i),.val (.str (z++"#")),.val (.int j),.val (.int m)],?_,_,_,_,?_,?_,rfl}
   .have l:z.length+(("#":Str)).length<=cY:=eg (show _<=8 by rw [k];show z.length+1<=8;omega) (by decide);simp! only [Jt,t,u,w,y,s,hm,decide_true,l,and_self]
   .rw [Str.length_append,k];show z.length+1=_;omega
   .rw [k];show∀x∈(z.cps++#[35]).toList,_;intro x c;simp! [Array.toList_append,List.mem_append,e6] at c;rcases c with c|c
    .exact hd x c
    .exact .inl c
  .refine{[.val (fJ ns),.val (.int 0),.val (.int q),.val (.int a),.val (.int b),.val (.int d),.val (.int tp),.own own,.val (.int i),.val (.str (z++{#[48+(m/12).toNat]})),.val (.int j),.val (.int m)],?_,_,_,_,?_,?_,rfl}
   .have l:z.length+({#[48+(m/12).toNat]}:Str).length<=cY:=eg (show z.length+1<=8 by omega) (by decide);simp! only [Jt,t,u,w,y,s,hm,decide_false,l,and_self,D]
   .rw [Str.length_append];show z.length+1=_;omega
   .show∀x∈(z.cps++#[48+(m/12).toNat]).toList,_
    intro x c;simp! [Array.toList_append,List.mem_append,e6] at c;rcases c with c|c
    .exact hd x c
    .exact .inr (by omega))
 refine{z,f,g,?_,hd,e};simpa [fF] using r
def zW(F:aJ)(h:mB F)(ns:List Int)(q:Int)(V:1<=q)(B:q<=6):∃rows w,Fl rows w/\aq F cu [fJ ns,.int 0,.int q]=.ok (fl rows):=by
 let(a,C,W,X):=h ns 0 q (by decide) (by omega);let(b,D,Y,Z):=h ns (0+1) q (by decide) (by omega);let(c,E,c0,G):=h ns (0+2) 4 (by decide) (by decide);let(d,H,I,d4):=h ns (0+3) 4 (by decide) (by decide);let(j,K,hs):=qU (a:=0) (b:=2) (c:=4) (d:=6) c0 G;let(tp,L,ht):=qU (a:=1) (b:=2) (c:=3) (d:=10) I d4;have M:1<=tp:=by omega
 have N:tp<=10:=by omega
 have O:aW (1+a)=ig:=by simp! [aW,zza,zzN];omega
 have Q:aW (1+b)=ig:=by simp! [aW,zza,zzN];omega
 let(u,e,rows,r,s,k,o,hl,p,hd,rfl):=iD (body:=λx env=>((Tg.one 8).put x env).bind λu=>aX F KR u)
  (P:=λi env=>∃(rows:List Str) (r s k o:Ci.Slot),rows.length=i/\(∀z∈rows,z.length=(1+b).toNat)/\(∀z∈rows,∀x∈z.cps.toList,x=35\/(48<=x/\x<=57))/\env=[.val (fJ ns),.val (.int 0),.val (.int q),.val (.int (1+a)),.val (.int (1+b)),.val (.int j),.val (.int tp),.own (.lst (rows.map .str)),r,s,k,o])
  (fF 0 (1+a).toNat) 0 [.val (fJ ns),.val (.int 0),.val (.int q),.val (.int (1+a)),.val (.int (1+b)),.val (.int j),.val (.int tp),.own (.lst []),.no,.no,.no,.no] {[],_,_,_,_,rfl,(λz g=>by cases g),(λz g=>by cases g),rfl} (by
  intro i x env R S;let(hi,rfl):=D9 R;let(rows,r,s,k,o,hl,p,hd,rfl):=S;let(z,T,U,g,t,e):=LG F h ns q (1+a) (1+b) j tp (by omega) B M N (.lst (rows.map .str)) i (1+b).toNat (by omega) k o;have l:(rows.map PV.str).length<cY:=el (m:=6) (by simp! [zzl];omega) (by decide);refine{[.val (fJ ns),.val (.int 0),.val (.int q),.val (.int (1+a)),.val (.int (1+b)),.val (.int j),.val (.int tp),.own (.lst ((rows++[z]).map .str)),.val (.int i),.val (.str z),T,U],?_,rows++[z],_,_,_,_,by simp;omega,?_,?_,rfl}
  .have A:=e;simp! only [Jt] at A;simp! [zzl] at l;simp! only [KR,Jt,Q,A,zzl,l,List.map_append]
  .intro y f;simp! [List.mem_append,e6] at f;rcases f with f|rfl
   .exact p y f
   .exact g
  .intro y f;simp! [List.mem_append,e6] at f;rcases f with f|rfl
   .exact hd y f
   .exact t)
 have oR:rows.length=(1+a).toNat:=by simpa [fF] using hl
 refine{rows,(1+b).toNat,{{by omega,λz g=>by rw [p z g];omega},by omega,by omega,p,hd},?_};simp! only [KR,Jt] at e;simp! only [cu,cu,C,D,E,H,K,L,O,e]
abbrev d8(rows:List Str)(r c:Int):Int:=match cd rows r.toNat c.toNat with
 |some x=>(x:Int)-48|none=>0
def DH(h:cg rows r c=ig):∃(i j x:Nat),r=i/\c=j/\cd rows i j=ia x/\x≠35:=by
 let(d,e,a):=yA.1 h;let(i,rfl):=hF d;let(j,rfl):=hF e
 simp! [hU,E0] at a;cases b:cd rows i j with
 |none=>rw [b] at a;cases a
 |some x=>rw [b] at a;exact{i,j,x,rfl,rfl,b,zx6 a}
def Ke{w:Nat}(L:Fl rows w){i j x:Nat}(h:cd rows i j=ia x):x=35\/(48<=x/\x<=57):=by
 unfold cd at h;cases a:rows[i]? with
 |none=>rw [a] at h;cases h
 |some z=>rw [a] at h;exact L.dig z (a9 a) x (a9 h)
def v5{w:Nat}(L:Fl rows w)(h:cg rows r c=ig):∃z x,aB (fl rows) (.int r)=.ok (.str z)/\aB (.str z) (.int c)=.ok (.str {#[x]})/\d5 .int [.str {#[x]}]=.ok (.int (d8 rows r c))/\0<=d8 rows r c/\d8 rows r c<=9:=by
 let(i,j,x,rfl,rfl,a,d):=DH h;let(z,_,e,f):=Jm L.yM a;have hd:=(Ke L a).resolve_left d;have b:d8 rows i j=(x:Int)-48:=by simp! [d8,hU,a]
 refine{z,x,e,f,?_,?_}
 .rw [b];exact He hd.1 hd.2
 .rw [b];omega
abbrev bu(rows:List Str)(sl:Bool)(cl pr:Int)(r c a b:Int):Option Int:=
 if(r=a/\c=b)\/1<r-a\/1<a-r\/1<c-b\/1<b-c then ie
 else if(r≠a/\c≠b)/\¬(sl=ig/\cg rows r b=ig/\cg rows a c=ig) then ie
 else if cl<d8 rows a b-d8 rows r c\/cl<d8 rows r c-d8 rows a b then ie
 else ia ((if r≠a/\c≠b then 3 else 2)+pr*(if d8 rows a b-d8 rows r c>0 then d8 rows a b-d8 rows r c else 0))
abbrev oP:Option Int->PV
 |none=>.aG|some i=>.int i
def oN(r c a b:Int):Prop:=(r=a/\c=b)\/1<r-a\/1<a-r\/1<c-b\/1<b-c
noncomputable instance(r c a b:Int):Decidable (oN r c a b):=by unfold oN;infer_instance
def zt(F:aJ)(r c e f:Int):aq F cO [sp r c,sp e f]=.ok (.bl (!decide (oN r c e f))):=by
 simp! only [cO,P8,P9,aI,nS];have k:∀(a b d:Bool),(Res.ok (PV.bl a)).bind (λx=>sy x λt=>if t then(Res.ok (PV.bl b)).bind (λx=>sy x λt=>if t then Res.ok (PV.bl d) else Res.ok (PV.bl iv)) else Res.ok (PV.bl iv))=Res.ok (PV.bl (a&&(b&&d))):=by intro a b d;cases a<;>cases b<;>cases d<;>rfl
 by_cases j:r=e/\c=f
 .let(rfl,rfl):=j;have:oN r c r c:=.inl ⟨rfl,rfl⟩;simp [aq,c8,c7,aX,jh,aC,bZ,xO,sA,f9,kZ,i7,l0,Nat.reduceAdd,Nat.reduceSub,reduceIte,ite_true,ite_false,BEq.rfl,beq_self_eq_true,J,this]
 .have m:(!((r==e)&&((c==f)&&ig)))=ig:=by
   cases o:((r==e)&&((c==f)&&ig)) with
   |false=>rfl|true=>exact absurd (zx6 o) j
  simp! only [m];by_cases g:(if r-e<0 then -(r-e) else r-e)<=1
  .by_cases i:(if c-f<0 then -(c-f) else c-f)<=1
   .have:¬oN r c e f:=by
     rintro (h|h|h|h|h)
     .exact j h
     all_goals (split at g<;>split at i<;>omega)
    simp! only [g,i,this,decide_true,decide_false]
   .have:oN r c e f:=by
     unfold oN;split at i<;>omega
    simp! only [g,i,this,decide_true,decide_false]
  .have:oN r c e f:=by
    unfold oN;split at g<;>omega
   simp! only [g,this,decide_true,decide_false]
def mz(F:aJ):Prop:=∀a,vA a->∀r c,F (zu 15) [fl a,sp r c]=.ok (.bl (cg a r c))
def Af(F:aJ)(a:∀rows,vA rows->∀r c,cg rows r c=ig->F (zu 4) [fl rows,sp r c]=.ok .aG){w:Nat}(L:Fl rows w)(h:cg rows r c=ig):aq F df [fl rows,sp r c]=.ok (.int (d8 rows r c)):=by let(z,x,b,d,e,_):=v5 L h;simp! only [df,a rows L.yM r c h,P8,P9,b,d,e]
def vR(F:aJ)(d:mz F)(R:vA rows)(r c b a:Int):aq F bp [fl rows,sp r c,sp b a]=.ok (.bl (cg rows r a&&cg rows b c)):=by simp! only [bp,P8,P9,d rows R];cases cg rows r a<;>simp! only [Bool.false_and,Bool.true_and]
def AA{i:Int}(a:0<=i)(b:i<4):(aN i||aN j)=ig:=by
 have:aN i=ig:=by simp! [aN,zza,zzN];omega
 rw [this];rfl
structure Wk(cl pr:Int):Prop where
 c0:0<=cl
 p0:0<=pr
 p4:pr<4
 c9:cl<=9
def IM(F:aJ)(C:∀r c a b,F (zu 39) [sp r c,sp a b]=.ok (.bl (!decide (oN r c a b))))(hk:∀rows,vA rows->∀r c a b,F (zu 10) [fl rows,sp r c,sp a b]=.ok (.bl (cg rows r b&&cg rows a c)))
 (q:∀rows w,Fl rows w->∀r c,cg rows r c=ig->F (zu 42) [fl rows,sp r c]=.ok (.int (d8 rows r c)))  {w:Nat} (L:Fl rows w)   (V:Wk cl pr) {a b:Int} (h:cg rows r c=ig) (h':cg rows a b=ig):
 aq F aS [fl rows,wk sl cl pr,sp r c,sp a b]=.ok (oP (bu rows sl cl pr r c a b)):=by
 have A:=q rows w L r c h;have B:=q rows w L a b h';have o:=hk rows L.yM r c a b;have f:=C r c a b;by_cases e:oN r c a b
 .have:bu rows sl cl pr r c a b=ie:=if_pos e;simp! only [aS,f,e,decide_true,this,oP]
 .have D:bu rows sl cl pr r c a b=_:=if_neg e;rw [D];have E:=λj=>AA (j:=j) V.p0 V.p4;obtain⟨s,hs⟩:∃s,((!(r==a))&&!(c==b))=s:={_,rfl};have g:s=ig↔r≠a/\c≠b:=by rw [<-hs];simp
  have i:∀{t u:Bool},(if t=ig then Res.ok (PV.bl u) else Res.ok (PV.bl iv))=Res.ok (PV.bl (t&&u)):=λ{t u}=>by cases t<;>rfl
  have G:(if s=ig then Res.ok (PV.int 3) else Res.ok (PV.int 2))=Res.ok (PV.int (if r≠a/\c≠b then 3 else 2)):=by
   by_cases k:r≠a/\c≠b
   .rw [if_pos (g.2 k),if_pos k]
   .rw [if_neg (λz=>k (g.1 z)),if_neg k]
  have H:(if(0:Int)>d8 rows a b-d8 rows r c then 0 else d8 rows a b-d8 rows r c)=(if d8 rows a b-d8 rows r c>0 then d8 rows a b-d8 rows r c else 0):=by split<;>split<;>omega
  have cc:(if sl=ig then Res.ok (PV.bl (cg rows r b&&cg rows a c)) else Res.ok (PV.bl iv))=Res.ok (PV.bl (sl&&(cg rows r b&&cg rows a c))):=i;by_cases d:(r≠a/\c≠b)/\¬(sl=ig/\cg rows r b=ig/\cg rows a c=ig)
  .rw [if_pos d];have hB:(!(sl&&(cg rows r b&&cg rows a c)))=ig:=by
    rw [Bool.not_eq_true',Bool.eq_false_iff];intro z;rw [zza,zza] at z;exact d.2 z
   simp! only [aS,f,o,e,decide_false,i,hs,g.2 d.1,hB,Bool.and_self,oP]
  .rw [if_neg d];have hB:(s&&!(sl&&(cg rows r b&&cg rows a c)))=iv:=by
    rw [Bool.eq_false_iff];intro z;rw [zza,Bool.not_eq_true',Bool.eq_false_iff] at z;exact d {g.1 z.1,λy=>z.2 (by rw [zza,zza];exact y)}
   by_cases m:cl<(if d8 rows a b-d8 rows r c<0 then -(d8 rows a b-d8 rows r c) else d8 rows a b-d8 rows r c)
   .have p:cl<d8 rows a b-d8 rows r c\/cl<d8 rows r c-d8 rows a b:=by split at m<;>omega
    simp! only [aS,f,o,A,B,e,decide_false,i,hs,hB,oP,m,decide_true,if_pos p]
   .have p:¬(cl<d8 rows a b-d8 rows r c\/cl<d8 rows r c-d8 rows a b):=by split at m<;>omega
    simp! only [aS,f,o,A,B,e,decide_false,i,hs,hB,oP,m,if_neg p,G,E,H]
def Mq{w:Nat}(L:Fl rows w)(h:cg rows r c=ig):0<=r/\r<rows.length/\0<=c/\c<w:=by
 let(i,j,x,rfl,rfl,a,_):=DH h
 unfold cd at a;cases b:rows[i]? with
 |none=>rw [b] at a;cases a
 |some z=>rw [b] at a;have e:=(cP.1 b).1;have d:=(cP.1 a).1;have hl:=L.P4 _ (a9 b);simp! [eH] at d;have:z.cps.size=z.length:=rfl;omega
noncomputable abbrev kN(p:Nat×Nat):List Int:=[(p.1:Int),(p.2:Int)]
noncomputable abbrev Up(L:List (Nat×Nat)):Prop:=L.Pairwise λp q=>HT.lexLt (kN p) (kN q)=ig
def ED:Up []:=.nil
def Rl{p q:Nat×Nat}(h:p.1<q.1\/p.1=q.1/\p.2<q.2):HT.lexLt (kN p) (kN q)=ig:=by
 simp! [HT.lexLt];rcases h with h|⟨a,b⟩
 .rw [if_neg (by omega)];exact zzh (by omega)
 .rw [if_pos (by omega),if_neg (by omega)];exact zzh (by omega)
noncomputable abbrev vc(p:Nat×Nat):PV:=sp p.1 p.2
theorem xI:∀{xs:List PV} {k i:Nat} {x:PV},(cX k xs)[i]?=ia x->∃y,xs[i]?=ia y/\x=.tup [.int ((k+i:Nat):Int),y]
 |[],_,_,_,h=>by cases h
 |y::ys,k,0,x,h=>by simp! [cX,List.getElem?_cons_zero,Option.some.injEq] at h;exact⟨y,rfl,h.symm⟩|y::ys,k,i+1,x,h=>by simp! [cX,List.getElem?_cons_succ] at h;let(w,a,b):=xI h;refine{w,a,?_};rw [b,show k+1+i=k+(i+1) by omega]
theorem dz:∀(xs:List PV) (k:Nat),(cX k xs).length=xs.length
 |[],_=>rfl|x::xs,k=>by simp! [cX,c6,dz xs]
theorem sY{r:Nat}(j:∀c x:Nat,f (.tup [.int c,.str {#[x]}])=.ok (if x !=35 then ia (sp r c) else ie)):∀(xs:List Nat) (k:Nat),∃L:List (Nat×Nat),aP f (cX k (xs.map λx=>.str {#[x]}))=.ok (L.map vc)/\Up L/\L.length<=xs.length/\∀a b,(a,b)∈L↔a=r/\k<=b/\∃x,xs[b-k]?=ia x/\x≠35
 |[],k=>{[],rfl,ED,bc _,λa b=>by simp}|x::xs,k=>by
  let(L,e,nd,l,h):=sY j xs (k+1);by_cases m:x=35
  .refine{L,?_,nd,Nat.le_succ_of_le l,λa b=>?_}
   .have:(x !=35)=iv:=by simp [m]
    simp! [bf,cX,aP,j,this,RF,vB,e,oc];rfl
   .rw [h];constructor
    .rintro ⟨d,o,y,g,i⟩
     refine{d,by omega,y,?_,i};rw [show b-k=(b-(k+1))+1 by omega];exact g
    .rintro ⟨d,o,y,g,i⟩
     have:b≠k:=by
      rintro rfl
      simp at g;omega
     refine{d,by omega,y,?_,i};rw [show b-k=(b-(k+1))+1 by omega] at g;exact g
  .refine{(r,k)::L,?_,List.pairwise_cons.2 {(λp q=>Rl (by have:=(h p.1 p.2).1 q;omega)),nd},Nat.succ_le_succ l,λa b=>?_}
   .have:(x !=35)=ig:=by simp [m]
    simp! [bf,cX,aP,j,this,RF,vB,e,oc,if_true]
   .rw [fP,h];constructor
    .rintro (d|⟨d,o,y,g,i⟩)
     .cases d;exact{rfl,bc _,x,by simp,m}
     .refine{d,by omega,y,?_,i};rw [show b-k=(b-(k+1))+1 by omega];exact g
    .rintro ⟨d,o,y,g,i⟩
     by_cases s:b=k
     .subst s;subst d;exact .inl rfl
     .refine .inr {d,by omega,y,?_,i};rw [show b-k=(b-(k+1))+1 by omega] at g;exact g
def yz{r c:Nat}:E0 rows r c=ig↔∃z,rows[r]?=ia z/\∃x,z.cps.toList[c]?=ia x/\x≠35:=by
 unfold E0 cd;cases e:rows[r]? with
 |none=>simp|some z=>
  simp! [Option.bind_some];cases a:z.cps.toList[c]? with
  |none=>
   refine{(λh=>by cases h),?_}
   rintro ⟨w,hw,x,b,_⟩
   cases hw;rw [a] at b;cases b
  |some x=>
   refine{λh=>{z,rfl,x,a,zx6 h},?_}
   rintro ⟨w,hw,y,d,h⟩
   cases hw;rw [a] at d;cases d;simpa using h
abbrev DJ:Ss:=#v[.lC 1 (.ei 2 [2] (.two 0 1) (.enum (!3)) (.cmp .ne (!1) (.cst (.str "#"))) (.tup #v[!2,!0]))]
def Fb(F:aJ):Prop:=∀a,vA a->∃L:List (Nat×Nat),F (zu 34) [fl a]=.ok (.lst (L.map vc))/\Up L/\L.length<=36/\∀r c,(r,c)∈L↔E0 a r c=ig
def Ep(F:aJ)(rows:List Str)(R:vA rows):∃L:List (Nat×Nat),aq F cN [fl rows]=.ok (.lst (L.map vc))/\Up L/\L.length<=36/\∀r c,(r,c)∈L↔E0 rows r c=ig:=by
 have S:=R.1
 let(d,e,L,q,s,nd,hl,hm,rfl):=iD (body:=λx env=>((Tg.two 2 3).put x env).bind λd=>aX F DJ d) (P:=λi env=>∃(L:List (Nat×Nat)) (q s:Slot),Up L/\L.length<=6*i/\(∀r c,(r,c)∈L↔r<i/\E0 rows r c=ig)/\env=[.val (fl rows),.own (.lst (L.map vc)),q,s])
  (cX 0 (rows.map .str)) 0 [.val (fl rows),.own (.lst []),.no,.no] {[],_,_,ED,bc _,(λr c=>by simp),rfl} (by
  intro i x env D E;let(y,A,rfl):=xI D;let(L,q,s,nd,hl,hm,rfl):=E;simp! [d0,c4] at A;let(z,g,rfl):=A;have G:=R.2 z (a9 g);have T:i<rows.length:=(cP.1 g).1;let(M,H,I,U,B):=sY (f:=λx=>((Tg.two 0 1).put x [.no,.no,.val (.int i)]).bind λd=>((qj d[1]?).bind λx=>iM x (.str "#")).bind λt=>sy t λt=>if t then(((qj d[2]?).bind λp=>((qj d[0]?).bind λp=>.ok [p]).bind λu=>.ok (p::u)).bind λu=>.ok (.tup u)).bind λy=>.ok (ia y) else .ok ie) (r:=i) (λc x=>by simp! only [Eg];cases(x !=35)<;>rfl) z.cps.toList 0;have lz:(cX 0 (chars z)).length<cY:=by rw [dz];refine el (m:=6) ?_ (by decide);simpa [chars,Str.length] using G
  have K:(L.map vc).length+(M.map vc).length<=cY:=by
   refine eg (m:=100) ?_ (by decide);simp! [zzl];have:z.cps.toList.length=z.length:=by simp [Str.length]
   omega
  refine{[.val (fl rows),.own (.lst ((L++M).map vc)),.val (.int i),.val (.str z)],?_,L++M,_,_,List.pairwise_append.2 {nd,I,λa N b O=>Rl (.inl (by have C:=((hm a.1 a.2).1 N).1;have j:=((B b.1 b.2).1 O).1;omega))},?_,?_,rfl}
  .simp! only [DJ,Rc,Nat.zero_add,lz];rw [show chars z=z.cps.toList.map λx=>PV.str {#[x]} from rfl,H];simp! only [K,List.map_append]
  .have:z.cps.toList.length=z.length:=by simp [Str.length]
   simp! [dj];omega
  .intro r c;rw [List.mem_append,hm,B,yz];constructor
   .rintro (⟨C,j⟩|⟨rfl,_,x,k,o⟩)
    .exact{by omega,j}
    .exact{by omega,z,g,x,k,o}
   .rintro ⟨C,w,j,x,k,o⟩
    by_cases Q:r=i
    .subst Q;rw [g] at j;cases j;exact .inr {rfl,Nat.zero_le _,x,k,o}
    .exact .inl {by omega,w,j,x,k,o})
 refine{L,?_,nd,(by rw [dz,zzl] at hl;omega),λr c=>?_}
 .simp! only [DJ] at e;simp! only [cN,Rf,e,List.modify_succ_cons,List.modify_zero_cons,Bj]
 .rw [hm];refine{λh=>h.2,λh=>{?_,h}};let(z,g,_):=yz.1 h;have:=(cP.1 g).1;rw [dz,zzl];omega
def Bg(F:aJ)(e:mB F)(ns:List Int)(k:Int)(hk:0<=k):∃sl cl pr,Wk cl pr/\aq F cB [fJ ns,.int k]=.ok (wk sl cl pr):=by let(a,f,p,q):=e ns k 2 hk (by decide);let(b,g,h,i):=e ns (k+1) 4 (by omega) (by decide);let(c,j,c0,m):=e ns (k+2) 4 (by omega) (by decide);let(v,o,r):=qU (a:=0) (b:=1) (c:=2) (d:=9) h i;refine{(a==0),v,c,{by omega,c0,m,by omega},?_};simp! only [cB,f,g,j,o]
theorem fQ{d f:Type}{body:PV->Sl->Res Ci.Fl}{g:d->PV}{mk:List PV->f->Sl}{app:d->List PV}{m M:Nat}:∀(l:List d) (c:List PV) (s:f),(∀a∈l,(app a).length<=m)->(∀a∈l,∀c s,c.length+m<=M->∃s',body (g a) (mk c s)=.ok (.nx (mk (c++app a) s')))->c.length+m*l.length<=M->∃s',forL body (l.map g) (mk c s)=.ok (.nx (mk (c++l.flatMap app) s'))
 |[],c,s,_,_,_=>{s,by simp [forL]}|a::l,c,s,h,i,j=>by have r:=h a (dV ..);rw [c6,Nat.mul_succ] at j;let(k,o):=i a (dV ..) c s (by omega);let(p,q):=fQ l (c++app a) k (λb e=>h b (c3 _ e)) (λb e=>i b (c3 _ e)) (by rw [dj];omega);refine{p,?_};simp! [bf,forL,o,vB,q,List.flatMap_cons,List.append_assoc]
abbrev ib(x:Int):List Int:=[x-1+(0:Nat),x-1+(1:Nat),x-1+(2:Nat)]
def P5(x:Int):fF (x-1) (x+2-(x-1)).toNat=(ib x).map .int:=by rw [show(x+2-(x-1)).toNat=3 by omega];rfl
abbrev oI:Ss:=#v[.ite (.and (.cmp .ne (.tup #v[!3,!4]) (!1)) (.call (zu 15) #v[!0,.tup #v[!3,!4]])) #v[.app 2 (.tup #v[!3,!4])] .nil]
abbrev oO:Ss:=#v[.cV (.one 4) (.rL (.bin .sub (.sub (!1) (¬1)) (¬1)) (.bin .add (.sub (!1) (¬1)) (¬2))) oI]
abbrev EZ(rows:List Str)(r c a b:Int):Bool:=!((a==r)&&((b==c)&&ig))&&cg rows a b
abbrev sQ(rows:List Str)(r c a:Int):List (Int×Int):=(ib c).flatMap λb=>if EZ rows r c a b then [(a,b)] else []
abbrev qF(rows:List Str)(r c:Int):List (Int×Int):=(ib r).flatMap (sQ rows r c)
def jl(rows:List Str)(r c a:Int):(sQ rows r c a).length<=3:=by
 have:∀b,(if EZ rows r c a b then [(a,b)] else []).length<=1:=λb=>by split<;>simp
 simp! [sQ,ib,List.flatMap_cons,List.flatMap_nil,dj,List.length_nil];have d:=this (c-1+(0:Nat));have e:=this (c-1+(1:Nat));have f:=this (c-1+(2:Nat));omega
def sR(rows:List Str)(r c:Int):(qF rows r c).length<=9:=by simp! [qF,ib,List.flatMap_cons,List.flatMap_nil,dj,List.length_nil];have a:=jl rows r c (r-1+(0:Nat));have b:=jl rows r c (r-1+(1:Nat));have d:=jl rows r c (r-1+(2:Nat));omega
def mJ{e:Int}:(d,e)∈qF rows r c↔¬oN r c d e/\cg rows d e=ig:=by
 have g:∀x y:Int,y∈ib x↔¬1<x-y/\¬1<y-x:=by intro x y;simp! [ib,fP,List.not_mem_nil,or_false];omega
 simp! [qF,sQ,List.mem_flatMap,g];constructor
 .rintro ⟨a,j,b,k,h⟩
  split at h
  .rename_i hk;simp! [e6,Prod.mk.injEq] at h;let(rfl,rfl):=h;simp! [EZ,zza,Bool.not_eq_true',Bool.and_true] at hk;refine{?_,hk.2};unfold oN;have f:=hk.1;rw [Bool.and_eq_false_iff] at f;simp! [beq_eq_false_iff_ne,ne_eq] at f;omega
  .cases h
 .rintro ⟨hf,i⟩
  unfold oN at hf;refine{d,by omega,e,by omega,?_};have:EZ rows r c d e=ig:=by simp! [EZ,i,Bool.and_true,Bool.not_eq_true',Bool.and_eq_false_iff,beq_eq_false_iff_ne,ne_eq];omega
  rw [if_pos this];exact e6.2 rfl
def nO(a:0<=r)(b:r<6):(aW (r-1)&&aW (r+2))=ig:=by simp! [aW,zza,zzN];omega
def J7(F:aJ)(p:mz F)(R:vA rows)(u:0<=r)(w:r<6)(y:0<=c)(z:c<6):
 aq F bg [fl rows,sp r c]=.ok (.lst ((qF rows r c).map bK)):=by
 have f:∀(b:Int) (a:List PV) (i:Ci.Slot),a.length+3<=50->∃j,forL (λx env=>((Tg.one 4).put x env).bind λh=>aX F oI h) ((ib c).map .int) [.val (fl rows),.val (sp r c),.own (.lst a),.val (.int b),i]=.ok (.nx [.val (fl rows),.val (sp r c),.own (.lst (a++(sQ rows r c b).map bK)),.val (.int b),j]):=by
  intro b a i hl;let(q,e):=fQ (body:=λx env=>((Tg.one 4).put x env).bind λh=>aX F oI h) (g:=PV.int) (mk:=λa (s:Ci.Slot)=>[.val (fl rows),.val (sp r c),.own (.lst a),.val (.int b),s]) (app:=λd=>if EZ rows r c b d then [sp b d] else []) (m:=1) (M:=60) (ib c) a i (λd Z=>by split<;>simp) (λd Z a s hl=>by
   have l:a.length<cY:=el (m:=60) (by omega) (by decide)
   refine{.val (.int d),?_};cases o:(!((b==r)&&((d==c)&&ig))) with
   |false=>simp! only [oI,o,EZ,Bool.false_and,hW]|true=>
    cases t:cg rows b d with
    |false=>simp! only [oI,o,t,EZ,p rows R,Bool.and_false,hW]|true=>simp! only [oI,o,t,EZ,p rows R,Bool.and_self,l]) (by show a.length+1*3<=60;omega)
  have k:(ib c).flatMap (λd=>if EZ rows r c b d then [sp b d] else [])=(sQ rows r c b).map bK:=by
   simp! [sQ,List.map_flatMap]
   congr 1
   funext d
   split<;>rfl
  exact{q,by rw [e,k]}
 let(q,e):=fQ (body:=λx env=>((Tg.one 3).put x env).bind λh=>aX F oO h) (g:=PV.int) (mk:=λa (s:Ci.Slot×Ci.Slot)=>[.val (fl rows),.val (sp r c),.own (.lst a),s.1,s.2]) (app:=λb=>(sQ rows r c b).map bK) (m:=3) (M:=50) (ib r) [] (.no,.no) (λb Z=>by rw [zzl];exact jl ..) (λb Z a s hl=>by let(j,e):=f b a s.2 hl;refine{(.val (.int b),j),?_};simp! only [oI] at e;simp! only [oO,oI,nO y z,P5,e]) (by show 0+3*3<=50;omega);simp! only [oO,oI] at e;simp! only [bg,nO u w,P5,e,Bj,qF,List.map_flatMap]
def E1(rows:List Str)(sl:Bool)(cl pr:Int)(u v:List Int)(e:Int):Prop:=∃r c a b,u=[r,c]/\v=[a,b]/\cg rows r c=ig/\cg rows a b=ig/\bu rows sl cl pr r c a b=ia e
noncomputable abbrev tK(t:List Int×Int):PV:=.tup [cb t.1,.int t.2]
def mD(F:aJ):Prop:=∀a w,Fl a w->∀f cl b,Wk cl b->∀r c d e,cg a r c=ig->cg a d e=ig->F (zu 12) [fl a,wk f cl b,sp r c,sp d e]=.ok (oP (bu a f cl b r c d e))
def Je(F:aJ):Prop:=∀a,vA a->∀r c,0<=r->r<6->0<=c->c<6->F (zu 9) [fl a,sp r c]=.ok (.lst ((qF a r c).map bK))
def my(F:aJ):Prop:=∀a,vA a->∀r c,cg a r c=ig->F (zu 4) [fl a,sp r c]=.ok .aG
def sH(f:List PV->Res PV):Prop:=∀a w,Fl a w->∀d cl b,Wk cl b->∀r c,cg a r c=ig->∃T:List (List Int×Int),f [fl a,wk d cl b,cb [r,c]]=.ok (.lst (T.map tK))/\T.length<=9/\∀v e,(v,e)∈T↔E1 a d cl b [r,c] v e
def qA(F:aJ):Prop:=sH (F (zu 31))
abbrev Rv:Ss:=#v[.set 5 (.call (zu 12) #v[!0,!1,!2,!4]),.ite (.cmp .Hj (!5) (.cst .aG)) #v[.app 3 (.tup #v[!4,!5])] .nil]
def DG{w:Nat}(L:Fl rows w)(h:cg rows r c=ig):0<=r/\r<6/\0<=c/\c<6:=by have b:=Mq L h;have d:=L.yM.1;have a:=L.yM.2 _ (List.getElem_mem L.ne);rw [L.P4 _ (List.getElem_mem L.ne)] at a;omega
def Eu(F:aJ)(A:my F)(B:Je F)(hs:mD F):sH (aq F cx):=by
 intro d w L f cl i V r c h;let(C,D,c0,E):=DG L h;have JK:∀p:Int×Int,((bu d f cl i r c p.1 p.2).toList.map λe=>(([p.1,p.2]:List Int),e)).length<=1:=λp=>by cases bu d f cl i r c p.1 p.2<;>simp
 refine{(qF d r c).flatMap λp=>(bu d f cl i r c p.1 p.2).toList.map λe=>([p.1,p.2],e),?_,?_,?_}
 .let(N,e):=fQ (body:=λx env=>((Tg.one 4).put x env).bind λG=>aX F Rv G) (g:=bK) (mk:=λj (s:Ci.Slot×Ci.Slot)=>[.val (fl d),.val (wk f cl i),.val (sp r c),.own (.lst j),s.1,s.2]) (app:=λp=>((bu d f cl i r c p.1 p.2).toList.map λe=>(([p.1,p.2]:List Int),e)).map tK) (m:=1) (M:=50) (qF d r c) [] (.no,.no) (λp Z=>by rw [zzl];exact JK p) (λp o j s hl=>by
   have l:j.length<cY:=el (m:=50) (by omega) (by decide);have e:=hs d w L f cl i V r c p.1 p.2 h (mJ.1 o).2
   cases u:bu d f cl i r c p.1 p.2 with
   |none=>rw [u] at e;have q:ij .aG .aG=.ok (.bl iv):=rfl;simp! [oP] at e;exact{(.val (bK p),.val .aG),by simp! only [Rv,e,q,Option.toList_none,hW]}|some v=>
    rw [u] at e;have q:ij (.int v) .aG=.ok (.bl ig):=rfl;simp! [oP] at e;exact{(.val (bK p),.val (.int v)),by simp! only [Rv,e,q,Option.toList_some,l];rfl}) (by
   have:=sR d r c;show 0+1*_<=50;omega)
  have k:cb [r,c]=sp r c:=rfl;simp! only [Rv] at e;simp! only [k,cx,A d L.yM r c h,B d L.yM r c C D c0 E,e,Bj,List.map_flatMap]
 .have:=sR d r c
  have t:∀l:List (Int×Int),(l.flatMap λp=>(bu d f cl i r c p.1 p.2).toList.map λe=>(([p.1,p.2]:List Int),e)).length<=l.length:=by
   intro l
   induction l with
   |nil=>exact bc _|cons p l O=>have:=JK p;simp! [List.flatMap_cons,dj,c6];omega
  exact eg (t _) this
 .intro v e;simp! [List.mem_flatMap,hG,Option.mem_toList,Option.mem_def,Prod.mk.injEq];constructor
  .rintro ⟨p,o,P,he,rfl,rfl⟩
   exact{r,c,p.1,p.2,rfl,rfl,h,(mJ.1 o).2,he}
  .rintro ⟨a,b,y,z,H,rfl,_,I,he⟩
   cases H;refine{(y,z),mJ.2 {λK=>?_,I},e,he,rfl,rfl};rw [show bu d f cl i r c y z=ie from if_pos K] at he;cases he
theorem di{b:Type}:∀{ks:mq} {vs:List b} (k:List Int),ks.length=vs.length->cW ks k=(au ks vs k).isSome
 |[],[],_,_=>rfl|c::ks,v::vs,k,h=>by
  have a:=di (ks:=ks) (vs:=vs) k (zx6 h);by_cases e:c=k
  .simp [cW,au,e]
  .simp! [cW] at a;simp [cW,au,e,a]
theorem jV{a b:Type}(f:a->b):∀(ks:mq) (vs:List a) (k:List Int),au ks (vs.map f) k=(au ks vs k).map f
 |[],_,_=>by simp [au]|_::_,[],_=>by simp [au]|c::ks,v::vs,k=>by simp! [bf,au,jV f ks vs k];split<;>rfl
theorem mY{a b:Type}(f:a->b):∀(ks:mq) (vs:List a) (k:List Int),aR ks (vs.map f) k=(aR ks vs k).map f
 |[],_,_=>by simp [aR]|_::_,[],_=>by simp [aR]|c::ks,v::vs,k=>by simp! [bf,aR,mY f ks vs k];split<;>rfl
def pP{c d:Type}(f:c->d)(ks:mq)(vs:List c)(k:List Int)(p:c):bD ks (vs.map f) k (f p)=(bD ks vs k p).map f:=by
 unfold bD;split
 .rw [List.zipWith_map_right,List.map_zipWith]
  congr 1
  funext a b
  split<;>rfl
 .simp
theorem tZ{b:Type}(k:List Int)(p:b):∀(ks:mq) (vs:List b) (x:List Int),au ks (List.zipWith (λa v=>if a=k then p else v) ks vs) x=(au ks vs x).map λv=>if x=k then p else v
 |[],_,_=>by simp [au]|_::_,[],_=>by simp [au]|a::ks,v::vs,x=>by
  simp! [List.zipWith_cons_cons,au,tZ k p ks vs x];by_cases e:a=x
  .subst e;simp
  .simp [e]
theorem pQ{a:Type}(k:List Int)(p:a):∀(ks:mq) (vs:List a) (x:List Int),ks.length=vs.length->au (ks++[k]) (vs++[p]) x=(au ks vs x).or (if k=x then ia p else ie)
 |[],[],x,_=>by simp [au]|b::ks,v::vs,x,h=>by simp! [List.cons_append,au,pQ k p ks vs x (zx6 h)];split<;>simp
def bB{b:Type}{vs:List b}(h:ks.length=vs.length)(k:List Int)(p:b)(x:List Int):au (bH ks k) (bD ks vs k p) x=if k=x then ia p else au ks vs x:=by
 have a:=di (vs:=vs) k h
 unfold bH bD;cases hk:cW ks k with
 |true=>
  rw [hk] at a;simp! [if_true,tZ];by_cases e:k=x
  .subst e;let(v,c):=gG.1 a.symm;simp [c]
  .rw [if_neg e];have d:¬x=k:=λz=>e z.symm;cases au ks vs x<;>simp [d]
 |false=>
  rw [hk] at a;simp! [eM,if_false,pQ k p ks vs x h];by_cases e:k=x
  .subst e;have:au ks vs k=ie:=zx6 a.symm;simp [this]
  .simp [e]
def tX{a:Type}{vs:List a}(h:ks.length=vs.length)(k:List Int)(p:a):(bH ks k).length=(bD ks vs k p).length:=by unfold bH bD;split<;>simp [h]
def zZ(ks:mq)(k:List Int):(bH ks k).length<=ks.length+1:=by unfold bH;split<;>simp
def jz:cW ks k=ig↔k∈ks:=by simp [cW]
def k9(h:ks.Nodup)(k:List Int):(bH ks k).Nodup:=by
 unfold bH;split
 .exact h
 .rename_i hk;rw [jz] at hk;refine List.nodup_append.2 {h,by simp,?_};intro a d b c e;rw [e6] at c;exact hk (c▸e▸d)
theorem eP{d:Type}(k:List Int):∀(ks:mq) (vs:List d) (x:List Int),ks.length=vs.length->au (bU ks k) (aR ks vs k) x=if k=x then ie else au ks vs x
 |[],[],x,_=>by simp [bU,aR,au]|a::ks,v::vs,x,h=>by
  have b:=eP k ks vs x (zx6 h);simp! [bU] at b;by_cases e:a=k
  .subst e;simp! [bU,aR,au,hL,ne_eq,not_true_eq_false,decide_false,eM,if_false,if_true,b];split<;>simp_all
  .simp! [bU,aR,au,hL,ne_eq,e,not_false_eq_true,decide_true,if_true,if_false];by_cases c:a=x
   .subst c;have:¬k=a:=λz=>e z.symm;simp [au,this]
   .simp! [au,c,if_false];exact b
theorem pO{b:Type}(k:List Int):∀(ks:mq) (vs:List b),ks.length=vs.length->(bU ks k).length=(aR ks vs k).length
 |[],[],_=>rfl|c::ks,v::vs,h=>by
  have a:=pO k ks vs (zx6 h);simp! [bU] at a;by_cases e:c=k
  .simpa [bU,aR,e] using a
  .simpa [bU,aR,e] using a
theorem xR{c:Type}:∀{ks:mq} {vs:List c} {i:Nat} {k:List Int} {q:c},ks.Nodup->ks[i]?=ia k->vs[i]?=ia q->au ks vs k=ia q
 |[],_,_,_,_,_,h,_=>by simp at h|_::_,[],_,_,_,_,_,h=>by simp at h|d::ks,v::vs,0,k,q,_,a,b=>by simp! [List.getElem?_cons_zero,Option.some.injEq] at a b;simp [au,a,b]|d::ks,v::vs,i+1,k,q,nd,a,b=>by simp! [List.getElem?_cons_succ] at a b;have e:=List.nodup_cons.1 nd;have:¬d=k:=λz=>e.1 (z▸a9 a);simp! [au,this,if_false];exact xR e.2 a b
theorem tY{a:Type}:∀{ks:mq} {vs:List a} {k:List Int} {q:a},au ks vs k=ia q->q∈vs
 |[],_,_,_,h=>by simp [au] at h|_::_,[],_,_,h=>by simp [au] at h|b::ks,v::vs,k,q,h=>by
  simp! [au] at h;split at h
  .cases h;exact dV ..
  .exact c3 _ (tY h)
theorem km:∀(cs:List Int) (b:Nat) (m:Int) (pre:List Int),pre[b]?=ia m->(∀x∈pre,m<=x)->∃y,(pre++cs)[fy cs pre.length b m]?=ia y/\∀x∈pre++cs,y<=x
 |[],b,m,pre,d,e=>{m,by simpa [fy] using d,zx6 e}|c::cs,b,m,pre,d,e=>by
  have f:=(cP.1 d).1;simp! [fy];have hl:pre.length+1=(pre++[c]).length:=by simp
  split
  .rename_i g;have:=km cs pre.length c (pre++[c]) (by simp) (λx a=>by
    simp! [List.mem_append,e6] at a;rcases a with a|a
    .have:=e x a;omega
    .omega)
   rw [<-hl] at this;simpa using this
  .rename_i g;have:=km cs b m (pre++[c]) (by rw [gR f];exact d) (λx a=>by
    simp! [List.mem_append,e6] at a;rcases a with a|a
    .exact e x a
    .omega)
   rw [<-hl] at this;simpa using this
def xr{cs:List Int}(h:cs≠[]):∃i y,sO cs=ia i/\cs[i]?=ia y/\∀x∈cs,y<=x:=by
 cases cs with
 |nil=>exact absurd rfl h|cons c cs=>let(y,a,b):=km cs 0 c [c] rfl (by simp);exact{_,y,rfl,a,b}
def Gd(k:List Int):Prop:=kI (kP k)=ia k
noncomputable abbrev val(q:Int×PV):PV:=.tup [.int q.1,q.2]
theorem pI:∀V:List (Int×PV),i5 (V.map val)=ia (V.map (·.1))
 |[]=>rfl|q::V=>by simp! [bf,i5,pI V,Option.map_some]
def Aq{V:List (Int×PV)}(h:ks.length=V.length)(nd:ks.Nodup)(d:ks≠[]):∃k q,((sO (V.map (·.1))).bind λx=>ks[x]?)=ia k/\au ks V k=ia q/\∀x a,au ks V x=ia a->q.1<=a.1:=by
 have e:V.map (·.1)≠[]:=by intro z;rw [List.map_eq_nil_iff] at z;rw [z] at h;exact d (List.eq_nil_of_length_eq_zero h)
 let(i,y,f,b,g):=xr e;rw [d0,c4] at b;let(q,c,rfl):=b;have m:=(cP.1 c).1;have hk:ks[i]?=ia (ks[i]'(by omega)):=zzg _;refine{_,q,by rw [f];exact hk,xR nd hk c,λx a j=>g _ (hG.2 {a,tY j,rfl})}
inductive qC(E:mx)(s:List Int):List Int->Int->Prop
 |here:qC E s s 0
 |go {u v:List Int} {d e:Int}:qC E s u d->E u v e->qC E s v (d+e)
noncomputable abbrev Ks:=List (List Int)
noncomputable abbrev Vs:=List (Int×PV)
def Kn(a:Ks)(b:Vs)(d:Ks)(e:Vs)(k:List Int)(c:Int):Prop:=(∃q,au a b k=ia q/\q.1<=c)\/∃q,au d e k=ia q/\q.1<=c
structure su(E:mx)(O:List Int->Prop)(s:List Int)(kr:Ks)(Vr:Vs)(kw:Ks)(Vw:Vs)(X:mx)(n:Nat)(b:Int):Prop where
 lr:kr.length=Vr.length
 lw:kw.length=Vw.length
 nw:kw.Nodup
 Gu:∀k q q',au kr Vr k=ia q->au kw Vw k=ia q'->False
 wr:∀k q,au kr Vr k=ia q->O k/\qC E s k q.1
 ww:∀k q,au kw Vw k=ia q->O k/\qC E s k q.1
 mono:∀k q k' q',au kr Vr k=ia q->au kw Vw k'=ia q'->q.1<=q'.1
 iA:∀u q,au kr Vr u=ia q->∀v e,X u v e->Kn kr Vr kw Vw v (q.1+e)
 st:Kn kr Vr kw Vw s 0
 cw:kw.length<=n
 pre:∀k q,au kr Vr k=ia q\/au kw Vw k=ia q->(q.2=.aG/\k=s/\q.1=0)\/∃y q' e,q.2=kP y/\au kr Vr y=ia q'/\E y k e/\q.1=q'.1+e
 bd:∀k q,au kr Vr k=ia q\/au kw Vw k=ia q->0<=q.1/\q.1<=b
 nr:kr.Nodup
def Kn.put{d:Ks}{f:Vs}{a:Ks}{b:Vs}(h:a.length=b.length){v:List Int}(j:∀q,au a b v=ia q->c<=q.1){x:Int}(H:Kn d f a b k x):Kn d f (bH a v) (bD a b v (c,p)) k x:=by
 rcases H with H|⟨q,g,i⟩
 .exact .inl H
 .refine .inr ?_;rw [bB h];by_cases e:v=k
  .subst e;exact{(c,p),if_pos rfl,Int.le_trans (j q g) i}
  .exact{q,by rw [if_neg e];exact g,i}
def su.put{E:mx}{O:List Int->Prop}{s:List Int}{i:Ks}{j:Vs}{m:Ks}{p:Vs}{X:mx}{n:Nat}{b:Int}(M:su E O s i j m p X n b){v:List Int}{e:Int}{p0:PV}(o:au i j u=ia (d,p0))(hd:∀k q,au i j k=ia q->q.1<=d)(he:E u v e)(D:0<=e)(y:d+e<=b)(A:O v)
 (B:au i j v=ie) (w:∀q,au m p v=ia q->d+e<=q.1):su E O s i j (bH m v) (bD m p v (d+e,kP u)) (λa b c=>X a b c\/a=u/\b=v/\c=e) (n+1) b where
 lr:=M.lr
 lw:=tX M.lw _ _
 nw:=k9 M.nw _
 Gu:=λk q r f g=>by
  rw [bB M.lw] at g;split at g
  .rename_i z;subst z;rw [B] at f;cases f
  .exact M.Gu k q r f g
 wr:=M.wr
 ww:=λk q h=>by
  rw [bB M.lw] at h;split at h
  .rename_i z;subst z;cases h;exact{A,.go (M.wr u _ o).2 he}
  .exact M.ww k q h
 mono:=λk q C r f g=>by
  rw [bB M.lw] at g;split at g
  .cases g;have:=hd k q f;show q.1<=d+e;omega
  .exact M.mono k q C r f g
 iA:=λa q f b c t=>by
  rcases t with t|⟨rfl,rfl,rfl⟩
  .exact(M.iA a q f b c t).put M.lw w
  .rw [o] at f;cases f;exact .inr {(d+c,kP a),by rw [bB M.lw,if_pos rfl],Int.le_refl _}
 st:=M.st.put M.lw w
 cw:=by have:=zZ m v;have:=M.cw;omega
 pre:=λk q h=>by
  rcases h with h|h
  .exact M.pre k q (.inl h)
  .rw [bB M.lw] at h;split at h
   .rename_i z;subst z;cases h;exact .inr {u,(d,p0),e,rfl,o,he,rfl}
   .exact M.pre k q (.inr h)
 bd:=λk q h=>by
  rcases h with h|h
  .exact M.bd k q (.inl h)
  .rw [bB M.lw] at h;split at h
   .cases h;have:=(M.bd u _ (.inl o)).1;exact{by show 0<=d+e;omega,y}
   .exact M.bd k q (.inr h)
 nr:=M.nr
def su.keep{E:mx}{O:List Int->Prop}{s:List Int}{a:Ks}{c:Vs}{d:Ks}{f:Vs}{X Y:mx}{n m:Nat}{b g:Int}(M:su E O s a c d f X n b)(hm:n<=m)(i:b<=g)(h:∀u q,au a c u=ia q->∀v e,Y u v e->Kn a c d f v (q.1+e)):su E O s a c d f Y m g:=
 {M.lr,M.lw,M.nw,M.Gu,M.wr,M.ww,M.mono,h,M.st,eg M.cw hm,M.pre,λk q z=>{(M.bd k q z).1,Int.le_trans (M.bd k q z).2 i},M.nr}
def Kn.move{b:Ks}{g:Vs}{a:Ks}{d:Vs}(i:b.length=g.length)(j:a.length=d.length){h:Int×PV}(m:au a d k=ia h)(hk:au b g k=ie){x:List Int}(H:Kn b g a d x c):Kn (bH b k) (bD b g k h) (bU a k) (aR a d k) x c:=by
 unfold Kn;rw [bB i,eP k a d x j];by_cases e:k=x
 .subst e;rcases H with⟨q,f,_⟩|⟨q,f,o⟩
  .rw [hk] at f;cases f
  .rw [m] at f;cases f;exact .inl {h,if_pos rfl,o}
 .simp! [e,if_false];exact H
def su.move{E:mx}{O:List Int->Prop}{s:List Int}{f:Ks}{p:Vs}{d:Ks}{g:Vs}{n:Nat}{b:Int}(M:su E O s f p d g E n b){j:Int×PV}(r:au d g k=ia j)(hl:∀x o,au d g x=ia o->j.1<=o.1):
 su E O s (bH f k) (bD f p k j) (bU d k) (aR d g k) (λa b c=>E a b c/\a≠k) n b/\au (bH f k) (bD f p k j) k=ia j/\∀x q,au (bH f k) (bD f p k j) x=ia q->q.1<=j.1:=by
 have hk:au f p k=ie:=by
  cases h:au f p k with
  |none=>rfl|some q=>exact(M.Gu k q j h r).elim
 have t:∀x q,au (bH f k) (bD f p k j) x=ia q\/au (bU d k) (aR d g k) x=ia q->au f p x=ia q\/au d g x=ia q:=λx q h=>by
  rcases h with h|h
  .rw [bB M.lr] at h;split at h
   .rename_i z;subst z;cases h;exact .inr r
   .exact .inl h
  .rw [eP k d g x M.lw] at h;split at h
   .cases h
   .exact .inr h
 refine{?_,by rw [bB M.lr,if_pos rfl],λx q h=>?_}
 .refine{tX M.lr _ _,pO k d g M.lw,M.nw.filter _,λx q o i m=>?_,λx q h=>?_,λx q h=>?_,λx q w o i m=>?_,λu q i v e B=>?_,M.st.move M.lr M.lw r hk,eg (List.length_filter_le ..) M.cw,λx q h=>?_,λx q h=>M.bd x q (t x q h),k9 M.nr _}
  .rw [bB M.lr] at i;rw [eP k d g x M.lw] at m;split at m
   .cases m
   .rename_i z;rw [if_neg z] at i;exact M.Gu x q o i m
  .rw [bB M.lr] at h;split at h
   .rename_i z;subst z;cases h;exact M.ww k _ r
   .exact M.wr x q h
  .rw [eP k d g x M.lw] at h;split at h
   .cases h
   .exact M.ww x q h
  .rw [bB M.lr] at i;rw [eP k d g w M.lw] at m;split at m
   .cases m
   .split at i
    .cases i;exact hl w o m
    .exact M.mono x q w o i m
  .rw [bB M.lr,if_neg (λz=>B.2 z.symm)] at i;exact(M.iA u q i v e B.1).move M.lr M.lw r hk
  .rcases M.pre x q (t x q h) with z|⟨y,o,e,C,A,D⟩
   .exact .inl z
   .refine .inr {y,o,e,C,?_,D};rw [bB M.lr,if_neg (λz=>by rw [<-z,hk] at A;cases A)];exact A
 .rw [bB M.lr] at h;split at h
  .cases h;exact Int.le_refl _
  .exact M.mono x q k j h r
def vo{ks:Ks}{V:Vs}(g:Gd k){q:Int×PV}(h:au ks V k=ia q):aB (.bC ks (V.map val)) (kP k)=.ok (val q):=by show(Res.of (kI (kP k))).bind (λk=>Res.of (au ks (V.map val) k))=_;rw [show kI (kP k)=ia k from g];show Res.of (au ks (V.map val) k)=_;rw [jV,h];rfl
theorem vn{q:Int×PV}:aB (val q) (.int 0)=.ok (.int q.1):=rfl
def L6{ks:Ks}{vs:List PV}(g:Gd k):iT (kP k) (.bC ks vs)=.ok (.bl (!cW ks k)):=by show(Res.of (kI (kP k))).bind (λk=>Res.ok (PV.bl (!cW ks k)))=_;rw [show kI (kP k)=ia k from g];rfl
theorem Tx{ks:Ks}{vs:List PV}:d5 .len [.bC ks vs]=.ok (.int ks.length):=rfl
noncomputable abbrev tP(t:List Int×Int):PV:=.tup [kP t.1,.int t.2]
abbrev wS:Ss:=#v[.set 8 (.bin .add (.sub (.sub (.f7 2) (!5)) (¬0)) (!7)),.ite (.and (.cmp .rn (!6) (.f7 2)) (.or (.cmp .rn (!6) (.f7 3)) (.cmp .lt (!8) (.sub (.sub (.f7 3) (!6)) (¬0))))) #v[.put 3 (!6) (.tup #v[!8,!5])] .nil]
noncomputable abbrev vb(gn:Str)(ix:List Nat)(cp:List PV)(z:PV)(a:Ks)(b:Vs)(c:Ks)(d:Vs)(e f g h i:Ci.Slot):Sl:=[.val z,.fn gn ix cp,.own (.bC a (b.map val)),.own (.bC c (d.map val)),e,f,g,h,i]
def yG(a:Ks)(b:Vs)(v:List Int)(c:Int)(p:PV):bD a (b.map val) v (.tup [.int c,p])=(bD a b v (c,p)).map val:=pP val a b v (c,p)
def Qu(F:aJ){gn:Str}{ix:List Nat}{z:PV}{E:mx}{O:List Int->Prop}{s:List Int}{f:Ks}{g:Vs}{i:Ks}{m:Vs}{X:mx}{n:Nat}{b:Int}(M:su E O s f g i m X n b)(H:∀u,O u->Gd u)(U:n<=30000){v:List Int}{e:Int}{p0:PV}(o:au f g u=ia (d,p0))(hd:∀k q,au f g k=ia q->q.1<=d)(he:E u v e)(I:0<=e)(K:d+e<=b)(C:O v)(L V W Y:Ci.Slot):
 ∃N P Z MU MV,(((Tg.two 6 7).put (tP (v,e)) (vb gn ix cp z f g i m L (.val (kP u)) V W Y)).bind λav=>aX F wS av)=.ok (.nx (vb gn ix cp z f g N P L (.val (kP u)) Z MU MV))/\su E O s f g N P (λa b c=>X a b c\/a=u/\b=v/\c=e) (n+1) b:=by
 have D:=H v C;have Q:kI (kP v)=ia v:=D;have nd:∀{R:Ks} {vs:List PV},iT (kP v) (.bC R vs)=.ok (.bl (!cW R v)):=L6 D;have t:=vo (H u (M.wr u _ o).1) o;have l:i.length<cY:=el (eg M.cw U) (by decide);have w:=di (vs:=g) v M.lr;have y:=di (vs:=m) v M.lw
 cases p:au f g v with
 |some q=>
  rw [p] at w;have r:cW f v=ig:=w;refine{i,m,.val (kP v),.val (.int e),.val (.int (d+e)),by simp! only [wS,vb,t,vn,nd,r],M.keep (Nat.le_succ n) (Int.le_refl _) ?_}
  rintro a A j b c (G|⟨rfl,rfl,rfl⟩)
  .exact M.iA a A j b c G
  .rw [o] at j;cases j;refine .inl {q,p,?_};have:=hd _ q p;show q.1<=d+c;omega
 |none=>
  rw [p] at w;have r:cW f v=iv:=w
  cases hw:au i m v with
  |none=>rw [hw] at y;have B:cW i v=iv:=y;refine{_,_,.val (kP v),.val (.int e),.val (.int (d+e)),?_,M.put o hd he I K C p (λq h=>by rw [hw] at h;cases h)};simp! only [wS,vb,t,vn,nd,r,B,Q,l,yG]
  |some q=>
   rw [hw] at y;have B:cW i v=ig:=y;have S:=vo D hw;by_cases T:d+e<q.1
   .refine{_,_,.val (kP v),.val (.int e),.val (.int (d+e)),?_,M.put o hd he I K C p (λA h=>by rw [hw] at h;cases h;omega)};simp! only [wS,vb,t,S,vn,nd,r,B,T,decide_true,Q,l,yG]
   .refine{i,m,.val (kP v),.val (.int e),.val (.int (d+e)),by simp! only [wS,vb,t,S,vn,nd,r,B,T,decide_false],M.keep (Nat.le_succ n) (Int.le_refl _) ?_}
    rintro a A j b c (G|⟨rfl,rfl,rfl⟩)
    .exact M.iA a A j b c G
    .rw [o] at j;cases j;exact .inr {q,hw,by show q.1<=d+c;omega}
theorem JO(F:aJ){gn:Str}{ix:List Nat}{cp:List PV}{z:PV}{E:mx}{O:List Int->Prop}{s:List Int}{b:Int}(H:∀u,O u->Gd u)(w:∀u v e,E u v e->0<=e/\e<=30/\O v){g:Ks}{h:Vs}{p0:PV}(I:au g h u=ia (d,p0))(hd:∀k q,au g h k=ia q->q.1<=d)(Q:d+30<=b)(y:Ci.Slot):
 ∀(T:List (List Int×Int)) (j:Ks) (m:Vs) (X:mx) (n:Nat) (o p r:Ci.Slot),(∀t∈T,E u t.1 t.2)->su E O s g h j m X n b->n+T.length<=30000->∃K L R S U,forL (λx env=>((Tg.two 6 7).put x env).bind λV=>aX F wS V) (T.map tP) (vb gn ix cp z g h j m y (.val (kP u)) o p r)=.ok (.nx (vb gn ix cp z g h K L y (.val (kP u)) R S U))/\su E O s g h K L (λa b c=>X a b c\/a=u/\(b,c)∈T) (n+T.length) b
 |[],j,m,X,n,o,p,r,_,M,_=>{j,m,o,p,r,rfl,M.keep (bc _) (Int.le_refl _) (λa q B b c f=>M.iA a q B b c (f.resolve_right λz=>by cases z.2))}
 |t::T,j,m,X,n,o,p,r,N,M,W=>by
  have A:=N t (dV ..);rw [c6] at W;let(LR,C,Y,Z,a8,e1,M1):=Qu F (gn:=gn) (ix:=ix) (cp:=cp) (z:=z) M H (by omega) I hd A (w _ _ _ A).1 (by have:=(w _ _ _ A).2.1;omega) (w _ _ _ A).2.2 y o p r;let(D,G,b6,b7,b8,e2,M2):=JO F H w I hd Q y T LR C _ (n+1) Y Z a8 (λx f=>N x (c3 _ f)) M1 (by omega);refine{D,G,b6,b7,b8,?_,M2.keep (by rw [c6];omega) (Int.le_refl _) λa q B b c f=>M2.iA a q B b c ?_}
  .rw [bf,forL,e1,vB];exact e2
  .rcases f with f|⟨P,i⟩
   .exact .inl (.inl f)
   .rcases fP.1 i with i|i
    .exact .inl (.inr {P,by rw [<-i],by rw [<-i]})
    .exact .inr ⟨P,i⟩
abbrev EX(U a:Ks):Nat:=(U.filter λx=>!cW a x).length
def Hr{U a:Ks}(hk:k∈U)(b:cW a k=iv):EX U (bH a k)<EX U a:=by
 have c:∀x,cW (bH a k) x=(cW a x||decide (x=k)):=by intro x;rw [Bool.eq_iff_iff,gU,jz,jz,zzN];unfold bH;rw [b];simp
 unfold EX;simp! [c]
 induction U with
 |nil=>cases hk
 |cons y U d=>
  have mono:(U.filter λx=>!(cW a x||decide (x=k))).length<=(U.filter λx=>!cW a x).length:=by rw [<-List.countP_eq_length_filter,<-List.countP_eq_length_filter];refine List.countP_mono_left λx Z h=>?_;simp! [Bool.not_or,zza] at h;exact h.1
  rw [hL,hL];by_cases e:y=k
  .subst e;simp! [b,decide_true,Bool.or_true,Bool.not_true,eM,if_false,Bool.not_false,if_true,c6];omega
  .have:=d ((fP.1 hk).resolve_left λz=>e z.symm);simp! [e,decide_false,Bool.or_false];cases cW a y<;>simp! [Bool.not_true,Bool.not_false,eM,if_true,if_false,c6]<;>omega
abbrev wC:E:=.cmp .gt (.blt .len #v[.f7 3]) (¬0)
abbrev wB:Ss:=#v[.nu 5 3,.fc 2 3 5,.cV (.two 6 7) (.seq (.jo 1 #v[!5])) wS]
def IX(F:aJ){gn:Str}{ix:List Nat}{cp:List PV}{z:PV}{as:List Int->List PV}(R:ix.head?=ia 1)(S:∀u,fm (kP u::cp) ix.tail=.ok (as u)){E:mx}{O:List Int->Prop}{s:List Int}{U:Ks}(V:∀u,O u->u∈U)(NH:U.length<=400)(D:∀u,O u->Gd u)(W:∀u v e,E u v e->0<=e/\e<=30/\O v)(X:∀u,O u->∃T:List (List Int×Int),F gn (as u)=.ok (.lst (T.map tP))/\T.length<=60/\∀v e,(v,e)∈T↔E u v e)
 {f:Ks} {g:Vs} {p:Ks} {r:Vs} (M:su E O s f g p r E (1+60*f.length) (30*f.length)) (hc:f.length+EX U f<=U.length) (Y:p≠[]) (w Z G H I:Ci.Slot):
 ∃i K L N Uo MT MU MV,aX F wB (vb gn ix cp z f g p r w Z G H I)=.ok (.nx (vb gn ix cp z i K L N w Uo MT MU MV))/\su E O s i K L N E (1+60*i.length) (30*i.length)/\i.length+EX U i<=U.length/\EX U i<EX U f:=by
 let(k,q,h1,j,h3):=Aq M.lw M.nw Y;let(M1,h4,h5):=M.move j h3;let(y,_):=M.ww k q j
 have hk:cW f k=iv:=by
  rw [di (vs:=g) k M.lr];cases h:au f g k with
  |none=>rfl|some q'=>exact(M.Gu k q' q h j).elim
 have hl:(bH f k).length=f.length+1:=by unfold bH;rw [hk];simp
 have cy:=Hr (V k y) hk;let(T,e1,hT,o):=X k y;let(d,p0):=q;let(A,B,b6,b7,b8,P,M2):=JO F (gn:=gn) (ix:=ix) (cp:=cp) (z:=z) (b:=30*f.length+30) D W h4 h5 (by have:=(M.bd k (d,p0) (.inr j)).2;show d+30<=_;omega) w T _ _ _ _ G H I (λt ht=>(o t.1 t.2).1 ht) (M1.keep (bc _) (by omega) M1.iA) (by omega);refine{_,_,A,B,.val (kP k),b6,b7,b8,?_,M2.keep (by omega) (by omega) (λa q C b c Q=>M2.iA a q C b c ?_),by omega,cy}
 .have l:f.length<cY/\2≠3:={el (m:=400) (by omega) (by decide),by decide};have gm:au p (r.map val) k=ia (val (d,p0)):=by rw [jV,j];rfl
  have gp:bD f (g.map val) k (val (d,p0))=(bD f g k (d,p0)).map val:=pP val f g k (d,p0);have C:=S k;have gk:kI (kP k)=ia k:=D k y;simp! only [wS,vb] at P;simp! only [wB,wS,vb,pI,h1,gk,gm,l,and_self,mY,gp,R,C,e1,P,ne_eq,not_false_eq_true]
 .by_cases e:a=k
  .subst e;exact .inr {rfl,(o b c).2 Q}
  .exact .inl ⟨Q,e⟩
theorem yo(F:aJ){gn:Str}{ix:List Nat}{z:PV}{as:List Int->List PV}(B:ix.head?=ia 1)(C:∀u,fm (kP u::cp) ix.tail=.ok (as u)){E:mx}{O:List Int->Prop}{s:List Int}{U:Ks}(D:∀u,O u->u∈U)(G:U.length<=400)(H:∀u,O u->Gd u)(I:∀u v e,E u v e->0<=e/\e<=30/\O v)(K:∀u,O u->∃T:List (List Int×Int),F gn (as u)=.ok (.lst (T.map tP))/\T.length<=60/\∀v e,(v,e)∈T↔E u v e)(c:Ci.Slot):
 ∀(n:Nat) (a:Ks) (d:Vs) (b:Ks) (f:Vs) (g i j k:Ci.Slot),su E O s a d b f E (1+60*a.length) (30*a.length)->a.length+EX U a<=U.length->EX U a<n->∃p L N P Q R S,dD (aC F wC) (aX F wB) n (vb gn ix cp z a d b f c g i j k)=.ok (.nx [.val z,.fn gn ix cp,.own (.bC p (L.map val)),N,c,P,Q,R,S])/\p.length<=400/\∃m,su E O s p L [] [] E m 12000
 |0,_,_,_,_,_,_,_,_,_,_,h=>absurd h (Nat.not_lt_zero _)|n+1,a,d,b,f,g,i,j,k,M,V,hn=>by
  have o:aC F wC (vb gn ix cp z a d b f c g i j k)=.ok (.bl (decide ((0:Int)<b.length))):=by simp! only [wC,vb,Tx]
  by_cases hk:b=[]
  .subst hk;have W:f=[]:=List.eq_nil_of_length_eq_zero M.lw.symm;subst W;refine{a,d,.own (.bC [] []),g,i,j,k,?_,by omega,_,M.keep (bc _) (by omega) M.iA};have:decide ((0:Int)<(([]:Ks).length:Nat))=iv:=rfl;rw [this] at o;simp! [dD,o,vB,NB,eM,if_false,vb];rfl
  .let(q,r,LR,t,X,Y,Z,t8,e1,M1,w,cy):=IX F (gn:=gn) (z:=z) B C D G H I K M V hk c g i j k;let(y,A,u3,u5,u6,u7,u8,e2,h2):=yo F (gn:=gn) (z:=z) B C D G H I K c n q r LR t X Y Z t8 M1 w (by omega);refine{y,A,u3,u5,u6,u7,u8,?_,h2};have:decide ((0:Int)<(b.length:Nat))=ig:=by have:=List.length_pos_iff.2 hk;simp;omega
   rw [this] at o;simp! [dD,o,vB,NB,if_true,e1,e2]
structure vz(E:mx)(s:List Int)(kr:Ks)(Vr:Vs):Prop where
 len:kr.length=Vr.length
 le:kr.length<=400
 Nt:∀k q,au kr Vr k=ia q->Gd k/\qC E s k q.1
 iA:∀u q,au kr Vr u=ia q->∀v e,E u v e->∃q',au kr Vr v=ia q'/\q'.1<=q.1+e
 st:∃q,au kr Vr s=ia q/\q.1<=0
 pre:∀k q,au kr Vr k=ia q->(q.2=.aG/\k=s/\q.1=0)\/∃y q' e,q.2=kP y/\au kr Vr y=ia q'/\E y k e/\q.1=q'.1+e
 bd:∀k q,au kr Vr k=ia q->0<=q.1/\q.1<=12000
 nr:kr.Nodup
abbrev Jp(gn:Str)(ix:List Nat):Def:={["starts","steps","reached","waiting","start","spot","other","cost","together"],2,(.cons (.kC 2)
 (.cons (.kC 3)
 (.cons (.cV (.one 4) (.seq (.var 0))
  (.cons (.put 3 (.var 4) (.tup (.cons (.cst (.int 0)) (.cons (.cst .aG) .nil))))
  .nil))
 (.cons (.E4 (.cmp .gt (.blt .len (.cons (.f7 3) .nil)) (.cst (.int 0)))
  (.cons (.nu 5 3)
  (.cons (.fc 2 3 5)
  (.cons (.cV (.two 6 7) (.seq (.jo 1 (.cons (.var 5) .nil)))
   (.cons (.set 8 (.bin .add (.sub (.sub (.f7 2) (.var 5)) (.cst (.int 0))) (.var 7)))
   (.cons (.ite (.and (.cmp .rn (.var 6) (.f7 2)) (.or (.cmp .rn (.var 6) (.f7 3)) (.cmp .lt (.var 8) (.sub (.sub (.f7 3) (.var 6)) (.cst (.int 0))))))
    (.cons (.put 3 (.var 6) (.tup (.cons (.var 8) (.cons (.var 5) .nil))))
    .nil)
    .nil)
   .nil)))
  .nil))))
 (.cons (.bq 2)
 (.cons (.ret (.var 2))
 .nil)))))),ia (gn,ix)}
def qk(F:aJ)(gn:Str){ix:List Nat}{as:List Int->List PV}(o:ix.head?=ia 1)(r:∀u,fm (kP u::cp) ix.tail=.ok (as u)){E:mx}{O:List Int->Prop}{s:List Int}{U:Ks}(t:∀u,O u->u∈U)(j:U.length<=400)(f:∀u,O u->Gd u)(w:∀u v e,E u v e->0<=e/\e<=30/\O v)(y:∀u,O u->∃T:List (List Int×Int),F gn (as u)=.ok (.lst (T.map tP))/\T.length<=60/\∀v e,(v,e)∈T↔E u v e)(hs:O s):
 ∃b d,aq F (Jp gn ix) (.lst [kP s]::cp)=.ok (.bC b (d.map val))/\vz E s b d:=by
 have g:∀x q,au [s] [((0:Int),PV.aG)] x=ia q->s=x/\q=(0,.aG):=λx q h=>by
  simp! [au] at h;split at h
  .rename_i z;cases h;exact⟨z,rfl⟩
  .cases h
 have M:su E O s [] [] [s] [(0,.aG)] E (1+60*([]:Ks).length) (30*(([]:Ks).length:Nat)):={rfl,rfl,by simp,(λk q i h=>by simp [au] at h),(λk q h=>by simp [au] at h),(λk q h=>by let(rfl,rfl):=g k q h;exact{hs,.here}),(λk q I i h=>by simp [au] at h),(λu q h=>by simp [au] at h),.inr {(0,.aG),by simp [au],Int.le_refl _},by simp,(λk q h=>h.elim (λh=>by simp [au] at h) λh=>by let(z,rfl):=g k q h;exact .inl ⟨rfl,z.symm,rfl⟩),(λk q h=>h.elim (λh=>by simp [au] at h) λh=>by let(_,rfl):=g k q h;exact{Int.le_refl _,Int.le_refl _}),List.nodup_nil};have hl:EX U []<=U.length:=List.length_filter_le ..;let(b,d,K,L,N,P,Q,e,A,m,a):=yo F (gn:=gn) (z:=.lst [kP s]) o r t j f w y (.val (kP s)) WN [] [] [s] [(0,.aG)] .no .no .no .no M (zx6 hl) (el (eg hl j) (by decide));refine{b,d,?_,a.lr,A,λk q h=>{f k (a.wr k q h).1,(a.wr k q h).2},λu q h v c B=>?_,?_,?_,?_,?_}
 .have l:(0:Nat)<cY:=by decide
  have gs:kI (kP s)=ia s:=f s hs;have C:bH [] s=[s]:=rfl;have D:∀p:PV,bD ([]:Ks) [] s p=[p]:=λp=>rfl;have G:List.take 1 (PV.lst [kP s]::cp)=[.lst [kP s]]:=rfl;have H:List.drop 1 (PV.lst [kP s]::cp)=cp:=rfl;simp! only [wC,wB,wS,vb] at e;simp! only [Jp,G,H,forL,gs,l,C,D,e,Bj];exact if_pos rfl
 .rcases a.iA u q h v c B with h|⟨i,h,_⟩
  .exact h
  .simp [au] at h
 .rcases a.st with h|⟨i,h,_⟩
  .exact h
  .simp [au] at h
 .exact λk q h=>a.pre k q (.inl h)
 .exact λk q h=>a.bd k q (.inl h)
 .exact a.nr
def mH{a:Type}(xs:List a)(x:a):oF (xs++[x]) (-1)=ia x:=by
 unfold oF ye;have b:¬(0:Int)<= -1:=by decide
 have c: -((xs++[x]).length:Int)<= -1:=by simp! [dj,List.length_singleton];omega
 rw [if_neg b,if_pos c];have d:(-1+((xs++[x]).length:Int)).toNat=xs.length:=by simp! [dj,List.length_singleton];omega
 rw [d];simp
theorem M7{q:Int×PV}:aB (val q) (.int 1)=.ok q.2:=rfl
abbrev NT:E:=.cmp .Hj (.sub (.sub (!0) (.sub (.f7 2) (.neg (¬1)))) (¬1)) (.cst .aG)
abbrev RB:Ss:=#v[.app 2 (.sub (.sub (!0) (.sub (.f7 2) (.neg (¬1)))) (¬1))]
def Ho(xs:List PV)(x:PV):aB (.lst (xs++[x])) (.int (-1))=.ok x:=by simp! [aB,mH];rfl
def LJ(k:List Int):ij (kP k) .aG=.ok (.bl ig):=by unfold kP;split<;>rfl
inductive sJ(E:mx)(s:List Int):List Int->Ks->Int->Prop
 |here:sJ E s s [s] 0
 |go {u v:List Int} {l:Ks} {d e:Int}:sJ E s u l d->E u v e->sJ E s v (v::l) (d+e)
theorem y7(F:aJ){E:mx}{s:List Int}{a:Ks}{b:Vs}(R:vz E s a b){mu:List Int->Nat}(hm:∀y k e q c,E y k e->au a b k=ia q->au a b y=ia c->q.1=c.1+e->mu y<mu k)(z:PV):∀(n:Nat) (xs:List PV) (y:List Int) (q:Int×PV),au a b y=ia q->mu y<n->xs.length+mu y<=20000->∃l,dD (aC F NT) (aX F RB) n [.val (.bC a (b.map val)),.val z,.own (.lst (xs++[kP y]))]=.ok (.nx [.val (.bC a (b.map val)),.val z,.own (.lst (xs++l.map kP))])/\sJ E s y l q.1
 |0,xs,y,q,h,o,_=>absurd o (Nat.not_lt_zero _)|n+1,xs,y,q,h,o,hl=>by
  have f:=Ho xs (kP y);have g:=vo (R.Nt y q h).1 h;have l:(xs++[kP y]).length<cY:=el (m:=30000) (by rw [dj,List.length_singleton];omega) (by decide)
  rcases R.pre y q h with⟨p,rfl,w⟩|⟨d,c,e,p,r,he,u⟩
  .refine{[y],?_,by rw [w];exact .here};have i:ij .aG .aG=.ok (.bl iv):=rfl;have j:aC F NT [.val (.bC a (b.map val)),.val z,.own (.lst (xs++[kP y]))]=.ok (.bl iv):=by simp! only [NT,f,g,M7,p,i]
   simp! [dD,j,vB,NB,eM,if_false];rfl
  .have i:ij (kP d) .aG=.ok (.bl ig):=LJ d;have j:aC F NT [.val (.bC a (b.map val)),.val z,.own (.lst (xs++[kP y]))]=.ok (.bl ig):=by simp! only [NT,f,g,M7,p,i]
   have A:aX F RB [.val (.bC a (b.map val)),.val z,.own (.lst (xs++[kP y]))]=.ok (.nx [.val (.bC a (b.map val)),.val z,.own (.lst (xs++[kP y]++[kP d]))]):=by simp! only [RB,f,g,M7,p,l]
   have D:=hm _ _ _ _ _ he h r u;let(B,C,t):=y7 F R hm z n (xs++[kP y]) d c r (by omega) (by rw [dj,List.length_singleton];omega);refine{y::B,?_,by rw [u];exact .go t he};simp! [dD,j,vB,NB,if_true,A,C];simp
def Ba(F:aJ){E:mx}{s:List Int}{a:Ks}{b:Vs}(R:vz E s a b){mu:List Int->Nat}(hm:∀y k e q c,E y k e->au a b k=ia q->au a b y=ia c->q.1=c.1+e->mu y<mu k)(hk:mu k<=20000){q:Int×PV}(d:au a b k=ia q):∃l:Ks,aq F d7 [.bC a (b.map val),kP k]=.ok (.lst (l.map kP))/\sJ E s k l q.1:=by let(l,e,f):=y7 F R hm (kP k) WN [] k q d (el hk (by decide)) (by simp;omega);refine{l,?_,f};simp! only [NT,RB,List.nil_append] at e;simp! only [d7,e,Bj]
def Jg(rows:List Str)(u:List Int):Prop:=∃r c,u=[r,c]/\cg rows r c=ig
abbrev QN:Ks:=(List.range 6).flatMap λ(r:Nat)=>(List.range 6).map λ(c:Nat)=>[(r:Int),(c:Int)]
def za:QN.length=36:=by decide
def UN{w:Nat}(L:Fl rows w)(h:Jg rows u):u∈QN:=by let(r,c,rfl,h):=h;let(a,b,d,e):=DG L h;refine List.mem_flatMap.2 {r.toNat,List.mem_range.2 (by omega),hG.2 {c.toNat,List.mem_range.2 (by omega),?_}};rw [Int.toNat_of_nonneg a,Int.toNat_of_nonneg d]
def ff{f e:Int}:bu rows sl cl pr r c d f=ia e↔¬oN r c d f/\(r≠d/\c≠f->sl=ig/\cg rows r f=ig/\cg rows d c=ig)/\d8 rows d f-d8 rows r c<=cl/\d8 rows r c-d8 rows d f<=cl/\e=(if r≠d/\c≠f then 3 else 2)+pr*(if d8 rows d f-d8 rows r c>0 then d8 rows d f-d8 rows r c else 0):=by
 unfold bu;by_cases h:oN r c d f
 .rw [if_pos (show(r=d/\c=f)\/1<r-d\/1<d-r\/1<c-f\/1<f-c from h)];exact{(λz=>by cases z),λz=>absurd h z.1}
 .have j:¬((r=d/\c=f)\/1<r-d\/1<d-r\/1<c-f\/1<f-c):=h;rw [if_neg j];by_cases g:(r≠d/\c≠f)/\¬(sl=ig/\cg rows r f=ig/\cg rows d c=ig)
  .rw [if_pos g];exact{(λz=>by cases z),λz=>absurd (z.2.1 g.1) g.2}
  .rw [if_neg g];have k:r≠d/\c≠f->sl=ig/\cg rows r f=ig/\cg rows d c=ig:=λa=>Classical.byContradiction λb=>g ⟨a,b⟩;by_cases i:cl<d8 rows d f-d8 rows r c\/cl<d8 rows r c-d8 rows d f
   .rw [if_pos i];exact{(λz=>by cases z),λz=>by omega}
   .rw [if_neg i];refine{λz=>{h,k,by omega,by omega,by cases z;rfl},λz=>by rw [z.2.2.2.2]}
def B9{v:List Int}{e:Int}(h:E1 rows sl cl pr u v e):∃g,E1 rows sl cl pr v u g:=by
 let(r,c,i,j,k,m,o,p,f):=h;rw [ff] at f;refine{_,i,j,r,c,m,k,p,o,ff.2 {?_,λz=>?_,f.2.2.2.1,f.2.2.1,rfl}}
 .have:=f.1;unfold oN at this⊢;omega
 .let(a,b,d):=f.2.1 {λx=>z.1 x.symm,λx=>z.2 x.symm};exact⟨a,d,b⟩
def pL{w:Nat}(L:Fl rows w)(V:Wk cl pr){v:List Int}{e:Int}(h:E1 rows sl cl pr u v e):0<e/\e<=30/\Jg rows v:=by
 let(r,c,a,b,p,k,o,g,i):=h;rw [ff] at i;let(_,_,_,_,_,q,s):=v5 L o;let(_,_,_,_,_,m1,m2):=v5 L g;have p0:=V.p0;have p4:=V.p4;have j:=i.2.2.2.2;generalize hm:(if d8 rows a b-d8 rows r c>0 then d8 rows a b-d8 rows r c else 0)=m at j;have d:0<=m/\m<=9:=by rw [<-hm];split<;>omega
 generalize hf:(if r≠a/\c≠b then(3:Int) else 2)=f at j;have t:2<=f/\f<=3:=by rw [<-hf];split<;>omega
 have y:=Int.mul_nonneg p0 d.1;have z:pr*m<=3*9:=Int.mul_le_mul (by omega) d.2 d.1 (by omega);exact{by omega,by omega,a,b,k,g}
def Et(rows:List Str)(sl:Bool)(cl pr:Int)(u v:List Int)(e:Int):Prop:=E1 rows sl cl pr v u e
def sI(f:List PV->Res PV):Prop:=∀a w,Fl a w->∀d cl b,Wk cl b->∀r c,cg a r c=ig->∃T:List (List Int×Int),f [fl a,wk d cl b,cb [r,c]]=.ok (.lst (T.map tK))/\T.length<=9/\∀v e,(v,e)∈T↔Et a d cl b [r,c] v e
def lR(F:aJ):Prop:=sI (F (zu 26))
def Jh(f:List PV->Res PV):Prop:=∀a w,Fl a w->∀d cl b,Wk cl b->∀r c,cg a r c=ig->∃e g,f [.lst [sp r c],wk d cl b,fl a]=.ok (.bC e (g.map val))/\vz (Et a d cl b) [r,c] e g
def JV(F:aJ):Prop:=Jh (F (zu 48))
def wZ(F:aJ)(hs:qA F)(y:mD F):sI (aq F cL):=by
 intro d w L i cl j V r c h;let(T,A,hl,u):=hs d w L i cl j V r c h;have k:∀t∈T,∃e,Et d i cl j [r,c] t.1 e/\F (zu 12) [fl d,wk i cl j,cb t.1,cb [r,c]]=.ok (.int e):=λt m=>by let(o,f):=B9 ((u t.1 t.2).1 m);refine{o,f,?_};let(a,b,B,C,D,E,G,H,I):=f;cases E;have:=y d w L i cl j V a b r c G H;rw [I] at this;rw [D];exact this
 let q:List Int->Int:=λv=>match v with
  |[a,b]=>(bu d i cl j a b r c).getD 0|_=>0
 have s:∀v e,Et d i cl j [r,c] v e->q v=e:=by
  rintro v e ⟨a,b,B,C,rfl,K,_,_,g⟩
  cases K;show(bu d i cl j a b r c).getD 0=e;rw [g];rfl
 refine{T.map λt=>(t.1,q t.1),?_,zx6 hl,λv e=>?_}
 .have l:T.length<cY:=el hl (by decide);have M:∀t:List Int×Int,aB (tK t) (.int 0)=.ok (cb t.1):=λt=>rfl;simp! only [cL,A,zzl,l];rw [cA (p:=tK) (g:=λt=>tK (t.1,q t.1)) (λt m=>by let(e,f,N):=k t m;simp! only [M,N,s _ _ f])];simp! only [List.map_map];rfl
 .rw [hG];constructor
  .rintro ⟨t,m,z⟩
   cases z;let(e,f,_):=k t m;rw [s _ _ f];exact f
  .intro f;let(o,O):=B9 f;exact{(v,o),(u v o).2 O,by rw [s _ _ f]}
theorem UH{T:List (List Int×Int)}(h:∀t∈T,Et rows sl cl pr u t.1 t.2):T.map tK=T.map tP:=List.map_congr_left λt a=>by let(_,_,_,_,e,_):=h t a;show PV.tup [cb t.1,_]=PV.tup [kP t.1,_];rw [e];rfl
theorem IK(F:aJ)(hs:lR F):Jh (aq F bt):=λd w L g cl i V r c h=>
 qk F (zu 26) (ix:=[1,2,1,0]) (cp:=[wk g cl i,fl d]) (as:=λu=>[fl d,wk g cl i,kP u]) rfl (λZ=>rfl) (E:=Et d g cl i) (O:=Jg d) (s:=[r,c]) (U:=QN) (λu f=>UN L f) (eg (Nat.le_of_eq za) (by decide)) (λu f=>by let(_,_,rfl,_):=f;rfl) (λu v e j=>{Int.le_of_lt (pL L V j).1,(pL L V j).2.1,by let(a,b,_,_,m,_,o,_):=j;exact⟨a,b,m,o⟩})
  (λu f=>by let(a,b,rfl,p):=f;let(T,e,hl,k):=hs d w L g cl i V a b p;exact{T,e.trans (congrArg (λx=>Res.ok (PV.lst x)) (UH λt q=>(k t.1 t.2).1 q)),by omega,k}) ⟨r,c,rfl,h⟩
def vd(F:aJ)(d:my F)(hs:JV F){w:Nat}(L:Fl rows w)(V:Wk cl pr)(h:cg rows r c=ig):∃a b,aq F cq [fl rows,wk sl cl pr,.lst [sp r c]]=.ok (.bC a (b.map val))/\vz (Et rows sl cl pr) [r,c] a b:=by let(a,b,e,R):=hs rows w L sl cl pr V r c h;exact{a,b,by simp! only [cq,forL,d rows L.yM r c h,kq,e],R}
def kT{E:mx}{s:List Int}{a:Ks}{b:Vs}(R:vz E s a b)(h:qC E s k c):∃q,au a b k=ia q/\q.1<=c:=by
 induction h with
 |here=>exact R.st|go _ he d=>let(q,e,i):=d;let(f,g,j):=R.iA _ q e _ _ he;exact{f,g,by omega}
abbrev dl:List Int->List Int->List Int
 |[r,c],[a,b]=>[a-r,b-c]|_,_=>[]
abbrev tn(d d':List Int):Int:=if d=[]\/d=d' then 0 else 1
inductive Wt(E:mx)(g:List Int):List Int->Int->List Int->Int->Prop
 |here:Wt E g g 0 [] 0
 |go {u v:List Int} {e c n:Int} {d:List Int}:E u v e->Wt E g v c d n->Wt E g u (c+e) (dl u v) (n+tn d (dl u v))
section
variable{E:mx}{g:List Int}{n:Int}{d:List Int}
def Wt.Nt(w:Wt E g u c d n):qC (λa b e=>E b a e) g u c:=by
 induction w with
 |here=>exact .here|go he _ f=>exact .go f he
def Nu(w:qC (λa b e=>E b a e) g u c):∃d n,Wt E g u c d n:=by
 induction w with
 |here=>exact{_,_,.here}|go _ he f=>let(d,n,w):=f;exact{_,_,.go he w}
end
abbrev ix:List Int->Int
 |[a,b]=>if a<0 then(if b<0 then 5 else if b=0 then 0 else 4) else if a=0 then(if b<0 then 2 else 3) else if b<0 then 7 else if b=0 then 1 else 6
 |_=> -1
def Nr(d:List Int):Prop:=∃a b,d=[a,b]/\ -1<=a/\a<=1/\ -1<=b/\b<=1/\¬(a=0/\b=0)
def DA{d:List Int}(h:Nr d):0<=ix d/\ix d<8:=by let(a,b,rfl,_):=h;simp! [ix];omega
def Ma{d d':List Int}(h:Nr d)(h':Nr d'):ix d=ix d'↔d=d':=by
 refine{λe=>?_,λe=>by rw [e]};let(a,b,rfl,g,i,j,k,m):=h;let(c,f,rfl,o,p,q,r,s):=h';simp! [ix] at e;have:a=c/\b=f:=by omega
 rw [this.1,this.2]
def KO{v:List Int}{e:Int}(h:E1 rows sl cl pr u v e):Nr (dl u v):=by let(r,c,a,b,rfl,rfl,_,_,h):=h;have:=(ff.1 h).1;unfold oN at this;exact{a-r,b-c,rfl,by omega,by omega,by omega,by omega,by omega}
def Qo{d d':List Int}(h:d=[]\/Nr d)(h':Nr d'):tn d d'=if ix d= -1\/ix d=ix d' then 0 else 1:=by
 rcases h with rfl|h
 .rw [if_pos (.inl rfl)];exact if_pos (.inl rfl)
 .have c:=(DA h).1;have a:d≠[]:=by let(_,_,rfl,_):=h;exact λz=>by cases z
  have b:¬ix d= -1:=by omega
  unfold tn;simp! [a,b,false_or,Ma h h']
def Eh(E:mx)(D:List Int->Option Int)(u v:List Int)(e:Int):Prop:=∃r c b f d x a,u=[r,c,d]/\v=[b,f,ix (dl [b,f] [r,c])]/\E [b,f] [r,c] x/\D [r,c]=ia a/\D [b,f]=ia (x+a)/\e=if d= -1\/d=ix (dl [b,f] [r,c]) then 0 else 1
noncomputable abbrev cR(a:Ks)(b:Vs)(k:List Int):Option Int:=(au a b k).map (·.1)
section
variable{E:mx}{gr gc:Int}{kr:Ks}{Vr:Vs}
def dv{q:Int×PV}(h:au kr Vr k=ia q):cR kr Vr k=ia q.1:=by unfold cR;rw [h];rfl
def Jc(R:vz (λa b e=>E b a e) [gr,gc] kr Vr)(o:∀u v e,E u v e->(∃r c f p,u=[r,c]/\v=[f,p])/\Nr (dl u v)){a n:Int}{d:List Int}(w:Wt E [gr,gc] u a d n):cR kr Vr u=ia a->(∃r c,u=[r,c]/\(d=[]\/Nr d)/\qC (Eh E (cR kr Vr)) [gr,gc, -1] [r,c,ix d] n):=by
 induction w with
 |here=>exact λZ=>{gr,gc,rfl,.inl rfl,.here}|@go u v e c n d he w s=>
  intro g;let((r,k,f,h,rfl,rfl),nr):=o _ _ _ he;let(q,i,B):=kT R w.Nt;let(t,j,y):=R.iA _ q i _ _ he;rw [dv j] at g;have z:t.1=c+e:=zzq g;have m:cR kr Vr [f,h]=ia c:=by rw [dv i,show q.1=c by omega]
  let(C,D,A,hd,w1):=s m;cases A;refine{r,k,rfl,.inr nr,?_};rw [Qo hd nr];exact .go w1 {f,h,r,k,ix d,e,c,rfl,rfl,he,m,by rw [dv j,z,Int.add_comm],rfl}
end
def KH(F:aJ)(r c u d:Int)(h:¬(r=u/\c=d)):aq F aj [sp r c,sp u d]=.ok (dP (ix [u-r,d-c])):=by
 have a:(u<r/\ix [u-r,d-c]=if d<c then 5 else if c=d then 0 else 4)\/(u=r/\ix [u-r,d-c]=if d<c then 2 else 3)\/(r<u/\ix [u-r,d-c]=if d<c then 7 else if c=d then 1 else 6):=by simp! [ix];omega
 have b:d<c\/d=c\/c<d:=by omega
 have k:∀x y:Str,x.length+y.length<=cY->binOp .add (.str x) (.str y)=.ok (.str (x++y)):=λx y h=>if_pos h;have z:∀{i j:Int},i<j->(i==j)=iv/\(j==i)=iv/\decide (i<j)=ig/\decide (j<i)=iv/\¬j<i/\¬j=i/\¬i=j:=λh=>{by simp;omega,by simp;omega,by simp;omega,by simp;omega,by omega,by omega,by omega};have G:∀i:Int,decide (i<i)=iv:=λi=>by simp
 rcases a with⟨a,e⟩|⟨rfl,e⟩|⟨a,e⟩<;>rcases b with b|rfl|b
 .let(f,g,m,o,B,C,D):=z a;let(p,q,s,t,w,E,A):=z b;rw [e,if_pos b];dsimp! only [aj,f,g,m,o,p,q,s,t];rfl
 .let(f,g,m,o,B,C,D):=z a;rw [e,if_neg (Int.lt_irrefl _),if_pos rfl];dsimp! only [aj,f,g,m,o,G];rfl
 .let(f,g,m,o,B,C,D):=z a;let(p,q,s,t,w,E,A):=z b;rw [e,if_neg w,if_neg A];dsimp! only [aj,f,g,m,o,p,q,s,t];rfl
 .let(p,q,s,t,w,E,A):=z b;rw [e,if_pos b];dsimp! only [aj,G,p,q,s,t];rfl
 .exact absurd ⟨rfl,rfl⟩ h
 .let(p,q,s,t,w,E,A):=z b;rw [e,if_neg w];dsimp! only [aj,G,p,q,s,t];rfl
 .let(f,g,m,o,B,C,D):=z a;let(p,q,s,t,w,E,A):=z b;rw [e,if_pos b];dsimp! only [aj,f,g,m,o,p,q,s,t];rfl
 .let(f,g,m,o,B,C,D):=z a;rw [e,if_neg (Int.lt_irrefl _),if_pos rfl];dsimp! only [aj,f,g,m,o,G];rfl
 .let(f,g,m,o,B,C,D):=z a;let(p,q,s,t,w,E,A):=z b;rw [e,if_neg w,if_neg A];dsimp! only [aj,f,g,m,o,p,q,s,t];rfl
abbrev Rh:Ss:=#v[.ite (.cmp .eq (.sub (.sub (!2) (!5)) (¬0)) (.bin .add (!6) (.sub (.sub (!2) (!3)) (¬0)))) #v[.app 4 (!5)] .nil]
section
variable{w:Nat}{kr:Ks}{Vr:Vs}{G:List Int}
def OG{v:List Int}{e:Int}(h:Et rows sl cl pr u v e):Gd v/\kP v=cb v/\Jg rows v:=by let(r,c,_,_,rfl,_,h,_):=h;exact⟨rfl,rfl,r,c,rfl,h⟩
def zr(F:aJ)(hs:lR F)(L:Fl rows w)(V:Wk cl pr)(R:vz (Et rows sl cl pr) G kr Vr){a:Int}(H:cg rows r c=ig)(I:cR kr Vr [r,c]=ia a):
 ∃B:Ks,aq F bX [fl rows,wk sl cl pr,.bC kr (Vr.map val),sp r c]=.ok (.lst (B.map cb))/\B.length<=9/\∀v,v∈B↔∃x,Et rows sl cl pr [r,c] v x/\cR kr Vr v=ia (x+a):=by
 let(T,u,hl,d):=hs rows w L sl cl pr V r c H;have k:cb [r,c]=sp r c:=rfl;rw [k] at u;let(q,A,f):=c4.1 I;have C:aB (.bC kr (Vr.map val)) (sp r c)=.ok (val q):=vo (k:=[r,c]) rfl A
 let(Q,e):=fQ (body:=λx env=>((Tg.two 5 6).put x env).bind λK=>aX F Rh K) (g:=tK) (mk:=λb (s:Ci.Slot×Ci.Slot)=>[.val (fl rows),.val (wk sl cl pr),.val (.bC kr (Vr.map val)),.val (sp r c),.own (.lst b),s.1,s.2])
  (app:=λt:List Int×Int=>if cR kr Vr t.1=ia (t.2+a) then [cb t.1] else []) (m:=1) (M:=50) T [] (.no,.no) (λt Z=>by split<;>simp) (λt i b s hl=>by
   have l:b.length<cY:=el (m:=50) (by omega) (by decide);have D:=(d t.1 t.2).1 i;let(N,O,_):=OG D;let(j,E,_):=R.iA _ q A _ _ D;have o:=vo N E;rw [O] at o;refine{(.val (cb t.1),.val (.int t.2)),?_};rw [dv E,<-f];by_cases z:j.1=t.2+q.1
   .rw [if_pos (by rw [z])];have p:(j.1==t.2+q.1)=ig:=zzy.2 z;simp! only [Rh,C,o,vn,p,l]
   .rw [if_neg λy=>z (zzq y)];have p:(j.1==t.2+q.1)=iv:=zx6 z;simp! only [Rh,C,o,vn,p,hW]) (by show 0+1*_<=50;omega)
 simp! only [Rh] at e;refine{T.flatMap λt=>if cR kr Vr t.1=ia (t.2+a) then [t.1] else [],?_,?_,λv=>?_}
 .simp! only [bX,u,e,Bj,List.map_flatMap]
  congr 3
  funext t
  split<;>rfl
 .have:∀T:List (List Int×Int),(T.flatMap λt=>if cR kr Vr t.1=ia (t.2+a) then [t.1] else []).length<=T.length:=λT=>by
   induction T with
   |nil=>exact bc _|cons t T S=>
    rw [List.flatMap_cons,dj,c6];have:(if cR kr Vr t.1=ia (t.2+a) then [t.1] else []).length<=1:=by split<;>simp
    omega
  exact eg (this T) hl
 .rw [List.mem_flatMap];constructor
  .rintro ⟨t,i,h⟩
   split at h
   .rename_i z;cases e6.1 h;exact{t.2,(d t.1 t.2).1 i,z}
   .cases h
  .rintro ⟨x,P,h⟩
   exact{(v,x),(d v x).2 P,by rw [if_pos h];exact e6.2 rfl}
end
abbrev SO:Ss:=#v[.set 6 (.call (zu 7) #v[!5,.sub (!3) (¬0)]),.set 7 (.ite (.or (.cmp .is (.sub (!3) (¬1)) (.cst .aG)) (.cmp .eq (.sub (!3) (¬1)) (!6))) (¬0) (¬1)),.app 4 (.tup #v[.tup #v[!5,!6],!7])]
def NW(F:aJ):Prop:=∀r c a b,¬(r=a/\c=b)->F (zu 7) [sp r c,sp a b]=.ok (dP (ix [a-r,b-c]))
def B5(h:0<=d/\d<8):∃z,dP d=.str z/\∀d',0<=d'/\d'<8->iL (dP d) (dP d')=.ok (.bl (decide (d=d'))):=by
 have c:∀a b:Fin 8,(vv[a.1]'a.2==vv[b.1]'b.2)=decide (a=b):=by decide+kernel
 have s:∀a:Fin 8,dP (a.1:Int)=.str (vv[a.1]'a.2):=by intro a;unfold dP;rw [if_neg (by omega),if_neg (by omega),hU,zzg a.2]
 let(n,rfl):=hF h.1;have e:=s {n,by omega};refine{_,e,λd' f=>?_};let(m,rfl):=hF f.1;rw [e,s {m,by omega}];show Res.ok (PV.bl (_==_))=_;rw [c {n,by omega} {m,by omega}]
 congr 2
 rw [Bool.eq_iff_iff,zzN,zzN,Fin.mk.injEq];omega
abbrev Tm(d d':Int):Int:=if d= -1\/d=d' then 0 else 1
def Gz(h:d= -1\/0<=d/\d<8):Gd [r,c,d]:=by
 rcases h with rfl|h
 .rfl
 .have b:∀a:Fin 8,(if vv[a.1]'a.2∈vv then ia ((vv.idxOf (vv[a.1]'a.2):Nat):Int) else ie)=ia (a.1:Int):=by decide+kernel
  have s:∀a:Fin 8,dP (a.1:Int)=.str (vv[a.1]'a.2):=by intro a;unfold dP;rw [if_neg (by omega),if_neg (by omega),hU,zzg a.2]
  let(n,rfl):=hF h.1;show(dI (dP (n:Int))).map (λd=>[r,c,d])=_;rw [s {n,by omega}];show(if _ then _ else _:Option Int).map (λd=>[r,c,d])=_;rw [b {n,by omega}];rfl
section
variable{kr:Ks}{Vr:Vs}
def CB(F:aJ)(hd:NW F)(A:∀r c a,cg rows r c=ig->cR kr Vr [r,c]=ia a->∃B:Ks,F (zu 22) [fl rows,wk sl cl pr,.bC kr (Vr.map val),sp r c]=.ok (.lst (B.map cb))/\B.length<=9/\∀v,v∈B↔∃x,Et rows sl cl pr [r,c] v x/\cR kr Vr v=ia (x+a))
 {a:Int} (C:cg rows r c=ig) (o:cR kr Vr [r,c]=ia a) (j:d= -1\/0<=d/\d<8):
 ∃T:List (List Int×Int),aq F bw [fl rows,wk sl cl pr,.bC kr (Vr.map val),kP [r,c,d]]=.ok (.lst (T.map tP))/\T.length<=60/\∀v e,(v,e)∈T↔Eh (E1 rows sl cl pr) (cR kr Vr) [r,c,d] v e:=by
 let(B,D,hl,hB):=A r c a C o;have w:aB (kP [r,c,d]) (.int 0)=.ok (sp r c):=rfl;have E:aB (kP [r,c,d]) (.int 1)=.ok (dP d):=rfl
 have G:nD (dP d) .aG=.ok (.bl (decide (d= -1))):=by
  rcases j with rfl|j
  .rfl
  .let(z,p,_):=B5 j;rw [p,zz0 (by omega)];rfl
 let hk:List Int->List Int×Int:=λv=>(v++[ix (dl v [r,c])],Tm d (ix (dl v [r,c])))
 let(W,e):=fQ (body:=λx env=>((Tg.one 5).put x env).bind λH=>aX F SO H) (g:=cb) (mk:=λh (s:Ci.Slot×Ci.Slot×Ci.Slot)=>[.val (fl rows),.val (wk sl cl pr),.val (.bC kr (Vr.map val)),.val (kP [r,c,d]),.own (.lst h),s.1,s.2.1,s.2.2])
  (app:=λv=>[tP (hk v)]) (m:=1) (M:=50) B [] (.no,.no,.no) (λt _=>bc _) (λv I h s hl=>by
   have l:h.length<cY:=el (m:=50) (by omega) (by decide);let(x,i,_):=(hB v).1 I;have nr:=KO i;let(b,f,_,_,rfl,z,_,_,K):=i;cases z;have ne:¬(b=r/\f=c):=by have:=(ff.1 K).1;unfold oN at this;omega
   have L:=hd b f r c ne;have N:0<=ix [r-b,c-f]/\ix [r-b,c-f]<8:=DA nr;have O:cb [b,f]=sp b f:=rfl
   refine{(.val (cb [b,f]),.val (dP (ix [r-b,c-f])),.val (.int (Tm d (ix [r-b,c-f])))),?_};have P:(if decide (d= -1) then Res.ok (PV.bl ig) else iL (dP d) (dP (ix [r-b,c-f])))=.ok (.bl (decide (d= -1\/d=ix [r-b,c-f]))):=by
    rcases j with rfl|j
    .rfl
    .rw [zz0 (show¬d= -1 by omega),if_neg (by decide)];let(_,_,p):=B5 j;rw [p _ N]
     congr 2
     simp! [show¬d= -1 by omega,false_or]
   have Q:(if decide (d= -1\/d=ix [r-b,c-f]) then Res.ok (PV.int 0) else Res.ok (PV.int 1))=.ok (.int (Tm d (ix [r-b,c-f]))):=by
    unfold Tm;by_cases y:d= -1\/d=ix [r-b,c-f]
    .rw [if_pos (zzh y),if_pos y]
    .rw [if_neg (by rw [zz0 y];exact zzf),if_neg y]
   simp! only [SO,w,E,O,L,G,P,Q,l];rfl) (by show 0+1*_<=50;omega)
 simp! only [SO] at e;refine{B.map hk,?_,by rw [zzl];omega,λv X=>?_}
 .simp! only [bw,w,D,e,Bj];rw [List.map_map];have fs:∀B:Ks,B.flatMap (λv=>[tP (hk v)])=B.map (tP∘hk):=λB=>by
   induction B with
   |nil=>rfl|cons v B R=>rw [List.flatMap_cons,R];rfl
  rw [fs]
 .rw [hG];constructor
  .rintro ⟨u,S,z⟩
   let(x,i,q):=(hB u).1 S;let(b,f,_,_,rfl,U,Y,Z,h3):=id i;cases U;cases z;exact⟨r,c,b,f,d,x,a,rfl,rfl,i,o,q,rfl⟩
  .rintro ⟨r1,c1,b,f,d1,x,a1,V,rfl,i,k,q,rfl⟩
   cases V;rw [o] at k;cases k;exact{[b,f],(hB _).2 ⟨x,i,q⟩,rfl}
end
def UP(F:aJ)(rows:List Str)(sl:Bool)(cl pr:Int)(b:Ks)(f:Vs):Prop:=∀r c a d,cg rows r c=ig->cR b f [r,c]=ia a->d= -1\/0<=d/\d<8->∃T:List (List Int×Int),F (zu 6) [fl rows,wk sl cl pr,.bC b (f.map val),kP [r,c,d]]=.ok (.lst (T.map tP))/\T.length<=60/\∀v e,(v,e)∈T↔Eh (E1 rows sl cl pr) (cR b f) [r,c,d] v e
def Oh(rows:List Str)(b:Ks)(e:Vs)(u:List Int):Prop:=∃r c d a,u=[r,c,d]/\cg rows r c=ig/\cR b e [r,c]=ia a/\(d= -1\/0<=d/\d<8)
abbrev U9:Ks:=QN.flatMap λu=>[u++[-1],u++[0],u++[1],u++[2],u++[3],u++[4],u++[5],u++[6],u++[7]]
section
variable{w:Nat}{kr:Ks}{Vr:Vs}{gr gc:Int}
def TY(L:Fl rows w)(h:Oh rows kr Vr u):u∈U9:=by
 let(r,c,d,a,rfl,b,_,hd):=h;refine List.mem_flatMap.2 {[r,c],UN L ⟨r,c,rfl,b⟩,?_};have:d= -1\/d=0\/d=1\/d=2\/d=3\/d=4\/d=5\/d=6\/d=7:=by omega
 rcases this with rfl|rfl|rfl|rfl|rfl|rfl|rfl|rfl|rfl<;>simp
def OF{v:List Int}{e:Int}(h:Eh (E1 rows sl cl pr) (cR kr Vr) u v e):0<=e/\e<=30/\Oh rows kr Vr v:=by let(r,c,f,g,d,x,a,rfl,rfl,b,o,i,rfl):=h;have j:=DA (KO b);let(_,_,_,_,k,p,m,_):=id b;cases k;refine{?_,?_,f,g,_,_,rfl,m,i,.inr j}<;>split<;>decide
theorem IJ(F:aJ)(L:Fl rows w)(i:UP F rows sl cl pr kr Vr)(f:cg rows gr gc=ig){a:Int}(g:cR kr Vr [gr,gc]=ia a):
 ∃kh Vh,aq F aE [.lst [kP [gr,gc, -1]],wk sl cl pr,.bC kr (Vr.map val),fl rows]=.ok (.bC kh (Vh.map val))/\vz (Eh (E1 rows sl cl pr) (cR kr Vr)) [gr,gc, -1] kh Vh:=
 qk F (zu 6) (ix:=[1,3,1,2,0]) (cp:=[wk sl cl pr,.bC kr (Vr.map val),fl rows]) (as:=λu=>[fl rows,wk sl cl pr,.bC kr (Vr.map val),kP u]) rfl (λZ=>rfl) (O:=Oh rows kr Vr) (U:=U9) (λu b=>TY L b) (by decide+kernel) (λu b=>by let(r,c,d,_,rfl,_,_,h):=b;exact Gz h) (λu v e j=>OF j)
  (λu b=>by let(r,c,d,a,rfl,f,g,h):=b;exact i r c a d f g h) {gr,gc, -1,a,rfl,f,g,.inl rfl}
theorem yi:∀{L:Ks},(∀k∈L,Gd k)->uD (L.map kP)=ia L
 |[],_=>rfl|k::L,h=>by rw [bf,uD,show kI (kP k)=ia k from h k (dV ..),Option.bind_some,yi λx a=>h x (c3 _ a)];rfl
abbrev NF(kh:Ks)(Vh:Vs)(k:List Int):Int:=(cR kh Vh k).getD 0
theorem B4{kh:Ks}{Vh:Vs}:∀{L:Ks},(∀k∈L,∃q,au kh Vh k=ia q)->Fo ig kh (Vh.map val) L=ia (L.map (NF kh Vh))
 |[],_=>rfl|k::L,h=>by
  let(q,a):=h k (dV ..);have e:NF kh Vh k=q.1:=by unfold NF;rw [dv a];rfl
  rw [Fo,jV,a,B4 λx b=>h x (c3 _ b),bf,e];rfl
def Dq{kh:Ks}{Vh:Vs}{L:Ks}(c:∀k∈L,Gd k)(d:∀k∈L,∃q,au kh Vh k=ia q)(e:L≠[]):∃k∈L,p9 ig (ia (.val (.bC kh (Vh.map val)))) (.lst (L.map kP))=.ok (kP k)/\∀a∈L,NF kh Vh k<=NF kh Vh a:=by let(i,y,f,b,g):=xr (cs:=L.map (NF kh Vh)) (zx6 e);rw [d0,c4] at b;let(k,hk,rfl):=b;refine{k,a9 hk,?_,λa h=>g _ (hG.2 ⟨a,h,rfl⟩)};unfold p9;dsimp only;rw [yi c,Option.bind_some,B4 d,Option.bind_some,f,Option.bind_some,hk]
theorem sX{a:Type}{p:a->PV}{t:a->Bool}{g:a->PV}:∀{xs:List a},(∀x∈xs,f (p x)=.ok (if t x then ia (g x) else ie))->aP f (xs.map p)=.ok ((xs.filter t).map g)
 |[],_=>rfl|x::xs,h=>by
  have b:=sX (xs:=xs) λy c=>h y (c3 _ c);have d:=h x (dV ..)
  rw [bf,aP,d,hL];cases e:t x with
  |true=>simp! [Res.well,Res.bind,b,if_true,oc,bf]|false=>simp! [Res.well,Res.bind,b,if_false,oc,eM]
def RQ(E:mx)(s g:List Int)(p:PV):Prop:=(p=.aG/\∀c,¬qC (λa b e=>E b a e) g s c)\/∃(D N:Int) (W:Ks),p=.tup [.int D,.int N,.lst (W.map cb)]/\sJ (λa b e=>E b a e) g s W D/\∀c,qC (λa b e=>E b a e) g s c->D<=c
def JW(f:List PV->Res PV):Prop:=∀rows w,Fl rows w->∀sl cl pr,Wk cl pr->∀r c a b,cg rows r c=ig->cg rows a b=ig->∃p,f [fl rows,wk sl cl pr,sp r c,sp a b]=.ok p/\RQ (E1 rows sl cl pr) [r,c] [a,b] p
def J0(F:aJ):Prop:=∀rows w,Fl rows w->∀sl cl pr,Wk cl pr->∀r c,cg rows r c=ig->∃kr Vr,F (zu 18) [fl rows,wk sl cl pr,.lst [sp r c]]=.ok (.bC kr (Vr.map val))/\vz (Et rows sl cl pr) [r,c] kr Vr
def BA(F:aJ):Prop:=∀rows w,Fl rows w->∀sl cl pr,Wk cl pr->∀kr Vr gr gc a,vz (Et rows sl cl pr) [gr,gc] kr Vr->cg rows gr gc=ig->cR kr Vr [gr,gc]=ia a->∃b c,F (zu 20) [.lst [kP [gr,gc, -1]],wk sl cl pr,.bC kr (Vr.map val),fl rows]=.ok (.bC b (c.map val))/\vz (Eh (E1 rows sl cl pr) (cR kr Vr)) [gr,gc, -1] b c
def BC(F:aJ):Prop:=∀{E:mx} {s:List Int} {kr:Ks} {Vr:Vs},vz E s kr Vr->∀{mu:List Int->Nat},(∀y k e q a,E y k e->au kr Vr k=ia q->au kr Vr y=ia a->q.1=a.1+e->mu y<mu k)->∀{k:List Int},mu k<=20000->∀{q:Int×PV},au kr Vr k=ia q->∃l:Ks,F "traced" [.bC kr (Vr.map val),kP k]=.ok (.lst (l.map kP))/\sJ E s k l q.1
def IW{D:List Int->Option Int}{E:mx}{f g:Int}(m:D [f,g]=ia 0){l:Ks}{n:Int}(o:sJ (Eh E D) [f,g, -1] k l n):∃a,D (k.take 2)=ia a/\sJ (λa b e=>E b a e) [f,g] (k.take 2) (l.map (·.take 2)) a:=by
 induction o with
 |here=>exact{0,m,.here}|go _ h p=>let(a,i,q):=p;let(r,c,t,u,d,x,y,rfl,rfl,h,j,s,_):=h;have i:D [r,c]=ia a:=i;rw [i] at j;cases j;refine{x+a,s,?_};rw [Int.add_comm];exact .go q h
def O2{D:List Int->Option Int}{E:mx}{s:List Int}(hs:∃a b x,s=[a,b,x])(w:∃n,qC (Eh E D) s k n):∃a b x,k=[a,b,x]:=by
 let(n,w):=w
 cases w with
 |here=>exact hs|go _ h=>let(_,_,c,d,_,_,_,_,rfl,_):=h;exact{_,_,_,rfl}
def eG{kh:Ks}{Vh:Vs}(h:kh.length=Vh.length):k∈kh↔∃q,au kh Vh k=ia q:=by rw [<-jz,di (vs:=Vh) k h,gG]
abbrev mu(kr:Ks)(Vr:Vs):List Int->Nat
 |[r,c,_]=>((cR kr Vr [r,c]).getD 0).toNat|_=>0
def B6(R:vz (Et rows sl cl pr) [gr,gc] kr Vr):cR kr Vr [gr,gc]=ia 0:=by let(q,a,h):=R.st;have:=(R.bd _ q a).1;rw [dv a,show q.1=0 by omega]
set_option tactic.hygienic true in
def M5(F:aJ)(hn:my F)(ht:J0 F)(hh:BA F)(hc:BC F):JW (aq F bT):=by
 intro rows w L sl cl pr V r c g f ho X;let(kr,Vr,Y,R):=ht rows w L sl cl pr V g f X;have Z:=hn rows L.yM r c ho;have I:=di (vs:=Vr) [r,c] R.len;have gd:Gd [r,c]:=rfl;have k:sp r c=kP [r,c]:=rfl;have nd:=L6 (vs:=Vr.map val) (ks:=kr) gd;rw [<-k] at nd;have K:vz (λa b e=>E1 rows sl cl pr b a e) [g,f] kr Vr:=R
 cases s:au kr Vr [r,c] with
 |none=>rw [s] at I;have O:cW kr [r,c]=iv:=I;refine{.aG,by simp! only [bT,Z,Y,nd,O],.inl {rfl,λf z=>?_}};let(q,o,_):=kT K z;rw [s] at o;cases o
 |some q=>
  rw [s] at I;have O:cW kr [r,c]=ig:=I;have ha:=dv s;have ee:∀u v e,E1 rows sl cl pr u v e->(∃r c g f,u=[r,c]/\v=[g,f])/\Nr (dl u v):=λu v e h=>{by let(a,b,A,B,o,P,_):=h;exact⟨a,b,A,B,o,P⟩,KO h};let(kh,Vh,e2,H):=hh rows w L sl cl pr V kr Vr g f 0 R X (B6 R);have k2:PV.tup [sp g f,.aG]=kP [g,f, -1]:=rfl;have k3:∀k∈kh,∃a b x,k=[a,b,x]:=λk hk=>by let(p,j):=(eG H.len).1 hk;exact O2 {_,_,_,rfl} {_,(H.Nt k p j).2}
  have X9:∀{n:Int} {d:List Int},Wt (E1 rows sl cl pr) [g,f] [r,c] q.1 d n->∃p,au kh Vh [r,c,ix d]=ia p/\p.1<=n:=λw=>by let(a,b,z,_,w2):=Jc K ee w ha;cases z;exact kT H w2
  have M:∀k,k∈kh.filter (λk=>decide (k.take 2=[r,c]))↔k∈kh/\∃x,k=[r,c,x]:=λk=>by
   rw [List.mem_filter,zzN];refine{λz=>{z.1,?_},λz=>{z.1,?_}}
   .let(a,b,x,rfl):=k3 k z.1;have:=z.2;simp! [List.take_succ_cons,List.take_zero,List.cons.injEq,and_true] at this;rw [this.1,this.2];exact⟨x,rfl⟩
   .let(x,rfl):=z.2;rfl
  have ne:kh.filter (λk=>decide (k.take 2=[r,c]))≠[]:=by let(d,n,w):=Nu (E:=E1 rows sl cl pr) (K.Nt _ q s).2;let(p,j,_):=X9 w;exact List.ne_nil_of_mem ((M _).2 {(eG H.len).2 ⟨p,j⟩,_,rfl})
  let(kk,hk,e3,hmin):=Dq (kh:=kh) (Vh:=Vh) (λk hk=>by let(p,j):=(eG H.len).1 ((M k).1 hk).1;exact(H.Nt k p j).1) (λk hk=>(eG H.len).1 ((M k).1 hk).1) ne;let(Q,x,rfl):=(M kk).1 hk;let(p,j):=(eG H.len).1 Q;have lk:∀{l:Nat},l<=400->l<cY:=λh=>el h (by decide)
  have cc:aP (λx=>((Tg.one 0).put x [.no,.val (sp r c)]).bind λi=>(aC F (.cmp .eq (.sub (.var 0) (.cst (.int 0))) (.var 1)) i).bind λt=>sy t λt=>if t then(aC F (.var 0) i).bind λy=>.ok (ia y) else .ok ie) (kh.map kP)=.ok ((kh.filter λk=>decide (k.take 2=[r,c])).map kP):=by
   have f2:∀k∈kh,(λx=>((Tg.one 0).put x [.no,.val (sp r c)]).bind λi=>(aC F (.cmp .eq (.sub (.var 0) (.cst (.int 0))) (.var 1)) i).bind λt=>sy t λt=>if t then(aC F (.var 0) i).bind λy=>.ok (ia y) else .ok ie) (kP k)=.ok (if decide (k.take 2=[r,c]) then ia (kP k) else ie):=λk hk=>by
    let(a,b,x,rfl):=k3 k hk;have k0:aB (kP [a,b,x]) (.int 0)=.ok (sp a b):=rfl;have z:((a==r)&&((b==c)&&ig))=decide (List.take 2 [a,b,x]=[r,c]):=by rw [Bool.eq_iff_iff,zzN];simp
    dsimp! only [k0,z];split<;>rfl
   have gen:∀l:Ks,(∀k∈l,k∈kh)->aP (λx=>((Tg.one 0).put x [.no,.val (sp r c)]).bind λi=>(aC F (.cmp .eq (.sub (.var 0) (.cst (.int 0))) (.var 1)) i).bind λt=>sy t λt=>if t then(aC F (.var 0) i).bind λy=>.ok (ia y) else .ok ie) (l.map kP)=.ok ((l.filter λk=>decide (k.take 2=[r,c])).map kP):=λl hl=>sX λk hk=>f2 k (hl k hk);exact gen kh λ_ h=>h
  have bd:∀k:List Int,mu kr Vr k<=20000:=λk=>by
   unfold mu;split
   .rename_i a b _;cases S:au kr Vr [a,b] with
    |none=>unfold cR;rw [S];exact Nat.zero_le _|some T=>rw [dv S];have:=R.bd _ T S;show T.1.toNat<=_;omega
   .exact Nat.zero_le _
  let(l,e4,tr):=hc H (mu:=mu kr Vr) (λy k e _ _ C _ _ _=>by let(a,b,A,B,d,x,m,rfl,rfl,C,hm,U,rfl):=C;have:=(pL L V C).1;let(D,G,rfl):=c4.1 hm;have:=(R.bd _ D G).1;show((cR kr Vr [a,b]).getD 0).toNat<((cR kr Vr [A,B]).getD 0).toNat;rw [U,hm];show D.1.toNat<(x+D.1).toNat;omega) (bd _) j
  have tl:∀{k:List Int} {l:Ks} {d:Int},sJ (Eh (E1 rows sl cl pr) (cR kr Vr)) [g,f, -1] k l d->l.length<=mu kr Vr k+1/\∀k∈l,∃a b x,k=[a,b,x]:=λ{k l d} t=>by
   induction t with
   |here=>exact{Nat.le_add_left _ _,λk hk=>by rw [e6.1 hk];exact{_,_,_,rfl}}|go _ C ih=>
    let(a,b,A,B,d,x,m,rfl,rfl,C,hm,U,rfl):=C;have:=(pL L V C).1;let(D,G,rfl):=c4.1 hm;have:=(R.bd _ D G).1;refine{?_,λk hk=>?_}
    .have o:=ih.1;have z:mu kr Vr [a,b,d]<mu kr Vr [A,B,ix (dl [A,B] [a,b])]:=by show((cR kr Vr [a,b]).getD 0).toNat<((cR kr Vr [A,B]).getD 0).toNat;rw [U,hm];show D.1.toNat<(x+D.1).toNat;omega
     rw [c6];omega
    .rcases fP.1 hk with rfl|hk
     .exact{_,_,_,rfl}
     .exact ih.2 k hk
  let(tl1,RA):=tl tr;have ll:l.length<cY:=el (m:=20001) (by have:=bd [r,c,x];omega) (by decide);have cd:aP (λx=>((Tg.one 0).put x [.no]).bind λi=>(aC F (.sub (.var 0) (.cst (.int 0))) i).bind λy=>.ok (ia y)) (l.map kP)=.ok (l.map λk=>cb (k.take 2)):=cA λk hk=>by let(a,b,x,rfl):=RA k hk;rfl
  have sa:aB (.bC kr (Vr.map val)) (sp r c)=.ok (val q):=vo gd s;have sb:=vo (H.Nt _ p j).1 j;have kl:kh.length<cY:=lk H.le;have s1:∀{ks:Ks} {vs:List PV},wU (.var 5) (.bC ks vs)=.ok (ks.map kP):=rfl;simp! only [] at cc cd;let(a,N,W):=IW (B6 R) tr;have N:cR kr Vr [r,c]=ia a:=N;have W:sJ (λa b e=>E1 rows sl cl pr b a e) [g,f] [r,c] (l.map (·.take 2)) a:=W;rw [ha] at N;cases N;refine{.tup [.int q.1,.int p.1,.lst ((l.map (·.take 2)).map cb)],?_,.inr {q.1,p.1,_,rfl,W,λf z=>?_}}
  .rw [List.map_map];simp! only [bT,Z,Y,nd,O,kq,k2,e2,s1,zzl,kl,cc,e3,e4,ll,cd,sa,sb,vn];rfl
  .let(T,o,P):=kT K z;rw [s] at o;cases o;exact P
end
abbrev sg(a b:Str)(d:Int):Str:=if d=0 then "" else if d<0 then a else b
abbrev nm(r c:Int):Str:=sg "n" "s" r++sg "w" "e" c
theorem QU:iL (.str x) (.str y)=.ok (.bl (x==y)):=rfl
def Gq(F:aJ)(r c g i:Int):aq F aj [sp r c,sp g i]=.ok (.str (nm (g-r) (i-c))):=by
 have p:g=r\/(g<r/\¬g=r)\/(¬g<r/\¬g=r):=by omega
 have o:i=c\/(i<c/\¬i=c)\/(¬i<c/\¬i=c):=by omega
 have q:nm (g-r) (i-c)=sg "n" "s" (g-r)++sg "w" "e" (i-c):=rfl;have j:∀{a b:Str},sg a b 0="":=rfl;have k:∀{a b:Str} {x y:Int},x<y->sg a b (x-y)=a:=λ{a b x y} h=>by unfold sg;rw [if_neg (by omega),if_pos (by omega)]
 have m:∀{a b:Str} {x y:Int},¬x<y->¬x=y->sg a b (x-y)=b:=λ{a b x y} h s=>by unfold sg;rw [if_neg (by omega),if_neg (by omega)]
 have f:∀{x y:Int},¬x=y->(x==y)=iv:=λh=>zx6 h
 rw [q];rcases p with rfl|⟨a1,a2⟩|⟨a1,a2⟩
 .rcases o with rfl|⟨d,e⟩|⟨d,e⟩
  .rw [Int.sub_self,Int.sub_self,j,j];simp! only [aj,Int.lt_irrefl,decide_false,beq_self_eq_true];rfl
  .rw [Int.sub_self,j,k d];simp! only [aj,Int.lt_irrefl,decide_false,decide_true,beq_self_eq_true,d,f e];rfl
  .rw [Int.sub_self,j,m d e];simp! only [aj,Int.lt_irrefl,decide_false,decide_true,beq_self_eq_true,d,f e];rfl
 .rcases o with rfl|⟨d,e⟩|⟨d,e⟩
  .rw [Int.sub_self,j,k a1];simp! only [aj,Int.lt_irrefl,decide_false,decide_true,beq_self_eq_true,a1,f a2];rfl
  .rw [k a1,k d];simp! only [aj,decide_false,decide_true,a1,f a2,d,f e];rfl
  .rw [k a1,m d e];simp! only [aj,decide_false,decide_true,a1,f a2,d,f e];rfl
 .rcases o with rfl|⟨d,e⟩|⟨d,e⟩
  .rw [Int.sub_self,j,m a1 a2];simp! only [aj,Int.lt_irrefl,decide_false,decide_true,beq_self_eq_true,a1,f a2];rfl
  .rw [m a1 a2,k d];simp! only [aj,decide_false,decide_true,a1,f a2,d,f e];rfl
  .rw [m a1 a2,m d e];simp! only [aj,decide_false,decide_true,a1,f a2,d,f e];rfl
abbrev nx(p:Int×Int)(d:Str):Int×Int:=(p.1+mM d "s"-mM d "n",p.2+mM d "e"-mM d "w")
abbrev gD:List Str:=["n","s","w","e","ne","nw","se","sw"]
theorem cS:nv .en [.str z,.str y]=.ok (.int (mM z y)):=rfl
theorem kS:nk .en (.str z)=ig:=rfl
def zu(F:aJ)(p:Int×Int)(d:Str):aq F cE [bK p,.str d]=.ok (bK (nx p d)):=by simp! only [cE,kS,cS];rfl
def Py(p:Int×Int){a b:Int}(h: -1<=a)(i:a<=1)(j: -1<=b)(m:b<=1):nx p (nm a b)=(p.1+a,p.2+b):=by
 have c:a= -1\/a=0\/a=1:=by omega
 have e:b= -1\/b=0\/b=1:=by omega
 have k:∀(d:Str) (x y:Int),mM d "s"-mM d "n"=x->mM d "e"-mM d "w"=y->nx p d=(p.1+x,p.2+y):=λd x y f g=>by unfold nx;rw [<-f,<-g,Int.add_sub_assoc,Int.add_sub_assoc]
 rcases c with rfl|rfl|rfl<;>rcases e with rfl|rfl|rfl<;>exact k _ _ _ (by decide+kernel) (by decide+kernel)
def Hz{a b:Int}(e: -1<=a)(f:a<=1)(g: -1<=b)(i:b<=1)(h:¬(a=0/\b=0)):nm a b∈gD:=by
 have c:a= -1\/a=0\/a=1:=by omega
 have d:b= -1\/b=0\/b=1:=by omega
 rcases c with rfl|rfl|rfl<;>rcases d with rfl|rfl|rfl<;>first|exact absurd ⟨rfl,rfl⟩ h|decide+kernel
noncomputable abbrev rP(x:Str×Int):PV:=.tup [.str x.1,.int x.2]
noncomputable abbrev cj(R:List (Str×Int)):PV:=.lst (R.map rP)
abbrev iI(R:List (Str×Int))(d:Str):List (Str×Int):=match R.getLast? with
 |some x=>if x.1==d then R.dropLast++[(d,x.2+1)] else R++[(d,1)]
 |none=>[(d,1)]
theorem mE(d:Str):iI [] d=[(d,1)]:=rfl
def iz(R:List (Str×Int))(x:Str×Int)(d:Str):iI (R++[x]) d=if x.1==d then R++[(d,x.2+1)] else R++[x]++[(d,1)]:=by unfold iI;rw [List.getLast?_concat,List.dropLast_concat]
def md{b:Type}(R:List b):R=[]\/∃c x,R=c++[x]:=by
 cases R with
 |nil=>exact .inl rfl|cons a l=>exact .inr {_,_,(List.dropLast_concat_getLast (l:=a::l) (by simp)).symm}
def BF(R:List (Str×Int))(d:Str):(iI R d).length<=R.length+1:=by
 rcases md R with rfl|⟨a,x,rfl⟩
 .exact bc _
 .rw [iz];split<;>simp
abbrev flat(R:List (Str×Int)):List Str:=R.flatMap λx=>l0 x.2.toNat x.1
def mV(R S:List (Str×Int)):flat (R++S)=flat R++flat S:=List.flatMap_append
def mW(d:Str)(n:Int):flat [(d,n)]=l0 n.toNat d:=by simp [flat]
def GoodR(m:Nat)(R:List (Str×Int)):Prop:=∀x∈R,x.1∈gD/\0<=x.2/\x.2<=m
def zo{m:Nat}{d:Str}(h:GoodR m R)(hd:d∈gD):GoodR (m+1) (iI R d)/\flat (iI R d)=flat R++[d]:=by
 rcases md R with rfl|⟨f,x,rfl⟩
 .exact{λx b=>by rw [mE,e6] at b;subst b;exact{hd,by show(0:Int)<=1;decide,by show(1:Int)<=_;omega},rfl}
 .have b:=h x (by simp);rw [iz];split
  .rename_i c;have c:=eq_of_beq c;constructor
   .intro y a;rw [List.mem_append,e6] at a;rcases a with a|rfl
    .have:=h y (by simp [a]);exact{this.1,this.2.1,by omega}
    .exact{hd,by show 0<=x.2+1;omega,by show x.2+1<=_;omega}
   .let(g,e):=x;simp only at c b;subst c;rw [mV,mV,mW,mW,List.append_assoc,show(e+1).toNat=e.toNat+1 by omega,List.replicate_succ']
  .constructor
   .intro y a;rw [List.mem_append,e6] at a;rcases a with a|rfl
    .have:=h y a;exact{this.1,this.2.1,by omega}
    .exact{hd,by show(0:Int)<=1;decide,by show(1:Int)<=_;omega}
   .rw [mV (f++[x]),mW];rfl
theorem kF:∀{ds:List Str} {m:Nat} {R:List (Str×Int)},GoodR m R->(∀d∈ds,d∈gD)->GoodR (m+ds.length) (ds.foldl iI R)/\flat (ds.foldl iI R)=flat R++ds
 |[],m,R,h,_=>{h,by simp}|d::ds,m,R,h,hd=>by
  let(g,e):=zo h (hd d (dV ..));let(a,b):=kF (ds:=ds) g λx c=>hd x (c3 _ c);refine{?_,?_}
  .rw [c6,show m+(ds.length+1)=m+1+ds.length by omega];exact a
  .rw [List.foldl_cons,b,e,List.append_assoc];rfl
abbrev vD:List (Int×Int)->List Str
 |p::q::r=>nm (q.1-p.1) (q.2-p.2)::vD (q::r)|_=>[]
abbrev runs(P:List (Int×Int)):List (Str×Int):=(vD P).foldl iI []
def Po(R:List (Str×Int))(x:Str×Int):aB (cj (R++[x])) (.int (-1))=.ok (rP x):=by show Res.of (oF ((R++[x]).map rP) (-1))=_;rw [List.map_append,List.map_singleton,mH];rfl
theorem Rt{x:Str×Int}:aB (rP x) (.int 0)=.ok (.str x.1):=rfl
theorem Uh{x:Str×Int}:aB (rP x) (.int 1)=.ok (.int x.2):=rfl
def Ye(R:List (Str×Int))(x:Str×Int):ye ((R++[x]).map rP).length (-1)=ia R.length:=by
 unfold ye;simp! [zzl,dj,List.length_singleton];rw [if_neg (by decide),if_pos (by omega)]
 congr 1
 omega
def Ef(R:List (Str×Int))(x y:Str×Int):((R++[x]).map rP).set R.length (rP y)=(R++[y]).map rP:=by rw [List.map_append,List.map_append,List.map_singleton,List.set_append_right _ _ (by simp)];simp
abbrev pN:Ss:=#v[.set 6 (.call (zu 7) #v[!4,!5]),.ite (.and (.cmp .gt (.blt .len #v[.f7 3]) (¬0)) (.cmp .eq (.sub (.sub (.f7 3) (.neg (¬1))) (¬0)) (!6))) #v[.put 3 (.neg (¬1)) (.tup #v[!6,.bin .add (.sub (.sub (.f7 3) (.neg (¬1))) (¬1)) (¬1)])] #v[.app 3 (.tup #v[!6,¬1])]]
def JR(F:aJ):Prop:=∀p q:Int×Int,F (zu 7) [bK p,bK q]=.ok (.str (nm (q.1-p.1) (q.2-p.2)))
def Ck(F:aJ)(hd:JR F)(A B C:PV)(R:List (Str×Int))(i:R.length<=100)(p q:Int×Int)(j k m:Ci.Slot):
 ((Tg.two 4 5).put (.tup [bK p,bK q]) [.val A,.val B,.val C,.own (cj R),j,k,m]).bind (λo=>aX F pN o)=.ok (.nx [.val A,.val B,.val C,.own (cj (iI R (nm (q.1-p.1) (q.2-p.2)))),.val (bK p),.val (bK q),.val (.str (nm (q.1-p.1) (q.2-p.2)))]):=by
 have e:=hd p q;generalize nm (q.1-p.1) (q.2-p.2)=d at e;have hl:R.length<cY:=el i (by decide)
 rcases md R with rfl|⟨a,x,rfl⟩
 .have g:decide ((0:Int)<((0:Nat):Int))=iv:=rfl;have r:0<cY:=by decide
  rw [mE];simp! only [pN,cj,e,g,r]
 .have g:decide ((0:Int)<(((a++[x]).map rP).length:Int))=ig:=by
   simp! [zzl,dj,List.length_singleton,zzN];omega
  have b:=Po a x;have c:=Ye a x;have s:=Ef a x (d,x.2+1);have f:((a++[x]).map rP).length<cY:=by rw [zzl];exact hl
  rw [iz];have t:∀y,cj (a++[x]++[y])=.lst ((a++[x]).map rP++[rP y]):=λy=>by show PV.lst _=_;rw [List.map_append (l₁:=a++[x]),List.map_singleton]
  have u:cj (a++[x])=.lst ((a++[x]).map rP):=rfl;rw [u] at b⊢;have w:cj (a++[(d,x.2+1)])=.lst (((a++[x]).map rP).set a.length (rP (d,x.2+1))):=by rw [s]
  cases h:(x.1==d) with
  |true=>rw [if_pos rfl,w];generalize (a++[x]).map rP=W at g b c f⊢;simp! only [pN,e,g,b,Rt,Uh,QU,h,c]|false=>rw [if_neg (by decide),t];generalize (a++[x]).map rP=W at g b c f⊢;simp! only [pN,e,g,b,Rt,Uh,QU,h,f]
def Fq{a:Type}(xs:List a):qP xs (ia 1) ie=xs.tail:=by
 cases xs with
 |nil=>rfl|cons x xs=>unfold qP HT.rM;simp
noncomputable abbrev way(P:List (Int×Int)):PV:=.lst (P.map bK)
abbrev cst(rows:List Str)(sl:Bool)(cl pr:Int)(P:List (Int×Int)):List (Option Int):=(P.zip P.tail).map λq=>bu rows sl cl pr q.1.1 q.1.2 q.2.1 q.2.2
def near(p q:Int×Int):Prop:= -1<=q.1-p.1/\q.1-p.1<=1/\ -1<=q.2-p.2/\q.2-p.2<=1
def oC(xs ys:List PV):oz [xs,ys]=(xs.zip ys).map λq=>.tup [q.1,q.2]:=by
 have b:fW [xs,ys]=min xs.length ys.length:=rfl;unfold oz;rw [b];refine List.ext_getElem (by simp) λi c d=>?_;have a:i<xs.length/\i<ys.length:=by simp at c;omega
 simp [a.1,a.2]
theorem qh(F:aJ)(hd:JR F)(A B C:PV):∀(Q:List (Int×Int)) (p:Int×Int) (R:List (Str×Int)) (a b c:Ci.Slot),R.length+Q.length<=100->
 ∃d f g,forL (λx env=>((Tg.two 4 5).put x env).bind λi=>aX F pN i) (((((p::Q).map bK).zip (Q.map bK)).map λq=>PV.tup [q.1,q.2])) [.val A,.val B,.val C,.own (cj R),a,b,c]=.ok (.nx [.val A,.val B,.val C,.own (cj ((vD (p::Q)).foldl iI R)),d,f,g])
 |[],p,R,a,b,c,_=>⟨a,b,c,rfl⟩|q::Q,p,R,a,b,c,h=>by rw [c6] at h;have e:=Ck F hd A B C R (by omega) p q a b c;have hl:=BF R (nm (q.1-p.1) (q.2-p.2));let(d,f,g,j):=qh F hd A B C Q q (iI R (nm (q.1-p.1) (q.2-p.2))) (.val (bK p)) (.val (bK q)) (.val (.str (nm (q.1-p.1) (q.2-p.2)))) (by omega);refine{d,f,g,?_};have z:((((p::q::Q).map bK).zip ((q::Q).map bK)).map λq=>PV.tup [q.1,q.2])=.tup [bK p,bK q]::((((q::Q).map bK).zip (Q.map bK)).map λq=>PV.tup [q.1,q.2]):=rfl;rw [z,forL,e,vB];exact j
def AY(F:aJ){A B:PV}{P:List (Int×Int)}(c:F "need_way" [A,B,way P]=.ok .aG)(hd:JR F)(d:P≠[])(hl:P.length<=50):aq F eO [A,B,way P]=.ok (cj (runs P)):=by
 cases P with
 |nil=>exact absurd rfl d|cons p Q=>
  let(g,h,i,a):=qh F hd A B (way (p::Q)) Q p [] .no .no .no (by rw [c6] at hl;simp! [List.length_nil];omega);have e:(vD (p::Q)).foldl iI []=runs (p::Q):=rfl;rw [e] at a;have JK:dX (way (p::Q)) (ia 1) ie=.ok (way Q):=by show Res.ok (PV.lst (qP ((p::Q).map bK) (ia 1) ie))=_;rw [Fq];rfl
  have f:Res.of (j6 [way (p::Q),way Q])=.ok [bK p::Q.map bK,Q.map bK]:=rfl;have b:oz [bK p::Q.map bK,Q.map bK]=((((p::Q).map bK).zip (Q.map bK)).map λq=>PV.tup [q.1,q.2]):=oC ((p::Q).map bK) (Q.map bK);generalize cj (runs (p::Q))=Z at a⊢;generalize ((((p::Q).map bK).zip (Q.map bK)).map λq=>PV.tup [q.1,q.2])=j at a b;generalize way (p::Q)=k at *
  simp! only [pN,cj,List.map_nil] at a;simp! only [eO,c,JK,f,b,a,Bj]
section
variable(rows:List Str)(sl:Bool)(cl pr:Int)
abbrev Bo(q:Int×Int)(d:Str):Bool:=cg rows (nx q d).1 (nx q d).2&&(bu rows sl cl pr q.1 q.2 (nx q d).1 (nx q d).2).isSome
abbrev J4(s:List (Int×Int)×(Int×Int))(d:Str):Option (List (Int×Int)×(Int×Int)):=if Bo rows sl cl pr s.2 d then ia (s.1++[s.2],nx s.2 d) else ie
abbrev ub(s:List (Int×Int)×(Int×Int)):List Str->Option (List (Int×Int)×(Int×Int))
 |[]=>ia s|d::ds=>(J4 rows sl cl pr s d).bind λs'=>ub s' ds
def GJ(s:List (Int×Int)×(Int×Int)):∀(a b:List Str),ub rows sl cl pr s (a++b)=(ub rows sl cl pr s a).bind λs'=>ub rows sl cl pr s' b:=by
 intro a
 induction a generalizing s with
 |nil=>intro b;rfl|cons d a c=>
  intro b;show(J4 rows sl cl pr s d).bind (λs'=>ub rows sl cl pr s' (a++b))=((J4 rows sl cl pr s d).bind λs'=>ub rows sl cl pr s' a).bind _
  cases J4 rows sl cl pr s d with
  |none=>rfl|some s'=>exact c s' b
end
def lO(F:aJ):Prop:=∀a w,Fl a w->∀c cl b,Wk cl b->∀(q:Int×Int) d,cg a q.1 q.2=ig->F (zu 33) [fl a,wk c cl b,bK q,.str d]=if Bo a c cl b q d then .ok (bK (nx q d)) else .exc "NoWay"
def BG(F:aJ)(g:∀p d,F (zu 28) [bK p,.str d]=.ok (bK (nx p d)))(i:mz F)(hs:mD F){w:Nat}(L:Fl rows w)(V:Wk cl pr)(q:Int×Int)(d:Str)(j:cg rows q.1 q.2=ig):
 aq F bQ [fl rows,wk sl cl pr,bK q,.str d]=if Bo rows sl cl pr q d then .ok (bK (nx q d)) else .exc "NoWay":=by
 have c:=g q d;have b:=i rows L.yM (nx q d).1 (nx q d).2
 unfold Bo;cases h:cg rows (nx q d).1 (nx q d).2 with
 |false=>rw [h] at b;simp! only [bQ,c,b,Bool.false_and,oJ]|true=>
  rw [h] at b;have a:=hs rows w L sl cl pr V q.1 q.2 (nx q d).1 (nx q d).2 j h
  cases f:bu rows sl cl pr q.1 q.2 (nx q d).1 (nx q d).2 with
  |none=>rw [f] at a;simp! [oP] at a;have e:nD .aG .aG=.ok (.bl ig):=rfl;simp! only [bQ,c,b,a,e,Option.isSome_none,Bool.and_false,oJ]|some v=>rw [f] at a;simp! [oP] at a;have e:nD (.int v) .aG=.ok (.bl iv):=rfl;simp! only [bQ,c,b,a,e,Option.isSome_some,Bool.and_self]
def Pp(A:List (Int×Int))(q:Int×Int):aB (way (A++[q])) (.int (-1))=.ok (bK q):=by show Res.of (oF ((A++[q]).map bK) (-1))=_;rw [List.map_append,List.map_singleton,mH];rfl
abbrev pT:Ss:=#v[.app 4 (.call (zu 33) #v[!0,!1,.sub (.f7 4) (.neg (¬1)),!5])]
abbrev oW:Option (List (Int×Int)×(Int×Int))->(PV->Res Ci.Fl)->Res Ci.Fl
 |some s,k=>k (way (s.1++[s.2]))|none,_=>.exc "NoWay"
def YG(A:List (Int×Int))(q t:Int×Int):way (A++[q]++[t])=.lst ((A++[q]).map bK++[bK t]):=by show PV.lst _=_;rw [List.map_append (l₁:=A++[q])];rfl
theorem x6(F:aJ)(j:lO F){w:Nat}(L:Fl rows w){sl:Bool}(V:Wk cl pr)(S R:PV)(d:Str)(f:Ci.Slot):∀(xs:List PV) (A:List (Int×Int)) (q:Int×Int) (b:Ci.Slot),cg rows q.1 q.2=ig->A.length+xs.length<=100->
 ∃g,forL (λx env=>((Tg.one 7).put x env).bind λk=>aX F pT k) xs [.val (fl rows),.val (wk sl cl pr),.val S,.val R,.own (way (A++[q])),.val (.str d),f,b]=
  oW (ub rows sl cl pr (A,q) (l0 xs.length d)) λW=>.ok (.nx [.val (fl rows),.val (wk sl cl pr),.val S,.val R,.own W,.val (.str d),f,g])
 |[],A,q,b,_,_=>⟨b,rfl⟩|x::xs,A,q,b,o,hl=>by
  rw [c6] at hl;have a:=Pp A q;have c:=j rows w L sl cl pr V q d o;have h:((A++[q]).map bK).length<cY:=el (m:=200) (by simp! [zzl,dj,List.length_singleton];omega) (by decide);have i:way (A++[q])=.lst ((A++[q]).map bK):=rfl
  rw [c6,List.replicate_succ,ub,J4];cases hk:Bo rows sl cl pr q d with
  |false=>rw [hk] at c;refine{.no,?_};rw [i] at a⊢;generalize (A++[q]).map bK=W at a h⊢;simp! only [forL,pT,a,c,oJ];rfl|true=>
   rw [hk] at c;have p:cg rows (nx q d).1 (nx q d).2=ig:=by unfold Bo at hk;exact(zza _ _▸hk).1
   let(g,e):=x6 F j L (sl:=sl) V S R d f xs (A++[q]) (nx q d) (.val x) p (by rw [dj,List.length_singleton];omega);refine{g,?_};rw [YG] at e;simp! [if_true,Option.bind_some];rw [<-e,i];rw [i] at a;generalize (A++[q]).map bK=W at a h⊢;rw [forL];simp! only [pT,a,c,h]
theorem uc(rows:List Str)(sl:Bool)(cl pr:Int):∀(ds:List Str) (s s':List (Int×Int)×(Int×Int)),cg rows s.2.1 s.2.2=ig->ub rows sl cl pr s ds=ia s'->cg rows s'.2.1 s'.2.2=ig/\s'.1.length=s.1.length+ds.length
 |[],s,s',h,e=>by cases e;exact⟨h,rfl⟩
 |d::ds,s,s',h,e=>by
  rw [ub,J4] at e;cases hk:Bo rows sl cl pr s.2 d with
  |false=>rw [hk] at e;cases e
  |true=>
   rw [hk,if_pos rfl,Option.bind_some] at e;have a:cg rows (nx s.2 d).1 (nx s.2 d).2=ig:=by unfold Bo at hk;exact(zza _ _▸hk).1
   have:=uc rows sl cl pr ds _ s' a e;simp! [dj,c6,List.length_nil] at this⊢;exact{this.1,by omega}
abbrev ux:Ss:=#v[.ite (.cmp .rn (!5) (.glob "DIRECTIONS" (.tup [(.str "n"),(.str "s"),(.str "w"),(.str "e"),(.str "ne"),(.str "nw"),(.str "se"),(.str "sw")]))) #v[.raise "NoWay" "this is no direction"] .nil,.cV (.one 7) (.va (!6)) pT]
def yw{d:Str}(h:d∈gD):iT (.str d) (.tup [(.str "n"),(.str "s"),(.str "w"),(.str "e"),(.str "ne"),(.str "nw"),(.str "se"),(.str "sw")])=.ok (.bl iv):=by
 have:(gD.any λx=>x==d)=ig:=by rw [fi];exact{d,h,beq_self_eq_true d}
 show Res.ok (PV.bl (!(gD.any λx=>x==d)))=_;rw [this];rfl
def yL(n:Nat):(fF 0 n).length=n:=by simp [fF]
theorem uV(F:aJ)(m:lO F){w:Nat}(L:Fl rows w){sl:Bool}(V:Wk cl pr)(S T:PV):∀(R:List (Str×Int)) (A:List (Int×Int)) (q:Int×Int) (b c a:Ci.Slot),cg rows q.1 q.2=ig->(∀x∈R,x.1∈gD/\0<=x.2/\x.2<=50)->A.length+(flat R).length<=50->
 ∃z B f,forL (λx env=>((Tg.two 5 6).put x env).bind λC=>aX F ux C) (R.map rP) [.val (fl rows),.val (wk sl cl pr),.val S,.val T,.own (way (A++[q])),b,c,a]=
  oW (ub rows sl cl pr (A,q) (flat R)) λW=>.ok (.nx [.val (fl rows),.val (wk sl cl pr),.val S,.val T,.own W,z,B,f])
 |[],A,q,b,c,a,_,_,_=>⟨b,c,a,rfl⟩|(d,n)::R,A,q,b,c,a,o,p,hl=>by
  let(hd,D,g):=p (d,n) (dV ..);simp only at hd D g;have r:=yw hd;have s:aW n=ig:=by simp! [aW,zza,zzN];omega
  have t:flat ((d,n)::R)=l0 n.toNat d++flat R:=rfl;rw [t,dj,List.length_replicate] at hl;let(f,e):=x6 F m L (sl:=sl) V S T d (.val (.int n)) (fF 0 n.toNat) A q a o (by rw [yL];omega)
  rw [yL] at e;rw [t,GJ];cases h:ub rows sl cl pr (A,q) (l0 n.toNat d) with
  |none=>rw [h] at e;simp! only [oW] at e;refine{.no,.no,.no,?_};simp! only [bf,forL,Rz];simp! only [ux,r,s,e,oJ,Option.bind_none,oW]|some u=>rw [h] at e;let(E,y):=uc rows sl cl pr _ _ _ o h;rw [List.length_replicate] at y;simp! [oW,Qn,vB] at e;let(i,j,k,G):=uV F m L (sl:=sl) V S T R u.1 u.2 (.val (.str d)) (.val (.int n)) f E (λx H=>p x (c3 _ H)) (by simp only at y;omega);refine{i,j,k,?_};rw [Option.bind_some,<-G];simp! only [bf,forL,Rz];simp! only [ux,r,s,e]
abbrev Oi(rows:List Str)(sl:Bool)(cl pr:Int)(q:Int×Int)(ds:List Str):Res PV:=match ub rows sl cl pr ([],q) ds with
 |some s=>.ok (way (s.1++[s.2]))|none=>.exc "NoWay"
def EH(F:aJ)(d:lO F){w:Nat}(L:Fl rows w){sl:Bool}(V:Wk cl pr)(q:Int×Int)(b:F (zu 4) [fl rows,bK q]=.ok .aG)(e:∀x∈R,x.1∈gD/\0<=x.2/\x.2<=50)(hl:(flat R).length<=50)(h:cg rows q.1 q.2=ig):
 aq F eV [fl rows,wk sl cl pr,bK q,cj R]=Oi rows sl cl pr q (flat R):=by
 let(i,j,k,a):=uV F d L (sl:=sl) V (bK q) (cj R) R [] q .no .no .no h e (by simp! [List.length_nil];omega);unfold Oi;generalize f:R.map rP=W at a;have g:cj R=.lst W:=by rw [<-f]
 rw [g] at a⊢;cases c:ub rows sl cl pr ([],q) (flat R) with
 |none=>rw [c] at a;simp! only [ux,pT,oW,List.nil_append,way,bf,List.map_nil,oJ] at a;simp! only [eV,b,a,oJ]|some s=>rw [c] at a;simp! [oW] at a;show _=Res.ok (way (s.1++[s.2]));generalize way (s.1++[s.2])=Z at a⊢;simp! only [ux,pT,List.nil_append,way,bf,List.map_nil,oJ] at a;simp! only [eV,oJ,b,a,Bj]
theorem sZ(rows:List Str)(sl:Bool)(cl pr:Int):∀(A:List (Int×Int)) (q t:Int×Int),cst rows sl cl pr (A++[q]++[t])=cst rows sl cl pr (A++[q])++[bu rows sl cl pr q.1 q.2 t.1 t.2]
 |[],q,t=>rfl|[a],q,t=>rfl|a::b::A,q,t=>by have c:cst rows sl cl pr (a::b::A++[q]++[t])=bu rows sl cl pr a.1 a.2 b.1 b.2::cst rows sl cl pr (b::A++[q]++[t]):=rfl;have d:cst rows sl cl pr (a::b::A++[q])=bu rows sl cl pr a.1 a.2 b.1 b.2::cst rows sl cl pr (b::A++[q]):=rfl;rw [c,sZ rows sl cl pr (b::A) q t,d];rfl
abbrev rj(s:List (Int×Int)×(Int×Int))(ds:List Str):List (Int×Int)×(Int×Int):=ds.foldl (λs d=>(s.1++[s.2],nx s.2 d)) s
noncomputable abbrev ends(s:List (Int×Int)×(Int×Int)):List (Int×Int):=s.1++[s.2]
def valid(rows:List Str)(sl:Bool)(cl pr:Int)(P:List (Int×Int)):Prop:=(∀p∈P,cg rows p.1 p.2=ig)/\((cst rows sl cl pr P).any λo=>o.isNone)=iv
theorem xH(rows:List Str)(sl:Bool)(cl pr:Int)(R:List (Int×Int)):∀X:List (Int×Int),∃U,cst rows sl cl pr (X++R)=cst rows sl cl pr X++U
 |[]=>{_,rfl}|[p]=>{_,rfl}|p::p'::X=>by let(U,e):=xH rows sl cl pr R (p'::X);refine{U,?_};have a:cst rows sl cl pr (p::p'::X++R)=bu rows sl cl pr p.1 p.2 p'.1 p'.2::cst rows sl cl pr (p'::X++R):=rfl;rw [a,e];rfl
def Bf{X R:List (Int×Int)}(h:valid rows sl cl pr (X++R)):valid rows sl cl pr X:=by let(U,e):=xH rows sl cl pr R X;refine{λp a=>h.1 p (ey _ a),?_};have:=h.2;rw [e,List.any_append,Bool.or_eq_false_iff] at this;exact this.1
def xi{A:List (Int×Int)}{q t:Int×Int}:valid rows sl cl pr (A++[q]++[t])↔valid rows sl cl pr (A++[q])/\cg rows t.1 t.2=ig/\(bu rows sl cl pr q.1 q.2 t.1 t.2).isSome=ig:=by
 unfold valid;rw [sZ,List.any_append,Bool.or_eq_false_iff];have f:([bu rows sl cl pr q.1 q.2 t.1 t.2].any λo=>o.isNone)=iv↔(bu rows sl cl pr q.1 q.2 t.1 t.2).isSome=ig:=by cases bu rows sl cl pr q.1 q.2 t.1 t.2<;>simp
 rw [f];constructor
 .rintro ⟨a,b,c⟩
  exact{{λp e=>a p (ey _ e),b},a t (by simp),c}
 .rintro ⟨⟨a,b⟩,c,d⟩
  refine{λp e=>?_,b,d}
  rw [List.mem_append,e6] at e;rcases e with e|rfl
  .exact a p e
  .exact c
theorem ym:∀(ds:List Str) (s:List (Int×Int)×(Int×Int)),∃R,ends (rj s ds)=ends s++R
 |[],s=>{[],by simp [rj]}|d::ds,s=>by let(R,e):=ym ds (ends s,nx s.2 d);refine{[nx s.2 d]++R,?_};show ends (rj (ends s,nx s.2 d) ds)=_;rw [e,List.append_assoc]
theorem Cr(rows:List Str)(sl:Bool)(cl pr:Int):∀(ds:List Str) (s:List (Int×Int)×(Int×Int)),valid rows sl cl pr (ends s)->(valid rows sl cl pr (ends (rj s ds))/\ub rows sl cl pr s ds=ia (rj s ds))\/(¬valid rows sl cl pr (ends (rj s ds))/\ub rows sl cl pr s ds=ie)
 |[],s,h=>.inl ⟨h,rfl⟩|d::ds,s,h=>by
  have a:=xi (rows:=rows) (sl:=sl) (cl:=cl) (pr:=pr) (A:=s.1) (q:=s.2) (t:=nx s.2 d)
  rw [ub,J4];cases hk:Bo rows sl cl pr s.2 d with
  |true=>
   have b:cg rows (nx s.2 d).1 (nx s.2 d).2=ig/\(bu rows sl cl pr s.2.1 s.2.2 (nx s.2 d).1 (nx s.2 d).2).isSome=ig:=by unfold Bo at hk;exact(zza _ _▸hk)
   rw [if_pos rfl,Option.bind_some];exact Cr rows sl cl pr ds (ends s,nx s.2 d) (a.2 ⟨h,b⟩)
  |false=>
   rw [if_neg (by decide)];refine .inr {λz=>?_,rfl};let(R,e):=ym ds (ends s,nx s.2 d);have c:valid rows sl cl pr (ends (ends s,nx s.2 d)++R):=by rw [<-e];exact z
   have:=(a.1 (Bf c)).2;have:Bo rows sl cl pr s.2 d=ig:=by unfold Bo;exact zza _ _▸this
   rw [hk] at this;cases this
def ql{a b:Int}(h:(bu rows sl cl pr r c a b).isSome=ig):near (r,c) (a,b)/\¬(a-r=0/\b-c=0):=by
 unfold bu at h;by_cases hf:(r=a/\c=b)\/1<r-a\/1<a-r\/1<c-b\/1<b-c
 .rw [if_pos hf] at h;cases h
 .unfold near;simp only;omega
def qu{p q:Int×Int}{Q:List (Int×Int)}(h:valid rows sl cl pr (p::q::Q)):(bu rows sl cl pr p.1 p.2 q.1 q.2).isSome=ig/\valid rows sl cl pr (q::Q):=by
 have e:cst rows sl cl pr (p::q::Q)=bu rows sl cl pr p.1 p.2 q.1 q.2::cst rows sl cl pr (q::Q):=rfl;let(b,a):=h;rw [e,List.any_cons,Bool.or_eq_false_iff] at a;refine{?_,λx c=>b x (c3 _ c),a.2}
 cases hs:bu rows sl cl pr p.1 p.2 q.1 q.2 with
 |none=>rw [hs] at a;exact absurd a.1 (by decide)|some _=>rfl
theorem j3:∀{P:List (Int×Int)},valid rows sl cl pr P->∀d∈vD P,d∈gD
 |[],_,d,hd=>by cases hd
 |[p],_,d,hd=>by cases hd
 |p::q::Q,h,d,hd=>by
  let(a,b):=qu h;let((c,e,f,g),i):=ql a
  rw [vD,fP] at hd;rcases hd with rfl|hd
  .exact Hz c e f g i
  .exact j3 b d hd
theorem lX:∀P:List (Int×Int),(vD P).length=P.length-1
 |[]=>rfl|[_]=>rfl|p::q::Q=>by have:=lX (q::Q);rw [vD,c6,this];simp
theorem uE:∀(Q:List (Int×Int)) (p:Int×Int) (A:List (Int×Int)),valid rows sl cl pr (p::Q)->ends (rj (A,p) (vD (p::Q)))=A++p::Q
 |[],p,A,_=>rfl|q::Q,p,A,h=>by
  let(a,b):=qu h;let((c,d,f,g),j):=ql a;have e:nx p (nm (q.1-p.1) (q.2-p.2))=q:=by rw [Py p c d f g];show(p.1+(q.1-p.1),p.2+(q.2-p.2))=q;rw [show p.1+(q.1-p.1)=q.1 by omega,show p.2+(q.2-p.2)=q.2 by omega]
  have i:=uE Q q (A++[p]) b;show ends (rj (A++[p],nx p (nm (q.1-p.1) (q.2-p.2))) (vD (q::Q)))=_;rw [e,i,List.append_assoc];rfl
def AX{P:List (Int×Int)}(h:valid rows sl cl pr P)(hl:P.length<=50):(∀x∈runs P,x.1∈gD/\0<=x.2/\x.2<=50)/\flat (runs P)=vD P:=by let(g,e):=kF (ds:=vD P) (m:=0) (R:=[]) (λx a=>by cases a) (j3 h);refine{λx a=>?_,by rw [runs,e];rfl};have:=g x a;rw [lX] at this;exact{this.1,this.2.1,by omega}
def Fi{p:Int×Int}{Q:List (Int×Int)}(h:valid rows sl cl pr (p::Q)):Oi rows sl cl pr p (vD (p::Q))=.ok (way (p::Q)):=by
 have e:=uE Q p [] h;have b:=h.1 p (dV ..)
 unfold Oi;rcases Cr rows sl cl pr (vD (p::Q)) ([],p) ⟨λz a=>by simp! [ends,List.nil_append,e6] at a;subst a;exact b,rfl⟩ with⟨v,g⟩|⟨v,g⟩
 .rw [g];show Res.ok (way (ends (rj ([],p) (vD (p::Q)))))=_;rw [e];rfl
 .rw [e] at v;exact absurd h v
theorem mU{f:PV->PV->Bool}:∀{xs:List PV},(∀x∈xs,f x x=ig)->eqs f xs xs=ig
 |[],_=>rfl|x::xs,h=>by rw [eqs,h x (dV ..),mU λy a=>h y (c3 _ a)];rfl
def Hv(a:∀x∈xs,Ci.plain 8 x=ig)(b:∀x∈xs,jg 8 x x=ig):iM (.lst xs) (.lst xs)=.ok (.bl iv):=by
 have p:uX (.lst xs)=ig:=by show xs.all (Ci.plain 8)=ig;rw [ef];exact a
 have e:eqv (.lst xs) (.lst xs)=ig:=mU (f:=jg 8) b;unfold iM;rw [p,e];rfl
def L4(P:List (Int×Int)):iM (way P) (way P)=.ok (.bl iv):=by
 refine Hv (λx a=>?_) (λx a=>?_)
 .let(p,_,rfl):=hG.1 a;rfl
 .let(p,_,rfl):=hG.1 a;show((p.1==p.1)&&((p.2==p.2)&&ig))=ig;simp
theorem vO{b:Type}:∀L:List b,boolsOf (L.map λZ=>PV.bl ig)=ia (L.map λZ=>ig)
 |[]=>rfl|a::L=>by show(boolsOf (L.map λZ=>PV.bl ig)).map (ig::·)=_;rw [vO L];rfl
def allI{a:Type}(L:List a):(L.map λZ=>ig).all id=ig:=by rw [List.all_map];simp
section
variable{E:mx}{s:List Int}{l:Ks}
def EB(t:sJ E s k l d):qC E s k d:=by
 induction t with
 |here=>exact .here|go _ he a=>exact .go a he
def IV(b:∀u v e,E u v e->0<e)(t:sJ E s k l d):∀x∈l,∃c,c<=d/\qC E s x c:=by
 induction t with
 |here=>intro x a;rw [e6.1 a];exact{0,Int.le_refl _,.here}|go t he f=>
  intro x a;rcases fP.1 a with rfl|a
  .exact{_,Int.le_refl _,.go (EB t) he}
  .let(c,h,g):=f x a;have:=b _ _ _ he;exact{c,by omega,g}
def Ng(a:∀u v e,E u v e->0<e)(t:sJ E s k l d):(∀c,qC E s k c->d<=c)->l.Nodup:=by
 induction t with
 |here=>intro _;simp|go t he b=>
  intro hm;have p:=a _ _ _ he;refine List.nodup_cons.2 {λz=>?_,b λc w=>?_}
  .let(c,g,f):=IV a t _ z;have:=hm c f;omega
  .have:=hm _ (w.go he);omega
end
abbrev Rr:List Int->Int×Int
 |[r,c]=>(r,c)|_=>(0,0)
def HB{U:Ks}{ks:Ks}(nd:ks.Nodup)(h:∀k∈ks,k∈U):ks.length<=U.length:=by
 induction ks generalizing U with
 |nil=>exact Nat.zero_le _|cons a ks c=>let(d,e):=List.nodup_cons.1 nd;have b:=h a (dV ..);have:=c (U:=U.erase a) e λk hk=>(List.mem_erase_of_ne (λz:k=a=>d (by rw [<-z];exact hk))).2 (h k (c3 _ hk));rw [List.length_erase_of_mem b] at this;have:=List.length_pos_of_mem b;rw [c6];omega
section
variable{w:Nat}{s g:List Int}{l:Ks}
def qq(t:sJ (Et rows sl cl pr) g s l d):Jg rows g->valid rows sl cl pr (l.map Rr)/\(∀x∈l,Jg rows x)/\∃t,l=s::t:=by
 induction t with
 |here=>
  intro e;let(r,c,rfl,f):=e;refine{{λp a=>?_,rfl},λx b=>?_,_,rfl}
  .rw [e6.1 a];exact f
  .rw [e6.1 b];exact⟨r,c,rfl,f⟩
 |go _ he i=>
  intro e;let((j,k),o,t,rfl):=i e;let(r,c,m,q,rfl,rfl,h,y,u):=he;refine{{λp a=>?_,?_},λx b=>?_,_,rfl}
  .rcases fP.1 a with rfl|a
   .exact h
   .exact j p a
  .show((bu rows sl cl pr r c m q::_).any _)=iv;rw [List.any_cons,u];exact k
  .rcases fP.1 b with rfl|b
   .exact⟨r,c,rfl,h⟩
   .exact o x b
def EG(L:Fl rows w)(V:Wk cl pr)(b:Jg rows g)(t:sJ (Et rows sl cl pr) g s l d)(hm:∀c,qC (Et rows sl cl pr) g s c->d<=c):∃P:List (Int×Int),PV.lst (l.map cb)=way P/\P.length<=36/\valid rows sl cl pr P/\∃Q,P=Rr s::Q:=by
 let(v,o,a,rfl):=qq t b;have nd:=Ng (λu v e f=>(pL L V f).1) t hm;have hl:=HB nd λk hk=>UN L (o k hk);refine{(s::a).map Rr,?_,by rw [zzl];exact eg hl (Nat.le_of_eq za),v,_,rfl};show PV.lst _=PV.lst (((s::a).map Rr).map bK);rw [List.map_map]
 congr 1
 refine List.map_congr_left λx h=>?_;let(r,c,rfl,_):=o x h;rfl
def vF(f:List PV->Res PV):Prop:=∀rows w,Fl rows w->∀sl cl pr,Wk cl pr->∀r c a b,cg rows r c=ig->cg rows a b=ig->∃p,f [fl rows,wk sl cl pr,sp r c,sp a b]=.ok p/\((p=.aG/\∀c0,¬qC (Et rows sl cl pr) [a,b] [r,c] c0)\/∃(D:Int) (W:Ks),p=.tup [.int D,.lst (W.map cb)]/\sJ (Et rows sl cl pr) [a,b] [r,c] W D/\∀c0,qC (Et rows sl cl pr) [a,b] [r,c] c0->D<=c0)
def Df(F:aJ)(H:my F)(I:J0 F)(K:BC F):vF (aq F cK):=by
 intro rows w L sl cl pr V r c t u M A;let(f,h,B,R):=I rows w L sl cl pr V t u A;have C:=H rows L.yM r c M;have i:=di (vs:=h) [r,c] R.len;have D:Gd [r,c]:=rfl;have k:sp r c=kP [r,c]:=rfl;have nd:=L6 (vs:=h.map val) (ks:=f) D
 rw [<-k] at nd;cases a:au f h [r,c] with
 |none=>rw [a] at i;have m:cW f [r,c]=iv:=i;refine{.aG,by simp! only [cK,C,B,nd,m],.inl {rfl,λx z=>?_}};let(q,b,_):=kT R z;rw [a] at b;cases b
 |some q=>
  rw [a] at i;have m:cW f [r,c]=ig:=i;have N:aB (.bC f (h.map val)) (sp r c)=.ok (val q):=vo D a;let(l,E,G):=K R (mu:=λk=>((cR f h k).getD 0).toNat) (λy k e q p O b j S=>by have:=(pL L V O).1;have:=(R.bd _ p j).1;rw [dv b,dv j];show p.1.toNat<q.1.toNat;omega) (k:=[r,c]) (by rw [dv a];have:=(R.bd _ q a).2;show q.1.toNat<=_;omega) a;let(_,o,_):=qq G ⟨t,u,rfl,A⟩;have P:l.map kP=l.map cb:=List.map_congr_left λx Q=>by let(_,_,rfl,_):=o x Q;rfl
  rw [P,<-k] at E;refine{.tup [.int q.1,.lst (l.map cb)],by simp! only [cK,C,B,nd,m,N,vn,E],.inr {q.1,l,rfl,G,λc0 z=>?_}};let(p,b,j):=kT R z;rw [a] at b;cases b;exact j
def Ht(F:aJ)(a:mz F)(L:Fl rows w){P:List (Int×Int)}(b:∀p∈P,cg rows p.1 p.2=ig)(ne:P≠[])(hl:P.length<=36):aq F aH [fl rows,way P]=.ok (.bl ig):=by
 have i:=List.length_pos_iff.2 ne;have e:(P.map bK).length<cY:=el (m:=36) (by rw [zzl];exact hl) (by decide);have ty:kZ .list (way P)=.ok (.bl ig):=rfl;have z:(((P.map bK).length:Int)==0)=iv:=by rw [zzl,beq_eq_false_iff_ne];omega
 have c:aP (λx=>((Tg.one 0).put x [.no,.val (fl rows)]).bind λf=>(aC F (.call (zu 15) (.cons (.var 1) (.cons (.var 0) .nil))) f).bind λy=>.ok (ia y)) (P.map bK)=.ok (P.map λZ=>.bl ig):=by rw [cA (p:=bK) (g:=λZ=>.bl ig) λx h=>?_];have:=a rows L.yM x.1 x.2;rw [b x h] at this;simp! only [this]
 simp! only [] at c;simp! only [aH,ty,z,e,c,vO,Uk,allI]
theorem tj:∀(l:List (Option Int)),(l.any λo=>o.isNone)=iv->∃vs:List Int,l.map oP=vs.map PV.int
 |[],_=>{[],rfl}|none::_,h=>by simp at h|some v::r,h=>by let(vs,e):=tj r (zx6 h);exact{v::vs,by rw [bf,e];rfl}
def BI(F:aJ)(hs:mD F)(L:Fl rows w)(V:Wk cl pr){P:List (Int×Int)}(a:∀p∈P,cg rows p.1 p.2=ig)(k:P.length<=36):
 aq F cC [fl rows,wk sl cl pr,way P]=.ok (.lst ((cst rows sl cl pr P).map oP)):=by
 have l:((P.map bK).zip (P.tail.map bK)).length<cY:=el (m:=36) (by simp! [List.length_zip,zzl];omega) (by decide);have c:dX (way P) (ia 1) ie=.ok (way P.tail):=by show Res.ok (PV.lst (qP (P.map bK) (ia 1) ie))=_;rw [Fq,<-List.map_tail]
 have e:Res.of (j6 [way P,way P.tail])=.ok [P.map bK,P.tail.map bK]:=rfl;have f:oz [P.map bK,P.tail.map bK]=(P.zip P.tail).map λq=>.tup [bK q.1,bK q.2]:=by rw [oC,List.zip_map,List.map_map];rfl
 have h:(P.zip P.tail).length<cY:=zx6 l;simp! only [cC,c,e,f,zzl,h];rw [cA (g:=λq:(Int×Int)×(Int×Int)=>oP (bu rows sl cl pr q.1.1 q.1.2 q.2.1 q.2.2)) (λq b=>by have i:=a q.1 (List.of_mem_zip b).1;have j:=a q.2 (List.mem_of_mem_tail (List.of_mem_zip b).2);simp! only [hs rows w L sl cl pr V _ _ _ _ i j])];simp! only [cst,List.map_map];rfl
def Hy(vs:List Int):iT .aG (.lst (vs.map .int))=.ok (.bl ig):=by
 have p:(vs.map PV.int).all uX=ig:=by rw [List.all_map];simp! [ef];intro _ _;rfl
 have m:Dm .aG (vs.map PV.int)=iv:=by unfold Dm;rw [List.any_map,List.any_eq_false];intro _ _;exact zzf
 show(if(uX .aG&&(vs.map PV.int).all uX)=ig then Res.ok (PV.bl (!Dm .aG (vs.map PV.int))) else .bad)=_;rw [p,m];rfl
def uJ{P:List (Int×Int)}(F:aJ)(h:F "is_way" [fl rows,wk sl cl pr,way P]=.ok (.bl ig)):aq F dJ [fl rows,wk sl cl pr,way P]=.ok .aG:=by simp! only [dJ,h]
def Am(F:aJ){P:List (Int×Int)}(b:F (zu 2) [fl rows,way P]=.ok (.bl ig))(a:F (zu 30) [fl rows,wk sl cl pr,way P]=.ok (.lst ((cst rows sl cl pr P).map oP)))(v:valid rows sl cl pr P):aq F fN [fl rows,wk sl cl pr,way P]=.ok (.bl ig):=by let(c,e):=tj _ v.2;rw [e] at a;have:=Hy c;simp! only [fN,b,a,this]
end
abbrev tx(c:Nat):Str:=if c<10 then{#[48+c]} else{#[48+c/10,48+c%10]}
abbrev Nj(k:Nat):Bool:=decide (((k:Nat):Int).natAbs.log2<1920)&&((toString ((k:Nat):Int):Str)==tx k)&&(PySem.intText? (tx k)==ia (k:Int))&&decide (1<=(tx k).length/\(tx k).length<=2)&&((tx k).cps.toList.all λx=>decide (48<=x)&&decide (x<=57))&&((tx k=="0")==decide (k=0))&&(decide (k<10)||decide (k<100))&&(match(tx k).cps.toList[0]? with|some x=>decide (k=0)||decide (x≠48)|none=>iv)&&decide ((tx k).length=if k<10 then 1 else 2)
def Qq{n:Nat}(h:n<37):Nj n=ig:=by
 have a:∀k:Fin 37,Nj k.1=ig:=by decide+kernel
 exact a ⟨n,h⟩
set_option tactic.hygienic true in
def fh{n:Nat}(h:n<37):((n:Int).natAbs.log2<1920)/\(toString (n:Int):Str)=tx n/\PySem.intText? (tx n)=ia (n:Int)/\(1<=(tx n).length/\(tx n).length<=2)/\(∀x∈(tx n).cps.toList,48<=x/\x<=57)/\((tx n=="0")=decide (n=0))/\(∃x,(tx n).cps.toList[0]?=ia x/\(n=0\/x≠48))/\(tx n).length=if n<10 then 1 else 2:=by
 have k:=Qq h;unfold Nj at k;simp! [zza,zzN,zzy,ef] at k;let((((((((b,c),d),f),g),i),_),a),j):=k;refine{b,c,d,f,g,i,?_,j};split at a
 .rename_i x e;exact{x,e,zx6 a}
 .cases a
def w4{n:Nat}(h:n<37):d5 .str [.int (n:Int)]=.ok (.str (tx n)):=by let(a,b,_):=fh h;show(if _ then Res.ok (PV.str _) else _)=_;rw [if_pos a,b]
def CM{n:Nat}(h:n<37):d5 .int [.str (tx n)]=.ok (.int (n:Int)):=by let(_,_,a,b,_):=fh h;show(if(tx n).length<=640 then(Res.of (PySem.intText? (tx n))).bind λn=>Res.ok (PV.int n) else .bad)=_;rw [if_pos (by omega),a];rfl
def LF{x:Nat}(h:48<=x/\x<=57):wI (.str {#[x]}) (.str (zu 17))=.ok (.bl ig):=by
 have a:∀k:Fin 10,(!(la.Str.occurrences (zu 17:Str) {#[48+k.1]} 0 (zu 17:Str).length 1).isEmpty)=ig:=by decide+kernel
 let(k,rfl):=Nat.exists_eq_add_of_le h.1;show Res.ok (PV.bl _)=_;rw [a {k,by omega}]
def Fh(l:List Nat):boolsOf (l.map λZ=>PV.bl ig)=ia (l.map λZ=>ig):=vO l
theorem Wr:iM (.str x) (.str y)=.ok (.bl (!(x==y))):=rfl
def B2(F:aJ){n:Nat}(h:n<37):aq F cJ [.str (tx n)]=.ok (.bl ig):=by
 let(_,_,_,(D,a),d,e,(x,f,j),_):=fh h;have k:(tx n).length<=cY:=eg a (by decide);have o:decide ((1:Int)<=((tx n).length:Int))=ig:=zzh (by omega);have r:decide (((tx n).length:Int)<=3)=ig:=zzh (by omega);have s:(chars (tx n)).length<cY:=by show((tx n).cps.toList.map _).length<cY;rw [zzl,eH];exact el (m:=2) a (by decide)
 have c:aP (λx=>((Tg.one 0).put x [.no]).bind λt=>(aC F (.cmp .LD (.var 0) (.glob "DIGITS" (.str (zu 17)))) t).bind λy=>.ok (ia y)) (chars (tx n))=.ok ((tx n).cps.toList.map λZ=>.bl ig):=by refine cA (p:=λc:Nat=>PV.str {#[c]}) (g:=λZ=>.bl ig) λy u=>?_;have:=LF (d y u);simp! only [this]
 simp! only [] at c;have w:aB (.str (tx n)) (.int 0)=.ok (.str {#[x]}):=yP (i:=0) (eg a (by decide)) f
 have b:(if(tx n=="0")=ig then Res.ok (PV.bl ig) else Res.ok (PV.bl (!(({#[x]}:Str)=="0"))))=.ok (.bl ig):=by
  rw [e];by_cases z:n=0
  .rw [zzh z];rfl
  .rw [zz0 z,if_neg zzf];have A:=j.resolve_left z;have B:("0":Str)={#[48]}:=by decide+kernel
   have:(({#[x]}:Str)=={#[48]})=iv:=by
    rw [beq_eq_false_iff_ne];intro q
    injection q with q
    exact A (zx6 q)
   rw [B,this];rfl
 have C:wU (.var 0) (.str (tx n))=.ok (chars (tx n)):=rfl;simp! only [cJ,C,k,o,r,s,c,Fh,allI,QU,w,Wr,b]
def MF(F:aJ){n:Nat}(h:n<37)(b:n≠0)(c:F (zu 27) [.str (tx n)]=.ok (.bl ig)):aq F bb [.str (tx n)]=.ok (.bl ig):=by let(_,_,_,_,_,a,_):=fh h;rw [zz0 b] at a;simp! only [bb,c,Wr,a]
def DY(F:aJ){n:Nat}(h:n<37)(a:F (zu 27) [.str (tx n)]=.ok (.bl ig)):aq F cQ [.str (tx n)]=.ok (.int (n:Int)):=by have e:=CM h;simp! only [cQ,a,e]
theorem xt{s:Nat}:∀{a b X Y:List Nat},s∉a->s∉b->a++s::X=b++s::Y->a=b/\X=Y
 |[],[],X,Y,_,_,h=>by cases h;exact⟨rfl,rfl⟩
 |[],y::b,X,Y,_,d,h=>by
  injection h with c e
  exact absurd (dV ..) (c▸d)
 |x::a,[],X,Y,f,_,h=>by
  injection h with c e
  exact absurd (dV ..) (c▸f)
 |x::a,y::b,X,Y,f,d,h=>by
  injection h with c e
  let(g,i):=xt (λz=>f (c3 _ z)) (λz=>d (c3 _ z)) e;exact{by rw [c,g],i}
def g8(s:Nat)(x y:Str)(r:List Str):(Str.join {#[s]} (x::y::r)).cps.toList=x.cps.toList++s::(Str.join {#[s]} (y::r)).cps.toList:=by show((x++{#[s]})++Str.join {#[s]} (y::r)).cps.toList=_;rw [Str.cps_append,Str.cps_append,Array.toList_append,Array.toList_append,List.append_assoc];rfl
theorem uy{s:Nat}:∀{ps ws:List Str},ps≠[]->ws≠[]->(∀p∈ps,s∉p.cps.toList)->(∀p∈ws,s∉p.cps.toList)->Str.join {#[s]} ps=Str.join {#[s]} ws->ps=ws
 |[],_,h,_,_,_,_=>absurd rfl h|_,[],_,h,_,_,_=>absurd rfl h|[p],[q],_,_,_,_,h=>by rw [show p=q from h]|[p],q::a::ws,_,_,c,_,h=>by have e:p.cps.toList=(Str.join {#[s]} (q::a::ws)).cps.toList:=congrArg (λz:Str=>z.cps.toList) h;rw [g8] at e;exact absurd (by rw [e];simp) (c p (dV ..))|p::b::ps,[q],_,_,_,d,h=>by have e:(Str.join {#[s]} (p::b::ps)).cps.toList=q.cps.toList:=congrArg (λz:Str=>z.cps.toList) h;rw [g8] at e;exact absurd (by rw [<-e];simp) (d q (dV ..))|p::b::ps,q::a::ws,_,_,c,d,h=>by have e:(Str.join {#[s]} (p::b::ps)).cps.toList=(Str.join {#[s]} (q::a::ws)).cps.toList:=congrArg (λz:Str=>z.cps.toList) h;rw [g8,g8] at e;let(g,i):=xt (c p (dV ..)) (d q (dV ..)) e;have r:=uy (ps:=b::ps) (ws:=a::ws) (by simp) (by simp) (λx f=>c x (c3 _ f)) (λx f=>d x (c3 _ f)) (by have:(Str.join {#[s]} (b::ps)).cps=(Str.join {#[s]} (a::ws)).cps:=Array.toList_inj.mp i;exact Str.ext' this);have:p=q:=Str.ext' (Array.toList_inj.mp g);rw [this,r]
def nT{s:Nat}{ws:List Str}(h:ws≠[])(a:∀p∈ws,s∉p.cps.toList):Txt.split (Str.join {#[s]} ws) {#[s]}=ws:=by refine uy (λz=>?_) h (StrLaws.split_free _ _) a (StrLaws.join_split _ _);have:=PyProof.Rows.split_pos (Str.join {#[s]} ws) {#[s]};rw [z] at this;exact absurd this (by decide)
abbrev wd(x:Str×Int):Str:=x.1++tx x.2.toNat
abbrev w0(a b:Nat):Str:=Str.join {#[44]} [tx a,tx b]
abbrev WR(d:Str)(c:Nat):Bool:=(Txt.rstripChars (d++tx c) (zu 17)==d)&&(Txt.slice (d++tx c) (ia (d.length:Int)) ie==tx c)&&decide ((d++tx c).length<=4)&&!((d++tx c).cps.toList.contains 32)&&decide ((d++tx c).length=d.length+(tx c).length)&&decide (1<=d.length/\d.length<=2)
def w_all{d:Str}(hd:d∈gD){c:Nat}(e:c<37):Txt.rstripChars (d++tx c) (zu 17)=d/\Txt.slice (d++tx c) (ia (d.length:Int)) ie=tx c/\(d++tx c).length<=4/\32∉(d++tx c).cps.toList/\(d++tx c).length=d.length+(tx c).length/\(1<=d.length/\d.length<=2):=by
 have a:(gD.all λd=>(List.range 37).all λc=>WR d c)=ig:=by decide+kernel
 have k:=ef.1 (ef.1 a d hd) c (List.mem_range.2 e);unfold WR at k;simp! [zza,zzN,zzy,Bool.not_eq_true'] at k;let(((((f,g),h),b),i),j):=k;have m:32∉(d++tx c).cps.toList:=λz=>by rw [fS.2 z] at b;cases b
 exact⟨f,g,h,m,i,j⟩
def Qs(a b:Nat):w0 a b=(tx a++",")++tx b:=by
 have:(",":Str)={#[44]}:=by decide+kernel
 rw [this];rfl
theorem y9{n:Nat}(h:n<37){s:Nat}(hs:s<48):s∉(tx n).cps.toList:=λz=>by have:=((fh h).2.2.2.2.1 s z).1;omega
def EF{a b:Nat}(c:a<37)(d:b<37):(w0 a b).length<=5/\32∉(w0 a b).cps.toList/\Txt.split (w0 a b) ","=[tx a,tx b]:=by
 have e:(",":Str)={#[44]}:=by decide+kernel
 have g:=(fh c).2.2.2.1;have lb:=(fh d).2.2.2.1;have t:(w0 a b).cps.toList=(tx a).cps.toList++44::(tx b).cps.toList:=g8 44 (tx a) (tx b) [];refine{?_,?_,?_}
 .have:(w0 a b).length=(w0 a b).cps.toList.length:=rfl;rw [this,t,dj,c6];show(tx a).length+((tx b).length+1)<=5;omega
 .rw [t,List.mem_append,fP]
  rintro (z|z|z)
  .exact y9 c (by decide) z
  .cases z
  .exact y9 d (by decide) z
 .rw [e];exact nT (by simp) λp f=>by
   rcases fP.1 f with rfl|f
   .exact y9 c (by decide)
   .rw [e6.1 f];exact y9 d (by decide)
theorem Wf:nk .fG (.str z)=ig:=rfl
theorem Yh:nk .eJ (.str z)=ig:=rfl
theorem Yg:nk .join (.str z)=ig:=rfl
def Wi(a:(y.length==0)=iv)(b:z.length<=100000):nv .fG [.str z,.str y]=.ok (.lst ((Txt.split z y).map .str)):=if_pos ⟨a,b⟩
def Yj(a:z.length<=100000):nv .eJ [.str z,.str y]=.ok (.str (Txt.rstripChars z y)):=if_pos a
def A5(F:aJ){a b:Nat}(c:a<37)(d:b<37)(f:∀n,n<37->F (zu 32) [.str (tx n)]=.ok (.int (n:Int))):aq F dh [.str (w0 a b)]=.ok (sp a b):=by let(k,_,e):=EF c d;have m:=Wi (z:=w0 a b) (y:=",") (by decide+kernel) (by omega);rw [e] at m;have g:=f a c;have h:=f b d;have i:aB (.lst [.str (tx a),.str (tx b)]) (.int 0)=.ok (.str (tx a)):=rfl;have j:aB (.lst [.str (tx a),.str (tx b)]) (.int 1)=.ok (.str (tx b)):=rfl;simp! [bf,List.map_nil] at m;have z:(((2:Nat):Int)==2)=ig:=rfl;simp! only [dh,Wf,m,z,i,j,g,h]
def Ut{i:Int}(h:z.length<=cY):dX (.str z) (ia i) ie=.ok (.str (Txt.slice z (ia i) ie)):=if_pos h
def Eb(F:aJ){d:Str}(hd:d∈gD){c:Nat}(a:c<37)(p:c≠0)(b:F (zu 5) [.str (tx c)]=.ok (.bl ig)):aq F dM [.str (d++tx c)]=.ok (rP (d,c)):=by let(f,g,h,_,_,j):=w_all hd a;have m:=Yj (z:=d++tx c) (y:=(zu 17)) (by omega);rw [f] at m;have k:d.length<=cY:=eg j.2 (by decide);have s:=Ut (z:=d++tx c) (i:=d.length) (eg h (by decide));rw [g] at s;have o:=yw hd;have e:=CM a;simp! only [dM,Yh,m,k,s,o,b,e]
theorem BV{b:Type}:∀L:List b,boolsOf (L.map λZ=>PV.bl iv)=ia (L.map λZ=>iv)
 |[]=>rfl|a::L=>by show(boolsOf (L.map λZ=>PV.bl iv)).map (iv::·)=_;rw [BV L];rfl
def anyI{a:Type}(L:List a):(L.map λZ=>iv).any id=iv:=by rw [List.any_map];simp
def anyF{a:Type}(L:List a):d5 .any [.lst (L.map λZ=>PV.bl iv)]=.ok (.bl iv):=by show(Res.of (boolsOf (L.map λZ=>PV.bl iv))).bind (λbs=>Res.ok (PV.bl (bs.any id)))=_;rw [BV];show Res.ok (PV.bl ((L.map λZ=>iv).any id))=_;rw [anyI]
theorem strs_map{a:Type}(f:a->Str):∀xs:List a,strsOf (xs.map λx=>PV.str (f x))=ia (xs.map f)
 |[]=>rfl|x::xs=>by simp! [bf,strsOf,strs_map f xs,Option.map_some]
def Ff:List (Str×Int)->Prop
 |x::y::r=>x.1≠y.1/\Ff (y::r)|_=>True
theorem sN:∀(R:List (Str×Int)) (x y:Str×Int),Ff (R++[x])->x.1≠y.1->Ff (R++[x]++[y])
 |[],_,_,_,h=>⟨h,trivial⟩|[_],_,_,a,h=>⟨a.1,h,trivial⟩|_::b::R,x,y,a,h=>{a.1,sN (b::R) x y a.2 h}
theorem sM:∀(R:List (Str×Int)) (x y:Str×Int),Ff (R++[x])->x.1=y.1->Ff (R++[y])
 |[],_,_,_,_=>trivial|[_],_,_,a,h=>{h▸a.1,trivial}|_::b::R,x,y,a,h=>{a.1,sM (b::R) x y a.2 h}
theorem xo:∀{R:List (Str×Int)},Ff R->∀q∈R.zip R.tail,q.1.1≠q.2.1
 |[],_,q,a=>by cases a
 |[_],_,q,a=>by cases a
 |x::y::R,h,q,a=>by
  have a:q∈(x,y)::(y::R).zip (y::R).tail:=a
  rcases fP.1 a with rfl|a
  .exact h.1
  .exact xo h.2 q a
def Nc(R:List (Str×Int)):Prop:=(∀x∈R,1<=x.2)/\Ff R
def Fe{d:Str}(h:Nc R):Nc (iI R d):=by
 rcases md R with rfl|⟨e,x,rfl⟩
 .exact{λx c=>by rw [mE,e6] at c;subst c;exact Int.le_refl _,trivial}
 .have c:=h.1 x (by simp);rw [iz];split
  .rename_i b;have b:=eq_of_beq b;refine{λy a=>?_,sM e x _ h.2 b}
   rw [List.mem_append,e6] at a;rcases a with a|rfl
   .exact h.1 y (by simp [a])
   .show 1<=x.2+1;omega
  .rename_i b;refine{λy a=>?_,sN e x _ h.2 λz=>b (by rw [z];exact beq_self_eq_true d)}
   rw [List.mem_append,e6] at a;rcases a with a|rfl
   .exact h.1 y a
   .exact Int.le_refl _
theorem xP:∀{ds:List Str} {R:List (Str×Int)},Nc R->Nc (ds.foldl iI R)
 |[],_,h=>h|d::ds,R,h=>xP (ds:=ds) (R:=iI R d) (Fe h)
def Gr(R:List (Str×Int)):Prop:=∀x∈R,x.1∈gD/\1<=x.2/\x.2<37
def ue(h:Gr R){x:Str×Int}(e:x∈R):∃d,∃n:Nat,x=(d,(n:Int))/\d∈gD/\n<37/\n≠0:=by let(d,c):=x;let(f,a,b):=h _ e;have a:1<=c:=a;have b:c<37:=b;exact{d,c.toNat,by rw [Int.toNat_of_nonneg (by omega)],f,by omega,by omega}
abbrev txt(a b:Nat)(R:List (Str×Int)):Str:=Str.join {#[32]} (w0 a b::R.map wd)
def VN:(" ":Str)={#[32]}:=by decide+kernel
def Yi{ys:List Str}(h:(ys.map (·.length)).sum+ys.length<=cY):nv .join [.str " ",.lst (ys.map .str)]=.ok (.str (Str.join {#[32]} ys)):=by
 have e:strsOf (ys.map .str)=ia ys:=by have:=strs_map (λx:Str=>x) ys;rwa [List.map_id'] at this
 show(Res.of (strsOf (ys.map .str))).bind (λys=>if(" ":Str).length<=16/\(ys.map (·.length)).sum+ys.length<=cY then Res.ok (PV.str (Txt.join " " ys)) else .bad)=_;rw [e];show(if(" ":Str).length<=16/\(ys.map (·.length)).sum+ys.length<=cY then Res.ok (PV.str (Txt.join " " ys)) else .bad)=_;rw [if_pos {by decide+kernel,h},VN]
 congr 2
 exact StrLaws.glued_eq_join _ _
theorem Qc:∀{l:List Str},(∀x∈l,x.length<=5)->(l.map (·.length)).sum<=5*l.length
 |[],_=>bc _|x::l,h=>by have:=Qc (l:=l) λy a=>h y (c3 _ a);have:=h x (dV ..);rw [bf,List.sum_cons,c6];omega
def m8(x:Str)(l:List Str):(Str.join {#[32]} (x::l)).length=x.length+(l.map λy=>y.length+1).sum:=by
 rw [<-StrLaws.glued_eq_join,size_glued,bf,List.sum_cons,c6];have:∀l:List Str,(l.map λy=>y.length+1).sum=(l.map (·.length)).sum+l.length:=λl=>by
  induction l with
  |nil=>rfl|cons y l c=>rw [bf,List.sum_cons,bf,List.sum_cons,c,c6];omega
 rw [this];show _+(l.length+1-1)*1=_;omega
section
variable{a b:Nat}(ha:a<37)(hb:b<37)(hR:Gr R)(hl:R.length<=36)
include ha hb hR hl
def oy:(∀x∈w0 a b::R.map wd,x.length<=5/\32∉x.cps.toList)/\((w0 a b::R.map wd).map (·.length)).sum+(w0 a b::R.map wd).length<=300:=by
 have e:∀x∈w0 a b::R.map wd,x.length<=5/\32∉x.cps.toList:=λx c=>by
  rcases fP.1 c with rfl|c
  .exact{(EF ha hb).1,(EF ha hb).2.1}
  .let(y,f,rfl):=hG.1 c;let(d,n,rfl,hd,g,_):=ue hR f;have:=w_all hd g;exact{eg this.2.2.1 (by decide),this.2.2.2.1}
 refine{e,?_};have:=Qc λx c=>(e x c).1;rw [c6,zzl] at this⊢;omega
def xk(F:aJ):aq F bY [sp a b,cj R]=.ok (.str (txt a b R)):=by
 let(_,i):=oy ha hb hR hl;have w:=(fh ha).2.2.2.1;have lb:=(fh hb).2.2.2.1;have j:(tx a).length+(",":Str).length<=cY:=eg (m:=3) (by rw [show(",":Str).length=1 by decide+kernel];omega) (by decide);have o:(tx a++",").length+(tx b).length<=cY:=eg (m:=5) (by rw [Str.length_append,show(",":Str).length=1 by decide+kernel];omega) (by decide);have p:=w4 ha;have q:=w4 hb;have c:aP (λx=>((Tg.one 0).put x [.no]).bind λr=>(aC F (.bin .add (.sub (.var 0) (.cst (.int 0))) (.blt .str (.cons (.sub (.var 0) (.cst (.int 1))) .nil))) r).bind λy=>.ok (ia y)) (R.map rP)=.ok (R.map λx=>.str (wd x)):=by refine cA λx s=>?_;let(d,n,rfl,hd,f,_):=ue hR s;have e:=w4 f;have k:=w_all hd f;have l:d.length+(tx n).length<=cY:=eg (m:=5) (by omega) (by decide);simp! only [Rt,Uh,e,l,wd];rfl
 simp! only [] at c;have lr:(R.map rP).length<cY:=by rw [zzl];exact el hl (by decide)
 have g:([PV.str (tx a++","++tx b)]:List PV).length+(R.map λx=>PV.str (wd x)).length<=cY:=by rw [zzl];exact eg (m:=37) (by show 1+R.length<=37;omega) (by decide)
 have m:=Yi (ys:=w0 a b::R.map wd) (eg i (by decide));have t:(w0 a b::R.map wd).map PV.str=[PV.str (tx a++","++tx b)]++R.map λx=>PV.str (wd x):=by rw [bf,List.map_map,Qs];rfl
 rw [t] at m;generalize (R.map λx=>PV.str (wd x))=Z at c g m;have u:cj R=.lst (R.map rP):=rfl;rw [u];generalize R.map rP=z at c lr⊢;show _=Res.ok (PV.str (Str.join {#[32]} (w0 a b::R.map wd)));generalize Str.join {#[32]} (w0 a b::R.map wd)=T at m⊢;simp! [List.singleton_append] at m;have h:0+1+Z.length<=cY:=g;have Rl:1+Z.length<=cY:=by rwa [Nat.zero_add] at h
 simp! only [bY,p,q,j,o,lr,c,h,Rl,Yg,m]
include ha hb hR hl
def sj:(txt a b R).length<=300:=by
 let(w1,c):=oy ha hb hR hl
 unfold txt;rw [m8];have:∀l:List Str,(l.map λy=>y.length+1).sum=(l.map (·.length)).sum+l.length:=λl=>by
  induction l with
  |nil=>rfl|cons y l d=>rw [bf,List.sum_cons,bf,List.sum_cons,d,c6];omega
 rw [this];rw [bf,List.sum_cons,c6] at c;omega
def IB(F:aJ)(t:F (zu 45) [.str (w0 a b)]=.ok (sp a b))(u:∀(d:Str) (n:Nat),d∈gD->n<37->n≠0->F (zu 49) [.str (d++tx n)]=.ok (rP (d,n)))(w:Ff R):aq F dg [.str (txt a b R)]=.ok (.tup [sp a b,cj R]):=by
 have K:=sj ha hb hR hl;let(w1,_):=oy ha hb hR hl;have m:=Wi (z:=txt a b R) (y:=" ") (by decide+kernel) (by omega);have A:Txt.split (txt a b R) " "=w0 a b::R.map wd:=by rw [VN];exact nT (by simp) λp B=>(w1 p B).2
 rw [A,bf,List.map_map] at m;have k:aB (.lst (PV.str (w0 a b)::R.map (PV.str∘wd))) (.int 0)=.ok (.str (w0 a b)):=by show Res.of (oF _ ((0:Nat):Int))=_;rw [iZ (by simp)];rfl
 have o:dX (.lst (PV.str (w0 a b)::R.map (PV.str∘wd))) (ia 1) ie=.ok (.lst (R.map (PV.str∘wd))):=by show Res.ok (PV.lst (qP (PV.str (w0 a b)::R.map (PV.str∘wd)) (ia 1) ie))=_;rw [Fq];rfl
 have r:(R.map (PV.str∘wd)).length<cY:=by rw [zzl];exact el hl (by decide)
 have c:aP (λx=>((Tg.one 0).put x [.no]).bind λg=>(aC F (.call (zu 49) (.cons (.var 0) .nil)) g).bind λy=>.ok (ia y)) (R.map (PV.str∘wd))=.ok (R.map rP):=by refine cA λx C=>?_;let(d,n,rfl,hd,D,E):=ue hR C;have e:=u d n hd D E;have G:(PV.str∘wd) (d,(n:Int))=.str (d++tx n):=rfl;rw [G];simp! only [e]
 simp! only [] at c;have h:dX (cj R) (ia 1) ie=.ok (cj R.tail):=by show Res.ok (PV.lst (qP (R.map rP) (ia 1) ie))=_;rw [Fq,<-List.map_tail]
 have i:Res.of (j6 [cj R,cj R.tail])=.ok [R.map rP,R.tail.map rP]:=rfl;have j:oz [R.map rP,R.tail.map rP]=(R.zip R.tail).map λq=>.tup [rP q.1,rP q.2]:=by rw [oC,List.zip_map,List.map_map];rfl
 have lz:((R.zip R.tail).map λq=>PV.tup [rP q.1,rP q.2]).length<cY:=el (m:=36) (by rw [zzl,List.length_zip];omega) (by decide);have f:aP (λx=>((Tg.two 0 1).put x [.no,.no]).bind λg=>(aC F (.cmp .eq (.sub (.var 0) (.cst (.int 0))) (.sub (.var 1) (.cst (.int 0)))) g).bind λy=>.ok (ia y)) ((R.zip R.tail).map λq=>.tup [rP q.1,rP q.2])=.ok ((R.zip R.tail).map λZ=>.bl iv):=by refine cA λq H=>?_;have e:(q.1.1==q.2.1)=iv:=beq_eq_false_iff_ne.2 (xo w q H);simp! only [Rt,QU,e]
 simp! only [] at f;have s:=anyF (R.zip R.tail);generalize txt a b R=T at m⊢;have I:cj R=.lst (R.map rP):=rfl;rw [I] at h i⊢;generalize R.map rP=L at c h i j;generalize ((R.zip R.tail).map λq=>PV.tup [rP q.1,rP q.2])=M at j lz f;generalize ((R.zip R.tail).map λZ=>PV.bl iv)=N at f s;generalize R.map (PV.str∘wd)=O at m k o r c;simp! only [dg,Wf,m,k,t,o,r,c,h,i,j,lz,f,s]
end
def LV(b:Gr R):((R.map wd).map λy=>y.length+1).sum<=(((flat R).map λd=>wd (d,1)).map λy=>y.length+1).sum:=by
 induction R with
 |nil=>exact bc _|cons x R a=>
  have a:=a λy e=>b y (c3 _ e);let(d,n,rfl,hd,c,o):=ue b (dV ..);have k:=w_all hd c;have f:=w_all hd (show 1<37 by decide);have t:=(fh c).2.2.2.2.2.2.2;have g:(tx 1).length=1:=(fh (show 1<37 by decide)).2.2.2.2.2.2.2;have h:flat ((d,(n:Int))::R)=l0 n d++flat R:=rfl
  have i:∀m:Nat,(((l0 m d).map λd=>wd (d,1)).map λy=>y.length+1).sum=m*(d.length+2):=λm=>by
   induction m with
   |zero=>simp|succ m a=>rw [List.replicate_succ,bf,bf,List.sum_cons,a];show(d++tx 1).length+1+_=_;rw [f.2.2.2.2.1,g,Nat.succ_mul];omega
  rw [h,List.map_append,List.map_append,List.sum_append,i,bf,bf,List.sum_cons];have j:(wd (d,(n:Int))).length=d.length+(tx n).length:=k.2.2.2.2.1;rw [j,t];have p:1*(d.length+2)<=n*(d.length+2):=Nat.mul_le_mul_right _ (by omega);split
  .omega
  .have q:2*(d.length+2)<=n*(d.length+2):=Nat.mul_le_mul_right _ (by omega);omega
def Nk(a b:Nat)(c:Gr R):(txt a b R).length<=(txt a b ((flat R).map λd=>(d,(1:Int)))).length:=by unfold txt;rw [m8,m8,List.map_map (l:=flat R)];exact Nat.add_le_add_left (LV c) _
abbrev hB:Ss:=#v[.lC 10 (.bin .mul (.lst #v[.tup #v[!11,¬1]]) (!12))]
abbrev gB:Ss:=#v[.own 10 (.lst .nil),.cV (.two 11 12) (.seq (!8)) hB,.bq 10,.ite (.cmp .gt (.blt .len #v[!9]) (.blt .len #v[.call (zu 13) #v[.sub (!7) (¬0),!10]])) #v[.ret (.cst (.bl iv))] .nil]
abbrev fB:Ss:=.cons (.set 8 (.call "runs_of" #v[!1,!2,!7])) (.cons (.set 9 (.call (zu 13) #v[.sub (!7) (¬0),!8])) (.cons (.ite (.or (.cmp .ne (.call (zu 25) #v[!9]) (.tup #v[.sub (!7) (¬0),!8])) (.cmp .ne (.call "way_by" #v[!1,!2,!4,.sub (.call (zu 25) #v[!9]) (¬1)]) (!7))) #v[.ret (.cst (.bl iv))] .nil) gB))
abbrev oB:Ss:=#v[.cV (.one 7) (.seq (.tup #v[.sub (!6) (¬1),.sub (.call (zu 8) #v[!1,!2,!4,!5]) (¬2)])) fB,.ret (.cst (.bl ig))]
abbrev oA:Ss:=.cons (.ite (.cmp .eq (!3) (.lst .nil)) #v[.ret (.cst (.bl ig))] .nil) (.cons (.set 4 (.sub (!3) (.call (zu 3) #v[!0,¬50,.blt .len #v[!3]]))) (.cons (.set 5 (.sub (!3) (.call (zu 3) #v[!0,¬51,.blt .len #v[!3]]))) (.cons (.set 6 (.call (zu 36) #v[!1,!2,!4,!5])) (.cons (.ite (.cmp .is (!6) (.cst .aG)) #v[.ret (.cmp .is (.call (zu 8) #v[!1,!2,!4,!5]) (.cst .aG))] .nil) oB))))
theorem AN:cm.body=.cons (.set 1 (.call (zu 35) (.cons (.var 0) (.cons (.cst (.int 0)) (.cons (.cst (.int 5)) .nil))))) (.cons (.set 2 (.call (zu 21) (.cons (.var 0) (.cons (.cst (.int 40)) .nil)))) (.cons (.set 3 (.call (zu 34) (.cons (.var 1) .nil))) oA)):=rfl
theorem xK:∀(n:Nat) (a b:List Int),eqs (jg n) (a.map .int) (b.map .int)=decide (a=b)
 |_,[],[]=>rfl|_,[],_::_=>rfl|_,_::_,[]=>rfl|n,x::a,y::b=>by
  have:jg n (.int x) (.int y)=(x==y):=by cases n<;>rfl
  simp! [bf,eqs,xK n a b,this];rw [Bool.eq_iff_iff];simp
def KP(n:Nat)(a b:List Int):jg (n+1) (cb a) (cb b)=decide (a=b):=xK n a b
theorem tO:∀(n:Nat) (a b:Ks),eqs (jg (n+1)) (a.map cb) (b.map cb)=decide (a=b)
 |_,[],[]=>rfl|_,[],_::_=>rfl|_,_::_,[]=>rfl|n,x::a,y::b=>by simp! [bf,eqs,tO n a b,KP];rw [Bool.eq_iff_iff];simp
def Ip(n:Nat)(a:List Int):(a.map PV.int).all (Ci.plain n)=ig:=by
 simp! [ef,hG]
 rintro x ⟨i,_,rfl⟩
 cases n<;>rfl
def ME(n:Nat)(a:List Int):Ci.plain (n+1) (cb a)=ig:=Ip n a
def Iq(n:Nat)(a:Ks):(a.map cb).all (Ci.plain (n+1))=ig:=by
 simp! [ef,hG]
 rintro x ⟨i,_,rfl⟩
 exact ME n i
def yF(n:Nat)(a:Ks):Ci.plain (n+2) (.lst (a.map cb))=ig:=Iq n a
def Xf(a b:Ks):iL (.lst (a.map cb)) (.lst (b.map cb))=.ok (.bl (decide (a=b))):=by show(if(Ci.plain 9 (.lst (a.map cb))&&Ci.plain 9 (.lst (b.map cb)))=ig then Res.ok (PV.bl (jg 9 (.lst (a.map cb)) (.lst (b.map cb)))) else .bad)=_;rw [yF 7,yF 7];exact congrArg (λz=>Res.ok (PV.bl z)) (tO 7 a b)
def yT{Sp:List (Nat×Nat)}(hm:∀r c,(r,c)∈Sp↔E0 rows r c=ig){m:Int}(a:0<=m)(b:m<Sp.length):∃r c:Int,aB (.lst (Sp.map vc)) (.int m)=.ok (sp r c)/\cg rows r c=ig:=by
 let(k,rfl):=hF a;have hk:k<Sp.length:=by omega
 refine{(Sp[k]).1,(Sp[k]).2,?_,?_}
 .simp! [aB];rw [iZ (k:=k) (zx6 hk),List.getElem_map];rfl
 .refine yA.2 {by omega,by omega,?_};have:=(hm (Sp[k]).1 (Sp[k]).2).1 (List.getElem_mem hk);simpa using this
def mC(F:aJ):Prop:=∀a w,Fl a w->∀c cl b,Wk cl b->∀P:List (Int×Int),P≠[]->P.length<=36->valid a c cl b P->F "runs_of" [fl a,wk c cl b,way P]=.ok (cj (runs P))
def kg(F:aJ):Prop:=∀(a b:Nat) (R:List (Str×Int)),a<37->b<37->Gr R->R.length<=36->F (zu 13) [sp a b,cj R]=.ok (.str (txt a b R))
def vI(F:aJ):Prop:=∀(a b:Nat) (R:List (Str×Int)),a<37->b<37->Gr R->R.length<=36->Ff R->F (zu 25) [.str (txt a b R)]=.ok (.tup [sp a b,cj R])
def qB(F:aJ):Prop:=∀a w,Fl a w->∀c cl b,Wk cl b->∀(q:Int×Int) (R:List (Str×Int)),(∀x∈R,x.1∈gD/\0<=x.2/\x.2<=50)->(flat R).length<=50->cg a q.1 q.2=ig->F "way_by" [fl a,wk c cl b,bK q,cj R]=Oi a c cl b q (flat R)
def Hu{x:Int×Int}:iM (.tup [bK x,cj R]) (.tup [bK x,cj R])=.ok (.bl iv):=by
 have p:uX (.tup [bK x,cj R])=ig:=by
  show(ig&&((R.map rP).all (Ci.plain 7)&&ig))=ig;have:(R.map rP).all (Ci.plain 7)=ig:=by rw [ef];intro y a;let(q,_,rfl):=hG.1 a;rfl
  rw [this];rfl
 have e:eqv (.tup [bK x,cj R]) (.tup [bK x,cj R])=ig:=by
  show(jg 8 (bK x) (bK x)&&(jg 8 (cj R) (cj R)&&ig))=ig;have b:jg 8 (bK x) (bK x)=ig:=by show((x.1==x.1)&&((x.2==x.2)&&ig))=ig;simp
  have c:jg 8 (cj R) (cj R)=ig:=by refine mU (f:=jg 7) λy a=>?_;let(q,_,rfl):=hG.1 a;show((q.1==q.1)&&((q.2==q.2)&&ig))=ig;simp
  rw [b,c];rfl
 unfold iM;rw [p,e];rfl
def mulL{x:List PV}(h:0<=j/\j<1000/\x.length<1000):binOp .mul (.lst x) (.int j)=.ok (.lst (l0 j.toNat x).flatten):=if_pos h
theorem nZ(F:aJ)(s:List Ci.Slot)(f:s.length=10):∀(R:List (Str×Int)) (a:List PV) (t u:Ci.Slot),Gr R->a.length+(flat R).length<=100->∃t' b,forL (λx env=>((Tg.two 11 12).put x env).bind λc=>aX F hB c) (R.map rP) (s++[.own (.lst a),t,u])=.ok (.nx (s++[.own (.lst (a++((flat R).map λd=>rP (d,1)))),t',b]))
 |[],a,t,u,_,_=>{t,u,by simp [forL,flat]}|x::R,a,t,u,g,hl=>by
  let(d,n,rfl,hd,H,I):=ue g (dV ..);have h:flat ((d,(n:Int))::R)=l0 n d++flat R:=rfl;rw [h,dj,List.length_replicate] at hl;let(t',b,e):=nZ F s f R (a++l0 n (rP (d,1))) (.val (.str d)) (.val (.int n)) (λy C=>g y (c3 _ C)) (by rw [dj,List.length_replicate];omega);refine{t',b,?_};have m:=mulL (x:=[rP (d,1)]) (j:=n) {by omega,by omega,(by show 1<1000;decide)}
  have D:(l0 ((n:Int)).toNat [rP (d,1)]).flatten=l0 n (rP (d,1)):=by
   rw [hU];have:∀m:Nat,(l0 m [rP (d,1)]).flatten=l0 m (rP (d,1)):=λm=>by
    induction m with
    |zero=>rfl|succ m E=>rw [List.replicate_succ,List.flatten_cons,E,List.replicate_succ];rfl
   exact this n
  rw [D] at m;have i:a.length+(l0 n (rP (d,1))).length<=cY:=by rw [List.length_replicate];exact eg (m:=100) (by omega) (by decide)
  have G:(((Tg.two 11 12).put (rP (d,n)) (s++[.own (.lst a),t,u])).bind λc=>aX F hB c)=.ok (.nx (s++[.own (.lst (a++l0 n (rP (d,1)))),.val (.str d),.val (.int n)])):=by
   match s,f with
   |[k,a1,a2,o,p,q,r,w,z,A],_=>have tp:(Tg.two 11 12).put (rP (d,n)) ([k,a1,a2,o,p,q,r,w,z,A]++[.own (.lst a),t,u])=.ok [k,a1,a2,o,p,q,r,w,z,A,.own (.lst a),.val (.str d),.val (.int n)]:=rfl;rw [tp];have B:binOp .mul (.lst [PV.tup [.str d,.int 1]]) (.int (n:Int))=.ok (.lst (l0 n (rP (d,1)))):=m;generalize l0 n (rP (d,1))=Z at B i⊢;simp! only [hB,B,i]
  rw [bf,forL,G,vB];refine Eq.trans e ?_;rw [h,List.map_append,List.append_assoc,List.map_replicate]
section
variable{w:Nat}
def Js(F:aJ)(hr:mC F)(N:kg F)(O8:vI F)(hb:qB F)(L:Fl rows w)(V:Wk cl pr){P Q:List (Int×Int)}{q:Int×Int}(c:P=q::Q)(v:valid rows sl cl pr P)(hl:P.length<=36)(p r s t s8 s9 O B C:Ci.Slot):
 ∃t8 t9 yW yX Qd,aX F fB [p,.val (fl rows),.val (wk sl cl pr),r,.val (bK q),s,t,.val (way P),s8,s9,O,B,C]=.ok (.nx [p,.val (fl rows),.val (wk sl cl pr),r,.val (bK q),s,t,.val (way P),t8,t9,yW,yX,Qd]):=by
 have ne:P≠[]:=by rw [c];simp
 have S:cg rows q.1 q.2=ig:=v.1 q (by rw [c];exact dV ..);let(q0,q6,D,Wy):=DG L S;let(T,E):=AX v (by omega);obtain⟨U,n2⟩:Nc (runs P):=xP {(λx a=>by cases a),trivial};have g:∀x∈runs P,x.2<37:=λx a=>by let(gg,_):=kF (ds:=vD P) (m:=0) (R:=[]) (λx a=>by cases a) (j3 v);have:=(gg x a).2.2;rw [lX] at this;omega
 have u:Gr (runs P):=λx a=>{(T x a).1,U x a,g x a};have YI:(flat (runs P)).length<=35:=by rw [E,lX];omega
 have G:(runs P).length<=36:=by
  have:∀R:List (Str×Int),(∀x∈R,1<=x.2)->R.length<=(flat R).length:=λR=>by
   induction R with
   |nil=>intro _;exact Nat.zero_le _|cons x R ih=>intro h;have e:flat (x::R)=l0 x.2.toNat x.1++flat R:=rfl;have:=ih λy hy=>h y (c3 _ hy);have:=h x (dV ..);rw [e,dj,List.length_replicate,c6];omega
  have:=this _ U;omega
 have gs:Gr ((flat (runs P)).map λd=>(d,(1:Int))):=λx a=>by let(d,hd,rfl):=hG.1 a;rw [E] at hd;exact{j3 v d hd,Int.le_refl _,by show(1:Int)<37;decide}
 have ls:((flat (runs P)).map λd=>(d,(1:Int))).length<=36:=by rw [zzl];omega
 have H:q.1=((q.1.toNat:Nat):Int):=(Int.toNat_of_nonneg q0).symm;have I:q.2=((q.2.toNat:Nat):Int):=(Int.toNat_of_nonneg D).symm;have Xg:bK q=sp (q.1.toNat:Int) (q.2.toNat:Int):=by show PV.tup [.int q.1,.int q.2]=PV.tup [.int _,.int _];rw [<-H,<-I]
 have z:=hr rows w L sl cl pr V P ne hl v;have f:=N q.1.toNat q.2.toNat _ (by omega) (by omega) u G;have i:=O8 q.1.toNat q.2.toNat _ (by omega) (by omega) u G n2;have j:=hb rows w L sl cl pr V q (runs P) T (by omega) S;have k:=N q.1.toNat q.2.toNat _ (by omega) (by omega) gs ls;rw [<-Xg] at f i k;rw [E,c,Fi (by rw [<-c];exact v),<-c] at j;have np:=Hu (x:=q) (R:=runs P);have nw:=L4 P;have o:aB (way P) (.int 0)=.ok (bK q):=by rw [c];show Res.of (oF _ ((0:Nat):Int))=_;rw [iZ (by simp)];rfl
 have A:aB (.tup [bK q,cj (runs P)]) (.int 1)=.ok (cj (runs P)):=rfl;have W:(txt q.1.toNat q.2.toNat (runs P)).length<=cY:=eg (sj (by omega) (by omega) u G) (by decide);have X:(txt q.1.toNat q.2.toNat ((flat (runs P)).map λd=>(d,(1:Int)))).length<=cY:=eg (sj (by omega) (by omega) gs ls) (by decide);have le:decide (((txt q.1.toNat q.2.toNat ((flat (runs P)).map λd=>(d,(1:Int)))).length:Int)<((txt q.1.toNat q.2.toNat (runs P)).length:Int))=iv:=zz0 (by have:=Nk q.1.toNat q.2.toNat u;omega);let(Y,u',b):=nZ F [p,.val (fl rows),.val (wk sl cl pr),r,.val (bK q),s,t,.val (way P),.val (cj (runs P)),.val (.str (txt q.1.toNat q.2.toNat (runs P)))] rfl (runs P) [] B C u (by show 0+_<=100;omega);rw [List.nil_append] at b;have er:cj ((flat (runs P)).map λd=>(d,(1:Int)))=.lst ((flat (runs P)).map λd=>rP (d,1)):=by show PV.lst (List.map rP (List.map _ _))=_;rw [List.map_map];rfl
 rw [er] at k;generalize ((flat (runs P)).map λd=>rP (d,1))=Z at k b;generalize txt q.1.toNat q.2.toNat ((flat (runs P)).map λd=>(d,(1:Int)))=T2 at k X le;generalize txt q.1.toNat q.2.toNat (runs P)=T1 at f i b W le;have rr:cj (runs P)=.lst ((runs P).map rP):=rfl;rw [rr] at z f i j b np A;generalize (runs P).map rP=K at z f i j b np A;refine{.val (.lst K),.val (.str T1),.val (.lst Z),Y,u',?_};have M:aX F gB [p,.val (fl rows),.val (wk sl cl pr),r,.val (bK q),s,t,.val (way P),.val (.lst K),.val (.str T1),O,B,C]=.ok (.nx [p,.val (fl rows),.val (wk sl cl pr),r,.val (bK q),s,t,.val (way P),.val (.lst K),.val (.str T1),.val (.lst Z),Y,u']):=by generalize way P=WW at b o⊢;generalize bK q=SS at k b o⊢;simp! only [hB,List.cons_append,List.nil_append] at b;simp! only [gB,hB,b,Bj,o,k,W,X,le]
 generalize way P=WW at z j nw o M⊢;generalize bK q=SS at f i j np o A M⊢;simp! only [fB,z,o,f,i,np,A,j,nw,M]
end
theorem Yc{l:List PV}:nD (.tup l) .aG=.ok (.bl iv):=rfl
theorem Yb:nD .aG .aG=.ok (.bl ig):=rfl
def HU(F:aJ)(I:mB F)(Z:∀ns,∃rows w,Fl rows w/\F (zu 35) [fJ ns,.int 0,.int 5]=.ok (fl rows))(X5:∀ns,∃sl cl pr,Wk cl pr/\F (zu 21) [fJ ns,.int 40]=.ok (wk sl cl pr))(Jy:Fb F)(o:vF (F (zu 36)))(hs:JW (F (zu 8)))(K:mC F)(M:kg F)(N:vI F)(O:qB F)(ns:List Int):aq F cm [fJ ns]=.ok (.bl ig):=by
 let(rows,w,L,q):=Z ns;let(sl,cl,pr,V,s):=X5 ns;let(Sp,t,nd,l36,hm):=Jy rows L.yM
 have f:iL (.lst (Sp.map vc)) (.lst [])=.ok (.bl (decide (Sp=[]))):=by
  have eS:Sp.map vc=(Sp.map λp=>[(p.1:Int),(p.2:Int)]).map cb:=by rw [List.map_map];rfl
  rw [eS];refine(Xf _ []).trans ?_;simp
 have st:c8 cm [fJ ns]=[.val (fJ ns),.no,.no,.no,.no,.no,.no,.no,.no,.no,.no,.no,.no]:=rfl;have ar:c7 cm [fJ ns]=ig:=rfl;unfold aq;rw [ar,if_pos rfl,st,AN];by_cases u:Sp=[]
 .rw [zzh u] at f;dsimp! only [oA,q,s,t,f]
 .rw [zz0 u] at f;have XY:=List.length_pos_iff.2 u;let(m0,p0,a0,b0):=I ns 50 Sp.length (by decide) (by omega);let(m1,P,a1,b1):=I ns 51 Sp.length (by decide) (by omega);let(r,c,Q,R):=yT hm a0 b0;let(b,d,S,y):=yT hm a1 b1;let(x1,i,S1):=o rows w L sl cl pr V r c b d R y;let(x2,j,T):=hs rows w L sl cl pr V r c b d R y;have U:Jg rows [b,d]:=⟨b,d,rfl,y⟩
  rcases S1 with⟨rfl,N1⟩|⟨e,W1,rfl,T1,M1⟩
  .rcases T with⟨rfl,_⟩|⟨W,k,W2,rfl,T2,M2⟩
   .dsimp! only [oA,q,s,t,f,zzl,p0,P,Q,S,i,j,Yb]
   .exact absurd (EB T2) (N1 _)
  .rcases T with⟨rfl,k⟩|⟨W,k,W2,rfl,T2,M2⟩
   .exact absurd (EB T1) (k _)
   .let(a,w1,l1,v1,Q1,h1):=EG L V U T1 M1;let(g,w2,l2,v2,Q2,ug):=EG L V U T2 M2;rw [w1] at i;rw [w2] at j;let(z,A,B,C,D,m):=Js F K M N O L V h1 v1 l1 (.val (fJ ns)) (.val (.lst (Sp.map vc))) (.val (sp b d)) (.val (.tup [.int e,way a])) .no .no .no .no .no;let(u8,u9,E,G,H,h):=Js F K M N O L V ug v2 l2 (.val (fJ ns)) (.val (.lst (Sp.map vc))) (.val (sp b d)) (.val (.tup [.int e,way a])) z A B C D;have X:aB (.tup [.int e,way a]) (.int 1)=.ok (way a):=rfl;have Y:aB (.tup [.int W,.int k,way g]) (.int 2)=.ok (way g):=rfl;have eB:aX F oB [.val (fJ ns),.val (fl rows),.val (wk sl cl pr),.val (.lst (Sp.map vc)),.val (sp r c),.val (sp b d),.val (.tup [.int e,way a]),.no,.no,.no,.no,.no,.no]=.ok (.rt (.bl ig)):=by have m:aX F fB [.val (fJ ns),.val (fl rows),.val (wk sl cl pr),.val (.lst (Sp.map vc)),.val (sp r c),.val (sp b d),.val (.tup [.int e,way a]),.val (way a),.no,.no,.no,.no,.no]=.ok (.nx [.val (fJ ns),.val (fl rows),.val (wk sl cl pr),.val (.lst (Sp.map vc)),.val (sp r c),.val (sp b d),.val (.tup [.int e,way a]),.val (way a),z,A,B,C,D]):=m;have h:aX F fB [.val (fJ ns),.val (fl rows),.val (wk sl cl pr),.val (.lst (Sp.map vc)),.val (sp r c),.val (sp b d),.val (.tup [.int e,way a]),.val (way g),z,A,B,C,D]=.ok (.nx [.val (fJ ns),.val (fl rows),.val (wk sl cl pr),.val (.lst (Sp.map vc)),.val (sp r c),.val (sp b d),.val (.tup [.int e,way a]),.val (way g),u8,u9,E,G,H]):=h;generalize way a=A1 at i X m h⊢;generalize way g=A2 at j Y h⊢;dsimp! only [oB,j,X,Y,forL,m,h]
    dsimp! only [oA,q,s,t,f,zzl,p0,P,Q,S,i,Yc,eB]
abbrev zg:Ss:=#v[.ite (.not (.call (zu 37) #v[.comp 1 [1] (.one 0) (.seq (!0)) (.bin .add (!0) (.bin .mul (¬7919) (!1)))])) #v[.ret (.cst (.bl iv))] .nil,.ite (.cmp .eq (!0) (.lst .nil)) #v[.brk] .nil]
def vx(F:aJ)(a:∀ns,F (zu 37) [fJ ns]=.ok (.bl ig))(ns:List Int)(hl:ns.length<=63)(t:Int):aX F zg [.val (fJ ns),.val (.int t)]=.ok (if ns=[] then .bk [.val (fJ ns),.val (.int t)] else .nx [.val (fJ ns),.val (.int t)]):=by
 have l:ns.length<cY:=el hl (by decide);have s:(aN 7919||aN t)=ig:=by rw [gU];exact .inl (by decide)
 dsimp! only [zg,Rb,zzl,l];rw [cA (g:=λn:Int=>.int (n+7919*t)) (λn Z=>by dsimp! only [s])];have e:=a (ns.map λn=>n+7919*t);simp! [fJ,List.map_map,Function.comp_def] at e;dsimp! only [e,eq_nil];by_cases h:ns=[]
 .dsimp! only [h,decide_true]
 .dsimp! only [h,decide_false]
def LS(F:aJ)(a:∀ns,F (zu 37) [fJ ns]=.ok (.bl ig))(ns:List Int)(hl:ns.length<=63):aq F pK [fJ ns]=.ok (.bl ig):=by
 have e:∃t:Int,forL (λx env=>((Tg.one 1).put x env).bind λb=>aX F zg b) (fF 0 (8:Int).toNat) [.val (fJ ns),.no]=.ok (.nx [.val (fJ ns),.val (.int t)]):=by
  rw [show fF 0 (8:Int).toNat=[.int 0,.int 1,.int 2,.int 3,.int 4,.int 5,.int 6,.int 7] from rfl];by_cases h:ns=[]
  .refine{0,?_};simp! [forL,Qn,vB,List.set_cons_succ,List.set_cons_zero,vx F a ns hl,if_pos h]
  .refine{7,?_};simp! [forL,Qn,vB,List.set_cons_succ,List.set_cons_zero,vx F a ns hl,h,if_false]
 let(t,e):=e;have s:aW 8=ig:=by decide
 dsimp! only [zg] at e;dsimp! only [pK,s,e]
def O5(ns:List Int)(hl:ns.length<=63):aq (den Vx) pK [fJ ns]=.ok (.bl ig):=by
 have j:∀F:aJ,F (zu 3)=aq (den T2) bP->mB F:=λF g ns k q hk z=>by rw [g];exact Io (den T2) (λns k hk=>by rw [Ox];exact Fm _ ns k hk) ns k q hk z
 have N:∀F:aJ,F (zu 15)=aq (den T8) bW->mz F:=λF g f R r c=>by rw [g];exact Ia _ (λr c=>by rw [OB];exact v8 _ (λi=>by rw [OA];exact rb _ i) r c) (λf R r c=>by rw [OC];exact Pz _ f R r c) f R r c
 have D:∀F:aJ,F (zu 4)=aq (den T9) bh->my F:=λF g f R r c h=>by rw [g];exact rk _ (N _ OD) f R r c h
 have step:∀F:aJ,F (zu 12)=aq (den Fc) aS->mD F:=λF g f w L u cl m V r c H I h h'=>by rw [g];exact IM _ (λr c H I=>by rw [Fw];exact zt _ r c H I) (λf R r c H I=>by rw [Fy];exact vR _ (N _ Ku) R r c H I) (λf w L r c h=>by rw [Fx];exact Af _ (D _ Fv) L h) L V h h'
 have W9:Je (den JX):=λf R r c a b d e=>by rw [FC];exact J7 _ (N _ Kv) R a b d e
 have A:∀F:aJ,F (zu 31)=aq (den JX) cx->qA F:=λF g=>by unfold qA;rw [g];exact Eu _ (D _ Fz) W9 (step _ FA)
 have W:∀F:aJ,F (zu 26)=aq (den Nz) cL->lR F:=λF g=>by unfold lR;rw [g];exact wZ _ (A _ FE) (step _ FD)
 have Ux:JV (den JY):=by unfold JV;rw [FH];exact IK _ (W _ FF)
 have X:∀F:aJ,F (zu 18)=aq (den JY) cq->J0 F:=λF g f w L u cl m V r c h=>by rw [g];exact vd _ (D _ FG) Ux L V h
 have B:∀f w,Fl f w->∀u cl m,Wk cl m->∀K M G,vz (Et f u cl m) G K M->UP (den QK) f u cl m K M:=λf w L u cl m V K M G R r c a d O y h8=>by rw [FX];exact CB _ (λr c H I h=>by rw [FV];exact KH _ r c H I h) (λr c a O y=>by rw [FW];exact zr _ (W _ FU) L V R O y) O y h8
 have Uw:BA (den JZ):=λf w L u cl m V K M gr gc a R O y=>by rw [F1];exact IJ _ L (B f w L u cl m V K M _ R) O y
 have Y:∀F:aJ,F "traced"=aq (den QG) d7->BC F:=λF g {E s K M} R {mu} hm {k} hk {q} z=>by rw [g];exact Ba _ R hm hk z
 have str:JW (den sx (zu 8)):=by rw [Gh];exact M5 _ (D _ FY) (X _ FZ) Uw (Y _ F0)
 have C:vF (den sx (zu 36)):=by rw [Ge];exact Df _ (D _ FI) (X _ FJ) (Y _ FK)
 have MR:mC (den sx):=λf w L u cl m V P ne hl v=>by
  rw [Gf];refine AY _ ?_ (λp q=>by rw [FT];exact Gq _ _ _ _ _) ne (by omega);rw [FR];refine uJ _ ?_;rw [FQ];refine Am _ ?_ ?_ v
  .rw [FN];exact Ht _ (N _ Kw) L v.1 ne hl
  .rw [FP];exact BI _ (step _ FL) L V v.1 hl
 have o:kg (den sx):=λa b R y T Q hl=>by rw [Gg];exact xk y T Q hl _
 have t:∀F:aJ,F (zu 27)=aq (den QL) cJ->∀n,n<37->F (zu 27) [.str (tx n)]=.ok (.bl ig):=λF g n h=>by rw [g];exact B2 _ h
 have S:vI (den sx):=λa b R y T Q hl hj=>by
  rw [Gi];refine IB y T Q hl _ ?_ (λd n hd U Z=>?_) hj
  .rw [F6];refine A5 _ y T λn h=>?_;rw [F4];exact DY _ h (t _ F3 n h)
  .rw [F7];refine Eb _ hd U Z ?_;rw [F5];exact MF _ U Z (t _ F2 n U)
 have after:lO (den N6):=λf w L u cl m V q d z=>by rw [Gb];exact BG _ (λp d=>by rw [F9];exact zu _ p d) (N _ Kx) (step _ F8) L V q d z
 have Qt:qB (den sx):=λf w L u cl m V q R Q hl z=>by rw [Gj];exact EH _ after L V q (D _ Ga f L.yM q.1 q.2 z) Q hl z
 refine LS _ (λns=>?_) ns hl;rw [Gk];exact HU _ (j _ Ky) (λns=>by rw [Kz];exact zW _ (j _ Oy) ns 5 (by decide) (by decide)) (λns=>by rw [KA];exact Bg _ (j _ Oz) ns 40 (by decide)) (λf R=>by rw [KC];exact Ep _ f R) C str MR o S Qt ns
end K91
namespace Hd
open PySem.W L2
noncomputable abbrev fo(n:Str)(st:k7)(a:i1)(c:i6):Obj:={.type "function",ie,.func (fnOf n n (dy st) (cT st) (aU st) .none .none .none a ie (.ref c) .none),#[]}
noncomputable abbrev co(n:Str)(a:Nat)(L A:Int)(r:Nat)(x y:i1)(q z:Nat):Obj:={cls:=.type "code",data:=.fields #[.str n a,.str n (a+1),.str "/claim/cut.py" (a+2),.int L 0,.int A 0,.int 0 0,.int 0 0,.int 3 0,.ref r,.bool Bool.true,.int 181 0,.ref (r+1),.none,x,y,.ref q,.int z 0,.int L 0,.str "/claim/cut.py" (z+1)]}
abbrev Sw(s:k7):Pos:=match s with
 |.FunctionDef _ _ _ _ _ _ _ _ _ p=>p|_=>{0,0,0,0}
def ent{K:Frag}{ts:List (i6×Str)}{n:Str}(f c:i6)(b:i1)(a:nsIn K k8 n=ia (ia (.ref f)):=by kernel_rfl)(l:K.lookup f=ia (fo n st b c):=by kernel_rfl)(d:codeIn K (.ref c) n=ig:=by kernel_rfl)(k:keepIn K (.ref f)=ig:=by kernel_rfl):Ci.zm K ts iv n st:=Ci.Sx a l d k
def Gv{K:Frag}{ts:List (i6×Str)}{n:Str}(f c p:i6)(b:i1)(e:Ci.gy K c p)(m:(p,Ci.ng n)∈ts)(u:∀q∈ts,q.1=p->q.2=Ci.ng n)(a:nsIn K k8 n=ia (ia (.ref f)):=by kernel_rfl)(l:K.lookup f=ia (fo n st b c):=by kernel_rfl)(d:codeIn K (.ref c) n=ig:=by kernel_rfl)(k:keepIn K (.ref f)=ig:=by kernel_rfl):Ci.zm K ts ig n st:={f,_,_,_,_,_,_,_,_,_,a,l,d,k,λZ=>{c,p,rfl,e,m,λg h=>u _ h rfl}}
def ac{K:Frag}{ts:List (i6×Str)}{Γ:Ci.Pg}{r:Ci.Row}{l:Ci.dF}(e:Ci.zm K ts r.hl r.h r.st)(s:Ci.bF (Γ.at l r.hl) r.h r.d r.st)(t:Ci.AllK K ts Γ l)(a:(l.map (·.f)).contains r.f=iv:=by decide+kernel)(b:(r.d.iA.isNone==!Ci.ik r.f)=ig:=by decide+kernel)(c:r.d.iA.isNone=ig->r.f=r.h:=by first|exact λZ=>rfl|exact λz=>absurd z (by decide)):Ci.AllK K ts Γ (r::l):={e,s,⟨a,b,c⟩,t}
def Dk{K L:Frag}{b:i6}(e:K.lookup b=ia o):(K++L).lookup b=ia o:=by rw [List.lookup_append,e];rfl
end Hd
namespace K91
open L2 Ci
noncomputable abbrev lw:=PySem.Challenge.rw_cellways_k91_whole_ways_written
abbrev top(i:Nat):Stmt:=PySem.Challenge.pw_cellways_k91_whole_ways_written.main.body.getD i (.Pass {0,0,0,0})
noncomputable abbrev m1:Value:=.str "cellways.floors" 255
noncomputable abbrev m2:Value:=.str "cellways.ways" 398
noncomputable abbrev m3:Value:=.str "cellways.turns" 447
noncomputable abbrev m4:Value:=.str "cellways.texts" 549
noncomputable abbrev m5:Value:=.str "law_cellways_k91_whole_ways_written" 604
abbrev K(P:Params):zz8:=[(2,{cls:=.none,data:=.dict #[]}),
 (3,{cls:=.type "dict",data:=.dict #[Hd.de P (zu 40) 165 (.str "law_cellways_k91_whole_ways_written" 604),Hd.de P "__doc__" 166 (.none),Hd.de P "__package__" 167 (.none),Hd.de P "__loader__" 168 (.builtin "__main__.__loader__#opaque"),Hd.de P "__spec__" 169 (.none),Hd.de P "__annotations__" 170 (.ref 6),Hd.de P "__builtins__" 171 (.ref 4),Hd.de P "__file__" 173 (.str "/claim/cut.py" 172),Hd.de P "__cached__" 174 (.none),Hd.de P (zu 23) 206 (.ref 24),Hd.de P "NoSpot" 222 (.ref 37),Hd.de P "NoWay" 238 (.ref 49),Hd.de P "NoText" 254 (.ref 61),Hd.de P "WALL" 258 (.str "#" 257),Hd.de P "STRAIGHT_COST" 260 (.int 2 259),Hd.de P "SLANTING_COST" 262 (.int 3 261),Hd.de P (zu 50) 269 (.ref 70),Hd.de P "is_spot" 276 (.ref 77),Hd.de P (zu 29) 284 (.ref 84),Hd.de P (zu 15) 292 (.ref 91),Hd.de P (zu 4) 300 (.ref 98),Hd.de P (zu 42) 308 (.ref 105),Hd.de P (zu 9) 319 (.ref 112),Hd.de P (zu 39) 327 (.ref 119),Hd.de P (zu 10) 336 (.ref 126),Hd.de P (zu 12) 349 (.ref 133),Hd.de P (zu 31) 361 (.ref 140),Hd.de P (zu 26) 367 (.ref 145),Hd.de P (zu 2) 373 (.ref 150),Hd.de P "is_way" 382 (.ref 157),Hd.de P (zu 30) 388 (.ref 162),Hd.de P "need_way" 397 (.ref 169),Hd.de P "spread" 414 (.ref 176),Hd.de P (zu 18) 426 (.ref 183),Hd.de P "traced" 435 (.ref 190),Hd.de P (zu 36) 446 (.ref 197),Hd.de P "DIRECTIONS" 457 (.ref 198),Hd.de P (zu 7) 467 (.ref 205),Hd.de P (zu 28) 477 (.ref 212),Hd.de P "runs_of" 490 (.ref 219),Hd.de P (zu 33) 501 (.ref 226),Hd.de P "way_by" 515 (.ref 233),Hd.de P (zu 22) 528 (.ref 240),Hd.de P (zu 6) 542 (.ref 247),Hd.de P (zu 8) 548 (.ref 252),Hd.de P "DIGITS" 552 (.str (zu 17) 551),Hd.de P "MOST_DIGITS" 554 (.int 3 553),Hd.de P (zu 13) 560 (.ref 257),Hd.de P (zu 27) 566 (.ref 262),Hd.de P (zu 5) 573 (.ref 269),Hd.de P (zu 32) 580 (.ref 276),Hd.de P (zu 45) 588 (.ref 283),Hd.de P (zu 49) 597 (.ref 290),Hd.de P (zu 25) 603 (.ref 295),Hd.de P (zu 46) 613 (.ref 302),Hd.de P (zu 3) 623 (.ref 309),Hd.de P (zu 35) 641 (.ref 316),Hd.de P (zu 21) 649 (.ref 323),Hd.de P (zu 34) 655 (.ref 328),Hd.de P (zu 37) 674 (.ref 335),Hd.de P "law" 680 (.ref 340)] 61}),
 (4,{cls:=.type "module",dict:=ia builtinsNs,data:=.plain}),
 (23,{cls:=.type "dict",data:=.dict #[Hd.de P "__module__" 196 (.str "cellways.errors" 187),Hd.de P "__firstlineno__" 200 (.int 2 199),Hd.de P (zu 43) 201 (.ref 22),Hd.de P "__weakref__" 203 (.ref 25),Hd.de P "__doc__" 204 (.none)] 3}),
 (24,{cls:=.type "type",data:=.cls {name:=(zu 23),bases:=[.type (zu 19)],mro:=[.ref 24,.type (zu 19),.type "Exception",.type (zu 38),.type "object"],ns:=23,qualname:=(zu 23),subclasses:=[.ref 37,.ref 49,.ref 61]},slots:=#[ia (.ref 15),ie,ia (.str (zu 23) 189),ia (.str (zu 23) 197),ia (.builtin (zu 14)),ia (.bool Bool.true)]}),
 (36,{cls:=.type "dict",data:=.dict #[Hd.de P "__module__" 214 (.str "cellways.errors" 187),Hd.de P "__firstlineno__" 218 (.int 4 217),Hd.de P (zu 43) 219 (.ref 35),Hd.de P "__doc__" 220 (.none)] 2}),
 (37,{cls:=.type "type",data:=.cls {name:="NoSpot",bases:=[.ref 24],mro:=[.ref 37,.ref 24,.type (zu 19),.type "Exception",.type (zu 38),.type "object"],ns:=36,qualname:="NoSpot"},slots:=#[ia (.ref 28),ie,ia (.str "NoSpot" 207),ia (.str "NoSpot" 215),ia (.builtin (zu 14)),ia (.bool Bool.true)]}),
 (48,{cls:=.type "dict",data:=.dict #[Hd.de P "__module__" 230 (.str "cellways.errors" 187),Hd.de P "__firstlineno__" 234 (.int 6 233),Hd.de P (zu 43) 235 (.ref 47),Hd.de P "__doc__" 236 (.none)] 2}),
 (49,{cls:=.type "type",data:=.cls {name:="NoWay",bases:=[.ref 24],mro:=[.ref 49,.ref 24,.type (zu 19),.type "Exception",.type (zu 38),.type "object"],ns:=48,qualname:="NoWay"},slots:=#[ia (.ref 40),ie,ia (.str "NoWay" 223),ia (.str "NoWay" 231),ia (.builtin (zu 14)),ia (.bool Bool.true)]}),
 (60,{cls:=.type "dict",data:=.dict #[Hd.de P "__module__" 246 (.str "cellways.errors" 187),Hd.de P "__firstlineno__" 250 (.int 8 249),Hd.de P (zu 43) 251 (.ref 59),Hd.de P "__doc__" 252 (.none)] 2}),
 (61,{cls:=.type "type",data:=.cls {name:="NoText",bases:=[.ref 24],mro:=[.ref 61,.ref 24,.type (zu 19),.type "Exception",.type (zu 38),.type "object"],ns:=60,qualname:="NoText"},slots:=#[ia (.ref 52),ie,ia (.str "NoText" 239),ia (.str "NoText" 247),ia (.builtin (zu 14)),ia (.bool Bool.true)]}),
 zx5 69 (zu 50) 263 14 1 64 267,
 zx3 70 (zu 50) 9 m1,
 zx5 76 "is_spot" 270 16 1 71 274,
 zx3 77 "is_spot" 10 m1,
 zx5 83 (zu 29) 277 18 2 78 282,
 zx3 84 (zu 29) 11 m1,
 zx5 90 (zu 15) 285 20 2 85 290,
 zx3 91 (zu 15) 12 m1,
 zx5 97 (zu 4) 293 22 2 92 298,
 zx3 98 (zu 4) 13 m1,
 zx5 104 (zu 42) 301 25 2 99 306,
 zx3 105 (zu 42) 14 m1,
 zx5 111 (zu 9) 309 28 2 106 317,
 zx3 112 (zu 9) 15 m1,
 zx5 118 (zu 39) 320 35 2 113 325,
 zx3 119 (zu 39) 16 m1,
 zx5 125 (zu 10) 328 37 3 120 334,
 zx3 126 (zu 10) 17 m1,
 zx5 132 (zu 12) 337 39 4 127 347,
 zx3 133 (zu 12) 18 m1,
 zx5 139 (zu 31) 350 50 3 134 359,
 zx3 140 (zu 31) 19 m1,
 (144,Hd.co (zu 26) 362 58 3 141 .none .none 143 365),
 zx3 145 (zu 26) 20 m1,
 (149,Hd.co (zu 2) 368 60 2 146 .none .none 148 371),
 zx3 150 (zu 2) 21 m1,
 zx5 156 "is_way" 374 64 3 151 380,
 zx3 157 "is_way" 22 m1,
 (161,Hd.co (zu 30) 383 66 3 158 .none .none 160 386),
 zx3 162 (zu 30) 23 m1,
 zx5 168 "need_way" 389 68 3 163 395,
 zx3 169 "need_way" 24 m1,
 zx5 175 "spread" 400 72 2 170 412,
 zx3 176 "spread" 26 m2,
 zx5 182 (zu 18) 415 85 3 177 424,
 zx3 183 (zu 18) 27 m2,
 zx5 189 "traced" 427 89 2 184 433,
 zx3 190 "traced" 28 m2,
 zx5 196 (zu 36) 436 94 4 191 444,
 zx3 197 (zu 36) 29 m2,
 (198,{cls:=.type "tuple",data:=.seq #[.str "n" 449,.str "s" 450,.str "w" 451,.str "e" 452,.str "ne" 453,.str "nw" 454,.str "se" 455,.str "sw" 456]}),
 zx5 204 (zu 7) 458 102 2 199 465,
 zx3 205 (zu 7) 32 m3,
 zx5 211 (zu 28) 468 106 2 206 475,
 zx3 212 (zu 28) 33 m3,
 zx5 218 "runs_of" 478 110 3 213 488,
 zx3 219 "runs_of" 34 m3,
 zx5 225 (zu 33) 491 120 4 220 499,
 zx3 226 (zu 33) 35 m3,
 zx5 232 "way_by" 502 125 4 227 513,
 zx3 233 "way_by" 36 m3,
 zx5 239 (zu 22) 516 134 4 234 526,
 zx3 240 (zu 22) 37 m3,
 zx5 246 (zu 6) 529 140 4 241 540,
 zx3 247 (zu 6) 38 m3,
 (251,Hd.co (zu 8) 543 147 4 248 .none .none 250 546),
 zx3 252 (zu 8) 39 m3,
 (256,Hd.co (zu 13) 555 159 2 253 .none .none 255 558),
 zx3 257 (zu 13) 43 m4,
 (261,Hd.co (zu 27) 561 163 1 258 .none .none 260 564),
 zx3 262 (zu 27) 44 m4,
 zx5 268 (zu 5) 567 167 1 263 571,
 zx3 269 (zu 5) 45 m4,
 zx5 275 (zu 32) 574 169 1 270 578,
 zx3 276 (zu 32) 46 m4,
 zx5 282 (zu 45) 581 173 1 277 586,
 zx3 283 (zu 45) 47 m4,
 zx5 289 (zu 49) 589 178 1 284 595,
 zx3 290 (zu 49) 48 m4,
 (294,Hd.co (zu 25) 598 184 1 291 .none .none 293 601),
 zx3 295 (zu 25) 49 m4,
 zx5 301 (zu 46) 606 192 2 296 611,
 zx3 302 (zu 46) 51 m5,
 zx5 308 (zu 3) 614 198 3 303 621,
 zx3 309 (zu 3) 52 m5,
 zx5 315 (zu 35) 624 201 3 310 639,
 zx3 316 (zu 35) 53 m5,
 zx5 322 (zu 21) 642 214 2 317 647,
 zx3 323 (zu 21) 54 m5,
 (327,Hd.co (zu 34) 650 216 1 324 .none .none 326 653),
 zx3 328 (zu 34) 55 m5,
 zx5 334 (zu 37) 656 221 1 329 672,
 zx3 335 (zu 37) 56 m5,
 (339,Hd.co "law" 675 243 1 336 .none .none 338 678),
 zx3 340 "law" 57 m5]
abbrev ts:List (i6×Str):=[(171,ng "spread"),(178,ng (zu 18)),(249,ng (zu 8))]
abbrev K2(P:Params):zz8:=K P++[(171,PySem.W.tabObj #[]),(178,PySem.W.tabObj #[]),(249,PySem.W.tabObj #[])]
abbrev as:List Addr:=[2,3,4,23,24,36,37,48,49,60,61,69,70,76,77,83,84,90,91,97,98,104,105,111,112,118,119,125,126,132,133,139,140,144,145,149,150,156,157,161,162,168,169,175,176,182,183,189,190,196,197,198,204,205,211,212,218,219,225,226,232,233,239,240,246,247,251,252,256,257,261,262,268,269,275,276,282,283,289,290,294,295,301,302,308,309,315,316,322,323,327,328,334,335,339,340,171,178,249]
abbrev Γ:Pg:={[("WALL",(.str "#")),("STRAIGHT_COST",(.int 2)),("SLANTING_COST",(.int 3)),("DIRECTIONS",(.tup [(.str "n"),(.str "s"),(.str "w"),(.str "e"),(.str "ne"),(.str "nw"),(.str "se"),(.str "sw")])),("DIGITS",(.str (zu 17))),("MOST_DIGITS",(.int 3))],["len","abs","max","min","int","str","list","tuple","all","isinstance","bool","range",zu 0,"zip","any"],[],[],["NoSpot","NoText","NoWay"],[],iv,iv,[]}
def R0:dF:=[]
def vh:bF (Γ.at R0 iv) (zu 50) eU (top 9):=stM λZ Z Z Z Z Z=>Hd.BK λZ=>rfl
abbrev R1:dF:=zx2 (zu 50) eU 9 iv::R0
def rO:bF (Γ.at R1 iv) (zu 46) dc (top 51):=stM λZ Z Z Z Z Z=>Hd.vK λZ Z=>rfl
abbrev R2:dF:=zx2 (zu 46) dc 51 iv::R1
def rR:bF (Γ.at R2 iv) (zu 3) bP (top 52):=stM λZ Z Z Z Z Z=>Hd.EN λZ Z Z=>rfl
abbrev R3:dF:=zx2 (zu 3) bP 52 iv::R2
def oZ:bF (Γ.at R3 iv) (zu 35) cu (top 53):=stM λZ Z Z Z Z Z=>Hd.EN λZ Z Z=>rfl
abbrev R4:dF:=zx2 (zu 35) cu 53 iv::R3
def nU:bF (Γ.at R4 iv) (zu 21) cB (top 54):=stM λZ Z Z Z Z Z=>Hd.vK λZ Z=>rfl
abbrev R5:dF:=zx2 (zu 21) cB 54 iv::R4
def o5:bF (Γ.at R5 iv) (zu 34) cN (top 55):=stM λZ Z Z Z Z Z=>Hd.BK λZ=>rfl
abbrev R6:dF:=zx2 (zu 34) cN 55 iv::R5
def wX:bF (Γ.at R6 iv) "is_spot" eN (top 10):=stM λZ Z Z Z Z Z=>Hd.BK λZ=>rfl
abbrev R7:dF:=zx2 "is_spot" eN 10 iv::R6
def nW:bF (Γ.at R7 iv) (zu 29) cD (top 11):=stM λZ Z Z Z Z Z=>Hd.vK λZ Z=>rfl
abbrev R8:dF:=zx2 (zu 29) cD 11 iv::R7
def wW:bF (Γ.at R8 iv) (zu 15) bW (top 12):=stM λZ Z Z Z Z Z=>Hd.vK λZ Z=>rfl
abbrev R9:dF:=zx2 (zu 15) bW 12 iv::R8
def rV:bF (Γ.at R9 iv) (zu 4) bh (top 13):=stM λZ Z Z Z Z Z=>Hd.vK λZ Z=>rfl
abbrev UQ:dF:=zx2 (zu 4) bh 13 iv::R9
def o7:bF (Γ.at UQ iv) (zu 39) cO (top 16):=stM λZ Z Z Z Z Z=>Hd.vK λZ Z=>rfl
abbrev UR:dF:=zx2 (zu 39) cO 16 iv::UQ
def rS:bF (Γ.at UR iv) (zu 42) df (top 14):=stM λZ Z Z Z Z Z=>Hd.vK λZ Z=>rfl
abbrev US:dF:=zx2 (zu 42) df 14 iv::UR
def iN:bF (Γ.at US iv) (zu 10) bp (top 17):=stM λZ Z Z Z Z Z=>Hd.EN λZ Z Z=>rfl
abbrev UT:dF:=zx2 (zu 10) bp 17 iv::US
def rZ:bF (Γ.at UT iv) (zu 12) aS (top 18):=stM λZ Z Z Z Z Z=>Hd.J6 λZ Z Z Z=>rfl
abbrev UU:dF:=zx2 (zu 12) aS 18 iv::UT
def ip:bF (Γ.at UU iv) (zu 9) bg (top 15):=stM λZ Z Z Z Z Z=>Hd.vK λZ Z=>rfl
abbrev UW:dF:=zx2 (zu 9) bg 15 iv::UU
def o9:bF (Γ.at UW iv) (zu 31) cx (top 19):=stM λZ Z Z Z Z Z=>Hd.EN λZ Z Z=>rfl
abbrev UX:dF:=zx2 (zu 31) cx 19 iv::UW
def vk:bF (Γ.at UX iv) (zu 26) cL (top 20):=stM λZ Z Z Z Z Z=>Hd.EN λZ Z Z=>rfl
abbrev UY:dF:=zx2 (zu 26) cL 20 iv::UX
def gJ:bF (Γ.at UY ig) "spread" bt (top 26):=stM λZ Z Z Z Z Z=>Hd.vK λZ Z=>rfl
abbrev UZ:dF:={zu 48,"spread",bt,top 26,ig}::UY
def rY:bF (Γ.at UZ ig) (zu 18) cq (top 27):=stM λZ Z Z Z Z Z=>Hd.EN λZ Z Z=>rfl
abbrev U0:dF:=zx2 (zu 18) cq 27 ig::UZ
def A8:bF (Γ.at U0 iv) "traced" d7 (top 28):=stM λZ Z Z Z Z Z=>Hd.vK λZ Z=>rfl
abbrev U1:dF:=zx2 "traced" d7 28 iv::U0
def rT:bF (Γ.at U1 iv) (zu 36) cK (top 29):=stM λZ Z Z Z Z Z=>Hd.J6 λZ Z Z Z=>rfl
abbrev U2:dF:=zx2 (zu 36) cK 29 iv::U1
def fH:bF (Γ.at U2 iv) (zu 2) aH (top 21):=stM λZ Z Z Z Z Z=>Hd.vK λZ Z=>rfl
abbrev U3:dF:=zx2 (zu 2) aH 21 iv::U2
def nV:bF (Γ.at U3 iv) (zu 30) cC (top 23):=stM λZ Z Z Z Z Z=>Hd.EN λZ Z Z=>rfl
abbrev U4:dF:=zx2 (zu 30) cC 23 iv::U3
def A7:bF (Γ.at U4 iv) "is_way" fN (top 22):=stM λZ Z Z Z Z Z=>Hd.EN λZ Z Z=>rfl
abbrev U5:dF:=zx2 "is_way" fN 22 iv::U4
def vi:bF (Γ.at U5 iv) "need_way" dJ (top 24):=stM λZ Z Z Z Z Z=>Hd.EN λZ Z Z=>rfl
abbrev U6:dF:=zx2 "need_way" dJ 24 iv::U5
def lI:bF (Γ.at U6 iv) (zu 7) aj (top 32):=stM λZ Z Z Z Z Z=>Hd.vK λZ Z=>rfl
abbrev U7:dF:=zx2 (zu 7) aj 32 iv::U6
def wY:bF (Γ.at U7 iv) "runs_of" eO (top 34):=stM λZ Z Z Z Z Z=>Hd.EN λZ Z Z=>rfl
abbrev U8:dF:=zx2 "runs_of" eO 34 iv::U7
def lK:bF (Γ.at U8 iv) (zu 13) bY (top 43):=stM λZ Z Z Z Z Z=>Hd.vK λZ Z=>rfl
abbrev Va:dF:=zx2 (zu 13) bY 43 iv::U8
def lJ:bF (Γ.at Va iv) (zu 22) bX (top 37):=stM λZ Z Z Z Z Z=>Hd.J6 λZ Z Z Z=>rfl
abbrev Vb:dF:=zx2 (zu 22) bX 37 iv::Va
def je:bF (Γ.at Vb iv) (zu 6) bw (top 38):=stM λZ Z Z Z Z Z=>Hd.J6 λZ Z Z Z=>rfl
abbrev Vc:dF:=zx2 (zu 6) bw 38 iv::Vb
def eC:bF (Γ.at Vc ig) "spread" aE (top 26):=stM λZ Z Z Z Z Z=>Hd.vK λZ Z=>rfl
abbrev Vd:dF:={zu 20,"spread",aE,top 26,ig}::Vc
def nY:bF (Γ.at Vd ig) (zu 8) bT (top 39):=stM λZ Z Z Z Z Z=>Hd.J6 λZ Z Z Z=>rfl
abbrev Ve:dF:=zx2 (zu 8) bT 39 ig::Vd
def vg:bF (Γ.at Ve iv) (zu 27) cJ (top 44):=stM λZ Z Z Z Z Z=>Hd.BK λZ=>rfl
abbrev Vf:dF:=zx2 (zu 27) cJ 44 iv::Ve
def il:bF (Γ.at Vf iv) (zu 5) bb (top 45):=stM λZ Z Z Z Z Z=>Hd.BK λZ=>rfl
abbrev Vg:dF:=zx2 (zu 5) bb 45 iv::Vf
def o8:bF (Γ.at Vg iv) (zu 32) cQ (top 46):=stM λZ Z Z Z Z Z=>Hd.BK λZ=>rfl
abbrev Vi:dF:=zx2 (zu 32) cQ 46 iv::Vg
def rX:bF (Γ.at Vi iv) (zu 45) dh (top 47):=stM λZ Z Z Z Z Z=>Hd.BK λZ=>rfl
abbrev Vj:dF:=zx2 (zu 45) dh 47 iv::Vi
def vj:bF (Γ.at Vj iv) (zu 49) dM (top 48):=stM λZ Z Z Z Z Z=>Hd.BK λZ=>rfl
abbrev Vk:dF:=zx2 (zu 49) dM 48 iv::Vj
def rW:bF (Γ.at Vk iv) (zu 25) dg (top 49):=stM λZ Z Z Z Z Z=>Hd.BK λZ=>rfl
abbrev Vl:dF:=zx2 (zu 25) dg 49 iv::Vk
def nX:bF (Γ.at Vl iv) (zu 28) cE (top 33):=stM λZ Z Z Z Z Z=>Hd.vK λZ Z=>rfl
abbrev Vm:dF:=zx2 (zu 28) cE 33 iv::Vl
def o6:bF (Γ.at Vm iv) (zu 33) bQ (top 35):=stM λZ Z Z Z Z Z=>Hd.J6 λZ Z Z Z=>rfl
abbrev Vn:dF:=zx2 (zu 33) bQ 35 iv::Vm
def A9:bF (Γ.at Vn iv) "way_by" eV (top 36):=stM λZ Z Z Z Z Z=>Hd.J6 λZ Z Z Z=>rfl
abbrev Vo:dF:=zx2 "way_by" eV 36 iv::Vn
def rQ:bF (Γ.at Vo iv) (zu 37) cm (top 56):=stM λZ Z Z Z Z Z=>Hd.BK λZ=>rfl
abbrev QF:dF:=zx2 (zu 37) cm 56 iv::Vo
def M3:bF (Γ.at QF iv) "law" pK (top 57):=stM λZ Z Z Z Z Z=>Hd.BK λZ=>rfl
def kA(P:Params):gy (K P) 175 171:={Hd.co "spread" 400 72 2 170 (.ref 172) (.ref 173) 174 412,_,_,_,_,_,_,_,_,by kernel_rfl,rfl,rfl,rfl,rfl,rfl,rfl,rfl,rfl,by decide}
def jq(P:Params):gy (K P) 182 178:={Hd.co (zu 18) 415 85 3 177 (.ref 179) (.ref 180) 181 424,_,_,_,_,_,_,_,_,by kernel_rfl,rfl,rfl,rfl,rfl,rfl,rfl,rfl,rfl,by decide}
def gW(P:Params):gy (K P) 251 249:={Hd.co (zu 8) 543 147 4 248 .none .none 250 546,_,_,_,_,_,_,_,_,by kernel_rfl,rfl,rfl,rfl,rfl,rfl,rfl,rfl,rfl,by decide}
def O6(ns:List Int)(hl:ns.length<=63):aq (den (tab QF)) pK [.lst (ns.map .int)]=.ok (.bl ig):=O5 ns hl
def Sk(P:Params):AllK (K P) ts Γ QF:=
 Hd.ac (Hd.ent 335 334 m5) rQ <| Hd.ac (Hd.ent 233 232 m3) A9 <| Hd.ac (Hd.ent 226 225 m3) o6 <| Hd.ac (Hd.ent 212 211 m3) nX <| Hd.ac (Hd.ent 295 294 m4) rW <| Hd.ac (Hd.ent 290 289 m4) vj <| Hd.ac (Hd.ent 283 282 m4) rX <| Hd.ac (Hd.ent 276 275 m4) o8 <| Hd.ac (Hd.ent 269 268 m4) il <| Hd.ac (Hd.ent 262 261 m4) vg <| Hd.ac (Hd.Gv 252 251 249 m3 (gW P) (by decide+kernel) (by decide+kernel)) nY <| Hd.ac (Hd.Gv 176 175 171 m2 (kA P) (by decide+kernel) (by decide+kernel)) eC <| Hd.ac (Hd.ent 247 246 m3) je <| Hd.ac (Hd.ent 240 239 m3) lJ <| Hd.ac (Hd.ent 257 256 m4) lK <| Hd.ac (Hd.ent 219 218 m3) wY <| Hd.ac (Hd.ent 205 204 m3) lI <| Hd.ac (Hd.ent 169 168 m1) vi <| Hd.ac (Hd.ent 157 156 m1) A7 <| Hd.ac (Hd.ent 162 161 m1) nV <| Hd.ac (Hd.ent 150 149 m1) fH <| Hd.ac (Hd.ent 197 196 m2) rT <| Hd.ac (Hd.ent 190 189 m2) A8 <| Hd.ac (Hd.Gv 183 182 178 m2 (jq P) (by decide+kernel) (by decide+kernel)) rY <| Hd.ac (Hd.Gv 176 175 171 m2 (kA P) (by decide+kernel) (by decide+kernel)) gJ <| Hd.ac (Hd.ent 145 144 m1) vk <| Hd.ac (Hd.ent 140 139 m1) o9 <| Hd.ac (Hd.ent 112 111 m1) ip <| Hd.ac (Hd.ent 133 132 m1) rZ <| Hd.ac (Hd.ent 126 125 m1) iN <| Hd.ac (Hd.ent 105 104 m1) rS <| Hd.ac (Hd.ent 119 118 m1) o7 <| Hd.ac (Hd.ent 98 97 m1) rV <| Hd.ac (Hd.ent 91 90 m1) wW <| Hd.ac (Hd.ent 84 83 m1) nW <| Hd.ac (Hd.ent 77 76 m1) wX <| Hd.ac (Hd.ent 328 327 m5) o5 <| Hd.ac (Hd.ent 323 322 m5) nU <| Hd.ac (Hd.ent 316 315 m5) oZ <| Hd.ac (Hd.ent 309 308 m5) rR <| Hd.ac (Hd.ent 302 301 m5) rO <| Hd.ac (Hd.ent 70 69 m1) vh trivial
structure E5(K:zz8)(d:Str)(D:i6):Prop where
 e:PySem.W.nsIn K k8 d=ia (ia (.ref D))
 xc:J3 K D
 vt:PySem.W.kitOne K (.ref D) (.type (zu 19))=ia ig
 ex:PySem.W.excIn K D Ce (zu 14)=ig
def Ki{K:zz8}{d:Str}{D:i6}(e:PySem.W.nsIn K k8 d=ia (ia (.ref D)):=by kernel_rfl)(i:PySem.W.isClsIn K D=ig:=by kernel_rfl)(v:PySem.W.subIn K (.ref D) (.type (zu 19))=ia ig:=by kernel_rfl)(ga:PySem.W.findIn K (.ref D) "__getattribute__"=ia (ia (.builtin "BaseException.__getattribute__")):=by kernel_rfl)(hk:PySem.W.findIn K (.ref D) "__getattr__"=ia ie:=by kernel_rfl)
 (cl:PySem.W.findIn K (.ref D) "__class__"=ia (ia (.builtin "object.__class__")):=by kernel_rfl) (mo:PySem.W.mroIn K D (.type "object")=ia ig:=by kernel_rfl) (mb:PySem.W.mroIn K D (.type (zu 38))=ia ig:=by kernel_rfl) (ex:PySem.W.excIn K D Ce (zu 14)=ig:=by kernel_rfl):E5 K d D:=
 {e,⟨ga,hk,cl,mo,mb,i⟩,C6 (by decide+kernel) v,ex}
def TJ(P:Params)(X:(K P).In h)(G:h.Ns k8 mg):vG (K P) mg Γ {K P,mg,["NoSpot","NoText","NoWay"],ts}:=by
 have f:∀{x:Str} {u:i1},PySem.W.nsIn (K P) k8 x=ia (ia u)->mg x=ia u:=λa=>PySem.W.mg_of X G a;have b:∀{x:Str},PySem.W.nsIn (K P) k8 x=ia ie->mg x=ie:=λa=>PySem.W.mg_none_of X G a;have k:E5 (K P) "NoSpot" 37:=Ki;have m:E5 (K P) "NoText" 61:=Ki;have o:E5 (K P) "NoWay" 49:=Ki;refine{rfl,rfl,λq r=>?_,λg w=>?_,by decide+kernel,λc j=>?_,λd hd D p=>?_,λc j=>?_,λc j=>?_,λz=>absurd z (by decide+kernel),λZ=>{4,{.type "module",ia builtinsNs,.plain,#[]},f (by kernel_rfl),by decide,by decide,by kernel_rfl,rfl,rfl,rfl}}
 .simp! [Γ,fP,List.not_mem_nil,or_false] at r;rcases r with rfl|rfl|rfl|rfl|rfl|rfl
  .exact{.str "#" 257,.str "#",f (by kernel_rfl),{_,rfl},λG=>.s}
  .exact{.int 2 259,.int 2,f (by kernel_rfl),{_,rfl},λG=>.i}
  .exact{.int 3 261,.int 3,f (by kernel_rfl),{_,rfl},λG=>.i}
  .exact{.ref 198,.ref 198,f (by kernel_rfl),rfl,λG=>.t (vs:=[.str "n",.str "s",.str "w",.str "e",.str "ne",.str "nw",.str "se",.str "sw"]) (.inr {.inr {_,_,_,(show(K P).lookup 198=ia {.type "tuple",ie,.seq #[.str "n" 449,.str "s" 450,.str "w" 451,.str "e" 452,.str "ne" 453,.str "nw" 454,.str "se" 455,.str "sw" 456],#[]} by kernel_rfl),rfl,rfl,(show 8<=k6 by decide),(.cons {_,rfl} (.cons {_,rfl} (.cons {_,rfl} (.cons {_,rfl} (.cons {_,rfl} (.cons {_,rfl} (.cons {_,rfl} (.cons {_,rfl} .nil))))))))},{_,.head _},λc z=>by simp at z}) (.cons .s (.cons .s (.cons .s (.cons .s (.cons .s (.cons .s (.cons .s (.cons .s .nil))))))))}
  .exact{.str (zu 17) 551,.str (zu 17),f (by kernel_rfl),{_,rfl},λG=>.s}
  .exact{.int 3 553,.int 3,f (by kernel_rfl),{_,rfl},λG=>.i}
 .simp! [Γ,fP,List.not_mem_nil,or_false] at w;rcases w with rfl|rfl|rfl|rfl|rfl|rfl|rfl|rfl|rfl|rfl|rfl|rfl|rfl|rfl|rfl<;>exact b (by kernel_rfl)
 .simp! [Γ,fP,List.not_mem_nil,or_false] at j
 .simp! [fP,List.not_mem_nil,or_false] at hd;rcases hd with rfl|rfl|rfl
  .cases(f k.e).symm.trans p;refine{k.xc,λc j C hC=>?_,k.vt};simp! [Γ,fP,List.not_mem_nil,or_false] at j
  .cases(f m.e).symm.trans p;refine{m.xc,λc j C hC=>?_,m.vt};simp! [Γ,fP,List.not_mem_nil,or_false] at j
  .cases(f o.e).symm.trans p;refine{o.xc,λc j C hC=>?_,o.vt};simp! [Γ,fP,List.not_mem_nil,or_false] at j
 .simp! [Γ,fS,fP,List.not_mem_nil,or_false] at j⊢;exact j
 .simp! [Γ,fS,fP,List.not_mem_nil,or_false] at j;rcases j with rfl|rfl|rfl
  .exact{_,f k.e,k.ex}
  .exact{_,f m.e,m.ex}
  .exact{_,f o.e,o.ex}
def hY{P:Params}(X:(K2 P).In h):(K P).In h/\∀p∈ts.map (·.1),h.get? p=ia (PySem.W.tabObj #[]):={λb o e=>X b o (Hd.Dk e),λp a=>by simp! [ts,bf,List.map_nil,fP,List.not_mem_nil,or_false] at a;rcases a with rfl|rfl|rfl<;>exact X _ _ (by kernel_rfl)
}
def hC(P:Params):∀p∈ts.map (·.1),(∃c,gy (K P) c p)/\(K P).lookup p=ie:=λp a=>by
 simp! [ts,bf,List.map_nil,fP,List.not_mem_nil,or_false] at a;rcases a with rfl|rfl|rfl
 .exact{{_,kA P},by kernel_rfl}
 .exact{{_,jq P},by kernel_rfl}
 .exact{{_,gW P},by kernel_rfl}
abbrev keep:List Nat:=[1,2,3,4,6,7,8,9,10,11,12,13,14,15,16,17,18,19,20,21,22,23,24,26,27,28,29,31,32,33,34,35,36,37,38,39,41,42,43,44,45,46,47,48,49,51,52,53,54,55,56,57]
def ka:∀P,as=(K2 P).map (·.1):=λZ=>by kernel_rfl
def left:PySem.W.LeftO lw.row.prog (PySem.W.view lw.row.prog keep) [] (λs=>PySem.W.xlAt (PySem.W.view lw.row.prog keep) [] s&&PySem.W.recOk lw.row.toRowW.records s) (PySem.W.kHook K2 as ka).obs (PySem.W.kHook K2 as ka).val 4616:=by refine Hd.Hq (T₀:=λP=>Hd.treeOf (PySem.W.boot_heap P).objs.toList) (m₀:=11) (life:={}) (ann:=ia (.ref 6)) (M:=4566) (by kernel_rfl) (by kernel_rfl) (λs=>by kernel_rfl) Hd.Of Hd.Og (by kernel_rfl) λw os=>?_;rw [PySem.W.Fast.te10156331382660048174,PySem.W.Fast.te11892475500146522536,PySem.W.Fast.te14364793385576792824,PySem.W.Fast.te6613529449190102663,PySem.W.Fast.te4187177175401517315,PySem.W.Fast.te5923862056798008813];kernel_rfl
end K91
open PySem.W PyProof.Rows
set_option maxRecDepth 100000 in
set_option maxHeartbeats 0 in
theorem PySem.Challenge.cw_cellways_k91_whole_ways_written_holds : PySem.Challenge.rw_cellways_k91_whole_ways_written.Holds := by
 refine Hd.holds (d:={"law",L2.dy (K91.top 57),L2.cT (K91.top 57),L2.aU (K91.top 57),Hd.Sw (K91.top 57)}) (by kernel_rfl) K91.ka K91.left (by kernel_rfl) (by kernel_rfl) (by kernel_rfl) (by kernel_rfl) {rfl,rfl,rfl,rfl,rfl,by decide+kernel} ?hw ?a
 case hw=>w_witness2
 case a=>exact Ci.walk (l:=PySem.Challenge.rw_cellways_k91_whole_ways_written) K91.QF K91.Γ (zu 47) K91.pK ["NoSpot","NoText","NoWay"] K91.ts (K91.top 57) iv rfl rfl rfl rfl rfl {λZ=>rfl,by decide,by decide} (λw h Y=>K91.hY (PySem.W.kIn_of Y)) (λw=>K91.hC w.params) (λw mg h b G=>K91.TJ _ b G) (λw=>Hd.ent 340 339 K91.m5) K91.M3 (List.cons_ne_nil _ _) (λw=>K91.Sk _) K91.O6
#print axioms PySem.Challenge.cw_cellways_k91_whole_ways_written_holds
