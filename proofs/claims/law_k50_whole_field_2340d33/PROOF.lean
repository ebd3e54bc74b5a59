import PyProof.Rows.All
import Wide.All
import OpenK.AllK
import Wide.FinOn
import Lean
import PyProof.EqAt
import PyProof.EqKinds
import PyProof.TupleCall
import PySem.Challenge.RW_cellways_k50_whole_field
set_option genInjectivity false
set_option Elab.async false
set_option tactic.hygienic false
set_option linter.all false
set_option genSizeOf false
set_option genSizeOfSpec false
set_option bootstrap.genMatcherCode false
set_option compiler.extract_closed false
set_option compiler.reuse false
set_option maxRecDepth 100000
abbrev zz8:=PySem.W.Frag
local macro_rules | `(zz9 $x) => `(($x).heap.objs.size)
local macro_rules | `(tactic| simp! [$x,*] $[$l:location]?) => `(tactic| simp only [$x,*] $[$l]?)
theorem zzf:¬false=true:=Bool.false_ne_true
theorem zza(a b:Bool):((a&&b)=true)=(a=true/\b=true):=Bool.and_eq_true a b
theorem zzg.{u}{a:Type u}{l:List a}{i:Nat}(h:i<l.length):l[i]?=some l[i]:=List.getElem?_eq_getElem h
theorem zzl.{u,v}{a:Type u}{b:Type v}{l:List a}(f:a->b):(l.map f).length=l.length:=List.length_map f
def zzN:=@decide_eq_true_eq
def zzY:=@of_decide_eq_true
def zzh:=@decide_eq_true
def zzq:=@Option.some.inj
def zzy:=@beq_iff_eq
def zz0:=@decide_eq_false
open PySem renaming wpAny_bind→ak,wpAny_pure→a8,Value→hB,Shared→hD,Addr→hF,Expr→hI,wpAny→hJ,Program→hL,World→hQ,model→hV,Around→hW,Scope→hZ,Heap→h9,tupleKeyHash→ia,sizeLine→ic,Stmt→ig,mainGlobals→iv,Builtin→i1,Arguments→i2,SetTable→i3,cellsFrom→jj
open PySem.Heap renaming get?_push_of_some→ar,lt_size→cB,get?_push_size→dJ
open List renaming size_toArray→aT,mem_of_getElem?→a0,map_cons→a7,getElem?_eq_some_iff→a9,mem_cons_of_mem→bc,getD_eq_getElem?_getD→b4,length_cons→cu,length_append→cA,mem_cons_self→cP,getElem?_map→cS,mem_append_right→c3,getElem?_set_ne→c4,all_eq_true→c5,mem_append_left→ee,mem_singleton→eo,any_eq_true→et,mem_cons→ey,contains_iff_mem→eG,getElem?_set_self→eH,getElem?_append_left→eM,getElem?_append_right→eT,mem_map→fm,mem_filterMap→fw,filter_cons→fS,lookup_cons→gd,append_nil→gg,replicate→j2
open Nat renaming le_refl→a5,le_trans→c6,lt_of_le_of_lt→dA,lt_of_lt_of_le→dB,ne_of_lt→d0
open Option renaming map_eq_some_iff→b0,bind_eq_some_iff→dV,isSome_iff_exists→eK,some→gF,none→gK
open Array renaming length_toList→el,getElem?_eq_getElem→fP
open Bool renaming false_eq_true→en,or_eq_true→eU,true→gS,false→gU
open False renaming elim→eu
open PySem.Heap.SameBut renaming update→ff
open Int renaming eq_ofNat_of_zero_le→fi,toNat_natCast→fW
open PySem.Around renaming under_plainId→gr
open And renaming intro→jX
open PyProof.Rows renaming seqObj→kc
abbrev kd:=PySem.Value->PySem.Shared->Prop
abbrev ke:=List (PySem.Addr×PySem.Obj)
abbrev ku:=List (List Int)
abbrev kB:=List Int->List Int->Int->Prop
local macro_rules|`(zx6 $x)=>`(by simpa using $x)
def zy0:Nat->Lean.Syntax->Lean.MacroM (Lean.TSyntax `rcasesPat)
 |n+1,t=>do match t with
  |`(($a,$b,*))=>let q<-(#[a]++b.getElems).mapM fun x=>do`(Lean.Parser.Tactic.rcasesPatLo|$(<-zy0 n x):rcasesPat)
                 `(rcasesPat|⟨$q,*⟩)
  |`($x:ident)=>`(rcasesPat|$x:ident)
  |`(_)=>`(rcasesPat|_)
  |_=>Lean.Macro.throwUnsupported
 |_,_=>Lean.Macro.throwUnsupported
local macro_rules|`(tactic|let $p:term:=$e)=>do let q<-zy0 19 p;let k:=Lean.mkIdent (.mkSimple s!"K{hash (toString p.raw)%997}");if q.raw[1].getNumArgs<4 then`(tactic|obtain $q:rcasesPat:=$e)else`(tactic|first|(refine Classical.byContradiction fun $k=>?_;obtain $q:rcasesPat:=$e;refine $k ?_;clear $k)|obtain $q:rcasesPat:=$e)
local macro_rules(kind:=«term{_}»)|`({$x,*})=>`(⟨$x,*⟩)
open PySem
variable{us:List hB}{x g qual z:Str}{u k ns:List Int}{a:hF}{o:Obj}{P prog:hL}{w:hQ}{h base h':h9}{t' j kk:Nat}{e body iter:hI}{N:List Str}{A:hW}{ae:ke}{d c r cl:Int}{pos np:Pos}{es:List (Int×hB)}{mg:Str->Option hB}{outer:List Env}{sl:Bool}{items:Array hB}{st:ig}{nss:ku}{idx ix:List Nat}
local macro_rules|`(zx7 $x $y*)=>`(PySem.wpAny (PySem.model ($x).prog ($x).w) ($x).A $y*)
local macro_rules|`(abbrev $i:declId $s:optDeclSig:=$v)=>`(noncomputable def $i $s:optDeclSig:=$v)|`(abbrev $i:declId $s:optDeclSig $v:declValEqns)=>`(noncomputable def $i $s:optDeclSig $v:declValEqns)
set_option hygiene false
local macro_rules|`(zv0 $x)=>`(eF (eP P w) P w K mg base N qual scope f cd A outer s0 H0 $x)
local macro_rules|`(zv1 $x)=>`(fc Γ F W N sc k E $x)
local macro_rules|`(zv2 $x)=>`(Inv X ae σ H $x)
local macro_rules|`(zv3 $x)=>`(dO Γ F W N sc k $x)
set_option hygiene true
open PySem
set_option hygiene false
local macro_rules|`(zx2 $a $b $c $d)=>`(⟨$a,$a,$b,K50.top $c,$d⟩)
local macro_rules|`(zx5 $a $n $b $c $d $e $f)=>do let k:=(⟨e.raw⟩:Lean.NumLit).getNat;`(($a,Hd.co $n $b $c $d $e (.ref $(Lean.quote (k+2))) (.ref $(Lean.quote (k+3))) $(Lean.quote (k+4)) $f))|`(zx3 $a $n $c $m)=>do let k:=(⟨a.raw⟩:Lean.NumLit).getNat;`(($a,Hd.fo $n (K50.top $c) $m $(Lean.quote (k-1))))
set_option hygiene true
local macro_rules|`(zu $n)=>return Lean.Syntax.mkStrLit (("ValueError|need_open|_law_costs_to|spread_to_goals|_law_pick|BaseException.__getattribute__|enumerate|_law_any_spot|least_onward|_law_tried|_law_steps|_law_spots|FloorError|<lambda>|need_goals|set-order|open_spots_beside|steps_from|ValueError.__new__|no spot|has_open_corners|dict_keyiterator|list_iterator|NoSpot|spread_from|_law_floor_here|nearest_goals|BaseException|step_cost|__debug__|_law_walker_here|isinstance|_law_walker|__static_attributes__|spread@steps_from|_law_word|object.__class__|is_open|is_on_floor|_law_floor|_law_field|spread_to|_law_once|spread@steps_to|are_beside|_law_script|__name__|height_at|_law_cost|set_iterator.__next__|steps_to|__classdict__|StopIteration|_law_cell|cellways.errors|__firstlineno__|is_whole|_law_sum|set_iterator|tuple_iterator".splitOn "|")[(⟨n.raw⟩:Lean.NumLit).getNat]!)
namespace L2
open PySem.Spec PyProof.Rows
noncomputable abbrev Key:=Sum Int Str
abbrev rP:Key->hB->Bool
 |.inl k,v=>hB.isInt k v|.inr x,v=>hB.isStrOf x v
abbrev Wx(w:hQ):Key->Int
 |.inl k=>hashInt k|.inr x=>hashStr w x
theorem cC:∀{k:Key} {v:hB},rP k v=gS->(∃i t,k=Sum.inl i/\v=hB.int i t)\/(∃x t,k=Sum.inr x/\v=hB.str x t)
 |.inl i,v,h=>by let(t,e):=hB.isInt_shape (k:=i) (v:=v) h;exact .inl ⟨i,t,rfl,e⟩|.inr x,v,h=>by let(t,e):=hB.isStrOf_shape (x:=x) (v:=v) h;exact .inr ⟨x,t,rfl,e⟩
def Ca(i:Int)(t:Tok):rP (.inl i) (.int i t)=gS:=by simp [rP,hB.isInt]
def Cb(x:Str)(t:Tok):rP (.inr x) (.str x t)=gS:=by simp [rP,hB.isStrOf]
def Ow(a b:Int):decide ((Sum.inl a:Key)=Sum.inl b)=(a==b):=by
 by_cases e:a=b
 .subst e;simp
 .have h:¬(Sum.inl a:Key)=Sum.inl b:=λq=>e (Sum.inl.inj q);rw [zz0 h];exact(beq_eq_false_iff_ne.mpr e).symm
def Oz(a b:Str):decide ((Sum.inr a:Key)=Sum.inr b)=decide (a=b):=by
 by_cases e:a=b
 .subst e;simp
 .have h:¬(Sum.inr a:Key)=Sum.inr b:=λq=>e (Sum.inr.inj q);rw [zz0 h,zz0 e]
def Ox(a:Int)(b:Str):decide ((Sum.inl a:Key)=Sum.inr b)=gU:=zz0 nofun
def Oy(a:Str)(b:Int):decide ((Sum.inr a:Key)=Sum.inl b)=gU:=zz0 nofun
noncomputable def aM(prog:hL)(w:hQ):PySem.KeyKind prog w Key where
 is:=rP
 hash:=Wx w
 inj:=λv a b g f=>by
  rcases cC g with⟨i,t,rfl,rfl⟩|⟨x,t,rfl,rfl⟩
  .rcases cC f with⟨j,u,rfl,e⟩|⟨y,u,rfl,e⟩
   .injection e with c _;rw [c]
   .exact nomatch e
  .rcases cC f with⟨j,u,rfl,e⟩|⟨y,u,rfl,e⟩
   .exact nomatch e
   .injection e with c _;rw [c]
 byValue:=λk v h=>by rcases cC h with⟨i,t,rfl,rfl⟩|⟨x,t,rfl,rfl⟩<;>rfl
 pyHash:=λd h=>by
  rcases cC d with⟨i,t,rfl,rfl⟩|⟨x,t,rfl,rfl⟩
  .exact wpAny_pyHash_int h
  .exact wpAny_pyHash_str h
 eqBool:=λm d h=>by
  rcases cC m with⟨i,t,rfl,rfl⟩|⟨x,t,rfl,rfl⟩
  .rcases cC d with⟨j,u,rfl,rfl⟩|⟨y,u,rfl,rfl⟩
   .rw [Ow] at h;exact wpAny_eqBool_int h
   .rw [Ox] at h;exact SeqAt.EqAt.int_str i t y u _ _ _ _ h
  .rcases cC d with⟨j,u,rfl,rfl⟩|⟨y,u,rfl,rfl⟩
   .rw [Oy] at h;exact SeqAt.EqAt.str_int x t j u _ _ _ _ h
   .rw [Oz] at h;exact wpAny_eqBool_str h
 «strs»:=λk x t v h=>by
  rcases cC h with⟨i,u,rfl,e⟩|⟨y,u,rfl,e⟩
  .exact nomatch e
  .injection e with c _
   subst c;cases v<;>rfl
def vY(prog:hL)(w:hQ)(i:Int)(t:Tok):(aM prog w).is (.inl i) (.int i t)=gS:=Ca i t
def vZ(prog:hL)(w:hQ)(x:Str)(t:Tok):(aM prog w).is (.inr x) (.str x t)=gS:=Cb x t
inductive V where
 |aC|bl (b:Bool)|int (i:Int)|str (x:Str)|VB (b:Array UInt8)|VQ (b:UInt64)|ref (a:hF)|ty (n:String)
 deriving DecidableEq
variable{v:V}{vs:List V}
def RelV:V->hB->Prop
 |.aC,u=>u=hB.none|.bl b,u=>u=hB.bool b|.int i,u=>∃t,u=hB.int i t|.str x,u=>∃t,u=hB.str x t|.VB b,u=>∃t,u=hB.bytes b t|.VQ b,u=>∃t,u=hB.float b t|.ref a,u=>u=hB.ref a|.ty n,u=>u=hB.type n
noncomputable abbrev Vals:List V->List hB->Prop:=Paired RelV
def Vals.length{xs:List V}(r:Vals xs us):xs.length=us.length:=Paired.length r
theorem Vals.get:∀{xs:List V} {us:List hB} {i:Nat} {x:V},Vals xs us->xs[i]?=gF x->∃u,us[i]?=gF u/\RelV x u
 |_,_,_,_,.nil,e=>by simp at e|_,_,0,_,.cons r _,e=>by simp at e;subst e;exact{_,rfl,r}|_,_,i+1,x,.cons _ t,e=>by let(u,h1,a):=Vals.get (i:=i) (x:=x) t (zx6 e);exact{u,zx6 h1,a}
theorem Vals.set{x:V}{u:hB}(r:RelV x u):∀{xs:List V} {us:List hB} (i:Nat),Vals xs us->Vals (xs.set i x) (us.set i u)
 |_,_,_,.nil=>.nil|_,_,0,.cons _ t=>.cons r t|_,_,i+1,.cons q t=>.cons q (Vals.set r i t)
def Vals.append{xs ys:List V}{ws:List hB}(r:Vals xs us)(s:Vals ys ws):Vals (xs++ys) (us++ws):=by
 induction r with
 |nil=>exact s|cons r _ a=>exact .cons r a
theorem Vals.take:∀{xs:List V} {us:List hB} (n:Nat),Vals xs us->Vals (xs.take n) (us.take n)
 |_,_,0,_=>.nil|_,_,_+1,.nil=>.nil|_,_,n+1,.cons r t=>.cons r (Vals.take n t)
theorem Vals.drop:∀{xs:List V} {us:List hB} (n:Nat),Vals xs us->Vals (xs.drop n) (us.drop n)
 |_,_,0,r=>r|_,_,_+1,.nil=>.nil|_,_,n+1,.cons _ t=>Vals.drop n t
def kL:Option V->Option hB->Prop
 |some v,gF u=>RelV v u|none,gK=>True|_,_=>False
def KV{a:Type}:List (a×V)->List (a×hB)->Prop:=Paired λ(p:a×V) (q:a×hB)=>p.1=q.1/\RelV p.2 q.2
abbrev kV:Key->V
 |.inl i=>.int i|.inr x=>.str x
inductive HO where
 |lst (xs:List V)
 |tup (xs:List V)
 |dK (ay:List (Key×V))|dT (ay:List (List Key×V))
 |set (S:Int->Bool) (n:Nat)
 |ins (C dx:hF) (fs:List (Str×V))
 |own (x:hF)
 |xd (fs:List (Str×V))
 |met (f x:hF)
 |qC (lo hi:Int)
 |bC (o:Obj) (u:HO)
 |iF (ps:Array hB)
 |ext (φ:h9->Prop)
noncomputable abbrev Hp:=hF->Option HO
variable{H G H0:Hp}
abbrev upd(H:Hp)(a:hF)(o:HO):Hp:=λb=>if b=a then gF o else H b
def av{o:HO}:upd H a o a=gF o:=by unfold upd;rw [if_pos rfl]
def ah{b:hF}{o:HO}(h:b≠a):upd H a o b=H b:=by unfold upd;rw [if_neg h]
def gC{b:hF}{o u:HO}(h:H a=gF o)(h':H b=gF u)(d:o≠u):a≠b:=by intro e;subst e;rw [h] at h';exact d (zzq h')
def bZ{b:hF}{o:HO}(h:H a=gF o)(h':H b=gK):a≠b:=by intro e;subst e;rw [h] at h';cases h'
section
variable(P:hL)(w:hQ)
def cx(H:Hp)(h:h9)(a:hF):HO->Prop
 |.lst xs=>xs.length<=ic/\∃(c:List hB) (n:Nat),Vals xs c/\h.get? a=gF {cls:=.type "list",data:=.seq c.toArray n}|.tup xs=>xs.length<=ic/\∃c:List hB,Vals xs c/\IsTup h a c.toArray|.dK d=>d.length<=ic/\(a==sysModules)=gU/\∃vs,KV d vs/\h.DictOf (aM P w) a vs|.dT d=>d.length<=ic/\(a==sysModules)=gU/\∃xs:List (List Key×hF×hB),
  Paired (λ(p:List Key×V) (q:List Key×hF×hB)=>p.1=q.1/\H q.2.1=gF (.tup (p.1.map kV))/\RelV p.2 q.2.2) d xs/\
  ∃o es j,h.get? a=gF o/\o.ExactDict/\o.data=.dict es j/\es.toList=xs.map (entryOfKey (tupleKind (aM P w)))/\(xs.map (·.1)).Nodup
 |.set S n=>h.SetOf (intKind P w) a S n|.ins C e fs=>H e=gF (.own a)/\fs.length<=1000/\e≠a/\h.get? a=gF (PySem.W.instObj C e)/\
  ∃b,h.Ns1 e b/\(∀f,kL (fs.lookup f) (b f))/\PySem.Within b (fs.map (·.1))
 |.own _=>∃o,h.get? a=gF o|.xd fs=>∃b,h.Ns1 a b/\∀f,kL (fs.lookup f) (b f)|.qC lo k=>∃t u v,h.get? a=gF {cls:=.type "range",data:=.fields #[.int lo t,.int k u,.int 1 v]}|.bC o u=>h.get? a=gF o/\cx H h a u|.iF ps=>h.get? a=gF {cls:=.none,data:=.fields ps}|.met f x=>h.get? a=gF (PySem.W.methodObj (.ref f) (.ref x))|.ext g=>g h/\(∃o,h.get? a=gF o)/\∀h1 i:h9,g h1->(∀o,h1.get? a=gF o->i.get? a=gF o)->g i
def fe(H:Hp)(h:h9):Prop:=∀a o,H a=gF o->cx P w H h a o
end
section
variable{H':Hp}{o:HO}
def cx.lt(x:cx P w H h a o):a<h.objs.size:=by
 cases o with
 |lst xs=>let(_,_,_,_,e):=x;exact cB e|tup xs=>let(_,_,_,p):=x;exact p.lt|dK b=>let(_,_,_,_,o,_,_,e,_):=x;exact cB e|dT b=>let(_,_,_,_,o,_,_,e,_):=x;exact cB e|set S n=>let(o,_,_,_,e,_):=x;exact cB e|ins C c fs=>let(_,_,_,e,_):=x;exact cB e|own y=>let(_,e):=x;exact cB e|xd fs=>let(_,(_,_,_,e,_),_):=x;exact cB e|qC lo d=>let(_,_,_,e):=x;exact cB e|bC g u=>let(e,_):=x;exact cB e|iF ps=>exact cB (show h.get? a=gF _ from x)|met f y=>exact cB (show h.get? a=gF _ from x)|ext i=>let(_,(_,e),_):=x;exact cB e
def Paired.Cm{c d:Type}{F G:c->d->Prop}{l₁:List c}{l₂:List d}(r:Paired F l₁ l₂)(f:∀a b,F a b->G a b):Paired G l₁ l₂:=by
 induction r with
 |nil=>exact .nil|cons r _ e=>exact .cons (f _ _ r) e
def cx.eO(x:cx P w H h a o)(k:∀b u,(b=a\/H b=gF (.own a))->h.get? b=gF u->h'.get? b=gF u)
 (B:∀b,H b=gF (.own a)->H' b=gF (.own a)) (D:∀b xs,H b=gF (.tup xs)->H' b=gF (.tup xs)):cx P w H' h' a o:=by
 induction o with
 |lst xs=>let(z,m,n,r,e):=x;exact{z,m,n,r,k _ _ (.inl rfl) e}|tup xs=>let(z,m,r,g,e,c):=x;exact{z,m,r,g,k _ _ (.inl rfl) e,c}|dK E=>let(z,y,F,r,g,i,j,e,c):=x;exact{z,y,F,r,g,i,j,k _ _ (.inl rfl) e,c}|dT E=>let(z,y,xs,r,g,i,j,e,c):=x;exact{z,y,xs,Paired.Cm r λp q z=>{z.1,D _ _ z.2.1,z.2.2},g,i,j,k _ _ (.inl rfl) e,c}|set S n=>let(g,i,j,t,e,c):=x;exact{g,i,j,t,k _ _ (.inl rfl) e,c}|ins C K fs=>let(d,z,ne,e,s,(A,i,j,G,c),r):=x;exact{B _ d,z,ne,k _ _ (.inl rfl) e,s,{A,i,j,k _ _ (.inr d) G,c},r}|own y=>let(g,e):=x;exact{g,k _ _ (.inl rfl) e}|xd fs=>let(s,(A,i,j,e,c),r):=x;exact{s,{A,i,j,k _ _ (.inl rfl) e,c},r}|qC lo L=>let(t,u,v,e):=x;exact{t,u,v,k _ _ (.inl rfl) e}|bC g u I=>let(e,q):=x;exact{k _ _ (.inl rfl) e,I q}|iF ps=>have e:h.get? a=gF {cls:=.none,data:=.fields ps}:=x;show h'.get? a=gF {cls:=.none,data:=.fields ps};exact k a _ (.inl rfl) e|met f y=>have e:h.get? a=gF (PySem.W.methodObj (.ref f) (.ref y)):=x;show h'.get? a=gF (PySem.W.methodObj (.ref f) (.ref y));exact k a _ (.inl rfl) e|ext M=>let(p,(o,e),st):=x;exact{st _ _ p λo q=>k _ _ (.inl rfl) q,{o,k _ _ (.inl rfl) e},st}
def fe.lt(x:fe P w H h)(e:H a=gF o):a<h.objs.size:=(x a o e).lt
def fe.fresh(x:fe P w H h)(e:h.objs.size<=a):H a=gK:=by
 cases q:H a with
 |none=>rfl|some u=>exact absurd (dB (x.lt q) e) (Nat.lt_irrefl _)
def fe.kept(x:fe P w H h)(k:∀b u,h.get? b=gF u->h'.get? b=gF u):fe P w H h':=λa o e=>(x a o e).eO (λb u Z q=>k b u q) (λZ q=>q) λZ Z q=>q
theorem fe.laid(x:fe P w H h)(k:∀b u,h.get? b=gF u->h'.get? b=gF u)(g:h.objs.size<=a)(new:cx P w (upd H a o) h' a o):fe P w (upd H a o) h':=λb u e=>by
 have d:=x.fresh g;by_cases f:b=a
 .subst f;rw [av] at e;cases e;exact new
 .rw [ah f] at e;exact(x b u e).eO (λc v Z q=>k c v q) (λc q=>by rw [ah (bZ q d)];exact q) λc xs q=>by rw [ah (bZ q d)];exact q
end
def Rd(H:Hp)(a:hF)(u:HO):Prop:=H a=gF u\/∃o,H a=gF (.bC o u)
def Rd.ok{u:HO}(r:Rd H a u)(x:fe P w H h):cx P w H h a u:=by
 rcases r with r|⟨o,r⟩
 .exact x a u r
 .let(_,q):=x a _ r;exact q
def QS:Option HO->Prop
 |some (.lst _)=>True|some (.dK _)=>True|some (.dT _)=>True|some (.set _ _)=>True|some (.ins _ _ _)=>True|some (.ext _)=>True|_=>False
section
variable{x e:hF}{o':HO}
def fe.write(ok:fe P w H h)(d:QS (H x))(he:e=x\/H e=gF (.own x))(k:∀b u,b≠e->h.get? b=gF u->h'.get? b=gF u)(m:∃u,h'.get? e=gF u)
 (new:cx P w (upd H x o') h' x o'):fe P w (upd H x o') h':=λb u q=>by
 have i:∀c y,H c=gF (.own y)->c≠x:=λc y r z=>by subst z;rw [r] at d;exact d
 have o:∀c xs,H c=gF (.tup xs)->c≠x:=λc xs r z=>by subst z;rw [r] at d;exact d
 by_cases f:b=x
 .subst f;rw [av] at q;cases q;exact new
 .rw [ah f] at q;by_cases a:b=e
  .have j:H b=gF (.own x):=by
    rcases he with z|z
    .exact absurd (a.trans z) f
    .rw [a];exact z
   rw [q] at j;cases j;let(v,p):=m;exact{v,by rw [a];exact p}
  .refine(ok b u q).eO (λc v g r=>k c v ?_ r) (λc r=>by rw [ah (i c b r)];exact r) λc xs r=>by rw [ah (o c xs r)];exact r
   rcases g with rfl|g
   .exact a
   .rintro rfl
    rcases he with z|z
    .exact i c b g z
    .rw [g] at z;cases z;exact f rfl
end
structure Un(fs ex:List hF)(H H':Hp)(h h':h9):Prop where
 keep:∀b o,h.get? b=gF o->H b=gK->b∉fs->b∉ex->h'.get? b=gF o
 slot:∀b o,h.get? b=gF o->H b=gK->b∈fs->b∉ex->∃sl,h'.get? b=gF {o with slots:=sl}
 free:∀b o,h.get? b=gF o->H b=gK->b∉ex->H' b=gK
 there:∀b o,h.get? b=gF o->b∉ex->∃o',h'.get? b=gF o'
 iG:∀b xs,H b=gF (.tup xs)->H' b=gF (.tup xs)
 fX:∀b o u,H b=gF (.bC o u)->H' b=gF (.bC o u)
 ip:∀b ps,H b=gF (.iF ps)->∃more,H' b=gF (.iF (ps++more))
section
variable{fs ex:List hF}{H1:Hp}{h1:h9}{x e:hF}{o:HO}
def Un.any(u:Un fs ex H H1 h h1){b:hF}{ob:Obj}(q:h.get? b=gF ob)(n:H b=gK)(c:b∉ex):∃sl,h1.get? b=gF {ob with slots:=sl}:=by
 by_cases d:b∈fs
 .exact u.slot b ob q n d c
 .exact{ob.slots,u.keep b ob q n d c}
def Un.kept(k:∀b u,h.get? b=gF u->h'.get? b=gF u):Un fs ex H H h h':=
 {λb c q Z Z Z=>k b c q,λb c q Z Z Z=>{c.slots,k b c q},λZ Z Z n Z=>n,λb c q Z=>{c,k b c q},λZ Z q=>q,λZ Z Z q=>q,λZ ps q=>{#[],by rw [q];simp}}
def Un.refl:Un fs ex H H h h:=Un.kept λZ Z q=>q
theorem Un.laid(k:∀b u,h.get? b=gF u->h'.get? b=gF u)(d:h.objs.size<=a)(c:H a=gK):Un fs ex H (upd H a o) h h' where
 keep:=λb u q Z Z Z=>k b u q
 slot:=λb u q Z Z Z=>{u.slots,k b u q}
 free:=λb u q n Z=>by rw [ah (d0 (dB (cB q) d))];exact n
 there:=λb u q Z=>{u,k b u q}
 iG:=λb xs q=>by rw [ah (bZ q c)];exact q
 fX:=λb u xs q=>by rw [ah (bZ q c)];exact q
 ip:=λb ps q=>{#[],by rw [ah (bZ q c),q];simp}
def Un.write(d:QS (H x))(he:e=x\/H e=gF (.own x))(k:∀b u,b≠e->h.get? b=gF u->h'.get? b=gF u)(i:∃u,h'.get? e=gF u):Un fs ex H (upd H x o) h h':=by
 have f:∀b,H b=gK->b≠x:=λb n z=>by subst z;rw [n] at d;exact d
 have g:∀b,H b=gK->b≠e:=λb n z=>by
  subst z;rcases he with r|r
  .exact f b n r
  .rw [n] at r;cases r
 have hm:∀b u,H b=gF u->¬QS (gF u)->b≠x:=λb u q j z=>by subst z;rw [q] at d;exact j d
 refine{λb u q n Z Z=>k b u (g b n) q,λb u q n Z Z=>{u.slots,k b u (g b n) q},λb u q n Z=>by rw [ah (f b n)];exact n,λb u q Z=>?_,
  λb xs q=>by rw [ah (hm b _ q λz=>z)];exact q,λb u xs q=>by rw [ah (hm b _ q λz=>z)];exact q,λb ps q=>{#[],by rw [ah (hm b _ q λz=>z),q];simp}}
 by_cases c:b=e
 .subst c;exact i
 .exact{u,k b u c q}
end
abbrev U9(h:h9)(H:Hp):List Addr:=(List.range h.objs.size).filter λa=>(H a).isSome
abbrev tV(h:h9)(H:Hp):Heap:=PySem.W.hideAll h (U9 h H)
def B4(h:h9)(H:Hp):(tV h H).objs.size=h.objs.size:=PySem.W.hideAll_size _ _
theorem ED{b:hF}(e:h.get? b=gF o)(n:H b=gK):(tV h H).get? b=gF o:=
 PySem.W.hideAll_get _ e λhm=>by have q:(H b).isSome=gS:=(List.mem_filter.mp hm).2;rw [n] at q;simp at q
def J0{b:hF}(e:(tV h H).get? b=gF o):h.get? b=gF o/\H b=gK:=by
 have a:h.get? b=gF o:=PySem.W.of_hideAll (U9 h H) e
 refine{a,?_};cases q:H b with
 |none=>rfl|some x=>have hm:b∈U9 h H:=List.mem_filter.mpr {List.mem_range.mpr (cB a),by simp [q]};have z:(tV h H).get? b=gK:=PySem.W.hideAll_none (U9 h H) hm;rw [z] at e;cases e
abbrev HQ(g h:h9)(L:hF):ke:=(List.range h.objs.size).filterMap λa=>if a=L\/(g.get? a).isSome=gS then gK else(h.get? a).map λo=>(a,o)
abbrev rest(g h:h9)(L d:hF):ke:=(HQ g h L).filter λp=>decide (p.1≠d)
structure Mod(K:zz8)(mg:Str->Option hB)(base:h9):Prop where
 Su:K.In base
 glob:base.Ns iv mg
 blt:∃mb,base.Ns builtinsNs mb/\∀x:Str,x≠(zu 46)->mb x=bootBuiltins x
 nolimit:base.NoLimit
structure Cx where
 prog:hL
 w:hQ
 K:zz8
 mg:Str->Option hB
 base:h9
 A:hW
 N:List Str
 s₀:hD
 H₀:Hp
 env:Env
 outer:List Env
 stack:List Env
 ex:List hF
 fn:Str->Bool
 calm:Bool
 pn:ke
 xe:kd
variable{X:Cx}
abbrev fh(l:List Env):List Addr:=l.filterMap (·.frame)
noncomputable abbrev Cx.fs(X:Cx):List Addr:=fh X.outer
def Qn(sc:hZ)(x:Str):Prop:=sc.names.lookup x=gF .local\/sc.names.lookup x=gF .cell\/sc.names.lookup x=gF .free
def Loc(sc:hZ)(x:Str):Prop:=sc.names.lookup x=gF .local\/sc.names.lookup x=gF .cell
def Look(env:Env)(h:h9)(m:Str->Option hB)(x:Str)(u:hB):Prop:=
 (env.kindOf x=gF .local/\m x=gF u)\/((env.kindOf x=gF .cell\/env.kindOf x=gF .free)/\∃c,env.cells.lookup x=gF c/\h.IsCell c (gF u))
structure Cx.Ok(X:Cx):Prop where
 mod:Mod X.K X.mg X.base
 kind:X.env.scope.kind=.function
 glob:X.env.globals=iv
 blt:X.env.builtins=builtinsNs
 above:X.s₀.heap.objs.size<=X.env.locals
 inj:∀x y c,X.env.cells.lookup x=gF c->X.env.cells.lookup y=gF c->x=y
 has:∀x,(X.env.kindOf x=gF .cell\/X.env.kindOf x=gF .free)->∃c,X.env.cells.lookup x=gF c
 LA:∀x c,X.fn x=gS->X.env.cells.lookup x=gF c->X.s₀.heap.objs.size<=c
 hd:X.calm=gS->X.A.handled=gK
 frames:X.A.frames=gF X.stack
 G8:X.stack=X.outer\/(X.stack=X.env::X.outer/\X.env.frame=gF X.env.locals)
 VN:∀b∈X.ex,b≠X.env.locals/\∀x c,X.env.cells.lookup x=gF c->c≠b
 bs:∀b o,X.base.get? b=gF o->X.s₀.heap.get? b=gF o/\X.H₀ b=gK
 xF:X.base.objs.size<=X.s₀.heap.objs.size
 Ct:∀b o,X.base.get? b=gF o->b∉X.ex
 Ed:∀b∈X.ex,b∉X.fs
 gY:X.s₀.heap.FunFrames X.base X.outer
 xO:∀b∈X.fs,X.H₀ b=gK
structure Inv(X:Cx)(ae:ke)(σ:List (Option V))(H:Hp)(s:hD):Prop where
 ok:X.Ok
 os:s.os=X.s₀.os
 bare:AllBare s.gens
 base:Un X.fs X.ex X.H₀ H X.s₀.heap s.heap
 loc:∃m,s.heap.Ns X.env.locals m/\∀(i:Nat) (x:Str) (v:V),X.N[i]?=gF x->σ[i]?=gF (gF v)->Qn X.env.scope x->∃u,RelV v u/\Look X.env s.heap m x u
 cell:∀x c,X.env.cells.lookup x=gF c->∃v,s.heap.IsCell c v
 free:H X.env.locals=gK
 fA:∀x c,X.env.cells.lookup x=gF c->H c=gK
 pin:∀p∈X.pn++ae,s.heap.get? p.1=gF p.2/\H p.1=gK/\p.1≠X.env.locals/\p.1∉X.fs/\∀v,p.2.data≠.cell v
 aN:fe X.prog X.w H s.heap
 len:σ.length=X.N.length
section
variable{σ:List (Option V)}{H':Hp}{s:hD}
theorem Cx.Ok.WO(ok:X.Ok){b:hF}(e:X.base.get? b=gF o):b∉X.fs:=λa=>by have:=(ok.gY.mem a).1;rw [e] at this;cases this
def Inv.bs(I:zv2 s):∀b o,X.base.get? b=gF o->s.heap.get? b=gF o/\H b=gK:=λb o e=>{I.base.keep b o (I.ok.bs b o e).1 (I.ok.bs b o e).2 (I.ok.WO e) (I.ok.Ct b o e),I.base.free b o (I.ok.bs b o e).1 (I.ok.bs b o e).2 (I.ok.Ct b o e)}
def Inv.bk(I:zv2 s):∀b o,X.base.get? b=gF o->s.heap.get? b=gF o:=λb o e=>(I.bs b o e).1
def Inv.mod(I:zv2 s):Mod X.K X.mg X.base:=I.ok.mod
def Inv.rN(I:zv2 s):X.K.In s.heap:=I.ok.mod.Su.keeps I.bk
theorem Inv.fr(I:zv2 s):∃m,Fr X.base X.env.locals s.heap m:=
 let⟨m,a,_⟩:=I.loc
 {m,a,I.bk,c6 I.ok.xF I.ok.above}
theorem Inv.lt(I:zv2 s):X.env.locals<(zz9 s):=let⟨_,a,_⟩:=I.loc;a.lt
def Inv.sz(I:zv2 s):X.s₀.heap.objs.size<=(zz9 s):=c6 I.ok.above (Nat.le_of_lt I.lt)
theorem Inv.WQ(I:zv2 s)(h:(zz9 s)<=a):a∉X.fs:=λb=>by let(_,o,c,_):=I.ok.gY.mem b;exact absurd (dB (cB c) (c6 I.sz h)) (Nat.lt_irrefl _)
theorem Inv.By(I:zv2 s):∀x c,X.env.cells.lookup x=gF c->c≠X.env.locals:=λx c e z=>by let(v,o,a,hd):=I.cell x c e;let(m,(f,g,h,b,d,_),_):=I.loc;rw [z,b] at a;cases a;rw [d] at hd;cases hd
def Inv.gY(I:zv2 s):s.heap.FunFrames X.base X.outer:=by
 have all:∀(l:List Env),(∀b∈fh l,b∈X.fs)->X.s₀.heap.FunFrames X.base l->s.heap.FunFrames X.base l:=by
  intro l
  induction l with
  |nil=>intro _ _;trivial|cons env r f=>intro hs hl;let(hk,(L,o,a,g,h,hd),i):=hl;have c:L∈X.fs:=hs L (by unfold fh;rw [List.filterMap_cons,a];exact cP);let(j,e):=I.base.slot L o h (I.ok.xO L c) c λz=>I.ok.Ed L z c;exact{hk,{L,_,a,g,e,hd},f (λb d=>hs b (by unfold fh;rw [List.filterMap_cons,a];exact bc _ d)) i}
 exact all X.outer (λZ d=>d) I.ok.gY
def Inv.stack(I:zv2 s):s.heap.FunFrames X.base X.stack:=by
 rcases I.ok.G8 with e|⟨e,hf⟩
 .rw [e];exact I.gY
 .rw [e];let(m,a,_):=I.loc;refine .cons (by rw [I.ok.kind];decide) hf a ?_ I.gY;exact h9.get?_none_of_le (c6 I.ok.xF I.ok.above)
def Inv.kI(I:zv2 s):∀b∈fh X.stack,b∈X.env.locals::X.fs:=λb a=>by
 rcases I.ok.G8 with e|⟨e,hf⟩
 .rw [e] at a;exact bc _ a
 .rw [e] at a;unfold fh at a;rw [List.filterMap_cons,hf] at a;exact a
theorem Inv.nX(I:zv2 s):∀b∈fh X.stack,H b=gK:=λb a=>by
 rcases ey.mp (I.kI b a) with e|a
 .rw [e];exact I.free
 .let(_,o,c,_):=I.ok.gY.mem a;exact I.base.free b o c (I.ok.xO b a) λz=>I.ok.Ed b z a
def Inv.step{g':Array GenState}{t':Nat}{d':Drawn}{ch:List hF}(I:zv2 s)
 (t:∀b∈ch,(b∈X.ex\/X.s₀.heap.objs.size<=b)/\b≠X.env.locals/\(∀x c,X.env.cells.lookup x=gF c->c≠b)/\∀p∈X.pn++ae,p.1≠b)
 (keep:∀b o,b≠X.env.locals->b∉X.fs->b∉ch->s.heap.get? b=gF o->H b=gK->h'.get? b=gF o)
 (slot:∀b o,b≠X.env.locals->b∈X.fs->b∉ch->s.heap.get? b=gF o->H b=gK->∃sl,h'.get? b=gF {o with slots:=sl}) (free:∀b o,b∉ch->s.heap.get? b=gF o->H b=gK->H' b=gK)
 (there:∀b o,b∉ch->s.heap.get? b=gF o->∃y,h'.get? b=gF y)
 (iG:∀b xs,H b=gF (.tup xs)->H' b=gF (.tup xs)) (fX:∀b o u,H b=gF (.bC o u)->H' b=gF (.bC o u)) (ip:∀b ps,H b=gF (.iF ps)->∃more,H' b=gF (.iF (ps++more)))
 (ns:∀m,s.heap.Ns X.env.locals m->h'.Ns X.env.locals m) (aN:fe X.prog X.w H' h') (L:AllBare g'):
 Inv X ae σ H' {s with heap:=h',gens:=g',drawn:=d',toks:=t'}:=by
 have QC:∀b o,X.s₀.heap.get? b=gF o->b≠X.env.locals:=λb o e=>d0 (dB (cB e) I.ok.above)
 have C:∀b o,X.s₀.heap.get? b=gF o->b∉X.ex->b∉ch:=λb o e a h=>by
  rcases(t b h).1 with z|z
  .exact a z
  .exact absurd (dB (cB e) z) (Nat.lt_irrefl _)
 have f:∀x c,X.env.cells.lookup x=gF c->∀v,s.heap.IsCell c v->h'.IsCell c v:=λx c e v D=>by
  let(o,j,hd):=D;have A:c∉ch:=λz=>(t c z).2.2.1 x c e rfl;by_cases F:c∈X.fs
  .let(sl,q):=slot c o (I.By x c e) F A j (I.fA x c e);exact{_,q,hd}
  .exact{o,keep c o (I.By x c e) F A j (I.fA x c e),hd}
 refine{I.ok,I.os,L,{λb o e n h a=>?_,λb o e n h a=>?_,λb o e n a=>?_,λb o e a=>?_,λb xs e=>iG b xs (I.base.iG b xs e),λb o xs e=>fX b o xs (I.base.fX b o xs e),λb ps e=>?_},?_,λx c e=>?_,?_,λx c e=>?_,λp G=>?_,aN,I.len}
 .exact keep b o (QC b o e) h (C b o e a) (I.base.keep b o e n h a) (I.base.free b o e n a)
 .let(sl,g):=I.base.slot b o e n h a;let(E,B):=slot b _ (QC b o e) h (C b o e a) g (I.base.free b o e n a);exact⟨E,B⟩
 .let(y,g):=I.base.there b o e a;exact free b y (C b o e a) g (I.base.free b o e n a)
 .let(y,g):=I.base.there b o e a;exact there b y (C b o e a) g
 .let(m1,g):=I.base.ip b ps e;let(m2,B):=ip b _ g;exact{m1++m2,by rw [B,Array.append_assoc]}
 .let(m,M,hl):=I.loc;refine{m,ns m M,λi x v g B N=>?_};let(u,r,l):=hl i x v g B N
  refine{u,r,?_};rcases l with l|⟨k,c,e,z⟩
  .exact .inl l
  .exact .inr {k,c,e,f x c e _ z}
 .let(v,z):=I.cell x c e;exact{v,f x c e v z}
 .let(m,(o,_,_,j,_),_):=I.loc;exact free _ o (λz=>(t _ z).2.1 rfl) j I.free
 .let(v,o,j,hd):=I.cell x c e;exact free c o (λz=>(t c z).2.2.1 x c e rfl) j (I.fA x c e)
 .let(e,n,ne,K,d):=I.pin p G;have A:p.1∉ch:=λz=>(t p.1 z).2.2.2 p G rfl;exact{keep p.1 p.2 ne K A e n,free p.1 p.2 A e n,ne,K,d}
def Inv.un{t':Nat}(I:zv2 s)(u:Un X.fs [] H H' s.heap h')(aN:fe X.prog X.w H' h'):Inv X ae σ H' {s with heap:=h',toks:=t'}:=by let(m,(o,j,k,d,r),_):=id I.loc;let(p,g):=u.any d I.free (by simp);exact I.step (g':=s.gens) (d':=s.drawn) (ch:=[]) (λZ z=>nomatch z) (λb o Z a Z e n=>u.keep b o e n a (by simp)) (λb o Z a Z e n=>u.slot b o e n a (by simp)) (λb o Z e n=>u.free b o e n (by simp)) (λb o Z e=>u.there b o e (by simp)) u.iG u.fX u.ip (λq hm=>by let(t,h,c,f,i):=hm;rw [d] at f;cases f;exact{_,h,c,g,i}) aN I.bare
def Inv.call{g':Array GenState}{t':Nat}{d':Drawn}{ch:List hF}(I:zv2 s)(u:Un (fh X.stack) ch H H' s.heap h')(aN:fe X.prog X.w H' h')(j:AllBare g')
 (g:∀b∈ch,(b∈X.ex\/X.s₀.heap.objs.size<=b)/\b≠X.env.locals/\(∀x c,X.env.cells.lookup x=gF c->c≠b)/\∀p∈X.pn++ae,p.1≠b):
 Inv X ae σ H' {s with heap:=h',gens:=g',drawn:=d',toks:=t'}:=by
 let(m,(o,y,A,h,r),_):=id I.loc;let(B,d):=u.any h I.free λz=>(g _ z).2.1 rfl;exact I.step (ch:=ch) g (λb o d k a e n=>u.keep b o e n (λz=>(ey.mp (I.kI b z)).elim d k) a) (λb o Z Z a e n=>u.any e n a) (λb o a e n=>u.free b o e n a) (λb o a e=>u.there b o e a) u.iG u.fX u.ip (λC hm=>by let(D,q,f,i,t):=hm;rw [h] at i;cases i;exact{_,q,f,d,t}) aN j
def Inv.turned{t':Nat}{it:hF}(I:zv2 s)(k:∀b o,b≠it->s.heap.get? b=gF o->h'.get? b=gF o)(g:H it=gK)(d:it≠X.env.locals)
 (h1:it∈X.ex\/X.s₀.heap.objs.size<=it) (h:∀x c,X.env.cells.lookup x=gF c->c≠it) (i:∀p∈X.pn++ae,p.1≠it):Inv X ae σ H {s with heap:=h',toks:=t'}:=by
 have f:∀b u,H b=gF u->b≠it:=λb u e z=>by rw [z,g] at e;cases e
 refine I.step (g':=s.gens) (d':=s.drawn) (ch:=[it]) (λb j=>?_) (λb o Z Z a e Z=>k b o (λz=>a (by simp [z])) e) (λb o Z Z a e Z=>{o.slots,k b o (λz=>a (by simp [z])) e}) (λZ Z Z Z n=>n)
  (λb o a e=>{o,k b o (λz=>a (by simp [z])) e}) (λZ Z e=>e) (λZ Z Z e=>e) (λb ps e=>{#[],by rw [e];simp}) (λm hm=>?_) (λb u e=>?_) I.bare
 .have e:b=it:=zx6 j;subst e;exact⟨h1,d,h,i⟩
 .let(o,t,w,y,r):=hm;exact{o,t,w,k _ o (Ne.symm d) y,r}
 .refine(I.aN b u e).eO (λc v a q=>k c v ?_ q) (λZ q=>q) λZ Z q=>q
  rcases a with z|z
  .rw [z];exact f b u e
  .exact f c _ z
theorem Inv.tok(I:zv2 s)(t:Nat):Inv X ae σ H {s with toks:=t}:=I.un (h':=s.heap) (t':=t) Un.refl I.aN
theorem Inv.kept{t':Nat}(I:zv2 s)(k:∀b u,s.heap.get? b=gF u->h'.get? b=gF u):Inv X ae σ H {s with heap:=h',toks:=t'}:=I.un (Un.kept k) (I.aN.kept k)
theorem Inv.laid{o:HO}{t':Nat}(I:zv2 s)(k:∀b u,s.heap.get? b=gF u->h'.get? b=gF u)(c:(zz9 s)<=a)(new:cx X.prog X.w (upd H a o) h' a o):
 Inv X ae σ (upd H a o) {s with heap:=h',toks:=t'}:=I.un (Un.laid k c (I.aN.fresh c)) (I.aN.laid k c new)
theorem Inv.write{x e:hF}{o:HO}{t':Nat}(I:zv2 s)(a:QS (H x))(he:e=x\/H e=gF (.own x))(k:∀b u,b≠e->s.heap.get? b=gF u->h'.get? b=gF u)(c:∃u,h'.get? e=gF u)
 (new:cx X.prog X.w (upd H x o) h' x o):Inv X ae σ (upd H x o) {s with heap:=h',toks:=t'}:=I.un (Un.write a he k c) (I.aN.write a he k c new)
def Inv.jn{a:ke}(I:zv2 s)(h:∀p∈a,s.heap.get? p.1=gF p.2/\H p.1=gK/\p.1≠X.env.locals/\p.1∉X.fs/\∀v,p.2.data≠.cell v):Inv X a σ H s:=
 {I.ok,I.os,I.bare,I.base,I.loc,I.cell,I.free,I.fA,λp b=>(List.mem_append.mp b).elim (λz=>I.pin p (ee _ z)) (h p),I.aN,I.len}
def lQ(hN:N.Nodup){i:Nat}(a:N[i]?=gF x)(b:N[j]?=gF x):i=j:=by let(e,c):=a9.mp a;let(f,d):=a9.mp b;exact(List.getElem_inj hN).mp (c.trans d.symm)
def mS{M:Model}{E:kd}{i:Nat}{u:hB}{Q:Unit->hD->Prop}(I:zv2 s)(hN:X.N.Nodup)(L:X.N[i]?=gF x)(B:Loc X.env.scope x)(r:RelV v u)
 (h:∀s',Inv X ae (σ.set i (gF v)) H s'->(∃a,h9.SameBut a s.heap s'.heap/\(a=X.env.locals\/X.env.cells.lookup x=gF a))->Q () s') (hf:X.fn x=gS\/X.env.scope.names.lookup x=gF .local:=by first|exact .inl rfl|exact .inr rfl|assumption):hJ M A (storeName X.env x u) Q E s:=by
 let(m,T,hl):=id I.loc;have N4:(X.env.scope.kind==.class||(X.env.scope.kind==.module&&X.env.locals !=X.env.globals))=gU:=by rw [I.ok.kind];rfl
 have F:i<σ.length:=by rw [I.len];exact(a9.mp L).1
 have By:=I.By
 have f:∀{a:hF} {h':h9},(∃o,s.heap.get? a=gF o/\H a=gK)->h9.SameBut a s.heap h'->fe X.prog X.w H h':=λ{a h'} ha hs b ob e=>by
  let(_,_,C):=ha;refine(I.aN b ob e).eO (λc R t q=>(hs.2 c ?_).trans q) (λ_ q=>q) λ_ _ q=>q
  rintro rfl
  rcases t with rfl|t
  .rw [C] at e;cases e
  .rw [C] at t;cases t
 rcases B with hk|hk
 .refine wpAny_storeName_local hk T (λh' Oc hs=>?_) N4;let(oL,_,_,Qx,_):=id T;refine h _ {I.ok,I.os,I.bare,{λb o e n G B=>?_,λb o e n G B=>?_,I.base.free,λb o e B=>?_,I.base.iG,I.base.fX,I.base.ip},{_,Oc,λj y U g D W=>?_},λy c e=>?_,I.free,I.fA,λp Y=>?_,f ⟨oL,Qx,I.free⟩ hs,zx6 I.len} {_,hs,.inl rfl}
  .exact(hs.2 b (d0 (dB (cB e) I.ok.above))).trans (I.base.keep b o e n G B)
  .let(Z,g):=I.base.slot b o e n G B;exact{Z,(hs.2 b (d0 (dB (cB e) I.ok.above))).trans g}
  .let(o',g):=I.base.there b o e B;exact{o',(hs.2 b (d0 (dB (cB e) I.ok.above))).trans g}
  .by_cases K:j=i
   .subst K;rw [L] at g;cases g;rw [eH F] at D;cases D;exact{u,r,.inl {hk,by simp}}
   .rw [c4 (Ne.symm K)] at D;let(u',r',q):=hl j y U g D W
    refine{u',r',?_};rcases q with⟨k,e⟩|⟨k,c,e,z⟩
    .refine .inl {k,?_};have:y≠x:=λe=>K (lQ hN g (e▸L));simp [this,e]
    .exact .inr {k,c,e,z.sameBut hs (By y c e)}
  .let(R,z):=I.cell y c e;exact{R,z.sameBut hs (By y c e)}
  .let(e,n,ne,nf,d):=I.pin p Y;exact{(hs.2 p.1 ne).trans e,n,ne,nf,d}
 .have pd:X.fn x=gS:=by
   rcases hf with z|z
   .exact z
   .rw [z] at hk;cases hk
  let(c,t):=I.ok.has x (.inl hk);let(R,z):=I.cell x c t;refine wpAny_storeName_cell I.ok.kind hk t z (λh' kg hs=>?_);let(oc,O,P):=id z;refine h {s with heap:=h'} {I.ok,I.os,I.bare,{λb o e n G B=>?_,λb o e n G B=>?_,I.base.free,λb o e B=>?_,I.base.iG,I.base.fX,I.base.ip},{m,T.sameBut hs (Ne.symm (By x c t)),λj y U g D W=>?_},λy S e=>?_,I.free,I.fA,λp Y=>?_,f {oc,O,I.fA x c t} hs,zx6 I.len} {c,hs,.inr t}
  .exact(hs.2 b (d0 (dB (cB e) (I.ok.LA x c pd t)))).trans (I.base.keep b o e n G B)
  .let(Z,g):=I.base.slot b o e n G B;exact{Z,(hs.2 b (d0 (dB (cB e) (I.ok.LA x c pd t)))).trans g}
  .let(o',g):=I.base.there b o e B;exact{o',(hs.2 b (d0 (dB (cB e) (I.ok.LA x c pd t)))).trans g}
  .by_cases K:j=i
   .subst K;rw [L] at g;cases g;rw [eH F] at D;cases D;exact{u,r,.inr {.inl hk,c,t,kg}}
   .rw [c4 (Ne.symm K)] at D;let(u',r',q):=hl j y U g D W
    refine{u',r',?_};rcases q with q|⟨k,S,e,z'⟩
    .exact .inl q
    .refine .inr {k,S,e,z'.sameBut hs ?_}
     rintro rfl
     exact K (lQ hN g (I.ok.inj _ _ _ e t▸L))
  .by_cases RT:S=c
   .subst RT;exact{_,kg}
   .let(w2,z2):=I.cell y S e;exact{w2,z2.sameBut hs RT}
  .let(e,n,ne,nf,d):=I.pin p Y;refine{(hs.2 p.1 ?_).trans e,n,ne,nf,d};intro q;rw [q,O] at e;have q':oc=p.2:=zzq e;exact d R (by rw [<-q'];exact P)
def qc{M:Model}{E:kd}{i:Nat}{u:hB}{Q:Unit->hD->Prop}(I:zv2 s)(hN:X.N.Nodup)(a:X.N[i]?=gF x)(b:Loc X.env.scope x)(r:RelV v u)
 (h:∀s',Inv X ae (σ.set i (gF v)) H s'->Q () s') (c:X.fn x=gS\/X.env.scope.names.lookup x=gF .local:=by first|exact .inl rfl|exact .inr rfl|assumption):hJ M A (storeName X.env x u) Q E s:=
 mS I hN a b r (λs' d Z=>h s' d) c
def Inv.Rg{s':hD}{ch:List hF}(I:zv2 s)(a:s'.os=s.os)(u:Un (fh X.stack) ch H H' s.heap s'.heap)(aN:fe X.prog X.w H' s'.heap)(d:AllBare s'.gens)
 (f:∀b∈ch,(b∈X.ex\/X.s₀.heap.objs.size<=b)/\b≠X.env.locals/\(∀x c,X.env.cells.lookup x=gF c->c≠b)/\∀p∈X.pn++ae,p.1≠b):Inv X ae σ H' s':=by
 let(h',g',d',t',g):=s';have e:g=s.os:=a;subst e;exact I.call (g':=g') (t':=t') (d':=d') u aN d f
end
noncomputable abbrev XK:=hB->Option hF->Hp->Prop
noncomputable abbrev St:=List (Option V)
variable{σ:St}
noncomputable abbrev VK:=V->Hp->Prop
variable{Q:VK}
noncomputable abbrev TE:=St->Hp->VK->Prop
variable{te:TE}
noncomputable abbrev TT:=St->Hp->(Bool->Hp->Prop)->Prop
noncomputable abbrev TA:=St->Hp->(List V->Hp->Prop)->Prop
structure Ends where
 nx:St->Hp->Prop
 rt:VK
 bk:St->Hp->Prop:=λ_ _=>False
 ct:St->Hp->Prop:=λ_ _=>False
variable{D:Ends}
noncomputable abbrev TS:=Ends->St->Hp->Prop
def EP(X:Cx)(ae:ke)(b:St)(Q:VK)(u:hB)(s':hD):Prop:=∃v a,Inv X ae b a s'/\RelV v u/\Q v a
def TP(X:Cx)(ae:ke)(c:St)(Q:Bool->Hp->Prop)(b:Bool)(s':hD):Prop:=∃a,Inv X ae c a s'/\Q b a
def AP(X:Cx)(ae:ke)(c:St)(Q:List V->Hp->Prop)(us:List hB)(s':hD):Prop:=∃a b,Inv X ae c b s'/\Vals a us/\Q a b
def SP(X:Cx)(ae:ke)(D:Ends)(f:Flow)(s':hD):Prop:=
 match f with
 |.next=>∃a b,Inv X ae a b s'/\D.nx a b|.brk=>∃a b,Inv X ae a b s'/\D.bk a b|.cont=>∃a b,Inv X ae a b s'/\D.ct a b|.ret u=>∃v a b,Inv X ae a b s'/\RelV v u/\D.rt v b
def PE(X:Cx)(e:hI)(t:TE):Prop:=
 ∀(b:ke) (s:hD) (a:St) (H:Hp) (Q:VK),Inv X b a H s->t a H Q->zx7 X (eval e X.env) (EP X b a Q) X.xe s
def PT(X:Cx)(e:hI)(t:TT):Prop:=
 ∀(b:ke) (s:hD) (a:St) (H:Hp) (Q:Bool->Hp->Prop),Inv X b a H s->t a H Q->zx7 X (isTrue e X.env (eval e X.env)) (TP X b a Q) X.xe s
def PW(X:Cx)(e:hI)(t:TT):Prop:=
 ∀(a:Sem hB) (c:ke) (s:hD) (b:St) (H:Hp) (Q:Bool->Hp->Prop),Inv X c b H s->t b H Q->zx7 X (isTrue e X.env a) (TP X c b Q) X.xe s
def PW.pt{t:TT}(h:PW X e t):PT X e t:=h _
def PA(X:Cx)(es:List hI)(t:TA):Prop:=
 ∀(a:Pos) (c:ke) (s:hD) (b:St) (H:Hp) (Q:List V->Hp->Prop),Inv X c b H s->t b H Q->zx7 X (spliced (backTo a (starEach es X.env))) (AP X c b Q) X.xe s
def PS(X:Cx)(st:ig)(t:TS):Prop:=
 ∀(a:ke) (s:hD) (b:St) (H:Hp) (D:Ends),Inv X a b H s->t D b H->zx7 X (exec st X.env) (SP X a D) X.xe s
def uM(X:Cx)(st:List ig)(t:TS):Prop:=
 ∀(a:ke) (s:hD) (b:St) (H:Hp) (D:Ends),Inv X a b H s->t D b H->zx7 X (execs st X.env) (SP X a D) X.xe s
def cm{b:Type}{t:Sem b}{Q c:b->hD->Prop}{M:Model}{E:kd}{s:hD}(h:hJ M A t Q E s)(d:∀a s,Q a s->c a s):hJ M A t c E s:=wpAny_mono h d λZ Z x=>x
section
def bin{a b:hI}{m tb:TE}(p:PE X a m)(q:PE X b tb){s:hD}{d:St}{R:V->V->Hp->Prop}(I:Inv X ae d H s)(h:m d H λx k=>tb d k λy e=>R x y e)
 {o:Type} {Q:o->hD->Prop} {f:hB->hB->Sem o}
 (hf:∀v u j x y e,Inv X ae d e j->RelV x v->RelV y u->R x y e->zx7 X (f v u) Q X.xe j):
 zx7 X (eval a X.env) (λv g=>zx7 X (eval b X.env) (λu i=>zx7 X (f v u) Q X.xe i) X.xe g) X.xe s:=by
 refine cm (p ae s d H _ I h) λv r c=>?_;let(x,k,t,z,B):=c;refine cm (q ae r d k _ t B) λu j c=>?_;let(y,e,C,D,E):=c;exact hf v u j x y e C z D E
abbrev C7(i:Nat):TE:=λa H Q=>∃v,a[i]?=gF (gF v)/\Q v H
abbrev tC(v:V):TE:=λZ H Q=>Q v H
def f7{i:Nat}(hN:X.N[i]?=gF x)(f:Qn X.env.scope x)(hd:(x==(zu 29:Str))=gU:=by decide)(g:(x==(zu 51:Str))=gU:=by decide):PE X (.Name x pos) (C7 i):=by
 intro j s k H Q I h;let(v,e,h):=h;let(m,o,hl):=I.loc;let(u,r,l):=hl i x v hN e f;have a:EP X j k Q u s:=⟨v,H,I,r,h⟩
 rcases l with⟨hk,hm⟩|⟨hk,c,b,d⟩
 .exact wpAny_Name (wpAny_loadName_local I.ok.kind hk o hm a) hd
 .rcases hk with hk|hk
  .exact wpAny_Name (wpAny_loadName_cell I.ok.kind hk b d a) hd
  .exact wpAny_Name (wpAny_loadName_free I.ok.kind hk b d a g) hd
def FW{i j pos}:PE X (.Constant (.int i) j pos) (tC (.int i)):=λZ Z Z H Z I h=>wpAny_Constant_int {.int i,H,I.tok _,{_,rfl},h}
def S3{b j pos}:PE X (.Constant (.bool b) j pos) (tC (.bl b)):=λZ Z Z H Z I h=>Constant_bool {.bl b,H,I,rfl,h}
def FY{j pos}:PE X (.Constant .none j pos) (tC .aC):=λZ Z Z H Z I h=>Constant_none {.aC,H,I,rfl,h}
def F1{x j pos}:PE X (.Constant (.str x) j pos) (tC (.str x)):=λZ Z Z H Z I h=>Calls.Constant_str {.str x,H,I.tok _,{_,rfl},h}
def Gl(X:Cx)(x:Str):Prop:=X.env.kindOf x=gF .globalImplicit
def ie{E:kd}{s:hD}{a:St}{u:hB}{Q:kd}(I:Inv X ae a H s)(b:Gl X x)(hm:X.mg x=gF u)(h:Q u s)
 (hd:(x==(zu 29:Str))=gU:=by decide):zx7 X (eval (.Name x pos) X.env) Q E s:=
 Calls.Name_function_global I.ok.kind b (Calls.loadGlobal_global (by rw [I.ok.glob];exact I.mod.glob.keeps I.bk) hm h) hd
def fZ{E:kd}{s:hD}{a:St}{u:hB}{Q:kd}(I:Inv X ae a H s)(b:Gl X x)(hm:X.mg x=gK)(c:bootBuiltins x=gF u)(h:Q u s)
 (d:x≠(zu 46):=by decide) (hd:(x==(zu 29:Str))=gU:=by decide):zx7 X (eval (.Name x pos) X.env) Q E s:=by
 let(mb,e,f):=I.mod.blt;exact Calls.Name_function_global I.ok.kind b (Calls.loadGlobal_builtin (by rw [I.ok.glob];exact I.mod.glob.keeps I.bk) hm (by rw [I.ok.blt];exact e.keeps I.bk) ((f x d).trans c) h) hd
def AA{u:hB}(a:Gl X x)(hm:X.mg x=gF u)(r:RelV v u)(hd:(x==(zu 29:Str))=gU:=by decide):PE X (.Name x pos) (tC v):=
 λZ Z Z H Z I h=>ie I a hm ⟨v,H,I,r,h⟩ hd
def Ay{u:hB}(a:Gl X x)(hm:X.mg x=gK)(b:bootBuiltins x=gF u)(r:RelV v u)(c:x≠(zu 46):=by decide)(hd:(x==(zu 29:Str))=gU:=by decide):PE X (.Name x pos) (tC v):=
 λZ Z Z H Z I h=>fZ I a hm b ⟨v,H,I,r,h⟩ c hd
variable{a b:hI}{ta tb:TE}
abbrev tB(t:TE):TT:=λd H Q=>t d H λx e=>∃c,x=.bl c/\Q c e
def Pt{t:TE}(h:PE X e t)(he:∀c,isTrue e X.env c=(do let v<-c;standAt e.pos;holding [v] (truthy v)):=by intro _;rfl):PT X e (tB t):=by intro g s i H Q I j;refine isTrue_plain (cm (h g s i H _ I j) λv r f=>?_) (he _);let(x,k,m,o,p):=f;let(d,rfl,q):=p;cases o;exact wpAny_truthy_bool ⟨k,m,q⟩
variable{tA U4:TT}{rest:List hI}
abbrev Xf(t u:TT):TT:=λd H Q=>t d H λc e=>if c=gS then u d e Q else Q gU e
abbrev tOr(t u:TT):TT:=λd H Q=>t d H λc e=>if c=gS then Q gS e else u d e Q
abbrev Xk(t:TT):TT:=λd H Q=>t d H λc e=>Q (!c) e
def pw_and1(d:PT X a tA):PW X (.BoolOp .And [a] pos) tA:=by
 intro i f s g H Q I h;refine isTrue_and (cm (d f s g H Q I h) λc j e=>?_)
 cases c with
 |true=>exact isTrue_and_nil e|false=>exact e
def pw_or1(d:PT X a tA):PW X (.BoolOp .Or [a] pos) tA:=by
 intro i f s g H Q I h;refine isTrue_or (cm (d f s g H Q I h) λc j e=>?_)
 cases c with
 |false=>exact isTrue_or_nil e|true=>exact e
def pw_and(k:PT X a tA)(m:PW X (.BoolOp .And (b::rest) pos) U4):PW X (.BoolOp .And (a::b::rest) pos) (Xf tA U4):=by
 intro o e s f H Q I h;refine isTrue_and (cm (k e s f H _ I h) λc p d=>?_);let(g,i,j):=d
 cases c with
 |true=>exact m o e p f g Q i j|false=>exact⟨g,i,j⟩
def pw_or(k:PT X a tA)(m:PW X (.BoolOp .Or (b::rest) pos) U4):PW X (.BoolOp .Or (a::b::rest) pos) (tOr tA U4):=by
 intro o e s f H Q I h;refine isTrue_or (cm (k e s f H _ I h) λc p d=>?_);let(g,i,j):=d
 cases c with
 |true=>exact⟨g,i,j⟩|false=>exact m o e p f g Q i j
def Pr(d:PT X a tA):PT X (.UnaryOp .Not a pos) (Xk tA):=by intro e s f H Q I h;exact isTrue_not (d e s f H (λc g=>Q (!c) g) I h)
abbrev Tu(ta tb:TE):TE:=λd H Q=>ta d H λx e=>∃c,x=.bl c/\if c=gS then tb d e Q else Q (.bl gU) e
abbrev Xl(ta tb:TE):TE:=λd H Q=>ta d H λx e=>∃c,x=.bl c/\if c=gS then Q (.bl gS) e else tb d e Q
abbrev TB(ta:TE):TE:=λd H Q=>ta d H λx e=>∃c,x=.bl c/\Q (.bl (!c)) e
def FZ{op}{t:TE}(h:PE X a t):PE X (.BoolOp op [a] pos) t:=λc s d H Q I e=>BoolOp_one (h c s d H Q I e)
def Pd(k:PE X a ta)(m:PE X (.BoolOp .And (b::rest) pos) tb):PE X (.BoolOp .And (a::b::rest) pos) (Tu ta tb):=by
 intro f s g H Q I h;refine BoolOp_and (cm (k f s g H _ I h) λv o e=>?_);let(x,i,j,p,d):=e;let(c,rfl,d):=d
 cases p;refine wpAny_truthy_bool ?_;cases c with
 |true=>exact m f o g i Q j d|false=>exact{.bl gU,i,j,rfl,d}
def S5(k:PE X a ta)(m:PE X (.BoolOp .Or (b::rest) pos) tb):PE X (.BoolOp .Or (a::b::rest) pos) (Xl ta tb):=by
 intro f s g H Q I h;refine BoolOp_or (cm (k f s g H _ I h) λv o e=>?_);let(x,i,j,p,d):=e;let(c,rfl,d):=d
 cases p;refine wpAny_truthy_bool ?_;cases c with
 |false=>exact m f o g i Q j d|true=>exact{.bl gS,i,j,rfl,d}
def Ph(f:PE X a ta):PE X (.UnaryOp .Not a pos) (TB ta):=by intro g s i H Q I h;refine UnaryOp_ (cm (f g s i H _ I h) λv o d=>?_);let(x,j,k,m,e):=d;let(c,rfl,e):=e;cases m;exact not_of (wpAny_truthy_bool {.bl (!c),j,k,rfl,e})
abbrev tIf(t:TT)(ta tb:TE):TE:=λd H Q=>t d H λc e=>if c=gS then ta d e Q else tb d e Q
def FV{c:hI}(o:PT X c tA)(p:PE X a ta)(q:PE X b tb):PE X (.IfExp c a b pos) (tIf tA ta tb):=by
 intro e s f H Q I h;refine wpAny_IfExp (cm (o e s f H _ I h) λd i g=>?_);let(j,k,m):=g
 cases d with
 |true=>exact p e i f j Q k m|false=>exact q e i f j Q k m
end
def gR(K:zz8)(H:Hp)(a:hF)(xs:List V):Prop:=
 Rd H a (.lst xs)\/
  ∃(o:Obj) (b:Array hB) (n:Nat),K.lookup a=gF o/\o.cls=.type "list"/\o.dict=gK/\o.data=.seq b n/\b.size<=ic/\Vals xs b.toList
def gf(K:zz8)(H:Hp)(a:hF)(xs:List V):Prop:=
 Rd H a (.tup xs)\/
  ∃(o:Obj) (b:Array hB) (n:Nat),K.lookup a=gF o/\o.cls=.type "tuple"/\o.data=.seq b n/\b.size<=ic/\Vals xs b.toList
abbrev Vy:hB->Option V
 |.none=>gF .aC|.bool b=>gF (.bl b)|.int i _=>gF (.int i)|.str x _=>gF (.str x)|.bytes b _=>gF (.VB b)|.float b _=>gF (.VQ b)|.ref a=>gF (.ref a)|.type n=>gF (.ty n)|_=>gK
def RelV.abs{x:V}{u:hB}(r:RelV x u):Vy u=gF x:=by
 cases x with
 |aC=>cases r;rfl
 |bl _=>cases r;rfl
 |int _=>let(t,rfl):=r;rfl|str _=>let(t,rfl):=r;rfl|VB _=>let(t,rfl):=r;rfl|VQ _=>let(t,rfl):=r;rfl|ref _=>cases r;rfl
 |ty _=>cases r;rfl
def RelV.inj{x y:V}{u:hB}(r:RelV x u)(q:RelV y u):x=y:=zzq (r.abs.symm.trans q.abs)
def Vals.inj{xs ys:List V}(r:Vals xs us)(q:Vals ys us):xs=ys:=by
 induction r generalizing ys with
 |nil=>cases q;rfl
 |cons r _ a=>
  cases q with
  |cons b c=>rw [r.inj b,a c]
section
variable{s:hD}{xs ys:List V}
def gR.of{K:zz8}(h:H a=gF (.lst xs)):gR K H a xs:=.inl (.inl h)
def Inv.list(I:zv2 s)(h:gR X.K H a xs):∃b:List hB,Vals xs b/\PlainL s.heap a b.toArray/\xs.length<=sizeLine:=by
 rcases h with h|⟨o,b,n,hk,c,hd,hs,d,r⟩
 .let(z,b,n,r,e):=h.ok I.aN;exact{b,r,{_,n,e,rfl,rfl,rfl},z}
 .refine{b.toList,r,{o,n,I.rN a o hk,c,hd,zx6 hs},?_};have e:=r.length;simp! [el] at e;lia
def Inv.tuple(I:zv2 s)(h:gf X.K H a xs):∃b:List hB,Vals xs b/\IsTup s.heap a b.toArray/\xs.length<=sizeLine:=by
 rcases h with h|⟨o,b,n,hk,c,hs,d,r⟩
 .let(z,b,r,p):=h.ok I.aN;exact⟨b,r,p,z⟩
 .refine{b.toList,r,{o,I.rN a o hk,c,n,zx6 hs},?_};have e:=r.length;simp! [el] at e;lia
def Inv.vV(I:zv2 s)(h:gR X.K H a xs)(h':gR X.K H a ys):xs=ys:=by
 let(g,r,(o,n,e,_,_,d),_):=I.list h;let(b,i,(j,k,c,_,_,f),_):=I.list h';rw [e] at c;cases c;rw [d] at f
 injection f with d1 _
 have:g=b:=by simpa using congrArg Array.toList d1
 subst this;exact r.inj i
def Inv.sk(I:zv2 s)(h:gf X.K H a xs)(h':gf X.K H a ys):xs=ys:=by
 let(g,r,(o,e,_,n,d),_):=I.tuple h;let(b,i,(j,c,_,k,f),_):=I.tuple h';rw [e] at c;cases c;rw [d] at f
 injection f with d1 _
 have:g=b:=by simpa using congrArg Array.toList d1
 subst this;exact r.inj i
variable{rest:List ig}{t u:TS}
def Tz:TS:=λD σ H=>D.nx σ H
abbrev Xn(t u:TS):TS:=λD σ H=>t {D with nx:=u D} σ H
def AG:uM X [] Tz:=λZ Z σ H Z I h=>wpAny_execs_nil ⟨σ,H,I,h⟩
def Gk(h1:PS X st t)(c:uM X rest u):uM X (st::rest) (Xn t u):=by
 intro ae s σ H D I h;refine wpAny_execs_cons (cm (h1 ae s σ H {D with nx:=u D} I h) λf d q=>?_)
 cases f with
 |next=>let(b,g,i,q):=q;exact c ae d b g D i q|ret v=>exact q|brk=>exact q|cont=>exact q
def AH(h1:PS X st t):uM X [st] t:=by
 intro ae s σ H D I h;refine wpAny_execs_cons (cm (h1 ae s σ H D I h) λf b q=>?_)
 cases f with
 |next=>exact wpAny_execs_nil q|ret v=>exact q|brk=>exact q|cont=>exact q
abbrev P0:TS:=λD σ H=>D.bk σ H
def Gg:PS X (.Break pos) P0:=λZ Z σ H Z I h=>wpAny_Break ⟨σ,H,I,h⟩
def Inv.quiet{s:hD}(I:zv2 s):interactive X.env=gU:=by simp [interactive,I.ok.kind]
abbrev Tw(te:TE):TS:=λD σ H=>te σ H λZ b=>D.nx σ b
theorem uk(he:PE X e te)(hs:swapsWith e gK pos.line X.env=pure gU:=by rfl):PS X (.Expr e pos) (Tw te):=by intro ae s σ H D I h;exact wpAny_Expr_any (cm (he ae s σ H _ I h) λv d ⟨x,H1,b,f,c⟩=>⟨σ,H1,b,c⟩) I.quiet hs
abbrev Xm(te:TE):TS:=λD σ H=>te σ H D.rt
def Gi(he:PE X e te):PS X (.Return (gF e) pos) (Xm te):=by intro ae s σ H D I h;exact wpAny_Return_some (cm (he ae s σ H _ I h) λv f ⟨x,H1,b,c,d⟩=>⟨x,σ,H1,b,c,d⟩)
abbrev Xh(c:TT)(t u:TS):TS:=λD σ H=>c σ H λb d=>if b=gS then t D σ d else u D σ d
def Mc{c:hI}{a b:List ig}{g:TT}(o:PT X c g)(p:uM X a t)(q:uM X b u):PS X (.If c a b pos) (Xh g t u):=by
 intro ae s σ H D I h;refine wpAny_If (cm (o ae s σ H _ I h) λd i f=>?_);let(j,k,m):=f
 cases d with
 |true=>exact p ae i σ j D k m|false=>exact q ae i σ j D k m
end
noncomputable abbrev TG:=V->St->Hp->(St->Hp->Prop)->Prop
noncomputable abbrev Lw:=List V->St->Hp->(St->Hp->Prop)->Prop
def PG(X:Cx)(a:hI)(t:TG):Prop:=
 ∀(c:ke) (s:hD) (d:St) (H:Hp) (v:V) (u:hB) (Q:St->Hp->Prop),Inv X c d H s->RelV v u->t v d H Q->
  zx7 X (assign a X.env u) (λZ f=>∃b e,Inv X c b e f/\Q b e) X.xe s
def QU(X:Cx)(ts:List hI)(t:Lw):Prop:=
 ∀(b:ke) (s:hD) (c:St) (H:Hp) (d:List V) (e:List hB) (Q:St->Hp->Prop),Inv X b c H s->Vals d e->t d c H Q->
  zx7 X (assignInOrder ((assignEach ts X.env).map (·.2)) e) (λZ g=>∃a f,Inv X b a f g/\Q a f) X.xe s
noncomputable abbrev HN:=V->V->V->Hp->(Hp->Prop)->Prop
def uU(X:Cx)(t:HN):Prop:=
 ∀(a:ke) (s:hD) (b:St) (H:Hp) (o i v:V) (c d u:hB) (Q:Hp->Prop),Inv X a b H s->RelV o c->RelV i d->RelV v u->t o i v H Q->
  zx7 X (setItem c d u) (λZ f=>∃e,Inv X a b e f/\Q e) X.xe s
abbrev iw(i:Nat):TG:=λv a H Q=>Q (a.set i (gF v)) H
def Kh{i:Nat}(hN:X.N.Nodup)(a:X.N[i]?=gF x)(b:Loc X.env.scope x)(c:X.fn x=gS\/X.env.scope.names.lookup x=gF .local:=by first|exact .inl rfl|exact .inr rfl|assumption):PG X (.Name x pos) (iw i):=by intro e s f H v u Q I r h;exact wpAny_assign_Name (qc I hN a b r (λg d=>{_,H,d,h}) c)
abbrev Nv:Lw:=λa b H Q=>a=[]/\Q b H
abbrev zO(t:TG)(u:Lw):Lw:=λb c H Q=>∃v r,b=v::r/\t v c H λa d=>u r a d Q
def Ki:QU X [] Nv:=by intro b s a H c d Q I r h;let(e,h):=h;subst e;cases r;exact assignInOrder_nil ⟨a,H,I,h⟩
theorem F5{es:List hI}{t:TG}{u:Lw}(h1:PG X e t)(d:QU X es u)
 (hs:(assignEach (e::es) X.env).map (·.2)=assign e X.env::(assignEach es X.env).map (·.2):=by rfl):QU X (e::es) (zO t u):=by
 intro c s f H p q Q I r h;let(v,w,g,h):=h
 subst g;cases r with
 |cons r i=>rw [hs];refine assignInOrder_cons (cm (h1 c s f H _ _ _ I r h) λZ j a=>?_);let(b,k,m,o):=a;exact d c j b k _ _ Q m i o
abbrev RD(K:zz8)(n:Nat)(t:Lw):TG:=λv b H Q=>∃a xs,v=.ref a/\gf K H a xs/\xs.length=n/\t xs b H Q
theorem Pl{es:List hI}{k:Nat}{t:Lw}{n:Nat}(i:X.calm=gS)(h:QU X es t)
 (j:(assignEach es X.env).length=n:=by rfl) (m:(assignEach es X.env).findIdx? (·.1)=gK:=by rfl):PG X (.Tuple es k pos) (RD X.K n t):=by
 intro d s f H v u Q I r c;let(a,xs,p,q,hl,c):=c;subst p;cases r;let(B,g,w,C):=I.tuple q;refine assign_Tuple_tuple (I.ok.hd i) w (by simp [j,<-hl,g.length]) m λy z=>?_;have A:Inv X d f H {s with heap:=y}:=I.kept (t':=s.toks) λb o e=>z b o (d0 (cB e)) e;exact h d _ f H xs _ Q A (zx6 g) c
abbrev VV(to b:TE)(t:HN):TG:=λv a H Q=>to a H λo c=>b a c λi d=>t o i v d λe=>Q a e
def F4{o i:hI}{to f:TE}{t:HN}(g:PE X o to)(j:PE X i f)(hs:uU X t)
 (k:∀v,assign (.Subscript o i pos) X.env v=(do
  let b<-holding [v] (eval o X.env);let c<-holding [v,b] (eval i X.env)
  standAt pos
  holding [v,b,c] (setItem b c v)
  release [v,b,c] []):=by intro _;rfl):PG X (.Subscript o i pos) (VV to f t):=by
 intro e s d H v u Q I r h;rw [k];refine ak (wpAny_holding (cm (g e s d H _ I h) λb m a=>?_));let(x,p,q,w,z):=a;refine ak (wpAny_holding (cm (j e m d p _ q z) λc A a=>?_));let(y,B,C,D,E):=a;refine ak (wpAny_standAt (ak (wpAny_holding (cm (hs e A d B x y v b c u _ C w D r E) λZ L a=>?_))));let(F,G,K):=a;exact wpAny_release ⟨d,F,G,K⟩
abbrev Hb(te:TE)(g:TG):TS:=λD a H=>te a H λx b=>g x a b D.nx
theorem Gf{a:hI}{g:TG}(he:PE X e te)(f:PG X a g)(hs:swapsWithSole [a] e pos.line X.env=pure gU:=by rfl)(i:swappedStores [a] e X.env=pure gK:=by rfl)
 (h1:(assignEach [a] X.env).map (·.2)=[assign a X.env]:=by rfl):PS X (.Assign [a] e pos) (Hb te g):=by
 intro c s d H D I h;refine wpAny_Assign_stores (cm (he c s d H _ I h) λv j b=>?_) hs i;let(x,k,m,o,p):=b;rw [h1];exact cm (f c j d k x v _ m o p) λZ r q=>q
theorem kE{i:Nat}{a:Pos}(hN:X.N.Nodup)(c:X.N[i]?=gF x)(d:Loc X.env.scope x)(he:PE X e te)(hs:swapsWith e (gF (.Name x a)) pos.line X.env=pure gU:=by rfl)(f:X.fn x=gS\/X.env.scope.names.lookup x=gF .local:=by first|exact .inl rfl|exact .inr rfl|assumption):
 PS X (.Assign [.Name x a] e pos) (Hb te (iw i)):=by
 intro g s j H D I h;refine wpAny_Assign_Name (cm (he g s j H _ I h) λv r b=>?_) hs;let(y,k,m,o,p):=b;exact qc m hN c d o (λt q=>{_,k,q,p}) f
abbrev P5(c:TT)(tb:TS):TS:=λD a H=>∃W:Nat->St->Hp->Prop,(∃m,W m a H)/\∀m a H,W m a H->
 c a H λb e=>if b=gS then∃N:St->Hp->Prop,(∀d f,N d f->∃g,g<m/\W g d f)/\tb {D with nx:=N,ct:=N,bk:=D.nx} a e else D.nx a e
def Gj{c:hI}{body:List ig}{u:TT}{tb:TS}(y:PassesOwn (hV X.prog X.w) X.A X.env X.xe)(E:PT X c u)(F:uM X body tb):PS X (.While c body [] pos) (P5 u tb):=by
 intro m s G H D I h;let(W,(m0,K),e):=h;refine wpAny_While (codeAny_whileLoop (λn L=>∃g z,Inv X m g z L/\W n g z) ?_ m0 ⟨G,H,I,K⟩)
 rintro n s1 ⟨d,H1,M,w1⟩
 refine wpAny_passesOwn y (cm (E m s1 d H1 _ M (e n d H1 w1)) λb O o=>?_);let(B,C,j):=o
 cases b with
 |true=>
  let(N,hN,j):=j;rw [if_pos rfl];refine wpAny_passesOwn y (cm (F m O d B _ C j) λf P k=>?_)
  cases f with
  |next=>let(a,i,p,q):=k;let(r,hm,t):=hN a i q;exact⟨r,hm,a,i,p,t⟩|cont=>let(a,i,p,q):=k;let(r,hm,t):=hN a i q;exact⟨r,hm,a,i,p,t⟩|brk=>exact k|ret v=>exact k
 |false=>rw [if_neg zzf];exact wpAny_execs_nil ⟨d,B,C,j⟩
structure It where
 go:Nat->Hp->Prop
 QK:Nat->Hp->V->Hp->Prop
 stop:Nat->Hp->Prop
def gh(X:Cx)(ae:ke)(H:Hp)(b:hF):Prop:=
 H b=gK/\b≠X.env.locals/\b∉X.fs/\(b∈X.ex\/X.s₀.heap.objs.size<=b)/\(∀x c,X.env.cells.lookup x=gF c->c≠b)/\∀p∈X.pn++ae,p.1≠b
def Inv.o5{f:St}{d:Hp}{s:hD}{b:hF}(I:Inv X ae f H s)(a:(zz9 s)<=b)(g:d b=gK):gh X ae d b:=by
 refine{g,Nat.ne_of_gt (dB I.lt a),I.WQ a,.inr (c6 I.sz a),λx c e z=>?_,λp h z=>?_}
 .let(v,q):=I.cell x c e;exact absurd (dB q.lt (by rw [z];exact a)) (Nat.lt_irrefl _)
 .exact absurd (dB (cB (I.pin p h).1) (by rw [z];exact a)) (Nat.lt_irrefl _)
structure Turn(P:hL)(w:hQ)(K:zz8)(tg:hI)(J:It)(fp:List hF)(it:hF)(tn:Nat->h9->Prop):Prop where
 mem:it∈fp
 obj:∀i h,tn i h->∀b∈fp,∃o,h.get? b=gF o/\∀v,o.data≠.cell v
 keep:∀i h h',tn i h->(∀b∈fp,∀o,h.get? b=gF o->h'.get? b=gF o)->tn i h'
 item:∀(X:Cx),X.prog=P->X.w=w->X.K=K->X.calm=gS->∀(i:Nat) (ae:ke) (s:hD) (σ:St) (H:Hp) (E:kd),Inv X ae σ H s->(∀b∈fp,gh X ae H b)->tn i s.heap->J.go i H->
  hJ (hV P w) X.A (pyNext (.ref it)) (λr s1=>∃u,r=gF u/\
   hJ (hV P w) X.A (letOwnedTupleGo tg (.ref it) u) (λ_ s2=>∃x H',Inv X ae σ H' s2/\RelV x u/\J.QK i H x H'/\tn (i+1) s2.heap/\∀b∈fp,H' b=gK) E s1) E s
 done:∀(X:Cx),X.prog=P->X.w=w->X.K=K->X.calm=gS->∀(i:Nat) (ae:ke) (s:hD) (σ:St) (H:Hp) (E:kd),Inv X ae σ H s->(∀b∈fp,gh X ae H b)->tn i s.heap->J.stop i H->
  hJ (hV P w) X.A (pyNext (.ref it)) (λr s1=>r=gK/\Inv X ae σ H s1) E s
 self:∀(A:hW) (i:Nat) (s:hD) (Q:kd) (E:kd),tn i s.heap->Q (.ref it) s->hJ (hV P w) A (pyIter (.ref it)) Q E s
noncomputable abbrev TI:=St->Hp->(It->Hp->Prop)->Prop
def Xv(X:Cx)(ae:ke)(d:St)(e:hI)(R:It->Hp->Prop)(f:hB)(c:hD):Prop:=
 ∃(it:hF) (fp:List hF) (tn:Nat->h9->Prop) (J:It) (a:Hp),f=.ref it/\Inv X ae d a c/\Turn X.prog X.w X.K e J fp it tn/\tn 0 c.heap/\(∀b∈fp,gh X ae a b)/\R J a
def PI(X:Cx)(c iter:hI)(d:TI):Prop:=
 ∀(b:ke) (s:hD) (a:St) (H:Hp) (R:It->Hp->Prop),Inv X b a H s->d a H R->
  zx7 X (eval iter X.env) (λv e=>zx7 X (pyIter v) (Xv X b a c R) X.xe e) X.xe s
def zV{M:Model}{E:kd}{s:hD}{b:hI}{it:hF}{u:hB}{n:String}{vs:Array hB}{Q:Unit->hD->Prop}(c:s.heap.get? it=gF o)(d:o.cls=.type n)(hd:o.data=.fields vs)
 (e:[zu 6,"zip","dict_itemiterator","dict_reverseitemiterator","odict_iterator","itertools.zip_longest","itertools.pairwise"].contains n=gU) (a:Q () s):hJ M A (letOwnedTupleGo b (.ref it) u) Q E s:=by
 unfold letOwnedTupleGo;cases b<;>first
  |exact a8 a
  |(cases u<;>first
   |exact a8 a
   | (refine ak (wpAny_load c ?_)
      rw [d,hd];show hJ M A (if([zu 6,"zip","dict_itemiterator","dict_reverseitemiterator","odict_iterator","itertools.zip_longest","itertools.pairwise"].contains n&&vs[0]?==gF (rawInt _))=gS then _ else _) Q E s;rw [if_neg (by intro h;rw [e,Bool.false_and] at h;cases h)];exact a8 a))
abbrev Vi(K:zz8)(a:hF):It:=
 {λi H=>∃xs x,gR K H a xs/\xs[i]?=gF x,λi H x b=>b=H/\∀xs,gR K H a xs->xs[i]?=gF x,λi H=>∃xs,gR K H a xs/\xs.length<=i}
abbrev Vj(K:zz8)(a:hF):It:=
 {λi H=>∃xs x,gf K H a xs/\xs[i]?=gF x,λi H x b=>b=H/\∀xs,gf K H a xs->xs[i]?=gF x,λi H=>∃xs,gf K H a xs/\xs.length<=i}
abbrev QR(a:Int)(n:Nat):It:={λi Z=>i<n,λi H x b=>b=H/\x=.int (a+i),λi Z=>n<=i}
def C9{K:zz8}{O:hI}(a it:hF):Turn P w K O (Vi K a) [it] it (λi h=>h.IsListIter it a i) where
 mem:=by simp
 obj:=λi h st b f=>by have e:b=it:=zx6 f;subst e;let(o,e,c,d):=st;exact{o,e,λv z=>by rw [d] at z;cases z}
 keep:=λi h g st k=>st.at λo e=>k it (by simp) o e
 item:=by intro X q r hK G i L s M H E I j st t;subst q r hK;let(xs,x,m,y):=t;let(Q,A,p,R):=I.list m;let(u,S,T):=A.get y;let(f0,B,U,C,D,F):=j it (by simp);refine wpAny_pyNext_list_item st p.isList (x:=u) (zx6 S) λg N V=>?_;have W:Inv X L M H {s with heap:=g}:=I.turned (t':=s.toks) (λb o f e=>(V.2 b f).trans e) f0 B C D F;let(o,e,c,d):=id N;exact{u,rfl,zV (s:={s with heap:=g}) e c d (by decide) {x,H,W,T,{rfl,λys Y=>by rw [I.vV Y m];exact y},N,λb f=>(j b f).1}}
 done:=by intro X q r hK G i L s M H E I j st t;subst q r hK;let(xs,m,y):=t;let(Q,A,p,R):=I.list m;let(f0,B,U,C,D,F):=j it (by simp);have hl:=A.length;exact wpAny_pyNext_list_end (I.ok.hd G) st p.isList (by simp;lia) λg Z=>{rfl,I.turned (t':=s.toks) (λb o f e=>Z b o f e) f0 B C D F}
 self:=λ_ _ _ _ _ st h=>wpAny_pyIter_listiter st h
def yO{K:zz8}{Q:hI}(a it:hF):Turn P w K Q (Vj K a) [it] it (λi h=>h.IsTupleIter it a i) where
 mem:=by simp
 obj:=λi h st b f=>by have e:b=it:=zx6 f;subst e;let(o,e,c,d):=st;exact{o,e,λv z=>by rw [d] at z;cases z}
 keep:=λi h g st k=>st.at λo e=>k it (by simp) o e
 item:=by intro X q r hK L i M s N H E I j st t;subst q r hK;let(xs,x,m,y):=t;let(A,B,p,R):=I.tuple m;let(u,S,T):=B.get y;let(f0,C,U,D,F,G):=j it (by simp);refine wpAny_pyNext_tuple_item st (show s.heap.IsTuple a A.toArray from p) (x:=u) (zx6 S) λg O V=>?_;have W:Inv X M N H {s with heap:=g}:=I.turned (t':=s.toks) (λb o f e=>(V.2 b f).trans e) f0 C D F G;let(o,e,c,d):=id O;exact{u,rfl,zV (s:={s with heap:=g}) e c d (by decide) {x,H,W,T,{rfl,λys Y=>by rw [I.sk Y m];exact y},O,λb f=>(j b f).1}}
 done:=by intro X q r hK L i M s N H E I j st t;subst q r hK;let(xs,m,y):=t;let(A,B,p,R):=I.tuple m;let(f0,C,U,D,F,G):=j it (by simp);have hl:=B.length;exact wpAny_pyNext_tuple_end (I.ok.hd L) st (show s.heap.IsTuple a A.toArray from p) (by simp;lia) λg Z=>{rfl,I.turned (t':=s.toks) (λb o f e=>Z b o f e) f0 C D F G}
 self:=λ_ _ _ _ _ st h=>wpAny_pyIter_tupleiter st h
def yN{w:hQ}{K:zz8}{F:hI}(it:hF)(c:Int)(n:Nat):Turn P w K F (QR c n) [it] it (λi h=>IsRangeIter h it (c+(i:Nat)*1) ((n:Int)-(i:Nat)) 1) where
 mem:=by simp
 obj:=λi h st b a=>by have e:b=it:=zx6 a;subst e;exact{_,st,λv z=>by have G:Data.fields _=Data.cell v:=z;cases G}
 keep:=λi h d st k=>k it (by simp) _ st
 item:=by intro X g j hK m i A s B H E I f st p;subst g j hK;let(f0,q,L,r,u,y):=f it (by simp);have W:=Walks.range (prog:=X.prog) (w:=X.w) (I.ok.hd m) it c 1 n;refine W.item i s _ _ p st λv d C M D N=>?_;let(t,rfl):=M;have O:Inv X A B H {s with heap:=d,toks:=C}:=I.turned (λb o a e=>N b o (zx6 a) e) f0 q r u y;refine{_,rfl,zV (s:={s with heap:=d,toks:=C}) (n:="range_iterator") D rfl rfl (by decide) {.int (c+i),H,O,{t,?_},⟨rfl,rfl⟩,D,λb a=>(f b a).1}};rw [Int.mul_one]
 done:=by intro X g j hK m i A s B H E I f st p;subst g j hK;let(f0,q,L,r,u,y):=f it (by simp);exact wpAny_pyNext_range_end (I.ok.hd m) st (by have:n<=i:=p;lia) λd Q=>{rfl,I.turned (t':=s.toks) (λb o a e=>Q b o a e) f0 q r u y}
 self:=λZ Z Z Z Z st h=>wpAny_pyIter_rangeiter st h
section
variable{tg:hI}
abbrev Sm(K:zz8)(c:TE):TI:=λd H R=>c d H λx b=>∃a,x=.ref a/\(∃xs,gR K b a xs)/\R (Vi K a) b
abbrev Wo(K:zz8)(c:TE):TI:=λd H R=>c d H λx b=>∃a,x=.ref a/\(∃xs,gf K b a xs)/\R (Vj K a) b
def AB{l:hI}{g:TE}(hl:PE X l g):PI X tg l (Sm X.K g):=by intro i s j H R I h;refine cm (hl i s j H _ I h) λv c f=>?_;let(x,k,d,m,r):=f;let(a,e,(xs,t),q):=r;subst e;cases m;let(w,y,p,z):=d.list t;refine wpAny_pyIter_list p.isList ?_;refine{(zz9 c),[(zz9 c)],_,_,k,rfl,d.kept (t':=c.toks) λb o e=>ar _ e,C9 a _,{_,dJ _ rfl,rfl,rfl},λb u=>?_,q};have e:b=(zz9 c):=zx6 u;subst e;exact d.o5 (a5 _) (d.aN.fresh (a5 _))
def Po{l:hI}{g:TE}(hl:PE X l g):PI X tg l (Wo X.K g):=by intro i s j H R I h;refine cm (hl i s j H _ I h) λv c f=>?_;let(x,k,d,m,r):=f;let(a,e,(xs,t),q):=r;subst e;cases m;let(u,y,p,z):=d.tuple t;refine wpAny_pyIter_tuple (show c.heap.IsTuple a u.toArray from p) ?_;refine{(zz9 c),[(zz9 c)],_,_,k,rfl,d.kept (t':=c.toks) λb o e=>ar _ e,yO a _,{_,dJ _ rfl,rfl,rfl},λb w=>?_,q};have e:b=(zz9 c):=zx6 w;subst e;exact d.o5 (a5 _) (d.aN.fresh (a5 _))
def wI{d:St}{s:hD}{R:It->Hp->Prop}{E:kd}{a:Int}{t u v:Tok}{tk:Nat}(I:Inv X ae d H s)(h1: -(2^62)<=a)(g:a<2^62)(h: -(2^62)<=c)(i:c<2^62)
 (q:R (QR a (c-a).toNat) H):zx7 X (pyIter (.ref (zz9 s))) (Xv X ae d tg R) E {s with heap:=s.heap.push {cls:=.type "range",data:=.fields #[.int a t,.int c u,.int 1 v]},toks:=tk}:=by
 refine wpAny_pyIter_range (IsRange.new ..) (small_one h1 g h i) ?_;have f:Inv X ae d H {s with heap:=s.heap.push {cls:=.type "range",data:=.fields #[.int a t,.int c u,.int 1 v]},toks:=tk}:=I.kept λb o e=>ar _ e
 refine{(s.heap.push {cls:=.type "range",data:=.fields #[.int a t,.int c u,.int 1 v]}).objs.size,[(s.heap.push {cls:=.type "range",data:=.fields #[.int a t,.int c u,.int 1 v]}).objs.size],_,_,H,rfl,
  f.kept (t':=tk) λb o e=>ar _ e,yN _ a (c-a).toNat,?_,λb j=>?_,q}
 .have k:a+((0:Nat):Int)*1=a:=by simp
  have m:(((c-a).toNat:Nat):Int)-((0:Nat):Int)=i1.Range.rangeSize a c 1:=by rw [rangeSize_one];split<;>lia
  show IsRangeIter _ _ (a+((0:Nat):Int)*1) ((((c-a).toNat:Nat):Int)-((0:Nat):Int)) 1;rw [k,m];exact dJ _ rfl
 .have e:b=(s.heap.push {cls:=.type "range",data:=.fields #[.int a t,.int c u,.int 1 v]}).objs.size:=zx6 j;subst e;exact f.o5 (a5 _) (f.aN.fresh (a5 _))
abbrev Sn(a:TA):TI:=λb H R=>a b H λc d=>∃j:Int,c=[.int j]/\ -(2^62)<=j/\j<2^62/\R (QR 0 j.toNat) d
abbrev So(a:TA):TI:=λb H R=>a b H λc d=>∃i j:Int,c=[.int i,.int j]/\(-(2^62)<=i/\i<2^62/\ -(2^62)<=j/\j<2^62)/\R (QR i (j-i).toNat) d
theorem CL{a:hI}{d:TA}{p:Pos}(f:Gl X "range")(hm:X.mg "range"=gK)(g:PA X [a] d)(hs:starEach [a] X.env=[(gU,eval a X.env)]:=by rfl):PI X tg (.Call (.Name "range" p) [a] [] pos) (Sn d):=by
 intro i s k H R I h;refine Call_ (fZ I f hm boot_range (PyProof.Rows.callWith_type1 (cm (g pos i s k H _ I h) λy z b=>?_) hs rfl));let(A,B,m,o,c):=b;let(j,e,c,u,q):=c
 subst e;cases o with
 |cons r w=>cases w;let(t,rfl):=r;exact call_range_1 (wI m (by lia) (by lia) c u (zx6 q))
theorem CM{a b:hI}{g:TA}{p:Pos}(m:Gl X "range")(hm:X.mg "range"=gK)(o:PA X [a,b] g)(hs:starEach [a,b] X.env=[(gU,eval a X.env),(gU,eval b X.env)]:=by rfl)(k:starEach [b] X.env=[(gU,eval b X.env)]:=by rfl):
 PI X tg (.Call (.Name "range" p) [a,b] [] pos) (So g):=by
 intro u s w H R I h;refine Call_ (fZ I m hm boot_range (PyProof.Rows.callWith_type1 (cm (o pos u s w H _ I h) λE F c=>?_) (by rw [hs,k]) (by rw [k];rfl)));let(G,K,y,z,d):=c;let(i,j,e,(d,A,B,C),q):=d
 subst e;cases z with
 |cons r f=>
  cases f with
  |cons D f=>cases f;let(t,rfl):=r;let(L,rfl):=D;exact call_range_2 (wI y d A B C q)
abbrev Xg(f:TI)(g:TG)(tb:TS):TS:=λD a H=>f a H λJ h=>∃W:Nat->Nat->St->Hp->Prop,(∃m,W 0 m a h)/\∀i m a H,W i m a H->
 (J.stop i H/\D.nx a H)\/(J.go i H/\∃N:St->Hp->Prop,(∀b c,N b c->∃e,e<m/\W (i+1) e b c)/\∀x c,J.QK i H x c->g x a c λd j=>tb {D with nx:=N,ct:=N,bk:=D.nx} d j)
abbrev ug(fp:List hF)(h:h9):ke:=fp.filterMap λb=>(h.get? b).map λo=>(b,o)
def d5{fp:List hF}{b:hF}(a:b∈fp)(e:h.get? b=gF o):(b,o)∈ug fp h:=fw.mpr {b,a,by rw [e];rfl}
def CF{fp:List hF}{p:hF×Obj}(a:p∈ug fp h):p.1∈fp/\h.get? p.1=gF p.2:=by
 let(b,c,e):=fw.mp a
 cases q:h.get? b with
 |none=>rw [q] at e;cases e
 |some o=>rw [q] at e;have d:(b,o)=p:=zzq e;subst d;exact⟨c,q⟩
theorem Inv.pinned{a:St}{s:hD}{fp:List hF}(I:Inv X ae a H s)(g:∀b∈fp,gh X ae H b)(h:∀b∈fp,∃o,s.heap.get? b=gF o/\∀v,o.data≠.cell v):Inv X (ae++ug fp s.heap) a H s:=
 I.jn λp i=>(List.mem_append.mp i).elim (λz=>I.pin p (c3 _ z)) λz=>by let(c,e):=CF z;let(f0,j,k,_):=g p.1 c;let(o,f,d):=h p.1 c;rw [e] at f;cases f;exact⟨e,f0,j,k,d⟩
def Inv.ma{pl:ke}{a:St}{s:hD}(I:Inv X (ae++pl) a H s):Inv X ae a H s:=I.jn λp b=>I.pin p (c3 _ (ee _ b))
def Pq{body:List ig}{V:TI}{g:TG}{tb:TS}(F:PassesOwn (hV X.prog X.w) X.A X.env X.xe)(Y:X.calm=gS)(hi:PI X tg iter V)(hg:PG X tg g)(c:uM X body tb)
 (hs:∀x,foldedSetIterable iter X.env x=pure x:=by intro _;rfl):PS X (.For tg iter body [] pos) (Xg V g tb):=by
 intro B s Z H D I h;refine wpAny_For (cm (hi B s Z H _ I h) λv s1 h1=>cm h1 λWv s2 h2=>?_) hs;let(it,fp,tn,J,H2,e,I2,T,Tq,f2,W,(m0,w0),G):=h2;subst e;have P:∀{y:Hp},(∀b∈fp,y b=gK)->∀b∈fp,gh X B y b:=λhn b c=>{hn b c,(f2 b c).2};refine codeAny_forLoop_any (λn s'=>∃i j y,Inv X B j y s'/\tn i s'.heap/\(∀b∈fp,y b=gK)/\W i n j y) ?_ m0 {0,Z,H2,I2,Tq,λb c=>(f2 b c).1,w0}
 rintro n s3 ⟨i,k,O,I3,K,L,w3⟩
 rcases G i n k O w3 with⟨stop,qn⟩|⟨go,N,hN,step⟩
 .refine wpAny_passesOwn F (cm (T.done X rfl rfl rfl Y i B s3 k O X.xe I3 (P L) K stop) λr s4 ⟨Q,I4⟩=>?_);subst Q;exact wpAny_execs_nil ⟨k,O,I4,qn⟩
 .refine wpAny_passesOwn F (cm (T.item X rfl rfl rfl Y i B s3 k O X.xe I3 (P L) K go) λr s4 ⟨u,Q,h4⟩=>?_);subst Q;refine wpAny_passesOwn F (cm h4 λ_ s5 C=>?_);let(x,H5,I5,r5,y5,E,R):=C;have Vf:=I5.pinned (P R) (T.obj _ _ E);refine wpAny_passesOwn F (cm (hg _ s5 k H5 x u _ Vf r5 (step x H5 y5)) λ_ s6 C=>?_);let(S,H6,I6,q6):=C;refine wpAny_passesOwn F (cm (c _ s6 S H6 _ I6 q6) λf U z=>?_);have p:∀{a:St} {q:Hp},Inv X (B++ug fp s5.heap) a q U->N a q->∃m,m<n/\∃i j y,Inv X B j y U/\tn i U.heap/\(∀b∈fp,y b=gK)/\W i m j y:=λ{a q} t M=>by let(m',hm,w7):=hN a q M;refine{m',hm,i+1,a,q,t.ma,T.keep _ _ _ E λb c o e=>(t.pin (b,o) (c3 _ (c3 _ (d5 c e)))).1,λb c=>?_,w7};let(o,e,d):=T.obj _ _ E b c;exact(t.pin (b,o) (c3 _ (c3 _ (d5 c e)))).2.1
  cases f with
  |next=>let(a,q,t,M):=z;exact p t M|cont=>let(a,q,t,M):=z;exact p t M|brk=>let(a,q,t,z):=z;exact⟨a,q,t.ma,z⟩|ret v=>let(x7,a,q,t,r7,z):=z;exact⟨x7,a,q,t.ma,r7,z⟩
end
noncomputable abbrev R2:=V->V->Hp->VK->Prop
def jo(X:Cx)(f:hB->hB->Sem hB)(r:R2):Prop:=
 ∀(a:ke) (s:hD) (b:St) (H:Hp) (x y:V) (v u:hB) (Q:VK),Inv X a b H s->RelV x v->RelV y u->r x y H Q->
  zx7 X (f v u) (EP X a b Q) X.xe s
def Ul(X:Cx)(f:hB->Sem hB)(r:V->Hp->VK->Prop):Prop:=
 ∀(a:ke) (s:hD) (b:St) (H:Hp) (x:V) (v:hB) (Q:VK),Inv X a b H s->RelV x v->r x H Q->
  zx7 X (f v) (EP X a b Q) X.xe s
def cG(X:Cx)(f:hB)(r:List V->Hp->VK->Prop):Prop:=
 ∀(a:ke) (s:hD) (b:St) (H:Hp) (xs:List V) (c:List hB) (Q:VK),Inv X a b H s->Vals xs c->r xs H Q->
  zx7 X (call f c) (EP X a b Q) X.xe s
abbrev QI(r:R2)(b tb:TE):TE:=λa H Q=>b a H λx c=>tb a c λy d=>r x y d Q
abbrev tUn(r:V->Hp->VK->Prop)(a:TE):TE:=λb H Q=>a b H λx c=>r x c Q
abbrev rI(C:Int->Int->Prop)(g:Int->Int->V):R2:=λx y H Q=>∃i j,x=.int i/\y=.int j/\C i j/\Q (g i j) H
abbrev Px(g:Int->Int->V):R2:=λx y H Q=>∃i j,x=.int i/\y=.int j/\Q (g i j) H
def rU(g:Int->V):V->Hp->VK->Prop:=λx H Q=>∃i,x=.int i/\Q (g i) H
section
variable{a b:hI}{ta tb:TE}
def ML(m:PE X a ta)(o:PE X b tb){s:hD}{d:St}{R:V->V->Hp->Prop}(I:Inv X ae d H s)
 (h:ta d H λx k=>tb d k λy e=>R x y e) {Q:kd} {f:hB->hB->Sem hB}
 (hf:∀v u j x y e,Inv X ae d e j->RelV x v->RelV y u->R x y e->zx7 X (f v u) Q X.xe j):
 zx7 X (eval a X.env) (λv g=>zx7 X (eval b X.env) (λu i=>zx7 X (f v u) Q X.xe i) X.xe g) X.xe s:=by
 refine cm (m ae s d H _ I h) λv p c=>?_;let(x,k,q,r,t):=c;refine cm (o ae p d k _ q t) λu j c=>?_;let(y,e,z,B,C):=c;exact hf v u j x y e z r B C
def S4{c:Operator}{r:R2}(d:jo X (binaryOp c) r)(e:PE X a ta)(f:PE X b tb):PE X (.BinOp a c b pos) (QI r ta tb):=by intro g s i H Q I h;exact wpAny_BinOp (ML e f I h λv u j x y k m o p q=>d g j i k x y v u Q m o p q)
def S6{c:UnaryOp}{r:V->Hp->VK->Prop}(f:Ul X (unaryOp c) r)(g:PE X a ta):PE X (.UnaryOp c a pos) (tUn r ta):=by intro d s e H Q I h;exact UnaryOp_ (cm (g d s e H _ I h) λv i ⟨x,H1,j,k,m⟩=>f d i e H1 x v Q j k m)
def WW{f:hB->hB->Sem hB}{C:Int->Int->Prop}{g:Int->Int->Int}
 (rule:∀(i j:Int) (t u:Tok) (s:hD) (Q:kd) (E:kd),C i j->Q (.int (g i j) s.toks) {s with toks:=s.toks+1}->zx7 X (f (.int i t) (.int j u)) Q E s):
 jo X f (rI C λi j=>.int (g i j)):=by
 intro m s o H x y v u Q I c d h;let(i,j,rfl,rfl,e,q):=h;let(t,rfl):=c;let(k,rfl):=d;exact rule i j t k s _ _ e {.int (g i j),H,I.tok _,{_,rfl},q}
def SV{f:hB->hB->Sem hB}{g:Int->Int->Int}
 (rule:∀(i j:Int) (t u:Tok) (s:hD) (Q:kd) (E:kd),Q (.int (g i j) s.toks) {s with toks:=s.toks+1}->zx7 X (f (.int i t) (.int j u)) Q E s):
 jo X f (Px λi j=>.int (g i j)):=by
 intro k s m H x y v u Q I c d h;let(i,j,rfl,rfl,q):=h;let(t,rfl):=c;let(e,rfl):=d;exact rule i j t e s _ _ {.int (g i j),H,I.tok _,{_,rfl},q}
def OW{f:hB->hB->Sem hB}{g:Int->Int->Bool}
 (rule:∀(i j:Int) (t u:Tok) (s:hD) (Q:kd) (E:kd),Q (.bool (g i j)) s->zx7 X (f (.int i t) (.int j u)) Q E s):
 jo X f (Px λi j=>.bl (g i j)):=by
 intro k s m H x y v u Q I c d h;let(i,j,rfl,rfl,q):=h;let(t,rfl):=c;let(e,rfl):=d;exact rule i j t e s _ _ {.bl (g i j),H,I,rfl,q}
def Vd(i j:Int):Prop:=0<j/\j<1073741824
def Ms(i j:Int):Prop:=(-(2^64)<i/\i<2^64)\/(-(2^64)<j/\j<2^64)
def Ms.ok{i j:Int}(h:Ms i j):IntMulOk i j:=by
 rcases h with⟨c,d⟩|⟨c,d⟩
 .exact .of_left (intBits_le_64 c d)
 .exact .of_right (intBits_le_64 c d)
def OX:jo X (binaryOp .Add) (Px λi j=>.int (i+j)):=SV λZ Z Z Z Z Z Z q=>add_int q
def O9:jo X (binaryOp .Sub) (Px λi j=>.int (i-j)):=SV λZ Z Z Z Z Z Z q=>sub_int q
def O7:jo X (binaryOp .Mult) (rI Ms λi j=>.int (i*j)):=WW λZ Z Z Z Z Z Z c q=>mul_int q c.ok
theorem J6:jo X (binaryOp .FloorDiv) (rI Vd λi j=>.int (i/j)):=WW λi j Z Z Z Z Z c q=>by have d:(0:Int)<j:=c.1;have e:j<1073741824:=c.2;exact floordiv_int (by lia) (by rw [Int.fdiv_eq_ediv_of_nonneg i (by lia)];exact q) (.inl (PyProof.noPylong_small (by lia)))
theorem O6:jo X (binaryOp .Mod) (rI (λZ j=>0<j) λi j=>.int (i%j)):=WW λi j Z Z Z Z Z c q=>by have d:(0:Int)<j:=c;exact mod_int' (by lia) (by rw [Int.fmod_eq_emod_of_nonneg i (by lia)];exact q)
def unI{f:hB->Sem hB}{g:Int->Int}
 (rule:∀(i:Int) (t:Tok) (s:hD) (Q:kd) (E:kd),Q (.int (g i) s.toks) {s with toks:=s.toks+1}->zx7 X (f (.int i t)) Q E s):
 Ul X f (rU λi=>.int (g i)):=by
 intro d s e H x v Q I c h;let(i,rfl,q):=h;let(t,rfl):=c;exact rule i t s _ _ {.int (g i),H,I.tok _,{_,rfl},q}
def Qd:Ul X (unaryOp .USub) (rU λi=>.int (-i)):=unI λZ Z Z Z Z q=>neg_int q
variable{c:hI}{tc:TE}
def xN{d:St}{s:hD}{k f:Bool}(I:Inv X ae d H s)(q:Q (.bl k) H)(e:k=f):EP X ae d Q (.bool f) s:=by subst e;exact{.bl k,H,I,rfl,q}
def SY:jo X (compareOp .Lt) (Px λi j=>.bl (decide (i<j))):=OW λZ Z Z Z Z Z Z q=>lt_int q
def SX:jo X (compareOp .LtE) (Px λi j=>.bl (decide (i<=j))):=OW λZ Z Z Z Z Z Z q=>le_int q
def SW:jo X (compareOp .Gt) (Px λi j=>.bl (decide (j<i))):=OW λZ Z Z Z Z Z Z q=>gt_int q
def O2:jo X (compareOp .Is) (λx y H Q=>y=.aC/\Q (.bl (decide (x=.aC))) H):=by
 intro f s g H x y v u Q I d e h;let(rfl,q):=h
 cases e;refine is_none_gen (xN I q ?_);cases x<;>first
  |(cases d;rfl)
  |(let(t,rfl):=d;rfl)
def J9:jo X (compareOp .IsNot) (λx y H Q=>y=.aC/\Q (.bl (!decide (x=.aC))) H):=by
 intro f s g H x y v u Q I d e h;let(rfl,q):=h
 cases e;refine isnot_none_gen (xN I q ?_);cases x<;>first
  |(cases d;rfl)
  |(let(t,rfl):=d;rfl)
def WR(b:hI){d:CmpOp}(h:d≠.In:=by decide)(e:d≠.NotIn:=by decide):behindInMarks d b=gU:=by
 have f:(d==CmpOp.In)=gU:=by cases d<;>first|rfl|exact absurd rfl h
 have g:(d==CmpOp.NotIn)=gU:=by cases d<;>first|rfl|exact absurd rfl e
 cases b<;>simp [behindInMarks,f,g]
def Kd{d:CmpOp}{r:R2}(e:jo X (compareOp d) r)(f:PE X a ta)(g:PE X b tb)(hm:behindInMarks d b=gU):PE X (.Compare a [d] [b] pos) (QI r ta tb):=by intro i s j H Q I h;exact wpAny_Compare1 (ML f g I h λv u k x y m o p t q=>e i k j m x y v u Q o p t q) hm
abbrev Hh(t:TE):TT:=λd H Q=>t d H λx e=>∃k,x=.bl k/\Q k e
def Kr{d:CmpOp}{r:R2}(i:jo X (compareOp d) r)(j:PE X a ta)(m:PE X b tb)(hm:behindInMarks d b=gU):PT X (.Compare a [d] [b] pos) (Hh (QI r ta tb)):=by intro f s g H Q I h;refine wpAny_isTrue_Compare1 (cm (j f s g H _ I h) λv o ⟨x,H1,p,q,t⟩=>cm (m f o g H1 _ p t) λu w ⟨y,A,B,C,D⟩=>cm (i f w g A x y v u _ B q C D) λc L ⟨z,E,F,G,k,e,K⟩=>?_) hm;subst e;cases G;exact wpAny_truthy_bool ⟨E,F,K⟩
abbrev yH(r f:R2)(ta tb tc:TE):TE:=λd H Q=>ta d H λx g=>tb d g λy h=>r x y h λz e=>∃k,z=.bl k/\
 (if k=gS then tc d e λi j=>f y i j Q else Q (.bl gU) e)
def FQ{i j:CmpOp}{r m:R2}(w:jo X (compareOp i) r)(A:jo X (compareOp j) m)(B:PE X a ta)(C:PE X b tb)(D:PE X c tc)
 (hm:lastMarks [i,j] [b,c]=gU:=by with_unfolding_all rfl):PE X (.Compare a [i,j] [b,c] pos) (yH r m ta tb tc):=by
 intro f s g H Q I h;refine Compare_chain (cm (B f s g H _ I h) λv E ⟨x,H1,F,G,K⟩=>chain_link (cm (C f E g H1 _ F K) λu L ⟨y,M,N,o,O⟩=>cm (w f L g M x y v u _ N G o O) λd P ⟨z,p,q,R,k,e,t⟩=>?_)) hm
 subst e;cases R;refine wpAny_truthy_bool ?_;cases k with
 |false=>exact ite_ff {.bl gU,p,q,rfl,t}|true=>exact ite_tt (chain_last (cm (D f P g p _ q t) λS T ⟨U,V,W,Y,Z⟩=>A f T g V y U u S Q W o Y Z))
def Gm{i j:CmpOp}{r o:R2}(A:jo X (compareOp i) r)(B:jo X (compareOp j) o)(C:PE X a ta)(D:PE X b tb)(E:PE X c tc)
 (hm:lastMarks [i,j] [b,c]=gU:=by with_unfolding_all rfl):PT X (.Compare a [i,j] [b,c] pos) (Hh (yH r o ta tb tc)):=by
 intro f s g H Q I h;refine isTrue_chain (cm (C f s g H _ I h) λv F ⟨x,H1,G,K,L⟩=>test_link (cm (D f F g H1 _ G L) λu M ⟨y,N,O,p,P⟩=>cm (A f M g N x y v u _ O K p P) λd R ⟨z,q,t,S,k,e,w⟩=>?_)) hm
 subst e;cases S;refine wpAny_truthy_bool ?_;cases k with
 |false=>let(k',T,U):=w;cases T;exact ite_ff ⟨q,t,U⟩
 |true=>refine ite_tt (test_last (cm (E f R g q _ t w) λV W ⟨Y,Z,I4,r4,q4⟩=>cm (B f W g Z y Y u V _ I4 p r4 q4) λd' s5 m=>?_));let(z2,H5,I5,r5,k2,e2,q5):=m;subst e2;cases r5;exact wpAny_truthy_bool ⟨H5,I5,q5⟩
def mz:(ic:Nat)<2^63:=by rw [sizeLine_eq];decide
def yn:jo X (binaryOp .Add) (λx y H Q=>∃i j,x=.str i/\y=.str j/\i.length+j.length<=ic/\Q (.str (i++j)) H):=by intro k s m H x y v u Q I d e h;let(i,j,rfl,rfl,f,q):=h;let(t,rfl):=d;let(g,rfl):=e;exact add_str (λg o=>{.str (i++j),H,I.tok _,{_,rfl},q}) f
def vals1{x:V}(r:Vals [x] us):∃u,us=[u]/\RelV x u:=by
 cases r with
 |cons d e=>cases e;exact{_,rfl,d}
def vals2{x y:V}(r:Vals [x,y] us):∃u d,us=[u,d]/\RelV x u/\RelV y d:=by
 cases r with
 |cons e f=>
  cases f with
  |cons g h=>cases h;exact{_,_,rfl,e,g}
def DU:cG X (.builtin "abs") (λxs H Q=>∃i,xs=[.int i]/\Q (.int (if i<0 then -i else i)) H):=by intro d s e H xs f Q I r h;let(i,rfl,q):=h;let(u,rfl,t,rfl):=vals1 r;exact call_abs_int λu g=>{.int (if i<0 then -i else i),H,I.tok _,{_,rfl},q}
def Bm(e:X.calm=gS):cG X (.builtin "max") (λxs H Q=>∃i j,xs=[.int i,.int j]/\Q (.int (if j>i then j else i)) H):=by
 intro f s g H xs m Q I r h;let(i,j,rfl,q):=h;let(u,o,rfl,(t,rfl),(p,rfl)):=vals2 r;refine max_two_ints (I.ok.hd e) λw y k=>{_,H,I.kept k,?_,q};by_cases d:j>i
 .rw [if_pos d,if_pos d];exact{_,rfl}
 .rw [if_neg d,if_neg d];exact{_,rfl}
def sW:cG X (.type "str") (λxs H Q=>∃i,xs=[.int i]/\i.natAbs.log2<1920/\Q (.str (toString i)) H):=by intro e s f H xs g Q I r h;let(i,rfl,d,q):=h;let(u,rfl,t,rfl):=vals1 r;exact PySem.P.str_of_int d {.str _,H,I.tok _,{_,rfl},q}
end
def kL.some_of{o:Option hB}(r:kL (gF v) o):∃u,o=gF u/\RelV v u:=by
 cases o with
 |none=>exact(show False from r).elim|some u=>exact⟨u,rfl,r⟩
structure eh(k:Nat)(A:hW):Prop where
 hd:3<=k->A.handled=gK
 dp:A.depth+3*k+5<recursionLimit
 un:A.units+16*k+200<cLine
theorem eh.mono{k:Nat}(r:eh k A)(h:j<=k):eh j A:={λz=>r.hd (by lia),by have:=r.dp;lia,by have:=r.un;lia}
theorem eh.deeper{k:Nat}(r:eh (k+1) A)(env:Env):eh k (A.deeper env):=
 {λz=>r.hd (by lia),by have:=r.dp;show A.depth+1+3*k+5<_;lia,by have:=r.un;show A.units+3+16*k+200<_;lia}
theorem eh.in1{k:Nat}(r:eh (k+1) A):eh k A.in1:=
 {λz=>r.hd (by lia),by have:=r.dp;show A.depth+3*k+5<_;lia,by have:=r.un;show A.units+1+16*k+200<_;lia}
def eh.depth{k:Nat}(r:eh k A):A.depth<recursionLimit:=by have:=r.dp;lia
def eh.units{k:Nat}(r:eh k A):A.units+64<cLine:=by have:=r.un;lia
abbrev Xj:TA:=λZ H Q=>Q [] H
abbrev Tv(b:TE)(tr:TA):TA:=λa H Q=>b a H λx c=>tr a c λxs d=>Q (x::xs) d
section
variable{es:List hI}{t:TA}
def dE:PA X [] Xj:=λZ Z Z Z H Q I h=>Calls.spliced_nil {[],H,I,.nil,h}
theorem bQ(d:PE X e te)(f:PA X es t)(hs:starEach (e::es) X.env=(gU,eval e X.env)::starEach es X.env:=by rfl):PA X (e::es) (Tv te t):=by intro pos b s c H Q I h;rw [hs];show hJ _ _ (spliced ((gU,eval e X.env)::backTo pos (starEach es X.env))) _ _ s;refine Calls.spliced_cons (cm (d b s c H _ I h) λu g a=>?_);let(x,i,j,k,m):=a;exact cm (f pos b g c i _ j m) λw y ⟨xs,o,p,q,r⟩=>{x::xs,o,p,.cons k q,r}
abbrev Xp(t:TA):TE:=λb H Q=>t b H λxs a=>xs.length<=ic/\∀p,a p=gK->Q (.ref p) (upd a p (.tup xs))
abbrev Xi(t:TA):TE:=λb H Q=>t b H λxs a=>xs.length<=ic/\∀p,a p=gK->Q (.ref p) (upd a p (.lst xs))
def Pj{d}(h:PA X es t):PE X (.Tuple es d pos) (Xp t):=by intro f s g H Q I i;refine wpAny_Tuple_spliced (cm (h pos f s g H _ I i) λj a ⟨xs,H1,c,r,z,q⟩=>{by rw [<-r.length];exact z,?_});have k:H1 (zz9 a)=gK:=c.aN.fresh (a5 _);refine{.ref (zz9 a),upd H1 (zz9 a) (.tup xs),c.laid (t':=a.toks) (λb u e=>ar _ e) (a5 _) ?_,rfl,q _ k};exact{z,j,r,{_,dJ _ rfl,rfl,_,rfl}}
def Pf(h:PA X es t):PE X (.List es pos) (Xi t):=by intro d s f H Q I g;refine wpAny_List_spliced (cm (h pos d s f H _ I g) λi a ⟨xs,H1,c,r,z,q⟩=>{by rw [<-r.length];exact z,?_});have j:H1 (zz9 a)=gK:=c.aN.fresh (a5 _);refine{.ref (zz9 a),upd H1 (zz9 a) (.lst xs),c.laid (t':=a.toks) (λb u e=>ar _ e) (a5 _) ?_,rfl,q _ j};exact{z,i,0,r,dJ _ rfl}
end
noncomputable abbrev Sp:=List V->Hp->VK->XK->Prop
noncomputable abbrev Dh:=List Env->Hp->hD->XK->hB->hD->Prop
structure kK(P:hL)(w:hQ)(K:zz8)(mg:Str->Option hB)(base:h9)(A:hW)(outer:List Env)(s:hD)(H:Hp):Prop where
 frames:A.frames=gF outer
 mod:Mod K mg base
 bs:∀b o,base.get? b=gF o->s.heap.get? b=gF o/\H b=gK
 xF:base.objs.size<=(zz9 s)
 gY:s.heap.FunFrames base outer
 xO:∀b∈fh outer,H b=gK
 aN:fe P w H s.heap
 bare:AllBare s.gens
def CE(outer:List Env)(P:hL)(w:hQ)(H:Hp)(s:hD)(Q:VK)(u:hB)(s':hD):Prop:=
 ∃v a,s'.os=s.os/\AllBare s'.gens/\Un (fh outer) [] H a s.heap s'.heap/\fe P w a s'.heap/\RelV v u/\Q v a
def CR(CX:Dh)(outer:List Env)(P:hL)(w:hQ)(H:Hp)(s:hD)(Q:VK)(E:XK)(r:Result)(s':hD):Prop:=
 match r with
 |.ok (.ret u)=>CE outer P w H s Q u s'|.ok _=>False|.error e=>CX outer H s E e s'
structure iK(P:hL)(w:hQ)(K:zz8)(mg:Str->Option hB)(base:h9)(CX:Dh)(k:Nat)(f:hF)(fd:FuncData)(ps:List Str)(sp:Sp):Prop where
 len:∀vs H Q E,sp vs H Q E->vs.length=ps.length
 run:∀(A:hW) (outer:List Env) (s:hD) (H:Hp) (args:Args) (us:List hB) (vs:List V) (Q:VK) (E:XK),eh k A->kK P w K mg base A outer s H->BindsTo s fd args (ps.zip us)->Vals vs us->sp vs H Q E->
  codeAny (hV P w) A (.call (.ref f) args) (CR CX outer P w H s Q E) s
def iK.mono{K:zz8}{CX:Dh}{k:Nat}{f:hF}{fd:FuncData}{ps:List Str}{sp:Sp}(F:iK P w K mg base CX j f fd ps sp)(h:j<=k):
 iK P w K mg base CX k f fd ps sp:={F.len,λA outer s H args a b Q E c=>F.run A outer s H args a b Q E (c.mono h)}
def iK.imp{K:zz8}{CX:Dh}{k:Nat}{f:hF}{fd:FuncData}{ps:List Str}{sp a:Sp}(F:iK P w K mg base CX k f fd ps sp)
 (h:∀vs H Q E,a vs H Q E->sp vs H Q E):iK P w K mg base CX k f fd ps a:=
 {λvs H Q E q=>F.len vs H Q E (h _ _ _ _ q),λA outer s H args b vs Q E c d e g hs=>F.run A outer s H args b vs Q E c d e g (h _ _ _ _ hs)}
def kK.in1{K:zz8}{s:hD}(e:kK P w K mg base A outer s H):
 kK P w K mg base A.in1 outer s H:=⟨e.frames,e.mod,e.bs,e.xF,e.gY,e.xO,e.aN,e.bare⟩
section
variable{s s':hD}
def Inv.BK(I:zv2 s):kK X.prog X.w X.K X.mg X.base X.A X.stack s H:=
 {I.ok.frames,I.ok.mod,I.bs,c6 I.ok.xF I.sz,I.stack,I.nX,I.aN,I.bare}
def Inv.after{u:hB}(I:zv2 s)(h:CE X.stack X.prog X.w H s Q u s'):EP X ae σ Q u s':=by let(v,c,os,bare,un,aN,r,q):=h;let(e,g,d,t,a):=s';obtain rfl:a=s.os:=os;exact{v,c,I.call (h':=e) (g':=g) (d':=d) (t':=t) (ch:=[]) un aN bare (λb z=>absurd z (by simp)),r,q}
end
def Binds(K:zz8)(fd:FuncData)(ps:List Str)(b:List hB):Prop:=
 ∀(s:hD) (a:List hB),K.In s.heap->(a++b).length=ps.length->BindsTo s fd {a,[]} (ps.zip (a++b))
def Binds.all{K:zz8}{fd:FuncData}{ps:List Str}(h:∀us:List hB,us.length=ps.length->bindArgs fd {us,[]}=pure (ps.zip us)):Binds K fd ps []:=λs us Z hl=>by rw [gg] at hl⊢;exact .of_eq (h us hl)
def Passes(CX:Dh)(X:Cx)(E:XK):Prop:=∀(b:ke) (c:St) (H:Hp) (s:hD) (e:hB) (a:hD),Inv X b c H s->CX X.stack H s E e a->X.xe e a
structure nv(N P:List Str)(sc:hZ):Prop where
 kind:sc.kind=.function
 co:sc.isCoroutine=gU
 gen:sc.isGenerator=gU
 nd:N.Nodup
 pre:N.take P.length=P
 par:∀x∈P,sc.names.lookup x=gF .local\/sc.names.lookup x=gF .cell
 OS:∀y∈sc.names,y.2≠.free
theorem rf{a:Str->Option NameKind}:∀{binds:List (Str×hB)} {m:Str->Option hB},(∀v,(x,v)∉binds)->bindL a binds m x=m x
 |[],_,_=>rfl|(n,v)::r,m,h=>by
  unfold bindL;rw [rf λw b=>h w (bc _ b)];split
  .have:x≠n:=by rintro rfl;exact h v cP
   simp [this]
  .rfl
theorem ra{a:Str->Option NameKind}:∀{binds:List (Str×hB)} {m:Str->Option hB},(∀v,(x,v)∉binds)->bindC a binds m x=m x
 |[],_,_=>rfl|(n,v)::r,m,h=>by
  unfold bindC;rw [ra λw b=>h w (bc _ b)];split
  .rfl
  .have:x≠n:=by rintro rfl;exact h v cP
   simp [this]
theorem rb{a:Str->Option NameKind}{v:hB}:∀{P:List Str} {vs:List hB} {i:Nat} {m:Str->Option hB},P.Nodup->P[i]?=gF x->vs[i]?=gF v->a x=gF .local->
 bindL a (P.zip vs) m x=gF v
 |[],_,_,_,_,h,_,_=>by simp at h|_::_,[],_,_,_,_,h,_=>by simp at h|p::P,w::vs,0,m,nd,h1,b,hk=>by simp at h1 b;subst h1;subst b;show bindL a ((p,w)::P.zip vs) m p=_;unfold bindL;rw [rf λv c=>(List.nodup_cons.mp nd).1 (List.of_mem_zip c).1,if_pos hk];simp|p::P,w::vs,i+1,m,nd,h1,b,hk=>by show bindL a ((p,w)::P.zip vs) m x=_;unfold bindL;exact rb (i:=i) (List.nodup_cons.mp nd).2 (zx6 h1) (zx6 b) hk
theorem q9{a:Str->Option NameKind}{v:hB}:∀{P:List Str} {vs:List hB} {i:Nat} {m:Str->Option hB},P.Nodup->P[i]?=gF x->vs[i]?=gF v->a x≠gF .local->
 bindC a (P.zip vs) m x=gF v
 |[],_,_,_,_,h,_,_=>by simp at h|_::_,[],_,_,_,_,h,_=>by simp at h|p::P,w::vs,0,m,nd,h1,b,hk=>by simp at h1 b;subst h1;subst b;show bindC a ((p,w)::P.zip vs) m p=_;unfold bindC;rw [ra λv c=>(List.nodup_cons.mp nd).1 (List.of_mem_zip c).1,if_neg hk];simp|p::P,w::vs,i+1,m,nd,h1,b,hk=>by show bindC a ((p,w)::P.zip vs) m x=_;unfold bindC;exact q9 (i:=i) (List.nodup_cons.mp nd).2 (zx6 h1) (zx6 b) hk
abbrev start(N:List Str)(vs:List V):St:=vs.map gF++j2 (N.length-vs.length) gK
noncomputable def eF(CX:Dh)(P:hL)(w:hQ)(K:zz8)(mg:Str->Option hB)(base:h9)(N:List Str)(qual:Str)(a:hZ)(f:hF)(cd:hB)(A:hW)(outer:List Env)(s:hD)(H:Hp)(E:XK):Cx where
 prog:=P
 w:=w
 K:=K
 mg:=mg
 base:=base
 A:=A.deeper (envOfC qual a (zz9 s) f cd)
 N:=N
 s₀:=s
 H₀:=H
 env:=envOfC qual a (zz9 s) f cd
 outer:=outer
 stack:=envOfC qual a (zz9 s) f cd::outer
 ex:=[]
 calm:=A.handled.isNone
 fn:=λZ=>gS
 pn:=[]
 xe:=λe c=>hJ (hV P w) (A.deeper (envOfC qual a (zz9 s) f cd)) (leaving (envOfC qual a (zz9 s) f cd) e) (λZ b=>CX outer H s E e b) (λd b=>CX outer H s E d b) c
def vi{sc:hZ}{n:Nat}(h:sc.names.lookup x=gF .cell):∃c,(jj n sc.names []).lookup x=gF c:=by have q:=PySem.W.cellsFrom_some sc.names n [] (.inl h);exact eK.mp q
def B8{CX:Dh}{K:zz8}{ps:List Str}{d:hZ}{f:hF}{cd:hB}{s D:hD}{E:XK}
 (S:nv N ps d) (j:kK P w K mg base A outer s H) (hl:vs.length=ps.length) (r:Vals vs us)
 (x:InCallC s (zz9 s) (bindL (envOfC qual d (zz9 s) f cd).kindOf (ps.zip us) λZ=>gK) (jj ((zz9 s)+1) d.names []) (bindC (envOfC qual d (zz9 s) f cd).kindOf (ps.zip us) λZ=>gK) D):
 Inv (eF CX P w K mg base N qual d f cd A outer s H E) [] (start N vs) H D:=by
 have I:ps.length<=N.length:=by have:=congrArg List.length S.pre;rw [List.length_take] at this;lia
 let(t,O,rfl,hk):=x.done;have C:∀b:hF,b∉(eF CX P w K mg base N qual d f cd A outer s H E).ex:=λb z=>absurd (show b∈([]:List hF) from z) (by simp)
 refine{{j.mod,S.kind,rfl,rfl,a5 _,λy z c t g=>?_,λy m=>?_,λy c Z h=>?_,λz=>Option.isNone_iff_eq_none.mp z,hW.frames_deeper j.frames,.inr ⟨rfl,rfl⟩,λb z=>absurd z (C b),j.bs,j.xF,λb Z Z=>C b,λb z=>absurd z (C b),j.gY,j.xO},
  rfl,j.bare,Un.kept hk,{_,x.toInCall.ns,λi y v t g Q=>?_},λy c h=>{_,x.cell y c h},j.aN.fresh (a5 _),λy c h=>?_,λp o=>absurd (show p∈([]:ke) from o) (by simp),j.aN.kept hk,?_}
 .exact name_of_addr x.apart (PySem.mem_of_lookup t) (PySem.mem_of_lookup g)
 .have m:d.names.lookup y=gF .cell\/d.names.lookup y=gF .free:=m
  rcases m with m|m
  .exact vi m
  .exact absurd rfl (S.OS _ (PySem.mem_of_lookup m))
 .exact Nat.le_of_lt (x.above y c (PySem.mem_of_lookup h))
 .have B:i<vs.length:=by
   unfold start at g;by_cases B:i<vs.length
   .exact B
   .rw [eT (zx6 B)] at g;rw [List.getElem?_replicate] at g;split at g<;>cases g
  have L:vs[i]?=gF v:=by
   unfold start at g;rw [eM (zx6 B),cS] at g;cases e:vs[i]? with
   |none=>rw [e] at g;cases g
   |some a=>rw [e] at g;cases g;rfl
  let(u,F,M):=r.get L;have o:ps[i]?=gF y:=by rw [<-S.pre,List.getElem?_take_of_lt (by lia)];exact t
  have G:ps.Nodup:=by rw [<-S.pre];exact S.nd.sublist (List.take_sublist _ _)
  refine{u,M,?_};rcases S.par y (a0 o) with k|k
  .exact .inl {k,rb G o F k}
  .let(c,e):=vi (n:=(zz9 s)+1) k;refine .inr {.inl k,c,e,?_};have q:=x.cell y c e;rw [q9 G o F (by show d.names.lookup y≠_;rw [k];decide)] at q;exact q
 .exact j.aN.fresh (Nat.le_of_lt (x.above y c (PySem.mem_of_lookup h)))
 .unfold start;show _=N.length;rw [cA,zzl,List.length_replicate];lia
def Rz{CX:Dh}{K:zz8}{k:Nat}{f:hF}{name:Str}{c:i2}{body:List ig}{a:hZ}{D kV i F h ct oc:hB}{G T:Option hF}
 {U:Array (Option hB)} {ps:List Str} {sp:Sp} (X:K.lookup f=gF {oc,T,.func (PySem.W.fnOf name qual c body a D kV i F G h ct),U}) (Y:PySem.W.codeIn K h qual=gS) (S:nv N ps a)
 (len:∀vs H Q E,sp vs H Q E->vs.length=ps.length)
 (Z:∀(A:hW) (outer:List Env) (s:hD) (H:Hp) (vs:List V) (Q:VK) (E:XK),eh k (A.deeper (envOfC qual a (zz9 s) f h))->sp vs H Q E->
  ∃t,uM (eF CX P w K mg base N qual a f h A outer s H E) body t/\t {nx:=λ_ g=>Q .aC g,rt:=Q} (start N vs) H):
 iK P w K mg base CX (k+1) f (PySem.W.fnOf name qual c body a D kV i F G h ct) ps sp:=by
 refine{len,λA outer s H args us vs Q E L j hb r M=>?_};have hl:=len _ _ _ _ M;have O:K.In s.heap:=j.mod.Su.keeps λb o e=>(j.bs b o e).1;have p:s.heap.NoLimit:=j.mod.nolimit.keeps λb o e=>(j.bs b o e).1
 have Sd:∀y∈ps.zip us,a.names.lookup y.1=gF .local\/(a.names.lookup y.1=gF .cell/\((jj ((zz9 s)+1) a.names []).lookup y.1).isSome=gS):=λz hy=>by
  let(n,v):=z
  rcases S.par n (List.of_mem_zip hy).1 with q|q
  .exact .inl q
  .exact .inr {q,PySem.W.cellsFrom_some _ _ _ (.inl q)}
 refine codeAny_call_function L.depth (O _ _ X) rfl S.co S.gen rfl (PySem.W.codeRec_of O Y) (hb _ _ _ _ ?_);refine wpAny_newFunctionEnv_cells S.kind Sd λenv he R x=>?_;subst he;refine{p.keeps x.toInCall.keep,codeAny_func ?_};let(t,ht,hq):=Z A outer s H vs Q E (L.deeper _) M;have I:Inv (eF CX P w K mg base N qual a f h A outer s H E) [] (start N vs) H R:=B8 S j hl r x;refine wpAny_mono (ht [] R (start N vs) H _ I hq) (λfl B hs=>?_) λe B hs=>hs
 have m:∀{d:St} {g:Hp} {v:V} {u:hB},Inv (eF CX P w K mg base N qual a f h A outer s H E) [] d g B->RelV v u->Q v g->CE outer P w H s Q u B:=
  λ{d g v u} J C q=>⟨v,g,J.os,J.bare,J.base,J.aN,C,q⟩
 cases fl with
 |ret u=>let(v,d,g,J,C,q):=hs;exact m J C q|next=>let(d,g,J,q):=hs;exact m (v:=V.aC) (u:=hB.none) J rfl q|brk=>let(_,_,_,q):=hs;exact eu q|cont=>let(_,_,_,q):=hs;exact eu q
section
variable{p:Pos}{es:List hI}{t:TA}{id T:String}{r:List V->Hp->VK->Prop}
abbrev U5(r:List V->Hp->VK->Prop)(t:TA):TE:=λa H Q=>t a H λb c=>r b c Q
def eB(c:cG X (.builtin id) r)(d:Gl X x)(hm:X.mg x=gK)(f:bootBuiltins x=gF (.builtin id))(g:PA X (e::es) t)(i:x≠(zu 46):=by decide)(j:(x==(zu 29:Str))=gU:=by decide)
 (he:starEach (e::es) X.env=(gU,eval e X.env)::starEach es X.env:=by rfl) (hpl:(backTo pos (starEach es X.env)).any (·.1)=gU:=by rfl):PE X (.Call (.Name x p) (e::es) [] pos) (U5 r t):=by
 intro a s b H Q I h;refine wpAny_Call_Name_kw (fZ I d hm f ?_ i j);exact PyProof.Rows.callWith_builtin1 (cm (g pos a s b H _ I h) λk m ⟨o,H1,q,u,w⟩=>c a m b H1 o k Q q u w) he hpl
def d6(c:cG X (.type T) r)(d:Gl X x)(hm:X.mg x=gK)(f:bootBuiltins x=gF (.type T))(g:PA X (e::es) t)(i:x≠(zu 46):=by decide)(j:(x==(zu 29:Str))=gU:=by decide)
 (he:starEach (e::es) X.env=(gU,eval e X.env)::starEach es X.env:=by rfl) (hpl:(backTo pos (starEach es X.env)).any (·.1)=gU:=by rfl):PE X (.Call (.Name x p) (e::es) [] pos) (U5 r t):=by
 intro a s b H Q I h;refine wpAny_Call_Name_kw (fZ I d hm f ?_ i j);exact PyProof.Rows.callWith_type1 (cm (g pos a s b H _ I h) λk m ⟨o,H1,q,u,w⟩=>c a m b H1 o k Q q u w) he hpl
end
end L2
variable{H G H0:L2.Hp}{v:L2.V}{X:L2.Cx}{Q:L2.VK}{σ:L2.St}{te:L2.TE}{vs:List L2.V}{D:L2.Ends}
namespace HT
open PyProof.Rows
abbrev lexLt:List Int->List Int->Bool
 |[],[]=>gU|[],_::_=>gS|_::_,[]=>gU|x::xs,y::ys=>if x=y then lexLt xs ys else decide (x<y)
theorem x9(x y:Int)(xs ys:List Int):lexLt (x::xs) (y::ys)=if x=y then lexLt xs ys else decide (x<y):=rfl
theorem qw:lexLt [] []=gU:=rfl
section
variable{E:kd}{s:hD}
abbrev dm(n d:Nat):Option Int->Nat
 |none=>d|some v=>if v<0 then(v+(n:Int)).toNat else min v.toNat n
theorem pU(n d:Nat):dm n d gK=d:=rfl
def AQ(n d k:Nat):dm n d (gF (k:Int))=min k n:=by show(if(k:Int)<0 then((k:Int)+(n:Int)).toNat else min (k:Int).toNat n)=min k n;rw [if_neg (by lia),fW]
def PJ(n d:Nat)(hd:d<=n)(o:Option Int):dm n d o<=n:=by
 cases o with
 |none=>exact hd|some v=>
  show(if v<0 then(v+(n:Int)).toNat else min v.toNat n)<=n;by_cases a:v<0
  .rw [if_pos a];lia
  .rw [if_neg a];exact Nat.min_le_right _ _
def zj(v:Int)(n d:Nat):(if v<0 then max (v+(n:Int)) 0 else min v (n:Int))=((dm n d (gF v):Nat):Int):=by
 show(if v<0 then max (v+(n:Int)) 0 else min v (n:Int))=(((if v<0 then(v+(n:Int)).toNat else min v.toNat n):Nat):Int);by_cases a:v<0
 .simp! [if_pos a];lia
 .simp! [if_neg a];lia
def xw(a b:Option Int)(n:Nat):i1.Slice.sliceAdjust a b 1 (n:Int)=(((dm n 0 a:Nat):Int),((dm n n b:Nat):Int)):=by
 have c:¬((1:Int)<0):=by lia
 unfold i1.Slice.sliceAdjust;simp! [c,if_false];refine Prod.ext ?_ ?_
 .cases a with
  |none=>rfl|some v=>exact zj v n 0
 .cases b with
  |none=>rfl|some v=>exact zj v n n
def yt(i j:Nat):i1.Slice.slicePlaces (i:Int) (j:Int) 1=j-i:=by
 unfold i1.Slice.slicePlaces;have a:(1:Int)>0:=by lia
 simp! [a,if_true,Int.ediv_one];split<;>lia
def pX{v:hB}{o:Option Int}{Q:Option Int->hD->Prop}(p:IsPart v o)(h:Q o s):hJ (hV prog w) A (i1.Slice.slicePartIndex v) Q E s:=by
 cases p with
 |none=>exact slicePart_none h|int i t=>exact slicePart_int h
def gJ{sl:hF}{e f:hB}{a b:Option Int}{n:Nat}{Q:Int×Int×Nat->hD->Prop}(hs:s.heap.IsSliceOf sl e f .none)(pl:IsPart e a)(g:IsPart f b)
 (h:Q (((dm n 0 a:Nat):Int),1,dm n n b-dm n 0 a) s):hJ (hV prog w) A (i1.Slice.sliceApplied (.ref sl) (pure (n:Int))) Q E s:=by
 let(os,c,i,d):=id hs
 unfold i1.Slice.sliceApplied i1.Slice.sliceFields;refine ak (ak (wpAny_field c d (x:=e) rfl (ak (wpAny_field c d (x:=f) rfl (ak (wpAny_field c d (x:=.none) rfl (a8 ?_)))))));refine ak (slicePart_none ?_);show hJ _ _ (if((1:Int)==0)=gS then _ else _) _ _ s;rw [if_neg (by decide)];refine ak (pX pl (ak (pX g (ak (a8 ?_)))));show hJ _ _ (match i1.Slice.sliceAdjust a b 1 (n:Int) with|(a,b)=>pure (a,(1:Int),i1.Slice.slicePlaces a b 1)) _ _ s;rw [xw a b n];show hJ _ _ (pure (((dm n 0 a:Nat):Int),(1:Int),i1.Slice.slicePlaces ((dm n 0 a:Nat):Int) ((dm n n b:Nat):Int) 1)) _ _ s;rw [yt];exact a8 h
def F8(xs:Array hB)(i k:Nat):((List.range k).filterMap λ(m:Nat)=>xs[((i:Int)+(m:Int)*1).toNat]?).toArray=((xs.toList.drop i).take k).toArray:=by
 have e:(λ(m:Nat)=>xs[((i:Int)+(m:Int)*1).toNat]?)=λm=>xs[i+m]?:=by
  funext m
  have:((i:Int)+(m:Int)*1).toNat=i+m:=by lia
  rw [this]
 rw [e];have:=pick_run xs i k;rw [List.filterMap_map] at this;have a:((λx=>xs[x]?)∘λx=>i+x)=λm=>xs[i+m]?:=rfl;rw [a] at this;rw [this]
def lH{t sl:hF}{f g:hB}{a b:Option Int}{Q:kd}(c:IsTup s.heap t items)(hs:s.heap.IsSliceOf sl f g .none)(pl:IsPart f a)(i:IsPart g b)
 (hw:¬(dm items.size 0 a=0/\dm items.size items.size b=items.size))
 (h:Q (.ref (zz9 s)) {s with heap:=s.heap.push {cls:=.type "tuple",data:=.seq ((items.toList.drop (dm items.size 0 a)).take (dm items.size items.size b-dm items.size 0 a)).toArray}})
 (hsz:items.size<=ic):hJ (hV prog w) A (getItem (.ref t) (.ref sl)) Q E s:=by
 have d:sizeOk (.seq ((items.toList.drop (dm items.size 0 a)).take (dm items.size items.size b-dm items.size 0 a)).toArray):=by show((items.toList.drop (dm items.size 0 a)).take (dm items.size items.size b-dm items.size 0 a)).toArray.size<=ic;rw [aT,List.length_take,List.length_drop,el];omega
 have r:dm items.size items.size b<=items.size:=PJ _ _ (a5 _) b;let(os,e,j,k):=id hs;have o:s.TypeIs (.ref sl) "slice":=⟨os,e,j⟩;unfold getItem
 try with_reducible refine wpAny_holding ?_
 first|refine ak (a8 ?_)|skip
 refine ak (wpAny_sequenceKey c.typeIs (by decide) ?_);refine ak (wpAny_callSpecial?_slot (name:=Str.ofString "__getitem__") c.typeIs PyProof.Rows.slot_tuple_getitem
  (wpAny_call_entry PyProof.Rows.slot_tuple_getitem c.typeIs entry_tuple_getitem ?_ (args_tuple_getitem _ _)))
 show hJ _ _ (i1.Tuple.tupleItemsOf (.ref t)>>=_) _ _ s;refine ak (tupleItemsOf_ c ?_);refine ak (wpAny_typeOf o ?_);rw [if_pos (by decide)];refine ak (gJ hs pl i ?_);have p:¬((((dm items.size 0 a:Nat):Int)==0&&(1:Int)==1&&(dm items.size items.size b-dm items.size 0 a)==items.size)=gS):=by intro q;rw [zza,zza] at q;have u:((dm items.size 0 a:Nat):Int)=0:=eq_of_beq q.1.1;have y:dm items.size items.size b-dm items.size 0 a=items.size:=eq_of_beq q.2;exact hw {by omega,by omega}
 show hJ _ _ (if(((dm items.size 0 a:Nat):Int)==0&&(1:Int)==1&&(dm items.size items.size b-dm items.size 0 a)==items.size)=gS then _ else _) _ _ s;rw [if_neg p,F8]
 first
  |exact ak (m:=i1.Tuple.tupleExact _) (wpAny_newObj_type (a8 ⟨_,rfl,a8 h⟩) d)
  |exact ak (m:=i1.Tuple.tupleExact _) (wpAny_newObj_type (ak (a8 (a8 ⟨_,rfl,a8 h⟩))) d)
  |exact ak (ak (m:=i1.Tuple.tupleExact _) (wpAny_newObj_type (a8 (a8 ⟨_,rfl,a8 h⟩)) d))
  |exact ak (ak (m:=i1.Tuple.tupleExact _) (wpAny_newObj_type (a8 ⟨_,rfl,a8 h⟩) d))
end
end HT
namespace L2
open PySem.Spec PyProof.Rows
noncomputable abbrev TO:=St->Hp->(Option Int->Hp->Prop)->Prop
def PO(X:Cx)(e:Option hI)(t:TO):Prop:=
 ∀(b:ke) (s:hD) (a:St) (H:Hp) (Q:Option Int->Hp->Prop),Inv X b a H s->t a H Q->
  zx7 X (evalPart e X.env) (λu d=>∃o c,Inv X b a c d/\IsPart u o/\Q o c) X.xe s
abbrev Lb:TO:=λZ H Q=>Q gK H
abbrev TC(t:TE):TO:=λa H Q=>t a H λx b=>∃i,x=.int i/\Q (gF i) b
section
variable{lo hi:Option hI}{tl th:TO}{p2:Pos}
def Kl:PO X gK Lb:=by intro a s b H Q I h;rw [evalPart_none];exact a8 {gK,H,I,.none,h}
def Ko(h:PE X e te):PO X (gF e) (TC te):=by intro b s c H Q I d;rw [evalPart_some];refine cm (h b s c H _ I d) λu m a=>?_;let(x,f,g,j,k):=a;let(i,rfl,q):=k;let(t,rfl):=j;exact{gF i,f,g,.int i t,q}
def Hv(X:Cx)(r:V->Option Int->Option Int->Hp->VK->Prop):Prop:=
 ∀(a:ke) (s:hD) (b:St) (H:Hp) (x:V) (v c d:hB) (lo hi:Option Int) (f:hF) (Q:VK),Inv X a b H s->RelV x v->s.heap.IsSliceOf f c d .none->IsPart c lo->IsPart d hi->r x lo hi H Q->
  ∃T g,typeLookup (.type T) "__getitem__"=pure (gF (.builtin g))/\s.TypeIs v T/\zx7 X (getItem v (.ref f)) (EP X a b Q) X.xe s
abbrev tSl(r:V->Option Int->Option Int->Hp->VK->Prop)(te:TE)(tl th:TO):TE:=λa H Q=>te a H λx b=>tl a b λl c=>th a c λu d=>r x l u d Q
def F0{r:V->Option Int->Option Int->Hp->VK->Prop}(k:Hv X r)(he:PE X e te)(hl:PO X lo tl)(m:PO X hi th):PE X (.Subscript e (.Slice lo hi gK p2) pos) (tSl r te tl th):=by
 intro d s f H Q I h;refine Subscript_ (cm (he d s f H _ I h) λv o c=>?_);let(x,p,t,y,z):=c;refine wpAny_Slice (cm (hl d o f p _ t z) λg B ⟨l,C,D,pl,E⟩=>cm (m d B f C _ D E) λi a c=>?_);let(u,j,F,G,K):=c
 rw [evalPart_none];refine a8 ?_;have L:Inv X d f j {a with heap:=a.heap.push {cls:=.type "slice",data:=.fields #[g,i,.none]}}:=F.kept (t':=a.toks) λb P q=>ar _ q
 let(T,R,M,N,O):=k d {a with heap:=a.heap.push {cls:=.type "slice",data:=.fields #[g,i,.none]}} f j x v g i l u (zz9 a) Q L y (h9.IsSliceOf.new ..) pl G K
 show zx7 X (subscriptTail e (.Slice lo hi gK p2) v (.ref (zz9 a))) (EP X d f Q) X.xe {a with heap:=a.heap.push {cls:=.type "slice",data:=.fields #[g,i,.none]}};exact tail_any (ops:=[.ref (zz9 a),v]) N M O (by with_unfolding_all rfl)
abbrev vo(xs:List V)(lo hi:Option Int):List V:=(xs.drop (HT.dm xs.length 0 lo)).take (HT.dm xs.length xs.length hi-HT.dm xs.length 0 lo)
def mU(xs:List V)(lo hi:Option Int):(vo xs lo hi).length<=xs.length:=by unfold vo;rw [List.length_take,List.length_drop];lia
def W6(K:zz8):V->Option Int->Option Int->Hp->VK->Prop:=λx lo hi H Q=>∃a xs,x=.ref a/\gf K H a xs/\
 ¬(HT.dm xs.length 0 lo=0/\HT.dm xs.length xs.length hi=xs.length)/\∀p,H p=gK->Q (.ref p) (upd H p (.tup (vo xs lo hi)))
def PM:Hv X (W6 X.K):=by
 intro p s t H x v u w lo hi y Q I g hs pl i h;let(a,xs,rfl,j,k,q):=h;cases g;let(m,r,d,f):=I.tuple j;have c:m.toArray.size=xs.length:=by rw [aT];exact r.length.symm
 refine{"tuple",_,PyProof.Rows.slot_tuple_getitem.lookup,d.typeIs,?_};refine HT.lH d hs pl i (by rw [c];exact k) ?_ (by rw [c];exact f);rw [c];refine{.ref (zz9 s),_,I.laid (t':=s.toks) (o:=.tup (vo xs lo hi)) (λb z q=>ar _ q) (a5 _) ?_,rfl,q _ (I.aN.fresh (a5 _))};exact{c6 (mU xs lo hi) f,_,(r.drop (HT.dm xs.length 0 lo)).take (HT.dm xs.length xs.length hi-HT.dm xs.length 0 lo),IsTup.new _ _}
end
abbrev B9(n:Nat)(i:Int):Option Nat:=if 0<=i then(if i<n then gF i.toNat else gK) else if -(n:Int)<=i then gF (i+n).toNat else gK
abbrev qZ{a:Type}(xs:List a)(i:Int):Option a:=(B9 xs.length i).bind λj=>xs[j]?
def Ai{n:Nat}{i:Int}(h:B9 n i=gF j):seqIndex? i n=gF j/\j<n/\ -(n:Int)<=i/\i<n:=by
 unfold B9 at h;by_cases h0:0<=i
 .rw [if_pos h0] at h;by_cases a:i<n
  .rw [if_pos a] at h;have e:i.toNat=j:=zzq h;exact{by rw [seqIndex_of h0 a,e],by lia,by lia,a}
  .rw [if_neg a] at h;cases h
 .rw [if_neg h0] at h;by_cases a: -(n:Int)<=i
  .rw [if_pos a] at h;have e:(i+n).toNat=j:=zzq h;exact{by rw [seqIndex_neg (by lia) a,e],by lia,a,by lia}
  .rw [if_neg a] at h;cases h
def sN{a:Type}{xs:List a}{i:Int}{v:a}(h:qZ xs i=gF v):∃j,seqIndex? i xs.length=gF j/\xs[j]?=gF v/\j<xs.length/\ -(xs.length:Int)<=i/\i<xs.length:=by
 unfold qZ at h;cases e:B9 xs.length i with
 |none=>rw [e] at h;cases h
 |some j=>rw [e] at h;let(b,c,d,f):=Ai e;exact⟨j,b,h,c,d,f⟩
def sC(b:hI):Prop:=∀o i,subscripted b gU o i=operate [o,i] (getItem o i)
def Qg(X:Cx)(r:R2):Prop:=
 ∀(a slice:hI) (b:ke) (s:hD) (c:St) (H:Hp) (x y:V) (v u:hB) (Q:VK),Inv X b c H s->RelV x v->RelV y u->r x y H Q->
  subscripted slice gU v u=operate [v,u] (getItem v u)->zx7 X (subscriptTail a slice v u) (EP X b c Q) X.xe s
def Ud(X:Cx)(id:String)(r:V->List V->Hp->VK->Prop):Prop:=
 ∀(a:ke) (s:hD) (b:St) (H:Hp) (x:V) (xs:List V) (v:hB) (c:List hB) (Q:VK),Inv X a b H s->RelV x v->Vals xs c->r x xs H Q->
  zx7 X (call (.builtin id) (v::c)) (EP X a b Q) X.xe s
section
variable{a b:hI}{ta tb:TE}
def L9{r:R2}(c:Qg X r)(d:PE X a ta)(e:PE X b tb)(hs:sC b):PE X (.Subscript a b pos) (QI r ta tb):=by intro f s g H Q I h;exact Subscript_ (ML d e I h λv u i x y j k m o q=>c a b f i g j x y v u Q k m o q (hs _ _))
abbrev W3(K:zz8):R2:=λx y H Q=>∃p xs i v,x=.ref p/\y=.int i/\gR K H p xs/\qZ xs i=gF v/\Q v H
abbrev S9(K:zz8):R2:=λx y H Q=>∃p xs i v,x=.ref p/\y=.int i/\gf K H p xs/\qZ xs i=gF v/\Q v H
abbrev W4:R2:=λx y H Q=>∃z i c,x=.str z/\y=.int i/\z.length<=ic/\qZ z.cps.toList i=gF c/\Q (.str {#[c]}) H
def JB:Qg X (W3 X.K):=by
 intro e slice g s k H x y v u Q I o A h hs;let(p,xs,i,z,rfl,rfl,B,C,q):=h;cases o;let(t,rfl):=A;let(D,r,pl,N):=I.list B;let(j,d,E,O,F,G):=sN C;let(w,m,L):=r.get E;have hl:=r.length;have P:=mz;have c:EP X g k Q w s:=⟨z,H,I,L,q⟩;by_cases h0:0<=i
 .have f:i.toNat=j:=by
   rw [seqIndex_of h0 G] at d;exact zzq d
  exact item_listR pl.isList h0 (by lia) (by rw [f];simpa using m) c hs
 .have f:(i+(D.toArray.size:Int)).toNat=j:=by
   rw [seqIndex_neg (by lia) F] at d;rw [aT,<-hl];exact zzq d
  exact subscriptTail_builtinR (x:=w) pl.isList.typeIs slot_list_getitem.lookup
   (wpAny_getItem_list_neg (Q:=λr M=>r=w/\EP X g k Q r M) pl.isList (by lia) (by rw [aT]<;>lia) (by lia) (by rw [f];simpa using m) ⟨rfl,c⟩) hs
def E0:Qg X (S9 X.K):=by
 intro c slice e s f H x y v u Q I g k h hs;let(p,xs,i,z,rfl,rfl,m,o,q):=h;cases g;let(t,rfl):=k;let(F,r,pl,G):=I.tuple m;let(j,A,B,L,M,N):=sN o;let(w,C,D):=r.get B;have hl:=r.length;have O:=mz;have d:EP X e f Q w s:=⟨z,H,I,D,q⟩
 exact subscriptTail_builtinR (x:=w) pl.typeIs slot_tuple_getitem.lookup
  (getItem_tuple (j:=j) (Q:=λr E=>r=w/\EP X e f Q r E) pl (by lia) (by lia) (by rw [aT,<-hl];exact A) (zx6 C) ⟨rfl,d⟩) hs
def Ou:Qg X W4:=by
 intro d slice A s B H x y v u Q I f g h hs;let(z,i,c,rfl,rfl,C,k,q):=h;let(t,rfl):=f;let(D,rfl):=g;let(j,e,m,E,o,p):=sN k;have hl:z.cps.toList.length=z.length:=by simp [Str.length]
 rw [hl] at e o p;have F:=mz;exact tail_any (typeIs_str s z t) slot_str_getitem.lookup (getItem_str (c:=c) (by have r:decide (i< -(2^63:Int))=gU:=zz0 (by lia);have w:decide (i>=2^63)=gU:=zz0 (by lia);rw [r,w,Bool.or_false]) (by rw [e];simpa using m) {.str {#[c]},H,I.tok _,{_,rfl},q}) hs
def yf(c:List hB)(n j:Nat)(u:hB):Obj.mapSeq (·.setIfInBounds j u) {cls:=.type "list",data:=.seq c.toArray n}={cls:=.type "list",data:=.seq (c.set j u).toArray n}:=by simp [Obj.mapSeq]
def Inv.lst{d:St}{s:hD}{p:hF}{xs:List V}(I:Inv X ae d H s)(h:H p=gF (.lst xs)):
 ∃(c:List hB) (n:Nat),Vals xs c/\s.heap.get? p=gF {cls:=.type "list",data:=.seq c.toArray n}/\xs.length<=sizeLine:=by
 let(z,c,n,r,e):=I.aN p _ h;exact⟨c,n,r,e,z⟩
def Inv.OJ{d:St}{s:hD}{p:hF}{xs ys:List V}{g its':List hB}{n c:Nat}{f:Obj->Obj}(I:Inv X ae d H s)(h:H p=gF (.lst xs))
 (j:s.heap.get? p=gF {cls:=.type "list",data:=.seq g.toArray n}) (i:f {cls:=.type "list",data:=.seq g.toArray n}={cls:=.type "list",data:=.seq its'.toArray c}) (r:Vals ys its') (hz:ys.length<=ic) (t:Nat):
 Inv X ae d (upd H p (.lst ys)) {s with heap:=s.heap.update p f,toks:=t}:=by
 have e:(s.heap.update p f).get? p=gF {cls:=.type "list",data:=.seq its'.toArray c}:=by rw [h9.get?_update_self f j (by rw [i]<;>rfl),i]
 refine I.write (x:=p) (e:=p) (by rw [h];trivial) (.inl rfl) (λb u k q=>(h9.get?_update_other _ _ (Ne.symm k)).trans q) {_,e} ?_;exact⟨hz,its',c,r,e⟩
def Tb:V->V->V->Hp->(Hp->Prop)->Prop:=λo i v H Q=>∃p xs k j,o=.ref p/\i=.int k/\H p=gF (.lst xs)/\B9 xs.length k=gF j/\Q (upd H p (.lst (xs.set j v)))
def set_list:uU X Tb:=by
 intro y s z H o i v F G u Q I A B C h;let(p,xs,k,j,rfl,rfl,e,D,q):=h;cases A;let(t,rfl):=B;let(f,n,r,d,E):=I.lst e;let(c,K,g,m):=Ai D;have hl:=r.length;have L:=mz
 have w:Inv X y z (upd H p (.lst (xs.set j v))) {s with heap:=s.heap.update p (Obj.mapSeq (·.setIfInBounds j u))}:=
  I.OJ e d (yf f n j u) (r.set C j) (by rw [List.length_set];exact E) s.toks
 by_cases h0:0<=k
 .have hk:k.toNat=j:=by
   rw [seqIndex_of h0 m] at c;exact zzq c
  exact PySem.W.ki_setAt d h0 (by lia) (by rw [aT,<-hl];exact m) (by rw [hk];exact{_,w,q})
 .have hk:(k+(f.toArray.size:Int)).toNat=j:=by
   rw [seqIndex_neg (by lia) g] at c;rw [aT,<-hl];exact zzq c
  exact PySem.W.ki_setBack d (by lia) (by rw [aT,<-hl];exact g) (by lia) (by rw [hk];exact{_,w,q})
def uv(c d:Option Int)(n:Nat):(sliceBounds c d gK n).1=((HT.dm n 0 c:Nat):Int)/\(sliceBounds c d gK n).2.1=((HT.dm n n d:Nat):Int)/\(sliceBounds c d gK n).2.2=1:=by
 refine{?_,?_,rfl}
 .cases c with
  |none=>simp [sliceBounds,HT.dm]|some i=>
   simp! [sliceBounds,HT.dm,Option.getD_none,show(1:Int)>0 by decide,if_true];by_cases h:i<0
   .simp! [h,if_true]<;>lia
   .simp! [h,if_false]<;>lia
 .cases d with
  |none=>simp [sliceBounds,HT.dm]|some i=>
   simp! [sliceBounds,HT.dm,Option.getD_none,show(1:Int)>0 by decide,if_true];by_cases h:i<0
   .simp! [h,if_true]<;>lia
   .simp! [h,if_false]<;>lia
def qE(c:List hB)(d e:Option Int):slicePick c.toArray d e gK=((c.drop (HT.dm c.length 0 d)).take (HT.dm c.length c.length e-HT.dm c.length 0 d)).toArray:=by let(f,g,h):=uv d e c.toArray.size;unfold slicePick;rw [f,g,h];simp! [sliceRange_one,pick_run,aT]<;>rfl
def W5(K:zz8):V->Option Int->Option Int->Hp->VK->Prop:=λx c d H Q=>∃a xs,x=.ref a/\gR K H a xs/\∀p,H p=gK->Q (.ref p) (upd H p (.lst (vo xs c d)))
def KN:Hv X (W5 X.K):=by intro m s p H x v t u d e w Q I g hs pl i h;let(a,xs,rfl,j,q):=h;cases g;let(y,r,f,k):=I.list j;have c:=r.length;refine{"list",_,slot_list_getitem.lookup,f.isList.typeIs,?_};refine wpAny_getItem_list_slice f.isList hs pl i .none (by simp) ?_ (by rw [aT]<;>lia);rw [qE,<-c];refine{.ref (zz9 s),_,I.laid (t':=s.toks) (o:=.lst (vo xs d e)) (λb z q=>ar _ q) (a5 _) ?_,rfl,q _ (I.aN.fresh (a5 _))};exact{c6 (mU xs d e) k,_,0,(r.drop (HT.dm xs.length 0 d)).take (HT.dm xs.length xs.length e-HT.dm xs.length 0 d),dJ _ rfl}
def kS:cG X (.builtin "len") (λxs H Q=>∃p ys,xs=[.ref p]/\(gR X.K H p ys\/gf X.K H p ys)/\Q (.int ys.length) H):=by
 intro j s k H xs m Q I r h;let(p,ys,rfl,d,q):=h;let(u,rfl,f):=vals1 r;cases f;have o:=mz
 rcases d with d|d
 .let(g,e,pl,i):=I.list d;have c:=e.length;exact Calls.call_len_list pl.isList (by simp! [aT]<;>lia) {.int ys.length,H,I.tok _,{s.toks+1,by rw [aT,c]},q}
 .let(g,e,pl,i):=I.tuple d;have c:=e.length;exact len_tuple pl (by simp! [aT]<;>lia) {.int ys.length,H,I.tok _,{s.toks+1,by rw [aT,c]},q}
def sP:cG X (.builtin "len") (λxs H Q=>∃z,xs=[.str z]/\z.length<=ic/\Q (.int z.length) H):=by intro c s d H xs e Q I r h;let(z,rfl,f,q):=h;let(u,rfl,t,rfl):=vals1 r;have g:=mz;exact len_str (by lia) {.int z.length,H,I.tok _,{_,rfl},q}
def qp:cG X (.type "tuple") (λxs H Q=>∃p ys,xs=[.ref p]/\((gR X.K H p ys/\∀l,H l=gK->Q (.ref l) (upd H l (.tup ys)))\/(gf X.K H p ys/\Q (.ref p) H))):=by
 intro i s j H xs A Q I r h;let(p,ys,rfl,h):=h;let(u,rfl,y):=vals1 r
 cases y;rcases h with⟨d,q⟩|⟨d,q⟩
 .let(f,g,pl,k):=I.list d;have m:=g.length;refine call_tuple_list pl.isList (λc kp=>?_) (by simp! [aT]<;>lia);have t:Inv X i j H {s with heap:=c}:=I.kept (t':=s.toks) kp
  have z:Inv X i j (upd H c.objs.size (.tup ys)) {s with heap:=c.push {cls:=.type "tuple",data:=.seq f.toArray}}:=
   t.laid (t':=s.toks) (λb o e=>ar _ e) (a5 _) (show cx X.prog X.w _ _ _ (.tup ys) from{k,f,g,IsTup.new _ _})
  exact{.ref c.objs.size,_,z,rfl,q _ (t.aN.fresh (a5 _))}
 .let(f,g,pl,k):=I.tuple d;exact call_tuple_same pl {.ref p,H,I,rfl,q}
def Xr(K:zz8)(T:String)(x:V)(H:Hp):Prop:=match x with
 |.str _=>T="str"|.int _=>T="int"|.ref p=>(T="list"/\∃xs,gR K H p xs)\/(T="tuple"/\∃o,K.lookup p=gF o/\o.cls=.type "tuple"/\o.dict=gK)\/
  (T="dict"/\((∃c,H p=gF (.dK c))\/∃c,H p=gF (.dT c)))\/(T="set"/\∃S n,H p=gF (.set S n))
 |_=>False
def Qb{f:St}{s:hD}{T:String}{x:V}{v:hB}(I:Inv X ae f H s)(r:RelV x v)(ty:Xr X.K T x H):
 s.TypeIs v T/\∀a,v=.ref a->∃ob,s.heap.get? a=gF ob/\ob.dict=gK:=by
 cases x with
 |str z=>let(t,rfl):=r;cases(show T="str" from ty);exact{typeIs_str s z t,λZ e=>nomatch e}
 |int i=>let(t,rfl):=r;cases(show T="int" from ty);exact{typeIs_int s i t,λZ e=>nomatch e}
 |ref p=>
  cases r;rcases ty with⟨rfl,xs,g⟩|⟨rfl,o,hk,h,hd⟩|⟨rfl,hk⟩|⟨rfl,S,n,hk⟩
  .let(k,_,pl,_):=I.list g;refine{pl.isList.typeIs,λa e=>?_};cases e;let(o,n,e,c,hd,_):=pl;exact⟨o,e,hd⟩
  .refine{{o,I.rN p o hk,h},λa e=>?_};cases e;exact{o,I.rN _ o hk,hd}
  .have z:∃o,s.heap.get? p=gF o/\o.ExactDict:=by
    rcases hk with⟨j,hk⟩|⟨j,hk⟩
    .let(_,_,_,_,o,_,_,e,ex,_):=I.aN p _ hk;exact⟨o,e,ex⟩
    .let(_,_,_,_,o,_,_,e,ex,_):=I.aN p _ hk;exact⟨o,e,ex⟩
   let(o,e,ex):=z;refine{⟨o,e,ex.1⟩,λa d=>?_};cases d;exact⟨o,e,ex.2.1⟩
  .let(o,_,_,_,e,ex,_):=I.aN p _ hk;refine{⟨o,e,ex.1⟩,λa d=>?_};cases d;exact⟨o,e,ex.2.1⟩
 |_=>exact eu ty
abbrev Zs(K:zz8)(T:String)(r:V->List V->Hp->VK->Prop)(to:TE)(t:TA):TE:=λc H Q=>to c H λx d=>Xr K T x d/\t c d λxs e=>r x xs e Q
variable{o:hI}{es:List hI}{to:TE}{t:TA}{name:Str}{apos bO:Pos}{T id:String}{r:V->List V->Hp->VK->Prop}
theorem Az(m:PlainAttrs T)(slot:Slot T name id)(c:typeOf (.builtin id)=pure (.type "method_descriptor"))(hm:Ud X id r)(p:PE X o to)(q:PA X (e::es) t)
 (u:attributeBase o name X.env (eval o X.env)=eval o X.env:=by rfl)
 (w:((backTo bO (starEach (e::es) X.env)).all (λx=>!x.1)&&(backToKw bO (keywordEach [] X.env)).all (λx=>x.1.isSome)
  &&decide ((e::es).length+([]:List Keyword).length+(if([]:List Keyword).isEmpty then 0 else 1)<30))=gS:=by rfl)
 (y:(apos.endLine==bO.line)=gS:=by rfl) (hs:starEach (e::es) X.env=(gU,eval e X.env)::starEach es X.env:=by rfl) (z:(backTo bO (starEach es X.env)).any (·.1)=gU:=by rfl):
 PE X (.Call (.Attribute o name apos) (e::es) [] bO) (Zs X.K T r to t):=by
 intro d s f H Q I h;refine wpAny_Call_method_late u w y rfl (cm (p d s f H _ I h) λv A g=>?_);let(x,B,i,j,ty,C):=g;let(D,E):=Qb i j ty;refine{T,id,m,slot,c,D,E,?_};have k:=q bO d A f B _ i C;rw [hs] at k⊢;refine Calls.callWith_builtin (by show(gU||(backTo bO (starEach es X.env)).any (·.1))=gU;rw [z]<;>rfl) (Calls.evalArgs_plain ?_);exact cm k λF G ⟨L,M,N,O,P⟩=>hm d G f M x L v F Q N j O P
end
def ZD(X:Cx)(id:String)(r:V->List V->Hp->VK->Prop):Prop:=
 ∀(a:ke) (s:hD) (b:St) (H:Hp) (x:V) (xs:List V) (v:hB) (c:List hB) (Q:VK),Inv X a b H s->RelV x v->Vals xs c->r x xs H Q->
  zx7 X (call (.builtin id) (v::c)) (EP X a b Q) X.xe s
def Vals.one{x:V}(h:Vals [x] us):∃u,us=[u]/\RelV x u:=by
 cases h with
 |cons r q=>cases q;exact{_,rfl,r}
def Vals.two{x y:V}(h:Vals [x,y] us):∃u v,us=[u,v]/\RelV x u/\RelV y v:=by
 cases h with
 |cons r q=>
  cases q with
  |cons q n=>cases n;exact{_,_,rfl,r,q}
theorem Vals.rep{xs:List V}(h:Vals xs us):∀k:Nat,Vals (j2 k xs).flatten (j2 k us).flatten
 |0=>.nil|k+1=>by rw [List.replicate_succ,List.replicate_succ,List.flatten_cons,List.flatten_cons];exact Vals.append h (Vals.rep h k)
theorem foldl_rep(b:List hB):∀(k:Nat) (a:List hB),
 List.foldl (λc d=>c++d) a.toArray (j2 k b.toArray)=(a++(j2 k b).flatten).toArray
 |0,a=>by simp|k+1,a=>by
  have e:a.toArray++b.toArray=(a++b).toArray:=by simp
  have f:(a++b)++(j2 k b).flatten=a++(j2 (k+1) b).flatten:=by rw [List.replicate_succ,List.flatten_cons,List.append_assoc]
  rw [<-f,<-foldl_rep b k (a++b),<-e,List.replicate_succ,List.foldl_cons]
section
variable{s:hD}{l:hF}{xs ys:List V}
def Inv.SA{a its':List hB}{n:Nat}{f:Array hB->Array hB}{t':Nat}(I:zv2 s)(b:H l=gF (.lst xs))
 (e:s.heap.get? l=gF {cls:=.type "list",data:=.seq a.toArray n}) (c:f a.toArray=its'.toArray) (d:Vals ys its') (hz:ys.length<=ic):
 Inv X ae σ (upd H l (.lst ys)) {s with heap:=s.heap.update l (Obj.mapSeq f),toks:=t'}:=by
 have q:=PySem.IsL.update e f;rw [c] at q;refine I.write (x:=l) (e:=l) (by rw [b];exact trivial) (.inl rfl) (λi u g h=>(h9.get?_update_other s.heap (Obj.mapSeq f) (Ne.symm g)).trans h) {_,q} ?_;exact{hz,its',_,d,q}
theorem Inv.WC{a:List hB}{t':Nat}(I:zv2 s)(b:Vals ys a)(hz:ys.length<=ic):
 Inv X ae σ (upd H (zz9 s) (.lst ys)) {s with heap:=s.heap.push {cls:=.type "list",data:=.seq a.toArray},toks:=t'}:=
 I.laid (λZ Z q=>ar _ q) (a5 _) {hz,a,0,b,dJ _ rfl}
def Inv.fresh(I:zv2 s):H (zz9 s)=gK:=I.aN.fresh (a5 _)
def Inv.SD(I:zv2 s)(b:H l=gF (.lst xs)):xs.length<=ic/\∃(a:List hB) (n:Nat),Vals xs a/\xs.length=a.length/\s.heap.get? l=gF {cls:=.type "list",data:=.seq a.toArray n}:=by let(z,a,n,r,e):=I.aN l _ b;exact⟨z,a,n,r,r.length,e⟩
def v9{n:Nat}(h:n<=ic):i1.List.listTooLong n=gU:=by unfold i1.List.listTooLong;exact zz0 (by lia)
def Kt:V->List V->Hp->VK->Prop:=λx a H Q=>∃l xs y,x=.ref l/\a=[y]/\H l=gF (.lst xs)/\xs.length<ic/\Q .aC (upd H l (.lst (xs++[y])))
def Cq:ZD X "list.append" Kt:=by intro ae s σ H x g v i Q I c d h;let(l,xs,y,rfl,rfl,a,j,q):=h;cases c;let(u,rfl,f):=d.one;let(z,b,n,r,hl,e):=I.SD a;refine call_meets F.slot_list_append {_,e,rfl} F.entry_list_append (F.args_list_append_2 _ _) (PySem.list_append l b.toArray n u (by rw [aT];lia)) {e,?_};refine{.aC,_,I.SA (its':=b++[u]) a e (by simp) (r.append (.cons f .nil)) ?_,rfl,q};rw [cA,List.length_singleton];lia
def len_rep{a:Type}(xs:List a)(k:Nat):(j2 k xs).flatten.length=k*xs.length:=by
 induction k with
 |zero=>simp|succ k b=>rw [List.replicate_succ,List.flatten_cons,cA,b,Nat.succ_mul,Nat.add_comm]
end
end L2
namespace Att
open PySem.W PySem.Calls PyProof.Rows
def nh{P:Params}:∀(ns:List Int) (vs:List hB),WellAll P h vs (ns.map WData.int)->IntsAre vs ns:=by
 intro ns
 induction ns with
 |nil=>intro vs w;rw [List.map_nil] at w;cases w;exact .nil
 |cons n ns c=>
  intro vs w;rw [a7] at w;cases w with
  |cons a b=>cases a;exact .cons _ _ (c _ b)
def CT{l:OpenLaw}{n:Nat}(i:l.most=gF n){P:Params}{args:List WData}{vals:List hB}
 (f:l.row.toRowW.claim.pre args=gS) (j:WellAll P h vals args):
 ∃a vs ns,vals=[hB.ref a]/\args=[WData.list (ns.map WData.int)]/\h.get? a=gF {cls:=.type "list",data:=.seq vs.toArray}/\IntsAre vs ns/\ns.length<=n:=by
 have UK:WShape.hasAll [] args [.list .int]=gS:=(pre_splitW f).1;have g:l.pre.holds [] {args:=args}=gS:=(pre_splitW f).2;let(d,r,rfl,k,m):=hasAllW_cons UK;obtain rfl:=hasAllW_nil m;let(xs,rfl,o):=hasW_list k;let(ns,rfl):=items_int o
 have b:ns.length<=n:=by
  unfold OpenLaw.pre at g;have c:(WTm.not (.lt (.lit (.int (n:Int))) (.len (.arg 0)))).holds [] {args:=[.list (ns.map .int)]}=gS:=by have c:=(holds_andW g).1;rw [i] at c;exact c
  have e:=condW_of c (w_not (w_lt w_lit (w_len_list (w_arg rfl))));rw [zzl] at e;refine Nat.le_of_not_lt λq=>?_;have p:(n:Int)<((ns.length:Nat):Int):=by omega
  first
   |(rw [zzh p] at e;exact absurd e (by decide))
   |(simp at e;omega)
 cases j with
 |cons w1 s=>
  cases s;cases w1 with
  |list t u=>exact{_,_,ns,rfl,rfl,t,nh ns _ u,b}
theorem CN(l:OpenLaw)(args:List WData):l.row.toRowW.claim.post args (.bool gS) args=gS:=
 postW_of (r:=l.row.toRowW) (X:=(gS==gS))
  (show WShape.has [] (.bool gS) .bool=gS by first|rfl|decide|simp [WShape.has,WShape.arms,WShape.armsAll])
  (show(WTm.eq .res (.lit (.bool gS))).value [] {args:=args,res:=gF (.bool gS),after:=args}=gF (.bool (gS==gS)) from w_eq_bool (w_res rfl) w_lit) rfl
def u4{l:OpenLaw}{n:Nat}{q:hL}{c:List Str}{p:(Str->Option hB)->h9->Prop}{s:hQ->h9->Prop}{d:DefRec}
 (y:l.most=gF n) (z:d.params.defaults=[])
 (call:∀(w:hQ) (s₀ b:hD) (mg mb:Str->Option hB) (h:hF) (o:Obj) (k cd e:hB) (a:hF) (vs:List hB) (ns:List Int),
  Ground q c [] p w s₀ mg mb b.heap->s w b.heap->
  b.heap.get? h=gF o->o.data=.func (docDef d.name d.params d.body d.scope k cd e)->b.heap.CodeRec cd d.name->mg d.name=gF (.ref h)->
  b.heap.get? a=gF {cls:=.type "list",data:=.seq vs.toArray}->IntsAre vs ns->ns.length<=n->b.gens=#[]->
  codeAny (hV l.prog w) callerA (.call (.ref h) {[.ref a],[]}) (λr s'=>r=.ok (.ret (.bool gS))/\OldK b.heap s'.heap/\s'.os=b.os/\AllBare s'.gens) b):
 WalkO q c p s l.row.toRowW d [] (λf vs=>PySem.call f vs):=by
 intro w s₀ b mg mb G Y h o k cd e A kV B hd C t m D args vals as E u F H I;obtain rfl:A=.none:=Dflts.none t z;obtain rfl:kV=.none:=Dflts.noKw t;let(a,vs,ns,rfl,rfl,i,g,j):=CT y E H;refine enter_call (codeAny_mono (call w s₀ b mg mb h o k cd e a vs ns G Y B (fd_plain hd) C m i g j D) λr s' K=>?_);let(rfl,L,M,N):=K;exact{.inl {.bool gS,.bool gS,[],rfl,λZ=>rfl,.bool gS,CN l _,λZ=>{List.Pairwise.nil,λZ hm=>(nomatch hm)}},L,M,N}
abbrev ledger(h:h9)(L d:hF):ke:=(List.range h.objs.size).filterMap λa=>if a=L\/a=d then gK else(h.get? a).map λo=>(a,o)
end Att
namespace L2
open PySem.Spec PyProof.Rows
def Dd{vs:List hB}(r:IntsAre vs ns):Vals (ns.map V.int) vs:=by
 induction r with
 |nil=>exact .nil|cons n t _ a=>exact .cons ⟨t,rfl⟩ a
abbrev dR(s:ig):Arguments:=match s with
 |.FunctionDef _ a _ _ _ _ _ _ _ _=>a|_=>{posonlyargs:=[],args:=[],vararg:=gK,kwonlyargs:=[],kw_defaults:=[],kwarg:=gK,defaults:=[]}
abbrev dj(s:ig):List Stmt:=match s with
 |.FunctionDef _ _ b _ _ _ _ _ _ _=>b|_=>[]
abbrev br(s:ig):Scope:=match s with
 |.FunctionDef _ _ _ _ _ _ sc _ _ _=>sc|_=>{kind:=.function,names:=[],isGenerator:=gU,isCoroutine:=gU}
structure TZ(K:zz8)(x qual:Str)(st:ig)(f:hF)(fd:FuncData):Prop where
 ex:∃(oc:hB) (od:Option hF) (kV doc pm:hB) (an:Option hF) (ir ct:hB) (yo:Array (Option hB)),
  fd=PySem.W.fnOf x qual (dR st) (dj st) (br st) .none kV doc pm an ir ct/\K.lookup f=gF {oc,od,.func fd,yo}/\PySem.W.codeIn K ir qual=gS
 kp:PySem.W.keepIn K (.ref f)=gS
section
variable{K:zz8}
def TZ.binds{f:hF}{fd:FuncData}{ps:List Str}(F:TZ K x qual st f fd)
 (h:∀(kV a b:hB) (c:Option hF) (d ct:hB) (us:List hB),us.length=ps.length->bindArgs (PySem.W.fnOf x qual (dR st) (dj st) (br st) .none kV a b c d ct) {us,[]}=pure (ps.zip us)):Binds K fd ps []:=by
 let(oc,e,kV,a,b,c,d,ct,g,rfl,i,j):=F.ex;exact .all (h kV a b c d ct)
def Ej{f:hF}{oc:hB}{g d:Option hF}{h:Array (Option hB)}{kV a e b ct:hB}(l:K.lookup f=gF {oc,g,.func (PySem.W.fnOf x qual (dR st) (dj st) (br st) .none kV a e d b ct),h})
 (c:PySem.W.codeIn K b qual=gS) (k:PySem.W.keepIn K (.ref f)=gS):TZ K x qual st f (PySem.W.fnOf x qual (dR st) (dj st) (br st) .none kV a e d b ct):={⟨oc,g,kV,a,e,d,b,ct,h,rfl,l,c⟩,k}
theorem pv(i:Nat)(hN:X.N[i]?=gF x:=by rfl)(a:Qn X.env.scope x:=by first|exact Or.inl rfl|exact Or.inr (Or.inl rfl)|exact Or.inr (Or.inr rfl))(hd:(x==(zu 29:Str))=gU:=by decide)
 (b:(x==(zu 51:Str))=gU:=by decide):PE X (.Name x pos) (C7 i):=f7 hN a hd b
end
def Wt{A B:Prop}(h:B):if gU=gS then A else B:=by rw [if_neg zzf];exact h
def Wu{A B:Prop}(h:A):if gS=gS then A else B:=by rw [if_pos rfl];exact h
def aB(H a:Hp):Prop:=∀b o,H b=gF o->a b=gF o
def aB.refl(H:Hp):aB H H:=λZ Z h=>h
def aB.trans{d e:Hp}(a:aB H d)(b:aB d e):aB H e:=λc o h=>b c o (a c o h)
def aB.free{a:Hp}(e:aB H a){l:hF}(h:a l=Option.none):H l=Option.none:=by
 cases q:H l with
 |none=>rfl|some o=>rw [e l o q] at h;cases h
def aB.seq{K:zz8}{b:Hp}{xs:List V}(e:aB H b)(h:gR K H a xs):gR K b a xs:=by
 rcases h with(h|⟨o,h⟩)|h
 .exact .inl (.inl (e _ _ h))
 .exact .inl (.inr {o,e _ _ h})
 .exact .inr h
end L2
set_option maxHeartbeats 8000000
namespace L2
open PySem.Spec PyProof.Rows
abbrev cj(env:Env)(ys:List Str):List (Str×hF):=ys.map λy=>(y,(env.cells.lookup y).getD 0)
abbrev EO(a:St)(is:List Nat):St:=is.map λi=>(a[i]?).join
abbrev pO(a:hZ)(x:Str):Bool:=a.names.lookup x==gF .cell
theorem xI{c:hF}:∀(names:List (Str×NameKind)) (n:Nat) (a:List (Str×hF)),(x,c)∈jj n names a->(x,c)∈a\/(x,NameKind.cell)∈names/\n<=c
 |[],n,a,h=>by rw [jj.eq_def] at h;exact .inl h
 | (y,k)::r,n,a,h=>by
  rw [jj.eq_def] at h;dsimp only at h;split at h
  .rename_i hk;cases eq_of_beq hk;rcases xI r (n+1) _ h with z|⟨b,d⟩
   .rcases ey.mp z with z|z
    .cases z;exact .inr {cP ..,a5 _}
    .exact .inl z
   .exact .inr {bc _ b,Nat.le_of_succ_le d}
  .rcases xI r n _ h with z|⟨b,d⟩
   .exact .inl z
   .exact .inr {bc _ b,d}
theorem sZ{c:hF}:∀(names:List (Str×NameKind)) (n:Nat) (a:List (Str×hF)),(jj n names a).lookup x=gF c->a.lookup x=gF c\/(x,NameKind.cell)∈names/\n<=c
 |[],n,a,h=>by rw [jj.eq_def] at h;exact .inl h
 | (y,k)::r,n,a,h=>by
  rw [jj.eq_def] at h;dsimp only at h;split at h
  .rename_i hk;cases eq_of_beq hk;rcases sZ r (n+1) _ h with z|⟨b,d⟩
   .rw [gd] at z;cases e:x==y with
    |true=>rw [e] at z;cases z;cases eq_of_beq e;exact .inr {cP ..,a5 _}
    |false=>rw [e] at z;exact .inl z
   .exact .inr {bc _ b,Nat.le_of_succ_le d}
  .rcases sZ r n _ h with z|⟨b,d⟩
   .exact .inl z
   .exact .inr {bc _ b,d}
theorem sY:∀(names:List (Str×NameKind)) (n:Nat) (a:List (Str×hF)),(x,NameKind.cell)∉names->(jj n names a).lookup x=a.lookup x
 |[],n,a,_=>by rw [jj.eq_def]|(y,k)::r,n,a,h=>by
  rw [jj.eq_def];dsimp only;have b:(x,NameKind.cell)∉r:=λz=>h (bc _ z);split
  .rename_i hk;cases eq_of_beq hk;rw [sY r (n+1) _ b,gd];cases e:x==y with
   |true=>cases eq_of_beq e;exact absurd (cP ..) h
   |false=>rfl
  .exact sY r n a b
theorem MQ{c:hF}:∀(names:List (Str×NameKind)) (n:Nat) (a:List (Str×hF)),(x,c)∈jj n names a->(∀p∈a,p.2≠c)->(x,c)∈jj n names []
 |names,n,a,h,d=>by
  have key:∀(names:List (Str×NameKind)) (n:Nat) (a b:List (Str×hF)),(x,c)∈jj n names (b++a)->(∀p∈a,p.2≠c)->(x,c)∈jj n names b:=by
   intro names
   induction names with
   |nil=>
    intro n a b h d;rw [jj.eq_def] at h⊢;rcases List.mem_append.mp h with z|z
    .exact z
    .exact absurd rfl (d _ z)
   |cons y r e=>
    intro n a b h d;let(y,k):=y;rw [jj.eq_def] at h⊢;dsimp only at h⊢;split at h
    .rename_i hk;rw [if_pos hk];exact e (n+1) a ((y,n)::b) h d
    .rename_i hk;rw [if_neg hk];exact e n a b h d
  exact key names n a [] h d
theorem tj{y:Str}{c:hF}:∀(names:List (Str×NameKind)) (n:Nat) (a:List (Str×hF)),(∀p∈a,p.2<n)->n<=c->(x,c)∈jj n names a->(y,c)∈jj n names a->x=y
 |[],n,a,d,e,h1,b=>by rw [jj.eq_def] at h1;exact absurd (d _ h1) (Nat.not_lt.mpr e)
 | (z,k)::r,n,a,d,e,h1,b=>by
  rw [jj.eq_def] at h1 b;dsimp only at h1 b;split at h1
  .rename_i hk;rw [if_pos hk] at b;have g:∀p∈(z,n)::a,p.2<n+1:=λp i=>by
    rcases ey.mp i with q|q
    .rw [q];exact Nat.lt_succ_self _
    .exact Nat.lt_succ_of_lt (d p q)
   by_cases f:n+1<=c
   .exact tj r (n+1) _ g f h1 b
   .have one:∀{w:Str},(w,c)∈jj (n+1) r ((z,n)::a)->w=z:=λ{w} h=>by
     rcases xI r (n+1) _ h with q|q
     .rcases ey.mp q with q|q
      .cases q;rfl
      .exact absurd (d _ q) (Nat.not_lt.mpr e)
     .exact absurd q.2 f
    rw [one h1,one b]
  .rename_i hk;rw [if_neg hk] at b;exact tj r n a d e h1 b
def yR{M:Model}{E:kd}{s:hD}{a:hZ}{g:hF}{cl:List (Str×hF)}{c:Env}{Q:Env->hD->Prop}
 (h:Q (newEnv a (zz9 s) g (jj ((zz9 s)+1) a.names cl) qual gK .none (gF c) builtinsNs) {s with heap:=pushCells (s.heap.push {cls:=.type "dict",data:=.dict #[]}) a.names}):
 hJ M A (newFunctionEnv a g cl [] qual gK .none (gF c)) Q E s:=by
 unfold newFunctionEnv;refine ak (wpAny_alloc ?_);refine ak (wpAny_forIn_list _ (λrest b f=>f={s with heap:=f.heap}/\pushCells f.heap rest=pushCells (s.heap.push {cls:=.type "dict",data:=.dict #[]}) a.names/\jj (zz9 f) rest b=jj ((zz9 s)+1) a.names cl) _ (λx rest b f j=>?_) (λb f j=>?_) a.names cl {rfl,rfl,by rw [h9.size_push]})
 .let(i,d,e):=j;let(m,k):=x;rw [pushCells.eq_def] at d;rw [jj.eq_def] at e;dsimp only at d e⊢;split
  .rename_i hk;rw [if_pos hk] at d e;refine ak (wpAny_alloc (a8 {by rw [i],d,?_}));dsimp only;rw [h9.size_push];exact e
  .rename_i hk;rw [if_neg hk] at d e;exact a8 ⟨i,d,e⟩
 .let(i,d,e):=j;rw [pushCells.eq_def] at d;rw [jj.eq_def] at e;dsimp only at d e;subst e;rw [i,d];exact ak (a8 (a8 h))
noncomputable def cJ(X:Cx)(d:List Str)(a:hZ)(cl:List (Str×hF))(fp:List hF)(b:hD)(c:Hp)(C:hF):Cx where
 prog:=X.prog
 w:=X.w
 K:=X.K
 mg:=X.mg
 base:=X.base
 A:=X.A
 N:=d
 s₀:=b
 H₀:=c
 env:=compEnvC a (jj (C+1) a.names cl) C X.env
 outer:=X.stack
 stack:=X.stack
 ex:=fp
 fn:=pO a
 calm:=gS
 pn:=[]
 xe:=λZ Z=>False
theorem fN{env:Env}:∀{ys:List Str},(ys.all λy=>(env.cells.lookup y).isSome)=gS->∀(x:Str) (c:hF),(cj env ys).lookup x=gF c->env.cells.lookup x=gF c
 |[],_,_,_,h=>by simp [cj] at h|y::ys,a,x,c,h=>by
  rw [List.all_cons,zza] at a;have b:=fN (env:=env) a.2 x c
  unfold cj at h b;rw [a7,gd] at h;cases e:x==y with
  |true=>rw [e] at h;have d:x=y:=zzy.mp e;subst d;let(g,f):=eK.mp a.1;rw [f] at h⊢;exact h|false=>rw [e] at h;exact b h
theorem kZ{env:Env}:∀{ys:List Str} {x:Str},x∈ys->∃c,(cj env ys).lookup x=gF c
 |[],_,h=>nomatch h|y::ys,x,h=>by
  unfold cj;rw [a7,gd];cases e:x==y with
  |true=>exact{_,rfl}|false=>
   have a:x∈ys:=by
    rcases ey.mp h with z|z
    .rw [z] at e;simp at e
    .exact z
   exact kZ (env:=env) a
def mZ{a:hZ}{env:Env}{k:NameKind}(h:(relabel a env).names.lookup x=gF k)(hk:k=.cell\/k=.free):∃b,(x,b)∈a.names/\(b=.cell\/b=.free):=by
 have hm:=PySem.mem_of_lookup h;unfold relabel at hm;let((n,f),c,e):=fm.mp hm;dsimp only at e;split at e
 .rename_i d;cases e;refine{f,c,.inr ?_};rw [zza,zza] at d;exact zzy.mp d.1.1
 .cases e;exact⟨k,c,hk⟩
structure fT(X:Cx)(scope:hZ)(xs ys:List Str)(is:List Nat):Prop where
 kind:scope.kind=.function
 VE:closureFor scope X.env=pure (cj X.env ys)
 cells:(ys.all λy=>(X.env.cells.lookup y).isSome)=gS
 MU:(scope.names.all λy=>(decide (y.2≠.cell)||!ys.contains y.1)&&(decide (y.2≠.free)||ys.contains y.1))=gS
 own:(scope.names.all λy=>decide (y.2≠.cell)||decide (scope.names.lookup y.1=gF .cell))=gS
 names:(scope.names.all λy=>decide (y.2≠.local)||decide (scope.names.lookup y.1=gF .local))=gS
 slots:is.map (λi=>X.N[i]?)=ys.map gF
 kX:(ys.all λy=>decide (X.env.kindOf y=gF .cell))=gS
 kY:(ys.all λy=>decide ((relabel scope X.env).names.lookup y=gF .cell))=gS
section
variable{s:hD}{scope:hZ}{xs ys:List Str}{is:List Nat}
def fT.Pa(S:fT X scope xs ys is)(h:(x,NameKind.cell)∈scope.names):scope.names.lookup x=gF .cell/\x∉ys:=by
 have q:=c5.mp S.own _ h;have c:=c5.mp S.MU _ h;rw [zza,eU] at c;rw [eU] at q;refine{zzY (q.resolve_left λz=>zzY z rfl),λa=>?_}
 rcases c.1 with z|z
 .exact zzY z rfl
 .rw [eG.mpr a] at z;cases z
def iP(I:zv2 s)(S:fT X scope xs ys is){C:hF}(hC:(zz9 s)<=C){c:hF}(h:(jj (C+1) scope.names (cj X.env ys)).lookup x=gF c):
 (X.env.cells.lookup x=gF c/\c<(zz9 s)/\x∈ys)\/((x,NameKind.cell)∈scope.names/\C+1<=c):=by
 rcases sZ _ _ _ h with z|z
 .have e:=fN S.cells x c z;let(v,q):=I.cell x c e;refine .inl {e,q.lt,?_};have hm:=PySem.mem_of_lookup z;unfold cj at hm;let(y,a,b):=fm.mp hm;cases b;exact a
 .exact .inr z
def BA(I:zv2 s)(w:X.calm=gS)(S:fT X scope xs ys is){A:List Str}{fp:List hF}{C:hF}(hC:(zz9 s)<=C)(d:∀b∈fp,gh X ae H b)(j:∀b∈fp,b<(zz9 s)):
 (cJ X A scope (cj X.env ys) fp s H C).Ok where
 mod:=I.ok.mod
 kind:=S.kind
 glob:=I.ok.glob
 blt:=I.ok.blt
 above:=hC
 inj:=λx y c k m=>by
  rcases iP I S hC k with f|f
  .rcases iP I S hC m with i|i
   .exact I.ok.inj x y c f.1 i.1
   .exact absurd f.2.1 (Nat.not_lt.mpr (c6 hC (Nat.le_of_succ_le i.2)))
  .refine tj scope.names (C+1) (cj X.env ys) (λp r=>?_) f.2 (PySem.mem_of_lookup k) (PySem.mem_of_lookup m);unfold cj at r;let(y,B,rfl):=fm.mp r;let(D,t):=eK.mp (c5.mp S.cells y B);let(v,q):=I.cell y D t;dsimp only;rw [t];exact Nat.lt_succ_of_le (c6 (Nat.le_of_lt q.lt) hC)
 has:=λx E=>by
  have F:(relabel scope X.env).names.lookup x=gF .cell\/(relabel scope X.env).names.lookup x=gF .free:=E
  have:∃g,(x,g)∈scope.names/\(g=.cell\/g=.free):=by
   rcases F with z|z
   .exact mZ z (.inl rfl)
   .exact mZ z (.inr rfl)
  let(g,hm,hk):=this;have u:=c5.mp S.MU _ hm
  rw [zza,eU,eU] at u;rcases hk with z|z
  .subst z;exact eK.mp (PySem.W.cellsFrom_some _ _ _ (.inl (S.Pa hm).1))
  .rcases u.2 with q|q
   .exact absurd z (zzY q)
   .refine eK.mp (PySem.W.cellsFrom_some _ _ _ (.inr ?_));let(c,e):=kZ (env:=X.env) (eG.mp q);rw [e];rfl
 LA:=λx c h e=>by
  have hm:(x,NameKind.cell)∈scope.names:=PySem.mem_of_lookup (eq_of_beq h)
  rcases iP I S hC e with z|z
  .exact absurd z.2.2 (S.Pa hm).2
  .exact c6 hC (Nat.le_of_succ_le z.2)
 hd:=λZ=>I.ok.hd w
 frames:=I.ok.frames
 G8:=.inl rfl
 VN:=λb a=>{d0 (dB (j b a) hC),λx c h=>(iP I S hC h).elim (λz=>(d b a).2.2.2.2.1 x c z.1) λz q=>absurd (j b a) (Nat.not_lt.mpr (q▸c6 hC (Nat.le_of_succ_le z.2)))}
 bs:=λb o e=>I.bs b o e
 xF:=c6 I.ok.xF I.sz
 Ct:=λb o e a=>by
  rcases(d b a).2.2.2.1 with z|z
  .exact I.ok.Ct b o e z
  .exact absurd (dB (cB e) (c6 I.ok.xF z)) (Nat.lt_irrefl _)
 Ed:=λb a hs=>(ey.mp (I.kI b hs)).elim (d b a).2.1 (d b a).2.2.1
 gY:=I.stack
 xO:=λb a=>I.nX b a
theorem Ac:∀{is:List Nat} {ys:List Str},is.map (λi=>N[i]?)=ys.map gF->∀(j:Nat) (y:Str) (v:V),ys[j]?=gF y->(EO σ is)[j]?=gF (gF v)->∃i:Nat,N[i]?=gF y/\σ[i]?=gF (gF v)
 |[],[],_,_,_,_,h,_=>by simp at h|[],_::_,h,_,_,_,_,_=>by simp at h|_::_,[],h,_,_,_,_,_=>by simp at h|i::is,b::ys,h,0,y,v,h1,a=>by rw [a7,a7] at h;have c:=(List.cons.inj h).1;simp! [List.getElem?_cons_zero,Option.some.injEq] at h1;subst h1;refine{i,c,?_};unfold EO at a;simp! [a7,List.getElem?_cons_zero,Option.some.injEq] at a;exact Option.join_eq_some_iff.mp a|i::is,b::ys,h,j+1,y,v,h1,a=>by rw [a7,a7] at h;refine Ac (is:=is) (ys:=ys) (List.cons.inj h).2 j y v (zx6 h1) ?_;unfold EO at a⊢;simpa using a
noncomputable abbrev lobj(a:List hB)(n:Nat):Obj:={cls:=.type "list",data:=.seq a.toArray n}
def Cj(a:List hB)(n:Nat)(v:Option hB):(lobj a n).data≠.cell v:=λz=>by cases z
noncomputable abbrev tests(a:List hI)(env:Env):Sem Bool:=forIn a gS λc r=>if r=gS then do let ok<-isTrue c env (eval c env);pure (ForInStep.yield ok) else pure (ForInStep.yield r)
theorem tm{R:Result->hD->Prop}{s:hD}{p a:hI}{q:List hI}{scope:hZ}{it t:hB}{env:Env}(I:Nat->hD->Prop)
 (turn:∀n s,I n s->hJ (hV prog w) A (pyNext it) (λr b=>match r with
  |none=>R (.ok .next) b|some v=>hJ (hV prog w) A (letOwnedTupleGo a it v) (λZ c=>hJ (hV prog w) A (assign a env v) (λZ g=>
   hJ (hV prog w) A (tests q env) (λok d=>if ok=gS then hJ (hV prog w) A (eval p env) (λx i=>
    hJ (hV prog w) A (call (.builtin "list.append") [t,x]) (λZ j=>∃m,m<n/\I m j) (notedBy (hV prog w) A env λe s'=>R (.error e) s') i) (notedBy (hV prog w) A env λe s'=>R (.error e) s') d
    else∃m,m<n/\I m d) (notedBy (hV prog w) A env λe s'=>R (.error e) s') g)
   (notedBy (hV prog w) A env λe s'=>R (.error e) s') c) (notedBy (hV prog w) A env λe s'=>R (.error e) s') b) (notedBy (hV prog w) A env λe s'=>R (.error e) s') s)
 (n:Nat) (h:I n s):
 codeAny (hV prog w) A (.compLoop (.ListComp p [{a,iter,q,0}] scope pos) 0 it t env) R s:=by
 refine codeAny_loop rfl I (λn s C=>?_) n h;show hJ _ A ((compTurn (.ListComp p [{a,iter,q,0}] scope pos) 0 it t env).onRaise (λx=>do noteFrame x env;theTreesLotGoes x)) _ _ s;refine wpAny_noted ?_;rw [compTurn_list];refine ak (wpAny_standAt (ak (wpAny_mono (turn n s C) (λr b k=>?_) λZ Z f=>f)))
 cases r with
 |none=>exact a8 k|some v=>
  refine ak (wpAny_mono k (λZ c u=>?_) λZ Z f=>f);refine ak (wpAny_mono u (λZ g y=>ak (wpAny_mono y (λok d o=>?_) λZ Z f=>f)) λZ Z f=>f)
  cases ok with
  |false=>exact a8 ⟨rfl,o⟩|true=>exact ak (ak (wpAny_mono o (λx i z=>ak (wpAny_mono z (λZ j B=>a8 (a8 ⟨rfl,B⟩)) λZ Z f=>f)) λZ Z f=>f))
def Vm(X:Cx)(a:List hI)(t:TT):Prop:=
 ∀(ae:ke) (s:hD) (σ:St) (H:Hp) (Q:Bool->Hp->Prop),Inv X ae σ H s->t σ H Q->zx7 X (tests a X.env) (TP X ae σ Q) X.xe s
def AD:Vm X [] (λZ H q=>q gS H):=λZ Z Z H Z I h=>wpAny_tests_nil ⟨H,I,h⟩
def AE{t:TT}(h:PT X e t):Vm X [e] t:=λae s σ H Q I z=>wpAny_tests_one (h ae s σ H Q I z)
def QN(J:It)(k:Nat)(g:TG)(te:TE)(fs:St)(Q:VK)(e:Hp):Prop:=∃(n:Nat) (W:Nat->List V->St->Hp->Prop),W 0 [] (j2 k gK++fs) e/\
 ∀i ys b a,W i ys b a->ys.length<ic/\((J.stop i a/\∀p,a p=gK->Q (.ref p) (upd a p (.lst ys)))\/
  (J.go i a/\i<n/\∀x d,J.QK i a x d->g x b d λc f=>te c f λy h=>W (i+1) (ys++[y]) c h))
abbrev Hc(a:TI)(k:Nat)(g:TG)(te:TE)(is:List Nat):TE:=λσ H Q=>a σ H λJ b=>QN J k g te (EO σ is) Q b
def HL(J:It)(k:Nat)(g:TG)(tt:TT)(te:TE)(fs:St)(Q:VK)(h:Hp):Prop:=∃(n:Nat) (W:Nat->List V->St->Hp->Prop),W 0 [] (j2 k gK++fs) h/\
 ∀i ys d c,W i ys d c->ys.length<ic/\((J.stop i c/\∀p,c p=gK->Q (.ref p) (upd c p (.lst ys)))\/
  (J.go i c/\i<n/\∀x e,J.QK i c x e->g x d e λa j=>tt a j λb f=>if b=gS then te a f (λy m=>W (i+1) (ys++[y]) a m) else W (i+1) ys a f))
abbrev n4(a:TI)(k:Nat)(g:TG)(tt:TT)(te:TE)(is:List Nat):TE:=λσ H Q=>a σ H λJ b=>HL J k g tt te (EO σ is) Q b
def je{elt tg:hI}{ifs:List hI}{pp:Pos}{wi:TI}{g:TG}{tt:TT}{use:Option (hB->Sem Unit)}{QQ:kd}{Q:VK}(hc:X.calm=gS)(S:fT X scope xs ys is)(hi:PI X tg iter wi)
 (hg:∀fp a L C,PG (cJ X (xs++ys) scope (cj X.env ys) fp a L C) tg g) (ht:∀fp a L C,Vm (cJ X (xs++ys) scope (cj X.env ys) fp a L C) ifs tt) (he:∀fp a L C,PE (cJ X (xs++ys) scope (cj X.env ys) fp a L C) elt te)
 (hs:∀x,foldedSetIterable iter X.env x=pure x) (I:zv2 s) (h:n4 wi xs.length g tt te is σ H Q)
 (fin:∀(D C:hF) (Z:hD) (H4:Hp) (m:Str->Option hB),Inv X ae σ H4 Z->Z.heap.Ns C m->gh X ae H4 C->Q (.ref D) H4->compPost (hV X.prog X.w) X.A X.xe use QQ (.ref D) C (.ok .next) Z):
 zx7 X (comprehension (.ListComp elt [{tg,iter,ifs,0}] scope pos) scope X.env pp (newList []) gU (eval iter X.env) use) QQ X.xe s:=by
 have Of:∀x∈scope.names,x.2=.local->scope.names.lookup x.1=gF .local:=λx hx hl=>by
  have q:=c5.mp S.names x hx
  rw [eU] at q;rcases q with q|q
  .exact absurd hl (zzY q)
  .exact zzY q
 refine wpAny_comprehension_free (use:=use) (Q:=QQ) (g:={tg,iter,ifs,0}) (gs:=[]) rfl hs S.VE S.kind Of (cm (hi ae s σ H _ I h) λxv s0 h0=>cm h0 λWv a h1=>?_);let(it,fp,tn,J,L,rfl,M,T,PQ,f1,n,W,w0,turn):=h1;refine wpAny_newObj_type (yR ?_);dsimp only;generalize hH2:a.heap.push {cls:=.type "list",dict:=gK,data:=.seq ([]:List hB).toArray}=B;generalize hh₁:pushCells (B.push {cls:=.type "dict",data:=.dict #[]}) scope.names=E;have V9:∀b o,(B.push {cls:=.type "dict",data:=.dict #[]}).get? b=gF o->E.get? b=gF o:=λb o e=>by rw [<-hh₁];exact pushCells_keeps _ _ b o e
 have hns₁:E.Ns B.objs.size λ_=>gK:=(h9.Ns.new B (.type "dict")).keeps V9;have YG:B.objs.size=(zz9 a)+1:=by rw [<-hH2,h9.size_push]
 have qu:(zz9 a)<=B.objs.size:=by rw [YG];exact Nat.le_succ _
 have Uz:(zz9 a)≠B.objs.size:=by rw [YG];exact d0 (Nat.lt_succ_self _)
 have R:∀b o,a.heap.get? b=gF o->E.get? b=gF o:=λb o e=>V9 b o (ar _ (hH2▸ar _ e));have N2:E.get? (zz9 a)=gF (lobj [] 0):=V9 _ _ (ar _ (hH2▸dJ _ rfl));have HB:∀b∈fp,b<(zz9 a):=λb j=>by let(o,e,_):=T.obj _ _ PQ b j;exact cB e
 generalize hY:cJ X (xs++ys) scope (cj X.env ys) fp a L B.objs.size=Y;have okY:Y.Ok:=by rw [<-hY];exact BA M hc S qu f1 HB
 have YH:∀b∈fp,(zz9 a)≠b:=λb j=>Ne.symm (d0 (HB b j));have VU:∀b,b∈Y.fs->b=X.env.locals\/b∈X.fs:=λb j=>by rw [<-hY] at j;exact ey.mp (M.kI b j)
 have VT:∀b∈Y.fs,b<(zz9 a):=λb j=>by rw [<-hY] at j;let(_,o,ho,_):=M.stack.mem j;exact cB ho
 have VX:(zz9 a)∉Y.fs:=λz=>Nat.lt_irrefl _ (VT _ z);have NZ:Y.env.locals=B.objs.size:=by rw [<-hY];rfl
 have UA:∀x c,Y.env.cells.lookup x=gF c->(X.env.cells.lookup x=gF c/\c<(zz9 a)/\x∈ys)\/((x,NameKind.cell)∈scope.names/\B.objs.size+1<=c):=λx c e=>by rw [<-hY] at e;exact iP M S qu e
 have Z3:∀x c,Y.env.cells.lookup x=gF c->B.objs.size+1<=c->E.IsCell c gK:=λx c e hle=>by
  rw [<-hY] at e;have hm:(x,c)∈jj (B.objs.size+1) scope.names []:=MQ scope.names _ _ (PySem.mem_of_lookup e) λp U=>by unfold cj at U;let(y,hy,rfl):=fm.mp U;let(c',kg):=eK.mp (c5.mp S.cells y hy);let(v,q):=M.cell y c' kg;dsimp only;rw [kg];exact d0 (dB q.lt (c6 qu (Nat.le_of_succ_le hle)))
  have ck:=cellsFrom_ok scope.names (B.push {cls:=.type "dict",data:=.dict #[]}) 0 [] {(λ_ _ z=>nomatch z),.nil} (Nat.zero_le _);rw [h9.size_push,hh₁] at ck;exact(ck.empty x c hm).1
 have ZL:∀x c,Y.env.cells.lookup x=gF c->c≠(zz9 a):=λx c e=>(UA x c e).elim (λz=>d0 z.2.1) λz=>Ne.symm (d0 (dA qu z.2));have EA:Y.pn=[]:=by rw [<-hY];rfl
 have RJ:Y.ex=fp:=by rw [<-hY];rfl
 have RL:Y.s₀=a:=by rw [<-hY];rfl
 have YK:Y.H₀=L:=by rw [<-hY];rfl
 have RK:Y.prog=X.prog:=by rw [<-hY];rfl
 have RN:Y.w=X.w:=by rw [<-hY];rfl
 have YL:Y.K=X.K:=by rw [<-hY];rfl
 have V4:Y.A=X.A:=by rw [<-hY];rfl
 have Z2:compEnvC scope (jj (B.objs.size+1) scope.names (cj X.env ys)) B.objs.size X.env=Y.env:=by rw [<-hY];rfl
 have RI:Y.calm=gS:=by rw [<-hY];rfl
 have N0:Y.xe=λ_ _=>False:=by rw [<-hY];rfl
 have RM:Y.fs=fh X.stack:=by rw [<-hY];rfl
 have S7:∀{F:Hp} {s':hD} {G:List hB} {k:Nat},s'.heap.get? (zz9 a)=gF (lobj G k)->F (zz9 a)=gK->∀p∈[((zz9 a),lobj G k)],s'.heap.get? p.1=gF p.2/\F p.1=gK/\p.1≠Y.env.locals/\p.1∉Y.fs/\∀v,p.2.data≠.cell v:=
  λ{F s' G k} e hn p U=>by obtain rfl:=eo.mp U;exact{e,hn,by rw [NZ];exact Uz,VX,λv=>Cj G k v}
 have VR:∀{F:Hp} {G:List hB} {k:Nat},(∀b∈fp,F b=gK)->∀b∈fp,gh Y [((zz9 a),lobj G k)] F b:=λ{F G k} hn b j=>
  {hn b j,by rw [NZ];exact d0 (dB (HB b j) qu),λz=>(VU b z).elim (f1 b j).2.1 (f1 b j).2.2.1,.inl (by rw [RJ];exact j),
   λx c e=>(UA x c e).elim (λz=>(f1 b j).2.2.2.2.1 x c z.1) (λz q=>absurd (HB b j) (Nat.not_lt.mpr (q▸c6 qu (Nat.le_of_succ_le z.2)))),λp U=>by rw [EA,List.nil_append] at U;obtain rfl:=eo.mp U;exact YH b j}
 have RH:L (zz9 a)=gK:=M.aN.fresh (a5 _)
 have I2:∀tk,Inv Y [((zz9 a),lobj [] 0)] (j2 xs.length gK++EO σ is) L {a with heap:=E,toks:=tk}:=λtk=>by
  refine{okY,by rw [RL],M.bare,by rw [RL,YK];exact Un.kept R,{_,by rw [NZ];exact hns₁,λi x v e1 e2 e3=>?_},λx c e=>?_,?_,λx c e=>(UA x c e).elim (λz=>M.fA x c z.1) (λz=>M.aN.fresh (c6 qu (Nat.le_of_succ_le z.2))),λp U=>?_,by rw [RK,RN];exact M.aN.kept R,?_}
  .
   have VY:Y.N=xs++ys:=by rw [<-hY];rfl
   rw [VY] at e1;by_cases bP:i<xs.length
   .rw [eM (by rw [List.length_replicate];exact bP),List.getElem?_replicate,if_pos bP] at e2;cases e2
   .have N9:xs.length<=i:=Nat.not_lt.mp bP;rw [eT (by rw [List.length_replicate];exact N9),List.length_replicate] at e2;rw [eT N9] at e1;let(i0,h0,h1):=Ac S.slots _ x v e1 e2;have hm:x∈ys:=a0 e1;have kx:X.env.kindOf x=gF .cell:=zzY (c5.mp S.kX x hm);have ky:(relabel scope X.env).names.lookup x=gF .cell:=zzY (c5.mp S.kY x hm);let(m,_,hl):=M.loc;let(u,ru,lk):=hl i0 x v h0 h1 (.inr (.inl kx))
    refine{u,ru,.inr {.inl (by rw [<-hY];exact ky),?_}};rcases lk with⟨z,_⟩|⟨_,c,hc1,hc2⟩
    .rw [kx] at z;cases z
    .let(c',kg):=kZ (env:=X.env) hm;have RS:=fN S.cells x c' kg;rw [hc1] at RS;cases RS;refine{c,by rw [<-hY];exact(sY _ _ _ λz=>(S.Pa z).2 hm).trans kg,?_};let(o,ho,hd):=hc2;exact{o,R _ _ ho,hd}
  .rcases UA x c e with z|z
   .let(v,o,ho,hd):=M.cell x c z.1;exact{v,o,R _ _ ho,hd}
   .exact{gK,Z3 x c e z.2}
  .rw [NZ];exact M.aN.fresh qu
  .rw [EA,List.nil_append] at U;exact S7 (s':={a with heap:=E,toks:=tk}) N2 RH p U
  .have VY:Y.N=xs++ys:=by rw [<-hY];rfl
   have hl:=congrArg List.length S.slots;rw [zzl,zzl] at hl;rw [VY,cA,cA,List.length_replicate];unfold EO;rw [zzl,hl]
 have loop:∀s₃:hD,s₃={a with heap:=E}->
  codeAny (hV X.prog X.w) X.A (.compLoop (.ListComp elt [{tg,iter,ifs,0}] scope pos) 0 (.ref it) (.ref (zz9 a)) (compEnvC scope (jj (B.objs.size+1) scope.names (cj X.env ys)) B.objs.size X.env))
   (compPost (hV X.prog X.w) X.A X.xe use QQ (.ref (zz9 a)) B.objs.size) s₃:=by
  rintro s₃ rfl
  rw [Z2];refine tm (λk s'=>∃i t O F G c,Inv Y [((zz9 a),lobj G c)] O F s'/\tn i s'.heap/\(∀b∈fp,F b=gK)/\Vals t G/\k=n-i/\W i t O F) ?_ n
   {0,[],_,L,[],0,I2 _,T.keep _ _ _ PQ λb _ o e=>R b o e,λb j=>(f1 b j).1,.nil,rfl,w0}
  rintro k s' ⟨i,t,O,F,G,c,I3,st3,fr3,rv,rfl,w3⟩
  let(hz,tw):=turn i t O F w3;have pD:=I3.pin ((zz9 a),lobj G c) (by rw [EA];exact eo.mpr rfl)
  rcases tw with⟨stop,hq⟩|⟨go,EE,step⟩
  .rw [<-V4];refine cm (T.done Y RK RN YL RI i _ s' O F _ I3 (VR fr3) st3 stop) λr Z ⟨hr,I4⟩=>?_;subst hr;let(m,hn4,_):=I4.loc;rw [NZ] at hn4;have WZ:=I4.pin ((zz9 a),lobj G c) (by rw [EA];exact eo.mpr rfl);have kp:∀b o,b≠B.objs.size->Z.heap.get? b=gF o->Z.heap.get? b=gF o:=λb o j e=>e;have WD:∀{b o},a.heap.get? b=gF o->b≠B.objs.size:=λ{b o} e=>d0 (dB (cB e) qu);have gv:=I4.base;rw [RL,YK,RJ,RM] at gv;have WE:∀{b o},L b=gF o->b≠(zz9 a):=λ{b o} e=>d0 (M.aN.lt e)
   have u:Un (fh X.stack) fp L (upd F (zz9 a) (.lst t)) a.heap Z.heap:=by
    refine{λb o e n j hx=>kp b o (WD e) (gv.keep b o e n j hx),λb o e n j hx=>?_,λb o e n hx=>?_,λb o e hx=>?_,λb xs e=>?_,λb o u e=>?_,λb ps e=>?_}
    .let(sl,q):=gv.slot b o e n j hx;exact{sl,kp b _ (WD e) q}
    .rw [ah (d0 (cB e))];exact gv.free b o e n hx
    .let(o',q):=gv.there b o e hx;exact{o',kp b _ (WD e) q}
    .rw [ah (WE e)];exact gv.iG b xs e
    .rw [ah (WE e)];exact gv.fX b o u e
    .let(more,q):=gv.ip b ps e;exact{more,by rw [ah (WE e)];exact q}
   have YF:F B.objs.size=gK:=by rw [<-NZ];exact I4.free
   have Jq:fe X.prog X.w (upd F (zz9 a) (.lst t)) Z.heap:=λb o e=>by
    by_cases j:b=(zz9 a)
    .subst j;rw [av] at e;cases e;exact{Nat.le_of_lt hz,G,c,rv,kp _ _ Uz WZ.1}
    .rw [ah j] at e;have x4:=I4.aN b o e;rw [RK,RN] at x4;have OO:∀P u,F P=gF u->P≠B.objs.size:=λP u q z=>by rw [z,YF] at q;cases q
     have Za:∀P u,F P=gF u->P≠(zz9 a):=λP u q z=>by rw [z,WZ.2.1] at q;cases q
     refine x4.eO (λP u o8 q=>kp P u ?_ q) (λP q=>?_) λP xs q=>?_
     .rcases o8 with z|z
      .rw [z];exact OO b o e
      .exact OO P _ z
     .rw [ah (Za P _ q)];exact q
     .rw [ah (Za P _ q)];exact q
   have I5:Inv X ae σ (upd F (zz9 a) (.lst t)) Z:=M.Rg (by show Z.os=a.os;rw [I4.os,RL]) u Jq I4.bare λb j=>{(f1 b j).2.2.2.1,(f1 b j).2.1,(f1 b j).2.2.2.2.1,(f1 b j).2.2.2.2.2};dsimp only;rw [V4];exact fin (zz9 a) B.objs.size Z _ m I5 hn4 (M.o5 qu (by rw [ah (Ne.symm Uz)];exact YF)) (hq _ WZ.2.1)
  .rw [<-V4];refine cm (T.item Y RK RN YL RI i _ s' O F _ I3 (VR fr3) st3 go) λr Z ⟨u,hr,h4⟩=>?_;subst hr;dsimp only;refine cm h4 λ_ s5 yq0=>?_;let(x,H5,I5,r5,y5,st5,fr5):=yq0;have Vf:=I5.pinned (VR fr5) (T.obj _ _ st5);have YT:=hg fp a L B.objs.size;have YO:=he fp a L B.objs.size;have YX:=ht fp a L B.objs.size;rw [hY] at YT YO YX;rw [<-RK,<-RN];refine wpAny_mono (YT _ s5 O H5 x u _ Vf r5 (step x H5 y5)) (λ_ s6 ⟨V,H6,I6,q6⟩=>?_) (λ_ _ f=>by rw [N0] at f;exact f.elim);refine wpAny_mono (YX _ s6 V H6 _ I6 q6) (λokb sT ⟨HT,IT,qT⟩=>?_) (λ_ _ f=>by rw [N0] at f;exact f.elim);have pDT:=IT.pin ((zz9 a),lobj G c) (c3 _ (ee _ (eo.mpr rfl)));have stT:tn (i+1) sT.heap:=T.keep _ _ _ st5 λb j o e=>(IT.pin (b,o) (c3 _ (c3 _ (d5 j e)))).1
   cases okb with
   |false=>refine{n-(i+1),by omega,i+1,t,V,HT,G,c,IT.ma,stT,λb j=>?_,rv,rfl,qT};let(o,e,d):=T.obj _ _ st5 b j;exact(IT.pin (b,o) (c3 _ (c3 _ (d5 j e)))).2.1|true=>
   refine wpAny_mono (YO _ sT V HT _ IT qT) (λv s7 ⟨y,H7,I7,r7,q7⟩=>?_) (λ_ _ f=>by rw [N0] at f;exact f.elim);have W0:=I7.pin ((zz9 a),lobj G c) (c3 _ (ee _ (eo.mpr rfl)));have e7:s7.heap.get? (zz9 a)=gF {cls:=.type "list",data:=.seq G.toArray c}:=W0.1;refine append_at (hsz:=by rw [aT,<-rv.length];exact Nat.le_of_lt hz) e7 λh' B6 ZU=>?_;have I8:Inv Y [] V H7 s7:=I7.jn λ_ z=>nomatch z
   have I9:Inv Y [] V H7 {s7 with heap:=h'}:=I8.turned (t':=s7.toks) (it:=(zz9 a)) (λb o j e=>B6.extBut b o j e) W0.2.1 (by rw [NZ];exact Uz) (.inr (by rw [RL];exact a5 _))
    (λx c' e=>ZL x c' e) (λp U=>by rw [EA] at U;cases U)
   have eD:h'.get? (zz9 a)=gF (lobj (G++[v]) (c+1)):=by rw [ZU,List.push_toArray]
   have st7:tn (i+1) s7.heap:=T.keep _ _ _ st5 λb j o e=>(I7.pin (b,o) (c3 _ (c3 _ (d5 j e)))).1;refine{n-(i+1),by omega,i+1,t++[y],V,H7,G++[v],c+1,I9.jn (S7 (s':={s7 with heap:=h'}) eD W0.2.1),T.keep _ _ _ st7 λb j o e=>B6.extBut b o (Ne.symm (YH b j)) e,λb j=>?_,rv.append (.cons r7 .nil),rfl,q7};let(o,e,d):=T.obj _ _ st5 b j;exact(I7.pin (b,o) (c3 _ (c3 _ (d5 j e)))).2.1
 exact codeAny_compStart_list (loop _ rfl) (T.self _ 0 _ _ _ (T.keep _ _ _ PQ λb _ o e=>R b o e) (loop _ rfl))
def Ke{a c:hI}{i:TI}{g:TG}(j:X.calm=gS)(S:fT X scope xs ys is)(k:PI X c iter i)
 (p:∀fp d f C,PG (cJ X (xs++ys) scope (cj X.env ys) fp d f C) c g) (he:∀fp d f C,PE (cJ X (xs++ys) scope (cj X.env ys) fp d f C) a te)
 (hs:∀x,foldedSetIterable iter X.env x=pure x:=by intro _;rfl):
 PE X (.ListComp a [{c,iter,[],0}] scope pos) (Hc i xs.length g te is):=by
 intro ae s σ H Q I h;rw [eval_ListComp];exact je (use:=gK) (Q:=Q) j S k p (λZ Z Z Z=>AD) he hs I h (λD C r t m u w ⟨y,g1,_,g3,z,A⟩ q=>{m,w,λF B=>{.ref D,t,u.turned (t':=r.toks) (it:=C) (λb o E e=>B.extBut b o E e) y g1 g3 z A,rfl,q}})
def CK{d f i:hI}{j:TI}{g:TG}{tt:TT}(k:X.calm=gS)(S:fT X scope xs ys is)(p:PI X f iter j)
 (r:∀fp a c C,PG (cJ X (xs++ys) scope (cj X.env ys) fp a c C) f g) (t:∀fp a c C,PT (cJ X (xs++ys) scope (cj X.env ys) fp a c C) i tt) (he:∀fp a c C,PE (cJ X (xs++ys) scope (cj X.env ys) fp a c C) d te)
 (hs:∀x,foldedSetIterable iter X.env x=pure x:=by intro _;rfl):
 PE X (.ListComp d [{f,iter,[i],0}] scope pos) (n4 j xs.length g tt te is):=by
 intro ae s σ H Q I h;rw [eval_ListComp];exact je (use:=gK) (Q:=Q) k S p r (λfp a c C=>AE (t fp a c C)) he hs I h (λD C u w m y z ⟨A,g1,_,g3,B,E⟩ q=>{m,z,λK F=>{.ref D,w,y.turned (t':=u.toks) (it:=C) (λb o G e=>F.extBut b o G e) A g1 g3 B E,rfl,q}})
end
def bD{p:hF}{o:HO}(h:H p=gK):aB H (upd H p o):=λb u e=>by rw [ah (bZ e h)];exact e
end L2
namespace HT
open PyProof.Rows
def jr{s:hD}{E:kd}{t sl:hF}{e f:hB}{a c:Option Int}{Q:kd}(b:IsTup s.heap t items)(hs:s.heap.IsSliceOf sl e f .none)(pl:IsPart e a)(g:IsPart f c)
 (hw:dm items.size 0 a=0/\dm items.size items.size c=items.size) (h:Q (.ref t) s):hJ (hV prog w) A (getItem (.ref t) (.ref sl)) Q E s:=by
 let(os,d,i,j):=id hs;have k:s.TypeIs (.ref sl) "slice":=⟨os,d,i⟩;unfold getItem
 try with_reducible refine wpAny_holding ?_
 first|refine ak (a8 ?_)|skip
 refine ak (wpAny_sequenceKey b.typeIs (by decide) ?_);refine ak (wpAny_callSpecial?_slot (name:=Str.ofString "__getitem__") b.typeIs PyProof.Rows.slot_tuple_getitem
  (wpAny_call_entry PyProof.Rows.slot_tuple_getitem b.typeIs entry_tuple_getitem ?_ (args_tuple_getitem _ _)))
 show hJ _ _ (i1.Tuple.tupleItemsOf (.ref t)>>=_) _ _ s;refine ak (tupleItemsOf_ b ?_);refine ak (wpAny_typeOf k ?_);rw [if_pos (by decide)];refine ak (gJ hs pl g ?_);have m:(((dm items.size 0 a:Nat):Int)==0&&(1:Int)==1&&(dm items.size items.size c-dm items.size 0 a)==items.size)=gS:=by rw [hw.1,hw.2];simp
 show hJ _ _ (if(((dm items.size 0 a:Nat):Int)==0&&(1:Int)==1&&(dm items.size items.size c-dm items.size 0 a)==items.size)=gS then _ else _) _ _ s;rw [if_pos m];refine ak (ak (wpAny_typeOf b.typeIs ?_));refine a8 ?_;rw [if_pos (by decide)]
 first
  |exact ak (wpAny_rule (a8 ⟨_,rfl,a8 h⟩))
  |exact wpAny_rule (a8 ⟨_,rfl,a8 h⟩)
  |exact ak (wpAny_rule (ak (a8 ⟨_,rfl,a8 h⟩)))
end HT
namespace L2
open PySem.Spec PyProof.Rows
def KO:Hv X (λx c d H Q=>∃a xs,x=.ref a/\gf X.K H a xs/\(HT.dm xs.length 0 c=0/\HT.dm xs.length xs.length d=xs.length)/\Q x H):=by
 intro m s o H x v p t c d u Q I f hs pl g h;let(a,xs,rfl,i,j,q):=h;cases f;let(k,r,e,w):=I.tuple i;have b:k.toArray.size=xs.length:=by rw [aT];exact r.length.symm
 refine{"tuple",_,PyProof.Rows.slot_tuple_getitem.lookup,e.typeIs,?_};exact HT.jr e hs pl g (by rw [b];exact j) {.ref a,H,I,rfl,q}
section
variable{a b:hI}
end
section
variable{κ:Type}[DecidableEq κ]
abbrev i8(a:List (κ×V))(k:κ):Option V:=(a.find? λb=>decide (b.1=k)).map (·.2)
abbrev putK(b:List (κ×V))(k:κ)(v:V):List (κ×V):=
 if(b.any λa=>decide (a.1=k))=gS then b.map (λa=>if a.1=k then(a.1,v) else a) else b++[(k,v)]
abbrev iu(a:List (κ×V))(k:κ):List (κ×V):=a.filter λb=>decide (b.1≠k)
def ja{p:κ×V}{r:List (κ×V)}{k:κ}(e:p.1=k):i8 (p::r) k=gF p.2:=by simp [i8,List.find?_cons,e]
def i9{p:κ×V}{r:List (κ×V)}{k:κ}(e:¬p.1=k):i8 (p::r) k=i8 r k:=by simp [i8,List.find?_cons,e]
theorem qf(k:κ):∀a:List (κ×V),(a.any λb=>decide (b.1=k))=(i8 a k).isSome
 |[]=>rfl|p::r=>by
  rw [List.any_cons];by_cases e:p.1=k
  .simp! [ja e,zzh e,Bool.true_or,Option.isSome_some]
  .rw [i9 e,zz0 e,Bool.false_or];exact qf k r
def fQ(a:List (κ×V))(k:κ)(v:V):(putK a k v).length<=a.length+1:=by
 unfold putK;split
 .rw [zzl];lia
 .rw [cA,cu,List.length_nil];lia
def kL.gy{o:Option V}{u:Option hB}(r:kL o u):o.isSome=u.isSome:=by
 cases o with
 |none=>cases u with
  |none=>rfl|some _=>exact(show False from r).elim
 |some _=>cases u with
  |none=>exact(show False from r).elim|some _=>rfl
def kL.getD{o:Option V}{u:Option hB}{d:V}{d':hB}(r:kL o u)(rd:RelV d d'):RelV (o.getD d) (u.getD d'):=by
 cases o with
 |none=>cases u with
  |none=>exact rd|some _=>exact(show False from r).elim
 |some _=>cases u with
  |none=>exact(show False from r).elim|some _=>exact r
def KV.val{c:List (κ×V)}{vs:List (κ×hB)}(r:KV c vs)(k:κ):kL (i8 c k) (valueAt vs k):=by
 unfold KV at r
 induction r with
 |nil=>exact True.intro|@cons p q ps qs h t f=>
  let(d,g):=h;by_cases e:p.1=k
  .have a:q.1=k:=d.symm.trans e;have b:valueAt (q::qs) k=gF q.2:=by simp [valueAt,List.find?_cons,a]
   rw [ja e,b];exact g
  .have a:¬q.1=k:=λz=>e (d.trans z);have b:valueAt (q::qs) k=valueAt qs k:=by simp [valueAt,List.find?_cons,a]
   rw [i9 e,b];exact f
def KV.any{b:List (κ×V)}{vs:List (κ×hB)}(r:KV b vs)(k:κ):(b.any λa=>decide (a.1=k))=vs.any λa=>decide (a.1=k):=by
 unfold KV at r
 induction r with
 |nil=>rfl|cons h t c=>rw [List.any_cons,List.any_cons,c,h.1]
def KV.Pz{c:List (κ×V)}{vs:List (κ×hB)}(r:KV c vs)(k:κ){y:V}{u:hB}(d:RelV y u):
 KV (c.map λa=>if a.1=k then(a.1,y) else a) (vs.map λa=>if a.1=k then(a.1,u) else a):=by
 unfold KV at r⊢
 induction r with
 |nil=>exact .nil|@cons p q ps qs h t f=>
  rw [a7,a7];refine .cons ?_ f;let(b,g):=h;by_cases e:p.1=k
  .rw [if_pos e,if_pos (b.symm.trans e)];exact⟨b,d⟩
  .rw [if_neg e,if_neg (λz=>e (b.trans z))];exact⟨b,g⟩
def KV.put{a:List (κ×V)}{vs:List (κ×hB)}(r:KV a vs)(k:κ){y:V}{u:hB}(b:RelV y u):KV (putK a k y) (stored vs k u):=by
 unfold putK stored;rw [r.any k];by_cases e:(vs.any λc=>decide (c.1=k))=gS
 .rw [if_pos e,if_pos e];exact r.Pz k b
 .rw [if_neg e,if_neg e];exact Paired.snoc r ⟨rfl,b⟩
def KV.length{a:List (κ×V)}{vs:List (κ×hB)}(r:KV a vs):a.length=vs.length:=Paired.length r
def D4(a:List (κ×V))(k:κ):(iu a k).length<=a.length:=List.length_filter_le _ _
end
def rO{k:Key}{u:hB}(r:RelV (kV k) u):(aM P w).is k u=gS:=by
 cases k with
 |inl i=>let(t,e):=(show∃t,u=hB.int i t from r);subst e;exact vY P w i t|inr x=>let(t,e):=(show∃t,u=hB.str x t from r);subst e;exact vZ P w x t
theorem mv:∀{ks:List Key} {us:List hB},Vals (ks.map kV) us->ItemsAre (aM P w) ks us
 |[],_,r=>by rw [List.map_nil] at r;cases r;exact .nil
 |k::ks,_,r=>by
  rw [a7] at r;cases r with
  |cons h t=>exact .cons (rO h) (mv t)
noncomputable abbrev KT(H:Hp):List (List Key×V)->List (List Key×hF×hB)->Prop:=Paired λp q=>p.1=q.1/\H q.2.1=gF (.tup (p.1.map kV))/\RelV p.2 q.2.2
def KT.val{c:List (List Key×V)}{xs:List (List Key×hF×hB)}(r:KT H c xs)(k:List Key):kL (i8 c k) ((atKey xs k).map (·.2)):=by
 induction r with
 |nil=>exact True.intro|@cons p q ps qs h t f=>
  let(d,_,g):=h;by_cases e:p.1=k
  .have a:q.1=k:=d.symm.trans e;have b:atKey (q::qs) k=gF q.2:=by simp [atKey,List.find?_cons,a]
   rw [ja e,b];exact g
  .have a:¬q.1=k:=λz=>e (d.trans z);have b:atKey (q::qs) k=atKey qs k:=by simp [atKey,List.find?_cons,a]
   rw [i9 e,b];exact f
def KT.Pz{c:List (List Key×V)}{xs:List (List Key×hF×hB)}(r:KT H c xs)(k:List Key){y:V}{u:hB}(f:RelV y u):
 KT H (c.map λb=>if b.1=k then(b.1,y) else b) (xs.map (putAt k u)):=by
 induction r with
 |nil=>exact .nil|@cons p q ps qs h t g=>
  rw [a7,a7];refine .cons ?_ g;let(a,d,i):=h;unfold putAt;by_cases e:p.1=k
  .rw [if_pos e,if_pos (a.symm.trans e)];exact⟨a,d,f⟩
  .rw [if_neg e,if_neg (λz=>e (a.trans z))];exact⟨a,d,i⟩
def KT.put{a:List (List Key×V)}{xs:List (List Key×hF×hB)}(r:KT H a xs)(k:List Key){b:hF}{y:V}{u:hB}(d:H b=gF (.tup (k.map kV)))(c:RelV y u):
 KT H (putK a k y) (storedH xs k b u):=by
 have e:(a.any λf=>decide (f.1=k))=(atKey xs k).isSome:=by rw [qf,(r.val k).gy,Option.isSome_map]
 unfold putK storedH;rw [e];by_cases q:(atKey xs k).isSome=gS
 .rw [if_pos q,if_pos q];exact r.Pz k c
 .rw [if_neg q,if_neg q];exact Paired.snoc r ⟨rfl,d,c⟩
def KT.keeps{a:Hp}{c:List (List Key×V)}{xs:List (List Key×hF×hB)}(r:KT H c xs)(d:∀b ys,H b=gF (.tup ys)->a b=gF (.tup ys)):KT a c xs:=
 Paired.Cm r λZ Z z=>{z.1,d _ _ z.2.1,z.2.2}
def Md{u:HO}(ok:fe P w H h)(e:Rd H a u):cx P w H h a u:=e.ok ok
def oJ{b:List (Key×V)}(ok:fe P w H h)(e:Rd H a (.dK b)):b.length<=ic/\(a==sysModules)=gU/\∃vs,KV b vs/\h.DictOf (aM P w) a vs:=
 show cx P w H h a (.dK b) from Md ok e
def Rv{b:List (Key×V)}(ok:fe P w H h)(e:H a=gF (.dK b)):b.length<=ic/\(a==sysModules)=gU/\∃vs,KV b vs/\h.DictOf (aM P w) a vs:=oJ ok (.inl e)
def ib{ks:List Key}(ok:fe P w H h)(e:H a=gF (.tup (ks.map kV))):(tupleKind (aM P w)).is h ks a:=by let(_,b,r,o,c,d,n,f):=(show cx P w H h a (.tup (ks.map kV)) from ok a _ e);exact{o,b.toArray,n,c,d,f,by simpa using mv r}
def lj{c:List (List Key×V)}(ok:fe P w H h)(e:Rd H a (.dT c)):c.length<=ic/\(a==sysModules)=gU/\
 ∃xs,KT H c xs/\h.DictOfH (tupleKind (aM P w)) a xs:=by
 let(z,y,xs,r,o,f,g,i,j,k,s,u):=(show cx P w H h a (.dT c) from Md ok e);refine{z,y,xs,r,o,f,g,i,j,k,s,λx b=>?_,u}
 have all:∀{l:List (List Key×V)} {m:List (List Key×hF×hB)},KT H l m->∀x∈m,(tupleKind (aM P w)).is h x.1 x.2.1:=by
  intro l m q
  induction q with
  |nil=>intro x b;exact nomatch b|@cons p q ps qs d t A=>
   intro x b;rcases ey.mp b with e|b
   .subst e;exact ib ok (by rw [<-d.1];exact d.2.1)
   .exact A x b
 exact all r x b
def D5{b:List (List Key×V)}(ok:fe P w H h)(e:H a=gF (.dT b)):b.length<=ic/\(a==sysModules)=gU/\
 ∃xs,KT H b xs/\h.DictOfH (tupleKind (aM P w)) a xs:=lj ok (.inl e)
def xo(H:Hp)(a:hF)(y:V)(r:Option V):Prop:=
 (∃c k,Rd H a (.dK c)/\y=kV k/\r=i8 c k)\/∃c k b,Rd H a (.dT c)/\y=.ref b/\H b=gF (.tup (k.map kV))/\r=i8 c k
def A8(H:Hp)(a:hF)(y v:V)(d:Hp):Prop:=
 (∃c k,H a=gF (.dK c)/\y=kV k/\c.length<ic/\d=upd H a (.dK (putK c k v)))\/
 ∃c k b,H a=gF (.dT c)/\y=.ref b/\H b=gF (.tup (k.map kV))/\c.length<ic/\d=upd H a (.dT (putK c k v))
def A8.t{b:hF}{c:List (List Key×V)}{k:List Key}(e:H a=gF (.dT c))(d:H b=gF (.tup (k.map kV)))(hl:c.length<ic):
 A8 H a (.ref b) v (upd H a (.dT (putK c k v))):=.inr ⟨c,k,b,e,rfl,d,hl,rfl⟩
section
variable{s:hD}{y:V}{u r:hB}{o:Option V}{E:kd}
def Inv.big(I:zv2 s):sysModules<(zz9 s):=by have h:iv<(zz9 s):=(I.mod.glob.keeps I.bk).lt;exact Nat.lt_trans (by decide) h
def BC{Q:kd}(B:A.units+1<cLine)(I:zv2 s)(g:xo H a y (gF v))(t:RelV y u)(h:∀d s',Inv X ae σ H s'->RelV v d->Q d s'):
 hJ (hV X.prog X.w) A (getItem (.ref a) u) Q E s:=by
 rcases g with⟨C,k,e,f,l⟩|⟨C,k,b,e,f,D,l⟩
 .subst f;let(z,hd,F,c,i):=oJ I.aN e;let(d,j,m):=kL.some_of (v:=v) (o:=valueAt F k) (by rw [l];exact c.val k);exact wpAny_getItem_of (rO t) i.mapOf j (h d _ (I.tok _) m)
 .subst f;cases(show u=hB.ref b from t);let(z,hd,xs,c,i):=lj I.aN e;let(d,j,m):=kL.some_of (v:=v) (o:=(atKey xs k).map (·.2)) (by rw [l];exact c.val k);let(p,G,q):=b0.mp j;refine wpAny_getItem_heap (tupleKind_room_in1 B) (ib I.aN D) i G ?_;rw [q];exact h d _ (I.tok _) m
def VH{Q:kd}(j:A.units+1<cLine)(I:zv2 s)(g:xo H a y o)(i:RelV y u)(h:∀s',Inv X ae σ H s'->Q (.bool o.isSome) s'):
 hJ (hV X.prog X.w) A (compareOp .In u (.ref a)) Q E s:=by
 rcases g with⟨m,k,e,d,l⟩|⟨m,k,b,e,d,p,l⟩
 .subst d;let(z,hd,t,c,f):=oJ I.aN e;refine wpAny_in_of (rO i) hd f.mapOf ?_;rw [<-(c.val k).gy,<-l];exact h _ (I.tok _)
 .subst d;cases(show u=hB.ref b from i);let(z,hd,xs,c,f):=lj I.aN e;refine wpAny_in_heap (tupleKind_room_in1 j) (ib I.aN p) hd f ?_;have q:=(c.val k).gy;rw [Option.isSome_map] at q;rw [<-q,<-l];exact h _ (I.tok _)
def IF{Q:kd}(j:A.units+1<cLine)(I:zv2 s)(g:xo H a y o)(i:RelV y u)(h:∀s',Inv X ae σ H s'->Q (.bool (!o.isSome)) s'):
 hJ (hV X.prog X.w) A (compareOp .NotIn u (.ref a)) Q E s:=by
 rcases g with⟨m,k,e,d,l⟩|⟨m,k,b,e,d,p,l⟩
 .subst d;let(z,hd,t,c,f):=oJ I.aN e;refine wpAny_notIn_of (rO i) hd f.mapOf ?_;rw [<-(c.val k).gy,<-l];exact h _ (I.tok _)
 .subst d;cases(show u=hB.ref b from i);let(z,hd,xs,c,f):=lj I.aN e;refine wpAny_notIn_heap (tupleKind_room_in1 j) (ib I.aN p) hd f ?_;have q:=(c.val k).gy;rw [Option.isSome_map] at q;rw [<-q,<-l];exact h _ (I.tok _)
theorem jg{t':Nat}{ob:HO}(I:zv2 s)(c:QS (H a))(hs:h9.SameBut a s.heap h')(he:∃q,h'.get? a=gF q)(new:cx X.prog X.w (upd H a ob) h' a ob):
 Inv X ae σ (upd H a ob) {s with heap:=h',toks:=t'}:=
 I.write (x:=a) (e:=a) c (.inl rfl) (λb q d z=>(hs.2 b d).trans z) he new
def Ni{d:Hp}{b:List (Key×V)}{vs:List (Key×hB)}(z:b.length<=ic)(hd:(a==sysModules)=gU)(c:KV b vs)(dd:h'.DictOf (aM P w) a vs):
 cx P w d h' a (.dK b):=⟨z,hd,vs,c,dd⟩
def BD{C:Hp}{Q:Unit->hD->Prop}(M:A.units+1<cLine)(I:zv2 s)(g:A8 H a y v C)(D:RelV y u)(F:RelV v r)(h:∀s',Inv X ae σ C s'->Q () s'):
 hJ (hV X.prog X.w) A (setItem (.ref a) u r) Q E s:=by
 rcases g with⟨f,k,e,m,l,p⟩|⟨f,k,b,e,m,G,l,p⟩
 .subst m p;let(z,hd,N,d,t):=Rv I.aN e;have B:N.length<=sizeLine:=by rw [<-d.length];exact z
  have hl:(putK f k v).length<=sizeLine:=by have:=fQ f k v;lia
  refine wpAny_setItem_pairs (hsz:=B) (rO D) t λK i hs=>h _ ?_;have O:∃q,K.get? a=gF q:=let⟨q,_,_,j,_⟩:=i;⟨q,j⟩;exact jg I (by rw [e];exact True.intro) hs O (Ni hl hd (d.put k F) i)
 .subst m p;cases(show u=hB.ref b from D);let(z,hd,xs,d,t):=D5 I.aN e;have B:xs.length<=sizeLine:=by rw [<-Paired.length d];exact z
  have hl:(putK f k v).length<=sizeLine:=by have:=fQ f k v;lia
  refine wpAny_setItem_heap (hsz:=B) (tupleKind_room_in1 M) (ib I.aN G) t λK i hs=>h _ ?_;let(q,P,R,j,S,T,U,_,V):=i;refine jg I (by rw [e];exact True.intro) hs ⟨q,j⟩ {hl,hd,_,(d.put k G F).keeps λc W L=>?_,q,P,R,j,S,T,U,V};rw [ah (gC L e nofun)];exact L
end
def QT(i:hI):Prop:=∀a b,subscripted i gU a b=operate [a,b] (getItem a b)
def La{E:kd}{s:hD}{env:Env}{a slice:hI}{T id:String}{Q:kd}
 (hl:typeLookup (.type T) "__getitem__"=pure (gF (.builtin id))) (hs:QT slice)
 (h:hJ (hV prog w) A (eval a env) (λo d=>hJ (hV prog w) A (eval slice env) (λi b=>b.TypeIs o T/\hJ (hV prog w) A (getItem o i) Q E b) E d) E s):
 hJ (hV prog w) A (eval (.Subscript a slice pos) env) Q E s:=by
 refine Subscript_ (wpAny_mono h (λo d g=>wpAny_mono g (λi b c=>?_) λZ Z x=>x) λZ Z x=>x);let(k,c):=c;unfold subscriptTail;refine ak ?_;rw [getitemInPython_of_ne k.not_modules];refine ak (wpAny_specialOf k hl ?_);have f:hJ (hV prog w) A (subscripted slice gU o i) (λr e=>hJ (hV prog w) A (letTemporaryGo a o r>>=λZ=>pure r) Q E e) E b:=by rw [hs o i];exact wpAny_operating (wpAny_mono c (λr e j=>ak (wpAny_letTemporaryGo (a8 j))) λZ Z x=>x)
 first
  |exact a8 (ak f)
  |exact ak (a8 (ak f))
  |exact ak f
def vx{d:St}{s:hD}{y:V}{o:Option V}(I:Inv X ae d H s)(g:xo H a y o):s.TypeIs (.ref a) "dict":=by
 rcases g with⟨f,k,e,_,_⟩|⟨f,k,b,e,_,_,_⟩
 .let(_,_,h,_,c):=oJ I.aN e;exact c.typeIs
 .let(_,_,xs,_,c):=lj I.aN e;exact c.typeIs
abbrev Mo(d ty:TE):TE:=λb H Q=>d b H λx e=>ty b e λy c=>∃a v,x=.ref a/\xo c a y (gF v)/\Q v c
section
variable{o i:hI}{td ty:TE}
def Kf(f:X.A.units+1<cLine)(j:PE X o td)(k:PE X i ty)(hs:QT i):PE X (.Subscript o i pos) (Mo td ty):=by intro c s d H Q I h;refine La PySem.F.slot_dict_getitem.lookup hs (cm (j c s d H _ I h) λu m ⟨x,H1,p,q,r⟩=>cm (k c m d H1 _ p r) λD E b=>?_);let(y,t,e,w,a,v,ex,g,z):=b;subst ex;obtain rfl:u=hB.ref a:=q;exact{vx e g,BC f e g w λG K B C=>⟨v,t,B,C,z⟩}
end
theorem vA(h:h9)(a:sysModules<h.objs.size):cx P w H (h.push {cls:=.type "dict",data:=.dict #[]}) h.objs.size (.dT []):=
 {Nat.zero_le _,beq_eq_false_iff_ne.mpr (Ne.symm (d0 a)),[],.nil,_,#[],0,dJ _ rfl,⟨rfl,rfl,rfl⟩,rfl,rfl,List.nodup_nil}
abbrev P2:TE:=λZ H Q=>∀p,H p=gK->Q (.ref p) (upd H p (.dT []))
theorem FT:PE X (.Dict [] [] pos) P2:=λb s c H Q I h=>wpAny_Dict_empty {.ref (zz9 s),_,I.laid (a:=(zz9 s)) (o:=.dT []) (t':=s.toks) (λZ Z q=>ar _ q) (a5 _) (vA s.heap I.big),rfl,h _ (I.aN.fresh (a5 _))}
structure M1(X:Cx)(o:hI)(m:Str)(apos:Pos)(e:hI)(bO:Pos):Prop where
 base:attributeBase o m X.env (eval o X.env)=eval o X.env
 Np:((backTo bO (starEach [e] X.env)).all (λx=>!x.1)&&(backToKw bO (keywordEach [] X.env)).all (λx=>x.1.isSome)
  &&decide (([e]:List hI).length+([]:List Keyword).length+(if([]:List Keyword).isEmpty then 0 else 1)<30))=gS
 line:(apos.endLine==bO.line)=gS
 trees:backTo bO (starEach [e] X.env)=[(gU,eval e X.env)]
structure M2(X:Cx)(o:hI)(m:Str)(apos:Pos)(e f:hI)(bO:Pos):Prop where
 base:attributeBase o m X.env (eval o X.env)=eval o X.env
 Np:((backTo bO (starEach [e,f] X.env)).all (λx=>!x.1)&&(backToKw bO (keywordEach [] X.env)).all (λx=>x.1.isSome)
  &&decide (([e,f]:List hI).length+([]:List Keyword).length+(if([]:List Keyword).isEmpty then 0 else 1)<30))=gS
 line:(apos.endLine==bO.line)=gS
 trees:backTo bO (starEach [e,f] X.env)=[(gU,eval e X.env),(gU,eval f X.env)]
def DB(H:Hp)(a:hF):Prop:=(∃b,Rd H a (.dK b))\/∃b,Rd H a (.dT b)
def ES{h:St}{s:hD}(I:Inv X ae h H s)(d:DB H a):
 s.TypeIs (.ref a) "dict"/\(∀b,hB.ref a=.ref b->∃ob,s.heap.get? b=gF ob/\ob.dict=gK)/\(a==sysModules)=gU:=by
 rcases d with⟨i,e⟩|⟨i,e⟩
 .let(_,hd,j,_,c):=oJ I.aN e;refine{c.typeIs,λb q=>?_,hd};cases q;let(ob,_,_,f,g,_):=c;exact⟨ob,f,g.2.1⟩
 .let(_,hd,xs,_,c):=lj I.aN e;refine{c.typeIs,λb q=>?_,hd};cases q;let(ob,_,_,f,g,_):=c;exact⟨ob,f,g.2.1⟩
section
variable{s:hD}{y:V}{u:hB}{o:Option V}{E:kd}
def Nf{Q:kd}(m:A.units+1<cLine)(I:zv2 s)(g:xo H a y o)(i:RelV y u)(h:∀j s',Inv X ae σ H s'->RelV (o.getD .aC) j->Q j s'):
 hJ (hV X.prog X.w) A (call (.builtin "dict.get") [.ref a,u]) Q E s:=by
 rcases g with⟨p,k,e,f,l⟩|⟨p,k,b,e,f,q,l⟩
 .subst f;let(z,hd,r,c,d):=oJ I.aN e;refine call_meetsIn PySem.F.slot_dict_get d.typeIs PySem.F.entry_dict_get (PySem.F.args_dict_get_2 _ _) (meets_dict_get (aM X.prog X.w) a (rO i) hd) {_,d.mapOf,h _ _ (I.tok _) ?_};rw [l];exact(c.val k).getD rfl
 .subst f;cases(show u=hB.ref b from i);let(z,hd,xs,c,d):=lj I.aN e;refine call_meetsIn PySem.F.slot_dict_get d.typeIs PySem.F.entry_dict_get (PySem.F.args_dict_get_2 _ _) (meetsH_dict_get (tupleKind (aM X.prog X.w)) a b hd) {tupleKind_room_in1 m,k,xs,ib I.aN q,d,h _ _ (I.tok _) ?_};rw [l];exact(c.val k).getD rfl
end
abbrev P1(e ty:TE):TE:=λb H Q=>e b H λx c=>∃a,x=.ref a/\DB c a/\ty b c λy d=>∃o,xo d a y o/\Q (o.getD .aC) d
section
variable{o:hI}{apos bO:Pos}{td ty:TE}
def FR(j:X.A.units+1<cLine)(k:PE X o td)(he:PE X e ty)(m:M1 X o "get" apos e bO):PE X (.Call (.Attribute o "get" apos) [e] [] bO) (P1 td ty):=by intro c s f H Q I h;refine wpAny_Call_method m.base m.Np m.line PySem.F.plainAttrs_dict PySem.F.slot_dict_get PySem.F.type_dict_get (cm (k c s f H _ I h) λu p b=>?_);let(x,q,i,r,a,ex,d,t):=b;subst ex;obtain rfl:u=hB.ref a:=r;let(w,z,_):=ES i d;refine{w,z,?_};rw [m.trees];refine Calls.callWith_builtin rfl (Calls.evalArgs_plain (Calls.spliced_cons (cm (he c p f q _ i t) λL M ⟨y,B,C,D,N,g,E⟩=>Calls.spliced_nil ?_)));exact Nf j C g D λO P G K=>{_,B,G,K,E}
end
end L2
namespace Att
open PySem.W PySem.Calls PyProof.Rows
end Att
namespace L2
open PySem.Spec PyProof.Rows
section
variable{κ:Type}[DecidableEq κ]
def BH{p:κ×V}{r:List (κ×V)}{k:κ}(e:p.1=k):iu (p::r) k=iu r k:=by unfold iu;rw [fS,if_neg (by simp [e])]
def BG{p:κ×V}{r:List (κ×V)}{k:κ}(e:¬p.1=k):iu (p::r) k=p::iu r k:=by unfold iu;rw [fS,if_pos (by simp [e])]
end
section
variable{κ:Type}[DecidableEq κ]{knd:HeapKind prog w κ}{E:kd}{s:hD}{d:hF}{xs:List (κ×hF×hB)}{k:κ}
theorem tR(d:hF)(c:(d==sysModules)=gU):MeetsIn prog w (i1.«dict.__len__» {[.ref d],[]}) (λZ R s=>∃xs,s.heap.DictOfH knd d xs/\R (.ok (.ret (.int xs.length s.toks))) {s with toks:=s.toks+1}):=
 .of_wp λA R s b=>by let(xs,(o,i,j,e,_,f,g,_),h):=b;show hJ _ _ (dictSize d>>=λn=>_) _ _ s;unfold dictSize;refine ak (ak (wpAny_dictEntries e f (a8 (ak (wpAny_pendingCount_other c (wpAny_ret_mkInt ?_))))));rw [Nat.add_zero,size_of_entries g];exact h
def N6{Q:kd}(b:(d==sysModules)=gU)(hm:s.heap.DictOfH knd d xs)(c:(xs.length:Int)<2^63)(h:Q (.int xs.length (s.toks+1)) {s with toks:=s.toks+1+1}):hJ (hV prog w) A (call (.builtin "len") [.ref d]) Q E s:=by
 refine Calls.call_function_entry kind_len plain_len entry_len (args_len1 _) ?_;unfold i1.«len»;refine ak (m:=oneArg "len" _) (a8 (ak (m:=callSpecial? (.ref d) (Str.ofString "__len__")) (wpAny_callSpecial?_slot (name:=Str.ofString "__len__") hm.typeIs F.slot_dict_len
  (call_meetsIn F.slot_dict_len hm.typeIs F.entry_dict_len (F.args_dict_len_1 _) (tR (knd:=knd) d b) {xs,hm,?_}))))
 show hJ _ _ (holding _ _>>=λz=>_) _ _ {s with toks:=s.toks+1};refine ak (wpAny_holding (a8 (ak (wpAny_letGo ?_))));show hJ _ _ (if((xs.length:Nat):Int)<0 then _ else(if((xs.length:Nat):Int)>=2^63 then _ else _)) _ _ _;rw [if_neg (by lia),if_neg (by lia)];exact ak (wpAny_mkInt (a8 {_,rfl,h}))
def Ea{l:List (κ×hF×hB)}:∀{j:Nat} {p:hF×hB},(l.map (·.1)).Nodup->l[j]?=gF (k,p)->l.eraseIdx j=l.filter λx=>decide (x.1≠k):=by
 induction l with
 |nil=>intro j p _ h;simp at h|cons x r b=>
  intro j p nd h;rw [a7,List.nodup_cons] at nd;cases j with
  |zero=>simp! [List.getElem?_cons_zero,Option.some.injEq] at h;subst h;simp! [List.eraseIdx_cons_zero,ne_eq,fS,not_true,decide_false,en,if_false];refine(List.filter_eq_self.mpr λy c=>?_).symm;exact zzh λe=>nd.1 (e▸List.mem_map_of_mem (f:=(·.1)) c)|succ j=>simp! [List.getElem?_cons_succ] at h;have g:¬x.1=k:=λe=>nd.1 (e▸fm.mpr {(k,p),a0 h,rfl});rw [List.eraseIdx_cons_succ,fS,if_pos (zx6 g),b nd.2 h]
theorem rS{b c:Type}(f:b->c):∀(l:List b) (j:Nat),(l.eraseIdx j).map f=(l.map f).eraseIdx j
 |[],_=>by simp|x::r,0=>by simp|x::r,j+1=>by simp [rS f r j]
def xS{p:hF×hB}{Q:Option DictEntry->hD->Prop}(m:knd.room A)(hk:knd.is s.heap k a)(hm:s.heap.DictOfH knd d xs)(g:atKey xs k=gF p)(hz:xs.length<=ic)
 (r:∀h' e,e.val=p.2->h'.DictOfH knd d (xs.filter λx=>decide (x.1≠k))->h9.SameBut d s.heap h'->Q (gF e) {s with heap:=h',toks:=s.toks+knd.draws k}):hJ (hV prog w) A (i1.Dict.takeOut d (.ref a)) Q E s:=by
 let(o,t,u,c,y,b,h,f,nd):=hm;unfold i1.Dict.takeOut
 try with_reducible refine wpAny_holding ?_
 refine ak (knd.pyHash m hk (ak (wpAny_dictFind_heap (s:={s with toks:=s.toks+knd.draws k}) m hk c b h f nd (λno=>?_) λj q i=>?_)))
 .rw [atKey_none_of_get no] at g;cases g
 .rw [atKey_of_get nd i] at g;cases g;refine ak (wpAny_dictEntries (s:={s with toks:=s.toks+knd.draws k}) c b ?_);rw [entry_at h j,i];refine ak (wpAny_updateDictKeys (hz:=by have e:=size_of_entries h;lia) (s:={s with toks:=s.toks+knd.draws k}) c b (a8 (r _ _ rfl {_,_,u+1,h9.get?_update_self _ c (Obj.isFreed_of_dict (Obj.data_mapDictKeys b _)),
   y.mapDictKeys _,Obj.data_mapDictKeys b _,?_,λx z=>knd.keeps (f x (List.mem_filter.mp z).1) c b (ff ..),nd.sublist (List.filter_sublist.map _)} (ff ..))))
  rw [<-Ea nd i,rS,<-h];obtain⟨l⟩:=t;simp [Array.eraseIdxIfInBounds];split
  .simp
  .rename_i B;rw [List.eraseIdx_of_length_le (zx6 B)]
def tU(d a:hF):MeetsIn prog w (i1.«dict.pop» {[.ref d,.ref a],[]}) (λA R s=>knd.room A.in1/\∃k xs p,knd.is s.heap k a/\s.heap.DictOfH knd d xs/\xs.length<=ic/\atKey xs k=gF p/\
 ∀h',h'.DictOfH knd d (xs.filter λx=>decide (x.1≠k))->h9.SameBut d s.heap h'->R (.ok (.ret p.2)) {s with heap:=h',toks:=s.toks+knd.draws k}):=
 .of_wp λA R s b=>by
  let(g,k,xs,p,hk,hm,i,c,h):=b;let(o,f,y,j,_,m,q,_):=id hm
  have ne:f.isEmpty=gU:=by
   cases xs with
   |nil=>cases c
   |cons x r=>have:=size_of_entries q;rw [cu] at this;rw [Array.isEmpty_eq_false_iff_exists_mem];exact{f[0]'(by lia),Array.getElem_mem _}
  unfold i1.«dict.pop»;refine ak ?_;unfold i1.Dict.keyAndDefault;refine ak (wpAny_notOrdered_dict hm.typeIs ?_);show hJ _ _ (pure (d,hB.ref a,Option.none)) _ _ s;refine a8 ?_;have kp:(keyPart (hB.ref a)).isSome=gU:=rfl;simp! [kp,en,if_false];refine ak (wpAny_dictEntries j m (ak (a8 ?_)));rw [ne];simp! [en,if_false];refine ak (xS g hk hm c i λh' e t u hs=>?_);simp! [Option.isNone_some,en,if_false];exact ak (wpAny_letGo (a8 {e.val,rfl,by rw [t];exact h h' u hs}))
def tQ{es:Array DictEntry}{b:Nat}{Q:kd}(e:(d==sysModules)=gU)(h1:s.heap.get? d=gF o)(f:o.ExactDict)(c:o.data=.dict es b)
 (g:Q (.ref (zz9 s)) {s with heap:=s.heap.push {cls:=.type (zu 21),data:=.fields #[.ref d,.int 0 0,.int es.size 0,.int b 0]}}):hJ (hV prog w) A (pyIter (.ref d)) Q E s:=by
 have T:s.TypeIs (.ref d) "dict":=⟨o,h1,f.1⟩;refine wpAny_pyIter_slot T F.slot_dict_iter (wpAny_call_entry F.slot_dict_iter T F.entry_dict_iter ?_ (F.args_dict_iter_1 _));unfold i1.«dict.__iter__» i1.Dict.dictSlotNone;refine ak (ak (wpAny_notOrdered_dict T ?_));show hJ _ _ (pure (hB.ref d):Sem hB) _ _ s;refine a8 ?_;show hJ _ _ (i1.Dict.showsAll d>>=λZ=>_) _ _ s;unfold i1.Dict.showsAll;rw [if_neg (by rw [e];exact zzf)];refine ak (a8 (ak (wpAny_dictEntries h1 c (ak (wpAny_dictEpoch h1 c ?_)))));refine ak (wpAny_newObj_type (a8 {_,rfl,zu 21,_,{_,dJ _ rfl,rfl},F.slot_dict_keyiterator_next.lookup,?_}));simpa [rawInt] using g
def nE{it:hF}{i c:Nat}{es:Array DictEntry}{Q:Option hB->hD->Prop}(st:s.heap.IsKeyIter it d i es.size c)(h1:s.heap.get? d=gF o)(f:o.data=.dict es c)(h:i<es.size)
 (j:∀h',h'.IsKeyIter it d (i+1) es.size c->h9.SameBut it s.heap h'->Q (gF es[i].key) {s with heap:=h'}):hJ (hV prog w) A (pyNext (.ref it)) Q E s:=by
 let(p,e,m,b):=id st;have own:i1.Dict_items.ownsTuple (zu 21)=gU:=by decide
 unfold pyNext;refine ak (wpAny_attempt (wpAny_callSpecial?_slot (name:=Str.ofString "__next__") st.typeIs F.slot_dict_keyiterator_next (wpAny_call_entry F.slot_dict_keyiterator_next st.typeIs F.entry_dict_keyiterator_next ?_ (F.args_dict_keyiterator_next_1 _))));refine ak (a8 (ak (ak ?_)))
 first|refine ak (wpAny_typeNameOfWhole_keyiter st.typeIs (a8 (ak (wpAny_fieldsOf e b ?_))))|refine ak (wpAny_typeNameOf_keyiter st.typeIs (a8 (ak (wpAny_fieldsOf e b ?_))))
 simp! [own,en,if_false];show hJ _ _ (if(hB.ref d==hB.none)=gS then _ else _:Sem _) _ _ s;rw [if_neg (show¬((hB.ref d==hB.none)=gS) from zzf)];refine ak (a8 (ak (wpAny_dictEntries h1 f ?_)));rw [if_neg (by simp)];refine ak (a8 (ak (wpAny_dictEpoch h1 f ?_)));rw [if_neg (by simp)];refine a8 ?_;simp! [show¬((i:Int)<0) from by lia,if_false,fW,fP h];refine ak ?_
 first|refine ak (wpAny_typeNameOfWhole_keyiter st.typeIs (a8 (ak (wpAny_isOneOf_keyiter st.typeIs ?_))))|refine ak (wpAny_typeNameOf_keyiter st.typeIs (a8 (ak (wpAny_isOneOf_keyiter st.typeIs ?_))))
 show hJ _ _ (setField (.ref it) 1 (rawInt ((i:Int)+1))>>=λZ=>_) _ _ s
 have g:(s.heap.update it (Obj.mapFields (·.setIfInBounds 1 (rawInt ((i:Int)+1))))).IsKeyIter it d (i+1) es.size c:=
  {_,h9.get?_update_self _ e (Obj.isFreed_of_fields (Obj.data_mapFields b _)),(Obj.cls_mapFields ..).trans m,by rw [Obj.data_mapFields b];simp [rawInt]}
 refine ak (wpAny_setField e b (by simp) (ak (wpAny_holding (ak (wpAny_isOneOf_keyiter (s:={s with heap:=s.heap.update it (Obj.mapFields (·.setIfInBounds 1 (rawInt ((i:Int)+1))))}) g.typeIs ?_)))));show hJ _ _ (pure es[i].key:Sem hB) _ _ _;exact a8 (a8 {_,rfl,a8 (j _ g (ff ..))})
def xR{it:hF}{i f:Nat}{es:Array DictEntry}{Q:Option hB->hD->Prop}(h:A.handled=gK)(st:s.heap.IsKeyIter it d i es.size f)(h1:s.heap.get? d=gF o)(g:o.data=.dict es f)(j:es.size<=i)
 (p:∀h',h9.ExtBut it s.heap h'->Q gK {s with heap:=h'}):hJ (hV prog w) A (pyNext (.ref it)) Q E s:=by
 let(q,c,r,e):=id st;have own:i1.Dict_items.ownsTuple (zu 21)=gU:=by decide
 unfold pyNext;refine ak (wpAny_attempt (wpAny_callSpecial?_slot (name:=Str.ofString "__next__") st.typeIs F.slot_dict_keyiterator_next (wpAny_call_entry F.slot_dict_keyiterator_next st.typeIs F.entry_dict_keyiterator_next ?_ (F.args_dict_keyiterator_next_1 _))));refine ak (a8 (ak (ak ?_)))
 first|refine ak (wpAny_typeNameOfWhole_keyiter st.typeIs (a8 (ak (wpAny_fieldsOf c e ?_))))|refine ak (wpAny_typeNameOf_keyiter st.typeIs (a8 (ak (wpAny_fieldsOf c e ?_))))
 simp! [own,en,if_false];show hJ _ _ (if(hB.ref d==hB.none)=gS then _ else _:Sem _) _ _ s;rw [if_neg (show¬((hB.ref d==hB.none)=gS) from zzf)];refine ak (a8 (ak (wpAny_dictEntries h1 g ?_)));rw [if_neg (by simp)];refine ak (a8 (ak (wpAny_dictEpoch h1 g ?_)));rw [if_neg (by simp)];refine a8 ?_;simp! [show¬((i:Int)<0) from by lia,if_false,fW,Array.getElem?_eq_none j];refine ak ?_
 first|refine ak (wpAny_typeNameOfWhole_keyiter st.typeIs (a8 ?_))|refine ak (wpAny_typeNameOf_keyiter st.typeIs (a8 ?_))
 show hJ _ _ (setField (.ref it) 0 .none>>=λZ=>_) _ _ s;refine ak (wpAny_setField c e (by simp) ?_);show hJ _ _ (newExc (.type (zu 52)) []>>=λZ=>_) _ _ _;refine ak ?_;simp! [newExc,newTuple];refine ak (wpAny_newObj_type (ak (m:=firstArgMember _ _) (wpAny_of_eq (a:=hB.none) (by first|rfl|(simp! [firstArgMember];rfl)) (wpAny_newObj_type ?_ (by size_fits)))) (by size_fits));simp! [raiseNew];refine ak (wpAny_handled ?_);rw [show A.in1.handled=gK from h];refine ak (a8 (wpAny_throw ?_));refine ak (wpAny_isInstance (T:=(zu 52)) (b:=gS) {_,dJ _ rfl,rfl} isSubtype_stop ?_);exact a8 (p _ (((ff ..).extBut.push _).push _))
end
end L2
namespace Cw
open L2
abbrev sgn(c:Nat):Bool:=c==35||(48<=c&&c<=57)
abbrev aa3:V->Bool
 |.str z=>decide (1<=z.cps.toList.length)&&decide (z.cps.toList.length<=12)&&z.cps.toList.all sgn|_=>gU
abbrev Sz:V->Nat
 |.str z=>z.cps.toList.length|_=>0
section
variable{K:zz8}
noncomputable abbrev HE(K:zz8)(t n:String)(b:Bool):Prop:=PySem.W.kitOne K (.type t) (.type n)=gF b
def E7{K:zz8}(t:String):HE K t t gS:=by unfold HE PySem.W.kitOne;rw [if_pos (by simp)]
def E6{t n:String}{b:Bool}(a:(hB.type t==hB.type n)=gU)(h1:PySem.W.kitMeta n=gS)(c:(fastBuiltinMro t).map (·.contains (hB.type n))=gF b):HE K t n b:=by unfold HE PySem.W.kitOne;rw [if_neg (by rw [a];exact zzf)];show(if PySem.W.kitMeta n=gS then PySem.W.subIn K (.type t) (.type n) else gK)=gF b;rw [if_pos h1];exact c
end
noncomputable abbrev X1:Str:="#0123456789"
end Cw
namespace L2
open PySem.Spec PyProof.Rows
def KT.drop{a:List (List Key×V)}{xs:List (List Key×hF×hB)}(r:KT H a xs)(k:List Key):KT H (iu a k) (xs.filter λx=>decide (x.1≠k)):=by
 unfold iu
 induction r with
 |nil=>exact .nil|@cons p q ps qs h t b=>
  rw [fS,fS,<-h.1];split
  .exact .cons h b
  .exact b
def KT.len{a:List (List Key×V)}{xs:List (List Key×hF×hB)}(r:KT H a xs):a.length=xs.length:=Paired.length r
section
variable{s:hD}{b:hF}{ay:List (List Key×V)}{k:List Key}{E:kd}
def Nj{Q:kd}(I:zv2 s)(e:Rd H a (.dT ay))(h:∀t s',Inv X ae σ H s'->Q (.int ay.length t) s'):hJ (hV X.prog X.w) A (call (.builtin "len") [.ref a]) Q E s:=by let(z,d,xs,c,f):=lj I.aN e;refine N6 d f (by rw [<-c.len];rw [sizeLine_eq] at z;lia) ?_;rw [<-c.len];exact h _ _ (I.tok _)
def Nk{v:V}{Q:kd}(r:A.units+1<cLine)(I:zv2 s)(e:H a=gF (.dT ay))(t:H b=gF (.tup (k.map kV)))(l:i8 ay k=gF v)
 (h:∀f s',Inv X ae σ (upd H a (.dT (iu ay k))) s'->RelV v f->Q f s'):hJ (hV X.prog X.w) A (call (.builtin "dict.pop") [.ref a,.ref b]) Q E s:=by
 let(z,u,xs,d,i):=D5 I.aN e;let(f,y,B):=kL.some_of (v:=v) (o:=(atKey xs k).map (·.2)) (by rw [<-l];exact d.val k);let(p,C,g):=b0.mp y;refine call_meetsIn PySem.F.slot_dict_pop i.typeIs PySem.F.entry_dict_pop (PySem.F.args_dict_pop_2 _ _) (tU (knd:=tupleKind (aM X.prog X.w)) a b) {tupleKind_room_in1 r,k,xs,p,ib I.aN t,i,by rw [<-d.len];exact z,C,λP D hs=>?_};rw [g];let(q,G,K,j,L,M,N,_,O):=D;refine h f _ (jg I (by rw [e];exact True.intro) hs ⟨q,j⟩ {c6 (D4 ay k) z,u,_,(d.drop k).keeps λc R m=>?_,q,G,K,j,L,M,N,O}) B;rw [ah (gC m e nofun)];exact m
def Inv.freeze(I:zv2 s)(e:H a=gF (.dT ay)):∃o,Inv X ae σ (upd H a (.bC o (.dT ay))) s:=by let(z,h,xs,d,o,i,j,f,m,p,q,r):=(show cx X.prog X.w H s.heap a (.dT ay) from I.aN a _ e);refine{o,jg (h':=s.heap) (t':=s.toks) I (by rw [e];exact True.intro) {rfl,λZ Z=>rfl} ⟨o,f⟩ {f,z,h,xs,?_,o,i,j,f,m,p,q,r}};exact KT.keeps (H:=H) d λc t g=>by rw [ah (gC g e nofun)];exact g
end
abbrev Vg(a:hF)(o:Obj)(c:List (List Key×V)):It:=
 {λi H=>H a=gF (.bC o (.dT c))/\i<c.length,λi H x d=>d=H/\∃b k v,x=.ref b/\c[i]?=gF (k,v)/\H b=gF (.tup (k.map kV)),λi H=>H a=gF (.bC o (.dT c))/\c.length<=i}
def kA{c d:Type}{R:c->d->Prop}{l:List c}{m:List d}(r:Paired R l m):∀{i:Nat} {p:c} {q:d},l[i]?=gF p->m[i]?=gF q->R p q:=by
 induction r with
 |nil=>intro i p q h;simp at h|cons h t e=>
  intro i p q a b;cases i with
  |zero=>simp at a b;subst a b;exact h|succ i=>simp at a b;exact e a b
def D6{c:List (List Key×V)}(x:cx P w H h a (.dT c)):(a==sysModules)=gU/\(c.map (·.1)).Nodup/\∃o es e,h.get? a=gF o/\o.ExactDict/\o.data=.dict es e/\es.size=c.length/\∀(i:Nat) (g:i<es.size),∃b k v,es[i].key=.ref b/\c[i]?=gF (k,v)/\H b=gF (.tup (k.map kV))/\RelV v es[i].val:=by
 let(z,r,xs,d,o,es,e,s,u,y,f,j):=x;have hl:es.size=xs.length:=size_of_entries f;have m:c.length=xs.length:=Paired.length d
 have A:c.map (·.1)=xs.map (·.1):=by
  clear hl m f j z
  induction d with
  |nil=>rfl|cons h t B=>rw [a7,a7,h.1,B]
 refine{r,A▸j,o,es,e,s,u,y,hl.trans m.symm,λi g=>?_};have p:es[i]?=(xs[i]?).map (entryOfKey (tupleKind (aM P w))):=entry_at f i;rw [zzg (show i<xs.length by lia),fP g] at p;have q:=kA d (zzg (show i<c.length by lia)) (zzg (show i<xs.length by lia));rw [zzq p];exact{_,_,_,rfl,zzg (show i<c.length by lia),q.2.1,q.2.2}
def oH{j:St}{s:hD}{c:List (List Key×V)}(I:Inv X ae j H s)(e:H a=gF (.bC o (.dT c))):
 (a==sysModules)=gU/\s.heap.get? a=gF o/\o.ExactDict/\∃es d,o.data=.dict es d/\es.size=c.length/\∀(i:Nat) (h:i<es.size),∃b k v,es[i].key=.ref b/\c[i]?=gF (k,v)/\H b=gF (.tup (k.map kV)):=by
 let(f,ok):=(show cx X.prog X.w H s.heap a (.bC o (.dT c)) from I.aN a _ e);let(m,_,z,es,d,g,p,q,hl,hk):=D6 ok;rw [f] at g;cases g;exact{m,f,p,es,d,q,hl,λi r=>let⟨b,k,v,t,u,y,_⟩:=hk i r;⟨b,k,v,t,u,y⟩}
def C8{K:zz8}{T:hI}{it:hF}{es:Array DictEntry}{G:Nat}{L:List (List Key×V)}(hd:o.data=.dict es G)(hl:es.size=L.length):
 Turn P w K T (Vg a o L) [it] it (λi h=>h.IsKeyIter it a i es.size G) where
 mem:=by simp
 obj:=λi h st b f=>by have e:b=it:=zx6 f;subst e;let(q,e,c,d):=st;exact{q,e,λv z=>by rw [d] at z;cases z}
 keep:=λi h j st k=>st.at λo e=>k it (by simp) o e
 item:=by
  intro X p r hK M i N s O H E I m st t;subst p r hK;let(u,U):=t;let(W,y,Y,Z,A,g,qi,Q):=oH I u;rw [hd] at g;cases g;let(f0,B,f2,C,D,F):=m it (by simp);have R:i<es.size:=by lia
  refine nE st y hd R λj S sb=>?_;let(b,k,v,e1,e2,e3):=Q i R;have I1:Inv X N O H {s with heap:=j}:=I.turned (t':=s.toks) (λb o f e=>(sb.2 b f).trans e) f0 B C D F;let(q,e,c,d):=id S;refine{_,rfl,zV (s:={s with heap:=j}) e c d (by decide) {.ref b,H,I1,?_,⟨rfl,b,k,v,rfl,e2,e3⟩,S,λb f=>(m b f).1}};rw [e1];exact rfl
 done:=by intro X p r hK M i N s O H E I m st t;subst p r hK;let(u,U):=t;let(W,y,Y,Z,A,g,qi,Q):=oH I u;rw [hd] at g;cases g;let(f0,B,f2,C,D,F):=m it (by simp);exact xR (I.ok.hd M) st y hd (by lia) λj eb=>{rfl,I.turned (t':=s.toks) (λb o f e=>eb b o f e) f0 B C D F}
 self:=λ_ _ _ _ _ st h=>wpAny_pyIter_keyiter st h
abbrev Wj(d:TE):TI:=λe H R=>d e H λx b=>∃a o c,x=.ref a/\b a=gF (.bC o (.dT c))/\R (Vg a o c) b
section
variable{o:hI}{apos bO:Pos}{td ty:TE}
def Pn{j l:hI}{g:TE}(hl:PE X l g):PI X j l (Wj g):=by intro k s m H R I h;refine cm (hl k s m H _ I h) λv c f=>?_;let(x,p,d,r,t):=f;let(a,o,C,e,u,q):=t;subst e;cases r;let(w,y,z,D,E,i,A,F):=oH d u;refine tQ w y z i ?_;refine{(zz9 c),[(zz9 c)],_,_,p,rfl,d.kept (t':=c.toks) λb o e=>ar _ e,C8 i A,{_,dJ _ rfl,rfl,rfl},λb B=>?_,q};have e:b=(zz9 c):=zx6 B;subst e;exact d.o5 (a5 _) (d.aN.fresh (a5 _))
abbrev TF(td ty:TE):TE:=λf H Q=>td f H λx g=>∃a,x=.ref a/\DB g a/\ty f g λy c=>∃d k b v,c a=gF (.dT d)/\y=.ref b/\c b=gF (.tup (k.map kV))/\i8 d k=gF v/\Q v (upd c a (.dT (iu d k)))
def Kg(j:X.A.units+1<cLine)(p:PE X o td)(he:PE X e ty)(m:M1 X o "pop" apos e bO):PE X (.Call (.Attribute o "pop" apos) [e] [] bO) (TF td ty):=by intro f s g H Q I h;refine wpAny_Call_method m.base m.Np m.line PySem.F.plainAttrs_dict PySem.F.slot_dict_pop PySem.F.type_dict_pop (cm (p f s g H _ I h) λu q c=>?_);let(x,r,i,t,a,ex,d,w):=c;subst ex;obtain rfl:u=hB.ref a:=t;let(z,B,_):=ES i d;refine{z,B,?_};rw [m.trees];refine Calls.callWith_builtin rfl (Calls.evalArgs_plain (Calls.spliced_cons (cm (he f q g r _ i w) λC P ⟨y,R,D,E,S,k,b,v,G,K,L,l,M⟩=>Calls.spliced_nil ?_)));subst K;cases(show C=hB.ref b from E);exact Nk j D G L l λT U N O=>{v,_,N,O,M}
end
end L2
namespace L2
open PySem.Spec PyProof.Rows PySem.W
abbrev aO{b:Type}(lt:Nat->Nat->Bool):KasT b->b
 |.ret a=>a|.ask i j k=>aO lt (k (lt i j))
def eV{c:Type}(n:Nat)(R:c->Prop):KasT c->Prop
 |.ret a=>R a|.ask i j k=>i<n/\j<n/\∀b,eV n R (k b)
theorem eV.bind{c d:Type}{n:Nat}{R:c->Prop}{e:d->Prop}{f:c->KasT d}(g:∀a,R a->eV n e (f a)):∀(t:KasT c),eV n R t->eV n e (t.bind f)
 |.ret a,h=>g a h|.ask i j k,h=>{h.1,h.2.1,λb=>eV.bind g (k b) (h.2.2 b)}
theorem eV.run{b:Type}{n:Nat}{R:b->Prop}(lt:Nat->Nat->Bool):∀(t:KasT b),eV n R t->R (aO lt t)
 |.ret a,h=>h|.ask i j k,h=>eV.run lt (k (lt i j)) (h.2.2 _)
theorem E2{b:Type}{n:Nat}{R:b->Prop}{cmp:Nat->Nat->(Bool->hD->Prop)->hD->Prop}{lt:Nat->Nat->Bool}{Q:b->hD->Prop}{s:hD}
 (c:∀i j C,i<n->j<n->C (lt i j) s->cmp i j C s):∀(t:KasT b),eV n R t->Q (aO lt t) s->t.kasWp cmp Q s
 |.ret a,_,h=>h|.ask i j k,a,h=>c i j _ a.1 a.2.1 (E2 c (k (lt i j)) (a.2.2 _) h)
noncomputable abbrev Pm(n:Nat)(p:Array Nat):Prop:=p.toList.Perm (List.range n)
def Pm.lt{n:Nat}{p:Array Nat}(h:Pm n p)(a:0<n)(i:Nat):p.getD i 0<n:=by
 rw [Array.getD_eq_getD_getElem?];cases e:p[i]? with
 |none=>exact a|some x=>
  have:x∈p.toList:=by rw [Array.mem_toList_iff];exact Array.mem_of_getElem? e
  exact List.mem_range.mp (h.mem_iff.mp this)
def Pm.rev{n:Nat}{p:Array Nat}(h:Pm n p)(i j:Nat):Pm n (kas_rev p i j):=(mirror_perm p i j _).toList.trans h
def Pm.Yh{n:Nat}{p:Array Nat}(h:Pm n p)(i j:Nat):Pm n (bubble p i j):=(bubble_perm p i j).toList.trans h
section
variable{n:Nat}(h0:0<n)
include h0
theorem om{p:Array Nat}(h:Pm n p):∀f m,eV n (λZ=>True) (kas_asc p f m)
 |0,m=>trivial|f+1,m=>{h.lt h0 _,h.lt h0 _,λb=>by dsimp only;split;exact trivial;exact om h f (m+1)}
theorem jd:∀f (p:Array Nat) m q,Pm n p->eV n (λr=>Pm n r.1) (kas_desc f p m q)
 |0,p,m,q,h=>h|f+1,p,m,q,h=>{h.lt h0 _,h.lt h0 _,λb=>by
  cases b with
  |true=>
   dsimp only;rw [if_pos rfl];split
   .exact jd f _ _ _ (h.rev _ _)
   .exact jd f _ _ _ h
  |false=>dsimp only;rw [if_neg (by simp)];exact{h.lt h0 _,h.lt h0 _,λb=>by dsimp only;split;exact h;exact jd f _ _ _ h}}
def qY{p:Array Nat}(h:Pm n p)(m r:Nat):eV n (λr=>Pm n r.2) (kas_tail3 m r p):=by unfold kas_tail3;refine eV.bind (R:=λZ=>True) (λa Z=>?_) _ (om h0 (h.rev _ _) _ _);exact h.rev 0 m
def qW{p:Array Nat}(h:Pm n p)(m r:Nat):eV n (λr=>Pm n r.2) (kas_descPart m r p):=eV.bind (λa b=>by
 split
 .exact qY h0 (Pm.rev b _ _) _ _
 .exact qY h0 b _ _) _ (jd h0 _ _ _ _ h)
def xB{p:Array Nat}(h:Pm n p)(r:Nat):eV n (λr=>Pm n r.2) (kas_count r p):=eV.bind (λa Z=>by
 split
 .exact h
 .split
  .exact{h.lt h0 _,h.lt h0 _,λb=>by dsimp only;split;exact h;exact qW h0 (h.rev _ _) _ _}
  .exact qW h0 h _ _) _ (om h0 h _ _)
theorem j1{p:Array Nat}(h:Pm n p)(k:Nat):∀f l r,eV n (λZ=>True) (kas_place p k f l r)
 |0,l,r=>trivial|f+1,l,r=>by
  unfold kas_place;split
  .exact trivial
  .exact{h.lt h0 _,h.lt h0 _,λb=>by dsimp only;split;exact j1 h k f _ _;exact j1 h k f _ _}
theorem u0:∀f (p:Array Nat) k,Pm n p->eV n (Pm n) (kas_bin f p k)
 |0,p,k,h=>h|f+1,p,k,h=>eV.bind (λl Z=>u0 f _ _ (h.Yh _ _)) _ (j1 h0 h k _ _ _)
def qX:eV n (Pm n) (kas_sort n):=eV.bind (λa b=>by
 split
 .exact u0 h0 _ _ _ b
 .exact b) _ (xB h0 (List.Perm.refl _) n)
end
abbrev mK(n:Nat)(lt:Nat->Nat->Bool):List Nat:=(aO lt (kas_sort n)).toList
def i5{n:Nat}(h:0<n)(lt:Nat->Nat->Bool):(mK n lt).Perm (List.range n):=eV.run lt _ (qX h)
section
variable{E:kd}{s:hD}{vs:List hB}
def pW{S:hF}{c:Nat}{xs ys:Array hB}(e:h.get? S=gF (kc "list" xs c)):∃b,(h.update S (Obj.mapSeq λZ=>ys)).get? S=gF (kc "list" ys b):={_,get?_update_seq e λZ=>ys}
def og(h:h9)(vs:List hB)(nss:ku):Prop:=Paired (λv c=>∃b o d n,v=.ref b/\h.get? b=gF o/\o.cls=.type "tuple"/\o.data=.seq d n/\Vals (c.map V.int) d.toList/\c≠[]) vs nss
theorem og.keep(t:og h vs nss)(k:∀b o,h.get? b=gF o->o.cls=.type "tuple"->h'.get? b=gF o):og h' vs nss:=
 Paired.Cm t λZ Z q=>by let(b,o,d,n,e,f,c,g,i,j):=q;exact{b,o,d,n,e,k b o f c,c,g,i,j}
def ya{b:Bool}{Q:Bool->hD->Prop}(ns c:List Int)(xs ys:List hB)(i:Nat)(f:Vals (ns.map V.int) xs)(d:Vals (c.map V.int) ys)(h:Q (HT.lexLt ns c) s):KatLex prog w A b (decide (xs.length<ys.length)) Q (xs.zip ys) i s:=by
 induction ns generalizing c xs ys i with
 |nil=>
  cases f;cases c with
  |nil=>cases d;simpa [KatLex,HT.qw] using h
  |cons m c=>cases d;simpa [KatLex,HT.lexLt] using h
 |cons n ns g=>
  cases f with
  |cons j t1=>
   cases c with
   |nil=>cases d;simpa [KatLex,HT.lexLt] using h
   |cons m c=>
    cases d with
    |cons k o=>
     let(t,rfl):=j;let(p,rfl):=k;rw [HT.x9] at h;refine kat_cons (wpAny_eqBool_int ?_);by_cases e:n=m
     .subst e;rw [if_pos rfl] at h;rw [show(n==n)=gS from by simp];refine kat_yes ?_;have:=g c _ _ (i+1) t1 o h;simp! [cu,Nat.add_lt_add_iff_right];exact this
     .rw [if_neg e] at h;rw [show(n==m)=gU from zx6 e];refine kat_no ?_;cases q:(b&&i==0) with
      |true=>exact oneLt_int h|false=>exact kat_one _ _ (PyProof.Rows.lt_int h)
def QV(prog:hL)(w:hQ)(A:hW)(E:kd)(vs:List hB)(lt:Nat->Nat->Bool)(s:hD):Prop:=∃b:SortKind,(∀Q:SortKind->hD->Prop,Q b s->hJ (hV prog w) A (keyKind' vs.toArray) Q E s)/\∀i j (C:Bool->hD->Prop),i<vs.length->j<vs.length->C (lt i j) s->kas_ask prog w A b vs i j C s
set_option tactic.hygienic true in
def Gq(k:og s.heap vs nss)(M:2<=vs.length):QV prog w A E vs (λi j=>HT.lexLt (nss.getD i []) (nss.getD j [])) s:=by
 have g:vs.length=nss.length:=Paired.length k
 have N:∃fs,KatTups s.heap vs fs/\fs.length=vs.length/\∀v∈fs,∃i t,v=.int i t:=by
  clear g M
  induction k with
  |nil=>exact{[],trivial,rfl,λv c=>nomatch c}|cons h t O=>
   let(fs,P,R,S):=O;let(b,o,p,n,rfl,u,I,y,d,U):=h
   rename_i V _ _;cases V with
   |nil=>exact absurd rfl U|cons m ms=>
    rw [a7] at d;cases e:p.toList with
    |nil=>rw [e] at d;cases d
    |cons f r=>
     rw [e] at d;cases d with
     |cons W r2=>
      let(z,rfl):=W;have f0:p[0]?=gF (.int m z):=by rw [<-Array.getElem?_toList,e];rfl
      exact{.int m z::fs,.cons u I y f0 P,by simp [R],λv c=>by
       rcases ey.mp c with rfl|c
       .exact⟨m,z,rfl⟩
       .exact S v c}
 let(fs,B,X,D):=N;refine{_,λQ q=>kat_kind (T:=.type "int") B (by lia) (λv c=>?_) rfl q,λi j C e K hC=>?_}
 .let(i,t,rfl):=D v c;exact .now
 .unfold kas_ask;let(b,o,p,n,Y,u,I,y,d,_):=kA k (zzg e) (zzg (show i<nss.length by lia));let(Z,o',L,n',F,Nu,RB,G,H,_):=kA k (zzg K) (zzg (show j<nss.length by lia));have v1:vs.getD i hB.none=.ref b:=by simp [e,Y]
  have v2:vs.getD j hB.none=.ref Z:=by simp [K,F]
  have n1:nss.getD i []=nss[i]'(by lia):=by simp [show i<nss.length by lia]
  have n2:nss.getD j []=nss[j]'(by lia):=by simp [show j<nss.length by lia]
  rw [v1,v2];dsimp only at hC;rw [n1,n2] at hC;refine kat_lt u y Nu G ?_;have:=ya (prog:=prog) (w:=w) (A:=A) (b:=(hB.type "int" !=hB.type "tuple")) _ _ _ _ 0 d H hC;simpa using this
def C3{n:Nat}{P:PySem.Fin->hD->Prop}{lt:Nat->Nat->Bool}(k:s.heap.get? a=gF (kc "list" vs.toArray n))(C:2<=vs.length)(D:vs.length<64)(rd:∀h',(∀b o,b≠a->s.heap.get? b=gF o->h'.get? b=gF o)->QV prog w A E vs lt {s with heap:=h'})
 (h:∀h' c,(∀b o,b≠a->s.heap.get? b=gF o->h'.get? b=gF o)->h'.get? a=gF (kc "list" ((mK vs.length lt).map λi=>vs.getD i hB.none).toArray c)->P (.done (.ret .none)) {s with heap:=h'}):
 hJ (hV prog w) A (i1.«list.sort» {[.ref a],[]}) P E s:=by
 have F:=ff s.heap a (Obj.mapSeq λZ=>(#[]:Array hB));obtain⟨m,d⟩:∃m,(s.heap.update a (Obj.mapSeq λZ=>(#[]:Array hB))).get? a=gF (kc "list" #[] m):={_,get?_update_seq k λZ=>#[]};generalize q:(((s.heap.update a (Obj.mapSeq λZ=>(#[]:Array hB))).push (kc "tuple" vs.toArray 0)).push (kc "list" #[] 0))=H1;have z:∀b o,b≠a->s.heap.get? b=gF o->H1.get? b=gF o:=λb o g e=>by rw [<-q];exact ar _ (ar _ ((F.2 b g).trans e))
 have f:H1.get? a=gF (kc "list" #[] m):=by rw [<-q];exact ar _ (ar _ d)
 let(S,G,r):=rd H1 z;rw [list_sort_plain];refine ak (listItems_at k rfl (ak (listUpdate_at k rfl ?_ (by rw [aT,sizeLine_eq];lia) (Nat.zero_le _))));refine ak (seqEpoch_at d rfl (ak (wpAny_newTuple ?_ (by show vs.length<=_;rw [sizeLine_eq];lia))));refine ak (wpAny_newList ?_ (Nat.zero_le _));refine wpAny_holding ?_;show hJ (hV prog w) A _ P E {s with heap:=((s.heap.update a (Obj.mapSeq λZ=>(#[]:Array hB))).push (kc "tuple" vs.toArray 0)).push (kc "list" #[] 0)};rw [q];dsimp only;have B:¬vs.toArray.size<2:=by rw [aT];lia
 rw [if_neg B,if_neg B];refine ak (G _ ?_);refine ak (wpAny_mono (kat_run (Q:=λj t=>∃p:Array Nat,p.size=vs.length/\arrOf j=p.map (kas_item (vs.toArray.zip vs.toArray))/\failedOf j=gK/\p=aO lt (kas_sort vs.length)/\t={s with heap:=H1})
  rfl C D (λH j t f I K L=>⟨H,f,I,K,L⟩) (E2 r _ (qX (by lia)) ⟨rfl,rfl⟩)) ?_ λZ Z e=>e)
 rintro ⟨⟨⟩,j⟩ t ⟨p,M,u,hf,rfl,rfl⟩
 dsimp only;have N:=kat_snds rfl u;rw [N];have O:=ff H1 a (Obj.mapSeq λZ=>List.toArray ((aO lt (kas_sort vs.length)).toList.map λi=>vs.getD i hB.none));let(R,y):=pW (ys:=List.toArray ((aO lt (kas_sort vs.length)).toList.map λi=>vs.getD i hB.none)) f;refine ak (seqEpoch_at f rfl (ak (listUpdate_at f rfl ?_ (Nat.zero_le _) (by show(List.toArray _).size<=_;rw [aT,zzl,el,M,sizeLine_eq];lia))));rw [hf];simp! [bne_self_eq_false,en,if_false];exact a8 (h _ R (λb o g e=>(O.2 b g).trans (z b o g e)) y)
end
end L2
namespace L2
open PySem.Spec PyProof.Rows
def BF:typeLookup (.type "list") "keys"=pure gK:=by rw [typeLookup_type,builtinLookup_eq_fast];kernel_rfl
def vy:entryFor table "dict.update.loop"=gF i1.«dict.update.loop»:=entryFor_of_tree (by kernel_rfl)
def lh:plainId "dict.update.loop"=gS:=by decide+kernel
section
variable{E:kd}{s:hD}{xs:Array hB}{k:Nat}
def II{Q:Option hB->hD->Prop}(i:s.heap.get? a=gF o)(j:o.cls=.type "list")(m:o.data=.seq xs k)(hd:o.dict=gK)(r:A.handled=gK)
 (h:∀h' tk,(∀b o,s.heap.get? b=gF o->h'.get? b=gF o)->Q gK {s with heap:=h',toks:=tk}):hJ (hV prog w) A (getAttr? (.ref a) "keys") Q E s:=by
 let(c,aY,t,u):=o;simp only at j m hd;subst j m hd;let(y,g,d,tk,os):=s;have p:∀f,(⟨y,g,d,f,os⟩:hD).TypeIs (.ref a) "list":=λZ=>{_,i,rfl};have z:=sub_AttributeError;have B:=F.slot_list_getattribute.lookup;have C:=F.slot_list_getattribute.bind (.ref a);have D:=am_list_getattr_none;unfold getAttr? getAttrBy? getAttrBy
 repeat (any_goals (first|assumption|exact p _|((with_reducible show hJ _ _ (call (hB.builtin "list.__getattribute__") _ _) _ _ _);refine call_meets F.slot_list_getattribute (p _) am_entry_list_getattribute (F.args_list_getattribute_2 _ _) (meets_getattribute_miss_list a xs k u "keys" _ BF (by decide) (by size_fits)) ⟨i,r,λh' f e q=>?_⟩)|wp_step))
 let(G,H,I):=q.there;show hJ _ _ (getattributeRaised _ _ _ _ _ _ _) _ _ _;unfold getattributeRaised
 repeat (any_goals (first|assumption|wp_step))
 exact h h' f q.keeps
end
abbrev fD(c more:List (List Key×V)):List (List Key×V):=more.foldl (λa b=>putK a b.1 b.2) c
noncomputable abbrev jv(K:zz8)(H:Hp)(vs:List V)(c:List (List Key×V)):Prop:=Paired (λv a=>∃q b,v=V.ref q/\gf K H q [.ref b,a.2]/\H b=gF (.tup (a.1.map kV))) vs c
section
variable{l d it:hF}{E:kd}{R:Result->hD->Prop}
def Nl{s:hD}{b:hF}{f:List (List Key×V)}{k:List Key}{r:hB}{Q:Unit->hD->Prop}(o:A.units<cLine)(I:zv2 s)(e:H a=gF (.dT f))(i:H b=gF (.tup (k.map kV)))(l:f.length<ic)(p:RelV v r)
 (h:∀h' t,h9.SameBut a s.heap h'->Inv X ae σ (upd H a (.dT (putK f k v))) {s with heap:=h',toks:=t}->Q () {s with heap:=h',toks:=t}):hJ (hV X.prog X.w) A (dictSet a (.ref b) r) Q E s:=by
 let(z,u,xs,g,y):=D5 I.aN e;have B:xs.length<=sizeLine:=by rw [<-g.len];exact z
 have hl:(putK f k v).length<=sizeLine:=by have:=fQ f k v;lia
 refine wpAny_dictSet_heap (hsz:=B) (knd:=tupleKind (aM X.prog X.w)) o (ib I.aN i) y λh' C hs=>h h' _ hs ?_;let(q,D,F,j,G,K,L,_,M):=C;refine jg I (by rw [e];exact True.intro) hs ⟨q,j⟩ {hl,u,_,(g.put k i p).keeps λc N m=>?_,q,D,F,j,G,K,L,M};rw [ah (gC m e nofun)];exact m
def gf.iS{K:zz8}{f:Hp}{xs:List V}(h:gf K H a xs)(e:∀b,b≠d->f b=H b){c:List (List Key×V)}(hd:H d=gF (.dT c)):gf K f a xs:=by
 rcases h with(h|⟨o,h⟩)|h
 .exact .inl (.inl (by rw [e a (gC h hd nofun)];exact h))
 .exact .inl (.inr {o,by rw [e a (gC h hd nofun)];exact h})
 .exact .inr h
def gR.iS{K:zz8}{f:Hp}{xs:List V}(h:gR K H a xs)(e:∀b,b≠d->f b=H b){c:List (List Key×V)}(hd:H d=gF (.dT c)):gR K f a xs:=by
 rcases h with(h|⟨o,h⟩)|h
 .exact .inl (.inl (by rw [e a (gC h hd nofun)];exact h))
 .exact .inl (.inr {o,by rw [e a (gC h hd nofun)];exact h})
 .exact .inr h
def jv.iS{K:zz8}{c:Hp}{f:List (List Key×V)}(e:∀b,b≠d->c b=H b){a:List (List Key×V)}(hd:H d=gF (.dT a)):∀{vs:List V},jv K H vs f->jv K c vs f:=λh=>Paired.Cm h λZ Z ⟨q,b,i,j,g⟩=>{q,b,i,gf.iS j e hd,by rw [e b (gC g hd nofun)];exact g}
def IJ(hu:A.units+1<cLine)(hh:A.handled=gK):∀(rest:List (List Key×V)) (i:Nat) (j:Int) (a:List (List Key×V)) (H:Hp) (s:hD),Inv X ae σ H s->gh X ae H it->s.heap.IsListIter it l i->gR X.K H l vs->jv X.K H (vs.drop i) rest->H d=gF (.dT a)->a.length+rest.length<=ic->
 (∀s' g,Inv X ae σ g s'->g d=gF (.dT (fD a rest))->(∀b,b≠d->g b=H b)->R (.ok (.ret .none)) s')->codeAny (hV X.prog X.w) A (.builtin "dict.update.loop" {[.ref d,.ref it,rawInt j,.none],[]}) R s:=by
 intro rest
 induction rest with
 |nil=>
  intro i j a H s I O st hl pr hd P k;let(aw,Q,p,_):=I.list hl;let(f0,y,f2,B,C,D):=O
  have hi:vs.length<=i:=List.drop_eq_nil_iff.mp (by cases h:vs.drop i with|nil=>rfl|cons x r=>rw [h] at pr;cases pr);have hle:=Q.length;refine codeAny_builtin vy ?_;rw [gr lh _];show hJ _ A.in1 (pyNext (.ref it)>>=λz=>_) _ _ s;refine ak (wpAny_pyNext_list_end hh st p.isList (by simp;lia) λF eb=>?_);show hJ _ _ (i1.Dict.addKeywords d []>>=λ_=>_) _ _ _;exact ak (a8 (a8 (k _ H (I.turned (t':=s.toks) (λb o m e=>eb b o m e) f0 y B C D) hd λ_ _=>rfl)))
 |cons f rest ih=>
  intro i j a H s I O st hl pr hd P k;let(aw,Q,p,_):=I.list hl;let(f0,y,f2,B,C,D):=id O
  obtain⟨v,G,hv,⟨q,b,rfl,hq,m⟩,S⟩:∃v G,vs.drop i=v::G/\(∃q b,v=V.ref q/\gf X.K H q [.ref b,f.2]/\H b=gF (.tup (f.1.map kV)))/\jv X.K H G rest:=by
   cases h:vs.drop i with
   |nil=>rw [h] at pr;cases pr
   |cons x r=>rw [h] at pr;cases pr with|cons T L=>exact⟨x,r,rfl,T,L⟩
  have U:vs[i]?=gF (.ref q):=by rw [<-List.head?_drop,hv];rfl
  have W:vs.drop (i+1)=G:=by rw [<-List.drop_drop,hv];rfl
  let(u,LX,ru):=Q.get U;cases(show u=hB.ref q from ru);refine codeAny_builtin vy ?_;rw [gr lh _];show hJ _ A.in1 (pyNext (.ref it)>>=λz=>_) _ _ s;refine ak (wpAny_pyNext_list_item st p.isList (x:=hB.ref q) (zx6 LX) λF iz sb=>?_);have I1:Inv X ae σ H {s with heap:=F}:=I.turned (t':=s.toks) (λb o m e=>(sb.2 b m).trans e) f0 y B C D;let(gz,Y,p2,_):=I1.tuple hq;let(o2,g1,g2,n2,g3):=id p2
  obtain⟨M,t,rfl,Z,ru2⟩:∃M t,gz=[M,t]/\RelV (.ref b) M/\RelV f.2 t:=by cases Y with|cons T L=>cases L with|cons h3 h4=>cases h4;exact{_,_,rfl,T,h3}
  cases(show M=hB.ref b from Z);show hJ _ A.in1 (holding [hB.ref q] _>>=λz=>_) _ _ {s with heap:=F};refine ak (wpAny_holding (ak (wpAny_tryCatch ?_)));unfold i1.Dict.pairItems;refine ak (wpAny_typeOf (s:={s with heap:=F}) ⟨o2,g1,g2⟩ ?_);rw [if_pos (by decide)];refine ak (wpAny_seqItems g1 g3 (a8 ?_));show hJ _ A.in1 (holding [hB.ref b,t] (dictSet d (.ref b) t)) _ _ _;refine wpAny_holding (Nl hu I1 hd m (by rw [cu] at P;lia) ru2 λL t2 sb2 I2=>?_);have iS:∀c,c≠d->upd H d (.dT (putK a f.1 f.2)) c=H c:=λc N=>ah N;have nd:it≠d:=λz=>by rw [z,hd] at f0;cases f0
  refine a8 {plainId_quiet lh _,ih (i+1) (j+1) _ _ _ I2 {by rw [iS _ nd];exact f0,y,f2,B,C,D} (iz.at λo e=>(sb2.2 it nd).trans e) (gR.iS hl iS hd) (jv.iS iS hd (by rw [W];exact S)) av ?_ λs' g J1 J2 J3=>k s' g J1 J2 λc N=>(J3 c N).trans (iS c N)};have:=fQ a f.1 f.2;rw [cu] at P;lia
def oB(m:X.calm=gS)(hu:X.A.units+3<cLine):cG X (.type "dict") (λxs H Q=>∃l vs i,xs=[V.ref l]/\gR X.K H l vs/\jv X.K H vs i/\∀p,H p=gK->Q (.ref p) (upd H p (.dT (fD [] i)))):=by
 intro ae s σ H xs us Q I r h;let(l,vs,i,rfl,hl,pr,q):=h;let(u,rfl,N):=vals1 r;cases N;have y:X.A.handled=gK:=I.ok.hd m
 refine callType_codes (Q₁:=λobj f=>obj=.ref (zz9 s)/\f={s with heap:=s.heap.push {cls:=.type "dict",data:=.dict #[]}}) F.kt_called_dict (F.kt_typeCall_dict_1 _) F.entry_dict_init (kt_code_dict_new _ ⟨rfl,rfl⟩) ?_
 rintro obj f ⟨rfl,rfl⟩
 have z:H (zz9 s)=gK:=I.aN.fresh (a5 _);have B:=I.laid (a:=(zz9 s)) (o:=.dT []) (t':=s.toks) (λ_ _ q=>ar _ q) (a5 _) (vA s.heap I.big);have T:({s.heap.push {cls:=.type "dict",data:=.dict #[]},s.gens,s.drawn,s.toks,s.os}:hD).TypeIs (.ref (zz9 s)) "dict":={_,dJ _ rfl,rfl};have iS:∀c,c≠(zz9 s)->upd H (zz9 s) (.dT []) c=H c:=λc m=>ah m;have same:aB H (upd H (zz9 s) (.dT [])):=bD z;have t:gR X.K (upd H (zz9 s) (.dT [])) l vs:=same.seq hl;let(aw,rv,p,hz):=B.list t;let(o,n,C,D,O,P):=id p;refine{T,F.args_dict_init_2 _ _,?_};unfold i1.«dict.__init__» i1.Dict.selfAndRest;refine ak (ak (wpAny_notOrdered_dict T ?_));show hJ _ _ (pure ((zz9 s),[hB.ref l]):Sem _) _ _ _;refine a8 ?_;show hJ _ _ (i1.Dict.updateFrom "dict.__init__" (zz9 s) (.ref l) [] .none) _ _ _;unfold i1.Dict.updateFrom;refine ak (wpAny_typeOf ⟨o,C,D⟩ ?_);rw [if_pos (by decide)];refine ak (II C D P O y λh' G hk=>?_);rw [if_pos (by decide)];refine ak (wpAny_rule ?_);have j:=B.kept (h':=h') (t':=G) hk;let(L,S,U,_):=j.list t;refine ak (wpAny_pyIter_list U.isList ?_);have W:=j.kept (h':=h'.push {cls:=.type (zu 22),data:=.fields #[.ref l,.int 0 0]}) (t':=G) λb o e=>ar _ e;have w:(h'.push {cls:=.type (zu 22),data:=.fields #[.ref l,.int 0 0]}).IsListIter h'.objs.size l 0:={_,dJ _ rfl,rfl,rfl};have Y:gh X ae (upd H (zz9 s) (.dT [])) h'.objs.size:=j.o5 (a5 _) (j.aN.fresh (a5 _));refine a8 {plainId_quiet lh _,IJ (X:=X) (A:=X.A.in1) (ae:=ae) (σ:=σ) (l:=l) (d:=(zz9 s)) (it:=h'.objs.size) (vs:=vs) (by show X.A.units+1+1<cLine;lia) (show X.A.in1.handled=gK from y) i 0 0 [] _ _ W Y w t ?_ av ?_ λs' Z M J2 J3=>{rfl,?_}}
 .exact Paired.Cm pr λ_ _ ⟨q,b,e1,g,e3⟩=>{q,b,e1,(show gf X.K _ q _ from by
   rcases g with(g|⟨o,g⟩)|g
   .exact .inl (.inl (same _ _ g))
   .exact .inl (.inr {o,same _ _ g})
   .exact .inr g),same _ _ e3}
 .have:=Paired.length pr;rw [List.length_nil];lia
 .have e:Z=upd H (zz9 s) (.dT (fD [] i)):=by
   funext b
   by_cases k:b=(zz9 s)
   .rw [k,av];exact J2
   .rw [ah k,J3 b k,ah k]
  rw [e] at M;exact{.ref (zz9 s),_,M,rfl,q _ z}
def xG(i:X.calm=gS)(j:X.A.units+3<cLine):cG X (.type "dict") (λxs H Q=>∃l vs a,xs=[V.ref l]/\gR X.K H l vs/\jv X.K H vs a/\∀p o,H p=gK->Q (.ref p) (upd H p (.bC o (.dT (fD [] a))))):=by
 intro ae s σ H xs k Q I r h;let(l,vs,a,rfl,hl,pr,q):=h;refine wpAny_mono (oB i j ae s σ H _ k (λv g=>∃p,v=.ref p/\H p=gK/\g=upd H p (.dT (fD [] a))) I r {l,vs,a,rfl,hl,pr,λp f=>⟨p,rfl,f,rfl⟩}) ?_ λZ Z z=>z
 rintro u w ⟨v,g,m,t,p,rfl,f,rfl⟩
 let(o,J):=m.freeze av
 have e:upd (upd H p (.dT (fD [] a))) p (.bC o (.dT (fD [] a)))=upd H p (.bC o (.dT (fD [] a))):=by
  funext b
  by_cases c:b=p
  .rw [c,av,av]
  .rw [ah c,ah c,ah c]
 rw [e] at J;exact{_,_,J,t,q p o f}
end
open PySem.W (hideAll hideAll_get of_hideAll funFrames_hide)
structure Dy(P:hL)(w:hQ)(outer:List Env)(H:Hp)(s:hD)(E:XK)(a C t:hF)(vs:List hB)(H':Hp)(B:h9)(s':hD):Prop where
 os:s'.os=s.os
 bare:AllBare s'.gens
 aN:fe P w H' B
 BQ:h9.FlyingW B outer a (.ref C) (.ref t) s'.heap
 tn:B.get? t=gK
 tup:s'.heap.TupAt t vs
 eQ:∀b o,s.heap.get? b=gF o->H b=gK->b∉fh outer->B.get? b=gF o
 du:∀b o,s.heap.get? b=gF o->b∉fh outer->∃o',B.get? b=gF o'
 un:Un (fh outer) [] H H' s.heap s'.heap
 ends:E (.ref C) (gF a) H'
abbrev eP(P:hL)(w:hQ):Dh:=λouter H s E e b=>∃a C t c d B,e=.ref a/\Dy P w outer H s E a C t c d B b
section
variable{K:zz8}{scope:hZ}{f:hF}{cd:hB}{s0:hD}{E:XK}
def mI{a:St}{s:hD}(I:Inv X ae a H s){b:hF}(hl:X.env.locals=X.s₀.heap.objs.size)(q:X.s₀.heap.get? b=gF o)(c:b∉X.fs):b∉fh X.stack:=λz=>by
 rcases ey.mp (I.kI b z) with e|e
 .rw [hl] at e;exact absurd (cB q) (by rw [e];exact Nat.lt_irrefl _)
 .exact c e
def S1:Passes (eP P w) (zv0 E) E:=by
 rintro R σ H s e S I ⟨a,C,t,p,r,B,rfl,F⟩
 have nx:∀b:hF,b∉(zv0 E).ex:=λb z=>nomatch (show b∈([]:List hF) from z);have eQ:∀b o,s0.heap.get? b=gF o->H0 b=gK->b∉fh outer->B.get? b=gF o:=λb o q n c=>F.eQ b o (I.base.keep b o q n c (nx b)) (I.base.free b o q n (nx b)) (mI I rfl q c);have du:∀b o,s0.heap.get? b=gF o->b∉fh outer->∃g,B.get? b=gF g:=λb o q c=>by let(y,d):=I.base.there b o q (nx b);exact F.du b y d (mI I rfl q c)
 refine wpAny_leaves_onW I.ok.frames rfl F.BQ λD j k=>{a,C,t,p,r,B,rfl,?_};have slot:∀b o,s0.heap.get? b=gF o->H0 b=gK->b∈fh outer->∃h,D.get? b=gF {o with slots:=h}:=λb o q n c=>by let(h,d):=I.base.slot b o q n c (nx b);let(G,i):=F.un.any d (I.base.free b o q n (nx b)) nofun;let(_,g,m,hd):=F.BQ.2.2.1.mem (b:=b) (fw.mpr (let⟨v,L,M⟩:=fw.mp c;{v,.tail _ L,M}));rw [i] at m;cases m;let(O,Q):=k b _ i hd;exact⟨O,Q⟩
 refine{F.os.trans I.os,F.bare,F.aN,j,F.tn,F.tup.of_slots k,eQ,du,{λb o q n c Z=>j.1 _ _ (eQ b o q n c),λb o q n c Z=>slot b o q n c,λb o q n Z=>?_,λb o q Z=>?_,λb xs q=>F.un.iG _ _ (I.base.iG _ _ q),λb o u q=>F.un.fX _ _ _ (I.base.fX _ _ _ q),λb ps q=>?_},F.ends}
 .let(h,d):=I.base.any q n (nx b);exact F.un.free b _ d (I.base.free b o q n (nx b)) nofun
 .by_cases c:b∈fh outer
  .let(h,d):=slot b o q (I.ok.xO b c) c;exact{_,d}
  .let(g,d):=du b o q c;exact{g,j.1 _ _ d}
 .let(m1,d):=I.base.ip b ps q;let(m2,i):=F.un.ip b _ d;exact{m1++m2,by rw [<-Array.append_assoc];exact i}
def Py{y:St}{s:hD}{h1:h9}{e C:hF}(I:Inv (zv0 E) ae y H s)
 (p:h9.MadeExcOf s.heap h1 e (.ref C) us) (B:E (.ref C) (gF e) H):(zv0 E).xe (.ref e) {s with heap:=h1}:=by
 have nx:∀b:hF,b∉(zv0 E).ex:=λb z=>nomatch (show b∈([]:List hF) from z);have D:∀env∈(zv0 E).stack,∀b,env.frame=gF b->b∈fh (zv0 E).stack:=λenv F b a=>fw.mpr ⟨env,F,a⟩;refine wpAny_leaves_madeW (h:=s.heap) I.ok.frames rfl (λb o q=>of_hideAll _ q) (funFrames_hide I.stack D) p λG t j L M O=>{e,C,t,us,H,hideAll s.heap (fh (zv0 E).stack),rfl,?_};have eQ:∀b o,s0.heap.get? b=gF o->H0 b=gK->b∉fh outer->(hideAll s.heap (fh (zv0 E).stack)).get? b=gF o:=λb o q n a=>hideAll_get _ (I.base.keep b o q n a (nx b)) (mI I rfl q a);have du:∀b o,s0.heap.get? b=gF o->b∉fh outer->∃g,(hideAll s.heap (fh (zv0 E).stack)).get? b=gF g:=λb o q a=>by let(Q,d):=I.base.there b o q (nx b);exact{Q,hideAll_get _ d (mI I rfl q a)}
 have slot:∀b o,s0.heap.get? b=gF o->H0 b=gK->b∈fh outer->∃k,G.get? b=gF {o with slots:=k}:=λb o q n a=>by let(k,d):=I.base.slot b o q n a (nx b);let(_,g,u,hd):=I.stack.mem (b:=b) (fw.mpr (let⟨v,h1,R⟩:=fw.mp a;{v,.tail _ h1,R}));rw [d] at u;cases u;let(S,T):=O b _ (p.keeps _ _ d) hd;exact⟨S,T⟩
 refine{I.os,I.bare,λb o q=>?_,j,M,L,eQ,du,{λb o q n a Z=>j.1 _ _ (eQ b o q n a),λb o q n a Z=>slot b o q n a,λb o q n Z=>I.base.free b o q n (nx b),λb o q Z=>?_,I.base.iG,I.base.fX,I.base.ip},B}
 .refine(I.aN b o q).eO (λc v m r=>hideAll_get _ r λz=>?_) (λZ q=>q) λZ Z q=>q;have i:=I.nX c z
  rcases m with rfl|m
  .rw [q] at i;cases i
  .rw [m] at i;cases i
 .by_cases a:b∈fh outer
  .let(k,d):=slot b o q (I.ok.xO b a) a;exact{_,d}
  .let(g,d):=du b o q a;exact{g,j.1 _ _ d}
end
def mY{o:HO}(x:cx P w H h a o):∃b,h.get? a=gF b:=by
 cases o with
 |lst xs=>let(_,_,_,_,e):=x;exact{_,e}|tup xs=>let(_,_,_,o,e,_):=x;exact{_,e}|dK c=>let(_,_,_,_,o,_,_,e,_):=x;exact{_,e}|dT c=>let(_,_,_,_,o,_,_,e,_):=x;exact{_,e}|set S n=>let(o,_,_,_,e,_):=x;exact{_,e}|ins C d fs=>let(_,_,_,e,_):=x;exact{_,e}|own y=>exact x|xd fs=>let(_,(_,_,_,e,_),_):=x;exact{_,e}|qC lo g=>let(_,_,_,e):=x;exact{_,e}|bC i u=>let(e,_):=x;exact{_,e}|iF ps=>exact{_,x}|met f y=>exact{_,x}|ext j=>exact x.2.1
abbrev P4(C:hF)(E:XK)(b:TA):TS:=λZ c H=>b c H λd a=>d.length<=ic/\∀e,a e=gK->E (.ref C) (gF e) a
section
variable{K:zz8}{scope:hZ}{f:hF}{cd:hB}{s0:hD}{E:XK}
theorem Gh{C:hF}{u b B:String}{bm:List hB}{a:hI}{rest:List hI}{d:Pos}{j:TA}(F:Gl (zv0 E) x)(O:OwnCls x C bm b mg base)(k:ExcBaseFacts u b B bm)
 (G:PA (zv0 E) (a::rest) j)
 (he:starEach (a::rest) (zv0 E).env=(gU,eval a (zv0 E).env)::starEach rest (zv0 E).env:=by rfl)
 (L:(backTo d (starEach rest (zv0 E).env)).any (·.1)=gU:=by rfl) (hd:(x==(zu 29:Str))=gU:=by decide) (M:A.handled.isNone=gS):
 PS (zv0 E) (.Raise (gF (.Call (.Name x np) (a::rest) [] d)) gK pos) (P4 C E j):=by
 intro Q s R H D I h;let(S,U,nm,q,bs,hdct,sn,sub,ab,col,dd,k0,k1,k2,k3,k5,mN,hC,hN,g,T):=O.obj
 refine wpAny_Raise_call_subT (C:=C) (nm:=nm) (q:=q) (N:=U) (bs:=bs) (bm:=S) (hdct:=hdct) (sn:=sn) (sub:=sub) (ab:=ab) (col:=col) (dd:=dd) (k0:=k0) (k1:=k1) (k2:=k2) (k3:=k3) (k5:=k5)
  k (mN:=mN) (T.hasType k.hasBase) (I.ok.hd M) (by rw [he];show(gU||(backTo d (starEach rest (zv0 E).env)).any (·.1))=gU;rw [L];rfl) g (ie I F O.bound {rfl,?_} hd)
 have m:=G d Q s R H _ I h;rw [he] at m⊢;refine Calls.evalArgs_plain (wpAny_mono m (λZ V i=>?_) λ_ _ y=>y);let(vs,W,c,X,hl,Y):=i;refine{rfl,by rw [<-X.length];exact hl,c.bk _ _ hC,hN.keeps c.bk,T.keeps c.bk,λh1 e p=>Py c p (Y e ?_)}
 cases z:W e with
 |none=>rfl|some o=>
  obtain⟨r,t⟩:∃r,V.heap.get? e=gF r:=by exact mY (c.aN _ _ z)
  rw [p.new] at t;cases t
end
noncomputable abbrev cg:HO:=.ext λZ=>True
def j0(e:h.get? a=gF o):cx P w H h a (.bC o cg):={e,trivial,⟨o,e⟩,λZ Z Z Z=>trivial}
abbrev bg(Z:ke)(H:Hp):Hp:=λb=>match Z.lookup b with
 |some o=>gF (.bC o cg)|none=>H b
abbrev bb(Z:ke)(H:Hp):Hp:=λb=>match Z.lookup b with
 |some _=>gK|none=>H b
section
variable{Z:ke}{H':Hp}{b:hF}
def bF(e:Z.lookup b=gF o):bg Z H b=gF (.bC o cg):=by unfold bg;rw [e]
def au(e:Z.lookup b=gK):bg Z H b=H b:=by unfold bg;rw [e]
def gA(e:Z.lookup b=gF o):bb Z H b=gK:=by unfold bb;rw [e]
def aA(e:Z.lookup b=gK):bb Z H b=H b:=by unfold bb;rw [e]
def fC{u:HO}(e:bb Z H b=gF u):Z.lookup b=gK/\H b=gF u:=by
 cases q:Z.lookup b with
 |none=>rw [aA q] at e;exact⟨rfl,e⟩|some o=>rw [gA q] at e;cases e
def ko(h:H b=gK):bb Z H b=gK:=by
 cases q:Z.lookup b with
 |none=>rw [aA q];exact h|some o=>exact gA q
structure xu(Z:ke)(H:Hp)(fs:List hF)(h:h9):Prop where
 at_:∀b o,Z.lookup b=gF o->h.get? b=gF o
 no:∀b o,Z.lookup b=gF o->H b=gK
 fr:∀b o,Z.lookup b=gF o->b∉fs
variable{fs:List hF}
theorem xu.aN(z:xu Z H fs h)(k:fe P w H h):fe P w (bg Z H) h:=λb u e=>by
 cases q:Z.lookup b with
 |some o=>rw [bF q] at e;cases e;exact j0 (z.at_ b o q)
 |none=>
  rw [au q] at e;have a:∀c v,H c=gF v->Z.lookup c=gK:=λc v d=>by
   cases y:Z.lookup c with
   |none=>rfl|some o=>rw [z.no c o y] at d;cases d
  exact(k b u e).eO (λc v Y r=>r) (λc r=>by rw [au (a c _ r)];exact r) λc xs r=>by rw [au (a c _ r)];exact r
def xu.A2(z:xu Z H fs h)(u:Un fs [] (bg Z H) H' h h')(k:fe P w H' h'):Un fs [] H (bb Z H') h h'/\fe P w (bb Z H') h':=by
 have i:∀b o,Z.lookup b=gF o->H' b=gF (.bC o cg):=λb o q=>u.fX b o _ (bF q);have p:∀b o,Z.lookup b=gF o->h'.get? b=gF o:=λb o q=>(k b _ (i b o q)).1
 have d:∀c v,H c=gF v->Z.lookup c=gK:=λc v j=>by
  cases y:Z.lookup c with
  |none=>rfl|some o=>rw [z.no c o y] at j;cases j
 refine{{λb o e n f a=>?_,λb o e n f a=>?_,λb o e n a=>?_,λb o e a=>u.there b o e a,λb xs e=>?_,λb o v e=>?_,λb ps e=>?_},λb v e=>?_}
 .cases q:Z.lookup b with
  |some g=>have m:=z.at_ b g q;rw [e] at m;cases m;exact p b o q
  |none=>exact u.keep b o e (by rw [au q];exact n) f a
 .cases q:Z.lookup b with
  |some g=>exact absurd f (z.fr b g q)|none=>exact u.slot b o e (by rw [au q];exact n) f a
 .cases q:Z.lookup b with
  |some g=>exact gA q|none=>rw [aA q];exact u.free b o e (by rw [au q];exact n) a
 .rw [aA (d b _ e)];exact u.iG b xs (by rw [au (d b _ e)];exact e)
 .rw [aA (d b _ e)];exact u.fX b o v (by rw [au (d b _ e)];exact e)
 .rw [aA (d b _ e)];exact u.ip b ps (by rw [au (d b _ e)];exact e)
 .let(q,s):=fC e;refine(k b v s).eO (λc y Y r=>r) (λc r=>?_) λc xs r=>?_
  .cases y:Z.lookup c with
   |none=>rw [aA y];exact r|some o=>rw [i c o y] at r;cases r
  .cases y:Z.lookup c with
   |none=>rw [aA y];exact r|some o=>rw [i c o y] at r;cases r
def xu.A3(z:xu Z H fs h)(u:Un fs [] H H' h h')(k:fe P w H' h'):Un fs [] (bg Z H) (bg Z H') h h'/\fe P w (bg Z H') h':=by
 have i:∀b o,Z.lookup b=gF o->h'.get? b=gF o:=λb o q=>u.keep b o (z.at_ b o q) (z.no b o q) (z.fr b o q) nofun;have j:∀b o,Z.lookup b=gF o->H' b=gK:=λb o q=>u.free b o (z.at_ b o q) (z.no b o q) nofun
 have f:∀c v,H' c=gF v->Z.lookup c=gK:=λc v g=>by
  cases y:Z.lookup c with
  |none=>rfl|some o=>rw [j c o y] at g;cases g
 have nw:∀b,bg Z H b=gK->Z.lookup b=gK/\H b=gK:=λb e=>by
  cases q:Z.lookup b with
  |some o=>rw [bF q] at e;cases e
  |none=>rw [au q] at e;exact⟨rfl,e⟩
 refine{{λb o e n d a=>u.keep b o e (nw b n).2 d a,λb o e n d a=>u.slot b o e (nw b n).2 d a,λb o e n a=>?_,λb o e a=>u.there b o e a,λb xs e=>?_,λb o v e=>?_,λb ps e=>?_},λb v e=>?_}
 .rw [au (nw b n).1];exact u.free b o e (nw b n).2 a
 .cases q:Z.lookup b with
  |some o=>rw [bF q] at e;cases e
  |none=>rw [au q] at e⊢;exact u.iG b xs e
 .cases q:Z.lookup b with
  |some m=>rw [bF q] at e⊢;exact e|none=>rw [au q] at e⊢;exact u.fX b o v e
 .cases q:Z.lookup b with
  |some o=>rw [bF q] at e;cases e
  |none=>rw [au q] at e⊢;exact u.ip b ps e
 .cases q:Z.lookup b with
  |some o=>rw [bF q] at e;cases e;exact j0 (i b o q)
  |none=>rw [au q] at e;exact(k b v e).eO (λc y Y r=>r) (λc r=>by rw [au (f c _ r)];exact r) λc xs r=>by rw [au (f c _ r)];exact r
variable{K:zz8}{s s':hD}
theorem kK.bg(e:kK P w K mg base A outer s H)(z:xu Z H (fh outer) s.heap)(d:∀b o,Z.lookup b=gF o->base.get? b=gK):kK P w K mg base A outer s (bg Z H) where
 frames:=e.frames
 mod:=e.mod
 bs:=λb o q=>{(e.bs b o q).1,by
  cases y:Z.lookup b with
  |some a=>rw [d b a y] at q;cases q
  |none=>rw [au y];exact(e.bs b o q).2}
 xF:=e.xF
 gY:=e.gY
 xO:=λb c=>by
  cases y:Z.lookup b with
  |some a=>exact absurd c (z.fr b a y)|none=>rw [au y];exact e.xO b c
 aN:=z.aN e.aN
 bare:=e.bare
def CE.less{u:hB}(z:xu Z H (fh outer) s.heap)(h:CE outer P w (bg Z H) s (λv H'=>Q v (bb Z H')) u s'):CE outer P w H s Q u s':=by let(v,H',os,bare,un,aN,r,q):=h;let(a,c):=z.A2 un aN;exact{v,_,os,bare,a,c,r,q}
def CE.more{u:hB}(z:xu Z H (fh outer) s.heap)(h:CE outer P w H s (λv H'=>(∀b o,Z.lookup b=gF o->H' b=gK)->Q v (bg Z H')) u s'):CE outer P w (bg Z H) s Q u s':=by let(v,H',os,bare,un,aN,r,q):=h;let(a,c):=z.A3 un aN;exact{v,_,os,bare,a,c,r,q λb o y=>un.free b o (z.at_ b o y) (z.no b o y) nofun}
def eP.less{E:XK}{e:hB}(z:xu Z H (fh outer) s.heap)(h:eP P w outer (bg Z H) s (λC a H'=>E C a (bb Z H')) e s'):eP P w outer H s E e s':=by
 let(a,C,t,g,H',B,rfl,F):=h;have d:∀b o,Z.lookup b=gF o->H' b=gF (.bC o cg):=λb o q=>F.un.fX b o _ (bF q)
 have i:∀b o,s.heap.get? b=gF o->H b=gK->b∉fh outer->B.get? b=gF o:=λb o e n j=>by
  cases q:Z.lookup b with
  |some k=>have f:=z.at_ b k q;rw [e] at f;cases f;exact(F.aN b _ (d b o q)).1
  |none=>exact F.eQ b o e (by rw [au q];exact n) j
 have m:fe P w (bb Z H') B:=λb v e=>by
  let(q,p):=fC e;refine(F.aN b v p).eO (λc y Y r=>r) (λc r=>?_) λc xs r=>?_
  .cases y:Z.lookup c with
   |none=>rw [aA y];exact r|some o=>rw [d c o y] at r;cases r
  .cases y:Z.lookup c with
   |none=>rw [aA y];exact r|some o=>rw [d c o y] at r;cases r
 have hs:fe P w H' s'.heap:=λb v e=>(F.aN b v e).eO (λc y Y r=>F.BQ.1 _ _ r) (λY r=>r) λY Y r=>r;let(u,_):=z.A2 (P:=P) (w:=w) F.un hs;exact{a,C,t,g,_,B,rfl,⟨F.os,F.bare,m,F.BQ,F.tn,F.tup,i,F.du,u,F.ends⟩}
def eP.more{E:XK}{e:hB}(z:xu Z H (fh outer) s.heap)(h:eP P w outer H s (λC a H'=>(∀b o,Z.lookup b=gF o->H' b=gK)->E C a (bg Z H')) e s'):eP P w outer (bg Z H) s E e s':=by
 let(a,C,t,i,H',B,rfl,F):=h;have j:∀b o,Z.lookup b=gF o->B.get? b=gF o:=λb o q=>F.eQ b o (z.at_ b o q) (z.no b o q) (z.fr b o q);have d:∀b o,Z.lookup b=gF o->H' b=gK:=λb o q=>F.un.free b o (z.at_ b o q) (z.no b o q) nofun
 have f:∀c v,H' c=gF v->Z.lookup c=gK:=λc v g=>by
  cases y:Z.lookup c with
  |none=>rfl|some o=>rw [d c o y] at g;cases g
 have k:fe P w (bg Z H') B:=λb v e=>by
  cases q:Z.lookup b with
  |some o=>rw [bF q] at e;cases e;exact j0 (j b o q)
  |none=>rw [au q] at e;exact(F.aN b v e).eO (λc y Y r=>r) (λc r=>by rw [au (f c _ r)];exact r) λc xs r=>by rw [au (f c _ r)];exact r
 have hs:fe P w H' s'.heap:=λb v e=>(F.aN b v e).eO (λc y Y r=>F.BQ.1 _ _ r) (λY r=>r) λY Y r=>r;let(m,_):=z.A3 (P:=P) (w:=w) F.un hs;refine{a,C,t,i,_,B,rfl,{F.os,F.bare,k,F.BQ,F.tn,F.tup,λb o e n p=>F.eQ b o e ?_ p,F.du,m,F.ends d}}
 cases q:Z.lookup b with
 |some o=>rw [bF q] at n;cases n
 |none=>rw [au q] at n;exact n
end
structure uR(ps ys:List Str)(scope:hZ):Prop where
 kind:scope.kind=.function
 co:scope.isCoroutine=gU
 gen:scope.isGenerator=gU
 nd:(ps++ys).Nodup
 FC:∀x∈scope.names,x.2≠.cell
 par:∀x∈ps,scope.names.lookup x=gF .local
 VS:∀y∈ys,scope.names.lookup y=gF .free
 MU:∀x,scope.names.lookup x=gF .free->x∈ys
noncomputable def LF(P:hL)(w:hQ)(K:zz8)(mg:Str->Option hB)(base:h9)(N:List Str)(qual:Str)(a:hZ)(f:hF)(cd:hB)(cl:List (Str×hF))(A:hW)(outer:List Env)(s:hD)(H:Hp)(E:XK):Cx where
 prog:=P
 w:=w
 K:=K
 mg:=mg
 base:=base
 A:=A.deeper (PySem.W.envX qual a (zz9 s) f cd cl)
 N:=N
 s₀:=s
 H₀:=H
 env:=PySem.W.envX qual a (zz9 s) f cd cl
 outer:=outer
 stack:=PySem.W.envX qual a (zz9 s) f cd cl::outer
 ex:=[]
 calm:=A.handled.isNone
 fn:=λZ=>gU
 pn:=[]
 xe:=λe c=>hJ (hV P w) (A.deeper (PySem.W.envX qual a (zz9 s) f cd cl)) (leaving (PySem.W.envX qual a (zz9 s) f cd cl) e) (λZ b=>eP P w outer H s E e b) (λd b=>eP P w outer H s E d b) c
theorem rR{a:Type}:∀{l:List (Str×a)} {x:Str} {v:a},(l.map (·.1)).Nodup->(x,v)∈l->l.lookup x=gF v
 |(y,u)::r,x,v,nd,h=>by
  rw [a7,List.nodup_cons] at nd;rw [gd];rcases ey.mp h with e|e
  .cases e;simp
  .have b:(x==y)=gU:=beq_eq_false_iff_ne.mpr λz=>nd.1 (by subst z;exact List.mem_map_of_mem (f:=(·.1)) e);rw [b];exact rR nd.2 e
def qh{ps:List Str}{i:Nat}{u:hB}(nd:ps.Nodup)(h1:ps[i]?=gF x)(a:us[i]?=gF u):(ps.zip us).reverse.lookup x=gF u:=by
 have hs:∀{ps:List Str} {us:List hB},List.Sublist ((ps.zip us).map (·.1)) ps:=λ{ps us}=>by
  induction ps generalizing us with
  |nil=>simp|cons p ps b=>
   cases us with
   |nil=>simp|cons q us=>simpa using b
 refine rR ?_ ?_
 .rw [List.map_reverse];exact List.pairwise_reverse.mpr ((nd.sublist hs).imp λh=>Ne.symm h)
 .rw [List.mem_reverse];refine a0 (i:=i) ?_;rw [List.getElem?_zip_eq_some];exact⟨h1,a⟩
section
variable{K:zz8}{ps ys:List Str}{scope:hZ}{f:hF}{cd:hB}{cl:List (Str×hF)}{s:hD}{E:XK}
def xX{ws:List V}{tk:Nat}(S:uR ps ys scope)(g:kK P w K mg base A outer s H)(C:∀y∈ys,∃c,cl.lookup y=gF c)(inj:∀x y c,cl.lookup x=gF c->cl.lookup y=gF c->x=y)
 (r:Vals vs us) (hl:vs.length=ps.length) (I:ws.length=ys.length) (cells:∀(i:Nat) y c,ys[i]?=gF y->cl.lookup y=gF c->∀v,ws[i]?=gF v->∃u,RelV v u/\s.heap.IsCell c (gF u)) (L:∀x c,cl.lookup x=gF c->∃v,s.heap.IsCell c v)
 (M:∀x c,cl.lookup x=gF c->H c=gK) (ns:h'.Ns (zz9 s) (λx=>(ps.zip us).reverse.lookup x)) (hk:∀b o,s.heap.get? b=gF o->h'.get? b=gF o):
 Inv (LF P w K mg base (ps++ys) qual scope f cd cl A outer s H E) [] (vs.map gF++ws.map gF) H {s with heap:=h',toks:=tk}:=by
 have q:∀b:hF,b∉(LF P w K mg base (ps++ys) qual scope f cd cl A outer s H E).ex:=λb z=>absurd (show b∈([]:List hF) from z) (by simp);have D:∀c v,s.heap.IsCell c v->h'.IsCell c v:=λc v ⟨o,N,hd⟩=>{o,hk c o N,hd}
 refine{{g.mod,S.kind,rfl,rfl,a5 _,inj,λx k=>?_,(λx c z=>nomatch z),λz=>Option.isNone_iff_eq_none.mp z,hW.frames_deeper g.frames,.inr ⟨rfl,rfl⟩,λb z=>absurd z (q b),g.bs,g.xF,λb Z Z=>q b,λb z=>absurd z (q b),g.gY,g.xO},
  rfl,g.bare,Un.kept hk,{_,ns,λi x v j d Q=>?_},λx c h=>let⟨v,z⟩:=L x c h;{v,D c v z},g.aN.fresh (a5 _),M,λp m=>absurd (show p∈([]:ke) from m) (by simp),g.aN.kept hk,?_}
 .have k:scope.names.lookup x=gF .cell\/scope.names.lookup x=gF .free:=k
  rcases k with k|k
  .exact absurd rfl (S.FC _ (PySem.mem_of_lookup k))
  .exact C x (S.MU x k)
 .have j:(ps++ys)[i]?=gF x:=j;by_cases F:i<vs.length
  .rw [eM (zx6 F),cS] at d;have t:vs[i]?=gF v:=by
    cases e:vs[i]? with
    |none=>rw [e] at d;cases d
    |some a=>rw [e] at d;cases d;rfl
   let(u,O,B):=r.get t;have m:ps[i]?=gF x:=by rw [eM (by lia)] at j;exact j
   exact{u,B,.inl {S.par x (a0 m),qh (S.nd.sublist (List.sublist_append_left _ _)) m O}}
  .rw [eT (zx6 F),cS,zzl] at d;rw [eT (by lia)] at j;have t:ws[i-vs.length]?=gF v:=by
    cases e:ws[i-vs.length]? with
    |none=>rw [e] at d;cases d
    |some a=>rw [e] at d;cases d;rfl
   rw [<-hl] at j;let(c,G):=C x (a0 j);let(u,B,z):=cells _ x c j G v t;exact{u,B,.inr {.inr (S.VS x (a0 j)),c,G,D c _ z}}
 .show _=(ps++ys).length;rw [cA,cA,zzl,zzl,hl,I]
def S2:Passes (eP P w) (LF P w K mg base N qual scope f cd cl A outer s H E) E:=by
 rintro R σ H1 s1 e S I ⟨a,C,t,p,r,B,rfl,F⟩
 have nx:∀b:hF,b∉(LF P w K mg base N qual scope f cd cl A outer s H E).ex:=λb z=>nomatch (show b∈([]:List hF) from z);have eQ:∀b o,s.heap.get? b=gF o->H b=gK->b∉fh outer->B.get? b=gF o:=λb o q n c=>F.eQ b o (I.base.keep b o q n c (nx b)) (I.base.free b o q n (nx b)) (mI I rfl q c);have du:∀b o,s.heap.get? b=gF o->b∉fh outer->∃g,B.get? b=gF g:=λb o q c=>by let(y,d):=I.base.there b o q (nx b);exact F.du b y d (mI I rfl q c)
 refine wpAny_leaves_onW I.ok.frames rfl F.BQ λD j k=>{a,C,t,p,r,B,rfl,?_};have slot:∀b o,s.heap.get? b=gF o->H b=gK->b∈fh outer->∃h,D.get? b=gF {o with slots:=h}:=λb o q n c=>by let(h,d):=I.base.slot b o q n c (nx b);let(G,i):=F.un.any d (I.base.free b o q n (nx b)) nofun;let(_,g,m,hd):=F.BQ.2.2.1.mem (b:=b) (fw.mpr (let⟨v,L,M⟩:=fw.mp c;{v,.tail _ L,M}));rw [i] at m;cases m;let(O,Q):=k b _ i hd;exact⟨O,Q⟩
 refine{F.os.trans I.os,F.bare,F.aN,j,F.tn,F.tup.of_slots k,eQ,du,{λb o q n c Z=>j.1 _ _ (eQ b o q n c),λb o q n c Z=>slot b o q n c,λb o q n Z=>?_,λb o q Z=>?_,λb xs q=>F.un.iG _ _ (I.base.iG _ _ q),λb o u q=>F.un.fX _ _ _ (I.base.fX _ _ _ q),λb ps q=>?_},F.ends}
 .let(h,d):=I.base.any q n (nx b);exact F.un.free b _ d (I.base.free b o q n (nx b)) nofun
 .by_cases c:b∈fh outer
  .let(h,d):=slot b o q (I.ok.xO b c) c;exact{_,d}
  .let(g,d):=du b o q c;exact{g,j.1 _ _ d}
 .let(m1,d):=I.base.ip b ps q;let(m2,i):=F.un.ip b _ d;exact{m1++m2,by rw [<-Array.append_assoc];exact i}
def Am{k:Nat}{d:i2}{M N:hB}{m:hF}{oc:Obj}{B:Array hB}{ct:Tok}{ws:List V}{Z:ke}{t:TE}
 (S:uR ps ys scope) (R:eh k A) (D:kK P w K mg base A outer s H) (z:xu Z H (fh outer) s.heap) (zb:∀b o,Z.lookup b=gF o->base.get? b=gK)
 (T:s.heap.get? f=gF (PySem.W.kla_obj (zu 13) qual d body scope cl M m N)) (U:s.heap.get? m=gF oc) (X:oc.data=.fields B) (Y:B[1]?=gF (.str qual ct))
 (hb:bindArgs (PySem.W.kla_fn (zu 13) qual d body scope cl M (.ref m) N) {us,[]}=pure (ps.zip us)) (r:Vals vs us) (hl:vs.length=ps.length) (hw:ws.length=ys.length)
 (QA:∀y∈ys,∃c,cl.lookup y=gF c) (inj:∀x y c,cl.lookup x=gF c->cl.lookup y=gF c->x=y)
 (cz:∀x c,cl.lookup x=gF c->∃o v,Z.lookup c=gF o/\o.data=.cell v)
 (cells:∀(i:Nat) y c,ys[i]?=gF y->cl.lookup y=gF c->∀v,ws[i]?=gF v->∃u,RelV v u/\s.heap.IsCell c (gF u))
 (ht:PE (LF P w K mg base (ps++ys) qual scope f (.ref m) cl A outer s H (λC a j=>(∀b o,Z.lookup b=gF o->j b=gK)->E C a (bg Z j))) body t)
 (hq:t (vs.map gF++ws.map gF) H λv j=>(∀b o,Z.lookup b=gF o->j b=gK)->Q v (bg Z j)):
 codeAny (hV P w) A (.call (.ref f) {us,[]}) (CR (eP P w) outer P w (bg Z H) s Q E) s:=by
 have F:s.heap.NoLimit:=D.mod.nolimit.keeps λb o e=>(D.bs b o e).1;refine PySem.W.kla_callFunE R.depth T rfl S.co S.gen rfl ⟨m,oc,B,ct,rfl,U,X,Y⟩ ?_;rw [hb];refine a8 (wpAny_newFunctionEnv S.FC (λy hy=>S.par y.1 (List.of_mem_zip hy).1) (λp Qw G=>?_) S.kind);have g:∀b o,s.heap.get? b=gF o->p.get? b=gF o:=λb o e=>G.extBut b o (d0 (cB e)) (ar _ e)
 refine{F.keeps g,?_};show codeAny _ _ (.expr body (PySem.W.envX qual scope (zz9 s) f (.ref m) cl)) _ _;have I:=xX (E:=λC a j=>(∀b o,Z.lookup b=gF o->j b=gK)->E C a (bg Z j)) (cd:=.ref m) (f:=f) (qual:=qual) (tk:=s.toks+(ps.zip us).length) S D QA inj r hl hw cells (λx c h=>by
  let(o,v,L,O):=cz x c h;exact{v,o,z.at_ c o L,O}) (λx c h=>by
  let(o,v,L,O):=cz x c h;exact z.no c o L) Qw g
 refine PySem.W.kla_codeExpr (wpAny_mono (ht [] _ _ H _ I hq) (λu s' hs=>?_) λe s' hs=>?_)
 .let(v,j,J,rv,q):=hs;exact CE.more z ⟨v,j,J.os,J.bare,J.base,J.aN,rv,q⟩
 .exact wpAny_mono hs (λ_ KA y=>eP.more z y) λe' KA y=>eP.more z y
end
def xx{p:Pos}{a b:Int}{c d:hB}:∀(l:List hB),TriplesOk l->codeAmong p (l++[rawInt a,rawInt b,c])=gF d->codeAmong p l=gF d\/d=c:=by
 intro l h e
 fun_induction TriplesOk l with
 |case1=>
  simp! [List.nil_append,codeAmong,rawInt] at e;split at e
  .cases e;exact .inr rfl
  .cases e
 |case2 i t j u x rest g=>
  simp! [List.cons_append,codeAmong] at e⊢;split at e
  .rename_i f;rw [if_pos f];exact .inl e
  .rename_i f;rw [if_neg f];exact g h e
 |case3 l k m=>exact h.elim
def Dv(mg:Str->Option hB)(base:h9):Prop:=∃bm o,mg "__builtins__"=gF (.ref bm)/\bm≠builtinsNs/\bm≠iv/\base.get? bm=gF o/\o.cls=.type "module"/\o.dict=gF builtinsNs/\o.data=.plain
abbrev iW(H:Hp)(P:hF)(a:Array hB)(b:hF)(oc:Obj)(f:hF)(fo:Obj):Hp:=upd (upd (upd H P (.iF a)) b (.bC oc cg)) f (.bC fo cg)
section
variable{s:hD}{c P c' f:hF}{ps ui:Array hB}{oc fo:Obj}
def Inv.lam{tk:Nat}(I:zv2 s)(g:H P=gF (.iF ps))(i:∀b o,b≠P->s.heap.get? b=gF o->h'.get? b=gF o)(t:h'.get? P=gF (PySem.W.tabObj ui))(more:∃m,ui=ps++m)
 (h:H c'=gK/\(zz9 s)<=c'\/H c'=gF (.bC oc cg)) (j:h'.get? c'=gF oc) (w:(zz9 s)<=f) (k:h'.get? f=gF fo) (L:c'≠f):
 Inv X ae σ (iW H P ui c' oc f fo) {s with heap:=h',toks:=tk}:=by
 have fr:H f=gK:=I.aN.fresh w;have A:∀b u,H b=gF u->(∀q,u≠.iF q)->b≠P:=λb u e n z=>by subst z;rw [g] at e;cases e;exact n _ rfl
 have B:∀b u,H b=gF u->b≠f:=λb u e z=>by subst z;rw [fr] at e;cases e
 have E:c'≠P:=λz=>by
  subst z;rcases h with⟨e,_⟩|e
  .rw [g] at e;cases e
  .rw [g] at e;cases e
 have F:f≠P:=λz=>by subst z;rw [g] at fr;cases fr
 have at_:∀b u,H b=gF u->(∀q,u≠.iF q)->iW H P ui c' oc f fo b=gF u:=λb u e n=>by
  unfold iW;rw [ah (B b u e)];by_cases a:b=c'
  .subst a;rw [av];rcases h with⟨z,_⟩|z
   .rw [z] at e;cases e
   .rw [z] at e;exact e
  .rw [ah a,ah (A b u e n)];exact e
 have no:∀b o,s.heap.get? b=gF o->H b=gK->iW H P ui c' oc f fo b=gK:=λb o e n=>by
  have G:b≠f:=λz=>absurd (cB e) (by rw [z];exact Nat.not_lt.mpr w);have K:b≠P:=λz=>by subst z;rw [g] at n;cases n
  have p:b≠c':=λz=>by
   rcases h with⟨_,y⟩|y
   .exact absurd (cB e) (by rw [z];exact Nat.not_lt.mpr y)
   .rw [z,y] at n;cases n
  unfold iW;rw [ah G,ah p,ah K];exact n
 have kp:∀b o,s.heap.get? b=gF o->H b=gK->h'.get? b=gF o:=λb o e n=>i b o (λz=>by subst z;rw [g] at n;cases n) e;refine I.un {λb o e n Z Z=>kp b o e n,λb o e n Z Z=>{o.slots,kp b o e n},λb o e n Z=>no b o e n,λb o e Z=>?_,λb xs e=>at_ b _ e (λZ z=>nomatch z),λb o u e=>at_ b _ e (λZ z=>nomatch z),λb qs e=>?_} λb u e=>?_
 .by_cases a:b=P
  .exact{_,by rw [a];exact t}
  .exact{o,i b o a e}
 .by_cases a:b=P
  .subst a;rw [g] at e;cases e;let(m,rfl):=more;exact{m,by unfold iW;rw [ah (Ne.symm F),ah (Ne.symm E),av]}
  .have p:b≠c':=λz=>by
    subst z;rcases h with⟨y,_⟩|y
    .rw [y] at e;cases e
    .rw [y] at e;cases e
   exact{#[],by unfold iW;rw [ah (B b _ e),ah p,ah a,e];simp}
 .unfold iW at e;by_cases C:b=f
  .subst C;rw [av] at e;cases e;exact j0 k
  .rw [ah C] at e;by_cases D:b=c'
   .subst D;rw [av] at e;cases e;exact j0 j
   .rw [ah D] at e;by_cases r:b=P
    .subst r;rw [av] at e;cases e;exact t
    .rw [ah r] at e;refine(I.aN b u e).eO (λd v hd q=>i d v ?_ q) (λd q=>at_ d _ q (λZ z=>nomatch z)) λd xs q=>at_ d _ q (λZ z=>nomatch z)
     rcases hd with hd|hd
     .rw [hd];exact r
     .exact A d _ hd (λZ z=>nomatch z)
def Fe{R:hF->Obj->Prop}{a:i2}{d:hZ}{cl:List (Str×hF)}{Q:kd}{E:kd}(I:zv2 s)(j:H P=gF (.iF ps))(y:TriplesOk ps.toList)(S:X.env.code=.ref c)(C:PySem.W.CodeHd X.base c P)
 (Z7:Dv X.mg X.base) (T:closureFor d X.env=pure cl) (N7:defaultsOf a X.env=([],[]))
 (hit:∀i,codeAmong pos ps.toList=gF i->∃c' oc r t,i=.ref c'/\H c'=gF (.bC oc cg)/\R c' oc/\oc.data=.fields r/\r[1]?=gF (.str (X.env.qual++(zu 13)) t))
 (h:∀(f c':hF) (oc:Obj) (r:Array hB) (t:Tok) (B:hB) (ui:Array hB) (h':h9) (tk:Nat),H f=gK->(H c'=gK\/H c'=gF (.bC oc cg)/\R c' oc)->c'≠f->f≠P->c'≠P->oc.data=.fields r->r[1]?=gF (.str (X.env.qual++(zu 13)) t)->TriplesOk ui.toList->
  (∀p i,codeAmong p ui.toList=gF i->codeAmong p ps.toList=gF i\/i=.ref c')->(∃m,ui=ps++m)->
  Inv X ae σ (iW H P ui c' oc f (PySem.W.kla_obj (zu 13) (X.env.qual++(zu 13)) a body d cl ((X.mg (zu 46)).getD .none) c' B)) {s with heap:=h',toks:=tk}->Q (.ref f) {s with heap:=h',toks:=tk}):
 zx7 X (eval (.Lambda a body d pos) X.env) Q E s:=by
 have F:s.heap.get? P=gF (PySem.W.tabObj ps):=I.aN P _ j;have U:=I.ok.mod.glob.keeps I.bk;have G:iv≠P:=λq=>by let(o,es,ep,e,_):=I.ok.mod.glob;have:=(I.bs _ _ e).2;rw [q,j] at this;cases this
 let(bm,ob,b1,b2,b3,V,b5,b6,b7):=Z7;have Y:s.heap.BuiltinsAt X.mg P:={bm,ob,b1,b2,b3,(λq=>by have:=(I.bs _ _ V).2;rw [q,j] at this;cases this),I.bk _ _ V,b5,b6,b7}
 refine PySem.W.kla_eval N7 ?_;cases hm:codeAmong pos ps.toList with
 |none=>
  refine PySem.W.kla_makeFunction (mg:=X.mg) T I.ok.glob U S (C.keeps I.bk) F y hm G Y λc' B h' tk hx K L Wg M=>?_;let(Z,oc,vs,t,e2,N,hd,O):=Wg;cases e2;have D:H c'=gK:=I.aN.fresh K;have g:(zz9 s)<=h'.objs.size:=c6 K (Nat.le_of_lt L);have k:H h'.objs.size=gK:=I.aN.fresh g
  refine h h'.objs.size c' oc vs t B _ _ tk k (.inl D) (d0 L) (λz=>by rw [z,j] at k;cases k) (λz=>by rw [z,j] at D;cases D) hd O ?_ ?_ {_,rfl}
   (I.lam j (λb o hb e=>ar _ (hx b o hb e)) (ar _ M) {_,rfl} (.inl ⟨D,K⟩) (ar _ N) g (dJ _ rfl) (d0 L))
  .rw [Array.toList_append];exact TriplesOk_snoc _ _ _ _ y
  .intro p i e;rw [Array.toList_append] at e;exact xx _ y e
 |some i=>
  let(c',oc,r,t,rfl,u,hR,hd,O):=hit i hm;refine PySem.W.kla_makeFunctionHit (mg:=X.mg) T I.ok.glob U S (C.keeps I.bk) F y hm Y λB h' tk hk g=>?_;have k:H h'.objs.size=gK:=I.aN.fresh g;have Dq:s.heap.get? c'=gF oc:=(I.aN c' _ u).1;have HA:c'≠h'.objs.size:=λz=>by rw [z,k] at u;cases u
  refine h h'.objs.size c' oc r t B ps _ tk k (.inr ⟨u,hR⟩) HA (λz=>by rw [z,j] at k;cases k) (λz=>by rw [z,j] at u;cases u) hd O y (λp i e=>.inl e) {#[],by simp}
   (I.lam j (λb o hb e=>ar _ (hk b o e)) (ar _ (hk _ _ F)) {#[],by simp} (.inr u) (ar _ (hk _ _ Dq)) g (dJ _ rfl) HA)
end
structure DE(H Hw:Hp)(d:hF)(o:Obj)(ay:List (List Key×V)):Prop where
 at_:Hw d=gF (.bC o (.dT ay))
 dt:H d=gF (.dT ay)
 same:∀b u,H b=gF u->b≠d->Hw b=gF u
 new:∀b u,Hw b=gF u->H b=gK->∃ob,u=.bC ob cg
section
variable{Hw:Hp}{d:hF}{ay:List (List Key×V)}{fs:List hF}
def DE.back(z:DE H Hw d o ay)(u:Un fs [] Hw Hw h h')(k:fe P w Hw h)(i:fe P w Hw h'):Un fs [] H H h h'/\fe P w H h'/\h'.get? d=gF o:=by
 have fz:∀b a,Hw b=gF (.bC a cg)->∀o,h.get? b=gF o->h'.get? b=gF o:=λb a e o q=>by have p:h.get? b=gF a:=(k b _ e).1;have s:h'.get? b=gF a:=(i b _ e).1;rw [p] at q;cases q;exact s
 have st:∀c v,Hw c=gF v->(∀a u,v≠.bC a u)->H c=gF v:=λc v e n=>by
  cases q:H c with
  |none=>let(a,rfl):=z.new c v e q;exact absurd rfl (n a _)|some u=>
   by_cases m:c=d
   .subst m;rw [z.at_] at e;cases e;exact absurd rfl (n _ _)
   .rw [z.same c u q m] at e;exact e
 refine{{λb a e n f g=>?_,λb a e n f g=>?_,λb a e n g=>n,λb a e g=>u.there b a e g,λZ Z e=>e,λZ Z Z e=>e,λb ps e=>{#[],zx6 e}},λb v e=>?_,(i d _ z.at_).1}
 .cases q:Hw b with
  |none=>exact u.keep b a e q f g|some v=>let(j,rfl):=z.new b v q n;exact fz b j q a e
 .cases q:Hw b with
  |none=>exact u.slot b a e q f g|some v=>let(j,rfl):=z.new b v q n;exact{a.slots,fz b j q a e}
 .have go:∀v,cx P w Hw h' b v->cx P w H h' b v:=λv y=>y.eO (λZ Z Z r=>r) (λc r=>st c _ r (λZ Z z=>nomatch z)) λc xs r=>st c _ r (λZ Z z=>nomatch z);by_cases f:b=d
  .subst f;rw [z.dt] at e;cases e;exact go _ (i b _ z.at_).2
  .exact go v (i b v (z.same b v e f))
end
structure xq(p y:Str)(params:i2)(body:hI)(scope:hZ):Prop where
 body:∃q1 q2 q3 q4 q5 j,body=.Subscript (.Subscript (.Name y q1) (.Name p q2) q3) (.Constant (.int 0) j q4) q5
 sc:uR [p] [y] scope
 d1:(p==(zu 29:Str))=gU
 d2:(p==(zu 51:Str))=gU
 d3:(y==(zu 29:Str))=gU
 d4:(y==(zu 51:Str))=gU
section
variable{s:hD}{d f c c' b:hF}{oc:Obj}{ay:List (List Key×V)}{p y:Str}{params:i2}{scope:hZ}{pm gN:hB}{dM:Array hB}{ct:Tok}{k:List Key}{q:hF}{n:Int}{r:List V}{E:kd}
def E5(hA:A=X.A.in1)(L:xq p y params body scope)(hr:eh (kk+1) X.A)(I:zv2 s)(hd:H d=gF (.dT ay))(N:s.heap.get? d=gF o)
 (fB:X.env.cells.lookup y=gF c) (N1:X.s₀.heap.objs.size<=c) (S:s.heap.IsCell c (gF (.ref d)))
 (hf:H f=gF (.bC (PySem.W.kla_obj (zu 13) qual params body scope [(y,c)] pm c' gN) cg)) (kg:H c'=gF (.bC oc cg)) (o9:oc.data=.fields dM) (LR:dM[1]?=gF (.str qual ct))
 (M:∀u,bindArgs (PySem.W.kla_fn (zu 13) qual params body scope [(y,c)] pm (.ref c') gN) {[u],[]}=pure ([p].zip [u]))
 (Sb:H b=gF (.tup (k.map kV))) (hv:i8 ay k=gF (.ref q)) (T:gf X.K H q (.int n::r)):
 hJ (hV X.prog X.w) A (call (.ref f) [.ref b]) (λu s'=>(∃t,u=.int n t)/\Inv X ae σ H s'/\s'.heap.get? d=gF o) E s:=by
 subst hA;let(q1,q2,q3,q4,q5,j,rfl):=L.body;let(h,g1,g2):=id S;have O:H c=gK:=I.fA y c fB;let(z0,lo,xs,U,V,es,ep,h1,h2,h3,Y,h5):=(show cx X.prog X.w H s.heap d (.dT ay) from I.aN d _ hd);rw [N] at h1;cases h1;have P:Inv X ae σ (upd H d (.bC o (.dT ay))) s:=by refine jg (h':=s.heap) (t':=s.toks) I (by rw [hd];exact True.intro) {rfl,λ_ _=>rfl} ⟨o,N⟩ {N,z0,lo,xs,?_,o,es,ep,N,h2,h3,Y,h5};exact KT.keeps (H:=H) U λc ys ec=>by rw [ah (gC ec hd nofun)];exact ec
 have ncd:c≠d:=λz=>by rw [z,hd] at O;cases O
 have nfd:f≠d:=gC hf hd nofun;have WI:c'≠d:=gC kg hd nofun
 have Ln:xu [(c,h)] (upd H d (.bC o (.dT ay))) (fh X.stack) s.heap:=by
  have lk:∀b o,List.lookup b [(c,h)]=gF o->b=c/\o=h:=λb o e=>by
   rw [gd] at e;cases D:b==c with
   |true=>rw [D] at e;cases e;exact{zzy.mp D,rfl}
   |false=>rw [D] at e;cases e
  refine{λb o e=>?_,λb o e=>?_,λb o e=>?_}
  .let(rfl,rfl):=lk b o e;exact g1
  .let(rfl,rfl):=lk b o e;rw [ah ncd];exact O
  .let(rfl,rfl):=lk b o e
   intro RR;rcases ey.mp (I.kI b RR) with z|z
   .exact I.By y b fB z
   .let(_,V,Y,_):=I.ok.gY.mem z;exact absurd (cB Y) (Nat.not_lt.mpr N1)
 have zc:List.lookup c [(c,h)]=gF h:=by simp
 have R:∀x m,List.lookup x [(y,c)]=gF m->x=y/\m=c:=λx m e=>by
  rw [gd] at e;cases hx:x==y with
  |true=>rw [hx] at e;cases e;exact{zzy.mp hx,rfl}
  |false=>rw [hx] at e;cases e
 have zb:∀b o,List.lookup b [(c,h)]=gF o->X.base.get? b=gK:=λb o e=>by
  rw [gd] at e;cases D:b==c with
  |true=>
   have:=zzy.mp D;subst this
   cases G:X.base.get? b with
   |none=>rfl|some V=>exact absurd (cB (I.ok.bs b V G).1) (Nat.not_lt.mpr N1)
  |false=>rw [D] at e;cases e
 have hqf:gf X.K (upd H d (.bC o (.dT ay))) q (.int n::r):=gf.iS T (λb M=>ah M) hd;have hkf:upd H d (.bC o (.dT ay)) b=gF (.tup (k.map kV)):=by rw [ah (gC Sb hd nofun)];exact Sb
 have wd:DE H (bg [(c,h)] (upd H d (.bC o (.dT ay)))) d o ay:=by
  have nz:∀b u,H b=gF u->List.lookup b [(c,h)]=gK:=λb u e=>by
   rw [gd];cases D:b==c with
   |true=>have:=zzy.mp D;subst this;rw [O] at e;cases e
   |false=>rfl
  refine{by rw [au (nz d _ hd),av],hd,λb u e M=>by rw [au (nz b u e),ah M];exact e,λb u e n=>?_}
  cases hz:List.lookup b [(c,h)] with
  |some ob=>rw [bF hz] at e;cases e;exact{_,rfl}
  |none=>
   rw [au hz] at e;have Z6:b≠d:=λz=>by rw [z,hd] at n;cases n
   rw [ah Z6,n] at e;cases e
 refine wpAny_call (codeAny_mono (Am (k:=kk) (E:=λ_ _ _=>False) (Q:=λv H'=>v=.int n/\H'=bg [(c,h)] (upd H d (.bC o (.dT ay)))) (Z:=[(c,h)]) (ws:=[.ref d]) (vs:=[.ref b]) (us:=[.ref b])
  (t:=QI (S9 X.K) (Mo (C7 1) (C7 0)) (tC (.int 0))) L.sc hr.in1 P.BK.in1 Ln zb ?fo ?co o9 LR (M _) (.cons rfl .nil) rfl rfl ?QA ?inj ?cz ?cells ?ht ?T) λrr s' Wf=>?_)
 case fo=>have z:upd H d (.bC o (.dT ay)) f=H f:=ah nfd;exact(P.aN f _ (z.trans hf)).1
 case co=>
  have z:upd H d (.bC o (.dT ay)) c'=gF (.bC oc cg):=by rw [ah WI];exact kg
  exact(P.aN c' _ z).1
 case QA=>intro G Oj;exact{c,by rw [eo.mp Oj];simp}
 case inj=>intro x G m e1 e2;rw [(R x m e1).1,(R G m e2).1]
 case cz=>intro x m e;let(rfl,rfl):=R x m e;exact{h,_,zc,g2}
 case cells=>
  intro i G m e1 e2 v e3;let(rfl,rfl):=R G m e2
  cases i with
  |zero=>cases e3;exact{.ref d,rfl,h,g1,g2}
  |succ i=>cases e3
 case ht=>refine L9 E0 (Kf ?_ (f7 (i:=1) rfl (.inr (.inr (L.sc.VS y (by simp)))) L.d3 L.d4) (f7 (i:=0) rfl (.inl (L.sc.par p (by simp))) L.d1 L.d2) λ_ _=>rfl) FW λ_ _=>rfl;have:=hr.un;show X.A.units+1+3+1<cLine;lia
 case T=>
  refine{_,rfl,_,rfl,d,.ref q,rfl,?_,?_}
  .exact .inr {ay,k,b,.inr ⟨o,av⟩,rfl,hkf,hv.symm}
  .exact{q,.int n::r,0,.int n,rfl,rfl,hqf,by simp [qZ,B9],λ_=>⟨rfl,rfl⟩}
 .cases rr with
  |error e=>let(a,C,t,vs,H',B,e1,F):=Wf;exact(F.ends).elim|ok fl=>
   cases fl with
   |ret u=>let(v,H',os,bare,un,aN,rv,rfl,rfl):=Wf;let(t,rfl):=rv;let(u1,k1,Qp):=wd.back un (Ln.aN P.aN) aN;let(hh,g,dr,tk,os'):=s';obtain rfl:os'=s.os:=os;exact{⟨t,rfl⟩,I.call (h':=hh) (g':=g) (d':=dr) (t':=tk) (ch:=[]) u1 k1 bare (λb z=>absurd z (by simp)),Qp}|_=>exact Wf.elim
end
structure KM(X:Cx)(σ:St)(H:Hp)(kk:Nat)(d f:hF)(ay:List (List Key×V))(cf:Nat->Int):Prop where
 room:eh (kk+1) X.A
 hd:X.A.handled=gK
 dt:H d=gF (.dT ay)
 lam:∃(p y:Str) (params:i2) (body:hI) (scope:hZ) (qual:Str) (c c':hF) (oc:Obj) (dM:Array hB) (ct:Tok) (pm gN:hB) (iy:Nat),xq p y params body scope/\X.env.cells.lookup y=gF c/\X.s₀.heap.objs.size<=c/\H f=gF (.bC (PySem.W.kla_obj (zu 13) qual params body scope [(y,c)] pm c' gN) cg)/\
  H c'=gF (.bC oc cg)/\oc.data=.fields dM/\dM[1]?=gF (.str qual ct)/\(∀u,bindArgs (PySem.W.kla_fn (zu 13) qual params body scope [(y,c)] pm (.ref c') gN) {[u],[]}=pure ([p].zip [u]))/\
  X.N[iy]?=gF y/\σ[iy]?=gF (gF (V.ref d))/\X.env.scope.names.lookup y=gF .cell
 cost:∀(i:Nat) k v,ay[i]?=gF (k,v)->∃q r,v=V.ref q/\gf X.K H q (.int (cf i)::r)
def Li{a:List (List Key×V)}:∀{i:Nat} {k:List Key} {v:V},(a.map (·.1)).Nodup->a[i]?=gF (k,v)->i8 a k=gF v:=by
 induction a with
 |nil=>intro i k v _ h;simp at h|cons x r b=>
  intro i k v nd h;rw [a7,List.nodup_cons] at nd;cases i with
  |zero=>simp at h;subst h;exact ja rfl|succ i=>simp at h;rw [i9 λe=>nd.1 (e▸fm.mpr {(k,v),a0 h,rfl})];exact b nd.2 h
section
variable{s:hD}{d f it S:hF}{es:Array DictEntry}{ep:Nat}{ay:List (List Key×V)}{cf:Nat->Int}{R:Result->hD->Prop}
def IH(I:zv2 s)(e:H d=gF (.dT ay)):(d==sysModules)=gU/\(ay.map (·.1)).Nodup/\∃o es ep,s.heap.get? d=gF o/\o.ExactDict/\o.data=.dict es ep/\es.size=ay.length/\∀(i:Nat) (h:i<es.size),∃b k v,es[i].key=.ref b/\ay[i]?=gF (k,v)/\H b=gF (.tup (k.map kV)):=by let(a,nd,o,es,ep,c,g,j,hl,hk):=D6 (I.aN d _ e);exact{a,nd,o,es,ep,c,g,j,hl,λi m=>let⟨b,k,v,p,q,r,_⟩:=hk i m;⟨b,k,v,p,q,r⟩}
def gh.pin{b:hF}{ob:Obj}(h:gh X ae H b)(e:s.heap.get? b=gF ob)(n:∀v,ob.data≠.cell v):s.heap.get? b=gF ob/\H b=gK/\b≠X.env.locals/\b∉X.fs/\∀v,ob.data≠.cell v:=⟨e,h.1,h.2.1,h.2.2.1,n⟩
def E9(M:KM X σ H kk d f ay cf)(I:zv2 s)(N:gh X ae H it)(O:gh X ae H S)(P:s.heap.get? d=gF o){e oS:Obj}(T:s.heap.get? it=gF e)(U:∀v,e.data≠.cell v)(W:s.heap.get? S=gF oS)(Y:∀v,oS.data≠.cell v)
 (nd:(ay.map (·.1)).Nodup) {i:Nat} {k:List Key}  {b:hF} (hk:ay[i]?=gF (k,v)) (Z:H b=gF (.tup (k.map kV))) {E:kd} {Q:kd}
 (h:∀t s',Inv X ae σ H s'->s'.heap.get? d=gF o->s'.heap.get? it=gF e->s'.heap.get? S=gF oS->Q (.int (cf i) t) s'):hJ (hV X.prog X.w) X.A.in1 (call (.ref f) [.ref b]) Q E s:=by
 let(p,y,C,body,D,F,c,c',oc,dM,ct,pm,gN,iy,L,G,l2,l3,l4,l5,l6,l7,l8,l9,g):=M.lam;let(q,r,rfl,hq):=M.cost i k v hk
 have I1:Inv X ((it,e)::(S,oS)::ae) σ H s:=by
  refine I.jn λp a=>?_
  rcases ey.mp a with rfl|a
  .exact N.pin T U
  .rcases ey.mp a with rfl|a
   .exact O.pin W Y
   .exact I.pin p (c3 _ a)
 have cell:s.heap.IsCell c (gF (.ref d)):=by
  let(m,_,j):=I.loc;let(u,ru,lk):=j iy y (.ref d) l8 l9 (.inr (.inl g))
  cases(show u=hB.ref d from ru);rcases lk with⟨z,_⟩|⟨_,c2,B,z⟩
  .have K:X.env.scope.names.lookup y=gF .local:=z;rw [g] at K;cases K
  .rw [G] at B;cases B;exact z
 refine wpAny_mono (E5 (kk:=kk) rfl L M.room I1 M.dt P G l2 cell l3 l4 l5 l6 l7 Z (Li nd hk) hq) (λu s' hu=>?_) λ_ _ z=>z;let((t,rfl),J,hd):=hu;refine h t s' (J.jn λp a=>J.pin p (c3 _ (.tail _ (.tail _ a)))) hd (J.pin (it,e) (c3 _ (.head _))).1 (J.pin (S,oS) (c3 _ (.tail _ (.head _)))).1
def nV{c:Nat}{xs ys:Array hB}(e:h.get? S=gF (kc "list" xs c)):∃a,(h.update S (Obj.mapSeq λZ=>ys)).get? S=gF (kc "list" ys a):={_,get?_update_seq e λZ=>ys}
def pK{xs:Array hB}{c:Nat}:∀v,(kc "list" xs c).data≠.cell v:=λv z=>nomatch z
def Fq(M:KM X σ H kk d f ay cf)(hh:X.A.handled=gK)(hd:o.data=.dict es ep)(hl:es.size=ay.length)(xi:∀(i:Nat) (h:i<es.size),∃b k v,es[i].key=.ref b/\ay[i]?=gF (k,v)/\H b=gF (.tup (k.map kV)))(nd:(ay.map (·.1)).Nodup)
 (g:gh X ae H it) (m:gh X ae H S) (nS:S≠it) (hR:∀(i:Nat) (h:i<es.size) s',(∀j,j<es.size->cf i<=cf j/\(j<i->cf i<cf j))->Inv X ae σ H s'->R (.ok (.ret es[i].key)) s'):
 ∀(r j i:Nat) (s:hD) (t:Tok) (c:Nat) (G:i<es.size),es.size-(j+1)=r->j+1<=es.size->zv2 s->s.heap.get? d=gF o->s.heap.IsKeyIter it d (j+1) es.size ep->s.heap.get? S=gF (kc "list" #[es[i].key,.int (cf i) t] c)->i<=j->(∀p,p<=j->cf i<=cf p/\(p<i->cf i<cf p))->
  codeAny (hV X.prog X.w) X.A (.builtin "min.loop" {[.ref it,.ref f,.ref S],[]}) R s:=by
 have q:(toString "min"++toString ".loop":String)="min.loop":=by decide
 have WJ:S≠d:=λz=>by have:=m.1;rw [z,M.dt] at this;cases this
 have WK:it≠d:=λz=>by have:=g.1;rw [z,M.dt] at this;cases this
 intro r
 induction r with
 |zero=>intro j i s t c G hr hj I K st C xh a;refine codeAny_builtin PySem.F.entry_min_loop ?_;rw [gr PySem.F.plain_min_loop _];show hJ _ X.A.in1 (seqItems? (.ref S)>>=λz=>_) _ _ _;refine ak (wpAny_seqItems C rfl ?_);show hJ _ X.A.in1 (tryCatch (pyNext (.ref it)) _>>=λz=>_) _ _ _;refine ak (wpAny_tryCatch (xR hh st K hd (by lia) λh' V=>?_));have L:=V S _ nS C;have N:=I.turned (h':=h') (t':=s.toks) (λb o u e=>V b o u e) g.1 g.2.1 g.2.2.2.1 g.2.2.2.2.1 g.2.2.2.2.2;show hJ _ X.A.in1 (updateSeq S (λ_=>#[])>>=λz=>_) _ _ _;refine ak (wpAny_updateSeq L rfl (ak (wpAny_letGo (a8 ?_))));have y:=ff h' S (Obj.mapSeq λ_=>(#[]:Array hB));exact hR i G _ (λp W=>a p (by lia)) (N.turned (t':=s.toks) (λb o u e=>(y.2 b u).trans e) m.1 m.2.1 m.2.2.2.1 m.2.2.2.2.1 m.2.2.2.2.2)|succ r Y=>
  intro j i s t c G hr hj I K st C xh a;have D:j+1<es.size:=by lia
  refine codeAny_builtin PySem.F.entry_min_loop ?_;rw [gr PySem.F.plain_min_loop _];show hJ _ X.A.in1 (seqItems? (.ref S)>>=λz=>_) _ _ _;refine ak (wpAny_seqItems C rfl ?_);show hJ _ X.A.in1 (tryCatch (pyNext (.ref it)) _>>=λz=>_) _ _ _;refine ak (wpAny_tryCatch (nE st K hd D λh' iz O=>?_));have L:=(O.2 S nS).trans C;have kh:=(O.2 d (Ne.symm WK)).trans K;have N:=I.turned (h':=h') (t':=s.toks) (λb o u e=>(O.2 b u).trans e) g.1 g.2.1 g.2.2.2.1 g.2.2.2.2.1 g.2.2.2.2.2;let(Z,gi,gc,Q):=id iz;let(b,k,v,e1,e2,e3):=xi (j+1) D;rw [e1];show hJ _ X.A.in1 (tryCatch (holding [hB.ref b] (call (.ref f) [hB.ref b])) _>>=λz=>_) _ _ _;refine ak (wpAny_tryCatch (wpAny_holding (E9 M N g m kh gi (λv z=>by rw [Q] at z;cases z) L pK nd e2 e3 λB T I2 UH Jo U=>?_)));have Tq:T.heap.IsKeyIter it d (j+1+1) es.size ep:=⟨Z,Jo,gc,Q⟩;show hJ _ X.A.in1 (tryCatch (holding [hB.ref b,.int (cf (j+1)) B] (richCompare .Lt (.int (cf (j+1)) B) (.int (cf i) t)>>=λz=>_)) _>>=λz=>_) _ _ _;refine ak (wpAny_tryCatch (wpAny_holding (ak (CmpOf.ints_lt (prog:=X.prog) (w:=X.w) (A:=X.A.in1) (P:=λi v=>∃t,v=.int (cf i) t) cf (λi v h=>h) (j+1) i _ _ _ _ _ ⟨B,rfl⟩ ⟨t,rfl⟩ ?_))));refine ak (wpAny_holding (wpAny_truthy_bool (ak (wpAny_letGo (a8 ?_)))));by_cases o8:cf (j+1)<cf i
  .let(c2,E):=nV (ys:=#[hB.ref b,.int (cf (j+1)) B]) U;have y:=ff T.heap S (Obj.mapSeq λ_=>#[hB.ref b,.int (cf (j+1)) B]);simp! [o8,decide_true,if_true];refine ak (wpAny_updateSeq U rfl (ak (wpAny_letGo ?_)));rw [q];rw [<-e1] at E y⊢;refine a8 {plainId_quiet PySem.F.plain_min_loop _,Y (j+1) (j+1) _ B c2 D (by lia) D (I2.turned (t':=T.toks) (λb o u e=>(y.2 b u).trans e) m.1 m.2.1 m.2.2.2.1 m.2.2.2.2.1 m.2.2.2.2.2) ?_ ?_ ?_ (a5 _) λp W=>?_}
   .exact(y.2 d (Ne.symm WJ)).trans UH
   .exact{Z,(y.2 it (Ne.symm nS)).trans Jo,gc,Q}
   .exact E
   .by_cases e:p=j+1
    .subst e;exact{by lia,λ_=>by lia}
    .have:=a p (by lia);exact{by lia,λ_=>by lia}
  .simp! [o8,decide_false,en,if_false];refine ak (wpAny_letGo ?_);rw [q];refine a8 {plainId_quiet PySem.F.plain_min_loop _,Y (j+1) i _ t c G (by lia) D I2 UH Tq U (by lia) λp W=>?_};by_cases e:p=j+1
   .subst e;exact{by lia,λ_=>by lia}
   .exact a p (by lia)
def Bp(M:KM X σ H kk d f ay cf)(gQ:0<ay.length)(I:zv2 s)
 (q:∀i k v b,ay[i]?=gF (k,v)->H b=gF (.tup (k.map kV))->(∀j,j<ay.length->cf i<=cf j/\(j<i->cf i<cf j))->Q (.ref b) H):zx7 X (call (.builtin "min") [.ref d] [(Str.ofString "key",.ref f)]) (EP X ae σ Q) X.xe s:=by
 have c:(toString "min"++toString ".loop":String)="min.loop":=by decide
 have Z:X.A.handled=gK:=M.hd;let(lo,nd,o,es,ep,C,hx,hd,hl,D):=IH I M.dt;have E:∀(i:Nat) (h:i<es.size) G,(∀j,j<es.size->cf i<=cf j/\(j<i->cf i<cf j))->Inv X ae σ H G->EP X ae σ Q es[i].key G:=λi h G b J=>by let(a,k,v,t,K,L):=D i h;rw [t];exact{.ref a,H,J,rfl,q i k v a K L λj hj=>b j (by lia)}
 refine kmk_tree PySem.F.kind_min PySem.F.plain_min PySem.F.entry_min (kmk_min_key _ _) ?_;show hJ _ X.A.in1 (i1.Builtins.bindParams "min" ["key","default"] 0 {[],[(Str.ofString "key",.ref f)]}>>=λz=>_) _ _ s;refine ak (wpAny_of_eq (show i1.Builtins.bindParams "min" ["key","default"] 0 {[],[(Str.ofString "key",.ref f)]}=pure [gF (.ref f),gK] from rfl) (ak (a8 ?_)));refine ak (tQ lo C hx hd (ak (wpAny_newList ?_ (Nat.zero_le _))));rw [c];generalize hit:(zz9 s)=it;generalize p:(s.heap.push {cls:=.type (zu 21),data:=.fields #[.ref d,.int 0 0,.int es.size 0,.int ep 0]}).objs.size=S;have eS:S=it+1:=by rw [<-p,<-hit];exact size_push' ..
 have nS:S≠it:=by lia
 have T:(zz9 s)<=S:=by lia
 have g:gh X ae H it:=by rw [<-hit];exact I.o5 (a5 _) (I.aN.fresh (a5 _))
 have m:gh X ae H S:=I.o5 T (I.aN.fresh T);have keep:∀b N,s.heap.get? b=gF N->((s.heap.push {cls:=.type (zu 21),data:=.fields #[.ref d,.int 0 0,.int es.size 0,.int ep 0]}).push (kc "list" #[] 0)).get? b=gF N:=λb N e=>ar _ (ar _ e);have I1:=I.kept (t':=s.toks) keep;have gI:((s.heap.push {cls:=.type (zu 21),data:=.fields #[.ref d,.int 0 0,.int es.size 0,.int ep 0]}).push (kc "list" #[] 0)).get? it=gF {cls:=.type (zu 21),data:=.fields #[.ref d,.int 0 0,.int es.size 0,.int ep 0]}:=by rw [<-hit];exact ar _ (dJ _ rfl)
 have U:((s.heap.push {cls:=.type (zu 21),data:=.fields #[.ref d,.int 0 0,.int es.size 0,.int ep 0]}).push (kc "list" #[] 0)).get? S=gF (kc "list" #[] 0):=by rw [<-p];exact dJ _ rfl
 have WJ:S≠d:=λz=>by have:=m.1;rw [z,M.dt] at this;cases this
 have WK:it≠d:=λz=>by have:=g.1;rw [z,M.dt] at this;cases this
 refine a8 {plainId_quiet PySem.F.plain_min_loop _,codeAny_builtin PySem.F.entry_min_loop ?_};rw [gr PySem.F.plain_min_loop _];show hJ _ X.A.in1 (seqItems? (.ref S)>>=λz=>_) _ _ _;refine ak (wpAny_seqItems U rfl ?_);show hJ _ X.A.in1 (tryCatch (pyNext (.ref it)) _>>=λz=>_) _ _ _;have u:0<es.size:=by lia
 refine ak (wpAny_tryCatch (nE (i:=0) {_,gI,rfl,rfl} (keep _ _ C) hd u λh' iz O=>?_));have uN:=(O.2 S nS).trans U;have kh:=(O.2 d (Ne.symm WK)).trans (keep _ _ C);have I2:=I1.turned (h':=h') (t':=s.toks) (λb o P e=>(O.2 b P).trans e) g.1 g.2.1 g.2.2.2.1 g.2.2.2.2.1 g.2.2.2.2.2;let(oi,gi,gc,V):=id iz;let(b,k,v,t,K,L):=D 0 u;rw [t];show hJ _ X.A.in1 (tryCatch (holding [hB.ref b] (call (.ref f) [hB.ref b])) _>>=λz=>_) _ _ _;refine ak (wpAny_tryCatch (wpAny_holding (E9 M I2 g m kh gi (λv z=>by rw [V] at z;cases z) uN pK nd K L λy W I3 UH Jo Y=>?_)));let(c2,r):=nV (ys:=#[hB.ref b,.int (cf 0) y]) Y;have B:=ff W.heap S (Obj.mapSeq λ_=>#[hB.ref b,.int (cf 0) y]);show hJ _ X.A.in1 (updateSeq S (λ_=>#[hB.ref b,.int (cf 0) y])>>=λz=>_) _ _ _;refine ak (wpAny_updateSeq Y rfl ?_);rw [c];rw [<-t] at r B⊢;refine a8 {plainId_quiet PySem.F.plain_min_loop _,Fq M Z hd hl D nd g m nS E _ 0 0 _ y c2 u rfl u (I3.turned (t':=W.toks) (λb o P e=>(B.2 b P).trans e) m.1 m.2.1 m.2.2.2.1 m.2.2.2.2.1 m.2.2.2.2.2) ((B.2 d (Ne.symm WJ)).trans UH) {oi,(B.2 it (Ne.symm nS)).trans Jo,gc,V} r (a5 _) λj' EG=>?_};have e:j'=0:=by lia
 subst e;exact{by lia,λh=>absurd h (Nat.lt_irrefl _)}
end
end L2
namespace L2
open PySem.Spec PyProof.Rows PySem.W
abbrev mO{b:Type}(a:b)(l:List b)(nss:ku):List b:=if l.length<2 then l else(mK l.length λi j=>HT.lexLt (nss.getD i []) (nss.getD j [])).map λi=>l.getD i a
section
variable{E:kd}{s:hD}{vs:List hB}
def GP{n:Nat}{P:PySem.Fin->hD->Prop}(g:s.heap.get? a=gF (kc "list" vs.toArray n))(z:vs.length<2)
 (h:∀h' c,(∀b o,b≠a->s.heap.get? b=gF o->h'.get? b=gF o)->h'.get? a=gF (kc "list" vs.toArray c)->P (.done (.ret .none)) {s with heap:=h'}):hJ (hV prog w) A (i1.«list.sort» {[.ref a],[]}) P E s:=by
 have p:=ff s.heap a (Obj.mapSeq λZ=>(#[]:Array hB));let(q,d):=pW (ys:=(#[]:Array hB)) g;generalize i:(((s.heap.update a (Obj.mapSeq λZ=>(#[]:Array hB))).push (kc "tuple" vs.toArray 0)).push (kc "list" #[] 0))=H1;have r:∀b o,b≠a->s.heap.get? b=gF o->H1.get? b=gF o:=λb o f e=>by rw [<-i];exact ar _ (ar _ ((p.2 b f).trans e))
 have j:H1.get? a=gF (kc "list" #[] q):=by rw [<-i];exact ar _ (ar _ d)
 rw [list_sort_plain];refine ak (listItems_at g rfl (ak (listUpdate_at g rfl ?_ (by rw [aT,sizeLine_eq];lia) (Nat.zero_le _))));refine ak (seqEpoch_at d rfl (ak (wpAny_newTuple ?_ (by show vs.length<=_;rw [sizeLine_eq];lia))));refine ak (wpAny_newList ?_ (Nat.zero_le _));refine wpAny_holding ?_;show hJ (hV prog w) A _ P E {s with heap:=((s.heap.update a (Obj.mapSeq λZ=>(#[]:Array hB))).push (kc "tuple" vs.toArray 0)).push (kc "list" #[] 0)};rw [i];dsimp only;have m:vs.toArray.size<2:=by rw [aT];lia
 rw [if_pos m,if_pos m];refine ak (a8 (ak ?_));show hJ (hV prog w) A (pure ((),SortSt.mk' general' (vs.toArray.zip vs.toArray) #[] 7 gK)) _ E _;refine a8 ?_;dsimp only;have t:(arrOf (SortSt.mk' general' (vs.toArray.zip vs.toArray) #[] 7 gK)).map (·.2)=vs.toArray:=by show(vs.toArray.zip vs.toArray).map (·.2)=vs.toArray;apply Array.toList_inj.mp;simp! [Array.toList_map,Array.toList_zip];exact List.map_snd_zip (a5 _)
 rw [t];have u:=ff H1 a (Obj.mapSeq λZ=>vs.toArray);let(y,k):=pW (ys:=vs.toArray) j;refine ak (seqEpoch_at j rfl (ak (listUpdate_at j rfl ?_ (Nat.zero_le _) (by rw [aT,sizeLine_eq];lia))));simp! [bne_self_eq_false,en,if_false];exact a8 (h _ y (λb o f e=>(u.2 b f).trans (r b o f e)) k)
def GO{n:Nat}{P:PySem.Fin->hD->Prop}(f:s.heap.get? a=gF (kc "list" vs.toArray n))(g:vs.length<64)(rd:2<=vs.length->∀h',(∀b o,b≠a->s.heap.get? b=gF o->h'.get? b=gF o)->QV prog w A E vs (λi j=>HT.lexLt (nss.getD i []) (nss.getD j [])) {s with heap:=h'})
 (h:∀h' c,(∀b o,b≠a->s.heap.get? b=gF o->h'.get? b=gF o)->h'.get? a=gF (kc "list" (mO hB.none vs nss).toArray c)->P (.done (.ret .none)) {s with heap:=h'}):hJ (hV prog w) A (i1.«list.sort» {[.ref a],[]}) P E s:=by
 by_cases d:vs.length<2
 .exact GP f d λh' c k e=>h h' c k (by unfold mO;rw [if_pos d];exact e)
 .exact C3 f (by lia) g (rd (by lia)) λh' c k e=>h h' c k (by unfold mO;rw [if_neg d];exact e)
def wQ{d:hF}{es:Array DictEntry}{p:Nat}(u:(d==sysModules)=gU)(j:o.ExactDict)(hd:o.data=.dict es p):KdlSrc prog w "dict" d d es.size (λi v=>∃h:i<es.size,v=es[i].key) (λh=>h.get? d=gF o) where
 type:=λs e=>⟨o,e,j.1⟩
 there:=λh e=>{cB e,cB e}
 keep:=λh g e k=>k d (.inl rfl) o e
 notList:=by decide
 notTuple:=by decide
 hint:=λA E s Q e q=>kdl_hint_dict ⟨o,e,j.1⟩ q
 iter:=λA s B e=>{_,λi h=>h.IsKeyIter (zz9 s) d i es.size p/\h.get? d=gF o,(λE Q q=>tQ u e j hd q),{
  sub:=λb c=>by simp at c;simp [c]
  frame:=λZ Z Z st hk=>{st.1.at λo e=>hk _ (by simp) o e,hk d (by simp) o st.2}
  item:=λi m Q E r st f=>nE st.1 st.2 hd r λg C t=>f _ g m.toks ⟨r,rfl⟩ {C,(t.2 d (d0 (cB e))).trans st.2} λb o c z=>(t.2 b (λy=>c (by simp [y]))).trans z
  done:=λm Q E st f=>xR B st.1 st.2 hd (a5 _) λg D=>f g m.toks λb o c z=>D b o (λy=>c (by simp [y])) z
  self:=λZ Z Z Z st f=>wpAny_pyIter_keyiter st.1 f},{{_,dJ _ rfl,rfl,rfl},ar _ e}}
def vk{Q:List hB->hD->Prop}{T:String}{r d:hF}{n:Nat}{P:Nat->hB->Prop}{j:h9->Prop}(K:KdlSrc prog w T r d n P j)(m:A.handled=gK)(aN:j s.heap)(p:n<=ic)
 (q:∀h' tk (acc:Array hB),(∀b o,s.heap.get? b=gF o->h'.get? b=gF o)->ItemsOf P acc n->Q acc.toList {s with heap:=h',toks:=tk}):hJ (hV prog w) A (collect (.ref r)) Q E s:=by
 have t:(s.heap.push (kc "list" #[] 0)).get? (zz9 s)=gF {cls:=.type "list",data:=.seq #[] 0}:=dJ _ rfl;have k:=K.there _ aN
 have h:codeAny (hV prog w) A (.builtin "proto.collect" {[.ref r],[]}) (λc i=>∃h' tk f g,c=.ok (.ret (.ref (zz9 s)))/\i={s with heap:=h',toks:=tk}/\(∀b o,s.heap.get? b=gF o->h'.get? b=gF o)/\h'.get? (zz9 s)=gF {cls:=.type "list",dict:=gK,data:=.seq f g,slots:=#[]}/\ItemsOf P f n) s:=by
  refine codeAny_builtin F.entry_proto_collect ?_;rw [gr F.plain_proto_collect _];show hJ _ A.in1 (newList []>>=λl=>again (.builtin "list.__iadd__" {[l,.ref r],[]})) _ _ s
  refine ak (wpAny_newList (a8 {plainId_quiet F.plain_list_iadd _,codeAny_builtin F.entry_list_iadd ?_}) (Nat.zero_le _));rw [gr F.plain_list_iadd _];exact kdl_extend (R:=λc i=>∃h' tk f g,c=.ok (.ret (.ref (zz9 s)))/\i={s with heap:=h',toks:=tk}/\(∀b o,s.heap.get? b=gF o->h'.get? b=gF o)/\h'.get? (zz9 s)=gF {cls:=.type "list",dict:=gK,data:=.seq f g,slots:=#[]}/\ItemsOf P f n)
   (s:={s with heap:=s.heap.push (kc "list" #[] 0)}) (A:=A) K m (K.keep _ _ aN λb Z o e=>ar _ e) _ (Nat.ne_of_gt k.1) (Nat.ne_of_gt k.2) (.ref (zz9 s)) 0 t (λh' tk f g hk u y=>{h',tk,f,g,rfl,rfl,λb o e=>hk b o (d0 (cB e)) (ar _ e),u,y}) p
 unfold collect;refine ak (wpAny_runValue (codeAny_mono h λc i B=>?_));let(h',tk,f,g,rfl,rfl,C,D,G):=B;show hJ _ A (load (zz9 s)>>=λz=>_) _ _ _;exact ak (wpAny_load D (a8 (q h' tk f C G)))
end
noncomputable abbrev mf(K:zz8)(H:Hp)(vs:List V)(nss:ku):Prop:=Paired (λv a=>∃b,v=V.ref b/\gf K H b (a.map V.int)/\a≠[]) vs nss
section
variable{s:hD}{E:kd}
def Le(I:zv2 s):∀{vs:List V} {us:List hB} {nss:ku},Vals vs us->mf X.K H vs nss->og s.heap us nss:=by
 intro vs us nss r t
 induction t generalizing us with
 |nil=>cases r;exact .nil
 |cons h t a=>
  let(b,rfl,c,d):=h
  cases r with
  |cons e f=>cases(show _=hB.ref b from e);let(g,i,(o,j,k,n,m),_):=I.tuple c;exact .cons {b,o,g.toArray,n,rfl,j,k,m,zx6 i,d} (a f)
def Ho(r:Vals vs us):Vals (mO V.aC vs nss) (mO hB.none us nss):=by
 have hl:=r.length;unfold mO;rw [hl];split
 .exact r
 .have go:∀l:List Nat,Vals (l.map λi=>vs.getD i V.aC) (l.map λi=>us.getD i hB.none):=by
   intro l
   induction l with
   |nil=>exact .nil|cons i l d=>
    refine .cons ?_ d;dsimp only;by_cases a:i<vs.length
    .let(u,e,f):=r.get (zzg a);have b:vs.getD i V.aC=vs[i]:=by simp [a]
     have c:us.getD i hB.none=u:=by simp [e]
     rw [b,c];exact f
    .have b:vs.getD i V.aC=.aC:=by simp [Nat.le_of_not_lt a]
     have c:us.getD i hB.none=.none:=by simp [Nat.le_of_not_lt (hl▸a)]
     rw [b,c];exact rfl
  exact go _
def K0{a:Type}{d:a}{l:List a}:(mO d l nss).length=l.length:=by
 unfold mO;split
 .rfl
 .rename_i h;rw [zzl,(i5 (by omega) _).length_eq,List.length_range]
def kG(I:zv2 s)(r:Vals vs us)(rd:2<=us.length->∀h',(∀b o,s.heap.get? b=gF o->h'.get? b=gF o)->QV X.prog X.w A.in1 E us (λi j=>HT.lexLt (nss.getD i []) (nss.getD j [])) {s with heap:=h'})(h:vs.length<64)(q:∀p,H p=gK->Q (.ref p) (upd H p (.lst (mO V.aC vs nss)))):
 hJ (hV X.prog X.w) A (newList us>>=λl=>holding [l] (call (.builtin "list.sort") [l] [])>>=λZ=>ret l) (λd s'=>∃v,d=.done (.ret v)/\EP X ae σ Q v s') E s:=by
 have hl:=r.length;refine ak (wpAny_newList ?_ (by rw [sizeLine_eq];lia));have f:(s.heap.push (kc "list" us.toArray 0)).get? (zz9 s)=gF (kc "list" us.toArray 0):=dJ _ rfl;have kp:∀b o,s.heap.get? b=gF o->(s.heap.push (kc "list" us.toArray 0)).get? b=gF o:=λb o e=>ar _ e;refine ak (wpAny_holding (wpAny_call_entry slot_list_sort {_,f,rfl} entry_list_sort ?_ (args_list_sort _)));refine GO (s:={s with heap:=s.heap.push (kc "list" us.toArray 0)}) f (by lia) (λg h' k=>rd g h' λb o e=>k b o (d0 (cB e)) (kp b o e)) λh' c k e=>{_,rfl,a8 {_,rfl,.ref (zz9 s),upd H (zz9 s) (.lst (mO V.aC vs nss)),?_,rfl,q _ (I.aN.fresh (a5 _))}};exact I.laid (a:=(zz9 s)) (t':=s.toks) (λb o z=>k b o (d0 (cB z)) (kp b o z)) (a5 _) {by rw [K0,sizeLine_eq];lia,_,c,Ho r,e}
theorem pT(I:zv2 s)(r:Vals vs us)(t:mf X.K H vs nss)(a:2<=us.length)(h':h9)(k:∀b o,s.heap.get? b=gF o->h'.get? b=gF o):QV X.prog X.w A E us (λi j=>HT.lexLt (nss.getD i []) (nss.getD j [])) {s with heap:=h'}:=Gq (s:={s with heap:=h'}) ((Le I r t).keep λb o e Z=>k b o e) a
def sR:cG X (.builtin "sorted") (λxs H Q=>∃a vs nss,xs=[V.ref a]/\gR X.K H a vs/\mf X.K H vs nss/\vs.length<64/\∀p,H p=gK->Q (.ref p) (upd H p (.lst (mO V.aC vs nss)))):=by
 intro ae s σ H xs us Q I r h;let(a,vs,nss,rfl,hl,t,g,q):=h;let(u,rfl,i):=vals1 r;cases i;let(j,c,p,k):=I.list hl;refine Calls.call_function_entry kind_sorted plain_sorted entry_sorted (args_sorted1 _) ?_;unfold i1.«sorted»;refine ak (m:=checkCount "sorted" 1 1 _) (a8 (ak (collect_list p.isList ?_ (by have:=c.length;rw [sizeLine_eq];lia))));have d:=I.kept (t':=s.toks) (h':=(s.heap.push (kc "list" #[] 0)).update (zz9 s) (Obj.mapSeq (·++j.toArray))) λb o e=>by have f:b<(zz9 s):=cB e;rw [h9.get?_update_ne _ _ _ _ (d0 f),h9.get?_push_ne _ _ _ (d0 f)];exact e
 exact kG d c (pT d c t) g q
def BE{d:hF}{a:List (List Key×V)}(I:zv2 s)(e:Rd H d (.dT a)):(d==sysModules)=gU/\∃o es c,s.heap.get? d=gF o/\o.ExactDict/\o.data=.dict es c/\es.size=a.length/\∀(i:Nat) (h:i<es.size),∃b k v,es[i].key=.ref b/\a[i]?=gF (k,v)/\H b=gF (.tup (k.map kV))/\RelV v es[i].val:=by
 have ok:cx X.prog X.w H s.heap d (.dT a):=by
  rcases e with e|⟨o,e⟩
  .exact I.aN d _ e
  .exact(I.aN d _ e).2
 let(f,_,r):=D6 ok;exact⟨f,r⟩
def zD{d:hF}{a:List (List Key×V)}(I:zv2 s)(e:Rd H d (.dT a)):(d==sysModules)=gU/\∃o es c,s.heap.get? d=gF o/\o.ExactDict/\o.data=.dict es c/\es.size=a.length/\∀(i:Nat) (h:i<es.size),∃b k v,es[i].key=.ref b/\a[i]?=gF (k,v)/\H b=gF (.tup (k.map kV)):=by let(f,o,es,c,g,j,m,hl,hk):=BE I e;exact{f,o,es,c,g,j,m,hl,λi p=>let⟨b,k,v,q,r,t,_⟩:=hk i p;⟨b,k,v,q,r,t⟩}
def vR(I:zv2 s){a:hF}{e:List (List Key×V)}{es:Array DictEntry}{c:Array hB}(hk:e.map (·.1)=nss.map (·.map .inl))(C:es.size=e.length)(j:∀(i:Nat) (h:i<es.size),∃b k v,es[i].key=.ref b/\e[i]?=gF (k,v)/\H b=gF (.tup (k.map kV)))(it:ItemsOf (λi v=>∃h:i<es.size,v=es[i].key) c es.size):∃vs:List V,Vals vs c.toList/\Paired (λv ns=>∃b,v=V.ref b/\H b=gF (.tup (ns.map V.int))) vs nss:=by
 have m:nss.length=e.length:=by have:=congrArg List.length hk;simpa using this.symm
 have hs:c.toList.length=nss.length:=by rw [el,it.1];lia
 have d:∀(i:Nat) v ns,c.toList[i]?=gF v->nss[i]?=gF ns->∃b,v=.ref b/\H b=gF (.tup (ns.map V.int)):=λi v ns f g=>by
  let(o,d):=it.2 i v (by rw [<-Array.getElem?_toList];exact f);let(b,k,x,p,q,r):=j i o;refine{b,d.trans p,?_};have t:k=ns.map .inl:=by have:=congrArg (λl=>l[i]?) hk;simp! [cS,q,g,Option.map_some] at this;exact zzq this
  rw [r,t,List.map_map];rfl
 clear it j hk I;generalize c.toList=us at hs d;clear m
 induction nss generalizing us with
 |nil=>cases us with
  |nil=>exact{[],.nil,.nil}|cons u us=>simp at hs
 |cons ns nss w=>
  cases us with
  |nil=>simp at hs|cons u us=>let(vs,y,z):=w us (zx6 hs) λi v ns f g=>d (i+1) v ns (zx6 f) (zx6 g);let(b,rfl,B):=d 0 u ns rfl rfl;exact{.ref b::vs,.cons rfl y,.cons ⟨b,rfl,B⟩ z}
def sQ(i:X.calm=gS):cG X (.builtin "sorted") (λxs H Q=>∃a d nss,xs=[V.ref a]/\Rd H a (.dT d)/\d.map (·.1)=nss.map (·.map .inl)/\(∀ns∈nss,ns≠[])/\d.length<64/\
 ∀p vs,H p=gK->Paired (λv ns=>∃b,v=V.ref b/\H b=gF (.tup (ns.map V.int))) vs nss->Q (.ref p) (upd H p (.lst (mO V.aC vs nss)))):=by
 intro ae s σ H xs us Q I r h;let(a,d,nss,rfl,hl,hk,g,j,q):=h;let(u,rfl,k):=vals1 r;cases k;let(w,o,O,P,y,z,B,C,D):=zD I hl;refine Calls.call_function_entry kind_sorted plain_sorted entry_sorted (args_sorted1 _) ?_;unfold i1.«sorted»;refine ak (m:=checkCount "sorted" 1 1 _) (a8 (ak (vk (wQ w z B) (show X.A.in1.handled=gK from I.ok.hd i) y (by rw [sizeLine_eq];lia) λh' F G kp it=>?_)));have e:=I.kept (t':=F) (h':=h') kp;let(vs,f,pv):=vR e (a:=a) hk C D it;have c:vs.length<64:=by have:=Paired.length pv;have K:=congrArg List.length hk;simp at K;lia
 refine kG e f (pT e f ?_) c λp L=>q p vs L pv;clear c f hk j q
 induction pv with
 |nil=>exact .nil|cons h t M=>let(b,rfl,N):=h;exact .cons {b,rfl,.inl (.inl N),g _ (.head _)} (M λns hm=>g ns (.tail _ hm))
def xH(g:X.calm=gS):cG X (.type "list") (λxs H Q=>∃a d,∃nss:ku,xs=[V.ref a]/\Rd H a (.dT d)/\d.map (·.1)=nss.map (·.map .inl)/\d.length<=ic/\
 ∀p vs,H p=gK->Paired (λv ns=>∃b,v=V.ref b/\H b=gF (.tup (ns.map V.int))) vs nss->Q (.ref p) (upd H p (.lst vs))):=by
 intro ae s σ H xs us Q I r h;let(a,d,nss,rfl,hl,hk,D,q):=h;let(u,rfl,i):=vals1 r;cases i;let(j,o,F,G,k,m,t,w,y):=zD I hl;refine kdl_call (wQ j m t) (I.ok.hd g) k (by lia) λK z e c kp B it=>?_;let(vs,f,pv):=vR I (a:=a) hk w y it;have C:e.toList.length=vs.length:=f.length.symm;refine{.ref (zz9 s),upd H (zz9 s) (.lst vs),I.laid (a:=(zz9 s)) (t':=z) kp (a5 _) {?_,_,c,f,?_},rfl,q _ vs (I.aN.fresh (a5 _)) pv}
 .rw [<-C,el,it.1];lia
 .exact B
end
end L2
namespace L2
open PySem.Spec PyProof.Rows
open PySem.AutoSeq1 (wpAny_loadPart')
end L2
namespace Cw
open L2
end Cw
namespace L2
open PySem.Spec PyProof.Rows
def sO:cG X (.type "int") (λxs H Q=>∃z n,xs=[.str z]/\PySem.intText? z=gF n/\z.length<=640/\Q (.int n) H):=by intro c s d H xs e Q I r h;let(z,n,rfl,a,b,q):=h;let(u,rfl,t,rfl):=vals1 r;exact PySem.W.KIN.call_text a b {.int n,H,I.tok _,{_,rfl},q}
end L2
namespace Cw
open L2
end Cw
namespace L2
open PySem.Spec PyProof.Rows PySem.W
noncomputable abbrev lO(a:Array hB)(c:Nat):Obj:={cls:=.type "list",dict:=gK,data:=.seq a c,slots:=#[]}
noncomputable abbrev ZK(a:List (Int×Int)):List (Key×V):=a.map λq=>(.inl q.1,V.int q.2)
end L2
namespace L2
open PySem.Spec PyProof.Rows
abbrev lB(a C:hF):HO:=.ext λh=>∃b c,h.get? a=gF b/\b.cls=.ref C/\b.data=.fields c
def Dy.fresh{s s':hD}{E:XK}{C t:hF}{vs:List hB}{b:Hp}{B:h9}(F:Dy P w outer H s E a C t vs b B s'):b a=gK:=by
 cases z:b a with
 |none=>rfl|some o=>let(d,c):=mY (F.aN _ _ z);rw [F.BQ.2.1] at c;cases c
def Inv.DW{K:St}{s s':hD}{E:XK}{C t:hF}{vs:List hB}{y:Hp}{B:h9}{tk:Nat}(I:Inv X ae K H s)(F:Dy X.prog X.w X.stack H s E a C t vs y B s')
 (hf:h9.FlyingW B X.stack a (.ref C) (.ref t) h) (hs:s'.heap.UpToSlots h):Inv X ae K (upd y a (lB a C)) {s' with heap:=h,toks:=tk}:=by
 have p:=F.fresh;let(L,Q,A,R,M,_):=hf.first;have frame:∀b,b∈fh X.stack->∃o,h.get? b=gF o/\∀vs,o.data≠.fields vs:=λb e=>(hf.2.2.1.mem e).2
 have ne:∀b o,s.heap.get? b=gF o->b≠a:=λb o q z=>by
  subst z;by_cases e:b∈fh X.stack
  .let(j,i,hd):=frame b e;rw [A] at i;cases i;exact hd _ M
  .let(j,i):=F.du b o q e;rw [F.BQ.2.1] at i;cases i
 have slot:∀b o,s.heap.get? b=gF o->H b=gK->b∈fh X.stack->∃S,h.get? b=gF {o with slots:=S}:=λb o q n e=>by let(T,N):=F.un.any q n nofun;let(_,j,O,hd):=F.BQ.2.2.1.mem (b:=b) e;rw [N] at O;cases O;let(U,V):=hs b _ N hd;exact⟨U,V⟩
 have un:Un (fh X.stack) [] H (upd y a (lB a C)) s.heap h:=by
  refine{λb o q n e _=>hf.1 _ _ (F.eQ b o q n e),λb o q n e _=>slot b o q n e,λb o q n _=>?_,λb o q _=>?_,λb xs q=>?_,λb o u q=>?_,λb ps q=>?_}
  .rw [ah (ne b o q)];exact F.un.free b o q n nofun
  .by_cases e:b∈fh X.stack
   .let(j,i,_):=frame b e;exact⟨j,i⟩
   .let(j,f):=F.du b o q e;exact{j,hf.1 _ _ f}
  .have f:=F.un.iG b xs q;rw [ah (bZ f p)];exact f
  .have f:=F.un.fX b o u q;rw [ah (bZ f p)];exact f
  .let(m,f):=F.un.ip b ps q;exact{m,by rw [ah (bZ f p)];exact f}
 have aN:fe X.prog X.w (upd y a (lB a C)) h:=λb o q=>by
  by_cases e:b=a
  .subst e;rw [av] at q;cases q;exact{⟨L,Q,A,R,M⟩,⟨L,A⟩,λh1 h2 ⟨W,vs,Y,Z,e3⟩ k=>{W,vs,k _ Y,Z,e3}}
  .rw [ah e] at q;exact(F.aN b o q).eO (λc v hc r=>hf.1 _ _ r) (λc r=>by rw [ah (bZ r p)];exact r) λc xs r=>by rw [ah (bZ r p)];exact r
 let(hh,g,d,tt,D):=s';obtain rfl:D=s.os:=F.os;have G:=I.call (h':=h) (g':=g) (d':=d) (t':=tk) (ch:=[]) un aN F.bare (λb z=>absurd z (by simp));exact G
structure oh(K:zz8)(C:hF):Prop where
 ga:PySem.W.findIn K (.ref C) "__getattribute__"=gF (gF (.builtin (zu 5)))
 hk:PySem.W.findIn K (.ref C) "__getattr__"=gF gK
 cl:PySem.W.findIn K (.ref C) "__class__"=gF (gF (.builtin (zu 36)))
 mo:PySem.W.mroIn K C (.type "object")=gF gS
 mb:PySem.W.mroIn K C (.type (zu 27))=gF gS
 is:(PySem.W.clsIn K C).isSome=gS
section
variable{E:kd}{g:Array GenState}{d:Drawn}{t:Nat}{os:OsState}{x C:hF}{K:zz8}
def Qf{R:Result->hD->Prop}(X:K.In h)(Z:oh K C)(a:h.get? x=gF o)(b:o.cls=.ref C)(e:R (.ok (.ret (.ref C))) ⟨h,g,d,t,os⟩):
 codeAny (hV prog w) A (.call (.builtin "getset_descriptor.__get__") {[.builtin (zu 36),.ref x,.ref C],[]}) R ⟨h,g,d,t,os⟩:=by
 have hY:(⟨h,g,d,t,os⟩:hD).TypeIs (.builtin (zu 36)) "getset_descriptor":=F.typeOf_object_class;have c:PySem.W.Looks (hV prog w) h (isSubtype (.ref C) (.type (".".intercalate ((zu 36).cutAt '.').dropLast))) gS:=by rw [F.owner_object_class];exact PySem.W.looks_mroIn X Z.mo
 refine codeAny_call_builtin F.slot_gs_get.plain F.entry_gs_get (F.slot_gs_get.check _ _ _ _ _ _ _ _ hY (F.args_gs_get _ _ _) ?_)
 repeat (any_goals (first|assumption|(with_reducible refine wpAny_loadPart_at a ?_;rw [b])|(with_reducible refine c.at ?_)|wp_step))
 refine{Code.quiet_builtin _ (show _ by decide+kernel),codeAny_builtin F.entry_object_class ?_}
 repeat (any_goals (first|assumption|(with_reducible refine wpAny_loadPart_at a ?_;rw [b])|wp_step))
def Ht{tk:Tok}{Q:Fin->hD->Prop}(X:K.In h)(Z:oh K C)(a:h.get? x=gF o)(b:o.cls=.ref C)(e:Q (.done (.ret (.ref C))) ⟨h,g,d,t,os⟩):
 hJ (hV prog w) A (i1.«object.__getattribute__» {[.ref x,.str "__class__" tk],[]}) Q E ⟨h,g,d,t,os⟩:=by
 have hY:(⟨h,g,d,t,os⟩:hD).TypeIs (.builtin (zu 36)) "getset_descriptor":=F.typeOf_object_class;have f:=F.typeOf_object_class;have i:=F.slot_gs_get.lookup;have j:=F.slot_gs_set.lookup;have c:=PySem.W.looks_findIn (M:=hV prog w) X Z.cl
 repeat (any_goals (first|assumption|(with_reducible refine wpAny_loadPart_at a ?_;rw [b])|(with_reducible refine c.at ?_)|wp_step))
 refine Qf X Z a b ?_
 repeat (any_goals (first|assumption|wp_step))
def Hr{M:Model}{a:hB}{Q:Unit->hD->Prop}(X:K.In h)(Z:oh K C)(b:h.get? x=gF o)(c:o.cls=.ref C)(e:Q () ⟨h,g,d,t,os⟩):
 hJ M A (checkBuiltinCall (zu 5) {[.ref x,a],[]}) Q E ⟨h,g,d,t,os⟩:=by
 have f:builtinKind (zu 5)=gF .slot:=by decide+kernel
 have i:splitId (zu 5)=gF (zu 27,"__getattribute__"):=by decide+kernel
 have j:=PySem.W.looks_mroIn (M:=M) X Z.mb;have k:=F.args_bexc_ga (.ref x) a;simp! [checkBuiltinCall,f,i];refine ak ?_;unfold isInstance
 repeat (first|(with_reducible refine wpAny_loadPart_at b ?_;rw [c])|(with_reducible refine j.at ?_)|wp_step)
 exact e
def TQ{tk:Tok}{Q:kd}(X:K.In h)(Z:oh K C)(a:h.get? x=gF o)(b:o.cls=.ref C)(i:Q (.ref C) ⟨h,g,d,t,os⟩):
 hJ (hV prog w) A (getAttrBy (.ref x) (.str "__class__" tk) gU) Q E ⟨h,g,d,t,os⟩:=by
 have j:=F.excAttr_ValueError.ga.bind (.ref x);have c:(hB.builtin (zu 5)==hB.builtin "object.__getattribute__")=gU:=by decide+kernel
 have k:(onTheHeap (hB.ref C)&&hB.builtin (zu 5)==hB.builtin "object.__getattribute__")=gU:=by rw [c];rfl
 have e:=PySem.W.looks_findIn (M:=hV prog w) X Z.ga;have f:=PySem.W.looks_findIn (M:=hV prog w) X Z.hk
 repeat (any_goals (first|assumption|(with_reducible refine wpAny_loadPart_at a ?_;rw [b])|(with_reducible refine e.at ?_)|(with_reducible refine f.at ?_)|wp_step))
 refine codeAny_call_builtin F.excAttr_ValueError.ga.plain F.entry_bexc_ga (Hr X Z a b (Ht X Z a b ?_))
 repeat (any_goals (first|assumption|wp_step))
def Lm{Q:Option hB->hD->Prop}(X:K.In h)(Z:oh K C)(a:h.get? x=gF o)(b:o.cls=.ref C)(c:Q (gF (.ref C)) {h,g,d,t+1,os}):
 hJ (hV prog w) A (getAttr? (.ref x) "__class__") Q E ⟨h,g,d,t,os⟩:=by
 unfold getAttr? getAttrBy?
 repeat (any_goals (first|assumption|with_reducible apply TQ X Z a b|wp_step))
end
set_option tactic.hygienic true in
theorem vS{K:zz8}{x C:hF}(Z:oh K C):PySem.W.KitX K (.ref x) (.ref C) (λh=>∃ob,h.get? x=gF ob/\ob.cls=.ref C) where
 ty:=λM h Y p=>by let(ob,b,c):=p;exact c▸(PySem.W.Looks.ld b).andThen .now
 it:=λM h X Y=>by
  let(cd,a):=eK.mp Z.is;unfold PySem.W.clsIn at a;split at a
  .rename_i i d1 d Mh f;intro m o r t k q;unfold isType loadHead;exact ak (wpAny_loadPart (k _ _ (X _ _ f)) (a8 q))
  .cases a
 ne:=λh tp j u n y X g=>by
  let(cd,a):=eK.mp Z.is;refine Bool.eq_false_iff.mpr λq=>?_;have e:C=tp:=hB.ref.inj (zzy.mp q);subst e;unfold PySem.W.clsIn at a;split at a
  .rename_i i d1 d Mh f;have z:=(X _ _ f).symm.trans g;cases z
  .cases a
 ca:=λ{prog w A E Q s} X p k=>by let(ob,b,c):=p;let(B,D,j,F,G):=s;exact Lm X Z b c k
section
def Bj:cG X (.builtin (zu 31)) (λxs H Q=>∃(a C D:hF) (b:Bool),xs=[.ref a,.ref D]/\H a=gF (lB a C)/\oh X.K C/\PySem.W.kitOne X.K (.ref C) (.ref D)=gF b/\Q (.bl b) H):=by intro m s o H xs p Q I r h;let(a,C,D,b,rfl,d,Z,e,q):=h;let(u,t,rfl,f,c):=vals2 r;cases f;cases c;let((g,w,i,j,_),_):=I.aN _ _ d;exact PySem.W.kia_one (vS Z) I.rN ⟨g,i,j⟩ e nofun λk=>{.bl b,H,I.tok k,rfl,q}
def Bk:cG X (.builtin (zu 31)) (λxs H Q=>∃(a C:hF) (n:String) (b:Bool),xs=[.ref a,.ty n]/\H a=gF (lB a C)/\oh X.K C/\PySem.W.kitOne X.K (.ref C) (.type n)=gF b/\Q (.bl b) H):=by intro m s o H xs p Q I r h;let(a,C,n,b,rfl,d,Z,e,q):=h;let(u,t,rfl,f,c):=vals2 r;cases f;cases c;let((g,w,i,j,_),_):=I.aN _ _ d;exact PySem.W.kia_one (vS Z) I.rN ⟨g,i,j⟩ e nofun λk=>{.bl b,H,I.tok k,rfl,q}
def FU(b:Gl X x)(hm:X.mg x=gF (.ref a))(hd:(x==(zu 29:Str))=gU:=by decide):PE X (.Name x pos) (tC (.ref a)):=AA b hm rfl hd
theorem nk(a:Gl X (zu 0))(hm:X.mg (zu 0)=gK):PE X (.Name (zu 0) pos) (tC (.ty (zu 0))):=Ay a hm (u:=.type (zu 0)) (by decide+kernel) rfl
variable{s:hD}
def nD{M:Model}{E:kd}{i:Nat}{Q:Unit->hD->Prop}(I:zv2 s)(hN:X.N.Nodup)(K:X.N[i]?=gF x)(hk:X.env.scope.names.lookup x=gF .local)
 (h:∀s',Inv X ae (σ.set i gK) H s'->Q () s'):hJ M A (do bindName X.env x .none;unbindBehindTheSuite X.env x pos) Q E s:=by
 let(m,L,hl):=id I.loc;have P:(X.env.scope.kind==.class||(X.env.scope.kind==.module&&X.env.locals !=X.env.globals))=gU:=by rw [I.ok.kind];rfl
 have t:i<σ.length:=by rw [I.len];exact(a9.mp K).1
 have By:=I.By
 have f:∀{a:hF} {B:h9},(∃o,s.heap.get? a=gF o/\H a=gK)->h9.SameBut a s.heap B->fe X.prog X.w H B:=λ{a B} R hs b S e=>by
  let(_,_,g):=R;refine(I.aN b S e).eO (λc O C q=>(hs.2 c ?_).trans q) (λ_ q=>q) λ_ _ q=>q
  rintro rfl
  rcases C with rfl|C
  .rw [g] at e;cases e
  .rw [g] at C;cases C
 refine wpAny_nameGoes_keeps hk L P λB v0 T hs=>?_;let(U,_,_,V,_):=id L;refine h _ {I.ok,I.os,I.bare,{λb o e n F u=>?_,λb o e n F u=>?_,I.base.free,λb o e u=>?_,I.base.iG,I.base.fX,I.base.ip},{_,T,λj y W r D Y=>?_},λy c e=>?_,I.free,I.fA,λp Z=>?_,f ⟨U,V,I.free⟩ hs,zx6 I.len}
 .exact(hs.2 b (d0 (dB (cB e) I.ok.above))).trans (I.base.keep b o e n F u)
 .let(sl,r):=I.base.slot b o e n F u;exact{sl,(hs.2 b (d0 (dB (cB e) I.ok.above))).trans r}
 .let(o',r):=I.base.there b o e u;exact{o',(hs.2 b (d0 (dB (cB e) I.ok.above))).trans r}
 .by_cases G:j=i
  .subst G;rw [eH t] at D;cases D
  .rw [c4 (Ne.symm G)] at D;let(u',r',q):=hl j y W r D Y
   refine{u',r',?_};rcases q with⟨k,e⟩|⟨k,c,e,z⟩
   .refine .inl {k,?_};have:y≠x:=λe=>G (lQ hN r (e▸K));simp [this,e]
   .exact .inr {k,c,e,z.sameBut hs (By y c e)}
 .let(O,z):=I.cell y c e;exact{O,z.sameBut hs (By y c e)}
 .let(e,n,ne,nf,d):=I.pin p Z;exact{(hs.2 p.1 ne).trans e,n,ne,nf,d}
noncomputable abbrev Cx.with1(X:Cx)(pn:ke)(xe:kd):Cx:={X with pn:=pn,xe:=xe}
noncomputable abbrev Cx.marked(X:Cx)(a:hF)(pn:ke):Cx:={X with A:=X.A.mark (gF (.ref a)),calm:=gU,pn:=pn,xe:=λZ Z=>False}
def FI{pn:ke}{xe:kd}(o:X.Ok):(X.with1 pn xe).Ok:=⟨o.mod,o.kind,o.glob,o.blt,o.above,o.inj,o.has,o.LA,o.hd,o.frames,o.G8,o.VN,o.bs,o.xF,o.Ct,o.Ed,o.gY,o.xO⟩
def CG{pn:ke}(o:X.Ok):(X.marked a pn).Ok:={o.mod,o.kind,o.glob,o.blt,o.above,o.inj,o.has,o.LA,nofun,o.frames,o.G8,o.VN,o.bs,o.xF,o.Ct,o.Ed,o.gY,o.xO}
def Inv.with1{xe:kd}(I:zv2 s):Inv (X.with1 (X.pn++ae) xe) [] σ H s:={FI I.ok,I.os,I.bare,I.base,I.loc,I.cell,I.free,I.fA,λp a=>I.pin p (by rwa [gg] at a),I.aN,I.len}
def Inv.md{xe:kd}(o:X.Ok){a:ke}(I:Inv (X.with1 (X.pn++ae) xe) a σ H s):zv2 s:={o,I.os,I.bare,I.base,I.loc,I.cell,I.free,I.fA,λp b=>I.pin p (ee _ b),I.aN,I.len}
def Inv.mark(I:zv2 s):Inv (X.marked a (X.pn++ae)) [] σ H s:={CG I.ok,I.os,I.bare,I.base,I.loc,I.cell,I.free,I.fA,λp b=>I.pin p (by rwa [gg] at b),I.aN,I.len}
def Inv.unmark(o:X.Ok){b:ke}(I:Inv (X.marked a (X.pn++ae)) b σ H s):zv2 s:={o,I.os,I.bare,I.base,I.loc,I.cell,I.free,I.fA,λp c=>I.pin p (ee _ c),I.aN,I.len}
end
def CJ{a b:Type}{R:a->b->Prop}{xs:List a}{ys:List b}(r:Paired R xs ys):∀{i:Nat} {x:a},xs[i]?=gF x->∃y,ys[i]?=gF y/\R x y:=by
 induction r with
 |nil=>intro i x h;simp at h|cons r t c=>
  intro i x h;cases i with
  |zero=>simp at h;subst h;exact{_,rfl,r}|succ i=>simp at h;simpa using c h
def yr{a b:Type}{R:a->b->Prop}{xs:List a}{ys:List b}(r:Paired R xs ys):xs.length=ys.length:=by
 induction r with
 |nil=>rfl|cons _ _ c=>simp [c]
def Hn{a:List hB}(r:Vals vs a)(h:j<a.toArray.size):∃v,vs[j]?=gF v/\RelV v a.toArray[j]:=by
 have hl:=r.length;rw [aT] at h;have b:j<vs.length:=by lia
 let(u,c,d):=r.get (i:=j) (x:=vs[j]) (zzg b);rw [zzg h] at c;cases c;exact{_,zzg b,zx6 d}
end L2
namespace Ci
open L2
def aP{p:Prop}(h:gU=gS):p:=absurd h zzf
inductive PV where
 |aC|bl (b:Bool)|int (i:Int)|str (z:Str)
 |tup (xs:List PV)|lst (xs:List PV)
 |exc (c:Str)
 |aY (ks:ku) (vs:List PV)
 deriving Inhabited
structure Wd where
 K:zz8
 mg:Str->Option hB
 xs:List Str
 ts:List (hF×Str):=[]
def uS(K:zz8)(H:Hp)(a:hF)(vs:List V):Prop:=
 Rd H a (.lst vs)\/∃(b:Array hB) (n:Nat),K.lookup a=gF {cls:=.type "list",data:=.seq b n}/\b.size<=ic/\Vals vs b.toList
def Qm(K:zz8)(G:Hp)(a:hF)(vs:List V):Prop:=G a=gF (.tup vs)\/gf K G a vs/\∃z,V.str z∈vs
theorem Qm.sq{K:zz8}:Qm K G a vs->gf K G a vs
 |.inl h=>.inl (.inl h)|.inr h=>h.1
abbrev kz(ks:ku)(us:List V):List (List Key×V):=(ks.map λk=>k.map Sum.inl).zip us
mutual
def Rep(W:Wd)(G:Hp):PV->V->Prop
 |.aC,v=>v=.aC|.bl b,v=>v=.bl b|.int i,v=>v=.int i|.str z,v=>v=.str z|.tup xs,v=>∃a vs,v=.ref a/\Qm W.K G a vs/\aq W G xs vs|.lst xs,v=>∃a vs,v=.ref a/\uS W.K G a vs/\aq W G xs vs|.exc c,v=>∃a C,v=.ref a/\c∈W.xs/\W.mg c=gF (.ref C)/\G a=gF (lB a C)|.aY ks vs,v=>∃a o us,v=.ref a/\ks.length=us.length/\G a=gF (.bC o (.dT (kz ks us)))/\aq W G vs us
def aq(W:Wd)(G:Hp):List PV->List V->Prop
 |[],vs=>vs=[]|p::ps,vs=>∃v r,vs=v::r/\Rep W G p v/\aq W G ps r
end
def aB.tup{K:zz8}{b:Hp}{xs:List V}(e:aB H b)(h:gf K H a xs):gf K b a xs:=by
 rcases h with(h|⟨o,h⟩)|h
 .exact .inl (.inl (e _ _ h))
 .exact .inl (.inr {o,e _ _ h})
 .exact .inr h
def aB.tp{K:zz8}{b:Hp}{xs:List V}(e:aB H b)(h:Qm K H a xs):Qm K b a xs:=h.elim (λz=>.inl (e _ _ z)) λz=>.inr {aB.tup e z.1,z.2}
def aB.rd{b:Hp}{u:HO}(e:aB H b)(h:Rd H a u):Rd b a u:=by
 rcases h with h|⟨o,h⟩
 .exact .inl (e _ _ h)
 .exact .inr {o,e _ _ h}
def aB.ls{K:zz8}{b:Hp}(e:aB H b)(h:uS K H a vs):uS K b a vs:=h.elim (λz=>.inl (aB.rd e z)) .inr
section
variable{W:Wd}{G':Hp}
mutual
theorem Rep.same(s:aB G G'):∀(p:PV) {v:V},Rep W G p v->Rep W G' p v
 |.aC,_,h=>by simpa only [Rep] using h|.bl b,_,h=>by simpa only [Rep] using h|.int i,_,h=>by simpa only [Rep] using h|.str z,_,h=>by simpa only [Rep] using h|.tup xs,_,h=>by simp! [Rep] at h⊢;let(a,vs,e,q,l):=h;exact{a,vs,e,aB.tp s q,aq.same s xs l}|.lst xs,_,h=>by simp! [Rep] at h⊢;let(a,vs,e,q,l):=h;exact{a,vs,e,aB.ls s q,aq.same s xs l}|.exc c,_,h=>by simp! [Rep] at h⊢;let(a,C,e,x,m,q):=h;exact{a,C,e,x,m,s _ _ q}|.aY f vs,_,h=>by simp! [Rep] at h⊢;let(a,o,d,e,n,m,l):=h;exact{a,o,d,e,n,s _ _ m,aq.same s vs l}
theorem aq.same(s:aB G G'):∀(ps:List PV) {vs:List V},aq W G ps vs->aq W G' ps vs
 |[],_,h=>by simpa only [aq] using h|p::ps,_,h=>by simp! [aq] at h⊢;let(v,r,e,h1,a):=h;exact{v,r,e,Rep.same s p h1,aq.same s ps a}
end
theorem aq.paired:∀{ps:List PV} {vs:List V},aq W G ps vs->Paired (λv p=>Rep W G p v) vs ps
 |[],_,h=>by simp! [aq] at h;subst h;exact .nil|p::ps,_,h=>by simp! [aq] at h;let(v,r,rfl,h1,a):=h;exact .cons h1 (aq.paired a)
def aq.length{ps:List PV}(h:aq W G ps vs):vs.length=ps.length:=yr h.paired
def aq.nil:aq W G [] []:=by simp! [aq]
def aq.cons{p:PV}{v:V}{ps:List PV}{vs:List V}(h:Rep W G p v)(t:aq W G ps vs):aq W G (p::ps) (v::vs):=by simp! [aq];exact{_,_,rfl,h,t}
def aq.bU{p:PV}{ps:List PV}(h:aq W G (p::ps) vs):∃v r,vs=v::r/\Rep W G p v/\aq W G ps r:=by simpa only [aq] using h
theorem aq.append:∀{ps qs:List PV} {vs us:List V},aq W G ps vs->aq W G qs us->aq W G (ps++qs) (vs++us)
 |[],_,_,_,h,k=>by simp! [aq] at h;subst h;exact k|p::ps,_,_,_,h,k=>by let(v,r,rfl,h1,a):=h.bU;exact .cons h1 (a.append k)
def aq.get:∀{ps:List PV} {vs:List V} {i:Nat} {v:V},aq W G ps vs->vs[i]?=gF v->∃p,ps[i]?=gF p/\Rep W G p v:=λh e=>CJ h.paired e
theorem aq.qr:∀{ps:List PV} {vs:List V} {i:Nat} {p:PV},aq W G ps vs->ps[i]?=gF p->∃v,vs[i]?=gF v/\Rep W G p v
 |[],_,_,_,_,e=>by simp at e|p::ps,_,0,q,h,e=>by let(v,r,rfl,h1,a):=h.bU;simp at e;subst e;exact⟨v,rfl,h1⟩|p::ps,_,i+1,q,h,e=>by let(v,r,rfl,h1,a):=h.bU;let(u,b,k):=a.qr (i:=i) (zx6 e);exact{u,zx6 b,k}
theorem aq.drop:∀{ps:List PV} {vs:List V} (n:Nat),aq W G ps vs->aq W G (ps.drop n) (vs.drop n)
 |_,_,0,h=>zx6 h|[],_,n+1,h=>by simp! [aq] at h;subst h;simp! [List.drop_nil];exact .nil|p::ps,_,n+1,h=>by let(v,r,rfl,h1,a):=h.bU;simpa using a.drop n
theorem aq.take:∀{ps:List PV} {vs:List V} (n:Nat),aq W G ps vs->aq W G (ps.take n) (vs.take n)
 |_,_,0,h=>by simp! [List.take_zero];exact .nil|[],_,n+1,h=>by simp! [aq] at h;subst h;simp! [List.take_nil];exact .nil|p::ps,_,n+1,h=>by let(v,r,rfl,h1,a):=h.bU;simp! [List.take_succ_cons];exact .cons h1 (a.take n)
theorem aq.set:∀{ps:List PV} {vs:List V} {p:PV} {v:V} (n:Nat),aq W G ps vs->Rep W G p v->aq W G (ps.set n p) (vs.set n v)
 |[],_,_,_,_,h,_=>by simp! [aq] at h;subst h;simp! [List.set_nil];exact .nil|q::ps,_,p,v,0,h,k=>by let(u,r,rfl,h1,a):=h.bU;simp! [List.set_cons_zero];exact .cons k a|q::ps,_,p,v,n+1,h,k=>by let(u,r,rfl,h1,a):=h.bU;simp! [List.set_cons_succ];exact .cons h1 (a.set n k)
end
def iM(H a:Hp):Prop:=∀b o,H b=gF o->(∀ps,o≠.iF ps)/\a b=gF o\/∃ps m,o=.iF ps/\a b=gF (.iF (ps++m))
def iM.refl(H:Hp):iM H H:=λb o h=>by
 cases o with
 |iF ps=>exact .inr {ps,#[],rfl,zx6 h}|_=>exact .inl {(λZ z=>nomatch z),h}
def iM.trans{d f:Hp}(a:iM H d)(b:iM d f):iM H f:=λc o h=>by
 rcases a c o h with⟨n,e⟩|⟨ps,m,rfl,e⟩
 .rcases b c o e with y|⟨ps,m,rfl,g⟩
  .exact .inl y
  .exact absurd rfl (n ps)
 .rcases b c _ e with⟨n,_⟩|⟨k,i,g,j⟩
  .exact absurd rfl (n _)
  .cases g;exact .inr {ps,m++i,rfl,by rw [j,Array.append_assoc]}
def iM.free{a:Hp}(e:iM H a){l:hF}(h:a l=Option.none):H l=Option.none:=by
 cases q:H l with
 |none=>rfl|some o=>
  rcases e l o q with⟨_,z⟩|⟨_,_,_,z⟩
  .rw [h] at z;cases z
  .rw [h] at z;cases z
def iM.at{a:Hp}(e:iM H a){b:hF}{o:HO}(h:H b=gF o)(n:∀ps,o≠.iF ps):a b=gF o:=by
 rcases e b o h with⟨_,z⟩|⟨ps,_,rfl,_⟩
 .exact z
 .exact absurd rfl (n ps)
def iM.wc{a:Hp}(e:iM H a){b:hF}(h:H b≠gK)(n:∀vs,H b≠gF (.tup vs)):∀vs,a b≠gF (.tup vs):=λvs z=>by
 cases q:H b with
 |none=>exact h q|some o=>
  rcases e b o q with⟨_,y⟩|⟨_,_,_,y⟩
  .rw [z] at y;cases y;exact n vs q
  .rw [z] at y;cases y
def iM.of{a:Hp}(e:aB H a):iM H a:=λb o h=>by
 cases o with
 |iF ps=>exact .inr {ps,#[],rfl,by simpa using e _ _ h}|_=>exact .inl {(λZ z=>nomatch z),e _ _ h}
def iM.tup{K:zz8}{b:Hp}{xs:List V}(e:iM H b)(h:gf K H a xs):gf K b a xs:=by
 rcases h with(h|⟨o,h⟩)|h
 .exact .inl (.inl (e.at h (λZ z=>nomatch z)))
 .exact .inl (.inr {o,e.at h (λZ z=>nomatch z)})
 .exact .inr h
def iM.ls{K:zz8}{b:Hp}(e:iM H b)(h:uS K H a vs):uS K b a vs:=by
 rcases h with(h|⟨o,h⟩)|h
 .exact .inl (.inl (e.at h (λZ z=>nomatch z)))
 .exact .inl (.inr {o,e.at h (λZ z=>nomatch z)})
 .exact .inr h
theorem iM.upd{c:Hp}{o:HO}(e:iM H c)(h:H a=gK):iM H (upd c a o):=λb u q=>by
 have d:b≠a:=λz=>by rw [z,h] at q;cases q
 rw [ah d];exact e b u q
def cY(W:Wd)(G H:Hp):Prop:=∀P q,(P,q)∈W.ts->G P=gK/\∃ps,H P=gF (.iF ps)/\TriplesOk ps.toList/\
 ∀a b,codeAmong a ps.toList=gF b->∃c oc d t,b=.ref c/\G c=gF (.bC oc cg)/\oc.data=.fields d/\d[1]?=gF (.str q t)
theorem cY.same{W:Wd}{b d:Hp}(t:cY W G H)(g:aB G b)(own:∀a,H a≠gK->(∀vs,H a≠gF (.tup vs))->G a=gK->b a=gK)(h:∀P ps,H P=gF (.iF ps)->d P=gF (.iF ps)):cY W b d:=λP q m=>by let(n,ps,e,tr,f):=t P q m;refine{own P (by rw [e];exact nofun) (by rw [e];exact λZ z=>nomatch z) n,ps,h P ps e,tr,λc i y=>?_};let(j,oc,k,t,o,p,r,s):=f c i y;exact{j,oc,k,t,o,g _ _ p,r,s}
structure aE(W:Wd)(G H G' H':Hp):Prop where
 g:aB G G'
 h:iM H H'
 sub:aB G' H'
 own:∀a,H a≠gK->(∀vs,H a≠gF (.tup vs))->G a=gK->G' a=gK
 tab:cY W G H->cY W G' H'
section
variable{W:Wd}
def aE.refl(s:aB G H):aE W G H G H:={aB.refl _,iM.refl _,s,λZ Z Z h=>h,id}
def aE.trans{d e f i:Hp}(a:aE W G H d e)(b:aE W d e f i):aE W G H f i:=
 {a.g.trans b.g,a.h.trans b.h,b.sub,λx c j k=>b.own x (λz=>c (a.h.free z)) (a.h.wc c j) (a.own x c j k),λt=>b.tab (a.tab t)}
def n5{p:hF}{o:HO}(h:∀ps,H p≠gF (.iF ps))(P:hF)(ps:Array hB)(e:H P=gF (.iF ps)):upd H p o P=gF (.iF ps):=by rw [ah (λz=>by subst z;exact h ps e)];exact e
theorem aE.new{p:hF}{o:HO}(s:aB G H)(h:H p=gK):aE W G H (upd G p o) (upd H p o) where
 g:=bD (s.free h)
 h:=.of (bD h)
 sub:=λb u e=>by
  by_cases f:b=p
  .subst f;rw [av] at e⊢;exact e
  .rw [ah f] at e⊢;exact s _ _ e
 own:=λa c Z d=>by
  have:a≠p:=λz=>by subst z;exact c h
  rw [ah this];exact d
 tab:=λt=>t.same (bD (s.free h)) (λa c Z d=>by
  have:a≠p:=λz=>by subst z;exact c h
  rw [ah this];exact d) (n5 (λps z=>by rw [h] at z;cases z))
def aE.adopt{b:hF}(s:aB G H)(h:H b=gF (.tup vs)):aE W G H (upd G b (.tup vs)) H:=by
 have f:aB G (upd G b (.tup vs)):=λc u e=>by
  by_cases d:c=b
  .subst d;rw [av];have:=s _ _ e;rw [h] at this;exact this
  .rw [ah d];exact e
 have g:∀a,H a≠gK->(∀vs,H a≠gF (.tup vs))->G a=gK->upd G b (.tup vs) a=gK:=λa Z n e=>by
  have:a≠b:=λz=>by subst z;exact n vs h
  rw [ah this];exact e
 exact{f,iM.refl _,λc u e=>by
  by_cases d:c=b
  .subst d;rw [av] at e;cases e;exact h
  .rw [ah d] at e;exact s _ _ e,g,λt=>t.same f g λZ Z e=>e}
def aE.SE{p:hF}{o:HO}(s:aB G H)(h:H p=gK):aE W G H G (upd H p o):=
 {aB.refl _,.of (bD h),s.trans (bD h),λZ Z Z a=>a,λt=>t.same (aB.refl _) (λZ Z Z h=>h) (n5 (λps z=>by rw [h] at z;cases z))}
end
abbrev bH(a:hZ):List Str:=((a.names.filter λp=>p.2==.free).map (·.1)).reverse
abbrev okN(x:Str):Bool:=!(x==(zu 29))&&!(x==(zu 51))&&!(x==(zu 46))
abbrev i6(x:Str):Bool:=x.cps.toList.contains 64
def jW{b:Type}{a:b}{p:Prop}(h:(gK:Option b)=gF a):p:=nomatch h
def FH{a:Type}{o:Option a}{f:a->Bool}(h:o.any f=gS):∃x,o=gF x/\f x=gS:=by
 cases o with
 |none=>cases h
 |some x=>exact⟨x,rfl,h⟩
abbrev eY:hI->Option Str
 |.Name x _=>gF x|_=>gK
def b9(h:eY e=gF x):∃p,e=.Name x p:=by
 cases e with
 |Name y p=>cases h;exact{_,rfl}
 |_=>exact jW h
abbrev DT:hI->Option (hI×List hI×List Keyword×Pos)
 |.Call f a k p=>gF (f,a,k,p)|_=>gK
def iO{q:hI×List hI×List Keyword×Pos}(h:DT e=gF q):e=.Call q.1 q.2.1 q.2.2.1 q.2.2.2:=by
 cases e with
 |Call f a k p=>cases h;rfl
 |_=>exact jW h
abbrev VO:List Arg->Option (List Str)
 |[]=>gF []|[a]=>gF [a.arg]|_=>gK
abbrev sJ(p:i2):Option (List Str):=if(p.posonlyargs.isEmpty&&p.vararg.isNone&&p.kwonlyargs.isEmpty&&p.kw_defaults.isEmpty&&p.kwarg.isNone&&p.defaults.isEmpty)=gS then VO p.args else gK
def yY{p:i2}{ps:List Str}(h:sJ p=gF ps):(p={[],[],gK,[],[],gK,[]}/\ps=[])\/∃a,p={[],[a],gK,[],[],gK,[]}/\ps=[a.arg]:=by
 let(a,b,c,d,e,f,g):=p;unfold sJ at h;split at h
 .rename_i q;simp! [zza,List.isEmpty_iff,Option.isNone_iff_eq_none] at q;let(((((i,j),k),m),o),r):=q
  subst i j k m o r;cases b with
  |nil=>cases h;exact .inl ⟨rfl,rfl⟩
  |cons a b=>
   cases b with
   |nil=>cases h;exact .inr ⟨a,rfl,rfl⟩
   |cons _ _=>exact jW h
 .exact jW h
abbrev Q5(N:List Str)(i:Nat)(a:hI):Bool:=(eY a).any λx=>N[i]?==gF x&&okN x
abbrev jw(N:List Str):List hI->List Nat->Bool
 |[],[]=>gS|a::r,i::t=>Q5 N i a&&jw N r t|_,_=>gU
abbrev U0(ps:List Str)(a:hZ):Bool:=
 a.kind==.function&&!a.isCoroutine&&!a.isGenerator&&decide ((ps++bH a).Nodup)&&(a.names.all λy=>decide (y.2≠.cell))&&(ps.all λx=>decide (a.names.lookup x=gF .local))&&((bH a).all λx=>decide (a.names.lookup x=gF .free))
abbrev JD(g:Str)(idx:List Nat)(b:i2)(body:hI)(a:hZ):Bool:=(sJ b).any λps=>(DT body).any λq=>eY q.1==gF g&&q.2.2.1.isEmpty&&!q.2.1.isEmpty&&decide (idx.head?=gF ps.length)&&a.names.lookup g==gF .globalImplicit&&okN g&&!i6 g&&jw (ps++bH a) q.2.1 idx.tail&&U0 ps a
structure Ve(W:Wd)(G:Hp)(g:Str)(idx:List Nat)(c8:List PV)(f c':hF)(oc:Obj)(dM:Array hB)(t:Tok)(gN pm:hB)(params:i2)(body:hI)(scope:hZ)(qual:Str)(cl:List (Str×hF))(Z:ke)(ws:List V):Prop where
 lg:JD g idx params body scope=gS
 fo:G f=gF (.bC (PySem.W.kla_obj (zu 13) qual params body scope cl pm c' gN) cg)
 co:G c'=gF (.bC oc cg)
 cd:oc.data=.fields dM
 cn:dM[1]?=gF (.str qual t)
 fz:Z.lookup f=gK
 cz:Z.lookup c'=gK
 inj:∀x y c,cl.lookup x=gF c->cl.lookup y=gF c->x=y
 has:∀y∈bH scope,∃c,cl.lookup y=gF c
 cells:∀x c,cl.lookup x=gF c->∃o v,Z.lookup c=gF o/\o.data=.cell v
 zs:∀b o,Z.lookup b=gF o->G b=gF (.bC o cg)
 zc:∀b o,Z.lookup b=gF o->∃v,o.data=.cell v
 vals:∀(i:Nat) y c,(bH scope)[i]?=gF y->cl.lookup y=gF c->∀v,ws[i]?=gF v->∃u o,RelV v u/\Z.lookup c=gF o/\o.data=.cell (gF u)
 len:ws.length=(bH scope).length
 rep:aq W (bb Z G) c8 ws
def su(W:Wd)(G:Hp)(g:Str)(idx:List Nat)(d:List PV)(v:V):Prop:=∃f e oc h t i j a body b c cl Z ws,v=.ref f/\Ve W G g idx d f e oc h t i j a body b c cl Z ws
theorem sf{Z:ke}{a:Hp}(s:aB G a):aB (bb Z G) (bb Z a):=λb u e=>by let(q,c):=fC e;rw [aA q];exact s _ _ c
def su.same{W:Wd}{k:Hp}{j:List PV}(s:aB G k)(h:su W G g idx j v):su W k g idx j v:=by let(f,m,oc,p,t,r,u,a,body,c,i,cl,Z,ws,e,d):=h;exact{f,m,oc,p,t,r,u,a,body,c,i,cl,Z,ws,e,{d.lg,s _ _ d.fo,s _ _ d.co,d.cd,d.cn,d.fz,d.cz,d.inj,d.has,d.cells,λb o q=>s _ _ (d.zs b o q),d.zc,d.vals,d.len,aq.same (sf s) j d.rep}}
inductive Slot where
 |no|val (p:PV)|own (p:PV)|fn (g:Str) (idx:List Nat) (c8:List PV)|Dl (ay:List (Int×Int))
 deriving Inhabited
noncomputable abbrev Sl:=List Slot
def Own(W:Wd)(H0 G H:Hp):PV->V->Prop
 |.lst xs,v=>∃a vs,v=.ref a/\H a=gF (.lst vs)/\G a=gK/\H0 a=gK/\aq W G xs vs|.aY ks ps,v=>∃a us,v=.ref a/\ks.length=us.length/\H a=gF (.dT (kz ks us))/\G a=gK/\H0 a=gK/\aq W G ps us|_,_=>False
def Top(W:Wd)(H0 G H:Hp)(p:PV)(v:V):Prop:=Rep W G p v\/Own W H0 G H p v
def Hv(W:Wd)(H0 G H:Hp):Slot->Option V->Prop
 |.no,_=>True|.val p,o=>∃v,o=gF v/\Rep W G p v|.own p,o=>∃v,o=gF v/\Own W H0 G H p v|.fn g idx c,o=>∃v,o=gF v/\su W G g idx c v|.Dl b,o=>∃a,o=gF (.ref a)/\H a=gF (.dK (ZK b))/\G a=gK/\H0 a=gK/\(b.map (·.1)).Nodup
structure SR(W:Wd)(H0:Hp)(env:Sl)(σ:St)(G H:Hp):Prop where
 len:env.length=σ.length
 sub:aB G H
 base:iM H0 H
 slot:∀(i:Nat) (s:Slot),env[i]?=gF s->∃o,σ[i]?=gF o/\Hv W H0 G H s o
 apart:∀(i j:Nat) (p q:PV) (a:hF),env[i]?=gF (.own p)->env[j]?=gF (.own q)->σ[i]?=gF (gF (.ref a))->σ[j]?=gF (gF (.ref a))->i=j
 tab:cY W G H
 lY:cY W G H0
section
variable{W:Wd}{G' H':Hp}{env:Sl}
theorem Own.grow(g:aE W G H G' H'):∀{p:PV} {v:V},Own W H0 G H p v->Own W H0 G' H' p v
 |.lst xs,_,h=>by let(a,vs,e,h1,b,c,l):=h;exact{a,vs,e,g.h.at h1 (λZ z=>nomatch z),g.own a (by rw [h1];exact λz=>by cases z) (by rw [h1];exact λZ z=>by cases z) b,c,aq.same g.g xs l}
 |.aY d ps,_,h=>by let(a,vs,e,n,h1,b,c,l):=h;exact{a,vs,e,n,g.h.at h1 (λZ z=>nomatch z),g.own a (by rw [h1];exact λz=>by cases z) (by rw [h1];exact λZ z=>by cases z) b,c,aq.same g.g ps l}
 |.aC,_,h=>h|.bl _,_,h=>h|.int _,_,h=>h|.str _,_,h=>h|.tup _,_,h=>h|.exc _,_,h=>h
theorem Hv.grow(g:aE W G H G' H'):∀{s:Slot} {o:Option V},Hv W H0 G H s o->Hv W H0 G' H' s o
 |.no,_,_=>trivial|.val p,_,h=>by let(v,e,r):=h;exact{v,e,Rep.same g.g p r}|.own p,_,h=>by let(v,e,r):=h;exact{v,e,r.grow g}|.fn _ _ _,_,h=>by let(v,e,r):=h;exact{v,e,r.same g.g}|.Dl _,_,h=>by let(a,e,b,c,d,n):=h;exact{a,e,g.h.at b (λZ z=>nomatch z),g.own a (by rw [b];exact nofun) (by rw [b];exact λZ z=>nomatch z) c,d,n}
theorem SR.grow(r:SR W H0 env σ G H)(g:aE W G H G' H'):SR W H0 env σ G' H':=
 {r.len,g.sub,r.base.trans g.h,λi s e=>by let(o,b,c):=r.slot i s e;exact{o,b,c.grow g},r.apart,g.tab r.tab,r.lY.same g.g (λa b d c=>g.own a (λz=>b (r.base.free z)) (r.base.wc b d) c) λZ Z h=>h}
def Top.grow{p:PV}(g:aE W G H G' H')(h:Top W H0 G H p v):Top W H0 G' H' p v:=h.elim (λz=>.inl (Rep.same g.g p z)) λz=>.inr (z.grow g)
def Top.lst{xs:List PV}(s:aB G H)(h:Top W H0 G H (.lst xs) v):∃a vs,v=.ref a/\uS W.K H a vs/\aq W G xs vs:=by
 rcases h with h|h
 .simp! [Rep] at h;let(a,vs,e,q,l):=h;exact{a,vs,e,aB.ls s q,l}
 .let(a,vs,e,b,_,_,l):=h;exact{a,vs,e,.inl (.inl b),l}
def Top.tup{xs:List PV}(s:aB G H)(h:Top W H0 G H (.tup xs) v):∃a vs,v=.ref a/\gf W.K H a vs/\aq W G xs vs:=by
 rcases h with h|h
 .simp! [Rep] at h;let(a,vs,e,q,l):=h;exact{a,vs,e,aB.tup s q.sq,l}
 .exact h.elim
def Top.tupI{xs:List PV}(s:aB G H)(d:xs=ns.map .int)(h:Top W H0 G H (.tup xs) v):∃a,v=.ref a/\G a=gF (.tup (ns.map V.int)):=by
 rcases h with h|h
 .simp! [Rep] at h;let(a,b,e,q,l):=h
  have f:b=ns.map V.int:=by
   subst d;clear q e
   induction ns generalizing b with
   |nil=>simp! [List.map_nil,aq] at l;exact l|cons n ns g=>let(u,r,rfl,c,i):=l.bU;simp! [Rep] at c;rw [c,g r i];rfl
  subst f;rcases q with q|⟨_,z,j⟩
  .exact⟨a,e,q⟩
  .let(n,_,k):=fm.mp j;cases k
 .exact h.elim
def Top.aY{ks:ku}{ps:List PV}(s:aB G H)(h:Top W H0 G H (.aY ks ps) v):∃a us,v=.ref a/\ks.length=us.length/\Rd H a (.dT (kz ks us))/\aq W G ps us:=by
 rcases h with h|h
 .simp! [Rep] at h;let(a,o,us,e,n,q,l):=h;exact{a,us,e,n,.inr {o,s _ _ q},l}
 .let(a,b,e,n,q,_,_,l):=h;exact{a,b,e,n,.inl q,l}
def Top.int{i:Int}(h:Top W H0 G H (.int i) v):v=.int i:=h.elim (λz=>by simpa only [Rep] using z) λz=>z.elim
def Top.bl{b:Bool}(h:Top W H0 G H (.bl b) v):v=.bl b:=h.elim (λz=>by simpa only [Rep] using z) λz=>z.elim
def Top.str{b:Str}(h:Top W H0 G H (.str b) v):v=.str b:=h.elim (λz=>by simpa only [Rep] using z) λz=>z.elim
def Top.aC(h:Top W H0 G H .aC v):v=.aC:=h.elim (λz=>by simpa only [Rep] using z) λz=>z.elim
def Rep.i{i:Int}:Rep W G (.int i) (.int i):=by simp! [Rep]
def Rep.b{i:Bool}:Rep W G (.bl i) (.bl i):=by simp! [Rep]
def Rep.s{i:Str}:Rep W G (.str i) (.str i):=by simp! [Rep]
def Rep.n:Rep W G .aC .aC:=by simp! [Rep]
def Rep.l{xs:List PV}(h:uS W.K G a vs)(l:aq W G xs vs):Rep W G (.lst xs) (.ref a):=by simp! [Rep];exact⟨a,vs,rfl,h,l⟩
def Rep.t{xs:List PV}(h:Qm W.K G a vs)(l:aq W G xs vs):Rep W G (.tup xs) (.ref a):=by simp! [Rep];exact⟨a,vs,rfl,h,l⟩
end
end Ci
variable{xs ys cp:List Ci.PV}{p q:Ci.PV}{env:Ci.Sl}
namespace L2
open PySem.Spec PyProof.Rows
end L2
namespace HT
open PySem.Spec PyProof.Rows
end HT
namespace L2
open PySem.Spec PyProof.Rows
abbrev cD(ns:List Int):Nat->Int
 |0=>ns.getD 0 0|k+1=>if ns.getD (k+1) 0<cD ns k then ns.getD (k+1) 0 else cD ns k
abbrev mB(ns:List Int):V:=if ns=[] then .aC else .int (cD ns (ns.length-1))
def Bc(a v:hB):argsOk "min" {[a],[(Str.ofString "default",v)]}:=by unfold argsOk;kernel_rfl
section
variable{it l S:hF}{aw:List hB}{dv:hB}{R:Result->hD->Prop}
def Co(Q:A.handled=gK)(D:S≠it)(T:l≠it)(U:l≠S)(V:∀i (h:i<ns.length),∃t,aw[i]?=gF (.int ns[i] t))(LV:aw.length=ns.length){s0:hD}
 (W:∀t h' tk,(∀b o,b≠it->b≠S->s0.heap.get? b=gF o->h'.get? b=gF o)->R (.ok (.ret (.int (cD ns (ns.length-1)) t))) {s0 with heap:=h',toks:=tk}):
 ∀(r j:Nat) (h:h9) (tk:Nat) (t:Tok) (c:Nat),ns.length-(j+1)=r->j+1<=ns.length->(∀b o,b≠it->b≠S->s0.heap.get? b=gF o->h.get? b=gF o)->h.IsListIter it l (j+1)->h.IsList l aw.toArray->h.get? S=gF (kc "list" #[.int (cD ns j) t,.int (cD ns j) t] c)->
  codeAny (hV prog w) A (.builtin "min.loop" {[.ref it,.none,.ref S],[(Str.ofString "default",dv)]}) R {s0 with heap:=h,toks:=tk}:=by
 have d:(toString "min"++toString ".loop":String)="min.loop":=by decide
 intro r
 induction r with
 |zero=>
  intro j h tk t c X Y E st hl p;refine codeAny_builtin PySem.F.entry_min_loop ?_;rw [gr PySem.F.plain_min_loop _];show hJ _ A.in1 (seqItems? (.ref S)>>=λz=>_) _ _ _;refine ak (wpAny_seqItems p rfl ?_);show hJ _ A.in1 (tryCatch (pyNext (.ref it)) _>>=λz=>_) _ _ _;refine ak (wpAny_tryCatch (wpAny_pyNext_list_end Q st hl (by simp;omega) λh' K=>?_));have s:=K S _ D p;show hJ _ A.in1 (updateSeq S (λ_=>#[])>>=λz=>_) _ _ _;refine ak (wpAny_updateSeq s rfl (ak (wpAny_letGo (a8 ?_))));have u:=ff h' S (Obj.mapSeq λ_=>(#[]:Array hB));have e:j=ns.length-1:=by omega
  rw [e];exact W t _ tk λb o f g q=>(u.2 b g).trans (K b o f (E b o f g q))
 |succ r L=>
  intro j h tk t c X Y E st hl p;have y:j+1<ns.length:=by omega
  let(a,G):=V (j+1) y;refine codeAny_builtin PySem.F.entry_min_loop ?_;rw [gr PySem.F.plain_min_loop _];show hJ _ A.in1 (seqItems? (.ref S)>>=λz=>_) _ _ _;refine ak (wpAny_seqItems p rfl ?_);show hJ _ A.in1 (tryCatch (pyNext (.ref it)) _>>=λz=>_) _ _ _;refine ak (wpAny_tryCatch (wpAny_pyNext_list_item st hl (x:=.int ns[j+1] a) (zx6 G) λh' M H=>?_));have s:=(H.2 S D).trans p;have N:h'.IsList l aw.toArray:=hl.at λo q=>(H.2 l T).trans q;have O:∀b o,b≠it->b≠S->s0.heap.get? b=gF o->h'.get? b=gF o:=λb o f g q=>(H.2 b f).trans (E b o f g q);refine ak (a8 ?_);show hJ _ A.in1 (tryCatch (holding [hB.int ns[j+1] a,.int ns[j+1] a] (richCompare .Lt (.int ns[j+1] a) (.int (cD ns j) t)>>=λz=>_)) _>>=λz=>_) _ _ _;let m:Nat->Int:=λk=>if k=0 then cD ns j else ns[j+1]
  refine ak (wpAny_tryCatch (wpAny_holding (ak (CmpOf.ints_lt (prog:=prog) (w:=w) (A:=A.in1) (P:=λi v=>∃t,v=.int (m i) t) m (λi v h=>h) 1 0 _ _ _ _ _ ⟨a,rfl⟩ ⟨t,rfl⟩ ?_))));refine ak (wpAny_holding (wpAny_truthy_bool (ak (wpAny_letGo (a8 ?_)))));have B:cD ns (j+1)=if ns[j+1]<cD ns j then ns[j+1] else cD ns j:=by rw [cD,b4,zzg y];rfl
  by_cases C:ns[j+1]<cD ns j
  .rw [if_pos C] at B;let(Z,I):=nV (ys:=#[hB.int ns[j+1] a,.int ns[j+1] a]) s;have u:=ff h' S (Obj.mapSeq λ_=>#[hB.int ns[j+1] a,.int ns[j+1] a]);have hd:decide (m 1<m 0)=gS:=zzh C;simp! [hd,if_true];refine ak (wpAny_updateSeq s rfl (ak (wpAny_letGo ?_)));rw [d];refine a8 {plainId_quiet PySem.F.plain_min_loop _,L (j+1) _ tk a Z (by omega) y (λb o f g q=>(u.2 b g).trans (O b o f g q)) ?_ ?_ (by rw [B];exact I)}
   .exact M.at λo q=>(u.2 it (Ne.symm D)).trans q
   .exact N.at λo q=>(u.2 l U).trans q
  .rw [if_neg C] at B;have hd:decide (m 1<m 0)=gU:=zz0 C;simp! [hd,en,if_false];refine ak (wpAny_letGo ?_);rw [d];exact a8 {plainId_quiet PySem.F.plain_min_loop _,L (j+1) _ tk t c (by omega) y O M N (by rw [B];exact s)}
end
def Bq(hc:X.calm=gS){s:hD}{y:St}{p:hF}(I:Inv X ae y H s)(hp:gR X.K H p (ns.map V.int))(q:Q (mB ns) H):
 zx7 X (call (.builtin "min") [.ref p] [(Str.ofString "default",.none)]) (EP X ae y Q) X.xe s:=by
 have c:(toString "min"++toString ".loop":String)="min.loop":=by decide
 have T:X.A.handled=gK:=I.ok.hd hc;let(B,U,pl,hz):=I.list hp;have W:p<(zz9 s):=by let(_,e,_):=pl.isList;exact cB e
 have d:B.length=ns.length:=by rw [<-U.length,zzl]
 have Y:∀i (h:i<ns.length),∃t,B[i]?=gF (.int ns[i] t):=λi hi=>by let(u,hu,t,ru):=U.get (i:=i) (x:=V.int ns[i]) (by rw [cS,zzg hi];rfl);exact{t,by rw [hu,ru]}
 refine kmk_tree PySem.F.kind_min PySem.F.plain_min PySem.F.entry_min (Bc _ _) ?_;show hJ _ X.A.in1 (i1.Builtins.bindParams "min" ["key","default"] 0 {[],[(Str.ofString "default",.none)]}>>=λz=>_) _ _ s;refine ak (wpAny_of_eq (show i1.Builtins.bindParams "min" ["key","default"] 0 {[],[(Str.ofString "default",.none)]}=pure [gK,gF (.none)] from rfl) (ak (a8 ?_)));refine ak (wpAny_pyIter_list pl.isList (ak (wpAny_newList ?_ (Nat.zero_le _))));rw [c];generalize hit:(zz9 s)=it;generalize f:(s.heap.push {cls:=.type (zu 22),data:=.fields #[.ref p,.int 0 0]}).objs.size=S;have eS:S=it+1:=by rw [<-f,<-hit];exact size_push' ..
 have nS:S≠it:=by lia
 have np:p≠it:=by rw [<-hit];exact d0 W
 have Z:p≠S:=by rw [eS,<-hit];exact d0 (Nat.lt_succ_of_lt W)
 have keep:∀b C,s.heap.get? b=gF C->((s.heap.push {cls:=.type (zu 22),data:=.fields #[.ref p,.int 0 0]}).push (kc "list" #[] 0)).get? b=gF C:=λb C e=>ar _ (ar _ e);have D:((s.heap.push {cls:=.type (zu 22),data:=.fields #[.ref p,.int 0 0]}).push (kc "list" #[] 0)).IsListIter it p 0:=by rw [<-hit];exact{_,ar _ (dJ _ rfl),rfl,rfl}
 have E:((s.heap.push {cls:=.type (zu 22),data:=.fields #[.ref p,.int 0 0]}).push (kc "list" #[] 0)).get? S=gF (kc "list" #[] 0):=by rw [<-f];exact dJ _ rfl
 have k:((s.heap.push {cls:=.type (zu 22),data:=.fields #[.ref p,.int 0 0]}).push (kc "list" #[] 0)).IsList p B.toArray:=pl.isList.at λo e=>keep _ _ e;generalize hg:((s.heap.push {cls:=.type (zu 22),data:=.fields #[.ref p,.int 0 0]}).push (kc "list" #[] 0))=g at keep D E k;have nH:∀b o,s.heap.get? b=gF o->b≠it/\b≠S:=λb o e=>by have:=cB e;rw [hit] at this;exact{d0 this,by rw [eS];exact d0 (Nat.lt_succ_of_lt this)}
 have j:∀(z:hB) (a:h9) (m:Nat),RelV (mB ns) z->(∀b o,b≠it->b≠S->g.get? b=gF o->a.get? b=gF o)->EP X ae y Q z {s with heap:=a,toks:=m}:=λz a m G L=>{mB ns,H,I.kept λb o e=>L b o (nH b o e).1 (nH b o e).2 (keep b o e),G,q};refine a8 {plainId_quiet PySem.F.plain_min_loop _,codeAny_builtin PySem.F.entry_min_loop ?_};rw [gr PySem.F.plain_min_loop _];show hJ _ X.A.in1 (seqItems? (.ref S)>>=λz=>_) _ _ _;refine ak (wpAny_seqItems E rfl ?_);show hJ _ X.A.in1 (tryCatch (pyNext (.ref it)) _>>=λz=>_) _ _ _;by_cases r:ns=[]
 .refine ak (wpAny_tryCatch (wpAny_pyNext_list_end T D k (by simp [d,r]) λa eb=>?_));refine ak (wpAny_rule (a8 ?_));exact j .none a s.toks (by unfold mB;rw [if_pos r];exact rfl) λb o M b2 e=>eb b o M e
 .have N:0<ns.length:=List.length_pos_iff.2 r;let(t,ht):=Y 0 N;refine ak (wpAny_tryCatch (wpAny_pyNext_list_item D k (x:=.int ns[0] t) (zx6 ht) λa iz O=>?_));have uN:=(O.2 S nS).trans E;refine ak (a8 ?_);let(c2,P):=nV (ys:=#[hB.int ns[0] t,.int ns[0] t]) uN;have R:=ff a S (Obj.mapSeq λ_=>#[hB.int ns[0] t,.int ns[0] t]);show hJ _ X.A.in1 (updateSeq S (λ_=>#[hB.int ns[0] t,.int ns[0] t])>>=λz=>_) _ _ _;refine ak (wpAny_updateSeq uN rfl ?_);rw [c];have m0:cD ns 0=ns[0]:=by rw [cD,b4,zzg N];rfl
  refine a8 {plainId_quiet PySem.F.plain_min_loop _,Co (s0:={s with heap:=g}) T nS np Z Y d (λt a m L=>j _ a m (by unfold mB;rw [if_neg r];exact⟨t,rfl⟩) L) _ 0 _ s.toks t c2 rfl N (λb o M b2 e=>(R.2 b b2).trans ((O.2 b M).trans e)) (iz.at λo q=>(R.2 it (Ne.symm nS)).trans q) ((k.at λo q=>(O.2 p np).trans q).at λo q=>(R.2 p Z).trans q) (by rw [m0];exact P)}
end L2
namespace St
abbrev FJ:List Int->Bool
 |[r,c]=>decide (0<=r)&&decide (r<6)&&(decide (0<=c)&&decide (c<6))|_=>gU
end St
namespace Ci
open L2
inductive Res(α:Type) where
 |ok (a:α)|exc (c:Str)|bad
abbrev Res.bind{b d:Type}:Res b->(b->Res d)->Res d
 |.ok a,f=>f a|.exc c,_=>.exc c|.bad,_=>.bad
noncomputable instance:Monad Res where
 pure:=.ok
 bind:=Res.bind
def Res.bu{d e:Type}{r:Res d}{f:d->Res e}{b:e}(h:r.bind f=.ok b):∃a,r=.ok a/\f a=.ok b:=by
 cases r with
 |ok a=>exact⟨a,rfl,h⟩|exc c=>cases h
 |bad=>cases h
def Res.ei{b d:Type}{r:Res b}{f:b->Res d}{c:Str}(h:r.bind f=.exc c):r=.exc c\/∃a,r=.ok a/\f a=.exc c:=by
 cases r with
 |ok a=>exact .inr ⟨a,rfl,h⟩|exc e=>cases h;exact .inl rfl
 |bad=>cases h
abbrev Res.of{b:Type}:Option b->Res b
 |some a=>.ok a|none=>.bad
abbrev Res.well{b:Type}:Res b->Res b
 |.ok a=>.ok a|_=>.bad
noncomputable abbrev dW:Nat:=1000000
abbrev eqs(f:PV->PV->Bool):List PV->List PV->Bool
 |[],[]=>gS|x::xs,y::ys=>f x y&&eqs f xs ys|_,_=>gU
abbrev jy:Nat->PV->PV->Bool
 |_,.aC,.aC=>gS|_,.bl a,.bl b=>a==b|_,.bl a,.int i=>(if a then 1 else 0)==i
 |_,.int i,.bl a=>i==(if a then 1 else 0)
 |_,.int i,.int j=>i==j|_,.str x,.str y=>x==y|n+1,.tup xs,.tup ys=>eqs (jy n) xs ys|n+1,.lst xs,.lst ys=>eqs (jy n) xs ys|_,_,_=>gU
abbrev plain:Nat->PV->Bool
 |_,.aC=>gS|_,.bl _=>gS|_,.int _=>gS|_,.str _=>gS|n+1,.tup xs=>xs.all (plain n)|n+1,.lst xs=>xs.all (plain n)|_,_=>gU
noncomputable abbrev DP:Nat:=9
noncomputable abbrev eqv:PV->PV->Bool:=jy DP
noncomputable abbrev xk:PV->Bool:=plain DP
inductive Mr where|add|sub|mul|mod|fdiv
inductive Dx where|eq|ne|lt|le|gt|is|EW|xW|jV
abbrev aQ(i:Int):Bool:=decide (-(2^64)<i)&&decide (i<2^64)
abbrev ii(f:Int->Int->Res PV):PV->PV->Res PV
 |.int i,.int j=>f i j|_,_=>.bad
abbrev DF:PV->PV->Res PV
 |.str x,.str y=>if x.length+y.length<=dW then .ok (.str (x++y)) else .bad
 |p,q=>ii (λi j=>.ok (.int (i+j))) p q
abbrev Ft:PV->PV->Res PV
 |.lst x,.int j=>if 0<=j/\j<1000/\x.length<1000 then .ok (.lst (j2 j.toNat x).flatten) else .bad
 |p,q=>ii (λi j=>if aQ i||aQ j then .ok (.int (i*j)) else .bad) p q
abbrev binOp:Mr->PV->PV->Res PV
 |.add=>DF|.sub=>ii λi j=>.ok (.int (i-j))|.mul=>Ft|.mod=>ii λi j=>if 0<j then .ok (.int (i%j)) else .bad
 |.fdiv=>ii λi j=>if 0<j/\j<1073741824 then .ok (.int (i/j)) else .bad
abbrev intsOf:List PV->Option (List Int)
 |[]=>gF []|.int i::r=>(intsOf r).map (i::·)|_=>gK
abbrev ai{a:Type}:List (List Int)->List a->List Int->Option a
 |b::ks,v::vs,k=>if b=k then gF v else ai ks vs k
 |_,_,_=>gK
abbrev bX(ks:ku)(k:List Int):Bool:=ks.any λa=>decide (a=k)
abbrev aZ(ks:ku)(k:List Int):ku:=if bX ks k then ks else ks++[k]
abbrev aV{a:Type}(ks:ku)(vs:List a)(k:List Int)(p:a):List a:=if bX ks k then List.zipWith (λb v=>if b=k then p else v) ks vs else vs++[p]
abbrev cF(ks:ku)(k:List Int):ku:=ks.filter λa=>decide (a≠k)
abbrev bq{a:Type}:List (List Int)->List a->List Int->List a
 |b::ks,v::vs,k=>if b=k then bq ks vs k else v::bq ks vs k
 |_,_,_=>[]
abbrev af(k:List Int):PV:=.tup (k.map .int)
abbrev fI:PV->Option (List Int)
 |.tup xs=>intsOf xs|_=>gK
abbrev fO:List PV->Option (ku)
 |[]=>gF []|x::r=>(fI x).bind λk=>(fO r).map (k::·)
abbrev wG:List PV->Option (List (List Int×PV))
 |[]=>gF []|.tup [x,y]::r=>(fI x).bind λk=>(wG r).map ((k,y)::·)|_=>gK
abbrev bh{a:Type}:List (List Int×a)->List (List Int)->List a->List (List Int)×List a
 |[],ks,vs=>(ks,vs)|p::r,ks,vs=>bh r (aZ ks p.1) (aV ks vs p.1 p.2)
abbrev Cn(x:PV)(ys:List PV):Bool:=ys.any λy=>eqv y x
abbrev fJ(a b:PV):Res PV:=if xk a&&xk b then .ok (.bl (eqv a b)) else .bad
abbrev gE(a b:PV):Res PV:=if xk a&&xk b then .ok (.bl (!eqv a b)) else .bad
abbrev wA:PV->PV->Res PV
 |.int i,.int j=>.ok (.bl (decide (i<j)))|_,_=>.bad
abbrev wy:PV->PV->Res PV
 |.int i,.int j=>.ok (.bl (decide (i<=j)))|_,_=>.bad
abbrev ym:PV->PV->Res PV
 |.int i,.int j=>.ok (.bl (decide (j<i)))|.str i,.str j=>.ok (.bl (decide (j.cps.toList<i.cps.toList)))|_,_=>.bad
abbrev EU:PV->Bool
 |.aC=>gS|_=>gU
abbrev mG:PV->PV->Res PV
 |a,.aC=>.ok (.bl (EU a))|_,_=>.bad
abbrev iZ:PV->PV->Res PV
 |a,.aC=>.ok (.bl (!EU a))|_,_=>.bad
abbrev ue:PV->PV->Res PV
 |a,.lst ys=>if xk a&&ys.all xk then .ok (.bl (Cn a ys)) else .bad
 |a,.aY ks _=>(Res.of (fI a)).bind λk=>.ok (.bl (bX ks k))|_,_=>.bad
abbrev eR:PV->PV->Res PV
 |a,.lst ys=>if xk a&&ys.all xk then .ok (.bl (!Cn a ys)) else .bad
 |a,.aY ks _=>(Res.of (fI a)).bind λk=>.ok (.bl (!bX ks k))|_,_=>.bad
abbrev er:Dx->PV->PV->Res PV
 |.eq=>fJ|.ne=>gE|.lt=>wA|.le=>wy|.gt=>ym|.is=>mG|.EW=>iZ|.xW=>ue|.jV=>eR
abbrev aG:PV->PV->Res PV
 |.lst xs,.int i=>Res.of (qZ xs i)|.tup xs,.int i=>Res.of (qZ xs i)|.str z,.int i=>if z.length<=dW then(Res.of (qZ z.cps.toList i)).bind λc=>.ok (.str {#[c]}) else .bad
 |.aY ks vs,y=>(Res.of (fI y)).bind λk=>Res.of (ai ks vs k)|_,_=>.bad
abbrev j8{a:Type}(xs:List a)(b c:Option Int):List a:=(xs.drop (HT.dm xs.length 0 b)).take (HT.dm xs.length xs.length c-HT.dm xs.length 0 b)
abbrev eg:PV->Option Int->Option Int->Res PV
 |.lst xs,lo,a=>.ok (.lst (j8 xs lo a))|.tup xs,lo,a=>.ok (.tup (j8 xs lo a))|_,_,_=>.bad
inductive B where|len|abs|max2|int|str|tuple|sorted|dict|rQ
abbrev chars(z:Str):List PV:=z.cps.toList.map λc=>.str {#[c]}
abbrev xE:List PV->Res PV
 |[.lst xs]=>.ok (.int xs.length)|[.tup xs]=>.ok (.int xs.length)|[.str z]=>if z.length<=dW then .ok (.int z.length) else .bad
 |[.aY ks _]=>.ok (.int ks.length)|_=>.bad
abbrev DM:List PV->Res PV
 |[.int i]=>.ok (.int (if i<0 then -i else i))
 |_=>.bad
abbrev DO:List PV->Res PV
 |[.int i,.int j]=>.ok (.int (if j>i then j else i))
 |_=>.bad
abbrev DN:List PV->Res PV
 |[.str z]=>if z.length<=640 then(Res.of (PySem.intText? z)).bind λn=>.ok (.int n) else .bad
 |_=>.bad
abbrev DQ:List PV->Res PV
 |[.int i]=>if i.natAbs.log2<1920 then .ok (.str (toString i)) else .bad
 |_=>.bad
abbrev ou:List PV->Res PV
 |[.lst xs]=>.ok (.tup xs)|_=>.bad
abbrev kP:List PV->Res PV
 |[.lst xs]=>(Res.of (fO xs)).bind λnss=>if decide (xs.length<64)&&nss.all (λk=>!k.isEmpty) then .ok (.lst (mO .aC xs nss)) else .bad
 |[.aY ks _]=>if decide (ks.length<64)&&ks.all (λk=>!k.isEmpty) then .ok (.lst (mO .aC (ks.map af) ks)) else .bad
 |_=>.bad
abbrev pg(k:List Int):List (List Int)->List (List Int)
 |[]=>[k]|x::l=>if k=x then x::l else if HT.lexLt k x=gS then k::x::l else x::pg k l
abbrev cK(nss:ku):ku:=nss.foldr pg []
abbrev Mj:PV->Res PV
 |.lst xs=>(Res.of (fO xs)).bind λnss=>if nss.all St.FJ&&decide ((cK nss).length<=4) then .ok (.lst ((cK nss).map af)) else .bad
 |_=>.bad
abbrev oq:List PV->Res PV
 |[.aY ks _]=>if ks.length<=dW then .ok (.lst (ks.map af)) else .bad
 |_=>.bad
abbrev kO:List PV->Res PV
 |[.lst xs]=>(Res.of (wG xs)).bind λps=>.ok (.aY (bh ps [] []).1 (bh ps [] []).2)|_=>.bad
abbrev dX:B->List PV->Res PV
 |.len=>xE|.abs=>DM|.max2=>DO|.int=>DN|.str=>DQ|.tuple=>ou|.sorted=>kP|.dict=>kO|.rQ=>oq
inductive Ty where|int|bool|tuple|list
abbrev kl:Ty->PV->Bool
 |.int,.int _=>gS|.int,.bl _=>gS|.bool,.bl _=>gS|.tuple,.tup _=>gS|.list,.lst _=>gS|_,_=>gU
abbrev nu(t:Ty):PV->Res PV
 |.exc _=>.bad|.aY _ _=>.bad|p=>.ok (.bl (kl t p))
inductive M where|j7|index
abbrev lN:List PV->Res PV
 |[.lst xs,v]=>if xk v&&xs.all xk then .ok (.int ((xs.countP λy=>eqv y v:Nat):Int)) else .bad
 |_=>.bad
abbrev pE:List PV->Res PV
 |[.lst xs,v]=>if xk v&&xs.all xk&&decide (xs.length<1000) then(match xs.findIdx? λy=>eqv y v with|some j=>.ok (.int (j:Nat))|none=>.bad) else .bad
 |_=>.bad
abbrev Fs:M->List PV->Res PV
 |.j7=>lN|.index=>pE
abbrev Fp:M->PV->Bool
 |.j7,.lst _=>gS|.index,.lst _=>gS|_,_=>gU
inductive Tg where
 |one (i:Nat)|two (i j:Nat)
mutual
inductive E where
 |var (i:Nat)|fG (i:Nat)
 |cst (p:PV)
 |glob (g:Str) (p:PV)
 |call (f:Str) (as:Es)
 |kU (i:Nat) (as:Es)
 |rh (f:Str) (as:Es) (g:Str) (idx:List Nat) (bw:List Nat)
 |blt (b:B) (as:Es)
 |ty (t:Ty) (a:E)
 |HD (c:Str) (a:E)
 |OM (m:M) (o:E) (as:Es)
 |bin (o:Mr) (a b:E)
 |cmp (o:Dx) (a b:E)
 |ch (o1 o2:Dx) (a b c:E)
 |not (a:E)
 |neg (a:E)
 |and (a b:E)|or (a b:E)
 |ite (c a b:E)
 |tup (as:Es)|lst (as:Es)
 |sub (a b:E)
 |slice (a:E) (lo hi:Oe)
 |comp (k:Nat) (bw:List Nat) (tg:Tg) (it:I) (elt:E)
 |bJ (k:Nat) (bw:List Nat) (tg:Tg) (it:I) (c elt:E)
 |GV (a:E)
 |get (a k:E)
 |mB (a:E)
inductive Es where
 |nil|cons (e:E) (es:Es)
inductive Oe where
 |no|some (e:E)
inductive I where
 |seq (e:E)|qC (e:E)|uu (a b:E)|enum (e:E)
end
mutual
inductive S where
 |expr (e:E)
 |set (i:Nat) (e:E)
 |own (i:Nat) (e:E)
 |bC (i:Nat)
 |app (i:Nat) (e:E)
 |qq (i:Nat) (e:E)
 |put (i:Nat) (k e:E)
 |ret (e:E)
 |ite (c:E) (a b:Ss)
 |cX (tg:Tg) (it:I) (b:Ss)
 |Df (c:E) (b:Ss)
 |raise (c:Str) (m:Str)
 |w8 (b:Ss) (c:Str) (i j:Nat)
 |brk
 |k9 (i:Nat)
 |qA (i:Nat) (e:E)
 |eN (i j n:Nat)
 |ni (m i:Nat)
inductive Ss where
 |nil|cons (s:S) (ss:Ss)
end
abbrev fV:List Int->Nat->Nat->Int->Nat
 |[],_,b,_=>b|c::cs,j,b,m=>if c<m then fV cs (j+1) j c else fV cs (j+1) b m
abbrev DH:List Int->Option Nat
 |[]=>gK|c::cs=>gF (fV cs 1 0 c)
abbrev j6:List PV->Option (List Int)
 |[]=>gF []|.tup (.int c::_)::r=>(j6 r).map (c::·)|_=>gK
noncomputable abbrev aL:=Str->List PV->Res PV
abbrev pY:Option Slot->Res PV
 |some (.val p)=>.ok p|_=>.bad
abbrev AV:Option Slot->Res PV
 |some (.val p)=>.ok p|some (.own p)=>.ok p|_=>.bad
abbrev Tg.put:Tg->PV->Sl->Res Sl
 |.one i,p,env=>.ok (env.set i (.val p))|.two i j,.tup [a,b],env=>.ok ((env.set i (.val a)).set j (.val b))|_,_,_=>.bad
abbrev mi(env:Sl):List Nat->Res (List PV)
 |[]=>.ok []|i::r=>(pY env[i]?).bind λp=>(mi env r).bind λps=>.ok (p::ps)
abbrev atC(l:List PV)(i:Nat):Res PV:=Res.of l[i]?
abbrev fM(l:List PV):List Nat->Res (List PV)
 |[]=>.ok []|i::r=>(atC l i).bind λp=>(fM l r).bind λps=>.ok (p::ps)
abbrev gW(env:Sl)(a:List Nat):Sl:=a.map λi=>env.getD i .no
abbrev itemsOf:PV->Res (List PV)
 |.lst xs=>.ok xs|.tup xs=>.ok xs|.str z=>.ok (chars z)|_=>.bad
abbrev CV(e:E)(p:PV):Res (List PV):=match p,e with
 |.aY _ _,.fG _=>.bad|.aY a _,_=>.ok (a.map af)|.lst xs,_=>.ok xs|.tup xs,_=>.ok xs|_,_=>.bad
abbrev fb(a:Int)(n:Nat):List PV:=(List.range n).map λi=>.int (a+(i:Nat))
abbrev bf(i:Int):Bool:=decide (-(2^62)<=i)&&decide (i<2^62)
abbrev df(n:Nat):List PV->List PV
 |[]=>[]|x::xs=>.tup [.int (n:Nat),x]::df (n+1) xs
abbrev oc:Option PV->List PV->List PV
 |some y,ys=>y::ys|none,ys=>ys
abbrev aH(f:PV->Res (Option PV)):List PV->Res (List PV)
 |[]=>.ok []|x::xs=>(f x).well.bind λo=>(aH f xs).bind λys=>.ok (oc o ys)
abbrev ny{a:Type}(p:PV)(f:Bool->Res a):Res a:=match p with
 |.bl b=>f b|_=>.bad
section
variable(F:aL)
mutual
noncomputable def aJ:E->Sl->Res PV
 |.var i,env=>pY env[i]?|.fG i,env=>AV env[i]?|.cst p,_=>.ok p|.glob _ p,_=>.ok p|.call f as,env=>(cQ as env).bind λps=>F f ps|.kU i as,env=>match env[i]? with
  |some (.fn g idx s)=>(cQ as env).bind λps=>if idx.head?=gF ps.length then(fM (ps++s) idx.tail).bind λqs=>F g qs else .bad
  |_=>.bad
 |.rh f as _ _ e,env=>(cQ as env).bind λps=>(mi env e).bind λcs=>F f (ps++cs)|.blt b as,env=>(cQ as env).bind λps=>dX b ps|.ty t a,env=>(aJ a env).bind λp=>nu t p|.HD c a,env=>(aJ a env).bind λp=>match p with
  |.exc d=>.ok (.bl (if c==(zu 0) then gS else(c==d||c==(zu 12))))
  |_=>.bad
 |.OM m o as,env=>(aJ o env).bind λp=>if Fp m p then(cQ as env).bind λps=>Fs m (p::ps) else .bad
 |.bin o a b,env=>(aJ a env).bind λx=>(aJ b env).bind λy=>binOp o x y|.cmp o a b,env=>(aJ a env).bind λx=>(aJ b env).bind λy=>er o x y|.ch u w a b c,env=>(aJ a env).bind λx=>(aJ b env).bind λy=>(er u x y).bind λt=>ny t λt=>if t then(aJ c env).bind λz=>er w y z else .ok (.bl gU)
 |.not a,env=>(aJ a env).bind λx=>ny x λb=>.ok (.bl (!b))|.neg a,env=>(aJ a env).bind λx=>match x with|.int i=>.ok (.int (-i))|_=>.bad
 |.and a b,env=>(aJ a env).bind λx=>ny x λt=>if t then aJ b env else .ok (.bl gU)
 |.or a b,env=>(aJ a env).bind λx=>ny x λt=>if t then .ok (.bl gS) else aJ b env
 |.ite c a b,env=>(aJ c env).bind λx=>ny x λt=>if t then aJ a env else aJ b env
 |.tup as,env=>(cQ as env).bind λps=>.ok (.tup ps)|.lst as,env=>(cQ as env).bind λps=>.ok (.lst ps)|.sub a b,env=>(aJ a env).bind λx=>(aJ b env).bind λy=>aG x y|.slice a lo A,env=>(aJ a env).bind λx=>(zL lo env).bind λl=>(zL A env).bind λh=>eg x l h|.comp k e r it elt,env=>(vE it env).bind λxs=>if xs.length<dW then(aH (λx=>(r.put x (j2 k .no++gW env e)).bind λj=>(aJ elt j).bind λy=>.ok (gF y)) xs).bind λys=>.ok (.lst ys) else .bad
 |.bJ k e r it c elt,env=>(vE it env).bind λxs=>if xs.length<dW then(aH (λx=>(r.put x (j2 k .no++gW env e)).bind λj=>(aJ c j).bind λt=>ny t λt=>if t then(aJ elt j).bind λy=>.ok (gF y) else .ok gK) xs).bind λys=>.ok (.lst ys) else .bad
 |.GV a,env=>(aJ a env).bind Mj|.get a k,env=>(aJ a env).bind λp=>match p with|.aY ks vs=>(aJ k env).bind λq=>(Res.of (fI q)).bind λz=>.ok ((ai ks vs z).getD .aC)|_=>.bad
 |.mB a,env=>(aJ a env).bind λp=>match p with|.lst xs=>(Res.of (intsOf xs)).bind λns=>.ok (if ns=[] then .aC else .int (cD ns (ns.length-1)))|_=>.bad
noncomputable def cQ:Es->Sl->Res (List PV)
 |.nil,_=>.ok []|.cons e es,env=>(aJ e env).bind λp=>(cQ es env).bind λps=>.ok (p::ps)
noncomputable def zL:Oe->Sl->Res (Option Int)
 |.no,_=>.ok gK|.some e,env=>(aJ e env).bind λp=>match p with|.int i=>.ok (gF i)|_=>.bad
noncomputable def vE:I->Sl->Res (List PV)
 |.seq e,env=>(aJ e env).bind (CV e)|.qC e,env=>(aJ e env).bind λp=>match p with|.int j=>if bf j then .ok (fb 0 j.toNat) else .bad|_=>.bad
 |.uu a b,env=>(aJ a env).bind λp=>(aJ b env).bind λq=>match p,q with|.int i,.int j=>if bf i&&bf j then .ok (fb i (j-i).toNat) else .bad|_,_=>.bad
 |.enum e,env=>(aJ e env).bind λp=>(itemsOf p).bind λxs=>.ok (df 0 xs)
end
end
inductive Fl where
 |nx (env:Sl)|bk (env:Sl)|ct (env:Sl)|rt (p:PV)
abbrev Fl.seq(f:Fl)(k:Sl->Res Fl):Res Fl:=match f with
 |.nx env=>k env|f=>.ok f
abbrev forL(body:PV->Sl->Res Fl):List PV->Sl->Res Fl
 |[],env=>.ok (.nx env)|x::xs,env=>(body x env).bind λf=>match f with
  |.nx a=>forL body xs a|.ct a=>forL body xs a|.bk a=>.ok (.nx a)|.rt p=>.ok (.rt p)
abbrev dw(c:Sl->Res PV)(body:Sl->Res Fl):Nat->Sl->Res Fl
 |0,_=>.bad|n+1,env=>(c env).bind λt=>ny t λt=>if t then(body env).bind λf=>(match f with
  |.nx a=>dw c body n a|.ct a=>dw c body n a|.bk a=>.ok (.nx a)|.rt p=>.ok (.rt p)) else .ok (.nx env)
noncomputable abbrev WN:Nat:=1000000
abbrev Slot.mW:Slot->Bool
 |.own _=>gS|.Dl _=>gS|_=>gU
abbrev o6:Slot->Slot
 |.own p=>.val p|s=>s
section
variable(F:aL)
mutual
noncomputable def gO:S->Sl->Res Fl
 |.expr e,env=>(aJ F e env).bind λZ=>.ok (.nx env)|.set i e,env=>(aJ F e env).bind λp=>.ok (.nx (env.set i (.val p)))|.own i e,env=>(aJ F e env).bind λp=>.ok (.nx (env.set i (.own p)))|.bC i,env=>.ok (.nx (env.modify i o6))|.app i e,env=>match env[i]? with
  |some (.own (.lst xs))=>(aJ F e env).bind λp=>if xs.length<dW then .ok (.nx (env.set i (.own (.lst (xs++[p]))))) else .bad
  |_=>.bad
 |.qq i e,env=>match env[i]? with
  |some (.own (.lst xs))=>(aJ F e env).bind λp=>match p with
   |.lst ys=>if xs.length+ys.length<=dW then .ok (.nx (env.set i (.own (.lst (xs++ys))))) else .bad
   |_=>.bad
  |_=>.bad
 |.put i k e,env=>(aJ F e env).bind λp=>match env[i]? with
  |some (.own (.lst xs))=>(aJ F k env).bind λkp=>match kp with
   |.int n=>(Res.of (B9 xs.length n)).bind λj=>.ok (.nx (env.set i (.own (.lst (xs.set j p)))))|_=>.bad
  |some (.own (.aY ks vs))=>(aJ F k env).bind λkp=>match fI kp with
   |some kk=>if ks.length<dW then .ok (.nx (env.set i (.own (.aY (aZ ks kk) (aV ks vs kk p))))) else .bad
   |none=>.bad
  |_=>.bad
 |.ret e,env=>(aJ F e env).bind λp=>.ok (.rt p)|.ite c a b,env=>(aJ F c env).bind λp=>ny p λt=>if t then aD a env else aD b env
 |.cX g it b,env=>(vE F it env).bind λxs=>forL (λx env=>(g.put x env).bind λh=>aD b h) xs env|.Df c b,env=>dw (aJ F c) (aD b) WN env|.raise c _,_=>.exc c|.w8 b c i j,env=>if env.any Slot.mW then .bad else match aD b env with
  |.exc d=>.ok (.nx ((env.set j (.val (.exc d))).set i .no))|r=>r
 |.brk,env=>.ok (.bk env)|.qA i e,env=>(aJ F e env).bind λp=>(kO [p]).bind λq=>.ok (.nx (env.set i (.own q)))|.k9 i,env=>.ok (.nx (env.set i (.own (.aY [] []))))|.eN i j n,env=>match env[j]?,env[i]?,env[n]? with
  |some (.own (.aY ks vs)),gF (.own (.aY f o)),gF (.val kp)=>match fI kp with
   |some kk=>match ai ks vs kk with
    |some p=>if f.length<dW/\i≠j then .ok (.nx ((env.set j (.own (.aY (cF ks kk) (bq ks vs kk)))).set i (.own (.aY (aZ f kk) (aV f o kk p))))) else .bad
    |none=>.bad
   |none=>.bad
  |_,_,_=>.bad
 |.ni m i,env=>match env[i]? with
  |some (.own (.aY ks vs))=>match j6 vs with
   |some cs=>match(DH cs).bind λx=>ks[x]? with
    |some k=>.ok (.nx (env.set m (.val (af k))))|none=>.bad
   |none=>.bad
  |_=>.bad
noncomputable def aD:Ss->Sl->Res Fl
 |.nil,env=>.ok (.nx env)|.cons s ss,env=>(gO s env).bind λf=>f.seq (aD ss)
end
end
structure Def where
 N:List Str
 np:Nat
 body:Ss
 jq:Option (Str×List Nat):=gK
abbrev cO(d:Def)(as:List PV):Sl:=match d.jq with
 |none=>as.map .val++j2 (d.N.length-as.length) .no|some q=>(as.take (d.np-1)).map .val++.fn q.1 q.2 (as.drop (d.np-1))::j2 (d.N.length-d.np) .no
abbrev cM(d:Def)(as:List PV):Bool:=match d.jq with
 |none=>as.length==d.np|some _=>decide (0<d.np)&&decide (d.np-1<=as.length)
abbrev ax(F:aL)(d:Def)(as:List PV):Res PV:=
 if cM d as then(aD F d.body (cO d as)).bind λf=>match f with
  |.nx _=>.ok .aC|.rt p=>.ok p|_=>.bad
 else .bad
abbrev den:List (Str×Def)->aL
 |[],_,_=>.bad|(n,d)::r,f,as=>if f==n then ax (den r) d as else den r f as
noncomputable abbrev ki(k:List Int):List Key:=k.map Sum.inl
def xZ{a b:List Int}(h:ki a=ki b):a=b:=by
 induction a generalizing b with
 |nil=>cases b with|nil=>rfl|cons=>cases h
 |cons x a c=>cases b with
  |nil=>cases h
  |cons y b=>simp! [ki,a7,List.cons.injEq,Sum.inl.injEq] at h;rw [h.1,c h.2]
def tY(k:List Int):(ki k).map kV=k.map V.int:=by unfold ki;rw [List.map_map];rfl
theorem lJ{ks:ku}{u:V}{us:List V}:kz (k::ks) (u::us)=(ki k,u)::kz ks us:=rfl
def fY{ks:ku}{us:List V}(h:ks.length=us.length):(kz ks us).length=ks.length:=by unfold kz;rw [List.length_zip,zzl];lia
def nO{ks:ku}{us:List V}(h:ks.length=us.length):(kz ks us).map (·.1)=ks.map ki:=by unfold kz;exact List.map_fst_zip (by rw [zzl];lia)
theorem km(k:List Int):∀(ks:ku) (us:List V),i8 (kz ks us) (ki k)=ai ks us k
 |[],us=>by unfold ai;rfl|a::ks,[]=>by unfold ai;rfl|a::ks,u::us=>by
  rw [lJ];unfold ai;by_cases h:a=k
  .subst h;rw [if_pos rfl];exact ja rfl
  .rw [if_neg h,i9 (λz=>h (xZ z))];exact km k ks us
theorem ji{b:Type}(k:List Int):∀(ks:ku) (us:List b),ks.length=us.length->(ai ks us k).isSome=bX ks k
 |[],[],_=>rfl|a::ks,u::us,h=>by
  unfold ai bX;rw [List.any_cons];by_cases e:a=k
  .simp [e]
  .rw [if_neg e];have:=ji k ks us (zx6 h);unfold bX at this;rw [this];simp [e]
 |[],_::_,h=>by simp at h|_::_,[],h=>by simp at h
def ME(k:List Int):∀(ks:ku) (us:List V),ks.length=us.length->((kz ks us).any λa=>decide (a.1=ki k))=bX ks k:=λks us h=>by rw [qf,km,ji k ks us h]
def x6{ks:ku}{us:List V}(h:ks.length=us.length)(k:List Int)(v:V):putK (kz ks us) (ki k) v=kz (aZ ks k) (aV ks us k v):=by
 unfold putK aZ aV;rw [ME k ks us h];split
 .have go:∀(ks:ku) (us:List V),(kz ks us).map (λb=>if b.1=ki k then(b.1,v) else b)=kz ks (List.zipWith (λc u=>if c=k then v else u) ks us):=by
   intro ks
   induction ks with
   |nil=>intro us;simp [kz]|cons a ks d=>
    intro us;cases us with
    |nil=>simp [kz]|cons u us=>
     rw [lJ,a7,List.zipWith_cons_cons,lJ,d];by_cases e:a=k
     .simp [e]
     .rw [if_neg (λz=>e (xZ z)),if_neg e]
  exact go ks us
 .unfold kz;rw [List.map_append,List.zip_append (by rw [zzl];exact h)];rfl
def pR{a:Type}{ks:ku}{us:List a}(h:ks.length=us.length)(k:List Int)(v:a):(aZ ks k).length=(aV ks us k v).length:=by
 unfold aZ aV;split
 .rw [List.length_zipWith];lia
 .simp [h]
theorem Ak(k:List Int):∀{ks:ku} {us:List V},ks.length=us.length->iu (kz ks us) (ki k)=kz (cF ks k) (bq ks us k)
 |[],[],_=>rfl|a::ks,u::us,h=>by
  have b:=Ak k (ks:=ks) (us:=us) (zx6 h);unfold cF bq;rw [lJ,fS];by_cases e:a=k
  .subst e;rw [BH rfl,b];simp [cF]
  .rw [BG (λz=>e (xZ z)),b,if_neg e,if_pos (zx6 e),lJ];rfl
 |[],_::_,h=>by simp at h|_::_,[],h=>by simp at h
theorem vz{c:Type}(k:List Int):∀{ks:ku} {us:List c},ks.length=us.length->(cF ks k).length=(bq ks us k).length
 |[],[],_=>by unfold bq;rfl|a::ks,u::us,h=>by
  have b:=vz k (ks:=ks) (us:=us) (zx6 h);unfold cF bq;rw [fS];by_cases e:a=k
  .subst e;rw [if_neg (by simp),if_pos rfl];exact b
  .rw [if_neg e,if_pos (zx6 e),cu,cu];exact congrArg (·+1) b
 |[],_::_,h=>by simp at h|_::_,[],h=>by simp at h
section
variable{W:Wd}
theorem n6:∀{ks:ku} {ps:List PV} {us:List V},aq W G ps us->ai ks ps k=gF p->∃v,ai ks us k=gF v/\Rep W G p v
 |[],_,_,_,e=>by unfold ai at e;cases e
 |a::ks,[],_,_,e=>by unfold ai at e;cases e
 |a::ks,q::ps,_,l,e=>by
  let(v,r,rfl,h1,b):=l.bU;unfold ai at e⊢;by_cases h:a=k
  .rw [if_pos h] at e⊢;cases e;exact⟨v,rfl,h1⟩
  .rw [if_neg h] at e⊢;exact n6 b e
theorem Hu(c:Rep W G p v):∀{ks:ku} {ps:List PV} {us:List V},aq W G ps us->aq W G (List.zipWith (λb v=>if b=k then p else v) ks ps) (List.zipWith (λb u=>if b=k then v else u) ks us)
 |[],_,_,_=>by simp! [List.zipWith_nil_left];exact .nil|a::ks,[],_,l=>by simp! [aq] at l;subst l;simp! [List.zipWith_nil_right];exact .nil|a::ks,q::ps,_,l=>by
  let(u,r,rfl,h1,d):=l.bU;rw [List.zipWith_cons_cons,List.zipWith_cons_cons];refine .cons ?_ (Hu c d);split
  .exact c
  .exact h1
def uo{ks:ku}{ps:List PV}{us:List V}(l:aq W G ps us)(a:Rep W G p v):aq W G (aV ks ps k p) (aV ks us k v):=by
 unfold aV;split
 .exact Hu a l
 .exact l.append (.cons a .nil)
theorem oM:∀{ks:ku} {ps:List PV} {us:List V},aq W G ps us->aq W G (bq ks ps k) (bq ks us k)
 |[],_,_,_=>by unfold bq;exact .nil|a::ks,[],_,l=>by simp! [aq] at l;subst l;unfold bq;exact .nil|a::ks,q::ps,_,l=>by
  let(u,r,rfl,h1,b):=l.bU;unfold bq;split
  .exact oM b
  .exact .cons h1 (oM b)
end
theorem rL:∀{xs:List PV} {ns:List Int},intsOf xs=gF ns->xs=ns.map .int
 |[],_,e=>by cases e;rfl
 |.int i::r,_,e=>by unfold intsOf at e;let(ns,h1,rfl):=b0.mp e;rw [rL h1];rfl|.aC::_,_,e=>by cases e
 |.bl _::_,_,e=>by cases e
 |.str _::_,_,e=>by cases e
 |.tup _::_,_,e=>by cases e
 |.lst _::_,_,e=>by cases e
 |.exc _::_,_,e=>by cases e
 |.aY _ _::_,_,e=>by cases e
def eW(h:fI p=gF k):p=af k:=by
 unfold fI at h;split at h
 .rw [rL h];rfl
 .cases h
end Ci
variable{it:Ci.I}{f:Ci.PV->Ci.Res (Option Ci.PV)}
namespace L2
open PySem.Spec PyProof.Rows
end L2
namespace Ci
open L2
def tZ{n:Nat}(h:n<=dW):n<=sizeLine:=c6 h (by decide)
section
variable{W:Wd}
def dP(W:Wd)(G H:Hp)(r:PV)(Q:VK):Prop:=∀v a b,aE W G H a b->Rep W a r v->Q v b
def dP.at{r:PV}(h:dP W G H r Q)(s:aB G H)(k:Rep W G r v):Q v H:=h v G H (.refl s) k
def dP.tup{p:hF}(h:dP W G H (.tup xs) Q)(s:aB G H)(k:aq W G xs vs)(a:H p=gK):Q (.ref p) (upd H p (.tup vs)):=
 h _ _ _ (.new s a) (.t (.inl av) (aq.same (bD (s.free a)) xs k))
def dP.lst{p:hF}(h:dP W G H (.lst xs) Q)(s:aB G H)(k:aq W G xs vs)(a:H p=gK):Q (.ref p) (upd H p (.lst vs)):=
 h _ _ _ (.new s a) (.l (.inl (.inl av)) (aq.same (bD (s.free a)) xs k))
theorem nC{f:PV->PV->Bool}:∀{xs ys:List PV},xs.length≠ys.length->eqs f xs ys=gU
 |[],[],h=>absurd rfl h|_::xs,_::ys,h=>by simp! [eqs];rw [nC (xs:=xs) (ys:=ys) (λz=>h (by simp [z]))];simp|[],_::_,_=>rfl|_::_,[],_=>rfl
theorem nB{f:PV->PV->Bool}:∀{xs ys:List PV},xs.length=ys.length->eqs f xs ys=(List.range xs.length).all λj=>f (xs.getD j .aC) (ys.getD j .aC)
 |[],[],_=>rfl|x::xs,y::ys,h=>by simp! [eqs];rw [nB (xs:=xs) (ys:=ys) (zx6 h),cu,List.range_succ_eq_map,List.all_cons,List.all_map];rfl|[],_::_,h=>by simp at h|_::_,[],h=>by simp at h
def rD{f:PV->PV->Bool}:∀{xs ys:List PV},((List.range (min xs.length ys.length)).all (λj=>f (xs.getD j .aC) (ys.getD j .aC))&&xs.length==ys.length)=eqs f xs ys:=λ{xs ys}=>by
 by_cases h:xs.length=ys.length
 .rw [nB h,h,Nat.min_self,beq_self_eq_true,Bool.and_true]
 .rw [nC h,beq_eq_false_iff_ne.mpr h,Bool.and_false]
theorem vC{f:PV->PV->Bool}:∀{xs ys:List PV},xs.length=ys.length->(∀(j:Nat) x y,xs[j]?=gF x->ys[j]?=gF y->f x y=gS)->eqs f xs ys=gS
 |[],[],_,_=>rfl|x::xs,y::ys,h,k=>by simp! [eqs];rw [k 0 x y rfl rfl,vC (xs:=xs) (ys:=ys) (zx6 h) λj a b c d=>k (j+1) a b (zx6 c) (zx6 d)];rfl|[],_::_,h,_=>by simp at h|_::_,[],h,_=>by simp at h
def qG(hK:W.K=X.K){a:hF}{vs:List V}(h:uS W.K H a vs):gR X.K H a vs:=by
 rw [hK] at h;rcases h with h|⟨b,n,c,d,e⟩
 .exact .inl h
 .exact .inr {_,b,n,c,rfl,rfl,rfl,d,e}
def wa{d:St}{s:hD}(I:Inv X ae d H s){us:List V}(h1:gf X.K H a vs)(f:gR X.K H a us):False:=by let(h,_,(o,e,g,_),_):=I.tuple h1;let(i,_,(j,n,c,b,_),_):=I.list f;rw [e] at c;cases c;rw [g] at b;exact absurd b (by decide)
theorem jl{c:Type}:∀{xs ys:List c},xs.length=ys.length->(∀(j:Nat) x y,xs[j]?=gF x->ys[j]?=gF y->x=y)->xs=ys
 |[],[],_,_=>rfl|x::xs,y::ys,h,k=>by rw [k 0 x y rfl rfl,jl (xs:=xs) (ys:=ys) (zx6 h) λj a b d e=>k (j+1) a b (zx6 d) (zx6 e)]|[],_::_,h,_=>by simp at h|_::_,[],h,_=>by simp at h
def ZF(X:Cx)(W:Wd)(G H:Hp):PV->V->Prop
 |.aC,v=>v=.aC|.bl b,v=>v=.bl b|.int i,v=>v=.int i|.str z,v=>v=.str z|.tup xs,v=>∃a,v=.ref a/\∃vs,gf X.K H a vs/\aq W G xs vs|.lst xs,v=>∃a,v=.ref a/\∃vs,gR X.K H a vs/\aq W G xs vs|_,_=>False
def Vb(hK:W.K=X.K)(f:aB G H){n:Nat}(g:plain n p=gS)(h:Top W H0 G H p v):ZF X W G H p v:=by
 cases p with
 |aC=>exact h.aC|bl b=>exact h.bl|int i=>exact h.int|str z=>exact h.str|tup xs=>let(a,d,e,sq,l):=h.tup f;rw [hK] at sq;exact⟨a,e,d,sq,l⟩|lst xs=>let(a,d,e,sq,l):=h.lst f;exact{a,e,d,qG hK sq,l}|exc c=>cases n<;>exact aP g
 |aY a b=>cases n<;>exact aP g
def AL{B:St}{s:hD}(I:Inv X ae B H s)(hK:W.K=X.K)(h:aB G H):∀(n:Nat) {p q:PV} {v:V},plain n p=gS->plain n q=gS->Top W H0 G H p v->Top W H0 G H q v->p=q:=by
 intro n
 induction n with
 |zero=>
  intro p q v c d r t;have a:=Vb hK h c r;have b:=Vb hK h d t;cases p<;>cases q<;>first|exact aP c|exact aP d|(cases a;cases b;rfl)|(cases a;cases b)
 |succ n C=>
  intro p q v c d r t;have a:=Vb hK h c r;have b:=Vb hK h d t
  have z:∀{xs i:List PV} {k:List V},xs.all (plain n)=gS->i.all (plain n)=gS->aq W G xs k->aq W G i k->xs=i:=λ{xs i k} a1 a2 e f=>jl (by rw [<-e.length,f.length]) λj x y ex A=>by let(u,D,E):=e.qr ex;let(M,g,F):=f.get D;rw [A] at g;cases g;exact C (c5.mp a1 _ (a0 ex)) (c5.mp a2 _ (a0 A)) (.inl E) (.inl F)
  cases p<;>cases q<;>first|exact aP c|exact aP d|(cases a;cases b;done)|(cases a;cases b;rfl)|(let(_,L,_):=a;cases b;cases L;done)|(let(_,w,_):=b;cases a;cases w;done)|(let(x,rfl,k,m,e):=a;let(y,w,N,o,f):=b;cases w;first|exact(wa I m o).elim|exact(wa I o m).elim|(cases I.sk m o;rw [z c d e f])|(cases I.vV m o;rw [z c d e f]))
def D8:∀{n:Nat} {p:PV},plain n p=gS->jy n p p=gS:=by
 intro n
 induction n with
 |zero=>intro p h;cases p<;>first|exact aP h|rfl|exact beq_self_eq_true _
 |succ n c=>
  intro p h;cases p<;>first|exact aP h|rfl|exact beq_self_eq_true _|exact vC rfl λj x y a b=>by rw [a] at b;cases b;exact c (c5.mp h _ (a0 a))
def zF{b:St}{s:hD}(I:Inv X ae b H s)(hK:W.K=X.K)(c:aB G H):∀(n:Nat) {p q:PV} {v:V},plain n p=gS->plain n q=gS->Top W H0 G H p v->Top W H0 G H q v->jy n p q=gS:=λn {p q v} a d e f=>by cases AL I hK c n a d e f;exact D8 a
def nU{x:V}(r:RelV x (.ref a)):x=.ref a:=by
 cases x<;>first|(cases r;rfl)|(let(_,h):=r;cases h)|cases r
def ZE(W:Wd)(G:Hp)(h:h9):PV->hB->Prop
 |.aC,v=>∃_t:Nat,v=.none/\True|.bl b,v=>∃_t:Nat,v=.bool b/\True|.int i,v=>∃t,v=.int i t/\True|.str z,v=>∃t,v=.str z t/\True|.tup xs,v=>∃a,v=.ref a/\∃c vs,aq W G xs vs/\Vals vs c/\h.IsTuple a c.toArray|.lst xs,v=>∃a,v=.ref a/\∃c vs,aq W G xs vs/\Vals vs c/\h.IsList a c.toArray|_,_=>False
def Mg{k:St}{s:hD}(I:Inv X ae k H s)(hK:W.K=X.K)(f:aB G H){n:Nat}{g:hB}(j:plain n p=gS)(h:Top W H0 G H p v)(r:RelV v g):ZE W G s.heap p g:=by
 cases p with
 |aC=>cases h.aC;cases r;exact{0,rfl,trivial}
 |bl b=>cases h.bl;cases r;exact{0,rfl,trivial}
 |int i=>cases h.int;let(t,rfl):=r;exact⟨t,rfl,trivial⟩
 |str z=>cases h.str;let(t,rfl):=r;exact⟨t,rfl,trivial⟩
 |tup xs=>let(a,d,rfl,sq,l):=h.tup f;rw [hK] at sq;cases r;let(e,q,z,_):=I.tuple sq;exact⟨a,rfl,e,d,l,q,z⟩
 |lst xs=>let(a,d,rfl,sq,l):=h.lst f;cases r;let(e,q,z,_):=I.list (qG hK sq);exact⟨a,rfl,e,d,l,q,z.isList⟩
 |exc c=>cases n<;>exact aP j
 |aY a b=>cases n<;>exact aP j
def uQ(W:Wd)(G:Hp)(s:hD)(n:Nat)(A:hW)(xs ys:List PV):Prop:=∀{c d:List V} {a b:List hB},aq W G xs c->aq W G ys d->Vals c a->Vals d b->∀j (e:j<a.toArray.size) (f:j<b.toArray.size),SeqAt.EqAt A s a.toArray[j] b.toArray[j] (jy n (xs.getD j .aC) (ys.getD j .aC))
theorem D7{s:hD}{n:Nat}(h:∀{p q:PV} {v u:V} {a b:hB},plain n p=gS->plain n q=gS->Rep W G p v->Rep W G q u->RelV v a->RelV u b->SeqAt.EqAt A s a b (jy n p q))(d:xs.all (plain n)=gS)(a2:ys.all (plain n)=gS):uQ W G s n A xs ys:=λ{z us B C} e f g i j g1 g2=>by let(x,k,m):=Hn g g1;let(y,o,r):=Hn i g2;let(D,ex,t):=e.get k;let(E,c,w):=f.get o;rw [b4,b4,ex,c];exact h (c5.mp d _ (a0 ex)) (c5.mp a2 _ (a0 c)) t w m r
def AK{s:hD}{n:Nat}{b:hF}(h:A.units<cLine)(i:uQ W G s n A.in1 xs ys)(k1:∃c vs,aq W G xs vs/\Vals vs c/\s.heap.IsTuple a c.toArray)(k2:∃c vs,aq W G ys vs/\Vals vs c/\s.heap.IsTuple b c.toArray):SeqAt.RcAt A s (.ref a) (.ref b) (eqs (jy n) xs ys):=by
 let(c,vs,l,d,k):=k1;let(m,p,f,g,o):=k2;have m1:c.length=xs.length:=by rw [<-d.length,l.length]
 have m2:m.length=ys.length:=by rw [<-g.length,f.length]
 have:=SeqAt.RcAt.tuples (e:=λj=>jy n (xs.getD j .aC) (ys.getD j .aC)) k o h (i l f d g);rw [aT,aT,m1,m2,rD] at this;exact this
def AJ{s:hD}{n:Nat}{b:hF}(d:A.units<cLine)(m:uQ W G s n A.in1 xs ys)(k1:∃c vs,aq W G xs vs/\Vals vs c/\s.heap.IsList a c.toArray)(k2:∃c vs,aq W G ys vs/\Vals vs c/\s.heap.IsList b c.toArray):SeqAt.RcAt A s (.ref a) (.ref b) (eqs (jy n) xs ys):=by
 let(c,vs,l,f,g):=k1;let(o,p,h,i,k):=k2;have m1:c.length=xs.length:=by rw [<-f.length,l.length]
 have m2:o.length=ys.length:=by rw [<-i.length,h.length]
 by_cases hl:xs.length=ys.length
 .have:=SeqAt.RcAt.lists (e:=λj=>jy n (xs.getD j .aC) (ys.getD j .aC)) g k (by rw [aT,aT];lia) d (m l h f i);rw [aT,m1,<-nB hl] at this;exact this
 .have:=SeqAt.RcAt.lists_lengths g k (by rw [aT,aT,m1,m2];simp [hl]) d;rw [nC hl];exact this
open SeqAt.EqAt in
def D9{E:St}{s:hD}(I:Inv X ae E H s)(hK:W.K=X.K)(m:aB G H):∀(n:Nat) {A:hW} {p q:PV} {v u:V} {r t:hB},A.units+(n+1)<cLine->plain n p=gS->plain n q=gS->Top W H0 G H p v->Top W H0 G H q u->RelV v r->RelV u t->
 SeqAt.EqAt A s r t (jy n p q):=by
 intro n
 induction n with
 |zero=>
  intro A p q v u r t F d e h i j k;have a:=Mg I hK m d h j;have b:=Mg I hK m e i k;cases p<;>cases q<;>first|exact aP d|exact aP e|(let(w,rfl,_):=a;let(y,rfl,_):=b)
  exact same _;exact none_bool _;exact none_int _ _;exact none_str _ _;exact bool_none _;exact bool_bool _ _;exact bool_int _ _ _;exact bool_str _ _ _;exact int_none _ _;exact int_bool _ _ _;exact int_int _ _ _ _;exact int_str _ _ _ _;exact str_none _ _;exact str_bool _ _ _;exact str_int _ _ _ _;exact str_str _ _ _ _
 |succ n L=>
  intro A p q v u r t F d e h i j k;have c:A.units<cLine:=by lia
  have a:=Mg I hK m d h j;have b:=Mg I hK m e i k;have C:∀{xs D:List PV},xs.all (plain n)=gS->D.all (plain n)=gS->uQ W G s n A.in1 xs D:=λM N=>D7 (λd e h i j k=>L (by show A.units+1+(n+1)<_;lia) d e (.inl h) (.inl i) j k) M N;cases p<;>cases q<;>first|exact aP d|exact aP e|(let(w,rfl,z):=a;let(y,rfl,B):=b;try let(_,_,_,_,f):=id z;try let(_,_,_,_,g):=id B)
  exact same _;exact none_bool _;exact none_int _ _;exact none_str _ _;exact none_tuple g c;exact none_list g c;exact bool_none _;exact bool_bool _ _;exact bool_int _ _ _;exact bool_str _ _ _;exact bool_tuple _ g c;exact bool_list _ g c;exact int_none _ _;exact int_bool _ _ _;exact int_int _ _ _ _;exact int_str _ _ _ _;exact int_tuple _ _ g c;exact int_list _ _ g c;exact str_none _ _;exact str_bool _ _ _;exact str_int _ _ _ _;exact str_str _ _ _ _;exact str_tuple _ _ g c;exact str_list _ _ g c;exact tuple_none f c;exact tuple_bool _ f c;exact tuple_int _ _ f c;exact tuple_str _ _ f c;by_cases o:w=y
  .subst o;cases nU j;cases nU k;rw [zF I hK m (n+1) d e h i];exact same _
  .exact of_refs o (AK c (C d e) z B)
  exact tuple_list f g c;exact list_none f c;exact list_bool _ f c;exact list_int _ _ f c;exact list_str _ _ f c;exact list_tuple f g c;by_cases o:w=y
  .subst o;cases nU j;cases nU k;rw [zF I hK m (n+1) d e h i];exact same _
  .exact of_refs o (AJ c (C d e) z B)
end
section
variable{W:Wd}
open SeqAt.RcAt in
def Tc{z:St}{s:hD}(I:Inv X ae z H s)(hK:W.K=X.K)(h:aB G H)(n:Nat){u:V}{r t:hB}(D:A.units+(n+2)<cLine)(f:plain (n+1) p=gS)(g:plain (n+1) q=gS)(h1:Top W H0 G H p v)(i:Top W H0 G H q u)(j:RelV v r)(k:RelV u t):
 SeqAt.RcAt A s r t (jy (n+1) p q):=by
 have c:A.units<cLine:=by lia
 have a:=Mg I hK h f h1 j;have b:=Mg I hK h g i k;have w:∀{xs y:List PV},xs.all (plain n)=gS->y.all (plain n)=gS->uQ W G s n A.in1 xs y:=λB C=>D7 (λf g h1 i j k=>D9 (H0:=H0) I hK h n (by show A.units+1+(n+1)<_;lia) f g (.inl h1) (.inl i) j k) B C;cases p<;>cases q<;>first|exact aP f|exact aP g|(let(E,rfl,m):=a;let(F,rfl,o):=b;try let(_,_,_,_,d):=id m;try let(_,_,_,_,e):=id o)
 exact none_none;exact none_bool _;exact none_int _ _;exact none_str _ _;exact none_tuple e c;exact none_list e c;exact bool_none _;exact bool_bool _ _;exact bool_int _ _ _;exact bool_str _ _ _;exact bool_tuple _ e c;exact bool_list _ e c;exact int_none _ _;exact int_bool _ _ _;exact int_int _ _ _ _;exact int_str _ _ _ _;exact int_tuple _ _ e c;exact int_list _ _ e c;exact str_none _ _;exact str_bool _ _ _;exact str_int _ _ _ _;exact str_str _ _ _ _;exact str_tuple _ _ e c;exact str_list _ _ e c;exact tuple_none d c;exact tuple_bool _ d c;exact tuple_int _ _ d c;exact tuple_str _ _ d c;exact AK c (w f g) m o;exact tuple_list d e c;exact list_none d c;exact list_bool _ d c;exact list_int _ _ d c;exact list_str _ _ d c;exact list_tuple d e c;exact AJ c (w f g) m o
def CP{s:hD}{n:Nat}{b:hF}(h:A.units<cLine)(i:uQ W G s n A.in1 xs ys)(k1:∃c vs,aq W G xs vs/\Vals vs c/\s.heap.IsTuple a c.toArray)(k2:∃c vs,aq W G ys vs/\Vals vs c/\s.heap.IsTuple b c.toArray):SeqAt.RcNeAt A s (.ref a) (.ref b) (!eqs (jy n) xs ys):=by
 let(c,vs,l,d,k):=k1;let(m,p,f,g,o):=k2;have m1:c.length=xs.length:=by rw [<-d.length,l.length]
 have m2:m.length=ys.length:=by rw [<-g.length,f.length]
 have:=SeqAt.RcNeAt.tuples (e:=λj=>jy n (xs.getD j .aC) (ys.getD j .aC)) k o h (i l f d g);rw [aT,aT,m1,m2,rD] at this;exact this
def CO{s:hD}{n:Nat}{b:hF}(d:A.units<cLine)(m:uQ W G s n A.in1 xs ys)(k1:∃c vs,aq W G xs vs/\Vals vs c/\s.heap.IsList a c.toArray)(k2:∃c vs,aq W G ys vs/\Vals vs c/\s.heap.IsList b c.toArray):SeqAt.RcNeAt A s (.ref a) (.ref b) (!eqs (jy n) xs ys):=by
 let(c,vs,l,f,g):=k1;let(o,p,h,i,k):=k2;have m1:c.length=xs.length:=by rw [<-f.length,l.length]
 have m2:o.length=ys.length:=by rw [<-i.length,h.length]
 by_cases hl:xs.length=ys.length
 .have:=SeqAt.RcNeAt.lists (e:=λj=>jy n (xs.getD j .aC) (ys.getD j .aC)) g k (by rw [aT,aT];lia) d (m l h f i);rw [aT,m1,<-nB hl] at this;exact this
 .have:=SeqAt.RcNeAt.lists_lengths g k (by rw [aT,aT,m1,m2];simp [hl]) d;rw [nC hl];exact this
open SeqAt.RcNeAt in
def Kw{z:St}{s:hD}(I:Inv X ae z H s)(hK:W.K=X.K)(h:aB G H)(n:Nat){u:V}{r t:hB}(D:A.units+(n+2)<cLine)(f:plain (n+1) p=gS)(g:plain (n+1) q=gS)(h1:Top W H0 G H p v)(i:Top W H0 G H q u)(j:RelV v r)(k:RelV u t):
 SeqAt.RcNeAt A s r t (!jy (n+1) p q):=by
 have c:A.units<cLine:=by lia
 have a:=Mg I hK h f h1 j;have b:=Mg I hK h g i k;have w:∀{xs y:List PV},xs.all (plain n)=gS->y.all (plain n)=gS->uQ W G s n A.in1 xs y:=λB C=>D7 (λf g h1 i j k=>D9 (H0:=H0) I hK h n (by show A.units+1+(n+1)<_;lia) f g (.inl h1) (.inl i) j k) B C;cases p<;>cases q<;>first|exact aP f|exact aP g|(let(E,rfl,m):=a;let(F,rfl,o):=b;try let(_,_,_,_,d):=id m;try let(_,_,_,_,e):=id o)
 exact none_none;exact none_bool _;exact none_int _ _;exact none_str _ _;exact none_tuple e c;exact none_list e c;exact bool_none _;exact bool_bool _ _;exact bool_int _ _ _;exact bool_str _ _ _;exact bool_tuple _ e c;exact bool_list _ e c;exact int_none _ _;exact int_bool _ _ _;exact int_int _ _ _ _;exact int_str _ _ _ _;exact int_tuple _ _ e c;exact int_list _ _ e c;exact str_none _ _;exact str_bool _ _ _;exact str_int _ _ _ _;exact str_str _ _ _ _;exact str_tuple _ _ e c;exact str_list _ _ e c;exact tuple_none d c;exact tuple_bool _ d c;exact tuple_int _ _ d c;exact tuple_str _ _ d c;exact CP c (w f g) m o;exact tuple_list d e c;exact list_none d c;exact list_bool _ d c;exact list_int _ _ d c;exact list_str _ _ d c;exact list_tuple d e c;exact CO c (w f g) m o
end
end Ci
namespace L2
open PySem.Spec PyProof.Rows
open PySem.AutoSeq1 (wpAny_loadPart')
end L2
namespace Ci
open L2
section
variable{W:Wd}
def Fn(hK:W.K=X.K){d:St}{s:hD}{xs:List V}(I:Inv X ae d H s)(h:uS W.K H a xs):∃(b:List hB) (n:Nat),Vals xs b/\xs.length=b.length/\xs.length<=ic/\s.heap.get? a=gF {cls:=.type "list",data:=.seq b.toArray n}:=by
 rw [hK] at h;rcases h with h|⟨b,n,f,g,c⟩
 .let(z,b,n,r,e):=h.ok I.aN;exact⟨b,n,r,r.length,z,e⟩
 .refine{b.toList,n,c,c.length,?_,by simpa using I.rN a _ f};rw [c.length,el];exact g
def Ka(hK:W.K=X.K):jo X (binaryOp .Mult) (λx y H Q=>∃l k xs,x=.ref l/\y=.int k/\uS W.K H l xs/\0<=k/\k<1000/\xs.length<1000/\∀p,H p=gK->Q (.ref p) (upd H p (.lst (j2 k.toNat xs).flatten))):=by
 intro D s E H x y v u Q I i j h;let(l,k,xs,rfl,rfl,o,G,L,M,q):=h;cases i;let(t,rfl):=j;let(b,n,r,hl,_,e):=Fn hK I o
 have g:xs.length*k.toNat<=sizeLine:=by
  have:xs.length*k.toNat<=1000*1000:=Nat.mul_le_mul (by lia) (by lia);have N:(1000000:Nat)<=sizeLine:=by decide
  lia
 have c:b.toArray.size*k.toNat<=sizeLine:=by rw [aT,<-hl];exact g
 have w:¬b.toArray.size*k.toNat>(2^63-1)/8:=by
  have:(ic:Nat)<=(2^63-1)/8:=by decide
  lia
 have z:¬(!Builtin.List.listFitsIndex k)=gS:=by rw [fitsIndex_both (by lia) (by lia)];exact zzf
 have A:¬i1.List.listTooLong (b.toArray.size*k.toNat)=gS:=by rw [v9 c];exact zzf
 have B:List.foldl (λd f=>d++f) #[] (j2 (if b.toArray.isEmpty=gS then 0 else k.toNat) b.toArray)=(j2 k.toNat b).flatten.toArray:=by
  have f0:∀m:Nat,List.foldl (λd f=>d++f) #[] (j2 m b.toArray)=(j2 m b).flatten.toArray:=λm=>by have:=foldl_rep b m [];rw [List.nil_append] at this;exact this
  rw [f0];cases b with
  |nil=>simp|cons a O=>rw [if_neg (by simp)]
 refine wpAny_binaryOp_repeat_ref (T:="list") (U:="int") (by decide) {_,e,rfl} (λC=>typeIs_int C k t) noFill_list_mul PySem.F.fills_int_mul PySem.F.slot_int_rmul repeat_list PySem.F.slot_int_index.lookup
  (call_meets PySem.F.slot_int_rmul (typeIs_int s k t) PySem.F.entry_int_rmul (PySem.F.args_int_rmul_2 _ _) (int___rmul___int_list k t l b.toArray n)
   {e,rfl,{_,e,rfl},call_meets PySem.F.slot_list_mul {_,e,rfl} PySem.F.entry_list_mul (PySem.F.args_list_mul_2 _ _) (AutoListH.list___mul___list_int_3 l b.toArray n k t z w A) {e,?_}})
 rw [B];exact{.ref _,_,I.WC (t':=s.toks) (r.rep k.toNat) (by rw [len_rep,Nat.mul_comm];exact g),rfl,q _ I.fresh}
theorem aq.rep{ps:List PV}(h:aq W G ps vs):∀k:Nat,aq W G (j2 k ps).flatten (j2 k vs).flatten
 |0=>.nil|k+1=>by rw [List.replicate_succ,List.replicate_succ,List.flatten_cons,List.flatten_cons];exact h.append (h.rep k)
abbrev UY:Mr->Operator
 |.add=>.Add|.sub=>.Sub|.mul=>.Mult|.mod=>.Mod|.fdiv=>.FloorDiv
abbrev xm(W:Wd)(f:PV->PV->Res PV):R2:=λx y H Q=>∃a G p q r,aB G H/\Top W a G H p x/\Top W a G H q y/\f p q=.ok r/\dP W G H r Q
set_option tactic.hygienic true in
def OY(hK:W.K=X.K)(o:Mr):jo X (binaryOp (UY o)) (xm W (binOp o)):=by
 intro g s k H x y v u Q I m t h;let(L,G,p,q,r,d,w,z,e,A):=h
 have B:∀{f:Int->Int->Res PV},ii f p q=.ok r->∃i j,p=.int i/\q=.int j/\f i j=.ok r:=λ{f} e=>by
  unfold ii at e;split at e
  .exact{_,_,rfl,rfl,e}
  .cases e
 cases o with
 |add=>
  replace e:DF p q=.ok r:=e;unfold DF at e;split at e
  .split at e
   .rename_i hl;cases e;exact yn g s k H x y v u Q I m t {_,_,w.str,z.str,tZ hl,A.at d .s}
   .cases e
  .let(i,j,rfl,rfl,b):=B e;cases b;exact OX g s k H x y v u Q I m t {_,_,w.int,z.int,A.at d .i}
 |sub=>let(i,j,rfl,rfl,b):=B e;cases b;exact O9 g s k H x y v u Q I m t {_,_,w.int,z.int,A.at d .i}
 |mul=>
  replace e:Ft p q=.ok r:=e;unfold Ft at e;split at e
  .split at e
   .rename_i c;cases e;let(a,D,rfl,E,C):=w.lst d;exact Ka hK g s k H _ _ v u Q I m t {a,_,D,rfl,z.int,E,c.1,c.2.1,by rw [C.length];exact c.2.2,λp F=>A.lst d (C.rep _) F}
   .cases e
  .let(i,j,rfl,rfl,b):=B e;split at b
   .rename_i c;cases b;refine O7 g s k H x y v u Q I m t {_,_,w.int,z.int,?_,A.at d .i};rw [eU] at c;unfold aQ at c;simp! [zza,zzN] at c;exact c
   .cases b
 |mod=>
  let(i,j,rfl,rfl,b):=B e;split at b
  .rename_i c;cases b;exact O6 g s k H x y v u Q I m t {_,_,w.int,z.int,c,A.at d .i}
  .cases b
 |fdiv=>
  let(i,j,rfl,rfl,b):=B e;split at b
  .rename_i c;cases b;exact J6 g s k H x y v u Q I m t {_,_,w.int,z.int,c,A.at d .i}
  .cases b
def Lh:Ul X (unaryOp .USub) (λx H Q=>∃(H0 G:Hp) (i:Int),aB G H/\Top W H0 G H (.int i) x/\dP W G H (.int (-i)) Q):=by intro a s b H x v Q I c h;let(H0,G,i,d,t,e):=h;exact Qd a s b H x v Q I c {i,t.int,e.at d .i}
abbrev uP:Dx->CmpOp
 |.eq=>.Eq|.ne=>.NotEq|.lt=>.Lt|.le=>.LtE|.gt=>.Gt|.is=>.Is|.EW=>.IsNot|.xW=>.In|.jV=>.NotIn
def rE{a:St}{s:hD}{k:Bool}(I:Inv X ae a H s)(c:aB G H)(d:dP W G H (.bl k) Q):EP X ae a Q (.bool k) s:={.bl k,H,I,rfl,d.at c .b}
def OZ(hK:W.K=X.K)(j:X.A.units+64<cLine):jo X (compareOp .Eq) (xm W fJ):=by
 intro k s m H x y v u Q I c d h;let(o,G,p,q,r,b,f,g,e,i):=h;unfold fJ at e;split at e
 .rename_i a;rw [zza] at a;cases e;exact Tc I hK b 8 (by lia) a.1 a.2 f g c d _ _ _ _ (rE I b i)
 .cases e
def O8(hK:W.K=X.K)(j:X.A.units+64<cLine):jo X (compareOp .NotEq) (xm W gE):=by
 intro k s m H x y v u Q I c d h;let(o,G,p,q,r,b,f,g,e,i):=h;unfold gE at e;split at e
 .rename_i a;rw [zza] at a;cases e;exact Kw I hK b 8 (by lia) a.1 a.2 f g c d _ _ _ _ (rE I b i)
 .cases e
theorem pj:∀{xs:List PV} {vs:List V} {ns:List Int},aq W G xs vs->intsOf xs=gF ns->vs=ns.map V.int
 |[],vs,ns,h,e=>by simp! [aq] at h;subst h;cases e;rfl
 |.int i::r,vs,ns,h,e=>by let(v,t,rfl,h1,a):=h.bU;simp! [Rep] at h1;subst h1;unfold intsOf at e;let(m,hm,rfl):=b0.mp e;rw [pj a hm];rfl|.aC::_,_,_,_,e=>by cases e
 |.bl _::_,_,_,_,e=>by cases e
 |.str _::_,_,_,_,e=>by cases e
 |.tup _::_,_,_,_,e=>by cases e
 |.lst _::_,_,_,_,e=>by cases e
 |.exc _::_,_,_,_,e=>by cases e
 |.aY _ _::_,_,_,_,e=>by cases e
def Res.of_ok{c:Type}{o:Option c}{a:c}(h:Res.of o=.ok a):o=gF a:=by
 cases o with
 |none=>cases h
 |some b=>cases h;rfl
def O5(hK:W.K=X.K)(m:X.A.units+64<cLine):jo X (compareOp .Lt) (xm W wA):=by
 intro a s c H x y v u Q I d f h;let(o,G,p,q,r,g,i,j,e,k):=h;unfold wA at e;split at e
 .cases e;exact SY a s c H x y v u Q I d f {_,_,i.int,j.int,k.at g .b}
 .cases e
def O4:jo X (compareOp .LtE) (xm W wy):=by
 intro a s c H x y v u Q I d f h;let(m,G,p,q,r,g,i,j,e,k):=h;unfold wy at e;split at e
 .cases e;exact SX a s c H x y v u Q I d f {_,_,i.int,j.int,k.at g .b}
 .cases e
def O0:jo X (compareOp .Gt) (xm W ym):=by
 intro j s k H x y v u Q I a c h;let(m,G,p,q,r,d,f,g,e,i):=h;unfold ym at e;split at e
 .cases e;exact SW j s k H x y v u Q I a c {_,_,f.int,g.int,i.at d .b}
 .cases e;let(t,rfl):=(f.str▸a:RelV (.str _) v);let(o,rfl):=(g.str▸c:RelV (.str _) u);exact PySem.P.gt_str (xN I (i.at d .b) rfl)
 .cases e
def rM{x:V}(d:aB G H)(t:Top W H0 G H p x):decide (x=.aC)=EU p:=by
 cases p with
 |aC=>cases t.aC;rfl
 |bl b=>cases t.bl;rfl
 |int b=>cases t.int;rfl
 |str b=>cases t.str;rfl
 |tup b=>let(a,e,rfl,_):=t.tup d;rfl|lst b=>let(a,e,rfl,_):=t.lst d;rfl|aY b c=>let(a,e,rfl,_):=t.aY d;rfl|exc c=>
  rcases t with t|t
  .simp! [Rep] at t;let(a,C,rfl,_):=t;rfl
  .exact t.elim
def O3:jo X (compareOp .Is) (xm W mG):=by
 intro c s d H x y v u Q I f g h;let(m,G,p,q,r,a,i,j,e,k):=h;unfold mG at e;split at e
 .cases e;refine O2 c s d H x y v u Q I f g {j.aC,?_};rw [rM a i];exact k.at a .b
 .cases e
def J7:jo X (compareOp .IsNot) (xm W iZ):=by
 intro c s d H x y v u Q I f g h;let(m,G,p,q,r,a,i,j,e,k):=h;unfold iZ at e;split at e
 .cases e;refine J9 c s d H x y v u Q I f g {j.aC,?_};rw [rM a i];exact k.at a .b
 .cases e
def nL{N:St}{s:hD}(I:Inv X ae N H s)(hK:W.K=X.K)(q:aB G H){a:PV}{x:V}{t:hB}{us:List V}{c:List hB}(hu:A.units+32<cLine)(O:xk a=gS)(P:ys.all xk=gS)(Q:Top W H0 G H a x)(R:RelV x t)(l:aq W G ys us)(r:Vals us c):
 ∃e:hB->Bool,(∀y∈c,SeqAt.EqAt A s y t (e y))/\∀(j:Nat) (y:hB) (p:PV),c[j]?=gF y->ys[j]?=gF p->e y=eqv p a:=by
 classical
 have key:∀(j:Nat) (y:hB),c[j]?=gF y->∃p u,ys[j]?=gF p/\us[j]?=gF u/\Rep W G p u/\RelV u y/\xk p=gS:=λj y e=>by have w:=(a9.mp e).1;have hl:=r.length;let(u,z,S):=r.get (i:=j) (x:=us[j]'(by omega)) (zzg (by omega));rw [e] at z;cases z;let(p,B,kp):=l.get (zzg (show j<us.length by omega));exact{p,_,B,zzg (by omega),kp,S,c5.mp P p (a0 B)}
 refine{λy=>if h:∃(j:Nat) (p:PV),c[j]?=gF y/\ys[j]?=gF p then eqv h.choose_spec.choose a else gU,λy T=>?_,λj y p C D=>?_}
 .let(j,w,e):=List.getElem_of_mem T;have E:c[j]?=gF y:=by rw [zzg w,e]
  let(p,u,U,h2,h3,h4,h5):=key j y E;have b:∃(j:Nat) (p:PV),c[j]?=gF y/\ys[j]?=gF p:=⟨j,p,E,U⟩;dsimp only;rw [dif_pos b];have sp:=b.choose_spec.choose_spec;let(d,F,f,Y,g,k,m):=key _ y sp.1;have o:b.choose_spec.choose=d:=zzq (sp.2.symm.trans f);rw [o];exact D9 (H0:=H0) I hK q 9 (by omega) m O (.inl g) Q k R
 .have b:∃(j:Nat) (p:PV),c[j]?=gF y/\ys[j]?=gF p:=⟨j,p,C,D⟩;dsimp only;rw [dif_pos b];let(p1,L,M,f2,Z,f4,f5):=key j y C;rw [D] at M;cases M;have sp:=b.choose_spec.choose_spec;let(d,F,f,Y,g,k,m):=key _ y sp.1;have o:b.choose_spec.choose=d:=zzq (sp.2.symm.trans f);have e4:L=F:=f4.inj k;subst e4;rw [o,AL I hK q DP m f5 (.inl g:Top W H0 G H d L) (.inl Z)]
def DI{c:List hB}{e:hB->Bool}{f:PV->Bool}:c.length=ys.length->(∀(j:Nat) (y:hB) (p:PV),c[j]?=gF y->ys[j]?=gF p->e y=f p)->c.any e=ys.any f:=by
 intro hl h;have:c.map e=ys.map f:=jl (zx6 hl) λj x y d g=>by rw [cS] at d g;let(a,i,rfl):=b0.mp d;let(b,k,rfl):=b0.mp g;exact h j a b i k
 calc c.any e=(c.map e).any id:=by rw [List.any_map];rfl
  _=(ys.map f).any id:=by rw [this]
  _=ys.any f:=by rw [List.any_map];rfl
def D0{c:List hB}{e:hB->Bool}{f:PV->Bool}:c.length=ys.length->(∀(j:Nat) (y:hB) (p:PV),c[j]?=gF y->ys[j]?=gF p->e y=f p)->c.countP e=ys.countP f:=by
 intro hl h;have:c.map e=ys.map f:=jl (zx6 hl) λj x y d g=>by rw [cS] at d g;let(a,i,rfl):=b0.mp d;let(b,k,rfl):=b0.mp g;exact h j a b i k
 calc c.countP e=(c.map e).countP id:=by rw [List.countP_map];rfl
  _=(ys.map f).countP id:=by rw [this]
  _=ys.countP f:=by rw [List.countP_map];rfl
def O1(hK:W.K=X.K)(N:X.A.units+64<cLine):jo X (compareOp .In) (xm W ue):=by
 intro O s P H x y v u Q I f g h;let(H0,G,p,q,r,c,i,j,e,m):=h;have B:X.A.in1.units+32<cLine:=by show X.A.units+1+32<_;lia
 unfold ue at e;split at e
 .split at e
  .rename_i d;rw [zza] at d;cases e;let(b,o,rfl,C,t):=j.lst c;cases g;let(R,w,z,_):=I.list (qG hK C);let(e,D,E):=nL I hK c B d.1 d.2 i f t w;refine SeqAt.in_listAt e z.isList (λy F=>D y (zx6 F)) ?_;have:=DI (by rw [<-w.length,t.length]) E;rw [List.any_toArray,this];exact rE I c m
  .cases e
 .let(k,hk,e):=Res.bu e;cases e;have hk:=eW (Res.of_ok hk);subst hk;let(b,rfl,L):=i.tupI (ns:=k) c rfl;let(a,o,rfl,n,hd,l):=j.aY c;cases g;refine VH (show X.A.units+1<cLine by lia) I (.inr {_,ki k,b,hd,rfl,(by rw [tY];exact c _ _ L),rfl}) f λS M=>?_;rw [km,ji k _ o n];exact rE M c m
 .cases e
def J8(hK:W.K=X.K)(N:X.A.units+64<cLine):jo X (compareOp .NotIn) (xm W eR):=by
 intro O s P H x y v u Q I f g h;let(H0,G,p,q,r,c,i,j,e,m):=h;have B:X.A.in1.units+32<cLine:=by show X.A.units+1+32<_;lia
 unfold eR at e;split at e
 .split at e
  .rename_i d;rw [zza] at d;cases e;let(b,o,rfl,C,t):=j.lst c;cases g;let(R,w,z,_):=I.list (qG hK C);let(e,D,E):=nL I hK c B d.1 d.2 i f t w;refine SeqAt.notIn_listAt e z.isList (λy F=>D y (zx6 F)) ?_;have:=DI (by rw [<-w.length,t.length]) E;rw [List.any_toArray,this];exact rE I c m
  .cases e
 .let(k,hk,e):=Res.bu e;cases e;have hk:=eW (Res.of_ok hk);subst hk;let(b,rfl,L):=i.tupI (ns:=k) c rfl;let(a,o,rfl,n,hd,l):=j.aY c;cases g;refine IF (show X.A.units+1<cLine by lia) I (.inr {_,ki k,b,hd,rfl,(by rw [tY];exact c _ _ L),rfl}) f λS M=>?_;rw [km,ji k _ o n];exact rE M c m
 .cases e
theorem jm(hK:W.K=X.K)(a:X.A.units+64<cLine):∀o:Dx,jo X (compareOp (uP o)) (xm W (er o))
 |.eq=>OZ hK a|.ne=>O8 hK a|.lt=>O5 hK a|.le=>O4|.gt=>O0|.is=>O3|.EW=>J7|.xW=>O1 hK a|.jV=>J8 hK a
def y9{ps:List PV}{i:Int}(l:aq W G ps vs)(h:qZ ps i=gF p):∃v,qZ vs i=gF v/\Rep W G p v:=by
 unfold qZ at h⊢;rw [l.length];cases e:B9 ps.length i with
 |none=>rw [e] at h;cases h
 |some j=>rw [e] at h;exact l.qr h
def Ot(j:X.A.units+1<cLine):Qg X (λx y H Q=>∃a d k b v,x=.ref a/\Rd H a (.dT d)/\y=.ref b/\H b=gF (.tup (k.map kV))/\i8 d k=gF v/\Q v H):=by intro e slice m s t H x y v u Q I w B h hs;let(a,d,k,b,z,rfl,hd,rfl,C,D,q):=h;cases w;cases B;let(_,_,xs,f,g):=lj I.aN hd;let(i,E,K):=kL.some_of (v:=z) (o:=(atKey xs k).map (·.2)) (by rw [<-D];exact f.val k);let(p,L,c):=b0.mp E;exact PyProof.Rows.subscriptTail_builtinR (x:=i) g.typeIs PySem.F.slot_dict_getitem.lookup (wpAny_getItem_heap (Q:=λr M=>r=i/\EP X m t Q r M) (tupleKind_room_in1 j) (ib I.aN C) g L {c,by rw [c];exact{z,H,I.tok _,K,q}}) hs
def Ww(hK:W.K=X.K)(O:X.A.units+64<cLine):Qg X (xm W aG):=by
 intro d slice j s m H x y v u Q I o t h hs;let(H0,G,p,q,r,f,z,B,e,C):=h;unfold aG at e;split at e
 .let(a,E,rfl,D,F):=z.lst f;let(w,g,i):=y9 F (Res.of_ok e);exact JB d slice j s m H _ y v u Q I o t {a,E,_,w,rfl,B.int,qG hK D,g,C.at f i} hs
 .let(a,E,rfl,D,F):=z.tup f;rw [hK] at D;let(w,g,i):=y9 F (Res.of_ok e);exact E0 d slice j s m H _ y v u Q I o t {a,E,_,w,rfl,B.int,D,g,C.at f i} hs
 .split at e
  .rename_i hl;let(c,L,e):=Res.bu e;cases e;exact Ou d slice j s m H x y v u Q I o t {_,_,c,z.str,B.int,tZ hl,Res.of_ok L,C.at f .s} hs
  .cases e
 .let(k,hk,M):=Res.bu e;have hk:=eW (Res.of_ok hk);subst hk;let(b,rfl,N):=B.tupI (ns:=k) f rfl;let(a,P,rfl,n,hd,l):=z.aY f;let(w,g,i):=n6 l (Res.of_ok M);exact Ot (by lia) d slice j s m H _ _ v u Q I o t {a,_,ki k,b,w,rfl,hd,rfl,(by rw [tY];exact f _ _ N),(by rw [km];exact g),C.at f i} hs
 .cases e
def zt{ps:List PV}(a b:Option Int)(l:aq W G ps vs):aq W G (j8 ps a b) (vo vs a b):=by unfold j8 vo;rw [l.length];exact(l.drop _).take _
def W9(hK:W.K=X.K):L2.Hv X (λx f g H Q=>∃H0 G p r,aB G H/\Top W H0 G H p x/\eg p f g=.ok r/\dP W G H r Q):=by
 intro m s o H x v q t f g u Q I w hs pl y h;let(H0,G,p,r,c,A,e,i):=h;unfold eg at e;split at e
 .cases e;let(a,b,rfl,d,j):=A.lst c;exact KN m s o H _ v q t _ _ u Q I w hs pl y {a,b,rfl,qG hK d,λp B=>i.lst c (zt _ _ j) B}
 .cases e;have D:=A.elim id λz=>z.elim;let(a,b,rfl,d,j):=A.tup c;rw [hK] at d;by_cases hw:HT.dm b.length 0 f=0/\HT.dm b.length b.length g=b.length
  .have E:∀k:List PV,k.length=b.length->j8 k f g=k:=λk C=>by
    unfold j8;rw [C,hw.1,hw.2,<-C];simp
   rw [E _ j.length.symm] at i;exact KO m s o H _ v q t _ _ u Q I w hs pl y {a,b,rfl,d,hw,i.at c D}
  .exact PM m s o H _ v q t _ _ u Q I w hs pl y {a,b,rfl,d,hw,λp B=>i.tup c (zt _ _ j) B}
 .cases e
def Di(W:Wd)(f:List PV->Res PV):List V->Hp->VK->Prop:=λa H Q=>∃H0 G ps r,aB G H/\Paired (λv p=>Top W H0 G H p v) a ps/\f ps=.ok r/\dP W G H r Q
def iA(h:Paired (λv p=>Top W H0 G H p v) vs [p]):∃v,vs=[v]/\Top W H0 G H p v:=by
 cases h with
 |cons h t=>cases t;exact{_,rfl,h}
def Hj(h:Paired (λv p=>Top W H0 G H p v) vs [p,q]):∃v u,vs=[v,u]/\Top W H0 G H p v/\Top W H0 G H q u:=by
 cases h with
 |cons h t=>
  cases t with
  |cons a b=>cases b;exact{_,_,rfl,h,a}
def Bl(hK:W.K=X.K):cG X (.builtin "len") (Di W xE):=by
 intro f s g H xs j Q I r h;let(H0,G,ps,w,b,tp,e,c):=h;unfold xE at e;split at e
 .cases e;let(v,rfl,t):=iA tp;let(a,k,rfl,d,m):=t.lst b;exact kS f s g H _ j Q I r {a,k,rfl,.inl (qG hK d),by rw [m.length];exact c.at b .i}
 .cases e;let(v,rfl,t):=iA tp;let(a,k,rfl,d,m):=t.tup b;rw [hK] at d;exact kS f s g H _ j Q I r {a,k,rfl,.inr d,by rw [m.length];exact c.at b .i}
 .split at e
  .rename_i hl;cases e;let(v,rfl,t):=iA tp;exact sP f s g H _ j Q I r {_,by rw [t.str],tZ hl,c.at b .i}
  .cases e
 .cases e;let(v,rfl,t):=iA tp;let(a,o,rfl,n,hd,l):=t.aY b;let(u,rfl,p):=vals1 r;cases p;exact Nj I hd λt y q=>{.int _,H,q,⟨t,rfl⟩,by rw [fY n];exact c.at b .i}
 .cases e
def Bh:cG X (.builtin "abs") (Di W DM):=by
 intro a s b H xs c Q I r h;let(H0,G,ps,g,d,tp,e,f):=h;unfold DM at e;split at e
 .cases e;let(v,rfl,t):=iA tp;exact DU a s b H _ c Q I r {_,by rw [t.int],f.at d .i}
 .cases e
def Bo(a:X.calm=gS):cG X (.builtin "max") (Di W DO):=by
 intro b s c H xs d Q I r h;let(H0,G,ps,k,f,tp,e,g):=h;unfold DO at e;split at e
 .cases e;let(v,u,rfl,t,j):=Hj tp;exact Bm a b s c H _ d Q I r {_,_,by rw [t.int,j.int],g.at f .i}
 .cases e
def Bi:cG X (.type "int") (Di W DN):=by
 intro a s b H xs c Q I r h;let(H0,G,ps,j,d,tp,e,f):=h;unfold DN at e;split at e
 .split at e
  .rename_i hl;let(n,g,e):=Res.bu e;cases e;let(v,rfl,t):=iA tp;exact sO a s b H _ c Q I r {_,n,by rw [t.str],Res.of_ok g,hl,f.at d .i}
  .cases e
 .cases e
def Bt:cG X (.type "str") (Di W DQ):=by
 intro a s b H xs c Q I r h;let(H0,G,ps,g,d,tp,e,f):=h;unfold DQ at e;split at e
 .split at e
  .rename_i hl;cases e;let(v,rfl,t):=iA tp;exact sW a s b H _ c Q I r {_,by rw [t.int],hl,f.at d .s}
  .cases e
 .cases e
def vg(hK:W.K=X.K):cG X (.type "tuple") (Di W ou):=by
 intro c s d H xs f Q I r h;let(H0,G,ps,o,b,tp,e,g):=h;unfold ou at e;split at e
 .cases e;let(v,rfl,t):=iA tp;let(a,i,rfl,j,k):=t.lst b;exact qp c s d H _ f Q I r {a,i,rfl,.inl {qG hK j,λp m=>g.tup b k m}}
 .cases e
def Vk(W:Wd)(f:List PV->Res PV):V->List V->Hp->VK->Prop:=λx a H Q=>Di W f (x::a) H Q
def yh(hK:W.K=X.K)(D:X.A.units+64<cLine):Ud X "list.count" (Vk W lN):=by
 intro E s L H x xs v M Q I g r h;let(H0,G,ps,N,b,tp,e,j):=h;unfold lN at e;split at e
 .split at e
  .rename_i c;rw [zza] at c;cases e;let(O,P,k,t,m):=Hj tp;cases k;let(a,R,rfl,o,d):=t.lst b;cases g;let(u,rfl,p):=Vals.one r;let(q,n,w,hl,_,e):=Fn hK I o;let(f,z,B):=nL (A:=X.A.in1) I hK b (by show X.A.units+1+32<_;lia) c.1 c.2 m p d w;refine PySem.call_meets PySem.F.slot_list_count {_,e,rfl} PySem.F.entry_list_count (PySem.F.args_list_count_2 _ _) (SeqAt.list_countAt a q.toArray n gK #[] u f) {e,λy C=>z y (zx6 C),?_};refine{.int _,H,I.tok _,{_,rfl},?_};rw [D0 (by rw [<-hl,d.length]) B];exact j.at b .i
  .cases e
 .cases e
set_option tactic.hygienic true in
def Cr(hK:W.K=X.K)(V:X.A.units+64<cLine):Ud X "list.index" (Vk W pE):=by
 intro Y s Z H x xs v us Q I B r h;let(H0,G,ps,rr,g,tp,e,C):=h;unfold pE at e;split at e
 .rename_i b w;split at e
  .rename_i d;rw [zza,zza] at d;split at e
   .rename_i j k;cases e;let(v1,u1,D,t,E):=Hj tp;cases D;let(a,vs,rfl,L,o):=t.lst g;cases B;let(u,rfl,M):=Vals.one r;let(c,n,N,hl,_,e):=Fn hK I L;have p:c.length=b.length:=by rw [<-hl,o.length]
    have YE:b.length<1000:=zzY d.2;let(f,O,q):=nL (A:=X.A.in1) I hK g (by show X.A.units+1+32<_;lia) d.1.1 d.1.2 E M o N;rw [List.findIdx?_eq_some_iff_getElem] at k;let(P,R,S):=k;refine PySem.call_meets PySem.F.slot_list_index {_,e,rfl} PySem.F.entry_list_index (PySem.F.args_list_index_2 _ _) (SeqAt.list_indexAt a c.toArray n gK #[] u f j (by simpa using (by lia:j<c.length)) (by lia) ?_ λm Oa T=>?_) {e,λy U=>O y (zx6 U),{.int _,H,I.tok _,{_,rfl},C.at g .i}}
    .have:=q j (c[j]'(by lia)) b[j] (zzg (by lia)) (zzg P);simpa using this.trans R
    .have hm:m<b.length:=by lia
     have:=q m (c[m]'(by lia)) b[m] (zzg (by lia)) (zzg hm);have z:=S m T;simp! [Bool.not_eq_true] at z;simpa using this.trans z
   .cases e
  .cases e
 .cases e
abbrev yQ:Ty->String
 |.int=>"int"|.bool=>"bool"|.tuple=>"tuple"|.list=>"list"
def Sw{K:zz8}(t:Ty):Cw.HE K "NoneType" (yQ t) gU/\(∀b,Cw.HE K "bool" (yQ t) (kl t (.bl b)))/\(∀i,Cw.HE K "int" (yQ t) (kl t (.int i)))/\(∀z,Cw.HE K "str" (yQ t) (kl t (.str z)))/\(∀z,Cw.HE K "tuple" (yQ t) (kl t (.tup z)))/\(∀z,Cw.HE K "list" (yQ t) (kl t (.lst z))):=by
 cases t
 all_goals refine{?_,λb=>?_,λb=>?_,λb=>?_,λb=>?_,λb=>?_}
 all_goals first
  |exact Cw.E7 _
  |exact Cw.E6 (b:=gU) (by decide+kernel) (by decide+kernel) (by decide+kernel)
  |exact Cw.E6 (b:=gS) (by decide+kernel) (by decide+kernel) (by decide+kernel)
def DV(hK:W.K=X.K)(t:Ty):cG X (.builtin (zu 31)) (λxs H Q=>∃v H0 G p r,xs=[v,.ty (yQ t)]/\aB G H/\Top W H0 G H p v/\nu t p=.ok r/\dP W G H r Q):=by
 intro O s P H xs R Q I q h;let(v,H0,G,p,r,rfl,f,tp,e,g):=h;let(u,S,rfl,i,k):=Vals.two q;cases k;let(w,y,A,B,C,D):=Sw (K:=X.K) t
 cases p with
 |exc c=>cases e
 |aY a b=>cases e
 |aC=>cases e;cases tp.aC;cases i;cases t<;>exact PySem.W.kia_one PySem.W.kitx_none I.rN True.intro w nofun λd=>⟨.bl _,H,I.tok d,rfl,g.at f .b⟩
 |bl b=>cases e;cases tp.bl;cases i;exact PySem.W.kia_one PySem.W.kitx_bool I.rN True.intro (y b) nofun λd=>⟨.bl _,H,I.tok d,rfl,g.at f .b⟩
 |int b=>cases e;cases tp.int;let(E,rfl):=i;exact PySem.W.kia_one PySem.W.kitx_int I.rN True.intro (A b) nofun λd=>⟨.bl _,H,I.tok d,rfl,g.at f .b⟩
 |str b=>cases e;cases tp.str;let(E,rfl):=i;exact PySem.W.kia_one PySem.W.kitx_str I.rN True.intro (B b) nofun λd=>⟨.bl _,H,I.tok d,rfl,g.at f .b⟩
 |tup b=>cases e;let(a,F,rfl,j,L):=tp.tup f;rw [hK] at j;cases i;let(M,_,(o,m,N,_),_):=I.tuple j;exact PySem.W.kia_one PySem.W.kitx_tuple I.rN ⟨o,m,N⟩ (C b) nofun λd=>{.bl _,H,I.tok d,rfl,g.at f .b}
 |lst b=>cases e;let(a,F,rfl,j,L):=tp.lst f;cases i;let(M,n,_,_,_,m):=Fn hK I j;exact PySem.W.kia_one PySem.W.kitx_list I.rN {_,m,rfl} (D b) nofun λd=>{.bl _,H,I.tok d,rfl,g.at f .b}
theorem uq(h:Rep W G (af k) v):∃b,v=.ref b/\G b=gF (.tup (k.map V.int)):=Top.tupI (H0:=G) (aB.refl G) rfl (.inl h)
theorem nN{K:zz8}(a:aB G H):∀{xs:List PV} {nss:ku} {vs:List V},fO xs=gF nss->aq W G xs vs->nss.all (λk=>!k.isEmpty)=gS->mf K H vs nss
 |[],_,_,e,l,_=>by cases e;simp! [aq] at l;subst l;exact .nil
 |x::xs,nss,vs,e,l,ne=>by unfold fO at e;let(k,hk,e):=dV.mp e;let(r,d,rfl):=b0.mp e;let(v,h,rfl,c,f):=l.bU;rw [List.all_cons,zza] at ne;rw [eW hk] at c;let(b,rfl,g):=uq c;exact .cons {b,rfl,.inl (.inl (a _ _ g)),λz=>by rw [z] at ne;exact absurd ne.1 (by decide)} (nN a d f ne.2)
def ux{ps:List PV}(l:aq W G ps vs):aq W G (mO .aC ps nss) (mO V.aC vs nss):=by
 unfold mO;rw [l.length];split
 .exact l
 .have go:∀a:List Nat,aq W G (a.map λi=>ps.getD i .aC) (a.map λi=>vs.getD i V.aC):=by
   intro a
   induction a with
   |nil=>exact .nil|cons i a e=>
    refine .cons ?_ e;dsimp only;by_cases b:i<ps.length
    .let(v,f,g):=l.qr (zzg b);have c:ps.getD i .aC=ps[i]:=by simp [b]
     have d:vs.getD i V.aC=v:=by simp [f]
     rw [c,d];exact g
    .have c:ps.getD i .aC=.aC:=by simp [Nat.le_of_not_lt b]
     have d:vs.getD i V.aC=.aC:=by simp [Nat.le_of_not_lt (l.length▸b)]
     rw [c,d];exact .n
  exact go _
def jc(d:aB G H)(r:Paired (λv ns=>∃b,v=V.ref b/\H b=gF (.tup (ns.map V.int))) vs nss):∃a,aE W G H a H/\aq W a (nss.map af) vs:=by
 have all:∀(a:Hp) (l:List Int),aq W a (l.map .int) (l.map V.int):=λa l=>by
  induction l with
  |nil=>exact .nil|cons x l c=>exact .cons .i c
 induction r generalizing G with
 |nil=>exact{G,.refl d,.nil}|cons h t c=>let(b,rfl,j):=h;have e:=aE.adopt (W:=W) d j;let(k,f,l):=c e.sub;exact{k,e.trans f,.cons (Rep.same f.g _ (.t (.inl av) (all _ _))) l}
set_option tactic.hygienic true in
def sU(hK:W.K=X.K)(u:X.calm=gS):cG X (.builtin "sorted") (Di W kP):=by
 intro j s k H xs m Q I r h;let(H0,G,ps,D,c,tp,e,o):=h;unfold kP at e;split at e
 .let(g,w,e):=Res.bu e;split at e
  .rename_i b;rw [zza,zzN] at b;cases e;let(v,rfl,t):=iA tp;let(a,q,rfl,y,d):=t.lst c;exact sR j s k H _ m Q I r {a,q,g,rfl,qG hK y,nN c (Res.of_ok w) d b.2,by rw [d.length];exact b.1,λp f=>o _ _ _ (.new c f) (.l (.inl (.inl av)) (aq.same (bD (c.free f)) _ (ux d)))}
  .cases e
 .split at e
  .rename_i A E b;rw [zza,zzN] at b;cases e;let(v,rfl,t):=iA tp;let(a,B,rfl,n,hd,l):=t.aY c;refine sQ u j s k H _ m Q I r {a,_,A,rfl,hd,nO n,λC hm z=>?_,by rw [fY n];exact b.1,λp q f pv=>?_}
   .have:=c5.mp b.2 C hm;rw [z] at this;exact absurd this (by decide)
   .let(F,i,d):=jc (W:=W) c pv;exact o _ _ _ (i.trans (.new i.sub f)) (.l (.inl (.inl av)) (aq.same (bD (i.sub.free f)) _ (ux d)))
  .cases e
 .cases e
set_option tactic.hygienic true in
def vf(hK:W.K=X.K)(f:X.calm=gS):cG X (.type "list") (Di W oq):=by
 intro g s i H xs j Q I r h;let(H0,G,ps,w,c,tp,e,k):=h;unfold oq at e;split at e
 .split at e
  .rename_i m y o;cases e;let(v,rfl,t):=iA tp;let(a,q,rfl,n,hd,l):=t.aY c;refine xH f g s i H _ j Q I r {a,_,m,rfl,hd,nO n,by rw [fY n];exact c6 o (by decide),λp z d pv=>?_};let(A,b,u):=jc (W:=W) c pv;exact k _ _ _ (b.trans (.new b.sub d)) (.l (.inl (.inl av)) (aq.same (bD (b.sub.free d)) _ u))
  .cases e
 .cases e
theorem Ge{K:zz8}(hK:W.K=K)(d:aB G H):∀{xs:List PV} {ps:List (List Int×PV)} {vs:List V},wG xs=gF ps->aq W G xs vs->∃us,aq W G (ps.map (·.2)) us/\jv K H vs ((ps.map λp=>ki p.1).zip us)
 |[],_,_,e,l=>by cases e;simp! [aq] at l;subst l;exact{[],.nil,.nil}
 |x::xs,ps,vs,e,l=>by
  let(v,w,rfl,h1,g):=l.bU;unfold wG at e;split at e
  .rename_i a;cases a
  .rename_i a;cases a;let(k,hk,e):=dV.mp e;let(r,h,rfl):=b0.mp e;let(us,i,j):=Ge hK d h g;simp! [Rep] at h1;let(q,ws,rfl,m,c):=h1;let(w1,wr,rfl,f,c):=c.bU;let(o,s,rfl,t,c):=c.bU;simp! [aq] at c;subst c;rw [eW hk] at f;let(b,rfl,u):=uq f;refine{o::us,.cons t i,.cons {q,b,rfl,?_,by rw [tY];exact d _ _ u} j};rw [<-hK];exact aB.tup d m.sq
  .cases e
theorem rW:∀(ps:List (List Int×PV)) {us:List V} {ks:ku} {qs:List PV} {ws:List V},aq W G (ps.map (·.2)) us->ks.length=ws.length->aq W G qs ws->∃zs,(bh ps ks qs).1.length=zs.length/\aq W G (bh ps ks qs).2 zs/\fD (kz ks ws) ((ps.map λp=>ki p.1).zip us)=kz (bh ps ks qs).1 zs
 |[],us,ks,qs,ws,_,n,l=>⟨ws,n,l,rfl⟩|p::ps,us,ks,qs,ws,a,n,l=>by let(u,f,rfl,h1,b):=a.bU;let(zs,c,d,e):=rW ps b (pR n p.1 u) (uo (ks:=ks) (k:=p.1) l h1);refine{zs,c,d,?_};show fD (putK (kz ks ws) (ki p.1) u) _=_;rw [x6 n];exact e
def vw(hK:W.K=X.K){ps:List PV}{xs:List V}(b:aB G H)(tp:Paired (λv p=>Top W H0 G H p v) xs ps)(e:kO ps=.ok q):∃ks qs,q=.aY ks qs/\∃a vs c,xs=[V.ref a]/\gR X.K H a vs/\jv X.K H vs c/\∃zs,ks.length=zs.length/\aq W G qs zs/\fD [] c=kz ks zs:=by
 unfold kO at e;split at e
 .let(ps,d,e):=Res.bu e;cases e;let(v,rfl,t):=iA tp;let(a,vs,rfl,f,g):=t.lst b;let(ws,lw,h):=Ge hK b (Res.of_ok d) g;let(zs,i,j,k):=rW ps (ks:=[]) (qs:=[]) (ws:=[]) lw rfl .nil;exact{_,_,rfl,a,vs,_,rfl,qG hK f,h,zs,i,j,k}
 .cases e
def ve(hK:W.K=X.K)(d:X.calm=gS)(y:X.A.units+64<cLine):cG X (.type "dict") (Di W kO):=by intro f s g H xs i Q I r h;let(H0,G,ps,z,b,tp,e,j):=h;let(B,qs,rfl,a,k,C,rfl,m,q,zs,t,u,w):=vw hK b tp e;refine xG d (by lia) f s g H _ i Q I r {a,k,_,rfl,m,q,λp o c=>?_};rw [w];refine j _ _ _ (.new b c) ?_;simp! [Rep];exact{p,o,zs,rfl,t,av,aq.same (bD (b.free c)) _ u}
end
end Ci
namespace L2
open PySem.Spec PyProof.Rows
section
variable{scope:hZ}{xs ys:List Str}{is:List Nat}
theorem um{c:Nat}{a:Str}{d G:Pos}{f w B:hI}{K:TI}{g:TG}{tt:TT}(j:X.N.Nodup)(k:X.N[c]?=gF a)(p:Loc X.env.scope a)(R:X.calm=gS)(S:fT X scope xs ys is)(T:PI X w iter K)
 (U:∀fp r t C,PG (cJ X (xs++ys) scope (cj X.env ys) fp r t C) w g) (V:∀fp r t C,PT (cJ X (xs++ys) scope (cj X.env ys) fp r t C) B tt) (he:∀fp r t C,PE (cJ X (xs++ys) scope (cj X.env ys) fp r t C) f te)
 (W:swapsWith (.ListComp f [{w,iter,[B],0}] scope pos) (gF (.Name a d)) G.line X.env=pure gS:=by rfl)
 (hs:∀x,foldedSetIterable iter X.env x=pure x:=by intro _;rfl) (u:X.fn a=gS\/X.env.scope.names.lookup a=gF .local:=by first|exact .inl rfl|exact .inr rfl|assumption):
 PS X (.Assign [.Name a d] (.ListComp f [{w,iter,[B],0}] scope pos) G) (Hb (n4 K xs.length g tt te is) (iw c)):=by
 intro Y s Z H i I h;rw [exec_Assign_Name_used _ _ _ _ W];refine ak (wpAny_standAt (ak ?_));show hJ _ X.A (do let _<-comprehension (.ListComp f [⟨w,iter,[B],0⟩] scope pos) scope X.env _ (newList []) gU (eval iter X.env) (gF (assign (.Name a d) X.env))) _ _ s;refine ak (wpAny_mono (je (QQ:=λ_ L=>∃y M,Inv X Y y M L/\i.nx y M) (Q:=λv O=>iw c v Z O i.nx) R S T U (λfp r t C=>AE (V fp r t C)) he hs I h λD C s4 O m I5 hn ⟨g0,g1,_,g3,P,g5⟩ q=>?_) (λ_ L hq=>a8 (a8 hq)) λ_ _ e=>e)
 refine wpAny_assign_Name (mS I5 j k p (show RelV (.ref D) (.ref D) from rfl) (λs6 I6 ⟨a6,E,F⟩=>?_) u);have Fv:C≠a6:=by
  rcases F with z|z
  .rw [z];exact g1
  .exact λz2=>P _ _ z z2.symm
 exact{m,hn.sameBut E Fv,λh' B6=>{_,_,I6.turned (t':=s6.toks) (it:=C) (λb o hb e=>B6.extBut b o hb e) g0 g1 g3 P g5,q}}
end
open PySem.AutoSeq1 (wpAny_loadPart')
section
variable{E:kd}{s:hD}{jt tu:hF}{i:Nat}{aw:Array hB}{Q:kd}
def nj{x:hB}(c:s.heap.IsTupleIter jt tu i)(d:s.heap.IsTuple tu aw)(e:aw[i]?=gF x)
 (k:∀g,g.IsTupleIter jt tu (i+1)->h9.SameBut jt s.heap g->Q x {s with heap:=g}):hJ (hV prog w) A (i1.SmallTypes.nextOf (.ref jt)) Q E s:=by
 let(m,b,f,a):=id c;let(o,h,_,p,j):=d;unfold i1.SmallTypes.nextOf;refine ak (wpAny_callSpecial?_slot (name:=Str.ofString "__next__") c.typeIs F.slot_tuple_iterator_next (wpAny_call_entry F.slot_tuple_iterator_next c.typeIs F.entry_tuple_iterator_next ?_ (F.args_tuple_iterator_next_1 _)));show hJ _ _ (field (.ref jt) 0>>=_) _ _ s;refine ak (wpAny_field b a (x:=.ref tu) rfl ?_);show hJ _ _ (if(hB.ref tu==hB.none)=gS then _ else _) _ _ s;rw [if_neg (show¬((hB.ref tu==hB.none)=gS) from zzf)];show hJ _ _ (field (.ref jt) 1>>=_) _ _ s;refine ak (wpAny_field b a (x:=.int i 0) rfl ?_);show hJ _ _ (seqItems? (.ref tu)>>=_) _ _ s;refine ak (wpAny_seqItems h j ?_);simp! [fW,e];refine ak (wpAny_setField b a (by simp) (a8 {x,rfl,a8 (k _ ?_ (ff ..))}));exact{_,h9.get?_update_self _ b (Obj.isFreed_of_fields (Obj.data_mapFields a _)),(Obj.cls_mapFields ..).trans f,by rw [Obj.data_mapFields a];simp [rawInt]}
def pI(f:A.handled=gK)(b:s.heap.IsTupleIter jt tu i)(h:s.heap.IsTuple tu aw)(j:aw[i]?=gK)
 (k:∀g e,h9.ExtBut jt s.heap g->(∃o,g.get? e=gF o/\o.cls=.type (zu 52))->E (.ref e) {s with heap:=g}):hJ (hV prog w) A (i1.SmallTypes.nextOf (.ref jt)) Q E s:=by
 let(r,c,t,d):=id b;let(u,p,_,y,q):=h;unfold i1.SmallTypes.nextOf;refine ak (wpAny_callSpecial?_slot (name:=Str.ofString "__next__") b.typeIs F.slot_tuple_iterator_next (wpAny_call_entry F.slot_tuple_iterator_next b.typeIs F.entry_tuple_iterator_next ?_ (F.args_tuple_iterator_next_1 _)));show hJ _ _ (field (.ref jt) 0>>=_) _ _ s;refine ak (wpAny_field c d (x:=.ref tu) rfl ?_);show hJ _ _ (if(hB.ref tu==hB.none)=gS then _ else _) _ _ s;rw [if_neg (show¬((hB.ref tu==hB.none)=gS) from zzf)];show hJ _ _ (field (.ref jt) 1>>=_) _ _ s;refine ak (wpAny_field c d (x:=.int i 0) rfl ?_);show hJ _ _ (seqItems? (.ref tu)>>=_) _ _ s;refine ak (wpAny_seqItems p q ?_);simp! [fW,j];refine ak (wpAny_rule (ak (wpAny_setField c d (by simp) ?_)));show hJ _ _ (newExc (.type (zu 52)) []>>=_) _ _ _;refine ak ?_;simp! [newExc,newTuple];refine ak (wpAny_newObj_type ?_ (by size_fits));refine ak (m:=firstArgMember _ _) (wpAny_of_eq (a:=hB.none) (by first|rfl|(simp! [firstArgMember];rfl)) ?_);refine wpAny_newObj_type ?_ (by size_fits);simp! [raiseNew];refine ak (wpAny_handled ?_)
 first|rw [show A.in1.handled=gK from f]|rw [f]
 refine ak (a8 (wpAny_throw ?_));exact k _ _ (((ff ..).extBut.push _).push _) {_,dJ _ rfl,rfl}
end
theorem rC(j:A.handled=gK)(a b:hF)(k:b≠a)(c:Array hB):
 Draws prog w A a [a,b] c.size (λi v=>c[i]?=gF v) (λi h=>h.IsTupleIter a b i/\h.IsTuple b c) where
 live:=λZ Z st=>let⟨o,m,_⟩:=st.1;⟨o,m⟩
 frame:=λZ Z Z st hk=>{st.1.at λo e=>hk a (by simp) o e,by let(o,e,r):=st.2;exact{o,hk b (by simp) o e,r}}
 item:=λi s Q E d st p=>nj st.1 st.2 (x:=c[i]) (by simp [d]) λg q f=>p _ g s.toks (by simp [d]) {q,by let(o,e,r):=st.2;exact{o,f.extBut _ _ k e,r}} f
 done:=λs Q E st t=>pI j st.1 st.2 (by simp) t
set_option tactic.hygienic true in
theorem BJ(l:hF)(items:Array hB)(n:Nat)(aY:Option hF)(sl:Array (Option hB)):
 Meets (i1.«enumerate.__new__» {[.type (zu 6),.ref l],[]}) (λZ R s=>s.heap.get? l=gF {cls:=.type "tuple",dict:=aY,data:=.seq items n,slots:=sl}/\
  R (.ok (.ret (.ref (s.heap.push {cls:=.type (zu 59),data:=.fields #[.ref l,.int 0 0]}).objs.size)))
   {s with heap:=(s.heap.push {cls:=.type (zu 59),data:=.fields #[.ref l,.int 0 0]}).push {cls:=.type (zu 6),data:=.fields #[.none,.bool gU,.ref (zz9 s),rawInt 0,.none,.none]}}):=
 .of_wp λprog w A R s h=>by
  let(b,g,d,e,os):=s;let(hl,h):=h;have f:=sub_enumerate;have a:h9.IsTuple (hD.heap ⟨b,g,d,e,os⟩) l items:={_,hl,rfl,n,rfl}
  wp_walk using wpAny_loadPart' hl
  refine wpAny_stack_any λst=>a8 ?_;split
  .rename_i c _ _ _ _ _;cases(c==hB.type (zu 6))<;>(wp_walk using wpAny_loadPart' hl,wpAny_pyIter_tuple a;exact{_,rfl,h})
  .wp_walk using wpAny_loadPart' hl,wpAny_pyIter_tuple a
   exact{_,rfl,h}
def ij{b:hF}{c d:Obj}(h1:h.get? a=gF c)(e:h.get? b=gF d)(f:c.cls≠d.cls):a≠b:=λz=>by subst z;rw [h1] at e;cases e;exact f rfl
def gb(z:Str):strIterType z="str_ascii_iterator"\/strIterType z="str_iterator":=by
 unfold strIterType;split
 .exact .inl rfl
 .exact .inr rfl
def mq{t:St}{s:hD}{E:kd}{e it:hF}{L:List hF}{n i:Nat}{M:Nat->hB->Prop}{y:Nat->h9->Prop}{B:hB}{Gx:V->Prop}{h:List hI}{Y:Nat}
 (I:Inv X ae t H s) (D:Draws X.prog X.w X.A.in1 it L n M y) (he:IsEnum s.heap e it i B) (N:y i s.heap) (Z:i<n) (gQ:e≠it) (O:e∉L) (P:∀b∈[e,it],gh X ae H b) (hP:∀u,M i u->∃x,RelV x u/\Gx x):
 zx7 X (pyNext (.ref e)) (λr s1=>∃u,r=gF u/\zx7 X (letOwnedTupleGo (.Tuple h Y pos) (.ref e) u) (λ_ C=>∃x p,u=.ref p/\Gx x/\H p=gK/\e≠p/\it≠p/\
  Inv X ae t (upd H p (.tup [.int i,x])) C/\(∃WU,IsEnum C.heap e it ((i:Int)+1) WU)/\y (i+1) C.heap) E s1) E s:=by
 refine wpAny_pyNext_enum_itemD D he N Z gQ O λu h' k pu ho iz ht hz j=>?_;let(x,rx,gx):=hP u pu;let(f0,F,f2,Q,R,S):=P e (by simp);let(g0,T,g2,g3,g4,g5):=P it (by simp);have xV:H (zz9 s)=gK:=I.aN.fresh (a5 _);let(oi,G):=D.live _ _ N;have U:e≠(zz9 s):=d0 (cB he);have K:it≠(zz9 s):=d0 (cB G);have d:∀b o,H b=gF o->b≠e/\b≠it/\b≠(zz9 s):=λb o q=>{(λz=>(by rw [z,f0] at q;cases q)),(λz=>(by rw [z,g0] at q;cases q)),d0 (I.aN.lt q)}
 have I1:Inv X ae t (upd H (zz9 s) (.tup [.int i,x])) {s with heap:=h',toks:=k+1}:=by
  refine I.step (g':=s.gens) (d':=s.drawn) (ch:=[e,it]) (λb f=>?_) (λb o _ _ a q _=>j b o (λz=>a (by simp [z])) (λz=>a (by simp [z])) q)
   (λb o _ _ a q _=>{o.slots,j b o (λz=>a (by simp [z])) (λz=>a (by simp [z])) q}) (λb o _ q nb=>by rw [ah (d0 (cB q))];exact nb)
   (λb o a q=>{o,j b o (λz=>a (by simp [z])) (λz=>a (by simp [z])) q}) (λb xs q=>by rw [ah (d b _ q).2.2];exact q) (λb o u q=>by rw [ah (d b _ q).2.2];exact q)
   (λb ps q=>{#[],by rw [ah (d b _ q).2.2,q];simp}) (λm hm=>?_) (λb o q=>?_) I.bare
  .rcases ey.mp f with z|z
   .subst z;exact⟨Q,F,R,S⟩
   .rw [eo.mp z];exact⟨g3,T,g4,g5⟩
  .let(o,es,ep,q,r):=hm;exact{o,es,ep,j _ o (Ne.symm F) (Ne.symm T) q,r}
  .by_cases f:b=(zz9 s)
   .subst f;rw [av] at q;cases q;exact{(show 2<=ic by decide),[.int i k,u],.cons ⟨k,rfl⟩ (.cons rx .nil),{_,ht,rfl,_,rfl}}
   .rw [ah f] at q;refine(I.aN b o q).eO (λc v a z=>j c v ?_ ?_ z) (λc z=>by rw [ah (d c _ z).2.2];exact z) λc xs z=>by rw [ah (d c _ z).2.2];exact z
    .rcases a with g|g
     .rw [g];exact(d b o q).1
     .exact(d c _ g).1
    .rcases a with g|g
     .rw [g];exact(d b o q).2.1
     .exact(d c _ g).2.1
 refine{_,rfl,wpAny_letOwnedTupleGo_enum ho λh2 N8 W=>?_};refine{x,(zz9 s),rfl,gx,xV,U,K,I1.turned (t':=k+1) (it:=e) (λb o f q=>W.extBut b o f q) (by rw [ah U];exact f0) F Q R S,{_,N8},D.frame _ _ _ iz λb f o q=>W.extBut b o (λz=>O (z▸f)) q}
abbrev Vh(K:zz8)(a:hF)(xs:List V):It:=
 {λi H=>gf K H a xs/\i<xs.length,λi H v b=>∃p x,v=.ref p/\H p=gK/\b=upd H p (.tup [.int (i:Nat),x])/\xs[i]?=gF x,λi H=>gf K H a xs/\i=xs.length}
abbrev Ua(z:Str):It:=
 {λi Z=>i<z.cps.size,λi H v a=>∃p c,v=.ref p/\H p=gK/\a=upd H p (.tup [.int (i:Nat),.str {#[c]}])/\z.cps[i]?=gF c,λi Z=>i=z.cps.size}
def yM{K:zz8}{g:List hI}{Z:Nat}(a e it:hF)(xs:List V):Turn P w K (.Tuple g Z pos) (Vh K a xs) [e,it] e (λi h=>(∃c,IsEnum h e it i c)/\h.IsTupleIter it a i) where
 mem:=by simp
 obj:=λi h st b j=>by
  let((c,d),o,ho,_,hd):=st
  rcases ey.mp j with z|z
  .subst z;exact{_,d,λv q=>by cases q}
  .rw [eo.mp z];exact{o,ho,λv q=>by rw [hd] at q;cases q}
 keep:=λi h h' st k=>{by let(c,d):=st.1;exact{c,k e (by simp) _ d},st.2.at λo q=>k it (by simp) o q}
 item:=by
  intro X G L hK M i ae s σ H E I m st N;subst G L hK;let(O,bP):=N;let((c,d),f):=st;let(t,y,p,hz):=I.tuple O;have hl:=y.length;have Q:=f;let(oi,B,C,_):=f;let(oa,D,F,_):=id p;have R:a≠it:=ij D B (by rw [F,C];decide+kernel);have U:e≠it:=ij d B (by rw [C];show hB.type (zu 6)≠_;decide+kernel);have OP:e≠a:=ij d D (by rw [F];show hB.type (zu 6)≠_;decide+kernel);refine cm (mq (Gx:=λx=>xs[i]?=gF x) I (rC (A:=X.A.in1) (I.ok.hd M) it a R t.toArray) d ⟨Q,p⟩ (by rw [aT];lia) U (by simp [U,OP]) m (λu hu=>?_)) λr s1 ⟨u,hr,k⟩=>{u,hr,cm k λ_ s2 ⟨x,q,z1,z2,z3,z4,z5,z6,z7,z8⟩=>?_}
  .have W:xs[i]?=gF xs[i]:=zzg bP;let(u',S,T):=y.get W;have:t.toArray[i]?=gF u':=zx6 S;have Y:t.toArray[i]?=gF u:=hu;rw [this] at Y;cases Y;exact{xs[i],T,W}
  .exact{.ref q,_,z6,z1.symm▸rfl,⟨q,x,rfl,z3,rfl,z2⟩,⟨z7,z8.1⟩,λb j=>by
    rcases ey.mp j with w|w
    .rw [w,ah z4];exact(m e (by simp)).1
    .rw [eo.mp w,ah z5];exact(m it (by simp)).1}
 done:=by intro X G L hK M i ae s σ H E I m st N;subst G L hK;let(O,rfl):=N;let((c,d),f):=st;let(t,y,p,hz):=I.tuple O;have hl:=y.length;have Q:=f;let(oi,B,C,_):=f;let(oa,D,F,_):=id p;have R:a≠it:=ij D B (by rw [F,C];decide+kernel);let(g0,g1,g2,g3,g4,g5):=m it (by simp);refine wpAny_pyNext_enum_endD (rC (A:=X.A.in1) (I.ok.hd M) it a R t.toArray) d {by rw [aT,<-hl];exact Q,p} λh' eb=>{rfl,I.turned (t':=s.toks) (λb o j q=>eb b o j q) g0 g1 g3 g4 g5}
 self:=λ_ _ _ _ _ st h=>by let((c,d),_):=st;exact wpAny_pyIter_enum d h
def qo{E:kd}{s:hD}{l:hF}{Q:kd}(e:IsTup s.heap l items)
 (h:∀g,IsEnum g ((zz9 s)+1) (zz9 s) 0 .none->g.IsTupleIter (zz9 s) l 0->(∀b o,s.heap.get? b=gF o->g.get? b=gF o)->Q (.ref ((zz9 s)+1)) {s with heap:=g}):
 hJ (hV prog w) A (call (.type (zu 6)) [.ref l]) Q E s:=by
 let((cls,f,data,i),j,a,n,hd):=id e;simp only at a hd;subst a hd;have c:(s.heap.push {cls:=.type (zu 59),data:=.fields #[.ref l,.int 0 0]}).objs.size=(zz9 s)+1:=h9.size_push ..;refine callType_new F.called_enumerate (by decide) (F.typeCall_enumerate_1 _) (F.newCall_enumerate_1 _) (λobj=>F.args_object_init_2 obj _) F.entry_enumerate_new (BJ l items n f i) {j,?_};show _/\_;rw [c];have d:IsEnum ((s.heap.push {cls:=.type (zu 59),data:=.fields #[.ref l,.int 0 0]}).push {cls:=.type (zu 6),data:=.fields #[.none,.bool gU,.ref (zz9 s),rawInt 0,.none,.none]}) ((zz9 s)+1) (zz9 s) 0 .none:=by have q:=dJ (s.heap.push {cls:=.type (zu 59),data:=.fields #[.ref l,.int 0 0]}) (o:={cls:=.type (zu 6),data:=.fields #[.none,.bool gU,.ref (zz9 s),rawInt 0,.none,.none]}) rfl;rw [c] at q;exact q
 exact{{_,d,rfl},h _ d {_,ar _ (dJ _ rfl),rfl,rfl} λb o x=>ar _ (ar _ x)}
section
variable{elts:List hI}{x1:Nat}{yJ:Pos}
abbrev Wn(K:zz8)(c:TA):TI:=λd H R=>c d H λe b=>∃a xs,e=[.ref a]/\gf K b a xs/\R (Vh K a xs) b
theorem F7{a:hI}{i:TA}{p:Pos}(t:Gl X (zu 6))(hm:X.mg (zu 6)=gK)(w:PA X [a] i)(hs:starEach [a] X.env=[(gU,eval a X.env)]:=by rfl):PI X (.Tuple elts x1 yJ) (.Call (.Name (zu 6) p) [a] [] pos) (Wn X.K i):=by
 intro j s k H R I h;refine Call_ (fZ I t hm boot_enumerate (PyProof.Rows.callWith_type1 (cm (w pos j s k H _ I h) λG c f=>?_) hs rfl));let(L,m,d,y,A):=f;let(a,xs,e,B,q):=A;subst e;let(u,rfl,C):=vals1 y;cases C;let(M,N,pt,O):=d.tuple B;refine qo pt λg o D kp=>wpAny_pyIter_enum o ?_;have E:Inv X j k m {c with heap:=g}:=d.kept (t':=c.toks) kp;refine{(zz9 c)+1,[(zz9 c)+1,(zz9 c)],_,_,m,rfl,E,yM a _ (zz9 c) xs,{{_,o},D},λb F=>?_,q}
 have r:(zz9 c)<=b:=by
  rcases ey.mp F with z|z
  .rw [z];exact Nat.le_succ _
  .rw [eo.mp z];exact a5 _
 exact d.o5 r (d.aN.fresh r)
end
def yL{K:zz8}{j:List hI}{S:Nat}(z:Str)(t:Tok)(e it:hF):Turn P w K (.Tuple j S pos) (Ua z) [e,it] e (λi h=>(∃a,IsEnum h e it i a)/\h.IsStrIter it (strIterType z) z t i) where
 mem:=by simp
 obj:=λi h st b m=>by
  let((a,f),o,ho,_,hd):=st
  rcases ey.mp m with q|q
  .subst q;exact{_,f,λv q=>by cases q}
  .rw [eo.mp q];exact{o,ho,λv q=>by rw [hd] at q;cases q}
 keep:=λi h T st k=>{by let(a,f):=st.1;exact{a,k e (by simp) _ f},by let(o,q,r):=st.2;exact{o,k it (by simp) o q,r}}
 item:=by
  intro X G L hK p i U s V H E I y st M;subst G L hK;have bP:i<z.cps.size:=M;let((a,f),d):=st;have B:=d;let(oi,e1,e2,_):=d
  have W:e≠it:=ij f e1 (by rw [e2];show hB.type (zu 6)≠_;rcases gb z with q|q<;>rw [q]<;>decide+kernel)
  have g:∀{C:Nat->h9->Prop},Draws X.prog X.w X.A.in1 it [it] z.cps.size (λi v=>∃c u,z.cps[i]?=gF c/\v=.str {#[c]} u) C->C i s.heap->(∀h,C (i+1) h->h.IsStrIter it (strIterType z) z t (i+1))->
   zx7 X (pyNext (.ref e)) (λr Y=>∃u,r=gF u/\zx7 X (letOwnedTupleGo (.Tuple j S pos) (.ref e) u) (λ_ F=>∃x N,Inv X U V N F/\RelV x u/\(Ua z).QK i H x N/\((∃a,IsEnum F.heap e it (((i+1:Nat)):Int) a)/\F.heap.IsStrIter it (strIterType z) z t (i+1))/\∀b∈[e,it],N b=gK) E Y) E s:=by
   intro C D d9 back;refine cm (mq (Gx:=λx=>∃c,x=.str {#[c]}/\z.cps[i]?=gF c) I D f d9 bP W (by simp [W]) y (λu ⟨c,tk,p,hu⟩=>{.str {#[c]},⟨tk,hu⟩,c,rfl,p})) λr Y ⟨u,hr,k⟩=>{u,hr,cm k λ_ F O=>?_};let(x,q,z1,(c,z2,Q),z3,z4,z5,z6,z7,z8):=O
   subst z2;exact{.ref q,_,z6,z1.symm▸rfl,⟨q,c,rfl,z3,rfl,Q⟩,{z7,back _ z8},λb m=>by
    rcases ey.mp m with w|w
    .rw [w,ah z4];exact(y e (by simp)).1
    .rw [eo.mp w,ah z5];exact(y it (by simp)).1}
  rcases gb z with q|q
  .rw [q] at B⊢;rw [q] at g;exact g (Draws.strAscii (A:=X.A.in1) (I.ok.hd p) it z t) B λh st=>st
  .rw [q] at B⊢;rw [q] at g;exact g (Draws.strWide (A:=X.A.in1) (I.ok.hd p) it z t) B λh st=>st
 done:=by
  intro X G L hK p i U s V H E I y st M;subst G L hK;have hi:i=z.cps.size:=M;subst hi;let((a,f),d):=st;let(Z,g1,g2,g3,g4,g5):=y it (by simp)
  rcases gb z with q|q
  .rw [q] at d;exact wpAny_pyNext_enum_endD (Draws.strAscii (A:=X.A.in1) (I.ok.hd p) it z t) f d λT R=>{rfl,I.turned (t':=s.toks) (λb o m q=>R b o m q) Z g1 g3 g4 g5}
  .rw [q] at d;exact wpAny_pyNext_enum_endD (Draws.strWide (A:=X.A.in1) (I.ok.hd p) it z t) f d λT R=>{rfl,I.turned (t':=s.toks) (λb o m q=>R b o m q) Z g1 g3 g4 g5}
 self:=λ_ _ _ _ _ st h=>by let((a,f),_):=st;exact wpAny_pyIter_enum f h
section
variable{elts:List hI}{x1:Nat}{yJ:Pos}
abbrev Wm(a:TA):TI:=λb H R=>a b H λc d=>∃z,c=[.str z]/\R (Ua z) d
theorem F6{a:hI}{i:TA}{p:Pos}(w:Gl X (zu 6))(hm:X.mg (zu 6)=gK)(y:PA X [a] i)(hs:starEach [a] X.env=[(gU,eval a X.env)]:=by rfl):PI X (.Tuple elts x1 yJ) (.Call (.Name (zu 6) p) [a] [] pos) (Wm i):=by
 intro j s k H R I h;refine Call_ (fZ I w hm boot_enumerate (PyProof.Rows.callWith_type1 (cm (y pos j s k H _ I h) λF c d=>?_) hs rfl));let(G,m,f,A,B):=d;let(z,e,q):=B;subst e;let(u,rfl,t,rfl):=vals1 A;refine call_enumerate_str λg o C K kp=>wpAny_pyIter_enum o ?_;have D:Inv X j k m {c with heap:=g}:=f.kept (t':=c.toks) kp;refine{(zz9 c)+1,[(zz9 c)+1,(zz9 c)],_,_,m,rfl,D,yL z t _ (zz9 c),{{_,o},C},λb E=>?_,q}
 have r:(zz9 c)<=b:=by
  rcases ey.mp E with z|z
  .rw [z];exact Nat.le_succ _
  .rw [eo.mp z];exact a5 _
 exact f.o5 r (f.aN.fresh r)
end
abbrev Mv(K:zz8)(a:hF)(xs:List V):It:=
 {λi H=>gR K H a xs/\i<xs.length,λi H v b=>∃p x,v=.ref p/\H p=gK/\b=upd H p (.tup [.int (i:Nat),x])/\xs[i]?=gF x,λi H=>gR K H a xs/\i=xs.length}
def yK{K:zz8}{g:List hI}{Z:Nat}(a e it:hF)(xs:List V):Turn P w K (.Tuple g Z pos) (Mv K a xs) [e,it] e (λi h=>(∃c,IsEnum h e it i c)/\h.IsListIter it a i) where
 mem:=by simp
 obj:=λi h st b j=>by
  let((c,d),o,ho,_,hd):=st
  rcases ey.mp j with z|z
  .subst z;exact{_,d,λv q=>by cases q}
  .rw [eo.mp z];exact{o,ho,λv q=>by rw [hd] at q;cases q}
 keep:=λi h h' st k=>{by let(c,d):=st.1;exact{c,k e (by simp) _ d},st.2.at λo q=>k it (by simp) o q}
 item:=by
  intro X G L hK M i ae s σ H E I m st N;subst G L hK;let(O,bP):=N;let((c,d),f):=st;let(t,y,p,hz):=I.list O;have hl:=y.length;have Q:=f;let(oi,B,C,_):=f;let(oa,D,F,_):=p.isList;have R:a≠it:=ij D B (by rw [F,C];decide+kernel);have U:e≠it:=ij d B (by rw [C];show hB.type (zu 6)≠_;decide+kernel);have OP:e≠a:=ij d D (by rw [F];show hB.type (zu 6)≠_;decide+kernel);refine cm (mq (Gx:=λx=>xs[i]?=gF x) I (Draws.list (A:=X.A.in1) (I.ok.hd M) it a R t.toArray) d ⟨Q,p.isList⟩ (by rw [aT];lia) U (by simp [U,OP]) m (λu hu=>?_)) λr s1 ⟨u,hr,k⟩=>{u,hr,cm k λ_ s2 ⟨x,q,z1,z2,z3,z4,z5,z6,z7,z8⟩=>?_}
  .have W:xs[i]?=gF xs[i]:=zzg bP;let(u',S,T):=y.get W;have:t.toArray[i]?=gF u':=zx6 S;have Y:t.toArray[i]?=gF u:=hu;rw [this] at Y;cases Y;exact{xs[i],T,W}
  .exact{.ref q,_,z6,z1.symm▸rfl,⟨q,x,rfl,z3,rfl,z2⟩,⟨z7,z8.1⟩,λb j=>by
    rcases ey.mp j with w|w
    .rw [w,ah z4];exact(m e (by simp)).1
    .rw [eo.mp w,ah z5];exact(m it (by simp)).1}
 done:=by intro X G L hK M i ae s σ H E I m st N;subst G L hK;let(O,rfl):=N;let((c,d),f):=st;let(t,y,p,hz):=I.list O;have hl:=y.length;have Q:=f;let(oi,B,C,_):=f;let(oa,D,F,_):=p.isList;have R:a≠it:=ij D B (by rw [F,C];decide+kernel);let(g0,g1,g2,g3,g4,g5):=m it (by simp);refine wpAny_pyNext_enum_endD (Draws.list (A:=X.A.in1) (I.ok.hd M) it a R t.toArray) d {by rw [aT,<-hl];exact Q,p.isList} λh' eb=>{rfl,I.turned (t':=s.toks) (λb o j q=>eb b o j q) g0 g1 g3 g4 g5}
 self:=λ_ _ _ _ _ st h=>by let((c,d),_):=st;exact wpAny_pyIter_enum d h
section
variable{elts:List hI}{x1:Nat}{yJ:Pos}
abbrev Wl(K:zz8)(c:TA):TI:=λd H R=>c d H λe b=>∃a xs,e=[.ref a]/\gR K b a xs/\R (Mv K a xs) b
theorem wD{a:hI}{i:TA}{p:Pos}(t:Gl X (zu 6))(hm:X.mg (zu 6)=gK)(w:PA X [a] i)(hs:starEach [a] X.env=[(gU,eval a X.env)]:=by rfl):PI X (.Tuple elts x1 yJ) (.Call (.Name (zu 6) p) [a] [] pos) (Wl X.K i):=by
 intro j s k H R I h;refine Call_ (fZ I t hm boot_enumerate (PyProof.Rows.callWith_type1 (cm (w pos j s k H _ I h) λG c f=>?_) hs rfl));let(L,m,d,y,A):=f;let(a,xs,e,B,q):=A;subst e;let(u,rfl,C):=vals1 y;cases C;let(M,N,pt,O):=d.list B;refine call_enumerate_list pt.isList λg o D Z kp=>wpAny_pyIter_enum o ?_;have E:Inv X j k m {c with heap:=g}:=d.kept (t':=c.toks) kp;refine{(zz9 c)+1,[(zz9 c)+1,(zz9 c)],_,_,m,rfl,E,yK a _ (zz9 c) xs,{{_,o},D},λb F=>?_,q}
 have r:(zz9 c)<=b:=by
  rcases ey.mp F with z|z
  .rw [z];exact Nat.le_succ _
  .rw [eo.mp z];exact a5 _
 exact d.o5 r (d.aN.fresh r)
end
structure Zd where
 it:hF
 fp:List hF
 n:Nat
 P:Nat->hB->Prop
 St:Nat->h9->Prop
end L2
namespace Ci
open L2
set_option backward.match.sparseCases false
structure Hs where
 f:Str
 h:Str
 g:Str
 idx:List Nat
 np:Nat
structure Pg where
 gs:List (Str×PV)
 bs:List Str
 cs:List Str
 fs:List Str
 rs:List Str
 hs:List Hs:=[]
 hl:Bool:=gU
 qt:Bool:=gU
 qs:List Str:=[]
abbrev nq(Γ:Pg)(b:Bool):Bool:=b&&!Γ.qt
def pN{Γ:Pg}{b:Bool}(h:nq Γ b=gS):Γ.qt=gU/\b=gS:=by unfold nq at h;rw [zza,Bool.not_eq_true'] at h;exact⟨h.2,h.1⟩
abbrev f6(sc:hZ)(x:Str):Bool:=sc.names.lookup x==gF .local||sc.names.lookup x==gF .cell
abbrev fK(sc:hZ)(x:Str):Bool:=f6 sc x||sc.names.lookup x==gF .free
abbrev gP(sc:hZ)(x:Str):Bool:=sc.names.lookup x==gF .globalImplicit
abbrev litS:List PV->List PV->Bool
 |[],[]=>gS|.str x::xs,.str y::ys=>x==y&&litS xs ys|_,_=>gU
abbrev Fi:PV->PV->Bool
 |.int i,.int j=>i==j|.str x,.str y=>x==y|.tup xs,.tup ys=>litS xs ys|_,_=>gU
def litS_eq(h:litS xs ys=gS):xs=ys:=by
 induction xs generalizing ys with
 |nil=>
  cases ys with
  |nil=>rfl|cons _ _=>exact aP h
 |cons x xs a=>
  cases ys with
  |nil=>cases x<;>exact aP h
  |cons y ys=>
   cases x<;>cases y<;>first|exact aP h|skip
   replace h:(_&&litS xs ys)=gS:=h;rw [zza] at h;rw [zzy.mp h.1,a h.2]
def Fj(h:Fi p q=gS):p=q:=by
 cases p<;>first|exact aP h|skip
 all_goals cases q<;>first|exact aP h|skip
 .rw [zzy.mp h]
 .rw [zzy.mp h]
 .rw [litS_eq h]
abbrev bN:B->Str
 |.len=>"len"|.abs=>"abs"|.max2=>"max"|.int=>"int"|.str=>"str"|.tuple=>"tuple"|.sorted=>"sorted"|.dict=>"dict"|.rQ=>"list"
abbrev mN:M->Str
 |.j7=>"count"|.index=>"index"
abbrev iH:E->Bool
 |.fG _=>gU|_=>gS
abbrev iB:Es->Bool
 |.nil=>gS|.cons e es=>iH e&&iB es
abbrev IL:I->Bool
 |.seq e=>iH e|.qC _=>gS|.uu _ _=>gS|.enum e=>iH e
abbrev isNil:Es->Bool
 |.nil=>gS|_=>gU
abbrev iY:Es->Nat
 |.nil=>0|.cons _ es=>iY es+1
abbrev Qa:hI->Option (List hI)
 |.Tuple es _ _=>gF es|_=>gK
def A1{es:List hI}(h:Qa e=gF es):∃k p,e=.Tuple es k p:=by
 cases e with
 |Tuple es k p=>cases h;exact{_,_,rfl}
 |_=>exact jW h
abbrev yP{c:Type}:List c->Option (c×c)
 |[a,b]=>gF (a,b)|_=>gK
def Lg{c:Type}{ts:List c}{q:c×c}(h:yP ts=gF q):ts=[q.1,q.2]:=by
 cases ts with
 |nil=>exact jW h|cons a ts=>
  cases ts with
  |nil=>exact jW h|cons b ts=>
   cases ts with
   |cons _ _=>exact jW h|nil=>cases h;rfl
abbrev WL(N:List Str)(sc:hZ)(fn:Str->Bool)(i:Nat)(p:hI):Bool:=(eY p).any λx=>N[i]?==gF x&&f6 sc x&&(fn x||sc.names.lookup x==gF .local)
abbrev OR(N:List Str)(sc:hZ)(fn:Str->Bool):List Nat->List hI->Bool
 |i::is,a::as=>WL N sc fn i a&&OR N sc fn is as|[],[]=>gS|_,_=>gU
abbrev jx(N:List Str)(sc:hZ)(fn:Str->Bool):Tg->hI->Bool
 |.one i,p=>WL N sc fn i p|.two i j,p=>(Qa p).any (OR N sc fn [i,j])
abbrev aR:hI->List Str
 |.Name x _=>[x]|.Tuple [.Name x _,.Name y _] _ _=>[x,y]|.Tuple [.Name x _,.Name y _,.Name z _] _ _=>[x,y,z]|.Tuple [.Name x _,.Tuple [.Name y _,.Name z _] _ _] _ _=>[x,y,z]|_=>[]
abbrev dU(a sc:hZ):Scope:=
 {a with names:=a.names.map λ(n,k)=>if(k==.free&&sc.kind==.function&&sc.names.lookup n==gF .cell) then(n,.cell) else(n,k)}
abbrev freeOf(a:hZ):List Str:=((a.names.filter λp=>p.2==.free).map (·.1)).reverse
abbrev zm(N:List Str)(sc a:hZ)(k:Nat)(b:List Nat)(xs:List Str):Bool:=
 a.kind==.function&&xs.length==k&&decide ((xs++freeOf a).Nodup)
 &&(a.names.all λy=>(decide (y.2≠.cell)||!(freeOf a).contains y.1)&&(decide (y.2≠.free)||(freeOf a).contains y.1))
 &&(a.names.all λy=>decide (y.2≠.cell)||decide (a.names.lookup y.1=gF .cell))
 &&(a.names.all λy=>decide (y.2≠.local)||decide (a.names.lookup y.1=gF .local))
 &&decide (b.map (λi=>N[i]?)=(freeOf a).map gF)
 &&((freeOf a).all λy=>decide (sc.names.lookup y=gF .cell))
 &&((freeOf a).all λy=>decide ((dU a sc).names.lookup y=gF .cell))
abbrev qd(k:Nat):Tg->Bool
 |.one i=>decide (i<k)|.two i j=>decide (i<k)&&decide (j<k)
abbrev iC:E->Bool
 |.ite _ _ _=>gU|.not a=>iC a|.and a b=>iC a&&iC b|.or a b=>iC a&&iC b|_=>gS
abbrev isTup:hI->Bool
 |.Tuple .. =>gS|_=>gU
noncomputable abbrev Pg.HG(Γ:Pg):Pg:={Γ with hl:=gU}
def kJ{c d:Type}{o:Option c}{f:c->Option d}{b:d}(h:o.bind f=gF b):∃a,o=gF a/\f a=gF b:=dV.1 h
def if1{d:Type}{c:Bool}{a b:d}(h:(if c=gS then gF a else gK)=gF b):c=gS/\a=b:=by
 cases c with
 |true=>cases h;exact⟨rfl,rfl⟩
 |false=>exact jW h
abbrev eJ{a:Type}:List a->Option a
 |[t]=>gF t|_=>gK
def dz{b:Type}{ts:List b}{t:b}(h:eJ ts=gF t):ts=[t]:=by
 cases ts with
 |nil=>exact jW h|cons a ts=>
  cases ts with
  |cons _ _=>exact jW h|nil=>cases h;rfl
abbrev Qp:hI->Option (hI×Str×Pos)
 |.Attribute o m p=>gF (o,m,p)|_=>gK
def xC{q:hI×Str×Pos}(h:Qp e=gF q):e=.Attribute q.1 q.2.1 q.2.2:=by
 cases e with
 |Attribute o m p=>cases h;rfl
 |_=>exact jW h
abbrev WB:hI->Option (i2×hI×hZ)
 |.Lambda p b s _=>gF (p,b,s)|_=>gK
def ua{q:i2×hI×hZ}(h:WB e=gF q):∃p,e=.Lambda q.1 q.2.1 q.2.2 p:=by
 cases e with
 |Lambda p b s x=>cases h;exact{_,rfl}
 |_=>exact jW h
abbrev PY:hI->Option (hI×hI)
 |.Subscript a b _=>gF (a,b)|_=>gK
def uH{q:hI×hI}(h:PY e=gF q):∃p,e=.Subscript q.1 q.2 p:=by
 cases e with
 |Subscript a b p=>cases h;exact{_,rfl}
 |_=>exact jW h
abbrev Qq:hI->Option Const
 |.Constant c _ _=>gF c|_=>gK
def xJ{c:Const}(h:Qq e=gF c):∃p q,e=.Constant c p q:=by
 cases e with
 |Constant c p q=>cases h;exact{_,_,rfl}
 |_=>exact jW h
abbrev PQ:Const->Option Str
 |.str z=>gF z|_=>gK
def GX{c:Const}(h:PQ c=gF z):c=.str z:=by
 cases c with
 |str y=>cases h;rfl
 |_=>exact jW h
abbrev Ws:Const->Option Int
 |.int n=>gF n|_=>gK
def EX{c:Const}{n:Int}(h:Ws c=gF n):c=.int n:=by
 cases c with
 |int y=>cases h;rfl
 |_=>exact jW h
def Fx{a:Type}{l:List a}(h:l.isEmpty=gS):l=[]:=by
 cases l with
 |nil=>rfl|cons _ _=>exact aP h
def WS{a:Type}{o:Option a}(h:o.isNone=gS):o=gK:=by
 cases o with
 |none=>rfl|some _=>exact aP h
abbrev Yd:Const->Option Bool
 |.bool b=>gF b|_=>gK
def MM{c:Const}{b:Bool}(h:Yd c=gF b):c=.bool b:=by
 cases c with
 |bool y=>cases h;rfl
 |_=>exact jW h
abbrev WM:Const->Bool
 |.none=>gS|_=>gU
def FA{c:Const}(h:WM c=gS):c=.none:=by
 cases c with
 |none=>rfl|_=>exact aP h
abbrev Yc:hI->Option (hI×Operator×hI)
 |.BinOp a o b _=>gF (a,o,b)|_=>gK
def MK{q:hI×Operator×hI}(h:Yc e=gF q):∃p,e=.BinOp q.1 q.2.1 q.2.2 p:=by
 cases e with
 |BinOp a o b p=>cases h;exact{_,rfl}
 |_=>exact jW h
abbrev Uq:hI->Option (hI×List CmpOp×List hI)
 |.Compare a o b _=>gF (a,o,b)|_=>gK
def MT{q:hI×List CmpOp×List hI}(h:Uq e=gF q):∃p,e=.Compare q.1 q.2.1 q.2.2 p:=by
 cases e with
 |Compare a o b p=>cases h;exact{_,rfl}
 |_=>exact jW h
abbrev Va:hI->Option (UnaryOp×hI)
 |.UnaryOp o a _=>gF (o,a)|_=>gK
def Qc{q:UnaryOp×hI}(h:Va e=gF q):∃p,e=.UnaryOp q.1 q.2 p:=by
 cases e with
 |UnaryOp o a p=>cases h;exact{_,rfl}
 |_=>exact jW h
abbrev LY:UnaryOp->Bool
 |.Not=>gS|_=>gU
def EV{o:UnaryOp}(h:LY o=gS):o=.Not:=by
 cases o with
 |Not=>rfl|_=>exact aP h
abbrev isNeg:UnaryOp->Bool
 |.USub=>gS|_=>gU
def ET{o:UnaryOp}(h:isNeg o=gS):o=.USub:=by
 cases o with
 |USub=>rfl|_=>exact aP h
abbrev Ag:BoolOp->Bool
 |.And=>gS|.Or=>gU
def ER{o:BoolOp}(h:Ag o=gS):o=.And:=by
 cases o with
 |And=>rfl|Or=>exact aP h
def JA{o:BoolOp}(h:(!Ag o)=gS):o=.Or:=by
 cases o with
 |Or=>rfl|And=>exact aP h
abbrev Uo:hI->Option (BoolOp×List hI×Pos)
 |.BoolOp o vs p=>gF (o,vs,p)|_=>gK
def MN{q:BoolOp×List hI×Pos}(h:Uo e=gF q):e=.BoolOp q.1 q.2.1 q.2.2:=by
 cases e with
 |BoolOp o a p=>cases h;rfl
 |_=>exact jW h
abbrev VA(o:BoolOp)(pos:Pos):List hI->Option (hI×hI)
 |a::b::[]=>gF (a,b)|a::b::c::r=>gF (a,.BoolOp o (b::c::r) pos)|_=>gK
def DS{o:BoolOp}{vs:List hI}{q:hI×hI}(h:VA o pos vs=gF q):vs=[q.1,q.2]\/∃b c r,vs=q.1::b::c::r/\q.2=.BoolOp o (b::c::r) pos:=by
 cases vs with
 |nil=>exact jW h|cons a vs=>
  cases vs with
  |nil=>exact jW h|cons b vs=>
   cases vs with
   |nil=>cases h;exact .inl rfl
   |cons c r=>cases h;exact .inr ⟨b,c,r,rfl,rfl⟩
abbrev Y0:hI->Option (hI×hI×hI)
 |.IfExp c a b _=>gF (c,a,b)|_=>gK
def Om{q:hI×hI×hI}(h:Y0 e=gF q):∃p,e=.IfExp q.1 q.2.1 q.2.2 p:=by
 cases e with
 |IfExp c a b p=>cases h;exact{_,rfl}
 |_=>exact jW h
abbrev Y5:hI->Option (List hI)
 |.List es _=>gF es|_=>gK
def Fh{es:List hI}(h:Y5 e=gF es):∃p,e=.List es p:=by
 cases e with
 |List es p=>cases h;exact{_,rfl}
 |_=>exact jW h
abbrev Mh:hI->Option (Option hI×Option hI×Option hI)
 |.Slice a b c _=>gF (a,b,c)|_=>gK
def PL{q:Option hI×Option hI×Option hI}(h:Mh e=gF q):∃p,e=.Slice q.1 q.2.1 q.2.2 p:=by
 cases e with
 |Slice a b c p=>cases h;exact{_,rfl}
 |_=>exact jW h
abbrev UP:hI->Option (hI×List Comprehension×hZ)
 |.ListComp e gs s _=>gF (e,gs,s)|_=>gK
def OC{q:hI×List Comprehension×hZ}(h:UP e=gF q):∃p,e=.ListComp q.1 q.2.1 q.2.2 p:=by
 cases e with
 |ListComp e gs s p=>cases h;exact{_,rfl}
 |_=>exact jW h
abbrev zg(e:hI):Option (Str×List hI):=(DT e).bind λq=>(eY q.1).bind λg=>if q.2.2.1.isEmpty=gS then gF (g,q.2.1) else gK
def MR{q:Str×List hI}(h:zg e=gF q):∃np p,e=.Call (.Name q.1 np) q.2 [] p:=by let((f,a,k,p),c,h):=kJ h;let(g,d,h):=kJ h;let(i,rfl):=if1 h;let(np,z):=b9 d;have b:=Fx i;dsimp only at z b;subst z b;exact{np,p,iO c}
abbrev Rm:PV->Const->Bool
 |.aC,c=>WM c|.bl b,c=>(Yd c).any λx=>b==x|.int i,c=>(Ws c).any λx=>i==x|.str z,c=>(PQ c).any λx=>z==x|_,_=>gU
abbrev OA:List Keyword->Option (Str×hI)
 |[⟨gF n,v,_⟩]=>gF (n,v)|_=>gK
def Fb{ks:List Keyword}{q:Str×hI}(h:OA ks=gF q):∃p,ks=[{gF q.1,q.2,p}]:=by
 cases ks with
 |nil=>exact jW h|cons k ks=>
  let(a,b,kp):=k
  cases a with
  |none=>exact jW h|some n=>
   cases ks with
   |cons _ _=>exact jW h|nil=>cases h;exact{_,rfl}
abbrev L5(p:hI):Bool:=(DT p).all λq=>!q.2.1.isEmpty
abbrev Av(p:hI):Bool:=(DT p).isNone
def az{a b:Bool}(h:(a&&b)=gS):a=gS/\b=gS:=Bool.and_eq_true_iff.mp h
def aj{a:Type}{o:Option a}{f:a->Bool}(h:o.any f=gS):∃x,o=gF x/\f x=gS:=by
 cases o with
 |none=>cases h
 |some x=>exact⟨x,rfl,h⟩
theorem js{b:Type}{l:List b}{f:b->Bool}(h:(eJ l).any f=gS):∃a,l=[a]/\f a=gS:=let⟨a,e,c⟩:=aj h;{a,dz e,c}
theorem Hl{c:Type}{l:List c}{f:c×c->Bool}(h:(yP l).any f=gS):∃a b,l=[a,b]/\f (a,b)=gS:=let⟨q,e,d⟩:=aj h;{q.1,q.2,Lg e,d}
theorem QD{p:hI}{f:Str->Bool}(h:(eY p).any f=gS):∃x np,p=.Name x np/\f x=gS:=let⟨x,e,a⟩:=aj h;let⟨np,z⟩:=b9 e;⟨x,np,z,a⟩
theorem Yr{p:hI}{f:Const->Bool}(h:(Qq p).any f=gS):∃x a b,p=.Constant x a b/\f x=gS:=let⟨x,e,c⟩:=aj h;let⟨a,b,z⟩:=xJ e;⟨x,a,b,z,c⟩
theorem Dk{p:hI}{f:Str×List hI->Bool}(h:(zg p).any f=gS):∃g as np pos,p=.Call (.Name g np) as [] pos/\f (g,as)=gS:=let⟨q,e,c⟩:=aj h;let⟨a,b,z⟩:=MR e;⟨q.1,q.2,a,b,z,c⟩
theorem Zr{p:hI}{f:hI×hI->Bool}(h:(PY p).any f=gS):∃a b pos,p=.Subscript a b pos/\f (a,b)=gS:=let⟨q,e,c⟩:=aj h;let⟨x,z⟩:=uH e;⟨q.1,q.2,x,z,c⟩
theorem slA{p:hI}{f:Option hI×Option hI×Option hI->Bool}(h:(Mh p).any f=gS):∃a b c pos,p=.Slice a b c pos/\f (a,b,c)=gS:=let⟨q,e,d⟩:=aj h;let⟨x,z⟩:=PL e;⟨q.1,q.2.1,q.2.2,x,z,d⟩
theorem Zv{p:hI}{f:UnaryOp×hI->Bool}(h:(Va p).any f=gS):∃o a pos,p=.UnaryOp o a pos/\f (o,a)=gS:=let⟨q,e,b⟩:=aj h;let⟨x,z⟩:=Qc e;⟨q.1,q.2,x,z,b⟩
theorem Yq{p:hI}{f:hI×List CmpOp×List hI->Bool}(h:(Uq p).any f=gS):∃a o b pos,p=.Compare a o b pos/\f (a,o,b)=gS:=let⟨q,e,c⟩:=aj h;let⟨x,z⟩:=MT e;⟨q.1,q.2.1,q.2.2,x,z,c⟩
theorem UR{p:hI}{f:hI×List Comprehension×hZ->Bool}(h:(UP p).any f=gS):∃a g s pos,p=.ListComp a g s pos/\f (a,g,s)=gS:=let⟨q,e,b⟩:=aj h;let⟨x,z⟩:=OC e;⟨q.1,q.2.1,q.2.2,x,z,b⟩
theorem Yg{p:hI}{f:BoolOp×List hI×Pos->Bool}(h:(Uo p).any f=gS):∃o vs pos,p=.BoolOp o vs pos/\f (o,vs,pos)=gS:=let⟨q,e,a⟩:=aj h;{q.1,q.2.1,q.2.2,MN e,a}
mutual
noncomputable def bp(Γ:Pg)(N:List Str)(sc:hZ):E->hI->Bool
 |.var i,p=>(eY p).any λx=>N[i]?==gF x&&fK sc x&&okN x|.fG i,p=>(eY p).any λx=>N[i]?==gF x&&fK sc x&&okN x|.cst q,p=>(Qq p).any (Rm q)|.glob g p,e=>(eY e).any λx=>g==x&&gP sc x&&okN x&&Γ.gs.any λq=>q.1==g&&Fi q.2 p|.call f as,p=>(zg p).any λq=>f==q.1&&Γ.fs.contains q.1&&gP sc q.1&&okN q.1&&iB as&&iQ Γ N sc as q.2|.kU i as,p=>(zg p).any λq=>N[i]?==gF q.1&&fK sc q.1&&okN q.1&&iB as&&iQ Γ N sc as q.2|.rh f as g idx d,p=>(zg p).any λr=>Γ.hl&&gP sc r.1&&okN r.1&&iB as&&(Γ.hs.any λq=>q.f==f&&q.h==r.1&&q.g==g&&q.idx==idx&&decide (q.np=iY as+1))&&zi Γ N sc g idx d as r.2|.blt b as,p=>nq Γ ((zg p).any λq=>bN b==q.1&&gP sc q.1&&Γ.bs.contains q.1&&!isNil as&&iQ Γ N sc as q.2)|.ty t a,p=>(zg p).any λq=>(yP q.2).any λr=>(eY r.2).any λtn=>q.1==(zu 31:Str)&&gP sc q.1&&Γ.bs.contains q.1&&tn==Str.ofString (yQ t)&&gP sc tn&&Γ.bs.contains tn&&bp Γ N sc a r.1|.HD c a,p=>(zg p).any λq=>(yP q.2).any λr=>(eY r.2).any λcn=>q.1==(zu 31:Str)&&gP sc q.1&&Γ.bs.contains q.1&&cn==c&&gP sc cn&&okN cn&&(Γ.cs.contains c||(c==(zu 0)&&Γ.bs.contains c))&&bp Γ N sc a r.1
 |.OM m o as,p=>(DT p).any λq=>(Qp q.1).any λr=>q.2.2.1.isEmpty&&(mN m==r.2.1&&!isNil as&&decide (iY as<30)&&r.2.2.endLine==q.2.2.2.line&&bp Γ N sc o r.1&&iQ Γ N sc as q.2.1&&Av r.1)|.bin o a b,p=>(Yc p).any λq=>decide (UY o=q.2.1)&&bp Γ N sc a q.1&&bp Γ N sc b q.2.2|.cmp o a b,p=>(Uq p).any λq=>(eJ q.2.1).any λs=>(eJ q.2.2).any λu=>decide (uP o=s)&&bp Γ N sc a q.1&&bp Γ N sc b u|.ch y A a b c,p=>(Uq p).any λq=>(yP q.2.1).any λs=>(yP q.2.2).any λu=>decide (uP y=s.1)&&decide (uP A=s.2)&&bp Γ N sc a q.1&&bp Γ N sc b u.1&&bp Γ N sc c u.2|.not a,p=>(Va p).any λq=>LY q.1&&bp Γ N sc a q.2|.neg a,p=>(Va p).any λq=>isNeg q.1&&bp Γ N sc a q.2|.and a b,p=>(Uo p).any λq=>(VA q.1 q.2.2 q.2.1).any λr=>Ag q.1&&iH b&&bp Γ N sc a r.1&&bp Γ N sc b r.2|.or a b,p=>(Uo p).any λq=>(VA q.1 q.2.2 q.2.1).any λr=>!Ag q.1&&iH b&&bp Γ N sc a r.1&&bp Γ N sc b r.2|.ite c a b,p=>(Y0 p).any λq=>iC c&&iH a&&iH b&&bp Γ N sc c q.1&&bp Γ N sc a q.2.1&&bp Γ N sc b q.2.2|.tup as,p=>(Qa p).any λps=>iB as&&decide (iY as<1000)&&iQ Γ N sc as ps|.lst as,p=>(Y5 p).any λps=>iB as&&decide (iY as<1000)&&iQ Γ N sc as ps|.sub a b,p=>(PY p).any λq=>bp Γ N sc a q.1&&bp Γ N sc b q.2|.slice a lo B,p=>(PY p).any λq=>(Mh q.2).any λr=>r.2.2.isNone&&bp Γ N sc a q.1&&MS Γ N sc lo r.1&&MS Γ N sc B r.2.1|.comp k d j it elt,p=>nq Γ ((UP p).any λq=>(eJ q.2.1).any λg=>g.ifs.isEmpty&&(zm N sc q.2.2 k d (aR g.target)&&qd k j&&iH elt&&Bx Γ N sc g.target it g.iter&&jx (aR g.target++freeOf q.2.2) (dU q.2.2 sc) (pO q.2.2) j g.target&&bp Γ.HG (aR g.target++freeOf q.2.2) (dU q.2.2 sc) elt q.1&&decide (g.is_async=0)))|.bJ k d j it c elt,p=>nq Γ ((UP p).any λq=>(eJ q.2.1).any λg=>(eJ g.ifs).any λC=>iC c&&zm N sc q.2.2 k d (aR g.target)&&qd k j&&iH elt&&Bx Γ N sc g.target it g.iter&&jx (aR g.target++freeOf q.2.2) (dU q.2.2 sc) (pO q.2.2) j g.target&&bp Γ.HG (aR g.target++freeOf q.2.2) (dU q.2.2 sc) c C&&bp Γ.HG (aR g.target++freeOf q.2.2) (dU q.2.2 sc) elt q.1&&decide (g.is_async=0))|.GV a,p=>nq Γ ((zg p).any λq=>(eJ q.2).any λz=>(zg z).any λr=>(eJ r.2).any λw=>q.1==("sorted":Str)&&gP sc q.1&&Γ.bs.contains q.1&&r.1==("set":Str)&&gP sc r.1&&Γ.bs.contains r.1&&bp Γ N sc a w)|.get a k,p=>(DT p).any λq=>(Qp q.1).any λr=>(eJ q.2.1).any λD=>q.2.2.1.isEmpty&&r.2.1==("get":Str)&&r.2.2.endLine==q.2.2.2.line&&L5 r.1&&bp Γ N sc a r.1&&bp Γ N sc k D|.mB a,p=>nq Γ ((DT p).any λq=>(eY q.1).any λf=>(eJ q.2.1).any λw=>(OA q.2.2.1).any λr=>(Qq r.2).any λc=>f==("min":Str)&&gP sc f&&Γ.bs.contains f&&r.1==("default":Str)&&WM c&&bp Γ N sc a w)
noncomputable def iQ(Γ:Pg)(N:List Str)(sc:hZ):Es->List hI->Bool
 |.nil,[]=>gS|.cons e es,p::ps=>bp Γ N sc e p&&iQ Γ N sc es ps|_,_=>gU
noncomputable def zi(Γ:Pg)(N:List Str)(sc:hZ)(g:Str)(idx a:List Nat):Es->List hI->Bool
 |.nil,ps=>(eJ ps).any λp=>(WB p).any λl=>JD g idx l.1 l.2.1 l.2.2&&decide (a.map (λi=>N[i]?)=(bH l.2.2).map gF)&&((bH l.2.2).all λy=>decide (sc.names.lookup y=gF .cell))|.cons e es,p::ps=>bp Γ N sc e p&&zi Γ N sc g idx a es ps|_,_=>gU
noncomputable def MS(Γ:Pg)(N:List Str)(sc:hZ):Oe->Option hI->Bool
 |.no,gK=>gS|.some e,gF p=>bp Γ N sc e p|_,_=>gU
noncomputable def Bx(Γ:Pg)(N:List Str)(sc:hZ)(c:hI):I->hI->Bool
 |.seq e,p=>bp Γ N sc e p|.qC e,p=>(zg p).any λq=>(eJ q.2).any λr=>q.1==("range":Str)&&gP sc q.1&&Γ.bs.contains q.1&&bp Γ N sc e r|.uu a b,p=>(zg p).any λq=>(yP q.2).any λr=>q.1==("range":Str)&&gP sc q.1&&Γ.bs.contains q.1&&bp Γ N sc a r.1&&bp Γ N sc b r.2|.enum e,p=>(zg p).any λq=>(eJ q.2).any λr=>isTup c&&q.1==(zu 6:Str)&&gP sc q.1&&Γ.bs.contains q.1&&bp Γ N sc e r
end
set_option backward.match.sparseCases true
abbrev XE(W:Wd)(c:Str)(b d:Hp):XK:=λe f g=>∃C a h,e=.ref C/\f=gF a/\c∈W.xs/\W.mg c=gF (.ref C)/\aE W b d h g
def uV(X:Cx)(W:Wd)(g:St)(c:Str)(G H:Hp):Prop:=∀(h:ke) (b a:Hp) (d:hD) (e:hB) (f:hD),Inv X h g a d->aE W G H b a->eP X.prog X.w X.stack a d (XE W c b a) e f->X.xe e f
def Out{b:Type}(X:Cx)(W:Wd)(r:Res b)(d:St)(G H:Hp)(k:b->Prop):Prop:=match r with
 |.ok a=>k a|.exc c=>uV X W d c G H|.bad=>False
section
variable{W:Wd}{F:aL}{G1 H1:Hp}{α β:Type}
def uV.grow{c:Str}(h:uV X W σ c G H)(g:aE W G H G1 H1):uV X W σ c G1 H1:=λa b d f e i I j x=>h a b d f e i I (g.trans j) x
def Out.grow{r:Res α}{k:α->Prop}(h:Out X W r σ G H k)(g:aE W G H G1 H1):Out X W r σ G1 H1 k:=by
 cases r with
 |ok a=>exact h|exc c=>exact uV.grow h g|bad=>exact h
def Out.imp{r:Res α}{k b:α->Prop}(h:Out X W r σ G H k)(i:∀a,k a->b a):Out X W r σ G H b:=by
 cases r with
 |ok a=>exact i a h|exc c=>exact h|bad=>exact h
def Out.bind{r:Res α}{f:α->Res β}{k:β->Prop}(h:Out X W (r.bind f) σ G H k):Out X W r σ G H λa=>Out X W (f a) σ G H k:=by
 cases r with
 |ok a=>exact h|exc c=>exact h|bad=>exact h
def Out.val{r:Res α}{k:α->Prop}(h:Out X W r σ G H k)(n:∀c,r≠.exc c):∃a,r=.ok a/\k a:=by
 cases r with
 |ok a=>exact⟨a,rfl,h⟩|exc c=>exact absurd rfl (n c)|bad=>exact h.elim
structure Got(W:Wd)(H0 G H:Hp)(e:E)(p:PV)(v:V):Prop where
 top:Top W H0 G H p v
 rep:iH e=gS->Rep W G p v
def Got.of{e:E}(h:Rep W G p v):Got W H0 G H e p v:={.inl h,λZ=>h}
abbrev tE(X:Cx)(W:Wd)(F:aL)(e:E):TE:=λσ H Q=>∃b G env,SR W b env σ G H/\Out X W (aJ F e env) σ G H λp=>∀v c a,aE W G H c a->Got W b c a e p v->Q v a
abbrev tT(X:Cx)(W:Wd)(F:aL)(e:E):TT:=λσ H Q=>∃c G env,SR W c env σ G H/\Out X W (aJ F e env) σ G H λp=>∃b,p=.bl b/\∀d a,aE W G H d a->Q b a
structure QP(W:Wd)(H0 G H:Hp)(es:Es)(ps:List PV)(vs:List V):Prop where
 top:Paired (λv p=>Top W H0 G H p v) vs ps
 rep:iB es=gS->aq W G ps vs
abbrev tA(X:Cx)(W:Wd)(F:aL)(es:Es):TA:=λσ H Q=>∃b G env,SR W b env σ G H/\Out X W (cQ F es env) σ G H λps=>∀c d a,aE W G H d a->QP W b d a es ps c->Q c a
abbrev Hg(X:Cx)(W:Wd)(F:aL)(o:Oe):TO:=λσ H Q=>∃b G env,SR W b env σ G H/\Out X W (zL F o env) σ G H λi=>∀c a,aE W G H c a->Q i a
def one{e:E}{f:PV->Res β}{k:β->Prop}(a:SR W H0 env σ G H)(o:Out X W ((aJ F e env).bind f) σ G H k)
 (h:∀p v G1 H1,aE W G H G1 H1->Got W H0 G1 H1 e p v->SR W H0 env σ G1 H1->Out X W (f p) σ G1 H1 k->Q v H1):tE X W F e σ H Q:=
 {H0,G,env,a,o.bind.imp λp b v G1 H1 g t=>h p v G1 H1 g t (a.grow g) (b.grow g)}
def J5{e:E}{f:Bool->Res β}{k:β->Prop}{Q:Bool->Hp->Prop}(c:SR W H0 env σ G H)(o:Out X W ((aJ F e env).bind λp=>ny p f) σ G H k)
 (h:∀b G1 H1,aE W G H G1 H1->SR W H0 env σ G1 H1->Out X W (f b) σ G1 H1 k->Q b H1):tT X W F e σ H Q:=by
 refine{H0,G,env,c,o.bind.imp λp a=>?_}
 cases p with
 |bl b=>exact{b,rfl,λG1 H1 g=>h b G1 H1 g (c.grow g) (Out.grow a g)}|aC=>exact eu a|int _=>exact eu a|str _=>exact eu a|tup _=>exact eu a|lst _=>exact eu a|exc _=>exact eu a|aY _ _=>exact eu a
def args{es:Es}{f:List PV->Res β}{k:β->Prop}{Q:List V->Hp->Prop}(a:SR W H0 env σ G H)(o:Out X W ((cQ F es env).bind f) σ G H k)
 (h:∀ps vs G1 H1,aE W G H G1 H1->QP W H0 G1 H1 es ps vs->SR W H0 env σ G1 H1->Out X W (f ps) σ G1 H1 k->Q vs H1):tA X W F es σ H Q:=
 {H0,G,env,a,o.bind.imp λp b v G1 H1 g t=>h p v G1 H1 g t (a.grow g) (b.grow g)}
def Got.grow{a b:Hp}{e:E}(h:Got W H0 G H e p v)(g:aE W G H a b):Got W H0 a b e p v:={h.top.grow g,λz=>Rep.same g.g p (h.rep z)}
def Du(W:Wd)(G:Hp):Option (Str×List Nat)->List PV->List V->Prop
 |none,as,vs=>aq W G as vs|some q,as,vs=>∃xf a b v,as=xf++a/\vs=b++[v]/\aq W G xf b/\su W G q.1 q.2 a v
abbrev Dt(W:Wd)(F:aL)(f:Str)(n:Nat)(q:Option (Str×List Nat)):Sp:=λb H Q E=>b.length=n/\∃G as,aB G H/\cY W G H/\Du W G q as b/\(match F f as with
 |.ok p=>∀v d a,aE W G H d a->Rep W d p v->Q v a|.exc c=>∀e g a,XE W c G H e g a->E e g a|.bad=>False)
structure Dw(X:Cx)(W:Wd)(F:aL)(k:Nat)(f:Str):Prop where
 ex:∃fa fd ps,iK X.prog X.w X.K X.mg X.base (eP X.prog X.w) k fa fd ps (Dt W F f ps.length gK)/\X.mg f=gF (.ref fa)/\PySem.W.keepIn X.K (.ref fa)=gS/\Binds X.K fd ps []/\∀as,F f as≠.bad->as.length=ps.length
structure QL(X:Cx)(W:Wd)(F:aL)(k:Nat)(q:Hs):Prop where
 ex:∃fa fd ps,iK X.prog X.w X.K X.mg X.base (eP X.prog X.w) k fa fd ps (Dt W F q.f ps.length (gF (q.g,q.idx)))/\X.mg q.h=gF (.ref fa)/\PySem.W.keepIn X.K (.ref fa)=gS/\Binds X.K fd ps []/\ps.length=q.np
structure dO(Γ:Pg)(F:aL)(W:Wd)(N:List Str)(sc:hZ)(k:Nat)(X:Cx):Prop where
 hN:X.N=N
 fH:X.env.scope=sc
 calm:Γ.qt=gU->X.calm=gS
 nd:N.Nodup
 K:W.K=X.K
 mg:W.mg=X.mg
 gs:∀q∈Γ.gs,∃u v,X.mg q.1=gF u/\RelV v u/\∀G,Rep W G q.2 v
 bs:∀g∈Γ.bs,X.mg g=gK
 room:eh (k+1) X.A
 fns:∀f,Γ.fs.contains f=gS->Dw X W F k f
 QE:Γ.cs.contains (zu 0)=gU
 cls:∀c∈Γ.cs,∃C,X.mg c=gF (.ref C)
 xc:∀d∈W.xs,∀D,X.mg d=gF (.ref D)->oh X.K D/\(∀c∈Γ.cs,∀C,X.mg c=gF (.ref C)->PySem.W.kitOne X.K (.ref D) (.ref C)=gF (c==d||c==(zu 12)))/\PySem.W.kitOne X.K (.ref D) (.type (zu 0))=gF gS
 vL:∀q∈Γ.hs,QL X W F k q
 UZ:∀f,Γ.qs.contains f=gS->2<=k/\Dw X W F 2 f
 any:∀g as,F g as≠.bad->Γ.fs.contains g=gS\/i6 g=gS
 tb:Γ.hl=gS->∃c P,X.env.code=.ref c/\PySem.W.CodeHd X.base c P/\(P,X.env.qual++(zu 13))∈W.ts/\∀q',(P,q')∈W.ts->q'=X.env.qual++(zu 13)
 bm:Γ.hl=gS->Dv X.mg X.base
 fl:Γ.hl=gS->∀x,X.fn x=gS
variable{Γ:Pg}{sc:hZ}{k:Nat}
def qg(C:zv3 X)(h:fK sc x=gS):Qn X.env.scope x:=by
 rw [C.fH];unfold fK f6 at h;simp! [eU,zzy] at h;rcases h with(h|h)|h
 .exact .inl h
 .exact .inr (.inl h)
 .exact .inr (.inr h)
def dI(C:zv3 X){x:Str}(h:gP sc x=gS):Gl X x:=by show X.env.scope.names.lookup x=_;rw [C.fH];exact zzy.mp h
def dn(h:okN x=gS):(x==(zu 29:Str))=gU/\(x==(zu 51:Str))=gU/\x≠(zu 46):=by unfold okN at h;simp! [zza,Bool.not_eq_true',beq_eq_false_iff_ne] at h;exact{beq_eq_false_iff_ne.mpr h.1.1,beq_eq_false_iff_ne.mpr h.1.2,h.2}
noncomputable abbrev GE(X:Cx)(W:Wd)(F:aL)(e:E)(p:hI):Prop:=PE X p (tE X W F e)
noncomputable abbrev GT(X:Cx)(W:Wd)(F:aL)(e:E)(p:hI):Prop:=PT X p (tT X W F e)
noncomputable abbrev GW(X:Cx)(W:Wd)(F:aL)(e:E)(p:hI):Prop:=PW X p (tT X W F e)
def _root_.L2.PE.imp{p:hI}{t t':TE}(h:PE X p t)(i:∀σ H Q,t' σ H Q->t σ H Q):PE X p t':=λa s σ H Q I b=>h a s σ H Q I (i σ H Q b)
def _root_.L2.PT.imp{p:hI}{t t':TT}(h:PT X p t)(i:∀σ H Q,t' σ H Q->t σ H Q):PT X p t':=λa s σ H Q I b=>h a s σ H Q I (i σ H Q b)
def _root_.L2.PW.imp{p:hI}{t t':TT}(h:PW X p t)(i:∀σ H Q,t' σ H Q->t σ H Q):PW X p t':=λw a s σ H Q I b=>h w a s σ H Q I (i σ H Q b)
def _root_.L2.PA.imp{p:List hI}{t t':TA}(h:PA X p t)(i:∀σ H Q,t' σ H Q->t σ H Q):PA X p t':=λa b s σ H Q I c=>h a b s σ H Q I (i σ H Q c)
def Mn{e:E}(σ:St)(H:Hp)(Q:Bool->Hp->Prop)(h:tT X W F e σ H Q):tB (tE X W F e) σ H Q:=by let(a,G,env,c,o):=h;refine{a,G,env,c,o.imp λp d v f i g t=>?_};let(b,rfl,q):=d;exact{b,t.top.bl,q f i g}
def w4{e:E}(σ:St)(H:Hp)(Q:Bool->Hp->Prop)(h:tT X W F e σ H Q):Hh (tE X W F e) σ H Q:=Mn σ H Q h
def zT{i:Nat}(b:X.N[i]?=gF x)(c:Qn X.env.scope x)(h:okN x=gS):GE X W F (.var i) (.Name x pos):=by
 let(d,f,m):=dn h;refine(f7 (i:=i) b c d f).imp λσ H Q g=>?_;let(q,G,env,a,o):=g;replace o:Out X W (pY env[i]?) σ G H _:=o
 cases e:env[i]? with
 |none=>rw [e] at o;exact o.elim|some j=>
  cases j with
  |no=>rw [e] at o;exact o.elim|fn _ _ _=>rw [e] at o;exact o.elim|Dl _=>rw [e] at o;exact o.elim|own p=>rw [e] at o;exact o.elim|val p=>rw [e] at o;let(s,hs,v,rfl,r):=a.slot i _ e;exact{v,hs,o v G H (.refl a.sub) (.of r)}
def NK(C:zv3 X){i:Nat}(h:(N[i]?==gF x&&fK sc x&&okN x)=gS):GE X W F (.var i) (.Name x pos):=by simp! [zza,zzy] at h;exact zT (by rw [C.hN];exact h.1.1) (qg C h.1.2) h.2
def NI(C:zv3 X){i:Nat}(h:(N[i]?==gF x&&fK sc x&&okN x)=gS):GE X W F (.fG i) (.Name x pos):=by
 simp! [zza,zzy] at h;let(b,c,j):=dn h.2;refine(f7 (i:=i) (by rw [C.hN];exact h.1.1) (qg C h.1.2) b c).imp λσ H Q d=>?_;let(m,G,env,a,o):=d;replace o:Out X W (AV env[i]?) σ G H _:=o
 cases e:env[i]? with
 |none=>rw [e] at o;exact o.elim|some f=>
  cases f with
  |no=>rw [e] at o;exact o.elim|fn _ _ _=>rw [e] at o;exact o.elim|Dl _=>rw [e] at o;exact o.elim|own p=>rw [e] at o;let(g,hs,v,rfl,r):=a.slot i _ e;exact{v,hs,o v G H (.refl a.sub) {.inr r,nofun}}|val p=>rw [e] at o;let(g,hs,v,rfl,r):=a.slot i _ e;exact{v,hs,o v G H (.refl a.sub) (.of r)}
def lE(h:PE X e (tC v))(r:∀G,Rep W G p v):GE X W F (.cst p) e:=by refine L2.PE.imp h λσ H Q a=>?_;let(c,G,env,b,o):=a;exact o v G H (.refl b.sub) (.of (r G))
def IU(C:zv3 X)(h:(g==x&&gP sc x&&okN x&&Γ.gs.any λq=>q.1==g&&Fi q.2 p)=gS):GE X W F (.glob g p) (.Name x pos):=by simp! [zza,zzy,et] at h;let(((rfl,b),c),q,a,d,e):=h;let(u,v,hm,f,i):=C.gs q a;rw [d] at hm;cases Fj e;refine(AA (dI C b) hm f (dn c).1).imp λσ H Q a=>?_;let(m,G,env,j,o):=a;exact o v G H (.refl j.sub) (.of (i G))
def Res.aW{α:Type}{o:Option α}(c:Str):Res.of o≠.exc c:=by cases o<;>exact nofun
def qj{α β:Type}{o:Option α}{f:α->Res β}{c:Str}(h:∀a,f a≠.exc c):(Res.of o).bind f≠.exc c:=by
 cases o with
 |none=>exact nofun|some a=>exact h a
def wm{f:Int->Int->Res PV}{c:Str}(h:∀i j,f i j≠.exc c):ii f p q≠.exc c:=by
 unfold ii;split
 .exact h _ _
 .exact nofun
def wj{a:Prop} [Decidable a]{c:Str}:(if a then Res.ok p else .bad)≠.exc c:=by split<;>exact nofun
def qB{o:Mr}(c:Str):binOp o p q≠.exc c:=by
 cases o with
 |add=>
  show DF p q≠_;unfold DF;split
  .exact wj
  .exact wm λi j=>nofun
 |sub=>exact wm λi j=>nofun|mul=>
  show Ft p q≠_;unfold Ft;split
  .exact wj
  .exact wm λi j=>wj
 |mod=>exact wm λi j=>wj|fdiv=>exact wm λi j=>wj
local macro_rules|`(tactic|ac_rfl)=>`(tactic|repeat' first|split|refine qj fun _=>?_|exact Res.aW _|exact nofun)
def JT(c:Str):fJ p q≠.exc c:=by
 unfold fJ
 ac_rfl
def JZ(c:Str):gE p q≠.exc c:=by
 unfold gE
 ac_rfl
def JY(c:Str):wA p q≠.exc c:=by
 unfold wA
 ac_rfl
def JX(c:Str):wy p q≠.exc c:=by
 unfold wy
 ac_rfl
def JU(c:Str):ym p q≠.exc c:=by
 unfold ym
 ac_rfl
def JW(c:Str):mG p q≠.exc c:=by
 unfold mG
 ac_rfl
def FF(c:Str):iZ p q≠.exc c:=by
 unfold iZ
 ac_rfl
def JV(c:Str):ue p q≠.exc c:=by
 unfold ue
 ac_rfl
def FG(c:Str):eR p q≠.exc c:=by
 unfold eR
 ac_rfl
def ef{o:Dx}(c:Str):er o p q≠.exc c:=match o with
 |.eq=>JT c|.ne=>JZ c|.lt=>JY c|.le=>JX c|.gt=>JU c|.is=>JW c|.EW=>FF c|.xW=>JV c|.jV=>FG c
def two{a:PV->PV->Res PV}{b d:E}{e:E}(g:∀p q c,a p q≠.exc c)(he:∀env,aJ F e env=(aJ F b env).bind λx=>(aJ F d env).bind λy=>a x y)
 (h:tE X W F e σ H Q):QI (xm W a) (tE X W F b) (tE X W F d) σ H Q:=by
 let(i,G,env,j,o):=h;rw [he] at o;refine one j o λp v G1 H1 m s t z=>one t z λq u A R f B C D=>?_;let(r,I,K):=D.val (g p q);exact{i,A,p,q,r,C.sub,s.top.grow f,B.top,I,λw L M O P=>K w L M ((m.trans f).trans O) (.of P)}
def IQ(hK:W.K=X.K){o:Mr}{a b:E}{d:hI}(f:GE X W F a d)(g:GE X W F b e):GE X W F (.bin o a b) (.BinOp d (UY o) e pos):=
 (S4 (OY hK o) f g).imp λσ H Q h=>two (λp q c=>qB c) (λenv=>by rw [aJ]) h
def Nw(C:zv3 X){o:Mr}{a b:E}{c d:hI}(e:GE X W F a c)(f:GE X W F b d):GE X W F (.bin o a b) (.BinOp c (UY o) d pos):=IQ C.K e f
def Nz(C:zv3 X){o:Dx}{a b:E}{d:hI}(f:GE X W F a e)(g:GE X W F b d)(hm:behindInMarks (uP o) d=gU):GE X W F (.cmp o a b) (.Compare e [uP o] [d] pos):=
 (Kd (jm C.K C.room.units o) f g hm).imp λσ H Q h=>two (λp q c=>ef c) (λenv=>by rw [aJ]) h
theorem NV(C:zv3 X){o:Dx}{a b:E}{d:hI}(f:GE X W F a e)(g:GE X W F b d)(hm:behindInMarks (uP o) d=gU):GT X W F (.cmp o a b) (.Compare e [uP o] [d] pos):=
 (Kr (jm C.K C.room.units o) f g hm).imp λσ H Q h=>by have i:=w4 σ H Q h;exact two (λp q c=>ef c) (λenv=>by rw [aJ]) i
def LD{B f:Dx}{a b c:E}(σ:St)(H:Hp)(Q:VK)(h:tE X W F (.ch B f a b c) σ H Q):yH (xm W (er B)) (xm W (er f)) (tE X W F a) (tE X W F b) (tE X W F c) σ H Q:=by
 let(C,G,env,P,o):=h;rw [aJ] at o;refine one P o λp v G1 H1 D R S T=>one S T λq u g I i K L U=>?_;let(r,V,d):=U.bind.val (ef);refine{C,g,p,q,r,L.sub,R.top.grow i,K.top,V,λw Y Z e M=>?_}
 cases r with
 |bl t=>
  simp! [Rep] at M;subst M;refine{t,rfl,?_};cases t with
  |false=>rw [if_neg zzf];have j:Out X W (Res.ok (PV.bl gU)) σ g I _:=d;exact j _ Y Z ((D.trans i).trans e) (.of .b)|true=>rw [if_pos rfl];have j:Out X W ((aJ F c env).bind λz=>er f q z) σ g I _:=d;refine one (L.grow e) (j.grow e) λz y G4 H4 O t4 PN o4=>?_;let(r4,m,s):=o4.val (ef);exact{C,G4,q,z,r4,PN.sub,K.top.grow (e.trans O),t4.top,m,λw G5 H5 g5 A=>s w G5 H5 ((((D.trans i).trans e).trans O).trans g5) (.of A)}
 |aC=>exact eu d|int _=>exact eu d|str _=>exact eu d|tup _=>exact eu d|lst _=>exact eu d|exc _=>exact eu d|aY _ _=>exact eu d
def RE(C:zv3 X){d e:Dx}{a b c:E}{h f g:hI}(i:GE X W F a h)(j:GE X W F b f)(m:GE X W F c g)(hm:lastMarks [uP d,uP e] [f,g]=gU):GE X W F (.ch d e a b c) (.Compare h [uP d,uP e] [f,g] pos):=
 (FQ (jm C.K C.room.units d) (jm C.K C.room.units e) i j m hm).imp LD
def RG(C:zv3 X){d e:Dx}{a b c:E}{i f g:hI}(j:GE X W F a i)(m:GE X W F b f)(o:GE X W F c g)(hm:lastMarks [uP d,uP e] [f,g]=gU):GT X W F (.ch d e a b c) (.Compare i [uP d,uP e] [f,g] pos):=
 (Gm (jm C.K C.room.units d) (jm C.K C.room.units e) j m o hm).imp λσ H Q h=>LD σ H _ (w4 σ H Q h)
theorem NF{a:E}{c:hI}(d:GE X W F a c):GE X W F (.neg a) (.UnaryOp .USub c pos):=
 (S6 (Lh (W:=W)) d).imp λσ H Q h=>by
  let(e,G,env,f,o):=h;rw [aJ] at o;refine one f o λp v G1 H1 g j m b=>?_
  cases p with
  |int i=>exact{e,G1,i,m.sub,j.top,λw q r s t=>b w q r (g.trans s) (.of t)}|bl _=>exact eu b|aC=>exact eu b|str _=>exact eu b|tup _=>exact eu b|lst _=>exact eu b|exc _=>exact eu b|aY _ _=>exact eu b
theorem NG{a:E}{d:hI}(e:GE X W F a d):GE X W F (.not a) (.UnaryOp .Not d pos):=
 (Ph e).imp λσ H Q h=>by
  let(j,G,env,f,o):=h;rw [aJ] at o;refine one f o λp v G1 H1 g i m c=>?_
  cases p with
  |bl b=>exact{b,i.top.bl,c _ G1 H1 g (.of .b)}|int _=>exact eu c|aC=>exact eu c|str _=>exact eu c|tup _=>exact eu c|lst _=>exact eu c|exc _=>exact eu c|aY _ _=>exact eu c
theorem NW{a:E}{c:hI}(d:GT X W F a c):GT X W F (.not a) (.UnaryOp .Not c pos):=
 (Pr d).imp λσ H Q h=>by let(j,G,env,f,o):=h;rw [aJ] at o;refine J5 f o λb G1 H1 g m i=>?_;let(p,e,q):=i;cases e;exact q G1 H1 g
theorem Em{a b:E}{f:hI}{r:List hI}(he:iH b=gS)(i:GE X W F a e)(j:GE X W F b (.BoolOp .And (f::r) pos)):GE X W F (.and a b) (.BoolOp .And (e::f::r) pos):=
 (Pd i j).imp λσ H Q h=>by
  let(m,G,env,q,o):=h;rw [aJ] at o;refine one q o λp v G1 H1 g s u c=>?_
  cases p with
  |bl t=>
   refine{t,s.top.bl,?_};cases t with
   |true=>rw [if_pos rfl];have d:Out X W (aJ F b env) σ G1 H1 _:=c;exact{m,G1,env,u,d.imp λp w v y z A B=>w v y z (g.trans A) (.of (B.rep he))}|false=>rw [if_neg zzf];have d:Out X W (Res.ok (PV.bl gU)) σ G1 H1 _:=c;exact d _ G1 H1 g (.of .b)
  |int _=>exact eu c|aC=>exact eu c|str _=>exact eu c|tup _=>exact eu c|lst _=>exact eu c|exc _=>exact eu c|aY _ _=>exact eu c
theorem LO{a b:E}{f:hI}{r:List hI}(he:iH b=gS)(i:GE X W F a e)(j:GE X W F b (.BoolOp .Or (f::r) pos)):GE X W F (.or a b) (.BoolOp .Or (e::f::r) pos):=
 (S5 i j).imp λσ H Q h=>by
  let(m,G,env,q,o):=h;rw [aJ] at o;refine one q o λp v G1 H1 g s u c=>?_
  cases p with
  |bl t=>
   refine{t,s.top.bl,?_};cases t with
   |false=>rw [if_neg zzf];have d:Out X W (aJ F b env) σ G1 H1 _:=c;exact{m,G1,env,u,d.imp λp w v y z A B=>w v y z (g.trans A) (.of (B.rep he))}|true=>rw [if_pos rfl];have d:Out X W (Res.ok (PV.bl gS)) σ G1 H1 _:=c;exact d _ G1 H1 g (.of .b)
  |int _=>exact eu c|aC=>exact eu c|str _=>exact eu c|tup _=>exact eu c|lst _=>exact eu c|exc _=>exact eu c|aY _ _=>exact eu c
theorem Ez{a b:E}{d f:hI}{r:List hI}(j:GT X W F a d)(m:GW X W F b (.BoolOp .And (f::r) pos)):GW X W F (.and a b) (.BoolOp .And (d::f::r) pos):=
 (pw_and j m).imp λσ H Q h=>by
  let(s,G,env,u,o):=h;rw [aJ] at o;refine J5 u o λt G1 H1 g w i=>?_
  cases t with
  |true=>rw [if_pos rfl];have y:Out X W (aJ F b env) σ G1 H1 _:=i;exact{s,G1,env,w,y.imp λp z=>by let(c,rfl,q):=z;exact{c,rfl,λA B C=>q A B (g.trans C)}}|false=>rw [if_neg zzf];let(c,e,q):=(show Out X W (Res.ok (PV.bl gU)) σ G1 H1 _ from i);cases e;exact q G1 H1 g
theorem LP{a b:E}{d f:hI}{r:List hI}(j:GT X W F a d)(m:GW X W F b (.BoolOp .Or (f::r) pos)):GW X W F (.or a b) (.BoolOp .Or (d::f::r) pos):=
 (pw_or j m).imp λσ H Q h=>by
  let(s,G,env,u,o):=h;rw [aJ] at o;refine J5 u o λt G1 H1 g w i=>?_
  cases t with
  |false=>rw [if_neg zzf];have y:Out X W (aJ F b env) σ G1 H1 _:=i;exact{s,G1,env,w,y.imp λp z=>by let(c,rfl,q):=z;exact{c,rfl,λA B C=>q A B (g.trans C)}}|true=>rw [if_pos rfl];let(c,e,q):=(show Out X W (Res.ok (PV.bl gS)) σ G1 H1 _ from i);cases e;exact q G1 H1 g
theorem NC{c a b:E}{r s u:hI}(d:iH a=gS)(e:iH b=gS)(B:GT X W F c r)(C:GE X W F a s)(D:GE X W F b u):GE X W F (.ite c a b) (.IfExp r s u pos):=
 (FV B C D).imp λσ H Q h=>by
  let(w,G,env,I,o):=h;rw [aJ] at o;refine J5 I o λt G1 H1 y z A=>?_
  cases t with
  |true=>rw [if_pos rfl];have f:Out X W (aJ F a env) σ G1 H1 _:=A;exact{w,G1,env,z,f.imp λp g v i j m q=>g v i j (y.trans m) (.of (q.rep d))}|false=>rw [if_neg zzf];have f:Out X W (aJ F b env) σ G1 H1 _:=A;exact{w,G1,env,z,f.imp λp g v i j m q=>g v i j (y.trans m) (.of (q.rep e))}
abbrev tF(X:Cx)(W:Wd)(F:aL)(e:E):TE:=λσ H Q=>∃f G env,SR W f env σ G H/\Out X W (aJ F e env) σ G H λp=>∃xs,p=.lst xs/\∀a c d b,aE W G H d b->b a=gK->aq W d xs c->Q (.ref a) (upd b a (.lst c))
noncomputable abbrev GF(X:Cx)(W:Wd)(F:aL)(e:E)(p:hI):Prop:=PE X p (tF X W F e)
theorem GF.ge{e:E}{p:hI}(h:GF X W F e p)(hl:∀env q,aJ F e env=.ok q->∃xs,q=.lst xs):GE X W F e p:=
 L2.PE.imp h λσ H Q d=>by
  let(f,G,env,i,o):=d
  refine{f,G,env,i,?_};cases r:aJ F e env with
  |bad=>rw [r] at o;exact o|exc c=>rw [r] at o;exact o|ok q=>rw [r] at o;let(xs,rfl):=hl env q r;exact{xs,rfl,λa j m s g b l=>o _ _ _ (g.trans (.new g.sub b)) (.of (.l (.inl (.inl av)) (aq.same (bD (g.sub.free b)) xs l)))}
def notStar{e:E}{p:hI}(h:bp Γ N sc e p=gS):∀env ps,starEach (p::ps) env=(gU,eval p env)::starEach ps env:=by
 intro env ps;cases p<;>first|rfl|(cases e<;>first|(exact aP h)|(rename_i q;cases q<;>exact aP h))
theorem fF:∀{es:Es} {ps:List hI},iQ Γ N sc es ps=gS->∀env pos,(backTo pos (starEach ps env)).any (·.1)=gU
 |.nil,[],_,_,_=>rfl|.cons e es,p::ps,h,env,pos=>by replace h:=az h;rw [notStar h.1];show(gU||(backTo pos (starEach ps env)).any (·.1))=gU;rw [fF h.2];rfl
 |.nil,_::_,h,_,_=>aP h|.cons _ _,[],h,_,_=>aP h
noncomputable abbrev GA(X:Cx)(W:Wd)(F:aL)(es:Es)(ps:List hI):Prop:=PA X ps (tA X W F es)
theorem El:GA X W F .nil []:=L2.PA.imp dE λσ H Q h=>by let(b,G,env,a,o):=h;rw [cQ] at o;exact o [] G H (.refl a.sub) {.nil,λZ=>.nil}
theorem zS{e:E}{es:Es}{p:hI}{ps:List hI}(he:GE X W F e p)(hs:GA X W F es ps)(d:starEach (p::ps) X.env=(gU,eval p X.env)::starEach ps X.env):GA X W F (.cons e es) (p::ps):=
 L2.PA.imp (bQ he hs d) λσ H Q h=>by let(w,G,env,f,o):=h;rw [cQ] at o;refine one f o λq v G1 H1 i b j m=>args j m λqs r s t a c y u=>?_;refine u (v::r) s t (i.trans a) {.cons (b.top.grow a) c.top,λz=>?_};unfold iB at z;rw [zza] at z;exact .cons (Rep.same a.g q (b.rep z.1)) (c.rep z.2)
theorem ly:∀{es:Es} {env:Sl} {ps:List PV},cQ F es env=.ok ps->ps.length=iY es
 |.nil,env,ps,h=>by rw [cQ] at h;cases h;rfl
 |.cons e es,env,ps,h=>by rw [cQ] at h;let(p,_,h):=Res.bu h;let(qs,a,h):=Res.bu h;cases h;rw [cu,ly a];rfl
theorem NJ{es:Es}{ps:List hI}{e:Nat}(f:iB es=gS)(hl:iY es<1000)(h:GA X W F es ps):GE X W F (.tup es) (.Tuple ps e pos):=
 L2.PE.imp (Pj h) λσ H Q g=>by
  let(i,G,env,j,o):=g;rw [aJ] at o;have m:=o
  refine{i,G,env,j,?_};cases r:cQ F es env with
  |bad=>rw [r] at o;exact o|exc c=>rw [r] at o;exact o|ok qs=>rw [r] at o;have a:=ly r;intro q G1 H1 b t;have l:=t.rep f;refine{by rw [l.length,a];exact Nat.le_of_lt (Nat.lt_trans hl (by decide)),λp d=>?_};exact o _ _ _ (b.trans (.new b.sub d)) (.of (.t (.inl av) (aq.same (bD (b.sub.free d)) qs l)))
theorem Er{es:Es}{ps:List hI}(b:iB es=gS)(hl:iY es<1000)(h:GA X W F es ps):GF X W F (.lst es) (.List ps pos):=
 L2.PE.imp (Pf h) λσ H Q d=>by
  let(f,G,env,g,o):=d
  rw [aJ] at o;refine{f,G,env,g,?_};cases r:cQ F es env with
  |bad=>rw [r] at o;exact o|exc c=>rw [r] at o;exact o|ok qs=>rw [r] at o;have a:=ly r;let(xs,e,o):=o;cases e;intro i G1 H1 j t;have l:=t.rep b;exact{by rw [l.length,a];exact Nat.le_of_lt (Nat.lt_trans hl (by decide)),λp m=>o p i G1 H1 j m l}
theorem lst_is{es:Es}:∀env q,aJ F (.lst es) env=.ok q->∃xs,q=.lst xs:=λenv q h=>by rw [aJ] at h;let(ps,_,h):=Res.bu h;cases h;exact{_,rfl}
def CA(c:Str):aG p q≠.exc c:=by
 unfold aG
 ac_rfl
def NH(C:zv3 X){a b:E}{d:hI}(f:GE X W F a e)(g:GE X W F b d)(hs:sC d):GE X W F (.sub a b) (.Subscript e d pos):=
 (L9 (Ww C.K C.room.units) f g hs).imp λσ H Q h=>two (λp q c=>CA c) (λenv=>by rw [aJ]) h
def F9{e:E}{p:hI}(h:bp Γ N sc e p=gS):sC p:=by
 intro o i;cases p<;>first|rfl|(cases e<;>first|(exact aP h)|(rename_i q;cases q<;>exact aP h))
def ud{e:E}{p:hI}(h:bp Γ N sc e p=gS)(a:CmpOp):behindInMarks a p=gU:=by
 cases p<;>first|rfl|(cases e<;>first|(exact aP h)|(rename_i q;cases q<;>exact aP h))
theorem Ja:PO X gK (Hg X W F .no):=λa s σ H Q I h=>Kl a s σ H Q I (by let(c,G,env,b,o):=h;rw [zL] at o;exact o G H (.refl b.sub))
theorem Jb{e:E}{p:hI}(h:GE X W F e p):PO X (gF p) (Hg X W F (.some e)):=λb s σ H Q I c=>Ko h b s σ H Q I (by
 let(j,G,env,d,o):=c;rw [zL] at o;refine one d o λq v G1 H1 f g m a=>?_
 cases q with
 |int i=>exact{i,g.top.int,a G1 H1 f}|bl _=>exact eu a|aC=>exact eu a|str _=>exact eu a|tup _=>exact eu a|lst _=>exact eu a|exc _=>exact eu a|aY _ _=>exact eu a)
def v8{a b:Option Int}(c:Str):eg p a b≠.exc c:=by
 unfold eg
 ac_rfl
theorem Ep(C:zv3 X){a:E}{i j:Oe}{m:hI}{pl q:Option hI}{s:Pos}(t:GE X W F a m)(hl:PO X pl (Hg X W F i))(u:PO X q (Hg X W F j)):GE X W F (.slice a i j) (.Subscript m (.Slice pl q gK s) pos):=
 (F0 (W9 C.K) t hl u).imp λσ H Q h=>by let(e,G,env,y,o):=h;rw [aJ] at o;refine one y o λp v G1 H1 z A f B=>?_;refine{e,G1,env,f,B.bind.imp λl D I U b=>?_};refine{e,I,env,f.grow b,(D.grow b).bind.imp λV g L Y d=>?_};let(r,M,O):=(g.grow d).val (λc=>v8 c);exact{e,L,p,r,((f.grow b).grow d).sub,A.top.grow (b.trans d),M,λw P R S T=>O w P R (((z.trans b).trans d).trans S) (.of T)}
def Kz{CX:Dh}{f:hF}{fd:FuncData}{ps:List Str}{sp:Sp}{E:XK}{s:hD}(b:iK X.prog X.w X.K X.mg X.base CX k f fd ps sp)(d:eh k X.A)(g:Binds X.K fd ps [])
 (i:∀e s',CX X.stack H s E e s'->X.xe e s') (I:zv2 s) (r:Vals vs us) (h:sp vs H Q E):zx7 X (call (.ref f) us) (EP X ae σ Q) X.xe s:=by
 have hl:us.length=ps.length:=by rw [<-r.length];exact b.len _ _ _ _ h
 have c:=g s us I.rN (by rw [gg];exact hl);rw [gg] at c;refine wpAny_call (codeAny_mono (b.run X.A X.stack s H {us,[]} us vs Q E d I.BK c r h) λr s' a=>?_)
 cases r with
 |error e=>exact i e s' a|ok fl=>
  cases fl with
  |ret u=>exact I.after a|next=>exact eu a|brk=>exact eu a|cont=>exact eu a
def Dy.imp{s s':hD}{E E':XK}{e:hB}(h:eP P w outer H s E e s')(i:∀C a b,E C a b->E' C a b):eP P w outer H s E' e s':=by let(a,C,t,c,b,B,rfl,F):=h;exact{a,C,t,c,b,B,rfl,{F.os,F.bare,F.aN,F.BQ,F.tn,F.tup,F.eQ,F.du,F.un,i _ _ _ F.ends}}
def oC(C:eh k X.A){f:Str}{i:hF}{fd:FuncData}{pn:List Str}{q:Option (Str×List Nat)}{s:hD}{as:List PV}
 (D:iK X.prog X.w X.K X.mg X.base (eP X.prog X.w) k i fd pn (Dt W F f pn.length q)) (L:Binds X.K fd pn []) (d:F f as≠.bad->vs.length=pn.length)
 (I:zv2 s) (j:aB G H) (tb:cY W G H) (l:Du W G q as vs) (r:Vals vs us) (o:Out X W (F f as) σ G H λp=>dP W G H p Q):zx7 X (call (.ref i) us) (EP X ae σ Q) X.xe s:=by
 have h:F f as≠.bad:=λz=>by rw [z] at o;exact o
 refine Kz (E:=λm u b=>∃c,F f as=.exc c/\XE W c G H m u b) D C L (λe M x=>?_) I r {d h,G,as,j,tb,l,?_}
 .cases z:F f as with
  |ok q=>let(a,S,t,vs,b,B,rfl,Fl):=x;let(c,g,_):=Fl.ends;rw [z] at g;cases g
  |exc c=>rw [z] at o;refine o ae G H s e M I (.refl j) (Dy.imp x λT a b y=>?_);let(U,g,y):=y;rw [z] at g;cases g;exact y
  |bad=>exact absurd z h
 .cases z:F f as with
  |ok q=>rw [z] at o;exact λv O b P R=>o v O b P R|exc c=>exact λm u b x=>⟨c,rfl,x⟩|bad=>exact absurd z h
def dO.rm(C:zv3 X):eh k X.A:=C.room.mono (Nat.le_succ k)
def IS(C:zv3 X){f:Str}{e:E}{es:Es}{p:hI}{ps:List hI}(i:Γ.fs.contains f=gS)(j:gP sc f=gS)(m:okN f=gS)(u:iB (.cons e es)=gS)(w:GA X W F (.cons e es) (p::ps))
 (y:starEach (p::ps) X.env=(gU,eval p X.env)::starEach ps X.env) (hpl:(backTo pos (starEach ps X.env)).any (·.1)=gU):GE X W F (.call f (.cons e es)) (.Call (.Name f np) (p::ps) [] pos):=by
 intro A s σ H Q I h;let(U,G,env,B,o):=h;rw [aJ] at o;let(V,fd,pn,D,hm,hk,K,a):=(C.fns f i).ex;refine wpAny_Call_Name_kw (ie I (dI C j) hm ?_ (dn m).1);refine PySem.W.callWith_K (h₀:=X.base) I.ok.mod.Su hk (cm (w pos A s σ H (λb H1=>∃G1 as,aB G1 H1/\cY W G1 H1/\aq W G1 as b/\Out X W (F f as) σ G1 H1 λp=>dP W G1 H1 p Q) I ?_) λY Z ⟨b,H1,d,r,q⟩=>{d.rN,?_}) y hpl
 .refine args B o λas b G1 H1 L t g c=>{G1,as,g.sub,g.tab,t.rep u,c.imp λp M v O P R S=>M v O P (L.trans R) (.of S)}
 .let(G1,as,T,tb,l,c):=q;exact oC C.rm D K (λz=>by rw [l.length];exact a as z) d T tb l r c
def En(C:zv3 X){f:Str}(e:Γ.fs.contains f=gS)(g:gP sc f=gS)(i:okN f=gS):GE X W F (.call f .nil) (.Call (.Name f np) [] [] pos):=by intro A s σ H Q I h;let(j,G,env,d,o):=h;rw [aJ,cQ] at o;let(B,fd,pn,m,hm,hk,r,a):=(C.fns f e).ex;refine wpAny_Call_Name_kw (ie I (dI C g) hm ?_ (dn i).1);refine PySem.W.callWith_K0 I.rN hk ?_;have t:Out X W (F f []) σ G H λp=>∀v c b,aE W G H c b->Got W j c b (.call f .nil) p v->Q v b:=o;exact oC (us:=[]) (vs:=[]) (as:=[]) (q:=gK) C.rm m r (λz=>a [] z) I d.sub d.tab (show aq W G [] [] from .nil) .nil (t.imp λp u v c b w y=>u v c b w (.of y))
def JQ{ps:List PV}(c:Str):xE ps≠.exc c:=by
 unfold xE
 ac_rfl
def JO{ps:List PV}(c:Str):DM ps≠.exc c:=by
 unfold DM
 ac_rfl
def JR{ps:List PV}(c:Str):DO ps≠.exc c:=by
 unfold DO
 ac_rfl
def JP{ps:List PV}(c:Str):DN ps≠.exc c:=by
 unfold DN
 ac_rfl
def JS{ps:List PV}(c:Str):DQ ps≠.exc c:=by
 unfold DQ
 ac_rfl
def CC{ps:List PV}(c:Str):ou ps≠.exc c:=by
 unfold ou
 ac_rfl
def yk{ps:List PV}(c:Str):kP ps≠.exc c:=by
 unfold kP
 ac_rfl
def wg{ps:List PV}(c:Str):kO ps≠.exc c:=by
 unfold kO
 ac_rfl
def CB{ps:List PV}(c:Str):oq ps≠.exc c:=by
 unfold oq
 ac_rfl
def yl{ps:List PV}(c:Str):lN ps≠.exc c:=by
 unfold lN
 ac_rfl
def CD{ps:List PV}(c:Str):pE ps≠.exc c:=by
 unfold pE
 ac_rfl
def Cu{b:B}{ps:List PV}(c:Str):dX b ps≠.exc c:=match b with
 |.len=>JQ c|.abs=>JO c|.max2=>JR c|.int=>JP c|.str=>JS c|.tuple=>CC c|.sorted=>yk c|.dict=>wg c|.rQ=>CB c
def Cy{m:M}{ps:List PV}(c:Str):Fs m ps≠.exc c:=match m with
 |.j7=>yl c|.index=>CD c
def Pe(C:zv3 X)(f:Γ.qt=gU)(b:B){es:List hI}{t:TA}(g:gP sc (bN b)=gS)(hm:Γ.bs.contains (bN b)=gS)(a:PA X (e::es) t)
 (he:starEach (e::es) X.env=(gU,eval e X.env)::starEach es X.env) (hpl:(backTo pos (starEach es X.env)).any (·.1)=gU):PE X (.Call (.Name (bN b) np) (e::es) [] pos) (U5 (Di W (dX b)) t):=by
 have c:=C.bs _ (eG.mp hm);have d:=dI C g;cases b
 case len=>exact eB (Bl C.K) d c PySem.boot_len a (he:=he) (hpl:=hpl)
 case abs=>exact eB Bh d c (by decide+kernel) a (he:=he) (hpl:=hpl)
 case max2=>exact eB (Bo (C.calm f)) d c (by decide+kernel) a (he:=he) (hpl:=hpl)
 case int=>exact d6 Bi d c (by decide+kernel) a (he:=he) (hpl:=hpl)
 case str=>exact d6 Bt d c (by decide+kernel) a (he:=he) (hpl:=hpl)
 case tuple=>exact d6 (vg C.K) d c (by decide+kernel) a (he:=he) (hpl:=hpl)
 case sorted=>exact eB (sU C.K (C.calm f)) d c (by decide+kernel) a (he:=he) (hpl:=hpl)
 case dict=>exact d6 (ve C.K (C.calm f) C.room.units) d c (by decide+kernel) a (he:=he) (hpl:=hpl)
 case rQ=>exact d6 (vf C.K (C.calm f)) d c (by decide+kernel) a (he:=he) (hpl:=hpl)
def MO{a:List PV->Res PV}{es:Es}{e:E}(b:∀ps c,a ps≠.exc c)(he:∀env,aJ F e env=(cQ F es env).bind λps=>a ps)(h:tE X W F e σ H Q):U5 (Di W a) (tA X W F es) σ H Q:=by let(d,G,env,f,o):=h;rw [he] at o;refine args f o λps z G1 H1 g t i j=>?_;let(r,m,p):=j.val (b ps);exact{d,G1,ps,r,i.sub,t.top,m,λw q s u y=>p w q s (g.trans u) (.of y)}
def Ny(C:zv3 X)(a:Γ.qt=gU)(b:B){es:Es}{ps:List hI}(d:gP sc (bN b)=gS)(hm:Γ.bs.contains (bN b)=gS)(f:GA X W F es (e::ps))
 (he:starEach (e::ps) X.env=(gU,eval e X.env)::starEach ps X.env) (hpl:(backTo pos (starEach ps X.env)).any (·.1)=gU):GE X W F (.blt b es) (.Call (.Name (bN b) np) (e::ps) [] pos):=
 (Pe C a b d hm f he hpl).imp λσ H Q h=>MO (λps c=>Cu c) (λenv=>by rw [aJ]) h
def FD{t:Ty}(c:Str):nu t p≠.exc c:=by cases p<;>exact nofun
def Pk(C:zv3 X)(t:Ty)(a:gP sc (Str.ofString (yQ t))=gS)(hm:Γ.bs.contains (Str.ofString (yQ t))=gS):PE X (.Name (Str.ofString (yQ t)) pos) (tC (.ty (yQ t))):=by
 have b:=C.bs _ (eG.mp hm);have c:=dI C a;cases t
 all_goals exact Ay c b (u:=.type _) (by decide+kernel) rfl (by decide+kernel) (by decide+kernel)
def RF(C:zv3 X){t:Ty}{a:E}{b:hI}{tp:Pos}(e:gP sc (zu 31)=gS)(f:Γ.bs.contains (zu 31)=gS)(g:gP sc (Str.ofString (yQ t))=gS)(hm:Γ.bs.contains (Str.ofString (yQ t))=gS)(i:GE X W F a b)
 (d:∀env ps,starEach (b::ps) env=(gU,eval b env)::starEach ps env):GE X W F (.ty t a) (.Call (.Name (zu 31) np) [b,.Name (Str.ofString (yQ t)) tp] [] pos):=by
 refine(eB (DV C.K t) (dI C e) (C.bs _ (eG.mp f)) (by decide+kernel) (bQ i (bQ (Pk C t g hm) dE) (d _ _)) (he:=d _ _)).imp λσ H Q h=>?_;let(j,G,env,m,o):=h;rw [aJ] at o;refine one m o λp v G1 H1 q s u y=>?_;let(r,z,A):=y.val (λc=>FD c);exact{v,j,G1,p,r,rfl,u.sub,s.top,z,λw B D I L=>A w B D (q.trans I) (.of L)}
def NB(C:zv3 X){c:Str}{a:E}{j:hI}{tp:Pos}(I:gP sc (zu 31)=gS)(K:Γ.bs.contains (zu 31)=gS)(L:gP sc c=gS)(aN:okN c=gS)(hm:(Γ.cs.contains c||(c==(zu 0)&&Γ.bs.contains c))=gS)(m:GE X W F a j)
 (q:∀env ps,starEach (j::ps) env=(gU,eval j env)::starEach ps env) (T:Γ.cs.contains (zu 0)=gU):GE X W F (.HD c a) (.Call (.Name (zu 31) np) [j,.Name c tp] [] pos):=by
 have key:∀{p:PV} {r G H:Hp} {v:V} {σ:St} {M:PV->Prop} {env:Sl},Top W r G H p v->aB G H->Out X W (match p with|.exc d=>Res.ok (PV.bl (if c==(zu 0) then gS else(c==d||c==(zu 12))))|_=>.bad) σ G H M->∃a d D,p=.exc d/\v=.ref a/\d∈W.xs/\X.mg d=gF (.ref D)/\H a=gF (lB a D):=λ{p r G H v σ M env} t U o=>by
  cases p with
  |exc d=>
   rcases t with t|t
   .simp! [Rep] at t;let(a,D,rfl,f,hm,m):=t;exact{a,d,D,rfl,rfl,f,by rw [<-C.mg];exact hm,U _ _ m}
   .exact t.elim
  |int _=>exact eu o|bl _=>exact eu o|aC=>exact eu o|str _=>exact eu o|tup _=>exact eu o|lst _=>exact eu o|aY _ _=>exact eu o
 by_cases s:(c==(zu 0:Str))=gS
 .have O:c=(zu 0):=zzy.mp s
  have Y:Γ.bs.contains c=gS:=by
   rw [eU,zza] at hm;rcases hm with h|h
   .rw [O,T] at h;cases h
   .exact h.2
  subst O;refine(eB Bk (dI C I) (C.bs _ (eG.mp K)) (by decide+kernel) (bQ m (bQ (nk (dI C L) (C.bs _ (eG.mp Y))) dE) (q _ _)) (he:=q _ _)).imp λσ H Q h=>?_;let(r,G,env,u,o):=h;rw [aJ] at o;refine one u o λp v G1 H1 w y z g=>?_;let(A,d,D,rfl,rfl,f,e,B):=key (env:=env) y.top z.sub g;let(xc,_,hk):=C.xc d f D e;exact{A,D,zu 0,gS,rfl,B,xc,hk,g _ G1 H1 w (.of .b)}
 .have P:Γ.cs.contains c=gS:=by
   rw [eU,zza] at hm;rcases hm with h|h
   .exact h
   .exact absurd h.1 s
  let(R,i):=C.cls c (eG.mp P);refine(eB Bj (dI C I) (C.bs _ (eG.mp K)) (by decide+kernel) (bQ m (bQ (FU (dI C L) i (dn aN).1) dE) (q _ _)) (he:=q _ _)).imp λσ H Q h=>?_;let(r,G,env,u,o):=h;rw [aJ] at o;refine one u o λp v G1 H1 w y z g=>?_;let(A,d,D,rfl,rfl,f,e,B):=key (env:=env) y.top z.sub g;let(xc,hk,_):=C.xc d f D e;have S:Out X W (Res.ok (PV.bl (if c==(zu 0) then gS else(c==d||c==(zu 12))))) σ G1 H1 _:=g;rw [if_neg s] at S;exact{A,D,R,_,rfl,B,xc,hk c (eG.mp P) R i,S _ G1 H1 w (.of .b)}
abbrev mT:M->String
 |.j7=>"list"|.index=>"list"
def Xs(C:zv3 X){m:M}(b:aB G H)(h:Fp m p=gS)(t:Top W H0 G H p v):Xr X.K (mT m) v H:=by
 cases m<;>cases p<;>first|(exact aP h)|(cases t.str;rfl)|(let(a,d,rfl,c,_):=t.lst b;exact .inl ⟨rfl,_,qG C.K c⟩)
def ND(C:zv3 X){m:M}{o:E}{es:Es}{b p:hI}{ps:List hI}{a d:Pos}(g:GE X W F o b)(i:GA X W F es (p::ps))(j:attributeBase b (mN m) X.env (eval b X.env)=eval b X.env)
 (q:((backTo d (starEach (p::ps) X.env)).all (λx=>!x.1)&&(backToKw d (keywordEach [] X.env)).all (λx=>x.1.isSome)&&decide ((p::ps).length+([]:List Keyword).length+(if([]:List Keyword).isEmpty then 0 else 1)<30))=gS)
 (s:(a.endLine==d.line)=gS) (hs:starEach (p::ps) X.env=(gU,eval p X.env)::starEach ps X.env) (t:(backTo d (starEach ps X.env)).any (·.1)=gU):GE X W F (.OM m o es) (.Call (.Attribute b (mN m) a) (p::ps) [] d):=by
 have rd:∀σ H Q,tE X W F (.OM m o es) σ H Q->Zs X.K (mT m) (Vk W (Fs m)) (tE X W F o) (tA X W F es) σ H Q:=λσ H Q h=>by
  let(A,G,env,B,e):=h;rw [aJ] at e;refine one B e λp v G1 H1 D u y f=>?_;by_cases hk:Fp m p=gS
  .rw [if_pos hk] at f;refine{Xs C y.sub hk u.top,args y f λps Z I H2 z L O P=>?_};let(r,R,S):=P.val (λc=>Cy c);exact{A,I,p::ps,r,O.sub,.cons (u.top.grow z) L.top,R,λw T U V Y=>S w T U ((D.trans z).trans V) (.of Y)}
  .rw [if_neg hk] at f;exact f.elim
 cases m
 case j7=>exact(Az PySem.F.plainAttrs_list PySem.F.slot_list_count PySem.F.type_list_count (yh C.K C.room.units) g i j q s hs t).imp rd
 case index=>exact(Az PySem.F.plainAttrs_list PySem.F.slot_list_index PySem.F.type_list_index (Cr C.K C.room.units) g i j q s hs t).imp rd
def SR.set(i:Nat)(r:SR W H0 env σ G H)(h:Rep W G p v):SR W H0 (env.set i (.val p)) (σ.set i (gF v)) G H where
 len:=zx6 r.len
 sub:=r.sub
 tab:=r.tab
 lY:=r.lY
 base:=r.base
 slot:=λj s e=>by
  by_cases f:i=j
  .subst f;have d:i<env.length:=by
    have:=(a9.mp e).1;simpa using this
   rw [eH d] at e;cases e;exact{gF v,eH (by rw [<-r.len];exact d),v,rfl,h}
  .rw [c4 f] at e;let(o,w,y):=r.slot j s e;exact{o,by rw [c4 f];exact w,y}
 apart:=λa b q A B g m t u=>by
  have ne:∀{c:Nat} {q:PV},(env.set i (.val p))[c]?=gF (.own q)->i≠c:=λ{c q} e z=>by
   subst z;have d:i<env.length:=by have:=(a9.mp e).1;simpa using this
   rw [eH d] at e;cases e
  have C:=ne g;have D:=ne m;rw [c4 C] at g t;rw [c4 D] at m u;exact r.apart a b q A B g m t u
abbrev gT(K:zz8):Tg->TG
 |.one i=>iw i|.two i j=>RD K 2 (zO (iw i) (zO (iw j) Nv))
def xP{K:zz8}(hK:W.K=K){c:Tg}{d:Sl}{Q:St->Hp->Prop}(e:Tg.put c p env=.ok d)(r:SR W H0 env σ G H)(h:Rep W G p v)(f:∀b,SR W H0 d b G H->Q b H):gT K c v σ H Q:=by
 unfold Tg.put at e;split at e
 .cases e;exact f _ (r.set _ h)
 .cases e;simp! [Rep] at h;let(a,j,rfl,sq,l):=h;let(m,o,rfl,g,l):=l.bU;let(q,s,rfl,i,l):=l.bU;simp! [aq] at l;subst l;rw [hK] at sq;exact{a,_,rfl,aB.tup r.sub sq.sq,rfl,_,_,rfl,_,_,rfl,rfl,f _ ((r.set _ g).set _ i)}
 .cases e
def yb(fH:X.env.scope=sc)(h:f6 sc x=gS):Loc X.env.scope x:=by rw [fH];unfold f6 at h;simp! [eU,zzy] at h;exact h
def Ma{fn:Str->Bool}{i:Nat}{p:hI}(hN:X.N=N)(nd:N.Nodup)(fH:X.env.scope=sc)(b:∀x,fn x=gS->X.fn x=gS)(h:WL N sc fn i p=gS):PG X p (iw i)/\∃x q,p=.Name x q:=by
 let(x,c,a):=aj h;let(q,rfl):=b9 c
 simp! [zza,zzy,eU] at a;refine{Kh (by rw [hN];exact nd) (by rw [hN];exact a.1.1) (yb fH a.1.2) ?_,x,q,rfl};rcases a.2 with z|z
 .exact .inl (b x z)
 .exact .inr (by rw [fH];exact z)
abbrev YC:List Nat->Lw
 |[]=>Nv|i::is=>zO (iw i) (YC is)
theorem F3{fn:Str->Bool}(hN:X.N=N)(nd:N.Nodup)(fH:X.env.scope=sc)(b:∀x,fn x=gS->X.fn x=gS):∀(is:List Nat) (es:List hI),OR N sc fn is es=gS->QU X es (YC is)/\(assignEach es X.env).length=is.length/\(assignEach es X.env).findIdx? (·.1)=gK
 |[],[],_=>⟨Ki,rfl,rfl⟩|i::is,a::as,h=>by have h:=az h;let(c,x,p,rfl):=Ma hN nd fH b h.1;let(g,l,f):=F3 hN nd fH b is as h.2;have e:assignEach (.Name x p::as) X.env=(gU,assign (.Name x p) X.env)::assignEach as X.env:=rfl;refine{F5 c g,by rw [e,cu,l,cu],?_};rw [e,List.findIdx?_cons,f];rfl|[],_::_,h=>aP h|_::_,[],h=>aP h
def F2{fn:Str->Bool}{a:Tg}{p:hI}(hN:X.N=N)(nd:N.Nodup)(fH:X.env.scope=sc)(c:X.calm=gS)(b:∀x,fn x=gS->X.fn x=gS)(h:jx N sc fn a p=gS):PG X p (gT X.K a):=by
 cases a with
 |one i=>exact(Ma hN nd fH b h).1|two i j=>let(m,d,e):=aj h;let(k,q,rfl):=A1 d;let(g,l,f):=F3 hN nd fH b _ _ e;exact Pl c g l f
def sx(W:Wd)(J:It)(G B:Hp)(ps:List PV):Prop:=∀(i:Nat) (b a:Hp),aB G b->iM B a->aB b a->
 (i=ps.length->J.stop i a)/\∀p,ps[i]?=gF p->J.go i a/\∀x c,J.QK i a x c->∃d,aE W b a d c/\Rep W d p x
structure QO(W:Wd)(G H:Hp)(it:I)(J:It)(ps:List PV):Prop where
 any:sx W J G H ps
 bC:IL it=gS->sx W J G G ps
abbrev tI(X:Cx)(W:Wd)(F:aL)(it:I):TI:=λσ H R=>∃c G env,SR W c env σ G H/\Out X W (vE F it env) σ G H λps=>∀J b a,aE W G H b a->QO W b a it J ps->R J a
noncomputable abbrev GI(X:Cx)(W:Wd)(F:aL)(a:hI)(it:I)(p:hI):Prop:=PI X a p (tI X W F it)
theorem Ah(hK:W.K=X.K){B:Hp}{ps:List PV}(h:uS W.K B a vs)(l:aq W G ps vs):sx W (Vi X.K a) G B ps:=λi e f g j sub=>by have b:gR X.K f a vs:=qG hK (iM.ls j h);refine{λq=>{vs,b,by rw [l.length];lia},λp m=>?_};let(v,d,o):=l.qr m;refine{⟨vs,v,b,d⟩,λx r c=>?_};let(rfl,c):=c;have:=c vs b;rw [d] at this;cases this;exact{e,.refl sub,Rep.same g p o}
theorem EZ{K:zz8}{B:Hp}{ps:List PV}(h:gf K B a vs)(l:aq W G ps vs):sx W (Vj K a) G B ps:=λi e f g j sub=>by have b:gf K f a vs:=iM.tup j h;refine{λq=>{vs,b,by rw [l.length];lia},λp m=>?_};let(v,d,o):=l.qr m;refine{⟨vs,v,b,d⟩,λx r c=>?_};let(rfl,c):=c;have:=c vs b;rw [d] at this;cases this;exact{e,.refl sub,Rep.same g p o}
def EY{B:Hp}{ks:ku}{us:List V}(n:ks.length=us.length)(h:B a=gF (.bC o (.dT (kz ks us)))):sx W (Vg a o (kz ks us)) G B (ks.map af):=λi E g I j sub=>by
 have d:g a=gF (.bC o (.dT (kz ks us))):=j.at h (λZ z=>nomatch z);refine{λc=>{d,by rw [fY n];rw [zzl] at c;lia},λp e=>?_};rw [cS] at e;let(k,hk,rfl):=b0.mp e;have c:i<ks.length:=(a9.mp hk).1;refine{{d,by rw [fY n];exact c},λx K m=>?_};let(rfl,b,q,v,rfl,s,f):=m;have t:q=ki k:=by have:=congrArg (λl=>l[i]?) (nO (us:=us) n);simp! [cS,s,hk,Option.map_some] at this;exact zzq this
 rw [t,tY] at f;let(u,y,A):=jc (W:=W) (vs:=[.ref b]) (nss:=[k]) sub (.cons ⟨b,rfl,f⟩ .nil);let(w,r,C,D,_):=A.bU;cases C;exact⟨u,y,D⟩
def Bv{i:Nat}(h:(chars z)[i]?=gF p):∃c,z.cps[i]?=gF c/\p=.str {#[c]}:=by unfold chars at h;rw [cS] at h;let(c,a,rfl):=b0.mp h;rw [Array.getElem?_toList] at a;exact⟨c,a,rfl⟩
def Bw(z:Str):(chars z).length=z.cps.size:=by unfold chars;rw [zzl,el]
theorem tX{B:Hp}(a:Int)(n:Nat):sx W (QR a n) G B (fb a n):=λi g m o q sub=>by unfold fb;refine{λb=>by rw [zzl,List.length_range] at b;exact Nat.le_of_eq b.symm,λp d=>?_};rw [cS] at d;let(c,h,rfl):=b0.mp d;let(e,f):=a9.mp h;rw [List.length_range] at e;rw [List.getElem_range] at f;subst f;refine{e,λx r j=>?_};let(rfl,rfl):=j;exact{g,.refl sub,.i}
def pP{u:V}(sub:aB G H)(b:H a=gK)(h1:Rep W G p v)(d:Rep W G q u):∃c,aE W G H c (upd H a (.tup [v,u]))/\Rep W c (.tup [p,q]) (.ref a):=
 {_,.new sub b,.t (.inl av) (aq.same (bD (sub.free b)) _ (.cons h1 (.cons d .nil)))}
theorem lx:∀{xs:List PV} {n i:Nat} {p:PV},(df n xs)[i]?=gF p->∃x,xs[i]?=gF x/\p=.tup [.int ((n+i:Nat):Int),x]
 |[],_,_,_,h=>by simp [df] at h|x::xs,n,0,p,h=>by simp [df] at h;exact{x,rfl,by rw [<-h];simp}|x::xs,n,i+1,p,h=>by simp! [df,List.getElem?_cons_succ] at h;let(y,h1,a):=lx h;exact{y,zx6 h1,by rw [a,show n+1+i=n+(i+1) by lia]}
theorem dS:∀(xs:List PV) (n:Nat),(df n xs).length=xs.length
 |[],_=>rfl|_::xs,n=>by simp! [df,cu,dS xs]
theorem vP{K:zz8}{B:Hp}{ps:List PV}(h:gf K B a vs)(l:aq W G ps vs):sx W (Vh K a vs) G B (df 0 ps):=λi u g j m sub=>by have c:gf K g a vs:=iM.tup m h;refine{λd=>{c,by rw [dS] at d;rw [l.length];exact d},λp o=>?_};let(x,q,rfl):=lx o;let(v,e,r):=l.qr q;refine{{c,(a9.mp e).1},λy w s=>?_};let(b,z,rfl,t,rfl,f):=s;rw [e] at f;cases f;rw [Nat.zero_add];exact pP sub t .i (Rep.same j x r)
theorem pq(hK:W.K=X.K){B:Hp}{ps:List PV}(h:uS W.K B a vs)(l:aq W G ps vs):sx W (Mv X.K a vs) G B (df 0 ps):=λi u g j m sub=>by have c:gR X.K g a vs:=qG hK (iM.ls m h);refine{λd=>{c,by rw [dS] at d;rw [l.length];exact d},λp o=>?_};let(x,q,rfl):=lx o;let(v,e,r):=l.qr q;refine{{c,(a9.mp e).1},λy w s=>?_};let(b,z,rfl,t,rfl,f):=s;rw [e] at f;cases f;rw [Nat.zero_add];exact pP sub t .i (Rep.same j x r)
theorem vO{B:Hp}(z:Str):sx W (Ua z) G B (df 0 (chars z)):=λi m o q r sub=>by refine{λa=>by rw [dS,Bw] at a;exact a,λp f=>?_};let(x,g,rfl):=lx f;let(c,d,rfl):=Bv g;refine{(Array.getElem?_eq_some_iff.mp d).1,λy t h=>?_};let(b,u,rfl,j,rfl,e):=h;rw [d] at e;cases e;rw [Nat.zero_add];exact pP sub j .i .s
def gM{e:E}(a:SR W H0 env σ G H)(b:aJ F e env=.ok p)(h:∀v G1 H1,aE W G H G1 H1->Got W H0 G1 H1 e p v->Q v H1):tE X W F e σ H Q:={H0,G,env,a,by rw [b];exact h}
def He{e:E}{c:Str}(a:SR W H0 env σ G H)(b:aJ F e env=.exc c)(h:uV X W σ c G H):tE X W F e σ H Q:={H0,G,env,a,by rw [b];exact h}
def NM(C:zv3 X){S p:hI}{e:E}(he:GE X W F e p):GI X W F S (.seq e) p:=by
 intro g s σ H R I h;let(Y,G,env,j,o):=h
 rw [vE] at o;cases r:aJ F e env with
 |bad=>rw [r] at o;exact o.elim|exc c=>rw [r] at o;exact AB he g s σ H R I (He j r o)|ok q=>
  rw [r] at o;cases q with
  |lst xs=>refine AB he g s σ H R I (gM j r λv G1 H1 d t=>?_);have w:=t;let(a,y,rfl,b,m):=t.top.lst d.sub;refine{a,rfl,{y,qG C.K b},o _ G1 H1 d {Ah C.K b m,λz=>?_}};have f:=w.rep z;simp! [Rep] at f;let(T,U,A,u,B):=f;cases A;exact Ah C.K u B
  |tup xs=>refine Po he g s σ H R I (gM j r λv G1 H1 d t=>?_);have w:=t;let(a,y,rfl,b,m):=t.top.tup d.sub;rw [C.K] at b;refine{a,rfl,⟨y,b⟩,o _ G1 H1 d {EZ b m,λz=>?_}};have f:=w.rep z;simp! [Rep] at f;let(T,U,A,u,B):=f;cases A;rw [C.K] at u;exact EZ u.sq B
  |str z=>exact eu o|int _=>exact eu o|bl _=>exact eu o|aC=>exact eu o|exc _=>exact eu o|aY D qs=>
   by_cases L:iH e=gS
   .have M:CV e (.aY D qs)=.ok (D.map af):=by
     cases e<;>first|rfl|exact aP L
    have P:Out X W (CV e (.aY D qs)) σ G H λps=>∀(J:It) (Q O:Hp),aE W G H Q O->QO W Q O (Ci.I.seq e) J ps->R J O:=o;rw [M] at P;refine Pn he g s σ H R I (gM j r λv G1 H1 d t=>?_);have f:=t.rep L;simp! [Rep] at f;let(a,V,Z,rfl,n,b,m):=f;exact{a,V,_,rfl,d.sub _ _ b,P _ G1 H1 d {EY n (d.sub _ _ b),λ_=>EY n b}}
   .have:∃i,e=.fG i:=by
     cases e<;>first|exact⟨_,rfl⟩|exact absurd rfl L
    let(i,rfl):=this;exact eu o
def d7{i:Int}(h:bf i=gS): -(2^62)<=i/\i<2^62:=by unfold bf at h;simpa using h
def NL(C:zv3 X){f p:hI}{e:E}(g:gP sc "range"=gS)(i:Γ.bs.contains "range"=gS)(d:∀env ps,starEach (p::ps) env=(gU,eval p env)::starEach ps env)(he:GE X W F e p):GI X W F f (.qC e) (.Call (.Name "range" np) [p] [] pos):=by
 intro m s σ H R I h;refine CL (dI C g) (C.bs _ (eG.mp i)) (bQ he dE (d _ _)) (d _ _) m s σ H R I ?_;let(w,G,env,r,o):=h;rw [vE] at o;refine one r o λq v G1 H1 u t y a=>?_
 cases q with
 |int j=>
  by_cases c:bf j=gS
  .have b:Out X W (if bf j=gS then Res.ok (fb 0 j.toNat) else .bad) σ G1 H1 _:=a;rw [if_pos c] at b;exact{j,by rw [t.top.int],(d7 c).1,(d7 c).2,b _ G1 H1 u {tX _ _,λZ=>tX _ _}}
  .have b:Out X W (if bf j=gS then Res.ok (fb 0 j.toNat) else .bad) σ G1 H1 _:=a;rw [if_neg c] at b;exact b.elim
 |bl _=>exact eu a|aC=>exact eu a|str _=>exact eu a|tup _=>exact eu a|lst _=>exact eu a|exc _=>exact eu a|aY _ _=>exact eu a
set_option tactic.hygienic true in
def IY(C:zv3 X){w p q:hI}{a b:E}(z:gP sc "range"=gS)(A:Γ.bs.contains "range"=gS)(r:∀env ps,starEach (p::ps) env=(gU,eval p env)::starEach ps env)(e:∀env ps,starEach (q::ps) env=(gU,eval q env)::starEach ps env)
 (B:GE X W F a p) (D:GE X W F b q):GI X W F w (.uu a b) (.Call (.Name "range" np) [p,q] [] pos):=by
 intro K s σ H R I h;refine CM (dI C z) (C.bs _ (eG.mp A)) (bQ B (bQ D dE (e _ _)) (r _ _)) (by rw [r,e];rfl) (e _ _) K s σ H R I ?_;let(T,G,env,L,o):=h;rw [vE] at o;refine one L o λx v G1 H1 M t O P=>one O P λy u f g Q S U m=>?_
 cases x<;>cases y<;>first
  |(exact eu m)
  | (rename_i i j
     by_cases c:(bf i&&bf j)=gS
     .have d:Out X W (if(bf i&&bf j)=gS then Res.ok (fb i (j-i).toNat) else .bad) σ f g _:=m;rw [if_pos c] at d;rw [zza] at c;exact⟨i,j,by rw [t.top.int,S.top.int],⟨(d7 c.1).1,(d7 c.1).2,(d7 c.2).1,(d7 c.2).2⟩,d _ f g (M.trans Q) ⟨tX _ _,λZ=>tX _ _⟩⟩
     .have d:Out X W (if(bf i&&bf j)=gS then Res.ok (fb i (j-i).toNat) else .bad) σ f g _:=m;rw [if_neg c] at d;exact d.elim)
def IX(C:zv3 X){f:List hI}{M:Nat}{O:Pos}{p:hI}{e:E}(P:gP sc (zu 6)=gS)(Q:Γ.bs.contains (zu 6)=gS)(g:∀env ps,starEach (p::ps) env=(gU,eval p env)::starEach ps env)(he:GE X W F e p):
 GI X W F (.Tuple f M O) (.enum e) (.Call (.Name (zu 6) np) [p] [] pos):=by
 intro u s σ H R I h;have w:=dI C P;have y:=C.bs _ (eG.mp Q);have A:=bQ he dE (g _ _);let(U,G,env,B,o):=h
 rw [vE] at o;cases r:aJ F e env with
 |bad=>rw [r] at o;exact o.elim|exc c=>rw [r] at o;exact wD w y A (g _ _) u s σ H R I (He B r o)|ok q=>
  rw [r] at o;cases q with
  |lst xs=>
   refine wD w y A (g _ _) u s σ H R I (gM B r λv G1 H1 b t=>?_);by_cases D:iH e=gS
   .have i:=t.rep D;simp! [Rep] at i;let(a,j,rfl,d,m):=i;exact{a,j,rfl,qG C.K (aB.ls b.sub d),o _ G1 H1 b {pq C.K (aB.ls b.sub d) m,λZ=>pq C.K d m}}
   .let(a,j,rfl,L,S):=t.top.lst b.sub;exact{a,j,rfl,qG C.K L,o _ G1 H1 b {pq C.K L S,λz=>absurd z D}}
  |tup xs=>
   refine F7 w y A (g _ _) u s σ H R I (gM B r λv G1 H1 b t=>?_);have T:=t.top
   rcases T with i|z
   .simp! [Rep] at i;let(a,j,rfl,d,m):=i;rw [C.K] at d;exact{a,j,rfl,aB.tup b.sub d.sq,o _ G1 H1 b {vP (aB.tup b.sub d.sq) m,λz=>vP d.sq m}}
   .exact z.elim
  |str z=>exact F6 w y A (g _ _) u s σ H R I (gM B r λv G1 H1 b t=>{z,by rw [t.top.str],o _ G1 H1 b {vO z,λZ=>vO z}})|int _=>exact eu o|bl _=>exact eu o|aC=>exact eu o|exc _=>exact eu o|aY _ _=>exact eu o
end
def Bu{env:Env}{c:hF}(h:env.cells.lookup x=gF c):cellOf env x=pure c:=by unfold cellOf;rw [h]
abbrev frees(names:List (Str×NameKind)):List Str:=((names.filter λp=>p.2==.free).map (·.1)).reverse
def j3{a:hZ}{env:Env}(h:∀y∈a.names,y.2=.free->∃c,env.cells.lookup y.1=gF c):closureFor a env=pure (cj env (freeOf a)):=by
 simp! [closureFor];have key:∀(names:List (Str×NameKind)) (b:List (Str×hF)),(∀y∈names,y.2=.free->∃c,env.cells.lookup y.1=gF c)->
  (forIn (m:=Sem) names b λx r=>if(x.2==NameKind.free)=gS then do
   let c<-cellOf env x.1
   pure (ForInStep.yield ((x.1,c)::r))
   else pure (ForInStep.yield r))=pure (cj env (frees names)++b):=by
  intro names
  induction names with
  |nil=>intro b _;rfl|cons p r i=>
   intro b f;let(n,d):=p;rw [List.forIn_cons];by_cases hk:(d==NameKind.free)=gS
   .let(c,j):=f (n,d) (by simp) (zzy.mp hk);simp! [hk,if_true,Bu j,pure_bind];rw [i ((n,c)::b) λy g=>f y (bc _ g)];have e:frees ((n,d)::r)=frees r++[n]:=by unfold frees;rw [fS,if_pos hk,a7,List.reverse_cons]
    rw [e];unfold cj;rw [List.map_append,a7,List.map_nil,List.append_assoc];show _=pure (_++([(n,(env.cells.lookup n).getD 0)]++b));rw [show env.cells.lookup n=gF c from j];rfl
   .simp! [hk,en,if_false,pure_bind];rw [i b λy g=>f y (bc _ g)];have e:frees ((n,d)::r)=frees r:=by unfold frees;rw [fS,if_neg hk]
    rw [e]
 have:=key a.names [] h;rw [gg] at this;simp! [bind_pure_comp,map_pure,id_map',bind_pure];exact this
section
variable{W:Wd}{sc:hZ}
def gH{a:hZ}(h:X.env.scope=sc):relabel a X.env=dU a sc:=by subst h;rfl
structure n9(N:List Str)(sc scope:hZ)(kk:Nat)(bw:List Nat)(xs:List Str):Prop where
 kind:scope.kind=.function
 len:xs.length=kk
 nd:(xs++freeOf scope).Nodup
 MU:(scope.names.all λy=>(decide (y.2≠.cell)||!(freeOf scope).contains y.1)&&(decide (y.2≠.free)||(freeOf scope).contains y.1))=gS
 own:(scope.names.all λy=>decide (y.2≠.cell)||decide (scope.names.lookup y.1=gF .cell))=gS
 names:(scope.names.all λy=>decide (y.2≠.local)||decide (scope.names.lookup y.1=gF .local))=gS
 slots:bw.map (λi=>N[i]?)=(freeOf scope).map gF
 kX:((freeOf scope).all λy=>decide (sc.names.lookup y=gF .cell))=gS
 kY:((freeOf scope).all λy=>decide ((dU scope sc).names.lookup y=gF .cell))=gS
def k7{a:hZ}{b:List Nat}{xs:List Str}(h:zm N sc a kk b xs=gS):n9 N sc a kk b xs:=by unfold zm at h;simp! [zza] at h;let((((((((c,d),e),f),g),i),j),k),m):=h;exact{zzy.mp c,zzy.mp d,zzY e,f,g,i,zzY j,k,m}
def tv(hN:X.N=N)(fH:X.env.scope=sc)(ok:X.Ok){a:hZ}{d:List Nat}{xs:List Str}(h:n9 N sc a kk d xs):fT X a xs (freeOf a) d:=by
 have e:∀y∈freeOf a,∃c,X.env.cells.lookup y=gF c:=λy b=>ok.has y (.inl (by have:=zzY (c5.mp h.kX y b);show X.env.scope.names.lookup y=_;rw [fH];exact this));refine{h.kind,j3 λy b f=>?_,c5.mpr λy b=>?_,h.MU,h.own,h.names,by rw [hN];exact h.slots,c5.mpr λy b=>?_,?_}
 .have c:=c5.mp h.MU y b
  rw [zza,eU,eU] at c;rcases c.2 with z|z
  .exact absurd f (zzY z)
  .exact e _ (eG.mp z)
 .let(c,g):=e y b;rw [g];rfl
 .have:=zzY (c5.mp h.kX y b);refine zzh ?_;show X.env.scope.names.lookup y=_;rw [fH];exact this
 .rw [gH fH];exact h.kY
theorem j5{x:PV}:∀{xs:List PV},aH f (xs++[x])=(aH f xs).bind λys=>(f x).well.bind λo=>.ok (ys++o.toList)
 |[]=>by
  simp! [List.nil_append,aH,Res.bind];cases(f x).well with
  |ok o=>cases o<;>rfl
  |exc c=>rfl|bad=>rfl
 |y::xs=>by
  rw [List.cons_append];simp! [aH];rw [j5 (xs:=xs)];cases(f y).well with
  |exc c=>rfl|bad=>rfl|ok o=>
   show(((aH f xs).bind λys=>(f x).well.bind λo=>.ok (ys++o.toList)).bind λys=>.ok (oc o ys))=((aH f xs).bind λys=>.ok (oc o ys)).bind λys=>(f x).well.bind λo=>.ok (ys++o.toList)
   cases aH f xs with
   |exc c=>rfl|bad=>rfl|ok zs=>
    show(((f x).well.bind λo=>.ok (zs++o.toList)).bind λys=>.ok (oc o ys))=(f x).well.bind λa=>.ok ((oc o zs)++a.toList)
    cases(f x).well with
    |exc c=>rfl|bad=>rfl|ok a=>cases o<;>rfl
theorem oF:∀{xs ys:List PV},aH f xs=.ok ys->∀i,∃zs,aH f (xs.take i)=.ok zs/\zs.length<=i
 |_,_,_,0=>{[],by simp [aH],a5 _}|[],ys,h,i+1=>{[],by simp [aH],Nat.zero_le _}|x::xs,ys,h,i+1=>by
  simp! [aH] at h;let(o,a,h):=Res.bu h;let(zs,b,h):=Res.bu h;let(ws,c,hl):=oF b i;refine{oc o ws,?_,?_}
  .rw [List.take_succ_cons];simp! [aH];rw [a];show((aH f (xs.take i)).bind λys=>.ok (oc o ys))=_;rw [c];rfl
  .cases o with
   |none=>exact Nat.le_succ_of_le hl|some y=>exact Nat.succ_le_succ hl
def Lj{d:Type}{r:Res d}{a:d}(h:r.well=.ok a):r=.ok a:=by
 cases r with
 |ok b=>cases h;rfl
 |exc c=>cases h
 |bad=>cases h
def vm{zs:List PV}{i:Nat}{x:PV}(h:aH f xs=.ok ys)(c:xs[i]?=gF x)(hz:aH f (xs.take i)=.ok zs):∃o,f x=.ok o/\aH f (xs.take (i+1))=.ok (zs++o.toList):=by
 have e:xs.take (i+1)=xs.take i++[x]:=by rw [List.take_add_one,c];rfl
 let(ws,a,_):=oF h (i+1);rw [e,j5,hz] at a;let(o,b,a):=Res.bu (show((f x).well.bind λo=>Res.ok (zs++o.toList))=.ok ws from a);refine{o,Lj b,?_};rw [e,j5,hz];show((f x).well.bind λo=>Res.ok (zs++o.toList))=_;rw [b];rfl
def wN{h:St}{g:List Nat}{ys:List Str}(kk:Nat)(k:SR W H0 env h G H)(hs:g.map (λi=>N[i]?)=ys.map gF)(nd:ys.Nodup):SR W H0 (j2 kk .no++gW env g) (j2 kk gK++EO h g) G H:=by
 have y:∀(i j:Nat) (a:Nat),g[i]?=gF a->g[j]?=gF a->i=j:=λi j a A B=>by
  have m:(ys.map gF)[i]?=gF (N[a]?):=by rw [<-hs,cS,A];rfl
  have w:(ys.map gF)[j]?=gF (N[a]?):=by rw [<-hs,cS,B];rfl
  rw [cS] at m w;let(L,C,M):=b0.mp m;let(O,D,P):=b0.mp w;have:L=O:=zzq (M.trans P.symm);subst this;exact lQ nd C D
 have d:∀(j:Nat) (s:Slot),(j2 kk Slot.no++gW env g)[j]?=gF s->(j<kk/\s=.no)\/∃a,kk<=j/\g[j-kk]?=gF a/\s=env.getD a .no:=λj s e=>by
  by_cases f:j<kk
  .rw [eM (zx6 f),List.getElem?_replicate,if_pos f] at e;cases e;exact .inl ⟨f,rfl⟩
  .rw [eT (zx6 f),List.length_replicate] at e;unfold gW at e;rw [cS] at e;let(a,r,rfl):=b0.mp e;exact .inr {a,by lia,r,rfl}
 have val:∀(j a:Nat),kk<=j->g[j-kk]?=gF a->(j2 kk gK++EO h g)[j]?=gF ((h[a]?).join):=λj a f r=>by rw [eT (zx6 f),List.length_replicate];unfold EO;rw [cS,r];rfl
 refine{by unfold gW EO;simp,k.sub,k.base,λj s e=>?_,λi j p q a m w E F=>?_,k.tab,k.lY}
 .rcases d j s e with⟨f,rfl⟩|⟨a,f,r,rfl⟩
  .exact{gK,by rw [eM (zx6 f),List.getElem?_replicate,if_pos f],trivial}
  .refine{_,val j a f r,?_};rw [b4];cases m:env[a]? with
   |none=>exact trivial|some s=>let(o,A,B):=k.slot a s m;rw [A];exact B
 .rcases d i _ m with⟨_,z⟩|⟨b,Q,I,t⟩
  .cases z
  rcases d j _ w with⟨_,z⟩|⟨c,f,K,u⟩
  .cases z
  rw [val i b Q I] at E;rw [val j c f K] at F;have R:env[b]?=gF (.own p):=by
   rw [b4] at t;cases e:env[b]? with
   |none=>rw [e] at t;cases t
   |some s=>rw [e] at t;exact congrArg gF t.symm
  have S:env[c]?=gF (.own q):=by
   rw [b4] at u;cases e:env[c]? with
   |none=>rw [e] at u;cases u
   |some s=>rw [e] at u;exact congrArg gF u.symm
  have C:h[b]?=gF (gF (.ref a)):=Option.join_eq_some_iff.mp (zzq E);have D:h[c]?=gF (gF (.ref a)):=Option.join_eq_some_iff.mp (zzq F);have T:=k.apart b c p q a R S C D;subst T;have:=y _ _ b I K;lia
def mL{rest f:Sl}{c:St}{g:Tg}(d:qd kk g=gS)(e:Tg.put g p (j2 kk .no++rest)=.ok f)(r:SR W H0 f c G H):SR W H0 (j2 kk .no++rest) c G H:=by
 have key:∀(j:Nat) (s:Slot),(j2 kk Slot.no++rest)[j]?=gF s->s≠.no->f[j]?=gF s:=λj s h hs=>by
  have u:¬j<kk:=λz=>by rw [eM (zx6 z),List.getElem?_replicate,if_pos z] at h;cases h;exact hs rfl
  unfold Tg.put at e;split at e
  .cases e;unfold qd at d;simp! [zzN] at d;rw [c4 (by lia)];exact h
  .cases e;unfold qd at d;simp! [zza,zzN] at d;rw [c4 (by lia),c4 (by lia)];exact h
  .cases e
 have b:(j2 kk Slot.no++rest).length=c.length:=by
  rw [<-r.len];unfold Tg.put at e;split at e<;>first|(cases e;simp;done)|(cases e;done)
 refine{b,r.sub,r.base,λj s h=>?_,λi j p q a k m o t=>r.apart i j p q a (key i _ k nofun) (key j _ m nofun) o t,r.tab,r.lY};by_cases hs:s=.no
 .subst hs;have:j<c.length:=by rw [<-b];exact(a9.mp h).1
  exact{c[j],zzg this,trivial}
 .exact r.slot j s (key j s h hs)
variable{Γ:Pg}{F:aL}{k:Nat}
abbrev tN(W:Wd)(F:aL)(e:E):TE:=λd H Q=>∃b G env,SR W b env d G H/\∃p,aJ F e env=.ok p/\∀v c a,aE W G H c a->Got W b c a e p v->Q v a
abbrev U6(W:Wd)(F:aL)(e:E):TT:=λc H Q=>∃d G env,SR W d env c G H/\∃b,aJ F e env=.ok (.bl b)/\∀f a,aE W G H f a->Q b a
def A0{e:E}(a:St)(H:Hp)(Q:VK)(h:tN W F e a H Q):tE X W F e a H Q:=by let(b,G,env,c,p,d,q):=h;exact{b,G,env,c,by rw [d];exact q}
def Hf{e:E}(a:St)(H:Hp)(Q:Bool->Hp->Prop)(h:U6 W F e a H Q):tT X W F e a H Q:=by let(b,G,env,c,p,d,q):=h;exact{b,G,env,c,by rw [d];exact⟨p,rfl,q⟩}
def gj(C:zv3 X){a:hZ}{c:List Nat}{xs:List Str}(h:n9 N sc a kk c xs)(fp:List hF)(d:hD)(e:Hp)(A:hF):dO Γ.HG F W (xs++freeOf a) (dU a sc) k (cJ X (xs++freeOf a) a (cj X.env (freeOf a)) fp d e A):=
 {rfl,gH C.fH,λZ=>rfl,h.nd,C.K,C.mg,C.gs,C.bs,C.room,λf b=>{(C.fns f b).ex},C.QE,C.cls,C.xc,λq g=>{(C.vL q g).ex},λf b=>{(C.UZ f b).1,{(C.UZ f b).2.ex}},C.any,nofun,nofun,nofun}
def Nq{e:E}{p:hI}(h:bp Γ N sc e p=gS)(env:Env):∀x,foldedSetIterable p env x=pure x:=by
 intro x;cases p<;>first|rfl|(cases e<;>first|(exact aP h)|(rename_i q;cases q<;>exact aP h))
def lC{c:hI}{p:hI}(h:Bx Γ N sc c it p=gS)(env:Env):∀x,foldedSetIterable p env x=pure x:=by
 intro x;cases it with
 |seq e=>exact Nq h env x|qC e=>cases p<;>first|rfl|(exact aP h)
 |uu a b=>cases p<;>first|rfl|(exact aP h)
 |enum e=>cases p<;>first|rfl|(exact aP h)
def CW(W:Wd)(H0 d e:Hp)(BK:Sl)(f:PV->Res (Option PV))(ps:List PV)(i:Nat)(ys:List V)(a:St)(c:Hp):Prop:=
 i<=ps.length/\∃b,aE W d e b c/\SR W H0 BK a b c/\∃zs,aH f (ps.take i)=.ok zs/\zs.length<=i/\aq W b zs ys
def zq(hK:W.K=X.K){s:List Nat}{C:Tg}{d:E}{ys:List Str}(bP:qd kk C=gS)(dZ:iH d=gS)(hs:s.map (λi=>N[i]?)=ys.map gF)(nd:ys.Nodup)(Z:St)(H:Hp)(Q:VK)(h:tF X W F (.comp kk s C it d) Z H Q):
 Hc (tI X W F it) kk (gT X.K C) (tN W F d) s Z H Q:=by
 let(L,G,env,sr,o):=h;rw [aJ] at o;refine{L,G,env,sr,o.bind.imp λps j J G1 H1 M gi=>?_};by_cases qi:¬ps.length<dW
 .rw [if_neg qi] at j;exact j.elim
 have hl:=Decidable.not_not.mp qi;rw [if_pos hl] at j;generalize hf:(λx=>(C.put x (j2 kk .no++gW env s)).bind λO=>(aJ F d O).bind λy=>Res.ok (gF y))=f at j
 cases u:aH f ps with
 |bad=>rw [u] at j;exact j.elim|exc c=>
  exfalso
  have:∀(l:List PV) (c:Str),aH f l≠.exc c:=λl=>by
   induction l with
   |nil=>intro c z;cases z
   |cons a l ih=>
    intro c z;simp! [aH] at z;rcases Res.ei z with z|⟨o1,_,z⟩
    .cases e:f a with
     |ok _=>rw [e] at z;cases z
     |exc _=>rw [e] at z;cases z
     |bad=>rw [e] at z;cases z
    .rcases Res.ei z with z|⟨o2,_,z⟩
     .exact ih c z
     .cases z
  exact this _ _ u
 |ok all=>
  rw [u] at j;let(xs,e1,P):=j;cases e1;have bI:=sr.grow M;refine{ps.length,CW W L G1 H1 (j2 kk .no++gW env s) f ps,{Nat.zero_le _,G1,.refl M.sub,wN kk bI hs nd,[],rfl,a5 _,.nil},?_}
  rintro i made σ' H' ⟨hi,G',w,R,zs,S,Sk,l⟩
  refine{by rw [l.length];exact dA (c6 Sk hi) (dB hl (by decide)),?_};let(T,U):=gi.any i G' H' w.g w.h w.sub;by_cases b:i=ps.length
  .refine .inl {T b,λp hp=>?_};rw [b,List.take_length,u] at S;cases S;exact P p made G' H' (M.trans w) hp l
  .have D:i<ps.length:=by lia
   let(V,A):=U ps[i] (zzg D);refine .inr {V,D,λx ql hy=>?_};let(yU,m,rx):=A x ql hy;let(o1,r,q):=vm u (zzg D) S;rw [<-hf] at r;let(O,B,r):=Res.bu r;let(y,Oj,r):=Res.bu r;cases r;refine xP hK B (R.grow m) rx λσ2 fk=>{L,yU,O,fk,y,Oj,λv G3 H3 Y t=>?_};refine{D,G3,w.trans (m.trans Y),(mL bP B fk).grow Y,_,q,?_,?_}
   .rw [cA];show zs.length+1<=i+1;lia
   .exact(aq.same (m.trans Y).g zs l).append (.cons (t.rep dZ) .nil)
def rn(hK:W.K=X.K){D:List Nat}{P:Tg}{c d:E}{ys:List Str}(bP:qd kk P=gS)(dZ:iH d=gS)(hs:D.map (λi=>N[i]?)=ys.map gF)(nd:ys.Nodup)(σ:St)(H:Hp)(Q:VK)(h:tF X W F (.bJ kk D P it c d) σ H Q):
 n4 (tI X W F it) kk (gT X.K P) (U6 W F c) (tN W F d) D σ H Q:=by
 let(R,G,env,sr,o):=h;rw [aJ] at o;refine{R,G,env,sr,o.bind.imp λps r J G1 H1 T gi=>?_};by_cases qi:¬ps.length<dW
 .rw [if_neg qi] at r;exact r.elim
 have hl:=Decidable.not_not.mp qi;rw [if_pos hl] at r;generalize hf:(λx=>(P.put x (j2 kk .no++gW env D)).bind λA=>(aJ F c A).bind λt=>ny t λt=>if t then(aJ F d A).bind λy=>Res.ok (gF y) else .ok gK)=f at r
 cases L:aH f ps with
 |bad=>rw [L] at r;exact r.elim|exc c=>
  exfalso
  have:∀(l:List PV) (c:Str),aH f l≠.exc c:=λl=>by
   induction l with
   |nil=>intro c z;cases z
   |cons a l ih=>
    intro c z;simp! [aH] at z;rcases Res.ei z with z|⟨o1,_,z⟩
    .cases e:f a with
     |ok _=>rw [e] at z;cases z
     |exc _=>rw [e] at z;cases z
     |bad=>rw [e] at z;cases z
    .rcases Res.ei z with z|⟨o2,_,z⟩
     .exact ih c z
     .cases z
  exact this _ _ L
 |ok all=>
  rw [L] at r;let(xs,e1,U):=r;cases e1;have bI:=sr.grow T;refine{ps.length,CW W R G1 H1 (j2 kk .no++gW env D) f ps,{Nat.zero_le _,G1,.refl T.sub,wN kk bI hs nd,[],rfl,a5 _,.nil},?_}
  rintro i made σ' H' ⟨hi,G',B,V,zs,Y,Sk,l⟩
  refine{by rw [l.length];exact dA (c6 Sk hi) (dB hl (by decide)),?_};let(Z,igo):=gi.any i G' H' B.g B.h B.sub;by_cases j:i=ps.length
  .refine .inl {Z j,λp hp=>?_};rw [j,List.take_length,L] at Y;cases Y;exact U p made G' H' (T.trans B) hp l
  .have M:i<ps.length:=by lia
   let(hgo,O):=igo ps[i] (zzg M);refine .inr {hgo,M,λx ql hy=>?_};let(yU,m,rx):=O x ql hy;let(o1,s,q):=vm L (zzg M) Y;rw [<-hf] at s;let(A,u,s):=Res.bu s;let(t,ht,s):=Res.bu s
   obtain⟨b,rfl⟩:∃b,t=.bl b:=by
    cases t<;>first|exact⟨_,rfl⟩|(cases s)
   refine xP hK u (V.grow m) rx λσ2 S=>{R,yU,A,S,b,ht,λG3 H3 w=>?_};have C:(if b=gS then(aJ F d A).bind λy=>Res.ok (gF y) else .ok gK)=Res.ok o1:=s
   cases b with
   |true=>
    rw [if_pos rfl] at C;refine Wu ?_;let(y,Oj,C):=Res.bu C;cases C;refine{R,G3,A,S.grow w,y,Oj,λv G4 H4 g4 t4=>?_};refine{M,G4,B.trans (m.trans (w.trans g4)),(mL bP u S).grow (w.trans g4),_,q,?_,?_}
    .rw [cA];show zs.length+1<=i+1;lia
    .exact(aq.same (m.trans (w.trans g4)).g zs l).append (.cons (t4.rep dZ) .nil)
   |false=>
    rw [if_neg zzf] at C;refine Wt ?_;cases C;refine{M,G3,B.trans (m.trans w),(mL bP u S).grow w,_,q,?_,?_}
    .rw [cA];show zs.length+0<=i+1;lia
    .show aq W G3 (zs++[]) made;rw [gg];exact aq.same (m.trans w).g zs l
def zU(C:zv3 X)(q:Γ.qt=gU){f:List Nat}{d:Tg}{b:E}{c i p:hI}{a:hZ}{pos:Pos}(h:n9 N sc a kk f (aR c))(r:qd kk d=gS)(t:iH b=gS)(u:GI X W F c it i)(vL:∀x,foldedSetIterable i X.env x=pure x)
 (w:jx (aR c++freeOf a) (dU a sc) (pO a) d c=gS) (he:∀Y,dO Γ.HG F W (aR c++freeOf a) (dU a sc) k Y->GE Y W F b p):GF X W F (.comp kk f d it b) (.ListComp p [{c,i,[],0}] a pos):=by
 intro y s e H Q I j;have B:(freeOf a).Nodup:=(List.nodup_append.mp h.nd).2.1;have rd:=zq (N:=N) C.K r t h.slots B e H Q j
 have:=Ke (g:=gT X.K d) (te:=tN W F b) (xs:=aR c) (ys:=freeOf a) (is:=f) (pos:=pos) (C.calm q) (tv C.hN C.fH I.ok h) u
  (λfp m o A=>F2 (fn:=pO a) (X:=cJ X (aR c++freeOf a) a (cj X.env (freeOf a)) fp m o A) rfl h.nd (gH C.fH) rfl (λZ z=>z) w)
  (λfp m o A=>L2.PE.imp (he _ (gj C h fp m o A)) λe H Q z=>A0 e H Q z) vL y s e H Q I
 rw [h.len] at this;exact this rd
def rH(C:zv3 X)(t:Γ.qt=gU){m:List Nat}{j:Tg}{c b:E}{d o q r:hI}{a:hZ}{pos:Pos}(h:n9 N sc a kk m (aR d))(u:qd kk j=gS)(w:iH b=gS)(y:GI X W F d it o)(vL:∀x,foldedSetIterable o X.env x=pure x)
 (B:jx (aR d++freeOf a) (dU a sc) (pO a) j d=gS) (D:∀Y,dO Γ.HG F W (aR d++freeOf a) (dU a sc) k Y->GT Y W F c q) (he:∀Y,dO Γ.HG F W (aR d++freeOf a) (dU a sc) k Y->GE Y W F b r):
 GF X W F (.bJ kk m j it c b) (.ListComp r [{d,o,[q],0}] a pos):=by
 intro G s e H Q I p;have L:(freeOf a).Nodup:=(List.nodup_append.mp h.nd).2.1;have rd:=rn (N:=N) C.K u w h.slots L e H Q p
 have:=CK (g:=gT X.K j) (tt:=U6 W F c) (te:=tN W F b) (xs:=aR d) (ys:=freeOf a) (is:=m) (pos:=pos) (C.calm t) (tv C.hN C.fH I.ok h) y
  (λfp f i A=>F2 (fn:=pO a) (X:=cJ X (aR d++freeOf a) a (cj X.env (freeOf a)) fp f i A) rfl h.nd (gH C.fH) rfl (λZ z=>z) B)
  (λfp f i A=>L2.PT.imp (D _ (gj C h fp f i A)) λe H Q z=>Hf e H Q z)
  (λfp f i A=>L2.PE.imp (he _ (gj C h fp f i A)) λe H Q z=>A0 e H Q z) vL G s e H Q I
 rw [h.len] at this;exact this rd
variable{Z:ke}
mutual
theorem Rep.less(zs:∀b o,Z.lookup b=gF o->G b=gF (.bC o cg)):∀(p:PV) {v:V},Rep W G p v->Rep W (bb Z G) p v
 |.aC,_,h=>by simpa only [Rep] using h|.bl b,_,h=>by simpa only [Rep] using h|.int i,_,h=>by simpa only [Rep] using h|.str z,_,h=>by simpa only [Rep] using h|.tup xs,_,h=>by
  simp! [Rep] at h⊢;let(a,vs,e,q,l):=h
  refine{a,vs,e,?_,aq.less zs xs l};rcases q with q|⟨(q|⟨o,q⟩)|q,z⟩
  .cases y:Z.lookup a with
   |none=>exact .inl (by rw [aA y];exact q)|some d=>rw [zs a d y] at q;cases q
  .cases y:Z.lookup a with
   |none=>exact .inl (by rw [aA y];exact q)|some d=>rw [zs a d y] at q;cases q
  .cases y:Z.lookup a with
   |none=>exact .inr {.inl (.inr {o,by rw [aA y];exact q}),z}|some d=>rw [zs a d y] at q;cases q
  .exact .inr {.inr q,z}
 |.lst xs,_,h=>by
  simp! [Rep] at h⊢;let(a,vs,e,q,l):=h
  refine{a,vs,e,?_,aq.less zs xs l};rcases q with(q|⟨o,q⟩)|q
  .cases y:Z.lookup a with
   |none=>exact .inl (.inl (by rw [aA y];exact q))|some d=>rw [zs a d y] at q;cases q
  .cases y:Z.lookup a with
   |none=>exact .inl (.inr {o,by rw [aA y];exact q})|some d=>rw [zs a d y] at q;cases q
  .exact .inr q
 |.exc c,_,h=>by
  simp! [Rep] at h⊢;let(a,C,e,x,m,q):=h
  cases y:Z.lookup a with
  |none=>exact{a,C,e,x,m,by rw [aA y];exact q}|some d=>rw [zs a d y] at q;unfold lB at q;cases q
 |.aY g vs,_,h=>by
  simp! [Rep] at h⊢;let(a,o,f,e,n,m,l):=h
  refine{a,o,f,e,n,?_,aq.less zs vs l};cases y:Z.lookup a with
  |none=>rw [aA y];exact m|some d=>rw [zs a d y] at m;cases m
theorem aq.less(zs:∀b o,Z.lookup b=gF o->G b=gF (.bC o cg)):∀(ps:List PV) {vs:List V},aq W G ps vs->aq W (bb Z G) ps vs
 |[],_,h=>by simpa only [aq] using h|p::ps,_,h=>by simp! [aq] at h⊢;let(v,r,e,h1,a):=h;exact{v,r,e,Rep.less zs p h1,aq.less zs ps a}
end
theorem lZ(t:cY W G H)(h:aB G H)(zs:∀b o,Z.lookup b=gF o->G b=gF (.bC o cg))(zc:∀b o,Z.lookup b=gF o->∃v,o.data=.cell v):cY W (bb Z G) (bb Z H):=λP q m=>by
 let(n,ps,e,tr,i):=t P q m;refine{ko n,ps,?_,tr,λc j y=>?_}
 .cases y:Z.lookup P with
  |none=>rw [aA y];exact e|some o=>rw [h _ _ (zs P o y)] at e;cases e
 .let(a,oc,p,r,s,d,f,u):=i c j y
  refine{a,oc,p,r,s,?_,f,u};cases y:Z.lookup a with
  |none=>rw [aA y];exact d|some o=>rw [zs a o y] at d;cases d;let(v,g):=zc a _ y;rw [f] at g;cases g
theorem aE.wz{p c:Hp}(g:aE W (bb Z G) (bb Z H) p c)(r:aB G H)(zs:∀b o,Z.lookup b=gF o->G b=gF (.bC o cg))(zc:∀b o,Z.lookup b=gF o->∃v,o.data=.cell v)(d:∀b o,Z.lookup b=gF o->c b=gK):aE W G H (bg Z p) (bg Z c) where
 g:=λb u e=>by
  cases y:Z.lookup b with
  |none=>rw [au y];exact g.g _ _ (by rw [aA y];exact e)|some o=>rw [bF y];rw [zs b o y] at e;exact e
 h:=λb u e=>by
  cases y:Z.lookup b with
  |none=>rw [au y];exact g.h _ _ (by rw [aA y];exact e)|some o=>rw [r _ _ (zs b o y)] at e;cases e;exact .inl {(λY z=>nomatch z),bF y}
 sub:=λb u e=>by
  cases y:Z.lookup b with
  |none=>rw [au y] at e⊢;exact g.sub _ _ e|some o=>rw [bF y] at e⊢;exact e
 own:=λa w A f=>by
  cases y:Z.lookup a with
  |none=>rw [au y];exact g.own a (by rw [aA y];exact w) (by rw [aA y];exact A) (by rw [aA y];exact f)|some o=>rw [zs a o y] at f;cases f
 tab:=λt P q m=>by
  let(n,ps,e,tr,B):=g.tab (lZ t r zs zc) P q m;refine{?_,ps,?_,tr,λi C y=>?_}
  .cases y:Z.lookup P with
   |none=>rw [au y];exact n|some o=>rw [d P o y] at e;cases e
  .cases y:Z.lookup P with
   |none=>rw [au y];exact e|some o=>rw [d P o y] at e;cases e
  .let(j,oc,D,E,I,s,K,L):=B i C y
   refine{j,oc,D,E,I,?_,K,L};cases y:Z.lookup j with
   |none=>rw [au y];exact s|some o=>have:=g.sub _ _ s;rw [d j o y] at this;cases this
theorem w5(t:cY W G H)(g:aB G H)(a:∀b o,Z.lookup b=gF o->H b=gK):cY W (bg Z G) (bg Z H):=λP q m=>by
 let(n,ps,e,tr,h):=t P q m;refine{?_,ps,?_,tr,λc i y=>?_}
 .cases y:Z.lookup P with
  |none=>rw [au y];exact n|some o=>rw [a P o y] at e;cases e
 .cases y:Z.lookup P with
  |none=>rw [au y];exact e|some o=>rw [a P o y] at e;cases e
 .let(d,oc,j,p,r,f,s,u):=h c i y
  refine{d,oc,j,p,r,?_,s,u};cases y:Z.lookup d with
  |none=>rw [au y];exact f|some o=>have:=g _ _ f;rw [a d o y] at this;cases this
theorem aE.lz{d f:Hp}(g:aE W (bg Z G) (bg Z H) d f)(i:aB G H)(zc:∀b o,Z.lookup b=gF o->∃v,o.data=.cell v)(c:∀b o,Z.lookup b=gF o->H b=gK):aE W G H (bb Z d) (bb Z f) where
 g:=λb u e=>by
  cases y:Z.lookup b with
  |none=>rw [aA y];exact g.g _ _ (by rw [au y];exact e)|some o=>have:=i _ _ e;rw [c b o y] at this;cases this
 h:=λb u e=>by
  cases y:Z.lookup b with
  |none=>rw [aA y];exact g.h _ _ (by rw [au y];exact e)|some o=>rw [c b o y] at e;cases e
 sub:=λb u e=>by let(q,j):=fC e;rw [aA q];exact g.sub _ _ j
 own:=λa m p r=>by
  cases y:Z.lookup a with
  |none=>rw [aA y];exact g.own a (by rw [au y];exact m) (by rw [au y];exact p) (by rw [au y];exact r)|some o=>exact gA y
 tab:=λt=>lZ (g.tab (w5 t i c)) g.sub (λb o q=>g.g _ _ (bF q)) zc
def CQ(a:aB G H):aB (bg Z G) (bg Z H):=λb u e=>by
 cases y:Z.lookup b with
 |none=>rw [au y] at e⊢;exact a _ _ e|some o=>rw [bF y] at e⊢;exact e
theorem yw{a c:Hp}(s:aB a c)(d:∀b o,Z.lookup b=gF o->c b=gK):aB a (bg Z a):=λb u e=>by
 cases y:Z.lookup b with
 |none=>rw [au y];exact e|some o=>have:=s _ _ e;rw [d b o y] at this;cases this
def w9(zs:∀b o,Z.lookup b=gF o->H b=gF (.bC o cg)):bg Z (bb Z H)=H:=by
 funext b
 cases y:Z.lookup b with
 |none=>rw [au y,aA y]|some o=>rw [bF y,zs b o y]
def vU(zs:∀b o,Z.lookup b=gF o->H b=gK):bb Z (bg Z H)=H:=by
 funext b
 cases y:Z.lookup b with
 |none=>rw [aA y,au y]|some o=>rw [gA y,zs b o y]
theorem EJ(k:fe P w H h)(zs:∀b o,Z.lookup b=gF o->H b=gF (.bC o cg)):fe P w (bb Z H) h:=λb v e=>by
 let(q,a):=fC e;refine(k b v a).eO (λc y Y r=>r) (λc r=>?_) λc xs r=>?_
 .cases y:Z.lookup c with
  |none=>rw [aA y];exact r|some o=>rw [zs c o y] at r;cases r
 .cases y:Z.lookup c with
  |none=>rw [aA y];exact r|some o=>rw [zs c o y] at r;cases r
def BL{K:zz8}{s:hD}(e:kK P w K mg base A outer s H)(zs:∀b o,Z.lookup b=gF o->H b=gF (.bC o cg)):kK P w K mg base A outer s (bb Z H):=
 {e.frames,e.mod,λb o q=>{(e.bs b o q).1,ko (e.bs b o q).2},e.xF,e.gY,λb a=>ko (e.xO b a),EJ e.aN zs,e.bare}
def Gw{ps:List Str}{a:hZ}(h:U0 ps a=gS):uR ps (bH a) a:=by unfold U0 at h;simp! [zza,zzy,Bool.not_eq_true',zzN,c5] at h;let((((((b,c),d),e),f),g),i):=h;refine{b,c,d,e,f,g,i,λx j=>?_};unfold bH;rw [List.mem_reverse,fm];exact{(x,.free),List.mem_filter.mpr {PySem.mem_of_lookup j,rfl},rfl}
def ze{b:i2}{ps:List Str}{c:hZ}{cl:List (Str×hF)}{d e ct:hB}(h:sJ b=gF ps)(us:List hB)(hl:us.length=ps.length):bindArgs (PySem.W.kla_fn (zu 13) qual b body c cl d e ct) {us,[]}=pure (ps.zip us):=by
 rcases yY h with⟨rfl,rfl⟩|⟨a,rfl,rfl⟩
 .cases us with
  |nil=>rfl|cons _ _=>cases hl
 .cases us with
  |nil=>cases hl
  |cons u r=>
   cases r with
   |cons _ _=>cases hl
   |nil=>simp [bindArgs,seqItems?,PySem.W.kla_fn];rfl
def IG{b:i2}{ps:List Str}{env:Env}(h:sJ b=gF ps):defaultsOf b env=([],[]):=by
 rcases yY h with⟨rfl,rfl⟩|⟨a,rfl,rfl⟩
 .rfl
 .rfl
theorem iN{l:List PV}(c:Str):∀{idx:List Nat},fM l idx≠.exc c
 |[]=>nofun|i::idx=>λz=>by
  unfold fM at z;rcases Res.ei z with z|⟨p,_,z⟩
  .exact Res.aW c z
  .rcases Res.ei z with z|⟨ps,_,z⟩
   .exact iN c z
   .cases z
end
def HU(i:Nat):E:=.var i
abbrev vD:List Nat->Es
 |[]=>.nil|i::r=>.cons (HU i) (vD r)
theorem IM(i:Nat):iH (HU i)=gS:=rfl
theorem zJ:∀idx:List Nat,iB (vD idx)=gS
 |[]=>rfl|i::r=>by unfold vD iB;rw [IM,zJ r];rfl
theorem zK{F:aL}{l:List PV}:∀{as:List hI} {idx:List Nat} {qs:List PV},jw N as idx=gS->fM l idx=.ok qs->cQ F (vD idx) (l.map .val)=.ok qs
 |[],[],qs,_,h=>by cases h;unfold vD;rw [cQ]
 |a::as,i::idx,qs,b,h=>by
  unfold jw at b;rw [zza] at b;unfold fM at h;let(p,c,h):=Res.bu h;let(ps,d,h):=Res.bu h;cases h;unfold vD;rw [cQ];have e:aJ F (HU i) (l.map .val)=.ok p:=by have:=Res.of_ok c;unfold HU;rw [aJ,cS,this];rfl
  rw [e];show(cQ F (vD idx) (l.map .val)).bind _=_;rw [zK b.2 d];rfl
 |[],_::_,_,h,_=>aP h|_::_,[],_,h,_=>aP h
def oj{a:hI}{i:Nat}(h:Q5 N i a=gS)(as:List hI)(env:Env):starEach (a::as) env=(gU,eval a env)::starEach as env:=by let(x,e,_):=aj h;let(p,rfl):=b9 e;rfl
theorem qU{env:Env}:∀{as:List hI} {idx:List Nat} {pos:Pos},jw N as idx=gS->(backTo pos (starEach as env)).any (·.1)=gU
 |[],_,_,_=>rfl|a::as,[],_,h=>aP h|a::as,i::idx,pos,h=>by unfold jw at h;rw [zza] at h;rw [oj h.1];show(gU||(backTo pos (starEach as env)).any (·.1))=gU;rw [qU h.2];rfl
theorem zR{W:Wd}{F:aL}(hK:W.K=X.K)(c:∀(i:Nat) (x:Str),X.N[i]?=gF x->Qn X.env.scope x):∀{as:List hI} {idx:List Nat},jw X.N as idx=gS->GA X W F (vD idx) as
 |[],[],_=>El|a::as,i::idx,h=>by unfold jw at h;rw [zza] at h;have hs:=oj h.1 as X.env;have d:=h.1;let(x,e,b):=aj d;let(p,rfl):=b9 e;rw [zza,zzy] at b;exact zS (zT b.1 (c i x b.1) b.2) (zR hK c h.2) hs|[],_::_,h=>aP h|_::_,[],h=>aP h
def KZ{W:Wd}{as:List PV}(d:aB G H)(tb:cY W G H)(l:aq W G as vs):SR W H (as.map .val) (vs.map gF) G H:=by
 refine{by rw [zzl,zzl];exact l.length.symm,d,iM.refl _,λi s e=>?_,λi j p q a b Z Z Z=>?_,tb,tb}
 .rw [cS] at e;let(p,c,rfl):=b0.mp e;let(v,f,g):=l.qr c;exact{gF v,by rw [cS,f];rfl,v,rfl,g}
 .rw [cS] at b;let(p,c,e):=b0.mp b;cases e
section
variable{Γ:Pg}{W:Wd}{F:aL}{sc:hZ}{k:Nat}
def Al{c:i2}{b:hZ}(h:JD g idx c body b=gS):∃ps a as np pos,sJ c=gF ps/\idx.head?=gF ps.length/\body=.Call (.Name g np) (a::as) [] pos/\b.names.lookup g=gF .globalImplicit/\okN g=gS/\i6 g=gU/\jw (ps++bH b) (a::as) idx.tail=gS/\uR ps (bH b) b:=by
 let(ps,i,h):=FH h;let((f,args,j,pos),m,h):=FH h;simp! [zza,zzy,Bool.not_eq_true',zzN] at h;let((((((((o,p),q),r),s),t),u),w),y):=h;let(np,d):=b9 o;have e:=List.isEmpty_iff.1 p
 try dsimp only at d e
 subst d e;cases args with
 |nil=>cases q
 |cons a as=>exact{ps,a,as,np,pos,i,r,iO m,s,t,u,w,Gw y}
def zl(C:zv3 X){c8 as qs:List PV}{f:hF}{G:Hp}{s:hD}{Q:VK}{vs:List V}
 (I:zv2 s) (m:aB G H) (tb:cY W G H) (cr:su W G g idx c8 (.ref f)) (l:aq W G as vs) (r:Vals vs us) (hn:idx.head?=gF as.length) (hq:fM (as++c8) idx.tail=.ok qs)
 (o:Out X W (F g qs) σ G H λp=>dP W G H p Q):zx7 X (call (.ref f) us) (EP X ae σ Q) X.xe s:=by
 let(f',c',oc,dM,t,gN,pm,params,body,h,j,cl,Z,ws,e,d):=cr;cases e;let(ps,a,as',np,pos,O,e0,rfl,e2,e3,e4,e5,S):=Al d.lg;have EI:F g qs≠.bad:=λz=>by rw [z] at o;exact o
 have L:as.length=ps.length:=zzq (hn.symm.trans e0);have U:∀b o,Z.lookup b=gF o->H b=gF (.bC o cg):=λb o q=>m _ _ (d.zs b o q);have ZO:bg Z (bb Z H)=H:=w9 U;have Ln:xu Z (bb Z H) (fh X.stack) s.heap:={λb o q=>(I.aN b _ (U b o q)).1,λb o q=>gA q,λb o q hb=>by have:=I.nX b hb;rw [U b o q] at this;cases this};have rl:aq W (bb Z G) (as++c8) (vs++ws):=(aq.less d.zs as l).append d.rep
 have vL:Γ.fs.contains g=gS:=by
  rcases C.any g qs EI with z|z
  .exact z
  .rw [e4] at z;cases z
 let(fa,fd,pn,FO,hm,hk,hb,hal):=(C.fns g vL).ex;have sgl:aB (bb Z G) (bb Z H):=sf m
 refine wpAny_call (codeAny_mono (L2.Am (E:=λCv ao M=>∃c,F g qs=.exc c/\XE W c G H Cv ao M) (Q:=Q) (Z:=Z) (ws:=ws) (vs:=vs) (t:=λY H1 Q1=>H1=bb Z H/\Y=vs.map gF++ws.map gF/\∀u H3,(match F g qs with
  |.ok p=>∃G3,aE W (bb Z G) (bb Z H) G3 H3/\Rep W G3 p u|_=>False)->Q1 u H3) S C.room (BL I.BK U) Ln ?zb (I.aN _ _ (m _ _ d.fo)).1 (I.aN _ _ (m _ _ d.co)).1 d.cd d.cn (ze O us (by rw [<-r.length,l.length,L])) r (by rw [l.length,L]) d.len d.has d.inj d.cells ?cells ?ht ?hq) λrr s' D=>?end_)
 case zb=>
  intro b o q;cases y:X.base.get? b with
  |none=>rfl|some o'=>have:=(I.bs b o' y).2;rw [U b o q] at this;cases this
 case cells=>intro i y c h1 h2 v T;let(u,o',q1,q2,q3):=d.vals i y c h1 h2 v T;exact{u,q1,o',Ln.at_ c o' q2,q3}
 case hq=>
  refine{rfl,rfl,λu H3 T zn=>?_}
  .cases z:F g qs with
   |ok p=>rw [z] at T o;let(G3,g3,r3):=T;exact o u _ _ (g3.wz m d.zs d.zc zn) (Rep.same (yw g3.sub zn) p r3)|exc c=>rw [z] at T;exact T.elim|bad=>exact absurd z EI
 case ht=>
  intro lU s1 Y H1 Q1 I1 h1;let(rfl,rfl,q2):=h1;have sr0:=KZ sgl (lZ tb m d.zs d.zc) rl;have P:=e5
  cases hi:idx.tail with
  |nil=>rw [hi] at P;exact aP P|cons i0 idx'=>
  rw [hi] at P;unfold jw at P;rw [zza] at P;refine wpAny_Call_Name_kw (ie (X:=LF X.prog X.w X.K X.mg X.base (ps++bH h) j h f (.ref c') cl X.A X.stack s (bb Z H) _) I1 e2 hm ?_ (dn e3).1);refine PySem.W.callWith_K (h₀:=X.base) I.ok.mod.Su hk (cm (zR (F:=F) (X:=LF X.prog X.w X.K X.mg X.base (ps++bH h) j h f (.ref c') cl X.A X.stack s (bb Z H) _) C.K (λi x hx=>?_) e5 pos lU s1 _ (bb Z H) (λTL H2=>∃G2,aE W (bb Z G) (bb Z H) G2 H2/\aq W G2 qs TL) I1 {bb Z H,bb Z G,(as++c8).map .val,(by rw [<-List.map_append];exact sr0),?_}) λus2 s2 ⟨TL,H2,I2,r2,G2,g2,ry⟩=>{I2.rN,?_}) (oj P.1 _ _) (qU P.2)
  .rcases List.mem_append.mp (a0 hx) with z|z
   .exact .inl (S.par x z)
   .exact .inr (.inr (S.VS x z))
  .rw [zK e5 hq];exact λTL G1 H1 g1 t1=>{G1,g1,t1.rep (zJ _)}
  .refine oC (X:=LF X.prog X.w X.K X.mg X.base (ps++bH h) j h f (.ref c') cl X.A X.stack s (bb Z H) _) (q:=gK) (as:=qs) (G:=G2) (C.room.deeper _) FO hb (λz=>by rw [ry.length];exact hal qs z) I2 g2.sub (g2.tab (lZ tb m d.zs d.zc)) ry r2 ?_;cases z:F g qs with
   |ok p=>rw [z] at q2;exact λv G' M g' rp=>q2 v M {G',g2.trans g',rp}|exc c=>intro R G3 H3 s3 e s' I3 g3 x3;refine S2 R _ H3 s3 e s' I3 (Dy.imp x3 λCv ao M y zn=>?_);let(C4,a4,G4,y1,y2,y3,y4,y5):=y;exact{c,rfl,C4,a4,_,y1,y2,y3,y4,((g2.trans g3).trans y5).wz m d.zs d.zc zn}|bad=>exact absurd z EI
 case end_=>
  rw [ZO] at D;cases rr with
  |error e=>
   have D:eP X.prog X.w X.stack H s (λCv ao M=>∃c,F g qs=.exc c/\XE W c G H Cv ao M) e s':=D
   cases z:F g qs with
   |ok q=>let(a,C',t,vs,M,B,rfl,Fl):=D;let(c,O,_):=Fl.ends;rw [z] at O;cases O
   |exc c=>rw [z] at o;refine o ae G H s e s' I (.refl m) (Dy.imp D λC1 a M y=>?_);let(c',O,y):=y;rw [z] at O;cases O;exact y
   |bad=>exact absurd z EI
  |ok fl=>
   cases fl with
   |ret u=>exact I.after D|next=>exact eu D|brk=>exact eu D|cont=>exact eu D
def Eo(C:zv3 X){i:Nat}{e:E}{es:Es}{p:hI}{ps:List hI}(h:(N[i]?==gF x&&fK sc x&&okN x)=gS)(EC:iB (.cons e es)=gS)(ha:GA X W F (.cons e es) (p::ps))
 (d9:starEach (p::ps) X.env=(gU,eval p X.env)::starEach ps X.env) (hpl:(backTo pos (starEach ps X.env)).any (·.1)=gU):GE X W F (.kU i (.cons e es)) (.Call (.Name x np) (p::ps) [] pos):=by
 simp! [zza,zzy] at h;let(h1,h2,h3):=dn h.2;intro V s D H Q I z;let(H0,G,env,K,o):=z
 rw [aJ] at o;cases j:env[i]? with
 |none=>rw [j] at o;exact o.elim|some sl=>
  cases sl with
  |no=>rw [j] at o;exact o.elim|val _=>rw [j] at o;exact o.elim|own _=>rw [j] at o;exact o.elim|Dl _=>rw [j] at o;exact o.elim|fn g idx L=>
   rw [j] at o;let(Y,hs,v,rfl,cr):=K.slot i _ j;have VG:=cr;let(f,c',oc,dM,t,gN,pm,a,body,m,B,cl,Z,ws,e2,d):=VG;subst e2;refine wpAny_Call_Name_kw (wpAny_mono (f7 (i:=i) (by rw [C.hN];exact h.1.1) (qg C h.1.2) h1 h2 V s D H (λv' M=>v'=.ref f/\M=H) I {_,hs,rfl,rfl}) (λu s1 hu=>?_) λ_ _ y=>y);let(v',M,I1,ru,rfl,rfl):=hu;cases ru;refine PySem.W.callWith_F {_,_,_,_,(I1.aN _ _ (K.sub _ _ d.fo)).1} (cm (ha pos V s1 D M (λO w=>∃b as qs,aB b w/\cY W b w/\aq W b as O/\su W b g idx L (.ref f)/\b f=gF (.bC (PySem.W.kla_obj (zu 13) B a body m cl pm c' gN) cg)/\idx.head?=gF as.length/\fM (as++L) idx.tail=.ok qs/\Out X W (F g qs) D b w λp=>dP W b w p Q) I1 ?_) λus s2 ⟨O,w,I2,r,q⟩=>?_) d9 hpl
   .refine args K o λas O G1 w P t1 bI A=>?_;split at A
    .rename_i R;cases z:fM (as++L) idx.tail with
     |ok qs=>rw [z] at A;have wo:Out X W (F g qs) D G1 w _:=A;exact{G1,as,qs,bI.sub,bI.tab,t1.rep EC,cr.same P.g,P.g _ _ d.fo,R,z,wo.imp λp hp v G' H' g' rp=>hp v G' H' (P.trans g') (.of rp)}|exc c=>exact absurd z (iN c)|bad=>rw [z] at A;exact A.elim
    .exact A.elim
   .let(b,as,qs,sg,tb,l,S,T,R,U,Y):=q;exact{{_,_,_,_,(I2.aN _ _ (sg _ _ T)).1},zl C I2 sg tb S l r R U Y}
def BV(C:zv3 X){i:Nat}(h:(N[i]?==gF x&&fK sc x&&okN x)=gS):GE X W F (.kU i .nil) (.Call (.Name x np) [] [] pos):=by
 simp! [zza,zzy] at h;let(E,K,h3):=dn h.2;intro L s q H Q I b;let(H0,G,env,e,o):=b
 rw [aJ] at o;cases a:env[i]? with
 |none=>rw [a] at o;exact o.elim|some M=>
  cases M with
  |no=>rw [a] at o;exact o.elim|val _=>rw [a] at o;exact o.elim|own _=>rw [a] at o;exact o.elim|Dl _=>rw [a] at o;exact o.elim|fn g idx w=>
   rw [a] at o;let(o2,hs,v,rfl,z):=e.slot i _ a;have O:=z;let(f,c',oc,dM,t,gN,pm,j,body,r,A,cl,Z,ws,P,d):=O;subst P;refine wpAny_Call_Name_kw (wpAny_mono (f7 (i:=i) (by rw [C.hN];exact h.1.1) (qg C h.1.2) E K L s q H (λB m=>B=.ref f/\m=H) I {_,hs,rfl,rfl}) (λu s1 R=>?_) λ_ _ y=>y);let(B,m,D,S,rfl,rfl):=R;cases S;refine PySem.W.callWith_F0 {_,_,_,_,(D.aN _ _ (e.sub _ _ d.fo)).1} ?_;rw [cQ] at o;have o:Out X W (if idx.head?=gF 0 then(fM ([]++w) idx.tail).bind λqs=>F g qs else .bad) q G m _:=o;split at o
   .rename_i T;cases b:fM ([]++w) idx.tail with
    |ok qs=>rw [b] at o;have U:Out X W (F g qs) q G m _:=o;exact zl C D e.sub e.tab z (show aq W G [] [] from .nil) .nil T b (U.imp λp V v Y H' g' rp=>V v Y H' g' (.of rp))|exc c=>exact absurd b (iN c)|bad=>rw [b] at o;exact o.elim
   .exact o.elim
def sy(X:Cx)(W:Wd)(a:i2)(body:hI)(b:hZ)(cl:List (Str×hF))(g h c i:Hp)(f:hF):Prop:=aE W g h c i/\∃d oc e t j m,c f=gF (.bC (PySem.W.kla_obj (zu 13) (X.env.qual++(zu 13)) a body b cl m d j) cg)/\c d=gF (.bC oc cg)/\oc.data=.fields e/\e[1]?=gF (.str (X.env.qual++(zu 13)) t)
def FX(C:zv3 X)(hl:Γ.hl=gS){d:i2}{ps:List Str}{g:hZ}{cl:List (Str×hF)}(hp:sJ d=gF ps)(EB:closureFor g X.env=pure cl):
 PE X (.Lambda d body g pos) (λσ H Q=>∃G,aB G H/\cY W G H/\∀f G2 H2,sy X W d body g cl G H G2 H2 f->Q (.ref f) H2):=by
 intro ae s σ H Q I h;let(G,S,tb,q):=h;let(c,P,zX,CH,hts,huq):=C.tb hl;let(nG,qe,hP,tr,al):=tb P _ hts;refine L2.Fe (R:=λi oc=>G i=gF (.bC oc cg)) I hP tr zX CH (C.bm hl) EB (IG hp) (λD e=>?_) λf i oc T t gN ui h' tk U V HA hfP Z9 hd hv tr' ZH more I'=>?_
 .let(i,oc,T,t,E,r,K,L):=al pos D e;exact{i,oc,T,t,E,S _ _ r,r,K,L}
 .have ZX:G f=gK:=S.free U
  have ZW:G i=gK\/G i=gF (.bC oc cg):=by
   rcases V with z|z
   .exact .inl (S.free z)
   .exact .inr z.2
  have fo:∀fo,iW H P ui i oc f fo f=gF (.bC fo cg):=λfo=>by unfold iW;rw [av]
  have sG:∀fo,aB G (upd (upd G i (.bC oc cg)) f (.bC fo cg)):=λfo b u e=>by
   have A:b≠f:=λz=>by rw [z,ZX] at e;cases e
   rw [ah A];by_cases w:b=i
   .subst w;rw [av];rcases ZW with z|z
    .rw [z] at e;cases e
    .rw [z] at e;exact e
   .rw [ah w];exact e
  have WY:∀fo a,H a≠gK->(∀vs,H a≠gF (.tup vs))->G a=gK->(upd (upd G i (.bC oc cg)) f (.bC fo cg)) a=gK:=λfo a h1 _ h2=>by
   have Z4:a≠f:=λz=>h1 (by rw [z];exact U);rw [ah Z4];by_cases ha:a=i
   .subst ha;rcases V with z|z
    .exact absurd z h1
    .rw [z.2] at h2;cases h2
   .rw [ah ha];exact h2
  refine{.ref f,_,I',rfl,q f (upd (upd G i (.bC oc cg)) f (.bC _ cg)) _ {{sG _,λb u e=>?_,λb u e=>?_,WY _,λ_ Y q' m=>?_},i,oc,T,t,gN,(X.mg (zu 46)).getD .none,av,by rw [ah HA,av],hd,hv}}
  .have A:b≠f:=λz=>by rw [z,U] at e;cases e
   by_cases Z:b=P
   .subst Z;rw [hP] at e;cases e;let(m,rfl):=more;exact .inr {qe,m,rfl,by unfold iW;rw [ah (Ne.symm hfP),ah (Ne.symm Z9),av]}
   .have r:iW H P ui i oc f (PySem.W.kla_obj (zu 13) (X.env.qual++(zu 13)) d body g cl ((X.mg (zu 46)).getD .none) i gN) b=H b:=by
     unfold iW;rw [ah A];by_cases w:b=i
     .subst w;rw [av];rcases V with z|z
      .rw [z] at e;cases e
      .rw [z.1]
     .rw [ah w,ah Z]
    rw [r];exact iM.refl H b u e
  .by_cases A:b=f
   .subst A;rw [av] at e;rw [fo];exact e
   .rw [ah A] at e;unfold iW;rw [ah A];by_cases w:b=i
    .subst w;rw [av] at e⊢;exact e
    .rw [ah w] at e⊢;have Z:b≠P:=λz=>by rw [z,nG] at e;cases e
     rw [ah Z];exact S _ _ e
  .let(n1,qs,p,tr1,M):=tb Y q' m;have RY:Y≠f:=λz=>by rw [z,U] at p;cases p
   have kg:Y≠i:=λz=>by
    rcases V with y|y
    .rw [z,y] at p;cases p
    .rw [z,y.1] at p;cases p
   refine{by rw [ah RY,ah kg];exact n1,?_};by_cases O:Y=P
   .subst O;rw [hP] at p;cases p;refine{ui,by unfold iW;rw [ah RY,ah kg,av],tr',λj D y=>?_}
    rcases ZH j D y with y|y
    .let(c2,B,o,t2,E,r,K,L):=M j D y;exact{c2,B,o,t2,E,sG _ _ _ r,K,L}
    .exact{i,oc,T,t,y,by rw [ah HA,av],hd,by rw [huq q' m];exact hv}
   .refine{qs,by unfold iW;rw [ah RY,ah kg,ah O];exact p,tr1,λj D y=>?_};let(c2,B,o,t2,E,r,K,L):=M j D y;exact{c2,B,o,t2,E,sG _ _ _ r,K,L}
structure DC(N:List Str)(sc:hZ)(g:Str)(idx bw:List Nat)(params:i2)(body:hI)(scope:hZ):Prop where
 lb:JD g idx params body scope=gS
 cn:bw.map (λi=>N[i]?)=(bH scope).map gF
 cc:∀y∈bH scope,sc.names.lookup y=gF .cell
abbrev Tt(X:Cx)(W:Wd)(F:aL)(N:List Str)(sc:hZ)(g:Str)(idx j:List Nat)(es:Es):TA:=λd H Q=>∃m G env,SR W m env d G H/\Out X W (cQ F es env) d G H λas=>∀e c h,aE W G H c h->aq W c as e->∀b body a f o i,DC N sc g idx j b body a->sy X W b body a (cj X.env (bH a)) c h o i f->Q (e++[.ref f]) i
def Fc(C:zv3 X)(ok:X.Ok){d:List Nat}{c:i2}{b:hZ}(a:DC N sc g idx d c body b):closureFor b X.env=pure (cj X.env (bH b)):=by refine j3 λy e f=>ok.has y.1 (.inl ?_);show X.env.scope.names.lookup y.1=_;rw [C.fH];refine a.cc y.1 ?_;unfold bH;rw [List.mem_reverse,fm];exact{y,List.mem_filter.mpr {e,by rw [f];rfl},rfl}
def Kc(C:zv3 X)(hl:Γ.hl=gS){i:List Nat}{b:i2}{c:hZ}(a:DC N sc g idx i b body c):PA X [.Lambda b body c pos] (Tt X W F N sc g idx i .nil):=by let(ps,_,_,_,_,j,_):=Al a.lb;intro d p s q H Q I h;refine bQ (FX C hl j (Fc C I.ok a)) dE rfl d p s q H Q I ?_;let(u,G,env,e,o):=h;rw [cQ] at o;refine{G,e.sub,e.tab,λf r t m=>?_};exact o [] G H (.refl e.sub) .nil b body c f r t a m
theorem FP{d:List Nat}{e:E}{es:Es}{p:hI}{ps:List hI}(c:iB (.cons e es)=gS)(he:GE X W F e p)(hs:PA X ps (Tt X W F N sc g idx d es))(j:starEach (p::ps) X.env=(gU,eval p X.env)::starEach ps X.env):PA X (p::ps) (Tt X W F N sc g idx d (.cons e es)):=
 L2.PA.imp (bQ he hs j) λM H Q h=>by let(m,G,env,r,o):=h;rw [cQ] at o;unfold iB at c;rw [zza] at c;refine one r o λq v s O t u w y=>{m,s,env,w,y.bind.imp λas z A B C i l=>?_};intro a body b f D I K L;have:=z (v::A) B C (t.trans i) (.cons (Rep.same i.g q (u.rep c.1)) l) a body b f D I K L;simpa using this
def lookup_all{Z:ke}(a:∀q∈Z,h.get? q.1=gF q.2):∀{c:hF} {o:Obj},(c,o)∈Z->Z.lookup c=gF o:=by
 induction Z with
 |nil=>intro c o m;cases m
 |cons q Z d=>
  intro c o m;let(f,g):=q
  rw [gd];cases e:c==f with
  |true=>have i:=zzy.mp e;subst i;have j:=a (c,g) cP;have b:h.get? c=gF o:=a (c,o) m;rw [j] at b;exact b|false=>
   rcases ey.mp m with z|z
   .cases z;simp at e
   .exact d (λq p=>a q (bc _ p)) z
theorem vh{c:St}(d:SR W H0 env c G H):∀{a:List Nat} {cs:List PV},mi env a=.ok cs->∃ws:List V,aq W G cs ws/\ws.length=a.length/\∀(j:Nat) (i:Nat),a[j]?=gF i->∃v,ws[j]?=gF v/\c[i]?=gF (gF v)
 |[],cs,h=>by unfold mi at h;cases h;exact{[],.nil,rfl,λj i e=>by simp at e}
 |i::a,cs,h=>by
  unfold mi at h;let(p,b,h):=Res.bu h;let(ps,f,h):=Res.bu h
  cases h;have hs:env[i]?=gF (.val p):=by
   cases e:env[i]? with
   |none=>rw [e] at b;cases b
   |some s=>rw [e] at b;cases s<;>cases b;rfl
  let(o,g,v,rfl,m):=d.slot i _ hs;let(ws,q,r,t):=vh d f;refine{v::ws,.cons m q,by simp [r],λj k e=>?_}
  cases j with
  |zero=>simp at e;subst e;exact⟨v,rfl,g⟩|succ j=>simpa using t j k (zx6 e)
theorem oD(c:Str):∀{a:List Nat},mi env a≠.exc c
 |[]=>nofun|i::a=>λz=>by
  unfold mi at z;rcases Res.ei z with z|⟨p,_,z⟩
  .cases e:env[i]? with
   |none=>rw [e] at z;cases z
   |some s=>rw [e] at z;cases s<;>cases z
  .rcases Res.ei z with z|⟨ps,_,z⟩
   .exact oD c z
   .cases z
def Bg(C:zv3 X)(hl:Γ.hl=gS){q:Hs}{R:List Nat}{fa:hF}{fd:FuncData}{pn:List Str}(FO:iK X.prog X.w X.K X.mg X.base (eP X.prog X.w) k fa fd pn (Dt W F q.f pn.length (gF (q.g,q.idx))))(hb:Binds X.K fd pn []){s:hD}{as cs:List PV}{j:i2}{d:hZ}{f T:hF}{oc:Obj}{dM:Array hB}{t:Tok}{gN pm:hB}
 (I:zv2 s) (O:SR W H0 env σ G H) (a:DC N sc q.g q.idx R j body d) (N3:mi env R=.ok cs) (l:aq W G as vs) (fo:G f=gF (.bC (PySem.W.kla_obj (zu 13) (X.env.qual++(zu 13)) j body d (cj X.env (bH d)) pm T gN) cg)) (co:G T=gF (.bC oc cg)) (cd:oc.data=.fields dM) (cn:dM[1]?=gF (.str (X.env.qual++(zu 13)) t))
 (hlen:(vs++[V.ref f]).length=pn.length) (r:Vals (vs++[.ref f]) us) (o:Out X W (F q.f (as++cs)) σ G H λp=>dP W G H p Q):zx7 X (call (.ref fa) us) (EP X ae σ Q) X.xe s:=by
 have EI:F q.f (as++cs)≠.bad:=λz=>by rw [z] at o;exact o
 let(ws,rws,U,pws):=vh O N3;have fB:∀y∈bH d,∃c,X.env.cells.lookup y=gF c:=λy L=>I.ok.has y (.inl (by show X.env.scope.names.lookup y=_;rw [C.fH];exact a.cc y L));have call:((bH d).all λy=>(X.env.cells.lookup y).isSome)=gS:=c5.mpr λy L=>by let(c,e):=fB y L;rw [e];rfl
 let Z:ke:=(bH d).filterMap λy=>(X.env.cells.lookup y).bind λc=>(s.heap.get? c).map λo=>(c,o);have TU:∀q∈Z,∃y,y∈bH d/\X.env.cells.lookup y=gF q.1/\s.heap.get? q.1=gF q.2:=λq hq=>by let(y,L,e):=fw.mp hq;let(c,hc,e):=dV.mp e;let(o,Y,rfl):=b0.mp e;exact⟨y,L,hc,Y⟩
 have Xu:∀q∈Z,s.heap.get? q.1=gF q.2:=λq hq=>let⟨_,_,_,h⟩:=TU q hq;h;have Zz:∀y c o,y∈bH d->X.env.cells.lookup y=gF c->s.heap.get? c=gF o->Z.lookup c=gF o:=λy c o L hc Y=>lookup_all Xu (fw.mpr {y,L,by rw [hc];show(s.heap.get? c).map _=_;rw [Y];rfl});have TR:∀b o,Z.lookup b=gF o->∃y,y∈bH d/\X.env.cells.lookup y=gF b/\s.heap.get? b=gF o:=λb o e=>by let(y,M,D,S):=TU (b,o) (PySem.W.mem_of_lookupK e);exact⟨y,M,D,S⟩
 have zc:∀b o,Z.lookup b=gF o->∃v,o.data=.cell v:=λb o e=>by let(y,_,D,S):=TR b o e;let(v,o',h4,h5):=I.cell y b D;rw [S] at h4;cases h4;exact⟨v,h5⟩
 have TV:∀b o,Z.lookup b=gF o->H b=gK:=λb o e=>by let(y,_,D,_):=TR b o e;exact I.fA y b D
 have ZA:∀b o,Z.lookup b=gF o->G b=gK:=λb o e=>O.sub.free (TV b o e)
 have wb:∀b u,G b=gF u->Z.lookup b=gK:=λb u e=>by
  cases y:Z.lookup b with
  |none=>rfl|some o=>rw [ZA b o y] at e;cases e
 have Ri:∀x c,(cj X.env (bH d)).lookup x=gF c->X.env.cells.lookup x=gF c:=fN call;have VD:∀x c,(cj X.env (bH d)).lookup x=gF c->x∈bH d:=λx c e=>by have:=PySem.mem_of_lookup e;unfold cj at this;let(y,L,e2):=fm.mp this;cases e2;exact L
 have Zy:∀b o,Z.lookup b=gF o->X.s₀.heap.objs.size<=b:=λb o e=>by let(y,_,D,_):=TR b o e;exact I.ok.LA y b (C.fl hl y) D
 have Ln:xu Z H (fh X.stack) s.heap:={λb o e=>let⟨_,_,_,h⟩:=TR b o e;h,TV,λb o e RR=>by
  let(y,_,D,S):=TR b o e
  rcases ey.mp (I.kI b RR) with z|z
  .exact I.By y b D z
  .let(_,o',h4,_):=I.ok.gY.mem z;exact absurd (cB h4) (Nat.not_lt.mpr (Zy b o e))}
 have zb:∀b o,Z.lookup b=gF o->X.base.get? b=gK:=λb o e=>by
  cases y:X.base.get? b with
  |none=>rfl|some o'=>exact absurd (cB (I.ok.bs b o' y).1) (Nat.not_lt.mpr (Zy b o e))
 have hlF:(bH d).length=R.length:=by have:=congrArg List.length a.cn;simpa using this.symm
 have cr:su W (bg Z G) q.g q.idx cs (.ref f):=by
  refine{f,T,oc,dM,t,gN,pm,j,body,d,_,cj X.env (bH d),Z,ws,rfl,{a.lb,by rw [au (wb f _ fo)];exact fo,by rw [au (wb T _ co)];exact co,cd,cn,wb f _ fo,wb T _ co,λx y c M D=>I.ok.inj x y c (Ri x c M) (Ri y c D),λy L=>kZ L,λx c h=>?_,λb o e=>bF e,zc,λi y c M D v S=>?_,by rw [U,hlF],by rw [vU ZA];exact rws}}
  .let(v,o,M,D):=I.cell x c (Ri x c h);exact{o,v,Zz x c o (VD x c h) (Ri x c h) M,D}
  .have hi:i<R.length:=by rw [<-U];exact(a9.mp S).1
   let(v',q1,q2):=pws i R[i] (zzg hi);rw [S] at q1;cases q1;have Z0:X.N[R[i]]?=gF y:=by rw [C.hN];have:=congrArg (λl=>l[i]?) a.cn;simp! [cS,M,zzg hi,Option.map_some] at this;exact zzq this
   let(m,_,hloc):=I.loc;let(u,ru,lk):=hloc R[i] y v Z0 q2 (.inr (.inl (by rw [C.fH];exact a.cc y (a0 M))));have YM:=Ri y c D
   rcases lk with⟨z,_⟩|⟨_,c2,hc2,o,Y,hd⟩
   .have z2:X.env.scope.names.lookup y=gF .local:=z;rw [C.fH,a.cc y (a0 M)] at z2;cases z2
   .rw [YM] at hc2;cases hc2;exact{u,o,ru,Zz y c o (a0 M) YM Y,hd}
 have YU:us.length=pn.length:=by rw [<-r.length];exact hlen
 have o8:=hb s us I.rN (by rw [gg];exact YU);rw [gg] at o8;have rlw:aq W (bg Z G) as vs:=aq.same (λb u e=>by rw [au (wb b u e)];exact e) as l;have znW:∀G' E,aE W (bg Z G) (bg Z H) G' E->∀b o,Z.lookup b=gF o->G' b=gF (.bC o cg):=λG' E g b o e=>g.g _ _ (bF e);refine wpAny_call (codeAny_mono (FO.run X.A X.stack s (bg Z H) {us,[]} us _ (λv E=>Q v (bb Z E)) (λCv ao E=>∃c,F q.f (as++cs)=.exc c/\XE W c G H Cv ao (bb Z E)) C.rm (I.BK.bg Ln zb) o8 r {hlen,bg Z G,as++cs,CQ O.sub,w5 O.tab O.sub TV,{as,cs,vs,.ref f,rfl,rfl,rlw,cr},?_}) λrr s' P=>?_)
 .cases z:F q.f (as++cs) with
  |ok p=>rw [z] at o;exact λv G' E g' rp=>o v _ _ (g'.lz O.sub zc TV) (Rep.less (znW G' E g') p rp)|exc c=>intro Cv ao E y;let(C4,a4,G4,y1,y2,y3,y4,y5):=y;exact{c,rfl,C4,a4,_,y1,y2,y3,y4,y5.lz O.sub zc TV}|bad=>exact absurd z EI
 .cases rr with
  |error e=>
   have P:eP X.prog X.w X.stack H s (λCv ao E=>∃c,F q.f (as++cs)=.exc c/\XE W c G H Cv ao E) e s':=eP.less Ln P
   cases z:F q.f (as++cs) with
   |ok q=>let(a,C',t,vs,E,B,rfl,Fl):=P;let(c,e1,_):=Fl.ends;rw [z] at e1;cases e1
   |exc c=>rw [z] at o;refine o ae G H s e s' I (.refl O.sub) (Dy.imp P λC1 a E y=>?_);let(T,e1,y):=y;rw [z] at e1;cases e1;exact y
   |bad=>exact absurd z EI
  |ok fl=>
   cases fl with
   |ret u=>exact I.after (CE.less Ln P)|next=>exact eu P|brk=>exact eu P|cont=>exact eu P
def vJ(C:zv3 X)(hl:Γ.hl=gS){q:Hs}(U:q∈Γ.hs){e:List Nat}{es:Es}{p:hI}{ps:List hI}(V:gP sc q.h=gS)(Y:okN q.h=gS)(Z:q.np=iY es+1)(ha:PA X (p::ps) (Tt X W F N sc q.g q.idx e es))
 (d9:starEach (p::ps) X.env=(gU,eval p X.env)::starEach ps X.env) (hpl:(backTo pos (starEach ps X.env)).any (·.1)=gU):GE X W F (.rh q.f es q.g q.idx e) (.Call (.Name q.h np) (p::ps) [] pos):=by
 intro ae s i H Q I h;let(R,G,env,S,o):=h;rw [aJ] at o;let(fa,fd,pn,FO,hm,hk,hb,E):=(C.vL q U).ex;refine wpAny_Call_Name_kw (ie I (dI C V) hm ?_ (dn Y).1);refine PySem.W.callWith_K (h₀:=X.base) I.ok.mod.Su hk (cm (ha pos ae s i H (λu w=>∃d as cs K a body b f j oc m t z A,u=K++[.ref f]/\as.length=iY es/\SR W R env i d w/\DC N sc q.g q.idx e a body b/\mi env e=.ok cs/\aq W d as K/\d f=gF (.bC (PySem.W.kla_obj (zu 13) (X.env.qual++(zu 13)) a body b (cj X.env (bH b)) A j z) cg)/\d j=gF (.bC oc cg)/\oc.data=.fields m/\m[1]?=gF (.str (X.env.qual++(zu 13)) t)/\Out X W (F q.f (as++cs)) i d w λp=>dP W d w p Q) I ?_) λus s1 ⟨u,H1,T,r,y⟩=>{T.rN,?_}) d9 hpl
 .refine{R,G,env,S,?_};cases B:cQ F es env with
  |bad=>rw [B] at o;exact o|exc c=>rw [B] at o;exact o|ok as=>
   rw [B] at o;have o:Out X W ((mi env e).bind λcs=>F q.f (as++cs)) i G H _:=o
   cases L:mi env e with
   |bad=>rw [L] at o;exact o.elim|exc c=>exact absurd L (oD c)|ok cs=>rw [L] at o;have o:Out X W (F q.f (as++cs)) i G H _:=o;intro u G1 H1 M l a body b f d w O lm;let(D,j,oc,m,t,z,A,m1,m2,m3,m4):=lm;exact{d,as,cs,u,a,body,b,f,j,oc,m,t,z,A,rfl,ly B,(S.grow M).grow D,O,rfl,aq.same D.g as l,m1,m2,m3,m4,(o.grow (M.trans D)).imp λp hp v G' H' g' rp=>hp v G' H' ((M.trans D).trans g') (.of rp)}
 .let(d,as,cs,K,a,body,b,f,j,oc,m,t,z,A,rfl,P,fk,O,B1,l,m1,m2,m3,m4,o2):=y;exact Bg C hl FO hb T fk O B1 l m1 m2 m3 m4 (by rw [cA,l.length,P,E,Z];rfl) r o2
theorem NA(C:zv3 X){a b:E}{w z:hI}{i O:Pos}(Y:GE X W F a w)(hk:GE X W F b z)(Z:attributeBase w "get" X.env (eval w X.env)=eval w X.env)(hl:(i.endLine==O.line)=gS)(hs:starEach [z] X.env=(gU,eval z X.env)::starEach [] X.env):
 GE X W F (.get a b) (.Call (.Attribute w "get" i) [z] [] O):=
 (FR (by have:=C.room.un;lia) Y hk {Z,by rw [hs];rfl,hl,by rw [hs];rfl}).imp λA H Q h=>by
  let(H0,G,env,sr,o):=h;rw [aJ] at o;refine one sr o λp v G1 H1 g t P R=>?_
  cases p with
  |aY j B=>
   let(d,us,rfl,n,hd,l):=t.top.aY P.sub;refine{d,rfl,.inr {_,hd},?_};refine one P R λq u m r I t2 K S=>?_;let(d',c,e,L,tP,T):=(t.grow I).top.aY K.sub
   cases e;cases M:fI q with
   |none=>have s:Out X W ((Res.of (fI q)).bind _) A m r _:=S;rw [M] at s;exact eu s|some f=>
    have s:Out X W ((Res.of (fI q)).bind _) A m r _:=S;rw [M] at s;have UJ:=eW M;subst UJ;let(b',rfl,o8):=Top.tupI K.sub rfl t2.top;refine{_,.inr {_,f.map .inl,b',tP,rfl,?_,rfl},?_}
    .rw [K.sub _ _ o8,List.map_map];rfl
    .rw [show i8 (kz j c) (f.map .inl)=_ from km f j c];cases D:ai j B f with
     |some pv=>let(w',e1,iJ):=n6 T D;rw [e1];have y:Out X W (Res.ok ((ai j B f).getD .aC)) A m r _:=s;rw [D] at y;exact y w' m r (g.trans I) (.of iJ)|none=>
      have:ai j c f=gK:=by have U:=ji f j c L;have V:=ji f j B (by rw [T.length] at L;exact L);rw [D] at V;rw [<-V] at U;exact Option.isSome_eq_false_iff.mp U |> Option.isNone_iff_eq_none.mp
      rw [this];have y:Out X W (Res.ok ((ai j B f).getD .aC)) A m r _:=s;rw [D] at y;exact y .aC m r (g.trans I) (.of .n)
  |_=>exact eu R
end
end Ci
namespace St
noncomputable abbrev Qh(xs:List Nat):Prop:=xs.Pairwise (·<·)
theorem ox{xs:Array Nat}(t:Qh xs.toList):∀(f m g:Nat),g-m<=f->m<=g->g<=xs.size->(∀i x,xs.toList[i]?=gF x->i<m->x<j)->(∀i x,xs.toList[i]?=gF x->g<=i->j<=x)->
 i3.below.go xs j f m g<=xs.size/\(∀i x,xs.toList[i]?=gF x->i<i3.below.go xs j f m g->x<j)/\(∀i x,xs.toList[i]?=gF x->i3.below.go xs j f m g<=i->j<=x)
 |0,m,g,h1,A,p,r,s=>by
  have:m=g:=by omega
  subst this;exact⟨p,r,s⟩
 |f+1,m,g,h1,A,p,r,s=>by
  unfold i3.below.go;by_cases hl:m<g
  .rw [if_pos hl];have hm:(m+g)/2<xs.size:=by omega
   have e:xs.getD ((m+g)/2) j=xs[(m+g)/2]:=by simp [Array.getD,hm]
   have q:xs.toList[(m+g)/2]?=gF xs[(m+g)/2]:=by simp [hm]
   have mono:∀i x k y,xs.toList[i]?=gF x->xs.toList[k]?=gF y->i<=k->x<=y:=λi x k y z u w=>by
    rcases Nat.lt_or_ge i k with h|h
    .let(a,b):=a9.1 z;let(c,d):=a9.1 u;have:=List.pairwise_iff_getElem.1 t i k a c h;omega
    .have:i=k:=Nat.le_antisymm w h;subst this;rw [z] at u;cases u;exact a5 _
   dsimp only;by_cases o:xs.getD ((m+g)/2) j<j
   .rw [if_pos o];rw [e] at o;exact ox t f _ _ (by omega) (by omega) p (λi x h g=>dA (mono _ _ _ _ h q (by omega)) o) s
   .rw [if_neg o];rw [e] at o;exact ox t f _ _ (by omega) (by omega) (by omega) r (λi x h g=>c6 (by omega) (mono _ _ _ _ q h g))
  .rw [if_neg hl];have:m=g:=by omega
   subst this;exact⟨p,r,s⟩
def oy{xs:Array Nat}(a:Qh xs.toList)(j:Nat):i3.below xs j<=xs.size/\(∀i x,xs.toList[i]?=gF x->i<i3.below xs j->x<j)/\(∀i x,xs.toList[i]?=gF x->i3.below xs j<=i->j<=x):=by refine ox a xs.size 0 xs.size (by lia) (by lia) (a5 _) (λi x Z h=>by lia) (λi x h b=>?_);have:=(a9.1 h).1;rw [el] at this;lia
def below_at{xs:Array Nat}(c:Qh xs.toList){i:Nat}(h:xs.toList[i]?=gF j):i3.below xs j=i:=by
 let(_,a,b):=oy c j
 rcases Nat.lt_trichotomy (i3.below xs j) i with z|z|z
 .have f:=(a9.1 h).1;have d:i3.below xs j<xs.toList.length:=by lia
  have e:=zzg d;have g:=b _ _ e (a5 _);have k:=List.pairwise_iff_getElem.1 c _ _ d f z;have m:=(a9.1 h).2;lia
 .exact z
 .have:=a _ _ h z;lia
def Bd{xs:Array Nat}(h:j∉xs.toList):xs[i3.below xs j]?≠gF j:=λz=>h (by rw [<-Array.getElem?_toList] at z;exact a0 z)
def si{t:i3}(a:Qh t.place.toList){i:Nat}(h:t.place.toList[i]?=gF j):t.slot j=.live i:=by
 unfold i3.slot;rw [below_at a h];have:(t.place[i]?==gF j)=gS:=by rw [<-Array.getElem?_toList,h];simp
 simp! [this,if_true]
def yz{t:i3}(hd:t.dummies=#[])(h:j∉t.place.toList):t.slot j=.empty:=by
 unfold i3.slot;have a:(t.place[i3.below t.place j]?==gF j)=gU:=beq_eq_false_iff_ne.mpr (Bd h);have b:i3.has t.dummies j=gU:=by rw [hd];unfold i3.has;exact beq_eq_false_iff_ne.mpr (by simp)
 simp! [a,b,en,if_false]
abbrev ps(mask:Nat)(h:Int):i3.Probe:={j:=i3.bits h%(mask+1),more:=i3.runEnd mask (i3.bits h%(mask+1))-i3.bits h%(mask+1),i:=i3.bits h%(mask+1),perturb:=i3.bits h,dummy:=gK}
abbrev Lx(mask:Nat)(p:i3.Probe):i3.Probe:=
 if p.more>0 then{p with j:=p.j+1,more:=p.more-1} else
 {p with j:=(i3.leap mask p.i p.perturb).1,more:=i3.runEnd mask (i3.leap mask p.i p.perturb).1-(i3.leap mask p.i p.perturb).1,i:=(i3.leap mask p.i p.perturb).1,perturb:=(i3.leap mask p.i p.perturb).2}
abbrev pr(mask:Nat)(h:Int):Nat->i3.Probe
 |0=>ps mask h|n+1=>Lx mask (pr mask h n)
noncomputable abbrev sq(mask:Nat)(h:Int)(n:Nat):Nat:=(pr mask h n).j
theorem wF(mask:Nat)(h:Int):∀n,(pr mask h n).dummy=gK
 |0=>rfl|n+1=>by show(Lx mask (pr mask h n)).dummy=gK;unfold Lx;split<;>exact wF mask h n
def I0{t:i3}{f:Nat->Int}{h:Int}{a n i:Nat}(hs:t.slot (sq t.mask h n)=.live i)(b:f i≠h):i3.probe.go t f h (a+1) (pr t.mask h n)=i3.probe.go t f h a (pr t.mask h (n+1)):=by have e:(f i==h)=gU:=beq_eq_false_iff_ne.mpr b;rw [i3.probe.go,hs];simp! [e,en,if_false];rfl
def IZ{t:i3}{f:Nat->Int}{h:Int}{a n i:Nat}(hs:t.slot (sq t.mask h n)=.live i)(he:f i=h):i3.probe.go t f h (a+1) (pr t.mask h n)=gF (.candidate (sq t.mask h n) i (pr t.mask h (n+1))):=by have e:(f i==h)=gS:=zzy.mpr he;rw [i3.probe.go,hs];simp! [e,if_true];rfl
def Eu{t:i3}{f:Nat->Int}{h:Int}{a n:Nat}(hs:t.slot (sq t.mask h n)=.empty):i3.probe.go t f h (a+1) (pr t.mask h n)=gF (.empty (sq t.mask h n) gK):=by rw [i3.probe.go,hs];simp! [wF]
theorem pQ{t:i3}{f:Nat->Int}{h:Int}{N:Nat}(y:∀m,m<N->∃i,t.slot (sq t.mask h m)=.live i)(z:t.slot (sq t.mask h N)=.empty):∀(d n j:Nat),N-n=d->n<=N->d<j->
 (∃m i,n<=m/\m<N/\t.slot (sq t.mask h m)=.live i/\f i=h/\(∀k o,n<=k->k<m->t.slot (sq t.mask h k)=.live o->f o≠h)/\i3.probe.go t f h j (pr t.mask h n)=gF (.candidate (sq t.mask h m) i (pr t.mask h (m+1))))\/
 ((∀k o,n<=k->k<N->t.slot (sq t.mask h k)=.live o->f o≠h)/\i3.probe.go t f h j (pr t.mask h n)=gF (.empty (sq t.mask h N) gK))
 |0,n,j+1,hd,A,_=>by
  have:n=N:=by lia
  subst this;exact .inr {λk o a b=>by lia,Eu z}
 |d+1,n,j+1,hd,A,hf=>by
  let(i,w):=y n (by lia);by_cases he:f i=h
  .exact .inl {n,i,a5 _,by lia,w,he,λk o a b=>by lia,IZ w he}
  .rw [I0 w he];have first:∀o,t.slot (sq t.mask h n)=.live o->f o≠h:=λo q=>by
    rw [w] at q;cases q;exact he
   rcases pQ y z d (n+1) j (by lia) (by lia) (by lia) with⟨m,o,a,b,c,e,g,r⟩|⟨g,r⟩
   .refine .inl {m,o,by lia,b,c,e,λk u p q s=>?_,r};by_cases hk:k=n
    .subst hk;exact first u s
    .exact g k u (by lia) q s
   .refine .inr {λk u p q s=>?_,r};by_cases hk:k=n
    .subst hk;exact first u s
    .exact g k u (by lia) q s
def vM{a:Type}(xs:Array a)(p:Nat)(x:a):(i3.insertAt xs p x).toList=xs.toList.take p++x::xs.toList.drop p:=by exact i3.toList_insertAt ..
def lP{b:Type} [DecidableEq b]{U ks:List b}(nd:ks.Nodup)(h:∀k∈ks,k∈U):ks.length<=U.length:=by
 induction ks generalizing U with
 |nil=>exact Nat.zero_le _|cons a ks d=>let(e,f):=List.nodup_cons.1 nd;have c:=h a (cP ..);have:=d (U:=U.erase a) f λk hk=>(List.mem_erase_of_ne (λz:k=a=>e (by rw [<-z];exact hk))).2 (h k (bc _ hk));rw [List.length_erase_of_mem c] at this;have:=List.length_pos_of_mem c;rw [cu];lia
def least{P:Nat->Prop}{B:Nat}:(∃n,n<B/\P n)->∃N,N<B/\P N/\∀m,m<N->¬P m:=by
 induction B with
 |zero=>rintro ⟨n,h,_⟩;lia
 |succ B f=>
  rintro ⟨n,h,e⟩
  by_cases d:∃n,n<B/\P n
  .let(N,a,b,c):=f d;exact{N,by lia,b,c}
  .have:n=B:=Classical.byContradiction λz=>d {n,by lia,e};subst this;exact{n,by lia,e,λm hm z=>d ⟨m,hm,z⟩}
def TY(mask:Nat)(h:Int):Prop:=∀j,j<=mask->∃n,n<10*i3.turns mask/\sq mask h n=j
structure qS(t:i3)(es:List (Int×hB)):Prop where
 Me:Qh t.place.toList
 le:∀j∈t.place.toList,j<=t.mask
 Rw:t.dummies=#[]
 len:t.place.toList.length=es.length
 path:∀(i j:Nat) (e:Int×hB),t.place.toList[i]?=gF j->es[i]?=gF e->∃n,sq t.mask e.1 n=j/\∀m,m<n->sq t.mask e.1 m∈t.place.toList
def qS.live{t:i3}(ok:qS t es)(h:j∈t.place.toList):∃i e,t.place.toList[i]?=gF j/\es[i]?=gF e/\t.slot j=.live i:=by
 let(i,a,e):=List.mem_iff_getElem.1 h;have b:t.place.toList[i]?=gF j:=by rw [zzg a,e]
 exact{i,es[i]'(by rw [<-ok.len];exact a),b,zzg (by rw [<-ok.len];exact a),si ok.Me b}
def qS.free{t:i3}(ok:qS t es){h:Int}(c:TY t.mask h)(hl:es.length<=t.mask):∃N,N<10*i3.turns t.mask/\sq t.mask h N∉t.place.toList/\∀m,m<N->sq t.mask h m∈t.place.toList:=by
 have:∃j,j<=t.mask/\j∉t.place.toList:=Classical.byContradiction λz=>by have:=lP (U:=t.place.toList) (ks:=List.range (t.mask+1)) List.nodup_range λk hk=>Classical.byContradiction λy=>z {k,by have:=List.mem_range.1 hk;lia,y};rw [List.length_range,ok.len] at this;lia
 let(j,e,f):=this;let(n,g,i):=c j e;let(N,a,b,d):=least (P:=λn=>sq t.mask h n∉t.place.toList) {n,g,by rw [i];exact f};exact{N,a,b,λm hm=>Classical.byContradiction λz=>d m hm z}
def MD{mask:Nat}{p:i3.Probe}(h1:p.j+p.more<=mask)(a:p.i<=mask):(Lx mask p).j+(Lx mask p).more<=mask/\(Lx mask p).i<=mask:=by
 unfold Lx;split
 .exact{by dsimp only;lia,a}
 .have hl:(i3.leap mask p.i p.perturb).1<=mask:=by
   unfold i3.leap;exact Nat.le_of_lt_succ (Nat.mod_lt _ (Nat.succ_pos _))
  refine{?_,hl};dsimp only;unfold i3.runEnd;split<;>lia
theorem Gb(mask:Nat)(h:Int):∀n,(pr mask h n).j+(pr mask h n).more<=mask/\(pr mask h n).i<=mask
 |0=>by have hl:i3.bits h%(mask+1)<=mask:=Nat.le_of_lt_succ (Nat.mod_lt _ (Nat.succ_pos _));refine{?_,hl};show i3.bits h%(mask+1)+(i3.runEnd mask (i3.bits h%(mask+1))-i3.bits h%(mask+1))<=mask;unfold i3.runEnd;split<;>lia|n+1=>MD (Gb mask h n).1 (Gb mask h n).2
def Tp(mask:Nat)(h:Int)(n:Nat):sq mask h n<=mask:=c6 (Nat.le_add_right _ _) (Gb mask h n).1
def get_ins{a:Type}(xs:List a)(p:Nat)(b:p<=xs.length)(x:a)(i:Nat):(xs.take p++x::xs.drop p)[i]?=if i<p then xs[i]? else if i=p then gF x else xs[i-1]?:=by
 split
 .rename_i h;rw [eM (by rw [List.length_take];lia),List.getElem?_take_of_lt h]
 .rename_i h;rw [eT (by rw [List.length_take];lia),List.length_take,Nat.min_eq_left b];split
  .rename_i e;subst e;simp
  .rename_i e;obtain⟨k,hk⟩:∃k,i-p=k+1:={i-p-1,by lia};rw [hk,List.getElem?_cons_succ,List.getElem?_drop]
   congr 1
   lia
def Pu{t:i3}(ok:qS t es){h:Int}{x:hB}{n:Nat}(s:sq t.mask h n∉t.place.toList)(B:∀m,m<n->sq t.mask h m∈t.place.toList):
 ∃p,p=(t.put (sq t.mask h n)).2/\p<=es.length/\(t.put (sq t.mask h n)).1.mask=t.mask/\(t.put (sq t.mask h n)).1.led=t.led/\(t.put (sq t.mask h n)).1.plain=t.plain/\qS (t.put (sq t.mask h n)).1 (es.take p++(h,x)::es.drop p):=by
 generalize u:sq t.mask h n=j at s;let(C,D,w):=oy ok.Me j;have f:i3.below t.place j<=t.place.toList.length:=by rw [el];exact C
 have pl:(t.put j).1.place.toList=t.place.toList.take (i3.below t.place j)++j::t.place.toList.drop (i3.below t.place j):=vM ..
 have mem:∀y,y∈(t.put j).1.place.toList↔y=j\/y∈t.place.toList:=λy=>by
  rw [pl,List.mem_append,ey];constructor
  .rintro (z|z|z)
   .exact .inr (List.mem_of_mem_take z)
   .exact .inl z
   .exact .inr (List.mem_of_mem_drop z)
  .rintro (z|z)
   .exact .inr (.inl z)
   .rw [<-List.take_append_drop (i3.below t.place j) t.place.toList,List.mem_append] at z;rcases z with z|z
    .exact .inl z
    .exact .inr (.inr z)
 refine{i3.below t.place j,rfl,by rw [<-ok.len];exact f,rfl,rfl,rfl,?_,λy g=>?_,?_,?_,λi E e d c=>?_}
 .rw [pl];refine List.pairwise_append.2 {ok.Me.sublist (List.take_sublist ..),List.pairwise_cons.2 {λy g=>?_,ok.Me.sublist (List.drop_sublist ..)},λa F b o=>?_}
  .let(k,hk):=List.mem_iff_getElem?.1 g;rw [List.getElem?_drop] at hk;have:=w _ _ hk (by lia);exact Nat.lt_of_le_of_ne this λz=>s (by rw [z];exact a0 hk)
  .let(k,hk):=List.mem_iff_getElem?.1 F;have A:k<i3.below t.place j:=by have:=(a9.1 hk).1;rw [List.length_take] at this;lia
   rw [List.getElem?_take_of_lt A] at hk;have d:=D _ _ hk A
   rcases ey.1 o with rfl|o
   .exact d
   .let(l,hl):=List.mem_iff_getElem?.1 o;rw [List.getElem?_drop] at hl;have:=w _ _ hl (by lia);exact dB d this
 .rcases(mem y).1 g with rfl|z
  .rw [<-u];exact Tp ..
  .exact ok.le y z
 .show(if i3.has t.dummies j then i3.eraseAt t.dummies (i3.below t.dummies j) else t.dummies)=#[];have c:i3.has t.dummies j=gU:=by rw [ok.Rw];unfold i3.has;exact beq_eq_false_iff_ne.mpr (by simp)
  rw [c,if_neg zzf];exact ok.Rw
 .rw [pl];have:=ok.len;simp! [cA,cu,List.length_take,List.length_drop];lia
 .show∃n,sq t.mask e.1 n=E/\_;rw [pl,get_ins _ _ f] at d;rw [get_ins _ _ (by rw [<-ok.len];exact f)] at c;split at d
  .rename_i q;rw [if_pos q] at c;let(k,a,b):=ok.path _ _ _ d c;exact{k,a,λm hm=>(mem _).2 (.inr (b m hm))}
  .rename_i q;rw [if_neg q] at c;split at d
   .rename_i r;rw [if_pos r] at c;cases d;cases c;exact{n,u,λm hm=>(mem _).2 (.inr (B m hm))}
   .rename_i r;rw [if_neg r] at c;let(k,a,b):=ok.path _ _ _ d c;exact{k,a,λm hm=>(mem _).2 (.inr (b m hm))}
def OQ(f m:Nat)(l:Bool):qS (i3.fresh f m l) []:={.nil,(λj h=>by cases h),rfl,rfl,λi j e h=>by cases h}
def Gn{b:Type}(es:List b)(p:Nat)(x:b):(es.take p++x::es.drop p).Perm (x::es):=by
 have:=List.perm_middle (a:=x) (l₁:=es.take p) (l₂:=es.drop p)
 rwa [List.take_append_drop] at this
abbrev ws(mask:Nat)(h:Int):Nat->Nat×Nat
 |0=>(i3.bits h%(mask+1),i3.bits h)|w+1=>i3.leap mask (ws mask h w).1 (ws mask h w).2
abbrev seen(mask:Nat):Nat->i3.Probe->List Nat->List Nat
 |0,_,out=>out|n+1,p,out=>seen mask n (Lx mask p) (if out.contains p.j then out else p.j::out)
theorem AR{mask:Nat}{h:Int}:∀(n k:Nat) (c:List Nat),(∀j∈c,∃m,m<k/\sq mask h m=j)->∀j∈seen mask n (pr mask h k) c,∃m,m<k+n/\sq mask h m=j
 |0,k,c,e,j,f=>by let(m,a,b):=e j f;exact{m,by lia,b}|n+1,k,c,e,j,f=>by
  let(m,a,b):=AR n (k+1) (if c.contains (pr mask h k).j then c else(pr mask h k).j::c) (λi d=>by
   split at d
   .let(m,a,b):=e i d;exact{m,by lia,b}
   .rcases ey.1 d with rfl|d
    .exact{k,by lia,rfl}
    .let(m,a,b):=e i d;exact{m,by lia,b}) j f
  exact{m,by lia,b}
abbrev Rl(mask:Nat)(h:Int):Bool:=(List.range (mask+1)).all λj=>(seen mask (10*i3.turns mask) (ps mask h) []).contains j
theorem HX{mask:Nat}{h:Int}(c:Rl mask h=gS):TY mask h:=λj d=>by have:=c5.1 c j (List.mem_range.2 (by lia));let(m,a,b):=AR (mask:=mask) (h:=h) (10*i3.turns mask) 0 [] (λj d=>by cases d) j (eG.1 this);exact{m,by lia,b}
section
variable{K:Type}[DecidableEq K](knd:KeyKind prog w K)
def TK(h:h9)(k:List K)(a:hF):Prop:=∃o b n,h.get? a=gF o/\o.cls=.type "tuple"/\o.data=.seq b n/\ItemsAre knd k b.toList/\∀v∈b.toList,plainKind v=gS
def aS(h:h9)(e:Int×hB)(k:List K):Prop:=∃b,e=(ia knd k,.ref b)/\TK knd h k b
variable{knd}
variable{E:kd}{s:hD}
theorem TK.key{k:List K}(x:TK knd h k a):IsTupleKey knd h k a:=let⟨o,i,n,a,b,c,d,_⟩:=x;⟨o,i,n,a,b,c,d⟩
def TK.inj{k b:List K}(x:TK knd h k a)(y:TK knd h b a):k=b:=x.key.inj y.key
def aS.inj{e:Int×hB}{k a:List K}(x:aS knd h e k)(y:aS knd h e a):k=a:=by
 let(b,rfl,t):=x;let(c,e,d):=y;have:b=c:=by have:=congrArg Prod.snd e;exact hB.ref.inj this
 subst this;exact t.inj d
def vj(n:Nat){v:hB}(h:carriedByValue v=gS):ofAClassStatement n v=pure gU:=by
 cases v with
 |ref a=>simp [carriedByValue] at h|_=>first|rfl|simp [ofAClassStatement]|(unfold ofAClassStatement;rfl)
def rj{k:List K}{Q:Bool->hD->Prop}(hk:IsTupleKey knd s.heap k a)(h:Q gU s):hJ (hV prog w) A (ofAClassStatement 8 (.ref a)) Q E s:=by
 have g:=hk.typeIs;let(o,b,n,i,_,hd,j):=hk;unfold ofAClassStatement;refine ak (wpAny_typeOf g ?_);dsimp only;rw [if_pos (by decide)];refine ak (a8 ?_);simp! [Bool.not_true,en,if_false];refine ak (wpAny_seqItems i hd ?_);dsimp only;refine ak ?_;rw [<-Array.forIn_toList];refine wpAny_forIn_list _ (λrest r c=>r.1=gK/\c=s/\∀v∈rest,carriedByValue v=gS) _ ?_ ?_ _ _ ⟨rfl,rfl,j.byValue⟩
 .rintro v rest r c ⟨d,rfl,f⟩
  rw [vj _ (f v cP)];refine ak (a8 ?_);simp! [en,if_false];exact a8 {rfl,rfl,λu e=>f u (bc _ e)}
 .rintro ⟨m,p⟩ c ⟨d,rfl,_⟩
  simp only at d;subst d;exact a8 h
def wJ{k:List K}{Q:Bool->hD->Prop}(hk:IsTupleKey knd s.heap k a)(L:List hB)(m:∀v∈L,∃b c,v=.ref b/\IsTupleKey knd s.heap c b)(h:Q gU s):hJ (hV prog w) A (searchCouldBeSeen (.ref a) L) Q E s:=by
 unfold searchCouldBeSeen;refine ak ?_;refine wpAny_forIn_list _ (λrest r d=>r.1=gK/\d=s/\∀v∈rest,∃b c,v=.ref b/\IsTupleKey knd s.heap c b) _ ?_ ?_ _ _ ⟨rfl,rfl,m⟩
 .rintro v rest r d ⟨e,rfl,g⟩
  have i:∀u∈rest,∃b c,u=.ref b/\IsTupleKey knd d.heap c b:=λu f=>g u (bc _ f);let(b,c,rfl,j):=g v cP;dsimp only;split
  .exact a8 ⟨rfl,rfl,i⟩
  .refine ak (wpAny_eqIsQuiet_tuple hk ?_);simp! [Bool.not_true,en,if_false];refine ak (wpAny_eqIsQuiet_tuple j ?_);simp! [Bool.not_true,en,if_false];refine ak (rj hk ?_);simp! [en,if_false];refine ak (rj j ?_);simp! [en,if_false];exact a8 ⟨rfl,rfl,i⟩
 .rintro ⟨o,p⟩ d ⟨e,rfl,_⟩
  simp only at e;subst e;exact a8 h
def BZ(n:Nat){v:hB}(h:plainKind v=gS):hashByValue n v=pure gS:=by cases n<;>cases v<;>simp_all [plainKind,hashByValue]
def B0{k:List K}{Q:Bool->hD->Prop}(hk:TK knd s.heap k a)(h:Q gS s):hJ (hV prog w) A (hashByValue 8 (.ref a)) Q E s:=by
 have g:=hk.key.typeIs;let(o,b,n,i,_,hd,_,j):=hk;unfold hashByValue;refine ak (wpAny_specialOf g F.slot_tuple_hash.lookup ?_);dsimp only;refine ak (wpAny_seqItems i hd ?_);refine ak ?_;show hJ _ _ (forIn b _ _) _ _ s;rw [<-Array.forIn_toList];refine wpAny_forIn_list _ (λrest r c=>r.1=gK/\c=s/\∀v∈rest,plainKind v=gS) _ ?_ ?_ _ _ ⟨rfl,rfl,j⟩
 .rintro v rest r c ⟨d,rfl,f⟩
  rw [BZ _ (f v cP)];refine ak (a8 ?_);simp! [Bool.not_true,en,if_false];exact a8 {rfl,rfl,λu e=>f u (bc _ e)}
 .rintro ⟨m,p⟩ c ⟨d,rfl,_⟩
  simp only at d;subst d;exact a8 h
end
section
variable{K:Type}[DecidableEq K](knd:KeyKind prog w K)
structure xn(h:Int):Prop where
 c7:TY 7 h
structure jZ(h:h9)(a:hF)(es:List (Int×hB)):Prop where
 ex:∃o arr ep t,h.get? a=gF o/\o.ExactSet/\o.data=.set arr ep t/\arr.toList=es/\qS t es/\t.plain=gS/\t.led=(!w.params.followText (zu 15))/\(t.mask=7/\es.length<=4)
 key:∀e∈es,∃k,aS knd h e k/\xn e.1
 nd:es.Pairwise λe e'=>∀k,aS knd h e k->¬aS knd h e' k
variable{knd}
variable{E:kd}{s:hD}
def qS.fits{t:i3}{a:Array (Int×hB)}(ok:qS t a.toList)(hl:a.toList.length<=t.mask):t.fits a.size=gS:=by
 have b:t.place.size=a.size:=by have:=ok.len;rwa [el,el] at this
 have c:t.fill<=t.mask:=by unfold i3.fill;rw [ok.Rw,b];simpa using hl
 simp [i3.fits,b,c]
def CU{b:hF}{c:Array (Int×hB)}{ep:Nat}{t:i3}{k:List K}{N:Nat}(hu:A.units<cLine)(R:s.heap.get? a=gF o)(hd:o.data=.set c ep t)(ok:qS t c.toList)(hl:c.toList.length<=t.mask)(We:t.mask%2=1)
 (hk:∀e∈c.toList,∃k,aS knd s.heap e k) (S:TK knd s.heap k b) (hN:N<10*i3.turns t.mask) (T:sq t.mask (ia knd k) N∉t.place.toList) (hp:∀m,m<N->sq t.mask (ia knd k) m∈t.place.toList) {Q:SetFound->hD->Prop}
 (q1:(∃e∈c.toList,aS knd s.heap e k)->Q (.there gK) s) (q2:(∀e∈c.toList,¬aS knd s.heap e k)->Q (.free (sq t.mask (ia knd k) N) gU) s):
 ∀(d n g:Nat) (U:Option i3.Probe),U.getD (t.probeStart (ia knd k))=pr t.mask (ia knd k) n->N-n=d->n<=N->d<g->
 (∀m i e,m<n->t.slot (sq t.mask (ia knd k) m)=.live i->c.toList[i]?=gF e->¬aS knd s.heap e k)->hJ (hV prog w) A (setSearchFrom a (.ref b) (ia knd k) gS g U) Q E s:=by
 have zY:∀m,m<N->∃i,t.slot (sq t.mask (ia knd k) m)=.live i:=λm hm=>by let(i,_,_,_,z):=ok.live (hp m hm);exact⟨i,z⟩
 have Jn:=yz ok.Rw T;have V:t.gaveWay=gU:=by unfold i3.gaveWay;rw [We];rfl
 intro d
 induction d using Nat.strongRecOn with
 |ind d ih=>
  intro n g U hs UB hn hfu j;cases g with
  |zero=>lia|succ g=>
   unfold setSearchFrom;refine ak (wpAny_setState_of R hd (ok.fits hl) ?_);dsimp only;rw [V];simp! [en,if_false];rw [hs];unfold i3.probe;generalize hG:i3.probe.go t _ (ia knd k) (10*i3.turns t.mask) (pr t.mask (ia knd k) n)=G;have fx:∀(i:Nat) (e:Int×hB),c.toList[i]?=gF e->((c[i]?.map (·.1)).getD 0:Int)=e.1:=λi e z=>by rw [<-Array.getElem?_toList,z];rfl
   rcases pQ (f:=λi=>((c[i]?.map (·.1)).getD 0:Int)) zY Jn d n (10*i3.turns t.mask) UB hn (by lia) with⟨m,i,a1,a2,L,a4,W,X⟩|⟨W,X⟩
   .have Y:G=gF (.candidate (sq t.mask (ia knd k) m) i (pr t.mask (ia knd k) (m+1))):=hG.symm.trans X;subst Y;let(i',e,b1,D,b3):=ok.live (hp m a2);rw [L] at b3;cases b3;have F:=a0 D;let(H,bk,rfl,I):=hk e F;have M:c[i]?=gF (ia knd H,.ref bk):=by rw [<-Array.getElem?_toList];exact D
    have sm:t.sameMemory t.moves t.mask=gF gS:=by unfold i3.sameMemory;rw [if_pos (beq_self_eq_true _)]
    have eO:∀h p q,h<m+1->t.slot (sq t.mask (ia knd k) h)=.live p->c.toList[p]?=gF q->H≠k->¬aS knd s.heap q k:=λh p q z1 u B z4=>by
     by_cases Z:h<n
     .exact j h p q Z u B
     .by_cases h2:h=m
      .subst h2;rw [L] at u;cases u;rw [D] at B;cases B;exact λy=>z4 (aS.inj ⟨bk,rfl,I⟩ y)
      .have:=W h p (by lia) (by lia) u;rw [fx p q B] at this
       rintro ⟨b',rfl,_⟩
       exact this rfl
    have go:H≠k->hJ (hV prog w) A (setSearchFrom a (.ref b) (ia knd k) gS g (gF (pr t.mask (ia knd k) (m+1)))) Q E s:=λz=>ih (N-(m+1)) (by lia) (m+1) g _ rfl rfl (by lia) (by lia) λh p q z1 u B=>eO h p q z1 u B z;dsimp only;cases hled:t.led
    .simp! [Bool.not_false,if_true,M];refine ak (wJ S.key _ (λv hv=>?_) ?_)
     .let(x,hx,rfl):=fm.1 hv;have rK:x∈c.toList:=by rw [Array.toList_filter] at hx;exact(List.mem_filter.1 hx).1
      let(k2,D,rfl,t2):=hk x rK;exact⟨D,k2,rfl,t2.key⟩
     .simp! [en,if_false];refine ak (wpAny_holding (wpAny_eqBool_tuple hu I.key S.key ?_));refine ak (wpAny_setState_of R hd (ok.fits hl) ?_);by_cases r:H=k
      .subst r;simp! [decide_true,Bool.and_self,if_true];exact a8 (q1 {_,F,bk,rfl,I})
      .simp! [r,decide_false,Bool.and_false,en,if_false,sm,if_true,L,M];refine ak (wpAny_isSame_ref_self ?_);simp! [if_true];refine ak (a8 ?_);simp only;exact go r
    .simp! [Bool.not_true,en,if_false,M];refine ak (wpAny_holding (wpAny_eqBool_tuple hu I.key S.key ?_));refine ak (wpAny_setState_of R hd (ok.fits hl) ?_);by_cases r:H=k
     .subst r;simp! [decide_true,Bool.and_self,if_true];exact a8 (q1 {_,F,bk,rfl,I})
     .simp! [r,decide_false,Bool.and_false,en,if_false,sm,if_true,L,M];refine ak (wpAny_isSame_ref_self ?_);simp! [if_true];refine ak (a8 ?_);simp only;exact go r
   .have Y:G=gF (.empty (sq t.mask (ia knd k) N) gK):=hG.symm.trans X;subst Y;dsimp only;refine a8 (q2 λe F z=>?_);let(i,O):=List.mem_iff_getElem?.1 F;have xT:i<t.place.toList.length:=by rw [ok.len];exact(a9.1 O).1
    let(C,P,c2):=ok.path i _ e (zzg xT) O;have e1:e.1=ia knd k:=by let(b',rfl,_):=z;rfl
    rw [e1] at P c2;have Oc:C<N:=by
     rcases Nat.lt_trichotomy C N with y|y|y
     .exact y
     .rw [y] at P;exact absurd (by rw [P];exact List.getElem_mem xT) T
     .exact absurd (c2 N y) T
    have sl:t.slot (sq t.mask (ia knd k) C)=.live i:=by rw [P];exact si ok.Me (zzg xT)
    by_cases Z:C<n
    .exact j C i e Z sl O z
    .exact W C i (by lia) Oc sl ((fx i e O).trans e1)
end
section
variable{K:Type}[DecidableEq K]{knd:KeyKind prog w K}
variable{E:kd}{s:hD}
def TK.keeps{k:List K}{b:hF}{es g t}(x:TK knd h k b)(i:h.get? a=gF o)(hd:o.data=.set es g t)(hs:h9.SameBut a h h'):TK knd h' k b:=by
 let(e,c,n,f,j,d,m):=x
 have p:b≠a:=by
  rintro rfl
  obtain rfl:e=o:=zzq (f.symm.trans i);rw [hd] at d;exact nomatch d
 exact{e,c,n,(hs.2 b p).trans f,j,d,m}
def aS.keeps{k:List K}{e:Int×hB}{es c t}(x:aS knd h e k)(d:h.get? a=gF o)(hd:o.data=.set es c t)(hs:h9.SameBut a h h'):aS knd h' e k:=by let(b,e,t):=x;exact{b,e,t.keeps d hd hs}
structure oe(knd:KeyKind prog w K)(h:h9)(es:List (Int×hB)):Prop where
 key:∀e∈es,∃k,aS knd h e k/\xn e.1
 nd:es.Pairwise λe e'=>∀k,aS knd h e k->¬aS knd h e' k
def oe.keeps{arr j t}(x:oe knd h es)(b:h.get? a=gF o)(hd:o.data=.set arr j t)(hs:h9.SameBut a h h'):oe knd h' es:=by
 refine{λe d=>?_,List.Pairwise.imp_of_mem (λ{e m} d f p k z q=>?_) x.nd}
 .let(k,z,c):=x.key e d;exact{k,z.keeps b hd hs,c}
 .let(y,g,_):=x.key e d;let(B,i,_):=x.key m f;have r:=(g.keeps b hd hs).inj z;have u:=(i.keeps b hd hs).inj q;subst r u;exact p _ g i
def oe.perm{c:List (Int×hB)}(x:oe knd h es)(p:c.Perm es):oe knd h c:=
 {λe d=>x.key e (p.subset d),(p.symm.pairwise_iff (λ{a b} f k z g=>f k g z)).1 x.nd}
def oe.cons{h:h9}{es:List (Int×hB)}{k:List K}{b:hF}(x:oe knd h es)(c:TK knd h k b)(d:xn (ia knd k))(f:∀e∈es,¬aS knd h e k):oe knd h ((ia knd k,.ref b)::es):=by
 refine{λe a=>?_,List.pairwise_cons.2 {λe a i z g=>?_,x.nd}}
 .rcases ey.1 a with rfl|a
  .exact{k,⟨b,rfl,c⟩,d}
  .exact x.key e a
 .have:=z.inj ⟨b,rfl,c⟩;subst this;exact f e a g
def jZ.ents(S:jZ knd h a es):oe knd h es:=⟨S.key,S.nd⟩
def stored{arr b t}{arr':Array (Int×hB)}{t':i3}(d:h.get? a=gF o)(e:o.ExactSet)(hd:o.data=.set arr b t):∃c,(h.update a (Obj.putSet arr' t')).get? a=gF c/\c.ExactSet/\c.data=.set arr' (b+1) t':=by refine{{o with data:=.set arr' (b+1) t'},?_,e,rfl};rw [h9.get?_update_self _ d (by rw [putSet_of arr' t' hd];rfl),putSet_of arr' t' hd]
def MC{b:hF}{k:List K}(X:A.units<cLine)(S:jZ knd s.heap a es)(B:TK knd s.heap k b)(L:xn (ia knd k))(C:(∀e∈es,¬aS knd s.heap e k)->es.length<=3){Q:Bool->hD->Prop}
 (q:∀h' D c,h9.SameBut a s.heap h'->jZ knd h' a D->((∃e∈es,aS knd s.heap e k)/\D=es\/(∀e∈es,¬aS knd s.heap e k)/\D.Perm ((ia knd k,.ref b)::es))->Q c {s with heap:=h'}):
 hJ (hV prog w) A (setAddHashed a (.ref b) (ia knd k)) Q E s:=by
 let(o,d,ep,t,g,Y,hd,rfl,ok,M,j,hm):=S.ex;have u:d.toList.length<=t.mask:=by lia
 have Z:TY t.mask (ia knd k):=by rw [hm.1];exact L.c7
 let(N,n1,O,P):=ok.free Z u;unfold setAddHashed;refine wpAny_holding ?_;unfold setAddHashedIn;refine ak (wpAny_setState_of g hd (ok.fits u) ?_);have bs:byScan (.ref b) d=gU:=rfl;dsimp only;rw [bs];simp! [en,if_false];refine ak ?_;unfold setSearch;refine CU (knd:=knd) (N:=N) X g hd ok u (by lia) (λe he=>by let(k',z,_):=S.key e he;exact⟨k',z⟩) B n1 O P (λz=>?_) (λz=>?_) N 0 100000 gK rfl (by lia) (by lia) ?_ (λm i e h=>by lia)
 .dsimp only;have:=q s.heap d.toList gU (h9.SameBut.refl a s.heap) S (.inl ⟨z,rfl⟩);exact a8 this
 .have hl:=C z;dsimp only;refine ak (wpAny_setState_of g hd (ok.fits u) ?_);let(p,R,pl,F,T,G,f):=Pu (x:=.ref b) ok O P;have U:(i3.insertAt d p (ia knd k,hB.ref b)).toList=d.toList.take p++(ia knd k,.ref b)::d.toList.drop p:=vM ..;have y:=Gn d.toList p (ia knd k,hB.ref b);have H:(i3.insertAt d p (ia knd k,hB.ref b)).toList.length=d.toList.length+1:=by rw [U,y.length_eq,cu]
  dsimp only;generalize V:t.put (sq t.mask (ia knd k) N)=pt at *
  let(r,p2):=pt;dsimp only at F T G f R⊢;subst R;rw [G,M,if_pos rfl];refine ak (B0 B ?_);simp! [if_true];have X2:oe knd s.heap (d.toList.take p++(ia knd k,.ref b)::d.toList.drop p):=(S.ents.cons B L z).perm y;refine ak (wpAny_storeSet_of g hd ?_ (by rw [<-el,H,sizeLine_eq];lia));let(o',g1,g2,g3):=stored (arr':=i3.insertAt d p (ia knd k,hB.ref b)) (t':=r) g Y hd;have W:=ff s.heap a (Obj.putSet (i3.insertAt d p (ia knd k,hB.ref b)) r);have I:=X2.keeps g hd W;rw [<-U] at I f y;have RZ:r.fill=d.toList.length+1:=by unfold i3.fill;rw [f.Rw,<-el,f.len,H];simp
  have asz:d.size=d.toList.length:=(el).symm;simp! [Bool.not_false,Bool.true_and];by_cases hf:r.tooFull=gS
  .exfalso;unfold i3.tooFull at hf;have:=zzY hf;rw [RZ,F,hm.1] at this;lia
  .rw [if_neg hf];refine a8 (q _ _ gS W {{o',_,_,r,g1,g2,g3,rfl,f,G.trans M,T.trans j,?_},I.key,I.nd} (.inr ⟨z,y⟩));rw [F,H];exact{hm.1,by lia}
 .have:i3.turns t.mask<=46:=by
   unfold i3.turns;rw [hm.1];decide
  lia
end
section
variable{K:Type}[DecidableEq K]{knd:KeyKind prog w K}
variable{s:hD}
def TK.move{k:List K}{b I:hF}{oI:Obj}(x:TK knd h k b)(e:h.get? I=gF oI)(f:oI.cls≠.type "tuple")(hk:∀b o,b≠I->h.get? b=gF o->h'.get? b=gF o):TK knd h' k b:=by let(o,a,n,d,c,r):=x;refine{o,a,n,hk b o (λz=>?_) d,c,r};subst z;rw [e] at d;cases d;exact f c
def aS.move{k:List K}{e:Int×hB}{I:hF}{oI:Obj}(x:aS knd h e k)(a:h.get? I=gF oI)(c:oI.cls≠.type "tuple")(hk:∀b o,b≠I->h.get? b=gF o->h'.get? b=gF o):aS knd h' e k:=by let(b,e,t):=x;exact{b,e,t.move a c hk}
def Mu(knd:KeyKind prog w K)(h:h9)(es:List (Int×hB))(P:List K->Prop):Prop:=∀k,(∃e∈es,aS knd h e k)↔P k
def jZ.move{I:hF}{oI:Obj}{P:List K->Prop}(S:jZ knd h a es)(H:Mu knd h es P)(f:h.get? I=gF oI)(g:oI.cls≠.type "tuple")(m:a≠I)(hk:∀b o,b≠I->h.get? b=gF o->h'.get? b=gF o):jZ knd h' a es/\Mu knd h' es P:=by
 have back:∀e∈es,∀k,aS knd h' e k->aS knd h e k:=λe d k z=>by let(D,y,_):=S.key e d;have:=(y.move f g hk).inj z;subst this;exact y
 let(o,i,p,t,q,r):=S.ex;refine{{{o,i,p,t,hk a o m q,r},λe d=>?_,List.Pairwise.imp_of_mem (λ{e u} d j B k z C=>B k (back e d k z) (back u j k C)) S.nd},λk=>?_}
 .let(k,y,c):=S.key e d;exact{k,y.move f g hk,c}
 .rw [<-H k];exact{λ⟨e,d,z⟩=>{e,d,back e d k z},λ⟨e,d,z⟩=>{e,d,z.move f g hk}}
def jZ.Np(S:jZ knd h a es){U:List (List K)}(q:∀e∈es,∀k,aS knd h e k->k∈U):es.length<=U.length:=by
 have key:∀es:List (Int×hB),(∀e∈es,∃k,aS knd h e k)->(es.Pairwise λe f=>∀k,aS knd h e k->¬aS knd h f k)->∃d:List (List K),d.length=es.length/\d.Nodup/\∀k∈d,∃e∈es,aS knd h e k:=by
  intro es
  induction es with
  |nil=>exact λZ Z=>{[],rfl,List.nodup_nil,λk hk=>by cases hk}
  |cons e es r=>
   intro p t;let(u,B):=List.pairwise_cons.1 t;let(d,i,j,g):=r (λx C=>p x (bc _ C)) B;let(k,z):=p e (cP ..);refine{k::d,by rw [cu,cu,i],List.nodup_cons.2 {λy=>?_,j},λD b=>?_}
   .let(f,c,m):=g k y;exact u f c k z m
   .rcases ey.1 b with rfl|b
    .exact{e,cP ..,z}
    .let(f,c,m):=g D b;exact{f,bc _ c,m}
 let(d,i,j,g):=key es (λe o=>by let(k,z,_):=S.key e o;exact⟨k,z⟩) S.nd;rw [<-i];exact lP j λk hk=>by let(e,o,z):=g k hk;exact q e o k z
def BO{R:Result->hD->Prop}{S I l:hF}{kf:Nat->List K}{U:List (List K)}(hu:A.units+1<cLine)(hh:A.handled=gK)(X:S≠I)(Z1:S≠l)(Y:l≠I)(L:∀i,i<items.size->kf i∈U/\xn (ia knd (kf i)))(Uy:U.length<=4)(s0:hD)
 (h0:∀i v,items[i]?=gF v->∃b,v=.ref b/\b≠S/\b≠I/\TK knd s0.heap (kf i) b)
 (hR:∀h' tk es,jZ knd h' S es->Mu knd h' es (λk=>∃j,j<items.size/\k=kf j)->(∀e∈es,∃j:Nat,items[j]?=gF e.2)->(∀b o,b≠S->b≠I->s0.heap.get? b=gF o->h'.get? b=gF o)->R (.ok (.ret .none)) {s0 with heap:=h',toks:=tk}):
 ∀(d i:Nat) (h:h9) (tk:Nat) (es:List (Int×hB)),items.size-i=d->i<=items.size->h.IsListIter I l i/\h.IsList l items->jZ knd h S es->Mu knd h es (λk=>∃j,j<i/\k=kf j)->(∀e∈es,∃j:Nat,items[j]?=gF e.2)->(∀b o,b≠S->b≠I->s0.heap.get? b=gF o->h.get? b=gF o)->
  codeAny (hV prog w) A (.builtin "set.update.loop" {[.ref S,.ref I],[]}) R {s0 with heap:=h,toks:=tk}:=by
 have W:=Walks.list (prog:=prog) (w:=w) (A:=A.in1) hh I l Y items;intro d
 induction d with
 |zero=>
  intro i h tk es hd hi st T Hs M kp;have EE:i=items.size:=by lia
  subst EE;refine codeAny_builtin PyProof.Rows.F.entry_set_update_loop ?_;rw [gr PyProof.Rows.F.plain_set_update_loop _];let(oI,Z,cI,_):=id st.1;refine ak (W.done {s0 with heap:=h,toks:=tk} _ _ st λh' Hi k'=>?_);have B:∀b o,b≠I->h.get? b=gF o->h'.get? b=gF o:=λb o p e=>k' b o (zx6 p) e;let(q,N):=T.move Hs Z (by rw [cI];decide) X B;exact a8 (hR h' Hi es q N M λb o O m e=>B b o m (kp b o O m e))
 |succ d ih=>
  intro i h tk es hd hi st T Hs M kp;have C:i<items.size:=by lia
  refine codeAny_builtin PyProof.Rows.F.entry_set_update_loop ?_;rw [gr PyProof.Rows.F.plain_set_update_loop _];let(oI,Z,cI,_):=id st.1;refine ak (W.item i {s0 with heap:=h,toks:=tk} _ _ C st λv h' Hi hP iz k'=>?_);have B:∀b o,b≠I->h.get? b=gF o->h'.get? b=gF o:=λb o p e=>k' b o (zx6 p) e;let(q,N):=T.move Hs Z (by rw [cI];decide) X B;let(b,rfl,hbS,D,tb):=h0 i v hP;have P:TK knd h' (kf i) b:=by let(o,it,n,g,r):=tb;exact{o,it,n,B b o D (kp b o hbS D g),r}
  refine ak (wpAny_holding ?_);unfold setAdd;refine wpAny_holding ?_;refine ak (wpAny_pyHash_tuple (s:={s0 with heap:=h',toks:=Hi}) (by show A.units+1<cLine;exact hu) P.key ?_);refine MC (knd:=knd) (es:=es) (by show A.units+1<cLine;exact hu) q P (L i C).2 (λhn=>?_) λm Q c V T2 E=>?_
  .have:=q.ents.cons P (L i C).2 hn;have lI:∀e∈es,∀k,aS knd h' e k->k∈U.erase (kf i):=λe a k z=>by let(j,hj,rfl):=(N k).1 ⟨e,a,z⟩;refine(List.mem_erase_of_ne λy=>?_).2 (L j (by lia)).1;rw [y] at z;exact hn e a z
   have f:=q.Np lI;rw [List.length_erase_of_mem (L i C).1] at f;lia
  .let(o,arr,ep,t,ho,hx,u,_):=q.ex;have kb:∀b o,b≠S->h'.get? b=gF o->m.get? b=gF o:=λb o p e=>(V.2 b p).trans e
   have Tq:m.IsListIter I l (i+1)/\m.IsList l items:=W.frame _ _ _ iz λb p o e=>kb b o (by
    simp! [ey,List.not_mem_nil,or_false] at p;rcases p with rfl|rfl
    .exact X.symm
    .exact Z1.symm) e
   have H2:Mu knd m Q (λk=>∃j,j<i+1/\k=kf j):=λk=>by
    have G:∀e∈es,aS knd h' e k↔aS knd m e k:=λe a=>{λz=>z.keeps ho u V,λz=>by let(k1,y,_):=q.key e a;have:=(y.keeps ho u V).inj z;subst this;exact y};have new:aS knd m (ia knd (kf i),.ref b) (kf i):={b,rfl,P.keeps ho u V}
    have sp:(∃j,j<i+1/\k=kf j)↔(∃j,j<i/\k=kf j)\/k=kf i:=by
     constructor
     .rintro ⟨j,hj,rfl⟩
      by_cases z:j=i
      .subst z;exact .inr rfl
      .exact .inl {j,by lia,rfl}
     .rintro (⟨j,hj,rfl⟩|rfl)
      .exact{j,by lia,rfl}
      .exact{i,by lia,rfl}
    have Hk:(∃e∈es,aS knd h' e k)↔∃j,j<i/\k=kf j:=N k;show(∃e∈Q,aS knd m e k)↔(∃j,j<i+1/\k=kf j)
    rw [sp,<-Hk];rcases E with⟨⟨e0,H,z0⟩,rfl⟩|⟨hn,pm⟩
    .constructor
     .rintro ⟨e,a,z⟩
      exact .inl {e,a,(G e a).2 z}
     .rintro (⟨e,a,z⟩|rfl)
      .exact{e,a,(G e a).1 z}
      .exact{e0,H,(G e0 H).1 z0}
    .constructor
     .rintro ⟨e,a,z⟩
      rcases ey.1 (pm.subset a) with rfl|a
      .exact .inr (z.inj new)
      .exact .inl {e,a,(G e a).2 z}
     .rintro (⟨e,a,z⟩|rfl)
      .exact{e,pm.symm.subset (bc _ a),(G e a).1 z}
      .exact{_,pm.symm.subset (cP ..),new}
   have mm2:∀e∈Q,∃j:Nat,items[j]?=gF e.2:=λe a=>by
    rcases E with⟨_,rfl⟩|⟨_,pm⟩
    .exact M e a
    .rcases ey.1 (pm.subset a) with rfl|a
     .exact⟨i,hP⟩
     .exact M e a
   exact a8 {plainId_quiet PyProof.Rows.F.plain_set_update_loop _,ih (i+1) m _ Q (by lia) C Tq T2 H2 mm2 λb o O h3 e=>kb b o O (B b o h3 (kp b o O h3 e))}
end
section
variable{K:Type}[DecidableEq K]{knd:KeyKind prog w K}
variable{E:kd}{s:hD}
noncomputable abbrev lV(led:Bool):Obj:={cls:=.type "set",dict:=gK,data:=.set #[] 0 (.fresh 0 0 led)}
def BR(e:h.get? a=gF (lV (!w.params.followText (zu 15)))):jZ knd h a []:={{_,#[],0,_,e,⟨rfl,rfl,rfl⟩,rfl,rfl,OQ ..,rfl,rfl,{rfl,by decide}},(λe b=>by cases b),.nil}
def DZ(a:hB){Q:kd}(h:Q (.ref (zz9 s)) {s with heap:=s.heap.push (lV (!w.params.followText (zu 15)))}):codeAny (hV prog w) A (.call (.builtin "set.__new__") {[.type "set",a],[]}) (wants Q E) s:=by
 refine codeAny_of_tree ?_;refine ak (wpAny_of_eq (F.newCall_set_1 a) (a8 {plainId_quiet F.plain_set_new _,codeAny_builtin F.entry_set_new ?_}));rw [gr F.plain_set_new _];unfold i1.«set.__new__» i1.Frozenset.newClass;have g:=sub_set_self;let(b,c,d,e,os):=s;dsimp only
 wp_walk
 refine wpAny_askSetting (a8 ?_);dsimp only;simp! [newObj];exact ak (wpAny_alloc (a8 (a8 h)))
def Bs{l:hF}{items:Array hB}{kf:Nat->List K}{U:List (List K)}{Q:kd}(hu:A.units+8<cLine)(W:A.handled=gK)(hl:s.heap.IsList l items)(X:∀i,i<items.size->kf i∈U/\xn (ia knd (kf i)))(Y:U.length<=4)
 (h0:∀i v,items[i]?=gF v->∃b,v=.ref b/\TK knd s.heap (kf i) b)
 (q:∀h' tk es,jZ knd h' (zz9 s) es->Mu knd h' es (λk=>∃j,j<items.size/\k=kf j)->(∀e∈es,∃j:Nat,items[j]?=gF e.2)->(∀b o,s.heap.get? b=gF o->h'.get? b=gF o)->Q (.ref (zz9 s)) {s with heap:=h',toks:=tk}):
 hJ (hV prog w) A (call (.type "set") [.ref l]) Q E s:=by
 let(c,tl,H):=F.called_set.mro;have g1:=F.called_set.made;have g2:=F.called_set.sub;refine wpAny_call (codeAny_of_tree ?_);refine a8 {Code.quiet_builtin _ (by decide+kernel),codeAny_builtin F.entry_type_call ?_};rw [hW.under_plain (weight_type_call_type "set" [.ref l] []) rfl];have g3:=F.called_set.notType;have g4:=F.called_set.canCreate;have g5:=F.typeCall_set_1 (.ref l)
 repeat (any_goals (first|assumption|wp_step))
 refine codeAny_mono (DZ (.ref l) (E:=E) (Q:=λx z=>x=.ref (zz9 s)/\z={s with heap:=s.heap.push (lV (!w.params.followText (zu 15)))}) ⟨rfl,rfl⟩) λr L p=>?_
 cases r with
 |error e=>exact p|ok fl=>
  cases fl with
  |ret obj=>
   let(rfl,rfl):=p;generalize f:(!w.params.followText (zu 15))=led;have eS:(s.heap.push (lV led)).get? (zz9 s)=gF (lV led):=dJ _ rfl;have T:hD.TypeIs {s with heap:=s.heap.push (lV led)} (.ref (zz9 s)) "set":={_,eS,rfl};have g6:=F.called_set.init.lookup;have g7:=F.called_set.init.bind (.ref (zz9 s))
   repeat (any_goals (first|assumption|wp_step))
   refine codeAny_mono (codeAny_call_builtin (R:=wants (λr z=>r=.none/\∃h' tk es,z={s with heap:=h',toks:=tk}/\jZ knd h' (zz9 s) es/\Mu knd h' es (λk=>∃j,j<items.size/\k=kf j)/\(∀e∈es,∃j:Nat,items[j]?=gF e.2)/\∀b o,s.heap.get? b=gF o->h'.get? b=gF o) E) F.called_set.init.plain F.entry_set_init (check_set_init_1 T ?_)) λg M a=>?_
   .let((k1,Z,k3,k4),h,N,O,m):=id hl;simp only at N m;subst N;subst m;have eL:(s.heap.push (lV led)).get? l=gF {cls:=.type "list",dict:=Z,data:=.seq items O,slots:=k4}:=ar _ h;have g8:=F.sub_list_set;have g9:=F.sub_list_frozenset;have ga:(hB.type "list"==hB.type "dict")=gU:=by decide
    have P:(s.heap.push (lV led)).IsList l items:={_,eL,rfl,O,rfl};unfold i1.«set.__init__» noKeywords i1.Frozenset.updateFrom;generalize u:pyIter=PI
    wp_walk
    subst u;refine wpAny_pyIter_list P ?_;refine ak (wpAny_runValue ?_);have lS:l<(zz9 s):=cB h;have sz:(s.heap.push (lV led)).objs.size=(zz9 s)+1:=h9.size_push ..;have up:∀b o,s.heap.get? b=gF o->((s.heap.push (lV led)).push {cls:=.type (zu 22),data:=.fields #[.ref l,.int 0 0]}).get? b=gF o:=λb o e=>ar _ (ar _ e);have ZM:((s.heap.push (lV led)).push {cls:=.type (zu 22),data:=.fields #[.ref l,.int 0 0]}).get? (zz9 s)=gF (lV led):=ar _ eS;have S0:jZ knd ((s.heap.push (lV led)).push {cls:=.type (zu 22),data:=.fields #[.ref l,.int 0 0]}) (zz9 s) []:=BR (by rw [f];exact ZM);refine BO (knd:=knd) (A:=A.in1.in1) (S:=(zz9 s)) (I:=(s.heap.push (lV led)).objs.size) (l:=l) (items:=items) (kf:=kf) (U:=U) (by show A.units+1+1+1<cLine;lia) (by simp [W]) (by rw [sz];exact d0 (Nat.lt_succ_self _)) (Nat.ne_of_gt lS) (by rw [sz];exact d0 (Nat.lt_succ_of_lt lS)) X Y s (λi v hv=>?_) (λh' tk es y B C D=>?_) items.size 0 _ s.toks [] (by lia) (Nat.zero_le _) {{_,dJ _ rfl,rfl,rfl},P.push _} S0 ?_ (λe G=>by cases G) (λb o _ _ e=>up b o e)
    .let(b,rfl,t):=h0 i v hv;have V:b<(zz9 s):=by let(o,_,_,e,_):=t;exact cB e
     exact{b,rfl,d0 V,by rw [sz];exact d0 (Nat.lt_succ_of_lt V),t}
    .refine a8 ?_;refine a8 {rfl,h',tk,es,rfl,y,B,C,λb o e=>D b o (d0 (cB e)) ?_ e};rw [sz];exact d0 (Nat.lt_succ_of_lt (cB e))
    .intro k;exact{λ⟨e,G,_⟩=>by(cases G),λ⟨j,hj,_⟩=>by lia}
   .cases g with
    |error e=>exact a|ok d=>
     cases d with
     |ret r=>
      let(rfl,h',tk,es,rfl,y,B,C,D):=a
      repeat (any_goals (first|assumption|wp_step))
      exact q h' tk es y B C D
     |_=>exact a.elim
  |_=>exact p.elim
end
end St
namespace St
open PySem.Spec PyProof.Rows
def Pc:Manifest.owners.lookup (String.ofList ("rotareti_tes".toList).reverse)=gF Manifest.sig_set_iterator:=by kernel_rfl
def lW:Slot (zu 58) "__next__" (zu 49):=by
 refine .of (owner:=(zu 58)) (n:="__next__") ?_ ?_ ?_ ?_ ?_ ?_
 .rw [typeLookup_type,builtinLookup_eq_fast];kernel_rfl
 .decide+kernel
 .decide+kernel
 .decide+kernel
 .first
   |exact .inl (by decide+kernel)
   |exact .inr (by decide+kernel)
 .rw [isSubtype_type];kernel_rfl
def vB:entryFor table (zu 49)=gF i1.«set_iterator.__next__»:=by refine entryFor_of_tree ?_;kernel_rfl
def BI:entryFor table "set.__iter__"=gF i1.«frozenset.__iter__»:=by
 refine entryFor_alias (id':="frozenset.__iter__") ?_ rfl ?_ ?_
 .kernel_rfl
 .decide+kernel
 .kernel_rfl
def yZ(a:hB):argsOk (zu 49) {[a],[]}:=by unfold argsOk;rw [signature?_of (id:=(zu 49)) (n:=['_','_','t','x','e','n','_','_']) (o:=['r','o','t','a','r','e','t','i','_','t','e','s']) (by kernel_rfl) Pc];kernel_rfl
theorem zH{b:Type}:∀(l:List b) (i:Nat) (h:i<l.length),(l[i]::l.eraseIdx i).Perm l
 |a::l,0,h=>.refl _|a::l,i+1,h=>by have c:=zH l i (zx6 h);show(l[i]'(zx6 h)::a::l.eraseIdx i).Perm (a::l);exact(List.Perm.swap _ _ _).trans (c.cons a)
theorem Mb{d:Type}(next:Nat->Nat):∀(b k:Nat) (left:List d) (c:Array d),left.length<=b->(pickOrder.go next b k left c).toList.Perm (c.toList++left)
 |0,k,left,c,h=>by have:left=[]:=List.length_eq_zero_iff.1 (by lia);subst this;rw [gg];exact .refl _|b+1,k,left,c,h=>by
  rw [pickOrder.go];cases e:left[next k%left.length]? with
  |none=>
   have:left=[]:=by
    cases left with
    |nil=>rfl|cons a l=>have:=List.getElem?_eq_none_iff.1 e;have:=Nat.mod_lt (next k) (show 0<(a::l).length by simp);lia
   subst this;simp
  |some x=>
   let(f,g):=a9.1 e;have i:=Mb next b (k+1) (left.eraseIdx (next k%left.length)) (c.push x) (by rw [List.length_eraseIdx_of_lt f];lia)
   refine i.trans ?_;rw [Array.toList_push,List.append_assoc];refine List.Perm.append_left _ ?_;show(x::left.eraseIdx (next k%left.length)).Perm left;subst g;exact zH left _ f
def Km{a:Type}(next:Nat->Nat)(xs:Array a):(pickOrder next xs).toList.Perm xs.toList:=by
 have:=Mb next xs.size 0 xs.toList #[] (by rw [el];exact a5 _)
 unfold pickOrder;simpa using this
section
variable{E:kd}{s:hD}{S it:hF}{arr:Array (Int×hB)}{ep:Nat}{t:i3}
abbrev dD(w:hQ)(S:hF)(ep:Nat)(arr:Array (Int×hB)):Array (Int×hB):=if w.params.followText (zu 15) then pickOrder (w.params.setOrder S ep) arr else arr
def rZ(w:hQ)(S:hF)(ep:Nat)(arr:Array (Int×hB)):(dD w S ep arr).toList.Perm arr.toList:=by
 unfold dD;split
 .exact Km ..
 .exact .refl _
def gG(w:hQ)(S:hF)(ep:Nat)(arr:Array (Int×hB)):(dD w S ep arr).size=arr.size:=by
 have:=(rZ w S ep arr).length_eq
 rwa [el,el] at this
abbrev QG(sl i n ep:Nat)(S:hF):Obj:={cls:=.type (zu 58),data:=.fields #[rawInt sl,rawInt i,.ref S,rawInt n,rawInt ep]}
abbrev slt(w:hQ)(t:i3):Nat->Nat
 |0=>0|i+1=>if w.params.followText (zu 15) then 0 else t.place.toList.getD i 0+1
def Ub(w:hQ)(h:h9)(it S:hF)(t:i3)(i n ep:Nat):Prop:=h.get? it=gF (QG (slt w t i) i n ep S)
def KG{Q:kd}(a:s.heap.get? S=gF o)(c:o.ExactSet)(hd:o.data=.set arr ep t)(b:t.fits arr.size=gS)(d:t.plain=gS)(q:Q (.ref (zz9 s)) {s with heap:=s.heap.push (QG 0 0 arr.size ep S)}):hJ (hV prog w) A (pyIter (.ref S)) Q E s:=by have T:s.TypeIs (.ref S) "set":=⟨o,a,c.1⟩;refine wpAny_pyIter_slot T F.slot_set_iter (wpAny_call_entry F.slot_set_iter T BI ?_ (F.args_set_iter_1 _));unfold i1.«frozenset.__iter__» i1.Frozenset.slot0 i1.Frozenset.addrOf i1.Frozenset.sizeOf;refine ak (ak (a8 (a8 (ak (ak (wpAny_setEntries_of a hd b (a8 ?_)))))));unfold setDrawn setsByText;refine ak (ak (wpAny_setState_of a hd b (ak (ak (wpAny_askSetting (a8 (a8 ?_)))))));dsimp only;rw [if_neg λz=>by have y:(!t.plain&&decide (arr.size>1))=gS:=(Bool.and_eq_true_iff.1 z).2;rw [d] at y;simp at y];refine ak (a8 ?_);unfold setEpoch newFields;refine ak (ak (wpAny_setState_of a hd b (a8 ?_)));refine ak (wpAny_newObj_type (a8 {_,rfl,zu 58,_,{_,dJ _ rfl,rfl},lW.lookup,?_}) (by size_fits));exact q
def vb{xs:Array Nat}(f:Qh xs.toList){v i:Nat}(h:i<=xs.size)(h1:∀k x,xs.toList[k]?=gF x->k<i->x<v)(g:∀k x,xs.toList[k]?=gF x->i<=k->v<=x):i3.below xs v=i:=by
 let(c,a,b):=oy f v
 rcases Nat.lt_trichotomy (i3.below xs v) i with z|z|z
 .have d:i3.below xs v<xs.toList.length:=by rw [el];lia
  have e:=zzg d;have:=b _ _ e (a5 _);have:=h1 _ _ e z;lia
 .exact z
 .have d:i<xs.toList.length:=by rw [el];lia
  have e:=zzg d;have:=a _ _ e z;have:=g _ _ e (a5 _);lia
def Be(ok:qS t arr.toList)(g:w.params.followText (zu 15)=gU){i:Nat}(q:i<=arr.size):i3.below t.place (slt w t i)=i:=by
 have sz:t.place.size=arr.size:=by have:=ok.len;rwa [el,el] at this
 have mono:∀k x d f,t.place.toList[k]?=gF x->t.place.toList[d]?=gF f->k<d->x<f:=λk x d f e j h=>by let(a,rfl):=a9.1 e;let(b,rfl):=a9.1 j;exact List.pairwise_iff_getElem.1 ok.Me k d a b h
 cases i with
 |zero=>exact vb ok.Me (Nat.zero_le _) (λk x Z h=>by lia) (λk x Z Z=>Nat.zero_le _)|succ i=>
  have m:i<t.place.toList.length:=by rw [el];lia
  have e:=zzg m;have p:slt w t (i+1)=t.place.toList[i]+1:=by show(if w.params.followText (zu 15) then 0 else t.place.toList.getD i 0+1)=_;rw [g,if_neg zzf,b4,e];rfl
  rw [p];refine vb ok.Me (by lia) (λk x c h=>?_) (λk x c h=>?_)
  .by_cases z:k=i
   .subst z;rw [e] at c;cases c;lia
   .have:=mono _ _ _ _ c e (by lia);lia
  .exact mono _ _ _ _ e c (by lia)
def GC(b:s.heap.get? S=gF o)(hd:o.data=.set arr ep t)(c:t.fits arr.size=gS)(ok:qS t arr.toList)(g:t.plain=gS)(hl:t.led=(!w.params.followText (zu 15))){i:Nat}(h:i<=arr.size){Q:Option (hB×Nat)->hD->Prop}(q:Q ((dD w S ep arr)[i]?.map λe=>(e.2,slt w t (i+1))) s):hJ (hV prog w) A (setNext S (slt w t i) i ep) Q E s:=by
 unfold setNext setsByText;refine ak (wpAny_setState_of b hd c (ak (ak (wpAny_askSetting (a8 ?_)))));dsimp only;show hJ _ _ (if w.params.followText (zu 15)=gS then _ else _) _ _ s;cases a:w.params.followText (zu 15) with
 |true=>
  rw [if_pos rfl,if_neg (by simp)];unfold setWalk setsByText;refine ak (ak (wpAny_setState_of b hd c (ak (ak (wpAny_askSetting (a8 ?_))))));show hJ _ _ (if w.params.followText (zu 15)=gS then _ else _) _ _ s;rw [a,if_pos rfl];refine ak (wpAny_askSetting (a8 (a8 ?_)));have d:∀i,slt w t i=0:=λi=>by cases i<;>simp [slt,a]
  unfold dD at q;rw [a,if_pos rfl,d] at q;rw [d];exact q
 |false=>
  rw [if_neg zzf];rw [if_neg λz=>by have y:(!t.plain&&decide (arr.size>1))=gS:=z;rw [g] at y;simp at y];refine ak ?_;show hJ _ _ (if(!t.led&&!arr.isEmpty)=gS then unsupported _ else pure ()) _ _ s;rw [hl,a,if_neg (by simp)];refine a8 ?_;rw [Be ok a h];refine a8 ?_;unfold dD at q;rw [a,if_neg zzf] at q;have sz:t.place.size=arr.size:=by have:=ok.len;rwa [el,el] at this
  cases e:arr[i]? with
  |none=>rw [e] at q;cases t.place[i]?<;>exact q
  |some x=>
   rw [e] at q;have j:i<t.place.size:=by rw [sz];exact(Array.getElem?_eq_some_iff.1 e).1
   have f:t.place[i]?=gF t.place[i]:=by simp [j]
   have k:slt w t (i+1)=t.place[i]+1:=by show(if w.params.followText (zu 15) then 0 else t.place.toList.getD i 0+1)=_;rw [a,if_neg zzf,b4,Array.getElem?_toList,f];rfl
   rw [k] at q;rw [f];exact q
def Th(b:s.heap.get? S=gF o)(hd:o.data=.set arr ep t)(c:t.fits arr.size=gS)(ok:qS t arr.toList)(d:t.plain=gS)(hl:t.led=(!w.params.followText (zu 15))){i:Nat}{e:Int×hB}(a:(dD w S ep arr)[i]?=gF e){Q:Option (hB×Nat)->hD->Prop}(q:Q (gF (e.2,slt w t (i+1))) s):hJ (hV prog w) A (setNext S (slt w t i) i ep) Q E s:=
 GC b hd c ok d hl (by rw [<-gG w S ep arr];exact Nat.le_of_lt (Array.getElem?_eq_some_iff.1 a).1) (by rw [a];exact q)
def Tf(a:s.heap.get? S=gF o)(hd:o.data=.set arr ep t)(b:t.fits arr.size=gS)(ok:qS t arr.toList)(c:t.plain=gS)(hl:t.led=(!w.params.followText (zu 15))){Q:Option (hB×Nat)->hD->Prop}(q:Q gK s):hJ (hV prog w) A (setNext S (slt w t arr.size) arr.size ep) Q E s:=
 GC a hd b ok c hl (a5 _) (by rw [Array.getElem?_eq_none (by rw [gG];exact a5 _)];exact q)
def KH{Q:Option hB->hD->Prop}{i:Nat}{e:Int×hB}(st:Ub w s.heap it S t i arr.size ep)(a:s.heap.get? S=gF o)(hd:o.data=.set arr ep t)(b:t.fits arr.size=gS)(ok:qS t arr.toList)(d:t.plain=gS)(hl:t.led=(!w.params.followText (zu 15)))(c:(dD w S ep arr)[i]?=gF e)(p:S≠it)
 (q:∀h',Ub w h' it S t (i+1) arr.size ep->h9.SameBut it s.heap h'->Q (gF e.2) {s with heap:=h'}):hJ (hV prog w) A (pyNext (.ref it)) Q E s:=by
 have T:s.TypeIs (.ref it) (zu 58):={_,st,rfl};have r:i<arr.size:=by rw [<-gG w S ep arr];exact(Array.getElem?_eq_some_iff.1 c).1
 unfold pyNext;refine ak (wpAny_attempt (wpAny_callSpecial?_slot (name:=Str.ofString "__next__") T lW (wpAny_call_entry lW T vB ?_ (yZ _))));refine ak (a8 (ak (wpAny_fieldsOf st rfl ?_)));show hJ _ _ (setEntries S>>=λz=>_) _ _ s;refine ak (wpAny_setEntries_of a hd b ?_);rw [if_neg (by simp)];show hJ _ _ (setNext S (slt w t i) i ep>>=λz=>_) _ _ s;refine ak (Th a hd b ok d hl c ?_);show hJ _ _ (setField (.ref it) 0 (rawInt (slt w t (i+1)))>>=λZ=>_) _ _ s;refine ak (wpAny_setField_rec st (by simp) λf g h=>?_);refine ak (wpAny_setField_rec (s:={s with heap:=f}) g (by simp) λj k m=>?_);exact a8 {_,rfl,a8 (q j k (h.trans m))}
def PK{Q:Option hB->hD->Prop}(e:A.handled=gK)(st:Ub w s.heap it S t arr.size arr.size ep)(c:s.heap.get? S=gF o)(hd:o.data=.set arr ep t)(d:t.fits arr.size=gS)(ok:qS t arr.toList)(f:t.plain=gS)(hl:t.led=(!w.params.followText (zu 15)))
 (q:∀h',h9.ExtBut it s.heap h'->Q gK {s with heap:=h'}):hJ (hV prog w) A (pyNext (.ref it)) Q E s:=by
 have T:s.TypeIs (.ref it) (zu 58):={_,st,rfl};unfold pyNext;refine ak (wpAny_attempt (wpAny_callSpecial?_slot (name:=Str.ofString "__next__") T lW (wpAny_call_entry lW T vB ?_ (yZ _))));refine ak (a8 (ak (wpAny_fieldsOf st rfl ?_)));show hJ _ _ (setEntries S>>=λz=>_) _ _ s;refine ak (wpAny_setEntries_of c hd d ?_);rw [if_neg (by simp)];show hJ _ _ (setNext S (slt w t arr.size) arr.size ep>>=λz=>_) _ _ s;refine ak (Tf c hd d ok f hl ?_);show hJ _ _ (setField (.ref it) 2 .none>>=λZ=>_) _ _ s;refine ak (wpAny_setField st rfl (by simp) ?_);show hJ _ _ (newExc (.type (zu 52)) []>>=λZ=>_) _ _ _;refine ak ?_;simp! [newExc,newTuple];refine ak (wpAny_newObj_type (ak (m:=firstArgMember _ _) (wpAny_of_eq (a:=hB.none) (by first|rfl|(simp! [firstArgMember];rfl)) (wpAny_newObj_type ?_ (by size_fits)))) (by size_fits));simp! [raiseNew];refine ak (wpAny_handled ?_);rw [show A.in1.handled=gK from e];refine ak (a8 (wpAny_throw ?_));refine ak (wpAny_isInstance (T:=(zu 52)) (b:=gS) {_,dJ _ rfl,rfl} isSubtype_stop ?_);exact a8 (q _ (((ff ..).extBut.push _).push _))
end
end St
namespace St
open PySem.Spec PyProof.Rows PySem.W L2
section
variable{E:kd}{s:hD}{S:hF}{arr:Array (Int×hB)}{ep:Nat}{t:i3}
def EF(T:s.TypeIs (.ref S) "set"){Q:Bool->hD->Prop}(h:Q gU s):hJ (hV prog w) A (i1.List.listLengthHint (.ref S)) Q E s:=by
 unfold i1.List.listLengthHint;refine ak (wpAny_specialOf T F.slot_set_len.lookup ?_);generalize a:("set.__len__":String)=c
 wp_delta
 rw [show splitId c=gF ("set","__len__") from by subst a;decide+kernel];subst a;refine ak (wpAny_isInstance (T:="set") (b:=gS) T sub_set_self ?_);refine wpAny_ite_split (λz=>absurd z (by decide)) (λZ=>?_);refine wpAny_ite_split (λZ=>?_) (λz=>absurd (by decide+kernel) z);exact ak (wpAny_typeOf T (a8 h))
structure Qi(w:hQ)(h:h9)(S:hF)(arr:Array (Int×hB))(ep:Nat)(t:i3):Prop where
 ex:∃o,h.get? S=gF o/\o.ExactSet/\o.data=.set arr ep t
 fit:t.fits arr.size=gS
 ok:qS t arr.toList
 pl:t.plain=gS
 led:t.led=(!w.params.followText (zu 15))
 Np:arr.size<=1000
def Qi.at(x:Qi w h S arr ep t)(k:∀o,h.get? S=gF o->h'.get? S=gF o):Qi w h' S arr ep t:=by let(o,a,b):=x.ex;exact{{o,k o a,b},x.fit,x.ok,x.pl,x.led,x.Np}
def Gy{R:Result->hD->Prop}{Z I:hF}{h1:h9}(L:A.handled=gK)(f:Z≠I)(M:S≠Z)(G:S≠I)(res:hB)
 (N:∀h' tk c,(∀b x,b≠Z->b≠I->h1.get? b=gF x->h'.get? b=gF x)->h'.get? Z=gF (lO ((dD w S ep arr).map (·.2)) c)->R (.ok (.ret res)) {s with heap:=h',toks:=tk}):
 ∀(k i:Nat) (h:h9) (tk c:Nat),arr.size-i=k->i<=arr.size->Ub w h I S t i arr.size ep->Qi w h S arr ep t->(∀b x,b≠Z->b≠I->h1.get? b=gF x->h.get? b=gF x)->h.get? Z=gF (lO (((dD w S ep arr).map (·.2)).extract 0 i) c)->
  codeAny (hV prog w) A (.builtin "list.extend.loop" {[.ref Z,.ref I,res],[]}) R {s with heap:=h,toks:=tk}:=by
 have sz:((dD w S ep arr).map (·.2)).size=arr.size:=by rw [Array.size_map,gG]
 intro k
 induction k with
 |zero=>
  intro i h tk c hk O st x kp g;have P:i=arr.size:=by lia
  subst P;let((o,j,Q,hd),p,ok,r,hl,T):=x;refine codeAny_builtin PySem.F.entry_extend_loop ?_;rw [gr PySem.F.plain_extend_loop _];refine ak (PK (s:={s with heap:=h,toks:=tk}) (A:=A.in1) L st j hd p ok r hl λh' y=>?_);refine a8 (N h' tk c (λb z d a q=>y b z a (kp b z d a q)) (y Z _ f ?_));rw [g]
  congr 2
  rw [<-sz];exact Array.extract_size
 |succ k U=>
  intro i h tk c hk O st x kp g;have H:i<(dD w S ep arr).size:=by rw [gG];lia
  let((o,j,Q,hd),p,ok,r,hl,T):=id x;refine codeAny_builtin PySem.F.entry_extend_loop ?_;rw [gr PySem.F.plain_extend_loop _];refine ak (KH (s:={s with heap:=h,toks:=tk}) (A:=A.in1) (e:=(dD w S ep arr)[i]) st j hd p ok r hl (fP H) G λh' V u=>?_);have K:h'.get? Z=gF (lO (((dD w S ep arr).map (·.2)).extract 0 i) c):=(u.2 Z f).trans g;have B:∀b z,b≠Z->h'.get? b=gF z->(h'.update Z (Obj.mapSeq (·.push ((dD w S ep arr)[i]).2))).get? b=gF z:=λb z W q=>(h9.get?_update_other _ _ (Ne.symm W)).trans q;show hJ _ A.in1 (updateSeq Z (·.push ((dD w S ep arr)[i]).2)>>=λY=>_) _ _ _;have ext:(((dD w S ep arr).map (·.2)).extract 0 i).push ((dD w S ep arr)[i]).2=((dD w S ep arr).map (·.2)).extract 0 (i+1):=by apply Array.toList_inj.1;simp! [Array.toList_push,Array.toList_extract,List.extract_eq_take_drop,Array.toList_map,Nat.sub_zero,List.drop_zero];rw [List.take_succ,cS,Array.getElem?_toList,fP H];rfl
  have X:=h9.get?_update_self (Obj.mapSeq (·.push ((dD w S ep arr)[i]).2)) K rfl;have C:∃D,(h'.update Z (Obj.mapSeq (·.push ((dD w S ep arr)[i]).2))).get? Z=gF (lO (((dD w S ep arr).map (·.2)).extract 0 (i+1)) D):=by rw [<-ext];exact{_,X}
  let(D,C):=C
  refine ak (wpAny_updateSeq (hz:=by
   have:(((dD w S ep arr).map (·.2)).extract 0 i).size<=1001:=by rw [Array.size_extract];lia
   exact c6 (m:=1001) this (by rw [sizeLine_eq];decide)) K rfl (a8 {plainId_quiet PySem.F.plain_extend_loop _,U (i+1) _ tk D (by lia) (by lia) (B I _ f.symm V) ((x.at λo e=>(u.2 S G).trans e).at λo e=>B S o M e) (λb z d a q=>B b z d ((u.2 b a).trans (kp b z d a q))) C}))
def yx{R:Result->hD->Prop}{Z:hF}(G:A.handled=gK)(x:Qi w s.heap S arr ep t)(g:S≠Z)(res:hB)(c:Nat)(u:s.heap.get? Z=gF (lO #[] c))
 (H:∀h' tk c,(∀b y,b≠Z->s.heap.get? b=gF y->h'.get? b=gF y)->h'.get? Z=gF (lO ((dD w S ep arr).map (·.2)) c)->R (.ok (.ret res)) {s with heap:=h',toks:=tk}):
 hJ (hV prog w) A.in1 (i1.List.listExtendWith (.ref Z) (.ref S) res) (λi s'=>match i with|.done f=>R (.ok f) s'|.again z=>z.quiet=gS/\codeAny (hV prog w) A z R s') (λe s'=>R (.error e) s') s:=by
 let(o,a,j,hd):=x.ex;have T:s.TypeIs (.ref S) "set":=⟨o,a,j.1⟩;have B:Z<(zz9 s):=cB u;have I:S<(zz9 s):=cB a;have kp:∀b y,s.heap.get? b=gF y->(s.heap.push (QG 0 0 arr.size ep S)).get? b=gF y:=λb y q=>ar _ q;have eI:(s.heap.push (QG 0 0 arr.size ep S)).get? (zz9 s)=gF (QG 0 0 arr.size ep S):=dJ _ rfl;have K:((dD w S ep arr).map (·.2)).extract 0 0=#[]:=by simp
 have key:∀(h:h9) (k tk:Nat),(∀b y,b≠Z->(s.heap.push (QG 0 0 arr.size ep S)).get? b=gF y->h.get? b=gF y)->h.get? Z=gF (lO #[] k)->codeAny (hV prog w) A (.builtin "list.extend.loop" {[.ref Z,.ref (zz9 s),res],[]}) R {s with heap:=h,toks:=tk}:=λh k tk hk m=>Gy (h1:=s.heap) (w:=w) (t:=t) G (d0 B) g (d0 I) res (λh' L c p C=>H h' L c (λb y d q=>p b y d (d0 (cB q)) q) C) arr.size 0 h tk k rfl (Nat.zero_le _) (hk _ _ (Nat.ne_of_gt B) eI) (x.at λo e=>hk S o g (kp S o e)) (λb y p C q=>hk b y p (kp b y q)) (by rw [K];exact m);unfold i1.List.listExtendWith;refine ak (wpAny_typeOf T ?_);have m:i1.List.listSameRef (.ref Z) (.ref S)=gU:=by simp [i1.List.listSameRef,g.symm]
 have M:(hB.type "set"==hB.type "list")=gU:=by decide
 have N:(hB.type "set"==hB.type "tuple")=gU:=by decide
 simp! [m,M,N,Bool.or_false,en,if_false];refine ak (KG a j hd x.fit x.pl ?_);have r:=kp _ _ u;refine ak (wpAny_holding (EF {o,kp _ _ a,j.1} ?_));refine wpAny_ite_split (λY=>?_) (λY=>a8 {plainId_quiet PySem.F.plain_extend_loop _,key _ c _ (λb y Y q=>q) r});refine ak (wpAny_rule (ak ?_));show hJ _ _ (updateSeq Z (·.push .none)>>=λY=>updateSeq Z (·.pop)) _ _ _;refine ak (wpAny_updateSeq r rfl ?_);have D:=h9.get?_update_self (Obj.mapSeq (·.push hB.none)) r rfl;refine wpAny_updateSeq (hz:=by seq_fits) D rfl ?_;have O:=h9.get?_update_self (Obj.mapSeq (·.pop)) D rfl;exact a8 {plainId_quiet PySem.F.plain_extend_loop _,key _ _ _ (λb y d q=>(h9.get?_update_other _ _ (Ne.symm d)).trans ((h9.get?_update_other _ _ (Ne.symm d)).trans q)) O}
def QW(w:hQ)(s:hD)(S:hF)(ep:Nat)(arr:Array (Int×hB))(res:Result)(s':hD):Prop:=∃a d c,res=.ok (.ret (.ref (zz9 s)))/\s'={s with heap:=a,toks:=d}/\(∀b y,s.heap.get? b=gF y->a.get? b=gF y)/\a.get? (zz9 s)=gF (lO ((dD w S ep arr).map (·.2)) c)
def wK{Q:List hB->hD->Prop}(d:A.handled=gK)(x:Qi w s.heap S arr ep t)
 (q:∀h' tk,(∀b y,s.heap.get? b=gF y->h'.get? b=gF y)->Q ((dD w S ep arr).toList.map (·.2)) {s with heap:=h',toks:=tk}):hJ (hV prog w) A (collect (.ref S)) Q E s:=by
 let(o,f,r,hd):=x.ex;have g:(s.heap.push (kc "list" #[] 0)).get? (zz9 s)=gF (lO #[] 0):=dJ _ rfl;have kp:∀b y,s.heap.get? b=gF y->(s.heap.push (kc "list" #[] 0)).get? b=gF y:=λb y q=>ar _ q;have a:codeAny (hV prog w) A (.builtin "proto.collect" {[.ref S],[]}) (QW w s S ep arr) s:=by refine codeAny_builtin F.entry_proto_collect ?_;rw [gr F.plain_proto_collect _];show hJ _ A.in1 (newList []>>=λl=>again (.builtin "list.__iadd__" {[l,.ref S],[]})) _ _ s;refine ak (wpAny_newList (a8 {plainId_quiet F.plain_list_iadd _,codeAny_builtin F.entry_list_iadd ?_}) (Nat.zero_le _));rw [gr F.plain_list_iadd _];exact yx (R:=QW w s S ep arr) (s:={s with heap:=s.heap.push (kc "list" #[] 0)}) d (x.at λo e=>kp S o e) (d0 (cB f)) (.ref (zz9 s)) 0 g λh' tk c h i=>{h',tk,c,rfl,rfl,λb y e=>h b y (d0 (cB e)) (kp b y e),i}
 unfold collect;refine ak (wpAny_runValue (codeAny_mono a λj u k=>?_));let(h',tk,c,rfl,rfl,m,p):=k;show hJ _ A (load (zz9 s)>>=λz=>_) _ _ _;refine ak (wpAny_load p (a8 ?_));show Q ((dD w S ep arr).map (·.2)).toList _;rw [Array.toList_map];exact q h' tk m
end
abbrev UK(r c:Int):Int:=reduceHash (i1.Tuple.tupleHashOf [hashInt r,hashInt c])
abbrev Rk(h:Int):Bool:=Rl 7 h
def Rj:((List.range 6).all λ(r:Nat)=>(List.range 6).all λ(c:Nat)=>Rk (UK (r:Int) (c:Int)))=gS:=by decide+kernel
def MV(h:FJ ns=gS):xn (ia (aM P w) (ns.map .inl)):=by
 match ns,h with
 |[r,c],h=>simp! [FJ,zza,zzN] at h;let((a,d),b,f):=h;let(r,rfl):=fi a;let(c,rfl):=fi b;have z:=c5.1 (c5.1 Rj r (List.mem_range.2 (by lia))) c (List.mem_range.2 (by lia));have e:ia (aM P w) ([(r:Int),(c:Int)].map .inl)=UK r c:=rfl;rw [e];exact{HX z}
abbrev U2(p:hF)(o:Obj):HO:=.ext λh=>h.get? p=gF o
def X5(w:hQ)(p:hF)(o:Obj)(us:List hB):Prop:=∃a b t,o.ExactSet/\o.data=.set a b t/\t.fits a.size=gS/\qS t a.toList/\t.plain=gS/\t.led=(!w.params.followText (zu 15))/\a.size<=1000/\us=(dD w p b a).toList.map (·.2)
theorem Aq{Z:List (V×List Int)}:∀{es:List (Int×hB)},(∀e∈es,∃v ns,RelV v e.2/\(v,ns)∈Z/\aS (aM P w) h e (ns.map .inl))->
 ∃vs nss,Vals vs (es.map (·.2))/\Paired (λv ns=>(v,ns)∈Z) vs nss/\Paired (λe (ns:List Int)=>aS (aM P w) h e (ns.map .inl)) es nss
 |[],_=>{[],[],.nil,.nil,.nil}|e::es,H=>by let(v,ns,h1,d,f):=H e (cP ..);let(vs,nss,a,b,c):=Aq λx g=>H x (bc _ g);exact{v::vs,ns::nss,.cons h1 a,.cons d b,.cons f c}
def Kq{d e:Type}{F:d->e->Prop}{l:List d}{m:List e}(r:Paired F l m){a}(hm:a∈l):∃b∈m,F a b:=by
 induction r with
 |nil=>cases hm
 |cons h _ g=>
  rcases ey.1 hm with rfl|hm
  .exact{_,cP ..,h}
  .let(c,i,f):=g hm;exact{c,bc _ i,f}
def AF{d e:Type}{F:d->e->Prop}{l:List d}{m:List e}(r:Paired F l m){b}(hm:b∈m):∃a∈l,F a b:=by
 induction r with
 |nil=>cases hm
 |cons h _ g=>
  rcases ey.1 hm with rfl|hm
  .exact{_,cP ..,h}
  .let(c,i,f):=g hm;exact{c,bc _ i,f}
def Pp{c d:Type}{F:c->d->Prop}{l:List c}{m:List d}(r:Paired F l m){a b}(hm:(a,b)∈l.zip m):F a b:=by
 induction r with
 |nil=>cases hm
 |cons h _ f=>
  rw [List.zip_cons_cons] at hm;rcases ey.1 hm with e|hm
  .cases e;exact h
  .exact f hm
theorem Jw{a b:List Int}(e:a.map (Sum.inl (β:=Str))=b.map .inl):a=b:=(List.map_inj_right λx y z=>Sum.inl.inj z).1 e
def Gd(r:Paired (λe (ns:List Int)=>aS (aM P w) h e (ns.map .inl)) es nss)(q:es.Pairwise λe b=>∀k,aS (aM P w) h e k->¬aS (aM P w) h b k):nss.Nodup:=by
 induction r with
 |nil=>exact List.nodup_nil|cons a t d=>let(f,g):=List.pairwise_cons.1 q;refine List.nodup_cons.2 {λhm=>?_,d g};let(b,c,z):=AF t hm;exact f b c _ a z
def Br(hu:X.A.units+64<cLine)(hc:X.calm=gS):cG X (.type "set") (λxs H Q=>∃a vs nss,∃U:ku,xs=[V.ref a]/\gR X.K H a vs/\mf X.K H vs nss/\(∀ns∈nss,ns∈U/\FJ ns=gS)/\U.length<=4/\
 ∀p o us F m,H p=gK->X5 X.w p o us->Vals F us->Paired (λv ns=>(v,ns)∈vs.zip nss) F m->m.Nodup->(∀k,k∈m↔k∈nss)->Q (.ref p) (upd H p (U2 p o))):=by
 intro ae s σ H xs us Q I r h;let(a,vs,nss,U,rfl,hl,t,hU,Uy,q):=h;let(u,rfl,ru):=vals1 r;cases ru;let(g,N,p,hz):=I.list hl;have O:nss.length=g.length:=by rw [<-t.length,N.length]
 have at_:∀(i:Nat) v,g[i]?=gF v->∃b,v=.ref b/\∃ns,nss[i]?=gF ns/\(V.ref b,ns)∈vs.zip nss/\TK (aM X.prog X.w) s.heap (ns.map .inl) b:=by
  clear hz p hl hU q r O;intro i
  induction t generalizing g i with
  |nil=>cases N;intro v c;cases c
  |cons hd tl P=>
   cases N with
   |cons r1 r2=>
    let(b,rfl,hq,gQ):=hd
    cases(show _=hB.ref b from r1);cases i with
    |zero=>
     intro v c;cases c;let(is,B,(o,g1,g2,n,g3),_):=I.tuple hq;refine{b,rfl,_,rfl,cP ..,o,is.toArray,n,g1,g2,g3,?_,?_}
     .refine mv ?_;rw [List.map_map];exact B
     .intro v c;have:∀{ns:List Int} {is:List hB},Vals (ns.map V.int) is->∀v∈is,plainKind v=gS:=by
       intro ns
       induction ns with
       |nil=>intro is h v c;cases h;cases c
       |cons n ns P=>
        intro is h v c;cases h with
        |cons h1 h2=>
         let(t,rfl):=(show∃t,_=hB.int n t from h1)
         rcases ey.1 c with rfl|c
         .rfl
         .exact P h2 v c
      exact this B v c
    |succ i=>intro v c;let(b',e,ns,G,R,T):=P _ r2 i v c;exact{b',e,ns,G,bc _ R,T}
 refine Bs (knd:=aM X.prog X.w) (l:=a) (items:=g.toArray) (kf:=λi=>(nss.getD i []).map .inl) (U:=U.map λns=>ns.map .inl) (by lia) (I.ok.hd hc) p.isList (λi hi=>?_) (by rw [zzl];exact Uy) (λi v c=>?_) λL W es S Hs mm kp=>?_
 .have Sa:i<nss.length:=by rw [O];simpa using hi
  have e:nss.getD i []=nss[i]:=by simp [Sa]
  have:=hU nss[i] (List.getElem_mem Sa);rw [e];exact{fm.2 {_,this.1,rfl},MV this.2}
 .have Y:g[i]?=gF v:=zx6 c;let(b,rfl,ns,G,_,W):=at_ i v Y
  refine{b,rfl,?_};rw [b4,G];exact W
 .let(o,d,M,tb,ho,hx,hd,C,ok,hp,qi,hm):=id S.ex;have ok:qS tb d.toList:=C▸ok;have f:d.toList.length<=4/\d.toList.length<=tb.mask:=by rw [C];rw [hm.1];lia
  have Z:=rZ X.w (zz9 s) M d
  have D:∀e∈(dD X.w (zz9 s) M d).toList,∃v ns,RelV v e.2/\(v,ns)∈vs.zip nss/\aS (aM X.prog X.w) L e (ns.map .inl):=λe hm=>by
   have nJ:e∈es:=C▸Z.subset hm;let(j,E):=mm e nJ;have EG:g[j]?=gF e.2:=zx6 E;let(b,eb,ns,G,R,T):=at_ j _ EG
   let(k,(b',rfl,Hi),_):=S.key e nJ;cases eb;have Yu:TK (aM X.prog X.w) L (ns.map .inl) b:=by let(o,i,n,a1,a2):=T;exact{o,i,n,kp _ _ a1,a2}
   have:=Hi.inj Yu;subst this;exact{.ref b,ns,rfl,R,b,rfl,Yu}
  let(F,m,b1,b2,b3):=Aq D;have sym:(dD X.w (zz9 s) M d).toList.Pairwise λe e'=>∀k,aS (aM X.prog X.w) L e k->¬aS (aM X.prog X.w) L e' k:=by have:=S.nd;rw [<-C] at this;exact(Z.pairwise_iff λ{x y} z k a b=>z k b a).2 this
  refine{.ref (zz9 s),_,I.laid (a:=(zz9 s)) (o:=U2 (zz9 s) o) (t':=W) kp (a5 _) {ho,{_,ho},λh1 h2 q1 q2=>q2 _ q1},rfl,q _ o _ F m (I.aN.fresh (a5 _)) {d,M,tb,hx,hd,ok.fits f.2,ok,hp,qi,by have:=f.1;rw [el] at this;lia,rfl} b1 b2 (Gd b3 sym) λk=>{λhk=>?_,λhk=>?_}}
  .let(v,_,z):=AF b2 hk;exact(List.of_mem_zip z).2
  .let(j,E,e):=List.mem_iff_getElem.1 hk;let(e',he',z):=(Hs (k.map .inl)).2 {j,by rw [O] at E;simpa using E,by rw [<-e];simp [E]};let(ns,Qw,z'):=Kq b3 (Z.mem_iff.2 (C▸he'));rw [Jw (z.inj z')];exact Qw
def sV(f:X.calm=gS):cG X (.builtin "sorted") (λxs H Q=>∃p o us a b,xs=[V.ref p]/\H p=gF (U2 p o)/\X5 X.w p o us/\Vals a us/\mf X.K H a b/\a.length<64/\∀l,H l=gK->Q (.ref l) (upd H l (.lst (mO V.aC a b)))):=by intro F s G H xs us Q I r h;let(p,o,g,a,b,rfl,i,(j,L,tb,k,hd,y,ok,c,hl,z,rfl),d,t,B,q):=h;let(u,rfl,C):=vals1 r;cases C;have D:s.heap.get? p=gF o:=(I.aN p _ i).1;refine Calls.call_function_entry kind_sorted plain_sorted entry_sorted (args_sorted1 _) ?_;unfold i1.«sorted»;refine ak (m:=checkCount "sorted" 1 1 _) (a8 (ak (wK (show X.A.in1.handled=gK from I.ok.hd f) {⟨o,D,k,hd⟩,y,ok,c,hl,z} λh' E kp=>?_)));have e:=I.kept (t':=E) (h':=h') kp;exact kG e d (pT e d t) B q
end St
namespace L2
open PySem.Spec PyProof.Rows PySem.W
theorem run_bind{b c:Type}(lt:Nat->Nat->Bool)(f:b->KasT c):∀t:KasT b,aO lt (t.bind f)=aO lt (f (aO lt t))
 |.ret a=>rfl|.ask i j k=>run_bind lt f (k (lt i j))
structure Lo(n:Nat)(lt:Nat->Nat->Bool):Prop where
 t:∀a b,a<n->b<n->a≠b->lt a b=gS\/lt b a=gS
 a:∀a b,lt a b=gS->lt b a=gU
 r:∀a b c,lt a b=gS->lt b c=gS->lt a c=gS
noncomputable abbrev gp(p:Array Nat)(i:Nat):Nat:=p.getD i 0
def Sg(lt:Nat->Nat->Bool)(p:Array Nat)(r:Nat):Prop:=∀i j,i<j->j<r->lt (gp p i) (gp p j)=gS
section
variable{n:Nat}{lt:Nat->Nat->Bool}
def Pm.size{p:Array Nat}(h:Pm n p):p.size=n:=by have:=h.length_eq;simpa using this
def Pm.ne{p:Array Nat}(h:Pm n p){i:Nat}(a:i<n)(b:j<n)(c:i≠j):gp p i≠gp p j:=by have nd:p.toList.Nodup:=h.nodup_iff.2 List.nodup_range;have sz:=h.size;intro e;rw [gp,gp,Array.getD_eq_getD_getElem?,Array.getD_eq_getD_getElem?,fP (by lia),fP (by lia)] at e;simp! [Option.getD_some] at e;have:=(List.getElem_inj nd (h₀:=by simpa [sz] using a) (h₁:=by simpa [sz] using b)).1 (zx6 e);exact c this
def Pm.or{p:Array Nat}(L:Lo n lt)(h:Pm n p){i:Nat}(a:i<n)(b:j<n)(c:i≠j)(f:lt (gp p i) (gp p j)=gU):lt (gp p j) (gp p i)=gS:=
 (L.t _ _ (h.lt (by lia) i) (h.lt (by lia) j) (h.ne a b c)).resolve_left (by rw [f];exact zzf)
def Sg.one(p:Array Nat):Sg lt p 1:=λi j a b=>by omega
def Sg.snoc(L:Lo n lt){p:Array Nat}{m:Nat}(h1:1<=m)(h:Sg lt p m)(e:lt (gp p (m-1)) (gp p m)=gS):Sg lt p (m+1):=λi j a c=>by
 by_cases hm:j=m
 .subst hm;by_cases b:i=j-1
  .subst b;exact e
  .exact L.r _ _ _ (h i (j-1) (by lia) (by lia)) e
 .exact h i j a (by lia)
theorem sL(L:Lo n lt){p:Array Nat}(P:Pm n p):∀f m,1<=m->m+f<=n->Sg lt p m->m<=aO lt (kas_asc p f m)/\aO lt (kas_asc p f m)<=m+f/\Sg lt p (aO lt (kas_asc p f m))/\(aO lt (kas_asc p f m)<m+f->lt (gp p (aO lt (kas_asc p f m))) (gp p (aO lt (kas_asc p f m)-1))=gS)
 |0,m,h1,h,g=>{a5 _,a5 _,g,λz=>absurd z (Nat.lt_irrefl _)}|f+1,m,h1,h,g=>by
  unfold kas_asc;simp! [aO];cases e:lt (gp p m) (gp p (m-1)) with
  |true=>rw [if_pos rfl];exact{a5 _,Nat.le_add_right _ _,g,λZ=>e}|false=>rw [if_neg zzf];have i:=P.or L (by lia) (by lia) (by lia) e;let(a,b,c,d):=sL L P f (m+1) (by lia) (by lia) (g.snoc L h1 i);exact{by lia,by lia,c,λz=>d (by lia)}
def Dg(lt:Nat->Nat->Bool)(p:Array Nat)(r:Nat):Prop:=∀i j,i<j->j<r->lt (gp p j) (gp p i)=gS
theorem vv(L:Lo n lt){p:Array Nat}(P:Pm n p):∀f m,1<=m->m+f<=n->Dg lt p m->∃g,aO lt (kas_desc f p m 0)=(p,g,0)/\m<=g/\g<=m+f/\Dg lt p g
 |0,m,h1,k,h=>{m,rfl,a5 _,a5 _,h}|f+1,m,h1,k,h=>by
  unfold kas_desc;simp! [aO];cases e:lt (gp p m) (gp p (m-1)) with
  |true=>
   rw [if_pos rfl,if_neg (Nat.lt_irrefl 0)];let(g,a,b,c,d):=vv L P f (m+1) (by lia) (by lia) (λi j o t=>by
    by_cases hm:j=m
    .subst hm;by_cases q:i=j-1
     .subst q;exact e
     .exact L.r _ _ _ e (h i (j-1) (by lia) (by lia))
    .exact h i j o (by lia))
   exact{g,a,by lia,by lia,d}
  |false=>have s:=P.or L (by lia) (by lia) (by lia) e;rw [if_neg zzf];simp! [aO];rw [show lt (p.getD (m-1) 0) (p.getD m 0)=gS from s,if_pos rfl];exact{m,rfl,a5 _,by lia,h}
def AN{p:Array Nat}{m:Nat}(h:m<=p.size)(k:Nat):gp (kas_rev p 0 m) k=if k<m then gp p (m-1-k) else gp p k:=by unfold kas_rev gp;rw [Array.getD_eq_getD_getElem?,getElem?_mirror_all h];simp! [Nat.zero_le,true_and,Nat.zero_add];split<;>rw [Array.getD_eq_getD_getElem?]
def Dg.rev{p:Array Nat}{m:Nat}(h:m<=p.size)(d:Dg lt p m):Sg lt (kas_rev p 0 m) m:=λi j b a=>by rw [AN h,AN h,if_pos (by omega),if_pos a];exact d _ _ (by omega) (by omega)
def BB(L:Lo n lt)(t:0<n){p:Array Nat}(P:Pm n p):Sg lt (aO lt (kas_count n p)).2 (aO lt (kas_count n p)).1/\Pm n (aO lt (kas_count n p)).2/\1<=(aO lt (kas_count n p)).1/\(aO lt (kas_count n p)).1<=n:=by
 unfold kas_count;rw [run_bind];let(a,b,c,d):=sL L P (n-1) 1 (a5 _) (by lia) (Sg.one p);generalize aO lt (kas_asc p (n-1) 1)=m at a b c d;split
 .exact{c,P,a,by show m<=n;lia}
 .rename_i hm;have u:m≠n:=λz=>hm (by rw [z];exact beq_self_eq_true n);split
  .rename_i w;simp! [aO];rw [show lt (p.getD 0 0) (p.getD (m-1) 0)=gS from c 0 (m-1) (by lia) (by lia),if_pos rfl];exact{c,P,a,by show m<=n;lia}
  .have o:m=1:=by lia
   subst o;have e:=d (by lia)
   unfold kas_descPart;rw [run_bind];let(f,r,y,A,q):=vv L P (n-(1+1)) (1+1) (by lia) (by lia) (λi j B C=>by
    have g:i=0:=by lia
    have h:j=1:=by lia
    subst g;subst h;exact e)
   rw [r];dsimp only;rw [if_neg (Nat.lt_irrefl 0)];unfold kas_tail3;rw [run_bind];have k:=P.rev 0 f;let(D,E,s,_):=sL L k (n-f) f (by lia) (by lia) (q.rev (by rw [P.size];lia));simp! [aO];exact{s,k,by lia,by lia}
theorem mJ(L:Lo n lt){p:Array Nat}(P:Pm n p){k:Nat}(hk:k<n)(S:Sg lt p k):∀f l r,r-l<=f->l<=r->r<=k->(∀i,i<l->lt (gp p i) (gp p k)=gS)->(∀i,r<=i->i<k->lt (gp p k) (gp p i)=gS)->
 aO lt (kas_place p k f l r)<=k/\(∀i,i<aO lt (kas_place p k f l r)->lt (gp p i) (gp p k)=gS)/\∀i,aO lt (kas_place p k f l r)<=i->i<k->lt (gp p k) (gp p i)=gS
 |0,l,r,h1,h,a,b,c=>by
  have hl:l=r:=by lia
  subst hl;exact⟨a,b,c⟩
 |f+1,l,r,h1,h,a,b,c=>by
  unfold kas_place;split
  .have hl:l=r:=by lia
   subst hl;exact⟨a,b,c⟩
  .simp! [aO];have o:l<r:=by lia
   have m1:l<=(l+r)/2:=by lia
   have m2:(l+r)/2<r:=by lia
   generalize hm:(l+r)/2=m at m1 m2
   cases e:lt (gp p k) (gp p m) with
   |true=>
    rw [if_pos rfl];refine mJ L P hk S f l m (by lia) m1 (by lia) b λi j d=>?_;by_cases z:i=m
    .subst z;exact e
    .exact L.r _ _ _ e (S m i (by lia) d)
   |false=>
    rw [if_neg zzf];have g:=P.or L hk (by lia) (by lia) e;refine mJ L P hk S f (m+1) r (by lia) (by lia) a (λi j=>?_) c;by_cases z:i=m
    .subst z;exact g
    .exact L.r _ _ _ (S i m (by lia) (by lia)) g
def zf{p:Array Nat}{k x:Nat}(hk:k<p.size)(a:x<=k)(i:Nat):gp (bubble p k (k-x)) i=if i=x then gp p k else if x<i/\i<=k then gp p (i-1) else gp p i:=by
 have g:∀(q:Array Nat) j,gp q j=(q[j]?).getD 0:=λq j=>Array.getD_eq_getD_getElem? ..;rw [g,g,g,g,getElem?_bubble hk (k-x) (by lia),show k-(k-x)=x by lia];split
 .rfl
 .split<;>rfl
theorem zd(L:Lo n lt):∀f (p:Array Nat) k,k+f=n->Pm n p->Sg lt p k->Sg lt (aO lt (kas_bin f p k)) n
 |0,p,k,h,P,S=>by
  have:k=n:=by lia
  subst this;exact S
 |f+1,p,k,h,P,S=>by
  unfold kas_bin;rw [run_bind];let(a,b,c):=mJ L P (k:=k) (by lia) S k 0 k (by lia) (Nat.zero_le _) (a5 _) (λi d=>absurd d (Nat.not_lt_zero _)) (λi q r=>by lia);generalize aO lt (kas_place p k k 0 k)=x at a b c;refine zd L f _ (k+1) (by lia) (P.Yh _ _) λi j o s=>?_;have hs:k<p.size:=by rw [P.size];lia
  rw [zf hs a,zf hs a];by_cases d:i=x
  .rw [if_pos d,if_neg (by lia),if_pos (by lia)];exact c _ (by lia) (by lia)
  .rw [if_neg d];by_cases e:j=x
   .rw [if_pos e,if_neg (by lia)];exact b _ (by lia)
   .rw [if_neg e];by_cases g:x<i/\i<=k
    .rw [if_pos g,if_pos (by lia)];exact S _ _ (by lia) (by lia)
    .rw [if_neg g];by_cases m:x<j/\j<=k
     .rw [if_pos m];by_cases z:i=j-1
      .lia
      .exact S _ _ (by lia) (by lia)
     .rw [if_neg m];exact S _ _ o (by lia)
def qF(L:Lo n lt)(e:0<n):(mK n lt).Pairwise λa b=>lt a b=gS:=by
 have key:Sg lt (aO lt (kas_sort n)) n:=by
  unfold kas_sort;rw [run_bind];let(a,b,c,d):=BB L e (p:=(List.range n).toArray) (List.Perm.refl _);generalize aO lt (kas_count n (List.range n).toArray)=r at a b c d;split
  .rw [Nat.max_eq_left c];exact zd L _ _ _ (by lia) b a
  .have:r.1=n:=by lia
   rw [this] at a;exact a
 have P:Pm n (aO lt (kas_sort n)):=i5 e lt;have sz:=P.size;rw [List.pairwise_iff_getElem];intro i j k h f;have g:j<(aO lt (kas_sort n)).size:=by simpa [mK] using h
 have:=key i j f (by lia);simpa [gp,mK,Array.getD_eq_getD_getElem?,fP g,fP (Nat.lt_trans f g)] using this
end
end L2
namespace Ci
open L2
theorem pC:∀{a b c:List Int},HT.lexLt a b=gS->HT.lexLt b c=gS->HT.lexLt a c=gS
 |[],[],_,h,_=>by cases h
 |[],_::_,[],_,h=>by cases h
 |[],_::_,_::_,_,_=>rfl|_::_,[],_,h,_=>by cases h
 |_::_,_::_,[],_,h=>by cases h
 |x::a,y::b,z::c,h,k=>by
  simp! [HT.lexLt] at h k⊢;split at h
  .subst x;split at k
   .subst y;rw [if_pos rfl];exact pC h k
   .rw [if_neg ‹_›];exact k
  .have h:=zzY h;split at k
   .subst y;rw [if_neg ‹_›];exact zzh h
   .have k:=zzY k;rw [if_neg (by lia)];exact zzh (by lia)
theorem nQ:∀{a b:List Int},HT.lexLt a b=gS->HT.lexLt b a=gU
 |[],[],h=>by cases h
 |[],_::_,_=>rfl|_::_,[],h=>by cases h
 |x::a,y::b,h=>by
  simp! [HT.lexLt] at h⊢;split at h
  .subst x;rw [if_pos rfl];exact nQ h
  .have h:=zzY h;rw [if_neg (by lia)];exact zz0 (by lia)
theorem ye:∀{a b:List Int},a≠b->HT.lexLt a b=gS\/HT.lexLt b a=gS
 |[],[],h=>absurd rfl h|[],_::_,_=>.inl rfl|_::_,[],_=>.inr rfl|x::a,y::b,h=>by
  simp! [HT.lexLt];by_cases e:x=y
  .subst x;rw [if_pos rfl,if_pos rfl];exact ye λz=>h (by rw [z])
  .rw [if_neg e,if_neg (λz=>e z.symm)];by_cases l:x<y
   .exact .inl (zzh l)
   .exact .inr (zzh (by lia))
def yd(a:List Int):HT.lexLt a a=gU:=by
 cases h:HT.lexLt a a with
 |false=>rfl|true=>have:=nQ h;rw [h] at this;exact this
noncomputable abbrev xb(L:ku):Prop:=L.Pairwise λa b=>HT.lexLt a b=gS
def xb.nodup{L:ku}(h:xb L):L.Nodup:=h.imp λ{a b} e z=>by rw [z,yd] at e;cases e
theorem lX:∀{L M:ku},xb L->xb M->(∀x,x∈L↔x∈M)->L=M
 |[],[],_,_,_=>rfl|[],y::M,_,_,h=>absurd ((h y).2 (cP ..)) (by simp)|x::L,[],_,_,h=>absurd ((h x).1 (cP ..)) (by simp)|x::L,y::M,d,f,h=>by
  have b:=List.pairwise_cons.1 d;have c:=List.pairwise_cons.1 f
  have e:x=y:=by
   rcases ey.1 ((h x).1 (cP ..)) with z|z
   .exact z
   .rcases ey.1 ((h y).2 (cP ..)) with w|w
    .exact w.symm
    .have:=nQ (c.1 x z);rw [b.1 y w] at this;cases this
  subst e;rw [lX b.2 c.2 λz=>?_];constructor
  .intro a;rcases ey.1 ((h z).1 (bc _ a)) with w|w
   .subst w;have:=b.1 z a;rw [yd] at this;cases this
   .exact w
  .intro a;rcases ey.1 ((h z).2 (bc _ a)) with w|w
   .subst w;have:=c.1 z a;rw [yd] at this;cases this
   .exact w
def range_getD{a:Type}(d:a)(l:List a):(List.range l.length).map (λi=>l.getD i d)=l:=by refine List.ext_getElem (by simp) λi c b=>?_;simp [b4,zzg b]
def K3{o:Type}(d:o)(f:o->PV)(g:o->List Int){l:List o}(nd:(l.map g).Nodup):mO PV.aC (l.map f) (l.map g)=(mO d l (l.map g)).map f/\(mO d l (l.map g)).Perm l/\xb ((mO d l (l.map g)).map g):=by
 by_cases h:l.length<2
 .unfold mO;rw [if_pos h,if_pos (zx6 h)];refine{rfl,.refl _,?_}
  match l,h with
  |[],_=>exact .nil|[a],_=>exact List.pairwise_singleton ..|_::_::_,h=>simp! [cu] at h;lia
 .have q:∀i,i<l.length->(l.map g).getD i []=g (l.getD i d):=λi p=>by simp [b4,zzg p]
  have P:=i5 (n:=l.length) (by lia) λi j=>HT.lexLt ((l.map g).getD i []) ((l.map g).getD j []);have U:=qF (n:=l.length) (lt:=λi j=>HT.lexLt ((l.map g).getD i []) ((l.map g).getD j [])) {λa b k m r=>ye λz=>r (by have k:a<(l.map g).length:=zx6 k;have m:b<(l.map g).length:=zx6 m;simp! [b4,zzg k,zzg m,Option.getD_some] at z;exact(List.getElem_inj nd).1 z),λa b=>nQ,λa b c=>pC} (by lia);unfold mO;rw [if_neg h,if_neg (zx6 h),zzl,List.map_map];refine{List.map_congr_left λi p=>?_,?_,List.pairwise_map.2 (List.pairwise_map.2 (List.Pairwise.imp_of_mem (λ{a b} k m e=>?_) U))}
  .have hl:i<l.length:=List.mem_range.1 (P.mem_iff.1 p);simp [b4,zzg hl]
  .have Q:=P.map λi=>l.getD i d;rw [range_getD] at Q;exact Q
  .rw [q a (List.mem_range.1 (P.mem_iff.1 k)),q b (List.mem_range.1 (P.mem_iff.1 m))] at e;exact e
theorem pF{z:List Int}:∀{l:ku},z∈pg k l↔z=k\/z∈l
 |[]=>by simp [pg]|x::l=>by
  unfold pg;split
  .rename_i e;subst e;constructor
   .exact .inr
   .rintro (rfl|h)
    .exact cP ..
    .exact h
  .split
   .exact ey
   .rw [ey,pF,ey];constructor
    .rintro (h|h|h)
     .exact .inr (.inl h)
     .exact .inl h
     .exact .inr (.inr h)
    .rintro (h|h|h)
     .exact .inr (.inl h)
     .exact .inl h
     .exact .inr (.inr h)
theorem wR:∀{l:ku},xb l->xb (pg k l)
 |[],_=>List.pairwise_singleton ..|x::l,h=>by
  have p:=List.pairwise_cons.1 h;unfold pg;split
  .exact h
  .rename_i b;split
   .rename_i hl;refine List.pairwise_cons.2 {λz a=>?_,h}
    rcases ey.1 a with e|a
    .rw [e];exact hl
    .exact pC hl (p.1 z a)
   .rename_i hl;refine List.pairwise_cons.2 {λz a=>?_,wR p.2}
    rcases pF.1 a with e|a
    .rw [e];rcases ye b with q|q
     .exact absurd q hl
     .exact q
    .exact p.1 z a
theorem bY{z:List Int}:∀{l:ku},z∈cK l↔z∈l
 |[]=>by simp [cK]|x::l=>by show z∈pg x (cK l)↔_;rw [pF,bY,ey]
theorem eC:∀{l:ku},xb (cK l)
 |[]=>.nil|x::l=>wR (k:=x) (eC (l:=l))
def uw{L:ku}(nd:L.Nodup)(m:∀k,k∈L↔k∈nss):mO PV.aC (L.map af) L=(cK nss).map af:=by have U:=K3 [] af id (l:=L) (by rw [List.map_id];exact nd);rw [List.map_id] at U;rw [U.1];have V:=U.2.2;rw [List.map_id] at V;rw [lX V eC λx=>by rw [U.2.1.mem_iff,m,bY]]
section
variable{Γ:Pg}{W:Wd}{F:aL}{sc:hZ}{k:Nat}
theorem AM:∀{xs:List PV} {nss:ku} {vs:List V},fO xs=gF nss->aq W G xs vs->∀{v ns},(v,ns)∈vs.zip nss->Rep W G (af ns) v
 |[],_,_,e,l,v,ns,h=>by cases e;simp! [aq] at l;subst l;cases h
 |x::xs,nss,vs,e,l,v,ns,h=>by
  unfold fO at e;let(k,hk,e):=dV.mp e;let(r,b,rfl):=b0.mp e;let(d,f,rfl,a,c):=l.bU
  rw [eW hk] at a;rw [List.zip_cons_cons] at h;rcases ey.1 h with e|h
  .cases e;exact a
  .exact AM b c h
def Ky{Z:List (V×List Int)}(a:∀{v ns},(v,ns)∈Z->Rep W G (af ns) v)(r:Paired (λv ns=>(v,ns)∈Z) vs nss):aq W G (nss.map af) vs:=by
 induction r with
 |nil=>exact .nil|cons h _ b=>exact .cons (a h) b
theorem IW(C:zv3 X)(D:Γ.qt=gU){a:E}{f:hI}{P R S:Pos}(T:gP sc "sorted"=gS)(hm:Γ.bs.contains "sorted"=gS)(m:gP sc "set"=gS)(U:Γ.bs.contains "set"=gS)(V:GE X W F a f)(he:starEach [f] X.env=(gU,eval f X.env)::starEach [] X.env):
 GE X W F (.GV a) (.Call (.Name "sorted" P) [.Call (.Name "set" R) [f] [] S] [] pos):=
 (eB (St.sV (C.calm D)) (dI C T) (C.bs _ (eG.mp hm)) (by decide+kernel) (bQ (d6 (St.Br (by have:=C.room.un;lia) (C.calm D)) (dI C m) (C.bs _ (eG.mp U)) (by decide+kernel) (bQ V dE he) (he:=he)) dE rfl)).imp λi H Q h=>by
  let(H0,G,env,Y,o):=h;rw [aJ] at o;refine one Y o λp v d j g t q r=>?_
  cases p with
  |lst xs=>
   let(l,Z,rfl,h1,s):=t.top.lst q.sub
   cases hk:fO xs with
   |none=>have c:Out X W ((Res.of (fO xs)).bind _) i d j _:=r;rw [hk] at c;exact eu c|some nss=>
    have c:Out X W ((Res.of (fO xs)).bind _) i d j _:=r;rw [hk] at c;by_cases b:(nss.all St.FJ&&decide ((cK nss).length<=4))=gS
    .have e:Out X W (if(nss.all St.FJ&&decide ((cK nss).length<=4))=gS then Res.ok _ else .bad) i d j _:=c
     rw [if_pos b] at e;rw [zza,zzN] at b;have ne:nss.all (λk=>!k.isEmpty)=gS:=c5.2 λz u=>by
      have:=c5.1 b.1 z u
      match z,this with
      |_::_,_=>rfl
     refine{l,Z,nss,cK nss,rfl,qG C.K h1,nN q.sub hk s ne,λI L=>{bY.2 L,c5.1 b.1 I L},b.2,λp o us xl y hp so rv A nd mem=>?_};have B:=aE.SE (W:=W) (o:=St.U2 p o) q.sub hp;have M:y.length<=4:=c6 (St.lP nd λk hk=>bY.2 ((mem k).1 hk)) b.2;refine{p,o,us,xl,y,rfl,av,so,rv,L2.Paired.Cm A λv I u=>St.Pp (nN B.sub hk s ne) u,by rw [A.length];lia,λx hx=>?_};have O:=ux (nss:=y) (Ky (AM hk s) A);rw [uw nd mem] at O;exact dP.lst (W:=W) (G:=d) (λw G' H' g' iJ=>e w G' H' (g.trans (B.trans g')) (.of iJ)) B.sub O hx
    .have e:Out X W (if(nss.all St.FJ&&decide ((cK nss).length<=4))=gS then Res.ok _ else .bad) i d j _:=c;rw [if_neg b] at e;exact eu e
  |_=>exact eu r
end
end Ci
namespace L2
open PySem.Spec PyProof.Rows
end L2
namespace Ci
open L2
section
variable{Γ:Pg}{W:Wd}{F:aL}{sc:hZ}{k:Nat}
def IV(C:zv3 X)(P:Γ.qt=gU){a:E}{d:hI}{R:Nat}{S r T z:Pos}(U:gP sc "min"=gS)(hm:Γ.bs.contains "min"=gS)(Y:GE X W F a d)(hs:starEach [d] X.env=(gU,eval d X.env)::starEach [] X.env):
 GE X W F (.mB a) (.Call (.Name "min" r) [d] [{gF "default",.Constant .none R S,T}] z):=by
 intro A s f H Q I h;let(H0,G,env,Z,o):=h;rw [aJ] at o;refine wpAny_Call_Name_kw (fZ I (dI C U) (C.bs _ (eG.mp hm)) (u:=.builtin "min") (by decide+kernel) ?_);refine PyProof.Rows.callWith_kw (cm ((bQ Y dE hs) z A s f H (λw b=>∃p c,w=[.ref p]/\gR X.K b p (c.map V.int)/\Q (mB c) b) I ?_) λus s1 ⟨w,b,I1,r1,r⟩=>?_) (by rw [hs];rfl) (by rw [hs];rfl)
 .refine one Z o λx v g b B t bI D=>?_
  cases x with
  |lst xs=>
   let(a',w,rfl,h1,l1):=t.top.lst bI.sub;have j:Out X W ((Res.of (intsOf xs)).bind _) f g b _:=D
   cases e:intsOf xs with
   |none=>rw [e] at j;exact eu j|some c=>
    rw [e] at j;cases pj l1 e;refine{a',c,rfl,qG C.K h1,?_};have m:Out X W (Res.ok (if c=[] then PV.aC else .int (cD c (c.length-1)))) f g b _:=j;unfold mB;by_cases L:c=[]
    .rw [if_pos L] at m⊢;exact m _ g b B (.of .n)
    .rw [if_neg L] at m⊢;exact m _ g b B (.of .i)
  |_=>exact eu D
 .let(p,c,rfl,hp,q):=r;let(u,rfl,ru):=vals1 r1;cases ru;refine PyProof.Rows.kws_cons (cm (FY A s1 f b (λM O=>M=.aC/\O=b) I1 ⟨rfl,rfl⟩) λu s2 hu=>PyProof.Rows.kws_nil ?_);let(M,O,I2,y,rfl,rfl):=hu;cases y;exact Bq (C.calm P) I2 hp q
set_option backward.match.sparseCases false
def NX{e:E}{p:hI}(h:GE X W F e p)(he:∀a,isTrue p X.env a=(do let v<-a;standAt p.pos;holding [v] (truthy v))):GT X W F e p:=
 L2.PT.imp (Pt h he) λb H Q c=>Mn b H Q c
theorem Ef{sc:hZ}:∀{es:Es} {ps:List hI},iQ Γ N sc es ps=gS->∀env pos,(backTo pos (starEach ps env)).all (λx=>!x.1)=gS
 |.nil,[],_,_,_=>rfl|.cons e es,p::ps,h,env,pos=>by replace h:=az h;rw [notStar h.1];show(gS&&(backTo pos (starEach ps env)).all (λx=>!x.1))=gS;rw [Ef h.2];rfl|.nil,_::_,h,_,_=>aP h|.cons _ _,[],h,_,_=>aP h
theorem Fg{sc:hZ}:∀{es:Es} {ps:List hI},iQ Γ N sc es ps=gS->ps.length=iY es
 |.nil,[],_=>rfl|.cons e es,p::ps,h=>by replace h:=az h;rw [cu,Fg h.2];rfl|.nil,_::_,h=>aP h|.cons _ _,[],h=>aP h
structure X4(X:Cx)(W:Wd)(F:aL)(e:E)(p:hI):Prop where
 ge:GE X W F e p
 gt:iC e=gS->GT X W F e p
 gw:iC e=gS->∀op vs pos,p=.BoolOp op vs pos->GW X W F e p
def bo{e:E}{p:hI}(h:GE X W F e p)(he:∀a,isTrue p X.env a=(do let v<-a;standAt p.pos;holding [v] (truthy v)))(c:∀b vs pos,p≠.BoolOp b vs pos):X4 X W F e p:=
 {h,λZ=>NX h he,λZ b vs pos e=>absurd e (c b vs pos)}
def isTrue_plain{p:hI}{env:Env}(h:(match p with|.UnaryOp .Not _ _=>gU|.BoolOp .. =>gU|.IfExp .. =>gU|.Compare .. =>gU|_=>gS)=gS):∀b,isTrue p env b=(do let v<-b;standAt p.pos;holding [v] (truthy v)):=by
 intro b;cases p with
 |UnaryOp op a pos=>cases op<;>first|rfl|(exact aP h)
 |BoolOp _ _ _=>exact aP h|IfExp _ _ _ _=>exact aP h|Compare _ _ _ _=>exact aP h|_=>rfl
def xD{a:hI}{m:Str}{env:Env}(h:Av a=gS):attributeBase a m env (eval a env)=eval a env:=by
 cases a<;>first|rfl|(exact aP h)
def DL{b:hI}{m:Str}{env:Env}(h:L5 b=gS):attributeBase b m env (eval b env)=eval b env:=by
 cases b with
 |Call f as c p=>
  cases as with
  |nil=>exact aP h|cons a as=>cases f<;>rfl
 |_=>rfl
theorem m7{sc:hZ}{a:List Nat}:∀{es:Es} {ps:List hI},zi Γ N sc g idx a es ps=gS->∀env pos,(backTo pos (starEach ps env)).any (·.1)=gU
 |.cons e es,p::ps,h,env,pos=>by replace h:=az h;rw [notStar h.1];show(gU||(backTo pos (starEach ps env)).any (·.1))=gU;rw [m7 h.2];rfl
 |.nil,ps,h,env,pos=>by let(p,b,h):=aj h;let(l,c,_):=aj h;rw [dz b];let(_,rfl):=ua c;rfl|.cons _ _,[],h,_,_=>aP h
def MW{c:Const}(h:Rm q c=gS):GE X W F (.cst q) (.Constant c kk pos):=by
 cases q with
 |aC=>cases FA h;exact lE FY λG=>.n
 |bl b=>let(x,e,h):=aj h;cases MM e;cases eq_of_beq h;exact lE S3 λG=>.b
 |int i=>let(x,e,h):=aj h;cases EX e;cases eq_of_beq h;exact lE FW λG=>.i
 |str z=>let(x,e,h):=aj h;cases GX e;cases eq_of_beq h;exact lE F1 λG=>.s
 |_=>exact aP h
def Fo{b:Type}{r:Res b}{c:b->Prop} [∀a,Decidable (c a)]{f:b->Res (List PV)}(e:(r.bind λa=>if c a then(f a).bind λys=>.ok (.lst ys) else .bad)=.ok q):∃ys,q=.lst ys:=by
 let(ps,_,e):=Res.bu e;split at e
 .let(ys,_,e):=Res.bu e;cases e;exact{_,rfl}
 .cases e
def zo{b:List Nat}{c:Tg}{a:E}(env:Sl)(q:PV)(e:aJ F (.comp kk b c it a) env=.ok q):∃ys,q=.lst ys:=by rw [aJ] at e;exact Fo e
def rk{b:List Nat}{d:Tg}{c a:E}(env:Sl)(q:PV)(e:aJ F (.bJ kk b d it c a) env=.ok q):∃ys,q=.lst ys:=by rw [aJ] at e;exact Fo e
mutual
theorem bE:∀(e:E) {Γ:Pg} {N:List Str} {sc:hZ} {X:Cx} (C:zv3 X) (p:hI),bp Γ N sc e p=gS->X4 X W F e p
 |.var i,Γ,N,sc,X,C,p,h=>by let(x,_,rfl,A):=QD h;clear h;have h:=A;clear A;exact bo (NK C h) (λ_=>rfl) nofun|.fG i,Γ,N,sc,X,C,p,h=>by let(x,_,rfl,A):=QD h;clear h;have h:=A;clear A;exact bo (NI C h) (λ_=>rfl) nofun|.cst q,Γ,N,sc,X,C,p,h=>by let(c,_,_,rfl,A):=Yr h;clear h;have h:=A;clear A;refine bo (MW h) (λ_=>rfl) nofun|.glob g q,Γ,N,sc,X,C,p,h=>by let(x,_,rfl,A):=QD h;clear h;have h:=A;clear A;exact bo (IU C h) (λ_=>rfl) nofun|.call f as,Γ,N,sc,X,C,p,h=>by
  let(g,args,_,_,rfl,A):=Dk h;clear h;have h:=A;clear A;replace h:=az h
  try simp! [zza,zzy] at h
  let(((((rfl,d),j),u),G),y):=h;have ga:=m6 as C args y
  cases as with
  |nil=>
   cases args with
   |nil=>exact bo (En C d j u) (λ_=>rfl) nofun|cons _ _=>exact aP y
  |cons e es=>
   cases args with
   |nil=>exact aP y|cons q qs=>have H:=az y;exact bo (IS C d j u G ga (notStar H.1 _ _) (fF H.2 _ _)) (λ_=>rfl) nofun
 |.kU i as,Γ,N,sc,X,C,p,h=>by
  let(g,args,_,_,rfl,A):=Dk h;clear h;have h:=A;clear A;replace h:=az h;simp! [zza] at h;let((((d,j),u),G),y):=h;have ga:=m6 as C args y
  cases as with
  |nil=>
   cases args with
   |nil=>exact bo (BV C (by rw [d,j,u];rfl)) (λ_=>rfl) nofun|cons _ _=>exact aP y
  |cons e es=>
   cases args with
   |nil=>exact aP y|cons q qs=>have H:=az y;exact bo (Eo C (by rw [d,j,u];rfl) G ga (notStar H.1 _ _) (fF H.2 _ _)) (λ_=>rfl) nofun
 |.rh f as g idx bw,Γ,N,sc,X,C,p,h=>by
  let(hN,args,_,_,rfl,A):=Dk h;clear h;have h:=A;clear A;replace h:=az h;simp! [zza,et,zzy] at h;let(((((d,j),u),G),q,M,(((rfl,rfl),rfl),rfl),hd),y):=h;have UG:=zzY hd;have ga:=Mi as C d q.g q.idx bw args G y
  cases as with
  |nil=>have Q:((eJ args).any _)=gS:=y;let(pl,e7,h8):=js Q;subst e7;let(l,e8,_):=aj h8;let(_,rfl):=ua e8;exact bo (vJ C d M j u UG ga rfl rfl) (λ_=>rfl) nofun|cons e es=>
   cases args with
   |nil=>exact aP y|cons p qs=>have H:=az y;exact bo (vJ C d M j u UG ga (notStar H.1 _ _) (m7 H.2 _ _)) (λ_=>rfl) nofun
 |.blt b as,Γ,N,sc,X,C,p,h=>by
  let(M,h):=pN h;let(g,args,_,_,rfl,A):=Dk h;clear h;have h:=A;clear A;replace h:=az h
  try simp! [zza,zzy] at h
  let((((rfl,d),j),u),y):=h;have ga:=m6 as C args y
  cases as with
  |nil=>exact aP u|cons e es=>
   cases args with
   |nil=>exact aP y|cons q qs=>have H:=az y;exact bo (Ny C M b d j ga (notStar H.1 _ _) (fF H.2 _ _)) (λ_=>rfl) nofun
 |.ty t a,Γ,N,sc,X,C,p,h=>by
  let(g,args,_,_,rfl,A):=Dk h;clear h;have h:=A;clear A;let(I,O,B,j):=Hl h;let(tn,_,D,u):=QD j;dsimp only at B D;subst B D;clear h j;have h:=u;clear u;replace h:=az h
  try simp! [zza,zzy] at h
  let((((((rfl,d),j),rfl),u),G),y):=h;exact bo (RF C d j u G (bE a C I y).ge (notStar y)) (λ_=>rfl) nofun
 |.HD c a,Γ,N,sc,X,C,p,h=>by
  let(g,args,_,_,rfl,A):=Dk h;clear h;have h:=A;clear A;let(I,O,B,j):=Hl h;let(tn,_,D,u):=QD j;dsimp only at B D;subst B D;clear h j;have h:=u;clear u;replace h:=az h
  try simp! [zza] at h
  let(((((((R,d),j),P),u),G),y),H):=h;cases zzy.mp R;cases zzy.mp P;exact bo (NB C d j u G y (bE a C I H).ge (notStar H) C.QE) (λ_=>rfl) nofun
 |.OM m o as,Γ,N,sc,X,C,p,h=>by
  let((f,args,kws,L),e,d):=aj h;have z:=iO e;let((po,attr,apos),P,j):=aj d;have B:=xC P;have u:=az j;have D:=Fx u.1;dsimp only at z B D;subst z B D;clear h d j;have h:=az u.2;clear u;simp! [zza] at h;let((((((R,d),j),u),G),y),H):=h;cases zzy.mp R;have ga:=m6 as C args y
  cases as with
  |nil=>exact aP d|cons e es=>
   cases args with
   |nil=>exact aP y|cons q qs=>have Q:=az y;have hl:=Fg y;refine bo (ND C (bE o C po G).ge ga (xD H) ?_ u (notStar Q.1 _ _) (fF Q.2 _ _)) (λ_=>rfl) nofun;rw [Ef y];have xQ:=zzY j;refine Bool.and_eq_true_iff.mpr {rfl,zzh ?_};rw [hl];exact xQ
 |.bin o a b,Γ,N,sc,X,C,p,h=>by let(q,e,d):=aj h;let(_,rfl):=MK e;clear h;have h:=az d;have K:=az h.1;rw [<-zzY K.1];exact bo (Nw C (bE a C _ K.2).ge (bE b C _ h.2).ge) (λ_=>rfl) nofun|.cmp o a b,Γ,N,sc,X,C,p,h=>by let(I,ops,cs,_,rfl,d):=Yq h;let(op,B,j):=js d;let(O,D,u):=js j;dsimp only at B D;subst B D;clear h d j;have h:=u;clear u;replace h:=az h;have K:=az h.1;cases zzY K.1;have d:=K.2;have j:=h.2;exact{Nz C (bE a C _ d).ge (bE b C _ j).ge (ud j _),λ_=>NV C (bE a C _ d).ge (bE b C _ j).ge (ud j _),(λ_ _ _ _ z=>nomatch z)}
 |.ch o1 o2 a b c,Γ,N,sc,X,C,p,h=>by
  let(I,ops,cs,_,rfl,d):=Yq h;let(op1,op2,B,j):=Hl d;let(O,pc,D,u):=Hl j;dsimp only at B D;subst B D;clear h d j;have h:=u;clear u;replace h:=az h
  try simp! [zza,zzN] at h
  let((((rfl,rfl),d),j),u):=h;have hm:lastMarks [uP o1,uP o2] [O,pc]=gU:=ud u _;exact{RE C (bE a C _ d).ge (bE b C _ j).ge (bE c C _ u).ge hm,λ_=>RG C (bE a C _ d).ge (bE b C _ j).ge (bE c C _ u).ge hm,(λ_ _ _ _ z=>nomatch z)}
 |.not a,Γ,N,sc,X,C,p,h=>by let(o,I,_,rfl,d):=Zv h;clear h;have h:=az d;cases EV h.1;have s:=bE a C I h.2;exact{NG s.ge,λz=>NW (s.gt z),(λ_ _ _ _ z=>nomatch z)}
 |.neg a,Γ,N,sc,X,C,p,h=>by let(o,I,_,rfl,d):=Zv h;clear h;have h:=az d;cases ET h.1;exact bo (NF (bE a C I h.2).ge) (λ_=>rfl) nofun
 |.and a b,Γ,N,sc,X,C,p,h=>by
  let(o,vs,L,rfl,d):=Yg h;let((I,O),P,j):=aj d;clear h d;have h:=az j;clear j
  try simp! [zza] at h
  let(((K,he),d),j):=h;cases ER K;have S:=bE a C I d;have T:=bE b C O j
  rcases DS P with z|⟨q,c,r,z,B⟩
  .dsimp only at z;subst z;have gw:iC (.and a b)=gS->GW X W F (.and a b) (.BoolOp .And [I,O] L):=λz=>by
    have z:=az z;exact Ez (S.gt z.1) (pw_and1 (T.gt z.2))
   exact{Em he S.ge (FZ T.ge),λz=>(gw z).pt,λz _ _ _ _=>gw z}
  .dsimp only at z B;subst z B;have gw:iC (.and a b)=gS->GW X W F (.and a b) (.BoolOp .And (I::q::c::r) L):=λz=>by
    have z:=az z;exact Ez (S.gt z.1) (T.gw z.2 _ _ _ rfl)
   exact{Em he S.ge T.ge,λz=>(gw z).pt,λz _ _ _ _=>gw z}
 |.or a b,Γ,N,sc,X,C,p,h=>by
  let(o,vs,L,rfl,d):=Yg h;let((I,O),P,j):=aj d;clear h d;have h:=az j;clear j
  try simp! [zza] at h
  let(((K,he),d),j):=h;cases JA K;have S:=bE a C I d;have T:=bE b C O j
  rcases DS P with z|⟨q,c,r,z,B⟩
  .dsimp only at z;subst z;have gw:iC (.or a b)=gS->GW X W F (.or a b) (.BoolOp .Or [I,O] L):=λz=>by
    have z:=az z;exact LP (S.gt z.1) (pw_or1 (T.gt z.2))
   exact{LO he S.ge (FZ T.ge),λz=>(gw z).pt,λz _ _ _ _=>gw z}
  .dsimp only at z B;subst z B;have gw:iC (.or a b)=gS->GW X W F (.or a b) (.BoolOp .Or (I::q::c::r) L):=λz=>by
    have z:=az z;exact LP (S.gt z.1) (T.gw z.2 _ _ _ rfl)
   exact{LO he S.ge T.ge,λz=>(gw z).pt,λz _ _ _ _=>gw z}
 |.ite c a b,Γ,N,sc,X,C,p,h=>by
  let(q,e,d):=aj h;let(_,rfl):=Om e;clear h;have h:=az d;clear d
  try simp! [zza] at h
  let(((((K,d),j),u),G),y):=h;exact{NC d j ((bE c C _ u).gt K) (bE a C _ G).ge (bE b C _ y).ge,nofun,(λ_ _ _ _ z=>nomatch z)}
 |.tup as,Γ,N,sc,X,C,p,h=>by let(ps,e,d):=aj h;let(_,_,rfl):=A1 e;clear h;have h:=az d;have K:=az h.1;exact bo (NJ K.1 (zzY K.2) (m6 as C _ h.2)) (λ_=>rfl) nofun|.lst as,Γ,N,sc,X,C,p,h=>by let(ps,e,d):=aj h;let(_,rfl):=Fh e;clear h;have h:=az d;have K:=az h.1;exact bo ((Er K.1 (zzY K.2) (m6 as C _ h.2)).ge lst_is) (λ_=>rfl) nofun|.sub a b,Γ,N,sc,X,C,p,h=>by let(I,O,_,rfl,A):=Zr h;clear h;have h:=A;clear A;replace h:=az h;exact bo (NH C (bE a C _ h.1).ge (bE b C _ h.2).ge (F9 h.2)) (λ_=>rfl) nofun|.get a k,Γ,N,sc,X,C,p,h=>by let((f,as,kws,L),e3,u):=aj h;have D:=iO e3;let((po,attr,apos),e4,G):=aj u;have U:=xC e4;let(pk,z5,y):=js G;have g:=az y;simp! [zza] at g;let(((((n1,R),H),Q),h8),A):=g;have z6:=Fx n1;cases zzy.mp R;dsimp only at D U z5 z6;subst D U z5 z6;exact bo (NA C (bE a C po h8).ge (bE k C pk A).ge (DL Q) H (notStar A _ _)) (λ_=>rfl) nofun
 |.mB a,Γ,N,sc,X,C,p,h=>by let(M,h):=pN h;let((f,as,kws,L),e3,u):=aj h;have D:=iO e3;let(g,gp,U,G):=QD u;let(I,z5,y):=js G;let((kn,kv),e6,H):=aj y;let(kp,z6):=Fb e6;let(c,c1,c2,z7,Q):=Yr H;have g:=az Q;simp! [zza] at g;let(((((R,d),j),P),e3),h8):=g;cases zzy.mp R;cases zzy.mp P;have z8:=FA e3;dsimp only at D U z5 z6 z7 z8;subst D U z5 z6 z7 z8;exact bo (IV C M d j (bE a C I h8).ge (notStar h8 _ _)) (λ_=>rfl) nofun
 |.GV a,Γ,N,sc,X,C,p,h=>by let(M,h):=pN h;let(g,args,_,_,rfl,A):=Dk h;clear h;have h:=A;clear A;let(z,B,j):=js h;let(g2,a2,_,_,D,u):=Dk j;let(I,U,G):=js u;dsimp only at B D U;subst B D U;clear h j u;have h:=az G;clear G;simp! [zza] at h;let((((((R,d),j),P),u),G),y):=h;cases zzy.mp R;cases zzy.mp P;exact bo (IW C M d j u G (bE a C I y).ge (notStar y _ _)) (λ_=>rfl) nofun
 |.slice a lo hi,Γ,N,sc,X,C,p,h=>by let(I,ps,_,rfl,d):=Zr h;let(pl,ph,pst,_,B,j):=slA d;clear h d;have h:=az j;simp! [zza] at h;have w:=WS h.1.1.1;dsimp only at B w;subst B w;exact bo (Ep C (bE a C _ h.1.1.2).ge (Ti lo C pl h.1.2) (Ti hi C ph h.2)) (λ_=>rfl) nofun|.comp kk bw tg it elt,Γ,N,sc,X,C,p,h=>by let(M,h):=pN h;let(f9,gens,V,_,rfl,d):=UR h;let((dN,iI,ifs,asy),B,j):=js d;have u:=az j;have D:=Fx u.1;dsimp only at B D;subst B D;clear h d j;have h:=az u.2;clear u;simp! [zza] at h;let((((((d,j),u),G),y),H),Z):=h;have Z:=zzY Z;subst Z;exact bo ((zU C M (k7 d) j u (GD it C dN iI G) (lC G _) y λY CY=>(bE elt CY f9 H).ge).ge zo) (λ_=>rfl) nofun|.bJ kk bw tg it c elt,Γ,N,sc,X,C,p,h=>by let(M,h):=pN h;let(f9,gens,V,_,rfl,d):=UR h;let((dN,iI,ifs,asy),B,j):=js d;let(pc,D,u):=js j;dsimp only at B D;subst B D;clear h d j;have h:=az u;clear u;simp! [zza] at h;let((((((((K,d),j),u),G),y),H),Q),Z):=h;have Z:=zzY Z;subst Z;exact bo ((rH C M (k7 d) j u (GD it C dN iI G) (lC G _) y (λY CY=>(bE c CY pc H).gt K) λY CY=>(bE elt CY f9 Q).ge).ge rk) (λ_=>rfl) nofun
theorem m6:∀(es:Es) {Γ:Pg} {N:List Str} {sc:hZ} {X:Cx} (C:zv3 X) (ps:List hI),iQ Γ N sc es ps=gS->GA X W F es ps
 |.nil,Γ,N,sc,X,C,ps,h=>by
  cases ps with
  |nil=>exact El|cons _ _=>exact aP h
 |.cons e es,Γ,N,sc,X,C,ps,h=>by
  cases ps with
  |nil=>exact aP h|cons p ps=>replace h:=az h;exact zS (bE e C p h.1).ge (m6 es C ps h.2) (notStar h.1 _ _)
theorem Mi:∀(es:Es) {Γ:Pg} {N:List Str} {sc:hZ} {X:Cx} (C:zv3 X) (hl:Γ.hl=gS) (g:Str) (idx a:List Nat) (ps:List hI),iB es=gS->zi Γ N sc g idx a es ps=gS->PA X ps (Tt X W F N sc g idx a es)
 |.nil,Γ,N,sc,X,C,hl,g,idx,a,ps,he,h=>by let(p,c,h):=aj h;let(l,d,h):=aj h;rw [dz c];let(_,rfl):=ua d;replace h:=az h;have b:=az h.1;exact Kc C hl {b.1,zzY b.2,λy f=>zzY (c5.mp h.2 y f)}|.cons e es,Γ,N,sc,X,C,hl,g,idx,a,ps,he,h=>by
  cases ps with
  |nil=>exact aP h|cons p ps=>replace h:=az h;have i:=az (show(iH e&&iB es)=gS from he);exact FP he (bE e C p h.1).ge (Mi es C hl g idx a ps i.2 h.2) (notStar h.1 _ _)
theorem Ti:∀(o:Oe) {Γ:Pg} {N:List Str} {sc:hZ} {X:Cx} (C:zv3 X) (p:Option hI),MS Γ N sc o p=gS->PO X p (Hg X W F o)
 |.no,Γ,N,sc,X,C,p,h=>by
  cases p with
  |none=>exact Ja|some _=>exact aP h
 |.some e,Γ,N,sc,X,C,p,h=>by
  cases p with
  |none=>exact aP h|some p=>exact Jb (bE e C p h).ge
theorem GD:∀(it:I) {Γ:Pg} {N:List Str} {sc:hZ} {X:Cx} (C:zv3 X) (j p:hI),Bx Γ N sc j it p=gS->GI X W F j it p
 |.seq e,Γ,N,sc,X,C,j,p,h=>by exact NM C (bE e C p h).ge|.qC e,Γ,N,sc,X,C,j,p,h=>by let(g,args,_,_,rfl,d):=Dk h;clear h;have h:=d;clear d;let(q,f,c):=js h;dsimp only at f;subst f;clear h;have h:=az c;clear c;simp! [zza] at h;let(((m,o),c),i):=h;cases zzy.mp m;exact NL C o c (notStar i) (bE e C q i).ge
 |.uu a b,Γ,N,sc,X,C,j,p,h=>by let(g,args,_,_,rfl,d):=Dk h;clear h;have h:=d;clear d;let(q,r,f,c):=Hl h;dsimp only at f;subst f;clear h;have h:=az c;clear c;simp! [zza] at h;let((((m,o),c),i),s):=h;cases zzy.mp m;exact IY C o c (notStar i) (notStar s) (bE a C q i).ge (bE b C r s).ge
 |.enum e,Γ,N,sc,X,C,j,p,h=>by
  let(g,args,_,_,rfl,d):=Dk h;clear h;have h:=d;clear d;let(q,f,c):=js h;dsimp only at f;subst f;clear h;have h:=az c;clear c;simp! [zza] at h;let((((t,m),o),c),i):=h;cases zzy.mp m;cases j<;>first|(exact aP t)|skip
  exact IX C o c (notStar i) (bE e C q i).ge
end
set_option backward.match.sparseCases true
end
end Ci
namespace L2
open PySem.Spec PyProof.Rows
section
variable{scope:hZ}{xs ys:List Str}{is:List Nat}
theorem yv{c:Nat}{a:Str}{d F:Pos}{f t:hI}{G:TI}{g:TG}(j:X.N.Nodup)(k:X.N[c]?=gF a)(p:Loc X.env.scope a)(P:X.calm=gS)(S:fT X scope xs ys is)(R:PI X t iter G)
 (T:∀fp w y C,PG (cJ X (xs++ys) scope (cj X.env ys) fp w y C) t g) (he:∀fp w y C,PE (cJ X (xs++ys) scope (cj X.env ys) fp w y C) f te)
 (U:swapsWith (.ListComp f [{t,iter,[],0}] scope pos) (gF (.Name a d)) F.line X.env=pure gS:=by rfl)
 (hs:∀x,foldedSetIterable iter X.env x=pure x:=by intro _;rfl) (r:X.fn a=gS\/X.env.scope.names.lookup a=gF .local:=by first|exact .inl rfl|exact .inr rfl|assumption):
 PS X (.Assign [.Name a d] (.ListComp f [{t,iter,[],0}] scope pos) F) (Hb (Hc G xs.length g te is) (iw c)):=by
 intro V s W H i I h;rw [exec_Assign_Name_used _ _ _ _ U];refine ak (wpAny_standAt (ak ?_));show hJ _ X.A (do let _<-comprehension (.ListComp f [⟨t,iter,[],0⟩] scope pos) scope X.env _ (newList []) gU (eval iter X.env) (gF (assign (.Name a d) X.env))) _ _ s;refine ak (wpAny_mono (je (QQ:=λ_ K=>∃u L,Inv X V u L K/\i.nx u L) (Q:=λv M=>iw c v W M i.nx) P S R T (λ_ _ _ _=>AD) he hs I h λD C s4 M m Y Z ⟨g0,g1,_,g3,O,g5⟩ q=>?_) (λ_ K hq=>a8 (a8 hq)) λ_ _ e=>e)
 refine wpAny_assign_Name (mS Y j k p (show RelV (.ref D) (.ref D) from rfl) (λs6 I6 ⟨a6,B,E⟩=>?_) r);have Fv:C≠a6:=by
  rcases E with z|z
  .rw [z];exact g1
  .exact λz2=>O _ _ z z2.symm
 exact{m,Z.sameBut B Fv,λh' B6=>{_,_,I6.turned (t':=s6.toks) (it:=C) (λb o hb e=>B6.extBut b o hb e) g0 g1 g3 O g5,q}}
end
end L2
namespace Ci
open L2
section
variable{W:Wd}{G0:Hp}
def Own.Mp(h:Own W H0 G H p v):∃a o,v=.ref a/\H a=gF o/\G a=gK/\H0 a=gK/\((∀b,aB G b->b a=gF o->Rep W b p (.ref a))\/∃g,o=.dT g/\∀ob b,aB G b->b a=gF (.bC ob (.dT g))->Rep W b p (.ref a)):=by
 cases p with
 |lst xs=>let(a,j,rfl,c,d,f,l):=h;exact{a,_,rfl,c,d,f,.inl λb s e=>.l (.inl (.inl e)) (aq.same s xs l)}|aY k ps=>let(a,i,rfl,n,c,d,f,l):=h;exact{a,_,rfl,c,d,f,.inr {_,rfl,λob b s e=>by simp! [Rep];exact{a,ob,i,rfl,n,e,aq.same s ps l}}}|aC=>exact h.elim|bl _=>exact h.elim|int _=>exact h.elim|str _=>exact h.elim|tup _=>exact h.elim|exc _=>exact h.elim
theorem Own.FE(h:Own W H0 G H p (.ref a))(ps:Array hB):H a≠gF (.iF ps):=λz=>by
 cases p with
 |lst xs=>let(b,d,e,c,_):=h;cases e;rw [z] at c;cases c
 |aY f qs=>let(b,g,e,_,c,_):=h;cases e;rw [z] at c;cases c
 |aC=>exact h.elim|bl _=>exact h.elim|int _=>exact h.elim|str _=>exact h.elim|tup _=>exact h.elim|exc _=>exact h.elim
theorem Own.SH{b:hF}{f:List (Key×V)}(h:Own W H0 G H p (.ref a))(d:H b=gF (.dK f)):b≠a:=λz=>by
 subst z;cases p with
 |lst xs=>let(b,g,e,c,_):=h;cases e;rw [d] at c;cases c
 |aY i qs=>let(b,j,e,_,c,_):=h;cases e;rw [d] at c;cases c
 |aC=>exact h.elim|bl _=>exact h.elim|int _=>exact h.elim|str _=>exact h.elim|tup _=>exact h.elim|exc _=>exact h.elim
theorem uJ{ob:HO}{d:Hp}(t:cY W G H)(g:G a=gK)(n:∀ps,H a≠gF (.iF ps))(h:∀b,b≠a->d b=H b):cY W (upd G a ob) d:=λP q m=>by
 let(i,ps,e,tr,j):=t P q m;have f:P≠a:=λz=>by subst z;exact n ps e
 refine{by rw [ah f];exact i,ps,by rw [h P f];exact e,tr,λc k y=>?_};let(o,oc,p,r,s,u,w,A):=j c k y;exact{o,oc,p,r,s,bD g _ _ u,w,A}
def Own.eO{d i:Hp}(h:Own W H0 G H p v)(j:v≠.ref a)(k:aB G d)(m:∀b,b≠a->d b=G b)(o:∀b,b≠a->i b=H b):Own W H0 d i p v:=by
 cases p with
 |lst xs=>let(b,q,rfl,e,f,g,l):=h;have c:b≠a:=λz=>j (by rw [z]);exact{b,q,rfl,by rw [o b c];exact e,by rw [m b c];exact f,g,aq.same k xs l}|aY s ps=>let(b,r,rfl,n,e,f,g,l):=h;have c:b≠a:=λz=>j (by rw [z]);exact{b,r,rfl,n,by rw [o b c];exact e,by rw [m b c];exact f,g,aq.same k ps l}|aC=>exact h.elim|bl _=>exact h.elim|int _=>exact h.elim|str _=>exact h.elim|tup _=>exact h.elim|exc _=>exact h.elim
def getElem?_modify{a:Type}(l:List a)(i j:Nat)(f:a->a):(l.modify i f)[j]?=if i=j then(l[j]?).map f else l[j]?:=by rw [List.getElem?_modify];split<;>simp_all
def vG(r:SR W H0 env σ G H)(g:aE W G0 H0 G H){i:Nat}{a:hF}{ob f:HO}{m:Hp}(F:env[i]?=gF (.own p))(M:σ[i]?=gF (gF (.ref a)))(I:Own W H0 G H p (.ref a))(hH:H a=gF ob)(A:G a=gK)(C:H0 a=gK)
 (R:∀K,aB G K->K a=gF f->Rep W K p (.ref a)) (h1:m a=gF f) (o:∀b,b≠a->m b=H b):SR W H0 (env.modify i o6) σ (upd G a f) m/\aE W G0 H0 (upd G a f) m:=by
 have w:aB G (upd G a f):=bD A
 have sub:aB (upd G a f) m:=λb u e=>by
  by_cases d:b=a
  .subst d;rw [av] at e;cases e;exact h1
  .rw [ah d] at e;rw [o b d];exact r.sub _ _ e
 have base:∀{B:Hp},B a=gK->iM B H->iM B m:=λS k b u e=>by
  have d:b≠a:=λz=>by rw [z,S] at e;cases e
  rw [o b d];exact k b u e
 refine{{by rw [List.length_modify];exact r.len,sub,base C r.base,λj s e=>?_,λj l q T c D N U V=>?_,uJ r.tab A I.FE o,uJ r.lY A (λps z=>by rw [C] at z;cases z) λ_ _=>rfl},{g.g.trans w,base C g.h,sub,λb O X Y=>?_,λt=>uJ (g.tab t) A I.FE o}}
 .rw [getElem?_modify] at e;split at e
  .rename_i z;subst z;rw [F] at e;cases e;exact{_,M,_,rfl,R _ w av}
  .rename_i z;let(Z,P,E):=r.slot j s e
   refine{Z,P,?_};cases s with
   |no=>exact trivial|val q=>let(y,rfl,L):=E;exact{y,rfl,Rep.same w q L}|fn _ _ _=>let(y,rfl,L):=E;exact{y,rfl,L.same w}|Dl ay=>let(b,D,Q,f2,f3,n):=E;have d:=I.SH Q;exact{b,D,by rw [o b d];exact Q,by rw [ah d];exact f2,f3,n}|own q=>let(y,rfl,ov):=E;refine{y,rfl,ov.eO (a:=a) (λzz=>?_) w (λb d=>ah d) o};subst zz;exact z (r.apart i j p q a F e M P)
 .rw [getElem?_modify] at D N;have ne:∀{j:Nat} {q:PV},(if i=j then(env[j]?).map o6 else env[j]?)=gF (.own q)->i≠j/\env[j]?=gF (.own q):=λ{j q} e=>by
   split at e
   .rename_i z;subst z;rw [F] at e;cases e
   .rename_i z;exact⟨z,e⟩
  exact r.apart j l q T c (ne D).2 (ne N).2 U V
 .have d:b≠a:=λz=>O (by rw [z];exact C);rw [ah d];exact g.own b O X Y
def Nt(r:SR W H0 env σ G H)(g:aE W G0 H0 G H)(i:Nat):(∃c,SR W H0 (env.modify i o6) σ c H/\aE W G0 H0 c H)\/∃a d,H a=gF (.dT d)/\∀o,∃c,SR W H0 (env.modify i o6) σ c (upd H a (.bC o (.dT d)))/\aE W G0 H0 c (upd H a (.bC o (.dT d))):=by
 have same:(∀p,env[i]?≠gF (.own p))->env.modify i o6=env:=λh=>by
  refine List.ext_getElem? λj=>?_;rw [getElem?_modify];split
  .rename_i e;subst e;cases q:env[i]? with
   |none=>rfl|some s=>
    cases s with
    |own p=>exact absurd q (h p)|no=>rfl|val p=>rfl|fn _ _ _=>rfl|Dl _=>rfl
  .rfl
 by_cases w:∃p,env[i]?=gF (.own p)
 .let(p,k):=w;let(o,y,v,rfl,A):=r.slot i _ k;have B:=A;obtain⟨a,F,rfl,f,C,D,m|⟨d,rfl,m⟩⟩:=A.Mp
  .let(t,u):=vG r g k y B f C D m f λZ Z=>rfl;exact .inl {_,t,u}
  .refine .inr {a,d,f,λo=>?_};let(t,u):=vG r g k y B f C D (m o) av λb E=>ah E;exact{_,t,u}
 .exact .inl {G,by rw [same λp z=>w ⟨p,z⟩];exact r,g}
def mC(r:SR W H0 env σ G H)(g:aE W G0 H0 G H){i:Nat}{p':PV}{a:hF}{ob:HO}(k:env[i]?=gF (.own p))(hs:σ[i]?=gF (gF (.ref a)))(I:G a=gK)(K:H0 a=gK)(M:Own W H0 G (upd H a ob) p' (.ref a)):
 SR W H0 (env.set i (.own p')) σ G (upd H a ob)/\aE W G0 H0 G (upd H a ob):=by
 have N:i<env.length:=(a9.mp k).1;have O:Own W H0 G H p (.ref a):=by let(y,d,A,rfl,B):=r.slot i _ k;rw [hs] at d;cases d;exact B
 have C:∀ps,H a≠gF (.iF ps):=by let(y,d,A,rfl,B):=r.slot i _ k;rw [hs] at d;cases d;exact B.FE
 have tab:∀{L:Hp},cY W L H->cY W L (upd H a ob):=λt=>t.same (aB.refl _) (λZ Z Z h=>h) (n5 C);refine{{by rw [List.length_set];exact r.len,λb u e=>?_,λb u e=>?_,λj s e=>?_,λj l q X c D P Q R=>?_,tab r.tab,r.lY},{g.g,λb u e=>?_,λb u e=>?_,g.own,λt=>tab (g.tab t)}}
 .rw [ah (λz=>by subst z;rw [I] at e;cases e)];exact r.sub _ _ e
 .rw [ah (λz=>by subst z;rw [K] at e;cases e)];exact r.base _ _ e
 .by_cases f:i=j
  .subst f;rw [eH N] at e;cases e;exact{_,hs,_,rfl,M}
  .rw [c4 f] at e;let(y,d,m):=r.slot j s e
   refine{y,d,?_};cases s with
   |no=>exact trivial|val q=>exact m|fn _ _ _=>exact m|Dl Y=>let(b,D,o,E,S,n):=m;have w:=O.SH o;exact{b,D,by rw [ah w];exact o,E,S,n}|own q=>let(A,rfl,T):=m;refine{A,rfl,T.eO (a:=a) (λU=>?_) (aB.refl _) (λb w=>rfl) λb w=>ah w};subst U;exact f (r.apart i j p q a k e hs d)
 .have tr:∀{j:Nat} {q:PV},(env.set i (.own p'))[j]?=gF (.own q)->∃F,env[j]?=gF (.own F):=λ{j q} e=>by
   by_cases f:i=j
   .subst f;exact⟨p,k⟩
   .rw [c4 f] at e;exact⟨q,e⟩
  let(F,o):=tr D;let(V,E):=tr P;exact r.apart j l F V c o E Q R
 .rw [ah (λz=>by subst z;rw [K] at e;cases e)];exact g.h _ _ e
 .rw [ah (λz=>by subst z;rw [I] at e;cases e)];exact g.sub _ _ e
def yq(r:SR W H0 env σ G H)(g:aE W G0 H0 G H){i:Nat}{ob:HO}(t:i<env.length)(w:H a=gK)(B:Own W H0 G (upd H a ob) p (.ref a)):
 SR W H0 (env.set i (.own p)) (σ.set i (gF (.ref a))) G (upd H a ob)/\aE W G0 H0 G (upd H a ob):=by
 have y:aE W G H G (upd H a ob):=.SE r.sub w;have m:=r.grow y;have o:∀{j:Nat} {q:PV},env[j]?=gF (.own q)->σ[j]?=gF (gF (.ref a))->False:=λ{j q} f h=>by let(z,u,F,rfl,C):=r.slot j _ f;rw [h] at u;cases u;let(I,K,b,A,_):=C.Mp;cases b;rw [w] at A;cases A
 refine{{by rw [List.length_set,List.length_set];exact r.len,m.sub,m.base,λj s e=>?_,λj l q D c f h b k=>?_,m.tab,m.lY},g.trans y}
 .by_cases d:i=j
  .subst d;rw [eH t] at e;cases e;exact{_,eH (by rw [<-r.len];exact t),_,rfl,B}
  .rw [c4 d] at e;let(z,u,E):=m.slot j s e;exact{z,by rw [c4 d];exact u,E}
 .by_cases d:i=j
  .by_cases hl:i=l
   .exact d.symm.trans hl
   .exfalso;subst d;rw [eH (by rw [<-r.len];exact t)] at b;rw [c4 hl] at h k;cases b;exact o h k
  .by_cases hl:i=l
   .exfalso;subst hl;rw [eH (by rw [<-r.len];exact t)] at k;rw [c4 d] at f b;cases k;exact o f b
   .rw [c4 d] at f b;rw [c4 hl] at h k;exact r.apart j l q D c f h b k
end
abbrev gZ:E->Bool
 |.lst _=>gS|.comp _ _ _ _ _=>gS|.bJ _ _ _ _ _ _=>gS|_=>gU
abbrev pJ:hI->Bool
 |.ListComp .. =>gU|.SetComp .. =>gU|.DictComp .. =>gU|_=>gS
abbrev Xe(sc:hZ)(x:Str)(a:Pos):hI->Bool
 |.ListComp _ _ s p=>sc.names.lookup x==gF .local&&a.line==p.line&&!(s.names.any λ(n,k)=>n==x&&(k==.local||k==.cell))
 |_=>gU
abbrev L4(ts:List hI):Option Str:=(eJ ts).bind eY
abbrev UW(e:hI):Option (Str×Str×List hI):=(DT e).bind λq=>(Qp q.1).bind λr=>(eY r.1).bind λx=>if(q.2.2.1.isEmpty&&r.2.2.endLine==q.2.2.2.line)=gS then gF (x,r.2.1,q.2.1) else gK
abbrev Y7(e:hI):Option (Str×i2×hI×hZ):=(DT e).bind λq=>(eY q.1).bind λf=>(eJ q.2.1).bind λa=>(eY a).bind λx=>(OA q.2.2.1).bind λr=>(WB r.2).bind λl=>if(f=="min"&&r.1=="key")=gS then gF (x,l.1,l.2.1,l.2.2) else gK
def OL{c:Str×i2×hI×hZ}(h:Y7 e=gF c):∃s t u w y,e=.Call (.Name "min" s) [.Name c.1 t] [{gF "key",.Lambda c.2.1 c.2.2.1 c.2.2.2 u,w}] y:=by let((f,a,k,p),z,h):=kJ h;let(g,A,h):=kJ h;let(b,B,h):=kJ h;let(x,C,h):=kJ h;let((n,v),D,h):=kJ h;let((F,G,H),E,h):=kJ h;let(d,rfl):=if1 h;rw [zza,zzy,zzy] at d;let(rfl,i):=d;let(I,j):=b9 A;let(p4,m):=b9 C;let(K,o):=Fb D;let(L,q):=ua E;have r:=dz B;dsimp only at j r m o q i;subst j r m o q i;exact{_,_,_,_,_,iO z}
abbrev JC(x p:Str)(e:hI):Bool:=(PY e).any λq=>(PY q.1).any λr=>eY r.1==gF x&&eY r.2==gF p&&(Qq q.2).bind Ws==gF 0
abbrev Aj(x:Str)(b:i2)(body:hI)(a:hZ):Bool:=match sJ b with
 |some [p]=>JC x p body&&decide (bH a=[x])&&U0 [p] a&&okN p&&okN x|_=>gU
set_option tactic.hygienic true in
def E4{f:i2}{g:hZ}(h:Aj x f body g=gS):∃p,sJ f=gF [p]/\xq p x f body g/\bH g=[x]/\okN x=gS:=by
 unfold Aj at h;split at h
 .rename_i p e;simp! [zza,zzN] at h;let((((t,k),u),m),j):=h;refine{p,e,{?_,by rw [<-k];exact Gw u,(dn m).1,(dn m).2.1,(dn j).1,(dn j).2.1},k,j};let((a,b),w,y):=aj t;let((c,d),z,i):=aj y;simp! [zza,zzy] at i;let(C,rfl):=uH w;let(D,o):=uH z;let(E,q):=b9 i.1.1;let(p4,r):=b9 i.1.2;let(F,A,B):=kJ i.2;let(G,H,s):=xJ A;cases EX B;dsimp only at o q r s;subst q r s o;exact{_,_,_,_,_,_,rfl}
 .cases h
abbrev W8(ts:List hI):Option (Str×hI):=(eJ ts).bind λt=>(PY t).bind λq=>(eY q.1).bind λx=>gF (x,q.2)
abbrev Zh(o:Option hI):Option (Str×Str):=o.bind λe=>(DT e).bind λq=>(eY q.1).bind λx=>(eJ q.2.1).bind λa=>(Qq a).bind λc=>(PQ c).bind λz=>if q.2.2.1.isEmpty=gS then gF (x,z) else gK
abbrev xf:ig->Option (List hI×hI×Pos)
 |.Assign ts v p=>gF (ts,v,p)|_=>gK
abbrev Uv:ExceptHandler->Option hI×Option Str×List ig×Pos
 |.ExceptHandler t n b p=>(t,n,b,p)
abbrev UB(hs:List ExceptHandler):Option (Str×Str×Str):=(eJ hs).bind λk=>(Uv k).1.bind λa=>(eY a).bind λx=>(Uv k).2.1.bind λn=>(eJ (Uv k).2.2.1).bind λb=>(xf b).bind λq=>(L4 q.1).bind λy=>(eY q.2.1).bind λc=>if(c==n)=gS then gF (x,n,y) else gK
def MG{b:ig}{q:List hI×hI×Pos}(h:xf b=gF q):b=.Assign q.1 q.2.1 q.2.2:=by
 cases b with
 |Assign ts v p=>cases h;rfl
 |_=>exact jW h
def kq{ts:List hI}(h:L4 ts=gF x):∃a,ts=[.Name x a]:=by let(t,b,c):=kJ h;let(p,rfl):=b9 c;exact{p,dz b}
def yg{p:hI}{m:Str}{args:List hI}(h:UW p=gF (x,m,args)):∃np b d,p=.Call (.Attribute (.Name x np) m b) args [] d/\(b.endLine==d.line)=gS:=by let((f,a,k,s),j,h):=kJ h;let((o,t,u),q,h):=kJ h;let(y,r,h):=kJ h;let(c,h):=if1 h;cases h;rw [zza] at c;let(w,e):=b9 r;have g:=xC q;have i:=List.isEmpty_iff.1 c.1;dsimp only at g e i;subst e g i;exact{_,_,_,iO j,c.2}
def Gv{ts:List hI}{c:hI}(h:W8 ts=gF (x,c)):∃np sp,ts=[.Subscript (.Name x np) c sp]:=by let(t,e,h):=kJ h;let((a,b),f,h):=kJ h;let(y,g,h):=kJ h;cases h;let(j,d):=b9 g;let(k,i):=uH f;dsimp only at d;subst d i;exact{_,_,dz e}
def PC{o:Option hI}(h:Zh o=gF (x,z)):∃np j i cp,o=gF (.Call (.Name x np) [.Constant (.str z) j i] [] cp):=by let(e,m,h):=kJ h;let((f,a,k,cp),p,h):=kJ h;let(y,q,h):=kJ h;let(t,r,h):=kJ h;let(c,s,h):=kJ h;let(w,u,h):=kJ h;let(A,h):=if1 h;cases h;let(D,b):=b9 q;let(p4,E,B):=xJ s;have d:=dz r;have C:=GX u;have g:=List.isEmpty_iff.1 A;dsimp only at b d g;subst b C B d g;exact{_,_,_,_,m.trans (congrArg gF (iO p))}
def N5{hs:List ExceptHandler}{n y:Str}(h:UB hs=gF (x,n,y)):∃a c np d q,hs=[.ExceptHandler (gF (.Name x a)) (gF n) [.Assign [.Name y c] (.Name n np) d] q]:=by let(k,r,h):=kJ h;let(C,e,h):=kJ h;let(D,s,h):=kJ h;let(E,f,h):=kJ h;let(b,t,h):=kJ h;let((ts,v,d),u,h):=kJ h;let(F,w,h):=kJ h;let(G,z,h):=kJ h;let(A,h):=if1 h;cases h;let(a,g):=b9 s;let(c,i):=kq w;let(np,j):=b9 z;have m:=MG u;have o:=dz t;have B:=dz r;have p:=zzy.mp A;let(H,I,K,p0):=k;dsimp only [Uv] at e f g o m i j p;subst e f g i j p m o;exact{_,_,_,_,_,B}
mutual
noncomputable def DY(Γ:Pg)(N:List Str)(sc:hZ):S->ig->Bool
 |.set i e,.Assign ts p _=>(L4 ts).any λx=>N[i]?==gF x&&f6 sc x&&iH e&&!gZ e&&bp Γ N sc e p|.ret e,.Return (gF p) _=>iH e&&bp Γ N sc e p|.ite c a b,.If p d f _=>iC c&&bp Γ N sc c p&&HW Γ N sc a d&&HW Γ N sc b f|_,_=>gU
noncomputable def HW(Γ:Pg)(N:List Str)(sc:hZ):Ss->List ig->Bool
 |.cons s .nil,[p]=>DY Γ N sc s p|_,_=>gU
end
mutual
noncomputable def fu(Γ:Pg)(N:List Str)(sc:hZ):S->ig->Bool
 |.expr e,.Expr p _=>pJ p&&bp Γ N sc e p|.set i e,.Assign ts p _=>(L4 ts).any λx=>N[i]?==gF x&&f6 sc x&&iH e&&bp Γ N sc e p|.own i e,.Assign ts p _=>(L4 ts).any λx=>N[i]?==gF x&&f6 sc x&&gZ e&&bp Γ N sc e p|.app i e,.Expr v _=>(UW v).any λc=>N[i]?==gF c.1&&fK sc c.1&&okN c.1&&c.2.1==("append":Str)&&iH e&&(eJ c.2.2).any λp=>bp Γ N sc e p|.qq i e,.Expr v _=>(UW v).any λc=>N[i]?==gF c.1&&fK sc c.1&&okN c.1&&c.2.1==("extend":Str)&&(eJ c.2.2).any λp=>bp Γ N sc e p|.put i kk e,.Assign ts p _=>(W8 ts).any λc=>N[i]?==gF c.1&&fK sc c.1&&okN c.1&&iH e&&bp Γ N sc kk c.2&&bp Γ N sc e p|.ret e,.Return (gF p) _=>iH e&&bp Γ N sc e p|.ite c a b,.If p k f _=>iC c&&bp Γ N sc c p&&dQ Γ N sc a k&&dQ Γ N sc b f|.cX o it b,.For h s f g _=>g.isEmpty&&jx N sc (λZ=>gS) o h&&IL it&&Bx Γ N sc h it s&&dQ Γ N sc b f|.Df c b,.While p f g _=>g.isEmpty&&iC c&&bp Γ N sc c p&&dQ Γ N sc b f|.raise c m,.Raise ex fr _=>fr.isNone&&(Zh ex).any λq=>c==q.1&&m==q.2&&Γ.rs.contains c&&gP sc c&&okN c|.w8 b c i j,.Try f hs t u _=>t.isEmpty&&u.isEmpty&&HW Γ N sc b f&&(UB hs).any λq=>q.1==c&&Γ.cs.contains c&&c==(zu 12)&&gP sc c&&okN c&&N[i]?==gF q.2.1&&sc.names.lookup q.2.1==gF .local&&okN q.2.1&&N[j]?==gF q.2.2&&sc.names.lookup q.2.2==gF .local|.brk,.Break _=>gS|.qA i e,.Assign ts v _=>(L4 ts).any λx=>(zg v).any λq=>(eJ q.2).any λr=>q.1==("dict":Str)&&gP sc q.1&&Γ.bs.contains q.1&&N[i]?==gF x&&f6 sc x&&bp Γ N sc e r|.k9 i,.Assign ts (.Dict [] [] _) _=>(L4 ts).any λx=>N[i]?==gF x&&f6 sc x|.eN i j n,.Assign ts v _=>(W8 ts).any λc=>(eY c.2).any λz=>N[i]?==gF c.1&&fK sc c.1&&okN c.1&&N[n]?==gF z&&fK sc z&&okN z&&(UW v).any λd=>d.2.1==("pop":Str)&&(eJ d.2.2).any λe=>(eY e).any λw=>z==w&&N[j]?==gF d.1&&fK sc d.1&&okN d.1|.ni m i,.Assign ts v _=>(L4 ts).any λy=>(Y7 v).any λc=>N[m]?==gF y&&f6 sc y&&N[i]?==gF c.1&&sc.names.lookup c.1==gF .cell&&gP sc "min"&&Γ.bs.contains "min"&&Γ.hl&&Aj c.1 c.2.1 c.2.2.1 c.2.2.2|_,_=>gU
noncomputable def dQ(Γ:Pg)(N:List Str)(sc:hZ):Ss->List ig->Bool
 |.nil,[]=>gS|.cons (.bC _) ss,ps=>dQ Γ N sc ss ps|.cons s ss,p::ps=>fu Γ N sc s p&&dQ Γ N sc ss ps|_,_=>gU
end
section
variable{Γ:Pg}{W:Wd}{F:aL}{sc:hZ}{k:Nat}{E:XK}
def SR.go{env:Sl}{a:St}{G H:Hp}(r:SR W H0 env a G H):aE W G H0 G H:={aB.refl _,r.base,r.sub,λZ Z Z h=>h,λZ=>r.tab}
def aE.then{c j d e:Hp}(a:aE W G H0 c j)(b:aE W c H0 d e):aE W G H0 d e:={a.g.trans b.g,b.h,b.sub,λx f i m=>b.own x f i (a.own x f i m),λt=>b.tab (t.same a.g a.own λZ Z h=>h)}
def SR.on{d:St}{a b:Hp}(r:SR W H0 env d G H)(g:aE W G H a b):aE W G H0 a b:={g.g,r.base.trans g.h,g.sub,λx c e f=>g.own x (λz=>c (r.base.free z)) (r.base.wc c e) f,λZ=>g.tab r.tab}
def Dn(W:Wd)(H0 G:Hp)(D:Ends):Fl->Prop
 |.nx env=>∀c b a,SR W H0 env c b a->aE W G H0 b a->D.nx c a|.bk env=>∀c b a,SR W H0 env c b a->aE W G H0 b a->D.bk c a|.ct env=>∀c b a,SR W H0 env c b a->aE W G H0 b a->D.ct c a|.rt p=>∀v b a,Rep W b p v->aE W G H0 b a->D.rt v a
def cb(W:Wd)(H0 G:Hp)(E:XK)(r:Res Fl)(D:Ends):Prop:=match r with
 |.ok f=>Dn W H0 G D f|.exc c=>∀a b d,XE W c G H0 a b d->E a b d|.bad=>False
def Dn.on{e i:Hp}{f:Fl}(h:Dn W H0 G D f)(g:aE W G H0 e i):Dn W H0 e D f:=by
 cases f with
 |nx env=>exact λd a b r c=>h d a b r (g.then c)|bk env=>exact λd a b r c=>h d a b r (g.then c)|ct env=>exact λd a b r c=>h d a b r (g.then c)|rt p=>exact λv a b r c=>h v a b r (g.then c)
def cb.on{b d:Hp}{r:Res Fl}(h:cb W H0 G E r D)(g:aE W G H0 b d):cb W H0 b E r D:=by
 cases r with
 |ok f=>exact Dn.on h g|exc c=>intro e i j x;let(C,a,m,o,p,q,s,t):=x;exact h e i j {C,a,m,o,p,q,s,g.then t}|bad=>exact h
abbrev tS(W:Wd)(F:aL)(H0:Hp)(E:XK)(s:S):TS:=λD a H=>∃G env,SR W H0 env a G H/\cb W H0 G E (gO F s env) D
abbrev Xo(W:Wd)(F:aL)(H0:Hp)(E:XK)(a:Ss):TS:=λD b H=>∃G env,SR W H0 env b G H/\cb W H0 G E (aD F a env) D
noncomputable abbrev GS(X:Cx)(W:Wd)(F:aL)(H0:Hp)(E:XK)(s:S)(p:ig):Prop:=PS X p (tS W F H0 E s)
noncomputable abbrev DA(X:Cx)(W:Wd)(F:aL)(H0:Hp)(E:XK)(s:Ss)(p:List ig):Prop:=uM X p (Xo W F H0 E s)
def _root_.L2.PS.imp{p:ig}{t t':TS}(h:PS X p t)(i:∀D a H,t' D a H->t D a H):PS X p t':=λb s a H D I c=>h b s a H D I (i D a H c)
def _root_.L2.uM.imp{p:List ig}{t t':TS}(h:uM X p t)(i:∀D a H,t' D a H->t D a H):uM X p t':=λb s a H D I c=>h b s a H D I (i D a H c)
structure fc(Γ:Pg)(F:aL)(W:Wd)(N:List Str)(sc:hZ)(k:Nat)(E:XK)(X:Cx):Prop where
 C:zv3 X
 fn:∀x,X.fn x=gS
 own:PassesOwn (hV X.prog X.w) X.A X.env X.xe
 pass:Passes (eP X.prog X.w) X E
 kind:sc.kind=.function
 G8:X.stack=X.env::X.outer
 frame:X.env.frame=gF X.env.locals
 xs:∀c,Γ.rs.contains c=gS->c∈W.xs
 rm:∀c,Γ.rs.contains c=gS->∃C,X.mg c=gF (.ref C)
 rz:Γ.qt=gU->∀(c z:Str) (j:Nat) (np zp cp pos:Pos),Γ.rs.contains c=gS->gP sc c=gS->okN c=gS->PS X (.Raise (gF (.Call (.Name c np) [.Constant (.str z) j zp] [] cp)) gK pos) (λ_ _ H=>∀C e,X.mg c=gF (.ref C)->H e=gK->E (.ref C) (gF e) H)
 Ry:Γ.cs.contains (zu 12)=gS->∀c D,c∈W.xs->X.mg c=gF (.ref D)->∀T,X.mg (zu 12)=gF (.ref T)->PySem.W.exmOne X.K (.ref D) (.ref T)=gF gS
theorem Kv(S:zv1 X){c:Str}{j:St}{m:Hp}(g:aE W m H0 G H)(h:∀d o f,XE W c m H0 d o f->E d o f):uV X W j c G H:=λq Q r s e u I w x=>S.pass q j r s e u I (Dy.imp x λd a f y=>h d a f (by let(C,A,B,D,K,L,M,O):=y;have b:=w.trans O;exact{C,A,B,D,K,L,M,g.g.trans b.g,g.h.trans b.h,b.sub,λx i p P=>b.own x (λz=>i (g.h.free z)) (g.h.wc i p) (g.own x i p P),λt=>b.tab (g.tab t)}))
def cb.bind{b:Type}(S:zv1 X){r:Res b}{f:b->Res Fl}{d:St}(e:SR W H0 env d G H)(h:cb W H0 G E (r.bind f) D):Out X W r d G H λa=>cb W H0 G E (f a) D:=by
 cases r with
 |ok a=>exact h|exc c=>exact Kv S e.go h|bad=>exact h
def qz(S:zv1 X){d:St}{e:Ci.E}{f:PV->Res Fl}(c:SR W H0 env d G H)(o:cb W H0 G E ((aJ F e env).bind f) D)
 (h:∀p v a b,aE W G H a b->Got W H0 a b e p v->SR W H0 env d a b->cb W H0 a E (f p) D->Q v b):tE X W F e d H Q:=
 {H0,G,env,c,(o.bind S c).imp λp i v a b g t=>h p v a b g t (c.grow g) (i.on (c.on g))}
def L7(S:zv1 X){i:St}{e:Ci.E}{f:Bool->Res Fl}{Q:Bool->Hp->Prop}(g:SR W H0 env i G H)(o:cb W H0 G E ((aJ F e env).bind λp=>ny p f) D)
 (h:∀b c d,aE W G H c d->SR W H0 env i c d->cb W H0 c E (f b) D->Q b d):tT X W F e i H Q:=by
 refine{H0,G,env,g,(o.bind S g).imp λp a=>?_}
 cases p with
 |bl b=>exact{b,rfl,λc d j=>h b c d j (g.grow j) (cb.on a (g.on j))}|aC=>exact eu a|int _=>exact eu a|str _=>exact eu a|tup _=>exact eu a|lst _=>exact eu a|exc _=>exact eu a|aY _ _=>exact eu a
def SU(S:zv1 X){m:St}{e:Ci.E}{f:PV->Res Fl}(hl:∀env q,aJ F e env=.ok q->∃xs,q=.lst xs)(d:SR W H0 env m G H)(o:cb W H0 G E ((aJ F e env).bind f) D)
 (h:∀xs a vs i j,aE W G H i j->j a=gK->aq W i xs vs->SR W H0 env m i j->cb W H0 i E (f (.lst xs)) D->Q (.ref a) (upd j a (.lst vs))):tF X W F e m H Q:=by
 refine{H0,G,env,d,?_};have b:=o.bind S d
 cases r:aJ F e env with
 |bad=>rw [r] at b;exact b|exc c=>rw [r] at b;exact b|ok q=>rw [r] at b;let(xs,rfl):=hl env q r;exact{xs,rfl,λa vs p s g t l=>h xs a vs p s g t l (d.grow g) (cb.on b (d.on g))}
def nZ{p:hI}{t:Option hI}{l:Nat}{env:Env}(h:pJ p=gS):swapsWith p t l env=pure gU:=by
 cases p<;>first|rfl|(exact aP h)
def nY{a:hI}{gens:List Comprehension}{s:hZ}{p:Pos}{b:Pos}{l:Nat}(fH:X.env.scope=sc)(hk:sc.kind=.function):swapsWith (.ListComp a gens s p) (gF (.Name x b)) l X.env=pure (Xe sc x b (.ListComp a gens s p)):=by
 have c:X.env.blockKind=.function:=by unfold Env.blockKind;rw [fH,hk];rfl
 show(pure (X.env.blockKind==.function&&X.env.kindOf x==gF .local&&b.line==p.line&&!(s.names.any λ(n,k)=>n==x&&(k==.local||k==.cell))):Sem Bool)=_;rw [c];show(pure (gS&&X.env.scope.names.lookup x==gF .local&&_&&_):Sem Bool)=_;rw [fH];rfl
theorem Jd(S:zv1 X){e:Ci.E}{p:hI}(he:GE X W F e p)(b:pJ p=gS):GS X W F H0 E (.expr e) (.Expr p pos):=
 L2.PS.imp (uk he (nZ b)) λD c H h=>by let(G,env,d,o):=h;rw [gO] at o;exact qz S d o λq v f i g t a j=>j c f i a a.go
theorem NR(S:zv1 X){e:Ci.E}{p:hI}(a:iH e=gS)(he:GE X W F e p):GS X W F H0 E (.ret e) (.Return (gF p) pos):=
 L2.PS.imp (Gi he) λD j H h=>by let(G,env,b,o):=h;rw [gO] at o;exact qz S b o λq v c d g t f i=>i v c d (t.rep a) f.go
theorem NO:GS X W F H0 E .brk (.Break pos):=
 L2.PS.imp Gg λD b H h=>by let(G,env,a,o):=h;rw [gO] at o;exact o b G H a a.go
theorem Ey(S:zv1 X)(b:Γ.qt=gU){c m:Str}{a cp:Pos}(h1:Γ.rs.contains c=gS)(d:gP sc c=gS)(f:okN c=gS):GS X W F H0 E (.raise c m) (.Raise (gF (.Call (.Name c np) [.Constant (.str m) j a] [] cp)) gK pos):=
 L2.PS.imp (S.rz b c m j np a cp pos h1 d f) λD i H h C e hC p=>by let(G,env,g,o):=h;rw [gO] at o;exact o _ _ _ {C,e,G,rfl,rfl,S.xs c h1,by rw [S.C.mg];exact hC,g.go}
def ft(S:zv1 X){i:Nat}(h:N[i]?=gF x)(hl:f6 sc x=gS):X.N.Nodup/\X.N[i]?=gF x/\Loc X.env.scope x:=by refine{by rw [S.C.hN];exact S.C.nd,by rw [S.C.hN];exact h,yb S.C.fH hl}
def NS(S:zv1 X){i:Nat}{e:Ci.E}{p:hI}{a:Pos}(h:N[i]?=gF x)(hl:f6 sc x=gS)(c:iH e=gS)(he:GE X W F e p)(hs:swapsWith p (gF (.Name x a)) pos.line X.env=pure gU):GS X W F H0 E (.set i e) (.Assign [.Name x a] p pos):=by let(d,f,j):=ft S h hl;refine L2.PS.imp (kE d f j he hs (.inl (S.fn x))) λD w H h=>?_;let(G,env,m,o):=h;rw [gO] at o;exact qz S m o λq v r s g t b u=>u _ r s (b.set i (t.rep c)) b.go
abbrev QH(X:Cx)(W:Wd)(F:aL)(i:Nat)(e:Ci.E):TS:=λD a H=>tF X W F e a H λv b=>D.nx (a.set i (gF v)) b
def Tx{e:Ci.E}(hl:∀env q,aJ F e env=.ok q->∃xs,q=.lst xs)(b:St)(H:Hp)(Q:VK)(h:tE X W F e b H Q):tF X W F e b H Q:=by
 let(H0,G,env,f,o):=h
 refine{H0,G,env,f,?_};cases r:aJ F e env with
 |bad=>rw [r] at o;exact o|exc c=>rw [r] at o;exact o|ok q=>rw [r] at o;let(xs,rfl):=hl env q r;exact{xs,rfl,λa i j m g d l=>o _ _ _ (g.trans (.new g.sub d)) (.of (.l (.inl (.inl av)) (aq.same (bD (g.sub.free d)) xs l)))}
theorem Ji(S:zv1 X){i:Nat}{e:Ci.E}{p:ig}(hl:∀env q,aJ F e env=.ok q->∃xs,q=.lst xs)(b:iH e=gS)(h:PS X p (QH X W F i e)):GS X W F H0 E (.set i e) p:=
 L2.PS.imp h λD c H d=>by let(G,env,f,o):=d;rw [gO] at o;refine Tx hl c H _ (qz S f o λq v j m g t a r=>?_);exact r _ j m (a.set i (t.rep b)) a.go
def Jh(S:zv1 X){i:Nat}{e:Ci.E}{p:ig}(m:N[i]?=gF x)(hl:∀env q,aJ F e env=.ok q->∃xs,q=.lst xs)(h:PS X p (QH X W F i e)):GS X W F H0 E (.own i e) p:=by
 intro r s d H D I t;have u:i<d.length:=by rw [I.len,S.C.hN];exact(a9.mp m).1
 refine h r s d H D I ?_;let(G,env,w,o):=t;rw [gO] at o;refine SU S hl w o λxs a f j y g c l b z=>?_;have A:Own W H0 j (upd y a (.lst f)) (.lst xs) (.ref a):={a,f,rfl,av,b.sub.free c,b.base.free c,l};let(B,K):=yq b b.go (i:=i) (by rw [b.len];exact u) c A;exact z _ j _ B K
def uj{i:Nat}{e:Ci.E}{p:hI}{a:Pos}(S:zv1 X)(h:N[i]?=gF x)(hl:f6 sc x=gS)(he:GF X W F e p)(hs:swapsWith p (gF (.Name x a)) pos.line X.env=pure gU):PS X (.Assign [.Name x a] p pos) (QH X W F i e):=by let(b,c,d):=ft S h hl;exact kE b c d he hs (.inl (S.fn x))
def DJ(S:zv1 X)(q:Γ.qt=gU){i:Nat}{r t:Pos}(u:N[i]?=gF x)(w:f6 sc x=gS){j:List Nat}{d:Tg}{b:Ci.E}{c m:hI}{a:hZ}{pos:Pos}(h:n9 N sc a kk j (aR c))(y:qd kk d=gS)(B:iH b=gS)(G:GI X W F c it e)(vL:∀x,foldedSetIterable e X.env x=pure x)
 (L:jx (aR c++freeOf a) (dU a sc) (pO a) d c=gS) (he:∀Y,dO Γ.HG F W (aR c++freeOf a) (dU a sc) k Y->GE Y W F b m):PS X (.Assign [.Name x r] (.ListComp m [{c,e,[],0}] a pos) t) (QH X W F i (.comp kk j d it b)):=by
 let(O,P,R):=ft S u w
 cases M:Xe sc x r (.ListComp m [⟨c,e,[],0⟩] a pos) with
 |false=>exact uj S u w (zU S.C q h y B G vL L he) (by rw [nY S.C.fH S.kind,M])|true=>
  intro T s f H D I U;have V:(freeOf a).Nodup:=(List.nodup_append.mp h.nd).2.1;have rd:=zq (N:=N) S.C.K y B h.slots V f H _ U
  have:=yv (g:=gT X.K d) (te:=tN W F b) (xs:=aR c) (ys:=freeOf a) (is:=j) (pos:=pos) O P R (S.C.calm q) (tv S.C.hN S.C.fH I.ok h) G
   (λfp o p A=>F2 (fn:=pO a) (X:=cJ X (aR c++freeOf a) a (cj X.env (freeOf a)) fp o p A) rfl h.nd (gH S.C.fH) rfl (λZ z=>z) L)
   (λfp o p A=>L2.PE.imp (he _ (gj S.C h fp o p A)) λf H Q z=>A0 f H Q z) (by rw [nY (l:=t.line) S.C.fH S.kind,M]) vL (.inl (S.fn x)) T s f H D I
  rw [h.len] at this;exact this rd
def xA(S:zv1 X)(t:Γ.qt=gU){i:Nat}{u w:Pos}(y:N[i]?=gF x)(B:f6 sc x=gS){p:List Nat}{m:Tg}{c d:Ci.E}{b o q r:hI}{a:hZ}{pos:Pos}(h:n9 N sc a kk p (aR b))(G:qd kk m=gS)(L:iH d=gS)(M:GI X W F b it o)(vL:∀x,foldedSetIterable o X.env x=pure x)
 (O:jx (aR b++freeOf a) (dU a sc) (pO a) m b=gS) (P:∀Y,dO Γ.HG F W (aR b++freeOf a) (dU a sc) k Y->GT Y W F c q) (he:∀Y,dO Γ.HG F W (aR b++freeOf a) (dU a sc) k Y->GE Y W F d r):PS X (.Assign [.Name x u] (.ListComp r [{b,o,[q],0}] a pos) w) (QH X W F i (.bJ kk p m it c d)):=by
 let(T,U,V):=ft S y B
 cases R:Xe sc x u (.ListComp r [⟨b,o,[q],0⟩] a pos) with
 |false=>exact uj S y B (rH S.C t h G L M vL O P he) (by rw [nY S.C.fH S.kind,R])|true=>
  intro Z s e H D I hq;have ON:(freeOf a).Nodup:=(List.nodup_append.mp h.nd).2.1;have rd:=rn (N:=N) S.C.K G L h.slots ON e H _ hq
  have:=um (g:=gT X.K m) (tt:=U6 W F c) (te:=tN W F d) (xs:=aR b) (ys:=freeOf a) (is:=p) (pos:=pos) T U V (S.C.calm t) (tv S.C.hN S.C.fH I.ok h) M
   (λfp f j A=>F2 (fn:=pO a) (X:=cJ X (aR b++freeOf a) a (cj X.env (freeOf a)) fp f j A) rfl h.nd (gH S.C.fH) rfl (λ_ z=>z) O)
   (λfp f j A=>L2.PT.imp (P _ (gj S.C h fp f j A)) λe H Q z=>Hf e H Q z)
   (λfp f j A=>L2.PE.imp (he _ (gj S.C h fp f j A)) λe H Q z=>A0 e H Q z) (by rw [nY (l:=w.line) S.C.fH S.kind,R]) vL (.inl (S.fn x)) Z s e H D I
  rw [h.len] at this;exact this rd
def Cz{a:Tg}(c:Str):Tg.put a p env≠.exc c:=by unfold Tg.put;split<;>exact nofun
theorem Ex(S:zv1 X){c:Ci.E}{a b:Ss}{p:hI}{e f:List ig}(m:GT X W F c p)(q:DA X W F H0 E a e)(r:DA X W F H0 E b f):GS X W F H0 E (.ite c a b) (.If p e f pos):=
 L2.PS.imp (Mc m q r) λD u H h=>by
  let(G,env,s,o):=h;rw [gO] at o;refine L7 S s o λt i w g j d=>?_
  cases t with
  |true=>rw [if_pos rfl] at d⊢;exact⟨i,env,j,d⟩|false=>rw [if_neg zzf] at d⊢;exact⟨i,env,j,d⟩
theorem NU(S:zv1 X){c:Ci.E}{b:Ss}{p:hI}{K:List ig}(O:GT X W F c p)(P:DA X W F H0 E b K):GS X W F H0 E (.Df c b) (.While p K [] pos):=
 L2.PS.imp (Gj S.own O P) λD Y H h=>by
  let(G,env,L,o):=h;rw [gO] at o;refine{λm s B=>∃z u,SR W H0 u s z B/\aE W G H0 z B/\cb W H0 z E (dw (aJ F c) (aD F b) m u) D,{_,G,env,L,L.go,o},?_}
  rintro m s B ⟨z,u,w,Q,C⟩
  cases m with
  |zero=>exact C.elim|succ m=>
   unfold dw at C;refine L7 S w C λt A R T I d=>?_
   cases t with
   |false=>rw [if_neg zzf] at d⊢;exact d s A R I I.go|true=>
    rw [if_pos rfl] at d⊢;refine{λa g=>∃e i,SR W H0 i a e g/\aE W G H0 e g/\cb W H0 e E (dw (aJ F c) (aD F b) m i) D,λa g U=>{m,Nat.lt_succ_self _,U},A,u,I,?_};have M:=Q.then (w.on T)
    cases r:aD F b u with
    |bad=>rw [r] at d;exact d.elim|exc cc=>rw [r] at d;exact d|ok f=>
     rw [r] at d;cases f with
     |nx i=>exact λa e g y j=>{e,i,y,M.then j,cb.on (show cb W H0 A E (dw (aJ F c) (aD F b) m i) D from d) j}|ct i=>exact λa e g y j=>{e,i,y,M.then j,cb.on (show cb W H0 A E (dw (aJ F c) (aD F b) m i) D from d) j}|bk i=>exact λa e g y j=>d a e g y j|rt q=>exact λv e g V j=>d v e g V j
def NP(S:zv1 X)(zZ:Γ.qt=gU){O:Tg}{b:Ss}{Z iI:hI}{pb:List ig}(EM:jx N sc (λ_=>gS) O Z=gS)(hit:IL it=gS)(hi:GI X W F Z it iI)(vL:∀x,foldedSetIterable iI X.env x=pure x)(hb:DA X W F H0 E b pb):GS X W F H0 E (.cX O it b) (.For Z iI pb [] pos):=
 L2.PS.imp (Pq S.own (S.C.calm zZ) hi (F2 (fn:=λ_=>gS) S.C.hN S.C.nd S.C.fH (S.C.calm zZ) (λx _=>S.fn x) EM) hb vL) λD σ H h=>by
  let(G,env,U,o):=h;rw [gO] at o;refine{H0,G,env,U,(o.bind S U).imp λps nK J G1 H1 g1 gi=>?_};have bC:=gi.bC hit;generalize hf:(λ(x:PV) (env:Sl)=>(O.put x env).bind λd=>aD F b d)=f at nK;have bI:=U.grow g1;refine{λi m w P=>i<=ps.length/\m=ps.length-i/\∃L d,SR W H0 d w L P/\aE W G1 H0 L P/\cb W H0 L E (forL f (ps.drop i) d) D,{_,Nat.zero_le _,rfl,G1,env,bI,bI.go,by rw [List.drop_zero];exact cb.on nK (U.on g1)},?_}
  rintro i m w P ⟨Jo,hm,L,d,e,g',s⟩
  let(ist,igo):=bC i L P g'.g (.of (g'.g.trans e.sub)) e.sub;by_cases j:i=ps.length
  .refine .inl {ist j,?_};rw [j,List.drop_length] at s;exact s w L P e e.go
  .have V:i<ps.length:=by lia
   let(hgo,Q):=igo ps[i] (zzg V);refine .inr {hgo,λy H2=>i+1<=ps.length/\∃G2 M,SR W H0 M y G2 H2/\aE W G1 H0 G2 H2/\cb W H0 G2 E (forL f (ps.drop (i+1)) M) D,λy H2 h2=>{ps.length-(i+1),by lia,h2.1,rfl,h2.2},λx ql hy=>?_};let(Y,z,rx):=Q x ql hy;rw [List.drop_eq_getElem_cons V] at s;unfold forL at s;have hfe:f ps[i] d=(O.put ps[i] d).bind λd=>aD F b d:=by rw [<-hf]
   rw [hfe] at s;have fk:=e.grow z;have g2:=g'.then (e.on z)
   cases r:O.put ps[i] d with
   |bad=>rw [r] at s;exact s.elim|exc c=>exact absurd r (Cz c)|ok M=>
    rw [r] at s;refine xP S.C.K r fk rx λy sr3=>{Y,M,sr3,?_}
    have t:cb W H0 Y E ((aD F b M).bind λfl=>match fl with
     |.nx d=>forL f (ps.drop (i+1)) d|.ct d=>forL f (ps.drop (i+1)) d|.bk d=>.ok (.nx d)|.rt p=>.ok (.rt p)) D:=cb.on s (e.on z)
    cases r2:aD F b M with
    |bad=>rw [r2] at t;exact t.elim|exc cc=>rw [r2] at t;exact t|ok fl=>
     rw [r2] at t;cases fl with
     |nx a=>exact λA B R T u=>{V,B,a,T,g2.then u,cb.on (show cb W H0 Y E (forL f (ps.drop (i+1)) a) D from t) u}|ct a=>exact λA B R T u=>{V,B,a,T,g2.then u,cb.on (show cb W H0 Y E (forL f (ps.drop (i+1)) a) D from t) u}|bk a=>exact λA B R T u=>t A B R T u|rt q=>exact λv B R rv u=>t v B R rv u
theorem zW:DA X W F H0 E .nil []:=L2.uM.imp AG λD b H h=>by let(G,env,a,o):=h;rw [aD] at o;exact o b G H a a.go
theorem vK{s:Ci.S}{b:Ss}{p:ig}{ps:List ig}(h1:GS X W F H0 E s p)(d:DA X W F H0 E b ps):DA X W F H0 E (.cons s b) (p::ps):=
 L2.uM.imp (Gk h1 d) λD t H h=>by
  let(G,env,e,o):=h
  rw [aD] at o;refine{G,env,e,?_};cases r:gO F s env with
  |bad=>rw [r] at o;exact o|exc c=>rw [r] at o;exact o|ok f=>
   rw [r] at o;cases f with
   |nx a=>exact λg i u j m=>{i,a,j,cb.on (show cb W H0 G E (aD F b a) D from o) m}|bk a=>exact o|ct a=>exact o|rt q=>exact o
def Jj{i:Nat}{c:Ss}{ps:List ig}(h:DA X W F H0 E c ps):DA X W F H0 E (.cons (.bC i) c) ps:=by
 intro f s g H D I m;let(G,env,j,o):=m
 rw [aD,gO] at o;rcases Nt j j.go i with⟨d,b,e⟩|⟨a,r,p,k⟩
 .exact h f s g H D I {d,_,b,cb.on (show cb W H0 G E (aD F c (env.modify i o6)) D from o) e}
 .let(q,J):=I.freeze p;let(d,b,e):=k q;exact h f s g _ D J {d,_,b,cb.on (show cb W H0 G E (aD F c (env.modify i o6)) D from o) e}
def yi(hK:W.K=X.K):Ud X "list.extend" (λx vs H Q=>∃l b xs zs,x=.ref l/\vs=[.ref b]/\H l=gF (.lst xs)/\uS W.K H b zs/\xs.length+zs.length<=ic/\Q .aC (upd H l (.lst (xs++zs)))):=by
 intro y s A H x vs v B Q I g i h;let(l,b,xs,zs,rfl,rfl,f,j,C,q):=h;cases g;let(u,rfl,m):=Vals.one i;cases m;let(z,a,n,r,hl,e):=I.SD f;let(c,o,p,D,G,t):=Fn hK I j;have d:a.toArray.size+c.toArray.size<=sizeLine:=by rw [aT,aT];lia
 have w:¬(!a.toArray.isEmpty&&i1.List.listTooLong (a.toArray.size+c.toArray.size))=gS:=by rw [v9 d,Bool.and_false];exact zzf
 refine PySem.call_meets PySem.F.slot_list_extend {_,e,rfl} PySem.F.entry_list_extend (PySem.F.args_list_extend_2 _ _)
  (PySem.AutoSeq1.list_extend_list_list_0 l a.toArray n b c.toArray o w (by rw [aT];lia) (by lia)) {e,t,?_}
 refine{.aC,_,I.SA (its':=a++c) f e (by simp) (r.append p) ?_,rfl,q};rw [cA];lia
def kD(S:zv1 X){i:Nat}(h:N[i]?=gF x)(b:fK sc x=gS)(a:okN x=gS):PE X (.Name x pos) (C7 i):=
 f7 (by rw [S.C.hN];exact h) (qg S.C b) (dn a).1 (dn a).2.1
def uf{b:St}{i:Nat}(c:SR W H0 env b G H)(h:env[i]?=gF (.own (.lst xs))):∃a vs,b[i]?=gF (gF (.ref a))/\H a=gF (.lst vs)/\G a=gK/\H0 a=gK/\aq W G xs vs:=by let(o,d,v,rfl,a,vs,rfl,e,f,g,l):=c.slot i _ h;exact⟨a,vs,d,e,f,g,l⟩
set_option tactic.hygienic true in
def NN(S:zv1 X){i:Nat}{e:Ci.E}{p:hI}{b j:Pos}(h:N[i]?=gF x)(A:fK sc x=gS)(B:okN x=gS)(C:(b.endLine==j.line)=gS)(I:iH e=gS)(he:GE X W F e p)
 (d:∀env ps,starEach (p::ps) env=(gU,eval p env)::starEach ps env):GS X W F H0 E (.app i e) (.Expr (.Call (.Attribute (.Name x np) "append" b) [p] [] j) pos):=by
 refine L2.PS.imp (uk (Az PySem.F.plainAttrs_list PySem.F.slot_list_append PySem.F.type_list_append Cq (kD S h A B) (bQ he dE (d _ _)) rfl (by rw [d];rfl) C (d _ _) rfl) rfl) λD T H K=>?_;let(G,env,m,o):=K;rw [gO] at o;split at o
 .rename_i xs r;let(a,s,hs,c,L,u,l):=uf m r;refine{.ref a,hs,.inl {rfl,_,gR.of c},qz S m o λq v M U g t w f=>?_};split at f
  .rename_i hl;have O:=g.h.at c (λZ z=>nomatch z);have y:=g.own a (by rw [c];exact nofun) (by rw [c];exact λZ z=>nomatch z) L;have P:=aq.same g.g xs l;refine{a,s,v,rfl,rfl,O,by rw [l.length];exact dB hl (by decide),?_};let(Q,R):=mC (p':=.lst (xs++[q])) (ob:=.lst (s++[v])) w w.go r hs y u {a,_,rfl,av,y,u,P.append (.cons (t.rep I) .nil)};exact f _ M _ Q R
  .exact f.elim
 .exact o.elim
set_option tactic.hygienic true in
def Je(S:zv1 X){i:Nat}{e:Ci.E}{p:hI}{c r:Pos}(h:N[i]?=gF x)(I:fK sc x=gS)(L:okN x=gS)(M:(c.endLine==r.line)=gS)(he:GE X W F e p)
 (j:∀env ps,starEach (p::ps) env=(gU,eval p env)::starEach ps env):GS X W F H0 E (.qq i e) (.Expr (.Call (.Attribute (.Name x np) "extend" c) [p] [] r) pos):=by
 refine L2.PS.imp (uk (Az PySem.F.plainAttrs_list PySem.F.slot_list_extend PySem.F.type_list_extend (yi S.C.K) (kD S h I L) (bQ he dE (j _ _)) rfl (by rw [j];rfl) M (j _ _) rfl) rfl) λD σ H O=>?_;let(G,env,s,o):=O;rw [gO] at o;split at o
 .rename_i xs u;let(a,w,hs,f,P,y,l):=uf s u;refine{.ref a,hs,.inl {rfl,_,gR.of f},qz S s o λq v Q H1 g t m d=>?_};split at d
  .rename_i R;split at d
   .rename_i hl;have T:=g.h.at f (λ_ z=>nomatch z);have A:=g.own a (by rw [f];exact nofun) (by rw [f];exact λ_ z=>nomatch z) P;have U:=aq.same g.g xs l;let(b,B,rfl,V,lb):=t.top.lst m.sub;refine{a,b,w,B,rfl,rfl,T,V,by rw [l.length,lb.length];exact tZ hl,?_};let(Y,Z):=mC (p':=.lst (xs++R)) (ob:=.lst (w++B)) m m.go u hs A y {a,_,rfl,av,A,y,U.append lb};exact d _ Q _ Y Z
   .exact d.elim
  .exact d.elim
 .exact o.elim
def Ta:V->V->V->Hp->(Hp->Prop)->Prop:=λo i v H Q=>∃a b,o=.ref a/\A8 H a i v b/\Q b
def AS(b:X.A.units+1<cLine):uU X Ta:=by intro m s p H o i v r t u Q I c d e h;let(a,f,rfl,g,q):=h;cases c;exact BD b I g d e λw j=>⟨f,j,q⟩
def uU.or{t t':HN}(h:uU X t)(h':uU X t'):uU X (λo i v H Q=>t o i v H Q\/t' o i v H Q):=by
 intro a s b H o i v c d u Q I e f g q;rcases q with q|q
 .exact h a s b H o i v c d u Q I e f g q
 .exact h' a s b H o i v c d u Q I e f g q
def lR{b:St}{i:Nat}{ks:ku}{ps:List PV}(c:SR W H0 env b G H)(h:env[i]?=gF (.own (.aY ks ps))):∃a us,b[i]?=gF (gF (.ref a))/\ks.length=us.length/\H a=gF (.dT (kz ks us))/\G a=gK/\H0 a=gK/\aq W G ps us:=by let(o,d,v,rfl,a,us,rfl,n,e,f,g,l):=c.slot i _ h;exact⟨a,us,d,n,e,f,g,l⟩
set_option tactic.hygienic true in
def NQ(S:zv1 X){i:Nat}{kk e:Ci.E}{f p:hI}{B:Pos}(h:N[i]?=gF x)(hv:fK sc x=gS)(ho:okN x=gS)(Y:iH e=gS)(Z:bp Γ N sc kk f=gS)(hk:GE X W F kk f)(he:GE X W F e p):GS X W F H0 E (.put i kk e) (.Assign [.Subscript (.Name x np) f B] p pos):=by
 have EL:swappedStores [.Subscript (.Name x np) f B] p X.env=pure gK:=by cases p<;>rfl
 have ha:∀v,assign (.Subscript (.Name x np) f B) X.env v=(do
  let I<-holding [v] (eval (.Name x np) X.env);let M<-holding [v,I] (eval f X.env)
  standAt B
  holding [v,I,M] (setItem I M v)
  release [v,I,M] []):=by
  intro v;cases f<;>first|rfl|(cases kk<;>first|(exact aP Z)|(rename_i q;cases q<;>exact aP Z))
 refine L2.PS.imp (Gf he (F4 (kD S h hv ho) hk (uU.or set_list (AS (by have:=S.C.room.un;lia))) ha) (by cases p<;>rfl) EL) λD σ H hq=>?_;let(G,env,sr,o):=hq;rw [gO] at o;refine qz S sr o λq v G1 H1 g t K L=>?_;split at L
 .rename_i xs u;let(a,vs,hs,m,O,w,l):=uf K u;refine{.ref a,hs,qz S K L λq2 v2 P H2 d Q s c=>?_};split at c
  .rename_i n;cases r:B9 xs.length n with
   |none=>rw [r] at c;exact c.elim|some j=>rw [r] at c;have R:=d.h.at m (λ_ z=>nomatch z);have y:=d.own a (by rw [m];exact nofun) (by rw [m];exact λ_ z=>nomatch z) O;have T:=aq.same d.g xs l;refine .inl {a,vs,n,j,rfl,Q.top.int,R,by rw [l.length];exact r,?_};let(U,V):=mC (p':=.lst (xs.set j q)) (ob:=.lst (vs.set j v)) s s.go u hs y w {a,_,rfl,av,y,w,T.set j (Rep.same d.g q (t.rep Y))};exact c _ P _ U V
  .exact c.elim
 .rename_i A ps u;let(a,us,hs,n,m,O,w,l):=lR K u;refine{.ref a,hs,qz S K L λq2 v2 P H2 d Q s c=>?_};split at c
  .rename_i kk xU;split at c
   .rename_i B5;have e2:=eW xU;subst e2;let(b,rfl,hb):=Q.top.tupI (ns:=kk) s.sub rfl;have R:=d.h.at m (λ_ z=>nomatch z);have y:=d.own a (by rw [m];exact nofun) (by rw [m];exact λ_ z=>nomatch z) O;have T:=aq.same d.g ps l;refine .inr {a,upd H2 a (.dT (putK (kz A us) (ki kk) v)),rfl,A8.t R (by rw [tY];exact s.sub _ _ hb) (by rw [fY n];exact dB B5 (by decide)),?_};rw [x6 n];let(U,V):=mC (p':=.aY (aZ A kk) (aV A ps kk q)) (ob:=.dT (kz (aZ A kk) (aV A us kk v))) s s.go u hs y w {a,_,rfl,pR n kk v,av,y,w,uo T (Rep.same d.g q (t.rep Y))};exact c _ P _ U V
   .exact c.elim
  .exact c.elim
 .exact L.elim
def Jc(S:zv1 X){i:Nat}{dp:Pos}(h:N[i]?=gF x)(hl:f6 sc x=gS):GS X W F H0 E (.k9 i) (.Assign [.Name x np] (.Dict [] [] dp) pos):=by
 let(d,e,f):=ft S h hl;intro g s c H D I j;have m:i<c.length:=by rw [I.len,S.C.hN];exact(a9.mp h).1
 refine kE d e f FT rfl (.inl (S.fn x)) g s c H D I ?_;let(G,env,a,o):=j;rw [gO] at o;intro p b;let(q,r):=yq (i:=i) (p:=.aY [] []) (ob:=.dT []) a a.go (by rw [a.len];exact m) b {p,[],rfl,rfl,av,a.sub.free b,a.base.free b,.nil};exact o _ G _ q r
def Jg(S:zv1 X)(y:Γ.qt=gU){i:Nat}{e:Ci.E}{p:hI}{gp cp:Pos}(h:N[i]?=gF x)(hl:f6 sc x=gS)(z:gP sc "dict"=gS)(hm:Γ.bs.contains "dict"=gS)(he:GE X W F e p)
 (m:∀env ps,starEach (p::ps) env=(gU,eval p env)::starEach ps env):GS X W F H0 E (.qA i e) (.Assign [.Name x np] (.Call (.Name "dict" gp) [p] [] cp) pos):=by
 let(A,B,L):=ft S h hl;intro M s u H D I O;have P:i<u.length:=by rw [I.len,S.C.hN];exact(a9.mp h).1
 refine kE A B L (d6 (oB (S.C.calm y) (by have:=S.C.room.un;lia)) (dI S.C z) (S.C.bs _ (eG.mp hm)) (by decide+kernel) (bQ he dE (m _ _)) (he:=m _ _) (hpl:=rfl)) rfl (.inl (S.fn x)) M s u H D I ?_;let(G,env,Q,o):=O;rw [gO] at o;refine qz S Q o λq v R H1 g t b d=>?_
 cases f:kO [q] with
 |exc c=>exact absurd f (wg c)|bad=>rw [f] at d;exact d.elim|ok r=>rw [f] at d;let(w,qs,rfl,a,T,U,V,Y,Z,zs,z1,z2,z3):=vw (X:=X) S.C.K b.sub (.cons t.top .nil) f;refine{a,T,U,V,Y,Z,λad j=>?_};rw [z3];let(r2,g2):=yq (i:=i) (p:=.aY w qs) (ob:=.dT (kz w zs)) b b.go (by rw [b.len];exact P) j {ad,zs,rfl,z1,av,b.sub.free j,b.base.free j,z2};exact d _ R _ r2 g2
set_option tactic.hygienic true in
def BW(S:zv1 X){i n:Nat}{y:Str}{zp iD yp e ZC L:Pos}(h:N[i]?=gF x)(hv:fK sc x=gS)(ho:okN x=gS)(hz:N[n]?=gF z)(M:fK sc z=gS)(O:okN z=gS)(hy:N[j]?=gF y)(r:fK sc y=gS)(s:okN y=gS)
 (jz:(e.endLine==L.line)=gS):GS X W F H0 E (.eN i j n) (.Assign [.Subscript (.Name x np) (.Name z zp) iD] (.Call (.Attribute (.Name y yp) "pop" e) [.Name z ZC] [] L) pos):=by
 have P:X.A.units+1<cLine:=by have:=S.C.room.un;lia
 refine L2.PS.imp (Gf (Kg P (kD S hy r s) (kD S hz M O) ⟨rfl,rfl,jz,rfl⟩) (F4 (kD S h hv ho) (kD S hz M O) (AS P) λ_=>rfl) (by unfold swapsWithSole;exact nZ rfl) rfl) λD σ H hq=>?_;let(G,env,g,o):=hq;rw [gO] at o;split at o
 .rename_i f ps d m kp Q e2 e3;split at o
  .rename_i c xU;split at o
   .rename_i p hp;split at o
    .rename_i R;have ek:=eW xU;subst ek;let(a,us,hs,T,U,V,Y,l):=lR g Q;let(ok,q,v,rfl,rv):=g.slot n _ e3;let(b,rfl,Z):=uq rv;let(w,hw,kw):=n6 l hp;refine{.ref a,hs,a,rfl,.inr {_,.inl U},.ref b,q,_,ki c,b,w,U,rfl,(by rw [tY];exact g.sub _ _ Z),(by rw [km];exact hw),?_};rw [Ak c T];let(u,g1):=mC (p':=.aY (cF f c) (bq f ps c)) (ob:=.dT (kz (cF f c) (bq f us c))) g g.go Q hs V Y {a,_,rfl,vz c T,av,V,Y,oM l};have Yt:(env.set j (.own (.aY (cF f c) (bq f ps c))))[i]?=gF (.own (.aY d m)):=by rw [c4 (Ne.symm R.2)];exact e2
     let(B,I,Aa,K,k1,k2,k3,l2):=lR u Yt;refine{.ref B,Aa,.ref b,q,B,_,rfl,A8.t k1 (by rw [tY];exact u.sub _ _ Z) (by rw [fY K];exact dB R.1 (by decide)),?_};rw [x6 K];let(r2,g2):=mC (p':=.aY (aZ d c) (aV d m c p)) (ob:=.dT (kz (aZ d c) (aV d I c w))) u g1 Yt Aa k2 k3 {B,_,rfl,pR K c w,av,k2,k3,uo l2 kw};exact o _ G _ r2 g2
    .exact o.elim
   .exact o.elim
  .exact o.elim
 .exact o.elim
end
end Ci
namespace L2
open PySem.Spec PyProof.Rows
end L2
namespace Ci
open L2
theorem sH:∀(cs:List Int) (all:List Int) (j b:Nat) (m:Int),all.drop j=cs->all[b]?=gF m->b<j->(∀i c,all[i]?=gF c->i<j->m<=c/\(i<b->m<c))->
 ∃a,all[fV cs j b m]?=gF a/\∀i c,all[i]?=gF c->a<=c/\(i<fV cs j b m->a<c)
 |[],all,j,b,m,hd,d,_,best=>by unfold fV;have hl:all.length<=j:=List.drop_eq_nil_iff.mp hd;exact{m,d,λi c e=>best i c e (dB (a9.mp e).1 hl)}|x::cs,all,j,b,m,hd,d,k,best=>by
  have f:all[j]?=gF x:=by rw [<-List.head?_drop,hd];rfl
  have g:all.drop (j+1)=cs:=by rw [<-List.drop_drop,hd];rfl
  unfold fV;split
  .rename_i o;refine sH cs all (j+1) j x g f (by lia) λi c e p=>?_;by_cases h:i=j
   .subst h;rw [f] at e;cases e;exact{Int.le_refl _,λz=>absurd z (Nat.lt_irrefl _)}
   .have:=best i c e (by lia);exact{by lia,λZ=>by lia}
  .rename_i o;refine sH cs all (j+1) b m g d (by lia) λi c e p=>?_;by_cases h:i=j
   .subst h;rw [f] at e;cases e;exact{by lia,λz=>by lia}
   .exact best i c e (by lia)
def HR{cs:List Int}{x:Nat}(h:DH cs=gF x):∃m,cs[x]?=gF m/\∀i c,cs[i]?=gF c->m<=c/\(i<x->m<c):=by
 cases cs with
 |nil=>cases h
 |cons c cs=>
  cases h;refine sH cs (c::cs) 1 0 c rfl rfl (by lia) λi d e a=>?_;have:i=0:=by lia
  subst this;cases e;exact{Int.le_refl _,λz=>absurd z (Nat.not_lt_zero _)}
theorem rA{W:Wd}{K:zz8}(hK:W.K=K)(b:aB G H):∀{ps:List PV} {us:List V} {cs:List Int},j6 ps=gF cs->aq W G ps us->cs.length=ps.length/\∀(i:Nat) v,us[i]?=gF v->∃q r,v=V.ref q/\gf K H q (.int (cs.getD i 0)::r)
 |[],_,_,e,l=>by cases e;simp! [aq] at l;subst l;exact{rfl,λi v h=>by simp at h}
 |p::ps,us,cs,e,l=>by
  let(u,s,rfl,h1,g):=l.bU;unfold j6 at e;split at e
  .rename_i a;cases a
  .rename_i a;cases a;let(r,j,rfl):=b0.mp e;let(k,m):=rA hK b j g;refine{by simp [k],λi v c=>?_}
   cases i with
   |zero=>cases c;simp! [Rep] at h1;let(q,ws,rfl,o,d):=h1;let(w,wr,rfl,f,d):=d.bU;simp! [Rep] at f;subst f;exact{q,wr,rfl,by rw [<-hK];simpa using aB.tup b o.sq}
   |succ i=>simpa using m i v (zx6 c)
  .cases e
section
variable{Γ:Pg}{W:Wd}{F:aL}{sc:hZ}{k:Nat}{E:XK}
set_option tactic.hygienic true in
def Jf(S:zv1 X)(zZ:Γ.qt=gU){m i:Nat}{y:Str}{h:i2}{g:hZ}{yp q1 q2 q3 q4 q5:Pos}(h1:N[m]?=gF y)(h2:f6 sc y=gS)(h3:N[i]?=gF x)(h4:sc.names.lookup x=gF .cell)(h5:gP sc "min"=gS)(h6:Γ.bs.contains "min"=gS)(h7:Γ.hl=gS)
 (h8:Aj x h body g=gS):GS X W F H0 E (.ni m i) (.Assign [.Name y yp] (.Call (.Name "min" q1) [.Name x q2] [{gF "key",.Lambda h body g q3,q4}] q5) pos):=by
 let(a1,a2,a3):=ft S h1 h2;let(p,ep,L,V,Y):=E4 h8
 have pe:PE X (.Call (.Name "min" q1) [.Name x q2] [{gF "key",.Lambda h body g q3,q4}] q5) (λU H Q=>∃G env B ps cs A R,SR W H0 env U G H/\env[i]?=gF (.own (.aY B ps))/\j6 ps=gF cs/\DH cs=gF A/\B[A]?=gF R/\∀v G' H',aE W G H G' H'->Rep W G' (af R) v->Q v H'):=by
  intro ae s U H Q I hq;let(G,env,B,ps,cs,A,R,O,e1,e2,e3,e4,q):=hq;let(d,us,hs,n,k1,k2,k3,l):=lR O e1;let(c,fB):=I.ok.has x (.inl (by show X.env.scope.names.lookup x=_;rw [S.C.fH];exact h4))
  have EB:closureFor g X.env=pure [(x,c)]:=by
   rw [j3 λy hy hf=>?_]
   .show pure (cj X.env (bH g))=_;rw [V];simp [cj,fB]
   .have:y.1∈bH g:=by
     unfold bH;rw [List.mem_reverse,fm];exact{y,List.mem_filter.mpr {hy,by rw [hf];rfl},rfl}
    rw [V] at this;rw [eo.mp this];exact⟨c,fB⟩
  refine wpAny_Call_Name_kw (fZ I (dI S.C h5) (S.C.bs _ (eG.mp h6)) (u:=.builtin "min") (by decide+kernel) ?_);refine PyProof.Rows.callWith_kw ?_;refine Calls.spliced_cons (cm (f7 (i:=i) (by rw [S.C.hN];exact h3) (.inr (.inl (by show X.env.scope.names.lookup x=_;rw [S.C.fH];exact h4))) (dn Y).1 (dn Y).2.1 ae s U H (λv' H1=>v'=.ref d/\H1=H) I {_,hs,rfl,rfl}) λu s1 hu=>Calls.spliced_nil ?_);let(v',H1,I1,ru,rfl,rfl):=hu;cases ru;refine PyProof.Rows.kws_cons (cm (FX S.C h7 ep EB ae s1 U H1 (λv2 H2=>∃f G2,v2=.ref f/\sy X W h body g [(x,c)] G H1 G2 H2 f) I1 {G,O.sub,O.tab,λf G2 H2 lm=>⟨f,G2,rfl,lm⟩}) λu s2 hu=>PyProof.Rows.kws_nil ?_);let(v2,H2,I2,ru,f,G2,rfl,g2,c',oc,dM,t,gN,pm,fo,co,cd,cn):=hu;cases ru;have Z:=O.grow g2;let(d',T,B6,n',k1',k2',k3',l'):=lR Z e1;rw [hs] at B6;cases B6;let(cl1,cl2):=rA (K:=X.K) S.C.K Z.sub e2 l'
  have M:KM X U H2 k d f (kz B T) (λi=>cs.getD i 0):=by
   refine{S.C.room,I.ok.hd (S.C.calm zZ),k1',{p,x,h,body,g,_,c,c',oc,dM,t,pm,gN,i,L,fB,I.ok.LA x c (S.C.fl h7 x) fB,Z.sub _ _ fo,Z.sub _ _ co,cd,cn,λu=>ze ep [u] rfl,by rw [S.C.hN];exact h3,hs,by rw [S.C.fH];exact h4},λj kx v e=>?_};have:T[j]?=gF v:=by unfold kz at e;rw [List.getElem?_zip_eq_some] at e;exact e.2
   exact cl2 j v this
  let(mm,Oa,Ob):=HR e3;have V8:A<B.length:=(a9.mp e4).1;have aaa:cs.length=B.length:=by rw [cl1,<-l'.length,n']
  refine Bp M (by rw [fY n'];lia) I2 λj kx v b e hb P=>?_;rw [fY n'] at P;have hj:j<B.length:=by have:=(a9.mp e).1;rw [fY n'] at this;exact this
  have ej:j=A:=by
   have ca:∀a,a<cs.length->cs[a]?=gF (cs.getD a 0):=λa ha=>by simp [ha]
   have b1:=P A V8;have b2:=Ob j _ (ca j (by lia));have em:mm=cs.getD A 0:=by rw [ca A (by lia)] at Oa;exact(zzq Oa).symm
   rw [em] at b2;rcases Nat.lt_trichotomy j A with z|z|z
   .have:=b2.2 z;have:=b1.1;lia
   .exact z
   .have:=b1.2 z;have:=b2.1;lia
  subst ej;have ek:kx=ki R:=by have:=congrArg (λl=>l[j]?) (nO (us:=T) n');simp! [cS,e,e4,Option.map_some] at this;exact zzq this
  rw [ek,tY] at hb;let(G3,g3,l3):=jc (W:=W) (vs:=[.ref b]) (nss:=[R]) Z.sub (.cons ⟨b,rfl,hb⟩ .nil);let(w,r,ew,hw,_):=l3.bU;cases ew;exact q _ _ _ (g2.trans g3) hw
 refine L2.PS.imp (kE a1 a2 a3 pe rfl (.inl (S.fn y))) λD U H hq=>?_;let(G,env,O,o):=hq;rw [gO] at o;split at o
 .rename_i B ps hx;split at o
  .rename_i cs B1;split at o
   .rename_i R xU;let(A,LU,hk2):=dV.mp xU;exact{G,env,B,ps,cs,A,R,O,hx,B1,LU,hk2,λv G' H' g' rp=>o _ G' _ ((O.grow g').set m rp) (O.on g')}
   .exact o.elim
  .exact o.elim
 .exact o.elim
def jY(X:Cx)(E:XK)(b:St):Prop:=∀(c:ke) (H:Hp) (s:hD) (e:hB) (a:hD),Inv X c b H s->eP X.prog X.w X.stack H s E e a->X.xe e a
theorem Ku{j:St}(S:jY X E j){c:Str}{m:Hp}(g:aE W m H0 G H)(h:∀d o f,XE W c m H0 d o f->E d o f):uV X W j c G H:=λq Q r s e u I w x=>S q r s e u I (Dy.imp x λd a f y=>h d a f (by let(C,A,B,D,K,L,M,O):=y;have b:=w.trans O;exact{C,A,B,D,K,L,M,g.g.trans b.g,g.h.trans b.h,b.sub,λx i p P=>b.own x (λz=>i (g.h.free z)) (g.h.wc i p) (g.own x i p P),λt=>b.tab (g.tab t)}))
def cb.DR{d:Type}{b:St}(S:jY X E b){r:Res d}{f:d->Res Fl}(e:SR W H0 env b G H)(h:cb W H0 G E (r.bind f) D):Out X W r b G H λa=>cb W H0 G E (f a) D:=by
 cases r with
 |ok a=>exact h|exc c=>exact Ku S e.go h|bad=>exact h
def oneAt{c:St}(S:jY X E c){e:Ci.E}{f:PV->Res Fl}(d:SR W H0 env c G H)(o:cb W H0 G E ((aJ F e env).bind f) D)
 (h:∀p v a b,aE W G H a b->Got W H0 a b e p v->SR W H0 env c a b->cb W H0 a E (f p) D->Q v b):tE X W F e c H Q:=
 {H0,G,env,d,(o.DR S d).imp λp i v a b g t=>h p v a b g t (d.grow g) (i.on (d.on g))}
def OU{g:St}(S:jY X E g){e:Ci.E}{f:Bool->Res Fl}{Q:Bool->Hp->Prop}(i:SR W H0 env g G H)(o:cb W H0 G E ((aJ F e env).bind λp=>ny p f) D)
 (h:∀b c d,aE W G H c d->SR W H0 env g c d->cb W H0 c E (f b) D->Q b d):tT X W F e g H Q:=by
 refine{H0,G,env,i,(o.DR S i).imp λp a=>?_}
 cases p with
 |bl b=>exact{b,rfl,λc d j=>h b c d j (i.grow j) (cb.on a (i.on j))}|aC=>exact eu a|int _=>exact eu a|str _=>exact eu a|tup _=>exact eu a|lst _=>exact eu a|exc _=>exact eu a|aY _ _=>exact eu a
def Eb{s:Ci.S}:aD F (.cons s .nil) env=gO F s env:=by
 rw [aD];cases gO F s env with
 |ok f=>
  cases f with
  |nx e=>show aD F .nil e=_;rw [aD]|bk e=>rfl|ct e=>rfl|rt p=>rfl
 |exc c=>rfl|bad=>rfl
def JN{e:Ci.E}{p:hI}(h:bp Γ N sc e p=gS)(a:gZ e=gU):pJ p=gS:=by
 cases p<;>first|rfl|(cases e<;>first|(exact aP h)|(rename_i q;cases q<;>exact aP h)|(cases a;done))
noncomputable abbrev Yb(a:St)(t:TS):TS:=λD b H=>b=a/\t D b H
set_option tactic.hygienic true
mutual
theorem tb1{m:St}(C:zv3 X)(fn:∀x,X.fn x=gS)(r:jY X E m):∀(s:Ci.S) (p:ig),DY Γ N sc s p=gS->PS X p (Yb m (tS W F H0 E s))
 |.set i e,p,h=>by
  cases p<;>first|(exact aP h)|skip
  replace h:=aj h;simp! [zza,zzy,Bool.not_eq_true'] at h;let(x,L,(((y,z),A),B),I):=h;let(O,rfl):=kq L;refine L2.PS.imp (kE (by rw [C.hN];exact C.nd) (by rw [C.hN];exact y) (yb C.fH z) (bE e C _ I).ge (nZ (JN I B)) (.inl (fn x))) λD K H q=>?_;let(rfl,G,env,u,o):=q;rw [gO] at o;exact oneAt r u o λq v j w g t f d=>d _ j w (f.set i (t.rep A)) f.go
 |.ret e,p,h=>by
  cases p<;>first|(exact aP h)|skip
  rename_i v M;cases v with
  |none=>exact aP h|some v=>replace h:=az h;refine L2.PS.imp (Gi (bE e C v h.2).ge) λD K H q=>?_;let(rfl,G,env,u,o):=q;rw [gO] at o;exact oneAt r u o λq v j w g t f d=>d v j w (t.rep h.1) f.go
 |.ite c a b,p,h=>by
  cases p<;>first|(exact aP h)|skip
  replace h:=az h;simp! [zza] at h;let(((y,z),A),B):=h;refine L2.PS.imp (Mc ((bE c C _ z).gt y) (Xq C fn r a _ A) (Xq C fn r b _ B)) λD K H q=>?_;let(rfl,G,env,u,o):=q;rw [gO] at o;refine OU r u o λt j w g f d=>?_
  cases t with
  |true=>rw [if_pos rfl] at d⊢;exact⟨rfl,j,env,f,d⟩|false=>rw [if_neg zzf] at d⊢;exact⟨rfl,j,env,f,d⟩
 |.expr _,_,h=>aP h|.own _ _,_,h=>aP h|.bC _,_,h=>aP h|.app _ _,_,h=>aP h|.qq _ _,_,h=>aP h|.put _ _ _,_,h=>aP h|.cX _ _ _,_,h=>aP h|.Df _ _,_,h=>aP h|.raise _ _,_,h=>aP h|.w8 _ _ _ _,_,h=>aP h|.brk,_,h=>aP h|.k9 _,_,h=>aP h|.qA _ _,_,h=>aP h|.eN _ _ _,_,h=>aP h|.ni _ _,_,h=>aP h
theorem Xq{a:St}(C:zv3 X)(fn:∀x,X.fn x=gS)(c:jY X E a):∀(b:Ss) (ps:List ig),HW Γ N sc b ps=gS->uM X ps (Yb a (Xo W F H0 E b))
 |.nil,ps,h=>aP h|.cons s (.cons _ _),ps,h=>aP h|.cons s .nil,ps,h=>by
  match ps,h with
  |[],h=>exact aP h|_::_::_,h=>exact aP h|[p],h=>have h:DY Γ N sc s p=gS:=h;refine L2.uM.imp (AH (tb1 C fn c s p h)) λD f H q=>?_;let(e,G,env,d,o):=q;rw [Eb] at o;exact⟨e,G,env,d,o⟩
end
set_option tactic.hygienic false
def dO.with1(C:zv3 X)(pn:ke)(xe:kd):dO Γ F W N sc k (X.with1 pn xe):=
 {C.hN,C.fH,C.calm,C.nd,C.K,C.mg,C.gs,C.bs,C.room,λf h=>{(C.fns f h).ex},C.QE,C.cls,C.xc,λq h=>{(C.vL q h).ex},λf h=>{(C.UZ f h).1,{(C.UZ f h).2.ex}},C.any,C.tb,C.bm,C.fl}
def SR.vals{f:St}{m t:Hp}(r:SR W H0 env f G H)(b:env.any Slot.mW=gU)(g:aE W G H0 m t):SR W H0 env f m t:=by
 have no:∀(i:Nat) (p:PV),env[i]?≠gF (.own p):=λi p e=>by have:env.any Slot.mW=gS:=et.mpr {_,a0 e,rfl};rw [this] at b;cases b
 have c:∀(i:Nat) (p:List (Int×Int)),env[i]?≠gF (.Dl p):=λi p e=>by have:env.any Slot.mW=gS:=et.mpr {_,a0 e,rfl};rw [this] at b;cases b
 refine{r.len,g.sub,g.h,λi s e=>?_,λi j p q a e=>absurd e (no i p),g.tab r.lY,r.lY.same g.g g.own λZ Z h=>h};let(o,w,u):=r.slot i s e
 refine{o,w,?_};cases s with
 |no=>exact trivial|val q=>let(v,rfl,d):=u;exact{v,rfl,Rep.same g.g q d}|own q=>exact absurd e (no i q)|Dl q=>exact absurd e (c i q)|fn _ _ _=>let(v,rfl,d):=u;exact{v,rfl,d.same g.g}
def SR.drop{m:St}(i:Nat)(r:SR W H0 env m G H):SR W H0 (env.set i .no) (m.set i gK) G H where
 len:=zx6 r.len
 sub:=r.sub
 tab:=r.tab
 lY:=r.lY
 base:=r.base
 slot:=λj s e=>by
  by_cases f:i=j
  .subst f;have d:i<env.length:=by
    have:=(a9.mp e).1;simpa using this
   rw [eH d] at e;cases e;exact{gK,eH (by rw [<-r.len];exact d),trivial}
  .rw [c4 f] at e;let(o,u,w):=r.slot j s e;exact{o,by rw [c4 f];exact u,w}
 apart:=λa b q y A g h p t=>by
  have ne:∀{c:Nat} {q:PV},(env.set i .no)[c]?=gF (.own q)->i≠c:=λ{c q} e z=>by
   subst z;have d:i<env.length:=by have:=(a9.mp e).1;simpa using this
   rw [eH d] at e;cases e
  have B:=ne g;have C:=ne h;rw [c4 B] at g p;rw [c4 C] at h t;exact r.apart a b q y A g h p t
def aB.put{c:Hp}{o:HO}(h:aB G c)(d:G a=gK):aB G (upd c a o):=λb u e=>by rw [ah (λz=>by subst z;rw [d] at e;cases e)];exact h b u e
set_option tactic.hygienic true in
def NT(S:zv1 X)(b:Ss)(c:Str)(i j:Nat)(p:ig)(h:fu Γ N sc (.w8 b c i j) p=gS):GS X W F H0 E (.w8 b c i j) p:=by
 cases p<;>first|(exact aP h)|skip
 rename_i pb hs o1 o2 pos;replace h:=az h;simp! [zza,Option.any_eq_true,zzy] at h;let(((z1,z2),hb),(x,n,y),hh,((((((((e1,e2),e3),e4),e5),e6),e7),e8),e9),Ut):=h;cases List.isEmpty_iff.mp z1;cases List.isEmpty_iff.mp z2;let(np,yp,n2p,ap,hpos,rfl):=N5 hh;dsimp only at e1 e2 e3 e4 e5 e6 e7 e8 e9 Ut;subst e1;subst e3;have B1:Γ.cs.contains (zu 12)=gS:=e2;let(Dc,hm):=S.C.cls _ (eG.mp B1);have hN:X.N.Nodup:=by rw [S.C.hN];exact S.C.nd
 have R:X.N[i]?=gF n:=by rw [S.C.hN];exact e6
 have hj:X.N[j]?=gF y:=by rw [S.C.hN];exact e9
 have T:X.env.scope.names.lookup n=gF .local:=by rw [S.C.fH];exact e7
 have YV:X.env.scope.names.lookup y=gF .local:=by rw [S.C.fH];exact Ut
 intro P s σ H D I hq;let(G,env,sr,o):=hq
 rw [gO] at o;cases hn:env.any Slot.mW with
 |true=>rw [if_pos hn] at o;exact o.elim|false=>
 rw [if_neg (by rw [hn];exact zzf)] at o;let E1:XK:=λCv ao m=>∃d,aD F b env=.exc d/\XE W d G H0 Cv ao m;let xe:kd:=λe s'=>∃H1 M,Inv X P σ H1 M/\eP X.prog X.w X.stack H1 M E1 e s';have hP:jY (X.with1 (X.pn++P) xe) E1 σ:=λlU H1 M e s' I1 c=>{H1,M,I1.md I.ok,c}
 have ob:cb W H0 G E1 (aD F b env) D:=by
  cases r:aD F b env with
  |ok f=>rw [r] at o;exact o|exc d=>exact λCv ao m x=>⟨d,r,x⟩|bad=>rw [r] at o;exact o
 refine wpAny_Try_except (wpAny_mono (Xq (H0:=H0) (S.C.with1 (X.pn++P) xe) S.fn hP b pb hb [] s σ H D I.with1 ⟨rfl,G,env,sr,ob⟩) (λf M O=>?_) λe M hx=>?_)
 .cases f with
  |next=>let(A,m,U,q):=O;exact AG P M A m D (U.md I.ok) q|brk=>let(A,m,U,q):=O;exact{A,m,U.md I.ok,q}|cont=>let(A,m,U,q):=O;exact{A,m,U.md I.ok,q}|ret u=>let(v,A,m,U,r,q):=O;exact{v,A,m,U.md I.ok,r,q}
 .let(H1,s2,I1,a,C,t,vs,m,B,rfl,Fy):=hx;have HB:=Fy.BQ;rw [S.G8] at HB;refine wpAny_looks_onW (by rw [<-S.G8];exact I1.ok.frames) S.frame HB λh4 RX Zi=>?_;refine wpAny_landsW RX λh5 LS Zj=>?_;have VP:=LS;rw [<-S.G8] at VP;have I5:=I1.DW (tk:=M.toks) Fy VP (Zi.trans Zj);let(oa,va,ea,ca,da,_):=VP.first;let(d,ed,C',a',G',q1,q2,hdx,hdm,Q):=Fy.ends;cases q1;cases q2;have hx:PySem.W.exmOne X.K (.ref C) (.ref Dc)=gF gS:=S.Ry B1 d C hdx (by rw [<-S.C.mg];exact hdm) Dc hm;refine wpAny_handleBy_cons (codeAny_handlers_test (ie (X:=X.marked a (X.pn++P)) I5.mark (dI S.C e4) hm ?_ (dn e5).1)) (by intro q;cases q);have LT:PySem.W.Looks (hV X.prog X.w) h5 (typeOf (.ref a)) (.ref C):=by rw [<-ca];exact(PySem.W.Looks.ld ea).andThen .now
  refine PySem.W.exm_one (K:=X.K) I5.rN LT hx _ _ _ _ (λ_ _ e=>e) ?_;refine codeAny_handlers_suite_as ?_;refine PyProof.Rows.lands_againW LS λh6 YA sm6=>?_;rw [<-S.G8] at YA;have I6:=I1.DW (tk:=M.toks) Fy YA ((Zi.trans Zj).trans sm6);have ha:m a=gK:=Fy.fresh;have LQ:G' a=gK:=Q.sub.free ha;have BY:H0 a=gK:=Q.h.free ha;have hG:G a=gK:=Q.g.free LQ
  have YD:aE W G H0 (upd G' a (lB a C)) (upd m a (lB a C)):={aB.put Q.g hG,Q.h.upd BY,(λq u e=>by
   by_cases hq:q=a
   .subst hq;rw [av] at e⊢;exact e
   .rw [ah hq] at e⊢;exact Q.sub q u e),(λq w1 w3 w2=>by
   rw [ah (λz=>by subst z;exact w1 BY)];exact Q.own q w1 w3 w2),λtt=>(Q.tab tt).same (bD LQ) (λq w1 _ w2=>by
   rw [ah (λz=>by subst z;exact w1 ha)];exact w2) (n5 (λps z=>by rw [ha] at z;cases z))}
  have rp:Rep W (upd G' a (lB a C)) (.exc d) (.ref a):=by simp! [Rep];exact⟨a,C,rfl,hdx,hdm,av⟩
  have fk:SR W H0 ((env.set j (.val (.exc d))).set i .no) (((σ.set i (gF (.ref a))).set j (gF (.ref a))).set i gK) (upd G' a (lB a C)) (upd m a (lB a C)):=by
   have z:=(((sr.vals hn YD).set i rp).set j rp).drop i
   have eq:((env.set i (.val (.exc d))).set j (.val (.exc d))).set i .no=(env.set j (.val (.exc d))).set i .no:=by
    by_cases xh:i=j
    .subst xh;rw [List.set_set]
    .rw [List.set_comm _ _ xh,List.set_set]
   rw [eq] at z;exact z
  have fin:D.nx (((σ.set i (gF (.ref a))).set j (gF (.ref a))).set i gK) (upd m a (lB a C)):=by rw [ed] at o;exact o _ _ _ fk YD
  have xT:i<σ.length:=by rw [I1.len];exact(a9.mp R).1
  refine qc (X:=X.marked a (X.pn++P)) (i:=i) (v:=.ref a) I6.mark hN R (.inl T) rfl (λs7 I7=>?_) (.inr T);have hs:uM (X.marked a (X.pn++P)) [.Assign [.Name y yp] (.Name n n2p) ap] (Hb (C7 i) (iw j)):=AH (kE (X:=X.marked a (X.pn++P)) hN hj (.inl YV) (f7 R (.inl T) (dn e8).1 (dn e8).2.1) rfl (.inr YV));refine wpAny_mono (hs [] s7 _ _ {nx:=λL V=>D.nx (L.set i gK) V,rt:=λv V=>D.rt v V,bk:=λL V=>D.bk (L.set i gK) V,ct:=λL V=>D.ct (L.set i gK) V} I7 ?hq) (λf s8 O=>?_) λ_ _ z=>z.elim
  case hq=>exact{.ref a,eH xT,fin}
  cases f with
  |next=>let(Y,Z,I8,q8):=O;exact nD (I8.unmark I.ok) hN R T λs9 I9=>{_,Z,I9,q8}|brk=>let(Y,Z,I8,q8):=O;exact nD (I8.unmark I.ok) hN R T λs9 I9=>{_,Z,I9,q8}|cont=>let(Y,Z,I8,q8):=O;exact nD (I8.unmark I.ok) hN R T λs9 I9=>{_,Z,I9,q8}|ret u=>let(v,Y,Z,I8,r8,q8):=O;exact nD (I8.unmark I.ok) hN R T λs9 I9=>{v,_,Z,I9,r8,q8}
end
section
variable{Γ:Pg}{W:Wd}{F:aL}{sc:hZ}{k:Nat}{E:XK}
def vF{e:Ci.E}(h:gZ e=gS):∀env q,aJ F e env=.ok q->∃xs,q=.lst xs:=by
 cases e<;>first|(exact aP h)|exact lst_is|exact zo|exact rk
def qV(S:zv1 X){i:Nat}{I:Pos}(t:N[i]?=gF x)(u:f6 sc x=gS)(e:Ci.E)(p:hI)(K:gZ e=gS)(h:bp Γ N sc e p=gS):PS X (.Assign [.Name x I] p pos) (QH X W F i e):=by
 cases e with
 |lst as=>let(ps,e,b):=aj h;let(_,rfl):=Fh e;have a:=az b;have s:=az a.1;exact uj S t u (Er s.1 (zzY s.2) (m6 as S.C _ a.2)) rfl|comp L M O it elt=>let(w,h):=pN h;let(y,j,f,_,rfl,b):=UR h;let((z,A,B,D),m,a):=js b;have d:=az a;have o:=Fx d.1;dsimp only at m o;subst m o;clear h b a;have h:=az d.2;clear d;simp! [zza] at h;let((((((b,a),d),q),G),H),g):=h;have g:=zzY g;subst g;exact DJ S w t u (k7 b) a d (GD it S.C z A q) (lC q _) G λY r=>(bE elt r y H).ge|bJ L M O it c elt=>let(w,h):=pN h;let(y,j,f,_,rfl,b):=UR h;let((z,A,B,D),m,a):=js b;let(P,o,d):=js a;dsimp only at m o;subst m o;clear h b a;have h:=az d;clear d;simp! [zza] at h;let((((((((s,b),a),d),q),G),H),Q),g):=h;have g:=zzY g;subst g;exact xA S w t u (k7 b) a d (GD it S.C z A q) (lC q _) G (λY r=>(bE c r P H).gt s) λY r=>(bE elt r y Q).ge|_=>exact aP K
def Cs{e:Ci.E}{p:hI}(h:bp Γ N sc e p=gS)(a:gZ e=gU):pJ p=gS:=by
 cases p<;>first|rfl|(cases e<;>first|(exact aP h)|(rename_i q;cases q<;>exact aP h)|(cases a;done))
def BX(S:zv1 X){i:Nat}{e:Ci.E}{p:hI}{c:Pos}(h:N[i]?=gF x)(hl:f6 sc x=gS)(b:iH e=gS)(a:bp Γ N sc e p=gS):GS X W F H0 E (.set i e) (.Assign [.Name x c] p pos):=by
 cases hf:gZ e with
 |true=>exact Ji S (vF hf) b (qV S h hl e p hf a)|false=>exact NS S h hl b (bE e S.C p a).ge (nZ (Cs a hf))
def GH(S:zv1 X)(e:Ci.E)(p:ig)(h:fu Γ N sc (.expr e) p=gS):GS X W F H0 E (.expr e) p:=by
 cases p<;>first|(exact aP h)|skip
 replace h:=az h
 try simp! [zza] at h
 exact Jd S (bE e S.C _ h.2).ge h.1
def AY(S:zv1 X)(i:Nat)(e:Ci.E)(p:ig)(h:fu Γ N sc (.set i e) p=gS):GS X W F H0 E (.set i e) p:=by
 cases p<;>first|(exact aP h)|skip
 replace h:=aj h;simp! [Option.any_eq_true,zza,zzy] at h;let(x,b,a):=h;let(c,rfl):=kq b;exact BX S a.1.1.1 a.1.1.2 a.1.2 a.2
def KS(S:zv1 X)(i:Nat)(e:Ci.E)(p:ig)(h:fu Γ N sc (.own i e) p=gS):GS X W F H0 E (.own i e) p:=by
 cases p<;>first|(exact aP h)|skip
 replace h:=aj h;simp! [Option.any_eq_true,zza,zzy] at h;let(x,a,h):=h;let(b,rfl):=kq a;exact Jh S h.1.1.1 (vF h.1.2) (qV S h.1.1.1 h.1.1.2 e _ h.1.2 h.2)
def KR(S:zv1 X)(i:Nat)(p:ig)(h:fu Γ N sc (.bC i) p=gS):GS X W F H0 E (.bC i) p:=by cases p<;>exact aP h
def KP(S:zv1 X)(i:Nat)(e:Ci.E)(p:ig)(h:fu Γ N sc (.app i e) p=gS):GS X W F H0 E (.app i e) p:=by
 cases p<;>first|(exact aP h)|skip
 replace h:=aj h;simp! [Option.any_eq_true,zza,zzy] at h;let((x,m,args),c,((((d,f),g),j),o),q,r,a):=h;let(np,b,s,rfl,hl):=yg c;cases dz r;cases j;exact NN S d f g hl o (bE e S.C q a).ge (notStar a)
def GJ(S:zv1 X)(i:Nat)(e:Ci.E)(p:ig)(h:fu Γ N sc (.qq i e) p=gS):GS X W F H0 E (.qq i e) p:=by
 cases p<;>first|(exact aP h)|skip
 replace h:=aj h;simp! [Option.any_eq_true,zza,zzy] at h;let((x,m,args),c,(((d,f),g),j),q,o,a):=h;let(np,b,r,rfl,hl):=yg c;cases dz o;cases j;exact Je S d f g hl (bE e S.C q a).ge (notStar a)
def KU(S:zv1 X)(i:Nat)(kk e:Ci.E)(p:ig)(h:fu Γ N sc (.put i kk e) p=gS):GS X W F H0 E (.put i kk e) p:=by
 cases p<;>first|(exact aP h)|skip
 replace h:=aj h;simp! [Option.any_eq_true,zza,zzy] at h;let((x,b),c,((((d,f),g),j),a),m):=h;let(np,sp,rfl):=Gv c;exact NQ S d f g j a (bE kk S.C b a).ge (bE e S.C _ m).ge
set_option tactic.hygienic true in
def GG(S:zv1 X)(i:Nat)(p:ig)(h:fu Γ N sc (.k9 i) p=gS):GS X W F H0 E (.k9 i) p:=by
 cases p<;>first|(exact aP h)|skip
 rename_i ts v a;cases v<;>first|(exact aP h)|skip
 rename_i b c dp;cases b<;>first|(exact aP h)|skip
 cases c<;>first|(exact aP h)|skip
 replace h:=aj h;simp! [Option.any_eq_true,zza,zzy] at h;let(x,d,e,f):=h;let(g,rfl):=kq d;exact Jc S e f
def GL(S:zv1 X)(c:Γ.qt=gU)(i:Nat)(e:Ci.E)(p:ig)(h:fu Γ N sc (.qA i e) p=gS):GS X W F H0 E (.qA i e) p:=by
 cases p<;>first|(exact aP h)|skip
 let(x,d,f):=aj h;let(g,as,_,_,rfl,j):=Dk f;let(q,rfl,a):=js j;let(t,rfl):=kq d;simp! [zza,zzy] at a;let(((((rfl,m),o),r),s),b):=a;exact Jg S c r s m o (bE e S.C q b).ge (notStar b)
def yA(S:zv1 X)(i j n:Nat)(p:ig)(h:fu Γ N sc (.eN i j n) p=gS):GS X W F H0 E (.eN i j n) p:=by
 cases p<;>first|(exact aP h)|skip
 replace h:=aj h;simp! [Option.any_eq_true,zza,zzy] at h;let((x,G),g,z,o,(((((q,r),s),t),u),w),(y,m,args),A,B,e,C,H,a,((D,b),c),d):=h;let(np,sp,rfl):=Gv g;let(I,rfl):=b9 o;let(K,f,L,rfl,hl):=yg A;cases B;cases dz C;let(M,rfl):=b9 a;subst D;exact BW S q r s t u w b c d hl
def GK(S:zv1 X)(a:Γ.qt=gU)(m i:Nat)(p:ig)(h:fu Γ N sc (.ni m i) p=gS):GS X W F H0 E (.ni m i) p:=by
 cases p<;>first|(exact aP h)|skip
 replace h:=aj h;simp! [Option.any_eq_true,zza,zzy] at h;let(y,b,c,d,((((((e,f),g),j),o),q),r),s):=h;let(t,rfl):=kq b;let(u,w,z,A,B,rfl):=OL d;exact Jf S a e f g j o q r s
set_option tactic.hygienic true in
def AX(S:zv1 X)(e:Ci.E)(p:ig)(h:fu Γ N sc (.ret e) p=gS):GS X W F H0 E (.ret e) p:=by
 cases p<;>first|(exact aP h)|skip
 rename_i v a;cases v with
 |none=>exact aP h|some v=>
  replace h:=az h
  try simp! [zza] at h
  exact NR S h.1 (bE e S.C v h.2).ge
set_option tactic.hygienic true in
def CZ(S:zv1 X)(a:Γ.qt=gU)(c m:Str)(p:ig)(h:fu Γ N sc (.raise c m) p=gS):GS X W F H0 E (.raise c m) p:=by
 cases p<;>first|(exact aP h)|skip
 replace h:=az h;simp! [Option.any_eq_true,zza,zzy] at h;let(b,(x,z),d,(((e,f),g),i),o):=h;let(np,j,r,s,rfl):=PC d;cases e;cases f;rename_i fr q;cases Option.isNone_iff_eq_none.mp b;exact Ey S a g i o
def KQ(S:zv1 X)(p:ig)(h:fu Γ N sc (.brk) p=gS):GS X W F H0 E (.brk) p:=by
 cases p<;>first|(exact aP h)|skip
 exact NO
def Ae{c:Ci.E}{a b:Ss}{p:ig}(h:fu Γ N sc (.ite c a b) p=gS):∃q d e pos,p=.If q d e pos/\iC c=gS/\bp Γ N sc c q=gS/\dQ Γ N sc a d=gS/\dQ Γ N sc b e=gS:=by
 cases p<;>first|(exact aP h)|skip
 replace h:=az h
 try simp! [zza] at h
 exact{_,_,_,_,rfl,h.1.1.1,h.1.1.2,h.1.2,h.2}
def Jy{c:Tg}{b:Ss}{p:ig}(h:fu Γ N sc (.cX c it b) p=gS):∃a d e pos,p=.For a d e [] pos/\jx N sc (λZ=>gS) c a=gS/\IL it=gS/\Bx Γ N sc a it d=gS/\dQ Γ N sc b e=gS:=by
 cases p<;>first|(exact aP h)|skip
 replace h:=az h
 try simp! [zza] at h
 cases List.isEmpty_iff.mp h.1.1.1.1;exact{_,_,_,_,rfl,h.1.1.1.2,h.1.1.2,h.1.2,h.2}
def Jz{c:Ci.E}{b:Ss}{p:ig}(h:fu Γ N sc (.Df c b) p=gS):∃q a pos,p=.While q a [] pos/\iC c=gS/\bp Γ N sc c q=gS/\dQ Γ N sc b a=gS:=by
 cases p<;>first|(exact aP h)|skip
 replace h:=az h
 try simp! [zza] at h
 cases List.isEmpty_iff.mp h.1.1.1;exact{_,_,_,rfl,h.1.1.2,h.1.2,h.2}
def Af{ps:List ig}(h:dQ Γ N sc .nil ps=gS):ps=[]:=by
 cases ps with
 |nil=>rfl|cons _ _=>exact aP h
def vN{s:Ci.S}{a:Ss}{ps:List ig}(h:dQ Γ N sc (.cons s a) ps=gS):(∃i,s=.bC i/\dQ Γ N sc a ps=gS)\/∃q qs,ps=q::qs/\fu Γ N sc s q=gS/\dQ Γ N sc a qs=gS:=by
 by_cases b:∃i,s=.bC i
 .let(i,rfl):=b;exact .inl ⟨i,rfl,h⟩
 .cases ps with
  |nil=>cases s<;>first|(exact absurd ⟨_,rfl⟩ b)|(exact aP h)
  |cons p ps=>
   have c:(fu Γ N sc s p&&dQ Γ N sc a ps)=gS:=by
    cases s<;>first|(exact absurd ⟨_,rfl⟩ b)|(exact h)
   rw [zza] at c;exact .inr ⟨p,ps,rfl,c.1,c.2⟩
mutual
theorem Xb(S:zv1 X)(d:Γ.qt=gU):∀(s:Ci.S) (p:ig),fu Γ N sc s p=gS->GS X W F H0 E s p
 |.expr e,p,h=>GH S e p h|.set i e,p,h=>AY S i e p h|.own i e,p,h=>KS S i e p h|.bC i,p,h=>KR S i p h|.app i e,p,h=>KP S i e p h|.qq i e,p,h=>GJ S i e p h|.put i kk e,p,h=>KU S i kk e p h|.qA i e,p,h=>GL S d i e p h|.k9 i,p,h=>GG S i p h|.eN i j n,p,h=>yA S i j n p h|.ni m i,p,h=>GK S d m i p h|.ret e,p,h=>AX S e p h|.ite c a b,p,h=>by let(q,w,r,pos,rfl,h1,g,f,o):=Ae h;exact Ex S ((bE c S.C _ g).gt h1) (p7 S d a _ f) (p7 S d b _ o)|.cX y it b,p,h=>by let(t,u,r,pos,rfl,h1,g,f,o):=Jy h;exact NP S d h1 g (GD it S.C t u f) (lC f _) (p7 S d b _ o)|.Df c b,p,h=>by let(q,r,pos,rfl,h1,g,f):=Jz h;exact NU S ((bE c S.C _ g).gt h1) (p7 S d b _ f)|.raise c m,p,h=>CZ S d c m p h|.w8 b c i j,p,h=>NT S b c i j p h|.brk,p,h=>KQ S p h
theorem p7(S:zv1 X)(b:Γ.qt=gU):∀(a:Ss) (ps:List ig),dQ Γ N sc a ps=gS->DA X W F H0 E a ps
 |.nil,ps,h=>by cases Af h;exact zW
 |.cons s a,ps,h=>by
  rcases vN h with⟨i,e,c⟩|⟨q,qs,e,h1,c⟩
  .have:=Jj (i:=i) (p7 S b a ps c);rw [<-e] at this;exact this
  .rw [e];exact vK (Xb S b s q h1) (p7 S b a qs c)
end
mutual
noncomputable def Pw:Ci.S->Bool
 |.set _ _=>gS|.ret _=>gS|.ite _ a b=>pS a&&pS b|_=>gU
noncomputable def pS:Ss->Bool
 |.nil=>gS|.cons s ss=>Pw s&&pS ss
end
mutual
theorem Xa(S:zv1 X):∀(s:Ci.S) (p:ig),Pw s=gS->fu Γ N sc s p=gS->GS X W F H0 E s p
 |.set i e,p,_,h=>AY S i e p h|.ret e,p,_,h=>AX S e p h|.ite c a b,p,hz,h=>by unfold Pw at hz;rw [zza] at hz;let(q,j,m,pos,rfl,h1,d,f,g):=Ae h;exact Ex S ((bE c S.C _ d).gt h1) (AW S a _ hz.1 f) (AW S b _ hz.2 g)|.expr _,_,h,_=>aP h|.own _ _,_,h,_=>aP h|.bC _,_,h,_=>aP h|.app _ _,_,h,_=>aP h|.qq _ _,_,h,_=>aP h|.put _ _ _,_,h,_=>aP h|.qA _ _,_,h,_=>aP h|.k9 _,_,h,_=>aP h|.eN _ _ _,_,h,_=>aP h|.ni _ _,_,h,_=>aP h|.cX _ _ _,_,h,_=>aP h|.Df _ _,_,h,_=>aP h|.raise _ _,_,h,_=>aP h|.w8 _ _ _ _,_,h,_=>aP h|.brk,_,h,_=>aP h
theorem AW(S:zv1 X):∀(a:Ss) (ps:List ig),pS a=gS->dQ Γ N sc a ps=gS->DA X W F H0 E a ps
 |.nil,ps,_,h=>by cases Af h;exact zW
 |.cons s a,ps,hz,h=>by
  unfold pS at hz;rw [zza] at hz;rcases vN h with⟨i,e,b⟩|⟨q,qs,e,h1,b⟩
  .rw [e] at hz;exact aP hz.1
  .rw [e];exact vK (Xa S s q hz.1 h1) (AW S a qs hz.2 b)
end
end
end Ci
namespace L2
open PySem.Spec PyProof.Rows
def iV{K:zz8}{C c:hF}{b:Bool}(h1:PySem.W.isClsIn K c=gS)(d:PySem.W.typeIn K (.ref c)=gF (.type "type"))(f:PySem.W.subIn K (.ref C) (.ref c)=gF b)(a:b=gS\/(C==c)=gU):PySem.W.kitOne K (.ref C) (.ref c)=gF b:=by
 have k:PySem.W.kitCls K (.ref C) (.ref c)=gF b:=by show(if((PySem.W.clsIn K c).isSome&&PySem.W.typeIn K (.ref c)==gF (.type "type"))=gS then PySem.W.subIn K (.ref C) (.ref c) else gK)=gF b;rw [show(PySem.W.clsIn K c).isSome=gS from h1,d,f];rfl
 unfold PySem.W.kitOne;split
 .rename_i e;rcases a with rfl|a
  .rfl
  .have g:C=c:=hB.ref.inj (zzy.mp e);rw [g,beq_self_eq_true] at a;cases a
 .exact k
def E8{K:zz8}{C:hF}{T:String}{b:Bool}(h1:PySem.W.kitMeta T=gS)(a:PySem.W.subIn K (.ref C) (.type T)=gF b):PySem.W.kitOne K (.ref C) (.type T)=gF b:=by
 unfold PySem.W.kitOne;split
 .rename_i e;cases zzy.mp e
 .show(if PySem.W.kitMeta T=gS then PySem.W.subIn K (.ref C) (.type T) else gK)=gF b;rw [if_pos h1];exact a
def Ee{K:zz8}{C c:hF}{b:Bool}(a:PySem.W.subIn K (.ref c) (.type (zu 27))=gF gS)(h1:PySem.W.isClsIn K c=gS)(d:PySem.W.typeIn K (.ref c)=gF (.type "type"))(e:PySem.W.subIn K (.ref C) (.ref c)=gF b):PySem.W.exmOne K (.ref C) (.ref c)=gF b:=by unfold PySem.W.exmOne;rw [a];show PySem.W.kitCls K (.ref C) (.ref c)=gF b;show(if((PySem.W.clsIn K c).isSome&&PySem.W.typeIn K (.ref c)==gF (.type "type"))=gS then PySem.W.subIn K (.ref C) (.ref c) else gK)=gF b;rw [show(PySem.W.clsIn K c).isSome=gS from h1,d,e];rfl
set_option tactic.hygienic true in
def Pb{K:zz8}{C:hF}{j:List hB}{a:String}(X:K.In h)(hm:mg x=gF (.ref C))(q:PySem.W.excIn K C j a=gS):OwnCls x C j a mg h:=by
 constructor
 .exact hm
 .unfold PySem.W.excIn at q;split at q
  .rename_i t cd u w;split at q
   .rename_i y b k m o p z r A B;simp! [zza,zzy,Bool.not_eq_true'] at q;let(((((D,E),F),G),H),I):=q;subst D E;let(L,bs,c,d,M,hd,N,sub,O,e,f):=cd;have P:c=.ref y::b:=A;have g:f=gU:=F;have s:PySem.W.nsOkIn K d=gS:=H;have i:PySem.W.nsIn K d "__init__"=gF gK:=I;subst P g;obtain⟨ls⟩:=u;have Q:ls=[k,m,o,p,gF (.builtin z),r]:=B;subst Q;exact{b,d,L,M,bs,hd,N,sub,O,e,t,k,m,o,p,r,_,X _ _ w,.of_isNs (PySem.W.isNs_of_in X s),PySem.W.nsMap_none_of_in X s i,PySem.W.tail_of_in X G}
   .cases q
  .cases q
end L2
namespace Ci
open L2
noncomputable abbrev Ec:List Value:=[.type (zu 0),.type "Exception",.type (zu 27),.type "object"]
structure xr(K:zz8)(mg:Str->Option hB)(Γ:Pg)(W:Wd):Prop where
 hK:W.K=K
 hm:W.mg=mg
 gs:∀q∈Γ.gs,∃u v,mg q.1=gF u/\RelV v u/\∀G,Rep W G q.2 v
 bs:∀g∈Γ.bs,mg g=gK
 QE:Γ.cs.contains (zu 0)=gU
 cls:∀c∈Γ.cs,∃C,mg c=gF (.ref C)
 xc:∀d∈W.xs,∀D,mg d=gF (.ref D)->oh K D/\(∀c∈Γ.cs,∀C,mg c=gF (.ref C)->PySem.W.kitOne K (.ref D) (.ref C)=gF (c==d||c==(zu 12)))/\PySem.W.kitOne K (.ref D) (.type (zu 0))=gF gS
 xs:∀c,Γ.rs.contains c=gS->c∈W.xs
 rm:∀c,Γ.rs.contains c=gS->∃C,mg c=gF (.ref C)/\PySem.W.excIn K C Ec (zu 18)=gS
 Ry:Γ.cs.contains (zu 12)=gS->∀c D,c∈W.xs->mg c=gF (.ref D)->∀T,mg (zu 12)=gF (.ref T)->PySem.W.exmOne K (.ref D) (.ref T)=gF gS
 bm:W.ts≠[]->∃bm o,mg "__builtins__"=gF (.ref bm)/\bm≠builtinsNs/\bm≠iv/\K.lookup bm=gF o/\o.cls=.type "module"/\o.dict=gF builtinsNs/\o.data=.plain
structure Row where
 f:Str
 h:Str
 d:Def
 st:ig
 hl:Bool:=gU
noncomputable abbrev eE:Type:=List Row
abbrev nc(l:eE):List Str:=l.filterMap λr=>if r.d.jq.isNone then gF r.f else gK
abbrev B7(l:eE):List Hs:=l.filterMap λr=>r.d.jq.map λq=>⟨r.f,r.h,q.1,q.2,r.d.np⟩
abbrev tab(l:eE):List (Str×Def):=l.map λq=>(q.f,q.d)
abbrev pB(l:eE):List Str:=match l.getLast? with|some r=>if r.d.jq.isNone then [r.f] else []|none=>[]
abbrev Pg.at(Γ:Pg)(l:eE)(hl:Bool):Pg:={Γ with fs:=nc l,hs:=B7 l,hl:=hl,qt:=l.isEmpty,qs:=pB l}
structure cH(Γ:Pg)(n:Str)(d:Def)(st:ig):Prop where
 sc:nv d.N (d.N.take d.np) (br st)
 np:d.np<=d.N.length
 bind:∀(kV doc pm:hB) (an:Option hF) (ir ct:hB) (us:List hB),us.length=(d.N.take d.np).length->bindArgs (PySem.W.fnOf n n (dR st) (dj st) (br st) .none kV doc pm an ir ct) {us,[]}=pure ((d.N.take d.np).zip us)
 Yp:dQ Γ d.N (br st) d.body (dj st)=gS
 qui:(!Γ.qt||pS d.body)=gS
theorem stM{Γ:Pg}{n:Str}{d:Def}(b:∀(kV a c:hB) (e:Option hF) (f ct:hB) (us:List hB),us.length=(d.N.take d.np).length->bindArgs (PySem.W.fnOf n n (dR st) (dj st) (br st) .none kV a c e f ct) {us,[]}=pure ((d.N.take d.np).zip us))
 (a1:(br st).kind=.function:=by rfl) (a2:(br st).isCoroutine=gU:=by rfl) (g:(br st).isGenerator=gU:=by rfl) (h:d.N.Nodup:=by decide+kernel) (i:d.N.take (d.N.take d.np).length=d.N.take d.np:=by rfl)
 (j:∀x∈d.N.take d.np,(br st).names.lookup x=gF .local\/(br st).names.lookup x=gF .cell:=by decide+kernel) (k:∀y∈(br st).names,y.2≠.free:=by decide+kernel) (m:d.np<=d.N.length:=by decide+kernel) (o:dQ Γ d.N (br st) d.body (dj st)=gS:=by decide+kernel) (p:(!Γ.qt||pS d.body)=gS:=by decide+kernel):cH Γ n d st:={⟨a1,a2,g,h,i,j,k⟩,m,b,o,p}
def iq(K:zz8)(c P:hF):Prop:=∃o a d f b g h e i,K.lookup c=gF o/\o.cls=.type "code"/\o.data=.fields a/\a[11]?=gF (.ref P)/\a.getD 11 .none=.ref P/\a.getD 18 .none=.str d f/\
 a.getD 7 .none=.int b g/\a.getD 9 .none=.bool h/\a.getD 10 .none=.int e i/\c≠P
abbrev pA(n:Str):Str:=(n++".<locals>.")++(zu 13)
def A9(K:zz8)(ts:List (hF×Str))(hl:Bool)(n:Str)(st:ig):Prop:=∃(f:hF) (oc:hB) (e:Option hF) (kV a g:hB) (h:Option hF) (b ct:hB) (i:Array (Option hB)),
 PySem.W.nsIn K iv n=gF (gF (.ref f))/\K.lookup f=gF {oc,e,.func (PySem.W.fnOf n n (dR st) (dj st) (br st) .none kV a g h b ct),i}/\PySem.W.codeIn K b n=gS/\PySem.W.keepIn K (.ref f)=gS/\
 (hl=gS->∃c P,b=.ref c/\iq K c P/\(P,pA n)∈ts/\∀d,(P,d)∈ts->d=pA n)
def VL{K:zz8}{ts:List (hF×Str)}{n:Str}{f:hF}{oc:hB}{e:Option hF}{kV b g:hB}{h:Option hF}{d ct:hB}{i:Array (Option hB)}(a:PySem.W.nsIn K iv n=gF (gF (.ref f)))
 (l:K.lookup f=gF {oc,e,.func (PySem.W.fnOf n n (dR st) (dj st) (br st) .none kV b g h d ct),i}) (c:PySem.W.codeIn K d n=gS) (k:PySem.W.keepIn K (.ref f)=gS):A9 K ts gU n st:={f,oc,e,kV,b,g,h,d,ct,i,a,l,c,k,nofun}
structure me(P:hL)(w:hQ)(K:zz8)(mg:Str->Option hB)(base:h9)(W:Wd)(F:aL)(k:Nat)(f:Str):Prop where
 ex:∃fa fd ps,iK P w K mg base (eP P w) k fa fd ps (Dt W F f ps.length gK)/\mg f=gF (.ref fa)/\PySem.W.keepIn K (.ref fa)=gS/\Binds K fd ps []/\∀as,F f as≠.bad->as.length=ps.length
structure Mt(P:hL)(w:hQ)(K:zz8)(mg:Str->Option hB)(base:h9)(W:Wd)(F:aL)(k:Nat)(q:Hs):Prop where
 ex:∃fa fd ps,iK P w K mg base (eP P w) k fa fd ps (Dt W F q.f ps.length (gF (q.g,q.idx)))/\mg q.h=gF (.ref fa)/\PySem.W.keepIn K (.ref fa)=gS/\Binds K fd ps []/\ps.length=q.np
section
variable{K:zz8}{Γ:Pg}{W:Wd}
def Bz{c p:hF}(f:K.In base)(h:iq K c p):PySem.W.CodeHd base c p:=by let(o,g,b,i,a,j,k,d,m,e,r):=h;exact{o,g,b,i,a,j,k,d,m,f _ _ e,r}
theorem M4(M:xr K mg Γ W)(b:K.In base){F:aL}{k:Nat}{ps:List Str}{sc:hZ}(S:nv N ps sc)(O:∀f,Γ.fs.contains f=gS->me P w K mg base W F k f)(Q:∀q∈Γ.hs,Mt P w K mg base W F k q)(r:∀f,Γ.qs.contains f=gS->2<=k/\me P w K mg base W F 2 f)(hk:Γ.qt=gU->2<=k)(R:∀g as,F g as≠.bad->Γ.fs.contains g=gS\/i6 g=gS){f:hF}{cd:hB}
 (t:Γ.hl=gS->∃c p,cd=.ref c/\iq K c p/\(p,pA qual)∈W.ts/\∀u,(p,u)∈W.ts->u=pA qual)   {s:hD}  {E:XK} (d:eh (k+1) (A.deeper (PyProof.Rows.envOfC qual sc (zz9 s) f cd))):
 fc Γ F W N sc k E (eF (eP P w) P w K mg base N qual sc f cd A outer s H E) where
 C:={rfl,rfl,λz=>Option.isNone_iff_eq_none.mpr (d.hd (by have:=hk z;lia)),S.nd,M.hK,M.hm,M.gs,M.bs,d,λg i=>{(O g i).ex},M.QE,M.cls,M.xc,λq m=>{(Q q m).ex},λf B=>{(r f B).1,{(r f B).2.ex}},R,λz=>by
  let(c,p,G,I,a,L):=t z;exact{c,p,G,Bz b I,a,L},λz=>by
  let(c,p,G,I,a,L):=t z;let(bm,o,T,U,V,X,Y):=M.bm (λy=>by rw [y] at a;cases a);exact{bm,o,T,U,V,b _ _ X,Y},λ_ _=>rfl}
 fn:=λ_=>rfl
 own:=PassesOwn.leaving
 pass:=S1
 kind:=S.kind
 G8:=rfl
 frame:=rfl
 xs:=M.xs
 rm:=λc Z=>let⟨C,h,_⟩:=M.rm c Z;⟨C,h⟩
 rz:=λm c z j np zp cp pos h1 h2 h3=>by let(C,hC,hx):=M.rm c h1;have i:Gl (eF (eP P w) P w K mg base N qual sc f cd A outer s H E) c:=zzy.mp h2;refine L2.PS.imp (Gh i (Pb b hC hx) PySem.F.excBase_ValueError (bQ F1 dE) rfl rfl (dn h3).1 (Option.isNone_iff_eq_none.mpr (d.hd (by have:=hk m;lia)))) λD σ H1 h=>{(show 1<=ic by decide),λe he=>h C e hC he}
 Ry:=M.Ry
def wO{as:List PV}(f:aB G H)(tb:cY W G H)(l:aq W G as vs)(m:as.length<=N.length):SR W H (as.map .val++j2 (N.length-as.length) .no) (start N vs) G H:=by
 have hl:=l.length;unfold L2.start;refine{by simp;lia,f,iM.refl _,λi s e=>?_,λi j p q a b Z Z Z=>?_,tb,tb}
 .by_cases c:i<as.length
  .rw [eM (zx6 c),cS] at e;let(p,d,rfl):=b0.mp e;let(v,g,h):=l.qr d;exact{gF v,by rw [eM (by simpa using (show i<vs.length by lia)),cS,g];rfl,v,rfl,h}
  .rw [eT (zx6 c),List.getElem?_replicate] at e;split at e
   .rename_i k;cases e;rw [zzl] at k;exact{gK,by rw [eT (by simp;lia),List.getElem?_replicate,if_pos (by rw [zzl];lia)],trivial}
   .cases e
 .exfalso;by_cases c:i<as.length
  .rw [eM (zx6 c),cS] at b;let(p,d,e):=b0.mp b;cases e
  .rw [eT (zx6 c),List.getElem?_replicate] at b;split at b<;>cases b
def SR.S8{t:St}{f:List PV}(i:Nat)(r:SR W H0 env t G H)(h:su W G g idx f v):SR W H0 (env.set i (.fn g idx f)) (t.set i (gF v)) G H where
 len:=zx6 r.len
 sub:=r.sub
 base:=r.base
 tab:=r.tab
 lY:=r.lY
 slot:=λj s e=>by
  by_cases k:i=j
  .subst k;have d:i<env.length:=by
    have:=(a9.mp e).1;simpa using this
   rw [eH d] at e;cases e;exact{gF v,eH (by rw [<-r.len];exact d),v,rfl,h}
  .rw [c4 k] at e;let(o,A,B):=r.slot j s e;exact{o,by rw [c4 k];exact A,B}
 apart:=λa b q C D m p u y=>by
  have ne:∀{c:Nat} {q:PV},(env.set i (.fn g idx f))[c]?=gF (.own q)->i≠c:=λ{c q} e z=>by
   subst z;have d:i<env.length:=by have:=(a9.mp e).1;simpa using this
   rw [eH d] at e;cases e
  have E:=ne m;have F:=ne p;rw [c4 E] at m u;rw [c4 F] at p y;exact r.apart a b q C D m p u y
def AU{c:Type}{l r:List c}{a b:c}:(l++a::r).set l.length b=l++b::r:=by rw [List.set_append_right _ _ (a5 _),Nat.sub_self];rfl
def C5{d:Def}{as:List PV}(k:d.np<=d.N.length)(g:aB G H)(tb:cY W G H)(l:Du W G d.jq as vs)(e:vs.length=d.np):cM d as=gS/\SR W H (cO d as) (start d.N vs) G H:=by
 unfold cM cO;cases h:d.jq with
 |none=>rw [h] at l;have l:aq W G as vs:=l;exact{by rw [<-l.length,e];simp,wO g tb l (by rw [<-l.length,e];exact k)}|some q=>
  rw [h] at l;let(xf,f,c,v,rfl,rfl,i,m):=l;have o:=i.length;have y:c.length=d.np-1/\0<d.np:=by rw [cA] at e;simp at e;lia
  have p:xf.length=d.np-1:=by lia
  refine{by simp;lia,?_};have s:=wO (N:=d.N) g tb i (by lia);have j:=s.S8 xf.length m
  have t:(xf.map Slot.val++j2 (d.N.length-xf.length) Slot.no).set xf.length (.fn q.1 q.2 f)=((xf++f).take (d.np-1)).map .val++.fn q.1 q.2 ((xf++f).drop (d.np-1))::j2 (d.N.length-d.np) Slot.no:=by
   rw [<-p,List.take_left',List.drop_left',show d.N.length-xf.length=(d.N.length-d.np)+1 by lia,List.replicate_succ]
   .have:=AU (l:=xf.map Slot.val) (r:=j2 (d.N.length-d.np) Slot.no) (a:=Slot.no) (b:=.fn q.1 q.2 f);rw [zzl] at this;exact this
   .rfl
   .rfl
  have u:(start d.N c).set xf.length (gF v)=start d.N (c++[v]):=by unfold L2.start;rw [cA,List.length_singleton,show d.N.length-c.length=(d.N.length-(c.length+1))+1 by lia,List.replicate_succ,<-o];have:=AU (l:=c.map gF) (r:=j2 (d.N.length-(c.length+1)) gK) (a:=gK) (b:=gF v);rw [zzl] at this;rw [this];simp
  rw [t,u] at j;exact j
def LN(M:xr K mg Γ W)(y:K.In base){F:aL}{k:Nat}{n nf:Str}{d:Def}{i:hF}{fd:FuncData}(St:cH Γ n d st)(z:TZ K n n st i fd)(B:∀f,Γ.fs.contains f=gS->me P w K mg base W F k f)(C:∀q∈Γ.hs,Mt P w K mg base W F k q)(D:∀f,Γ.qs.contains f=gS->2<=k/\me P w K mg base W F 2 f)(hk:Γ.qt=gU->2<=k)(I:∀g as,F g as≠.bad->Γ.fs.contains g=gS\/i6 g=gS)
 (L:Γ.hl=gS->∃c p,fd.code=.ref c/\iq K c p/\(p,pA n)∈W.ts/\∀j,(p,j)∈W.ts->j=pA n):
 iK P w K mg base (eP P w) (k+2) i fd (d.N.take d.np) (Dt W (λ_ as=>ax F d as) nf (d.N.take d.np).length d.jq):=by
 have a:(d.N.take d.np).length=d.np:=by rw [List.length_take];have:=St.np;lia
 let(oc,od,kV,O,pm,an,ir,ct,yo,rfl,R,S):=z.ex;refine Rz R S St.sc (λT H Q E h=>h.1) λA outer s H T Q E U h=>?_;let(hl,G,as,V,tb,l,o):=h;rw [a] at hl;let(X,m):=C5 St.np V tb l hl;have t:=M4 (outer:=outer) (s:=s) (H:=H) (E:=E) M y St.sc B C D hk I L U
 refine{Xo W F H E d.body,(by
  cases u:Γ.qt with
  |false=>exact p7 t u d.body _ St.Yp|true=>exact AW t d.body _ (by have:=St.qui;rw [u] at this;exact this) St.Yp),G,cO d as,m,?_}
 dsimp only at o;unfold ax at o;rw [if_pos X] at o;cases r:aD F d.body (cO d as) with
 |bad=>rw [r] at o;exact o|exc c=>rw [r] at o;exact o|ok fl=>
  rw [r] at o;cases fl with
  |nx env=>exact λY b e m g=>o .aC b e g .n|rt p=>exact λv b e Z g=>o v b e g Z|bk env=>exact o.elim|ct env=>exact o.elim
def AllK(K:zz8)(ts:List (hF×Str))(Γ:Pg):eE->Prop
 |[]=>True|r::l=>A9 K ts r.hl r.h r.st/\cH (Γ.at l r.hl) r.h r.d r.st/\((l.map (·.f)).contains r.f=gU/\(r.d.jq.isNone==!i6 r.f)=gS/\(r.d.jq.isNone=gS->r.f=r.h))/\AllK K ts Γ l
def Au(M:xr K mg Γ W)(l:eE)(hl:Bool):xr K mg (Γ.at l hl) W:=⟨M.hK,M.hm,M.gs,M.bs,M.QE,M.cls,M.xc,M.xs,M.rm,M.Ry,M.bm⟩
def me.mono{F:aL}{k:Nat}{f:Str}(h:me P w K mg base W F j f)(hk:j<=k):me P w K mg base W F k f:=by let(a,fd,ps,b,c):=h.ex;exact{a,fd,ps,b.mono hk,c}
def p8{F a:aL}{f b:Str}{n:Nat}{q:Option (Str×List Nat)}(e:∀as,a b as=F f as):Dt W a b n q=Dt W F f n q:=by
 funext c H Q E
 unfold Dt;simp! [e]
def me.swap{F a:aL}{k:Nat}{f:Str}(h:me P w K mg base W F k f)(e:∀as,a f as=F f as):me P w K mg base W a k f:=by let(b,fd,ps,c,d,g,i,j):=h.ex;refine{b,fd,ps,?_,d,g,i,λas m=>j as (by rw [<-e];exact m)};rw [p8 e];exact c
def Mt.swap{F a:aL}{k:Nat}{q:Hs}(h:Mt P w K mg base W F j q)(hk:j<=k)(e:∀as,a q.f as=F q.f as):Mt P w K mg base W a k q:=by let(b,fd,ps,c,d,g,i,m):=h.ex;refine{b,fd,ps,?_,d,g,i,m};rw [p8 e];exact c.mono hk
def k8{r:Row}{l:eE}(h:(g==r.f)=gU)(as:List PV):den (tab (r::l)) g as=den (tab l) g as:=by show(if(g==r.f)=gS then _ else _)=_;rw [h];rfl
def vp{r:Row}{l:eE}(as:List PV):den (tab (r::l)) r.f as=ax (den (tab l)) r.d as:=by show(if(r.f==r.f)=gS then _ else _)=_;rw [beq_self_eq_true];rfl
theorem tJ:∀(l:eE) {ts:List (hF×Str)},AllK K ts Γ l->∀g as,den (tab l) g as≠.bad->(nc l).contains g=gS\/i6 g=gS
 |[],_,_,g,as,h=>absurd rfl h|r::l,ts,⟨_,_,⟨_,a,_⟩,c⟩,g,as,h=>by
  by_cases e:(g==r.f)=gS
  .have i:=zzy.mp e
   subst i;cases b:r.d.jq with
   |none=>left;unfold nc;rw [List.filterMap_cons,b];simp|some q=>right;rw [b] at a;simpa using a
  .rw [k8 (zx6 e)] at h;rcases tJ l c g as h with z|z
   .left;unfold nc at z⊢;rw [List.filterMap_cons];split
    .exact z
    .rw [List.contains_cons,z,Bool.or_true]
   .exact .inr z
def jk:∀{l:eE} {f:Str},(pB l).contains f=gS->l≠[]/\(nc l).contains f=gS:=by
 intro l f h;unfold pB at h;cases e:l.getLast? with
 |none=>rw [e] at h;cases h
 |some r=>
  rw [e] at h;have hm:=List.mem_of_getLast? e;refine{λz=>(by rw [z] at hm;cases hm),?_};dsimp only at h;split at h
  .rename_i a;have b:f=r.f:=zx6 h;rw [eG,b];exact fw.mpr {r,hm,if_pos a}
  .cases h
set_option tactic.hygienic true in
theorem DG(M:xr K mg Γ W)(s:K.In base)(G:base.Ns iv mg):∀(l:eE),AllK K W.ts Γ l->(∀f,(nc l).contains f=gS->me P w K mg base W (den (tab l)) (2*l.length) f)/\(∀q∈B7 l,Mt P w K mg base W (den (tab l)) (2*l.length) q)/\∀f,(pB l).contains f=gS->me P w K mg base W (den (tab l)) 2 f
 |[],_=>{λf a=>by simp [nc] at a,λq b=>by simp [B7] at b,λf a=>absurd rfl (jk a).1}|r::l,Y=>by
  let(he,hs,(B,Z,C),O):=Y;let(Q,j,m):=DG M s G l O;have o:l≠[]->2<=2*l.length:=λz=>by have:=List.length_pos_iff.mpr z;lia
  let(R,oc,od,kV,doc,pm,an,ir,ct,yo,S,e2,e3,D,e5):=he;have E:=Ej (st:=r.st) e2 e3 D;have ok:=LN (P:=P) (w:=w) (nf:=r.f) (Au M l r.hl) s (k:=2*l.length) hs E (λg t=>Q g t) (λq b=>j q b) (λf a=>{o (jk a).1,m f a}) (λz=>o λy=>by subst y;cases z) (tJ l O) e5
  have F:∀g,(l.map (·.f)).contains g=gS->(g==r.f)=gU:=λg t=>by
   cases z:g==r.f with
   |false=>rfl|true=>rw [zzy.mp z,B] at t;cases t
  have sp:Dt W (λ_ as=>ax (den (tab l)) r.d as) r.f (r.d.N.take r.d.np).length r.d.jq=Dt W (den (tab (r::l))) r.f (r.d.N.take r.d.np).length r.d.jq:=p8 λas=>(vp as).symm;rw [sp] at ok;have c:(r.d.N.take r.d.np).length=r.d.np:=by rw [List.length_take];have:=hs.np;lia
  have T:∀f,(nc l).contains f=gS->(l.map (·.f)).contains f=gS:=λf a=>by
   rw [eG] at a⊢;unfold nc at a;let(x,H,e):=fw.mp a;split at e
   .cases e;exact List.mem_map_of_mem (f:=(·.f)) H
   .cases e
  have h:∀f,(nc (r::l)).contains f=gS->me P w K mg base W (den (tab (r::l))) (2*(r::l).length) f:=λf a=>by
   by_cases U:(f==r.f)=gS/\r.d.jq=gK
   .let(h1,I):=U;have e:=zzy.mp h1;subst e;refine{R,_,r.d.N.take r.d.np,by rw [I] at ok;exact ok,?_,D,E.binds hs.bind,λas u=>?_}
    .rw [C (by rw [I];rfl)];exact PySem.W.mg_of s G S
    .rw [vp] at u;unfold ax at u;by_cases A:cM r.d as=gS
     .unfold cM at A;rw [I] at A;rw [c];exact zzy.mp A
     .rw [if_neg A] at u;exact absurd rfl u
   .have V:(nc l).contains f=gS:=by
     unfold nc at a⊢;rw [List.filterMap_cons] at a;split at a
     .exact a
     .rename_i y L;split at L
      .rename_i p;cases L;rw [List.contains_cons,eU] at a;rcases a with z|z
       .exact absurd {z,Option.isNone_iff_eq_none.mp p} U
       .exact z
      .cases L
    exact((Q f V).mono (by rw [cu];lia)).swap λas=>k8 (F f (T f V)) as
  refine{h,λq b=>?_,λf a=>?_}
  rotate_left
  .cases l with
   |nil=>exact h f (jk a).2|cons x X=>
    have e:pB (r::x::X)=pB (x::X):=by unfold pB;rw [List.getLast?_cons_cons]
    rw [e] at a;exact(m f a).swap λas=>k8 (F f (T f (jk a).2)) as
  .unfold B7 at b;rw [List.filterMap_cons] at b;have i:q∈B7 l->Mt P w K mg base W (den (tab (r::l))) (2*(r::l).length) q:=λb=>by
    refine(j q b).swap (by rw [cu];lia) λas=>k8 (F q.f ?_) as;unfold B7 at b;let(x,H,e):=fw.mp b;let(y,_,rfl):=b0.mp e;rw [eG];exact List.mem_map_of_mem (f:=(·.f)) H
   cases p:r.d.jq with
   |none=>rw [p] at b;exact i b|some y=>
    rw [p] at b;rcases ey.mp b with z|z
    .subst z;rw [p] at ok;exact{R,_,r.d.N.take r.d.np,ok,PySem.W.mg_of s G S,D,E.binds hs.bind,c}
    .exact i z
end
end Ci
namespace L2
open PySem.Spec PyProof.Rows
def Ce{K:zz8}{mb:Str->Option hB}{CX:Dh}{k:Nat}{L:hF}{fd:FuncData}{sp:Sp}{f:hD}{vs:List hB}(i:List hF)
 (M:K.In f.heap) (O:f.heap.Ns iv mg) (g:f.heap.Ns builtinsNs mb) (Z5:∀x:Str,x≠(zu 46)->mb x=bootBuiltins x) (B5:f.heap.NoLimit) (hg:f.gens=#[])
 (A:∀p∈i,f.heap.get? p=gF (PySem.W.tabObj #[])) (hC:∀p∈i,∃c,Ci.iq K c p) (ZY:∀p∈i,K.lookup p=gK)
 (B:f.heap.get? a=gF {cls:=.type "list",data:=.seq vs.toArray}) (Q:IntsAre vs ns) (hl:ns.length<=ic) (hr:eh k callerA)
 (F:∀base:h9,K.In base->base.Ns iv mg->iK P w K mg base CX k L fd [x] sp) (RP:∀(s:hD) (u:hB),BindsTo s fd {[u],[]} [(x,u)])
 (Qz:∀H:Hp,(∀p∈i,H p=gF (.iF #[]))->Ci.uS K H a (ns.map V.int)->sp [.ref a] H (λv _=>v=.bl gS) λ_ _ _=>False)
 (VW:∀H e s',CX [] H f (λ_ _ _=>False) e s'->False):
 codeAny (hV P w) callerA (.call (.ref L) {[.ref a],[]}) (λr s'=>r=.ok (.ret (.bool gS))/\OldK f.heap s'.heap/\s'.os=f.os/\AllBare s'.gens) f:=by
 have R:=Dd Q;have Sz:=Q.length;have S:a∉i:=λz=>by have:=A a z;rw [B] at this;cases this
 have t:∀H:Hp,(∀p∈i,H p=gF (.iF #[]))->Ci.uS K H a (ns.map V.int)->fe P w H f.heap->(∀b,H b≠gK->b∈i\/b=a/\∃o xs,H b=gF (.bC o xs))->(H a≠gK->K.lookup a=gK)->
  codeAny (hV P w) callerA (.call (.ref L) {[.ref a],[]}) (λr s'=>r=.ok (.ret (.bool gS))/\OldK f.heap s'.heap/\s'.os=f.os/\AllBare s'.gens) f:=by
  intro H T hS aN N hK;have U:∀{b:hF} {o:Obj},f.heap.get? b=gF o->H b=gK->(tV f.heap H).get? b=gF o:=λe n=>ED e n
  have JM:∀{b:hF} {o:Obj} {C:Array DictEntry} {D:Nat},f.heap.get? b=gF o->o.data=.dict C D->H b=gK:=λ{b o C D} e d=>by
   cases q:H b with
   |none=>rfl|some u=>
    rcases N b (by rw [q];simp) with z|⟨z,_⟩
    .rw [A b z] at e;cases e;cases d
    .subst z;rw [B] at e;cases e;have d':Data.seq vs.toArray _=Data.dict C D:=d;cases d'
  have E:∀{b:hF} {m:Str->Option hB},f.heap.Ns b m->(tV f.heap H).Ns b m:=λ{b m} ⟨o,C,D,e,d,r⟩=>{o,C,D,U e (JM e d),d,r}
  have X:K.In (tV f.heap H):=λb o e=>U (M b o e) (by
   cases q:H b with
   |none=>rfl|some u=>
    rcases N b (by rw [q];simp) with z|⟨z,_⟩
    .rw [ZY b z] at e;cases e
    .subst z;rw [hK (by rw [q];simp)] at e;cases e)
  have hM:Mod K mg (tV f.heap H):={X,E O,{mb,E g,Z5},let⟨mc,h1,h2⟩:=B5;{mc,E h1,h2}};have e0:kK P w K mg (tV f.heap H) callerA [] f H:={rfl,hM,λb o e=>J0 e,Nat.le_of_eq (B4 _ _),trivial,λb g=>absurd (show b∈([]:List hF) from g) (by simp),aN,.of_eq hg};refine codeAny_mono ((F _ X (E O)).run callerA [] f H {[.ref a],[]} [.ref a] [.ref a] _ _ hr e0 (RP f (.ref a)) (.cons rfl .nil) (Qz H T hS)) λr s' h=>?_
  cases r with
  |error e=>exact(VW H e s' h).elim|ok fl=>
   cases fl with
   |next=>exact eu h|brk=>exact eu h|cont=>exact eu h|ret u=>
    let(v,H',os,bare,un,Y,r',q):=h;have q':v=.bl gS:=q;subst q';obtain rfl:u=hB.bool gS:=r'
    have key:∀b o,f.heap.get? b=gF o->s'.heap.get? b=gF o\/b∈i/\∃m,s'.heap.get? b=gF (PySem.W.tabObj m):=λb o e=>by
     cases q:H b with
     |none=>exact .inl (un.keep b o e q (by intro z;exact absurd (show b∈([]:List hF) from z) (by simp)) (by simp))|some u=>
      rcases N b (by rw [q];simp) with z|⟨z,ob,xs,G⟩
      .right;let(m,hm):=un.ip b _ (T b z);exact{z,_,Y b _ hm}
      .left;have z3:=un.fX b ob _ G;let(Z,_):=aN b _ G;let(e2,_):=Y b _ z3;rw [e] at Z;cases Z;exact e2
    refine{rfl,{λb o e=>?_,λb o e=>?_},os,bare}
    .rcases key b o e with z|⟨z,m,G⟩
     .exact .inl z
     .have e':=A b z;rw [e] at e';cases e';let(c,o',xl,_,_,_,_,_,_,_,k1,k2,k3,k4,_):=hC b z;have tb:f.heap.TableAt c b #[]:={{o',xl,M _ _ k1,k2,k3,k4},e};exact .inr (.inl {tb.isCodeTable,rfl,#[],m,rfl,by rw [G];simp})
    .rcases key b o e with z|⟨_,m,z⟩
     .exact{_,z}
     .exact{_,z}
 cases hk:K.lookup a with
 |some o=>
  have e:=M a o hk;rw [B] at e;cases e;refine t (λb=>if b∈i then gF (.iF #[]) else gK) (λp I=>if_pos I) (.inr {vs.toArray,_,hk,by rw [aT,Sz];exact hl,zx6 R}) (λb u z=>?_) (λb z=>?_) λz=>absurd (if_neg S) z
  .by_cases g:b∈i
   .have j:=(if_pos g).symm.trans z;cases j;exact A b g
   .have j:=(if_neg g).symm.trans z;cases j
  .by_cases g:b∈i
   .exact .inl g
   .exact absurd (if_neg g) z
 |none=>
  refine t (λb=>if b=a then gF (.bC {cls:=.type "list",data:=.seq vs.toArray} (.lst (ns.map V.int))) else if b∈i then gF (.iF #[]) else gK) (λp I=>?_) (.inl (.inr {{cls:=.type "list",data:=.seq vs.toArray},if_pos rfl})) (λb u z=>?_) (λb z=>?_) λ_=>hk
  .show(if p=a then _ else _)=_;rw [if_neg (show¬p=a from λz=>S (by rw [<-z];exact I)),if_pos I]
  .by_cases g:b=a
   .have j:=(if_pos g).symm.trans z;cases j;subst g;exact{B,by rw [zzl];exact hl,vs,_,R,B}
   .replace z:=(if_neg g).symm.trans z;by_cases y:b∈i
    .have j:=(if_pos y).symm.trans z;cases j;exact A b y
    .have j:=(if_neg y).symm.trans z;cases j
  .by_cases g:b=a
   .exact .inr {g,_,_,if_pos g}
   .by_cases y:b∈i
    .exact .inl y
    .exact absurd ((if_neg g).trans (if_neg y)) z
def Qe{l:PySem.W.OpenLaw}{n k:Nat}{q:hL}{j:List Str}{E:(Str->Option hB)->h9->Prop}{C:hQ->h9->Prop}{d:DefRec}{K:Params->zz8}{CX:hQ->Dh}{sp:hQ->Sp}(y:List hF)
 (I:l.most=gF n) (L:n<=ic) (M:d.params.defaults=[]) (N:eh k callerA)
 (hY:∀(w:hQ) (h:h9),C w h->(K w.params).In h/\∀p∈y,h.get? p=gF (PySem.W.tabObj #[])) (hC:∀(w:hQ),∀p∈y,(∃c,Ci.iq (K w.params) c p)/\(K w.params).lookup p=gK)
 (F:∀(w:hQ) (mg:Str->Option hB) (z:hF) (h:h9),(K w.params).In h->h.Ns iv mg->mg d.name=gF (.ref z)->
  ∃fd:FuncData,(∀(s:hD) (u:hB),BindsTo s fd {[u],[]} [(x,u)])/\
   ∀base:h9,(K w.params).In base->base.Ns iv mg->iK l.prog w (K w.params) mg base (CX w) k z fd [x] (sp w))
 (O:∀(w:hQ) (H:Hp) (a:hF) (ns:List Int),ns.length<=n->(∀p∈y,H p=gF (.iF #[]))->Ci.uS (K w.params) H a (ns.map V.int)->sp w [.ref a] H (λv _=>v=.bl gS) λ_ _ _=>False)
 (P:∀(w:hQ) (H:Hp) (s:hD) (e:hB) (s':hD),CX w [] H s (λ_ _ _=>False) e s'->False):
 PySem.W.WalkO q j E C l.row.toRowW d [] (λf vs=>PySem.call f vs):=by
 refine Att.u4 I M λw s₀ r mg mb z o pm cd Q a vs ns G Y ho hd o9 A t m i R=>?_;let(D,S):=hY w _ Y;let(fd,U,X):=F w mg z _ D G.T.g A;exact Ce y D G.T.g G.T.b G.T.builtins G.T.nolimit R S (λp B=>(hC w p B).1) (λp B=>(hC w p B).2) t m (c6 i L) N X U (λH Z hS=>O w H a ns i Z hS) λH e s'=>P w H r e s'
end L2
namespace Ci
open L2
theorem pV{W:Wd}:∀(ns:List Int),aq W G (ns.map PV.int) (ns.map V.int)
 |[]=>.nil|n::ns=>.cons .i (pV ns)
abbrev rY(H:Hp):Hp:=λb=>match H b with
 |some (.iF _)=>gK|o=>o
def yj(H:Hp):aB (rY H) H:=λb o e=>by
 unfold rY at e;split at e
 .cases e
 .exact e
def v7{b:hF}{o:HO}(h:H b=gF o)(n:∀ps,o≠.iF ps):rY H b=gF o:=by
 unfold rY;rw [h];cases o with
 |iF ps=>exact absurd rfl (n ps)|_=>rfl
abbrev To(K:zz8)(c:List hF):Sp:=λd H Q Z=>∃(a:hF) (b:List Int),d=[.ref a]/\(∀p∈c,H p=gF (.iF #[]))/\uS K H a (b.map V.int)/\b.length<=63/\∀e,Q (.bl gS) e
def walk{l:PySem.W.OpenLaw}{q:hL}{i:List Str}{XP:(Str->Option hB)->h9->Prop}{R:hQ->h9->Prop}{d:DefRec}{K:Params->zz8}(rest:eE)(Γ:Pg)(x:Str)(j:Def)(xs:List Str)(ts:List (hF×Str))(st:ig)(D:Bool)
 (S:j.N.take j.np=[x]) (EB:j.jq=gK) (I:d.name="law") (hn:l.most=gF 63) (RW:d.params.defaults=[]) (hr:eh (2*rest.length+2) callerA) (hY:∀(w:hQ) (h:h9),R w h->(K w.params).In h/\∀p∈ts.map (·.1),h.get? p=gF (PySem.W.tabObj #[]))
 (hC:∀(w:hQ),∀p∈ts.map (·.1),(∃c,iq (K w.params) c p)/\(K w.params).lookup p=gK)
 (hM:∀(w:hQ) (mg:Str->Option hB) (h:h9),(K w.params).In h->h.Ns iv mg->xr (K w.params) mg Γ {K w.params,mg,xs,ts})
 (hE:∀w:hQ,A9 (K w.params) ts D "law" st) (T:cH (Γ.at rest D) "law" j st) (gQ:rest≠[])
 (U:∀w:hQ,AllK (K w.params) ts Γ rest)
 (Wa:∀ns:List Int,ns.length<=63->ax (den (tab rest)) j [.lst (ns.map .int)]=.ok (.bl gS)):
 PySem.W.WalkO q i XP R l.row.toRowW d [] (λf vs=>PySem.call f vs):=by
 refine L2.Qe (n:=63) (k:=2*rest.length+2) (x:=x) (CX:=λw=>eP l.prog w) (sp:=λw=>To (K w.params) (ts.map (·.1))) (ts.map (·.1)) hn (by decide) RW hr hY hC ?_ ?_ ?_
 .intro w mg fa h KX G r;rw [I] at r;let(f,oc,od,kV,y,V,X,Y,ct,yo,e1,e2,e3,e4,e5):=hE w;have L:fa=f:=by have z:=r.symm.trans (PySem.W.mg_of KX G e1);cases z;rfl
  subst L;refine{PySem.W.fnOf "law" "law" (dR st) (dj st) (br st) .none kV y V X Y ct,λs u=>?_,λbase O Z=>?_}
  .have hb:=T.bind kV y V X Y ct [u];rw [S] at hb;exact .of_eq (hb rfl)
  .have M:=hM w mg base O Z;have A:2<=2*rest.length:=by have:=List.length_pos_iff.mpr gQ;lia
   let(a1,a2,a3):=DG (P:=l.prog) (w:=w) M O Z rest (U w);have ok:=LN (P:=l.prog) (w:=w) (nf:="law") (Au M rest D) O (k:=2*rest.length) T (Ej (st:=st) e2 e3 e4) (λg hg=>a1 g hg) (λq hq=>a2 q hq) (λf L=>{A,a3 f L}) (λ_=>A) (tJ rest (U w)) e5;rw [S] at ok;refine ok.imp λvs H Q E h=>?_;let(a,ns,rfl,ht,hl,b,q):=h;refine{rfl,rY H,[.lst (ns.map .int)],yj H,λP q m=>?_,?_,?_}
   .have hP:=ht P (List.mem_map_of_mem (f:=(·.1)) m);refine{by unfold rY;rw [hP],#[],hP,trivial,λpos cv e=>nomatch e}
   .rw [EB];refine aq.cons (.l ?_ (pV ns)) .nil;rcases hl with(h|⟨o,h⟩)|h
    .exact .inl (.inl (v7 h (λ_ z=>nomatch z)))
    .exact .inl (.inr {o,v7 h (λ_ z=>nomatch z)})
    .exact .inr h
   .dsimp only;rw [Wa ns b];intro v G' H' _ rv;simp! [Rep] at rv;subst rv;exact q H'
 .intro w H a ns b hO uN;exact{a,ns,rfl,hO,uN,b,λ_=>rfl}
 .intro w H s e s' h;let(a,C,t,vs,H',B,rfl,F):=h;exact F.ends
end Ci
namespace Hd
open PySem.W PySem.Calls
abbrev PB(st:SharedT->Thread->Option (SharedT×Thread))(ok:Thread->Bool)(n:Nat):SharedT->Thread->Option SharedT:=
 @Nat.rec (λZ=>SharedT->Thread->Option SharedT) (λZ Z=>gK) (λZ a s t=>match through t with
  |true=>gF s|false=>match ok t with
   |false=>gK|true=>match st s t with
    |some (b,c)=>a b c|none=>gK) n
theorem sd{tb:String->Option i1}{p:hL}{a:Nat}{ann:Option hB}:∀{n:Nat} {s s':SharedT} {t:Thread},PB (stepT (denote tb) p w) (stepOk a ann) n s t=gF s'->topRun tb p w a ann n s.abs t=gF s'.abs
 |0,_,_,_,h=>by cases h
 |n+1,s,s',t,h=>by
  have h:(match through t with
   |true=>gF s|false=>match stepOk a ann t with
    |false=>gK|true=>match stepT (denote tb) p w s t with
     |some (s',t')=>PB (stepT (denote tb) p w) (stepOk a ann) n s' t'|none=>gK)=gF s':=h
  unfold topRun;cases b:through t with
  |true=>rw [b] at h;cases h;rfl
  |false=>
   rw [b] at h;cases hk:stepOk a ann t with
   |false=>rw [hk] at h;cases h
   |true=>
    rw [hk] at h;cases hs:stepT (denote tb) p w s t with
    |none=>rw [hs] at h;cases h
    |some r=>let(c,d):=r;rw [hs] at h;rw [stepT_spec hs];exact sd h
abbrev treeOf(l:List Obj):BT:=(l.foldl (λ(T,i) o=>(BT.ins T i o,i+1)) (BT.nil,0)).1
def JH{p q:hL}{a:List Str}{b:hD->Bool}{c:Type}{g:hD->c}{i:hQ->c}{N:Nat}{j:Bool}{T₀:Params->BT}{life:Life}{m₀:Nat}{ann:Option hB}{M:Nat}
 (e:opening p=plainProg p.main.scope.names) (hN:Nat.ble 600 N=gS) (f:∀s,fenceModules? p s=gF s)
 (m:∀P:Params,absHeap (T₀ P) m₀ life=boot_heap P)
 (size:∀w:hQ,((boot_heap w.params).isNs iv,(boot_heap w.params).nsMap iv "__annotations__")=(gS,ann))
 (le:Nat.ble M N=gS)
 (run:∀(w:hQ) (os:OsState),(PB (stepT (denote treeTable) p w) (stepOk m₀ ann) M {T₀ w.params,m₀,life,Array.mk [],boot_drawn,boot_toks,os} (topStub p)).map (λs=>
  ((staticsOk (importedModules p.main.body) (boot_heap w.params) s.abs.heap&&namesBound p s.abs.heap&&gensDone s.abs&&laidKept (boot_heap w.params) s.abs.heap),openSeen q a (importedModules p.main.body) b j s.abs,g s.abs))
  =gF (gS,openGood q a,i w)):LeftO p q a b g i N j:=λw=>by
 let((h,gs,d,k,os),o,u):=b0.mp (boot_open e hN f w);obtain⟨rfl,rfl,rfl,rfl⟩:h=boot_heap w.params/\gs=Array.mk []/\d=boot_drawn/\k=boot_toks:=zx6 u;obtain⟨y,z⟩:_/\_:=by simpa only [Prod.mk.injEq] using size w
 let(s,r,l):=b0.mp (run w os);obtain⟨A,B,C⟩:_/\_/\_:=by simpa only [Prod.mk.injEq] using l
 have r:=sd r;have r:=topRun_mono (N-M) _ _ _ _ r;rw [show M+(N-M)=N by have:=Nat.le_of_ble_eq_true le;lia] at r;have hs:(boot_heap w.params).objs.size=m₀:=by rw [<-m w.params];exact absHeap_size _ _ _
 have r:topRun treeTable p w m₀ ann N {boot_heap w.params,Array.mk [],boot_drawn,boot_toks,os} (topStub p)=gF s.abs:=by
  have:({T₀ w.params,m₀,life,Array.mk [],boot_drawn,boot_toks,os}:SharedT).abs={boot_heap w.params,Array.mk [],boot_drawn,boot_toks,os}:=by show hD.mk _ _ _ _ _=_;rw [show absHeap (T₀ w.params) m₀ life=boot_heap w.params from m w.params]
  rw [<-this];exact r
 have t:topFrom treeTable p w N {boot_heap w.params,Array.mk [],boot_drawn,boot_toks,os}=gF s.abs:=by
  unfold topFrom;dsimp only;rw [y,z,hs,r];show(match staticsOk (importedModules p.main.body) (boot_heap w.params) s.abs.heap&&namesBound p s.abs.heap&&gensDone s.abs&&laidKept (boot_heap w.params) s.abs.heap with|true=>_|false=>_)=_;rw [A]
 unfold openEnds;rw [o];show(topFrom treeTable p w N _).map _=_;rw [t];exact congrArg gF (Prod.ext B C)
end Hd
namespace Hd
open PySem.W
def Ra:∀P:Params,absHeap (treeOf (boot_heap P).objs.toList) 11 {}=boot_heap P:=λP=>by kernel_rfl
def Rb:∀w:hQ,((boot_heap w.params).isNs iv,(boot_heap w.params).nsMap iv "__annotations__")=(gS,gF (.ref 6)):=λw=>by kernel_rfl
noncomputable abbrev de(P:Params)(x:Str)(t:Tok)(v:hB):DictEntry:={hash:=PyData.keyHash P x,key:=.str x t,val:=v}
theorem holds{l:OpenLaw}{keep:List Nat}{K:Params->Frag}{as:List hF}{d:DefRec}{N:Nat}(a:l.wellSaid=gS)
 (ka:∀P,as=(K P).map (·.1))
 (left:LeftO l.row.prog (view l.row.prog keep) [] (λs=>xlAt (view l.row.prog keep) [] s&&recOk l.row.toRowW.records s) (kHook K as ka).obs (kHook K as ka).val N)
 (b:defOf (view l.row.prog keep) l.row.name=gF (d,[])) (c:l.row.prog.theDef l.row.name=gF (d.params,d.body,d.scope)) (hk:kwWritten? d.params.kwonlyargs d.params.kw_defaults=gF [])
 (ok:(chainsOk (view l.row.prog keep)&&opensWell l.row.prog&&(frees l.row.toRowW&&l.row.within.isEmpty))=gS) (g:l.row.prog.bare) (i:l.row.toRowW.promised)
 (call:WalkO (view l.row.prog keep) [] (XL (view l.row.prog keep) []) (kHook K as ka).says l.row.toRowW d [] λf vs=>PySem.call f vs):l.Holds:=
 holds_law a λj=>holds_open (N:=N) left (Hook.of (kHook K as ka)) (Hook.keeps (kHook K as ka)) (λs e=>xl_of s (Bool.and_eq_true_iff.mp e).1) XL.keeps b c hk (λs e=>recFacts_of (Bool.and_eq_true_iff.mp e).2) (by cases h:l.row.writes<;>rfl) j ok g i call
def Q4{n:Nat}{P:List hB->Prop}(h:∀a us,us.length=n->P (a::us))(us:List hB)(e:us.length=n+1):P us:=by
 cases us with
 |nil=>cases e
 |cons a r=>exact h a r (Nat.succ.inj e)
def MF{P:List hB->Prop}(h:∀b,P [b]):∀us:List hB,us.length=1->P us:=Q4 λa us e=>by
 cases us with
 |nil=>exact h a|cons _ _=>cases e
theorem Dj{P:List hB->Prop}(h:∀b c,P [b,c]):∀us:List hB,us.length=2->P us:=Q4 λa=>MF (P:=λus=>P (a::us)) (h a)
theorem xy{P:List hB->Prop}(h:∀b c a2,P [b,c,a2]):∀us:List hB,us.length=3->P us:=Q4 λa=>Dj (P:=λus=>P (a::us)) (h a)
theorem Qo{P:List hB->Prop}(h:∀b c a2 d,P [b,c,a2,d]):∀us:List hB,us.length=4->P us:=Q4 λa=>xy (P:=λus=>P (a::us)) (h a)
theorem ZI{P:List hB->Prop}(h:∀b c a2 d e,P [b,c,a2,d,e]):∀us:List hB,us.length=5->P us:=Q4 λa=>Qo (P:=λus=>P (a::us)) (h a)
end Hd
namespace KJ
open L2 Ci
theorem m9{b c:Type}{a:b}{f:b->Res c}:(Res.ok a).bind f=f a:=rfl
theorem QJ{b:Type}{a:b}:(Res.ok a).well=.ok a:=rfl
theorem Zg{b:Type}{a:b}:Res.of (gF a)=.ok a:=rfl
theorem Zn{env:Sl}{k:Sl->Res Fl}:(Fl.nx env).seq k=k env:=rfl
theorem Zo{p:PV}{k:Sl->Res Fl}:(Fl.rt p).seq k=.ok (.rt p):=rfl
theorem Zm{env:Sl}{k:Sl->Res Fl}:(Fl.bk env).seq k=.ok (.bk env):=rfl
theorem sv{p:PV}:pY (gF (.val p))=.ok p:=rfl
theorem Zq{p:PV}:AV (gF (.val p))=.ok p:=rfl
theorem Zp{p:PV}:AV (gF (.own p))=.ok p:=rfl
theorem MH{a:Type}{b:Bool}{f:Bool->Res a}:ny (.bl b) f=f b:=rfl
theorem Ly{i j:Int}:binOp .add (.int i) (.int j)=.ok (.int (i+j)):=rfl
theorem Lz{i j:Str}:binOp .add (.str i) (.str j)=if i.length+j.length<=dW then .ok (.str (i++j)) else .bad:=rfl
theorem Q9{i j:Int}:binOp .sub (.int i) (.int j)=.ok (.int (i-j)):=rfl
theorem Q8{i j:Int}:binOp .mul (.int i) (.int j)=if aQ i||aQ j then .ok (.int (i*j)) else .bad:=rfl
theorem Q7{i j:Int}:binOp .mod (.int i) (.int j)=if 0<j then .ok (.int (i%j)) else .bad:=rfl
theorem Q6{i j:Int}:binOp .fdiv (.int i) (.int j)=if 0<j/\j<1073741824 then .ok (.int (i/j)) else .bad:=rfl
theorem Yi:er .eq=fJ:=rfl
theorem Yo:er .ne=gE:=rfl
theorem Yn:er .lt=wA:=rfl
theorem Ym:er .le=wy:=rfl
theorem Yk:er .xW=ue:=rfl
theorem Rf:er .jV=eR:=rfl
theorem oLt{i j:Int}:wA (.int i) (.int j)=.ok (.bl (decide (i<j))):=rfl
theorem oLe{i j:Int}:wy (.int i) (.int j)=.ok (.bl (decide (i<=j))):=rfl
theorem lL{xs:List PV}:dX .len [.lst xs]=.ok (.int xs.length):=rfl
theorem lT{xs:List PV}:dX .len [.tup xs]=.ok (.int xs.length):=rfl
theorem lS{z:Str}:dX .len [.str z]=if z.length<=dW then .ok (.int z.length) else .bad:=rfl
theorem tL{xs:List PV}:dX .tuple [.lst xs]=.ok (.tup xs):=rfl
theorem U8{i:Nat}{p:PV}{env:Sl}:(Tg.one i).put p env=.ok (env.set i (.val p)):=rfl
theorem Zt{i j:Nat}{a b:PV}{env:Sl}:(Tg.two i j).put (.tup [a,b]) env=.ok ((env.set i (.val a)).set j (.val b)):=rfl
theorem BS{p:PV}:o6 (.own p)=.val p:=rfl
theorem jA{b:Type}{a:b}{as:List b}:(a::as).length=as.length+1:=rfl
theorem jB{a:Type}:([]:List a).length=0:=rfl
theorem jC{b c:Type}{f:b->c}{a:b}{l:List b}:(a::l).map f=f a::l.map f:=rfl
theorem jD{a b:Type}{f:a->b}:([]:List a).map f=[]:=rfl
theorem jE{b:Type}{a:b}{as bs:List b}:a::as++bs=a::(as++bs):=rfl
theorem jF{a:Type}{as:List a}:[]++as=as:=rfl
theorem jG{b:Type}{a:b}{l:List b}:(a::l)[0]?=gF a:=rfl
theorem jH{b:Type}{a:b}{l:List b}{i:Nat}:(a::l)[i+1]?=l[i]?:=rfl
theorem jI{c:Type}{a b:c}{l:List c}:(a::l).set 0 b=b::l:=rfl
theorem jJ{c:Type}{a b:c}{l:List c}{i:Nat}:(a::l).set (i+1) b=a::l.set i b:=rfl
theorem jK{b:Type}{a d:b}{l:List b}:(a::l).getD 0 d=a:=rfl
theorem jL{b:Type}{a d:b}{l:List b}{i:Nat}:(a::l).getD (i+1) d=l.getD i d:=rfl
def jM{n:Nat}:0+n=n:=Nat.zero_add _
theorem jN:(!true)=gU:=rfl
theorem jO:(!false)=gS:=rfl
def jP:(gU=gS)=False:=en
theorem qG{e:E}{xs:List PV}:CV e (.lst xs)=.ok xs:=rfl
theorem Zl{e:E}{xs:List PV}:CV e (.tup xs)=.ok xs:=rfl
theorem UO{xs:List PV}:itemsOf (.tup xs)=.ok xs:=rfl
theorem UM{xs:List PV}:itemsOf (.lst xs)=.ok xs:=rfl
theorem UN{z:Str}:itemsOf (.str z)=.ok (chars z):=rfl
theorem jQ{b:Type}{f:b->b}{a:b}{l:List b}:(a::l).modify 0 f=f a::l:=rfl
def jR{b:Type}{f:b->b}{a:b}{l:List b}{i:Nat}:(a::l).modify (i+1) f=a::l.modify i f:=by simp
theorem jS{b:Type}{a:b}:j2 0 a=[]:=id rfl
theorem jT{b:Type}{a:b}{n:Nat}:j2 (n+1) a=a::j2 n a:=id rfl
def jU{n:Nat}:(n==n)=gS:=beq_self_eq_true n
abbrev J:=jX @jS (jX @jT (jX @jU (jX @m9 (jX @QJ (jX @Zg (jX @Zn (jX @Zo (jX @Zm (jX @sv (jX @Zq (jX @Zp (jX @MH (jX @Ly (jX @Lz (jX @Q9 (jX @Q8 (jX @Q7 (jX @Q6 (jX @Yi (jX @Yo (jX @Yn (jX @Ym (jX @Yk (jX @Rf (jX @oLt (jX @oLe (jX @lL (jX @lT (jX @lS (jX @tL (jX @U8 (jX @Zt (jX @BS (jX @jA (jX @jB (jX @jC (jX @jD (jX @jE (jX @jF (jX @jG (jX @jH (jX @jI (jX @jJ (jX @jK (jX @jL (jX @jM (jX @jN (jX @jO (jX @jP (jX @qG (jX @Zl (jX @UO (jX @UM (jX @UN (jX @jQ (@jR))))))))))))))))))))))))))))))))))))))))))))))))))))))))
def Ng{n:Str}{d:Def}{r:List (Str×Def)}:den ((n,d)::r) n=ax (den r) d:=by funext as;simp [den]
def Nh{n f:Str}{d:Def}{r:List (Str×Def)}(h:(f==n)=gU):den ((n,d)::r) f=den r f:=by funext as;simp [den,h]
theorem vq{f:Str}:∀(n:Nat) {T:List (Str×Def)},((T.take n).all λx=>!(f==x.1))=gS->den T f=den (T.drop n) f
 |0,_,_=>rfl|n+1,[],_=>rfl|n+1,(m,d)::r,h=>by rw [List.take_succ_cons,List.all_cons,zza,Bool.not_eq_true'] at h;exact(Nh h.1).trans (vq n h.2)
def dk{f:Str}{d:Def}{r T:List (Str×Def)}(k:Nat)(h:((T.take k).all λx=>!(f==x.1))=gS:=by decide+kernel)(e:T.drop k=(f,d)::r:=by rfl):den T f=ax (den r) d:=by rw [vq k h,e];exact Ng
end KJ
local macro_rules | `(#v[]) => `(.nil) | `(#v[$x]) => `(.cons $x .nil) | `(#v[$x, $xs,*]) => `(.cons $x #v[$xs,*]) | `(!$n:num) => `(.var $n) | `(¬$n:num) => `(.cst (.int $n))
namespace K50
open L2 Ci KJ
abbrev fv:Def:={["thing"],1,#v[.ret (.and (.ty .int (!0)) (.not (.ty .bool (!0))))],gK}
abbrev dF:Def:={[zu 45,"_law_k"],2,#v[.ite (.cmp .lt (!1) (.blt .len #v[!0])) #v[.ret (.sub (!0) (!1))] .nil,.ite (.cmp .eq (!0) (.lst .nil)) #v[.ret (¬0)] .nil,.ret (.bin .add (.bin .mul (.sub (!0) (.bin .mod (!1) (.blt .len #v[!0]))) (¬31)) (!1))],gK}
abbrev bV:Def:={[zu 45,"_law_k","_law_many","_law_drawn"],3,#v[.set 3 (.bin .mod (.bin .mul (.bin .add (.call (zu 53) #v[!0,!1]) (.bin .mul (¬6151) (.bin .add (!1) (¬1)))) (¬40692)) (¬2147483399)),.ret (.bin .mod (.bin .mod (.bin .add (.bin .mul (!3) (!3)) (.bin .fdiv (!3) (¬31))) (¬2147483629)) (!2))],gK}
abbrev cN:Def:={[zu 45,"_law_at","_law_most","_law_rows","_law_columns","_law_shuts","_law_top","_law_made","_law_row","_law_signs","_law_column","_law_drawn"],3,#v[.set 3 (.bin .add (¬1) (.call (zu 4) #v[!0,!1,!2])),.set 4 (.bin .add (¬1) (.call (zu 4) #v[!0,.bin .add (!1) (¬1),!2])),.set 5 (.sub (.lst #v[¬0,¬2,¬4,¬6]) (.call (zu 4) #v[!0,.bin .add (!1) (¬2),¬4])),.set 6 (.sub (.lst #v[¬1,¬2,¬3,¬10]) (.call (zu 4) #v[!0,.bin .add (!1) (¬3),¬4])),.own 7 (.lst .nil),.cX (.one 8) (.qC (!3)) #v[.set 9 (.cst (.str "")),.cX (.one 10) (.qC (!4)) #v[.set 11 (.call (zu 4) #v[!0,.bin .add (.bin .add (.bin .add (!1) (¬4)) (.bin .mul (!2) (!8))) (!10),.bin .mul (¬12) (!6)]),.set 9 (.bin .add (!9) (.ite (.cmp .lt (.bin .mod (!11) (¬12)) (!5)) (.cst (.str "#")) (.blt .str #v[.bin .fdiv (!11) (¬12)])))],.app 7 (!9)],.ret (.blt .tuple #v[.fG 7])],gK}
abbrev cV:Def:={[zu 45,"_law_at"],2,#v[.ret (.tup #v[.cmp .eq (.call (zu 4) #v[!0,!1,¬2]) (¬0),.sub (.lst #v[¬0,¬1,¬2,¬9]) (.call (zu 4) #v[!0,.bin .add (!1) (¬1),¬4]),.call (zu 4) #v[!0,.bin .add (!1) (¬2),¬4]])],gK}
abbrev bS:Def:={[zu 25,"_law_made","_law_row","_law_signs"],1,#v[.own 1 (.lst .nil),.cX (.two 2 3) (.enum (!0)) #v[.qq 1 (.bJ 2 [2] (.two 0 1) (.enum (!3)) (.cmp .ne (!1) (.cst (.str "#"))) (.tup #v[!2,!0]))],.bC 1,.ret (!1)],gK}
abbrev cq:Def:={[zu 45,"_law_at",zu 25],3,#v[.ret (.tup #v[.bin .sub (.call (zu 4) #v[!0,!1,.bin .add (.blt .len #v[!2]) (¬2)]) (¬1),.bin .sub (.call (zu 4) #v[!0,.bin .add (!1) (¬1),.bin .add (.blt .len #v[.sub (!2) (¬0)]) (¬2)]) (¬1)])],gK}
abbrev cy:Def:={[zu 25,zu 30,"_law_spot","_law_goal","_law_rise","_law_cost_here"],4,#v[.set 4 (.bin .sub (.blt .int #v[.sub (.sub (!0) (.sub (!3) (¬0))) (.sub (!3) (¬1))]) (.blt .int #v[.sub (.sub (!0) (.sub (!2) (¬0))) (.sub (!2) (¬1))])),.set 5 (¬2),.ite (.or (.cmp .gt (!4) (.sub (!1) (¬1))) (.cmp .gt (.bin .sub (¬0) (!4)) (.sub (!1) (¬1)))) #v[.ret (.cst .aC)] .nil,.ite (.and (.cmp .ne (.sub (!2) (¬0)) (.sub (!3) (¬0))) (.cmp .ne (.sub (!2) (¬1)) (.sub (!3) (¬1)))) #v[.ite (.or (.not (.sub (!1) (¬0))) (.or (.cmp .eq (.sub (.sub (!0) (.sub (!2) (¬0))) (.sub (!3) (¬1))) (.cst (.str "#"))) (.cmp .eq (.sub (.sub (!0) (.sub (!3) (¬0))) (.sub (!2) (¬1))) (.cst (.str "#"))))) #v[.ret (.cst .aC)] .nil,.set 5 (¬3)] .nil,.ret (.bin .add (!5) (.ite (.cmp .gt (!4) (¬0)) (.bin .mul (.sub (!1) (¬2)) (!4)) (¬0)))],gK}
abbrev bx:Def:={[zu 25,zu 30,"_law_spot","_law_made","_law_k","_law_row","_law_column","_law_cost_here"],3,#v[.own 3 (.lst .nil),.cX (.one 4) (.qC (¬9)) #v[.set 5 (.bin .add (.bin .sub (.sub (!2) (¬0)) (¬1)) (.bin .fdiv (!4) (¬3))),.set 6 (.bin .add (.bin .sub (.sub (!2) (¬1)) (¬1)) (.bin .mod (!4) (¬3))),.ite (.and (.ch .le .lt (¬0) (!5) (.blt .len #v[!0])) (.and (.ch .le .lt (¬0) (!6) (.blt .len #v[.sub (!0) (¬0)])) (.and (.cmp .ne (!4) (¬4)) (.cmp .ne (.sub (.sub (!0) (!5)) (!6)) (.cst (.str "#")))))) #v[.set 7 (.call (zu 48) #v[!0,!1,!2,.tup #v[!5,!6]]),.ite (.cmp .EW (!7) (.cst .aC)) #v[.app 3 (.tup #v[.tup #v[!5,!6],!7])] .nil] .nil],.bC 3,.ret (!3)],gK}
abbrev aX:Def:={[zu 25,zu 30,"_law_goals","_law_spots_here","_law_steps_here","_law_costs_here","_law_again","_law_spot","_law_goal","_law_cost_here","_law_new"],3,#v[.set 3 (.call (zu 11) #v[!0]),.set 4 (.blt .dict #v[.comp 1 [1,0] (.one 0) (.seq (!3)) (.tup #v[!0,.call (zu 10) #v[!2,!1,!0]])]),.qA 5 (.comp 1 [] (.one 0) (.seq (!2)) (.tup #v[!0,¬0])),.set 6 (.cst (.bl gS)),.Df (!6) #v[.set 6 (.cst (.bl gU)),.cX (.one 7) (.seq (!3)) #v[.cX (.two 8 9) (.seq (.sub (!4) (!7))) #v[.ite (.cmp .xW (!8) (.fG 5)) #v[.set 10 (.bin .add (.sub (.fG 5) (!8)) (!9)),.ite (.or (.cmp .jV (!7) (.fG 5)) (.cmp .lt (!10) (.sub (.fG 5) (!7)))) #v[.put 5 (!7) (!10),.set 6 (.cst (.bl gS))] .nil] .nil]]],.bC 5,.ret (!5)],gK}
abbrev dg:Def:={[zu 25,zu 30,"_law_goals","_law_costs_here","_law_made","_law_spot","_law_steps_here","_law_on"],3,#v[.set 3 (.call (zu 2) #v[!0,!1,!2]),.own 4 (.lst .nil),.cX (.one 5) (.seq (.blt .sorted #v[.blt .rQ #v[!3]])) #v[.set 6 (.call (zu 10) #v[!0,!1,!5]),.set 7 (.bJ 2 [5,3] (.two 0 1) (.seq (!6)) (.and (.cmp .xW (!0) (!3)) (.cmp .eq (.bin .add (.sub (!3) (!0)) (!1)) (.sub (!3) (!2)))) (!0)),.app 4 (.tup #v[!5,.sub (!3) (!5),.ite (.cmp .eq (.sub (!3) (!5)) (¬0)) (.cst .aC) (.sub (!7) (¬0))])],.bC 4,.ret (!4)],gK}
abbrev ez:Def:={["_law_kept","_law_kinds"],1,#v[.set 1 (.lst #v[.HD "NoSign" (!0),.HD "NoSize" (!0),.HD (zu 23) (!0),.HD "NoWay" (!0)]),.ite (.or (.cmp .ne (.OM .j7 (!1) #v[.cst (.bl gS)]) (¬1)) (.or (.not (.HD (zu 0) (!0))) (.not (.HD (zu 12) (!0))))) #v[.ret (.cst (.str "wrong"))] .nil,.ret (.sub (.lst #v[.cst (.str "no sign"),.cst (.str "no size"),.cst (.str (zu 19)),.cst (.str "no way")]) (.OM .index (!1) #v[.cst (.bl gS)]))],gK}
abbrev fg:Def:={["thing"],1,#v[.ret (.and (.ty .tuple (!0)) (.and (.cmp .eq (.blt .len #v[!0]) (¬2)) (.and (.call (zu 56) #v[.sub (!0) (¬0)]) (.call (zu 56) #v[.sub (!0) (¬1)]))))],gK}
abbrev cW:Def:={["floor","spot"],2,#v[.ret (.and (.ch .le .lt (¬0) (.sub (!1) (¬0)) (.blt .len #v[!0])) (.ch .le .lt (¬0) (.sub (!1) (¬1)) (.blt .len #v[.sub (!0) (.sub (!1) (¬0))])))],gK}
abbrev di:Def:={["floor","thing"],2,#v[.ret (.and (.call "is_spot" #v[!1]) (.and (.call (zu 38) #v[!0,!1]) (.cmp .ne (.sub (.sub (!0) (.sub (!1) (¬0))) (.sub (!1) (¬1))) (.glob "WALL" (.str "#")))))],gK}
abbrev aU:Def:={["floor","spot"],2,#v[.ite (.not (.call (zu 37) #v[!0,!1])) #v[.raise (zu 23) "the spot is not on the floor or a wall"] .nil],gK}
abbrev bA:Def:={["floor","goals","goal"],2,#v[.ite (.cmp .eq (.blt .len #v[!1]) (¬0)) #v[.raise (zu 23) "there are no goals"] .nil,.cX (.one 2) (.seq (!1)) #v[.expr (.call (zu 1) #v[!0,!2])]],gK}
abbrev dh:Def:={["one","other"],2,#v[.ret (.and (.cmp .ne (!0) (!1)) (.and (.cmp .le (.blt .abs #v[.bin .sub (.sub (!0) (¬0)) (.sub (!1) (¬0))]) (¬1)) (.cmp .le (.blt .abs #v[.bin .sub (.sub (!0) (¬1)) (.sub (!1) (¬1))]) (¬1))))],gK}
abbrev dG:Def:={["floor","spot"],2,#v[.expr (.call (zu 1) #v[!0,!1]),.ret (.blt .int #v[.sub (.sub (!0) (.sub (!1) (¬0))) (.sub (!1) (¬1))])],gK}
abbrev bK:Def:={["floor","one","other"],3,#v[.ret (.and (.call (zu 37) #v[!0,.tup #v[.sub (!1) (¬0),.sub (!2) (¬1)]]) (.call (zu 37) #v[!0,.tup #v[.sub (!2) (¬0),.sub (!1) (¬1)]]))],gK}
abbrev bM:Def:={["floor","walker","one","other","is_slanting","rise","flat_cost"],4,#v[.ite (.not (.call (zu 44) #v[!2,!3])) #v[.ret (.cst .aC)] .nil,.set 4 (.and (.cmp .ne (.sub (!2) (¬0)) (.sub (!3) (¬0))) (.cmp .ne (.sub (!2) (¬1)) (.sub (!3) (¬1)))),.ite (.and (!4) (.not (.and (.sub (!1) (¬0)) (.call (zu 20) #v[!0,!2,!3])))) #v[.ret (.cst .aC)] .nil,.set 5 (.bin .sub (.call (zu 47) #v[!0,!3]) (.call (zu 47) #v[!0,!2])),.ite (.cmp .gt (.blt .abs #v[!5]) (.sub (!1) (¬1))) #v[.ret (.cst .aC)] .nil,.set 6 (.ite (!4) (.glob "SLANTING_COST" (.int 3)) (.glob "STRAIGHT_COST" (.int 2))),.ret (.bin .add (!6) (.bin .mul (.sub (!1) (¬2)) (.blt .max2 #v[!5,¬0])))],gK}
abbrev bG:Def:={["floor","spot","beside","row","column"],2,#v[.own 2 (.lst .nil),.cX (.one 3) (.uu (.bin .sub (.sub (!1) (¬0)) (¬1)) (.bin .add (.sub (!1) (¬0)) (¬2))) #v[.cX (.one 4) (.uu (.bin .sub (.sub (!1) (¬1)) (¬1)) (.bin .add (.sub (!1) (¬1)) (¬2))) #v[.ite (.and (.cmp .ne (.tup #v[!3,!4]) (!1)) (.call (zu 37) #v[!0,.tup #v[!3,!4]])) #v[.app 2 (.tup #v[!3,!4])] .nil]],.bC 2,.ret (!2)],gK}
abbrev bT:Def:={["floor","walker","spot","steps","other","cost"],3,#v[.expr (.call (zu 1) #v[!0,!2]),.own 3 (.lst .nil),.cX (.one 4) (.seq (.call (zu 16) #v[!0,!2])) #v[.set 5 (.call (zu 28) #v[!0,!1,!2,!4]),.ite (.cmp .EW (!5) (.cst .aC)) #v[.app 3 (.tup #v[!4,!5])] .nil],.bC 3,.ret (!3)],gK}
abbrev dY:Def:={["floor","walker","spot"],3,#v[.ret (.comp 1 [1,2,0] (.one 0) (.seq (.call (zu 17) #v[!0,!1,!2])) (.tup #v[.sub (!0) (¬0),.call (zu 28) #v[!3,!1,.sub (!0) (¬0),!2]]))],gK}
abbrev bL:Def:={["starts","steps","reached","waiting","start","spot","other","cost","together"],2,#v[.k9 2,.k9 3,.cX (.one 4) (.seq (!0)) #v[.put 3 (!4) (.tup #v[¬0,.cst .aC])],.Df (.cmp .gt (.blt .len #v[.fG 3]) (¬0)) #v[.ni 5 3,.eN 2 3 5,.cX (.two 6 7) (.seq (.kU 1 #v[!5])) #v[.set 8 (.bin .add (.sub (.sub (.fG 2) (!5)) (¬0)) (!7)),.ite (.and (.cmp .jV (!6) (.fG 2)) (.or (.cmp .jV (!6) (.fG 3)) (.cmp .lt (!8) (.sub (.sub (.fG 3) (!6)) (¬0))))) #v[.put 3 (!6) (.tup #v[!8,!5])] .nil]],.bC 2,.ret (!2)],gF (zu 50,[1,2,1,0])}
abbrev dH:Def:={["floor","walker","goals","goal"],3,#v[.cX (.one 3) (.seq (!2)) #v[.expr (.call (zu 1) #v[!0,!3])],.ret (.rh (zu 43) #v[!2] (zu 50) [1,2,1,0] [1,0])],gK}
abbrev aF:Def:={["floor","walker","goals"],3,#v[.expr (.call (zu 14) #v[!0,!2]),.ret (.call (zu 41) #v[!0,!1,!2])],gK}
abbrev bz:Def:={["floor","walker","reached","spot","other","cost"],4,#v[.cX (.two 4 5) (.seq (.call (zu 17) #v[!0,!1,!3])) #v[.ite (.cmp .eq (.sub (.sub (!2) (!3)) (¬0)) (.bin .add (!5) (.sub (.sub (!2) (!4)) (¬0)))) #v[.ret (!4)] .nil],.ret (.cst .aC)],gK}
abbrev d8:Def:={["floor","walker","goals","reached"],3,#v[.set 3 (.call (zu 3) #v[!0,!1,!2]),.ret (.comp 1 [1,3,0] (.one 0) (.seq (.blt .sorted #v[!3])) (.tup #v[!0,.sub (.sub (!2) (!0)) (¬0),.call (zu 8) #v[!3,!1,!2,!0]]))],gK}
abbrev fy:Def:={["floor","walker","goals","start","reached","way","spot"],4,#v[.expr (.call (zu 1) #v[!0,!3]),.set 4 (.call (zu 3) #v[!0,!1,!2]),.ite (.cmp .jV (!3) (!4)) #v[.ret (.cst .aC)] .nil,.own 5 (.lst .nil),.set 6 (!3),.Df (.cmp .EW (!6) (.cst .aC)) #v[.app 5 (!6),.set 6 (.call (zu 8) #v[!0,!1,!4,!6])],.bC 5,.ret (!5)],gK}
abbrev bB:Def:={["starts","steps","reached","waiting","start","spot","other","cost","together"],2,#v[.k9 2,.k9 3,.cX (.one 4) (.seq (!0)) #v[.put 3 (!4) (.tup #v[¬0,.cst .aC])],.Df (.cmp .gt (.blt .len #v[.fG 3]) (¬0)) #v[.ni 5 3,.eN 2 3 5,.cX (.two 6 7) (.seq (.kU 1 #v[!5])) #v[.set 8 (.bin .add (.sub (.sub (.fG 2) (!5)) (¬0)) (!7)),.ite (.and (.cmp .jV (!6) (.fG 2)) (.or (.cmp .jV (!6) (.fG 3)) (.cmp .lt (!8) (.sub (.sub (.fG 3) (!6)) (¬0))))) #v[.put 3 (!6) (.tup #v[!8,!5])] .nil]],.bC 2,.ret (!2)],gF (zu 17,[1,2,1,0])}
abbrev bW:Def:={["floor","walker","start"],3,#v[.expr (.call (zu 1) #v[!0,!2]),.ret (.rh (zu 34) #v[.lst #v[!2]] (zu 17) [1,2,1,0] [1,0])],gK}
abbrev bj:Def:={["floor","walker","goals","start","reached","found","least"],4,#v[.expr (.call (zu 14) #v[!0,!2]),.set 4 (.call (zu 24) #v[!0,!1,!3]),.set 5 (.bJ 1 [4] (.one 0) (.seq (.GV (!2))) (.cmp .xW (!0) (!1)) (!0)),.set 6 (.mB (.comp 1 [4] (.one 0) (.seq (!5)) (.sub (.sub (!1) (!0)) (¬0)))),.ret (.bJ 1 [4,6] (.one 0) (.seq (!5)) (.cmp .eq (.sub (.sub (!1) (!0)) (¬0)) (!2)) (!0))],gK}
abbrev aK:Def:={["_law_what",zu 25,zu 30,"_law_goals","_law_start","_law_kept","_law_answer","e"],5,#v[.set 5 (.cst .aC),.set 6 (.cst .aC),.w8 #v[.ite (.cmp .eq (!0) (¬0)) #v[.set 6 (.call "field" #v[!1,!2,!3])] #v[.ite (.cmp .eq (!0) (¬1)) #v[.set 6 (.call "lead" #v[!1,!2,!3,!4])] #v[.set 6 (.call (zu 26) #v[!1,!2,!3,!4])]]] (zu 12) 7 5,.ite (.cmp .is (!5) (.cst .aC)) #v[.ret (!6)] .nil,.ret (.call (zu 35) #v[!5])],gK}
abbrev dc:Def:={[zu 25,zu 30,"_law_way","_law_spots_here","_law_cost_here","_law_k","_law_goal","_law_found"],3,#v[.set 3 (.call (zu 11) #v[!0]),.ite (.or (.not (.ty .list (!2))) (.or (.cmp .eq (!2) (.lst .nil)) (.cmp .ne (.bJ 1 [3] (.one 0) (.seq (!2)) (.cmp .jV (!0) (!1)) (!0)) (.lst .nil)))) #v[.ret (.cst .aC)] .nil,.set 4 (¬0),.cX (.two 5 6) (.enum (.slice (!2) (.some (¬1)) .no)) #v[.set 7 (.bJ 1 [6] (.one 0) (.seq (.call (zu 10) #v[!0,!1,.sub (!2) (!5)])) (.cmp .eq (.sub (!0) (¬0)) (!1)) (.sub (!0) (¬1))),.ite (.cmp .eq (!7) (.lst .nil)) #v[.ret (.cst .aC)] .nil,.set 4 (.bin .add (!4) (.sub (!7) (¬0)))],.ret (!4)],gK}
abbrev cL:Def:={[zu 45,zu 25,zu 30,"_law_spots_here","_law_start","_law_goals","_law_k","_law_due","_law_costs_here","_law_one","_law_way","_law_near","_law_steps_here","_law_every"],1,#v[.set 1 (.call (zu 39) #v[!0,¬0,¬5]),.set 2 (.call (zu 32) #v[!0,¬40]),.set 3 (.call (zu 11) #v[!1]),.set 4 (.call (zu 7) #v[!0,¬48,!1]),.own 5 (.lst .nil),.cX (.one 6) (.qC (.call (zu 4) #v[!0,¬50,¬5])) #v[.app 5 (.call (zu 7) #v[!0,.bin .add (¬51) (.bin .mul (¬2) (!6)),!1]),.ite (.and (.cmp .ne (!3) (.lst .nil)) (.cmp .gt (.call (zu 4) #v[!0,.bin .add (¬60) (!6),¬5]) (¬0))) #v[.put 5 (.neg (¬1)) (.sub (!3) (.call (zu 4) #v[!0,.bin .add (¬65) (!6),.blt .len #v[!3]]))] .nil],.ite (.or (.cmp .eq (.fG 5) (.lst .nil)) (.cmp .ne (.bJ 1 [3] (.one 0) (.seq (.fG 5)) (.cmp .jV (!0) (!1)) (!0)) (.lst .nil))) #v[.bC 5,.ret (.cmp .eq (.comp 1 [2,4,5,1] (.one 0) (.qC (¬3)) (.call (zu 9) #v[!0,!4,!1,!3,!2])) (.bin .mul (.lst #v[.cst (.str (zu 19))]) (¬3)))] .nil,.bC 5,.set 7 (.call (zu 40) #v[!1,!2,!5]),.bC 5,.ite (.cmp .ne (.call (zu 9) #v[¬0,!1,!2,!5,!4]) (!7)) #v[.ret (.cst (.bl gU))] .nil,.set 8 (.blt .dict #v[.comp 1 [] (.one 0) (.seq (!7)) (.slice (!0) .no (.some (¬2)))]),.set 9 (.blt .dict #v[.comp 1 [] (.one 0) (.seq (.call "field" #v[!1,!2,.slice (.fG 5) .no (.some (¬1))])) (.slice (!0) .no (.some (¬2)))]),.ite (.cmp .ne (.bJ 1 [9,8] (.one 0) (.seq (!9)) (.or (.cmp .jV (!0) (!2)) (.cmp .gt (.sub (!2) (!0)) (.sub (!1) (!0)))) (!0)) (.lst .nil)) #v[.ret (.cst (.bl gU))] .nil,.bC 5,.set 10 (.call (zu 9) #v[¬1,!1,!2,!5,!4]),.bC 5,.set 11 (.call (zu 9) #v[¬2,!1,!2,!5,!4]),.ite (.cmp .jV (!4) (!3)) #v[.ret (.and (.cmp .eq (!10) (.cst (.str (zu 19)))) (.cmp .eq (!11) (.cst (.str (zu 19)))))] .nil,.ite (.cmp .jV (!4) (!8)) #v[.ret (.and (.cmp .is (!10) (.cst .aC)) (.cmp .eq (!11) (.lst .nil)))] .nil,.set 12 (.blt .dict #v[.comp 1 [] (.one 0) (.seq (!7)) (.tup #v[.sub (!0) (¬0),.sub (!0) (¬2)])]),.ite (.or (.cmp .ne (.sub (!10) (¬0)) (!4)) (.or (.cmp .jV (.sub (!10) (.neg (¬1))) (.fG 5)) (.cmp .ne (.slice (!10) (.some (¬1)) .no) (.comp 1 [12] (.one 0) (.seq (.slice (!10) .no (.some (.neg (¬1))))) (.sub (!1) (!0)))))) #v[.ret (.cst (.bl gU))] .nil,.ite (.or (.cmp .ne (.call (zu 57) #v[!1,!2,!10]) (.sub (!8) (!4))) (.cmp .jV (.sub (!10) (.neg (¬1))) (!11))) #v[.ret (.cst (.bl gU))] .nil,.set 13 (.bJ 1 [2,5,1] (.one 0) (.seq (!3)) (.cmp .xW (!0) (.fG 2)) (.tup #v[!0,.call (zu 2) #v[!3,!1,.lst #v[!0]]])),.ret (.cmp .eq (!11) (.bJ 2 [4,8] (.two 0 1) (.seq (!13)) (.cmp .eq (.get (!1) (!2)) (.sub (!3) (!2))) (!0)))],gK}
abbrev rB:Def:={[zu 45,"_law_turn"],1,#v[.cX (.one 1) (.qC (¬6)) #v[.ite (.not (.call (zu 42) #v[.comp 1 [1] (.one 0) (.seq (!0)) (.bin .add (!0) (.bin .mul (¬7919) (!1)))])) #v[.ret (.cst (.bl gU))] .nil,.ite (.cmp .eq (!0) (.lst .nil)) #v[.brk] .nil],.ret (.cst (.bl gS))],gK}
def T0:List (Str×Def):=[]
abbrev T1:List (Str×Def):=((zu 56:Str),fv)::T0
abbrev T2:List (Str×Def):=((zu 53:Str),dF)::T1
abbrev T3:List (Str×Def):=((zu 4:Str),bV)::T2
abbrev T4:List (Str×Def):=((zu 39:Str),cN)::T3
abbrev T5:List (Str×Def):=((zu 32:Str),cV)::T4
abbrev T6:List (Str×Def):=((zu 11:Str),bS)::T5
abbrev T7:List (Str×Def):=((zu 7:Str),cq)::T6
abbrev T8:List (Str×Def):=((zu 48:Str),cy)::T7
abbrev T9:List (Str×Def):=((zu 10:Str),bx)::T8
abbrev Uh:List (Str×Def):=((zu 2:Str),aX)::T9
abbrev X6:List (Str×Def):=((zu 40:Str),dg)::Uh
abbrev Vo:List (Str×Def):=((zu 35:Str),ez)::X6
abbrev X7:List (Str×Def):=(("is_spot":Str),fg)::Vo
abbrev MA:List (Str×Def):=((zu 38:Str),cW)::X7
abbrev Hx:List (Str×Def):=((zu 37:Str),di)::MA
abbrev Qj:List (Str×Def):=((zu 1:Str),aU)::Hx
abbrev X8:List (Str×Def):=((zu 14:Str),bA)::Qj
abbrev Vp:List (Str×Def):=((zu 44:Str),dh)::X8
abbrev Vq:List (Str×Def):=((zu 47:Str),dG)::Vp
abbrev MB:List (Str×Def):=((zu 20:Str),bK)::Vq
abbrev Vt:List (Str×Def):=((zu 28:Str),bM)::MB
abbrev HM:List (Str×Def):=((zu 16:Str),bG)::Vt
abbrev Ui:List (Str×Def):=((zu 17:Str),bT)::HM
abbrev Uj:List (Str×Def):=((zu 50:Str),dY)::Ui
abbrev QY:List (Str×Def):=((zu 43:Str),bL)::Uj
abbrev Lv:List (Str×Def):=((zu 41:Str),dH)::QY
abbrev QZ:List (Str×Def):=((zu 3:Str),aF)::Lv
abbrev Qk:List (Str×Def):=((zu 8:Str),bz)::QZ
abbrev Q0:List (Str×Def):=(("field":Str),d8)::Qk
abbrev Vu:List (Str×Def):=(("lead":Str),fy)::Q0
abbrev Q2:List (Str×Def):=((zu 34:Str),bB)::Vu
abbrev Ql:List (Str×Def):=((zu 24:Str),bW)::Q2
abbrev Hy:List (Str×Def):=((zu 26:Str),bj)::Ql
abbrev Uk:List (Str×Def):=((zu 9:Str),aK)::Hy
abbrev Ba:List (Str×Def):=((zu 57:Str),dc)::Uk
abbrev X9:List (Str×Def):=((zu 42:Str),cL)::Ba
def Rn:den T2 (zu 53)=ax (den T1) dF:=dk 0
def Ro:den T3 (zu 4)=ax (den T2) bV:=dk 0
def Rp:den T4 (zu 4)=ax (den T2) bV:=dk 1
def Rq:den T6 (zu 4)=ax (den T2) bV:=dk 3
def Rr:den T8 (zu 48)=ax (den T7) cy:=dk 0
def Rt:den T9 (zu 11)=ax (den T5) bS:=dk 3
def Ru:den T9 (zu 10)=ax (den T8) bx:=dk 0
def HY:den Uh (zu 2)=ax (den T9) aX:=dk 0
def M5:den Uh (zu 10)=ax (den T8) bx:=dk 1
def M6:den Vo (zu 56)=ax (den T0) fv:=dk 11
def HZ:den MA "is_spot"=ax (den Vo) fg:=dk 1
def H9:den MA (zu 38)=ax (den X7) cW:=dk 0
def zu:den Hx (zu 37)=ax (den MA) di:=dk 0
def tx:den Qj (zu 1)=ax (den Hx) aU:=dk 0
def Ia:den Vp (zu 1)=ax (den Hx) aU:=dk 2
def Ib:den Vq (zu 37)=ax (den MA) di:=dk 4
def Ic:den MB (zu 44)=ax (den X8) dh:=dk 2
def Ig:den MB (zu 20)=ax (den Vq) bK:=dk 0
def Ie:den MB (zu 47)=ax (den Vp) dG:=dk 1
def Ih:den Vt (zu 37)=ax (den MA) di:=dk 6
def Ii:den HM (zu 1)=ax (den Hx) aU:=dk 6
def Ik:den HM (zu 16)=ax (den Vt) bG:=dk 0
def Ij:den HM (zu 28)=ax (den MB) bM:=dk 1
def Im:den Ui (zu 17)=ax (den HM) bT:=dk 0
def Il:den Ui (zu 28)=ax (den MB) bM:=dk 2
def Io:den Uj (zu 50)=ax (den Ui) dY:=dk 0
def Ip:den QY (zu 1)=ax (den Hx) aU:=dk 9
def Iq:den QY (zu 43)=ax (den Uj) bL:=dk 0
def zv:den Lv (zu 14)=ax (den Qj) bA:=dk 9
def Ir:den Lv (zu 41)=ax (den QY) dH:=dk 0
def Iu:den QZ (zu 17)=ax (den HM) bT:=dk 4
def zw:den Qk (zu 3)=ax (den Lv) aF:=dk 1
def Iv:den Qk (zu 8)=ax (den QZ) bz:=dk 0
def jf:den Q0 (zu 1)=ax (den Hx) aU:=dk 13
def tD:den Q0 (zu 3)=ax (den Lv) aF:=dk 2
def zx:den Q0 (zu 8)=ax (den QZ) bz:=dk 1
def Iw:den Vu (zu 17)=ax (den HM) bT:=dk 7
def zy:den Q2 (zu 1)=ax (den Hx) aU:=dk 15
def Iy:den Q2 (zu 34)=ax (den Vu) bB:=dk 0
def tG:den Ql (zu 14)=ax (den Qj) bA:=dk 15
def zA:den Ql (zu 24)=ax (den Q2) bW:=dk 0
def zC:den Hy "field"=ax (den Qk) d8:=dk 4
def nA:den Hy "lead"=ax (den Q0) fy:=dk 3
def tH:den Hy (zu 26)=ax (den Ql) bj:=dk 0
def Iz:den Hy (zu 35)=ax (den X6) ez:=dk 21
def M7:den Uk (zu 11)=ax (den T5) bS:=dk 28
def M8:den Uk (zu 10)=ax (den T8) bx:=dk 25
def Na:den Ba (zu 39)=ax (den T3) cN:=dk 31
def Nb:den Ba (zu 32)=ax (den T4) cV:=dk 30
def Nc:den Ba (zu 11)=ax (den T5) bS:=dk 29
def Nd:den Ba (zu 7)=ax (den T6) cq:=dk 28
def M9:den Ba (zu 4)=ax (den T2) bV:=dk 32
def gX:den Ba (zu 9)=ax (den Hy) aK:=dk 1
def IB:den Ba (zu 40)=ax (den Uh) dg:=dk 24
def IC:den Ba "field"=ax (den Qk) d8:=dk 6
def ID:den Ba (zu 57)=ax (den Uk) dc:=dk 0
def IA:den Ba (zu 2)=ax (den T9) aX:=dk 25
def IE:den X9 (zu 42)=ax (den Ba) cL:=dk 0
noncomputable abbrev sp(r c:Int):PV:=.tup [.int r,.int c]
noncomputable abbrev fE(ns:List Int):PV:=.lst (ns.map .int)
theorem aI{i:Int}:dX .abs [.int i]=.ok (.int (if i<0 then -i else i)):=rfl
theorem mX{i j:Int}:dX .max2 [.int i,.int j]=.ok (.int (if j>i then j else i)):=rfl
theorem Yj:er .gt=ym:=rfl
theorem Ze{i j:Int}:ym (.int i) (.int j)=.ok (.bl (decide (j<i))):=rfl
theorem Rc:er .EW=iZ:=rfl
noncomputable abbrev wk(sl:Bool)(cl pr:Int):PV:=.tup [.bl sl,.int cl,.int pr]
theorem Tj{r c:Int}:aG (sp r c) (.int 0)=.ok (.int r):=rfl
theorem Tn{r c:Int}:aG (sp r c) (.int 1)=.ok (.int c):=rfl
theorem Zw{sl:Bool}{cl pr:Int}:aG (wk sl cl pr) (.int 0)=.ok (.bl sl):=rfl
theorem Zx{sl:Bool}{cl pr:Int}:aG (wk sl cl pr) (.int 1)=.ok (.int cl):=rfl
theorem TM{sl:Bool}{cl pr:Int}:aG (wk sl cl pr) (.int 2)=.ok (.int pr):=rfl
theorem nI{i j:Int}:gE (.int i) (.int j)=.ok (.bl (!(i==j))):=rfl
theorem eI{i j:Int}:fJ (.int i) (.int j)=.ok (.bl (i==j)):=rfl
theorem nS{r c a b:Int}:gE (sp r c) (sp a b)=.ok (.bl (!((r==a)&&((c==b)&&gS)))):=rfl
theorem eS{r c a b:Int}:fJ (sp r c) (sp a b)=.ok (.bl ((r==a)&&((c==b)&&gS))):=rfl
theorem Yl:er .is=mG:=rfl
theorem MJ{a b:Type}{c:Str}{f:a->Res b}:(Res.exc c:Res a).bind f=.exc c:=rfl
abbrev J2:=jX @Tj (jX @Tn (jX @Zw (jX @Zx (jX @TM (jX @aI (jX @mX (jX @Yj (jX @Ze (jX @nI (jX @eI (jX @nS (jX @eS (jX @Rc (jX @Yl (jX @MJ (jX @UM (jX @UO (@UN))))))))))))))))))
set_option hygiene false
local macro_rules|`(tactic|simp! only [$x,*] $[$l:location]?)=>do let q<-("ax cO cM aD gO aJ cQ zL vE gW nu kl j2 Nat.reduceAdd Nat.reduceSub reduceIte ite_true ite_false BEq.rfl beq_self_eq_true m9 QJ Zg Zn Zo Zm sv Zq Zp MH Ly Lz Q9 Q8 Q7 Q6 Yi Yo Yn Ym Yk Rf oLt oLe lL lT lS tL U8 Zt BS jA jB jC jD jE jF jG jH jI jJ jK jL jM jN jO jP KJ.qG Zl UO UM UN jQ jR Tj Tn Zw Zx TM aI mX Yj Ze nI eI nS eS Rc Yl MJ".splitOn " ").toArray.mapM fun n=>`(Lean.Parser.Tactic.simpLemma|$(Lean.mkIdent n.toName):ident);`(tactic|simp only [$[$q:simpLemma],*,$x,*] $[$l]?)
local macro_rules|`(tactic|dsimp! only [$x,*] $[$l:location]?)=>do let q<-("ax cO cM aD gO aJ cQ zL vE gW nu kl j2 Nat.reduceAdd Nat.reduceSub reduceIte ite_true ite_false BEq.rfl beq_self_eq_true J J2".splitOn " ").toArray.mapM fun n=>`(Lean.Parser.Tactic.simpLemma|$(Lean.mkIdent n.toName):ident);`(tactic|simp only [$[$q:simpLemma],*,$x,*] $[$l]?)
set_option hygiene true
theorem tW(F:aL)(i:Int):ax F fv [.int i]=.ok (.bl gS):=by rfl
def gV{a:Type}{xs:List a}{k:Nat}(h:k<xs.length):qZ xs (k:Int)=gF xs[k]:=by
 unfold qZ B9;have:((k:Nat):Int)<(xs.length:Int):=by lia
 simp [this,h]
def y8{k:Int}(a:0<=k)(h:k<ns.length):∃m,qZ (ns.map PV.int) k=gF (.int m):=by let(j,rfl):=fi a;refine{ns[j]'(by lia),?_};rw [gV (k:=j) (by simp;lia)];simp
def Ga(ns:List Int)(n:Nat):Ci.plain (n+1) (.lst (ns.map .int))=gS:=by
 simp! [Ci.plain,c5,fm]
 rintro x ⟨i,_,rfl⟩
 cases n<;>rfl
def eq_nil(ns:List Int):fJ (fE ns) (.lst [])=.ok (.bl (decide (ns=[]))):=by have e:xk (fE ns)=gS:=Ga ns 8;unfold fJ;rw [e];cases ns<;>rfl
def HV(F:aL)(ns:List Int)(k:Int)(hk:0<=k):∃m,ax F dF [fE ns,.int k]=.ok (.int m):=by
 simp! only [dF,zzl,eq_nil];by_cases h:k<(ns.length:Int)
 .let(m,e):=y8 hk h;refine{m,?_};simp! only [h,decide_true,aG,e]
 .simp! only [h,decide_false,eq_nil];cases ns with
  |nil=>exact{0,rfl}|cons n ns=>
   have hl:(0:Int)<((n::ns).length:Int):=by simp! [cu];lia
   let(m,e):=y8 (ns:=n::ns) (k:=k%((n::ns).length:Int)) (Int.emod_nonneg _ (by lia)) (Int.emod_lt_of_pos _ hl);refine{m*31+k,?_};have b:(aQ m||aQ 31)=gS:=by rw [eU];exact .inr (by decide)
   have a:aG (fE (n::ns)) (.int (k%((n::ns).length:Int)))=.ok (.int m):=by simp! [aG,e];rfl
   have c:decide ((n::ns)=[])=gU:=rfl;simp! [cu] at hl a;simp! only [c,zzl,hl,a,b]
def Kj(F:aL)(f:∀ns k,0<=k->∃m,F (zu 53) [fE ns,.int k]=.ok (.int m))(ns:List Int)(k q:Int)(hk:0<=k)(a:0<q):∃m,ax F bV [fE ns,.int k,.int q]=.ok (.int m)/\0<=m/\m<q:=by
 let(m,e):=f ns k hk;have g:(aQ 6151||aQ (k+1))=gS:=by rw [eU];exact .inl (by decide)
 have h:(aQ (m+6151*(k+1))||aQ 40692)=gS:=by rw [eU];exact .inr (by decide)
 have c:(0:Int)<2147483399:=by decide
 have i:(0:Int)<2147483629:=by decide
 have j:(0:Int)<31/\(31:Int)<1073741824:=by decide
 have o:=Int.emod_nonneg ((m+6151*(k+1))*40692) (b:=2147483399) (by decide);have p:=Int.emod_lt_of_pos ((m+6151*(k+1))*40692) c;refine{((((m+6151*(k+1))*40692%2147483399)*((m+6151*(k+1))*40692%2147483399)+((m+6151*(k+1))*40692%2147483399)/31)%2147483629)%q,?_,Int.emod_nonneg _ (by lia),Int.emod_lt_of_pos _ a};generalize hd:(m+6151*(k+1))*40692%2147483399=d at o p
 have r:(aQ d||aQ d)=gS:=by
  have:aQ d=gS:=by simp! [aQ,zza,zzN];lia
  rw [this];rfl
 simp! only [bV,fE] at e⊢;simp! only [e,g,h,c,i,j,hd,r,a,and_self]
def m8(a:List Str):Prop:=a.length<=6/\∀z∈a,z.length<=6
noncomputable abbrev fl(a:List Str):PV:=.tup (a.map .str)
abbrev cd(a:List Str)(r c:Nat):Option Nat:=(a[r]?).bind λz=>z.cps.toList[c]?
abbrev HI(a:List Str)(r c:Nat):Bool:=match cd a r c with|some x=>x !=35|none=>gU
abbrev cE(a:List Str)(r c:Int):Bool:=decide (0<=r)&&decide (0<=c)&&HI a r.toNat c.toNat
def xY(F:aL)(h:∀i,F (zu 56) [.int i]=.ok (.bl gS))(r c:Int):ax F fg [sp r c]=.ok (.bl gS):=by have a:aG (sp r c) (.int 0)=.ok (.int r):=rfl;have b:aG (sp r c) (.int 1)=.ok (.int c):=rfl;have d:fJ (.int ((2:Nat):Int)) (.int 2)=.ok (.bl gS):=rfl;simp! only [fg,xE,h,a,b,d]
def SS(F:aL)(a:List Str)(R:m8 a)(r c:Int):ax F cW [fl a,sp r c]=.ok (.bl (decide (0<=r)&&decide (0<=c)&&(cd a r.toNat c.toNat).isSome)):=by
 have g:aG (sp r c) (.int 0)=.ok (.int r):=rfl;have h:aG (sp r c) (.int 1)=.ok (.int c):=rfl;simp! only [cW,xE,g,h,wy,wA,zzl];by_cases h0:0<=r
 .by_cases f:r<(a.length:Int)
  .let(j,rfl):=fi h0;have d:j<a.length:=by lia
   have m:aG (fl a) (.int (j:Int))=.ok (.str a[j]):=by simp! [aG,fl];rw [gV (k:=j) (zx6 d)];simp [Res.of]
   have o:(a[j]).length<=dW:=c6 (R.2 _ (List.getElem_mem d)) (by decide);have p:(a[j]).cps.size=(a[j]).length:=rfl;simp! only [h0,f,decide_true,m,o];by_cases e:0<=c
   .let(i,rfl):=fi e;simp! only [e,decide_true,cd,fW,zzg d,Option.bind_some,Bool.and_self,Bool.true_and];refine congrArg (λb=>Res.ok (PV.bl b)) ?_;rw [Bool.eq_iff_iff];simp [p]
   .simp [ax,cO,cM,aD,gO,aJ,cQ,zL,vE,gW,nu,kl,j2,Nat.reduceAdd,Nat.reduceSub,reduceIte,ite_true,ite_false,BEq.rfl,beq_self_eq_true,J,e]
  .have:cd a r.toNat c.toNat=gK:=by
    unfold cd;rw [List.getElem?_eq_none (by lia)];rfl
   simp [ax,cO,cM,aD,gO,aJ,cQ,zL,vE,gW,nu,kl,j2,Nat.reduceAdd,Nat.reduceSub,reduceIte,ite_true,ite_false,BEq.rfl,beq_self_eq_true,J,h0,f,this]
 .simp [ax,cO,cM,aD,gO,aJ,cQ,zL,vE,gW,nu,kl,j2,Nat.reduceAdd,Nat.reduceSub,reduceIte,ite_true,ite_false,BEq.rfl,beq_self_eq_true,J,h0]
def Gu{a:List Str}(h:a[j]?=gF z):aG (fl a) (.int (j:Int))=.ok (.str z):=by let(b,rfl):=a9.1 h;simp! [aG,fl];rw [gV (k:=j) (zx6 b)];simp [Res.of]
def KI{i x:Nat}(hz:z.length<=dW)(h:z.cps.toList[i]?=gF x):aG (.str z) (.int (i:Int))=.ok (.str {#[x]}):=by let(a,rfl):=a9.1 h;simp! [aG,hz,if_true];rw [gV (k:=i) a];rfl
def DX{a:List Str}(R:m8 a){i x:Nat}(h:cd a j i=gF x):∃z,a[j]?=gF z/\aG (fl a) (.int (j:Int))=.ok (.str z)/\aG (.str z) (.int (i:Int))=.ok (.str {#[x]}):=by
 unfold cd at h;cases b:a[j]? with
 |none=>rw [b] at h;cases h
 |some z=>rw [b] at h;exact{z,rfl,Gu b,KI (c6 (R.2 _ (a0 b)) (by decide)) h}
def yy(x:Nat):gE (.str {#[x]}) (.str "#")=.ok (.bl (x !=35)):=by
 have:(("#":Str))={#[35]}:=by decide+kernel
 rw [this];show Res.ok (PV.bl (!(({#[x]}:Str)=={#[35]})))=_
 congr 2
 rw [bne,Bool.eq_iff_iff];simp
def Kb(F:aL)(hs:∀r c,F "is_spot" [sp r c]=.ok (.bl gS))(d:∀a,m8 a->∀r c,F (zu 38) [fl a,sp r c]=.ok (.bl (decide (0<=r)&&decide (0<=c)&&(cd a r.toNat c.toNat).isSome)))
 (a:List Str) (R:m8 a) (r c:Int):ax F di [fl a,sp r c]=.ok (.bl (cE a r c)):=by
 have e:aG (sp r c) (.int 0)=.ok (.int r):=rfl;have f:aG (sp r c) (.int 1)=.ok (.int c):=rfl;simp! only [di,hs,d a R,e,f];unfold cE HI;by_cases h0:0<=r
 .by_cases b:0<=c
  .let(j,rfl):=fi h0;let(i,rfl):=fi b
   simp! [h0,b,decide_true,Bool.true_and,Bool.and_self,fW];cases g:cd a j i with
   |none=>simp [ax,cO,cM,aD,gO,aJ,cQ,zL,vE,gW,nu,kl,j2,Nat.reduceAdd,Nat.reduceSub,reduceIte,ite_true,ite_false,BEq.rfl,beq_self_eq_true,J]|some x=>let(z,_,h,k):=DX R g;simp! only [Option.isSome_some,h,k,yy]
  .simp [ax,cO,cM,aD,gO,aJ,cQ,zL,vE,gW,nu,kl,j2,Nat.reduceAdd,Nat.reduceSub,reduceIte,ite_true,ite_false,BEq.rfl,beq_self_eq_true,J,b]
 .simp [ax,cO,cM,aD,gO,aJ,cQ,zL,vE,gW,nu,kl,j2,Nat.reduceAdd,Nat.reduceSub,reduceIte,ite_true,ite_false,BEq.rfl,beq_self_eq_true,J,h0]
def uc(F:aL)(b:∀a,m8 a->∀r c,F (zu 37) [fl a,sp r c]=.ok (.bl (cE a r c)))(a:List Str)(R:m8 a)(r c:Int)(h:cE a r c=gS):ax F aU [fl a,sp r c]=.ok .aC:=by simp! only [aU,b a R,h]
noncomputable abbrev Ml(p:Int×Int):PV:=sp p.1 p.2
theorem cU{a:Type}{p:a->PV}{g:a->PV}:∀{xs:List a},(∀x∈xs,f (p x)=.ok (gF (g x)))->aH f (xs.map p)=.ok (xs.map g)
 |[],_=>rfl|x::xs,h=>by simp! [a7,aH,h x (cP ..),Res.well,Res.bind,cU (xs:=xs) λy b=>h y (bc _ b),oc]
def nR{a:List Str}:cE a r c=gS↔0<=r/\0<=c/\HI a r.toNat c.toNat=gS:=by simp! [cE,zza,zzN,and_assoc]
theorem jh{body:PV->Sl->Res Fl}{P:Nat->Sl->Prop}:∀(xs:List PV) (k:Nat) (env:Sl),P k env->(∀i x env,xs[i]?=gF x->P (k+i) env->∃a,body x env=.ok (.nx a)/\P (k+i+1) a)->∃a,forL body xs env=.ok (.nx a)/\P (k+xs.length) a
 |[],k,env,h,_=>⟨env,rfl,h⟩|x::xs,k,env,h,g=>by
  let(b,c,d):=g 0 x env rfl h;let(e,f,j):=jh xs (k+1) b d λi y env m o=>by let(p,q,r):=g (i+1) y env m (by rw [show k+(i+1)=k+1+i by lia];exact o);exact{p,q,by rw [show k+1+i+1=k+(i+1)+1 by lia];exact r}
  refine{e,?_,by rw [cu,show k+(xs.length+1)=k+1+xs.length by lia];exact j};simp! [forL,c,m9,f]
def Gr{n i:Nat}{x:PV}(h:(fb 0 n)[i]?=gF x):i<n/\x=.int (i:Int):=by simp! [fb,cS,b0] at h;let(j,c,rfl):=h;let(a,b):=a9.1 c;simp! [List.getElem_range] at b;subst b;simp! [List.length_range] at a;exact{a,by simp}
def iL(F:aL):Prop:=∀(a:List Int) (k q:Int),0<=k->0<q->∃m,F (zu 4) [fE a,.int k,.int q]=.ok (.int m)/\0<=m/\m<q
def tO{a b m:Int}(e:0<=m)(h1:m<4):∃v,aG (.lst [.int a,.int b,.int c,.int d]) (.int m)=.ok (.int v)/\(v=a\/v=b\/v=c\/v=d):=by
 have:m=0\/m=1\/m=2\/m=3:=by lia
 rcases this with rfl|rfl|rfl|rfl
 .exact{a,rfl,.inl rfl}
 .exact{b,rfl,.inr (.inl rfl)}
 .exact{c,rfl,.inr (.inr (.inl rfl))}
 .exact{d,rfl,.inr (.inr (.inr rfl))}
abbrev LL:Ss:=#v[.set 11 (.call (zu 4) #v[!0,.bin .add (.bin .add (.bin .add (!1) (¬4)) (.bin .mul (!2) (!8))) (!10),.bin .mul (¬12) (!6)]),.set 9 (.bin .add (!9) (.ite (.cmp .lt (.bin .mod (!11) (¬12)) (!5)) (.cst (.str "#")) (.blt .str #v[.bin .fdiv (!11) (¬12)])))]
abbrev Nm:Ss:=#v[.set 9 (.cst (.str "")),.cX (.one 10) (.qC (!4)) LL,.app 7 (!9)]
structure Fl(aa:List Str)(w:Nat):Prop where
 qD:m8 aa
 ne:0<aa.length
 w1:1<=w
 Kx:∀z∈aa,z.length=w
 dig:∀z∈aa,∀x∈z.cps.toList,x=35\/(48<=x/\x<=57)
def K8{v:Int}(a:0<=v)(h1:v<10):dX .str [.int v]=.ok (.str {#[48+v.toNat]}):=by
 let(n,rfl):=fi a;have key:∀k:Fin 10,(((k.1:Nat):Int).natAbs.log2<1920)/\((toString ((k.1:Nat):Int)):Str)={#[48+k.1]}:=by decide+kernel
 have k:=key {n,Int.ofNat_lt.1 h1};show(if _ then Res.ok (PV.str _) else _)=_;rw [if_pos k.1,fW,k.2]
def Jx{x:Nat}(b:48<=x)(h1:x<=57):dX .int [.str {#[x]}]=.ok (.int ((x:Int)-48)):=by
 have key:∀k:Fin 10,PySem.intText? ({#[48+k.1]}:Str)=gF (((48+k.1:Nat):Int)-48):=by decide+kernel
 let(k,rfl):=Nat.exists_eq_add_of_le b;have e:=key {k,Nat.lt_succ_of_le (Nat.le_of_add_le_add_left (a:=48) h1)};show(if({#[48+k]}:Str).length<=640 then(Res.of (PySem.intText? ({#[48+k]}:Str))).bind λn=>Res.ok (PV.int n) else .bad)=_;rw [if_pos (show({#[48+k]}:Str).length<=640 from(by show 1<=640;decide)),e];rfl
def Oo(F:aL)(B:iL F)(ns:List Int)(q a b d tp:Int)(k:0<=q)(E:q<=6)(h1:1<=tp)(G:tp<=10)(own:PV)(i n:Nat)(H:n<=6)(p r:Ci.Slot):
 ∃(z:Str) (f g:Ci.Slot),z.length=n/\(∀x∈z.cps.toList,x=35\/(48<=x/\x<=57))/\forL (λx env=>((Tg.one 10).put x env).bind λh=>aD F LL h) (fb 0 n) [.val (fE ns),.val (.int 0),.val (.int q),.val (.int a),.val (.int b),.val (.int d),.val (.int tp),.own own,.val (.int i),.val (.str ""),p,r]=
  .ok (.nx [.val (fE ns),.val (.int 0),.val (.int q),.val (.int a),.val (.int b),.val (.int d),.val (.int tp),.own own,.val (.int i),.val (.str z),f,g]):=by
 let(h,e,z,f,g,s,hd,rfl):=jh (body:=λx env=>((Tg.one 10).put x env).bind λh=>aD F LL h) (P:=λj env=>∃(z:Str) (f g:Ci.Slot),z.length=j/\(∀x∈z.cps.toList,x=35\/(48<=x/\x<=57))/\env=[.val (fE ns),.val (.int 0),.val (.int q),.val (.int a),.val (.int b),.val (.int d),.val (.int tp),.own own,.val (.int i),.val (.str z),f,g]) (fb 0 n) 0 [.val (fE ns),.val (.int 0),.val (.int q),.val (.int a),.val (.int b),.val (.int d),.val (.int tp),.own own,.val (.int i),.val (.str ""),p,r] {_,_,_,by decide+kernel,by decide+kernel,rfl} (by
  intro j x env c C;let(I,rfl):=Gr c;let(z,f,g,s,hd,rfl):=C;let(m,t,m0,m1):=B ns (0+4+q*(i:Int)+(j:Int)) (12*tp) (by have:=Int.mul_nonneg k (Int.natCast_nonneg i);lia) (by lia)
  have u:(aQ q||aQ (i:Int))=gS:=by
   have:aQ q=gS:=by simp! [aQ,zza,zzN];lia
   rw [this];rfl
  have w:(aQ 12||aQ tp)=gS:=by rw [eU];exact .inl (by decide)
  have y:(0:Int)<12:=by decide
  have A:(0:Int)<12/\(12:Int)<1073741824:=by decide
  have D:=K8 (v:=m/12) (by lia) (by lia);have o:(("#":Str))={#[35]}:=by decide+kernel
  by_cases hm:m%12<d
  .refine{[.val (fE ns),.val (.int 0),.val (.int q),.val (.int a),.val (.int b),.val (.int d),.val (.int tp),.own own,.val (.int i),.val (.str (z++"#")),.val (.int j),.val (.int m)],?_,_,_,_,?_,?_,rfl}
   .have l:z.length+(("#":Str)).length<=dW:=c6 (show _<=8 by rw [o];show z.length+1<=8;lia) (by decide);simp! only [LL,u,w,y,A,t,hm,decide_true,l,and_self]
   .rw [Str.length_append,o];show z.length+1=_;lia
   .rw [o];show∀x∈(z.cps++#[35]).toList,_;intro x c;simp! [Array.toList_append,List.mem_append,eo] at c;rcases c with c|c
    .exact hd x c
    .exact .inl c
  .refine{[.val (fE ns),.val (.int 0),.val (.int q),.val (.int a),.val (.int b),.val (.int d),.val (.int tp),.own own,.val (.int i),.val (.str (z++{#[48+(m/12).toNat]})),.val (.int j),.val (.int m)],?_,_,_,_,?_,?_,rfl}
   .have l:z.length+({#[48+(m/12).toNat]}:Str).length<=dW:=c6 (show z.length+1<=8 by lia) (by decide);simp! only [LL,u,w,y,A,t,hm,decide_false,l,and_self,D]
   .rw [Str.length_append];show z.length+1=_;lia
   .show∀x∈(z.cps++#[48+(m/12).toNat]).toList,_
    intro x c;simp! [Array.toList_append,List.mem_append,eo] at c;rcases c with c|c
    .exact hd x c
    .exact .inr (by lia))
 refine{z,f,g,?_,hd,e};simpa [fb] using s
def BP(F:aL)(j:iL F)(ns:List Int)(q:Int)(W:1<=q)(C:q<=6):∃f w,Fl f w/\ax F cN [fE ns,.int 0,.int q]=.ok (fl f):=by
 let(a,D,X,Y):=j ns 0 q (by decide) (by lia);let(b,E,Z,b6):=j ns (0+1) q (by decide) (by lia);let(c,G,c0,H):=j ns (0+2) 4 (by decide) (by decide);let(d,I,K,d4):=j ns (0+3) 4 (by decide) (by decide);let(k,L,hs):=tO (a:=0) (b:=2) (c:=4) (d:=6) c0 H;let(tp,M,ht):=tO (a:=1) (b:=2) (c:=3) (d:=10) K d4;have N:1<=tp:=by lia
 have O:tp<=10:=by lia
 have Q:bf (1+a)=gS:=by simp! [bf,zza,zzN];lia
 have R:bf (1+b)=gS:=by simp! [bf,zza,zzN];lia
 let(A,e,f,s,t,o,p,hl,r,hd,rfl):=jh (body:=λx env=>((Tg.one 8).put x env).bind λA=>aD F Nm A)
  (P:=λi env=>∃(f:List Str) (s t o p:Ci.Slot),f.length=i/\(∀z∈f,z.length=(1+b).toNat)/\(∀z∈f,∀x∈z.cps.toList,x=35\/(48<=x/\x<=57))/\env=[.val (fE ns),.val (.int 0),.val (.int q),.val (.int (1+a)),.val (.int (1+b)),.val (.int k),.val (.int tp),.own (.lst (f.map .str)),s,t,o,p])
  (fb 0 (1+a).toNat) 0 [.val (fE ns),.val (.int 0),.val (.int q),.val (.int (1+a)),.val (.int (1+b)),.val (.int k),.val (.int tp),.own (.lst []),.no,.no,.no,.no] {[],_,_,_,_,rfl,(λz h=>by cases h),(λz h=>by cases h),rfl} (by
  intro i x env S T;let(hi,rfl):=Gr S;let(f,s,t,o,p,hl,r,hd,rfl):=T;let(z,U,V,h,u,e):=Oo F j ns q (1+a) (1+b) k tp (by lia) C N O (.lst (f.map .str)) i (1+b).toNat (by lia) o p;have l:(f.map PV.str).length<dW:=dA (m:=6) (by simp! [zzl];lia) (by decide);refine{[.val (fE ns),.val (.int 0),.val (.int q),.val (.int (1+a)),.val (.int (1+b)),.val (.int k),.val (.int tp),.own (.lst ((f++[z]).map .str)),.val (.int i),.val (.str z),U,V],?_,f++[z],_,_,_,_,by simp;lia,?_,?_,rfl}
  .have B:=e;simp! only [LL] at B;simp! [zzl] at l;simp! only [Nm,LL,R,B,zzl,l,List.map_append]
  .intro y g;simp! [List.mem_append,eo] at g;rcases g with g|rfl
   .exact r y g
   .exact h
  .intro y g;simp! [List.mem_append,eo] at g;rcases g with g|rfl
   .exact hd y g
   .exact u)
 have qi:f.length=(1+a).toNat:=by simpa [fb] using hl
 refine{f,(1+b).toNat,{{by lia,λz h=>by rw [r z h];lia},by lia,by lia,r,hd},?_};simp! only [Nm,LL] at e;simp! only [cN,cN,D,E,G,I,L,M,Q,e]
abbrev cT(a:List Str)(r c:Int):Int:=match cd a r.toNat c.toNat with
 |some x=>(x:Int)-48|none=>0
def FL{b:List Str}(h:cE b r c=gS):∃(i j x:Nat),r=i/\c=j/\cd b i j=gF x/\x≠35:=by
 let(e,f,a):=nR.1 h;let(i,rfl):=fi e;let(j,rfl):=fi f
 simp! [fW,HI] at a;cases d:cd b i j with
 |none=>rw [d] at a;cases a
 |some x=>rw [d] at a;exact{i,j,x,rfl,rfl,d,zx6 a}
def MP{a:List Str}{w:Nat}(L:Fl a w){i x:Nat}(h:cd a i j=gF x):x=35\/(48<=x/\x<=57):=by
 unfold cd at h;cases b:a[i]? with
 |none=>rw [b] at h;cases h
 |some z=>rw [b] at h;exact L.dig z (a0 b) x (a0 h)
def pf{a:List Str}{w:Nat}(L:Fl a w)(h:cE a r c=gS):∃z x,aG (fl a) (.int r)=.ok (.str z)/\aG (.str z) (.int c)=.ok (.str {#[x]})/\dX .int [.str {#[x]}]=.ok (.int (cT a r c))/\0<=cT a r c/\cT a r c<=9:=by
 let(i,j,x,rfl,rfl,b,e):=FL h;let(z,_,f,g):=DX L.qD b;have hd:=(MP L b).resolve_left e;have d:cT a i j=(x:Int)-48:=by simp! [cT,fW,b]
 refine{z,x,f,g,?_,?_}
 .rw [d];exact Jx hd.1 hd.2
 .rw [d];lia
abbrev cZ(a:List Str)(sl:Bool)(cl pr:Int)(r c b d:Int):Option Int:=
 if(r=b/\c=d)\/1<r-b\/1<b-r\/1<c-d\/1<d-c then gK
 else if(r≠b/\c≠d)/\¬(sl=gS/\cE a r d=gS/\cE a b c=gS) then gK
 else if cl<cT a b d-cT a r c\/cl<cT a r c-cT a b d then gK
 else gF ((if r≠b/\c≠d then 3 else 2)+pr*(if cT a b d-cT a r c>0 then cT a b d-cT a r c else 0))
abbrev oP:Option Int->PV
 |none=>.aC|some i=>.int i
def iS(r c a b:Int):Prop:=(r=a/\c=b)\/1<r-a\/1<a-r\/1<c-b\/1<b-c
noncomputable instance(r c a b:Int):Decidable (iS r c a b):=by unfold iS;infer_instance
def Bf(F:aL)(r c e f:Int):ax F dh [sp r c,sp e f]=.ok (.bl (!decide (iS r c e f))):=by
 simp! only [dh,Tj,Tn,aI,nS];have key:∀(a b d:Bool),(Res.ok (PV.bl a)).bind (λx=>ny x λt=>if t then(Res.ok (PV.bl b)).bind (λx=>ny x λt=>if t then Res.ok (PV.bl d) else Res.ok (PV.bl gU)) else Res.ok (PV.bl gU))=Res.ok (PV.bl (a&&(b&&d))):=by intro a b d;cases a<;>cases b<;>cases d<;>rfl
 by_cases j:r=e/\c=f
 .let(rfl,rfl):=j;have:iS r c r c:=.inl ⟨rfl,rfl⟩;simp [ax,cO,cM,aD,gO,aJ,cQ,zL,vE,gW,nu,kl,j2,Nat.reduceAdd,Nat.reduceSub,reduceIte,ite_true,ite_false,BEq.rfl,beq_self_eq_true,J,this]
 .have k:(!((r==e)&&((c==f)&&gS)))=gS:=by
   cases m:((r==e)&&((c==f)&&gS)) with
   |false=>rfl|true=>exact absurd (zx6 m) j
  simp! only [k];by_cases g:(if r-e<0 then -(r-e) else r-e)<=1
  .by_cases i:(if c-f<0 then -(c-f) else c-f)<=1
   .have:¬iS r c e f:=by
     rintro (h|h|h|h|h)
     .exact j h
     all_goals (split at g<;>split at i<;>omega)
    simp! only [g,i,this,decide_true,decide_false]
   .have:iS r c e f:=by
     unfold iS;split at i<;>omega
    simp! only [g,i,this,decide_true,decide_false]
  .have:iS r c e f:=by
    unfold iS;split at g<;>omega
   simp! only [g,this,decide_true,decide_false]
def sA(F:aL):Prop:=∀a,m8 a->∀r c,F (zu 37) [fl a,sp r c]=.ok (.bl (cE a r c))
def B2(F:aL)(b:∀a,m8 a->∀r c,cE a r c=gS->F (zu 1) [fl a,sp r c]=.ok .aC){a:List Str}{w:Nat}(L:Fl a w)(h:cE a r c=gS):ax F dG [fl a,sp r c]=.ok (.int (cT a r c)):=by let(z,x,d,e,f,_):=pf L h;simp! only [dG,b a L.qD r c h,Tj,Tn,d,e,f]
def xK(F:aL)(e:sA F){a:List Str}(R:m8 a)(r c d b:Int):ax F bK [fl a,sp r c,sp d b]=.ok (.bl (cE a r b&&cE a d c)):=by simp! only [bK,Tj,Tn,e a R];cases cE a r b<;>simp! only [Bool.false_and,Bool.true_and]
def rX{i j:Int}(a:0<=i)(h1:i<4):(aQ i||aQ j)=gS:=by
 have:aQ i=gS:=by simp! [aQ,zza,zzN];lia
 rw [this];rfl
structure Wk(cl pr:Int):Prop where
 c0:0<=cl
 p0:0<=pr
 p4:pr<4
 c9:cl<=9
def K5(F:aL)(E:∀r c b d,F (zu 44) [sp r c,sp b d]=.ok (.bl (!decide (iS r c b d))))(hk:∀a,m8 a->∀r c b d,F (zu 20) [fl a,sp r c,sp b d]=.ok (.bl (cE a r d&&cE a b c)))
 (B:∀a w,Fl a w->∀r c,cE a r c=gS->F (zu 47) [fl a,sp r c]=.ok (.int (cT a r c))) {a:List Str} {w:Nat} (L:Fl a w)  {pr:Int} (V:Wk cl pr) {b:Int} (h:cE a r c=gS) (h':cE a b d=gS):
 ax F bM [fl a,wk sl cl pr,sp r c,sp b d]=.ok (oP (cZ a sl cl pr r c b d)):=by
 have C:=B a w L r c h;have D:=B a w L b d h';have q:=hk a L.qD r c b d;have g:=E r c b d;by_cases f:iS r c b d
 .have:cZ a sl cl pr r c b d=gK:=if_pos f;simp! only [bM,g,f,decide_true,this,oP]
 .have G:cZ a sl cl pr r c b d=_:=if_neg f;rw [G];have H:=λj=>rX (j:=j) V.p0 V.p4;obtain⟨s,hs⟩:∃s,((!(r==b))&&!(c==d))=s:={_,rfl};have i:s=gS↔r≠b/\c≠d:=by rw [<-hs];simp
  have k:∀{t u:Bool},(if t=gS then Res.ok (PV.bl u) else Res.ok (PV.bl gU))=Res.ok (PV.bl (t&&u)):=λ{t u}=>by cases t<;>rfl
  have ii:(if s=gS then Res.ok (PV.int 3) else Res.ok (PV.int 2))=Res.ok (PV.int (if r≠b/\c≠d then 3 else 2)):=by
   by_cases m:r≠b/\c≠d
   .rw [if_pos (i.2 m),if_pos m]
   .rw [if_neg (λz=>m (i.1 z)),if_neg m]
  have I:(if(0:Int)>cT a b d-cT a r c then 0 else cT a b d-cT a r c)=(if cT a b d-cT a r c>0 then cT a b d-cT a r c else 0):=by split<;>split<;>lia
  have cc:(if sl=gS then Res.ok (PV.bl (cE a r d&&cE a b c)) else Res.ok (PV.bl gU))=Res.ok (PV.bl (sl&&(cE a r d&&cE a b c))):=k;by_cases e:(r≠b/\c≠d)/\¬(sl=gS/\cE a r d=gS/\cE a b c=gS)
  .rw [if_pos e];have o:(!(sl&&(cE a r d&&cE a b c)))=gS:=by
    rw [Bool.not_eq_true',Bool.eq_false_iff];intro z;rw [zza,zza] at z;exact e.2 z
   simp! only [bM,g,q,f,decide_false,k,hs,i.2 e.1,o,Bool.and_self,oP]
  .rw [if_neg e];have o:(s&&!(sl&&(cE a r d&&cE a b c)))=gU:=by
    rw [Bool.eq_false_iff];intro z;rw [zza,Bool.not_eq_true',Bool.eq_false_iff] at z;exact e {i.1 z.1,λy=>z.2 (by rw [zza,zza];exact y)}
   by_cases p:cl<(if cT a b d-cT a r c<0 then -(cT a b d-cT a r c) else cT a b d-cT a r c)
   .have A:cl<cT a b d-cT a r c\/cl<cT a r c-cT a b d:=by split at p<;>lia
    simp! only [bM,g,q,C,D,f,decide_false,k,hs,o,oP,p,decide_true,if_pos A]
   .have A:¬(cl<cT a b d-cT a r c\/cl<cT a r c-cT a b d):=by split at p<;>lia
    simp! only [bM,g,q,C,D,f,decide_false,k,hs,o,oP,p,if_neg A,ii,H,I]
def Sq{a:List Str}{w:Nat}(L:Fl a w){i:Nat}(d:i<a.length)(b:j<w):∃x,cd a i j=gF x:=by have c:a[i]?=gF a[i]:=zzg d;have hl:=L.Kx _ (a0 c);refine{(a[i]).cps.toList[j]'(by simp! [el];rw [<-hl] at b;exact b),?_};unfold cd;rw [c];exact zzg _
def mH{b:List Str}{w:Nat}(L:Fl b w)(h:cE b r c=gS):0<=r/\r<b.length/\0<=c/\c<w:=by
 let(i,j,x,rfl,rfl,a,_):=FL h
 unfold cd at a;cases d:b[i]? with
 |none=>rw [d] at a;cases a
 |some z=>rw [d] at a;have f:=(a9.1 d).1;have e:=(a9.1 a).1;have hl:=L.Kx _ (a0 d);simp! [el] at e;have:z.cps.size=z.length:=rfl;lia
noncomputable abbrev kN(p:Nat×Nat):List Int:=[(p.1:Int),(p.2:Int)]
noncomputable abbrev Up(L:List (Nat×Nat)):Prop:=L.Pairwise λp q=>HT.lexLt (kN p) (kN q)=gS
def Hm:Up []:=.nil
def Y6{p q:Nat×Nat}(h:p.1<q.1\/p.1=q.1/\p.2<q.2):HT.lexLt (kN p) (kN q)=gS:=by
 simp! [HT.lexLt];rcases h with h|⟨a,b⟩
 .rw [if_neg (by lia)];exact zzh (by lia)
 .rw [if_pos (by lia),if_neg (by lia)];exact zzh (by lia)
noncomputable abbrev Mk(p:Nat×Nat):PV:=sp p.1 p.2
theorem zE:∀{xs:List PV} {k i:Nat} {x:PV},(df k xs)[i]?=gF x->∃y,xs[i]?=gF y/\x=.tup [.int ((k+i:Nat):Int),y]
 |[],_,_,_,h=>by cases h
 |y::ys,k,0,x,h=>by simp! [df,List.getElem?_cons_zero,Option.some.injEq] at h;exact⟨y,rfl,h.symm⟩|y::ys,k,i+1,x,h=>by simp! [df,List.getElem?_cons_succ] at h;let(w,h1,a):=zE h;refine{w,h1,?_};rw [a,show k+1+i=k+(i+1) by lia]
theorem dS:∀(xs:List PV) (k:Nat),(df k xs).length=xs.length
 |[],_=>rfl|x::xs,k=>by simp! [df,cu,dS xs]
theorem vn{r:Nat}(j:∀c x:Nat,f (.tup [.int c,.str {#[x]}])=.ok (if x !=35 then gF (sp r c) else gK)):∀(xs:List Nat) (k:Nat),∃L:List (Nat×Nat),aH f (df k (xs.map λx=>.str {#[x]}))=.ok (L.map Mk)/\Up L/\L.length<=xs.length/\∀a b,(a,b)∈L↔a=r/\k<=b/\∃x,xs[b-k]?=gF x/\x≠35
 |[],k=>{[],rfl,Hm,a5 _,λa b=>by simp}|x::xs,k=>by
  let(L,e,nd,l,h):=vn j xs (k+1);by_cases m:x=35
  .refine{L,?_,nd,Nat.le_succ_of_le l,λa b=>?_}
   .have:(x !=35)=gU:=by simp [m]
    simp! [a7,df,aH,j,this,QJ,m9,e,oc];rfl
   .rw [h];constructor
    .rintro ⟨d,o,y,g,i⟩
     refine{d,by lia,y,?_,i};rw [show b-k=(b-(k+1))+1 by lia];exact g
    .rintro ⟨d,o,y,g,i⟩
     have:b≠k:=by
      rintro rfl
      simp at g;lia
     refine{d,by lia,y,?_,i};rw [show b-k=(b-(k+1))+1 by lia] at g;exact g
  .refine{(r,k)::L,?_,List.pairwise_cons.2 {(λp q=>Y6 (by have:=(h p.1 p.2).1 q;lia)),nd},Nat.succ_le_succ l,λa b=>?_}
   .have:(x !=35)=gS:=by simp [m]
    simp! [a7,df,aH,j,this,QJ,m9,e,oc,if_true]
   .rw [ey,h];constructor
    .rintro (d|⟨d,o,y,g,i⟩)
     .cases d;exact{rfl,a5 _,x,by simp,m}
     .refine{d,by lia,y,?_,i};rw [show b-k=(b-(k+1))+1 by lia];exact g
    .rintro ⟨d,o,y,g,i⟩
     by_cases s:b=k
     .subst s;subst d;exact .inl rfl
     .refine .inr {d,by lia,y,?_,i};rw [show b-k=(b-(k+1))+1 by lia] at g;exact g
def Aw{a:List Str}{r c:Nat}:HI a r c=gS↔∃z,a[r]?=gF z/\∃x,z.cps.toList[c]?=gF x/\x≠35:=by
 unfold HI cd;cases f:a[r]? with
 |none=>simp|some z=>
  simp! [Option.bind_some];cases b:z.cps.toList[c]? with
  |none=>
   refine{(λh=>by cases h),?_}
   rintro ⟨w,hw,x,d,_⟩
   cases hw;rw [b] at d;cases d
  |some x=>
   refine{λh=>{z,rfl,x,b,zx6 h},?_}
   rintro ⟨w,hw,y,e,h⟩
   cases hw;rw [b] at e;cases e;simpa using h
abbrev FN:Ss:=#v[.qq 1 (.bJ 2 [2] (.two 0 1) (.enum (!3)) (.cmp .ne (!1) (.cst (.str "#"))) (.tup #v[!2,!0]))]
def sD(F:aL):Prop:=∀a,m8 a->∃L:List (Nat×Nat),F (zu 11) [fl a]=.ok (.lst (L.map Mk))/\Up L/\L.length<=36/\∀r c,(r,c)∈L↔HI a r c=gS
def GU(F:aL)(d:List Str)(R:m8 d):∃L:List (Nat×Nat),ax F bS [fl d]=.ok (.lst (L.map Mk))/\Up L/\L.length<=36/\∀r c,(r,c)∈L↔HI d r c=gS:=by
 have D:=R.1
 let(g,e,L,s,u,nd,hl,hm,rfl):=jh (body:=λx env=>((Tg.two 2 3).put x env).bind λg=>aD F FN g) (P:=λi env=>∃(L:List (Nat×Nat)) (s u:Slot),Up L/\L.length<=6*i/\(∀r c,(r,c)∈L↔r<i/\HI d r c=gS)/\env=[.val (fl d),.own (.lst (L.map Mk)),s,u])
  (df 0 (d.map .str)) 0 [.val (fl d),.own (.lst []),.no,.no] {[],_,_,Hm,a5 _,(λr c=>by simp),rfl} (by
  intro i x env E G;let(y,A,rfl):=zE E;let(L,s,u,nd,hl,hm,rfl):=G;simp! [cS,b0] at A;let(z,j,rfl):=A;have H:=R.2 z (a0 j);have T:i<d.length:=(a9.1 j).1;let(M,I,K,U,B):=vn (f:=λx=>((Tg.two 0 1).put x [.no,.no,.val (.int i)]).bind λg=>((pY g[1]?).bind λx=>gE x (.str "#")).bind λt=>ny t λt=>if t then(((pY g[2]?).bind λp=>((pY g[0]?).bind λp=>.ok [p]).bind λps=>.ok (p::ps)).bind λps=>.ok (.tup ps)).bind λy=>.ok (gF y) else .ok gK) (r:=i) (λc x=>by simp! only [yy];cases(x !=35)<;>rfl) z.cps.toList 0;have lz:(df 0 (chars z)).length<dW:=by rw [dS];refine dA (m:=6) ?_ (by decide);simpa [chars,Str.length] using H
  have N:(L.map Mk).length+(M.map Mk).length<=dW:=by
   refine c6 (m:=100) ?_ (by decide);simp! [zzl];have:z.cps.toList.length=z.length:=by simp [Str.length]
   lia
  refine{[.val (fl d),.own (.lst ((L++M).map Mk)),.val (.int i),.val (.str z)],?_,L++M,_,_,List.pairwise_append.2 {nd,K,λa O b Q=>Y6 (.inl (by have C:=((hm a.1 a.2).1 O).1;have k:=((B b.1 b.2).1 Q).1;lia))},?_,?_,rfl}
  .simp! only [FN,UN,Nat.zero_add,lz];rw [show chars z=z.cps.toList.map λx=>PV.str {#[x]} from rfl,I];simp! only [N,List.map_append]
  .have:z.cps.toList.length=z.length:=by simp [Str.length]
   simp! [cA];lia
  .intro r c;rw [List.mem_append,hm,B,Aw];constructor
   .rintro (⟨C,k⟩|⟨rfl,_,x,o,q⟩)
    .exact{by lia,k}
    .exact{by lia,z,j,x,o,q}
   .rintro ⟨C,w,k,x,o,q⟩
    by_cases S:r=i
    .subst S;rw [j] at k;cases k;exact .inr {rfl,Nat.zero_le _,x,o,q}
    .exact .inl {by lia,w,k,x,o,q})
 refine{L,?_,nd,(by rw [dS,zzl] at hl;lia),λr c=>?_}
 .simp! only [FN] at e;simp! only [bS,UO,e,List.modify_succ_cons,List.modify_zero_cons,BS]
 .rw [hm];refine{λh=>h.2,λh=>{?_,h}};let(z,j,_):=Aw.1 h;have:=(a9.1 j).1;rw [dS,zzl];lia
def De(F:aL)(e:iL F)(ns:List Int)(k:Int)(hk:0<=k):∃sl cl pr,Wk cl pr/\ax F cV [fE ns,.int k]=.ok (wk sl cl pr):=by let(a,f,p,q):=e ns k 2 hk (by decide);let(b,g,h,i):=e ns (k+1) 4 (by lia) (by decide);let(c,j,c0,m):=e ns (k+2) 4 (by lia) (by decide);let(v,o,r):=tO (a:=0) (b:=1) (c:=2) (d:=9) h i;refine{(a==0),v,c,{by lia,c0,m,by lia},?_};simp! only [cV,f,g,j,o]
theorem gk{d f:Type}{body:PV->Sl->Res Ci.Fl}{g:d->PV}{mk:List PV->f->Sl}{app:d->List PV}{m M:Nat}:∀(l:List d) (c:List PV) (s:f),(∀a∈l,(app a).length<=m)->(∀a∈l,∀c s,c.length+m<=M->∃s',body (g a) (mk c s)=.ok (.nx (mk (c++app a) s')))->c.length+m*l.length<=M->∃s',forL body (l.map g) (mk c s)=.ok (.nx (mk (c++l.flatMap app) s'))
 |[],c,s,_,_,_=>{s,by simp [forL]}|a::l,c,s,h1,h,i=>by have q:=h1 a (cP ..);rw [cu,Nat.mul_succ] at i;let(j,k):=h a (cP ..) c s (by lia);let(o,p):=gk l (c++app a) j (λb e=>h1 b (bc _ e)) (λb e=>h b (bc _ e)) (by rw [cA];lia);refine{o,?_};simp! [a7,forL,k,m9,p,List.flatMap_cons,List.append_assoc]
abbrev gD(x:Int):List Int:=[x-1+(0:Nat),x-1+(1:Nat),x-1+(2:Nat)]
def Td(x:Int):fb (x-1) (x+2-(x-1)).toNat=(gD x).map .int:=by rw [show(x+2-(x-1)).toNat=3 by lia];rfl
abbrev oI:Ss:=#v[.ite (.and (.cmp .ne (.tup #v[!3,!4]) (!1)) (.call (zu 37) #v[!0,.tup #v[!3,!4]])) #v[.app 2 (.tup #v[!3,!4])] .nil]
abbrev oO:Ss:=#v[.cX (.one 4) (.uu (.bin .sub (.sub (!1) (¬1)) (¬1)) (.bin .add (.sub (!1) (¬1)) (¬2))) oI]
abbrev HH(d:List Str)(r c a b:Int):Bool:=!((a==r)&&((b==c)&&gS))&&cE d a b
abbrev qm(d:List Str)(r c a:Int):List (Int×Int):=(gD c).flatMap λb=>if HH d r c a b then [(a,b)] else []
abbrev oz(a:List Str)(r c:Int):List (Int×Int):=(gD r).flatMap (qm a r c)
def kQ(d:List Str)(r c a:Int):(qm d r c a).length<=3:=by
 have:∀b,(if HH d r c a b then [(a,b)] else []).length<=1:=λb=>by split<;>simp
 simp! [qm,gD,List.flatMap_cons,List.flatMap_nil,cA,List.length_nil];have e:=this (c-1+(0:Nat));have f:=this (c-1+(1:Nat));have g:=this (c-1+(2:Nat));omega
def vd(a:List Str)(r c:Int):(oz a r c).length<=9:=by simp! [oz,gD,List.flatMap_cons,List.flatMap_nil,cA,List.length_nil];have b:=kQ a r c (r-1+(0:Nat));have d:=kQ a r c (r-1+(1:Nat));have e:=kQ a r c (r-1+(2:Nat));omega
def oA{f:List Str}{e:Int}:(d,e)∈oz f r c↔¬iS r c d e/\cE f d e=gS:=by
 have i:∀x y:Int,y∈gD x↔¬1<x-y/\¬1<y-x:=by intro x y;simp! [gD,ey,List.not_mem_nil,or_false];lia
 simp! [oz,qm,List.mem_flatMap,i];constructor
 .rintro ⟨a,k,b,m,h⟩
  split at h
  .rename_i hk;simp! [eo,Prod.mk.injEq] at h;let(rfl,rfl):=h;simp! [HH,zza,Bool.not_eq_true',Bool.and_true] at hk;refine{?_,hk.2};unfold iS;have g:=hk.1;rw [Bool.and_eq_false_iff] at g;simp! [beq_eq_false_iff_ne,ne_eq] at g;lia
  .cases h
 .rintro ⟨hf,j⟩
  unfold iS at hf;refine{d,by lia,e,by lia,?_};have:HH f r c d e=gS:=by simp! [HH,j,Bool.and_true,Bool.not_eq_true',Bool.and_eq_false_iff,beq_eq_false_iff_ne,ne_eq];lia
  rw [if_pos this];exact eo.2 rfl
def pZ(a:0<=r)(b:r<6):(bf (r-1)&&bf (r+2))=gS:=by simp! [bf,zza,zzN];lia
def MI(F:aL)(t:sA F){d:List Str}(R:m8 d)(j:0<=r)(y:r<6)(z:0<=c)(A:c<6):
 ax F bG [fl d,sp r c]=.ok (.lst ((oz d r c).map Ml)):=by
 have h:∀(b:Int) (a:List PV) (o:Ci.Slot),a.length+3<=50->∃p,forL (λx env=>((Tg.one 4).put x env).bind λi=>aD F oI i) ((gD c).map .int) [.val (fl d),.val (sp r c),.own (.lst a),.val (.int b),o]=.ok (.nx [.val (fl d),.val (sp r c),.own (.lst (a++(qm d r c b).map Ml)),.val (.int b),p]):=by
  intro b a o hl;let(u,e):=gk (body:=λx env=>((Tg.one 4).put x env).bind λi=>aD F oI i) (g:=PV.int) (mk:=λa (s:Ci.Slot)=>[.val (fl d),.val (sp r c),.own (.lst a),.val (.int b),s]) (app:=λf=>if HH d r c b f then [sp b f] else []) (m:=1) (M:=60) (gD c) a o (λf Z=>by split<;>simp) (λf Z a s hl=>by
   have l:a.length<dW:=dA (m:=60) (by lia) (by decide)
   refine{.val (.int f),?_};cases q:(!((b==r)&&((f==c)&&gS))) with
   |false=>simp! only [oI,q,HH,Bool.false_and,gg]|true=>
    cases w:cE d b f with
    |false=>simp! only [oI,q,w,HH,t d R,Bool.and_false,gg]|true=>simp! only [oI,q,w,HH,t d R,Bool.and_self,l]) (by show a.length+1*3<=60;lia)
  have k:(gD c).flatMap (λf=>if HH d r c b f then [sp b f] else [])=(qm d r c b).map Ml:=by
   simp! [qm,List.map_flatMap]
   congr 1
   funext f
   split<;>rfl
  exact{u,by rw [e,k]}
 let(u,e):=gk (body:=λx env=>((Tg.one 3).put x env).bind λi=>aD F oO i) (g:=PV.int) (mk:=λa (s:Ci.Slot×Ci.Slot)=>[.val (fl d),.val (sp r c),.own (.lst a),s.1,s.2]) (app:=λb=>(qm d r c b).map Ml) (m:=3) (M:=50) (gD r) [] (.no,.no) (λb Z=>by rw [zzl];exact kQ ..) (λb Z a s hl=>by let(p,e):=h b a s.2 hl;refine{(.val (.int b),p),?_};simp! only [oI] at e;simp! only [oO,oI,pZ z A,Td,e]) (by show 0+3*3<=50;lia);simp! only [oO,oI] at e;simp! only [bG,pZ j y,Td,e,BS,oz,List.map_flatMap]
def E1(a:List Str)(sl:Bool)(cl pr:Int)(u v:List Int)(e:Int):Prop:=∃r c b d,u=[r,c]/\v=[b,d]/\cE a r c=gS/\cE a b d=gS/\cZ a sl cl pr r c b d=gF e
noncomputable abbrev tK(t:List Int×Int):PV:=.tup [af t.1,.int t.2]
def xt(F:aL):Prop:=∀a w,Fl a w->∀e cl pr,Wk cl pr->∀r c b d,cE a r c=gS->cE a b d=gS->F (zu 28) [fl a,wk e cl pr,sp r c,sp b d]=.ok (oP (cZ a e cl pr r c b d))
def Lp(F:aL):Prop:=∀a,m8 a->∀r c,0<=r->r<6->0<=c->c<6->F (zu 16) [fl a,sp r c]=.ok (.lst ((oz a r c).map Ml))
def fU(F:aL):Prop:=∀a,m8 a->∀r c,cE a r c=gS->F (zu 1) [fl a,sp r c]=.ok .aC
def uW(f:List PV->Res PV):Prop:=∀d w,Fl d w->∀g cl pr,Wk cl pr->∀r c,cE d r c=gS->∃T:List (List Int×Int),f [fl d,wk g cl pr,af [r,c]]=.ok (.lst (T.map tK))/\T.length<=9/\(T.Pairwise λa b=>HT.lexLt a.1 b.1=gS)/\∀v e,(v,e)∈T↔E1 d g cl pr [r,c] v e
def kM(F:aL):Prop:=uW (F (zu 17))
abbrev U1:Ss:=#v[.set 5 (.call (zu 28) #v[!0,!1,!2,!4]),.ite (.cmp .EW (!5) (.cst .aC)) #v[.app 3 (.tup #v[!4,!5])] .nil]
def FK{a:List Str}{w:Nat}(L:Fl a w)(h:cE a r c=gS):0<=r/\r<6/\0<=c/\c<6:=by have d:=mH L h;have e:=L.qD.1;have b:=L.qD.2 _ (List.getElem_mem L.ne);rw [L.Kx _ (List.getElem_mem L.ne)] at b;omega
def WG{a b:Int}(h:a<c\/a=c/\b<d):HT.lexLt [a,b] [c,d]=gS:=by
 simp! [HT.lexLt];rcases h with h|⟨e,f⟩
 .rw [if_neg (by lia)];exact zzh (by lia)
 .rw [if_pos (by lia),if_neg (by lia)];exact zzh (by lia)
def L0(x:Int):(gD x).Pairwise (·<·):=by simp! [gD,List.pairwise_cons,ey,List.not_mem_nil,or_false,forall_eq_or_imp,forall_eq,List.Pairwise.nil,and_true,false_implies,implies_true];lia
def vc{b:List Str}{a:Int}{p:Int×Int}(h:p∈qm b r c a):p.1=a:=by
 unfold qm at h;let(d,_,h):=List.mem_flatMap.1 h;split at h
 .rw [eo.1 h]
 .cases h
def G7(i:List Str)(sl:Bool)(cl pr r c:Int):((oz i r c).flatMap λp=>(cZ i sl cl pr r c p.1 p.2).toList.map λe=>(([p.1,p.2]:List Int),e)).Pairwise λa b=>HT.lexLt a.1 b.1=gS:=by
 refine List.pairwise_flatMap.2 {λp Z=>by cases cZ i sl cl pr r c p.1 p.2<;>simp,?_}
 have h:(oz i r c).Pairwise λp q=>HT.lexLt [p.1,p.2] [q.1,q.2]=gS:=by
  refine List.pairwise_flatMap.2 {λk Z=>List.pairwise_flatMap.2 {λt Z=>by split<;>simp,(L0 c).imp λ{a b} m p f q g=>?_},(L0 r).imp λ{a b} m p f q g=>?_}
  .split at f
   .split at g
    .rw [eo.1 f,eo.1 g];exact WG (a:=k) (b:=a) (c:=k) (d:=b) (.inr ⟨rfl,m⟩)
    .cases g
   .cases f
  .have f:=vc f;have g:=vc g;exact WG (a:=p.1) (c:=q.1) (.inl (by lia))
 refine h.imp λ{p q} j x o y s=>?_;let(_,_,rfl):=fm.1 o;let(_,_,rfl):=fm.1 s;exact j
def G6(F:aL)(y:fU F)(z:Lp F)(hs:xt F):uW (ax F bT):=by
 intro d w L f cl pr V r c h;let(A,B,c0,C):=FK L h;have Mh:∀p:Int×Int,((cZ d f cl pr r c p.1 p.2).toList.map λe=>(([p.1,p.2]:List Int),e)).length<=1:=λp=>by cases cZ d f cl pr r c p.1 p.2<;>simp
 refine{(oz d r c).flatMap λp=>(cZ d f cl pr r c p.1 p.2).toList.map λe=>([p.1,p.2],e),?_,?_,?_,?_}
 .let(I,e):=gk (body:=λx env=>((Tg.one 4).put x env).bind λD=>aD F U1 D) (g:=Ml) (mk:=λi (s:Ci.Slot×Ci.Slot)=>[.val (fl d),.val (wk f cl pr),.val (sp r c),.own (.lst i),s.1,s.2]) (app:=λp=>((cZ d f cl pr r c p.1 p.2).toList.map λe=>(([p.1,p.2]:List Int),e)).map tK) (m:=1) (M:=50) (oz d r c) [] (.no,.no) (λp Z=>by rw [zzl];exact Mh p) (λp j i s hl=>by
   have l:i.length<dW:=dA (m:=50) (by lia) (by decide);have e:=hs d w L f cl pr V r c p.1 p.2 h (oA.1 j).2
   cases q:cZ d f cl pr r c p.1 p.2 with
   |none=>rw [q] at e;have o:iZ .aC .aC=.ok (.bl gU):=rfl;simp! [oP] at e;exact{(.val (Ml p),.val .aC),by simp! only [U1,e,o,Option.toList_none,gg]}|some v=>
    rw [q] at e;have o:iZ (.int v) .aC=.ok (.bl gS):=rfl;simp! [oP] at e;exact{(.val (Ml p),.val (.int v)),by simp! only [U1,e,o,Option.toList_some,l];rfl}) (by
   have:=vd d r c;show 0+1*_<=50;lia)
  have k:af [r,c]=sp r c:=rfl;simp! only [U1] at e;simp! only [k,bT,y d L.qD r c h,z d L.qD r c A B c0 C,e,BS,List.map_flatMap]
 .have:=vd d r c
  have key:∀l:List (Int×Int),(l.flatMap λp=>(cZ d f cl pr r c p.1 p.2).toList.map λe=>(([p.1,p.2]:List Int),e)).length<=l.length:=by
   intro l
   induction l with
   |nil=>exact a5 _|cons p l K=>have:=Mh p;simp! [List.flatMap_cons,cA,cu];lia
  exact c6 (key _) this
 .exact G7 d f cl pr r c
 .intro v e;simp! [List.mem_flatMap,fm,Option.mem_toList,Option.mem_def,Prod.mk.injEq];constructor
  .rintro ⟨p,j,N,he,rfl,rfl⟩
   exact{r,c,p.1,p.2,rfl,rfl,h,(oA.1 j).2,he}
  .rintro ⟨a,b,t,u,E,rfl,_,G,he⟩
   cases E;refine{(t,u),oA.2 {λH=>?_,G},e,he,rfl,rfl};rw [show cZ d f cl pr r c t u=gK from if_pos H] at he;cases he
theorem kj:∀k:List Int,intsOf (k.map .int)=gF k
 |[]=>rfl|i::k=>by simp! [a7,intsOf,kj k,Option.map_some]
def dq(k:List Int):fI (af k)=gF k:=kj k
theorem ba{b:Type}:∀{ks:ku} {vs:List b} (k:List Int),ks.length=vs.length->bX ks k=(ai ks vs k).isSome
 |[],[],_,_=>rfl|c::ks,v::vs,k,h=>by
  have a:=ba (ks:=ks) (vs:=vs) k (zx6 h);by_cases e:c=k
  .simp [bX,ai,e]
  .simp! [bX] at a;simp [bX,ai,e,a]
theorem gu{a b:Type}(f:a->b):∀(ks:ku) (vs:List a) (k:List Int),ai ks (vs.map f) k=(ai ks vs k).map f
 |[],_,_=>by simp [ai]|_::_,[],_=>by simp [ai]|c::ks,v::vs,k=>by simp! [a7,ai,gu f ks vs k];split<;>rfl
theorem o7{a b:Type}(f:a->b):∀(ks:ku) (vs:List a) (k:List Int),bq ks (vs.map f) k=(bq ks vs k).map f
 |[],_,_=>by simp [bq]|_::_,[],_=>by simp [bq]|c::ks,v::vs,k=>by simp! [a7,bq,o7 f ks vs k];split<;>rfl
def gq{c d:Type}(f:c->d)(ks:ku)(vs:List c)(k:List Int)(p:c):aV ks (vs.map f) k (f p)=(aV ks vs k p).map f:=by
 unfold aV;split
 .rw [List.zipWith_map_right,List.map_zipWith]
  congr 1
  funext a b
  split<;>rfl
 .simp
theorem vI{b:Type}(k:List Int)(p:b):∀(ks:ku) (vs:List b) (x:List Int),ai ks (List.zipWith (λa v=>if a=k then p else v) ks vs) x=(ai ks vs x).map λv=>if x=k then p else v
 |[],_,_=>by simp [ai]|_::_,[],_=>by simp [ai]|a::ks,v::vs,x=>by
  simp! [List.zipWith_cons_cons,ai,vI k p ks vs x];by_cases e:a=x
  .subst e;simp
  .simp [e]
theorem rG{a:Type}(k:List Int)(p:a):∀(ks:ku) (vs:List a) (x:List Int),ks.length=vs.length->ai (ks++[k]) (vs++[p]) x=(ai ks vs x).or (if k=x then gF p else gK)
 |[],[],x,_=>by simp [ai]|b::ks,v::vs,x,h=>by simp! [List.cons_append,ai,rG k p ks vs x (zx6 h)];split<;>simp
def bt{b:Type}{ks:ku}{vs:List b}(h:ks.length=vs.length)(k:List Int)(p:b)(x:List Int):ai (aZ ks k) (aV ks vs k p) x=if k=x then gF p else ai ks vs x:=by
 have a:=ba (vs:=vs) k h
 unfold aZ aV;cases hk:bX ks k with
 |true=>
  rw [hk] at a;simp! [if_true,vI];by_cases e:k=x
  .subst e;let(v,c):=eK.1 a.symm;simp [c]
  .rw [if_neg e];have d:¬x=k:=λz=>e z.symm;cases ai ks vs x<;>simp [d]
 |false=>
  rw [hk] at a;simp! [en,if_false,rG k p ks vs x h];by_cases e:k=x
  .subst e;have:ai ks vs k=gK:=zx6 a.symm;simp [this]
  .simp [e]
def iT{a:Type}{ks:ku}{vs:List a}(h:ks.length=vs.length)(k:List Int)(p:a):(aZ ks k).length=(aV ks vs k p).length:=by unfold aZ aV;split<;>simp [h]
def BU(ks:ku)(k:List Int):(aZ ks k).length<=ks.length+1:=by unfold aZ;split<;>simp
def bR{ks:ku}:bX ks k=gS↔k∈ks:=by simp [bX]
def eA{ks:ku}(h:ks.Nodup)(k:List Int):(aZ ks k).Nodup:=by
 unfold aZ;split
 .exact h
 .rename_i hk;rw [bR] at hk;refine List.nodup_append.2 {h,by simp,?_};intro a d b c e;rw [eo] at c;exact hk (c▸e▸d)
theorem fj{d:Type}(k:List Int):∀(ks:ku) (vs:List d) (x:List Int),ks.length=vs.length->ai (cF ks k) (bq ks vs k) x=if k=x then gK else ai ks vs x
 |[],[],x,_=>by simp [cF,bq,ai]|a::ks,v::vs,x,h=>by
  have b:=fj k ks vs x (zx6 h);simp! [cF] at b;by_cases e:a=k
  .subst e;simp! [cF,bq,ai,fS,ne_eq,not_true_eq_false,decide_false,en,if_false,if_true,b];split<;>simp_all
  .simp! [cF,bq,ai,fS,ne_eq,e,not_false_eq_true,decide_true,if_true,if_false];by_cases c:a=x
   .subst c;have:¬k=a:=λz=>e z.symm;simp [ai,this]
   .simp! [ai,c,if_false];exact b
theorem rF{b:Type}(k:List Int):∀(ks:ku) (vs:List b),ks.length=vs.length->(cF ks k).length=(bq ks vs k).length
 |[],[],_=>rfl|c::ks,v::vs,h=>by
  have a:=rF k ks vs (zx6 h);simp! [cF] at a;by_cases e:c=k
  .simpa [cF,bq,e] using a
  .simpa [cF,bq,e] using a
theorem zP{b:Type}:∀{ks:ku} {vs:List b} {i:Nat} {k:List Int} {q:b},ks.Nodup->ks[i]?=gF k->vs[i]?=gF q->ai ks vs k=gF q
 |[],_,_,_,_,_,h,_=>by simp at h|_::_,[],_,_,_,_,_,h=>by simp at h|c::ks,v::vs,0,k,q,_,h1,a=>by simp! [List.getElem?_cons_zero,Option.some.injEq] at h1 a;simp [ai,h1,a]|c::ks,v::vs,i+1,k,q,nd,h1,a=>by simp! [List.getElem?_cons_succ] at h1 a;have d:=List.nodup_cons.1 nd;have:¬c=k:=λz=>d.1 (z▸a0 h1);simp! [ai,this,if_false];exact zP d.2 h1 a
theorem vH{a:Type}:∀{ks:ku} {vs:List a} {k:List Int} {q:a},ai ks vs k=gF q->q∈vs
 |[],_,_,_,h=>by simp [ai] at h|_::_,[],_,_,h=>by simp [ai] at h|b::ks,v::vs,k,q,h=>by
  simp! [ai] at h;split at h
  .cases h;exact cP ..
  .exact bc _ (vH h)
theorem mh:∀(cs:List Int) (b:Nat) (m:Int) (pre:List Int),pre[b]?=gF m->(∀x∈pre,m<=x)->∃y,(pre++cs)[fV cs pre.length b m]?=gF y/\∀x∈pre++cs,y<=x
 |[],b,m,pre,h1,d=>{m,by simpa [fV] using h1,zx6 d}|c::cs,b,m,pre,h1,d=>by
  have e:=(a9.1 h1).1;simp! [fV];have hl:pre.length+1=(pre++[c]).length:=by simp
  split
  .rename_i f;have:=mh cs pre.length c (pre++[c]) (by simp) (λx a=>by
    simp! [List.mem_append,eo] at a;rcases a with a|a
    .have:=d x a;lia
    .lia)
   rw [<-hl] at this;simpa using this
  .rename_i f;have:=mh cs b m (pre++[c]) (by rw [eM e];exact h1) (λx a=>by
    simp! [List.mem_append,eo] at a;rcases a with a|a
    .exact d x a
    .lia)
   rw [<-hl] at this;simpa using this
def HS{cs:List Int}(h:cs≠[]):∃i y,DH cs=gF i/\cs[i]?=gF y/\∀x∈cs,y<=x:=by
 cases cs with
 |nil=>exact absurd rfl h|cons c cs=>let(y,a,b):=mh cs 0 c [c] rfl (by simp);exact{_,y,rfl,a,b}
noncomputable abbrev val(q:Int×PV):PV:=.tup [.int q.1,q.2]
theorem rq:∀V:List (Int×PV),j6 (V.map val)=gF (V.map (·.1))
 |[]=>rfl|q::V=>by simp! [a7,j6,rq V,Option.map_some]
def Cf{ks:ku}{V:List (Int×PV)}(h:ks.length=V.length)(nd:ks.Nodup)(d:ks≠[]):∃k q,((DH (V.map (·.1))).bind λx=>ks[x]?)=gF k/\ai ks V k=gF q/\∀x a,ai ks V x=gF a->q.1<=a.1:=by
 have e:V.map (·.1)≠[]:=by intro z;rw [List.map_eq_nil_iff] at z;rw [z] at h;exact d (List.eq_nil_of_length_eq_zero h)
 let(i,y,f,b,g):=HS e;rw [cS,b0] at b;let(q,c,rfl):=b;have m:=(a9.1 c).1;have hk:ks[i]?=gF (ks[i]'(by lia)):=zzg _;refine{_,q,by rw [f];exact hk,zP nd hk c,λx a j=>g _ (fm.2 {a,vH j,rfl})}
inductive jb(E:kB)(s:List Int->Prop):List Int->Int->Prop
 |here {x:List Int}:s x->jb E s x 0
 |go {u v:List Int} {d e:Int}:jb E s u d->E u v e->jb E s v (d+e)
noncomputable abbrev Ks:=List (List Int)
variable{ks:Ks}
noncomputable abbrev Vs:=List (Int×PV)
def Kn(a:Ks)(b:Vs)(d:Ks)(e:Vs)(k:List Int)(c:Int):Prop:=(∃q,ai a b k=gF q/\q.1<=c)\/∃q,ai d e k=gF q/\q.1<=c
structure uL(E:kB)(O:List Int->Prop)(s:List Int->Prop)(kr:Ks)(Vr:Vs)(kw:Ks)(Vw:Vs)(X:kB)(n:Nat)(b:Int):Prop where
 lr:kr.length=Vr.length
 lw:kw.length=Vw.length
 nw:kw.Nodup
 Qr:∀k q q',ai kr Vr k=gF q->ai kw Vw k=gF q'->False
 wr:∀k q,ai kr Vr k=gF q->O k/\jb E s k q.1
 ww:∀k q,ai kw Vw k=gF q->O k/\jb E s k q.1
 mono:∀k q k' q',ai kr Vr k=gF q->ai kw Vw k'=gF q'->q.1<=q'.1
 jq:∀u q,ai kr Vr u=gF q->∀v e,X u v e->Kn kr Vr kw Vw v (q.1+e)
 st:∀x,s x->Kn kr Vr kw Vw x 0
 cw:kw.length<=n
 pre:∀k q,ai kr Vr k=gF q\/ai kw Vw k=gF q->(q.2=.aC/\s k/\q.1=0)\/∃y q' e,q.2=af y/\ai kr Vr y=gF q'/\E y k e/\q.1=q'.1+e
 bd:∀k q,ai kr Vr k=gF q\/ai kw Vw k=gF q->0<=q.1/\q.1<=b
 nr:kr.Nodup
def Kn.put{d:Ks}{f:Vs}{a:Ks}{b:Vs}(h:a.length=b.length){v:List Int}(j:∀q,ai a b v=gF q->c<=q.1){x:Int}(H:Kn d f a b k x):Kn d f (aZ a v) (aV a b v (c,p)) k x:=by
 rcases H with H|⟨q,g,i⟩
 .exact .inl H
 .refine .inr ?_;rw [bt h];by_cases e:v=k
  .subst e;exact{(c,p),if_pos rfl,Int.le_trans (j q g) i}
  .exact{q,by rw [if_neg e];exact g,i}
def uL.put{E:kB}{O:List Int->Prop}{s:List Int->Prop}{i:Ks}{j:Vs}{m:Ks}{r:Vs}{X:kB}{n:Nat}{b:Int}(M:uL E O s i j m r X n b){v:List Int}{e:Int}{p0:PV}(p:ai i j u=gF (d,p0))(hd:∀k q,ai i j k=gF q->q.1<=d)(he:E u v e)(D:0<e)(y:d+e<=b)(A:O v)
 (B:ai i j v=gK) (w:∀q,ai m r v=gF q->d+e<=q.1):uL E O s i j (aZ m v) (aV m r v (d+e,af u)) (λa b c=>X a b c\/a=u/\b=v/\c=e) (n+1) b where
 lr:=M.lr
 lw:=iT M.lw _ _
 nw:=eA M.nw _
 Qr:=λk q t f g=>by
  rw [bt M.lw] at g;split at g
  .rename_i z;subst z;rw [B] at f;cases f
  .exact M.Qr k q t f g
 wr:=M.wr
 ww:=λk q h=>by
  rw [bt M.lw] at h;split at h
  .rename_i z;subst z;cases h;exact{A,.go (M.wr u _ p).2 he}
  .exact M.ww k q h
 mono:=λk q C t f g=>by
  rw [bt M.lw] at g;split at g
  .cases g;have:=hd k q f;show q.1<=d+e;lia
  .exact M.mono k q C t f g
 jq:=λa q f b c o=>by
  rcases o with o|⟨rfl,rfl,rfl⟩
  .exact(M.jq a q f b c o).put M.lw w
  .rw [p] at f;cases f;exact .inr {(d+c,af a),by rw [bt M.lw,if_pos rfl],Int.le_refl _}
 st:=λx o=>(M.st x o).put M.lw w
 cw:=by have:=BU m v;have:=M.cw;lia
 pre:=λk q h=>by
  rcases h with h|h
  .exact M.pre k q (.inl h)
  .rw [bt M.lw] at h;split at h
   .rename_i z;subst z;cases h;exact .inr {u,(d,p0),e,rfl,p,he,rfl}
   .exact M.pre k q (.inr h)
 bd:=λk q h=>by
  rcases h with h|h
  .exact M.bd k q (.inl h)
  .rw [bt M.lw] at h;split at h
   .cases h;have:=(M.bd u _ (.inl p)).1;exact{by show 0<=d+e;lia,y}
   .exact M.bd k q (.inr h)
 nr:=M.nr
def uL.keep{E:kB}{O:List Int->Prop}{s:List Int->Prop}{a:Ks}{c:Vs}{d:Ks}{f:Vs}{X Y:kB}{n m:Nat}{b g:Int}(M:uL E O s a c d f X n b)(hm:n<=m)(i:b<=g)(h:∀u q,ai a c u=gF q->∀v e,Y u v e->Kn a c d f v (q.1+e)):uL E O s a c d f Y m g:=
 {M.lr,M.lw,M.nw,M.Qr,M.wr,M.ww,M.mono,h,M.st,c6 M.cw hm,M.pre,λk q z=>{(M.bd k q z).1,Int.le_trans (M.bd k q z).2 i},M.nr}
def Kn.move{b:Ks}{g:Vs}{a:Ks}{d:Vs}(i:b.length=g.length)(j:a.length=d.length){h:Int×PV}(m:ai a d k=gF h)(hk:ai b g k=gK){x:List Int}(H:Kn b g a d x c):Kn (aZ b k) (aV b g k h) (cF a k) (bq a d k) x c:=by
 unfold Kn;rw [bt i,fj k a d x j];by_cases e:k=x
 .subst e;rcases H with⟨q,f,_⟩|⟨q,f,o⟩
  .rw [hk] at f;cases f
  .rw [m] at f;cases f;exact .inl {h,if_pos rfl,o}
 .simp! [e,if_false];exact H
def uL.move{E:kB}{O:List Int->Prop}{s:List Int->Prop}{f:Ks}{p:Vs}{d:Ks}{g:Vs}{n:Nat}{b:Int}(M:uL E O s f p d g E n b){j:Int×PV}(r:ai d g k=gF j)(hl:∀x o,ai d g x=gF o->j.1<=o.1):
 uL E O s (aZ f k) (aV f p k j) (cF d k) (bq d g k) (λa b c=>E a b c/\a≠k) n b/\ai (aZ f k) (aV f p k j) k=gF j/\∀x q,ai (aZ f k) (aV f p k j) x=gF q->q.1<=j.1:=by
 have hk:ai f p k=gK:=by
  cases h:ai f p k with
  |none=>rfl|some q=>exact(M.Qr k q j h r).elim
 have t:∀x q,ai (aZ f k) (aV f p k j) x=gF q\/ai (cF d k) (bq d g k) x=gF q->ai f p x=gF q\/ai d g x=gF q:=λx q h=>by
  rcases h with h|h
  .rw [bt M.lr] at h;split at h
   .rename_i z;subst z;cases h;exact .inr r
   .exact .inl h
  .rw [fj k d g x M.lw] at h;split at h
   .cases h
   .exact .inr h
 refine{?_,by rw [bt M.lr,if_pos rfl],λx q h=>?_}
 .refine{iT M.lr _ _,rF k d g M.lw,M.nw.filter _,λx q o i m=>?_,λx q h=>?_,λx q h=>?_,λx q A o i m=>?_,λu q i v e w=>?_,λx w=>(M.st x w).move M.lr M.lw r hk,c6 (List.length_filter_le ..) M.cw,λx q h=>?_,λx q h=>M.bd x q (t x q h),eA M.nr _}
  .rw [bt M.lr] at i;rw [fj k d g x M.lw] at m;split at m
   .cases m
   .rename_i z;rw [if_neg z] at i;exact M.Qr x q o i m
  .rw [bt M.lr] at h;split at h
   .rename_i z;subst z;cases h;exact M.ww k _ r
   .exact M.wr x q h
  .rw [fj k d g x M.lw] at h;split at h
   .cases h
   .exact M.ww x q h
  .rw [bt M.lr] at i;rw [fj k d g A M.lw] at m;split at m
   .cases m
   .split at i
    .cases i;exact hl A o m
    .exact M.mono x q A o i m
  .rw [bt M.lr,if_neg (λz=>w.2 z.symm)] at i;exact(M.jq u q i v e w.1).move M.lr M.lw r hk
  .rcases M.pre x q (t x q h) with z|⟨y,o,e,C,B,D⟩
   .exact .inl z
   .refine .inr {y,o,e,C,?_,D};rw [bt M.lr,if_neg (λz=>by rw [<-z,hk] at B;cases B)];exact B
 .rw [bt M.lr] at h;split at h
  .cases h;exact Int.le_refl _
  .exact M.mono x q k j h r
def Ts{V:Vs}{q:Int×PV}(h:ai ks V k=gF q):aG (.aY ks (V.map val)) (af k)=.ok (val q):=by show(Res.of (fI (af k))).bind (λk=>Res.of (ai ks (V.map val) k))=_;rw [dq];show Res.of (ai ks (V.map val) k)=_;rw [gu,h];rfl
theorem K9{q:Int×PV}:aG (val q) (.int 0)=.ok (.int q.1):=rfl
def qy{vs:List PV}:eR (af k) (.aY ks vs)=.ok (.bl (!bX ks k)):=by show(Res.of (fI (af k))).bind (λk=>Res.ok (PV.bl (!bX ks k)))=_;rw [dq];rfl
theorem Wz{vs:List PV}:dX .len [.aY ks vs]=.ok (.int ks.length):=rfl
abbrev wS:Ss:=#v[.set 8 (.bin .add (.sub (.sub (.fG 2) (!5)) (¬0)) (!7)),.ite (.and (.cmp .jV (!6) (.fG 2)) (.or (.cmp .jV (!6) (.fG 3)) (.cmp .lt (!8) (.sub (.sub (.fG 3) (!6)) (¬0))))) #v[.put 3 (!6) (.tup #v[!8,!5])] .nil]
noncomputable abbrev wL(gn:Str)(ix:List Nat)(cp:List PV)(z:PV)(a:Ks)(b:Vs)(c:Ks)(d:Vs)(e f s6 g h:Ci.Slot):Sl:=[.val z,.fn gn ix cp,.own (.aY a (b.map val)),.own (.aY c (d.map val)),e,f,s6,g,h]
def AI(a:Ks)(b:Vs)(v:List Int)(c:Int)(p:PV):aV a (b.map val) v (.tup [.int c,p])=(aV a b v (c,p)).map val:=gq val a b v (c,p)
def TN(F:aL){gn:Str}{z:PV}{E:kB}{O:List Int->Prop}{s:List Int->Prop}{f:Ks}{g:Vs}{i:Ks}{m:Vs}{X:kB}{n:Nat}{b:Int}(M:uL E O s f g i m X n b)(Q:n<=3000){v:List Int}{e:Int}{p0:PV}(p:ai f g u=gF (d,p0))(hd:∀k q,ai f g k=gF q->q.1<=d)(he:E u v e)(D:0<e)(G:d+e<=b)(H:O v)(I s6 R S:Ci.Slot):
 ∃K L T U V,(((Tg.two 6 7).put (tK (v,e)) (wL gn ix cp z f g i m I (.val (af u)) s6 R S)).bind λW=>aD F wS W)=.ok (.nx (wL gn ix cp z f g K L I (.val (af u)) T U V))/\uL E O s f g K L (λa b c=>X a b c\/a=u/\b=v/\c=e) (n+1) b:=by
 have t:=Ts p;have l:i.length<dW:=dA (c6 M.cw Q) (by decide);have w:=ba (vs:=g) v M.lr;have y:=ba (vs:=m) v M.lw
 cases o:ai f g v with
 |some q=>
  rw [o] at w;have r:bX f v=gS:=w;refine{i,m,.val (af v),.val (.int e),.val (.int (d+e)),by simp! only [wS,wL,t,K9,qy,r],M.keep (Nat.le_succ n) (Int.le_refl _) ?_}
  rintro a A j b c (C|⟨rfl,rfl,rfl⟩)
  .exact M.jq a A j b c C
  .rw [p] at j;cases j;refine .inl {q,o,?_};have:=hd _ q o;show q.1<=d+c;lia
 |none=>
  rw [o] at w;have r:bX f v=gU:=w
  cases hw:ai i m v with
  |none=>rw [hw] at y;have B:bX i v=gU:=y;refine{_,_,.val (af v),.val (.int e),.val (.int (d+e)),?_,M.put p hd he D G H o (λq h=>by rw [hw] at h;cases h)};simp! only [wS,wL,t,K9,qy,r,B,dq,l,AI]
  |some q=>
   rw [hw] at y;have B:bX i v=gS:=y;have N:=Ts hw;by_cases P:d+e<q.1
   .refine{_,_,.val (af v),.val (.int e),.val (.int (d+e)),?_,M.put p hd he D G H o (λA h=>by rw [hw] at h;cases h;lia)};simp! only [wS,wL,t,N,K9,qy,r,B,P,decide_true,dq,l,AI]
   .refine{i,m,.val (af v),.val (.int e),.val (.int (d+e)),by simp! only [wS,wL,t,N,K9,qy,r,B,P,decide_false],M.keep (Nat.le_succ n) (Int.le_refl _) ?_}
    rintro a A j b c (C|⟨rfl,rfl,rfl⟩)
    .exact M.jq a A j b c C
    .rw [p] at j;cases j;exact .inr {q,hw,by show q.1<=d+c;lia}
theorem Mq(F:aL){gn:Str}{ix:List Nat}{cp:List PV}{z:PV}{E:kB}{O:List Int->Prop}{s:List Int->Prop}{b:Int}(r:∀u v e,E u v e->0<e/\e<=30/\O v){g:Ks}{h:Vs}{p0:PV}(G:ai g h u=gF (d,p0))(hd:∀k q,ai g h k=gF q->q.1<=d)(N:d+30<=b)(w:Ci.Slot):
 ∀(T:List (List Int×Int)) (j:Ks) (m:Vs) (X:kB) (n:Nat) (s6 o p:Ci.Slot),(∀t∈T,E u t.1 t.2)->uL E O s g h j m X n b->n+T.length<=3000->∃H I P Q R,forL (λx env=>((Tg.two 6 7).put x env).bind λS=>aD F wS S) (T.map tK) (wL gn ix cp z g h j m w (.val (af u)) s6 o p)=.ok (.nx (wL gn ix cp z g h H I w (.val (af u)) P Q R))/\uL E O s g h H I (λa b c=>X a b c\/a=u/\(b,c)∈T) (n+T.length) b
 |[],j,m,X,n,s6,o,p,_,M,_=>{j,m,s6,o,p,rfl,M.keep (a5 _) (Int.le_refl _) (λa q A b c f=>M.jq a q A b c (f.resolve_right λz=>by cases z.2))}
 |t::T,j,m,X,n,s6,o,p,K,M,U=>by
  have y:=K t (cP ..);rw [cu] at U;let(OA,B,V,W,Y,Z,M1):=TN F (gn:=gn) (ix:=ix) (cp:=cp) (z:=z) M (by lia) G hd y (r _ _ _ y).1 (by have:=(r _ _ _ y).2.1;lia) (r _ _ _ y).2.2 w s6 o p;let(C,D,b6,b7,b8,e2,M2):=Mq F r G hd N w T OA B _ (n+1) V W Y (λx f=>K x (bc _ f)) M1 (by lia);refine{C,D,b6,b7,b8,?_,M2.keep (by rw [cu];lia) (Int.le_refl _) λa q A b c f=>M2.jq a q A b c ?_}
  .rw [a7,forL,Z,m9];exact e2
  .rcases f with f|⟨L,i⟩
   .exact .inl (.inl f)
   .rcases ey.1 i with i|i
    .exact .inl (.inr {L,by rw [<-i],by rw [<-i]})
    .exact .inr ⟨L,i⟩
abbrev HF(U a:Ks):Nat:=(U.filter λx=>!bX a x).length
def JJ{U a:Ks}(hk:k∈U)(b:bX a k=gU):HF U (aZ a k)<HF U a:=by
 have c:∀x,bX (aZ a k) x=(bX a x||decide (x=k)):=by intro x;rw [Bool.eq_iff_iff,eU,bR,bR,zzN];unfold aZ;rw [b];simp
 unfold HF;simp! [c]
 induction U with
 |nil=>cases hk
 |cons y U d=>
  have mono:(U.filter λx=>!(bX a x||decide (x=k))).length<=(U.filter λx=>!bX a x).length:=by rw [<-List.countP_eq_length_filter,<-List.countP_eq_length_filter];refine List.countP_mono_left λx Z h=>?_;simp! [Bool.not_or,zza] at h;exact h.1
  rw [fS,fS];by_cases e:y=k
  .subst e;simp! [b,decide_true,Bool.or_true,Bool.not_true,en,if_false,Bool.not_false,if_true,cu];omega
  .have:=d ((ey.1 hk).resolve_left λz=>e z.symm);simp! [e,decide_false,Bool.or_false];cases bX a y<;>simp! [Bool.not_true,Bool.not_false,en,if_true,if_false,cu]<;>omega
abbrev wC:E:=.cmp .gt (.blt .len #v[.fG 3]) (¬0)
abbrev wB:Ss:=#v[.ni 5 3,.eN 2 3 5,.cX (.two 6 7) (.seq (.kU 1 #v[!5])) wS]
def Lf(F:aL){gn:Str}{ix:List Nat}{cp:List PV}{z:PV}{as:List Int->List PV}(P:ix.head?=gF 1)(Q:∀u,fM (af u::cp) ix.tail=.ok (as u)){E:kB}{O:List Int->Prop}{s:List Int->Prop}{U:Ks}(R:∀u,O u->u∈U)(NY:U.length<=36)(S:∀u v e,E u v e->0<e/\e<=30/\O v)(V:∀u,O u->∃T:List (List Int×Int),F gn (as u)=.ok (.lst (T.map tK))/\T.length<=60/\∀v e,(v,e)∈T↔E u v e)
 {f:Ks} {g:Vs} {p:Ks} {r:Vs} (M:uL E O s f g p r E (40+60*f.length) (30*f.length)) (hc:f.length+HF U f<=U.length) (W:p≠[]) (w X s6 C D:Ci.Slot):
 ∃i G H I Y Z PF PH,aD F wB (wL gn ix cp z f g p r w X s6 C D)=.ok (.nx (wL gn ix cp z i G H I w Y Z PF PH))/\uL E O s i G H I E (40+60*i.length) (30*i.length)/\i.length+HF U i<=U.length/\HF U i<HF U f:=by
 let(k,q,h1,j,h3):=Cf M.lw M.nw W;let(M1,h4,h5):=M.move j h3;let(K,_):=M.ww k q j
 have hk:bX f k=gU:=by
  rw [ba (vs:=g) k M.lr];cases h:ai f g k with
  |none=>rfl|some q'=>exact(M.Qr k q' q h j).elim
 have hl:(aZ f k).length=f.length+1:=by unfold aZ;rw [hk];simp
 have bP:=JJ (R k K) hk;let(T,e1,hT,o):=V k K;let(d,p0):=q;let(y,A,b6,b7,b8,L,M2):=Mq F (gn:=gn) (ix:=ix) (cp:=cp) (z:=z) (b:=30*f.length+30) S h4 h5 (by have:=(M.bd k (d,p0) (.inr j)).2;show d+30<=_;lia) w T _ _ _ _ s6 C D (λt ht=>(o t.1 t.2).1 ht) (M1.keep (a5 _) (by lia) M1.jq) (by lia);refine{_,_,y,A,.val (af k),b6,b7,b8,?_,M2.keep (by lia) (by lia) (λa q B b c N=>M2.jq a q B b c ?_),by lia,bP}
 .have l:f.length<dW/\2≠3:={dA (m:=36) (by lia) (by decide),by decide};have gm:ai p (r.map val) k=gF (val (d,p0)):=by rw [gu,j];rfl
  have gp:aV f (g.map val) k (val (d,p0))=(aV f g k (d,p0)).map val:=gq val f g k (d,p0);have B:=Q k;simp! only [wS,wL] at L;simp! only [wB,wS,wL,rq,h1,dq,gm,l,and_self,o7,gp,P,B,e1,L,ne_eq,not_false_eq_true]
 .by_cases e:a=k
  .subst e;exact .inr {rfl,(o b c).2 N}
  .exact .inl ⟨N,e⟩
theorem As(F:aL){gn:Str}{z:PV}{as:List Int->List PV}(B:ix.head?=gF 1)(C:∀u,fM (af u::cp) ix.tail=.ok (as u)){E:kB}{O:List Int->Prop}{s:List Int->Prop}{U:Ks}(D:∀u,O u->u∈U)(G:U.length<=36)(H:∀u v e,E u v e->0<e/\e<=30/\O v)(I:∀u,O u->∃T:List (List Int×Int),F gn (as u)=.ok (.lst (T.map tK))/\T.length<=60/\∀v e,(v,e)∈T↔E u v e)(c:Ci.Slot):
 ∀(n:Nat) (a:Ks) (d:Vs) (b:Ks) (f:Vs) (g s6 i j:Ci.Slot),uL E O s a d b f E (40+60*a.length) (30*a.length)->a.length+HF U a<=U.length->HF U a<n->∃o K p L N P Q,dw (aJ F wC) (aD F wB) n (wL gn ix cp z a d b f c g s6 i j)=.ok (.nx [.val z,.fn gn ix cp,.own (.aY o (K.map val)),p,c,L,N,P,Q])/\o.length<=36/\∃m,uL E O s o K [] [] E m 1080
 |0,_,_,_,_,_,_,_,_,_,_,h=>absurd h (Nat.not_lt_zero _)|n+1,a,d,b,f,g,s6,i,j,M,R,hn=>by
  have k:aJ F wC (wL gn ix cp z a d b f c g s6 i j)=.ok (.bl (decide ((0:Int)<b.length))):=by simp! only [wC,wL,Wz]
  by_cases hk:b=[]
  .subst hk;have S:f=[]:=List.eq_nil_of_length_eq_zero M.lw.symm;subst S;refine{a,d,.own (.aY [] []),g,s6,i,j,?_,by lia,_,M.keep (a5 _) (by lia) M.jq};have:decide ((0:Int)<(([]:Ks).length:Nat))=gU:=rfl;rw [this] at k;simp! [dw,k,m9,MH,en,if_false,wL];rfl
  .let(q,r,OA,t,V,W,X,Y,Z,M1,w,bP):=Lf F (gn:=gn) (z:=z) B C D G H I M R hk c g s6 i j;let(y,A,u3,u5,u6,u7,u8,e2,h2):=As F (gn:=gn) (z:=z) B C D G H I c n q r OA t V W X Y M1 w (by lia);refine{y,A,u3,u5,u6,u7,u8,?_,h2};have:decide ((0:Int)<(b.length:Nat))=gS:=by have:=List.length_pos_iff.2 hk;simp;lia
   rw [this] at k;simp! [dw,k,m9,MH,if_true,Z,e2]
structure qR(E:kB)(s:List Int->Prop)(kr:Ks)(Vr:Vs):Prop where
 len:kr.length=Vr.length
 le:kr.length<=36
 qk:∀k q,ai kr Vr k=gF q->k.length=2/\jb E s k q.1
 jq:∀u q,ai kr Vr u=gF q->∀v e,E u v e->∃q',ai kr Vr v=gF q'/\q'.1<=q.1+e
 st:∀x,s x->∃q,ai kr Vr x=gF q/\q.1<=0
 pre:∀k q,ai kr Vr k=gF q->(q.2=.aC/\s k/\q.1=0)\/∃y q' e,q.2=af y/\ai kr Vr y=gF q'/\E y k e/\q.1=q'.1+e
 bd:∀k q,ai kr Vr k=gF q->0<=q.1/\q.1<=1080
 nr:kr.Nodup
abbrev LI(gn:Str)(ix:List Nat):Def:={["starts","steps","reached","waiting","start","spot","other","cost","together"],2,(.cons (.k9 2)
 (.cons (.k9 3)
 (.cons (.cX (.one 4) (.seq (.var 0))
  (.cons (.put 3 (.var 4) (.tup (.cons (.cst (.int 0)) (.cons (.cst .aC) .nil))))
  .nil))
 (.cons (.Df (.cmp .gt (.blt .len (.cons (.fG 3) .nil)) (.cst (.int 0)))
  (.cons (.ni 5 3)
  (.cons (.eN 2 3 5)
  (.cons (.cX (.two 6 7) (.seq (.kU 1 (.cons (.var 5) .nil)))
   (.cons (.set 8 (.bin .add (.sub (.sub (.fG 2) (.var 5)) (.cst (.int 0))) (.var 7)))
   (.cons (.ite (.and (.cmp .jV (.var 6) (.fG 2)) (.or (.cmp .jV (.var 6) (.fG 3)) (.cmp .lt (.var 8) (.sub (.sub (.fG 3) (.var 6)) (.cst (.int 0))))))
    (.cons (.put 3 (.var 6) (.tup (.cons (.var 8) (.cons (.var 5) .nil))))
    .nil)
    .nil)
   .nil)))
  .nil))))
 (.cons (.bC 2)
 (.cons (.ret (.var 2))
 .nil)))))),gF (gn,ix)}
structure QX(G:Ks)(kw:Ks)(Vw:Vs):Prop where
 len:kw.length=Vw.length
 nd:kw.Nodup
 of:∀x q,ai kw Vw x=gF q->x∈G/\q=(0,.aC)
 to:∀x∈G,ai kw Vw x=gF (0,.aC)
 le:kw.length<=G.length
abbrev U3:Ss:=#v[.put 3 (!4) (.tup #v[¬0,.cst .aC])]
def QX.put{G c:Ks}{e:Vs}(h:QX G c e)(v:List Int):QX (G++[v]) (aZ c v) (aV c e v (0,.aC)) where
 len:=iT h.len _ _
 nd:=eA h.nd _
 of:=λx q d=>by
  rw [bt h.len] at d;split at d
  .rename_i z;cases d;exact{by simp [z],rfl}
  .let(a,b):=h.of x q d;exact{by simp [a],b}
 to:=λx f=>by
  rw [bt h.len];by_cases z:v=x
  .rw [if_pos z]
  .rw [if_neg z];rcases List.mem_append.1 f with a|a
   .exact h.to x a
   .exact absurd (eo.1 a).symm z
 le:=by
  have:(aZ c v).length<=c.length+1:=by
   unfold aZ;split
   .lia
   .simp
  rw [cA];have:=h.le;simp! [cu,List.length_nil];lia
theorem AZ(F:aL){gn:Str}{ix:List Nat}{cp:List PV}{z a2:PV}:∀(Q G a:Ks) (b:Vs) (c:Ci.Slot),QX G a b->G.length+Q.length<=1000->∃d f g,forL (λx env=>((Tg.one 4).put x env).bind λi=>aD F U3 i) (Q.map af) [.val z,.fn gn ix cp,.own a2,.own (.aY a (b.map val)),c,.no,.no,.no,.no]=.ok (.nx [.val z,.fn gn ix cp,.own a2,.own (.aY d (f.map val)),g,.no,.no,.no,.no])/\QX (G++Q) d f
 |[],G,a,b,c,h,_=>{a,b,c,rfl,by rw [gg];exact h}|v::Q,G,a,b,c,h,hl=>by
  rw [cu] at hl;let(d,f,g,e,h'):=AZ F (gn:=gn) (ix:=ix) (cp:=cp) (z:=z) (a2:=a2) Q (G++[v]) _ _ (.val (af v)) (h.put v) (by rw [cA];simp! [cu,List.length_nil];lia);rw [List.append_assoc,List.singleton_append] at h';refine{d,f,g,?_,h'};have l:a.length<dW:=dA (m:=1000) (by have:=h.le;lia) (by decide);have gp:aV a (b.map val) v (val (0,.aC))=(aV a b v (0,.aC)).map val:=gq val a b v (0,.aC);have j:aV a (b.map val) v (.tup [.int 0,.aC])=(aV a b v (0,.aC)).map val:=gp;have k:(((Tg.one 4).put (af v) [.val z,.fn gn ix cp,.own a2,.own (.aY a (b.map val)),c,.no,.no,.no,.no]).bind λi=>aD F U3 i)=.ok (.nx [.val z,.fn gn ix cp,.own a2,.own (.aY (aZ a v) ((aV a b v (0,.aC)).map val)),.val (af v),.no,.no,.no,.no]):=by simp! only [U3,dq,l,j]
  rw [a7,forL,k,m9];exact e
def sj(F:aL)(gn:Str){ix:List Nat}{cp:List PV}{as:List Int->List PV}(s:ix.head?=gF 1)(t:∀u,fM (af u::cp) ix.tail=.ok (as u)){E:kB}{O:List Int->Prop}{G:Ks}{U:Ks}(w:∀u,O u->u∈U)(o:U.length<=36)(y:∀u,O u->u.length=2)(A:∀u v e,E u v e->0<e/\e<=30/\O v)(B:∀u,O u->∃T:List (List Int×Int),F gn (as u)=.ok (.lst (T.map tK))/\T.length<=60/\∀v e,(v,e)∈T↔E u v e)(hs:∀u∈G,O u)(C:G.length<=40):
 ∃f g,ax F (LI gn ix) (.lst (G.map af)::cp)=.ok (.aY f (g.map val))/\qR E (·∈G) f g:=by
 let(p,r,D,i,S):=AZ F (gn:=gn) (ix:=ix) (cp:=cp) (z:=.lst (G.map af)) (a2:=.aY [] []) G [] [] [] .no {rfl,List.nodup_nil,(λx q h=>by simp [ai] at h),(λx h=>by cases h),a5 _} (by rw [List.length_nil];lia);rw [List.nil_append] at S;have M:uL E O (·∈G) [] [] p r E (40+60*([]:Ks).length) (30*(([]:Ks).length:Nat)):={rfl,S.len,S.nd,(λk q j h=>by simp [ai] at h),(λk q h=>by simp [ai] at h),(λk q h=>by let(a,rfl):=S.of k q h;exact{hs k a,.here a}),(λk q K j h=>by simp [ai] at h),(λu q h=>by simp [ai] at h),(λx d=>.inr {(0,.aC),S.to x d,Int.le_refl _}),(by have:=S.le;simp! [List.length_nil];lia),(λk q h=>h.elim (λh=>by simp [ai] at h) λh=>by let(z,rfl):=S.of k q h;exact .inl ⟨rfl,z,rfl⟩),(λk q h=>h.elim (λh=>by simp [ai] at h) λh=>by let(_,rfl):=S.of k q h;exact{Int.le_refl _,Int.le_refl _}),List.nodup_nil};have hl:HF U []<=U.length:=List.length_filter_le ..;let(f,g,L,N,P,Q,R,e,H,m,b):=As F (gn:=gn) (z:=.lst (G.map af)) s t w o A B D WN [] [] p r .no .no .no .no M (zx6 hl) (dA (c6 hl o) (by decide));refine{f,g,?_,b.lr,H,λk q h=>{y k (b.wr k q h).1,(b.wr k q h).2},λu q h v c d=>?_,λx d=>?_,?_,?_,?_}
 .have a2:List.take 1 (PV.lst (G.map af)::cp)=[.lst (G.map af)]:=rfl;have I:List.drop 1 (PV.lst (G.map af)::cp)=cp:=rfl;have lg:(G.map af).length<dW:=dA (m:=40) (by rw [zzl];exact C) (by decide)
  change forL _ _ [.val (.lst (G.map af)),.fn gn ix cp,.own (.aY [] []),.own (.aY [] []),.no,.no,.no,.no,.no]=_ at i
  simp! only [U3] at i;simp! only [wC,wB,wS,wL] at e;simp! only [LI,a2,I,lg,i,e,BS];exact if_pos rfl
 .rcases b.jq u q h v c d with h|⟨j,h,_⟩
  .exact h
  .simp [ai] at h
 .rcases b.st x d with h|⟨j,h,_⟩
  .exact h
  .simp [ai] at h
 .exact λk q h=>b.pre k q (.inl h)
 .exact λk q h=>b.bd k q (.inl h)
 .exact b.nr
def dy(a:List Str)(u:List Int):Prop:=∃r c,u=[r,c]/\cE a r c=gS
abbrev yW:Ks:=(List.range 6).flatMap λ(r:Nat)=>(List.range 6).map λ(c:Nat)=>[(r:Int),(c:Int)]
def uK:yW.length=36:=by decide
def TJ{f:List Str}{w:Nat}(L:Fl f w)(h:dy f u):u∈yW:=by let(r,c,rfl,h):=h;let(a,b,d,e):=FK L h;refine List.mem_flatMap.2 {r.toNat,List.mem_range.2 (by lia),fm.2 {c.toNat,List.mem_range.2 (by lia),?_}};rw [Int.toNat_of_nonneg a,Int.toNat_of_nonneg d]
def il{g:List Str}{pr f e:Int}:cZ g sl cl pr r c d f=gF e↔¬iS r c d f/\(r≠d/\c≠f->sl=gS/\cE g r f=gS/\cE g d c=gS)/\cT g d f-cT g r c<=cl/\cT g r c-cT g d f<=cl/\e=(if r≠d/\c≠f then 3 else 2)+pr*(if cT g d f-cT g r c>0 then cT g d f-cT g r c else 0):=by
 unfold cZ;by_cases i:iS r c d f
 .rw [if_pos (show(r=d/\c=f)\/1<r-d\/1<d-r\/1<c-f\/1<f-c from i)];exact{(λz=>by cases z),λz=>absurd i z.1}
 .have k:¬((r=d/\c=f)\/1<r-d\/1<d-r\/1<c-f\/1<f-c):=i;rw [if_neg k];by_cases h:(r≠d/\c≠f)/\¬(sl=gS/\cE g r f=gS/\cE g d c=gS)
  .rw [if_pos h];exact{(λz=>by cases z),λz=>absurd (z.2.1 h.1) h.2}
  .rw [if_neg h];have m:r≠d/\c≠f->sl=gS/\cE g r f=gS/\cE g d c=gS:=λa=>Classical.byContradiction λb=>h ⟨a,b⟩;by_cases j:cl<cT g d f-cT g r c\/cl<cT g r c-cT g d f
   .rw [if_pos j];exact{(λz=>by cases z),λz=>by omega}
   .rw [if_neg j];refine{λz=>{i,m,by omega,by omega,by cases z;rfl},λz=>by rw [z.2.2.2.2]}
def xM{g:List Str}{pr:Int}{v:List Int}{e:Int}(h:E1 g sl cl pr u v e):∃i,E1 g sl cl pr v u i:=by
 let(r,c,j,k,m,o,p,q,f):=h;rw [il] at f;refine{_,j,k,r,c,o,m,q,p,il.2 {?_,λz=>?_,f.2.2.2.1,f.2.2.1,rfl}}
 .have:=f.1;unfold iS at this⊢;omega
 .let(a,b,d):=f.2.1 {λx=>z.1 x.symm,λx=>z.2 x.symm};exact⟨a,d,b⟩
def mV{a:List Str}{w:Nat}(L:Fl a w){pr:Int}(V:Wk cl pr){v:List Int}{e:Int}(h:E1 a sl cl pr u v e):0<e/\e<=30/\dy a v:=by
 let(r,c,b,d,s,o,p,i,j):=h;rw [il] at j;let(_,_,_,_,_,t,y):=pf L p;let(_,_,_,_,_,m1,m2):=pf L i;have p0:=V.p0;have p4:=V.p4;have k:=j.2.2.2.2;generalize hm:(if cT a b d-cT a r c>0 then cT a b d-cT a r c else 0)=m at k;have g:0<=m/\m<=9:=by rw [<-hm];split<;>lia
 generalize hf:(if r≠b/\c≠d then(3:Int) else 2)=f at k;have q:2<=f/\f<=3:=by rw [<-hf];split<;>lia
 have z:=Int.mul_nonneg p0 g.1;have A:pr*m<=3*9:=Int.mul_le_mul (by lia) g.2 g.1 (by lia);exact{by lia,by lia,b,d,o,i}
def Et(a:List Str)(sl:Bool)(cl pr:Int)(u v:List Int)(e:Int):Prop:=E1 a sl cl pr v u e
def uX(f:List PV->Res PV):Prop:=∀a w,Fl a w->∀b cl pr,Wk cl pr->∀r c,cE a r c=gS->∃T:List (List Int×Int),f [fl a,wk b cl pr,af [r,c]]=.ok (.lst (T.map tK))/\T.length<=9/\∀v e,(v,e)∈T↔Et a b cl pr [r,c] v e
def sE(F:aL):Prop:=uX (F (zu 50))
def yF(F:aL)(hs:kM F)(s:xt F):uX (ax F dY):=by
 intro f w L i cl pr V r c h;let(T,u,hl,_,q):=hs f w L i cl pr V r c h;have key:∀t∈T,∃e,Et f i cl pr [r,c] t.1 e/\F (zu 28) [fl f,wk i cl pr,af t.1,af [r,c]]=.ok (.int e):=λt j=>by let(k,d):=xM ((q t.1 t.2).1 j);refine{k,d,?_};let(a,b,y,A,B,C,D,E,G):=d;cases C;have:=s f w L i cl pr V a b r c D E;rw [G] at this;rw [B];exact this
 let m:List Int->Int:=λv=>match v with
  |[a,b]=>(cZ f i cl pr a b r c).getD 0|_=>0
 have o:∀v e,Et f i cl pr [r,c] v e->m v=e:=by
  rintro v e ⟨a,b,y,A,rfl,H,_,_,g⟩
  cases H;show(cZ f i cl pr a b r c).getD 0=e;rw [g];rfl
 refine{T.map λt=>(t.1,m t.1),?_,zx6 hl,λv e=>?_}
 .have l:T.length<dW:=dA hl (by decide);have I:∀t:List Int×Int,aG (tK t) (.int 0)=.ok (af t.1):=λt=>rfl;simp! only [dY,u,zzl,l];rw [cU (p:=tK) (g:=λt=>tK (t.1,m t.1)) (λt j=>by let(e,d,K):=key t j;simp! only [I,K,o _ _ d])];simp! only [List.map_map];rfl
 .rw [fm];constructor
  .rintro ⟨t,j,z⟩
   cases z;let(e,d,_):=key t j;rw [o _ _ d];exact d
  .intro d;let(k,M):=xM d;exact{(v,k),(q v k).2 M,by rw [o _ _ d]}
noncomputable abbrev lp(m:Ks):PV:=.lst (m.map af)
def Ls(f:List PV->Res PV):Prop:=∀a w,Fl a w->∀b cl pr,Wk cl pr->∀G:Ks,(∀u∈G,dy a u)->G.length<=40->∃c d,f [.lst (G.map af),wk b cl pr,fl a]=.ok (.aY c (d.map val))/\qR (E1 a b cl pr) (·∈G) c d
def My(F:aL):Prop:=Ls (F (zu 34))
def Lu(f:List PV->Res PV):Prop:=∀a w,Fl a w->∀b cl pr,Wk cl pr->∀G:Ks,(∀u∈G,dy a u)->G.length<=40->∃c d,f [.lst (G.map af),wk b cl pr,fl a]=.ok (.aY c (d.map val))/\qR (Et a b cl pr) (·∈G) c d
def Mz(F:aL):Prop:=Lu (F (zu 43))
theorem KW(F:aL)(hs:kM F):Ls (ax F bB):=λc w L f cl pr V G h g=>
 sj F (zu 17) (ix:=[1,2,1,0]) (cp:=[wk f cl pr,fl c]) (as:=λu=>[fl c,wk f cl pr,af u]) rfl (λZ=>rfl) (E:=E1 c f cl pr) (O:=dy c) (G:=G) (U:=yW) (λu d=>TJ L d) (Nat.le_of_eq uK) (λu d=>by let(_,_,rfl,_):=d;rfl) (λu v e i=>mV L V i)
  (λu d=>by let(a,b,rfl,j):=d;let(T,e,hl,_,k):=hs c w L f cl pr V a b j;exact{T,e,by lia,k}) h g
theorem KY(F:aL)(hs:sE F):Lu (ax F bL):=λc w L f cl pr V G h i=>
 sj F (zu 50) (ix:=[1,2,1,0]) (cp:=[wk f cl pr,fl c]) (as:=λu=>[fl c,wk f cl pr,af u]) rfl (λZ=>rfl) (E:=Et c f cl pr) (O:=dy c) (G:=G) (U:=yW) (λu d=>TJ L d) (Nat.le_of_eq uK) (λu d=>by let(_,_,rfl,_):=d;rfl) (λu v e g=>{(mV L V g).1,(mV L V g).2.1,by let(a,b,_,_,j,_,k,_):=g;exact⟨a,b,j,k⟩})
  (λu d=>by let(a,b,rfl,m):=d;let(T,e,hl,o):=hs c w L f cl pr V a b m;exact{T,e,by lia,o}) h i
theorem pH(F:aL)(g:fU F){b:List Str}{w:Nat}(L:Fl b w){mk:Ci.Slot->Sl}{B:Ss}{i:Nat}(j:∀(u:List Int) (a:Ci.Slot),F (zu 1) [fl b,af u]=.ok .aC->(((Tg.one i).put (af u) (mk a)).bind λd=>aD F B d)=.ok (.nx (mk (.val (af u))))):∀(G:Ks) (a:Ci.Slot),(∀u∈G,dy b u)->∃f,forL (λx env=>((Tg.one i).put x env).bind λd=>aD F B d) (G.map af) (mk a)=.ok (.nx (mk f))
 |[],a,_=>⟨a,rfl⟩|u::G,a,h=>by let(r,c,rfl,k):=h u (cP ..);let(f,e):=pH F g L j G (.val (af [r,c])) λv m=>h v (bc _ m);exact{f,by rw [a7,forL,j [r,c] a (g b L.qD r c k),m9];exact e}
def wM(F:aL)(g:fU F)(hs:Mz F){b:List Str}{w:Nat}(L:Fl b w){pr:Int}(V:Wk cl pr){G:Ks}(h:∀u∈G,dy b u)(j:G.length<=40):∃c d,ax F dH [fl b,wk sl cl pr,lp G]=.ok (.aY c (d.map val))/\qR (Et b sl cl pr) (·∈G) c d:=by let(c,d,e,R):=hs b w L sl cl pr V G h j;let(m,f):=pH F g L (mk:=λa=>[.val (fl b),.val (wk sl cl pr),.val (lp G),a]) (i:=3) (B:=(.cons (.expr (.call (zu 1) (.cons (.var 0) (.cons (.var 3) .nil)))) .nil)) (λu a k=>by simp! only [k]) G .no h;refine{c,d,?_,R};simp! only [true_and] at f;have e:F (zu 43) [lp G,wk sl cl pr,fl b]=.ok (.aY c (d.map val)):=e;simp! only [dH,f,mi,e]
def yT(f:List PV->Res PV):Prop:=∀a w,Fl a w->∀b cl pr,Wk cl pr->∀u,dy a u->∃c d,f [fl a,wk b cl pr,af u]=.ok (.aY c (d.map val))/\qR (E1 a b cl pr) (·∈[u]) c d
def Dz(F:aL):Prop:=yT (F (zu 24))
theorem IP(F:aL)(g:fU F)(hs:My F):yT (ax F bW):=λa w L b cl pr V u h=>by let(d,f,e,R):=hs a w L b cl pr V [u] (λv i=>by rw [eo.1 i];exact h) (by simp);let(r,c,rfl,j):=h;have k:F (zu 1) [fl a,af [r,c]]=.ok .aC:=g a L.qD r c j;have e:F (zu 34) [.lst [af [r,c]],wk b cl pr,fl a]=.ok (.aY d (f.map val)):=e;exact{d,f,by simp! only [bW,k,mi,e],R}
def jb.cons{E:kB}{s u v:List Int}{d e:Int}(h:E s u e)(k:jb E (·=u) v d):jb E (·=s) v (e+d):=by
 induction k with
 |here a=>subst a;have:=jb.go (jb.here (E:=E) (s:=(·=s)) rfl) h;rw [Int.zero_add] at this;rwa [Int.add_zero]|go _ he b=>have:=b.go he;rwa [Int.add_assoc] at this
def A5{E E':kB}(a:∀u v e,E u v e->E' v u e){S:List Int->Prop}(h:jb E S u c):∃s,S s/\jb E' (·=u) s c:=by
 induction h with
 |here b=>exact{_,b,.here rfl}|go _ he d=>let(s,hs,k):=d;have:=jb.cons (a _ _ _ he) k;rw [Int.add_comm] at this;exact⟨s,hs,this⟩
def n8{E:kB}{S T:List Int->Prop}(h:∀x,S x->T x)(k:jb E S u c):jb E T u c:=by
 induction k with
 |here a=>exact .here (h _ a)|go _ he b=>exact b.go he
def Gp{E:kB}{s:List Int->Prop}{a:Ks}{b:Vs}(R:qR E s a b)(h:jb E s k c):∃q,ai a b k=gF q/\q.1<=c:=by
 induction h with
 |here d=>exact R.st _ d|go _ he e=>let(q,f,j):=e;let(g,i,m):=R.jq _ q f _ _ he;exact{g,i,by lia}
def yB{vs:List PV}(nd:ks.Nodup)(hl:ks.length<64)(c:∀k∈ks,k≠[]):dX .sorted [.aY ks vs]=.ok (lp (cK ks)):=by
 show(if(decide (ks.length<64)&&ks.all λk=>!k.isEmpty)=gS then Res.ok (PV.lst (mO .aC (ks.map af) ks)) else .bad)=_;rw [if_pos,uw nd λZ=>Iff.rfl];rw [zza];refine{zzh hl,c5.2 λk hk=>?_};have:=c k hk
 cases k with
 |nil=>exact absurd rfl this|cons a b=>rfl
def i4(nd:ks.Nodup):(cK ks).length=ks.length:=((List.perm_ext_iff_of_nodup eC.nodup nd).2 λZ=>bY).length_eq
abbrev cst(a:Ks)(b:Vs)(k:List Int):Int:=((ai a b k).getD (0,.aC)).1
theorem Ad(k:List Int):∀l:Ks,(pg k l).length<=l.length+1
 |[]=>a5 _|x::l=>by
  unfold pg;split
  .lia
  .split
   .exact a5 _
   .have:=Ad k l;simp! [cu];lia
theorem nW:∀l:Ks,(cK l).length<=l.length
 |[]=>a5 _|x::l=>by have h1:=Ad x (cK l);have a:=nW l;show(pg x (cK l)).length<=l.length+1;lia
theorem mw:∀M:Ks,fO (M.map af)=gF M
 |[]=>rfl|k::M=>by rw [a7,fO,dq,mw M];rfl
def GN{M:Ks}(h1:∀k∈M,St.FJ k=gS)(a:(cK M).length<=4):Mj (lp M)=.ok (lp (cK M)):=by show(Res.of (fO (M.map af))).bind _=_;rw [mw];show(if(M.all St.FJ&&decide ((cK M).length<=4))=gS then Res.ok _ else .bad)=_;rw [if_pos];rw [zza,zzN];exact{c5.2 h1,a}
def OT{a:List Str}{w:Nat}(L:Fl a w)(h:dy a k):St.FJ k=gS:=by let(r,c,rfl,b):=h;have:=FK L b;simp! [St.FJ,zza,zzN];exact{⟨this.1,this.2.1⟩,this.2.2}
theorem vW{ns:List Int}:∀j,∃i,i<=j/\cD ns j=ns.getD i 0
 |0=>{0,a5 _,rfl}|j+1=>by
  unfold cD;split
  .exact{j+1,a5 _,rfl}
  .let(i,a,e):=vW (ns:=ns) j;exact{i,by lia,e}
theorem vX{ns:List Int}:∀j i,i<=j->cD ns j<=ns.getD i 0
 |0,i,h=>by rw [show i=0 by lia];exact Int.le_refl _|j+1,i,h=>by
  unfold cD;by_cases e:i=j+1
  .subst e;split<;>lia
  .have:=vX (ns:=ns) j i (by lia);split<;>lia
def Cp{ns:List Int}(h:ns≠[]):(∀n∈ns,cD ns (ns.length-1)<=n)/\cD ns (ns.length-1)∈ns:=by
 have d:=List.length_pos_iff.2 h;refine{λn c=>?_,?_}
 .let(i,a,e):=List.getElem_of_mem c;have:=vX (ns:=ns) (ns.length-1) i (by omega);rw [b4,zzg a] at this;rw [<-e];exact this
 .let(i,a,e):=vW (ns:=ns) (ns.length-1);have b:i<ns.length:=by omega
  rw [e,b4,zzg b];exact List.getElem_mem b
def wX{a:Ks}{b:Vs}{q:Int×PV}(h:ai a b u=gF q):aG (.aY a (b.map val)) (af u)=.ok (val q):=by show(Res.of (fI (af u))).bind (λk=>Res.of (ai a (b.map val) k))=_;rw [dq];show Res.of (ai a (b.map val) u)=_;rw [gu,h];rfl
theorem wY{q:Int×PV}:aG (val q) (.int 0)=.ok (.int q.1):=rfl
theorem dC{c:Type}{p q:c->PV}{g:c->Bool}:∀{xs:List c},(∀x∈xs,f (p x)=.ok (if g x then gF (q x) else gK))->aH f (xs.map p)=.ok ((xs.filter g).map q)
 |[],_=>rfl|x::xs,h=>by
  have d:=dC (xs:=xs) λy e=>h y (bc _ e);have a:=h x (cP ..)
  cases b:g x with
  |true=>rw [b] at a;simp! [a7,aH,a,if_true,Res.well,Res.bind,d,oc,fS,b]|false=>rw [b] at a;simp! [a7,aH,a,en,if_false,Res.well,Res.bind,d,oc,fS,b]
def inD{vs:List PV}:ue (af k) (.aY ks vs)=.ok (.bl (bX ks k)):=by show(Res.of (fI (af k))).bind (λk=>Res.ok (PV.bl (bX ks k)))=_;rw [dq];rfl
def Nr(E:kB)(u:List Int)(G:Ks)(k:List Int):Prop:=k∈G/\∃c,jb E (·=u) k c/\∀b∈G,∀a,jb E (·=u) b a->c<=a
def mD{a:Ks}{b:Vs}{E:kB}{S:List Int->Prop}(R:qR E S a b):k∈a↔∃q,ai a b k=gF q:=by rw [<-bR,ba k R.len,eK]
section
variable{aa:List Str}{w:Nat}{pr:Int}{G:Ks}
def JL(F:aL)(L:Fl aa w)(V:F (zu 14) [fl aa,lp G]=.ok .aC){d:Ks}{e:Vs}(W:F (zu 24) [fl aa,wk sl cl pr,af u]=.ok (.aY d (e.map val)))(R:qR (E1 aa sl cl pr) (·∈[u]) d e)(h:∀u∈G,dy aa u)(H:G.length<=4):
 ∃N:Ks,ax F bj [fl aa,wk sl cl pr,lp G,af u]=.ok (lp N)/\xb N/\∀k,k∈N↔Nr (E1 aa sl cl pr) u G k:=by
 have X:=GN (M:=G) (λk hk=>OT L (h k hk)) (c6 (nW G) H);have Y:((cK G).map af).length<dW:=dA (m:=4) (by rw [zzl];exact c6 (nW G) H) (by decide);generalize r:(cK G).filter (λk=>bX d k)=f;have Z:(f.map af).length<dW:=dA (m:=4) (by rw [zzl,<-r];exact c6 (List.length_filter_le ..) (c6 (nW G) H)) (by decide);have E:∀k,k∈f↔k∈G/\k∈d:=λk=>by rw [<-r,List.mem_filter,bY,bR]
 have at_:∀k∈f,∃q,ai d e k=gF q/\cst d e k=q.1:=λk hk=>by let(q,i):=(mD R).1 ((E k).1 hk).2;exact{q,i,by unfold cst;rw [i];rfl}
 have O:aH (λx=>((Tg.one 0).put x [.no,.val (.aY d (e.map val))]).bind λs=>(aJ F (.cmp .xW (.var 0) (.var 1)) s).bind λt=>ny t λt=>if t then(aJ F (.var 0) s).bind λy=>.ok (gF y) else .ok gK) ((cK G).map af)=.ok (f.map af):=by rw [<-r];refine dC λk hk=>?_;simp! only [inD];cases bX d k<;>simp! only [true_and]
 have P:aH (λx=>((Tg.one 0).put x [.no,.val (.aY d (e.map val))]).bind λs=>(aJ F (.sub (.sub (.var 1) (.var 0)) (.cst (.int 0))) s).bind λy=>.ok (gF y)) (f.map af)=.ok ((f.map (cst d e)).map .int):=by
  rw [List.map_map,cU (p:=af) (g:=λk=>.int (cst d e k)) λk hk=>?_]
  .rfl
  .let(q,i,A):=at_ k hk
   simp! only [wX i,wY,A]
 generalize hm:(if f.map (cst d e)=[] then PV.aC else .int (cD (f.map (cst d e)) ((f.map (cst d e)).length-1)))=m at *
 have Q:aH (λx=>((Tg.one 0).put x [.no,.val (.aY d (e.map val)),.val m]).bind λs=>(aJ F (.cmp .eq (.sub (.sub (.var 1) (.var 0)) (.cst (.int 0))) (.var 2)) s).bind λt=>ny t λt=>if t then(aJ F (.var 0) s).bind λy=>.ok (gF y) else .ok gK) (f.map af)=.ok ((f.filter λk=>cst d e k==cD (f.map (cst d e)) ((f.map (cst d e)).length-1)).map af):=by
  refine dC λk hk=>?_;have I:f.map (cst d e)≠[]:=λz=>by rw [List.map_eq_nil_iff] at z;rw [z] at hk;cases hk
  rw [if_neg I] at hm;let(q,i,A):=at_ k hk
  rw [A];subst hm;simp! only [wX i,wY];cases(q.1==cD (f.map (cst d e)) ((f.map (cst d e)).length-1))<;>simp! only [true_and]
 refine{f.filter λk=>cst d e k==cD (f.map (cst d e)) ((f.map (cst d e)).length-1),?_,?_,λk=>?_}
 .simp! only [true_and] at O P Q;have io:intsOf ((f.map (cst d e)).map .int)=gF (f.map (cst d e)):=kj _;simp! only [bj,V,W,X,Y,O,Z,P,io,hm,Q]
 .rw [<-r];exact(eC.filter _).filter _
 .have one:∀x,x∈[u]->x=u:=λx K=>eo.1 K;have two:∀x,x=u->x∈[u]:=λx K=>eo.2 K
  have S:∀k∈f,jb (E1 aa sl cl pr) (·=u) k (cst d e k):=λk hk=>by
   let(q,i,A):=at_ k hk
   rw [A];exact n8 one (R.qk k q i).2
  have T:∀j∈G,∀B,jb (E1 aa sl cl pr) (·=u) j B->j∈f/\cst d e j<=B:=λj o B C=>by let(q,i,hl):=Gp R (n8 two C);refine{(E j).2 {o,(mD R).2 ⟨q,i⟩},?_};unfold cst;rw [i];exact hl
  have U:∀k∈f,(∀j∈f,cD (f.map (cst d e)) ((f.map (cst d e)).length-1)<=cst d e j)/\∃D∈f,cst d e D=cD (f.map (cst d e)) ((f.map (cst d e)).length-1):=λk hk=>by
   have I:f.map (cst d e)≠[]:=λz=>by rw [List.map_eq_nil_iff] at z;rw [z] at hk;cases hk
   have:=Cp I;exact{λj o=>this.1 _ (List.mem_map_of_mem o),fm.1 this.2}
  rw [List.mem_filter,zzy];constructor
  .rintro ⟨hk,ek⟩
   refine{((E k).1 hk).1,cst d e k,S k hk,λj o B C=>?_};let(a,b):=T j o B C;have:=(U k hk).1 j a;lia
  .rintro ⟨hk,c,C,hle⟩
   let(a,b):=T k hk c C;let(m1,D,m2,m3):=U k a;have h1:=hle D ((E D).1 m2).1 _ (S D m2);have h2:=m1 k a;exact{a,by lia}
end
theorem zG:∀(n:Nat) (a b:List Int),eqs (jy n) (a.map .int) (b.map .int)=decide (a=b)
 |_,[],[]=>rfl|_,[],_::_=>rfl|_,_::_,[]=>rfl|n,x::a,y::b=>by
  have:jy n (.int x) (.int y)=(x==y):=by cases n<;>rfl
  simp! [a7,eqs,zG n a b,this];rw [Bool.eq_iff_iff];simp
def j9(n:Nat)(a b:List Int):jy (n+1) (af a) (af b)=decide (a=b):=zG n a b
theorem oN:∀(n:Nat) (a b:Ks),eqs (jy (n+1)) (a.map af) (b.map af)=decide (a=b)
 |_,[],[]=>rfl|_,[],_::_=>rfl|_,_::_,[]=>rfl|n,x::a,y::b=>by simp! [a7,eqs,oN n a b,j9];rw [Bool.eq_iff_iff];simp
def Kk(n:Nat)(a:List Int):(a.map PV.int).all (Ci.plain n)=gS:=by
 simp! [c5,fm]
 rintro x ⟨i,_,rfl⟩
 cases n<;>rfl
def ik(n:Nat)(a:List Int):Ci.plain (n+1) (af a)=gS:=Kk n a
def uh(n:Nat)(a:Ks):(a.map af).all (Ci.plain (n+1))=gS:=by
 simp! [c5,fm]
 rintro x ⟨i,_,rfl⟩
 exact ik n i
def nT(n:Nat)(a:Ks):Ci.plain (n+2) (.lst (a.map af))=gS:=uh n a
def VM(a b:Ks):fJ (.lst (a.map af)) (.lst (b.map af))=.ok (.bl (decide (a=b))):=by show(if(Ci.plain 9 (.lst (a.map af))&&Ci.plain 9 (.lst (b.map af)))=gS then Res.ok (PV.bl (jy 9 (.lst (a.map af)) (.lst (b.map af)))) else .bad)=_;rw [nT 7,nT 7];exact congrArg (λz=>Res.ok (PV.bl z)) (oN 7 a b)
def QC(a b:Ks):gE (.lst (a.map af)) (.lst (b.map af))=.ok (.bl (!decide (a=b))):=by show(if(Ci.plain 9 (.lst (a.map af))&&Ci.plain 9 (.lst (b.map af)))=gS then Res.ok (PV.bl (!jy 9 (.lst (a.map af)) (.lst (b.map af)))) else .bad)=_;rw [nT 7,nT 7];exact congrArg (λz=>Res.ok (PV.bl (!z))) (oN 7 a b)
def Mx(f:List PV->Res PV):Prop:=∀a,m8 a->∃S:Ks,f [fl a]=.ok (.lst (S.map af))/\S.length<=36/\xb S/\∀k,k∈S↔dy a k
def GQ{F:aL}(h:sD F):Mx (F (zu 11)):=by
 intro f R;let(L,e,g,hl,hm):=h f R;refine{L.map kN,?_,zx6 hl,?_,λk=>?_}
 .rw [e,List.map_map];rfl
 .exact List.pairwise_map.2 g
 .rw [fm];constructor
  .rintro ⟨p,i,rfl⟩
   have:=(hm p.1 p.2).1 i;exact{_,_,rfl,nR.2 {by lia,by lia,this}}
  .rintro ⟨r,c,rfl,h⟩
   let(a,b,d):=nR.1 h;refine{(r.toNat,c.toNat),(hm _ _).2 d,?_};show [(r.toNat:Int),(c.toNat:Int)]=[r,c];rw [Int.toNat_of_nonneg a,Int.toNat_of_nonneg b]
theorem rT{a:Type}:∀(ps:List (List Int×a)) (ks:Ks) (vs:List a),(ks++ps.map (·.1)).Nodup->bh ps ks vs=(ks++ps.map (·.1),vs++ps.map (·.2))
 |[],ks,vs,_=>by simp [bh]|p::ps,ks,vs,h=>by
  have b:bX ks p.1=gU:=by
   cases c:bX ks p.1 with
   |false=>rfl|true=>have:=(List.nodup_append.1 h).2.2 _ (bR.1 c) p.1 (by simp);exact absurd rfl this
  have hm:=rT ps (ks++[p.1]) (vs++[p.2]) (by rw [List.append_assoc];exact h);rw [bh,aZ,aV,b,if_neg (by simp),if_neg (by simp),hm,List.append_assoc,List.append_assoc];rfl
def lP{U:Ks}(nd:ks.Nodup)(h:∀k∈ks,k∈U):ks.length<=U.length:=by
 induction ks generalizing U with
 |nil=>exact Nat.zero_le _|cons a ks c=>let(d,e):=List.nodup_cons.1 nd;have b:=h a (cP ..);have:=c (U:=U.erase a) e λk hk=>(List.mem_erase_of_ne (λz:k=a=>d (by rw [<-z];exact hk))).2 (h k (bc _ hk));rw [List.length_erase_of_mem b] at this;have:=List.length_pos_of_mem b;rw [cu];lia
def Uc(E:kB)(G:Ks)(u:List Int)(m:Option Int):Prop:=(∀c,m=gF c->(∃g∈G,jb E (·=u) g c)/\∀g∈G,∀a,jb E (·=u) g a->c<=a)/\(m=gK->∀g∈G,∀c,¬jb E (·=u) g c)
def mem_keys(k:List Int)(L:Ks):Cn (af k) (L.map af)=decide (k∈L):=by
 unfold Cn;rw [List.any_map,Bool.eq_iff_iff,et,zzN];constructor
 .rintro ⟨x,a,e⟩
  have:decide (x=k)=gS:=(j9 8 x k).symm.trans e;exact zzY this▸a
 .intro h;exact{k,h,(j9 8 k k).trans (zzh rfl)}
def Fz(k:List Int)(L:Ks):eR (af k) (.lst (L.map af))=.ok (.bl (!decide (k∈L))):=by show(if(Ci.plain 9 (af k)&&(L.map af).all (Ci.plain 9))=gS then Res.ok (PV.bl (!Cn (af k) (L.map af))) else .bad)=_;rw [ik 8,uh 8,mem_keys];rfl
def inL(k:List Int)(L:Ks):ue (af k) (.lst (L.map af))=.ok (.bl (decide (k∈L))):=by show(if(Ci.plain 9 (af k)&&(L.map af).all (Ci.plain 9))=gS then Res.ok (PV.bl (Cn (af k) (L.map af))) else .bad)=_;rw [ik 8,uh 8,mem_keys];rfl
section
variable{E:kB}{G:Ks}{m:Option Int}
def Uc.nr(h:Uc E G u m):Nr E u G k↔∃c,m=gF c/\k∈G/\jb E (·=u) k c:=by
 constructor
 .rintro ⟨hk,c,w,l⟩
  cases m with
  |none=>exact absurd w (h.2 rfl k hk c)|some d=>let(g,e,f):=(h.1 d rfl).1;have a:=l g e d f;have b:=(h.1 d rfl).2 k hk c w;exact{d,rfl,hk,by rw [show d=c by lia];exact w}
 .rintro ⟨c,i,hk,w⟩
  exact{hk,c,w,(h.1 c i).2}
end
theorem zQ{a:Type}{f:List Int->a}:∀{L:Ks},ai L (L.map f) k=if k∈L then gF (f k) else gK
 |[]=>rfl|x::L=>by
  show(if x=k then gF (f x) else ai L (L.map f) k)=_;rw [zQ];by_cases e:x=k
  .subst e;simp
  .have:(k∈x::L)=(k∈L):=by rw [ey,eq_iff_iff];exact{λz=>z.resolve_left λy=>e y.symm,.inr}
   simp! [this,if_neg e]
def D1{a:Type}(xs:List a){k:Nat}(h:k<=xs.length):j8 xs (gF (k:Int)) gK=xs.drop k:=by unfold j8;rw [HT.AQ,HT.pU,Nat.min_eq_left h];exact List.take_of_length_le (by simp)
def sX{a:List Str}{w:Nat}(L:Fl a w)(d:0<=r)(h1:r<a.length)(e:0<=c)(h:c<w):∃z,aG (fl a) (.int r)=.ok (.str z)/\∃x:Nat,aG (.str z) (.int c)=.ok (.str {#[x]})/\(x !=35)=cE a r c:=by let(i,rfl):=fi d;let(j,rfl):=fi e;let(x,b):=Sq L (i:=i) (j:=j) (by lia) (by lia);let(z,_,f,g):=DX L.qD b;exact{z,f,x,g,by simp [cE,HI,b]}
def Gz(x:Nat):fJ (.str {#[x]}) (.str "#")=.ok (.bl (!(x !=35))):=by
 have:(("#":Str))={#[35]}:=by decide+kernel
 rw [this];show Res.ok (PV.bl (({#[x]}:Str)=={#[35]}))=_
 congr 2
 rw [bne,Bool.not_not,Bool.eq_iff_iff];simp
def Jv{t u:Bool}:(if t=gS then Res.ok (PV.bl gS) else Res.ok (PV.bl u))=Res.ok (PV.bl (t||u)):=by cases t<;>rfl
abbrev US:Ss:=#v[.ret (.bin .add (!5) (.ite (.cmp .gt (!4) (¬0)) (.bin .mul (.sub (!1) (¬2)) (!4)) (¬0)))]
abbrev QB:Ss:=.cons (.ite (.and (.cmp .ne (.sub (!2) (¬0)) (.sub (!3) (¬0))) (.cmp .ne (.sub (!2) (¬1)) (.sub (!3) (¬1)))) #v[.ite (.or (.not (.sub (!1) (¬0))) (.or (.cmp .eq (.sub (.sub (!0) (.sub (!2) (¬0))) (.sub (!3) (¬1))) (.cst (.str "#"))) (.cmp .eq (.sub (.sub (!0) (.sub (!3) (¬0))) (.sub (!2) (¬1))) (.cst (.str "#"))))) #v[.ret (.cst .aC)] .nil,.set 5 (¬3)] .nil) US
abbrev UQ:Ss:=.cons (.ite (.or (.cmp .gt (!4) (.sub (!1) (¬1))) (.cmp .gt (.bin .sub (¬0) (!4)) (.sub (!1) (¬1)))) #v[.ret (.cst .aC)] .nil) QB
theorem JF:cy.body=(.cons (.set 4 (.bin .sub (.blt .int #v[.sub (.sub (!0) (.sub (!3) (¬0))) (.sub (!3) (¬1))]) (.blt .int #v[.sub (.sub (!0) (.sub (!2) (¬0))) (.sub (!2) (¬1))]))) (.cons (.set 5 (¬2)) UQ)):=rfl
noncomputable abbrev Wy(A:PV)(sl:Bool)(cl pr r c a b d k:Int):Sl:=[.val A,.val (wk sl cl pr),.val (sp r c),.val (sp a b),.val (.int d),.val (.int k)]
def Ff(F:aL)(A:PV)(sl:Bool){pr:Int}(V:Wk cl pr)(r c d e a k:Int):aD F US (Wy A sl cl pr r c d e a k)=.ok (.rt (.int (k+pr*(if a>0 then a else 0)))):=by
 have f:=rX (j:=a) V.p0 V.p4;by_cases b:0<a
 .rw [if_pos b];simp! only [US,b,decide_true,f]
 .rw [if_neg b,Int.mul_zero];simp! only [US,b,decide_false]
def OD(F:aL){a:List Str}{w:Nat}(L:Fl a w){pr:Int}(V:Wk cl pr){r c b:Int}(h:cE a r c=gS)(h':cE a d b=gS)(j:Int):
 aD F QB (Wy (fl a) sl cl pr r c d b j 2)=.ok (.rt (if(r≠d/\c≠b)/\¬(sl=gS/\cE a r b=gS/\cE a d c=gS) then .aC else .int ((if r≠d/\c≠b then 3 else 2)+pr*(if j>0 then j else 0)))):=by
 have k:=mH L h;have m:=mH L h';let(B,p,C,q,s):=sX L (r:=r) (c:=b) k.1 k.2.1 m.2.2.1 m.2.2.2;let(D,d1,E,d2,d3):=sX L (r:=d) (c:=c) m.1 m.2.1 k.2.2.1 k.2.2.2;have u:=Ff F (fl a) sl V r c d b j 3;have t:=Ff F (fl a) sl V r c d b j 2;by_cases e:r≠d/\c≠b
 .have f:(!(r==d))=gS:=zx6 e.1;have g:(!(c==b))=gS:=zx6 e.2;rw [if_pos e];by_cases i:sl=gS/\cE a r b=gS/\cE a d c=gS
  .rw [if_neg λz=>z.2 i];have o:(!sl||(!cE a r b||!cE a d c))=gU:=by rw [i.1,i.2.1,i.2.2];rfl
   simp! only [QB,p,q,d1,d2,Gz,s,d3,Jv,f,g,o,Bool.true_or,u]
  .rw [if_pos ⟨e,i⟩];have o:(!sl||(!cE a r b||!cE a d c))=gS:=by
    cases sl with
    |false=>rfl|true=>
     cases y:cE a r b with
     |false=>rfl|true=>
      cases A:cE a d c with
      |false=>rfl|true=>exact absurd ⟨rfl,y,A⟩ i
   simp! only [QB,p,q,d1,d2,Gz,s,d3,Jv,f,g,o,Bool.true_or]
 .rw [if_neg λz=>e z.1,if_neg e]
  cases f:(!(r==d)) with
  |false=>simp! only [QB,f,t]|true=>
   have g:(!(c==b))=gU:=by
    cases g:(!(c==b)) with
    |false=>rfl|true=>exact absurd {zx6 f,zx6 g} e
   simp! only [QB,f,g,t]
def x8(F:aL){a:List Str}{w:Nat}(L:Fl a w){sl:Bool}{pr:Int}(V:Wk cl pr){b:Int}(h:cE a r c=gS)(h':cE a b d=gS)(i:¬iS r c b d):
 ax F cy [fl a,wk sl cl pr,sp r c,sp b d]=.ok (oP (cZ a sl cl pr r c b d)):=by
 let(y,z,j,k,m,_):=pf L h;let(A,B,o,p,q,_):=pf L h';have s:cZ a sl cl pr r c b d=_:=if_neg i;rw [s];have st:cO cy [fl a,wk sl cl pr,sp r c,sp b d]=[.val (fl a),.val (wk sl cl pr),.val (sp r c),.val (sp b d),.no,.no]:=rfl;have t:cM cy [fl a,wk sl cl pr,sp r c,sp b d]=gS:=rfl;have u:=OD F L V (sl:=sl) h h' (cT a b d-cT a r c);have go:∀x,aD F UQ (Wy (fl a) sl cl pr r c b d (cT a b d-cT a r c) 2)=.ok (.rt x)->ax F cy [fl a,wk sl cl pr,sp r c,sp b d]=.ok x:=λx e=>by unfold ax;rw [t,if_pos rfl,st,JF];simp! [aD,gO,aJ,cQ,J,J2,j,k,m,o,p,q,e]
 by_cases g:cl<cT a b d-cT a r c\/cl<cT a r c-cT a b d
 .have:(if(r≠b/\c≠d)/\¬(sl=gS/\cE a r d=gS/\cE a b c=gS) then gK else if cl<cT a b d-cT a r c\/cl<cT a r c-cT a b d then gK else gF ((if r≠b/\c≠d then 3 else 2)+pr*(if cT a b d-cT a r c>0 then cT a b d-cT a r c else 0)))=(gK:Option Int):=by
   rw [if_pos g];split<;>rfl
  rw [this];have f:(decide (cl<cT a b d-cT a r c)||decide (cl<0-(cT a b d-cT a r c)))=gS:=by rw [eU,zzN,zzN];lia
  refine go .aC ?_;simp! only [UQ,Jv,f]
 .have f:(decide (cl<cT a b d-cT a r c)||decide (cl<0-(cT a b d-cT a r c)))=gU:=by
   rw [Bool.or_eq_false_iff,decide_eq_false_iff_not,decide_eq_false_iff_not];lia
  rw [if_neg g];refine(go _ ((?_:_=_).trans u)).trans ?_
  .simp! only [UQ,Jv,f]
  .split<;>rfl
def qQ(F:aL):Prop:=∀a w,Fl a w->∀e cl pr,Wk cl pr->∀r c b d,cE a r c=gS->cE a b d=gS->¬iS r c b d->F (zu 48) [fl a,wk e cl pr,sp r c,sp b d]=.ok (oP (cZ a e cl pr r c b d))
abbrev OG(a:List Str)(sl:Bool)(cl pr r c:Int)(i:Nat):Option (List Int×Int):=if i≠4/\cE a (r-1+i/3) (c-1+i%3)=gS then(cZ a sl cl pr r c (r-1+i/3) (c-1+i%3)).map λv=>([r-1+(i:Int)/3,c-1+(i:Int)%3],v) else gK
abbrev OH(a:List Str)(sl:Bool)(cl pr r c:Int)(i:Nat):Option PV:=if i≠4/\cE a (r-1+i/3) (c-1+i%3)=gS then(cZ a sl cl pr r c (r-1+i/3) (c-1+i%3)).map λv=>tK ([r-1+(i:Int)/3,c-1+(i:Int)%3],v) else gK
abbrev kC:E:=.and (.ch .le .lt (¬0) (!5) (.blt .len #v[!0])) (.and (.ch .le .lt (¬0) (!6) (.blt .len #v[.sub (!0) (¬0)])) (.and (.cmp .ne (!4) (¬4)) (.cmp .ne (.sub (.sub (!0) (!5)) (!6)) (.cst (.str "#")))))
abbrev kT:Ss:=#v[.set 7 (.call (zu 48) #v[!0,!1,!2,.tup #v[!5,!6]]),.ite (.cmp .EW (!7) (.cst .aC)) #v[.app 3 (.tup #v[.tup #v[!5,!6],!7])] .nil]
abbrev kR:Ss:=#v[.ite kC kT .nil]
abbrev vQ:Ss:=.cons (.set 5 (.bin .add (.bin .sub (.sub (!2) (¬0)) (¬1)) (.bin .fdiv (!4) (¬3)))) (.cons (.set 6 (.bin .add (.bin .sub (.sub (!2) (¬1)) (¬1)) (.bin .mod (!4) (¬3)))) kR)
def EN{t u:Bool}:(if t=gS then Res.ok (PV.bl u) else Res.ok (PV.bl gU))=Res.ok (PV.bl (t&&u)):=by cases t<;>rfl
def Yz{a:List Str}{w:Nat}(L:Fl a w):∃z,aG (fl a) (.int 0)=.ok (.str z)/\z.length=w/\z.length<=dW:=by have b:a[0]?=gF (a[0]'L.ne):=zzg L.ne;have hm:=a0 b;exact{_,Gu (j:=0) b,L.Kx _ hm,c6 (L.qD.2 _ hm) (by decide)}
def Sr(F:aL){c:List Str}{w:Nat}(L:Fl c w)(A B:PV)(i:Nat)(k m:Ci.Slot)(a b:Int):
 aJ F kC [.val (fl c),.val A,.val B,k,.val (.int i),.val (.int a),.val (.int b),m]=.ok (.bl (decide (i≠4/\cE c a b=gS))):=by
 let(o,g,p,h):=Yz L;have j:(o.length:Int)=(w:Int):=by rw [p]
 by_cases d:0<=a/\a<c.length
 .by_cases f:0<=b/\b<w
  .let(z,r,x,s,t):=sX L d.1 d.2 f.1 f.2;have e:decide (i≠4/\cE c a b=gS)=((!((i:Int)==4))&&cE c a b):=by rw [Bool.eq_iff_iff,zza,zzN];simp;lia
   rw [e];simp! only [kC,d.1,d.2,f.1,f.2,g,j,h,decide_true,zzl,r,s,t,yy,EN,Bool.true_and]
  .have e:decide (i≠4/\cE c a b=gS)=gU:=zz0 λz=>f (mH L z.2).2.2;have q:(decide (0<=b)&&decide (b<(w:Int)))=gU:=by rw [<-Bool.decide_and];exact zz0 f
   rw [e];simp! only [kC,d.1,d.2,g,j,h,decide_true,zzl,EN,q,Bool.true_and,Bool.false_and]
 .have e:decide (i≠4/\cE c a b=gS)=gU:=zz0 λz=>d {(mH L z.2).1,(mH L z.2).2.1};have q:(decide (0<=a)&&decide (a<(c.length:Int)))=gU:=by rw [<-Bool.decide_and];exact zz0 d
  rw [e];simp! only [kC,zzl,EN,q,Bool.true_and,Bool.false_and]
def E3(F:aL)(s:qQ F){b:List Str}{w:Nat}(L:Fl b w){pr:Int}(V:Wk cl pr)(h:cE b r c=gS)(i:Nat)(B:i<9)(a:List PV)(t:a.length<=100)(o p q d:Ci.Slot):
 ∃(u:Ci.Slot),(((Tg.one 4).put (.int i) [.val (fl b),.val (wk sl cl pr),.val (sp r c),.own (.lst a),o,p,q,d]).bind λj=>aD F vQ j)=
  .ok (.nx [.val (fl b),.val (wk sl cl pr),.val (sp r c),.own (.lst (a++(OH b sl cl pr r c i).toList)),.val (.int i),.val (.int (r-1+i/3)),.val (.int (c-1+i%3)),u]):=by
 have y:(0:Int)<3:=by decide
 have z:(0:Int)<3/\(3:Int)<1073741824:=by decide
 have k:a.length<dW:=dA t (by decide);have f:=Sr F L (wk sl cl pr) (sp r c) i (.own (.lst a)) d (r-1+(i:Int)/3) (c-1+(i:Int)%3);have go:∀x,aD F kR [.val (fl b),.val (wk sl cl pr),.val (sp r c),.own (.lst a),.val (.int i),.val (.int (r-1+i/3)),.val (.int (c-1+i%3)),d]=x->(((Tg.one 4).put (.int i) [.val (fl b),.val (wk sl cl pr),.val (sp r c),.own (.lst a),o,p,q,d]).bind λj=>aD F vQ j)=x:=λx e=>by simp! only [vQ,y,z,and_self,e]
 unfold OH;by_cases g:i≠4/\cE b (r-1+i/3) (c-1+i%3)=gS
 .rw [if_pos g];rw [zzh g] at f;have A:¬iS r c (r-1+i/3) (c-1+i%3):=by unfold iS;lia
  have e:=s b w L sl cl pr V r c _ _ h g.2 A
  cases hs:cZ b sl cl pr r c (r-1+i/3) (c-1+i%3) with
  |none=>rw [hs] at e;simp! [oP] at e;have m:iZ .aC .aC=.ok (.bl gU):=rfl;refine{.val .aC,go _ ?_};rw [kR,aD,gO,f];simp! only [kT,e,m,Option.map_none,Option.toList_none,gg]|some v=>rw [hs] at e;simp! [oP] at e;have m:iZ (.int v) .aC=.ok (.bl gS):=rfl;refine{.val (.int v),go _ ?_};rw [kR,aD,gO,f];simp! only [kT,e,m,k,Option.map_some,Option.toList_some];rfl
 .rw [if_neg g];rw [zz0 g] at f;refine{d,go _ ?_};rw [kR,aD,gO,f];simp! only [Option.toList_none,gg]
def OI(a:List Str)(sl:Bool)(cl pr r c:Int)(i:Nat):OH a sl cl pr r c i=(OG a sl cl pr r c i).map tK:=by
 unfold OH OG;split
 .rw [Option.map_map];rfl
 .rfl
theorem zM{b c:Type}(f:b->Option c):∀l:List b,(l.flatMap λa=>(f a).toList)=l.filterMap f
 |[]=>rfl|a::l=>by rw [List.flatMap_cons,zM f l,List.filterMap_cons];cases f a<;>rfl
def qP(f:List PV->Res PV):Prop:=∀d w,Fl d w->∀g cl pr,Wk cl pr->∀r c,cE d r c=gS->∃T:List (List Int×Int),f [fl d,wk g cl pr,af [r,c]]=.ok (.lst (T.map tK))/\T.length<=9/\(T.Pairwise λa b=>HT.lexLt a.1 b.1=gS)/\∀v e,(v,e)∈T↔E1 d g cl pr [r,c] v e
def fq(F:aL):Prop:=qP (F (zu 10))
def Ck(F:aL)(A:qQ F):qP (ax F bx):=by
 intro d w L f cl pr V r c h;refine{(List.range 9).filterMap (OG d f cl pr r c),?_,c6 (List.length_filterMap_le _ _) (by simp),?_,λv e=>?_}
 .let(Q,e):=gk (body:=λx env=>((Tg.one 4).put x env).bind λB=>aD F vQ B) (g:=λi:Nat=>PV.int (i:Int)) (mk:=λo (s:Ci.Slot×Ci.Slot×Ci.Slot×Ci.Slot)=>[.val (fl d),.val (wk f cl pr),.val (sp r c),.own (.lst o),s.1,s.2.1,s.2.2.1,s.2.2.2]) (app:=λi=>(OH d f cl pr r c i).toList) (m:=1) (M:=50) (List.range 9) [] (.no,.no,.no,.no) (λi Z=>by cases OH d f cl pr r c i<;>simp) (λi z o s hl=>by
   let(u,e):=E3 F A L V h i (List.mem_range.1 z) o (by omega) s.1 s.2.1 s.2.2.1 s.2.2.2;exact{(_,_,_,u),e}) (by decide)
  have k:af [r,c]=sp r c:=rfl;have s:bf 9=gS:=by decide
  have C:fb 0 (9:Int).toNat=(List.range 9).map λi:Nat=>PV.int (i:Int):=by unfold fb;refine List.map_congr_left λi Z=>?_;rw [Int.zero_add]
  have D:((List.range 9).flatMap λi=>(OH d f cl pr r c i).toList)=((List.range 9).filterMap (OG d f cl pr r c)).map tK:=by
   rw [zM,List.map_filterMap]
   congr 1
   funext i
   exact OI ..
  rw [D,<-C] at e;have E:bx.body=.cons (.own 3 (.lst .nil)) (.cons (.cX (.one 4) (.qC (.cst (.int 9))) vQ) (.cons (.bC 3) (.cons (.ret (.var 3)) .nil))):=rfl;have st:cO bx [fl d,wk f cl pr,sp r c]=[.val (fl d),.val (wk f cl pr),.val (sp r c),.no,.no,.no,.no,.no]:=rfl;have G:cM bx [fl d,wk f cl pr,sp r c]=gS:=rfl;rw [k];unfold ax;rw [G,if_pos rfl,st,E];simp! only [s] at e⊢;simp! only [e,BS]
 .refine List.Pairwise.filterMap (S:=λa b:List Int×Int=>HT.lexLt a.1 b.1=gS) (R:=λi j:Nat=>i<j) _ (λi j T a p b q=>?_) List.pairwise_lt_range;unfold OG at p q;split at p
  .split at q
   .let(_,_,rfl):=b0.1 p;let(_,_,rfl):=b0.1 q;exact WG (by omega)
   .cases q
  .cases p
 .rw [fw];constructor
  .rintro ⟨i,z,g⟩
   unfold OG at g;split at g
   .rename_i H;let(x,I,g):=b0.1 g;cases g;exact{r,c,_,_,rfl,rfl,h,H.2,I}
   .cases g
  .rintro ⟨a,b,t,y,g1,rfl,_,K,hs⟩
   cases g1;have N:=(il.1 hs).1;unfold iS at N;refine{(3*(t-r+1)+(y-c+1)).toNat,List.mem_range.2 (by omega),?_};have O:r-1+((3*(t-r+1)+(y-c+1)).toNat:Int)/3=t:=by omega
   have P:c-1+((3*(t-r+1)+(y-c+1)).toNat:Int)%3=y:=by omega
   unfold OG;rw [O,P,if_pos {by omega,K},hs];rfl
inductive Mw(E:kB):Ks->Int->Prop
 |one {x:List Int}:Mw E [x] 0
 |cons {x y:List Int} {l:Ks} {e d:Int}:E x y e->Mw E (y::l) d->Mw E (x::y::l) (e+d)
def LK{a:List Str}{pr:Int}{v:List Int}{e b:Int}(h:E1 a sl cl pr u v e)(h':E1 a sl cl pr u v b):b=e:=by let(r,c,j,k,rfl,rfl,_,_,f):=h;let(_,_,_,_,g,i,_,_,d):=h';cases g;cases i;rw [f] at d;cases d;rfl
theorem oG{g:List Int}(a:∀t:List Int×Int,f (tK t)=.ok (if decide (t.1=g) then gF (.int t.2) else gK)):∀T:List (List Int×Int),aH f (T.map tK)=.ok (((T.filter λt=>decide (t.1=g)).map (·.2)).map PV.int)
 |[]=>rfl|t::T=>by simp! [a7,aH,a,QJ,m9,oG a T,fS];cases(decide (t.1=g))<;>rfl
def Eh{d:List Str}{pr:Int}{g:List Int}{e:Int}{T:List (List Int×Int)}(f:∀v e,(v,e)∈T↔E1 d sl cl pr u v e)(he:E1 d sl cl pr u g e):∃ns,(T.filter λt=>decide (t.1=g)).map (·.2)=e::ns:=by
 cases h:T.filter λt=>decide (t.1=g) with
 |nil=>have:(g,e)∈T.filter λt=>decide (t.1=g):=List.mem_filter.2 {(f g e).2 he,zzh rfl};rw [h] at this;cases this
 |cons t r=>
  have:t∈T.filter λt=>decide (t.1=g):=by rw [h];exact cP ..
  let(i,c):=List.mem_filter.1 this;let(a,b):=t;have c:a=g:=zzY c;subst c;rw [a7];exact{_,congrArg (·::_) (LK he ((f a b).1 i))}
abbrev AO:Ss:=#v[.set 7 (.bJ 1 [6] (.one 0) (.seq (.call (zu 10) #v[!0,!1,.sub (!2) (!5)])) (.cmp .eq (.sub (!0) (¬0)) (!1)) (.sub (!0) (¬1))),.ite (.cmp .eq (!7) (.lst .nil)) #v[.ret (.cst .aC)] .nil,.set 4 (.bin .add (!4) (.sub (!7) (¬0)))]
def ZP(a b:List Int):fJ (af a) (af b)=.ok (.bl (decide (a=b))):=by show(if(Ci.plain 9 (af a)&&Ci.plain 9 (af b))=gS then Res.ok (PV.bl (jy 9 (af a) (af b))) else .bad)=_;rw [ik 8,ik 8];exact congrArg (λz=>Res.ok (PV.bl z)) (j9 8 a b)
theorem wZ(F:aL)(hs:fq F){a:List Str}{w:Nat}(L:Fl a w){pr:Int}(V:Wk cl pr)(A:PV)(W:Ks):∀(l:Ks) (x:List Int) (d s:Int) (k:Nat) (b s6 f:Ci.Slot),Mw (E1 a sl cl pr) (x::l) d->W.drop k=x::l->∃j m o,forL (λx env=>((Tg.two 5 6).put x env).bind λp=>aD F AO p) (df k (l.map af)) [.val (fl a),.val (wk sl cl pr),.val (.lst (W.map af)),.val A,.val (.int s),b,s6,f]=.ok (.nx [.val (fl a),.val (wk sl cl pr),.val (.lst (W.map af)),.val A,.val (.int (s+d)),j,m,o])
 |[],x,d,s,k,b,s6,f,h,q=>by cases h;exact{b,s6,f,by rw [Int.add_zero];rfl}
 |y::l,x,d,s,k,b,s6,f,h,q=>by
  cases h with
  |@cons _ _ _ e d he h=>
   obtain⟨r,c,G,H⟩:dy a x:=by let(r,c,_,_,I,_,K,_):=he;exact⟨r,c,I,K⟩
   let(T,u,lT,_,B):=hs a w L sl cl pr V r c H;rw [<-G] at u B;let(i,M):=Eh B he;have lT:T.length<dW:=dA lT (by decide);have hk:W[k]?=gF x:=by have:=congrArg (λz:Ks=>z[0]?) q;simpa using this
   have N:=(a9.1 hk).1;have O:aG (.lst (W.map af)) (.int k)=.ok (af x):=by simp! [aG];rw [gV (k:=k) (zx6 N)];rw [List.getElem_map,(a9.1 hk).2];rfl
   have P:∀t:List Int×Int,aG (tK t) (.int 0)=.ok (af t.1):=λt=>rfl;have C:∀t:List Int×Int,aG (tK t) (.int 1)=.ok (.int t.2):=λt=>rfl
   have D:fJ (.lst ((e::i).map PV.int)) (.lst [])=.ok (.bl gU):=by
    have:=eq_nil (e::i)
    rwa [zz0 (List.cons_ne_nil _ _)] at this
   have E:aG (.lst ((e::i).map PV.int)) (.int 0)=.ok (.int e):=by simp! [aG];rw [show(0:Int)=((0:Nat):Int) from rfl,gV (k:=0) (by simp)];rfl
   rw [a7] at D E;have Q:(((Tg.two 5 6).put (.tup [.int (k:Nat),af y]) [.val (fl a),.val (wk sl cl pr),.val (.lst (W.map af)),.val A,.val (.int s),b,s6,f]).bind λp=>aD F AO p)=.ok (.nx [.val (fl a),.val (wk sl cl pr),.val (.lst (W.map af)),.val A,.val (.int (s+e)),.val (.int k),.val (af y),.val (.lst ((e::i).map PV.int))]):=by simp! only [AO,O,u,zzl,lT];rw [oG (g:=y) (λt=>by simp! only [P,C,ZP];cases decide (t.1=y)<;>simp! only [C]),M];simp! only [D,E]
   let(j,m,o,R):=wZ F hs L V A W l y d (s+e) (k+1) (.val (.int k)) (.val (af y)) (.val (.lst ((e::i).map PV.int))) h (by rw [<-List.drop_drop,q];rfl);refine{j,m,o,?_};rw [a7,df,forL,Q,<-Int.add_assoc];exact R
theorem j4{a:Type}{p:a->PV}:∀{xs:List a},(∀x∈xs,f (p x)=.ok gK)->aH f (xs.map p)=.ok []
 |[],_=>rfl|x::xs,h=>by simp! [a7,aH,h x (cP ..),QJ,m9,j4 λy b=>h y (bc _ b)];rfl
def DD(f:List PV->Res PV):Prop:=∀a w,Fl a w->∀b cl pr,Wk cl pr->∀(l:Ks) d,Mw (E1 a b cl pr) l d->(∀x∈l,dy a x)->l.length<=2000->f [fl a,wk b cl pr,.lst (l.map af)]=.ok (.int d)
def yV(F:aL):Prop:=DD (F (zu 57))
def PZ(F:aL)(u:sD F)(hs:fq F):DD (ax F dc):=by
 intro e w L g cl pr V l d h A hl;let(S,i,_,lS,B):=u e L.qD;have eS:S.map Mk=(S.map λp=>[(p.1:Int),(p.2:Int)]).map af:=by rw [List.map_map];rfl
 rw [eS] at i;generalize hK:(S.map λp=>[(p.1:Int),(p.2:Int)])=K at i;have C:∀x∈l,x∈K:=λx D=>by let(r,c,rfl,E):=A x D;let(a,b,G):=nR.1 E;rw [<-hK];exact fm.2 {(r.toNat,c.toNat),(B _ _).2 G,by rw [Int.toNat_of_nonneg a,Int.toNat_of_nonneg b]}
 obtain⟨x,t,rfl⟩:∃x t,l=x::t:=by cases h<;>exact{_,_,rfl}
 let(P,Q,R,m):=wZ F hs L V (.lst (K.map af)) (x::t) t x d 0 0 .no .no .no h rfl;have j:(x::t).length<dW:=dA hl (by decide)
 have o:fJ (.lst ((x::t).map af)) (.lst [])=.ok (.bl gU):=by
  have:=VM (x::t) []
  rwa [zz0 (List.cons_ne_nil _ _)] at this
 have H:gE (.lst []) (.lst [])=.ok (.bl gU):=rfl;have s:eg (.lst ((x::t).map af)) (gF 1) gK=.ok (.lst (t.map af)):=by have:=D1 ((x::t).map af) (k:=1) (by simp);exact congrArg (λz=>Res.ok (PV.lst z)) this
 have I:dc.body=.cons (.set 3 (.call (zu 11) (.cons (.var 0) .nil)))
  (.cons (.ite (.or (.not (.ty .list (.var 2))) (.or (.cmp .eq (.var 2) (.lst .nil)) (.cmp .ne (.bJ 1 [3] (.one 0) (.seq (.var 2)) (.cmp .jV (.var 0) (.var 1)) (.var 0)) (.lst .nil)))) (.cons (.ret (.cst .aC)) .nil) .nil)
  (.cons (.set 4 (.cst (.int 0))) (.cons (.cX (.two 5 6) (.enum (.slice (.var 2) (.some (.cst (.int 1))) .no)) AO) (.cons (.ret (.var 4)) .nil)))):=rfl
 have st:cO dc [fl e,wk g cl pr,.lst ((x::t).map af)]=[.val (fl e),.val (wk g cl pr),.val (.lst ((x::t).map af)),.no,.no,.no,.no,.no]:=rfl;have M:cM dc [fl e,wk g cl pr,.lst ((x::t).map af)]=gS:=rfl;unfold ax;rw [M,if_pos rfl,st,I];rw [a7] at o s;have j:t.length+1<dW:=j;have N:aH (λx=>(eR x (.lst (K.map af))).bind λt=>ny t λt=>if t=gS then Res.ok (gF x) else Res.ok gK) (af x::t.map af)=.ok []:=by rw [<-a7 (f:=af)];refine j4 λy O=>?_;have q:=Fz y K;rw [zzh (C y O)] at q;rw [q];rfl
 simp! only [] at m⊢;simp! only [i,o,zzl,j,N,H,s,m,Int.zero_add]
def hX{n:Int}(h:ai ks ns k=gF n):aG (.aY ks (ns.map .int)) (af k)=.ok (.int n):=by show(Res.of (fI (af k))).bind (λk=>Res.of (ai _ _ k))=_;rw [dq];show Res.of (ai _ _ k)=_;rw [gu,h];rfl
abbrev wt(ks:Ks)(ns:List Int)(k:List Int):Nat:=match ai ks ns k with
 |some n=>n.toNat|none=>1081
abbrev HJ(ks:Ks)(ns:List Int):Nat:=(yW.map (wt ks ns)).sum
theorem yG{c:Type}{f g:c->Nat}:∀{l:List c},(∀a∈l,f a<=g a)->(l.map f).sum<=(l.map g).sum
 |[],_=>a5 _|a::l,h=>by have:=yG (l:=l) λb d=>h b (bc _ d);have:=h a (cP ..);simp! [a7,List.sum_cons];lia
theorem Ha{c:Type}{f g:c->Nat}{x:c}:∀{l:List c},(∀a∈l,f a<=g a)->x∈l->f x<g x->(l.map f).sum<(l.map g).sum
 |a::l,h,d,hl=>by
  have h1:=yG (l:=l) λb e=>h b (bc _ e);have i:=h a (cP ..)
  simp! [a7,List.sum_cons];rcases ey.1 d with rfl|d
  .lia
  .have:=Ha (l:=l) (λb e=>h b (bc _ e)) d hl;lia
def Kp(ks:Ks)(ns:List Int)(h:∀k n,ai ks ns k=gF n->n<=1081):HJ ks ns<=38916:=by
 have a:(yW.map (wt ks ns)).sum<=(yW.map λZ=>1081).sum:=yG λk Z=>by
  unfold wt;cases b:ai ks ns k with
  |none=>exact a5 _|some n=>have:=h k n b;show n.toNat<=1081;lia
 have c:(yW.map λZ=>1081).sum=38916:=by decide+kernel
 exact c▸a
theorem iU{c:Type}(f:List Int->c):∀{ks:Ks} {k:List Int},k∈ks->ai ks (ks.map f) k=gF (f k)
 |a::ks,k,h=>by
  show(if a=k then gF (f a) else ai ks (ks.map f) k)=_;by_cases b:a=k
  .rw [if_pos b,b]
  .rw [if_neg b];exact iU f ((ey.1 h).resolve_left λz=>b z.symm)
noncomputable abbrev C6(S:Ks)(f:List Int->List (List Int×Int)):PV:=.aY S (S.map λk=>.lst ((f k).map tK))
def PU{S:Ks}{f:List Int->List (List Int×Int)}(h:k∈S):aG (C6 S f) (af k)=.ok (.lst ((f k).map tK)):=by show(Res.of (fI (af k))).bind (λk=>Res.of (ai _ _ k))=_;rw [dq];show Res.of (ai _ _ k)=_;rw [iU _ h];rfl
theorem yu(f:List Int->PV):∀S:Ks,wG (S.map λk=>.tup [af k,f k])=gF (S.map λk=>(k,f k))
 |[]=>rfl|k::S=>by show(fI (af k)).bind (λa=>(wG (S.map λk=>.tup [af k,f k])).map ((a,f k)::·))=_;rw [dq,yu f S];rfl
def tM{S:Ks}(nd:S.Nodup)(f:List Int->PV):dX .dict [.lst (S.map λk=>.tup [af k,f k])]=.ok (.aY S (S.map f)):=by show(Res.of (wG _)).bind _=_;rw [yu];show Res.ok (PV.aY (bh (S.map λk=>(k,f k)) [] []).1 (bh (S.map λk=>(k,f k)) [] []).2)=_;rw [rT _ _ _ (by simpa [Function.comp_def] using nd)];simp [Function.comp_def]
structure yS(E:kB)(O:List Int->Prop)(g:List Int->Prop)(ks:Ks)(ns:List Int):Prop where
 len:ks.length=ns.length
 nd:ks.Nodup
 qk:∀k n,ai ks ns k=gF n->O k/\jb E g k n/\0<=n/\n+30<=30*ks.length
 st:∀x,g x->ai ks ns x=gF 0
def yS.has{E:kB}{O:List Int->Prop}{g:List Int->Prop}(C:yS E O g ks ns)(h:k∈ks):∃n,ai ks ns k=gF n:=by have:=ba (vs:=ns) k C.len;rw [bR.2 h] at this;exact eK.1 this.symm
def yS.le{E:kB}{O:List Int->Prop}{g:List Int->Prop}(C:yS E O g ks ns)(a:∀k,O k->k∈yW):ks.length<=36:=by rw [<-uK];exact lP C.nd λk hk=>by let(n,b):=C.has hk;exact a k (C.qk k n b).1
def yS.put{E:kB}{O:List Int->Prop}{g:List Int->Prop}(C:yS E O g ks ns)(j:∀k,O k->k∈yW){v:List Int}{n e:Int}(q:ai ks ns v=gF n)(o:O u)(he:E v u e)(s:0<e)(t:e<=30)(i:∀m,ai ks ns u=gF m->n+e<m):yS E O g (aZ ks u) (aV ks ns u (n+e))/\HJ (aZ ks u) (aV ks ns u (n+e))<HJ ks ns:=by
 have gp:=bt C.len u (n+e);let(_,w1,w,y):=C.qk v n q;have z:=C.le j
 have lp:ks.length<=(aZ ks u).length:=by
  unfold aZ;split
  .exact a5 _
  .rw [cA];lia
 have r:n+e+30<=30*(aZ ks u).length:=by
  unfold aZ;cases f:bX ks u with
  |true=>let(m,hm):=C.has (bR.1 f);have a:=i m hm;have b:=(C.qk u m hm).2.2.2;simp! [if_true];lia|false=>simp! [en,if_false,cA,cu,List.length_nil];lia
 refine{{iT C.len u _,eA C.nd u,λk m hk=>?_,?_},?_}
 .rw [gp] at hk;split at hk
  .rename_i h;subst h;cases hk;exact{o,w1.go he,by lia,r}
  .let(a,b,c,d):=C.qk k m hk;exact{a,b,c,by lia}
 .intro x f;rw [gp];split
  .rename_i h;subst h;have:=i 0 (C.st _ f);lia
  .exact C.st x f
 .have p:wt (aZ ks u) (aV ks ns u (n+e)) u<wt ks ns u:=by
   unfold wt;rw [gp,if_pos rfl];cases f:ai ks ns u with
   |some m=>have:=i m f;show(n+e).toNat<m.toNat;lia|none=>show(n+e).toNat<1081;lia
  refine Ha (x:=u) (λa Z=>?_) (j u o) p;by_cases h:u=a
  .subst h;exact Nat.le_of_lt p
  .unfold wt;rw [gp,if_neg h];exact a5 _
def wH(ks:Ks)(ns:List Int)(u:List Int)(n:Int):aV ks (ns.map .int) u (PV.int n)=(aV ks ns u n).map .int:=gq PV.int ks ns u n
theorem oQ{d:Type}{body:PV->Sl->Res Ci.Fl}{g:d->PV}{P:List d->Sl->Prop}:∀(l pre:List d) (env:Sl),(∀a∈l,∀pre env,P pre env->∃c,body (g a) env=.ok (.nx c)/\P (a::pre) c)->P pre env->∃c,forL body (l.map g) env=.ok (.nx c)/\P (l.reverse++pre) c
 |[],pre,env,_,h=>⟨env,rfl,h⟩|a::l,pre,env,h,h0=>by let(e,f,i):=h a (cP ..) pre env h0;let(j,k,m):=oQ l (a::pre) e (λb o=>h b (bc _ o)) i;exact{j,by simp! [a7,forL,f,m9,k],by rw [List.reverse_cons,List.append_assoc];exact m}
abbrev MY:Ss:=#v[.ite (.cmp .xW (!8) (.fG 5)) #v[.set 10 (.bin .add (.sub (.fG 5) (!8)) (!9)),.ite (.or (.cmp .jV (!7) (.fG 5)) (.cmp .lt (!10) (.sub (.fG 5) (!7)))) #v[.put 5 (!7) (!10),.set 6 (.cst (.bl gS))] .nil] .nil]
abbrev Ur:Ss:=#v[.cX (.two 8 9) (.seq (.sub (!4) (!7))) MY]
abbrev Us:Ss:=#v[.set 6 (.cst (.bl gU)),.cX (.one 7) (.seq (!3)) Ur]
noncomputable abbrev xg(A B G S Q:PV)(ks:Ks)(ns:List Int)(a:Bool)(b c s9 d:Ci.Slot):Sl:=[.val A,.val B,.val G,.val S,.val Q,.own (.aY ks (ns.map .int)),.val (.bl a),b,c,s9,d]
def Lq(ks:Ks)(ns:List Int)(u:List Int)(t:List Int×Int):Prop:=∀n,ai ks ns t.1=gF n->∃m,ai ks ns u=gF m/\m<=n+t.2
def Ju(E:kB)(O:List Int->Prop)(g:List Int->Prop)(A B G S Q:PV)(k0:Ks)(c:List Int)(D:Prop)(s:Option Ci.Slot)(env:Sl):Prop:=∃a b d e f h i,env=xg A B G S Q a b d e f h i/\(∀x,s=gF x->e=x)/\yS E O g a b/\HJ a b<=HJ k0 c/\(d=gS->HJ a b<HJ k0 c)/\(d=gU->a=k0/\b=c/\D)
section
variable{E:kB}{O:List Int->Prop}{g:List Int->Prop}{A B G Q:PV}{S:Ks}{f:List Int->List (List Int×Int)}
def Ju.mono{P:PV}{k0:Ks}{a:List Int}{D b:Prop}{s:Option Ci.Slot}(h:Ju E O g A B G P Q k0 a D s env)(d:D->b):Ju E O g A B G P Q k0 a b s env:=by let(c,i,j,k,m,o,p,e,q,C,r,t,hd):=h;exact{c,i,j,k,m,o,p,e,q,C,r,t,λz=>{(hd z).1,(hd z).2.1,d (hd z).2.2}}
def MZ(F:aL){P:PV}(y:∀k,O k->k∈yW)(k0:Ks)(e:List Int)(D:Prop)(M:O u)(t:List Int×Int)(he:E t.1 u t.2)(N:0<t.2)(R:t.2<=30)(env:Sl)(h:Ju E O g A B G P Q k0 e D (gF (.val (af u))) env):∃o,(((Tg.two 8 9).put (tK t) env).bind λo=>aD F MY o)=.ok (.nx o)/\Ju E O g A B G P Q k0 e (D/\Lq k0 e u t) (gF (.val (af u))) o:=by
 let(a,b,H,X,Y,Z,T,rfl,U,C,I,K,hd):=h;cases U _ rfl;have l:a.length<dW:=dA (C.le y) (by decide);have p:=ba (vs:=b) t.1 C.len;have q:=ba (vs:=b) u C.len
 cases c:ai a b t.1 with
 |none=>
  rw [c] at p;have i:bX a t.1=gU:=p;refine{_,?_,a,b,H,_,.val (af t.1),.val (.int t.2),T,rfl,(λx z=>by cases z;rfl),C,I,K,λz=>?_}
  .simp! only [MY,xg,inD,i]
  .let(rfl,rfl,d):=hd z;exact{rfl,rfl,d,λn j=>by rw [c] at j;cases j}
 |some n=>
  rw [c] at p;have i:bX a t.1=gS:=p;have s:=hX c;have done:(∀m,ai a b u=gF m->n+t.2<m)->Ju E O g A B G P Q k0 e (D/\Lq k0 e u t) (gF (.val (af u))) (xg A B G P Q (aZ a u) (aV a b u (n+t.2)) gS (.val (af u)) (.val (af t.1)) (.val (.int t.2)) (.val (.int (n+t.2)))):=λV=>by let(W,hl):=C.put y c M he N R V;exact{_,_,gS,_,_,_,_,rfl,(λx z=>by cases z;rfl),W,by lia,λ_=>by lia,λz=>by cases z}
  cases hw:ai a b u with
  |none=>rw [hw] at q;have r:bX a u=gU:=q;refine{_,?_,done λm hm=>by rw [hw] at hm;cases hm};simp! only [MY,xg,inD,qy,i,r,s,dq,l,wH]
  |some m=>
   rw [hw] at q;have r:bX a u=gS:=q;have L:=hX hw;by_cases w:n+t.2<m
   .refine{_,?_,done λm' hm=>by rw [hw] at hm;cases hm;exact w};simp! only [MY,xg,inD,qy,i,r,s,L,w,decide_true,dq,l,wH]
   .refine{_,?_,a,b,H,_,.val (af t.1),.val (.int t.2),.val (.int (n+t.2)),rfl,(λx z=>by cases z;rfl),C,I,K,λz=>?_}
    .simp! only [MY,xg,inD,qy,i,r,s,L,w,decide_false]
    .let(rfl,rfl,d):=hd z;exact{rfl,rfl,d,λn' j=>by rw [c] at j;cases j;exact{m,hw,by lia}}
def M0(F:aL)(I:∀k,O k->k∈yW)(K:∀u∈S,O u/\∀t∈f u,E t.1 u t.2/\0<t.2/\t.2<=30)(k0:Ks)(j:List Int)(D:Prop)(o:u∈S)(env:Sl)(h:Ju E O g A B G (.lst (S.map af)) (C6 S f) k0 j D gK env):∃d,(((Tg.one 7).put (af u) env).bind λd=>aD F Ur d)=.ok (.nx d)/\Ju E O g A B G (.lst (S.map af)) (C6 S f) k0 j (D/\∀t∈f u,Lq k0 j u t) gK d:=by
 let(p,q,r,s7,s,w,y,rfl,_,C,L,M,hd):=h;have N:=PU (f:=f) o;let(R,i):=K u o
 let(d,H,J2):=oQ (body:=λx env=>((Tg.two 8 9).put x env).bind λd=>aD F MY d) (g:=tK) (P:=λpre=>Ju E O g A B G (.lst (S.map af)) (C6 S f) k0 j (D/\∀t∈pre,Lq k0 j u t) (gF (.val (af u)))) (f u) [] (xg A B G (.lst (S.map af)) (C6 S f) p q r (.val (af u)) s w y) (λt h pre env T=>by
  let(a,b,c):=i t h;let(d,e,J):=MZ F I k0 j _ R t a b c env T
  exact{d,e,J.mono λz=>{z.1.1,λU i=>by
   rcases ey.1 i with rfl|i
   .exact z.2
   .exact z.1.2 U i}}) {p,q,r,_,s,w,y,rfl,(λx z=>by cases z;rfl),C,L,M,λz=>{(hd z).1,(hd z).2.1,(hd z).2.2,λt i=>nomatch i}}
 let(V,W,X,Y,Z,t9,uI,rfl,_,C',UI,RO,m):=J2;refine{_,?_,V,W,X,Y,Z,t9,uI,rfl,(λx z=>by cases z),C',UI,RO,λz=>{(m z).1,(m z).2.1,(m z).2.2.1,λt i=>(m z).2.2.2 t (zx6 i)}};simp! only [Ur,xg,N] at H⊢;simp! only [H]
def M3(F:aL)(D:∀k,O k->k∈yW)(H:∀u∈S,O u/\∀t∈f u,E t.1 u t.2/\0<t.2/\t.2<=30)(C:yS E O g ks ns)(I:Bool)(j m s9 o:Ci.Slot):∃b c d p q r s,aD F Us (xg A B G (.lst (S.map af)) (C6 S f) ks ns I j m s9 o)=.ok (.nx (xg A B G (.lst (S.map af)) (C6 S f) b c d p q r s))/\yS E O g b c/\(d=gS->HJ b c<HJ ks ns)/\(d=gU->b=ks/\c=ns/\∀u∈S,∀t∈f u,Lq ks ns u t):=by
 let(i,y,J2):=oQ (body:=λx env=>((Tg.one 7).put x env).bind λi=>aD F Ur i) (g:=af) (P:=λpre=>Ju E O g A B G (.lst (S.map af)) (C6 S f) ks ns (∀u∈pre,∀t∈f u,Lq ks ns u t) gK) S [] (xg A B G (.lst (S.map af)) (C6 S f) ks ns gU j m s9 o) (λu h pre env K=>by
  let(i,e,J):=M0 F D H ks ns _ h env K
  exact{i,e,J.mono λz L a=>by
   rcases ey.1 a with rfl|a
   .exact z.2
   .exact z.1 L a}) {ks,ns,gU,j,m,s9,o,rfl,(λx z=>by cases z),C,a5 _,(λz=>by cases z),λZ=>{rfl,rfl,λu h=>nomatch h}}
 let(b,c,d,p,q,r,s,rfl,_,M,_,N,w):=J2;refine{b,c,d,p,q,r,s,?_,M,N,λz=>{(w z).1,(w z).2.1,λu h=>(w z).2.2 u (zx6 h)}};simp! only [Us,xg] at y⊢;simp! only [y]
theorem zr(F:aL)(L:∀k,O k->k∈yW)(M:∀u∈S,O u/\∀t∈f u,E t.1 u t.2/\0<t.2/\t.2<=30):∀(n:Nat) (ks:Ks) (ns:List Int) (i:Bool) (a b s9 e:Ci.Slot),yS E O g ks ns->0<n->(i=gS->HJ ks ns+1<n)->(i=gU->∀u∈S,∀t∈f u,Lq ks ns u t)->∃j m N o p q r,dw (aJ F (.var 6)) (aD F Us) n (xg A B G (.lst (S.map af)) (C6 S f) ks ns i a b s9 e)=.ok (.nx (xg A B G (.lst (S.map af)) (C6 S f) j m N o p q r))/\yS E O g j m/\∀u∈S,∀t∈f u,Lq j m u t
 |0,_,_,_,_,_,_,_,_,h,_,_=>absurd h (Nat.lt_irrefl _)|n+1,ks,ns,gU,a,b,s9,e,C,_,_,c=>{ks,ns,gU,a,b,s9,e,rfl,C,c rfl}|n+1,ks,ns,gS,a,b,s9,e,C,_,h,_=>by have h':=h rfl;let(s,w,y,o,p,q,r,P,R,T,U):=M3 F (A:=A) (B:=B) (G:=G) L M C gS a b s9 e;let(D,H,I,V,W,X,K,Y,Z,c2):=zr F L M n s w y o p q r R (by lia) (λz=>by have:=T z;lia) (λz=>by let(rfl,rfl,d):=U z;exact d);refine{D,H,I,V,W,X,K,?_,Z,c2};have ec:aJ F (.var 6) (xg A B G (.lst (S.map af)) (C6 S f) ks ns gS a b s9 e)=.ok (.bl gS):=rfl;simp! [dw,ec,m9,MH,if_true,P,Y]
end
structure Lc(E:kB)(O:List Int->Prop)(g:List Int->Prop)(ks:Ks)(ns:List Int):Prop where
 c:yS E O g ks ns
 all:∀k c,jb E g k c->∃n,ai ks ns k=gF n/\n<=c
def K7{F:aL}(hs:fq F){a:List Str}{w:Nat}(L:Fl a w){pr:Int}(V:Wk cl pr){S:Ks}(hm:∀k,k∈S↔dy a k):∃f:List Int->List (List Int×Int),∀k∈S,F (zu 10) [fl a,wk sl cl pr,af k]=.ok (.lst ((f k).map tK))/\∀v e,(v,e)∈f k↔E1 a sl cl pr k v e:=by
 have:∀k,∃T:List (List Int×Int),k∈S->F (zu 10) [fl a,wk sl cl pr,af k]=.ok (.lst (T.map tK))/\∀v e,(v,e)∈T↔E1 a sl cl pr k v e:=λk=>by
  by_cases h:k∈S
  .let(r,c,rfl,b):=(hm k).1 h;let(T,e,_,_,d):=hs a w L sl cl pr V r c b;exact{T,λZ=>⟨e,d⟩}
  .exact{[],λz=>absurd z h}
 exact Classical.skolem.1 this
def A7(f:List PV->Res PV):Prop:=∀a w,Fl a w->∀b cl pr,Wk cl pr->∀G:Ks,(∀u∈G,dy a u)->G≠[]->G.length<=40->∃c d,f [fl a,wk b cl pr,lp G]=.ok (.aY c (d.map .int))/\Lc (Et a b cl pr) (dy a) (·∈G) c d
theorem m0{v:List Int}:∀(G:Ks) (ks:Ks) (ns:List Int),ks.length=ns.length->ks.Nodup->(∀k n,ai ks ns k=gF n->n=0)->(bh (G.map λk=>(k,(0:Int))) ks ns).1.length=(bh (G.map λk=>(k,(0:Int))) ks ns).2.length/\(bh (G.map λk=>(k,(0:Int))) ks ns).1.Nodup/\(∀k n,ai (bh (G.map λk=>(k,(0:Int))) ks ns).1 (bh (G.map λk=>(k,(0:Int))) ks ns).2 k=gF n->n=0/\(k∈G\/ai ks ns k=gF n))/\∀k,(k∈G\/ai ks ns k=gF 0)->ai (bh (G.map λk=>(k,(0:Int))) ks ns).1 (bh (G.map λk=>(k,(0:Int))) ks ns).2 k=gF 0
 |[],ks,ns,h,f,h0=>{h,f,λk n e=>{h0 k n e,.inr e},λk e=>e.resolve_left List.not_mem_nil}|x::G,ks,ns,h,f,h0=>by
  have gp:=bt h x (0:Int)
  let(a,b,c,d):=m0 (v:=v) G (aZ ks x) (aV ks ns x 0) (iT h x 0) (eA f x) λk n e=>by
   rw [gp] at e;split at e
   .cases e;rfl
   .exact h0 k n e
  refine{a,b,λk n e=>?_,λk e=>d k ?_}
  .let(z,y):=c k n e
   refine{z,?_};rcases y with y|y
   .exact .inl (bc _ y)
   .rw [gp] at y;split at y
    .rename_i q;subst q;exact .inl (cP ..)
    .exact .inr y
  .rw [gp];by_cases q:x=k
   .right;rw [if_pos q]
   .rw [if_neg q];rcases e with e|e
    .exact .inl ((ey.1 e).resolve_left λz=>q z.symm)
    .exact .inr e
theorem rV{a b:Type}(f:a->b):∀(ps:List (List Int×a)) (ks:Ks) (vs:List a),bh (ps.map λp=>(p.1,f p.2)) ks (vs.map f)=((bh ps ks vs).1,(bh ps ks vs).2.map f)
 |[],ks,vs=>rfl|p::ps,ks,vs=>by rw [a7,bh,bh,gq];exact rV f ps (aZ ks p.1) (aV ks vs p.1 p.2)
def MX(F:aL)(hk:Mx (F (zu 11)))(hs:fq F):A7 (ax F aX):=by
 intro a w L sl cl pr V G E g0 H;let(S,I,hl,K,hm):=hk a L.qD;let(f,o):=K7 hs L (sl:=sl) V hm;have M:∀u∈S,dy a u/\∀t∈f u,Et a sl cl pr t.1 u t.2/\0<t.2/\t.2<=30:=λu i=>{(hm u).1 i,λt N=>by have:=((o u i).2 t.1 t.2).1 N;exact{this,(mV L V this).1,(mV L V this).2.1}};let(m1,m2,m3,m4):=m0 (v:=[]) G [] [] rfl List.nodup_nil λk n e=>by simp [ai] at e
 have q:kO [.lst (G.map λk=>.tup [af k,.int 0])]=.ok (.aY (bh (G.map λk=>(k,(0:Int))) [] []).1 ((bh (G.map λk=>(k,(0:Int))) [] []).2.map .int)):=by show(Res.of (wG _)).bind _=_;rw [yu (λ_=>.int 0)];have:=rV PV.int (G.map λk=>(k,(0:Int))) [] [];rw [List.map_map] at this;show Res.ok (PV.aY (bh (G.map λk=>(k,PV.int 0)) [] []).1 (bh (G.map λk=>(k,PV.int 0)) [] []).2)=_;have t:bh (G.map λk=>(k,PV.int 0)) [] []=((bh (G.map λk=>(k,(0:Int))) [] []).1,(bh (G.map λk=>(k,(0:Int))) [] []).2.map PV.int):=this;rw [t]
 generalize (bh (G.map λk=>(k,(0:Int))) [] []).1=b at m1 m2 m3 m4 q;generalize (bh (G.map λk=>(k,(0:Int))) [] []).2=d at m1 m3 m4 q
 have O:yS (Et a sl cl pr) (dy a) (·∈G) b d:={m1,m2,λk n h=>by
  let(rfl,z):=m3 k n h;have z:=z.resolve_right λz=>by simp [ai] at z
  refine{E k z,.here z,Int.le_refl _,?_};have:k∈b:=bR.1 (by rw [ba k m1,h];rfl);have:=List.length_pos_of_mem this;lia,λx s=>m4 x (.inl s)}
 have hp:=Kp b d λk n h=>by rw [(m3 k n h).1];decide
 let(P,Q,ag,t7,t8,t9,uI,D,C,y):=zr F (A:=fl a) (B:=wk sl cl pr) (G:=lp G) (S:=S) (f:=f) (λk hk=>TJ L hk) M WN b d gS .no .no .no .no O (by decide) (λ_=>by have:WN=1000000:=rfl;lia) (λz=>by cases z);refine{P,Q,?_,C,λk c R=>?_}
 .have l:(S.map af).length<dW:=by
   rw [zzl];exact dA hl (by decide)
  have T:=tM K.nodup λk=>.lst ((f k).map tK);have U:(G.map af).length<dW:=by rw [zzl];exact dA H (by decide)
  have W:aH (λx=>Res.ok (gF (PV.tup [x,PV.int 0]))) (G.map af)=.ok (G.map λk=>.tup [af k,.int 0]):=cU (p:=af) (g:=λk=>.tup [af k,.int 0]) λk hk=>rfl;have X:aX.body=#v[.set 3 (.call (zu 11) #v[!0]),.set 4 (.blt .dict #v[.comp 1 [1,0] (.one 0) (.seq (!3)) (.tup #v[!0,.call (zu 10) #v[!2,!1,!0]])]),.qA 5 (.comp 1 [] (.one 0) (.seq (!2)) (.tup #v[!0,¬0])),.set 6 (.cst (.bl gS)),.Df (!6) Us,.bC 5,.ret (!5)]:=rfl;have st:cO aX [fl a,wk sl cl pr,lp G]=[.val (fl a),.val (wk sl cl pr),.val (lp G),.no,.no,.no,.no,.no,.no,.no,.no]:=rfl;have Y:cM aX [fl a,wk sl cl pr,lp G]=gS:=rfl;unfold ax;rw [Y,if_pos rfl,st,X];simp! only [I,l];rw [cU (p:=af) (g:=λk=>.tup [af k,.lst ((f k).map tK)]) λk hk=>by simp! only [(o k hk).1]];simp! only [xg,C6,a7,List.map_nil] at D;simp! only [T,q,W,U,D,List.modify_succ_cons,List.modify_zero_cons,o6,BS]
 .induction R with
  |here s=>exact{0,C.st _ s,Int.le_refl _}|go _ he Z=>let(n,hn,hle):=Z;let(r,c,r',c',h1,h2,h3,h4,h5):=id he;have i:=(hm _).2 ⟨r,c,h1,h3⟩;let(m,nJ,j):=y _ i _ (((o _ i).2 _ _).2 he) n hn;exact{m,nJ,by simp only at j;lia}
structure fL(E:kB)(s:List Int->Prop)(c:List Int->Option Int):Prop where
 qk:∀k n,c k=gF n->jb E s k n
 le:∀k n,jb E s k n->∃m,c k=gF m/\m<=n
section
variable{E:kB}{s:List Int->Prop}{c c':List Int->Option Int}
def fL.uniq(h:fL E s c)(h':fL E s c'):c=c':=by
 funext k
 cases e:c k with
 |none=>
  cases b:c' k with
  |none=>rfl|some n=>let(m,hm,_):=h.le k n (h'.qk k n b);rw [e] at hm;cases hm
 |some n=>let(m,hm,l):=h'.le k n (h.qk k n e);let(d,a,f):=h.le k m (h'.qk k m hm);rw [e] at a;cases a;rw [hm,show n=m by lia]
def fL.pre(h:fL E s c){n:Int}(e:c k=gF n):n=0/\s k\/∃v d m,E v k d/\c v=gF m/\n=m+d:=by
 have w:=h.qk k n e
 cases w with
 |here b=>exact .inl ⟨rfl,b⟩|@go v _ d x hw he=>let(m,hm,l):=h.le v d hw;let(f,a,g):=h.le k _ ((h.qk v m hm).go he);rw [e] at a;cases a;exact .inr {v,x,m,he,hm,by lia}
def Lk(a:∀u v e,E u v e->0<e){n:Int}(w:jb E s k n):0<=n:=by
 induction w with
 |here _=>exact Int.le_refl _|go _ he b=>have:=a _ _ _ he;lia
end
theorem r9{E:kB}{s:List Int->Prop}{b:Ks}{c:Vs}(R:qR E s b c):fL E s λk=>(ai b c k).map (·.1) where
 qk:=λk n h=>by let(q,a,rfl):=b0.1 h;exact(R.qk k q a).2
 le:=λk n w=>by let(q,a,l):=Gp R w;exact{q.1,by rw [a];rfl,l}
def iX{E:kB}{O s:List Int->Prop}(L:Lc E O s ks ns):fL E s λk=>ai ks ns k:={λk n h=>(L.c.qk k n h).2.1,L.all}
def my{b:List Str}{pr:Int}{G:Ks}{c:List Int->Option Int}(h:fL (Et b sl cl pr) (·∈G) c)(u:List Int):Uc (E1 b sl cl pr) G u (c u):=by
 have to:∀g∈G,∀n,jb (E1 b sl cl pr) (·=u) g n->∃m,c u=gF m/\m<=n:=λg a n k=>by let(s,rfl,e):=A5 (E':=Et b sl cl pr) (λZ Z Z h=>h) k;exact h.le _ _ (n8 (λx f=>by rw [f];exact a) e)
 refine{λn d=>{?_,λg a i k=>?_},λj g a n k=>?_}
 .let(g,a,k):=A5 (E':=E1 b sl cl pr) (λZ Z Z h=>h) (h.qk u n d);exact⟨g,a,k⟩
 .let(m,hm,l):=to g a i k;rw [d] at hm;cases hm;exact l
 .let(m,hm,_):=to g a n k;rw [j] at hm;cases hm
noncomputable abbrev Ug(c:List Str)(sl:Bool)(cl pr:Int)(u:List Int)(T:List (List Int×Int)):Prop:=(T.Pairwise λa b=>HT.lexLt a.1 b.1=gS)/\∀v e,(v,e)∈T↔E1 c sl cl pr u v e
theorem zN:∀{T c:List (List Int×Int)},T.map (·.1)=c.map (·.1)->(∀a∈T,∀b∈c,a.1=b.1->a.2=b.2)->T=c
 |[],[],_,_=>rfl|[],_::_,h,_=>by cases h
 |_::_,[],h,_=>by cases h
 |a::T,b::c,h,d=>by simp! [a7,List.cons.injEq] at h;have e:=d a (cP ..) b (cP ..) h.1;have r:=zN h.2 λx f y g=>d x (bc _ f) y (bc _ g);rw [r,Prod.ext h.1 e]
def G9{d:List Str}{pr:Int}{T f:List (List Int×Int)}(h:Ug d sl cl pr u T)(h':Ug d sl cl pr u f):T=f:=by
 refine zN (lX (List.pairwise_map.2 h.1) (List.pairwise_map.2 h'.1) λx=>?_) λa i b j e=>?_
 .rw [fm,fm];constructor
  .rintro ⟨t,c,rfl⟩
   exact{t,(h'.2 t.1 t.2).2 ((h.2 t.1 t.2).1 c),rfl}
  .rintro ⟨t,c,rfl⟩
   exact{t,(h.2 t.1 t.2).2 ((h'.2 t.1 t.2).1 c),rfl}
 .have k:=(h.2 a.1 a.2).1 i;have g:=(h'.2 b.1 b.2).1 j;rw [<-e] at g;exact(LK k g).symm
abbrev wx(c:List Int->Option Int)(x:Int)(t:List Int×Int):Bool:=match c t.1 with
 |some y=>x==t.2+y|none=>gU
def Nx(a:List Str)(sl:Bool)(cl pr:Int)(c:List Int->Option Int)(u:List Int)(o:Option (List Int)):Prop:=∃T x,Ug a sl cl pr u T/\c u=gF x/\o=(T.find? (wx c x)).map (·.1)
abbrev oK:Option (List Int)->PV
 |some v=>af v|none=>.aC
section
variable{aa:List Str}{w:Nat}{pr:Int}{G:Ks}{c:List Int->Option Int}{v:List Int}{o o':Option (List Int)}
def Nx.uniq(h:Nx aa sl cl pr c u o)(h':Nx aa sl cl pr c u o'):o=o':=by let(T,x,a,b,rfl):=h;let(f,g,e,d,rfl):=h';rw [b] at d;cases d;rw [G9 a e]
set_option tactic.hygienic true in
def Nx.go(h:Nx aa sl cl pr c u (gF v)):∃e x y,E1 aa sl cl pr u v e/\c u=gF x/\c v=gF y/\x=e+y:=by
 let(T,x,a,b,e):=h;let(t,f,rfl):=b0.1 e.symm;have d:=List.find?_some f;have g:=(a.2 t.1 t.2).1 (List.mem_of_find?_eq_some f);unfold wx at d;split at d
 .rename_i y i;exact{t.2,x,y,g,b,i,eq_of_beq d}
 .cases d
def Nx.stop(hl:fL (Et aa sl cl pr) (·∈G) c)(h:Nx aa sl cl pr c u gK):u∈G/\c u=gF 0:=by
 let(T,x,a,b,e):=h
 rcases hl.pre b with⟨rfl,g⟩|⟨v,d,m,he,hm,rfl⟩
 .exact⟨g,b⟩
 .have f:=Option.map_eq_none_iff.1 e.symm;have:=List.find?_eq_none.1 f (v,d) ((a.2 v d).2 he)
  refine absurd ?_ this;show(match c v with|some y=>m+d==d+y|none=>gU)=gS;rw [hm];exact zzy.2 (Int.add_comm ..)
def Nx.zero(L:Fl aa w)(V:Wk cl pr)(hl:fL (Et aa sl cl pr) (·∈G) c)(h:Nx aa sl cl pr c u o)(b:c u=gF 0):o=gK:=by
 cases o with
 |none=>rfl|some v=>let(e,x,y,d,a,f,hs):=h.go;rw [b] at a;cases a;have:=(mV L V d).1;have:=Lk (λZ Z Z z=>(mV L V z).1) (hl.qk v y f);lia
def ub(F:aL)(e:fU F)(L:Fl aa w)(h:∀u∈G,dy aa u)(b:G≠[]):ax F bA [fl aa,lp G]=.ok .aC:=by
 let(g,d):=pH F e L (mk:=λa=>[.val (fl aa),.val (lp G),a]) (i:=2) (B:=(.cons (.expr (.call (zu 1) (.cons (.var 0) (.cons (.var 2) .nil)))) .nil)) (λu a f=>by simp! only [f]) G .no h;have z:(((G.map af).length:Int)==0)=gU:=by have:=List.length_pos_iff.2 b;rw [zzl];simpa using b
 simp! only [true_and] at d;simp! only [bA,z,d]
def yI(F:aL)(d:∀G:Ks,(∀u∈G,dy aa u)->G≠[]->F (zu 14) [fl aa,lp G]=.ok .aC)(hs:∀G:Ks,(∀u∈G,dy aa u)->G.length<=40->∃a b,F (zu 41) [fl aa,wk sl cl pr,lp G]=.ok (.aY a (b.map val))/\qR (Et aa sl cl pr) (·∈G) a b)(h:∀u∈G,dy aa u)(f:G≠[])(g:G.length<=40):∃a b,ax F aF [fl aa,wk sl cl pr,lp G]=.ok (.aY a (b.map val))/\qR (Et aa sl cl pr) (·∈G) a b:=by let(a,b,e,R):=hs G h g;exact{a,b,by simp! only [aF,d G h f,e],R}
abbrev LZ:Ss:=#v[.ite (.cmp .eq (.sub (.sub (!2) (!3)) (¬0)) (.bin .add (!5) (.sub (.sub (!2) (!4)) (¬0)))) #v[.ret (!4)] .nil]
noncomputable abbrev cR(a:Ks)(b:Vs)(k:List Int):Option Int:=(ai a b k).map (·.1)
def L6{a:Ks}{b:Vs}{x:Int}{t:List Int×Int}{q:Int×PV}(h:ai a b t.1=gF q):wx (cR a b) x t=(x==t.2+q.1):=by unfold wx cR;rw [h];rfl
theorem Ar(F:aL){d:Ks}{g:Vs}{q:Int×PV}{A B:PV}(y:ai d g u=gF q):∀(T:List (List Int×Int)) (i j:Ci.Slot),(∀t∈T,∃r,ai d g t.1=gF r)->(∃t,T.find? (wx (cR d g) q.1)=gF t/\forL (λx env=>((Tg.two 4 5).put x env).bind λk=>aD F LZ k) (T.map tK) [.val A,.val B,.val (.aY d (g.map val)),.val (af u),i,j]=.ok (.rt (af t.1)))\/T.find? (wx (cR d g) q.1)=gK/\∃D E,forL (λx env=>((Tg.two 4 5).put x env).bind λk=>aD F LZ k) (T.map tK) [.val A,.val B,.val (.aY d (g.map val)),.val (af u),i,j]=.ok (.nx [.val A,.val B,.val (.aY d (g.map val)),.val (af u),D,E])
 |[],i,j,_=>.inr ⟨rfl,i,j,rfl⟩|t::T,i,j,h=>by
  let(r,s):=h t (cP ..);have z:=wX y;have C:=wX s;have tp:(Tg.two 4 5).put (tK t) [.val A,.val B,.val (.aY d (g.map val)),.val (af u),i,j]=.ok [.val A,.val B,.val (.aY d (g.map val)),.val (af u),.val (af t.1),.val (.int t.2)]:=rfl
  cases m:(q.1==t.2+r.1) with
  |true=>
   have p:(((Tg.two 4 5).put (tK t) [.val A,.val B,.val (.aY d (g.map val)),.val (af u),i,j]).bind λk=>aD F LZ k)=.ok (.rt (af t.1)):=by rw [tp];simp! only [LZ,z,C,wY,m]
   exact .inl {t,by rw [List.find?_cons,L6 s,m],by rw [a7,forL,p];rfl}
  |false=>
   have p:(((Tg.two 4 5).put (tK t) [.val A,.val B,.val (.aY d (g.map val)),.val (af u),i,j]).bind λk=>aD F LZ k)=.ok (.nx [.val A,.val B,.val (.aY d (g.map val)),.val (af u),.val (af t.1),.val (.int t.2)]):=by rw [tp];simp! only [LZ,z,C,wY,m]
   rw [List.find?_cons,L6 s,m];rcases Ar F y T (.val (af t.1)) (.val (.int t.2)) λx H=>h x (bc _ H) with⟨v,f,e⟩|⟨f,a,b,e⟩
   .exact .inl {v,f,by rw [a7,forL,p,m9];exact e}
   .exact .inr {f,a,b,by rw [a7,forL,p,m9];exact e}
def CI(F:aL)(hs:kM F)(L:Fl aa w)(V:Wk cl pr){S:List Int->Prop}{d:Ks}{g:Vs}(R:qR (Et aa sl cl pr) S d g)(k:dy aa u){q:Int×PV}(m:ai d g u=gF q):∃o,ax F bz [fl aa,wk sl cl pr,.aY d (g.map val),af u]=.ok (oK o)/\Nx aa sl cl pr (cR d g) u o:=by
 let(r,c,rfl,k):=k;let(T,e,_,i,p):=hs aa w L sl cl pr V r c k;have z:∀t∈T,∃s,ai d g t.1=gF s:=λt C=>by let(D,E):=xM ((p t.1 t.2).1 C);let(s,h,_):=R.jq _ q m t.1 D E;exact⟨s,h⟩
 have y:cR d g [r,c]=gF q.1:=by unfold cR;rw [m];rfl
 rcases Ar F (A:=fl aa) (B:=wk sl cl pr) m T .no .no z with⟨v,f,j⟩|⟨f,a,b,j⟩
 .refine{gF v.1,?_,T,q.1,⟨i,p⟩,y,by rw [f];rfl};simp! only [LZ] at j;simp! only [bz,e,j,oK]
 .refine{gK,?_,T,q.1,⟨i,p⟩,y,by rw [f];rfl};simp! only [LZ] at j;simp! only [bz,e,j,oK]
noncomputable abbrev fR(c:List Int->Int)(o:List Int->Option (List Int))(k:List Int):PV:=.tup [af k,.int (c k),oK (o k)]
def Vv(F:aL)(aa:List Str)(sl:Bool)(cl pr:Int):Prop:=∀G:Ks,(∀u∈G,dy aa u)->G≠[]->G.length<=40->∃a b,F (zu 3) [fl aa,wk sl cl pr,lp G]=.ok (.aY a (b.map val))/\qR (Et aa sl cl pr) (·∈G) a b/\∀k∈a,dy aa k
def Vl(F:aL)(aa:List Str)(sl:Bool)(cl pr:Int):Prop:=∀(S:List Int->Prop) a b,qR (Et aa sl cl pr) S a b->∀u,dy aa u->∀q,ai a b u=gF q->∃o,F (zu 8) [fl aa,wk sl cl pr,.aY a (b.map val),af u]=.ok (oK o)/\Nx aa sl cl pr (cR a b) u o
def Eg(F:aL)(j:Vv F aa sl cl pr)(r:Vl F aa sl cl pr)(h:∀u∈G,dy aa u)(s:G≠[])(t:G.length<=40):
 ∃a b,∃o:List Int->Option (List Int),ax F d8 [fl aa,wk sl cl pr,lp G]=.ok (.lst ((cK a).map (fR (cst a b) o)))/\qR (Et aa sl cl pr) (·∈G) a b/\(∀k∈a,dy aa k)/\∀k∈a,Nx aa sl cl pr (cR a b) k (o k):=by
 let(a,b,e,R,i):=j G h s t;have at_:∀k∈a,∃q,ai a b k=gF q:=λk hk=>(mD R).1 hk
 have st:∀k,∃o,k∈a->F (zu 8) [fl aa,wk sl cl pr,.aY a (b.map val),af k]=.ok (oK o)/\Nx aa sl cl pr (cR a b) k o:=λk=>by
  by_cases hk:k∈a
  .let(q,d):=at_ k hk
   let(p,f):=r _ a b R k (i k hk) q d;exact{p,λZ=>f}
  .exact{gK,λz=>absurd z hk}
 let(p,f):=Classical.skolem.1 st;refine{a,b,p,?_,R,i,λk hk=>(f k hk).2};have A:=yB (vs:=b.map val) R.nr (by have:=R.le;lia) λk hk=>by let(_,_,rfl,_):=i k hk;simp
 have B:((cK a).map af).length<dW:=dA (m:=36) (by rw [zzl,i4 R.nr];exact R.le) (by decide)
 have cc:aH (λx=>((Tg.one 0).put x [.no,.val (wk sl cl pr),.val (.aY a (b.map val)),.val (fl aa)]).bind λC=>(aJ F (.tup (.cons (.var 0) (.cons (.sub (.sub (.var 2) (.var 0)) (.cst (.int 0))) (.cons (.call (zu 8) (.cons (.var 3) (.cons (.var 1) (.cons (.var 2) (.cons (.var 0) .nil))))) .nil)))) C).bind λy=>.ok (gF y)) ((cK a).map af)=.ok ((cK a).map (fR (cst a b) p)):=by
  rw [cU (p:=af) (g:=fR (cst a b) p) λk hk=>?_];have hk:=bY.1 hk;let(q,d):=at_ k hk
  have D:cst a b k=q.1:=by unfold cst;rw [d];rfl
  simp! only [wX d,wY,(f k hk).1,D,fR]
 simp! only [true_and] at cc;simp! only [d8,e,A,B,cc]
end
inductive Ld(N:List Int->Option (List Int)->Prop):List Int->Ks->Prop
 |stop {u:List Int}:N u gK->Ld N u [u]
 |go {u v:List Int} {l:Ks}:N u (gF v)->Ld N v l->Ld N u (u::l)
abbrev ldC:E:=.cmp .EW (!6) (.cst .aC)
abbrev UT:Ss:=#v[.app 5 (!6),.set 6 (.call (zu 8) #v[!0,!1,!4,!6])]
section
variable{aa:List Str}{w:Nat}{pr:Int}{G:Ks}{kr:Ks}{Vr:Vs}
theorem Wr(k:List Int):iZ (af k) .aC=.ok (.bl gS):=rfl
theorem An(F:aL)(L:Fl aa w)(V:Wk cl pr)(R:qR (Et aa sl cl pr) (·∈G) kr Vr)(f:∀u q,ai kr Vr u=gF q->∃o,F (zu 8) [fl aa,wk sl cl pr,.aY kr (Vr.map val),af u]=.ok (oK o)/\Nx aa sl cl pr (cR kr Vr) u o)(A B:PV):∀(n:Nat) (x:Int) (u:List Int) (a:List PV),cR kr Vr u=gF x->x+2<=n->a.length+x<=2000->∃l,dw (aJ F ldC) (aD F UT) n [.val (fl aa),.val (wk sl cl pr),.val A,.val B,.val (.aY kr (Vr.map val)),.own (.lst a),.val (af u)]=.ok (.nx [.val (fl aa),.val (wk sl cl pr),.val A,.val B,.val (.aY kr (Vr.map val)),.own (.lst (a++l.map af)),.val .aC])/\Ld (Nx aa sl cl pr (cR kr Vr)) u l/\l.length<=x+1
 |0,x,u,a,h,j,_=>by let(q,b,rfl):=b0.1 h;have:=(R.bd u q b).1;lia|n+1,x,u,a,h,j,hl=>by
  let(q,b,rfl):=b0.1 h;have C:=(R.bd u q b).1;let(o,e,N):=f u q b;have l:a.length<dW:=dA (m:=2000) (by lia) (by decide);have g:aJ F ldC [.val (fl aa),.val (wk sl cl pr),.val A,.val B,.val (.aY kr (Vr.map val)),.own (.lst a),.val (af u)]=.ok (.bl gS):=Wr u;have c:aD F UT [.val (fl aa),.val (wk sl cl pr),.val A,.val B,.val (.aY kr (Vr.map val)),.own (.lst a),.val (af u)]=.ok (.nx [.val (fl aa),.val (wk sl cl pr),.val A,.val B,.val (.aY kr (Vr.map val)),.own (.lst (a++[af u])),.val (oK o)]):=by simp! only [UT,l,e]
  cases o with
  |none=>obtain⟨m,rfl⟩:∃m,n=m+1:={n-1,by lia};have k:aJ F ldC [.val (fl aa),.val (wk sl cl pr),.val A,.val B,.val (.aY kr (Vr.map val)),.own (.lst (a++[af u])),.val .aC]=.ok (.bl gU):=rfl;refine{[u],?_,.stop N,by simp! [List.length_singleton];lia};simp! [oK] at c;simp! [dw,g,m9,MH,if_true,c,k,en,if_false];rfl|some v=>let(d,D,y,p,i,r,hs):=N.go;rw [h] at i;cases i;have:=(mV L V p).1;let(s,z,t,E):=An F L V R f A B n y v (a++[af u]) r (by lia) (by rw [cA,List.length_singleton];lia);refine{u::s,?_,.go N t,by rw [cu];lia};simp! [oK] at c;simp! [dw,g,m9,MH,if_true,c,z];simp
def Ap(F:aL)(p:fU F)(r:Vv F aa sl cl pr)(s:Vl F aa sl cl pr)(L:Fl aa w)(V:Wk cl pr)(h:∀u∈G,dy aa u)(y:G≠[])(A:G.length<=40)(B:dy aa u){c:List Int->Option Int}(C:fL (Et aa sl cl pr) (·∈G) c):
 (c u=gK->ax F fy [fl aa,wk sl cl pr,lp G,af u]=.ok .aC)/\∀x,c u=gF x->∃l:Ks,ax F fy [fl aa,wk sl cl pr,lp G,af u]=.ok (lp l)/\Ld (Nx aa sl cl pr c) u l/\l.length<=1100:=by
 let(kr,Vr,e,R,f):=r G h y A;have g:F (zu 1) [fl aa,af u]=.ok .aC:=by let(a,b,rfl,f):=B;exact p aa L.qD a b f
 have d:eR (af u) (.aY kr (Vr.map val))=.ok (.bl (!bX kr u)):=qy;rw [ba u R.len] at d;rw [C.uniq (r9 R)];refine{λz=>?_,λx i=>?_}
 .have z:=Option.map_eq_none_iff.1 z;rw [z] at d;simp! only [fy,g,e,d,Option.isSome]
 .let(q,j,rfl):=b0.1 i;rw [j] at d;have b:=R.bd u q j;let(l,k,t,D):=An F L V R (λv m o=>s _ kr Vr R v (f v ((mD R).2 ⟨m,o⟩)) m o) (lp G) (af u) WN q.1 u [] i (by have:WN=1000000:=rfl;lia) (by rw [List.length_nil];lia);refine{l,?_,t,by lia};simp! only [ldC,UT,List.nil_append] at k;simp! only [fy,g,e,d,Option.isSome,k,BS]
def Ao{c:List Int->Option Int}{l:Ks}(t:Ld (Nx aa sl cl pr c) u l):∀k∈l,∃x,c k=gF x:=by
 induction t with
 |stop h=>intro k hk;rw [eo.1 hk];let(_,x,_,a,_):=h;exact⟨x,a⟩|go h _ b=>
  intro k hk;rcases ey.1 hk with rfl|hk
  .let(_,x,_,a,_):=h;exact⟨x,a⟩
  .exact b k hk
def OE{c:List Int->Option Int}(hl:fL (Et aa sl cl pr) (·∈G) c){l:Ks}(t:Ld (Nx aa sl cl pr c) u l):∀x,c u=gF x->Mw (E1 aa sl cl pr) l x/\(∃r,l=u::r)/\∃r g,l=r++[g]/\g∈G/\jb (E1 aa sl cl pr) (·=u) g x:=by
 induction t with
 |stop h=>intro x d;let(a,b):=h.stop hl;rw [d] at b;cases b;exact{.one,{[],rfl},[],_,rfl,a,.here rfl}
 |@go u v l h _ j=>intro x d;let(e,s,y,f,i,k,rfl):=h.go;rw [d] at i;cases i;let(p,(r,rfl),m,g,o,q,wk):=j y k;exact{.cons f p,{_,rfl},u::m,g,by rw [o];rfl,q,jb.cons f wk}
def JG{c:List Int->Option Int}{o:List Int->Option (List Int)}(b:∀k x,c k=gF x->Nx aa sl cl pr c k (o k)){l:Ks}(t:Ld (Nx aa sl cl pr c) u l):l.dropLast.map (λk=>oK (o k))=l.tail.map af:=by
 induction t with
 |stop _=>rfl|@go u v l h t a=>
  let(e,d,y,i,f,j,hs):=h.go;have q:o u=gF v:=(b u d f).uniq h;have⟨r,g⟩:∃r,l=v::r:=by cases t<;>exact{_,rfl}
  rw [g] at a⊢;rw [List.dropLast_cons_cons,a7,a,q];rfl
abbrev UU:Ss:=#v[.set 6 (.call (zu 10) #v[!0,!1,!5]),.set 7 (.bJ 2 [5,3] (.two 0 1) (.seq (!6)) (.and (.cmp .xW (!0) (!3)) (.cmp .eq (.bin .add (.sub (!3) (!0)) (!1)) (.sub (!3) (!2)))) (!0)),.app 4 (.tup #v[!5,.sub (!3) (!5),.ite (.cmp .eq (.sub (!3) (!5)) (¬0)) (.cst .aC) (.sub (!7) (¬0))])]
def yC(nd:ks.Nodup)(hl:ks.length<64)(c:∀k∈ks,k≠[]):dX .sorted [lp ks]=.ok (lp (cK ks)):=by
 show(Res.of (fO (ks.map af))).bind _=_;rw [mw];show(if(decide ((ks.map af).length<64)&&ks.all λk=>!k.isEmpty)=gS then Res.ok (PV.lst (mO .aC (ks.map af) ks)) else .bad)=_;rw [if_pos,uw nd λZ=>Iff.rfl];rw [zza,zzl];refine{zzh hl,c5.2 λk hk=>?_};have:=c k hk
 cases k with
 |nil=>exact absurd rfl this|cons a b=>rfl
def JI(F:aL)(hl:ks.length=ns.length){x:Int}(hk:ai ks ns k=gF x)(T:List (List Int×Int)):aH (λy=>((Tg.two 0 1).put y [.no,.no,.val (af k),.val (.aY ks (ns.map .int))]).bind λd=>(aJ F (.and (.cmp .xW (.var 0) (.var 3)) (.cmp .eq (.bin .add (.sub (.var 3) (.var 0)) (.var 1)) (.sub (.var 3) (.var 2)))) d).bind λt=>ny t λt=>if t then(aJ F (.var 0) d).bind λy=>.ok (gF y) else .ok gK) (T.map tK)=.ok ((T.filter (wx (λk=>ai ks ns k) x)).map λt=>af t.1):=by
 refine dC λt Z=>?_;have tp:(Tg.two 0 1).put (tK t) [.no,.no,.val (af k),.val (.aY ks (ns.map .int))]=.ok [.val (af t.1),.val (.int t.2),.val (af k),.val (.aY ks (ns.map .int))]:=rfl;have e:=hX hk;rw [tp,m9];have g:=ba (vs:=ns) t.1 hl
 cases a:ai ks ns t.1 with
 |none=>
  rw [a] at g;have b:bX ks t.1=gU:=g
  have c:wx (λk=>ai ks ns k) x t=gU:=by
   show(match ai ks ns t.1 with|some y=>x==t.2+y|none=>gU)=_;rw [a]
  rw [c];simp! only [inD,b]
 |some y=>
  rw [a] at g;have b:bX ks t.1=gS:=g;have f:=hX a;have q:(y+t.2==x)=(x==t.2+y):=by rw [Bool.eq_iff_iff,zzy,zzy];lia
  have c:wx (λk=>ai ks ns k) x t=(x==t.2+y):=by
   show(match ai ks ns t.1 with|some y=>x==t.2+y|none=>gU)=_;rw [a]
  rw [c];simp! only [inD,b,f,e,q];cases(x==t.2+y)<;>simp! only [true_and]
def Cg(F:aL)(I:A7 (F (zu 2)))(hs:fq F)(L:Fl aa w)(V:Wk cl pr)(h:∀u∈G,dy aa u)(K:G≠[])(N:G.length<=40):
 ∃ks ns,∃o:List Int->Option (List Int),ax F dg [fl aa,wk sl cl pr,lp G]=.ok (.lst ((cK ks).map (fR (λk=>(ai ks ns k).getD 0) o)))/\Lc (Et aa sl cl pr) (dy aa) (·∈G) ks ns/\∀k∈ks,Nx aa sl cl pr (λk=>ai ks ns k) k (o k):=by
 let(ks,ns,e,i):=I aa w L sl cl pr V G h K N;have B:=iX i;have le:ks.length<=36:=i.c.le λk hk=>TJ L hk
 have st:∀k,∃T:List (List Int×Int),k∈ks->F (zu 10) [fl aa,wk sl cl pr,af k]=.ok (.lst (T.map tK))/\T.length<=9/\Ug aa sl cl pr k T:=λk=>by
  by_cases hk:k∈ks
  .let(n,d):=i.c.has hk;let(a,b,rfl,O):=(i.c.qk k n d).1;let(T,e,l,x,y):=hs aa w L sl cl pr V a b O;exact{T,λ_=>⟨e,l,x,y⟩}
  .exact{[],λz=>absurd z hk}
 let(T,C):=Classical.skolem.1 st;refine{ks,ns,λk=>((T k).find? (wx (λk=>ai ks ns k) ((ai ks ns k).getD 0))).map (·.1),?_,i,λk hk=>?_}
 .have P:=yC i.c.nd (by lia) λk hk=>by let(n,d):=i.c.has hk;let(_,_,rfl,_):=(i.c.qk k n d).1;simp
  have Q:ks.length<=dW:=c6 le (by decide);have p:((cK ks).map af).length<dW:=dA (m:=36) (by rw [zzl,i4 i.c.nd];exact le) (by decide)
  let(Z,q):=gk (body:=λx env=>((Tg.one 5).put x env).bind λR=>aD F UU R) (g:=af) (mk:=λj (s:Ci.Slot×Ci.Slot×Ci.Slot)=>[.val (fl aa),.val (wk sl cl pr),.val (lp G),.val (.aY ks (ns.map .int)),.own (.lst j),s.1,s.2.1,s.2.2]) (app:=λk=>[fR (λk=>(ai ks ns k).getD 0) (λk=>((T k).find? (wx (λk=>ai ks ns k) ((ai ks ns k).getD 0))).map (·.1)) k]) (m:=1) (M:=50) (cK ks) [] (.no,.no,.no) (λ_ _=>a5 _) (λk hk j s hl=>by
   have hk:=bY.1 hk;let(n,d):=i.c.has hk;let(D,S,sp):=C k hk;have cc:=JI F i.c.len d (T k);have E:=hX d;have l:j.length<dW:=dA (m:=50) (by lia) (by decide);have lt:((T k).map tK).length<dW:=dA (m:=9) (by rw [zzl];exact S) (by decide);refine{(.val (af k),.val (.lst ((T k).map tK)),.val (.lst (((T k).filter (wx (λk=>ai ks ns k) n)).map λt=>af t.1))),?_};simp! only [true_and] at cc;by_cases A:n=0
   .subst A;have U:((T k).find? (wx (λk=>ai ks ns k) 0)).map (·.1)=gK:=Nx.zero L V B {T k,0,sp,d,rfl} d;simp! only [UU,D,lt,cc,E,l,show((0:Int)==0)=gS from rfl,fR,d,Option.getD_some,U,oK]
   .have z:(n==0)=gU:=zx6 A
    cases hf:(T k).filter (wx (λk=>ai ks ns k) n) with
    |nil=>
     have:((T k).find? (wx (λk=>ai ks ns k) n)).map (·.1)=gK:=by rw [<-List.head?_filter,hf];rfl
     have:=(Nx.stop B {T k,n,sp,d,this.symm}).2;rw [d] at this;cases this;exact absurd rfl A
    |cons t r=>
     have W:(T k).find? (wx (λk=>ai ks ns k) n)=gF t:=by rw [<-List.head?_filter,hf];rfl
     have H:aG (.lst ((t::r).map λt=>af t.1)) (.int 0)=.ok (af t.1):=by show Res.of (qZ _ ((0:Nat):Int))=_;rw [gV (by simp)];rfl
     rw [hf] at cc;rw [a7] at H;simp! only [UU,D,lt,cc,E,l,z,H,fR,d,Option.getD_some,W,Option.map_some,oK]) (by show 0+1*_<=50;rw [i4 i.c.nd];lia)
  have fo:∀(f:List Int->PV) (l:Ks),l.flatMap (λk=>[f k])=l.map f:=λf l=>by induction l with
   |nil=>rfl|cons a l X=>rw [List.flatMap_cons,X];rfl
  rw [fo,List.nil_append] at q;simp! only [UU] at q;have Y:dX .rQ [.aY ks (ns.map .int)]=.ok (lp ks):=if_pos Q;simp! only [dg,e,Y,P,p,q,BS]
 .let(n,d):=i.c.has hk;let(_,_,sp):=C k hk;exact{T k,n,sp,d,by show((T k).find? (wx (λk=>ai ks ns k) ((ai ks ns k).getD 0))).map (·.1)=_;rw [d];rfl}
end
def uT(F:aL):Prop:=∀a,m8 a->∀r c,cE a r c=gU->F (zu 1) [fl a,sp r c]=.exc (zu 23)
def Fw(F:aL)(b:sA F)(a:List Str)(R:m8 a)(r c:Int)(h:cE a r c=gU):ax F aU [fl a,sp r c]=.exc (zu 23):=by simp! only [aU,b a R,h,MJ]
noncomputable abbrev Lr(G:Ks):Prop:=∀u∈G,∃a b,u=[a,b]
section
variable{aa:List Str}{G:Ks}
theorem v5(F:aL)(b:fU F)(k:uT F)(R:m8 aa){g:PV}:∀(l:Ks) (a:Ci.Slot),Lr l->(∃u∈l,¬dy aa u)->forL (λx env=>((Tg.one 2).put x env).bind λd=>aD F (.cons (.expr (.call (zu 1) (.cons (.var 0) (.cons (.var 2) .nil)))) .nil) d) (l.map af) [.val (fl aa),.val g,a]=.exc (zu 23)
 |[],_,_,h=>by let(_,h,_):=h;cases h
 |x::l,a,m,h=>by
  let(r,c,rfl):=m x (cP ..)
  cases i:cE aa r c with
  |false=>
   have e:F (zu 1) [fl aa,af [r,c]]=.exc (zu 23):=k aa R r c i;have j:(((Tg.one 2).put (af [r,c]) [.val (fl aa),.val g,a]).bind λd=>aD F (.cons (.expr (.call (zu 1) (.cons (.var 0) (.cons (.var 2) .nil)))) .nil) d)=.exc (zu 23):=by simp! only [e]
   rw [a7,forL,j];rfl
  |true=>
   have e:F (zu 1) [fl aa,af [r,c]]=.ok .aC:=b aa R r c i;have j:(((Tg.one 2).put (af [r,c]) [.val (fl aa),.val g,a]).bind λd=>aD F (.cons (.expr (.call (zu 1) (.cons (.var 0) (.cons (.var 2) .nil)))) .nil) d)=.ok (.nx [.val (fl aa),.val g,.val (af [r,c])]):=by simp! only [e]
   rw [a7,forL,j,m9];refine v5 F b k R l _ (λv f=>m v (bc _ f)) ?_;let(v,f,b):=h
   rcases ey.1 f with rfl|f
   .exact absurd ⟨r,c,rfl,i⟩ b
   .exact⟨v,f,b⟩
noncomputable abbrev Ref(aa:List Str)(G:Ks):Prop:=G=[]\/∃u∈G,¬dy aa u
def qx(F:aL)(c:fU F)(d:uT F)(R:m8 aa)(e:Lr G)(h:Ref aa G):ax F bA [fl aa,lp G]=.exc (zu 23):=by
 rcases h with rfl|h
 .rfl
 .have a:=v5 F c d R (g:=lp G) G .no e h;have z:(((G.map af).length:Int)==0)=gU:=by let(u,b,_):=h;have:=List.length_pos_of_mem b;rw [zzl];simpa using List.ne_nil_of_mem b
  simp! only [true_and] at a;simp! only [bA,z,a]
def w6(F:aL){B:PV}(h:F (zu 14) [fl aa,lp G]=.exc (zu 23)):ax F aF [fl aa,B,lp G]=.exc (zu 23):=by simp! only [aF,h]
def BM(F:aL){B:PV}(h:F (zu 3) [fl aa,B,lp G]=.exc (zu 23)):ax F d8 [fl aa,B,lp G]=.exc (zu 23):=by simp! only [d8,h]
def vT(F:aL){B:PV}(b:fU F)(d:uT F)(R:m8 aa)(h:cE aa r c=gU\/F (zu 3) [fl aa,B,lp G]=.exc (zu 23)):ax F fy [fl aa,B,lp G,sp r c]=.exc (zu 23):=by
 cases a:cE aa r c with
 |false=>simp! only [fy,d aa R r c a]|true=>
  have h:=h.resolve_left λz=>by rw [z] at a;cases a
  simp! only [fy,b aa R r c a,h]
def v3(F:aL){B C:PV}(h:F (zu 14) [fl aa,lp G]=.exc (zu 23)\/F (zu 14) [fl aa,lp G]=.ok .aC/\F (zu 24) [fl aa,B,C]=.exc (zu 23)):ax F bj [fl aa,B,lp G,C]=.exc (zu 23):=by
 rcases h with h|⟨h,a⟩
 .simp! only [bj,h]
 .simp! only [bj,h,a]
def Ei(F:aL)(a:uT F)(R:m8 aa)(B:PV)(h:cE aa r c=gU):ax F bW [fl aa,B,sp r c]=.exc (zu 23):=by simp! only [bW,a aa R r c h]
end
theorem Ll(F:aL):ax F ez [.exc (zu 23)]=.ok (.str (zu 19)):=rfl
def P6(F:aL)(A B D G:PV):(∀v,F "field" [A,B,D]=.ok v->ax F aK [.int 0,A,B,D,G]=.ok v)/\∀n v,F "field" [A,B,D]=.exc n->F (zu 35) [.exc n]=.ok v->ax F aK [.int 0,A,B,D,G]=.ok v:=by
 have a:([.val (.int 0),.val A,.val B,.val D,.val G,.val .aC,.val .aC,.no]:Sl).any Ci.Slot.mW=gU:=rfl;have b:mG .aC .aC=.ok (.bl gS):=rfl;refine{λv h=>?_,λn v h c=>?_}
 .simp! only [aK,h,b,a]
 .have d:mG (.exc n) .aC=.ok (.bl gU):=rfl;simp! only [aK,h,d,a,c]
def P7(F:aL)(A B D G:PV):(∀v,F "lead" [A,B,D,G]=.ok v->ax F aK [.int 1,A,B,D,G]=.ok v)/\∀n v,F "lead" [A,B,D,G]=.exc n->F (zu 35) [.exc n]=.ok v->ax F aK [.int 1,A,B,D,G]=.ok v:=by
 have a:([.val (.int 1),.val A,.val B,.val D,.val G,.val .aC,.val .aC,.no]:Sl).any Ci.Slot.mW=gU:=rfl;have b:mG .aC .aC=.ok (.bl gS):=rfl;refine{λv h=>?_,λn v h c=>?_}
 .simp! only [aK,h,show((1:Int)==0)=gU from rfl,b,a]
 .have d:mG (.exc n) .aC=.ok (.bl gU):=rfl;simp! only [aK,h,show((1:Int)==0)=gU from rfl,d,a,c]
def P8(F:aL)(A B D G:PV):(∀v,F (zu 26) [A,B,D,G]=.ok v->ax F aK [.int 2,A,B,D,G]=.ok v)/\∀n v,F (zu 26) [A,B,D,G]=.exc n->F (zu 35) [.exc n]=.ok v->ax F aK [.int 2,A,B,D,G]=.ok v:=by
 have a:([.val (.int 2),.val A,.val B,.val D,.val G,.val .aC,.val .aC,.no]:Sl).any Ci.Slot.mW=gU:=rfl;have b:mG .aC .aC=.ok (.bl gS):=rfl;refine{λv h=>?_,λn v h c=>?_}
 .simp! only [aK,h,show((2:Int)==0)=gU from rfl,show((2:Int)==1)=gU from rfl,b,a]
 .have d:mG (.exc n) .aC=.ok (.bl gU):=rfl;simp! only [aK,h,show((2:Int)==0)=gU from rfl,show((2:Int)==1)=gU from rfl,d,a,c]
noncomputable abbrev bk(ks:Ks)(vs:List Int):PV:=.aY ks (vs.map .int)
noncomputable abbrev oE(N:PV)(b:List Str)(sl:Bool)(cl pr:Int)(S:Ks)(s:List Int)(c s6 d e s9 f g h a:Ci.Slot):Sl:=[.val N,.val (fl b),.val (wk sl cl pr),.val (lp S),.val (af s),c,s6,d,e,s9,f,g,h,a]
def neK(a b:List Int):gE (af a) (af b)=.ok (.bl (!decide (a=b))):=by show(if(Ci.plain 9 (af a)&&Ci.plain 9 (af b))=gS then Res.ok (PV.bl (!jy 9 (af a) (af b))) else .bad)=_;rw [ik 8,ik 8];exact congrArg (λz=>Res.ok (PV.bl (!z))) (j9 8 a b)
def DK{a:Type}(xs:List a)(x:a):qZ (xs++[x]) (-1)=gF x:=by
 unfold qZ B9;have b:¬(0:Int)<= -1:=by decide
 have c: -((xs++[x]).length:Int)<= -1:=by simp! [cA,List.length_singleton];lia
 rw [if_neg b,if_pos c];have d:(-1+((xs++[x]).length:Int)).toNat=xs.length:=by simp! [cA,List.length_singleton];lia
 rw [d];simp
def JE(xs:List PV)(x:PV):aG (.lst (xs++[x])) (.int (-1))=.ok x:=by simp! [aG,DK];rfl
def D2{a:Type}(xs:List a):j8 xs gK (gF (-1))=xs.dropLast:=by
 unfold j8;have h:HT.dm xs.length xs.length (gF (-1))=xs.length-1:=by show(if(-1:Int)<0 then(-1+(xs.length:Int)).toNat else min (-1:Int).toNat xs.length)=_;rw [if_pos (by decide)];lia
 rw [HT.pU,List.drop_zero,Nat.sub_zero,List.dropLast_eq_take,h]
def D3{b:Type}(xs:List b):j8 xs (gF 1) gK=xs.tail:=by
 cases xs with
 |nil=>rfl|cons a l=>exact D1 (a::l) (k:=1) (by simp)
section
variable{aa:List Str}{w:Nat}{pr:Int}{G S:Ks}{s:List Int}{N:PV}{F:aL}{K l M:Ks}{c0:List Int->Int}{o:List Int->Option (List Int)}{x:Int}{s6 s9 Mf:Ci.Slot}{D:PV}
abbrev oZ:Ss:=#v[.set 13 (.bJ 1 [2,5,1] (.one 0) (.seq (!3)) (.cmp .xW (!0) (.fG 2)) (.tup #v[!0,.call (zu 2) #v[!3,!1,.lst #v[!0]]])),.ret (.cmp .eq (!11) (.bJ 2 [4,8] (.two 0 1) (.seq (!13)) (.cmp .eq (.get (!1) (!2)) (.sub (!3) (!2))) (!0)))]
def SQ(I:A7 (F (zu 2)))(L:Fl aa w)(V:Wk cl pr)(O:xb S)(lS:S.length<=36)(hm:∀k,k∈S↔dy aa k)(P:ai K (K.map c0) s=gF x)(Q:∀u∈G,dy aa u)(R:xb M)(T:∀k,k∈M↔Nr (E1 aa sl cl pr) s G k)(C:Uc (E1 aa sl cl pr) G s (gF x))(W:Ci.Slot):
 aD F oZ (oE N aa sl cl pr S s (.val (lp G)) s6 (.val D) (.val (bk K (K.map c0))) s9 W (.val (lp M)) Mf .no)=.ok (.rt (.bl gS)):=by
 have st:∀g,∃q:Ks×List Int,g∈S->F (zu 2) [fl aa,wk sl cl pr,.lst [af g]]=.ok (bk q.1 q.2)/\Lc (Et aa sl cl pr) (dy aa) (·∈[g]) q.1 q.2:=λg=>by
  by_cases c:g∈S
  .let(U,X,e,Y):=I aa w L sl cl pr V [g] (λu Z=>by rw [eo.1 Z];exact(hm g).1 c) (by simp) (by simp);exact{(U,X),λ_=>⟨e,Y⟩}
  .exact{([],[]),λz=>absurd z c}
 let(q,j):=Classical.skolem.1 st;have l1:(S.map af).length<dW:=dA (m:=36) (by rw [zzl];exact lS) (by decide);have p:aH (λy=>((Tg.one 0).put y [.no,.val (wk sl cl pr),.val (lp G),.val (fl aa)]).bind λd=>(aJ F (.cmp .xW (.var 0) (.fG 2)) d).bind λt=>ny t λt=>if t then(aJ F (.tup (.cons (.var 0) (.cons (.call (zu 2) (.cons (.var 3) (.cons (.var 1) (.cons (.lst (.cons (.var 0) .nil)) .nil)))) .nil))) d).bind λy=>.ok (gF y) else .ok gK) (S.map af)=.ok ((S.filter λg=>decide (g∈G)).map λg=>.tup [af g,bk (q g).1 (q g).2]):=by refine dC λg c=>?_;have E:ue (af g) (.lst (G.map af))=.ok (.bl (decide (g∈G))):=inL g G;cases hd:decide (g∈G)<;>rw [hd] at E<;>simp! only [E,(j g c).1]
 generalize H:(S.filter λg=>decide (g∈G))=A at p;have lA:(A.map λg=>PV.tup [af g,bk (q g).1 (q g).2]).length<dW:=dA (m:=36) (by rw [zzl,<-H];exact c6 (List.length_filter_le ..) lS) (by decide);have e5:aG (bk K (K.map c0)) (af s)=.ok (.int x):=hX P
 have r:aH (λy=>((Tg.two 0 1).put y [.no,.no,.val (af s),.val (bk K (K.map c0))]).bind λd=>(aJ F (.cmp .eq (.get (.var 1) (.var 2)) (.sub (.var 3) (.var 2))) d).bind λt=>ny t λt=>if t then(aJ F (.var 0) d).bind λy=>.ok (gF y) else .ok gK) (A.map λg=>PV.tup [af g,bk (q g).1 (q g).2])=.ok ((A.filter λg=>decide (ai (q g).1 (q g).2 s=gF x)).map af):=by
  refine dC λg _=>?_;have tp:(Tg.two 0 1).put (.tup [af g,bk (q g).1 (q g).2]) [.no,.no,.val (af s),.val (bk K (K.map c0))]=.ok [.val (af g),.val (bk (q g).1 (q g).2),.val (af s),.val (bk K (K.map c0))]:=rfl
  have e6:fJ ((ai (q g).1 ((q g).2.map PV.int) s).getD .aC) (.int x)=.ok (.bl (decide (ai (q g).1 (q g).2 s=gF x))):=by
   rw [gu];cases ai (q g).1 (q g).2 s with
   |none=>rfl|some y=>
    show Res.ok (PV.bl (y==x))=_
    congr 2
    rw [Bool.eq_iff_iff,zzy,zzN,Option.some.injEq]
  rw [tp,m9];have e7:aJ F (.cmp .eq (.get (.var 1) (.var 2)) (.sub (.var 3) (.var 2))) [.val (af g),.val (bk (q g).1 (q g).2),.val (af s),.val (bk K (K.map c0))]=.ok (.bl (decide (ai (q g).1 (q g).2 s=gF x))):=by simp! only [dq,e5,e6]
  rw [e7];cases decide (ai (q g).1 (q g).2 s=gF x)<;>rfl
 have same:(A.filter λg=>decide (ai (q g).1 (q g).2 s=gF x))=M:=by
  rw [<-H];refine lX ((O.filter _).filter _) R λg=>?_;rw [List.mem_filter,List.mem_filter,zzN,zzN,T,C.nr];constructor
  .rintro ⟨⟨c,f⟩,e⟩
   let(g',B,i):=((my (iX (j g c).2) s).1 x e).1;rw [eo.1 B] at i;exact⟨x,rfl,f,i⟩
  .rintro ⟨x',h,f,i⟩
   cases h;have c:=(hm g).2 (Q g f);refine{⟨c,f⟩,?_};have ls:=my (iX (j g c).2) s
   cases e:ai (q g).1 (q g).2 s with
   |none=>exact absurd i (ls.2 e g (eo.2 rfl) x)|some y=>have a:=(ls.1 y e).2 g (eo.2 rfl) x i;let(g',B,TM):=(ls.1 y e).1;rw [eo.1 B] at TM;have b:=(C.1 x rfl).2 g f y TM;rw [show y=x by lia]
 rw [same] at r;have e8:fJ (lp M) (lp M)=.ok (.bl gS):=by rw [VM,zzh rfl]
 simp! only [true_and] at p r;simp! only [oZ,l1,p,lA,r,e8]
abbrev oY:Ss:=.cons (.ite (.or (.cmp .ne (.call (zu 57) #v[!1,!2,!10]) (.sub (!8) (!4))) (.cmp .jV (.sub (!10) (.neg (¬1))) (!11))) #v[.ret (.cst (.bl gU))] .nil) oZ
abbrev oX:Ss:=.cons (.set 12 (.blt .dict #v[.comp 1 [] (.one 0) (.seq (!7)) (.tup #v[.sub (!0) (¬0),.sub (!0) (¬2)])])) (.cons (.ite (.or (.cmp .ne (.sub (!10) (¬0)) (!4)) (.or (.cmp .jV (.sub (!10) (.neg (¬1))) (.fG 5)) (.cmp .ne (.slice (!10) (.some (¬1)) .no) (.comp 1 [12] (.one 0) (.seq (.slice (!10) .no (.some (.neg (¬1))))) (.sub (!1) (!0)))))) #v[.ret (.cst (.bl gU))] .nil) oY)
def SG(x:Int):gE (.int x) (.int x)=.ok (.bl gU):=by show Res.ok (PV.bl (!(x==x)))=_;rw [beq_self_eq_true];rfl
def SO(hs:yV F)(L:Fl aa w)(V:Wk cl pr)(nd:K.Nodup)(h:K.length<=36)(i:ai K (K.map c0) s=gF x)(j:Mw (E1 aa sl cl pr) l x)(p:∀k∈l,dy aa k)(hl:l.length<=1100){r q:Ks}{g:List Int}(h1:l=s::r)(t:l=q++[g])(a:g∈G)(b:g∈M)(hK:∀k∈l,k∈K)(u:l.dropLast.map (λk=>oK (o k))=l.tail.map af)
 (z:∀W Mf,aD F oZ (oE N aa sl cl pr S s (.val (lp G)) s6 (.val (.lst (K.map (fR c0 o)))) (.val (bk K (K.map c0))) s9 W (.val (lp M)) Mf .no)=.ok (.rt (.bl gS))):
 aD F oX (oE N aa sl cl pr S s (.val (lp G)) s6 (.val (.lst (K.map (fR c0 o)))) (.val (bk K (K.map c0))) s9 (.val (lp l)) (.val (lp M)) .no .no)=.ok (.rt (.bl gS)):=by
 have A:(K.map (fR c0 o)).length<dW:=dA (m:=36) (by rw [zzl];exact h) (by decide);have d:aH (λy=>((Tg.one 0).put y [.no]).bind λc=>(aJ F (.tup (.cons (.sub (.var 0) (.cst (.int 0))) (.cons (.sub (.var 0) (.cst (.int 2))) .nil))) c).bind λy=>.ok (gF y)) (K.map (fR c0 o))=.ok (K.map λk=>.tup [af k,oK (o k)]):=cU λk Z=>rfl;have B:=tM nd λk=>oK (o k);have C:aG (lp l) (.int 0)=.ok (af s):=by rw [h1];show Res.of (qZ ((s::r).map af) ((0:Nat):Int))=_;rw [gV (by simp)];rfl
 have E:aG (lp l) (.int (-1))=.ok (af g):=by rw [t,lp,List.map_append];exact JE _ _
 have H:gE (af s) (af s)=.ok (.bl gU):=by rw [neK,zzh rfl];rfl
 have I:eR (af g) (lp G)=.ok (.bl gU):=by have:=Fz g G;rw [zzh a] at this;exact this
 have O:eR (af g) (lp M)=.ok (.bl gU):=by have:=Fz g M;rw [zzh b] at this;exact this
 have P:eg (lp l) (gF 1) gK=.ok (lp l.tail):=by show Res.ok (PV.lst (j8 (l.map af) (gF 1) gK))=_;rw [D3,lp,List.map_tail]
 have Q:eg (lp l) gK (gF (-1))=.ok (lp l.dropLast):=by show Res.ok (PV.lst (j8 (l.map af) gK (gF (-1))))=_;rw [D2,lp,List.map_dropLast]
 have R:(l.dropLast.map af).length<dW:=dA (m:=1100) (by rw [zzl,List.length_dropLast];lia) (by decide)
 have f:aH (λy=>((Tg.one 0).put y [.no,.val (.aY K (K.map λk=>oK (o k)))]).bind λc=>(aJ F (.sub (.var 1) (.var 0)) c).bind λy=>.ok (gF y)) (l.dropLast.map af)=.ok (l.tail.map af):=by
  rw [<-u];refine cU λk hk=>?_;have e:aG (.aY K (K.map λk=>oK (o k))) (af k)=.ok (oK (o k)):=by show(Res.of (fI (af k))).bind (λk=>Res.of (ai _ _ k))=_;rw [dq];show Res.of (ai _ _ k)=_;rw [iU _ (hK k ((List.dropLast_sublist l).subset hk))];rfl
  simp! only [e]
 have T:gE (lp l.tail) (lp l.tail)=.ok (.bl gU):=by rw [QC,zzh rfl];rfl
 have U:=hs aa w L sl cl pr V l x j p (by lia);have X:aG (bk K (K.map c0)) (af s)=.ok (.int x):=hX i;simp! only [true_and] at d f;simp! only [oX,oY,A,d,B,C,E,H,I,O,P,Q,R,f,T,U,X,SG,z]
end
abbrev oW:Ss:=.cons (.ite (.cmp .jV (!4) (!8)) #v[.ret (.and (.cmp .is (!10) (.cst .aC)) (.cmp .eq (!11) (.lst .nil)))] .nil) oX
abbrev oV:Ss:=.cons (.ite (.cmp .jV (!4) (!3)) #v[.ret (.and (.cmp .eq (!10) (.cst (.str (zu 19)))) (.cmp .eq (!11) (.cst (.str (zu 19)))))] .nil) oW
abbrev oU:Ss:=.cons (.bC 5) (.cons (.set 10 (.call (zu 9) #v[¬1,!1,!2,!5,!4])) (.cons (.bC 5) (.cons (.set 11 (.call (zu 9) #v[¬2,!1,!2,!5,!4])) oV)))
abbrev oT:Ss:=.cons (.set 8 (.blt .dict #v[.comp 1 [] (.one 0) (.seq (!7)) (.slice (!0) .no (.some (¬2)))])) (.cons (.set 9 (.blt .dict #v[.comp 1 [] (.one 0) (.seq (.call "field" #v[!1,!2,.slice (.fG 5) .no (.some (¬1))])) (.slice (!0) .no (.some (¬2)))])) (.cons (.ite (.cmp .ne (.bJ 1 [9,8] (.one 0) (.seq (!9)) (.or (.cmp .jV (!0) (!2)) (.cmp .gt (.sub (!2) (!0)) (.sub (!1) (!0)))) (!0)) (.lst .nil)) #v[.ret (.cst (.bl gU))] .nil) oU))
abbrev oS:Ss:=.cons (.bC 5) (.cons (.set 7 (.call (zu 40) #v[!1,!2,!5])) (.cons (.bC 5) (.cons (.ite (.cmp .ne (.call (zu 9) #v[¬0,!1,!2,!5,!4]) (!7)) #v[.ret (.cst (.bl gU))] .nil) oT)))
abbrev oR:Ss:=.cons (.ite (.or (.cmp .eq (.fG 5) (.lst .nil)) (.cmp .ne (.bJ 1 [3] (.one 0) (.seq (.fG 5)) (.cmp .jV (!0) (!1)) (!0)) (.lst .nil))) #v[.bC 5,.ret (.cmp .eq (.comp 1 [2,4,5,1] (.one 0) (.qC (¬3)) (.call (zu 9) #v[!0,!4,!1,!3,!2])) (.bin .mul (.lst #v[.cst (.str (zu 19))]) (¬3)))] .nil) oS
theorem Ux:o6 (.val p)=.val p:=rfl
theorem ZQ:fJ (.str (zu 19)) (.str (zu 19))=.ok (.bl gS):=rfl
def neF(K:Ks)(c0:List Int->Int)(o:List Int->Option (List Int)):gE (.lst (K.map (fR c0 o))) (.lst (K.map (fR c0 o)))=.ok (.bl gU):=by
 have p0:∀o,Ci.plain 7 (oK o)=gS:=λo=>by
  cases o with
  |none=>rfl|some v=>exact ik 6 v
 have a:∀o,jy 7 (oK o) (oK o)=gS:=λo=>by
  cases o with
  |none=>rfl|some v=>exact(j9 6 v v).trans (zzh rfl)
 have b:∀T:Ks,(T.map (fR c0 o)).all (Ci.plain 8)=gS:=λT=>by
  simp! [c5,fm]
  rintro _ ⟨t,_,rfl⟩
  show(Ci.plain 7 (af t)&&(Ci.plain 7 (.int (c0 t))&&(Ci.plain 7 (oK (o t))&&gS)))=gS;rw [ik 6,p0];rfl
 have c:∀T:Ks,eqs (jy 8) (T.map (fR c0 o)) (T.map (fR c0 o))=gS:=λT=>by
  induction T with
  |nil=>rfl|cons t T d=>show((jy 7 (af t) (af t)&&((c0 t==c0 t)&&(jy 7 (oK (o t)) (oK (o t))&&gS)))&&eqs (jy 8) (T.map (fR c0 o)) (T.map (fR c0 o)))=gS;rw [d,j9 6,zzh rfl,beq_self_eq_true,a];rfl
 show(if((K.map (fR c0 o)).all (Ci.plain 8)&&(K.map (fR c0 o)).all (Ci.plain 8))=gS then Res.ok (PV.bl (!eqs (jy 8) (K.map (fR c0 o)) (K.map (fR c0 o)))) else .bad)=_;rw [b,c];rfl
section
variable{aa:List Str}{w:Nat}{pr:Int}{G S:Ks}{s:List Int}{N:PV}{F:aL}{K M:Ks}{c0:List Int->Int}{o:List Int->Option (List Int)}{s6 s9:Ci.Slot}
structure Tr(f:List PV->Res PV)(aa:List Str)(sl:Bool)(cl pr:Int)(G:Ks)(s:List Int)(c:List Int->Option Int):Prop where
 no:¬dy aa s->f [.int 1,fl aa,wk sl cl pr,lp G,af s]=.ok (.str (zu 19))/\f [.int 2,fl aa,wk sl cl pr,lp G,af s]=.ok (.str (zu 19))
 near:dy aa s->∃M:Ks,f [.int 2,fl aa,wk sl cl pr,lp G,af s]=.ok (lp M)/\xb M/\∀k,k∈M↔Nr (E1 aa sl cl pr) s G k
 Sx:dy aa s->c s=gK->f [.int 1,fl aa,wk sl cl pr,lp G,af s]=.ok .aC
 Sy:dy aa s->∀x,c s=gF x->∃l:Ks,f [.int 1,fl aa,wk sl cl pr,lp G,af s]=.ok (lp l)/\Ld (Nx aa sl cl pr c) s l/\l.length<=1100
def SN(m:Tr (F (zu 9)) aa sl cl pr G s (λk=>ai K (K.map c0) k))(I:A7 (F (zu 2)))(hs:yV F)(L:Fl aa w)(V:Wk cl pr)(O:xb S)(lS:S.length<=36)(hm:∀k,k∈S↔dy aa k)(nd:K.Nodup)(P:K.length<=36)(D:∀u∈G,dy aa u)(hl:fL (Et aa sl cl pr) (·∈G) λk=>ai K (K.map c0) k)(Q:∀k x,ai K (K.map c0) k=gF x->Nx aa sl cl pr (λk=>ai K (K.map c0) k) k (o k)):
 aD F oU (oE N aa sl cl pr S s (.val (lp G)) s6 (.val (.lst (K.map (fR c0 o)))) (.val (bk K (K.map c0))) s9 .no .no .no .no)=.ok (.rt (.bl gS)):=by
 have f:eR (af s) (lp S)=.ok (.bl (!decide (s∈S))):=Fz s S;have q:eR (af s) (bk K (K.map c0))=.ok (.bl (!bX K s)):=qy;have g:bX K s=(ai K (K.map c0) s).isSome:=ba s (by simp);by_cases e:dy aa s
 .rw [zzh ((hm s).2 e)] at f;let(M,A,R,B):=m.near e;have h:=my hl s
  cases d:ai K (K.map c0) s with
  |none=>
   rw [g,d] at q;rw [d] at h;have i:=m.Sx e d;have z:M=[]:=List.eq_nil_iff_forall_not_mem.2 λk hk=>by let(hk,c,T,_):=(B k).1 hk;exact h.2 rfl k hk c T
   have U:fJ (lp M) (.lst [])=.ok (.bl gS):=by rw [z];rfl
   have X:mG .aC .aC=.ok (.bl gS):=rfl;dsimp! only [oU,oV,oW,Ux,List.modify_succ_cons,List.modify_zero_cons,f,q,A,i,U,X,Option.isSome]
  |some x=>
   rw [g,d] at q;rw [d] at h;let(l,i,t,lt):=m.Sy e x d;let(p,(r,C),r',v,Y,E,Z):=OE hl t x d;have eZ:∀W H,aD F oZ (oE N aa sl cl pr S s (.val (lp G)) s6 (.val (.lst (K.map (fR c0 o)))) (.val (bk K (K.map c0))) s9 W (.val (lp M)) H .no)=.ok (.rt (.bl gS)):=λW H=>SQ I L V O lS hm d D R B h W
   have eX:=SO (o:=o) (N:=N) (S:=S) (s6:=s6) (s9:=s9) hs L V nd P d p (λk hk=>by
    let(y,j):=Ao t k hk
    cases hl.qk k y j with
    |here d=>exact D _ d|go _ he=>let(a,b,_,_,C,_,h3,_):=he;exact⟨a,b,C,h3⟩) lt C Y E ((B v).2 (h.nr.2 ⟨x,rfl,E,Z⟩)) (λk hk=>by
    let(y,j):=Ao t k hk;refine bR.1 ?_;rw [show bX K k=(ai K (K.map c0) k).isSome from ba k (by simp)];have j:ai K (K.map c0) k=gF y:=j;rw [j];rfl) (JG Q t) eZ
   dsimp! only [oU,oV,oW,Ux,List.modify_succ_cons,List.modify_zero_cons,f,q,A,i,Option.isSome,eX]
 .rw [zz0 λz=>e ((hm s).1 z)] at f;let(A,i):=m.no e;dsimp! only [oU,oV,Ux,List.modify_succ_cons,List.modify_zero_cons,f,A,i,ZQ]
def SM(L:Fl aa w){d:Ks}{e:List Int->Int}{h:List Int->Option (List Int)}{f:List Int}{j:Ks}(B:G=f::j)(C:F "field" [fl aa,wk sl cl pr,.lst [af f]]=.ok (.lst (d.map (fR e h))))(nd:K.Nodup)(D:K.length<=36)(i:d.Nodup)(p:d.length<=36)(h1:∀k∈d,k∈K/\c0 k<=e k)
 (E:∀s9,aD F oU (oE N aa sl cl pr S s (.val (lp G)) s6 (.val (.lst (K.map (fR c0 o)))) (.val (bk K (K.map c0))) s9 .no .no .no .no)=.ok (.rt (.bl gS))):
 aD F oT (oE N aa sl cl pr S s (.val (lp G)) s6 (.val (.lst (K.map (fR c0 o)))) .no .no .no .no .no .no)=.ok (.rt (.bl gS)):=by
 have H:∀a b c:PV,eg (.tup [a,b,c]) gK (gF 2)=.ok (.tup [a,b]):=λa b c=>rfl;have cc:∀(K:Ks) (c0:List Int->Int) (o:List Int->Option (List Int)),aH (λx=>((Tg.one 0).put x [.no]).bind λg=>(aJ F (.slice (.var 0) .no (.some (.cst (.int 2)))) g).bind λy=>.ok (gF y)) (K.map (fR c0 o))=.ok (K.map λk=>.tup [af k,.int (c0 k)]):=λK c0 o=>cU λk Z=>by dsimp! only [fR,H]
 have q:∀{K:Ks} (nd:K.Nodup) (c0:List Int->Int),dX .dict [.lst (K.map λk=>.tup [af k,.int (c0 k)])]=.ok (bk K (K.map c0)):=λnd c0=>by rw [tM nd λk=>.int (c0 k),bk,List.map_map];rfl
 have I:(K.map (fR c0 o)).length<dW:=dA (m:=36) (by rw [zzl];exact D) (by decide);have O:(d.map (fR e h)).length<dW:=dA (m:=36) (by rw [zzl];exact p) (by decide);have P:eg (lp G) gK (gF 1)=.ok (.lst [af f]):=by rw [B];show Res.ok (PV.lst (j8 (af f::j.map af) gK (gF ((1:Nat):Int))))=_;unfold j8;rw [HT.pU,HT.AQ];simp [Nat.min_eq_left]
 have Q:(d.map af).length<dW:=dA (m:=36) (by rw [zzl];exact p) (by decide);have r:aH (λx=>((Tg.one 0).put x [.no,.val (bk d (d.map e)),.val (bk K (K.map c0))]).bind λg=>(aJ F (.or (.cmp .jV (.var 0) (.var 2)) (.cmp .gt (.sub (.var 2) (.var 0)) (.sub (.var 1) (.var 0)))) g).bind λt=>ny t λt=>if t then(aJ F (.var 0) g).bind λy=>.ok (gF y) else .ok gK) (d.map af)=.ok []:=by refine j4 λk hk=>?_;let(a,b):=h1 k hk;have u:eR (af k) (bk K (K.map c0))=.ok (.bl (!bX K k)):=qy;rw [bR.2 a] at u;have R:aG (bk K (K.map c0)) (af k)=.ok (.int (c0 k)):=hX (iU c0 a);have T:aG (bk d (d.map e)) (af k)=.ok (.int (e k)):=hX (iU e hk);have U:decide (e k<c0 k)=gU:=zz0 (by lia);dsimp! only [u,R,T,U]
 have V:gE (.lst []) (.lst [])=.ok (.bl gU):=rfl;have sq:CV (.var 9) (bk d (d.map e))=.ok (d.map af):=rfl;have z:=cc K c0 o;have A:=cc d e h;have W:=q nd c0;have X:=q i e;dsimp! only [J] at z A r;dsimp! only [oT,I,z,W,P,C,O,A,X,sq,Q,r,V,E]
end
noncomputable abbrev Vn(s:List Int):Prop:=∃a b,s=[a,b]
section
variable{aa:List Str}{w:Nat}{pr:Int}{G S:Ks}{s:List Int}{N:PV}{F:aL}{s6:Ci.Slot}
def BN{b:Ks}{d:Vs}{o f:List Int->Option (List Int)}(g:Lc (Et aa sl cl pr) (dy aa) (·∈G) ks ns)(R:qR (Et aa sl cl pr) (·∈G) b d)(h:∀k∈ks,Nx aa sl cl pr (λk=>ai ks ns k) k (o k))(h':∀k∈b,Nx aa sl cl pr (cR b d) k (f k)):(cK b).map (fR (cst b d) f)=(cK ks).map (fR (λk=>(ai ks ns k).getD 0) o):=by
 have e:(λk=>ai ks ns k)=cR b d:=(iX g).uniq (r9 R);have i:∀k,ai ks ns k=(ai b d k).map (·.1):=λk=>congrFun e k;have m:∀k,k∈b↔k∈ks:=λk=>by rw [<-bR,<-bR,ba k R.len,ba k g.c.len,i];cases ai b d k<;>simp
 have j:cK b=cK ks:=lX eC eC λk=>by rw [bY,bY,m]
 rw [j];refine List.map_congr_left λk hk=>?_;have hk:=bY.1 hk;have a:=h k hk;rw [e] at a;rw [fR,fR,a.uniq (h' k ((m k).2 hk)),i k,cst];cases ai b d k<;>rfl
structure Vx(F:aL)(aa:List Str)(sl:Bool)(cl pr:Int)(G:Ks)(s:List Int):Prop where
 bad:Ref aa G->∀i:Int,i=0\/i=1\/i=2->F (zu 9) [.int i,fl aa,wk sl cl pr,lp G,af s]=.ok (.str (zu 19))
 f0:¬Ref aa G->∃kr Vr,∃o:List Int->Option (List Int),F (zu 9) [.int 0,fl aa,wk sl cl pr,lp G,af s]=.ok (.lst ((cK kr).map (fR (cst kr Vr) o)))/\qR (Et aa sl cl pr) (·∈G) kr Vr/\(∀k∈kr,dy aa k)/\∀k∈kr,Nx aa sl cl pr (cR kr Vr) k (o k)
 tr:¬Ref aa G->∀c,fL (Et aa sl cl pr) (·∈G) c->Tr (F (zu 9)) aa sl cl pr G s c
def SK(y:Vx F aa sl cl pr G s)(j:∀g,dy aa g->∃b d,∃o:List Int->Option (List Int),F "field" [fl aa,wk sl cl pr,.lst [af g]]=.ok (.lst ((cK b).map (fR (cst b d) o)))/\qR (Et aa sl cl pr) (·∈[g]) b d/\(∀k∈b,dy aa k)/\∀k∈b,Nx aa sl cl pr (cR b d) k (o k))(m:∃ks ns,∃o:List Int->Option (List Int),F (zu 40) [fl aa,wk sl cl pr,lp G]=.ok (.lst ((cK ks).map (fR (λk=>(ai ks ns k).getD 0) o)))/\Lc (Et aa sl cl pr) (dy aa) (·∈G) ks ns/\∀k∈ks,Nx aa sl cl pr (λk=>ai ks ns k) k (o k))(M:A7 (F (zu 2)))(hs:yV F)(L:Fl aa w)(V:Wk cl pr)(O:xb S)(lS:S.length<=36)(hm:∀k,k∈S↔dy aa k)(e:¬Ref aa G):
 aD F oS (oE N aa sl cl pr S s (.own (lp G)) s6 .no .no .no .no .no .no .no)=.ok (.rt (.bl gS)):=by
 have P:G≠[]:=λz=>e (.inl z);have A:∀u∈G,dy aa u:=λu Q=>Classical.byContradiction λz=>e (.inr ⟨u,Q,z⟩);let(ks,ns,o,B,a,hN):=m;let(b,d,o',p,R,Jr,r):=y.f0 e;rw [BN a R hN r] at p;generalize hK:cK ks=K at B p;have nd:K.Nodup:=hK▸eC.nodup;have le:ks.length<=36:=a.c.le λk hk=>TJ L hk;have C:K.length<=36:=by rw [<-hK,i4 a.c.nd];exact le
 have D:∀k,ai K (K.map λk=>(ai ks ns k).getD 0) k=ai ks ns k:=λk=>by
  rw [zQ,<-hK];by_cases hk:k∈ks
  .rw [if_pos (bY.2 hk)];let(n,f):=a.c.has hk;rw [f];rfl
  .rw [if_neg λz=>hk (bY.1 z)];have:=ba (vs:=ns) k a.c.len
   cases T:ai ks ns k with
   |none=>rfl|some n=>rw [T] at this;exact absurd (bR.1 this) hk
 have t:(λk=>ai K (K.map λk=>(ai ks ns k).getD 0) k)=λk=>ai ks ns k:=funext D;have hl:=iX a
 obtain⟨E,h,rfl⟩:∃g h,G=g::h:=by
  cases G with
  |nil=>exact absurd rfl P|cons g h=>exact⟨g,h,rfl⟩
 let(H,U,o1,W,R1,_,_):=j E (A E (cP ..))
 have X:∀k∈cK H,k∈K/\(ai ks ns k).getD 0<=cst H U k:=λk hk=>by
  have hk:=bY.1 hk;let(q,I):=(mD R1).1 hk;let(n,f,l):=hl.le k q.1 (n8 (λx i=>by rw [eo.1 i];exact cP ..) (R1.qk k q I).2);refine{?_,?_}
  .rw [<-hK];exact bY.2 (bR.1 (by rw [ba k a.c.len,f];rfl))
  .rw [cst,I,f];exact l
 have Y:=SM (N:=N) (S:=S) (s:=s) (s6:=s6) (o:=o) (c0:=λk=>(ai ks ns k).getD 0) (K:=K) L rfl W nd C eC.nodup (by rw [i4 R1.nr];exact R1.le) X λs9=>SN (by rw [t];exact y.tr e _ hl) M hs L V O lS hm nd C A (by rw [t];exact hl) λk x i=>by rw [t];refine hN k (bR.1 ?_);rw [D] at i;rw [ba k a.c.len,i];rfl
 have Z:=neF K (λk=>(ai ks ns k).getD 0) o;dsimp! only [oS,BS,Ux,List.modify_succ_cons,List.modify_zero_cons,B,p,Z,Y]
def SJ(A:Vx F aa sl cl pr G s)(B:G.length<=4)(hm:∀k,k∈S↔dy aa k)(eS:¬Ref aa G->aD F oS (oE N aa sl cl pr S s (.own (lp G)) s6 .no .no .no .no .no .no .no)=.ok (.rt (.bl gS))):aD F oR (oE N aa sl cl pr S s (.own (lp G)) s6 .no .no .no .no .no .no .no)=.ok (.rt (.bl gS)):=by
 have a:fJ (lp G) (.lst [])=.ok (.bl (decide (G=[]))):=VM G [];have i:(G.map af).length<dW:=dA (m:=4) (by rw [zzl];exact B) (by decide);have f:aH (λx=>((Tg.one 0).put x [.no,.val (lp S)]).bind λc=>(aJ F (.cmp .jV (.var 0) (.var 1)) c).bind λt=>ny t λt=>if t then(aJ F (.var 0) c).bind λy=>.ok (gF y) else .ok gK) (G.map af)=.ok ((G.filter λk=>!decide (k∈S)).map af):=by refine dC λk hk=>?_;have e:eR (af k) (lp S)=.ok (.bl (!decide (k∈S))):=Fz k S;cases hd:(!decide (k∈S))<;>rw [hd] at e<;>dsimp! only [e]
 have d:gE (lp (G.filter λk=>!decide (k∈S))) (.lst [])=.ok (.bl (!decide ((G.filter λk=>!decide (k∈S))=[]))):=QC _ []
 have j:(G.filter λk=>!decide (k∈S))=[]↔∀k∈G,dy aa k:=by
  rw [List.filter_eq_nil_iff];refine{λh k hk=>?_,λh k hk=>?_}
  .have:=h k hk;rw [Bool.not_eq_true,Bool.not_eq_false',zzN] at this;exact(hm k).1 this
  .rw [Bool.not_eq_true,Bool.not_eq_false',zzN];exact(hm k).2 (h k hk)
 dsimp! only [J] at f;by_cases b:Ref aa G
 .have t:=A.bad b;have g:aH (λx=>((Tg.one 0).put x [.no,.val (wk sl cl pr),.val (af s),.val (lp G),.val (fl aa)]).bind λc=>(aJ F (.call (zu 9) (.cons (.var 0) (.cons (.var 4) (.cons (.var 1) (.cons (.var 3) (.cons (.var 2) .nil)))))) c).bind λy=>.ok (gF y)) (fb 0 (3:Int).toNat)=.ok [.str (zu 19),.str (zu 19),.str (zu 19)]:=by show aH _ [.int 0,.int 1,.int 2]=_;dsimp! only [aH,t 0 (.inl rfl),t 1 (.inr (.inl rfl)),t 2 (.inr (.inr rfl)),oc]
  have o:binOp .mul (.lst [.str (zu 19)]) (.int 3)=.ok (.lst [.str (zu 19),.str (zu 19),.str (zu 19)]):=rfl;have p:fJ (.lst [.str (zu 19),.str (zu 19),.str (zu 19)]) (.lst [.str (zu 19),.str (zu 19),.str (zu 19)])=.ok (.bl gS):=rfl;have q:bf 3=gS:=by decide
  have r:(fb 0 (3:Int).toNat).length<dW:=by decide
  dsimp! only [J] at g;by_cases h0:G=[]
  .rw [zzh h0] at a;dsimp! only [oR,a,BS,List.modify_succ_cons,List.modify_zero_cons,q,r,g,o,p]
  .rw [zz0 h0] at a;rw [zz0 λz=>by
    let(u,C,D):=b.resolve_left h0;exact D (j.1 z u C)] at d
   dsimp! only [oR,a,i,f,d,BS,List.modify_succ_cons,List.modify_zero_cons,q,r,g,o,p]
 .rw [zz0 λz=>b (.inl z)] at a;rw [zzh (j.2 λk hk=>Classical.byContradiction λz=>b (.inr ⟨k,hk,z⟩))] at d;dsimp! only [oR,a,i,f,d,eS b]
abbrev gB:Ss:=#v[.app 5 (.call (zu 7) #v[!0,.bin .add (¬51) (.bin .mul (¬2) (!6)),!1]),.ite (.and (.cmp .ne (!3) (.lst .nil)) (.cmp .gt (.call (zu 4) #v[!0,.bin .add (¬60) (!6),¬5]) (¬0))) #v[.put 5 (.neg (¬1)) (.sub (!3) (.call (zu 4) #v[!0,.bin .add (¬65) (!6),.blt .len #v[!3]]))] .nil]
def Ov{S:Ks}{m:Int}(a:0<=m)(h:m<S.length):∃u∈S,aG (.lst (S.map af)) (.int m)=.ok (af u):=by
 let(k,rfl):=fi a;have hk:k<S.length:=by lia
 refine{S[k],List.getElem_mem hk,?_};show Res.of (qZ (S.map af) (k:Int))=_;rw [gV (zx6 hk),List.getElem_map];rfl
def RC(j:iL F)(t:∀ns k,0<=k->∃a b,F (zu 7) [fE ns,.int k,fl aa]=.ok (sp a b))(hm:∀k,k∈S->dy aa k)(hl:G.length<=4)(i:Nat):∃u,Vn u/\(((Tg.one 6).put (.int (0+(i:Int))) (oE (fE ns) aa sl cl pr S s (.own (lp G)) s6 .no .no .no .no .no .no .no)).bind λz=>aD F gB z)=.ok (.nx (oE (fE ns) aa sl cl pr S s (.own (lp (G++[u]))) (.val (.int (0+(i:Int)))) .no .no .no .no .no .no .no)):=by
 let(a,b,e):=t ns (51+2*(0+(i:Int))) (by lia);let(m,o,m0,_):=j ns (60+(0+(i:Int))) 5 (by lia) (by decide);have l:(G.map af).length<dW:=dA (m:=4) (by rw [zzl];exact hl) (by decide);have f:(aQ 2||aQ (0+(i:Int)))=gS:=by rw [eU];exact .inl (by decide)
 have d:gE (lp S) (.lst [])=.ok (.bl (!decide (S=[]))):=QC S [];have g:∀u:List Int,lp (G++[u])=.lst (G.map af++[af u]):=λu=>by rw [lp,List.map_append];rfl
 by_cases h:S=[]
 .rw [zzh h] at d;refine{[a,b],⟨a,b,rfl⟩,?_};rw [g];dsimp! only [gB,e,f,l,d];rfl
 .rw [zz0 h] at d;by_cases p:0<m
  .let(y,A,B,q):=j ns (65+(0+(i:Int))) ((S.map af).length:Int) (by lia) (by rw [zzl];have:=List.length_pos_iff.2 h;lia);let(u,C,D):=Ov (S:=S) B (by rw [zzl] at q;exact q);let(r,c,rfl,_):=hm u C
   refine{[r,c],⟨r,c,rfl⟩,?_};have E:B9 (G.map af++[sp a b]).length (-1)=gF (G.map af).length:=by
    unfold B9;rw [if_neg (by decide),if_pos (by simp! [cA,List.length_singleton];lia)]
    congr 1
    simp! [cA,List.length_singleton];lia
   have H:(G.map af++[sp a b]).set (G.map af).length (af [r,c])=G.map af++[af [r,c]]:=by simp
   rw [g];dsimp! only [gB,e,f,l,d,o,p,decide_true,A,D,E,H]
  .refine{[a,b],⟨a,b,rfl⟩,?_};rw [g];dsimp! only [gB,e,f,l,d,o,p,decide_false];rfl
theorem Ek(h:iL F)(j:∀ns k,0<=k->∃a b,F (zu 7) [fE ns,.int k,fl aa]=.ok (sp a b))(hm:∀k,k∈S->dy aa k){ns:List Int}:∀(l:List Nat) (G:Ks) (s6:Ci.Slot),Lr G->G.length+l.length<=4->∃c f,forL (λx env=>((Tg.one 6).put x env).bind λm=>aD F gB m) (l.map λi:Nat=>PV.int (0+(i:Int))) (oE (fE ns) aa sl cl pr S s (.own (lp G)) s6 .no .no .no .no .no .no .no)=.ok (.nx (oE (fE ns) aa sl cl pr S s (.own (lp c)) f .no .no .no .no .no .no .no))/\Lr c/\c.length<=4
 |[],G,s6,g,hl=>{G,s6,rfl,g,zx6 hl}|i::l,G,s6,g,hl=>by
  rw [cu] at hl;let(u,o,e):=RC (sl:=sl) (cl:=cl) (pr:=pr) (s:=s) (s6:=s6) h j hm (ns:=ns) (G:=G) (by lia) i
  let(c,f,p,a,b):=Ek h j hm l (G++[u]) (.val (.int (0+(i:Int)))) (λv d=>by
   rcases List.mem_append.1 d with d|d
   .exact g v d
   .rw [eo.1 d];exact o) (by rw [cA,List.length_singleton];lia)
  exact{c,f,by rw [a7,forL,e,m9];exact p,a,b}
end
def J4(F:aL)(f:iL F)(h1:∀ns,∃c w,Fl c w/\F (zu 39) [fE ns,.int 0,.int 5]=.ok (fl c))(j:∀ns,∃sl cl pr,Wk cl pr/\F (zu 32) [fE ns,.int 40]=.ok (wk sl cl pr))(hk:Mx (F (zu 11)))
 (g:∀c w,Fl c w->∀ns k,0<=k->∃a b,F (zu 7) [fE ns,.int k,fl c]=.ok (sp a b)) (o:∀c w,Fl c w->∀sl cl pr,Wk cl pr->∀(S G:Ks) (s:List Int) N s6,xb S->S.length<=36->(∀k,k∈S↔dy c k)->Lr G->G.length<=4->Vn s->aD F oR (oE N c sl cl pr S s (.own (lp G)) s6 .no .no .no .no .no .no .no)=.ok (.rt (.bl gS))) (ns:List Int):ax F cL [fE ns]=.ok (.bl gS):=by
 let(c,w,L,p):=h1 ns;let(sl,cl,pr,V,q):=j ns;let(S,r,lS,t,hm):=hk c L.qD;let(a,b,d):=g c w L ns 48 (by decide);let(m,y,m0,M):=f ns 50 5 (by decide) (by decide);let(n,rfl):=fi m0;let(G,h,e,z,A):=Ek (sl:=sl) (cl:=cl) (pr:=pr) (s:=[a,b]) f (g c w L) (λk hk=>(hm k).1 hk) (ns:=ns) (List.range n) [] .no (λu B=>by cases B) (by rw [List.length_range,List.length_nil];lia);have C:=o c w L sl cl pr V S G [a,b] (fE ns) h t lS hm z A ⟨a,b,rfl⟩;have D:bf (n:Int)=gS:=by simp! [bf,zza,zzN];lia
 have E:cL.body=(.cons (.set 1 (.call (zu 39) #v[!0,¬0,¬5])) (.cons (.set 2 (.call (zu 32) #v[!0,¬40])) (.cons (.set 3 (.call (zu 11) #v[!1])) (.cons (.set 4 (.call (zu 7) #v[!0,¬48,!1])) (.cons (.own 5 (.lst .nil)) (.cons (.cX (.one 6) (.qC (.call (zu 4) #v[!0,¬50,¬5])) gB) oR)))))):=rfl;have st:cO cL [fE ns]=[.val (fE ns),.no,.no,.no,.no,.no,.no,.no,.no,.no,.no,.no,.no,.no]:=rfl;have H:cM cL [fE ns]=gS:=rfl;unfold ax;rw [H,if_pos rfl,st,E];have I:fb 0 ((n:Nat):Int).toNat=(List.range n).map λi:Nat=>PV.int (0+(i:Int)):=rfl;rw [<-I] at e;have d:F (zu 7) [fE ns,.int 48,fl c]=.ok (af [a,b]):=d;dsimp! only [J] at e;have K:forL (λx env=>aD F gB (List.set env 6 (.val x))) (fb 0 ((n:Nat):Int).toNat) [.val (fE ns),.val (fl c),.val (wk sl cl pr),.val (.lst (S.map af)),.val (af [a,b]),.own (.lst []),.no,.no,.no,.no,.no,.no,.no,.no]=.ok (.nx (oE (fE ns) c sl cl pr S [a,b] (.own (lp G)) h .no .no .no .no .no .no .no)):=e;dsimp! only [p,q,r,d,y,D,K,C]
def Hq{d:List Str}{pr:Int}{G:Ks}(h:∀u∈G,dy d u)(w:jb (Et d sl cl pr) (·∈G) k c):dy d k:=by
 cases w with
 |here e=>exact h _ e|go _ he=>let(a,b,_,_,f,_,g,_):=he;exact⟨a,b,f,g⟩
def j0(F:aL)(d:iL F)(ns:List Int)(k:Int)(hk:0<=k){c:List Str}{w:Nat}(L:Fl c w):∃a b,ax F cq [fE ns,.int k,fl c]=.ok (sp a b):=by let(z,e,i,f):=Yz L;let(a,g,_):=d ns k ((c.length:Int)+2) hk (by lia);let(b,h,_):=d ns (k+1) ((z.length:Int)+2) (by lia) (by lia);refine{a-1,b-1,?_};simp! only [cq,zzl,g,e,f,h]
abbrev A6:Ss:=#v[.ite (.not (.call (zu 42) #v[.comp 1 [1] (.one 0) (.seq (!0)) (.bin .add (!0) (.bin .mul (¬7919) (!1)))])) #v[.ret (.cst (.bl gU))] .nil,.ite (.cmp .eq (!0) (.lst .nil)) #v[.brk] .nil]
def xa(F:aL)(a:∀ns,F (zu 42) [fE ns]=.ok (.bl gS))(ns:List Int)(hl:ns.length<=63)(t:Int):aD F A6 [.val (fE ns),.val (.int t)]=.ok (if ns=[] then .bk [.val (fE ns),.val (.int t)] else .nx [.val (fE ns),.val (.int t)]):=by
 have l:ns.length<dW:=dA hl (by decide);have s:(aQ 7919||aQ t)=gS:=by rw [eU];exact .inl (by decide)
 simp! only [A6,UM,zzl,l];rw [cU (g:=λn:Int=>.int (n+7919*t)) (λn Z=>by simp! only [s])];have e:=a (ns.map λn=>n+7919*t);simp! [fE,List.map_map,Function.comp_def] at e;simp! only [e,eq_nil];by_cases h:ns=[]
 .simp! only [h,decide_true]
 .simp! only [h,decide_false]
def OB(F:aL)(a:∀ns,F (zu 42) [fE ns]=.ok (.bl gS))(ns:List Int)(hl:ns.length<=63):ax F rB [fE ns]=.ok (.bl gS):=by
 have e:∃t:Int,forL (λx env=>((Tg.one 1).put x env).bind λb=>aD F A6 b) (fb 0 (6:Int).toNat) [.val (fE ns),.no]=.ok (.nx [.val (fE ns),.val (.int t)]):=by
  rw [show fb 0 (6:Int).toNat=[.int 0,.int 1,.int 2,.int 3,.int 4,.int 5] from rfl];by_cases h:ns=[]
  .refine{0,?_};simp! [forL,U8,m9,List.set_cons_succ,List.set_cons_zero,xa F a ns hl,if_pos h]
  .refine{5,?_};simp! [forL,U8,m9,List.set_cons_succ,List.set_cons_zero,xa F a ns hl,h,if_false]
 let(t,e):=e;have s:bf 6=gS:=by decide
 simp! only [A6] at e;simp! only [rB,s,e]
def Sf(ns:List Int)(hl:ns.length<=63):ax (den X9) rB [fE ns]=.ok (.bl gS):=by
 have y:∀F:aL,F (zu 4)=ax (den T2) bV->iL F:=λF j ns k q hk hq=>by rw [j];exact Kj (den T2) (λns k hk=>by rw [Rn];exact HV _ ns k hk) ns k q hk hq
 have Y:∀F:aL,F (zu 37)=ax (den MA) di->sA F:=λF j f R r c=>by rw [j];exact Kb _ (λr c=>by rw [HZ];exact xY _ (λi=>by rw [M6];exact tW _ i) r c) (λf R r c=>by rw [H9];exact SS _ f R r c) f R r c
 have H:∀F:aL,F (zu 1)=ax (den Hx) aU->fU F:=λF j f R r c h=>by rw [j];exact uc _ (Y _ zu) f R r c h
 have Z:∀F:aL,F (zu 1)=ax (den Hx) aU->uT F:=λF j f R r c h=>by rw [j];exact Fw _ (Y _ zu) f R r c h
 have step:∀F:aL,F (zu 28)=ax (den MB) bM->xt F:=λF j f w L sl cl pr V r c U W h h'=>by rw [j];exact K5 _ (λr c U W=>by rw [Ic];exact Bf _ r c U W) (λf R r c U W=>by rw [Ig];exact xK _ (Y _ Ib) R r c U W) (λf w L r c h=>by rw [Ie];exact B2 _ (H _ Ia) L h) L V h h'
 have ZJ:Lp (den HM):=λf R r c a b d e=>by rw [Ik];exact MI _ (Y _ Ih) R a b d e
 have m:∀F:aL,F (zu 17)=ax (den HM) bT->kM F:=λF j=>by unfold kM;rw [j];exact G6 _ (H _ Ii) ZJ (step _ Ij)
 have p:∀F:aL,F (zu 14)=ax (den Qj) bA->∀f w,Fl f w->∀G:Ks,(∀u∈G,dy f u)->G≠[]->F (zu 14) [fl f,lp G]=.ok .aC:=λF j f w L G h D=>by rw [j];exact ub _ (H _ tx) L h D
 have Ew:∀F:aL,F (zu 14)=ax (den Qj) bA->∀f,m8 f->∀G:Ks,Lr G->Ref f G->F (zu 14) [fl f,lp G]=.exc (zu 23):=λF j f R G h D=>by rw [j];exact qx _ (H _ tx) (Z _ tx) R h D
 have K6:sE (den Uj):=by unfold sE;rw [Io];exact yF _ (m _ Im) (step _ Il)
 have Xd:Mz (den QY):=by unfold Mz;rw [Iq];exact KY _ K6
 have Xc:My (den Q2):=by unfold My;rw [Iy];exact KW _ (m _ Iw)
 have RA:Dz (den Ql):=by unfold Dz;rw [zA];exact IP _ (H _ zy) Xc
 have O:∀F:aL,F (zu 3)=ax (den Lv) aF->∀f w,Fl f w->∀sl cl pr,Wk cl pr->Vv F f sl cl pr:=λF j f w L sl cl pr V G h D I=>by rw [j];let(C,K,e,R):=yI (den Lv) (sl:=sl) (cl:=cl) (pr:=pr) (p _ zv f w L) (λG h I=>by rw [Ir];exact wM _ (H _ Ip) Xd L V h I) h D I;exact{C,K,e,R,λk hk=>by let(q,hq):=(mD R).1 hk;exact Hq h (R.qk k q hq).2}
 have Zu:∀F:aL,F (zu 3)=ax (den Lv) aF->∀f,m8 f->∀B (G:Ks),Lr G->Ref f G->F (zu 3) [fl f,B,lp G]=.exc (zu 23):=λF j f R B G h D=>by rw [j];exact w6 _ (Ew _ zv f R G h D)
 have WV:∀F:aL,F (zu 8)=ax (den QZ) bz->∀f w,Fl f w->∀sl cl pr,Wk cl pr->Vl F f sl cl pr:=λF j f w L sl cl pr V S C K R u A q P=>by rw [j];exact CI _ (m _ Iu) L V R A P
 have wS:den Hy (zu 35) [.exc (zu 23)]=.ok (.str (zu 19)):=by rw [Iz];exact Ll _
 have yc:∀F:aL,F (zu 10)=ax (den T8) bx->fq F:=λF j=>by unfold fq;rw [j];exact Ck _ (λf w L sl cl pr V r c U W h h' hf=>by rw [Rr];exact x8 _ L V h h' hf)
 have GR:∀F:aL,F (zu 11)=ax (den T5) bS->sD F:=λF j f R=>by rw [j];exact GU _ f R
 have Ys:∀F:aL,F (zu 2)=ax (den T9) aX->A7 (F (zu 2)):=λF j=>by rw [j];exact MX _ (GQ (GR _ Rt)) (yc _ Ru)
 have E:∀f w,Fl f w->∀sl cl pr,Wk cl pr->∀G:Ks,(∀u∈G,dy f u)->G≠[]->G.length<=40->∃C K,∃o:List Int->Option (List Int),ax (den Qk) d8 [fl f,wk sl cl pr,lp G]=.ok (.lst ((cK C).map (fR (cst C K) o)))/\qR (Et f sl cl pr) (·∈G) C K/\(∀k∈C,dy f k)/\∀k∈C,Nx f sl cl pr (cR C K) k (o k):=λf w L sl cl pr V G h D I=>Eg _ (O _ zw f w L sl cl pr V) (WV _ Iv f w L sl cl pr V) h D I
 have TH:∀f w,Fl f w->∀sl cl pr,Wk cl pr->∀(G:Ks) (s:List Int),Lr G->G.length<=4->Vn s->Vx (den Ba) f sl cl pr G s:=λf w L sl cl pr V G s Q I hs=>by
  let(p1,p2):=P6 (den Hy) (fl f) (wk sl cl pr) (lp G) (af s);let(q1,q2):=P7 (den Hy) (fl f) (wk sl cl pr) (lp G) (af s);let(r1,r2):=P8 (den Hy) (fl f) (wk sl cl pr) (lp G) (af s);have X:¬Ref f G->G≠[]:=λh z=>h (.inl z);have T:¬Ref f G->∀u∈G,dy f u:=λh u P=>Classical.byContradiction λz=>h (.inr ⟨u,P,z⟩);let(a,b,rfl):=hs;refine{λh i hi=>?_,λh=>?_,λh c hc=>{λA=>{?_,?_},λA=>?_,λA D=>?_,λA x hx=>?_}}
  .rw [gX];rcases hi with rfl|rfl|rfl
   .exact p2 _ _ (by rw [zC];exact BM _ (Zu _ zw f L.qD _ G Q h)) wS
   .exact q2 _ _ (by rw [nA];exact vT _ (H _ jf) (Z _ jf) L.qD (.inr (Zu _ tD f L.qD _ G Q h))) wS
   .exact r2 _ _ (by rw [tH];exact v3 _ (.inl (Ew _ tG f L.qD G Q h))) wS
  .rw [gX];let(C,K,o,e,x):=E f w L sl cl pr V G (T h) (X h) (by lia);exact{C,K,o,p1 _ (by rw [zC];exact e),x}
  .rw [gX];have A:cE f a b=gU:=Bool.eq_false_iff.2 λz=>A ⟨a,b,rfl,z⟩;exact q2 _ _ (by rw [nA];exact vT _ (H _ jf) (Z _ jf) L.qD (.inl A)) wS
  .rw [gX];have A:cE f a b=gU:=Bool.eq_false_iff.2 λz=>A ⟨a,b,rfl,z⟩;exact r2 _ _ (by rw [tH];exact v3 _ (.inr {p _ tG f w L G (T h) (X h),by rw [zA];exact Ei _ (Z _ zy) L.qD _ A})) wS
  .rw [gX];let(C,K,e,R):=RA f w L sl cl pr V [a,b] A;let(M,e',x):=JL (den Ql) L (p _ tG f w L G (T h) (X h)) e R (T h) (by lia);exact{M,r1 _ (by rw [tH];exact e'),x}
  .rw [gX];exact q1 _ (by rw [nA];exact(Ap _ (H _ jf) (O _ tD f w L sl cl pr V) (WV _ zx f w L sl cl pr V) L V (T h) (X h) (by lia) A hc).1 D)
  .rw [gX];let(l,e,t):=(Ap _ (H _ jf) (O _ tD f w L sl cl pr V) (WV _ zx f w L sl cl pr V) L V (T h) (X h) (by lia) A hc).2 x hx;exact{l,q1 _ (by rw [nA];exact e),t}
 refine OB _ (λns=>?_) ns hl;rw [IE];refine J4 _ (y _ M9) (λns=>by rw [Na];exact BP _ (y _ Ro) ns 5 (by decide) (by decide)) (λns=>by rw [Nb];exact De _ (y _ Rp) ns 40 (by decide)) (GQ (GR _ Nc)) (λf w L ns k hk=>by rw [Nd];exact j0 _ (y _ Rq) ns k hk L) (λf w L sl cl pr V S G s N s6 sS lS hm pG I p2=>?_) ns;have td:=TH f w L sl cl pr V G s pG I p2;refine SJ td I hm λQ=>SK td (λg hg=>?_) ?_ (Ys _ IA) ?_ L V sS lS hm Q
 .rw [IC];exact E f w L sl cl pr V [g] (λu P=>by rw [eo.1 P];exact hg) (by simp) (by simp)
 .rw [IB];exact Cg _ (Ys _ HY) (yc _ M5) L V (λu P=>Classical.byContradiction λz=>Q (.inr ⟨u,P,z⟩)) (λz=>Q (.inl z)) (by lia)
 .unfold yV;rw [ID];exact PZ _ (GR _ M7) (yc _ M8)
end K50
variable{ks:K50.Ks}
namespace Hd
open PySem.W L2
noncomputable abbrev fo(n:Str)(st:ig)(a:hB)(c:hF):Obj:={.type "function",gK,.func (fnOf n n (dR st) (dj st) (br st) .none .none .none a gK (.ref c) .none),#[]}
noncomputable abbrev co(n:Str)(a:Nat)(L A:Int)(r:Nat)(x y:hB)(q z:Nat):Obj:={cls:=.type "code",data:=.fields #[.str n a,.str n (a+1),.str "/claim/cut.py" (a+2),.int L 0,.int A 0,.int 0 0,.int 0 0,.int 3 0,.ref r,.bool Bool.true,.int 181 0,.ref (r+1),.none,x,y,.ref q,.int z 0,.int L 0,.str "/claim/cut.py" (z+1)]}
abbrev VI(s:ig):Pos:=match s with
 |.FunctionDef _ _ _ _ _ _ _ _ _ p=>p|_=>{0,0,0,0}
def ent{K:Frag}{ts:List (hF×Str)}{n:Str}(f c:hF)(b:hB)(a:nsIn K iv n=gF (gF (.ref f)):=by kernel_rfl)(l:K.lookup f=gF (fo n st b c):=by kernel_rfl)(d:codeIn K (.ref c) n=gS:=by kernel_rfl)(k:keepIn K (.ref f)=gS:=by kernel_rfl):Ci.A9 K ts gU n st:=Ci.VL a l d k
def IK{K:Frag}{ts:List (hF×Str)}{n:Str}(f c p:hF)(b:hB)(e:Ci.iq K c p)(m:(p,Ci.pA n)∈ts)(u:∀q∈ts,q.1=p->q.2=Ci.pA n)(a:nsIn K iv n=gF (gF (.ref f)):=by kernel_rfl)(l:K.lookup f=gF (fo n st b c):=by kernel_rfl)(d:codeIn K (.ref c) n=gS:=by kernel_rfl)(k:keepIn K (.ref f)=gS:=by kernel_rfl):Ci.A9 K ts gS n st:={f,_,_,_,_,_,_,_,_,_,a,l,d,k,λZ=>{c,p,rfl,e,m,λg h=>u _ h rfl}}
def ac{K:Frag}{ts:List (hF×Str)}{Γ:Ci.Pg}{r:Ci.Row}{l:Ci.eE}(e:Ci.A9 K ts r.hl r.h r.st)(s:Ci.cH (Γ.at l r.hl) r.h r.d r.st)(t:Ci.AllK K ts Γ l)(a:(l.map (·.f)).contains r.f=gU:=by decide+kernel)(b:(r.d.jq.isNone==!Ci.i6 r.f)=gS:=by decide+kernel)(c:r.d.jq.isNone=gS->r.f=r.h:=by first|exact λZ=>rfl|exact λz=>absurd z (by decide)):Ci.AllK K ts Γ (r::l):={e,s,⟨a,b,c⟩,t}
def Fm{K L:Frag}{b:hF}(e:K.lookup b=gF o):(K++L).lookup b=gF o:=by rw [List.lookup_append,e];rfl
end Hd
namespace K50
open L2 Ci
noncomputable abbrev lw:=PySem.Challenge.rw_cellways_k50_whole_field
abbrev top(i:Nat):Stmt:=PySem.Challenge.pw_cellways_k50_whole_field.main.body.getD i (.Pass {0,0,0,0})
noncomputable abbrev m1:Value:=.str "cellways.floors" 271
noncomputable abbrev m2:Value:=.str "cellways.ways" 384
noncomputable abbrev m3:Value:=.str "cellways.fields" 424
noncomputable abbrev m4:Value:=.str "law_cellways_k50_whole_field" 481
abbrev K(P:Params):zz8:=[(2,{cls:=.none,data:=.dict #[]}),
 (3,{cls:=.type "dict",data:=.dict #[Hd.de P (zu 46) 165 (.str "law_cellways_k50_whole_field" 481),Hd.de P "__doc__" 166 (.none),Hd.de P "__package__" 167 (.none),Hd.de P "__loader__" 168 (.builtin "__main__.__loader__#opaque"),Hd.de P "__spec__" 169 (.none),Hd.de P "__annotations__" 170 (.ref 6),Hd.de P "__builtins__" 171 (.ref 4),Hd.de P "__file__" 173 (.str "/claim/cut.py" 172),Hd.de P "__cached__" 174 (.none),Hd.de P (zu 12) 206 (.ref 24),Hd.de P (zu 23) 222 (.ref 37),Hd.de P "NoWay" 238 (.ref 49),Hd.de P "NoSign" 254 (.ref 61),Hd.de P "NoSize" 270 (.ref 73),Hd.de P "WALL" 274 (.str "#" 273),Hd.de P "STRAIGHT_COST" 276 (.int 2 275),Hd.de P "SLANTING_COST" 278 (.int 3 277),Hd.de P (zu 56) 285 (.ref 82),Hd.de P "is_spot" 292 (.ref 89),Hd.de P (zu 38) 300 (.ref 96),Hd.de P (zu 37) 308 (.ref 103),Hd.de P (zu 1) 316 (.ref 110),Hd.de P (zu 47) 324 (.ref 117),Hd.de P (zu 16) 335 (.ref 124),Hd.de P (zu 44) 343 (.ref 131),Hd.de P (zu 20) 352 (.ref 138),Hd.de P (zu 28) 365 (.ref 145),Hd.de P (zu 17) 377 (.ref 152),Hd.de P (zu 50) 383 (.ref 157),Hd.de P "spread" 400 (.ref 164),Hd.de P (zu 24) 411 (.ref 171),Hd.de P (zu 41) 423 (.ref 178),Hd.de P (zu 14) 434 (.ref 185),Hd.de P (zu 3) 443 (.ref 192),Hd.de P (zu 8) 455 (.ref 199),Hd.de P "field" 461 (.ref 204),Hd.de P "lead" 474 (.ref 211),Hd.de P (zu 26) 480 (.ref 216),Hd.de P (zu 53) 490 (.ref 223),Hd.de P (zu 4) 500 (.ref 230),Hd.de P (zu 39) 518 (.ref 237),Hd.de P (zu 32) 526 (.ref 244),Hd.de P (zu 11) 532 (.ref 249),Hd.de P (zu 48) 544 (.ref 256),Hd.de P (zu 10) 558 (.ref 263),Hd.de P "_law_costs" 564 (.ref 268),Hd.de P (zu 2) 570 (.ref 273),Hd.de P (zu 57) 576 (.ref 278),Hd.de P (zu 35) 584 (.ref 285),Hd.de P (zu 7) 593 (.ref 292),Hd.de P (zu 9) 607 (.ref 299),Hd.de P (zu 40) 613 (.ref 304),Hd.de P (zu 42) 619 (.ref 309),Hd.de P "law" 625 (.ref 314)] 54}),
 (4,{cls:=.type "module",dict:=gF builtinsNs,data:=.plain}),
 (23,{cls:=.type "dict",data:=.dict #[Hd.de P "__module__" 196 (.str (zu 54) 187),Hd.de P (zu 55) 200 (.int 2 199),Hd.de P (zu 33) 201 (.ref 22),Hd.de P "__weakref__" 203 (.ref 25),Hd.de P "__doc__" 204 (.none)] 3}),
 (24,{cls:=.type "type",data:=.cls {name:=(zu 12),bases:=[.type (zu 0)],mro:=[.ref 24,.type (zu 0),.type "Exception",.type (zu 27),.type "object"],ns:=23,qualname:=(zu 12),subclasses:=[.ref 37,.ref 49,.ref 61,.ref 73]},slots:=#[gF (.ref 15),gK,gF (.str (zu 12) 189),gF (.str (zu 12) 197),gF (.builtin (zu 18)),gF (.bool Bool.true)]}),
 (36,{cls:=.type "dict",data:=.dict #[Hd.de P "__module__" 214 (.str (zu 54) 187),Hd.de P (zu 55) 218 (.int 4 217),Hd.de P (zu 33) 219 (.ref 35),Hd.de P "__doc__" 220 (.none)] 2}),
 (37,{cls:=.type "type",data:=.cls {name:=(zu 23),bases:=[.ref 24],mro:=[.ref 37,.ref 24,.type (zu 0),.type "Exception",.type (zu 27),.type "object"],ns:=36,qualname:=(zu 23)},slots:=#[gF (.ref 28),gK,gF (.str (zu 23) 207),gF (.str (zu 23) 215),gF (.builtin (zu 18)),gF (.bool Bool.true)]}),
 (48,{cls:=.type "dict",data:=.dict #[Hd.de P "__module__" 230 (.str (zu 54) 187),Hd.de P (zu 55) 234 (.int 6 233),Hd.de P (zu 33) 235 (.ref 47),Hd.de P "__doc__" 236 (.none)] 2}),
 (49,{cls:=.type "type",data:=.cls {name:="NoWay",bases:=[.ref 24],mro:=[.ref 49,.ref 24,.type (zu 0),.type "Exception",.type (zu 27),.type "object"],ns:=48,qualname:="NoWay"},slots:=#[gF (.ref 40),gK,gF (.str "NoWay" 223),gF (.str "NoWay" 231),gF (.builtin (zu 18)),gF (.bool Bool.true)]}),
 (60,{cls:=.type "dict",data:=.dict #[Hd.de P "__module__" 246 (.str (zu 54) 187),Hd.de P (zu 55) 250 (.int 8 249),Hd.de P (zu 33) 251 (.ref 59),Hd.de P "__doc__" 252 (.none)] 2}),
 (61,{cls:=.type "type",data:=.cls {name:="NoSign",bases:=[.ref 24],mro:=[.ref 61,.ref 24,.type (zu 0),.type "Exception",.type (zu 27),.type "object"],ns:=60,qualname:="NoSign"},slots:=#[gF (.ref 52),gK,gF (.str "NoSign" 239),gF (.str "NoSign" 247),gF (.builtin (zu 18)),gF (.bool Bool.true)]}),
 (72,{cls:=.type "dict",data:=.dict #[Hd.de P "__module__" 262 (.str (zu 54) 187),Hd.de P (zu 55) 266 (.int 10 265),Hd.de P (zu 33) 267 (.ref 71),Hd.de P "__doc__" 268 (.none)] 2}),
 (73,{cls:=.type "type",data:=.cls {name:="NoSize",bases:=[.ref 24],mro:=[.ref 73,.ref 24,.type (zu 0),.type "Exception",.type (zu 27),.type "object"],ns:=72,qualname:="NoSize"},slots:=#[gF (.ref 64),gK,gF (.str "NoSize" 255),gF (.str "NoSize" 263),gF (.builtin (zu 18)),gF (.bool Bool.true)]}),
 zx5 81 (zu 56) 279 16 1 76 283,
 zx3 82 (zu 56) 10 m1,
 zx5 88 "is_spot" 286 18 1 83 290,
 zx3 89 "is_spot" 11 m1,
 zx5 95 (zu 38) 293 20 2 90 298,
 zx3 96 (zu 38) 12 m1,
 zx5 102 (zu 37) 301 22 2 97 306,
 zx3 103 (zu 37) 13 m1,
 zx5 109 (zu 1) 309 24 2 104 314,
 zx3 110 (zu 1) 14 m1,
 zx5 116 (zu 47) 317 27 2 111 322,
 zx3 117 (zu 47) 15 m1,
 zx5 123 (zu 16) 325 30 2 118 333,
 zx3 124 (zu 16) 16 m1,
 zx5 130 (zu 44) 336 37 2 125 341,
 zx3 131 (zu 44) 17 m1,
 zx5 137 (zu 20) 344 39 3 132 350,
 zx3 138 (zu 20) 18 m1,
 zx5 144 (zu 28) 353 41 4 139 363,
 zx3 145 (zu 28) 19 m1,
 zx5 151 (zu 17) 366 52 3 146 375,
 zx3 152 (zu 17) 20 m1,
 (156,Hd.co (zu 50) 378 60 3 153 .none .none 155 381),
 zx3 157 (zu 50) 21 m1,
 zx5 163 "spread" 386 63 2 158 398,
 zx3 164 "spread" 23 m2,
 zx5 170 (zu 24) 401 76 3 165 409,
 zx3 171 (zu 24) 24 m2,
 zx5 177 (zu 41) 412 79 3 172 421,
 zx3 178 (zu 41) 25 m2,
 zx5 184 (zu 14) 426 84 2 179 432,
 zx3 185 (zu 14) 27 m3,
 zx5 191 (zu 3) 435 89 3 186 441,
 zx3 192 (zu 3) 28 m3,
 zx5 198 (zu 8) 444 92 4 193 453,
 zx3 199 (zu 8) 29 m3,
 (203,Hd.co "field" 456 97 3 200 .none .none 202 459),
 zx3 204 "field" 30 m3,
 zx5 210 "lead" 462 100 4 205 472,
 zx3 211 "lead" 31 m3,
 (215,Hd.co (zu 26) 475 111 4 212 .none .none 214 478),
 zx3 216 (zu 26) 32 m3,
 zx5 222 (zu 53) 483 118 2 217 488,
 zx3 223 (zu 53) 34 m4,
 zx5 229 (zu 4) 491 124 3 224 498,
 zx3 230 (zu 4) 35 m4,
 zx5 236 (zu 39) 501 127 3 231 516,
 zx3 237 (zu 39) 36 m4,
 zx5 243 (zu 32) 519 140 2 238 524,
 zx3 244 (zu 32) 37 m4,
 (248,Hd.co (zu 11) 527 142 1 245 .none .none 247 530),
 zx3 249 (zu 11) 38 m4,
 zx5 255 (zu 48) 533 147 4 250 542,
 zx3 256 (zu 48) 39 m4,
 zx5 262 (zu 10) 545 157 3 257 556,
 zx3 263 (zu 10) 40 m4,
 (272,Hd.co (zu 2) 565 179 3 269 .none .none 271 568),
 zx3 273 (zu 2) 42 m4,
 (277,Hd.co (zu 57) 571 194 3 274 .none .none 276 574),
 zx3 278 (zu 57) 43 m4,
 zx5 284 (zu 35) 577 205 1 279 582,
 zx3 285 (zu 35) 44 m4,
 zx5 291 (zu 7) 585 210 3 286 591,
 zx3 292 (zu 7) 45 m4,
 zx5 298 (zu 9) 594 212 5 293 605,
 zx3 299 (zu 9) 46 m4,
 (303,Hd.co (zu 40) 608 227 3 300 .none .none 302 611),
 zx3 304 (zu 40) 47 m4,
 (308,Hd.co (zu 42) 614 235 1 305 .none .none 307 617),
 zx3 309 (zu 42) 48 m4,
 (313,Hd.co "law" 620 267 1 310 .none .none 312 623),
 zx3 314 "law" 49 m4]
abbrev ts:List (hF×Str):=[(159,pA "spread"),(173,pA (zu 41)),(166,pA (zu 24))]
abbrev K2(P:Params):zz8:=K P++[(159,PySem.W.tabObj #[]),(173,PySem.W.tabObj #[]),(166,PySem.W.tabObj #[])]
abbrev as:List Addr:=[2,3,4,23,24,36,37,48,49,60,61,72,73,81,82,88,89,95,96,102,103,109,110,116,117,123,124,130,131,137,138,144,145,151,152,156,157,163,164,170,171,177,178,184,185,191,192,198,199,203,204,210,211,215,216,222,223,229,230,236,237,243,244,248,249,255,256,262,263,272,273,277,278,284,285,291,292,298,299,303,304,308,309,313,314,159,173,166]
abbrev Γ:Pg:={[("WALL",(.str "#")),("STRAIGHT_COST",(.int 2)),("SLANTING_COST",(.int 3))],["len","abs","max","min","int","str","list","tuple",zu 31,"bool","range",zu 6,zu 0,"sorted","dict","set"],[zu 12,"NoSign","NoSize",zu 23,"NoWay"],[],[zu 23],[],gU,gU,[]}
def R0:eE:=[]
def wV:cH (Γ.at R0 gU) (zu 56) fv (top 10):=stM λZ Z Z Z Z Z=>Hd.MF λZ=>rfl
abbrev R1:eE:=zx2 (zu 56) fv 10 gU::R0
def uy:cH (Γ.at R1 gU) (zu 53) dF (top 34):=stM λZ Z Z Z Z Z=>Hd.Dj λZ Z=>rfl
abbrev R2:eE:=zx2 (zu 53) dF 34 gU::R1
def uB:cH (Γ.at R2 gU) (zu 4) bV (top 35):=stM λZ Z Z Z Z Z=>Hd.xy λZ Z Z=>rfl
abbrev R3:eE:=zx2 (zu 4) bV 35 gU::R2
def qI:cH (Γ.at R3 gU) (zu 39) cN (top 36):=stM λZ Z Z Z Z Z=>Hd.xy λZ Z Z=>rfl
abbrev R4:eE:=zx2 (zu 39) cN 36 gU::R3
def p9:cH (Γ.at R4 gU) (zu 32) cV (top 37):=stM λZ Z Z Z Z Z=>Hd.Dj λZ Z=>rfl
abbrev R5:eE:=zx2 (zu 32) cV 37 gU::R4
def qJ:cH (Γ.at R5 gU) (zu 11) bS (top 38):=stM λZ Z Z Z Z Z=>Hd.MF λZ=>rfl
abbrev R6:eE:=zx2 (zu 11) bS 38 gU::R5
def mP:cH (Γ.at R6 gU) (zu 7) cq (top 45):=stM λZ Z Z Z Z Z=>Hd.xy λZ Z Z=>rfl
abbrev R7:eE:=zx2 (zu 7) cq 45 gU::R6
def uz:cH (Γ.at R7 gU) (zu 48) cy (top 39):=stM λZ Z Z Z Z Z=>Hd.Qo λZ Z Z Z=>rfl
abbrev R8:eE:=zx2 (zu 48) cy 39 gU::R7
def qK:cH (Γ.at R8 gU) (zu 10) bx (top 40):=stM λZ Z Z Z Z Z=>Hd.xy λZ Z Z=>rfl
abbrev R9:eE:=zx2 (zu 10) bx 40 gU::R8
def mQ:cH (Γ.at R9 gU) (zu 2) aX (top 42):=stM λZ Z Z Z Z Z=>Hd.xy λZ Z Z=>rfl
abbrev Xw:eE:=zx2 (zu 2) aX 42 gU::R9
def qH:cH (Γ.at Xw gU) (zu 40) dg (top 47):=stM λZ Z Z Z Z Z=>Hd.xy λZ Z Z=>rfl
abbrev Xx:eE:=zx2 (zu 40) dg 47 gU::Xw
def uC:cH (Γ.at Xx gU) (zu 35) ez (top 44):=stM λZ Z Z Z Z Z=>Hd.MF λZ=>rfl
abbrev Xy:eE:=zx2 (zu 35) ez 44 gU::Xx
def yE:cH (Γ.at Xy gU) "is_spot" fg (top 11):=stM λZ Z Z Z Z Z=>Hd.MF λZ=>rfl
abbrev Xz:eE:=zx2 "is_spot" fg 11 gU::Xy
def qa:cH (Γ.at Xz gU) (zu 38) cW (top 12):=stM λZ Z Z Z Z Z=>Hd.Dj λZ Z=>rfl
abbrev XA:eE:=zx2 (zu 38) cW 12 gU::Xz
def yD:cH (Γ.at XA gU) (zu 37) di (top 13):=stM λZ Z Z Z Z Z=>Hd.Dj λZ Z=>rfl
abbrev XB:eE:=zx2 (zu 37) di 13 gU::XA
def uE:cH (Γ.at XB gU) (zu 1) aU (top 14):=stM λZ Z Z Z Z Z=>Hd.Dj λZ Z=>rfl
abbrev XC:eE:=zx2 (zu 1) aU 14 gU::XB
def qN:cH (Γ.at XC gU) (zu 14) bA (top 27):=stM λZ Z Z Z Z Z=>Hd.Dj λZ Z=>rfl
abbrev XD:eE:=zx2 (zu 14) bA 27 gU::XC
def qM:cH (Γ.at XD gU) (zu 44) dh (top 17):=stM λZ Z Z Z Z Z=>Hd.Dj λZ Z=>rfl
abbrev XF:eE:=zx2 (zu 44) dh 17 gU::XD
def uD:cH (Γ.at XF gU) (zu 47) dG (top 15):=stM λZ Z Z Z Z Z=>Hd.Dj λZ Z=>rfl
abbrev XG:eE:=zx2 (zu 47) dG 15 gU::XF
def ju:cH (Γ.at XG gU) (zu 20) bK (top 18):=stM λZ Z Z Z Z Z=>Hd.xy λZ Z Z=>rfl
abbrev XH:eE:=zx2 (zu 20) bK 18 gU::XG
def uG:cH (Γ.at XH gU) (zu 28) bM (top 19):=stM λZ Z Z Z Z Z=>Hd.Qo λZ Z Z Z=>rfl
abbrev XI:eE:=zx2 (zu 28) bM 19 gU::XH
def i7:cH (Γ.at XI gU) (zu 16) bG (top 16):=stM λZ Z Z Z Z Z=>Hd.Dj λZ Z=>rfl
abbrev XJ:eE:=zx2 (zu 16) bG 16 gU::XI
def qO:cH (Γ.at XJ gU) (zu 17) bT (top 20):=stM λZ Z Z Z Z Z=>Hd.xy λZ Z Z=>rfl
abbrev XM:eE:=zx2 (zu 17) bT 20 gU::XJ
def wW:cH (Γ.at XM gU) (zu 50) dY (top 21):=stM λZ Z Z Z Z Z=>Hd.xy λZ Z Z=>rfl
abbrev XN:eE:=zx2 (zu 50) dY 21 gU::XM
def iE:cH (Γ.at XN gS) "spread" bL (top 23):=stM λZ Z Z Z Z Z=>Hd.Dj λZ Z=>rfl
abbrev XO:eE:={zu 43,"spread",bL,top 23,gS}::XN
def uF:cH (Γ.at XO gS) (zu 41) dH (top 25):=stM λZ Z Z Z Z Z=>Hd.xy λZ Z Z=>rfl
abbrev XQ:eE:=zx2 (zu 41) dH 25 gS::XO
def kH:cH (Γ.at XQ gU) (zu 3) aF (top 28):=stM λZ Z Z Z Z Z=>Hd.xy λZ Z Z=>rfl
abbrev XR:eE:=zx2 (zu 3) aF 28 gU::XQ
def nt:cH (Γ.at XR gU) (zu 8) bz (top 29):=stM λZ Z Z Z Z Z=>Hd.Qo λZ Z Z Z=>rfl
abbrev XS:eE:=zx2 (zu 8) bz 29 gU::XR
def GY:cH (Γ.at XS gU) "field" d8 (top 30):=stM λZ Z Z Z Z Z=>Hd.xy λZ Z Z=>rfl
abbrev XT:eE:=zx2 "field" d8 30 gU::XS
def K4:cH (Γ.at XT gU) "lead" fy (top 31):=stM λZ Z Z Z Z Z=>Hd.Qo λZ Z Z Z=>rfl
abbrev XU:eE:=zx2 "lead" fy 31 gU::XT
def gL:cH (Γ.at XU gS) "spread" bB (top 23):=stM λZ Z Z Z Z Z=>Hd.Dj λZ Z=>rfl
abbrev XW:eE:={zu 34,"spread",bB,top 23,gS}::XU
def qb:cH (Γ.at XW gS) (zu 24) bW (top 24):=stM λZ Z Z Z Z Z=>Hd.xy λZ Z Z=>rfl
abbrev XX:eE:=zx2 (zu 24) bW 24 gS::XW
def mR:cH (Γ.at XX gU) (zu 26) bj (top 32):=stM λZ Z Z Z Z Z=>Hd.Qo λZ Z Z Z=>rfl
abbrev XY:eE:=zx2 (zu 26) bj 32 gU::XX
def qL:cH (Γ.at XY gU) (zu 9) aK (top 46):=stM λZ Z Z Z Z Z=>Hd.ZI λZ Z Z Z Z=>rfl
abbrev XZ:eE:=zx2 (zu 9) aK 46 gU::XY
def wU:cH (Γ.at XZ gU) (zu 57) dc (top 43):=stM λZ Z Z Z Z Z=>Hd.xy λZ Z Z=>rfl
abbrev X0:eE:=zx2 (zu 57) dc 43 gU::XZ
def uA:cH (Γ.at X0 gU) (zu 42) cL (top 48):=stM λZ Z Z Z Z Z=>Hd.MF λZ=>rfl
abbrev Ue:eE:=zx2 (zu 42) cL 48 gU::X0
def PR:cH (Γ.at Ue gU) "law" rB (top 49):=stM λZ Z Z Z Z Z=>Hd.MF λZ=>rfl
def mj(P:Params):iq (K P) 163 159:={Hd.co "spread" 386 63 2 158 (.ref 160) (.ref 161) 162 398,_,_,_,_,_,_,_,_,by kernel_rfl,rfl,rfl,rfl,rfl,rfl,rfl,rfl,rfl,by decide}
def kW(P:Params):iq (K P) 177 173:={Hd.co (zu 41) 412 79 3 172 (.ref 174) (.ref 175) 176 421,_,_,_,_,_,_,_,_,by kernel_rfl,rfl,rfl,rfl,rfl,rfl,rfl,rfl,rfl,by decide}
def iR(P:Params):iq (K P) 170 166:={Hd.co (zu 24) 401 76 3 165 (.ref 167) (.ref 168) 169 409,_,_,_,_,_,_,_,_,by kernel_rfl,rfl,rfl,rfl,rfl,rfl,rfl,rfl,rfl,by decide}
def Sh(ns:List Int)(hl:ns.length<=63):ax (den (tab Ue)) rB [.lst (ns.map .int)]=.ok (.bl gS):=Sf ns hl
def Vz(P:Params):AllK (K P) ts Γ Ue:=
 Hd.ac (Hd.ent 309 308 m4) uA <| Hd.ac (Hd.ent 278 277 m4) wU <| Hd.ac (Hd.ent 299 298 m4) qL <| Hd.ac (Hd.ent 216 215 m3) mR <| Hd.ac (Hd.IK 171 170 166 m2 (iR P) (by decide+kernel) (by decide+kernel)) qb <| Hd.ac (Hd.IK 164 163 159 m2 (mj P) (by decide+kernel) (by decide+kernel)) gL <| Hd.ac (Hd.ent 211 210 m3) K4 <| Hd.ac (Hd.ent 204 203 m3) GY <| Hd.ac (Hd.ent 199 198 m3) nt <| Hd.ac (Hd.ent 192 191 m3) kH <| Hd.ac (Hd.IK 178 177 173 m2 (kW P) (by decide+kernel) (by decide+kernel)) uF <| Hd.ac (Hd.IK 164 163 159 m2 (mj P) (by decide+kernel) (by decide+kernel)) iE <| Hd.ac (Hd.ent 157 156 m1) wW <| Hd.ac (Hd.ent 152 151 m1) qO <| Hd.ac (Hd.ent 124 123 m1) i7 <| Hd.ac (Hd.ent 145 144 m1) uG <| Hd.ac (Hd.ent 138 137 m1) ju <| Hd.ac (Hd.ent 117 116 m1) uD <| Hd.ac (Hd.ent 131 130 m1) qM <| Hd.ac (Hd.ent 185 184 m3) qN <| Hd.ac (Hd.ent 110 109 m1) uE <| Hd.ac (Hd.ent 103 102 m1) yD <| Hd.ac (Hd.ent 96 95 m1) qa <| Hd.ac (Hd.ent 89 88 m1) yE <| Hd.ac (Hd.ent 285 284 m4) uC <| Hd.ac (Hd.ent 304 303 m4) qH <| Hd.ac (Hd.ent 273 272 m4) mQ <| Hd.ac (Hd.ent 263 262 m4) qK <| Hd.ac (Hd.ent 256 255 m4) uz <| Hd.ac (Hd.ent 292 291 m4) mP <| Hd.ac (Hd.ent 249 248 m4) qJ <| Hd.ac (Hd.ent 244 243 m4) p9 <| Hd.ac (Hd.ent 237 236 m4) qI <| Hd.ac (Hd.ent 230 229 m4) uB <| Hd.ac (Hd.ent 223 222 m4) uy <| Hd.ac (Hd.ent 82 81 m1) wV trivial
structure QM(K:zz8)(d:Str)(D:hF):Prop where
 e:PySem.W.nsIn K iv d=gF (gF (.ref D))
 xc:oh K D
 vt:PySem.W.kitOne K (.ref D) (.type (zu 0))=gF gS
 ex:PySem.W.excIn K D Ec (zu 18)=gS
def VF{K:zz8}{d:Str}{D:hF}(e:PySem.W.nsIn K iv d=gF (gF (.ref D)):=by kernel_rfl)(i:PySem.W.isClsIn K D=gS:=by kernel_rfl)(v:PySem.W.subIn K (.ref D) (.type (zu 0))=gF gS:=by kernel_rfl)(ga:PySem.W.findIn K (.ref D) "__getattribute__"=gF (gF (.builtin (zu 5))):=by kernel_rfl)(hk:PySem.W.findIn K (.ref D) "__getattr__"=gF gK:=by kernel_rfl)
 (cl:PySem.W.findIn K (.ref D) "__class__"=gF (gF (.builtin (zu 36))):=by kernel_rfl) (mo:PySem.W.mroIn K D (.type "object")=gF gS:=by kernel_rfl) (mb:PySem.W.mroIn K D (.type (zu 27))=gF gS:=by kernel_rfl) (ex:PySem.W.excIn K D Ec (zu 18)=gS:=by kernel_rfl):QM K d D:=
 {e,⟨ga,hk,cl,mo,mb,i⟩,E8 (by decide+kernel) v,ex}
def WH(P:Params)(X:(K P).In h)(G:h.Ns iv mg):xr (K P) mg Γ {K P,mg,[zu 23],ts}:=by
 have b:∀{x:Str} {u:hB},PySem.W.nsIn (K P) iv x=gF (gF u)->mg x=gF u:=λa=>PySem.W.mg_of X G a;have f:∀{x:Str},PySem.W.nsIn (K P) iv x=gF gK->mg x=gK:=λa=>PySem.W.mg_none_of X G a;have k:QM (K P) (zu 23) 37:=VF;have m:PySem.W.nsIn (K P) iv (zu 12)=gF (gF (.ref 24)):=by kernel_rfl
 have p:PySem.W.nsIn (K P) iv "NoSign"=gF (gF (.ref 61)):=by kernel_rfl
 have r:PySem.W.nsIn (K P) iv "NoSize"=gF (gF (.ref 73)):=by kernel_rfl
 have t:PySem.W.nsIn (K P) iv "NoWay"=gF (gF (.ref 49)):=by kernel_rfl
 refine{rfl,rfl,λq w=>?_,λg y=>?_,by decide+kernel,λc j=>?_,λd hd D o=>?_,λc j=>?_,λc j=>?_,λZ c D j o T z=>?_,λZ=>{4,{.type "module",gF builtinsNs,.plain,#[]},b (by kernel_rfl),by decide,by decide,by kernel_rfl,rfl,rfl,rfl}}
 .simp! [Γ,ey,List.not_mem_nil,or_false] at w;rcases w with rfl|rfl|rfl
  .exact{.str "#" 273,.str "#",b (by kernel_rfl),{_,rfl},λG=>.s}
  .exact{.int 2 275,.int 2,b (by kernel_rfl),{_,rfl},λG=>.i}
  .exact{.int 3 277,.int 3,b (by kernel_rfl),{_,rfl},λG=>.i}
 .simp! [Γ,ey,List.not_mem_nil,or_false] at y;rcases y with rfl|rfl|rfl|rfl|rfl|rfl|rfl|rfl|rfl|rfl|rfl|rfl|rfl|rfl|rfl|rfl<;>exact f (by kernel_rfl)
 .simp! [Γ,ey,List.not_mem_nil,or_false] at j;rcases j with rfl|rfl|rfl|rfl|rfl
  .exact{_,b m}
  .exact{_,b p}
  .exact{_,b r}
  .exact{_,b k.e}
  .exact{_,b t}
 .simp! [ey,List.not_mem_nil,or_false] at hd;rcases hd with rfl
  .cases(b k.e).symm.trans o;refine{k.xc,λc j C hC=>?_,k.vt}
   simp! [Γ,ey,List.not_mem_nil,or_false] at j;rcases j with rfl|rfl|rfl|rfl|rfl
   .cases(b m).symm.trans hC;exact iV (by kernel_rfl) (by kernel_rfl) (by kernel_rfl) (.inl rfl)
   .cases(b p).symm.trans hC;exact iV (by kernel_rfl) (by kernel_rfl) (by kernel_rfl) (.inr (by decide))
   .cases(b r).symm.trans hC;exact iV (by kernel_rfl) (by kernel_rfl) (by kernel_rfl) (.inr (by decide))
   .cases(b k.e).symm.trans hC;exact iV (by kernel_rfl) (by kernel_rfl) (by kernel_rfl) (.inl rfl)
   .cases(b t).symm.trans hC;exact iV (by kernel_rfl) (by kernel_rfl) (by kernel_rfl) (.inr (by decide))
 .simp! [Γ,eG,ey,List.not_mem_nil,or_false] at j⊢;exact j
 .simp! [Γ,eG,ey,List.not_mem_nil,or_false] at j;rcases j with rfl
  .exact{_,b k.e,k.ex}
 .simp! [ey,List.not_mem_nil,or_false] at j;cases(b m).symm.trans z;rcases j with rfl
  .cases(b k.e).symm.trans o;exact Ee (by kernel_rfl) (by kernel_rfl) (by kernel_rfl) (by kernel_rfl)
def hY{P:Params}(X:(K2 P).In h):(K P).In h/\∀p∈ts.map (·.1),h.get? p=gF (PySem.W.tabObj #[]):={λb o e=>X b o (Hd.Fm e),λp a=>by simp! [ts,a7,List.map_nil,ey,List.not_mem_nil,or_false] at a;rcases a with rfl|rfl|rfl<;>exact X _ _ (by kernel_rfl)
}
def hC(P:Params):∀p∈ts.map (·.1),(∃c,iq (K P) c p)/\(K P).lookup p=gK:=λp a=>by
 simp! [ts,a7,List.map_nil,ey,List.not_mem_nil,or_false] at a;rcases a with rfl|rfl|rfl
 .exact{{_,mj P},by kernel_rfl}
 .exact{{_,kW P},by kernel_rfl}
 .exact{{_,iR P},by kernel_rfl}
abbrev keep:List Nat:=[1,2,3,4,5,7,8,9,10,11,12,13,14,15,16,17,18,19,20,21,23,24,25,27,28,29,30,31,32,34,35,36,37,38,39,40,41,42,43,44,45,46,47,48,49]
def ka:∀P,as=(K2 P).map (·.1):=λZ=>by kernel_rfl
def left:PySem.W.LeftO lw.row.prog (PySem.W.view lw.row.prog keep) [] (λs=>PySem.W.xlAt (PySem.W.view lw.row.prog keep) [] s&&PySem.W.recOk lw.row.toRowW.records s) (PySem.W.kHook K2 as ka).obs (PySem.W.kHook K2 as ka).val 4616:=by refine Hd.JH (T₀:=λP=>Hd.treeOf (PySem.W.boot_heap P).objs.toList) (m₀:=11) (life:={}) (ann:=gF (.ref 6)) (M:=4566) (by kernel_rfl) (by kernel_rfl) (λs=>by kernel_rfl) Hd.Ra Hd.Rb (by kernel_rfl) λw os=>?_;rw [PySem.W.Fast.te10156331382660048174,PySem.W.Fast.te11892475500146522536,PySem.W.Fast.te14364793385576792824,PySem.W.Fast.te6613529449190102663,PySem.W.Fast.te4187177175401517315,PySem.W.Fast.te5923862056798008813];kernel_rfl
end K50
open PySem.W PyProof.Rows
set_option maxRecDepth 100000 in
set_option maxHeartbeats 0 in
theorem PySem.Challenge.cw_cellways_k50_whole_field_holds : PySem.Challenge.rw_cellways_k50_whole_field.Holds := by
 refine Hd.holds (d:={"law",L2.dR (K50.top 49),L2.dj (K50.top 49),L2.br (K50.top 49),Hd.VI (K50.top 49)}) (by kernel_rfl) K50.ka K50.left (by kernel_rfl) (by kernel_rfl) (by kernel_rfl) (by kernel_rfl) {rfl,rfl,rfl,rfl,rfl,by decide+kernel} ?hw ?a
 case hw=>w_witness2
 case a=>exact Ci.walk (l:=PySem.Challenge.rw_cellways_k50_whole_field) K50.Ue K50.Γ (zu 45) K50.rB [zu 23] K50.ts (K50.top 49) gU rfl rfl rfl rfl rfl {λZ=>rfl,by decide,by decide} (λw h Y=>K50.hY (PySem.W.kIn_of Y)) (λw=>K50.hC w.params) (λw mg h b G=>K50.WH _ b G) (λw=>Hd.ent 314 313 K50.m4) K50.PR (List.cons_ne_nil _ _) (λw=>K50.Vz _) K50.Sh
#print axioms PySem.Challenge.cw_cellways_k50_whole_field_holds
