import PyProof.Rows.All
import Wide.All
import OpenK.AllK
import Wide.FinOn
import Lean
import PyProof.EqAt
import PyProof.EqKinds
import PyProof.TupleCall
import PySem.Challenge.RW_cellways_k75_atlases_refused
set_option Elab.async false
set_option tactic.hygienic false
set_option linter.all false
set_option genSizeOf false
set_option genSizeOfSpec false
set_option bootstrap.genMatcherCode false
set_option compiler.extract_closed false
set_option compiler.reuse false
set_option maxRecDepth 100000
abbrev zz8:=PySem.W.Frag
local macro_rules | `(zz9 $x) => `(($x).heap.objs.size)
local macro_rules | `(tactic| simp! [$x,*] $[$l:location]?) => `(tactic| simp only [$x,*] $[$l]?)
theorem zzf:¬false=true:=Bool.false_ne_true
theorem zza(a b:Bool):((a&&b)=true)=(a=true/\b=true):=Bool.and_eq_true a b
theorem zzg.{u}{a:Type u}{l:List a}{i:Nat}(h:i<l.length):l[i]?=some l[i]:=List.getElem?_eq_getElem h
theorem zzl.{u,v}{a:Type u}{b:Type v}{l:List a}(f:a->b):(l.map f).length=l.length:=List.length_map f
def zzN:=@decide_eq_true_eq
def zzY:=@of_decide_eq_true
def zzh:=@decide_eq_true
def zzq:=@Option.some.inj
def zzy:=@beq_iff_eq
def zz0:=@decide_eq_false
open PySem renaming wpAny_bind→ar,wpAny_pure→bp,Value→ix,Shared→iM,Addr→iN,Expr→iO,wpAny→i1,Program→i2,World→i3,model→jj,Around→j0,Scope→j1,Heap→j2,sizeLine→j3,Stmt→j7,mainGlobals→kd,Builtin→kr,cellsFrom→ku
open PySem.Heap renaming get?_push_of_some→aT,lt_size→bZ,get?_push_size→dI
open List renaming size_toArray→a5,mem_of_getElem?→a7,map_cons→bc,getElem?_eq_some_iff→br,mem_cons_of_mem→bw,getD_eq_getElem?_getD→bD,length_cons→bE,length_append→bF,mem_cons_self→b4,getElem?_map→cz,mem_append_right→cD,getElem?_set_ne→cK,all_eq_true→cP,mem_append_left→d0,mem_singleton→d3,any_eq_true→ej,mem_cons→el,contains_iff_mem→eu,getElem?_set_self→ew,getElem?_append_left→eH,getElem?_append_right→eO,mem_map→fx,mem_filterMap→fP,filter_cons→hB,lookup_cons→hF,append_nil→hG,replicate→k6
open Nat renaming le_refl→a8,le_trans→c0,lt_of_le_of_lt→c7,lt_of_lt_of_le→dq,ne_of_lt→dV
open Option renaming map_eq_some_iff→bC,bind_eq_some_iff→dJ,isSome_iff_exists→ey,some→hT,none→ie
open Array renaming length_toList→d1,getElem?_eq_getElem→fR
open Bool renaming false_eq_true→d2,or_eq_true→e6,true→ig,false→iv
open False renaming elim→ek
open PySem.Heap.SameBut renaming update→fq
open Int renaming toNat_natCast→hD
open PySem.Around renaming under_plainId→hI
open And renaming intro→kv
open PyProof.Rows renaming seqObj→lb
abbrev lq:=PySem.Value->PySem.Shared->Prop
abbrev lu:=List (PySem.Addr×PySem.Obj)
abbrev ly:=List (List Int)
abbrev lH:=List Int->List Int->Int->Prop
local macro_rules|`(zx6 $x)=>`(by simpa using $x)
def zy0:Nat->Lean.Syntax->Lean.MacroM (Lean.TSyntax `rcasesPat)
 |n+1,t=>do match t with
  |`(($a,$b,*))=>let q<-(#[a]++b.getElems).mapM fun x=>do`(Lean.Parser.Tactic.rcasesPatLo|$(<-zy0 n x):rcasesPat)
                 `(rcasesPat|⟨$q,*⟩)
  |`($x:ident)=>`(rcasesPat|$x:ident)
  |`(_)=>`(rcasesPat|_)
  |_=>Lean.Macro.throwUnsupported
 |_,_=>Lean.Macro.throwUnsupported
local macro_rules|`(tactic|let $p:term:=$e)=>do let q<-zy0 19 p;let k:=Lean.mkIdent (.mkSimple s!"K{hash (toString p.raw)%997}");if q.raw[1].getNumArgs<4 then`(tactic|obtain $q:rcasesPat:=$e)else`(tactic|first|(refine Classical.byContradiction fun $k=>?_;obtain $q:rcasesPat:=$e;refine $k ?_;clear $k)|obtain $q:rcasesPat:=$e)
local macro_rules(kind:=«term{_}»)|`({$x,*})=>`(⟨$x,*⟩)
open PySem
variable{us:List ix}{a:iN}{o:Obj}{u:ix}{P prog:i2}{w:i3}{h base h':j2}{t' j x1:Nat}{x c f qual:Str}{e d p po:iO}{N ks:List Str}{A:j0}{aa:lu}{pos np:Pos}{mg:Str->Option ix}{outer:List Env}{items:Array ix}{st:j7}{cl:List (Str×iN)}{elts:List iO}
local macro_rules|`(zx7 $x $y*)=>`(PySem.wpAny (PySem.model ($x).prog ($x).w) ($x).A $y*)
local macro_rules|`(abbrev $i:declId $s:optDeclSig:=$v)=>`(noncomputable def $i $s:optDeclSig:=$v)|`(abbrev $i:declId $s:optDeclSig $v:declValEqns)=>`(noncomputable def $i $s:optDeclSig $v:declValEqns)
set_option hygiene false
local macro_rules|`(zv0 $x)=>`(cU (cR P w) P w K mg base N qual scope f cd A outer s0 H0 $x)
local macro_rules|`(zv1 $x)=>`(eU Γ Δ F1 F2 W N sc k E $x)
local macro_rules|`(zv2 $x)=>`(dE Γ F W N sc k E $x)
local macro_rules|`(zv3 $x)=>`(Inv X aa σ H $x)
local macro_rules|`(zv4 $x)=>`(dz Γ F W N sc k $x)
local macro_rules|`(zv5 $x)=>`(dg W obe Ge He env σ s ob H0 G $x)
set_option hygiene true
open PySem
set_option hygiene false
local macro_rules|`(zx2 $a $b $c $d)=>`(⟨$a,$a,$b,K75.top $c,$d⟩)
local macro_rules|`(zx5 $a $n $b $c $d $e $f)=>do let k:=(⟨e.raw⟩:Lean.NumLit).getNat;`(($a,Hd.co $n $b $c $d $e (.ref $(Lean.quote (k+2))) (.ref $(Lean.quote (k+3))) $(Lean.quote (k+4)) $f))|`(zx3 $a $n $c $m)=>do let k:=(⟨a.raw⟩:Lean.NumLit).getNat;`(($a,Hd.fo $n (K75.top $c) $m $(Lean.quote (k-1))))
set_option hygiene true
local macro_rules|`(zu $n)=>return Lean.Syntax.mkStrLit (("/claim/cut.py|ValueError|ValueError.__new__|__static_attributes__|BaseException.__getattribute__|enumerate|BaseException|FloorError|reversed|__firstlineno__|__init__|_law_told|cellways.errors|_law_class|_law_pick|abcdefghijklmnopqrstuvwxyz|<lambda>|isinstance|__debug__|__module__|StopIteration|mirrored_floor|object.__class__|reversed.__length_hint__|floor_of|Exception|need_on_floor|__name__|tuple_iterator|turned_floor|need_name|_law_cell|is_on_floor|object|__next__|__doc__|NoFloor|Atlas.floor_of|Atlas.__init__".splitOn "|")[(⟨n.raw⟩:Lean.NumLit).getNat]!)
namespace L2
open PySem.Spec PyProof.Rows
noncomputable abbrev Key:=Sum Int Str
abbrev pM:Key->ix->Bool
 |.inl k,v=>ix.isInt k v|.inr x,v=>ix.isStrOf x v
abbrev QH(w:i3):Key->Int
 |.inl k=>hashInt k|.inr x=>hashStr w x
theorem bo:∀{k:Key} {v:ix},pM k v=ig->(∃i t,k=Sum.inl i/\v=ix.int i t)\/(∃x t,k=Sum.inr x/\v=ix.str x t)
 |.inl i,v,h=>by let(t,e):=ix.isInt_shape (k:=i) (v:=v) h;exact .inl ⟨i,t,rfl,e⟩|.inr x,v,h=>by let(t,e):=ix.isStrOf_shape (x:=x) (v:=v) h;exact .inr ⟨x,t,rfl,e⟩
def yX(i:Int)(t:Tok):pM (.inl i) (.int i t)=ig:=by simp [pM,ix.isInt]
def yY(x:Str)(t:Tok):pM (.inr x) (.str x t)=ig:=by simp [pM,ix.isStrOf]
def JM(a b:Int):decide ((Sum.inl a:Key)=Sum.inl b)=(a==b):=by
 by_cases e:a=b
 .subst e;simp
 .have h:¬(Sum.inl a:Key)=Sum.inl b:=λq=>e (Sum.inl.inj q);rw [zz0 h];exact(beq_eq_false_iff_ne.mpr e).symm
def JP(a b:Str):decide ((Sum.inr a:Key)=Sum.inr b)=decide (a=b):=by
 by_cases e:a=b
 .subst e;simp
 .have h:¬(Sum.inr a:Key)=Sum.inr b:=λq=>e (Sum.inr.inj q);rw [zz0 h,zz0 e]
def JN(a:Int)(b:Str):decide ((Sum.inl a:Key)=Sum.inr b)=iv:=zz0 nofun
def JO(a:Str)(b:Int):decide ((Sum.inr a:Key)=Sum.inl b)=iv:=zz0 nofun
noncomputable def aY(prog:i2)(w:i3):PySem.KeyKind prog w Key where
 is:=pM
 hash:=QH w
 inj:=λv a b g f=>by
  rcases bo g with⟨i,t,rfl,rfl⟩|⟨x,t,rfl,rfl⟩
  .rcases bo f with⟨j,u,rfl,e⟩|⟨y,u,rfl,e⟩
   .injection e with c _;rw [c]
   .exact nomatch e
  .rcases bo f with⟨j,u,rfl,e⟩|⟨y,u,rfl,e⟩
   .exact nomatch e
   .injection e with c _;rw [c]
 byValue:=λk v h=>by rcases bo h with⟨i,t,rfl,rfl⟩|⟨x,t,rfl,rfl⟩<;>rfl
 pyHash:=λd h=>by
  rcases bo d with⟨i,t,rfl,rfl⟩|⟨x,t,rfl,rfl⟩
  .exact wpAny_pyHash_int h
  .exact wpAny_pyHash_str h
 eqBool:=λm d h=>by
  rcases bo m with⟨i,t,rfl,rfl⟩|⟨x,t,rfl,rfl⟩
  .rcases bo d with⟨j,u,rfl,rfl⟩|⟨y,u,rfl,rfl⟩
   .rw [JM] at h;exact wpAny_eqBool_int h
   .rw [JN] at h;exact SeqAt.EqAt.int_str i t y u _ _ _ _ h
  .rcases bo d with⟨j,u,rfl,rfl⟩|⟨y,u,rfl,rfl⟩
   .rw [JO] at h;exact SeqAt.EqAt.str_int x t j u _ _ _ _ h
   .rw [JP] at h;exact wpAny_eqBool_str h
 «strs»:=λk x t v h=>by
  rcases bo h with⟨i,u,rfl,e⟩|⟨y,u,rfl,e⟩
  .exact nomatch e
  .injection e with c _
   subst c;cases v<;>rfl
def tZ(prog:i2)(w:i3)(i:Int)(t:Tok):(aY prog w).is (.inl i) (.int i t)=ig:=yX i t
def t5(prog:i2)(w:i3)(x:Str)(t:Tok):(aY prog w).is (.inr x) (.str x t)=ig:=yY x t
inductive V where
 |aE|bl (b:Bool)|int (i:Int)|str (x:Str)|OB (b:Array UInt8)|OG (b:UInt64)|ref (a:iN)|ty (n:String)
 deriving DecidableEq
variable{v:V}{vs:List V}
def RelV:V->ix->Prop
 |.aE,u=>u=ix.none|.bl b,u=>u=ix.bool b|.int i,u=>∃t,u=ix.int i t|.str x,u=>∃t,u=ix.str x t|.OB b,u=>∃t,u=ix.bytes b t|.OG b,u=>∃t,u=ix.float b t|.ref a,u=>u=ix.ref a|.ty n,u=>u=ix.type n
noncomputable abbrev Vals:List V->List ix->Prop:=Paired RelV
def Vals.length{xs:List V}(r:Vals xs us):xs.length=us.length:=Paired.length r
theorem Vals.get:∀{xs:List V} {us:List ix} {i:Nat} {x:V},Vals xs us->xs[i]?=hT x->∃u,us[i]?=hT u/\RelV x u
 |_,_,_,_,.nil,e=>by simp at e|_,_,0,_,.cons r _,e=>by simp at e;subst e;exact{_,rfl,r}|_,_,i+1,x,.cons _ t,e=>by let(u,a,b):=Vals.get (i:=i) (x:=x) t (zx6 e);exact{u,zx6 a,b}
theorem Vals.append:∀{xs ys:List V} {us ws:List ix},Vals xs us->Vals ys ws->Vals (xs++ys) (us++ws)
 |_,_,_,_,.nil,s=>s|_,_,_,_,.cons r t,s=>.cons r (Vals.append t s)
theorem Vals.take:∀{xs:List V} {us:List ix} (n:Nat),Vals xs us->Vals (xs.take n) (us.take n)
 |_,_,0,_=>.nil|_,_,_+1,.nil=>.nil|_,_,n+1,.cons r t=>.cons r (Vals.take n t)
theorem Vals.drop:∀{xs:List V} {us:List ix} (n:Nat),Vals xs us->Vals (xs.drop n) (us.drop n)
 |_,_,0,r=>r|_,_,_+1,.nil=>.nil|_,_,n+1,.cons _ t=>Vals.drop n t
def fX:Option V->Option ix->Prop
 |some v,hT u=>RelV v u|none,ie=>True|_,_=>False
def KV{a:Type}:List (a×V)->List (a×ix)->Prop:=Paired λ(p:a×V) (q:a×ix)=>p.1=q.1/\RelV p.2 q.2
abbrev kV:Key->V
 |.inl i=>.int i|.inr x=>.str x
inductive HO where
 |lst (xs:List V)
 |tup (xs:List V)
 |dK (ax:List (Key×V))|dT (ax:List (List Key×V))
 |set (S:Int->Bool) (n:Nat)
 |ins (C dx:iN) (fs:List (Str×V))
 |own (x:iN)
 |xd (fs:List (Str×V))
 |met (f x:iN)
 |xS (lo hi:Int)
 |bL (o:Obj) (u:HO)
 |fj (ps:Array ix)
 |ext (φ:j2->Prop)
noncomputable abbrev Hp:=iN->Option HO
variable{H G H1 H0:Hp}
abbrev upd(H:Hp)(a:iN)(o:HO):Hp:=λb=>if b=a then hT o else H b
def ak{o:HO}:upd H a o a=hT o:=by unfold upd;rw [if_pos rfl]
def ae{b:iN}{o:HO}(h:b≠a):upd H a o b=H b:=by unfold upd;rw [if_neg h]
def x8{o u:HO}:upd (upd H a o) a u=upd H a u:=by funext b;unfold upd;split<;>rfl
def t6{b:iN}{o u:HO}(h:H a=hT o)(h':H b=hT u)(d:o≠u):a≠b:=by intro e;subst e;rw [h] at h';exact d (zzq h')
def bq{b:iN}{o:HO}(h:H a=hT o)(h':H b=ie):a≠b:=by intro e;subst e;rw [h] at h';cases h'
section
variable(P:i2)(w:i3)
def bB(H:Hp)(h:j2)(a:iN):HO->Prop
 |.lst xs=>xs.length<=j3/\∃(c:List ix) (n:Nat),Vals xs c/\h.get? a=hT {cls:=.type "list",data:=.seq c.toArray n}|.tup xs=>xs.length<=j3/\∃c:List ix,Vals xs c/\IsTup h a c.toArray|.dK d=>d.length<=j3/\(a==sysModules)=iv/\∃vs,KV d vs/\h.DictOf (aY P w) a vs|.dT d=>d.length<=j3/\(a==sysModules)=iv/\∃xs:List (List Key×iN×ix),
  Paired (λ(p:List Key×V) (q:List Key×iN×ix)=>p.1=q.1/\H q.2.1=hT (.tup (p.1.map kV))/\RelV p.2 q.2.2) d xs/\
  ∃o g k,h.get? a=hT o/\o.ExactDict/\o.data=.dict g k/\g.toList=xs.map (entryOfKey (tupleKind (aY P w)))/\(xs.map (·.1)).Nodup
 |.set S n=>h.SetOf (intKind P w) a S n|.ins C dx fs=>H dx=hT (.own a)/\fs.length<=1000/\dx≠a/\h.get? a=hT (PySem.W.instObj C dx)/\
  ∃b,h.Ns1 dx b/\(∀f,fX (fs.lookup f) (b f))/\PySem.Within b (fs.map (·.1))
 |.own _=>∃o,h.get? a=hT o|.xd fs=>∃b,h.Ns1 a b/\∀f,fX (fs.lookup f) (b f)|.xS lo m=>∃t u v,h.get? a=hT {cls:=.type "range",data:=.fields #[.int lo t,.int m u,.int 1 v]}|.bL o u=>h.get? a=hT o/\bB H h a u|.fj ps=>h.get? a=hT {cls:=.none,data:=.fields ps}|.met f x=>h.get? a=hT (PySem.W.methodObj (.ref f) (.ref x))|.ext e=>e h/\(∃o,h.get? a=hT o)/\∀i j:j2,e i->(∀o,i.get? a=hT o->j.get? a=hT o)->e j
def d4(H:Hp)(h:j2):Prop:=∀a o,H a=hT o->bB P w H h a o
end
section
variable{H':Hp}{o:HO}
def bB.lt(x:bB P w H h a o):a<h.objs.size:=by
 cases o with
 |lst xs=>let(_,_,_,_,e):=x;exact bZ e|tup xs=>let(_,_,_,p):=x;exact p.lt|dK b=>let(_,_,_,_,o,_,_,e,_):=x;exact bZ e|dT b=>let(_,_,_,_,o,_,_,e,_):=x;exact bZ e|set S n=>let(o,_,_,_,e,_):=x;exact bZ e|ins C dx fs=>let(_,_,_,e,_):=x;exact bZ e|own y=>let(_,e):=x;exact bZ e|xd fs=>let(_,(_,_,_,e,_),_):=x;exact bZ e|xS lo c=>let(_,_,_,e):=x;exact bZ e|bL ob u=>let(e,_):=x;exact bZ e|fj d=>exact bZ (show h.get? a=hT _ from x)|met f y=>exact bZ (show h.get? a=hT _ from x)|ext g=>let(_,(_,e),_):=x;exact bZ e
theorem Paired.BX{e g:Type}{F G:e->g->Prop}:∀{c:List e} {d:List g},Paired F c d->(∀a b,F a b->G a b)->Paired G c d
 |_,_,.nil,_=>.nil|_,_,.cons r t,f=>.cons (f _ _ r) (Paired.BX t f)
def bB.ef(x:bB P w H h a o)(k:∀b u,(b=a\/H b=hT (.own a))->h.get? b=hT u->h'.get? b=hT u)
 (B:∀b,H b=hT (.own a)->H' b=hT (.own a)) (D:∀b xs,H b=hT (.tup xs)->H' b=hT (.tup xs)):bB P w H' h' a o:=by
 induction o with
 |lst xs=>let(z,j,n,r,e):=x;exact{z,j,n,r,k _ _ (.inl rfl) e}|tup xs=>let(z,j,r,ob,e,c):=x;exact{z,j,r,ob,k _ _ (.inl rfl) e,c}|dK E=>let(z,y,F,r,ob,g,i,e,c):=x;exact{z,y,F,r,ob,g,i,k _ _ (.inl rfl) e,c}|dT E=>let(z,y,xs,r,ob,g,i,e,c):=x;exact{z,y,xs,Paired.BX r λp q z=>{z.1,D _ _ z.2.1,z.2.2},ob,g,i,k _ _ (.inl rfl) e,c}|set S n=>let(ob,g,i,t,e,c):=x;exact{ob,g,i,t,k _ _ (.inl rfl) e,c}|ins C dx fs=>let(d,z,ne,e,m,(s,g,i,G,c),r):=x;exact{B _ d,z,ne,k _ _ (.inl rfl) e,m,{s,g,i,k _ _ (.inr d) G,c},r}|own y=>let(ob,e):=x;exact{ob,k _ _ (.inl rfl) e}|xd fs=>let(m,(s,g,i,e,c),r):=x;exact{m,{s,g,i,k _ _ (.inl rfl) e,c},r}|xS lo J=>let(t,u,v,e):=x;exact{t,u,v,k _ _ (.inl rfl) e}|bL ob u I=>let(e,q):=x;exact{k _ _ (.inl rfl) e,I q}|fj A=>have e:h.get? a=hT {cls:=.none,data:=.fields A}:=x;show h'.get? a=hT {cls:=.none,data:=.fields A};exact k a _ (.inl rfl) e|met f y=>have e:h.get? a=hT (PySem.W.methodObj (.ref f) (.ref y)):=x;show h'.get? a=hT (PySem.W.methodObj (.ref f) (.ref y));exact k a _ (.inl rfl) e|ext K=>let(p,(o,e),st):=x;exact{st _ _ p λo q=>k _ _ (.inl rfl) q,{o,k _ _ (.inl rfl) e},st}
def d4.lt(x:d4 P w H h)(e:H a=hT o):a<h.objs.size:=(x a o e).lt
def d4.fresh(x:d4 P w H h)(e:h.objs.size<=a):H a=ie:=by
 cases q:H a with
 |none=>rfl|some u=>exact absurd (dq (x.lt q) e) (Nat.lt_irrefl _)
def d4.kept(x:d4 P w H h)(k:∀b u,h.get? b=hT u->h'.get? b=hT u):d4 P w H h':=λa o e=>(x a o e).ef (λb u Z q=>k b u q) (λZ q=>q) λZ Z q=>q
theorem d4.laid(x:d4 P w H h)(k:∀b u,h.get? b=hT u->h'.get? b=hT u)(g:h.objs.size<=a)(new:bB P w (upd H a o) h' a o):d4 P w (upd H a o) h':=λb u e=>by
 have d:=x.fresh g;by_cases f:b=a
 .subst f;rw [ak] at e;cases e;exact new
 .rw [ae f] at e;exact(x b u e).ef (λc v Z q=>k c v q) (λc q=>by rw [ae (bq q d)];exact q) λc xs q=>by rw [ae (bq q d)];exact q
end
def Rd(H:Hp)(a:iN)(u:HO):Prop:=H a=hT u\/∃o,H a=hT (.bL o u)
def Rd.ok{u:HO}(r:Rd H a u)(x:d4 P w H h):bB P w H h a u:=by
 rcases r with r|⟨o,r⟩
 .exact x a u r
 .let(_,q):=x a _ r;exact q
def L7:Option HO->Prop
 |some (.lst _)=>True|some (.dK _)=>True|some (.dT _)=>True|some (.set _ _)=>True|some (.ins _ _ _)=>True|some (.ext _)=>True|_=>False
section
variable{x e:iN}{o':HO}
def d4.write(ok:d4 P w H h)(d:L7 (H x))(he:e=x\/H e=hT (.own x))(k:∀b u,b≠e->h.get? b=hT u->h'.get? b=hT u)(m:∃u,h'.get? e=hT u)
 (new:bB P w (upd H x o') h' x o'):d4 P w (upd H x o') h':=λb u q=>by
 have i:∀c y,H c=hT (.own y)->c≠x:=λc y r z=>by subst z;rw [r] at d;exact d
 have o:∀c xs,H c=hT (.tup xs)->c≠x:=λc xs r z=>by subst z;rw [r] at d;exact d
 by_cases f:b=x
 .subst f;rw [ak] at q;cases q;exact new
 .rw [ae f] at q;by_cases a:b=e
  .have j:H b=hT (.own x):=by
    rcases he with z|z
    .exact absurd (a.trans z) f
    .rw [a];exact z
   rw [q] at j;cases j;let(v,p):=m;exact{v,by rw [a];exact p}
  .refine(ok b u q).ef (λc v g r=>k c v ?_ r) (λc r=>by rw [ae (i c b r)];exact r) λc xs r=>by rw [ae (o c xs r)];exact r
   rcases g with rfl|g
   .exact a
   .rintro rfl
    rcases he with z|z
    .exact i c b g z
    .rw [g] at z;cases z;exact f rfl
end
structure Un(fs ex:List iN)(H H':Hp)(h h':j2):Prop where
 keep:∀b o,h.get? b=hT o->H b=ie->b∉fs->b∉ex->h'.get? b=hT o
 slot:∀b o,h.get? b=hT o->H b=ie->b∈fs->b∉ex->∃sl,h'.get? b=hT {o with slots:=sl}
 free:∀b o,h.get? b=hT o->H b=ie->b∉ex->H' b=ie
 there:∀b o,h.get? b=hT o->b∉ex->∃o',h'.get? b=hT o'
 gc:∀b xs,H b=hT (.tup xs)->H' b=hT (.tup xs)
 e8:∀b o u,H b=hT (.bL o u)->H' b=hT (.bL o u)
 fS:∀b ps,H b=hT (.fj ps)->∃more,H' b=hT (.fj (ps++more))
section
variable{fs ex:List iN}{h1:j2}{x e:iN}{o:HO}
def Un.any(u:Un fs ex H H1 h h1){b:iN}{ob:Obj}(q:h.get? b=hT ob)(n:H b=ie)(c:b∉ex):∃f,h1.get? b=hT {ob with slots:=f}:=by
 by_cases d:b∈fs
 .exact u.slot b ob q n d c
 .exact{ob.slots,u.keep b ob q n d c}
def Un.kept(k:∀b u,h.get? b=hT u->h'.get? b=hT u):Un fs ex H H h h':=
 {λb ob q Z Z Z=>k b ob q,λb ob q Z Z Z=>{ob.slots,k b ob q},λZ Z Z n Z=>n,λb ob q Z=>{ob,k b ob q},λZ Z q=>q,λZ Z Z q=>q,λZ c q=>{#[],by rw [q];simp}}
def Un.refl:Un fs ex H H h h:=Un.kept λZ Z q=>q
theorem Un.laid(k:∀b u,h.get? b=hT u->h'.get? b=hT u)(c:h.objs.size<=a)(hn:H a=ie):Un fs ex H (upd H a o) h h' where
 keep:=λb u q Z Z Z=>k b u q
 slot:=λb u q Z Z Z=>{u.slots,k b u q}
 free:=λb u q n Z=>by rw [ae (dV (dq (bZ q) c))];exact n
 there:=λb u q Z=>{u,k b u q}
 gc:=λb xs q=>by rw [ae (bq q hn)];exact q
 e8:=λb u xs q=>by rw [ae (bq q hn)];exact q
 fS:=λb d q=>{#[],by rw [ae (bq q hn),q];simp}
def Un.write(d:L7 (H x))(he:e=x\/H e=hT (.own x))(k:∀b u,b≠e->h.get? b=hT u->h'.get? b=hT u)(i:∃u,h'.get? e=hT u):Un fs ex H (upd H x o) h h':=by
 have f:∀b,H b=ie->b≠x:=λb n z=>by subst z;rw [n] at d;exact d
 have g:∀b,H b=ie->b≠e:=λb n z=>by
  subst z;rcases he with r|r
  .exact f b n r
  .rw [n] at r;cases r
 have hm:∀b u,H b=hT u->¬L7 (hT u)->b≠x:=λb u q j z=>by subst z;rw [q] at d;exact j d
 refine{λb u q n Z Z=>k b u (g b n) q,λb u q n Z Z=>{u.slots,k b u (g b n) q},λb u q n Z=>by rw [ae (f b n)];exact n,λb u q Z=>?_,
  λb xs q=>by rw [ae (hm b _ q λz=>z)];exact q,λb u xs q=>by rw [ae (hm b _ q λz=>z)];exact q,λb m q=>{#[],by rw [ae (hm b _ q λz=>z),q];simp}}
 by_cases c:b=e
 .subst c;exact i
 .exact{u,k b u c q}
end
abbrev OY(h:j2)(H:Hp):List Addr:=(List.range h.objs.size).filter λa=>(H a).isSome
abbrev qH(h:j2)(H:Hp):Heap:=PySem.W.hideAll h (OY h H)
def yQ(h:j2)(H:Hp):(qH h H).objs.size=h.objs.size:=PySem.W.hideAll_size _ _
theorem Bv{b:iN}(e:h.get? b=hT o)(n:H b=ie):(qH h H).get? b=hT o:=
 PySem.W.hideAll_get _ e λhm=>by have q:(H b).isSome=ig:=(List.mem_filter.mp hm).2;rw [n] at q;simp at q
def FD{b:iN}(e:(qH h H).get? b=hT o):h.get? b=hT o/\H b=ie:=by
 have a:h.get? b=hT o:=PySem.W.of_hideAll (OY h H) e
 refine{a,?_};cases q:H b with
 |none=>rfl|some x=>have hm:b∈OY h H:=List.mem_filter.mpr {List.mem_range.mpr (bZ a),by simp [q]};have z:(qH h H).get? b=ie:=PySem.W.hideAll_none (OY h H) hm;rw [z] at e;cases e
abbrev Ea(g h:j2)(L:iN):lu:=(List.range h.objs.size).filterMap λa=>if a=L\/(g.get? a).isSome=ig then ie else(h.get? a).map λo=>(a,o)
abbrev rest(g h:j2)(L d:iN):lu:=(Ea g h L).filter λp=>decide (p.1≠d)
structure Mod(K:zz8)(mg:Str->Option ix)(base:j2):Prop where
 Fb:K.In base
 glob:base.Ns kd mg
 blt:∃mb,base.Ns builtinsNs mb/\∀x:Str,x≠(zu 27)->mb x=bootBuiltins x
 nolimit:base.NoLimit
structure Cx where
 prog:i2
 w:i3
 K:zz8
 mg:Str->Option ix
 base:j2
 A:j0
 N:List Str
 s₀:iM
 H₀:Hp
 env:Env
 outer:List Env
 stack:List Env
 ex:List iN
 fn:Str->Bool
 calm:Bool
 pn:lu
 xe:lq
variable{X:Cx}
abbrev d9(l:List Env):List Addr:=l.filterMap (·.frame)
noncomputable abbrev Cx.fs(X:Cx):List Addr:=d9 X.outer
def Mb(sc:j1)(x:Str):Prop:=sc.names.lookup x=hT .local\/sc.names.lookup x=hT .cell\/sc.names.lookup x=hT .free
def Loc(sc:j1)(x:Str):Prop:=sc.names.lookup x=hT .local\/sc.names.lookup x=hT .cell
def Look(env:Env)(h:j2)(m:Str->Option ix)(x:Str)(u:ix):Prop:=
 (env.kindOf x=hT .local/\m x=hT u)\/((env.kindOf x=hT .cell\/env.kindOf x=hT .free)/\∃c,env.cells.lookup x=hT c/\h.IsCell c (hT u))
structure Cx.Ok(X:Cx):Prop where
 mod:Mod X.K X.mg X.base
 kind:X.env.scope.kind=.function
 glob:X.env.globals=kd
 blt:X.env.builtins=builtinsNs
 above:X.s₀.heap.objs.size<=X.env.locals
 inj:∀x y c,X.env.cells.lookup x=hT c->X.env.cells.lookup y=hT c->x=y
 has:∀x,(X.env.kindOf x=hT .cell\/X.env.kindOf x=hT .free)->∃c,X.env.cells.lookup x=hT c
 HW:∀x c,X.fn x=ig->X.env.cells.lookup x=hT c->X.s₀.heap.objs.size<=c
 hd:X.calm=ig->X.A.handled=ie
 frames:X.A.frames=hT X.stack
 Ld:X.stack=X.outer\/(X.stack=X.env::X.outer/\X.env.frame=hT X.env.locals)
 PF:∀b∈X.ex,b≠X.env.locals/\∀x c,X.env.cells.lookup x=hT c->c≠b
 bs:∀b o,X.base.get? b=hT o->X.s₀.heap.get? b=hT o/\X.H₀ b=ie
 u6:X.base.objs.size<=X.s₀.heap.objs.size
 zo:∀b o,X.base.get? b=hT o->b∉X.ex
 A1:∀b∈X.ex,b∉X.fs
 f7:X.s₀.heap.FunFrames X.base X.outer
 vh:∀b∈X.fs,X.H₀ b=ie
structure Inv(X:Cx)(aa:lu)(σ:List (Option V))(H:Hp)(s:iM):Prop where
 ok:X.Ok
 os:s.os=X.s₀.os
 bare:AllBare s.gens
 base:Un X.fs X.ex X.H₀ H X.s₀.heap s.heap
 loc:∃m,s.heap.Ns X.env.locals m/\∀(i:Nat) (x:Str) (v:V),X.N[i]?=hT x->σ[i]?=hT (hT v)->Mb X.env.scope x->∃u,RelV v u/\Look X.env s.heap m x u
 cell:∀x c,X.env.cells.lookup x=hT c->∃v,s.heap.IsCell c v
 free:H X.env.locals=ie
 er:∀x c,X.env.cells.lookup x=hT c->H c=ie
 pin:∀p∈X.pn++aa,s.heap.get? p.1=hT p.2/\H p.1=ie/\p.1≠X.env.locals/\p.1∉X.fs/\∀v,p.2.data≠.cell v
 aJ:d4 X.prog X.w H s.heap
 len:σ.length=X.N.length
section
variable{σ:List (Option V)}{H':Hp}{s:iM}
theorem Cx.Ok.QU(ok:X.Ok){b:iN}(e:X.base.get? b=hT o):b∉X.fs:=λa=>by have:=(ok.f7.mem a).1;rw [e] at this;cases this
def Inv.bs(I:zv3 s):∀b o,X.base.get? b=hT o->s.heap.get? b=hT o/\H b=ie:=λb o e=>{I.base.keep b o (I.ok.bs b o e).1 (I.ok.bs b o e).2 (I.ok.QU e) (I.ok.zo b o e),I.base.free b o (I.ok.bs b o e).1 (I.ok.bs b o e).2 (I.ok.zo b o e)}
def Inv.bk(I:zv3 s):∀b o,X.base.get? b=hT o->s.heap.get? b=hT o:=λb o e=>(I.bs b o e).1
def Inv.mod(I:zv3 s):Mod X.K X.mg X.base:=I.ok.mod
def Inv.iR(I:zv3 s):X.K.In s.heap:=I.ok.mod.Fb.keeps I.bk
theorem Inv.fr(I:zv3 s):∃m,Fr X.base X.env.locals s.heap m:=
 let⟨m,a,_⟩:=I.loc
 {m,a,I.bk,c0 I.ok.u6 I.ok.above}
theorem Inv.lt(I:zv3 s):X.env.locals<(zz9 s):=let⟨_,a,_⟩:=I.loc;a.lt
def Inv.sz(I:zv3 s):X.s₀.heap.objs.size<=(zz9 s):=c0 I.ok.above (Nat.le_of_lt I.lt)
theorem Inv.QV(I:zv3 s)(h:(zz9 s)<=a):a∉X.fs:=λb=>by let(_,o,c,_):=I.ok.f7.mem b;exact absurd (dq (bZ c) (c0 I.sz h)) (Nat.lt_irrefl _)
theorem Inv.Ab(I:zv3 s):∀x c,X.env.cells.lookup x=hT c->c≠X.env.locals:=λx c e z=>by let(v,o,b,hd):=I.cell x c e;let(m,(f,g,h,d,a,_),_):=I.loc;rw [z,d] at b;cases b;rw [a] at hd;cases hd
def Inv.f7(I:zv3 s):s.heap.FunFrames X.base X.outer:=by
 have all:∀(l:List Env),(∀b∈d9 l,b∈X.fs)->X.s₀.heap.FunFrames X.base l->s.heap.FunFrames X.base l:=by
  intro l
  induction l with
  |nil=>intro _ _;trivial|cons env r f=>intro hs hl;let(hk,(L,o,a,g,h,hd),i):=hl;have c:L∈X.fs:=hs L (by unfold d9;rw [List.filterMap_cons,a];exact b4);let(j,e):=I.base.slot L o h (I.ok.vh L c) c λz=>I.ok.A1 L z c;exact{hk,{L,_,a,g,e,hd},f (λb d=>hs b (by unfold d9;rw [List.filterMap_cons,a];exact bw _ d)) i}
 exact all X.outer (λZ d=>d) I.ok.f7
def Inv.stack(I:zv3 s):s.heap.FunFrames X.base X.stack:=by
 rcases I.ok.Ld with e|⟨e,hf⟩
 .rw [e];exact I.f7
 .rw [e];let(m,a,_):=I.loc;refine .cons (by rw [I.ok.kind];decide) hf a ?_ I.f7;exact j2.get?_none_of_le (c0 I.ok.u6 I.ok.above)
def Inv.kP(I:zv3 s):∀b∈d9 X.stack,b∈X.env.locals::X.fs:=λb a=>by
 rcases I.ok.Ld with e|⟨e,hf⟩
 .rw [e] at a;exact bw _ a
 .rw [e] at a;unfold d9 at a;rw [List.filterMap_cons,hf] at a;exact a
theorem Inv.mi(I:zv3 s):∀b∈d9 X.stack,H b=ie:=λb a=>by
 rcases el.mp (I.kP b a) with e|a
 .rw [e];exact I.free
 .let(_,o,c,_):=I.ok.f7.mem a;exact I.base.free b o c (I.ok.vh b a) λz=>I.ok.A1 b z a
def Inv.step{g':Array GenState}{t':Nat}{d':Drawn}{ch:List iN}(I:zv3 s)
 (t:∀b∈ch,(b∈X.ex\/X.s₀.heap.objs.size<=b)/\b≠X.env.locals/\(∀x c,X.env.cells.lookup x=hT c->c≠b)/\∀p∈X.pn++aa,p.1≠b)
 (keep:∀b o,b≠X.env.locals->b∉X.fs->b∉ch->s.heap.get? b=hT o->H b=ie->h'.get? b=hT o)
 (slot:∀b o,b≠X.env.locals->b∈X.fs->b∉ch->s.heap.get? b=hT o->H b=ie->∃D,h'.get? b=hT {o with slots:=D}) (free:∀b o,b∉ch->s.heap.get? b=hT o->H b=ie->H' b=ie)
 (there:∀b o,b∉ch->s.heap.get? b=hT o->∃y,h'.get? b=hT y)
 (gc:∀b xs,H b=hT (.tup xs)->H' b=hT (.tup xs)) (e8:∀b o u,H b=hT (.bL o u)->H' b=hT (.bL o u)) (fS:∀b ps,H b=hT (.fj ps)->∃more,H' b=hT (.fj (ps++more)))
 (ns:∀m,s.heap.Ns X.env.locals m->h'.Ns X.env.locals m) (aJ:d4 X.prog X.w H' h') (M:AllBare g'):
 Inv X aa σ H' {s with heap:=h',gens:=g',drawn:=d',toks:=t'}:=by
 have G:∀b o,X.s₀.heap.get? b=hT o->b≠X.env.locals:=λb o e=>dV (dq (bZ e) I.ok.above)
 have C:∀b o,X.s₀.heap.get? b=hT o->b∉X.ex->b∉ch:=λb o e a h=>by
  rcases(t b h).1 with z|z
  .exact a z
  .exact absurd (dq (bZ e) z) (Nat.lt_irrefl _)
 have f:∀x c,X.env.cells.lookup x=hT c->∀v,s.heap.IsCell c v->h'.IsCell c v:=λx c e v E=>by
  let(o,j,hd):=E;have A:c∉ch:=λz=>(t c z).2.2.1 x c e rfl;by_cases J:c∈X.fs
  .let(D,q):=slot c o (I.Ab x c e) J A j (I.er x c e);exact{_,q,hd}
  .exact{o,keep c o (I.Ab x c e) J A j (I.er x c e),hd}
 refine{I.ok,I.os,M,{λb o e n h a=>?_,λb o e n h a=>?_,λb o e n a=>?_,λb o e a=>?_,λb xs e=>gc b xs (I.base.gc b xs e),λb o xs e=>e8 b o xs (I.base.e8 b o xs e),λb ps e=>?_},?_,λx c e=>?_,?_,λx c e=>?_,λp K=>?_,aJ,I.len}
 .exact keep b o (G b o e) h (C b o e a) (I.base.keep b o e n h a) (I.base.free b o e n a)
 .let(D,g):=I.base.slot b o e n h a;let(F,B):=slot b _ (G b o e) h (C b o e a) g (I.base.free b o e n a);exact⟨F,B⟩
 .let(y,g):=I.base.there b o e a;exact free b y (C b o e a) g (I.base.free b o e n a)
 .let(y,g):=I.base.there b o e a;exact there b y (C b o e a) g
 .let(m1,g):=I.base.fS b ps e;let(m2,B):=fS b _ g;exact{m1++m2,by rw [B,Array.append_assoc]}
 .let(m,N,hl):=I.loc;refine{m,ns m N,λi x v g B O=>?_};let(u,r,l):=hl i x v g B O
  refine{u,r,?_};rcases l with l|⟨k,c,e,z⟩
  .exact .inl l
  .exact .inr {k,c,e,f x c e _ z}
 .let(v,z):=I.cell x c e;exact{v,f x c e v z}
 .let(m,(o,_,_,j,_),_):=I.loc;exact free _ o (λz=>(t _ z).2.1 rfl) j I.free
 .let(v,o,j,hd):=I.cell x c e;exact free c o (λz=>(t c z).2.2.1 x c e rfl) j (I.er x c e)
 .let(e,n,ne,L,d):=I.pin p K;have A:p.1∉ch:=λz=>(t p.1 z).2.2.2 p K rfl;exact{keep p.1 p.2 ne L A e n,free p.1 p.2 A e n,ne,L,d}
def Inv.un{t':Nat}(I:zv3 s)(u:Un X.fs [] H H' s.heap h')(aJ:d4 X.prog X.w H' h'):Inv X aa σ H' {s with heap:=h',toks:=t'}:=by let(m,(o,j,k,f,r),_):=id I.loc;let(p,h):=u.any f I.free (by simp);exact I.step (g':=s.gens) (d':=s.drawn) (ch:=[]) (λZ z=>nomatch z) (λb o Z a Z e n=>u.keep b o e n a (by simp)) (λb o Z a Z e n=>u.slot b o e n a (by simp)) (λb o Z e n=>u.free b o e n (by simp)) (λb o Z e=>u.there b o e (by simp)) u.gc u.e8 u.fS (λq hm=>by let(t,c,d,g,i):=hm;rw [f] at g;cases g;exact{_,c,d,h,i}) aJ I.bare
def Inv.call{g':Array GenState}{t':Nat}{d':Drawn}{ch:List iN}(I:zv3 s)(u:Un (d9 X.stack) ch H H' s.heap h')(aJ:d4 X.prog X.w H' h')(k:AllBare g')
 (h:∀b∈ch,(b∈X.ex\/X.s₀.heap.objs.size<=b)/\b≠X.env.locals/\(∀x c,X.env.cells.lookup x=hT c->c≠b)/\∀p∈X.pn++aa,p.1≠b):
 Inv X aa σ H' {s with heap:=h',gens:=g',drawn:=d',toks:=t'}:=by
 let(m,(o,y,A,i,r),_):=id I.loc;let(B,d):=u.any i I.free λz=>(h _ z).2.1 rfl;exact I.step (ch:=ch) h (λb o d q a e n=>u.keep b o e n (λz=>(el.mp (I.kP b z)).elim d q) a) (λb o Z Z a e n=>u.any e n a) (λb o a e n=>u.free b o e n a) (λb o a e=>u.there b o e a) u.gc u.e8 u.fS (λC hm=>by let(D,f,g,j,t):=hm;rw [i] at j;cases j;exact{_,f,g,d,t}) aJ k
def Inv.turned{t':Nat}{it:iN}(I:zv3 s)(k:∀b o,b≠it->s.heap.get? b=hT o->h'.get? b=hT o)(hn:H it=ie)(d:it≠X.env.locals)
 (g:it∈X.ex\/X.s₀.heap.objs.size<=it) (h:∀x c,X.env.cells.lookup x=hT c->c≠it) (i:∀p∈X.pn++aa,p.1≠it):Inv X aa σ H {s with heap:=h',toks:=t'}:=by
 have f:∀b u,H b=hT u->b≠it:=λb u e z=>by rw [z,hn] at e;cases e
 refine I.step (g':=s.gens) (d':=s.drawn) (ch:=[it]) (λb j=>?_) (λb o Z Z a e Z=>k b o (λz=>a (by simp [z])) e) (λb o Z Z a e Z=>{o.slots,k b o (λz=>a (by simp [z])) e}) (λZ Z Z Z n=>n)
  (λb o a e=>{o,k b o (λz=>a (by simp [z])) e}) (λZ Z e=>e) (λZ Z Z e=>e) (λb A e=>{#[],by rw [e];simp}) (λm hm=>?_) (λb u e=>?_) I.bare
 .have e:b=it:=zx6 j;subst e;exact⟨g,d,h,i⟩
 .let(o,t,w,y,r):=hm;exact{o,t,w,k _ o (Ne.symm d) y,r}
 .refine(I.aJ b u e).ef (λc v a q=>k c v ?_ q) (λZ q=>q) λZ Z q=>q
  rcases a with z|z
  .rw [z];exact f b u e
  .exact f c _ z
theorem Inv.tok(I:zv3 s)(t:Nat):Inv X aa σ H {s with toks:=t}:=I.un (h':=s.heap) (t':=t) Un.refl I.aJ
theorem Inv.kept{t':Nat}(I:zv3 s)(k:∀b u,s.heap.get? b=hT u->h'.get? b=hT u):Inv X aa σ H {s with heap:=h',toks:=t'}:=I.un (Un.kept k) (I.aJ.kept k)
theorem Inv.laid{o:HO}{t':Nat}(I:zv3 s)(k:∀b u,s.heap.get? b=hT u->h'.get? b=hT u)(c:(zz9 s)<=a)(new:bB X.prog X.w (upd H a o) h' a o):
 Inv X aa σ (upd H a o) {s with heap:=h',toks:=t'}:=I.un (Un.laid k c (I.aJ.fresh c)) (I.aJ.laid k c new)
theorem Inv.write{x e:iN}{o:HO}{t':Nat}(I:zv3 s)(a:L7 (H x))(he:e=x\/H e=hT (.own x))(k:∀b u,b≠e->s.heap.get? b=hT u->h'.get? b=hT u)(c:∃u,h'.get? e=hT u)
 (new:bB X.prog X.w (upd H x o) h' x o):Inv X aa σ (upd H x o) {s with heap:=h',toks:=t'}:=I.un (Un.write a he k c) (I.aJ.write a he k c new)
def Inv.l7{a:lu}(I:zv3 s)(h:∀p∈a,s.heap.get? p.1=hT p.2/\H p.1=ie/\p.1≠X.env.locals/\p.1∉X.fs/\∀v,p.2.data≠.cell v):Inv X a σ H s:=
 {I.ok,I.os,I.bare,I.base,I.loc,I.cell,I.free,I.er,λp b=>(List.mem_append.mp b).elim (λz=>I.pin p (d0 _ z)) (h p),I.aJ,I.len}
def j4(hN:N.Nodup){i:Nat}(a:N[i]?=hT x)(b:N[j]?=hT x):i=j:=by let(e,c):=br.mp a;let(f,d):=br.mp b;exact(List.getElem_inj hN).mp (c.trans d.symm)
def kQ{M:Model}{E:lq}{i:Nat}{Q:Unit->iM->Prop}(I:zv3 s)(hN:X.N.Nodup)(K:X.N[i]?=hT x)(B:Loc X.env.scope x)(r:RelV v u)
 (h:∀s',Inv X aa (σ.set i (hT v)) H s'->(∃a,j2.SameBut a s.heap s'.heap/\(a=X.env.locals\/X.env.cells.lookup x=hT a))->Q () s') (hf:X.fn x=ig\/X.env.scope.names.lookup x=hT .local:=by first|exact .inl rfl|exact .inr rfl|assumption):i1 M A (storeName X.env x u) Q E s:=by
 let(m,S,hl):=id I.loc;have Jr:(X.env.scope.kind==.class||(X.env.scope.kind==.module&&X.env.locals !=X.env.globals))=iv:=by rw [I.ok.kind];rfl
 have F:i<σ.length:=by rw [I.len];exact(br.mp K).1
 have Ab:=I.Ab
 have f:∀{a:iN} {h':j2},(∃o,s.heap.get? a=hT o/\H a=ie)->j2.SameBut a s.heap h'->d4 X.prog X.w H h':=λ{a h'} ha hs b ob e=>by
  let(_,_,C):=ha;refine(I.aJ b ob e).ef (λc P t q=>(hs.2 c ?_).trans q) (λ_ q=>q) λ_ _ q=>q
  rintro rfl
  rcases t with rfl|t
  .rw [C] at e;cases e
  .rw [C] at t;cases t
 rcases B with hk|hk
 .refine wpAny_storeName_local hk S (λh' M8 hs=>?_) Jr;let(oL,_,_,LK,_):=id S;refine h _ {I.ok,I.os,I.bare,{λb o e n G B=>?_,λb o e n G B=>?_,I.base.free,λb o e B=>?_,I.base.gc,I.base.e8,I.base.fS},{_,M8,λj y T g D U=>?_},λy c e=>?_,I.free,I.er,λp W=>?_,f ⟨oL,LK,I.free⟩ hs,zx6 I.len} {_,hs,.inl rfl}
  .exact(hs.2 b (dV (dq (bZ e) I.ok.above))).trans (I.base.keep b o e n G B)
  .let(Y,g):=I.base.slot b o e n G B;exact{Y,(hs.2 b (dV (dq (bZ e) I.ok.above))).trans g}
  .let(Z,g):=I.base.there b o e B;exact{Z,(hs.2 b (dV (dq (bZ e) I.ok.above))).trans g}
  .by_cases J:j=i
   .subst J;rw [K] at g;cases g;rw [ew F] at D;cases D;exact{u,r,.inl {hk,by simp}}
   .rw [cK (Ne.symm J)] at D;let(u',r',q):=hl j y T g D U
    refine{u',r',?_};rcases q with⟨k,e⟩|⟨k,c,e,z⟩
    .refine .inl {k,?_};have:y≠x:=λe=>J (j4 hN g (e▸K));simp [this,e]
    .exact .inr {k,c,e,z.sameBut hs (Ab y c e)}
  .let(P,z):=I.cell y c e;exact{P,z.sameBut hs (Ab y c e)}
  .let(e,n,ne,nf,d):=I.pin p W;exact{(hs.2 p.1 ne).trans e,n,ne,nf,d}
 .have lY:X.fn x=ig:=by
   rcases hf with z|z
   .exact z
   .rw [z] at hk;cases hk
  let(c,t):=I.ok.has x (.inl hk);let(P,z):=I.cell x c t;refine wpAny_storeName_cell I.ok.kind hk t z (λh' f9 hs=>?_);let(oc,L,O):=id z;refine h {s with heap:=h'} {I.ok,I.os,I.bare,{λb o e n G B=>?_,λb o e n G B=>?_,I.base.free,λb o e B=>?_,I.base.gc,I.base.e8,I.base.fS},{m,S.sameBut hs (Ne.symm (Ab x c t)),λj y T g D U=>?_},λy R e=>?_,I.free,I.er,λp W=>?_,f {oc,L,I.er x c t} hs,zx6 I.len} {c,hs,.inr t}
  .exact(hs.2 b (dV (dq (bZ e) (I.ok.HW x c lY t)))).trans (I.base.keep b o e n G B)
  .let(Y,g):=I.base.slot b o e n G B;exact{Y,(hs.2 b (dV (dq (bZ e) (I.ok.HW x c lY t)))).trans g}
  .let(Z,g):=I.base.there b o e B;exact{Z,(hs.2 b (dV (dq (bZ e) (I.ok.HW x c lY t)))).trans g}
  .by_cases J:j=i
   .subst J;rw [K] at g;cases g;rw [ew F] at D;cases D;exact{u,r,.inr {.inl hk,c,t,f9}}
   .rw [cK (Ne.symm J)] at D;let(u',r',q):=hl j y T g D U
    refine{u',r',?_};rcases q with q|⟨k,R,e,z'⟩
    .exact .inl q
    .refine .inr {k,R,e,z'.sameBut hs ?_}
     rintro rfl
     exact J (j4 hN g (I.ok.inj _ _ _ e t▸K))
  .by_cases lF:R=c
   .subst lF;exact{_,f9}
   .let(w2,z2):=I.cell y R e;exact{w2,z2.sameBut hs lF}
  .let(e,n,ne,nf,d):=I.pin p W;refine{(hs.2 p.1 ?_).trans e,n,ne,nf,d};intro q;rw [q,L] at e;have q':oc=p.2:=zzq e;exact d P (by rw [<-q'];exact O)
def gR{M:Model}{E:lq}{i:Nat}{Q:Unit->iM->Prop}(I:zv3 s)(hN:X.N.Nodup)(a:X.N[i]?=hT x)(b:Loc X.env.scope x)(r:RelV v u)
 (h:∀s',Inv X aa (σ.set i (hT v)) H s'->Q () s') (c:X.fn x=ig\/X.env.scope.names.lookup x=hT .local:=by first|exact .inl rfl|exact .inr rfl|assumption):i1 M A (storeName X.env x u) Q E s:=
 kQ I hN a b r (λs' d Z=>h s' d) c
def Inv.Mp{s':iM}{ch:List iN}(I:zv3 s)(a:s'.os=s.os)(u:Un (d9 X.stack) ch H H' s.heap s'.heap)(aJ:d4 X.prog X.w H' s'.heap)(d:AllBare s'.gens)
 (f:∀b∈ch,(b∈X.ex\/X.s₀.heap.objs.size<=b)/\b≠X.env.locals/\(∀x c,X.env.cells.lookup x=hT c->c≠b)/\∀p∈X.pn++aa,p.1≠b):Inv X aa σ H' s':=by
 let(h',g',d',t',g):=s';have e:g=s.os:=a;subst e;exact I.call (g':=g') (t':=t') (d':=d') u aJ d f
end
noncomputable abbrev XK:=ix->Option iN->Hp->Prop
noncomputable abbrev St:=List (Option V)
variable{σ:St}
noncomputable abbrev VK:=V->Hp->Prop
variable{Q:VK}
noncomputable abbrev TE:=St->Hp->VK->Prop
variable{te:TE}
noncomputable abbrev TT:=St->Hp->(Bool->Hp->Prop)->Prop
noncomputable abbrev TA:=St->Hp->(List V->Hp->Prop)->Prop
structure Ends where
 nx:St->Hp->Prop
 rt:VK
 bk:St->Hp->Prop:=λ_ _=>False
 ct:St->Hp->Prop:=λ_ _=>False
variable{D:Ends}
noncomputable abbrev TS:=Ends->St->Hp->Prop
def EP(X:Cx)(aa:lu)(b:St)(Q:VK)(u:ix)(s':iM):Prop:=∃v a,Inv X aa b a s'/\RelV v u/\Q v a
def TP(X:Cx)(aa:lu)(c:St)(Q:Bool->Hp->Prop)(b:Bool)(s':iM):Prop:=∃a,Inv X aa c a s'/\Q b a
def AP(X:Cx)(aa:lu)(c:St)(Q:List V->Hp->Prop)(us:List ix)(s':iM):Prop:=∃a b,Inv X aa c b s'/\Vals a us/\Q a b
def SP(X:Cx)(aa:lu)(D:Ends)(f:Flow)(s':iM):Prop:=
 match f with
 |.next=>∃a b,Inv X aa a b s'/\D.nx a b|.brk=>∃a b,Inv X aa a b s'/\D.bk a b|.cont=>∃a b,Inv X aa a b s'/\D.ct a b|.ret u=>∃v a b,Inv X aa a b s'/\RelV v u/\D.rt v b
def PE(X:Cx)(e:iO)(t:TE):Prop:=
 ∀(b:lu) (s:iM) (a:St) (H:Hp) (Q:VK),Inv X b a H s->t a H Q->zx7 X (eval e X.env) (EP X b a Q) X.xe s
def PT(X:Cx)(e:iO)(t:TT):Prop:=
 ∀(b:lu) (s:iM) (a:St) (H:Hp) (Q:Bool->Hp->Prop),Inv X b a H s->t a H Q->zx7 X (isTrue e X.env (eval e X.env)) (TP X b a Q) X.xe s
def PW(X:Cx)(e:iO)(t:TT):Prop:=
 ∀(a:Sem ix) (c:lu) (s:iM) (b:St) (H:Hp) (Q:Bool->Hp->Prop),Inv X c b H s->t b H Q->zx7 X (isTrue e X.env a) (TP X c b Q) X.xe s
def PW.pt{t:TT}(h:PW X e t):PT X e t:=h _
def PA(X:Cx)(d:List iO)(t:TA):Prop:=
 ∀(a:Pos) (c:lu) (s:iM) (b:St) (H:Hp) (Q:List V->Hp->Prop),Inv X c b H s->t b H Q->zx7 X (spliced (backTo a (starEach d X.env))) (AP X c b Q) X.xe s
def PS(X:Cx)(st:j7)(t:TS):Prop:=
 ∀(a:lu) (s:iM) (b:St) (H:Hp) (D:Ends),Inv X a b H s->t D b H->zx7 X (exec st X.env) (SP X a D) X.xe s
def oV(X:Cx)(st:List j7)(t:TS):Prop:=
 ∀(a:lu) (s:iM) (b:St) (H:Hp) (D:Ends),Inv X a b H s->t D b H->zx7 X (execs st X.env) (SP X a D) X.xe s
def bb{b:Type}{t:Sem b}{Q c:b->iM->Prop}{M:Model}{E:lq}{s:iM}(h:i1 M A t Q E s)(d:∀a s,Q a s->c a s):i1 M A t c E s:=wpAny_mono h d λZ Z x=>x
section
def bin{a b:iO}{k tb:TE}(o:PE X a k)(p:PE X b tb){s:iM}{d:St}{R:V->V->Hp->Prop}(I:Inv X aa d H s)(h:k d H λx H1=>tb d H1 λy e=>R x y e)
 {m:Type} {Q:m->iM->Prop} {f:ix->ix->Sem m}
 (hf:∀v u j x y e,Inv X aa d e j->RelV x v->RelV y u->R x y e->zx7 X (f v u) Q X.xe j):
 zx7 X (eval a X.env) (λv g=>zx7 X (eval b X.env) (λu i=>zx7 X (f v u) Q X.xe i) X.xe g) X.xe s:=by
 refine bb (o aa s d H _ I h) λv q c=>?_;let(x,H1,r,t,q1):=c;refine bb (p aa q d H1 _ r q1) λu j c=>?_;let(y,e,z,B,q2):=c;exact hf v u j x y e z t B q2
abbrev Lk(i:Nat):TE:=λa H Q=>∃v,a[i]?=hT (hT v)/\Q v H
abbrev tC(v:V):TE:=λZ H Q=>Q v H
def kM{i:Nat}(hN:X.N[i]?=hT x)(d:Mb X.env.scope x)(hd:(x==(zu 18:Str))=iv:=by decide)(f:(x==("__classdict__":Str))=iv:=by decide):PE X (.Name x pos) (Lk i):=by
 intro g s j H Q I h;let(v,e,h):=h;let(m,k,hl):=I.loc;let(u,r,l):=hl i x v hN e d;have fin:EP X g j Q u s:=⟨v,H,I,r,h⟩
 rcases l with⟨hk,hm⟩|⟨hk,c,a,b⟩
 .exact wpAny_Name (wpAny_loadName_local I.ok.kind hk k hm fin) hd
 .rcases hk with hk|hk
  .exact wpAny_Name (wpAny_loadName_cell I.ok.kind hk a b fin) hd
  .exact wpAny_Name (wpAny_loadName_free I.ok.kind hk a b fin f) hd
def Cz{i j pos}:PE X (.Constant (.int i) j pos) (tC (.int i)):=λZ Z Z H Z I h=>wpAny_Constant_int {.int i,H,I.tok _,{_,rfl},h}
def NL{b j pos}:PE X (.Constant (.bool b) j pos) (tC (.bl b)):=λZ Z Z H Z I h=>Constant_bool {.bl b,H,I,rfl,h}
def Kx{j pos}:PE X (.Constant .none j pos) (tC .aE):=λZ Z Z H Z I h=>Constant_none {.aE,H,I,rfl,h}
def CC{x j pos}:PE X (.Constant (.str x) j pos) (tC (.str x)):=λZ Z Z H Z I h=>Calls.Constant_str {.str x,H,I.tok _,{_,rfl},h}
def Gl(X:Cx)(x:Str):Prop:=X.env.kindOf x=hT .globalImplicit
def di{E:lq}{s:iM}{a:St}{Q:lq}(I:Inv X aa a H s)(b:Gl X x)(hm:X.mg x=hT u)(h:Q u s)
 (hd:(x==(zu 18:Str))=iv:=by decide):zx7 X (eval (.Name x pos) X.env) Q E s:=
 Calls.Name_function_global I.ok.kind b (Calls.loadGlobal_global (by rw [I.ok.glob];exact I.mod.glob.keeps I.bk) hm h) hd
def dX{E:lq}{s:iM}{a:St}{Q:lq}(I:Inv X aa a H s)(b:Gl X x)(hm:X.mg x=ie)(c:bootBuiltins x=hT u)(h:Q u s)
 (hn:x≠(zu 27):=by decide) (hd:(x==(zu 18:Str))=iv:=by decide):zx7 X (eval (.Name x pos) X.env) Q E s:=by
 let(mb,d,e):=I.mod.blt;exact Calls.Name_function_global I.ok.kind b (Calls.loadGlobal_builtin (by rw [I.ok.glob];exact I.mod.glob.keeps I.bk) hm (by rw [I.ok.blt];exact d.keeps I.bk) ((e x hn).trans c) h) hd
def xK(a:Gl X x)(hm:X.mg x=hT u)(r:RelV v u)(hd:(x==(zu 18:Str))=iv:=by decide):PE X (.Name x pos) (tC v):=
 λZ Z Z H Z I h=>di I a hm ⟨v,H,I,r,h⟩ hd
def xI(a:Gl X x)(hm:X.mg x=ie)(b:bootBuiltins x=hT u)(r:RelV v u)(hn:x≠(zu 27):=by decide)(hd:(x==(zu 18:Str))=iv:=by decide):PE X (.Name x pos) (tC v):=
 λZ Z Z H Z I h=>dX I a hm b ⟨v,H,I,r,h⟩ hn hd
variable{a b:iO}{ta tb:TE}
abbrev tB(t:TE):TT:=λd H Q=>t d H λx e=>∃c,x=.bl c/\Q c e
def KN{t:TE}(h:PE X e t)(he:∀c,isTrue e X.env c=(do let v<-c;standAt e.pos;holding [v] (truthy v)):=by intro _;rfl):PT X e (tB t):=by intro g s i H Q I j;refine isTrue_plain (bb (h g s i H _ I j) λv p f=>?_) (he _);let(x,k,m,o,q1):=f;let(d,rfl,q):=q1;cases o;exact wpAny_truthy_bool ⟨k,m,q⟩
variable{tA OV:TT}{rest:List iO}
abbrev Rz(t u:TT):TT:=λd H Q=>t d H λc e=>if c=ig then u d e Q else Q iv e
abbrev V6(t u:TT):TT:=λd H Q=>t d H λc e=>if c=ig then Q ig e else u d e Q
abbrev RH(t:TT):TT:=λd H Q=>t d H λc e=>Q (!c) e
def pw_and1(d:PT X a tA):PW X (.BoolOp .And [a] pos) tA:=by
 intro i f s g H Q I h;refine isTrue_and (bb (d f s g H Q I h) λc j e=>?_)
 cases c with
 |true=>exact isTrue_and_nil e|false=>exact e
def pw_or1(d:PT X a tA):PW X (.BoolOp .Or [a] pos) tA:=by
 intro i f s g H Q I h;refine isTrue_or (bb (d f s g H Q I h) λc j e=>?_)
 cases c with
 |false=>exact isTrue_or_nil e|true=>exact e
def pw_and(j:PT X a tA)(k:PW X (.BoolOp .And (b::rest) pos) OV):PW X (.BoolOp .And (a::b::rest) pos) (Rz tA OV):=by
 intro m e s f H Q I h;refine isTrue_and (bb (j e s f H _ I h) λc o d=>?_);let(g,i,q1):=d
 cases c with
 |true=>exact k m e o f g Q i q1|false=>exact⟨g,i,q1⟩
def pw_or(j:PT X a tA)(k:PW X (.BoolOp .Or (b::rest) pos) OV):PW X (.BoolOp .Or (a::b::rest) pos) (V6 tA OV):=by
 intro m e s f H Q I h;refine isTrue_or (bb (j e s f H _ I h) λc o d=>?_);let(g,i,q1):=d
 cases c with
 |true=>exact⟨g,i,q1⟩|false=>exact k m e o f g Q i q1
def KL(d:PT X a tA):PT X (.UnaryOp .Not a pos) (RH tA):=by intro e s f H Q I h;exact isTrue_not (d e s f H (λc g=>Q (!c) g) I h)
abbrev N5(ta tb:TE):TE:=λd H Q=>ta d H λx e=>∃c,x=.bl c/\if c=ig then tb d e Q else Q (.bl iv) e
abbrev RI(ta tb:TE):TE:=λd H Q=>ta d H λx e=>∃c,x=.bl c/\if c=ig then Q (.bl ig) e else tb d e Q
abbrev Oa(ta:TE):TE:=λd H Q=>ta d H λx e=>∃c,x=.bl c/\Q (.bl (!c)) e
def vS{op}{t:TE}(h:PE X a t):PE X (.BoolOp op [a] pos) t:=λc s d H Q I e=>BoolOp_one (h c s d H Q I e)
def Cr(j:PE X a ta)(k:PE X (.BoolOp .And (b::rest) pos) tb):PE X (.BoolOp .And (a::b::rest) pos) (N5 ta tb):=by
 intro e s f H Q I h;refine BoolOp_and (bb (j e s f H _ I h) λv m d=>?_);let(x,g,i,o,q1):=d;let(c,rfl,q1):=q1
 cases o;refine wpAny_truthy_bool ?_;cases c with
 |true=>exact k e m f g Q i q1|false=>exact{.bl iv,g,i,rfl,q1}
def NN(j:PE X a ta)(k:PE X (.BoolOp .Or (b::rest) pos) tb):PE X (.BoolOp .Or (a::b::rest) pos) (RI ta tb):=by
 intro e s f H Q I h;refine BoolOp_or (bb (j e s f H _ I h) λv m d=>?_);let(x,g,i,o,q1):=d;let(c,rfl,q1):=q1
 cases o;refine wpAny_truthy_bool ?_;cases c with
 |false=>exact k e m f g Q i q1|true=>exact{.bl ig,g,i,rfl,q1}
def Ky(e:PE X a ta):PE X (.UnaryOp .Not a pos) (Oa ta):=by intro f s g H Q I h;refine UnaryOp_ (bb (e f s g H _ I h) λv m d=>?_);let(x,i,j,k,q1):=d;let(c,rfl,q1):=q1;cases k;exact not_of (wpAny_truthy_bool {.bl (!c),i,j,rfl,q1})
abbrev V5(t:TT)(ta tb:TE):TE:=λd H Q=>t d H λc e=>if c=ig then ta d e Q else tb d e Q
def ug{c:iO}(m:PT X c tA)(o:PE X a ta)(p:PE X b tb):PE X (.IfExp c a b pos) (V5 tA ta tb):=by
 intro e s f H Q I h;refine wpAny_IfExp (bb (m e s f H _ I h) λd i g=>?_);let(j,k,q1):=g
 cases d with
 |true=>exact o e i f j Q k q1|false=>exact p e i f j Q k q1
end
def eW(K:zz8)(H:Hp)(a:iN)(xs:List V):Prop:=
 Rd H a (.lst xs)\/
  ∃(o:Obj) (b:Array ix) (n:Nat),K.lookup a=hT o/\o.cls=.type "list"/\o.dict=ie/\o.data=.seq b n/\b.size<=j3/\Vals xs b.toList
def dF(K:zz8)(H:Hp)(a:iN)(xs:List V):Prop:=
 Rd H a (.tup xs)\/
  ∃(o:Obj) (b:Array ix) (n:Nat),K.lookup a=hT o/\o.cls=.type "tuple"/\o.data=.seq b n/\b.size<=j3/\Vals xs b.toList
abbrev Pq:ix->Option V
 |.none=>hT .aE|.bool b=>hT (.bl b)|.int i _=>hT (.int i)|.str x _=>hT (.str x)|.bytes b _=>hT (.OB b)|.float b _=>hT (.OG b)|.ref a=>hT (.ref a)|.type n=>hT (.ty n)|_=>ie
def RelV.abs{x:V}(r:RelV x u):Pq u=hT x:=by
 cases x with
 |aE=>cases r;rfl
 |bl _=>cases r;rfl
 |int _=>let(t,rfl):=r;rfl|str _=>let(t,rfl):=r;rfl|OB _=>let(t,rfl):=r;rfl|OG _=>let(t,rfl):=r;rfl|ref _=>cases r;rfl
 |ty _=>cases r;rfl
def RelV.inj{x y:V}(r:RelV x u)(q:RelV y u):x=y:=zzq (r.abs.symm.trans q.abs)
theorem Vals.inj:∀{xs ys:List V} {us:List ix},Vals xs us->Vals ys us->xs=ys
 |_,_,_,.nil,.nil=>rfl|_,_,_,.cons r t,.cons a t'=>by rw [r.inj a,Vals.inj t t']
section
variable{s:iM}{xs ys:List V}
def eW.of{K:zz8}(h:H a=hT (.lst xs)):eW K H a xs:=.inl (.inl h)
def Inv.list(I:zv3 s)(h:eW X.K H a xs):∃b:List ix,Vals xs b/\PlainL s.heap a b.toArray/\xs.length<=sizeLine:=by
 rcases h with h|⟨o,b,n,hk,c,hd,hs,d,r⟩
 .let(z,b,n,r,e):=h.ok I.aJ;exact{b,r,{_,n,e,rfl,rfl,rfl},z}
 .refine{b.toList,r,{o,n,I.iR a o hk,c,hd,zx6 hs},?_};have e:=r.length;simp! [d1] at e;omega
def Inv.tuple(I:zv3 s)(h:dF X.K H a xs):∃b:List ix,Vals xs b/\IsTup s.heap a b.toArray/\xs.length<=sizeLine:=by
 rcases h with h|⟨o,b,n,hk,c,hs,d,r⟩
 .let(z,b,r,p):=h.ok I.aJ;exact⟨b,r,p,z⟩
 .refine{b.toList,r,{o,I.iR a o hk,c,n,zx6 hs},?_};have e:=r.length;simp! [d1] at e;omega
def Inv.tW(I:zv3 s)(h:eW X.K H a xs)(h':eW X.K H a ys):xs=ys:=by
 let(g,r,(o,n,e,_,_,d),_):=I.list h;let(b,i,(k,m,c,_,_,f),_):=I.list h';rw [e] at c;cases c;rw [d] at f
 injection f with j _
 have:g=b:=by simpa using congrArg Array.toList j
 subst this;exact r.inj i
def Inv.qa(I:zv3 s)(h:dF X.K H a xs)(h':dF X.K H a ys):xs=ys:=by
 let(g,r,(o,e,_,n,d),_):=I.tuple h;let(b,i,(k,c,_,m,f),_):=I.tuple h';rw [e] at c;cases c;rw [d] at f
 injection f with j _
 have:g=b:=by simpa using congrArg Array.toList j
 subst this;exact r.inj i
variable{rest:List j7}{t u:TS}
def N9:TS:=λD σ H=>D.nx σ H
abbrev RK(t u:TS):TS:=λD σ H=>t {D with nx:=u D} σ H
def rb:oV X [] N9:=λZ Z σ H Z I h=>wpAny_execs_nil ⟨σ,H,I,h⟩
def um(c:PS X st t)(d:oV X rest u):oV X (st::rest) (RK t u):=by
 intro aa s σ H D I h;refine wpAny_execs_cons (bb (c aa s σ H {D with nx:=u D} I h) λf g q=>?_)
 cases f with
 |next=>let(b,i,j,q):=q;exact d aa g b i D j q|ret v=>exact q|brk=>exact q|cont=>exact q
def rf(b:PS X st t):oV X [st] t:=by
 intro aa s σ H D I h;refine wpAny_execs_cons (bb (b aa s σ H D I h) λf c q=>?_)
 cases f with
 |next=>exact wpAny_execs_nil q|ret v=>exact q|brk=>exact q|cont=>exact q
def Inv.quiet{s:iM}(I:zv3 s):interactive X.env=iv:=by simp [interactive,I.ok.kind]
abbrev N7(te:TE):TS:=λD σ H=>te σ H λZ b=>D.nx σ b
theorem ma(he:PE X e te)(hs:swapsWith e ie pos.line X.env=pure iv:=by rfl):PS X (.Expr e pos) (N7 te):=by intro aa s σ H D I h;exact wpAny_Expr_any (bb (he aa s σ H _ I h) λv c ⟨x,H1,b,d,q1⟩=>⟨σ,H1,b,q1⟩) I.quiet hs
abbrev Li(te:TE):TS:=λD σ H=>te σ H D.rt
def q9(he:PE X e te):PS X (.Return (hT e) pos) (Li te):=by intro aa s σ H D I h;exact wpAny_Return_some (bb (he aa s σ H _ I h) λv d ⟨x,H1,b,c,q1⟩=>⟨x,σ,H1,b,c,q1⟩)
abbrev RD(c:TT)(t u:TS):TS:=λD σ H=>c σ H λb d=>if b=ig then t D σ d else u D σ d
def Hr{c:iO}{a b:List j7}{g:TT}(m:PT X c g)(o:oV X a t)(p:oV X b u):PS X (.If c a b pos) (RD g t u):=by
 intro aa s σ H D I h;refine wpAny_If (bb (m aa s σ H _ I h) λd i f=>?_);let(j,k,q1):=f
 cases d with
 |true=>exact o aa i σ j D k q1|false=>exact p aa i σ j D k q1
end
noncomputable abbrev TG:=V->St->Hp->(St->Hp->Prop)->Prop
noncomputable abbrev GU:=List V->St->Hp->(St->Hp->Prop)->Prop
def PG(X:Cx)(a:iO)(t:TG):Prop:=
 ∀(c:lu) (s:iM) (d:St) (H:Hp) (v:V) (u:ix) (Q:St->Hp->Prop),Inv X c d H s->RelV v u->t v d H Q->
  zx7 X (assign a X.env u) (λZ f=>∃b e,Inv X c b e f/\Q b e) X.xe s
def L8(X:Cx)(ts:List iO)(t:GU):Prop:=
 ∀(b:lu) (s:iM) (c:St) (H:Hp) (d:List V) (e:List ix) (Q:St->Hp->Prop),Inv X b c H s->Vals d e->t d c H Q->
  zx7 X (assignInOrder ((assignEach ts X.env).map (·.2)) e) (λZ g=>∃a f,Inv X b a f g/\Q a f) X.xe s
noncomputable abbrev HM:=V->V->V->Hp->(Hp->Prop)->Prop
def L9(X:Cx)(t:HM):Prop:=
 ∀(a:lu) (s:iM) (b:St) (H:Hp) (o i v:V) (c d u:ix) (Q:Hp->Prop),Inv X a b H s->RelV o c->RelV i d->RelV v u->t o i v H Q->
  zx7 X (setItem c d u) (λZ f=>∃e,Inv X a b e f/\Q e) X.xe s
abbrev dR(i:Nat):TG:=λv a H Q=>Q (a.set i (hT v)) H
def FT{i:Nat}(hN:X.N.Nodup)(a:X.N[i]?=hT x)(b:Loc X.env.scope x)(c:X.fn x=ig\/X.env.scope.names.lookup x=hT .local:=by first|exact .inl rfl|exact .inr rfl|assumption):PG X (.Name x pos) (dR i):=by intro e s f H v u Q I r h;exact wpAny_assign_Name (gR I hN a b r (λg d=>{_,H,d,h}) c)
abbrev Ex:GU:=λa b H Q=>a=[]/\Q b H
abbrev k7(t:TG)(u:GU):GU:=λb c H Q=>∃v r,b=v::r/\t v c H λa d=>u r a d Q
def FU:L8 X [] Ex:=by intro b s a H c d Q I r h;let(e,h):=h;subst e;cases r;exact assignInOrder_nil ⟨a,H,I,h⟩
theorem CG{a:List iO}{t:TG}{u:GU}(f:PG X e t)(g:L8 X a u)
 (hs:(assignEach (e::a) X.env).map (·.2)=assign e X.env::(assignEach a X.env).map (·.2):=by rfl):L8 X (e::a) (k7 t u):=by
 intro d s i H q w Q I r h;let(v,y,j,h):=h
 subst j;cases r with
 |cons r k=>rw [hs];refine assignInOrder_cons (bb (f d s i H _ _ _ I r h) λZ m b=>?_);let(c,o,p,q1):=b;exact g d m c o _ _ Q p k q1
abbrev IG(K:zz8)(n:Nat)(t:GU):TG:=λv b H Q=>∃a xs,v=.ref a/\dF K H a xs/\xs.length=n/\t xs b H Q
theorem CF{c:List iO}{k:Nat}{t:GU}{n:Nat}(j:X.calm=ig)(h:L8 X c t)
 (hn:(assignEach c X.env).length=n:=by rfl) (m:(assignEach c X.env).findIdx? (·.1)=ie:=by rfl):PG X (.Tuple c k pos) (IG X.K n t):=by
 intro f s g H v u Q I r d;let(a,xs,p,q,hl,d):=d;subst p;cases r;let(B,i,w,C):=I.tuple q;refine assign_Tuple_tuple (I.ok.hd j) w (by simp [hn,<-hl,i.length]) m λy z=>?_;have A:Inv X f g H {s with heap:=y}:=I.kept (t':=s.toks) λb o e=>z b o (dV (bZ e)) e;exact h f _ g H xs _ Q A (zx6 i) d
abbrev PQ(b c:TE)(t:HM):TG:=λv a H Q=>b a H λo d=>c a d λi e=>t o i v e λf=>Q a f
def KC{o i:iO}{f g:TE}{t:HM}(j:PE X o f)(k:PE X i g)(hs:L9 X t)
 (m:∀v,assign (.Subscript o i pos) X.env v=(do
  let b<-holding [v] (eval o X.env);let c<-holding [v,b] (eval i X.env)
  standAt pos
  holding [v,b,c] (setItem b c v)
  release [v,b,c] []):=by intro _;rfl):PG X (.Subscript o i pos) (PQ f g t):=by
 intro e s d H v u Q I r h;rw [m];refine ar (wpAny_holding (bb (j e s d H _ I h) λb p a=>?_));let(x,q,w,z,q1):=a;refine ar (wpAny_holding (bb (k e p d q _ w q1) λc A a=>?_));let(y,B,C,D,q2):=a;refine ar (wpAny_standAt (ar (wpAny_holding (bb (hs e A d B x y v b c u _ C z D r q2) λZ G a=>?_))));let(E,F,q3):=a;exact wpAny_release ⟨d,E,F,q3⟩
abbrev Gw(te:TE)(g:TG):TS:=λD a H=>te a H λx b=>g x a b D.nx
theorem vW{a:iO}{g:TG}(he:PE X e te)(f:PG X a g)(hs:swapsWithSole [a] e pos.line X.env=pure iv:=by rfl)(i:swappedStores [a] e X.env=pure ie:=by rfl)
 (j:(assignEach [a] X.env).map (·.2)=[assign a X.env]:=by rfl):PS X (.Assign [a] e pos) (Gw te g):=by
 intro c s d H D I h;refine wpAny_Assign_stores (bb (he c s d H _ I h) λv k b=>?_) hs i;let(x,m,o,p,q1):=b;rw [j];exact bb (f c k d m x v _ o p q1) λZ r q=>q
theorem nC{i:Nat}{a:Pos}(hN:X.N.Nodup)(c:X.N[i]?=hT x)(d:Loc X.env.scope x)(he:PE X e te)(hs:swapsWith e (hT (.Name x a)) pos.line X.env=pure iv:=by rfl)(f:X.fn x=ig\/X.env.scope.names.lookup x=hT .local:=by first|exact .inl rfl|exact .inr rfl|assumption):
 PS X (.Assign [.Name x a] e pos) (Gw te (dR i)):=by
 intro g s j H D I h;refine wpAny_Assign_Name (bb (he g s j H _ I h) λv q b=>?_) hs;let(y,k,m,o,q1):=b;exact gR m hN c d o (λr p=>{_,k,p,q1}) f
abbrev RJ(i j:Nat)(b:TA):TS:=λD a H=>b a H λc d=>∃v w,c=[v,w]/\D.nx ((a.set i (hT v)).set j (hT w)) d
theorem CU{i:Nat}{y:Str}{a b:iO}{r:TA}{g k pt:Pos}{kt k2 m}(E:X.calm=ig)(hN:X.N.Nodup)(F:X.N[i]?=hT x)(G:X.N[j]?=hT y)(J:i≠j)
 (t:X.env.scope.names.lookup x=hT .local) (u:X.env.scope.names.lookup y=hT .local) (K:PA X [a,b] r)
 (hw:swappedStores [.Tuple [.Name x g,.Name y k] kt pt] (.Tuple [a,b] k2 m) X.env=pure (hT [x,y]))
 (hs:swapsWithSole [.Tuple [.Name x g,.Name y k] kt pt] (.Tuple [a,b] k2 m) pos.line X.env=pure iv:=by rfl):
 PS X (.Assign [.Tuple [.Name x g,.Name y k] kt pt] (.Tuple [a,b] k2 m) pos) (RJ i j r):=by
 intro z s B H D I h;rw [exec_Assign_arm];refine ar (wpAny_standAt ?_);rw [hs];refine ar (bp ?_);rw [if_neg (by decide)];refine ar (Tuple_ (bb (K _ z s B H _ I h) λL c ⟨Z,H1,M,O,q1⟩=>?_));let(v,w,P,q1):=q1
 subst P;obtain⟨d,f,rfl,Q,R⟩:∃d f,L=[d,f]/\RelV v d/\RelV w f:=by
  cases O with
  |cons p q=>
   cases q with
   |cons S T=>cases T;exact{_,_,rfl,p,S}
 refine wpAny_newObj_type ?_ (by show 2<=j3;decide);have U:Inv X z B H1 {c with heap:=c.heap.push {cls:=.type "tuple",data:=.seq [d,f].toArray}}:=M.kept (t':=c.toks) λb o e=>aT _ e;rw [hw];refine ar (bp ?_);show zx7 X (do rule "assign.swapped-stores";let items<-unpackItems (.ref (zz9 c)) 2 ie;assignInOrder [λv=>bindName X.env y v,λv=>bindName X.env x v] items.reverse;pure Flow.next) _ _ _;refine ar (wpAny_rule (ar (unpackItems_tuple (items:=#[d,f]) (I.ok.hd E) (IsTup.new c.heap _) λh' V=>?_)));have W:=U.kept (h':=h') (t':=c.toks) λb o e=>V b o (dV (bZ e)) e;show i1 _ _ (assignInOrder [λv=>bindName X.env y v,λv=>bindName X.env x v] [f,d]>>=λ_=>pure Flow.next) _ _ _;refine ar (assignInOrder_cons (wpAny_bindName (gR W hN G (.inl u) R (λs2 Y=>?_) (.inr u))));refine assignInOrder_cons (wpAny_bindName (gR Y hN F (.inl t) Q (λs3 C=>assignInOrder_nil (bp ?_)) (.inr t)));rw [List.set_comm _ _ (Ne.symm J)] at C;exact{_,H1,C,q1}
structure It where
 go:Nat->Hp->Prop
 Lp:Nat->Hp->V->Hp->Prop
 stop:Nat->Hp->Prop
def hX(X:Cx)(aa:lu)(H:Hp)(b:iN):Prop:=
 H b=ie/\b≠X.env.locals/\b∉X.fs/\(b∈X.ex\/X.s₀.heap.objs.size<=b)/\(∀x c,X.env.cells.lookup x=hT c->c≠b)/\∀p∈X.pn++aa,p.1≠b
def Inv.mV{f:St}{d:Hp}{s:iM}{b:iN}(I:Inv X aa f H s)(a:(zz9 s)<=b)(hn:d b=ie):hX X aa d b:=by
 refine{hn,Nat.ne_of_gt (dq I.lt a),I.QV a,.inr (c0 I.sz a),λx c e z=>?_,λp g z=>?_}
 .let(v,q):=I.cell x c e;exact absurd (dq q.lt (by rw [z];exact a)) (Nat.lt_irrefl _)
 .exact absurd (dq (bZ (I.pin p g).1) (by rw [z];exact a)) (Nat.lt_irrefl _)
structure Turn(P:i2)(w:i3)(K:zz8)(tg:iO)(J:It)(fp:List iN)(it:iN)(tn:Nat->j2->Prop):Prop where
 mem:it∈fp
 obj:∀i h,tn i h->∀b∈fp,∃o,h.get? b=hT o/\∀v,o.data≠.cell v
 keep:∀i h h',tn i h->(∀b∈fp,∀o,h.get? b=hT o->h'.get? b=hT o)->tn i h'
 item:∀(X:Cx),X.prog=P->X.w=w->X.K=K->X.calm=ig->∀(i:Nat) (aa:lu) (s:iM) (σ:St) (H:Hp) (E:lq),Inv X aa σ H s->(∀b∈fp,hX X aa H b)->tn i s.heap->J.go i H->
  i1 (jj P w) X.A (pyNext (.ref it)) (λr s1=>∃u,r=hT u/\
   i1 (jj P w) X.A (letOwnedTupleGo tg (.ref it) u) (λ_ s2=>∃x H',Inv X aa σ H' s2/\RelV x u/\J.Lp i H x H'/\tn (i+1) s2.heap/\∀b∈fp,H' b=ie) E s1) E s
 done:∀(X:Cx),X.prog=P->X.w=w->X.K=K->X.calm=ig->∀(i:Nat) (aa:lu) (s:iM) (σ:St) (H:Hp) (E:lq),Inv X aa σ H s->(∀b∈fp,hX X aa H b)->tn i s.heap->J.stop i H->
  i1 (jj P w) X.A (pyNext (.ref it)) (λr s1=>r=ie/\Inv X aa σ H s1) E s
 self:∀(A:j0) (i:Nat) (s:iM) (Q:lq) (E:lq),tn i s.heap->Q (.ref it) s->i1 (jj P w) A (pyIter (.ref it)) Q E s
noncomputable abbrev TI:=St->Hp->(It->Hp->Prop)->Prop
def Pc(X:Cx)(aa:lu)(d:St)(e:iO)(R:It->Hp->Prop)(f:ix)(c:iM):Prop:=
 ∃(it:iN) (fp:List iN) (tn:Nat->j2->Prop) (J:It) (a:Hp),f=.ref it/\Inv X aa d a c/\Turn X.prog X.w X.K e J fp it tn/\tn 0 c.heap/\(∀b∈fp,hX X aa a b)/\R J a
def PI(X:Cx)(c iter:iO)(d:TI):Prop:=
 ∀(b:lu) (s:iM) (a:St) (H:Hp) (R:It->Hp->Prop),Inv X b a H s->d a H R->
  zx7 X (eval iter X.env) (λv e=>zx7 X (pyIter v) (Pc X b a c R) X.xe e) X.xe s
def tj{M:Model}{E:lq}{s:iM}{b:iO}{it:iN}{n:String}{vs:Array ix}{Q:Unit->iM->Prop}(c:s.heap.get? it=hT o)(d:o.cls=.type n)(hd:o.data=.fields vs)
 (hn:[zu 5,"zip","dict_itemiterator","dict_reverseitemiterator","odict_iterator","itertools.zip_longest","itertools.pairwise"].contains n=iv) (a:Q () s):i1 M A (letOwnedTupleGo b (.ref it) u) Q E s:=by
 unfold letOwnedTupleGo;cases b<;>first
  |exact bp a
  |(cases u<;>first
   |exact bp a
   | (refine ar (wpAny_load c ?_)
      rw [d,hd];show i1 M A (if([zu 5,"zip","dict_itemiterator","dict_reverseitemiterator","odict_iterator","itertools.zip_longest","itertools.pairwise"].contains n&&vs[0]?==hT (rawInt _))=ig then _ else _) Q E s;rw [if_neg (by intro h;rw [hn,Bool.false_and] at h;cases h)];exact bp a))
abbrev Pa(K:zz8)(a:iN):It:=
 {λi H=>∃xs x,eW K H a xs/\xs[i]?=hT x,λi H x b=>b=H/\∀xs,eW K H a xs->xs[i]?=hT x,λi H=>∃xs,eW K H a xs/\xs.length<=i}
abbrev Pb(K:zz8)(a:iN):It:=
 {λi H=>∃xs x,dF K H a xs/\xs[i]?=hT x,λi H x b=>b=H/\∀xs,dF K H a xs->xs[i]?=hT x,λi H=>∃xs,dF K H a xs/\xs.length<=i}
abbrev L6(a:Int)(n:Nat):It:={λi Z=>i<n,λi H x b=>b=H/\x=.int (a+i),λi Z=>n<=i}
def zV{K:zz8}{O:iO}(a it:iN):Turn P w K O (Pa K a) [it] it (λi h=>h.IsListIter it a i) where
 mem:=by simp
 obj:=λi h st b f=>by have e:b=it:=zx6 f;subst e;let(o,e,c,d):=st;exact{o,e,λv z=>by rw [d] at z;cases z}
 keep:=λi h g st k=>st.at λo e=>k it (by simp) o e
 item:=by intro X q r hK J i L s M H E I j st t;subst q r hK;let(xs,x,m,y):=t;let(Q,A,p,R):=I.list m;let(u,S,T):=A.get y;let(B,C,U,D,F,G):=j it (by simp);refine wpAny_pyNext_list_item st p.isList (x:=u) (zx6 S) λg N V=>?_;have W:Inv X L M H {s with heap:=g}:=I.turned (t':=s.toks) (λb o f e=>(V.2 b f).trans e) B C D F G;let(o,e,c,d):=id N;exact{u,rfl,tj (s:={s with heap:=g}) e c d (by decide) {x,H,W,T,{rfl,λys Y=>by rw [I.tW Y m];exact y},N,λb f=>(j b f).1}}
 done:=by intro X q r hK J i L s M H E I j st t;subst q r hK;let(xs,m,y):=t;let(Q,A,p,R):=I.list m;let(B,C,U,D,F,G):=j it (by simp);have hl:=A.length;exact wpAny_pyNext_list_end (I.ok.hd J) st p.isList (by simp;omega) λg Z=>{rfl,I.turned (t':=s.toks) (λb o f e=>Z b o f e) B C D F G}
 self:=λ_ _ _ _ _ st h=>wpAny_pyIter_listiter st h
def wA{K:zz8}{Q:iO}(a it:iN):Turn P w K Q (Pb K a) [it] it (λi h=>h.IsTupleIter it a i) where
 mem:=by simp
 obj:=λi h st b f=>by have e:b=it:=zx6 f;subst e;let(o,e,c,d):=st;exact{o,e,λv z=>by rw [d] at z;cases z}
 keep:=λi h g st k=>st.at λo e=>k it (by simp) o e
 item:=by intro X q r hK L i M s N H E I j st t;subst q r hK;let(xs,x,m,y):=t;let(A,B,p,R):=I.tuple m;let(u,S,T):=B.get y;let(C,D,U,F,G,J):=j it (by simp);refine wpAny_pyNext_tuple_item st (show s.heap.IsTuple a A.toArray from p) (x:=u) (zx6 S) λg O V=>?_;have W:Inv X M N H {s with heap:=g}:=I.turned (t':=s.toks) (λb o f e=>(V.2 b f).trans e) C D F G J;let(o,e,c,d):=id O;exact{u,rfl,tj (s:={s with heap:=g}) e c d (by decide) {x,H,W,T,{rfl,λys Y=>by rw [I.qa Y m];exact y},O,λb f=>(j b f).1}}
 done:=by intro X q r hK L i M s N H E I j st t;subst q r hK;let(xs,m,y):=t;let(A,B,p,R):=I.tuple m;let(C,D,U,F,G,J):=j it (by simp);have hl:=B.length;exact wpAny_pyNext_tuple_end (I.ok.hd L) st (show s.heap.IsTuple a A.toArray from p) (by simp;omega) λg Z=>{rfl,I.turned (t':=s.toks) (λb o f e=>Z b o f e) C D F G J}
 self:=λ_ _ _ _ _ st h=>wpAny_pyIter_tupleiter st h
def wz{w:i3}{K:zz8}{G:iO}(it:iN)(c:Int)(n:Nat):Turn P w K G (L6 c n) [it] it (λi h=>IsRangeIter h it (c+(i:Nat)*1) ((n:Int)-(i:Nat)) 1) where
 mem:=by simp
 obj:=λi h st b a=>by have e:b=it:=zx6 a;subst e;exact{_,st,λv z=>by have J:Data.fields _=Data.cell v:=z;cases J}
 keep:=λi h d st k=>k it (by simp) _ st
 item:=by intro X g j hK m i B s C H E I f st p;subst g j hK;let(q,r,L,u,y,A):=f it (by simp);have W:=Walks.range (prog:=X.prog) (w:=X.w) (I.ok.hd m) it c 1 n;refine W.item i s _ _ p st λv d D M F N=>?_;let(t,rfl):=M;have O:Inv X B C H {s with heap:=d,toks:=D}:=I.turned (λb o a e=>N b o (zx6 a) e) q r u y A;refine{_,rfl,tj (s:={s with heap:=d,toks:=D}) (n:="range_iterator") F rfl rfl (by decide) {.int (c+i),H,O,{t,?_},⟨rfl,rfl⟩,F,λb a=>(f b a).1}};rw [Int.mul_one]
 done:=by intro X g j hK m i B s C H E I f st p;subst g j hK;let(q,r,L,u,y,A):=f it (by simp);exact wpAny_pyNext_range_end (I.ok.hd m) st (by have:n<=i:=p;omega) λd Q=>{rfl,I.turned (t':=s.toks) (λb o a e=>Q b o a e) q r u y A}
 self:=λZ Z Z Z Z st h=>wpAny_pyIter_rangeiter st h
section
variable{tg:iO}
abbrev Hg(K:zz8)(c:TE):TI:=λd H R=>c d H λx b=>∃a,x=.ref a/\(∃xs,eW K b a xs)/\R (Pa K a) b
abbrev Qx(K:zz8)(c:TE):TI:=λd H R=>c d H λx b=>∃a,x=.ref a/\(∃xs,dF K b a xs)/\R (Pb K a) b
def qX{l:iO}{g:TE}(hl:PE X l g):PI X tg l (Hg X.K g):=by intro i s j H R I h;refine bb (hl i s j H _ I h) λv c f=>?_;let(x,k,d,m,q1):=f;let(a,e,(xs,r),q):=q1;subst e;cases m;let(u,w,p,y):=d.list r;refine wpAny_pyIter_list p.isList ?_;refine{(zz9 c),[(zz9 c)],_,_,k,rfl,d.kept (t':=c.toks) λb o e=>aT _ e,zV a _,{_,dI _ rfl,rfl,rfl},λb t=>?_,q};have e:b=(zz9 c):=zx6 t;subst e;exact d.mV (a8 _) (d.aJ.fresh (a8 _))
def KG{l:iO}{g:TE}(hl:PE X l g):PI X tg l (Qx X.K g):=by intro i s j H R I h;refine bb (hl i s j H _ I h) λv c f=>?_;let(x,k,d,m,q1):=f;let(a,e,(xs,r),q):=q1;subst e;cases m;let(t,w,p,y):=d.tuple r;refine wpAny_pyIter_tuple (show c.heap.IsTuple a t.toArray from p) ?_;refine{(zz9 c),[(zz9 c)],_,_,k,rfl,d.kept (t':=c.toks) λb o e=>aT _ e,wA a _,{_,dI _ rfl,rfl,rfl},λb u=>?_,q};have e:b=(zz9 c):=zx6 u;subst e;exact d.mV (a8 _) (d.aJ.fresh (a8 _))
def uu{d:St}{s:iM}{R:It->Hp->Prop}{E:lq}{a c:Int}{t u v:Tok}{tk:Nat}(I:Inv X aa d H s)(g: -(2^62)<=a)(h:a<2^62)(i: -(2^62)<=c)(j:c<2^62)
 (q:R (L6 a (c-a).toNat) H):zx7 X (pyIter (.ref (zz9 s))) (Pc X aa d tg R) E {s with heap:=s.heap.push {cls:=.type "range",data:=.fields #[.int a t,.int c u,.int 1 v]},toks:=tk}:=by
 refine wpAny_pyIter_range (IsRange.new ..) (small_one g h i j) ?_;have f:Inv X aa d H {s with heap:=s.heap.push {cls:=.type "range",data:=.fields #[.int a t,.int c u,.int 1 v]},toks:=tk}:=I.kept λb o e=>aT _ e
 refine{(s.heap.push {cls:=.type "range",data:=.fields #[.int a t,.int c u,.int 1 v]}).objs.size,[(s.heap.push {cls:=.type "range",data:=.fields #[.int a t,.int c u,.int 1 v]}).objs.size],_,_,H,rfl,
  f.kept (t':=tk) λb o e=>aT _ e,wz _ a (c-a).toNat,?_,λb k=>?_,q}
 .have m:a+((0:Nat):Int)*1=a:=by simp
  have p:(((c-a).toNat:Nat):Int)-((0:Nat):Int)=kr.Range.rangeSize a c 1:=by rw [rangeSize_one];split<;>omega
  show IsRangeIter _ _ (a+((0:Nat):Int)*1) ((((c-a).toNat:Nat):Int)-((0:Nat):Int)) 1;rw [m,p];exact dI _ rfl
 .have e:b=(s.heap.push {cls:=.type "range",data:=.fields #[.int a t,.int c u,.int 1 v]}).objs.size:=zx6 k;subst e;exact f.mV (a8 _) (f.aJ.fresh (a8 _))
abbrev Nd(a:TA):TI:=λb H R=>a b H λc d=>∃j:Int,c=[.int j]/\ -(2^62)<=j/\j<2^62/\R (L6 0 j.toNat) d
abbrev Nf(a:TA):TI:=λb H R=>a b H λc d=>∃i j:Int,c=[.int i,.int j]/\(-(2^62)<=i/\i<2^62/\ -(2^62)<=j/\j<2^62)/\R (L6 i (j-i).toNat) d
theorem zE{a:iO}{c:TA}{p:Pos}(d:Gl X "range")(hm:X.mg "range"=ie)(f:PA X [a] c)(hs:starEach [a] X.env=[(iv,eval a X.env)]:=by rfl):PI X tg (.Call (.Name "range" p) [a] [] pos) (Nd c):=by
 intro g s i H R I h;refine Call_ (dX I d hm boot_range (PyProof.Rows.callWith_type1 (bb (f pos g s i H _ I h) λu w b=>?_) hs rfl));let(y,z,k,m,q1):=b;let(j,e,q1,q2,q):=q1
 subst e;cases m with
 |cons r o=>cases o;let(t,rfl):=r;exact call_range_1 (uu k (by omega) (by omega) q1 q2 (zx6 q))
theorem zF{a b:iO}{f:TA}{p:Pos}(k:Gl X "range")(hm:X.mg "range"=ie)(m:PA X [a,b] f)(hs:starEach [a,b] X.env=[(iv,eval a X.env),(iv,eval b X.env)]:=by rfl)(g:starEach [b] X.env=[(iv,eval b X.env)]:=by rfl):
 PI X tg (.Call (.Name "range" p) [a,b] [] pos) (Nf f):=by
 intro o s u H R I h;refine Call_ (dX I k hm boot_range (PyProof.Rows.callWith_type1 (bb (m pos o s u H _ I h) λB C c=>?_) (by rw [hs,g]) (by rw [g];rfl)));let(D,E,w,y,q1):=c;let(i,j,e,(q1,q2,q3,z),q):=q1
 subst e;cases y with
 |cons r d=>
  cases d with
  |cons A d=>cases d;let(t,rfl):=r;let(F,rfl):=A;exact call_range_2 (uu w q1 q2 q3 z q)
abbrev RC(f:TI)(g:TG)(tb:TS):TS:=λD a H=>f a H λJ h=>∃W:Nat->Nat->St->Hp->Prop,(∃m,W 0 m a h)/\∀i m a H,W i m a H->
 (J.stop i H/\D.nx a H)\/(J.go i H/\∃N:St->Hp->Prop,(∀b c,N b c->∃e,e<m/\W (i+1) e b c)/\∀x c,J.Lp i H x c->g x a c λd j=>tb {D with nx:=N,ct:=N,bk:=D.nx} d j)
abbrev qY(fp:List iN)(h:j2):lu:=fp.filterMap λb=>(h.get? b).map λo=>(b,o)
def dc{fp:List iN}{b:iN}(a:b∈fp)(e:h.get? b=hT o):(b,o)∈qY fp h:=fP.mpr {b,a,by rw [e];rfl}
def zw{fp:List iN}{p:iN×Obj}(a:p∈qY fp h):p.1∈fp/\h.get? p.1=hT p.2:=by
 let(b,c,e):=fP.mp a
 cases q:h.get? b with
 |none=>rw [q] at e;cases e
 |some o=>rw [q] at e;have d:(b,o)=p:=zzq e;subst d;exact⟨c,q⟩
theorem Inv.pinned{a:St}{s:iM}{fp:List iN}(I:Inv X aa a H s)(g:∀b∈fp,hX X aa H b)(h:∀b∈fp,∃o,s.heap.get? b=hT o/\∀v,o.data≠.cell v):Inv X (aa++qY fp s.heap) a H s:=
 I.l7 λp i=>(List.mem_append.mp i).elim (λz=>I.pin p (cD _ z)) λz=>by let(c,e):=zw z;let(j,k,m,_):=g p.1 c;let(o,f,d):=h p.1 c;rw [e] at f;cases f;exact⟨e,j,k,m,d⟩
def Inv.kf{b:lu}{a:St}{s:iM}(I:Inv X (aa++b) a H s):Inv X aa a H s:=I.l7 λp c=>I.pin p (cD _ (d0 _ c))
def CT{iter:iO}{body:List j7}{V:TI}{g:TG}{tb:TS}(F:PassesOwn (jj X.prog X.w) X.A X.env X.xe)(Y:X.calm=ig)(hi:PI X tg iter V)(hg:PG X tg g)(c:oV X body tb)
 (hs:∀x,foldedSetIterable iter X.env x=pure x:=by intro _;rfl):PS X (.For tg iter body [] pos) (RC V g tb):=by
 intro B s Z H D I h;refine wpAny_For (bb (hi B s Z H _ I h) λv s1 h1=>bb h1 λOO s2 h2=>?_) hs;let(it,fp,tn,J,H2,e,I2,T,D4,f2,W,(m0,w0),G):=h2;subst e;have P:∀{y:Hp},(∀b∈fp,y b=ie)->∀b∈fp,hX X B y b:=λhn b c=>{hn b c,(f2 b c).2};refine codeAny_forLoop_any (λn s'=>∃i j y,Inv X B j y s'/\tn i s'.heap/\(∀b∈fp,y b=ie)/\W i n j y) ?_ m0 {0,Z,H2,I2,D4,λb c=>(f2 b c).1,w0}
 rintro n s3 ⟨i,k,O,I3,K,L,w3⟩
 rcases G i n k O w3 with⟨stop,qn⟩|⟨go,N,hN,step⟩
 .refine wpAny_passesOwn F (bb (T.done X rfl rfl rfl Y i B s3 k O X.xe I3 (P L) K stop) λr s4 ⟨Q,I4⟩=>?_);subst Q;exact wpAny_execs_nil ⟨k,O,I4,qn⟩
 .refine wpAny_passesOwn F (bb (T.item X rfl rfl rfl Y i B s3 k O X.xe I3 (P L) K go) λr s4 ⟨u,Q,h4⟩=>?_);subst Q;refine wpAny_passesOwn F (bb h4 λ_ s5 C=>?_);let(x,H5,I5,r5,y5,E,R):=C;have O6:=I5.pinned (P R) (T.obj _ _ E);refine wpAny_passesOwn F (bb (hg _ s5 k H5 x u _ O6 r5 (step x H5 y5)) λ_ s6 C=>?_);let(S,H6,I6,q6):=C;refine wpAny_passesOwn F (bb (c _ s6 S H6 _ I6 q6) λf U z=>?_);have p:∀{a:St} {q:Hp},Inv X (B++qY fp s5.heap) a q U->N a q->∃m,m<n/\∃i j y,Inv X B j y U/\tn i U.heap/\(∀b∈fp,y b=ie)/\W i m j y:=λ{a q} t M=>by let(m',hm,w7):=hN a q M;refine{m',hm,i+1,a,q,t.kf,T.keep _ _ _ E λb c o e=>(t.pin (b,o) (cD _ (cD _ (dc c e)))).1,λb c=>?_,w7};let(o,e,d):=T.obj _ _ E b c;exact(t.pin (b,o) (cD _ (cD _ (dc c e)))).2.1
  cases f with
  |next=>let(a,q,t,M):=z;exact p t M|cont=>let(a,q,t,M):=z;exact p t M|brk=>let(a,q,t,z):=z;exact⟨a,q,t.kf,z⟩|ret v=>let(x7,a,q,t,r7,z):=z;exact⟨x7,a,q,t.kf,r7,z⟩
end
noncomputable abbrev R2:=V->V->Hp->VK->Prop
def d5(X:Cx)(f:ix->ix->Sem ix)(r:R2):Prop:=
 ∀(a:lu) (s:iM) (b:St) (H:Hp) (x y:V) (v u:ix) (Q:VK),Inv X a b H s->RelV x v->RelV y u->r x y H Q->
  zx7 X (f v u) (EP X a b Q) X.xe s
def Ox(X:Cx)(f:ix->Sem ix)(r:V->Hp->VK->Prop):Prop:=
 ∀(a:lu) (s:iM) (b:St) (H:Hp) (x:V) (v:ix) (Q:VK),Inv X a b H s->RelV x v->r x H Q->
  zx7 X (f v) (EP X a b Q) X.xe s
def bP(X:Cx)(f:ix)(r:List V->Hp->VK->Prop):Prop:=
 ∀(a:lu) (s:iM) (b:St) (H:Hp) (xs:List V) (c:List ix) (Q:VK),Inv X a b H s->Vals xs c->r xs H Q->
  zx7 X (call f c) (EP X a b Q) X.xe s
abbrev L0(r:R2)(b tb:TE):TE:=λa H Q=>b a H λx c=>tb a c λy d=>r x y d Q
abbrev Wa(r:V->Hp->VK->Prop)(a:TE):TE:=λb H Q=>a b H λx c=>r x c Q
abbrev rI(C:Int->Int->Prop)(g:Int->Int->V):R2:=λx y H Q=>∃i j,x=.int i/\y=.int j/\C i j/\Q (g i j) H
abbrev Ht(g:Int->Int->V):R2:=λx y H Q=>∃i j,x=.int i/\y=.int j/\Q (g i j) H
def rU(g:Int->V):V->Hp->VK->Prop:=λx H Q=>∃i,x=.int i/\Q (g i) H
section
variable{a b:iO}{ta tb:TE}
def HS(k:PE X a ta)(m:PE X b tb){s:iM}{d:St}{R:V->V->Hp->Prop}(I:Inv X aa d H s)
 (h:ta d H λx H1=>tb d H1 λy e=>R x y e) {Q:lq} {f:ix->ix->Sem ix}
 (hf:∀v u j x y e,Inv X aa d e j->RelV x v->RelV y u->R x y e->zx7 X (f v u) Q X.xe j):
 zx7 X (eval a X.env) (λv g=>zx7 X (eval b X.env) (λu i=>zx7 X (f v u) Q X.xe i) X.xe g) X.xe s:=by
 refine bb (k aa s d H _ I h) λv o c=>?_;let(x,H1,p,q,q1):=c;refine bb (m aa o d H1 _ p q1) λu j c=>?_;let(y,e,r,t,q2):=c;exact hf v u j x y e r q t q2
def NM{op:Operator}{r:R2}(c:d5 X (binaryOp op) r)(d:PE X a ta)(e:PE X b tb):PE X (.BinOp a op b pos) (L0 r ta tb):=by intro f s g H Q I h;exact wpAny_BinOp (HS d e I h λv u i x y j k m o q=>c f i g j x y v u Q k m o q)
def NO{op:UnaryOp}{r:V->Hp->VK->Prop}(e:Ox X (unaryOp op) r)(f:PE X a ta):PE X (.UnaryOp op a pos) (Wa r ta):=by intro c s d H Q I h;exact UnaryOp_ (bb (f c s d H _ I h) λv g ⟨x,H1,i,j,q1⟩=>e c g d H1 x v Q i j q1)
def Ra{f:ix->ix->Sem ix}{C:Int->Int->Prop}{g:Int->Int->Int}
 (rule:∀(i j:Int) (t u:Tok) (s:iM) (Q:lq) (E:lq),C i j->Q (.int (g i j) s.toks) {s with toks:=s.toks+1}->zx7 X (f (.int i t) (.int j u)) Q E s):
 d5 X f (rI C λi j=>.int (g i j)):=by
 intro m s o H x y v u Q I c d h;let(i,j,rfl,rfl,e,q):=h;let(t,rfl):=c;let(k,rfl):=d;exact rule i j t k s _ _ e {.int (g i j),H,I.tok _,{_,rfl},q}
def ND{f:ix->ix->Sem ix}{g:Int->Int->Int}
 (rule:∀(i j:Int) (t u:Tok) (s:iM) (Q:lq) (E:lq),Q (.int (g i j) s.toks) {s with toks:=s.toks+1}->zx7 X (f (.int i t) (.int j u)) Q E s):
 d5 X f (Ht λi j=>.int (g i j)):=by
 intro k s m H x y v u Q I c d h;let(i,j,rfl,rfl,q):=h;let(t,rfl):=c;let(e,rfl):=d;exact rule i j t e s _ _ {.int (g i j),H,I.tok _,{_,rfl},q}
def FG{f:ix->ix->Sem ix}{g:Int->Int->Bool}
 (rule:∀(i j:Int) (t u:Tok) (s:iM) (Q:lq) (E:lq),Q (.bool (g i j)) s->zx7 X (f (.int i t) (.int j u)) Q E s):
 d5 X f (Ht λi j=>.bl (g i j)):=by
 intro k s m H x y v u Q I c d h;let(i,j,rfl,rfl,q):=h;let(t,rfl):=c;let(e,rfl):=d;exact rule i j t e s _ _ {.bl (g i j),H,I,rfl,q}
def O3(i j:Int):Prop:=0<j/\j<1073741824
def HF(i j:Int):Prop:=(-(2^64)<i/\i<2^64)\/(-(2^64)<j/\j<2^64)
def HF.ok{i j:Int}(h:HF i j):IntMulOk i j:=by
 rcases h with⟨c,d⟩|⟨c,d⟩
 .exact .of_left (intBits_le_64 c d)
 .exact .of_right (intBits_le_64 c d)
def Kb:d5 X (binaryOp .Add) (Ht λi j=>.int (i+j)):=ND λZ Z Z Z Z Z Z q=>add_int q
def Kq:d5 X (binaryOp .Sub) (Ht λi j=>.int (i-j)):=ND λZ Z Z Z Z Z Z q=>sub_int q
def Kn:d5 X (binaryOp .Mult) (rI HF λi j=>.int (i*j)):=Ra λZ Z Z Z Z Z Z c q=>mul_int q c.ok
theorem FK:d5 X (binaryOp .FloorDiv) (rI O3 λi j=>.int (i/j)):=Ra λi j Z Z Z Z Z c q=>by have d:(0:Int)<j:=c.1;have e:j<1073741824:=c.2;exact floordiv_int (by omega) (by rw [Int.fdiv_eq_ediv_of_nonneg i (by omega)];exact q) (.inl (PyProof.noPylong_small (by omega)))
theorem Km:d5 X (binaryOp .Mod) (rI (λZ j=>0<j) λi j=>.int (i%j)):=Ra λi j Z Z Z Z Z c q=>by have d:(0:Int)<j:=c;exact mod_int' (by omega) (by rw [Int.fmod_eq_emod_of_nonneg i (by omega)];exact q)
def Wi{f:ix->Sem ix}{g:Int->Int}
 (rule:∀(i:Int) (t:Tok) (s:iM) (Q:lq) (E:lq),Q (.int (g i) s.toks) {s with toks:=s.toks+1}->zx7 X (f (.int i t)) Q E s):
 Ox X f (rU λi=>.int (g i)):=by
 intro d s e H x v Q I c h;let(i,rfl,q):=h;let(t,rfl):=c;exact rule i t s _ _ {.int (g i),H,I.tok _,{_,rfl},q}
def Ln:Ox X (unaryOp .USub) (rU λi=>.int (-i)):=Wi λZ Z Z Z Z q=>neg_int q
variable{c:iO}{tc:TE}
def mU{d:St}{s:iM}{k f:Bool}(I:Inv X aa d H s)(q:Q (.bl k) H)(e:k=f):EP X aa d Q (.bool f) s:=by subst e;exact{.bl k,H,I,rfl,q}
def NI:d5 X (compareOp .Lt) (Ht λi j=>.bl (decide (i<j))):=FG λZ Z Z Z Z Z Z q=>lt_int q
def NH:d5 X (compareOp .LtE) (Ht λi j=>.bl (decide (i<=j))):=FG λZ Z Z Z Z Z Z q=>le_int q
def NG:d5 X (compareOp .Gt) (Ht λi j=>.bl (decide (j<i))):=FG λZ Z Z Z Z Z Z q=>gt_int q
def NF:d5 X (compareOp .GtE) (Ht λi j=>.bl (decide (j<=i))):=FG λZ Z Z Z Z Z Z q=>ge_int q
def zA:d5 X (compareOp .In) (λx y H Q=>∃i j,x=.str i/\y=.str j/\Q (.bl (!(kr.Str.occurrences j i 0 j.length 1).isEmpty)) H):=by intro f s g H x y v u Q I d e h;let(i,j,rfl,rfl,q):=h;let(t,rfl):=d;let(k,rfl):=e;exact in_str (mU I q rfl)
def Kh:d5 X (compareOp .Is) (λx y H Q=>y=.aE/\Q (.bl (decide (x=.aE))) H):=by
 intro f s g H x y v u Q I d e h;let(rfl,q):=h
 cases e;refine is_none_gen (mU I q ?_);cases x<;>first
  |(cases d;rfl)
  |(let(t,rfl):=d;rfl)
def qV:d5 X (compareOp .NotIn) (λx y H Q=>∃i j,x=.str i/\y=.str j/\Q (.bl (!(!(kr.Str.occurrences j i 0 j.length 1).isEmpty))) H):=by intro f s g H x y v u Q I d e h;let(i,j,rfl,rfl,q):=h;let(t,rfl):=d;let(k,rfl):=e;exact notIn_str (mU I q rfl)
def QW(b:iO){op:CmpOp}(h:op≠.In:=by decide)(d:op≠.NotIn:=by decide):behindInMarks op b=iv:=by
 have e:(op==CmpOp.In)=iv:=by cases op<;>first|rfl|exact absurd rfl h
 have f:(op==CmpOp.NotIn)=iv:=by cases op<;>first|rfl|exact absurd rfl d
 cases b<;>simp [behindInMarks,e,f]
def xJ{op:CmpOp}{r:R2}(d:d5 X (compareOp op) r)(e:PE X a ta)(f:PE X b tb)(hm:behindInMarks op b=iv):PE X (.Compare a [op] [b] pos) (L0 r ta tb):=by intro g s i H Q I h;exact wpAny_Compare1 (HS e f I h λv u j x y k m o p q=>d g j i k x y v u Q m o p q) hm
abbrev DB(t:TE):TT:=λd H Q=>t d H λx e=>∃k,x=.bl k/\Q k e
def xO{op:CmpOp}{r:R2}(g:d5 X (compareOp op) r)(i:PE X a ta)(j:PE X b tb)(hm:behindInMarks op b=iv):PT X (.Compare a [op] [b] pos) (DB (L0 r ta tb)):=by intro d s f H Q I h;refine wpAny_isTrue_Compare1 (bb (i d s f H _ I h) λv m ⟨x,H1,o,p,q1⟩=>bb (j d m f H1 _ o q1) λu q ⟨y,t,w,A,q2⟩=>bb (g d q f t x y v u _ w p A q2) λc D ⟨z,B,C,r3,k,e,q3⟩=>?_) hm;subst e;cases r3;exact wpAny_truthy_bool ⟨B,C,q3⟩
abbrev wj(r f:R2)(ta tb tc:TE):TE:=λd H Q=>ta d H λx g=>tb d g λy h=>r x y h λz e=>∃k,z=.bl k/\
 (if k=ig then tc d e λi j=>f y i j Q else Q (.bl iv) e)
def Cs{op i:CmpOp}{r j:R2}(q:d5 X (compareOp op) r)(t:d5 X (compareOp i) j)(w:PE X a ta)(A:PE X b tb)(B:PE X c tc)
 (hm:lastMarks [op,i] [b,c]=iv:=by with_unfolding_all rfl):PE X (.Compare a [op,i] [b,c] pos) (wj r j ta tb tc):=by
 intro f s g H Q I h;refine Compare_chain (bb (w f s g H _ I h) λv C ⟨x,H1,D,E,q1⟩=>chain_link (bb (A f C g H1 _ D q1) λu F ⟨y,G,J,m,q2⟩=>bb (q f F g G x y v u _ J E m q2) λd K ⟨z,o,p,r3,k,e,q3⟩=>?_)) hm
 subst e;cases r3;refine wpAny_truthy_bool ?_;cases k with
 |false=>exact ite_ff {.bl iv,o,p,rfl,q3}|true=>exact ite_tt (chain_last (bb (B f K g o _ p q3) λL M ⟨N,O,P,R,S⟩=>t f M g O y N u L Q P m R S))
def CZ{op i:CmpOp}{r m:R2}(t:d5 X (compareOp op) r)(w:d5 X (compareOp i) m)(A:PE X a ta)(B:PE X b tb)(C:PE X c tc)
 (hm:lastMarks [op,i] [b,c]=iv:=by with_unfolding_all rfl):PT X (.Compare a [op,i] [b,c] pos) (DB (wj r m ta tb tc)):=by
 intro f s g H Q I h;refine isTrue_chain (bb (A f s g H _ I h) λv D ⟨x,H1,E,F,q1⟩=>test_link (bb (B f D g H1 _ E q1) λu G ⟨y,J,K,o,q2⟩=>bb (t f G g J x y v u _ K F o q2) λd L ⟨z,p,q,r3,k,e,q3⟩=>?_)) hm
 subst e;cases r3;refine wpAny_truthy_bool ?_;cases k with
 |false=>let(k',M,N):=q3;cases M;exact ite_ff ⟨p,q,N⟩
 |true=>refine ite_tt (test_last (bb (C f L g p _ q q3) λO P ⟨R,S,T,U,V⟩=>bb (w f P g S y R u O _ T o U V) λd' s5 j=>?_));let(z2,W,Y,Z,k2,e2,q5):=j;subst e2;cases Z;exact wpAny_truthy_bool ⟨W,Y,q5⟩
def nh:(j3:Nat)<2^63:=by rw [sizeLine_eq];decide
def vN:d5 X (binaryOp .Add) (λx y H Q=>∃i j,x=.str i/\y=.str j/\i.length+j.length<=j3/\Q (.str (i++j)) H):=by intro k s m H x y v u Q I d e h;let(i,j,rfl,rfl,f,q):=h;let(t,rfl):=d;let(g,rfl):=e;exact add_str (λg o=>{.str (i++j),H,I.tok _,{_,rfl},q}) f
def vals1{x:V}(r:Vals [x] us):∃u,us=[u]/\RelV x u:=by
 cases r with
 |cons d e=>cases e;exact{_,rfl,d}
def vals2{x y:V}(r:Vals [x,y] us):∃u d,us=[u,d]/\RelV x u/\RelV y d:=by
 cases r with
 |cons e f=>
  cases f with
  |cons r3 g=>cases g;exact{_,_,rfl,e,r3}
def yn(e:X.calm=ig):bP X (.builtin "max") (λxs H Q=>∃i j,xs=[.int i,.int j]/\Q (.int (if j>i then j else i)) H):=by
 intro f s g H xs m Q I r h;let(i,j,rfl,q):=h;let(u,o,rfl,(t,rfl),(p,rfl)):=vals2 r;refine max_two_ints (I.ok.hd e) λw y k=>{_,H,I.kept k,?_,q};by_cases d:j>i
 .rw [if_pos d,if_pos d];exact{_,rfl}
 .rw [if_neg d,if_neg d];exact{_,rfl}
def yq(e:X.calm=ig):bP X (.builtin "min") (λxs H Q=>∃i j,xs=[.int i,.int j]/\Q (.int (if j<i then j else i)) H):=by
 intro f s g H xs m Q I r h;let(i,j,rfl,q):=h;let(u,o,rfl,(t,rfl),(p,rfl)):=vals2 r;refine min_two_ints (I.ok.hd e) λw y k=>{_,H,I.kept k,?_,q};by_cases d:j<i
 .rw [if_pos d,if_pos d];exact{_,rfl}
 .rw [if_neg d,if_neg d];exact{_,rfl}
def pe:bP X (.type "int") (λxs H Q=>(∃i,xs=[.int i]/\Q (.int i) H)\/∃k,xs=[.bl k]/\Q (.int (if k then 1 else 0)) H):=by
 intro e s f H xs g Q I r h;rcases h with⟨i,rfl,q⟩|⟨k,rfl,q⟩
 .let(u,rfl,t,rfl):=vals1 r;exact call_int_int {.int i,H,I,{_,rfl},q}
 .let(u,rfl,d):=vals1 r;cases d;exact call_int_bool {.int (if k then 1 else 0),H,I.tok _,{_,rfl},q}
def qq:bP X (.type "str") (λxs H Q=>∃i,xs=[.int i]/\i.natAbs.log2<1920/\Q (.str (toString i)) H):=by intro e s f H xs g Q I r h;let(i,rfl,d,q):=h;let(u,rfl,t,rfl):=vals1 r;exact PySem.P.str_of_int d {.str _,H,I.tok _,{_,rfl},q}
end
structure uT(h:j2)(x dx C:iN)(mA:Str->Option ix):Prop where
 obj:h.get? x=hT (PySem.W.instObj C dx)
 ns:h.Ns1 dx mA
 ne:dx≠x
def za{dx:iN}{c:Str->Option ix}(n:h.Ns1 dx c):∃d,h.get? dx=hT d/\∀name,PySem.W.lookIn name d=hT (c name):=by
 let(o,f,k,g,hd,hk,_,hm):=n;refine{o,g,λname=>?_};have e:=hm name;unfold nsFind findBy at e;rw [<-Array.find?_toList] at e;unfold PySem.W.lookIn;rw [hd];dsimp only;split
 .rename_i y q;rw [q] at e;exact congrArg hT e
 .rename_i q;rw [q] at e;have a:f.toList.any (·.refKey)=iv:=by
   rw [List.any_eq_false];intro y i;let(z,t,b):=hk y (Array.mem_toList_iff.mp i);simp [DictEntry.refKey,b]
  have j:¬f.toList.any (·.refKey)=ig:=by rw [a];exact zzf
  rw [if_neg j];exact congrArg hT e
theorem uT.look{x dx C:iN}{b:Str->Option ix}(I:uT h x dx C b):∃a,PySem.W.InstAt h x (PySem.W.instObj C dx) C (hT a)/\∀name,PySem.W.lookIn name a=hT (b name):=
 let⟨a,c,hl⟩:=za I.ns
 {a,⟨I.obj,rfl,rfl,c⟩,hl}
section
variable{E:lq}{s:iM}{K:zz8}{x dx C f:iN}{mA:Str->Option ix}{name:Str}{v:ix}
def get_map{expr:Bool}{Q:lq}(X:K.In s.heap)(I:uT s.heap x dx C mA)(a:PySem.W.plainGet K C name=ig)(b:PySem.W.hasDictIn K C=ig)
 (c:PySem.W.findIn K (.ref C) name=hT ie) (d:mA name=hT v) (e:PySem.W.handedIn v=ig) (h:Q v {s with toks:=s.toks+1}):
 i1 (jj prog w) A (getAttr (.ref x) name expr) Q E s:=by
 let(g,J,hl):=I.look;exact PySem.W.get_value X J (PySem.W.plainGet_of a).1 (PySem.W.findObj_own b c rfl (by rw [hl,d])) e h
def Bf{b:Sem Bool}{Q:ix×List ix->iM->Prop}(X:K.In s.heap)(I:uT s.heap x dx C mA)(a:PySem.W.plainGet K C name=ig)
 (hf:PySem.W.findIn K (.ref C) name=hT (hT (.ref f))) (c:PySem.W.isFn K (.ref f)=ig) (d:mA name=ie) (h:Q (.ref f,[.ref x]) s):
 i1 (jj prog w) A (getMethod (.ref x) name b) Q E s:=by
 let(e,J,hl):=I.look;exact PySem.W.method_fn X J (PySem.W.plainGet_of a).1 (PySem.W.plainGet_of a).2 hf (zzy.mp c) (by show(PySem.W.lookIn name e).map (·.isSome)=hT iv;rw [hl,d];rfl) h
def Gf{ns:List Str}{Q:Unit->iM->Prop}(X:K.In s.heap)(I:uT s.heap x dx C mA)
 (hs:PySem.W.findIn K (.ref C) "__setattr__"=hT (hT (.builtin "object.__setattr__"))) (k:PySem.W.plainOver K C=ig) (m:PySem.W.takerIn K C name=hT ie) (o:PySem.W.hasDictIn K C=ig)
 (hw:PySem.Within mA ns) (hsz:ns.length<=j3)
 (h:∀h',uT h' x dx C (λy=>if y=name then hT v else mA y)->j2.SameBut dx s.heap h'->Q () {s with heap:=h',toks:=s.toks+2}):
 i1 (jj prog w) A (setAttr (.ref x) name v) Q E s:=by
 let(z,J,hl):=I.look;refine PySem.W.set_plain X J hs (PySem.W.osa_open (s:={s with toks:=s.toks+1}) (r:=ie) X J k m λb=>?_);let(B,p,c):=PySem.W.any_some o;have q:s.heap.get? x=hT {.ref C,hT dx,.plain,#[]}:=I.obj;refine ar (bp (ar (ar (wpAny_loadPart q (ar (PySem.W.Looks.here (s:={s with toks:=s.toks+1}) (PySem.W.looks_clsIn X p) ?_))))));rw [c];refine bp (a:=hT dx) (ar (bp (ar ?_)));refine wpAny_nsSet1 (s:={s with toks:=s.toks+1}) I.ns λh' i j=>?_;let(D,t,u,d,e,g):=i.count (PySem.Within.cons name v hw);refine ar (wpAny_lookBehind d (by rw [e];exact pastItsLine_dict (c0 g (by rw [bE];omega))) ?_);exact bp (h _ {(j.2 _ (Ne.symm I.ne)).trans I.obj,i,I.ne} j)
def BW{R:Result->iM->Prop}{vs:List ix}{a:List (Str×ix)}(X:K.In s.heap)(hm:PySem.W.makesIn K C=ig)
 (b:PySem.W.findIn K (.ref C) (zu 10)=hT (hT (.ref f))) (c:PySem.W.typeIn K (.ref f)=hT (.type "function"))
 (h:codeAny (jj prog w) (A.under (.builtin "type.__call__" {.ref C::vs,a})) (.call (.ref f) {.ref ((zz9 s)+1)::vs,a}) (PySem.W.InitBack ((zz9 s)+1) R)
  {s with heap:=(s.heap.push PySem.W.emptyDict).push (PySem.W.instObj C (zz9 s))}):
 codeAny (jj prog w) A (.call (.ref C) ⟨vs,a⟩) R s:=by
 let(e,g,d,t,os):=s;exact PySem.W.make_core (PySem.W.makes_of X hm) (PySem.W.looks_findIn X b) (λself=>PySem.W.bind_fn X self c) (.inl rfl) h
end
abbrev fQ(f:Str)(v:V):List (Str×V)->List (Str×V)
 |[]=>[(f,v)]|(g,x)::r=>if g=f then(g,v)::r else(g,x)::fQ f v r
theorem lg(f g:Str)(v:V):∀fs:List (Str×V),(fQ f v fs).lookup g=if g=f then hT v else fs.lookup g
 |[]=>by
  show List.lookup g [(f,v)]=_;by_cases h:g=f
  .have a:(g==f)=ig:=zzy.mpr h;simp! [List.lookup,a,if_pos h]
  .have a:(g==f)=iv:=beq_eq_false_iff_ne.mpr h;simp! [List.lookup,a,if_neg h]
 | (k,x)::r=>by
  have b:=lg f g v r;rw [show fQ f v ((k,x)::r)=(if k=f then(k,v)::r else(k,x)::fQ f v r) from rfl];by_cases hk:k=f
  .rw [if_pos hk];by_cases h:g=k
   .have a:(g==k)=ig:=zzy.mpr h;simp! [List.lookup,a,if_pos (h.trans hk)]
   .have a:(g==k)=iv:=beq_eq_false_iff_ne.mpr h;simp! [List.lookup,a,if_neg (λe:g=f=>h (e.trans hk.symm))]
  .rw [if_neg hk];by_cases h:g=k
   .have a:(g==k)=ig:=zzy.mpr h;simp! [List.lookup,a,if_neg (λe:g=f=>hk (h.symm.trans e))]
   .have a:(g==k)=iv:=beq_eq_false_iff_ne.mpr h;simp! [List.lookup,a];exact b
theorem kK(f:Str)(v:V):∀fs:List (Str×V),f∈(fQ f v fs).map (·.1)/\∀g,g∈fs.map (·.1)->g∈(fQ f v fs).map (·.1)
 |[]=>{by simp [fQ],λg h=>by simp at h}
 | (k,x)::r=>by
  let(a,b):=kK f v r;rw [show fQ f v ((k,x)::r)=(if k=f then(k,v)::r else(k,x)::fQ f v r) from rfl];by_cases hk:k=f
  .rw [if_pos hk];subst hk;exact{by simp,λg h=>zx6 h}
  .rw [if_neg hk];refine{?_,λg h=>?_}
   .rw [bc];exact bw _ a
   .rw [bc] at h⊢;rcases el.mp h with e|e
    .exact el.mpr (.inl e)
    .exact bw _ (b g e)
theorem k9(f:Str)(v:V):∀fs:List (Str×V),(fQ f v fs).length<=fs.length+1
 |[]=>by simp [fQ]|(k,x)::r=>by
  have a:=k9 f v r;rw [show fQ f v ((k,x)::r)=(if k=f then(k,v)::r else(k,x)::fQ f v r) from rfl];by_cases hk:k=f
  .rw [if_pos hk,bE,bE];omega
  .rw [if_neg hk,bE,bE];omega
def fX.some_of{o:Option ix}(r:fX (hT v) o):∃u,o=hT u/\RelV v u:=by
 cases o with
 |none=>exact(show False from r).elim|some u=>exact⟨u,rfl,r⟩
def fX.none_of{o:Option ix}(r:fX ie o):o=ie:=by
 cases o with
 |none=>rfl|some u=>exact(show False from r).elim
def yN(r:RelV v u):PySem.W.handedIn u=ig:=by
 cases v with
 |aE=>cases(show u=ix.none from r);rfl
 |bl b=>cases(show u=ix.bool b from r);rfl
 |int i=>let(t,e):=(show∃t,u=ix.int i t from r);cases e;rfl
 |str x=>let(t,e):=(show∃t,u=ix.str x t from r);cases e;rfl
 |OB b=>let(t,e):=(show∃t,u=ix.bytes b t from r);cases e;rfl
 |OG b=>let(t,e):=(show∃t,u=ix.float b t from r);cases e;rfl
 |ref a=>cases(show u=ix.ref a from r);rfl
 |ty n=>cases(show u=ix.type n from r);rfl
section
variable{C dx:iN}{fs:List (Str×V)}
def qI(aJ:d4 P w H h)(e:H a=hT (.ins C dx fs)):∃b,uT h a dx C b/\(∀f,fX (fs.lookup f) (b f))/\PySem.Within b (fs.map (·.1))/\fs.length<=1000/\H dx=hT (.own a):=by let(d,z,ne,ob,b,n,r,q):=(show bB P w H h a (.ins C dx fs) from aJ a _ e);exact{b,⟨ob,n,ne⟩,r,q,z,d}
end
structure uM(K:zz8)(C:iN):Prop where
 pg:PySem.W.plainGet K C Str.empty=ig
 hd:PySem.W.hasDictIn K C=ig
 po:PySem.W.plainOver K C=ig
 sa:PySem.W.findIn K (.ref C) "__setattr__"=hT (hT (.builtin "object.__setattr__"))
def uM.get{K:zz8}{C:iN}(c:uM K C)(f:Str):PySem.W.plainGet K C f=ig:=c.pg
def cb(K:zz8)(C:iN)(f:Str):Prop:=PySem.W.findIn K (.ref C) f=hT ie
def cb.Od{K:zz8}{C:iN}(n:cb K C f):PySem.W.takerIn K C f=hT ie:=by unfold PySem.W.takerIn;rw [show PySem.W.findIn K (.ref C) f=hT ie from n];rfl
structure Meth(K:zz8)(C:iN)(m:Str)(f:iN):Prop where
 at_:PySem.W.findIn K (.ref C) m=hT (hT (.ref f))
 fn:PySem.W.isFn K (.ref f)=ig
 kp:PySem.W.keepIn K (.ref f)=ig
section
variable{s:iM}{C dx:iN}{fs:List (Str×V)}{E:lq}
def vi{b:Bool}{Q:lq}(I:zv3 s)(e:H a=hT (.ins C dx fs))(c:uM X.K C)(n:cb X.K C f)(l:fs.lookup f=hT v)
 (h:∀u s',Inv X aa σ H s'->RelV v u->Q u s'):i1 (jj X.prog X.w) A (getAttr (.ref a) f b) Q E s:=by
 let(g,O,r,_,_,_):=qI I.aJ e;let(u,i,d):=fX.some_of (v:=v) (o:=g f) (by rw [<-l];exact r f);exact get_map I.iR O (c.get f) c.hd n i (yN d) (h u _ (I.tok _) d)
def vj{m:Str}{g:iN}{b:Sem Bool}{Q:ix×List ix->iM->Prop}(I:zv3 s)(e:H a=hT (.ins C dx fs))(c:uM X.K C)(k:Meth X.K C m g)(l:fs.lookup m=ie)
 (h:Q (.ref g,[.ref a]) s):i1 (jj X.prog X.w) A (getMethod (.ref a) m b) Q E s:=by
 let(d,O,r,_,_,_):=qI I.aJ e;have i:d m=ie:=fX.none_of (by rw [<-l];exact r m);exact Bf I.iR O (c.get m) k.at_ k.fn i h
def v5{y:V}{Q:Unit->iM->Prop}(I:zv3 s)(e:H a=hT (.ins C dx fs))(c:uM X.K C)(n:cb X.K C f)(hl:fs.length<1000)(m:RelV y u)
 (h:∀s',Inv X aa σ (upd H a (.ins C dx (fQ f y fs))) s'->Q () s'):i1 (jj X.prog X.w) A (setAttr (.ref a) f u) Q E s:=by
 let(i,O,r,j,_,k):=qI I.aJ e;have p:(fs.map (·.1)).length<=sizeLine:=by rw [zzl,sizeLine_eq];omega
 refine Gf I.iR O c.sa c.po n.Od c.hd j p λt d B=>h _ ?_;have hd:∃o,t.get? dx=hT o:=let⟨o,_,_,D,_⟩:=d.ns;⟨o,D⟩;refine I.write (x:=a) (e:=dx) (by rw [e];exact True.intro) (.inr k) (λb q F z=>(B.2 b F).trans z) hd ?_;refine{by rw [ae O.ne];exact k,?_,O.ne,d.obj,_,d.ns,λg=>?_,λg G=>?_}
 .have:=k9 f y fs;omega
 .show fX ((fQ f y fs).lookup g) (if g=f then hT u else i g);rw [lg];by_cases q:g=f
  .rw [if_pos q,if_pos q];exact m
  .rw [if_neg q,if_neg q];exact r g
 .by_cases q:g=f
  .rw [q];exact(kK f y fs).1
  .refine(kK f y fs).2 g (j g λz=>G ?_);show(if g=f then hT u else i g)=ie;rw [if_neg q];exact z
def Inv.made(I:zv3 s):Inv X aa σ (upd (upd H (zz9 s) (.own ((zz9 s)+1))) ((zz9 s)+1) (.ins C (zz9 s) []))
 {s with heap:=(s.heap.push PySem.W.emptyDict).push (PySem.W.instObj C (zz9 s))}:=by
 have c:(s.heap.push PySem.W.emptyDict).get? (zz9 s)=hT PySem.W.emptyDict:=dI s.heap rfl
 have d:((s.heap.push PySem.W.emptyDict).push (PySem.W.instObj C (zz9 s))).get? ((zz9 s)+1)=hT (PySem.W.instObj C (zz9 s)):=by
  have:=dI (s.heap.push PySem.W.emptyDict) (o:=PySem.W.instObj C (zz9 s)) rfl
  rwa [j2.size_push] at this
 have g:(s.heap.push PySem.W.emptyDict).Ns (zz9 s) (λZ=>ie):={PySem.W.emptyDict,#[],_,c,rfl,(λe h=>absurd h (by simp)),λZ=>rfl};have i:=I.laid (a:=(zz9 s)) (o:=.own ((zz9 s)+1)) (h':=s.heap.push PySem.W.emptyDict) (t':=s.toks) (λb u q=>aT _ q) (a8 _) {_,c};refine i.laid (a:=(zz9 s)+1) (o:=.ins C (zz9 s) []) (t':=s.toks) (λb u q=>aT _ q) (Nat.le_of_eq (j2.size_push _ _)) ?_;have ne:(zz9 s)≠(zz9 s)+1:=dV (Nat.lt_succ_self _);refine{by rw [ae ne,ak],Nat.zero_le _,ne,d,λZ=>ie,(j2.Ns1.of_empty g).at λo q=>aT _ q,λZ=>True.intro,λy j=>absurd rfl j}
def Ec{env:Env}{s:iM}{Q:lq}(c:attributeBase e f env (eval e env)=eval e env)
 (h:i1 (jj prog w) A (eval e env) (λo b=>i1 (jj prog w) A (getAttr o f ig) Q E b) E s):i1 (jj prog w) A (eval (.Attribute e f pos) env) Q E s:=
 Attribute_any_ h (by rw [arm_eval_Attribute,c])
end
abbrev RB(K:zz8)(c:TE)(f:Str):TE:=λd H Q=>c d H λx b=>∃a C dx fs v,x=.ref a/\b a=hT (.ins C dx fs)/\uM K C/\cb K C f/\fs.lookup f=hT v/\Q v b
abbrev Rr(K:zz8)(d e:TE)(f:Str):TS:=λD b H=>e b H λy g=>d b g λx c=>∃a C dx fs,x=.ref a/\c a=hT (.ins C dx fs)/\uM K C/\cb K C f/\fs.length<1000/\
 D.nx b (upd c a (.ins C dx (fQ f y fs)))
section
variable{o value:iO}{pos':Pos}{ta tv:TE}
def Kv(he:PE X e ta)(d:attributeBase e f X.env (eval e X.env)=eval e X.env):PE X (.Attribute e f pos) (RB X.K ta f):=by intro g s i H Q I h;refine Ec d (bb (he g s i H _ I h) λu w b=>?_);let(x,j,k,m,a,C,dx,fs,v,ex,p,c,n,l,q):=b;subst ex;obtain rfl:u=ix.ref a:=m;exact vi k p c n l λy z r t=>⟨v,j,r,t,q⟩
def KH(i:PE X o ta)(j:PE X value tv)(hs:swapsWith value (hT (.Attribute o f pos')) pos.line X.env=pure iv):PS X (.Assign [.Attribute o f pos'] value pos) (Rr X.K ta tv f):=by intro g s b H D I h;refine plainObj_wpAny_Assign_Attribute (bb (j g s b H _ I h) λu k ⟨y,H1,m,p,q⟩=>bb (i g k b H1 _ m q) λr B d=>?_) hs;let(x,E,t,w,a,C,dx,fs,ex,z,c,n,l,q2):=d;subst ex;obtain rfl:r=ix.ref a:=w;exact v5 t z c n l p λF A=>{b,_,A,q2}
end
structure cL(k:Nat)(A:j0):Prop where
 hd:3<=k->A.handled=ie
 dp:A.depth+3*k+5<recursionLimit
 un:A.units+16*k+200<cLine
theorem cL.mono{k:Nat}(r:cL k A)(h:j<=k):cL j A:={λz=>r.hd (by omega),by have:=r.dp;omega,by have:=r.un;omega}
theorem cL.deeper{k:Nat}(r:cL (k+1) A)(env:Env):cL k (A.deeper env):=
 {λz=>r.hd (by omega),by have:=r.dp;show A.depth+1+3*k+5<_;omega,by have:=r.un;show A.units+3+16*k+200<_;omega}
def vB{C:iN}{a:List (Str×ix)}:(A.under (.builtin "type.__call__" {.ref C::us,a})).depth=A.depth+1:=by
 first|rfl|simp [j0.under,Code.weight,Code.isCreation,Code.isGuard,Code.isCaller,Code.frames,Code.isFrame,guardIds]
def vC{C:iN}{a:List (Str×ix)}:(A.under (.builtin "type.__call__" {.ref C::us,a})).units=A.units+1:=by
 first|rfl|simp [j0.under,Code.cUnits,Code.frames,Code.isFrame]
theorem cL.make{k:Nat}(r:cL (k+1) A)(C:iN)(us:List ix)(a:List (Str×ix)):cL k (A.under (.builtin "type.__call__" {.ref C::us,a})):=
 {λz=>r.hd (by omega),by have:=r.dp;rw [vB];omega,by have:=r.un;rw [vC];omega}
def cL.depth{k:Nat}(r:cL k A):A.depth<recursionLimit:=by have:=r.dp;omega
def cL.units{k:Nat}(r:cL k A):A.units+64<cLine:=by have:=r.un;omega
abbrev RG:TA:=λZ H Q=>Q [] H
abbrev N6(b:TE)(c:TA):TA:=λa H Q=>b a H λx d=>c a d λxs e=>Q (x::xs) e
section
variable{es:List iO}{t:TA}
def bW:PA X [] RG:=λZ Z Z Z H Q I h=>Calls.spliced_nil {[],H,I,.nil,h}
theorem aV(d:PE X e te)(f:PA X es t)(hs:starEach (e::es) X.env=(iv,eval e X.env)::starEach es X.env:=by rfl):PA X (e::es) (N6 te t):=by intro pos b s c H Q I h;rw [hs];show i1 _ _ (spliced ((iv,eval e X.env)::backTo pos (starEach es X.env))) _ _ s;refine Calls.spliced_cons (bb (d b s c H _ I h) λu g a=>?_);let(x,i,j,k,q1):=a;exact bb (f pos b g c i _ j q1) λq r ⟨xs,m,o,p,q2⟩=>{x::xs,m,o,.cons k p,q2}
abbrev RM(t:TA):TE:=λb H Q=>t b H λxs a=>xs.length<=j3/\∀p,a p=ie->Q (.ref p) (upd a p (.tup xs))
abbrev RF(t:TA):TE:=λb H Q=>t b H λxs a=>xs.length<=j3/\∀p,a p=ie->Q (.ref p) (upd a p (.lst xs))
def CD{x1}(h:PA X es t):PE X (.Tuple es x1 pos) (RM t):=by intro d s f H Q I g;refine wpAny_Tuple_spliced (bb (h pos d s f H _ I g) λi a ⟨xs,H1,c,r,z,q⟩=>{by rw [<-r.length];exact z,?_});have j:H1 (zz9 a)=ie:=c.aJ.fresh (a8 _);refine{.ref (zz9 a),upd H1 (zz9 a) (.tup xs),c.laid (t':=a.toks) (λb u e=>aT _ e) (a8 _) ?_,rfl,q _ j};exact{z,i,r,{_,dI _ rfl,rfl,_,rfl}}
def CA(h:PA X es t):PE X (.List es pos) (RF t):=by intro d s f H Q I g;refine wpAny_List_spliced (bb (h pos d s f H _ I g) λi a ⟨xs,H1,c,r,z,q⟩=>{by rw [<-r.length];exact z,?_});have j:H1 (zz9 a)=ie:=c.aJ.fresh (a8 _);refine{.ref (zz9 a),upd H1 (zz9 a) (.lst xs),c.laid (t':=a.toks) (λb u e=>aT _ e) (a8 _) ?_,rfl,q _ j};exact{z,i,0,r,dI _ rfl}
end
noncomputable abbrev Sp:=List V->Hp->VK->XK->Prop
noncomputable abbrev yb:=List Env->Hp->iM->XK->ix->iM->Prop
structure iw(P:i2)(w:i3)(K:zz8)(mg:Str->Option ix)(base:j2)(A:j0)(outer:List Env)(s:iM)(H:Hp):Prop where
 frames:A.frames=hT outer
 mod:Mod K mg base
 bs:∀b o,base.get? b=hT o->s.heap.get? b=hT o/\H b=ie
 u6:base.objs.size<=(zz9 s)
 f7:s.heap.FunFrames base outer
 vh:∀b∈d9 outer,H b=ie
 aJ:d4 P w H s.heap
 bare:AllBare s.gens
def CE(outer:List Env)(P:i2)(w:i3)(H:Hp)(s:iM)(Q:VK)(u:ix)(s':iM):Prop:=
 ∃v a,s'.os=s.os/\AllBare s'.gens/\Un (d9 outer) [] H a s.heap s'.heap/\d4 P w a s'.heap/\RelV v u/\Q v a
def CR(CX:yb)(outer:List Env)(P:i2)(w:i3)(H:Hp)(s:iM)(Q:VK)(E:XK)(r:Result)(s':iM):Prop:=
 match r with
 |.ok (.ret u)=>CE outer P w H s Q u s'|.ok _=>False|.error e=>CX outer H s E e s'
structure d6(P:i2)(w:i3)(K:zz8)(mg:Str->Option ix)(base:j2)(CX:yb)(k:Nat)(f:iN)(fd:FuncData)(ps:List Str)(sp:Sp):Prop where
 len:∀vs H Q E,sp vs H Q E->vs.length=ps.length
 run:∀(A:j0) (outer:List Env) (s:iM) (H:Hp) (args:Args) (us:List ix) (vs:List V) (Q:VK) (E:XK),cL k A->iw P w K mg base A outer s H->BindsTo s fd args (ps.zip us)->Vals vs us->sp vs H Q E->
  codeAny (jj P w) A (.call (.ref f) args) (CR CX outer P w H s Q E) s
def d6.mono{K:zz8}{CX:yb}{k:Nat}{f:iN}{fd:FuncData}{ps:List Str}{sp:Sp}(F:d6 P w K mg base CX j f fd ps sp)(h:j<=k):
 d6 P w K mg base CX k f fd ps sp:={F.len,λA outer s H args a b Q E c=>F.run A outer s H args a b Q E (c.mono h)}
def d6.imp{K:zz8}{CX:yb}{k:Nat}{f:iN}{fd:FuncData}{ps:List Str}{sp a:Sp}(F:d6 P w K mg base CX k f fd ps sp)
 (h:∀vs H Q E,a vs H Q E->sp vs H Q E):d6 P w K mg base CX k f fd ps a:=
 {λvs H Q E q=>F.len vs H Q E (h _ _ _ _ q),λA outer s H args b vs Q E c d e g hs=>F.run A outer s H args b vs Q E c d e g (h _ _ _ _ hs)}
def iw.make{K:zz8}{s:iM}(e:iw P w K mg base A outer s H)(C:iN)(us:List ix)(a:List (Str×ix)):
 iw P w K mg base (A.under (.builtin "type.__call__" {.ref C::us,a})) outer s H:={by first|exact e.frames|(simpa [j0.under,Code.envs,Code.isFrame,pushEnvs] using e.frames),e.mod,e.bs,e.u6,e.f7,e.vh,e.aJ,e.bare}
section
variable{s s':iM}
def Inv.js(I:zv3 s):iw X.prog X.w X.K X.mg X.base X.A X.stack s H:=
 {I.ok.frames,I.ok.mod,I.bs,c0 I.ok.u6 I.sz,I.stack,I.mi,I.aJ,I.bare}
def Inv.after(I:zv3 s)(h:CE X.stack X.prog X.w H s Q u s'):EP X aa σ Q u s':=by let(v,c,os,bare,un,aJ,r,q):=h;let(e,g,d,t,a):=s';obtain rfl:a=s.os:=os;exact{v,c,I.call (h':=e) (g':=g) (d':=d) (t':=t) (ch:=[]) un aJ bare (λb z=>absurd z (by simp)),r,q}
end
def Binds(K:zz8)(fd:FuncData)(ps:List Str)(b:List ix):Prop:=
 ∀(s:iM) (a:List ix),K.In s.heap->(a++b).length=ps.length->BindsTo s fd {a,[]} (ps.zip (a++b))
def Binds.all{K:zz8}{fd:FuncData}{ps:List Str}(h:∀us:List ix,us.length=ps.length->bindArgs fd {us,[]}=pure (ps.zip us)):Binds K fd ps []:=λs us Z hl=>by rw [hG] at hl⊢;exact .of_eq (h us hl)
def Passes(CX:yb)(X:Cx)(E:XK):Prop:=∀(b:lu) (c:St) (H:Hp) (s:iM) (e:ix) (a:iM),Inv X b c H s->CX X.stack H s E e a->X.xe e a
section
variable{CX:yb}{k:Nat}{f C:iN}{fd:FuncData}{ps:List Str}{sp:Sp}{dvs:List V}{ds:List ix}{E:XK}
structure Mk(K:zz8)(C f:iN):Prop where
 makes:PySem.W.makesIn K C=ig
 init:PySem.W.findIn K (.ref C) (zu 10)=hT (hT (.ref f))
 fn:PySem.W.isFn K (.ref f)=ig
 kp:PySem.W.keepIn K (.ref C)=ig
def C7{c:St}{s:iM}(M:Mk X.K C f)(F:d6 X.prog X.w X.K X.mg X.base CX k f fd ps sp)(i:cL (k+1) X.A)(j:Binds X.K fd ps ds)(hd:Vals dvs ds)
 (m:Passes CX X E) (I:Inv X aa c H s) (r:Vals vs us)
 (h:∀x dx,H x=ie->H dx=ie->dx≠x->sp (.ref x::(vs++dvs)) (upd (upd H dx (.own x)) x (.ins C dx [])) (λv o=>v=.aE/\Q (.ref x) o) E):
 zx7 X (call (.ref C) us) (EP X aa c Q) X.xe s:=by
 have d:=h ((zz9 s)+1) (zz9 s) (I.aJ.fresh (Nat.le_succ _)) (I.aJ.fresh (a8 _)) (dV (Nat.lt_succ_self _));have b:=Inv.made (C:=C) I;have g:Vals (V.ref ((zz9 s)+1)::(vs++dvs)) (ix.ref ((zz9 s)+1)::(us++ds)):=.cons rfl (r.append hd);have hl:(ix.ref ((zz9 s)+1)::us++ds).length=ps.length:=by have e:=g.length;rw [F.len _ _ _ _ d] at e;exact e.symm
 refine wpAny_call (BW (f:=f) I.iR M.makes M.init (zzy.mp M.fn) (codeAny_mono (F.run _ X.stack _ _ {ix.ref ((zz9 s)+1)::us,[]} (ix.ref ((zz9 s)+1)::(us++ds)) _ _ E (i.make C us [])
  (b.js.make C us []) (j _ (ix.ref ((zz9 s)+1)::us) b.iR hl) g d) λr p a=>?_))
 cases r with
 |error e=>exact m aa c _ _ e p b a|ok fl=>
  cases fl with
  |ret u=>let(v,q,t,y,ev,q3):=b.after a;subst ev;exact{y,{V.ref ((zz9 s)+1),q,t,rfl,q3}}|next=>exact ek a|brk=>exact ek a|cont=>exact ek a
end
structure gV(N P:List Str)(sc:j1):Prop where
 kind:sc.kind=.function
 co:sc.isCoroutine=iv
 gen:sc.isGenerator=iv
 nd:N.Nodup
 pre:N.take P.length=P
 par:∀x∈P,sc.names.lookup x=hT .local\/sc.names.lookup x=hT .cell
 J6:∀y∈sc.names,y.2≠.free
theorem o8{a:Str->Option NameKind}:∀{binds:List (Str×ix)} {m:Str->Option ix},(∀v,(x,v)∉binds)->bindL a binds m x=m x
 |[],_,_=>rfl|(n,v)::r,m,h=>by
  unfold bindL;rw [o8 λw b=>h w (bw _ b)];split
  .have:x≠n:=by rintro rfl;exact h v b4
   simp [this]
  .rfl
theorem o6{a:Str->Option NameKind}:∀{binds:List (Str×ix)} {m:Str->Option ix},(∀v,(x,v)∉binds)->bindC a binds m x=m x
 |[],_,_=>rfl|(n,v)::r,m,h=>by
  unfold bindC;rw [o6 λw b=>h w (bw _ b)];split
  .rfl
  .have:x≠n:=by rintro rfl;exact h v b4
   simp [this]
theorem o7{a:Str->Option NameKind}{v:ix}:∀{P:List Str} {vs:List ix} {i:Nat} {m:Str->Option ix},P.Nodup->P[i]?=hT x->vs[i]?=hT v->a x=hT .local->
 bindL a (P.zip vs) m x=hT v
 |[],_,_,_,_,h,_,_=>by simp at h|_::_,[],_,_,_,_,h,_=>by simp at h|p::P,w::vs,0,m,nd,b,c,hk=>by simp at b c;subst b;subst c;show bindL a ((p,w)::P.zip vs) m p=_;unfold bindL;rw [o8 λv d=>(List.nodup_cons.mp nd).1 (List.of_mem_zip d).1,if_pos hk];simp|p::P,w::vs,i+1,m,nd,b,c,hk=>by show bindL a ((p,w)::P.zip vs) m x=_;unfold bindL;exact o7 (i:=i) (List.nodup_cons.mp nd).2 (zx6 b) (zx6 c) hk
theorem o5{a:Str->Option NameKind}{v:ix}:∀{P:List Str} {vs:List ix} {i:Nat} {m:Str->Option ix},P.Nodup->P[i]?=hT x->vs[i]?=hT v->a x≠hT .local->
 bindC a (P.zip vs) m x=hT v
 |[],_,_,_,_,h,_,_=>by simp at h|_::_,[],_,_,_,_,h,_=>by simp at h|p::P,w::vs,0,m,nd,b,c,hk=>by simp at b c;subst b;subst c;show bindC a ((p,w)::P.zip vs) m p=_;unfold bindC;rw [o6 λv d=>(List.nodup_cons.mp nd).1 (List.of_mem_zip d).1,if_neg hk];simp|p::P,w::vs,i+1,m,nd,b,c,hk=>by show bindC a ((p,w)::P.zip vs) m x=_;unfold bindC;exact o5 (i:=i) (List.nodup_cons.mp nd).2 (zx6 b) (zx6 c) hk
abbrev start(N:List Str)(vs:List V):St:=vs.map hT++k6 (N.length-vs.length) ie
noncomputable def cU(CX:yb)(P:i2)(w:i3)(K:zz8)(mg:Str->Option ix)(base:j2)(N:List Str)(qual:Str)(a:j1)(f:iN)(cd:ix)(A:j0)(outer:List Env)(s:iM)(H:Hp)(E:XK):Cx where
 prog:=P
 w:=w
 K:=K
 mg:=mg
 base:=base
 A:=A.deeper (envOfC qual a (zz9 s) f cd)
 N:=N
 s₀:=s
 H₀:=H
 env:=envOfC qual a (zz9 s) f cd
 outer:=outer
 stack:=envOfC qual a (zz9 s) f cd::outer
 ex:=[]
 calm:=A.handled.isNone
 fn:=λZ=>ig
 pn:=[]
 xe:=λe c=>i1 (jj P w) (A.deeper (envOfC qual a (zz9 s) f cd)) (leaving (envOfC qual a (zz9 s) f cd) e) (λZ b=>CX outer H s E e b) (λd b=>CX outer H s E d b) c
def sC{sc:j1}{n:Nat}(h:sc.names.lookup x=hT .cell):∃c,(ku n sc.names []).lookup x=hT c:=by have q:=PySem.W.cellsFrom_some sc.names n [] (.inl h);exact ey.mp q
def yV{CX:yb}{K:zz8}{ps:List Str}{d:j1}{f:iN}{cd:ix}{s s1:iM}{E:XK}
 (S:gV N ps d) (j:iw P w K mg base A outer s H) (hl:vs.length=ps.length) (r:Vals vs us)
 (x:InCallC s (zz9 s) (bindL (envOfC qual d (zz9 s) f cd).kindOf (ps.zip us) λZ=>ie) (ku ((zz9 s)+1) d.names []) (bindC (envOfC qual d (zz9 s) f cd).kindOf (ps.zip us) λZ=>ie) s1):
 Inv (cU CX P w K mg base N qual d f cd A outer s H E) [] (start N vs) H s1:=by
 have G:ps.length<=N.length:=by have:=congrArg List.length S.pre;rw [List.length_take] at this;omega
 let(t,L,rfl,hk):=x.done;have C:∀b:iN,b∉(cU CX P w K mg base N qual d f cd A outer s H E).ex:=λb z=>absurd (show b∈([]:List iN) from z) (by simp)
 refine{{j.mod,S.kind,rfl,rfl,a8 _,λy z c t g=>?_,λy m=>?_,λy c Z h=>?_,λz=>Option.isNone_iff_eq_none.mp z,j0.frames_deeper j.frames,.inr ⟨rfl,rfl⟩,λb z=>absurd z (C b),j.bs,j.u6,λb Z Z=>C b,λb z=>absurd z (C b),j.f7,j.vh},
  rfl,j.bare,Un.kept hk,{_,x.toInCall.ns,λi y v t g M=>?_},λy c h=>{_,x.cell y c h},j.aJ.fresh (a8 _),λy c h=>?_,λp o=>absurd (show p∈([]:lu) from o) (by simp),j.aJ.kept hk,?_}
 .exact name_of_addr x.apart (PySem.mem_of_lookup t) (PySem.mem_of_lookup g)
 .have m:d.names.lookup y=hT .cell\/d.names.lookup y=hT .free:=m
  rcases m with m|m
  .exact sC m
  .exact absurd rfl (S.J6 _ (PySem.mem_of_lookup m))
 .exact Nat.le_of_lt (x.above y c (PySem.mem_of_lookup h))
 .have B:i<vs.length:=by
   unfold start at g;by_cases B:i<vs.length
   .exact B
   .rw [eO (zx6 B)] at g;rw [List.getElem?_replicate] at g;split at g<;>cases g
  have I:vs[i]?=hT v:=by
   unfold start at g;rw [eH (zx6 B),cz] at g;cases e:vs[i]? with
   |none=>rw [e] at g;cases g
   |some a=>rw [e] at g;cases g;rfl
  let(u,D,J):=r.get I;have o:ps[i]?=hT y:=by rw [<-S.pre,List.getElem?_take_of_lt (by omega)];exact t
  have F:ps.Nodup:=by rw [<-S.pre];exact S.nd.sublist (List.take_sublist _ _)
  refine{u,J,?_};rcases S.par y (a7 o) with k|k
  .exact .inl {k,o7 F o D k}
  .let(c,e):=sC (n:=(zz9 s)+1) k;refine .inr {.inl k,c,e,?_};have q:=x.cell y c e;rw [o5 F o D (by show d.names.lookup y≠_;rw [k];decide)] at q;exact q
 .exact j.aJ.fresh (Nat.le_of_lt (x.above y c (PySem.mem_of_lookup h)))
 .unfold start;show _=N.length;rw [bF,zzl,List.length_replicate];omega
def A6{CX:yb}{K:zz8}{k:Nat}{f:iN}{name:Str}{c:Arguments}{body:List j7}{a:j1}{C kV i D h ct oc:ix}{F R:Option iN}
 {T:Array (Option ix)} {ps:List Str} {sp:Sp} (U:K.lookup f=hT {oc,R,.func (PySem.W.fnOf name qual c body a C kV i D F h ct),T}) (X:PySem.W.codeIn K h qual=ig) (S:gV N ps a)
 (len:∀vs H Q E,sp vs H Q E->vs.length=ps.length)
 (Y:∀(A:j0) (outer:List Env) (s:iM) (H:Hp) (vs:List V) (Q:VK) (E:XK),cL k (A.deeper (envOfC qual a (zz9 s) f h))->sp vs H Q E->
  ∃t,oV (cU CX P w K mg base N qual a f h A outer s H E) body t/\t {nx:=λ_ g=>Q .aE g,rt:=Q} (start N vs) H):
 d6 P w K mg base CX (k+1) f (PySem.W.fnOf name qual c body a C kV i D F h ct) ps sp:=by
 refine{len,λA outer s H args Z vs Q E G j hb r L=>?_};have hl:=len _ _ _ _ L;have M:K.In s.heap:=j.mod.Fb.keeps λb o e=>(j.bs b o e).1;have m:s.heap.NoLimit:=j.mod.nolimit.keeps λb o e=>(j.bs b o e).1
 have M5:∀y∈ps.zip Z,a.names.lookup y.1=hT .local\/(a.names.lookup y.1=hT .cell/\((ku ((zz9 s)+1) a.names []).lookup y.1).isSome=ig):=λp hy=>by
  let(n,v):=p
  rcases S.par n (List.of_mem_zip hy).1 with q|q
  .exact .inl q
  .exact .inr {q,PySem.W.cellsFrom_some _ _ _ (.inl q)}
 refine codeAny_call_function G.depth (M _ _ U) rfl S.co S.gen rfl (PySem.W.codeRec_of M X) (hb _ _ _ _ ?_);refine wpAny_newFunctionEnv_cells S.kind M5 λenv he O x=>?_;subst he;refine{m.keeps x.toInCall.keep,codeAny_func ?_};let(t,ht,hq):=Y A outer s H vs Q E (G.deeper _) L;have I:Inv (cU CX P w K mg base N qual a f h A outer s H E) [] (start N vs) H O:=yV S j hl r x;refine wpAny_mono (ht [] O (start N vs) H _ I hq) (λfl z hs=>?_) λe z hs=>hs
 have fin:∀{d:St} {g:Hp} {v:V} {u:ix},Inv (cU CX P w K mg base N qual a f h A outer s H E) [] d g z->RelV v u->Q v g->CE outer P w H s Q u z:=
  λ{d g v u} J B q=>⟨v,g,J.os,J.bare,J.base,J.aJ,B,q⟩
 cases fl with
 |ret u=>let(v,d,g,J,B,q):=hs;exact fin J B q|next=>let(d,g,J,q):=hs;exact fin (v:=V.aE) (u:=ix.none) J rfl q|brk=>let(_,_,_,q):=hs;exact ek q|cont=>let(_,_,_,q):=hs;exact ek q
section
variable{p:Pos}{es:List iO}{t:TA}{id T:String}{r:List V->Hp->VK->Prop}
abbrev OW(r:List V->Hp->VK->Prop)(t:TA):TE:=λa H Q=>t a H λb c=>r b c Q
def dy(c:bP X (.builtin id) r)(d:Gl X x)(hm:X.mg x=ie)(f:bootBuiltins x=hT (.builtin id))(g:PA X (e::es) t)(hn:x≠(zu 27):=by decide)(i:(x==(zu 18:Str))=iv:=by decide)
 (he:starEach (e::es) X.env=(iv,eval e X.env)::starEach es X.env:=by rfl) (hpl:(backTo pos (starEach es X.env)).any (·.1)=iv:=by rfl):PE X (.Call (.Name x p) (e::es) [] pos) (OW r t):=by
 intro a s b H Q I h;refine wpAny_Call_Name_kw (dX I d hm f ?_ hn i);exact PyProof.Rows.callWith_builtin1 (bb (g pos a s b H _ I h) λj k ⟨m,H1,o,q,q1⟩=>c a k b H1 m j Q o q q1) he hpl
def ff(c:bP X (.type T) r)(d:Gl X x)(hm:X.mg x=ie)(f:bootBuiltins x=hT (.type T))(g:PA X (e::es) t)(hn:x≠(zu 27):=by decide)(i:(x==(zu 18:Str))=iv:=by decide)
 (he:starEach (e::es) X.env=(iv,eval e X.env)::starEach es X.env:=by rfl) (hpl:(backTo pos (starEach es X.env)).any (·.1)=iv:=by rfl):PE X (.Call (.Name x p) (e::es) [] pos) (OW r t):=by
 intro a s b H Q I h;refine wpAny_Call_Name_kw (dX I d hm f ?_ hn i);exact PyProof.Rows.callWith_type1 (bb (g pos a s b H _ I h) λj k ⟨m,H1,o,q,q1⟩=>c a k b H1 m j Q o q q1) he hpl
end
end L2
variable{H G H1 H0:L2.Hp}{v:L2.V}{X:L2.Cx}{Q:L2.VK}{σ:L2.St}{te:L2.TE}{vs:List L2.V}{D:L2.Ends}
namespace HT
open PyProof.Rows
abbrev lexLt:List Int->List Int->Bool
 |[],[]=>iv|[],_::_=>ig|_::_,[]=>iv|x::xs,y::ys=>if x=y then lexLt xs ys else decide (x<y)
theorem m9(x y:Int)(xs ys:List Int):lexLt (x::xs) (y::ys)=if x=y then lexLt xs ys else decide (x<y):=rfl
theorem ip:lexLt [] []=iv:=rfl
theorem ng(y:Int)(ys:List Int):lexLt [] (y::ys)=ig:=rfl
theorem nc(x:Int)(xs:List Int):lexLt (x::xs) []=iv:=rfl
def AX(A:j0)(s:iM)(a:Int)(t:Tok)(c:Int)(u:Tok):∃e,SeqAt.EqAt A s (.int a t) (.int c u) e/\(e=ig↔a=c):=
 {(a==c),SeqAt.EqAt.int_int a t c u,by simp}
def C4(A:j0)(s:iM)(a:Int)(t:Tok)(c:Int)(u:Tok)(prog:i2)(w:i3)(E:lq)(Q:lq)(h:Q (.bool (decide (a<c))) s):
 i1 (jj prog w) A (richCompare .Lt (.int a t) (.int c u)) Q E s:=
 (PyProof.Rows.lt_int h:i1 (jj prog w) A (compareOp .Lt (.int a t) (.int c u)) Q E s)
section
open PySem.SeqAt
open PySem.AutoSeq1 (wpAny_loadPart')
open PySem.MeetsSeq PySem.MeetsSeq2 PySem.MeetsSeq3
def oT(l b:iN)(items o:Array ix)(n N:Nat)(dd O:Option iN)(P Q:Array (Option ix))(ns ms:List Int)(K:IntsAre items.toList ns)(L:IntsAre o.toList ms):
 Meets (kr.«tuple.__lt__» {[.ref l,.ref b],[]})
  (λ_ R s=>s.heap.get? l=hT {cls:=.type "tuple",dict:=dd,data:=.seq items n,slots:=P}/\s.heap.get? b=hT {cls:=.type "tuple",dict:=O,data:=.seq o N,slots:=Q}/\
   R (.ok (.ret (.bool (lexLt ns ms)))) s):=
 .of_wp λprog w A R s h=>by
  let(C,g,d,D,os):=s;let(hl,S,h):=h;have X:=AutoSeq1.sub_tuple_tuple;have Y:items.size=ns.length:=by rw [<-K.length];simp
  have Z:o.size=ms.length:=by rw [<-L.length];simp
  wp_walk using wpAny_loadPart' hl,wpAny_loadPart' S,wpAny_forIn_list _ (λrest b G=>b.1=ie/\G=⟨C,g,d,D,os⟩/\∃(E F:List ix) (p r:List Int),rest=E.zip F/\
   IntsAre E p/\IntsAre F r/\p.length+o.size=r.length+items.size/\R (.ok (.ret (.bool (lexLt p r)))) ⟨C,g,d,D,os⟩) _
  case turn=>
   rintro ⟨y,x⟩ rest b G ⟨H,rfl,E,F,p,r,f,I,i,hlen,j⟩
   cases I with
   |nil=>rw [List.zip_nil_left] at f;cases f
   |cons a t z=>
    cases i with
    |nil=>rw [List.zip_nil_right] at f;cases f
    |cons c u B=>
     rw [List.zip_cons_cons] at f
     injection f with J m
     injection J with T U
     subst T U;rw [m9] at j;simp! [bE] at hlen;let(e,V,k):=AX A.in1 ⟨C,g,d,D,os⟩ a t c u
     refine ar (V prog w _ _ ?_);cases e with
     |true=>
      rw [if_pos (k.mp rfl)] at j
      wp_walk
      exact{rfl,rfl,_,_,_,_,m,z,B,by omega,j}
     |false=>
      rw [if_neg (λq=>absurd (k.mpr q) zzf)] at j;have W:=C4 A.in1 ⟨C,g,d,D,os⟩ a t c u prog w
      wp_walk using W
      exact{_,rfl,zx6 j}
  case fin=>
   rintro ⟨b1,b2⟩ G ⟨H,rfl,E,F,p,r,f,I,i,hlen,j⟩
   simp only at H;subst H;have M:lexLt p r=decide (items.size<o.size):=by
    cases I with
    |nil=>
     cases i with
     |nil=>simp! [List.length_nil] at hlen;rw [ip];exact(zz0 (by omega)).symm|cons c u hw=>simp! [List.length_nil,bE] at hlen;rw [ng];exact(zzh (by omega)).symm
    |cons a t M=>
     cases i with
     |nil=>simp! [List.length_nil,bE] at hlen;rw [nc];exact(zz0 (by omega)).symm|cons c u hw=>rw [List.zip_cons_cons] at f;cases f
   rw [M] at j
   wp_walk
   exact{_,rfl,by simpa [kr.Tuple.tupleCompareSizes] using j}
  case h=>exact{rfl,rfl,items.toList,o.toList,ns,ms,rfl,K,L,by omega,h}
end
section
variable{E:lq}{s:iM}
def vA{l b:iN}{c:Array ix}{ns ms:List Int}{Q:lq}(hl:IsTup s.heap l items)(k:IsTup s.heap b c)(m:IntsAre items.toList ns)(o:IntsAre c.toList ms)
 (p:A.units<cLine) (h:Q (.bool (lexLt ns ms)) s):i1 (jj prog w) A (compareOp .Lt (.ref l) (.ref b)) Q E s:=by
 let((cls,q,e,r),f,g,n,hd):=id hl;let((i,t,d,u),j,lX,y,a):=id k
 simp only at g hd lX a;subst g hd lX a;exact richCompare_meets_room (op:=.Lt) {_,f,rfl} {_,j,rfl} PySem.F.slot_tuple_lt PySem.F.entry_tuple_lt (PySem.F.args_tuple_lt_2 _ _) (oT l b items c n y q t r u ns ms m o)
  {f,j,show ix.bool (lexLt ns ms)≠ix.notImplemented/\Q (.bool (lexLt ns ms)) s from{nofun,h}} p
def Ee{t b:iN}{vs ws:List ix}{Q:lq}(q:IsTup s.heap t vs.toArray)(r:IsTup s.heap b ws.toArray)(g:vs≠[])
 (u:ws=[]->Q (.ref t) s) (y:ws≠[]->Q (.ref (zz9 s)) {s with heap:=s.heap.push {cls:=.type "tuple",data:=.seq (vs++ws).toArray}})
 (hsz:vs.length+ws.length<=j3):i1 (jj prog w) A (binaryOp .Add (.ref t) (.ref b)) Q E s:=by
 let((cls,h,data,i),c,j,n,hd):=id q;let((k,m,f,o),d,lX,p,a):=id r;simp only at j hd lX a;subst j hd lX a;have e:vs.toArray++ws.toArray=(vs++ws).toArray:=by simp
 by_cases hw:ws=[]
 .exact concat_meets {_,c,rfl} {_,d,rfl} noFill_tuple_add seq_tuple_add PySem.F.slot_tuple_add PySem.F.entry_tuple_add (PySem.F.args_tuple_add_2 _ _)
   (tuple_addW1 t b vs.toArray ws.toArray n p h m i o (zx6 g) (by simp [hw])) {c,d,u hw}
 .refine concat_meets {_,c,rfl} {_,d,rfl} noFill_tuple_add seq_tuple_add PySem.F.slot_tuple_add PySem.F.entry_tuple_add (PySem.F.args_tuple_add_2 _ _)
   (tuple_addW2 t b vs.toArray ws.toArray n p h m i o (zx6 g) (zx6 hw) (by rw [a5,a5];exact hsz)) {c,d,?_}
  rw [e];exact y hw
abbrev cq(n d:Nat):Option Int->Nat
 |none=>d|some v=>if v<0 then(v+(n:Int)).toNat else min v.toNat n
def K0(n d:Nat)(hd:d<=n)(o:Option Int):cq n d o<=n:=by
 cases o with
 |none=>exact hd|some v=>
  show(if v<0 then(v+(n:Int)).toNat else min v.toNat n)<=n;by_cases a:v<0
  .rw [if_pos a];omega
  .rw [if_neg a];exact Nat.min_le_right _ _
def wV(v:Int)(n d:Nat):(if v<0 then max (v+(n:Int)) 0 else min v (n:Int))=((cq n d (hT v):Nat):Int):=by
 show(if v<0 then max (v+(n:Int)) 0 else min v (n:Int))=(((if v<0 then(v+(n:Int)).toNat else min v.toNat n):Nat):Int);by_cases a:v<0
 .simp! [if_pos a];omega
 .simp! [if_neg a];omega
def uV(a b:Option Int)(n:Nat):kr.Slice.sliceAdjust a b 1 (n:Int)=(((cq n 0 a:Nat):Int),((cq n n b:Nat):Int)):=by
 have c:¬((1:Int)<0):=by omega
 unfold kr.Slice.sliceAdjust;simp! [c,if_false];refine Prod.ext ?_ ?_
 .cases a with
  |none=>rfl|some v=>exact wV v n 0
 .cases b with
  |none=>rfl|some v=>exact wV v n n
def vV(i j:Nat):kr.Slice.slicePlaces (i:Int) (j:Int) 1=j-i:=by
 unfold kr.Slice.slicePlaces;have a:(1:Int)>0:=by omega
 simp! [a,if_true,Int.ediv_one];split<;>omega
def iZ{v:ix}{o:Option Int}{Q:Option Int->iM->Prop}(p:IsPart v o)(h:Q o s):i1 (jj prog w) A (kr.Slice.slicePartIndex v) Q E s:=by
 cases p with
 |none=>exact slicePart_none h|int i t=>exact slicePart_int h
def fg{g:iN}{e f:ix}{a b:Option Int}{n:Nat}{Q:Int×Int×Nat->iM->Prop}(hs:s.heap.IsSliceOf g e f .none)(i:IsPart e a)(pu:IsPart f b)
 (h:Q (((cq n 0 a:Nat):Int),1,cq n n b-cq n 0 a) s):i1 (jj prog w) A (kr.Slice.sliceApplied (.ref g) (pure (n:Int))) Q E s:=by
 let(os,c,j,d):=id hs
 unfold kr.Slice.sliceApplied kr.Slice.sliceFields;refine ar (ar (wpAny_field c d (x:=e) rfl (ar (wpAny_field c d (x:=f) rfl (ar (wpAny_field c d (x:=.none) rfl (bp ?_)))))));refine ar (slicePart_none ?_);show i1 _ _ (if((1:Int)==0)=ig then _ else _) _ _ s;rw [if_neg (by decide)];refine ar (iZ i (ar (iZ pu (ar (bp ?_)))));show i1 _ _ (match kr.Slice.sliceAdjust a b 1 (n:Int) with|(a,b)=>pure (a,(1:Int),kr.Slice.slicePlaces a b 1)) _ _ s;rw [uV a b n];show i1 _ _ (pure (((cq n 0 a:Nat):Int),(1:Int),kr.Slice.slicePlaces ((cq n 0 a:Nat):Int) ((cq n n b:Nat):Int) 1)) _ _ s;rw [vV];exact bp h
def CM(xs:Array ix)(i k:Nat):((List.range k).filterMap λ(m:Nat)=>xs[((i:Int)+(m:Int)*1).toNat]?).toArray=((xs.toList.drop i).take k).toArray:=by
 have e:(λ(m:Nat)=>xs[((i:Int)+(m:Int)*1).toNat]?)=λm=>xs[i+m]?:=by
  funext m
  have:((i:Int)+(m:Int)*1).toNat=i+m:=by omega
  rw [this]
 rw [e];have:=pick_run xs i k;rw [List.filterMap_map] at this;have a:((λx=>xs[x]?)∘λx=>i+x)=λm=>xs[i+m]?:=rfl;rw [a] at this;rw [this]
def jx{t e:iN}{g i:ix}{a b:Option Int}{Q:lq}(c:IsTup s.heap t items)(hs:s.heap.IsSliceOf e g i .none)(j:IsPart g a)(pu:IsPart i b)
 (hw:¬(cq items.size 0 a=0/\cq items.size items.size b=items.size))
 (h:Q (.ref (zz9 s)) {s with heap:=s.heap.push {cls:=.type "tuple",data:=.seq ((items.toList.drop (cq items.size 0 a)).take (cq items.size items.size b-cq items.size 0 a)).toArray}})
 (hsz:items.size<=j3):i1 (jj prog w) A (getItem (.ref t) (.ref e)) Q E s:=by
 have d:sizeOk (.seq ((items.toList.drop (cq items.size 0 a)).take (cq items.size items.size b-cq items.size 0 a)).toArray):=by show((items.toList.drop (cq items.size 0 a)).take (cq items.size items.size b-cq items.size 0 a)).toArray.size<=j3;rw [a5,List.length_take,List.length_drop,d1];omega
 have u:cq items.size items.size b<=items.size:=K0 _ _ (a8 _) b;let(os,f,k,o):=id hs;have p:s.TypeIs (.ref e) "slice":=⟨os,f,k⟩;unfold getItem
 try with_reducible refine wpAny_holding ?_
 first|refine ar (bp ?_)|skip
 refine ar (wpAny_sequenceKey c.typeIs (by decide) ?_);refine ar (wpAny_callSpecial?_slot (name:=Str.ofString "__getitem__") c.typeIs PyProof.Rows.slot_tuple_getitem
  (wpAny_call_entry PyProof.Rows.slot_tuple_getitem c.typeIs entry_tuple_getitem ?_ (args_tuple_getitem _ _)))
 show i1 _ _ (kr.Tuple.tupleItemsOf (.ref t)>>=_) _ _ s;refine ar (tupleItemsOf_ c ?_);refine ar (wpAny_typeOf p ?_);rw [if_pos (by decide)];refine ar (fg hs j pu ?_);have r:¬((((cq items.size 0 a:Nat):Int)==0&&(1:Int)==1&&(cq items.size items.size b-cq items.size 0 a)==items.size)=ig):=by intro q;rw [zza,zza] at q;have q1:((cq items.size 0 a:Nat):Int)=0:=eq_of_beq q.1.1;have q2:cq items.size items.size b-cq items.size 0 a=items.size:=eq_of_beq q.2;exact hw {by omega,by omega}
 show i1 _ _ (if(((cq items.size 0 a:Nat):Int)==0&&(1:Int)==1&&(cq items.size items.size b-cq items.size 0 a)==items.size)=ig then _ else _) _ _ s;rw [if_neg r,CM]
 first
  |exact ar (m:=kr.Tuple.tupleExact _) (wpAny_newObj_type (bp ⟨_,rfl,bp h⟩) d)
  |exact ar (m:=kr.Tuple.tupleExact _) (wpAny_newObj_type (ar (bp (bp ⟨_,rfl,bp h⟩))) d)
  |exact ar (ar (m:=kr.Tuple.tupleExact _) (wpAny_newObj_type (bp (bp ⟨_,rfl,bp h⟩)) d))
  |exact ar (ar (m:=kr.Tuple.tupleExact _) (wpAny_newObj_type (bp ⟨_,rfl,bp h⟩) d))
end
end HT
namespace L2
open PySem.Spec PyProof.Rows
noncomputable abbrev TO:=St->Hp->(Option Int->Hp->Prop)->Prop
def PO(X:Cx)(e:Option iO)(t:TO):Prop:=
 ∀(b:lu) (s:iM) (a:St) (H:Hp) (Q:Option Int->Hp->Prop),Inv X b a H s->t a H Q->
  zx7 X (evalPart e X.env) (λu d=>∃o c,Inv X b a c d/\IsPart u o/\Q o c) X.xe s
abbrev Gy:TO:=λZ H Q=>Q ie H
abbrev Oc(t:TE):TO:=λa H Q=>t a H λx b=>∃i,x=.int i/\Q (hT i) b
def intsAre_of{ns:List Int}:∀{us:List ix},Vals (ns.map V.int) us->IntsAre us ns:=by
 induction ns with
 |nil=>intro us r;rw [List.map_nil] at r;cases r;exact .nil
 |cons n ns a=>
  intro us r;rw [bc] at r;cases r with
  |cons b c=>let(t,e):=b;subst e;exact .cons n t (a c)
section
variable{lo hi:Option iO}{tl th:TO}{p2:Pos}
def FY:PO X ie Gy:=by intro a s b H Q I h;rw [evalPart_none];exact bp {ie,H,I,.none,h}
def FZ(h:PE X e te):PO X (hT e) (Oc te):=by intro b s c H Q I d;rw [evalPart_some];refine bb (h b s c H _ I d) λu k a=>?_;let(x,f,g,j,q1):=a;let(i,rfl,q):=q1;let(t,rfl):=j;exact{hT i,f,g,.int i t,q}
def Au(X:Cx)(r:V->Option Int->Option Int->Hp->VK->Prop):Prop:=
 ∀(a:lu) (s:iM) (b:St) (H:Hp) (x:V) (v c d:ix) (lo hi:Option Int) (f:iN) (Q:VK),Inv X a b H s->RelV x v->s.heap.IsSliceOf f c d .none->IsPart c lo->IsPart d hi->r x lo hi H Q->
  ∃T g,typeLookup (.type T) "__getitem__"=pure (hT (.builtin g))/\s.TypeIs v T/\zx7 X (getItem v (.ref f)) (EP X a b Q) X.xe s
abbrev V9(r:V->Option Int->Option Int->Hp->VK->Prop)(te:TE)(tl th:TO):TE:=λa H Q=>te a H λx b=>tl a b λl c=>th a c λu d=>r x l u d Q
def CB{r:V->Option Int->Option Int->Hp->VK->Prop}(k:Au X r)(he:PE X e te)(hl:PO X lo tl)(m:PO X hi th):PE X (.Subscript e (.Slice lo hi ie p2) pos) (V9 r te tl th):=by
 intro d s f H Q I h;refine Subscript_ (bb (he d s f H _ I h) λv o c=>?_);let(x,p,t,y,q1):=c;refine wpAny_Slice (bb (hl d o f p _ t q1) λg z ⟨l,B,C,D,q2⟩=>bb (m d z f B _ C q2) λi a c=>?_);let(u,j,E,pu,q3):=c
 rw [evalPart_none];refine bp ?_;have F:Inv X d f j {a with heap:=a.heap.push {cls:=.type "slice",data:=.fields #[g,i,.none]}}:=E.kept (t':=a.toks) λb ob q=>aT _ q
 let(T,L,G,J,K):=k d {a with heap:=a.heap.push {cls:=.type "slice",data:=.fields #[g,i,.none]}} f j x v g i l u (zz9 a) Q F y (j2.IsSliceOf.new ..) D pu q3
 show zx7 X (subscriptTail e (.Slice lo hi ie p2) v (.ref (zz9 a))) (EP X d f Q) X.xe {a with heap:=a.heap.push {cls:=.type "slice",data:=.fields #[g,i,.none]}};exact tail_any (ops:=[.ref (zz9 a),v]) J G K (by with_unfolding_all rfl)
abbrev sL(xs:List V)(lo hi:Option Int):List V:=(xs.drop (HT.cq xs.length 0 lo)).take (HT.cq xs.length xs.length hi-HT.cq xs.length 0 lo)
def kT(xs:List V)(lo hi:Option Int):(sL xs lo hi).length<=xs.length:=by unfold sL;rw [List.length_take,List.length_drop];omega
def Rp(K:zz8):V->Option Int->Option Int->Hp->VK->Prop:=λx lo hi H Q=>∃a xs,x=.ref a/\dF K H a xs/\
 ¬(HT.cq xs.length 0 lo=0/\HT.cq xs.length xs.length hi=xs.length)/\∀p,H p=ie->Q (.ref p) (upd H p (.tup (sL xs lo hi)))
def K7:Au X (Rp X.K):=by
 intro p s t H x v u w lo hi y Q I g hs i pu h;let(a,xs,rfl,j,k,q):=h;cases g;let(m,r,d,f):=I.tuple j;have c:m.toArray.size=xs.length:=by rw [a5];exact r.length.symm
 refine{"tuple",_,PyProof.Rows.slot_tuple_getitem.lookup,d.typeIs,?_};refine HT.jx d hs i pu (by rw [c];exact k) ?_ (by rw [c];exact f);rw [c];refine{.ref (zz9 s),_,I.laid (t':=s.toks) (o:=.tup (sL xs lo hi)) (λb ob q=>aT _ q) (a8 _) ?_,rfl,q _ (I.aJ.fresh (a8 _))};exact{c0 (kT xs lo hi) f,_,(r.drop (HT.cq xs.length 0 lo)).take (HT.cq xs.length xs.length hi-HT.cq xs.length 0 lo),IsTup.new _ _}
abbrev Rl(K:zz8):R2:=λx y H Q=>∃a b ns ms,x=.ref a/\y=.ref b/\dF K H a (ns.map V.int)/\dF K H b (ms.map V.int)/\Q (.bl (HT.lexLt ns ms)) H
def Kl(c:X.A.units<cLine):d5 X (compareOp .Lt) (Rl X.K):=by intro t s w H x y v u Q I d f h;let(a,b,ns,ms,rfl,rfl,g,i,q):=h;cases d;cases f;let(j,k,p1,_):=I.tuple g;let(m,o,p2,_):=I.tuple i;have p:IntsAre j.toArray.toList ns:=intsAre_of k;have r:IntsAre m.toArray.toList ms:=intsAre_of o;exact HT.vA p1 p2 p r c {.bl (HT.lexLt ns ms),H,I,rfl,q}
abbrev NR(K:zz8):R2:=λx y H Q=>∃a b xs c,x=.ref a/\y=.ref b/\dF K H a xs/\dF K H b c/\xs≠[]/\xs.length+c.length<=j3/\
 (c=[]->Q (.ref a) H)/\(c≠[]->∀p,H p=ie->Q (.ref p) (upd H p (.tup (xs++c))))
def Vals.l5{xs:List V}(r:Vals xs us):us=[]↔xs=[]:=by
 cases r with
 |nil=>simp|cons _ _=>simp
def FJ:d5 X (binaryOp .Add) (NR X.K):=by intro r s t H x y v u Q I g i h;let(a,b,xs,j,rfl,rfl,k,m,p,f,q1,q2):=h;cases g;cases i;let(A,d,p1,_):=I.tuple k;let(B,c,p2,_):=I.tuple m;refine HT.Ee p1 p2 (λz=>p (d.l5.mp z)) (λz=>{.ref a,H,I,rfl,q1 (c.l5.mp z)}) (λz=>?_) (by rw [<-d.length,<-c.length];exact f);refine{.ref (zz9 s),_,I.laid (t':=s.toks) (o:=.tup (xs++j)) (λb ob q=>aT _ q) (a8 _) ?_,rfl,q2 (λw=>z (c.l5.mpr w)) _ (I.aJ.fresh (a8 _))};exact{by rw [bF];exact f,_,d.append c,IsTup.new _ _}
end
abbrev LO(n:Nat)(i:Int):Option Nat:=if 0<=i then(if i<n then hT i.toNat else ie) else if -(n:Int)<=i then hT (i+n).toNat else ie
abbrev wL{a:Type}(xs:List a)(i:Int):Option a:=(LO xs.length i).bind λj=>xs[j]?
def E8{n:Nat}{i:Int}(h:LO n i=hT j):seqIndex? i n=hT j/\j<n/\ -(n:Int)<=i/\i<n:=by
 unfold LO at h;by_cases h0:0<=i
 .rw [if_pos h0] at h;by_cases a:i<n
  .rw [if_pos a] at h;have e:i.toNat=j:=zzq h;exact{by rw [seqIndex_of h0 a,e],by omega,by omega,a}
  .rw [if_neg a] at h;cases h
 .rw [if_neg h0] at h;by_cases a: -(n:Int)<=i
  .rw [if_pos a] at h;have e:(i+n).toNat=j:=zzq h;exact{by rw [seqIndex_neg (by omega) a,e],by omega,a,by omega}
  .rw [if_neg a] at h;cases h
def qj{a:Type}{xs:List a}{i:Int}{v:a}(h:wL xs i=hT v):∃j,seqIndex? i xs.length=hT j/\xs[j]?=hT v/\j<xs.length/\ -(xs.length:Int)<=i/\i<xs.length:=by
 unfold wL at h;cases e:LO xs.length i with
 |none=>rw [e] at h;cases h
 |some j=>rw [e] at h;let(b,c,d,f):=E8 e;exact⟨j,b,h,c,d,f⟩
def qf(b:iO):Prop:=∀o i,subscripted b iv o i=operate [o,i] (getItem o i)
def HL(X:Cx)(r:R2):Prop:=
 ∀(a slice:iO) (b:lu) (s:iM) (c:St) (H:Hp) (x y:V) (v u:ix) (Q:VK),Inv X b c H s->RelV x v->RelV y u->r x y H Q->
  subscripted slice iv v u=operate [v,u] (getItem v u)->zx7 X (subscriptTail a slice v u) (EP X b c Q) X.xe s
def Ls(X:Cx)(id:String)(r:V->List V->Hp->VK->Prop):Prop:=
 ∀(a:lu) (s:iM) (b:St) (H:Hp) (x:V) (xs:List V) (v:ix) (c:List ix) (Q:VK),Inv X a b H s->RelV x v->Vals xs c->r x xs H Q->
  zx7 X (call (.builtin id) (v::c)) (EP X a b Q) X.xe s
section
variable{a b:iO}{ta tb:TE}
def Ho{r:R2}(c:HL X r)(d:PE X a ta)(e:PE X b tb)(hs:qf b):PE X (.Subscript a b pos) (L0 r ta tb):=by intro f s g H Q I h;exact Subscript_ (HS d e I h λv u i x y j k m o q=>c a b f i g j x y v u Q k m o q (hs _ _))
abbrev Ri(K:zz8):R2:=λx y H Q=>∃p xs i v,x=.ref p/\y=.int i/\eW K H p xs/\wL xs i=hT v/\Q v H
abbrev Rk(K:zz8):R2:=λx y H Q=>∃p xs i v,x=.ref p/\y=.int i/\dF K H p xs/\wL xs i=hT v/\Q v H
abbrev Rj:R2:=λx y H Q=>∃z i c,x=.str z/\y=.int i/\z.length<=j3/\wL z.cps.toList i=hT c/\Q (.str {#[c]}) H
def E9:HL X (Ri X.K):=by
 intro d slice g s k H x y v u Q I o A h hs;let(p,xs,i,z,rfl,rfl,B,C,q):=h;cases o;let(t,rfl):=A;let(D,r,e,M):=I.list B;let(j,c,E,N,F,G):=qj C;let(w,m,J):=r.get E;have hl:=r.length;have O:=nh;have fin:EP X g k Q w s:=⟨z,H,I,J,q⟩;by_cases h0:0<=i
 .have f:i.toNat=j:=by
   rw [seqIndex_of h0 G] at c;exact zzq c
  exact item_listR e.isList h0 (by omega) (by rw [f];simpa using m) fin hs
 .have f:(i+(D.toArray.size:Int)).toNat=j:=by
   rw [seqIndex_neg (by omega) F] at c;rw [a5,<-hl];exact zzq c
  exact subscriptTail_builtinR (x:=w) e.isList.typeIs slot_list_getitem.lookup
   (wpAny_getItem_list_neg (Q:=λr L=>r=w/\EP X g k Q r L) e.isList (by omega) (by rw [a5]<;>omega) (by omega) (by rw [f];simpa using m) ⟨rfl,fin⟩) hs
def JL:HL X (Rk X.K):=by
 intro c slice d s e H x y v u Q I g k h hs;let(p,xs,i,z,rfl,rfl,m,o,q):=h;cases g;let(t,rfl):=k;let(F,r,f,G):=I.tuple m;let(j,A,B,J,L,M):=qj o;let(w,C,D):=r.get B;have hl:=r.length;have N:=nh;have fin:EP X d e Q w s:=⟨z,H,I,D,q⟩
 exact subscriptTail_builtinR (x:=w) f.typeIs slot_tuple_getitem.lookup
  (getItem_tuple (j:=j) (Q:=λr E=>r=w/\EP X d e Q r E) f (by omega) (by omega) (by rw [a5,<-hl];exact A) (zx6 C) ⟨rfl,fin⟩) hs
def JK:HL X Rj:=by
 intro d slice A s B H x y v u Q I f g h hs;let(z,i,c,rfl,rfl,C,k,q):=h;let(t,rfl):=f;let(D,rfl):=g;let(j,e,m,E,o,p):=qj k;have hl:z.cps.toList.length=z.length:=by simp [Str.length]
 rw [hl] at e o p;have F:=nh;exact tail_any (typeIs_str s z t) slot_str_getitem.lookup (getItem_str (c:=c) (by have r:decide (i< -(2^63:Int))=iv:=zz0 (by omega);have w:decide (i>=2^63)=iv:=zz0 (by omega);rw [r,w,Bool.or_false]) (by rw [e];simpa using m) {.str {#[c]},H,I.tok _,{_,rfl},q}) hs
def rB(c d:Option Int)(n:Nat):(sliceBounds c d ie n).1=((HT.cq n 0 c:Nat):Int)/\(sliceBounds c d ie n).2.1=((HT.cq n n d:Nat):Int)/\(sliceBounds c d ie n).2.2=1:=by
 refine{?_,?_,rfl}
 .cases c with
  |none=>simp [sliceBounds,HT.cq]|some i=>
   simp! [sliceBounds,HT.cq,Option.getD_none,show(1:Int)>0 by decide,if_true];by_cases h:i<0
   .simp! [h,if_true]<;>omega
   .simp! [h,if_false]<;>omega
 .cases d with
  |none=>simp [sliceBounds,HT.cq]|some i=>
   simp! [sliceBounds,HT.cq,Option.getD_none,show(1:Int)>0 by decide,if_true];by_cases h:i<0
   .simp! [h,if_true]<;>omega
   .simp! [h,if_false]<;>omega
def oI(c:List ix)(d e:Option Int):slicePick c.toArray d e ie=((c.drop (HT.cq c.length 0 d)).take (HT.cq c.length c.length e-HT.cq c.length 0 d)).toArray:=by let(f,g,h):=rB d e c.toArray.size;unfold slicePick;rw [f,g,h];simp! [sliceRange_one,pick_run,a5]<;>rfl
def Rn(K:zz8):V->Option Int->Option Int->Hp->VK->Prop:=λx c d H Q=>∃a xs,x=.ref a/\eW K H a xs/\∀p,H p=ie->Q (.ref p) (upd H p (.lst (sL xs c d)))
def Gg:Au X (Rn X.K):=by intro m s p H x v t u d e w Q I g hs i pu h;let(a,xs,rfl,j,q):=h;cases g;let(y,r,f,k):=I.list j;have c:=r.length;refine{"list",_,slot_list_getitem.lookup,f.isList.typeIs,?_};refine wpAny_getItem_list_slice f.isList hs i pu .none (by simp) ?_ (by rw [a5]<;>omega);rw [oI,<-c];refine{.ref (zz9 s),_,I.laid (t':=s.toks) (o:=.lst (sL xs d e)) (λb ob q=>aT _ q) (a8 _) ?_,rfl,q _ (I.aJ.fresh (a8 _))};exact{c0 (kT xs d e) k,_,0,(r.drop (HT.cq xs.length 0 d)).take (HT.cq xs.length xs.length e-HT.cq xs.length 0 d),dI _ rfl}
def je:bP X (.builtin "len") (λxs H Q=>∃p ys,xs=[.ref p]/\(eW X.K H p ys\/dF X.K H p ys)/\Q (.int ys.length) H):=by
 intro k s m H xs o Q I r h;let(p,ys,rfl,d,q):=h;let(u,rfl,g):=vals1 r;cases g;have t:=nh
 rcases d with d|d
 .let(i,e,f,j):=I.list d;have c:=e.length;exact Calls.call_len_list f.isList (by simp! [a5]<;>omega) {.int ys.length,H,I.tok _,{s.toks+1,by rw [a5,c]},q}
 .let(i,e,f,j):=I.tuple d;have c:=e.length;exact len_tuple f (by simp! [a5]<;>omega) {.int ys.length,H,I.tok _,{s.toks+1,by rw [a5,c]},q}
def qm:bP X (.builtin "len") (λxs H Q=>∃z,xs=[.str z]/\z.length<=j3/\Q (.int z.length) H):=by intro c s d H xs e Q I r h;let(z,rfl,f,q):=h;let(u,rfl,t,rfl):=vals1 r;have g:=nh;exact len_str (by omega) {.int z.length,H,I.tok _,{_,rfl},q}
def ij:bP X (.type "tuple") (λxs H Q=>∃p ys,xs=[.ref p]/\((eW X.K H p ys/\∀l,H l=ie->Q (.ref l) (upd H l (.tup ys)))\/(dF X.K H p ys/\Q (.ref p) H))):=by
 intro j s k H xs B Q I r h;let(p,ys,rfl,h):=h;let(u,rfl,z):=vals1 r
 cases z;rcases h with⟨d,q⟩|⟨d,q⟩
 .let(f,g,i,m):=I.list d;have t:=g.length;refine call_tuple_list i.isList (λc kp=>?_) (by simp! [a5]<;>omega);have y:Inv X j k H {s with heap:=c}:=I.kept (t':=s.toks) kp
  have A:Inv X j k (upd H c.objs.size (.tup ys)) {s with heap:=c.push {cls:=.type "tuple",data:=.seq f.toArray}}:=
   y.laid (t':=s.toks) (λb o e=>aT _ e) (a8 _) (show bB X.prog X.w _ _ _ (.tup ys) from{m,f,g,IsTup.new _ _})
  exact{.ref c.objs.size,_,A,rfl,q _ (y.aJ.fresh (a8 _))}
 .let(f,g,i,m):=I.tuple d;exact call_tuple_same i {.ref p,H,I,rfl,q}
def OZ(K:zz8)(T:String)(x:V)(H:Hp):Prop:=match x with
 |.str _=>T="str"|.int _=>T="int"|.ref p=>(T="list"/\∃xs,eW K H p xs)\/(T="tuple"/\∃o,K.lookup p=hT o/\o.cls=.type "tuple"/\o.dict=ie)\/
  (T="dict"/\((∃c,H p=hT (.dK c))\/∃c,H p=hT (.dT c)))\/(T="set"/\∃S n,H p=hT (.set S n))
 |_=>False
def DE{g:St}{s:iM}{T:String}{x:V}{v:ix}(I:Inv X aa g H s)(r:RelV x v)(ty:OZ X.K T x H):
 s.TypeIs v T/\∀a,v=.ref a->∃ob,s.heap.get? a=hT ob/\ob.dict=ie:=by
 cases x with
 |str z=>let(t,rfl):=r;cases(show T="str" from ty);exact{typeIs_str s z t,λZ e=>nomatch e}
 |int i=>let(t,rfl):=r;cases(show T="int" from ty);exact{typeIs_int s i t,λZ e=>nomatch e}
 |ref p=>
  cases r;rcases ty with⟨rfl,xs,h⟩|⟨rfl,o,hk,j,hd⟩|⟨rfl,hk⟩|⟨rfl,S,n,hk⟩
  .let(m,_,f,_):=I.list h;refine{f.isList.typeIs,λa e=>?_};cases e;let(o,n,e,c,hd,_):=f;exact⟨o,e,hd⟩
  .refine{{o,I.iR p o hk,j},λa e=>?_};cases e;exact{o,I.iR _ o hk,hd}
  .have z:∃o,s.heap.get? p=hT o/\o.ExactDict:=by
    rcases hk with⟨k,hk⟩|⟨k,hk⟩
    .let(_,_,_,_,o,_,_,e,ex,_):=I.aJ p _ hk;exact⟨o,e,ex⟩
    .let(_,_,_,_,o,_,_,e,ex,_):=I.aJ p _ hk;exact⟨o,e,ex⟩
   let(o,e,ex):=z;refine{⟨o,e,ex.1⟩,λa d=>?_};cases d;exact⟨o,e,ex.2.1⟩
  .let(o,_,_,_,e,ex,_):=I.aJ p _ hk;refine{⟨o,e,ex.1⟩,λa d=>?_};cases d;exact⟨o,e,ex.2.1⟩
 |_=>exact ek ty
abbrev RA(K:zz8)(T:String)(r:V->List V->Hp->VK->Prop)(d:TE):TE:=λe H Q=>d e H λx c=>OZ K T x c/\r x [] c Q
abbrev TM(K:zz8)(T:String)(r:V->List V->Hp->VK->Prop)(e:TE)(t:TA):TE:=λc H Q=>e c H λx d=>OZ K T x d/\t c d λxs f=>r x xs f Q
variable{o:iO}{es:List iO}{to:TE}{t:TA}{name:Str}{apos aX:Pos}{T id:String}{r:V->List V->Hp->VK->Prop}
theorem Ku(j:PlainAttrs T)(slot:Slot T name id)(k:typeOf (.builtin id)=pure (.type "method_descriptor"))(hm:Ls X id r)(m:PE X o to)
 (p:attributeBase o name X.env (eval o X.env)=eval o X.env:=by rfl) (q:(apos.endLine==aX.line)=ig:=by rfl):PE X (.Call (.Attribute o name apos) [] [] aX) (RA X.K T r to):=by
 intro d s f H Q I h;refine wpAny_Call_method0_late p q (bb (m d s f H _ I h) λv u c=>?_);let(x,w,g,i,ty,q1):=c;let(y,z):=DE g i ty;exact{T,id,j,slot,k,y,z,Calls.callWith_builtin rfl (PySem.evalArgs_none (hm d u f w x [] v [] Q g i .nil q1))}
theorem pY(k:PlainAttrs T)(slot:Slot T name id)(m:typeOf (.builtin id)=pure (.type "method_descriptor"))(hm:Ls X id r)(p:PE X o to)(q:PA X (e::es) t)
 (u:attributeBase o name X.env (eval o X.env)=eval o X.env:=by rfl)
 (w:((backTo aX (starEach (e::es) X.env)).all (λx=>!x.1)&&(backToKw aX (keywordEach [] X.env)).all (λx=>x.1.isSome)
  &&decide ((e::es).length+([]:List Keyword).length+(if([]:List Keyword).isEmpty then 0 else 1)<30))=ig:=by rfl)
 (y:(apos.endLine==aX.line)=ig:=by rfl) (hs:starEach (e::es) X.env=(iv,eval e X.env)::starEach es X.env:=by rfl) (z:(backTo aX (starEach es X.env)).any (·.1)=iv:=by rfl):
 PE X (.Call (.Attribute o name apos) (e::es) [] aX) (TM X.K T r to t):=by
 intro c s d H Q I h;refine wpAny_Call_method_late u w y rfl (bb (p c s d H _ I h) λv A f=>?_);let(x,B,g,i,ty,q1):=f;let(C,D):=DE g i ty;refine{T,id,k,slot,m,C,D,?_};have j:=q aX c A d B _ g q1;rw [hs] at j⊢;refine Calls.callWith_builtin (by show(iv||(backTo aX (starEach es X.env)).any (·.1))=iv;rw [z]<;>rfl) (Calls.evalArgs_plain ?_);exact bb j λE F ⟨G,J,L,M,q2⟩=>hm c F d J x G v E Q L i M q2
end
def RR(X:Cx)(id:String)(r:V->List V->Hp->VK->Prop):Prop:=
 ∀(a:lu) (s:iM) (b:St) (H:Hp) (x:V) (xs:List V) (v:ix) (c:List ix) (Q:VK),Inv X a b H s->RelV x v->Vals xs c->r x xs H Q->
  zx7 X (call (.builtin id) (v::c)) (EP X a b Q) X.xe s
theorem Vals.one:∀{x:V} {us:List ix},Vals [x] us->∃u,us=[u]/\RelV x u
 |_,_,.cons r .nil=>{_,rfl,r}
def Vals.two{x y:V}(h:Vals [x,y] us):∃u v,us=[u,v]/\RelV x u/\RelV y v:=by
 cases h with
 |cons r q=>
  cases q with
  |cons q n=>cases n;exact{_,_,rfl,r,q}
theorem Vals.zero:∀{us:List ix},Vals [] us->us=[]
 |_,.nil=>rfl
def Vals.dropLast{xs:List V}(h:Vals xs us):Vals xs.dropLast us.dropLast:=by
 induction h with
 |nil=>exact .nil|cons r t a=>
  cases t with
  |nil=>exact .nil|cons q b=>exact .cons r a
theorem Vals.rep{xs:List V}(h:Vals xs us):∀k:Nat,Vals (k6 k xs).flatten (k6 k us).flatten
 |0=>.nil|k+1=>by rw [List.replicate_succ,List.replicate_succ,List.flatten_cons,List.flatten_cons];exact Vals.append h (Vals.rep h k)
def vd{c:Type}(l:List c):l.eraseIdx (l.length-1)=l.dropLast:=by
 induction l with
 |nil=>rfl|cons a r d=>
  cases r with
  |nil=>rfl|cons b r=>
   have e:(a::b::r).length-1=((b::r).length-1)+1:=by have f:(a::b::r).length=r.length+2:=rfl;have g:(b::r).length=r.length+1:=rfl;omega
   rw [e,List.eraseIdx_cons_succ,d]
   all_goals rfl
theorem foldl_rep(b:List ix):∀(k:Nat) (a:List ix),
 List.foldl (λx1 c=>x1++c) a.toArray (k6 k b.toArray)=(a++(k6 k b).flatten).toArray
 |0,a=>by simp|k+1,a=>by
  have e:a.toArray++b.toArray=(a++b).toArray:=by simp
  have d:(a++b)++(k6 k b).flatten=a++(k6 (k+1) b).flatten:=by rw [List.replicate_succ,List.flatten_cons,List.append_assoc]
  rw [<-d,<-foldl_rep b k (a++b),<-e,List.replicate_succ,List.foldl_cons]
section
variable{s:iM}{l:iN}{xs ys:List V}
def Inv.JV{a its':List ix}{n:Nat}{f:Array ix->Array ix}{t':Nat}(I:zv3 s)(b:H l=hT (.lst xs))
 (e:s.heap.get? l=hT {cls:=.type "list",data:=.seq a.toArray n}) (c:f a.toArray=its'.toArray) (d:Vals ys its') (hz:ys.length<=j3):
 Inv X aa σ (upd H l (.lst ys)) {s with heap:=s.heap.update l (Obj.mapSeq f),toks:=t'}:=by
 have q:=PySem.IsL.update e f;rw [c] at q;refine I.write (x:=l) (e:=l) (by rw [b];exact trivial) (.inl rfl) (λi u g h=>(j2.get?_update_other s.heap (Obj.mapSeq f) (Ne.symm g)).trans h) {_,q} ?_;exact{hz,its',_,d,q}
theorem Inv.Nt{a:List ix}{t':Nat}(I:zv3 s)(b:Vals ys a)(hz:ys.length<=j3):
 Inv X aa σ (upd H (zz9 s) (.lst ys)) {s with heap:=s.heap.push {cls:=.type "list",data:=.seq a.toArray},toks:=t'}:=
 I.laid (λZ Z q=>aT _ q) (a8 _) {hz,a,0,b,dI _ rfl}
def Inv.fresh(I:zv3 s):H (zz9 s)=ie:=I.aJ.fresh (a8 _)
def Inv.JW(I:zv3 s)(b:H l=hT (.lst xs)):xs.length<=j3/\∃(a:List ix) (n:Nat),Vals xs a/\xs.length=a.length/\s.heap.get? l=hT {cls:=.type "list",data:=.seq a.toArray n}:=by let(z,a,n,r,e):=I.aJ l _ b;exact⟨z,a,n,r,r.length,e⟩
def t8{n:Nat}(h:n<=j3):kr.List.listTooLong n=iv:=by unfold kr.List.listTooLong;exact zz0 (by omega)
def F5:V->List V->Hp->VK->Prop:=λx a H Q=>∃l xs y,x=.ref l/\a=[y]/\H l=hT (.lst xs)/\xs.length<j3/\Q .aE (upd H l (.lst (xs++[y])))
def pQ:RR X "list.append" F5:=by intro aa s σ H x g v i Q I c d h;let(l,xs,y,rfl,rfl,a,j,q):=h;cases c;let(u,rfl,f):=d.one;let(z,b,n,r,hl,e):=I.JW a;refine call_meets F.slot_list_append {_,e,rfl} F.entry_list_append (F.args_list_append_2 _ _) (PySem.list_append l b.toArray n u (by rw [a5];omega)) {e,?_};refine{.aE,_,I.JV (its':=b++[u]) a e (by simp) (r.append (.cons f .nil)) ?_,rfl,q};rw [bF,List.length_singleton];omega
def Rm:V->List V->Hp->VK->Prop:=λx a H Q=>∃l xs y,x=.ref l/\a=[]/\H l=hT (.lst xs)/\xs[xs.length-1]?=hT y/\Q y (upd H l (.lst xs.dropLast))
def JX:RR X "list.pop" Rm:=by
 intro aa s σ H x m v o Q I c d h;let(l,xs,y,rfl,rfl,b,f,q):=h;cases c;have g:=d.zero;subst g;let(z,a,n,r,hl,e):=I.JW b;let(u,i,j):=r.get f;have k:a.toArray[a.toArray.size-1]?=hT u:=by show a.toArray[a.length-1]?=hT u;rw [<-Array.getElem?_toList,<-hl];exact i
 refine call_meets F.slot_list_pop {_,e,rfl} F.entry_list_pop (F.args_list_pop_1 _) (MeetsSeq.list_pop_last l a.toArray n u k (by rw [a5];omega)) {e,?_};refine{y,_,I.JV (its':=a.dropLast) b e ?_ r.dropLast ?_,j,q}
 .show a.toArray.eraseIdxIfInBounds (a.toArray.size-1)=a.dropLast.toArray;rw [a5,List.eraseIdxIfInBounds_toArray,vd]
 .rw [List.length_dropLast];omega
def len_rep{a:Type}(xs:List a)(k:Nat):(k6 k xs).flatten.length=k*xs.length:=by
 induction k with
 |zero=>simp|succ k b=>rw [List.replicate_succ,List.flatten_cons,bF,b,Nat.succ_mul,Nat.add_comm]
end
end L2
namespace Att
open PySem.W PySem.Calls PyProof.Rows
def lI{P:Params}:∀(ns:List Int) (vs:List ix),WellAll P h vs (ns.map WData.int)->IntsAre vs ns:=by
 intro ns
 induction ns with
 |nil=>intro vs w;rw [List.map_nil] at w;cases w;exact .nil
 |cons n ns c=>
  intro vs w;rw [bc] at w;cases w with
  |cons a b=>cases a;exact .cons _ _ (c _ b)
def zO{l:OpenLaw}{n:Nat}(hn:l.most=hT n){P:Params}{args:List WData}{b:List ix}
 (i:l.row.toRowW.claim.pre args=ig) (k:WellAll P h b args):
 ∃a vs ns,b=[ix.ref a]/\args=[WData.list (ns.map WData.int)]/\h.get? a=hT {cls:=.type "list",data:=.seq vs.toArray}/\IntsAre vs ns/\ns.length<=n:=by
 have m:WShape.hasAll [] args [.list .int]=ig:=(pre_splitW i).1;have j:l.pre.holds [] {args:=args}=ig:=(pre_splitW i).2;let(d,r,rfl,o,p):=hasAllW_cons m;obtain rfl:=hasAllW_nil p;let(xs,rfl,s):=hasW_list o;let(ns,rfl):=items_int s
 have c:ns.length<=n:=by
  unfold OpenLaw.pre at j;have f:(WTm.not (.lt (.lit (.int (n:Int))) (.len (.arg 0)))).holds [] {args:=[.list (ns.map .int)]}=ig:=by have f:=(holds_andW j).1;rw [hn] at f;exact f
  have g:=condW_of f (w_not (w_lt w_lit (w_len_list (w_arg rfl))));rw [zzl] at g;refine Nat.le_of_not_lt λq=>?_;have t:(n:Int)<((ns.length:Nat):Int):=by omega
  first
   |(rw [zzh t] at g;exact absurd g (by decide))
   |(simp at g;omega)
 cases k with
 |cons u w=>
  cases w;cases u with
  |list y e=>exact{_,_,ns,rfl,rfl,y,lI ns _ e,c}
theorem zH(l:OpenLaw)(args:List WData):l.row.toRowW.claim.post args (.bool ig) args=ig:=
 postW_of (r:=l.row.toRowW) (X:=(ig==ig))
  (show WShape.has [] (.bool ig) .bool=ig by first|rfl|decide|simp [WShape.has,WShape.arms,WShape.armsAll])
  (show(WTm.eq .res (.lit (.bool ig))).value [] {args:=args,res:=hT (.bool ig),after:=args}=hT (.bool (ig==ig)) from w_eq_bool (w_res rfl) w_lit) rfl
def su{l:OpenLaw}{n:Nat}{q:i2}{c:List Str}{p:(Str->Option ix)->j2->Prop}{s:i3->j2->Prop}{d:DefRec}
 (hn:l.most=hT n) (z:d.params.defaults=[])
 (call:∀(w:i3) (s₀ b:iM) (mg mb:Str->Option ix) (h:iN) (o:Obj) (k cd e:ix) (a:iN) (vs:List ix) (ns:List Int),
  Ground q c [] p w s₀ mg mb b.heap->s w b.heap->
  b.heap.get? h=hT o->o.data=.func (docDef d.name d.params d.body d.scope k cd e)->b.heap.CodeRec cd d.name->mg d.name=hT (.ref h)->
  b.heap.get? a=hT {cls:=.type "list",data:=.seq vs.toArray}->IntsAre vs ns->ns.length<=n->b.gens=#[]->
  codeAny (jj l.prog w) callerA (.call (.ref h) {[.ref a],[]}) (λr s'=>r=.ok (.ret (.bool ig))/\OldK b.heap s'.heap/\s'.os=b.os/\AllBare s'.gens) b):
 WalkO q c p s l.row.toRowW d [] (λf vs=>PySem.call f vs):=by
 intro w s₀ b mg mb G Y h o k cd e A kV B hd C t m D args u as E y F H I;obtain rfl:A=.none:=Dflts.none t z;obtain rfl:kV=.none:=Dflts.noKw t;let(a,vs,ns,rfl,rfl,i,g,j):=zO hn E H;refine enter_call (codeAny_mono (call w s₀ b mg mb h o k cd e a vs ns G Y B (fd_plain hd) C m i g j D) λr s' J=>?_);let(rfl,K,L,M):=J;exact{.inl {.bool ig,.bool ig,[],rfl,λZ=>rfl,.bool ig,zH l _,λZ=>{List.Pairwise.nil,λZ hm=>(nomatch hm)}},K,L,M}
abbrev ledger(h:j2)(L d:iN):lu:=(List.range h.objs.size).filterMap λa=>if a=L\/a=d then ie else(h.get? a).map λo=>(a,o)
end Att
namespace L2
open PySem.Spec PyProof.Rows
theorem qb:∀{vs:List ix} {ns:List Int},IntsAre vs ns->Vals (ns.map V.int) vs
 |_,_,.nil=>.nil|_,_,.cons n t h=>.cons ⟨t,rfl⟩ (qb h)
abbrev bx(s:j7):Arguments:=match s with
 |.FunctionDef _ a _ _ _ _ _ _ _ _=>a|_=>{posonlyargs:=[],args:=[],vararg:=ie,kwonlyargs:=[],kw_defaults:=[],kwarg:=ie,defaults:=[]}
abbrev aR(s:j7):List Stmt:=match s with
 |.FunctionDef _ _ b _ _ _ _ _ _ _=>b|_=>[]
abbrev aq(s:j7):Scope:=match s with
 |.FunctionDef _ _ _ _ _ _ sc _ _ _=>sc|_=>{kind:=.function,names:=[],isGenerator:=iv,isCoroutine:=iv}
structure HH(K:zz8)(x qual:Str)(st:j7)(f:iN)(fd:FuncData):Prop where
 ex:∃(oc:ix) (od:Option iN) (kV doc pm:ix) (an:Option iN) (cS ct:ix) (oh:Array (Option ix)),
  fd=PySem.W.fnOf x qual (bx st) (aR st) (aq st) .none kV doc pm an cS ct/\K.lookup f=hT {oc,od,.func fd,oh}/\PySem.W.codeIn K cS qual=ig
 kp:PySem.W.keepIn K (.ref f)=ig
section
variable{K:zz8}
def HH.binds{f:iN}{fd:FuncData}{ps:List Str}(F:HH K x qual st f fd)
 (h:∀(kV a b:ix) (c:Option iN) (d ct:ix) (us:List ix),us.length=ps.length->bindArgs (PySem.W.fnOf x qual (bx st) (aR st) (aq st) .none kV a b c d ct) {us,[]}=pure (ps.zip us)):Binds K fd ps []:=by
 let(oc,e,kV,a,b,c,d,ct,g,rfl,i,j):=F.ex;exact .all (h kV a b c d ct)
def qF{f:iN}{oc:ix}{g d:Option iN}{h:Array (Option ix)}{kV a e b ct:ix}(l:K.lookup f=hT {oc,g,.func (PySem.W.fnOf x qual (bx st) (aR st) (aq st) .none kV a e d b ct),h})
 (c:PySem.W.codeIn K b qual=ig) (k:PySem.W.keepIn K (.ref f)=ig):HH K x qual st f (PySem.W.fnOf x qual (bx st) (aR st) (aq st) .none kV a e d b ct):={⟨oc,g,kV,a,e,d,b,ct,h,rfl,l,c⟩,k}
theorem pv(i:Nat)(hN:X.N[i]?=hT x:=by rfl)(a:Mb X.env.scope x:=by first|exact Or.inl rfl|exact Or.inr (Or.inl rfl)|exact Or.inr (Or.inr rfl))(hd:(x==(zu 18:Str))=iv:=by decide)
 (b:(x==("__classdict__":Str))=iv:=by decide):PE X (.Name x pos) (Lk i):=kM hN a hd b
end
def QF{A B:Prop}(h:B):if iv=ig then A else B:=by rw [if_neg zzf];exact h
def QG{A B:Prop}(h:A):if ig=ig then A else B:=by rw [if_pos rfl];exact h
def aw(H a:Hp):Prop:=∀b o,H b=hT o->a b=hT o
def aw.refl(H:Hp):aw H H:=λZ Z h=>h
def aw.trans{d:Hp}(a:aw H H1)(b:aw H1 d):aw H d:=λc o h=>b c o (a c o h)
def aw.free{a:Hp}(e:aw H a){l:iN}(h:a l=Option.none):H l=Option.none:=by
 cases q:H l with
 |none=>rfl|some o=>rw [e l o q] at h;cases h
def aw.seq{K:zz8}{b:Hp}{xs:List V}(e:aw H b)(h:eW K H a xs):eW K b a xs:=by
 rcases h with(h|⟨o,h⟩)|h
 .exact .inl (.inl (e _ _ h))
 .exact .inl (.inr {o,e _ _ h})
 .exact .inr h
end L2
set_option maxHeartbeats 8000000
namespace L2
open PySem.Spec PyProof.Rows
abbrev bt(env:Env)(ys:List Str):List (Str×iN):=ys.map λy=>(y,(env.cells.lookup y).getD 0)
abbrev yU(a:St)(is:List Nat):St:=is.map λi=>(a[i]?).join
abbrev fO(a:j1)(x:Str):Bool:=a.names.lookup x==hT .cell
theorem u9{c:iN}:∀(names:List (Str×NameKind)) (n:Nat) (a:List (Str×iN)),(x,c)∈ku n names a->(x,c)∈a\/(x,NameKind.cell)∈names/\n<=c
 |[],n,a,h=>by rw [ku.eq_def] at h;exact .inl h
 | (y,k)::r,n,a,h=>by
  rw [ku.eq_def] at h;dsimp only at h;split at h
  .rename_i hk;cases eq_of_beq hk;rcases u9 r (n+1) _ h with z|⟨b,d⟩
   .rcases el.mp z with z|z
    .cases z;exact .inr {b4 ..,a8 _}
    .exact .inl z
   .exact .inr {bw _ b,Nat.le_of_succ_le d}
  .rcases u9 r n _ h with z|⟨b,d⟩
   .exact .inl z
   .exact .inr {bw _ b,d}
theorem qw{c:iN}:∀(names:List (Str×NameKind)) (n:Nat) (a:List (Str×iN)),(ku n names a).lookup x=hT c->a.lookup x=hT c\/(x,NameKind.cell)∈names/\n<=c
 |[],n,a,h=>by rw [ku.eq_def] at h;exact .inl h
 | (y,k)::r,n,a,h=>by
  rw [ku.eq_def] at h;dsimp only at h;split at h
  .rename_i hk;cases eq_of_beq hk;rcases qw r (n+1) _ h with z|⟨b,d⟩
   .rw [hF] at z;cases e:x==y with
    |true=>rw [e] at z;cases z;cases eq_of_beq e;exact .inr {b4 ..,a8 _}
    |false=>rw [e] at z;exact .inl z
   .exact .inr {bw _ b,Nat.le_of_succ_le d}
  .rcases qw r n _ h with z|⟨b,d⟩
   .exact .inl z
   .exact .inr {bw _ b,d}
theorem qu:∀(names:List (Str×NameKind)) (n:Nat) (a:List (Str×iN)),(x,NameKind.cell)∉names->(ku n names a).lookup x=a.lookup x
 |[],n,a,_=>by rw [ku.eq_def]|(y,k)::r,n,a,h=>by
  rw [ku.eq_def];dsimp only;have b:(x,NameKind.cell)∉r:=λz=>h (bw _ z);split
  .rename_i hk;cases eq_of_beq hk;rw [qu r (n+1) _ b,hF];cases e:x==y with
   |true=>cases eq_of_beq e;exact absurd (b4 ..) h
   |false=>rfl
  .exact qu r n a b
theorem HY{c:iN}:∀(names:List (Str×NameKind)) (n:Nat) (a:List (Str×iN)),(x,c)∈ku n names a->(∀p∈a,p.2≠c)->(x,c)∈ku n names []
 |names,n,a,h,d=>by
  have key:∀(names:List (Str×NameKind)) (n:Nat) (a b:List (Str×iN)),(x,c)∈ku n names (b++a)->(∀p∈a,p.2≠c)->(x,c)∈ku n names b:=by
   intro names
   induction names with
   |nil=>
    intro n a b h d;rw [ku.eq_def] at h⊢;rcases List.mem_append.mp h with z|z
    .exact z
    .exact absurd rfl (d _ z)
   |cons y r e=>
    intro n a b h d;let(y,k):=y;rw [ku.eq_def] at h⊢;dsimp only at h⊢;split at h
    .rename_i hk;rw [if_pos hk];exact e (n+1) a ((y,n)::b) h d
    .rename_i hk;rw [if_neg hk];exact e n a b h d
  exact key names n a [] h d
theorem qx{y:Str}{c:iN}:∀(names:List (Str×NameKind)) (n:Nat) (a:List (Str×iN)),(∀p∈a,p.2<n)->n<=c->(x,c)∈ku n names a->(y,c)∈ku n names a->x=y
 |[],n,a,e,f,b,d=>by rw [ku.eq_def] at b;exact absurd (e _ b) (Nat.not_lt.mpr f)
 | (z,k)::r,n,a,e,f,b,d=>by
  rw [ku.eq_def] at b d;dsimp only at b d;split at b
  .rename_i hk;rw [if_pos hk] at d;have i:∀p∈(z,n)::a,p.2<n+1:=λp j=>by
    rcases el.mp j with q|q
    .rw [q];exact Nat.lt_succ_self _
    .exact Nat.lt_succ_of_lt (e p q)
   by_cases g:n+1<=c
   .exact qx r (n+1) _ i g b d
   .have one:∀{w:Str},(w,c)∈ku (n+1) r ((z,n)::a)->w=z:=λ{w} h=>by
     rcases u9 r (n+1) _ h with q|q
     .rcases el.mp q with q|q
      .cases q;rfl
      .exact absurd (e _ q) (Nat.not_lt.mpr f)
     .exact absurd q.2 g
    rw [one b,one d]
  .rename_i hk;rw [if_neg hk] at d;exact qx r n a e f b d
def wD{M:Model}{E:lq}{s:iM}{a:j1}{g:iN}{c:Env}{Q:Env->iM->Prop}
 (h:Q (newEnv a (zz9 s) g (ku ((zz9 s)+1) a.names cl) qual ie .none (hT c) builtinsNs) {s with heap:=pushCells (s.heap.push {cls:=.type "dict",data:=.dict #[]}) a.names}):
 i1 M A (newFunctionEnv a g cl [] qual ie .none (hT c)) Q E s:=by
 unfold newFunctionEnv;refine ar (wpAny_alloc ?_);refine ar (wpAny_forIn_list _ (λrest b f=>f={s with heap:=f.heap}/\pushCells f.heap rest=pushCells (s.heap.push {cls:=.type "dict",data:=.dict #[]}) a.names/\ku (zz9 f) rest b=ku ((zz9 s)+1) a.names cl) _ (λx rest b f j=>?_) (λb f j=>?_) a.names cl {rfl,rfl,by rw [j2.size_push]})
 .let(i,d,e):=j;let(m,k):=x;rw [pushCells.eq_def] at d;rw [ku.eq_def] at e;dsimp only at d e⊢;split
  .rename_i hk;rw [if_pos hk] at d e;refine ar (wpAny_alloc (bp {by rw [i],d,?_}));dsimp only;rw [j2.size_push];exact e
  .rename_i hk;rw [if_neg hk] at d e;exact bp ⟨i,d,e⟩
 .let(i,d,e):=j;rw [pushCells.eq_def] at d;rw [ku.eq_def] at e;dsimp only at d e;subst e;rw [i,d];exact ar (bp (bp h))
noncomputable def bg(X:Cx)(d:List Str)(a:j1)(cl:List (Str×iN))(fp:List iN)(b:iM)(c:Hp)(C:iN):Cx where
 prog:=X.prog
 w:=X.w
 K:=X.K
 mg:=X.mg
 base:=X.base
 A:=X.A
 N:=d
 s₀:=b
 H₀:=c
 env:=compEnvC a (ku (C+1) a.names cl) C X.env
 outer:=X.stack
 stack:=X.stack
 ex:=fp
 fn:=fO a
 calm:=ig
 pn:=[]
 xe:=λZ Z=>False
theorem eh{env:Env}:∀{ys:List Str},(ys.all λy=>(env.cells.lookup y).isSome)=ig->∀(x:Str) (c:iN),(bt env ys).lookup x=hT c->env.cells.lookup x=hT c
 |[],_,_,_,h=>by simp [bt] at h|y::ys,a,x,c,h=>by
  rw [List.all_cons,zza] at a;have b:=eh (env:=env) a.2 x c
  unfold bt at h b;rw [bc,hF] at h;cases e:x==y with
  |true=>rw [e] at h;have d:x=y:=zzy.mp e;subst d;let(g,f):=ey.mp a.1;rw [f] at h⊢;exact h|false=>rw [e] at h;exact b h
theorem jh{env:Env}:∀{ys:List Str} {x:Str},x∈ys->∃c,(bt env ys).lookup x=hT c
 |[],_,h=>nomatch h|y::ys,x,h=>by
  unfold bt;rw [bc,hF];cases e:x==y with
  |true=>exact{_,rfl}|false=>
   have a:x∈ys:=by
    rcases el.mp h with z|z
    .rw [z] at e;simp at e
    .exact z
   exact jh (env:=env) a
def lA{a:j1}{env:Env}{k:NameKind}(h:(relabel a env).names.lookup x=hT k)(hk:k=.cell\/k=.free):∃b,(x,b)∈a.names/\(b=.cell\/b=.free):=by
 have hm:=PySem.mem_of_lookup h;unfold relabel at hm;let((n,f),c,e):=fx.mp hm;dsimp only at e;split at e
 .rename_i d;cases e;refine{f,c,.inr ?_};rw [zza,zza] at d;exact zzy.mp d.1.1
 .cases e;exact⟨k,c,hk⟩
structure eE(X:Cx)(scope:j1)(xs ys:List Str)(is:List Nat):Prop where
 kind:scope.kind=.function
 Py:closureFor scope X.env=pure (bt X.env ys)
 cells:(ys.all λy=>(X.env.cells.lookup y).isSome)=ig
 Ic:(scope.names.all λy=>(decide (y.2≠.cell)||!ys.contains y.1)&&(decide (y.2≠.free)||ys.contains y.1))=ig
 own:(scope.names.all λy=>decide (y.2≠.cell)||decide (scope.names.lookup y.1=hT .cell))=ig
 names:(scope.names.all λy=>decide (y.2≠.local)||decide (scope.names.lookup y.1=hT .local))=ig
 slots:is.map (λi=>X.N[i]?)=ys.map hT
 kX:(ys.all λy=>decide (X.env.kindOf y=hT .cell))=ig
 kY:(ys.all λy=>decide ((relabel scope X.env).names.lookup y=hT .cell))=ig
section
variable{s:iM}{scope:j1}{xs ys:List Str}{is:List Nat}
def eE.Kr(S:eE X scope xs ys is)(h:(x,NameKind.cell)∈scope.names):scope.names.lookup x=hT .cell/\x∉ys:=by
 have q:=cP.mp S.own _ h;have c:=cP.mp S.Ic _ h;rw [zza,e6] at c;rw [e6] at q;refine{zzY (q.resolve_left λz=>zzY z rfl),λa=>?_}
 rcases c.1 with z|z
 .exact zzY z rfl
 .rw [eu.mpr a] at z;cases z
def gk(I:zv3 s)(S:eE X scope xs ys is){C:iN}(hC:(zz9 s)<=C){c:iN}(h:(ku (C+1) scope.names (bt X.env ys)).lookup x=hT c):
 (X.env.cells.lookup x=hT c/\c<(zz9 s)/\x∈ys)\/((x,NameKind.cell)∈scope.names/\C+1<=c):=by
 rcases qw _ _ _ h with z|z
 .have e:=eh S.cells x c z;let(v,q):=I.cell x c e;refine .inl {e,q.lt,?_};have hm:=PySem.mem_of_lookup z;unfold bt at hm;let(y,a,b):=fx.mp hm;cases b;exact a
 .exact .inr z
def yz(I:zv3 s)(w:X.calm=ig)(S:eE X scope xs ys is){A:List Str}{fp:List iN}{C:iN}(hC:(zz9 s)<=C)(d:∀b∈fp,hX X aa H b)(j:∀b∈fp,b<(zz9 s)):
 (bg X A scope (bt X.env ys) fp s H C).Ok where
 mod:=I.ok.mod
 kind:=S.kind
 glob:=I.ok.glob
 blt:=I.ok.blt
 above:=hC
 inj:=λx y c k m=>by
  rcases gk I S hC k with f|f
  .rcases gk I S hC m with i|i
   .exact I.ok.inj x y c f.1 i.1
   .exact absurd f.2.1 (Nat.not_lt.mpr (c0 hC (Nat.le_of_succ_le i.2)))
  .refine qx scope.names (C+1) (bt X.env ys) (λp r=>?_) f.2 (PySem.mem_of_lookup k) (PySem.mem_of_lookup m);unfold bt at r;let(y,B,rfl):=fx.mp r;let(D,t):=ey.mp (cP.mp S.cells y B);let(v,q):=I.cell y D t;dsimp only;rw [t];exact Nat.lt_succ_of_le (c0 (Nat.le_of_lt q.lt) hC)
 has:=λx E=>by
  have F:(relabel scope X.env).names.lookup x=hT .cell\/(relabel scope X.env).names.lookup x=hT .free:=E
  have:∃g,(x,g)∈scope.names/\(g=.cell\/g=.free):=by
   rcases F with z|z
   .exact lA z (.inl rfl)
   .exact lA z (.inr rfl)
  let(g,hm,hk):=this;have u:=cP.mp S.Ic _ hm
  rw [zza,e6,e6] at u;rcases hk with z|z
  .subst z;exact ey.mp (PySem.W.cellsFrom_some _ _ _ (.inl (S.Kr hm).1))
  .rcases u.2 with q|q
   .exact absurd z (zzY q)
   .refine ey.mp (PySem.W.cellsFrom_some _ _ _ (.inr ?_));let(c,e):=jh (env:=X.env) (eu.mp q);rw [e];rfl
 HW:=λx c h e=>by
  have hm:(x,NameKind.cell)∈scope.names:=PySem.mem_of_lookup (eq_of_beq h)
  rcases gk I S hC e with z|z
  .exact absurd z.2.2 (S.Kr hm).2
  .exact c0 hC (Nat.le_of_succ_le z.2)
 hd:=λZ=>I.ok.hd w
 frames:=I.ok.frames
 Ld:=.inl rfl
 PF:=λb a=>{dV (dq (j b a) hC),λx c h=>(gk I S hC h).elim (λz=>(d b a).2.2.2.2.1 x c z.1) λz q=>absurd (j b a) (Nat.not_lt.mpr (q▸c0 hC (Nat.le_of_succ_le z.2)))}
 bs:=λb o e=>I.bs b o e
 u6:=c0 I.ok.u6 I.sz
 zo:=λb o e a=>by
  rcases(d b a).2.2.2.1 with z|z
  .exact I.ok.zo b o e z
  .exact absurd (dq (bZ e) (c0 I.ok.u6 z)) (Nat.lt_irrefl _)
 A1:=λb a hs=>(el.mp (I.kP b hs)).elim (d b a).2.1 (d b a).2.2.1
 f7:=I.stack
 vh:=λb a=>I.mi b a
theorem xj:∀{is:List Nat} {ys:List Str},is.map (λi=>N[i]?)=ys.map hT->∀(j:Nat) (y:Str) (v:V),ys[j]?=hT y->(yU σ is)[j]?=hT (hT v)->∃i:Nat,N[i]?=hT y/\σ[i]?=hT (hT v)
 |[],[],_,_,_,_,h,_=>by simp at h|[],_::_,h,_,_,_,_,_=>by simp at h|_::_,[],h,_,_,_,_,_=>by simp at h|i::is,c::ys,h,0,y,v,b,a=>by rw [bc,bc] at h;have d:=(List.cons.inj h).1;simp! [List.getElem?_cons_zero,Option.some.injEq] at b;subst b;refine{i,d,?_};unfold yU at a;simp! [bc,List.getElem?_cons_zero,Option.some.injEq] at a;exact Option.join_eq_some_iff.mp a|i::is,c::ys,h,j+1,y,v,b,a=>by rw [bc,bc] at h;refine xj (is:=is) (ys:=ys) (List.cons.inj h).2 j y v (zx6 b) ?_;unfold yU at a⊢;simpa using a
noncomputable abbrev lobj(a:List ix)(n:Nat):Obj:={cls:=.type "list",data:=.seq a.toArray n}
def y9(a:List ix)(n:Nat)(v:Option ix):(lobj a n).data≠.cell v:=λz=>by cases z
noncomputable abbrev tests(a:List iO)(env:Env):Sem Bool:=forIn a ig λc r=>if r=ig then do let ok<-isTrue c env (eval c env);pure (ForInStep.yield ok) else pure (ForInStep.yield r)
theorem qz{R:Result->iM->Prop}{s:iM}{a iter:iO}{q:List iO}{scope:j1}{it t:ix}{env:Env}(I:Nat->iM->Prop)
 (turn:∀n s,I n s->i1 (jj prog w) A (pyNext it) (λr b=>match r with
  |none=>R (.ok .next) b|some v=>i1 (jj prog w) A (letOwnedTupleGo a it v) (λZ c=>i1 (jj prog w) A (assign a env v) (λZ g=>
   i1 (jj prog w) A (tests q env) (λok d=>if ok=ig then i1 (jj prog w) A (eval p env) (λx i=>
    i1 (jj prog w) A (call (.builtin "list.append") [t,x]) (λZ j=>∃m,m<n/\I m j) (notedBy (jj prog w) A env λe s'=>R (.error e) s') i) (notedBy (jj prog w) A env λe s'=>R (.error e) s') d
    else∃m,m<n/\I m d) (notedBy (jj prog w) A env λe s'=>R (.error e) s') g)
   (notedBy (jj prog w) A env λe s'=>R (.error e) s') c) (notedBy (jj prog w) A env λe s'=>R (.error e) s') b) (notedBy (jj prog w) A env λe s'=>R (.error e) s') s)
 (n:Nat) (h:I n s):
 codeAny (jj prog w) A (.compLoop (.ListComp p [{a,iter,q,0}] scope pos) 0 it t env) R s:=by
 refine codeAny_loop rfl I (λn s C=>?_) n h;show i1 _ A ((compTurn (.ListComp p [{a,iter,q,0}] scope pos) 0 it t env).onRaise (λx=>do noteFrame x env;theTreesLotGoes x)) _ _ s;refine wpAny_noted ?_;rw [compTurn_list];refine ar (wpAny_standAt (ar (wpAny_mono (turn n s C) (λr b k=>?_) λZ Z f=>f)))
 cases r with
 |none=>exact bp k|some v=>
  refine ar (wpAny_mono k (λZ c u=>?_) λZ Z f=>f);refine ar (wpAny_mono u (λZ g y=>ar (wpAny_mono y (λok d o=>?_) λZ Z f=>f)) λZ Z f=>f)
  cases ok with
  |false=>exact bp ⟨rfl,o⟩|true=>exact ar (ar (wpAny_mono o (λx i z=>ar (wpAny_mono z (λZ j B=>bp (bp ⟨rfl,B⟩)) λZ Z f=>f)) λZ Z f=>f))
def Pd(X:Cx)(a:List iO)(t:TT):Prop:=
 ∀(aa:lu) (s:iM) (σ:St) (H:Hp) (Q:Bool->Hp->Prop),Inv X aa σ H s->t σ H Q->zx7 X (tests a X.env) (TP X aa σ Q) X.xe s
def xM:Pd X [] (λZ H q=>q ig H):=λZ Z Z H Z I h=>wpAny_tests_nil ⟨H,I,h⟩
def xN{t:TT}(h:PT X e t):Pd X [e] t:=λaa s σ H Q I z=>wpAny_tests_one (h aa s σ H Q I z)
def GO(J:It)(k:Nat)(g:TG)(te:TE)(fs:St)(Q:VK)(H1:Hp):Prop:=∃(n:Nat) (W:Nat->List V->St->Hp->Prop),W 0 [] (k6 k ie++fs) H1/\
 ∀i ys b a,W i ys b a->ys.length<j3/\((J.stop i a/\∀p,a p=ie->Q (.ref p) (upd a p (.lst ys)))\/
  (J.go i a/\i<n/\∀x d,J.Lp i a x d->g x b d λc e=>te c e λy f=>W (i+1) (ys++[y]) c f))
abbrev uF(a:TI)(k:Nat)(g:TG)(te:TE)(is:List Nat):TE:=λσ H Q=>a σ H λJ b=>GO J k g te (yU σ is) Q b
def D6(J:It)(k:Nat)(g:TG)(tt:TT)(te:TE)(fs:St)(Q:VK)(H1:Hp):Prop:=∃(n:Nat) (W:Nat->List V->St->Hp->Prop),W 0 [] (k6 k ie++fs) H1/\
 ∀i ys d c,W i ys d c->ys.length<j3/\((J.stop i c/\∀p,c p=ie->Q (.ref p) (upd c p (.lst ys)))\/
  (J.go i c/\i<n/\∀x e,J.Lp i c x e->g x d e λa h=>tt a h λb f=>if b=ig then te a f (λy j=>W (i+1) (ys++[y]) a j) else W (i+1) ys a f))
abbrev mj(a:TI)(k:Nat)(g:TG)(tt:TT)(te:TE)(is:List Nat):TE:=λσ H Q=>a σ H λJ b=>D6 J k g tt te (yU σ is) Q b
def gY{elt tg iter:iO}{ifs:List iO}{pp:Pos}{wi:TI}{g:TG}{tt:TT}{use:Option (ix->Sem Unit)}{QQ:lq}{Q:VK}(hc:X.calm=ig)(S:eE X scope xs ys is)(hi:PI X tg iter wi)
 (hg:∀fp s1 H1 C,PG (bg X (xs++ys) scope (bt X.env ys) fp s1 H1 C) tg g) (ht:∀fp s1 H1 C,Pd (bg X (xs++ys) scope (bt X.env ys) fp s1 H1 C) ifs tt) (he:∀fp s1 H1 C,PE (bg X (xs++ys) scope (bt X.env ys) fp s1 H1 C) elt te)
 (hs:∀x,foldedSetIterable iter X.env x=pure x) (I:zv3 s) (h:mj wi xs.length g tt te is σ H Q)
 (fin:∀(D C:iN) (P:iM) (H4:Hp) (m:Str->Option ix),Inv X aa σ H4 P->P.heap.Ns C m->hX X aa H4 C->Q (.ref D) H4->compPost (jj X.prog X.w) X.A X.xe use QQ (.ref D) C (.ok .next) P):
 zx7 X (comprehension (.ListComp elt [{tg,iter,ifs,0}] scope pos) scope X.env pp (newList []) iv (eval iter X.env) use) QQ X.xe s:=by
 have Jx:∀x∈scope.names,x.2=.local->scope.names.lookup x.1=hT .local:=λx hx hl=>by
  have q:=cP.mp S.names x hx
  rw [e6] at q;rcases q with q|q
  .exact absurd hl (zzY q)
  .exact zzY q
 refine wpAny_comprehension_free (use:=use) (Q:=QQ) (g:={tg,iter,ifs,0}) (gs:=[]) rfl hs S.Py S.kind Jx (bb (hi aa s σ H _ I h) λxv s0 h0=>bb h0 λOO s1 h1=>?_);let(it,fp,tn,J,H1,rfl,E,T,oj,f1,n,W,w0,turn):=h1;refine wpAny_newObj_type (wD ?_);dsimp only;generalize hH2:s1.heap.push {cls:=.type "list",dict:=ie,data:=.seq ([]:List ix).toArray}=G2;generalize R:pushCells (G2.push {cls:=.type "dict",data:=.dict #[]}) scope.names=j;have Qi:∀b o,(G2.push {cls:=.type "dict",data:=.dict #[]}).get? b=hT o->j.get? b=hT o:=λb o e=>by rw [<-R];exact pushCells_keeps _ _ b o e
 have hns₁:j.Ns G2.objs.size λ_=>ie:=(j2.Ns.new G2 (.type "dict")).keeps Qi;have SQ:G2.objs.size=(zz9 s1)+1:=by rw [<-hH2,j2.size_push]
 have Z:(zz9 s1)<=G2.objs.size:=by rw [SQ];exact Nat.le_succ _
 have OH:(zz9 s1)≠G2.objs.size:=by rw [SQ];exact dV (Nat.lt_succ_self _)
 have L:∀b o,s1.heap.get? b=hT o->j.get? b=hT o:=λb o e=>Qi b o (aT _ (hH2▸aT _ e));have qG:j.get? (zz9 s1)=hT (lobj [] 0):=Qi _ _ (aT _ (hH2▸dI _ rfl));have Af:∀b∈fp,b<(zz9 s1):=λb a=>by let(o,e,_):=T.obj _ _ oj b a;exact bZ e
 generalize hY:bg X (xs++ys) scope (bt X.env ys) fp s1 H1 G2.objs.size=Y;have VQ:Y.Ok:=by rw [<-hY];exact yz E hc S Z f1 Af
 have SS:∀b∈fp,(zz9 s1)≠b:=λb a=>Ne.symm (dV (Af b a));have PN:∀b,b∈Y.fs->b=X.env.locals\/b∈X.fs:=λb a=>by rw [<-hY] at a;exact el.mp (E.kP b a)
 have PM:∀b∈Y.fs,b<(zz9 s1):=λb a=>by rw [<-hY] at a;let(_,o,ho,_):=E.stack.mem a;exact bZ ho
 have PU:(zz9 s1)∉Y.fs:=λz=>Nat.lt_irrefl _ (PM _ z);have Jp:Y.env.locals=G2.objs.size:=by rw [<-hY];rfl
 have OI:∀x c,Y.env.cells.lookup x=hT c->(X.env.cells.lookup x=hT c/\c<(zz9 s1)/\x∈ys)\/((x,NameKind.cell)∈scope.names/\G2.objs.size+1<=c):=λx c e=>by rw [<-hY] at e;exact gk E S Z e
 have Vf:∀x c,Y.env.cells.lookup x=hT c->G2.objs.size+1<=c->j.IsCell c ie:=λx c e hle=>by
  rw [<-hY] at e;have hm:(x,c)∈ku (G2.objs.size+1) scope.names []:=HY scope.names _ _ (PySem.mem_of_lookup e) λp M=>by unfold bt at M;let(y,hy,rfl):=fx.mp M;let(c',f9):=ey.mp (cP.mp S.cells y hy);let(v,q):=E.cell y c' f9;dsimp only;rw [f9];exact dV (dq q.lt (c0 Z (Nat.le_of_succ_le hle)))
  have ck:=cellsFrom_ok scope.names (G2.push {cls:=.type "dict",data:=.dict #[]}) 0 [] {(λ_ _ z=>nomatch z),.nil} (Nat.zero_le _);rw [j2.size_push,R] at ck;exact(ck.empty x c hm).1
 have UJ:∀x c,Y.env.cells.lookup x=hT c->c≠(zz9 s1):=λx c e=>(OI x c e).elim (λz=>dV z.2.1) λz=>Ne.symm (dV (c7 Z z.2));have Br:Y.pn=[]:=by rw [<-hY];rfl
 have ML:Y.ex=fp:=by rw [<-hY];rfl
 have MN:Y.s₀=s1:=by rw [<-hY];rfl
 have SX:Y.H₀=H1:=by rw [<-hY];rfl
 have MM:Y.prog=X.prog:=by rw [<-hY];rfl
 have MP:Y.w=X.w:=by rw [<-hY];rfl
 have SY:Y.K=X.K:=by rw [<-hY];rfl
 have P0:Y.A=X.A:=by rw [<-hY];rfl
 have Ve:compEnvC scope (ku (G2.objs.size+1) scope.names (bt X.env ys)) G2.objs.size X.env=Y.env:=by rw [<-hY];rfl
 have MK:Y.calm=ig:=by rw [<-hY];rfl
 have Jq:Y.xe=λ_ _=>False:=by rw [<-hY];rfl
 have MO:Y.fs=d9 X.stack:=by rw [<-hY];rfl
 have NQ:∀{t:Hp} {s':iM} {B:List ix} {k:Nat},s'.heap.get? (zz9 s1)=hT (lobj B k)->t (zz9 s1)=ie->∀p∈[((zz9 s1),lobj B k)],s'.heap.get? p.1=hT p.2/\t p.1=ie/\p.1≠Y.env.locals/\p.1∉Y.fs/\∀v,p.2.data≠.cell v:=
  λ{t s' B k} e hn p M=>by obtain rfl:=d3.mp M;exact{e,hn,by rw [Jp];exact OH,PU,λv=>y9 B k v}
 have PL:∀{t:Hp} {B:List ix} {k:Nat},(∀b∈fp,t b=ie)->∀b∈fp,hX Y [((zz9 s1),lobj B k)] t b:=λ{t B k} hn b a=>
  {hn b a,by rw [Jp];exact dV (dq (Af b a) Z),λz=>(PN b z).elim (f1 b a).2.1 (f1 b a).2.2.1,.inl (by rw [ML];exact a),
   λx c e=>(OI x c e).elim (λz=>(f1 b a).2.2.2.2.1 x c z.1) (λz q=>absurd (Af b a) (Nat.not_lt.mpr (q▸c0 Z (Nat.le_of_succ_le z.2)))),λp M=>by rw [Br,List.nil_append] at M;obtain rfl:=d3.mp M;exact SS b a}
 have MI:H1 (zz9 s1)=ie:=E.aJ.fresh (a8 _)
 have I2:∀tk,Inv Y [((zz9 s1),lobj [] 0)] (k6 xs.length ie++yU σ is) H1 {s1 with heap:=j,toks:=tk}:=λtk=>by
  refine{VQ,by rw [MN],E.bare,by rw [MN,SX];exact Un.kept L,{_,by rw [Jp];exact hns₁,λi x v e1 e2 e3=>?_},λx c e=>?_,?_,λx c e=>(OI x c e).elim (λz=>E.er x c z.1) (λz=>E.aJ.fresh (c0 Z (Nat.le_of_succ_le z.2))),λp M=>?_,by rw [MM,MP];exact E.aJ.kept L,?_}
  .
   have PX:Y.N=xs++ys:=by rw [<-hY];rfl
   rw [PX] at e1;by_cases bR:i<xs.length
   .rw [eH (by rw [List.length_replicate];exact bR),List.getElem?_replicate,if_pos bR] at e2;cases e2
   .have Ju:xs.length<=i:=Nat.not_lt.mp bR;rw [eO (by rw [List.length_replicate];exact Ju),List.length_replicate] at e2;rw [eO Ju] at e1;let(i0,h0,h1):=xj S.slots _ x v e1 e2;have hm:x∈ys:=a7 e1;have kx:X.env.kindOf x=hT .cell:=zzY (cP.mp S.kX x hm);have ky:(relabel scope X.env).names.lookup x=hT .cell:=zzY (cP.mp S.kY x hm);let(m,_,hl):=E.loc;let(u,ru,lk):=hl i0 x v h0 h1 (.inr (.inl kx))
    refine{u,ru,.inr {.inl (by rw [<-hY];exact ky),?_}};rcases lk with⟨z,_⟩|⟨_,c,MU,lX⟩
    .rw [kx] at z;cases z
    .let(c',f9):=jh (env:=X.env) hm;have MT:=eh S.cells x c' f9;rw [MU] at MT;cases MT;refine{c,by rw [<-hY];exact(qu _ _ _ λz=>(S.Kr z).2 hm).trans f9,?_};let(o,ho,hd):=lX;exact{o,L _ _ ho,hd}
  .rcases OI x c e with z|z
   .let(v,o,ho,hd):=E.cell x c z.1;exact{v,o,L _ _ ho,hd}
   .exact{ie,Vf x c e z.2}
  .rw [Jp];exact E.aJ.fresh Z
  .rw [Br,List.nil_append] at M;exact NQ (s':={s1 with heap:=j,toks:=tk}) qG MI p M
  .have PX:Y.N=xs++ys:=by rw [<-hY];rfl
   have hl:=congrArg List.length S.slots;rw [zzl,zzl] at hl;rw [PX,bF,bF,List.length_replicate];unfold yU;rw [zzl,hl]
 have loop:∀U:iM,U={s1 with heap:=j}->
  codeAny (jj X.prog X.w) X.A (.compLoop (.ListComp elt [{tg,iter,ifs,0}] scope pos) 0 (.ref it) (.ref (zz9 s1)) (compEnvC scope (ku (G2.objs.size+1) scope.names (bt X.env ys)) G2.objs.size X.env))
   (compPost (jj X.prog X.w) X.A X.xe use QQ (.ref (zz9 s1)) G2.objs.size) U:=by
  rintro U rfl
  rw [Ve];refine qz (λk s'=>∃i made F t B c,Inv Y [((zz9 s1),lobj B c)] F t s'/\tn i s'.heap/\(∀b∈fp,t b=ie)/\Vals made B/\k=n-i/\W i made F t) ?_ n
   {0,[],_,H1,[],0,I2 _,T.keep _ _ _ oj λb _ o e=>L b o e,λb a=>(f1 b a).1,.nil,rfl,w0}
  rintro k s' ⟨i,made,F,t,B,c,I3,st3,fr3,rv,rfl,w3⟩
  let(hz,tw):=turn i made F t w3;have pD:=I3.pin ((zz9 s1),lobj B c) (by rw [Br];exact d3.mpr rfl)
  rcases tw with⟨stop,hq⟩|⟨go,S9,step⟩
  .rw [<-P0];refine bb (T.done Y MM MP SY MK i _ s' F t _ I3 (PL fr3) st3 stop) λr P ⟨hr,I4⟩=>?_;subst hr;let(m,hn4,_):=I4.loc;rw [Jp] at hn4;have Rf:=I4.pin ((zz9 s1),lobj B c) (by rw [Br];exact d3.mpr rfl);have kp:∀b o,b≠G2.objs.size->P.heap.get? b=hT o->P.heap.get? b=hT o:=λb o a e=>e;have QM:∀{b o},s1.heap.get? b=hT o->b≠G2.objs.size:=λ{b o} e=>dV (dq (bZ e) Z);have cJ:=I4.base;rw [MN,SX,ML,MO] at cJ;have QN:∀{b o},H1 b=hT o->b≠(zz9 s1):=λ{b o} e=>dV (E.aJ.lt e)
   have u:Un (d9 X.stack) fp H1 (upd t (zz9 s1) (.lst made)) s1.heap P.heap:=by
    refine{λb o e n a hx=>kp b o (QM e) (cJ.keep b o e n a hx),λb o e n a hx=>?_,λb o e n hx=>?_,λb o e hx=>?_,λb xs e=>?_,λb o u e=>?_,λb ps e=>?_}
    .let(sl,q):=cJ.slot b o e n a hx;exact{sl,kp b _ (QM e) q}
    .rw [ae (dV (bZ e))];exact cJ.free b o e n hx
    .let(o',q):=cJ.there b o e hx;exact{o',kp b _ (QM e) q}
    .rw [ae (QN e)];exact cJ.gc b xs e
    .rw [ae (QN e)];exact cJ.e8 b o u e
    .let(more,q):=cJ.fS b ps e;exact{more,by rw [ae (QN e)];exact q}
   have SO:t G2.objs.size=ie:=by rw [<-Jp];exact I4.free
   have E4:d4 X.prog X.w (upd t (zz9 s1) (.lst made)) P.heap:=λb o e=>by
    by_cases a:b=(zz9 s1)
    .subst a;rw [ak] at e;cases e;exact{Nat.le_of_lt hz,B,c,rv,kp _ _ OH Rf.1}
    .rw [ae a] at e;have x4:=I4.aJ b o e;rw [MM,MP] at x4;have JY:∀G u,t G=hT u->G≠G2.objs.size:=λG u q z=>by rw [z,SO] at q;cases q
     have JZ:∀G u,t G=hT u->G≠(zz9 s1):=λG u q z=>by rw [z,Rf.2.1] at q;cases q
     refine x4.ef (λG u kn q=>kp G u ?_ q) (λG q=>?_) λG xs q=>?_
     .rcases kn with z|z
      .rw [z];exact JY b o e
      .exact JY G _ z
     .rw [ae (JZ G _ q)];exact q
     .rw [ae (JZ G _ q)];exact q
   have I5:Inv X aa σ (upd t (zz9 s1) (.lst made)) P:=E.Mp (by show P.os=s1.os;rw [I4.os,MN]) u E4 I4.bare λb a=>{(f1 b a).2.2.2.1,(f1 b a).2.1,(f1 b a).2.2.2.2.1,(f1 b a).2.2.2.2.2};dsimp only;rw [P0];exact fin (zz9 s1) G2.objs.size P _ m I5 hn4 (E.mV Z (by rw [ae (Ne.symm OH)];exact SO)) (hq _ Rf.2.1)
  .rw [<-P0];refine bb (T.item Y MM MP SY MK i _ s' F t _ I3 (PL fr3) st3 go) λr P ⟨u,hr,h4⟩=>?_;subst hr;dsimp only;refine bb h4 λ_ s5 yq0=>?_;let(x,H5,I5,r5,y5,V,fr5):=yq0;have O6:=I5.pinned (PL fr5) (T.obj _ _ V);have S7:=hg fp s1 H1 G2.objs.size;have S3:=he fp s1 H1 G2.objs.size;have Te:=ht fp s1 H1 G2.objs.size;rw [hY] at S7 S3 Te;rw [<-MM,<-MP];refine wpAny_mono (S7 _ s5 F H5 x u _ O6 r5 (step x H5 y5)) (λ_ s6 ⟨O,H6,I6,q6⟩=>?_) (λ_ _ f=>by rw [Jq] at f;exact f.elim);refine wpAny_mono (Te _ s6 O H6 _ I6 q6) (λokb sT ⟨HT,IT,qT⟩=>?_) (λ_ _ f=>by rw [Jq] at f;exact f.elim);have Wn:=IT.pin ((zz9 s1),lobj B c) (cD _ (d0 _ (d3.mpr rfl)));have V1:tn (i+1) sT.heap:=T.keep _ _ _ V λb a o e=>(IT.pin (b,o) (cD _ (cD _ (dc a e)))).1
   cases okb with
   |false=>refine{n-(i+1),by omega,i+1,made,O,HT,B,c,IT.kf,V1,λb a=>?_,rv,rfl,qT};let(o,e,d):=T.obj _ _ V b a;exact(IT.pin (b,o) (cD _ (cD _ (dc a e)))).2.1|true=>
   refine wpAny_mono (S3 _ sT O HT _ IT qT) (λv s7 ⟨y,H7,I7,r7,q7⟩=>?_) (λ_ _ f=>by rw [Jq] at f;exact f.elim);have Rg:=I7.pin ((zz9 s1),lobj B c) (cD _ (d0 _ (d3.mpr rfl)));have e7:s7.heap.get? (zz9 s1)=hT {cls:=.type "list",data:=.seq B.toArray c}:=Rg.1;refine append_at (hsz:=by rw [a5,<-rv.length];exact Nat.le_of_lt hz) e7 λh' yS UU=>?_;have I8:Inv Y [] O H7 s7:=I7.l7 λ_ z=>nomatch z
   have I9:Inv Y [] O H7 {s7 with heap:=h'}:=I8.turned (t':=s7.toks) (it:=(zz9 s1)) (λb o a e=>yS.extBut b o a e) Rg.2.1 (by rw [Jp];exact OH) (.inr (by rw [MN];exact a8 _))
    (λx c' e=>UJ x c' e) (λp M=>by rw [Br] at M;cases M)
   have eD:h'.get? (zz9 s1)=hT (lobj (B++[v]) (c+1)):=by rw [UU,List.push_toArray]
   have V0:tn (i+1) s7.heap:=T.keep _ _ _ V λb a o e=>(I7.pin (b,o) (cD _ (cD _ (dc a e)))).1;refine{n-(i+1),by omega,i+1,made++[y],O,H7,B++[v],c+1,I9.l7 (NQ (s':={s7 with heap:=h'}) eD Rg.2.1),T.keep _ _ _ V0 λb a o e=>yS.extBut b o (Ne.symm (SS b a)) e,λb a=>?_,rv.append (.cons r7 .nil),rfl,q7};let(o,e,d):=T.obj _ _ V b a;exact(I7.pin (b,o) (cD _ (cD _ (dc a e)))).2.1
 exact codeAny_compStart_list (loop _ rfl) (T.self _ 0 _ _ _ (T.keep _ _ _ oj λb _ o e=>L b o e) (loop _ rfl))
def qW{a c iter:iO}{d:TI}{g:TG}(f:X.calm=ig)(S:eE X scope xs ys is)(i:PI X c iter d)
 (j:∀fp s1 H1 C,PG (bg X (xs++ys) scope (bt X.env ys) fp s1 H1 C) c g) (he:∀fp s1 H1 C,PE (bg X (xs++ys) scope (bt X.env ys) fp s1 H1 C) a te)
 (hs:∀x,foldedSetIterable iter X.env x=pure x:=by intro _;rfl):
 PE X (.ListComp a [{c,iter,[],0}] scope pos) (uF d xs.length g te is):=by
 intro aa s σ H Q I h;rw [eval_ListComp];exact gY (use:=ie) (Q:=Q) f S i j (λZ Z Z Z=>xM) he hs I h (λD C k p m r t ⟨u,g1,_,g3,w,y⟩ q=>{m,t,λB z=>{.ref D,p,r.turned (t':=k.toks) (it:=C) (λb o A e=>z.extBut b o A e) u g1 g3 w y,rfl,q}})
def zC{a c iter:iO}{f:TI}{g:TG}{tt:TT}(i:X.calm=ig)(S:eE X scope xs ys is)(j:PI X c iter f)
 (k:∀fp s1 H1 C,PG (bg X (xs++ys) scope (bt X.env ys) fp s1 H1 C) c g) (p:∀fp s1 H1 C,PT (bg X (xs++ys) scope (bt X.env ys) fp s1 H1 C) d tt) (he:∀fp s1 H1 C,PE (bg X (xs++ys) scope (bt X.env ys) fp s1 H1 C) a te)
 (hs:∀x,foldedSetIterable iter X.env x=pure x:=by intro _;rfl):
 PE X (.ListComp a [{c,iter,[d],0}] scope pos) (mj f xs.length g tt te is):=by
 intro aa s σ H Q I h;rw [eval_ListComp];exact gY (use:=ie) (Q:=Q) i S j k (λfp s1 H1 C=>xN (p fp s1 H1 C)) he hs I h (λD C r t m u w ⟨y,g1,_,g3,z,A⟩ q=>{m,w,λF B=>{.ref D,t,u.turned (t':=r.toks) (it:=C) (λb o E e=>B.extBut b o E e) y g1 g3 z A,rfl,q}})
end
def aS{p:iN}{o:HO}(h:H p=ie):aw H (upd H p o):=λb u e=>by rw [ae (bq e h)];exact e
theorem nK(a:Array Nat):∀(n:Nat) (b:Array Nat),((k6 n a).foldl (·++·) b).toList=b.toList++(k6 n a.toList).flatten
 |0,b=>by simp|n+1,b=>by rw [List.replicate_succ,List.foldl_cons,nK a n,List.replicate_succ,List.flatten_cons,Array.toList_append,List.append_assoc]
def range_all(bs:List Bool):(List.range bs.length).all (λi=>(bs[i]?).getD ig)=bs.all id:=by
 rw [Bool.eq_iff_iff,cP,cP];constructor
 .intro h b d;let(i,a,e):=List.getElem_of_mem d;have q:=h i (List.mem_range.mpr a);rw [zzg a,Option.getD_some,e] at q;exact q
 .intro h i a;have c:=List.mem_range.mp a;rw [zzg c,Option.getD_some];exact h _ (List.getElem_mem c)
def AH(t:X.calm=ig):bP X (.builtin "all") (λxs H Q=>∃(p:iN) (bs:List Bool),xs=[.ref p]/\eW X.K H p (bs.map V.bl)/\Q (.bl (bs.all id)) H):=by
 intro D s E H xs F Q I r h;let(p,bs,rfl,w,q):=h;let(u,rfl,d):=vals1 r;cases d;let(c,g,f,G):=I.list w;have y:p<(zz9 s):=by let(_,e,_):=f.isList;exact bZ e
 have a:c.length=bs.length:=by rw [<-g.length,zzl]
 refine call_all_walk (wpAny_pyIter_list f.isList ?_);refine{(zz9 s),_,_,c.toArray.size,_,_,λi=>(bs[i]?).getD ig,rfl,Walks.list (A:=X.A.in1) (I.ok.hd t) (zz9 s) p (dV y) c.toArray,{{_,dI _ rfl,rfl,rfl},f.isList.push _},λi v z Q2 J B C=>?_,λL M hk=>?_}
 .have j:c[i]?=hT v:=zx6 B;have k:i<bs.length:=by rw [<-a];exact(br.mp j).1
  let(u,m,d):=g.get (i:=i) (x:=V.bl bs[i]) (by rw [cz,zzg k];rfl);rw [j] at m;cases m;have e:v=ix.bool bs[i]:=d;rw [e];have q2:Q2 ((bs[i]?).getD ig) z:=C;rw [zzg k,Option.getD_some] at q2;exact wpAny_truthy_bool q2
 .rw [a5,a,range_all];exact{.bl (bs.all id),H,I.kept λb o e=>hk b o (by simp;exact dV (bZ e)) (aT _ e),rfl,q}
def Co:d5 X (compareOp .Is) (λx y H Q=>∃c d,x=.bl c/\y=.bl d/\Q (.bl (c==d)) H):=by intro e s f H x y v u Q I a b h;let(c,d,rfl,rfl,q):=h;cases a;cases b;exact is_bool (mU I q rfl)
abbrev Ou(z:Str):It:={λi Z=>i<z.cps.size,λi H x a=>a=H/\∃c,z.cps[i]?=hT c/\x=.str {#[c]},λi Z=>z.cps.size<=i}
def DD{w:i3}{K:zz8}{U:iO}(z:Str)(t:Tok)(it:iN)(ty:String)(B:ty="str_ascii_iterator"\/ty="str_iterator"):Turn P w K U (Ou z) [it] it (λi h=>h.IsStrIter it ty z t i/\i<=z.cps.size) where
 mem:=by simp
 obj:=λi h st b g=>by have e:b=it:=zx6 g;subst e;let((o,e,c,d),_):=st;exact{o,e,λv z=>by rw [d] at z;cases z}
 keep:=λi h a st k=>{by let((o,e,r),_):=st;exact{o,k it (by simp) o e,r},st.2}
 item:=by
  intro X M N hK m i O s R H E I C st S;subst M N hK;let(D,F,W,G,J,L):=C it (by simp);have q:i<z.cps.size:=S
  have fin:∀(v:ix) (a:j2) (f:Nat),SignAt z i v->a.IsStrIter it ty z t (i+1)->(∀b o,b∉[it]->s.heap.get? b=hT o->a.get? b=hT o)->
   ∃u,(hT v:Option ix)=hT u/\zx7 X (letOwnedTupleGo U (.ref it) u) (λ_ V=>∃x T,Inv X O R T V/\RelV x u/\(Ou z).Lp i H x T/\(V.heap.IsStrIter it ty z t (i+1)/\i+1<=z.cps.size)/\∀b∈[it],T b=ie) E {s with heap:=a,toks:=f}:=by
   intro v a f y p j;let(c,u,m,rfl):=y;have Y:Inv X O R H {s with heap:=a,toks:=f}:=I.turned (λb o g e=>j b o (zx6 g) e) D F G J L;let(o,e,Z,d):=id p
   exact{_,rfl,tj (s:={s with heap:=a,toks:=f}) e Z d (by rcases B with rfl|rfl<;>decide) {.str {#[c]},H,Y,⟨u,rfl⟩,⟨rfl,c,m,rfl⟩,⟨p,q⟩,λb g=>(C b g).1}}
  rcases B with rfl|rfl
  .exact(Walks.strAscii (prog:=X.prog) (w:=X.w) (I.ok.hd m) it z t).item i s _ _ q st.1 λv a f y p j=>fin v a f y p j
  .exact(Walks.strWide (prog:=X.prog) (w:=X.w) (I.ok.hd m) it z t).item i s _ _ q st.1 λv a f y p j=>fin v a f y p j
 done:=by
  intro X M N hK m i O s R H E I C st S;subst M N hK;let(D,F,W,G,J,L):=C it (by simp);have q:i=z.cps.size:=Nat.le_antisymm st.2 S
  subst q;rcases B with rfl|rfl
  .exact(Walks.strAscii (prog:=X.prog) (w:=X.w) (I.ok.hd m) it z t).done s _ _ st.1 λa f j=>{rfl,I.turned (λb o g e=>j b o (zx6 g) e) D F G J L}
  .exact(Walks.strWide (prog:=X.prog) (w:=X.w) (I.ok.hd m) it z t).done s _ _ st.1 λa f j=>{rfl,I.turned (λb o g e=>j b o (zx6 g) e) D F G J L}
 self:=λA i s Q E st h=>by
  rcases B with rfl|rfl
  .exact wpAny_pyIter_striter_ascii st.1 h
  .exact wpAny_pyIter_striter_wide st.1 h
abbrev Qw(a:TE):TI:=λb H R=>a b H λx c=>∃z,x=.str z/\R (Ou z) c
def KD{f l:iO}{g:TE}(hl:PE X l g):PI X f l (Qw g):=by
 intro i s j H R I h;refine bb (hl i s j H _ I h) λv a c=>?_;let(x,m,d,p,q1):=c;let(z,e,q):=q1;subst e;let(t,rfl):=p
 have fin:∀ty:String,(ty="str_ascii_iterator"\/ty="str_iterator")->Pc X i j f R (.ref (zz9 a)) {a with heap:=a.heap.push {cls:=.type ty,data:=.fields #[.str z t,.int 0 0]}}:=λty r=>by refine{(zz9 a),[(zz9 a)],_,_,m,rfl,d.kept (t':=a.toks) λb o e=>aT _ e,DD z t _ ty r,{{_,dI _ rfl,rfl,rfl},Nat.zero_le _},λb u=>?_,q};have e:b=(zz9 a):=zx6 u;subst e;exact d.mV (a8 _) (d.aJ.fresh (a8 _))
 cases k:z.cps.all (·<128)
 .exact wpAny_pyIter_wide k (fin _ (.inr rfl))
 .exact wpAny_pyIter_ascii k (fin _ (.inl rfl))
def Ro:V->Option Int->Option Int->Hp->VK->Prop:=λx a b H Q=>∃z,x=.str z/\z.length<=j3/\Q (.str (Txt.slice z a b)) H
def K6:Au X Ro:=by
 intro e s f H x v r w g m y Q I o hs p pu h;let(z,rfl,a,q):=h;let(t,rfl):=o;refine{"str",_,F.slot_str_getitem.lookup,typeIs_str _ _ _,?_};have fin:∀b k,EP X e f Q (.str (Txt.slice z g m) b) {s with toks:=k}:=λb k=>{.str _,H,I.tok k,⟨b,rfl⟩,q}
 cases p with
 |none=>
  cases pu with
  |none=>exact wpAny_getItem_str_slice (l:=ie) (u:=ie) (st:=ie) hs rfl (post_val_or_str {c0 (Txt.slice_le z _ _) a,fin})|int j c=>exact wpAny_getItem_str_slice (l:=ie) (u:=hT (j,c)) (st:=ie) hs rfl (post_val_or_str {c0 (Txt.slice_le z _ _) a,fin})
 |int i d=>
  cases pu with
  |none=>exact wpAny_getItem_str_slice (l:=hT (i,d)) (u:=ie) (st:=ie) hs rfl (post_val_or_str {c0 (Txt.slice_le z _ _) a,fin})|int j c=>exact wpAny_getItem_str_slice (l:=hT (i,d)) (u:=hT (j,c)) (st:=ie) hs rfl (post_val_or_str {c0 (Txt.slice_le z _ _) a,fin})
abbrev zL(x:Str)(n:Nat):Str:={(k6 n x.cps).foldl (·++·) #[]}
def vO:d5 X (binaryOp .Mult) (λx y H Q=>∃z n,x=.str z/\y=.int n/\1<n/\n<1000/\0<z.length/\z.length<1000/\Q (.str (zL z n.toNat)) H):=by
 intro i s j H x y v u Q I a b h;let(z,n,rfl,rfl,k,m,o,p,q):=h;let(t,rfl):=a;let(r,rfl):=b;have c:¬n<1:=by omega
 have d:(n==1||z.length==0)=iv:=by rw [Bool.or_eq_false_iff];exact{beq_eq_false_iff_ne.mpr (by omega),beq_eq_false_iff_ne.mpr (by omega)}
 have f:z.length*n.toNat<=1000*1000:=Nat.mul_le_mul (by omega) (by omega);refine PySem.P.mul_str (by rw [zz0 (by omega),zz0 (by omega)];rfl) (λZ Z=>?_) (λZ Z=>?_) ?_
 .have:(2^63-1:Int)/n>=(2^63-1)/1000:=by
   rw [ge_iff_le,Int.le_ediv_iff_mul_le (by omega)];have:(2^63-1:Int)/1000*n<=(2^63-1:Int)/1000*1000:=Int.mul_le_mul_of_nonneg_left (by omega) (by decide);omega
  omega
 .show kr.Str.tooLong _=iv;unfold kr.Str.tooLong;have w:(1000000:Nat)<=sizeLine:=by decide
  exact zz0 (by omega)
 .rw [if_neg c,if_neg (by rw [d];exact zzf)];refine{?_,{.str (zL z n.toNat),H,I.tok _,{_,rfl},q}};have e:=congrArg List.length (nK z.cps n.toNat #[]);rw [bF,len_rep,d1,d1] at e;have g:((k6 n.toNat z.cps).foldl (·++·) #[]).size=n.toNat*z.length:=by rw [e];simp [Str.length]
  show((k6 n.toNat z.cps).foldl (·++·) #[]).size<=j3;rw [g,Nat.mul_comm];exact c0 f (by decide)
end L2
namespace HT
open PyProof.Rows
def ia{s:iM}{E:lq}{t d:iN}{f g:ix}{a c:Option Int}{Q:lq}(b:IsTup s.heap t items)(hs:s.heap.IsSliceOf d f g .none)(i:IsPart f a)(pu:IsPart g c)
 (hw:cq items.size 0 a=0/\cq items.size items.size c=items.size) (h:Q (.ref t) s):i1 (jj prog w) A (getItem (.ref t) (.ref d)) Q E s:=by
 let(os,e,j,k):=id hs;have m:s.TypeIs (.ref d) "slice":=⟨os,e,j⟩;unfold getItem
 try with_reducible refine wpAny_holding ?_
 first|refine ar (bp ?_)|skip
 refine ar (wpAny_sequenceKey b.typeIs (by decide) ?_);refine ar (wpAny_callSpecial?_slot (name:=Str.ofString "__getitem__") b.typeIs PyProof.Rows.slot_tuple_getitem
  (wpAny_call_entry PyProof.Rows.slot_tuple_getitem b.typeIs entry_tuple_getitem ?_ (args_tuple_getitem _ _)))
 show i1 _ _ (kr.Tuple.tupleItemsOf (.ref t)>>=_) _ _ s;refine ar (tupleItemsOf_ b ?_);refine ar (wpAny_typeOf m ?_);rw [if_pos (by decide)];refine ar (fg hs i pu ?_);have o:(((cq items.size 0 a:Nat):Int)==0&&(1:Int)==1&&(cq items.size items.size c-cq items.size 0 a)==items.size)=ig:=by rw [hw.1,hw.2];simp
 show i1 _ _ (if(((cq items.size 0 a:Nat):Int)==0&&(1:Int)==1&&(cq items.size items.size c-cq items.size 0 a)==items.size)=ig then _ else _) _ _ s;rw [if_pos o];refine ar (ar (wpAny_typeOf b.typeIs ?_));refine bp ?_;rw [if_pos (by decide)]
 first
  |exact ar (wpAny_rule (bp ⟨_,rfl,bp h⟩))
  |exact wpAny_rule (bp ⟨_,rfl,bp h⟩)
  |exact ar (wpAny_rule (ar (bp ⟨_,rfl,bp h⟩)))
end HT
namespace L2
open PySem.Spec PyProof.Rows
def Gh:Au X (λx c d H Q=>∃a xs,x=.ref a/\dF X.K H a xs/\(HT.cq xs.length 0 c=0/\HT.cq xs.length xs.length d=xs.length)/\Q x H):=by
 intro m s o H x v p t c d u Q I f hs g pu h;let(a,xs,rfl,i,j,q):=h;cases f;let(k,r,e,w):=I.tuple i;have b:k.toArray.size=xs.length:=by rw [a5];exact r.length.symm
 refine{"tuple",_,PyProof.Rows.slot_tuple_getitem.lookup,e.typeIs,?_};exact HT.ia e hs g pu (by rw [b];exact j) {.ref a,H,I,rfl,q}
section
variable{a b:iO}
end
section
variable{κ:Type}[DecidableEq κ]
abbrev kh(a:List (κ×V))(k:κ):Option V:=(a.find? λb=>decide (b.1=k)).map (·.2)
abbrev putK(b:List (κ×V))(k:κ)(v:V):List (κ×V):=
 if(b.any λa=>decide (a.1=k))=ig then b.map (λa=>if a.1=k then(a.1,v) else a) else b++[(k,v)]
abbrev eY(a:List (κ×V))(k:κ):List (κ×V):=a.filter λb=>decide (b.1≠k)
def kl{p:κ×V}{r:List (κ×V)}{k:κ}(e:p.1=k):kh (p::r) k=hT p.2:=by simp [kh,List.find?_cons,e]
def kj{p:κ×V}{r:List (κ×V)}{k:κ}(e:¬p.1=k):kh (p::r) k=kh r k:=by simp [kh,List.find?_cons,e]
theorem n5(k:κ):∀a:List (κ×V),(a.any λb=>decide (b.1=k))=(kh a k).isSome
 |[]=>rfl|p::r=>by
  rw [List.any_cons];by_cases e:p.1=k
  .simp! [kl e,zzh e,Bool.true_or,Option.isSome_some]
  .rw [kj e,zz0 e,Bool.false_or];exact n5 k r
def eA(a:List (κ×V))(k:κ)(v:V):(putK a k v).length<=a.length+1:=by
 unfold putK;split
 .rw [zzl];omega
 .rw [bF,bE,List.length_nil];omega
def fX.e9{o:Option V}{u:Option ix}(r:fX o u):o.isSome=u.isSome:=by
 cases o with
 |none=>cases u with
  |none=>rfl|some _=>exact(show False from r).elim
 |some _=>cases u with
  |none=>exact(show False from r).elim|some _=>rfl
def fX.getD{o:Option V}{u:Option ix}{d:V}{d':ix}(r:fX o u)(rd:RelV d d'):RelV (o.getD d) (u.getD d'):=by
 cases o with
 |none=>cases u with
  |none=>exact rd|some _=>exact(show False from r).elim
 |some _=>cases u with
  |none=>exact(show False from r).elim|some _=>exact r
def KV.val{c:List (κ×V)}{vs:List (κ×ix)}(r:KV c vs)(k:κ):fX (kh c k) (valueAt vs k):=by
 unfold KV at r
 induction r with
 |nil=>exact True.intro|@cons p q i qs h t f=>
  let(d,g):=h;by_cases e:p.1=k
  .have a:q.1=k:=d.symm.trans e;have b:valueAt (q::qs) k=hT q.2:=by simp [valueAt,List.find?_cons,a]
   rw [kl e,b];exact g
  .have a:¬q.1=k:=λz=>e (d.trans z);have b:valueAt (q::qs) k=valueAt qs k:=by simp [valueAt,List.find?_cons,a]
   rw [kj e,b];exact f
def KV.any{b:List (κ×V)}{vs:List (κ×ix)}(r:KV b vs)(k:κ):(b.any λa=>decide (a.1=k))=vs.any λa=>decide (a.1=k):=by
 unfold KV at r
 induction r with
 |nil=>rfl|cons h t c=>rw [List.any_cons,List.any_cons,c,h.1]
def KV.KQ{c:List (κ×V)}{vs:List (κ×ix)}(r:KV c vs)(k:κ){y:V}(d:RelV y u):
 KV (c.map λa=>if a.1=k then(a.1,y) else a) (vs.map λa=>if a.1=k then(a.1,u) else a):=by
 unfold KV at r⊢
 induction r with
 |nil=>exact .nil|@cons p q i qs h t f=>
  rw [bc,bc];refine .cons ?_ f;let(b,g):=h;by_cases e:p.1=k
  .rw [if_pos e,if_pos (b.symm.trans e)];exact⟨b,d⟩
  .rw [if_neg e,if_neg (λz=>e (b.trans z))];exact⟨b,g⟩
def KV.put{a:List (κ×V)}{vs:List (κ×ix)}(r:KV a vs)(k:κ){y:V}(b:RelV y u):KV (putK a k y) (stored vs k u):=by
 unfold putK stored;rw [r.any k];by_cases e:(vs.any λc=>decide (c.1=k))=ig
 .rw [if_pos e,if_pos e];exact r.KQ k b
 .rw [if_neg e,if_neg e];exact Paired.snoc r ⟨rfl,b⟩
def KV.drop{d:List (κ×V)}{vs:List (κ×ix)}(r:KV d vs)(k:κ):KV (eY d k) (without vs k):=by
 unfold KV at r⊢;unfold eY without
 induction r with
 |nil=>exact .nil|@cons p q j qs h t f=>
  let(c,g):=h;rw [hB,hB];by_cases e:p.1=k
  .have a:¬decide (p.1≠k)=ig:=by simp [e]
   have b:¬decide (q.1≠k)=ig:=by simp [c.symm.trans e]
   rw [if_neg a,if_neg b];exact f
  .have i:¬q.1=k:=λz=>e (c.trans z);have a:decide (p.1≠k)=ig:=by simp [e]
   have b:decide (q.1≠k)=ig:=by simp [i]
   rw [if_pos a,if_pos b];exact .cons ⟨c,g⟩ f
def KV.keys{a:List (κ×V)}{vs:List (κ×ix)}(r:KV a vs):a.map (·.1)=vs.map (·.1):=by
 unfold KV at r
 induction r with
 |nil=>rfl|cons h t b=>rw [bc,bc,b,h.1]
def KV.length{a:List (κ×V)}{vs:List (κ×ix)}(r:KV a vs):a.length=vs.length:=Paired.length r
def AV(a:List (κ×V))(k:κ):(eY a k).length<=a.length:=List.length_filter_le _ _
end
def k8{k:Key}(r:RelV (kV k) u):(aY P w).is k u=ig:=by
 cases k with
 |inl i=>let(t,e):=(show∃t,u=ix.int i t from r);subst e;exact tZ P w i t|inr x=>let(t,e):=(show∃t,u=ix.str x t from r);subst e;exact t5 P w x t
theorem pK:∀{ks:List Key} {us:List ix},Vals (ks.map kV) us->ItemsAre (aY P w) ks us
 |[],_,r=>by rw [List.map_nil] at r;cases r;exact .nil
 |k::ks,_,r=>by
  rw [bc] at r;cases r with
  |cons h t=>exact .cons (k8 h) (pK t)
noncomputable abbrev KT(H:Hp):List (List Key×V)->List (List Key×iN×ix)->Prop:=Paired λp q=>p.1=q.1/\H q.2.1=hT (.tup (p.1.map kV))/\RelV p.2 q.2.2
def KT.val{c:List (List Key×V)}{xs:List (List Key×iN×ix)}(r:KT H c xs)(k:List Key):fX (kh c k) ((atKey xs k).map (·.2)):=by
 induction r with
 |nil=>exact True.intro|@cons p q i qs h t f=>
  let(d,_,g):=h;by_cases e:p.1=k
  .have a:q.1=k:=d.symm.trans e;have b:atKey (q::qs) k=hT q.2:=by simp [atKey,List.find?_cons,a]
   rw [kl e,b];exact g
  .have a:¬q.1=k:=λz=>e (d.trans z);have b:atKey (q::qs) k=atKey qs k:=by simp [atKey,List.find?_cons,a]
   rw [kj e,b];exact f
def KT.KQ{c:List (List Key×V)}{xs:List (List Key×iN×ix)}(r:KT H c xs)(k:List Key){y:V}(f:RelV y u):
 KT H (c.map λb=>if b.1=k then(b.1,y) else b) (xs.map (putAt k u)):=by
 induction r with
 |nil=>exact .nil|@cons p q j qs h t g=>
  rw [bc,bc];refine .cons ?_ g;let(a,d,i):=h;unfold putAt;by_cases e:p.1=k
  .rw [if_pos e,if_pos (a.symm.trans e)];exact⟨a,d,f⟩
  .rw [if_neg e,if_neg (λz=>e (a.trans z))];exact⟨a,d,i⟩
def KT.put{a:List (List Key×V)}{xs:List (List Key×iN×ix)}(r:KT H a xs)(k:List Key){b:iN}{y:V}(d:H b=hT (.tup (k.map kV)))(c:RelV y u):
 KT H (putK a k y) (storedH xs k b u):=by
 have e:(a.any λf=>decide (f.1=k))=(atKey xs k).isSome:=by rw [n5,(r.val k).e9,Option.isSome_map]
 unfold putK storedH;rw [e];by_cases q:(atKey xs k).isSome=ig
 .rw [if_pos q,if_pos q];exact r.KQ k c
 .rw [if_neg q,if_neg q];exact Paired.snoc r ⟨rfl,d,c⟩
def KT.keeps{a:Hp}{c:List (List Key×V)}{xs:List (List Key×iN×ix)}(r:KT H c xs)(d:∀b ys,H b=hT (.tup ys)->a b=hT (.tup ys)):KT a c xs:=
 Paired.BX r λZ Z z=>{z.1,d _ _ z.2.1,z.2.2}
def Hu{u:HO}(ok:d4 P w H h)(e:Rd H a u):bB P w H h a u:=e.ok ok
def jn{b:List (Key×V)}(ok:d4 P w H h)(e:Rd H a (.dK b)):b.length<=j3/\(a==sysModules)=iv/\∃vs,KV b vs/\h.DictOf (aY P w) a vs:=
 show bB P w H h a (.dK b) from Hu ok e
def AQ{b:List (Key×V)}(ok:d4 P w H h)(e:H a=hT (.dK b)):b.length<=j3/\(a==sysModules)=iv/\∃vs,KV b vs/\h.DictOf (aY P w) a vs:=jn ok (.inl e)
def m7{ks:List Key}(ok:d4 P w H h)(e:H a=hT (.tup (ks.map kV))):(tupleKind (aY P w)).is h ks a:=by let(_,b,r,o,c,d,n,f):=(show bB P w H h a (.tup (ks.map kV)) from ok a _ e);exact{o,b.toArray,n,c,d,f,by simpa using pK r}
def sU{c:List (List Key×V)}(ok:d4 P w H h)(e:Rd H a (.dT c)):c.length<=j3/\(a==sysModules)=iv/\
 ∃xs,KT H c xs/\h.DictOfH (tupleKind (aY P w)) a xs:=by
 let(z,y,xs,r,o,f,g,i,j,k,s,u):=(show bB P w H h a (.dT c) from Hu ok e);refine{z,y,xs,r,o,f,g,i,j,k,s,λx b=>?_,u}
 have all:∀{l:List (List Key×V)} {m:List (List Key×iN×ix)},KT H l m->∀x∈m,(tupleKind (aY P w)).is h x.1 x.2.1:=by
  intro l m q
  induction q with
  |nil=>intro x b;exact nomatch b|@cons p q B qs d t A=>
   intro x b;rcases el.mp b with e|b
   .subst e;exact m7 ok (by rw [<-d.1];exact d.2.1)
   .exact A x b
 exact all r x b
def Mz{b:List (List Key×V)}(ok:d4 P w H h)(e:H a=hT (.dT b)):b.length<=j3/\(a==sysModules)=iv/\
 ∃xs,KT H b xs/\h.DictOfH (tupleKind (aY P w)) a xs:=sU ok (.inl e)
def D7(H:Hp)(a:iN)(y:V)(r:Option V):Prop:=
 (∃c k,Rd H a (.dK c)/\y=kV k/\r=kh c k)\/∃c k b,Rd H a (.dT c)/\y=.ref b/\H b=hT (.tup (k.map kV))/\r=kh c k
def uR(H:Hp)(a:iN)(y v:V)(d:Hp):Prop:=
 (∃c k,H a=hT (.dK c)/\y=kV k/\c.length<j3/\d=upd H a (.dK (putK c k v)))\/
 ∃c k b,H a=hT (.dT c)/\y=.ref b/\H b=hT (.tup (k.map kV))/\c.length<j3/\d=upd H a (.dT (putK c k v))
def uR.k{b:List (Key×V)}{k:Key}(e:H a=hT (.dK b))(hl:b.length<j3):uR H a (kV k) v (upd H a (.dK (putK b k v))):=.inl ⟨b,k,e,rfl,hl,rfl⟩
section
variable{s:iM}{y:V}{r:ix}{o:Option V}{E:lq}
def Inv.big(I:zv3 s):sysModules<(zz9 s):=by have h:kd<(zz9 s):=(I.mod.glob.keeps I.bk).lt;exact Nat.lt_trans (by decide) h
def PB{Q:lq}(j:A.units+1<cLine)(I:zv3 s)(g:D7 H a y o)(i:RelV y u)(h:∀s',Inv X aa σ H s'->Q (.bool o.isSome) s'):
 i1 (jj X.prog X.w) A (compareOp .In u (.ref a)) Q E s:=by
 rcases g with⟨m,k,e,d,l⟩|⟨m,k,b,e,d,p,l⟩
 .subst d;let(z,hd,t,c,f):=jn I.aJ e;refine wpAny_in_of (k8 i) hd f.mapOf ?_;rw [<-(c.val k).e9,<-l];exact h _ (I.tok _)
 .subst d;cases(show u=ix.ref b from i);let(z,hd,xs,c,f):=sU I.aJ e;refine wpAny_in_heap (tupleKind_room_in1 j) (m7 I.aJ p) hd f ?_;have q:=(c.val k).e9;rw [Option.isSome_map] at q;rw [<-q,<-l];exact h _ (I.tok _)
def Ek{Q:lq}(j:A.units+1<cLine)(I:zv3 s)(g:D7 H a y o)(i:RelV y u)(h:∀s',Inv X aa σ H s'->Q (.bool (!o.isSome)) s'):
 i1 (jj X.prog X.w) A (compareOp .NotIn u (.ref a)) Q E s:=by
 rcases g with⟨m,k,e,d,l⟩|⟨m,k,b,e,d,p,l⟩
 .subst d;let(z,hd,t,c,f):=jn I.aJ e;refine wpAny_notIn_of (k8 i) hd f.mapOf ?_;rw [<-(c.val k).e9,<-l];exact h _ (I.tok _)
 .subst d;cases(show u=ix.ref b from i);let(z,hd,xs,c,f):=sU I.aJ e;refine wpAny_notIn_heap (tupleKind_room_in1 j) (m7 I.aJ p) hd f ?_;have q:=(c.val k).e9;rw [Option.isSome_map] at q;rw [<-q,<-l];exact h _ (I.tok _)
theorem jm{t':Nat}{ob:HO}(I:zv3 s)(c:L7 (H a))(hs:j2.SameBut a s.heap h')(he:∃q,h'.get? a=hT q)(new:bB X.prog X.w (upd H a ob) h' a ob):
 Inv X aa σ (upd H a ob) {s with heap:=h',toks:=t'}:=
 I.write (x:=a) (e:=a) c (.inl rfl) (λb q d z=>(hs.2 b d).trans z) he new
def AO{d:Hp}{b:List (Key×V)}{vs:List (Key×ix)}(z:b.length<=j3)(hd:(a==sysModules)=iv)(c:KV b vs)(dd:h'.DictOf (aY P w) a vs):
 bB P w d h' a (.dK b):=⟨z,hd,vs,c,dd⟩
def pC{C:Hp}{Q:Unit->iM->Prop}(L:A.units+1<cLine)(I:zv3 s)(g:uR H a y v C)(D:RelV y u)(F:RelV v r)(h:∀s',Inv X aa σ C s'->Q () s'):
 i1 (jj X.prog X.w) A (setItem (.ref a) u r) Q E s:=by
 rcases g with⟨f,k,e,m,l,p⟩|⟨f,k,b,e,m,G,l,p⟩
 .subst m p;let(z,hd,M,d,t):=AQ I.aJ e;have B:M.length<=sizeLine:=by rw [<-d.length];exact z
  have hl:(putK f k v).length<=sizeLine:=by have:=eA f k v;omega
  refine wpAny_setItem_pairs (hsz:=B) (k8 D) t λJ i hs=>h _ ?_;have N:∃q,J.get? a=hT q:=let⟨q,_,_,j,_⟩:=i;⟨q,j⟩;exact jm I (by rw [e];exact True.intro) hs N (AO hl hd (d.put k F) i)
 .subst m p;cases(show u=ix.ref b from D);let(z,hd,xs,d,t):=Mz I.aJ e;have B:xs.length<=sizeLine:=by rw [<-Paired.length d];exact z
  have hl:(putK f k v).length<=sizeLine:=by have:=eA f k v;omega
  refine wpAny_setItem_heap (hsz:=B) (tupleKind_room_in1 L) (m7 I.aJ G) t λJ i hs=>h _ ?_;let(q,O,P,j,R,S,T,_,U):=i;refine jm I (by rw [e];exact True.intro) hs ⟨q,j⟩ {hl,hd,_,(d.put k G F).keeps λc V K=>?_,q,O,P,j,R,S,T,U};rw [ae (t6 K e nofun)];exact K
variable{ax:List (Key×V)}{k:Key}
def My{v:V}{more:List ix}{Q:lq}(I:zv3 s)(e:H a=hT (.dK ax))(d:RelV (kV k) u)(l:kh ax k=hT v)(hm:more=[]\/∃x,more=[x])
 (h:∀c s',Inv X aa σ (upd H a (.dK (eY ax k))) s'->RelV v c->Q c s'):i1 (jj X.prog X.w) A (call (.builtin "dict.pop") (.ref a::u::more)) Q E s:=by
 let(z,hd,f,b,g):=AQ I.aJ e;let(c,m,p):=fX.some_of (v:=v) (o:=valueAt f k) (by rw [<-l];exact b.val k)
 have B:(keyPart u).isSome=ig:=by
  cases k with
  |inl i=>let(t,q):=(show∃t,u=ix.int i t from d);subst q;rfl|inr x=>let(t,q):=(show∃t,u=ix.str x t from d);subst q;rfl
 have C:argsOk "dict.pop" {.ref a::u::more,[]}:=by
  rcases hm with q|⟨x,q⟩
  .subst q;exact PySem.F.args_dict_pop_2 _ _
  .subst q;exact PySem.F.args_dict_pop_3 _ _ _
 refine call_meetsIn PySem.F.slot_dict_pop g.typeIs PySem.F.entry_dict_pop C (meets_dict_pop_there (aY X.prog X.w) a (k8 d) more hm B)
  {f,c,g,by rw [<-b.length];exact z,m,λD j hs=>h c _ ?_ p}
 have G:∃q,D.get? a=hT q:=let⟨q,_,_,J,_⟩:=j;⟨q,J⟩;exact jm I (by rw [e];exact True.intro) hs G (AO (c0 (AV ax k) z) hd (b.drop k) j)
def Mx{Q:lq}(I:zv3 s)(e:Rd H a (.dK ax))(h:∀t s',Inv X aa σ H s'->Q (.int ax.length t) s'):i1 (jj X.prog X.w) A (call (.builtin "len") [.ref a]) Q E s:=by let(z,hd,d,b,c):=jn I.aJ e;refine call_len_dict hd c (by rw [<-b.length];rw [sizeLine_eq] at z;omega) ?_;rw [<-b.length];exact h _ _ (I.tok _)
end
abbrev NW(td ty d:TE):TS:=λD b H=>d b H λv e=>td b e λx f=>ty b f λy g=>∃a c,x=.ref a/\uR g a y v c/\D.nx b c
section
variable{o i value:iO}{pos':Pos}{td ty tv:TE}
def F3(e:X.A.units+1<cLine)(f:PE X o td)(j:PE X i ty)(k:PE X value tv)(hs:swapsWith value (hT (.Subscript o i pos')) pos.line X.env=pure iv):
 PS X (.Assign [.Subscript o i pos'] value pos) (NW td ty tv):=by
 intro c s b H D I h;refine wpAny_Assign_Subscript (bb (k c s b H _ I h) λr m ⟨v,H1,p,q,q1⟩=>bb (f c m b H1 _ p q1) λu t ⟨x,w,z,B,q2⟩=>bb (j c t b w _ z q2) λJ K d=>?_) hs;let(y,L,C,E,a,F,ex,g,q3):=d;subst ex;obtain rfl:u=ix.ref a:=B;exact pC e C g E q λM G=>⟨b,F,G,q3⟩
end
theorem sP(h:j2)(a:sysModules<h.objs.size):bB P w H (h.push {cls:=.type "dict",data:=.dict #[]}) h.objs.size (.dK []):=
 {Nat.zero_le _,beq_eq_false_iff_ne.mpr (Ne.symm (dV a)),[],.nil,j2.DictOf.new h}
abbrev Lf:TE:=λZ H Q=>∀p,H p=ie->Q (.ref p) (upd H p (.dK []))
theorem ny:PE X (.Dict [] [] pos) Lf:=λb s c H Q I h=>wpAny_Dict_empty {.ref (zz9 s),_,I.laid (a:=(zz9 s)) (o:=.dK []) (t':=s.toks) (λZ Z q=>aT _ q) (a8 _) (sP s.heap I.big),rfl,h _ (I.aJ.fresh (a8 _))}
abbrev gP(c more:List (Key×V)):List (Key×V):=more.foldl (λa b=>putK a b.1 b.2) c
structure M1(X:Cx)(o:iO)(m:Str)(apos:Pos)(e:iO)(aX:Pos):Prop where
 base:attributeBase o m X.env (eval o X.env)=eval o X.env
 OF:((backTo aX (starEach [e] X.env)).all (λx=>!x.1)&&(backToKw aX (keywordEach [] X.env)).all (λx=>x.1.isSome)
  &&decide (([e]:List iO).length+([]:List Keyword).length+(if([]:List Keyword).isEmpty then 0 else 1)<30))=ig
 line:(apos.endLine==aX.line)=ig
 trees:backTo aX (starEach [e] X.env)=[(iv,eval e X.env)]
def As(H:Hp)(a:iN):Prop:=(∃b,Rd H a (.dK b))\/∃b,Rd H a (.dT b)
def BB{h:St}{s:iM}(I:Inv X aa h H s)(d:As H a):
 s.TypeIs (.ref a) "dict"/\(∀b,ix.ref a=.ref b->∃ob,s.heap.get? b=hT ob/\ob.dict=ie)/\(a==sysModules)=iv:=by
 rcases d with⟨i,e⟩|⟨i,e⟩
 .let(_,hd,j,_,c):=jn I.aJ e;refine{c.typeIs,λb q=>?_,hd};cases q;let(ob,_,_,f,g,_):=c;exact⟨ob,f,g.2.1⟩
 .let(_,hd,xs,_,c):=sU I.aJ e;refine{c.typeIs,λb q=>?_,hd};cases q;let(ob,_,_,f,g,_):=c;exact⟨ob,f,g.2.1⟩
section
variable{s:iM}{y:V}{o:Option V}{E:lq}
def Ig{Q:lq}(m:A.units+1<cLine)(I:zv3 s)(g:D7 H a y o)(i:RelV y u)(h:∀j s',Inv X aa σ H s'->RelV (o.getD .aE) j->Q j s'):
 i1 (jj X.prog X.w) A (call (.builtin "dict.get") [.ref a,u]) Q E s:=by
 rcases g with⟨p,k,e,f,l⟩|⟨p,k,b,e,f,q,l⟩
 .subst f;let(z,hd,r,c,d):=jn I.aJ e;refine call_meetsIn PySem.F.slot_dict_get d.typeIs PySem.F.entry_dict_get (PySem.F.args_dict_get_2 _ _) (meets_dict_get (aY X.prog X.w) a (k8 i) hd) {_,d.mapOf,h _ _ (I.tok _) ?_};rw [l];exact(c.val k).getD rfl
 .subst f;cases(show u=ix.ref b from i);let(z,hd,xs,c,d):=sU I.aJ e;refine call_meetsIn PySem.F.slot_dict_get d.typeIs PySem.F.entry_dict_get (PySem.F.args_dict_get_2 _ _) (meetsH_dict_get (tupleKind (aY X.prog X.w)) a b hd) {tupleKind_room_in1 m,k,xs,m7 I.aJ q,d,h _ _ (I.tok _) ?_};rw [l];exact(c.val k).getD rfl
end
abbrev Le(td ty:TE):TE:=λb H Q=>td b H λx c=>∃a,x=.ref a/\As c a/\ty b c λy d=>∃o,D7 d a y o/\Q (o.getD .aE) d
abbrev Lg(td ty:TE):TE:=λc H Q=>td c H λx d=>∃a,x=.ref a/\As d a/\ty c d λy e=>∃b k v,e a=hT (.dK b)/\y=kV k/\kh b k=hT v/\Q v (upd e a (.dK (eY b k)))
section
variable{o:iO}{apos aX:Pos}{td ty:TE}
def Ct(j:X.A.units+1<cLine)(k:PE X o td)(he:PE X e ty)(m:M1 X o "get" apos e aX):PE X (.Call (.Attribute o "get" apos) [e] [] aX) (Le td ty):=by intro c s f H Q I h;refine wpAny_Call_method m.base m.OF m.line PySem.F.plainAttrs_dict PySem.F.slot_dict_get PySem.F.type_dict_get (bb (k c s f H _ I h) λu p b=>?_);let(x,q,i,r,a,ex,d,q1):=b;subst ex;obtain rfl:u=ix.ref a:=r;let(t,t2,_):=BB i d;refine{t,t2,?_};rw [m.trees];refine Calls.callWith_builtin rfl (Calls.evalArgs_plain (Calls.spliced_cons (bb (he c p f q _ i q1) λE G ⟨y,w,z,B,J,g,q2⟩=>Calls.spliced_nil ?_)));exact Ig j z g B λK L C D=>{_,w,C,D,q2}
def Cu(i:PE X o td)(he:PE X e ty)(m:M1 X o "pop" apos e aX):PE X (.Call (.Attribute o "pop" apos) [e] [] aX) (Lg td ty):=by intro c s f H Q I h;refine wpAny_Call_method m.base m.OF m.line PySem.F.plainAttrs_dict PySem.F.slot_dict_pop PySem.F.type_dict_pop (bb (i c s f H _ I h) λu j b=>?_);let(x,p,g,q,a,ex,d,q1):=b;subst ex;obtain rfl:u=ix.ref a:=q;let(r,t2,_):=BB g d;refine{r,t2,?_};rw [m.trees];refine Calls.callWith_builtin rfl (Calls.evalArgs_plain (Calls.spliced_cons (bb (he c j f p _ g q1) λD E ⟨y,G,t,w,J,k,v,z,A,l,q2⟩=>Calls.spliced_nil ?_)));subst A;exact My t z w l (.inl rfl) λK L B C=>{v,_,B,C,q2}
end
end L2
namespace Att
open PySem.W PySem.Calls PyProof.Rows
end Att
namespace L2
open PySem.Spec PyProof.Rows
section
variable{κ:Type}[DecidableEq κ]
def yG{p:κ×V}{r:List (κ×V)}{k:κ}(e:p.1=k):eY (p::r) k=eY r k:=by unfold eY;rw [hB,if_neg (by simp [e])]
def yF{p:κ×V}{r:List (κ×V)}{k:κ}(e:¬p.1=k):eY (p::r) k=p::eY r k:=by unfold eY;rw [hB,if_pos (by simp [e])]
end
open PySem.W (hideAll hideAll_get of_hideAll funFrames_hide)
structure D9(P:i2)(w:i3)(outer:List Env)(H:Hp)(s:iM)(E:XK)(a C t:iN)(vs:List ix)(H':Hp)(B:j2)(s':iM):Prop where
 os:s'.os=s.os
 bare:AllBare s'.gens
 aJ:d4 P w H' B
 A4:j2.FlyingW B outer a (.ref C) (.ref t) s'.heap
 tn:B.get? t=ie
 tup:s'.heap.TupAt t vs
 dW:∀b o,s.heap.get? b=hT o->H b=ie->b∉d9 outer->B.get? b=hT o
 cG:∀b o,s.heap.get? b=hT o->b∉d9 outer->∃o',B.get? b=hT o'
 un:Un (d9 outer) [] H H' s.heap s'.heap
 ends:E (.ref C) (hT a) H'
abbrev cR(P:i2)(w:i3):yb:=λouter H s E e b=>∃a C t c d B,e=.ref a/\D9 P w outer H s E a C t c d B b
section
variable{K:zz8}{scope:j1}{f:iN}{cd:ix}{s0:iM}{E:XK}
def bV{a:St}{s:iM}(I:Inv X aa a H s){b:iN}(hl:X.env.locals=X.s₀.heap.objs.size)(q:X.s₀.heap.get? b=hT o)(c:b∉X.fs):b∉d9 X.stack:=λz=>by
 rcases el.mp (I.kP b z) with e|e
 .rw [hl] at e;exact absurd (bZ q) (by rw [e];exact Nat.lt_irrefl _)
 .exact c e
def NJ:Passes (cR P w) (zv0 E) E:=by
 rintro G σ H s e J I ⟨a,C,t,j,k,B,rfl,F⟩
 have nx:∀b:iN,b∉(zv0 E).ex:=λb z=>nomatch (show b∈([]:List iN) from z);have dW:∀b o,s0.heap.get? b=hT o->H0 b=ie->b∉d9 outer->B.get? b=hT o:=λb o q n c=>F.dW b o (I.base.keep b o q n c (nx b)) (I.base.free b o q n (nx b)) (bV I rfl q c);have cG:∀b o,s0.heap.get? b=hT o->b∉d9 outer->∃d,B.get? b=hT d:=λb o q c=>by let(o1,q1):=I.base.there b o q (nx b);exact F.cG b o1 q1 (bV I rfl q c)
 refine wpAny_leaves_onW I.ok.frames rfl F.A4 λm h i=>{a,C,t,j,k,B,rfl,?_};have slot:∀b o,s0.heap.get? b=hT o->H0 b=ie->b∈d9 outer->∃g,m.get? b=hT {o with slots:=g}:=λb o q n c=>by let(g,q1):=I.base.slot b o q n c (nx b);let(L,q2):=F.un.any q1 (I.base.free b o q n (nx b)) nofun;let(_,d,q3,hd):=F.A4.2.2.1.mem (b:=b) (fP.mpr (let⟨v,p,r⟩:=fP.mp c;{v,.tail _ p,r}));rw [q2] at q3;cases q3;let(Dg,y):=i b _ q2 hd;exact⟨Dg,y⟩
 refine{F.os.trans I.os,F.bare,F.aJ,h,F.tn,F.tup.of_slots i,dW,cG,{λb o q n c Z=>h.1 _ _ (dW b o q n c),λb o q n c Z=>slot b o q n c,λb o q n Z=>?_,λb o q Z=>?_,λb xs q=>F.un.gc _ _ (I.base.gc _ _ q),λb o u q=>F.un.e8 _ _ _ (I.base.e8 _ _ _ q),λb D q=>?_},F.ends}
 .let(g,q1):=I.base.any q n (nx b);exact F.un.free b _ q1 (I.base.free b o q n (nx b)) nofun
 .by_cases c:b∈d9 outer
  .let(g,q1):=slot b o q (I.ok.vh b c) c;exact{_,q1}
  .let(d,q1):=cG b o q c;exact{d,h.1 _ _ q1}
 .let(m1,q1):=I.base.fS b D q;let(m2,q2):=F.un.fS b _ q1;exact{m1++m2,by rw [<-Array.append_assoc];exact q2}
def KP{u:St}{s:iM}{d:j2}{e C:iN}(I:Inv (zv0 E) aa u H s)
 (p:j2.MadeExcOf s.heap d e (.ref C) us) (y:E (.ref C) (hT e) H):(zv0 E).xe (.ref e) {s with heap:=d}:=by
 have nx:∀b:iN,b∉(zv0 E).ex:=λb z=>nomatch (show b∈([]:List iN) from z);have B:∀env∈(zv0 E).stack,∀b,env.frame=hT b->b∈d9 (zv0 E).stack:=λenv D b a=>fP.mpr ⟨env,D,a⟩;refine wpAny_leaves_madeW (h:=s.heap) I.ok.frames rfl (λb o q=>of_hideAll _ q) (funFrames_hide I.stack B) p λF t j G J L=>{e,C,t,us,H,hideAll s.heap (d9 (zv0 E).stack),rfl,?_};have dW:∀b o,s0.heap.get? b=hT o->H0 b=ie->b∉d9 outer->(hideAll s.heap (d9 (zv0 E).stack)).get? b=hT o:=λb o q n a=>hideAll_get _ (I.base.keep b o q n a (nx b)) (bV I rfl q a);have cG:∀b o,s0.heap.get? b=hT o->b∉d9 outer->∃g,(hideAll s.heap (d9 (zv0 E).stack)).get? b=hT g:=λb o q a=>by let(o1,q1):=I.base.there b o q (nx b);exact{o1,hideAll_get _ q1 (bV I rfl q a)}
 have slot:∀b o,s0.heap.get? b=hT o->H0 b=ie->b∈d9 outer->∃k,F.get? b=hT {o with slots:=k}:=λb o q n a=>by let(k,q1):=I.base.slot b o q n a (nx b);let(_,g,q3,hd):=I.stack.mem (b:=b) (fP.mpr (let⟨v,d,M⟩:=fP.mp a;{v,.tail _ d,M}));rw [q1] at q3;cases q3;let(Dg,O):=L b _ (p.keeps _ _ q1) hd;exact⟨Dg,O⟩
 refine{I.os,I.bare,λb o q=>?_,j,J,G,dW,cG,{λb o q n a Z=>j.1 _ _ (dW b o q n a),λb o q n a Z=>slot b o q n a,λb o q n Z=>I.base.free b o q n (nx b),λb o q Z=>?_,I.base.gc,I.base.e8,I.base.fS},y}
 .refine(I.aJ b o q).ef (λc v m r=>hideAll_get _ r λz=>?_) (λZ q=>q) λZ Z q=>q;have i:=I.mi c z
  rcases m with rfl|m
  .rw [q] at i;cases i
  .rw [m] at i;cases i
 .by_cases a:b∈d9 outer
  .let(k,q1):=slot b o q (I.ok.vh b a) a;exact{_,q1}
  .let(g,q1):=cG b o q a;exact{g,j.1 _ _ q1}
end
def ll{o:HO}(x:bB P w H h a o):∃b,h.get? a=hT b:=by
 cases o with
 |lst xs=>let(_,_,_,_,e):=x;exact{_,e}|tup xs=>let(_,_,_,o,e,_):=x;exact{_,e}|dK c=>let(_,_,_,_,o,_,_,e,_):=x;exact{_,e}|dT c=>let(_,_,_,_,o,_,_,e,_):=x;exact{_,e}|set S n=>let(o,_,_,_,e,_):=x;exact{_,e}|ins C dx fs=>let(_,_,_,e,_):=x;exact{_,e}|own y=>exact x|xd fs=>let(_,(_,_,_,e,_),_):=x;exact{_,e}|xS lo d=>let(_,_,_,e):=x;exact{_,e}|bL ob u=>let(e,_):=x;exact{_,e}|fj g=>exact{_,x}|met f y=>exact{_,x}|ext i=>exact x.2.1
abbrev Lh(C:iN)(E:XK)(b:TA):TS:=λZ c H=>b c H λd a=>d.length<=j3/\∀e,a e=ie->E (.ref C) (hT e) a
section
variable{K:zz8}{scope:j1}{f:iN}{cd:ix}{s0:iM}{E:XK}
theorem CV{C:iN}{u b B:String}{bm:List ix}{a:iO}{rest:List iO}{d:Pos}{j:TA}(F:Gl (zv0 E) x)(O:OwnCls x C bm b mg base)(k:ExcBaseFacts u b B bm)
 (G:PA (zv0 E) (a::rest) j)
 (he:starEach (a::rest) (zv0 E).env=(iv,eval a (zv0 E).env)::starEach rest (zv0 E).env:=by rfl)
 (J:(backTo d (starEach rest (zv0 E).env)).any (·.1)=iv:=by rfl) (hd:(x==(zu 18:Str))=iv:=by decide) (L:A.handled.isNone=ig):
 PS (zv0 E) (.Raise (hT (.Call (.Name x np) (a::rest) [] d)) ie pos) (Lh C E j):=by
 intro M s Q H D I h;let(R,S,nm,q,bs,hdct,sn,sub,ab,col,dd,k0,k1,k2,k3,k5,mN,hC,hN,g,T):=O.obj
 refine wpAny_Raise_call_subT (C:=C) (nm:=nm) (q:=q) (N:=S) (bs:=bs) (bm:=R) (hdct:=hdct) (sn:=sn) (sub:=sub) (ab:=ab) (col:=col) (dd:=dd) (k0:=k0) (k1:=k1) (k2:=k2) (k3:=k3) (k5:=k5)
  k (mN:=mN) (T.hasType k.hasBase) (I.ok.hd L) (by rw [he];show(iv||(backTo d (starEach rest (zv0 E).env)).any (·.1))=iv;rw [J];rfl) g (di I F O.bound {rfl,?_} hd)
 have m:=G d M s Q H _ I h;rw [he] at m⊢;refine Calls.evalArgs_plain (wpAny_mono m (λY U i=>?_) λ_ _ y=>y);let(Z,V,c,W,hl,X):=i;refine{rfl,by rw [<-W.length];exact hl,c.bk _ _ hC,hN.keeps c.bk,T.keeps c.bk,λh1 e p=>KP c p (X e ?_)}
 cases z:V e with
 |none=>rfl|some o=>
  obtain⟨r,t⟩:∃r,U.heap.get? e=hT r:=by exact ll (c.aJ _ _ z)
  rw [p.new] at t;cases t
end
abbrev lD(a C:iN):HO:=.ext λh=>∃ob b,h.get? a=hT ob/\ob.cls=.ref C/\ob.data=.fields b
def D9.fresh{s s':iM}{E:XK}{C t:iN}{vs:List ix}{b:Hp}{B:j2}(F:D9 P w outer H s E a C t vs b B s'):b a=ie:=by
 cases z:b a with
 |none=>rfl|some o=>let(d,c):=ll (F.aJ _ _ z);rw [F.A4.2.1] at c;cases c
def Inv.AJ{D:St}{s s':iM}{E:XK}{C t:iN}{vs:List ix}{p:Hp}{B f:j2}{tk:Nat}(I:Inv X aa D H s)(F:D9 X.prog X.w X.stack H s E a C t vs p B s')
 (hf:j2.FlyingW B X.stack a (.ref C) (.ref t) f) (hs:s'.heap.UpToSlots f):Inv X aa D (upd p a (lD a C)) {s' with heap:=f,toks:=tk}:=by
 have j:=F.fresh;let(G,K,y,L,J,_):=hf.first;have frame:∀b,b∈d9 X.stack->∃o,f.get? b=hT o/\∀vs,o.data≠.fields vs:=λb e=>(hf.2.2.1.mem e).2
 have ne:∀b o,s.heap.get? b=hT o->b≠a:=λb o q z=>by
  subst z;by_cases e:b∈d9 X.stack
  .let(i,h,hd):=frame b e;rw [y] at h;cases h;exact hd _ J
  .let(i,h):=F.cG b o q e;rw [F.A4.2.1] at h;cases h
 have slot:∀b o,s.heap.get? b=hT o->H b=ie->b∈d9 X.stack->∃M,f.get? b=hT {o with slots:=M}:=λb o q n e=>by let(T,q2):=F.un.any q n nofun;let(_,i,q3,hd):=F.A4.2.2.1.mem (b:=b) e;rw [q2] at q3;cases q3;let(Dg,N):=hs b _ q2 hd;exact⟨Dg,N⟩
 have un:Un (d9 X.stack) [] H (upd p a (lD a C)) s.heap f:=by
  refine{λb o q n e _=>hf.1 _ _ (F.dW b o q n e),λb o q n e _=>slot b o q n e,λb o q n _=>?_,λb o q _=>?_,λb xs q=>?_,λb o u q=>?_,λb O q=>?_}
  .rw [ae (ne b o q)];exact F.un.free b o q n nofun
  .by_cases e:b∈d9 X.stack
   .let(i,h,_):=frame b e;exact⟨i,h⟩
   .let(i,q1):=F.cG b o q e;exact{i,hf.1 _ _ q1}
  .have q1:=F.un.gc b xs q;rw [ae (bq q1 j)];exact q1
  .have q1:=F.un.e8 b o u q;rw [ae (bq q1 j)];exact q1
  .let(m,q1):=F.un.fS b O q;exact{m,by rw [ae (bq q1 j)];exact q1}
 have aJ:d4 X.prog X.w (upd p a (lD a C)) f:=λb o q=>by
  by_cases e:b=a
  .subst e;rw [ak] at q;cases q;exact{⟨G,K,y,L,J⟩,⟨G,y⟩,λU V ⟨ob,vs,Q,R,S⟩ k=>{ob,vs,k _ Q,R,S}}
  .rw [ae e] at q;exact(F.aJ b o q).ef (λc v W r=>hf.1 _ _ r) (λc r=>by rw [ae (bq r j)];exact r) λc xs r=>by rw [ae (bq r j)];exact r
 let(Y,g,d,Z,A):=s';obtain rfl:A=s.os:=F.os;have fin:=I.call (h':=f) (g':=g) (d':=d) (t':=tk) (ch:=[]) un aJ F.bare (λb z=>absurd z (by simp));exact fin
end L2
namespace Cw
open L2
abbrev sgn(c:Nat):Bool:=c==35||(48<=c&&c<=57)
abbrev VU:V->Bool
 |.str z=>decide (1<=z.cps.toList.length)&&decide (z.cps.toList.length<=12)&&z.cps.toList.all sgn|_=>iv
abbrev Nr:V->Nat
 |.str z=>z.cps.toList.length|_=>0
section
variable{K:zz8}
noncomputable abbrev D3(K:zz8)(t n:String)(b:Bool):Prop:=PySem.W.kitOne K (.type t) (.type n)=hT b
def BM{K:zz8}(t:String):D3 K t t ig:=by unfold D3 PySem.W.kitOne;rw [if_pos (by simp)]
def BL{t n:String}{b:Bool}(a:(ix.type t==ix.type n)=iv)(c:PySem.W.kitMeta n=ig)(d:(fastBuiltinMro t).map (·.contains (ix.type n))=hT b):D3 K t n b:=by unfold D3 PySem.W.kitOne;rw [if_neg (by rw [a];exact zzf)];show(if PySem.W.kitMeta n=ig then PySem.W.subIn K (.type t) (.type n) else ie)=hT b;rw [if_pos c];exact d
end
noncomputable abbrev Sf:Str:="#0123456789"
end Cw
namespace L2
open PySem.Spec PyProof.Rows
structure mw(K:zz8)(C:iN):Prop where
 ga:PySem.W.findIn K (.ref C) "__getattribute__"=hT (hT (.builtin (zu 4)))
 hk:PySem.W.findIn K (.ref C) "__getattr__"=hT ie
 cl:PySem.W.findIn K (.ref C) "__class__"=hT (hT (.builtin (zu 22)))
 mo:PySem.W.mroIn K C (.type (zu 33))=hT ig
 mb:PySem.W.mroIn K C (.type (zu 6))=hT ig
 is:(PySem.W.clsIn K C).isSome=ig
section
variable{E:lq}{g:Array GenState}{d:Drawn}{t:Nat}{os:OsState}{x C:iN}{K:zz8}
def Lo{R:Result->iM->Prop}(X:K.In h)(Z:mw K C)(a:h.get? x=hT o)(b:o.cls=.ref C)(e:R (.ok (.ret (.ref C))) ⟨h,g,d,t,os⟩):
 codeAny (jj prog w) A (.call (.builtin "getset_descriptor.__get__") {[.builtin (zu 22),.ref x,.ref C],[]}) R ⟨h,g,d,t,os⟩:=by
 have hY:(⟨h,g,d,t,os⟩:iM).TypeIs (.builtin (zu 22)) "getset_descriptor":=F.typeOf_object_class;have c:PySem.W.Looks (jj prog w) h (isSubtype (.ref C) (.type (".".intercalate ((zu 22).cutAt '.').dropLast))) ig:=by rw [F.owner_object_class];exact PySem.W.looks_mroIn X Z.mo
 refine codeAny_call_builtin F.slot_gs_get.plain F.entry_gs_get (F.slot_gs_get.check _ _ _ _ _ _ _ _ hY (F.args_gs_get _ _ _) ?_)
 repeat (any_goals (first|assumption|(with_reducible refine wpAny_loadPart_at a ?_;rw [b])|(with_reducible refine c.at ?_)|wp_step))
 refine{Code.quiet_builtin _ (show _ by decide+kernel),codeAny_builtin F.entry_object_class ?_}
 repeat (any_goals (first|assumption|(with_reducible refine wpAny_loadPart_at a ?_;rw [b])|wp_step))
def DK{tk:Tok}{Q:Fin->iM->Prop}(X:K.In h)(Z:mw K C)(a:h.get? x=hT o)(b:o.cls=.ref C)(e:Q (.done (.ret (.ref C))) ⟨h,g,d,t,os⟩):
 i1 (jj prog w) A (kr.«object.__getattribute__» {[.ref x,.str "__class__" tk],[]}) Q E ⟨h,g,d,t,os⟩:=by
 have hY:(⟨h,g,d,t,os⟩:iM).TypeIs (.builtin (zu 22)) "getset_descriptor":=F.typeOf_object_class;have f:=F.typeOf_object_class;have i:=F.slot_gs_get.lookup;have j:=F.slot_gs_set.lookup;have c:=PySem.W.looks_findIn (M:=jj prog w) X Z.cl
 repeat (any_goals (first|assumption|(with_reducible refine wpAny_loadPart_at a ?_;rw [b])|(with_reducible refine c.at ?_)|wp_step))
 refine Lo X Z a b ?_
 repeat (any_goals (first|assumption|wp_step))
def DJ{M:Model}{a:ix}{Q:Unit->iM->Prop}(X:K.In h)(Z:mw K C)(b:h.get? x=hT o)(c:o.cls=.ref C)(e:Q () ⟨h,g,d,t,os⟩):
 i1 M A (checkBuiltinCall (zu 4) {[.ref x,a],[]}) Q E ⟨h,g,d,t,os⟩:=by
 have f:builtinKind (zu 4)=hT .slot:=by decide+kernel
 have i:splitId (zu 4)=hT (zu 6,"__getattribute__"):=by decide+kernel
 have j:=PySem.W.looks_mroIn (M:=M) X Z.mb;have k:=F.args_bexc_ga (.ref x) a;simp! [checkBuiltinCall,f,i];refine ar ?_;unfold isInstance
 repeat (first|(with_reducible refine wpAny_loadPart_at b ?_;rw [c])|(with_reducible refine j.at ?_)|wp_step)
 exact e
def Oj{tk:Tok}{Q:lq}(X:K.In h)(Z:mw K C)(a:h.get? x=hT o)(b:o.cls=.ref C)(i:Q (.ref C) ⟨h,g,d,t,os⟩):
 i1 (jj prog w) A (getAttrBy (.ref x) (.str "__class__" tk) iv) Q E ⟨h,g,d,t,os⟩:=by
 have j:=F.excAttr_ValueError.ga.bind (.ref x);have c:(ix.builtin (zu 4)==ix.builtin "object.__getattribute__")=iv:=by decide+kernel
 have k:(onTheHeap (ix.ref C)&&ix.builtin (zu 4)==ix.builtin "object.__getattribute__")=iv:=by rw [c];rfl
 have e:=PySem.W.looks_findIn (M:=jj prog w) X Z.ga;have f:=PySem.W.looks_findIn (M:=jj prog w) X Z.hk
 repeat (any_goals (first|assumption|(with_reducible refine wpAny_loadPart_at a ?_;rw [b])|(with_reducible refine e.at ?_)|(with_reducible refine f.at ?_)|wp_step))
 refine codeAny_call_builtin F.excAttr_ValueError.ga.plain F.entry_bexc_ga (DJ X Z a b (DK X Z a b ?_))
 repeat (any_goals (first|assumption|wp_step))
def GL{Q:Option ix->iM->Prop}(X:K.In h)(Z:mw K C)(a:h.get? x=hT o)(b:o.cls=.ref C)(c:Q (hT (.ref C)) {h,g,d,t+1,os}):
 i1 (jj prog w) A (getAttr? (.ref x) "__class__") Q E ⟨h,g,d,t,os⟩:=by
 unfold getAttr? getAttrBy?
 repeat (any_goals (first|assumption|with_reducible apply Oj X Z a b|wp_step))
end
set_option tactic.hygienic true in
theorem tV{K:zz8}{x C:iN}(Z:mw K C):PySem.W.KitX K (.ref x) (.ref C) (λh=>∃ob,h.get? x=hT ob/\ob.cls=.ref C) where
 ty:=λM h Y p=>by let(ob,b,c):=p;exact c▸(PySem.W.Looks.ld b).andThen .now
 it:=λM h X Y=>by
  let(g,a):=ey.mp Z.is;unfold PySem.W.clsIn at a;split at a
  .rename_i c1 i d LX f;intro o r t u k q;unfold isType loadHead;exact ar (wpAny_loadPart (k _ _ (X _ _ f)) (bp q))
  .cases a
 ne:=λh tp j y n B X m=>by
  let(g,a):=ey.mp Z.is;refine Bool.eq_false_iff.mpr λq=>?_;have e:C=tp:=ix.ref.inj (zzy.mp q);subst e;unfold PySem.W.clsIn at a;split at a
  .rename_i c1 i d LX f;have z:=(X _ _ f).symm.trans m;cases z
  .cases a
 ca:=λ{prog w A E Q s} X p k=>by let(ob,b,c):=p;let(D,F,j,G,H):=s;exact GL X Z b c k
section
def yk:bP X (.builtin (zu 17)) (λxs H Q=>∃(a C D:iN) (b:Bool),xs=[.ref a,.ref D]/\H a=hT (lD a C)/\mw X.K C/\PySem.W.kitOne X.K (.ref C) (.ref D)=hT b/\Q (.bl b) H):=by intro k s m H xs o Q I r h;let(a,C,D,b,rfl,d,Z,e,q):=h;let(u,p,rfl,f,c):=vals2 r;cases f;cases c;let((ob,t,g,i,_),_):=I.aJ _ _ d;exact PySem.W.kia_one (tV Z) I.iR ⟨ob,g,i⟩ e nofun λj=>{.bl b,H,I.tok j,rfl,q}
def yl:bP X (.builtin (zu 17)) (λxs H Q=>∃(a C:iN) (n:String) (b:Bool),xs=[.ref a,.ty n]/\H a=hT (lD a C)/\mw X.K C/\PySem.W.kitOne X.K (.ref C) (.type n)=hT b/\Q (.bl b) H):=by intro k s m H xs o Q I r h;let(a,C,n,b,rfl,d,Z,e,q):=h;let(u,p,rfl,f,c):=vals2 r;cases f;cases c;let((ob,t,g,i,_),_):=I.aJ _ _ d;exact PySem.W.kia_one (tV Z) I.iR ⟨ob,g,i⟩ e nofun λj=>{.bl b,H,I.tok j,rfl,q}
def Cy(b:Gl X x)(hm:X.mg x=hT (.ref a))(hd:(x==(zu 18:Str))=iv:=by decide):PE X (.Name x pos) (tC (.ref a)):=xK b hm rfl hd
theorem lM(a:Gl X (zu 1))(hm:X.mg (zu 1)=ie):PE X (.Name (zu 1) pos) (tC (.ty (zu 1))):=xI a hm (u:=.type (zu 1)) (by decide+kernel) rfl
variable{s:iM}
def lW{M:Model}{E:lq}{i:Nat}{Q:Unit->iM->Prop}(I:zv3 s)(hN:X.N.Nodup)(J:X.N[i]?=hT x)(hk:X.env.scope.names.lookup x=hT .local)
 (h:∀s',Inv X aa (σ.set i ie) H s'->Q () s'):i1 M A (do bindName X.env x .none;unbindBehindTheSuite X.env x pos) Q E s:=by
 let(m,K,hl):=id I.loc;have O:(X.env.scope.kind==.class||(X.env.scope.kind==.module&&X.env.locals !=X.env.globals))=iv:=by rw [I.ok.kind];rfl
 have t:i<σ.length:=by rw [I.len];exact(br.mp J).1
 have Ab:=I.Ab
 have f:∀{a:iN} {B:j2},(∃o,s.heap.get? a=hT o/\H a=ie)->j2.SameBut a s.heap B->d4 X.prog X.w H B:=λ{a B} P hs b ob e=>by
  let(_,_,g):=P;refine(I.aJ b ob e).ef (λc L C q=>(hs.2 c ?_).trans q) (λ_ q=>q) λ_ _ q=>q
  rintro rfl
  rcases C with rfl|C
  .rw [g] at e;cases e
  .rw [g] at C;cases C
 refine wpAny_nameGoes_keeps hk K O λB v0 R hs=>?_;let(S,_,_,T,_):=id K;refine h _ {I.ok,I.os,I.bare,{λb o e n F u=>?_,λb o e n F u=>?_,I.base.free,λb o e u=>?_,I.base.gc,I.base.e8,I.base.fS},{_,R,λj y U r D V=>?_},λy c e=>?_,I.free,I.er,λp W=>?_,f ⟨S,T,I.free⟩ hs,zx6 I.len}
 .exact(hs.2 b (dV (dq (bZ e) I.ok.above))).trans (I.base.keep b o e n F u)
 .let(Y,r):=I.base.slot b o e n F u;exact{Y,(hs.2 b (dV (dq (bZ e) I.ok.above))).trans r}
 .let(Z,r):=I.base.there b o e u;exact{Z,(hs.2 b (dV (dq (bZ e) I.ok.above))).trans r}
 .by_cases G:j=i
  .subst G;rw [ew t] at D;cases D
  .rw [cK (Ne.symm G)] at D;let(u',r',q):=hl j y U r D V
   refine{u',r',?_};rcases q with⟨k,e⟩|⟨k,c,e,z⟩
   .refine .inl {k,?_};have:y≠x:=λe=>G (j4 hN r (e▸J));simp [this,e]
   .exact .inr {k,c,e,z.sameBut hs (Ab y c e)}
 .let(L,z):=I.cell y c e;exact{L,z.sameBut hs (Ab y c e)}
 .let(e,n,ne,nf,d):=I.pin p W;exact{(hs.2 p.1 ne).trans e,n,ne,nf,d}
noncomputable abbrev Cx.with1(X:Cx)(pn:lu)(xe:lq):Cx:={X with pn:=pn,xe:=xe}
noncomputable abbrev Cx.marked(X:Cx)(a:iN)(pn:lu):Cx:={X with A:=X.A.mark (hT (.ref a)),calm:=iv,pn:=pn,xe:=λZ Z=>False}
def Ck{pn:lu}{xe:lq}(o:X.Ok):(X.with1 pn xe).Ok:=⟨o.mod,o.kind,o.glob,o.blt,o.above,o.inj,o.has,o.HW,o.hd,o.frames,o.Ld,o.PF,o.bs,o.u6,o.zo,o.A1,o.f7,o.vh⟩
def zx{pn:lu}(o:X.Ok):(X.marked a pn).Ok:={o.mod,o.kind,o.glob,o.blt,o.above,o.inj,o.has,o.HW,nofun,o.frames,o.Ld,o.PF,o.bs,o.u6,o.zo,o.A1,o.f7,o.vh}
def Inv.with1{xe:lq}(I:zv3 s):Inv (X.with1 (X.pn++aa) xe) [] σ H s:={Ck I.ok,I.os,I.bare,I.base,I.loc,I.cell,I.free,I.er,λp a=>I.pin p (by rwa [hG] at a),I.aJ,I.len}
def Inv.kg{xe:lq}(o:X.Ok){a:lu}(I:Inv (X.with1 (X.pn++aa) xe) a σ H s):zv3 s:={o,I.os,I.bare,I.base,I.loc,I.cell,I.free,I.er,λp b=>I.pin p (d0 _ b),I.aJ,I.len}
def Inv.mark(I:zv3 s):Inv (X.marked a (X.pn++aa)) [] σ H s:={zx I.ok,I.os,I.bare,I.base,I.loc,I.cell,I.free,I.er,λp b=>I.pin p (by rwa [hG] at b),I.aJ,I.len}
def Inv.unmark(o:X.Ok){b:lu}(I:Inv (X.marked a (X.pn++aa)) b σ H s):zv3 s:={o,I.os,I.bare,I.base,I.loc,I.cell,I.free,I.er,λp c=>I.pin p (d0 _ c),I.aJ,I.len}
end
abbrev qr(K:zz8)(N:List Str)(Dc:iN)(i:Nat)(ts:TS)(D:Ends):XK:=λc f g=>∃a C,c=.ref C/\f=hT a/\PySem.W.exmOne K (.ref C) (.ref Dc)=hT ig/\
 ∀e:St,e.length=N.length->ts {nx:=λb d=>D.nx (b.set i ie) d,rt:=λv d=>D.rt v d,bk:=λb d=>D.bk (b.set i ie) d,ct:=λb d=>D.ct (b.set i ie) d} (e.set i (hT (.ref a))) (upd g a (lD a C))
abbrev RL(K:zz8)(N:List Str)(Dc:iN)(i:Nat)(tb:XK->TS)(ts:TS):TS:=λD a H=>tb (qr K N Dc i ts D) D a H
def KI{body:List j7}{n:Str}{yR:Pos}{j:j7}{S:List j7}{Dc:iN}{i:Nat}{tb:XK->TS}{ts:TS}(hN:X.N.Nodup)(L:X.N[i]?=hT n)(hn:X.env.scope.names.lookup n=hT .local)(O:X.stack=X.env::X.outer)(Jw:X.env.frame=hT X.env.locals)
 (hg:Gl X x) (hm:X.mg x=hT (.ref Dc)) (hb:∀(pn:lu) (xe:lq) (T:XK),Passes (cR X.prog X.w) (X.with1 pn xe) T->oV (X.with1 pn xe) body (tb T))
 (hs:∀a pn,oV (X.marked a pn) (j::S) ts) (hd:(x==(zu 18:Str))=iv:=by decide):
 PS X (.Try body [.ExceptHandler (hT (.Name x np)) (hT n) (j::S) yR] [] [] pos) (RL X.K X.N Dc i tb ts):=by
 intro m s σ H D I h;let xe:lq:=λe U=>∃b M d,Inv X m b M d/\cR X.prog X.w X.stack M d (qr X.K X.N Dc i ts D) e U;have hP:Passes (cR X.prog X.w) (X.with1 (X.pn++m) xe) (qr X.K X.N Dc i ts D):=λnB b M d e U J c=>{b,M,d,J.kg I.ok,c};refine wpAny_Try_except (wpAny_mono (hb (X.pn++m) xe _ hP [] s σ H D I.with1 h) (λf d g=>?_) λe d P=>?_)
 .cases f with
  |next=>let(b,k,o,q):=g;exact rb m d b k D (o.kg I.ok) q|brk=>let(b,k,o,q):=g;exact{b,k,o.kg I.ok,q}|cont=>let(b,k,o,q):=g;exact{b,k,o.kg I.ok,q}|ret u=>let(v,b,k,o,r,q):=g;exact{v,b,k,o.kg I.ok,r,q}
 .let(b,M,s2,J,a,C,t,vs,k,B,rfl,F):=P;have V:=F.A4;rw [O] at V;refine wpAny_looks_onW (by rw [<-O];exact J.ok.frames) Jw V λh4 MY Y=>?_;refine wpAny_landsW MY λh5 Z Tz=>?_;have Q:=Z;rw [<-O] at Q;have I5:=J.AJ (tk:=d.toks) F Q (Y.trans Tz);let(oa,va,ea,ca,da,_):=Q.first;let(a',C',e1,e2,P,hq):=F.ends;cases e1;cases e2;refine wpAny_handleBy_cons (codeAny_handlers_test (di (X:=X.marked a (X.pn++m)) I5.mark hg hm ?_ hd)) (by intro q;cases q);have LT:PySem.W.Looks (jj X.prog X.w) h5 (typeOf (.ref a)) (.ref C):=by rw [<-ca];exact(PySem.W.Looks.ld ea).andThen .now
  refine PySem.W.exm_one (K:=X.K) I5.iR LT P _ _ _ _ (λ_ _ e=>e) ?_;refine codeAny_handlers_suite_as ?_;refine lands_againW Z λh6 SH VY=>?_;rw [<-O] at SH;have I6:=J.AJ (tk:=d.toks) F SH ((Y.trans Tz).trans VY);refine gR (X:=X.marked a (X.pn++m)) (i:=i) (v:=.ref a) I6.mark hN L (.inl hn) rfl (λs7 I7=>?_) (.inr hn);refine wpAny_mono (hs a (X.pn++m) [] s7 _ _ _ I7 (hq b J.len)) (λf s8 g=>?_) λ_ _ z=>z.elim
  cases f with
  |next=>let(p,y,A,E):=g;exact lW (A.unmark I.ok) hN L hn λR G=>{_,y,G,E}|brk=>let(p,y,A,E):=g;exact lW (A.unmark I.ok) hN L hn λR G=>{_,y,G,E}|cont=>let(p,y,A,E):=g;exact lW (A.unmark I.ok) hN L hn λR G=>{_,y,G,E}|ret u=>let(v,p,y,A,r8,E):=g;exact lW (A.unmark I.ok) hN L hn λR G=>{v,_,y,G,r8,E}
open PySem.AutoSeq1 (wpAny_loadPart')
theorem fc:fillsNumberSlot (.type "tuple") "mul"=pure iv:=
 PySem.fillsNumberSlot_seq (id:="tuple.__mul__") (r:=hT (.builtin "tuple.__rmul__")) PySem.F.slot_tuple_mul.lookup (by decide+kernel) PySem.F.slot_tuple_rmul.lookup (by decide+kernel)
def j6:seqRepeat? (.type "tuple")=pure (hT (.builtin "tuple.__mul__")):=by unfold seqRepeat?;rw [PySem.seqSlot_of (T:="tuple") (name:="__mul__") (id:="tuple.__mul__") PySem.F.slot_tuple_mul.lookup (by decide+kernel),PySem.seqSlot_of (T:="tuple") (name:="__rmul__") (id:="tuple.__rmul__") PySem.F.slot_tuple_rmul.lookup (by decide+kernel)];rfl
theorem gI(a:Int)(t:Tok)(l:iN)(items:Array ix)(n:Nat)(dd:Option iN)(b:Array (Option ix)):
 Meets (kr.«int.__rmul__» {[.int a t,.ref l],[]}) (λZ R s=>s.heap.get? l=hT {cls:=.type "tuple",dict:=dd,data:=.seq items n,slots:=b}/\R (.ok (.ret ix.notImplemented)) s):=
 .of_wp λprog w A R s h=>by let(c,g,d,e,os):=s;let(hl,h):=h;wp_walk;exact{_,rfl,h}
def wo(l:iN)(items:Array ix)(n:Nat)(dd:Option iN)(c:Array (Option ix))(x:Int)(u:Tok)(x1:1<x)(a:x<1000)(f:0<items.size)(k:items.size<1000):
 Meets (kr.«tuple.__mul__» {[.ref l,.int x u],[]}) (λZ R s=>s.heap.get? l=hT {cls:=.type "tuple",dict:=dd,data:=.seq items n,slots:=c}/\
  R (.ok (.ret (ix.ref (zz9 s)))) {s with heap:=s.heap.push {cls:=ix.type "tuple",data:=Data.seq (List.foldl (λx1 a=>x1++a) #[] (k6 x.toNat items))},toks:=s.toks}):=
 .of_wp λprog w A R s h=>by
  let(m,g,d,o,os):=s;let(hl,h):=h;have p:=PySem.AutoSeq1.idx_int;have q:=PySem.AutoSeq1.sub_tuple_tuple
  have b:items.isEmpty=iv:=by
   cases h:items.isEmpty with
   |false=>rfl|true=>have:=Array.isEmpty_iff.mp h;subst this;exact absurd f (by simp)
  wp_walk using wpAny_loadPart' hl
  refine wpAny_ite_false (zz0 (by rw [e6,zzN,zzN];omega)) ?_;dsimp only
  wp_walk using wpAny_loadPart' hl
  refine wpAny_ite_false (zz0 (by rw [b,Bool.false_or,zzy];omega)) ?_;refine wpAny_ite_false (zz0 (by rw [b,Bool.or_false,zzN];omega)) ?_;have hm:(items.size:Int)*x<=1000*1000:=by have r:(items.size:Int)*x<=1000*x:=Int.mul_le_mul_of_nonneg_right (by omega) (by omega);omega
  have t:items.size*x.toNat<=1000*1000:=Nat.mul_le_mul (by omega) (by omega);have y:(1000000:Nat)<=sizeLine:=by decide
  have xi:(List.foldl (λx1 a=>x1++a) #[] (k6 x.toNat items)).size<=sizeLine:=by
   have e:=foldl_rep items.toList x.toNat [];have i:(items.toList).toArray=items:=by simp
   rw [i,List.nil_append] at e;have j:(List.foldl (λx1 a=>x1++a) #[] (k6 x.toNat items))=(k6 x.toNat items.toList).flatten.toArray:=e;rw [j,a5,len_rep,d1,Nat.mul_comm];omega
  refine wpAny_ite_false (zz0 (by omega)) ?_;refine wpAny_ite_false (zz0 (by unfold kr.Tuple.tupleTooMany;simp;omega)) ?_
  wp_walk
  exact{_,rfl,h}
def FL:d5 X (binaryOp .Mult) (λx y H Q=>∃a n xs,x=.ref a/\y=.int n/\dF X.K H a xs/\1<n/\n<1000/\0<xs.length/\xs.length<1000/\∀p,H p=ie->Q (.ref p) (upd H p (.tup (k6 n.toNat xs).flatten))):=by
 intro J s L H x y v u Q I j m h;let(a,n,xs,rfl,rfl,w,z,A,M,N,q):=h;cases j;let(t,rfl):=m;let(c,r,p1,_):=I.tuple w;have hl:=r.length;let((cls,e,f,g),d,i,k,hd):=id p1;simp only at i hd;subst i hd;have B:List.foldl (λC D=>C++D) #[] (k6 n.toNat c.toArray)=(k6 n.toNat c).flatten.toArray:=by have:=foldl_rep c n.toNat [];rw [List.nil_append] at this;exact this
 refine wpAny_binaryOp_repeat_ref (T:="tuple") (U:="int") (by decide) {_,d,rfl} (λE=>typeIs_int E n t) fc PySem.F.fills_int_mul PySem.F.slot_int_rmul j6 PySem.F.slot_int_index.lookup
  (call_meets PySem.F.slot_int_rmul (typeIs_int s n t) PySem.F.entry_int_rmul (PySem.F.args_int_rmul_2 _ _) (gI n t a c.toArray k e g)
   {d,rfl,{_,d,rfl},call_meets PySem.F.slot_tuple_mul {_,d,rfl} PySem.F.entry_tuple_mul (PySem.F.args_tuple_mul_2 _ _) (wo a c.toArray k e g n t z A (by rw [a5];omega) (by rw [a5];omega)) {d,?_}})
 rw [B];have G:(k6 n.toNat xs).flatten.length<=sizeLine:=by
  rw [len_rep];have:n.toNat*xs.length<=1000*1000:=Nat.mul_le_mul (by omega) (by omega);have O:(1000000:Nat)<=sizeLine:=by decide
  omega
 refine{.ref (zz9 s),_,I.laid (t':=s.toks) (o:=.tup (k6 n.toNat xs).flatten) (λb ob q=>aT _ q) (a8 _) ?_,rfl,q _ (I.aJ.fresh (a8 _))};exact{G,_,r.rep n.toNat,IsTup.new _ _}
end L2
namespace Cw
open L2
end Cw
namespace L2
open PySem.Spec PyProof.Rows
def ql:bP X (.type "int") (λxs H Q=>∃z n,xs=[.str z]/\PySem.intText? z=hT n/\z.length<=640/\Q (.int n) H):=by intro c s d H xs e Q I r h;let(z,n,rfl,a,b,q):=h;let(u,rfl,t,rfl):=vals1 r;exact PySem.W.KIN.call_text a b {.int n,H,I.tok _,{_,rfl},q}
end L2
namespace Cw
open L2
end Cw
namespace L2
open PySem.Spec PyProof.Rows
theorem pW{a b:Type}{R:a->b->Prop}:∀{xs:List a} {ys:List b},Paired R xs ys->∀{i:Nat} {x:a},xs[i]?=hT x->∃y,ys[i]?=hT y/\R x y
 |_,_,.nil,_,_,h=>by simp at h|_,_,.cons r t,0,x,h=>by simp at h;subst h;exact{_,rfl,r}|_,_,.cons r t,i+1,x,h=>by let(y,c,d):=pW t (i:=i) (x:=x) (zx6 h);exact{y,zx6 c,d}
theorem nv{a b:Type}{R:a->b->Prop}:∀{xs:List a} {ys:List b},Paired R xs ys->xs.length=ys.length
 |_,_,.nil=>rfl|_,_,.cons _ t=>by simp [nv t]
def DF{a:List ix}(r:Vals vs a)(h:j<a.toArray.size):∃v,vs[j]?=hT v/\RelV v a.toArray[j]:=by
 have hl:=r.length;rw [a5] at h;have b:j<vs.length:=by omega
 let(u,c,d):=r.get (i:=j) (x:=vs[j]) (zzg b);rw [zzg h] at c;cases c;exact{_,zzg b,zx6 d}
noncomputable abbrev cC:HO:=.ext λZ=>True
def mx(e:h.get? a=hT o):bB P w H h a (.bL o cC):={e,trivial,⟨o,e⟩,λZ Z Z Z=>trivial}
abbrev aK(Z:lu)(H:Hp):Hp:=λb=>match Z.lookup b with
 |some o=>hT (.bL o cC)|none=>H b
abbrev bS(Z:lu)(H:Hp):Hp:=λb=>match Z.lookup b with
 |some _=>ie|none=>H b
section
variable{Z:lu}{H':Hp}{b:iN}
def bf(e:Z.lookup b=hT o):aK Z H b=hT (.bL o cC):=by unfold aK;rw [e]
def au(e:Z.lookup b=ie):aK Z H b=H b:=by unfold aK;rw [e]
def gN(e:Z.lookup b=hT o):bS Z H b=ie:=by unfold bS;rw [e]
def aD(e:Z.lookup b=ie):bS Z H b=H b:=by unfold bS;rw [e]
def iV{u:HO}(e:bS Z H b=hT u):Z.lookup b=ie/\H b=hT u:=by
 cases q:Z.lookup b with
 |none=>rw [aD q] at e;exact⟨rfl,e⟩|some o=>rw [gN q] at e;cases e
def iU(h:H b=ie):bS Z H b=ie:=by
 cases q:Z.lookup b with
 |none=>rw [aD q];exact h|some o=>exact gN q
structure yh(Z:lu)(H:Hp)(fs:List iN)(h:j2):Prop where
 at_:∀b o,Z.lookup b=hT o->h.get? b=hT o
 no:∀b o,Z.lookup b=hT o->H b=ie
 fr:∀b o,Z.lookup b=hT o->b∉fs
variable{fs:List iN}
theorem yh.aJ(z:yh Z H fs h)(k:d4 P w H h):d4 P w (aK Z H) h:=λb u e=>by
 cases q:Z.lookup b with
 |some o=>rw [bf q] at e;cases e;exact mx (z.at_ b o q)
 |none=>
  rw [au q] at e;have a:∀c v,H c=hT v->Z.lookup c=ie:=λc v d=>by
   cases y:Z.lookup c with
   |none=>rfl|some o=>rw [z.no c o y] at d;cases d
  exact(k b u e).ef (λc v Y r=>r) (λc r=>by rw [au (a c _ r)];exact r) λc xs r=>by rw [au (a c _ r)];exact r
def yh.GG(z:yh Z H fs h)(u:Un fs [] (aK Z H) H' h h')(k:d4 P w H' h'):Un fs [] H (bS Z H') h h'/\d4 P w (bS Z H') h':=by
 have i:∀b o,Z.lookup b=hT o->H' b=hT (.bL o cC):=λb o q=>u.e8 b o _ (bf q);have p:∀b o,Z.lookup b=hT o->h'.get? b=hT o:=λb o q=>(k b _ (i b o q)).1
 have d:∀c v,H c=hT v->Z.lookup c=ie:=λc v j=>by
  cases y:Z.lookup c with
  |none=>rfl|some o=>rw [z.no c o y] at j;cases j
 refine{{λb o e n f a=>?_,λb o e n f a=>?_,λb o e n a=>?_,λb o e a=>u.there b o e a,λb xs e=>?_,λb o v e=>?_,λb s e=>?_},λb v e=>?_}
 .cases q:Z.lookup b with
  |some g=>have m:=z.at_ b g q;rw [e] at m;cases m;exact p b o q
  |none=>exact u.keep b o e (by rw [au q];exact n) f a
 .cases q:Z.lookup b with
  |some g=>exact absurd f (z.fr b g q)|none=>exact u.slot b o e (by rw [au q];exact n) f a
 .cases q:Z.lookup b with
  |some g=>exact gN q|none=>rw [aD q];exact u.free b o e (by rw [au q];exact n) a
 .rw [aD (d b _ e)];exact u.gc b xs (by rw [au (d b _ e)];exact e)
 .rw [aD (d b _ e)];exact u.e8 b o v (by rw [au (d b _ e)];exact e)
 .rw [aD (d b _ e)];exact u.fS b s (by rw [au (d b _ e)];exact e)
 .let(q,t):=iV e;refine(k b v t).ef (λc y Y r=>r) (λc r=>?_) λc xs r=>?_
  .cases y:Z.lookup c with
   |none=>rw [aD y];exact r|some o=>rw [i c o y] at r;cases r
  .cases y:Z.lookup c with
   |none=>rw [aD y];exact r|some o=>rw [i c o y] at r;cases r
def yh.x6(z:yh Z H fs h)(u:Un fs [] H H' h h')(k:d4 P w H' h'):Un fs [] (aK Z H) (aK Z H') h h'/\d4 P w (aK Z H') h':=by
 have j:∀b o,Z.lookup b=hT o->h'.get? b=hT o:=λb o q=>u.keep b o (z.at_ b o q) (z.no b o q) (z.fr b o q) nofun;have m:∀b o,Z.lookup b=hT o->H' b=ie:=λb o q=>u.free b o (z.at_ b o q) (z.no b o q) nofun
 have g:∀c v,H' c=hT v->Z.lookup c=ie:=λc v i=>by
  cases y:Z.lookup c with
  |none=>rfl|some o=>rw [m c o y] at i;cases i
 have d:∀b,aK Z H b=ie->Z.lookup b=ie/\H b=ie:=λb e=>by
  cases q:Z.lookup b with
  |some o=>rw [bf q] at e;cases e
  |none=>rw [au q] at e;exact⟨rfl,e⟩
 refine{{λb o e n f a=>u.keep b o e (d b n).2 f a,λb o e n f a=>u.slot b o e (d b n).2 f a,λb o e n a=>?_,λb o e a=>u.there b o e a,λb xs e=>?_,λb o v e=>?_,λb p e=>?_},λb v e=>?_}
 .rw [au (d b n).1];exact u.free b o e (d b n).2 a
 .cases q:Z.lookup b with
  |some o=>rw [bf q] at e;cases e
  |none=>rw [au q] at e⊢;exact u.gc b xs e
 .cases q:Z.lookup b with
  |some s=>rw [bf q] at e⊢;exact e|none=>rw [au q] at e⊢;exact u.e8 b o v e
 .cases q:Z.lookup b with
  |some o=>rw [bf q] at e;cases e
  |none=>rw [au q] at e⊢;exact u.fS b p e
 .cases q:Z.lookup b with
  |some o=>rw [bf q] at e;cases e;exact mx (j b o q)
  |none=>rw [au q] at e;exact(k b v e).ef (λc y Y r=>r) (λc r=>by rw [au (g c _ r)];exact r) λc xs r=>by rw [au (g c _ r)];exact r
variable{K:zz8}{s s':iM}
theorem iw.aK(e:iw P w K mg base A outer s H)(z:yh Z H (d9 outer) s.heap)(d:∀b o,Z.lookup b=hT o->base.get? b=ie):iw P w K mg base A outer s (aK Z H) where
 frames:=e.frames
 mod:=e.mod
 bs:=λb o q=>{(e.bs b o q).1,by
  cases y:Z.lookup b with
  |some a=>rw [d b a y] at q;cases q
  |none=>rw [au y];exact(e.bs b o q).2}
 u6:=e.u6
 f7:=e.f7
 vh:=λb c=>by
  cases y:Z.lookup b with
  |some a=>exact absurd c (z.fr b a y)|none=>rw [au y];exact e.vh b c
 aJ:=z.aJ e.aJ
 bare:=e.bare
def CE.less(z:yh Z H (d9 outer) s.heap)(h:CE outer P w (aK Z H) s (λv H'=>Q v (bS Z H')) u s'):CE outer P w H s Q u s':=by let(v,H',os,bare,un,aJ,r,q):=h;let(a,c):=z.GG un aJ;exact{v,_,os,bare,a,c,r,q}
def CE.more(z:yh Z H (d9 outer) s.heap)(h:CE outer P w H s (λv H'=>(∀b o,Z.lookup b=hT o->H' b=ie)->Q v (aK Z H')) u s'):CE outer P w (aK Z H) s Q u s':=by let(v,H',os,bare,un,aJ,r,q):=h;let(a,c):=z.x6 un aJ;exact{v,_,os,bare,a,c,r,q λb o y=>un.free b o (z.at_ b o y) (z.no b o y) nofun}
def cR.more{E:XK}{e:ix}(z:yh Z H (d9 outer) s.heap)(h:cR P w outer H s (λC a H'=>(∀b o,Z.lookup b=hT o->H' b=ie)->E C a (aK Z H')) e s'):cR P w outer (aK Z H) s E e s':=by
 let(a,C,t,i,H',B,rfl,F):=h;have j:∀b o,Z.lookup b=hT o->B.get? b=hT o:=λb o q=>F.dW b o (z.at_ b o q) (z.no b o q) (z.fr b o q);have d:∀b o,Z.lookup b=hT o->H' b=ie:=λb o q=>F.un.free b o (z.at_ b o q) (z.no b o q) nofun
 have f:∀c v,H' c=hT v->Z.lookup c=ie:=λc v g=>by
  cases y:Z.lookup c with
  |none=>rfl|some o=>rw [d c o y] at g;cases g
 have k:d4 P w (aK Z H') B:=λb v e=>by
  cases q:Z.lookup b with
  |some o=>rw [bf q] at e;cases e;exact mx (j b o q)
  |none=>rw [au q] at e;exact(F.aJ b v e).ef (λc y Y r=>r) (λc r=>by rw [au (f c _ r)];exact r) λc xs r=>by rw [au (f c _ r)];exact r
 have hs:d4 P w H' s'.heap:=λb v e=>(F.aJ b v e).ef (λc y Y r=>F.A4.1 _ _ r) (λY r=>r) λY Y r=>r;let(m,_):=z.x6 (P:=P) (w:=w) F.un hs;refine{a,C,t,i,_,B,rfl,{F.os,F.bare,k,F.A4,F.tn,F.tup,λb o e n p=>F.dW b o e ?_ p,F.cG,m,F.ends d}}
 cases q:Z.lookup b with
 |some o=>rw [bf q] at n;cases n
 |none=>rw [au q] at n;exact n
end
structure r6(ps ys:List Str)(scope:j1):Prop where
 kind:scope.kind=.function
 co:scope.isCoroutine=iv
 gen:scope.isGenerator=iv
 nd:(ps++ys).Nodup
 B9:∀x∈scope.names,x.2≠.cell
 par:∀x∈ps,scope.names.lookup x=hT .local
 UR:∀y∈ys,scope.names.lookup y=hT .free
 Ic:∀x,scope.names.lookup x=hT .free->x∈ys
noncomputable def Lw(P:i2)(w:i3)(K:zz8)(mg:Str->Option ix)(base:j2)(N:List Str)(qual:Str)(a:j1)(f:iN)(cd:ix)(cl:List (Str×iN))(A:j0)(outer:List Env)(s:iM)(H:Hp)(E:XK):Cx where
 prog:=P
 w:=w
 K:=K
 mg:=mg
 base:=base
 A:=A.deeper (PySem.W.envX qual a (zz9 s) f cd cl)
 N:=N
 s₀:=s
 H₀:=H
 env:=PySem.W.envX qual a (zz9 s) f cd cl
 outer:=outer
 stack:=PySem.W.envX qual a (zz9 s) f cd cl::outer
 ex:=[]
 calm:=A.handled.isNone
 fn:=λZ=>iv
 pn:=[]
 xe:=λe c=>i1 (jj P w) (A.deeper (PySem.W.envX qual a (zz9 s) f cd cl)) (leaving (PySem.W.envX qual a (zz9 s) f cd cl) e) (λZ b=>cR P w outer H s E e b) (λd b=>cR P w outer H s E d b) c
theorem pN{a:Type}:∀{l:List (Str×a)} {x:Str} {v:a},(l.map (·.1)).Nodup->(x,v)∈l->l.lookup x=hT v
 |(y,u)::r,x,v,nd,h=>by
  rw [bc,List.nodup_cons] at nd;rw [hF];rcases el.mp h with e|e
  .cases e;simp
  .have b:(x==y)=iv:=beq_eq_false_iff_ne.mpr λz=>nd.1 (by subst z;exact List.mem_map_of_mem (f:=(·.1)) e);rw [b];exact pN nd.2 e
def n8{ps:List Str}{i:Nat}(nd:ps.Nodup)(a:ps[i]?=hT x)(b:us[i]?=hT u):(ps.zip us).reverse.lookup x=hT u:=by
 have hs:∀{ps:List Str} {us:List ix},List.Sublist ((ps.zip us).map (·.1)) ps:=λ{ps us}=>by
  induction ps generalizing us with
  |nil=>simp|cons p ps c=>
   cases us with
   |nil=>simp|cons q us=>simpa using c
 refine pN ?_ ?_
 .rw [List.map_reverse];exact List.pairwise_reverse.mpr ((nd.sublist hs).imp λh=>Ne.symm h)
 .rw [List.mem_reverse];refine a7 (i:=i) ?_;rw [List.getElem?_zip_eq_some];exact⟨a,b⟩
section
variable{K:zz8}{ps ys:List Str}{scope:j1}{f:iN}{cd:ix}{s:iM}{E:XK}
def vp{ws:List V}{tk:Nat}(S:r6 ps ys scope)(g:iw P w K mg base A outer s H)(C:∀y∈ys,∃c,cl.lookup y=hT c)(inj:∀x y c,cl.lookup x=hT c->cl.lookup y=hT c->x=y)
 (r:Vals vs us) (hl:vs.length=ps.length) (I:ws.length=ys.length) (cells:∀(i:Nat) y c,ys[i]?=hT y->cl.lookup y=hT c->∀v,ws[i]?=hT v->∃u,RelV v u/\s.heap.IsCell c (hT u)) (J:∀x c,cl.lookup x=hT c->∃v,s.heap.IsCell c v)
 (L:∀x c,cl.lookup x=hT c->H c=ie) (ns:h'.Ns (zz9 s) (λx=>(ps.zip us).reverse.lookup x)) (hk:∀b o,s.heap.get? b=hT o->h'.get? b=hT o):
 Inv (Lw P w K mg base (ps++ys) qual scope f cd cl A outer s H E) [] (vs.map hT++ws.map hT) H {s with heap:=h',toks:=tk}:=by
 have q:∀b:iN,b∉(Lw P w K mg base (ps++ys) qual scope f cd cl A outer s H E).ex:=λb z=>absurd (show b∈([]:List iN) from z) (by simp);have D:∀c v,s.heap.IsCell c v->h'.IsCell c v:=λc v ⟨o,M,hd⟩=>{o,hk c o M,hd}
 refine{{g.mod,S.kind,rfl,rfl,a8 _,inj,λx k=>?_,(λx c z=>nomatch z),λz=>Option.isNone_iff_eq_none.mp z,j0.frames_deeper g.frames,.inr ⟨rfl,rfl⟩,λb z=>absurd z (q b),g.bs,g.u6,λb Z Z=>q b,λb z=>absurd z (q b),g.f7,g.vh},
  rfl,g.bare,Un.kept hk,{_,ns,λi x v j d O=>?_},λx c h=>let⟨v,z⟩:=J x c h;{v,D c v z},g.aJ.fresh (a8 _),L,λp m=>absurd (show p∈([]:lu) from m) (by simp),g.aJ.kept hk,?_}
 .have k:scope.names.lookup x=hT .cell\/scope.names.lookup x=hT .free:=k
  rcases k with k|k
  .exact absurd rfl (S.B9 _ (PySem.mem_of_lookup k))
  .exact C x (S.Ic x k)
 .have j:(ps++ys)[i]?=hT x:=j;by_cases F:i<vs.length
  .rw [eH (zx6 F),cz] at d;have t:vs[i]?=hT v:=by
    cases e:vs[i]? with
    |none=>rw [e] at d;cases d
    |some a=>rw [e] at d;cases d;rfl
   let(u,N,B):=r.get t;have m:ps[i]?=hT x:=by rw [eH (by omega)] at j;exact j
   exact{u,B,.inl {S.par x (a7 m),n8 (S.nd.sublist (List.sublist_append_left _ _)) m N}}
  .rw [eO (zx6 F),cz,zzl] at d;rw [eO (by omega)] at j;have t:ws[i-vs.length]?=hT v:=by
    cases e:ws[i-vs.length]? with
    |none=>rw [e] at d;cases d
    |some a=>rw [e] at d;cases d;rfl
   rw [<-hl] at j;let(c,G):=C x (a7 j);let(u,B,z):=cells _ x c j G v t;exact{u,B,.inr {.inr (S.UR x (a7 j)),c,G,D c _ z}}
 .show _=(ps++ys).length;rw [bF,bF,zzl,zzl,hl,I]
def NK:Passes (cR P w) (Lw P w K mg base N qual scope f cd cl A outer s H E) E:=by
 rintro D σ H1 s1 e G I ⟨a,C,t,j,k,B,rfl,F⟩
 have nx:∀b:iN,b∉(Lw P w K mg base N qual scope f cd cl A outer s H E).ex:=λb z=>nomatch (show b∈([]:List iN) from z);have dW:∀b o,s.heap.get? b=hT o->H b=ie->b∉d9 outer->B.get? b=hT o:=λb o q n c=>F.dW b o (I.base.keep b o q n c (nx b)) (I.base.free b o q n (nx b)) (bV I rfl q c);have cG:∀b o,s.heap.get? b=hT o->b∉d9 outer->∃d,B.get? b=hT d:=λb o q c=>by let(o1,q1):=I.base.there b o q (nx b);exact F.cG b o1 q1 (bV I rfl q c)
 refine wpAny_leaves_onW I.ok.frames rfl F.A4 λm h i=>{a,C,t,j,k,B,rfl,?_};have slot:∀b o,s.heap.get? b=hT o->H b=ie->b∈d9 outer->∃g,m.get? b=hT {o with slots:=g}:=λb o q n c=>by let(g,q1):=I.base.slot b o q n c (nx b);let(J,q2):=F.un.any q1 (I.base.free b o q n (nx b)) nofun;let(_,d,q3,hd):=F.A4.2.2.1.mem (b:=b) (fP.mpr (let⟨v,p,r⟩:=fP.mp c;{v,.tail _ p,r}));rw [q2] at q3;cases q3;let(Dg,y):=i b _ q2 hd;exact⟨Dg,y⟩
 refine{F.os.trans I.os,F.bare,F.aJ,h,F.tn,F.tup.of_slots i,dW,cG,{λb o q n c Z=>h.1 _ _ (dW b o q n c),λb o q n c Z=>slot b o q n c,λb o q n Z=>?_,λb o q Z=>?_,λb xs q=>F.un.gc _ _ (I.base.gc _ _ q),λb o u q=>F.un.e8 _ _ _ (I.base.e8 _ _ _ q),λb ps q=>?_},F.ends}
 .let(g,q1):=I.base.any q n (nx b);exact F.un.free b _ q1 (I.base.free b o q n (nx b)) nofun
 .by_cases c:b∈d9 outer
  .let(g,q1):=slot b o q (I.ok.vh b c) c;exact{_,q1}
  .let(d,q1):=cG b o q c;exact{d,h.1 _ _ q1}
 .let(m1,q1):=I.base.fS b ps q;let(m2,q2):=F.un.fS b _ q1;exact{m1++m2,by rw [<-Array.append_assoc];exact q2}
def Fc{k:Nat}{d:Arguments}{body:iO}{M N:ix}{m:iN}{oc:Obj}{B:Array ix}{ct:Tok}{ws:List V}{Z:lu}{t:TE}
 (S:r6 ps ys scope) (T:cL k A) (D:iw P w K mg base A outer s H) (z:yh Z H (d9 outer) s.heap) (zb:∀b o,Z.lookup b=hT o->base.get? b=ie)
 (U:s.heap.get? f=hT (PySem.W.kla_obj (zu 16) qual d body scope cl M m N)) (X:s.heap.get? m=hT oc) (Y:oc.data=.fields B) (EZ:B[1]?=hT (.str qual ct))
 (hb:bindArgs (PySem.W.kla_fn (zu 16) qual d body scope cl M (.ref m) N) {us,[]}=pure (ps.zip us)) (r:Vals vs us) (hl:vs.length=ps.length) (hw:ws.length=ys.length)
 (OL:∀y∈ys,∃c,cl.lookup y=hT c) (inj:∀x y c,cl.lookup x=hT c->cl.lookup y=hT c->x=y)
 (O:∀x c,cl.lookup x=hT c->∃o v,Z.lookup c=hT o/\o.data=.cell v)
 (cells:∀(i:Nat) y c,ys[i]?=hT y->cl.lookup y=hT c->∀v,ws[i]?=hT v->∃u,RelV v u/\s.heap.IsCell c (hT u))
 (ht:PE (Lw P w K mg base (ps++ys) qual scope f (.ref m) cl A outer s H (λC a j=>(∀b o,Z.lookup b=hT o->j b=ie)->E C a (aK Z j))) body t)
 (hq:t (vs.map hT++ws.map hT) H λv j=>(∀b o,Z.lookup b=hT o->j b=ie)->Q v (aK Z j)):
 codeAny (jj P w) A (.call (.ref f) {us,[]}) (CR (cR P w) outer P w (aK Z H) s Q E) s:=by
 have F:s.heap.NoLimit:=D.mod.nolimit.keeps λb o e=>(D.bs b o e).1;refine PySem.W.kla_callFunE T.depth U rfl S.co S.gen rfl ⟨m,oc,B,ct,rfl,X,Y,EZ⟩ ?_;rw [hb];refine bp (wpAny_newFunctionEnv S.B9 (λy hy=>S.par y.1 (List.of_mem_zip hy).1) (λp OJ G=>?_) S.kind);have g:∀b o,s.heap.get? b=hT o->p.get? b=hT o:=λb o e=>G.extBut b o (dV (bZ e)) (aT _ e)
 refine{F.keeps g,?_};show codeAny _ _ (.expr body (PySem.W.envX qual scope (zz9 s) f (.ref m) cl)) _ _;have I:=vp (E:=λC a j=>(∀b o,Z.lookup b=hT o->j b=ie)->E C a (aK Z j)) (cd:=.ref m) (f:=f) (qual:=qual) (tk:=s.toks+(ps.zip us).length) S D OL inj r hl hw cells (λx c h=>by
  let(o,v,L,R):=O x c h;exact{v,o,z.at_ c o L,R}) (λx c h=>by
  let(o,v,L,R):=O x c h;exact z.no c o L) OJ g
 refine PySem.W.kla_codeExpr (wpAny_mono (ht [] _ _ H _ I hq) (λu s' hs=>?_) λe s' hs=>?_)
 .let(v,j,J,rv,q):=hs;exact CE.more z ⟨v,j,J.os,J.bare,J.base,J.aJ,rv,q⟩
 .exact wpAny_mono hs (λ_ Ga y=>cR.more z y) λe' Ga y=>cR.more z y
end
def uX{p:Pos}{a b:Int}{c d:ix}:∀(l:List ix),TriplesOk l->codeAmong p (l++[rawInt a,rawInt b,c])=hT d->codeAmong p l=hT d\/d=c:=by
 intro l h e
 fun_induction TriplesOk l with
 |case1=>
  simp! [List.nil_append,codeAmong,rawInt] at e;split at e
  .cases e;exact .inr rfl
  .cases e
 |case2 i t j u x rest g=>
  simp! [List.cons_append,codeAmong] at e⊢;split at e
  .rename_i f;rw [if_pos f];exact .inl e
  .rename_i f;rw [if_neg f];exact g h e
 |case3 l k m=>exact h.elim
def An(mg:Str->Option ix)(base:j2):Prop:=∃bm o,mg "__builtins__"=hT (.ref bm)/\bm≠builtinsNs/\bm≠kd/\base.get? bm=hT o/\o.cls=.type "module"/\o.dict=hT builtinsNs/\o.data=.plain
abbrev gM(H:Hp)(P:iN)(a:Array ix)(b:iN)(oc:Obj)(f:iN)(fo:Obj):Hp:=upd (upd (upd H P (.fj a)) b (.bL oc cC)) f (.bL fo cC)
section
variable{s:iM}{c P c' f:iN}{ps rW:Array ix}{oc fo:Obj}
def Inv.lam{tk:Nat}(I:zv3 s)(g:H P=hT (.fj ps))(i:∀b o,b≠P->s.heap.get? b=hT o->h'.get? b=hT o)(p:h'.get? P=hT (PySem.W.tabObj rW))(more:∃m,rW=ps++m)
 (h:H c'=ie/\(zz9 s)<=c'\/H c'=hT (.bL oc cC)) (C:h'.get? c'=hT oc) (r:(zz9 s)<=f) (D:h'.get? f=hT fo) (K:c'≠f):
 Inv X aa σ (gM H P rW c' oc f fo) {s with heap:=h',toks:=tk}:=by
 have fr:H f=ie:=I.aJ.fresh r;have t:∀b u,H b=hT u->(∀q,u≠.fj q)->b≠P:=λb u e n z=>by subst z;rw [g] at e;cases e;exact n _ rfl
 have w:∀b u,H b=hT u->b≠f:=λb u e z=>by subst z;rw [fr] at e;cases e
 have E:c'≠P:=λz=>by
  subst z;rcases h with⟨e,_⟩|e
  .rw [g] at e;cases e
  .rw [g] at e;cases e
 have F:f≠P:=λz=>by subst z;rw [g] at fr;cases fr
 have at_:∀b u,H b=hT u->(∀q,u≠.fj q)->gM H P rW c' oc f fo b=hT u:=λb u e n=>by
  unfold gM;rw [ae (w b u e)];by_cases a:b=c'
  .subst a;rw [ak];rcases h with⟨z,_⟩|z
   .rw [z] at e;cases e
   .rw [z] at e;exact e
  .rw [ae a,ae (t b u e n)];exact e
 have no:∀b o,s.heap.get? b=hT o->H b=ie->gM H P rW c' oc f fo b=ie:=λb o e n=>by
  have G:b≠f:=λz=>absurd (bZ e) (by rw [z];exact Nat.not_lt.mpr r);have J:b≠P:=λz=>by subst z;rw [g] at n;cases n
  have j:b≠c':=λz=>by
   rcases h with⟨_,y⟩|y
   .exact absurd (bZ e) (by rw [z];exact Nat.not_lt.mpr y)
   .rw [z,y] at n;cases n
  unfold gM;rw [ae G,ae j,ae J];exact n
 have kp:∀b o,s.heap.get? b=hT o->H b=ie->h'.get? b=hT o:=λb o e n=>i b o (λz=>by subst z;rw [g] at n;cases n) e;refine I.un {λb o e n Z Z=>kp b o e n,λb o e n Z Z=>{o.slots,kp b o e n},λb o e n Z=>no b o e n,λb o e Z=>?_,λb xs e=>at_ b _ e (λZ z=>nomatch z),λb o u e=>at_ b _ e (λZ z=>nomatch z),λb qs e=>?_} λb u e=>?_
 .by_cases a:b=P
  .exact{_,by rw [a];exact p}
  .exact{o,i b o a e}
 .by_cases a:b=P
  .subst a;rw [g] at e;cases e;let(m,rfl):=more;exact{m,by unfold gM;rw [ae (Ne.symm F),ae (Ne.symm E),ak]}
  .have j:b≠c':=λz=>by
    subst z;rcases h with⟨y,_⟩|y
    .rw [y] at e;cases e
    .rw [y] at e;cases e
   exact{#[],by unfold gM;rw [ae (w b _ e),ae j,ae a,e];simp}
 .unfold gM at e;by_cases A:b=f
  .subst A;rw [ak] at e;cases e;exact mx D
  .rw [ae A] at e;by_cases B:b=c'
   .subst B;rw [ak] at e;cases e;exact mx C
   .rw [ae B] at e;by_cases k:b=P
    .subst k;rw [ak] at e;cases e;exact p
    .rw [ae k] at e;refine(I.aJ b u e).ef (λd v hd q=>i d v ?_ q) (λd q=>at_ d _ q (λZ z=>nomatch z)) λd xs q=>at_ d _ q (λZ z=>nomatch z)
     rcases hd with hd|hd
     .rw [hd];exact k
     .exact t d _ hd (λZ z=>nomatch z)
def BO{R:iN->Obj->Prop}{a:Arguments}{body:iO}{d:j1}{Q:lq}{E:lq}(I:zv3 s)(j:H P=hT (.fj ps))(y:TriplesOk ps.toList)(M:X.env.code=.ref c)(C:PySem.W.CodeHd X.base c P)
 (Z:An X.mg X.base) (N:closureFor d X.env=pure cl) (Js:defaultsOf a X.env=([],[]))
 (hit:∀i,codeAmong pos ps.toList=hT i->∃c' oc r t,i=.ref c'/\H c'=hT (.bL oc cC)/\R c' oc/\oc.data=.fields r/\r[1]?=hT (.str (X.env.qual++(zu 16)) t))
 (h:∀(f c':iN) (oc:Obj) (r:Array ix) (t:Tok) (B:ix) (rW:Array ix) (h':j2) (tk:Nat),H f=ie->(H c'=ie\/H c'=hT (.bL oc cC)/\R c' oc)->c'≠f->f≠P->c'≠P->oc.data=.fields r->r[1]?=hT (.str (X.env.qual++(zu 16)) t)->TriplesOk rW.toList->
  (∀p i,codeAmong p rW.toList=hT i->codeAmong p ps.toList=hT i\/i=.ref c')->(∃m,rW=ps++m)->
  Inv X aa σ (gM H P rW c' oc f (PySem.W.kla_obj (zu 16) (X.env.qual++(zu 16)) a body d cl ((X.mg (zu 27)).getD .none) c' B)) {s with heap:=h',toks:=tk}->Q (.ref f) {s with heap:=h',toks:=tk}):
 zx7 X (eval (.Lambda a body d pos) X.env) Q E s:=by
 have F:s.heap.get? P=hT (PySem.W.tabObj ps):=I.aJ P _ j;have O:=I.ok.mod.glob.keeps I.bk;have Vr:kd≠P:=λq=>by let(o,es,ep,e,_):=I.ok.mod.glob;have:=(I.bs _ _ e).2;rw [q,j] at this;cases this
 let(bm,ob,b1,b2,b3,S,b5,b6,b7):=Z;have T:s.heap.BuiltinsAt X.mg P:={bm,ob,b1,b2,b3,(λq=>by have:=(I.bs _ _ S).2;rw [q,j] at this;cases this),I.bk _ _ S,b5,b6,b7}
 refine PySem.W.kla_eval Js ?_;cases hm:codeAmong pos ps.toList with
 |none=>
  refine PySem.W.kla_makeFunction (mg:=X.mg) N I.ok.glob O M (C.keeps I.bk) F y hm Vr T λc' B h' tk hx G J Ql VD=>?_;let(U,oc,vs,t,e2,K,hd,L):=Ql;cases e2;have D:H c'=ie:=I.aJ.fresh G;have g:(zz9 s)<=h'.objs.size:=c0 G (Nat.le_of_lt J);have k:H h'.objs.size=ie:=I.aJ.fresh g
  refine h h'.objs.size c' oc vs t B _ _ tk k (.inl D) (dV J) (λz=>by rw [z,j] at k;cases k) (λz=>by rw [z,j] at D;cases D) hd L ?_ ?_ {_,rfl}
   (I.lam j (λb o V e=>aT _ (hx b o V e)) (aT _ VD) {_,rfl} (.inl ⟨D,G⟩) (aT _ K) g (dI _ rfl) (dV J))
  .rw [Array.toList_append];exact TriplesOk_snoc _ _ _ _ y
  .intro p i e;rw [Array.toList_append] at e;exact uX _ y e
 |some i=>
  let(c',oc,r,t,rfl,u,hR,hd,L):=hit i hm;refine PySem.W.kla_makeFunctionHit (mg:=X.mg) N I.ok.glob O M (C.keeps I.bk) F y hm T λB h' tk hk g=>?_;have k:H h'.objs.size=ie:=I.aJ.fresh g;have Ac:s.heap.get? c'=hT oc:=(I.aJ c' _ u).1;have Y:c'≠h'.objs.size:=λz=>by rw [z,k] at u;cases u
  refine h h'.objs.size c' oc r t B ps _ tk k (.inr ⟨u,hR⟩) Y (λz=>by rw [z,j] at k;cases k) (λz=>by rw [z,j] at u;cases u) hd L y (λp i e=>.inl e) {#[],by simp}
   (I.lam j (λb o V e=>aT _ (hk b o e)) (aT _ (hk _ _ F)) {#[],by simp} (.inr u) (aT _ (hk _ _ Ac)) g (dI _ rfl) Y)
end
section
variable{κ:Type}[DecidableEq κ]{E:lq}{s:iM}{d:iN}
def xg{c:Array DictEntry}{e:Nat}{Q:lq}(g:(d==sysModules)=iv)(b:s.heap.get? d=hT o)(h:o.ExactDict)(f:o.data=.dict c e)
 (i:Q (.ref (zz9 s)) {s with heap:=s.heap.push {cls:=.type "dict_keyiterator",data:=.fields #[.ref d,.int 0 0,.int c.size 0,.int e 0]}}):i1 (jj prog w) A (pyIter (.ref d)) Q E s:=by
 have T:s.TypeIs (.ref d) "dict":=⟨o,b,h.1⟩;refine wpAny_pyIter_slot T F.slot_dict_iter (wpAny_call_entry F.slot_dict_iter T F.entry_dict_iter ?_ (F.args_dict_iter_1 _));unfold kr.«dict.__iter__» kr.Dict.dictSlotNone;refine ar (ar (wpAny_notOrdered_dict T ?_));show i1 _ _ (pure (ix.ref d):Sem ix) _ _ s;refine bp ?_;show i1 _ _ (kr.Dict.showsAll d>>=λZ=>_) _ _ s;unfold kr.Dict.showsAll;rw [if_neg (by rw [g];exact zzf)];refine ar (bp (ar (wpAny_dictEntries b f (ar (wpAny_dictEpoch b f ?_)))));refine ar (wpAny_newObj_type (bp {_,rfl,"dict_keyiterator",_,{_,dI _ rfl,rfl},F.slot_dict_keyiterator_next.lookup,?_}));simpa [rawInt] using i
def xh{it:iN}{i e:Nat}{b:Array DictEntry}{Q:Option ix->iM->Prop}(st:s.heap.IsKeyIter it d i b.size e)(f:s.heap.get? d=hT o)(g:o.data=.dict b e)(j:i<b.size)
 (k:∀h',h'.IsKeyIter it d (i+1) b.size e->j2.SameBut it s.heap h'->Q (hT b[i].key) {s with heap:=h'}):i1 (jj prog w) A (pyNext (.ref it)) Q E s:=by
 let(m,g1,g2,c):=id st;have own:kr.Dict_items.ownsTuple "dict_keyiterator"=iv:=by decide
 unfold pyNext;refine ar (wpAny_attempt (wpAny_callSpecial?_slot (name:=Str.ofString (zu 34)) st.typeIs F.slot_dict_keyiterator_next (wpAny_call_entry F.slot_dict_keyiterator_next st.typeIs F.entry_dict_keyiterator_next ?_ (F.args_dict_keyiterator_next_1 _))));refine ar (bp (ar (ar ?_)))
 first|refine ar (wpAny_typeNameOfWhole_keyiter st.typeIs (bp (ar (wpAny_fieldsOf g1 c ?_))))|refine ar (wpAny_typeNameOf_keyiter st.typeIs (bp (ar (wpAny_fieldsOf g1 c ?_))))
 simp! [own,d2,if_false];show i1 _ _ (if(ix.ref d==ix.none)=ig then _ else _:Sem _) _ _ s;rw [if_neg (show¬((ix.ref d==ix.none)=ig) from zzf)];refine ar (bp (ar (wpAny_dictEntries f g ?_)));rw [if_neg (by simp)];refine ar (bp (ar (wpAny_dictEpoch f g ?_)));rw [if_neg (by simp)];refine bp ?_;simp! [show¬((i:Int)<0) from by omega,if_false,hD,fR j];refine ar ?_
 first|refine ar (wpAny_typeNameOfWhole_keyiter st.typeIs (bp (ar (wpAny_isOneOf_keyiter st.typeIs ?_))))|refine ar (wpAny_typeNameOf_keyiter st.typeIs (bp (ar (wpAny_isOneOf_keyiter st.typeIs ?_))))
 show i1 _ _ (setField (.ref it) 1 (rawInt ((i:Int)+1))>>=λZ=>_) _ _ s
 have h:(s.heap.update it (Obj.mapFields (·.setIfInBounds 1 (rawInt ((i:Int)+1))))).IsKeyIter it d (i+1) b.size e:=
  {_,j2.get?_update_self _ g1 (Obj.isFreed_of_fields (Obj.data_mapFields c _)),(Obj.cls_mapFields ..).trans g2,by rw [Obj.data_mapFields c];simp [rawInt]}
 refine ar (wpAny_setField g1 c (by simp) (ar (wpAny_holding (ar (wpAny_isOneOf_keyiter (s:={s with heap:=s.heap.update it (Obj.mapFields (·.setIfInBounds 1 (rawInt ((i:Int)+1))))}) h.typeIs ?_)))));show i1 _ _ (pure b[i].key:Sem ix) _ _ _;exact bp (bp {_,rfl,bp (k _ h (fq ..))})
def Bt{it:iN}{i f:Nat}{c:Array DictEntry}{Q:Option ix->iM->Prop}(j:A.handled=ie)(st:s.heap.IsKeyIter it d i c.size f)(g:s.heap.get? d=hT o)(h:o.data=.dict c f)(k:c.size<=i)
 (p:∀h',j2.ExtBut it s.heap h'->Q ie {s with heap:=h'}):i1 (jj prog w) A (pyNext (.ref it)) Q E s:=by
 let(q,g1,g2,e):=id st;have own:kr.Dict_items.ownsTuple "dict_keyiterator"=iv:=by decide
 unfold pyNext;refine ar (wpAny_attempt (wpAny_callSpecial?_slot (name:=Str.ofString (zu 34)) st.typeIs F.slot_dict_keyiterator_next (wpAny_call_entry F.slot_dict_keyiterator_next st.typeIs F.entry_dict_keyiterator_next ?_ (F.args_dict_keyiterator_next_1 _))));refine ar (bp (ar (ar ?_)))
 first|refine ar (wpAny_typeNameOfWhole_keyiter st.typeIs (bp (ar (wpAny_fieldsOf g1 e ?_))))|refine ar (wpAny_typeNameOf_keyiter st.typeIs (bp (ar (wpAny_fieldsOf g1 e ?_))))
 simp! [own,d2,if_false];show i1 _ _ (if(ix.ref d==ix.none)=ig then _ else _:Sem _) _ _ s;rw [if_neg (show¬((ix.ref d==ix.none)=ig) from zzf)];refine ar (bp (ar (wpAny_dictEntries g h ?_)));rw [if_neg (by simp)];refine ar (bp (ar (wpAny_dictEpoch g h ?_)));rw [if_neg (by simp)];refine bp ?_;simp! [show¬((i:Int)<0) from by omega,if_false,hD,Array.getElem?_eq_none k];refine ar ?_
 first|refine ar (wpAny_typeNameOfWhole_keyiter st.typeIs (bp ?_))|refine ar (wpAny_typeNameOf_keyiter st.typeIs (bp ?_))
 show i1 _ _ (setField (.ref it) 0 .none>>=λZ=>_) _ _ s;refine ar (wpAny_setField g1 e (by simp) ?_);show i1 _ _ (newExc (.type (zu 20)) []>>=λZ=>_) _ _ _;refine ar ?_;simp! [newExc,newTuple];refine ar (wpAny_newObj_type (ar (m:=firstArgMember _ _) (wpAny_of_eq (a:=ix.none) (by first|rfl|(simp! [firstArgMember];rfl)) (wpAny_newObj_type ?_ (by size_fits)))) (by size_fits));simp! [raiseNew];refine ar (wpAny_handled ?_);rw [show A.in1.handled=ie from j];refine ar (bp (wpAny_throw ?_));refine ar (wpAny_isInstance (T:=(zu 20)) (b:=ig) {_,dI _ rfl,rfl} isSubtype_stop ?_);exact bp (p _ (((fq ..).extBut.push _).push _))
end
def vR{c d:Type}{R:c->d->Prop}{l:List c}{m:List d}(r:Paired R l m):∀{i:Nat} {p:c} {q:d},l[i]?=hT p->m[i]?=hT q->R p q:=by
 induction r with
 |nil=>intro i p q h;simp at h|cons h t e=>
  intro i p q a b;cases i with
  |zero=>simp at a b;subst a b;exact h|succ i=>simp at a b;exact e a b
end L2
namespace L2
open PySem.Spec PyProof.Rows PySem.W
abbrev iS{b:Type}(lt:Nat->Nat->Bool):KasT b->b
 |.ret a=>a|.ask i j k=>iS lt (k (lt i j))
def dD{c:Type}(n:Nat)(R:c->Prop):KasT c->Prop
 |.ret a=>R a|.ask i j k=>i<n/\j<n/\∀b,dD n R (k b)
theorem dD.bind{c d:Type}{n:Nat}{R:c->Prop}{e:d->Prop}{f:c->KasT d}(g:∀a,R a->dD n e (f a)):∀(t:KasT c),dD n R t->dD n e (t.bind f)
 |.ret a,h=>g a h|.ask i j k,h=>{h.1,h.2.1,λb=>dD.bind g (k b) (h.2.2 b)}
theorem dD.run{b:Type}{n:Nat}{R:b->Prop}(lt:Nat->Nat->Bool):∀(t:KasT b),dD n R t->R (iS lt t)
 |.ret a,h=>h|.ask i j k,h=>dD.run lt (k (lt i j)) (h.2.2 _)
theorem BK{b:Type}{n:Nat}{R:b->Prop}{cmp:Nat->Nat->(Bool->iM->Prop)->iM->Prop}{lt:Nat->Nat->Bool}{Q:b->iM->Prop}{s:iM}
 (c:∀i j C,i<n->j<n->C (lt i j) s->cmp i j C s):∀(t:KasT b),dD n R t->Q (iS lt t) s->t.kasWp cmp Q s
 |.ret a,_,h=>h|.ask i j k,a,h=>c i j _ a.1 a.2.1 (BK c (k (lt i j)) (a.2.2 _) h)
noncomputable abbrev Pm(n:Nat)(p:Array Nat):Prop:=p.toList.Perm (List.range n)
def Pm.lt{n:Nat}{p:Array Nat}(h:Pm n p)(a:0<n)(i:Nat):p.getD i 0<n:=by
 rw [Array.getD_eq_getD_getElem?];cases e:p[i]? with
 |none=>exact a|some x=>
  have:x∈p.toList:=by rw [Array.mem_toList_iff];exact Array.mem_of_getElem? e
  exact List.mem_range.mp (h.mem_iff.mp this)
def Pm.rev{n:Nat}{p:Array Nat}(h:Pm n p)(i j:Nat):Pm n (kas_rev p i j):=(mirror_perm p i j _).toList.trans h
def Pm.UI{n:Nat}{p:Array Nat}(h:Pm n p)(i j:Nat):Pm n (bubble p i j):=(bubble_perm p i j).toList.trans h
section
variable{n:Nat}(h0:0<n)
include h0
theorem my{p:Array Nat}(h:Pm n p):∀f m,dD n (λZ=>True) (kas_asc p f m)
 |0,m=>trivial|f+1,m=>{h.lt h0 _,h.lt h0 _,λb=>by dsimp only;split;exact trivial;exact my h f (m+1)}
theorem gX:∀f (p:Array Nat) m q,Pm n p->dD n (λr=>Pm n r.1) (kas_desc f p m q)
 |0,p,m,q,h=>h|f+1,p,m,q,h=>{h.lt h0 _,h.lt h0 _,λb=>by
  cases b with
  |true=>
   dsimp only;rw [if_pos rfl];split
   .exact gX f _ _ _ (h.rev _ _)
   .exact gX f _ _ _ h
  |false=>dsimp only;rw [if_neg (by simp)];exact{h.lt h0 _,h.lt h0 _,λb=>by dsimp only;split;exact h;exact gX f _ _ _ h}}
def oZ{p:Array Nat}(h:Pm n p)(m r:Nat):dD n (λr=>Pm n r.2) (kas_tail3 m r p):=by unfold kas_tail3;refine dD.bind (R:=λZ=>True) (λa Z=>?_) _ (my h0 (h.rev _ _) _ _);exact h.rev 0 m
def oX{p:Array Nat}(h:Pm n p)(m r:Nat):dD n (λr=>Pm n r.2) (kas_descPart m r p):=dD.bind (λa b=>by
 split
 .exact oZ h0 (Pm.rev b _ _) _ _
 .exact oZ h0 b _ _) _ (gX h0 _ _ _ _ h)
def uZ{p:Array Nat}(h:Pm n p)(r:Nat):dD n (λr=>Pm n r.2) (kas_count r p):=dD.bind (λa Z=>by
 split
 .exact h
 .split
  .exact{h.lt h0 _,h.lt h0 _,λb=>by dsimp only;split;exact h;exact oX h0 (h.rev _ _) _ _}
  .exact oX h0 h _ _) _ (my h0 h _ _)
theorem iB{p:Array Nat}(h:Pm n p)(k:Nat):∀f l r,dD n (λZ=>True) (kas_place p k f l r)
 |0,l,r=>trivial|f+1,l,r=>by
  unfold kas_place;split
  .exact trivial
  .exact{h.lt h0 _,h.lt h0 _,λb=>by dsimp only;split;exact iB h k f _ _;exact iB h k f _ _}
theorem sm:∀f (p:Array Nat) k,Pm n p->dD n (Pm n) (kas_bin f p k)
 |0,p,k,h=>h|f+1,p,k,h=>dD.bind (λl Z=>sm f _ _ (h.UI _ _)) _ (iB h0 h k _ _ _)
def oY:dD n (Pm n) (kas_sort n):=dD.bind (λa b=>by
 split
 .exact sm h0 _ _ _ b
 .exact b) _ (uZ h0 (List.Perm.refl _) n)
end
abbrev v8(n:Nat)(lt:Nat->Nat->Bool):List Nat:=(iS lt (kas_sort n)).toList
def uB{n:Nat}(h:0<n)(lt:Nat->Nat->Bool):(v8 n lt).Perm (List.range n):=dD.run lt _ (oY h)
section
variable{E:lq}{s:iM}{vs:List ix}
def nN{S:iN}{c:Nat}{xs ys:Array ix}(e:h.get? S=hT (lb "list" xs c)):∃b,(h.update S (Obj.mapSeq λZ=>ys)).get? S=hT (lb "list" ys b):={_,get?_update_seq e λZ=>ys}
def Ow(prog:i2)(w:i3)(A:j0)(E:lq)(vs:List ix)(lt:Nat->Nat->Bool)(s:iM):Prop:=∃b:SortKind,(∀Q:SortKind->iM->Prop,Q b s->i1 (jj prog w) A (keyKind' vs.toArray) Q E s)/\∀i j (C:Bool->iM->Prop),i<vs.length->j<vs.length->C (lt i j) s->kas_ask prog w A b vs i j C s
def zQ{n:Nat}{P:PySem.Fin->iM->Prop}{lt:Nat->Nat->Bool}(j:s.heap.get? a=hT (lb "list" vs.toArray n))(z:2<=vs.length)(B:vs.length<64)(rd:∀h',(∀b o,b≠a->s.heap.get? b=hT o->h'.get? b=hT o)->Ow prog w A E vs lt {s with heap:=h'})
 (h:∀h' c,(∀b o,b≠a->s.heap.get? b=hT o->h'.get? b=hT o)->h'.get? a=hT (lb "list" ((v8 vs.length lt).map λi=>vs.getD i ix.none).toArray c)->P (.done (.ret .none)) {s with heap:=h'}):
 i1 (jj prog w) A (kr.«list.sort» {[.ref a],[]}) P E s:=by
 have C:=fq s.heap a (Obj.mapSeq λZ=>(#[]:Array ix));obtain⟨k,d⟩:∃k,(s.heap.update a (Obj.mapSeq λZ=>(#[]:Array ix))).get? a=hT (lb "list" #[] k):={_,get?_update_seq j λZ=>#[]};generalize m:(((s.heap.update a (Obj.mapSeq λZ=>(#[]:Array ix))).push (lb "tuple" vs.toArray 0)).push (lb "list" #[] 0))=H1;have u:∀b o,b≠a->s.heap.get? b=hT o->H1.get? b=hT o:=λb o f e=>by rw [<-m];exact aT _ (aT _ ((C.2 b f).trans e))
 have a1:H1.get? a=hT (lb "list" #[] k):=by rw [<-m];exact aT _ (aT _ d)
 let(M,D,q):=rd H1 u;rw [list_sort_plain];refine ar (listItems_at j rfl (ar (listUpdate_at j rfl ?_ (by rw [a5,sizeLine_eq];omega) (Nat.zero_le _))));refine ar (seqEpoch_at d rfl (ar (wpAny_newTuple ?_ (by show vs.length<=_;rw [sizeLine_eq];omega))));refine ar (wpAny_newList ?_ (Nat.zero_le _));refine wpAny_holding ?_;show i1 (jj prog w) A _ P E {s with heap:=((s.heap.update a (Obj.mapSeq λZ=>(#[]:Array ix))).push (lb "tuple" vs.toArray 0)).push (lb "list" #[] 0)};rw [m];dsimp only;have y:¬vs.toArray.size<2:=by rw [a5];omega
 rw [if_neg y,if_neg y];refine ar (D _ ?_);refine ar (wpAny_mono (kat_run (Q:=λg r=>∃p:Array Nat,p.size=vs.length/\arrOf g=p.map (kas_item (vs.toArray.zip vs.toArray))/\failedOf g=ie/\p=iS lt (kas_sort vs.length)/\r={s with heap:=H1})
  rfl z B (λF g r a1 a2 G H=>⟨F,a1,a2,G,H⟩) (BK q _ (oY (by omega)) ⟨rfl,rfl⟩)) ?_ λZ Z e=>e)
 rintro ⟨⟨⟩,g⟩ r ⟨p,I,t,hf,rfl,rfl⟩
 dsimp only;have J:=kat_snds rfl t;rw [J];have K:=fq H1 a (Obj.mapSeq λZ=>List.toArray ((iS lt (kas_sort vs.length)).toList.map λi=>vs.getD i ix.none));let(L,lX):=nN (ys:=List.toArray ((iS lt (kas_sort vs.length)).toList.map λi=>vs.getD i ix.none)) a1;refine ar (seqEpoch_at a1 rfl (ar (listUpdate_at a1 rfl ?_ (Nat.zero_le _) (by show(List.toArray _).size<=_;rw [a5,zzl,d1,I,sizeLine_eq];omega))));rw [hf];simp! [bne_self_eq_false,d2,if_false];exact bp (h _ L (λb o f e=>(K.2 b f).trans (u b o f e)) lX)
end
end L2
namespace L2
open PySem.Spec PyProof.Rows
def yE:typeLookup (.type "list") "keys"=pure ie:=by rw [typeLookup_type,builtinLookup_eq_fast];kernel_rfl
def sQ:entryFor table "dict.update.loop"=hT kr.«dict.update.loop»:=entryFor_of_tree (by kernel_rfl)
def jo:plainId "dict.update.loop"=ig:=by decide+kernel
section
variable{E:lq}{s:iM}{xs:Array ix}{k:Nat}
def Em{Q:Option ix->iM->Prop}(i:s.heap.get? a=hT o)(j:o.cls=.type "list")(m:o.data=.seq xs k)(hd:o.dict=ie)(r:A.handled=ie)
 (h:∀h' tk,(∀b o,s.heap.get? b=hT o->h'.get? b=hT o)->Q ie {s with heap:=h',toks:=tk}):i1 (jj prog w) A (getAttr? (.ref a) "keys") Q E s:=by
 let(c,bU,t,u):=o;simp only at j m hd;subst j m hd;let(y,g,d,tk,os):=s;have p:∀f,(⟨y,g,d,f,os⟩:iM).TypeIs (.ref a) "list":=λZ=>{_,i,rfl};have z:=sub_AttributeError;have B:=F.slot_list_getattribute.lookup;have C:=F.slot_list_getattribute.bind (.ref a);have D:=am_list_getattr_none;unfold getAttr? getAttrBy? getAttrBy
 repeat (any_goals (first|assumption|exact p _|((with_reducible show i1 _ _ (call (ix.builtin "list.__getattribute__") _ _) _ _ _);refine call_meets F.slot_list_getattribute (p _) am_entry_list_getattribute (F.args_list_getattribute_2 _ _) (meets_getattribute_miss_list a xs k u "keys" _ yE (by decide) (by size_fits)) ⟨i,r,λh' f e q=>?_⟩)|wp_step))
 let(G,H,I):=q.there;show i1 _ _ (getattributeRaised _ _ _ _ _ _ _) _ _ _;unfold getattributeRaised
 repeat (any_goals (first|assumption|wp_step))
 exact h h' f q.keeps
end
end L2
namespace L2
open PySem.Spec PyProof.Rows PySem.W
abbrev wb{b:Type}(a:b)(l:List b)(c:ly):List b:=if l.length<2 then l else(v8 l.length λi j=>HT.lexLt (c.getD i []) (c.getD j [])).map λi=>l.getD i a
section
variable{E:lq}{s:iM}{vs:List ix}{ua:ly}
def Dp{n:Nat}{P:PySem.Fin->iM->Prop}(g:s.heap.get? a=hT (lb "list" vs.toArray n))(u:vs.length<2)
 (h:∀h' c,(∀b o,b≠a->s.heap.get? b=hT o->h'.get? b=hT o)->h'.get? a=hT (lb "list" vs.toArray c)->P (.done (.ret .none)) {s with heap:=h'}):i1 (jj prog w) A (kr.«list.sort» {[.ref a],[]}) P E s:=by
 have k:=fq s.heap a (Obj.mapSeq λZ=>(#[]:Array ix));let(m,d):=nN (ys:=(#[]:Array ix)) g;generalize i:(((s.heap.update a (Obj.mapSeq λZ=>(#[]:Array ix))).push (lb "tuple" vs.toArray 0)).push (lb "list" #[] 0))=H1;have p:∀b o,b≠a->s.heap.get? b=hT o->H1.get? b=hT o:=λb o f e=>by rw [<-i];exact aT _ (aT _ ((k.2 b f).trans e))
 have a1:H1.get? a=hT (lb "list" #[] m):=by rw [<-i];exact aT _ (aT _ d)
 rw [list_sort_plain];refine ar (listItems_at g rfl (ar (listUpdate_at g rfl ?_ (by rw [a5,sizeLine_eq];omega) (Nat.zero_le _))));refine ar (seqEpoch_at d rfl (ar (wpAny_newTuple ?_ (by show vs.length<=_;rw [sizeLine_eq];omega))));refine ar (wpAny_newList ?_ (Nat.zero_le _));refine wpAny_holding ?_;show i1 (jj prog w) A _ P E {s with heap:=((s.heap.update a (Obj.mapSeq λZ=>(#[]:Array ix))).push (lb "tuple" vs.toArray 0)).push (lb "list" #[] 0)};rw [i];dsimp only;have j:vs.toArray.size<2:=by rw [a5];omega
 rw [if_pos j,if_pos j];refine ar (bp (ar ?_));show i1 (jj prog w) A (pure ((),SortSt.mk' general' (vs.toArray.zip vs.toArray) #[] 7 ie)) _ E _;refine bp ?_;dsimp only;have q:(arrOf (SortSt.mk' general' (vs.toArray.zip vs.toArray) #[] 7 ie)).map (·.2)=vs.toArray:=by show(vs.toArray.zip vs.toArray).map (·.2)=vs.toArray;apply Array.toList_inj.mp;simp! [Array.toList_map,Array.toList_zip];exact List.map_snd_zip (a8 _)
 rw [q];have r:=fq H1 a (Obj.mapSeq λZ=>vs.toArray);let(t,lX):=nN (ys:=vs.toArray) a1;refine ar (seqEpoch_at a1 rfl (ar (listUpdate_at a1 rfl ?_ (Nat.zero_le _) (by rw [a5,sizeLine_eq];omega))));simp! [bne_self_eq_false,d2,if_false];exact bp (h _ t (λb o f e=>(r.2 b f).trans (p b o f e)) lX)
def Dm{n:Nat}{P:PySem.Fin->iM->Prop}(f:s.heap.get? a=hT (lb "list" vs.toArray n))(g:vs.length<64)(rd:2<=vs.length->∀h',(∀b o,b≠a->s.heap.get? b=hT o->h'.get? b=hT o)->Ow prog w A E vs (λi j=>HT.lexLt (ua.getD i []) (ua.getD j [])) {s with heap:=h'})
 (h:∀h' c,(∀b o,b≠a->s.heap.get? b=hT o->h'.get? b=hT o)->h'.get? a=hT (lb "list" (wb ix.none vs ua).toArray c)->P (.done (.ret .none)) {s with heap:=h'}):i1 (jj prog w) A (kr.«list.sort» {[.ref a],[]}) P E s:=by
 by_cases d:vs.length<2
 .exact Dp f d λh' c k e=>h h' c k (by unfold wb;rw [if_pos d];exact e)
 .exact zQ f (by omega) g (rd (by omega)) λh' c k e=>h h' c k (by unfold wb;rw [if_neg d];exact e)
def Ds{d:iN}{f:Array DictEntry}{r:Nat}(B:(d==sysModules)=iv)(m:o.ExactDict)(hd:o.data=.dict f r):KdlSrc prog w "dict" d d f.size (λi v=>∃h:i<f.size,v=f[i].key) (λh=>h.get? d=hT o) where
 type:=λs e=>⟨o,e,m.1⟩
 there:=λh e=>{bZ e,bZ e}
 keep:=λh j e k=>k d (.inl rfl) o e
 notList:=by decide
 notTuple:=by decide
 hint:=λA E s Q e q=>kdl_hint_dict ⟨o,e,m.1⟩ q
 iter:=λA s C e=>{_,λi h=>h.IsKeyIter (zz9 s) d i f.size r/\h.get? d=hT o,(λE Q q=>xg B e m hd q),{
  sub:=λb c=>by simp at c;simp [c]
  frame:=λZ Z Z st hk=>{st.1.at λo e=>hk _ (by simp) o e,hk d (by simp) o st.2}
  item:=λi p Q E t st g=>xh st.1 st.2 hd t λj D u=>g _ j p.toks ⟨t,rfl⟩ {D,(u.2 d (dV (bZ e))).trans st.2} λb o c z=>(u.2 b (λy=>c (by simp [y]))).trans z
  done:=λp Q E st g=>Bt C st.1 st.2 hd (a8 _) λj F=>g j p.toks λb o c z=>F b o (λy=>c (by simp [y])) z
  self:=λZ Z Z Z st g=>wpAny_pyIter_keyiter st.1 g},{{_,dI _ rfl,rfl,rfl},aT _ e}}
def sE{Q:List ix->iM->Prop}{T:String}{r d:iN}{n:Nat}{P:Nat->ix->Prop}{j:j2->Prop}(K:KdlSrc prog w T r d n P j)(m:A.handled=ie)(aJ:j s.heap)(hn:n<=j3)
 (p:∀h' tk (acc:Array ix),(∀b o,s.heap.get? b=hT o->h'.get? b=hT o)->ItemsOf P acc n->Q acc.toList {s with heap:=h',toks:=tk}):i1 (jj prog w) A (collect (.ref r)) Q E s:=by
 have q:(s.heap.push (lb "list" #[] 0)).get? (zz9 s)=hT {cls:=.type "list",data:=.seq #[] 0}:=dI _ rfl;have k:=K.there _ aJ
 have h:codeAny (jj prog w) A (.builtin "proto.collect" {[.ref r],[]}) (λc i=>∃h' tk f g,c=.ok (.ret (.ref (zz9 s)))/\i={s with heap:=h',toks:=tk}/\(∀b o,s.heap.get? b=hT o->h'.get? b=hT o)/\h'.get? (zz9 s)=hT {cls:=.type "list",dict:=ie,data:=.seq f g,slots:=#[]}/\ItemsOf P f n) s:=by
  refine codeAny_builtin F.entry_proto_collect ?_;rw [hI F.plain_proto_collect _];show i1 _ A.in1 (newList []>>=λl=>again (.builtin "list.__iadd__" {[l,.ref r],[]})) _ _ s
  refine ar (wpAny_newList (bp {plainId_quiet F.plain_list_iadd _,codeAny_builtin F.entry_list_iadd ?_}) (Nat.zero_le _));rw [hI F.plain_list_iadd _];exact kdl_extend (R:=λc i=>∃h' tk f g,c=.ok (.ret (.ref (zz9 s)))/\i={s with heap:=h',toks:=tk}/\(∀b o,s.heap.get? b=hT o->h'.get? b=hT o)/\h'.get? (zz9 s)=hT {cls:=.type "list",dict:=ie,data:=.seq f g,slots:=#[]}/\ItemsOf P f n)
   (s:={s with heap:=s.heap.push (lb "list" #[] 0)}) (A:=A) K m (K.keep _ _ aJ λb Z o e=>aT _ e) _ (Nat.ne_of_gt k.1) (Nat.ne_of_gt k.2) (.ref (zz9 s)) 0 q (λh' tk f g hk t u=>{h',tk,f,g,rfl,rfl,λb o e=>hk b o (dV (bZ e)) (aT _ e),t,u}) hn
 unfold collect;refine ar (wpAny_runValue (codeAny_mono h λc i y=>?_));let(h',tk,f,g,rfl,rfl,B,k2,C):=y;show i1 _ A (load (zz9 s)>>=λz=>_) _ _ _;exact ar (wpAny_load k2 (bp (p h' tk f B C)))
end
section
variable{s:iM}{ua:ly}{E:lq}
def DH(r:Vals vs us):Vals (wb V.aE vs ua) (wb ix.none us ua):=by
 have hl:=r.length;unfold wb;rw [hl];split
 .exact r
 .have go:∀l:List Nat,Vals (l.map λi=>vs.getD i V.aE) (l.map λi=>us.getD i ix.none):=by
   intro l
   induction l with
   |nil=>exact .nil|cons i l d=>
    refine .cons ?_ d;dsimp only;by_cases a:i<vs.length
    .let(u,e,f):=r.get (zzg a);have b:vs.getD i V.aE=vs[i]:=by simp [a]
     have c:us.getD i ix.none=u:=by simp [e]
     rw [b,c];exact f
    .have b:vs.getD i V.aE=.aE:=by simp [Nat.le_of_not_lt a]
     have c:us.getD i ix.none=.none:=by simp [Nat.le_of_not_lt (hl▸a)]
     rw [b,c];exact rfl
  exact go _
def Gr{a:Type}{d:a}{l:List a}:(wb d l ua).length=l.length:=by
 unfold wb;split
 .rfl
 .rename_i h;rw [zzl,(uB (by omega) _).length_eq,List.length_range]
def v9(I:zv3 s)(r:Vals vs us)(rd:2<=us.length->∀h',(∀b o,s.heap.get? b=hT o->h'.get? b=hT o)->Ow X.prog X.w A.in1 E us (λi j=>HT.lexLt (ua.getD i []) (ua.getD j [])) {s with heap:=h'})(g:vs.length<64)(q:∀p,H p=ie->Q (.ref p) (upd H p (.lst (wb V.aE vs ua)))):
 i1 (jj X.prog X.w) A (newList us>>=λl=>holding [l] (call (.builtin "list.sort") [l] [])>>=λZ=>ret l) (λfin s'=>∃v,fin=.done (.ret v)/\EP X aa σ Q v s') E s:=by
 have hl:=r.length;refine ar (wpAny_newList ?_ (by rw [sizeLine_eq];omega));have d:(s.heap.push (lb "list" us.toArray 0)).get? (zz9 s)=hT (lb "list" us.toArray 0):=dI _ rfl;have kp:∀b o,s.heap.get? b=hT o->(s.heap.push (lb "list" us.toArray 0)).get? b=hT o:=λb o e=>aT _ e;refine ar (wpAny_holding (wpAny_call_entry slot_list_sort {_,d,rfl} entry_list_sort ?_ (args_list_sort _)));refine Dm (s:={s with heap:=s.heap.push (lb "list" us.toArray 0)}) d (by omega) (λf h' k=>rd f h' λb o e=>k b o (dV (bZ e)) (kp b o e)) λh' c k e=>{_,rfl,bp {_,rfl,.ref (zz9 s),upd H (zz9 s) (.lst (wb V.aE vs ua)),?_,rfl,q _ (I.aJ.fresh (a8 _))}};exact I.laid (a:=(zz9 s)) (t':=s.toks) (λb o z=>k b o (dV (bZ z)) (kp b o z)) (a8 _) {by rw [Gr,sizeLine_eq];omega,_,c,DH r,e}
end
end L2
namespace L2
open PySem.Spec PyProof.Rows
end L2
namespace Ci
open L2
def aI{p:Prop}(h:iv=ig):p:=absurd h zzf
inductive PV where
 |aE|bl (b:Bool)|int (i:Int)|str (z:Str)
 |tup (xs:List PV)|lst (xs:List PV)
 |exc (c:Str)
 |bU (ks:List Str) (vs:List PV)
 |obj (n:Nat)
 deriving Inhabited
structure Ob where
 a:iN
 dx:iN
 C:iN
 c:Str
 fs:List (Str×PV)
structure Wd where
 K:zz8
 mg:Str->Option ix
 xs:List Str
 ts:List (iN×Str):=[]
 ob:List Ob:=[]
def oU(K:zz8)(H:Hp)(a:iN)(vs:List V):Prop:=
 Rd H a (.lst vs)\/∃(b:Array ix) (n:Nat),K.lookup a=hT {cls:=.type "list",data:=.seq b n}/\b.size<=j3/\Vals vs b.toList
def HN(K:zz8)(G:Hp)(a:iN)(vs:List V):Prop:=G a=hT (.tup vs)\/dF K G a vs/\∃z,V.str z∈vs
theorem HN.sq{K:zz8}:HN K G a vs->dF K G a vs
 |.inl h=>.inl (.inl h)|.inr h=>h.1
abbrev kz(ks:List Str)(us:List V):List (Key×V):=(ks.map Sum.inr).zip us
mutual
def Rep(W:Wd)(G:Hp):PV->V->Prop
 |.aE,v=>v=.aE|.bl b,v=>v=.bl b|.int i,v=>v=.int i|.str z,v=>v=.str z|.tup xs,v=>∃a vs,v=.ref a/\HN W.K G a vs/\ag W G xs vs|.lst xs,v=>∃a vs,v=.ref a/\oU W.K G a vs/\ag W G xs vs|.exc c,v=>∃a C,v=.ref a/\c∈W.xs/\W.mg c=hT (.ref C)/\G a=hT (lD a C)|.bU ks vs,v=>∃a o us,v=.ref a/\ks.length=us.length/\G a=hT (.bL o (.dK (kz ks us)))/\ag W G vs us|.obj n,v=>∃o,W.ob[n]?=hT o/\v=.ref o.a
def ag(W:Wd)(G:Hp):List PV->List V->Prop
 |[],vs=>vs=[]|p::ps,vs=>∃v r,vs=v::r/\Rep W G p v/\ag W G ps r
end
def aw.tup{K:zz8}{b:Hp}{xs:List V}(e:aw H b)(h:dF K H a xs):dF K b a xs:=by
 rcases h with(h|⟨o,h⟩)|h
 .exact .inl (.inl (e _ _ h))
 .exact .inl (.inr {o,e _ _ h})
 .exact .inr h
def aw.tp{K:zz8}{b:Hp}{xs:List V}(e:aw H b)(h:HN K H a xs):HN K b a xs:=h.elim (λz=>.inl (e _ _ z)) λz=>.inr {aw.tup e z.1,z.2}
def aw.rd{b:Hp}{u:HO}(e:aw H b)(h:Rd H a u):Rd b a u:=by
 rcases h with h|⟨o,h⟩
 .exact .inl (e _ _ h)
 .exact .inr {o,e _ _ h}
def aw.ls{K:zz8}{b:Hp}(e:aw H b)(h:oU K H a vs):oU K b a vs:=h.elim (λz=>.inl (aw.rd e z)) .inr
section
variable{W:Wd}{G':Hp}
mutual
theorem Rep.same(s:aw G G'):∀(p:PV) {v:V},Rep W G p v->Rep W G' p v
 |.aE,_,h=>by simpa only [Rep] using h|.bl b,_,h=>by simpa only [Rep] using h|.int i,_,h=>by simpa only [Rep] using h|.str z,_,h=>by simpa only [Rep] using h|.tup xs,_,h=>by simp! [Rep] at h⊢;let(a,vs,e,q,l):=h;exact{a,vs,e,aw.tp s q,ag.same s xs l}|.lst xs,_,h=>by simp! [Rep] at h⊢;let(a,vs,e,q,l):=h;exact{a,vs,e,aw.ls s q,ag.same s xs l}|.exc c,_,h=>by simp! [Rep] at h⊢;let(a,C,e,x,m,q):=h;exact{a,C,e,x,m,s _ _ q}|.bU f vs,_,h=>by simp! [Rep] at h⊢;let(a,o,d,e,n,m,l):=h;exact{a,o,d,e,n,s _ _ m,ag.same s vs l}|.obj n,_,h=>by simpa only [Rep] using h
theorem ag.same(s:aw G G'):∀(ps:List PV) {vs:List V},ag W G ps vs->ag W G' ps vs
 |[],_,h=>by simpa only [ag] using h|p::ps,_,h=>by simp! [ag] at h⊢;let(v,r,e,a,b):=h;exact{v,r,e,Rep.same s p a,ag.same s ps b}
end
theorem ag.paired:∀{ps:List PV} {vs:List V},ag W G ps vs->Paired (λv p=>Rep W G p v) vs ps
 |[],_,h=>by simp! [ag] at h;subst h;exact .nil|p::ps,_,h=>by simp! [ag] at h;let(v,r,rfl,a,b):=h;exact .cons a (ag.paired b)
def ag.length{ps:List PV}(h:ag W G ps vs):vs.length=ps.length:=nv h.paired
def ag.nil:ag W G [] []:=by simp! [ag]
def ag.cons{p:PV}{v:V}{ps:List PV}{vs:List V}(h:Rep W G p v)(t:ag W G ps vs):ag W G (p::ps) (v::vs):=by simp! [ag];exact{_,_,rfl,h,t}
def ag.aN{p:PV}{ps:List PV}(h:ag W G (p::ps) vs):∃v r,vs=v::r/\Rep W G p v/\ag W G ps r:=by simpa only [ag] using h
theorem ag.append:∀{ps qs:List PV} {vs us:List V},ag W G ps vs->ag W G qs us->ag W G (ps++qs) (vs++us)
 |[],_,_,_,h,k=>by simp! [ag] at h;subst h;exact k|p::ps,_,_,_,h,k=>by let(v,r,rfl,a,b):=h.aN;exact .cons a (b.append k)
def ag.get:∀{ps:List PV} {vs:List V} {i:Nat} {v:V},ag W G ps vs->vs[i]?=hT v->∃p,ps[i]?=hT p/\Rep W G p v:=λh e=>pW h.paired e
theorem ag.mW:∀{ps:List PV} {vs:List V} {i:Nat} {p:PV},ag W G ps vs->ps[i]?=hT p->∃v,vs[i]?=hT v/\Rep W G p v
 |[],_,_,_,_,e=>by simp at e|p::ps,_,0,q,h,e=>by let(v,r,rfl,a,b):=h.aN;simp at e;subst e;exact⟨v,rfl,a⟩|p::ps,_,i+1,q,h,e=>by let(v,r,rfl,a,b):=h.aN;let(u,c,k):=b.mW (i:=i) (zx6 e);exact{u,zx6 c,k}
theorem ag.drop:∀{ps:List PV} {vs:List V} (n:Nat),ag W G ps vs->ag W G (ps.drop n) (vs.drop n)
 |_,_,0,h=>zx6 h|[],_,n+1,h=>by simp! [ag] at h;subst h;simp! [List.drop_nil];exact .nil|p::ps,_,n+1,h=>by let(v,r,rfl,b,a):=h.aN;simpa using a.drop n
theorem ag.take:∀{ps:List PV} {vs:List V} (n:Nat),ag W G ps vs->ag W G (ps.take n) (vs.take n)
 |_,_,0,h=>by simp! [List.take_zero];exact .nil|[],_,n+1,h=>by simp! [ag] at h;subst h;simp! [List.take_nil];exact .nil|p::ps,_,n+1,h=>by let(v,r,rfl,a,b):=h.aN;simp! [List.take_succ_cons];exact .cons a (b.take n)
end
def gj(H c:Hp):Prop:=∀b o,H b=hT o->(∀a,o≠.fj a)/\c b=hT o\/∃a m,o=.fj a/\c b=hT (.fj (a++m))
def gj.refl(H:Hp):gj H H:=λb o h=>by
 cases o with
 |fj a=>exact .inr {a,#[],rfl,zx6 h}|_=>exact .inl {(λZ z=>nomatch z),h}
def gj.trans{f:Hp}(a:gj H H1)(b:gj H1 f):gj H f:=λc o h=>by
 rcases a c o h with⟨n,e⟩|⟨d,m,rfl,e⟩
 .rcases b c o e with y|⟨d,m,rfl,g⟩
  .exact .inl y
  .exact absurd rfl (n d)
 .rcases b c _ e with⟨n,_⟩|⟨k,i,g,j⟩
  .exact absurd rfl (n _)
  .cases g;exact .inr {d,m++i,rfl,by rw [j,Array.append_assoc]}
def gj.free{a:Hp}(e:gj H a){l:iN}(h:a l=Option.none):H l=Option.none:=by
 cases q:H l with
 |none=>rfl|some o=>
  rcases e l o q with⟨_,z⟩|⟨_,_,_,z⟩
  .rw [h] at z;cases z
  .rw [h] at z;cases z
def gj.at{a:Hp}(e:gj H a){b:iN}{o:HO}(h:H b=hT o)(n:∀ps,o≠.fj ps):a b=hT o:=by
 rcases e b o h with⟨_,z⟩|⟨ps,_,rfl,_⟩
 .exact z
 .exact absurd rfl (n ps)
def gj.iq{a:Hp}(e:gj H a){b:iN}(h:H b≠ie)(n:∀vs,H b≠hT (.tup vs)):∀vs,a b≠hT (.tup vs):=λvs z=>by
 cases q:H b with
 |none=>exact h q|some o=>
  rcases e b o q with⟨_,y⟩|⟨_,_,_,y⟩
  .rw [z] at y;cases y;exact n vs q
  .rw [z] at y;cases y
def gj.of{a:Hp}(e:aw H a):gj H a:=λb o h=>by
 cases o with
 |fj c=>exact .inr {c,#[],rfl,by simpa using e _ _ h}|_=>exact .inl {(λZ z=>nomatch z),e _ _ h}
def gj.tup{K:zz8}{b:Hp}{xs:List V}(e:gj H b)(h:dF K H a xs):dF K b a xs:=by
 rcases h with(h|⟨o,h⟩)|h
 .exact .inl (.inl (e.at h (λZ z=>nomatch z)))
 .exact .inl (.inr {o,e.at h (λZ z=>nomatch z)})
 .exact .inr h
def gj.ls{K:zz8}{b:Hp}(e:gj H b)(h:oU K H a vs):oU K b a vs:=by
 rcases h with(h|⟨o,h⟩)|h
 .exact .inl (.inl (e.at h (λZ z=>nomatch z)))
 .exact .inl (.inr {o,e.at h (λZ z=>nomatch z)})
 .exact .inr h
def Ma:HO->Prop
 |.fj _=>True|.ins _ _ _=>True|.dK _=>True|.lst _=>True|_=>False
def Aj(c:Str):Bool:=c=="#d"
def BC(c:Str):Bool:=c=="#l"
def bj(c:Str):Bool:=Aj c||BC c
abbrev lj(o:Ob)(vs:List V):HO:=if Aj o.c then .dK (kz (o.fs.map (·.1)) vs) else if BC o.c then .lst vs else .ins o.C o.dx ((o.fs.map (·.1)).zip vs)
def l6{o:Ob}(h:bj o.c=iv):lj o vs=.ins o.C o.dx ((o.fs.map (·.1)).zip vs):=by unfold bj at h;rw [Bool.or_eq_false_iff] at h;unfold lj;rw [h.1,h.2];rfl
def FC(o:Ob)(vs:List V):Ma (lj o vs):=by
 unfold lj;split
 .exact trivial
 .split
  .exact trivial
  .exact trivial
def qR(o:Ob)(vs us:List V):lj o vs≠.tup us:=by
 unfold lj;split
 .exact nofun
 .split
  .exact nofun
  .exact nofun
def xE(o:Ob)(vs:List V)(ps:Array ix):lj o vs≠.fj ps:=by
 unfold lj;split
 .exact nofun
 .split
  .exact nofun
  .exact nofun
def r9(W:Wd)(G H:Hp):Prop:=∀(n:Nat) (o:Ob),W.ob[n]?=hT o->G o.a=ie/\∃b,H o.a=hT (lj o b)/\ag W G (o.fs.map (·.2)) b
def jb(W:Wd)(G H:Hp):Prop:=∀P q,(P,q)∈W.ts->G P=ie/\∃a,H P=hT (.fj a)/\TriplesOk a.toList/\
 ∀b c,codeAmong b a.toList=hT c->∃d oc e t,c=.ref d/\G d=hT (.bL oc cC)/\oc.data=.fields e/\e[1]?=hT (.str q t)
structure ba(W:Wd)(G H:Hp):Prop where
 t:jb W G H
 o:r9 W G H
theorem r9.same{W:Wd}{b d:Hp}(t:r9 W G H)(g:aw G b)(own:∀a,H a≠ie->(∀vs,H a≠hT (.tup vs))->G a=ie->b a=ie)(h:∀P o,Ma o->H P=hT o->d P=hT o):r9 W b d:=λn o m=>by let(e,vs,c,l):=t n o m;exact{own o.a (by rw [c];exact nofun) (by rw [c];exact λf z=>qR o vs f (zzq z)) e,vs,h _ _ (FC o vs) c,ag.same g _ l}
theorem jb.same{W:Wd}{b d:Hp}(t:jb W G H)(g:aw G b)(own:∀a,H a≠ie->(∀vs,H a≠hT (.tup vs))->G a=ie->b a=ie)(h:∀P ps,H P=hT (.fj ps)->d P=hT (.fj ps)):jb W b d:=λP q m=>by let(n,ps,e,f,i):=t P q m;refine{own P (by rw [e];exact nofun) (by rw [e];exact λZ z=>nomatch z) n,ps,h P ps e,f,λc j y=>?_};let(k,oc,o,t,p,r,s,u):=i c j y;exact{k,oc,o,t,p,g _ _ r,s,u}
def ba.same{W:Wd}{b c:Hp}(t:ba W G H)(g:aw G b)(own:∀a,H a≠ie->(∀vs,H a≠hT (.tup vs))->G a=ie->b a=ie)(h:∀P o,Ma o->H P=hT o->c P=hT o):ba W b c:=
 {t.t.same g own λP d e=>h P (.fj d) trivial e,t.o.same g own h}
structure az(W:Wd)(G H G' H':Hp):Prop where
 g:aw G G'
 h:gj H H'
 sub:aw G' H'
 own:∀a,H a≠ie->(∀vs,H a≠hT (.tup vs))->G a=ie->G' a=ie
 tb:jb W G H->jb W G' H'
theorem az.tab{W:Wd}{d e:Hp}(g:az W G H d e)(t:ba W G H):ba W d e:={g.tb t.t,λn o m=>by let(f,b,c,l):=t.o n o m;exact{g.own o.a (by rw [c];exact nofun) (by rw [c];exact λi z=>qR o b i (zzq z)) f,b,g.h.at c (xE o b),ag.same g.g _ l}}
section
variable{W:Wd}
def az.refl(s:aw G H):az W G H G H:={aw.refl _,gj.refl _,s,λZ Z Z h=>h,id}
def az.trans{d G2 e:Hp}(a:az W G H d H1)(b:az W d H1 G2 e):az W G H G2 e:=
 {a.g.trans b.g,a.h.trans b.h,b.sub,λx c f i=>b.own x (λz=>c (a.h.free z)) (a.h.iq c f) (a.own x c f i),λt=>b.tb (a.tb t)}
def x5{p:iN}{o:HO}(h:∀u,Ma u->H p≠hT u)(P:iN)(u:HO)(k:Ma u)(e:H P=hT u):upd H p o P=hT u:=by rw [ae (λz=>by subst z;exact h u k e)];exact e
theorem az.new{p:iN}{o:HO}(s:aw G H)(h:H p=ie):az W G H (upd G p o) (upd H p o) where
 g:=aS (s.free h)
 h:=.of (aS h)
 sub:=λb u e=>by
  by_cases f:b=p
  .subst f;rw [ak] at e⊢;exact e
  .rw [ae f] at e⊢;exact s _ _ e
 own:=λa c Z d=>by
  have:a≠p:=λz=>by subst z;exact c h
  rw [ae this];exact d
 tb:=λt=>t.same (aS (s.free h)) (λa c Z d=>by
  have:a≠p:=λz=>by subst z;exact c h
  rw [ae this];exact d) (λP i e=>x5 (λu Z z=>by rw [h] at z;cases z) P (.fj i) trivial e)
def az.QP{p:iN}{o:HO}(s:aw G H)(h:H p=ie):az W G H G (upd H p o):=
 {aw.refl _,.of (aS h),s.trans (aS h),λZ Z Z a=>a,λt=>t.same (aw.refl _) (λZ Z Z h=>h) (λP b e=>x5 (λu Z z=>by rw [h] at z;cases z) P (.fj b) trivial e)}
end
abbrev bh(a:j1):List Str:=((a.names.filter λp=>p.2==.free).map (·.1)).reverse
abbrev okN(x:Str):Bool:=!(x==(zu 18))&&!(x=="__classdict__")&&!(x==(zu 27))
abbrev dY(x:Str):Bool:=x.cps.toList.contains 64
def ko{b:Type}{a:b}{p:Prop}(h:(ie:Option b)=hT a):p:=nomatch h
abbrev iW:iO->Option Str
 |.Name x _=>hT x|_=>ie
def dG(h:iW e=hT x):∃p,e=.Name x p:=by
 cases e with
 |Name y p=>cases h;exact{_,rfl}
 |_=>exact ko h
abbrev z9:iO->Option (iO×List iO×List Keyword×Pos)
 |.Call f a k p=>hT (f,a,k,p)|_=>ie
def fu{q:iO×List iO×List Keyword×Pos}(h:z9 e=hT q):e=.Call q.1 q.2.1 q.2.2.1 q.2.2.2:=by
 cases e with
 |Call f a k p=>cases h;rfl
 |_=>exact ko h
abbrev PH:List Arg->Option (List Str)
 |[]=>hT []|[a]=>hT [a.arg]|_=>ie
abbrev sk(p:Arguments):Option (List Str):=if(p.posonlyargs.isEmpty&&p.vararg.isNone&&p.kwonlyargs.isEmpty&&p.kw_defaults.isEmpty&&p.kwarg.isNone&&p.defaults.isEmpty)=ig then PH p.args else ie
def wJ{p:Arguments}{ps:List Str}(h:sk p=hT ps):(p={[],[],ie,[],[],ie,[]}/\ps=[])\/∃a,p={[],[a],ie,[],[],ie,[]}/\ps=[a.arg]:=by
 let(a,b,c,d,e,f,g):=p;unfold sk at h;split at h
 .rename_i q;simp! [zza,List.isEmpty_iff,Option.isNone_iff_eq_none] at q;let(((((q1,q2),q3),i),j),k):=q
  subst q1 q2 q3 i j k;cases b with
  |nil=>cases h;exact .inl ⟨rfl,rfl⟩
  |cons a b=>
   cases b with
   |nil=>cases h;exact .inr ⟨a,rfl,rfl⟩
   |cons _ _=>exact ko h
 .exact ko h
abbrev Ru(ps:List Str)(a:j1):Bool:=
 a.kind==.function&&!a.isCoroutine&&!a.isGenerator&&decide ((ps++bh a).Nodup)&&(a.names.all λy=>decide (y.2≠.cell))&&(ps.all λx=>decide (a.names.lookup x=hT .local))&&((bh a).all λx=>decide (a.names.lookup x=hT .free))
inductive Slot where
 |no|val (p:PV)|own (p:PV)
 deriving Inhabited
noncomputable abbrev Sl:=List Slot
def Own(W:Wd)(H0 G H:Hp):PV->V->Prop
 |.lst xs,v=>∃a vs,v=.ref a/\H a=hT (.lst vs)/\G a=ie/\H0 a=ie/\ag W G xs vs|.bU ks ps,v=>∃a us,v=.ref a/\ks.length=us.length/\H a=hT (.dK (kz ks us))/\G a=ie/\H0 a=ie/\ag W G ps us|_,_=>False
noncomputable abbrev zm:Hp:=λZ=>ie
theorem Own.any{W:Wd}:∀{p:PV} {v:V},Own W H0 G H p v->Own W zm G H p v
 |.lst xs,_,h=>by let(a,vs,e,b,c,d,l):=h;exact⟨a,vs,e,b,c,rfl,l⟩|.bU f g,_,h=>by let(a,vs,e,n,b,c,d,l):=h;exact⟨a,vs,e,n,b,c,rfl,l⟩|.aE,_,h=>h|.bl _,_,h=>h|.int _,_,h=>h|.str _,_,h=>h|.tup _,_,h=>h|.exc _,_,h=>h|.obj _,_,h=>h
abbrev yA(o:Ob):PV:=if Aj o.c then .bU (o.fs.map (·.1)) (o.fs.map (·.2)) else .lst (o.fs.map (·.2))
def Eh{W:Wd}{n:Nat}{o:Ob}(t:r9 W G H)(e:W.ob[n]?=hT o)(d:bj o.c=ig):Own W zm G H (yA o) (.ref o.a):=by
 let(f,g,b,l):=t n o e;unfold lj at b;unfold yA;by_cases hd:Aj o.c=ig
 .rw [if_pos hd] at b⊢;exact{o.a,g,rfl,by have:=l.length;rw [zzl] at this⊢;omega,b,f,rfl,l}
 .rw [if_neg hd] at b⊢;have hl:BC o.c=ig:=by
   unfold bj at d;rw [e6] at d;exact d.resolve_left hd
  rw [if_pos hl] at b;exact⟨o.a,g,rfl,b,f,rfl,l⟩
def Top(W:Wd)(H0 G H:Hp)(p:PV)(v:V):Prop:=Rep W G p v\/Own W H0 G H p v
def Au(W:Wd)(H0 G H:Hp):Slot->Option V->Prop
 |.no,_=>True|.val p,o=>∃v,o=hT v/\Rep W G p v|.own p,o=>∃v,o=hT v/\Own W H0 G H p v
structure SR(W:Wd)(H0:Hp)(env:Sl)(σ:St)(G H:Hp):Prop where
 len:env.length=σ.length
 sub:aw G H
 base:gj H0 H
 slot:∀(i:Nat) (s:Slot),env[i]?=hT s->∃o,σ[i]?=hT o/\Au W H0 G H s o
 apart:∀(i j:Nat) (p q:PV) (a:iN),env[i]?=hT (.own p)->env[j]?=hT (.own q)->σ[i]?=hT (hT (.ref a))->σ[j]?=hT (hT (.ref a))->i=j
 tab:ba W G H
 ib:ba W G H0
section
variable{W:Wd}{G' H':Hp}{env:Sl}
theorem Own.grow(g:az W G H G' H'):∀{p:PV} {v:V},Own W H0 G H p v->Own W H0 G' H' p v
 |.lst xs,_,h=>by let(a,vs,e,b,c,d,l):=h;exact{a,vs,e,g.h.at b (λZ z=>nomatch z),g.own a (by rw [b];exact λz=>by cases z) (by rw [b];exact λZ z=>by cases z) c,d,ag.same g.g xs l}
 |.bU i f,_,h=>by let(a,vs,e,n,b,c,d,l):=h;exact{a,vs,e,n,g.h.at b (λZ z=>nomatch z),g.own a (by rw [b];exact λz=>by cases z) (by rw [b];exact λZ z=>by cases z) c,d,ag.same g.g f l}
 |.aE,_,h=>h|.bl _,_,h=>h|.int _,_,h=>h|.str _,_,h=>h|.tup _,_,h=>h|.exc _,_,h=>h|.obj _,_,h=>h
theorem Au.grow(g:az W G H G' H'):∀{s:Slot} {o:Option V},Au W H0 G H s o->Au W H0 G' H' s o
 |.no,_,_=>trivial|.val p,_,h=>by let(v,e,r):=h;exact{v,e,Rep.same g.g p r}|.own p,_,h=>by let(v,e,r):=h;exact{v,e,r.grow g}
theorem SR.grow(r:SR W H0 env σ G H)(g:az W G H G' H'):SR W H0 env σ G' H':=
 {r.len,g.sub,r.base.trans g.h,λi s e=>by let(o,b,c):=r.slot i s e;exact{o,b,c.grow g},r.apart,g.tab r.tab,r.ib.same g.g (λa b d c=>g.own a (λz=>b (r.base.free z)) (r.base.iq b d) c) λZ Z Z h=>h}
def Top.grow{p:PV}(g:az W G H G' H')(h:Top W H0 G H p v):Top W H0 G' H' p v:=h.elim (λz=>.inl (Rep.same g.g p z)) λz=>.inr (z.grow g)
def Top.lst{xs:List PV}(s:aw G H)(h:Top W H0 G H (.lst xs) v):∃a vs,v=.ref a/\oU W.K H a vs/\ag W G xs vs:=by
 rcases h with h|h
 .simp! [Rep] at h;let(a,vs,e,q,l):=h;exact{a,vs,e,aw.ls s q,l}
 .let(a,vs,e,b,_,_,l):=h;exact{a,vs,e,.inl (.inl b),l}
def Top.tup{xs:List PV}(s:aw G H)(h:Top W H0 G H (.tup xs) v):∃a vs,v=.ref a/\dF W.K H a vs/\ag W G xs vs:=by
 rcases h with h|h
 .simp! [Rep] at h;let(a,vs,e,q,l):=h;exact{a,vs,e,aw.tup s q.sq,l}
 .exact h.elim
def Top.bU{ps:List PV}(s:aw G H)(h:Top W H0 G H (.bU ks ps) v):∃a us,v=.ref a/\ks.length=us.length/\Rd H a (.dK (kz ks us))/\ag W G ps us:=by
 rcases h with h|h
 .simp! [Rep] at h;let(a,o,us,e,n,q,l):=h;exact{a,us,e,n,.inr {o,s _ _ q},l}
 .let(a,b,e,n,q,_,_,l):=h;exact{a,b,e,n,.inl q,l}
def Top.int{i:Int}(h:Top W H0 G H (.int i) v):v=.int i:=h.elim (λz=>by simpa only [Rep] using z) λz=>z.elim
def Top.bl{b:Bool}(h:Top W H0 G H (.bl b) v):v=.bl b:=h.elim (λz=>by simpa only [Rep] using z) λz=>z.elim
def Top.str{b:Str}(h:Top W H0 G H (.str b) v):v=.str b:=h.elim (λz=>by simpa only [Rep] using z) λz=>z.elim
def Top.aE(h:Top W H0 G H .aE v):v=.aE:=h.elim (λz=>by simpa only [Rep] using z) λz=>z.elim
def Rep.i{i:Int}:Rep W G (.int i) (.int i):=by simp! [Rep]
def Rep.b{i:Bool}:Rep W G (.bl i) (.bl i):=by simp! [Rep]
def Rep.s{i:Str}:Rep W G (.str i) (.str i):=by simp! [Rep]
def Rep.n:Rep W G .aE .aE:=by simp! [Rep]
def Rep.l{xs:List PV}(h:oU W.K G a vs)(l:ag W G xs vs):Rep W G (.lst xs) (.ref a):=by simp! [Rep];exact⟨a,vs,rfl,h,l⟩
def Rep.t{xs:List PV}(h:HN W.K G a vs)(l:ag W G xs vs):Rep W G (.tup xs) (.ref a):=by simp! [Rep];exact⟨a,vs,rfl,h,l⟩
end
end Ci
variable{xs ps ys:List Ci.PV}{env:Ci.Sl}{q:Ci.PV}
namespace L2
open PySem.Spec PyProof.Rows
end L2
namespace HT
open PySem.Spec PyProof.Rows
section
variable{E:lq}{s:iM}
def sj{d:iN}{c:ix}{n:Nat}{Q:Int×Int×Nat->iM->Prop}(hs:s.heap.IsSliceOf d .none .none c)(f:IsPart c (hT (-1)))
 (h:Q ((n:Int)-1, -1,n) s):i1 (jj prog w) A (kr.Slice.sliceApplied (.ref d) (pure (n:Int))) Q E s:=by
 let(os,a,g,b):=id hs
 unfold kr.Slice.sliceApplied kr.Slice.sliceFields;refine ar (ar (wpAny_field a b (x:=.none) rfl (ar (wpAny_field a b (x:=.none) rfl (ar (wpAny_field a b (x:=c) rfl (bp ?_)))))));refine ar (iZ f ?_);show i1 _ _ (if((-1:Int)==0)=ig then _ else _) _ _ s;rw [if_neg (by decide)];refine ar (slicePart_none (ar (slicePart_none (ar (bp ?_)))));show i1 _ _ (pure ((n:Int)-1,(-1:Int),kr.Slice.slicePlaces ((n:Int)-1) (-1) (-1))) _ _ s;have e:kr.Slice.slicePlaces ((n:Int)-1) (-1) (-1)=n:=by
  unfold kr.Slice.slicePlaces;rw [if_neg (by decide)];split
  .have:((n:Int)-1 - -1-1)/(- -1)+1=n:=by rw [show(- -1:Int)=1 from rfl,Int.ediv_one];omega
   rw [this];omega
  .omega
 rw [e];exact bp h
theorem sW{b c:Type}{f g:b->Option c}:∀(l:List b),(∀m∈l,f m=g m)->l.filterMap f=l.filterMap g
 |[],_=>rfl|a::l,h=>by rw [List.filterMap_cons,List.filterMap_cons,h a (b4 ..),sW l λm hm=>h m (bw _ hm)]
def CN(xs:Array ix):((List.range xs.size).filterMap λ(m:Nat)=>xs[((xs.size:Int)-1+(m:Int)*(-1)).toNat]?).toArray=xs.toList.reverse.toArray:=by
 congr 1
 refine List.ext_getElem? λi=>?_
 have a:∀k,k<=xs.size->(List.range k).filterMap (λ(m:Nat)=>xs[((xs.size:Int)-1+(m:Int)*(-1)).toNat]?)=(List.range k).filterMap λm=>xs.toList.reverse[m]?:=λk hk=>by
  refine sW _ λm hm=>?_;have:=List.mem_range.1 hm;rw [List.getElem?_reverse (by simpa using (by omega:m<xs.size)),Array.getElem?_toList,d1]
  congr 1
  omega
 rw [a _ (a8 _)];have:∀l:List ix,(List.range l.length).filterMap (λm=>l[m]?)=l:=λl=>by have:=PySem.W.krv_all l.toArray;simpa using this
 have:=this xs.toList.reverse;rw [List.length_reverse,d1] at this;rw [this]
def jy{t b:iN}{d:ix}{Q:lq}(a:IsTup s.heap t items)(hs:s.heap.IsSliceOf b .none .none d)(f:IsPart d (hT (-1)))
 (h:Q (.ref (zz9 s)) {s with heap:=s.heap.push {cls:=.type "tuple",data:=.seq items.toList.reverse.toArray}})
 (hsz:items.size<=j3):i1 (jj prog w) A (getItem (.ref t) (.ref b)) Q E s:=by
 have e:sizeOk (.seq items.toList.reverse.toArray):=by show items.toList.reverse.toArray.size<=j3;rw [a5,List.length_reverse,d1];exact hsz
 let(os,c,g,i):=id hs;have j:s.TypeIs (.ref b) "slice":=⟨os,c,g⟩;unfold getItem
 try with_reducible refine wpAny_holding ?_
 first|refine ar (bp ?_)|skip
 refine ar (wpAny_sequenceKey a.typeIs (by decide) ?_);refine ar (wpAny_callSpecial?_slot (name:=Str.ofString "__getitem__") a.typeIs PyProof.Rows.slot_tuple_getitem
  (wpAny_call_entry PyProof.Rows.slot_tuple_getitem a.typeIs entry_tuple_getitem ?_ (args_tuple_getitem _ _)))
 show i1 _ _ (kr.Tuple.tupleItemsOf (.ref t)>>=_) _ _ s;refine ar (tupleItemsOf_ a ?_);refine ar (wpAny_typeOf j ?_);rw [if_pos (by decide)];refine ar (sj hs f ?_);have k:¬((((items.size:Int)-1)==0&&(-1:Int)==1&&items.size==items.size)=ig):=by intro q;rw [zza,zza] at q;exact absurd q.1.2 (by decide)
 show i1 _ _ (if(((items.size:Int)-1)==0&&(-1:Int)==1&&items.size==items.size)=ig then _ else _) _ _ s;rw [if_neg k,CN]
 first
  |exact ar (m:=kr.Tuple.tupleExact _) (wpAny_newObj_type (bp ⟨_,rfl,bp h⟩) e)
  |exact ar (m:=kr.Tuple.tupleExact _) (wpAny_newObj_type (ar (bp (bp ⟨_,rfl,bp h⟩))) e)
end
end HT
namespace L2
open PySem.Spec PyProof.Rows
abbrev rj(z:Str):Str:=⟨z.cps.toList.reverse.toArray⟩
def F8(n:Nat):kr.Str.strSliceIndices ie ie (-1) n=(List.range n).map λk=>n-1-k:=by show sliceRange ((n:Int)-1) (-1) (-1)=_;exact PySem.W.krv_sliceRange n
def qd(r:Vals vs us):Vals vs.reverse us.reverse:=by
 induction r with
 |nil=>exact .nil|cons h t a=>rw [List.reverse_cons,List.reverse_cons];exact a.append (.cons h .nil)
section
variable{st:iO}{ts:TE}{p2:Pos}
def DS(X:Cx)(r:V->Hp->VK->Prop):Prop:=
 ∀(a:lu) (s:iM) (b:St) (H:Hp) (x:V) (v c:ix) (d:iN) (Q:VK),Inv X a b H s->RelV x v->s.heap.IsSliceOf d .none .none c->IsPart c (hT (-1))->r x H Q->
  ∃T f,typeLookup (.type T) "__getitem__"=pure (hT (.builtin f))/\s.TypeIs v T/\zx7 X (getItem v (.ref d)) (EP X a b Q) X.xe s
def DS.or{r a:V->Hp->VK->Prop}(h:DS X r)(h':DS X a):DS X (λx H Q=>r x H Q\/a x H Q):=by
 intro b s c H x v d f Q I g hs i q;rcases q with q|q
 .exact h b s c H x v d f Q I g hs i q
 .exact h' b s c H x v d f Q I g hs i q
def KW:DS X (λx H Q=>∃a xs,x=.ref a/\dF X.K H a xs/\∀p,H p=ie->Q (.ref p) (upd H p (.tup xs.reverse))):=by
 intro m s t H x v u w Q I g hs i h;let(a,xs,rfl,j,q):=h;cases g;let(k,r,d,f):=I.tuple j;have c:k.toArray.size=xs.length:=by rw [a5];exact r.length.symm
 refine{"tuple",_,PyProof.Rows.slot_tuple_getitem.lookup,d.typeIs,HT.jy d hs i ?_ (by rw [c];exact f)};refine{.ref (zz9 s),_,I.laid (t':=s.toks) (o:=.tup xs.reverse) (λb ob q=>aT _ q) (a8 _) ?_,rfl,q _ (I.aJ.fresh (a8 _))};exact{by rw [List.length_reverse];exact f,_,qd r,IsTup.new _ _}
def KS:DS X (λx H Q=>∃a xs,x=.ref a/\eW X.K H a xs/\∀p,H p=ie->Q (.ref p) (upd H p (.lst xs.reverse))):=by intro j s k H x v m t Q I f hs g h;let(a,xs,rfl,i,q):=h;cases f;let(u,r,c,d):=I.list i;refine{"list",_,PySem.F.slot_list_getitem.lookup,{_,c.isList.choose_spec.1,c.isList.choose_spec.2.1},?_};refine wpAny_getItem_list_slice c.isList hs .none .none g (by decide) ?_ (by rw [a5,<-r.length];exact d);rw [PySem.W.krv_pick];refine{.ref (zz9 s),_,I.laid (t':=s.toks) (o:=.lst xs.reverse) (λb ob q=>aT _ q) (a8 _) ?_,rfl,q _ (I.aJ.fresh (a8 _))};exact{by rw [List.length_reverse];exact d,_,0,qd r,dI _ rfl}
def KU:DS X (λx H Q=>∃z,x=.str z/\z.length<=j3/\Q (.str (rj z)) H):=by
 intro f s g H x v j k Q I b hs c h;let(z,rfl,d,q):=h;let(t,rfl):=b
 refine{"str",_,F.slot_str_getitem.lookup,typeIs_str _ _ _,?_};cases c with
 |int i a=>
  refine wpAny_getItem_str_slice (l:=ie) (u:=ie) (st:=hT (-1,a)) hs rfl ?_;have e:sliceMade z t ie ie (hT (-1,a))=.str (rj z):=by
   unfold sliceMade;rw [if_neg (λq=>by rw [zza] at q;exact absurd q.1 (show¬((-1:Int)==1)=ig by decide))];unfold slicePicked rj
   congr 2
   show((kr.Str.strSliceIndices ie ie (-1) z.length).filterMap (z.cps[·]?)).toArray=_;rw [F8,PySem.W.krv_range,List.filterMap_reverse]
   congr 2
   have:=PySem.W.krv_all z.cps;exact this
  rw [e];refine{?_,{.str _,H,I.tok _,{_,rfl},q}};show(rj z).cps.size<=j3;have:(rj z).cps.size=z.length:=by simp [rj,Str.length]
  rw [this];exact d
abbrev V7(r:V->Hp->VK->Prop)(te ts:TE):TE:=λa H Q=>te a H λx b=>ts a b λk c=>k=.int (-1)/\r x c Q
def Kz{r:V->Hp->VK->Prop}(i:DS X r)(he:PE X e te)(hs:PE X st ts):PE X (.Subscript e (.Slice ie ie (hT st) p2) pos) (V7 r te ts):=by
 intro c s d H Q I h;refine Subscript_ (bb (he c s d H _ I h) λv j f=>?_);let(x,m,o,p,q1):=f;refine wpAny_Slice ?_;rw [evalPart_none];refine bp (bp ?_);rw [evalPart_some];refine bb (hs c j d m _ o q1) λu a ⟨k,g,y,r3,q3⟩=>?_;let(rfl,q3):=q3;let(t,rfl):=r3
 have z:Inv X c d g {a with heap:=a.heap.push {cls:=.type "slice",data:=.fields #[.none,.none,.int (-1) t]}}:=y.kept (t':=a.toks) λb ob q=>aT _ q
 let(T,E,B,C,D):=i c {a with heap:=a.heap.push {cls:=.type "slice",data:=.fields #[.none,.none,.int (-1) t]}} d g x v (.int (-1) t) (zz9 a) Q z p (j2.IsSliceOf.new ..) (.int _ _) q3
 show zx7 X (subscriptTail e (.Slice ie ie (hT st) p2) v (.ref (zz9 a))) (EP X c d Q) X.xe {a with heap:=a.heap.push {cls:=.type "slice",data:=.fields #[.none,.none,.int (-1) t]}};exact tail_any (ops:=[v,.ref (zz9 a)]) C B D (by with_unfolding_all rfl)
end
end L2
namespace L2
open PySem.Spec PyProof.Rows PySem.W
end L2
namespace Ci
open L2
inductive Res(α:Type) where
 |ok (a:α)|exc (c:Str)|bad
abbrev Res.bind{b d:Type}:Res b->(b->Res d)->Res d
 |.ok a,f=>f a|.exc c,_=>.exc c|.bad,_=>.bad
noncomputable instance:Monad Res where
 pure:=.ok
 bind:=Res.bind
def Res.aC{d e:Type}{r:Res d}{f:d->Res e}{b:e}(h:r.bind f=.ok b):∃a,r=.ok a/\f a=.ok b:=by
 cases r with
 |ok a=>exact⟨a,rfl,h⟩|exc c=>cases h
 |bad=>cases h
def Res.dt{b d:Type}{r:Res b}{f:b->Res d}(h:r.bind f=.exc c):r=.exc c\/∃a,r=.ok a/\f a=.exc c:=by
 cases r with
 |ok a=>exact .inr ⟨a,rfl,h⟩|exc e=>cases h;exact .inl rfl
 |bad=>cases h
abbrev Res.of{b:Type}:Option b->Res b
 |some a=>.ok a|none=>.bad
abbrev Res.well{b:Type}:Res b->Res b
 |.ok a=>.ok a|_=>.bad
noncomputable abbrev hZ:Nat:=1000000
abbrev eqs(f:PV->PV->Bool):List PV->List PV->Bool
 |[],[]=>ig|x::xs,y::ys=>f x y&&eqs f xs ys|_,_=>iv
abbrev rR:Nat->PV->PV->Bool
 |_,.aE,.aE=>ig|_,.bl a,.bl b=>a==b|_,.bl a,.int i=>(if a then 1 else 0)==i
 |_,.int i,.bl a=>i==(if a then 1 else 0)
 |_,.int i,.int j=>i==j|_,.str x,.str y=>x==y|n+1,.tup xs,.tup ys=>eqs (rR n) xs ys|n+1,.lst xs,.lst ys=>eqs (rR n) xs ys|_,_,_=>iv
abbrev plain:Nat->PV->Bool
 |_,.aE=>ig|_,.bl _=>ig|_,.int _=>ig|_,.str _=>ig|n+1,.tup xs=>xs.all (plain n)|n+1,.lst xs=>xs.all (plain n)|_,_=>iv
noncomputable abbrev DP:Nat:=9
noncomputable abbrev eqv:PV->PV->Bool:=rR DP
noncomputable abbrev l8:PV->Bool:=plain DP
inductive HE where|add|sub|mul|mod|fdiv
inductive rZ where|eq|ne|lt|le|gt|ge|is|Hh|LR|JZ
abbrev bO(i:Int):Bool:=decide (-(2^64)<i)&&decide (i<2^64)
abbrev binOp:HE->PV->PV->Res PV
 |.add,.int i,.int j=>.ok (.int (i+j))|.add,.str x,.str y=>if x.length+y.length<=hZ then .ok (.str (x++y)) else .bad
 |.add,.lst x,.lst y=>if x.length+y.length<=hZ then .ok (.lst (x++y)) else .bad
 |.add,.tup x,.tup y=>if x.length+y.length<=hZ then .ok (.tup (x++y)) else .bad
 |.sub,.int i,.int j=>.ok (.int (i-j))|.mul,.int i,.int j=>if bO i||bO j then .ok (.int (i*j)) else .bad
 |.mul,.lst x,.int j=>if 0<=j/\j<1000/\x.length<1000 then .ok (.lst (k6 j.toNat x).flatten) else .bad
 |.mul,.tup x,.int j=>if 1<=j/\j<1000/\0<x.length/\x.length<1000 then .ok (.tup (k6 j.toNat x).flatten) else .bad
 |.mul,.str x,.int j=>if 1<=j/\j<1000/\0<x.length/\x.length<1000 then .ok (.str (zL x j.toNat)) else .bad
 |.mod,.int i,.int j=>if 0<j then .ok (.int (i%j)) else .bad
 |.fdiv,.int i,.int j=>if 0<j/\j<1073741824 then .ok (.int (i/j)) else .bad
 |_,_,_=>.bad
abbrev intsOf:List PV->Option (List Int)
 |[]=>hT []|.int i::r=>(intsOf r).map (i::·)|_=>ie
abbrev cm{a:Type}:List Str->List a->Str->Option a
 |b::ks,v::vs,k=>if b=k then hT v else cm ks vs k
 |_,_,_=>ie
abbrev sZ(ks:List Str)(k:Str):Bool:=ks.any λa=>decide (a=k)
abbrev il(ks:List Str)(k:Str):List Str:=if sZ ks k then ks else ks++[k]
abbrev dU{a:Type}(ks:List Str)(vs:List a)(k:Str)(p:a):List a:=if sZ ks k then List.zipWith (λb v=>if b=k then p else v) ks vs else vs++[p]
abbrev iK(ks:List Str)(k:Str):List Str:=ks.filter λa=>decide (a≠k)
abbrev cj{a:Type}:List Str->List a->Str->List a
 |b::ks,v::vs,k=>if b=k then cj ks vs k else v::cj ks vs k
 |_,_,_=>[]
def qL(k:Str):PV:=.str k
abbrev fJ:PV->Option Str
 |.str z=>hT z|_=>ie
abbrev F0:List PV->Option (List (Str×PV))
 |[]=>hT []|.tup [x,y]::r=>(fJ x).bind λk=>(F0 r).map ((k,y)::·)|_=>ie
abbrev kJ{a:Type}:List (Str×a)->List Str->List a->List Str×List a
 |[],ks,vs=>(ks,vs)|p::r,ks,vs=>kJ r (il ks p.1) (dU ks vs p.1 p.2)
abbrev Fe(x:PV)(ys:List PV):Bool:=ys.any λy=>eqv y x
abbrev qU(a b:PV):Res PV:=if l8 a&&l8 b then .ok (.bl (eqv a b)) else .bad
abbrev vM(a b:PV):Res PV:=if l8 a&&l8 b then .ok (.bl (!eqv a b)) else .bad
abbrev vL:PV->PV->Res PV
 |.int i,.int j=>.ok (.bl (decide (i<j)))|.tup xs,.tup ys=>(Res.of (intsOf xs)).bind λns=>(Res.of (intsOf ys)).bind λms=>.ok (.bl (HT.lexLt ns ms))|_,_=>.bad
abbrev vK:PV->PV->Res PV
 |.int i,.int j=>.ok (.bl (decide (i<=j)))|_,_=>.bad
abbrev Cm:PV->PV->Res PV
 |.int i,.int j=>.ok (.bl (decide (j<i)))|.str i,.str j=>.ok (.bl (decide (j.cps.toList<i.cps.toList)))|_,_=>.bad
abbrev vJ:PV->PV->Res PV
 |.int i,.int j=>.ok (.bl (decide (j<=i)))|_,_=>.bad
abbrev xq:PV->Bool
 |.aE=>ig|_=>iv
abbrev Cn:PV->PV->Res PV
 |a,.aE=>.ok (.bl (xq a))|.bl a,.bl b=>.ok (.bl (a==b))|_,_=>.bad
abbrev zy:PV->PV->Res PV
 |a,.lst ys=>if l8 a&&ys.all l8 then .ok (.bl (Fe a ys)) else .bad
 |a,.tup ys=>if l8 a&&ys.all l8 then .ok (.bl (Fe a ys)) else .bad
 |.str i,.str j=>.ok (.bl (!(kr.Str.occurrences j i 0 j.length 1).isEmpty))|a,.bU ks _=>(Res.of (fJ a)).bind λk=>.ok (.bl (sZ ks k))|_,_=>.bad
abbrev pV:PV->PV->Res PV
 |a,.lst ys=>if l8 a&&ys.all l8 then .ok (.bl (!Fe a ys)) else .bad
 |a,.tup ys=>if l8 a&&ys.all l8 then .ok (.bl (!Fe a ys)) else .bad
 |.str i,.str j=>.ok (.bl (!(!(kr.Str.occurrences j i 0 j.length 1).isEmpty)))|a,.bU ks _=>(Res.of (fJ a)).bind λk=>.ok (.bl (!sZ ks k))|_,_=>.bad
abbrev E1(a:List Str)(vs':List PV):List Str->List PV->Bool
 |k::ks,n::ns=>match cm a vs' k with
  |some m=>eqv n m&&E1 a vs' ks ns|none=>iv
 |_,_=>ig
abbrev ud:PV->PV->Res PV
 |.bU ks vs,.bU a vs'=>if vs.all l8&&vs'.all l8 then .ok (.bl (!(ks.length==a.length&&E1 a vs' ks vs))) else .bad
 |_,_=>.bad
abbrev cX:rZ->PV->PV->Res PV
 |.eq=>qU|.ne=>vM|.lt=>vL|.le=>vK|.gt=>Cm|.ge=>vJ|.is=>Cn|.Hh=>zy|.LR=>pV|.JZ=>ud
abbrev dC:PV->PV->Res PV
 |.lst xs,.int i=>Res.of (wL xs i)|.tup xs,.int i=>Res.of (wL xs i)|.str z,.int i=>if z.length<=hZ then(Res.of (wL z.cps.toList i)).bind λc=>.ok (.str {#[c]}) else .bad
 |.bU ks vs,y=>(Res.of (fJ y)).bind λk=>Res.of (cm ks vs k)|_,_=>.bad
abbrev yB{a:Type}(xs:List a)(b c:Option Int):List a:=(xs.drop (HT.cq xs.length 0 b)).take (HT.cq xs.length xs.length c-HT.cq xs.length 0 b)
abbrev j9:PV->Option Int->Option Int->Res PV
 |.lst xs,lo,a=>.ok (.lst (yB xs lo a))|.tup xs,lo,a=>.ok (.tup (yB xs lo a))|.str z,lo,a=>if z.length<=hZ then .ok (.str (Txt.slice z lo a)) else .bad
 |_,_,_=>.bad
inductive B where|len|max2|min2|int|str|tuple|all|sorted
abbrev boolsOf:List PV->Option (List Bool)
 |[]=>hT []|.bl b::r=>(boolsOf r).map (b::·)|_=>ie
abbrev chars(z:Str):List PV:=z.cps.toList.map λc=>.str {#[c]}
abbrev AB:List PV->Res PV
 |[.lst xs]=>.ok (.int xs.length)|[.tup xs]=>.ok (.int xs.length)|[.str z]=>if z.length<=hZ then .ok (.int z.length) else .bad
 |[.bU ks _]=>.ok (.int ks.length)|_=>.bad
abbrev AD:List PV->Res PV
 |[.int i,.int j]=>.ok (.int (if j>i then j else i))
 |_=>.bad
abbrev AE:List PV->Res PV
 |[.int i,.int j]=>.ok (.int (if j<i then j else i))
 |_=>.bad
abbrev AA:List PV->Res PV
 |[.str z]=>if z.length<=640 then(Res.of (PySem.intText? z)).bind λn=>.ok (.int n) else .bad
 |[.int i]=>.ok (.int i)|[.bl b]=>.ok (.int (if b then 1 else 0))
 |_=>.bad
abbrev AF:List PV->Res PV
 |[.int i]=>if i.natAbs.log2<1920 then .ok (.str (toString i)) else .bad
 |_=>.bad
abbrev mz:List PV->Res PV
 |[.lst xs]=>.ok (.tup xs)|[.tup xs]=>.ok (.tup xs)|_=>.bad
abbrev Az:List PV->Res PV
 |[.lst xs]=>(Res.of (boolsOf xs)).bind λbs=>.ok (.bl (bs.all id))|_=>.bad
abbrev codes(z:Str):List Int:=z.cps.toList.map λ(c:Nat)=>(c:Int)
abbrev jd:List PV->Res PV
 |[.bU ks _]=>if ks.length<64 then .ok (.lst (wb .aE (ks.map qL) (ks.map codes))) else .bad
 |_=>.bad
abbrev jc:List PV->Res PV
 |[.lst xs]=>(Res.of (F0 xs)).bind λps=>.ok (.bU (kJ ps [] []).1 (kJ ps [] []).2)|_=>.bad
abbrev kR:B->List PV->Res PV
 |.len=>AB|.max2=>AD|.min2=>AE|.int=>AA|.str=>AF|.tuple=>mz|.all=>Az|.sorted=>jd
inductive Ty where|int|bool|str|tuple
abbrev vq:Ty->PV->Bool
 |.int,.int _=>ig|.int,.bl _=>ig|.bool,.bl _=>ig|.str,.str _=>ig|.tuple,.tup _=>ig|_,_=>iv
abbrev GD(t:Ty):PV->Res PV
 |.exc _=>.bad|.bU _ _=>.bad|.obj _=>.bad|p=>.ok (.bl (vq t p))
abbrev strsOf:List PV->Option (List Str)
 |[]=>hT []|.str z::r=>(strsOf r).map (z::·)|_=>ie
inductive M where|iG|index|join
abbrev tX:List PV->Res PV
 |[.str z,.lst xs]=>(Res.of (strsOf xs)).bind λys=>if z.length<=16/\(ys.map (·.length)).sum+ys.length<=hZ then .ok (.str (Txt.join z ys)) else .bad
 |[.str z,.tup xs]=>(Res.of (strsOf xs)).bind λys=>if z.length<=16/\(ys.map (·.length)).sum+ys.length<=hZ then .ok (.str (Txt.join z ys)) else .bad
 |_=>.bad
abbrev jW:List PV->Res PV
 |[.lst xs,v]=>if l8 v&&xs.all l8 then .ok (.int ((xs.countP λy=>eqv y v:Nat):Int)) else .bad
 |_=>.bad
abbrev ni:List PV->Res PV
 |[.lst xs,v]=>if l8 v&&xs.all l8&&decide (xs.length<1000) then(match xs.findIdx? λy=>eqv y v with|some j=>.ok (.int (j:Nat))|none=>.bad) else .bad
 |_=>.bad
abbrev B3:M->List PV->Res PV
 |.join=>tX|.iG=>jW|.index=>ni
abbrev BV:M->PV->Bool
 |.join,.str _=>ig|.iG,.lst _=>ig|.index,.lst _=>ig|_,_=>iv
inductive Tg where
 |one (i:Nat)|two (i j:Nat)
 |four (i j k l:Nat)
mutual
inductive E where
 |var (i:Nat)|HC (i:Nat)
 |cst (p:PV)
 |glob (g:Str) (p:PV)
 |call (f:Str) (as:Es)
 |blt (b:B) (as:Es)
 |ty (t:Ty) (a:E)
 |xt (c:Str) (a:E)
 |dB (m:M) (o:E) (as:Es)
 |bin (o:HE) (a b:E)
 |cmp (o:rZ) (a b:E)
 |ch (o1 o2:rZ) (a b c:E)
 |not (a:E)
 |neg (a:E)
 |and (a b:E)|or (a b:E)
 |ite (c a b:E)
 |tup (as:Es)|lst (as:Es)
 |sub (a b:E)
 |slice (a:E) (lo hi:Oe)
 |comp (k:Nat) (aM:List Nat) (tg:Tg) (it:I) (elt:E)
 |fw (k:Nat) (aM:List Nat) (tg:Tg) (it:I) (c elt:E)
 |get (a k:E)
 |rev (a:E)
 |BS (a:E)
 |fld (i:Nat) (f:Str)
 |con (a:E)
 |Lx
inductive Es where
 |nil|cons (e:E) (es:Es)
inductive Oe where
 |no|some (e:E)
inductive I where
 |seq (e:E)|xS (e:E)|zM (a b:E)|enum (e:E)|zip (as:Es)
end
mutual
inductive S where
 |expr (e:E)
 |set (i:Nat) (e:E)
 |Al (tg:Tg) (e:E)
 |own (i:Nat) (e:E)
 |bL (i:Nat)
 |app (i:Nat) (e:E)
 |ve (i:Nat) (e:E)
 |put (i:Nat) (k e:E)
 |ret (e:E)
 |ite (c:E) (a b:Ss)
 |gG (tg:Tg) (it:I) (b:Ss)
 |raise (c:Str) (m:Str)
 |kF (i:Nat)
 |vP (i:Nat) (e:E)
 |par (i j:Nat) (as:Es)
inductive Ss where
 |nil|cons (s:S) (ss:Ss)
end
noncomputable abbrev aW:=Str->List PV->Res PV
def cg(f:Str):Str:="@"++f
noncomputable abbrev d8:Str:="@@"
abbrev p6:Option Slot->Res PV
 |some (.val p)=>.ok p|_=>.bad
abbrev Dh:Option Slot->Res PV
 |some (.val p)=>.ok p|some (.own p)=>.ok p|_=>.bad
abbrev Tg.put:Tg->PV->Sl->Res Sl
 |.one i,p,env=>.ok (env.set i (.val p))|.two i j,.tup [a,b],env=>.ok ((env.set i (.val a)).set j (.val b))|.four i j k l,.tup [a,b,c,d],env=>.ok ((((env.set i (.val a)).set j (.val b)).set k (.val c)).set l (.val d))|_,_,_=>.bad
abbrev fv(env:Sl)(a:List Nat):Sl:=a.map λi=>env.getD i .no
abbrev itemsOf:PV->Res (List PV)
 |.lst xs=>.ok xs|.tup xs=>.ok xs|.str z=>.ok (chars z)|_=>.bad
abbrev Dd(e:E)(p:PV):Res (List PV):=match p,e with
 |.bU _ _,.HC _=>.bad|.bU _ _,.con _=>.bad|.bU a _,_=>.ok (a.map qL)|p,_=>itemsOf p
abbrev uw(a:Int)(n:Nat):List PV:=(List.range n).map λi=>.int (a+(i:Nat))
abbrev bT(i:Int):Bool:=decide (-(2^62)<=i)&&decide (i<2^62)
abbrev NY:PV->Option (List PV)
 |.lst xs=>hT xs|.tup xs=>hT xs|_=>ie
abbrev p5:List PV->Option (List (List PV))
 |[]=>hT []|p::r=>(NY p).bind λxs=>(p5 r).map (xs::·)
abbrev oC:List (List PV)->Nat
 |[]=>0|[xs]=>xs.length|xs::r=>min xs.length (oC r)
abbrev zZ(xss:List (List PV)):List PV:=(List.range (oC xss)).map λi=>.tup (xss.map λxs=>xs.getD i .aE)
abbrev gD(n:Nat):List PV->List PV
 |[]=>[]|x::xs=>.tup [.int (n:Nat),x]::gD (n+1) xs
abbrev oc:Option PV->List PV->List PV
 |some y,ys=>y::ys|none,ys=>ys
abbrev bG(f:PV->Res (Option PV)):List PV->Res (List PV)
 |[]=>.ok []|x::xs=>(f x).well.bind λo=>(bG f xs).bind λys=>.ok (oc o ys)
abbrev Aw{a:Type}(p:PV)(f:Bool->Res a):Res a:=match p with
 |.bl b=>f b|_=>.bad
section
variable(F:aW)
mutual
noncomputable def aG:E->Sl->Res PV
 |.var i,env=>p6 env[i]?|.HC i,env=>Dh env[i]?|.cst p,_=>.ok p|.glob _ p,_=>.ok p|.call f as,env=>(dv as env).bind λps=>F f ps|.blt b as,env=>(dv as env).bind λps=>kR b ps|.ty t a,env=>(aG a env).bind λp=>GD t p|.xt c a,env=>(aG a env).bind λp=>match p with
  |.exc d=>.ok (.bl (if c==(zu 1) then ig else(c==d||c==(zu 7))))
  |_=>.bad
 |.dB m o as,env=>(aG o env).bind λp=>if BV m p then(dv as env).bind λps=>B3 m (p::ps) else .bad
 |.bin o a b,env=>(aG a env).bind λx=>(aG b env).bind λy=>binOp o x y|.cmp o a b,env=>(aG a env).bind λx=>(aG b env).bind λy=>cX o x y|.ch o1 o2 a b c,env=>(aG a env).bind λx=>(aG b env).bind λy=>(cX o1 x y).bind λt=>Aw t λt=>if t then(aG c env).bind λz=>cX o2 y z else .ok (.bl iv)
 |.not a,env=>(aG a env).bind λx=>Aw x λb=>.ok (.bl (!b))|.neg a,env=>(aG a env).bind λx=>match x with|.int i=>.ok (.int (-i))|_=>.bad
 |.and a b,env=>(aG a env).bind λx=>Aw x λt=>if t then aG b env else .ok (.bl iv)
 |.or a b,env=>(aG a env).bind λx=>Aw x λt=>if t then .ok (.bl ig) else aG b env
 |.ite c a b,env=>(aG c env).bind λx=>Aw x λt=>if t then aG a env else aG b env
 |.tup as,env=>(dv as env).bind λps=>.ok (.tup ps)|.lst as,env=>(dv as env).bind λps=>.ok (.lst ps)|.sub a b,env=>(aG a env).bind λx=>(aG b env).bind λy=>dC x y|.slice a lo r,env=>(aG a env).bind λx=>(Lz lo env).bind λl=>(Lz r env).bind λh=>j9 x l h|.comp k g j it elt,env=>(yJ it env).bind λxs=>if xs.length<hZ then(bG (λx=>(j.put x (k6 k .no++fv env g)).bind λe=>(aG elt e).bind λy=>.ok (hT y)) xs).bind λys=>.ok (.lst ys) else .bad
 |.fw k g j it c elt,env=>(yJ it env).bind λxs=>if xs.length<hZ then(bG (λx=>(j.put x (k6 k .no++fv env g)).bind λe=>(aG c e).bind λt=>Aw t λt=>if t then(aG elt e).bind λy=>.ok (hT y) else .ok ie) xs).bind λys=>.ok (.lst ys) else .bad
 |.get a k,env=>(aG a env).bind λp=>match p with|.bU ks vs=>(aG k env).bind λq=>(Res.of (fJ q)).bind λz=>.ok ((cm ks vs z).getD .aE)|_=>.bad
 |.rev a,env=>(aG a env).bind λp=>match p with|.str z=>(if z.length<=hZ then .ok (.str (rj z)) else .bad)|.tup xs=>.ok (.tup xs.reverse)|.lst xs=>.ok (.lst xs.reverse)|_=>.bad
 |.fld i f,env=>(p6 env[i]?).bind λp=>F (cg f) [p]|.con a,env=>(aG a env).bind λp=>F d8 [p]|.Lx,_=>.ok (.bU [] [])|.BS a,env=>(aG a env).bind λp=>match p with|.tup xs=>.ok (.lst xs.reverse)|_=>.bad
noncomputable def dv:Es->Sl->Res (List PV)
 |.nil,_=>.ok []|.cons e a,env=>(aG e env).bind λp=>(dv a env).bind λps=>.ok (p::ps)
noncomputable def Lz:Oe->Sl->Res (Option Int)
 |.no,_=>.ok ie|.some e,env=>(aG e env).bind λp=>match p with|.int i=>.ok (hT i)|_=>.bad
noncomputable def yJ:I->Sl->Res (List PV)
 |.seq e,env=>(aG e env).bind (Dd e)|.xS e,env=>(aG e env).bind λp=>match p with|.int j=>if bT j then .ok (uw 0 j.toNat) else .bad|_=>.bad
 |.zM a b,env=>(aG a env).bind λp=>(aG b env).bind λq=>match p,q with|.int i,.int j=>if bT i&&bT j then .ok (uw i (j-i).toNat) else .bad|_,_=>.bad
 |.enum e,env=>(aG e env).bind λp=>(itemsOf p).bind λxs=>.ok (gD 0 xs)|.zip as,env=>(dv as env).bind λps=>(Res.of (p5 ps)).bind λxss=>.ok (zZ xss)
end
end
inductive Fl where
 |nx (env:Sl)|bk (env:Sl)|ct (env:Sl)|rt (p:PV)
abbrev Fl.seq(f:Fl)(k:Sl->Res Fl):Res Fl:=match f with
 |.nx env=>k env|f=>.ok f
abbrev forL(body:PV->Sl->Res Fl):List PV->Sl->Res Fl
 |[],env=>.ok (.nx env)|x::xs,env=>(body x env).bind λf=>match f with
  |.nx a=>forL body xs a|.ct a=>forL body xs a|.bk a=>.ok (.nx a)|.rt p=>.ok (.rt p)
abbrev Slot.bH:Slot->Bool
 |.own _=>ig|_=>iv
abbrev qE:Slot->Slot
 |.own p=>.val p|s=>s
section
variable(F:aW)
mutual
noncomputable def mR:S->Sl->Res Fl
 |.expr e,env=>(aG F e env).bind λZ=>.ok (.nx env)|.set i e,env=>(aG F e env).bind λp=>.ok (.nx (env.set i (.val p)))|.Al d e,env=>(aG F e env).bind λp=>(d.put p env).bind λf=>.ok (.nx f)|.own i e,env=>(aG F e env).bind λp=>.ok (.nx (env.set i (.own p)))|.bL i,env=>.ok (.nx (env.modify i qE))|.app i e,env=>match env[i]? with
  |some (.own (.lst xs))=>(aG F e env).bind λp=>if xs.length<hZ then .ok (.nx (env.set i (.own (.lst (xs++[p]))))) else .bad
  |_=>.bad
 |.ve i e,env=>match env[i]? with
  |some (.own (.lst xs))=>(aG F e env).bind λp=>match p with
   |.lst ys=>if xs.length+ys.length<=hZ then .ok (.nx (env.set i (.own (.lst (xs++ys))))) else .bad
   |_=>.bad
  |_=>.bad
 |.put i k e,env=>(aG F e env).bind λp=>match env[i]? with
  |some (.own (.bU ks vs))=>(aG F k env).bind λkp=>match fJ kp with
   |some g=>if ks.length<hZ then .ok (.nx (env.set i (.own (.bU (il ks g) (dU ks vs g p))))) else .bad
   |none=>.bad
  |_=>.bad
 |.ret e,env=>(aG F e env).bind λp=>.ok (.rt p)|.ite c a b,env=>(aG F c env).bind λp=>Aw p λt=>if t then f6 a env else f6 b env
 |.gG d it b,env=>(yJ F it env).bind λxs=>forL (λx env=>(d.put x env).bind λf=>f6 b f) xs env|.raise c _,_=>.exc c|.vP i e,env=>(aG F e env).bind λp=>(jc [p]).bind λq=>.ok (.nx (env.set i (.own q)))|.kF i,env=>.ok (.nx (env.set i (.own (.bU [] []))))|.par i j as,env=>(dv F as env).bind λps=>match ps with
  |[p,q]=>.ok (.nx ((env.set i (.val p)).set j (.val q)))|_=>.bad
noncomputable def f6:Ss->Sl->Res Fl
 |.nil,env=>.ok (.nx env)|.cons s ss,env=>(mR s env).bind λf=>f.seq (f6 ss)
end
end
structure Def where
 N:List Str
 np:Nat
 body:Ss
 sD:Option (Str×List Nat):=ie
abbrev kO(d:Def)(as:List PV):Sl:=as.map .val++k6 (d.N.length-as.length) .no
abbrev kA(d:Def)(as:List PV):Bool:=match d.sD with
 |none=>as.length==d.np|some _=>iv
abbrev j8(F:aW)(d:Def)(as:List PV):Res PV:=
 if kA d as then(f6 F d.body (kO d as)).bind λf=>match f with
  |.nx _=>.ok .aE|.rt p=>.ok p|_=>.bad
 else .bad
abbrev b8(B:aW):List (Str×Def)->aW
 |[],f,as=>B f as|(n,d)::r,f,as=>if f==n then j8 (b8 B r) d as else b8 B r f as
noncomputable abbrev QT:aW:=λZ Z=>.bad
noncomputable abbrev den:List (Str×Def)->aW:=b8 QT
abbrev Mf(x:Str):Bool:=x.cps[0]?==hT 64
end Ci
namespace L2
open PySem.Spec PyProof.Rows PySem.W
section
variable{s:iM}{d:iN}{ax:List (Key×V)}
def AR(x:bB P w H h d (.dK ax)):(d==sysModules)=iv/\(ax.map (·.1)).Nodup/\∃o b f,h.get? d=hT o/\o.ExactDict/\o.data=.dict b f/\b.size=ax.length/\∀(i:Nat) (h:i<b.size),∃k v,ax[i]?=hT (k,v)/\(aY P w).is k b[i].key=ig/\RelV v b[i].val:=by
 let(B,j,xs,c,o,b,f,m,p,r,C,g,t):=x;have hl:b.size=xs.length:=by rw [<-d1];exact g.length
 have u:ax.length=xs.length:=Paired.length c;have y:ax.map (·.1)=xs.map (·.1):=c.keys;refine{j,y▸t,o,b,f,m,p,r,hl.trans u.symm,λi A=>?_};have q:=vR c (zzg (show i<ax.length by omega)) (zzg (show i<xs.length by omega));let(p1,p2):=g.get? (i:=i) (e:=b[i]) (k:=xs[i].1) (v:=xs[i].2) (by rw [Array.getElem?_toList];exact fR A) (by rw [zzg (show i<xs.length by omega)]);exact{_,_,zzg (show i<ax.length by omega),(congrArg (λz=>(aY P w).is z b[i].key) q.1).trans p1,by rw [p2];exact q.2}
def AS(I:zv3 s)(e:Rd H d (.dK ax)):(d==sysModules)=iv/\(ax.map (·.1)).Nodup/\∃o b c,s.heap.get? d=hT o/\o.ExactDict/\o.data=.dict b c/\b.size=ax.length/\∀(i:Nat) (h:i<b.size),∃k v,ax[i]?=hT (k,v)/\(aY X.prog X.w).is k b[i].key=ig/\RelV v b[i].val:=AR (e.ok I.aJ)
def uv{k:Key}{v:ix}(h:(aY P w).is k v=ig):RelV (kV k) v:=by
 rcases bo (k:=k) h with⟨i,t,rfl,rfl⟩|⟨x,t,rfl,rfl⟩
 .exact⟨t,rfl⟩
 .exact⟨t,rfl⟩
def Inv.qD(I:zv3 s)(e:H a=hT (.dK ax)):∃o,Inv X aa σ (upd H a (.bL o (.dK ax))) s:=by let(z,f,xs,b,o,g,h,c,i):=(show bB X.prog X.w H s.heap a (.dK ax) from I.aJ a _ e);exact{o,jm (h':=s.heap) (t':=s.toks) I (by rw [e];exact True.intro) {rfl,λZ Z=>rfl} ⟨o,c⟩ ⟨c,z,f,xs,b,o,g,h,c,i⟩}
end
abbrev O7(a:iN)(o:Obj)(b:List (Key×V)):It:=
 {λi H=>H a=hT (.bL o (.dK b))/\i<b.length,λi H x c=>c=H/\∃k v,x=kV k/\b[i]?=hT (k,v),λi H=>H a=hT (.bL o (.dK b))/\b.length<=i}
def vc{j:St}{s:iM}{c:List (Key×V)}(I:Inv X aa j H s)(e:H a=hT (.bL o (.dK c))):
 (a==sysModules)=iv/\s.heap.get? a=hT o/\o.ExactDict/\∃b d,o.data=.dict b d/\b.size=c.length/\∀(i:Nat) (h:i<b.size),∃k v,RelV (kV k) b[i].key/\c[i]?=hT (k,v):=by
 let(f,ok):=(show bB X.prog X.w H s.heap a (.bL o (.dK c)) from I.aJ a _ e);let(m,_,y,b,d,g,p,q,hl,hk):=AR ok;rw [f] at g;cases g;exact{m,f,p,b,d,q,hl,λi r=>let⟨k,v,t,u,_⟩:=hk i r;{k,v,uv u,t}}
def wt{K:zz8}{U:iO}{it:iN}{m:Array DictEntry}{M:Nat}{N:List (Key×V)}(hd:o.data=.dict m M)(hl:m.size=N.length):
 Turn P w K U (O7 a o N) [it] it (λi h=>h.IsKeyIter it a i m.size M) where
 mem:=by simp
 obj:=λi h st b f=>by have e:b=it:=zx6 f;subst e;let(q,e,c,d):=st;exact{q,e,λv z=>by rw [d] at z;cases z}
 keep:=λi h p st k=>st.at λo e=>k it (by simp) o e
 item:=by
  intro X t u hK O i Q s R H E I r st y;subst t u hK;let(g1,g2):=y;let(W,A,Y,B,C,g,Z,j):=vc I g1;rw [hd] at g;cases g;let(D,F,f2,G,J,L):=r it (by simp);have S:i<m.size:=by omega
  refine xh st A hd S λp T sb=>?_;let(k,v,e1,e2):=j i S;have I1:Inv X Q R H {s with heap:=p}:=I.turned (t':=s.toks) (λb o f e=>(sb.2 b f).trans e) D F G J L;let(q,e,c,d):=id T;exact{_,rfl,tj (s:={s with heap:=p}) e c d (by decide) {kV k,H,I1,e1,⟨rfl,k,v,rfl,e2⟩,T,λb f=>(r b f).1}}
 done:=by intro X t u hK O i Q s R H E I r st y;subst t u hK;let(g1,g2):=y;let(W,A,Y,B,C,g,Z,j):=vc I g1;rw [hd] at g;cases g;let(D,F,f2,G,J,L):=r it (by simp);exact Bt (I.ok.hd O) st A hd (by omega) λp eb=>{rfl,I.turned (t':=s.toks) (λb o f e=>eb b o f e) D F G J L}
 self:=λ_ _ _ _ _ st h=>wpAny_pyIter_keyiter st h
abbrev VL(d:TE):TI:=λe H R=>d e H λx b=>∃a o c,x=.ref a/\b a=hT (.bL o (.dK c))/\R (O7 a o c) b
def NP{j l:iO}{g:TE}(hl:PE X l g):PI X j l (VL g):=by intro k s m H R I h;refine bb (hl k s m H _ I h) λv c f=>?_;let(x,p,d,r,q1):=f;let(a,o,C,e,t,q):=q1;subst e;cases r;let(u,w,y,D,E,i,z,A):=vc d t;refine xg u w y i ?_;refine{(zz9 c),[(zz9 c)],_,_,p,rfl,d.kept (t':=c.toks) λb o e=>aT _ e,wt i z,{_,dI _ rfl,rfl,rfl},λb B=>?_,q};have e:b=(zz9 c):=zx6 B;subst e;exact d.mV (a8 _) (d.aJ.fresh (a8 _))
noncomputable abbrev yg(K:zz8)(H:Hp)(vs:List V)(b:List (Key×V)):Prop:=Paired (λv a=>∃q,v=V.ref q/\dF K H q [kV a.1,a.2]) vs b
def dF.Io{K:zz8}{f:Hp}{d:iN}{xs:List V}(h:dF K H a xs)(e:∀b,b≠d->f b=H b){c:List (Key×V)}(hd:H d=hT (.dK c)):dF K f a xs:=by
 rcases h with(h|⟨o,h⟩)|h
 .exact .inl (.inl (by rw [e a (t6 h hd nofun)];exact h))
 .exact .inl (.inr {o,by rw [e a (t6 h hd nofun)];exact h})
 .exact .inr h
def eW.Io{K:zz8}{f:Hp}{d:iN}{xs:List V}(h:eW K H a xs)(e:∀b,b≠d->f b=H b){c:List (Key×V)}(hd:H d=hT (.dK c)):eW K f a xs:=by
 rcases h with(h|⟨o,h⟩)|h
 .exact .inl (.inl (by rw [e a (t6 h hd nofun)];exact h))
 .exact .inl (.inr {o,by rw [e a (t6 h hd nofun)];exact h})
 .exact .inr h
section
variable{l d it:iN}{E:lq}{R:Result->iM->Prop}
def Ik{s:iM}{b:List (Key×V)}{k:Key}{r:ix}{Q:Unit->iM->Prop}(y:A.units<cLine)(I:zv3 s)(e:H a=hT (.dK b))(g:RelV (kV k) u)(l:b.length<j3)(i:RelV v r)
 (h:∀h' t,j2.SameBut a s.heap h'->Inv X aa σ (upd H a (.dK (putK b k v))) {s with heap:=h',toks:=t}->Q () {s with heap:=h',toks:=t}):i1 (jj X.prog X.w) A (dictSet a u r) Q E s:=by
 let(z,j,xs,c,m):=AQ I.aJ e;have p:xs.length<=sizeLine:=by rw [<-c.length];exact z
 have hl:(putK b k v).length<=sizeLine:=by have:=eA b k v;omega
 refine wpAny_dictSet_pairs (hsz:=p) (k8 g) m λh' f hs=>h h' _ hs ?_;let(o,_,_,q,_):=id f;exact jm I (by rw [e];exact True.intro) hs ⟨o,q⟩ {hl,j,_,c.put k i,f}
def AU(hu:A.units+1<cLine)(hh:A.handled=ie):∀(rest:List (Key×V)) (i:Nat) (j:Int) (a:List (Key×V)) (H:Hp) (s:iM),Inv X aa σ H s->hX X aa H it->s.heap.IsListIter it l i->eW X.K H l vs->yg X.K H (vs.drop i) rest->H d=hT (.dK a)->a.length+rest.length<=j3->
 (∀s' t,Inv X aa σ t s'->t d=hT (.dK (gP a rest))->(∀b,b≠d->t b=H b)->R (.ok (.ret .none)) s')->codeAny (jj X.prog X.w) A (.builtin "dict.update.loop" {[.ref d,.ref it,rawInt j,.none],[]}) R s:=by
 intro rest
 induction rest with
 |nil=>
  intro i j a H s I P st hl g hd Q k;let(aj,S,p,_):=I.list hl;let(m,C,f2,D,F,G):=P
  have hi:vs.length<=i:=List.drop_eq_nil_iff.mp (by cases h:vs.drop i with|nil=>rfl|cons x r=>rw [h] at g;cases g);have hle:=S.length;refine codeAny_builtin sQ ?_;rw [hI jo _];show i1 _ A.in1 (pyNext (.ref it)>>=λz=>_) _ _ s;refine ar (wpAny_pyNext_list_end hh st p.isList (by simp;omega) λJ eb=>?_);show i1 _ _ (kr.Dict.addKeywords d []>>=λ_=>_) _ _ _;exact ar (bp (bp (k _ H (I.turned (t':=s.toks) (λb o T e=>eb b o T e) m C D F G) hd λ_ _=>rfl)))
 |cons f rest ih=>
  intro i j a H s I P st hl g hd Q k;let(aj,S,p,_):=I.list hl;let(m,C,f2,D,F,G):=id P
  obtain⟨v,L,hv,⟨q,rfl,hq⟩,U⟩:∃v L,vs.drop i=v::L/\(∃q,v=V.ref q/\dF X.K H q [kV f.1,f.2])/\yg X.K H L rest:=by
   cases h:vs.drop i with
   |nil=>rw [h] at g;cases g
   |cons x r=>rw [h] at g;cases g with|cons W M=>exact⟨x,r,rfl,W,M⟩
  have Na:vs[i]?=hT (.ref q):=by rw [<-List.head?_drop,hv];rfl
  have VH:vs.drop (i+1)=L:=by rw [<-List.drop_drop,hv];rfl
  let(u,D1,ru):=S.get Na;cases(show u=ix.ref q from ru);refine codeAny_builtin sQ ?_;rw [hI jo _];show i1 _ A.in1 (pyNext (.ref it)>>=λz=>_) _ _ s;refine ar (wpAny_pyNext_list_item st p.isList (x:=ix.ref q) (zx6 D1) λJ iu sb=>?_);have I1:Inv X aa σ H {s with heap:=J}:=I.turned (t':=s.toks) (λb o T e=>(sb.2 b T).trans e) m C D F G;let(cV,Y,p2,_):=I1.tuple hq;let(o2,g1,g2,n2,g3):=id p2
  obtain⟨y,B,rfl,Z,ru2⟩:∃y B,cV=[y,B]/\RelV (kV f.1) y/\RelV f.2 B:=by cases Y with|cons W M=>cases M with|cons h3 h4=>cases h4;exact{_,_,rfl,W,h3}
  show i1 _ A.in1 (holding [ix.ref q] _>>=λz=>_) _ _ {s with heap:=J};refine ar (wpAny_holding (ar (wpAny_tryCatch ?_)));unfold kr.Dict.pairItems;refine ar (wpAny_typeOf (s:={s with heap:=J}) ⟨o2,g1,g2⟩ ?_);rw [if_pos (by decide)];refine ar (wpAny_seqItems g1 g3 (bp ?_));show i1 _ A.in1 (holding [y,B] (dictSet d y B)) _ _ _;refine wpAny_holding (Ik hu I1 hd Z (by rw [bE] at Q;omega) ru2 λM t2 VX I2=>?_);have N:∀c,c≠d->upd H d (.dK (putK a f.1 f.2)) c=H c:=λc O=>ae O;have nd:it≠d:=λz=>by rw [z,hd] at m;cases m
  refine bp {plainId_quiet jo _,ih (i+1) (j+1) _ _ _ I2 {by rw [N _ nd];exact m,C,f2,D,F,G} (iu.at λo e=>(VX.2 it nd).trans e) (eW.Io hl N hd) (by rw [VH];exact Paired.BX U λ_ _ ⟨q,e1,e2⟩=>{q,e1,dF.Io e2 N hd}) ak ?_ λs' t J1 J2 J3=>k s' t J1 J2 λc O=>(J3 c O).trans (N c O)};have:=eA a f.1 f.2;rw [bE] at Q;omega
def mB(D:X.calm=ig)(Z:X.A.units+3<cLine):bP X (.type "dict") (λxs H Q=>∃l vs g,xs=[V.ref l]/\eW X.K H l vs/\yg X.K H vs g/\∀p,H p=ie->Q (.ref p) (upd H p (.dK (gP [] g)))):=by
 intro aa s σ H xs us Q I r h;let(l,vs,g,rfl,hl,m,q):=h;let(u,rfl,G):=vals1 r;cases G;have t:X.A.handled=ie:=I.ok.hd D
 refine callType_codes (Q₁:=λobj c=>obj=.ref (zz9 s)/\c={s with heap:=s.heap.push {cls:=.type "dict",data:=.dict #[]}}) F.kt_called_dict (F.kt_typeCall_dict_1 _) F.entry_dict_init (kt_code_dict_new _ ⟨rfl,rfl⟩) ?_
 rintro obj c ⟨rfl,rfl⟩
 have w:H (zz9 s)=ie:=I.aJ.fresh (a8 _);have y:=I.laid (a:=(zz9 s)) (o:=.dK []) (t':=s.toks) (λ_ _ q=>aT _ q) (a8 _) (sP s.heap I.big);have T:({s.heap.push {cls:=.type "dict",data:=.dict #[]},s.gens,s.drawn,s.toks,s.os}:iM).TypeIs (.ref (zz9 s)) "dict":={_,dI _ rfl,rfl};have same:aw H (upd H (zz9 s) (.dK [])):=aS w;have k:eW X.K (upd H (zz9 s) (.dK [])) l vs:=same.seq hl;let(aj,rv,p,hz):=y.list k;let(o,n,g1,g2,J,L):=id p;refine{T,F.args_dict_init_2 _ _,?_};unfold kr.«dict.__init__» kr.Dict.selfAndRest;refine ar (ar (wpAny_notOrdered_dict T ?_));show i1 _ _ (pure ((zz9 s),[ix.ref l]):Sem _) _ _ _;refine bp ?_;show i1 _ _ (kr.Dict.updateFrom "dict.__init__" (zz9 s) (.ref l) [] .none) _ _ _;unfold kr.Dict.updateFrom;refine ar (wpAny_typeOf ⟨o,g1,g2⟩ ?_);rw [if_pos (by decide)];refine ar (Em g1 g2 L J t λh' z hk=>?_);rw [if_pos (by decide)];refine ar (wpAny_rule ?_);have i:=y.kept (h':=h') (t':=z) hk;let(B,M,N,_):=i.list k;refine ar (wpAny_pyIter_list N.isList ?_);have O:=i.kept (h':=h'.push {cls:=.type "list_iterator",data:=.fields #[.ref l,.int 0 0]}) (t':=z) λb o e=>aT _ e;have P:(h'.push {cls:=.type "list_iterator",data:=.fields #[.ref l,.int 0 0]}).IsListIter h'.objs.size l 0:={_,dI _ rfl,rfl,rfl};have S:hX X aa (upd H (zz9 s) (.dK [])) h'.objs.size:=i.mV (a8 _) (i.aJ.fresh (a8 _));refine bp {plainId_quiet jo _,AU (X:=X) (A:=X.A.in1) (aa:=aa) (σ:=σ) (l:=l) (d:=(zz9 s)) (it:=h'.objs.size) (vs:=vs) (by show X.A.units+1+1<cLine;omega) (show X.A.in1.handled=ie from t) g 0 0 [] _ _ O S P k ?_ ak ?_ λs' U C J2 W=>{rfl,?_}}
 .exact Paired.BX m λ_ _ ⟨q,Y,f⟩=>{q,Y,(show dF X.K _ q _ from by
   rcases f with(f|⟨o,f⟩)|f
   .exact .inl (.inl (same _ _ f))
   .exact .inl (.inr {o,same _ _ f})
   .exact .inr f)}
 .have:=Paired.length m;rw [List.length_nil];omega
 .have e:U=upd H (zz9 s) (.dK (gP [] g)):=by
   funext b
   by_cases j:b=(zz9 s)
   .rw [j,ak];exact J2
   .rw [ae j,W b j,ae j]
  rw [e] at C;exact{.ref (zz9 s),_,C,rfl,q _ w}
def sx(e:X.calm=ig)(f:X.A.units+3<cLine):bP X (.type "dict") (λxs H Q=>∃l vs a,xs=[V.ref l]/\eW X.K H l vs/\yg X.K H vs a/\∀p o,H p=ie->Q (.ref p) (upd H p (.bL o (.dK (gP [] a))))):=by
 intro aa s σ H xs g Q I r h;let(l,vs,a,rfl,hl,i,q):=h;refine wpAny_mono (mB e f aa s σ H _ g (λv c=>∃p,v=.ref p/\H p=ie/\c=upd H p (.dK (gP [] a))) I r {l,vs,a,rfl,hl,i,λp b=>⟨p,rfl,b,rfl⟩}) ?_ λZ Z z=>z
 rintro u m ⟨v,c,j,k,p,rfl,b,rfl⟩
 let(o,J):=j.qD ak;rw [x8] at J;exact{_,_,J,k,q p o b}
end
noncomputable abbrev iD(z:Str):List Int:=z.cps.toList.map λ(c:Nat)=>(c:Int)
theorem xy:∀(a b:List Nat),decide (a<b)=HT.lexLt (a.map λ(c:Nat)=>(c:Int)) (b.map λ(c:Nat)=>(c:Int))
 |[],[]=>by simp [HT.ip]|[],_::_=>by simp [HT.lexLt]|_::_,[]=>by simp [HT.lexLt]|x::a,y::b=>by
  rw [bc,bc,HT.m9,<-xy a b];by_cases e:x=y
  .subst e;rw [if_pos rfl];simp [List.cons_lt_cons_iff]
  .rw [if_neg (by omega)];simp [List.cons_lt_cons_iff,e]
section
variable{E:lq}{s:iM}
def C5:∀{us:List ix} {c:List Str},Vals (c.map V.str) us->2<=us.length->Ow prog w A E us (λi j=>HT.lexLt ((c.map iD).getD i []) ((c.map iD).getD j [])) s:=λ{us c} r d=>by
 have hl:c.length=us.length:=by have:=r.length;simpa using this
 have sa:StrsAre us c:=by
  clear d hl
  induction c generalizing us with
  |nil=>cases r;exact .nil
  |cons z c g=>
   cases r with
   |cons h t=>let(D,rfl):=h;exact .cons _ _ (g t)
 have at_:∀(i:Nat) (f:i<us.length),∃t,us.getD i ix.none=.str (c[i]'(by omega)) t:=λi f=>by let(u,k,d):=r.get (i:=i) (x:=V.str (c[i]'(by omega))) (by rw [cz,zzg (show i<c.length by omega)];rfl);let(t,rfl):=d;exact{t,by simp [k]}
 refine{oneType',λQ q=>?_,λi j C f m hC=>?_}
 .obtain⟨a,b,e,rfl⟩:∃a b e,us=a::b::e:=by
   match us,d with
   |a::b::e,_=>exact⟨a,b,e,rfl⟩
  rw [keyKind_strs sa];exact bp q
 .let(F,o):=at_ i f
  let(t2,p):=at_ j m
  unfold kas_ask;rw [o,p];refine kas_lt_str ?_;have y:(c.map iD).getD i []=iD (c[i]'(by omega)):=by simp [show i<c.length by omega]
  have B:(c.map iD).getD j []=iD (c[j]'(by omega)):=by simp [show j<c.length by omega]
  dsimp only at hC;rw [y,B] at hC;rw [xy];exact hC
def qo(y:X.calm=ig):bP X (.builtin "sorted") (λxs H Q=>∃a e,∃b:List Str,xs=[V.ref a]/\Rd H a (.dK e)/\e.map (·.1)=b.map Sum.inr/\e.length<64/\
 ∀p,H p=ie->Q (.ref p) (upd H p (.lst (wb V.aE (b.map V.str) (b.map iD))))):=by
 intro R s S H xs d Q I r h;let(a,e,b,rfl,hl,hk,T,q):=h;let(u,rfl,B):=vals1 r;cases B;let(C,_,o,U,W,D,F,G,Y,f):=AS I hl;refine Calls.call_function_entry kind_sorted plain_sorted entry_sorted (args_sorted1 _) ?_;unfold kr.«sorted»;refine ar (m:=checkCount "sorted" 1 1 _) (bp (ar (sE (Ds C F G) (show X.A.in1.handled=ie from I.ok.hd y) D (by rw [sizeLine_eq];omega) λh' J c kp it=>?_)));have t:=I.kept (t':=J) (h':=h') kp;have K:b.length=e.length:=by have:=congrArg List.length hk;simpa using this.symm
 have hs:c.toList.length=b.length:=by rw [d1,it.1];omega
 have ev:∀(i:Nat) v z,c.toList[i]?=hT v->b[i]?=hT z->RelV (V.str z) v:=λi v z g j=>by
  let(L,ev):=it.2 i v (by rw [<-Array.getElem?_toList];exact g);let(k,x,g1,g2,_):=f i L;have M:k=.inr z:=by have:=congrArg (λl=>l[i]?) hk;simp! [cz,g1,j,Option.map_some] at this;exact zzq this
  subst M;rw [ev];exact uv g2
 have w:Vals (b.map V.str) c.toList:=by
  clear it f hk I t q K;generalize c.toList=d at hs ev
  induction b generalizing d with
  |nil=>cases d with
   |nil=>exact .nil|cons u d=>simp at hs
  |cons z b N=>
   cases d with
   |nil=>simp at hs|cons u d=>exact .cons (ev 0 u z rfl rfl) (N d (zx6 hs) λi v ns g j=>ev (i+1) v ns (zx6 g) (zx6 j))
 exact v9 t w (λO h' k=>C5 w O) (by rw [zzl];omega) λp P=>q p P
end
end L2
namespace Ci
open L2
noncomputable abbrev ki(k:Str):Key:=Sum.inr k
def vv{a b:Str}(h:ki a=ki b):a=b:=Sum.inr.inj h
theorem g8{k:Str}{u:V}{us:List V}:kz (k::ks) (u::us)=(ki k,u)::kz ks us:=rfl
theorem JQ{us:List V}:kz [] us=[]:=rfl
def gK{us:List V}(h:ks.length=us.length):(kz ks us).length=ks.length:=by unfold kz;rw [List.length_zip,zzl];omega
def xx{us:List V}(h:ks.length=us.length):(kz ks us).map (·.1)=ks.map ki:=by unfold kz;exact List.map_fst_zip (by rw [zzl];omega)
theorem gL(k:Str):∀(ks:List Str) (us:List V),kh (kz ks us) (ki k)=cm ks us k
 |[],us=>by unfold cm;rfl|a::ks,[]=>by unfold cm;rfl|a::ks,u::us=>by
  rw [g8];unfold cm;by_cases h:a=k
  .subst h;rw [if_pos rfl];exact kl rfl
  .rw [if_neg h,kj (λz=>h (vv z))];exact gL k ks us
theorem g6{b:Type}(k:Str):∀(ks:List Str) (us:List b),ks.length=us.length->(cm ks us k).isSome=sZ ks k
 |[],[],_=>rfl|a::ks,u::us,h=>by
  unfold cm sZ;rw [List.any_cons];by_cases e:a=k
  .simp [e]
  .rw [if_neg e];have:=g6 k ks us (zx6 h);unfold sZ at this;rw [this];simp [e]
 |[],_::_,h=>by simp at h|_::_,[],h=>by simp at h
def HP(k:Str):∀(ks:List Str) (us:List V),ks.length=us.length->((kz ks us).any λa=>decide (a.1=ki k))=sZ ks k:=λks us h=>by rw [n5,gL,g6 k ks us h]
def vw{us:List V}(h:ks.length=us.length)(k:Str)(v:V):putK (kz ks us) (ki k) v=kz (il ks k) (dU ks us k v):=by
 unfold putK il dU;rw [HP k ks us h];split
 .have go:∀(ks:List Str) (us:List V),(kz ks us).map (λb=>if b.1=ki k then(b.1,v) else b)=kz ks (List.zipWith (λc u=>if c=k then v else u) ks us):=by
   intro ks
   induction ks with
   |nil=>intro us;simp [kz]|cons a ks d=>
    intro us;cases us with
    |nil=>simp [kz]|cons u us=>
     rw [g8,bc,List.zipWith_cons_cons,g8,d];by_cases e:a=k
     .simp [e]
     .rw [if_neg (λz=>e (vv z)),if_neg e]
  exact go ks us
 .unfold kz;rw [List.map_append,List.zip_append (by rw [zzl];exact h)];rfl
def nE{a:Type}{us:List a}(h:ks.length=us.length)(k:Str)(v:a):(il ks k).length=(dU ks us k v).length:=by
 unfold il dU;split
 .rw [List.length_zipWith];omega
 .simp [h]
theorem xw(k:Str):∀{ks:List Str} {us:List V},ks.length=us.length->eY (kz ks us) (ki k)=kz (iK ks k) (cj ks us k)
 |[],[],_=>rfl|a::ks,u::us,h=>by
  have b:=xw k (ks:=ks) (us:=us) (zx6 h);unfold iK cj;rw [g8,hB];by_cases e:a=k
  .subst e;rw [yG rfl,b];simp [iK]
  .rw [yF (λz=>e (vv z)),b,if_neg e,if_pos (zx6 e),g8];rfl
 |[],_::_,h=>by simp at h|_::_,[],h=>by simp at h
theorem sS{c:Type}(k:Str):∀{ks:List Str} {us:List c},ks.length=us.length->(iK ks k).length=(cj ks us k).length
 |[],[],_=>by unfold cj;rfl|a::ks,u::us,h=>by
  have b:=sS k (ks:=ks) (us:=us) (zx6 h);unfold iK cj;rw [hB];by_cases e:a=k
  .subst e;rw [if_neg (by simp),if_pos rfl];exact b
  .rw [if_neg e,if_pos (zx6 e),bE,bE];exact congrArg (·+1) b
 |[],_::_,h=>by simp at h|_::_,[],h=>by simp at h
section
variable{W:Wd}
theorem km{k:Str}{p:PV}:∀{ks:List Str} {ps:List PV} {us:List V},ag W G ps us->cm ks ps k=hT p->∃v,cm ks us k=hT v/\Rep W G p v
 |[],_,_,_,e=>by unfold cm at e;cases e
 |a::ks,[],_,_,e=>by unfold cm at e;cases e
 |a::ks,q::ps,_,l,e=>by
  let(v,r,rfl,b,c):=l.aN;unfold cm at e⊢;by_cases h:a=k
  .rw [if_pos h] at e⊢;cases e;exact⟨v,rfl,b⟩
  .rw [if_neg h] at e⊢;exact km c e
theorem DQ{k:Str}{p:PV}(c:Rep W G p v):∀{ks:List Str} {ps:List PV} {us:List V},ag W G ps us->ag W G (List.zipWith (λb v=>if b=k then p else v) ks ps) (List.zipWith (λb u=>if b=k then v else u) ks us)
 |[],_,_,_=>by simp! [List.zipWith_nil_left];exact .nil|a::ks,[],_,l=>by simp! [ag] at l;subst l;simp! [List.zipWith_nil_right];exact .nil|a::ks,q::ps,_,l=>by
  let(u,r,rfl,d,e):=l.aN;rw [List.zipWith_cons_cons,List.zipWith_cons_cons];refine .cons ?_ (DQ c e);split
  .exact c
  .exact d
def rh{us:List V}{k:Str}{p:PV}(l:ag W G ps us)(a:Rep W G p v):ag W G (dU ks ps k p) (dU ks us k v):=by
 unfold dU;split
 .exact DQ a l
 .exact l.append (.cons a .nil)
theorem mL{k:Str}:∀{ks:List Str} {ps:List PV} {us:List V},ag W G ps us->ag W G (cj ks ps k) (cj ks us k)
 |[],_,_,_=>by unfold cj;exact .nil|a::ks,[],_,l=>by simp! [ag] at l;subst l;unfold cj;exact .nil|a::ks,q::ps,_,l=>by
  let(u,r,rfl,c,b):=l.aN;unfold cj;split
  .exact mL b
  .exact .cons c (mL b)
end
def et{p:PV}{k:Str}(h:fJ p=hT k):p=qL k:=by
 unfold fJ at h;split at h
 .cases h;rfl
 .cases h
end Ci
namespace L2
open PySem.Spec PyProof.Rows
end L2
namespace Ci
open L2
def gO{n:Nat}(h:n<=hZ):n<=sizeLine:=c0 h (by decide)
section
variable{W:Wd}
def dm(W:Wd)(G H:Hp)(r:PV)(Q:VK):Prop:=∀v a b,az W G H a b->Rep W a r v->Q v b
def dm.at{r:PV}(h:dm W G H r Q)(s:aw G H)(k:Rep W G r v):Q v H:=h v G H (.refl s) k
def dm.tup{p:iN}(h:dm W G H (.tup xs) Q)(s:aw G H)(k:ag W G xs vs)(a:H p=ie):Q (.ref p) (upd H p (.tup vs)):=
 h _ _ _ (.new s a) (.t (.inl ak) (ag.same (aS (s.free a)) xs k))
def dm.lst{p:iN}(h:dm W G H (.lst xs) Q)(s:aw G H)(k:ag W G xs vs)(a:H p=ie):Q (.ref p) (upd H p (.lst vs)):=
 h _ _ _ (.new s a) (.l (.inl (.inl ak)) (ag.same (aS (s.free a)) xs k))
theorem lV{f:PV->PV->Bool}:∀{xs ys:List PV},xs.length≠ys.length->eqs f xs ys=iv
 |[],[],h=>absurd rfl h|_::xs,_::ys,h=>by simp! [eqs];rw [lV (xs:=xs) (ys:=ys) (λz=>h (by simp [z]))];simp|[],_::_,_=>rfl|_::_,[],_=>rfl
theorem lU{f:PV->PV->Bool}:∀{xs ys:List PV},xs.length=ys.length->eqs f xs ys=(List.range xs.length).all λj=>f (xs.getD j .aE) (ys.getD j .aE)
 |[],[],_=>rfl|x::xs,y::ys,h=>by simp! [eqs];rw [lU (xs:=xs) (ys:=ys) (zx6 h),bE,List.range_succ_eq_map,List.all_cons,List.all_map];rfl|[],_::_,h=>by simp at h|_::_,[],h=>by simp at h
def pE{f:PV->PV->Bool}:∀{xs ys:List PV},((List.range (min xs.length ys.length)).all (λj=>f (xs.getD j .aE) (ys.getD j .aE))&&xs.length==ys.length)=eqs f xs ys:=λ{xs ys}=>by
 by_cases h:xs.length=ys.length
 .rw [lU h,h,Nat.min_self,beq_self_eq_true,Bool.and_true]
 .rw [lV h,beq_eq_false_iff_ne.mpr h,Bool.and_false]
theorem sV{f:PV->PV->Bool}:∀{xs ys:List PV},xs.length=ys.length->(∀(j:Nat) x y,xs[j]?=hT x->ys[j]?=hT y->f x y=ig)->eqs f xs ys=ig
 |[],[],_,_=>rfl|x::xs,y::ys,h,k=>by simp! [eqs];rw [k 0 x y rfl rfl,sV (xs:=xs) (ys:=ys) (zx6 h) λj a b c d=>k (j+1) a b (zx6 c) (zx6 d)];rfl|[],_::_,h,_=>by simp at h|_::_,[],h,_=>by simp at h
def mh(hK:W.K=X.K){a:iN}{vs:List V}(h:oU W.K H a vs):eW X.K H a vs:=by
 rw [hK] at h;rcases h with h|⟨b,n,c,d,e⟩
 .exact .inl h
 .exact .inr {_,b,n,c,rfl,rfl,rfl,d,e}
def t9{c:St}{s:iM}(I:Inv X aa c H s){us:List V}(d:dF X.K H a vs)(f:eW X.K H a us):False:=by let(h,_,(o,e,g,_),_):=I.tuple d;let(i,_,(o2,n,b,lX,_),_):=I.list f;rw [e] at b;cases b;rw [g] at lX;exact absurd lX (by decide)
theorem hJ{c:Type}:∀{xs ys:List c},xs.length=ys.length->(∀(j:Nat) x y,xs[j]?=hT x->ys[j]?=hT y->x=y)->xs=ys
 |[],[],_,_=>rfl|x::xs,y::ys,h,k=>by rw [k 0 x y rfl rfl,hJ (xs:=xs) (ys:=ys) (zx6 h) λj a b d e=>k (j+1) a b (zx6 d) (zx6 e)]|[],_::_,h,_=>by simp at h|_::_,[],h,_=>by simp at h
def Uu(X:Cx)(W:Wd)(G H:Hp):PV->V->Prop
 |.aE,v=>v=.aE|.bl b,v=>v=.bl b|.int i,v=>v=.int i|.str z,v=>v=.str z|.tup xs,v=>∃a,v=.ref a/\∃vs,dF X.K H a vs/\ag W G xs vs|.lst xs,v=>∃a,v=.ref a/\∃vs,eW X.K H a vs/\ag W G xs vs|_,_=>False
def O1(hK:W.K=X.K)(g:aw G H){n:Nat}{p:PV}(d:plain n p=ig)(h:Top W H0 G H p v):Uu X W G H p v:=by
 cases p with
 |aE=>exact h.aE|bl b=>exact h.bl|int i=>exact h.int|str z=>exact h.str|tup xs=>let(a,f,e,sq,l):=h.tup g;rw [hK] at sq;exact⟨a,e,f,sq,l⟩|lst xs=>let(a,f,e,sq,l):=h.lst g;exact{a,e,f,mh hK sq,l}|exc c=>cases n<;>exact aI d
 |obj c=>cases n<;>exact aI d
 |bU a b=>cases n<;>exact aI d
def xR{B:St}{s:iM}(I:Inv X aa B H s)(hK:W.K=X.K)(h:aw G H):∀(n:Nat) {p q:PV} {v:V},plain n p=ig->plain n q=ig->Top W H0 G H p v->Top W H0 G H q v->p=q:=by
 intro n
 induction n with
 |zero=>
  intro p q v c d r t;have a:=O1 hK h c r;have b:=O1 hK h d t;cases p<;>cases q<;>first|exact aI c|exact aI d|(cases a;cases b;rfl)|(cases a;cases b)
 |succ n C=>
  intro p q v c d r t;have a:=O1 hK h c r;have b:=O1 hK h d t
  have z:∀{xs i:List PV} {k:List V},xs.all (plain n)=ig->i.all (plain n)=ig->ag W G xs k->ag W G i k->xs=i:=λ{xs i k} a1 a2 e f=>hJ (by rw [<-e.length,f.length]) λj x y ex A=>by let(u,D,E):=e.mW ex;let(L,g,F):=f.get D;rw [A] at g;cases g;exact C (cP.mp a1 _ (a7 ex)) (cP.mp a2 _ (a7 A)) (.inl E) (.inl F)
  cases p<;>cases q<;>first|exact aI c|exact aI d|(cases a;cases b;done)|(cases a;cases b;rfl)|(let(_,J,_):=a;cases b;cases J;done)|(let(_,w,_):=b;cases a;cases w;done)|(let(x,rfl,k,m,e):=a;let(y,w,M,o,f):=b;cases w;first|exact(t9 I m o).elim|exact(t9 I o m).elim|(cases I.qa m o;rw [z c d e f])|(cases I.tW m o;rw [z c d e f]))
def AY:∀{n:Nat} {p:PV},plain n p=ig->rR n p p=ig:=by
 intro n
 induction n with
 |zero=>intro p h;cases p<;>first|exact aI h|rfl|exact beq_self_eq_true _
 |succ n c=>
  intro p h;cases p<;>first|exact aI h|rfl|exact beq_self_eq_true _|exact sV rfl λj x y a b=>by rw [a] at b;cases b;exact c (cP.mp h _ (a7 a))
def w6{b:St}{s:iM}(I:Inv X aa b H s)(hK:W.K=X.K)(c:aw G H):∀(n:Nat) {p q:PV} {v:V},plain n p=ig->plain n q=ig->Top W H0 G H p v->Top W H0 G H q v->rR n p q=ig:=λn {p q v} a d e f=>by cases xR I hK c n a d e f;exact AY a
def md{x:V}(r:RelV x (.ref a)):x=.ref a:=by
 cases x<;>first|(cases r;rfl)|(let(_,h):=r;cases h)|cases r
def Ug(W:Wd)(G:Hp)(h:j2):PV->ix->Prop
 |.aE,v=>∃_t:Nat,v=.none/\True|.bl b,v=>∃_t:Nat,v=.bool b/\True|.int i,v=>∃t,v=.int i t/\True|.str z,v=>∃t,v=.str z t/\True|.tup xs,v=>∃a,v=.ref a/\∃c vs,ag W G xs vs/\Vals vs c/\h.IsTuple a c.toArray|.lst xs,v=>∃a,v=.ref a/\∃c vs,ag W G xs vs/\Vals vs c/\h.IsList a c.toArray|_,_=>False
def Hv{k:St}{s:iM}(I:Inv X aa k H s)(hK:W.K=X.K)(g:aw G H){n:Nat}{p:PV}{j:ix}(d:plain n p=ig)(h:Top W H0 G H p v)(r:RelV v j):Ug W G s.heap p j:=by
 cases p with
 |aE=>cases h.aE;cases r;exact{0,rfl,trivial}
 |bl b=>cases h.bl;cases r;exact{0,rfl,trivial}
 |int i=>cases h.int;let(t,rfl):=r;exact⟨t,rfl,trivial⟩
 |str z=>cases h.str;let(t,rfl):=r;exact⟨t,rfl,trivial⟩
 |tup xs=>let(a,e,rfl,sq,l):=h.tup g;rw [hK] at sq;cases r;let(f,q,z,_):=I.tuple sq;exact⟨a,rfl,f,e,l,q,z⟩
 |lst xs=>let(a,e,rfl,sq,l):=h.lst g;cases r;let(f,q,z,_):=I.list (mh hK sq);exact⟨a,rfl,f,e,l,q,z.isList⟩
 |exc c=>cases n<;>exact aI d
 |obj c=>cases n<;>exact aI d
 |bU a b=>cases n<;>exact aI d
def r0(W:Wd)(G:Hp)(s:iM)(n:Nat)(A:j0)(xs ys:List PV):Prop:=∀{c d:List V} {a b:List ix},ag W G xs c->ag W G ys d->Vals c a->Vals d b->∀j (e:j<a.toArray.size) (f:j<b.toArray.size),SeqAt.EqAt A s a.toArray[j] b.toArray[j] (rR n (xs.getD j .aE) (ys.getD j .aE))
theorem AW{s:iM}{n:Nat}(h:∀{p q:PV} {v u:V} {a b:ix},plain n p=ig->plain n q=ig->Rep W G p v->Rep W G q u->RelV v a->RelV u b->SeqAt.EqAt A s a b (rR n p q))(a1:xs.all (plain n)=ig)(a2:ys.all (plain n)=ig):r0 W G s n A xs ys:=λ{r us t w} d e q1 q2 j g1 g2=>by let(x,f,g):=DF q1 g1;let(y,i,k):=DF q2 g2;let(z,ex,m):=d.get f;let(B,c,o):=e.get i;rw [bD,bD,ex,c];exact h (cP.mp a1 _ (a7 ex)) (cP.mp a2 _ (a7 c)) m o g k
def xQ{s:iM}{n:Nat}{b:iN}(f:A.units<cLine)(g:r0 W G s n A.in1 xs ys)(k1:∃c vs,ag W G xs vs/\Vals vs c/\s.heap.IsTuple a c.toArray)(k2:∃c vs,ag W G ys vs/\Vals vs c/\s.heap.IsTuple b c.toArray):SeqAt.RcAt A s (.ref a) (.ref b) (eqs (rR n) xs ys):=by
 let(c,vs,l,q1,h):=k1;let(i,m,d,q2,k):=k2;have m1:c.length=xs.length:=by rw [<-q1.length,l.length]
 have m2:i.length=ys.length:=by rw [<-q2.length,d.length]
 have:=SeqAt.RcAt.tuples (e:=λj=>rR n (xs.getD j .aE) (ys.getD j .aE)) h k f (g l d q1 q2);rw [a5,a5,m1,m2,pE] at this;exact this
def xP{s:iM}{n:Nat}{b:iN}(d:A.units<cLine)(i:r0 W G s n A.in1 xs ys)(k1:∃c vs,ag W G xs vs/\Vals vs c/\s.heap.IsList a c.toArray)(k2:∃c vs,ag W G ys vs/\Vals vs c/\s.heap.IsList b c.toArray):SeqAt.RcAt A s (.ref a) (.ref b) (eqs (rR n) xs ys):=by
 let(c,vs,l,q1,f):=k1;let(k,m,g,q2,h):=k2;have m1:c.length=xs.length:=by rw [<-q1.length,l.length]
 have m2:k.length=ys.length:=by rw [<-q2.length,g.length]
 by_cases hl:xs.length=ys.length
 .have:=SeqAt.RcAt.lists (e:=λj=>rR n (xs.getD j .aE) (ys.getD j .aE)) f h (by rw [a5,a5];omega) d (i l g q1 q2);rw [a5,m1,<-lU hl] at this;exact this
 .have:=SeqAt.RcAt.lists_lengths f h (by rw [a5,a5,m1,m2];simp [hl]) d;rw [lV hl];exact this
open SeqAt.EqAt in
def w5{C:St}{s:iM}(I:Inv X aa C H s)(hK:W.K=X.K)(m:aw G H):∀(n:Nat) {A:j0} {p q:PV} {v u:V} {r t:ix},A.units+(n+1)<cLine->plain n p=ig->plain n q=ig->Top W H0 G H p v->Top W H0 G H q u->RelV v r->RelV u t->
 SeqAt.EqAt A s r t (rR n p q):=by
 intro n
 induction n with
 |zero=>
  intro A p q v u r t D d e h i j k;have a:=Hv I hK m d h j;have b:=Hv I hK m e i k;cases p<;>cases q<;>first|exact aI d|exact aI e|(let(w,rfl,_):=a;let(t2,rfl,_):=b)
  exact same _;exact none_bool _;exact none_int _ _;exact none_str _ _;exact bool_none _;exact bool_bool _ _;exact bool_int _ _ _;exact bool_str _ _ _;exact int_none _ _;exact int_bool _ _ _;exact int_int _ _ _ _;exact int_str _ _ _ _;exact str_none _ _;exact str_bool _ _ _;exact str_int _ _ _ _;exact str_str _ _ _ _
 |succ n E=>
  intro A p q v u r t D d e h i j k;have c:A.units<cLine:=by omega
  have a:=Hv I hK m d h j;have b:=Hv I hK m e i k;have z:∀{xs B:List PV},xs.all (plain n)=ig->B.all (plain n)=ig->r0 W G s n A.in1 xs B:=λa1 a2=>AW (λd e h i j k=>E (by show A.units+1+(n+1)<_;omega) d e (.inl h) (.inl i) j k) a1 a2;cases p<;>cases q<;>first|exact aI d|exact aI e|(let(w,rfl,y):=a;let(t2,rfl,k2):=b;try let(_,_,_,_,f):=id y;try let(_,_,_,_,g):=id k2)
  exact same _;exact none_bool _;exact none_int _ _;exact none_str _ _;exact none_tuple g c;exact none_list g c;exact bool_none _;exact bool_bool _ _;exact bool_int _ _ _;exact bool_str _ _ _;exact bool_tuple _ g c;exact bool_list _ g c;exact int_none _ _;exact int_bool _ _ _;exact int_int _ _ _ _;exact int_str _ _ _ _;exact int_tuple _ _ g c;exact int_list _ _ g c;exact str_none _ _;exact str_bool _ _ _;exact str_int _ _ _ _;exact str_str _ _ _ _;exact str_tuple _ _ g c;exact str_list _ _ g c;exact tuple_none f c;exact tuple_bool _ f c;exact tuple_int _ _ f c;exact tuple_str _ _ f c;by_cases o:w=t2
  .subst o;cases md j;cases md k;rw [w6 I hK m (n+1) d e h i];exact same _
  .exact of_refs o (xQ c (z d e) y k2)
  exact tuple_list f g c;exact list_none f c;exact list_bool _ f c;exact list_int _ _ f c;exact list_str _ _ f c;exact list_tuple f g c;by_cases o:w=t2
  .subst o;cases md j;cases md k;rw [w6 I hK m (n+1) d e h i];exact same _
  .exact of_refs o (xP c (z d e) y k2)
end
section
variable{W:Wd}
open SeqAt.RcAt in
def NU{z:St}{s:iM}(I:Inv X aa z H s)(hK:W.K=X.K)(h:aw G H)(n:Nat){p:PV}{u:V}{r t:ix}(B:A.units+(n+2)<cLine)(f:plain (n+1) p=ig)(g:plain (n+1) q=ig)(i:Top W H0 G H p v)(j:Top W H0 G H q u)(k:RelV v r)(m:RelV u t):
 SeqAt.RcAt A s r t (rR (n+1) p q):=by
 have c:A.units<cLine:=by omega
 have a:=Hv I hK h f i k;have b:=Hv I hK h g j m;have w:∀{xs y:List PV},xs.all (plain n)=ig->y.all (plain n)=ig->r0 W G s n A.in1 xs y:=λa1 a2=>AW (λf g i j k m=>w5 (H0:=H0) I hK h n (by show A.units+1+(n+1)<_;omega) f g (.inl i) (.inl j) k m) a1 a2;cases p<;>cases q<;>first|exact aI f|exact aI g|(let(C,rfl,o):=a;let(t2,rfl,k2):=b;try let(_,_,_,_,d):=id o;try let(_,_,_,_,e):=id k2)
 exact none_none;exact none_bool _;exact none_int _ _;exact none_str _ _;exact none_tuple e c;exact none_list e c;exact bool_none _;exact bool_bool _ _;exact bool_int _ _ _;exact bool_str _ _ _;exact bool_tuple _ e c;exact bool_list _ e c;exact int_none _ _;exact int_bool _ _ _;exact int_int _ _ _ _;exact int_str _ _ _ _;exact int_tuple _ _ e c;exact int_list _ _ e c;exact str_none _ _;exact str_bool _ _ _;exact str_int _ _ _ _;exact str_str _ _ _ _;exact str_tuple _ _ e c;exact str_list _ _ e c;exact tuple_none d c;exact tuple_bool _ d c;exact tuple_int _ _ d c;exact tuple_str _ _ d c;exact xQ c (w f g) o k2;exact tuple_list d e c;exact list_none d c;exact list_bool _ d c;exact list_int _ _ d c;exact list_str _ _ d c;exact list_tuple d e c;exact xP c (w f g) o k2
def zJ{s:iM}{n:Nat}{b:iN}(f:A.units<cLine)(g:r0 W G s n A.in1 xs ys)(k1:∃c vs,ag W G xs vs/\Vals vs c/\s.heap.IsTuple a c.toArray)(k2:∃c vs,ag W G ys vs/\Vals vs c/\s.heap.IsTuple b c.toArray):SeqAt.RcNeAt A s (.ref a) (.ref b) (!eqs (rR n) xs ys):=by
 let(c,vs,l,q1,h):=k1;let(i,m,d,q2,k):=k2;have m1:c.length=xs.length:=by rw [<-q1.length,l.length]
 have m2:i.length=ys.length:=by rw [<-q2.length,d.length]
 have:=SeqAt.RcNeAt.tuples (e:=λj=>rR n (xs.getD j .aE) (ys.getD j .aE)) h k f (g l d q1 q2);rw [a5,a5,m1,m2,pE] at this;exact this
def zI{s:iM}{n:Nat}{b:iN}(d:A.units<cLine)(i:r0 W G s n A.in1 xs ys)(k1:∃c vs,ag W G xs vs/\Vals vs c/\s.heap.IsList a c.toArray)(k2:∃c vs,ag W G ys vs/\Vals vs c/\s.heap.IsList b c.toArray):SeqAt.RcNeAt A s (.ref a) (.ref b) (!eqs (rR n) xs ys):=by
 let(c,vs,l,q1,f):=k1;let(k,m,g,q2,h):=k2;have m1:c.length=xs.length:=by rw [<-q1.length,l.length]
 have m2:k.length=ys.length:=by rw [<-q2.length,g.length]
 by_cases hl:xs.length=ys.length
 .have:=SeqAt.RcNeAt.lists (e:=λj=>rR n (xs.getD j .aE) (ys.getD j .aE)) f h (by rw [a5,a5];omega) d (i l g q1 q2);rw [a5,m1,<-lU hl] at this;exact this
 .have:=SeqAt.RcNeAt.lists_lengths f h (by rw [a5,a5,m1,m2];simp [hl]) d;rw [lV hl];exact this
open SeqAt.RcNeAt in
def F7{z:St}{s:iM}(I:Inv X aa z H s)(hK:W.K=X.K)(h:aw G H)(n:Nat){p:PV}{u:V}{r t:ix}(B:A.units+(n+2)<cLine)(f:plain (n+1) p=ig)(g:plain (n+1) q=ig)(i:Top W H0 G H p v)(j:Top W H0 G H q u)(k:RelV v r)(m:RelV u t):
 SeqAt.RcNeAt A s r t (!rR (n+1) p q):=by
 have c:A.units<cLine:=by omega
 have a:=Hv I hK h f i k;have b:=Hv I hK h g j m;have w:∀{xs y:List PV},xs.all (plain n)=ig->y.all (plain n)=ig->r0 W G s n A.in1 xs y:=λa1 a2=>AW (λf g i j k m=>w5 (H0:=H0) I hK h n (by show A.units+1+(n+1)<_;omega) f g (.inl i) (.inl j) k m) a1 a2;cases p<;>cases q<;>first|exact aI f|exact aI g|(let(C,rfl,o):=a;let(t2,rfl,k2):=b;try let(_,_,_,_,d):=id o;try let(_,_,_,_,e):=id k2)
 exact none_none;exact none_bool _;exact none_int _ _;exact none_str _ _;exact none_tuple e c;exact none_list e c;exact bool_none _;exact bool_bool _ _;exact bool_int _ _ _;exact bool_str _ _ _;exact bool_tuple _ e c;exact bool_list _ e c;exact int_none _ _;exact int_bool _ _ _;exact int_int _ _ _ _;exact int_str _ _ _ _;exact int_tuple _ _ e c;exact int_list _ _ e c;exact str_none _ _;exact str_bool _ _ _;exact str_int _ _ _ _;exact str_str _ _ _ _;exact str_tuple _ _ e c;exact str_list _ _ e c;exact tuple_none d c;exact tuple_bool _ d c;exact tuple_int _ _ d c;exact tuple_str _ _ d c;exact zJ c (w f g) o k2;exact tuple_list d e c;exact list_none d c;exact list_bool _ d c;exact list_int _ _ d c;exact list_str _ _ d c;exact list_tuple d e c;exact zI c (w f g) o k2
end
end Ci
namespace L2
open PySem.Spec PyProof.Rows
open PySem.AutoSeq1 (wpAny_loadPart')
theorem wm(l:iN)(items:Array ix)(n:Nat)(dd:Option iN)(a:Array (Option ix))(u:Tok):
 Meets (kr.«tuple.__mul__» {[.ref l,.int 1 u],[]}) (λZ R s=>s.heap.get? l=hT {cls:=.type "tuple",dict:=dd,data:=.seq items n,slots:=a}/\R (.ok (.ret (ix.ref l))) s):=
 .of_wp λprog w A R s h=>by
  let(b,g,d,c,os):=s;let(hl,h):=h;have e:=PySem.AutoSeq1.idx_int;have f:=PySem.AutoSeq1.sub_tuple_tuple
  wp_walk using wpAny_loadPart' hl
  exact{_,rfl,h}
def Cp:d5 X (binaryOp .Mult) (λx y H Q=>∃a xs,x=.ref a/\y=.int 1/\dF X.K H a xs/\Q (.ref a) H):=by
 intro p s w H x y v u Q I i j h;let(a,xs,rfl,rfl,m,q):=h;cases i;let(t,rfl):=j;let(c,r,p1,_):=I.tuple m;let((cls,d,e,f),b,g,k,hd):=id p1
 simp only at g hd;subst g hd;refine wpAny_binaryOp_repeat_ref (T:="tuple") (U:="int") (by decide) {_,b,rfl} (λo=>typeIs_int o 1 t) fc PySem.F.fills_int_mul PySem.F.slot_int_rmul j6 PySem.F.slot_int_index.lookup
  (call_meets PySem.F.slot_int_rmul (typeIs_int s 1 t) PySem.F.entry_int_rmul (PySem.F.args_int_rmul_2 _ _) (gI 1 t a c.toArray k d f)
   {b,rfl,{_,b,rfl},call_meets PySem.F.slot_tuple_mul {_,b,rfl} PySem.F.entry_tuple_mul (PySem.F.args_tuple_mul_2 _ _) (wm a c.toArray k d f t) {b,?_}})
 exact{.ref a,H,I,rfl,q}
def C6(z:Str):zL z 1=z:=by unfold zL;simp
def uf:d5 X (binaryOp .Mult) (λx y H Q=>∃z,x=.str z/\y=.int 1/\z.length<1000/\Q (.str z) H):=by
 intro c s d H x y v u Q I a b h;let(z,rfl,rfl,e,q):=h;let(t,rfl):=a;let(f,rfl):=b;refine PySem.P.mul_str (by decide) (λZ Z=>?_) (λZ Z=>?_) ?_
 .rw [Int.ediv_one];omega
 .show kr.Str.tooLong _=iv;unfold kr.Str.tooLong;have g:(1000000:Nat)<=sizeLine:=by decide
  exact zz0 (by show¬j3<z.length*1;omega)
 rw [if_neg (by decide),if_pos (by rfl)];exact{.str z,H,I.tok _,{_,rfl},q}
end L2
namespace Ci
open L2
section
variable{W:Wd}
def vz(hK:W.K=X.K){d:St}{s:iM}{xs:List V}(I:Inv X aa d H s)(h:oU W.K H a xs):∃(b:List ix) (n:Nat),Vals xs b/\xs.length=b.length/\xs.length<=j3/\s.heap.get? a=hT {cls:=.type "list",data:=.seq b.toArray n}:=by
 rw [hK] at h;rcases h with h|⟨b,n,f,g,c⟩
 .let(z,b,n,r,e):=h.ok I.aJ;exact⟨b,n,r,r.length,z,e⟩
 .refine{b.toList,n,c,c.length,?_,by simpa using I.iR a _ f};rw [c.length,d1];exact g
def FH(hK:W.K=X.K):d5 X (binaryOp .Add) (λx y H Q=>∃l b xs a,x=.ref l/\y=.ref b/\oU W.K H l xs/\oU W.K H b a/\xs.length+a.length<=j3/\∀p,H p=ie->Q (.ref p) (upd H p (.lst (xs++a)))):=by
 intro w s z H x y v u Q I f g h;let(l,b,xs,a,rfl,rfl,i,j,A,q):=h;cases f;cases g;let(c,n,r,hl,_,e):=vz hK I i;let(d,B,k,m,_,o):=vz hK I j;refine PySem.P.add_list e o ?_ (by rw [a5,a5];omega);have t:c.toArray++d.toArray=(c++d).toArray:=by simp
 rw [t];exact{.ref _,_,I.Nt (t':=s.toks) (r.append k) (by rw [bF];omega),rfl,q _ I.fresh}
def FP(hK:W.K=X.K):d5 X (binaryOp .Mult) (λx y H Q=>∃l k xs,x=.ref l/\y=.int k/\oU W.K H l xs/\0<=k/\k<1000/\xs.length<1000/\∀p,H p=ie->Q (.ref p) (upd H p (.lst (k6 k.toNat xs).flatten))):=by
 intro E s G H x y v u Q I i j h;let(l,k,xs,rfl,rfl,o,J,L,M,q):=h;cases i;let(t,rfl):=j;let(b,n,r,hl,_,e):=vz hK I o
 have g:xs.length*k.toNat<=sizeLine:=by
  have:xs.length*k.toNat<=1000*1000:=Nat.mul_le_mul (by omega) (by omega);have N:(1000000:Nat)<=sizeLine:=by decide
  omega
 have c:b.toArray.size*k.toNat<=sizeLine:=by rw [a5,<-hl];exact g
 have w:¬b.toArray.size*k.toNat>(2^63-1)/8:=by
  have:(j3:Nat)<=(2^63-1)/8:=by decide
  omega
 have z:¬(!Builtin.List.listFitsIndex k)=ig:=by rw [fitsIndex_both (by omega) (by omega)];exact zzf
 have A:¬kr.List.listTooLong (b.toArray.size*k.toNat)=ig:=by rw [t8 c];exact zzf
 have B:List.foldl (λd f=>d++f) #[] (k6 (if b.toArray.isEmpty=ig then 0 else k.toNat) b.toArray)=(k6 k.toNat b).flatten.toArray:=by
  have C:∀m:Nat,List.foldl (λd f=>d++f) #[] (k6 m b.toArray)=(k6 m b).flatten.toArray:=λm=>by have:=foldl_rep b m [];rw [List.nil_append] at this;exact this
  rw [C];cases b with
  |nil=>simp|cons a O=>rw [if_neg (by simp)]
 refine wpAny_binaryOp_repeat_ref (T:="list") (U:="int") (by decide) {_,e,rfl} (λD=>typeIs_int D k t) noFill_list_mul PySem.F.fills_int_mul PySem.F.slot_int_rmul repeat_list PySem.F.slot_int_index.lookup
  (call_meets PySem.F.slot_int_rmul (typeIs_int s k t) PySem.F.entry_int_rmul (PySem.F.args_int_rmul_2 _ _) (int___rmul___int_list k t l b.toArray n)
   {e,rfl,{_,e,rfl},call_meets PySem.F.slot_list_mul {_,e,rfl} PySem.F.entry_list_mul (PySem.F.args_list_mul_2 _ _) (AutoListH.list___mul___list_int_3 l b.toArray n k t z w A) {e,?_}})
 rw [B];exact{.ref _,_,I.Nt (t':=s.toks) (r.rep k.toNat) (by rw [len_rep,Nat.mul_comm];exact g),rfl,q _ I.fresh}
theorem ag.rep(h:ag W G ps vs):∀k:Nat,ag W G (k6 k ps).flatten (k6 k vs).flatten
 |0=>.nil|k+1=>by rw [List.replicate_succ,List.replicate_succ,List.flatten_cons,List.flatten_cons];exact h.append (h.rep k)
def FI:d5 X (binaryOp .Add) (λx y H Q=>∃a b xs ys,x=.ref a/\y=.ref b/\dF X.K H a xs/\dF X.K H b ys/\xs.length+ys.length<=j3/\(xs=[]->Q (.ref b) H)/\(ys=[]->Q (.ref a) H)/\∀p,H p=ie->Q (.ref p) (upd H p (.tup (xs++ys)))):=by
 intro r s t H x y v u Q I w z h;let(a,b,xs,ys,rfl,rfl,f,g,A,q1,q2,q3):=h;cases w;cases z;by_cases i:xs=[]
 .subst i;let(B,C,p1,_):=I.tuple f;let(D,P,p2,_):=I.tuple g;have E:B=[]:=C.l5.mpr rfl;subst E;let((cls,G,j,J),k,m,n,hd):=id p1;let((o,L,d,M),q,lX,N,c):=id p2
  simp only at m hd lX c;subst m hd lX c;exact PySem.concat_meets {_,k,rfl} {_,q,rfl} PySem.noFill_tuple_add PySem.seq_tuple_add PySem.F.slot_tuple_add PySem.F.entry_tuple_add (PySem.F.args_tuple_add_2 _ _)
   (PyProof.Rows.tuple_addW0 a b ([]:List ix).toArray D.toArray n N G L J M (by simp)) {k,q,{.ref b,H,I,rfl,q1 rfl}}
 .refine FJ r s t H (.ref a) (.ref b) (.ref a) (.ref b) Q I rfl rfl {a,b,xs,ys,rfl,rfl,f,g,i,A,λe=>q2 e,λZ p O=>q3 p O}
abbrev OT:HE->Operator
 |.add=>.Add|.sub=>.Sub|.mul=>.Mult|.mod=>.Mod|.fdiv=>.FloorDiv
abbrev rY(W:Wd)(f:PV->PV->Res PV):R2:=λx y H Q=>∃a G p q r,aw G H/\Top W a G H p x/\Top W a G H q y/\f p q=.ok r/\dm W G H r Q
set_option tactic.hygienic true in
def Kc(hK:W.K=X.K)(o:HE):d5 X (binaryOp (OT o)) (rY W (binOp o)):=by
 intro j s k H x y v u Q I m t h;let(R,G,p,q,r,c,g,t2,e,f):=h;unfold binOp at e;split at e
 .cases e;exact Kb j s k H x y v u Q I m t {_,_,g.int,t2.int,f.at c .i}
 .split at e
  .rename_i hl;cases e;exact vN j s k H x y v u Q I m t {_,_,g.str,t2.str,gO hl,f.at c .s}
  .cases e
 .split at e
  .rename_i hl;cases e;let(a,B,rfl,A,w):=g.lst c;let(b,F,rfl,E,D):=t2.lst c;exact FH hK j s k H _ _ v u Q I m t {a,b,B,F,rfl,rfl,A,E,by rw [w.length,D.length];exact gO hl,λp C=>f.lst c (w.append D) C}
  .cases e
 .split at e
  .rename_i hl;cases e;have J:=g;have P:=t2;let(a,B,rfl,A,w):=g.tup c;let(b,F,rfl,E,D):=t2.tup c;rw [hK] at A E;have m1:=w.length;have m2:=D.length;refine FI j s k H _ _ v u Q I m t {a,b,B,F,rfl,rfl,A,E,by rw [m1,m2];exact gO hl,λz=>?_,λz=>?_,λp C=>f.tup c (w.append D) C}
   .subst z;rename_i xs O;have:xs=[]:=List.length_eq_zero_iff.mp m1.symm;subst this;exact f.at c (P.elim id λz=>z.elim)
   .subst z;rename_i xs O;have:O=[]:=List.length_eq_zero_iff.mp m2.symm;subst this;rw [hG] at f;exact f.at c (J.elim id λz=>z.elim)
  .cases e
 .cases e;exact Kq j s k H x y v u Q I m t {_,_,g.int,t2.int,f.at c .i}
 .split at e
  .rename_i d;cases e;refine Kn j s k H x y v u Q I m t {_,_,g.int,t2.int,?_,f.at c .i};rw [e6] at d;unfold bO at d;simp! [zza,zzN] at d;exact d
  .cases e
 .split at e
  .rename_i d;cases e;let(a,B,rfl,A,w):=g.lst c;exact FP hK j s k H _ _ v u Q I m t {a,_,B,rfl,t2.int,A,d.1,d.2.1,by rw [w.length];exact d.2.2,λp C=>f.lst c (w.rep _) C}
  .cases e
 .split at e
  .rename_i d;cases e;have J:=g;let(a,B,rfl,A,w):=g.tup c;rw [hK] at A;have m1:=w.length;rename_i xs L;by_cases M:L=1
   .subst M;refine Cp j s k H _ _ v u Q I m t {a,B,rfl,t2.int,A,?_};have ex:(k6 (1:Int).toNat xs).flatten=xs:=by
     show(k6 1 xs).flatten=xs;simp
    rw [ex] at f;exact f.at c (J.elim id λz=>z.elim)
   .exact FL j s k H _ _ v u Q I m t {a,_,B,rfl,t2.int,A,by omega,d.2.1,by rw [m1];exact d.2.2.1,by rw [m1];exact d.2.2.2,λp C=>f.tup c (w.rep _) C}
  .cases e
 .split at e
  .rename_i d;cases e;rename_i N L;by_cases M:L=1
   .subst M;refine uf j s k H x y v u Q I m t {_,g.str,t2.int,d.2.2.2,?_};rw [show zL N (1:Int).toNat=N from C6 N] at f;exact f.at c .s
   .exact vO j s k H x y v u Q I m t {_,_,g.str,t2.int,by omega,d.2.1,d.2.2.1,d.2.2.2,f.at c .s}
  .cases e
 .split at e
  .rename_i d;cases e;exact Km j s k H x y v u Q I m t {_,_,g.int,t2.int,d,f.at c .i}
  .cases e
 .split at e
  .rename_i d;cases e;exact FK j s k H x y v u Q I m t {_,_,g.int,t2.int,d,f.at c .i}
  .cases e
 .cases e
def GH:Ox X (unaryOp .USub) (λx H Q=>∃(H0 G:Hp) (i:Int),aw G H/\Top W H0 G H (.int i) x/\dm W G H (.int (-i)) Q):=by intro a s b H x v Q I c h;let(H0,G,i,d,t,e):=h;exact Ln a s b H x v Q I c {i,t.int,e.at d .i}
abbrev lK:rZ->CmpOp
 |.eq=>.Eq|.ne=>.NotEq|.lt=>.Lt|.le=>.LtE|.gt=>.Gt|.ge=>.GtE|.is=>.Is|.Hh=>.In|.LR=>.NotIn|.JZ=>.NotEq
def jv{a:St}{s:iM}{k:Bool}(I:Inv X aa a H s)(c:aw G H)(d:dm W G H (.bl k) Q):EP X aa a Q (.bool k) s:={.bl k,H,I,rfl,d.at c .b}
def Kd(hK:W.K=X.K)(i:X.A.units+64<cLine):d5 X (compareOp .Eq) (rY W qU):=by
 intro j s k H x y v u Q I c d h;let(m,G,p,q,r,b,f,t2,e,g):=h;unfold qU at e;split at e
 .rename_i a;rw [zza] at a;cases e;exact NU I hK b 8 (by omega) a.1 a.2 f t2 c d _ _ _ _ (jv I b g)
 .cases e
def Kp(hK:W.K=X.K)(i:X.A.units+64<cLine):d5 X (compareOp .NotEq) (rY W vM):=by
 intro j s k H x y v u Q I c d h;let(m,G,p,q,r,b,f,t2,e,g):=h;unfold vM at e;split at e
 .rename_i a;rw [zza] at a;cases e;exact F7 I hK b 8 (by omega) a.1 a.2 f t2 c d _ _ _ _ (jv I b g)
 .cases e
theorem iP:∀{xs:List PV} {vs:List V} {ns:List Int},ag W G xs vs->intsOf xs=hT ns->vs=ns.map V.int
 |[],vs,ns,h,e=>by simp! [ag] at h;subst h;cases e;rfl
 |.int i::r,vs,ns,h,e=>by let(v,t,rfl,a,b):=h.aN;simp! [Rep] at a;subst a;unfold intsOf at e;let(m,hm,rfl):=bC.mp e;rw [iP b hm];rfl|.aE::_,_,_,_,e=>by cases e
 |.bl _::_,_,_,_,e=>by cases e
 |.str _::_,_,_,_,e=>by cases e
 |.tup _::_,_,_,_,e=>by cases e
 |.lst _::_,_,_,_,e=>by cases e
 |.exc _::_,_,_,_,e=>by cases e
 |.bU _ _::_,_,_,_,e=>by cases e
theorem kS:∀{xs:List PV} {vs:List V} {ns:List Bool},ag W G xs vs->boolsOf xs=hT ns->vs=ns.map V.bl
 |[],vs,ns,h,e=>by simp! [ag] at h;subst h;cases e;rfl
 |.bl i::r,vs,ns,h,e=>by let(v,t,rfl,a,b):=h.aN;simp! [Rep] at a;subst a;unfold boolsOf at e;let(m,hm,rfl):=bC.mp e;rw [kS b hm];rfl|.aE::_,_,_,_,e=>by cases e
 |.int _::_,_,_,_,e=>by cases e
 |.str _::_,_,_,_,e=>by cases e
 |.tup _::_,_,_,_,e=>by cases e
 |.lst _::_,_,_,_,e=>by cases e
 |.exc _::_,_,_,_,e=>by cases e
 |.bU _ _::_,_,_,_,e=>by cases e
theorem i6:∀{xs:List PV} {vs:List V} {ns:List Str},ag W G xs vs->strsOf xs=hT ns->vs=ns.map V.str
 |[],vs,ns,h,e=>by simp! [ag] at h;subst h;cases e;rfl
 |.str i::r,vs,ns,h,e=>by let(v,t,rfl,a,b):=h.aN;simp! [Rep] at a;subst a;unfold strsOf at e;let(m,hm,rfl):=bC.mp e;rw [i6 b hm];rfl|.aE::_,_,_,_,e=>by cases e
 |.int _::_,_,_,_,e=>by cases e
 |.bl _::_,_,_,_,e=>by cases e
 |.tup _::_,_,_,_,e=>by cases e
 |.lst _::_,_,_,_,e=>by cases e
 |.exc _::_,_,_,_,e=>by cases e
 |.bU _ _::_,_,_,_,e=>by cases e
def Res.of_ok{c:Type}{o:Option c}{a:c}(h:Res.of o=.ok a):o=hT a:=by
 cases o with
 |none=>cases h
 |some b=>cases h;rfl
def Kk(hK:W.K=X.K)(C:X.A.units+64<cLine):d5 X (compareOp .Lt) (rY W vL):=by
 intro d s f H x y v u Q I g i h;let(D,G,p,q,r,c,j,t2,e,k):=h;unfold vL at e;split at e
 .cases e;exact NI d s f H x y v u Q I g i {_,_,j.int,t2.int,k.at c .b}
 .let(ns,m,e):=Res.aC e;let(ms,o,e):=Res.aC e;cases e;let(a,E,rfl,q1,t):=j.tup c;let(b,F,rfl,q2,w):=t2.tup c;rw [hK] at q1 q2;have z:=iP t (Res.of_ok m);have B:=iP w (Res.of_ok o);subst z B;exact Kl (by omega) d s f H _ _ v u Q I g i {a,b,ns,ms,rfl,rfl,q1,q2,k.at c .b}
 .cases e
def Kj:d5 X (compareOp .LtE) (rY W vK):=by
 intro a s c H x y v u Q I d f h;let(k,G,p,q,r,g,i,t2,e,j):=h;unfold vK at e;split at e
 .cases e;exact NH a s c H x y v u Q I d f {_,_,i.int,t2.int,j.at g .b}
 .cases e
def Kf:d5 X (compareOp .Gt) (rY W Cm):=by
 intro i s j H x y v u Q I a c h;let(k,G,p,q,r,d,f,t2,e,g):=h;unfold Cm at e;split at e
 .cases e;exact NG i s j H x y v u Q I a c {_,_,f.int,t2.int,g.at d .b}
 .cases e;let(t,rfl):=(f.str▸a:RelV (.str _) v);let(m,rfl):=(t2.str▸c:RelV (.str _) u);exact PySem.P.gt_str (mU I (g.at d .b) rfl)
 .cases e
def Ke:d5 X (compareOp .GtE) (rY W vJ):=by
 intro a s c H x y v u Q I d f h;let(k,G,p,q,r,g,i,t2,e,j):=h;unfold vJ at e;split at e
 .cases e;exact NF a s c H x y v u Q I d f {_,_,i.int,t2.int,j.at g .b}
 .cases e
def yW{p:PV}{x:V}(d:aw G H)(t:Top W H0 G H p x):decide (x=.aE)=xq p:=by
 cases p with
 |aE=>cases t.aE;rfl
 |bl b=>cases t.bl;rfl
 |int b=>cases t.int;rfl
 |str b=>cases t.str;rfl
 |tup b=>let(a,e,rfl,_):=t.tup d;rfl|lst b=>let(a,e,rfl,_):=t.lst d;rfl|bU b c=>let(a,e,rfl,_):=t.bU d;rfl|exc c=>
  rcases t with t|t
  .simp! [Rep] at t;let(a,C,rfl,_):=t;rfl
  .exact t.elim
 |obj n=>
  rcases t with t|t
  .simp! [Rep] at t;let(o,_,rfl):=t;rfl
  .exact t.elim
def Ki:d5 X (compareOp .Is) (rY W Cn):=by
 intro c s d H x y v u Q I f g h;let(k,G,p,q,r,a,i,t2,e,j):=h;unfold Cn at e;split at e
 .cases e;refine Kh c s d H x y v u Q I f g {t2.aE,?_};rw [yW a i];exact j.at a .b
 .cases e;exact Co c s d H x y v u Q I f g {_,_,i.bl,t2.bl,j.at a .b}
 .cases e
end
end Ci
namespace Ci
open L2 PySem.W
section
variable{W:Wd}
theorem x9{b:Type}{k:Str}{p:b}:∀{ks:List Str} {vs:List b},cm ks vs k=hT p->p∈vs
 |[],_,h=>nomatch h|_::_,[],h=>nomatch h|a::ks,v::vs,h=>by
  unfold cm at h;split at h
  .cases h;exact b4
  .exact bw _ (x9 h)
def E3{F:St}{s:iM}(I:Inv X aa F H s)(hK:W.K=X.K)(J:aw G H)(Y:A.units+32<cLine){b:List Str}{vs':List PV}{c:List V}{g:List (Key×ix)}(C:ag W G vs' c)(L:vs'.all l8=ig)(M:KV (kz b c) g):
 ∀{ks:List Str} {vs:List PV} {us:List V} {xs:List (Key×ix)},ks.length=us.length->ag W G vs us->vs.all l8=ig->KV (kz ks us) xs->KeqHits A s g xs (E1 b vs' ks vs):=by
 intro ks
 induction ks with
 |nil=>intro vs us xs hl l i r;rw [JQ] at r;cases r;exact .nil
 |cons k ks j=>
  intro vs us xs hl l i r;cases us with
  |nil=>cases hl
  |cons u us=>
   cases vs with
   |nil=>simp! [ag] at l;cases l
   |cons n vs=>
    let(_,_,e,N,O):=l.aN
    cases e;rw [g8] at r;cases r with
    |@cons p q Z qs h t=>
     let(D,E):=h;let(qk,qv):=q;dsimp only at D E;subst D;rw [List.all_cons,zza] at i;have rest:=j (zx6 hl) O i.2 t;have d:=M.val (ki k)
     rw [gL] at d;unfold E1;cases o:cm b vs' k with
     |none=>
      have P:cm b c k=ie:=by
       cases z:cm b c k with
       |none=>rfl|some w=>
        exfalso
        have B:∀(b:List Str) (vs':List PV) (c:List V),ag W G vs' c->cm b vs' k=ie->cm b c k≠hT w:=λb=>by
         induction b with
         |nil=>intro vs' c _ _ z;cases z
         |cons a b j=>
          intro vs' c l e z;cases c with
          |nil=>cases z
          |cons u c=>
           cases vs' with
           |nil=>simp! [ag] at l;cases l
           |cons v vs'=>
            let(_,_,Q,_,R):=l.aN;cases Q;unfold cm at e z;split at e
            .cases e
            .rename_i S;rw [if_neg S] at z;exact j _ _ R e z
        exact B b vs' c C o z
      rw [P] at d;cases f:valueAt g (ki k) with
      |none=>exact .miss f|some y=>rw [f] at d;exact d.elim
     |some m=>
      let(w,T,U):=km C o
      rw [T] at d;cases f:valueAt g (ki k) with
      |none=>rw [f] at d;exact d.elim|some y=>rw [f] at d;exact .hit (y:=y) f (w5 I hK J DP (by show A.units+(9+1)<_;omega) i.1 (cP.mp L _ (x9 o)) (.inl N:Top W H G H n u) (.inl U) E d) rest
def Ko(hK:W.K=X.K)(O:X.A.units+64<cLine):d5 X (compareOp .NotEq) (rY W ud):=by
 intro P s R H x y v u Q I t w h;let(S,G,p,q,r,c,z,t2,e,B):=h;unfold ud at e;split at e
 .split at e
  .rename_i d;rw [zza] at d;cases e;let(a,T,rfl,k,f,C):=z.bU c;let(b,U,rfl,D,g,E):=t2.bU c;cases t;cases w;let(_,i,xs,m,F):=jn I.aJ f;let(_,j,J,o,L):=jn I.aJ g;have M:xs.length=_:=(m.length).symm.trans (gK k);have N:J.length=_:=(o.length).symm.trans (gK D);refine keq_ne i j F L (by omega) (λZ=>E3 I hK c (by show X.A.units+1+32<_;omega) E d.2 o k C d.1 m) ?_;rw [M,N];exact jv I c B
  .cases e
 .cases e
end
end Ci
namespace Ci
open L2
section
variable{W:Wd}
def g7{M:St}{s:iM}(I:Inv X aa M H s)(hK:W.K=X.K)(q:aw G H){a:PV}{x:V}{t:ix}{us:List V}{d:List ix}(hu:A.units+32<cLine)(N:l8 a=ig)(O:ys.all l8=ig)(P:Top W H0 G H a x)(Q:RelV x t)(l:ag W G ys us)(r:Vals us d):
 ∃e:ix->Bool,(∀y∈d,SeqAt.EqAt A s y t (e y))/\∀(j:Nat) (y:ix) (p:PV),d[j]?=hT y->ys[j]?=hT p->e y=eqv p a:=by
 classical
 have c:∀(j:Nat) (y:ix),d[j]?=hT y->∃p u,ys[j]?=hT p/\us[j]?=hT u/\Rep W G p u/\RelV u y/\l8 p=ig:=λj y e=>by have w:=(br.mp e).1;have hl:=r.length;let(u,z,R):=r.get (i:=j) (x:=us[j]'(by omega)) (zzg (by omega));rw [e] at z;cases z;let(p,B,kp):=l.get (zzg (show j<us.length by omega));exact{p,_,B,zzg (by omega),kp,R,cP.mp O p (a7 B)}
 refine{λy=>if h:∃(j:Nat) (p:PV),d[j]?=hT y/\ys[j]?=hT p then eqv h.choose_spec.choose a else iv,λy S=>?_,λj y p C D=>?_}
 .let(j,w,e):=List.getElem_of_mem S;have E:d[j]?=hT y:=by rw [zzg w,e]
  let(p,u,T,h2,h3,h4,h5):=c j y E;have b:∃(j:Nat) (p:PV),d[j]?=hT y/\ys[j]?=hT p:=⟨j,p,E,T⟩;dsimp only;rw [dif_pos b];have f:=b.choose_spec.choose_spec;let(p2,F,g1,g2,g,k,m):=c _ y f.1;have o:b.choose_spec.choose=p2:=zzq (f.2.symm.trans g1);rw [o];exact w5 (H0:=H0) I hK q 9 (by omega) m N (.inl g) P k Q
 .have b:∃(j:Nat) (p:PV),d[j]?=hT y/\ys[j]?=hT p:=⟨j,p,C,D⟩;dsimp only;rw [dif_pos b];let(p1,J,L,f2,U,Y,Z):=c j y C;rw [D] at L;cases L;have f:=b.choose_spec.choose_spec;let(p2,F,g1,g2,g,k,m):=c _ y f.1;have o:b.choose_spec.choose=p2:=zzq (f.2.symm.trans g1);have e4:J=F:=Y.inj k;subst e4;rw [o,xR I hK q DP m Z (.inl g:Top W H0 G H p2 J) (.inl U)]
def qi{c:List ix}{e:ix->Bool}{f:PV->Bool}:c.length=ys.length->(∀(j:Nat) (y:ix) (p:PV),c[j]?=hT y->ys[j]?=hT p->e y=f p)->c.any e=ys.any f:=by
 intro hl h;have:c.map e=ys.map f:=hJ (zx6 hl) λj x y d g=>by rw [cz] at d g;let(a,i,rfl):=bC.mp d;let(b,k,rfl):=bC.mp g;exact h j a b i k
 calc c.any e=(c.map e).any id:=by rw [List.any_map];rfl
  _=(ys.map f).any id:=by rw [this]
  _=ys.any f:=by rw [List.any_map];rfl
def AN{c:List ix}{e:ix->Bool}{f:PV->Bool}:c.length=ys.length->(∀(j:Nat) (y:ix) (p:PV),c[j]?=hT y->ys[j]?=hT p->e y=f p)->c.countP e=ys.countP f:=by
 intro hl h;have:c.map e=ys.map f:=hJ (zx6 hl) λj x y d g=>by rw [cz] at d g;let(a,i,rfl):=bC.mp d;let(b,k,rfl):=bC.mp g;exact h j a b i k
 calc c.countP e=(c.map e).countP id:=by rw [List.countP_map];rfl
  _=(ys.map f).countP id:=by rw [this]
  _=ys.countP f:=by rw [List.countP_map];rfl
def Kg(hK:W.K=X.K)(M:X.A.units+64<cLine):d5 X (compareOp .In) (rY W zy):=by
 intro F s J H x y v u Q I i j h;let(H0,G,p,q,r,c,m,t2,e,o):=h;have D:X.A.in1.units+32<cLine:=by show X.A.units+1+32<_;omega
 unfold zy at e;split at e
 .split at e
  .rename_i d;rw [zza] at d;cases e;let(b,t,rfl,q2,f):=t2.lst c;cases j;let(E,g,z,_):=I.list (mh hK q2);let(e,w,B):=g7 I hK c D d.1 d.2 m i f g;refine SeqAt.in_listAt e z.isList (λy C=>w y (zx6 C)) ?_;have:=qi (by rw [<-g.length,f.length]) B;rw [List.any_toArray,this];exact jv I c o
  .cases e
 .split at e
  .rename_i d;rw [zza] at d;cases e;let(b,t,rfl,q2,f):=t2.tup c;rw [hK] at q2;cases j;let(E,g,z,_):=I.tuple q2;let(e,w,B):=g7 I hK c D d.1 d.2 m i f g;refine SeqAt.in_tupleAt e (show s.heap.IsTuple b E.toArray from z) (λy C=>w y (zx6 C)) ?_;have:=qi (by rw [<-g.length,f.length]) B;rw [List.any_toArray,this];exact jv I c o
  .cases e
 .cases e;exact zA F s J H x y v u Q I i j {_,_,m.str,t2.str,o.at c .b}
 .let(k,hk,e):=Res.aC e;cases e;have hk:=et (Res.of_ok hk);subst hk;obtain rfl:=m.str;let(a,t,rfl,n,hd,l):=t2.bU c;cases j;refine PB (show X.A.units+1<cLine by omega) I (.inl {_,ki k,hd,rfl,rfl}) i λN L=>?_;rw [gL,g6 k _ t n];exact jv L c o
 .cases e
def FN(hK:W.K=X.K)(M:X.A.units+64<cLine):d5 X (compareOp .NotIn) (rY W pV):=by
 intro F s J H x y v u Q I i j h;let(H0,G,p,q,r,c,m,t2,e,o):=h;have D:X.A.in1.units+32<cLine:=by show X.A.units+1+32<_;omega
 unfold pV at e;split at e
 .split at e
  .rename_i d;rw [zza] at d;cases e;let(b,t,rfl,q2,f):=t2.lst c;cases j;let(E,g,z,_):=I.list (mh hK q2);let(e,w,B):=g7 I hK c D d.1 d.2 m i f g;refine SeqAt.notIn_listAt e z.isList (λy C=>w y (zx6 C)) ?_;have:=qi (by rw [<-g.length,f.length]) B;rw [List.any_toArray,this];exact jv I c o
  .cases e
 .split at e
  .rename_i d;rw [zza] at d;cases e;let(b,t,rfl,q2,f):=t2.tup c;rw [hK] at q2;cases j;let(E,g,z,_):=I.tuple q2;let(e,w,B):=g7 I hK c D d.1 d.2 m i f g;refine SeqAt.notIn_tupleAt e (show s.heap.IsTuple b E.toArray from z) (λy C=>w y (zx6 C)) ?_;have:=qi (by rw [<-g.length,f.length]) B;rw [List.any_toArray,this];exact jv I c o
  .cases e
 .cases e;exact qV F s J H x y v u Q I i j {_,_,m.str,t2.str,o.at c .b}
 .let(k,hk,e):=Res.aC e;cases e;have hk:=et (Res.of_ok hk);subst hk;obtain rfl:=m.str;let(a,t,rfl,n,hd,l):=t2.bU c;cases j;refine Ek (show X.A.units+1<cLine by omega) I (.inl {_,ki k,hd,rfl,rfl}) i λN L=>?_;rw [gL,g6 k _ t n];exact jv L c o
 .cases e
theorem fN(hK:W.K=X.K)(a:X.A.units+64<cLine):∀o:rZ,d5 X (compareOp (lK o)) (rY W (cX o))
 |.eq=>Kd hK a|.ne=>Kp hK a|.lt=>Kk hK a|.le=>Kj|.gt=>Kf|.ge=>Ke|.is=>Ki|.Hh=>Kg hK a|.LR=>FN hK a|.JZ=>Ko hK a
def wN{i:Int}{p:PV}(l:ag W G ps vs)(h:wL ps i=hT p):∃v,wL vs i=hT v/\Rep W G p v:=by
 unfold wL at h⊢;rw [l.length];cases e:LO ps.length i with
 |none=>rw [e] at h;cases h
 |some j=>rw [e] at h;exact l.mW h
def JJ(D:X.A.units+1<cLine):HL X (λx y H Q=>∃a b k v,x=.ref a/\Rd H a (.dK b)/\y=kV k/\kh b k=hT v/\Q v H):=by intro c slice g s i H x y v u Q I j m h hs;let(a,b,k,z,rfl,hd,rfl,p,q):=h;cases j;let(_,_,t,d,e):=jn I.aJ hd;let(f,w,B):=fX.some_of (v:=z) (o:=valueAt t k) (by rw [<-p];exact d.val k);exact PyProof.Rows.subscriptTail_builtinR (x:=f) e.typeIs PySem.F.slot_dict_getitem.lookup (wpAny_getItem_of (Q:=λr C=>r=f/\EP X g i Q r C) (k8 m) e.mapOf w {rfl,{z,H,I.tok _,B,q}}) hs
def Nl(hK:W.K=X.K)(J:X.A.units+64<cLine):HL X (rY W dC):=by
 intro b slice i s j H x y v u Q I m o h hs;let(H0,G,p,q,r,d,t,t2,e,z):=h;unfold dC at e;split at e
 .let(a,C,rfl,B,D):=t.lst d;let(w,f,g):=wN D (Res.of_ok e);exact E9 b slice i s j H _ y v u Q I m o {a,C,_,w,rfl,t2.int,mh hK B,f,z.at d g} hs
 .let(a,C,rfl,B,D):=t.tup d;rw [hK] at B;let(w,f,g):=wN D (Res.of_ok e);exact JL b slice i s j H _ y v u Q I m o {a,C,_,w,rfl,t2.int,B,f,z.at d g} hs
 .split at e
  .rename_i hl;let(c,E,e):=Res.aC e;cases e;exact JK b slice i s j H x y v u Q I m o {_,_,c,t.str,t2.int,gO hl,Res.of_ok E,z.at d .s} hs
  .cases e
 .let(k,hk,F):=Res.aC e;have hk:=et (Res.of_ok hk);subst hk;obtain rfl:=t2.str;let(a,L,rfl,n,hd,l):=t.bU d;let(w,f,g):=km l (Res.of_ok F);exact JJ (by omega) b slice i s j H _ _ v u Q I m o {a,_,ki k,w,rfl,hd,rfl,(by rw [gL];exact f),z.at d g} hs
 .cases e
def wY(a b:Option Int)(l:ag W G ps vs):ag W G (yB ps a b) (sL vs a b):=by unfold yB sL;rw [l.length];exact(l.drop _).take _
def Rv(hK:W.K=X.K):L2.Au X (λx g i H Q=>∃H0 G p r,aw G H/\Top W H0 G H p x/\j9 p g i=.ok r/\dm W G H r Q):=by
 intro j s k H x v m o g i q Q I t hs u pu h;let(H0,G,p,r,c,w,e,d):=h;unfold j9 at e;split at e
 .cases e;let(a,b,rfl,f,y):=w.lst c;exact Gg j s k H _ v m o _ _ q Q I t hs u pu {a,b,rfl,mh hK f,λp B=>d.lst c (wY _ _ y) B}
 .cases e;have D:=w.elim id λz=>z.elim;let(a,b,rfl,f,y):=w.tup c;rw [hK] at f;by_cases hw:HT.cq b.length 0 g=0/\HT.cq b.length b.length i=b.length
  .have E:∀A:List PV,A.length=b.length->yB A g i=A:=λA C=>by
    unfold yB;rw [C,hw.1,hw.2,<-C];simp
   rw [E _ y.length.symm] at d;exact Gh j s k H _ v m o _ _ q Q I t hs u pu {a,b,rfl,f,hw,d.at c D}
  .exact K7 j s k H _ v m o _ _ q Q I t hs u pu {a,b,rfl,f,hw,λp B=>d.tup c (wY _ _ y) B}
 .split at e
  .rename_i hl;cases e;exact K6 j s k H _ v m o _ _ q Q I t hs u pu {_,w.str,gO hl,d.at c .s}
  .cases e
 .cases e
def Ao(W:Wd)(f:List PV->Res PV):List V->Hp->VK->Prop:=λb H Q=>∃H0 G a r,aw G H/\Paired (λv p=>Top W H0 G H p v) b a/\f a=.ok r/\dm W G H r Q
def fi{p:PV}(h:Paired (λv p=>Top W H0 G H p v) vs [p]):∃v,vs=[v]/\Top W H0 G H p v:=by
 cases h with
 |cons h t=>cases t;exact{_,rfl,h}
def p9{p:PV}(h:Paired (λv p=>Top W H0 G H p v) vs [p,q]):∃v u,vs=[v,u]/\Top W H0 G H p v/\Top W H0 G H q u:=by
 cases h with
 |cons h t=>
  cases t with
  |cons a t2=>cases t2;exact{_,_,rfl,h,a}
def ym(hK:W.K=X.K):bP X (.builtin "len") (Ao W AB):=by
 intro f s g H xs j Q I r h;let(H0,G,q,w,b,tp,e,c):=h;unfold AB at e;split at e
 .cases e;let(v,rfl,t):=fi tp;let(a,k,rfl,d,m):=t.lst b;exact je f s g H _ j Q I r {a,k,rfl,.inl (mh hK d),by rw [m.length];exact c.at b .i}
 .cases e;let(v,rfl,t):=fi tp;let(a,k,rfl,d,m):=t.tup b;rw [hK] at d;exact je f s g H _ j Q I r {a,k,rfl,.inr d,by rw [m.length];exact c.at b .i}
 .split at e
  .rename_i hl;cases e;let(v,rfl,t):=fi tp;exact qm f s g H _ j Q I r {_,by rw [t.str],gO hl,c.at b .i}
  .cases e
 .cases e;let(v,rfl,t):=fi tp;let(a,y,rfl,n,hd,l):=t.bU b;let(u,rfl,o):=vals1 r;cases o;exact Mx I hd λt z p=>{.int _,H,p,⟨t,rfl⟩,by rw [gK n];exact c.at b .i}
 .cases e
def yo(a:X.calm=ig):bP X (.builtin "max") (Ao W AD):=by
 intro b s c H xs d Q I r h;let(H0,G,j,k,f,tp,e,g):=h;unfold AD at e;split at e
 .cases e;let(v,u,rfl,t,t2):=p9 tp;exact yn a b s c H _ d Q I r {_,_,by rw [t.int,t2.int],g.at f .i}
 .cases e
def yt(a:X.calm=ig):bP X (.builtin "min") (Ao W AE):=by
 intro b s c H xs d Q I r h;let(H0,G,j,k,f,tp,e,g):=h;unfold AE at e;split at e
 .cases e;let(v,u,rfl,t,t2):=p9 tp;exact yq a b s c H _ d Q I r {_,_,by rw [t.int,t2.int],g.at f .i}
 .cases e
def yj:bP X (.type "int") (Ao W AA):=by
 intro a s b H xs c Q I r h;let(H0,G,j,k,d,tp,e,f):=h;unfold AA at e;split at e
 .split at e
  .rename_i hl;let(n,g,e):=Res.aC e;cases e;let(v,rfl,t):=fi tp;exact ql a s b H _ c Q I r {_,n,by rw [t.str],Res.of_ok g,hl,f.at d .i}
  .cases e
 .cases e;let(v,rfl,t):=fi tp;exact pe a s b H _ c Q I r (.inl {_,by rw [t.int],f.at d .i})
 .cases e;let(v,rfl,t):=fi tp;exact pe a s b H _ c Q I r (.inr {_,by rw [t.bl],f.at d .i})
 .cases e
def yu:bP X (.type "str") (Ao W AF):=by
 intro a s b H xs c Q I r h;let(H0,G,g,i,d,tp,e,f):=h;unfold AF at e;split at e
 .split at e
  .rename_i hl;cases e;let(v,rfl,t):=fi tp;exact qq a s b H _ c Q I r {_,by rw [t.int],hl,f.at d .s}
  .cases e
 .cases e
def sy(hK:W.K=X.K):bP X (.type "tuple") (Ao W mz):=by
 intro f s g H xs i Q I r h;let(H0,G,q,u,b,tp,e,j):=h;unfold mz at e;split at e
 .cases e;let(v,rfl,t):=fi tp;let(a,d,rfl,c,k):=t.lst b;exact ij f s g H _ i Q I r {a,d,rfl,.inl {mh hK c,λp m=>j.tup b k m}}
 .cases e;let(v,rfl,t):=fi tp;have o:=t;let(a,d,rfl,c,k):=t.tup b;rw [hK] at c;exact ij f s g H _ i Q I r {a,d,rfl,.inr {c,j.at b (o.elim id λz=>z.elim)}}
 .cases e
def yi(d:X.calm=ig)(hK:W.K=X.K):bP X (.builtin "all") (Ao W Az):=by
 intro f s g H xs i Q I r h;let(H0,G,p,q,c,tp,e,j):=h;unfold Az at e;split at e
 .let(bs,k,e):=Res.aC e;cases e;let(v,rfl,t):=fi tp;let(a,u,rfl,m,o):=t.lst c;cases kS o (Res.of_ok k);exact AH d f s g H _ i Q I r {a,bs,rfl,mh hK m,j.at c .b}
 .cases e
def Ov(W:Wd)(f:List PV->Res PV):V->List V->Hp->VK->Prop:=λx a H Q=>Ao W f (x::a) H Q
theorem rM:∀{ys:List Str} {a:List ix},Vals (ys.map V.str) a->PyProof.Rows.StrsAre a ys
 |[],_,.nil=>.nil|y::ys,_,.cons r t=>by let(tk,rfl):=r;exact .cons y tk (rM t)
def B2(hK:W.K=X.K):Ls X "str.join" (Ov W tX):=by
 intro E s F H x xs v J Q I o r h;let(H0,G,L,M,c,tp,e,p):=h;unfold tX at e;split at e
 .let(q,d,e):=Res.aC e;split at e
  .rename_i b;cases e;let(w,y,f,t,t2):=p9 tp;cases f;cases t.str;let(A,rfl):=o;let(a,B,rfl,g,i):=t2.lst c;let(u,rfl,j):=Vals.one r;cases j;cases i6 i (Res.of_ok d);let(C,m,z,_):=I.list (mh hK g);refine PyProof.Rows.join_listW z.isList (by simpa using rM m) b.1 (c0 b.2 (by decide)) λD k=>{.str _,H,I.tok _,{_,rfl},p.at c .s}
  .cases e
 .let(q,d,e):=Res.aC e;split at e
  .rename_i b;cases e;let(w,y,f,t,t2):=p9 tp;cases f;cases t.str;let(A,rfl):=o;let(a,B,rfl,g,i):=t2.tup c;let(u,rfl,j):=Vals.one r;cases j;cases i6 i (Res.of_ok d);let(C,m,z,_):=I.tuple (hK▸g);refine PyProof.Rows.join_tupleW z (by simpa using rM m) b.1 (c0 b.2 (by decide)) λD k=>{.str _,H,I.tok _,{_,rfl},p.at c .s}
  .cases e
 .cases e
def vD(hK:W.K=X.K)(C:X.A.units+64<cLine):Ls X "list.count" (Ov W jW):=by
 intro D s E H x xs v J Q I g r h;let(H0,G,L,M,b,tp,e,j):=h;unfold jW at e;split at e
 .split at e
  .rename_i c;rw [zza] at c;cases e;let(N,O,k,t,t2):=p9 tp;cases k;let(a,P,rfl,m,d):=t.lst b;cases g;let(u,rfl,o):=Vals.one r;let(p,n,q,hl,_,e):=vz hK I m;let(f,w,z):=g7 (A:=X.A.in1) I hK b (by show X.A.units+1+32<_;omega) c.1 c.2 t2 o d q;refine PySem.call_meets PySem.F.slot_list_count {_,e,rfl} PySem.F.entry_list_count (PySem.F.args_list_count_2 _ _) (SeqAt.list_countAt a p.toArray n ie #[] u f) {e,λy B=>w y (zx6 B),?_};refine{.int _,H,I.tok _,{_,rfl},?_};rw [AN (by rw [<-hl,d.length]) z];exact j.at b .i
  .cases e
 .cases e
set_option tactic.hygienic true in
def zg(hK:W.K=X.K)(T:X.A.units+64<cLine):Ls X "list.index" (Ov W ni):=by
 intro U s V H x xs v Y Q I B r h;let(H0,G,Z,rr,g,tp,e,C):=h;unfold ni at e;split at e
 .rename_i b w;split at e
  .rename_i d;rw [zza,zza] at d;split at e
   .rename_i j k;cases e;let(v1,u1,D,t,t2):=p9 tp;cases D;let(a,vs,rfl,E,o):=t.lst g;cases B;let(u,rfl,J):=Vals.one r;let(c,n,L,hl,_,e):=vz hK I E;have p:c.length=b.length:=by rw [<-hl,o.length]
    have SN:b.length<1000:=zzY d.2;let(f,M,q):=g7 (A:=X.A.in1) I hK g (by show X.A.units+1+32<_;omega) d.1.1 d.1.2 t2 J o L;rw [List.findIdx?_eq_some_iff_getElem] at k;let(N,O,P):=k;refine PySem.call_meets PySem.F.slot_list_index {_,e,rfl} PySem.F.entry_list_index (PySem.F.args_list_index_2 _ _) (SeqAt.list_indexAt a c.toArray n ie #[] u f j (by simpa using (by omega:j<c.length)) (by omega) ?_ λm Tb R=>?_) {e,λy S=>M y (zx6 S),{.int _,H,I.tok _,{_,rfl},C.at g .i}}
    .have:=q j (c[j]'(by omega)) b[j] (zzg (by omega)) (zzg N);simpa using this.trans O
    .have hm:m<b.length:=by omega
     have:=q m (c[m]'(by omega)) b[m] (zzg (by omega)) (zzg hm);have z:=P m R;simp! [Bool.not_eq_true] at z;simpa using this.trans z
   .cases e
  .cases e
 .cases e
abbrev wB:Ty->String
 |.int=>"int"|.bool=>"bool"|.str=>"str"|.tuple=>"tuple"
def Nq{K:zz8}(t:Ty):Cw.D3 K "NoneType" (wB t) iv/\(∀b,Cw.D3 K "bool" (wB t) (vq t (.bl b)))/\(∀i,Cw.D3 K "int" (wB t) (vq t (.int i)))/\(∀z,Cw.D3 K "str" (wB t) (vq t (.str z)))/\(∀z,Cw.D3 K "tuple" (wB t) (vq t (.tup z)))/\(∀z,Cw.D3 K "list" (wB t) (vq t (.lst z))):=by
 cases t
 all_goals refine{?_,λb=>?_,λb=>?_,λb=>?_,λb=>?_,λb=>?_}
 all_goals first
  |exact Cw.BM _
  |exact Cw.BL (b:=iv) (by decide+kernel) (by decide+kernel) (by decide+kernel)
  |exact Cw.BL (b:=ig) (by decide+kernel) (by decide+kernel) (by decide+kernel)
def AI(hK:W.K=X.K)(t:Ty):bP X (.builtin (zu 17)) (λxs H Q=>∃v H0 G p r,xs=[v,.ty (wB t)]/\aw G H/\Top W H0 G H p v/\GD t p=.ok r/\dm W G H r Q):=by
 intro M s N H xs O Q I q h;let(v,H0,G,p,r,rfl,f,tp,e,g):=h;let(u,P,rfl,i,k):=Vals.two q;cases k;let(w,k2,y,A,B,C):=Nq (K:=X.K) t
 cases p with
 |exc c=>cases e
 |obj c=>cases e
 |bU a b=>cases e
 |aE=>cases e;cases tp.aE;cases i;cases t<;>exact PySem.W.kia_one PySem.W.kitx_none I.iR True.intro w nofun λd=>⟨.bl _,H,I.tok d,rfl,g.at f .b⟩
 |bl b=>cases e;cases tp.bl;cases i;exact PySem.W.kia_one PySem.W.kitx_bool I.iR True.intro (k2 b) nofun λd=>⟨.bl _,H,I.tok d,rfl,g.at f .b⟩
 |int b=>cases e;cases tp.int;let(D,rfl):=i;exact PySem.W.kia_one PySem.W.kitx_int I.iR True.intro (y b) nofun λd=>⟨.bl _,H,I.tok d,rfl,g.at f .b⟩
 |str b=>cases e;cases tp.str;let(D,rfl):=i;exact PySem.W.kia_one PySem.W.kitx_str I.iR True.intro (A b) nofun λd=>⟨.bl _,H,I.tok d,rfl,g.at f .b⟩
 |tup b=>cases e;let(a,E,rfl,j,F):=tp.tup f;rw [hK] at j;cases i;let(J,_,(o,m,L,_),_):=I.tuple j;exact PySem.W.kia_one PySem.W.kitx_tuple I.iR ⟨o,m,L⟩ (B b) nofun λd=>{.bl _,H,I.tok d,rfl,g.at f .b}
 |lst b=>cases e;let(a,E,rfl,j,F):=tp.lst f;cases i;let(J,n,_,_,_,m):=vz hK I j;exact PySem.W.kia_one PySem.W.kitx_list I.iR {_,m,rfl} (C b) nofun λd=>{.bl _,H,I.tok d,rfl,g.at f .b}
def Gu{e:ly}(l:ag W G ps vs):ag W G (wb .aE ps e) (wb V.aE vs e):=by
 unfold wb;rw [l.length];split
 .exact l
 .have go:∀a:List Nat,ag W G (a.map λi=>ps.getD i .aE) (a.map λi=>vs.getD i V.aE):=by
   intro a
   induction a with
   |nil=>exact .nil|cons i a f=>
    refine .cons ?_ f;dsimp only;by_cases b:i<ps.length
    .let(v,g,h):=l.mW (zzg b);have c:ps.getD i .aE=ps[i]:=by simp [b]
     have d:vs.getD i V.aE=v:=by simp [g]
     rw [c,d];exact h
    .have c:ps.getD i .aE=.aE:=by simp [Nat.le_of_not_lt b]
     have d:vs.getD i V.aE=.aE:=by simp [Nat.le_of_not_lt (l.length▸b)]
     rw [c,d];exact .n
  exact go _
theorem tU:∀ks:List Str,ag W G (ks.map qL) (ks.map V.str)
 |[]=>.nil|k::ks=>.cons .s (tU ks)
set_option tactic.hygienic true in
def qp(hK:W.K=X.K)(f:X.calm=ig):bP X (.builtin "sorted") (Ao W jd):=by
 intro g s i H xs j Q I r h;let(H0,G,o,q,b,tp,e,k):=h;unfold jd at e;split at e
 .rename_i c u;split at e
  .rename_i m;cases e;let(v,rfl,t):=fi tp;let(a,w,rfl,n,hd,l):=t.bU b;exact qo f g s i H _ j Q I r {a,_,c,rfl,hd,xx n,by rw [gK n];exact m,λp d=>k _ _ _ (.new b d) (.l (.inl (.inl ak)) (ag.same (aS (b.free d)) _ (Gu (tU c))))}
  .cases e
 .cases e
theorem CQ{K:zz8}(hK:W.K=K)(d:aw G H):∀{xs:List PV} {ps:List (Str×PV)} {vs:List V},F0 xs=hT ps->ag W G xs vs->∃us,ag W G (ps.map (·.2)) us/\yg K H vs ((ps.map λp=>ki p.1).zip us)
 |[],_,_,e,l=>by cases e;simp! [ag] at l;subst l;exact{[],.nil,.nil}
 |x::xs,ps,vs,e,l=>by
  let(v,s,rfl,f,g):=l.aN;unfold F0 at e;split at e
  .rename_i a;cases a
  .rename_i a;cases a;let(k,hk,e):=dJ.mp e;let(r,h,rfl):=bC.mp e;let(us,i,p2):=CQ hK d h g;simp! [Rep] at f;let(q,t,rfl,j,b):=f;let(u,w,rfl,c,b):=b.aN;let(m,o,rfl,k2,b):=b.aN;simp! [ag] at b;subst b;rw [et hk] at c;simp! [qL,Rep] at c;subst c;refine{m::us,.cons k2 i,.cons {q,rfl,?_} p2};rw [<-hK];exact aw.tup d j.sq
  .cases e
theorem pP:∀(ps:List (Str×PV)) {us:List V} {ks:List Str} {qs:List PV} {ws:List V},ag W G (ps.map (·.2)) us->ks.length=ws.length->ag W G qs ws->∃a,(kJ ps ks qs).1.length=a.length/\ag W G (kJ ps ks qs).2 a/\gP (kz ks ws) ((ps.map λp=>ki p.1).zip us)=kz (kJ ps ks qs).1 a
 |[],us,ks,qs,ws,_,n,l=>⟨ws,n,l,rfl⟩|p::ps,us,ks,qs,ws,b,n,l=>by let(u,h,rfl,c,d):=b.aN;let(a,e,f,g):=pP ps d (nE n p.1 u) (rh (ks:=ks) (k:=p.1) l c);refine{a,e,f,?_};show gP (putK (kz ks ws) (ki p.1) u) _=_;rw [vw n];exact g
def sO(hK:W.K=X.K){xs:List V}(c:aw G H)(tp:Paired (λv p=>Top W H0 G H p v) xs ps)(e:jc ps=.ok q):∃ks qs,q=.bU ks qs/\∃a vs d,xs=[V.ref a]/\eW X.K H a vs/\yg X.K H vs d/\∃b,ks.length=b.length/\ag W G qs b/\gP [] d=kz ks b:=by
 unfold jc at e;split at e
 .let(ps,f,e):=Res.aC e;cases e;let(v,rfl,t):=fi tp;let(a,vs,rfl,g,h):=t.lst c;let(ws,lw,pw):=CQ hK c (Res.of_ok f) h;let(b,i,j,k):=pP ps (ks:=[]) (qs:=[]) (ws:=[]) lw rfl .nil;exact{_,_,rfl,a,vs,_,rfl,mh hK g,pw,b,i,j,k}
 .cases e
end
end Ci
namespace L2
open PySem.Spec PyProof.Rows
section
variable{scope:j1}{xs ys:List Str}{is:List Nat}
theorem ra{c:Nat}{a:Str}{d E:Pos}{f t iter w:iO}{F:TI}{g:TG}{tt:TT}(j:X.N.Nodup)(k:X.N[c]?=hT a)(p:Loc X.env.scope a)(M:X.calm=ig)(S:eE X scope xs ys is)(O:PI X t iter F)
 (P:∀fp s1 H1 C,PG (bg X (xs++ys) scope (bt X.env ys) fp s1 H1 C) t g) (R:∀fp s1 H1 C,PT (bg X (xs++ys) scope (bt X.env ys) fp s1 H1 C) w tt) (he:∀fp s1 H1 C,PE (bg X (xs++ys) scope (bt X.env ys) fp s1 H1 C) f te)
 (T:swapsWith (.ListComp f [{t,iter,[w],0}] scope pos) (hT (.Name a d)) E.line X.env=pure ig:=by rfl)
 (hs:∀x,foldedSetIterable iter X.env x=pure x:=by intro _;rfl) (r:X.fn a=ig\/X.env.scope.names.lookup a=hT .local:=by first|exact .inl rfl|exact .inr rfl|assumption):
 PS X (.Assign [.Name a d] (.ListComp f [{t,iter,[w],0}] scope pos) E) (Gw (mj F xs.length g tt te is) (dR c)):=by
 intro U s V H i I h;rw [exec_Assign_Name_used _ _ _ _ T];refine ar (wpAny_standAt (ar ?_));show i1 _ X.A (do let _<-comprehension (.ListComp f [⟨t,iter,[w],0⟩] scope pos) scope X.env _ (newList []) iv (eval iter X.env) (hT (assign (.Name a d) X.env))) _ _ s;refine ar (wpAny_mono (gY (QQ:=λ_ G=>∃u J,Inv X U u J G/\i.nx u J) (Q:=λv K=>dR c v V K i.nx) M S O P (λfp s1 H1 C=>xN (R fp s1 H1 C)) he hs I h λD C s4 K m W Y ⟨Z,g1,_,g3,L,g5⟩ q=>?_) (λ_ G hq=>bp (bp hq)) λ_ _ e=>e)
 refine wpAny_assign_Name (kQ W j k p (show RelV (.ref D) (.ref D) from rfl) (λs6 I6 ⟨a6,y,B⟩=>?_) r);have B4:C≠a6:=by
  rcases B with z|z
  .rw [z];exact g1
  .exact λz2=>L _ _ z z2.symm
 exact{m,Y.sameBut y B4,λh' yS=>{_,_,I6.turned (t':=s6.toks) (it:=C) (λb o hb e=>yS.extBut b o hb e) Z g1 g3 L g5,q}}
end
open PySem.AutoSeq1 (wpAny_loadPart')
section
variable{E:lq}{s:iM}{jt tu:iN}{i:Nat}{aj:Array ix}{Q:lq}
def lJ{x:ix}(c:s.heap.IsTupleIter jt tu i)(d:s.heap.IsTuple tu aj)(e:aj[i]?=hT x)
 (k:∀g,g.IsTupleIter jt tu (i+1)->j2.SameBut jt s.heap g->Q x {s with heap:=g}):i1 (jj prog w) A (kr.SmallTypes.nextOf (.ref jt)) Q E s:=by
 let(ob,b,f,a):=id c;let(m,h,_,o,j):=d;unfold kr.SmallTypes.nextOf;refine ar (wpAny_callSpecial?_slot (name:=Str.ofString (zu 34)) c.typeIs F.slot_tuple_iterator_next (wpAny_call_entry F.slot_tuple_iterator_next c.typeIs F.entry_tuple_iterator_next ?_ (F.args_tuple_iterator_next_1 _)));show i1 _ _ (field (.ref jt) 0>>=_) _ _ s;refine ar (wpAny_field b a (x:=.ref tu) rfl ?_);show i1 _ _ (if(ix.ref tu==ix.none)=ig then _ else _) _ _ s;rw [if_neg (show¬((ix.ref tu==ix.none)=ig) from zzf)];show i1 _ _ (field (.ref jt) 1>>=_) _ _ s;refine ar (wpAny_field b a (x:=.int i 0) rfl ?_);show i1 _ _ (seqItems? (.ref tu)>>=_) _ _ s;refine ar (wpAny_seqItems h j ?_);simp! [hD,e];refine ar (wpAny_setField b a (by simp) (bp {x,rfl,bp (k _ ?_ (fq ..))}));exact{_,j2.get?_update_self _ b (Obj.isFreed_of_fields (Obj.data_mapFields a _)),(Obj.cls_mapFields ..).trans f,by rw [Obj.data_mapFields a];simp [rawInt]}
def nj(f:A.handled=ie)(b:s.heap.IsTupleIter jt tu i)(h:s.heap.IsTuple tu aj)(j:aj[i]?=ie)
 (k:∀g e,j2.ExtBut jt s.heap g->(∃o,g.get? e=hT o/\o.cls=.type (zu 20))->E (.ref e) {s with heap:=g}):i1 (jj prog w) A (kr.SmallTypes.nextOf (.ref jt)) Q E s:=by
 let(ob,c,r,d):=id b;let(t,p,_,u,q):=h;unfold kr.SmallTypes.nextOf;refine ar (wpAny_callSpecial?_slot (name:=Str.ofString (zu 34)) b.typeIs F.slot_tuple_iterator_next (wpAny_call_entry F.slot_tuple_iterator_next b.typeIs F.entry_tuple_iterator_next ?_ (F.args_tuple_iterator_next_1 _)));show i1 _ _ (field (.ref jt) 0>>=_) _ _ s;refine ar (wpAny_field c d (x:=.ref tu) rfl ?_);show i1 _ _ (if(ix.ref tu==ix.none)=ig then _ else _) _ _ s;rw [if_neg (show¬((ix.ref tu==ix.none)=ig) from zzf)];show i1 _ _ (field (.ref jt) 1>>=_) _ _ s;refine ar (wpAny_field c d (x:=.int i 0) rfl ?_);show i1 _ _ (seqItems? (.ref tu)>>=_) _ _ s;refine ar (wpAny_seqItems p q ?_);simp! [hD,j];refine ar (wpAny_rule (ar (wpAny_setField c d (by simp) ?_)));show i1 _ _ (newExc (.type (zu 20)) []>>=_) _ _ _;refine ar ?_;simp! [newExc,newTuple];refine ar (wpAny_newObj_type ?_ (by size_fits));refine ar (m:=firstArgMember _ _) (wpAny_of_eq (a:=ix.none) (by first|rfl|(simp! [firstArgMember];rfl)) ?_);refine wpAny_newObj_type ?_ (by size_fits);simp! [raiseNew];refine ar (wpAny_handled ?_)
 first|rw [show A.in1.handled=ie from f]|rw [f]
 refine ar (bp (wpAny_throw ?_));exact k _ _ (((fq ..).extBut.push _).push _) {_,dI _ rfl,rfl}
end
theorem kG(j:A.handled=ie)(a b:iN)(k:b≠a)(c:Array ix):
 Draws prog w A a [a,b] c.size (λi v=>c[i]?=hT v) (λi h=>h.IsTupleIter a b i/\h.IsTuple b c) where
 live:=λZ Z st=>let⟨o,m,_⟩:=st.1;⟨o,m⟩
 frame:=λZ Z Z st hk=>{st.1.at λo e=>hk a (by simp) o e,by let(o,e,r):=st.2;exact{o,hk b (by simp) o e,r}}
 item:=λi s Q E d st p=>lJ st.1 st.2 (x:=c[i]) (by simp [d]) λg q f=>p _ g s.toks (by simp [d]) {q,by let(o,e,r):=st.2;exact{o,f.extBut _ _ k e,r}} f
 done:=λs Q E st t=>nj j st.1 st.2 (by simp) t
set_option tactic.hygienic true in
theorem yH(l:iN)(items:Array ix)(n:Nat)(bU:Option iN)(b:Array (Option ix)):
 Meets (kr.«enumerate.__new__» {[.type (zu 5),.ref l],[]}) (λZ R s=>s.heap.get? l=hT {cls:=.type "tuple",dict:=bU,data:=.seq items n,slots:=b}/\
  R (.ok (.ret (.ref (s.heap.push {cls:=.type (zu 28),data:=.fields #[.ref l,.int 0 0]}).objs.size)))
   {s with heap:=(s.heap.push {cls:=.type (zu 28),data:=.fields #[.ref l,.int 0 0]}).push {cls:=.type (zu 5),data:=.fields #[.none,.bool iv,.ref (zz9 s),rawInt 0,.none,.none]}}):=
 .of_wp λprog w A R s h=>by
  let(e,g,d,f,os):=s;let(hl,h):=h;have i:=sub_enumerate;have a:j2.IsTuple (iM.heap ⟨e,g,d,f,os⟩) l items:={_,hl,rfl,n,rfl}
  wp_walk using wpAny_loadPart' hl
  refine wpAny_stack_any λst=>bp ?_;split
  .rename_i c _ _ _ _ _;cases(c==ix.type (zu 5))<;>(wp_walk using wpAny_loadPart' hl,wpAny_pyIter_tuple a;exact{_,rfl,h})
  .wp_walk using wpAny_loadPart' hl,wpAny_pyIter_tuple a
   exact{_,rfl,h}
def fK{b:iN}{o1 o2:Obj}(d:h.get? a=hT o1)(c:h.get? b=hT o2)(e:o1.cls≠o2.cls):a≠b:=λz=>by subst z;rw [d] at c;cases c;exact e rfl
def eS(z:Str):strIterType z="str_ascii_iterator"\/strIterType z="str_iterator":=by
 unfold strIterType;split
 .exact .inl rfl
 .exact .inr rfl
def kH{k:St}{s:iM}{E:lq}{e it:iN}{G:List iN}{n i:Nat}{J:Nat->ix->Prop}{t:Nat->j2->Prop}{y:ix}{Gx:V->Prop}
 (I:Inv X aa k H s) (D:Draws X.prog X.w X.A.in1 it G n J t) (he:IsEnum s.heap e it i y) (K:t i s.heap) (T:i<n) (U:e≠it) (L:e∉G) (M:∀b∈[e,it],hX X aa H b) (W:∀u,J i u->∃x,RelV x u/\Gx x):
 zx7 X (pyNext (.ref e)) (λr s1=>∃u,r=hT u/\zx7 X (letOwnedTupleGo (.Tuple elts x1 pos) (.ref e) u) (λ_ B=>∃x p,u=.ref p/\Gx x/\H p=ie/\e≠p/\it≠p/\
  Inv X aa k (upd H p (.tup [.int i,x])) B/\(∃Y,IsEnum B.heap e it ((i:Int)+1) Y)/\t (i+1) B.heap) E s1) E s:=by
 refine wpAny_pyNext_enum_itemD D he K T U L λu Z j pu ho iu ht hz h=>?_;let(x,rx,gx):=W u pu;let(N,C,f2,O,P,Q):=M e (by simp);let(g0,g1,g2,g3,g4,g5):=M it (by simp);have mY:H (zz9 s)=ie:=I.aJ.fresh (a8 _);let(oi,F):=D.live _ _ K;have R:e≠(zz9 s):=dV (bZ he);have Vu:it≠(zz9 s):=dV (bZ F);have d:∀b o,H b=hT o->b≠e/\b≠it/\b≠(zz9 s):=λb o q=>{(λz=>(by rw [z,N] at q;cases q)),(λz=>(by rw [z,g0] at q;cases q)),dV (I.aJ.lt q)}
 have I1:Inv X aa k (upd H (zz9 s) (.tup [.int i,x])) {s with heap:=Z,toks:=j+1}:=by
  refine I.step (g':=s.gens) (d':=s.drawn) (ch:=[e,it]) (λb f=>?_) (λb o _ _ a q _=>h b o (λz=>a (by simp [z])) (λz=>a (by simp [z])) q)
   (λb o _ _ a q _=>{o.slots,h b o (λz=>a (by simp [z])) (λz=>a (by simp [z])) q}) (λb o _ q nb=>by rw [ae (dV (bZ q))];exact nb)
   (λb o a q=>{o,h b o (λz=>a (by simp [z])) (λz=>a (by simp [z])) q}) (λb xs q=>by rw [ae (d b _ q).2.2];exact q) (λb o u q=>by rw [ae (d b _ q).2.2];exact q)
   (λb ps q=>{#[],by rw [ae (d b _ q).2.2,q];simp}) (λm hm=>?_) (λb o q=>?_) I.bare
  .rcases el.mp f with z|z
   .subst z;exact⟨O,C,P,Q⟩
   .rw [d3.mp z];exact⟨g3,g1,g4,g5⟩
  .let(o,es,ep,q,r):=hm;exact{o,es,ep,h _ o (Ne.symm C) (Ne.symm g1) q,r}
  .by_cases f:b=(zz9 s)
   .subst f;rw [ak] at q;cases q;exact{(show 2<=j3 by decide),[.int i j,u],.cons ⟨j,rfl⟩ (.cons rx .nil),{_,ht,rfl,_,rfl}}
   .rw [ae f] at q;refine(I.aJ b o q).ef (λc v a z=>h c v ?_ ?_ z) (λc z=>by rw [ae (d c _ z).2.2];exact z) λc xs z=>by rw [ae (d c _ z).2.2];exact z
    .rcases a with g|g
     .rw [g];exact(d b o q).1
     .exact(d c _ g).1
    .rcases a with g|g
     .rw [g];exact(d b o q).2.1
     .exact(d c _ g).2.1
 refine{_,rfl,wpAny_letOwnedTupleGo_enum ho λh2 MX S=>?_};refine{x,(zz9 s),rfl,gx,mY,R,Vu,I1.turned (t':=j+1) (it:=e) (λb o f q=>S.extBut b o f q) (by rw [ae R];exact N) C O P Q,{_,MX},D.frame _ _ _ iu λb f o q=>S.extBut b o (λz=>L (z▸f)) q}
abbrev O9(K:zz8)(a:iN)(xs:List V):It:=
 {λi H=>dF K H a xs/\i<xs.length,λi H v b=>∃p x,v=.ref p/\H p=ie/\b=upd H p (.tup [.int (i:Nat),x])/\xs[i]?=hT x,λi H=>dF K H a xs/\i=xs.length}
abbrev Ot(z:Str):It:=
 {λi Z=>i<z.cps.size,λi H v a=>∃p c,v=.ref p/\H p=ie/\a=upd H p (.tup [.int (i:Nat),.str {#[c]}])/\z.cps[i]?=hT c,λi Z=>i=z.cps.size}
def wy{K:zz8}(a e it:iN)(xs:List V):Turn P w K (.Tuple elts x1 pos) (O9 K a xs) [e,it] e (λi h=>(∃c,IsEnum h e it i c)/\h.IsTupleIter it a i) where
 mem:=by simp
 obj:=λi h st b g=>by
  let((c,d),o,T,_,hd):=st
  rcases el.mp g with z|z
  .subst z;exact{_,d,λv q=>by cases q}
  .rw [d3.mp z];exact{o,T,λv q=>by rw [hd] at q;cases q}
 keep:=λi h U st k=>{by let(c,d):=st.1;exact{c,k e (by simp) _ d},st.2.at λo q=>k it (by simp) o q}
 item:=by
  intro X C D hK F i W s Y H E I j st G;subst C D hK;let(J,Z):=G;let((c,d),f):=st;let(m,t,p,hz):=I.tuple J;have hl:=t.length;have L:=f;let(oi,y,B,_):=f;let(oa,a1,a2,_):=id p;have M:a≠it:=fK a1 y (by rw [a2,B];decide+kernel);have Q:e≠it:=fK d y (by rw [B];show ix.type (zu 5)≠_;decide+kernel);have J0:e≠a:=fK d a1 (by rw [a2];show ix.type (zu 5)≠_;decide+kernel);refine bb (kH (Gx:=λx=>xs[i]?=hT x) I (kG (A:=X.A.in1) (I.ok.hd F) it a M m.toArray) d ⟨L,p⟩ (by rw [a5];omega) Q (by simp [Q,J0]) j (λu hu=>?_)) λr s1 ⟨u,hr,k⟩=>{u,hr,bb k λ_ s2 ⟨x,q,z1,z2,z3,z4,z5,z6,z7,z8⟩=>?_}
  .have R:xs[i]?=hT xs[i]:=zzg Z;let(u',N,O):=t.get R;have:m.toArray[i]?=hT u':=zx6 N;have S:m.toArray[i]?=hT u:=hu;rw [this] at S;cases S;exact{xs[i],O,R}
  .exact{.ref q,_,z6,z1.symm▸rfl,⟨q,x,rfl,z3,rfl,z2⟩,⟨z7,z8.1⟩,λb g=>by
    rcases el.mp g with w|w
    .rw [w,ae z4];exact(j e (by simp)).1
    .rw [d3.mp w,ae z5];exact(j it (by simp)).1}
 done:=by intro X C D hK F i W s Y H E I j st G;subst C D hK;let(J,rfl):=G;let((c,d),f):=st;let(m,t,p,hz):=I.tuple J;have hl:=t.length;have L:=f;let(oi,y,B,_):=f;let(oa,a1,a2,_):=id p;have M:a≠it:=fK a1 y (by rw [a2,B];decide+kernel);let(g0,g1,g2,g3,g4,g5):=j it (by simp);refine wpAny_pyNext_enum_endD (kG (A:=X.A.in1) (I.ok.hd F) it a M m.toArray) d {by rw [a5,<-hl];exact L,p} λU eb=>{rfl,I.turned (t':=s.toks) (λb o g q=>eb b o g q) g0 g1 g3 g4 g5}
 self:=λ_ _ _ _ _ st h=>by let((c,d),_):=st;exact wpAny_pyIter_enum d h
def ox{E:lq}{s:iM}{l:iN}{Q:lq}(e:IsTup s.heap l items)
 (h:∀g,IsEnum g ((zz9 s)+1) (zz9 s) 0 .none->g.IsTupleIter (zz9 s) l 0->(∀b o,s.heap.get? b=hT o->g.get? b=hT o)->Q (.ref ((zz9 s)+1)) {s with heap:=g}):
 i1 (jj prog w) A (call (.type (zu 5)) [.ref l]) Q E s:=by
 let((cls,f,data,i),j,a,n,hd):=id e;simp only at a hd;subst a hd;have c:(s.heap.push {cls:=.type (zu 28),data:=.fields #[.ref l,.int 0 0]}).objs.size=(zz9 s)+1:=j2.size_push ..;refine callType_new F.called_enumerate (by decide) (F.typeCall_enumerate_1 _) (F.newCall_enumerate_1 _) (λobj=>F.args_object_init_2 obj _) F.entry_enumerate_new (yH l items n f i) {j,?_};show _/\_;rw [c];have d:IsEnum ((s.heap.push {cls:=.type (zu 28),data:=.fields #[.ref l,.int 0 0]}).push {cls:=.type (zu 5),data:=.fields #[.none,.bool iv,.ref (zz9 s),rawInt 0,.none,.none]}) ((zz9 s)+1) (zz9 s) 0 .none:=by have q:=dI (s.heap.push {cls:=.type (zu 28),data:=.fields #[.ref l,.int 0 0]}) (o:={cls:=.type (zu 5),data:=.fields #[.none,.bool iv,.ref (zz9 s),rawInt 0,.none,.none]}) rfl;rw [c] at q;exact q
 exact{{_,d,rfl},h _ d {_,aT _ (dI _ rfl),rfl,rfl} λb o x=>aT _ (aT _ x)}
section
variable{lQ:Pos}
abbrev Qv(K:zz8)(c:TA):TI:=λd H R=>c d H λe b=>∃a xs,e=[.ref a]/\dF K b a xs/\R (O9 K a xs) b
theorem CJ{a:iO}{i:TA}{p:Pos}(t:Gl X (zu 5))(hm:X.mg (zu 5)=ie)(w:PA X [a] i)(hs:starEach [a] X.env=[(iv,eval a X.env)]:=by rfl):PI X (.Tuple elts x1 lQ) (.Call (.Name (zu 5) p) [a] [] pos) (Qv X.K i):=by
 intro j s k H R I h;refine Call_ (dX I t hm boot_enumerate (PyProof.Rows.callWith_type1 (bb (w pos j s k H _ I h) λF c f=>?_) hs rfl));let(G,m,d,y,q1):=f;let(a,xs,e,A,q):=q1;subst e;let(u,rfl,B):=vals1 y;cases B;let(J,L,pt,M):=d.tuple A;refine ox pt λg o C kp=>wpAny_pyIter_enum o ?_;have D:Inv X j k m {c with heap:=g}:=d.kept (t':=c.toks) kp;refine{(zz9 c)+1,[(zz9 c)+1,(zz9 c)],_,_,m,rfl,D,wy a _ (zz9 c) xs,{{_,o},C},λb E=>?_,q}
 have r:(zz9 c)<=b:=by
  rcases el.mp E with z|z
  .rw [z];exact Nat.le_succ _
  .rw [d3.mp z];exact a8 _
 exact d.mV r (d.aJ.fresh r)
end
def wx{K:zz8}(z:Str)(t:Tok)(e it:iN):Turn P w K (.Tuple elts x1 pos) (Ot z) [e,it] e (λi h=>(∃a,IsEnum h e it i a)/\h.IsStrIter it (strIterType z) z t i) where
 mem:=by simp
 obj:=λi h st b g=>by
  let((a,f),o,Z,_,hd):=st
  rcases el.mp g with q|q
  .subst q;exact{_,f,λv q=>by cases q}
  .rw [d3.mp q];exact{o,Z,λv q=>by rw [hd] at q;cases q}
 keep:=λi h O st k=>{by let(a,f):=st.1;exact{a,k e (by simp) _ f},by let(o,q,r):=st.2;exact{o,k it (by simp) o q,r}}
 item:=by
  intro X C F hK j i Q s R H E I m st G;subst C F hK;have bR:i<z.cps.size:=G;let((a,f),d):=st;have p:=d;let(oi,e1,e2,_):=d
  have S:e≠it:=fK f e1 (by rw [e2];show ix.type (zu 5)≠_;rcases eS z with q|q<;>rw [q]<;>decide+kernel)
  have fin:∀{y:Nat->j2->Prop},Draws X.prog X.w X.A.in1 it [it] z.cps.size (λi v=>∃c u,z.cps[i]?=hT c/\v=.str {#[c]} u) y->y i s.heap->(∀h,y (i+1) h->h.IsStrIter it (strIterType z) z t (i+1))->
   zx7 X (pyNext (.ref e)) (λr T=>∃u,r=hT u/\zx7 X (letOwnedTupleGo (.Tuple elts x1 pos) (.ref e) u) (λ_ B=>∃x J,Inv X Q R J B/\RelV x u/\(Ot z).Lp i H x J/\((∃a,IsEnum B.heap e it (((i+1:Nat)):Int) a)/\B.heap.IsStrIter it (strIterType z) z t (i+1))/\∀b∈[e,it],J b=ie) E T) E s:=by
   intro y D dh back;refine bb (kH (Gx:=λx=>∃c,x=.str {#[c]}/\z.cps[i]?=hT c) I D f dh bR S (by simp [S]) m (λu ⟨c,tk,j,hu⟩=>{.str {#[c]},⟨tk,hu⟩,c,rfl,j})) λr T ⟨u,hr,k⟩=>{u,hr,bb k λ_ B L=>?_};let(x,q,z1,(c,z2,M),z3,z4,z5,z6,z7,z8):=L
   subst z2;exact{.ref q,_,z6,z1.symm▸rfl,⟨q,c,rfl,z3,rfl,M⟩,{z7,back _ z8},λb g=>by
    rcases el.mp g with w|w
    .rw [w,ae z4];exact(m e (by simp)).1
    .rw [d3.mp w,ae z5];exact(m it (by simp)).1}
  rcases eS z with q|q
  .rw [q] at p⊢;rw [q] at fin;exact fin (Draws.strAscii (A:=X.A.in1) (I.ok.hd j) it z t) p λh st=>st
  .rw [q] at p⊢;rw [q] at fin;exact fin (Draws.strWide (A:=X.A.in1) (I.ok.hd j) it z t) p λh st=>st
 done:=by
  intro X C F hK j i Q s R H E I m st G;subst C F hK;have hi:i=z.cps.size:=G;subst hi;let((a,f),d):=st;let(U,g1,g2,V,W,Y):=m it (by simp)
  rcases eS z with q|q
  .rw [q] at d;exact wpAny_pyNext_enum_endD (Draws.strAscii (A:=X.A.in1) (I.ok.hd j) it z t) f d λO N=>{rfl,I.turned (t':=s.toks) (λb o g q=>N b o g q) U g1 V W Y}
  .rw [q] at d;exact wpAny_pyNext_enum_endD (Draws.strWide (A:=X.A.in1) (I.ok.hd j) it z t) f d λO N=>{rfl,I.turned (t':=s.toks) (λb o g q=>N b o g q) U g1 V W Y}
 self:=λ_ _ _ _ _ st h=>by let((a,f),_):=st;exact wpAny_pyIter_enum f h
section
variable{lQ:Pos}
abbrev Qu(a:TA):TI:=λb H R=>a b H λc d=>∃z,c=[.str z]/\R (Ot z) d
theorem CI{a:iO}{i:TA}{p:Pos}(w:Gl X (zu 5))(hm:X.mg (zu 5)=ie)(y:PA X [a] i)(hs:starEach [a] X.env=[(iv,eval a X.env)]:=by rfl):PI X (.Tuple elts x1 lQ) (.Call (.Name (zu 5) p) [a] [] pos) (Qu i):=by
 intro j s k H R I h;refine Call_ (dX I w hm boot_enumerate (PyProof.Rows.callWith_type1 (bb (y pos j s k H _ I h) λE c d=>?_) hs rfl));let(F,m,f,A,q1):=d;let(z,e,q):=q1;subst e;let(u,rfl,t,rfl):=vals1 A;refine call_enumerate_str λg o B G kp=>wpAny_pyIter_enum o ?_;have C:Inv X j k m {c with heap:=g}:=f.kept (t':=c.toks) kp;refine{(zz9 c)+1,[(zz9 c)+1,(zz9 c)],_,_,m,rfl,C,wx z t _ (zz9 c),{{_,o},B},λb D=>?_,q}
 have r:(zz9 c)<=b:=by
  rcases el.mp D with z|z
  .rw [z];exact Nat.le_succ _
  .rw [d3.mp z];exact a8 _
 exact f.mV r (f.aJ.fresh r)
end
abbrev HK(K:zz8)(a:iN)(xs:List V):It:=
 {λi H=>eW K H a xs/\i<xs.length,λi H v b=>∃p x,v=.ref p/\H p=ie/\b=upd H p (.tup [.int (i:Nat),x])/\xs[i]?=hT x,λi H=>eW K H a xs/\i=xs.length}
def wu{K:zz8}(a e it:iN)(xs:List V):Turn P w K (.Tuple elts x1 pos) (HK K a xs) [e,it] e (λi h=>(∃c,IsEnum h e it i c)/\h.IsListIter it a i) where
 mem:=by simp
 obj:=λi h st b g=>by
  let((c,d),o,T,_,hd):=st
  rcases el.mp g with z|z
  .subst z;exact{_,d,λv q=>by cases q}
  .rw [d3.mp z];exact{o,T,λv q=>by rw [hd] at q;cases q}
 keep:=λi h U st k=>{by let(c,d):=st.1;exact{c,k e (by simp) _ d},st.2.at λo q=>k it (by simp) o q}
 item:=by
  intro X C D hK F i W s Y H E I j st G;subst C D hK;let(J,Z):=G;let((c,d),f):=st;let(m,t,p,hz):=I.list J;have hl:=t.length;have L:=f;let(oi,y,B,_):=f;let(oa,a1,a2,_):=p.isList;have M:a≠it:=fK a1 y (by rw [a2,B];decide+kernel);have Q:e≠it:=fK d y (by rw [B];show ix.type (zu 5)≠_;decide+kernel);have J0:e≠a:=fK d a1 (by rw [a2];show ix.type (zu 5)≠_;decide+kernel);refine bb (kH (Gx:=λx=>xs[i]?=hT x) I (Draws.list (A:=X.A.in1) (I.ok.hd F) it a M m.toArray) d ⟨L,p.isList⟩ (by rw [a5];omega) Q (by simp [Q,J0]) j (λu hu=>?_)) λr s1 ⟨u,hr,k⟩=>{u,hr,bb k λ_ s2 ⟨x,q,z1,z2,z3,z4,z5,z6,z7,z8⟩=>?_}
  .have R:xs[i]?=hT xs[i]:=zzg Z;let(u',N,O):=t.get R;have:m.toArray[i]?=hT u':=zx6 N;have S:m.toArray[i]?=hT u:=hu;rw [this] at S;cases S;exact{xs[i],O,R}
  .exact{.ref q,_,z6,z1.symm▸rfl,⟨q,x,rfl,z3,rfl,z2⟩,⟨z7,z8.1⟩,λb g=>by
    rcases el.mp g with w|w
    .rw [w,ae z4];exact(j e (by simp)).1
    .rw [d3.mp w,ae z5];exact(j it (by simp)).1}
 done:=by intro X C D hK F i W s Y H E I j st G;subst C D hK;let(J,rfl):=G;let((c,d),f):=st;let(m,t,p,hz):=I.list J;have hl:=t.length;have L:=f;let(oi,y,B,_):=f;let(oa,a1,a2,_):=p.isList;have M:a≠it:=fK a1 y (by rw [a2,B];decide+kernel);let(g0,g1,g2,g3,g4,g5):=j it (by simp);refine wpAny_pyNext_enum_endD (Draws.list (A:=X.A.in1) (I.ok.hd F) it a M m.toArray) d {by rw [a5,<-hl];exact L,p.isList} λU eb=>{rfl,I.turned (t':=s.toks) (λb o g q=>eb b o g q) g0 g1 g3 g4 g5}
 self:=λ_ _ _ _ _ st h=>by let((c,d),_):=st;exact wpAny_pyIter_enum d h
section
variable{lQ:Pos}
abbrev Qt(K:zz8)(c:TA):TI:=λd H R=>c d H λe b=>∃a xs,e=[.ref a]/\eW K b a xs/\R (HK K a xs) b
theorem uh{a:iO}{i:TA}{p:Pos}(t:Gl X (zu 5))(hm:X.mg (zu 5)=ie)(w:PA X [a] i)(hs:starEach [a] X.env=[(iv,eval a X.env)]:=by rfl):PI X (.Tuple elts x1 lQ) (.Call (.Name (zu 5) p) [a] [] pos) (Qt X.K i):=by
 intro j s k H R I h;refine Call_ (dX I t hm boot_enumerate (PyProof.Rows.callWith_type1 (bb (w pos j s k H _ I h) λF c f=>?_) hs rfl));let(G,m,d,y,q1):=f;let(a,xs,e,A,q):=q1;subst e;let(u,rfl,B):=vals1 y;cases B;let(J,L,pt,M):=d.list A;refine call_enumerate_list pt.isList λg o C Z kp=>wpAny_pyIter_enum o ?_;have D:Inv X j k m {c with heap:=g}:=d.kept (t':=c.toks) kp;refine{(zz9 c)+1,[(zz9 c)+1,(zz9 c)],_,_,m,rfl,D,wu a _ (zz9 c) xs,{{_,o},C},λb E=>?_,q}
 have r:(zz9 c)<=b:=by
  rcases el.mp E with z|z
  .rw [z];exact Nat.le_succ _
  .rw [d3.mp z];exact a8 _
 exact d.mV r (d.aJ.fresh r)
variable{s:iM}{ch:List iN}
def Inv.moved{tk:Nat}(I:zv3 s)(e:∀b∈ch,hX X aa H b)(d:∀b o,b∉ch->s.heap.get? b=hT o->h'.get? b=hT o):Inv X aa σ H {s with heap:=h',toks:=tk}:=by
 have g:∀b o,H b=hT o->b∉ch:=λb o q z=>by rw [(e b z).1] at q;cases q
 refine I.step (g':=s.gens) (d':=s.drawn) (ch:=ch) (λb h=>?_) (λb o Z Z a q Z=>d b o a q) (λb o Z Z a q Z=>{o.slots,d b o a q}) (λZ Z Z Z n=>n)
  (λb o a q=>{o,d b o a q}) (λb xs q=>q) (λb o u q=>q) (λb y q=>{#[],by rw [q];simp}) (λm hm=>?_) (λb o q=>?_) I.bare
 .let(A,i,B,j,k,p):=e b h;exact⟨j,i,k,p⟩
 .let(o,t,w,q,r):=hm;exact{o,t,w,d _ o (λz=>(e _ z).2.1 rfl) q,r}
 .refine(I.aJ b o q).ef (λc v a z=>d c v ?_ z) (λc z=>z) λc xs z=>z
  rcases a with f|f
  .rw [f];exact g b o q
  .exact g c _ f
end
structure Zd where
 it:iN
 fp:List iN
 n:Nat
 P:Nat->ix->Prop
 St:Nat->j2->Prop
structure Mc(prog:i2)(w:i3)(A:j0)(z TI TO:iN)(ds:List Zd):Prop where
 D:∀d∈ds,Draws prog w A d.it d.fp d.n d.P d.St
 zf:∀d∈ds,z∉d.fp/\TO∉d.fp/\d.it≠z/\d.it≠TO/\d.it≠TI
 ap:ds.Pairwise λa b=>a.it∉b.fp/\b.it∉a.fp
 tz:TI≠z/\TO≠z/\TI≠TO
noncomputable abbrev iz(h:j2)(T:iN)(xs:Array ix):Prop:=h.get? T=hT {cls:=.type "tuple",data:=.seq xs}
section
variable{E:lq}{s:iM}{z TI TO:iN}{ds:List Zd}{k:Nat}
def Pn(z TI TO:iN)(k:Nat)(e:j2)(ds:List Zd)(rest:List (ix×Nat))(h:j2):Prop:=
 ∃a b xs f,ds=a++b/\rest=(b.map λd=>ix.ref d.it).zipIdx a.length/\Paired (λd x=>d.P k x) a xs/\f.length=b.length/\IsZip h z TI TO .ellipsis/\iz h TO (xs++f).toArray/\
  (∀d∈a,d.St (k+1) h)/\(∀d∈b,d.St k h)/\h.objs.size=e.objs.size/\∀c o,c≠z->c≠TO->(∀d∈ds,c≠d.it)->e.get? c=hT o->h.get? c=hT o
def uL{Q:Fin->iM->Prop}(Z:Mc prog w A z TI TO ds)(hl:ds.length<=9)(fI:ds≠[])(hz:IsZip s.heap z TI TO .none)(Vc:iz s.heap TI (ds.map λd=>ix.ref d.it).toArray)(Vd:∃c,iz s.heap TO c/\c.size=ds.length)(hs:∀d∈ds,d.St k s.heap/\k<=d.n)
 (hQ:∀h' tk xs,Paired (λd x=>d.P k x) ds xs->IsZip h' z TI TO (rawInt (zz9 s))->(∃c,iz h' TO c/\c.size=ds.length)->(∀d∈ds,d.St (k+1) h')->iz h' (zz9 s) xs.toArray->h'.objs.size=(zz9 s)+1->
  (∀c o,c≠z->c≠TO->(∀d∈ds,c≠d.it)->s.heap.get? c=hT o->h'.get? c=hT o)->Q (.done (.ret (.ref (zz9 s)))) {s with heap:=h',toks:=tk})
 (hE:∀h' tk e,(∃d∈ds,d.n<=k)->(∀c o,c≠z->c≠TO->(∀d∈ds,c≠d.it)->s.heap.get? c=hT o->h'.get? c=hT o)->(∃o,h'.get? e=hT o/\o.cls=.type (zu 20))->E (.ref e) {s with heap:=h',toks:=tk}):
 i1 (jj prog w) A (kr.«zip.__next__» {[.ref z],[]}) Q E s:=by
 let(t1,t2,t3):=Z.tz;show i1 _ _ (field (.ref z) 2>>=_) _ _ _;refine ar (wpAny_field hz rfl (x:=.bool iv) rfl ?_);show i1 _ _ (field (.ref z) 3>>=_) _ _ _;refine ar (wpAny_field hz rfl (x:=.ref TI) rfl ?_);refine ar (wpAny_seqItems Vc rfl ?_);have Qa:(ds.map λd=>ix.ref d.it).toArray.isEmpty=iv:=by cases ds<;>simp_all
 simp! [Qa,d2,if_false];show i1 _ _ (kr.SmallTypes.ownedTupleIsFree (.ref z)>>=_) _ _ _;refine ar ?_;unfold kr.SmallTypes.ownedTupleIsFree;refine ar (wpAny_field hz rfl (x:=.none) rfl (bp ?_));simp! [if_true];refine ar (wpAny_rule ?_);refine ar (wpAny_field hz rfl (x:=.ref TO) rfl ?_);refine ar (wpAny_setField_rec hz (by simp) λt p f=>?_);replace p:IsZip t z TI TO .ellipsis:=p;refine ar ?_;let(c,hc,tx):=Vd;have Np:∀{h h':j2},j2.SameBut z h h'->∀d∈ds,∀{i},d.St i h->d.St i h':=λH d hd i q=>(Z.D d hd).frame _ _ _ q λb u o e=>H.extBut b o (λx=>(Z.zf d hd).1 (x▸u)) e;refine wpAny_forIn_list _ (λrest b W=>b=⟨ie,PUnit.unit⟩/\∃h tk,W={s with heap:=h,toks:=tk}/\Pn z TI TO k s.heap ds rest h) _ ?_ ?_ _ _ {rfl,t,s.toks,rfl,[],ds,[],c.toList,rfl,rfl,.nil,zx6 tx,p,?_,(λd hd=>nomatch hd),(λd hd=>Np f d hd (hs d hd).1),f.1,λc o h1 _ _ e=>f.extBut _ _ h1 e}
 .rintro ⟨OO,j⟩ rest b W ⟨rfl,h,tk,rfl,I,lf,xs,O,rfl,R,pr,B,C,F,X,U,G,S⟩
  cases lf with
  |nil=>cases R
  |cons d lf=>
   simp! [bc,List.zipIdx_cons,List.cons.injEq,Prod.mk.injEq] at R;let((rfl,rfl),rfl):=R;have hd:d∈I++d::lf:=by simp
   have D:=Z.D d hd;let(f1,f2,f3,f4,f5):=Z.zf d hd
   refine ar (wpAny_onRaise ?_);show i1 _ _ (kr.SmallTypes.nextOf (.ref d.it)>>=_) _ _ _;have SE:∀a∈I++lf,d.it∉a.fp/\a.it∉d.fp:=λa g=>by
    have q:=List.pairwise_append.1 Z.ap
    rcases List.mem_append.1 g with g|g
    .exact(q.2.2 a g d (b4 ..)).symm
    .exact(List.pairwise_cons.1 q.2.1).1 a g
   by_cases hk:k<d.n
   .refine ar (D.item k _ _ _ hk (U d (b4 ..)) λx L Wf px D4 H=>bp ?_);have Y:iz L TO (xs++O).toArray:=H.extBut _ _ (Ne.symm f4) F;refine ar (wpAny_seqItems Y rfl ?_);have lx:=Paired.length pr
    obtain⟨y,r,rfl⟩:∃y r,O=y::r:=by cases O with|nil=>cases B|cons y r=>exact⟨y,r,rfl⟩
    have M9:(xs++y::r).toArray.size<=sizeLine:=by
     have:(xs++y::r).toArray.size<=9:=by simp! [a5,bF,bE] at B hl⊢;omega
     exact c0 this (by decide)
    refine ar (wpAny_updateSeq Y rfl ?_ M9 (by rw [Array.size_setIfInBounds];exact Nat.le_succ_of_le M9));refine ar (wpAny_letGo (bp ?_));have M:j2.SameBut TO L (L.update TO (Obj.mapSeq λv=>v.setIfInBounds I.length x)):=fq ..
    have Qq:iz (L.update TO (Obj.mapSeq λv=>v.setIfInBounds I.length x)) TO (xs++[x]++r).toArray:=by
     show j2.get? _ TO=_;rw [j2.get?_update_self _ Y rfl];have:(xs++y::r).toArray.setIfInBounds I.length x=(xs++[x]++r).toArray:=by rw [List.setIfInBounds_toArray,lx,List.set_append_right _ _ (a8 _),Nat.sub_self,List.set_cons_zero];simp
     have ls:((xs++[x]++r).toArray.size==(xs++y::r).toArray.size)=ig:=by simp
     simp! [Obj.mapSeq,this,ls,if_true]
    refine{rfl,_,Wf,rfl,I++[d],lf,xs++[x],r,by simp,by simp,Paired.snoc pr px,zx6 B,?_,Qq,λa g=>?_,λa g=>?_,?_,λc o c1 N J e=>?_}
    .exact M.extBut _ _ (Ne.symm t2) (H.extBut _ _ (Ne.symm f3) C)
    .rcases List.mem_append.1 g with g|g
     .refine(Z.D a (by simp [g])).frame _ _ _ (X a g) λb u o e=>M.extBut _ _ (λq=>(Z.zf a (by simp [g])).2.1 (q▸u)) (H.extBut _ _ (λq=>(SE a (by simp [g])).1 (q▸u)) e)
     .rw [d3.1 g];exact D.frame _ _ _ D4 λb u o e=>M.extBut _ _ (λq=>f2 (q▸u)) e
    .refine(Z.D a (by simp [g])).frame _ _ _ (U a (bw _ g)) λb u o e=>M.extBut _ _ (λq=>(Z.zf a (by simp [g])).2.1 (q▸u)) (H.extBut _ _ (λq=>(SE a (by simp [g])).1 (q▸u)) e)
    .rw [M.1,H.1,G]
    .exact M.extBut _ _ N (H.extBut _ _ (J d hd) (S c o c1 N J e))
   .have hn:d.n=k:=Nat.le_antisymm (Nat.le_of_not_lt hk) (hs d hd).2;refine ar (D.done _ _ _ (by rw [hn];exact U d (b4 ..)) λL e eb he=>?_);let(oe,K,MV):=he;have OM:IsZip L z TI TO .ellipsis:=eb _ _ (Ne.symm f3) C;have Vn:e≠z:=λq=>by subst q;rw [OM] at K;cases K;simp at MV
    exact wpAny_setField_rec OM (by simp) λh3 _ Td=>hE h3 tk e {d,hd,Nat.le_of_eq hn} (λc o c1 N J q=>Td.extBut _ _ c1 (eb _ _ (J d hd) (S c o c1 N J q))) {oe,Td.extBut _ _ Vn K,MV}
 .rintro b W ⟨rfl,h,tk,rfl,I,lf,xs,O,rfl,R,pr,B,C,F,X,U,G,S⟩
  obtain rfl:lf=[]:=by cases lf with|nil=>rfl|cons d lf=>cases R
  obtain rfl:O=[]:=List.eq_nil_of_length_eq_zero B;simp! [hG] at F hQ Z S hl;have lx:=Paired.length pr;refine ar (wpAny_seqItems F rfl ?_);refine ar (wpAny_newTuple ?_ (c0 (m:=9) (by show xs.length<=9;omega) (by decide)));show i1 _ _ (kr.SmallTypes.ownedTupleHandOut (.ref z) (.ref h.objs.size)>>=_) _ _ _;refine ar ?_;unfold kr.SmallTypes.ownedTupleHandOut;have Uc:z<h.objs.size:=bZ C;have VJ:IsZip (h.push {cls:=.type "tuple",data:=.seq xs.toArray}) z TI TO .ellipsis:=aT _ C;refine ar (wpAny_setField_rec VJ (by simp) λh7 Qs Qm=>?_);replace Qs:IsZip h7 z TI TO (rawInt h.objs.size):=Qs;refine wpAny_setField_rec Qs (by simp) λT V Qn=>?_;replace V:IsZip T z TI TO (rawInt h.objs.size):=V;have up:∀c o,c≠z->h.get? c=hT o->T.get? c=hT o:=λc o c1 e=>Qn.extBut _ _ c1 (Qm.extBut _ _ c1 (aT _ e));have SW:iz T h.objs.size xs.toArray:=Qn.extBut _ _ (Nat.ne_of_gt Uc) (Qm.extBut _ _ (Nat.ne_of_gt Uc) (dI _ rfl));have Tc:T.objs.size=h.objs.size+1:=by rw [Qn.1,Qm.1,j2.size_push]
  rw [G] at V SW Tc;refine bp ?_;show Q (.done (.ret (.ref h.objs.size))) _;rw [G];exact hQ T tk xs pr V {_,up _ _ t2 F,by simp [lx]} (λd hd=>(Z.D d hd).frame _ _ _ (X d hd) λb u o e=>up b o (λq=>(Z.zf d hd).1 (q▸u)) e) SW Tc λc o c1 N J e=>up c o c1 (S c o c1 N J e)
 .show iz t TO _;exact f.extBut _ _ t2 (zx6 hc)
variable{ch:List iN}
def Inv.B1{tk:Nat}{xs:List V}{ob:Obj}{n:Nat}(I:zv3 s)(g:∀b∈ch,hX X aa H b)(e:∀b o,b∉ch->s.heap.get? b=hT o->h'.get? b=hT o)
 (i:h'.get? (zz9 s)=hT ob) (a:ob.cls=.type "tuple") (hd:ob.data=.seq us.toArray n) (j:Vals xs us) (hl:xs.length<=j3):Inv X aa σ (upd H (zz9 s) (.tup xs)) {s with heap:=h',toks:=tk}:=by
 have d:∀b o,H b=hT o->b∉ch/\b≠(zz9 s):=λb o q=>{(λz=>(by rw [(g b z).1] at q;cases q)),dV (I.aJ.lt q)}
 refine I.step (g':=s.gens) (d':=s.drawn) (ch:=ch) (λb f=>?_) (λb o Z Z a q Z=>e b o a q) (λb o Z Z a q Z=>{o.slots,e b o a q}) (λb o Z q p=>by rw [ae (dV (bZ q))];exact p)
  (λb o a q=>{o,e b o a q}) (λb xs q=>by rw [ae (d b _ q).2];exact q) (λb o u q=>by rw [ae (d b _ q).2];exact q) (λb G q=>{#[],by rw [ae (d b _ q).2,q];simp}) (λm hm=>?_) (λb o q=>?_) I.bare
 .let(J,t,K,y,B,C):=g b f;exact⟨y,t,B,C⟩
 .let(o,D,F,q,r):=hm;exact{o,D,F,e _ o (λz=>(g _ z).2.1 rfl) q,r}
 .by_cases f:b=(zz9 s)
  .subst f;rw [ak] at q;cases q;exact{hl,us,j,{_,i,a,_,hd}}
  .rw [ae f] at q;refine(I.aJ b o q).ef (λc v a z=>e c v ?_ z) (λc z=>by rw [ae (d c _ z).2];exact z) λc xs z=>by rw [ae (d c _ z).2];exact z
   rcases a with h|h
   .rw [h];exact(d b o q).1
   .exact(d c _ h).1
end
structure Zs where
 it:iN
 b:Bool
 a:iN
 xs:List V
def Zs.iter(q:Zs)(i:Nat)(h:j2):Prop:=if q.b=ig then h.IsListIter q.it q.a i else h.IsTupleIter q.it q.a i
noncomputable abbrev Zt:=Bool×iN×List V
abbrev Zs.t(q:Zs):Zt:=(q.b,q.a,q.xs)
def Zq(K:zz8)(H:Hp)(q:Zt):Prop:=if q.1=ig then eW K H q.2.1 q.2.2 else dF K H q.2.1 q.2.2
def Zs.sq(K:zz8)(H:Hp)(q:Zs):Prop:=if q.b=ig then eW K H q.a q.xs else dF K H q.a q.xs
def Zs.xu{q:Zs}{i:Nat}(st:q.iter i h)(k:∀o,h.get? q.it=hT o->h'.get? q.it=hT o):q.iter i h':=by
 unfold Zs.iter at st⊢;split
 .rename_i e;rw [if_pos e] at st;exact st.at k
 .rename_i e;rw [if_neg e] at st;exact st.at k
def Zs.tQ{q:Zs}{i:Nat}(st:q.iter i h):∃o,h.get? q.it=hT o/\∀v,o.data≠.cell v:=by
 unfold Zs.iter at st;split at st
 .let(o,a,_,hd):=st;exact{o,a,λv z=>by rw [hd] at z;cases z}
 .let(o,a,_,hd):=st;exact{o,a,λv z=>by rw [hd] at z;cases z}
abbrev O8(K:zz8)(ts:List Zt):It:=
 {λi H=>∀q∈ts,Zq K H q/\i<q.2.2.length,λi H v b=>∃p a,v=.ref p/\H p=ie/\b=upd H p (.tup a)/\Paired (λ(q:Zt) y=>q.2.2[i]?=hT y) ts a,
  λi H=>(∀q∈ts,Zq K H q/\i<=q.2.2.length)/\∃q∈ts,q.2.2.length=i}
structure Av(prog:i2)(w:i3)(A:j0)(i:Nat)(h:j2)(q:Zs)(d:Zd):Prop where
 it:d.it=q.it
 fp:d.fp=[q.it,q.a]
 n:d.n=q.xs.length
 D:Draws prog w A d.it d.fp d.n d.P d.St
 st:d.St i h
 back:∀j g,d.St j g->q.iter j g
 val:∀j u,d.P j u->∃x,RelV x u/\q.xs[j]?=hT x
section
variable{s:iM}
def DL{xs:List V}{c:List ix}(e:Vals xs c)(j:Nat)(u:ix)(b:c.toArray[j]?=hT u):∃x,RelV x u/\xs[j]?=hT x:=by
 have b:c[j]?=hT u:=zx6 b;have f:j<xs.length:=by rw [e.length];exact(br.mp b).1
 let(g,a,d):=e.get (zzg f);rw [b] at a;cases a;exact{_,d,zzg f}
def Ol(k:X.calm=ig)(I:zv3 s){q:Zs}{i:Nat}(m:q.a≠q.it)(h:q.sq X.K H)(st:q.iter i s.heap):∃d,Av X.prog X.w X.A.in1 i s.heap q d:=by
 unfold Zs.sq at h;unfold Zs.iter at st;cases f:q.b with
 |true=>
  rw [if_pos f] at h st;let(c,e,p,_):=I.list h;refine{{q.it,[q.it,q.a],c.toArray.size,_,_},rfl,rfl,?_,Draws.list (A:=X.A.in1) (I.ok.hd k) q.it q.a m c.toArray,⟨st,p.isList⟩,λj g z=>?_,DL e}
  .rw [a5,<-e.length]
  .unfold Zs.iter;rw [if_pos f];exact z.1
 |false=>
  have o:¬q.b=ig:=by rw [f];exact zzf
  rw [if_neg o] at h st;let(c,e,p,_):=I.tuple h;refine{{q.it,[q.it,q.a],c.toArray.size,_,_},rfl,rfl,?_,kG (A:=X.A.in1) (I.ok.hd k) q.it q.a m c.toArray,⟨st,p⟩,λj g z=>?_,DL e}
  .rw [a5,<-e.length]
  .unfold Zs.iter;rw [if_neg o];exact z.1
theorem wF(e:X.calm=ig)(I:zv3 s){i:Nat}:∀{qs:List Zs},(∀q∈qs,q.a≠q.it/\q.sq X.K H/\q.iter i s.heap)->∃b,Paired (Av X.prog X.w X.A.in1 i s.heap) qs b
 |[],_=>{[],.nil}|q::qs,h=>by let(f,g,j):=h q (b4 ..);let(d,hd):=Ol e I f g j;let(b,c):=wF e I (qs:=qs) λr k=>h r (bw _ k);exact{d::b,.cons hd c}
variable{α β:Type}{R:α->β->Prop}
theorem bX:∀{l:List α} {m:List β},Paired R l m->∀b∈m,∃a∈l,R a b
 |_,_,.cons h t,b,c=>by
  rcases el.1 c with rfl|c
  .exact{_,b4 ..,h}
  .let(a,d,e):=bX t b c;exact{a,bw _ d,e}
theorem fe:∀{l:List α} {m:List β},Paired R l m->∀a∈l,∃b∈m,R a b
 |_,_,.cons h t,b,c=>by
  rcases el.1 c with rfl|c
  .exact{_,b4 ..,h}
  .let(a,d,e):=fe t b c;exact{a,bw _ d,e}
theorem pX{S:α->α->Prop}{T:β->β->Prop}(h:∀a c b d,R a b->R c d->S a c->T b d):∀{l:List α} {m:List β},Paired R l m->l.Pairwise S->m.Pairwise T
 |_,_,.nil,_=>.nil|_,_,.cons r t,p=>by let(p1,p2):=List.pairwise_cons.1 p;refine List.pairwise_cons.2 {λb e=>?_,pX h t p2};let(a,f,g):=bX t b e;exact h _ _ _ _ r g (p1 a f)
end
structure Pl(z TI TO:iN)(qs:List Zs):Prop where
 tz:TI≠z/\TO≠z/\TI≠TO
 ne:qs≠[]
 len:qs.length<=9
 it:∀q∈qs,q.it≠z/\q.it≠TO/\q.it≠TI
 a:∀q∈qs,q.a≠z/\q.a≠TO/\∀r∈qs,q.a≠r.it
 pw:qs.Pairwise λa b=>a.it≠b.it
def Uv(z TI TO:iN)(qs:List Zs)(i:Nat)(h:j2):Prop:=IsZip h z TI TO .none/\iz h TI (qs.map λq=>ix.ref q.it).toArray/\(∃c,iz h TO c/\c.size=qs.length)/\∀q∈qs,q.iter i h
def DN{i:Nat}{z TI TO:iN}{qs:List Zs}{e:List Zd}(Z:Pl z TI TO qs)(p:Paired (Av prog w A i h) qs e):Mc prog w A z TI TO e where
 D:=λd hd=>by let(q,_,r):=bX p d hd;exact r.D
 zf:=λd hd=>by let(q,f,r):=bX p d hd;let(a1,a2,o):=Z.it q f;let(s,t,_):=Z.a q f;rw [r.fp,r.it];simp! [el,List.not_mem_nil,or_false,not_or];exact{{Ne.symm a1,Ne.symm s},{Ne.symm a2,Ne.symm t},a1,a2,o}
 ap:=by
  have q:qs.Pairwise λa b=>a.it≠b.it/\a.it≠b.a/\b.it≠a.a:=by refine List.Pairwise.imp_of_mem (λ{a b} g j h=>{h,λz=>(Z.a b j).2.2 a g z.symm,λz=>(Z.a a g).2.2 b j z.symm}) Z.pw
  refine pX (λa B b C r k c=>?_) p q;let(m,u,y):=c;rw [r.fp,k.fp,r.it,k.it];simp! [el,List.not_mem_nil,or_false,not_or];exact{⟨m,u⟩,Ne.symm m,y}
 tz:=Z.tz
theorem iX{i:Nat}:∀{qs:List Zs} {a:List Zd},Paired (Av prog w A i h) qs a->(qs.map λq=>ix.ref q.it)=a.map λd=>ix.ref d.it
 |_,_,.nil=>rfl|_,_,.cons r t=>by rw [bc,bc,r.it,iX t]
theorem n9{i:Nat}:∀{qs:List Zs} {a:List Zd} {us:List ix},Paired (Av prog w A i h) qs a->Paired (λd x=>d.P i x) a us->∃ys,Vals ys us/\Paired (λ(q:Zt) y=>q.2.2[i]?=hT y) (qs.map Zs.t) ys
 |_,_,_,.nil,.nil=>{[],.nil,.nil}|_,_,_,.cons r t,.cons u v=>by let(x,b,c):=r.val i _ u;let(ys,e,f):=n9 t v;exact{x::ys,.cons b e,.cons c f}
def zW{K:zz8}{z TI TO:iN}{qs:List Zs}(Z:Pl z TI TO qs):
 Turn P w K (.Tuple elts x1 pos) (O8 K (qs.map Zs.t)) (z::TI::TO::qs.map (·.it)) z (Uv z TI TO qs) where
 mem:=by simp
 obj:=λi h st c A=>by
  let(q1,q2,(_,q3,_),u):=st
  simp! [el,fx] at A;rcases A with rfl|rfl|rfl|⟨q,f,rfl⟩
  .exact{_,q1,λv q=>by cases q}
  .exact{_,q2,λv q=>by cases q}
  .exact{_,q3,λv q=>by cases q}
  .exact Zs.tQ (u q f)
 keep:=λi h L st k=>by let(q1,q2,(c,q3,B),u):=st;exact{k z (by simp) _ q1,k TI (by simp) _ q2,{c,k TO (by simp) _ q3,B},λq f=>Zs.xu (u q f) λo e=>k q.it (by simp;exact .inr (.inr (.inr ⟨q,f,rfl⟩))) o e}
 item:=by
  intro X O Q hK A i R s σ H E I C st p;subst O Q hK;replace p:∀q∈qs,q.sq X.K H/\i<q.xs.length:=λq f=>p q.t (List.mem_map_of_mem f);let(q1,q2,(c,q3,B),u):=st;let(ds,j):=wF A I λq f=>{(Z.a q f).2.2 q f,(p q f).1,u q f};have D:s.TypeIs (.ref z) "zip":={_,q1,rfl};have len:=Paired.length j;have mY:H (zz9 s)=ie:=I.aJ.fresh (a8 _)
  have lt:∀b∈z::TI::TO::qs.map (·.it),b<(zz9 s):=λb g=>by
   simp! [el,fx] at g;rcases g with rfl|rfl|rfl|⟨q,f,rfl⟩
   .exact bZ q1
   .exact bZ q2
   .exact bZ q3
   .let(o,S,_):=Zs.tQ (u q f);exact bZ S
  unfold pyNext;refine ar (wpAny_attempt (wpAny_callSpecial?_slot (name:=Str.ofString (zu 34)) D PySem.F.slot_zip_next (wpAny_call_entry PySem.F.slot_zip_next D PySem.F.entry_zip_next
   (uL (k:=i) (DN Z j) (by rw [<-len];exact Z.len) (by have:=Z.ne;intro e;subst e;cases j;exact this rfl) q1 (by rw [<-iX j];exact q2) {c,q3,by rw [<-len];exact B} (λd hd=>by let(q,f,r):=bX j d hd;exact{r.st,by rw [r.n];exact Nat.le_of_lt (p q f).2})
    (λL tk us pu z1 z2 z3 z4 z5 G=>{_,rfl,bp ?_}) λL tk e J _ _=>?_) (PySem.F.args_zip_next_1 _))))
  .let(ys,rv,M):=n9 j pu
   have U:∀b∈z::TO::qs.map (·.it),hX X R H b:=λb g=>C b (by simp! [el] at g⊢;rcases g with h|h|h<;>simp [h]);have I1:=Inv.B1 (tk:=tk) (xs:=ys) I U (λb o g e=>G b o (λq=>g (by simp [q])) (λq=>g (by simp [q])) (λd hd q=>g (by let(V,W,r):=bX j d hd;simp! [el,fx];exact .inr (.inr {V,W,by rw [q,r.it]}))) e) z4 rfl rfl rv (c0 (m:=9) (by have h1:=Paired.length M;have:=Z.len;rw [zzl] at h1;omega) (by decide));refine{_,rfl,wpAny_letOwnedTupleGo_zip z1 λh2 OM N=>?_};let(f0,f1,f2,f3,f4,f5):=C z (by simp);have nz:z≠(zz9 s):=dV (lt z (by simp));refine{.ref (zz9 s),_,I1.turned (t':=tk) (it:=z) (λb o g q=>N.extBut b o g q) (by rw [ae nz];exact f0) f1 f3 f4 f5,rfl,{_,_,rfl,mY,rfl,M},{OM,?_,?_,λq f=>?_},λb g=>?_}
   .exact N.extBut _ _ Z.tz.1 (G _ _ Z.tz.1 Z.tz.2.2 (λd hd=>by let(q,f,r):=bX j d hd;rw [r.it];exact Ne.symm (Z.it q f).2.2) q2)
   .let(c',e1,e2):=z2;exact{c',N.extBut _ _ Z.tz.2.1 e1,by rw [e2,len]}
   .let(d,hd,r):=fe j q f;exact Zs.xu (r.back _ _ (z3 d hd)) λo e=>N.extBut _ _ (Z.it q f).1 e
   .rw [ae (dV (lt b g))];exact(C b g).1
  .let(d,hd,hn):=J;let(q,f,r):=bX j d hd;have:=(p q f).2;rw [r.n] at hn;omega
 done:=by
  intro X O Q hK A i R s σ H E I C st p;subst O Q hK;let(p,t0,Y,hn0):=p;replace p:∀q∈qs,q.sq X.K H/\i<=q.xs.length:=λq f=>p q.t (List.mem_map_of_mem f);let(q1,q2,(c,q3,B),u):=st;let(ds,j):=wF A I λq f=>{(Z.a q f).2.2 q f,(p q f).1,u q f};have D:s.TypeIs (.ref z) "zip":={_,q1,rfl};have len:=Paired.length j
  unfold pyNext;refine ar (wpAny_attempt (wpAny_callSpecial?_slot (name:=Str.ofString (zu 34)) D PySem.F.slot_zip_next (wpAny_call_entry PySem.F.slot_zip_next D PySem.F.entry_zip_next
   (uL (k:=i) (DN Z j) (by rw [<-len];exact Z.len) (by have:=Z.ne;intro e;subst e;cases j;exact this rfl) q1 (by rw [<-iX j];exact q2) {c,q3,by rw [<-len];exact B} (λd hd=>by let(q,f,r):=bX j d hd;exact{r.st,by rw [r.n];exact(p q f).2})
    (λL tk us pu z1 z2 z3 z4 z5 G=>?_) λL tk e J G he=>?_) (PySem.F.args_zip_next_1 _))))
  .let(ys,rv,M):=n9 j pu;let(y,_,hy):=fe M t0 Y;have:=(br.1 hy).1;omega
  .let(o,S,f9):=he
   refine ar (wpAny_isInstance (T:=(zu 20)) (b:=ig) ⟨o,S,f9⟩ isSubtype_stop ?_);have U:∀b∈z::TO::qs.map (·.it),hX X R H b:=λb g=>C b (by simp! [el] at g⊢;rcases g with h|h|h<;>simp [h]);exact bp {rfl,Inv.moved (tk:=tk) I U λb o g e=>G b o (λq=>g (by simp [q])) (λq=>g (by simp [q])) (λd hd q=>g (by let(V,W,r):=bX j d hd;simp! [el,fx];exact .inr (.inr {V,W,by rw [q,r.it]}))) e}
 self:=λ_ _ _ _ _ st h=>wpAny_pyIter_zip st.1 h
def nZ(a b c:ix):checkTypeCall "zip" {[a,b,c],[]}=pure ():=by kernel_rfl
def oF(a b c:ix):checkBuiltinCall "zip.__new__" {[.type "zip",a,b,c],[]}=pure ():=by kernel_rfl
def iA(a b c d:ix):argsOk "object.__init__" {[a,b,c,d],[]}:=by unfold argsOk;rw [signature?_of (n:=['_','_','t','i','n','i','_','_']) (by kernel_rfl) PySem.F.owner_object];kernel_rfl
def Src(h:j2)(b:Bool)(a:iN):Prop:=if b=ig then∃c,h.IsList a c else∃c,h.IsTuple a c
abbrev VO(b:Bool):String:=if b=ig then "list_iterator" else (zu 28)
def Src.push{b:Bool}(q:Src h b a)(o:Obj):Src (h.push o) b a:=by
 unfold Src at q⊢;split
 .rename_i e;rw [if_pos e] at q;let(c,q):=q;exact{c,q.push o}
 .rename_i e;rw [if_neg e] at q;let(c,d,f,r):=q;exact{c,d,aT _ f,r}
abbrev Nk(b:Bool)(a:iN):Obj:={cls:=.type (VO b),data:=.fields #[.ref a,.int 0 0]}
section
variable{E:lq}{s:iM}
def vY{b:Bool}{Q:lq}(h:Src s.heap b a)(q:Q (.ref (zz9 s)) {s with heap:=s.heap.push (Nk b a)}):i1 (jj prog w) A (pyIter (.ref a)) Q E s:=by
 cases b with
 |true=>let(c,h):=h;exact wpAny_pyIter_list h q|false=>let(c,h):=h;exact wpAny_pyIter_tuple h q
end
abbrev gJ(h:j2)(qs:List (Bool×iN)):Heap:=qs.foldl (λg q=>g.push (Nk q.1 q.2)) h
def iQ(qs:List (Bool×iN)):∀h:j2,(gJ h qs).objs.size=h.objs.size+qs.length:=by
 induction qs with
 |nil=>exact λh=>rfl|cons q qs a=>intro h;rw [gJ,List.foldl_cons,<-gJ,a,j2.size_push,bE];omega
section
variable{E:lq}{s:iM}
def tP{Q:List ix->iM->Prop}:∀(qs:List (Bool×iN)),(∀q∈qs,Src s.heap q.1 q.2)->Q ((List.range qs.length).map λi=>ix.ref ((zz9 s)+i)) {s with heap:=gJ s.heap qs}->
 i1 (jj prog w) A (kr.SmallTypes.iterAll (qs.map λq=>ix.ref q.2)) Q E s:=by
 intro qs j h;unfold kr.SmallTypes.iterAll;refine ar ?_;refine wpAny_forIn_list _ (λrest (b:Array ix) e=>∃c a,qs=c++a/\rest=a.map (λq=>ix.ref q.2)/\b.toList=(List.range c.length).map (λi=>ix.ref ((zz9 s)+i))/\e={s with heap:=gJ s.heap c}) _ ?_ ?_ _ _ {[],qs,rfl,rfl,rfl,rfl}
 .rintro x rest b e ⟨c,a,rfl,d,f,rfl⟩
  cases a with
  |nil=>cases d
  |cons q a=>
   simp! [bc,List.cons.injEq] at d;let(rfl,rfl):=d
   have hs:∀(l:List (Bool×iN)) (g:j2),Src g q.1 q.2->Src (gJ g l) q.1 q.2:=λl=>by
    induction l with
    |nil=>exact λg h=>h|cons r l k=>exact λg h=>k _ (h.push _)
   refine ar (wpAny_holding (vY (hs c _ (j q (by simp))) ?_));refine bp {c++[q],a,by simp,rfl,?_,?_}
   .rw [Array.toList_push,f,bF,List.length_singleton,List.range_succ,List.map_append];simp [iQ]
   .simp [gJ,List.foldl_append]
 .rintro b e ⟨c,a,rfl,d,f,rfl⟩
  obtain rfl:a=[]:=by cases a with|nil=>rfl|cons q a=>cases d
  refine bp ?_;rw [f];simpa using h
end
theorem rg{n:iN}(e:h.objs.size=n)(f:o.isFreed=iv:=by rfl):(h.push o).get? n=hT o:=e▸dI h f
abbrev fW(h:j2)(qs:List (Bool×iN)):Heap:=
 (((gJ h qs).push {cls:=.type "tuple",data:=.seq ((List.range qs.length).map λi=>ix.ref (h.objs.size+i)).toArray}).push {cls:=.type "tuple",data:=.seq (((List.range qs.length).map λi=>ix.ref (h.objs.size+i)).map λZ=>ix.none).toArray}).push
   {cls:=.type "zip",data:=.fields #[.none,.bool iv,.bool iv,.ref (h.objs.size+qs.length),.ref (h.objs.size+qs.length+1)]}
theorem DM(qs:List (Bool×iN))(hl:qs.length<=9):
 Meets (kr.«zip.__new__» {.type "zip"::qs.map (λq=>ix.ref q.2),[]}) (λZ R s=>(∀q∈qs,Src s.heap q.1 q.2)/\R (.ok (.ret (.ref ((zz9 s)+qs.length+2)))) {s with heap:=fW s.heap qs}):=
 .of_wp λprog w A R s h=>by
  let(hs,h):=h;have b:=sub_zip;have a:∀l:List ix,l.length=qs.length->l.length<=sizeLine:=λl e=>c0 (m:=9) (by omega) (by decide);show i1 _ _ (kr.SmallTypes.newClass "zip" _>>=_) _ _ s;unfold kr.SmallTypes.newClass
  wp_walk using tP qs hs
  rw [if_neg (by rw [a5];exact Nat.not_lt.2 (a _ (by simp)))]
  wp_walk
  rw [if_neg (by rw [a5];exact Nat.not_lt.2 (a _ (by simp)))]
  wp_walk
  refine{_,rfl,?_};simp! [j2.size_push,iQ];exact h
def pL(qs:List (Bool×iN)):∀(h:j2) (c:iN) (o:Obj),h.get? c=hT o->(gJ h qs).get? c=hT o:=by
 induction qs with
 |nil=>exact λh c o e=>e|cons q qs a=>exact λh c o e=>a _ c o (aT _ e)
theorem tR:∀(qs:List (Bool×iN)) (h:j2) (i:Nat) (q:Bool×iN),qs[i]?=hT q->(gJ h qs).get? (h.objs.size+i)=hT (Nk q.1 q.2)
 |q::qs,h,0,r,e=>by cases e;exact pL qs _ _ _ (dI _ rfl)
 |q::qs,h,i+1,r,e=>by have:=tR qs (h.push (Nk q.1 q.2)) i r (zx6 e);rw [j2.size_push] at this;rw [show h.objs.size+(i+1)=h.objs.size+1+i by omega];exact this
section
variable{E:lq}{s:iM}
def yv{qs:List (Bool×iN)}{Q:lq}(hl:qs.length<=9)(hs:∀q∈qs,Src s.heap q.1 q.2)(f:checkTypeCall "zip" {qs.map (λq=>ix.ref q.2),[]}=pure ())(g:checkBuiltinCall "zip.__new__" {.type "zip"::qs.map (λq=>ix.ref q.2),[]}=pure ())(j:∀obj,argsOk "object.__init__" {obj::qs.map (λq=>ix.ref q.2),[]})
 (h:IsZip (fW s.heap qs) ((zz9 s)+qs.length+2) ((zz9 s)+qs.length) ((zz9 s)+qs.length+1) .none->iz (fW s.heap qs) ((zz9 s)+qs.length) ((List.range qs.length).map λi=>ix.ref ((zz9 s)+i)).toArray->(∃c,iz (fW s.heap qs) ((zz9 s)+qs.length+1) c/\c.size=qs.length)->
  (∀i q,qs[i]?=hT q->(fW s.heap qs).get? ((zz9 s)+i)=hT (Nk q.1 q.2))->(∀c o,s.heap.get? c=hT o->(fW s.heap qs).get? c=hT o)->Q (.ref ((zz9 s)+qs.length+2)) {s with heap:=fW s.heap qs}):
 i1 (jj prog w) A (call (.type "zip") (qs.map λq=>ix.ref q.2)) Q E s:=by
 have a:=iQ qs s.heap;have b:∀c o,(gJ s.heap qs).get? c=hT o->(fW s.heap qs).get? c=hT o:=λc o e=>aT _ (aT _ (aT _ e));have d:IsZip (fW s.heap qs) ((zz9 s)+qs.length+2) ((zz9 s)+qs.length) ((zz9 s)+qs.length+1) .none:=rg (by rw [j2.size_push,j2.size_push,a]);have k:iz (fW s.heap qs) ((zz9 s)+qs.length) ((List.range qs.length).map λi=>ix.ref ((zz9 s)+i)).toArray:=aT _ (aT _ (rg a));have m:iz (fW s.heap qs) ((zz9 s)+qs.length+1) (((List.range qs.length).map λi=>ix.ref ((zz9 s)+i)).map λZ=>ix.none).toArray:=aT _ (rg (by rw [j2.size_push,a]));exact callType_new PySem.F.called_zip (by decide) f g j PySem.F.entry_zip_new (DM qs hl) {hs,{_,d,rfl},h d k {_,m,by simp} (λi q e=>b _ _ (tR qs _ i q e)) λc o e=>b _ _ (pL qs _ c o e)}
end
theorem qc:∀{ts:List Zt} {us:List ix},Vals (ts.map λt=>V.ref t.2.1) us->us=ts.map λt=>ix.ref t.2.1
 |[],_,.nil=>rfl|t::ts,_,.cons h r=>by cases h;rw [qc r];rfl
section
variable{lQ:Pos}
abbrev Ng(K:zz8)(b:TA):TI:=λc H R=>b c H λd a=>∃ts:List Zt,d=ts.map (λt=>.ref t.2.1)/\(ts.length=2\/ts.length=3)/\(∀t∈ts,Zq K a t)/\R (O8 K ts) a
def FV{u:List iO}{J:TA}{p pos:Pos}(V:Gl X "zip")(hm:X.mg "zip"=ie)(W:PA X (e::u) J)(he:starEach (e::u) X.env=(iv,eval e X.env)::starEach u X.env)(Y:(backTo pos (starEach u X.env)).any (·.1)=iv):
 PI X (.Tuple elts x1 lQ) (.Call (.Name "zip" p) (e::u) [] pos) (Ng X.K J):=by
 intro L s M H R I h;refine Call_ (dX I V hm (show bootBuiltins "zip"=hT (.type "zip") by decide+kernel) (PyProof.Rows.callWith_type1 (bb (W pos L s M H _ I h) λus d ⟨vs,H1,y,r1,q1⟩=>?_) he Y));let(ts,rfl,hn,hq,q):=q1;obtain rfl:=qc r1;have N:ts.length<=9:=by omega
 have D:(ts.map λt=>(t.1,t.2.1)).length=ts.length:=zzl ..;have em:(ts.map λt=>ix.ref t.2.1)=(ts.map λt=>(t.1,t.2.1)).map λq=>ix.ref q.2:=by rw [List.map_map];rfl
 have A:∀t∈ts,Src d.heap t.1 t.2.1/\t.2.1<(zz9 d):=λt E=>by
  have:=hq t E
  unfold Zq at this;unfold Src;cases g:t.1 with
  |true=>rw [if_pos g] at this;let(aj,_,B,_):=y.list this;exact{{_,B.isList},by let(_,e,_):=B.isList;exact bZ e}|false=>rw [if_neg (by rw [g];exact zzf)] at this;let(aj,_,B,_):=y.tuple this;exact{{_,B},by let(_,e,_):=B;exact bZ e}
 have go:∀l,(l=2\/l=3)->ts.length=l->checkTypeCall "zip" {ts.map (λt=>ix.ref t.2.1),[]}=pure ()/\checkBuiltinCall "zip.__new__" {.type "zip"::ts.map (λt=>ix.ref t.2.1),[]}=pure ()/\∀obj,argsOk "object.__init__" {obj::ts.map (λt=>ix.ref t.2.1),[]}:=λl hl e=>by
  rcases hl with rfl|rfl
  .match ts,e with
   |[a,b],_=>exact{PySem.F.typeCall_zip_2 _ _,PySem.F.newCall_zip_2 _ _,λobj=>PySem.F.args_object_init_3 obj _ _}
  .match ts,e with
   |[a,b,c],_=>exact{nZ _ _ _,oF _ _ _,λobj=>iA obj _ _ _}
 let(c1,O,Q):=go _ hn rfl;rw [em] at c1 O Q⊢;refine yv (by rw [D];exact N) (λq f=>by let(t,E,rfl):=fx.1 f;exact(A t E).1) c1 O Q λa1 a2 S a4 kk=>wpAny_pyIter_zip a1 ?_;rw [D] at a1 a2 S;have I2:Inv X L M H1 {d with heap:=fW d.heap (ts.map λt=>(t.1,t.2.1))}:=y.kept (t':=d.toks) kk;have eqs:(ts.zipIdx.map λp=>({(zz9 d)+p.2,p.1.1,p.1.2.1,p.1.2.2}:Zs)).map Zs.t=ts:=by rw [List.map_map];refine List.ext_getElem (by simp) λi m k=>?_;simp [Zs.t]
 have C:∀q∈ts.zipIdx.map λp=>(⟨(zz9 d)+p.2,p.1.1,p.1.2.1,p.1.2.2⟩:Zs),∃i,i<ts.length/\ts[i]?=hT q.t/\q.it=(zz9 d)+i:=λq f=>by let((t,i),Hf,rfl):=fx.1 f;have:=List.mem_zipIdx_iff_getElem?.1 Hf;exact{i,(br.1 this).1,this,rfl}
 have Z:Pl ((zz9 d)+ts.length+2) ((zz9 d)+ts.length) ((zz9 d)+ts.length+1) (ts.zipIdx.map λp=>({(zz9 d)+p.2,p.1.1,p.1.2.1,p.1.2.2}:Zs)):=by
  refine{{dV (by show _<_;omega),dV (by show _<_;omega),dV (by show _<_;omega)},λz=>?_,zx6 N,λq f=>?_,λq f=>?_,?_}
  .have:=congrArg List.length z;simp! [zzl,List.length_zipIdx,List.length_nil] at this;omega
  .let(i,m,_,o):=C q f;rw [o];exact{dV (by show _<_;omega),dV (by show _<_;omega),dV (by show _<_;omega)}
  .let(i,m,k,o):=C q f;have G:q.a<(zz9 d):=(A q.t (a7 k)).2;refine{dV (dq G (by show _<=_;omega)),dV (dq G (by show _<=_;omega)),λr hr=>?_};let(j,_,_,h5):=C r hr;rw [h5];exact dV (dq G (by show _<=_;omega))
  .refine List.pairwise_map.2 ?_;refine List.pairwise_iff_getElem.2 λi j hi hj S8=>?_;simp! [List.getElem_zipIdx];exact dV (by show _<_;omega)
 have T:=zW (P:=X.prog) (w:=X.w) (K:=X.K) (elts:=elts) (x1:=x1) (pos:=lQ) Z;rw [eqs] at T;refine{_,_,_,_,H1,by rw [D],I2,T,{a1,?_,?_,λq f=>?_},λb g=>?_,q}
 .have:(ts.zipIdx.map λp=>({(zz9 d)+p.2,p.1.1,p.1.2.1,p.1.2.2}:Zs)).map (λq=>ix.ref q.it)=(List.range ts.length).map λi=>ix.ref ((zz9 d)+i):=by
   refine List.ext_getElem (by simp) λi m k=>?_;simp
  rw [this];exact a2
 .let(c,m,k):=S;exact{c,m,zx6 k}
 .let(i,m,k,o):=C q f;have:=a4 i (q.b,q.a) (by rw [cz,k];rfl)
  unfold Zs.iter;rw [o];cases g:q.b with
  |true=>rw [g] at this;exact{_,this,rfl,rfl}|false=>rw [g] at this;exact{_,this,rfl,rfl}
 .have U:(zz9 d)<=b:=by
   simp! [el,fx] at g;rcases g with e|e|e|⟨q,f,e⟩
   .rw [e];exact c0 (Nat.le_add_right _ _) (Nat.le_add_right _ _)
   .rw [e];exact Nat.le_add_right _ _
   .rw [e];exact c0 (Nat.le_add_right _ _) (Nat.le_add_right _ _)
   .let(i,_,_,o):=C q (fx.2 f);rw [<-e,o];exact Nat.le_add_right _ _
  exact y.mV U (y.aJ.fresh U)
end
def NC(xs:List V)(P:V->Prop):Prop:=match xs with
 |[x]=>P x|_=>False
def FF{xs:List V}{P:V->Prop}(h:NC xs P):∃x,xs=[x]/\P x:=by
 cases xs with
 |nil=>exact h.elim|cons x r=>
  cases r with
  |nil=>exact⟨x,rfl,h⟩|cons _ _=>exact h.elim
def DG(r:Vals vs us):Vals vs.reverse us.reverse:=by
 induction r with
 |nil=>exact .nil|cons h t a=>rw [List.reverse_cons,List.reverse_cons];exact a.append (.cons h .nil)
end L2
namespace Ci
open L2
set_option backward.match.sparseCases false
structure Hs where
 f:Str
 h:Str
 g:Str
 idx:List Nat
 np:Nat
structure Pg where
 gs:List (Str×PV)
 bs:List Str
 cs:List Str
 fs:List Str
 rs:List Str
 hs:List Hs:=[]
 hl:Bool:=iv
 qt:Bool:=iv
 qs:List Str:=[]
abbrev nq(Γ:Pg)(b:Bool):Bool:=b&&!Γ.qt
def pU{Γ:Pg}{b:Bool}(h:nq Γ b=ig):Γ.qt=iv/\b=ig:=by unfold nq at h;rw [zza,Bool.not_eq_true'] at h;exact⟨h.2,h.1⟩
abbrev eP(sc:j1)(x:Str):Bool:=sc.names.lookup x==hT .local||sc.names.lookup x==hT .cell
abbrev gU(sc:j1)(x:Str):Bool:=eP sc x||sc.names.lookup x==hT .free
abbrev ed(sc:j1)(x:Str):Bool:=sc.names.lookup x==hT .globalImplicit
abbrev litS:List PV->List PV->Bool
 |[],[]=>ig|.str x::xs,.str y::ys=>x==y&&litS xs ys|_,_=>iv
abbrev xA:PV->PV->Bool
 |.int i,.int j=>i==j|.str x,.str y=>x==y|.tup xs,.tup ys=>litS xs ys|_,_=>iv
theorem litS_eq:∀{xs ys:List PV},litS xs ys=ig->xs=ys
 |[],[],_=>rfl|.str x::xs,.str y::ys,h=>by unfold litS at h;rw [zza] at h;rw [zzy.mp h.1,litS_eq h.2]
def BP{p:PV}(h:xA p q=ig):p=q:=by
 unfold xA at h;split at h
 .rw [zzy.mp h]
 .rw [zzy.mp h]
 .rw [litS_eq h]
 .cases h
abbrev bN:B->Str
 |.len=>"len"|.max2=>"max"|.min2=>"min"|.int=>"int"|.str=>"str"|.tuple=>"tuple"|.all=>"all"|.sorted=>"sorted"
abbrev mN:M->Str
 |.iG=>"count"|.index=>"index"|.join=>"join"
abbrev QA:E->Bool
 |.var _=>ig|.fld _ _=>ig|_=>iv
abbrev E7:iO->Bool
 |.Dict [] [] _=>ig|_=>iv
def xn(h:E7 p=ig):∃pos,p=.Dict [] [] pos:=by
 unfold E7 at h;split at h
 .exact{_,rfl}
 .cases h
abbrev c9:E->Bool
 |.HC _=>iv|.con _=>iv|_=>ig
abbrev fZ:Es->Bool
 |.nil=>ig|.cons e a=>c9 e&&fZ a
abbrev oz:I->Bool
 |.seq e=>c9 e|.xS _=>ig|.zM _ _=>ig|.enum e=>c9 e|.zip _=>ig
abbrev isNil:Es->Bool
 |.nil=>ig|_=>iv
abbrev ez:Es->Nat
 |.nil=>0|.cons _ a=>ez a+1
abbrev zU:iO->Option (List iO)
 |.Tuple a _ _=>hT a|_=>ie
def mm{a:List iO}(h:zU e=hT a):∃k p,e=.Tuple a k p:=by
 cases e with
 |Tuple a k p=>cases h;exact{_,_,rfl}
 |_=>exact ko h
abbrev uJ{c:Type}:List c->Option (c×c)
 |[a,b]=>hT (a,b)|_=>ie
def GC{c:Type}{ts:List c}{q:c×c}(h:uJ ts=hT q):ts=[q.1,q.2]:=by
 cases ts with
 |nil=>exact ko h|cons a ts=>
  cases ts with
  |nil=>exact ko h|cons b ts=>
   cases ts with
   |cons _ _=>exact ko h|nil=>cases h;rfl
abbrev QS(N:List Str)(sc:j1)(fn:Str->Bool)(i:Nat)(p:iO):Bool:=(iW p).any λx=>N[i]?==hT x&&eP sc x&&(fn x||sc.names.lookup x==hT .local)
abbrev Fg(N:List Str)(sc:j1)(fn:Str->Bool):List Nat->List iO->Bool
 |i::is,a::as=>QS N sc fn i a&&Fg N sc fn is as|[],[]=>ig|_,_=>iv
abbrev cx(N:List Str)(sc:j1)(fn:Str->Bool):Tg->iO->Bool
 |.one i,p=>QS N sc fn i p|.two i j,p=>(zU p).any (Fg N sc fn [i,j])|.four i j k l,p=>(zU p).any (Fg N sc fn [i,j,k,l])
abbrev av:iO->List Str
 |.Name x _=>[x]|.Tuple [.Name x _,.Name y _] _ _=>[x,y]|.Tuple [.Name x _,.Name y _,.Name z _] _ _=>[x,y,z]|.Tuple [.Name x _,.Tuple [.Name y _,.Name z _] _ _] _ _=>[x,y,z]|_=>[]
abbrev bu(a sc:j1):Scope:=
 {a with names:=a.names.map λ(n,k)=>if(k==.free&&sc.kind==.function&&sc.names.lookup n==hT .cell) then(n,.cell) else(n,k)}
abbrev freeOf(a:j1):List Str:=((a.names.filter λp=>p.2==.free).map (·.1)).reverse
abbrev pq(N:List Str)(sc a:j1)(k:Nat)(b:List Nat)(xs:List Str):Bool:=
 a.kind==.function&&xs.length==k&&decide ((xs++freeOf a).Nodup)
 &&(a.names.all λy=>(decide (y.2≠.cell)||!(freeOf a).contains y.1)&&(decide (y.2≠.free)||(freeOf a).contains y.1))
 &&(a.names.all λy=>decide (y.2≠.cell)||decide (a.names.lookup y.1=hT .cell))
 &&(a.names.all λy=>decide (y.2≠.local)||decide (a.names.lookup y.1=hT .local))
 &&decide (b.map (λi=>N[i]?)=(freeOf a).map hT)
 &&((freeOf a).all λy=>decide (sc.names.lookup y=hT .cell))
 &&((freeOf a).all λy=>decide ((bu a sc).names.lookup y=hT .cell))
abbrev fh(k:Nat):Tg->Bool
 |.one i=>decide (i<k)|.two i j=>decide (i<k)&&decide (j<k)|.four i j l m=>decide (i<k)&&decide (j<k)&&decide (l<k)&&decide (m<k)
abbrev eN:E->Bool
 |.con _=>iv|.ite _ _ _=>iv|.not a=>eN a|.and a b=>eN a&&eN b|.or a b=>eN a&&eN b|_=>ig
abbrev isTup:iO->Bool
 |.Tuple .. =>ig|_=>iv
noncomputable abbrev Pg.pT(Γ:Pg):Pg:={Γ with hl:=iv}
def u4{c d:Type}{o:Option c}{f:c->Option d}{b:d}(h:o.bind f=hT b):∃a,o=hT a/\f a=hT b:=dJ.1 h
def if1{d:Type}{c:Bool}{a b:d}(h:(if c=ig then hT a else ie)=hT b):c=ig/\a=b:=by
 cases c with
 |true=>cases h;exact⟨rfl,rfl⟩
 |false=>exact ko h
abbrev cM{a:Type}:List a->Option a
 |[t]=>hT t|_=>ie
def fM{b:Type}{ts:List b}{t:b}(h:cM ts=hT t):ts=[t]:=by
 cases ts with
 |nil=>exact ko h|cons a ts=>
  cases ts with
  |cons _ _=>exact ko h|nil=>cases h;rfl
abbrev DU:iO->Option (iO×Str×Pos)
 |.Attribute o m p=>hT (o,m,p)|_=>ie
def ft{q:iO×Str×Pos}(h:DU e=hT q):e=.Attribute q.1 q.2.1 q.2.2:=by
 cases e with
 |Attribute o m p=>cases h;rfl
 |_=>exact ko h
abbrev Tf:iO->Option (Arguments×iO×j1)
 |.Lambda p b s _=>hT (p,b,s)|_=>ie
def JU{q:Arguments×iO×j1}(h:Tf e=hT q):∃p,e=.Lambda q.1 q.2.1 q.2.2 p:=by
 cases e with
 |Lambda p b s x=>cases h;exact{_,rfl}
 |_=>exact ko h
abbrev Hx:iO->Option (iO×iO)
 |.Subscript a b _=>hT (a,b)|_=>ie
def Dv{q:iO×iO}(h:Hx e=hT q):∃p,e=.Subscript q.1 q.2 p:=by
 cases e with
 |Subscript a b p=>cases h;exact{_,rfl}
 |_=>exact ko h
abbrev Mu:iO->Option Const
 |.Constant c _ _=>hT c|_=>ie
def AL{c:Const}(h:Mu e=hT c):∃p q,e=.Constant c p q:=by
 cases e with
 |Constant c p q=>cases h;exact{_,_,rfl}
 |_=>exact ko h
abbrev oj:Const->Option Str
 |.str z=>hT z|_=>ie
def Dt{c:Const}{z:Str}(h:oj c=hT z):c=.str z:=by
 cases c with
 |str y=>cases h;rfl
 |_=>exact ko h
abbrev QB:Const->Option Int
 |.int n=>hT n|_=>ie
def BF{c:Const}{n:Int}(h:QB c=hT n):c=.int n:=by
 cases c with
 |int y=>cases h;rfl
 |_=>exact ko h
def jX{a:Type}{l:List a}(h:l.isEmpty=ig):l=[]:=by
 cases l with
 |nil=>rfl|cons _ _=>exact aI h
def J8{a:Type}{o:Option a}(h:o.isNone=ig):o=ie:=by
 cases o with
 |none=>rfl|some _=>exact aI h
abbrev So:Const->Option Bool
 |.bool b=>hT b|_=>ie
def HU{c:Const}{b:Bool}(h:So c=hT b):c=.bool b:=by
 cases c with
 |bool y=>cases h;rfl
 |_=>exact ko h
abbrev To:Const->Bool
 |.none=>ig|_=>iv
def J4{c:Const}(h:To c=ig):c=.none:=by
 cases c with
 |none=>rfl|_=>exact aI h
abbrev Sn:iO->Option (iO×Operator×iO)
 |.BinOp a o b _=>hT (a,o,b)|_=>ie
def HR{q:iO×Operator×iO}(h:Sn e=hT q):∃p,e=.BinOp q.1 q.2.1 q.2.2 p:=by
 cases e with
 |BinOp a o b p=>cases h;exact{_,rfl}
 |_=>exact ko h
abbrev Mt:iO->Option (iO×List CmpOp×List iO)
 |.Compare a o b _=>hT (a,o,b)|_=>ie
def Ib{q:iO×List CmpOp×List iO}(h:Mt e=hT q):∃p,e=.Compare q.1 q.2.1 q.2.2 p:=by
 cases e with
 |Compare a o b p=>cases h;exact{_,rfl}
 |_=>exact ko h
abbrev Oi:iO->Option (UnaryOp×iO)
 |.UnaryOp o a _=>hT (o,a)|_=>ie
def Lm{q:UnaryOp×iO}(h:Oi e=hT q):∃p,e=.UnaryOp q.1 q.2 p:=by
 cases e with
 |UnaryOp o a p=>cases h;exact{_,rfl}
 |_=>exact ko h
abbrev Hi:UnaryOp->Bool
 |.Not=>ig|_=>iv
def BD{o:UnaryOp}(h:Hi o=ig):o=.Not:=by
 cases o with
 |Not=>rfl|_=>exact aI h
abbrev isNeg:UnaryOp->Bool
 |.USub=>ig|_=>iv
def tK{o:UnaryOp}(h:isNeg o=ig):o=.USub:=by
 cases o with
 |USub=>rfl|_=>exact aI h
abbrev pJ:BoolOp->Bool
 |.And=>ig|.Or=>iv
def tJ{o:BoolOp}(h:pJ o=ig):o=.And:=by
 cases o with
 |And=>rfl|Or=>exact aI h
def xr{o:BoolOp}(h:(!pJ o)=ig):o=.Or:=by
 cases o with
 |Or=>rfl|And=>exact aI h
abbrev Lv:iO->Option (BoolOp×List iO×Pos)
 |.BoolOp o vs p=>hT (o,vs,p)|_=>ie
def HV{q:BoolOp×List iO×Pos}(h:Lv e=hT q):e=.BoolOp q.1 q.2.1 q.2.2:=by
 cases e with
 |BoolOp o a p=>cases h;rfl
 |_=>exact ko h
abbrev OA(o:BoolOp)(pos:Pos):List iO->Option (iO×iO)
 |a::b::[]=>hT (a,b)|a::b::c::r=>hT (a,.BoolOp o (b::c::r) pos)|_=>ie
def u5{o:BoolOp}{vs:List iO}{q:iO×iO}(h:OA o pos vs=hT q):vs=[q.1,q.2]\/∃b c r,vs=q.1::b::c::r/\q.2=.BoolOp o (b::c::r) pos:=by
 cases vs with
 |nil=>exact ko h|cons a vs=>
  cases vs with
  |nil=>exact ko h|cons b vs=>
   cases vs with
   |nil=>cases h;exact .inl rfl
   |cons c r=>cases h;exact .inr ⟨b,c,r,rfl,rfl⟩
abbrev Qy:iO->Option (iO×iO×iO)
 |.IfExp c a b _=>hT (c,a,b)|_=>ie
def BA{q:iO×iO×iO}(h:Qy e=hT q):∃p,e=.IfExp q.1 q.2.1 q.2.2 p:=by
 cases e with
 |IfExp c a b p=>cases h;exact{_,rfl}
 |_=>exact ko h
abbrev QK:iO->Option (List iO)
 |.List a _=>hT a|_=>ie
def vy{a:List iO}(h:QK e=hT a):∃p,e=.List a p:=by
 cases e with
 |List a p=>cases h;exact{_,rfl}
 |_=>exact ko h
abbrev LX:iO->Option (Option iO×Option iO×Option iO)
 |.Slice a b c _=>hT (a,b,c)|_=>ie
def K5{q:Option iO×Option iO×Option iO}(h:LX e=hT q):∃p,e=.Slice q.1 q.2.1 q.2.2 p:=by
 cases e with
 |Slice a b c p=>cases h;exact{_,rfl}
 |_=>exact ko h
abbrev LP:iO->Option (iO×List Comprehension×j1)
 |.ListComp e gs s _=>hT (e,gs,s)|_=>ie
def JR{q:iO×List Comprehension×j1}(h:LP e=hT q):∃p,e=.ListComp q.1 q.2.1 q.2.2 p:=by
 cases e with
 |ListComp e gs s p=>cases h;exact{_,rfl}
 |_=>exact ko h
abbrev rP(e:iO):Option (Str×List iO):=(z9 e).bind λq=>(iW q.1).bind λg=>if q.2.2.1.isEmpty=ig then hT (g,q.2.1) else ie
def HZ{q:Str×List iO}(h:rP e=hT q):∃np p,e=.Call (.Name q.1 np) q.2 [] p:=by let((f,a,k,p),c,h):=u4 h;let(g,d,h):=u4 h;let(i,rfl):=if1 h;let(np,z):=dG d;have b:=jX i;dsimp only at z b;subst z b;exact{np,p,fu c}
abbrev Mw:PV->Const->Bool
 |.aE,c=>To c|.bl b,c=>(So c).any λx=>b==x|.int i,c=>(QB c).any λx=>i==x|.str z,c=>(oj c).any λx=>z==x|_,_=>iv
abbrev Hm(p:iO):Bool:=(z9 p).all λq=>!q.2.1.isEmpty
abbrev dj(p:iO):Bool:=(z9 p).isNone
def ah{a b:Bool}(h:(a&&b)=ig):a=ig/\b=ig:=Bool.and_eq_true_iff.mp h
def af{a:Type}{o:Option a}{f:a->Bool}(h:o.any f=ig):∃x,o=hT x/\f x=ig:=by
 cases o with
 |none=>cases h
 |some x=>exact⟨x,rfl,h⟩
theorem cW{b:Type}{l:List b}{f:b->Bool}(h:(cM l).any f=ig):∃a,l=[a]/\f a=ig:=let⟨a,e,c⟩:=af h;{a,fM e,c}
theorem zX{c:Type}{l:List c}{f:c×c->Bool}(h:(uJ l).any f=ig):∃a b,l=[a,b]/\f (a,b)=ig:=let⟨q,e,d⟩:=af h;{q.1,q.2,GC e,d}
theorem Nx{f:Str->Bool}(h:(iW p).any f=ig):∃x np,p=.Name x np/\f x=ig:=let⟨x,e,a⟩:=af h;let⟨np,z⟩:=dG e;⟨x,np,z,a⟩
theorem SD{f:Const->Bool}(h:(Mu p).any f=ig):∃x a b,p=.Constant x a b/\f x=ig:=let⟨x,e,c⟩:=af h;let⟨a,b,z⟩:=AL e;⟨x,a,b,z,c⟩
theorem uN{f:Str×List iO->Bool}(h:(rP p).any f=ig):∃g as np pos,p=.Call (.Name g np) as [] pos/\f (g,as)=ig:=let⟨q,e,c⟩:=af h;let⟨a,b,z⟩:=HZ e;⟨q.1,q.2,a,b,z,c⟩
theorem N3{f:iO×iO->Bool}(h:(Hx p).any f=ig):∃a b pos,p=.Subscript a b pos/\f (a,b)=ig:=let⟨q,e,c⟩:=af h;let⟨x,z⟩:=Dv e;⟨q.1,q.2,x,z,c⟩
theorem Tw{f:Option iO×Option iO×Option iO->Bool}(h:(LX p).any f=ig):∃a b c pos,p=.Slice a b c pos/\f (a,b,c)=ig:=let⟨q,e,d⟩:=af h;let⟨x,z⟩:=K5 e;⟨q.1,q.2.1,q.2.2,x,z,d⟩
theorem RP{f:UnaryOp×iO->Bool}(h:(Oi p).any f=ig):∃o a pos,p=.UnaryOp o a pos/\f (o,a)=ig:=let⟨q,e,b⟩:=af h;let⟨x,z⟩:=Lm e;⟨q.1,q.2,x,z,b⟩
theorem OD{f:iO×List CmpOp×List iO->Bool}(h:(Mt p).any f=ig):∃a o b pos,p=.Compare a o b pos/\f (a,o,b)=ig:=let⟨q,e,c⟩:=af h;let⟨x,z⟩:=Ib e;⟨q.1,q.2.1,q.2.2,x,z,c⟩
theorem JS{f:iO×List Comprehension×j1->Bool}(h:(LP p).any f=ig):∃a g s pos,p=.ListComp a g s pos/\f (a,g,s)=ig:=let⟨q,e,b⟩:=af h;let⟨x,z⟩:=JR e;⟨q.1,q.2.1,q.2.2,x,z,b⟩
theorem Oz{f:BoolOp×List iO×Pos->Bool}(h:(Lv p).any f=ig):∃o vs pos,p=.BoolOp o vs pos/\f (o,vs,pos)=ig:=let⟨q,e,a⟩:=af h;{q.1,q.2.1,q.2.2,HV e,a}
mutual
noncomputable def aF(Γ:Pg)(N:List Str)(sc:j1):E->iO->Bool
 |.var i,p=>(iW p).any λx=>N[i]?==hT x&&gU sc x&&okN x|.HC i,p=>(iW p).any λx=>N[i]?==hT x&&gU sc x&&okN x|.cst q,p=>(Mu p).any (Mw q)|.glob g p,e=>(iW e).any λx=>g==x&&ed sc x&&okN x&&Γ.gs.any λq=>q.1==g&&xA q.2 p|.call f as,p=>(rP p).any λq=>f==q.1&&Γ.fs.contains q.1&&ed sc q.1&&okN q.1&&fZ as&&cN Γ N sc as q.2|.blt b as,p=>nq Γ ((rP p).any λq=>bN b==q.1&&ed sc q.1&&Γ.bs.contains q.1&&!isNil as&&cN Γ N sc as q.2)|.ty t a,p=>(rP p).any λq=>(uJ q.2).any λr=>(iW r.2).any λtn=>q.1==(zu 17:Str)&&ed sc q.1&&Γ.bs.contains q.1&&tn==Str.ofString (wB t)&&ed sc tn&&Γ.bs.contains tn&&aF Γ N sc a r.1|.xt c a,p=>(rP p).any λq=>(uJ q.2).any λr=>(iW r.2).any λj=>q.1==(zu 17:Str)&&ed sc q.1&&Γ.bs.contains q.1&&j==c&&ed sc j&&okN j&&(Γ.cs.contains c||(c==(zu 1)&&Γ.bs.contains c))&&aF Γ N sc a r.1
 |.dB m o as,p=>(z9 p).any λq=>(DU q.1).any λr=>q.2.2.1.isEmpty&&(mN m==r.2.1&&!isNil as&&decide (ez as<30)&&r.2.2.endLine==q.2.2.2.line&&aF Γ N sc o r.1&&cN Γ N sc as q.2.1&&dj r.1)|.bin o a b,p=>(Sn p).any λq=>decide (OT o=q.2.1)&&aF Γ N sc a q.1&&aF Γ N sc b q.2.2|.cmp o a b,p=>(Mt p).any λq=>(cM q.2.1).any λop=>(cM q.2.2).any λh=>decide (lK o=op)&&aF Γ N sc a q.1&&aF Γ N sc b h|.ch o1 o2 a b c,p=>(Mt p).any λq=>(uJ q.2.1).any λop=>(uJ q.2.2).any λh=>decide (lK o1=op.1)&&decide (lK o2=op.2)&&aF Γ N sc a q.1&&aF Γ N sc b h.1&&aF Γ N sc c h.2|.not a,p=>(Oi p).any λq=>Hi q.1&&aF Γ N sc a q.2|.neg a,p=>(Oi p).any λq=>isNeg q.1&&aF Γ N sc a q.2|.and a b,p=>(Lv p).any λq=>(OA q.1 q.2.2 q.2.1).any λr=>pJ q.1&&c9 b&&aF Γ N sc a r.1&&aF Γ N sc b r.2|.or a b,p=>(Lv p).any λq=>(OA q.1 q.2.2 q.2.1).any λr=>!pJ q.1&&c9 b&&aF Γ N sc a r.1&&aF Γ N sc b r.2|.ite c a b,p=>(Qy p).any λq=>eN c&&c9 a&&c9 b&&aF Γ N sc c q.1&&aF Γ N sc a q.2.1&&aF Γ N sc b q.2.2|.tup as,p=>(zU p).any λps=>fZ as&&decide (ez as<1000)&&cN Γ N sc as ps|.lst as,p=>(QK p).any λps=>fZ as&&decide (ez as<1000)&&cN Γ N sc as ps|.sub a b,p=>(Hx p).any λq=>aF Γ N sc a q.1&&aF Γ N sc b q.2|.slice a lo w,p=>(Hx p).any λq=>(LX q.2).any λr=>r.2.2.isNone&&aF Γ N sc a q.1&&H9 Γ N sc lo r.1&&H9 Γ N sc w r.2.1|.comp k s d it elt,p=>nq Γ ((LP p).any λq=>(cM q.2.1).any λg=>g.ifs.isEmpty&&(pq N sc q.2.2 k s (av g.target)&&fh k d&&c9 elt&&mD Γ N sc g.target it g.iter&&cx (av g.target++freeOf q.2.2) (bu q.2.2 sc) (fO q.2.2) d g.target&&aF Γ.pT (av g.target++freeOf q.2.2) (bu q.2.2 sc) elt q.1&&decide (g.is_async=0)))|.fw k s d it c elt,p=>nq Γ ((LP p).any λq=>(cM q.2.1).any λg=>(cM g.ifs).any λy=>eN c&&pq N sc q.2.2 k s (av g.target)&&fh k d&&c9 elt&&mD Γ N sc g.target it g.iter&&cx (av g.target++freeOf q.2.2) (bu q.2.2 sc) (fO q.2.2) d g.target&&aF Γ.pT (av g.target++freeOf q.2.2) (bu q.2.2 sc) c y&&aF Γ.pT (av g.target++freeOf q.2.2) (bu q.2.2 sc) elt q.1&&decide (g.is_async=0))|.rev a,p=>(Hx p).any λq=>(LX q.2).any λr=>(r.2.2).any λst=>(Oi st).any λu=>(Mu u.2).any λc=>r.1.isNone&&r.2.1.isNone&&isNeg u.1&&QB c==hT 1&&aF Γ N sc a q.1|.get a k,p=>(z9 p).any λq=>(DU q.1).any λr=>(cM q.2.1).any λA=>q.2.2.1.isEmpty&&r.2.1==("get":Str)&&r.2.2.endLine==q.2.2.2.line&&Hm r.1&&aF Γ N sc a r.1&&aF Γ N sc k A|.con a,p=>QA a&&aF Γ N sc a p|.Lx,p=>E7 p|.fld i f,p=>(DU p).any λq=>(iW q.1).any λx=>q.2.1==f&&(N[i]?==hT x&&gU sc x&&okN x)&&decide (cg f≠d8)|.BS a,p=>nq Γ ((rP p).any λq=>(cM q.2).any λz=>(rP z).any λr=>(cM r.2).any λB=>q.1==("list":Str)&&ed sc q.1&&Γ.bs.contains q.1&&r.1==(zu 8:Str)&&ed sc r.1&&Γ.bs.contains r.1&&aF Γ N sc a B)
noncomputable def cN(Γ:Pg)(N:List Str)(sc:j1):Es->List iO->Bool
 |.nil,[]=>ig|.cons e a,p::ps=>aF Γ N sc e p&&cN Γ N sc a ps|_,_=>iv
noncomputable def H9(Γ:Pg)(N:List Str)(sc:j1):Oe->Option iO->Bool
 |.no,ie=>ig|.some e,hT p=>aF Γ N sc e p|_,_=>iv
noncomputable def mD(Γ:Pg)(N:List Str)(sc:j1)(c:iO):I->iO->Bool
 |.seq e,p=>aF Γ N sc e p|.xS e,p=>(rP p).any λq=>(cM q.2).any λr=>q.1==("range":Str)&&ed sc q.1&&Γ.bs.contains q.1&&aF Γ N sc e r|.zM a b,p=>(rP p).any λq=>(uJ q.2).any λr=>q.1==("range":Str)&&ed sc q.1&&Γ.bs.contains q.1&&aF Γ N sc a r.1&&aF Γ N sc b r.2|.enum e,p=>(rP p).any λq=>(cM q.2).any λr=>isTup c&&q.1==(zu 5:Str)&&ed sc q.1&&Γ.bs.contains q.1&&aF Γ N sc e r|.zip as,p=>(rP p).any λq=>isTup c&&q.1==("zip":Str)&&ed sc q.1&&Γ.bs.contains q.1&&fZ as&&(ez as==2||ez as==3)&&cN Γ N sc as q.2
end
set_option backward.match.sparseCases true
abbrev XE(W:Wd)(c:Str)(b H1:Hp):XK:=λd e f=>∃C a g,d=.ref C/\e=hT a/\c∈W.xs/\W.mg c=hT (.ref C)/\az W b H1 g f
def se(X:Cx)(W:Wd)(g:St)(c:Str)(G H:Hp):Prop:=∀(h:lu) (b a:Hp) (d:iM) (e:ix) (f:iM),Inv X h g a d->az W G H b a->cR X.prog X.w X.stack a d (XE W c b a) e f->X.xe e f
def Out{b:Type}(X:Cx)(W:Wd)(r:Res b)(d:St)(G H:Hp)(k:b->Prop):Prop:=match r with
 |.ok a=>k a|.exc c=>se X W d c G H|.bad=>False
section
variable{W:Wd}{F:aW}{G1:Hp}{α β:Type}
def se.grow(h:se X W σ c G H)(g:az W G H G1 H1):se X W σ c G1 H1:=λa G2 b d e f I g2 x=>h a G2 b d e f I (g.trans g2) x
def Out.grow{r:Res α}{k:α->Prop}(h:Out X W r σ G H k)(g:az W G H G1 H1):Out X W r σ G1 H1 k:=by
 cases r with
 |ok a=>exact h|exc c=>exact se.grow h g|bad=>exact h
def Out.imp{r:Res α}{k b:α->Prop}(h:Out X W r σ G H k)(i:∀a,k a->b a):Out X W r σ G H b:=by
 cases r with
 |ok a=>exact i a h|exc c=>exact h|bad=>exact h
def Out.bind{r:Res α}{f:α->Res β}{k:β->Prop}(h:Out X W (r.bind f) σ G H k):Out X W r σ G H λa=>Out X W (f a) σ G H k:=by
 cases r with
 |ok a=>exact h|exc c=>exact h|bad=>exact h
def Out.val{r:Res α}{k:α->Prop}(h:Out X W r σ G H k)(n:∀c,r≠.exc c):∃a,r=.ok a/\k a:=by
 cases r with
 |ok a=>exact⟨a,rfl,h⟩|exc c=>exact absurd rfl (n c)|bad=>exact h.elim
structure Got(W:Wd)(H0 G H:Hp)(e:E)(p:PV)(v:V):Prop where
 top:Top W zm G H p v
 rep:c9 e=ig->Rep W G p v
def Got.of{e:E}{p:PV}(h:Rep W G p v):Got W H0 G H e p v:={.inl h,λZ=>h}
abbrev tE(X:Cx)(W:Wd)(F:aW)(e:E):TE:=λσ H Q=>∃b G env,SR W b env σ G H/\Out X W (aG F e env) σ G H λp=>∀v c a,az W G H c a->Got W b c a e p v->Q v a
abbrev tT(X:Cx)(W:Wd)(F:aW)(e:E):TT:=λσ H Q=>∃c G env,SR W c env σ G H/\Out X W (aG F e env) σ G H λp=>∃b,p=.bl b/\∀d a,az W G H d a->Q b a
structure HJ(W:Wd)(H0 G H:Hp)(es:Es)(ps:List PV)(vs:List V):Prop where
 top:Paired (λv p=>Top W zm G H p v) vs ps
 rep:fZ es=ig->ag W G ps vs
abbrev tA(X:Cx)(W:Wd)(F:aW)(b:Es):TA:=λσ H Q=>∃c G env,SR W c env σ G H/\Out X W (dv F b env) σ G H λf=>∀d e a,az W G H e a->HJ W c e a b f d->Q d a
abbrev DA(X:Cx)(W:Wd)(F:aW)(o:Oe):TO:=λσ H Q=>∃b G env,SR W b env σ G H/\Out X W (Lz F o env) σ G H λi=>∀c a,az W G H c a->Q i a
def one{e:E}{f:PV->Res β}{k:β->Prop}(sr:SR W H0 env σ G H)(o:Out X W ((aG F e env).bind f) σ G H k)
 (h:∀p v G1 H1,az W G H G1 H1->Got W H0 G1 H1 e p v->SR W H0 env σ G1 H1->Out X W (f p) σ G1 H1 k->Q v H1):tE X W F e σ H Q:=
 {H0,G,env,sr,o.bind.imp λp a v G1 H1 g t=>h p v G1 H1 g t (sr.grow g) (a.grow g)}
def FE{e:E}{f:Bool->Res β}{k:β->Prop}{Q:Bool->Hp->Prop}(sr:SR W H0 env σ G H)(o:Out X W ((aG F e env).bind λp=>Aw p f) σ G H k)
 (h:∀b G1 H1,az W G H G1 H1->SR W H0 env σ G1 H1->Out X W (f b) σ G1 H1 k->Q b H1):tT X W F e σ H Q:=by
 refine{H0,G,env,sr,o.bind.imp λp a=>?_}
 cases p with
 |bl b=>exact{b,rfl,λG1 H1 g=>h b G1 H1 g (sr.grow g) (Out.grow a g)}|aE=>exact ek a|int _=>exact ek a|str _=>exact ek a|tup _=>exact ek a|lst _=>exact ek a|exc _=>exact ek a|obj _=>exact ek a|bU _ _=>exact ek a
def args{a:Es}{f:List PV->Res β}{k:β->Prop}{Q:List V->Hp->Prop}(sr:SR W H0 env σ G H)(o:Out X W ((dv F a env).bind f) σ G H k)
 (h:∀ps vs G1 H1,az W G H G1 H1->HJ W H0 G1 H1 a ps vs->SR W H0 env σ G1 H1->Out X W (f ps) σ G1 H1 k->Q vs H1):tA X W F a σ H Q:=
 {H0,G,env,sr,o.bind.imp λp b v G1 H1 g t=>h p v G1 H1 g t (sr.grow g) (b.grow g)}
def Got.grow{G2 a:Hp}{e:E}{p:PV}(h:Got W H0 G H e p v)(g:az W G H G2 a):Got W H0 G2 a e p v:={h.top.grow g,λz=>Rep.same g.g p (h.rep z)}
def Am(W:Wd)(G:Hp):Option (Str×List Nat)->List PV->List V->Prop
 |none,as,vs=>ag W G as vs|some _,_,_=>False
abbrev Dr(W:Wd)(F:aW)(f:Str)(n:Nat)(q:Option (Str×List Nat)):Sp:=λb H Q E=>b.length=n/\∃G as,aw G H/\ba W G H/\Am W G q as b/\(match F f as with
 |.ok p=>∀v d a,az W G H d a->Rep W d p v->Q v a|.exc c=>∀e g a,XE W c G H e g a->E e g a|.bad=>False)
structure Ap(X:Cx)(W:Wd)(F:aW)(k:Nat)(f:Str):Prop where
 ex:∃fa fd ps,d6 X.prog X.w X.K X.mg X.base (cR X.prog X.w) k fa fd ps (Dr W F f ps.length ie)/\X.mg f=hT (.ref fa)/\PySem.W.keepIn X.K (.ref fa)=ig/\Binds X.K fd ps []/\∀as,F f as≠.bad->as.length=ps.length
structure L3(X:Cx)(W:Wd)(F:aW)(k:Nat)(q:Hs):Prop where
 ex:∃fa fd ps,d6 X.prog X.w X.K X.mg X.base (cR X.prog X.w) k fa fd ps (Dr W F q.f ps.length (hT (q.g,q.idx)))/\X.mg q.h=hT (.ref fa)/\PySem.W.keepIn X.K (.ref fa)=ig/\Binds X.K fd ps []/\ps.length=q.np
structure dz(Γ:Pg)(F:aW)(W:Wd)(N:List Str)(sc:j1)(k:Nat)(X:Cx):Prop where
 hN:X.N=N
 cE:X.env.scope=sc
 calm:Γ.qt=iv->X.calm=ig
 nd:N.Nodup
 K:W.K=X.K
 mg:W.mg=X.mg
 gs:∀q∈Γ.gs,∃u v,X.mg q.1=hT u/\RelV v u/\∀G,Rep W G q.2 v
 bs:∀g∈Γ.bs,X.mg g=ie
 room:cL (k+1) X.A
 fns:∀f,Γ.fs.contains f=ig->Ap X W F k f
 J9:Γ.cs.contains (zu 1)=iv
 cls:∀c∈Γ.cs,∃C,X.mg c=hT (.ref C)
 xc:∀d∈W.xs,∀D,X.mg d=hT (.ref D)->mw X.K D/\(∀c∈Γ.cs,∀C,X.mg c=hT (.ref C)->PySem.W.kitOne X.K (.ref D) (.ref C)=hT (c==d||c==(zu 7)))/\PySem.W.kitOne X.K (.ref D) (.type (zu 1))=hT ig
 xi:∀q∈Γ.hs,L3 X W F k q
 Rh:∀f,Γ.qs.contains f=ig->2<=k/\Ap X W F 2 f
 any:∀g as,F g as≠.bad->Γ.fs.contains g=ig\/dY g=ig
 fld:∀f q,cg f≠d8->F (cg f) [q]≠.bad->∃n o p,q=.obj n/\W.ob[n]?=hT o/\bj o.c=iv/\o.fs.lookup f=hT p/\F (cg f) [q]=.ok p/\uM X.K o.C/\cb X.K o.C f
 con:∀q,F d8 [q]≠.bad->∃n o,q=.obj n/\W.ob[n]?=hT o/\bj o.c=ig/\F d8 [q]=.ok (yA o)
 tb:Γ.hl=ig->∃c P,X.env.code=.ref c/\PySem.W.CodeHd X.base c P/\(P,X.env.qual++(zu 16))∈W.ts/\∀q',(P,q')∈W.ts->q'=X.env.qual++(zu 16)
 bm:Γ.hl=ig->An X.mg X.base
 fl:Γ.hl=ig->∀x,X.fn x=ig
variable{Γ:Pg}{sc:j1}{k:Nat}
def wC(C:zv4 X)(h:gU sc x=ig):Mb X.env.scope x:=by
 rw [C.cE];unfold gU eP at h;simp! [e6,zzy] at h;rcases h with(h|h)|h
 .exact .inl h
 .exact .inr (.inl h)
 .exact .inr (.inr h)
def b9(C:zv4 X){x:Str}(h:ed sc x=ig):Gl X x:=by show X.env.scope.names.lookup x=_;rw [C.cE];exact zzy.mp h
def dw(h:okN x=ig):(x==(zu 18:Str))=iv/\(x==("__classdict__":Str))=iv/\x≠(zu 27):=by unfold okN at h;simp! [zza,Bool.not_eq_true',beq_eq_false_iff_ne] at h;exact{beq_eq_false_iff_ne.mpr h.1.1,beq_eq_false_iff_ne.mpr h.1.2,h.2}
noncomputable abbrev GE(X:Cx)(W:Wd)(F:aW)(e:E)(p:iO):Prop:=PE X p (tE X W F e)
noncomputable abbrev GT(X:Cx)(W:Wd)(F:aW)(e:E)(p:iO):Prop:=PT X p (tT X W F e)
noncomputable abbrev GW(X:Cx)(W:Wd)(F:aW)(e:E)(p:iO):Prop:=PW X p (tT X W F e)
def _root_.L2.PE.imp{t t':TE}(h:PE X p t)(i:∀σ H Q,t' σ H Q->t σ H Q):PE X p t':=λa s σ H Q I b=>h a s σ H Q I (i σ H Q b)
def _root_.L2.PT.imp{t t':TT}(h:PT X p t)(i:∀σ H Q,t' σ H Q->t σ H Q):PT X p t':=λa s σ H Q I b=>h a s σ H Q I (i σ H Q b)
def _root_.L2.PW.imp{t t':TT}(h:PW X p t)(i:∀σ H Q,t' σ H Q->t σ H Q):PW X p t':=λw a s σ H Q I b=>h w a s σ H Q I (i σ H Q b)
def _root_.L2.PA.imp{p:List iO}{t t':TA}(h:PA X p t)(i:∀σ H Q,t' σ H Q->t σ H Q):PA X p t':=λa b s σ H Q I c=>h a b s σ H Q I (i σ H Q c)
def Hz{e:E}(σ:St)(H:Hp)(Q:Bool->Hp->Prop)(h:tT X W F e σ H Q):tB (tE X W F e) σ H Q:=by let(a,G,env,sr,o):=h;refine{a,G,env,sr,o.imp λp c v d f g t=>?_};let(b,rfl,q):=c;exact{b,t.top.bl,q d f g}
def uG{e:E}(σ:St)(H:Hp)(Q:Bool->Hp->Prop)(h:tT X W F e σ H Q):DB (tE X W F e) σ H Q:=Hz σ H Q h
def ED{i:Nat}(hn:X.N[i]?=hT x)(a:Mb X.env.scope x)(h:okN x=ig):GE X W F (.var i) (.Name x pos):=by
 let(b,c,g):=dw h;refine(kM (i:=i) hn a b c).imp λσ H Q d=>?_;let(j,G,env,sr,o):=d
 cases e:env[i]? with
 |none=>unfold aG at o;rw [e] at o;exact o.elim|some f=>
  cases f with
  |no=>unfold aG at o;rw [e] at o;exact o.elim|own p=>unfold aG at o;rw [e] at o;exact o.elim|val p=>unfold aG at o;rw [e] at o;let(o2,hs,v,rfl,r):=sr.slot i _ e;exact{v,hs,o v G H (.refl sr.sub) (.of r)}
def Be(C:zv4 X){i:Nat}(h:(N[i]?==hT x&&gU sc x&&okN x)=ig):GE X W F (.var i) (.Name x pos):=by simp! [zza,zzy] at h;exact ED (by rw [C.hN];exact h.1.1) (wC C h.1.2) h.2
def IZ(C:zv4 X){i:Nat}(h:(N[i]?==hT x&&gU sc x&&okN x)=ig):GE X W F (.HC i) (.Name x pos):=by
 simp! [zza,zzy] at h;let(a,b,f):=dw h.2;refine(kM (i:=i) (by rw [C.hN];exact h.1.1) (wC C h.1.2) a b).imp λσ H Q c=>?_;let(g,G,env,sr,o):=c
 cases e:env[i]? with
 |none=>unfold aG at o;rw [e] at o;exact o.elim|some d=>
  cases d with
  |no=>unfold aG at o;rw [e] at o;exact o.elim|own p=>unfold aG at o;rw [e] at o;let(o2,hs,v,rfl,r):=sr.slot i _ e;exact{v,hs,o v G H (.refl sr.sub) {.inr r.any,nofun}}|val p=>unfold aG at o;rw [e] at o;let(o2,hs,v,rfl,r):=sr.slot i _ e;exact{v,hs,o v G H (.refl sr.sub) (.of r)}
def gH{p:PV}(h:PE X e (tC v))(r:∀G,Rep W G p v):GE X W F (.cst p) e:=by refine L2.PE.imp h λσ H Q a=>?_;let(b,G,env,sr,o):=a;exact o v G H (.refl sr.sub) (.of (r G))
def EB(C:zv4 X){g:Str}{p:PV}(h:(g==x&&ed sc x&&okN x&&Γ.gs.any λq=>q.1==g&&xA q.2 p)=ig):GE X W F (.glob g p) (.Name x pos):=by simp! [zza,zzy,ej] at h;let(((rfl,b),c),q,a,d,e):=h;let(u,v,hm,f,i):=C.gs q a;rw [d] at hm;cases BP e;refine(xK (b9 C b) hm f (dw c).1).imp λσ H Q a=>?_;let(j,G,env,sr,o):=a;exact o v G H (.refl sr.sub) (.of (i G))
def Res.aH{α:Type}{o:Option α}(c:Str):Res.of o≠.exc c:=by cases o<;>exact nofun
def nt{α β:Type}{o:Option α}{f:α->Res β}(h:∀a,f a≠.exc c):(Res.of o).bind f≠.exc c:=by
 cases o with
 |none=>exact nofun|some a=>exact h a
def oH{o:HE}{p:PV}(c:Str):binOp o p q≠.exc c:=by
 unfold binOp
 repeat' split
 all_goals exact nofun
local macro_rules|`(tactic|ac_rfl)=>`(tactic|repeat' first|split|refine nt fun _=>?_|exact Res.aH _|exact nofun)
def Fs{p:PV}(c:Str):qU p q≠.exc c:=by
 unfold qU
 ac_rfl
def FA{p:PV}(c:Str):vM p q≠.exc c:=by
 unfold vM
 ac_rfl
def Fz{p:PV}(c:Str):vL p q≠.exc c:=by
 unfold vL
 ac_rfl
def Fy{p:PV}(c:Str):vK p q≠.exc c:=by
 unfold vK
 ac_rfl
def Fv{p:PV}(c:Str):Cm p q≠.exc c:=by
 unfold Cm
 ac_rfl
def Ft{p:PV}(c:Str):vJ p q≠.exc c:=by
 unfold vJ
 ac_rfl
def Fx{p:PV}(c:Str):Cn p q≠.exc c:=by
 unfold Cn
 ac_rfl
def Fw{p:PV}(c:Str):zy p q≠.exc c:=by
 unfold zy
 ac_rfl
def Cg{p:PV}(c:Str):pV p q≠.exc c:=by
 unfold pV
 ac_rfl
def Cf{p:PV}(c:Str):ud p q≠.exc c:=by
 unfold ud
 ac_rfl
def cA{o:rZ}{p:PV}(c:Str):cX o p q≠.exc c:=match o with
 |.eq=>Fs c|.ne=>FA c|.lt=>Fz c|.le=>Fy c|.gt=>Fv c|.ge=>Ft c|.is=>Fx c|.Hh=>Fw c|.LR=>Cg c|.JZ=>Cf c
def two{op:PV->PV->Res PV}{a b:E}{e:E}(hn:∀p q c,op p q≠.exc c)(he:∀env,aG F e env=(aG F a env).bind λx=>(aG F b env).bind λy=>op x y)
 (h:tE X W F e σ H Q):L0 (rY W op) (tE X W F a) (tE X W F b) σ H Q:=by
 let(A,G,env,sr,o):=h;rw [he] at o;refine one sr o λp v G1 H1 g1 d f o1=>one f o1 λq u G2 B g2 t2 g o2=>?_;let(r,i,j):=o2.val (hn p q);exact{zm,G2,p,q,r,g.sub,d.top.grow g2,t2.top,i,λw m s t z=>j w m s ((g1.trans g2).trans t) (.of z)}
def Ez(hK:W.K=X.K){o:HE}{a b:E}(f:GE X W F a d)(g:GE X W F b e):GE X W F (.bin o a b) (.BinOp d (OT o) e pos):=
 (NM (Kc hK o) f g).imp λσ H Q h=>two (λp q c=>oH c) (λenv=>by rw [aG]) h
def II(C:zv4 X){o:HE}{a b:E}{c:iO}(e:GE X W F a c)(f:GE X W F b d):GE X W F (.bin o a b) (.BinOp c (OT o) d pos):=Ez C.K e f
def IK(C:zv4 X){o:rZ}{a b:E}(f:GE X W F a e)(g:GE X W F b d)(hm:behindInMarks (lK o) d=iv):GE X W F (.cmp o a b) (.Compare e [lK o] [d] pos):=
 (xJ (fN C.K C.room.units o) f g hm).imp λσ H Q h=>two (λp q c=>cA c) (λenv=>by rw [aG]) h
theorem Jm(C:zv4 X){o:rZ}{a b:E}(f:GE X W F a e)(g:GE X W F b d)(hm:behindInMarks (lK o) d=iv):GT X W F (.cmp o a b) (.Compare e [lK o] [d] pos):=
 (xO (fN C.K C.room.units o) f g hm).imp λσ H Q h=>by have i:=uG σ H Q h;exact two (λp q c=>cA c) (λenv=>by rw [aG]) i
def G6{c1 f:rZ}{a b c:E}(σ:St)(H:Hp)(Q:VK)(h:tE X W F (.ch c1 f a b c) σ H Q):wj (rY W (cX c1)) (rY W (cX f)) (tE X W F a) (tE X W F b) (tE X W F c) σ H Q:=by
 let(Y,G,env,sr,o):=h;rw [aG] at o;refine one sr o λp v G1 H1 g1 C D o1=>one D o1 λq u G2 m g2 t2 s o2=>?_;let(r,I,d):=o2.bind.val (cA);refine{zm,G2,p,q,r,s.sub,C.top.grow g2,t2.top,I,λw J K e A=>?_}
 cases r with
 |bl t=>
  simp! [Rep] at A;subst A;refine{t,rfl,?_};cases t with
  |false=>rw [if_neg zzf];have g:Out X W (Res.ok (PV.bl iv)) σ G2 m _:=d;exact g _ J K ((g1.trans g2).trans e) (.of .b)|true=>rw [if_pos rfl];have g:Out X W ((aG F c env).bind λz=>cX f q z) σ G2 m _:=d;refine one (s.grow e) (g.grow e) λz y L Z B M O P=>?_;let(R,i,j):=P.val (cA);exact{zm,L,q,z,R,O.sub,t2.top.grow (e.trans B),M.top,i,λw S T U V=>j w S T ((((g1.trans g2).trans e).trans B).trans U) (.of V)}
 |aE=>exact ek d|int _=>exact ek d|str _=>exact ek d|tup _=>exact ek d|lst _=>exact ek d|exc _=>exact ek d|obj _=>exact ek d|bU _ _=>exact ek d
def MC(C:zv4 X){o1 o2:rZ}{a b c:E}{f:iO}(g:GE X W F a f)(h:GE X W F b d)(i:GE X W F c e)(hm:lastMarks [lK o1,lK o2] [d,e]=iv):GE X W F (.ch o1 o2 a b c) (.Compare f [lK o1,lK o2] [d,e] pos):=
 (Cs (fN C.K C.room.units o1) (fN C.K C.room.units o2) g h i hm).imp G6
def MF(C:zv4 X){o1 o2:rZ}{a b c:E}{f:iO}(g:GE X W F a f)(i:GE X W F b d)(j:GE X W F c e)(hm:lastMarks [lK o1,lK o2] [d,e]=iv):GT X W F (.ch o1 o2 a b c) (.Compare f [lK o1,lK o2] [d,e] pos):=
 (CZ (fN C.K C.room.units o1) (fN C.K C.room.units o2) g i j hm).imp λσ H Q h=>G6 σ H _ (uG σ H Q h)
theorem Bc{a:E}{b:iO}(c:GE X W F a b):GE X W F (.neg a) (.UnaryOp .USub b pos):=
 (NO (GH (W:=W)) c).imp λσ H Q h=>by
  let(q,G,env,sr,o):=h;rw [aG] at o;refine one sr o λp v G1 H1 g1 d e o1=>?_
  cases p with
  |int i=>exact{zm,G1,i,e.sub,d.top,λw f g j m=>o1 w f g (g1.trans j) (.of m)}|bl _=>exact ek o1|aE=>exact ek o1|str _=>exact ek o1|tup _=>exact ek o1|lst _=>exact ek o1|exc _=>exact ek o1|obj _=>exact ek o1|bU _ _=>exact ek o1
theorem IW{a:E}{c:iO}(d:GE X W F a c):GE X W F (.not a) (.UnaryOp .Not c pos):=
 (Ky d).imp λσ H Q h=>by
  let(f,G,env,sr,o):=h;rw [aG] at o;refine one sr o λp v G1 H1 g1 e g o1=>?_
  cases p with
  |bl b=>exact{b,e.top.bl,o1 _ G1 H1 g1 (.of .b)}|int _=>exact ek o1|aE=>exact ek o1|str _=>exact ek o1|tup _=>exact ek o1|lst _=>exact ek o1|exc _=>exact ek o1|obj _=>exact ek o1|bU _ _=>exact ek o1
theorem Jn{a:E}{c:iO}(d:GT X W F a c):GT X W F (.not a) (.UnaryOp .Not c pos):=
 (KL d).imp λσ H Q h=>by let(f,G,env,sr,o):=h;rw [aG] at o;refine FE sr o λb G1 H1 g1 g o1=>?_;let(i,e,q):=o1;cases e;exact q G1 H1 g1
theorem Ba{a b:E}{r:List iO}(he:c9 b=ig)(f:GE X W F a d)(g:GE X W F b (.BoolOp .And (e::r) pos)):GE X W F (.and a b) (.BoolOp .And (d::e::r) pos):=
 (Cr f g).imp λσ H Q h=>by
  let(i,G,env,sr,o):=h;rw [aG] at o;refine one sr o λp v G1 H1 g1 j m o1=>?_
  cases p with
  |bl t=>
   refine{t,j.top.bl,?_};cases t with
   |true=>rw [if_pos rfl];have c:Out X W (aG F b env) σ G1 H1 _:=o1;exact{i,G1,env,m,c.imp λp q v s u w y=>q v s u (g1.trans w) (.of (y.rep he))}|false=>rw [if_neg zzf];have c:Out X W (Res.ok (PV.bl iv)) σ G1 H1 _:=o1;exact c _ G1 H1 g1 (.of .b)
  |int _=>exact ek o1|aE=>exact ek o1|str _=>exact ek o1|tup _=>exact ek o1|lst _=>exact ek o1|exc _=>exact ek o1|obj _=>exact ek o1|bU _ _=>exact ek o1
theorem Ha{a b:E}{r:List iO}(he:c9 b=ig)(f:GE X W F a d)(g:GE X W F b (.BoolOp .Or (e::r) pos)):GE X W F (.or a b) (.BoolOp .Or (d::e::r) pos):=
 (NN f g).imp λσ H Q h=>by
  let(i,G,env,sr,o):=h;rw [aG] at o;refine one sr o λp v G1 H1 g1 j m o1=>?_
  cases p with
  |bl t=>
   refine{t,j.top.bl,?_};cases t with
   |false=>rw [if_neg zzf];have c:Out X W (aG F b env) σ G1 H1 _:=o1;exact{i,G1,env,m,c.imp λp q v s u w y=>q v s u (g1.trans w) (.of (y.rep he))}|true=>rw [if_pos rfl];have c:Out X W (Res.ok (PV.bl ig)) σ G1 H1 _:=o1;exact c _ G1 H1 g1 (.of .b)
  |int _=>exact ek o1|aE=>exact ek o1|str _=>exact ek o1|tup _=>exact ek o1|lst _=>exact ek o1|exc _=>exact ek o1|obj _=>exact ek o1|bU _ _=>exact ek o1
theorem Bq{a b:E}{f:iO}{r:List iO}(g:GT X W F a d)(i:GW X W F b (.BoolOp .And (f::r) pos)):GW X W F (.and a b) (.BoolOp .And (d::f::r) pos):=
 (pw_and g i).imp λσ H Q h=>by
  let(j,G,env,sr,o):=h;rw [aG] at o;refine FE sr o λt G1 H1 g1 m o1=>?_
  cases t with
  |true=>rw [if_pos rfl];have s:Out X W (aG F b env) σ G1 H1 _:=o1;exact{j,G1,env,m,s.imp λp u=>by let(c,rfl,q):=u;exact{c,rfl,λw y z=>q w y (g1.trans z)}}|false=>rw [if_neg zzf];let(c,e,q):=(show Out X W (Res.ok (PV.bl iv)) σ G1 H1 _ from o1);cases e;exact q G1 H1 g1
theorem Hb{a b:E}{f:iO}{r:List iO}(g:GT X W F a d)(i:GW X W F b (.BoolOp .Or (f::r) pos)):GW X W F (.or a b) (.BoolOp .Or (d::f::r) pos):=
 (pw_or g i).imp λσ H Q h=>by
  let(j,G,env,sr,o):=h;rw [aG] at o;refine FE sr o λt G1 H1 g1 m o1=>?_
  cases t with
  |false=>rw [if_neg zzf];have s:Out X W (aG F b env) σ G1 H1 _:=o1;exact{j,G1,env,m,s.imp λp u=>by let(c,rfl,q):=u;exact{c,rfl,λw y z=>q w y (g1.trans z)}}|true=>rw [if_pos rfl];let(c,e,q):=(show Out X W (Res.ok (PV.bl ig)) σ G1 H1 _ from o1);cases e;exact q G1 H1 g1
theorem IU{c a b:E}{m q r:iO}(w:c9 a=ig)(y:c9 b=ig)(z:GT X W F c m)(A:GE X W F a q)(B:GE X W F b r):GE X W F (.ite c a b) (.IfExp m q r pos):=
 (ug z A B).imp λσ H Q h=>by
  let(s,G,env,sr,o):=h;rw [aG] at o;refine FE sr o λt G1 H1 g1 u o1=>?_
  cases t with
  |true=>rw [if_pos rfl];have d:Out X W (aG F a env) σ G1 H1 _:=o1;exact{s,G1,env,u,d.imp λp e v f g i j=>e v f g (g1.trans i) (.of (j.rep w))}|false=>rw [if_neg zzf];have d:Out X W (aG F b env) σ G1 H1 _:=o1;exact{s,G1,env,u,d.imp λp e v f g i j=>e v f g (g1.trans i) (.of (j.rep y))}
abbrev tF(X:Cx)(W:Wd)(F:aW)(e:E):TE:=λσ H Q=>∃f G env,SR W f env σ G H/\Out X W (aG F e env) σ G H λp=>∃xs,p=.lst xs/\∀a c d b,az W G H d b->b a=ie->ag W d xs c->Q (.ref a) (upd b a (.lst c))
noncomputable abbrev GF(X:Cx)(W:Wd)(F:aW)(e:E)(p:iO):Prop:=PE X p (tF X W F e)
theorem GF.ge{e:E}(h:GF X W F e p)(hl:∀env q,aG F e env=.ok q->∃xs,q=.lst xs):GE X W F e p:=
 L2.PE.imp h λσ H Q d=>by
  let(f,G,env,sr,o):=d
  refine{f,G,env,sr,?_};cases r:aG F e env with
  |bad=>rw [r] at o;exact o|exc c=>rw [r] at o;exact o|ok q=>rw [r] at o;let(xs,rfl):=hl env q r;exact{xs,rfl,λa i j m g b l=>o _ _ _ (g.trans (.new g.sub b)) (.of (.l (.inl (.inl ak)) (ag.same (aS (g.sub.free b)) xs l)))}
set_option tactic.hygienic true in
def notStar{e:E}(h:aF Γ N sc e p=ig):∀env ps,starEach (p::ps) env=(iv,eval p env)::starEach ps env:=by
 intro env ps;cases p<;>first|rfl|(cases e<;>first|(exact aI h)|(rename_i q;cases q<;>exact aI h))
theorem bY:∀{a:Es} {ps:List iO},cN Γ N sc a ps=ig->∀env pos,(backTo pos (starEach ps env)).any (·.1)=iv
 |.nil,[],_,_,_=>rfl|.cons e a,p::ps,h,env,pos=>by replace h:=ah h;rw [notStar h.1];show(iv||(backTo pos (starEach ps env)).any (·.1))=iv;rw [bY h.2];rfl
 |.nil,_::_,h,_,_=>aI h|.cons _ _,[],h,_,_=>aI h
noncomputable abbrev GA(X:Cx)(W:Wd)(F:aW)(a:Es)(ps:List iO):Prop:=PA X ps (tA X W F a)
theorem IH:GA X W F .nil []:=L2.PA.imp bW λσ H Q h=>by let(a,G,env,sr,o):=h;rw [dv] at o;exact o [] G H (.refl sr.sub) {.nil,λZ=>.nil}
theorem Ey{e:E}{a:Es}{ps:List iO}(he:GE X W F e p)(hs:GA X W F a ps)(c:starEach (p::ps) X.env=(iv,eval p X.env)::starEach ps X.env):GA X W F (.cons e a) (p::ps):=
 L2.PA.imp (aV he hs c) λσ H Q h=>by let(j,G,env,sr,o):=h;rw [dv] at o;refine one sr o λq v G1 H1 g1 b d o1=>args d o1 λqs f G2 i g2 t2 m o2=>?_;refine o2 (v::f) G2 i (g1.trans g2) {.cons (b.top.grow g2) t2.top,λz=>?_};unfold fZ at z;rw [zza] at z;exact .cons (Rep.same g2.g q (b.rep z.1)) (t2.rep z.2)
theorem ju:∀{a:Es} {env:Sl} {ps:List PV},dv F a env=.ok ps->ps.length=ez a
 |.nil,env,ps,h=>by rw [dv] at h;cases h;rfl
 |.cons e a,env,ps,h=>by rw [dv] at h;let(p,_,h):=Res.aC h;let(qs,b,h):=Res.aC h;cases h;rw [bE,ju b];rfl
theorem I0{a:Es}{ps:List iO}(e:fZ a=ig)(hl:ez a<1000)(h:GA X W F a ps):GE X W F (.tup a) (.Tuple ps x1 pos):=
 L2.PE.imp (CD h) λσ H Q f=>by
  let(g,G,env,sr,o):=f;rw [aG] at o;have i:=o
  refine{g,G,env,sr,?_};cases r:dv F a env with
  |bad=>rw [r] at o;exact o|exc c=>rw [r] at o;exact o|ok qs=>rw [r] at o;have b:=ju r;intro j G1 H1 g1 t;have l:=t.rep e;refine{by rw [l.length,b];exact Nat.le_of_lt (Nat.lt_trans hl (by decide)),λp d=>?_};exact o _ _ _ (g1.trans (.new g1.sub d)) (.of (.t (.inl ak) (ag.same (aS (g1.sub.free d)) qs l)))
theorem Bg{a:Es}{ps:List iO}(d:fZ a=ig)(hl:ez a<1000)(h:GA X W F a ps):GF X W F (.lst a) (.List ps pos):=
 L2.PE.imp (CA h) λσ H Q f=>by
  let(g,G,env,sr,o):=f
  rw [aG] at o;refine{g,G,env,sr,?_};cases r:dv F a env with
  |bad=>rw [r] at o;exact o|exc c=>rw [r] at o;exact o|ok qs=>rw [r] at o;have b:=ju r;let(xs,e,o):=o;cases e;intro i G1 H1 g1 t;have l:=t.rep d;exact{by rw [l.length,b];exact Nat.le_of_lt (Nat.lt_trans hl (by decide)),λp j=>o p i G1 H1 g1 j l}
theorem lst_is{a:Es}:∀env q,aG F (.lst a) env=.ok q->∃xs,q=.lst xs:=λenv q h=>by rw [aG] at h;let(b,_,h):=Res.aC h;cases h;exact{_,rfl}
def pS{p:PV}(c:Str):dC p q≠.exc c:=by
 unfold dC
 ac_rfl
def IY(C:zv4 X){a b:E}(f:GE X W F a e)(g:GE X W F b d)(hs:qf d):GE X W F (.sub a b) (.Subscript e d pos):=
 (Ho (Nl C.K C.room.units) f g hs).imp λσ H Q h=>two (λp q c=>pS c) (λenv=>by rw [aG]) h
set_option tactic.hygienic true in
def uk{e:E}(h:aF Γ N sc e p=ig):qf p:=by
 intro o i;cases p<;>first|rfl|(cases e<;>first|(exact aI h)|(rename_i q;cases q<;>exact aI h))
set_option tactic.hygienic true in
def qQ{e:E}(h:aF Γ N sc e p=ig)(op:CmpOp):behindInMarks op p=iv:=by
 cases p<;>first|rfl|(cases e<;>first|(exact aI h)|(rename_i q;cases q<;>exact aI h))
theorem EG:PO X ie (DA X W F .no):=λa s σ H Q I h=>FY a s σ H Q I (by let(b,G,env,sr,o):=h;rw [Lz] at o;exact o G H (.refl sr.sub))
theorem EH{e:E}(h:GE X W F e p):PO X (hT p) (DA X W F (.some e)):=λa s σ H Q I b=>FZ h a s σ H Q I (by
 let(d,G,env,sr,o):=b;rw [Lz] at o;refine one sr o λq v G1 H1 g1 c f o1=>?_
 cases q with
 |int i=>exact{i,c.top.int,o1 G1 H1 g1}|bl _=>exact ek o1|aE=>exact ek o1|str _=>exact ek o1|tup _=>exact ek o1|lst _=>exact ek o1|exc _=>exact ek o1|obj _=>exact ek o1|bU _ _=>exact ek o1)
def t7{p:PV}{a b:Option Int}(c:Str):j9 p a b≠.exc c:=by
 unfold j9
 ac_rfl
theorem Bd(C:zv4 X){a:E}{e f:Oe}{g:iO}{i j:Option iO}{p2:Pos}(q:GE X W F a g)(hl:PO X i (DA X W F e))(s:PO X j (DA X W F f)):GE X W F (.slice a e f) (.Subscript g (.Slice i j ie p2) pos):=
 (CB (Rv C.K) q hl s).imp λσ H Q h=>by let(m,G,env,sr,o):=h;rw [aG] at o;refine one sr o λp v G1 H1 g1 t d o1=>?_;refine{m,G1,env,d,o1.bind.imp λl u G2 M g2=>?_};refine{m,G2,env,d.grow g2,(u.grow g2).bind.imp λO y z P b=>?_};let(r,A,B):=(y.grow b).val (λc=>t7 c);exact{zm,z,p,r,((d.grow g2).grow b).sub,t.top.grow (g2.trans b),A,λw D I J L=>B w D I (((g1.trans g2).trans b).trans J) (.of L)}
def xT{CX:yb}{f:iN}{fd:FuncData}{ps:List Str}{sp:Sp}{E:XK}{s:iM}(b:d6 X.prog X.w X.K X.mg X.base CX k f fd ps sp)(d:cL k X.A)(g:Binds X.K fd ps [])
 (i:∀e s',CX X.stack H s E e s'->X.xe e s') (I:zv3 s) (r:Vals vs us) (h:sp vs H Q E):zx7 X (call (.ref f) us) (EP X aa σ Q) X.xe s:=by
 have hl:us.length=ps.length:=by rw [<-r.length];exact b.len _ _ _ _ h
 have c:=g s us I.iR (by rw [hG];exact hl);rw [hG] at c;refine wpAny_call (codeAny_mono (b.run X.A X.stack s H {us,[]} us vs Q E d I.js c r h) λr s' a=>?_)
 cases r with
 |error e=>exact i e s' a|ok fl=>
  cases fl with
  |ret u=>exact I.after a|next=>exact ek a|brk=>exact ek a|cont=>exact ek a
def D9.imp{s s':iM}{E c:XK}{e:ix}(h:cR P w outer H s E e s')(i:∀C a b,E C a b->c C a b):cR P w outer H s c e s':=by let(a,C,t,d,b,B,rfl,F):=h;exact{a,C,t,d,b,B,rfl,{F.os,F.bare,F.aJ,F.A4,F.tn,F.tup,F.dW,F.cG,F.un,i _ _ _ F.ends}}
def jg(C:cL k X.A){i:iN}{fd:FuncData}{pn:List Str}{q:Option (Str×List Nat)}{s:iM}{as:List PV}
 (D:d6 X.prog X.w X.K X.mg X.base (cR X.prog X.w) k i fd pn (Dr W F f pn.length q)) (J:Binds X.K fd pn []) (d:F f as≠.bad->vs.length=pn.length)
 (I:zv3 s) (j:aw G H) (tb:ba W G H) (l:Am W G q as vs) (r:Vals vs us) (o:Out X W (F f as) σ G H λp=>dm W G H p Q):zx7 X (call (.ref i) us) (EP X aa σ Q) X.xe s:=by
 have h:F f as≠.bad:=λz=>by rw [z] at o;exact o
 refine xT (E:=λm u b=>∃c,F f as=.exc c/\XE W c G H m u b) D C J (λe L x=>?_) I r {d h,G,as,j,tb,l,?_}
 .cases z:F f as with
  |ok q=>let(a,R,t,vs,b,B,rfl,Fl):=x;let(c,g,_):=Fl.ends;rw [z] at g;cases g
  |exc c=>rw [z] at o;refine o aa G H s e L I (.refl j) (D9.imp x λS a b y=>?_);let(T,g,y):=y;rw [z] at g;cases g;exact y
  |bad=>exact absurd z h
 .cases z:F f as with
  |ok q=>rw [z] at o;exact λv M b O P=>o v M b O P|exc c=>exact λm u b x=>⟨c,rfl,x⟩|bad=>exact absurd z h
def dz.rm(C:zv4 X):cL k X.A:=C.room.mono (Nat.le_succ k)
def EA(C:zv4 X){e:E}{b:Es}{ps:List iO}(i:Γ.fs.contains f=ig)(j:ed sc f=ig)(m:okN f=ig)(u:fZ (.cons e b)=ig)(w:GA X W F (.cons e b) (p::ps))
 (y:starEach (p::ps) X.env=(iv,eval p X.env)::starEach ps X.env) (hpl:(backTo pos (starEach ps X.env)).any (·.1)=iv):GE X W F (.call f (.cons e b)) (.Call (.Name f np) (p::ps) [] pos):=by
 intro A s σ H Q I h;let(R,G,env,sr,o):=h;rw [aG] at o;let(S,fd,pn,B,hm,hk,D,a):=(C.fns f i).ex;refine wpAny_Call_Name_kw (di I (b9 C j) hm ?_ (dw m).1);refine PySem.W.callWith_K (h₀:=X.base) I.ok.mod.Fb hk (bb (w pos A s σ H (λc H1=>∃G1 as,aw G1 H1/\ba W G1 H1/\ag W G1 as c/\Out X W (F f as) σ G1 H1 λp=>dm W G1 H1 p Q) I ?_) λT U ⟨c,H1,d,r,q⟩=>{d.iR,?_}) y hpl
 .refine args sr o λas c G1 H1 g1 t g o1=>{G1,as,g.sub,g.tab,t.rep u,o1.imp λp J v K L M O=>J v K L (g1.trans M) (.of O)}
 .let(G1,as,P,tb,l,o1):=q;exact jg C.rm B D (λz=>by rw [l.length];exact a as z) d P tb l r o1
def Bb(C:zv4 X)(d:Γ.fs.contains f=ig)(e:ed sc f=ig)(g:okN f=ig):GE X W F (.call f .nil) (.Call (.Name f np) [] [] pos):=by intro y s σ H Q I h;let(i,G,env,sr,o):=h;rw [aG,dv] at o;let(A,fd,pn,j,hm,hk,m,a):=(C.fns f d).ex;refine wpAny_Call_Name_kw (di I (b9 C e) hm ?_ (dw g).1);refine PySem.W.callWith_K0 I.iR hk ?_;have r:Out X W (F f []) σ G H λp=>∀v c b,az W G H c b->Got W i c b (.call f .nil) p v->Q v b:=o;exact jg (us:=[]) (vs:=[]) (as:=[]) (q:=ie) C.rm j m (λz=>a [] z) I sr.sub sr.tab (show ag W G [] [] from .nil) .nil (r.imp λp t v c b u w=>t v c b u (.of w))
def Fn(c:Str):AB ps≠.exc c:=by
 unfold AB
 ac_rfl
def Fo(c:Str):AD ps≠.exc c:=by
 unfold AD
 ac_rfl
def Fp(c:Str):AE ps≠.exc c:=by
 unfold AE
 ac_rfl
def Fm(c:Str):AA ps≠.exc c:=by
 unfold AA
 ac_rfl
def Fq(c:Str):AF ps≠.exc c:=by
 unfold AF
 ac_rfl
def zt(c:Str):mz ps≠.exc c:=by
 unfold mz
 ac_rfl
def Fj(c:Str):Az ps≠.exc c:=by
 unfold Az
 ac_rfl
def vG(c:Str):jd ps≠.exc c:=by
 unfold jd
 ac_rfl
def vH(c:Str):jW ps≠.exc c:=by
 unfold jW
 ac_rfl
def zv(c:Str):ni ps≠.exc c:=by
 unfold ni
 ac_rfl
def Ce(c:Str):tX ps≠.exc c:=by
 unfold tX
 ac_rfl
def zq{b:B}(c:Str):kR b ps≠.exc c:=match b with
 |.len=>Fn c|.max2=>Fo c|.min2=>Fp c|.int=>Fm c|.str=>Fq c|.tuple=>zt c|.all=>Fj c|.sorted=>vG c
def zr{m:M}(c:Str):B3 m ps≠.exc c:=match m with
 |.iG=>vH c|.index=>zv c|.join=>Ce c
def Kt(C:zv4 X)(g:Γ.qt=iv)(b:B){f:List iO}{t:TA}(h:ed sc (bN b)=ig)(hm:Γ.bs.contains (bN b)=ig)(a:PA X (e::f) t)
 (he:starEach (e::f) X.env=(iv,eval e X.env)::starEach f X.env) (hpl:(backTo pos (starEach f X.env)).any (·.1)=iv):PE X (.Call (.Name (bN b) np) (e::f) [] pos) (OW (Ao W (kR b)) t):=by
 have c:=C.bs _ (eu.mp hm);have d:=b9 C h;cases b
 case len=>exact dy (ym C.K) d c PySem.boot_len a (he:=he) (hpl:=hpl)
 case max2=>exact dy (yo (C.calm g)) d c (by decide+kernel) a (he:=he) (hpl:=hpl)
 case min2=>exact dy (yt (C.calm g)) d c (by decide+kernel) a (he:=he) (hpl:=hpl)
 case int=>exact ff yj d c (by decide+kernel) a (he:=he) (hpl:=hpl)
 case str=>exact ff yu d c (by decide+kernel) a (he:=he) (hpl:=hpl)
 case tuple=>exact ff (sy C.K) d c (by decide+kernel) a (he:=he) (hpl:=hpl)
 case all=>exact dy (yi (C.calm g) C.K) d c (by decide+kernel) a (he:=he) (hpl:=hpl)
 case sorted=>exact dy (qp C.K (C.calm g)) d c (by decide+kernel) a (he:=he) (hpl:=hpl)
def HX{op:List PV->Res PV}{a:Es}{e:E}(hn:∀ps c,op ps≠.exc c)(he:∀env,aG F e env=(dv F a env).bind λps=>op ps)(h:tE X W F e σ H Q):OW (Ao W op) (tA X W F a) σ H Q:=by let(p,G,env,sr,o):=h;rw [he] at o;refine args sr o λps q G1 H1 g1 t b o1=>?_;let(r,d,f):=o1.val (hn ps);exact{zm,G1,ps,r,b.sub,t.top,d,λw g i j m=>f w g i (g1.trans j) (.of m)}
def IJ(C:zv4 X)(d:Γ.qt=iv)(b:B){a:Es}{ps:List iO}(f:ed sc (bN b)=ig)(hm:Γ.bs.contains (bN b)=ig)(g:GA X W F a (e::ps))
 (he:starEach (e::ps) X.env=(iv,eval e X.env)::starEach ps X.env) (hpl:(backTo pos (starEach ps X.env)).any (·.1)=iv):GE X W F (.blt b a) (.Call (.Name (bN b) np) (e::ps) [] pos):=
 (Kt C d b f hm g he hpl).imp λσ H Q h=>HX (λps c=>zq c) (λenv=>by rw [aG]) h
def Ca{t:Ty}{p:PV}(c:Str):GD t p≠.exc c:=by cases p<;>exact nofun
def KA(C:zv4 X)(t:Ty)(a:ed sc (Str.ofString (wB t))=ig)(hm:Γ.bs.contains (Str.ofString (wB t))=ig):PE X (.Name (Str.ofString (wB t)) pos) (tC (.ty (wB t))):=by
 have b:=C.bs _ (eu.mp hm);have c:=b9 C a;cases t
 all_goals exact xI c b (u:=.type _) (by decide+kernel) rfl (by decide+kernel) (by decide+kernel)
def MD(C:zv4 X){t:Ty}{a:E}{b:iO}{tp:Pos}(e:ed sc (zu 17)=ig)(f:Γ.bs.contains (zu 17)=ig)(g:ed sc (Str.ofString (wB t))=ig)(hm:Γ.bs.contains (Str.ofString (wB t))=ig)(i:GE X W F a b)
 (d:∀env ps,starEach (b::ps) env=(iv,eval b env)::starEach ps env):GE X W F (.ty t a) (.Call (.Name (zu 17) np) [b,.Name (Str.ofString (wB t)) tp] [] pos):=by
 refine(dy (AI C.K t) (b9 C e) (C.bs _ (eu.mp f)) (by decide+kernel) (aV i (aV (KA C t g hm) bW) (d _ _)) (he:=d _ _)).imp λσ H Q h=>?_;let(B,G,env,sr,o):=h;rw [aG] at o;refine one sr o λp v G1 H1 g1 j m o1=>?_;let(r,q,s):=o1.val (λc=>Ca c);exact{v,zm,G1,p,r,rfl,m.sub,j.top,q,λw u y z A=>s w u y (g1.trans z) (.of A)}
def IS(C:zv4 X){a:E}{j:iO}{tp:Pos}(z:ed sc (zu 17)=ig)(A:Γ.bs.contains (zu 17)=ig)(B:ed sc c=ig)(aJ:okN c=ig)(hm:(Γ.cs.contains c||(c==(zu 1)&&Γ.bs.contains c))=ig)(m:GE X W F a j)
 (q:∀env ps,starEach (j::ps) env=(iv,eval j env)::starEach ps env) (M:Γ.cs.contains (zu 1)=iv):GE X W F (.xt c a) (.Call (.Name (zu 17) np) [j,.Name c tp] [] pos):=by
 have f:∀{p:PV} {r G H:Hp} {v:V} {σ:St} {I:PV->Prop} {env:Sl},Top W r G H p v->aw G H->Out X W (match p with|.exc d=>Res.ok (PV.bl (if c==(zu 1) then ig else(c==d||c==(zu 7))))|_=>.bad) σ G H I->∃a d D,p=.exc d/\v=.ref a/\d∈W.xs/\X.mg d=hT (.ref D)/\H a=hT (lD a D):=λ{p r G H v σ I env} t O o=>by
  cases p with
  |exc d=>
   rcases t with t|t
   .simp! [Rep] at t;let(a,D,rfl,g,hm,m):=t;exact{a,d,D,rfl,rfl,g,by rw [<-C.mg];exact hm,O _ _ m}
   .exact t.elim
  |int _=>exact ek o|bl _=>exact ek o|aE=>exact ek o|str _=>exact ek o|tup _=>exact ek o|lst _=>exact ek o|bU _ _=>exact ek o|obj _=>exact ek o
 by_cases s:(c==(zu 1:Str))=ig
 .have J:c=(zu 1):=zzy.mp s
  have P:Γ.bs.contains c=ig:=by
   rw [e6,zza] at hm;rcases hm with h|h
   .rw [J,M] at h;cases h
   .exact h.2
  subst J;refine(dy yl (b9 C z) (C.bs _ (eu.mp A)) (by decide+kernel) (aV m (aV (lM (b9 C B) (C.bs _ (eu.mp P))) bW) (q _ _)) (he:=q _ _)).imp λσ H Q h=>?_;let(r,G,env,sr,o):=h;rw [aG] at o;refine one sr o λp v G1 H1 g1 u w o1=>?_;let(a1,d,D,rfl,rfl,g,e,y):=f (env:=env) u.top w.sub o1;let(xc,_,hk):=C.xc d g D e;exact{a1,D,zu 1,ig,rfl,y,xc,hk,o1 _ G1 H1 g1 (.of .b)}
 .have K:Γ.cs.contains c=ig:=by
   rw [e6,zza] at hm;rcases hm with h|h
   .exact h
   .exact absurd h.1 s
  let(L,i):=C.cls c (eu.mp K);refine(dy yk (b9 C z) (C.bs _ (eu.mp A)) (by decide+kernel) (aV m (aV (Cy (b9 C B) i (dw aJ).1) bW) (q _ _)) (he:=q _ _)).imp λσ H Q h=>?_;let(r,G,env,sr,o):=h;rw [aG] at o;refine one sr o λp v G1 H1 g1 u w o1=>?_;let(a1,d,D,rfl,rfl,g,e,y):=f (env:=env) u.top w.sub o1;let(xc,hk,_):=C.xc d g D e;have o2:Out X W (Res.ok (PV.bl (if c==(zu 1) then ig else(c==d||c==(zu 7))))) σ G1 H1 _:=o1;rw [if_neg s] at o2;exact{a1,D,L,_,rfl,y,xc,hk c (eu.mp K) L i,o2 _ G1 H1 g1 (.of .b)}
abbrev mT:M->String
 |.join=>"str"|.iG=>"list"|.index=>"list"
def RO(C:zv4 X){m:M}{p:PV}(b:aw G H)(h:BV m p=ig)(t:Top W H0 G H p v):OZ X.K (mT m) v H:=by
 cases m<;>cases p<;>first|(exact aI h)|(cases t.str;rfl)|(let(a,d,rfl,c,_):=t.lst b;exact .inl ⟨rfl,_,mh C.K c⟩)
def IV(C:zv4 X){m:M}{o:E}{e:Es}{ps:List iO}{a b:Pos}(f:GE X W F o po)(g:GA X W F e (p::ps))(i:attributeBase po (mN m) X.env (eval po X.env)=eval po X.env)
 (j:((backTo b (starEach (p::ps) X.env)).all (λx=>!x.1)&&(backToKw b (keywordEach [] X.env)).all (λx=>x.1.isSome)&&decide ((p::ps).length+([]:List Keyword).length+(if([]:List Keyword).isEmpty then 0 else 1)<30))=ig)
 (q:(a.endLine==b.line)=ig) (hs:starEach (p::ps) X.env=(iv,eval p X.env)::starEach ps X.env) (s:(backTo b (starEach ps X.env)).any (·.1)=iv):GE X W F (.dB m o e) (.Call (.Attribute po (mN m) a) (p::ps) [] b):=by
 have rd:∀σ H Q,tE X W F (.dB m o e) σ H Q->TM X.K (mT m) (Ov W (B3 m)) (tE X W F o) (tA X W F e) σ H Q:=λσ H Q h=>by
  let(L,G,env,sr,d):=h;rw [aG] at d;refine one sr d λp v G1 H1 g1 t u o1=>?_;by_cases hk:BV m p=ig
  .rw [if_pos hk] at o1;refine{RO C u.sub hk t.top,args u o1 λps O G2 P g2 t2 y o2=>?_};let(r,z,A):=o2.val (λc=>zr c);exact{zm,G2,p::ps,r,y.sub,.cons (t.top.grow g2) t2.top,z,λw B D I J=>A w B D ((g1.trans g2).trans I) (.of J)}
  .rw [if_neg hk] at o1;exact o1.elim
 cases m
 case join=>exact(pY PySem.F.plainAttrs_str PySem.F.slot_str_join PySem.F.type_str_join (B2 C.K) f g i j q hs s).imp rd
 case iG=>exact(pY PySem.F.plainAttrs_list PySem.F.slot_list_count PySem.F.type_list_count (vD C.K C.room.units) f g i j q hs s).imp rd
 case index=>exact(pY PySem.F.plainAttrs_list PySem.F.slot_list_index PySem.F.type_list_index (zg C.K C.room.units) f g i j q hs s).imp rd
def SR.set{p:PV}(i:Nat)(r:SR W H0 env σ G H)(h:Rep W G p v):SR W H0 (env.set i (.val p)) (σ.set i (hT v)) G H where
 len:=zx6 r.len
 sub:=r.sub
 tab:=r.tab
 ib:=r.ib
 base:=r.base
 slot:=λj s e=>by
  by_cases f:i=j
  .subst f;have d:i<env.length:=by
    have:=(br.mp e).1;simpa using this
   rw [ew d] at e;cases e;exact{hT v,ew (by rw [<-r.len];exact d),v,rfl,h}
  .rw [cK f] at e;let(o,w,y):=r.slot j s e;exact{o,by rw [cK f];exact w,y}
 apart:=λa b q A B g m t u=>by
  have ne:∀{c:Nat} {q:PV},(env.set i (.val p))[c]?=hT (.own q)->i≠c:=λ{c q} e z=>by
   subst z;have d:i<env.length:=by have:=(br.mp e).1;simpa using this
   rw [ew d] at e;cases e
  have C:=ne g;have D:=ne m;rw [cK C] at g t;rw [cK D] at m u;exact r.apart a b q A B g m t u
abbrev gT(K:zz8):Tg->TG
 |.one i=>dR i|.two i j=>IG K 2 (k7 (dR i) (k7 (dR j) Ex))|.four i j l m=>IG K 4 (k7 (dR i) (k7 (dR j) (k7 (dR l) (k7 (dR m) Ex))))
def iL{K:zz8}(hK:W.K=K){g:Tg}{i:Sl}{p:PV}{Q:St->Hp->Prop}(e:Tg.put g p env=.ok i)(r:SR W H0 env σ G H)(h:Rep W G p v)(c:∀b,SR W H0 i b G H->Q b H):gT K g v σ H Q:=by
 unfold Tg.put at e;split at e
 .cases e;exact c _ (r.set _ h)
 .cases e;simp! [Rep] at h;let(a,j,rfl,sq,l):=h;let(m,o,rfl,d,l):=l.aN;let(q,s,rfl,f,l):=l.aN;simp! [ag] at l;subst l;rw [hK] at sq;exact{a,_,rfl,aw.tup r.sub sq.sq,rfl,_,_,rfl,_,_,rfl,rfl,c _ ((r.set _ d).set _ f)}
 .cases e;simp! [Rep] at h;let(a,j,rfl,sq,l):=h;let(m,o,rfl,d,l):=l.aN;let(q,s,rfl,f,l):=l.aN;let(w,r3,rfl,t,l):=l.aN;let(y,z,rfl,u,l):=l.aN;simp! [ag] at l;subst l;rw [hK] at sq;exact{a,_,rfl,aw.tup r.sub sq.sq,rfl,_,_,rfl,_,_,rfl,_,_,rfl,_,_,rfl,rfl,c _ ((((r.set _ d).set _ f).set _ t).set _ u)}
 .cases e
def BQ(cE:X.env.scope=sc)(h:eP sc x=ig):Loc X.env.scope x:=by rw [cE];unfold eP at h;simp! [e6,zzy] at h;exact h
def Hq{fn:Str->Bool}{i:Nat}(hN:X.N=N)(nd:N.Nodup)(cE:X.env.scope=sc)(b:∀x,fn x=ig->X.fn x=ig)(h:QS N sc fn i p=ig):PG X p (dR i)/\∃x q,p=.Name x q:=by
 let(x,c,a):=af h;let(q,rfl):=dG c
 simp! [zza,zzy,e6] at a;refine{FT (by rw [hN];exact nd) (by rw [hN];exact a.1.1) (BQ cE a.1.2) ?_,x,q,rfl};rcases a.2 with z|z
 .exact .inl (b x z)
 .exact .inr (by rw [cE];exact z)
abbrev SK:List Nat->GU
 |[]=>Ex|i::is=>k7 (dR i) (SK is)
theorem vU{fn:Str->Bool}(hN:X.N=N)(nd:N.Nodup)(cE:X.env.scope=sc)(c:∀x,fn x=ig->X.fn x=ig):∀(is:List Nat) (b:List iO),Fg N sc fn is b=ig->L8 X b (SK is)/\(assignEach b X.env).length=is.length/\(assignEach b X.env).findIdx? (·.1)=ie
 |[],[],_=>⟨FU,rfl,rfl⟩|i::is,a::as,h=>by have h:=ah h;let(g1,x,p,rfl):=Hq hN nd cE c h.1;let(g,l,f):=vU hN nd cE c is as h.2;have e:assignEach (.Name x p::as) X.env=(iv,assign (.Name x p) X.env)::assignEach as X.env:=rfl;refine{CG g1 g,by rw [e,bE,l,bE],?_};rw [e,List.findIdx?_cons,f];rfl|[],_::_,h=>aI h|_::_,[],h=>aI h
def nA{fn:Str->Bool}{a:Tg}(hN:X.N=N)(nd:N.Nodup)(cE:X.env.scope=sc)(e:X.calm=ig)(b:∀x,fn x=ig->X.fn x=ig)(h:cx N sc fn a p=ig):PG X p (gT X.K a):=by
 cases a with
 |one i=>exact(Hq hN nd cE b h).1|two i j=>let(o,c,d):=af h;let(k,q,rfl):=mm c;let(g,l,f):=vU hN nd cE b _ _ d;exact CF e g l f|four i j l m=>let(o,c,d):=af h;let(k,q,rfl):=mm c;let(g,l,f):=vU hN nd cE b _ _ d;exact CF e g l f
def lB(W:Wd)(J:It)(G B:Hp)(ps:List PV):Prop:=∀(i:Nat) (b a:Hp),aw G b->gj B a->aw b a->
 (i=ps.length->J.stop i a)/\∀p,ps[i]?=hT p->J.go i a/\∀x c,J.Lp i a x c->∃d,az W b a d c/\Rep W d p x
structure HI(W:Wd)(G H:Hp)(it:I)(J:It)(ps:List PV):Prop where
 any:lB W J G H ps
 bL:oz it=ig->lB W J G G ps
abbrev tI(X:Cx)(W:Wd)(F:aW)(it:I):TI:=λσ H R=>∃c G env,SR W c env σ G H/\Out X W (yJ F it env) σ G H λd=>∀J b a,az W G H b a->HI W b a it J d->R J a
noncomputable abbrev GI(X:Cx)(W:Wd)(F:aW)(a:iO)(it:I)(p:iO):Prop:=PI X a p (tI X W F it)
theorem qJ(hK:W.K=X.K){B:Hp}(h:oU W.K B a vs)(l:ag W G ps vs):lB W (Pa X.K a) G B ps:=λi e f g j sub=>by have b:eW X.K f a vs:=mh hK (gj.ls j h);refine{λq=>{vs,b,by rw [l.length];omega},λp m=>?_};let(v,d,o):=l.mW m;refine{⟨vs,v,b,d⟩,λx r c=>?_};let(rfl,c):=c;have:=c vs b;rw [d] at this;cases this;exact{e,.refl sub,Rep.same g p o}
theorem BI{K:zz8}{B:Hp}(h:dF K B a vs)(l:ag W G ps vs):lB W (Pb K a) G B ps:=λi e f g j sub=>by have b:dF K f a vs:=gj.tup j h;refine{λq=>{vs,b,by rw [l.length];omega},λp m=>?_};let(v,d,o):=l.mW m;refine{⟨vs,v,b,d⟩,λx r c=>?_};let(rfl,c):=c;have:=c vs b;rw [d] at this;cases this;exact{e,.refl sub,Rep.same g p o}
def BG{B:Hp}{us:List V}(n:ks.length=us.length)(h:B a=hT (.bL o (.dK (kz ks us)))):lB W (O7 a o (kz ks us)) G B (ks.map qL):=λi e f t g sub=>by
 have c:f a=hT (.bL o (.dK (kz ks us))):=g.at h (λZ z=>nomatch z);refine{λb=>{c,by rw [gK n];rw [zzl] at b;omega},λp d=>?_};rw [cz] at d;let(k,hk,rfl):=bC.mp d;have b:i<ks.length:=(br.mp hk).1;refine{{c,by rw [gK n];exact b},λx u j=>?_};let(rfl,m,v,rfl,q):=j;have r:m=ki k:=by have:=congrArg (λl=>l[i]?) (xx (us:=us) n);simp! [cz,q,hk,Option.map_some] at this;exact zzq this
 rw [r];exact{e,.refl sub,.s}
def pf{z:Str}{i:Nat}{p:PV}(h:(chars z)[i]?=hT p):∃c,z.cps[i]?=hT c/\p=.str {#[c]}:=by unfold chars at h;rw [cz] at h;let(c,a,rfl):=bC.mp h;rw [Array.getElem?_toList] at a;exact⟨c,a,rfl⟩
def pj(z:Str):(chars z).length=z.cps.size:=by unfold chars;rw [zzl,d1]
theorem BH{B:Hp}(z:Str):lB W (Ou z) G B (chars z):=λi e h j m sub=>by refine{λa=>by rw [pj] at a;exact Nat.le_of_eq a.symm,λp f=>?_};let(c,b,rfl):=pf f;refine{(Array.getElem?_eq_some_iff.mp b).1,λx o g=>?_};let(rfl,q,d,rfl):=g;rw [b] at d;cases d;exact{e,.refl sub,.s}
theorem qK{B:Hp}(a:Int)(n:Nat):lB W (L6 a n) G B (uw a n):=λi g m o q sub=>by unfold uw;refine{λb=>by rw [zzl,List.length_range] at b;exact Nat.le_of_eq b.symm,λp d=>?_};rw [cz] at d;let(c,h,rfl):=bC.mp d;let(e,f):=br.mp h;rw [List.length_range] at e;rw [List.getElem_range] at f;subst f;refine{e,λx r j=>?_};let(rfl,rfl):=j;exact{g,.refl sub,.i}
def nu{p:PV}{u:V}(sub:aw G H)(b:H a=ie)(d:Rep W G p v)(e:Rep W G q u):∃c,az W G H c (upd H a (.tup [v,u]))/\Rep W c (.tup [p,q]) (.ref a):=
 {_,.new sub b,.t (.inl ak) (ag.same (aS (sub.free b)) _ (.cons d (.cons e .nil)))}
theorem jq:∀{xs:List PV} {n i:Nat} {p:PV},(gD n xs)[i]?=hT p->∃x,xs[i]?=hT x/\p=.tup [.int ((n+i:Nat):Int),x]
 |[],_,_,_,h=>by simp [gD] at h|x::xs,n,0,p,h=>by simp [gD] at h;exact{x,rfl,by rw [<-h];simp}|x::xs,n,i+1,p,h=>by simp! [gD,List.getElem?_cons_succ] at h;let(y,a,b):=jq h;exact{y,zx6 a,by rw [b,show n+1+i=n+(i+1) by omega]}
theorem jr:∀(xs:List PV) (n:Nat),(gD n xs).length=xs.length
 |[],_=>rfl|_::xs,n=>by simp! [gD,bE,jr xs]
theorem tO{K:zz8}{B:Hp}(h:dF K B a vs)(l:ag W G ps vs):lB W (O9 K a vs) G B (gD 0 ps):=λi u g j m sub=>by have c:dF K g a vs:=gj.tup m h;refine{λd=>{c,by rw [jr] at d;rw [l.length];exact d},λp o=>?_};let(x,q,rfl):=jq o;let(v,e,r):=l.mW q;refine{{c,(br.mp e).1},λy w s=>?_};let(b,z,rfl,t,rfl,f):=s;rw [e] at f;cases f;rw [Nat.zero_add];exact nu sub t .i (Rep.same j x r)
theorem m6(hK:W.K=X.K){B:Hp}(h:oU W.K B a vs)(l:ag W G ps vs):lB W (HK X.K a vs) G B (gD 0 ps):=λi u g j m sub=>by have c:eW X.K g a vs:=mh hK (gj.ls m h);refine{λd=>{c,by rw [jr] at d;rw [l.length];exact d},λp o=>?_};let(x,q,rfl):=jq o;let(v,e,r):=l.mW q;refine{{c,(br.mp e).1},λy w s=>?_};let(b,z,rfl,t,rfl,f):=s;rw [e] at f;cases f;rw [Nat.zero_add];exact nu sub t .i (Rep.same j x r)
theorem tM{B:Hp}(z:Str):lB W (Ot z) G B (gD 0 (chars z)):=λi m o q r sub=>by refine{λa=>by rw [jr,pj] at a;exact a,λp f=>?_};let(x,g,rfl):=jq f;let(c,d,rfl):=pf g;refine{(Array.getElem?_eq_some_iff.mp d).1,λy t h=>?_};let(b,u,rfl,j,rfl,e):=h;rw [d] at e;cases e;rw [Nat.zero_add];exact nu sub j .i .s
def Po(W:Wd)(G:Hp)(t:Zt)(xs:List PV):Prop:=(if t.1=ig then oU W.K G t.2.1 t.2.2 else HN W.K G t.2.1 t.2.2)/\ag W G xs t.2.2
theorem DO:∀{ps:List PV} {vs:List V} {xss:List (List PV)},ag W G ps vs->p5 ps=hT xss->∃ts:List Zt,vs=ts.map (λt=>V.ref t.2.1)/\Paired (Po W G) ts xss
 |[],vs,xss,l,h=>by simp! [ag] at l;subst l;cases h;exact{[],rfl,.nil}
 |p::ps,vs,xss,l,h=>by
  let(v,r,rfl,b,f):=l.aN;let(xs,c,h):=dJ.1 (show(NY p).bind (λxs=>(p5 ps).map (xs::·))=hT xss from h);let(g,i,rfl):=bC.1 h;let(ts,rfl,e):=DO f i
  cases p with
  |lst j=>cases c;simp! [Rep] at b;let(a,d,rfl,k,m):=b;exact{(ig,a,d)::ts,rfl,.cons ⟨k,m⟩ e}
  |tup j=>cases c;simp! [Rep] at b;let(a,d,rfl,k,m):=b;exact{(iv,a,d)::ts,rfl,.cons ⟨k,m⟩ e}
  |_=>cases c
theorem xC:∀{xss:List (List PV)},∀xs∈xss,oC xss<=xs.length
 |[xs],ys,h=>by rw [d3.1 h];exact a8 _|xs::y::r,ys,h=>by
  show min xs.length (oC (y::r))<=_
  rcases el.1 h with rfl|h
  .exact Nat.min_le_left ..
  .exact c0 (Nat.min_le_right ..) (xC ys h)
theorem xB:∀{xss:List (List PV)},xss≠[]->∃xs∈xss,xs.length=oC xss
 |[xs],_=>{xs,d3.2 rfl,rfl}|xs::y::r,_=>by
  show∃a∈xs::y::r,a.length=min xs.length (oC (y::r))
  rcases Nat.le_total xs.length (oC (y::r)) with h|h
  .exact{xs,b4 ..,(Nat.min_eq_left h).symm}
  .let(a,b,c):=xB (xss:=y::r) (List.cons_ne_nil _ _);exact{a,bw _ b,by rw [c,Nat.min_eq_right h]}
theorem ya{i:Nat}:∀{ts:List Zt} {xss:List (List PV)} {ys:List V},Paired (Po W G) ts xss->Paired (λ(q:Zt) y=>q.2.2[i]?=hT y) ts ys->ag W G (xss.map λxs=>xs.getD i .aE) ys
 |_,_,_,.nil,.nil=>.nil|_,_,_,.cons r t,.cons u v=>by let(p,a,b):=r.2.get u;refine .cons ?_ (ya t v);dsimp only;rw [bD,a];exact b
def BJ(hK:W.K=X.K){B:Hp}{ts:List Zt}{xss:List (List PV)}(hn:ts≠[])(h:Paired (Po W G) ts xss)(C:aw G B):lB W (O8 X.K ts) G B (zZ xss):=λi D q f E sub=>by
 have sq:∀t∈ts,Zq X.K q t:=λt b=>by
  let(xs,_,r):=fe h t b;have:=r.1;unfold Zq;split
  .rename_i e;rw [if_pos e] at this;exact mh hK (aw.ls (λa o z=>sub a o (f a o z)) this)
  .rename_i e;rw [if_neg e] at this;exact hK▸aw.tup (λa o z=>sub a o (f a o z)) this.sq
 have len:∀t∈ts,oC xss<=t.2.2.length:=λt b=>by let(xs,g,r):=fe h t b;rw [r.2.length];exact xC xs g
 have j:(zZ xss).length=oC xss:=by simp [zZ]
 refine{λc=>?_,λp d=>?_}
 .rw [j] at c;subst c;refine{λt b=>{sq t b,len t b},?_};have s:xss≠[]:=λz=>by subst z;cases h;exact hn rfl
  let(xs,g,u):=xB s;let(t,b,r):=bX h xs g;exact{t,b,by rw [r.2.length,u]}
 .have c:i<oC xss:=by rw [<-j];exact(br.1 d).1
  have w:p=.tup (xss.map λxs=>xs.getD i .aE):=by unfold zZ at d;rw [cz,List.getElem?_range c] at d;exact(zzq d).symm
  refine{λt b=>{sq t b,dq c (len t b)},λx I y=>?_};let(a,J,rfl,m,rfl,A):=y;subst w;refine{_,.new sub m,.t (.inl ak) (ag.same (aS (sub.free m)) _ (ag.same f _ (ya h A)))}
def dZ{e:E}{p:PV}(sr:SR W H0 env σ G H)(e1:aG F e env=.ok p)(h:∀v G1 H1,az W G H G1 H1->Got W H0 G1 H1 e p v->Q v H1):tE X W F e σ H Q:={H0,G,env,sr,by rw [e1];exact h}
def Dy{e:E}(sr:SR W H0 env σ G H)(e1:aG F e env=.exc c)(h:se X W σ c G H):tE X W F e σ H Q:={H0,G,env,sr,by rw [e1];exact h}
def Jb(C:zv4 X){O:iO}{e:E}(he:GE X W F e p):GI X W F O (.seq e) p:=by
 intro f s σ H R I h;let(T,G,env,sr,o):=h
 rw [yJ] at o;cases r:aG F e env with
 |bad=>rw [r] at o;exact o.elim|exc c=>rw [r] at o;exact qX he f s σ H R I (Dy sr r o)|ok q=>
  rw [r] at o;cases q with
  |lst xs=>refine qX he f s σ H R I (dZ sr r λv G1 H1 g1 t=>?_);have m:=t;let(a,u,rfl,b,g):=t.top.lst g1.sub;refine{a,rfl,{u,mh C.K b},o _ G1 H1 g1 {qJ C.K b g,λz=>?_}};have d:=m.rep z;simp! [Rep] at d;let(P,w,y,j,A):=d;cases y;exact qJ C.K j A
  |tup xs=>refine KG he f s σ H R I (dZ sr r λv G1 H1 g1 t=>?_);have m:=t;let(a,u,rfl,b,g):=t.top.tup g1.sub;rw [C.K] at b;refine{a,rfl,⟨u,b⟩,o _ G1 H1 g1 {BI b g,λz=>?_}};have d:=m.rep z;simp! [Rep] at d;let(P,w,y,j,A):=d;cases y;rw [C.K] at j;exact BI j.sq A
  |str z=>exact KD he f s σ H R I (dZ sr r λv G1 H1 g1 t=>{z,t.top.str,o _ G1 H1 g1 {BH z,λZ=>BH z}})|int _=>exact ek o|bl _=>exact ek o|aE=>exact ek o|exc _=>exact ek o|obj _=>exact ek o|bU B qs=>
   by_cases D:c9 e=ig
   .have Q:Dd e (.bU B qs)=.ok (B.map qL):=by
     cases e<;>first|rfl|exact aI D
    have o2:Out X W (Dd e (.bU B qs)) σ G H λS=>∀(J:It) (M L:Hp),az W G H M L->HI W M L (Ci.I.seq e) J S->R J L:=o;rw [Q] at o2;refine NP he f s σ H R I (dZ sr r λv G1 H1 g1 t=>?_);have d:=t.rep D;simp! [Rep] at d;let(a,ob,U,rfl,n,b,g):=d;exact{a,ob,_,rfl,g1.sub _ _ b,o2 _ G1 H1 g1 {BG n (g1.sub _ _ b),λZ=>BG n b}}
   .have:(∃i,e=.HC i)\/∃a,e=.con a:=by
     cases e<;>first|exact .inl ⟨_,rfl⟩|exact .inr ⟨_,rfl⟩|exact absurd rfl D
    rcases this with⟨i,rfl⟩|⟨i,rfl⟩
    .exact ek o
    .exact ek o
def df{i:Int}(h:bT i=ig): -(2^62)<=i/\i<2^62:=by unfold bT at h;simpa using h
def Ja(C:zv4 X){c:iO}{e:E}(d:ed sc "range"=ig)(f:Γ.bs.contains "range"=ig)(b:∀env ps,starEach (p::ps) env=(iv,eval p env)::starEach ps env)(he:GE X W F e p):GI X W F c (.xS e) (.Call (.Name "range" np) [p] [] pos):=by
 intro g s σ H R I h;refine zE (b9 C d) (C.bs _ (eu.mp f)) (aV he bW (b _ _)) (b _ _) g s σ H R I ?_;let(i,G,env,sr,o):=h;rw [yJ] at o;refine one sr o λq v G1 H1 g1 t m o1=>?_
 cases q with
 |int j=>
  by_cases a:bT j=ig
  .have o2:Out X W (if bT j=ig then Res.ok (uw 0 j.toNat) else .bad) σ G1 H1 _:=o1;rw [if_pos a] at o2;exact{j,by rw [t.top.int],(df a).1,(df a).2,o2 _ G1 H1 g1 {qK _ _,λZ=>qK _ _}}
  .have o2:Out X W (if bT j=ig then Res.ok (uw 0 j.toNat) else .bad) σ G1 H1 _:=o1;rw [if_neg a] at o2;exact o2.elim
 |bl _=>exact ek o1|aE=>exact ek o1|str _=>exact ek o1|tup _=>exact ek o1|lst _=>exact ek o1|exc _=>exact ek o1|obj _=>exact ek o1|bU _ _=>exact ek o1
set_option tactic.hygienic true in
def EF(C:zv4 X){m q:iO}{a b:E}(r:ed sc "range"=ig)(w:Γ.bs.contains "range"=ig)(g:∀env ps,starEach (p::ps) env=(iv,eval p env)::starEach ps env)(e:∀env ps,starEach (q::ps) env=(iv,eval q env)::starEach ps env)
 (z:GE X W F a p) (A:GE X W F b q):GI X W F m (.zM a b) (.Call (.Name "range" np) [p,q] [] pos):=by
 intro B s σ H R I h;refine zF (b9 C r) (C.bs _ (eu.mp w)) (aV z (aV A bW (e _ _)) (g _ _)) (by rw [g,e];rfl) (e _ _) B s σ H R I ?_;let(J,G,env,sr,o):=h;rw [yJ] at o;refine one sr o λx v G1 H1 g1 t D o1=>one D o1 λy u G2 f g2 t2 K o2=>?_
 cases x<;>cases y<;>first
  |(exact ek o2)
  | (rename_i i j
     by_cases c:(bT i&&bT j)=ig
     .have d:Out X W (if(bT i&&bT j)=ig then Res.ok (uw i (j-i).toNat) else .bad) σ G2 f _:=o2;rw [if_pos c] at d;rw [zza] at c;exact⟨i,j,by rw [t.top.int,t2.top.int],⟨(df c.1).1,(df c.1).2,(df c.2).1,(df c.2).2⟩,d _ G2 f (g1.trans g2) ⟨qK _ _,λZ=>qK _ _⟩⟩
     .have d:Out X W (if(bT i&&bT j)=ig then Res.ok (uw i (j-i).toNat) else .bad) σ G2 f _:=o2;rw [if_neg c] at d;exact d.elim)
def EE(C:zv4 X){B:Pos}{e:E}(D:ed sc (zu 5)=ig)(J:Γ.bs.contains (zu 5)=ig)(d:∀env ps,starEach (p::ps) env=(iv,eval p env)::starEach ps env)(he:GE X W F e p):
 GI X W F (.Tuple elts x1 B) (.enum e) (.Call (.Name (zu 5) np) [p] [] pos):=by
 intro j s σ H R I h;have m:=b9 C D;have u:=C.bs _ (eu.mp J);have w:=aV he bW (d _ _);let(O,G,env,sr,o):=h
 rw [yJ] at o;cases r:aG F e env with
 |bad=>rw [r] at o;exact o.elim|exc c=>rw [r] at o;exact uh m u w (d _ _) j s σ H R I (Dy sr r o)|ok q=>
  rw [r] at o;cases q with
  |lst xs=>
   refine uh m u w (d _ _) j s σ H R I (dZ sr r λv G1 H1 g1 t=>?_);by_cases y:c9 e=ig
   .have f:=t.rep y;simp! [Rep] at f;let(a,g,rfl,b,i):=f;exact{a,g,rfl,mh C.K (aw.ls g1.sub b),o _ G1 H1 g1 {m6 C.K (aw.ls g1.sub b) i,λZ=>m6 C.K b i}}
   .let(a,g,rfl,A,L):=t.top.lst g1.sub;exact{a,g,rfl,mh C.K A,o _ G1 H1 g1 {m6 C.K A L,λz=>absurd z y}}
  |tup xs=>
   refine CJ m u w (d _ _) j s σ H R I (dZ sr r λv G1 H1 g1 t=>?_);have M:=t.top
   rcases M with f|z
   .simp! [Rep] at f;let(a,g,rfl,b,i):=f;rw [C.K] at b;exact{a,g,rfl,aw.tup g1.sub b.sq,o _ G1 H1 g1 {tO (aw.tup g1.sub b.sq) i,λz=>tO b.sq i}}
   .exact z.elim
  |str z=>exact CI m u w (d _ _) j s σ H R I (dZ sr r λv G1 H1 g1 t=>{z,by rw [t.top.str],o _ G1 H1 g1 {tM z,λZ=>tM z}})|int _=>exact ek o|bl _=>exact ek o|aE=>exact ek o|exc _=>exact ek o|obj _=>exact ek o|bU _ _=>exact ek o
def Jc(C:zv4 X){j:Pos}{ps:List iO}{as:Es}(m:ed sc "zip"=ig)(u:Γ.bs.contains "zip"=ig)(w:fZ as=ig)(hn:ez as=2\/ez as=3)(y:GA X W F as (p::ps))
 (A:starEach (p::ps) X.env=(iv,eval p X.env)::starEach ps X.env) (hpl:(backTo pos (starEach ps X.env)).any (·.1)=iv):GI X W F (.Tuple elts x1 j) (.zip as) (.Call (.Name "zip" np) (p::ps) [] pos):=by
 intro B s σ H R I h;refine FV (b9 C m) (C.bs _ (eu.mp u)) y A hpl B s σ H R I ?_;let(D,G,env,sr,o):=h
 rw [yJ] at o;refine{D,G,env,sr,?_};cases r:dv F as env with
 |bad=>rw [r] at o;exact o|exc c=>rw [r] at o;exact o|ok qs=>
  rw [r] at o;have f:=ju r;intro L G1 H1 g1 t;have l:=t.rep w;have o:Out X W ((Res.of (p5 qs)).bind λa=>.ok (zZ a)) σ G H λps=>∀J g b,az W G H g b->HI W g b (.zip as) J ps->R J b:=o
  cases e:p5 qs with
  |none=>rw [e] at o;exact ek o|some a=>
   rw [e] at o;let(ts,rfl,d):=DO l e;have lt:ts.length=qs.length:=by have:=l.length;rwa [zzl] at this
   have i:ts≠[]:=λz=>by subst z;simp at lt;omega
   refine{ts,rfl,by omega,λq E=>?_,o _ G1 H1 g1 {BJ C.K i d g1.sub,λZ=>BJ C.K i d (aw.refl _)}};let(xs,_,r):=fe d q E;have:=r.1;unfold Zq;split
   .rename_i e;rw [if_pos e] at this;exact mh C.K (aw.ls g1.sub this)
   .rename_i e;rw [if_neg e] at this;exact C.K▸aw.tup g1.sub this.sq
end
def yw{env:Env}{c:iN}(h:env.cells.lookup x=hT c):cellOf env x=pure c:=by unfold cellOf;rw [h]
abbrev frees(names:List (Str×NameKind)):List Str:=((names.filter λp=>p.2==.free).map (·.1)).reverse
def mF{a:j1}{env:Env}(h:∀y∈a.names,y.2=.free->∃c,env.cells.lookup y.1=hT c):closureFor a env=pure (bt env (freeOf a)):=by
 simp! [closureFor];have f:∀(names:List (Str×NameKind)) (b:List (Str×iN)),(∀y∈names,y.2=.free->∃c,env.cells.lookup y.1=hT c)->
  (forIn (m:=Sem) names b λx r=>if(x.2==NameKind.free)=ig then do
   let c<-cellOf env x.1
   pure (ForInStep.yield ((x.1,c)::r))
   else pure (ForInStep.yield r))=pure (bt env (frees names)++b):=by
  intro names
  induction names with
  |nil=>intro b _;rfl|cons p r j=>
   intro b g;let(n,d):=p;rw [List.forIn_cons];by_cases hk:(d==NameKind.free)=ig
   .let(c,k):=g (n,d) (by simp) (zzy.mp hk);simp! [hk,if_true,yw k,pure_bind];rw [j ((n,c)::b) λy i=>g y (bw _ i)];have e:frees ((n,d)::r)=frees r++[n]:=by unfold frees;rw [hB,if_pos hk,bc,List.reverse_cons]
    rw [e];unfold bt;rw [List.map_append,bc,List.map_nil,List.append_assoc];show _=pure (_++([(n,(env.cells.lookup n).getD 0)]++b));rw [show env.cells.lookup n=hT c from k];rfl
   .simp! [hk,d2,if_false,pure_bind];rw [j b λy i=>g y (bw _ i)];have e:frees ((n,d)::r)=frees r:=by unfold frees;rw [hB,if_neg hk]
    rw [e]
 have:=f a.names [] h;rw [hG] at this;simp! [bind_pure_comp,map_pure,id_map',bind_pure];exact this
section
variable{W:Wd}{sc:j1}
def cQ{a:j1}(h:X.env.scope=sc):relabel a X.env=bu a sc:=by subst h;rfl
structure gh(N:List Str)(sc scope:j1)(kk:Nat)(aM:List Nat)(xs:List Str):Prop where
 kind:scope.kind=.function
 len:xs.length=kk
 nd:(xs++freeOf scope).Nodup
 Ic:(scope.names.all λy=>(decide (y.2≠.cell)||!(freeOf scope).contains y.1)&&(decide (y.2≠.free)||(freeOf scope).contains y.1))=ig
 own:(scope.names.all λy=>decide (y.2≠.cell)||decide (scope.names.lookup y.1=hT .cell))=ig
 names:(scope.names.all λy=>decide (y.2≠.local)||decide (scope.names.lookup y.1=hT .local))=ig
 slots:aM.map (λi=>N[i]?)=(freeOf scope).map hT
 kX:((freeOf scope).all λy=>decide (sc.names.lookup y=hT .cell))=ig
 kY:((freeOf scope).all λy=>decide ((bu scope sc).names.lookup y=hT .cell))=ig
def dN{a:j1}{b:Nat}{c:List Nat}{xs:List Str}(h:pq N sc a b c xs=ig):gh N sc a b c xs:=by unfold pq at h;simp! [zza] at h;let((((((((d,e),f),g),i),j),k),m),o):=h;exact{zzy.mp d,zzy.mp e,zzY f,g,i,j,zzY k,m,o}
def iF(hN:X.N=N)(cE:X.env.scope=sc)(ok:X.Ok){a:j1}{f:Nat}{d:List Nat}{xs:List Str}(h:gh N sc a f d xs):eE X a xs (freeOf a) d:=by
 have e:∀y∈freeOf a,∃c,X.env.cells.lookup y=hT c:=λy b=>ok.has y (.inl (by have:=zzY (cP.mp h.kX y b);show X.env.scope.names.lookup y=_;rw [cE];exact this));refine{h.kind,mF λy b g=>?_,cP.mpr λy b=>?_,h.Ic,h.own,h.names,by rw [hN];exact h.slots,cP.mpr λy b=>?_,?_}
 .have c:=cP.mp h.Ic y b
  rw [zza,e6,e6] at c;rcases c.2 with z|z
  .exact absurd g (zzY z)
  .exact e _ (eu.mp z)
 .let(c,i):=e y b;rw [i];rfl
 .have:=zzY (cP.mp h.kX y b);refine zzh ?_;show X.env.scope.names.lookup y=_;rw [cE];exact this
 .rw [cQ cE];exact h.kY
theorem iE{f:PV->Res (Option PV)}{x:PV}:∀{xs:List PV},bG f (xs++[x])=(bG f xs).bind λys=>(f x).well.bind λo=>.ok (ys++o.toList)
 |[]=>by
  simp! [List.nil_append,bG,Res.bind];cases(f x).well with
  |ok o=>cases o<;>rfl
  |exc c=>rfl|bad=>rfl
 |y::xs=>by
  rw [List.cons_append];simp! [bG];rw [iE (xs:=xs)];cases(f y).well with
  |exc c=>rfl|bad=>rfl|ok o=>
   show(((bG f xs).bind λys=>(f x).well.bind λo=>.ok (ys++o.toList)).bind λys=>.ok (oc o ys))=((bG f xs).bind λys=>.ok (oc o ys)).bind λys=>(f x).well.bind λo=>.ok (ys++o.toList)
   cases bG f xs with
   |exc c=>rfl|bad=>rfl|ok zs=>
    show(((f x).well.bind λo=>.ok (zs++o.toList)).bind λys=>.ok (oc o ys))=(f x).well.bind λo2=>.ok ((oc o zs)++o2.toList)
    cases(f x).well with
    |exc c=>rfl|bad=>rfl|ok o2=>cases o<;>rfl
theorem mI{f:PV->Res (Option PV)}:∀{xs ys:List PV},bG f xs=.ok ys->∀i,∃a,bG f (xs.take i)=.ok a/\a.length<=i
 |_,_,_,0=>{[],by simp [bG],a8 _}|[],ys,h,i+1=>{[],by simp [bG],Nat.zero_le _}|x::xs,ys,h,i+1=>by
  simp! [bG] at h;let(o,b,h):=Res.aC h;let(a,c,h):=Res.aC h;let(d,e,hl):=mI c i;refine{oc o d,?_,?_}
  .rw [List.take_succ_cons];simp! [bG];rw [b];show((bG f (xs.take i)).bind λys=>.ok (oc o ys))=_;rw [e];rfl
  .cases o with
   |none=>exact Nat.le_succ_of_le hl|some y=>exact Nat.succ_le_succ hl
def mn{d:Type}{r:Res d}{a:d}(h:r.well=.ok a):r=.ok a:=by
 cases r with
 |ok b=>cases h;rfl
 |exc c=>cases h
 |bad=>cases h
def sF{f:PV->Res (Option PV)}{a:List PV}{i:Nat}{x:PV}(h:bG f xs=.ok ys)(d:xs[i]?=hT x)(hz:bG f (xs.take i)=.ok a):∃o,f x=.ok o/\bG f (xs.take (i+1))=.ok (a++o.toList):=by
 have e:xs.take (i+1)=xs.take i++[x]:=by rw [List.take_add_one,d];rfl
 let(g,b,_):=mI h (i+1);rw [e,iE,hz] at b;let(o,c,b):=Res.aC (show((f x).well.bind λo=>Res.ok (a++o.toList))=.ok g from b);refine{o,mn c,?_};rw [e,iE,hz];show((f x).well.bind λo=>Res.ok (a++o.toList))=_;rw [c];rfl
def nS{k:St}{h:List Nat}{ys:List Str}(g:Nat)(sr:SR W H0 env k G H)(hs:h.map (λi=>N[i]?)=ys.map hT)(nd:ys.Nodup):SR W H0 (k6 g .no++fv env h) (k6 g ie++yU k h) G H:=by
 have F:∀(i j:Nat) (a:Nat),h[i]?=hT a->h[j]?=hT a->i=j:=λi j a y A=>by
  have m:(ys.map hT)[i]?=hT (N[a]?):=by rw [<-hs,cz,y];rfl
  have w:(ys.map hT)[j]?=hT (N[a]?):=by rw [<-hs,cz,A];rfl
  rw [cz] at m w;let(I,g1,q1):=bC.mp m;let(J,g2,q2):=bC.mp w;have:I=J:=zzq (q1.trans q2.symm);subst this;exact j4 nd g1 g2
 have d:∀(j:Nat) (s:Slot),(k6 g Slot.no++fv env h)[j]?=hT s->(j<g/\s=.no)\/∃a,g<=j/\h[j-g]?=hT a/\s=env.getD a .no:=λj s e=>by
  by_cases f:j<g
  .rw [eH (zx6 f),List.getElem?_replicate,if_pos f] at e;cases e;exact .inl ⟨f,rfl⟩
  .rw [eO (zx6 f),List.length_replicate] at e;unfold fv at e;rw [cz] at e;let(a,r,rfl):=bC.mp e;exact .inr {a,by omega,r,rfl}
 have val:∀(j a:Nat),g<=j->h[j-g]?=hT a->(k6 g ie++yU k h)[j]?=hT ((k[a]?).join):=λj a f r=>by rw [eO (zx6 f),List.length_replicate];unfold yU;rw [cz,r];rfl
 refine{by unfold fv yU;simp,sr.sub,sr.base,λj s e=>?_,λi j p q a m w B C=>?_,sr.tab,sr.ib}
 .rcases d j s e with⟨f,rfl⟩|⟨a,f,r,rfl⟩
  .exact{ie,by rw [eH (zx6 f),List.getElem?_replicate,if_pos f],trivial}
  .refine{_,val j a f r,?_};rw [bD];cases m:env[a]? with
   |none=>exact trivial|some s=>let(o,y,A):=sr.slot a s m;rw [y];exact A
 .rcases d i _ m with⟨_,z⟩|⟨b,K,D,t⟩
  .cases z
  rcases d j _ w with⟨_,z⟩|⟨c,f,E,u⟩
  .cases z
  rw [val i b K D] at B;rw [val j c f E] at C;have L:env[b]?=hT (.own p):=by
   rw [bD] at t;cases e:env[b]? with
   |none=>rw [e] at t;cases t
   |some s=>rw [e] at t;exact congrArg hT t.symm
  have M:env[c]?=hT (.own q):=by
   rw [bD] at u;cases e:env[c]? with
   |none=>rw [e] at u;cases u
   |some s=>rw [e] at u;exact congrArg hT u.symm
  have g1:k[b]?=hT (hT (.ref a)):=Option.join_eq_some_iff.mp (zzq B);have g2:k[c]?=hT (hT (.ref a)):=Option.join_eq_some_iff.mp (zzq C);have O:=sr.apart b c p q a L M g1 g2;subst O;have:=F _ _ b D E;omega
def hV{d:Nat}{rest k:Sl}{g:St}{m:Tg}{p:PV}(f:fh d m=ig)(e:Tg.put m p (k6 d .no++rest)=.ok k)(r:SR W H0 k g G H):SR W H0 (k6 d .no++rest) g G H:=by
 have c:∀(j:Nat) (s:Slot),(k6 d Slot.no++rest)[j]?=hT s->s≠.no->k[j]?=hT s:=λj s h hs=>by
  have y:¬j<d:=λz=>by rw [eH (zx6 z),List.getElem?_replicate,if_pos z] at h;cases h;exact hs rfl
  unfold Tg.put at e;split at e
  .cases e;unfold fh at f;simp! [zzN] at f;rw [cK (by omega)];exact h
  .cases e;unfold fh at f;simp! [zza,zzN] at f;rw [cK (by omega),cK (by omega)];exact h
  .cases e;unfold fh at f;simp! [zza,zzN] at f;rw [cK (by omega),cK (by omega),cK (by omega),cK (by omega)];exact h
  .cases e
 have b:(k6 d Slot.no++rest).length=g.length:=by
  rw [<-r.len];unfold Tg.put at e;split at e<;>first|(cases e;simp;done)|(cases e;done)
 refine{b,r.sub,r.base,λj s h=>?_,λi j p q a o t u w=>r.apart i j p q a (c i _ o nofun) (c j _ t nofun) u w,r.tab,r.ib};by_cases hs:s=.no
 .subst hs;have:j<g.length:=by rw [<-b];exact(br.mp h).1
  exact{g[j],zzg this,trivial}
 .exact r.slot j s (c j s h hs)
variable{Γ:Pg}{F:aW}{k:Nat}
abbrev tN(W:Wd)(F:aW)(e:E):TE:=λd H Q=>∃b G env,SR W b env d G H/\∃p,aG F e env=.ok p/\∀v c a,az W G H c a->Got W b c a e p v->Q v a
abbrev OX(W:Wd)(F:aW)(e:E):TT:=λc H Q=>∃d G env,SR W d env c G H/\∃b,aG F e env=.ok (.bl b)/\∀f a,az W G H f a->Q b a
def xY{e:E}(a:St)(H:Hp)(Q:VK)(h:tN W F e a H Q):tE X W F e a H Q:=by let(b,G,env,sr,p,c,q):=h;exact{b,G,env,sr,by rw [c];exact q}
def Dz{e:E}(a:St)(H:Hp)(Q:Bool->Hp->Prop)(h:OX W F e a H Q):tT X W F e a H Q:=by let(b,G,env,sr,p,c,q):=h;exact{b,G,env,sr,by rw [c];exact⟨p,rfl,q⟩}
def dO(C:zv4 X){a:j1}{c:Nat}{d:List Nat}{xs:List Str}(h:gh N sc a c d xs)(fp:List iN)(s1:iM)(H1:Hp)(A:iN):dz Γ.pT F W (xs++freeOf a) (bu a sc) k (bg X (xs++freeOf a) a (bt X.env (freeOf a)) fp s1 H1 A):=
 {rfl,cQ C.cE,λZ=>rfl,h.nd,C.K,C.mg,C.gs,C.bs,C.room,λf b=>{(C.fns f b).ex},C.J9,C.cls,C.xc,λq e=>{(C.xi q e).ex},λf b=>{(C.Rh f b).1,{(C.Rh f b).2.ex}},C.any,C.fld,C.con,nofun,nofun,nofun}
set_option tactic.hygienic true in
def Iu{e:E}(h:aF Γ N sc e p=ig)(env:Env):∀x,foldedSetIterable p env x=pure x:=by
 intro x;cases p<;>first|rfl|(cases e<;>first|(exact aI h)|(rename_i q;cases q<;>exact aI h))
def ei{c:iO}{it:I}(h:mD Γ N sc c it p=ig)(env:Env):∀x,foldedSetIterable p env x=pure x:=by
 intro x;cases it with
 |seq e=>exact Iu h env x|xS e=>cases p<;>first|rfl|(exact aI h)
 |zM a b=>cases p<;>first|rfl|(exact aI h)
 |enum e=>cases p<;>first|rfl|(exact aI h)
 |zip as=>cases p<;>first|rfl|(exact aI h)
def CW(W:Wd)(H0 e H1:Hp)(js:Sl)(f:PV->Res (Option PV))(ps:List PV)(i:Nat)(ys:List V)(a:St)(d:Hp):Prop:=
 i<=ps.length/\∃b,az W e H1 b d/\SR W H0 js a b d/\∃c,bG f (ps.take i)=.ok c/\c.length<=i/\ag W b c ys
def wX(hK:W.K=X.K){r:Nat}{u:List Nat}{C:Tg}{it:I}{d:E}{ys:List Str}(bR:fh r C=ig)(bJ:c9 d=ig)(hs:u.map (λi=>N[i]?)=ys.map hT)(nd:ys.Nodup)(V:St)(H:Hp)(Q:VK)(h:tF X W F (.comp r u C it d) V H Q):
 uF (tI X W F it) r (gT X.K C) (tN W F d) u V H Q:=by
 let(L,G,env,sr,o):=h;rw [aG] at o;refine{L,G,env,sr,o.bind.imp λm j J Y H1 g1 gi=>?_};by_cases Z:¬m.length<hZ
 .rw [if_neg Z] at j;exact j.elim
 have hl:=Decidable.not_not.mp Z;rw [if_pos hl] at j;generalize hf:(λx=>(C.put x (k6 r .no++fv env u)).bind λM=>(aG F d M).bind λy=>Res.ok (hT y))=f at j
 cases w:bG f m with
 |bad=>rw [w] at j;exact j.elim|exc c=>
  exfalso
  have:∀(l:List PV) (c:Str),bG f l≠.exc c:=λl=>by
   induction l with
   |nil=>intro c z;cases z
   |cons a l ih=>
    intro c z;simp! [bG] at z;rcases Res.dt z with z|⟨o1,_,z⟩
    .cases e:f a with
     |ok _=>rw [e] at z;cases z
     |exc _=>rw [e] at z;cases z
     |bad=>rw [e] at z;cases z
    .rcases Res.dt z with z|⟨o2,_,z⟩
     .exact ih c z
     .cases z
  exact this _ _ w
 |ok all=>
  rw [w] at j;let(xs,e1,fin):=j;cases e1;have aZ:=sr.grow g1;refine{m.length,CW W L Y H1 (k6 r .no++fv env u) f m,{Nat.zero_le _,Y,.refl g1.sub,nS r aZ hs nd,[],rfl,a8 _,.nil},?_}
  rintro i made σ' H' ⟨hi,G',A,O,zs,P,Nc,l⟩
  refine{by rw [l.length];exact c7 (c0 Nc hi) (dq hl (by decide)),?_};let(R,S):=gi.any i G' H' A.g A.h A.sub;by_cases b:i=m.length
  .refine .inl {R b,λp hp=>?_};rw [b,List.take_length,w] at P;cases P;exact fin p made G' H' (g1.trans A) hp l
  .have D:i<m.length:=by omega
   let(Bu,B):=S m[i] (zzg D);refine .inr {Bu,D,λx gW hy=>?_};let(og,T,rx):=B x gW hy;let(o1,s,q):=sF w (zzg D) P;rw [<-hf] at s;let(M,Ae,s):=Res.aC s;let(y,JG,s):=Res.aC s;cases s;refine iL hK Ae (O.grow T) rx λσ2 i4=>{L,og,M,i4,y,JG,λv G3 H3 U t=>?_};refine{D,G3,A.trans (T.trans U),(hV bR Ae i4).grow U,_,q,?_,?_}
   .rw [bF];show zs.length+1<=i+1;omega
   .exact(ag.same (T.trans U).g zs l).append (.cons (t.rep bJ) .nil)
def pA(hK:W.K=X.K){w:Nat}{D:List Nat}{R:Tg}{it:I}{c d:E}{ys:List Str}(bR:fh w R=ig)(bJ:c9 d=ig)(hs:D.map (λi=>N[i]?)=ys.map hT)(nd:ys.Nodup)(σ:St)(H:Hp)(Q:VK)(h:tF X W F (.fw w D R it c d) σ H Q):
 mj (tI X W F it) w (gT X.K R) (OX W F c) (tN W F d) D σ H Q:=by
 let(S,G,env,sr,o):=h;rw [aG] at o;refine{S,G,env,sr,o.bind.imp λr q J G1 H1 g1 gi=>?_};by_cases vn:¬r.length<hZ
 .rw [if_neg vn] at q;exact q.elim
 have hl:=Decidable.not_not.mp vn;rw [if_pos hl] at q;generalize hf:(λx=>(R.put x (k6 w .no++fv env D)).bind λA=>(aG F c A).bind λt=>Aw t λt=>if t then(aG F d A).bind λy=>Res.ok (hT y) else .ok ie)=f at q
 cases L:bG f r with
 |bad=>rw [L] at q;exact q.elim|exc c=>
  exfalso
  have:∀(l:List PV) (c:Str),bG f l≠.exc c:=λl=>by
   induction l with
   |nil=>intro c z;cases z
   |cons a l ih=>
    intro c z;simp! [bG] at z;rcases Res.dt z with z|⟨o1,_,z⟩
    .cases e:f a with
     |ok _=>rw [e] at z;cases z
     |exc _=>rw [e] at z;cases z
     |bad=>rw [e] at z;cases z
    .rcases Res.dt z with z|⟨o2,_,z⟩
     .exact ih c z
     .cases z
  exact this _ _ L
 |ok all=>
  rw [L] at q;let(xs,e1,fin):=q;cases e1;have aZ:=sr.grow g1;refine{r.length,CW W S G1 H1 (k6 w .no++fv env D) f r,{Nat.zero_le _,G1,.refl g1.sub,nS w aZ hs nd,[],rfl,a8 _,.nil},?_}
  rintro i made σ' H' ⟨hi,G',B,U,zs,V,Nc,l⟩
  refine{by rw [l.length];exact c7 (c0 Nc hi) (dq hl (by decide)),?_};let(Y,Z):=gi.any i G' H' B.g B.h B.sub;by_cases j:i=r.length
  .refine .inl {Y j,λp hp=>?_};rw [j,List.take_length,L] at V;cases V;exact fin p made G' H' (g1.trans B) hp l
  .have M:i<r.length:=by omega
   let(Bu,O):=Z r[i] (zzg M);refine .inr {Bu,M,λx gW hy=>?_};let(og,P,rx):=O x gW hy;let(o1,s,m):=sF L (zzg M) V;rw [<-hf] at s;let(A,Ae,s):=Res.aC s;let(t,ht,s):=Res.aC s
   obtain⟨b,rfl⟩:∃b,t=.bl b:=by
    cases t<;>first|exact⟨_,rfl⟩|(cases s)
   refine iL hK Ae (U.grow P) rx λσ2 T=>{S,og,A,T,b,ht,λG3 H3 u=>?_};have C:(if b=ig then(aG F d A).bind λy=>Res.ok (hT y) else .ok ie)=Res.ok o1:=s
   cases b with
   |true=>
    rw [if_pos rfl] at C;refine QG ?_;let(y,JG,C):=Res.aC C;cases C;refine{S,G3,A,T.grow u,y,JG,λv G4 H4 g4 t4=>?_};refine{M,G4,B.trans (P.trans (u.trans g4)),(hV bR Ae T).grow (u.trans g4),_,m,?_,?_}
    .rw [bF];show zs.length+1<=i+1;omega
    .exact(ag.same (P.trans (u.trans g4)).g zs l).append (.cons (t4.rep bJ) .nil)
   |false=>
    rw [if_neg zzf] at C;refine QF ?_;cases C;refine{M,G3,B.trans (P.trans u),(hV bR Ae T).grow u,_,m,?_,?_}
    .rw [bF];show zs.length+0<=i+1;omega
    .show ag W G3 (zs++[]) made;rw [hG];exact ag.same (P.trans u).g zs l
def w9(C:zv4 X)(r:Γ.qt=iv){f:Nat}{i:List Nat}{d:Tg}{it:I}{b:E}{c j q:iO}{a:j1}{pos:Pos}(h:gh N sc a f i (av c))(t:fh f d=ig)(u:c9 b=ig)(w:GI X W F c it j)(xi:∀x,foldedSetIterable j X.env x=pure x)
 (y:cx (av c++freeOf a) (bu a sc) (fO a) d c=ig) (he:∀Y,dz Γ.pT F W (av c++freeOf a) (bu a sc) k Y->GE Y W F b q):GF X W F (.comp f i d it b) (.ListComp q [{c,j,[],0}] a pos):=by
 intro B s e H Q I m;have D:(freeOf a).Nodup:=(List.nodup_append.mp h.nd).2.1;have rd:=wX (N:=N) C.K t u h.slots D e H Q m
 have:=qW (g:=gT X.K d) (te:=tN W F b) (xs:=av c) (ys:=freeOf a) (is:=i) (pos:=pos) (C.calm r) (iF C.hN C.cE I.ok h) w
  (λfp o p A=>nA (fn:=fO a) (X:=bg X (av c++freeOf a) a (bt X.env (freeOf a)) fp o p A) rfl h.nd (cQ C.cE) rfl (λZ z=>z) y)
  (λfp o p A=>L2.PE.imp (he _ (dO C h fp o p A)) λe H Q z=>xY e H Q z) xi B s e H Q I
 rw [h.len] at this;exact this rd
def pI(C:zv4 X)(u:Γ.qt=iv){m:Nat}{o:List Nat}{j:Tg}{it:I}{c b:E}{r t:iO}{a:j1}{pos:Pos}(h:gh N sc a m o (av d))(w:fh m j=ig)(y:c9 b=ig)(B:GI X W F d it p)(xi:∀x,foldedSetIterable p X.env x=pure x)
 (D:cx (av d++freeOf a) (bu a sc) (fO a) j d=ig) (G:∀Y,dz Γ.pT F W (av d++freeOf a) (bu a sc) k Y->GT Y W F c r) (he:∀Y,dz Γ.pT F W (av d++freeOf a) (bu a sc) k Y->GE Y W F b t):
 GF X W F (.fw m o j it c b) (.ListComp t [{d,p,[r],0}] a pos):=by
 intro J s e H Q I q;have L:(freeOf a).Nodup:=(List.nodup_append.mp h.nd).2.1;have rd:=pA (N:=N) C.K w y h.slots L e H Q q
 have:=zC (g:=gT X.K j) (tt:=OX W F c) (te:=tN W F b) (xs:=av d) (ys:=freeOf a) (is:=o) (pos:=pos) (C.calm u) (iF C.hN C.cE I.ok h) B
  (λfp f i A=>nA (fn:=fO a) (X:=bg X (av d++freeOf a) a (bt X.env (freeOf a)) fp f i A) rfl h.nd (cQ C.cE) rfl (λZ z=>z) D)
  (λfp f i A=>L2.PT.imp (G _ (dO C h fp f i A)) λe H Q z=>Dz e H Q z)
  (λfp f i A=>L2.PE.imp (he _ (dO C h fp f i A)) λe H Q z=>xY e H Q z) xi J s e H Q I
 rw [h.len] at this;exact this rd
end
end Ci
namespace L2
open PySem.Spec PyProof.Rows PySem.W
section
variable{E:lq}{s:iM}{it:iN}
theorem fld{fs:Array ix}{z:ix}{Q:Unit->iM->Prop}(e:s.heap.get? it=hT {cls:=.type "dict_itemiterator",data:=.fields fs})(a:j<fs.size)(b:∀h',h'.get? it=hT {cls:=.type "dict_itemiterator",data:=.fields (fs.setIfInBounds j z)}->j2.SameBut it s.heap h'->Q () {s with heap:=h'}):i1 (jj prog w) A (setField (.ref it) j z) Q E s:=
 wpAny_setField e rfl a (b _ (j2.get?_update_self _ e rfl) (fq ..))
end
noncomputable abbrev lO(a:Array ix)(c:Nat):Obj:={cls:=.type "list",dict:=ie,data:=.seq a c,slots:=#[]}
end L2
namespace L2
open PySem.Spec PyProof.Rows
def kL:Manifest.owners.lookup (String.ofList ['d','e','s','r','e','v','e','r'].reverse)=hT Manifest.sig_reversed:=by kernel_rfl
theorem cB:Slot (zu 8) (zu 34) "reversed.__next__":=
 .of (owner:=(zu 8)) (n:=(zu 34)) (by rw [typeLookup_type,builtinLookup_eq_fast];kernel_rfl) (by decide+kernel) (by decide+kernel) (by decide+kernel)
  (by first|exact .inl (by decide+kernel)|exact .inr (by decide+kernel)) (by rw [isSubtype_type];kernel_rfl)
def gC:entryFor table "reversed.__next__"=hT kr.«reversed.__next__»:=entryFor_of_tree (by kernel_rfl)
def ic(a:ix):argsOk "reversed.__next__" {[a],[]}:=by unfold argsOk;rw [signature?_of (id:="reversed.__next__") (n:=['_','_','t','x','e','n','_','_']) (o:=['d','e','s','r','e','v','e','r']) (by kernel_rfl) kL];kernel_rfl
theorem ir:Slot (zu 8) "__iter__" "reversed.__iter__":=
 .of (owner:=(zu 8)) (n:="__iter__") (by rw [typeLookup_type,builtinLookup_eq_fast];kernel_rfl) (by decide+kernel) (by decide+kernel) (by decide+kernel)
  (by first|exact .inl (by decide+kernel)|exact .inr (by decide+kernel)) (by rw [isSubtype_type];kernel_rfl)
def ou(a:ix):argsOk "reversed.__iter__" {[a],[]}:=by unfold argsOk;rw [signature?_of (id:="reversed.__iter__") (n:=['_','_','r','e','t','i','_','_']) (o:=['d','e','s','r','e','v','e','r']) (by kernel_rfl) kL];kernel_rfl
theorem mO:entryFor table "reversed.__iter__"=hT kr.«dict_keyiterator.__iter__»:=
 entryFor_alias (id':="dict_keyiterator.__iter__") (by kernel_rfl) (by first|rfl|decide+kernel|(unfold String.splitOn;simp+decide [String.splitOnAux])) (by decide+kernel) (by kernel_rfl)
theorem eR:Slot (zu 8) "__length_hint__" (zu 23):=
 .of (owner:=(zu 8)) (n:="__length_hint__") (by rw [typeLookup_type,builtinLookup_eq_fast];kernel_rfl) (by decide+kernel) (by decide+kernel) (by decide+kernel)
  (by first|exact .inl (by decide+kernel)|exact .inr (by decide+kernel)) (by rw [isSubtype_type];kernel_rfl)
def mM:entryFor table (zu 23)=hT kr.«reversed.__length_hint__»:=entryFor_of_tree (by kernel_rfl)
def oq(a:ix):argsOk (zu 23) {[a],[]}:=by unfold argsOk;rw [signature?_of (id:=(zu 23)) (n:="__length_hint__".toList.reverse) (o:=['d','e','s','r','e','v','e','r']) (by kernel_rfl) kL];kernel_rfl
def vZ:typeLookup (.type (zu 8)) "__len__"=pure ie:=by rw [typeLookup_type,builtinLookup_eq_fast];kernel_rfl
def wk:typeLookup (.type "tuple") "__reversed__"=pure ie:=by rw [typeLookup_type,builtinLookup_eq_fast];kernel_rfl
abbrev KY(t:iN)(i:Int):Obj:={cls:=.type (zu 8),data:=.fields #[.ref t,rawInt i]}
section
variable{E:lq}{s:iM}
def u7:TypeCalled (zu 8) "reversed.__new__" "object.__init__" where
 notType:=by decide+kernel
 canCreate:=F.create_reversed
 mro:={_,_,F.mro_reversed}
 made:=F.made_reversed
 plain:=F.plain_reversed_new
 sub:=F.sub_reversed_self
 init:=.of (owner:=(zu 33)) (n:=(zu 10)) (by rw [typeLookup_type,builtinLookup_eq_fast];kernel_rfl) (by decide+kernel) (by decide+kernel) (by decide+kernel)
  (by first|exact .inl (by decide+kernel)|exact .inr (by decide+kernel)) (by rw [isSubtype_type];kernel_rfl)
theorem zd(l:iN)(items:Array ix):MeetsIn prog w (kr.«reversed.__new__» {[.type (zu 8),.ref l],[]}) (λZ R s=>IsTup s.heap l items/\items.size<=j3/\∀tk,R (.ok (.ret (.ref (zz9 s)))) {s with heap:=s.heap.push (KY l ((items.size:Int)-1)),toks:=tk}):=
 .of_wp λA R s c=>by
  let(hl,d,h):=c;unfold kr.«reversed.__new__»;refine ar (wpAny_of_eq (newClass_reversed _) ?_)
  try dsimp only
  refine ar (wpAny_of_eq (a:=()) (by first|rfl|kernel_rfl) ?_);refine ar (wpAny_of_eq (a:=()) (by first|rfl|kernel_rfl) ?_)
  try dsimp only
  refine ar (wpAny_specialOf hl.typeIs wk ?_)
  try dsimp only
  refine ar ?_
  wp_delta
  refine ar (wpAny_isInstance (T:="tuple") (v:=.ref l) (b:=iv) hl.typeIs (by rw [isSubtype_type];kernel_rfl) ?_);simp! [d2,if_false];refine ar (wpAny_specialOf hl.typeIs PyProof.Rows.slot_tuple_getitem.lookup ?_)
  try dsimp only
  rw [if_pos (by decide+kernel)];refine bp ?_;simp! [Bool.not_true,d2,if_false];refine ar (len_tuple hl (by rw [sizeLine_eq] at d;omega) ?_);refine ar (wpAny_of_eq (a:=hT (items.size:Int)) rfl ?_)
  try dsimp only
  unfold kr.SmallTypes.newRecord;exact ar (wpAny_newObj_type (bp {_,rfl,h _}) (by size_fits))
theorem jf{l:iN}{Q:lq}(hl:IsTup s.heap l items)(hn:items.size<=j3)
 (h:∀tk,Q (.ref (zz9 s)) {s with heap:=s.heap.push (KY l ((items.size:Int)-1)),toks:=tk}):i1 (jj prog w) A (call (.type (zu 8)) [.ref l]) Q E s:=
 callType_newIn u7 (by decide) (F.typeCall_reversed_1 _) (F.newCall_reversed_1 _) (λobj=>F.args_object_init_2 obj _) F.entry_reversed_new (zd l items) {hl,hn,λtk=>{{_,dI _ rfl,rfl},h tk}}
def eV(h:j2)(a l:iN)(i:Int):Prop:=∃o,h.get? a=hT o/\o.cls=.type (zu 8)/\o.data=.fields #[.ref l,rawInt i]
theorem eV.typeIs{l:iN}{i:Int}(x:eV s.heap a l i):s.TypeIs (.ref a) (zu 8):=let⟨o,b,c,_⟩:=x;⟨o,b,c⟩
theorem eV.at{l:iN}{i:Int}(x:eV h a l i)(e:∀o,h.get? a=hT o->h'.get? a=hT o):eV h' a l i:=let⟨o,b,r⟩:=x;{o,e _ b,r}
def C9{it l:iN}{i:Nat}{x:ix}{Q:Option ix->iM->Prop}(b:eV s.heap it l (i:Int))(hl:IsTup s.heap l items)(hn:items.size<=j3)(d:items[i]?=hT x)
 (e:∀h' tk,eV h' it l ((i:Int)-1)->j2.SameBut it s.heap h'->Q (hT x) {s with heap:=h',toks:=tk}):i1 (jj prog w) A (pyNext (.ref it)) Q E s:=by
 let(o,c,f,hd):=id b;have g:i<items.size:=(Array.getElem?_eq_some_iff.mp d).1
 unfold pyNext;refine ar (wpAny_attempt (wpAny_callSpecial?_slot (name:=Str.ofString (zu 34)) b.typeIs cB
  (wpAny_call_entry cB b.typeIs gC ?_ (ic _))))
 unfold kr.«reversed.__next__»;refine ar (wpAny_of_eq (a:=(ix.ref it,[])) rfl ?_)
 try dsimp only
 refine ar (wpAny_field c hd (x:=.ref l) rfl ?_);refine ar (wpAny_field c hd (x:=rawInt (i:Int)) rfl ?_);show i1 _ _ (if(i:Int)<0 then _ else _) _ _ s;rw [if_neg (by omega)];show i1 _ _ (specialOf (.ref l) (Str.ofString "__getitem__")>>=_) _ _ s;refine ar (wpAny_specialOf hl.typeIs PyProof.Rows.slot_tuple_getitem.lookup ?_);rw [if_neg (by simp)];refine ar (wpAny_mkInt ?_);refine ar (wpAny_attempt (PyProof.Rows.getItem_tuple (j:=i) hl (by omega) (by rw [sizeLine_eq] at hn;omega) ?_ d ?_))
 .simp! [seqIndex?,show¬((i:Int)<0) from by omega,if_false];rw [if_pos (by rw [zza,zzN,zzN];constructor<;>omega),hD]
 try dsimp only
 refine ar (wpAny_field (s:={s with toks:=s.toks+1}) c hd (x:=rawInt (i:Int)) rfl ?_);show i1 _ _ (setField (.ref it) 1 (rawInt ((i:Int)-1))>>=_) _ _ _;refine ar (wpAny_setField c hd (by simp) ?_);refine bp {x,rfl,bp (e _ _ ?_ (fq ..))};exact{_,j2.get?_update_self _ c (Obj.isFreed_of_fields (Obj.data_mapFields hd _)),(Obj.cls_mapFields ..).trans f,by rw [Obj.data_mapFields hd];simp}
def F9{it l:iN}{Q:Option ix->iM->Prop}(f:A.handled=ie)(c:eV s.heap it l (-1))
 (h:∀h',j2.ExtBut it s.heap h'->Q ie {s with heap:=h'}):i1 (jj prog w) A (pyNext (.ref it)) Q E s:=by
 let(o,d,p,hd):=id c
 unfold pyNext;refine ar (wpAny_attempt (wpAny_callSpecial?_slot (name:=Str.ofString (zu 34)) c.typeIs cB
  (wpAny_call_entry cB c.typeIs gC ?_ (ic _))))
 unfold kr.«reversed.__next__»;refine ar (wpAny_of_eq (a:=(ix.ref it,[])) rfl ?_)
 try dsimp only
 refine ar (wpAny_field d hd (x:=.ref l) rfl ?_);refine ar (wpAny_field d hd (x:=rawInt (-1)) rfl ?_);show i1 _ _ (if(-1:Int)<0 then _ else _) _ _ s;rw [if_pos (by decide)];refine ar (wpAny_rule ?_);refine ar ?_
 wp_delta
 refine ar (wpAny_setField d hd (by simp) ?_);have i:=j2.get?_update_self (Obj.mapFields (·.setIfInBounds 1 (rawInt (-1)))) d (Obj.isFreed_of_fields (Obj.data_mapFields hd _));refine wpAny_setField i (Obj.data_mapFields hd _) (by simp) ?_;refine ar ?_;show i1 _ _ (newExc (.type (zu 20)) []>>=_) _ _ _;refine ar ?_;simp! [newExc,newTuple];refine ar (wpAny_newObj_type ?_ (by size_fits));refine ar (m:=firstArgMember _ _) (wpAny_of_eq (a:=ix.none) (by first|rfl|(simp! [firstArgMember];rfl)) ?_);refine wpAny_newObj_type ?_ (by size_fits);simp! [raiseNew];refine ar (wpAny_handled ?_)
 first|rw [show A.in1.handled=ie from f]|rw [f]
 refine ar (bp (wpAny_throw ?_));refine ar (wpAny_isInstance (T:=(zu 20)) (b:=ig) {_,dI _ rfl,rfl} isSubtype_stop ?_);refine bp (h _ ?_);have j:j2.ExtBut it s.heap (s.heap.update it (Obj.mapFields (·.setIfInBounds 1 (rawInt (-1))))):=(fq ..).extBut;have k:j2.ExtBut it (s.heap.update it (Obj.mapFields (·.setIfInBounds 1 (rawInt (-1))))) ((s.heap.update it (Obj.mapFields (·.setIfInBounds 1 (rawInt (-1))))).update it (Obj.mapFields (·.setIfInBounds 0 .none))):=(fq ..).extBut;exact((show j2.ExtBut it s.heap _ from λb o g e=>k b o g (j b o g e)).push _).push _
def ux{it l:iN}{i:Int}{Q:lq}(a:eV s.heap it l i)(h:Q (.ref it) s):i1 (jj prog w) A (pyIter (.ref it)) Q E s:=by refine wpAny_pyIter_slot a.typeIs ir (wpAny_call_entry ir a.typeIs mO ?_ (ou _));show i1 _ _ (ret (.ref it)) _ _ s;exact bp {_,rfl,zu 8,_,a.typeIs,cB.lookup,h}
theorem IsTup.mv{t:iN}(x:IsTup h t items)(e:∀o,h.get? t=hT o->h'.get? t=hT o):IsTup h' t items:=let⟨o,a,r⟩:=x;{o,e _ a,r}
def zY(p:A.handled=ie)(I l:iN)(q:l≠I)(items:Array ix)(hn:items.size<=j3):
 Walks prog w A I [I,l] [I] items.size (λi v=>items[items.size-1-i]?=hT v) (λi h=>i<=items.size/\eV h I l ((items.size:Int)-1-(i:Int))/\IsTup h l items) where
 sub:=λb c=>by simp at c;simp [c]
 frame:=λZ Z Z x hk=>{x.1,x.2.1.at λo e=>hk I (by simp) o e,IsTup.mv x.2.2 λo e=>hk l (by simp) o e}
 item:=λi s Q E r x d=>by
  have e:(items.size:Int)-1-(i:Int)=((items.size-1-i:Nat):Int):=by omega
  have a:=x.2.1;rw [e] at a;have j:items[items.size-1-i]?=hT (items[items.size-1-i]'(by omega)):=fR (by omega);refine C9 a x.2.2 hn j λg t k m=>?_;have u:((items.size-1-i:Nat):Int)-1=(items.size:Int)-1-((i+1:Nat):Int):=by omega
  rw [u] at k;exact d _ g t j {r,k,IsTup.mv x.2.2 λo f=>(m.2 l q).trans f} λb o c f=>m.extBut b o (λh=>c (by simp [h])) f
 done:=λs Q E x d=>by
  have e:(items.size:Int)-1-(items.size:Int)= -1:=by omega
  have a:=x.2.1;rw [e] at a;exact F9 p a λg y=>d g s.toks λb o c f=>y b o (λh=>c (by simp [h])) f
 self:=λZ Z Z Z x d=>ux x.2.1 d
def C8{I l:iN}{Q:Bool->iM->Prop}(c:eV s.heap I l ((items.size:Int)-1))(hl:IsTup s.heap l items)(hn:items.size<=j3)(h:∀b tk,Q b {s with toks:=tk}):i1 (jj prog w) A (kr.List.listLengthHint (.ref I)) Q E s:=by
 let(o,d,g,hd):=id c;unfold kr.List.listLengthHint;refine ar (wpAny_specialOf c.typeIs vZ ?_);show i1 _ _ (specialOf (ix.ref I) (Str.ofString "__length_hint__")>>=_) _ _ _;refine ar (wpAny_specialOf c.typeIs eR.lookup ?_)
 wp_delta
 refine ar (wpAny_isInstance (T:=(zu 8)) (v:=.ref I) (b:=ig) c.typeIs F.sub_reversed_self ?_);rw [if_neg (by decide)];show i1 _ _ (if _ then _ else _) _ _ _;rw [if_neg (by decide+kernel)];refine ar (wpAny_rule ?_);refine ar (wpAny_of_eq (eR.bind _) ?_)
 try dsimp only
 refine ar (wpAny_attempt (wpAny_call_entry eR c.typeIs mM ?_ (oq _)));unfold kr.«reversed.__length_hint__»;refine ar (wpAny_of_eq (a:=ix.ref I) rfl ?_);refine ar (wpAny_field d hd (x:=.ref l) rfl ?_);rw [if_neg (show¬((ix.ref l==ix.none)=ig) from zzf)];refine ar (len_tuple hl (by rw [sizeLine_eq] at hn;omega) ?_);refine ar (wpAny_of_eq (a:=hT (items.size:Int)) rfl ?_)
 try dsimp only
 refine ar (wpAny_field (s:={s with toks:=s.toks+1+1}) d hd (x:=rawInt ((items.size:Int)-1)) rfl ?_);show i1 _ _ (if(items.size:Int)<(items.size:Int)-1+1 then _ else _) _ _ _;rw [if_neg (by omega)];unfold retInt;refine ar (wpAny_mkInt (bp {_,rfl,?_}));show i1 _ _ (asInt? (ix.int ((items.size:Int)-1+1) _)>>=_) _ _ _;refine ar (wpAny_of_eq (a:=hT ((items.size:Int)-1+1)) rfl ?_);rw [sizeLine_eq] at hn;have e:kr.List.listFitsIndex ((items.size:Int)-1+1)=ig:=by unfold kr.List.listFitsIndex;rw [zza,zzN,zzN];omega
 have f:kr.List.listTooLong ((items.size:Int)-1+1).toNat=iv:=by unfold kr.List.listTooLong;rw [decide_eq_false_iff_not,sizeLine_eq];omega
 simp! [e,f,Bool.not_true,d2,if_false];rw [if_neg (by omega)];exact bp (h _ _)
def En{R:Result->iM->Prop}(y:A.handled=ie){I l:iN}(z:l≠I)(c:eV s.heap I l ((items.size:Int)-1))(hl:IsTup s.heap l items)(S:iN)(p:S≠I)(t:S≠l)(res:ix)(d:Nat)(r:s.heap.get? S=hT (lO #[] d))
 (B:∀h' tk m g,(∀b o,b≠S->b≠I->s.heap.get? b=hT o->h'.get? b=hT o)->h'.get? S=hT (lO m g)->
  ItemsOf (λi v=>items[items.size-1-i]?=hT v) m items.size->R (.ok (.ret res)) {s with heap:=h',toks:=tk}) (hn:items.size<=j3):
 i1 (jj prog w) A.in1 (kr.List.listExtendWith (.ref S) (.ref I) res)
  (λfin s'=>match fin with|.done f=>R (.ok f) s'|.again g=>g.quiet=ig/\codeAny (jj prog w) A g R s') (λe s'=>R (.error e) s') s:=by
 have C:S∉[I,l]:=λhm=>by
  rcases el.mp hm with e|hm
  .exact p e
  .exact t (d3.mp hm)
 have j:∀(h:j2) (c1 tk:Nat),(∀b x,b≠S->s.heap.get? b=hT x->h.get? b=hT x)->h.get? S=hT (lO #[] c1)->codeAny (jj prog w) A (.builtin "list.extend.loop" {[.ref S,.ref I,res],[]}) R {s with heap:=h,toks:=tk}:=λh c1 tk hk D=>
  codeAny_extend_loopS (zY (prog:=prog) (w:=w) (A:=A.in1) y I l z items hn).toS hn _ C _ items.size 0 {s with heap:=h,toks:=tk} _ _ rfl (Nat.zero_le _) {Nat.zero_le _,by simpa using c.at λo e=>hk _ _ (Ne.symm p) e,IsTup.mv hl λo e=>hk _ _ (Ne.symm t) e} D (ItemsOf.nil _) λs' m g hm G H=>by
   rw [Moved.eq_with hm];refine B s'.heap s'.toks m g (λb ob k J e=>hm.heap b ob (λa=>?_) (hk b ob k e)) G H
   rcases el.mp a with K|a
   .exact k K
   .exact J (d3.mp a)
 unfold kr.List.listExtendWith;refine ar (wpAny_typeOf c.typeIs ?_);have L:kr.List.listSameRef (.ref S) (.ref I)=iv:=by simp [kr.List.listSameRef,p]
 have M:(ix.type (zu 8)==ix.type "list")=iv:=by decide
 have N:(ix.type (zu 8)==ix.type "tuple")=iv:=by decide
 simp! [L,M,N,Bool.or_false,d2,if_false];refine ar (ux c ?_);refine ar (wpAny_holding (C8 c hl hn λb tk=>?_));refine wpAny_ite_split (λZ=>?_) (λZ=>bp {plainId_quiet F.plain_extend_loop _,j _ d _ (λb x Z q=>q) r});refine ar (wpAny_rule (ar ?_));show i1 _ _ (updateSeq S (·.push .none)>>=λZ=>updateSeq S (·.pop)) _ _ _;refine ar (wpAny_updateSeq (s:={s with toks:=tk}) r rfl ?_);have u:=j2.get?_update_self (Obj.mapSeq (·.push ix.none)) r rfl;refine wpAny_updateSeq (hz:=by seq_fits) u rfl ?_;have O:=j2.get?_update_self (Obj.mapSeq (·.pop)) u rfl;exact bp {plainId_quiet F.plain_extend_loop _,j _ _ _ (λb x k q=>(j2.get?_update_other _ _ (Ne.symm k)).trans ((j2.get?_update_other _ _ (Ne.symm k)).trans q)) O}
def oy{Q:lq}(t:A.handled=ie){I l:iN}(u:l≠I)(d:eV s.heap I l ((items.size:Int)-1))(hl:IsTup s.heap l items)
 (y:∀h' tk g j,(∀b o,b≠I->s.heap.get? b=hT o->h'.get? b=hT o)->
  h'.get? (zz9 s)=hT (lO g j)->ItemsOf (λi v=>items[items.size-1-i]?=hT v) g items.size->Q (.ref (zz9 s)) {s with heap:=h',toks:=tk}) (hn:items.size<=j3):
 i1 (jj prog w) A (call (.type "list") [.ref I]) Q E s:=by
 refine callType_codes (Q₁:=λobj a=>obj=.ref (zz9 s)/\a={s with heap:=s.heap.push {cls:=.type "list",data:=.seq #[]}}) F.called_list (F.typeCall_list_1 _) F.entry_list_init
  (code_list_new _ ⟨rfl,rfl⟩) λobj a f=>?_
 let(rfl,rfl):=f;have h:(s.heap.push {cls:=.type "list",data:=.seq #[]}).get? (zz9 s)=hT {cls:=.type "list",data:=.seq #[]}:=dI _ rfl;have q:(zz9 s)≠I:=λe=>let⟨o,k,_⟩:=d;absurd (bZ k) (by rw [e];exact Nat.lt_irrefl _);have r:(zz9 s)≠l:=λe=>let⟨o,k,_⟩:=hl;absurd (bZ k) (by rw [e];exact Nat.lt_irrefl _);refine{{_,h,rfl},F.args_list_init_2 _ _,?_};show i1 _ _ (do let old<-kr.List.listItems (.ref (zz9 s));kr.List.listUpdate (.ref (zz9 s)) (λZ=>#[]);letGo old.toList.reverse;kr.List.listExtendWith (.ref (zz9 s)) (.ref I) .none) _ _ _;refine ar ?_;unfold kr.List.listItems;refine ar (wpAny_seqItems h rfl (bp ?_));show i1 _ _ (updateSeq (zz9 s) (λZ=>#[])>>=λZ=>letGo (#[]:Array ix).toList.reverse>>=λZ=>kr.List.listExtendWith (.ref (zz9 s)) (.ref I) .none) _ _ _;refine ar (wpAny_updateSeq h rfl ?_);have c:=j2.get?_update_self (Obj.mapSeq (λZ=>(#[]:Array ix))) h rfl
 have m:∀b o,b≠(zz9 s)->s.heap.get? b=hT o->((s.heap.push {cls:=.type "list",data:=.seq #[]}).update (zz9 s) (Obj.mapSeq (λZ=>(#[]:Array ix)))).get? b=hT o:=
  λb o p e=>(j2.get?_update_other _ _ (Ne.symm p)).trans (aT _ e)
 refine ar (wpAny_letGo ?_);refine En (A:=A.in1) (hn:=hn) t u (d.at λo e=>m _ _ (Ne.symm q) e) (IsTup.mv hl λo e=>m _ _ (Ne.symm r) e) _ q r .none _ c λh' tk g j hk z B=>?_;exact{rfl,y h' tk g j (λb o p e=>hk b o (dV (bZ e)) p (m b o (dV (bZ e)) e)) z B}
variable{p1 p2 CP:Pos}
def zD(F:X.calm=ig)(G:Gl X "list")(hm:X.mg "list"=ie)(J:Gl X (zu 8))(L:X.mg (zu 8)=ie)(h:PE X e te)(he:starEach [e] X.env=(iv,eval e X.env)::starEach [] X.env):
 PE X (.Call (.Name "list" p1) [.Call (.Name (zu 8) p2) [e] [] CP] [] pos) (λj H Q=>te j H λx H1=>∃l vs,x=.ref l/\dF X.K H1 l vs/\∀p,H1 p=ie->Q (.ref p) (upd H1 p (.lst vs.reverse))):=by
 intro M s j H Q I q;refine wpAny_Call_Name_kw (dX I G hm (u:=.type "list") (by decide+kernel) ?_);refine PyProof.Rows.callWith_type1 ?_ rfl rfl;show i1 _ _ (spliced ((iv,eval (.Call (.Name (zu 8) p2) [e] [] CP) X.env)::backTo pos (starEach [] X.env))) _ _ s;refine Calls.spliced_cons ?_;refine wpAny_Call_Name_kw (dX I J L (u:=.type (zu 8)) (by decide+kernel) ?_);refine PyProof.Rows.callWith_type1 (bb (aV h bW he CP M s j H (λxs H1=>NC xs λx=>∃l vs,x=.ref l/\dF X.K H1 l vs/\∀p,H1 p=ie->Q (.ref p) (upd H1 p (.lst vs.reverse))) I q) λus d ⟨xs,H1,g,N,q1⟩=>?_) he rfl
 .let(x,rfl,l,vs,rfl,O,q1):=FF q1;let(u,rfl,P):=vals1 N;cases P;let(f,t,k,R):=g.tuple O;have y:=t.length;have B:f.toArray.size<=sizeLine:=by simp! [a5]<;>omega
  refine jf k B λS=>?_;refine Calls.spliced_nil ?_;let(ol,m,_):=id k;have T:l≠(zz9 d):=λz=>absurd (bZ m) (by rw [z];exact Nat.lt_irrefl _)
  refine oy (s:={d with heap:=d.heap.push (KY l ((f.toArray.size:Int)-1)),toks:=S}) (g.ok.hd F) T {_,dI _ rfl,rfl,rfl} (IsTup.mv k λo z=>aT _ z) (λU V c W kp e r=>?_) B;have Y:c.toList=f.reverse:=by
   refine List.ext_getElem? λi=>?_;by_cases C:i<f.length
   .rw [List.getElem?_reverse C];have hs:c.size=f.length:=by rw [r.1];simp
    have D:i<c.size:=by omega
    have:=r.2 i c[i] (fR D);rw [Array.getElem?_toList,fR D,<-this];simp
   .rw [List.getElem?_eq_none (by rw [d1,r.1];simpa using C),List.getElem?_eq_none (by rw [List.length_reverse];omega)]
  have Z:Vals vs.reverse c.toList:=by rw [Y];exact DG t
  exact{.ref ((zz9 d)+1),_,g.laid (t':=V) (a:=(zz9 d)+1) (λb o z=>kp b o (dV (bZ z)) (aT _ z)) (Nat.le_succ _) (show bB X.prog X.w _ U _ (.lst _) from{by rw [List.length_reverse];exact R,c.toList,W,Z,zx6 e}),by rw [j2.size_push];rfl,q1 _ (g.aJ.fresh (Nat.le_succ _))}
end
end L2
namespace Ci
open L2
section
variable{Γ:Pg}{W:Wd}{F:aW}{sc:j1}{k:Nat}
def zK{p:PV}(h:Rep W G p v):∀{ps:List PV} {vs:List V},ag W G ps vs->ag W G (ps++[p]) (vs++[v]):=by
 intro ps
 induction ps with
 |nil=>
  intro vs t;have:=t.length
  cases vs with
  |nil=>exact .cons h .nil|cons _ _=>cases this
 |cons q ps a=>intro vs t;let(u,r,rfl,b,t):=t.aN;exact .cons b (a t)
def nJ:∀{ps:List PV} {vs:List V},ag W G ps vs->ag W G ps.reverse vs.reverse:=by
 intro ps
 induction ps with
 |nil=>
  intro vs t;have:=t.length
  cases vs with
  |nil=>exact .nil|cons _ _=>cases this
 |cons q ps a=>intro vs t;let(u,r,rfl,b,t):=t.aN;rw [List.reverse_cons,List.reverse_cons];exact zK b (a t)
theorem EC(C:zv4 X)(e:Γ.qt=iv){a:E}{b:iO}{p1 p2 f:Pos}(i:ed sc "list"=ig)(hm:Γ.bs.contains "list"=ig)(j:ed sc (zu 8)=ig)(m:Γ.bs.contains (zu 8)=ig)(q:GE X W F a b)(he:starEach [b] X.env=(iv,eval b X.env)::starEach [] X.env):
 GE X W F (.BS a) (.Call (.Name "list" p1) [.Call (.Name (zu 8) p2) [b] [] f] [] pos):=
 (zD (C.calm e) (b9 C i) (C.bs _ (eu.mp hm)) (b9 C j) (C.bs _ (eu.mp m)) q he).imp λJ H Q h=>by
  let(L,G,env,sr,o):=h;rw [aG] at o;refine one sr o λp v r s g t c o1=>?_
  cases p with
  |tup xs=>let(l,u,rfl,d,y):=t.top.tup c.sub;rw [C.K] at d;exact{l,u,rfl,d,λp z=>dm.lst (W:=W) (G:=r) (H:=s) (xs:=xs.reverse) (λw A B D I=>o1 w A B (g.trans D) (.of I)) c.sub (nJ y) z}|_=>exact ek o1
def IX(C:zv4 X){a:E}{A st:iO}{p2:Pos}(I:GE X W F a A)(hs:GE X W F (.neg (.cst (.int 1))) st):GE X W F (.rev a) (.Subscript A (.Slice ie ie (hT st) p2) pos):=
 (Kz (DS.or (DS.or KW KS) KU) I hs).imp λB H Q h=>by
  let(J,G,env,sr,o):=h;rw [aG] at o;refine one sr o λp v c D g t L o1=>{J,c,env,L,?_};have e:aG F (.neg (.cst (.int 1))) env=.ok (.int (-1)):=by rw [aG,aG];rfl
  rw [e];intro M G2 d g2 t2;refine{t2.top.int,?_};have f:=t.grow g2
  cases p with
  |str z=>
   by_cases hl:z.length<=hZ
   .have o2:Out X W (if z.length<=hZ then Res.ok (PV.str (rj z)) else .bad) B c D _:=o1;rw [if_pos hl] at o2;exact .inr {z,f.top.str,gO hl,o2 _ G2 d (g.trans g2) (.of .s)}
   .have o2:Out X W (if z.length<=hZ then Res.ok (PV.str (rj z)) else .bad) B c D _:=o1;rw [if_neg hl] at o2;exact o2.elim
  |tup xs=>let(l,i,rfl,b,j):=f.top.tup g2.sub;rw [C.K] at b;exact .inl (.inl {l,i,rfl,b,λp m=>dm.tup (W:=W) (G:=G2) (H:=d) (xs:=xs.reverse) (λw q r u y=>o1 w q r ((g.trans g2).trans u) (.of y)) g2.sub (nJ j) m})|lst xs=>let(l,i,rfl,b,j):=f.top.lst g2.sub;exact .inl (.inr {l,i,rfl,mh C.K b,λp m=>dm.lst (W:=W) (G:=G2) (H:=d) (xs:=xs.reverse) (λw q r u y=>o1 w q r ((g.trans g2).trans u) (.of y)) g2.sub (nJ j) m})|_=>exact ek o1
end
end Ci
namespace L2
open PySem.Spec PyProof.Rows PySem.W
end L2
namespace Ci
open L2
section
variable{Γ:Pg}{W:Wd}{F:aW}{sc:j1}{k:Nat}
theorem IQ(C:zv4 X){a b:E}{r w:iO}{c K:Pos}(R:GE X W F a r)(hk:GE X W F b w)(S:attributeBase r "get" X.env (eval r X.env)=eval r X.env)(hl:(c.endLine==K.line)=ig)(hs:starEach [w] X.env=(iv,eval w X.env)::starEach [] X.env):
 GE X W F (.get a b) (.Call (.Attribute r "get" c) [w] [] K):=
 (Ct (by have:=C.room.un;omega) R hk {S,by rw [hs];rfl,hl,by rw [hs];rfl}).imp λy H Q h=>by
  let(H0,G,env,sr,o):=h;rw [aG] at o;refine one sr o λp v G1 H1 g t L o1=>?_
  cases p with
  |bU i z=>
   let(d,us,rfl,n,hd,l):=t.top.bU L.sub;refine{d,rfl,.inl {_,hd},?_};refine one L o1 λq u G2 j g2 t2 T o2=>?_;let(d',B,e,D,I,M):=(t.grow g2).top.bU T.sub
   cases e;cases J:fJ q with
   |none=>have m:Out X W ((Res.of (fJ q)).bind _) y G2 j _:=o2;rw [J] at m;exact ek m|some f=>
    have m:Out X W ((Res.of (fJ q)).bind _) y G2 j _:=o2;rw [J] at m;have U:=et J;subst U;obtain rfl:=t2.top.str;refine{_,.inl {_,ki f,I,rfl,rfl},?_}
    .rw [gL f i B];cases A:cm i z f with
     |some pv=>let(V,Y,Z):=km M A;rw [Y];have s:Out X W (Res.ok ((cm i z f).getD .aE)) y G2 j _:=m;rw [A] at s;exact s V G2 j (g.trans g2) (.of Z)|none=>
      have:cm i B f=ie:=by have O:=g6 f i B D;have P:=g6 f i z (by rw [M.length] at D;exact D);rw [A] at P;rw [<-P] at O;exact Option.isSome_eq_false_iff.mp O |> Option.isNone_iff_eq_none.mp
      rw [this];have s:Out X W (Res.ok ((cm i z f).getD .aE)) y G2 j _:=m;rw [A] at s;exact s .aE G2 j (g.trans g2) (.of .n)
  |_=>exact ek o1
end
theorem pG{W:Wd}:∀{fs:List (Str×PV)} {vs:List V},fs.lookup f=hT q->ag W G (fs.map (·.2)) vs->∃v,((fs.map (·.1)).zip vs).lookup f=hT v/\Rep W G q v
 |[],_,h,_=>by cases h
 |(g,p)::fs,vs,h,l=>by
  let(v,r,rfl,b,c):=ag.aN (p:=p) (ps:=fs.map (·.2)) l;rw [hF] at h;show∃a,List.lookup f ((g,v)::((fs.map (·.1)).zip r))=hT a/\Rep W G q a
  rw [hF];cases e:f==g with
  |true=>rw [e] at h;cases h;exact⟨v,rfl,b⟩
  |false=>rw [e] at h;exact pG h c
section
variable{Γ:Pg}{W:Wd}{F:aW}{sc:j1}{k:Nat}
def IP(C:zv4 X){i:Nat}(h:(N[i]?==hT x&&gU sc x&&okN x)=ig)(s:cg f≠d8):GE X W F (.fld i f) (.Attribute (.Name x np) f pos):=by
 refine(Kv (Be C h) rfl).imp λt H Q u=>?_;let(w,G,env,sr,o):=u
 have o:Out X W ((aG F (.var i) env).bind λp=>F (cg f) [p]) t G H λp=>∀v e c,az W G H e c->Got W w e c (.fld i f) p v->Q v c:=by
  have d:aG F (.var i) env=p6 env[i]?:=by unfold aG;rfl
  rw [d];unfold aG at o;exact o
 refine one sr o λp v y A g1 B D o1=>?_;have E:F (cg f) [p]≠.bad:=λz=>by rw [z] at o1;exact o1
 let(n,ob,q,rfl,g,d,I,J,K,L):=C.fld f p s E;rw [J] at o1;have j:=B.rep rfl;simp! [Rep] at j;let(P,b,rfl):=j;rw [g] at b;cases b;let(_,R,m,l):=D.tab.o n ob g;rw [l6 d] at m;let(r,M,O):=pG I l;exact{ob.a,ob.C,ob.dx,_,r,rfl,m,K,L,M,o1 r y A g1 (.of O)}
def IL(C:zv4 X){a:E}(g:GE X W F a p)(he:c9 a=ig):GE X W F (.con a) p:=by
 refine L2.PE.imp g λi H Q h=>?_;let(j,G,env,sr,o):=h;have o:Out X W ((aG F a env).bind λp=>F d8 [p]) i G H λp=>∀v d c,az W G H d c->Got W j d c (.con a) p v->Q v c:=by unfold aG at o;exact o
 refine one sr o λq v m r g1 s t o1=>?_;have u:F d8 [q]≠.bad:=λz=>by rw [z] at o1;exact o1
 let(n,ob,rfl,e,w,y):=C.con q u;rw [y] at o1;have f:=s.rep he;simp! [Rep] at f;let(A,b,rfl):=f;rw [e] at b;cases b;exact o1 (.ref ob.a) m r g1 {.inr (Eh t.tab.o e w),nofun}
def IM(C:zv4 X):GE X W F .Lx (.Dict [] [] pos):=by
 intro e s c H Q I h;let(f,G,env,sr,o):=h;have o:Out X W (Res.ok (PV.bU [] [])) c G H λp=>∀v d a,az W G H d a->Got W f d a .Lx p v->Q v a:=by unfold aG at o;exact o
 refine wpAny_mono (ny e s c H (λv a=>∃p,v=.ref p/\H p=ie/\a=upd H p (.dK [])) I λp b=>⟨p,rfl,b,rfl⟩) ?_ λZ Z z=>z
 rintro u m ⟨v,a,i,j,p,rfl,b,rfl⟩
 let(ob,J):=i.qD ak;rw [x8] at J;refine{_,_,J,j,?_};have g:az W G H (upd G p (.bL ob (.dK []))) (upd H p (.bL ob (.dK []))):=.new sr.sub b;refine o (.ref p) _ _ g (.of ?_);simp! [Rep];exact{p,ob,[],rfl,rfl,ak,.nil}
set_option backward.match.sparseCases false
def Jo{e:E}(h:GE X W F e p)(he:∀a,isTrue p X.env a=(do let v<-a;standAt p.pos;holding [v] (truthy v))):GT X W F e p:=
 L2.PT.imp (KN h he) λb H Q c=>Hz b H Q c
theorem vf{sc:j1}:∀{a:Es} {ps:List iO},cN Γ N sc a ps=ig->∀env pos,(backTo pos (starEach ps env)).all (λx=>!x.1)=ig
 |.nil,[],_,_,_=>rfl|.cons e a,p::ps,h,env,pos=>by replace h:=ah h;rw [notStar h.1];show(ig&&(backTo pos (starEach ps env)).all (λx=>!x.1))=ig;rw [vf h.2];rfl|.nil,_::_,h,_,_=>aI h|.cons _ _,[],h,_,_=>aI h
theorem vx{sc:j1}:∀{a:Es} {ps:List iO},cN Γ N sc a ps=ig->ps.length=ez a
 |.nil,[],_=>rfl|.cons e a,p::ps,h=>by replace h:=ah h;rw [bE,vx h.2];rfl|.nil,_::_,h=>aI h|.cons _ _,[],h=>aI h
structure Sh(X:Cx)(W:Wd)(F:aW)(e:E)(p:iO):Prop where
 ge:GE X W F e p
 gt:eN e=ig->GT X W F e p
 gw:eN e=ig->∀op vs pos,p=.BoolOp op vs pos->GW X W F e p
def aQ{e:E}(h:GE X W F e p)(he:∀a,isTrue p X.env a=(do let v<-a;standAt p.pos;holding [v] (truthy v)))(b:∀op vs pos,p≠.BoolOp op vs pos):Sh X W F e p:=
 {h,λZ=>Jo h he,λZ op vs pos e=>absurd e (b op vs pos)}
def isTrue_plain{env:Env}(h:(match p with|.UnaryOp .Not _ _=>iv|.BoolOp .. =>iv|.IfExp .. =>iv|.Compare .. =>iv|_=>ig)=ig):∀b,isTrue p env b=(do let v<-b;standAt p.pos;holding [v] (truthy v)):=by
 intro b;cases p with
 |UnaryOp op a pos=>cases op<;>first|rfl|(exact aI h)
 |BoolOp _ _ _=>exact aI h|IfExp _ _ _ _=>exact aI h|Compare _ _ _ _=>exact aI h|_=>rfl
def dM{m:Str}{env:Env}(h:dj po=ig):attributeBase po m env (eval po env)=eval po env:=by
 cases po<;>first|rfl|(exact aI h)
def Ay{m:Str}{env:Env}(h:Hm po=ig):attributeBase po m env (eval po env)=eval po env:=by
 cases po with
 |Call f as b p=>
  cases as with
  |nil=>exact aI h|cons a as=>cases f<;>rfl
 |_=>rfl
def Ie{c:Const}{a:Nat}(h:Mw q c=ig):GE X W F (.cst q) (.Constant c a pos):=by
 cases q with
 |aE=>cases J4 h;exact gH Kx λG=>.n
 |bl b=>let(x,e,h):=af h;cases HU e;cases eq_of_beq h;exact gH NL λG=>.b
 |int i=>let(x,e,h):=af h;cases BF e;cases eq_of_beq h;exact gH Cz λG=>.i
 |str z=>let(x,e,h):=af h;cases Dt e;cases eq_of_beq h;exact gH CC λG=>.s
 |_=>exact aI h
def BU{b:Type}{r:Res b}{c:b->Prop} [∀a,Decidable (c a)]{f:b->Res (List PV)}(e:(r.bind λa=>if c a then(f a).bind λys=>.ok (.lst ys) else .bad)=.ok q):∃ys,q=.lst ys:=by
 let(d,_,e):=Res.aC e;split at e
 .let(ys,_,e):=Res.aC e;cases e;exact{_,rfl}
 .cases e
def wW{b:Nat}{c:List Nat}{d:Tg}{it:I}{a:E}(env:Sl)(q:PV)(e:aG F (.comp b c d it a) env=.ok q):∃ys,q=.lst ys:=by rw [aG] at e;exact BU e
def pz{b:Nat}{d:List Nat}{f:Tg}{it:I}{c a:E}(env:Sl)(q:PV)(e:aG F (.fw b d f it c a) env=.ok q):∃ys,q=.lst ys:=by rw [aG] at e;exact BU e
mutual
theorem aP:∀(e:E) {Γ:Pg} {N:List Str} {sc:j1} {X:Cx} (C:zv4 X) (p:iO),aF Γ N sc e p=ig->Sh X W F e p
 |.var i,Γ,N,sc,X,C,p,h=>by let(x,_,rfl,B):=Nx h;clear h;have h:=B;clear B;exact aQ (Be C h) (λ_=>rfl) nofun|.HC i,Γ,N,sc,X,C,p,h=>by let(x,_,rfl,B):=Nx h;clear h;have h:=B;clear B;exact aQ (IZ C h) (λ_=>rfl) nofun|.cst q,Γ,N,sc,X,C,p,h=>by let(c,_,_,rfl,B):=SD h;clear h;have h:=B;clear B;refine aQ (Ie h) (λ_=>rfl) nofun|.glob g q,Γ,N,sc,X,C,p,h=>by let(x,_,rfl,B):=Nx h;clear h;have h:=B;clear B;exact aQ (EB C h) (λ_=>rfl) nofun|.call f as,Γ,N,sc,X,C,p,h=>by
  let(g,args,_,_,rfl,B):=uN h;clear h;have h:=B;clear B;replace h:=ah h
  try simp! [zza,zzy] at h
  let(((((rfl,d),j),u),H),A):=h;have ga:=fV as C args A
  cases as with
  |nil=>
   cases args with
   |nil=>exact aQ (Bb C d j u) (λ_=>rfl) nofun|cons _ _=>exact aI A
  |cons e es=>
   cases args with
   |nil=>exact aI A|cons q qs=>have L:=ah A;exact aQ (EA C d j u H ga (notStar L.1 _ _) (bY L.2 _ _)) (λ_=>rfl) nofun
 |.blt b as,Γ,N,sc,X,C,p,h=>by
  let(S,h):=pU h;let(g,args,_,_,rfl,B):=uN h;clear h;have h:=B;clear B;replace h:=ah h
  try simp! [zza,zzy] at h
  let((((rfl,d),j),u),A):=h;have ga:=fV as C args A
  cases as with
  |nil=>exact aI u|cons e es=>
   cases args with
   |nil=>exact aI A|cons q qs=>have L:=ah A;exact aQ (IJ C S b d j ga (notStar L.1 _ _) (bY L.2 _ _)) (λ_=>rfl) nofun
 |.ty t a,Γ,N,sc,X,C,p,h=>by
  let(g,args,_,_,rfl,B):=uN h;clear h;have h:=B;clear B;let(I,M,y,j):=zX h;let(tn,_,D,u):=Nx j;dsimp only at y D;subst y D;clear h j;have h:=u;clear u;replace h:=ah h
  try simp! [zza,zzy] at h
  let((((((rfl,d),j),rfl),u),H),A):=h;exact aQ (MD C d j u H (aP a C I A).ge (notStar A)) (λ_=>rfl) nofun
 |.xt c a,Γ,N,sc,X,C,p,h=>by
  let(g,args,_,_,rfl,B):=uN h;clear h;have h:=B;clear B;let(I,M,y,j):=zX h;let(tn,_,D,u):=Nx j;dsimp only at y D;subst y D;clear h j;have h:=u;clear u;replace h:=ah h
  try simp! [zza] at h
  let(((((((P,d),j),O),u),H),A),L):=h;cases zzy.mp P;cases zzy.mp O;exact aQ (IS C d j u H A (aP a C I L).ge (notStar L) C.J9) (λ_=>rfl) nofun
 |.dB m o as,Γ,N,sc,X,C,p,h=>by
  let((f,args,kws,K),e,d):=af h;have z:=fu e;let((po,Z,apos),O,j):=af d;have y:=ft O;have u:=ah j;have D:=jX u.1;dsimp only at z y D;subst z y D;clear h d j;have h:=ah u.2;clear u;simp! [zza] at h;let((((((P,d),j),u),H),A),L):=h;cases zzy.mp P;have ga:=fV as C args A
  cases as with
  |nil=>exact aI d|cons e es=>
   cases args with
   |nil=>exact aI A|cons q qs=>have V:=ah A;have hl:=vx A;refine aQ (IV C (aP o C po H).ge ga (dM L) ?_ u (notStar V.1 _ _) (bY V.2 _ _)) (λ_=>rfl) nofun;rw [vf A];have DW:=zzY j;refine Bool.and_eq_true_iff.mpr {rfl,zzh ?_};rw [hl];exact DW
 |.bin o a b,Γ,N,sc,X,C,p,h=>by let(q,e,d):=af h;let(_,rfl):=HR e;clear h;have h:=ah d;have J:=ah h.1;rw [<-zzY J.1];exact aQ (II C (aP a C _ J.2).ge (aP b C _ h.2).ge) (λ_=>rfl) nofun|.cmp o a b,Γ,N,sc,X,C,p,h=>by let(I,ops,cs,_,rfl,d):=OD h;let(op,y,j):=cW d;let(M,D,u):=cW j;dsimp only at y D;subst y D;clear h d j;have h:=u;clear u;replace h:=ah h;have J:=ah h.1;cases zzY J.1;have d:=J.2;have j:=h.2;exact{IK C (aP a C _ d).ge (aP b C _ j).ge (qQ j _),λ_=>Jm C (aP a C _ d).ge (aP b C _ j).ge (qQ j _),(λ_ _ _ _ z=>nomatch z)}
 |.ch o1 o2 a b c,Γ,N,sc,X,C,p,h=>by
  let(I,ops,cs,_,rfl,d):=OD h;let(op1,op2,y,j):=zX d;let(M,pc,D,u):=zX j;dsimp only at y D;subst y D;clear h d j;have h:=u;clear u;replace h:=ah h
  try simp! [zza,zzN] at h
  let((((rfl,rfl),d),j),u):=h;have hm:lastMarks [lK o1,lK o2] [M,pc]=iv:=qQ u _;exact{MC C (aP a C _ d).ge (aP b C _ j).ge (aP c C _ u).ge hm,λ_=>MF C (aP a C _ d).ge (aP b C _ j).ge (aP c C _ u).ge hm,(λ_ _ _ _ z=>nomatch z)}
 |.not a,Γ,N,sc,X,C,p,h=>by let(o,I,_,rfl,d):=RP h;clear h;have h:=ah d;cases BD h.1;have s:=aP a C I h.2;exact{IW s.ge,λz=>Jn (s.gt (by simpa only [eN] using z)),(λ_ _ _ _ z=>nomatch z)}
 |.fld i f,Γ,N,sc,X,C,p,h=>by let((o,m,ap),P,d):=af h;let(x,O,j):=af d;let(np,z):=dG O;dsimp only at z j;subst z;have e3:=ft P;dsimp only at e3;subst e3;rw [zza,zza,zzy,zzN] at j;let((rfl,u),H):=j;exact aQ (IP C u H) (λ_=>rfl) nofun|.con a,Γ,N,sc,X,C,p,h=>by
  have d:=ah h;exact{IL C (aP a C p d.2).ge (by cases a<;>first|rfl|exact aI d.1),nofun,nofun}
 |.Lx,Γ,N,sc,X,C,p,h=>by let(K,rfl):=xn h;exact aQ (IM C) (λ_=>rfl) nofun|.neg a,Γ,N,sc,X,C,p,h=>by let(o,I,_,rfl,d):=RP h;clear h;have h:=ah d;cases tK h.1;exact aQ (Bc (aP a C I h.2).ge) (λ_=>rfl) nofun
 |.and a b,Γ,N,sc,X,C,p,h=>by
  let(o,vs,K,rfl,d):=Oz h;let((I,M),O,j):=af d;clear h d;have h:=ah j;clear j
  try simp! [zza] at h
  let(((J,he),d),j):=h;cases tJ J;have sa:=aP a C I d;have Q:=aP b C M j
  rcases u5 O with z|⟨q,c,r,z,y⟩
  .dsimp only at z;subst z;have gw:eN (.and a b)=ig->GW X W F (.and a b) (.BoolOp .And [I,M] K):=λz=>by
    have z:=ah z;exact Bq (sa.gt z.1) (pw_and1 (Q.gt z.2))
   exact{Ba he sa.ge (vS Q.ge),λz=>(gw z).pt,λz _ _ _ _=>gw z}
  .dsimp only at z y;subst z y;have gw:eN (.and a b)=ig->GW X W F (.and a b) (.BoolOp .And (I::q::c::r) K):=λz=>by
    have z:=ah z;exact Bq (sa.gt z.1) (Q.gw z.2 _ _ _ rfl)
   exact{Ba he sa.ge Q.ge,λz=>(gw z).pt,λz _ _ _ _=>gw z}
 |.or a b,Γ,N,sc,X,C,p,h=>by
  let(o,vs,K,rfl,d):=Oz h;let((I,M),O,j):=af d;clear h d;have h:=ah j;clear j
  try simp! [zza] at h
  let(((J,he),d),j):=h;cases xr J;have sa:=aP a C I d;have Q:=aP b C M j
  rcases u5 O with z|⟨q,c,r,z,y⟩
  .dsimp only at z;subst z;have gw:eN (.or a b)=ig->GW X W F (.or a b) (.BoolOp .Or [I,M] K):=λz=>by
    have z:=ah z;exact Hb (sa.gt z.1) (pw_or1 (Q.gt z.2))
   exact{Ha he sa.ge (vS Q.ge),λz=>(gw z).pt,λz _ _ _ _=>gw z}
  .dsimp only at z y;subst z y;have gw:eN (.or a b)=ig->GW X W F (.or a b) (.BoolOp .Or (I::q::c::r) K):=λz=>by
    have z:=ah z;exact Hb (sa.gt z.1) (Q.gw z.2 _ _ _ rfl)
   exact{Ha he sa.ge Q.ge,λz=>(gw z).pt,λz _ _ _ _=>gw z}
 |.ite c a b,Γ,N,sc,X,C,p,h=>by
  let(q,e,d):=af h;let(_,rfl):=BA e;clear h;have h:=ah d;clear d
  try simp! [zza] at h
  let(((((J,d),j),u),H),A):=h;exact{IU d j ((aP c C _ u).gt J) (aP a C _ H).ge (aP b C _ A).ge,nofun,(λ_ _ _ _ z=>nomatch z)}
 |.tup as,Γ,N,sc,X,C,p,h=>by let(ps,e,d):=af h;let(_,_,rfl):=mm e;clear h;have h:=ah d;have J:=ah h.1;exact aQ (I0 J.1 (zzY J.2) (fV as C _ h.2)) (λ_=>rfl) nofun|.lst as,Γ,N,sc,X,C,p,h=>by let(ps,e,d):=af h;let(_,rfl):=vy e;clear h;have h:=ah d;have J:=ah h.1;exact aQ ((Bg J.1 (zzY J.2) (fV as C _ h.2)).ge lst_is) (λ_=>rfl) nofun|.sub a b,Γ,N,sc,X,C,p,h=>by let(I,M,_,rfl,B):=N3 h;clear h;have h:=B;clear B;replace h:=ah h;exact aQ (IY C (aP a C _ h.1).ge (aP b C _ h.2).ge (uk h.2)) (λ_=>rfl) nofun|.rev a,Γ,N,sc,X,C,p,h=>by let(I,ps,_,rfl,d):=N3 h;let(pl,ph,pst,_,y,j):=Tw d;let(st,D,u):=af j;let(uo,ue,_,R,H):=RP u;let(cc,_,_,z5,A):=SD H;clear h d j u H;have h:=ah A;clear A;simp! [zza] at h;let((((y1,y2),y3),y4),y5):=h;have w1:=J8 y1;have w2:=J8 y2;have w3:=tK y3;have w4:=BF (eq_of_beq y4);dsimp only at y D R z5 w1 w2 w3 w4;subst y D R z5 w1 w2 w3 w4;exact aQ (IX C (aP a C I y5).ge (Bc (gH Cz λG=>.i))) (λ_=>rfl) nofun|.get a k,Γ,N,sc,X,C,p,h=>by let((f,as,kws,K),e3,u):=af h;have D:=fu e3;let((po,Z,apos),e4,H):=af u;have R:=ft e4;let(pk,z5,A):=cW H;have g:=ah A;simp! [zza] at g;let(((((n1,P),L),V),h8),B):=g;have z6:=jX n1;cases zzy.mp P;dsimp only at D R z5 z6;subst D R z5 z6;exact aQ (IQ C (aP a C po h8).ge (aP k C pk B).ge (Ay V) L (notStar B _ _)) (λ_=>rfl) nofun
 |.BS a,Γ,N,sc,X,C,p,h=>by let(S,h):=pU h;let(g,args,_,_,rfl,B):=uN h;clear h;have h:=B;clear B;let(z,y,j):=cW h;let(g2,a2,_,_,D,u):=uN j;let(I,R,H):=cW u;dsimp only at y D R;subst y D R;clear h j u;have h:=ah H;clear H;simp! [zza] at h;let((((((P,d),j),O),u),H),A):=h;cases zzy.mp P;cases zzy.mp O;exact aQ (EC C S d j u H (aP a C I A).ge (notStar A _ _)) (λ_=>rfl) nofun
 |.slice a lo hi,Γ,N,sc,X,C,p,h=>by let(I,ps,_,rfl,d):=N3 h;let(pl,ph,pst,_,y,j):=Tw d;clear h d;have h:=ah j;simp! [zza] at h;have w:=J8 h.1.1.1;dsimp only at y w;subst y w;exact aQ (Bd C (aP a C _ h.1.1.2).ge (N0 lo C pl h.1.2) (N0 hi C ph h.2)) (λ_=>rfl) nofun|.comp kk aM tg it elt,Γ,N,sc,X,C,p,h=>by let(S,h):=pU h;let(bQ,gens,T,_,rfl,d):=JS h;let((aO,cO,ifs,asy),y,j):=cW d;have u:=ah j;have D:=jX u.1;dsimp only at y D;subst y D;clear h d j;have h:=ah u.2;clear u;simp! [zza] at h;let((((((d,j),u),H),A),L),U):=h;have U:=zzY U;subst U;exact aQ ((w9 C S (dN d) j u (uz it C aO cO H) (ei H _) A λY CY=>(aP elt CY bQ L).ge).ge wW) (λ_=>rfl) nofun|.fw kk aM tg it c elt,Γ,N,sc,X,C,p,h=>by let(S,h):=pU h;let(bQ,gens,T,_,rfl,d):=JS h;let((aO,cO,ifs,asy),y,j):=cW d;let(pc,D,u):=cW j;dsimp only at y D;subst y D;clear h d j;have h:=ah u;clear u;simp! [zza] at h;let((((((((J,d),j),u),H),A),L),V),U):=h;have U:=zzY U;subst U;exact aQ ((pI C S (dN d) j u (uz it C aO cO H) (ei H _) A (λY CY=>(aP c CY pc L).gt J) λY CY=>(aP elt CY bQ V).ge).ge pz) (λ_=>rfl) nofun
theorem fV:∀(a:Es) {Γ:Pg} {N:List Str} {sc:j1} {X:Cx} (C:zv4 X) (ps:List iO),cN Γ N sc a ps=ig->GA X W F a ps
 |.nil,Γ,N,sc,X,C,ps,h=>by
  cases ps with
  |nil=>exact IH|cons _ _=>exact aI h
 |.cons e a,Γ,N,sc,X,C,ps,h=>by
  cases ps with
  |nil=>exact aI h|cons p ps=>replace h:=ah h;exact Ey (aP e C p h.1).ge (fV a C ps h.2) (notStar h.1 _ _)
theorem N0:∀(o:Oe) {Γ:Pg} {N:List Str} {sc:j1} {X:Cx} (C:zv4 X) (p:Option iO),H9 Γ N sc o p=ig->PO X p (DA X W F o)
 |.no,Γ,N,sc,X,C,p,h=>by
  cases p with
  |none=>exact EG|some _=>exact aI h
 |.some e,Γ,N,sc,X,C,p,h=>by
  cases p with
  |none=>exact aI h|some p=>exact EH (aP e C p h).ge
theorem uz:∀(it:I) {Γ:Pg} {N:List Str} {sc:j1} {X:Cx} (C:zv4 X) (i p:iO),mD Γ N sc i it p=ig->GI X W F i it p
 |.seq e,Γ,N,sc,X,C,i,p,h=>by exact Jb C (aP e C p h).ge|.xS e,Γ,N,sc,X,C,i,p,h=>by let(g,args,_,_,rfl,d):=uN h;clear h;have h:=d;clear d;let(q,j,c):=cW h;dsimp only at j;subst j;clear h;have h:=ah c;clear c;simp! [zza] at h;let(((m,o),c),f):=h;cases zzy.mp m;exact Ja C o c (notStar f) (aP e C q f).ge
 |.zM a b,Γ,N,sc,X,C,i,p,h=>by let(g,args,_,_,rfl,d):=uN h;clear h;have h:=d;clear d;let(q,r,j,c):=zX h;dsimp only at j;subst j;clear h;have h:=ah c;clear c;simp! [zza] at h;let((((m,o),c),f),s):=h;cases zzy.mp m;exact EF C o c (notStar f) (notStar s) (aP a C q f).ge (aP b C r s).ge
 |.enum e,Γ,N,sc,X,C,i,p,h=>by
  let(g,args,_,_,rfl,d):=uN h;clear h;have h:=d;clear d;let(q,j,c):=cW h;dsimp only at j;subst j;clear h;have h:=ah c;clear c;simp! [zza] at h;let((((t,m),o),c),f):=h;cases zzy.mp m;cases i<;>first|(exact aI t)|skip
  exact EE C o c (notStar f) (aP e C q f).ge
 |.zip as,Γ,N,sc,X,C,i,p,h=>by
  let(g,args,_,_,rfl,d):=uN h;clear h;replace h:=ah d;clear d;simp! [zza] at h;let((((((t,m),o),c),f),s),u):=h;cases zzy.mp m;cases i<;>first|(exact aI t)|skip
  rw [e6,zzy,zzy] at s;cases as with
  |nil=>exact absurd s (by show¬(0=2\/0=3);omega)|cons a as=>
   cases args with
   |nil=>exact aI u|cons q qs=>have w:=ah (show(aF Γ N sc a q&&cN Γ N sc as qs)=ig from u);exact Jc C o c f s (fV (.cons a as) C (q::qs) u) (notStar w.1 _ _) (bY w.2 _ _)
end
set_option backward.match.sparseCases true
end
end Ci
namespace L2
open PySem.Spec PyProof.Rows
section
variable{scope:j1}{xs ys:List Str}{is:List Nat}
theorem nD{c:Nat}{a:Str}{d B:Pos}{f t iter:iO}{E:TI}{g:TG}(j:X.N.Nodup)(k:X.N[c]?=hT a)(p:Loc X.env.scope a)(L:X.calm=ig)(S:eE X scope xs ys is)(M:PI X t iter E)
 (O:∀fp s1 H1 C,PG (bg X (xs++ys) scope (bt X.env ys) fp s1 H1 C) t g) (he:∀fp s1 H1 C,PE (bg X (xs++ys) scope (bt X.env ys) fp s1 H1 C) f te)
 (P:swapsWith (.ListComp f [{t,iter,[],0}] scope pos) (hT (.Name a d)) B.line X.env=pure ig:=by rfl)
 (hs:∀x,foldedSetIterable iter X.env x=pure x:=by intro _;rfl) (r:X.fn a=ig\/X.env.scope.names.lookup a=hT .local:=by first|exact .inl rfl|exact .inr rfl|assumption):
 PS X (.Assign [.Name a d] (.ListComp f [{t,iter,[],0}] scope pos) B) (Gw (uF E xs.length g te is) (dR c)):=by
 intro R s T H i I h;rw [exec_Assign_Name_used _ _ _ _ P];refine ar (wpAny_standAt (ar ?_));show i1 _ X.A (do let _<-comprehension (.ListComp f [⟨t,iter,[],0⟩] scope pos) scope X.env _ (newList []) iv (eval iter X.env) (hT (assign (.Name a d) X.env))) _ _ s;refine ar (wpAny_mono (gY (QQ:=λ_ F=>∃u G,Inv X R u G F/\i.nx u G) (Q:=λv J=>dR c v T J i.nx) L S M O (λ_ _ _ _=>xM) he hs I h λD C s4 J m U V ⟨W,g1,_,g3,K,Y⟩ q=>?_) (λ_ F Z=>bp (bp Z)) λ_ _ e=>e)
 refine wpAny_assign_Name (kQ U j k p (show RelV (.ref D) (.ref D) from rfl) (λs6 I6 ⟨a6,w,y⟩=>?_) r);have B4:C≠a6:=by
  rcases y with z|z
  .rw [z];exact g1
  .exact λz2=>K _ _ z z2.symm
 exact{m,V.sameBut w B4,λh' yS=>{_,_,I6.turned (t':=s6.toks) (it:=C) (λb o hb e=>yS.extBut b o hb e) W g1 g3 K Y,q}}
end
end L2
namespace Ci
open L2
section
variable{W:Wd}{G0:Hp}
def Own.HB{p:PV}(h:Own W H0 G H p v):∃a o,v=.ref a/\H a=hT o/\G a=ie/\H0 a=ie/\((∀b,aw G b->b a=hT o->Rep W b p (.ref a))\/∃g,o=.dK g/\∀ob b,aw G b->b a=hT (.bL ob (.dK g))->Rep W b p (.ref a)):=by
 cases p with
 |lst xs=>let(a,k,rfl,c,d,f,l):=h;exact{a,_,rfl,c,d,f,.inl λb s e=>.l (.inl (.inl e)) (ag.same s xs l)}|bU m i=>let(a,j,rfl,n,c,d,f,l):=h;exact{a,_,rfl,c,d,f,.inr {_,rfl,λob b s e=>by simp! [Rep];exact{a,ob,j,rfl,n,e,ag.same s i l}}}|aE=>exact h.elim|bl _=>exact h.elim|int _=>exact h.elim|str _=>exact h.elim|tup _=>exact h.elim|exc _=>exact h.elim|obj _=>exact h.elim
theorem Own.Cb{p:PV}(h:Own W H0 G H p (.ref a))(ps:Array ix):H a≠hT (.fj ps):=λz=>by
 cases p with
 |lst xs=>let(b,d,e,c,_):=h;cases e;rw [z] at c;cases c
 |bU f qs=>let(b,g,e,_,c,_):=h;cases e;rw [z] at c;cases c
 |_=>exact h.elim
theorem Im(t:ba W G H0)(h:H0 a=ie)(n:Nat)(o:Ob)(e:W.ob[n]?=hT o):o.a≠a:=λz=>by let(_,c,b,_):=t.o n o e;rw [z,h] at b;cases b
theorem uH{ob:HO}{d:Hp}(t:jb W G H)(g:G a=ie)(n:∀ps,H a≠hT (.fj ps))(h:∀b,b≠a->d b=H b):jb W (upd G a ob) d:=λP q m=>by
 let(i,ps,e,j,k):=t P q m;have f:P≠a:=λz=>by subst z;exact n _ e
 refine{by rw [ae f];exact i,ps,by rw [h P f];exact e,j,λc o y=>?_};let(p,oc,r,s,u,w,A,B):=k c o y;exact{p,oc,r,s,u,aS g _ _ w,A,B}
theorem xZ{ob:HO}{c:Hp}(t:ba W G H)(d:G a=ie)(n:∀ps,H a≠hT (.fj ps))(nf:∀(n:Nat) (o:Ob),W.ob[n]?=hT o->o.a≠a)(f:∀b,b≠a->c b=H b):ba W (upd G a ob) c:={uH t.t d n f,λi o m=>by let(h,j,e,l):=t.o i o m;have g:o.a≠a:=nf i o m;exact{by rw [ae g];exact h,j,by rw [f _ g];exact e,ag.same (aS d) _ l}}
def Own.ef{p:PV}{d i:Hp}(h:Own W H0 G H p v)(j:v≠.ref a)(k:aw G d)(m:∀b,b≠a->d b=G b)(o:∀b,b≠a->i b=H b):Own W H0 d i p v:=by
 cases p with
 |lst xs=>let(b,q,rfl,e,f,g,l):=h;have c:b≠a:=λz=>j (by rw [z]);exact{b,q,rfl,by rw [o b c];exact e,by rw [m b c];exact f,g,ag.same k xs l}|bU t r=>let(b,s,rfl,n,e,f,g,l):=h;have c:b≠a:=λz=>j (by rw [z]);exact{b,s,rfl,n,by rw [o b c];exact e,by rw [m b c];exact f,g,ag.same k r l}|aE=>exact h.elim|bl _=>exact h.elim|int _=>exact h.elim|str _=>exact h.elim|tup _=>exact h.elim|exc _=>exact h.elim|obj _=>exact h.elim
def getElem?_modify{a:Type}(l:List a)(i j:Nat)(f:a->a):(l.modify i f)[j]?=if i=j then(l[j]?).map f else l[j]?:=by rw [List.getElem?_modify];split<;>simp_all
def sY(r:SR W H0 env σ G H)(g:az W G0 H0 G H){i:Nat}{p:PV}{a:iN}{ob f:HO}{m:Hp}(C:env[i]?=hT (.own p))(F:σ[i]?=hT (hT (.ref a)))(I:Own W H0 G H p (.ref a))(Z:H a=hT ob)(y:G a=ie)(o:H0 a=ie)
 (N:∀D,aw G D->D a=hT f->Rep W D p (.ref a)) (O:m a=hT f) (w:∀b,b≠a->m b=H b):SR W H0 (env.modify i qE) σ (upd G a f) m/\az W G0 H0 (upd G a f) m:=by
 have A:aw G (upd G a f):=aS y
 have sub:aw (upd G a f) m:=λb u e=>by
  by_cases d:b=a
  .subst d;rw [ak] at e;cases e;exact O
  .rw [ae d] at e;rw [w b d];exact r.sub _ _ e
 have base:∀{B:Hp},B a=ie->gj B H->gj B m:=λP k b u e=>by
  have d:b≠a:=λz=>by rw [z,P] at e;cases e
  rw [w b d];exact k b u e
 refine{{by rw [List.length_modify];exact r.len,sub,base o r.base,λj s e=>?_,λj l q Q c J K R S=>?_,xZ r.tab y I.Cb (Im r.ib o) w,xZ r.ib y (λ_ z=>by rw [o] at z;cases z) (Im r.ib o) λ_ _=>rfl},{g.g.trans A,base o g.h,sub,λb L T U=>?_,λt=>uH (g.tb t) y I.Cb w}}
 .rw [getElem?_modify] at e;split at e
  .rename_i z;subst z;rw [C] at e;cases e;exact{_,F,_,rfl,N _ A ak}
  .rename_i z;let(o2,M,k2):=r.slot j s e
   refine{o2,M,?_};cases s with
   |no=>exact trivial|val q=>let(E,rfl,V):=k2;exact{E,rfl,Rep.same A q V}|own q=>let(E,rfl,X):=k2;refine{E,rfl,X.ef (a:=a) (λY=>?_) A (λb d=>ae d) w};subst Y;exact z (r.apart i j p q a C e F M)
 .rw [getElem?_modify] at J K;have ne:∀{j:Nat} {q:PV},(if i=j then(env[j]?).map qE else env[j]?)=hT (.own q)->i≠j/\env[j]?=hT (.own q):=λ{j q} e=>by
   split at e
   .rename_i z;subst z;rw [C] at e;cases e
   .rename_i z;exact⟨z,e⟩
  exact r.apart j l q Q c (ne J).2 (ne K).2 R S
 .have d:b≠a:=λz=>L (by rw [z];exact o);rw [ae d];exact g.own b L T U
def Iv(r:SR W H0 env σ G H)(g:az W G0 H0 G H)(i:Nat):(∃c,SR W H0 (env.modify i qE) σ c H/\az W G0 H0 c H)\/∃a d,H a=hT (.dK d)/\∀o,∃c,SR W H0 (env.modify i qE) σ c (upd H a (.bL o (.dK d)))/\az W G0 H0 c (upd H a (.bL o (.dK d))):=by
 have same:(∀p,env[i]?≠hT (.own p))->env.modify i qE=env:=λh=>by
  refine List.ext_getElem? λj=>?_;rw [getElem?_modify];split
  .rename_i e;subst e;cases q:env[i]? with
   |none=>rfl|some s=>
    cases s with
    |own p=>exact absurd q (h p)|no=>rfl|val p=>rfl
  .rfl
 by_cases u:∃p,env[i]?=hT (.own p)
 .let(p,k):=u;let(o,w,v,rfl,y):=r.slot i _ k;have A:=y;obtain⟨a,ob,rfl,f,B,C,m|⟨d,rfl,m⟩⟩:=y.HB
  .let(t,k2):=sY r g k w A f B C m f λZ Z=>rfl;exact .inl {_,t,k2}
  .refine .inr {a,d,f,λo=>?_};let(t,k2):=sY r g k w A f B C (m o) ak λb D=>ae D;exact{_,t,k2}
 .exact .inl {G,by rw [same λp z=>u ⟨p,z⟩];exact r,g}
def vF(r:SR W H0 env σ G H)(g:az W G0 H0 G H){i:Nat}{p p':PV}{a:iN}{ob:HO}(k:env[i]?=hT (.own p))(hs:σ[i]?=hT (hT (.ref a)))(C:G a=ie)(w:H0 a=ie)(hn:Own W H0 G (upd H a ob) p' (.ref a)):
 SR W H0 (env.set i (.own p')) σ G (upd H a ob)/\az W G0 H0 G (upd H a ob):=by
 have K:i<env.length:=(br.mp k).1;have Y:Own W H0 G H p (.ref a):=by let(o2,d,y,rfl,A):=r.slot i _ k;rw [hs] at d;cases d;exact A
 have L:∀B,H a≠hT (.fj B):=by let(o2,d,y,rfl,A):=r.slot i _ k;rw [hs] at d;cases d;exact A.Cb
 have D:∀{E:Hp},jb W E H->jb W E (upd H a ob):=λt=>t.same (aw.refl _) (λ_ _ _ h=>h) λP B e=>by rw [ae (λz=>by subst z;exact L B e)];exact e
 have tab:ba W G H->ba W G (upd H a ob):=λt=>{D t.t,λn o m=>by let(M,N,e,l):=t.o n o m;exact{M,N,by rw [ae (Im r.ib w n o m)];exact e,l}};refine{{by rw [List.length_set];exact r.len,λb u e=>?_,λb u e=>?_,λj s e=>?_,λj l q Z c O Q R S=>?_,tab r.tab,r.ib},{g.g,λb u e=>?_,λb u e=>?_,g.own,λt=>D (g.tb t)}}
 .rw [ae (λz=>by subst z;rw [C] at e;cases e)];exact r.sub _ _ e
 .rw [ae (λz=>by subst z;rw [w] at e;cases e)];exact r.base _ _ e
 .by_cases f:i=j
  .subst f;rw [ew K] at e;cases e;exact{_,hs,_,rfl,hn}
  .rw [cK f] at e;let(o2,d,F):=r.slot j s e
   refine{o2,d,?_};cases s with
   |no=>exact trivial|val q=>exact F|own q=>let(y,rfl,T):=F;refine{y,rfl,T.ef (a:=a) (λU=>?_) (aw.refl _) (λb I=>rfl) λb I=>ae I};subst U;exact f (r.apart i j p q a k e hs d)
 .have J:∀{j:Nat} {q:PV},(env.set i (.own p'))[j]?=hT (.own q)->∃q2,env[j]?=hT (.own q2):=λ{j q} e=>by
   by_cases f:i=j
   .subst f;exact⟨p,k⟩
   .rw [cK f] at e;exact⟨q,e⟩
  let(q2,V):=J O;let(q3,X):=J Q;exact r.apart j l q2 q3 c V X R S
 .rw [ae (λz=>by subst z;rw [w] at e;cases e)];exact g.h _ _ e
 .rw [ae (λz=>by subst z;rw [C] at e;cases e)];exact g.sub _ _ e
def vQ(r:SR W H0 env σ G H)(g:az W G0 H0 G H){i:Nat}{p:PV}{ob:HO}(t:i<env.length)(w:H a=ie)(hn:Own W H0 G (upd H a ob) p (.ref a)):
 SR W H0 (env.set i (.own p)) (σ.set i (hT (.ref a))) G (upd H a ob)/\az W G0 H0 G (upd H a ob):=by
 have y:az W G H G (upd H a ob):=.QP r.sub w;have m:=r.grow y;have o:∀{j:Nat} {q:PV},env[j]?=hT (.own q)->σ[j]?=hT (hT (.ref a))->False:=λ{j q} f h=>by let(o2,u,D,rfl,A):=r.slot j _ f;rw [h] at u;cases u;let(E,F,b,z,_):=A.HB;cases b;rw [w] at z;cases z
 refine{{by rw [List.length_set,List.length_set];exact r.len,m.sub,m.base,λj s e=>?_,λj l q B c f h b k=>?_,m.tab,m.ib},g.trans y}
 .by_cases d:i=j
  .subst d;rw [ew t] at e;cases e;exact{_,ew (by rw [<-r.len];exact t),_,rfl,hn}
  .rw [cK d] at e;let(o2,u,C):=m.slot j s e;exact{o2,by rw [cK d];exact u,C}
 .by_cases d:i=j
  .by_cases hl:i=l
   .exact d.symm.trans hl
   .exfalso;subst d;rw [ew (by rw [<-r.len];exact t)] at b;rw [cK hl] at h k;cases b;exact o h k
  .by_cases hl:i=l
   .exfalso;subst hl;rw [ew (by rw [<-r.len];exact t)] at k;rw [cK d] at f b;cases k;exact o f b
   .rw [cK d] at f b;rw [cK hl] at h k;exact r.apart j l q B c f h b k
end
abbrev jV:E->Bool
 |.lst _=>ig|.comp _ _ _ _ _=>ig|.fw _ _ _ _ _ _=>ig|_=>iv
abbrev cF:iO->Bool
 |.ListComp .. =>iv|.SetComp .. =>iv|.DictComp .. =>iv|_=>ig
abbrev Ny:iO->Bool
 |.Tuple a _ _=>decide (3<a.length)|_=>ig
abbrev Nu(sc:j1):iO->Bool
 |.Name x _=>sc.names.lookup x==hT .local|_=>iv
abbrev GJ(sc:j1)(t p:iO):Bool:=Ny p||(zU t).any λts=>ts.any λe=>!Nu sc e
abbrev OU(sc:j1)(x:Str)(a:Pos):iO->Bool
 |.ListComp _ _ s p=>sc.names.lookup x==hT .local&&a.line==p.line&&!(s.names.any λ(n,k)=>n==x&&(k==.local||k==.cell))
 |_=>iv
abbrev LS(ts:List iO):Option Str:=(cM ts).bind iW
abbrev QO(e:iO):Option (Str×Str×List iO):=(z9 e).bind λq=>(DU q.1).bind λr=>(iW r.1).bind λx=>if(q.2.2.1.isEmpty&&r.2.2.endLine==q.2.2.2.line)=ig then hT (x,r.2.1,q.2.1) else ie
abbrev Tv(ts:List iO):Option (Str×iO):=(cM ts).bind λt=>(Hx t).bind λq=>(iW q.1).bind λx=>hT (x,q.2)
abbrev Tt(o:Option iO):Option (Str×Str):=o.bind λe=>(z9 e).bind λq=>(iW q.1).bind λx=>(cM q.2.1).bind λa=>(Mu a).bind λc=>(oj c).bind λz=>if q.2.2.1.isEmpty=ig then hT (x,z) else ie
def nk{ts:List iO}(h:LS ts=hT x):∃a,ts=[.Name x a]:=by let(t,b,c):=u4 h;let(p,rfl):=dG c;exact{p,fM b}
def BY{m:Str}{args:List iO}(h:QO p=hT (x,m,args)):∃np b d,p=.Call (.Attribute (.Name x np) m b) args [] d/\(b.endLine==d.line)=ig:=by let((f,a,k,s),j,h):=u4 h;let((o,t,ap),q,h):=u4 h;let(y,r,h):=u4 h;let(c,h):=if1 h;cases h;rw [zza] at c;let(u,e):=dG r;have g:=ft q;have i:=List.isEmpty_iff.1 c.1;dsimp only at g e i;subst e g i;exact{_,_,_,fu j,c.2}
def K1{ts:List iO}{c:iO}(h:Tv ts=hT (x,c)):∃np sp,ts=[.Subscript (.Name x np) c sp]:=by let(t,e,h):=u4 h;let((a,b),f,h):=u4 h;let(y,g,h):=u4 h;cases h;let(j,d):=dG g;let(p2,i):=Dv f;dsimp only at d;subst d i;exact{_,_,fM e}
def KZ{o:Option iO}{z:Str}(h:Tt o=hT (x,z)):∃np j m b,o=hT (.Call (.Name x np) [.Constant (.str z) j m] [] b):=by let(e,p,h):=u4 h;let((f,a,k,b),q,h):=u4 h;let(y,r,h):=u4 h;let(t,s,h):=u4 h;let(c,u,h):=u4 h;let(w,A,h):=u4 h;let(B,h):=if1 h;cases h;let(p2,d):=dG r;let(E,F,C):=AL u;have g:=fM s;have D:=Dt A;have i:=List.isEmpty_iff.1 B;dsimp only at d g i;subst d D C g i;exact{_,_,_,_,p.trans (congrArg hT (fu q))}
abbrev FR:List iO->Option (Str×Pos×Str×Pos)
 |[.Tuple [.Name x a,.Name y py] _ _]=>hT (x,a,y,py)|_=>ie
def xH{ts:List iO}{q:Str×Pos×Str×Pos}(h:FR ts=hT q):∃a pt,ts=[.Tuple [.Name q.1 q.2.1,.Name q.2.2.1 q.2.2.2] a pt]:=by
 unfold FR at h;split at h
 .cases h;exact{_,_,rfl}
 .cases h
abbrev isStar:iO->Bool
 |.Starred .. =>ig|_=>iv
abbrev Cq(a b:iO):Bool:=!isStar a&&!isStar b&&!(foldedForSure 8 a&&foldedForSure 8 b)&&!(constantsAlone 8 a&&constantsAlone 8 b)
mutual
noncomputable def d7(Γ:Pg)(N:List Str)(sc:j1):S->j7->Bool
 |.expr e,.Expr p _=>cF p&&aF Γ N sc e p|.set i e,.Assign ts p _=>(LS ts).any λx=>N[i]?==hT x&&eP sc x&&c9 e&&aF Γ N sc e p|.own i e,.Assign ts p _=>(LS ts).any λx=>N[i]?==hT x&&eP sc x&&jV e&&aF Γ N sc e p|.Al f e,.Assign ts p _=>(cM ts).any λd=>isTup d&&cx N sc (λZ=>ig) f d&&cF p&&GJ sc d p&&c9 e&&aF Γ N sc e p|.app i e,.Expr v _=>(QO v).any λc=>N[i]?==hT c.1&&gU sc c.1&&okN c.1&&c.2.1==("append":Str)&&c9 e&&(cM c.2.2).any λp=>aF Γ N sc e p|.ve i e,.Expr v _=>(QO v).any λc=>N[i]?==hT c.1&&gU sc c.1&&okN c.1&&c.2.1==("extend":Str)&&(cM c.2.2).any λp=>aF Γ N sc e p|.put i k e,.Assign ts p _=>(Tv ts).any λc=>N[i]?==hT c.1&&gU sc c.1&&okN c.1&&c9 e&&aF Γ N sc k c.2&&aF Γ N sc e p|.ret e,.Return (hT p) _=>c9 e&&aF Γ N sc e p|.ite c a b,.If p o g _=>eN c&&aF Γ N sc c p&&du Γ N sc a o&&du Γ N sc b g|.gG f it b,.For d s g h _=>h.isEmpty&&cx N sc (λZ=>ig) f d&&oz it&&mD Γ N sc d it s&&du Γ N sc b g|.raise c m,.Raise ex fr _=>fr.isNone&&(Tt ex).any λq=>c==q.1&&m==q.2&&Γ.rs.contains c&&ed sc c&&okN c|.par i j as,.Assign ts (.Tuple [a,b] _ _) _=>(FR ts).any λq=>N[i]?==hT q.1&&N[j]?==hT q.2.2.1&&decide (i≠j)&&q.1 !=q.2.2.1&&q.2.2.2.line==q.2.1.line&&sc.names.lookup q.1==hT .local&&sc.names.lookup q.2.2.1==hT .local&&Cq a b&&fZ as&&cN Γ N sc as [a,b]|.vP i e,.Assign ts v _=>(LS ts).any λx=>(rP v).any λq=>(cM q.2).any λr=>q.1==("dict":Str)&&ed sc q.1&&Γ.bs.contains q.1&&N[i]?==hT x&&eP sc x&&aF Γ N sc e r|.kF i,.Assign ts (.Dict [] [] _) _=>(LS ts).any λx=>N[i]?==hT x&&eP sc x|_,_=>iv
noncomputable def du(Γ:Pg)(N:List Str)(sc:j1):Ss->List j7->Bool
 |.nil,[]=>ig|.cons (.bL _) ss,ps=>du Γ N sc ss ps|.cons s ss,p::ps=>d7 Γ N sc s p&&du Γ N sc ss ps|_,_=>iv
end
section
variable{Γ:Pg}{W:Wd}{F:aW}{sc:j1}{k:Nat}{E:XK}
def SR.go{a:St}(r:SR W H0 env a G H):az W G H0 G H:={aw.refl _,r.base,r.sub,λZ Z Z h=>h,λZ=>r.tab.t}
def az.then{c G2 d:Hp}(a:az W G H0 c H1)(b:az W c H0 G2 d):az W G H0 G2 d:={a.g.trans b.g,b.h,b.sub,λx e f i=>b.own x e f (a.own x e f i),λt=>b.tb (t.same a.g a.own λZ Z h=>h)}
def SR.on{c:St}{a:Hp}(r:SR W H0 env c G H)(g:az W G H a H1):az W G H0 a H1:={g.g,r.base.trans g.h,g.sub,λx b d e=>g.own x (λz=>b (r.base.free z)) (r.base.iq b d) e,λZ=>g.tb r.tab.t}
def Dn(W:Wd)(H0 G:Hp)(D:Ends):Fl->Prop
 |.nx env=>∀c b a,SR W H0 env c b a->az W G H0 b a->D.nx c a|.bk env=>∀c b a,SR W H0 env c b a->az W G H0 b a->D.bk c a|.ct env=>∀c b a,SR W H0 env c b a->az W G H0 b a->D.ct c a|.rt p=>∀v b a,Rep W b p v->az W G H0 b a->D.rt v a
def cf(W:Wd)(H0 G:Hp)(E:XK)(r:Res Fl)(D:Ends):Prop:=match r with
 |.ok f=>Dn W H0 G D f|.exc c=>∀a b d,XE W c G H0 a b d->E a b d|.bad=>False
def Dn.on{e:Hp}{f:Fl}(h:Dn W H0 G D f)(g:az W G H0 e H1):Dn W H0 e D f:=by
 cases f with
 |nx env=>exact λd a b r c=>h d a b r (g.then c)|bk env=>exact λd a b r c=>h d a b r (g.then c)|ct env=>exact λd a b r c=>h d a b r (g.then c)|rt p=>exact λv a b r c=>h v a b r (g.then c)
def cf.on{b:Hp}{r:Res Fl}(h:cf W H0 G E r D)(g:az W G H0 b H1):cf W H0 b E r D:=by
 cases r with
 |ok f=>exact Dn.on h g|exc c=>intro d e i x;let(C,a,j,m,o,p,q,g2):=x;exact h d e i {C,a,j,m,o,p,q,g.then g2}|bad=>exact h
abbrev tS(W:Wd)(F:aW)(H0:Hp)(E:XK)(s:S):TS:=λD a H=>∃G env,SR W H0 env a G H/\cf W H0 G E (mR F s env) D
abbrev TQ(W:Wd)(F:aW)(H0:Hp)(E:XK)(a:Ss):TS:=λD b H=>∃G env,SR W H0 env b G H/\cf W H0 G E (f6 F a env) D
noncomputable abbrev GS(X:Cx)(W:Wd)(F:aW)(H0:Hp)(E:XK)(s:S)(p:j7):Prop:=PS X p (tS W F H0 E s)
noncomputable abbrev DR(X:Cx)(W:Wd)(F:aW)(H0:Hp)(E:XK)(s:Ss)(p:List j7):Prop:=oV X p (TQ W F H0 E s)
def _root_.L2.PS.imp{p:j7}{t t':TS}(h:PS X p t)(i:∀D a H,t' D a H->t D a H):PS X p t':=λb s a H D I c=>h b s a H D I (i D a H c)
def _root_.L2.oV.imp{p:List j7}{t t':TS}(h:oV X p t)(i:∀D a H,t' D a H->t D a H):oV X p t':=λb s a H D I c=>h b s a H D I (i D a H c)
structure dE(Γ:Pg)(F:aW)(W:Wd)(N:List Str)(sc:j1)(k:Nat)(E:XK)(X:Cx):Prop where
 C:zv4 X
 fn:∀x,X.fn x=ig
 own:PassesOwn (jj X.prog X.w) X.A X.env X.xe
 pass:Passes (cR X.prog X.w) X E
 kind:sc.kind=.function
 Ld:X.stack=X.env::X.outer
 frame:X.env.frame=hT X.env.locals
 xs:∀c,Γ.rs.contains c=ig->c∈W.xs
 rm:∀c,Γ.rs.contains c=ig->∃C,X.mg c=hT (.ref C)
 rz:Γ.qt=iv->∀(c z:Str) (j:Nat) (np zp cp pos:Pos),Γ.rs.contains c=ig->ed sc c=ig->okN c=ig->PS X (.Raise (hT (.Call (.Name c np) [.Constant (.str z) j zp] [] cp)) ie pos) (λ_ _ H=>∀C e,X.mg c=hT (.ref C)->H e=ie->E (.ref C) (hT e) H)
 LA:Γ.cs.contains (zu 7)=ig->∀c D,c∈W.xs->X.mg c=hT (.ref D)->∀T,X.mg (zu 7)=hT (.ref T)->PySem.W.exmOne X.K (.ref D) (.ref T)=hT ig
theorem F6(S:zv2 X){j:St}{m:Hp}(g:az W m H0 G H)(h:∀d o f,XE W c m H0 d o f->E d o f):se X W j c G H:=λq M r s e u I g1 x=>S.pass q j r s e u I (D9.imp x λd a f y=>h d a f (by let(C,w,A,B,D,J,K,g2):=y;have b:=g1.trans g2;exact{C,w,A,B,D,J,K,g.g.trans b.g,g.h.trans b.h,b.sub,λx i p L=>b.own x (λz=>i (g.h.free z)) (g.h.iq i p) (g.own x i p L),λt=>b.tb (g.tb t)}))
def cf.bind{b:Type}(S:zv2 X){r:Res b}{f:b->Res Fl}{d:St}(sr:SR W H0 env d G H)(h:cf W H0 G E (r.bind f) D):Out X W r d G H λa=>cf W H0 G E (f a) D:=by
 cases r with
 |ok a=>exact h|exc c=>exact F6 S sr.go h|bad=>exact h
def oG(S:zv2 X){b:St}{e:Ci.E}{f:PV->Res Fl}(sr:SR W H0 env b G H)(o:cf W H0 G E ((aG F e env).bind f) D)
 (h:∀p v a H1,az W G H a H1->Got W H0 a H1 e p v->SR W H0 env b a H1->cf W H0 a E (f p) D->Q v H1):tE X W F e b H Q:=
 {H0,G,env,sr,(o.bind S sr).imp λp c v a H1 g1 t=>h p v a H1 g1 t (sr.grow g1) (c.on (sr.on g1))}
def NB(S:zv2 X){d:St}{e:Ci.E}{f:Bool->Res Fl}{Q:Bool->Hp->Prop}(sr:SR W H0 env d G H)(o:cf W H0 G E ((aG F e env).bind λp=>Aw p f) D)
 (h:∀b c H1,az W G H c H1->SR W H0 env d c H1->cf W H0 c E (f b) D->Q b H1):tT X W F e d H Q:=by
 refine{H0,G,env,sr,(o.bind S sr).imp λp a=>?_}
 cases p with
 |bl b=>exact{b,rfl,λc H1 g1=>h b c H1 g1 (sr.grow g1) (cf.on a (sr.on g1))}|aE=>exact ek a|int _=>exact ek a|str _=>exact ek a|tup _=>exact ek a|lst _=>exact ek a|exc _=>exact ek a|obj _=>exact ek a|bU _ _=>exact ek a
def NA(S:zv2 X){d:St}{e:Ci.E}{f:PV->Res Fl}(hl:∀env q,aG F e env=.ok q->∃xs,q=.lst xs)(sr:SR W H0 env d G H)(o:cf W H0 G E ((aG F e env).bind f) D)
 (h:∀xs a vs b H1,az W G H b H1->H1 a=ie->ag W b xs vs->SR W H0 env d b H1->cf W H0 b E (f (.lst xs)) D->Q (.ref a) (upd H1 a (.lst vs))):tF X W F e d H Q:=by
 refine{H0,G,env,sr,?_};have o2:=o.bind S sr
 cases r:aG F e env with
 |bad=>rw [r] at o2;exact o2|exc c=>rw [r] at o2;exact o2|ok q=>rw [r] at o2;let(xs,rfl):=hl env q r;exact{xs,rfl,λa vs i j g m l=>h xs a vs i j g m l (sr.grow g) (cf.on o2 (sr.on g))}
def eC{t:Option iO}{l:Nat}{env:Env}(h:cF p=ig):swapsWith p t l env=pure iv:=by
 cases p<;>first|rfl|(exact aI h)
def hW{a:iO}{gens:List Comprehension}{s:j1}{p:Pos}{b:Pos}{l:Nat}(cE:X.env.scope=sc)(hk:sc.kind=.function):swapsWith (.ListComp a gens s p) (hT (.Name x b)) l X.env=pure (OU sc x b (.ListComp a gens s p)):=by
 have c:X.env.blockKind=.function:=by unfold Env.blockKind;rw [cE,hk];rfl
 show(pure (X.env.blockKind==.function&&X.env.kindOf x==hT .local&&b.line==p.line&&!(s.names.any λ(n,k)=>n==x&&(k==.local||k==.cell))):Sem Bool)=_;rw [c];show(pure (ig&&X.env.scope.names.lookup x==hT .local&&_&&_):Sem Bool)=_;rw [cE];rfl
theorem EO(S:zv2 X){e:Ci.E}(he:GE X W F e p)(hn:cF p=ig):GS X W F H0 E (.expr e) (.Expr p pos):=
 L2.PS.imp (ma he (eC hn)) λD b H h=>by let(G,env,sr,o):=h;rw [mR] at o;exact oG S sr o λq v c d g t a o1=>o1 b c d a a.go
theorem Jh(S:zv2 X){e:Ci.E}(a:c9 e=ig)(he:GE X W F e p):GS X W F H0 E (.ret e) (.Return (hT p) pos):=
 L2.PS.imp (q9 he) λD f H h=>by let(G,env,sr,o):=h;rw [mR] at o;exact oG S sr o λq v b c g t d o1=>o1 v b c (t.rep a) d.go
theorem Bm(S:zv2 X)(f:Γ.qt=iv){m:Str}{a b:Pos}(d:Γ.rs.contains c=ig)(g:ed sc c=ig)(i:okN c=ig):GS X W F H0 E (.raise c m) (.Raise (hT (.Call (.Name c np) [.Constant (.str m) j a] [] b)) ie pos):=
 L2.PS.imp (S.rz f c m j np a b pos d g i) λD p H h C e hC q=>by let(G,env,sr,o):=h;rw [mR] at o;exact o _ _ _ {C,e,G,rfl,rfl,S.xs c d,by rw [S.C.mg];exact hC,sr.go}
def dr(S:zv2 X){i:Nat}(h:N[i]?=hT x)(hl:eP sc x=ig):X.N.Nodup/\X.N[i]?=hT x/\Loc X.env.scope x:=by refine{by rw [S.C.hN];exact S.C.nd,by rw [S.C.hN];exact h,BQ S.C.cE hl}
def Ji(S:zv2 X){i:Nat}{e:Ci.E}{a:Pos}(h:N[i]?=hT x)(hl:eP sc x=ig)(c:c9 e=ig)(he:GE X W F e p)(hs:swapsWith p (hT (.Name x a)) pos.line X.env=pure iv):GS X W F H0 E (.set i e) (.Assign [.Name x a] p pos):=by let(a1,a2,d):=dr S h hl;refine L2.PS.imp (nC a1 a2 d he hs (.inl (S.fn x))) λD m H h=>?_;let(G,env,sr,o):=h;rw [mR] at o;exact oG S sr o λq v f j g t b o1=>o1 _ f j (b.set i (t.rep c)) b.go
abbrev LZ(X:Cx)(W:Wd)(F:aW)(i:Nat)(e:Ci.E):TS:=λD a H=>tF X W F e a H λv b=>D.nx (a.set i (hT v)) b
def N8{e:Ci.E}(hl:∀env q,aG F e env=.ok q->∃xs,q=.lst xs)(b:St)(H:Hp)(Q:VK)(h:tE X W F e b H Q):tF X W F e b H Q:=by
 let(H0,G,env,sr,o):=h
 refine{H0,G,env,sr,?_};cases r:aG F e env with
 |bad=>rw [r] at o;exact o|exc c=>rw [r] at o;exact o|ok q=>rw [r] at o;let(xs,rfl):=hl env q r;exact{xs,rfl,λa f i j g d l=>o _ _ _ (g.trans (.new g.sub d)) (.of (.l (.inl (.inl ak)) (ag.same (aS (g.sub.free d)) xs l)))}
theorem EU(S:zv2 X){i:Nat}{e:Ci.E}{p:j7}(hl:∀env q,aG F e env=.ok q->∃xs,q=.lst xs)(b:c9 e=ig)(h:PS X p (LZ X W F i e)):GS X W F H0 E (.set i e) p:=
 L2.PS.imp h λD c H d=>by let(G,env,sr,o):=d;rw [mR] at o;refine N8 hl c H _ (oG S sr o λq v f j g t a o1=>?_);exact o1 _ f j (a.set i (t.rep b)) a.go
def ET(S:zv2 X){i:Nat}{e:Ci.E}{p:j7}(m:N[i]?=hT x)(hl:∀env q,aG F e env=.ok q->∃xs,q=.lst xs)(h:PS X p (LZ X W F i e)):GS X W F H0 E (.own i e) p:=by
 intro r s d H D I t;have u:i<d.length:=by rw [I.len,S.C.hN];exact(br.mp m).1
 refine h r s d H D I ?_;let(G,env,sr,o):=t;rw [mR] at o;refine NA S hl sr o λxs a f j w g c l b o1=>?_;have y:Own W H0 j (upd w a (.lst f)) (.lst xs) (.ref a):={a,f,rfl,ak,b.sub.free c,b.base.free c,l};let(z,g2):=vQ b b.go (i:=i) (by rw [b.len];exact u) c y;exact o1 _ j _ z g2
def qZ{i:Nat}{e:Ci.E}{a:Pos}(S:zv2 X)(h:N[i]?=hT x)(hl:eP sc x=ig)(he:GF X W F e p)(hs:swapsWith p (hT (.Name x a)) pos.line X.env=pure iv):PS X (.Assign [.Name x a] p pos) (LZ X W F i e):=by let(a1,a2,b):=dr S h hl;exact nC a1 a2 b he hs (.inl (S.fn x))
def Ax(S:zv2 X)(r:Γ.qt=iv){i:Nat}{t u:Pos}(w:N[i]?=hT x)(y:eP sc x=ig){m:List Nat}{d:Tg}{it:I}{b:Ci.E}{c o:iO}{a:j1}{pos:Pos}(h:gh N sc a j m (av c))(B:fh j d=ig)(G:c9 b=ig)(J:GI X W F c it e)(xi:∀x,foldedSetIterable e X.env x=pure x)
 (L:cx (av c++freeOf a) (bu a sc) (fO a) d c=ig) (he:∀Y,dz Γ.pT F W (av c++freeOf a) (bu a sc) k Y->GE Y W F b o):PS X (.Assign [.Name x t] (.ListComp o [{c,e,[],0}] a pos) u) (LZ X W F i (.comp j m d it b)):=by
 let(a1,a2,O):=dr S w y
 cases M:OU sc x t (.ListComp o [⟨c,e,[],0⟩] a pos) with
 |false=>exact qZ S w y (w9 S.C r h B G J xi L he) (by rw [hW S.C.cE S.kind,M])|true=>
  intro P s f H D I R;have T:(freeOf a).Nodup:=(List.nodup_append.mp h.nd).2.1;have rd:=wX (N:=N) S.C.K B G h.slots T f H _ R
  have:=nD (g:=gT X.K d) (te:=tN W F b) (xs:=av c) (ys:=freeOf a) (is:=m) (pos:=pos) a1 a2 O (S.C.calm r) (iF S.C.hN S.C.cE I.ok h) J
   (λfp p q A=>nA (fn:=fO a) (X:=bg X (av c++freeOf a) a (bt X.env (freeOf a)) fp p q A) rfl h.nd (cQ S.C.cE) rfl (λZ z=>z) L)
   (λfp p q A=>L2.PE.imp (he _ (dO S.C h fp p q A)) λf H Q z=>xY f H Q z) (by rw [hW (l:=u.line) S.C.cE S.kind,M]) xi (.inl (S.fn x)) P s f H D I
  rw [h.len] at this;exact this rd
def uY(S:zv2 X)(u:Γ.qt=iv){i:Nat}{w y:Pos}(B:N[i]?=hT x)(G:eP sc x=ig){p:Nat}{q:List Nat}{m:Tg}{it:I}{c d:Ci.E}{b o r t:iO}{a:j1}{pos:Pos}(h:gh N sc a p q (av b))(J:fh p m=ig)(L:c9 d=ig)(M:GI X W F b it o)(xi:∀x,foldedSetIterable o X.env x=pure x)
 (O:cx (av b++freeOf a) (bu a sc) (fO a) m b=ig) (P:∀Y,dz Γ.pT F W (av b++freeOf a) (bu a sc) k Y->GT Y W F c r) (he:∀Y,dz Γ.pT F W (av b++freeOf a) (bu a sc) k Y->GE Y W F d t):PS X (.Assign [.Name x w] (.ListComp t [{b,o,[r],0}] a pos) y) (LZ X W F i (.fw p q m it c d)):=by
 let(a1,a2,T):=dr S B G
 cases R:OU sc x w (.ListComp t [⟨b,o,[r],0⟩] a pos) with
 |false=>exact qZ S B G (pI S.C u h J L M xi O P he) (by rw [hW S.C.cE S.kind,R])|true=>
  intro U s e H D I V;have Z:(freeOf a).Nodup:=(List.nodup_append.mp h.nd).2.1;have rd:=pA (N:=N) S.C.K J L h.slots Z e H _ V
  have:=ra (g:=gT X.K m) (tt:=OX W F c) (te:=tN W F d) (xs:=av b) (ys:=freeOf a) (is:=q) (pos:=pos) a1 a2 T (S.C.calm u) (iF S.C.hN S.C.cE I.ok h) M
   (λfp f j A=>nA (fn:=fO a) (X:=bg X (av b++freeOf a) a (bt X.env (freeOf a)) fp f j A) rfl h.nd (cQ S.C.cE) rfl (λ_ z=>z) O)
   (λfp f j A=>L2.PT.imp (P _ (dO S.C h fp f j A)) λe H Q z=>Dz e H Q z)
   (λfp f j A=>L2.PE.imp (he _ (dO S.C h fp f j A)) λe H Q z=>xY e H Q z) (by rw [hW (l:=y.line) S.C.cE S.kind,R]) xi (.inl (S.fn x)) U s e H D I
  rw [h.len] at this;exact this rd
def hU{a:Tg}{p:PV}(c:Str):Tg.put a p env≠.exc c:=by unfold Tg.put;split<;>exact nofun
def Dw{ts vs:List iO}{k1 k2:Nat}{p1 p2:Pos}{env:Env}(h:3<vs.length):swappedStores [.Tuple ts k1 p1] (.Tuple vs k2 p2) env=pure ie:=by
 have c:(!(ts.length==2||ts.length==3)||vs.length !=ts.length||env.blockKind !=.function)=ig:=by
  by_cases d:ts.length=vs.length
  .have a:(ts.length==2)=iv:=beq_eq_false_iff_ne.mpr (by omega);have b:(ts.length==3)=iv:=beq_eq_false_iff_ne.mpr (by omega);rw [a,b];rfl
  .have a:(vs.length !=ts.length)=ig:=bne_iff_ne.mpr λz=>d z.symm;rw [a,Bool.or_true,Bool.true_or]
 unfold swappedStores;simp! [pure_bind];rw [if_pos c]
def xX{ts vs:List iO}{k1 k2:Nat}{p1 p2:Pos}{env:Env}(h:(ts.any λe=>!Nu env.scope e)=ig):swappedStores [.Tuple ts k1 p1] (.Tuple vs k2 p2) env=pure ie:=by
 let(e,a,b):=ej.1 h;unfold swappedStores;simp! [pure_bind];split
 .rfl
 .split
  .rfl
  .rw [if_pos];refine Bool.or_eq_true_iff.mpr (.inl (bne_iff_ne.mpr λz=>?_));have:=List.filterMap_length_eq_length.1 z e a
   cases e with
   |Name x p=>
    have q:(env.kindOf x==hT .local)=iv:=by
     have c:(!(env.scope.names.lookup x==hT .local))=ig:=b
     rwa [Bool.not_eq_true'] at c
    simp! [q,Bool.false_and,d2,if_false] at this;cases this
   |_=>cases this
def Jj(S:zv2 X)(m:Γ.qt=iv){d:Tg}{e:Ci.E}{a:iO}(i:isTup a=ig)(s:cx N sc (λZ=>ig) d a=ig)(hn:cF p=ig)(b:GJ sc a p=ig)(u:c9 e=ig)(he:GE X W F e p):GS X W F H0 E (.Al d e) (.Assign [a] p pos):=by
 have w:swappedStores [a] p X.env=pure ie:=by
  cases a<;>first|(exact aI i)|skip
  cases p<;>first|rfl|skip
  rcases Bool.or_eq_true_iff.mp b with b|b
  .exact Dw (zzY b)
  .exact xX (by rw [S.C.cE];exact b)
 have y:(assignEach [a] X.env).map (·.2)=[assign a X.env]:=by
  cases a<;>first|rfl|(exact aI i)
 refine L2.PS.imp (vW he (nA (fn:=λZ=>ig) S.C.hN S.C.nd S.C.cE (S.C.calm m) (λx Z=>S.fn x) s) (eC hn) w y) λD I H h=>?_;let(G,env,sr,o):=h;rw [mR] at o;refine oG S sr o λq v z A g t j o1=>?_
 cases r:d.put q env with
 |bad=>rw [r] at o1;exact o1.elim|exc c=>exact absurd r (hU c)|ok J=>rw [r] at o1;exact iL S.C.K r j (t.rep u) λf B=>o1 f z A B j.go
theorem Bl(S:zv2 X){c:Ci.E}{a b:Ss}{d e:List j7}(j:GT X W F c p)(m:DR X W F H0 E a d)(q:DR X W F H0 E b e):GS X W F H0 E (.ite c a b) (.If p d e pos):=
 L2.PS.imp (Hr j m q) λD r H h=>by
  let(G,env,sr,o):=h;rw [mR] at o;refine NB S sr o λt f s g i o1=>?_
  cases t with
  |true=>rw [if_pos rfl] at o1⊢;exact⟨f,env,i,o1⟩|false=>rw [if_neg zzf] at o1⊢;exact⟨f,env,i,o1⟩
def Jf(S:zv2 X)(uO:Γ.qt=iv){M:Tg}{it:I}{b:Ss}{V Y:iO}{pb:List j7}(l4:cx N sc (λ_=>ig) M V=ig)(Z:oz it=ig)(hi:GI X W F V it Y)(xi:∀x,foldedSetIterable Y X.env x=pure x)(hb:DR X W F H0 E b pb):GS X W F H0 E (.gG M it b) (.For V Y pb [] pos):=
 L2.PS.imp (CT S.own (S.C.calm uO) hi (nA (fn:=λ_=>ig) S.C.hN S.C.nd S.C.cE (S.C.calm uO) (λx _=>S.fn x) l4) hb xi) λD σ H h=>by
  let(G,env,sr,o):=h;rw [mR] at o;refine{H0,G,env,sr,(o.bind S sr).imp λd gf J G1 H1 g1 gi=>?_};have bL:=gi.bL Z;generalize hf:(λ(x:PV) (env:Sl)=>(M.put x env).bind λe=>f6 F b e)=f at gf;have aZ:=sr.grow g1;refine{λi m w O=>i<=d.length/\m=d.length-i/\∃B e,SR W H0 e w B O/\az W G1 H0 B O/\cf W H0 B E (forL f (d.drop i) e) D,{_,Nat.zero_le _,rfl,G1,env,aZ,aZ.go,by rw [List.drop_zero];exact cf.on gf (sr.on g1)},?_}
  rintro i m w O ⟨hi2,hm,B,e,j,g',t⟩
  let(ist,igo):=bL i B O g'.g (.of (g'.g.trans j.sub)) j.sub;by_cases s:i=d.length
  .refine .inl {ist s,?_};rw [s,List.drop_length] at t;exact t w B O j j.go
  .have T:i<d.length:=by omega
   let(Bu,P):=igo d[i] (zzg T);refine .inr {Bu,λy H2=>i+1<=d.length/\∃G2 L,SR W H0 L y G2 H2/\az W G1 H0 G2 H2/\cf W H0 G2 E (forL f (d.drop (i+1)) L) D,λy H2 h2=>{d.length-(i+1),by omega,h2.1,rfl,h2.2},λx gW hy=>?_};let(U,pH,rx):=P x gW hy;rw [List.drop_eq_getElem_cons T] at t;unfold forL at t;have Qe:f d[i] e=(M.put d[i] e).bind λe=>f6 F b e:=by rw [<-hf]
   rw [Qe] at t;have i4:=j.grow pH;have g2:=g'.then (j.on pH)
   cases r:M.put d[i] e with
   |bad=>rw [r] at t;exact t.elim|exc c=>exact absurd r (hU c)|ok L=>
    rw [r] at t;refine iL S.C.K r i4 rx λy sr3=>{U,L,sr3,?_}
    have o2:cf W H0 U E ((f6 F b L).bind λfl=>match fl with
     |.nx e=>forL f (d.drop (i+1)) e|.ct e=>forL f (d.drop (i+1)) e|.bk e=>.ok (.nx e)|.rt p=>.ok (.rt p)) D:=cf.on t (j.on pH)
    cases r2:f6 F b L with
    |bad=>rw [r2] at o2;exact o2.elim|exc cc=>rw [r2] at o2;exact o2|ok fl=>
     rw [r2] at o2;cases fl with
     |nx a=>exact λz A Q R u=>{T,A,a,R,g2.then u,cf.on (show cf W H0 U E (forL f (d.drop (i+1)) a) D from o2) u}|ct a=>exact λz A Q R u=>{T,A,a,R,g2.then u,cf.on (show cf W H0 U E (forL f (d.drop (i+1)) a) D from o2) u}|bk a=>exact λz A Q R u=>o2 z A Q R u|rt q=>exact λv A Q rv u=>o2 v A Q rv u
theorem xb:DR X W F H0 E .nil []:=L2.oV.imp rb λD a H h=>by let(G,env,sr,o):=h;rw [f6] at o;exact o a G H sr sr.go
theorem tm{s:Ci.S}{b:Ss}{p:j7}{ps:List j7}(d:GS X W F H0 E s p)(e:DR X W F H0 E b ps):DR X W F H0 E (.cons s b) (p::ps):=
 L2.oV.imp (um d e) λD j H h=>by
  let(G,env,sr,o):=h
  rw [f6] at o;refine{G,env,sr,?_};cases r:mR F s env with
  |bad=>rw [r] at o;exact o|exc c=>rw [r] at o;exact o|ok f=>
   rw [r] at o;cases f with
   |nx a=>exact λg G2 m i g2=>{G2,a,i,cf.on (show cf W H0 G E (f6 F b a) D from o) g2}|bk a=>exact o|ct a=>exact o|rt q=>exact o
def EV{i:Nat}{c:Ss}{ps:List j7}(h:DR X W F H0 E c ps):DR X W F H0 E (.cons (.bL i) c) ps:=by
 intro f s g H D I j;let(G,env,sr,o):=j
 rw [f6,mR] at o;rcases Iv sr sr.go i with⟨d,b,e⟩|⟨a,p,m,k⟩
 .exact h f s g H D I {d,_,b,cf.on (show cf W H0 G E (f6 F c (env.modify i qE)) D from o) e}
 .let(ob,J):=I.qD m;let(d,b,e):=k ob;exact h f s g _ D J {d,_,b,cf.on (show cf W H0 G E (f6 F c (env.modify i qE)) D from o) e}
end
end Ci
namespace L2
open PySem.Spec PyProof.Rows
end L2
namespace Ci
open L2
section
variable{Γ:Pg}{W:Wd}{F:aW}{sc:j1}{k:Nat}{E:XK}
def vE(hK:W.K=X.K):Ls X "list.extend" (λx vs H Q=>∃l b xs c,x=.ref l/\vs=[.ref b]/\H l=hT (.lst xs)/\oU W.K H b c/\xs.length+c.length<=j3/\Q .aE (upd H l (.lst (xs++c)))):=by
 intro B s C H x vs v D Q I i j h;let(l,b,xs,c,rfl,rfl,g,m,G,q):=h;cases i;let(u,rfl,o):=Vals.one j;cases o;let(z,a,n,r,hl,e):=I.JW g;let(d,p,t,w,J,y):=vz hK I m;have f:a.toArray.size+d.toArray.size<=sizeLine:=by rw [a5,a5];omega
 have A:¬(!a.toArray.isEmpty&&kr.List.listTooLong (a.toArray.size+d.toArray.size))=ig:=by rw [t8 f,Bool.and_false];exact zzf
 refine PySem.call_meets PySem.F.slot_list_extend {_,e,rfl} PySem.F.entry_list_extend (PySem.F.args_list_extend_2 _ _)
  (PySem.AutoSeq1.list_extend_list_list_0 l a.toArray n b d.toArray p A (by rw [a5];omega) (by omega)) {e,y,?_}
 refine{.aE,_,I.JV (its':=a++d) g e (by simp) (r.append t) ?_,rfl,q};rw [bF];omega
def vT(S:zv2 X){i:Nat}(h:N[i]?=hT x)(b:gU sc x=ig)(a:okN x=ig):PE X (.Name x pos) (Lk i):=
 kM (by rw [S.C.hN];exact h) (wC S.C b) (dw a).1 (dw a).2.1
def xG{b:St}{i:Nat}(sr:SR W H0 env b G H)(h:env[i]?=hT (.own (.lst xs))):∃a vs,b[i]?=hT (hT (.ref a))/\H a=hT (.lst vs)/\G a=ie/\H0 a=ie/\ag W G xs vs:=by let(o,c,v,rfl,a,vs,rfl,d,e,f,l):=sr.slot i _ h;exact⟨a,vs,c,d,e,f,l⟩
set_option tactic.hygienic true in
def Je(S:zv2 X){i:Nat}{e:Ci.E}{b f:Pos}(h:N[i]?=hT x)(w:gU sc x=ig)(y:okN x=ig)(A:(b.endLine==f.line)=ig)(B:c9 e=ig)(he:GE X W F e p)
 (d:∀env ps,starEach (p::ps) env=(iv,eval p env)::starEach ps env):GS X W F H0 E (.app i e) (.Expr (.Call (.Attribute (.Name x np) "append" b) [p] [] f) pos):=by
 refine L2.PS.imp (ma (pY PySem.F.plainAttrs_list PySem.F.slot_list_append PySem.F.type_list_append pQ (vT S h w y) (aV he bW (d _ _)) rfl (by rw [d];rfl) A (d _ _) rfl) rfl) λD O H C=>?_;let(G,env,sr,o):=C;rw [mR] at o;split at o
 .rename_i xs j;let(a,m,hs,c,I,r,l):=xG sr j;refine{.ref a,hs,.inl {rfl,_,eW.of c},oG S sr o λq v J P g t s o1=>?_};split at o1
  .rename_i hl;have K:=g.h.at c (λZ z=>nomatch z);have u:=g.own a (by rw [c];exact nofun) (by rw [c];exact λZ z=>nomatch z) I;have L:=ag.same g.g xs l;refine{a,m,v,rfl,rfl,K,by rw [l.length];exact dq hl (by decide),?_};let(M,g2):=vF (p':=.lst (xs++[q])) (ob:=.lst (m++[v])) s s.go j hs u r {a,_,rfl,ak,u,r,L.append (.cons (t.rep B) .nil)};exact o1 _ J _ M g2
  .exact o1.elim
 .exact o.elim
set_option tactic.hygienic true in
def ER(S:zv2 X){i:Nat}{e:Ci.E}{c m:Pos}(h:N[i]?=hT x)(B:gU sc x=ig)(I:okN x=ig)(J:(c.endLine==m.line)=ig)(he:GE X W F e p)
 (f:∀env ps,starEach (p::ps) env=(iv,eval p env)::starEach ps env):GS X W F H0 E (.ve i e) (.Expr (.Call (.Attribute (.Name x np) "extend" c) [p] [] m) pos):=by
 refine L2.PS.imp (ma (pY PySem.F.plainAttrs_list PySem.F.slot_list_extend PySem.F.type_list_extend (vE S.C.K) (vT S h B I) (aV he bW (f _ _)) rfl (by rw [f];rfl) J (f _ _) rfl) rfl) λD V H L=>?_;let(G,env,sr,o):=L;rw [mR] at o;split at o
 .rename_i xs r;let(a,s,hs,d,M,u,l):=xG sr r;refine{.ref a,hs,.inl {rfl,_,eW.of d},oG S sr o λq v O Y g t j o1=>?_};split at o1
  .rename_i P;split at o1
   .rename_i hl;have Q:=g.h.at d (λZ z=>nomatch z);have w:=g.own a (by rw [d];exact nofun) (by rw [d];exact λZ z=>nomatch z) M;have R:=ag.same g.g xs l;let(b,y,rfl,T,A):=t.top.lst j.sub;refine{a,b,s,y,rfl,rfl,Q,T,by rw [l.length,A.length];exact gO hl,?_};let(U,g2):=vF (p':=.lst (xs++P)) (ob:=.lst (s++y)) j j.go r hs w u {a,_,rfl,ak,w,u,R.append A};exact o1 _ O _ U g2
   .exact o1.elim
  .exact o1.elim
 .exact o.elim
def NS:V->V->V->Hp->(Hp->Prop)->Prop:=λo i v H Q=>∃a b,o=.ref a/\uR H a i v b/\Q b
def Gd(b:X.A.units+1<cLine):L9 X NS:=by intro m s p H o i v r t u Q I c d e h;let(a,f,rfl,g,q):=h;cases c;exact pC b I g d e λw j=>⟨f,j,q⟩
def FQ{b:St}{i:Nat}(sr:SR W H0 env b G H)(h:env[i]?=hT (.own (.bU ks ps))):∃a us,b[i]?=hT (hT (.ref a))/\ks.length=us.length/\H a=hT (.dK (kz ks us))/\G a=ie/\H0 a=ie/\ag W G ps us:=by let(o,c,v,rfl,a,us,rfl,n,d,e,f,l):=sr.slot i _ h;exact⟨a,us,c,n,d,e,f,l⟩
set_option tactic.hygienic true in
def Jg(S:zv2 X){i:Nat}{b e:Ci.E}{c:iO}{f:Pos}(h:N[i]?=hT x)(K:gU sc x=ig)(L:okN x=ig)(M:c9 e=ig)(s:aF Γ N sc b c=ig)(hk:GE X W F b c)(he:GE X W F e p):GS X W F H0 E (.put i b e) (.Assign [.Subscript (.Name x np) c f] p pos):=by
 have O:swappedStores [.Subscript (.Name x np) c f] p X.env=pure ie:=by cases p<;>rfl
 have P:∀v,assign (.Subscript (.Name x np) c f) X.env v=(do
  let j<-holding [v] (eval (.Name x np) X.env);let m<-holding [v,j] (eval c X.env)
  standAt f
  holding [v,j,m] (setItem j m v)
  release [v,j,m] []):=by
  intro v;cases c<;>first|rfl|(cases b<;>first|(exact aI s)|(rename_i q;cases q<;>exact aI s))
 refine L2.PS.imp (vW he (KC (vT S h K L) hk (Gd (by have:=S.C.room.un;omega)) P) (by cases p<;>rfl) O) λD σ H Q=>?_;let(G,env,sr,o):=Q;rw [mR] at o;refine oG S sr o λq v G1 H1 g t u o1=>?_;split at o1
 .rename_i d w y;let(a,A,hs,n,r,R,B,l):=FQ u y;refine{.ref a,hs,oG S u o1 λq2 v2 G2 T g2 t2 I o2=>?_};split at o2
  .rename_i b U;split at o2
   .rename_i V;have Y:=et U;subst Y;obtain rfl:=t2.top.str;have Z:=g2.h.at r (λ_ z=>nomatch z);have J:=g2.own a (by rw [r];exact nofun) (by rw [r];exact λ_ z=>nomatch z) R;have l':=ag.same g2.g w l;refine{a,upd T a (.dK (putK (kz d A) (ki b) v)),rfl,uR.k (k:=ki b) Z (by rw [gK n];exact dq V (by decide)),?_};rw [vw n];let(r2,gg):=vF (p':=.bU (il d b) (dU d w b q)) (ob:=.dK (kz (il d b) (dU d A b v))) I I.go y hs J B {a,_,rfl,nE n b v,ak,J,B,rh l' (Rep.same g2.g q (t.rep M))};exact o2 _ G2 _ r2 gg
   .exact o2.elim
  .exact o2.elim
 .exact o1.elim
def EN(S:zv2 X){i:Nat}{dp:Pos}(h:N[i]?=hT x)(hl:eP sc x=ig):GS X W F H0 E (.kF i) (.Assign [.Name x np] (.Dict [] [] dp) pos):=by
 let(a1,a2,c):=dr S h hl;intro d s b H D I e;have f:i<b.length:=by rw [I.len,S.C.hN];exact(br.mp h).1
 refine nC a1 a2 c ny rfl (.inl (S.fn x)) d s b H D I ?_;let(G,env,sr,o):=e;rw [mR] at o;intro p a;let(g,g2):=vQ (i:=i) (p:=.bU [] []) (ob:=.dK []) sr sr.go (by rw [sr.len];exact f) a {p,[],rfl,rfl,ak,sr.sub.free a,sr.base.free a,.nil};exact o _ G _ g g2
def Cd(c:Str):jc ps≠.exc c:=by
 unfold jc;split
 .intro z;rcases Res.dt z with z|⟨a,_,z⟩
  .exact Res.aH c z
  .cases z
 .exact nofun
def ES(S:zv2 X)(y:Γ.qt=iv){i:Nat}{e:Ci.E}{p:iO}{z A:Pos}(h:N[i]?=hT x)(hl:eP sc x=ig)(B:ed sc "dict"=ig)(hm:Γ.bs.contains "dict"=ig)(he:GE X W F e p)
 (j:∀env ps,starEach (p::ps) env=(iv,eval p env)::starEach ps env):GS X W F H0 E (.vP i e) (.Assign [.Name x np] (.Call (.Name "dict" z) [p] [] A) pos):=by
 let(a1,a2,J):=dr S h hl;intro L s m H D I M;have O:i<m.length:=by rw [I.len,S.C.hN];exact(br.mp h).1
 refine nC a1 a2 J (ff (mB (S.C.calm y) (by have:=S.C.room.un;omega)) (b9 S.C B) (S.C.bs _ (eu.mp hm)) (by decide+kernel) (aV he bW (j _ _)) (he:=j _ _) (hpl:=rfl)) rfl (.inl (S.fn x)) L s m H D I ?_;let(G,env,sr,o):=M;rw [mR] at o;refine oG S sr o λq v P H1 g t b o1=>?_
 cases d:jc [q] with
 |exc c=>exact absurd d (Cd c)|bad=>rw [d] at o1;exact o1.elim|ok r=>rw [d] at o1;let(u,qs,rfl,a,Q,R,T,U,pw,w,V,Y,Z):=sO (X:=X) S.C.K b.sub (.cons t.top .nil) d;refine{a,Q,R,T,U,pw,λad f=>?_};rw [Z];let(r2,g2):=vQ (i:=i) (p:=.bU u qs) (ob:=.dK (kz u w)) b b.go (by rw [b.len];exact O) f {ad,w,rfl,V,ak,b.sub.free f,b.base.free f,Y};exact o1 _ P _ r2 g2
end
end Ci
namespace L2
open PySem.Spec PyProof.Rows
end L2
namespace Ci
open L2
section
variable{Γ:Pg}{W:Wd}{F:aW}{sc:j1}{k:Nat}{E:XK}
def Dx{env:Env}{y:Str}{d e pt i:Pos}{kt k2}{a b:iO}(hk:env.scope.kind=.function)(j:env.scope.names.lookup x=hT .local)(m:env.scope.names.lookup y=hT .local)(hl:e.line=d.line)(f:x≠y)(c:Cq a b=ig):
 swappedStores [.Tuple [.Name x d,.Name y e] kt pt] (.Tuple [a,b] k2 i) env=pure (hT [x,y]):=by
 unfold Cq at c;simp! [zza] at c;let(((o,p),g),h):=c;have q:isStar a=iv:=zx6 o;have r:isStar b=iv:=zx6 p;have s:env.blockKind=.function:=by unfold Env.blockKind;rw [hk];rfl
 have t:env.kindOf x=hT .local:=j;have k2:env.kindOf y=hT .local:=m;simp! [Bool.not_eq_true'] at g h;have u:(y==x)=iv:=beq_eq_false_iff_ne.mpr (Ne.symm f);have C:(x==y)=iv:=beq_eq_false_iff_ne.mpr f;have w:[x,y].eraseDups=[x,y]:=by simp [List.eraseDups_cons,u]
 have A:[a,b].all (foldedForSure 8)=iv:=zx6 g;have B:[a,b].all (constantsAlone 8)=iv:=zx6 h
 unfold swappedStores;simp! [List.any_cons,List.any_nil,Bool.or_false,pure_bind,List.filterMap_cons,List.filterMap_nil,t,k2,iO.pos,hl,List.head?_cons,Option.map_some,Option.getD_some,BEq.rfl,Bool.and_self,if_true,w,A,B,s];refine(if_neg zzf).trans ((if_neg λz=>?_).trans rfl);rcases Bool.or_eq_true_iff.mp z with z|z
 .split at z
  .cases q
  .cases z
 .split at z
  .cases r
  .cases z
def Me(S:zv2 X){b:St}{c:Es}{f:List PV->Res Fl}{Q:List V->Hp->Prop}(sr:SR W H0 env b G H)(o:cf W H0 G E ((dv F c env).bind f) D)
 (h:∀ps vs a H1,az W G H a H1->HJ W H0 a H1 c ps vs->SR W H0 env b a H1->cf W H0 a E (f ps) D->Q vs H1):tA X W F c b H Q:=
 {H0,G,env,sr,(o.bind S sr).imp λp d v a H1 g1 t=>h p v a H1 g1 t (sr.grow g1) (d.on (sr.on g1))}
set_option tactic.hygienic true in
def Gm(S:zv2 X)(J:Γ.qt=iv)(i j:Nat)(as:Es)(p:j7)(h:d7 Γ N sc (.par i j as) p=ig):GS X W F H0 E (.par i j as) p:=by
 cases p<;>first|(exact aI h)|skip
 rename_i ts v K;cases v<;>first|(exact aI h)|skip
 rename_i L M F4
 match L,h with
 |[],h=>exact aI h|[_],h=>exact aI h|_::_::_::_,h=>exact aI h|[a,b],h=>
 replace h:=af h;simp! [zza,zzy,bne_iff_ne,ne_eq] at h;let((x,px,y,py),O,((((((((m,u),P),z),A),d),e),Q),R),f):=h;let(kt,pt,rfl):=xH O;dsimp only at m u z A d e;have ga:=fV as S.C [a,b] f;intro T s U H D I V;refine CU (S.C.calm J) (by rw [S.C.hN];exact S.C.nd) (by rw [S.C.hN];exact m) (by rw [S.C.hN];exact u) (zzY P) (by rw [S.C.cE];exact d) (by rw [S.C.cE];exact e) ga (Dx I.ok.kind (by rw [S.C.cE];exact d) (by rw [S.C.cE];exact e) A z Q) rfl T s U H D I ?_;let(G,env,sr,o):=V;rw [mR] at o;refine Me S sr o λY vs Z H1 g t B o1=>?_;have c:=t.rep R
 match Y,c,o1 with
 |[],_,o1=>exact o1.elim|[_],_,o1=>exact o1.elim|_::_::_::_,_,o1=>exact o1.elim|[p,q],c,o1=>
  let(v,r,rfl,hv,c):=c.aN;let(w,r2,rfl,hw,c):=c.aN;have:=c.length
  cases r2 with
  |cons _ _=>cases this
  |nil=>exact{v,w,rfl,o1 _ Z H1 ((B.set i hv).set j hw) B.go}
def sX{e:Ci.E}(h:jV e=ig):∀env q,aG F e env=.ok q->∃xs,q=.lst xs:=by
 cases e<;>first|(exact aI h)|exact lst_is|exact wW|exact pz
def oW(S:zv2 X){i:Nat}{I:Pos}(t:N[i]?=hT x)(u:eP sc x=ig)(e:Ci.E)(p:iO)(J:jV e=ig)(h:aF Γ N sc e p=ig):PS X (.Assign [.Name x I] p pos) (LZ X W F i e):=by
 cases e with
 |lst as=>let(Q,e,b):=af h;let(_,rfl):=vy e;have a:=ah b;have s:=ah a.1;exact qZ S t u (Bg s.1 (zzY s.2) (fV as S.C _ a.2)) rfl|comp K L M it elt=>let(w,h):=pU h;let(y,j,f,_,rfl,b):=JS h;let((z,A,B,D),m,a):=cW b;have d:=ah a;have o:=jX d.1;dsimp only at m o;subst m o;clear h b a;have h:=ah d.2;clear d;simp! [zza] at h;let((((((b,a),d),q),G),H),g):=h;have g:=zzY g;subst g;exact Ax S w t u (dN b) a d (uz it S.C z A q) (ei q _) G λY r=>(aP elt r y H).ge|fw K L M it c elt=>let(w,h):=pU h;let(y,j,f,_,rfl,b):=JS h;let((z,A,B,D),m,a):=cW b;let(O,o,d):=cW a;dsimp only at m o;subst m o;clear h b a;have h:=ah d;clear d;simp! [zza] at h;let((((((((s,b),a),d),q),G),H),P),g):=h;have g:=zzY g;subst g;exact uY S w t u (dN b) a d (uz it S.C z A q) (ei q _) G (λY r=>(aP c r O H).gt s) λY r=>(aP elt r y P).ge|_=>exact aI J
set_option tactic.hygienic true in
def zj{e:Ci.E}(h:aF Γ N sc e p=ig)(a:jV e=iv):cF p=ig:=by
 cases p<;>first|rfl|(cases e<;>first|(exact aI h)|(rename_i q;cases q<;>exact aI h)|(cases a;done))
def yK(S:zv2 X){i:Nat}{e:Ci.E}{c:Pos}(h:N[i]?=hT x)(hl:eP sc x=ig)(b:c9 e=ig)(a:aF Γ N sc e p=ig):GS X W F H0 E (.set i e) (.Assign [.Name x c] p pos):=by
 cases hf:jV e with
 |true=>exact EU S (sX hf) b (oW S h hl e p hf a)|false=>exact Ji S h hl b (aP e S.C p a).ge (eC (zj a hf))
def Dj(S:zv2 X)(e:Ci.E)(p:j7)(h:d7 Γ N sc (.expr e) p=ig):GS X W F H0 E (.expr e) p:=by
 cases p<;>first|(exact aI h)|skip
 replace h:=ah h
 try simp! [zza] at h
 exact EO S (aP e S.C _ h.2).ge h.1
def xW(S:zv2 X)(i:Nat)(e:Ci.E)(p:j7)(h:d7 Γ N sc (.set i e) p=ig):GS X W F H0 E (.set i e) p:=by
 cases p<;>first|(exact aI h)|skip
 replace h:=af h;simp! [Option.any_eq_true,zza,zzy] at h;let(x,b,a):=h;let(c,rfl):=nk b;exact yK S a.1.1.1 a.1.1.2 a.1.2 a.2
def Gk(S:zv2 X)(i:Nat)(e:Ci.E)(p:j7)(h:d7 Γ N sc (.own i e) p=ig):GS X W F H0 E (.own i e) p:=by
 cases p<;>first|(exact aI h)|skip
 replace h:=af h;simp! [Option.any_eq_true,zza,zzy] at h;let(x,a,h):=h;let(b,rfl):=nk a;exact ET S h.1.1.1 (sX h.1.2) (oW S h.1.1.1 h.1.1.2 e _ h.1.2 h.2)
def Gp(S:zv2 X)(b:Γ.qt=iv)(a:Tg)(e:Ci.E)(p:j7)(h:d7 Γ N sc (.Al a e) p=ig):GS X W F H0 E (.Al a e) p:=by
 cases p<;>first|(exact aI h)|skip
 replace h:=af h;simp! [Option.any_eq_true,zza] at h;let(t,c,((((d,f),g),i),j),m):=h;cases fM c;exact Jj S b d f g i j (aP e S.C _ m).ge
def Gj(S:zv2 X)(i:Nat)(p:j7)(h:d7 Γ N sc (.bL i) p=ig):GS X W F H0 E (.bL i) p:=by cases p<;>exact aI h
def Gi(S:zv2 X)(i:Nat)(e:Ci.E)(p:j7)(h:d7 Γ N sc (.app i e) p=ig):GS X W F H0 E (.app i e) p:=by
 cases p<;>first|(exact aI h)|skip
 replace h:=af h;simp! [Option.any_eq_true,zza,zzy] at h;let((x,m,args),c,((((d,f),g),j),o),q,r,a):=h;let(np,b,s,rfl,hl):=BY c;cases fM r;cases j;exact Je S d f g hl o (aP e S.C q a).ge (notStar a)
def Dk(S:zv2 X)(i:Nat)(e:Ci.E)(p:j7)(h:d7 Γ N sc (.ve i e) p=ig):GS X W F H0 E (.ve i e) p:=by
 cases p<;>first|(exact aI h)|skip
 replace h:=af h;simp! [Option.any_eq_true,zza,zzy] at h;let((x,m,args),c,(((d,f),g),j),q,o,a):=h;let(np,b,r,rfl,hl):=BY c;cases fM o;cases j;exact ER S d f g hl (aP e S.C q a).ge (notStar a)
def Gn(S:zv2 X)(i:Nat)(a e:Ci.E)(p:j7)(h:d7 Γ N sc (.put i a e) p=ig):GS X W F H0 E (.put i a e) p:=by
 cases p<;>first|(exact aI h)|skip
 replace h:=af h;simp! [Option.any_eq_true,zza,zzy] at h;let((x,c),d,((((f,g),j),m),b),o):=h;let(np,q,rfl):=K1 d;exact Jg S f g j m b (aP a S.C c b).ge (aP e S.C _ o).ge
set_option tactic.hygienic true in
def Di(S:zv2 X)(i:Nat)(p:j7)(h:d7 Γ N sc (.kF i) p=ig):GS X W F H0 E (.kF i) p:=by
 cases p<;>first|(exact aI h)|skip
 rename_i ts v a;cases v<;>first|(exact aI h)|skip
 rename_i b c dp;cases b<;>first|(exact aI h)|skip
 cases c<;>first|(exact aI h)|skip
 replace h:=af h;simp! [Option.any_eq_true,zza,zzy] at h;let(x,d,e,f):=h;let(g,rfl):=nk d;exact EN S e f
def Dl(S:zv2 X)(c:Γ.qt=iv)(i:Nat)(e:Ci.E)(p:j7)(h:d7 Γ N sc (.vP i e) p=ig):GS X W F H0 E (.vP i e) p:=by
 cases p<;>first|(exact aI h)|skip
 let(x,d,f):=af h;let(g,as,_,_,rfl,j):=uN f;let(q,rfl,a):=cW j;let(t,rfl):=nk d;simp! [zza,zzy] at a;let(((((rfl,m),o),r),s),b):=a;exact ES S c r s m o (aP e S.C q b).ge (notStar b)
set_option tactic.hygienic true in
def xV(S:zv2 X)(e:Ci.E)(p:j7)(h:d7 Γ N sc (.ret e) p=ig):GS X W F H0 E (.ret e) p:=by
 cases p<;>first|(exact aI h)|skip
 rename_i v a;cases v with
 |none=>exact aI h|some v=>
  replace h:=ah h
  try simp! [zza] at h
  exact Jh S h.1 (aP e S.C v h.2).ge
set_option tactic.hygienic true in
def zP(S:zv2 X)(a:Γ.qt=iv)(c m:Str)(p:j7)(h:d7 Γ N sc (.raise c m) p=ig):GS X W F H0 E (.raise c m) p:=by
 cases p<;>first|(exact aI h)|skip
 replace h:=ah h;simp! [Option.any_eq_true,zza,zzy] at h;let(b,(x,z),d,(((e,f),g),i),o):=h;let(np,j,r,s,rfl):=KZ d;cases e;cases f;rename_i fr q;cases Option.isNone_iff_eq_none.mp b;exact Bm S a g i o
def xk{c:Ci.E}{a b:Ss}{p:j7}(h:d7 Γ N sc (.ite c a b) p=ig):∃q d e pos,p=.If q d e pos/\eN c=ig/\aF Γ N sc c q=ig/\du Γ N sc a d=ig/\du Γ N sc b e=ig:=by
 cases p<;>first|(exact aI h)|skip
 replace h:=ah h
 try simp! [zza] at h
 exact{_,_,_,_,rfl,h.1.1.1,h.1.1.2,h.1.2,h.2}
def E6{c:Tg}{it:I}{b:Ss}{p:j7}(h:d7 Γ N sc (.gG c it b) p=ig):∃a d e pos,p=.For a d e [] pos/\cx N sc (λZ=>ig) c a=ig/\oz it=ig/\mD Γ N sc a it d=ig/\du Γ N sc b e=ig:=by
 cases p<;>first|(exact aI h)|skip
 replace h:=ah h
 try simp! [zza] at h
 cases List.isEmpty_iff.mp h.1.1.1.1;exact{_,_,_,_,rfl,h.1.1.1.2,h.1.1.2,h.1.2,h.2}
def xl{ps:List j7}(h:du Γ N sc .nil ps=ig):ps=[]:=by
 cases ps with
 |nil=>rfl|cons _ _=>exact aI h
def tH{s:Ci.S}{a:Ss}{ps:List j7}(h:du Γ N sc (.cons s a) ps=ig):(∃i,s=.bL i/\du Γ N sc a ps=ig)\/∃q qs,ps=q::qs/\d7 Γ N sc s q=ig/\du Γ N sc a qs=ig:=by
 by_cases b:∃i,s=.bL i
 .let(i,rfl):=b;exact .inl ⟨i,rfl,h⟩
 .cases ps with
  |nil=>cases s<;>first|(exact absurd ⟨_,rfl⟩ b)|(exact aI h)
  |cons p ps=>
   have c:(d7 Γ N sc s p&&du Γ N sc a ps)=ig:=by
    cases s<;>first|(exact absurd ⟨_,rfl⟩ b)|(exact h)
   rw [zza] at c;exact .inr ⟨p,ps,rfl,c.1,c.2⟩
mutual
theorem N1(S:zv2 X)(d:Γ.qt=iv):∀(s:Ci.S) (p:j7),d7 Γ N sc s p=ig->GS X W F H0 E s p
 |.expr e,p,h=>Dj S e p h|.set i e,p,h=>xW S i e p h|.own i e,p,h=>Gk S i e p h|.Al t e,p,h=>Gp S d t e p h|.bL i,p,h=>Gj S i p h|.app i e,p,h=>Gi S i e p h|.ve i e,p,h=>Dk S i e p h|.put i u e,p,h=>Gn S i u e p h|.vP i e,p,h=>Dl S d i e p h|.kF i,p,h=>Di S i p h|.par i j as,p,h=>Gm S d i j as p h|.ret e,p,h=>xV S e p h|.ite c a b,p,h=>by let(q,A,w,pos,rfl,g,o,f,r):=xk h;exact Bl S ((aP c S.C _ o).gt g) (p7 S d a _ f) (p7 S d b _ r)|.gG t it b,p,h=>by let(y,z,w,pos,rfl,g,o,f,r):=E6 h;exact Jf S d g o (uz it S.C y z f) (ei f _) (p7 S d b _ r)|.raise c m,p,h=>zP S d c m p h
theorem p7(S:zv2 X)(b:Γ.qt=iv):∀(a:Ss) (ps:List j7),du Γ N sc a ps=ig->DR X W F H0 E a ps
 |.nil,ps,h=>by cases xl h;exact xb
 |.cons s a,ps,h=>by
  rcases tH h with⟨i,e,c⟩|⟨q,qs,e,d,c⟩
  .have:=EV (i:=i) (p7 S b a ps c);rw [<-e] at this;exact this
  .rw [e];exact tm (N1 S b s q d) (p7 S b a qs c)
end
mutual
noncomputable def KO:Ci.S->Bool
 |.set _ _=>ig|.ret _=>ig|.ite _ a b=>nH a&&nH b|_=>iv
noncomputable def nH:Ss->Bool
 |.nil=>ig|.cons s ss=>KO s&&nH ss
end
mutual
theorem Rx(S:zv2 X):∀(s:Ci.S) (p:j7),KO s=ig->d7 Γ N sc s p=ig->GS X W F H0 E s p
 |.set i e,p,_,h=>xW S i e p h|.ret e,p,_,h=>xV S e p h|.ite c a b,p,hz,h=>by unfold KO at hz;rw [zza] at hz;let(q,m,o,pos,rfl,d,f,g,j):=xk h;exact Bl S ((aP c S.C _ f).gt d) (xU S a _ hz.1 g) (xU S b _ hz.2 j)|.expr _,_,h,_=>aI h|.own _ _,_,h,_=>aI h|.Al _ _,_,h,_=>aI h|.bL _,_,h,_=>aI h|.app _ _,_,h,_=>aI h|.ve _ _,_,h,_=>aI h|.put _ _ _,_,h,_=>aI h|.vP _ _,_,h,_=>aI h|.kF _,_,h,_=>aI h|.par _ _ _,_,h,_=>aI h|.gG _ _ _,_,h,_=>aI h|.raise _ _,_,h,_=>aI h
theorem xU(S:zv2 X):∀(a:Ss) (ps:List j7),nH a=ig->du Γ N sc a ps=ig->DR X W F H0 E a ps
 |.nil,ps,_,h=>by cases xl h;exact xb
 |.cons s a,ps,hz,h=>by
  unfold nH at hz;rw [zza] at hz;rcases tH h with⟨i,e,b⟩|⟨q,qs,e,c,b⟩
  .rw [e] at hz;exact aI hz.1
  .rw [e];exact tm (Rx S s q hz.1 c) (xU S a qs hz.2 b)
end
end
end Ci
namespace L2
open PySem.Spec PyProof.Rows
def ai{K:zz8}{C c:iN}{b:Bool}(d:PySem.W.isClsIn K c=ig)(f:PySem.W.typeIn K (.ref c)=hT (.type "type"))(g:PySem.W.subIn K (.ref C) (.ref c)=hT b)(a:b=ig\/(C==c)=iv):PySem.W.kitOne K (.ref C) (.ref c)=hT b:=by
 have k:PySem.W.kitCls K (.ref C) (.ref c)=hT b:=by show(if((PySem.W.clsIn K c).isSome&&PySem.W.typeIn K (.ref c)==hT (.type "type"))=ig then PySem.W.subIn K (.ref C) (.ref c) else ie)=hT b;rw [show(PySem.W.clsIn K c).isSome=ig from d,f,g];rfl
 unfold PySem.W.kitOne;split
 .rename_i e;rcases a with rfl|a
  .rfl
  .have h:C=c:=ix.ref.inj (zzy.mp e);rw [h,beq_self_eq_true] at a;cases a
 .exact k
def BN{K:zz8}{C:iN}{T:String}{b:Bool}(a:PySem.W.kitMeta T=ig)(c:PySem.W.subIn K (.ref C) (.type T)=hT b):PySem.W.kitOne K (.ref C) (.type T)=hT b:=by
 unfold PySem.W.kitOne;split
 .rename_i e;cases zzy.mp e
 .show(if PySem.W.kitMeta T=ig then PySem.W.subIn K (.ref C) (.type T) else ie)=hT b;rw [if_pos a];exact c
def eZ{K:zz8}{C c:iN}{b:Bool}(a:PySem.W.subIn K (.ref c) (.type (zu 6))=hT ig)(d:PySem.W.isClsIn K c=ig)(e:PySem.W.typeIn K (.ref c)=hT (.type "type"))(f:PySem.W.subIn K (.ref C) (.ref c)=hT b):PySem.W.exmOne K (.ref C) (.ref c)=hT b:=by unfold PySem.W.exmOne;rw [a];show PySem.W.kitCls K (.ref C) (.ref c)=hT b;show(if((PySem.W.clsIn K c).isSome&&PySem.W.typeIn K (.ref c)==hT (.type "type"))=ig then PySem.W.subIn K (.ref C) (.ref c) else ie)=hT b;rw [show(PySem.W.clsIn K c).isSome=ig from d,e,f];rfl
set_option tactic.hygienic true in
def Ks{K:zz8}{C:iN}{g:List ix}{a:String}(X:K.In h)(hm:mg x=hT (.ref C))(q:PySem.W.excIn K C g a=ig):OwnCls x C g a mg h:=by
 constructor
 .exact hm
 .unfold PySem.W.excIn at q;split at q
  .rename_i p r s t;split at q
   .rename_i u b i j k2 k w m y z;simp! [zza,zzy,Bool.not_eq_true'] at q;let(((((q1,q2),q3),A),B),D):=q;subst q1 q2;let(E,bs,c,ns,F,hd,G,sub,H,d,e):=r;have I:c=.ref u::b:=y;have f:e=iv:=q3;have o:PySem.W.nsOkIn K ns=ig:=B;have J:PySem.W.nsIn K ns (zu 10)=hT ie:=D;subst I f;obtain⟨ls⟩:=s;have L:ls=[i,j,k2,k,hT (.builtin w),m]:=z;subst L;exact{b,ns,E,F,bs,hd,G,sub,H,d,p,i,j,k2,k,m,_,X _ _ t,.of_isNs (PySem.W.isNs_of_in X o),PySem.W.nsMap_none_of_in X o J,PySem.W.tail_of_in X A}
   .cases q
  .cases q
end L2
namespace Ci
open L2
noncomputable abbrev AZ:List Value:=[.type (zu 1),.type (zu 25),.type (zu 6),.type (zu 33)]
structure lC(K:zz8)(mg:Str->Option ix)(Γ:Pg)(W:Wd):Prop where
 hK:W.K=K
 hm:W.mg=mg
 gs:∀q∈Γ.gs,∃u v,mg q.1=hT u/\RelV v u/\∀G,Rep W G q.2 v
 bs:∀g∈Γ.bs,mg g=ie
 J9:Γ.cs.contains (zu 1)=iv
 cls:∀c∈Γ.cs,∃C,mg c=hT (.ref C)
 xc:∀d∈W.xs,∀D,mg d=hT (.ref D)->mw K D/\(∀c∈Γ.cs,∀C,mg c=hT (.ref C)->PySem.W.kitOne K (.ref D) (.ref C)=hT (c==d||c==(zu 7)))/\PySem.W.kitOne K (.ref D) (.type (zu 1))=hT ig
 xs:∀c,Γ.rs.contains c=ig->c∈W.xs
 rm:∀c,Γ.rs.contains c=ig->∃C,mg c=hT (.ref C)/\PySem.W.excIn K C AZ (zu 2)=ig
 LA:Γ.cs.contains (zu 7)=ig->∀c D,c∈W.xs->mg c=hT (.ref D)->∀T,mg (zu 7)=hT (.ref T)->PySem.W.exmOne K (.ref D) (.ref T)=hT ig
 bm:W.ts≠[]->∃bm o,mg "__builtins__"=hT (.ref bm)/\bm≠builtinsNs/\bm≠kd/\K.lookup bm=hT o/\o.cls=.type "module"/\o.dict=hT builtinsNs/\o.data=.plain
structure Row where
 f:Str
 h:Str
 d:Def
 st:j7
 hl:Bool:=iv
noncomputable abbrev fT:Type:=List Row
abbrev lE(l:fT):List Str:=l.filterMap λr=>if r.d.sD.isNone then hT r.f else ie
abbrev yT(l:fT):List Hs:=l.filterMap λr=>r.d.sD.map λq=>⟨r.f,r.h,q.1,q.2,r.d.np⟩
abbrev tab(l:fT):List (Str×Def):=l.map λq=>(q.f,q.d)
abbrev m8(l:fT):List Str:=match l.getLast? with|some r=>if r.d.sD.isNone then [r.f] else []|none=>[]
abbrev Pg.at(Γ:Pg)(l:fT)(hl:Bool):Pg:={Γ with fs:=lE l,hs:=yT l,hl:=hl,qt:=l.isEmpty,qs:=m8 l}
structure dH(Γ:Pg)(n:Str)(d:Def)(st:j7):Prop where
 sc:gV d.N (d.N.take d.np) (aq st)
 np:d.np<=d.N.length
 bind:∀(kV doc pm:ix) (an:Option iN) (cS ct:ix) (us:List ix),us.length=(d.N.take d.np).length->bindArgs (PySem.W.fnOf n n (bx st) (aR st) (aq st) .none kV doc pm an cS ct) {us,[]}=pure ((d.N.take d.np).zip us)
 OC:du Γ d.N (aq st) d.body (aR st)=ig
 VT:(!Γ.qt||nH d.body)=ig
theorem stM{Γ:Pg}{n:Str}{d:Def}(b:∀(kV a c:ix) (e:Option iN) (f ct:ix) (us:List ix),us.length=(d.N.take d.np).length->bindArgs (PySem.W.fnOf n n (bx st) (aR st) (aq st) .none kV a c e f ct) {us,[]}=pure ((d.N.take d.np).zip us))
 (a1:(aq st).kind=.function:=by rfl) (a2:(aq st).isCoroutine=iv:=by rfl) (g:(aq st).isGenerator=iv:=by rfl) (h:d.N.Nodup:=by decide+kernel) (i:d.N.take (d.N.take d.np).length=d.N.take d.np:=by rfl)
 (j:∀x∈d.N.take d.np,(aq st).names.lookup x=hT .local\/(aq st).names.lookup x=hT .cell:=by decide+kernel) (k:∀y∈(aq st).names,y.2≠.free:=by decide+kernel) (m:d.np<=d.N.length:=by decide+kernel) (o:du Γ d.N (aq st) d.body (aR st)=ig:=by decide+kernel) (Pp:(!Γ.qt||nH d.body)=ig:=by decide+kernel):dH Γ n d st:={⟨a1,a2,g,h,i,j,k⟩,m,b,o,Pp}
def eg(K:zz8)(c P:iN):Prop:=∃o a d f b g h e i,K.lookup c=hT o/\o.cls=.type "code"/\o.data=.fields a/\a[11]?=hT (.ref P)/\a.getD 11 .none=.ref P/\a.getD 18 .none=.str d f/\
 a.getD 7 .none=.int b g/\a.getD 9 .none=.bool h/\a.getD 10 .none=.int e i/\c≠P
abbrev iT(n:Str):Str:=(n++".<locals>.")++(zu 16)
def Aq(K:zz8)(ts:List (iN×Str))(hl:Bool)(n:Str)(st:j7):Prop:=∃(f:iN) (oc:ix) (e:Option iN) (kV a g:ix) (h:Option iN) (b ct:ix) (i:Array (Option ix)),
 PySem.W.nsIn K kd n=hT (hT (.ref f))/\K.lookup f=hT {oc,e,.func (PySem.W.fnOf n n (bx st) (aR st) (aq st) .none kV a g h b ct),i}/\PySem.W.codeIn K b n=ig/\PySem.W.keepIn K (.ref f)=ig/\
 (hl=ig->∃c P,b=.ref c/\eg K c P/\(P,iT n)∈ts/\∀d,(P,d)∈ts->d=iT n)
def PD{K:zz8}{ts:List (iN×Str)}{n:Str}{f:iN}{oc:ix}{e:Option iN}{kV b g:ix}{h:Option iN}{d ct:ix}{i:Array (Option ix)}(a:PySem.W.nsIn K kd n=hT (hT (.ref f)))
 (l:K.lookup f=hT {oc,e,.func (PySem.W.fnOf n n (bx st) (aR st) (aq st) .none kV b g h d ct),i}) (c:PySem.W.codeIn K d n=ig) (k:PySem.W.keepIn K (.ref f)=ig):Aq K ts iv n st:={f,oc,e,kV,b,g,h,d,ct,i,a,l,c,k,nofun}
structure Ar(K:zz8)(W:Wd)(B:aW):Prop where
 any:∀g as,B g as≠.bad->dY g=ig
 fld:∀f q,cg f≠d8->B (cg f) [q]≠.bad->∃n o p,q=.obj n/\W.ob[n]?=hT o/\bj o.c=iv/\o.fs.lookup f=hT p/\B (cg f) [q]=.ok p/\uM K o.C/\cb K o.C f
 con:∀q,B d8 [q]≠.bad->∃n o,q=.obj n/\W.ob[n]?=hT o/\bj o.c=ig/\B d8 [q]=.ok (yA o)
structure D8(K:zz8)(W:Wd)(B:aW):Prop where
 fld:∀f q,cg f≠d8->B (cg f) [q]≠.bad->∃n o p,q=.obj n/\W.ob[n]?=hT o/\bj o.c=iv/\o.fs.lookup f=hT p/\B (cg f) [q]=.ok p/\uM K o.C/\cb K o.C f
 con:∀q,B d8 [q]≠.bad->∃n o,q=.obj n/\W.ob[n]?=hT o/\bj o.c=ig/\B d8 [q]=.ok (yA o)
structure iy(P:i2)(w:i3)(K:zz8)(mg:Str->Option ix)(base:j2)(W:Wd)(F:aW)(k:Nat)(f:Str):Prop where
 ex:∃fa fd ps,d6 P w K mg base (cR P w) k fa fd ps (Dr W F f ps.length ie)/\mg f=hT (.ref fa)/\PySem.W.keepIn K (.ref fa)=ig/\Binds K fd ps []/\∀as,F f as≠.bad->as.length=ps.length
structure GQ(P:i2)(w:i3)(K:zz8)(mg:Str->Option ix)(base:j2)(W:Wd)(F:aW)(k:Nat)(q:Hs):Prop where
 ex:∃fa fd ps,d6 P w K mg base (cR P w) k fa fd ps (Dr W F q.f ps.length (hT (q.g,q.idx)))/\mg q.h=hT (.ref fa)/\PySem.W.keepIn K (.ref fa)=ig/\Binds K fd ps []/\ps.length=q.np
section
variable{K:zz8}{Γ:Pg}{W:Wd}
def yy{c p:iN}(f:K.In base)(h:eg K c p):PySem.W.CodeHd base c p:=by let(o,g,b,i,a,j,k,d,m,e,r):=h;exact{o,g,b,i,a,j,k,d,m,f _ _ e,r}
theorem vb(M:lC K mg Γ W)(b:K.In base){F:aW}{k:Nat}{ps:List Str}{sc:j1}(S:gV N ps sc)(O:∀f,Γ.fs.contains f=ig->iy P w K mg base W F k f)(Q:∀q∈Γ.hs,GQ P w K mg base W F k q)(r:∀f,Γ.qs.contains f=ig->2<=k/\iy P w K mg base W F 2 f)(hk:Γ.qt=iv->2<=k)(R:∀g as,F g as≠.bad->Γ.fs.contains g=ig\/dY g=ig)(t:D8 K W F){f:iN}{cd:ix}
 (u:Γ.hl=ig->∃c p,cd=.ref c/\eg K c p/\(p,iT qual)∈W.ts/\∀B,(p,B)∈W.ts->B=iT qual)   {s:iM}  {E:XK} (d:cL (k+1) (A.deeper (PyProof.Rows.envOfC qual sc (zz9 s) f cd))):
 dE Γ F W N sc k E (cU (cR P w) P w K mg base N qual sc f cd A outer s H E) where
 C:={rfl,rfl,λz=>Option.isNone_iff_eq_none.mpr (d.hd (by have:=hk z;omega)),S.nd,M.hK,M.hm,M.gs,M.bs,d,λg i=>{(O g i).ex},M.J9,M.cls,M.xc,λq m=>{(Q q m).ex},λf G=>{(r f G).1,{(r f G).2.ex}},R,t.fld,t.con,λz=>by
  let(c,p,I,J,a,L):=u z;exact{c,p,I,yy b J,a,L},λz=>by
  let(c,p,I,J,a,L):=u z;let(bm,o,T,U,V,X,Y):=M.bm (λy=>by rw [y] at a;cases a);exact{bm,o,T,U,V,b _ _ X,Y},λ_ _=>rfl}
 fn:=λ_=>rfl
 own:=PassesOwn.leaving
 pass:=NJ
 kind:=S.kind
 Ld:=rfl
 frame:=rfl
 xs:=M.xs
 rm:=λc Z=>let⟨C,h,_⟩:=M.rm c Z;⟨C,h⟩
 rz:=λm c z j np zp cp pos h1 h2 h3=>by let(C,hC,hx):=M.rm c h1;have i:Gl (cU (cR P w) P w K mg base N qual sc f cd A outer s H E) c:=zzy.mp h2;refine L2.PS.imp (CV i (Ks b hC hx) PySem.F.excBase_ValueError (aV CC bW) rfl rfl (dw h3).1 (Option.isNone_iff_eq_none.mpr (d.hd (by have:=hk m;omega)))) λD σ H1 h=>{(show 1<=j3 by decide),λe he=>h C e hC he}
 LA:=M.LA
def uC{as:List PV}(f:aw G H)(tb:ba W G H)(l:ag W G as vs)(hn:as.length<=N.length):SR W H (as.map .val++k6 (N.length-as.length) .no) (start N vs) G H:=by
 have hl:=l.length;unfold L2.start;refine{by simp;omega,f,gj.refl _,λi s e=>?_,λi j p q a b Z Z Z=>?_,tb,tb}
 .by_cases c:i<as.length
  .rw [eH (zx6 c),cz] at e;let(p,d,rfl):=bC.mp e;let(v,g,h):=l.mW d;exact{hT v,by rw [eH (by simpa using (show i<vs.length by omega)),cz,g];rfl,v,rfl,h}
  .rw [eO (zx6 c),List.getElem?_replicate] at e;split at e
   .rename_i k;cases e;rw [zzl] at k;exact{ie,by rw [eO (by simp;omega),List.getElem?_replicate,if_pos (by rw [zzl];omega)],trivial}
   .cases e
 .exfalso;by_cases c:i<as.length
  .rw [eH (zx6 c),cz] at b;let(p,d,e):=bC.mp b;cases e
  .rw [eO (zx6 c),List.getElem?_replicate] at b;split at b<;>cases b
def zR{d:Def}{as:List PV}(c:d.np<=d.N.length)(e:aw G H)(tb:ba W G H)(l:Am W G d.sD as vs)(a:vs.length=d.np):kA d as=ig/\SR W H (kO d as) (start d.N vs) G H:=by
 unfold kA kO;cases b:d.sD with
 |none=>rw [b] at l;have l:ag W G as vs:=l;exact{by rw [<-l.length,a];simp,uC e tb l (by rw [<-l.length,a];exact c)}|some q=>rw [b] at l;exact l.elim
def G9(M:lC K mg Γ W)(u:K.In base){F:aW}{k:Nat}{n nf:Str}{d:Def}{i:iN}{fd:FuncData}(St:dH Γ n d st)(y:HH K n n st i fd)(z:∀f,Γ.fs.contains f=ig->iy P w K mg base W F k f)(B:∀q∈Γ.hs,GQ P w K mg base W F k q)(C:∀f,Γ.qs.contains f=ig->2<=k/\iy P w K mg base W F 2 f)(hk:Γ.qt=iv->2<=k)(D:∀g as,F g as≠.bad->Γ.fs.contains g=ig\/dY g=ig)(I:D8 K W F)
 (J:Γ.hl=ig->∃c p,fd.code=.ref c/\eg K c p/\(p,iT n)∈W.ts/\∀j,(p,j)∈W.ts->j=iT n):
 d6 P w K mg base (cR P w) (k+2) i fd (d.N.take d.np) (Dr W (λ_ as=>j8 F d as) nf (d.N.take d.np).length d.sD):=by
 have a:(d.N.take d.np).length=d.np:=by rw [List.length_take];have:=St.np;omega
 let(oc,Z,kV,L,pm,an,cS,ct,oh,rfl,O,R):=y.ex;refine A6 O R St.sc (λS H Q E h=>h.1) λA outer s H S Q E T h=>?_;let(hl,G,as,U,tb,l,o):=h;rw [a] at hl;let(V,sr):=zR St.np U tb l hl;have m:=vb (outer:=outer) (s:=s) (H:=H) (E:=E) M u St.sc z B C hk D I J T
 refine{TQ W F H E d.body,(by
  cases t:Γ.qt with
  |false=>exact p7 m t d.body _ St.OC|true=>exact xU m d.body _ (by have:=St.VT;rw [t] at this;exact this) St.OC),G,kO d as,sr,?_}
 dsimp only at o;unfold j8 at o;rw [if_pos V] at o;cases r:f6 F d.body (kO d as) with
 |bad=>rw [r] at o;exact o|exc c=>rw [r] at o;exact o|ok fl=>
  rw [r] at o;cases fl with
  |nx env=>exact λX b e sr g=>o .aE b e g .n|rt p=>exact λv b e Y g=>o v b e g Y|bk env=>exact o.elim|ct env=>exact o.elim
def AllK(K:zz8)(ts:List (iN×Str))(Γ:Pg):fT->Prop
 |[]=>True|r::l=>Aq K ts r.hl r.h r.st/\dH (Γ.at l r.hl) r.h r.d r.st/\((l.map (·.f)).contains r.f=iv/\(r.d.sD.isNone==!dY r.f)=ig/\(r.d.sD.isNone=ig->r.f=r.h)/\Mf r.f=iv)/\AllK K ts Γ l
def qO(M:lC K mg Γ W)(l:fT)(hl:Bool):lC K mg (Γ.at l hl) W:=⟨M.hK,M.hm,M.gs,M.bs,M.J9,M.cls,M.xc,M.xs,M.rm,M.LA,M.bm⟩
def iy.mono{F:aW}{k:Nat}(h:iy P w K mg base W F j f)(hk:j<=k):iy P w K mg base W F k f:=by let(a,fd,b,c,d):=h.ex;exact{a,fd,b,c.mono hk,d}
def nR{F a:aW}{b:Str}{n:Nat}{q:Option (Str×List Nat)}(e:∀as,a b as=F f as):Dr W a b n q=Dr W F f n q:=by
 funext c H Q E
 unfold Dr;simp! [e]
def iy.swap{F a:aW}{k:Nat}(h:iy P w K mg base W F k f)(e:∀as,a f as=F f as):iy P w K mg base W a k f:=by let(b,fd,c,d,g,i,j,m):=h.ex;refine{b,fd,c,?_,g,i,j,λas o=>m as (by rw [<-e];exact o)};rw [nR e];exact d
def GQ.swap{F a:aW}{k:Nat}{q:Hs}(h:GQ P w K mg base W F j q)(hk:j<=k)(e:∀as,a q.f as=F q.f as):GQ P w K mg base W a k q:=by let(b,fd,c,d,g,i,m,o):=h.ex;refine{b,fd,c,?_,g,i,m,o};rw [nR e];exact d.mono hk
variable{B:aW}
def gA{r:Row}{l:fT}{g:Str}(h:(g==r.f)=iv)(as:List PV):b8 B (tab (r::l)) g as=b8 B (tab l) g as:=by show(if(g==r.f)=ig then _ else _)=_;rw [h];rfl
def sM{r:Row}{l:fT}(as:List PV):b8 B (tab (r::l)) r.f as=j8 (b8 B (tab l)) r.d as:=by show(if(r.f==r.f)=ig then _ else _)=_;rw [beq_self_eq_true];rfl
theorem lR(a:∀g as,B g as≠.bad->dY g=ig):∀(l:fT) {ts:List (iN×Str)},AllK K ts Γ l->∀g as,b8 B (tab l) g as≠.bad->(lE l).contains g=ig\/dY g=ig
 |[],_,_,g,as,h=>.inr (a g as h)|r::l,ts,⟨_,_,⟨_,hn,_,_⟩,c⟩,g,as,h=>by
  by_cases e:(g==r.f)=ig
  .have i:=zzy.mp e
   subst i;cases b:r.d.sD with
   |none=>left;unfold lE;rw [List.filterMap_cons,b];simp|some q=>right;rw [b] at hn;simpa using hn
  .rw [gA (zx6 e)] at h;rcases lR a l c g as h with z|z
   .left;unfold lE at z⊢;rw [List.filterMap_cons];split
    .exact z
    .rw [List.contains_cons,z,Bool.or_true]
   .exact .inr z
def g9:∀{l:fT} {f:Str},(m8 l).contains f=ig->l≠[]/\(lE l).contains f=ig:=by
 intro l f h;unfold m8 at h;cases e:l.getLast? with
 |none=>rw [e] at h;cases h
 |some r=>
  rw [e] at h;have hm:=List.mem_of_getLast? e;refine{λz=>(by rw [z] at hm;cases hm),?_};dsimp only at h;split at h
  .rename_i a;have b:f=r.f:=zx6 h;rw [eu,b];exact fP.mpr {r,hm,if_pos a}
  .cases h
def wK(f:Str):Mf (cg f)=ig:=by unfold Mf cg;show((("@":Str)++f).cps[0]?==hT 64)=ig;have e:(("@":Str)++f).cps=("@":Str).cps++f.cps:=rfl;rw [e];simp [Array.getElem?_append];rfl
theorem gB:∀(l:fT) {ts:List (iN×Str)},AllK K ts Γ l->∀g as,Mf g=ig->b8 B (tab l) g as=B g as
 |[],_,_,_,_,_=>rfl|r::l,ts,⟨_,_,⟨_,_,_,h0⟩,b⟩,g,as,a=>by
  have e:(g==r.f)=iv:=by
   cases z:g==r.f with
   |false=>rfl|true=>rw [zzy.mp z,h0] at a;cases a
  rw [gA e];exact gB l b g as a
theorem qA(c:Ar K W B)(l:fT){ts:List (iN×Str)}(h:AllK K ts Γ l):D8 K W (b8 B (tab l)) where
 fld:=λf q d a=>by rw [gB l h _ _ (wK f)] at a;let(n,o,p,b):=c.fld f q d a;exact{n,o,p,by rw [gB l h _ _ (wK f)];exact b}
 con:=λq a=>by rw [gB l h _ _ (by rfl)] at a;let(n,o,b):=c.con q a;exact{n,o,by rw [gB l h _ _ (by rfl)];exact b}
set_option tactic.hygienic true in
theorem uW(D:Ar K W B)(M:lC K mg Γ W)(t:K.In base)(G:base.Ns kd mg):∀(l:fT),AllK K W.ts Γ l->(∀f,(lE l).contains f=ig->iy P w K mg base W (b8 B (tab l)) (2*l.length) f)/\(∀q∈yT l,GQ P w K mg base W (b8 B (tab l)) (2*l.length) q)/\∀f,(m8 l).contains f=ig->iy P w K mg base W (b8 B (tab l)) 2 f
 |[],_=>{λf a=>by simp [lE] at a,λq b=>by simp [yT] at b,λf a=>absurd rfl (g9 a).1}|r::l,j=>by
  let(he,hs,(Z,hnm,E,_),F):=j;let(R,m,o):=uW D M t G l F;have p:l≠[]->2<=2*l.length:=λz=>by have:=List.length_pos_iff.mpr z;omega
  let(S,oc,od,kV,doc,pm,an,cS,ct,oh,T,e2,e3,H,e5):=he;have I:=qF (st:=r.st) e2 e3 H;have ok:=G9 (P:=P) (w:=w) (nf:=r.f) (qO M l r.hl) t (k:=2*l.length) hs I (λg u=>R g u) (λq b=>m q b) (λf a=>{p (g9 a).1,o f a}) (λz=>p λy=>by subst y;cases z) (lR D.any l F) (qA D l F) e5
  have J:∀g,(l.map (·.f)).contains g=ig->(g==r.f)=iv:=λg u=>by
   cases z:g==r.f with
   |false=>rfl|true=>rw [zzy.mp z,Z] at u;cases u
  have sp:Dr W (λ_ as=>j8 (b8 B (tab l)) r.d as) r.f (r.d.N.take r.d.np).length r.d.sD=Dr W (b8 B (tab (r::l))) r.f (r.d.N.take r.d.np).length r.d.sD:=nR λas=>(sM as).symm;rw [sp] at ok;have c:(r.d.N.take r.d.np).length=r.d.np:=by rw [List.length_take];have:=hs.np;omega
  have U:∀f,(lE l).contains f=ig->(l.map (·.f)).contains f=ig:=λf a=>by
   rw [eu] at a⊢;unfold lE at a;let(x,L,e):=fP.mp a;split at e
   .cases e;exact List.mem_map_of_mem (f:=(·.f)) L
   .cases e
  have h:∀f,(lE (r::l)).contains f=ig->iy P w K mg base W (b8 B (tab (r::l))) (2*(r::l).length) f:=λf a=>by
   by_cases V:(f==r.f)=ig/\r.d.sD=ie
   .let(h1,O):=V;have e:=zzy.mp h1;subst e;refine{S,_,r.d.N.take r.d.np,by rw [O] at ok;exact ok,?_,H,I.binds hs.bind,λas A=>?_}
    .rw [E (by rw [O];rfl)];exact PySem.W.mg_of t G T
    .rw [sM] at A;unfold j8 at A;by_cases C:kA r.d as=ig
     .unfold kA at C;rw [O] at C;rw [c];exact zzy.mp C
     .rw [if_neg C] at A;exact absurd rfl A
   .have X:(lE l).contains f=ig:=by
     unfold lE at a⊢;rw [List.filterMap_cons] at a;split at a
     .exact a
     .rename_i y Q;split at Q
      .rename_i s;cases Q;rw [List.contains_cons,e6] at a;rcases a with z|z
       .exact absurd {z,Option.isNone_iff_eq_none.mp s} V
       .exact z
      .cases Q
    exact((R f X).mono (by rw [bE];omega)).swap λas=>gA (J f (U f X)) as
  refine{h,λq b=>?_,λf a=>?_}
  rotate_left
  .cases l with
   |nil=>exact h f (g9 a).2|cons x Y=>
    have e:m8 (r::x::Y)=m8 (x::Y):=by unfold m8;rw [List.getLast?_cons_cons]
    rw [e] at a;exact(o f a).swap λas=>gA (J f (U f (g9 a).2)) as
  .unfold yT at b;rw [List.filterMap_cons] at b;have i:q∈yT l->GQ P w K mg base W (b8 B (tab (r::l))) (2*(r::l).length) q:=λb=>by
    refine(m q b).swap (by rw [bE];omega) λas=>gA (J q.f ?_) as;unfold yT at b;let(x,L,e):=fP.mp b;let(y,_,rfl):=bC.mp e;rw [eu];exact List.mem_map_of_mem (f:=(·.f)) L
   cases s:r.d.sD with
   |none=>rw [s] at b;exact i b|some y=>
    rw [s] at b;rcases el.mp b with z|z
    .subst z;rw [s] at ok;exact{S,_,r.d.N.take r.d.np,ok,PySem.W.mg_of t G T,H,I.binds hs.bind,c}
    .exact i z
end
structure OS where
 c:Str
 fs:List (Str×PV)
noncomputable abbrev Sg:=List OS
abbrev Mv(o:OS):PV:=if Aj o.c then .bU (o.fs.map (·.1)) (o.fs.map (·.2)) else .lst (o.fs.map (·.2))
abbrev A3(o:OS)(g:Str):Res PV:=match o.fs.find? λq=>cg q.1==g with
 |some q=>.ok q.2|none=>.bad
abbrev vg(s:Sg):aW:=λg as=>match as with
 |[.obj n]=>(match s[n]? with
  |some o=>if bj o.c then(if g==d8 then .ok (Mv o) else .bad) else if g==d8 then .bad else A3 o g
  |none=>.bad)
 |_=>.bad
inductive Rs(α:Type) where
 |ok (a:α) (s:Sg)|exc (c:Str) (s:Sg)|bad
abbrev Rs.bind{b d:Type}:Rs b->(b->Sg->Rs d)->Rs d
 |.ok a s,f=>f a s|.exc c s,_=>.exc c s|.bad,_=>.bad
abbrev Rs.of{b:Type}(r:Res b)(s:Sg):Rs b:=match r with
 |.ok a=>.ok a s|.exc c=>.exc c s|.bad=>.bad
abbrev Rs.well{b:Type}:Rs b->Rs b
 |.ok a s=>.ok a s|_=>.bad
noncomputable abbrev gd:=Str->List PV->Sg->Rs PV
abbrev oE(c m:Str):Str:=(c++".")++m
mutual
inductive X2 where
 |pu (e:E)
 |Aa (f:Str) (as:Es)
 |c1 (f:Str) (as:rN)
 |met (o:E) (c m:Str) (as:Es)
 |new (c:Str) (as:Es)
 |tup (as:rN)
 |cmp (o:rZ) (a b:X2)
 |comp (k:Nat) (aM:List Nat) (tg:Tg) (it:I) (elt:X2)
 |sH (k:Nat) (aM:List Nat) (tg:Tg) (it elt:X2)
 |kF
 |qM (as:rN)
 |dict (x:X2)
 |fY (a:E) (x:X2)
 |zG (a:E)
 |sR (a k:E)
 |sub (x:X2) (e:E)
 |ite (c:E) (a b:X2)
 |and (a b:X2)
 |Ih (a:E)
 |JT (a:E)
 |uI (f:Str) (aM:List Nat) (x:X2)
inductive rN where
 |nil|cons (x:X2) (xs:rN)
end
abbrev bz(f:PV->Sg->Rs PV):List PV->Sg->Rs (List PV)
 |[],s=>.ok [] s|x::xs,s=>(f x s).well.bind λy s1=>(bz f xs s1).bind λys a=>.ok (y::ys) a
abbrev Ml(p:PV)(s:Sg):Rs Bool:=match p with
 |.bl b=>.ok b s|_=>.bad
abbrev jk{a:Type}(s:Sg)(k:Str->Bool)(p:PV)(f:Nat->OS->Rs a):Rs a:=match p with
 |.obj n=>(match s[n]? with
  |some o=>if k o.c then f n o else .bad
  |none=>.bad)
 |_=>.bad
abbrev B5(c:Str)(fs:List (Str×PV))(s:Sg):Rs PV:=.ok (.obj s.length) (s++[⟨c,fs⟩])
abbrev putD(z:Str)(p:PV)(fs:List (Str×PV)):List (Str×PV):=(il (fs.map (·.1)) z).zip (dU (fs.map (·.1)) (fs.map (·.2)) z p)
abbrev fU(z:Str)(fs:List (Str×PV)):List (Str×PV):=(iK (fs.map (·.1)) z).zip (cj (fs.map (·.1)) (fs.map (·.2)) z)
abbrev sA:List Nat->Sl->Res Sl
 |[],_=>.ok []|i::r,env=>(p6 env[i]?).bind λp=>(sA r env).bind λps=>.ok (.val p::ps)
section
variable(F1:Sg->aW)(F2:gd)
abbrev qy(s:Sg)(n:Nat)(c:Str):Bool:=match s[n]? with
 |some o=>o.c==c&&!bj c|none=>iv
abbrev B6(c:Str)(ps:List PV)(s:Sg):Rs PV:=if bj c then .bad else(F2 (oE c (zu 10)) (.obj s.length::ps) (s++[{c,[]}])).bind λp a=>if xq p then .ok (.obj s.length) a else .bad
mutual
noncomputable def cT:X2->Sl->Sg->Rs PV
 |.pu e,env,s=>.of (aG (F1 s) e env) s|.Aa f as,env,s=>(Rs.of (dv (F1 s) as env) s).bind λps s=>F2 f ps s|.c1 f as,env,s=>(iJ as env s).bind λps s=>.of (F1 s f ps) s|.met o c m as,env,s=>(Rs.of (aG (F1 s) o env) s).bind λp s=>(match p with
  |.obj n=>if qy s n c then(Rs.of (dv (F1 s) as env) s).bind λps s=>F2 (oE c m) (.obj n::ps) s else .bad
  |_=>.bad)
 |.new c as,env,s=>(Rs.of (dv (F1 s) as env) s).bind λps s=>B6 F2 c ps s|.tup as,env,s=>(iJ as env s).bind λps s=>.ok (.tup ps) s|.cmp o a b,env,s=>(cT a env s).bind λp s=>(cT b env s).bind λq s=>.of (cX o p q) s|.comp k g i it elt,env,s=>(Rs.of (yJ (F1 s) it env) s).bind λxs s=>if xs.length<hZ then(bz (λx s=>(Rs.of (i.put x (k6 k .no++fv env g)) s).bind λh s=>cT elt h s) xs s).bind λys s=>.ok (.lst ys) s else .bad
 |.sH k g i it elt,env,s=>(cT it env s).bind λp s=>(match p with
  |.lst xs=>if xs.length<hZ then(bz (λx s=>(Rs.of (i.put x (k6 k .no++fv env g)) s).bind λh s=>cT elt h s) xs s).bind λys s=>.ok (.lst ys) s else .bad
  |_=>.bad)
 |.kF,_,s=>B5 "#d" [] s|.qM as,env,s=>(iJ as env s).bind λps s=>B5 "#l" (ps.map λp=>(("":Str),p)) s|.dict x,env,s=>(cT x env s).bind λp s=>.of (jc [p]) s|.fY a x,env,s=>(Rs.of (aG (F1 s) a env) s).bind λq s=>jk s BC q λZ Z=>(cT x env s).bind λp s=>jk s BC q λn o=>if o.fs.length<hZ then .ok PV.aE (s.set n {o.c,o.fs++[(("":Str),p)]}) else .bad
 |.zG a,env,s=>(Rs.of (aG (F1 s) a env) s).bind λq s=>jk s BC q λn o=>match o.fs[o.fs.length-1]? with
  |some p=>.ok p.2 (s.set n ⟨o.c,o.fs.dropLast⟩)|none=>.bad
 |.sR a k,env,s=>(Rs.of (aG (F1 s) a env) s).bind λq s=>jk s Aj q λZ Z=>(Rs.of (aG (F1 s) k env) s).bind λz s=>jk s Aj q λn o=>match fJ z with
  |some z=>(match cm (o.fs.map (·.1)) (o.fs.map (·.2)) z with
   |some p=>.ok p (s.set n {o.c,fU z o.fs})|none=>.bad)
  |none=>.bad
 |.sub x e,env,s=>(cT x env s).bind λp s=>(Rs.of (aG (F1 s) e env) s).bind λq s=>.of (dC p q) s|.ite c a b,env,s=>(Rs.of (aG (F1 s) c env) s).bind λp s=>(Ml p s).bind λt s=>if t then cT a env s else cT b env s
 |.and a b,env,s=>(cT a env s).bind λp s=>(Ml p s).bind λt s=>if t then cT b env s else .ok (.bl iv) s
 |.Ih a,env,s=>(Rs.of (aG (F1 s) a env) s).bind λq s=>jk s Aj q λZ o=>B5 "#d" o.fs s|.JT a,env,s=>(Rs.of (aG (F1 s) a env) s).bind λq s=>jk s BC q λZ o=>B5 "#l" o.fs s|.uI _ g x,env,s=>(Rs.of (sA g env) s).bind λh s=>match cT x h s with
  |.exc d s'=>.of (F1 s' (zu 13) [.exc d]).well s'|r=>r
noncomputable def iJ:rN->Sl->Sg->Rs (List PV)
 |.nil,_,s=>.ok [] s|.cons x xs,env,s=>(cT x env s).bind λp s=>(iJ xs env s).bind λps s=>.ok (p::ps) s
end
end
inductive T2 where
 |pu (e:E)|cmp (o:rZ) (a b:X2)|or (a b:T2)
section
variable(F1:Sg->aW)(F2:gd)
abbrev Il:T2->Sl->Sg->Rs Bool
 |.pu e,env,s=>(Rs.of (aG (F1 s) e env) s).bind Ml|.cmp o a b,env,s=>(cT F1 F2 (.cmp o a b) env s).bind Ml|.or a b,env,s=>(Il a env s).bind λt s=>if t then .ok ig s else Il b env s
end
mutual
inductive S2 where
 |p (s:S)
 |set (i:Nat) (x:X2)
 |par (i j:Nat) (xs:rN)
 |Al (tg:Tg) (x:X2)
 |ex (x:X2)
 |ret (x:X2)
 |uy (c:Str) (i:Nat) (f:Str) (x:X2)
 |C3 (a k e:E)
 |ite (c:T2) (a b:qg)
 |gG (tg:Tg) (it:I) (b:qg)
inductive qg where
 |nil|cons (s:S2) (ss:qg)
end
abbrev nF(f:Str)(p:PV):List (Str×PV)->List (Str×PV)
 |[]=>[(f,p)]|(g,q)::r=>if g=f then(g,p)::r else(g,q)::nF f p r
abbrev K4(s:Sg)(n:Nat)(f:Str)(p:PV):Rs Unit:=match s[n]? with
 |some o=>if o.fs.length<1000 then .ok () (s.set n {o.c,nF f p o.fs}) else .bad
 |none=>.bad
abbrev gF(body:PV->Sl->Sg->Rs Fl):List PV->Sl->Sg->Rs Fl
 |[],env,s=>.ok (.nx env) s|x::xs,env,s=>(body x env s).bind λf s=>match f with
  |.nx a=>gF body xs a s|.ct a=>gF body xs a s|.bk a=>.ok (.nx a) s|.rt p=>.ok (.rt p) s
abbrev NX(f:Fl)(s:Sg)(k:Sl->Sg->Rs Fl):Rs Fl:=match f with
 |.nx env=>k env s|f=>.ok f s
abbrev clean(f:Fl):Res Fl:=match f with
 |.nx env=>if env.any Slot.bH then .bad else .ok (.nx env)
 |.rt p=>.ok (.rt p)|_=>.bad
section
variable(F1:Sg->aW)(F2:gd)
mutual
noncomputable def pF:S2->Sl->Sg->Rs Fl
 |.p st,env,s=>.of ((mR (F1 s) st env).bind clean) s|.set i x,env,s=>(cT F1 F2 x env s).bind λp s=>.ok (.nx (env.set i (.val p))) s|.par i j xs,env,s=>(iJ F1 F2 xs env s).bind λps s=>(match ps with
  |[p,q]=>.ok (.nx ((env.set i (.val p)).set j (.val q))) s|_=>.bad)
 |.Al d x,env,s=>(cT F1 F2 x env s).bind λp s=>(Rs.of (d.put p env) s).bind λg s=>.ok (.nx g) s|.ex x,env,s=>(cT F1 F2 x env s).bind λZ s=>.ok (.nx env) s|.ret x,env,s=>(cT F1 F2 x env s).bind λp s=>.ok (.rt p) s|.uy c i f x,env,s=>(cT F1 F2 x env s).bind λp s=>(match env[i]? with
  |some (.val (.obj n))=>if qy s n c then(K4 s n f p).bind λZ s=>.ok (.nx env) s else .bad
  |_=>.bad)
 |.C3 a k e,env,s=>(Rs.of (aG (F1 s) e env) s).bind λp s=>(Rs.of (aG (F1 s) a env) s).bind λq s=>(Rs.of (aG (F1 s) k env) s).bind λz s=>(jk s Aj q λn o=>match fJ z with
  |some z=>if o.fs.length<hZ then .ok PV.aE (s.set n {o.c,putD z p o.fs}) else .bad
  |none=>.bad).bind λZ s=>.ok (.nx env) s
 |.ite c a b,env,s=>(Il F1 F2 c env s).bind λt s=>if t then bA a env s else bA b env s
 |.gG d it b,env,s=>(Rs.of (yJ (F1 s) it env) s).bind λxs s=>gF (λx env s=>(Rs.of (d.put x env) s).bind λg s=>bA b g s) xs env s
noncomputable def bA:qg->Sl->Sg->Rs Fl
 |.nil,env,s=>.ok (.nx env) s|.cons st ss,env,s=>(pF st env s).bind λf s=>NX f s (bA ss)
end
end
structure D2 where
 N:List Str
 np:Nat
 body:qg
abbrev nX(d:D2)(as:List PV):Sl:=as.map .val++k6 (d.N.length-as.length) .no
abbrev nM(F1:Sg->aW)(F2:gd)(d:D2)(as:List PV)(s:Sg):Rs PV:=
 if as.length==d.np then(bA F1 F2 d.body (nX d as) s).bind λf s=>(match f with
  |.nx _=>.ok .aE s|.rt p=>.ok p s|_=>.bad)
 else .bad
abbrev eX(F1:Sg->aW):List (Str×D2)->gd
 |[],_,_,_=>.bad|(n,d)::r,f,as,s=>if f==n then nM F1 (eX F1 r) d as s else eX F1 r f as s
noncomputable abbrev Wd.at(W:Wd)(ob:List Ob):Wd:={W with ob:=ob}
abbrev aA(l:List Ob):Sg:=l.map λo=>⟨o.c,o.fs⟩
def yf(ob d:List Ob):Prop:=∀(n:Nat) (o:Ob),ob[n]?=hT o->∃b,d[n]?=hT b/\b.a=o.a/\b.dx=o.dx/\b.C=o.C/\b.c=o.c
def yf.refl(ob:List Ob):yf ob ob:=λZ o h=>⟨o,h,rfl,rfl,rfl,rfl⟩
theorem yf.trans{a b c:List Ob}(h:yf a b)(k:yf b c):yf a c:=λn o e=>by let(o1,d,f,g,i,j):=h n o e;let(o2,m,p,k2,q,r):=k n o1 d;exact{o2,m,p.trans f,k2.trans g,q.trans i,r.trans j}
section
variable{W:Wd}{ob aB:List Ob}
mutual
theorem Rep.at(i:yf ob aB):∀(p:PV) {v:V},Rep (W.at ob) G p v->Rep (W.at aB) G p v
 |.aE,_,h=>by simpa only [Rep] using h|.bl b,_,h=>by simpa only [Rep] using h|.int _,_,h=>by simpa only [Rep] using h|.str z,_,h=>by simpa only [Rep] using h|.tup xs,_,h=>by simp! [Rep] at h⊢;let(a,vs,e,q,l):=h;exact{a,vs,e,q,ag.at i xs l}|.lst xs,_,h=>by simp! [Rep] at h⊢;let(a,vs,e,q,l):=h;exact{a,vs,e,q,ag.at i xs l}|.exc c,_,h=>by simpa only [Rep] using h|.bU k vs,_,h=>by simp! [Rep] at h⊢;let(a,o,d,e,n,m,l):=h;exact{a,o,d,e,n,m,ag.at i vs l}|.obj n,_,h=>by simp! [Rep] at h⊢;let(o,e,rfl):=h;let(f,g,j,_):=i n o e;exact{f,g,by rw [j]}
theorem ag.at(i:yf ob aB):∀(ps:List PV) {vs:List V},ag (W.at ob) G ps vs->ag (W.at aB) G ps vs
 |[],_,h=>by simpa only [ag] using h|p::ps,_,h=>by simp! [ag] at h⊢;let(v,r,e,a,b):=h;exact{v,r,e,Rep.at i p a,ag.at i ps b}
end
end
def uU(H d:Hp):Prop:=∀b o,H b=hT o->∃c,d b=hT c/\((∀a,o≠.tup a)->∀a,c≠.tup a)
def uU.refl(H:Hp):uU H H:=λZ o h=>⟨o,h,id⟩
theorem uU.trans{d:Hp}(a:uU H H1)(b:uU H1 d):uU H d:=λc o h=>by let(o1,e,f):=a c o h;let(o2,g,k2):=b c o1 e;exact{o2,g,λn=>k2 (f n)}
def gj.Rw{c:Hp}(h:gj H c):uU H c:=λb o e=>by
 rcases h b o e with⟨n,a⟩|⟨d,m,rfl,a⟩
 .exact⟨o,a,id⟩
 .exact{_,a,λZ Z z=>nomatch z}
def uU.of{a:Hp}(h:aw H a):uU H a:=λb o e=>{o,h b o e,id}
def uU.has{b:Hp}(h:uU H b)(z:H a≠ie):b a≠ie:=by
 cases e:H a with
 |none=>exact absurd e z|some o=>let(d,c,_):=h a o e;rw [c];exact nofun
theorem uU.iq{b:Hp}(h:uU H b)(z:H a≠ie)(n:∀vs,H a≠hT (.tup vs)):∀vs,b a≠hT (.tup vs):=λvs y=>by
 cases e:H a with
 |none=>exact absurd e z|some o=>let(f,c,k):=h a o e;rw [y] at c;cases c;exact k (λd q=>n d (by rw [e,q])) vs rfl
structure eT(W:Wd)(ob:List Ob)(G H:Hp)(aB:List Ob)(G' H':Hp):Prop where
 ids:yf ob aB
 g:aw G G'
 h:uU H H'
 sub:aw G' H'
 own:∀a,H a≠ie->(∀vs,H a≠hT (.tup vs))->G a=ie->G' a=ie
 tab:ba (W.at ob) G H->ba (W.at aB) G' H'
section
variable{W:Wd}{ob aB bI gb:List Ob}{G' H' G1 G2 H2:Hp}
def eT.refl(s:aw G H):eT W ob G H ob G H:={.refl _,.refl _,.refl _,s,λZ Z Z h=>h,id}
def eT.trans(a:eT W ob G H bI G1 H1)(b:eT W bI G1 H1 gb G2 H2):eT W ob G H gb G2 H2:=
 {a.ids.trans b.ids,a.g.trans b.g,a.h.trans b.h,b.sub,λx c d e=>b.own x (a.h.has c) (a.h.iq c d) (a.own x c d e),λt=>b.tab (a.tab t)}
def az.i7(g:az (W.at ob) G H G' H'):eT W ob G H ob G' H':={.refl _,g.g,g.h.Rw,g.sub,g.own,g.tab}
def eT.rep{p:PV}(g:eT W ob G H aB G' H')(h:Rep (W.at ob) G p v):Rep (W.at aB) G' p v:=Rep.same g.g p (Rep.at g.ids p h)
def eT.NV{p:List PV}{v:List V}(g:eT W ob G H aB G' H')(h:ag (W.at ob) G p v):ag (W.at aB) G' p v:=ag.same g.g p (ag.at g.ids p h)
theorem J5(h:env.any Slot.bH=iv)(i:Nat)(p:PV):env[i]?≠hT (.own p):=λe=>by have:env.any Slot.bH=ig:=ej.mpr {_,a7 e,rfl};rw [this] at h;cases h
theorem SR.i7(r:SR (W.at ob) H0 env σ G H)(no:env.any Slot.bH=iv)(g:eT W ob G H aB G' H'):SR (W.at aB) H' env σ G' H' where
 len:=r.len
 sub:=g.sub
 base:=.refl _
 slot:=λi s e=>by
  let(o,a,b):=r.slot i s e
  refine{o,a,?_};cases s with
  |no=>exact trivial|val p=>let(v,e,q):=b;exact{v,e,g.rep q}|own p=>exact absurd e (J5 no i p)
 apart:=r.apart
 tab:=g.tab r.tab
 ib:=g.tab r.tab
structure Ent(ob:List Ob)(G H:Hp)(aB:List Ob)(G' H0:Hp):Prop where
 ids:yf ob aB
 g:aw G G'
 h:uU H H0
 own:∀a,H a≠ie->(∀vs,H a≠hT (.tup vs))->G a=ie->G' a=ie
variable{obe:List Ob}{Ge He:Hp}
def Ent.refl:Ent ob G H ob G H:={.refl _,.refl _,.refl _,λZ Z Z h=>h}
def Ent.i7(n:Ent obe Ge He ob G H0)(r:SR (W.at ob) H0 env σ G H):eT W obe Ge He ob G H:={n.ids,n.g,n.h.trans r.base.Rw,r.sub,n.own,λZ=>r.tab}
def Ent.on(n:Ent obe Ge He ob G H0)(r:SR (W.at ob) H0 env σ G H)(g:eT W ob G H aB G' H'):Ent obe Ge He aB G' H':=by have k:=(n.i7 r).trans g;exact⟨k.ids,k.g,k.h,k.own⟩
def Ent.step(n:Ent obe Ge He ob G H0)(g:az (W.at ob) G H0 G' H'):Ent obe Ge He ob G' H0:={n.ids,n.g.trans g.g,n.h,λa b c d=>g.own a (n.h.has b) (n.h.iq b c) (n.own a b c d)}
def Ent.fin(n:Ent obe Ge He ob G H0)(t:ba (W.at ob) G H0)(g:az (W.at ob) G H0 G' H'):eT W obe Ge He ob G' H':={n.ids,n.g.trans g.g,n.h.trans g.h.Rw,g.sub,λa b c d=>g.own a (n.h.has b) (n.h.iq b c) (n.own a b c d),λZ=>g.tab t}
end
structure kq(K:zz8)(mg:Str->Option ix)(ob:List Ob):Prop where
 inj:∀(n m:Nat) (o o':Ob),ob[n]?=hT o->ob[m]?=hT o'->o.a=o'.a->n=m
 cls:∀(n:Nat) (o:Ob),ob[n]?=hT o->bj o.c=iv->mg o.c=hT (.ref o.C)/\uM K o.C/\∀f p,o.fs.lookup f=hT p->cb K o.C f
def A2{g:Str}(h:cg f=cg g):f=g:=by unfold cg at h;have e:∀x:Str,(("@":Str)++x).cps=("@":Str).cps++x.cps:=λZ=>rfl;have a:=congrArg Str.cps h;rw [e,e] at a;have b:=Array.append_inj_right a rfl;cases f;cases g;exact congrArg Str.mk b
def wa(f:Str):dY (cg f)=ig:=by unfold dY cg;have e:(("@":Str)++f).cps=("@":Str).cps++f.cps:=rfl;rw [e,Array.toList_append,List.contains_eq_mem];exact zzh (d0 _ (by decide))
theorem kZ{q:Str×PV}:∀{fs:List (Str×PV)},(fs.find? λq=>cg q.1==cg f)=hT q->fs.lookup f=hT q.2
 |[],h=>by cases h
 | (g,p)::fs,h=>by
  rw [List.find?_cons] at h;rw [hF];cases e:cg g==cg f with
  |true=>rw [e] at h;cases h;rw [A2 (zzy.mp e),beq_self_eq_true]
  |false=>
   rw [e] at h;have n:(f==g)=iv:=by
    cases z:f==g with
    |false=>rfl|true=>rw [zzy.mp z,beq_self_eq_true] at e;cases e
   rw [n];exact kZ h
def qB{ob:List Ob}{g:Str}(h:vg (aA ob) g [q]≠.bad):∃n o,q=.obj n/\ob[n]?=hT o/\vg (aA ob) g [q]=(if bj o.c then(if g==d8 then .ok (yA o) else .bad) else if g==d8 then .bad else A3 ⟨o.c,o.fs⟩ g):=by
 cases q with
 |obj n=>
  cases e:ob[n]? with
  |none=>
   refine absurd ?_ h;show(match(aA ob)[n]? with|some o=>_|none=>Res.bad)=_;unfold aA;rw [cz,e];rfl
  |some o=>
   refine{n,o,rfl,e,?_};show(match(aA ob)[n]? with|some o=>(if bj o.c then(if g==d8 then Res.ok (Mv o) else .bad) else if g==d8 then .bad else A3 o g)|none=>Res.bad)=_;unfold aA;rw [cz,e];rfl
 |_=>exact absurd rfl h
set_option tactic.hygienic true in
theorem qC{K:zz8}{W:Wd}{ob:List Ob}(u:kq K mg ob):Ar K (W.at ob) (vg (aA ob)) where
 any:=λg as h=>by
  cases as with
  |nil=>exact absurd rfl h|cons q r=>
   cases r with
   |cons _ _=>refine absurd ?_ h;cases q<;>rfl
   |nil=>
    let(n,o,rfl,e,a):=qB h;rw [a] at h;split at h
    .split at h
     .rename_i z;rw [zzy.mp z];rfl
     .exact absurd rfl h
    .split at h
     .exact absurd rfl h
     .unfold A3 at h;split at h
      .rename_i i d;have:=List.find?_some d;rw [<-zzy.mp this];exact wa _
      .exact absurd rfl h
 fld:=λf q k h=>by
  let(n,o,rfl,e,a):=qB h
  have m:(cg f==d8)=iv:=by
   cases z:cg f==d8 with
   |false=>rfl|true=>exact absurd (zzy.mp z) k
  rw [m] at a;cases b:bj o.c with
  |true=>rw [b,if_pos rfl] at a;exact absurd a h|false=>
   rw [b,if_neg zzf,if_neg zzf] at a;have d:A3 ⟨o.c,o.fs⟩ (cg f)=(match o.fs.find? (λ(q:Str×PV)=>cg q.1==cg f) with|some q=>.ok q.2|none=>.bad):=rfl
   cases j:o.fs.find? (λ(q:Str×PV)=>cg q.1==cg f) with
   |none=>rw [d,j] at a;exact absurd a h|some i=>have hl:o.fs.lookup f=hT i.2:=kZ j;rw [d,j] at a;let(_,p,s):=u.cls n o e b;exact{n,o,i.2,rfl,e,b,hl,a,p,s f _ hl}
 con:=λq h=>by
  let(n,o,rfl,e,a):=qB h
  cases b:bj o.c with
  |true=>rw [b,if_pos rfl] at a;exact⟨n,o,rfl,e,b,a⟩|false=>rw [b,if_neg zzf] at a;exact absurd a h
end Ci
namespace L2
open PySem.Spec PyProof.Rows
def BZ{env:Env}{o:iO}{name:Str}{a:Pos}{args:List iO}{Q:lq}{E:lq}{s:iM}
 (j:attributeBase o name env (eval o env)=eval o env)
 (k:((backTo pos (starEach args env)).all (λx=>!x.1)&&(backToKw pos (keywordEach [] env)).all (λx=>x.1.isSome)
  &&decide (args.length+([]:List Keyword).length+(if([]:List Keyword).isEmpty then 0 else 1)<30))=ig)
 (m:(a.endLine==pos.line)=ig)
 (h:i1 (jj prog w) A (eval o env) (λi b=>i1 (jj prog w) A (getMethod i name (do return (<-importBound o env).getD ig)) (λg c=>i1 (jj prog w) A (callWith pos g.1 g.2 (backTo pos (starEach args env)) (backToKw pos (keywordEach [] env))) Q E c) E b) E s):
 i1 (jj prog w) A (eval (.Call (.Attribute o name a) args [] pos) env) Q E s:=by
 rw [arm_eval_Call,j];refine ar (wpAny_mono h (λi b d=>?_) λZ Z e=>e);refine ar (wpAny_standAt ?_);have p:methodCallForm (args.length+([]:List Keyword).length) (backTo pos (starEach args env)) (backToKw pos (keywordEach [] env))=ig:=k;have q:methodCallPos ig o env a pos=pure pos:=by unfold methodCallPos;simp [m]
 unfold methodCall;rw [p,q];refine ar (wpAny_holding (wpAny_mono d (λg c f=>?_) λZ Z e=>e));exact ar (bp f)
end L2
namespace Ci
open L2
abbrev DT(W:Wd)(c:Str)(s:Sg)(ob:List Ob)(G H:Hp):XK:=λd e f=>∃C a b g,d=.ref C/\e=hT a/\c∈W.xs/\W.mg c=hT (.ref C)/\eT W ob G H b g f/\kq W.K W.mg b/\aA b=s
abbrev LY(W:Wd)(F2:gd)(f:Str)(n:Nat):Sp:=λd H Q E=>d.length=n/\∃ob G as,aw G H/\ba (W.at ob) G H/\kq W.K W.mg ob/\ag (W.at ob) G as d/\(match F2 f as (aA ob) with
 |.ok p s=>∀v b e a,eT W ob G H b e a->kq W.K W.mg b->aA b=s->Rep (W.at b) e p v->Q v a|.exc c s=>∀g h a,DT W c s ob G H g h a->E g h a|.bad=>False)
structure ja where
 cs:List Str
 ms:List (Str×Str)
 ns:List Str
 fl:List (Str×Str)
 td:List Str:=[]
noncomputable abbrev ja.Nh(a:ja):ja:={a with cs:=[],td:=[]}
structure i9(P:i2)(w:i3)(K:zz8)(mg:Str->Option ix)(base:j2)(W:Wd)(F2:gd)(k:Nat)(f:Str)(fa:iN):Prop where
 ex:∃fd ps,d6 P w K mg base (cR P w) k fa fd ps (LY W F2 f ps.length)/\Binds K fd ps []/\∀as s,F2 f as s≠.bad->as.length=ps.length
structure T1(P:i2)(w:i3)(K:zz8)(mg:Str->Option ix)(base:j2)(W:Wd)(F1:Sg->aW)(Γ:Pg)(k:Nat):Prop where
 M:∀ob,lC K mg Γ (W.at ob)
 F:∀ob,kq W.K W.mg ob->∀f,Γ.fs.contains f=ig->iy P w K mg base (W.at ob) (F1 (aA ob)) k f
 H:∀ob,kq W.K W.mg ob->∀q∈Γ.hs,GQ P w K mg base (W.at ob) (F1 (aA ob)) k q
 Q:∀ob,kq W.K W.mg ob->∀f,Γ.qs.contains f=ig->iy P w K mg base (W.at ob) (F1 (aA ob)) 2 f
 A:∀ob,kq W.K W.mg ob->∀g as,F1 (aA ob) g as≠.bad->Γ.fs.contains g=ig\/dY g=ig
 D:∀ob,kq W.K W.mg ob->D8 K (W.at ob) (F1 (aA ob))
 qt:Γ.qt=iv
 hl:Γ.hl=iv
 k2:2<=k
structure GR(P:i2)(w:i3)(K:zz8)(mg:Str->Option ix)(base:j2)(W:Wd)(F2:gd)(Δ:ja)(k:Nat):Prop where
 met:∀c m,Δ.ms.contains (c,m)=ig->∃C fa,mg c=hT (.ref C)/\Meth K C m fa/\i9 P w K mg base W F2 k (oE c m) fa
 new:∀c,Δ.ns.contains c=ig->∃C fa j,mg c=hT (.ref C)/\uM K C/\Mk K C fa/\j+1<=k/\i9 P w K mg base W F2 j (oE c (zu 10)) fa
 fl:∀c f,Δ.fl.contains (c,f)=ig->∀C,mg c=hT (.ref C)->cb K C f
def D5(P:i2)(w:i3)(K:zz8)(mg:Str->Option ix)(base:j2)(k:Nat)(f:iN)(H:Hp)(R:VK)(g:XK):Prop:=
 ∀(X:Cx) (a:lu) (b:St) (s:iM) (Q:VK),X.prog=P->X.w=w->X.K=K->X.mg=mg->X.base=base->cL k X.A->Inv X a b H s->(∀v c,R v c->Q v c)->(∀e d,cR X.prog X.w X.stack H s g e d->X.xe e d)->zx7 X (call (.ref f) []) (EP X a b Q) X.xe s
abbrev spT(P:i2)(w:i3)(K:zz8)(mg:Str->Option ix)(base:j2)(k:Nat)(W:Wd)(F1:Sg->aW):Sp:=λc H Q Z=>c.length=1/\∃f e,c=[.ref f]/\(∀h,d4 P w H h->PySem.W.FnAt f h)/\D5 P w K mg base k f H Q e/\
 ∀g i b,e g i b->∃d C a ob G,g=.ref C/\i=hT a/\d∈W.xs/\W.mg d=hT (.ref C)/\aw G b/\ba (W.at ob) G b/\kq W.K W.mg ob/\(match F1 (aA ob) (zu 13) [.exc d] with
  |.ok p=>∀v j m,az (W.at ob) G b j m->Rep (W.at ob) j p v->Q v m|_=>False)
def Pj(P:i2)(w:i3)(K:zz8)(mg:Str->Option ix)(base:j2)(W:Wd)(F1:Sg->aW)(F2:gd)(Γ:Pg)(b:ja)(k:Nat)(f:Str):Prop:=
 ∃a j fd x,mg f=hT (.ref a)/\PySem.W.keepIn K (.ref a)=ig/\j+3<=k/\d6 P w K mg base (cR P w) (j+3) a fd [x] (spT P w K mg base (j+2) W F1)/\Binds K fd [x] []/\T1 P w K mg base W F1 Γ j/\GR P w K mg base W F2 b j
structure dg(W:Wd)(obe:List Ob)(Ge He:Hp)(env:Sl)(σ:St)(s:Sg)(ob:List Ob)(H0 G H:Hp):Prop where
 sr:SR (W.at ob) H0 env σ G H
 u:kq W.K W.mg ob
 n:Ent obe Ge He ob G H0
 s:aA ob=s
 no:env.any Slot.bH=iv
structure L4(X:Cx)(W:Wd)(F2:gd)(k:Nat)(f:Str)(fa:iN):Prop where
 ex:∃fd ps,d6 X.prog X.w X.K X.mg X.base (cR X.prog X.w) k fa fd ps (LY W F2 f ps.length)/\Binds X.K fd ps []/\∀as s,F2 f as s≠.bad->as.length=ps.length
structure eU(Γ:Pg)(Δ:ja)(F1:Sg->aW)(F2:gd)(W:Wd)(N:List Str)(sc:j1)(k:Nat)(E:XK)(X:Cx):Prop where
 C:∀ob,kq W.K W.mg ob->dz Γ (F1 (aA ob)) (W.at ob) N sc k X
 pass:Passes (cR X.prog X.w) X E
 qt:Γ.qt=iv
 K:W.K=X.K
 mg:W.mg=X.mg
 Aa:∀f,Δ.cs.contains f=ig->∃fa,X.mg f=hT (.ref fa)/\PySem.W.keepIn X.K (.ref fa)=ig/\L4 X W F2 k f fa
 met:∀c m,Δ.ms.contains (c,m)=ig->∃C fa,X.mg c=hT (.ref C)/\Meth X.K C m fa/\L4 X W F2 k (oE c m) fa
 new:∀c,Δ.ns.contains c=ig->∃C fa j,X.mg c=hT (.ref C)/\uM X.K C/\Mk X.K C fa/\j+1<=k/\L4 X W F2 j (oE c (zu 10)) fa
 fl:∀c f,Δ.fl.contains (c,f)=ig->∀C,X.mg c=hT (.ref C)->cb X.K C f
 td:∀f,Δ.td.contains f=ig->Γ.hl=ig->Pj X.prog X.w X.K X.mg X.base W F1 F2 Γ.pT Δ.Nh k f
section
variable{Γ:Pg}{Δ:ja}{W:Wd}{F1:Sg->aW}{F2:gd}{sc:j1}{k:Nat}{E:XK}{obe ob aB:List Ob}{Ge He G' H':Hp}{s:Sg}
def dg.grow(t:zv5 H)(g:az (W.at ob) G H G' H'):dg W obe Ge He env σ s ob H0 G' H':={t.sr.grow g,t.u,t.n.step (t.sr.on g),t.s,t.no}
def dg.on{s':Sg}(t:zv5 H)(g:eT W ob G H aB G' H')(u:kq W.K W.mg aB)(e:aA aB=s'):dg W obe Ge He env σ s' aB H' G' H':={t.sr.i7 t.no g,u,t.n.on t.sr g,e,t.no}
def aU{b:Type}(W:Wd)(obe:List Ob)(Ge He:Hp)(E:XK)(r:Rs b)(k:b->Sg->Prop):Prop:=match r with
 |.ok a s=>k a s|.exc c s=>∀d e H',DT W c s obe Ge He d e H'->E d e H'|.bad=>False
def aU.bind{b d:Type}{r:Rs b}{f:b->Sg->Rs d}{k:d->Sg->Prop}(h:aU W obe Ge He E (r.bind f) k):aU W obe Ge He E r λa s=>aU W obe Ge He E (f a s) k:=by
 cases r with
 |ok a s=>exact h|exc c s=>exact h|bad=>exact h
def aU.imp{b:Type}{r:Rs b}{k d:b->Sg->Prop}(h:aU W obe Ge He E r k)(i:∀a s,k a s->d a s):aU W obe Ge He E r d:=by
 cases r with
 |ok a s=>exact i a s h|exc c s=>exact h|bad=>exact h
theorem NT(f:Passes (cR X.prog X.w) X E)(t:zv5 H)(h:∀b d H',DT W c s obe Ge He b d H'->E b d H'):se X (W.at ob) σ c G H:=λg A i j e m I g1 x=>f g σ i j e m I (D9.imp x λb a H' y=>h b a H' (by let(C,o,G2,p,q,r,z,g2):=y;exact{C,o,ob,G2,p,q,r,z,t.n.fin t.sr.ib (t.sr.on (g1.trans g2)),t.u,t.s}))
def bV{b:Type}(e:Passes (cR X.prog X.w) X E)(t:zv5 H){r:Res b}{d:b->Sg->Prop}(h:aU W obe Ge He E (Rs.of r s) d):Out X (W.at ob) r σ G H λa=>d a s:=by
 cases r with
 |ok a=>exact h|exc c=>exact NT e t h|bad=>exact h
abbrev t2(W:Wd)(F1:Sg->aW)(F2:gd)(obe:List Ob)(Ge He:Hp)(E:XK)(x:X2):TE:=λσ H Q=>∃ob H0 G env s,dg W obe Ge He env σ s ob H0 G H/\
 aU W obe Ge He E (cT F1 F2 x env s) λp a=>∀v aB b G' H',dg W obe Ge He env σ a aB b G' H'->eT W ob G H aB G' H'->Rep (W.at aB) G' p v->Q v H'
abbrev V4(W:Wd)(F1:Sg->aW)(F2:gd)(obe:List Ob)(Ge He:Hp)(E:XK)(x:rN):TA:=λσ H Q=>∃ob H0 G env s,dg W obe Ge He env σ s ob H0 G H/\
 aU W obe Ge He E (iJ F1 F2 x env s) λb c=>∀a aB d G' H',dg W obe Ge He env σ c aB d G' H'->eT W ob G H aB G' H'->ag (W.at aB) G' b a->Q a H'
noncomputable abbrev G2(X:Cx)(W:Wd)(F1:Sg->aW)(F2:gd)(obe:List Ob)(Ge He:Hp)(E:XK)(x:X2)(p:iO):Prop:=PE X p (t2 W F1 F2 obe Ge He E x)
noncomputable abbrev GP(X:Cx)(W:Wd)(F1:Sg->aW)(F2:gd)(obe:List Ob)(Ge He:Hp)(E:XK)(x:rN)(p:List iO):Prop:=PA X p (V4 W F1 F2 obe Ge He E x)
def ik(S:zv1 X){e:Ci.E}(a:c9 e=ig)(h:aF Γ N sc e p=ig):G2 X W F1 F2 obe Ge He E (.pu e) p:=by intro b s σ H Q I c;let(ob,H0,G,env,j,st,o):=c;have d:=st.s;subst d;have f:=S.C ob st.u;refine(aP e f p h).ge b s σ H Q I {H0,G,env,st.sr,?_};unfold cT at o;exact(bV S.pass st o).imp λp i v G' H' g t=>i v ob H0 G' H' (st.grow g) g.i7 (t.rep a)
def o9(S:zv1 X)(J:cL j X.A){m:iN}(cl:L4 X W F2 j f m){h:iM}{as:List PV}
 (I:Inv X aa σ H h) (st:zv5 H) (l:ag (W.at ob) G as vs) (r:Vals vs us)
 (o:aU W obe Ge He E (F2 f as s) λp s'=>∀v aB K G' H',dg W obe Ge He env σ s' aB K G' H'->eT W ob G H aB G' H'->Rep (W.at aB) G' p v->Q v H'):zx7 X (call (.ref m) us) (EP X aa σ Q) X.xe h:=by
 let(fd,pn,L,M,b):=cl.ex;have O:=st.s;subst O;have i:F2 f as (aA ob)≠.bad:=λz=>by rw [z] at o;exact o
 refine xT (E:=λD F H'=>∃c s',F2 f as (aA ob)=.exc c s'/\DT W c s' ob G H D F H') L J M (λe s' x=>?_) I r {by rw [l.length];exact b as _ i,ob,G,as,st.sr.sub,st.sr.tab,st.u,l,?_}
 .cases z:F2 f as (aA ob) with
  |ok q s1=>let(a,C',t,vs,H',B,rfl,Fl):=x;let(c,_,d,_):=Fl.ends;rw [z] at d;cases d
  |exc c s1=>rw [z] at o;refine S.pass aa σ H h e s' I (D9.imp x λP a H' y=>o P a H' ?_);let(c',s2,d,C,R,T,G2,U,Y,Z,h4,g,u,e2):=y;rw [z] at d;cases d;exact{C,R,T,G2,U,Y,Z,h4,(st.n.i7 st.sr).trans g,u,e2}
  |bad=>exact absurd z i
 .cases z:F2 f as (aA ob) with
  |ok q s1=>rw [z] at o;exact λv aB G' H' g u e rp=>o v aB _ G' H' (st.on g u e) g rp|exc c s1=>exact λD F H' x=>⟨c,s1,rfl,x⟩|bad=>exact absurd z i
def Iy(S:zv1 X){a:Es}{ps:List iO}(B:Δ.cs.contains f=ig)(D:ed sc f=ig)(F:okN f=ig)(J:fZ a=ig)(c:cN Γ N sc a (p::ps)=ig):G2 X W F1 F2 obe Ge He E (.Aa f a) (.Call (.Name f np) (p::ps) [] pos):=by
 intro K L σ H Q I h;let(ob,H0,G,env,s,st,o):=h;have M:=st.s;subst M;have d:=S.C ob st.u;unfold cT at o;let(R,hm,hk,cl):=S.Aa f B
 refine wpAny_Call_Name_kw (di I (b9 d D) hm ?_ (dw F).1);cases a with
 |nil=>exact aI c|cons e a=>
 have y:=ah c;refine PySem.W.callWith_K (h₀:=X.base) I.ok.mod.Fb hk (bb (fV (.cons e a) d _ c pos K L σ H (λi j=>∃b as,az (W.at ob) G H b j/\ag (W.at ob) b as i/\aU W obe Ge He E (F2 f as (aA ob)) λp z=>∀v aB m G' H',dg W obe Ge He env σ z aB m G' H'->eT W ob G H aB G' H'->Rep (W.at aB) G' p v->Q v H') I ?_) λT U ⟨i,j,A,r,q⟩=>{A.iR,?_}) (notStar y.1 _ _) (bY y.2 _ _)
 .exact{H0,G,env,st.sr,(bV S.pass st o.bind).imp λas w i b j g t=>{b,as,g,t.rep J,w}}
 .let(b,as,g,l,o1):=q;exact o9 S d.rm cl A (st.grow g) l r (o1.imp λp z w v aB m G' H' t O P=>w v aB m G' H' t (g.i7.trans O) P)
theorem n6{m:Str}{w:V}:∀{fs:List (Str×PV)} {vs:List V},((fs.map (·.1)).zip vs).lookup m=hT w->∃p,fs.lookup m=hT p
 |[],_,h=>by cases h
 |(g,p)::fs,[],h=>by cases h
 |(g,p)::fs,v::vs,h=>by
  have h:List.lookup m ((g,v)::((fs.map (·.1)).zip vs))=hT w:=h
  rw [hF] at h⊢;cases e:m==g with
  |true=>exact⟨p,rfl⟩|false=>rw [e] at h;exact n6 h
def IB(S:zv1 X){e:Ci.E}{m:Str}{f:Es}{ps:List iO}{i:Pos}(hf:Δ.ms.contains (c,m)=ig)(bJ:c9 e=ig)(he:aF Γ N sc e po=ig)(Jy:dj po=ig)(cy:(i.endLine==pos.line)=ig)(yP:fZ f=ig)(D:cN Γ N sc f ps=ig)(hl:ez f<30):
 G2 X W F1 F2 obe Ge He E (.met e c m f) (.Call (.Attribute po m i) ps [] pos):=by
 intro M sh σ H Q I h;let(ob,H0,G,env,s,st,o):=h;have e0:=st.s;subst e0;have Z:=S.C ob st.u;unfold cT at o;let(C,fa,hm,O,cl):=S.met c m hf;have OF:((backTo pos (starEach ps X.env)).all (λx=>!x.1)&&(backToKw pos (keywordEach [] X.env)).all (λx=>x.1.isSome)&&decide (ps.length+([]:List Keyword).length+(if([]:List Keyword).isEmpty then 0 else 1)<30))=ig:=by rw [vf D];refine Bool.and_eq_true_iff.mpr {rfl,zzh ?_};rw [vx D];exact hl
 refine BZ (dM Jy) OF cy (bb ((aP e Z po he).ge M sh σ H (λv F=>∃n j,az (W.at ob) G H j F/\Rep (W.at ob) j (.obj n) v/\qy (aA ob) n c=ig/\aU W obe Ge He E ((Rs.of (dv (F1 (aA ob)) f env) (aA ob)).bind λps s=>F2 (oE c m) (.obj n::ps) s) λp J=>∀v aB y G' H',dg W obe Ge He env σ J aB y G' H'->eT W ob G H aB G' H'->Rep (W.at aB) G' p v->Q v H') I ?_) λu s1 ⟨v,F,P,rv,q⟩=>?_)
 .refine{H0,G,env,st.sr,(bV S.pass st o.bind).imp λp d v j F g t=>?_}
  cases p with
  |obj n=>
   cases hc:qy (aA ob) n c with
   |true=>dsimp only at d;rw [hc,if_pos rfl] at d;exact{n,j,g,t.rep bJ,hc,d}|false=>dsimp only at d;rw [hc,if_neg nofun] at d;exact d.elim
  |_=>exact d.elim
 .let(n,j,g,R,tx,o1):=q;have oj:=st.grow g;simp! [Rep] at R;let(b,T,rfl):=R;obtain rfl:u=ix.ref b.a:=rv;let(_,L,hH,l0):=oj.sr.tab.o n b T;have hs:(aA ob)[n]?=hT ⟨b.c,b.fs⟩:=by unfold aA;rw [cz,T];rfl
  have lF:b.c=c/\bj c=iv:=by unfold qy at tx;rw [hs] at tx;have z:=ah tx;exact{zzy.mp z.1,zx6 z.2}
  have f9:=lF.1;let(h1,h2,h3):=st.u.cls n b T (by rw [f9];exact lF.2);rw [l6 (by rw [f9];exact lF.2)] at hH;have hC:b.C=C:=by rw [f9,S.mg,hm] at h1;cases h1;rfl
  rw [S.K] at h2 h3;have Jz:((b.fs.map (·.1)).zip L).lookup m=ie:=by
   cases z:((b.fs.map (·.1)).zip L).lookup m with
   |none=>rfl|some w=>let(p',Hf):=n6 z;have:=h3 m p' Hf;rw [cb,hC,O.at_] at this;cases this
  refine vj P hH h2 (by rw [hC];exact O) Jz ?_;have run:∀{B:Hp} {U:iM} {us:List ix} {vs:List V} {as:List PV} {G2:Hp},Inv X M σ B U->az (W.at ob) j F G2 B->ag (W.at ob) G2 as vs->Vals vs us->(aU W obe Ge He E (F2 (oE c m) (.obj n::as) (aA ob)) λp J=>∀v aB y G' H',dg W obe Ge He env σ J aB y G' H'->eT W ob G H aB G' H'->Rep (W.at aB) G' p v->Q v H')->zx7 X (call (.ref fa) (ix.ref b.a::us)) (EP X M σ Q) X.xe U:=λ{B U us vs as G2} Y g2 l r o2=>by refine o9 (vs:=V.ref b.a::vs) (as:=.obj n::as) S Z.rm cl Y (oj.grow g2) (.cons ?_ l) (.cons rfl r) (o2.imp λp J d v aB y G' H' t g' R=>d v aB y G' H' t ((g.trans g2).i7.trans g') R);simp! [Rep];exact⟨b,T,rfl⟩
  cases f with
  |nil=>
   cases ps with
   |cons _ _=>exact aI D|nil=>refine PySem.W.callWith_K0 (first:=[.ref b.a]) P.iR O.kp ?_;exact run (us:=[]) (vs:=[]) (as:=[]) P (.refl oj.sr.sub) .nil .nil o1
  |cons e1 f=>
   cases ps with
   |nil=>exact aI D|cons p ps=>
    have h7:=ah D;refine PySem.W.callWith_K (first:=[.ref b.a]) (h₀:=X.base) I.ok.mod.Fb O.kp (bb (fV (.cons e1 f) Z _ D pos M s1 σ F (λvs B=>∃G2 as,az (W.at ob) j F G2 B/\ag (W.at ob) G2 as vs/\aU W obe Ge He E (F2 (oE c m) (.obj n::as) (aA ob)) λp J=>∀v aB y G' H',dg W obe Ge He env σ J aB y G' H'->eT W ob G H aB G' H'->Rep (W.at aB) G' p v->Q v H') P ?_) λus U ⟨vs,B,Y,r,q⟩=>{Y.iR,?_}) (notStar h7.1 _ _) (bY h7.2 _ _)
    .exact{H0,j,env,oj.sr,(bV S.pass oj o1.bind).imp λas d vs G2 B g t=>{G2,as,g,t.rep yP,d}}
    .let(G2,as,g2,l,o2):=q;exact run Y g2 l r o2
def v7:(aA ob).length=ob.length:=by unfold aA;rw [zzl]
def jz{o o1:Ob}{n:Nat}(h:(ob++[o1])[n]?=hT o):ob[n]?=hT o\/n=ob.length/\o=o1:=by
 by_cases z:n<ob.length
 .rw [eH z] at h;exact .inl h
 .rw [eO (by omega)] at h;cases e:n-ob.length with
  |zero=>rw [e] at h;cases h;exact .inr {by omega,rfl}
  |succ m=>rw [e] at h;cases h
def B7{x:iN}{o1:Ob}(c:aw G H)(f:H x=ie)(d:o1.a=x)(l:ag (W.at ob) G (o1.fs.map (·.2)) vs)(hs:aw H H1)(b:H1 x=hT (lj o1 vs)):eT W ob G H (ob++[o1]) G H1:=by
 have i:yf ob (ob++[o1]):=λn o e=>{o,by rw [eH (br.mp e).1];exact e,rfl,rfl,rfl,rfl};refine{i,.refl _,.of hs,c.trans hs,λZ Z Z h=>h,λt=>{t.t.same (.refl _) (λZ Z Z h=>h) λP j e=>hs P _ e,λn o e=>?_}}
 rcases jz e with z|⟨_,rfl⟩
 .let(b,vs,g,l):=t.o n o z;exact{b,vs,hs _ _ g,ag.at i _ l}
 .exact{by rw [d];exact c.free f,vs,by rw [d];exact b,ag.at i _ l}
theorem Hl{o1:Ob}(u:kq W.K W.mg ob)(t:ba (W.at ob) G H)(y:H o1.a=ie)(hm:bj o1.c=iv->W.mg o1.c=hT (.ref o1.C)/\uM W.K o1.C/\o1.fs=[]):kq W.K W.mg (ob++[o1]) where
 inj:=λn m o q A r g=>by
  have no:∀(i:Nat) (p:Ob),ob[i]?=hT p->p.a≠o1.a:=λi p e z=>by let(_,F,d,_):=t.o i p e;rw [z,y] at d;cases d
  rcases jz A with j|⟨j,rfl⟩
  .rcases jz r with b|⟨b,rfl⟩
   .exact u.inj n m o q j b g
   .exact absurd g (no n o j)
  .rcases jz r with b|⟨b,rfl⟩
   .exact absurd g.symm (no m q b)
   .omega
 cls:=λn o e w=>by
  rcases jz e with z|⟨_,rfl⟩
  .exact u.cls n o z w
  .let(B,d,D):=hm w;exact{B,d,λf p h=>by rw [D] at h;cases h}
def pO(S:zv1 X){C t:iN}(J:cL (j+1) X.A)(M:Mk X.K C t)(hm:X.mg c=hT (.ref C))(L:uM X.K C)(cl:L4 X W F2 j (oE c (zu 10)) t){B:iM}{vs:List V}{as:List PV}
 (I:Inv X aa σ H B) (st:zv5 H) (l:ag (W.at ob) G as vs) (r:Vals vs us)
 (o:aU W obe Ge He E (B6 F2 c as s) λp s'=>∀v aB O G' H',dg W obe Ge He env σ s' aB O G' H'->eT W ob G H aB G' H'->Rep (W.at aB) G' p v->Q v H'):zx7 X (call (.ref C) us) (EP X aa σ Q) X.xe B:=by
 let(fd,pn,P,R,a):=cl.ex;have T:=st.s;subst T;refine C7 (dvs:=[]) M P J R .nil S.pass I r λx dx d hd fI=>?_
 unfold B6 at o;cases f:bj c with
 |true=>rw [f,if_pos rfl] at o;exact o.elim|false=>
 rw [f,if_neg zzf] at o;have g1:=B7 (W:=W) (ob:=ob) (o1:={x,dx,C,c,[]}) (vs:=[]) (H1:=upd (upd H dx (.own x)) x (.ins C dx [])) st.sr.sub d rfl .nil (λb o e=>by rw [ae (λz=>by rw [z,d] at e;cases e),ae (λz=>by rw [z,hd] at e;cases e)];exact e) (by rw [l6 f];exact ak);have U:=Hl (o1:={x,dx,C,c,[]}) st.u st.sr.tab d λ_=>{by rw [S.mg];exact hm,by rw [S.K];exact L,rfl};have Y:aA (ob++[{x,dx,C,c,[]}])=aA ob++[{c,[]}]:=by unfold aA;rw [List.map_append];rfl
 have h:F2 (oE c (zu 10)) (.obj (aA ob).length::as) (aA ob++[{c,[]}])≠.bad:=λz=>by rw [z] at o;exact o
 have D:(ob++[{x,dx,C,c,[]}])[ob.length]?=hT {x,dx,C,c,[]}:=by rw [eO (a8 _),Nat.sub_self];rfl
 rw [hG];refine{?_,ob++[{x,dx,C,c,[]}],G,.obj ob.length::as,g1.sub,g1.tab st.sr.tab,U,.cons (by simp! [Rep];exact{_,D,rfl}) (g1.NV l),?_}
 .have:=a _ _ h;rw [bE] at this⊢;rw [l.length];exact this
 .rw [Y];rw [v7] at o;cases z:F2 (oE c (zu 10)) (.obj ob.length::as) (aA ob++[⟨c,[]⟩]) with
  |ok q s1=>
   rw [z] at o;intro v aB G' H' g u e F;have o:aU W obe Ge He E (if xq q then Rs.ok (PV.obj ob.length) s1 else .bad) _:=o
   cases q with
   |aE=>simp! [Rep] at F;refine{F,o (.ref x) aB _ G' H' (st.on (g1.trans g) u e) (g1.trans g) ?_};let(Z,i,m,_):=g.ids _ _ D;simp! [Rep];exact{Z,i,by rw [m]}|_=>exact o.elim
  |exc c1 s1=>rw [z] at o;intro Cv ao H' y;let(C2,a',gb,G2,i,m,h3,h4,g,u,e2):=y;exact o Cv ao H' {C2,a',gb,G2,i,m,h3,h4,(st.n.i7 st.sr).trans (g1.trans g),u,e2}|bad=>rw [v7] at h;exact absurd z h
def IC(S:zv1 X){a:Es}{ps:List iO}(J:Δ.ns.contains c=ig)(K:ed sc c=ig)(L:okN c=ig)(O:fZ a=ig)(d:cN Γ N sc a ps=ig):G2 X W F1 F2 obe Ge He E (.new c a) (.Call (.Name c np) ps [] pos):=by
 intro P R σ H Q I h;let(ob,H0,G,env,s,st,o):=h;have T:=st.s;subst T;have f:=S.C ob st.u;unfold cT at o;let(C,Z,j,hm,y,M,U,cl):=S.new c J;have z:cL (j+1) X.A:=f.rm.mono U
 refine wpAny_Call_Name_kw (di I (b9 f K) hm ?_ (dw L).1);cases a with
 |nil=>
  cases ps with
  |cons _ _=>exact aI d|nil=>refine PySem.W.callWith_K0 I.iR M.kp ?_;have o1:aU W obe Ge He E (B6 F2 c [] (aA ob)) _:=o;exact pO (us:=[]) (vs:=[]) (as:=[]) S z M hm y cl I st .nil .nil o1
 |cons e a=>
  cases ps with
  |nil=>exact aI d|cons p ps=>
   have B:=ah d;refine PySem.W.callWith_K (h₀:=X.base) I.ok.mod.Fb M.kp (bb (fV (.cons e a) f _ d pos P R σ H (λvs i=>∃b as,az (W.at ob) G H b i/\ag (W.at ob) b as vs/\aU W obe Ge He E (B6 F2 c as (aA ob)) λp D=>∀v aB m G' H',dg W obe Ge He env σ D aB m G' H'->eT W ob G H aB G' H'->Rep (W.at aB) G' p v->Q v H') I ?_) λus s1 ⟨vs,i,F,r,q⟩=>{F.iR,?_}) (notStar B.1 _ _) (bY B.2 _ _)
   .exact{H0,G,env,st.sr,(bV S.pass st o.bind).imp λas w vs b i g t=>{b,as,g,t.rep O,w}}
   .let(b,as,g,l,o1):=q;exact pO S z M hm y cl F (st.grow g) l r (o1.imp λp D w v aB m G' H' t V Y=>w v aB m G' H' t (g.i7.trans V) Y)
abbrev y8:rN->Nat
 |.nil=>0|.cons _ xs=>y8 xs+1
theorem mP:∀{xs:rN} {env:Sl} {s s':Sg} {ps:List PV},iJ F1 F2 xs env s=.ok ps s'->ps.length=y8 xs
 |.nil,env,s,s',ps,h=>by unfold iJ at h;cases h;rfl
 |.cons x xs,env,s,s',ps,h=>by
  unfold iJ at h;cases e1:cT F1 F2 x env s with
  |bad=>rw [e1] at h;cases h
  |exc c z=>rw [e1] at h;cases h
  |ok p s1=>
   rw [e1] at h;have h:(iJ F1 F2 xs env s1).bind (λps s=>Rs.ok (p::ps) s)=.ok ps s':=h
   cases a:iJ F1 F2 xs env s1 with
   |bad=>rw [a] at h;cases h
   |exc c z=>rw [a] at h;cases h
   |ok qs s2=>rw [a] at h;cases h;rw [bE,mP a];rfl
theorem Ew:GP X W F1 F2 obe Ge He E .nil []:=L2.PA.imp bW λσ H Q h=>by let(ob,H0,G,env,s,st,o):=h;unfold iJ at o;exact o [] ob H0 G H st (.refl st.sr.sub) .nil
def eQ{d:Type}{x:X2}{f:PV->Sg->Rs d}{e:d->Sg->Prop}(st:zv5 H)(o:aU W obe Ge He E ((cT F1 F2 x env s).bind f) e)
 (h:∀p v s1 a c b H1,dg W obe Ge He env σ s1 a c b H1->eT W ob G H a b H1->Rep (W.at a) b p v->aU W obe Ge He E (f p s1) e->Q v H1):t2 W F1 F2 obe Ge He E x σ H Q:=
 {ob,H0,G,env,s,st,o.bind.imp λp s1 i v a c b H1 t g j=>h p v s1 a c b H1 t g j i}
theorem A9{x:X2}{xs:rN}{ps:List iO}(he:G2 X W F1 F2 obe Ge He E x p)(hs:GP X W F1 F2 obe Ge He E xs ps)(a:starEach (p::ps) X.env=(iv,eval p X.env)::starEach ps X.env):GP X W F1 F2 obe Ge He E (.cons x xs) (p::ps):=
 L2.PA.imp (aV he hs a) λσ H Q h=>by let(ob,H0,G,env,s,st,o):=h;unfold iJ at o;refine eQ st o λp v b c d e t f g1 g o1=>{c,d,e,env,b,f,o1.bind.imp λqs u i j m q G2 r t2 g2 l=>?_};exact i (v::j) m q G2 r t2 (g1.trans g2) (.cons (g2.rep g) l)
theorem IF{xs:rN}{ps:List iO}(hl:y8 xs<1000)(h:GP X W F1 F2 obe Ge He E xs ps):G2 X W F1 F2 obe Ge He E (.tup xs) (.Tuple ps x1 pos):=
 L2.PE.imp (CD h) λσ H Q j=>by
  let(ob,H0,G,env,s,st,o):=j
  unfold cT at o;refine{ob,H0,G,env,s,st,?_};cases r:iJ F1 F2 xs env s with
  |bad=>rw [r] at o;exact o|exc c s1=>rw [r] at o;exact o|ok qs s1=>
   rw [r] at o;have a:=mP r;intro b e m f i t g l;have q:b.length<=sizeLine:=by rw [l.length,a,sizeLine_eq];omega
   refine{q,λp u=>?_};have d:az (W.at e) f i (upd f p (.tup b)) (upd i p (.tup b)):=.new t.sr.sub u;exact o (.ref p) e m _ _ (t.grow d) (g.trans d.i7) (.t (.inl ak) (ag.same d.g _ l))
abbrev HD(W:Wd)(f:PV->PV->Res PV):R2:=λx y H Q=>∃ob,rY (W.at ob) f x y H Q
theorem xF(hK:W.K=X.K)(a:X.A.units+64<cLine)(o:rZ):d5 X (compareOp (lK o)) (HD W (cX o)):=λb s σ H x y v u Q I c d ⟨ob,h⟩=>fN (W:=W.at ob) hK a o b s σ H x y v u Q I c d h
def aU.val{b:Type}{r:Res b}{d:b->Sg->Prop}(h:aU W obe Ge He E (Rs.of r s) d)(n:∀c,r≠.exc c):∃a,r=.ok a/\d a s:=by
 cases r with
 |ok a=>exact⟨a,rfl,h⟩|exc c=>exact absurd rfl (n c)|bad=>exact h.elim
def Oh{o:rZ}{a b:X2}(h:t2 W F1 F2 obe Ge He E (.cmp o a b) σ H Q):L0 (HD W (cX o)) (t2 W F1 F2 obe Ge He E a) (t2 W F1 F2 obe Ge He E b) σ H Q:=by let(ob,H0,G,env,s,st,d):=h;unfold cT at d;refine eQ st d λp v A B C D F i g1 j o1=>eQ i o1 λq u I e f G2 J t2 g2 m o2=>?_;let(r,t,y):=o2.val (λc=>cA c);refine{e,f,G2,p,q,r,t2.sr.sub,.inl (g2.rep j),.inl m,t,λw G' H' g z=>?_};exact y w e f G' H' (t2.grow g) ((g1.trans g2).trans g.i7) z
def eU.units(S:zv1 X):X.A.units+64<cLine:=(S.C [] {(λZ Z Z Z h=>nomatch h),(λZ Z h=>nomatch h)}).room.units
def Iz(S:zv1 X){o:rZ}{a b:X2}{c:iO}(e:G2 X W F1 F2 obe Ge He E a d)(f:G2 X W F1 F2 obe Ge He E b c)(hm:behindInMarks (lK o) c=iv):G2 X W F1 F2 obe Ge He E (.cmp o a b) (.Compare d [lK o] [c] pos):=
 (xJ (xF S.K S.units o) e f hm).imp λσ H Q h=>Oh h
abbrev Og(W:Wd)(F1:Sg->aW)(F2:gd)(obe:List Ob)(Ge He:Hp)(E:XK)(x:T2):TT:=λσ H Q=>∃ob H0 G env s,dg W obe Ge He env σ s ob H0 G H/\
 aU W obe Ge He E (Il F1 F2 x env s) λb a=>∀aB c G' H',dg W obe Ge He env σ a aB c G' H'->Q b H'
noncomputable abbrev L5(X:Cx)(W:Wd)(F1:Sg->aW)(F2:gd)(obe:List Ob)(Ge He:Hp)(E:XK)(x:T2)(p:iO):Prop:=PT X p (Og W F1 F2 obe Ge He E x)
def Jl(S:zv1 X){e:Ci.E}(c:eN e=ig)(h:aF Γ N sc e p=ig):L5 X W F1 F2 obe Ge He E (.pu e) p:=by
 intro d s σ H Q I f;let(ob,H0,G,env,m,st,o):=f;have i:=st.s;subst i;have j:=S.C ob st.u;refine(aP e j p h).gt c d s σ H Q I {H0,G,env,st.sr,?_};unfold Il at o;refine(bV S.pass st o.bind).imp λp a=>?_
 cases p with
 |bl b=>exact{b,rfl,λG' H' g=>a ob H0 G' H' (st.grow g)}|_=>exact a.elim
def Of{x:X2}{Q:Bool->Hp->Prop}(h:∃ob H0 G env s,dg W obe Ge He env σ s ob H0 G H/\aU W obe Ge He E ((cT F1 F2 x env s).bind Ml) λb s'=>∀aB c G' H',dg W obe Ge He env σ s' aB c G' H'->Q b H'):tB (t2 W F1 F2 obe Ge He E x) σ H Q:=by
 let(ob,H0,G,env,s,st,o):=h;refine eQ st o λp v j d e f g i g1 a o1=>?_
 cases p with
 |bl b=>simp! [Rep] at a;exact{b,a,o1 d e f g i}|_=>exact o1.elim
theorem EW(S:zv1 X){o:rZ}{a b:X2}{c:iO}(f:G2 X W F1 F2 obe Ge He E a d)(g:G2 X W F1 F2 obe Ge He E b c)(hm:behindInMarks (lK o) c=iv):L5 X W F1 F2 obe Ge He E (.cmp o a b) (.Compare d [lK o] [c] pos):=
 (xO (xF S.K S.units o) f g hm).imp λσ H Q h=>by let(ob,H0,G,env,s,st,e):=h;unfold Il at e;exact Oh (Of ⟨ob,H0,G,env,s,st,e⟩)
noncomputable abbrev FX:XK:=λZ Z Z=>False
def Rs.aC{d e:Type}{r:Rs d}{f:d->Sg->Rs e}{b:e}{s':Sg}(h:r.bind f=.ok b s'):∃a s1,r=.ok a s1/\f a s1=.ok b s':=by
 cases r with
 |ok a s1=>exact⟨a,s1,rfl,h⟩|exc c s1=>cases h
 |bad=>cases h
def Rs.mn{d:Type}{r:Rs d}{b:d}{s':Sg}(h:r.well=.ok b s'):r=.ok b s':=by
 cases r with
 |ok a s1=>exact h|exc c s1=>cases h
 |bad=>cases h
def Rs.of_ok{d:Type}{r:Res d}{b:d}{s s':Sg}(h:Rs.of r s=.ok b s'):r=.ok b/\s'=s:=by
 cases r with
 |ok a=>cases h;exact⟨rfl,rfl⟩
 |exc c=>cases h
 |bad=>cases h
theorem ji{f:PV->Sg->Rs PV}:∀(l:List PV) (s:Sg) (c:Str) (s':Sg),bz f l s≠.exc c s'
 |[],s,c,s',h=>by cases h
 |x::l,s,c,s',h=>by
  unfold bz at h;cases e:f x s with
  |ok y s1=>
   rw [e] at h;have h:(bz f l s1).bind (λys a=>Rs.ok (y::ys) a)=.exc c s':=h
   cases b:bz f l s1 with
   |ok ys a=>rw [b] at h;cases h
   |exc d a=>exact ji l s1 d a b|bad=>rw [b] at h;cases h
  |exc _ _=>rw [e] at h;cases h
  |bad=>rw [e] at h;cases h
theorem pB{f:PV->Sg->Rs PV}:∀{ps:List PV} {s j s':Sg} {all e:List PV} {i:Nat} {x:PV},bz f ps s=.ok all j->bz f (ps.take i) s=.ok e s'->ps[i]?=hT x->∃y s1,f x s'=.ok y s1/\bz f (ps.take (i+1)) s=.ok (e++[y]) s1
 |[],_,_,_,_,_,_,_,_,_,h=>by simp at h|p::ps,s,j,s',all,e,0,x,b,a,g=>by simp at g;subst g;unfold bz at b;let(y,s1,e1,b):=Rs.aC b;have e1:=Rs.mn e1;have a:Rs.ok [] s=Rs.ok e s':=a;cases a;refine{y,s1,e1,?_};show(f p s).well.bind _=_;rw [e1];rfl
 |p::ps,s,j,s',all,e,i+1,x,b,a,g=>by unfold bz at b;let(y,s1,e1,b):=Rs.aC b;have e1:=Rs.mn e1;let(c,d,m,_):=Rs.aC b;have a:(f p s).well.bind (λy s1=>(bz f (ps.take i) s1).bind λc d=>Rs.ok (y::c) d)=.ok e s':=a;rw [e1] at a;let(o,z,q,a):=Rs.aC (show(bz f (ps.take i) s1).bind (λc d=>Rs.ok (y::c) d)=.ok e s' from a);cases a;let(r,t,u,w):=pB m q (zx6 g);refine{r,t,u,?_};show(f p s).well.bind (λy s1=>(bz f (ps.take (i+1)) s1).bind λc d=>Rs.ok (y::c) d)=_;rw [e1];show(bz f (ps.take (i+1)) s1).bind (λc d=>Rs.ok (y::c) d)=_;rw [w];rfl
theorem mH{f:PV->Sg->Rs PV}:∀{ps:List PV} {s s':Sg} {a:List PV},bz f ps s=.ok a s'->a.length=ps.length
 |[],s,s',a,h=>by cases h;rfl
 |p::ps,s,s',a,h=>by unfold bz at h;let(y,s1,e1,h):=Rs.aC h;let(c,d,b,h):=Rs.aC h;cases h;rw [bE,bE,mH b]
def qh(h:∀s∈env,s.bH=iv):env.any Slot.bH=iv:=by rw [List.any_eq_false];exact λs m z=>by rw [h s m] at z;cases z
def B8(h:env.any Slot.bH=iv)(s:Slot)(m:s∈env):s.bH=iv:=by
 rw [List.any_eq_false] at h;cases z:s.bH with
 |false=>rfl|true=>exact absurd z (h s m)
def gQ(h:env.any Slot.bH=iv)(i:Nat)(p:PV):(env.set i (.val p)).any Slot.bH=iv:=qh λs m=>by
 rcases List.mem_or_eq_of_mem_set m with z|rfl
 .exact B8 h s z
 .rfl
def vX{a:Sl}{b:Tg}{p:PV}(h:env.any Slot.bH=iv)(e:b.put p env=.ok a):a.any Slot.bH=iv:=by
 unfold Tg.put at e;split at e
 .cases e;exact gQ h _ _
 .cases e;exact gQ (gQ h _ _) _ _
 .cases e;exact gQ (gQ (gQ (gQ h _ _) _ _) _ _) _ _
 .cases e
theorem wR(h:env.any Slot.bH=iv)(k:Nat)(a:List Nat):(k6 k Slot.no++fv env a).any Slot.bH=iv:=qh λs m=>by
 rcases List.mem_append.mp m with z|z
 .rw [List.eq_of_mem_replicate z];rfl
 .unfold fv at z;let(i,_,rfl):=fx.mp z
  rw [bD];cases e:env[i]? with
  |none=>rfl|some s=>exact B8 h s (a7 e)
structure Ud(W:Wd)(obe:List Ob)(Ge He:Hp)(env:Sl)(σ:St)(s:Sg)(ob:List Ob)(G H:Hp)(js:Sl)(f:PV->Sg->Rs PV)(ps:List PV)(i:Nat)(ys:List V)(σ':St)(H':Hp):Prop where
 le:i<=ps.length
 ex:∃aB G' O5 O4 zs s',dg W obe Ge He env σ s' aB O5 G' H'/\dg W obe Ge He js σ' s' aB O4 G' H'/\eT W ob G H aB G' H'/\bz f (ps.take i) s=.ok zs s'/\ag (W.at aB) G' zs ys
def sI(S:zv1 X){b:Nat}{d:List Nat}{D:Tg}{m:X2}{ys:List Str}(bR:fh b D=ig)(hs:d.map (λi=>N[i]?)=ys.map hT)(nd:ys.Nodup){J:It}{e:Hp}
 (oj:dg W obe Ge He env σ s ob H0 e H1) (bL:lB (W.at ob) J e e ps) (j:aU W obe Ge He E (if ps.length<hZ then(bz (λx s=>(Rs.of (D.put x (k6 b .no++fv env d)) s).bind λr s=>cT F1 F2 m r s) ps s).bind λys s=>.ok (.lst ys) s else .bad) λp s'=>∀v aB O G' H',dg W obe Ge He env σ s' aB O G' H'->eT W ob e H1 aB G' H'->Rep (W.at aB) G' p v->Q v H'):
 GO J b (gT X.K D) (t2 W F1 F2 obe Ge He FX m) (yU σ d) Q H1:=by
 by_cases vn:¬ps.length<hZ
 .rw [if_neg vn] at j;exact j.elim
 have hl:=Decidable.not_not.mp vn;rw [if_pos hl] at j;generalize hf:(λ(x:PV) (s:Sg)=>(Rs.of (D.put x (k6 b .no++fv env d)) s).bind λr s=>cT F1 F2 m r s)=f at j
 cases t:bz f ps s with
 |bad=>rw [t] at j;exact j.elim|exc c s1=>exact absurd t (ji _ _ _ _)|ok all sf=>
  rw [t] at j;have fin:∀v aB O G' H',dg W obe Ge He env σ sf aB O G' H'->eT W ob e H1 aB G' H'->Rep (W.at aB) G' (.lst all) v->Q v H':=j;have V2:dg W obe Ge He (k6 b .no++fv env d) (k6 b ie++yU σ d) s ob H0 e H1:={nS b oj.sr hs nd,oj.u,oj.n,oj.s,wR oj.no b d};refine{ps.length,Ud W obe Ge He env σ s ob e H1 (k6 b .no++fv env d) f ps,{Nat.zero_le _,ob,e,H0,H0,[],s,oj,V2,.refl oj.sr.sub,rfl,.nil},?_}
  rintro i made σ' H' ⟨hi,aB,G',O5,O4,zs,s',w,si,F,I,l⟩
  have Nc:zs.length=i:=by rw [mH I,List.length_take];omega
  refine{by rw [l.length,Nc];exact c7 hi (dq hl (by decide)),?_};have Tu:aw e G':=F.g;let(P,R):=bL i G' H' Tu (gj.of (Tu.trans w.sr.sub)) w.sr.sub;by_cases a:i=ps.length
  .refine .inl {P a,λp hp=>?_};rw [a,List.take_length,t] at I;cases I;have T:az (W.at aB) G' H' (upd G' p (.lst made)) (upd H' p (.lst made)):=.new w.sr.sub hp;exact fin (.ref p) aB O5 _ _ (w.grow T) (F.trans T.i7) (.l (.inl (.inl ak)) (ag.same T.g _ l))
  .have L:i<ps.length:=by omega
   let(Bu,A):=R ps[i] (zzg L);refine .inr {Bu,L,λx gW hy=>?_};let(U,B,rx):=A x gW hy;have M:az (W.at aB) G' H' U gW:=⟨B.g,B.h,B.sub,B.own,B.tb⟩;have Rq:Rep (W.at aB) U ps[i] x:=Rep.at F.ids _ rx;let(y,s1,ho,o):=pB t I (zzg L);rw [<-hf] at ho;let(r,s2,V,Y):=Rs.aC ho;let(Z,z):=Rs.of_ok V;subst z;have VZ:=w.grow M;have C:=si.grow M;refine iL (W:=W.at aB) S.K Z C.sr Rq λσ2 i4=>?_;refine{aB,O4,U,r,s2,{i4,C.u,C.n,C.s,vX C.no Z},?_};rw [Y];intro v gb qe G2 H2 q i7 rv;refine{L,gb,G2,_,qe,_,s1,VZ.on i7 q.u q.s,{hV bR Z q.sr,q.u,q.n,q.s,wR oj.no b d},F.trans (M.i7.trans i7),o,?_};exact((M.i7.trans i7).NV l).append (.cons rv .nil)
def sJ(S:zv1 X){b:Nat}{c:List Nat}{d:Tg}{it:I}{a:X2}{ys:List Str}(f:fh b d=ig)(h:oz it=ig)(hs:c.map (λi=>N[i]?)=ys.map hT)(nd:ys.Nodup)
 (st:zv5 H) (o:aU W obe Ge He E (cT F1 F2 (.comp b c d it a) env s) λp s'=>∀v aB e G' H',dg W obe Ge He env σ s' aB e G' H'->eT W ob G H aB G' H'->Rep (W.at aB) G' p v->Q v H'):
 uF (tI X (W.at ob) (F1 s) it) b (gT X.K d) (t2 W F1 F2 obe Ge He FX a) c σ H Q:=by
 unfold cT at o;exact{H0,G,env,st.sr,(bV S.pass st o.bind).imp λu j J w y g1 m=>sI S f hs nd (st.grow g1) (m.bL h) (j.imp λp s' q v aB e G' H' t g r=>q v aB e G' H' t (g1.i7.trans g) r)}
def AM(S:zv1 X){c:Nat}{d:List Nat}{e:Tg}{it b:X2}{ys:List Str}(r:fh c e=ig)(hs:d.map (λi=>N[i]?)=ys.map hT)(nd:ys.Nodup)
 (st:zv5 H) (o:aU W obe Ge He E (cT F1 F2 (.sH c d e it b) env s) λp s'=>∀v aB f G' H',dg W obe Ge He env σ s' aB f G' H'->eT W ob G H aB G' H'->Rep (W.at aB) G' p v->Q v H'):
 uF (Hg X.K (t2 W F1 F2 obe Ge He E it)) c (gT X.K e) (t2 W F1 F2 obe Ge He FX b) d σ H Q:=by
 unfold cT at o;refine{ob,H0,G,env,s,st,o.bind.imp λp B h v u C D F j g1 m=>?_}
 cases p with
 |lst xs=>simp! [Rep] at m;let(a,w,rfl,q,y):=m;exact{a,rfl,{w,mh S.K (gj.ls (.of j.sr.sub) q)},sI S r hs nd j (qJ (W:=W.at u) S.K q y) (aU.imp h λp s' z v aB f G' H' t g A=>z v aB f G' H' t (g1.trans g) A)}|_=>exact h.elim
def j5{n:Nat}{o:Ob}{fs':List (Str×PV)}{vs':List V}(t:ba (W.at ob) G H)(I:aw G H)(u:kq W.K W.mg ob)(e:ob[n]?=hT o)(l:ag (W.at ob) G (fs'.map (·.2)) vs')(J:bj o.c=ig\/∀f p,fs'.lookup f=hT p->cb W.K o.C f):
 eT W ob G H (ob.set n {o with fs:=fs'}) G (upd H o.a (lj {o with fs:=fs'} vs'))/\kq W.K W.mg (ob.set n {o with fs:=fs'}):=by
 have A:n<ob.length:=(br.mp e).1;let(B,i,L,_):=t.o n o e
 have at_:∀(m:Nat) (d:Ob),(ob.set n {o with fs:=fs'})[m]?=hT d->(m=n/\d={o with fs:=fs'})\/(m≠n/\ob[m]?=hT d):=λm d h=>by
  by_cases hm:n=m
  .subst hm;rw [ew A] at h;cases h;exact .inl ⟨rfl,rfl⟩
  .rw [cK hm] at h;exact .inr {λz=>hm z.symm,h}
 have ids:yf ob (ob.set n {o with fs:=fs'}):=λm d h=>by
  by_cases hm:n=m
  .subst hm;rw [e] at h;cases h;exact{_,ew A,rfl,rfl,rfl,rfl}
  .exact{d,by rw [cK hm];exact h,rfl,rfl,rfl,rfl}
 refine{{ids,.refl _,λb x h=>?_,λb x h=>?_,λ_ _ _ h=>h,λ_=>{λP q m=>?_,λm d h=>?_}},{λm1 m2 o1 o2 j r M=>?_,λm d h w=>?_}}
 .by_cases D:b=o.a
  .subst D;exact{_,ak,λ_ O=>qR _ _ O}
  .exact{x,by rw [ae D];exact h,id}
 .rw [ae (λz=>by rw [z,B] at h;cases h)];exact I _ _ h
 .let(Q,F,y,R,S):=t.t P q m;exact{Q,F,by rw [ae (λz=>by rw [z,L] at y;exact xE o i F (zzq y))];exact y,R,S}
 .rcases at_ m d h with⟨rfl,rfl⟩|⟨hm,g⟩
  .exact{B,vs',ak,ag.at ids _ l}
  .let(j,i,r,T):=t.o m d g;have:d.a≠o.a:=λz=>hm (u.inj m n d o g e z);exact{j,i,by rw [ae this];exact r,ag.at ids _ T}
 .have back:∀(m:Nat) (d:Ob),(ob.set n {o with fs:=fs'})[m]?=hT d->∃o2,ob[m]?=hT o2/\o2.a=d.a:=λm d h=>by
   rcases at_ m d h with⟨rfl,rfl⟩|⟨_,g⟩
   .exact⟨o,e,rfl⟩
   .exact⟨d,g,rfl⟩
  let(p1,q1,U):=back _ _ j;let(p2,q2,Y):=back _ _ r;exact u.inj m1 m2 p1 p2 q1 q2 (by rw [U,Y];exact M)
 .rcases at_ m d h with⟨rfl,rfl⟩|⟨_,g⟩
  .let(c1,Z,c3):=u.cls _ o e w;exact{c1,Z,J.resolve_left λz=>by rw [show bj o.c=iv from w] at z;cases z}
  .exact u.cls m d g w
def nO{n:Nat}{o:Ob}{l:List (Str×PV)}:aA (ob.set n {o with fs:=l})=(aA ob).set n ⟨o.c,l⟩:=by unfold aA;rw [List.map_set]
def xo(h:BC c=ig):bj c=ig:=by unfold bj;rw [h,Bool.or_true]
def xm(h:Aj c=ig):bj c=ig:=by unfold bj;rw [h,Bool.true_or]
def Nj(h:BC c=ig):Aj c=iv:=by unfold BC at h;rw [zzy.mp h];rfl
def uc{o:Ob}(h:BC o.c=ig):lj o vs=.lst vs:=by unfold lj;rw [Nj h,h];rfl
def ub{o:Ob}(h:Aj o.c=ig):lj o vs=.dK (kz (o.fs.map (·.1)) vs):=by unfold lj;rw [h];rfl
def kB{d:Type}{q:Str->Bool}{p:PV}{f:Nat->OS->Rs d}{a:d->Sg->Prop}(h:aU W obe Ge He E (jk (aA ob) q p f) a):∃n o,p=.obj n/\ob[n]?=hT o/\q o.c=ig/\aU W obe Ge He E (f n ⟨o.c,o.fs⟩) a:=by
 cases p with
 |obj n=>
  have h:aU W obe Ge He E (match(aA ob)[n]? with|some o=>(if q o.c then f n o else .bad)|none=>.bad) a:=h
  cases e:ob[n]? with
  |none=>
   have:(aA ob)[n]?=ie:=by unfold aA;rw [cz,e];rfl
   rw [this] at h;exact h.elim
  |some o=>
   have:(aA ob)[n]?=hT ⟨o.c,o.fs⟩:=by unfold aA;rw [cz,e];rfl
   rw [this] at h;cases b:q o.c with
   |true=>have h:aU W obe Ge He E (if q o.c then f n ⟨o.c,o.fs⟩ else .bad) a:=h;rw [b,if_pos rfl] at h;exact⟨n,o,rfl,e,b,h⟩
   |false=>have h:aU W obe Ge He E (if q o.c then f n ⟨o.c,o.fs⟩ else .bad) a:=h;rw [b,if_neg zzf] at h;exact h.elim
 |_=>exact h.elim
def mf{n:Nat}{o:Ob}(h:Rep (W.at ob) G (.obj n) v)(e:ob[n]?=hT o):v=.ref o.a:=by simp! [Rep] at h;let(c,b,rfl):=h;have b:ob[n]?=hT c:=b;rw [e] at b;cases b;rfl
def Bz{n:Nat}{o o2:Ob}(i:yf ob aB)(e:ob[n]?=hT o)(d:aB[n]?=hT o2):o2.a=o.a/\o2.c=o.c:=by let(h,b,f,_,_,g):=i n o e;rw [d] at b;cases b;exact⟨f,g⟩
def fH{e:Ci.E}:cT F1 F2 (.pu e) env s=Rs.of (aG (F1 s) e env) s:=by unfold cT;rfl
def Eo(S:zv1 X){a:Ci.E}{x:X2}{b y:Pos}(B:c9 a=ig)(C:aF Γ N sc a po=ig)(D:G2 X W F1 F2 obe Ge He E x p)(I:dj po=ig)(J:(b.endLine==y.line)=ig)(j:∀env ps,starEach (p::ps) env=(iv,eval p env)::starEach ps env):
 G2 X W F1 F2 obe Ge He E (.fY a x) (.Call (.Attribute po "append" b) [p] [] y):=
 L2.PE.imp (pY PySem.F.plainAttrs_list PySem.F.slot_list_append PySem.F.type_list_append pQ (ik S B C) (aV D bW (j _ _)) (dM I) (by rw [j];rfl) J (j _ _) rfl) λσ H Q h=>by
  let(ob,H0,G,env,s,st,o):=h;unfold cT at o;rw [<-fH (F2:=F2)] at o;refine eQ st o λp v Y Z fk G1 H1 m g1 K o1=>?_;have L:=m.s;subst L;let(n,o,rfl,r,hk,o2):=kB o1;cases mf K r;let(_,vs,z,_):=m.sr.tab.o n o r;rw [uc hk] at z;refine{.inl {rfl,_,eW.of z},eQ m o2 λq u s2 gb qe G2 H2 t2 g2 M O=>?_};have P:=t2.s;subst P;let(n',f,e,c,d,t):=kB O;cases e;let(R,ec):=Bz g2.ids r c;let(_,g,i,A):=t2.sr.tab.o n f c;rw [uc d] at i;split at t
  .rename_i hl;have T:g.length=f.fs.length:=by rw [A.length,zzl]
   let(w,U):=j5 (fs':=f.fs++[(("":Str),q)]) (vs':=g++[u]) t2.sr.tab t2.sr.sub t2.u c (by rw [List.map_append];exact A.append (.cons M .nil)) (.inl (xo d));refine{f.a,g,u,by rw [R],rfl,i,by rw [T];exact dq hl (by decide),?_};have V:lj {f with fs:=f.fs++[(("":Str),q)]} (g++[u])=.lst (g++[u]):=uc d;rw [V] at w;exact t .aE _ _ G2 _ (t2.on w U nO) ((g1.trans g2).trans w) .n
  .exact t.elim
theorem Eu(S:zv1 X){a:Ci.E}{b t:Pos}(y:c9 a=ig)(z:aF Γ N sc a po=ig)(A:dj po=ig)(B:(b.endLine==t.line)=ig):
 G2 X W F1 F2 obe Ge He E (.zG a) (.Call (.Attribute po "pop" b) [] [] t):=
 L2.PE.imp (Ku PySem.F.plainAttrs_list PySem.F.slot_list_pop PySem.F.type_list_pop JX (ik (obe:=obe) (Ge:=Ge) (He:=He) S y z) (dM A) B) λσ H Q h=>by
  let(ob,H0,G,env,s,st,o):=h;unfold cT at o;rw [<-fH (F2:=F2)] at o;refine eQ st o λp v O g P w R e g1 C o1=>?_;have D:=e.s;subst D;let(n,o,rfl,j,hk,o2):=kB o1;cases mf C j;let(_,d,m,l):=e.sr.tab.o n o j
  rw [uc hk] at m;refine{.inl {rfl,_,eW.of m},?_};cases r:o.fs[o.fs.length-1]? with
  |none=>
   have o2:aU W obe Ge He E (match o.fs[o.fs.length-1]? with|some p=>Rs.ok p.2 ((aA g).set n ⟨o.c,o.fs.dropLast⟩)|none=>.bad) _:=o2;rw [r] at o2;exact o2.elim
  |some q=>
   have o2:aU W obe Ge He E (match o.fs[o.fs.length-1]? with|some p=>Rs.ok p.2 ((aA g).set n ⟨o.c,o.fs.dropLast⟩)|none=>.bad) _:=o2;rw [r] at o2;have I:d.length=o.fs.length:=by rw [l.length,zzl]
   let(u,J,K):=l.mW (i:=d.length-1) (p:=q.2) (by rw [I,cz,r];rfl);have ld:ag (W.at g) w (o.fs.dropLast.map (·.2)) d.dropLast:=by rw [List.map_dropLast,List.dropLast_eq_take,List.dropLast_eq_take,l.length];exact l.take _
   let(f,L):=j5 (fs':=o.fs.dropLast) (vs':=d.dropLast) e.sr.tab e.sr.sub e.u j ld (.inl (xo hk));have M:lj {o with fs:=o.fs.dropLast} d.dropLast=.lst d.dropLast:=uc hk;rw [M] at f;exact{o.a,d,u,rfl,rfl,m,J,o2 u _ _ w _ (e.on f L nO) (g1.trans f) (f.rep K)}
def mK{z:Str}{fs:List (Str×PV)}:(fU z fs).map (·.1)=iK (fs.map (·.1)) z/\(fU z fs).map (·.2)=cj (fs.map (·.1)) (fs.map (·.2)) z:=by have h:=sS z (ks:=fs.map (·.1)) (us:=fs.map (·.2)) (by simp);unfold fU;exact{List.map_fst_zip (Nat.le_of_eq h),List.map_snd_zip (Nat.le_of_eq h.symm)}
def pZ{z:Str}{p:PV}{fs:List (Str×PV)}:(putD z p fs).map (·.1)=il (fs.map (·.1)) z/\(putD z p fs).map (·.2)=dU (fs.map (·.1)) (fs.map (·.2)) z p:=by have h:=nE (ks:=fs.map (·.1)) (us:=fs.map (·.2)) (by simp) z p;unfold putD;exact{List.map_fst_zip (Nat.le_of_eq h),List.map_snd_zip (Nat.le_of_eq h.symm)}
def A8(S:zv1 X){a y:Ci.E}{J:iO}{f K:Pos}(M:c9 a=ig)(O:aF Γ N sc a po=ig)(P:c9 y=ig)(hk:aF Γ N sc y J=ig)(R:dj po=ig)(T:(f.endLine==K.line)=ig):
 G2 X W F1 F2 obe Ge He E (.sR a y) (.Call (.Attribute po "pop" f) [J] [] K):=
 L2.PE.imp (Cu (ik (obe:=obe) (Ge:=Ge) (He:=He) S M O) (ik (obe:=obe) (Ge:=Ge) (He:=He) S P hk) {dM R,by rw [notStar hk];rfl,T,by rw [notStar hk];rfl}) λσ H Q h=>by
  let(ob,H0,G,env,s,st,o):=h;unfold cT at o;rw [<-fH (F2:=F2)] at o;refine eQ st o λp v s1 bI fk G1 H1 A g1 U o1=>?_;have V:=A.s;subst V;let(n,o,rfl,B,hk,o2):=kB o1;cases mf U B;let(_,vs,L,_):=A.sr.tab.o n o B;rw [ub hk] at L;rw [<-fH (F2:=F2)] at o2;refine{o.a,rfl,.inl {_,.inl L},eQ A o2 λq u s2 m qe G2 H2 t2 g2 C Y=>?_};have Z:=t2.s;subst Z;let(n',b,e,g,i,d):=kB Y;cases e;let(ea,ec):=Bz g2.ids B g;let(_,r,j,D):=t2.sr.tab.o n b g;rw [ub i] at j;have hl:(b.fs.map (·.1)).length=r.length:=by rw [D.length,zzl,zzl]
  cases F:fJ q with
  |none=>
   have d:aU W obe Ge He E (match fJ q with|some z=>(match cm (b.fs.map (·.1)) (b.fs.map (·.2)) z with|some p=>Rs.ok p ((aA m).set n {b.c,fU z b.fs})|none=>.bad)|none=>.bad) _:=d;rw [F] at d;exact d.elim
  |some z=>
   have d:aU W obe Ge He E (match fJ q with|some z=>(match cm (b.fs.map (·.1)) (b.fs.map (·.2)) z with|some p=>Rs.ok p ((aA m).set n {b.c,fU z b.fs})|none=>.bad)|none=>.bad) _:=d
   rw [F] at d;rw [et F] at C;simp! [qL,Rep] at C;subst C;cases I:cm (b.fs.map (·.1)) (b.fs.map (·.2)) z with
   |none=>
    have d:aU W obe Ge He E (match cm (b.fs.map (·.1)) (b.fs.map (·.2)) z with|some p=>Rs.ok p ((aA m).set n {b.c,fU z b.fs})|none=>.bad) _:=d;rw [I] at d;exact d.elim
   |some p=>
    have d:aU W obe Ge He E (match cm (b.fs.map (·.1)) (b.fs.map (·.2)) z with|some p=>Rs.ok p ((aA m).set n {b.c,fU z b.fs})|none=>.bad) _:=d;rw [I] at d;let(w,hw,eB):=km D I;let(t,u2):=j5 (fs':=fU z b.fs) (vs':=cj (b.fs.map (·.1)) r z) t2.sr.tab t2.sr.sub t2.u g (by rw [mK.2];exact mL D) (.inl (xm i));have ho:lj {b with fs:=fU z b.fs} (cj (b.fs.map (·.1)) r z)=.dK (eY (kz (b.fs.map (·.1)) r) (ki z)):=by rw [ub (o:={b with fs:=fU z b.fs}) i,xw z hl];show HO.dK (kz ((fU z b.fs).map (·.1)) _)=_;rw [mK.1]
    rw [ho] at t;rw [<-ea];exact{_,ki z,w,j,rfl,by rw [gL];exact hw,d w _ _ G2 _ (t2.on t u2 nO) ((g1.trans g2).trans t) (t.rep eB)}
def xD{b:Prop}(st:zv5 H){fs:List (Str×PV)}{vs:List V}{p:iN}{d:PV->Sg->Prop}(a:H p=ie)(e:bj c=ig)(l:ag (W.at ob) G (fs.map (·.2)) vs)(o:aU W obe Ge He E (B5 c fs s) d)
 (h:∀aB,dg W obe Ge He env σ (s++[⟨c,fs⟩]) aB (upd H p (lj {p,0,0,c,fs} vs)) G (upd H p (lj {p,0,0,c,fs} vs))->eT W ob G H aB G (upd H p (lj {p,0,0,c,fs} vs))->Rep (W.at aB) G (.obj s.length) (.ref p)->d (.obj s.length) (s++[⟨c,fs⟩])->b):b:=by
 have f:=st.s;subst f;have g1:=B7 (W:=W) (ob:=ob) (o1:={p,0,0,c,fs}) (vs:=vs) (H1:=upd H p (lj {p,0,0,c,fs} vs)) st.sr.sub a rfl l (aS a) ak;have g:=Hl (o1:={p,0,0,c,fs}) st.u st.sr.tab a λz=>by rw [show bj c=iv from z] at e;cases e
 refine h (ob++[{p,0,0,c,fs}]) (st.on g1 g (by unfold aA;rw [List.map_append];rfl)) g1 ?_ o;simp! [Rep];refine{{p,0,0,c,fs},?_,rfl};show(ob++[_])[(aA ob).length]?=_;rw [v7,eO (a8 _),Nat.sub_self];rfl
theorem Er(S:zv1 X):G2 X W F1 F2 obe Ge He E .kF (.Dict [] [] pos):=
 L2.PE.imp ny λσ H Q h=>by let(ob,H0,G,env,s,st,o):=h;unfold cT at o;intro p a;exact xD st a (c:="#d") (fs:=[]) (vs:=[]) (by rfl) .nil o λaB t g r q=>q _ _ _ _ _ t g r
theorem Et(S:zv1 X){xs:rN}{ps:List iO}(hl:y8 xs<1000)(h:GP X W F1 F2 obe Ge He E xs ps):G2 X W F1 F2 obe Ge He E (.qM xs) (.List ps pos):=
 L2.PE.imp (CA h) λσ H Q b=>by
  let(ob,H0,G,env,s,st,o):=b
  unfold cT at o;refine{ob,H0,G,env,s,st,?_};cases r:iJ F1 F2 xs env s with
  |bad=>rw [r] at o;exact o|exc c s1=>rw [r] at o;exact o|ok qs s1=>rw [r] at o;have a:=mP r;intro vs i j m u t g l;refine{by rw [l.length,a,sizeLine_eq];omega,λp d=>?_};exact xD t d (c:="#l") (fs:=qs.map λp=>(("":Str),p)) (vs:=vs) (by rfl) (by rw [List.map_map];exact(List.map_id qs).symm▸l) o λaB e f r q=>q _ _ _ _ _ e (g.trans f) r
def MB(S:zv1 X){xs:rN}{ps:List iO}(A:Γ.fs.contains f=ig)(J:ed sc f=ig)(L:okN f=ig)(w:GP X W F1 F2 obe Ge He E xs (p::ps))
 (M:starEach (p::ps) X.env=(iv,eval p X.env)::starEach ps X.env) (hpl:(backTo pos (starEach ps X.env)).any (·.1)=iv):G2 X W F1 F2 obe Ge He E (.c1 f xs) (.Call (.Name f np) (p::ps) [] pos):=by
 intro O P σ H Q I h;let(ob,H0,G,env,s,st,o):=h;unfold cT at o;obtain⟨e,hm,hk⟩:∃e,X.mg f=hT (.ref e)/\PySem.W.keepIn X.K (.ref e)=ig:=by let(e,_,_,_,hm,hk,_):=((S.C ob st.u).fns f A).ex;exact⟨e,hm,hk⟩
 refine wpAny_Call_Name_kw (di I (b9 (S.C ob st.u) J) hm ?_ (dw L).1);refine PySem.W.callWith_K (h₀:=X.base) I.ok.mod.Fb hk (bb (w pos O P σ H (λy m=>∃a i b c as,dg W obe Ge He env σ c a i b m/\eT W ob G H a b m/\ag (W.at a) b as y/\aU W obe Ge He E (Rs.of (F1 c f as) c) λp R=>∀v aB T G' H',dg W obe Ge He env σ R aB T G' H'->eT W ob G H aB G' H'->Rep (W.at aB) G' p v->Q v H') I {ob,H0,G,env,s,st,?_}) λus c ⟨y,m,B,r,q⟩=>{B.iR,?_}) M hpl
 .exact o.bind.imp λas c w y a i b m t g l=>⟨a,i,b,c,as,t,g,l,w⟩
 .let(a,i,b,U,as,d,g1,l,o1):=q;have V:=d.s;subst V;have D:=S.C a d.u;let(Y,fd,pn,Z,F,hk',hb,j):=(D.fns f A).ex;rw [hm] at F;cases F;have o2:=bV S.pass d o1;exact jg (W:=W.at a) D.rm Z hb (λz=>by rw [l.length];exact j as z) B d.sr.sub d.sr.tab l r (o2.imp λp hp v G' H' g rv=>hp v a i G' H' (d.grow g) (g1.trans g.i7) rv)
def Ep(S:zv1 X){x:X2}(B:ed sc "dict"=ig)(hm:Γ.bs.contains "dict"=ig)(D:G2 X W F1 F2 obe Ge He E x p)(w:∀env ps,starEach (p::ps) env=(iv,eval p env)::starEach ps env):G2 X W F1 F2 obe Ge He E (.dict x) (.Call (.Name "dict" np) [p] [] pos):=by
 have e:=S.C [] {(λZ Z Z Z h=>nomatch h),(λZ Z h=>nomatch h)};refine L2.PE.imp (ff (sx (e.calm S.qt) (by have:=S.units;omega)) (b9 e B) (e.bs _ (eu.mp hm)) (by decide+kernel) (aV D bW (w _ _)) (he:=w _ _) (hpl:=rfl)) λσ H Q h=>?_;let(ob,H0,G,env,s,st,o):=h;unfold cT at o;refine eQ st o λq v V f F y i j g1 I o1=>?_
 cases b:jc [q] with
 |exc c=>
  exfalso;unfold jc at b;split at b
  .rcases Res.dt b with z|⟨_,_,z⟩
   .exact Res.aH c z
   .cases z
  .cases b
 |bad=>rw [b] at o1;exact o1.elim|ok r=>rw [b] at o1;let(A,qs,rfl,a,J,L,M,O,pw,m,P,R,T):=sO (W:=W.at f) (X:=X) (H0:=i) S.K j.sr.sub (.cons (.inl I) .nil) b;refine{a,J,L,M,O,pw,λd t U=>?_};rw [T];have u:az (W.at f) y i (upd y d (.bL t (.dK (kz A m)))) (upd i d (.bL t (.dK (kz A m)))):=.new j.sr.sub U;refine o1 (.ref d) f F _ _ (j.grow u) (g1.trans u.i7) ?_;simp! [Rep];exact{d,t,m,rfl,P,ak,ag.same u.g _ R}
theorem Nm(hK:W.K=X.K)(b:X.A.units+64<cLine):HL X (HD W dC):=λa slice c s σ H x y v u Q I d e ⟨ob,h⟩ hs=>Nl (W:=W.at ob) hK b a slice c s σ H x y v u Q I d e h hs
theorem ID(S:zv1 X){x:X2}{e:Ci.E}{q:iO}(d:G2 X W F1 F2 obe Ge He E x p)(f:c9 e=ig)(he:aF Γ N sc e q=ig):G2 X W F1 F2 obe Ge He E (.sub x e) (.Subscript p q pos):=
 L2.PE.imp (Ho (Nm S.K S.units) d (ik (obe:=obe) (Ge:=Ge) (He:=He) S f he) (uk he)) λσ H Q h=>by let(ob,H0,G,env,s,st,o):=h;unfold cT at o;refine eQ st o λp v A B C D F g g1 i o1=>?_;rw [<-fH (F2:=F2)] at o1;refine eQ g o1 λq u I a j G2 J t2 g2 m o2=>?_;let(r,t,y):=o2.val (λc=>pS c);exact{a,zm,G2,p,q,r,t2.sr.sub,.inl (g2.rep i),.inl m,t,λw G' H' b z=>y w a j G' H' (t2.grow b) ((g1.trans g2).trans b.i7) z}
abbrev Wh(W:Wd)(F1:Sg->aW)(obe:List Ob)(Ge He:Hp)(E:XK)(c:Ci.E):TT:=λσ H Q=>∃ob H0 G env s,dg W obe Ge He env σ s ob H0 G H/\
 aU W obe Ge He E (Rs.of (aG (F1 s) c env) s) λp Z=>∃b,p=.bl b/\∀G' H',az (W.at ob) G H G' H'->Q b H'
def Jk(S:zv1 X){e:Ci.E}(a:eN e=ig)(h:aF Γ N sc e p=ig):PT X p (Wh W F1 obe Ge He E e):=by intro b s σ H Q I c;let(ob,H0,G,env,i,st,o):=c;have d:=st.s;subst d;have f:=S.C ob st.u;refine(aP e f p h).gt a b s σ H Q I {H0,G,env,st.sr,?_};exact(bV S.pass st o).imp λp g=>g
theorem IA(S:zv1 X){c:Ci.E}{a b:X2}{j m u:iO}(z:eN c=ig)(A:aF Γ N sc c j=ig)(B:G2 X W F1 F2 obe Ge He E a m)(C:G2 X W F1 F2 obe Ge He E b u):G2 X W F1 F2 obe Ge He E (.ite c a b) (.IfExp j m u pos):=
 L2.PE.imp (ug (Jk (obe:=obe) (Ge:=Ge) (He:=He) S z A) B C) λσ H Q h=>by
  let(ob,H0,G,env,s,st,o):=h
  unfold cT at o;refine{ob,H0,G,env,s,st,?_};cases r:aG (F1 s) c env with
  |bad=>rw [r] at o;exact o.elim|exc d=>rw [r] at o;exact o|ok q=>
   rw [r] at o;cases q with
   |bl t=>
    refine{t,rfl,λw y g1=>?_};have o:aU W obe Ge He E (if t then cT F1 F2 a env s else cT F1 F2 b env s) _:=o
    cases t with
    |true=>rw [if_pos rfl] at o;show t2 W F1 F2 obe Ge He E a σ y Q;exact{ob,H0,w,env,s,st.grow g1,o.imp λp D e v aB f G' H' t g i=>e v aB f G' H' t (g1.i7.trans g) i}|false=>rw [if_neg zzf] at o;show t2 W F1 F2 obe Ge He E b σ y Q;exact{ob,H0,w,env,s,st.grow g1,o.imp λp D e v aB f G' H' t g i=>e v aB f G' H' t (g1.i7.trans g) i}
   |_=>exact o.elim
theorem Iw(S:zv1 X){a b:X2}(u:G2 X W F1 F2 obe Ge He E a d)(w:G2 X W F1 F2 obe Ge He E b e):G2 X W F1 F2 obe Ge He E (.and a b) (.BoolOp .And [d,e] pos):=
 L2.PE.imp (Cr u (vS w)) λσ H Q h=>by
  let(ob,H0,G,env,s,st,o):=h;unfold cT at o;refine eQ st o λp v c f i j m q g1 r o1=>?_
  cases p with
  |bl t=>
   simp! [Rep] at r;refine{t,r,?_};have o1:aU W obe Ge He E (if t then cT F1 F2 b env c else .ok (.bl iv) c) _:=o1
   cases t with
   |true=>rw [if_pos rfl] at o1;show t2 W F1 F2 obe Ge He E b σ m Q;exact{f,i,j,env,c,q,o1.imp λp B y v aB z G' H' t g A=>y v aB z G' H' t (g1.trans g) A}|false=>rw [if_neg zzf] at o1;exact o1 _ f i j m q g1 .b
  |_=>exact o1.elim
end
def HG(W:Wd)(obe:List Ob)(Ge He:Hp)(D:Ends):Fl->Sg->Prop
 |.nx env,s=>∀a ob H0 G H,dg W obe Ge He env a s ob H0 G H->D.nx a H|.bk env,s=>∀a ob H0 G H,dg W obe Ge He env a s ob H0 G H->D.bk a H|.ct env,s=>∀a ob H0 G H,dg W obe Ge He env a s ob H0 G H->D.ct a H|.rt p,s=>∀v ob G H,Rep (W.at ob) G p v->eT W obe Ge He ob G H->kq W.K W.mg ob->aA ob=s->D.rt v H
abbrev V8(W:Wd)(F1:Sg->aW)(F2:gd)(obe:List Ob)(Ge He:Hp)(E:XK)(st:S2):TS:=λD a H=>∃ob b G env s,dg W obe Ge He env a s ob b G H/\aU W obe Ge He E (pF F1 F2 st env s) (HG W obe Ge He D)
abbrev Lj(W:Wd)(F1:Sg->aW)(F2:gd)(obe:List Ob)(Ge He:Hp)(E:XK)(st:qg):TS:=λD a H=>∃ob b G env s,dg W obe Ge He env a s ob b G H/\aU W obe Ge He E (bA F1 F2 st env s) (HG W obe Ge He D)
noncomputable abbrev ye(X:Cx)(W:Wd)(F1:Sg->aW)(F2:gd)(obe:List Ob)(Ge He:Hp)(E:XK)(x:S2)(p:j7):Prop:=PS X p (V8 W F1 F2 obe Ge He E x)
noncomputable abbrev uS(X:Cx)(W:Wd)(F1:Sg->aW)(F2:gd)(obe:List Ob)(Ge He:Hp)(E:XK)(x:qg)(p:List j7):Prop:=oV X p (Lj W F1 F2 obe Ge He E x)
section
variable{Γ:Pg}{Δ:ja}{W:Wd}{F1:Sg->aW}{F2:gd}{sc:j1}{k:Nat}{E:XK}{obe ob aB:List Ob}{Ge He G' H':Hp}{s:Sg}
theorem eU.block(S:zv1 X){b:j1}{p:Nat}{q:List Nat}{xs:List Str}(h:gh N sc b p q xs)(fp:List iN)(s1:iM)(H1:Hp)(A:iN):eU Γ.pT Δ F1 F2 W (xs++freeOf b) (bu b sc) k FX (bg X (xs++freeOf b) b (bt X.env (freeOf b)) fp s1 H1 A) where
 C:=λob u=>dO (S.C ob u) h fp s1 H1 A
 pass:=λy σ H s e D I x=>by let(a,C,t,J,H',B,rfl,F):=x;exact F.ends.elim
 qt:=S.qt
 K:=S.K
 mg:=S.mg
 Aa:=λf h=>by let(d,g,i,o):=S.Aa f h;exact{d,g,i,⟨o.ex⟩}
 met:=λc m h=>by let(C,d,g,i,o):=S.met c m h;exact{C,d,g,i,⟨o.ex⟩}
 new:=λc h=>by let(C,d,j,g,i,o,r,w):=S.new c h;exact{C,d,j,g,i,o,r,⟨w.ex⟩}
 fl:=S.fl
 td:=λf Z z=>nomatch z
def w8(S:zv1 X){f:Nat}{i:List Nat}{e:Tg}{it:I}{c:X2}{b j q:iO}{a:j1}{pos:Pos}(h:gh N sc a f i (av b))(t:fh f e=ig)(w:oz it=ig)(r:mD Γ N sc b it j=ig)
 (y:cx (av b++freeOf a) (bu a sc) (fO a) e b=ig) (he:∀Y,eU Γ.pT Δ F1 F2 W (av b++freeOf a) (bu a sc) k FX Y->G2 Y W F1 F2 obe Ge He FX c q):G2 X W F1 F2 obe Ge He E (.comp f i e it c) (.ListComp q [{b,j,[],0}] a pos):=by
 intro B D σ H Q I F;let(ob,H0,G,env,s,st,o):=F;have J:=st.s;subst J;have d:=S.C ob st.u;have L:(freeOf a).Nodup:=(List.nodup_append.mp h.nd).2.1;have rd:=sJ (N:=N) S t w h.slots L st o
 have:=qW (g:=gT X.K e) (te:=t2 W F1 F2 obe Ge He FX c) (xs:=av b) (ys:=freeOf a) (is:=i) (pos:=pos) (d.calm S.qt) (iF d.hN d.cE I.ok h) (uz it d b j r)
  (λfp m p A=>nA (fn:=fO a) (X:=bg X (av b++freeOf a) a (bt X.env (freeOf a)) fp m p A) rfl h.nd (cQ d.cE) rfl (λZ z=>z) y)
  (λfp m p A=>he _ (S.block h fp m p A)) (ei r _) B D σ H Q I
 rw [h.len] at this;exact this rd
abbrev Ip:iO->Bool
 |.Call .. =>ig|_=>iv
def MA(h:Ip p=ig)(env:Env):∀x,foldedSetIterable p env x=pure x:=by
 intro x;cases p<;>first|rfl|(exact aI h)
def A7(S:zv1 X){f:Nat}{i:List Nat}{d:Tg}{it b:X2}{c j q:iO}{a:j1}{pos:Pos}(h:gh N sc a f i (av c))(r:fh f d=ig)(t:Ip j=ig)(w:G2 X W F1 F2 obe Ge He E it j)
 (y:cx (av c++freeOf a) (bu a sc) (fO a) d c=ig) (he:∀Y,eU Γ.pT Δ F1 F2 W (av c++freeOf a) (bu a sc) k FX Y->G2 Y W F1 F2 obe Ge He FX b q):G2 X W F1 F2 obe Ge He E (.sH f i d it b) (.ListComp q [{c,j,[],0}] a pos):=by
 intro B D σ H Q I F;let(ob,H0,G,env,s,st,o):=F;have J:=st.s;subst J;have e:=S.C ob st.u;have L:(freeOf a).Nodup:=(List.nodup_append.mp h.nd).2.1;have rd:=AM (N:=N) S r h.slots L st o
 have:=qW (g:=gT X.K d) (te:=t2 W F1 F2 obe Ge He FX b) (xs:=av c) (ys:=freeOf a) (is:=i) (pos:=pos) (e.calm S.qt) (iF e.hN e.cE I.ok h) (qX w)
  (λfp m p A=>nA (fn:=fO a) (X:=bg X (av c++freeOf a) a (bt X.env (freeOf a)) fp m p A) rfl h.nd (cQ e.cE) rfl (λZ z=>z) y)
  (λfp m p A=>he _ (S.block h fp m p A)) (MA t _) B D σ H Q I
 rw [h.len] at this;exact this rd
structure yc(Γ:Pg)(Δ:ja)(F1:Sg->aW)(F2:gd)(W:Wd)(N:List Str)(sc:j1)(k:Nat)(E:XK)(X:Cx):Prop where
 C:zv1 X
 S:∀ob,kq W.K W.mg ob->dE Γ (F1 (aA ob)) (W.at ob) N sc k E X
def qS{K:zz8}:kq K mg []:={(λZ Z Z Z h=>nomatch h),(λZ Z h=>nomatch h)}
def yc.s0(S:yc Γ Δ F1 F2 W N sc k E X):dE Γ (F1 (aA [])) (W.at []) N sc k E X:=S.S [] qS
def ME(S:yc Γ Δ F1 F2 W N sc k E X){st:Ci.S}{p:j7}(h:d7 Γ N sc st p=ig):ye X W F1 F2 obe Ge He E (.p st) p:=by
 intro i j σ H D I m;let(ob,H0,G,env,s,t,o):=m;have w:=t.s
 subst w;refine N1 (H0:=H0) (S.S ob t.u) S.C.qt st p h i j σ H D I {G,env,t.sr,?_};unfold pF at o;cases r:mR (F1 (aA ob)) st env with
 |bad=>rw [r] at o;exact o|exc c=>rw [r] at o;intro y z H' x;let(C,a,G',A,B,F,J,g):=x;exact o y z H' {C,a,ob,G',A,B,F,J,t.n.fin t.sr.ib g,t.u,rfl}|ok f=>
  rw [r] at o;cases f with
  |nx b=>
   have o:aU W obe Ge He E (Rs.of (if b.any Slot.bH then Res.bad else .ok (.nx b)) (aA ob)) (HG W obe Ge He D):=o
   cases d:b.any Slot.bH with
   |true=>rw [d,if_pos rfl] at o;exact o.elim|false=>rw [d,if_neg zzf] at o;exact λe G' H' sr g=>o e ob H0 G' H' {sr,t.u,t.n.step g,rfl,d}
  |bk b=>exact o.elim|ct b=>exact o.elim|rt q=>exact λv G' H' K g=>o v ob G' H' K (t.n.fin t.sr.ib g) t.u rfl
def rA{p:PV}(i:Nat)(t:zv5 H)(h:Rep (W.at ob) G p v):dg W obe Ge He (env.set i (.val p)) (σ.set i (hT v)) s ob H0 G H:={t.sr.set i h,t.u,t.n,t.s,gQ t.no i p}
def xa(S:yc Γ Δ F1 F2 W N sc k E X){i:Nat}{e:X2}{a:Pos}(h:N[i]?=hT x)(hl:eP sc x=ig)(he:G2 X W F1 F2 obe Ge He E e p)(hs:swapsWith p (hT (.Name x a)) pos.line X.env=pure iv):ye X W F1 F2 obe Ge He E (.set i e) (.Assign [.Name x a] p pos):=by let(a1,a2,b):=dr S.s0 h hl;refine L2.PS.imp (nC a1 a2 b he hs (.inl (S.s0.fn x))) λD σ H h=>?_;let(ob,H0,G,env,s,t,o):=h;unfold pF at o;exact eQ t o λp v q c d f g j g1 m o1=>o1 _ c d f g (rA i j m)
theorem Jd{e:X2}(he:G2 X W F1 F2 obe Ge He E e p)(hn:cF p=ig):ye X W F1 F2 obe Ge He E (.ex e) (.Expr p pos):=
 L2.PS.imp (ma he (eC hn)) λD σ H h=>by let(ob,H0,G,env,s,t,o):=h;unfold pF at o;exact eQ t o λp v g a b c d f g1 i o1=>o1 σ a b c d f
theorem EL{e:X2}(he:G2 X W F1 F2 obe Ge He E e p):ye X W F1 F2 obe Ge He E (.ret e) (.Return (hT p) pos):=
 L2.PS.imp (q9 he) λD σ H h=>by let(ob,H0,G,env,s,t,o):=h;unfold pF at o;exact eQ t o λp v g b i c d a g1 f o1=>o1 v b c d f (a.n.i7 a.sr) a.u a.s
theorem EJ{c:T2}{a b:qg}{e f:List j7}(m:L5 X W F1 F2 obe Ge He E c p)(q:uS X W F1 F2 obe Ge He E a e)(r:uS X W F1 F2 obe Ge He E b f):ye X W F1 F2 obe Ge He E (.ite c a b) (.If p e f pos):=
 L2.PS.imp (Hr m q r) λD σ H h=>by
  let(ob,H0,G,env,s,t,o):=h;unfold pF at o;refine{ob,H0,G,env,s,t,o.bind.imp λb g d aB i G' H' j=>?_}
  cases b with
  |true=>rw [if_pos rfl] at d⊢;exact⟨aB,i,G',env,g,j,d⟩|false=>rw [if_neg zzf] at d⊢;exact⟨aB,i,G',env,g,j,d⟩
theorem Bo:uS X W F1 F2 obe Ge He E .nil []:=L2.oV.imp rb λD σ H h=>by let(ob,H0,G,env,s,t,o):=h;unfold bA at o;exact o σ ob H0 G H t
theorem yL{x:S2}{xs:qg}{p:j7}{ps:List j7}(c:ye X W F1 F2 obe Ge He E x p)(d:uS X W F1 F2 obe Ge He E xs ps):uS X W F1 F2 obe Ge He E (.cons x xs) (p::ps):=
 L2.oV.imp (um c d) λD σ H h=>by
  let(ob,H0,G,env,s,t,o):=h;unfold bA at o;refine{ob,H0,G,env,s,t,o.bind.imp λf e a=>?_}
  cases f with
  |nx b=>exact λg i j G2 m t2=>⟨i,j,G2,b,e,t2,a⟩|bk b=>exact a|ct b=>exact a|rt q=>exact a
def EK(S:yc Γ Δ F1 F2 W N sc k E X){i:Nat}{y:Str}{f g:Pos}{xs:rN}{a b:iO}{kt pt e u}(z:N[i]?=hT x)(A:N[j]?=hT y)(B:i≠j)(F:x≠y)(J:g.line=f.line)(h:sc.names.lookup x=hT .local)(m:sc.names.lookup y=hT .local)(K:Cq a b=ig)
 (ga:GP X W F1 F2 obe Ge He E xs [a,b]):ye X W F1 F2 obe Ge He E (.par i j xs) (.Assign [.Tuple [.Name x f,.Name y g] kt pt] (.Tuple [a,b] e u) pos):=by
 have c:=S.s0.C;intro L M σ H D I O;refine CU (c.calm S.C.qt) (by rw [c.hN];exact c.nd) (by rw [c.hN];exact z) (by rw [c.hN];exact A) B (by rw [c.cE];exact h) (by rw [c.cE];exact m) ga (Dx I.ok.kind (by rw [c.cE];exact h) (by rw [c.cE];exact m) J F K) rfl L M σ H D I ?_;let(ob,H0,G,env,s,t,o):=O;unfold pF at o;refine{ob,H0,G,env,s,t,o.bind.imp λP s1 o1 vs Q R T U V g1 d=>?_}
 match P,d,o1 with
 |[],_,o1=>exact o1.elim|[_],_,o1=>exact o1.elim|_::_::_::_,_,o1=>exact o1.elim|[p,q],d,o1=>
  let(v,r,rfl,Y,d):=d.aN;let(w,Z,rfl,hw,d):=d.aN;have:=d.length
  cases Z with
  |cons _ _=>cases this
  |nil=>exact{v,w,rfl,o1 _ Q R T U (rA j (rA i V Y) hw)}
def EM(S:yc Γ Δ F1 F2 W N sc k E X){g:Tg}{e:X2}{a:iO}(j:isTup a=ig)(w:cx N sc (λZ=>ig) g a=ig)(hn:cF p=ig)(b:GJ sc a p=ig)(he:G2 X W F1 F2 obe Ge He E e p):ye X W F1 F2 obe Ge He E (.Al g e) (.Assign [a] p pos):=by
 have d:=S.s0.C
 have y:swappedStores [a] p X.env=pure ie:=by
  cases a<;>first|(exact aI j)|skip
  cases p<;>first|rfl|skip
  rcases Bool.or_eq_true_iff.mp b with b|b
  .exact Dw (zzY b)
  .exact xX (by rw [d.cE];exact b)
 have z:(assignEach [a] X.env).map (·.2)=[assign a X.env]:=by
  cases a<;>first|rfl|(exact aI j)
 refine L2.PS.imp (vW he (nA (fn:=λZ=>ig) d.hN d.nd d.cE (d.calm S.C.qt) (λx Z=>S.s0.fn x) w) (eC hn) y z) λD σ H h=>?_;let(ob,H0,G,env,s,t,o):=h;unfold pF at o;refine eQ t o λq v L m A B F f g1 I o1=>?_
 cases r:g.put q env with
 |bad=>rw [r] at o1;exact o1.elim|exc c=>exact absurd r (hU c)|ok M=>rw [r] at o1;exact iL (W:=W.at m) S.C.K r f.sr I λi J=>o1 i m A B F {J,f.u,f.n,f.s,vX f.no r}
theorem uq{p:PV}:∀{fs:List (Str×PV)} {vs:List V},ag (W.at ob) G (fs.map (·.2)) vs->Rep (W.at ob) G p v->∃vs',fQ f v ((fs.map (·.1)).zip vs)=((nF f p fs).map (·.1)).zip vs'/\ag (W.at ob) G ((nF f p fs).map (·.2)) vs'
 |[],vs,l,h=>by simp! [List.map_nil,ag] at l;subst l;exact{[v],rfl,.cons h .nil}|(g,q)::fs,vs,l,h=>by
  let(u,r,rfl,c,b):=ag.aN (p:=q) (ps:=fs.map (·.2)) l;show∃vs',(if g=f then(g,v)::((fs.map (·.1)).zip r) else(g,u)::fQ f v ((fs.map (·.1)).zip r))=((if g=f then(g,p)::fs else(g,q)::nF f p fs).map (·.1)).zip vs'/\ag (W.at ob) G ((if g=f then(g,p)::fs else(g,q)::nF f p fs).map (·.2)) vs';by_cases a:g=f
  .rw [if_pos a,if_pos a];exact{v::r,rfl,.cons h b}
  .rw [if_neg a,if_neg a];let(vs',d,e):=uq b h;exact{u::vs',by rw [d];rfl,.cons c e}
theorem lp{g:Str}{p:PV}:∀{fs:List (Str×PV)},(nF f p fs).lookup g=hT q->g=f\/fs.lookup g=hT q
 |[],h=>by
  have h:List.lookup g [(f,p)]=hT q:=h
  rw [hF] at h;cases e:g==f with
  |true=>exact .inl (zzy.mp e)|false=>rw [e] at h;cases h
 |(a,b)::fs,h=>by
  unfold nF at h;by_cases c:a=f
  .rw [if_pos c,hF] at h;rw [hF];cases e:g==a with
   |true=>exact .inl ((zzy.mp e).trans c)|false=>rw [e] at h;exact .inr h
  .rw [if_neg c,hF] at h;rw [hF];cases e:g==a with
   |true=>rw [e] at h;exact .inr h|false=>rw [e] at h;exact lp h
def GN{a b:Type}{xs:List a}{ys:List b}:(xs.zip ys).length<=xs.length:=by rw [List.length_zip];exact Nat.min_le_left _ _
def Hn{o:Ob}(h:bj o.c=iv):lj o vs=.ins o.C o.dx ((o.fs.map (·.1)).zip vs):=l6 h
def Ia{n:Nat}(h:qy (aA ob) n c=ig):∃o,ob[n]?=hT o/\o.c=c/\bj o.c=iv:=by
 unfold qy at h;cases e:ob[n]? with
 |none=>
  have:(aA ob)[n]?=ie:=by unfold aA;rw [cz,e];rfl
  rw [this] at h;cases h
 |some o=>
  have:(aA ob)[n]?=hT ⟨o.c,o.fs⟩:=by unfold aA;rw [cz,e];rfl
  rw [this] at h;have b:=ah h;have a:=zzy.mp b.1;dsimp only at a;exact{o,rfl,a,by rw [a];simpa using b.2}
def Bk(S:yc Γ Δ F1 F2 W N sc k E X){f:Str}{i:Nat}{e:X2}{p:iO}{ap:Pos}(T:(N[i]?==hT x&&gU sc x&&okN x)=ig)(U:Δ.fl.contains (c,f)=ig)(he:G2 X W F1 F2 obe Ge He E e p)(hn:cF p=ig):
 ye X W F1 F2 obe Ge He E (.uy c i f e) (.Assign [.Attribute (.Name x np) f ap] p pos):=by
 refine L2.PS.imp (KH (ik (F2:=F2) (obe:=obe) (Ge:=Ge) (He:=He) (e:=.var i) (p:=.Name x np) S.C rfl ?_) he (eC hn)) λD σ H h=>?_
 .unfold aF;exact T
 let(ob,H0,G,env,s,t,o):=h;unfold pF at o;refine eQ t o λq y s1 d V Y H1 J g1 Z o1=>?_;have j:=J.s
 subst j;have B:∃n,env[i]?=hT (.val (.obj n))/\qy (aA d) n c=ig/\aU W obe Ge He E ((K4 (aA d) n f q).bind λ_ s=>.ok (.nx env) s) (HG W obe Ge He D):=by
  cases j:env[i]? with
  |none=>rw [j] at o1;exact o1.elim|some sl=>
   rw [j] at o1;cases sl with
   |val r=>
    cases r with
    |obj n=>
     dsimp only at o1;cases w:qy (aA d) n c with
     |true=>rw [w,if_pos rfl] at o1;exact⟨n,rfl,w,o1⟩|false=>rw [w,if_neg zzf] at o1;exact o1.elim
    |_=>exact o1.elim
   |_=>exact o1.elim
 let(n,j,w,o2):=B;let(F,eo,rfl,A):=Ia w
 have ev:cT F1 F2 (.pu (.var i)) env (aA d)=.ok (.obj n) (aA d):=by
  rw [fH];have:aG (F1 (aA d)) (.var i) env=p6 env[i]?:=by unfold aG;rfl
  rw [this,j];rfl
 refine{d,V,Y,env,aA d,J,?_};rw [ev];intro v L qe G2 H2 t2 g2 M;simp! [Rep] at M;let(b,m,rfl):=M;have m:L[n]?=hT b:=m;have hs:(aA L)[n]?=hT ⟨b.c,b.fs⟩:=by unfold aA;rw [cz,m];rfl
 have LL:(aA d)[n]?=hT ⟨F.c,F.fs⟩:=by unfold aA;rw [cz,eo];rfl
 have O:b.c=F.c:=by rw [t2.s,LL] at hs;exact(congrArg OS.c (zzq hs)).symm
 have I:bj b.c=iv:=by rw [O];exact A
 let(_,vs,P,l):=t2.sr.tab.o n b m;rw [Hn I] at P;let(c1,c2,c3):=t2.u.cls n b m I;have Q:cb X.K b.C f:=S.C.fl _ f U b.C (by rw [<-S.C.mg,<-O];exact c1);rw [<-t2.s] at o2;unfold K4 at o2;rw [hs] at o2;dsimp only at o2;by_cases hl:b.fs.length<1000
 .rw [if_pos hl] at o2;let(vs',e5,l'):=uq (f:=f) l (g2.rep Z)
  let(R,u2):=j5 (fs':=nF f q b.fs) (vs':=vs') t2.sr.tab t2.sr.sub t2.u m l' (.inr λg p hg=>by
   rcases lp hg with rfl|z
   .rw [S.C.K];exact Q
   .exact c3 g p z)
  have ho:lj {b with fs:=nF f q b.fs} vs'=.ins b.C b.dx (fQ f y ((b.fs.map (·.1)).zip vs)):=by rw [Hn (o:={b with fs:=nF f q b.fs}) I,e5]
  rw [ho] at R;refine{b.a,b.C,b.dx,_,rfl,P,by rw [<-S.C.K];exact c2,Q,?_,?_}
  .refine c7 GN ?_;rw [zzl];exact hl
  .exact o2 σ _ _ G2 _ (t2.on R u2 nO)
 .rw [if_neg hl] at o2;exact o2.elim
def Bi(S:yc Γ Δ F1 F2 W N sc k E X){a j e:Ci.E}{I:iO}{sp:Pos}(O:c9 a=ig)(P:aF Γ N sc a po=ig)(Q:c9 j=ig)(hk:aF Γ N sc j I=ig)(R:c9 e=ig)(he:aF Γ N sc e p=ig)(hn:cF p=ig):
 ye X W F1 F2 obe Ge He E (.C3 a j e) (.Assign [.Subscript po I sp] p pos):=by
 refine L2.PS.imp (F3 (by have:=S.C.units;omega) (ik (F2:=F2) (obe:=obe) (Ge:=Ge) (He:=He) S.C O P) (ik (F2:=F2) (obe:=obe) (Ge:=Ge) (He:=He) S.C Q hk) (ik (F2:=F2) (obe:=obe) (Ge:=Ge) (He:=He) S.C R he) (eC hn)) λD σ H h=>?_;let(ob,H0,G,env,s,t,o):=h;unfold pF at o;rw [<-fH (F2:=F2)] at o;refine eQ t o λq v s1 bI fk G1 H1 T g1 U o1=>?_;rw [<-fH (F2:=F2)] at o1;refine eQ T o1 λr u s2 gb qe G2 H2 t2 g2 V o2=>?_;rw [<-fH (F2:=F2)] at o2;refine eQ t2 o2 λz w s3 m Lr J H3 g K rz Y=>?_;have Z:=g.s;subst Z;let(n,b,rfl,y,A,f):=kB Y.bind;cases mf (K.rep V) y;let(_,i,L,l):=g.sr.tab.o n b y;rw [ub A] at L;have hl:(b.fs.map (·.1)).length=i.length:=by rw [l.length,zzl,zzl]
 cases B:fJ z with
 |none=>
  have f:aU W obe Ge He E (match fJ z with|some z=>(if b.fs.length<hZ then Rs.ok PV.aE ((aA m).set n {b.c,putD z q b.fs}) else .bad)|none=>.bad) _:=f;rw [B] at f;exact f.elim
 |some d=>
  have f:aU W obe Ge He E (match fJ z with|some z=>(if b.fs.length<hZ then Rs.ok PV.aE ((aA m).set n {b.c,putD z q b.fs}) else .bad)|none=>.bad) _:=f;rw [B] at f;dsimp only at f;rw [et B] at rz;simp! [qL,Rep] at rz;subst rz;by_cases F:b.fs.length<hZ
  .rw [if_pos F] at f;have VV:Rep (W.at m) J q v:=K.rep (g2.rep U);let(M,u2):=j5 (fs':=putD d q b.fs) (vs':=dU (b.fs.map (·.1)) i d v) g.sr.tab g.sr.sub g.u y (by rw [pZ.2];exact rh l VV) (.inl (xm A));have ho:lj {b with fs:=putD d q b.fs} (dU (b.fs.map (·.1)) i d v)=.dK (putK (kz (b.fs.map (·.1)) i) (ki d) v):=by rw [ub (o:={b with fs:=putD d q b.fs}) A,vw hl];show HO.dK (kz ((putD d q b.fs).map (·.1)) _)=_;rw [pZ.1]
   rw [ho] at M;refine{b.a,_,rfl,uR.k (k:=ki d) L (by rw [gK hl,zzl];exact dq F (by decide)),?_};exact f σ _ _ J _ (g.on M u2 nO)
  .rw [if_neg F] at f;exact f.elim
def Ent.trans{c:List Ob}{d:Hp}(n:Ent obe Ge He ob G H0)(m:Ent ob G H0 c d H1):Ent obe Ge He c d H1:={n.ids.trans m.ids,n.g.trans m.g,n.h.trans m.h,λa b e f=>m.own a (n.h.has b) (n.h.iq b e) (n.own a b e f)}
def Ent.comp(n:Ent obe Ge He ob G H0)(t:ba (W.at ob) G H0)(g:eT W ob G H0 aB G' H'):eT W obe Ge He aB G' H':={n.ids.trans g.ids,n.g.trans g.g,n.h.trans g.h,g.sub,λa b c d=>g.own a (n.h.has b) (n.h.iq b c) (n.own a b c d),λZ=>g.tab t}
def DT.comp{b:ix}{d:Option iN}(n:Ent obe Ge He ob G H0)(t:ba (W.at ob) G H0)(x:DT W c s ob G H0 b d H'):DT W c s obe Ge He b d H':=by let(C,a,aB,G',e,f,h,i,g,u,j):=x;exact{C,a,aB,G',e,f,h,i,n.comp t g,u,j}
def EI(S:yc Γ Δ F1 F2 W N sc k E X){U:Tg}{it:I}{b:qg}{aO cO:iO}{pb:List j7}(l4:cx N sc (λ_=>ig) U aO=ig)(hit:oz it=ig)(hi:mD Γ N sc aO it cO=ig)(hb:∀obe Ge He,uS X W F1 F2 obe Ge He E b pb):ye X W F1 F2 obe Ge He E (.gG U it b) (.For aO cO pb [] pos):=by
 intro aa sh σ H D I h;let(ob,H0,G,env,s,t,o):=h;have e0:=t.s;subst e0;have T:=S.C.C ob t.u;unfold pF at o;have MQ:oV X pb (λD σ H=>∃obe Ge He,Lj W F1 F2 obe Ge He E b D σ H):=λaa s σ H D I ⟨obe,Ge,He,q⟩=>hb obe Ge He aa s σ H D I q;refine CT S.s0.own (T.calm S.C.qt) (uz it T aO cO hi) (nA (fn:=λ_=>ig) T.hN T.nd T.cE (T.calm S.C.qt) (λx _=>S.s0.fn x) l4) MQ (ei hi _) aa sh σ H D I {H0,G,env,t.sr,(bV S.C.pass t o.bind).imp λd gf J B H1 g1 gi=>?_};have bL:=gi.bL hit;generalize hf:(λ(x:PV) (env:Sl) (s:Sg)=>(Rs.of (U.put x env) s).bind λa s=>bA F1 F2 b a s)=f at gf;have F:=t.grow g1;have tr:dg W ob B H0 env σ (aA ob) ob H0 B H1:={F.sr,F.u,.refl,rfl,F.no};have TR:=F.sr.ib;refine{λi m L H'=>i<=d.length/\m=d.length-i/\∃aB cu G' a A,dg W ob B H0 a L A aB cu G' H'/\aU W obe Ge He E (gF f (d.drop i) a A) (HG W obe Ge He D),{_,Nat.zero_le _,rfl,ob,H0,B,env,_,tr,by rw [List.drop_zero];exact gf},?_}
 rintro i m L H' ⟨hi2,hm,aB,cu,G',a,A,M,y⟩
 have up:∀{z:Sl} {j:St} {V:Sg} {gb:List Ob} {qe G2 Y:Hp},dg W ob B H0 z j V gb qe G2 Y->dg W obe Ge He z j V gb qe G2 Y:=λq=>{q.sr,q.u,F.n.trans q.n,q.s,q.no};let(ist,igo):=bL i G' H' M.n.g (.of (M.n.g.trans M.sr.sub)) M.sr.sub;by_cases w:i=d.length
 .refine .inl {ist w,?_};rw [w,List.drop_length] at y;exact y L aB cu G' H' (up M)
 .have bR:i<d.length:=by omega
  let(Bu,Z):=igo d[i] (zzg bR);refine .inr {Bu,λj Y=>i+1<=d.length/\∃gb qe G2 z V,dg W ob B H0 z j V gb qe G2 Y/\aU W obe Ge He E (gF f (d.drop (i+1)) z V) (HG W obe Ge He D),λj Y h2=>{d.length-(i+1),by omega,h2.1,rfl,h2.2},λx gW hy=>?_};let(og,g0,rx):=Z x gW hy;have pH:az (W.at aB) G' H' og gW:=⟨g0.g,g0.h,g0.sub,g0.own,g0.tb⟩;have Rq:Rep (W.at aB) og d[i] x:=Rep.at M.n.ids _ rx;rw [List.drop_eq_getElem_cons bR] at y;unfold gF at y;have Qe:f d[i] a A=(Rs.of (U.put d[i] a) A).bind λa s=>bA F1 F2 b a s:=by rw [<-hf]
  rw [Qe] at y;have t2:=M.grow pH
  cases r:U.put d[i] a with
  |bad=>rw [r] at y;exact y.elim|exc c=>exact absurd r (hU c)|ok z=>
   rw [r] at y;refine iL (W:=W.at aB) S.C.K r t2.sr Rq λj sr3=>{ob,B,H0,aB,cu,og,z,A,{sr3,t2.u,t2.n,t2.s,vX t2.no r},?_}
   have o2:aU W obe Ge He E ((bA F1 F2 b z A).bind λfl s=>match fl with
    |.nx a=>gF f (d.drop (i+1)) a s|.ct a=>gF f (d.drop (i+1)) a s|.bk a=>.ok (.nx a) s|.rt p=>.ok (.rt p) s) (HG W obe Ge He D):=y
   cases r2:bA F1 F2 b z A with
   |bad=>rw [r2] at o2;exact o2.elim|exc cc s3=>rw [r2] at o2;exact λCv ao O x=>o2 Cv ao O (DT.comp F.n TR x)|ok fl s3=>
    rw [r2] at o2;cases fl with
    |nx e=>exact λP Q Lr R O t3=>⟨bR,Q,Lr,R,e,s3,t3,o2⟩|ct e=>exact λP Q Lr R O t3=>⟨bR,Q,Lr,R,e,s3,t3,o2⟩|bk e=>exact λP Q Lr R O t3=>o2 P Q Lr R O (up t3)|rt q=>exact λv Q R O rv g3 u3 e3=>o2 v Q R O rv (F.n.comp TR g3) u3 e3
def Bj(S:yc Γ Δ F1 F2 W N sc k E X){i:Nat}{B F:Pos}(J:N[i]?=hT x)(L:eP sc x=ig){m:Nat}{q:List Nat}{f:Tg}{it:I}{c:X2}{b j r:iO}{a:j1}{pos:Pos}(h:gh N sc a m q (av b))(M:fh m f=ig)(O:oz it=ig)(w:mD Γ N sc b it j=ig)
 (P:cx (av b++freeOf a) (bu a sc) (fO a) f b=ig) (he:∀Y,eU Γ.pT Δ F1 F2 W (av b++freeOf a) (bu a sc) k FX Y->G2 Y W F1 F2 obe Ge He FX c r):ye X W F1 F2 obe Ge He E (.set i (.comp m q f it c)) (.Assign [.Name x B] (.ListComp r [{b,j,[],0}] a pos) F):=by
 let(a1,a2,T):=dr S.s0 J L
 cases R:OU sc x B (.ListComp r [⟨b,j,[],0⟩] a pos) with
 |false=>exact xa S J L (w8 S.C h M O w P he) (by rw [hW S.s0.C.cE S.s0.kind,R])|true=>
  intro U V σ H D I Z;let(ob,H0,G,env,s,t,o):=Z;have e0:=t.s;subst e0;have d:=S.C.C ob t.u;unfold pF at o;have zi:(freeOf a).Nodup:=(List.nodup_append.mp h.nd).2.1;have rd:=sJ (N:=N) (Q:=λv e=>D.nx (σ.set i (hT v)) e) S.C M O h.slots zi t (o.bind.imp λp s' hp v aB cu G' H' t' g' rp=>hp _ aB cu G' H' (rA i t' rp))
  have:=nD (g:=gT X.K f) (te:=t2 W F1 F2 obe Ge He FX c) (xs:=av b) (ys:=freeOf a) (is:=q) (pos:=pos) a1 a2 T (d.calm S.C.qt) (iF d.hN d.cE I.ok h) (uz it d b j w)
   (λfp y e A=>nA (fn:=fO a) (X:=bg X (av b++freeOf a) a (bt X.env (freeOf a)) fp y e A) rfl h.nd (cQ d.cE) rfl (λ_ z=>z) P)
   (λfp y e A=>he _ (S.C.block h fp y e A)) (by rw [hW (l:=F.line) d.cE S.s0.kind,R]) (ei w _) (.inl (S.s0.fn x)) U V σ H D I
  rw [h.len] at this;exact this rd
end
structure Sj(n dn en:Str)(st:j7):Prop where
 sc:gV [dn,en] [dn] (aq st)
 bind:∀(kV doc pm:ix) (an:Option iN) (cS ct:ix) (us:List ix),us.length=[dn].length->bindArgs (PySem.W.fnOf n n (bx st) (aR st) (aq st) .none kV doc pm an cS ct) {us,[]}=pure ([dn].zip us)
 body:∃np cp rp xp gp Th Pz Ts yR pos,aR st=[.Try [.Return (hT (.Call (.Name dn np) [] [] cp)) rp] [.ExceptHandler (hT (.Name (zu 7) xp)) (hT en) [.Return (hT (.Call (.Name (zu 13) gp) [.Name en Th] [] Pz)) Ts] yR] [] [] pos]
 ld:(aq st).names.lookup dn=hT .local
 le:(aq st).names.lookup en=hT .local
 g1:(aq st).names.lookup (zu 7:Str)=hT .globalImplicit
 g2:(aq st).names.lookup (zu 13:Str)=hT .globalImplicit
 o1:okN dn=ig
 o2:okN en=ig
section
variable{K:zz8}{Γ:Pg}{W:Wd}{F1:Sg->aW}
theorem T1.mono{k:Nat}(t:T1 P w K mg base W F1 Γ j)(h:j<=k):T1 P w K mg base W F1 Γ k:=
 {t.M,λob u f a=>(t.F ob u f a).mono h,λob u q b=>by let(c,fd,d,e,g):=(t.H ob u q b).ex;exact{c,fd,d,e.mono h,g},t.Q,t.A,t.D,t.qt,t.hl,c0 t.k2 h}
abbrev Wb(P:i2)(w:i3)(K:zz8)(mg:Str->Option ix)(base:j2)(k:Nat)(g:XK):TE:=λi H Q=>∃f d,i[0]?=hT (hT (V.ref f))/\(∀h,d4 P w H h->PySem.W.FnAt f h)/\D5 P w K mg base k f H Q d/\∀e b c,d e b c->(∀a,b=hT a->c a=ie)->g e b c
abbrev Wc(W:Wd)(F1:Sg->aW):TE:=λe H Q=>∃a d pv ob G,e[1]?=hT (hT (V.ref a))/\aw G H/\ba (W.at ob) G H/\kq W.K W.mg ob/\Rep (W.at ob) G (.exc d) (.ref a)/\F1 (aA ob) (zu 13) [.exc d]=.ok pv/\∀v b c,az (W.at ob) G H b c->Rep (W.at ob) b pv v->Q v c
def Gz(KB:K.In base){n Z en:Str}{fa:iN}{fd:FuncData}(T:T1 P w K mg base W F1 Γ j)(c:Γ.qs.contains (zu 13)=ig)(Ad:Γ.cs.contains (zu 7)=ig)(St:Sj n Z en st)(Fu:HH K n n st fa fd):
 d6 P w K mg base (cR P w) (j+3) fa fd [Z] (spT P w K mg base (j+2) W F1):=by
 let(oc,od,kV,doc,pm,an,cS,ct,oh,rfl,lk,lG):=Fu.ex;have hK:W.K=K:=(T.M []).hK;have hM:W.mg=mg:=(T.M []).hm;have m:=T.mono (Nat.le_succ j);refine A6 lk lG St.sc (λp H Q E h=>h.1) λA outer s H p Q E hr h=>?_;let(_,f,RE,rfl,L,hC,hE):=h;have CS:∀ob,kq W.K W.mg ob->dE Γ (F1 (aA ob)) (W.at ob) [Z,en] (aq st) (j+1) E (cU (cR P w) P w K mg base [Z,en] n (aq st) fa cS A outer s H E):=λob u=>vb (outer:=outer) (s:=s) (H:=H) (E:=E) (T.M ob) KB St.sc (m.F ob u) (m.H ob u) (λf L=>{m.k2,m.Q ob u f L}) (λ_=>m.k2) (m.A ob u) (m.D ob u) (λz=>by rw [T.hl] at z;cases z) hr;have C0:=CS [] qS;let(np,cp,rp,xp,gp,Th,Pz,Ts,yR,pos,eb):=St.body;let(Dc,hm):=C0.C.cls _ (eu.mp Ad);rw [eb];refine{_,rf (KI (Dc:=Dc) (i:=1) (tb:=λE'=>Li (Wb P w K mg base (j+2) E')) (ts:=Li (Wc W F1)) C0.C.nd rfl St.le rfl rfl St.g1 hm (λpn xe E' hP=>rf (q9 ?call)) (λa pn=>rf (q9 ?tell))),?fin}
 case call=>intro aa s1 b N Q1 O R;let(f,RE,h0,L,hC,hE):=R;refine wpAny_Call_Name_kw (wpAny_mono (kM (i:=0) rfl (.inl St.ld) (dw St.o1).1 (dw St.o1).2.1 aa s1 b N (λv' S=>v'=.ref f/\S=N) O {_,h0,rfl,rfl}) (λu s2 hu=>?_) λ_ _ y=>y);let(v',S,I,ru,rfl,rfl):=hu;cases ru;refine PySem.W.callWith_F0 (L _ I.aJ) ?_;refine hC _ aa b s2 Q1 rfl rfl rfl rfl rfl hr I (λ_ _ z=>z) λe s' x=>?_;let(a,C,t,p,U,B,rfl,F):=x;exact hP aa b _ s2 _ s' I {a,C,t,p,U,B,rfl,{F with ends:=hE _ _ _ F.ends λa' e=>by cases e;exact F.fresh}}
 case tell=>intro o s1 b N Q1 O R;let(ad,d,pv,ob,G,R,sg,tb,u,rp,J,h3):=R;have C1:=CS ob u;let(k2,(fb,fd2,pn2,FO,DY,hk2,MQ,hal)):=C1.C.Rh _ c;refine wpAny_Call_Name_kw (di O St.g2 DY ?_ (by decide+kernel));refine PySem.W.callWith_K (h₀:=base) O.ok.mod.Fb hk2 (bb ((aV (kM (i:=1) rfl (.inl St.le) (dw St.o2).1 (dw St.o2).2.1) bW rfl) Pz o s1 b N (λp S=>p=[.ref ad]/\S=N) O {.ref ad,R,rfl,rfl}) λus s2 ⟨p,S,I,r,q1,q2⟩=>{I.iR,?_}) rfl rfl;subst q1 q2;refine jg (W:=W.at ob) (k:=2) (q:=ie) (as:=[.exc d]) (G:=G) {λz=>absurd z (by decide),(hr.mono (Nat.le_succ_of_le k2)).dp,(hr.mono (Nat.le_succ_of_le k2)).un} FO MQ (λz=>hal _ z) I sg tb (show ag (W.at ob) _ [.exc d] [V.ref ad] from .cons rp .nil) r ?_;rw [J];exact h3
 case fin=>
  refine{f,RE,rfl,L,hC,λCv ao U y fr=>?_};let(d,C,a,ob,G,rfl,rfl,X,Y,sg,tb,u,c):=hE _ _ _ y;have ha:U a=ie:=fr a rfl;refine{a,C,rfl,rfl,C0.LA Ad d C X (by rw [<-hM];exact Y) Dc hm,λσ' hl=>?_};have gn:az (W.at ob) G U (upd G a (lD a C)) (upd U a (lD a C)):=.new sg ha
  cases J:F1 (aA ob) (zu 13) [.exc d] with
  |exc _=>rw [J] at c;exact c.elim|bad=>rw [J] at c;exact c.elim|ok pv=>
   rw [J] at c;refine{a,d,pv,ob,upd G a (lD a C),?_,gn.sub,gn.tab tb,u,?_,J,λv G' gW g r=>c v G' gW (gn.trans g) r}
   .exact ew (by rw [hl];exact(by decide:1<2))
   .simp! [Rep];exact⟨a,C,rfl,X,Y,ak⟩
variable{Z:lu}
mutual
theorem Rep.less(f:∀b o,Z.lookup b=hT o->G b=hT (.bL o cC)):∀(p:PV) {v:V},Rep W G p v->Rep W (bS Z G) p v
 |.aE,_,h=>by simpa only [Rep] using h|.bl b,_,h=>by simpa only [Rep] using h|.int i,_,h=>by simpa only [Rep] using h|.str z,_,h=>by simpa only [Rep] using h|.tup xs,_,h=>by
  simp! [Rep] at h⊢;let(a,vs,e,q,l):=h
  refine{a,vs,e,?_,ag.less f xs l};rcases q with q|⟨(q|⟨o,q⟩)|q,z⟩
  .cases y:Z.lookup a with
   |none=>exact .inl (by rw [aD y];exact q)|some d=>rw [f a d y] at q;cases q
  .cases y:Z.lookup a with
   |none=>exact .inl (by rw [aD y];exact q)|some d=>rw [f a d y] at q;cases q
  .cases y:Z.lookup a with
   |none=>exact .inr {.inl (.inr {o,by rw [aD y];exact q}),z}|some d=>rw [f a d y] at q;cases q
  .exact .inr {.inr q,z}
 |.lst xs,_,h=>by
  simp! [Rep] at h⊢;let(a,vs,e,q,l):=h
  refine{a,vs,e,?_,ag.less f xs l};rcases q with(q|⟨o,q⟩)|q
  .cases y:Z.lookup a with
   |none=>exact .inl (.inl (by rw [aD y];exact q))|some d=>rw [f a d y] at q;cases q
  .cases y:Z.lookup a with
   |none=>exact .inl (.inr {o,by rw [aD y];exact q})|some d=>rw [f a d y] at q;cases q
  .exact .inr q
 |.exc c,_,h=>by
  simp! [Rep] at h⊢;let(a,C,e,x,m,q):=h
  cases y:Z.lookup a with
  |none=>exact{a,C,e,x,m,by rw [aD y];exact q}|some d=>rw [f a d y] at q;unfold lD at q;cases q
 |.bU j vs,_,h=>by
  simp! [Rep] at h⊢;let(a,o,g,e,n,m,l):=h
  refine{a,o,g,e,n,?_,ag.less f vs l};cases y:Z.lookup a with
  |none=>rw [aD y];exact m|some d=>rw [f a d y] at m;cases m
 |.obj n,_,h=>by simpa only [Rep] using h
theorem ag.less(a:∀b o,Z.lookup b=hT o->G b=hT (.bL o cC)):∀(ps:List PV) {vs:List V},ag W G ps vs->ag W (bS Z G) ps vs
 |[],_,h=>by simpa only [ag] using h|p::ps,_,h=>by simp! [ag] at h⊢;let(v,r,e,c,d):=h;exact{v,r,e,Rep.less a p c,ag.less a ps d}
end
theorem Gb(a:aw G H)(c:∀b o,Z.lookup b=hT o->H b=ie):aw G (aK Z G):=λb u e=>by
 cases y:Z.lookup b with
 |none=>rw [au y];exact e|some o=>have:=a _ _ e;rw [c b o y] at this;cases this
theorem zT(t:jb W G H)(i:aw G H)(f:∀b o,Z.lookup b=hT o->G b=hT (.bL o cC))(j:∀b o,Z.lookup b=hT o->∃v,o.data=.cell v):jb W (bS Z G) (bS Z H):=λP q m=>by
 let(n,k,e,p,r):=t P q m;refine{iU n,k,?_,p,λc s y=>?_}
 .cases y:Z.lookup P with
  |none=>rw [aD y];exact e|some o=>rw [i _ _ (f P o y)] at e;cases e
 .let(a,oc,u,z,A,d,g,B):=r c s y
  refine{a,oc,u,z,A,?_,g,B};cases y:Z.lookup a with
  |none=>rw [aD y];exact d|some o=>rw [f a o y] at d;cases d;let(v,h):=j a _ y;rw [g] at h;cases h
theorem p8(t:jb W G H)(g:aw G H)(a:∀b o,Z.lookup b=hT o->H b=ie):jb W (aK Z G) (aK Z H):=λP q m=>by
 let(n,h,e,i,j):=t P q m;refine{?_,h,?_,i,λc k y=>?_}
 .cases y:Z.lookup P with
  |none=>rw [au y];exact n|some o=>rw [a P o y] at e;cases e
 .cases y:Z.lookup P with
  |none=>rw [au y];exact e|some o=>rw [a P o y] at e;cases e
 .let(d,oc,p,r,s,f,u,z):=j c k y
  refine{d,oc,p,r,s,?_,u,z};cases y:Z.lookup d with
  |none=>rw [au y];exact f|some o=>have:=g _ _ f;rw [a d o y] at this;cases this
def DC(t:ba W G H)(d:aw G H)(c:∀b o,Z.lookup b=hT o->H b=ie):ba W (aK Z G) (aK Z H):={p8 t.t d c,λi o m=>by
 let(f,g,e,l):=t.o i o m
 have y:Z.lookup o.a=ie:=by
  cases y:Z.lookup o.a with
  |none=>rfl|some u=>rw [c _ u y] at e;cases e
 exact{by rw [au y];exact f,g,by rw [au y];exact e,ag.same (Gb d c) _ l}}
theorem az.lz{d f:Hp}(g:az W (aK Z G) (aK Z H) d f)(i:aw G H)(j:∀b o,Z.lookup b=hT o->∃v,o.data=.cell v)(c:∀b o,Z.lookup b=hT o->H b=ie):az W G H (bS Z d) (bS Z f) where
 g:=λb u e=>by
  cases y:Z.lookup b with
  |none=>rw [aD y];exact g.g _ _ (by rw [au y];exact e)|some o=>have:=i _ _ e;rw [c b o y] at this;cases this
 h:=λb u e=>by
  cases y:Z.lookup b with
  |none=>rw [aD y];exact g.h _ _ (by rw [au y];exact e)|some o=>rw [c b o y] at e;cases e
 sub:=λb u e=>by let(q,k):=iV e;rw [aD q];exact g.sub _ _ k
 own:=λa m p r=>by
  cases y:Z.lookup a with
  |none=>rw [aD y];exact g.own a (by rw [au y];exact m) (by rw [au y];exact p) (by rw [au y];exact r)|some o=>exact gN y
 tb:=λt=>zT (g.tb (p8 t i c)) g.sub (λb o q=>g.g _ _ (bf q)) j
def zN(a:aw G H):aw (aK Z G) (aK Z H):=λb u e=>by
 cases y:Z.lookup b with
 |none=>rw [au y] at e⊢;exact a _ _ e|some o=>rw [bf y] at e⊢;exact e
def la(a:∀b o,Z.lookup b=hT o->H b=ie):bS Z (aK Z H)=H:=by
 funext b
 cases y:Z.lookup b with
 |none=>rw [aD y,au y]|some o=>rw [gN y,a b o y]
theorem Bx(k:d4 P w H h)(a:∀b o,Z.lookup b=hT o->H b=hT (.bL o cC)):d4 P w (bS Z H) h:=λb v e=>by
 let(q,d):=iV e;refine(k b v d).ef (λc y Y r=>r) (λc r=>?_) λc xs r=>?_
 .cases y:Z.lookup c with
  |none=>rw [aD y];exact r|some o=>rw [a c o y] at r;cases r
 .cases y:Z.lookup c with
  |none=>rw [aD y];exact r|some o=>rw [a c o y] at r;cases r
def yI{K:zz8}{s:iM}(e:iw P w K mg base A outer s H)(a:∀b o,Z.lookup b=hT o->H b=hT (.bL o cC)):iw P w K mg base A outer s (bS Z H):=
 {e.frames,e.mod,λb o q=>{(e.bs b o q).1,iU (e.bs b o q).2},e.u6,e.f7,λb c=>iU (e.vh b c),Bx e.aJ a,e.bare}
def K3{ps:List Str}{a:j1}(h:Ru ps a=ig):r6 ps (bh a) a:=by unfold Ru at h;simp! [zza,zzy,Bool.not_eq_true',zzN,cP] at h;let((((((b,c),d),e),f),g),i):=h;refine{b,c,d,e,f,g,i,λx j=>?_};unfold bh;rw [List.mem_reverse,fx];exact{(x,.free),List.mem_filter.mpr {PySem.mem_of_lookup j,rfl},rfl}
def Ed{b:Arguments}{ps:List Str}{body:iO}{c:j1}{d e ct:ix}(h:sk b=hT ps)(us:List ix)(hl:us.length=ps.length):bindArgs (PySem.W.kla_fn (zu 16) qual b body c cl d e ct) {us,[]}=pure (ps.zip us):=by
 rcases wJ h with⟨rfl,rfl⟩|⟨a,rfl,rfl⟩
 .match us,hl with
  |[],_=>rfl
 .match us,hl with
  |[u],_=>simp [bindArgs,seqItems?,PySem.W.kla_fn];rfl
def El{b:Arguments}{ps:List Str}{env:Env}(h:sk b=hT ps):defaultsOf b env=([],[]):=by
 rcases wJ h with⟨rfl,rfl⟩|⟨a,rfl,rfl⟩
 .rfl
 .rfl
end
def Gq{W:Wd}{as:List PV}(d:aw G H)(tb:ba W G H)(l:ag W G as vs):SR W H (as.map .val) (vs.map hT) G H:=by
 refine{by rw [zzl,zzl];exact l.length.symm,d,gj.refl _,λi s e=>?_,λi j p q a b Z Z Z=>?_,tb,tb}
 .rw [cz] at e;let(p,c,rfl):=bC.mp e;let(v,f,g):=l.mW c;exact{hT v,by rw [cz,f];rfl,v,rfl,g}
 .rw [cz] at b;let(p,c,e):=bC.mp b;cases e
section
variable{Γ:Pg}{W:Wd}{F:aW}{sc:j1}{k:Nat}
def wG(X:Cx)(W:Wd)(a:Arguments)(body:iO)(b:j1)(cl:List (Str×iN))(e H1 G2 g:Hp)(f:iN):Prop:=az W e H1 G2 g/\∃c oc d t h i,G2 f=hT (.bL (PySem.W.kla_obj (zu 16) (X.env.qual++(zu 16)) a body b cl i c h) cC)/\G2 c=hT (.bL oc cC)/\oc.data=.fields d/\d[1]?=hT (.str (X.env.qual++(zu 16)) t)
def Kw(C:zv4 X)(hl:Γ.hl=ig){d:Arguments}{ps:List Str}{body:iO}{g:j1}(hp:sk d=hT ps)(tx:closureFor g X.env=pure cl):
 PE X (.Lambda d body g pos) (λσ H Q=>∃G,aw G H/\ba W G H/\∀f G2 H2,wG X W d body g cl G H G2 H2 f->Q (.ref f) H2):=by
 intro aa s σ H Q I h;let(G,O,tb,q):=h;let(c,P,xf,CH,Z,huq):=C.tb hl;let(nG,nY,hP,tr,al):=tb.t P _ Z;refine L2.BO (R:=λi oc=>G i=hT (.bL oc cC)) I hP tr xf CH (C.bm hl) tx (El hp) (λD e=>?_) λf i oc S t rQ rW h' tk T U LF Vo Vk hd hv Wg UD more I'=>?_
 .let(i,oc,S,t,E,r,J,K):=al pos D e;exact{i,oc,S,t,E,O _ _ r,r,J,K}
 .have UX:G f=ie:=O.free T
  have UW:G i=ie\/G i=hT (.bL oc cC):=by
   rcases U with z|z
   .exact .inl (O.free z)
   .exact .inr z.2
  have fo:∀fo,gM H P rW i oc f fo f=hT (.bL fo cC):=λfo=>by unfold gM;rw [ak]
  have sG:∀fo,aw G (upd (upd G i (.bL oc cC)) f (.bL fo cC)):=λfo b u e=>by
   have A:b≠f:=λz=>by rw [z,UX] at e;cases e
   rw [ae A];by_cases w:b=i
   .subst w;rw [ak];rcases UW with z|z
    .rw [z] at e;cases e
    .rw [z] at e;exact e
   .rw [ae w];exact e
  have Rc:∀fo a,H a≠ie->(∀vs,H a≠hT (.tup vs))->G a=ie->(upd (upd G i (.bL oc cC)) f (.bL fo cC)) a=ie:=λfo a h1 _ h2=>by
   have Vh:a≠f:=λz=>h1 (by rw [z];exact T);rw [ae Vh];by_cases ha:a=i
   .subst ha;rcases U with z|z
    .exact absurd z h1
    .rw [z.2] at h2;cases h2
   .rw [ae ha];exact h2
  refine{.ref f,_,I',rfl,q f (upd (upd G i (.bL oc cC)) f (.bL _ cC)) _ {{sG _,λb u e=>?_,λb u e=>?_,Rc _,λ_ V q' m=>?_},i,oc,S,t,rQ,(X.mg (zu 27)).getD .none,ak,by rw [ae LF,ak],hd,hv}}
  .have A:b≠f:=λz=>by rw [z,T] at e;cases e
   by_cases Y:b=P
   .subst Y;rw [hP] at e;cases e;let(m,rfl):=more;exact .inr {nY,m,rfl,by unfold gM;rw [ae (Ne.symm Vo),ae (Ne.symm Vk),ak]}
   .have r:gM H P rW i oc f (PySem.W.kla_obj (zu 16) (X.env.qual++(zu 16)) d body g cl ((X.mg (zu 27)).getD .none) i rQ) b=H b:=by
     unfold gM;rw [ae A];by_cases w:b=i
     .subst w;rw [ak];rcases U with z|z
      .rw [z] at e;cases e
      .rw [z.1]
     .rw [ae w,ae Y]
    rw [r];exact gj.refl H b u e
  .by_cases A:b=f
   .subst A;rw [ak] at e;rw [fo];exact e
   .rw [ae A] at e;unfold gM;rw [ae A];by_cases w:b=i
    .subst w;rw [ak] at e⊢;exact e
    .rw [ae w] at e⊢;have Y:b≠P:=λz=>by rw [z,nG] at e;cases e
     rw [ae Y];exact O _ _ e
  .let(n1,qs,j,tr1,L):=tb.t V q' m;have Qc:V≠f:=λz=>by rw [z,T] at j;cases j
   have f9:V≠i:=λz=>by
    rcases U with y|y
    .rw [z,y] at j;cases j
    .rw [z,y.1] at j;cases j
   refine{by rw [ae Qc,ae f9];exact n1,?_};by_cases M:V=P
   .subst M;rw [hP] at j;cases j;refine{rW,by unfold gM;rw [ae Qc,ae f9,ak],Wg,λo D y=>?_}
    rcases UD o D y with y|y
    .let(c2,B,p,t2,E,r,J,K):=L o D y;exact{c2,B,p,t2,E,sG _ _ _ r,J,K}
    .exact{i,oc,S,t,y,by rw [ae LF,ak],hd,by rw [huq q' m];exact hv}
   .refine{qs,by unfold gM;rw [ae Qc,ae f9,ae M];exact j,tr1,λo D y=>?_};let(c2,B,p,t2,E,r,J,K):=L o D y;exact{c2,B,p,t2,E,sG _ _ _ r,J,K}
end
def lookup_all{Z:lu}(a:∀q∈Z,h.get? q.1=hT q.2):∀{c:iN} {o:Obj},(c,o)∈Z->Z.lookup c=hT o:=by
 induction Z with
 |nil=>intro c o m;cases m
 |cons q Z d=>
  intro c o m;let(c1,o1):=q
  rw [hF];cases e:c==c1 with
  |true=>have f:=zzy.mp e;subst f;have g:=a (c,o1) b4;have b:h.get? c=hT o:=a (c,o) m;rw [g] at b;exact b|false=>
   rcases el.mp m with z|z
   .cases z;simp at e
   .exact d (λq i=>a q (bw _ i)) z
section
variable{W:Wd}{F1:Sg->aW}{F2:gd}{Γ:Pg}{Δ:ja}
theorem wQ{d:St}(sr:SR W H0 env d G H):∀{a:List Nat} {b:Sl},sA a env=.ok b->∃(cs:List PV) (ws:List V),b=cs.map .val/\ag W G cs ws/\ws.length=a.length/\∀(j:Nat) (i:Nat),a[j]?=hT i->∃v,ws[j]?=hT v/\d[i]?=hT (hT v)
 |[],b,h=>by unfold sA at h;cases h;exact{[],[],rfl,.nil,rfl,λj i e=>by simp at e}
 |i::a,b,h=>by
  unfold sA at h;let(p,c,h):=Res.aC h;let(t,f,h):=Res.aC h
  cases h;have hs:env[i]?=hT (.val p):=by
   cases e:env[i]? with
   |none=>rw [e] at c;cases c
   |some s=>rw [e] at c;cases s<;>cases c;rfl
  let(o,g,v,rfl,m):=sr.slot i _ hs;let(cs,ws,rfl,q,r,l3):=wQ sr f;refine{p::cs,v::ws,rfl,.cons m q,by simp [r],λj k e=>?_}
  cases j with
  |zero=>simp at e;subst e;exact⟨v,rfl,g⟩|succ j=>simpa using l3 j k (zx6 e)
theorem mC(c:Str):∀{a:List Nat},sA a env≠.exc c
 |[]=>nofun|i::a=>λz=>by
  unfold sA at z;rcases Res.dt z with z|⟨p,_,z⟩
  .cases e:env[i]? with
   |none=>rw [e] at z;cases z
   |some s=>rw [e] at z;cases s<;>cases z
  .rcases Res.dt z with z|⟨ps,_,z⟩
   .exact mC c z
   .cases z
theorem GK(cs:List PV):(cs.map Slot.val).any Slot.bH=iv:=qh λs m=>by let(p,_,rfl):=fx.mp m;rfl
def Eg{K:zz8}{x:X2}{B:Arguments}{body:iO}{k:j1}{pm rQ:ix}{g N:iN}{oc:Obj}{gZ:Array ix}{t:Tok}{Z:lu}{ob:List Ob}{cs:List PV}{ws:List V}{Qo:VK}{RE:XK}
 (T:T1 P w K mg base W F1 Γ j) (M:GR P w K mg base W F2 Δ j) (R:Δ.cs=[]/\Δ.td=[]) (hp:sk B=hT []) (S:r6 [] (bh k) k) (u:kq W.K W.mg ob) (sg:aw G H) (tb:ba (W.at ob) G H) (rws:ag (W.at ob) G cs ws) (OQ:ws.length=(bh k).length)
 (fo:H g=hT (.bL (PySem.W.kla_obj (zu 16) qual B body k cl pm N rQ) cC)) (co:H N=hT (.bL oc cC)) (cd:oc.data=.fields gZ) (cn:gZ[1]?=hT (.str qual t)) (Lq:∀b o,Z.lookup b=hT o->H b=ie) (inj:∀x y c,cl.lookup x=hT c->cl.lookup y=hT c->x=y) (has:∀y∈bh k,∃c,cl.lookup y=hT c)
 (cells:∀x c,cl.lookup x=hT c->∃o v,Z.lookup c=hT o/\o.data=.cell v) (U:∀(i:Nat) y c,(bh k)[i]?=hT y->cl.lookup y=hT c->∀v,ws[i]?=hT v->∃u o,RelV v u/\Z.lookup c=hT o/\o.data=.cell (hT u))
 (he:∀(L:XK) (Y:Cx),eU Γ Δ F1 F2 W (bh k) k j L Y->G2 Y W F1 F2 ob G H L x body)
 (tG:cT F1 F2 x (cs.map .val) (aA ob)≠.bad) (aJ:∀p s',cT F1 F2 x (cs.map .val) (aA ob)=.ok p s'->∀v O G' J,eT W ob G H O G' J->kq W.K W.mg O->aA O=s'->Rep (W.at O) G' p v->Qo v J)
 (Va:∀d s',cT F1 F2 x (cs.map .val) (aA ob)=.exc d s'->∀Cv ao J,(∀b o,Z.lookup b=hT o->J b=ie)->DT W d s' ob G H Cv ao J->RE Cv ao (aK Z J)):D5 P w K mg base (j+2) g (aK Z H) (λv J=>Qo v (bS Z J)) RE:=by
 intro X aa σ s Q hP hw hKK hmg cJ hr I hQ hx;subst hP hw hKK hmg cJ;have nz:∀b v,H b=hT v->Z.lookup b=ie:=λb v e=>by
  cases y:Z.lookup b with
  |none=>rfl|some o=>rw [Lq b o y] at e;cases e
 have UO:bS Z (aK Z H)=H:=la Lq;have Oq:yh Z H (d9 X.stack) s.heap:={λb o q=>(I.aJ b _ (bf q)).1,Lq,λb o q hb=>by have:=I.mi b hb;rw [bf q] at this;cases this};have e0:iw X.prog X.w X.K X.mg X.base X.A X.stack s H:=by have:=yI (Z:=Z) I.js (λb o q=>bf q);rw [UO] at this;exact this
 let L:XK:=λC a J=>(∀b o,Z.lookup b=hT o->J b=ie)->RE C a (aK Z J);have hK:W.K=X.K:=(T.M []).hK;have hM:W.mg=X.mg:=(T.M []).hm
 have CL:eU Γ Δ F1 F2 W (bh k) k j L (Lw X.prog X.w X.K X.mg X.base ([]++bh k) qual k g (.ref N) cl X.A X.stack s H L):={
  C:=λob u=>{rfl,rfl,λz=>Option.isNone_iff_eq_none.mpr (hr.hd (by have:=T.k2;omega)),S.nd,(T.M ob).hK,(T.M ob).hm,(T.M ob).gs,(T.M ob).bs,hr.deeper _,λg hg=>{(T.F ob u g hg).ex},(T.M ob).J9,(T.M ob).cls,(T.M ob).xc,λq hq=>{(T.H ob u q hq).ex},λf hf=>{T.k2,{(T.Q ob u f hf).ex}},T.A ob u,(T.D ob u).fld,(T.D ob u).con,(λz=>by rw [T.hl] at z;cases z),(λz=>by rw [T.hl] at z;cases z),(λz=>by rw [T.hl] at z;cases z)}
  pass:=NK
  qt:=T.qt
  K:=hK
  mg:=hM
  Aa:=λf h=>by rw [R.1] at h;cases h
  met:=λc m h=>by let(C,fa,h1,h2,h3):=M.met c m h;exact{C,fa,h1,h2,⟨h3.ex⟩}
  new:=λc h=>by let(C,fa,j,h1,h2,h3,h4,h5):=M.new c h;exact{C,fa,j,h1,h2,h3,h4,⟨h5.ex⟩}
  fl:=M.fl
  td:=λf h=>by rw [R.2] at h;cases h}
 have Bu:=(I.aJ g _ (show aK Z H g=hT (.bL (PySem.W.kla_obj (zu 16) qual B body k cl pm N rQ) cC) by rw [au (nz _ _ fo)];exact fo)).1;have P5:=(I.aJ N _ (show aK Z H N=hT (.bL oc cC) by rw [au (nz _ _ co)];exact co)).1;refine wpAny_call (codeAny_mono (L2.Fc (us:=[]) (E:=RE) (Q:=Q) (Z:=Z) (ws:=ws) (vs:=[]) (t:=t2 W F1 F2 ob G H L x) S hr e0 Oq ?zb Bu P5 cd cn (Ed hp [] rfl) .nil rfl OQ has inj cells ?cells (he L _ CL) ?hq) λrr s' JB=>?end_)
 case zb=>
  intro b o q;cases y:X.base.get? b with
  |none=>rfl|some o'=>have:=(I.bs b o' y).2;rw [bf q] at this;cases this
 case cells=>intro i y c h1 h2 v h3;let(u,o',q1,q2,q3):=U i y c h1 h2 v h3;exact{u,q1,o',Oq.at_ c o' q2,q3}
 case hq=>
  refine{ob,H,G,cs.map .val,aA ob,{Gq sg tb rws,u,.refl,rfl,GK cs},?_};cases r:cT F1 F2 x (cs.map .val) (aA ob) with
  |bad=>exact absurd r tG|exc d s1=>exact λCv ao J y zn=>Va d s1 r Cv ao J zn y|ok p s1=>intro v O cu G' J t' g' rp zn;refine hQ _ _ ?_;show Qo v (bS Z (aK Z J));rw [la zn];exact aJ p s1 r v O G' J g' t'.u t'.s rp
 case end_=>
  cases rr with
  |error e=>exact hx e s' JB|ok fl=>
   cases fl with
   |ret u=>exact I.after JB|next=>exact ek JB|brk=>exact ek JB|cont=>exact ek JB
variable{sc:j1}{k:Nat}{E:XK}{obe:List Ob}{Ge He:Hp}
def IE(S:zv1 X){aM:List Nat}{x:X2}{F:Arguments}{body:iO}{D:j1}{Nv:Pos}(hf:Δ.td.contains f=ig)(hl:Γ.hl=ig)(hg:ed sc f=ig)(ho:okN f=ig)(hp:sk F=hT [])(EZ:aM.map (λi=>N[i]?)=(bh D).map hT)(lF:∀y∈bh D,sc.names.lookup y=hT .cell)(cE:r6 [] (bh D) D)
 (he:∀(j:Nat) (obe:List Ob) (Ge He:Hp) (E':XK) (Y:Cx),eU Γ.pT Δ.Nh F1 F2 W (bh D) D j E' Y->G2 Y W F1 F2 obe Ge He E' x body):G2 X W F1 F2 obe Ge He E (.uI f aM x) (.Call (.Name f np) [.Lambda F body D Nv] [] pos):=by
 intro aa sh σ cu Q I h;let(ob0,H0,G0,env,s0,La,o):=h;have e0:=La.s;subst e0;have U:=S.C ob0 La.u;let(fa,j,fd,y0,hm,hk,hj,FO,hb,T,M):=S.td f hf hl;have tx:closureFor D X.env=pure (bt X.env (bh D)):=mF λy O DX=>I.ok.has y.1 (.inl (by show X.env.scope.names.lookup y.1=_;rw [U.cE];refine lF y.1 ?_;unfold bh;rw [List.mem_reverse,fx];exact{y,List.mem_filter.mpr {O,by rw [DX];rfl},rfl}));refine wpAny_Call_Name_kw (di I (b9 U hg) hm ?_ (dw ho).1);refine PySem.W.callWith_K (h₀:=X.base) I.ok.mod.Fb hk (bb ((aV (Kw U hl hp tx) bW rfl) pos aa sh σ cu (λvs H2=>∃G2 g,vs=[.ref g]/\wG X (W.at ob0) F body D (bt X.env (bh D)) G0 cu G2 H2 g) I {G0,La.sr.sub,La.sr.tab,λg G2 H2 m=>⟨G2,g,rfl,m⟩}) λus s ⟨vs,H,I,r,q⟩=>{I.iR,?_}) rfl rfl;let(G,g,rfl,gm,c',oc,gZ,t,rQ,pm,fo,co,cd,cn):=q;have st:=La.grow gm;generalize ob0=ob at *
 have sr:=st.sr
 unfold cT at o;cases yO:sA aM env with
 |bad=>rw [yO] at o;exact o.elim|exc c=>exact absurd yO (mC c)|ok ay=>
 rw [yO] at o;let(cs,ws,rfl,rws,OQ,pws):=wQ sr yO;simp! [Rs.of,Rs.bind] at o;have mX:∀y∈bh D,∃c,X.env.cells.lookup y=hT c:=λy O=>I.ok.has y (.inl (by show X.env.scope.names.lookup y=_;rw [U.cE];exact lF y O));have call:((bh D).all λy=>(X.env.cells.lookup y).isSome)=ig:=cP.mpr λy O=>by let(c,e):=mX y O;rw [e];rfl
 let Z:lu:=(bh D).filterMap λy=>(X.env.cells.lookup y).bind λc=>(s.heap.get? c).map λo=>(c,o);have Oo:∀q∈Z,∃y,y∈bh D/\X.env.cells.lookup y=hT q.1/\s.heap.get? q.1=hT q.2:=λq hq=>by let(y,O,e):=fP.mp hq;let(c,hc,e):=dJ.mp e;let(o,ho,rfl):=bC.mp e;exact⟨y,O,hc,ho⟩
 have RQ:∀q∈Z,s.heap.get? q.1=hT q.2:=λq hq=>let⟨_,_,_,h⟩:=Oo q hq;h;have Ub:∀y c o,y∈bh D->X.env.cells.lookup y=hT c->s.heap.get? c=hT o->Z.lookup c=hT o:=λy c o O hc ho=>lookup_all RQ (fP.mpr {y,O,by rw [hc];show(s.heap.get? c).map _=_;rw [ho];rfl});have Om:∀b o,Z.lookup b=hT o->∃y,y∈bh D/\X.env.cells.lookup y=hT b/\s.heap.get? b=hT o:=λb o e=>by let(y,P,L,h3):=Oo (b,o) (PySem.W.mem_of_lookupK e);exact⟨y,P,L,h3⟩
 have zc:∀b o,Z.lookup b=hT o->∃v,o.data=.cell v:=λb o e=>by let(y,_,L,h3):=Om b o e;let(v,o',h4,h5):=I.cell y b L;rw [h3] at h4;cases h4;exact⟨v,h5⟩
 have Lq:∀b o,Z.lookup b=hT o->H b=ie:=λb o e=>by let(y,_,L,_):=Om b o e;exact I.er y b L
 have Ms:∀x c,(bt X.env (bh D)).lookup x=hT c->X.env.cells.lookup x=hT c:=eh call;have Px:∀x c,(bt X.env (bh D)).lookup x=hT c->x∈bh D:=λx c e=>by have:=PySem.mem_of_lookup e;unfold bt at this;let(y,O,e2):=fx.mp this;cases e2;exact O
 have Ua:∀b o,Z.lookup b=hT o->X.s₀.heap.objs.size<=b:=λb o e=>by let(y,_,L,_):=Om b o e;exact I.ok.HW y b (U.fl hl y) L
 have Oq:yh Z H (d9 X.stack) s.heap:={λb o e=>let⟨_,_,_,h⟩:=Om b o e;h,Lq,λb o e P2=>by
  let(y,_,L,h3):=Om b o e
  rcases el.mp (I.kP b P2) with z|z
  .exact I.Ab y b L z
  .let(_,o',h4,_):=I.ok.f7.mem z;exact absurd (bZ h4) (Nat.not_lt.mpr (Ua b o e))}
 have zb:∀b o,Z.lookup b=hT o->X.base.get? b=ie:=λb o e=>by
  cases y:X.base.get? b with
  |none=>rfl|some o'=>exact absurd (bZ (I.ok.bs b o' y).1) (Nat.not_lt.mpr (Ua b o e))
 have Vv:(bh D).length=aM.length:=by have:=congrArg List.length EZ;simpa using this.symm
 have nz:∀b v,H b=hT v->Z.lookup b=ie:=λb v e=>by
  cases y:Z.lookup b with
  |none=>rfl|some o=>rw [Lq b o y] at e;cases e
 have PK:=sr.sub _ _ fo;have UK:=sr.sub _ _ co;have kn:=hb s us I.iR (by rw [hG];exact r.length.symm);rw [hG] at kn;let RE:XK:=λCv ao J=>∃d V H1,cT F1 F2 x (cs.map .val) (aA ob)=.exc d V/\J=aK Z H1/\(∀b o,Z.lookup b=hT o->H1 b=ie)/\DT W d V ob G H Cv ao H1
 have P4:D5 X.prog X.w X.K X.mg X.base (j+2) g (aK Z H) (λv J=>Q v (bS Z J)) RE:=by
  refine Eg T M ⟨rfl,rfl⟩ hp cE st.u sr.sub sr.tab rws (by rw [OQ,Vv]) PK UK cd cn Lq (λx y c P L=>I.ok.inj x y c (Ms x c P) (Ms y c L)) (λy O=>jh O) (λx c h=>?_) (λi y c P L v h3=>?_) (λE' Y CY=>he j ob G H E' Y CY) (λz=>by rw [z] at o;exact o) (λp V e v R G' J g' u' es rp=>?_) λd V e Cv ao J zn y=>⟨d,V,J,e,rfl,zn,y⟩
  .let(v,o,P,L):=I.cell x c (Ms x c h);exact{o,v,Ub x c o (Px x c h) (Ms x c h) P,L}
  .have hi:i<aM.length:=by rw [<-OQ];exact(br.mp h3).1
   let(v',q1,q2):=pws i aM[i] (zzg hi);rw [h3] at q1;cases q1;have UZ:X.N[aM[i]]?=hT y:=by rw [U.hN];have:=congrArg (λl=>l[i]?) EZ;simp! [cz,P,zzg hi,Option.map_some] at this;exact zzq this
   let(m,_,Jw):=I.loc;let(u,ru,lk):=Jw aM[i] y v UZ q2 (.inr (.inl (by rw [U.cE];exact lF y (a7 P))));have MV:=Ms y c L
   rcases lk with⟨z,_⟩|⟨_,c2,lX,o,ho,hd⟩
   .have z2:X.env.scope.names.lookup y=hT .local:=z;rw [U.cE,lF y (a7 P)] at z2;cases z2
   .rw [MV] at lX;cases lX;exact{u,o,ru,Ub y c o (a7 P) MV ho,hd}
  .rw [e] at o;exact o v R J G' J (st.on g' u' es) (gm.i7.trans g') rp
 have Qb:∀Cv ao J,RE Cv ao J->∃d C a R G',Cv=.ref C/\ao=hT a/\d∈W.xs/\W.mg d=hT (.ref C)/\aw G' J/\ba (W.at R) G' J/\kq W.K W.mg R/\(match F1 (aA R) (zu 13) [.exc d] with
  |.ok p=>∀v G3 H3,az (W.at R) G' J G3 H3->Rep (W.at R) G3 p v->Q v (bS Z H3)|_=>False):=by
  rintro Cv ao J ⟨d,V,H1,e,rfl,zn,C,a,R,G1,rfl,rfl,hd1,hd2,gr,u',es⟩
  refine{d,C,a,R,aK Z G1,rfl,rfl,hd1,hd2,zN gr.sub,DC (gr.tab sr.tab) gr.sub zn,u',?_};rw [e] at o;dsimp only at o;rw [es];cases hv:F1 V (zu 13) [.exc d] with
  |exc _=>rw [hv] at o;exact o.elim|bad=>rw [hv] at o;exact o.elim|ok p=>rw [hv] at o;intro v G3 H3 g3 rp;have gl:=g3.lz gr.sub zc zn;have g4:=gr.trans gl.i7;exact o v R _ _ _ (st.on g4 u' es) (gm.i7.trans g4) (Rep.less (λb o q=>g3.g _ _ (bf q)) p rp)
 refine wpAny_call (codeAny_mono (FO.run X.A X.stack s (aK Z H) {us,[]} us [.ref g] (λv J=>Q v (bS Z J)) (λ_ _ _=>False) (U.room.mono (by omega)) (I.js.aK Oq zb) kn r {rfl,g,RE,rfl,λh k=>?_,P4,Qb}) λrr V hr=>?_)
 .have:=(k g _ (show aK Z H g=hT (.bL (PySem.W.kla_obj (zu 16) (X.env.qual++(zu 16)) F body D (bt X.env (bh D)) pm c' rQ) cC) by rw [au (nz _ _ PK)];exact PK)).1;exact{_,_,_,_,this}
 .cases rr with
  |error e=>have hr:cR X.prog X.w X.stack (aK Z H) s (λ_ _ _=>False) e V:=hr;let(a,C',t,vs,J,B,rfl,Fl):=hr;exact Fl.ends.elim|ok fl=>
   cases fl with
   |ret u=>exact I.after (CE.less Oq hr)|next=>exact ek hr|brk=>exact ek hr|cont=>exact ek hr
end
abbrev Fi:iO->Bool
 |.Starred .. =>iv|_=>ig
def jY(h:Fi p=ig)(env:Env)(ps:List iO):starEach (p::ps) env=(iv,eval p env)::starEach ps env:=by
 cases p<;>first|rfl|exact aI h
mutual
noncomputable def eG(Γ:Pg)(d:ja)(N:List Str)(sc:j1):X2->iO->Bool
 |.pu e,p=>c9 e&&aF Γ N sc e p|.Aa f as,p=>(rP p).any λq=>f==q.1&&(d.cs.contains q.1&&ed sc q.1&&okN q.1&&fZ as&&!q.2.isEmpty&&cN Γ N sc as q.2)|.met o c m as,p=>(z9 p).any λq=>(DU q.1).any λr=>q.2.2.1.isEmpty&&(m==r.2.1&&(d.ms.contains (c,m)&&c9 o&&aF Γ N sc o r.1&&dj r.1&&r.2.2.endLine==q.2.2.2.line&&fZ as&&cN Γ N sc as q.2.1&&decide (ez as<30)))|.new c as,p=>(rP p).any λq=>c==q.1&&(d.ns.contains q.1&&ed sc q.1&&okN q.1&&fZ as&&cN Γ N sc as q.2)|.c1 f as,p=>(rP p).any λq=>f==q.1&&(Γ.fs.contains q.1&&ed sc q.1&&okN q.1&&!q.2.isEmpty&&mE Γ d N sc as q.2)|.tup as,p=>(zU p).any λps=>decide (y8 as<1000)&&mE Γ d N sc as ps|.sH k h j it elt,p=>(LP p).any λq=>(cM q.2.1).any λg=>g.ifs.isEmpty&&(pq N sc q.2.2 k h (av g.target)&&fh k j&&Ip g.iter&&eG Γ d N sc it g.iter&&cx (av g.target++freeOf q.2.2) (bu q.2.2 sc) (fO q.2.2) j g.target&&eG Γ.pT d (av g.target++freeOf q.2.2) (bu q.2.2 sc) elt q.1&&decide (g.is_async=0))|.kF,p=>E7 p|.qM as,p=>(QK p).any λps=>decide (y8 as<1000)&&mE Γ d N sc as ps|.dict x,p=>(rP p).any λq=>(cM q.2).any λa=>q.1==("dict":Str)&&(ed sc q.1&&Γ.bs.contains q.1&&Fi a&&eG Γ d N sc x a)|.fY a x,p=>(z9 p).any λq=>(DU q.1).any λr=>(cM q.2.1).any λe=>q.2.2.1.isEmpty&&(r.2.1==("append":Str)&&(c9 a&&aF Γ N sc a r.1&&dj r.1&&r.2.2.endLine==q.2.2.2.line&&Fi e&&eG Γ d N sc x e))|.zG a,p=>(z9 p).any λq=>(DU q.1).any λr=>q.2.1.isEmpty&&(q.2.2.1.isEmpty&&(r.2.1==("pop":Str)&&(c9 a&&aF Γ N sc a r.1&&dj r.1&&r.2.2.endLine==q.2.2.2.line)))|.sR a k,p=>(z9 p).any λq=>(DU q.1).any λr=>(cM q.2.1).any λe=>q.2.2.1.isEmpty&&(r.2.1==("pop":Str)&&(c9 a&&aF Γ N sc a r.1&&dj r.1&&r.2.2.endLine==q.2.2.2.line&&c9 k&&aF Γ N sc k e))|.sub x e,p=>(Hx p).any λq=>c9 e&&(eG Γ d N sc x q.1&&aF Γ N sc e q.2)|.ite c a b,p=>(Qy p).any λq=>eN c&&(aF Γ N sc c q.1&&(eG Γ d N sc a q.2.1&&eG Γ d N sc b q.2.2))|.and a b,p=>(Lv p).any λq=>pJ q.1&&((uJ q.2.1).any λr=>eG Γ d N sc a r.1&&eG Γ d N sc b r.2)|.uI f h x,p=>(rP p).any λq=>(cM q.2).any λl=>(Tf l).any λr=>f==q.1&&(d.td.contains q.1&&Γ.hl&&ed sc q.1&&okN q.1&&sk r.1==hT []&&decide (h.map (λi=>N[i]?)=(bh r.2.2).map hT)&&((bh r.2.2).all λy=>decide (sc.names.lookup y=hT .cell))&&Ru [] r.2.2&&eG Γ.pT d.Nh (bh r.2.2) r.2.2 x r.2.1)|.Ih _,_=>iv|.JT _,_=>iv|.cmp o a b,p=>(Mt p).any λq=>(cM q.2.1).any λop=>(cM q.2.2).any λs=>decide (lK o=op)&&(eG Γ d N sc a q.1&&eG Γ d N sc b s&&!behindInMarks (lK o) s)|.comp k h j it elt,p=>(LP p).any λq=>(cM q.2.1).any λg=>g.ifs.isEmpty&&(pq N sc q.2.2 k h (av g.target)&&fh k j&&oz it&&mD Γ N sc g.target it g.iter&&cx (av g.target++freeOf q.2.2) (bu q.2.2 sc) (fO q.2.2) j g.target&&eG Γ.pT d (av g.target++freeOf q.2.2) (bu q.2.2 sc) elt q.1&&decide (g.is_async=0))
noncomputable def mE(Γ:Pg)(a:ja)(N:List Str)(sc:j1):rN->List iO->Bool
 |.nil,[]=>ig|.cons x xs,p::ps=>Fi p&&(eG Γ a N sc x p&&mE Γ a N sc xs ps)|_,_=>iv
end
abbrev BE:T2->Bool
 |.or _ _=>ig|_=>iv
abbrev wU(Γ:Pg)(c:ja)(N:List Str)(sc:j1):T2->iO->Bool
 |.pu e,p=>eN e&&aF Γ N sc e p|.cmp o a b,p=>eG Γ c N sc (.cmp o a b) p|.or a b,p=>(Lv p).any λq=>!pJ q.1&&((OA q.1 q.2.2 q.2.1).any λr=>(BE b||decide (q.2.1.length=2))&&(wU Γ c N sc a r.1&&wU Γ c N sc b r.2))
abbrev Ni:X2->Bool
 |.comp _ _ _ _ _=>ig|_=>iv
mutual
noncomputable def G7(Γ:Pg)(d:ja)(N:List Str)(sc:j1):S2->j7->Bool
 |.p st,p=>d7 Γ N sc st p|.set i x,.Assign ts p _=>(LS ts).any λy=>N[i]?==hT y&&(eP sc y&&(Ni x||cF p)&&eG Γ d N sc x p)
 |.ex x,.Expr p _=>cF p&&eG Γ d N sc x p|.ret x,.Return (hT p) _=>eG Γ d N sc x p|.par i j xs,.Assign ts (.Tuple [a,b] _ _) _=>(FR ts).any λq=>(N[i]?==hT q.1&&N[j]?==hT q.2.2.1)&&(decide (i≠j)&&q.1 !=q.2.2.1&&q.2.2.2.line==q.2.1.line&&sc.names.lookup q.1==hT .local&&sc.names.lookup q.2.2.1==hT .local&&Cq a b&&mE Γ d N sc xs [a,b])|.Al h x,.Assign ts p _=>(cM ts).any λg=>isTup g&&(cx N sc (λZ=>ig) h g&&cF p&&GJ sc g p&&eG Γ d N sc x p)|.uy c i f e,.Assign ts p _=>(cM ts).any λt=>(DU t).any λr=>(iW r.1).any λx=>r.2.1==f&&((N[i]?==hT x&&gU sc x&&okN x)&&d.fl.contains (c,f)&&cF p&&eG Γ d N sc e p)|.C3 a k e,.Assign ts p _=>(cM ts).any λt=>(Hx t).any λr=>c9 a&&(aF Γ N sc a r.1&&c9 k&&aF Γ N sc k r.2&&c9 e&&aF Γ N sc e p&&cF p)|.ite c a b,.If p s m _=>wU Γ d N sc c p&&(iC Γ d N sc a s&&iC Γ d N sc b m)|.gG h it b,.For g u m o _=>o.isEmpty&&(cx N sc (λZ=>ig) h g&&oz it&&mD Γ N sc g it u&&iC Γ d N sc b m)|_,_=>iv
noncomputable def iC(Γ:Pg)(a:ja)(N:List Str)(sc:j1):qg->List j7->Bool
 |.nil,[]=>ig|.cons s ss,p::ps=>G7 Γ a N sc s p&&iC Γ a N sc ss ps|_,_=>iv
end
section
theorem uK{Γ:Pg}{b:ja}{sc:j1}{env:Env}:∀{xs:rN} {ps:List iO},mE Γ b N sc xs ps=ig->(backTo pos (starEach ps env)).any (·.1)=iv
 |.nil,[],_=>rfl|.cons x xs,p::ps,h=>by have a:=ah h;have c:=ah a.2;rw [jY a.1];show(iv||(backTo pos (starEach ps env)).any (·.1))=iv;rw [uK c.2];rfl
 |.nil,_::_,h=>aI h|.cons _ _,[],h=>aI h
variable{W:Wd}{F1:Sg->aW}{F2:gd}
mutual
theorem ee:∀(x:X2) {A:ja} {k:Nat} {obe:List Ob} {Ge He:Hp} {Γ:Pg} {N:List Str} {sc:j1} {E:XK} {X:Cx},eU Γ A F1 F2 W N sc k E X->∀p,eG Γ A N sc x p=ig->G2 X W F1 F2 obe Ge He E x p
 |.pu e,A,k,obe,Ge,He,Γ,N,sc,E,X,S,p,h=>by have h:=ah h;exact ik S h.1 h.2|.Aa f as,A,k,obe,Ge,He,Γ,N,sc,E,X,S,p,h=>by
  let(g,args,np,t,rfl,r):=uN h;have i:=ah r;cases zzy.mp i.1;have d:=i.2;simp! [zza] at d;let(((((a1,a2),B),C),D),G):=d
  cases args with
  |nil=>exact aI D|cons q qs=>exact Iy S a1 a2 B C G
 |.met o c m as,A,k,obe,Ge,He,Γ,N,sc,E,X,S,p,h=>by let((f,args,O,t),e,r):=af h;have z:=fu e;let((po,I,J),P,i):=af r;have u:=ft P;have d:=ah i;have w:=jX d.1;dsimp only at z u w;subst z u w;have s:=ah d.2;have H:=zzy.mp s.1;dsimp only at H;subst H;have F:=s.2;simp! [zza] at F;let(((((((a1,a2),B),C),D),G),K),V):=F;exact IB S a1 a2 B C D G K (zzY V)|.new c as,A,k,obe,Ge,He,Γ,N,sc,E,X,S,p,h=>by let(g,args,np,t,rfl,r):=uN h;have i:=ah r;cases zzy.mp i.1;have d:=i.2;simp! [zza] at d;let((((a1,a2),B),C),D):=d;exact IC S a1 a2 B C D
 |.tup as,A,k,obe,Ge,He,Γ,N,sc,E,X,S,p,h=>by let(Z,e,r):=af h;let(_,_,rfl):=mm e;have i:=ah r;exact IF (zzY i.1) (uA as S Z i.2)|.cmp o a b,A,k,obe,Ge,He,Γ,N,sc,E,X,S,p,h=>by let(pa,ops,bs,t,rfl,r):=OD h;let(op,Q,i):=cW r;let(pb,u,d):=cW i;dsimp only at Q u;subst Q u;have s:=ah d;have H:=zzY s.1;subst H;have F:=s.2;rw [zza,zza,Bool.not_eq_true'] at F;exact Iz S (ee a S _ F.1.1) (ee b S _ F.1.2) F.2|.comp kk aM tg it elt,A,k,obe,Ge,He,Γ,N,sc,E,X,S,p,h=>by let(bQ,R,L,_,rfl,r):=JS h;let((aO,cO,ifs,asy),u,i):=cW r;have d:=ah i;have w:=jX d.1;dsimp only at u w;subst u w;have s:=d.2;simp! [zza] at s;let((((((a1,a2),B),C),D),G),K):=s;have K:=zzY K;subst K;exact w8 S (dN a1) a2 B C D λY T=>ee elt T bQ G|.c1 f as,A,k,obe,Ge,He,Γ,N,sc,E,X,S,p,h=>by
  let(g,args,np,t,rfl,r):=uN h;have i:=ah r;cases zzy.mp i.1;have d:=i.2;simp! [zza] at d;let((((a1,a2),B),C),D):=d
  cases args with
  |nil=>exact aI C|cons q qs=>
   cases as with
   |nil=>exact aI D|cons y ys=>have b:=ah D;exact MB S a1 a2 B (uA _ S _ D) (jY b.1 _ _) (uK (ah b.2).2)
 |.sH kk aM tg it elt,A,k,obe,Ge,He,Γ,N,sc,E,X,S,p,h=>by let(bQ,R,L,_,rfl,r):=JS h;let((aO,cO,ifs,asy),u,i):=cW r;have d:=ah i;have w:=jX d.1;dsimp only at u w;subst u w;have s:=d.2;simp! [zza] at s;let((((((a1,a2),B),C),D),G),K):=s;have K:=zzY K;subst K;exact A7 S (dN a1) a2 B (ee it S cO C) D λY T=>ee elt T bQ G|.kF,A,k,obe,Ge,He,Γ,N,sc,E,X,S,p,h=>by let(t,rfl):=xn h;exact Er S|.qM as,A,k,obe,Ge,He,Γ,N,sc,E,X,S,p,h=>by let(Z,e,r):=af h;let(_,rfl):=vy e;have i:=ah r;exact Et S (zzY i.1) (uA as S Z i.2)|.dict x,A,k,obe,Ge,He,Γ,N,sc,E,X,S,p,h=>by let(g,args,np,t,rfl,r):=uN h;let(q,z,i):=cW r;have d:=ah i;have w:=zzy.mp d.1;dsimp only at z w;subst z w;have s:=d.2;simp! [zza] at s;let(((a1,a2),B),C):=s;exact Ep S a1 a2 (ee x S _ C) (jY B)|.fY a x,A,k,obe,Ge,He,Γ,N,sc,E,X,S,p,h=>by let((f,args,O,t),e,r):=af h;have z:=fu e;let((po,I,J),P,i):=af r;have u:=ft P;let(q,M,d):=cW i;have d:=ah d;have w:=jX d.1;have s:=ah d.2;have H:=zzy.mp s.1;dsimp only at z u w H M;subst z u w H M;have F:=s.2;simp! [zza] at F;let(((((a1,a2),B),C),D),G):=F;exact Eo S a1 a2 (ee x S _ G) B C (jY D)|.zG a,A,k,obe,Ge,He,Γ,N,sc,E,X,S,p,h=>by let((f,args,O,t),e,r):=af h;have z:=fu e;let((po,I,J),P,i):=af r;have u:=ft P;have d:=ah i;have M:=jX d.1;have d:=ah d.2;have w:=jX d.1;have s:=ah d.2;have H:=zzy.mp s.1;dsimp only at z u w H M;subst z u w H M;have F:=s.2;simp! [zza] at F;let(((a1,a2),B),C):=F;exact Eu S a1 a2 B C|.sR a kk,A,k,obe,Ge,He,Γ,N,sc,E,X,S,p,h=>by let((f,args,O,t),e,r):=af h;have z:=fu e;let((po,I,J),P,i):=af r;have u:=ft P;let(q,M,d):=cW i;have d:=ah d;have w:=jX d.1;have s:=ah d.2;have H:=zzy.mp s.1;dsimp only at z u w H M;subst z u w H M;have F:=s.2;simp! [zza] at F;let(((((a1,a2),B),C),D),G):=F;exact A8 S a1 a2 D G B C|.sub x e,A,k,obe,Ge,He,Γ,N,sc,E,X,S,p,h=>by let(a,b,t,rfl,r):=N3 h;have i:=ah r;have d:=ah i.2;exact ID S (ee x S _ d.1) i.1 d.2|.ite c a b,A,k,obe,Ge,He,Γ,N,sc,E,X,S,p,h=>by let(q,e,r):=af h;let(t,rfl):=BA e;have i:=ah r;have d:=ah i.2;have s:=ah d.2;exact IA S i.1 d.1 (ee a S _ s.1) (ee b S _ s.2)|.and a b,A,k,obe,Ge,He,Γ,N,sc,E,X,S,p,h=>by let(o,vs,t,rfl,r):=Oz h;have i:=ah r;let(pa,pb,z,d):=zX i.2;have Q:=tJ i.1;dsimp only at z Q;subst z Q;have s:=ah d;exact Iw S (ee a S pa s.1) (ee b S pb s.2)|.uI f aM x,A,k,obe,Ge,He,Γ,N,sc,E,X,S,p,h=>by let(g,args,np,t,rfl,r):=uN h;let(l,z,i):=cW r;let((U,body,L),e,d):=af i;let(Nv,u):=JU e;have s:=ah d;have w:=zzy.mp s.1;dsimp only at z u w;subst z u w;have F:=s.2;simp! [zza,cP,zzN] at F;let((((((((a1,a2),B),C),D),G),K),V),a9):=F;exact IE S a1 a2 B C (eq_of_beq D) G K (K3 V) λj obe Ge He E' Y T=>ee x T body a9|.Ih _,_,_,_,_,_,_,_,_,_,_,_,_,h=>aI h|.JT _,_,_,_,_,_,_,_,_,_,_,_,_,h=>aI h
theorem uA:∀(xs:rN) {a:ja} {k:Nat} {obe:List Ob} {Ge He:Hp} {Γ:Pg} {N:List Str} {sc:j1} {E:XK} {X:Cx},eU Γ a F1 F2 W N sc k E X->∀ps,mE Γ a N sc xs ps=ig->GP X W F1 F2 obe Ge He E xs ps
 |.nil,a,k,obe,Ge,He,Γ,N,sc,E,X,S,ps,h=>by
  cases ps with
  |nil=>exact Ew|cons _ _=>exact aI h
 |.cons x xs,a,k,obe,Ge,He,Γ,N,sc,E,X,S,ps,h=>by
  cases ps with
  |nil=>exact aI h|cons p ps=>have b:=ah h;have c:=ah b.2;exact A9 (ee x S p c.1) (uA xs S ps c.2) (jY b.1 _ _)
end
variable{Δ:ja}{k:Nat}{obe:List Ob}{Ge He:Hp}
def Bp{E:XK}{a b:T2}{c:iO}{rest:List iO}{pos:Pos}(m:L5 X W F1 F2 obe Ge He E a c)(p:PW X (.BoolOp .Or (d::rest) pos) (Og W F1 F2 obe Ge He E b)):PW X (.BoolOp .Or (c::d::rest) pos) (Og W F1 F2 obe Ge He E (.or a b)):=by
 have h:=pw_or (pos:=pos) m p;intro q r s u H Q I w;refine h q r s u H Q I ?_;let(ob,y,G,env,s,st,o):=w;unfold Il at o;refine{ob,y,G,env,s,st,o.bind.imp λt z e f g i A j=>?_}
 cases t with
 |true=>rw [if_pos rfl];exact e f g i A j|false=>rw [if_neg zzf];exact⟨f,g,i,env,z,j,e⟩
theorem K8:∀(x:T2) {Γ:Pg} {N:List Str} {sc:j1} {E:XK} {X:Cx},eU Γ Δ F1 F2 W N sc k E X->∀p,wU Γ Δ N sc x p=ig->L5 X W F1 F2 obe Ge He E x p/\(BE x=ig->PW X p (Og W F1 F2 obe Ge He E x))
 |.pu e,Γ,N,sc,E,X,S,p,h=>by have h:=ah h;exact{Jl S h.1 h.2,λz=>aI z}|.cmp o a b,Γ,N,sc,E,X,S,p,h=>by let(w,C,bs,f,rfl,t):=OD h;let(I,g,s):=cW t;let(A,i,u):=cW s;dsimp only at g i;subst g i;have j:=ah u;have D:=zzY j.1;subst D;have d:=j.2;rw [zza,zza,Bool.not_eq_true'] at d;exact{EW S (ee a S _ d.1.1) (ee b S _ d.1.2) d.2,λz=>aI z}|.or a b,Γ,N,sc,E,X,S,p,h=>by
  let(o,F,f,rfl,t):=Oz h;have s:=ah t;have g:=xr s.1;dsimp only at g;subst g;let((w,A),G,u):=af s.2;have j:=ah u;have d:=ah j.2;have sa:=K8 a S w d.1;have B:=K8 b S A d.2
  have m:PW X (.BoolOp .Or F f) (Og W F1 F2 obe Ge He E (.or a b)):=by
   rcases u5 G with z|⟨q,c,r,z,i⟩
   .dsimp only at z;subst z;exact Bp sa.1 (pw_or1 B.1)
   .dsimp only at z i;subst z i;have H:BE b=ig:=by
     rcases Bool.or_eq_true_iff.mp j.1 with y|y
     .exact y
     .have:=zzY y;simp at this
    exact Bp sa.1 (B.2 H)
  exact{m.pt,λZ=>m}
variable{Γ:Pg}{sc:j1}{E:XK}
set_option tactic.hygienic true
mutual
theorem N2(S:yc Γ Δ F1 F2 W N sc k E X):∀(x:S2) (p:j7) {obe:List Ob} {Ge He:Hp},G7 Γ Δ N sc x p=ig->ye X W F1 F2 obe Ge He E x p
 |.p st,p,_,_,_,h=>ME S h|.set i x,p,_,_,_,h=>by
  cases p<;>first|(exact aI h)|skip
  let(y,P,d):=af h;let(xp,rfl):=nk P;have g:=ah d;have hN:=zzy.mp g.1;have r:=g.2;rw [zza,zza,e6] at r;let((a1,a2),s):=r
  cases x with
  |comp Q aM J it elt=>let(R,K,F,_,rfl,T):=JS s;let((U,cO,V,Z),u,b2):=cW T;have L:=ah b2;have B:=jX L.1;dsimp only at u B;subst u B;have M:=L.2;simp! [zza] at M;let((((((c1,c2),c3),c4),c5),c6),G):=M;have G:=zzY G;subst G;exact Bj S hN a1 (dN c1) c2 c3 c4 c5 λY CY=>ee elt CY R c6|_=>exact xa S hN a1 (ee _ S.C _ s) (eC (a2.elim (λz=>aI z) id))
 |.ex x,p,_,_,_,h=>by
  cases p<;>first|(exact aI h)|skip
  have d:=ah h;exact Jd (ee x S.C _ d.2) d.1
 |.ret x,p,_,_,_,h=>by
  cases p<;>first|(exact aI h)|skip
  rename_i v H;cases v with
  |none=>exact aI h|some q=>exact EL (ee x S.C q h)
 |.par i j xs,p,_,_,_,h=>by
  cases p<;>first|(exact aI h)|skip
  rename_i ts v H;cases v<;>first|(exact aI h)|skip
  rename_i es kt2 F4
  match es,h with
  |[],h=>exact aI h|[_],h=>exact aI h|_::_::_::_,h=>exact aI h|[a,b],h=>
  let((x,px,y,py),h0,h):=af h;simp! [zza,zzy,bne_iff_ne,ne_eq] at h;let((d,g),(((((r,w),D),h6),h7),h8),h9):=h;let(kt,pt,rfl):=xH h0;exact EK S d g (zzY r) w D h6 h7 h8 (uA xs S.C _ h9)
 |.Al J x,p,_,_,_,h=>by
  cases p<;>first|(exact aI h)|skip
  let(U,z,d):=cW h;subst z;have g:=ah d;have r:=g.2;rw [zza,zza,zza] at r;let(((a1,a2),s),A):=r;exact EM S g.1 a1 a2 s (ee x S.C _ A)
 |.C3 a Q e,p,_,_,_,h=>by
  cases p<;>first|(exact aI h)|skip
  let(t,z,d):=cW h;let(po,pk,sp,u,g):=N3 d;subst z u;have r:=ah g;have w:=r.2;simp! [zza] at w;let(((((a1,a2),s),A),I),a6):=w;exact Bi S r.1 a1 a2 s A I a6
 |.uy c i f e,p,_,_,_,h=>by
  cases p<;>first|(exact aI h)|skip
  let(t,O,d):=cW h;let((o,m,ap),e1,g):=af d;let(x,e2,r):=af g;have u:=ft e1;let(np,B):=dG e2;dsimp only at O u B r;subst O u B;have w:=ah r;have z4:=zzy.mp w.1;subst z4;have D:=w.2;rw [zza,zza,zza] at D;let(((a1,a2),A),I):=D;exact Bk S a1 a2 (ee e S.C _ I) A
 |.ite c a b,p,_,_,_,h=>by
  cases p<;>first|(exact aI h)|skip
  have d:=ah h;have g:=ah d.2;exact EJ (K8 c S.C _ d.1).1 (nQ S a _ g.1) (nQ S b _ g.2)
 |.gG J it b,p,_,_,_,h=>by
  cases p<;>first|(exact aI h)|skip
  have d:=ah h;have z:=jX d.1;subst z;have g:=d.2;rw [zza,zza,zza] at g;let(((a1,a2),s),A):=g;exact EI S a1 a2 s λobe Ge He=>nQ S b _ A
theorem nQ(S:yc Γ Δ F1 F2 W N sc k E X):∀(xs:qg) (ps:List j7) {obe:List Ob} {Ge He:Hp},iC Γ Δ N sc xs ps=ig->uS X W F1 F2 obe Ge He E xs ps
 |.nil,ps,_,_,_,h=>by
  cases ps with
  |nil=>exact Bo|cons _ _=>exact aI h
 |.cons x xs,ps,_,_,_,h=>by
  cases ps with
  |nil=>exact aI h|cons q qs=>have a:=ah h;exact yL (N2 S x q a.1) (nQ S xs qs a.2)
end
set_option tactic.hygienic false
end
structure eF where
 f:Str
 c:Option Str
 m:Str
 d:D2
 st:j7
 hl:Bool:=iv
 td:Option (Str×Str):=ie
noncomputable abbrev dk:Type:=List eF
abbrev gS(l:dk):List (Str×D2):=l.map λr=>(r.f,r.d)
abbrev bK(fl:List (Str×Str))(l:dk):ja:={l.filterMap λr=>if r.c.isNone&&r.td.isNone then hT r.f else ie,l.filterMap λr=>r.c.map λc=>(c,r.m),l.filterMap λr=>if r.m==(zu 10:Str) then r.c else ie,fl,l.filterMap λr=>if r.td.isSome then hT r.f else ie}
structure cw(Γ:Pg)(Δ:ja)(n q:Str)(d:D2)(st:j7):Prop where
 sc:gV d.N (d.N.take d.np) (aq st)
 np:d.np<=d.N.length
 bind:∀(kV doc pm:ix) (an:Option iN) (cS ct:ix) (us:List ix),us.length=(d.N.take d.np).length->bindArgs (PySem.W.fnOf n q (bx st) (aR st) (aq st) .none kV doc pm an cS ct) {us,[]}=pure ((d.N.take d.np).zip us)
 OC:iC Γ Δ d.N (aq st) d.body (aR st)=ig
theorem i5{Γ:Pg}{c:ja}{n q:Str}{d:D2}(b:∀(kV a e:ix) (f:Option iN) (g ct:ix) (us:List ix),us.length=(d.N.take d.np).length->bindArgs (PySem.W.fnOf n q (bx st) (aR st) (aq st) .none kV a e f g ct) {us,[]}=pure ((d.N.take d.np).zip us))
 (a1:(aq st).kind=.function:=by rfl) (a2:(aq st).isCoroutine=iv:=by rfl) (h:(aq st).isGenerator=iv:=by rfl) (i:d.N.Nodup:=by decide+kernel) (j:d.N.take (d.N.take d.np).length=d.N.take d.np:=by rfl)
 (k:∀x∈d.N.take d.np,(aq st).names.lookup x=hT .local\/(aq st).names.lookup x=hT .cell:=by decide+kernel) (m:∀y∈(aq st).names,y.2≠.free:=by decide+kernel) (o:d.np<=d.N.length:=by decide+kernel) (p:iC Γ c d.N (aq st) d.body (aR st)=ig:=by decide+kernel):cw Γ c n q d st:={⟨a1,a2,h,i,j,k,m⟩,o,b,p}
def yd(K:zz8)(ts:List (iN×Str))(hl:Bool)(n q:Str)(c:Option Str)(st:j7):Prop:=∃(f:iN) (oc:ix) (e:Option iN) (kV a g:ix) (h:Option iN) (b ct:ix) (i:Array (Option ix)),
 (match c with
  |none=>PySem.W.nsIn K kd n=hT (hT (.ref f))/\q=n|some c=>q=oE c n/\∃C,PySem.W.nsIn K kd c=hT (hT (.ref C))/\PySem.W.findIn K (.ref C) n=hT (hT (.ref f))/\PySem.W.isFn K (.ref f)=ig)/\
 K.lookup f=hT {oc,e,.func (PySem.W.fnOf n q (bx st) (aR st) (aq st) .none kV a g h b ct),i}/\PySem.W.codeIn K b q=ig/\PySem.W.keepIn K (.ref f)=ig/\(hl=ig->∃c P,b=.ref c/\eg K c P/\(P,iT q)∈ts/\∀d,(P,d)∈ts->d=iT q)
structure uQ(K:zz8)(fl:List (Str×Str))(c:Str):Prop where
 ex:∃C,PySem.W.nsIn K kd c=hT (hT (.ref C))/\uM K C/\PySem.W.makesIn K C=ig/\PySem.W.keepIn K (.ref C)=ig/\∀f,fl.contains (c,f)=ig->cb K C f
structure Ph(P:i2)(w:i3)(K:zz8)(mg:Str->Option ix)(base:j2)(W:Wd)(F1:Sg->aW)(F2:gd)(Γ:Pg)(Δ:ja)(k:Nat):Prop where
 Aa:∀f,Δ.cs.contains f=ig->∃fa,mg f=hT (.ref fa)/\PySem.W.keepIn K (.ref fa)=ig/\i9 P w K mg base W F2 k f fa
 m:GR P w K mg base W F2 Δ k
 td:∀f,Δ.td.contains f=ig->Pj P w K mg base W F1 F2 Γ Δ.Nh k f
def J7{Γ:Pg}(h:Γ.hl=iv):Γ.pT=Γ:=by cases Γ;cases h;rfl
theorem Ff{K:zz8}{Γ:Pg}{W:Wd}(M:lC K mg Γ W)(hl:Bool):lC K mg {Γ with hl:=hl} W:=⟨M.hK,M.hm,M.gs,M.bs,M.J9,M.cls,M.xc,M.xs,M.rm,M.LA,M.bm⟩
section
variable{K:zz8}{Γ:Pg}{Δ:ja}{W:Wd}{F1:Sg->aW}{F2:gd}
def i9.mono{k:Nat}(c:i9 P w K mg base W F2 j f a)(h:j<=k):i9 P w K mg base W F2 k f a:=by let(fd,b,d,e):=c.ex;exact{fd,b,d.mono h,e}
def Dq{F a:gd}{b:Str}{n:Nat}(e:∀as s,a b as s=F f as s):LY W a b n=LY W F f n:=by
 funext c H Q E
 unfold LY;simp! [e]
def i9.swap{F a:gd}{k:Nat}{b:Str}{d:iN}(c:i9 P w K mg base W F k f d)(e:∀as s,a b as s=F f as s):i9 P w K mg base W a k b d:=by let(fd,g,h,i,j):=c.ex;refine{fd,g,?_,i,λas s m=>j as s (by rw [<-e];exact m)};rw [Dq e];exact h
theorem Du(d:D2)(as:List PV):(nX d as).any Slot.bH=iv:=qh λs m=>by
 unfold nX at m;rcases List.mem_append.mp m with z|z
 .let(p,_,rfl):=fx.mp z;rfl
 .rw [List.eq_of_mem_replicate z];rfl
def A5(Y:K.In base){k:Nat}{n q nf:Str}{d:D2}{fd:FuncData}{hl:Bool}(T:T1 P w K mg base W F1 Γ k)(U:Ph P w K mg base W F1 F2 Γ Δ k)(St:cw {Γ with hl:=hl} Δ n q d st)(Z:HH K n q st a fd)(hL:hl=ig->∃c p,fd.code=.ref c/\eg K c p/\(p,iT q)∈W.ts/\∀S,(p,S)∈W.ts->S=iT q):
 d6 P w K mg base (cR P w) (k+2) a fd (d.N.take d.np) (LY W (λ_ as s=>nM F1 F2 d as s) nf (d.N.take d.np).length):=by
 have y:(d.N.take d.np).length=d.np:=by rw [List.length_take];have:=St.np;omega
 let(oc,od,kV,doc,pm,an,V,ct,oh,rfl,lk,lG):=Z.ex;have hK:W.K=K:=(T.M []).hK;have hM:W.mg=mg:=(T.M []).hm;refine A6 lk lG St.sc (λX H Q E h=>h.1) λA outer s H X Q E hr h=>?_;let(i,ob,G,as,sg,tb,u,l,o):=h;rw [y] at i;have J:∀ob,kq W.K W.mg ob->dE {Γ with hl:=hl} (F1 (aA ob)) (W.at ob) d.N (aq st) k E (cU (cR P w) P w K mg base d.N q (aq st) a V A outer s H E):=λob u=>vb (outer:=outer) (s:=s) (H:=H) (E:=E) (Ff (T.M ob) hl) Y St.sc (T.F ob u) (T.H ob u) (λf b=>{T.k2,T.Q ob u f b}) (λ_=>T.k2) (T.A ob u) (T.D ob u) hL hr
 have CY:yc {Γ with hl:=hl} Δ F1 F2 W d.N (aq st) k E (cU (cR P w) P w K mg base d.N q (aq st) a V A outer s H E):={{λob u=>(J ob u).C,(J [] qS).pass,T.qt,hK,hM,λf b=>by
  let(a,z,B,I):=U.Aa f b;exact{a,z,B,⟨I.ex⟩},λc m b=>by
  let(C,a,z,B,I):=U.m.met c m b;exact{C,a,z,B,⟨I.ex⟩},λc b=>by
  let(C,a,j,z,B,I,h4,h5):=U.m.new c b;exact{C,a,j,z,B,I,h4,⟨h5.ex⟩},U.m.fl,λf b _=>by
  have:=U.td f b;rw [<-J7 T.hl] at this;exact this},J}
 have sr:SR (W.at ob) H (nX d as) (start d.N X) G H:=uC sg tb l (by rw [<-l.length,i];exact St.np)
 refine{Lj W F1 F2 ob G H E d.body,nQ CY d.body _ St.OC,ob,H,G,_,aA ob,{sr,u,.refl,rfl,Du d as},?_};dsimp only at o;unfold nM at o;rw [if_pos (by rw [<-l.length,i];exact beq_self_eq_true _)] at o;cases r:bA F1 F2 d.body (nX d as) (aA ob) with
 |bad=>rw [r] at o;exact o|exc c s1=>rw [r] at o;exact o|ok fl s1=>
  rw [r] at o;cases fl with
  |nx env=>exact λσ' L cu O R t=>o .aE L O R (t.n.i7 t.sr) t.u t.s .n|rt p=>exact λv L O R rv g u e=>o v L O R g u e rv|bk env=>exact o.elim|ct env=>exact o.elim
def Ir(i:K.In base){k:Nat}{n q nf:Str}{d:D2}{e:iN}{fd:FuncData}{hl:Bool}(T:T1 P w K mg base W F1 Γ k)(U:Ph P w K mg base W F1 F2 Γ Δ k)(St:cw {Γ with hl:=hl} Δ n q d st)(f:HH K n q st e fd)(j:hl=ig->∃c p,fd.code=.ref c/\eg K c p/\(p,iT q)∈W.ts/\∀g,(p,g)∈W.ts->g=iT q):
 i9 P w K mg base W (λZ as s=>nM F1 F2 d as s) (k+2) nf e:=by
 refine{_,d.N.take d.np,A5 i T U St f j,f.binds St.bind,λas s a=>?_};have b:(d.N.take d.np).length=d.np:=by rw [List.length_take];have:=St.np;omega
 have a:nM F1 F2 d as s≠.bad:=a;unfold nM at a;by_cases h:(as.length==d.np)=ig
 .rw [b];exact zzy.mp h
 .rw [if_neg h] at a;exact absurd rfl a
structure Pk(Γ:Pg)(r:eF)(q:Str×Str):Prop where
 s:Sj r.m q.1 q.2 r.st
 q:Γ.qs.contains (zu 13)=ig
 cs:Γ.cs.contains (zu 7)=ig
 c:r.c=ie
 f:r.f=r.m
 m:(r.m==(zu 10:Str))=iv
def wH(Γ:Pg)(fl:List (Str×Str))(r:eF)(l:dk):Prop:=match r.td with
 |none=>cw {Γ with hl:=r.hl} (bK fl l) r.m r.f r.d r.st
 |some q=>Pk Γ r q
def mr(K:zz8)(ts:List (iN×Str))(Γ:Pg)(fl:List (Str×Str)):dk->Prop
 |[]=>True|r::l=>yd K ts r.hl r.m r.f r.c r.st/\wH Γ fl r l/\((l.map (·.f)).contains r.f=iv/\(r.c.isSome=ig->(bK fl l).td=[]))/\mr K ts Γ fl l
def yC{r:eF}{l:dk}{g:Str}(h:(g==r.f)=iv)(as:List PV)(s:Sg):eX F1 (gS (r::l)) g as s=eX F1 (gS l) g as s:=by show(if(g==r.f)=ig then _ else _)=_;rw [h];rfl
def yD{r:eF}{l:dk}(as:List PV)(s:Sg):eX F1 (gS (r::l)) r.f as s=nM F1 (eX F1 (gS l)) r.d as s:=by show(if(r.f==r.f)=ig then _ else _)=_;rw [beq_self_eq_true];rfl
theorem nL{ts:List (iN×Str)}{fl:List (Str×Str)}:∀{l:dk},mr K ts Γ fl l->∀{x:eF} {c:Str},x∈l->x.c=hT c->x.f=oE c x.m
 |[],_,_,_,h,_=>nomatch h|r::l,⟨he,_,_,a⟩,x,c,h,e=>by
  rcases el.mp h with z|z
  .subst z;let(d,oc,g,kV,b,i,j,k,ct,o,e1,p,q,s,_):=he;rw [e] at e1;exact e1.1
  .exact nL a z e
theorem GR.swap{F b:gd}{Δ:ja}(m:GR P w K mg base W F Δ j)(h:∀c n,Δ.ms.contains (c,n)=ig->∀as s,b (oE c n) as s=F (oE c n) as s)(k:∀c,Δ.ns.contains c=ig->∀as s,b (oE c (zu 10)) as s=F (oE c (zu 10)) as s):GR P w K mg base W b Δ j where
 met:=λc n a=>by let(C,d,e,f,g):=m.met c n a;exact{C,d,e,f,g.swap (h c n a)}
 new:=λc a=>by let(C,d,i,e,f,g,o,p):=m.new c a;exact{C,d,i,e,f,g,o,p.swap (k c a)}
 fl:=m.fl
set_option tactic.hygienic true in
theorem wI(E:K.In base)(G:base.Ns kd mg){fl:List (Str×Str)}{k1:Nat}(T:T1 P w K mg base W F1 Γ k1)(CK:∀c f,fl.contains (c,f)=ig->uQ K fl c):∀(l:dk),mr K W.ts Γ fl l->(∀r∈l,∀c,r.c=hT c->uQ K fl c)->Ph P w K mg base W F1 (eX F1 (gS l)) Γ (bK fl l) (k1+3*l.length)
 |[],_,_=>{(λf h=>nomatch h),{(λc m h=>nomatch h),(λc h=>nomatch h),λc f h C hC=>by let(R,e,_,_,_,na):=(CK c f h).ex;have:=PySem.W.mg_of E G e;rw [hC] at this;cases this;exact na f h},(λf h=>nomatch h)}
 |r::l,L,tx=>by
  let(he,hs,(DX,S),U):=L;have y:=wI E G T CK l U λr' JB=>tx r' (bw _ JB);let(b,oc,od,kV,doc,pm,an,cS,ct,oh,B,e2,e3,M,e5):=he;have V:=qF (st:=r.st) e2 e3 M;have X:=T.mono (Nat.le_add_right _ (3*l.length));have J:k1+3*l.length<=k1+3*(r::l).length:=by rw [bE];omega
  have TY:k1+3*l.length+2<=k1+3*(r::l).length:=by rw [bE];omega
  have same:∀{g:Str},(l.map (·.f)).contains g=ig->∀as s,eX F1 (gS (r::l)) g as s=eX F1 (gS l) g as s:=λ{g} N as s=>yC (by
   cases z:g==r.f with
   |false=>rfl|true=>rw [zzy.mp z,DX] at N;cases N) as s
  have Y:∀{g:Str} {b:iN} {j:Nat},(l.map (·.f)).contains g=ig->i9 P w K mg base W (eX F1 (gS l)) j g b->i9 P w K mg base W (eX F1 (gS (r::l))) j g b:=λ{g b j} N c=>c.swap λas s=>same N as s;have VM:∀c m,(bK fl l).ms.contains (c,m)=ig->(l.map (·.f)).contains (oE c m)=ig:=λc m a=>by have a:(List.filterMap (λr:eF=>r.c.map λc=>(c,r.m)) l).contains (c,m)=ig:=a;rw [eu,fP] at a;let(x,i,e):=a;let(c',O,e):=bC.mp e;cases e;have:=nL U i O;rw [eu,<-this];exact List.mem_map_of_mem i
  have VN:∀c,(bK fl l).ns.contains c=ig->(l.map (·.f)).contains (oE c (zu 10))=ig:=λc a=>by
   have a:(List.filterMap (λr:eF=>if r.m==(zu 10:Str) then r.c else ie) l).contains c=ig:=a;rw [eu,fP] at a;let(x,i,e):=a;split at e
   .rename_i hm;have:=nL U i e;rw [zzy.mp hm] at this;rw [eu,<-this];exact List.mem_map_of_mem i
   .cases e
  have F:∀{j:Nat},GR P w K mg base W (eX F1 (gS l)) (bK fl l) j->GR P w K mg base W (eX F1 (gS (r::l))) (bK fl l) j:=λm=>m.swap (λc n k as s=>same (VM c n k) as s) λc k as s=>same (VN c k) as s;have HA:∀f,(bK fl l).td.contains f=ig->Pj P w K mg base W F1 (eX F1 (gS (r::l))) Γ (bK fl l).Nh (k1+3*(r::l).length) f:=λf a=>by let(o,j,fd,x,p,t,u,H,I,Z,A):=y.td f a;exact{o,j,fd,x,p,t,c0 u J,H,I,Z,(F (j:=j) ⟨A.met,A.new,A.fl⟩).met,(F (j:=j) ⟨A.met,A.new,A.fl⟩).new,A.fl}
  have AG:∀f,(bK fl l).cs.contains f=ig->∃b,mg f=hT (.ref b)/\PySem.W.keepIn K (.ref b)=ig/\i9 P w K mg base W (eX F1 (gS (r::l))) (k1+3*(r::l).length) f b:=λf a=>by
   let(o,p,t,u):=y.Aa f a;refine{o,p,t,(Y ?_ u).mono J};have a:(List.filterMap (λr:eF=>if r.c.isNone&&r.td.isNone then hT r.f else ie) l).contains f=ig:=a;rw [eu,fP] at a;let(x,i,e):=a;split at e
   .cases e;rw [eu];exact List.mem_map_of_mem i
   .cases e
  cases D:r.td with
  |some q=>
   unfold wH at hs;rw [D] at hs;have hs:Pk Γ r q:=hs;have e0:bK fl (r::l)={bK fl l with td:=r.f::(bK fl l).td}:=by unfold bK;simp! [List.filterMap_cons,D,hs.c,Option.isNone_none,Option.isNone_some,Option.isSome_some,Bool.and_false,Option.map_none,hs.m,if_true,if_false,d2]
   have ok:=Gz E X hs.q hs.cs hs.s (by have:=V;rw [hs.f] at this;exact this);rw [e0];refine{AG,{?_,?_,y.m.fl},λf a=>?_}
   .intro c m k;let(C,o,p,t,u):=(F y.m).met c m k;exact{C,o,p,t,u.mono J}
   .intro c k;let(C,o,j,p,t,u,H,I):=(F y.m).new c k;exact{C,o,j,p,t,u,c0 H J,I}
   .have a:(r.f::(bK fl l).td).contains f=ig:=a
    rw [List.contains_cons,e6] at a;rcases a with z|z
    .have z:=zzy.mp z;subst z;rw [hs.c] at B;exact{b,k1+3*l.length,_,q.1,by rw [hs.f];exact PySem.W.mg_of E G B.1,M,by rw [bE];omega,ok,(by have:=V;rw [hs.f] at this;exact this.binds hs.s.bind),X,(F y.m).met,(F y.m).new,y.m.fl}
    .exact HA f z
  |none=>
  unfold wH at hs;rw [D] at hs;have hs:cw {Γ with hl:=r.hl} (bK fl l) r.m r.f r.d r.st:=hs;have ok:=Ir (nf:=r.f) E X y hs V e5;have QY:i9 P w K mg base W (eX F1 (gS (r::l))) (k1+3*l.length+2) r.f b:=ok.swap λas s=>yD as s;refine{λf a=>?_,{λc m a=>?_,λc a=>?_,y.m.fl},λf a=>?_}
  .have a:(List.filterMap (λr:eF=>if r.c.isNone&&r.td.isNone then hT r.f else ie) (r::l)).contains f=ig:=a;rw [eu,fP] at a;let(x,i,e):=a;split at e
   .rename_i k;cases e;rcases el.mp i with z|z
    .subst z;rw [Option.isNone_iff_eq_none.mp (ah k).1] at B;exact{b,by rw [B.2];exact PySem.W.mg_of E G B.1,M,QY.mono TY}
    .exact AG x.f (by show(List.filterMap (λr:eF=>if r.c.isNone&&r.td.isNone then hT r.f else ie) l).contains x.f=ig;rw [eu,fP];exact{x,z,if_pos k})
   .cases e
  .have a:(List.filterMap (λr:eF=>r.c.map λc=>(c,r.m)) (r::l)).contains (c,m)=ig:=a;rw [eu,fP] at a;let(x,i,e):=a;let(c',O,e):=bC.mp e
   cases e;rcases el.mp i with z|z
   .subst z;rw [O] at B;let(eq,C,Q,n2,n3):=B;refine{C,b,PySem.W.mg_of E G Q,⟨n2,n3,M⟩,?_};rw [<-eq];exact QY.mono TY
   .let(C,o,p,t,u):=(F y.m).met c x.m (by
     show(List.filterMap (λr:eF=>r.c.map λc=>(c,r.m)) l).contains (c,x.m)=ig;rw [eu,fP];exact{x,z,by rw [O];rfl})
    exact{C,o,p,t,u.mono J}
  .have a:(List.filterMap (λr:eF=>if r.m==(zu 10:Str) then r.c else ie) (r::l)).contains c=ig:=a;rw [eu,fP] at a;let(x,i,e):=a;split at e
   .rename_i hm;rcases el.mp i with z|z
    .subst z;rw [e] at B;let(eq,C,Q,n2,n3):=B;let(R,m1,m2,m3,m4,_):=(tx x b4 c e).ex;have UT:R=C:=by rw [Q] at m1;cases m1;rfl
     subst UT;have oB:=zzy.mp hm;refine{R,b,k1+3*l.length+2,PySem.W.mg_of E G Q,m2,{m3,by rw [<-oB];exact n2,n3,m4},by rw [bE];omega,?_};rw [<-oB,<-eq];exact QY
    .let(C,o,j,p,t,u,H,I):=(F y.m).new c (by
      show(List.filterMap (λr:eF=>if r.m==(zu 10:Str) then r.c else ie) l).contains c=ig;rw [eu,fP];exact{x,z,by rw [if_pos hm];exact e})
     exact{C,o,j,p,t,u,c0 H J,I}
   .cases e
  .have e0:(bK fl (r::l)).td=(bK fl l).td:=by
    show List.filterMap (λr:eF=>if r.td.isSome then hT r.f else ie) (r::l)=List.filterMap (λr:eF=>if r.td.isSome then hT r.f else ie) l;rw [List.filterMap_cons,D];rfl
   rw [e0] at a;have k:r.c=ie:=by
    cases z:r.c with
    |none=>rfl|some c=>rw [S (by rw [z];rfl)] at a;cases a
   let(o,j,fd,x,p,t,u,H,I,Z,A):=HA f a
   have hN:(List.filterMap (λr:eF=>if r.m==(zu 10:Str) then r.c else ie) (r::l))=(bK fl l).ns:=by
    rw [List.filterMap_cons,k];split<;>rename_i q
    .rfl
    .split at q<;>cases q
   have hM:(List.filterMap (λr:eF=>r.c.map λc=>(c,r.m)) (r::l))=(bK fl l).ms:=by rw [List.filterMap_cons,k];rfl
   refine{o,j,fd,x,p,t,u,H,I,Z,λc m a=>A.met c m ?_,λc a=>A.new c ?_,A.fl}
   .show(bK fl l).ms.contains (c,m)=ig;rw [<-hM];exact a
   .show(bK fl l).ns.contains c=ig;rw [<-hN];exact a
end
end Ci
namespace L2
open PySem.Spec PyProof.Rows
def yZ{K:zz8}{mb:Str->Option ix}{CX:yb}{k:Nat}{L:iN}{fd:FuncData}{sp:Sp}{f:iM}{vs:List ix}{ns:List Int}(i:List iN)
 (M:K.In f.heap) (Q:f.heap.Ns kd mg) (g:f.heap.Ns builtinsNs mb) (Vi:∀x:Str,x≠(zu 27)->mb x=bootBuiltins x) (vo:f.heap.NoLimit) (hg:f.gens=#[])
 (A:∀p∈i,f.heap.get? p=hT (PySem.W.tabObj #[])) (hC:∀p∈i,∃c,Ci.eg K c p) (UY:∀p∈i,K.lookup p=ie)
 (B:f.heap.get? a=hT {cls:=.type "list",data:=.seq vs.toArray}) (R:IntsAre vs ns) (hl:ns.length<=j3) (hr:cL k callerA)
 (F:∀base:j2,K.In base->base.Ns kd mg->d6 P w K mg base CX k L fd [x] sp) (MR:∀(s:iM) (u:ix),BindsTo s fd {[u],[]} [(x,u)])
 (LN:∀H:Hp,(∀p∈i,H p=hT (.fj #[]))->Ci.oU K H a (ns.map V.int)->sp [.ref a] H (λv _=>v=.bl ig) λ_ _ _=>False)
 (PR:∀H e s',CX [] H f (λ_ _ _=>False) e s'->False):
 codeAny (jj P w) callerA (.call (.ref L) {[.ref a],[]}) (λr s'=>r=.ok (.ret (.bool ig))/\OldK f.heap s'.heap/\s'.os=f.os/\AllBare s'.gens) f:=by
 have S:=qb R;have Nr:=R.length;have T:a∉i:=λz=>by have:=A a z;rw [B] at this;cases this
 have t:∀H:Hp,(∀p∈i,H p=hT (.fj #[]))->Ci.oU K H a (ns.map V.int)->d4 P w H f.heap->(∀b,H b≠ie->b∈i\/b=a/\∃o xs,H b=hT (.bL o xs))->(H a≠ie->K.lookup a=ie)->
  codeAny (jj P w) callerA (.call (.ref L) {[.ref a],[]}) (λr s'=>r=.ok (.ret (.bool ig))/\OldK f.heap s'.heap/\s'.os=f.os/\AllBare s'.gens) f:=by
  intro H U hS aJ N hK;have X:∀{b:iN} {o:Obj},f.heap.get? b=hT o->H b=ie->(qH f.heap H).get? b=hT o:=λe n=>Bv e n
  have Fh:∀{b:iN} {o:Obj} {C:Array DictEntry} {D:Nat},f.heap.get? b=hT o->o.data=.dict C D->H b=ie:=λ{b o C D} e d=>by
   cases q:H b with
   |none=>rfl|some u=>
    rcases N b (by rw [q];simp) with z|⟨z,_⟩
    .rw [A b z] at e;cases e;cases d
    .subst z;rw [B] at e;cases e;have d':Data.seq vs.toArray _=Data.dict C D:=d;cases d'
  have G:∀{b:iN} {m:Str->Option ix},f.heap.Ns b m->(qH f.heap H).Ns b m:=λ{b m} ⟨o,C,D,e,d,r⟩=>{o,C,D,X e (Fh e d),d,r}
  have Y:K.In (qH f.heap H):=λb o e=>X (M b o e) (by
   cases q:H b with
   |none=>rfl|some u=>
    rcases N b (by rw [q];simp) with z|⟨z,_⟩
    .rw [UY b z] at e;cases e
    .subst z;rw [hK (by rw [q];simp)] at e;cases e)
  have hM:Mod K mg (qH f.heap H):={Y,G Q,{mb,G g,Vi},let⟨mc,h1,h2⟩:=vo;{mc,G h1,h2}};have e0:iw P w K mg (qH f.heap H) callerA [] f H:={rfl,hM,λb o e=>FD e,Nat.le_of_eq (yQ _ _),trivial,λb g=>absurd (show b∈([]:List iN) from g) (by simp),aJ,.of_eq hg};refine codeAny_mono ((F _ Y (G Q)).run callerA [] f H {[.ref a],[]} [.ref a] [.ref a] _ _ hr e0 (MR f (.ref a)) (.cons rfl .nil) (LN H U hS)) λr s' h=>?_
  cases r with
  |error e=>exact(PR H e s' h).elim|ok fl=>
   cases fl with
   |next=>exact ek h|brk=>exact ek h|cont=>exact ek h|ret u=>
    let(v,H',os,bare,un,Z,r',q):=h;have q':v=.bl ig:=q;subst q';obtain rfl:u=ix.bool ig:=r'
    have E:∀b o,f.heap.get? b=hT o->s'.heap.get? b=hT o\/b∈i/\∃m,s'.heap.get? b=hT (PySem.W.tabObj m):=λb o e=>by
     cases q:H b with
     |none=>exact .inl (un.keep b o e q (by intro z;exact absurd (show b∈([]:List iN) from z) (by simp)) (by simp))|some u=>
      rcases N b (by rw [q];simp) with z|⟨z,ob,xs,I⟩
      .right;let(m,hm):=un.fS b _ (U b z);exact{z,_,Z b _ hm}
      .left;have z3:=un.e8 b ob _ I;let(e1,_):=aJ b _ I;let(e2,_):=Z b _ z3;rw [e] at e1;cases e1;exact e2
    refine{rfl,{λb o e=>?_,λb o e=>?_},os,bare}
    .rcases E b o e with z|⟨z,m,I⟩
     .exact .inl z
     .have e':=A b z;rw [e] at e';cases e';let(c,o',O,_,_,_,_,_,_,_,k1,k2,k3,k4,_):=hC b z;have tb:f.heap.TableAt c b #[]:={{o',O,M _ _ k1,k2,k3,k4},e};exact .inr (.inl {tb.isCodeTable,rfl,#[],m,rfl,by rw [I];simp})
    .rcases E b o e with z|⟨_,m,z⟩
     .exact{_,z}
     .exact{_,z}
 cases hk:K.lookup a with
 |some o=>
  have e:=M a o hk;rw [B] at e;cases e;refine t (λb=>if b∈i then hT (.fj #[]) else ie) (λp J=>if_pos J) (.inr {vs.toArray,_,hk,by rw [a5,Nr];exact hl,zx6 S}) (λb u z=>?_) (λb z=>?_) λz=>absurd (if_neg T) z
  .by_cases g:b∈i
   .have j:=(if_pos g).symm.trans z;cases j;exact A b g
   .have j:=(if_neg g).symm.trans z;cases j
  .by_cases g:b∈i
   .exact .inl g
   .exact absurd (if_neg g) z
 |none=>
  refine t (λb=>if b=a then hT (.bL {cls:=.type "list",data:=.seq vs.toArray} (.lst (ns.map V.int))) else if b∈i then hT (.fj #[]) else ie) (λp J=>?_) (.inl (.inr {{cls:=.type "list",data:=.seq vs.toArray},if_pos rfl})) (λb u z=>?_) (λb z=>?_) λ_=>hk
  .show(if p=a then _ else _)=_;rw [if_neg (show¬p=a from λz=>T (by rw [<-z];exact J)),if_pos J]
  .by_cases g:b=a
   .have j:=(if_pos g).symm.trans z;cases j;subst g;exact{B,by rw [zzl];exact hl,vs,_,S,B}
   .replace z:=(if_neg g).symm.trans z;by_cases y:b∈i
    .have j:=(if_pos y).symm.trans z;cases j;exact A b y
    .have j:=(if_neg y).symm.trans z;cases j
  .by_cases g:b=a
   .exact .inr {g,_,_,if_pos g}
   .by_cases y:b∈i
    .exact .inl y
    .exact absurd ((if_neg g).trans (if_neg y)) z
def DI{l:PySem.W.OpenLaw}{n k:Nat}{q:i2}{j:List Str}{E:(Str->Option ix)->j2->Prop}{C:i3->j2->Prop}{d:DefRec}{K:Params->zz8}{CX:i3->yb}{sp:i3->Sp}(y:List iN)
 (hn:l.most=hT n) (I:n<=j3) (J:d.params.defaults=[]) (L:cL k callerA)
 (hY:∀(w:i3) (h:j2),C w h->(K w.params).In h/\∀p∈y,h.get? p=hT (PySem.W.tabObj #[])) (hC:∀(w:i3),∀p∈y,(∃c,Ci.eg (K w.params) c p)/\(K w.params).lookup p=ie)
 (F:∀(w:i3) (mg:Str->Option ix) (z:iN) (h:j2),(K w.params).In h->h.Ns kd mg->mg d.name=hT (.ref z)->
  ∃fd:FuncData,(∀(s:iM) (u:ix),BindsTo s fd {[u],[]} [(x,u)])/\
   ∀base:j2,(K w.params).In base->base.Ns kd mg->d6 l.prog w (K w.params) mg base (CX w) k z fd [x] (sp w))
 (M:∀(w:i3) (H:Hp) (a:iN) (ns:List Int),ns.length<=n->(∀p∈y,H p=hT (.fj #[]))->Ci.oU (K w.params) H a (ns.map V.int)->sp w [.ref a] H (λv _=>v=.bl ig) λ_ _ _=>False)
 (N:∀(w:i3) (H:Hp) (s:iM) (e:ix) (s':iM),CX w [] H s (λ_ _ _=>False) e s'->False):
 PySem.W.WalkO q j E C l.row.toRowW d [] (λf vs=>PySem.call f vs):=by
 refine Att.su hn J λw s₀ r mg mb z o Z cd O a vs ns G Y ho hd lG A t m i P=>?_;let(D,Q):=hY w _ Y;let(fd,R,S):=F w mg z _ D G.T.g A;exact yZ y D G.T.g G.T.b G.T.builtins G.T.nolimit P Q (λp B=>(hC w p B).1) (λp B=>(hC w p B).2) t m (c0 i I) L S R (λH U X=>M w H a ns i U X) λH e s'=>N w H r e s'
end L2
namespace Ci
open L2
theorem iY{W:Wd}:∀(ns:List Int),ag W G (ns.map PV.int) (ns.map V.int)
 |[]=>.nil|n::ns=>.cons .i (iY ns)
abbrev lh(H:Hp):Hp:=λb=>match H b with
 |some (.fj _)=>ie|o=>o
def nr(H:Hp):aw (lh H) H:=λb o e=>by
 unfold lh at e;split at e
 .cases e
 .exact e
def jZ{b:iN}{o:HO}(h:H b=hT o)(n:∀ps,o≠.fj ps):lh H b=hT o:=by
 unfold lh;rw [h];cases o with
 |fj ps=>exact absurd rfl (n ps)|_=>rfl
abbrev Hw(K:zz8)(b:List iN):Sp:=λc H Q Z=>∃(a:iN) (ns:List Int),c=[.ref a]/\(∀p∈b,H p=hT (.fj #[]))/\oU K H a (ns.map V.int)/\ns.length<=63/\∀d,Q (.bl ig) d
def walk{l:PySem.W.OpenLaw}{q:i2}{i:List Str}{XP:(Str->Option ix)->j2->Prop}{O:i3->j2->Prop}{d:DefRec}{K:Params->zz8}(rest:fT)(Γ:Pg)(x:Str)(j:Def)(xs:List Str)(ts:List (iN×Str))(st:j7)(D:Bool)
 (R:j.N.take j.np=[x]) (tx:j.sD=ie) (P7:d.name="law") (hn:l.most=hT 63) (Jt:d.params.defaults=[]) (hr:cL (2*rest.length+2) callerA) (hY:∀(w:i3) (h:j2),O w h->(K w.params).In h/\∀p∈ts.map (·.1),h.get? p=hT (PySem.W.tabObj #[]))
 (hC:∀(w:i3),∀p∈ts.map (·.1),(∃c,eg (K w.params) c p)/\(K w.params).lookup p=ie)
 (hM:∀(w:i3) (mg:Str->Option ix) (h:j2),(K w.params).In h->h.Ns kd mg->lC (K w.params) mg Γ {K w.params,mg,xs,ts,[]})
 (hE:∀w:i3,Aq (K w.params) ts D "law" st) (S:dH (Γ.at rest D) "law" j st) (fI:rest≠[])
 (I:∀w:i3,AllK (K w.params) ts Γ rest)
 (Jv:∀ns:List Int,ns.length<=63->j8 (den (tab rest)) j [.lst (ns.map .int)]=.ok (.bl ig)):
 PySem.W.WalkO q i XP O l.row.toRowW d [] (λf vs=>PySem.call f vs):=by
 refine L2.DI (n:=63) (k:=2*rest.length+2) (x:=x) (CX:=λw=>cR l.prog w) (sp:=λw=>Hw (K w.params) (ts.map (·.1))) (ts.map (·.1)) hn (by decide) Jt hr hY hC ?_ ?_ ?_
 .intro w mg fa h KX G r;rw [P7] at r;let(f,oc,od,kV,y,T,U,V,ct,oh,e1,e2,e3,e4,e5):=hE w;have J:fa=f:=by have z:=r.symm.trans (PySem.W.mg_of KX G e1);cases z;rfl
  subst J;refine{PySem.W.fnOf "law" "law" (bx st) (aR st) (aq st) .none kV y T U V ct,λs u=>?_,λbase L X=>?_}
  .have Y:=S.bind kV y T U V ct [u];rw [R] at Y;exact .of_eq (Y rfl)
  .have M:=hM w mg base L X;have A:2<=2*rest.length:=by have:=List.length_pos_iff.mpr fI;omega
   let(a1,a2,a3):=uW (P:=l.prog) (w:=w) (B:=QT) {λ_ _ z=>absurd rfl z,λ_ _ _ z=>absurd rfl z,λ_ z=>absurd rfl z} M L X rest (I w);have ok:=G9 (P:=l.prog) (w:=w) (nf:="law") (qO M rest D) L (k:=2*rest.length) S (qF (st:=st) e2 e3 e4) (λg hg=>a1 g hg) (λq hq=>a2 q hq) (λf J=>{A,a3 f J}) (λ_=>A) (lR (λ_ _ z=>absurd rfl z) rest (I w)) (qA (B:=QT) {λ_ _ z=>absurd rfl z,λ_ _ _ z=>absurd rfl z,λ_ z=>absurd rfl z} rest (I w)) e5;rw [R] at ok;refine ok.imp λvs H Q E h=>?_;let(a,ns,rfl,ht,hl,b,q):=h;refine{rfl,lh H,[.lst (ns.map .int)],nr H,{λP q m=>?_,λn o e=>nomatch e},?_,?_}
   .have Z:=ht P (List.mem_map_of_mem (f:=(·.1)) m);refine{by unfold lh;rw [Z],#[],Z,trivial,λpos cv e=>nomatch e}
   .rw [tx];refine ag.cons (.l ?_ (iY ns)) .nil;rcases hl with(h|⟨o,h⟩)|h
    .exact .inl (.inl (jZ h (λ_ z=>nomatch z)))
    .exact .inl (.inr {o,jZ h (λ_ z=>nomatch z)})
    .exact .inr h
   .dsimp only;rw [Jv ns b];intro v G' H' _ rv;simp! [Rep] at rv;subst rv;exact q H'
 .intro w H a ns b hO EX;exact{a,ns,rfl,hO,EX,b,λ_=>rfl}
 .intro w H s e s' h;let(a,C,t,vs,H',B,rfl,F):=h;exact F.ends
noncomputable abbrev Iq(l:fT):Sg->aW:=λs=>b8 (vg s) (tab l)
def N4{P:i2}{w:i3}{K:zz8}{mg:Str->Option ix}{Γ:Pg}{W:Wd}(g:K.In base)(G:base.Ns kd mg)(rest:fT)(e:rest≠[])(M:∀ob,lC K mg Γ (W.at ob))(b:AllK K W.ts Γ rest):T1 P w K mg base W (Iq rest) (Γ.at rest iv) (2*rest.length):=by
 have hK:W.K=K:=(M []).hK;have hm:W.mg=mg:=(M []).hm;have c:2<=2*rest.length:=by have:=List.length_pos_iff.mpr e;omega
 have a:∀ob,kq W.K W.mg ob->_:=λob u=>uW (P:=P) (w:=w) (W:=W.at ob) (B:=vg (aA ob)) (qC (W:=W) (by rw [<-hK];exact u)) (M ob) g G rest b;refine{λob=>qO (M ob) rest iv,λob u f d=>(a ob u).1 f d,λob u q h=>(a ob u).2.1 q h,λob u f d=>(a ob u).2.2 f d,λob u=>?_,λob u=>?_,?_,rfl,c}
 .exact lR (qC (K:=K) (mg:=W.mg) (W:=W) (by rw [<-hK];exact u)).any rest b
 .exact qA (W:=W.at ob) (qC (K:=K) (mg:=W.mg) (W:=W) (by rw [<-hK];exact u)) rest b
 .show rest.isEmpty=iv
  cases rest with
  |nil=>exact absurd rfl e|cons _ _=>rfl
def walk2{l:PySem.W.OpenLaw}{q:i2}{i:List Str}{XP:(Str->Option ix)->j2->Prop}{J:i3->j2->Prop}{d:DefRec}{K:Params->zz8}(rest:fT)(g:dk)(Γ:Pg)(fl:List (Str×Str))(x:Str)(j:D2)(xs:List Str)(ts:List (iN×Str))(st:j7)
 (L:j.N.take j.np=[x]) (P7:d.name="law") (hn:l.most=hT 63) (Jt:d.params.defaults=[]) (hr:cL (2*rest.length+3*g.length+2) callerA) (hY:∀(w:i3) (h:j2),J w h->(K w.params).In h/\∀p∈ts.map (·.1),h.get? p=hT (PySem.W.tabObj #[]))
 (hC:∀(w:i3),∀p∈ts.map (·.1),(∃c,eg (K w.params) c p)/\(K w.params).lookup p=ie)
 (hM:∀(w:i3) (mg:Str->Option ix) (h:j2),(K w.params).In h->h.Ns kd mg->∀ob,lC (K w.params) mg Γ {K w.params,mg,xs,ts,ob})
 (M:Bool) (hE:∀w:i3,yd (K w.params) ts M "law" "law" ie st) (O:cw {Γ.at rest iv with hl:=M} (bK fl g) "law" "law" j st) (fI:rest≠[])
 (hA:∀w:i3,AllK (K w.params) ts Γ rest) (US:∀w:i3,mr (K w.params) ts (Γ.at rest iv) fl g)
 (MU:∀w:i3,∀c f,fl.contains (c,f)=ig->uQ (K w.params) fl c) (lX:∀w:i3,∀r∈g,∀c,r.c=hT c->uQ (K w.params) fl c)
 (Jv:∀ns:List Int,ns.length<=63->∃s,nM (Iq rest) (eX (Iq rest) (gS g)) j [.lst (ns.map .int)] []=.ok (.bl ig) s):
 PySem.W.WalkO q i XP J l.row.toRowW d [] (λf vs=>PySem.call f vs):=by
 refine L2.DI (n:=63) (k:=2*rest.length+3*g.length+2) (x:=x) (CX:=λw=>cR l.prog w) (sp:=λw=>Hw (K w.params) (ts.map (·.1))) (ts.map (·.1)) hn (by decide) Jt hr hY hC ?_ ?_ ?_
 .intro w mg fa h KX G y;rw [P7] at y;let(f,oc,od,kV,A,R,S,V,ct,oh,e1,e2,e3,e4,e5):=hE w;have hf:fa=f:=by have z:=y.symm.trans (PySem.W.mg_of KX G e1.1);cases z;rfl
  subst hf;refine{PySem.W.fnOf "law" "law" (bx st) (aR st) (aq st) .none kV A R S V ct,λs u=>?_,λbase D I=>?_}
  .have X:=O.bind kV A R S V ct [u];rw [L] at X;exact .of_eq (X rfl)
  .have T:=N4 (P:=l.prog) (w:=w) (W:={K w.params,mg,xs,ts,[]}) D I rest fI (hM w mg base D I) (hA w);have U:=wI D I T (MU w) g (US w) (lX w);have ok:=A5 (nf:="law") D (T.mono (Nat.le_add_right _ (3*g.length))) U O (qF (st:=st) e2 e3 e4) e5;rw [L] at ok;refine ok.imp λvs H Q E h=>?_;let(a,ns,rfl,ht,hl,b,q):=h;refine{rfl,[],lh H,[.lst (ns.map .int)],nr H,{λP q m=>?_,λn o e=>nomatch e},qS,?_,?_}
   .have Y:=ht P (List.mem_map_of_mem (f:=(·.1)) m);refine{by unfold lh;rw [Y],#[],Y,trivial,λpos cv e=>nomatch e}
   .refine ag.cons (.l ?_ (iY ns)) .nil;rcases hl with(h|⟨o,h⟩)|h
    .exact .inl (.inl (jZ h (λ_ z=>nomatch z)))
    .exact .inl (.inr {o,jZ h (λ_ z=>nomatch z)})
    .exact .inr h
   .let(Z,e):=Jv ns b;have e:nM (Iq rest) (eX (Iq rest) (gS g)) j [.lst (ns.map .int)] (aA [])=.ok (.bl ig) Z:=e;dsimp only;rw [e];intro v aB G' H' _ _ _ rv;simp! [Rep] at rv;subst rv;exact q H'
 .intro w H a ns b hO EX;exact{a,ns,rfl,hO,EX,b,λ_=>rfl}
 .intro w H s e Z h;let(a,C,t,vs,H',B,rfl,F):=h;exact F.ends
end Ci
namespace Hd
open PySem.W PySem.Calls
abbrev KR(st:SharedT->Thread->Option (SharedT×Thread))(ok:Thread->Bool)(n:Nat):SharedT->Thread->Option SharedT:=
 @Nat.rec (λZ=>SharedT->Thread->Option SharedT) (λZ Z=>ie) (λZ a s t=>match through t with
  |true=>hT s|false=>match ok t with
   |false=>ie|true=>match st s t with
    |some (b,c)=>a b c|none=>ie) n
theorem p0{tb:String->Option kr}{p:i2}{a:Nat}{ann:Option ix}:∀{n:Nat} {s s':SharedT} {t:Thread},KR (stepT (denote tb) p w) (stepOk a ann) n s t=hT s'->topRun tb p w a ann n s.abs t=hT s'.abs
 |0,_,_,_,h=>by cases h
 |n+1,s,s',t,h=>by
  have h:(match through t with
   |true=>hT s|false=>match stepOk a ann t with
    |false=>ie|true=>match stepT (denote tb) p w s t with
     |some (s',t')=>KR (stepT (denote tb) p w) (stepOk a ann) n s' t'|none=>ie)=hT s':=h
  unfold topRun;cases b:through t with
  |true=>rw [b] at h;cases h;rfl
  |false=>
   rw [b] at h;cases hk:stepOk a ann t with
   |false=>rw [hk] at h;cases h
   |true=>
    rw [hk] at h;cases hs:stepT (denote tb) p w s t with
    |none=>rw [hs] at h;cases h
    |some r=>let(c,d):=r;rw [hs] at h;rw [stepT_spec hs];exact p0 h
abbrev treeOf(l:List Obj):BT:=(l.foldl (λ(T,i) o=>(BT.ins T i o,i+1)) (BT.nil,0)).1
def Fd{p q:i2}{a:List Str}{b:iM->Bool}{c:Type}{g:iM->c}{i:i3->c}{N:Nat}{j:Bool}{T₀:Params->BT}{life:Life}{m₀:Nat}{ann:Option ix}{M:Nat}
 (e:opening p=plainProg p.main.scope.names) (hN:Nat.ble 600 N=ig) (f:∀s,fenceModules? p s=hT s)
 (m:∀P:Params,absHeap (T₀ P) m₀ life=boot_heap P)
 (size:∀w:i3,((boot_heap w.params).isNs kd,(boot_heap w.params).nsMap kd "__annotations__")=(ig,ann))
 (le:Nat.ble M N=ig)
 (run:∀(w:i3) (os:OsState),(KR (stepT (denote treeTable) p w) (stepOk m₀ ann) M {T₀ w.params,m₀,life,Array.mk [],boot_drawn,boot_toks,os} (topStub p)).map (λs=>
  ((staticsOk (importedModules p.main.body) (boot_heap w.params) s.abs.heap&&namesBound p s.abs.heap&&gensDone s.abs&&laidKept (boot_heap w.params) s.abs.heap),openSeen q a (importedModules p.main.body) b j s.abs,g s.abs))
  =hT (ig,openGood q a,i w)):LeftO p q a b g i N j:=λw=>by
 let((h,gs,d,k,os),o,u):=bC.mp (boot_open e hN f w);obtain⟨rfl,rfl,rfl,rfl⟩:h=boot_heap w.params/\gs=Array.mk []/\d=boot_drawn/\k=boot_toks:=zx6 u;obtain⟨y,z⟩:_/\_:=by simpa only [Prod.mk.injEq] using size w
 let(s,r,l):=bC.mp (run w os);obtain⟨A,B,l3⟩:_/\_/\_:=by simpa only [Prod.mk.injEq] using l
 have r:=p0 r;have r:=topRun_mono (N-M) _ _ _ _ r;rw [show M+(N-M)=N by have:=Nat.le_of_ble_eq_true le;omega] at r;have hs:(boot_heap w.params).objs.size=m₀:=by rw [<-m w.params];exact absHeap_size _ _ _
 have r:topRun treeTable p w m₀ ann N {boot_heap w.params,Array.mk [],boot_drawn,boot_toks,os} (topStub p)=hT s.abs:=by
  have:({T₀ w.params,m₀,life,Array.mk [],boot_drawn,boot_toks,os}:SharedT).abs={boot_heap w.params,Array.mk [],boot_drawn,boot_toks,os}:=by show iM.mk _ _ _ _ _=_;rw [show absHeap (T₀ w.params) m₀ life=boot_heap w.params from m w.params]
  rw [<-this];exact r
 have t:topFrom treeTable p w N {boot_heap w.params,Array.mk [],boot_drawn,boot_toks,os}=hT s.abs:=by
  unfold topFrom;dsimp only;rw [y,z,hs,r];show(match staticsOk (importedModules p.main.body) (boot_heap w.params) s.abs.heap&&namesBound p s.abs.heap&&gensDone s.abs&&laidKept (boot_heap w.params) s.abs.heap with|true=>_|false=>_)=_;rw [A]
 unfold openEnds;rw [o];show(topFrom treeTable p w N _).map _=_;rw [t];exact congrArg hT (Prod.ext B l3)
end Hd
namespace Hd
open PySem.W
def Mm:∀P:Params,absHeap (treeOf (boot_heap P).objs.toList) 11 {}=boot_heap P:=λP=>by kernel_rfl
def Mn:∀w:i3,((boot_heap w.params).isNs kd,(boot_heap w.params).nsMap kd "__annotations__")=(ig,hT (.ref 6)):=λw=>by kernel_rfl
noncomputable abbrev de(P:Params)(x:Str)(t:Tok)(v:ix):DictEntry:={hash:=PyData.keyHash P x,key:=.str x t,val:=v}
theorem holds{l:OpenLaw}{keep:List Nat}{K:Params->Frag}{as:List iN}{d:DefRec}{N:Nat}(a:l.wellSaid=ig)
 (ka:∀P,as=(K P).map (·.1))
 (left:LeftO l.row.prog (view l.row.prog keep) [] (λs=>xlAt (view l.row.prog keep) [] s&&recOk l.row.toRowW.records s) (kHook K as ka).obs (kHook K as ka).val N)
 (b:defOf (view l.row.prog keep) l.row.name=hT (d,[])) (c:l.row.prog.theDef l.row.name=hT (d.params,d.body,d.scope)) (hk:kwWritten? d.params.kwonlyargs d.params.kw_defaults=hT [])
 (ok:(chainsOk (view l.row.prog keep)&&opensWell l.row.prog&&(frees l.row.toRowW&&l.row.within.isEmpty))=ig) (g:l.row.prog.bare) (i:l.row.toRowW.promised)
 (call:WalkO (view l.row.prog keep) [] (XL (view l.row.prog keep) []) (kHook K as ka).says l.row.toRowW d [] λf vs=>PySem.call f vs):l.Holds:=
 holds_law a λj=>holds_open (N:=N) left (Hook.of (kHook K as ka)) (Hook.keeps (kHook K as ka)) (λs e=>xl_of s (Bool.and_eq_true_iff.mp e).1) XL.keeps b c hk (λs e=>recFacts_of (Bool.and_eq_true_iff.mp e).2) (by cases h:l.row.writes<;>rfl) j ok g i call
theorem rO{P:List ix->Prop}(h:∀a0,P [a0]):∀us:List ix,us.length=1->P us
 |[a0],_=>h a0
theorem Eb{P:List ix->Prop}(h:∀a0 a1,P [a0,a1]):∀us:List ix,us.length=2->P us
 |[a0,a1],_=>h a0 a1
theorem Oy{P:List ix->Prop}(h:∀a0 a1 a2,P [a0,a1,a2]):∀us:List ix,us.length=3->P us
 |[a0,a1,a2],_=>h a0 a1 a2
theorem Sk{P:List ix->Prop}(h:∀a0 a1 a2 a,P [a0,a1,a2,a]):∀us:List ix,us.length=4->P us
 |[a0,a1,a2,a],_=>h a0 a1 a2 a
theorem UE{P:List ix->Prop}(h:∀a0 a1 a2 a b,P [a0,a1,a2,a,b]):∀us:List ix,us.length=5->P us
 |[a0,a1,a2,a,b],_=>h a0 a1 a2 a b
end Hd
namespace KJ
open L2 Ci
theorem Sr{b c:Type}{a:b}{f:b->Res c}:(Res.ok a).bind f=f a:=rfl
theorem TZ{b:Type}{a:b}:(Res.ok a).well=.ok a:=rfl
theorem Tr{b:Type}{a:b}:Res.of (hT a)=.ok a:=rfl
theorem TH{env:Sl}{k:Sl->Res Fl}:(Fl.nx env).seq k=k env:=rfl
theorem TJ{p:PV}{k:Sl->Res Fl}:(Fl.rt p).seq k=.ok (.rt p):=rfl
theorem TF{env:Sl}{k:Sl->Res Fl}:(Fl.bk env).seq k=.ok (.bk env):=rfl
theorem sv{p:PV}:p6 (hT (.val p))=.ok p:=rfl
theorem TL{p:PV}:Dh (hT (.val p))=.ok p:=rfl
theorem TK{p:PV}:Dh (hT (.own p))=.ok p:=rfl
theorem Sm{a:Type}{b:Bool}{f:Bool->Res a}:Aw (.bl b) f=f b:=rfl
theorem GV{i j:Int}:binOp .add (.int i) (.int j)=.ok (.int (i+j)):=rfl
theorem GY{i j:Str}:binOp .add (.str i) (.str j)=if i.length+j.length<=hZ then .ok (.str (i++j)) else .bad:=rfl
theorem GX{i j:List PV}:binOp .add (.lst i) (.lst j)=if i.length+j.length<=hZ then .ok (.lst (i++j)) else .bad:=rfl
theorem Mj{i j:Int}:binOp .sub (.int i) (.int j)=.ok (.int (i-j)):=rfl
theorem Mi{i j:Int}:binOp .mul (.int i) (.int j)=if bO i||bO j then .ok (.int (i*j)) else .bad:=rfl
theorem Mh{i j:Int}:binOp .mod (.int i) (.int j)=if 0<j then .ok (.int (i%j)) else .bad:=rfl
theorem Mg{i j:Int}:binOp .fdiv (.int i) (.int j)=if 0<j/\j<1073741824 then .ok (.int (i/j)) else .bad:=rfl
theorem Su:cX .eq=qU:=rfl
theorem SA:cX .ne=vM:=rfl
theorem Sz:cX .lt=vL:=rfl
theorem Sy:cX .le=vK:=rfl
theorem Sw:cX .ge=vJ:=rfl
theorem Sx:cX .Hh=zy:=rfl
theorem Mo:cX .LR=pV:=rfl
theorem oLt{i j:Int}:vL (.int i) (.int j)=.ok (.bl (decide (i<j))):=rfl
theorem oLe{i j:Int}:vK (.int i) (.int j)=.ok (.bl (decide (i<=j))):=rfl
theorem Tp{i j:Int}:vJ (.int i) (.int j)=.ok (.bl (decide (j<=i))):=rfl
theorem lL{xs:List PV}:kR .len [.lst xs]=.ok (.int xs.length):=rfl
theorem lT{xs:List PV}:kR .len [.tup xs]=.ok (.int xs.length):=rfl
theorem lS{z:Str}:kR .len [.str z]=if z.length<=hZ then .ok (.int z.length) else .bad:=rfl
theorem tL{xs:List PV}:kR .tuple [.lst xs]=.ok (.tup xs):=rfl
theorem aL{xs:List PV}:kR .all [.lst xs]=(Res.of (boolsOf xs)).bind λbs=>.ok (.bl (bs.all id)):=rfl
theorem TX{i:Nat}{p:PV}{env:Sl}:(Tg.one i).put p env=.ok (env.set i (.val p)):=rfl
theorem TV{i j:Nat}{a b:PV}{env:Sl}:(Tg.two i j).put (.tup [a,b]) env=.ok ((env.set i (.val a)).set j (.val b)):=rfl
theorem SJ{p:PV}:qE (.own p)=.val p:=rfl
theorem jA{b:Type}{a:b}{as:List b}:(a::as).length=as.length+1:=rfl
theorem jB{a:Type}:([]:List a).length=0:=rfl
theorem jC{b c:Type}{f:b->c}{a:b}{l:List b}:(a::l).map f=f a::l.map f:=rfl
theorem jD{a b:Type}{f:a->b}:([]:List a).map f=[]:=rfl
theorem jE{b:Type}{a:b}{as bs:List b}:a::as++bs=a::(as++bs):=rfl
theorem jF{a:Type}{as:List a}:[]++as=as:=rfl
theorem jG{b:Type}{a:b}{l:List b}:(a::l)[0]?=hT a:=rfl
theorem jH{b:Type}{a:b}{l:List b}{i:Nat}:(a::l)[i+1]?=l[i]?:=rfl
theorem jI{c:Type}{a b:c}{l:List c}:(a::l).set 0 b=b::l:=rfl
theorem jJ{c:Type}{a b:c}{l:List c}{i:Nat}:(a::l).set (i+1) b=a::l.set i b:=rfl
theorem jK{b:Type}{a d:b}{l:List b}:(a::l).getD 0 d=a:=rfl
theorem jL{b:Type}{a d:b}{l:List b}{i:Nat}:(a::l).getD (i+1) d=l.getD i d:=rfl
def jM{n:Nat}:0+n=n:=Nat.zero_add _
theorem jN:(!true)=iv:=rfl
theorem jO:(!false)=ig:=rfl
def jP:(iv=ig)=False:=d2
theorem mh{e:E}{xs:List PV}:Dd e (.lst xs)=.ok xs:=rfl
theorem TC{e:E}{xs:List PV}:Dd e (.tup xs)=.ok xs:=rfl
theorem QE{xs:List PV}:itemsOf (.tup xs)=.ok xs:=rfl
theorem QC{xs:List PV}:itemsOf (.lst xs)=.ok xs:=rfl
theorem QD{z:Str}:itemsOf (.str z)=.ok (chars z):=rfl
theorem GZ{i j:List PV}:binOp .add (.tup i) (.tup j)=if i.length+j.length<=hZ then .ok (.tup (i++j)) else .bad:=rfl
theorem jQ{b:Type}{f:b->b}{a:b}{l:List b}:(a::l).modify 0 f=f a::l:=rfl
def jR{b:Type}{f:b->b}{a:b}{l:List b}{i:Nat}:(a::l).modify (i+1) f=a::l.modify i f:=by simp
theorem jS{b:Type}{a:b}:k6 0 a=[]:=id rfl
theorem jT{b:Type}{a:b}{n:Nat}:k6 (n+1) a=a::k6 n a:=id rfl
def jU{n:Nat}:(n==n)=ig:=beq_self_eq_true n
abbrev J:=kv @jS (kv @jT (kv @jU (kv @Sr (kv @TZ (kv @Tr (kv @TH (kv @TJ (kv @TF (kv @sv (kv @TL (kv @TK (kv @Sm (kv @GV (kv @GY (kv @GX (kv @Mj (kv @Mi (kv @Mh (kv @Mg (kv @Su (kv @SA (kv @Sz (kv @Sy (kv @Sw (kv @Sx (kv @Mo (kv @oLt (kv @oLe (kv @Tp (kv @lL (kv @lT (kv @lS (kv @tL (kv @aL (kv @TX (kv @TV (kv @SJ (kv @jA (kv @jB (kv @jC (kv @jD (kv @jE (kv @jF (kv @jG (kv @jH (kv @jI (kv @jJ (kv @jK (kv @jL (kv @jM (kv @jN (kv @jO (kv @jP (kv @mh (kv @TC (kv @QE (kv @QC (kv @QD (kv @GZ (kv @jQ (@jR)))))))))))))))))))))))))))))))))))))))))))))))))))))))))))))
def Ii{B:aW}{n:Str}{d:Def}{r:List (Str×Def)}:b8 B ((n,d)::r) n=j8 (b8 B r) d:=by funext as;simp [b8]
def Ij{B:aW}{n:Str}{d:Def}{r:List (Str×Def)}(h:(f==n)=iv):b8 B ((n,d)::r) f=b8 B r f:=by funext as;simp [b8,h]
theorem sN{B:aW}:∀(n:Nat) {T:List (Str×Def)},((T.take n).all λx=>!(f==x.1))=ig->b8 B T f=b8 B (T.drop n) f
 |0,_,_=>rfl|n+1,[],_=>rfl|n+1,(m,d)::r,h=>by rw [List.take_succ_cons,List.all_cons,zza,Bool.not_eq_true'] at h;exact(Ij h.1).trans (sN n h.2)
def SF{B:aW}{d:Def}{r T:List (Str×Def)}(k:Nat)(h:((T.take k).all λx=>!(f==x.1))=ig:=by decide+kernel)(e:T.drop k=(f,d)::r:=by rfl):b8 B T f=j8 (b8 B r) d:=by rw [sN k h,e];exact Ii
end KJ
local macro_rules | `(#v[]) => `(.nil) | `(#v[$x]) => `(.cons $x .nil) | `(#v[$x, $xs,*]) => `(.cons $x #v[$xs,*]) | `(!$n:num) => `(.var $n) | `(¬$n:num) => `(.cst (.int $n))
namespace K75
open L2 Ci
abbrev fF:Def:={["_law_kept","_law_kinds","_law_some"],1,#v[.set 1 (.lst #v[.xt "NoBack" (!0),.xt "NoFit" (!0),.xt (zu 36) (!0),.xt "NoName" (!0)]),.set 1 (.bin .add (!1) (.lst #v[.xt "NoSign" (!0),.xt "NoSize" (!0),.xt "NoSpot" (!0)])),.set 1 (.bin .add (!1) (.lst #v[.xt "NoText" (!0),.xt "NoWay" (!0)])),.ite (.or (.cmp .ne (.dB .iG (!1) #v[.cst (.bl ig)]) (¬1)) (.not (.xt (zu 1) (!0)))) #v[.ret (.cst (.str "wrong"))] .nil,.set 2 (.lst #v[.cst (.str "no back"),.cst (.str "no fit"),.cst (.str "no floor"),.cst (.str "no name"),.cst (.str "no sign"),.cst (.str "no size"),.cst (.str "no spot"),.cst (.str "no text"),.cst (.str "no way")]),.ret (.sub (!2) (.dB .index (!1) #v[.cst (.bl ig)]))],ie}
abbrev iI:Def:={["thing"],1,#v[.ret (.and (.ty .int (!0)) (.not (.ty .bool (!0))))],ie}
abbrev kC:Def:={["thing"],1,#v[.ite (.or (.not (.ty .str (!0))) (.not (.ch .le .le (¬1) (.blt .len #v[!0]) (.glob "LONGEST_NAME" (.int 6))))) #v[.ret (.cst (.bl iv))] .nil,.ret (.blt .all #v[.comp 1 [] (.one 0) (.seq (!0)) (.cmp .Hh (!0) (.glob "LETTERS" (.str (zu 15))))])],ie}
abbrev gu:Def:={["thing"],1,#v[.ite (.not (.call "is_name" #v[!0])) #v[.raise "NoName" "a name has 1 to 6 letters a to z"] .nil],ie}
abbrev dQ:Def:={["floor","upwards","rows","column"],1,#v[.set 1 (.BS (!0)),.own 2 (.lst .nil),.gG (.one 3) (.xS (.blt .len #v[.sub (!0) (¬0)])) #v[.app 2 (.dB .join (.cst (.str "")) #v[.comp 1 [3] (.one 0) (.seq (!1)) (.sub (!0) (!1))])],.ret (.blt .tuple #v[.HC 2])],ie}
abbrev c8:Def:={["floor"],1,#v[.ret (.blt .tuple #v[.comp 1 [] (.one 0) (.seq (!0)) (.rev (!0))])],ie}
abbrev kE:Def:={["thing"],1,#v[.ret (.and (.ty .tuple (!0)) (.and (.cmp .eq (.blt .len #v[!0]) (¬2)) (.and (.call "is_whole" #v[.sub (!0) (¬0)]) (.call "is_whole" #v[.sub (!0) (¬1)]))))],ie}
abbrev eM:Def:={["floor","spot"],2,#v[.ret (.and (.ch .le .lt (¬0) (.sub (!1) (¬0)) (.blt .len #v[!0])) (.ch .le .lt (¬0) (.sub (!1) (¬1)) (.blt .len #v[.sub (!0) (.sub (!1) (¬0))])))],ie}
abbrev dA:Def:={["floor","spot"],2,#v[.ite (.not (.and (.call "is_spot" #v[!1]) (.call (zu 32) #v[!0,!1]))) #v[.raise "NoSpot" "the spot is not on the floor"] .nil],ie}
abbrev kD:Def:={["thing"],1,#v[.ret (.and (.ty .str (!0)) (.and (.cmp .eq (.blt .len #v[!0]) (¬1)) (.cmp .Hh (!0) (.glob "SIGNS" (.str "#0123456789")))))],ie}
abbrev gv:Def:={["sign"],1,#v[.ite (.not (.call "is_sign" #v[!0])) #v[.raise "NoSign" "this is no sign of a floor"] .nil],ie}
abbrev mJ:Def:={["thing"],1,#v[.ite (.or (.not (.ty .str (!0))) (.not (.ch .le .le (¬1) (.blt .len #v[!0]) (.glob "LONGEST" (.int 12))))) #v[.ret (.cst (.bl iv))] .nil,.ret (.blt .all #v[.comp 1 [] (.one 0) (.seq (!0)) (.call "is_sign" #v[!0])])],ie}
abbrev iH:Def:={["thing"],1,#v[.ite (.or (.not (.ty .tuple (!0))) (.not (.ch .le .le (¬1) (.blt .len #v[!0]) (.glob "LONGEST" (.int 12))))) #v[.ret (.cst (.bl iv))] .nil,.ite (.not (.blt .all #v[.comp 1 [] (.one 0) (.seq (!0)) (.call "is_row" #v[!0])])) #v[.ret (.cst (.bl iv))] .nil,.ret (.blt .all #v[.comp 1 [0] (.one 0) (.seq (!0)) (.cmp .eq (.blt .len #v[!0]) (.blt .len #v[.sub (!1) (¬0)]))])],ie}
abbrev fG:Def:={["one","other"],2,#v[.ite (.cmp .ne (.blt .len #v[!0]) (.blt .len #v[!1])) #v[.raise "NoFit" "the floors have not as many rows"] .nil,.ite (.cmp .gt (.bin .add (.blt .len #v[.sub (!0) (¬0)]) (.blt .len #v[.sub (!1) (¬0)])) (.glob "LONGEST" (.int 12))) #v[.raise "NoFit" "there were more than 12 columns"] .nil,.ret (.blt .tuple #v[.comp 2 [] (.two 0 1) (.zip #v[!0,!1]) (.bin .add (!0) (!1))])],ie}
abbrev gy:Def:={["one","other"],2,#v[.ite (.cmp .ne (.blt .len #v[.sub (!0) (¬0)]) (.blt .len #v[.sub (!1) (¬0)])) #v[.raise "NoFit" "the floors have not as many columns"] .nil,.ite (.cmp .gt (.bin .add (.blt .len #v[!0]) (.blt .len #v[!1])) (.glob "LONGEST" (.int 12))) #v[.raise "NoFit" "there were more than 12 rows"] .nil,.ret (.bin .add (!0) (!1))],ie}
abbrev gz:Def:={["floor","spot","sign","signs","changed"],3,#v[.set 3 (.sub (!0) (.sub (!1) (¬0))),.set 4 (.bin .add (.bin .add (.slice (!3) .no (.some (.sub (!1) (¬1)))) (!2)) (.slice (!3) (.some (.bin .add (.sub (!1) (¬1)) (¬1))) .no)),.ret (.bin .add (.bin .add (.slice (!0) .no (.some (.sub (!1) (¬0)))) (.tup #v[!4])) (.slice (!0) (.some (.bin .add (.sub (!1) (¬0)) (¬1))) .no))],ie}
abbrev cH:Def:={["_law_script","_law_k"],2,#v[.ite (.cmp .lt (!1) (.blt .len #v[!0])) #v[.ret (.sub (!0) (!1))] .nil,.ite (.cmp .eq (!0) (.lst .nil)) #v[.ret (¬0)] .nil,.ret (.bin .add (.bin .mul (.sub (!0) (.bin .mod (!1) (.blt .len #v[!0]))) (¬31)) (!1))],ie}
abbrev cI:Def:={["_law_script","_law_k","_law_many","_law_drawn"],3,#v[.set 3 (.bin .mod (.bin .mul (.bin .add (.call (zu 31) #v[!0,!1]) (.bin .mul (¬6151) (.bin .add (!1) (¬1)))) (¬40692)) (¬2147483399)),.ret (.bin .mod (.bin .mod (.bin .add (.bin .mul (!3) (!3)) (.bin .fdiv (!3) (¬31))) (¬2147483629)) (!2))],ie}
abbrev cY:D2:={["self"],1,(.cons (.uy "Atlas" 0 "floors" .kF)
 (.cons (.uy "Atlas" 0 "done" (.qM .nil))
 (.cons (.uy "Atlas" 0 "undone" (.qM .nil))
 .nil)))}
abbrev fz:D2:={["self","name","floor"],3,(.cons (.ite (.pu (.cmp .is (.var 2) (.cst .aE)))
 (.cons (.ex (.sR (.fld 0 "floors") (.var 1)))
 .nil)
 (.cons (.C3 (.fld 0 "floors") (.var 1) (.var 2))
 .nil))
 .nil)}
abbrev fC:D2:={["self","word","name","floor"],4,(.cons (.ex (.fY (.fld 0 "done") (.pu (.tup (.cons (.var 1) (.cons (.var 2) (.cons (.get (.con (.fld 0 "floors")) (.var 2)) (.cons (.var 3) .nil))))))))
 (.cons (.uy "Atlas" 0 "undone" (.qM .nil))
 (.cons (.ex (.met (.var 0) "Atlas" "give" (.cons (.var 2) (.cons (.var 3) .nil))))
 .nil)))}
abbrev gq:D2:={["self","name","floor","had_one"],3,(.cons (.p (.ite (.not (.call "is_floor" (.cons (.var 2) .nil)))
 (.cons (.raise (zu 36) "this is no floor")
 .nil)
 .nil))
 (.cons (.p (.expr (.call (zu 30) (.cons (.var 1) .nil))))
 (.cons (.p (.set 3 (.cmp .Hh (.var 1) (.con (.fld 0 "floors")))))
 (.cons (.ex (.met (.var 0) "Atlas" "step" (.cons (.cst (.str "lay")) (.cons (.var 1) (.cons (.var 2) .nil)))))
 (.cons (.p (.ret (.var 3)))
 .nil)))))}
abbrev cZ:D2:={["self","name"],2,(.cons (.p (.expr (.call (zu 30) (.cons (.var 1) .nil))))
 (.cons (.p (.ite (.cmp .LR (.var 1) (.con (.fld 0 "floors")))
  (.cons (.raise "NoName" "no floor has this name")
  .nil)
  .nil))
 (.cons (.p (.ret (.sub (.con (.fld 0 "floors")) (.var 1))))
 .nil)))}
abbrev fE:D2:={["self","name","turned"],2,(.cons (.set 2 (.c1 (zu 29) (.cons (.met (.var 0) "Atlas" (zu 24) (.cons (.var 1) .nil)) .nil)))
 (.cons (.ex (.met (.var 0) "Atlas" "step" (.cons (.cst (.str "turn")) (.cons (.var 1) (.cons (.var 2) .nil)))))
 (.cons (.p (.ret (.var 2)))
 .nil)))}
abbrev fy:D2:={["self","step"],1,(.cons (.p (.ite (.cmp .eq (.blt .len (.cons (.con (.fld 0 "done")) .nil)) (.cst (.int 0)))
 (.cons (.raise "NoBack" "there is nothing to take back")
 .nil)
 .nil))
 (.cons (.set 1 (.zG (.fld 0 "done")))
 (.cons (.ex (.fY (.fld 0 "undone") (.pu (.var 1))))
 (.cons (.ex (.met (.var 0) "Atlas" "give" (.cons (.sub (.var 1) (.cst (.int 1))) (.cons (.sub (.var 1) (.cst (.int 2))) .nil))))
 (.cons (.p (.ret (.sub (.var 1) (.cst (.int 0)))))
 .nil)))))}
abbrev eL:D2:={["self"],1,(.cons (.p (.ret (.blt .sorted (.cons (.con (.fld 0 "floors")) .nil))))
 .nil)}
abbrev eK:D2:={["self"],1,(.cons (.p (.ret (.tup (.cons (.blt .len (.cons (.con (.fld 0 "done")) .nil)) (.cons (.blt .len (.cons (.con (.fld 0 "undone")) .nil)) .nil)))))
 .nil)}
abbrev eJ:D2:={["self","step"],1,(.cons (.p (.ite (.cmp .eq (.blt .len (.cons (.con (.fld 0 "undone")) .nil)) (.cst (.int 0)))
 (.cons (.raise "NoBack" "there is nothing to do again")
 .nil)
 .nil))
 (.cons (.set 1 (.zG (.fld 0 "undone")))
 (.cons (.ex (.fY (.fld 0 "done") (.pu (.var 1))))
 (.cons (.ex (.met (.var 0) "Atlas" "give" (.cons (.sub (.var 1) (.cst (.int 1))) (.cons (.sub (.var 1) (.cst (.int 3))) .nil))))
 (.cons (.p (.ret (.sub (.var 1) (.cst (.int 0)))))
 .nil)))))}
abbrev fB:D2:={["self","name","spot","sign","floor"],4,(.cons (.set 4 (.met (.var 0) "Atlas" (zu 24) (.cons (.var 1) .nil)))
 (.cons (.p (.expr (.call (zu 26) (.cons (.var 4) (.cons (.var 2) .nil)))))
 (.cons (.p (.expr (.call "need_sign" (.cons (.var 3) .nil))))
 (.cons (.ex (.met (.var 0) "Atlas" "step" (.cons (.cst (.str "sign")) (.cons (.var 1) (.cons (.call "with_sign" (.cons (.var 4) (.cons (.var 2) (.cons (.var 3) .nil)))) .nil)))))
 (.cons (.p (.ret (.sub (.sub (.var 4) (.sub (.var 2) (.cst (.int 0)))) (.sub (.var 2) (.cst (.int 1))))))
 .nil)))))}
abbrev fA:D2:={["self","name","is_east","one","other","first","second","joined"],5,(.cons (.p (.expr (.call (zu 30) (.cons (.var 1) .nil))))
 (.cons (.set 5 (.met (.var 0) "Atlas" (zu 24) (.cons (.var 3) .nil)))
 (.cons (.set 6 (.met (.var 0) "Atlas" (zu 24) (.cons (.var 4) .nil)))
 (.cons (.p (.set 7 (.ite (.var 2) (.call "set_beside" (.cons (.var 5) (.cons (.var 6) .nil))) (.call "set_below" (.cons (.var 5) (.cons (.var 6) .nil))))))
 (.cons (.ex (.met (.var 0) "Atlas" "step" (.cons (.cst (.str "join")) (.cons (.var 1) (.cons (.var 7) .nil)))))
 (.cons (.p (.ret (.var 7)))
 .nil))))))}
abbrev fD:D2:={["self","name","floor"],2,(.cons (.set 2 (.met (.var 0) "Atlas" (zu 24) (.cons (.var 1) .nil)))
 (.cons (.ex (.met (.var 0) "Atlas" "step" (.cons (.cst (.str "take")) (.cons (.var 1) (.cons (.cst .aE) .nil)))))
 (.cons (.p (.ret (.var 2)))
 .nil)))}
abbrev dP:D2:={["self","name","mirrored"],2,(.cons (.set 2 (.c1 (zu 21) (.cons (.met (.var 0) "Atlas" (zu 24) (.cons (.var 1) .nil)) .nil)))
 (.cons (.ex (.met (.var 0) "Atlas" "step" (.cons (.cst (.str "mirror")) (.cons (.var 1) (.cons (.var 2) .nil)))))
 (.cons (.p (.ret (.var 2)))
 .nil)))}
def kU:D2:={[],1000,.nil}
abbrev kW:D2:={["_law_script","_law_odd","_law_atlas","_law_k","_law_thing","_law_name","_law_gone","_law_sign","_law_told_here"],1,(.cons (.p (.set 1 (.lst (.cons (.cst .aE) (.cons (.tup .nil) (.cons (.tup (.cons (.cst (.str "")) .nil)) (.cons (.tup (.cons (.cst (.str "01")) (.cons (.cst (.str "0")) .nil))) (.cons (.lst (.cons (.cst (.str "01")) .nil)) (.cons (.tup (.cons (.cst (.str "0a")) .nil)) (.cons (.bin .mul (.tup (.cons (.cst (.str "0")) .nil)) (.cst (.int 13))) (.cons (.tup (.cons (.bin .mul (.cst (.str "0")) (.cst (.int 13))) .nil)) (.cons (.tup (.cons (.cst (.int 0)) .nil)) (.cons (.cst (.str "01")) .nil)))))))))))))
 (.cons (.set 2 (.new "Atlas" .nil))
 (.cons (.ex (.met (.var 2) "Atlas" "lay" (.cons (.cst (.str "a")) (.cons (.tup (.cons (.cst (.str "01")) (.cons (.cst (.str "#2")) .nil))) .nil))))
 (.cons (.ex (.met (.var 2) "Atlas" "lay" (.cons (.cst (.str "b")) (.cons (.tup (.cons (.cst (.str "345")) .nil)) .nil))))
 (.cons (.ex (.met (.var 2) "Atlas" "turn" (.cons (.cst (.str "a")) .nil)))
 (.cons (.ex (.met (.var 2) "Atlas" "back" .nil))
 (.cons (.gG (.one 3) (.xS (.cst (.int 4)))
  (.cons (.p (.set 4 (.sub (.var 1) (.bin .mod (.bin .add (.call (zu 14) (.cons (.var 0) (.cons (.cst (.int 0)) (.cons (.cst (.int 10)) .nil)))) (.bin .mul (.cst (.int 3)) (.var 3))) (.cst (.int 10))))))
  (.cons (.p (.set 5 (.sub (.lst (.cons (.cst .aE) (.cons (.cst (.str "")) (.cons (.cst (.str "A")) (.cons (.cst (.str "abcdefg")) (.cons (.cst (.int 5)) (.cons (.lst (.cons (.cst (.str "a")) .nil)) (.cons (.cst (.str "a b")) (.cons (.cst (.str "a1")) .nil))))))))) (.bin .mod (.bin .add (.call (zu 14) (.cons (.var 0) (.cons (.cst (.int 1)) (.cons (.cst (.int 8)) .nil)))) (.bin .mul (.cst (.int 3)) (.var 3))) (.cst (.int 8))))))
  (.cons (.p (.set 6 (.sub (.lst (.cons (.cst (.str "c")) (.cons (.cst (.str "ab")) (.cons (.cst (.str "x")) (.cons (.cst (.str "none")) .nil))))) (.bin .mod (.bin .add (.call (zu 14) (.cons (.var 0) (.cons (.cst (.int 2)) (.cons (.cst (.int 4)) .nil)))) (.var 3)) (.cst (.int 4))))))
  (.cons (.p (.set 7 (.sub (.lst (.cons (.cst .aE) (.cons (.cst (.str "")) (.cons (.cst (.str "x")) (.cons (.cst (.int 5)) (.cons (.cst (.str "12")) (.cons (.cst (.str " ")) (.cons (.cst (.str "##")) (.cons (.lst (.cons (.cst (.str "#")) .nil)) .nil))))))))) (.bin .mod (.bin .add (.call (zu 14) (.cons (.var 0) (.cons (.cst (.int 3)) (.cons (.cst (.int 8)) .nil)))) (.bin .mul (.cst (.int 3)) (.var 3))) (.cst (.int 8))))))
  (.cons (.set 8 (.qM (.cons (.uI (zu 11) [4,5,3,2] (.met (.var 3) "Atlas" "lay" (.cons (.sub (.lst (.cons (.var 1) (.cons (.cst (.str "a")) .nil))) (.bin .mod (.var 2) (.cst (.int 2)))) (.cons (.var 0) .nil)))) .nil)))
  (.cons (.ex (.fY (.var 8) (.uI (zu 11) [7,3,2] (.met (.var 2) "Atlas" "sign" (.cons (.cst (.str "a")) (.cons (.sub (.lst (.cons (.tup (.cons (.cst (.int 2)) (.cons (.cst (.int 0)) .nil))) (.cons (.tup (.cons (.cst (.int 0)) (.cons (.cst (.int 2)) .nil))) (.cons (.tup (.cons (.neg (.cst (.int 1))) (.cons (.cst (.int 0)) .nil))) (.cons (.tup (.cons (.cst (.int 0)) (.cons (.neg (.cst (.int 1))) .nil))) .nil))))) (.var 1)) (.cons (.var 0) .nil)))))))
  (.cons (.ex (.fY (.var 8) (.uI (zu 11) [7,3,2] (.met (.var 2) "Atlas" "sign" (.cons (.cst (.str "a")) (.cons (.tup (.cons (.bin .fdiv (.var 1) (.cst (.int 2))) (.cons (.bin .mod (.var 1) (.cst (.int 2))) .nil))) (.cons (.var 0) .nil)))))))
  (.cons (.ex (.fY (.var 8) (.uI (zu 11) [3,2] (.met (.var 1) "Atlas" "join" (.cons (.cst (.str "c")) (.cons (.cmp .eq (.bin .mod (.var 0) (.cst (.int 2))) (.cst (.int 0))) (.cons (.cst (.str "a")) (.cons (.cst (.str "b")) .nil))))))))
  (.cons (.p (.ite (.cmp .ne (.con (.var 8)) (.lst (.cons (.cst (.str "no floor")) (.cons (.cst (.str "no spot")) (.cons (.cst (.str "no sign")) (.cons (.cst (.str "no fit")) .nil))))))
   (.cons (.ret (.cst (.bl iv)))
   .nil)
   .nil))
  (.cons (.set 8 (.qM (.cons (.uI (zu 11) [5,2] (.met (.var 1) "Atlas" "lay" (.cons (.var 0) (.cons (.tup (.cons (.cst (.str "0")) .nil)) .nil)))) .nil)))
  (.cons (.ex (.fY (.var 8) (.uI (zu 11) [5,3,6,2] (.met (.var 3) "Atlas" "take" (.cons (.sub (.lst (.cons (.var 0) (.cons (.var 2) .nil))) (.bin .mod (.var 1) (.cst (.int 2)))) .nil)))))
  (.cons (.ex (.fY (.var 8) (.uI (zu 11) [5,3,6,2] (.met (.var 3) "Atlas" (zu 24) (.cons (.sub (.lst (.cons (.var 2) (.cons (.var 0) .nil))) (.bin .mod (.var 1) (.cst (.int 2)))) .nil)))))
  (.cons (.ex (.fY (.var 8) (.uI (zu 11) [5,3,6,2] (.met (.var 3) "Atlas" "turn" (.cons (.sub (.lst (.cons (.var 0) (.cons (.var 2) .nil))) (.bin .mod (.var 1) (.cst (.int 2)))) .nil)))))
  (.cons (.ex (.fY (.var 8) (.uI (zu 11) [5,3,6,2] (.met (.var 3) "Atlas" "mirror" (.cons (.sub (.lst (.cons (.var 2) (.cons (.var 0) .nil))) (.bin .mod (.var 1) (.cst (.int 2)))) .nil)))))
  (.cons (.ex (.fY (.var 8) (.uI (zu 11) [7,5,3,6,2] (.met (.var 4) "Atlas" "sign" (.cons (.sub (.lst (.cons (.var 1) (.cons (.var 3) .nil))) (.bin .mod (.var 2) (.cst (.int 2)))) (.cons (.tup (.cons (.cst (.int 9)) (.cons (.cst (.int 9)) .nil))) (.cons (.var 0) .nil)))))))
  (.cons (.ex (.fY (.var 8) (.uI (zu 11) [5,2] (.met (.var 1) "Atlas" "join" (.cons (.var 0) (.cons (.cst (.bl ig)) (.cons (.cst (.str "a")) (.cons (.cst (.str "a")) .nil))))))))
  (.cons (.ex (.fY (.var 8) (.uI (zu 11) [5,3,6,2] (.met (.var 3) "Atlas" "join" (.cons (.cst (.str "c")) (.cons (.cst (.bl ig)) (.cons (.cst (.str "a")) (.cons (.sub (.lst (.cons (.var 0) (.cons (.var 2) .nil))) (.bin .mod (.var 1) (.cst (.int 2)))) .nil))))))))
  (.cons (.ex (.fY (.var 8) (.uI (zu 11) [5,3,6,2] (.met (.var 3) "Atlas" "join" (.cons (.cst (.str "c")) (.cons (.cst (.bl iv)) (.cons (.sub (.lst (.cons (.var 2) (.cons (.var 0) .nil))) (.bin .mod (.var 1) (.cst (.int 2)))) (.cons (.cst (.str "b")) .nil))))))))
  (.cons (.p (.ite (.cmp .ne (.con (.var 8)) (.bin .mul (.lst (.cons (.cst (.str "no name")) .nil)) (.cst (.int 9))))
   (.cons (.ret (.cst (.bl iv)))
   .nil)
   .nil))
  .nil))))))))))))))))))))
 (.cons (.ite (.or (.cmp .ne (.met (.var 2) "Atlas" "names" .nil) (.pu (.lst (.cons (.cst (.str "a")) (.cons (.cst (.str "b")) .nil))))) (.or (.cmp .ne (.met (.var 2) "Atlas" "marks" .nil) (.pu (.tup (.cons (.cst (.int 2)) (.cons (.cst (.int 1)) .nil))))) (.cmp .ne (.met (.var 2) "Atlas" "forth" .nil) (.pu (.cst (.str "turn"))))))
  (.cons (.p (.ret (.cst (.bl iv))))
  .nil)
  .nil)
 (.cons (.ite (.or (.cmp .ne (.met (.var 2) "Atlas" (zu 24) (.cons (.cst (.str "a")) .nil)) (.pu (.tup (.cons (.cst (.str "#0")) (.cons (.cst (.str "21")) .nil))))) (.or (.cmp .ne (.met (.var 2) "Atlas" "sign" (.cons (.cst (.str "a")) (.cons (.tup (.cons (.cst (.int 0)) (.cons (.cst (.int 0)) .nil))) (.cons (.cst (.str "#")) .nil)))) (.pu (.cst (.str "#")))) (.cmp .ne (.met (.var 2) "Atlas" "marks" .nil) (.pu (.tup (.cons (.cst (.int 4)) (.cons (.cst (.int 0)) .nil)))))))
  (.cons (.p (.ret (.cst (.bl iv))))
  .nil)
  .nil)
 (.cons (.ret (.and (.cmp .eq (.met (.var 2) "Atlas" "join" (.cons (.cst (.str "c")) (.cons (.cst (.bl iv)) (.cons (.cst (.str "b")) (.cons (.cst (.str "b")) .nil))))) (.pu (.tup (.cons (.cst (.str "345")) (.cons (.cst (.str "345")) .nil))))) (.cmp .eq (.met (.var 2) "Atlas" "names" .nil) (.pu (.lst (.cons (.cst (.str "a")) (.cons (.cst (.str "b")) (.cons (.cst (.str "c")) .nil))))))))
 .nil))))))))))}
def T0:List (Str×Def):=[]
abbrev T1:List (Str×Def):=((zu 13:Str),fF)::T0
abbrev T2:List (Str×Def):=(("is_whole":Str),iI)::T1
abbrev T3:List (Str×Def):=(("is_name":Str),kC)::T2
abbrev T4:List (Str×Def):=((zu 30:Str),gu)::T3
abbrev T5:List (Str×Def):=((zu 29:Str),dQ)::T4
abbrev T6:List (Str×Def):=((zu 21:Str),c8)::T5
abbrev T7:List (Str×Def):=(("is_spot":Str),kE)::T6
abbrev T8:List (Str×Def):=((zu 32:Str),eM)::T7
abbrev T9:List (Str×Def):=((zu 26:Str),dA)::T8
abbrev Uh:List (Str×Def):=(("is_sign":Str),kD)::T9
abbrev Ui:List (Str×Def):=(("need_sign":Str),gv)::Uh
abbrev Uj:List (Str×Def):=(("is_row":Str),mJ)::Ui
abbrev Uk:List (Str×Def):=(("is_floor":Str),iH)::Uj
abbrev Ul:List (Str×Def):=(("set_beside":Str),fG)::Uk
abbrev Um:List (Str×Def):=(("set_below":Str),gy)::Ul
abbrev Si:List (Str×Def):=(("with_sign":Str),gz)::Um
abbrev Pe:List (Str×Def):=((zu 31:Str),cH)::Si
abbrev Pf:List (Str×Def):=((zu 14:Str),cI)::Pe
def U0:List (Str×D2):=[]
abbrev U1:List (Str×D2):=((zu 38:Str),cY)::U0
abbrev U2:List (Str×D2):=(("Atlas.give":Str),fz)::U1
abbrev U3:List (Str×D2):=(("Atlas.step":Str),fC)::U2
abbrev U4:List (Str×D2):=(("Atlas.lay":Str),gq)::U3
abbrev U5:List (Str×D2):=((zu 37:Str),cZ)::U4
abbrev U6:List (Str×D2):=(("Atlas.turn":Str),fE)::U5
abbrev U7:List (Str×D2):=(("Atlas.back":Str),fy)::U6
abbrev U8:List (Str×D2):=(("Atlas.names":Str),eL)::U7
abbrev U9:List (Str×D2):=(("Atlas.marks":Str),eK)::U8
abbrev Uo:List (Str×D2):=(("Atlas.forth":Str),eJ)::U9
abbrev Up:List (Str×D2):=(("Atlas.sign":Str),fB)::Uo
abbrev Uq:List (Str×D2):=(("Atlas.join":Str),fA)::Up
abbrev Ur:List (Str×D2):=(("Atlas.take":Str),fD)::Uq
abbrev Us:List (Str×D2):=(("Atlas.mirror":Str),dP)::Ur
abbrev Ut:List (Str×D2):=((zu 11:Str),kU)::Us
noncomputable abbrev F1:Sg->aW:=λs=>b8 (vg s) Pf
noncomputable abbrev F2:gd:=eX F1 Ut
end K75
namespace K75
open L2 Ci KJ
noncomputable abbrev i8(ns:List Int):PV:=.lst (ns.map .int)
theorem nI{i j:Int}:vM (.int i) (.int j)=.ok (.bl (!(i==j))):=rfl
theorem eI{i j:Int}:qU (.int i) (.int j)=.ok (.bl (i==j)):=rfl
abbrev J2:=kv @nI (kv @eI (kv @QC (kv @QE (@QD))))
set_option hygiene false
local macro_rules|`(tactic|simp! only [$x,*] $[$l:location]?)=>do let q<-("j8 kO kA f6 mR aG dv Lz yJ fv GD vq k6 Nat.reduceAdd Nat.reduceSub reduceIte ite_true ite_false BEq.rfl beq_self_eq_true jS jT jU Sr TZ Tr TH TJ TF sv TL TK Sm GV GY GX Mj Mi Mh Mg Su SA Sz Sy Sw Sx Mo oLt oLe Tp lL lT lS tL aL TX TV SJ jA jB jC jD jE jF jG jH jI jJ jK jL jM jN jO jP KJ.mh TC QE QC QD GZ jQ jR nI eI".splitOn " ").toArray.mapM fun n=>`(Lean.Parser.Tactic.simpLemma|$(Lean.mkIdent n.toName):ident);`(tactic|simp only [$[$q:simpLemma],*,$x,*] $[$l]?)
set_option hygiene true
def HQ{a:Type}{xs:List a}{k:Nat}(h:k<xs.length):wL xs (k:Int)=hT xs[k]:=by
 unfold wL LO;have:((k:Nat):Int)<(xs.length:Int):=by omega
 simp [this,h]
def wM{ns:List Int}{k:Int}(a:0<=k)(h:k<ns.length):∃m,wL (ns.map PV.int) k=hT (.int m):=by let(j,rfl):=Int.eq_ofNat_of_zero_le a;refine{ns[j]'(by omega),?_};rw [HQ (k:=j) (by simp;omega)];simp
def CO(ns:List Int)(n:Nat):Ci.plain (n+1) (.lst (ns.map .int))=ig:=by
 simp! [Ci.plain,cP,fx]
 rintro x ⟨i,_,rfl⟩
 cases n<;>rfl
def eq_nil(ns:List Int):qU (i8 ns) (.lst [])=.ok (.bl (decide (ns=[]))):=by have e:l8 (i8 ns)=ig:=CO ns 8;unfold qU;rw [e];cases ns<;>rfl
def Ef(F:aW)(ns:List Int)(k:Int)(hk:0<=k):∃m,j8 F cH [i8 ns,.int k]=.ok (.int m):=by
 simp! only [cH,zzl,eq_nil];by_cases h:k<(ns.length:Int)
 .let(m,e):=wM hk h;refine{m,?_};simp! only [h,decide_true,dC,e]
 .simp! only [h,decide_false,eq_nil];cases ns with
  |nil=>exact{0,rfl}|cons n ns=>
   have hl:(0:Int)<((n::ns).length:Int):=by simp! [bE];omega
   let(m,e):=wM (ns:=n::ns) (k:=k%((n::ns).length:Int)) (Int.emod_nonneg _ (by omega)) (Int.emod_lt_of_pos _ hl);refine{m*31+k,?_};have b:(bO m||bO 31)=ig:=by rw [e6];exact .inr (by decide)
   have a:dC (i8 (n::ns)) (.int (k%((n::ns).length:Int)))=.ok (.int m):=by simp! [dC,e];rfl
   have c:decide ((n::ns)=[])=iv:=rfl;simp! [bE] at hl a;simp! only [c,zzl,hl,a,b]
def FW(F:aW)(f:∀ns k,0<=k->∃m,F (zu 31) [i8 ns,.int k]=.ok (.int m))(ns:List Int)(k q:Int)(hk:0<=k)(a:0<q):∃m,j8 F cI [i8 ns,.int k,.int q]=.ok (.int m)/\0<=m/\m<q:=by
 let(m,e):=f ns k hk;have g:(bO 6151||bO (k+1))=ig:=by rw [e6];exact .inl (by decide)
 have h:(bO (m+6151*(k+1))||bO 40692)=ig:=by rw [e6];exact .inr (by decide)
 have c:(0:Int)<2147483399:=by decide
 have i:(0:Int)<2147483629:=by decide
 have j:(0:Int)<31/\(31:Int)<1073741824:=by decide
 have a0:=Int.emod_nonneg ((m+6151*(k+1))*40692) (b:=2147483399) (by decide);have a1:=Int.emod_lt_of_pos ((m+6151*(k+1))*40692) c;refine{((((m+6151*(k+1))*40692%2147483399)*((m+6151*(k+1))*40692%2147483399)+((m+6151*(k+1))*40692%2147483399)/31)%2147483629)%q,?_,Int.emod_nonneg _ (by omega),Int.emod_lt_of_pos _ a};generalize hd:(m+6151*(k+1))*40692%2147483399=d at a0 a1
 have o:(bO d||bO d)=ig:=by
  have:bO d=ig:=by simp! [bO,zza,zzN];omega
  rw [this];rfl
 simp! only [cI,i8] at e⊢;simp! only [e,g,h,c,i,j,hd,o,a,and_self]
def Ei{B:aW}:b8 B Pe (zu 31)=j8 (b8 B Si) cH:=SF 0
def Ej{B:aW}:b8 B Pf (zu 14)=j8 (b8 B Pe) cI:=SF 0
def pick(ns:List Int)(s:Sg)(k q:Int)(hk:0<=k)(a:0<q):∃m,F1 s (zu 14) [i8 ns,.int k,.int q]=.ok (.int m)/\0<=m/\m<q:=by show∃m,b8 (vg s) Pf (zu 14) _=_/\_;rw [Ej];exact FW _ (λns k hk=>by rw [Ei];exact Ef _ ns k hk) ns k q hk a
end K75
namespace K75
open L2 Ci
abbrev O0:qg->List S2
 |.nil=>[]|.cons s ss=>s::O0 ss
abbrev qN:List S2->qg
 |[]=>.nil|s::r=>.cons s (qN r)
theorem B0:∀b:qg,qN (O0 b)=b
 |.nil=>rfl|.cons s ss=>congrArg (qg.cons s) (B0 ss)
def kI{st:S2}{a:qg}{s:Sg}:bA F1 F2 (.cons st a) env s=(pF F1 F2 st env s).bind λf s=>NX f s (bA F1 F2 a):=by rw [bA]
def mQ{s:Sg}:bA F1 F2 .nil env s=.ok (.nx env) s:=by rw [bA]
def part{l r:List S2}{a:Sl}{s s':Sg}(h:bA F1 F2 (qN l) env s=.ok (.nx a) s'):bA F1 F2 (qN (l++r)) env s=bA F1 F2 (qN r) a s':=by
 induction l generalizing env s with
 |nil=>rw [qN,mQ] at h;cases h;rfl
 |cons x l b=>
  rw [qN,kI] at h;show bA F1 F2 (.cons x (qN (l++r))) env s=_
  rw [kI];cases e:pF F1 F2 x env s with
  |bad=>rw [e] at h;cases h
  |exc c z=>rw [e] at h;cases h
  |ok f z=>
   rw [e] at h;cases f with
   |nx d=>exact b h|bk _=>cases h
   |ct _=>cases h
   |rt _=>cases h
abbrev tA{a:Type}(f:Nat->a):Nat->List a
 |0=>[]|n+1=>f n::tA f n
abbrev tB{a:Type}(f:Nat->a):Nat->List a
 |0=>[]|n+1=>f n::tB f n
theorem Gv{a:Type}{f g:Nat->a}:∀{n:Nat},tA f n=tB g n->∀i,i<n->f i=g i
 |0,_,i,h=>absurd h (Nat.not_lt_zero i)|n+1,e,i,h=>by
  injection e with e1 b
  by_cases z:i=n
  .rw [z];exact e1
  .exact Gv b i (by omega)
abbrev lst:List S2:=O0 kW.body
abbrev js(x:PV):Sl:=[.val x,.no,.no,.no,.no,.no,.no,.no,.no]
abbrev rE:Rs Fl->Sl
 |.ok (.nx e) _=>e|_=>[]
abbrev rS{a:Type}:Rs a->Sg
 |.ok _ s=>s|_=>[]
abbrev A0:Sg:=rS (bA F1 F2 (qN (lst.take 6)) (js .aE) [])
abbrev E0:Sl:=rE (bA F1 F2 (qN (lst.take 6)) (js .aE) [])
abbrev fL:List PV:=match E0 with
 |_::.val (.lst l)::_=>l|_=>[]
def it:I:=.xS (.cst (.int 4))
abbrev body:qg:=match lst.getD 6 (.ret (.pu (.cst .aE))) with
 |.gG _ _ b=>b|_=>.nil
abbrev bl:List S2:=O0 body
noncomputable abbrev dS:S2:=.ret (.pu (.cst .aE))
abbrev L1:OS:={"#l",[("",.str "no floor"),("",.str "no spot"),("",.str "no sign"),("",.str "no fit")]}
abbrev L2:OS:={"#l",k6 9 ("",.str "no name")}
abbrev R:Nat->Sg
 |0=>A0|k+1=>R k++[L1,L2]
def init(x:PV):bA F1 F2 (qN (lst.take 6)) (js x) []=.ok (.nx [.val x,.val (.lst fL),.val (.obj 0),.no,.no,.no,.no,.no,.no]) A0:=by kernel_rfl
abbrev Ak:List PV:=[.aE,.str "",.str "A",.str "abcdefg",.int 5,.lst [.str "a"],.str "a b",.str "a1"]
abbrev Bh:List PV:=[.str "c",.str "ab",.str "x",.str "none"]
abbrev De:List PV:=[.aE,.str "",.str "x",.int 5,.str "12",.str " ",.str "##",.lst [.str "#"]]
abbrev ev(a b c d:PV)(k:Nat)(x:PV)(T:Slot):Sl:=[.val x,.val (.lst fL),.val (.obj 0),.val (.int k),.val a,.val b,.val c,.val d,T]
def p1(x b c d:PV)(T:Slot):tA (λi=>bA F1 F2 (qN ((bl.drop 4).take 2)) (ev (fL.getD (i/4) .aE) b c d (i%4) x T) (R (i%4))) 40=tB (λi=>.ok (.nx (ev (fL.getD (i/4) .aE) b c d (i%4) x (.val (.obj (7+2*(i%4)))))) (R (i%4)++[{"#l",L1.fs.take 2}])) 40:=by kernel_rfl
def p2(x a b c:PV):tA (λi=>bA F1 F2 (qN ((bl.drop 6).take 3)) (ev a b c (De.getD (i/4) .aE) (i%4) x (.val (.obj (7+2*(i%4))))) (R (i%4)++[{"#l",L1.fs.take 2}])) 32=tB (λi=>.ok (.nx (ev a b c (De.getD (i/4) .aE) (i%4) x (.val (.obj (7+2*(i%4)))))) (R (i%4)++[L1])) 32:=by kernel_rfl
abbrev Dg:Nat->List S2
 |0=>(bl.drop 9).take 5|_=>bl.drop 14
abbrev TN(h k:Nat):Slot:=.val (.obj ((if h=0 then 7 else 8)+2*k))
abbrev SM(h k:Nat):Sg:=match h with
 |0=>R k++[L1]|1=>R k++[L1,{"#l",L2.fs.take 5}]|_=>R (k+1)
abbrev l3(h k:Nat)(x a d:PV):=tA (λi=>bA F1 F2 (qN (Dg h)) (ev a (Ak.getD (i%8) .aE) (Bh.getD (i/8) .aE) d k x (TN h k)) (SM h k)) 32
abbrev r3(h k:Nat)(x a d:PV):List (Rs Fl):=tB (λi=>.ok (.nx (ev a (Ak.getD (i%8) .aE) (Bh.getD (i/8) .aE) d k x (TN (h+1) k))) (SM (h+1) k)) 32
def Uw(x a d:PV):l3 0 0 x a d=r3 0 0 x a d:=by kernel_rfl
def Ux(x a d:PV):l3 0 1 x a d=r3 0 1 x a d:=by kernel_rfl
def Uy(x a d:PV):l3 0 2 x a d=r3 0 2 x a d:=by kernel_rfl
def Uz(x a d:PV):l3 0 3 x a d=r3 0 3 x a d:=by kernel_rfl
def Pp(x a d:PV):l3 1 0 x a d=r3 1 0 x a d:=by kernel_rfl
def UA(x a d:PV):l3 1 1 x a d=r3 1 1 x a d:=by kernel_rfl
def UB(x a d:PV):l3 1 2 x a d=r3 1 2 x a d:=by kernel_rfl
def UC(x a d:PV):l3 1 3 x a d=r3 1 3 x a d:=by kernel_rfl
theorem a0(x a d:PV):∀k,k<4->l3 0 k x a d=r3 0 k x a d
 |0,_=>Uw x a d|1,_=>Ux x a d|2,_=>Uy x a d|3,_=>Uz x a d
theorem a1(x a d:PV):∀k,k<4->l3 1 k x a d=r3 1 k x a d
 |0,_=>Pp x a d|1,_=>UA x a d|2,_=>UB x a d|3,_=>UC x a d
def fin(x a b c d:PV):∃s,bA F1 F2 (qN (lst.drop 7)) (ev a b c d 3 x (.val (.obj 14))) (R 4)=.ok (.rt (.bl ig)) s:={rS (bA F1 F2 (qN (lst.drop 7)) (ev .aE .aE .aE .aE 3 .aE (.val (.obj 14))) (R 4)),by kernel_rfl}
abbrev gE(i:Nat):E:=match bl.getD i dS with
 |.p (.set _ e)=>e|_=>.Lx
def UG:bl.take 4=[.p (.set 4 (gE 0)),.p (.set 5 (gE 1)),.p (.set 6 (gE 2)),.p (.set 7 (gE 3))]:=by kernel_rfl
def UH:bl=bl.take 4++((bl.drop 4).take 2++((bl.drop 6).take 3++(Dg 0++Dg 1))):=by kernel_rfl
def jl{st:S2}{a:qg}{e1:Sl}{s s1:Sg}(h:pF F1 F2 st env s=.ok (.nx e1) s1):bA F1 F2 (.cons st a) env s=bA F1 F2 a e1 s1:=by rw [kI,h];rfl
def rn{i:Nat}{e:E}{p:PV}{s:Sg}(h:aG (F1 s) e env=.ok p)(n:(env.set i (.val p)).any Slot.bH=iv):pF F1 F2 (.p (.set i e)) env s=.ok (.nx (env.set i (.val p))) s:=by rw [pF,mR,h];show Rs.of (if(env.set i (.val p)).any Slot.bH then Res.bad else Res.ok (Fl.nx (env.set i (.val p)))) s=_;rw [n];rfl
abbrev Pu(L:List PV)(n m k:Int):Res PV:=((binOp .add (.int m) (.int (3*k))).bind λq=>binOp .mod q (.int n)).bind λi=>dC (.lst L) i
abbrev Pt(L:List PV)(n m k:Int):Res PV:=((binOp .add (.int m) (.int k)).bind λq=>binOp .mod q (.int n)).bind λi=>dC (.lst L) i
noncomputable abbrev en(x:PV)(k:Nat)(a b c d T:Slot):Sl:=[.val x,.val (.lst fL),.val (.obj 0),.val (.int k),a,b,c,d,T]
def q0(F:aW)(x:PV)(k:Nat)(hk:k<4)(a b c d T:Slot):aG F (gE 0) (en x k a b c d T)=(((F (zu 14) [x,.int 0,.int 10]).bind λp=>binOp .add p (.int (3*k))).bind λq=>binOp .mod q (.int 10)).bind λi=>dC (.lst fL) i:=by
 match k,hk with
 |0,_=>kernel_rfl|1,_=>kernel_rfl|2,_=>kernel_rfl|3,_=>kernel_rfl
def q1(F:aW)(x:PV)(k:Nat)(hk:k<4)(a b c d T:Slot):aG F (gE 1) (en x k a b c d T)=(((F (zu 14) [x,.int 1,.int 8]).bind λp=>binOp .add p (.int (3*k))).bind λq=>binOp .mod q (.int 8)).bind λi=>dC (.lst Ak) i:=by
 match k,hk with
 |0,_=>kernel_rfl|1,_=>kernel_rfl|2,_=>kernel_rfl|3,_=>kernel_rfl
def q2(F:aW)(x:PV)(k:Nat)(hk:k<4)(a b c d T:Slot):aG F (gE 2) (en x k a b c d T)=(((F (zu 14) [x,.int 2,.int 4]).bind λp=>binOp .add p (.int k)).bind λq=>binOp .mod q (.int 4)).bind λi=>dC (.lst Bh) i:=by
 match k,hk with
 |0,_=>kernel_rfl|1,_=>kernel_rfl|2,_=>kernel_rfl|3,_=>kernel_rfl
def q3(F:aW)(x:PV)(k:Nat)(hk:k<4)(a b c d T:Slot):aG F (gE 3) (en x k a b c d T)=(((F (zu 14) [x,.int 3,.int 8]).bind λp=>binOp .add p (.int (3*k))).bind λq=>binOp .mod q (.int 8)).bind λi=>dC (.lst De) i:=by
 match k,hk with
 |0,_=>kernel_rfl|1,_=>kernel_rfl|2,_=>kernel_rfl|3,_=>kernel_rfl
def Wj:tA (λi=>Pu fL 10 ((i/4:Nat):Int) ((i%4:Nat):Int)) 40=tB (λi=>.ok (fL.getD ((i/4+3*(i%4))%10) .aE)) 40:=by kernel_rfl
def Wk:tA (λi=>Pu Ak 8 ((i/4:Nat):Int) ((i%4:Nat):Int)) 32=tB (λi=>.ok (Ak.getD ((i/4+3*(i%4))%8) .aE)) 32:=by kernel_rfl
def Wl:tA (λi=>Pt Bh 4 ((i/4:Nat):Int) ((i%4:Nat):Int)) 16=tB (λi=>.ok (Bh.getD ((i/4+(i%4))%4) .aE)) 16:=by kernel_rfl
def Wm:tA (λi=>Pu De 8 ((i/4:Nat):Int) ((i%4:Nat):Int)) 32=tB (λi=>.ok (De.getD ((i/4+3*(i%4))%8) .aE)) 32:=by kernel_rfl
def qP{m:Int}{n:Nat}(h:0<=m)(a:m<n):∃i:Nat,i<n/\m=i:={m.toNat,by omega,by omega}
def OP{i k:Nat}(h:k<4):(4*i+k)/4=i/\(4*i+k)%4=k:=by omega
def iter(ns:List Int)(k:Nat)(hk:k<4)(D m j i T:Slot)(o:m.bH=iv)(q:j.bH=iv)(r:i.bH=iv)(s:T.bH=iv):∃a b c d,bA F1 F2 body (en (i8 ns) k D m j i T) (R k)=.ok (.nx (en (i8 ns) k (.val a) (.val b) (.val c) (.val d) (.val (.obj (8+2*k))))) (R (k+1)):=by
 let(m0,I,J,K):=pick ns (R k) 0 10 (by decide) (by decide);let(m1,L,M,N):=pick ns (R k) 1 8 (by decide) (by decide);let(m2,O,P,Q):=pick ns (R k) 2 4 (by decide) (by decide);let(m3,S,l3,U):=pick ns (R k) 3 8 (by decide) (by decide);let(t,b0,rfl):=qP (n:=10) J K;let(u,b1,rfl):=qP (n:=8) M N;let(w,b2,rfl):=qP (n:=4) P Q;let(y,b3,rfl):=qP (n:=8) l3 U;have z:=Gv Wj (4*t+k) (by omega);have A:=Gv Wk (4*u+k) (by omega);have B:=Gv Wl (4*w+k) (by omega);have C:=Gv Wm (4*y+k) (by omega);rw [(OP hk).1,(OP hk).2] at z A B C;have V:(t+3*k)%10<10:=Nat.mod_lt _ (by decide);have W:(u+3*k)%8<8:=Nat.mod_lt _ (by decide);have X:(w+k)%4<4:=Nat.mod_lt _ (by decide);have Y:(y+3*k)%8<8:=Nat.mod_lt _ (by decide);generalize (t+3*k)%10=g at z V;generalize (u+3*k)%8=e at A W;generalize (w+k)%4=f at B X;generalize (y+3*k)%8=h at C Y;refine{fL.getD g .aE,Ak.getD e .aE,Bh.getD f .aE,De.getD h .aE,?_};have no:∀{x:PV},(Slot.val x).bH=iv:=rfl;have Z:bA F1 F2 (qN (bl.take 4)) (en (i8 ns) k D m j i T) (R k)=.ok (.nx (ev (fL.getD g .aE) (Ak.getD e .aE) (Bh.getD f .aE) (De.getD h .aE) k (i8 ns) T)) (R k):=by rw [UG];show bA F1 F2 (.cons _ (.cons _ (.cons _ (.cons _ .nil)))) _ _=_;rw [jl (rn (p:=fL.getD g .aE) (by rw [q0 _ _ _ hk,I];exact z) (by simp [List.set,no,o,q,r,s]))];show bA F1 F2 _ (en (i8 ns) k (.val (fL.getD g .aE)) m j i T) _=_;rw [jl (rn (p:=Ak.getD e .aE) (by rw [q1 _ _ _ hk,L];exact A) (by simp [List.set,no,o,q,r,s]))];show bA F1 F2 _ (en (i8 ns) k (.val (fL.getD g .aE)) (.val (Ak.getD e .aE)) j i T) _=_;rw [jl (rn (p:=Bh.getD f .aE) (by rw [q2 _ _ _ hk,O];exact B) (by simp [List.set,no,o,q,r,s]))];show bA F1 F2 _ (en (i8 ns) k (.val (fL.getD g .aE)) (.val (Ak.getD e .aE)) (.val (Bh.getD f .aE)) i T) _=_;rw [jl (rn (p:=De.getD h .aE) (by rw [q3 _ _ _ hk,S];exact C) (by simp [List.set,no,o,q,r,s]))];rw [mQ];rfl
 have E:=Gv (p1 (i8 ns) (Ak.getD e .aE) (Bh.getD f .aE) (De.getD h .aE) T) (4*g+k) (by omega);have F:=Gv (p2 (i8 ns) (fL.getD g .aE) (Ak.getD e .aE) (Bh.getD f .aE)) (4*h+k) (by omega);have G:=Gv (a0 (i8 ns) (fL.getD g .aE) (De.getD h .aE) k hk) (8*f+e) (by omega);have H:=Gv (a1 (i8 ns) (fL.getD g .aE) (De.getD h .aE) k hk) (8*f+e) (by omega);rw [(OP hk).1,(OP hk).2] at E F;rw [show(8*f+e)%8=e by omega,show(8*f+e)/8=f by omega] at G H;rw [<-B0 body];show bA F1 F2 (qN bl) _ _=_;rw [UH,part Z,part E,part F];exact(part G).trans H
def jw{f:PV->Sl->Sg->Rs Fl}{x:PV}{e1:Sl}{s s1:Sg}(h:f x env s=.ok (.nx e1) s1):gF f (x::xs) env s=gF f xs e1 s1:=by rw [gF,h];rfl
def loop(ns:List Int):∃a b c d,pF F1 F2 (.gG (.one 3) it body) [.val (i8 ns),.val (.lst fL),.val (.obj 0),.no,.no,.no,.no,.no,.no] A0=.ok (.nx (ev a b c d 3 (i8 ns) (.val (.obj 14)))) (R 4):=by
 let(a0,e,f,g,s):=iter ns 0 (by decide) .no .no .no .no .no rfl rfl rfl rfl;let(a1,h,c1,i,t):=iter ns 1 (by decide) (.val a0) (.val e) (.val f) (.val g) (.val (.obj 8)) rfl rfl rfl rfl;let(a2,j,k,m,u):=iter ns 2 (by decide) (.val a1) (.val h) (.val c1) (.val i) (.val (.obj 10)) rfl rfl rfl rfl;let(o,p,q,r,w):=iter ns 3 (by decide) (.val a2) (.val j) (.val k) (.val m) (.val (.obj 12)) rfl rfl rfl rfl;refine{o,p,q,r,?_};rw [pF];have y:yJ (F1 A0) it [.val (i8 ns),.val (.lst fL),.val (.obj 0),.no,.no,.no,.no,.no,.no]=.ok [.int 0,.int 1,.int 2,.int 3]:=by kernel_rfl
 rw [y];simp! [Rs.of,Rs.bind];rw [jw (e1:=en (i8 ns) 0 (.val a0) (.val e) (.val f) (.val g) (.val (.obj 8))) (s1:=R 1) s,jw (e1:=en (i8 ns) 1 (.val a1) (.val h) (.val c1) (.val i) (.val (.obj 10))) (s1:=R 2) t,jw (e1:=en (i8 ns) 2 (.val a2) (.val j) (.val k) (.val m) (.val (.obj 12))) (s1:=R 3) u,jw (e1:=en (i8 ns) 3 (.val o) (.val p) (.val q) (.val r) (.val (.obj 14))) (s1:=R 4) w];rfl
def QL:lst=lst.take 6++([.gG (.one 3) it body]++lst.drop 7):=by kernel_rfl
def M6(ns:List Int)(hl:ns.length<=63):∃s,nM F1 F2 kW [.lst (ns.map .int)] []=.ok (.bl ig) s:=by
 let(a,b,c,d,h):=loop ns;let(s,f):=fin (i8 ns) a b c d;refine{s,?_};have e:bA F1 F2 kW.body (js (i8 ns)) []=.ok (.rt (.bl ig)) s:=by rw [<-B0 kW.body];show bA F1 F2 (qN lst) _ _=_;rw [QL,part (init (i8 ns)),part (l:=[.gG (.one 3) it body]) (by show bA F1 F2 (.cons _ .nil) _ _=_;rw [jl h,mQ]),f]
 show(bA F1 F2 kW.body (js (i8 ns)) []).bind _=_;rw [e];rfl
end K75
namespace Hd
open PySem.W L2
noncomputable abbrev fo(n:Str)(st:j7)(a:ix)(c:iN):Obj:={.type "function",ie,.func (fnOf n n (bx st) (aR st) (aq st) .none .none .none a ie (.ref c) .none),#[]}
noncomputable abbrev fm(n q:Str)(st:j7)(a:ix)(c:iN):Obj:={.type "function",ie,.func (fnOf n q (bx st) (aR st) (aq st) .none .none .none a ie (.ref c) .none),#[]}
noncomputable abbrev co(n:Str)(a:Nat)(L A:Int)(r:Nat)(x y:ix)(q z:Nat):Obj:={cls:=.type "code",data:=.fields #[.str n a,.str n (a+1),.str (zu 0) (a+2),.int L 0,.int A 0,.int 0 0,.int 0 0,.int 3 0,.ref r,.bool Bool.true,.int 181 0,.ref (r+1),.none,x,y,.ref q,.int z 0,.int L 0,.str (zu 0) (z+1)]}
abbrev PC(s:j7):Pos:=match s with
 |.FunctionDef _ _ _ _ _ _ _ _ _ p=>p|_=>{0,0,0,0}
def ent{K:Frag}{ts:List (iN×Str)}{n:Str}(f c:iN)(b:ix)(a:nsIn K kd n=hT (hT (.ref f)):=by kernel_rfl)(l:K.lookup f=hT (fo n st b c):=by kernel_rfl)(d:codeIn K (.ref c) n=ig:=by kernel_rfl)(k:keepIn K (.ref f)=ig:=by kernel_rfl):Ci.Aq K ts iv n st:=Ci.PD a l d k
def UL{K:Frag}{ts:List (iN×Str)}{n:Str}(f c:iN)(b:ix)(a:nsIn K kd n=hT (hT (.ref f)):=by kernel_rfl)(l:K.lookup f=hT (fo n st b c):=by kernel_rfl)(d:codeIn K (.ref c) n=ig:=by kernel_rfl)(k:keepIn K (.ref f)=ig:=by kernel_rfl):Ci.yd K ts iv n n ie st:={f,_,_,_,_,_,_,_,_,_,⟨a,rfl⟩,l,d,k,nofun}
def UM{K:Frag}{ts:List (iN×Str)}{n:Str}(f c p:iN)(b:ix)(e:Ci.eg K c p)(m:(p,Ci.iT n)∈ts)(u:∀q∈ts,q.1=p->q.2=Ci.iT n)(a:nsIn K kd n=hT (hT (.ref f)):=by kernel_rfl)(l:K.lookup f=hT (fo n st b c):=by kernel_rfl)(d:codeIn K (.ref c) n=ig:=by kernel_rfl)(k:keepIn K (.ref f)=ig:=by kernel_rfl):Ci.yd K ts ig n n ie st:={f,_,_,_,_,_,_,_,_,_,⟨a,rfl⟩,l,d,k,λZ=>{c,p,rfl,e,m,λg h=>u _ h rfl}}
def wZ{K:Frag}{ts:List (iN×Str)}{n q cl:Str}(C f c:iN)(b:ix)(g:nsIn K kd cl=hT (hT (.ref C)))(e:q=Ci.oE cl n:=by decide+kernel)(a:findIn K (.ref C) n=hT (hT (.ref f)):=by kernel_rfl)(i:isFn K (.ref f)=ig:=by kernel_rfl)(l:K.lookup f=hT (fm n q st b c):=by kernel_rfl)(d:codeIn K (.ref c) q=ig:=by kernel_rfl)(k:keepIn K (.ref f)=ig:=by kernel_rfl):Ci.yd K ts iv n q (hT cl) st:={f,_,_,_,_,_,_,_,_,_,⟨e,C,g,a,i⟩,l,d,k,nofun}
def a2{K:Frag}{ts:List (iN×Str)}{Γ:Ci.Pg}{fl:List (Str×Str)}{r:Ci.eF}{l:Ci.dk}(e:Ci.yd K ts r.hl r.m r.f r.c r.st)(s:Ci.wH Γ fl r l)(t:Ci.mr K ts Γ fl l)(a:(l.map (·.f)).contains r.f=iv:=by decide+kernel)(b:r.c.isSome=ig->(Ci.bK fl l).td=[]:=by first|exact λZ=>rfl|exact λz=>absurd z (by decide)):Ci.mr K ts Γ fl (r::l):={e,s,⟨a,b⟩,t}
def ac{K:Frag}{ts:List (iN×Str)}{Γ:Ci.Pg}{r:Ci.Row}{l:Ci.fT}(e:Ci.Aq K ts r.hl r.h r.st)(s:Ci.dH (Γ.at l r.hl) r.h r.d r.st)(t:Ci.AllK K ts Γ l)(a:(l.map (·.f)).contains r.f=iv:=by decide+kernel)(b:(r.d.sD.isNone==!Ci.dY r.f)=ig:=by decide+kernel)(c:r.d.sD.isNone=ig->r.f=r.h:=by first|exact λZ=>rfl|exact λz=>absurd z (by decide))(d:Ci.Mf r.f=iv:=by decide+kernel):Ci.AllK K ts Γ (r::l):={e,s,⟨a,b,c,d⟩,t}
def BR{K L:Frag}{b:iN}(e:K.lookup b=hT o):(K++L).lookup b=hT o:=by rw [List.lookup_append,e];rfl
end Hd
namespace K75
open L2 Ci
noncomputable abbrev lw:=PySem.Challenge.rw_cellways_k75_atlases_refused
abbrev top(i:Nat):Stmt:=PySem.Challenge.pw_cellways_k75_atlases_refused.main.body.getD i (.Pass {0,0,0,0})
abbrev Mq:j7->List j7
 |.ClassDef _ _ _ b _ _ _ _ _ _ _=>b|_=>[]
abbrev dB(i j:Nat):Stmt:=(Mq (top i)).getD j (.Pass {0,0,0,0})
noncomputable abbrev m1:Value:=.str "cellways.floors" 358
noncomputable abbrev m2:Value:=.str "cellways.grounds" 431
noncomputable abbrev m3:Value:=.str "cellways.atlases" 459
noncomputable abbrev m4:Value:=.str "law_cellways_k75_atlases_refused" 634
abbrev K(P:Params):zz8:=[(2,{cls:=.none,data:=.dict #[]}),
 (3,{cls:=.type "dict",data:=.dict #[Hd.de P (zu 27) 165 (.str "law_cellways_k75_atlases_refused" 634),Hd.de P (zu 35) 166 (.none),Hd.de P "__package__" 167 (.none),Hd.de P "__loader__" 168 (.builtin "__main__.__loader__#opaque"),Hd.de P "__spec__" 169 (.none),Hd.de P "__annotations__" 170 (.ref 6),Hd.de P "__builtins__" 171 (.ref 4),Hd.de P "__file__" 173 (.str (zu 0) 172),Hd.de P "__cached__" 174 (.none),Hd.de P "_wall" 193 (.ref 21),Hd.de P (zu 7) 213 (.ref 31),Hd.de P "NoSpot" 229 (.ref 44),Hd.de P "NoWay" 245 (.ref 56),Hd.de P "NoSign" 261 (.ref 68),Hd.de P "NoSize" 277 (.ref 80),Hd.de P "NoText" 293 (.ref 92),Hd.de P (zu 36) 309 (.ref 104),Hd.de P "NoName" 325 (.ref 116),Hd.de P "NoFit" 341 (.ref 128),Hd.de P "NoBack" 357 (.ref 140),Hd.de P "SIGNS" 361 (.str "#0123456789" 360),Hd.de P "LONGEST" 363 (.int 12 362),Hd.de P "is_whole" 370 (.ref 149),Hd.de P "is_sign" 377 (.ref 156),Hd.de P "is_row" 383 (.ref 161),Hd.de P "is_floor" 389 (.ref 166),Hd.de P "is_spot" 396 (.ref 173),Hd.de P (zu 32) 404 (.ref 180),Hd.de P (zu 26) 412 (.ref 187),Hd.de P "need_sign" 419 (.ref 194),Hd.de P "with_sign" 430 (.ref 201),Hd.de P (zu 29) 438 (.ref 206),Hd.de P (zu 21) 444 (.ref 211),Hd.de P "set_below" 452 (.ref 218),Hd.de P "set_beside" 458 (.ref 223),Hd.de P "LETTERS" 462 (.str (zu 15) 461),Hd.de P "LONGEST_NAME" 464 (.int 6 463),Hd.de P "is_name" 470 (.ref 228),Hd.de P (zu 30) 477 (.ref 235),Hd.de P "Atlas" 633 (.ref 350),Hd.de P (zu 31) 643 (.ref 361),Hd.de P (zu 14) 653 (.ref 368),Hd.de P (zu 13) 662 (.ref 375),Hd.de P (zu 11) 670 (.ref 382),Hd.de P "law" 685 (.ref 389)] 45}),
 (4,{cls:=.type "module",dict:=hT builtinsNs,data:=.plain}),
 (30,{cls:=.type "dict",data:=.dict #[Hd.de P (zu 19) 203 (.str (zu 12) 194),Hd.de P (zu 9) 207 (.int 5 206),Hd.de P (zu 3) 208 (.ref 29),Hd.de P "__weakref__" 210 (.ref 32),Hd.de P (zu 35) 211 (.none)] 3}),
 (31,{cls:=.type "type",data:=.cls {name:=(zu 7),bases:=[.type (zu 1)],mro:=[.ref 31,.type (zu 1),.type (zu 25),.type (zu 6),.type (zu 33)],ns:=30,qualname:=(zu 7),subclasses:=[.ref 44,.ref 56,.ref 68,.ref 80,.ref 92,.ref 104,.ref 116,.ref 128,.ref 140]},slots:=#[hT (.ref 22),ie,hT (.str (zu 7) 196),hT (.str (zu 7) 204),hT (.builtin (zu 2)),hT (.bool Bool.true)]}),
 (43,{cls:=.type "dict",data:=.dict #[Hd.de P (zu 19) 221 (.str (zu 12) 194),Hd.de P (zu 9) 225 (.int 7 224),Hd.de P (zu 3) 226 (.ref 42),Hd.de P (zu 35) 227 (.none)] 2}),
 (44,{cls:=.type "type",data:=.cls {name:="NoSpot",bases:=[.ref 31],mro:=[.ref 44,.ref 31,.type (zu 1),.type (zu 25),.type (zu 6),.type (zu 33)],ns:=43,qualname:="NoSpot"},slots:=#[hT (.ref 35),ie,hT (.str "NoSpot" 214),hT (.str "NoSpot" 222),hT (.builtin (zu 2)),hT (.bool Bool.true)]}),
 (55,{cls:=.type "dict",data:=.dict #[Hd.de P (zu 19) 237 (.str (zu 12) 194),Hd.de P (zu 9) 241 (.int 9 240),Hd.de P (zu 3) 242 (.ref 54),Hd.de P (zu 35) 243 (.none)] 2}),
 (56,{cls:=.type "type",data:=.cls {name:="NoWay",bases:=[.ref 31],mro:=[.ref 56,.ref 31,.type (zu 1),.type (zu 25),.type (zu 6),.type (zu 33)],ns:=55,qualname:="NoWay"},slots:=#[hT (.ref 47),ie,hT (.str "NoWay" 230),hT (.str "NoWay" 238),hT (.builtin (zu 2)),hT (.bool Bool.true)]}),
 (67,{cls:=.type "dict",data:=.dict #[Hd.de P (zu 19) 253 (.str (zu 12) 194),Hd.de P (zu 9) 257 (.int 11 256),Hd.de P (zu 3) 258 (.ref 66),Hd.de P (zu 35) 259 (.none)] 2}),
 (68,{cls:=.type "type",data:=.cls {name:="NoSign",bases:=[.ref 31],mro:=[.ref 68,.ref 31,.type (zu 1),.type (zu 25),.type (zu 6),.type (zu 33)],ns:=67,qualname:="NoSign"},slots:=#[hT (.ref 59),ie,hT (.str "NoSign" 246),hT (.str "NoSign" 254),hT (.builtin (zu 2)),hT (.bool Bool.true)]}),
 (79,{cls:=.type "dict",data:=.dict #[Hd.de P (zu 19) 269 (.str (zu 12) 194),Hd.de P (zu 9) 273 (.int 13 272),Hd.de P (zu 3) 274 (.ref 78),Hd.de P (zu 35) 275 (.none)] 2}),
 (80,{cls:=.type "type",data:=.cls {name:="NoSize",bases:=[.ref 31],mro:=[.ref 80,.ref 31,.type (zu 1),.type (zu 25),.type (zu 6),.type (zu 33)],ns:=79,qualname:="NoSize"},slots:=#[hT (.ref 71),ie,hT (.str "NoSize" 262),hT (.str "NoSize" 270),hT (.builtin (zu 2)),hT (.bool Bool.true)]}),
 (91,{cls:=.type "dict",data:=.dict #[Hd.de P (zu 19) 285 (.str (zu 12) 194),Hd.de P (zu 9) 289 (.int 15 288),Hd.de P (zu 3) 290 (.ref 90),Hd.de P (zu 35) 291 (.none)] 2}),
 (92,{cls:=.type "type",data:=.cls {name:="NoText",bases:=[.ref 31],mro:=[.ref 92,.ref 31,.type (zu 1),.type (zu 25),.type (zu 6),.type (zu 33)],ns:=91,qualname:="NoText"},slots:=#[hT (.ref 83),ie,hT (.str "NoText" 278),hT (.str "NoText" 286),hT (.builtin (zu 2)),hT (.bool Bool.true)]}),
 (103,{cls:=.type "dict",data:=.dict #[Hd.de P (zu 19) 301 (.str (zu 12) 194),Hd.de P (zu 9) 305 (.int 17 304),Hd.de P (zu 3) 306 (.ref 102),Hd.de P (zu 35) 307 (.none)] 2}),
 (104,{cls:=.type "type",data:=.cls {name:=(zu 36),bases:=[.ref 31],mro:=[.ref 104,.ref 31,.type (zu 1),.type (zu 25),.type (zu 6),.type (zu 33)],ns:=103,qualname:=(zu 36)},slots:=#[hT (.ref 95),ie,hT (.str (zu 36) 294),hT (.str (zu 36) 302),hT (.builtin (zu 2)),hT (.bool Bool.true)]}),
 (115,{cls:=.type "dict",data:=.dict #[Hd.de P (zu 19) 317 (.str (zu 12) 194),Hd.de P (zu 9) 321 (.int 19 320),Hd.de P (zu 3) 322 (.ref 114),Hd.de P (zu 35) 323 (.none)] 2}),
 (116,{cls:=.type "type",data:=.cls {name:="NoName",bases:=[.ref 31],mro:=[.ref 116,.ref 31,.type (zu 1),.type (zu 25),.type (zu 6),.type (zu 33)],ns:=115,qualname:="NoName"},slots:=#[hT (.ref 107),ie,hT (.str "NoName" 310),hT (.str "NoName" 318),hT (.builtin (zu 2)),hT (.bool Bool.true)]}),
 (127,{cls:=.type "dict",data:=.dict #[Hd.de P (zu 19) 333 (.str (zu 12) 194),Hd.de P (zu 9) 337 (.int 21 336),Hd.de P (zu 3) 338 (.ref 126),Hd.de P (zu 35) 339 (.none)] 2}),
 (128,{cls:=.type "type",data:=.cls {name:="NoFit",bases:=[.ref 31],mro:=[.ref 128,.ref 31,.type (zu 1),.type (zu 25),.type (zu 6),.type (zu 33)],ns:=127,qualname:="NoFit"},slots:=#[hT (.ref 119),ie,hT (.str "NoFit" 326),hT (.str "NoFit" 334),hT (.builtin (zu 2)),hT (.bool Bool.true)]}),
 (139,{cls:=.type "dict",data:=.dict #[Hd.de P (zu 19) 349 (.str (zu 12) 194),Hd.de P (zu 9) 353 (.int 23 352),Hd.de P (zu 3) 354 (.ref 138),Hd.de P (zu 35) 355 (.none)] 2}),
 (140,{cls:=.type "type",data:=.cls {name:="NoBack",bases:=[.ref 31],mro:=[.ref 140,.ref 31,.type (zu 1),.type (zu 25),.type (zu 6),.type (zu 33)],ns:=139,qualname:="NoBack"},slots:=#[hT (.ref 131),ie,hT (.str "NoBack" 342),hT (.str "NoBack" 350),hT (.builtin (zu 2)),hT (.bool Bool.true)]}),
 zx5 148 "is_whole" 364 28 1 143 368,
 zx3 149 "is_whole" 15 m1,
 zx5 155 "is_sign" 371 30 1 150 375,
 zx3 156 "is_sign" 16 m1,
 (160,Hd.co "is_row" 378 32 1 157 .none .none 159 381),
 zx3 161 "is_row" 17 m1,
 (165,Hd.co "is_floor" 384 36 1 162 .none .none 164 387),
 zx3 166 "is_floor" 18 m1,
 zx5 172 "is_spot" 390 42 1 167 394,
 zx3 173 "is_spot" 19 m1,
 zx5 179 (zu 32) 397 44 2 174 402,
 zx3 180 (zu 32) 20 m1,
 zx5 186 (zu 26) 405 46 2 181 410,
 zx3 187 (zu 26) 21 m1,
 zx5 193 "need_sign" 413 49 1 188 417,
 zx3 194 "need_sign" 22 m1,
 zx5 200 "with_sign" 420 52 3 195 428,
 zx3 201 "with_sign" 23 m1,
 (205,Hd.co (zu 29) 433 57 1 202 .none .none 204 436),
 zx3 206 (zu 29) 25 m2,
 (210,Hd.co (zu 21) 439 63 1 207 .none .none 209 442),
 zx3 211 (zu 21) 26 m2,
 zx5 217 "set_below" 445 65 2 212 450,
 zx3 218 "set_below" 27 m2,
 (222,Hd.co "set_beside" 453 71 2 219 .none .none 221 456),
 zx3 223 "set_beside" 28 m2,
 (227,Hd.co "is_name" 465 80 1 224 .none .none 226 468),
 zx3 228 "is_name" 32 m3,
 zx5 234 (zu 30) 471 84 1 229 475,
 zx3 235 (zu 30) 33 m3,
 (248,{cls:=.type "code",data:=.fields #[.str (zu 10) 490,.str (zu 38) 491,.str (zu 0) 492,.int 89 0,.int 1 0,.int 0 0,.int 0 0,.int 3 0,.ref 243,.bool Bool.true,.int 181 0,.ref 244,.none,.ref 245,.ref 246,.ref 247,.int 494 0,.int 89 0,.str (zu 0) 495]}),
 (249,Hd.fm (zu 10) (zu 38) (dB 34 0) m3 248),
 (255,{cls:=.type "code",data:=.fields #[.str "give" 497,.str "Atlas.give" 498,.str (zu 0) 499,.int 94 0,.int 3 0,.int 0 0,.int 0 0,.int 3 0,.ref 250,.bool Bool.true,.int 181 0,.ref 251,.none,.ref 252,.ref 253,.ref 254,.int 503 0,.int 94 0,.str (zu 0) 504]}),
 (256,Hd.fm "give" "Atlas.give" (dB 34 1) m3 255),
 (262,{cls:=.type "code",data:=.fields #[.str "step" 506,.str "Atlas.step" 507,.str (zu 0) 508,.int 100 0,.int 4 0,.int 0 0,.int 0 0,.int 3 0,.ref 257,.bool Bool.true,.int 181 0,.ref 258,.none,.ref 259,.ref 260,.ref 261,.int 513 0,.int 100 0,.str (zu 0) 514]}),
 (263,Hd.fm "step" "Atlas.step" (dB 34 2) m3 262),
 (269,{cls:=.type "code",data:=.fields #[.str "lay" 516,.str "Atlas.lay" 517,.str (zu 0) 518,.int 105 0,.int 3 0,.int 0 0,.int 0 0,.int 3 0,.ref 264,.bool Bool.true,.int 181 0,.ref 265,.none,.ref 266,.ref 267,.ref 268,.int 523 0,.int 105 0,.str (zu 0) 524]}),
 (270,Hd.fm "lay" "Atlas.lay" (dB 34 3) m3 269),
 (276,{cls:=.type "code",data:=.fields #[.str (zu 24) 526,.str (zu 37) 527,.str (zu 0) 528,.int 113 0,.int 2 0,.int 0 0,.int 0 0,.int 3 0,.ref 271,.bool Bool.true,.int 181 0,.ref 272,.none,.ref 273,.ref 274,.ref 275,.int 531 0,.int 113 0,.str (zu 0) 532]}),
 (277,Hd.fm (zu 24) (zu 37) (dB 34 4) m3 276),
 (283,{cls:=.type "code",data:=.fields #[.str "take" 534,.str "Atlas.take" 535,.str (zu 0) 536,.int 119 0,.int 2 0,.int 0 0,.int 0 0,.int 3 0,.ref 278,.bool Bool.true,.int 181 0,.ref 279,.none,.ref 280,.ref 281,.ref 282,.int 540 0,.int 119 0,.str (zu 0) 541]}),
 (284,Hd.fm "take" "Atlas.take" (dB 34 5) m3 283),
 (290,{cls:=.type "code",data:=.fields #[.str "join" 543,.str "Atlas.join" 544,.str (zu 0) 545,.int 124 0,.int 5 0,.int 0 0,.int 0 0,.int 3 0,.ref 285,.bool Bool.true,.int 181 0,.ref 286,.none,.ref 287,.ref 288,.ref 289,.int 554 0,.int 124 0,.str (zu 0) 555]}),
 (291,Hd.fm "join" "Atlas.join" (dB 34 6) m3 290),
 (297,{cls:=.type "code",data:=.fields #[.str "turn" 557,.str "Atlas.turn" 558,.str (zu 0) 559,.int 132 0,.int 2 0,.int 0 0,.int 0 0,.int 3 0,.ref 292,.bool Bool.true,.int 181 0,.ref 293,.none,.ref 294,.ref 295,.ref 296,.int 563 0,.int 132 0,.str (zu 0) 564]}),
 (298,Hd.fm "turn" "Atlas.turn" (dB 34 7) m3 297),
 (304,{cls:=.type "code",data:=.fields #[.str "mirror" 566,.str "Atlas.mirror" 567,.str (zu 0) 568,.int 137 0,.int 2 0,.int 0 0,.int 0 0,.int 3 0,.ref 299,.bool Bool.true,.int 181 0,.ref 300,.none,.ref 301,.ref 302,.ref 303,.int 572 0,.int 137 0,.str (zu 0) 573]}),
 (305,Hd.fm "mirror" "Atlas.mirror" (dB 34 8) m3 304),
 (311,{cls:=.type "code",data:=.fields #[.str "sign" 575,.str "Atlas.sign" 576,.str (zu 0) 577,.int 142 0,.int 4 0,.int 0 0,.int 0 0,.int 3 0,.ref 306,.bool Bool.true,.int 181 0,.ref 307,.none,.ref 308,.ref 309,.ref 310,.int 583 0,.int 142 0,.str (zu 0) 584]}),
 (312,Hd.fm "sign" "Atlas.sign" (dB 34 9) m3 311),
 (318,{cls:=.type "code",data:=.fields #[.str "names" 586,.str "Atlas.names" 587,.str (zu 0) 588,.int 149 0,.int 1 0,.int 0 0,.int 0 0,.int 3 0,.ref 313,.bool Bool.true,.int 181 0,.ref 314,.none,.ref 315,.ref 316,.ref 317,.int 590 0,.int 149 0,.str (zu 0) 591]}),
 (319,Hd.fm "names" "Atlas.names" (dB 34 10) m3 318),
 (325,{cls:=.type "code",data:=.fields #[.str "back" 593,.str "Atlas.back" 594,.str (zu 0) 595,.int 152 0,.int 1 0,.int 0 0,.int 0 0,.int 3 0,.ref 320,.bool Bool.true,.int 181 0,.ref 321,.none,.ref 322,.ref 323,.ref 324,.int 598 0,.int 152 0,.str (zu 0) 599]}),
 (326,Hd.fm "back" "Atlas.back" (dB 34 11) m3 325),
 (332,{cls:=.type "code",data:=.fields #[.str "forth" 601,.str "Atlas.forth" 602,.str (zu 0) 603,.int 160 0,.int 1 0,.int 0 0,.int 0 0,.int 3 0,.ref 327,.bool Bool.true,.int 181 0,.ref 328,.none,.ref 329,.ref 330,.ref 331,.int 606 0,.int 160 0,.str (zu 0) 607]}),
 (333,Hd.fm "forth" "Atlas.forth" (dB 34 12) m3 332),
 (339,{cls:=.type "code",data:=.fields #[.str "marks" 609,.str "Atlas.marks" 610,.str (zu 0) 611,.int 168 0,.int 1 0,.int 0 0,.int 0 0,.int 3 0,.ref 334,.bool Bool.true,.int 181 0,.ref 335,.none,.ref 336,.ref 337,.ref 338,.int 613 0,.int 168 0,.str (zu 0) 614]}),
 (340,Hd.fm "marks" "Atlas.marks" (dB 34 13) m3 339),
 (349,{cls:=.type "dict",data:=.dict #[Hd.de P (zu 19) 485 (.str "cellways.atlases" 459),Hd.de P (zu 9) 489 (.int 87 488),Hd.de P (zu 10) 496 (.ref 249),Hd.de P "give" 505 (.ref 256),Hd.de P "step" 515 (.ref 263),Hd.de P "lay" 525 (.ref 270),Hd.de P (zu 24) 533 (.ref 277),Hd.de P "take" 542 (.ref 284),Hd.de P "join" 556 (.ref 291),Hd.de P "turn" 565 (.ref 298),Hd.de P "mirror" 574 (.ref 305),Hd.de P "sign" 585 (.ref 312),Hd.de P "names" 592 (.ref 319),Hd.de P "back" 600 (.ref 326),Hd.de P "forth" 608 (.ref 333),Hd.de P "marks" 615 (.ref 340),Hd.de P "twin" 622 (.ref 347),Hd.de P (zu 3) 626 (.ref 348),Hd.de P "__dict__" 628 (.ref 351),Hd.de P "__weakref__" 630 (.ref 352),Hd.de P (zu 35) 631 (.none)] 4}),
 (350,{cls:=.type "type",data:=.cls {name:="Atlas",bases:=[.type (zu 33)],mro:=[.ref 350,.type (zu 33)],ns:=349,qualname:="Atlas"},slots:=#[ie,ie,hT (.str "Atlas" 478),hT (.str "Atlas" 486),hT (.builtin "object.__new__"),hT (.bool Bool.true)]}),
 zx5 360 (zu 31) 636 174 2 355 641,
 zx3 361 (zu 31) 36 m4,
 zx5 367 (zu 14) 644 180 3 362 651,
 zx3 368 (zu 14) 37 m4,
 zx5 374 (zu 13) 654 183 1 369 660,
 zx3 375 (zu 13) 38 m4,
 zx5 381 (zu 11) 663 191 1 376 668,
 zx3 382 (zu 11) 39 m4,
 zx5 388 "law" 671 196 1 383 683,
 zx3 389 "law" 40 m4]
abbrev ts:List (iN×Str):=[(384,iT "law")]
abbrev K2(P:Params):zz8:=K P++[(384,PySem.W.tabObj #[])]
abbrev as:List Addr:=[2,3,4,30,31,43,44,55,56,67,68,79,80,91,92,103,104,115,116,127,128,139,140,148,149,155,156,160,161,165,166,172,173,179,180,186,187,193,194,200,201,205,206,210,211,217,218,222,223,227,228,234,235,248,249,255,256,262,263,269,270,276,277,283,284,290,291,297,298,304,305,311,312,318,319,325,326,332,333,339,340,349,350,360,361,367,368,374,375,381,382,388,389,384]
abbrev Γ:Pg:={[("SIGNS",(.str "#0123456789")),("LONGEST",(.int 12)),("LETTERS",(.str (zu 15))),("LONGEST_NAME",(.int 6))],["len","int","str","list","tuple","all",zu 17,"bool","range","zip",zu 1,"sorted",zu 8],[zu 7,"NoBack","NoFit",zu 36,"NoName","NoSign","NoSize","NoSpot","NoText","NoWay"],[],["NoBack","NoFit",zu 36,"NoName","NoSign","NoSpot"],[],iv,iv,[]}
def R0:fT:=[]
def oR:dH (Γ.at R0 iv) (zu 13) fF (top 38):=stM λZ Z Z Z Z Z=>Hd.rO λZ=>rfl
abbrev R1:fT:=zx2 (zu 13) fF 38 iv::R0
def uE:dH (Γ.at R1 iv) "is_whole" iI (top 15):=stM λZ Z Z Z Z Z=>Hd.rO λZ=>rfl
abbrev R2:fT:=zx2 "is_whole" iI 15 iv::R1
def wc:dH (Γ.at R2 iv) "is_name" kC (top 32):=stM λZ Z Z Z Z Z=>Hd.rO λZ=>rfl
abbrev R3:fT:=zx2 "is_name" kC 32 iv::R2
def rH:dH (Γ.at R3 iv) (zu 30) gu (top 33):=stM λZ Z Z Z Z Z=>Hd.rO λZ=>rfl
abbrev R4:fT:=zx2 (zu 30) gu 33 iv::R3
def lP:dH (Γ.at R4 iv) (zu 29) dQ (top 25):=stM λZ Z Z Z Z Z=>Hd.rO λZ=>rfl
abbrev R5:fT:=zx2 (zu 29) dQ 25 iv::R4
def ke:dH (Γ.at R5 iv) (zu 21) c8 (top 26):=stM λZ Z Z Z Z Z=>Hd.rO λZ=>rfl
abbrev R6:fT:=zx2 (zu 21) c8 26 iv::R5
def wg:dH (Γ.at R6 iv) "is_spot" kE (top 19):=stM λZ Z Z Z Z Z=>Hd.rO λZ=>rfl
abbrev R7:fT:=zx2 "is_spot" kE 19 iv::R6
def nW:dH (Γ.at R7 iv) (zu 32) eM (top 20):=stM λZ Z Z Z Z Z=>Hd.Eb λZ Z=>rfl
abbrev R8:fT:=zx2 (zu 32) eM 20 iv::R7
def kN:dH (Γ.at R8 iv) (zu 26) dA (top 21):=stM λZ Z Z Z Z Z=>Hd.Eb λZ Z=>rfl
abbrev R9:fT:=zx2 (zu 26) dA 21 iv::R8
def wd:dH (Γ.at R9 iv) "is_sign" kD (top 16):=stM λZ Z Z Z Z Z=>Hd.rO λZ=>rfl
abbrev RW:fT:=zx2 "is_sign" kD 16 iv::R9
def rJ:dH (Γ.at RW iv) "need_sign" gv (top 22):=stM λZ Z Z Z Z Z=>Hd.rO λZ=>rfl
abbrev RX:fT:=zx2 "need_sign" gv 22 iv::RW
def zS:dH (Γ.at RX iv) "is_row" mJ (top 17):=stM λZ Z Z Z Z Z=>Hd.rO λZ=>rfl
abbrev RY:fT:=zx2 "is_row" mJ 17 iv::RX
def uD:dH (Γ.at RY iv) "is_floor" iH (top 18):=stM λZ Z Z Z Z Z=>Hd.rO λZ=>rfl
abbrev RZ:fT:=zx2 "is_floor" iH 18 iv::RY
def oS:dH (Γ.at RZ iv) "set_beside" fG (top 28):=stM λZ Z Z Z Z Z=>Hd.Eb λZ Z=>rfl
abbrev Sa:fT:=zx2 "set_beside" fG 28 iv::RZ
def rK:dH (Γ.at Sa iv) "set_below" gy (top 27):=stM λZ Z Z Z Z Z=>Hd.Eb λZ Z=>rfl
abbrev Sb:fT:=zx2 "set_below" gy 27 iv::Sa
def rL:dH (Γ.at Sb iv) "with_sign" gz (top 23):=stM λZ Z Z Z Z Z=>Hd.Oy λZ Z Z=>rfl
abbrev Sd:fT:=zx2 "with_sign" gz 23 iv::Sb
def rD:dH (Γ.at Sd iv) (zu 31) cH (top 36):=stM λZ Z Z Z Z Z=>Hd.Eb λZ Z=>rfl
abbrev Se:fT:=zx2 (zu 31) cH 36 iv::Sd
def rF:dH (Γ.at Se iv) (zu 14) cI (top 37):=stM λZ Z Z Z Z Z=>Hd.Oy λZ Z Z=>rfl
abbrev om:fT:=zx2 (zu 14) cI 37 iv::Se
abbrev mS:List (Str×Str):=[("Atlas","floors"),("Atlas","done"),("Atlas","undone")]
def Q0:dk:=[]
theorem kb:cw {Γ.at om iv with hl:=iv} (bK mS Q0) (zu 10) (zu 38) cY (dB 34 0):=i5 λZ Z Z Z Z Z=>Hd.rO λZ=>rfl
abbrev Q1:dk:={zu 38,(hT "Atlas"),zu 10,cY,dB 34 0,iv,ie}::Q0
theorem oK:cw {Γ.at om iv with hl:=iv} (bK mS Q1) "give" "Atlas.give" fz (dB 34 1):=i5 λZ Z Z Z Z Z=>Hd.Oy λZ Z Z=>rfl
abbrev Q2:dk:={"Atlas.give",(hT "Atlas"),"give",fz,dB 34 1,iv,ie}::Q1
theorem oO:cw {Γ.at om iv with hl:=iv} (bK mS Q2) "step" "Atlas.step" fC (dB 34 2):=i5 λZ Z Z Z Z Z=>Hd.Sk λZ Z Z Z=>rfl
abbrev Q3:dk:={"Atlas.step",(hT "Atlas"),"step",fC,dB 34 2,iv,ie}::Q2
theorem rC:cw {Γ.at om iv with hl:=iv} (bK mS Q3) "lay" "Atlas.lay" gq (dB 34 3):=i5 λZ Z Z Z Z Z=>Hd.Oy λZ Z Z=>rfl
abbrev Q4:dk:={"Atlas.lay",(hT "Atlas"),"lay",gq,dB 34 3,iv,ie}::Q3
theorem kc:cw {Γ.at om iv with hl:=iv} (bK mS Q4) (zu 24) (zu 37) cZ (dB 34 4):=i5 λZ Z Z Z Z Z=>Hd.Eb λZ Z=>rfl
abbrev Q5:dk:={zu 37,(hT "Atlas"),zu 24,cZ,dB 34 4,iv,ie}::Q4
theorem oQ:cw {Γ.at om iv with hl:=iv} (bK mS Q5) "turn" "Atlas.turn" fE (dB 34 7):=i5 λZ Z Z Z Z Z=>Hd.Eb λZ Z=>rfl
abbrev Q6:dk:={"Atlas.turn",(hT "Atlas"),"turn",fE,dB 34 7,iv,ie}::Q5
theorem oJ:cw {Γ.at om iv with hl:=iv} (bK mS Q6) "back" "Atlas.back" fy (dB 34 11):=i5 λZ Z Z Z Z Z=>Hd.rO λZ=>rfl
abbrev Q7:dk:={"Atlas.back",(hT "Atlas"),"back",fy,dB 34 11,iv,ie}::Q6
theorem nV:cw {Γ.at om iv with hl:=iv} (bK mS Q7) "names" "Atlas.names" eL (dB 34 10):=i5 λZ Z Z Z Z Z=>Hd.rO λZ=>rfl
abbrev Q8:dk:={"Atlas.names",(hT "Atlas"),"names",eL,dB 34 10,iv,ie}::Q7
theorem nU:cw {Γ.at om iv with hl:=iv} (bK mS Q8) "marks" "Atlas.marks" eK (dB 34 13):=i5 λZ Z Z Z Z Z=>Hd.rO λZ=>rfl
abbrev Q9:dk:={"Atlas.marks",(hT "Atlas"),"marks",eK,dB 34 13,iv,ie}::Q8
theorem nT:cw {Γ.at om iv with hl:=iv} (bK mS Q9) "forth" "Atlas.forth" eJ (dB 34 12):=i5 λZ Z Z Z Z Z=>Hd.rO λZ=>rfl
abbrev RS:dk:={"Atlas.forth",(hT "Atlas"),"forth",eJ,dB 34 12,iv,ie}::Q9
theorem oN:cw {Γ.at om iv with hl:=iv} (bK mS RS) "sign" "Atlas.sign" fB (dB 34 9):=i5 λZ Z Z Z Z Z=>Hd.Sk λZ Z Z Z=>rfl
abbrev RT:dk:={"Atlas.sign",(hT "Atlas"),"sign",fB,dB 34 9,iv,ie}::RS
theorem oM:cw {Γ.at om iv with hl:=iv} (bK mS RT) "join" "Atlas.join" fA (dB 34 6):=i5 λZ Z Z Z Z Z=>Hd.UE λZ Z Z Z Z=>rfl
abbrev RU:dk:={"Atlas.join",(hT "Atlas"),"join",fA,dB 34 6,iv,ie}::RT
theorem oP:cw {Γ.at om iv with hl:=iv} (bK mS RU) "take" "Atlas.take" fD (dB 34 5):=i5 λZ Z Z Z Z Z=>Hd.Eb λZ Z=>rfl
abbrev RV:dk:={"Atlas.take",(hT "Atlas"),"take",fD,dB 34 5,iv,ie}::RU
theorem lN:cw {Γ.at om iv with hl:=iv} (bK mS RV) "mirror" "Atlas.mirror" dP (dB 34 8):=i5 λZ Z Z Z Z Z=>Hd.Eb λZ Z=>rfl
abbrev Ue:dk:={"Atlas.mirror",(hT "Atlas"),"mirror",dP,dB 34 8,iv,ie}::RV
abbrev lr:eF:={zu 11,ie,zu 11,kU,top 39,iv,hT ("_law_deed","e")}
def rG:Pk (Γ.at om iv) lr ("_law_deed","e"):={{{rfl,rfl,rfl,by decide+kernel,rfl,by decide+kernel,by decide+kernel},λZ Z Z Z Z Z=>Hd.rO λZ=>rfl,{_,_,_,_,_,_,_,_,_,_,rfl},by decide+kernel,by decide+kernel,by decide+kernel,by decide+kernel,by decide+kernel,by decide+kernel},by decide+kernel,by decide+kernel,rfl,rfl,by decide+kernel}
abbrev Lu:dk:=lr::Ue
theorem Lb:cw {Γ.at om iv with hl:=ig} (bK mS Lu) "law" "law" kW (top 40):=i5 λZ Z Z Z Z Z=>Hd.rO λZ=>rfl
def AK(P:Params):eg (K P) 388 384:={Hd.co "law" 671 196 1 383 (.ref 385) (.ref 386) 387 683,_,_,_,_,_,_,_,_,by kernel_rfl,rfl,rfl,rfl,rfl,rfl,rfl,rfl,rfl,by decide}
def M7(ns:List Int)(hl:ns.length<=63):∃s,nM (Iq om) (eX (Iq om) (gS Lu)) kW [.lst (ns.map .int)] []=.ok (.bl ig) s:=M6 ns hl
def Pr(P:Params):AllK (K P) ts Γ om:=
 Hd.ac (Hd.ent 368 367 m4) rF <| Hd.ac (Hd.ent 361 360 m4) rD <| Hd.ac (Hd.ent 201 200 m1) rL <| Hd.ac (Hd.ent 218 217 m2) rK <| Hd.ac (Hd.ent 223 222 m2) oS <| Hd.ac (Hd.ent 166 165 m1) uD <| Hd.ac (Hd.ent 161 160 m1) zS <| Hd.ac (Hd.ent 194 193 m1) rJ <| Hd.ac (Hd.ent 156 155 m1) wd <| Hd.ac (Hd.ent 187 186 m1) kN <| Hd.ac (Hd.ent 180 179 m1) nW <| Hd.ac (Hd.ent 173 172 m1) wg <| Hd.ac (Hd.ent 211 210 m2) ke <| Hd.ac (Hd.ent 206 205 m2) lP <| Hd.ac (Hd.ent 235 234 m3) rH <| Hd.ac (Hd.ent 228 227 m3) wc <| Hd.ac (Hd.ent 149 148 m1) uE <| Hd.ac (Hd.ent 375 374 m4) oR trivial
def bM(P:Params):PySem.W.nsIn (K P) kd "Atlas"=hT (hT (.ref 350)):=by kernel_rfl
def Md(P:Params):mr (K P) ts (Γ.at om iv) mS Lu:=
 Hd.a2 (Hd.UL 382 381 m4) rG <| Hd.a2 (Hd.wZ 350 305 304 m3 (bM P)) lN <| Hd.a2 (Hd.wZ 350 284 283 m3 (bM P)) oP <| Hd.a2 (Hd.wZ 350 291 290 m3 (bM P)) oM <| Hd.a2 (Hd.wZ 350 312 311 m3 (bM P)) oN <| Hd.a2 (Hd.wZ 350 333 332 m3 (bM P)) nT <| Hd.a2 (Hd.wZ 350 340 339 m3 (bM P)) nU <| Hd.a2 (Hd.wZ 350 319 318 m3 (bM P)) nV <| Hd.a2 (Hd.wZ 350 326 325 m3 (bM P)) oJ <| Hd.a2 (Hd.wZ 350 298 297 m3 (bM P)) oQ <| Hd.a2 (Hd.wZ 350 277 276 m3 (bM P)) kc <| Hd.a2 (Hd.wZ 350 270 269 m3 (bM P)) rC <| Hd.a2 (Hd.wZ 350 263 262 m3 (bM P)) oO <| Hd.a2 (Hd.wZ 350 256 255 m3 (bM P)) oK <| Hd.a2 (Hd.wZ 350 249 248 m3 (bM P)) kb trivial
def mG(P:Params):uQ (K P) mS "Atlas":={350,bM P,{by kernel_rfl,by kernel_rfl,by kernel_rfl,by kernel_rfl},by kernel_rfl,by kernel_rfl,λf a=>by
 have:f="floors"\/f="done"\/f="undone":=by simpa [mS] using a
 rcases this with rfl|rfl|rfl
 .show PySem.W.findIn (K P) (.ref 350) "floors"=hT ie;kernel_rfl
 .show PySem.W.findIn (K P) (.ref 350) "done"=hT ie;kernel_rfl
 .show PySem.W.findIn (K P) (.ref 350) "undone"=hT ie;kernel_rfl}
def MU(P:Params):∀c f,mS.contains (c,f)=ig->uQ (K P) mS c:=λc f h=>by
 have:c="Atlas":=by
  simp [mS] at h
  first|exact h.1|(rcases h with h|h|h<;>simp [h])
 rcases this with rfl
 .exact mG P
def lX(P:Params):∀r∈Lu,∀c,r.c=hT c->uQ (K P) mS c:=λr h c e=>by
 have:(Lu.all λr=>match r.c with|some c=>[("Atlas":Str)].contains c|none=>ig)=ig:=by decide+kernel
 have:=cP.1 this r h
 rw [e] at this;simp! [eu,el,List.not_mem_nil,or_false] at this;rcases this with rfl
 .exact mG P
structure uP(K:zz8)(d:Str)(D:iN):Prop where
 e:PySem.W.nsIn K kd d=hT (hT (.ref D))
 xc:mw K D
 vt:PySem.W.kitOne K (.ref D) (.type (zu 1))=hT ig
 ex:PySem.W.excIn K D AZ (zu 2)=ig
def yx{K:zz8}{d:Str}{D:iN}(e:PySem.W.nsIn K kd d=hT (hT (.ref D)):=by kernel_rfl)(i:PySem.W.isClsIn K D=ig:=by kernel_rfl)(v:PySem.W.subIn K (.ref D) (.type (zu 1))=hT ig:=by kernel_rfl)(ga:PySem.W.findIn K (.ref D) "__getattribute__"=hT (hT (.builtin (zu 4))):=by kernel_rfl)(hk:PySem.W.findIn K (.ref D) "__getattr__"=hT ie:=by kernel_rfl)
 (cl:PySem.W.findIn K (.ref D) "__class__"=hT (hT (.builtin (zu 22))):=by kernel_rfl) (mo:PySem.W.mroIn K D (.type (zu 33))=hT ig:=by kernel_rfl) (mb:PySem.W.mroIn K D (.type (zu 6))=hT ig:=by kernel_rfl) (ex:PySem.W.excIn K D AZ (zu 2)=ig:=by kernel_rfl):uP K d D:=
 {e,⟨ga,hk,cl,mo,mb,i⟩,BN (by decide+kernel) v,ex}
def QR(P:Params)(X:(K P).In h)(G:h.Ns kd mg)(ob:List Ob):lC (K P) mg Γ {K P,mg,["NoBack","NoFit",zu 36,"NoName","NoSign","NoSpot"],ts,ob}:=by
 have b:∀{x:Str} {u:ix},PySem.W.nsIn (K P) kd x=hT (hT u)->mg x=hT u:=λa=>PySem.W.mg_of X G a;have j:∀{x:Str},PySem.W.nsIn (K P) kd x=hT ie->mg x=ie:=λa=>PySem.W.mg_none_of X G a;have k:uP (K P) "NoBack" 140:=yx;have m:uP (K P) "NoFit" 128:=yx;have o:uP (K P) (zu 36) 104:=yx;have p:uP (K P) "NoName" 116:=yx;have r:uP (K P) "NoSign" 68:=yx;have t:uP (K P) "NoSpot" 44:=yx;have y:PySem.W.nsIn (K P) kd (zu 7)=hT (hT (.ref 31)):=by kernel_rfl
 have z:PySem.W.nsIn (K P) kd "NoSize"=hT (hT (.ref 80)):=by kernel_rfl
 have A:PySem.W.nsIn (K P) kd "NoText"=hT (hT (.ref 92)):=by kernel_rfl
 have B:PySem.W.nsIn (K P) kd "NoWay"=hT (hT (.ref 56)):=by kernel_rfl
 refine{rfl,rfl,λq E=>?_,λg F=>?_,by decide+kernel,λc f=>?_,λd hd D w=>?_,λc f=>?_,λc f=>?_,λZ c D f w T H=>?_,λZ=>{4,{.type "module",hT builtinsNs,.plain,#[]},b (by kernel_rfl),by decide,by decide,by kernel_rfl,rfl,rfl,rfl}}
 .simp! [Γ,el,List.not_mem_nil,or_false] at E;rcases E with rfl|rfl|rfl|rfl
  .exact{.str "#0123456789" 360,.str "#0123456789",b (by kernel_rfl),{_,rfl},λG=>.s}
  .exact{.int 12 362,.int 12,b (by kernel_rfl),{_,rfl},λG=>.i}
  .exact{.str (zu 15) 461,.str (zu 15),b (by kernel_rfl),{_,rfl},λG=>.s}
  .exact{.int 6 463,.int 6,b (by kernel_rfl),{_,rfl},λG=>.i}
 .simp! [Γ,el,List.not_mem_nil,or_false] at F;rcases F with rfl|rfl|rfl|rfl|rfl|rfl|rfl|rfl|rfl|rfl|rfl|rfl|rfl<;>exact j (by kernel_rfl)
 .simp! [Γ,el,List.not_mem_nil,or_false] at f;rcases f with rfl|rfl|rfl|rfl|rfl|rfl|rfl|rfl|rfl|rfl
  .exact{_,b y}
  .exact{_,b k.e}
  .exact{_,b m.e}
  .exact{_,b o.e}
  .exact{_,b p.e}
  .exact{_,b r.e}
  .exact{_,b z}
  .exact{_,b t.e}
  .exact{_,b A}
  .exact{_,b B}
 .simp! [el,List.not_mem_nil,or_false] at hd;rcases hd with rfl|rfl|rfl|rfl|rfl|rfl
  .cases(b k.e).symm.trans w;refine{k.xc,λc f C hC=>?_,k.vt}
   simp! [Γ,el,List.not_mem_nil,or_false] at f;rcases f with rfl|rfl|rfl|rfl|rfl|rfl|rfl|rfl|rfl|rfl
   .cases(b y).symm.trans hC;exact ai (by kernel_rfl) (by kernel_rfl) (by kernel_rfl) (.inl rfl)
   .cases(b k.e).symm.trans hC;exact ai (by kernel_rfl) (by kernel_rfl) (by kernel_rfl) (.inl rfl)
   .cases(b m.e).symm.trans hC;exact ai (by kernel_rfl) (by kernel_rfl) (by kernel_rfl) (.inr (by decide))
   .cases(b o.e).symm.trans hC;exact ai (by kernel_rfl) (by kernel_rfl) (by kernel_rfl) (.inr (by decide))
   .cases(b p.e).symm.trans hC;exact ai (by kernel_rfl) (by kernel_rfl) (by kernel_rfl) (.inr (by decide))
   .cases(b r.e).symm.trans hC;exact ai (by kernel_rfl) (by kernel_rfl) (by kernel_rfl) (.inr (by decide))
   .cases(b z).symm.trans hC;exact ai (by kernel_rfl) (by kernel_rfl) (by kernel_rfl) (.inr (by decide))
   .cases(b t.e).symm.trans hC;exact ai (by kernel_rfl) (by kernel_rfl) (by kernel_rfl) (.inr (by decide))
   .cases(b A).symm.trans hC;exact ai (by kernel_rfl) (by kernel_rfl) (by kernel_rfl) (.inr (by decide))
   .cases(b B).symm.trans hC;exact ai (by kernel_rfl) (by kernel_rfl) (by kernel_rfl) (.inr (by decide))
  .cases(b m.e).symm.trans w;refine{m.xc,λc f C hC=>?_,m.vt}
   simp! [Γ,el,List.not_mem_nil,or_false] at f;rcases f with rfl|rfl|rfl|rfl|rfl|rfl|rfl|rfl|rfl|rfl
   .cases(b y).symm.trans hC;exact ai (by kernel_rfl) (by kernel_rfl) (by kernel_rfl) (.inl rfl)
   .cases(b k.e).symm.trans hC;exact ai (by kernel_rfl) (by kernel_rfl) (by kernel_rfl) (.inr (by decide))
   .cases(b m.e).symm.trans hC;exact ai (by kernel_rfl) (by kernel_rfl) (by kernel_rfl) (.inl rfl)
   .cases(b o.e).symm.trans hC;exact ai (by kernel_rfl) (by kernel_rfl) (by kernel_rfl) (.inr (by decide))
   .cases(b p.e).symm.trans hC;exact ai (by kernel_rfl) (by kernel_rfl) (by kernel_rfl) (.inr (by decide))
   .cases(b r.e).symm.trans hC;exact ai (by kernel_rfl) (by kernel_rfl) (by kernel_rfl) (.inr (by decide))
   .cases(b z).symm.trans hC;exact ai (by kernel_rfl) (by kernel_rfl) (by kernel_rfl) (.inr (by decide))
   .cases(b t.e).symm.trans hC;exact ai (by kernel_rfl) (by kernel_rfl) (by kernel_rfl) (.inr (by decide))
   .cases(b A).symm.trans hC;exact ai (by kernel_rfl) (by kernel_rfl) (by kernel_rfl) (.inr (by decide))
   .cases(b B).symm.trans hC;exact ai (by kernel_rfl) (by kernel_rfl) (by kernel_rfl) (.inr (by decide))
  .cases(b o.e).symm.trans w;refine{o.xc,λc f C hC=>?_,o.vt}
   simp! [Γ,el,List.not_mem_nil,or_false] at f;rcases f with rfl|rfl|rfl|rfl|rfl|rfl|rfl|rfl|rfl|rfl
   .cases(b y).symm.trans hC;exact ai (by kernel_rfl) (by kernel_rfl) (by kernel_rfl) (.inl rfl)
   .cases(b k.e).symm.trans hC;exact ai (by kernel_rfl) (by kernel_rfl) (by kernel_rfl) (.inr (by decide))
   .cases(b m.e).symm.trans hC;exact ai (by kernel_rfl) (by kernel_rfl) (by kernel_rfl) (.inr (by decide))
   .cases(b o.e).symm.trans hC;exact ai (by kernel_rfl) (by kernel_rfl) (by kernel_rfl) (.inl rfl)
   .cases(b p.e).symm.trans hC;exact ai (by kernel_rfl) (by kernel_rfl) (by kernel_rfl) (.inr (by decide))
   .cases(b r.e).symm.trans hC;exact ai (by kernel_rfl) (by kernel_rfl) (by kernel_rfl) (.inr (by decide))
   .cases(b z).symm.trans hC;exact ai (by kernel_rfl) (by kernel_rfl) (by kernel_rfl) (.inr (by decide))
   .cases(b t.e).symm.trans hC;exact ai (by kernel_rfl) (by kernel_rfl) (by kernel_rfl) (.inr (by decide))
   .cases(b A).symm.trans hC;exact ai (by kernel_rfl) (by kernel_rfl) (by kernel_rfl) (.inr (by decide))
   .cases(b B).symm.trans hC;exact ai (by kernel_rfl) (by kernel_rfl) (by kernel_rfl) (.inr (by decide))
  .cases(b p.e).symm.trans w;refine{p.xc,λc f C hC=>?_,p.vt}
   simp! [Γ,el,List.not_mem_nil,or_false] at f;rcases f with rfl|rfl|rfl|rfl|rfl|rfl|rfl|rfl|rfl|rfl
   .cases(b y).symm.trans hC;exact ai (by kernel_rfl) (by kernel_rfl) (by kernel_rfl) (.inl rfl)
   .cases(b k.e).symm.trans hC;exact ai (by kernel_rfl) (by kernel_rfl) (by kernel_rfl) (.inr (by decide))
   .cases(b m.e).symm.trans hC;exact ai (by kernel_rfl) (by kernel_rfl) (by kernel_rfl) (.inr (by decide))
   .cases(b o.e).symm.trans hC;exact ai (by kernel_rfl) (by kernel_rfl) (by kernel_rfl) (.inr (by decide))
   .cases(b p.e).symm.trans hC;exact ai (by kernel_rfl) (by kernel_rfl) (by kernel_rfl) (.inl rfl)
   .cases(b r.e).symm.trans hC;exact ai (by kernel_rfl) (by kernel_rfl) (by kernel_rfl) (.inr (by decide))
   .cases(b z).symm.trans hC;exact ai (by kernel_rfl) (by kernel_rfl) (by kernel_rfl) (.inr (by decide))
   .cases(b t.e).symm.trans hC;exact ai (by kernel_rfl) (by kernel_rfl) (by kernel_rfl) (.inr (by decide))
   .cases(b A).symm.trans hC;exact ai (by kernel_rfl) (by kernel_rfl) (by kernel_rfl) (.inr (by decide))
   .cases(b B).symm.trans hC;exact ai (by kernel_rfl) (by kernel_rfl) (by kernel_rfl) (.inr (by decide))
  .cases(b r.e).symm.trans w;refine{r.xc,λc f C hC=>?_,r.vt}
   simp! [Γ,el,List.not_mem_nil,or_false] at f;rcases f with rfl|rfl|rfl|rfl|rfl|rfl|rfl|rfl|rfl|rfl
   .cases(b y).symm.trans hC;exact ai (by kernel_rfl) (by kernel_rfl) (by kernel_rfl) (.inl rfl)
   .cases(b k.e).symm.trans hC;exact ai (by kernel_rfl) (by kernel_rfl) (by kernel_rfl) (.inr (by decide))
   .cases(b m.e).symm.trans hC;exact ai (by kernel_rfl) (by kernel_rfl) (by kernel_rfl) (.inr (by decide))
   .cases(b o.e).symm.trans hC;exact ai (by kernel_rfl) (by kernel_rfl) (by kernel_rfl) (.inr (by decide))
   .cases(b p.e).symm.trans hC;exact ai (by kernel_rfl) (by kernel_rfl) (by kernel_rfl) (.inr (by decide))
   .cases(b r.e).symm.trans hC;exact ai (by kernel_rfl) (by kernel_rfl) (by kernel_rfl) (.inl rfl)
   .cases(b z).symm.trans hC;exact ai (by kernel_rfl) (by kernel_rfl) (by kernel_rfl) (.inr (by decide))
   .cases(b t.e).symm.trans hC;exact ai (by kernel_rfl) (by kernel_rfl) (by kernel_rfl) (.inr (by decide))
   .cases(b A).symm.trans hC;exact ai (by kernel_rfl) (by kernel_rfl) (by kernel_rfl) (.inr (by decide))
   .cases(b B).symm.trans hC;exact ai (by kernel_rfl) (by kernel_rfl) (by kernel_rfl) (.inr (by decide))
  .cases(b t.e).symm.trans w;refine{t.xc,λc f C hC=>?_,t.vt}
   simp! [Γ,el,List.not_mem_nil,or_false] at f;rcases f with rfl|rfl|rfl|rfl|rfl|rfl|rfl|rfl|rfl|rfl
   .cases(b y).symm.trans hC;exact ai (by kernel_rfl) (by kernel_rfl) (by kernel_rfl) (.inl rfl)
   .cases(b k.e).symm.trans hC;exact ai (by kernel_rfl) (by kernel_rfl) (by kernel_rfl) (.inr (by decide))
   .cases(b m.e).symm.trans hC;exact ai (by kernel_rfl) (by kernel_rfl) (by kernel_rfl) (.inr (by decide))
   .cases(b o.e).symm.trans hC;exact ai (by kernel_rfl) (by kernel_rfl) (by kernel_rfl) (.inr (by decide))
   .cases(b p.e).symm.trans hC;exact ai (by kernel_rfl) (by kernel_rfl) (by kernel_rfl) (.inr (by decide))
   .cases(b r.e).symm.trans hC;exact ai (by kernel_rfl) (by kernel_rfl) (by kernel_rfl) (.inr (by decide))
   .cases(b z).symm.trans hC;exact ai (by kernel_rfl) (by kernel_rfl) (by kernel_rfl) (.inr (by decide))
   .cases(b t.e).symm.trans hC;exact ai (by kernel_rfl) (by kernel_rfl) (by kernel_rfl) (.inl rfl)
   .cases(b A).symm.trans hC;exact ai (by kernel_rfl) (by kernel_rfl) (by kernel_rfl) (.inr (by decide))
   .cases(b B).symm.trans hC;exact ai (by kernel_rfl) (by kernel_rfl) (by kernel_rfl) (.inr (by decide))
 .simp! [Γ,eu,el,List.not_mem_nil,or_false] at f⊢;exact f
 .simp! [Γ,eu,el,List.not_mem_nil,or_false] at f;rcases f with rfl|rfl|rfl|rfl|rfl|rfl
  .exact{_,b k.e,k.ex}
  .exact{_,b m.e,m.ex}
  .exact{_,b o.e,o.ex}
  .exact{_,b p.e,p.ex}
  .exact{_,b r.e,r.ex}
  .exact{_,b t.e,t.ex}
 .simp! [el,List.not_mem_nil,or_false] at f;cases(b y).symm.trans H;rcases f with rfl|rfl|rfl|rfl|rfl|rfl
  .cases(b k.e).symm.trans w;exact eZ (by kernel_rfl) (by kernel_rfl) (by kernel_rfl) (by kernel_rfl)
  .cases(b m.e).symm.trans w;exact eZ (by kernel_rfl) (by kernel_rfl) (by kernel_rfl) (by kernel_rfl)
  .cases(b o.e).symm.trans w;exact eZ (by kernel_rfl) (by kernel_rfl) (by kernel_rfl) (by kernel_rfl)
  .cases(b p.e).symm.trans w;exact eZ (by kernel_rfl) (by kernel_rfl) (by kernel_rfl) (by kernel_rfl)
  .cases(b r.e).symm.trans w;exact eZ (by kernel_rfl) (by kernel_rfl) (by kernel_rfl) (by kernel_rfl)
  .cases(b t.e).symm.trans w;exact eZ (by kernel_rfl) (by kernel_rfl) (by kernel_rfl) (by kernel_rfl)
def hY{P:Params}(X:(K2 P).In h):(K P).In h/\∀p∈ts.map (·.1),h.get? p=hT (PySem.W.tabObj #[]):={λb o e=>X b o (Hd.BR e),λp a=>by
 simp! [ts,bc,List.map_nil,el,List.not_mem_nil,or_false] at a;rcases a with rfl
 .exact X _ _ (by kernel_rfl)
}
def hC(P:Params):∀p∈ts.map (·.1),(∃c,eg (K P) c p)/\(K P).lookup p=ie:=λp a=>by
 simp! [ts,bc,List.map_nil,el,List.not_mem_nil,or_false] at a;rcases a with rfl
 .exact{{_,AK P},by kernel_rfl}
abbrev keep:List Nat:=[0,2,3,4,5,6,7,8,9,10,11,13,14,15,16,17,18,19,20,21,22,23,25,26,27,28,30,31,32,33,34,36,37,38,39,40]
def ka:∀P,as=(K2 P).map (·.1):=λZ=>by kernel_rfl
def left:PySem.W.LeftO lw.row.prog (PySem.W.view lw.row.prog keep) [] (λs=>PySem.W.xlAt (PySem.W.view lw.row.prog keep) [] s&&PySem.W.recOk lw.row.toRowW.records s) (PySem.W.kHook K2 as ka).obs (PySem.W.kHook K2 as ka).val 7090:=by refine Hd.Fd (T₀:=λP=>Hd.treeOf (PySem.W.boot_heap P).objs.toList) (m₀:=11) (life:={}) (ann:=hT (.ref 6)) (M:=7040) (by kernel_rfl) (by kernel_rfl) (λs=>by kernel_rfl) Hd.Mm Hd.Mn (by kernel_rfl) λw os=>?_;rw [PySem.W.Fast.te10156331382660048174,PySem.W.Fast.te11892475500146522536,PySem.W.Fast.te14364793385576792824,PySem.W.Fast.te6613529449190102663,PySem.W.Fast.te4187177175401517315,PySem.W.Fast.te5923862056798008813];kernel_rfl
end K75
open PySem.W PyProof.Rows
set_option maxRecDepth 100000 in
set_option maxHeartbeats 0 in
theorem PySem.Challenge.cw_cellways_k75_atlases_refused_holds : PySem.Challenge.rw_cellways_k75_atlases_refused.Holds := by
 refine Hd.holds (d:={"law",L2.bx (K75.top 40),L2.aR (K75.top 40),L2.aq (K75.top 40),Hd.PC (K75.top 40)}) (by kernel_rfl) K75.ka K75.left (by kernel_rfl) (by kernel_rfl) (by kernel_rfl) (by kernel_rfl) {rfl,rfl,rfl,rfl,rfl,by decide+kernel} ?hw ?a
 case hw=>w_witness2
 case a=>exact Ci.walk2 (l:=PySem.Challenge.rw_cellways_k75_atlases_refused) K75.om K75.Lu K75.Γ K75.mS "_law_script" K75.kW ["NoBack","NoFit",zu 36,"NoName","NoSign","NoSpot"] K75.ts (K75.top 40) rfl rfl rfl rfl {λZ=>rfl,by decide,by decide} (λw h Y=>K75.hY (PySem.W.kIn_of Y)) (λw=>K75.hC w.params) (λw mg h b G=>K75.QR _ b G) ig (λw=>Hd.UM 389 388 384 K75.m4 (K75.AK w.params) (by decide+kernel) (by decide+kernel)) K75.Lb (List.cons_ne_nil _ _) (λw=>K75.Pr _) (λw=>K75.Md _) (λw=>K75.MU _) (λw=>K75.lX _) K75.M7
#print axioms PySem.Challenge.cw_cellways_k75_atlases_refused_holds
