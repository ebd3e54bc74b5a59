import PyProof.Rows.All
import Wide.All
import OpenK.AllK
import Wide.FinOn
import Lean
import PyProof.EqAt
import PyProof.EqKinds
import PyProof.TupleCall
import PySem.Challenge.RW_cellways_k72_whole_atlases
set_option Elab.async false
set_option tactic.hygienic false
set_option linter.all false
set_option genSizeOf false
set_option genInjectivity false
set_option genSizeOfSpec false
set_option bootstrap.genMatcherCode false
set_option compiler.extract_closed false
set_option compiler.reuse false
set_option maxRecDepth 100000
abbrev zz8:=PySem.W.Frag
local macro_rules | `(zz9 $x) => `(($x).heap.objs.size)
local macro_rules | `(tactic| simp! [$x,*] $[$l:location]?) => `(tactic| simp only [$x,*] $[$l]?)
theorem zzf:¬false=true:=Bool.false_ne_true
theorem zza(a b:Bool):((a&&b)=true)=(a=true/\b=true):=Bool.and_eq_true a b
theorem zzg.{u}{a:Type u}{l:List a}{i:Nat}(h:i<l.length):l[i]?=some l[i]:=List.getElem?_eq_getElem h
theorem zzl.{u,v}{a:Type u}{b:Type v}{l:List a}(f:a->b):(l.map f).length=l.length:=List.length_map f
def zzN:=@decide_eq_true_eq
def zzY:=@of_decide_eq_true
def zzh:=@decide_eq_true
def zzq:=@Option.some.inj
def zzy:=@beq_iff_eq
def zz0:=@decide_eq_false
open PySem renaming wpAny_bind→ar,wpAny_pure→bT,Value→gA,Shared→gB,Addr→hB,Expr→hD,wpAny→hF,Program→hG,World→hI,model→hT,Around→h9,Scope→ia,Heap→ig,sizeLine→iv,Stmt→ix,mainGlobals→iR,Builtin→i1,cellsFrom→i2
open PySem.Heap renaming get?_push_of_some→aT,lt_size→cP,get?_push_size→dV
open List renaming size_toArray→a5,mem_of_getElem?→a7,map_cons→bc,getElem?_eq_some_iff→cj,mem_cons_of_mem→cq,getD_eq_getElem?_getD→cB,length_cons→cC,length_append→cD,mem_cons_self→c0,getElem?_map→c4,mem_append_right→c5,getElem?_set_ne→c6,all_eq_true→c8,mem_append_left→d2,mem_singleton→d6,any_eq_true→d8,mem_cons→ef,contains_iff_mem→eg,getElem?_set_self→ei,getElem?_append_left→ek,getElem?_append_right→el,mem_map→ew,mem_filterMap→ey,filter_cons→eA,lookup_cons→eH,append_nil→e6,replicate→jz
open Nat renaming le_refl→a8,le_trans→di,lt_of_le_of_lt→dk,lt_of_lt_of_le→dA,ne_of_lt→d1
open Option renaming map_eq_some_iff→cz,bind_eq_some_iff→d0,isSome_iff_exists→ej,some→fP,none→gd
open Array renaming length_toList→d3,getElem?_eq_getElem→ez
open Bool renaming false_eq_true→d4,or_eq_true→er,true→gf,false→gh
open False renaming elim→ed
open PySem.Heap.SameBut renaming update→et
open Int renaming eq_ofNat_of_zero_le→eu,toNat_natCast→eF
open PySem.Around renaming under_plainId→fx
open And renaming intro→je
open PyProof.Rows renaming seqObj→jV
abbrev jW:=PySem.Value->PySem.Shared->Prop
abbrev kd:=List (PySem.Addr×PySem.Obj)
abbrev kr:=List (List Int)
abbrev ku:=List Int->List Int->Int->Prop
local macro_rules|`(zx6 $x)=>`(by simpa using $x)
def zy0:Nat->Lean.Syntax->Lean.MacroM (Lean.TSyntax `rcasesPat)
 |n+1,t=>do match t with
  |`(($a,$b,*))=>let q<-(#[a]++b.getElems).mapM fun x=>do`(Lean.Parser.Tactic.rcasesPatLo|$(<-zy0 n x):rcasesPat)
                 `(rcasesPat|⟨$q,*⟩)
  |`($x:ident)=>`(rcasesPat|$x:ident)
  |`(_)=>`(rcasesPat|_)
  |_=>Lean.Macro.throwUnsupported
 |_,_=>Lean.Macro.throwUnsupported
local macro_rules|`(tactic|let $p:term:=$e)=>do let q<-zy0 19 p;let k:=Lean.mkIdent (.mkSimple s!"K{hash (toString p.raw)%997}");if q.raw[1].getNumArgs<4 then`(tactic|obtain $q:rcasesPat:=$e)else`(tactic|first|(refine Classical.byContradiction fun $k=>?_;obtain $q:rcasesPat:=$e;refine $k ?_;clear $k)|obtain $q:rcasesPat:=$e)
local macro_rules(kind:=«term{_}»)|`({$x,*})=>`(⟨$x,*⟩)
open PySem
variable{us:List gA}{x c f m qual z:Str}{u:gA}{a:hB}{o:Obj}{w:hI}{h base h':ig}{t' j:Nat}{e d body po:hD}{N R ks:List Str}{A:h9}{aa:kd}{pos np:Pos}{prog:hG}{mg:Str->Option gA}{outer:List Env}{items:Array gA}{st:ix}{cl:List (Str×hB)}
local macro_rules|`(zx7 $x $y*)=>`(PySem.wpAny (PySem.model ($x).prog ($x).w) ($x).A $y*)
local macro_rules|`(abbrev $i:declId $s:optDeclSig:=$v)=>`(noncomputable def $i $s:optDeclSig:=$v)|`(abbrev $i:declId $s:optDeclSig $v:declValEqns)=>`(noncomputable def $i $s:optDeclSig $v:declValEqns)
set_option hygiene false
local macro_rules|`(zv0 $x)=>`(dM (dF P w) P w K mg base N qual scope f cd A outer s0 H0 $x)
local macro_rules|`(zv1 $x)=>`(fi Γ F W N sc k E $x)
local macro_rules|`(zv2 $x)=>`(Inv X aa σ H $x)
local macro_rules|`(zv3 $x)=>`(ib Γ Δ F1 F2 W N sc k E $x)
local macro_rules|`(zv4 $x)=>`(eW Γ F W N sc k $x)
local macro_rules|`(zv5 $x)=>`(eP W obe Ge He env σ s ob H0 G $x)
set_option hygiene true
open PySem
set_option hygiene false
local macro_rules|`(zx2 $a $b $c $d)=>`(⟨$a,$a,$b,K72.top $c,$d⟩)
local macro_rules|`(zx5 $a $n $b $c $d $e $f)=>do let k:=(⟨e.raw⟩:Lean.NumLit).getNat;`(($a,Hd.co $n $b $c $d $e (.ref $(Lean.quote (k+2))) (.ref $(Lean.quote (k+3))) $(Lean.quote (k+4)) $f))|`(zx3 $a $n $c $m)=>do let k:=(⟨a.raw⟩:Lean.NumLit).getNat;`(($a,Hd.fo $n (K72.top $c) $m $(Lean.quote (k-1))))
set_option hygiene true
local macro_rules|`(zu $n)=>return Lean.Syntax.mkStrLit (("Atlas.floor_of|/claim/cut.py|ValueError|ValueError.__new__|__static_attributes__|BaseException.__getattribute__|_law_class|BaseException|FloorError|reversed|need_on_floor|_law_pick|Atlas.step|__firstlineno__|__init__|mirrored_floor|cellways.errors|Atlas.mirror|is_on_floor|_law_did|abcdefghijklmnopqrstuvwxyz|Atlas.give|<lambda>|turned_floor|_law_all_of|Atlas.sign|Atlas.join|mirror|isinstance|Atlas.turn|Atlas.take|NoName|_law_made|__debug__|_law_behind|#0123456789|__module__|StopIteration|with_sign|need_sign|floor_of|object.__class__|Atlas.names|set_beside|reversed.__length_hint__|floors|is_floor|need_name|Exception|is_sign|_law_floor|__name__|_law_deed_here|set_below|_law_told|_law_deed|Atlas.lay|NoSpot|NoFloor|_law_cell|Atlas.marks|object|NoSign|is_whole|__next__|__doc__|Atlas.__init__".splitOn "|")[(⟨n.raw⟩:Lean.NumLit).getNat]!)
namespace L2
open PySem.Spec PyProof.Rows
noncomputable abbrev Key:=Sum Int Str
abbrev qL:Key->gA->Bool
 |.inl k,v=>gA.isInt k v|.inr x,v=>gA.isStrOf x v
abbrev VW(w:hI):Key->Int
 |.inl k=>hashInt k|.inr x=>hashStr w x
theorem bG:∀{k:Key} {v:gA},qL k v=gf->(∃i t,k=Sum.inl i/\v=gA.int i t)\/(∃x t,k=Sum.inr x/\v=gA.str x t)
 |.inl i,v,h=>by let(t,e):=gA.isInt_shape (k:=i) (v:=v) h;exact .inl ⟨i,t,rfl,e⟩|.inr x,v,h=>by let(t,e):=gA.isStrOf_shape (x:=x) (v:=v) h;exact .inr ⟨x,t,rfl,e⟩
def AZ(i:Int)(t:Tok):qL (.inl i) (.int i t)=gf:=by simp [qL,gA.isInt]
def A0(x:Str)(t:Tok):qL (.inr x) (.str x t)=gf:=by simp [qL,gA.isStrOf]
def M8(a b:Int):decide ((Sum.inl a:Key)=Sum.inl b)=(a==b):=by
 by_cases e:a=b
 .subst e;simp
 .have h:¬(Sum.inl a:Key)=Sum.inl b:=λq=>e (Sum.inl.inj q);rw [zz0 h];exact(beq_eq_false_iff_ne.mpr e).symm
def Nb(a b:Str):decide ((Sum.inr a:Key)=Sum.inr b)=decide (a=b):=by
 by_cases e:a=b
 .subst e;simp
 .have h:¬(Sum.inr a:Key)=Sum.inr b:=λq=>e (Sum.inr.inj q);rw [zz0 h,zz0 e]
def M9(a:Int)(b:Str):decide ((Sum.inl a:Key)=Sum.inr b)=gh:=zz0 nofun
def Na(a:Str)(b:Int):decide ((Sum.inr a:Key)=Sum.inl b)=gh:=zz0 nofun
noncomputable def bu(prog:hG)(w:hI):PySem.KeyKind prog w Key where
 is:=qL
 hash:=VW w
 inj:=λv a b g f=>by
  rcases bG g with⟨i,t,rfl,rfl⟩|⟨x,t,rfl,rfl⟩
  .rcases bG f with⟨j,u,rfl,e⟩|⟨y,u,rfl,e⟩
   .injection e with c _;rw [c]
   .exact nomatch e
  .rcases bG f with⟨j,u,rfl,e⟩|⟨y,u,rfl,e⟩
   .exact nomatch e
   .injection e with c _;rw [c]
 byValue:=λk v h=>by rcases bG h with⟨i,t,rfl,rfl⟩|⟨x,t,rfl,rfl⟩<;>rfl
 pyHash:=λd h=>by
  rcases bG d with⟨i,t,rfl,rfl⟩|⟨x,t,rfl,rfl⟩
  .exact wpAny_pyHash_int h
  .exact wpAny_pyHash_str h
 eqBool:=λm d h=>by
  rcases bG m with⟨i,t,rfl,rfl⟩|⟨x,t,rfl,rfl⟩
  .rcases bG d with⟨j,u,rfl,rfl⟩|⟨y,u,rfl,rfl⟩
   .rw [M8] at h;exact wpAny_eqBool_int h
   .rw [M9] at h;exact SeqAt.EqAt.int_str i t y u _ _ _ _ h
  .rcases bG d with⟨j,u,rfl,rfl⟩|⟨y,u,rfl,rfl⟩
   .rw [Na] at h;exact SeqAt.EqAt.str_int x t j u _ _ _ _ h
   .rw [Nb] at h;exact wpAny_eqBool_str h
 «strs»:=λk x t v h=>by
  rcases bG h with⟨i,u,rfl,e⟩|⟨y,u,rfl,e⟩
  .exact nomatch e
  .injection e with c _
   subst c;cases v<;>rfl
def vn(prog:hG)(w:hI)(i:Int)(t:Tok):(bu prog w).is (.inl i) (.int i t)=gf:=AZ i t
def vo(prog:hG)(w:hI)(x:Str)(t:Tok):(bu prog w).is (.inr x) (.str x t)=gf:=A0 x t
inductive V where
 |aN|bl (b:Bool)|int (i:Int)|str (x:Str)|Ti (b:Array UInt8)|Tq (b:UInt64)|ref (a:hB)|ty (n:String)
 deriving DecidableEq
variable{v:V}{vs:List V}
def RelV:V->gA->Prop
 |.aN,u=>u=gA.none|.bl b,u=>u=gA.bool b|.int i,u=>∃t,u=gA.int i t|.str x,u=>∃t,u=gA.str x t|.Ti b,u=>∃t,u=gA.bytes b t|.Tq b,u=>∃t,u=gA.float b t|.ref a,u=>u=gA.ref a|.ty n,u=>u=gA.type n
noncomputable abbrev Vals:List V->List gA->Prop:=Paired RelV
def Vals.length{xs:List V}(r:Vals xs us):xs.length=us.length:=Paired.length r
theorem Vals.get:∀{xs:List V} {us:List gA} {i:Nat} {x:V},Vals xs us->xs[i]?=fP x->∃u,us[i]?=fP u/\RelV x u
 |_,_,_,_,.nil,e=>by simp at e|_,_,0,_,.cons r _,e=>by simp at e;subst e;exact{_,rfl,r}|_,_,i+1,x,.cons _ t,e=>by let(u,a,b):=Vals.get (i:=i) (x:=x) t (zx6 e);exact{u,zx6 a,b}
theorem Vals.set{x:V}(r:RelV x u):∀{xs:List V} {us:List gA} (i:Nat),Vals xs us->Vals (xs.set i x) (us.set i u)
 |_,_,_,.nil=>.nil|_,_,0,.cons _ t=>.cons r t|_,_,i+1,.cons q t=>.cons q (Vals.set r i t)
def Vals.append{xs ys:List V}{ws:List gA}(r:Vals xs us)(s:Vals ys ws):Vals (xs++ys) (us++ws):=by
 induction r with
 |nil=>exact s|cons r _ a=>exact .cons r a
theorem Vals.take:∀{xs:List V} {us:List gA} (n:Nat),Vals xs us->Vals (xs.take n) (us.take n)
 |_,_,0,_=>.nil|_,_,_+1,.nil=>.nil|_,_,n+1,.cons r t=>.cons r (Vals.take n t)
theorem Vals.drop:∀{xs:List V} {us:List gA} (n:Nat),Vals xs us->Vals (xs.drop n) (us.drop n)
 |_,_,0,r=>r|_,_,_+1,.nil=>.nil|_,_,n+1,.cons _ t=>Vals.drop n t
def g7:Option V->Option gA->Prop
 |some v,fP u=>RelV v u|none,gd=>True|_,_=>False
def KV{a:Type}:List (a×V)->List (a×gA)->Prop:=Paired λ(p:a×V) (q:a×gA)=>p.1=q.1/\RelV p.2 q.2
abbrev kV:Key->V
 |.inl i=>.int i|.inr x=>.str x
inductive HO where
 |lst (xs:List V)
 |tup (xs:List V)
 |dK (aA:List (Key×V))|dT (aA:List (List Key×V))
 |set (S:Int->Bool) (n:Nat)
 |ins (C dx:hB) (fs:List (Str×V))
 |own (x:hB)
 |xd (fs:List (Str×V))
 |met (f x:hB)
 |sY (lo hi:Int)
 |b9 (o:Obj) (u:HO)
 |gI (ps:Array gA)
 |ext (φ:ig->Prop)
noncomputable abbrev Hp:=hB->Option HO
variable{H G H1 H0:Hp}
abbrev upd(H:Hp)(a:hB)(o:HO):Hp:=λb=>if b=a then fP o else H b
def ak{o:HO}:upd H a o a=fP o:=by unfold upd;rw [if_pos rfl]
def ai{b:hB}{o:HO}(h:b≠a):upd H a o b=H b:=by unfold upd;rw [if_neg h]
def zR{o u:HO}:upd (upd H a o) a u=upd H a u:=by funext b;unfold upd;split<;>rfl
def vq{b:hB}{o u:HO}(h:H a=fP o)(h':H b=fP u)(d:o≠u):a≠b:=by intro e;subst e;rw [h] at h';exact d (zzq h')
def bO{b:hB}{o:HO}(h:H a=fP o)(h':H b=gd):a≠b:=by intro e;subst e;rw [h] at h';cases h'
section
variable(P:hG)(w:hI)
def cb(H:Hp)(h:ig)(a:hB):HO->Prop
 |.lst xs=>xs.length<=iv/\∃(c:List gA) (n:Nat),Vals xs c/\h.get? a=fP {cls:=.type "list",data:=.seq c.toArray n}|.tup xs=>xs.length<=iv/\∃c:List gA,Vals xs c/\IsTup h a c.toArray|.dK d=>d.length<=iv/\(a==sysModules)=gh/\∃vs,KV d vs/\h.DictOf (bu P w) a vs|.dT d=>d.length<=iv/\(a==sysModules)=gh/\∃xs:List (List Key×hB×gA),
  Paired (λ(p:List Key×V) (q:List Key×hB×gA)=>p.1=q.1/\H q.2.1=fP (.tup (p.1.map kV))/\RelV p.2 q.2.2) d xs/\
  ∃o g k,h.get? a=fP o/\o.ExactDict/\o.data=.dict g k/\g.toList=xs.map (entryOfKey (tupleKind (bu P w)))/\(xs.map (·.1)).Nodup
 |.set S n=>h.SetOf (intKind P w) a S n|.ins C dx fs=>H dx=fP (.own a)/\fs.length<=1000/\dx≠a/\h.get? a=fP (PySem.W.instObj C dx)/\
  ∃b,h.Ns1 dx b/\(∀f,g7 (fs.lookup f) (b f))/\PySem.Within b (fs.map (·.1))
 |.own _=>∃o,h.get? a=fP o|.xd fs=>∃b,h.Ns1 a b/\∀f,g7 (fs.lookup f) (b f)|.sY lo m=>∃t u v,h.get? a=fP {cls:=.type "range",data:=.fields #[.int lo t,.int m u,.int 1 v]}|.b9 o u=>h.get? a=fP o/\cb H h a u|.gI ps=>h.get? a=fP {cls:=.none,data:=.fields ps}|.met f x=>h.get? a=fP (PySem.W.methodObj (.ref f) (.ref x))|.ext e=>e h/\(∃o,h.get? a=fP o)/\∀i j:ig,e i->(∀o,i.get? a=fP o->j.get? a=fP o)->e j
def fE(H:Hp)(h:ig):Prop:=∀a o,H a=fP o->cb P w H h a o
end
section
variable{P:hG}{H':Hp}{o:HO}
def cb.lt(x:cb P w H h a o):a<h.objs.size:=by
 cases o with
 |lst xs=>let(_,_,_,_,e):=x;exact cP e|tup xs=>let(_,_,_,p):=x;exact p.lt|dK b=>let(_,_,_,_,o,_,_,e,_):=x;exact cP e|dT b=>let(_,_,_,_,o,_,_,e,_):=x;exact cP e|set S n=>let(o,_,_,_,e,_):=x;exact cP e|ins C dx fs=>let(_,_,_,e,_):=x;exact cP e|own y=>let(_,e):=x;exact cP e|xd fs=>let(_,(_,_,_,e,_),_):=x;exact cP e|sY lo c=>let(_,_,_,e):=x;exact cP e|b9 ob u=>let(e,_):=x;exact cP e|gI d=>exact cP (show h.get? a=fP _ from x)|met f y=>exact cP (show h.get? a=fP _ from x)|ext g=>let(_,(_,e),_):=x;exact cP e
def Paired.Ip{e g:Type}{F G:e->g->Prop}{c:List e}{d:List g}(r:Paired F c d)(f:∀a b,F a b->G a b):Paired G c d:=by
 induction r with
 |nil=>exact .nil|cons r _ i=>exact .cons (f _ _ r) i
def cb.f7(x:cb P w H h a o)(k:∀b u,(b=a\/H b=fP (.own a))->h.get? b=fP u->h'.get? b=fP u)
 (B:∀b,H b=fP (.own a)->H' b=fP (.own a)) (D:∀b xs,H b=fP (.tup xs)->H' b=fP (.tup xs)):cb P w H' h' a o:=by
 induction o with
 |lst xs=>let(z,j,n,r,e):=x;exact{z,j,n,r,k _ _ (.inl rfl) e}|tup xs=>let(z,j,r,ob,e,c):=x;exact{z,j,r,ob,k _ _ (.inl rfl) e,c}|dK E=>let(z,y,F,r,ob,g,i,e,c):=x;exact{z,y,F,r,ob,g,i,k _ _ (.inl rfl) e,c}|dT E=>let(z,y,xs,r,ob,g,i,e,c):=x;exact{z,y,xs,Paired.Ip r λp q z=>{z.1,D _ _ z.2.1,z.2.2},ob,g,i,k _ _ (.inl rfl) e,c}|set S n=>let(ob,g,i,t,e,c):=x;exact{ob,g,i,t,k _ _ (.inl rfl) e,c}|ins C dx fs=>let(d,z,ne,e,m,(s,g,i,G,c),r):=x;exact{B _ d,z,ne,k _ _ (.inl rfl) e,m,{s,g,i,k _ _ (.inr d) G,c},r}|own y=>let(ob,e):=x;exact{ob,k _ _ (.inl rfl) e}|xd fs=>let(m,(s,g,i,e,c),r):=x;exact{m,{s,g,i,k _ _ (.inl rfl) e,c},r}|sY lo K=>let(t,u,v,e):=x;exact{t,u,v,k _ _ (.inl rfl) e}|b9 ob u I=>let(e,q):=x;exact{k _ _ (.inl rfl) e,I q}|gI A=>have e:h.get? a=fP {cls:=.none,data:=.fields A}:=x;show h'.get? a=fP {cls:=.none,data:=.fields A};exact k a _ (.inl rfl) e|met f y=>have e:h.get? a=fP (PySem.W.methodObj (.ref f) (.ref y)):=x;show h'.get? a=fP (PySem.W.methodObj (.ref f) (.ref y));exact k a _ (.inl rfl) e|ext L=>let(p,(o,e),st):=x;exact{st _ _ p λo q=>k _ _ (.inl rfl) q,{o,k _ _ (.inl rfl) e},st}
def fE.lt(x:fE P w H h)(e:H a=fP o):a<h.objs.size:=(x a o e).lt
def fE.fresh(x:fE P w H h)(e:h.objs.size<=a):H a=gd:=by
 cases q:H a with
 |none=>rfl|some u=>exact absurd (dA (x.lt q) e) (Nat.lt_irrefl _)
def fE.kept(x:fE P w H h)(k:∀b u,h.get? b=fP u->h'.get? b=fP u):fE P w H h':=λa o e=>(x a o e).f7 (λb u Z q=>k b u q) (λZ q=>q) λZ Z q=>q
theorem fE.laid(x:fE P w H h)(k:∀b u,h.get? b=fP u->h'.get? b=fP u)(g:h.objs.size<=a)(new:cb P w (upd H a o) h' a o):fE P w (upd H a o) h':=λb u e=>by
 have d:=x.fresh g;by_cases f:b=a
 .subst f;rw [ak] at e;cases e;exact new
 .rw [ai f] at e;exact(x b u e).f7 (λc v Z q=>k c v q) (λc q=>by rw [ai (bO q d)];exact q) λc xs q=>by rw [ai (bO q d)];exact q
end
def Rd(H:Hp)(a:hB)(u:HO):Prop:=H a=fP u\/∃o,H a=fP (.b9 o u)
def Rd.ok{P:hG}{u:HO}(r:Rd H a u)(x:fE P w H h):cb P w H h a u:=by
 rcases r with r|⟨o,r⟩
 .exact x a u r
 .let(_,q):=x a _ r;exact q
def PM:Option HO->Prop
 |some (.lst _)=>True|some (.dK _)=>True|some (.dT _)=>True|some (.set _ _)=>True|some (.ins _ _ _)=>True|some (.ext _)=>True|_=>False
section
variable{P:hG}{x e:hB}{o':HO}
def fE.write(ok:fE P w H h)(d:PM (H x))(he:e=x\/H e=fP (.own x))(k:∀b u,b≠e->h.get? b=fP u->h'.get? b=fP u)(m:∃u,h'.get? e=fP u)
 (new:cb P w (upd H x o') h' x o'):fE P w (upd H x o') h':=λb u q=>by
 have i:∀c y,H c=fP (.own y)->c≠x:=λc y r z=>by subst z;rw [r] at d;exact d
 have o:∀c xs,H c=fP (.tup xs)->c≠x:=λc xs r z=>by subst z;rw [r] at d;exact d
 by_cases f:b=x
 .subst f;rw [ak] at q;cases q;exact new
 .rw [ai f] at q;by_cases a:b=e
  .have j:H b=fP (.own x):=by
    rcases he with z|z
    .exact absurd (a.trans z) f
    .rw [a];exact z
   rw [q] at j;cases j;let(v,p):=m;exact{v,by rw [a];exact p}
  .refine(ok b u q).f7 (λc v g r=>k c v ?_ r) (λc r=>by rw [ai (i c b r)];exact r) λc xs r=>by rw [ai (o c xs r)];exact r
   rcases g with rfl|g
   .exact a
   .rintro rfl
    rcases he with z|z
    .exact i c b g z
    .rw [g] at z;cases z;exact f rfl
end
structure Un(fs ex:List hB)(H H':Hp)(h h':ig):Prop where
 keep:∀b o,h.get? b=fP o->H b=gd->b∉fs->b∉ex->h'.get? b=fP o
 slot:∀b o,h.get? b=fP o->H b=gd->b∈fs->b∉ex->∃sl,h'.get? b=fP {o with slots:=sl}
 free:∀b o,h.get? b=fP o->H b=gd->b∉ex->H' b=gd
 there:∀b o,h.get? b=fP o->b∉ex->∃o',h'.get? b=fP o'
 hZ:∀b xs,H b=fP (.tup xs)->H' b=fP (.tup xs)
 gq:∀b o u,H b=fP (.b9 o u)->H' b=fP (.b9 o u)
 gU:∀b ps,H b=fP (.gI ps)->∃more,H' b=fP (.gI (ps++more))
section
variable{fs ex:List hB}{h1:ig}{x e:hB}{o:HO}
def Un.any(u:Un fs ex H H1 h h1){b:hB}{ob:Obj}(q:h.get? b=fP ob)(n:H b=gd)(c:b∉ex):∃f,h1.get? b=fP {ob with slots:=f}:=by
 by_cases d:b∈fs
 .exact u.slot b ob q n d c
 .exact{ob.slots,u.keep b ob q n d c}
def Un.kept(k:∀b u,h.get? b=fP u->h'.get? b=fP u):Un fs ex H H h h':=
 {λb ob q Z Z Z=>k b ob q,λb ob q Z Z Z=>{ob.slots,k b ob q},λZ Z Z n Z=>n,λb ob q Z=>{ob,k b ob q},λZ Z q=>q,λZ Z Z q=>q,λZ c q=>{#[],by rw [q];simp}}
def Un.refl:Un fs ex H H h h:=Un.kept λZ Z q=>q
theorem Un.laid(k:∀b u,h.get? b=fP u->h'.get? b=fP u)(c:h.objs.size<=a)(hn:H a=gd):Un fs ex H (upd H a o) h h' where
 keep:=λb u q Z Z Z=>k b u q
 slot:=λb u q Z Z Z=>{u.slots,k b u q}
 free:=λb u q n Z=>by rw [ai (d1 (dA (cP q) c))];exact n
 there:=λb u q Z=>{u,k b u q}
 hZ:=λb xs q=>by rw [ai (bO q hn)];exact q
 gq:=λb u xs q=>by rw [ai (bO q hn)];exact q
 gU:=λb d q=>{#[],by rw [ai (bO q hn),q];simp}
def Un.write(d:PM (H x))(he:e=x\/H e=fP (.own x))(k:∀b u,b≠e->h.get? b=fP u->h'.get? b=fP u)(i:∃u,h'.get? e=fP u):Un fs ex H (upd H x o) h h':=by
 have f:∀b,H b=gd->b≠x:=λb n z=>by subst z;rw [n] at d;exact d
 have g:∀b,H b=gd->b≠e:=λb n z=>by
  subst z;rcases he with r|r
  .exact f b n r
  .rw [n] at r;cases r
 have hm:∀b u,H b=fP u->¬PM (fP u)->b≠x:=λb u q nm z=>by subst z;rw [q] at d;exact nm d
 refine{λb u q n Z Z=>k b u (g b n) q,λb u q n Z Z=>{u.slots,k b u (g b n) q},λb u q n Z=>by rw [ai (f b n)];exact n,λb u q Z=>?_,
  λb xs q=>by rw [ai (hm b _ q λz=>z)];exact q,λb u xs q=>by rw [ai (hm b _ q λz=>z)];exact q,λb j q=>{#[],by rw [ai (hm b _ q λz=>z),q];simp}}
 by_cases c:b=e
 .subst c;exact i
 .exact{u,k b u c q}
end
abbrev TR(h:ig)(H:Hp):List Addr:=(List.range h.objs.size).filter λa=>(H a).isSome
abbrev sj(h:ig)(H:Hp):Heap:=PySem.W.hideAll h (TR h H)
def AO(h:ig)(H:Hp):(sj h H).objs.size=h.objs.size:=PySem.W.hideAll_size _ _
theorem DG{b:hB}(e:h.get? b=fP o)(n:H b=gd):(sj h H).get? b=fP o:=
 PySem.W.hideAll_get _ e λhm=>by have q:(H b).isSome=gf:=(List.mem_filter.mp hm).2;rw [n] at q;simp at q
def IK{b:hB}(e:(sj h H).get? b=fP o):h.get? b=fP o/\H b=gd:=by
 have a:h.get? b=fP o:=PySem.W.of_hideAll (TR h H) e
 refine{a,?_};cases q:H b with
 |none=>rfl|some x=>have hm:b∈TR h H:=List.mem_filter.mpr {List.mem_range.mpr (cP a),by simp [q]};have z:(sj h H).get? b=gd:=PySem.W.hideAll_none (TR h H) hm;rw [z] at e;cases e
abbrev GO(g h:ig)(L:hB):kd:=(List.range h.objs.size).filterMap λa=>if a=L\/(g.get? a).isSome=gf then gd else(h.get? a).map λo=>(a,o)
abbrev rest(g h:ig)(L d:hB):kd:=(GO g h L).filter λp=>decide (p.1≠d)
structure Mod(K:zz8)(mg:Str->Option gA)(base:ig):Prop where
 Ii:K.In base
 glob:base.Ns iR mg
 blt:∃mb,base.Ns builtinsNs mb/\∀x:Str,x≠(zu 51)->mb x=bootBuiltins x
 nolimit:base.NoLimit
structure Cx where
 prog:hG
 w:hI
 K:zz8
 mg:Str->Option gA
 base:ig
 A:h9
 N:List Str
 s₀:gB
 H₀:Hp
 env:Env
 outer:List Env
 stack:List Env
 ex:List hB
 fn:Str->Bool
 calm:Bool
 pn:kd
 xe:jW
variable{X:Cx}
abbrev fG(l:List Env):List Addr:=l.filterMap (·.frame)
noncomputable abbrev Cx.fs(X:Cx):List Addr:=fG X.outer
def PZ(sc:ia)(x:Str):Prop:=sc.names.lookup x=fP .local\/sc.names.lookup x=fP .cell\/sc.names.lookup x=fP .free
def Loc(sc:ia)(x:Str):Prop:=sc.names.lookup x=fP .local\/sc.names.lookup x=fP .cell
def Look(env:Env)(h:ig)(m:Str->Option gA)(x:Str)(u:gA):Prop:=
 (env.kindOf x=fP .local/\m x=fP u)\/((env.kindOf x=fP .cell\/env.kindOf x=fP .free)/\∃c,env.cells.lookup x=fP c/\h.IsCell c (fP u))
structure Cx.Ok(X:Cx):Prop where
 mod:Mod X.K X.mg X.base
 kind:X.env.scope.kind=.function
 glob:X.env.globals=iR
 blt:X.env.builtins=builtinsNs
 above:X.s₀.heap.objs.size<=X.env.locals
 inj:∀x y c,X.env.cells.lookup x=fP c->X.env.cells.lookup y=fP c->x=y
 has:∀x,(X.env.kindOf x=fP .cell\/X.env.kindOf x=fP .free)->∃c,X.env.cells.lookup x=fP c
 Lh:∀x c,X.fn x=gf->X.env.cells.lookup x=fP c->X.s₀.heap.objs.size<=c
 hd:X.calm=gf->X.A.handled=gd
 frames:X.A.frames=fP X.stack
 OL:X.stack=X.outer\/(X.stack=X.env::X.outer/\X.env.frame=fP X.env.locals)
 UM:∀b∈X.ex,b≠X.env.locals/\∀x c,X.env.cells.lookup x=fP c->c≠b
 bs:∀b o,X.base.get? b=fP o->X.s₀.heap.get? b=fP o/\X.H₀ b=gd
 wH:X.base.objs.size<=X.s₀.heap.objs.size
 Bc:∀b o,X.base.get? b=fP o->b∉X.ex
 CP:∀b∈X.ex,b∉X.fs
 hU:X.s₀.heap.FunFrames X.base X.outer
 wU:∀b∈X.fs,X.H₀ b=gd
structure Inv(X:Cx)(aa:kd)(σ:List (Option V))(H:Hp)(s:gB):Prop where
 ok:X.Ok
 os:s.os=X.s₀.os
 bare:AllBare s.gens
 base:Un X.fs X.ex X.H₀ H X.s₀.heap s.heap
 loc:∃m,s.heap.Ns X.env.locals m/\∀(i:Nat) (x:Str) (v:V),X.N[i]?=fP x->σ[i]?=fP (fP v)->PZ X.env.scope x->∃u,RelV v u/\Look X.env s.heap m x u
 cell:∀x c,X.env.cells.lookup x=fP c->∃v,s.heap.IsCell c v
 free:H X.env.locals=gd
 fK:∀x c,X.env.cells.lookup x=fP c->H c=gd
 pin:∀p∈X.pn++aa,s.heap.get? p.1=fP p.2/\H p.1=gd/\p.1≠X.env.locals/\p.1∉X.fs/\∀v,p.2.data≠.cell v
 aQ:fE X.prog X.w H s.heap
 len:σ.length=X.N.length
section
variable{σ:List (Option V)}{H':Hp}{s:gB}
theorem Cx.Ok.Wf(ok:X.Ok){b:hB}(e:X.base.get? b=fP o):b∉X.fs:=λa=>by have:=(ok.hU.mem a).1;rw [e] at this;cases this
def Inv.bs(I:zv2 s):∀b o,X.base.get? b=fP o->s.heap.get? b=fP o/\H b=gd:=λb o e=>{I.base.keep b o (I.ok.bs b o e).1 (I.ok.bs b o e).2 (I.ok.Wf e) (I.ok.Bc b o e),I.base.free b o (I.ok.bs b o e).1 (I.ok.bs b o e).2 (I.ok.Bc b o e)}
def Inv.bk(I:zv2 s):∀b o,X.base.get? b=fP o->s.heap.get? b=fP o:=λb o e=>(I.bs b o e).1
def Inv.mod(I:zv2 s):Mod X.K X.mg X.base:=I.ok.mod
def Inv.jY(I:zv2 s):X.K.In s.heap:=I.ok.mod.Ii.keeps I.bk
theorem Inv.fr(I:zv2 s):∃m,Fr X.base X.env.locals s.heap m:=
 let⟨m,a,_⟩:=I.loc
 {m,a,I.bk,di I.ok.wH I.ok.above}
theorem Inv.lt(I:zv2 s):X.env.locals<(zz9 s):=let⟨_,a,_⟩:=I.loc;a.lt
def Inv.sz(I:zv2 s):X.s₀.heap.objs.size<=(zz9 s):=di I.ok.above (Nat.le_of_lt I.lt)
theorem Inv.Wg(I:zv2 s)(h:(zz9 s)<=a):a∉X.fs:=λb=>by let(_,o,c,_):=I.ok.hU.mem b;exact absurd (dA (cP c) (di I.sz h)) (Nat.lt_irrefl _)
theorem Inv.BP(I:zv2 s):∀x c,X.env.cells.lookup x=fP c->c≠X.env.locals:=λx c e z=>by let(v,o,b,hd):=I.cell x c e;let(m,(f,g,h,d,a,_),_):=I.loc;rw [z,d] at b;cases b;rw [a] at hd;cases hd
def Inv.hU(I:zv2 s):s.heap.FunFrames X.base X.outer:=by
 have all:∀(l:List Env),(∀b∈fG l,b∈X.fs)->X.s₀.heap.FunFrames X.base l->s.heap.FunFrames X.base l:=by
  intro l
  induction l with
  |nil=>intro _ _;trivial|cons env r f=>intro hs hl;let(hk,(L,o,a,g,h,hd),i):=hl;have c:L∈X.fs:=hs L (by unfold fG;rw [List.filterMap_cons,a];exact c0);let(j,e):=I.base.slot L o h (I.ok.wU L c) c λz=>I.ok.CP L z c;exact{hk,{L,_,a,g,e,hd},f (λb d=>hs b (by unfold fG;rw [List.filterMap_cons,a];exact cq _ d)) i}
 exact all X.outer (λZ d=>d) I.ok.hU
def Inv.stack(I:zv2 s):s.heap.FunFrames X.base X.stack:=by
 rcases I.ok.OL with e|⟨e,hf⟩
 .rw [e];exact I.hU
 .rw [e];let(m,a,_):=I.loc;refine .cons (by rw [I.ok.kind];decide) hf a ?_ I.hU;exact ig.get?_none_of_le (di I.ok.wH I.ok.above)
def Inv.ma(I:zv2 s):∀b∈fG X.stack,b∈X.env.locals::X.fs:=λb a=>by
 rcases I.ok.OL with e|⟨e,hf⟩
 .rw [e] at a;exact cq _ a
 .rw [e] at a;unfold fG at a;rw [List.filterMap_cons,hf] at a;exact a
theorem Inv.nr(I:zv2 s):∀b∈fG X.stack,H b=gd:=λb a=>by
 rcases ef.mp (I.ma b a) with e|a
 .rw [e];exact I.free
 .let(_,o,c,_):=I.ok.hU.mem a;exact I.base.free b o c (I.ok.wU b a) λz=>I.ok.CP b z a
def Inv.step{g':Array GenState}{t':Nat}{d':Drawn}{ch:List hB}(I:zv2 s)
 (t:∀b∈ch,(b∈X.ex\/X.s₀.heap.objs.size<=b)/\b≠X.env.locals/\(∀x c,X.env.cells.lookup x=fP c->c≠b)/\∀p∈X.pn++aa,p.1≠b)
 (keep:∀b o,b≠X.env.locals->b∉X.fs->b∉ch->s.heap.get? b=fP o->H b=gd->h'.get? b=fP o)
 (slot:∀b o,b≠X.env.locals->b∈X.fs->b∉ch->s.heap.get? b=fP o->H b=gd->∃D,h'.get? b=fP {o with slots:=D}) (free:∀b o,b∉ch->s.heap.get? b=fP o->H b=gd->H' b=gd)
 (there:∀b o,b∉ch->s.heap.get? b=fP o->∃y,h'.get? b=fP y)
 (hZ:∀b xs,H b=fP (.tup xs)->H' b=fP (.tup xs)) (gq:∀b o u,H b=fP (.b9 o u)->H' b=fP (.b9 o u)) (gU:∀b ps,H b=fP (.gI ps)->∃more,H' b=fP (.gI (ps++more)))
 (ns:∀m,s.heap.Ns X.env.locals m->h'.Ns X.env.locals m) (aQ:fE X.prog X.w H' h') (M:AllBare g'):
 Inv X aa σ H' {s with heap:=h',gens:=g',drawn:=d',toks:=t'}:=by
 have TH:∀b o,X.s₀.heap.get? b=fP o->b≠X.env.locals:=λb o e=>d1 (dA (cP e) I.ok.above)
 have C:∀b o,X.s₀.heap.get? b=fP o->b∉X.ex->b∉ch:=λb o e a h=>by
  rcases(t b h).1 with z|z
  .exact a z
  .exact absurd (dA (cP e) z) (Nat.lt_irrefl _)
 have f:∀x c,X.env.cells.lookup x=fP c->∀v,s.heap.IsCell c v->h'.IsCell c v:=λx c e v E=>by
  let(o,j,hd):=E;have A:c∉ch:=λz=>(t c z).2.2.1 x c e rfl;by_cases G:c∈X.fs
  .let(D,q):=slot c o (I.BP x c e) G A j (I.fK x c e);exact{_,q,hd}
  .exact{o,keep c o (I.BP x c e) G A j (I.fK x c e),hd}
 refine{I.ok,I.os,M,{λb o e n h a=>?_,λb o e n h a=>?_,λb o e n a=>?_,λb o e a=>?_,λb xs e=>hZ b xs (I.base.hZ b xs e),λb o xs e=>gq b o xs (I.base.gq b o xs e),λb ps e=>?_},?_,λx c e=>?_,?_,λx c e=>?_,λp K=>?_,aQ,I.len}
 .exact keep b o (TH b o e) h (C b o e a) (I.base.keep b o e n h a) (I.base.free b o e n a)
 .let(D,g):=I.base.slot b o e n h a;let(F,B):=slot b _ (TH b o e) h (C b o e a) g (I.base.free b o e n a);exact⟨F,B⟩
 .let(y,g):=I.base.there b o e a;exact free b y (C b o e a) g (I.base.free b o e n a)
 .let(y,g):=I.base.there b o e a;exact there b y (C b o e a) g
 .let(m1,g):=I.base.gU b ps e;let(m2,B):=gU b _ g;exact{m1++m2,by rw [B,Array.append_assoc]}
 .let(m,N,hl):=I.loc;refine{m,ns m N,λi x v g B O=>?_};let(u,r,l):=hl i x v g B O
  refine{u,r,?_};rcases l with l|⟨k,c,e,z⟩
  .exact .inl l
  .exact .inr {k,c,e,f x c e _ z}
 .let(v,z):=I.cell x c e;exact{v,f x c e v z}
 .let(m,(o,_,_,j,_),_):=I.loc;exact free _ o (λz=>(t _ z).2.1 rfl) j I.free
 .let(v,o,j,hd):=I.cell x c e;exact free c o (λz=>(t c z).2.2.1 x c e rfl) j (I.fK x c e)
 .let(e,n,ne,L,d):=I.pin p K;have A:p.1∉ch:=λz=>(t p.1 z).2.2.2 p K rfl;exact{keep p.1 p.2 ne L A e n,free p.1 p.2 A e n,ne,L,d}
def Inv.un{t':Nat}(I:zv2 s)(u:Un X.fs [] H H' s.heap h')(aQ:fE X.prog X.w H' h'):Inv X aa σ H' {s with heap:=h',toks:=t'}:=by let(m,(o,j,k,f,r),_):=id I.loc;let(p,h):=u.any f I.free (by simp);exact I.step (g':=s.gens) (d':=s.drawn) (ch:=[]) (λZ z=>nomatch z) (λb o Z a Z e n=>u.keep b o e n a (by simp)) (λb o Z a Z e n=>u.slot b o e n a (by simp)) (λb o Z e n=>u.free b o e n (by simp)) (λb o Z e=>u.there b o e (by simp)) u.hZ u.gq u.gU (λq hm=>by let(t,c,d,g,i):=hm;rw [f] at g;cases g;exact{_,c,d,h,i}) aQ I.bare
def Inv.call{g':Array GenState}{t':Nat}{d':Drawn}{ch:List hB}(I:zv2 s)(u:Un (fG X.stack) ch H H' s.heap h')(aQ:fE X.prog X.w H' h')(k:AllBare g')
 (h:∀b∈ch,(b∈X.ex\/X.s₀.heap.objs.size<=b)/\b≠X.env.locals/\(∀x c,X.env.cells.lookup x=fP c->c≠b)/\∀p∈X.pn++aa,p.1≠b):
 Inv X aa σ H' {s with heap:=h',gens:=g',drawn:=d',toks:=t'}:=by
 let(m,(o,y,A,i,r),_):=id I.loc;let(B,d):=u.any i I.free λz=>(h _ z).2.1 rfl;exact I.step (ch:=ch) h (λb o d q a e n=>u.keep b o e n (λz=>(ef.mp (I.ma b z)).elim d q) a) (λb o Z Z a e n=>u.any e n a) (λb o a e n=>u.free b o e n a) (λb o a e=>u.there b o e a) u.hZ u.gq u.gU (λC hm=>by let(D,f,g,j,t):=hm;rw [i] at j;cases j;exact{_,f,g,d,t}) aQ k
def Inv.turned{t':Nat}{it:hB}(I:zv2 s)(k:∀b o,b≠it->s.heap.get? b=fP o->h'.get? b=fP o)(hn:H it=gd)(d:it≠X.env.locals)
 (g:it∈X.ex\/X.s₀.heap.objs.size<=it) (h:∀x c,X.env.cells.lookup x=fP c->c≠it) (h3:∀p∈X.pn++aa,p.1≠it):Inv X aa σ H {s with heap:=h',toks:=t'}:=by
 have f:∀b u,H b=fP u->b≠it:=λb u e z=>by rw [z,hn] at e;cases e
 refine I.step (g':=s.gens) (d':=s.drawn) (ch:=[it]) (λb i=>?_) (λb o Z Z a e Z=>k b o (λz=>a (by simp [z])) e) (λb o Z Z a e Z=>{o.slots,k b o (λz=>a (by simp [z])) e}) (λZ Z Z Z n=>n)
  (λb o a e=>{o,k b o (λz=>a (by simp [z])) e}) (λZ Z e=>e) (λZ Z Z e=>e) (λb y e=>{#[],by rw [e];simp}) (λm hm=>?_) (λb u e=>?_) I.bare
 .have e:b=it:=zx6 i;subst e;exact⟨g,d,h,h3⟩
 .let(o,j,t,w,r):=hm;exact{o,j,t,k _ o (Ne.symm d) w,r}
 .refine(I.aQ b u e).f7 (λc v a q=>k c v ?_ q) (λZ q=>q) λZ Z q=>q
  rcases a with z|z
  .rw [z];exact f b u e
  .exact f c _ z
theorem Inv.tok(I:zv2 s)(t:Nat):Inv X aa σ H {s with toks:=t}:=I.un (h':=s.heap) (t':=t) Un.refl I.aQ
theorem Inv.kept{t':Nat}(I:zv2 s)(k:∀b u,s.heap.get? b=fP u->h'.get? b=fP u):Inv X aa σ H {s with heap:=h',toks:=t'}:=I.un (Un.kept k) (I.aQ.kept k)
theorem Inv.laid{o:HO}{t':Nat}(I:zv2 s)(k:∀b u,s.heap.get? b=fP u->h'.get? b=fP u)(c:(zz9 s)<=a)(new:cb X.prog X.w (upd H a o) h' a o):
 Inv X aa σ (upd H a o) {s with heap:=h',toks:=t'}:=I.un (Un.laid k c (I.aQ.fresh c)) (I.aQ.laid k c new)
theorem Inv.write{x e:hB}{o:HO}{t':Nat}(I:zv2 s)(a:PM (H x))(he:e=x\/H e=fP (.own x))(k:∀b u,b≠e->s.heap.get? b=fP u->h'.get? b=fP u)(c:∃u,h'.get? e=fP u)
 (new:cb X.prog X.w (upd H x o) h' x o):Inv X aa σ (upd H x o) {s with heap:=h',toks:=t'}:=I.un (Un.write a he k c) (I.aQ.write a he k c new)
def Inv.ni{a:kd}(I:zv2 s)(h:∀p∈a,s.heap.get? p.1=fP p.2/\H p.1=gd/\p.1≠X.env.locals/\p.1∉X.fs/\∀v,p.2.data≠.cell v):Inv X a σ H s:=
 {I.ok,I.os,I.bare,I.base,I.loc,I.cell,I.free,I.fK,λp b=>(List.mem_append.mp b).elim (λz=>I.pin p (d2 _ z)) (h p),I.aQ,I.len}
def kW(hN:N.Nodup){i:Nat}(a:N[i]?=fP x)(b:N[j]?=fP x):i=j:=by let(e,c):=cj.mp a;let(f,d):=cj.mp b;exact(List.getElem_inj hN).mp (c.trans d.symm)
def md{M:Model}{E:jW}{i:Nat}{Q:Unit->gB->Prop}(I:zv2 s)(hN:X.N.Nodup)(L:X.N[i]?=fP x)(B:Loc X.env.scope x)(r:RelV v u)
 (h:∀s',Inv X aa (σ.set i (fP v)) H s'->(∃a,ig.SameBut a s.heap s'.heap/\(a=X.env.locals\/X.env.cells.lookup x=fP a))->Q () s') (hf:X.fn x=gf\/X.env.scope.names.lookup x=fP .local:=by first|exact .inl rfl|exact .inr rfl|assumption):hF M A (storeName X.env x u) Q E s:=by
 let(m,T,hl):=id I.loc;have MG:(X.env.scope.kind==.class||(X.env.scope.kind==.module&&X.env.locals !=X.env.globals))=gh:=by rw [I.ok.kind];rfl
 have F:i<σ.length:=by rw [I.len];exact(cj.mp L).1
 have BP:=I.BP
 have f:∀{a:hB} {h':ig},(∃o,s.heap.get? a=fP o/\H a=gd)->ig.SameBut a s.heap h'->fE X.prog X.w H h':=λ{a h'} ha hs b ob e=>by
  let(_,_,C):=ha;refine(I.aQ b ob e).f7 (λc R t q=>(hs.2 c ?_).trans q) (λ_ q=>q) λ_ _ q=>q
  rintro rfl
  rcases t with rfl|t
  .rw [C] at e;cases e
  .rw [C] at t;cases t
 rcases B with hk|hk
 .refine wpAny_storeName_local hk T (λh' Pn hs=>?_) MG;let(oL,_,_,Po,_):=id T;refine h _ {I.ok,I.os,I.bare,{λb o e n G B=>?_,λb o e n G B=>?_,I.base.free,λb o e B=>?_,I.base.hZ,I.base.gq,I.base.gU},{_,Pn,λj y U g D W=>?_},λy c e=>?_,I.free,I.fK,λp Y=>?_,f ⟨oL,Po,I.free⟩ hs,zx6 I.len} {_,hs,.inl rfl}
  .exact(hs.2 b (d1 (dA (cP e) I.ok.above))).trans (I.base.keep b o e n G B)
  .let(Z,g):=I.base.slot b o e n G B;exact{Z,(hs.2 b (d1 (dA (cP e) I.ok.above))).trans g}
  .let(o',g):=I.base.there b o e B;exact{o',(hs.2 b (d1 (dA (cP e) I.ok.above))).trans g}
  .by_cases K:j=i
   .subst K;rw [L] at g;cases g;rw [ei F] at D;cases D;exact{u,r,.inl {hk,by simp}}
   .rw [c6 (Ne.symm K)] at D;let(u',r',q):=hl j y U g D W
    refine{u',r',?_};rcases q with⟨k,e⟩|⟨k,c,e,z⟩
    .refine .inl {k,?_};have:y≠x:=λe=>K (kW hN g (e▸L));simp [this,e]
    .exact .inr {k,c,e,z.sameBut hs (BP y c e)}
  .let(R,z):=I.cell y c e;exact{R,z.sameBut hs (BP y c e)}
  .let(e,n,ne,nf,d):=I.pin p Y;exact{(hs.2 p.1 ne).trans e,n,ne,nf,d}
 .have om:X.fn x=gf:=by
   rcases hf with z|z
   .exact z
   .rw [z] at hk;cases hk
  let(c,t):=I.ok.has x (.inl hk);let(R,z):=I.cell x c t;refine wpAny_storeName_cell I.ok.kind hk t z (λh' iY hs=>?_);let(oc,O,P):=id z;refine h {s with heap:=h'} {I.ok,I.os,I.bare,{λb o e n G B=>?_,λb o e n G B=>?_,I.base.free,λb o e B=>?_,I.base.hZ,I.base.gq,I.base.gU},{m,T.sameBut hs (Ne.symm (BP x c t)),λj y U g D W=>?_},λy S e=>?_,I.free,I.fK,λp Y=>?_,f {oc,O,I.fK x c t} hs,zx6 I.len} {c,hs,.inr t}
  .exact(hs.2 b (d1 (dA (cP e) (I.ok.Lh x c om t)))).trans (I.base.keep b o e n G B)
  .let(Z,g):=I.base.slot b o e n G B;exact{Z,(hs.2 b (d1 (dA (cP e) (I.ok.Lh x c om t)))).trans g}
  .let(o',g):=I.base.there b o e B;exact{o',(hs.2 b (d1 (dA (cP e) (I.ok.Lh x c om t)))).trans g}
  .by_cases K:j=i
   .subst K;rw [L] at g;cases g;rw [ei F] at D;cases D;exact{u,r,.inr {.inl hk,c,t,iY}}
   .rw [c6 (Ne.symm K)] at D;let(u',r',q):=hl j y U g D W
    refine{u',r',?_};rcases q with q|⟨k,S,e,z'⟩
    .exact .inl q
    .refine .inr {k,S,e,z'.sameBut hs ?_}
     rintro rfl
     exact K (kW hN g (I.ok.inj _ _ _ e t▸L))
  .by_cases mL:S=c
   .subst mL;exact{_,iY}
   .let(w2,z2):=I.cell y S e;exact{w2,z2.sameBut hs mL}
  .let(e,n,ne,nf,d):=I.pin p Y;refine{(hs.2 p.1 ?_).trans e,n,ne,nf,d};intro q;rw [q,O] at e;have q':oc=p.2:=zzq e;exact d R (by rw [<-q'];exact P)
def iN{M:Model}{E:jW}{i:Nat}{Q:Unit->gB->Prop}(I:zv2 s)(hN:X.N.Nodup)(a:X.N[i]?=fP x)(b:Loc X.env.scope x)(r:RelV v u)
 (h:∀s',Inv X aa (σ.set i (fP v)) H s'->Q () s') (c:X.fn x=gf\/X.env.scope.names.lookup x=fP .local:=by first|exact .inl rfl|exact .inr rfl|assumption):hF M A (storeName X.env x u) Q E s:=
 md I hN a b r (λs' d Z=>h s' d) c
def Inv.Qh{s':gB}{ch:List hB}(I:zv2 s)(a:s'.os=s.os)(u:Un (fG X.stack) ch H H' s.heap s'.heap)(aQ:fE X.prog X.w H' s'.heap)(d:AllBare s'.gens)
 (f:∀b∈ch,(b∈X.ex\/X.s₀.heap.objs.size<=b)/\b≠X.env.locals/\(∀x c,X.env.cells.lookup x=fP c->c≠b)/\∀p∈X.pn++aa,p.1≠b):Inv X aa σ H' s':=by
 let(h',g',d',t',g):=s';have e:g=s.os:=a;subst e;exact I.call (g':=g') (t':=t') (d':=d') u aQ d f
end
noncomputable abbrev XK:=gA->Option hB->Hp->Prop
noncomputable abbrev St:=List (Option V)
variable{σ:St}
noncomputable abbrev VK:=V->Hp->Prop
variable{Q:VK}
noncomputable abbrev TE:=St->Hp->VK->Prop
variable{te:TE}
noncomputable abbrev TT:=St->Hp->(Bool->Hp->Prop)->Prop
noncomputable abbrev TA:=St->Hp->(List V->Hp->Prop)->Prop
structure Ends where
 nx:St->Hp->Prop
 rt:VK
 bk:St->Hp->Prop:=λ_ _=>False
 ct:St->Hp->Prop:=λ_ _=>False
noncomputable abbrev TS:=Ends->St->Hp->Prop
def EP(X:Cx)(aa:kd)(b:St)(Q:VK)(u:gA)(s':gB):Prop:=∃v a,Inv X aa b a s'/\RelV v u/\Q v a
def TP(X:Cx)(aa:kd)(c:St)(Q:Bool->Hp->Prop)(b:Bool)(s':gB):Prop:=∃a,Inv X aa c a s'/\Q b a
def AP(X:Cx)(aa:kd)(c:St)(Q:List V->Hp->Prop)(us:List gA)(s':gB):Prop:=∃a b,Inv X aa c b s'/\Vals a us/\Q a b
def SP(X:Cx)(aa:kd)(D:Ends)(f:Flow)(s':gB):Prop:=
 match f with
 |.next=>∃a b,Inv X aa a b s'/\D.nx a b|.brk=>∃a b,Inv X aa a b s'/\D.bk a b|.cont=>∃a b,Inv X aa a b s'/\D.ct a b|.ret u=>∃v a b,Inv X aa a b s'/\RelV v u/\D.rt v b
def PE(X:Cx)(e:hD)(t:TE):Prop:=
 ∀(b:kd) (s:gB) (a:St) (H:Hp) (Q:VK),Inv X b a H s->t a H Q->zx7 X (eval e X.env) (EP X b a Q) X.xe s
def PT(X:Cx)(e:hD)(t:TT):Prop:=
 ∀(b:kd) (s:gB) (a:St) (H:Hp) (Q:Bool->Hp->Prop),Inv X b a H s->t a H Q->zx7 X (isTrue e X.env (eval e X.env)) (TP X b a Q) X.xe s
def PW(X:Cx)(e:hD)(t:TT):Prop:=
 ∀(a:Sem gA) (c:kd) (s:gB) (b:St) (H:Hp) (Q:Bool->Hp->Prop),Inv X c b H s->t b H Q->zx7 X (isTrue e X.env a) (TP X c b Q) X.xe s
def PW.pt{t:TT}(h:PW X e t):PT X e t:=h _
def PA(X:Cx)(d:List hD)(t:TA):Prop:=
 ∀(a:Pos) (c:kd) (s:gB) (b:St) (H:Hp) (Q:List V->Hp->Prop),Inv X c b H s->t b H Q->zx7 X (spliced (backTo a (starEach d X.env))) (AP X c b Q) X.xe s
def PS(X:Cx)(st:ix)(t:TS):Prop:=
 ∀(a:kd) (s:gB) (b:St) (H:Hp) (D:Ends),Inv X a b H s->t D b H->zx7 X (exec st X.env) (SP X a D) X.xe s
def qg(X:Cx)(st:List ix)(t:TS):Prop:=
 ∀(a:kd) (s:gB) (b:St) (H:Hp) (D:Ends),Inv X a b H s->t D b H->zx7 X (execs st X.env) (SP X a D) X.xe s
def bU{b:Type}{t:Sem b}{Q c:b->gB->Prop}{M:Model}{E:jW}{s:gB}(h:hF M A t Q E s)(d:∀a s,Q a s->c a s):hF M A t c E s:=wpAny_mono h d λZ Z x=>x
section
def bin{a b:hD}{k tb:TE}(o:PE X a k)(p:PE X b tb){s:gB}{d:St}{R:V->V->Hp->Prop}(I:Inv X aa d H s)(h:k d H λx H1=>tb d H1 λy e=>R x y e)
 {m:Type} {Q:m->gB->Prop} {f:gA->gA->Sem m}
 (hf:∀v u j x y e,Inv X aa d e j->RelV x v->RelV y u->R x y e->zx7 X (f v u) Q X.xe j):
 zx7 X (eval a X.env) (λv g=>zx7 X (eval b X.env) (λu i=>zx7 X (f v u) Q X.xe i) X.xe g) X.xe s:=by
 refine bU (o aa s d H _ I h) λv q c=>?_;let(x,H1,r,t,z):=c;refine bU (p aa q d H1 _ r z) λu j c=>?_;let(y,e,B,C,D):=c;exact hf v u j x y e B t C D
abbrev OW(i:Nat):TE:=λa H Q=>∃v,a[i]?=fP (fP v)/\Q v H
abbrev tC(v:V):TE:=λZ H Q=>Q v H
def l6{i:Nat}(hN:X.N[i]?=fP x)(d:PZ X.env.scope x)(hd:(x==(zu 33:Str))=gh:=by decide)(f:(x==("__classdict__":Str))=gh:=by decide):PE X (.Name x pos) (OW i):=by
 intro g s j H Q I h;let(v,e,h):=h;let(m,k,hl):=I.loc;let(u,r,l):=hl i x v hN e d;have fin:EP X g j Q u s:=⟨v,H,I,r,h⟩
 rcases l with⟨hk,hm⟩|⟨hk,c,a,b⟩
 .exact wpAny_Name (wpAny_loadName_local I.ok.kind hk k hm fin) hd
 .rcases hk with hk|hk
  .exact wpAny_Name (wpAny_loadName_cell I.ok.kind hk a b fin) hd
  .exact wpAny_Name (wpAny_loadName_free I.ok.kind hk a b fin f) hd
def EO{i j pos}:PE X (.Constant (.int i) j pos) (tC (.int i)):=λZ Z Z H Z I h=>wpAny_Constant_int {.int i,H,I.tok _,{_,rfl},h}
def RY{b j pos}:PE X (.Constant (.bool b) j pos) (tC (.bl b)):=λZ Z Z H Z I h=>Constant_bool {.bl b,H,I,rfl,h}
def N0{j pos}:PE X (.Constant .none j pos) (tC .aN):=λZ Z Z H Z I h=>Constant_none {.aN,H,I,rfl,h}
def EV{x j pos}:PE X (.Constant (.str x) j pos) (tC (.str x)):=λZ Z Z H Z I h=>Calls.Constant_str {.str x,H,I.tok _,{_,rfl},h}
def Gl(X:Cx)(x:Str):Prop:=X.env.kindOf x=fP .globalImplicit
def eh{E:jW}{s:gB}{a:St}{Q:jW}(I:Inv X aa a H s)(b:Gl X x)(hm:X.mg x=fP u)(h:Q u s)
 (hd:(x==(zu 33:Str))=gh:=by decide):zx7 X (eval (.Name x pos) X.env) Q E s:=
 Calls.Name_function_global I.ok.kind b (Calls.loadGlobal_global (by rw [I.ok.glob];exact I.mod.glob.keeps I.bk) hm h) hd
def j1{E:jW}{s:gB}{a:St}{Q:jW}(I:Inv X aa a H s)(b:Gl X x)(hm:X.mg x=gd)(c:bootBuiltins x=fP u)(h:Q u s)
 (hn:x≠(zu 51):=by decide) (hd:(x==(zu 33:Str))=gh:=by decide):zx7 X (eval (.Name x pos) X.env) Q E s:=by
 let(mb,d,e):=I.mod.blt;exact Calls.Name_function_global I.ok.kind b (Calls.loadGlobal_builtin (by rw [I.ok.glob];exact I.mod.glob.keeps I.bk) hm (by rw [I.ok.blt];exact d.keeps I.bk) ((e x hn).trans c) h) hd
def zq(a:Gl X x)(hm:X.mg x=fP u)(r:RelV v u)(hd:(x==(zu 33:Str))=gh:=by decide):PE X (.Name x pos) (tC v):=
 λZ Z Z H Z I h=>eh I a hm ⟨v,H,I,r,h⟩ hd
def zj(a:Gl X x)(hm:X.mg x=gd)(b:bootBuiltins x=fP u)(r:RelV v u)(hn:x≠(zu 51):=by decide)(hd:(x==(zu 33:Str))=gh:=by decide):PE X (.Name x pos) (tC v):=
 λZ Z Z H Z I h=>j1 I a hm b ⟨v,H,I,r,h⟩ hn hd
variable{a b:hD}{ta tb:TE}
abbrev tB(t:TE):TT:=λd H Q=>t d H λx e=>∃c,x=.bl c/\Q c e
def Oc{t:TE}(h:PE X e t)(he:∀c,isTrue e X.env c=(do let v<-c;standAt e.pos;holding [v] (truthy v)):=by intro _;rfl):PT X e (tB t):=by intro g s i H Q I j;refine isTrue_plain (bU (h g s i H _ I j) λv r f=>?_) (he _);let(x,k,m,o,p):=f;let(d,rfl,q):=p;cases o;exact wpAny_truthy_bool ⟨k,m,q⟩
variable{tA TM:TT}{rest:List hD}
abbrev WE(t u:TT):TT:=λd H Q=>t d H λc e=>if c=gf then u d e Q else Q gh e
abbrev tOr(t u:TT):TT:=λd H Q=>t d H λc e=>if c=gf then Q gf e else u d e Q
abbrev WL(t:TT):TT:=λd H Q=>t d H λc e=>Q (!c) e
def pw_and1(d:PT X a tA):PW X (.BoolOp .And [a] pos) tA:=by
 intro i f s g H Q I h;refine isTrue_and (bU (d f s g H Q I h) λc j e=>?_)
 cases c with
 |true=>exact isTrue_and_nil e|false=>exact e
def pw_or1(d:PT X a tA):PW X (.BoolOp .Or [a] pos) tA:=by
 intro i f s g H Q I h;refine isTrue_or (bU (d f s g H Q I h) λc j e=>?_)
 cases c with
 |false=>exact isTrue_or_nil e|true=>exact e
def pw_and(k:PT X a tA)(m:PW X (.BoolOp .And (b::rest) pos) TM):PW X (.BoolOp .And (a::b::rest) pos) (WE tA TM):=by
 intro o e s f H Q I h;refine isTrue_and (bU (k e s f H _ I h) λc p d=>?_);let(g,i,j):=d
 cases c with
 |true=>exact m o e p f g Q i j|false=>exact⟨g,i,j⟩
def pw_or(k:PT X a tA)(m:PW X (.BoolOp .Or (b::rest) pos) TM):PW X (.BoolOp .Or (a::b::rest) pos) (tOr tA TM):=by
 intro o e s f H Q I h;refine isTrue_or (bU (k e s f H _ I h) λc p d=>?_);let(g,i,j):=d
 cases c with
 |true=>exact⟨g,i,j⟩|false=>exact m o e p f g Q i j
def Oa(d:PT X a tA):PT X (.UnaryOp .Not a pos) (WL tA):=by intro e s f H Q I h;exact isTrue_not (d e s f H (λc g=>Q (!c) g) I h)
abbrev SF(ta tb:TE):TE:=λd H Q=>ta d H λx e=>∃c,x=.bl c/\if c=gf then tb d e Q else Q (.bl gh) e
abbrev WM(ta tb:TE):TE:=λd H Q=>ta d H λx e=>∃c,x=.bl c/\if c=gf then Q (.bl gf) e else tb d e Q
abbrev SK(ta:TE):TE:=λd H Q=>ta d H λx e=>∃c,x=.bl c/\Q (.bl (!c)) e
def ES{op}{t:TE}(h:PE X a t):PE X (.BoolOp op [a] pos) t:=λc s d H Q I e=>BoolOp_one (h c s d H Q I e)
def NW(k:PE X a ta)(m:PE X (.BoolOp .And (b::rest) pos) tb):PE X (.BoolOp .And (a::b::rest) pos) (SF ta tb):=by
 intro f s g H Q I h;refine BoolOp_and (bU (k f s g H _ I h) λv o e=>?_);let(x,i,j,p,d):=e;let(c,rfl,d):=d
 cases p;refine wpAny_truthy_bool ?_;cases c with
 |true=>exact m f o g i Q j d|false=>exact{.bl gh,i,j,rfl,d}
def Sa(k:PE X a ta)(m:PE X (.BoolOp .Or (b::rest) pos) tb):PE X (.BoolOp .Or (a::b::rest) pos) (WM ta tb):=by
 intro f s g H Q I h;refine BoolOp_or (bU (k f s g H _ I h) λv o e=>?_);let(x,i,j,p,d):=e;let(c,rfl,d):=d
 cases p;refine wpAny_truthy_bool ?_;cases c with
 |false=>exact m f o g i Q j d|true=>exact{.bl gf,i,j,rfl,d}
def N1(f:PE X a ta):PE X (.UnaryOp .Not a pos) (SK ta):=by intro g s i H Q I h;refine UnaryOp_ (bU (f g s i H _ I h) λv o d=>?_);let(x,j,k,m,e):=d;let(c,rfl,e):=e;cases m;exact not_of (wpAny_truthy_bool {.bl (!c),j,k,rfl,e})
abbrev tIf(t:TT)(ta tb:TE):TE:=λd H Q=>t d H λc e=>if c=gf then ta d e Q else tb d e Q
def vE{c:hD}(o:PT X c tA)(p:PE X a ta)(q:PE X b tb):PE X (.IfExp c a b pos) (tIf tA ta tb):=by
 intro e s f H Q I h;refine wpAny_IfExp (bU (o e s f H _ I h) λd i g=>?_);let(j,k,m):=g
 cases d with
 |true=>exact p e i f j Q k m|false=>exact q e i f j Q k m
end
def iQ(K:zz8)(H:Hp)(a:hB)(xs:List V):Prop:=
 Rd H a (.lst xs)\/
  ∃(o:Obj) (b:Array gA) (n:Nat),K.lookup a=fP o/\o.cls=.type "list"/\o.dict=gd/\o.data=.seq b n/\b.size<=iv/\Vals xs b.toList
def gH(K:zz8)(H:Hp)(a:hB)(xs:List V):Prop:=
 Rd H a (.tup xs)\/
  ∃(o:Obj) (b:Array gA) (n:Nat),K.lookup a=fP o/\o.cls=.type "tuple"/\o.data=.seq b n/\b.size<=iv/\Vals xs b.toList
abbrev Uu:gA->Option V
 |.none=>fP .aN|.bool b=>fP (.bl b)|.int i _=>fP (.int i)|.str x _=>fP (.str x)|.bytes b _=>fP (.Ti b)|.float b _=>fP (.Tq b)|.ref a=>fP (.ref a)|.type n=>fP (.ty n)|_=>gd
def RelV.abs{x:V}(r:RelV x u):Uu u=fP x:=by
 cases x with
 |aN=>cases r;rfl
 |bl _=>cases r;rfl
 |int _=>let(t,rfl):=r;rfl|str _=>let(t,rfl):=r;rfl|Ti _=>let(t,rfl):=r;rfl|Tq _=>let(t,rfl):=r;rfl|ref _=>cases r;rfl
 |ty _=>cases r;rfl
def RelV.inj{x y:V}(r:RelV x u)(q:RelV y u):x=y:=zzq (r.abs.symm.trans q.abs)
def Vals.inj{xs ys:List V}(r:Vals xs us)(q:Vals ys us):xs=ys:=by
 induction r generalizing ys with
 |nil=>cases q;rfl
 |cons r _ a=>
  cases q with
  |cons b c=>rw [r.inj b,a c]
section
variable{s:gB}{xs ys:List V}
def iQ.of{K:zz8}(h:H a=fP (.lst xs)):iQ K H a xs:=.inl (.inl h)
def Inv.list(I:zv2 s)(h:iQ X.K H a xs):∃b:List gA,Vals xs b/\PlainL s.heap a b.toArray/\xs.length<=sizeLine:=by
 rcases h with h|⟨o,b,n,hk,c,hd,hs,d,r⟩
 .let(z,b,n,r,e):=h.ok I.aQ;exact{b,r,{_,n,e,rfl,rfl,rfl},z}
 .refine{b.toList,r,{o,n,I.jY a o hk,c,hd,zx6 hs},?_};have e:=r.length;simp! [d3] at e;lia
def Inv.tuple(I:zv2 s)(h:gH X.K H a xs):∃b:List gA,Vals xs b/\IsTup s.heap a b.toArray/\xs.length<=sizeLine:=by
 rcases h with h|⟨o,b,n,hk,c,hs,d,r⟩
 .let(z,b,r,p):=h.ok I.aQ;exact⟨b,r,p,z⟩
 .refine{b.toList,r,{o,I.jY a o hk,c,n,zx6 hs},?_};have e:=r.length;simp! [d3] at e;lia
def Inv.ve(I:zv2 s)(h:iQ X.K H a xs)(h':iQ X.K H a ys):xs=ys:=by
 let(g,r,(o,n,e,_,_,d),_):=I.list h;let(b,i,(k,m,c,_,_,f),_):=I.list h';rw [e] at c;cases c;rw [d] at f
 injection f with j _
 have:g=b:=by simpa using congrArg Array.toList j
 subst this;exact r.inj i
def Inv.rg(I:zv2 s)(h:gH X.K H a xs)(h':gH X.K H a ys):xs=ys:=by
 let(g,r,(o,e,_,n,d),_):=I.tuple h;let(b,i,(k,c,_,m,f),_):=I.tuple h';rw [e] at c;cases c;rw [d] at f
 injection f with j _
 have:g=b:=by simpa using congrArg Array.toList j
 subst this;exact r.inj i
variable{rest:List ix}{t u:TS}
def SJ:TS:=λD σ H=>D.nx σ H
abbrev WO(t u:TS):TS:=λD σ H=>t {D with nx:=u D} σ H
def sR:qg X [] SJ:=λZ Z σ H Z I h=>wpAny_execs_nil ⟨σ,H,I,h⟩
def vJ(c:PS X st t)(d:qg X rest u):qg X (st::rest) (WO t u):=by
 intro aa s σ H D I h;refine wpAny_execs_cons (bU (c aa s σ H {D with nx:=u D} I h) λf g q=>?_)
 cases f with
 |next=>let(b,i,j,q):=q;exact d aa g b i D j q|ret v=>exact q|brk=>exact q|cont=>exact q
def sS(b:PS X st t):qg X [st] t:=by
 intro aa s σ H D I h;refine wpAny_execs_cons (bU (b aa s σ H D I h) λf c q=>?_)
 cases f with
 |next=>exact wpAny_execs_nil q|ret v=>exact q|brk=>exact q|cont=>exact q
def Inv.quiet{s:gB}(I:zv2 s):interactive X.env=gh:=by simp [interactive,I.ok.kind]
abbrev SH(te:TE):TS:=λD σ H=>te σ H λZ b=>D.nx σ b
theorem sO(he:PE X e te)(hs:swapsWith e gd pos.line X.env=pure gh:=by rfl):PS X (.Expr e pos) (SH te):=by intro aa s σ H D I h;exact wpAny_Expr_any (bU (he aa s σ H _ I h) λv d ⟨x,H1,b,f,c⟩=>⟨σ,H1,b,c⟩) I.quiet hs
abbrev OU(te:TE):TS:=λD σ H=>te σ H D.rt
def sP(he:PE X e te):PS X (.Return (fP e) pos) (OU te):=by intro aa s σ H D I h;exact wpAny_Return_some (bU (he aa s σ H _ I h) λv f ⟨x,H1,b,c,d⟩=>⟨x,σ,H1,b,c,d⟩)
abbrev WI(c:TT)(t u:TS):TS:=λD σ H=>c σ H λb d=>if b=gf then t D σ d else u D σ d
def KC{c:hD}{a b:List ix}{g:TT}(o:PT X c g)(p:qg X a t)(q:qg X b u):PS X (.If c a b pos) (WI g t u):=by
 intro aa s σ H D I h;refine wpAny_If (bU (o aa s σ H _ I h) λd i f=>?_);let(j,k,m):=f
 cases d with
 |true=>exact p aa i σ j D k m|false=>exact q aa i σ j D k m
end
noncomputable abbrev TG:=V->St->Hp->(St->Hp->Prop)->Prop
noncomputable abbrev JX:=List V->St->Hp->(St->Hp->Prop)->Prop
def PG(X:Cx)(a:hD)(t:TG):Prop:=
 ∀(c:kd) (s:gB) (d:St) (H:Hp) (v:V) (u:gA) (Q:St->Hp->Prop),Inv X c d H s->RelV v u->t v d H Q->
  zx7 X (assign a X.env u) (λZ f=>∃b e,Inv X c b e f/\Q b e) X.xe s
def PN(X:Cx)(ts:List hD)(t:JX):Prop:=
 ∀(b:kd) (s:gB) (c:St) (H:Hp) (d:List V) (e:List gA) (Q:St->Hp->Prop),Inv X b c H s->Vals d e->t d c H Q->
  zx7 X (assignInOrder ((assignEach ts X.env).map (·.2)) e) (λZ g=>∃a f,Inv X b a f g/\Q a f) X.xe s
noncomputable abbrev K6:=V->V->V->Hp->(Hp->Prop)->Prop
def PQ(X:Cx)(t:K6):Prop:=
 ∀(a:kd) (s:gB) (b:St) (H:Hp) (o i v:V) (c d u:gA) (Q:Hp->Prop),Inv X a b H s->RelV o c->RelV i d->RelV v u->t o i v H Q->
  zx7 X (setItem c d u) (λZ f=>∃e,Inv X a b e f/\Q e) X.xe s
abbrev iz(i:Nat):TG:=λv a H Q=>Q (a.set i (fP v)) H
def I0{i:Nat}(hN:X.N.Nodup)(a:X.N[i]?=fP x)(b:Loc X.env.scope x)(c:X.fn x=gf\/X.env.scope.names.lookup x=fP .local:=by first|exact .inl rfl|exact .inr rfl|assumption):PG X (.Name x pos) (iz i):=by intro e s f H v u Q I r h;exact wpAny_assign_Name (iN I hN a b r (λg d=>{_,H,d,h}) c)
abbrev L4:JX:=λa b H Q=>a=[]/\Q b H
abbrev yC(t:TG)(u:JX):JX:=λb c H Q=>∃v r,b=v::r/\t v c H λa d=>u r a d Q
def Ja:PN X [] L4:=by intro b s a H c d Q I r h;let(e,h):=h;subst e;cases r;exact assignInOrder_nil ⟨a,H,I,h⟩
theorem EY{a:List hD}{t:TG}{u:JX}(f:PG X e t)(g:PN X a u)
 (hs:(assignEach (e::a) X.env).map (·.2)=assign e X.env::(assignEach a X.env).map (·.2):=by rfl):PN X (e::a) (yC t u):=by
 intro d s i H w y Q I r h;let(v,z,j,h):=h
 subst j;cases r with
 |cons r k=>rw [hs];refine assignInOrder_cons (bU (f d s i H _ _ _ I r h) λZ m b=>?_);let(c,o,p,q):=b;exact g d m c o _ _ Q p k q
abbrev QA(K:zz8)(n:Nat)(t:JX):TG:=λv b H Q=>∃a xs,v=.ref a/\gH K H a xs/\xs.length=n/\t xs b H Q
theorem N5{c:List hD}{k:Nat}{t:JX}{n:Nat}(j:X.calm=gf)(h:PN X c t)
 (hn:(assignEach c X.env).length=n:=by rfl) (m:(assignEach c X.env).findIdx? (·.1)=gd:=by rfl):PG X (.Tuple c k pos) (QA X.K n t):=by
 intro f s g H v u Q I r d;let(a,xs,p,q,hl,d):=d;subst p;cases r;let(B,i,w,C):=I.tuple q;refine assign_Tuple_tuple (I.ok.hd j) w (by simp [hn,<-hl,i.length]) m λy z=>?_;have A:Inv X f g H {s with heap:=y}:=I.kept (t':=s.toks) λb o e=>z b o (d1 (cP e)) e;exact h f _ g H xs _ Q A (zx6 i) d
abbrev UW(b c:TE)(t:K6):TG:=λv a H Q=>b a H λo d=>c a d λi e=>t o i v e λf=>Q a f
def N4{o i:hD}{f g:TE}{t:K6}(j:PE X o f)(k:PE X i g)(hs:PQ X t)
 (m:∀v,assign (.Subscript o i pos) X.env v=(do
  let b<-holding [v] (eval o X.env);let c<-holding [v,b] (eval i X.env)
  standAt pos
  holding [v,b,c] (setItem b c v)
  release [v,b,c] []):=by intro _;rfl):PG X (.Subscript o i pos) (UW f g t):=by
 intro e s d H v u Q I r h;rw [m];refine ar (wpAny_holding (bU (j e s d H _ I h) λb p a=>?_));let(x,q,w,z,A):=a;refine ar (wpAny_holding (bU (k e p d q _ w A) λc B a=>?_));let(y,C,D,E,F):=a;refine ar (wpAny_standAt (ar (wpAny_holding (bU (hs e B d C x y v b c u _ D z E r F) λZ M a=>?_))));let(G,K,L):=a;exact wpAny_release ⟨d,G,K,L⟩
abbrev JE(te:TE)(g:TG):TS:=λD a H=>te a H λx b=>g x a b D.nx
theorem E8{a:hD}{g:TG}(he:PE X e te)(f:PG X a g)(hs:swapsWithSole [a] e pos.line X.env=pure gh:=by rfl)(i:swappedStores [a] e X.env=pure gd:=by rfl)
 (j:(assignEach [a] X.env).map (·.2)=[assign a X.env]:=by rfl):PS X (.Assign [a] e pos) (JE te g):=by
 intro c s d H D I h;refine wpAny_Assign_stores (bU (he c s d H _ I h) λv k b=>?_) hs i;let(x,m,o,p,r):=b;rw [j];exact bU (f c k d m x v _ o p r) λZ t q=>q
theorem oQ{i:Nat}{a:Pos}(hN:X.N.Nodup)(c:X.N[i]?=fP x)(d:Loc X.env.scope x)(he:PE X e te)(hs:swapsWith e (fP (.Name x a)) pos.line X.env=pure gh:=by rfl)(f:X.fn x=gf\/X.env.scope.names.lookup x=fP .local:=by first|exact .inl rfl|exact .inr rfl|assumption):
 PS X (.Assign [.Name x a] e pos) (JE te (iz i)):=by
 intro g s j H D I h;refine wpAny_Assign_Name (bU (he g s j H _ I h) λv r b=>?_) hs;let(y,k,m,o,p):=b;exact iN m hN c d o (λt q=>{_,k,q,p}) f
abbrev WN(i j:Nat)(b:TA):TS:=λD a H=>b a H λc d=>∃v w,c=[v,w]/\D.nx ((a.set i (fP v)).set j (fP w)) d
theorem Fb{i:Nat}{y:Str}{a b:hD}{t:TA}{g k pt:Pos}{kt k2 m}(F:X.calm=gf)(hN:X.N.Nodup)(G:X.N[i]?=fP x)(K:X.N[j]?=fP y)(L:i≠j)
 (u:X.env.scope.names.lookup x=fP .local) (z:X.env.scope.names.lookup y=fP .local) (M:PA X [a,b] t)
 (hw:swappedStores [.Tuple [.Name x g,.Name y k] kt pt] (.Tuple [a,b] k2 m) X.env=pure (fP [x,y]))
 (hs:swapsWithSole [.Tuple [.Name x g,.Name y k] kt pt] (.Tuple [a,b] k2 m) pos.line X.env=pure gh:=by rfl):
 PS X (.Assign [.Tuple [.Name x g,.Name y k] kt pt] (.Tuple [a,b] k2 m) pos) (WN i j t):=by
 intro B s C H D I h;rw [exec_Assign_arm];refine ar (wpAny_standAt ?_);rw [hs];refine ar (bT ?_);rw [if_neg (by decide)];refine ar (Tuple_ (bU (M _ B s C H _ I h) λO c ⟨vs,H1,P,Q,r⟩=>?_));let(v,w,R,r):=r
 subst R;obtain⟨d,f,rfl,S,T⟩:∃d f,O=[d,f]/\RelV v d/\RelV w f:=by
  cases Q with
  |cons p q=>
   cases q with
   |cons U V=>cases V;exact{_,_,rfl,p,U}
 refine wpAny_newObj_type ?_ (by show 2<=iv;decide);have W:Inv X B C H1 {c with heap:=c.heap.push {cls:=.type "tuple",data:=.seq [d,f].toArray}}:=P.kept (t':=c.toks) λb o e=>aT _ e;rw [hw];refine ar (bT ?_);show zx7 X (do rule "assign.swapped-stores";let items<-unpackItems (.ref (zz9 c)) 2 gd;assignInOrder [λv=>bindName X.env y v,λv=>bindName X.env x v] items.reverse;pure Flow.next) _ _ _;refine ar (wpAny_rule (ar (unpackItems_tuple (items:=#[d,f]) (I.ok.hd F) (IsTup.new c.heap _) λh' Y=>?_)));have Z:=W.kept (h':=h') (t':=c.toks) λb o e=>Y b o (d1 (cP e)) e;show hF _ _ (assignInOrder [λv=>bindName X.env y v,λv=>bindName X.env x v] [f,d]>>=λ_=>pure Flow.next) _ _ _;refine ar (assignInOrder_cons (wpAny_bindName (iN Z hN K (.inl z) T (λs2 I4=>?_) (.inr z))));refine assignInOrder_cons (wpAny_bindName (iN I4 hN G (.inl u) S (λs3 E=>assignInOrder_nil (bT ?_)) (.inr u)));rw [List.set_comm _ _ (Ne.symm L)] at E;exact{_,H1,E,r}
structure It where
 go:Nat->Hp->Prop
 PH:Nat->Hp->V->Hp->Prop
 stop:Nat->Hp->Prop
def jo(X:Cx)(aa:kd)(H:Hp)(b:hB):Prop:=
 H b=gd/\b≠X.env.locals/\b∉X.fs/\(b∈X.ex\/X.s₀.heap.objs.size<=b)/\(∀x c,X.env.cells.lookup x=fP c->c≠b)/\∀p∈X.pn++aa,p.1≠b
def Inv.uS{f:St}{d:Hp}{s:gB}{b:hB}(I:Inv X aa f H s)(a:(zz9 s)<=b)(hn:d b=gd):jo X aa d b:=by
 refine{hn,Nat.ne_of_gt (dA I.lt a),I.Wg a,.inr (di I.sz a),λx c e z=>?_,λp g z=>?_}
 .let(v,q):=I.cell x c e;exact absurd (dA q.lt (by rw [z];exact a)) (Nat.lt_irrefl _)
 .exact absurd (dA (cP (I.pin p g).1) (by rw [z];exact a)) (Nat.lt_irrefl _)
structure Turn(P:hG)(w:hI)(K:zz8)(tg:hD)(J:It)(fp:List hB)(it:hB)(tn:Nat->ig->Prop):Prop where
 mem:it∈fp
 obj:∀i h,tn i h->∀b∈fp,∃o,h.get? b=fP o/\∀v,o.data≠.cell v
 keep:∀i h h',tn i h->(∀b∈fp,∀o,h.get? b=fP o->h'.get? b=fP o)->tn i h'
 item:∀(X:Cx),X.prog=P->X.w=w->X.K=K->X.calm=gf->∀(i:Nat) (aa:kd) (s:gB) (σ:St) (H:Hp) (E:jW),Inv X aa σ H s->(∀b∈fp,jo X aa H b)->tn i s.heap->J.go i H->
  hF (hT P w) X.A (pyNext (.ref it)) (λr s1=>∃u,r=fP u/\
   hF (hT P w) X.A (letOwnedTupleGo tg (.ref it) u) (λ_ s2=>∃x H',Inv X aa σ H' s2/\RelV x u/\J.PH i H x H'/\tn (i+1) s2.heap/\∀b∈fp,H' b=gd) E s1) E s
 done:∀(X:Cx),X.prog=P->X.w=w->X.K=K->X.calm=gf->∀(i:Nat) (aa:kd) (s:gB) (σ:St) (H:Hp) (E:jW),Inv X aa σ H s->(∀b∈fp,jo X aa H b)->tn i s.heap->J.stop i H->
  hF (hT P w) X.A (pyNext (.ref it)) (λr s1=>r=gd/\Inv X aa σ H s1) E s
 self:∀(A:h9) (i:Nat) (s:gB) (Q:jW) (E:jW),tn i s.heap->Q (.ref it) s->hF (hT P w) A (pyIter (.ref it)) Q E s
noncomputable abbrev TI:=St->Hp->(It->Hp->Prop)->Prop
def Ug(X:Cx)(aa:kd)(d:St)(e:hD)(R:It->Hp->Prop)(f:gA)(c:gB):Prop:=
 ∃(it:hB) (fp:List hB) (tn:Nat->ig->Prop) (J:It) (a:Hp),f=.ref it/\Inv X aa d a c/\Turn X.prog X.w X.K e J fp it tn/\tn 0 c.heap/\(∀b∈fp,jo X aa a b)/\R J a
def PI(X:Cx)(c iter:hD)(d:TI):Prop:=
 ∀(b:kd) (s:gB) (a:St) (H:Hp) (R:It->Hp->Prop),Inv X b a H s->d a H R->
  zx7 X (eval iter X.env) (λv e=>zx7 X (pyIter v) (Ug X b a c R) X.xe e) X.xe s
def uW{M:Model}{E:jW}{s:gB}{b:hD}{it:hB}{n:String}{vs:Array gA}{Q:Unit->gB->Prop}(c:s.heap.get? it=fP o)(d:o.cls=.type n)(hd:o.data=.fields vs)
 (hn:["enumerate","zip","dict_itemiterator","dict_reverseitemiterator","odict_iterator","itertools.zip_longest","itertools.pairwise"].contains n=gh) (a:Q () s):hF M A (letOwnedTupleGo b (.ref it) u) Q E s:=by
 unfold letOwnedTupleGo;cases b<;>first
  |exact bT a
  |(cases u<;>first
   |exact bT a
   | (refine ar (wpAny_load c ?_)
      rw [d,hd];show hF M A (if(["enumerate","zip","dict_itemiterator","dict_reverseitemiterator","odict_iterator","itertools.zip_longest","itertools.pairwise"].contains n&&vs[0]?==fP (rawInt _))=gf then _ else _) Q E s;rw [if_neg (by intro h;rw [hn,Bool.false_and] at h;cases h)];exact bT a))
abbrev Ud(K:zz8)(a:hB):It:=
 {λi H=>∃xs x,iQ K H a xs/\xs[i]?=fP x,λi H x b=>b=H/\∀xs,iQ K H a xs->xs[i]?=fP x,λi H=>∃xs,iQ K H a xs/\xs.length<=i}
abbrev Ue(K:zz8)(a:hB):It:=
 {λi H=>∃xs x,gH K H a xs/\xs[i]?=fP x,λi H x b=>b=H/\∀xs,gH K H a xs->xs[i]?=fP x,λi H=>∃xs,gH K H a xs/\xs.length<=i}
abbrev S4(a:Int)(n:Nat):It:={λi Z=>i<n,λi H x b=>b=H/\x=.int (a+i),λi Z=>n<=i}
def BH{P:hG}{K:zz8}{Q:hD}(a it:hB):Turn P w K Q (Ud K a) [it] it (λi h=>h.IsListIter it a i) where
 mem:=by simp
 obj:=λi h st b f=>by have e:b=it:=zx6 f;subst e;let(o,e,c,d):=st;exact{o,e,λv z=>by rw [d] at z;cases z}
 keep:=λi h g st k=>st.at λo e=>k it (by simp) o e
 item:=by intro X q r hK L i M s N H E I j st t;subst q r hK;let(xs,x,m,y):=t;let(R,A,p,S):=I.list m;let(u,T,U):=A.get y;let(B,C,V,D,F,G):=j it (by simp);refine wpAny_pyNext_list_item st p.isList (x:=u) (zx6 T) λg O W=>?_;have Y:Inv X M N H {s with heap:=g}:=I.turned (t':=s.toks) (λb o f e=>(W.2 b f).trans e) B C D F G;let(o,e,c,d):=id O;exact{u,rfl,uW (s:={s with heap:=g}) e c d (by decide) {x,H,Y,U,{rfl,λys Z=>by rw [I.ve Z m];exact y},O,λb f=>(j b f).1}}
 done:=by intro X q r hK L i M s N H E I j st t;subst q r hK;let(xs,m,y):=t;let(R,A,p,S):=I.list m;let(B,C,V,D,F,G):=j it (by simp);have hl:=A.length;exact wpAny_pyNext_list_end (I.ok.hd L) st p.isList (by simp;lia) λg eb=>{rfl,I.turned (t':=s.toks) (λb o f e=>eb b o f e) B C D F G}
 self:=λ_ _ _ _ _ st h=>wpAny_pyIter_listiter st h
def xY{P:hG}{K:zz8}{R:hD}(a it:hB):Turn P w K R (Ue K a) [it] it (λi h=>h.IsTupleIter it a i) where
 mem:=by simp
 obj:=λi h st b f=>by have e:b=it:=zx6 f;subst e;let(o,e,c,d):=st;exact{o,e,λv z=>by rw [d] at z;cases z}
 keep:=λi h g st k=>st.at λo e=>k it (by simp) o e
 item:=by intro X q r hK M i N s O H E I j st t;subst q r hK;let(xs,x,m,y):=t;let(A,B,p,S):=I.tuple m;let(u,T,U):=B.get y;let(C,D,V,F,G,L):=j it (by simp);refine wpAny_pyNext_tuple_item st (show s.heap.IsTuple a A.toArray from p) (x:=u) (zx6 T) λg Q W=>?_;have Y:Inv X N O H {s with heap:=g}:=I.turned (t':=s.toks) (λb o f e=>(W.2 b f).trans e) C D F G L;let(o,e,c,d):=id Q;exact{u,rfl,uW (s:={s with heap:=g}) e c d (by decide) {x,H,Y,U,{rfl,λys Z=>by rw [I.rg Z m];exact y},Q,λb f=>(j b f).1}}
 done:=by intro X q r hK M i N s O H E I j st t;subst q r hK;let(xs,m,y):=t;let(A,B,p,S):=I.tuple m;let(C,D,V,F,G,L):=j it (by simp);have hl:=B.length;exact wpAny_pyNext_tuple_end (I.ok.hd M) st (show s.heap.IsTuple a A.toArray from p) (by simp;lia) λg eb=>{rfl,I.turned (t':=s.toks) (λb o f e=>eb b o f e) C D F G L}
 self:=λ_ _ _ _ _ st h=>wpAny_pyIter_tupleiter st h
def xX{P:hG}{w:hI}{K:zz8}{G:hD}(it:hB)(c:Int)(n:Nat):Turn P w K G (S4 c n) [it] it (λi h=>IsRangeIter h it (c+(i:Nat)*1) ((n:Int)-(i:Nat)) 1) where
 mem:=by simp
 obj:=λi h st b a=>by have e:b=it:=zx6 a;subst e;exact{_,st,λv z=>by have L:Data.fields _=Data.cell v:=z;cases L}
 keep:=λi h d st k=>k it (by simp) _ st
 item:=by intro X g j hK m i B s C H E I f st p;subst g j hK;let(q,r,M,u,y,A):=f it (by simp);have W:=Walks.range (prog:=X.prog) (w:=X.w) (I.ok.hd m) it c 1 n;refine W.item i s _ _ p st λv d D N F O=>?_;let(t,rfl):=N;have Q:Inv X B C H {s with heap:=d,toks:=D}:=I.turned (λb o a e=>O b o (zx6 a) e) q r u y A;refine{_,rfl,uW (s:={s with heap:=d,toks:=D}) (n:="range_iterator") F rfl rfl (by decide) {.int (c+i),H,Q,{t,?_},⟨rfl,rfl⟩,F,λb a=>(f b a).1}};rw [Int.mul_one]
 done:=by intro X g j hK m i B s C H E I f st p;subst g j hK;let(q,r,M,u,y,A):=f it (by simp);exact wpAny_pyNext_range_end (I.ok.hd m) st (by have:n<=i:=p;lia) λd R=>{rfl,I.turned (t':=s.toks) (λb o a e=>R b o a e) q r u y A}
 self:=λZ Z Z Z Z st h=>wpAny_pyIter_rangeiter st h
section
variable{tg:hD}
abbrev Ko(K:zz8)(c:TE):TI:=λd H R=>c d H λx b=>∃a,x=.ref a/\(∃xs,iQ K b a xs)/\R (Ud K a) b
abbrev VJ(K:zz8)(c:TE):TI:=λd H R=>c d H λx b=>∃a,x=.ref a/\(∃xs,gH K b a xs)/\R (Ue K a) b
def sL{l:hD}{g:TE}(hl:PE X l g):PI X tg l (Ko X.K g):=by intro i s j H R I h;refine bU (hl i s j H _ I h) λv c f=>?_;let(x,k,d,m,r):=f;let(a,e,(xs,t),q):=r;subst e;cases m;let(w,y,p,z):=d.list t;refine wpAny_pyIter_list p.isList ?_;refine{(zz9 c),[(zz9 c)],_,_,k,rfl,d.kept (t':=c.toks) λb o e=>aT _ e,BH a _,{_,dV _ rfl,rfl,rfl},λb u=>?_,q};have e:b=(zz9 c):=zx6 u;subst e;exact d.uS (a8 _) (d.aQ.fresh (a8 _))
def N7{l:hD}{g:TE}(hl:PE X l g):PI X tg l (VJ X.K g):=by intro i s j H R I h;refine bU (hl i s j H _ I h) λv c f=>?_;let(x,k,d,m,r):=f;let(a,e,(xs,t),q):=r;subst e;cases m;let(u,y,p,z):=d.tuple t;refine wpAny_pyIter_tuple (show c.heap.IsTuple a u.toArray from p) ?_;refine{(zz9 c),[(zz9 c)],_,_,k,rfl,d.kept (t':=c.toks) λb o e=>aT _ e,xY a _,{_,dV _ rfl,rfl,rfl},λb w=>?_,q};have e:b=(zz9 c):=zx6 w;subst e;exact d.uS (a8 _) (d.aQ.fresh (a8 _))
def Fi{d:St}{s:gB}{R:It->Hp->Prop}{E:jW}{a c:Int}{t u v:Tok}{tk:Nat}(I:Inv X aa d H s)(g: -(2^62)<=a)(h:a<2^62)(h3: -(2^62)<=c)(i:c<2^62)
 (q:R (S4 a (c-a).toNat) H):zx7 X (pyIter (.ref (zz9 s))) (Ug X aa d tg R) E {s with heap:=s.heap.push {cls:=.type "range",data:=.fields #[.int a t,.int c u,.int 1 v]},toks:=tk}:=by
 refine wpAny_pyIter_range (IsRange.new ..) (small_one g h h3 i) ?_;have f:Inv X aa d H {s with heap:=s.heap.push {cls:=.type "range",data:=.fields #[.int a t,.int c u,.int 1 v]},toks:=tk}:=I.kept λb o e=>aT _ e
 refine{(s.heap.push {cls:=.type "range",data:=.fields #[.int a t,.int c u,.int 1 v]}).objs.size,[(s.heap.push {cls:=.type "range",data:=.fields #[.int a t,.int c u,.int 1 v]}).objs.size],_,_,H,rfl,
  f.kept (t':=tk) λb o e=>aT _ e,xX _ a (c-a).toNat,?_,λb j=>?_,q}
 .have k:a+((0:Nat):Int)*1=a:=by simp
  have m:(((c-a).toNat:Nat):Int)-((0:Nat):Int)=i1.Range.rangeSize a c 1:=by rw [rangeSize_one];split<;>lia
  show IsRangeIter _ _ (a+((0:Nat):Int)*1) ((((c-a).toNat:Nat):Int)-((0:Nat):Int)) 1;rw [k,m];exact dV _ rfl
 .have e:b=(s.heap.push {cls:=.type "range",data:=.fields #[.int a t,.int c u,.int 1 v]}).objs.size:=zx6 j;subst e;exact f.uS (a8 _) (f.aQ.fresh (a8 _))
abbrev Rk(a:TA):TI:=λb H R=>a b H λc d=>∃j:Int,c=[.int j]/\ -(2^62)<=j/\j<2^62/\R (S4 0 j.toNat) d
theorem Bo{a:hD}{d:TA}{p:Pos}(f:Gl X "range")(hm:X.mg "range"=gd)(g:PA X [a] d)(hs:starEach [a] X.env=[(gh,eval a X.env)]:=by rfl):PI X tg (.Call (.Name "range" p) [a] [] pos) (Rk d):=by
 intro i s k H R I h;refine Call_ (j1 I f hm boot_range (PyProof.Rows.callWith_type1 (bU (g pos i s k H _ I h) λy z b=>?_) hs rfl));let(A,B,m,o,c):=b;let(j,e,c,u,q):=c
 subst e;cases o with
 |cons r w=>cases w;let(t,rfl):=r;exact call_range_1 (Fi m (by lia) (by lia) c u (zx6 q))
abbrev WH(f:TI)(g:TG)(tb:TS):TS:=λD a H=>f a H λJ h=>∃W:Nat->Nat->St->Hp->Prop,(∃m,W 0 m a h)/\∀i m a H,W i m a H->
 (J.stop i H/\D.nx a H)\/(J.go i H/\∃N:St->Hp->Prop,(∀b c,N b c->∃e,e<m/\W (i+1) e b c)/\∀x c,J.PH i H x c->g x a c λd j=>tb {D with nx:=N,ct:=N,bk:=D.nx} d j)
abbrev sM(fp:List hB)(h:ig):kd:=fp.filterMap λb=>(h.get? b).map λo=>(b,o)
def d5{fp:List hB}{b:hB}(a:b∈fp)(e:h.get? b=fP o):(b,o)∈sM fp h:=ey.mpr {b,a,by rw [e];rfl}
def Bh{fp:List hB}{p:hB×Obj}(a:p∈sM fp h):p.1∈fp/\h.get? p.1=fP p.2:=by
 let(b,c,e):=ey.mp a
 cases q:h.get? b with
 |none=>rw [q] at e;cases e
 |some o=>rw [q] at e;have d:(b,o)=p:=zzq e;subst d;exact⟨c,q⟩
theorem Inv.pinned{a:St}{s:gB}{fp:List hB}(I:Inv X aa a H s)(g:∀b∈fp,jo X aa H b)(h:∀b∈fp,∃o,s.heap.get? b=fP o/\∀v,o.data≠.cell v):Inv X (aa++sM fp s.heap) a H s:=
 I.ni λp i=>(List.mem_append.mp i).elim (λz=>I.pin p (c5 _ z)) λz=>by let(c,e):=Bh z;let(j,k,m,_):=g p.1 c;let(o,f,d):=h p.1 c;rw [e] at f;cases f;exact⟨e,j,k,m,d⟩
def Inv.lF{b:kd}{a:St}{s:gB}(I:Inv X (aa++b) a H s):Inv X aa a H s:=I.ni λp c=>I.pin p (c5 _ (d2 _ c))
def E9{iter:hD}{body:List ix}{U:TI}{g:TG}{tb:TS}(F:PassesOwn (hT X.prog X.w) X.A X.env X.xe)(V:X.calm=gf)(hi:PI X tg iter U)(hg:PG X tg g)(c:qg X body tb)
 (hs:∀x,foldedSetIterable iter X.env x=pure x:=by intro _;rfl):PS X (.For tg iter body [] pos) (WH U g tb):=by
 intro B s Y H D I h;refine wpAny_For (bU (hi B s Y H _ I h) λv s1 h1=>bU h1 λTz s2 h2=>?_) hs;let(it,fp,tn,J,H2,e,I2,T,Gy,Z,W,(m0,w0),turn):=h2;subst e;have O:∀{y:Hp},(∀b∈fp,y b=gd)->∀b∈fp,jo X B y b:=λhn b c=>{hn b c,(Z b c).2};refine codeAny_forLoop_any (λn s'=>∃i j y,Inv X B j y s'/\tn i s'.heap/\(∀b∈fp,y b=gd)/\W i n j y) ?_ m0 {0,Y,H2,I2,Gy,λb c=>(Z b c).1,w0}
 rintro n s3 ⟨i,k,M,I3,G,K,w3⟩
 rcases turn i n k M w3 with⟨stop,qn⟩|⟨go,N,hN,step⟩
 .refine wpAny_passesOwn F (bU (T.done X rfl rfl rfl V i B s3 k M X.xe I3 (O K) G stop) λr s4 ⟨P,I4⟩=>?_);subst P;exact wpAny_execs_nil ⟨k,M,I4,qn⟩
 .refine wpAny_passesOwn F (bU (T.item X rfl rfl rfl V i B s3 k M X.xe I3 (O K) G go) λr s4 ⟨u,P,h4⟩=>?_);subst P;refine wpAny_passesOwn F (bU h4 λ_ s5 C=>?_);let(x,H5,I5,r5,y5,E,Q):=C;have Ua:=I5.pinned (O Q) (T.obj _ _ E);refine wpAny_passesOwn F (bU (hg _ s5 k H5 x u _ Ua r5 (step x H5 y5)) λ_ s6 C=>?_);let(R,H6,I6,q6):=C;refine wpAny_passesOwn F (bU (c _ s6 R H6 _ I6 q6) λf S z=>?_);have p:∀{a:St} {q:Hp},Inv X (B++sM fp s5.heap) a q S->N a q->∃m,m<n/\∃i j y,Inv X B j y S/\tn i S.heap/\(∀b∈fp,y b=gd)/\W i m j y:=λ{a q} t L=>by let(m',hm,w7):=hN a q L;refine{m',hm,i+1,a,q,t.lF,T.keep _ _ _ E λb c o e=>(t.pin (b,o) (c5 _ (c5 _ (d5 c e)))).1,λb c=>?_,w7};let(o,e,d):=T.obj _ _ E b c;exact(t.pin (b,o) (c5 _ (c5 _ (d5 c e)))).2.1
  cases f with
  |next=>let(a,q,t,L):=z;exact p t L|cont=>let(a,q,t,L):=z;exact p t L|brk=>let(a,q,t,z):=z;exact⟨a,q,t.lF,z⟩|ret v=>let(x7,a,q,t,r7,z):=z;exact⟨x7,a,q,t.lF,r7,z⟩
end
noncomputable abbrev R2:=V->V->Hp->VK->Prop
def gW(X:Cx)(f:gA->gA->Sem gA)(r:R2):Prop:=
 ∀(a:kd) (s:gB) (b:St) (H:Hp) (x y:V) (v u:gA) (Q:VK),Inv X a b H s->RelV x v->RelV y u->r x y H Q->
  zx7 X (f v u) (EP X a b Q) X.xe s
def Tb(X:Cx)(f:gA->Sem gA)(r:V->Hp->VK->Prop):Prop:=
 ∀(a:kd) (s:gB) (b:St) (H:Hp) (x:V) (v:gA) (Q:VK),Inv X a b H s->RelV x v->r x H Q->
  zx7 X (f v) (EP X a b Q) X.xe s
def dP(X:Cx)(f:gA)(r:List V->Hp->VK->Prop):Prop:=
 ∀(a:kd) (s:gB) (b:St) (H:Hp) (xs:List V) (c:List gA) (Q:VK),Inv X a b H s->Vals xs c->r xs H Q->
  zx7 X (call f c) (EP X a b Q) X.xe s
abbrev PD(r:R2)(b tb:TE):TE:=λa H Q=>b a H λx c=>tb a c λy d=>r x y d Q
abbrev tUn(r:V->Hp->VK->Prop)(a:TE):TE:=λb H Q=>a b H λx c=>r x c Q
abbrev rI(C:Int->Int->Prop)(g:Int->Int->V):R2:=λx y H Q=>∃i j,x=.int i/\y=.int j/\C i j/\Q (g i j) H
abbrev KD(g:Int->Int->V):R2:=λx y H Q=>∃i j,x=.int i/\y=.int j/\Q (g i j) H
def rU(g:Int->V):V->Hp->VK->Prop:=λx H Q=>∃i,x=.int i/\Q (g i) H
section
variable{a b:hD}{ta tb:TE}
def Le(k:PE X a ta)(m:PE X b tb){s:gB}{d:St}{R:V->V->Hp->Prop}(I:Inv X aa d H s)
 (h:ta d H λx H1=>tb d H1 λy e=>R x y e) {Q:jW} {f:gA->gA->Sem gA}
 (hf:∀v u j x y e,Inv X aa d e j->RelV x v->RelV y u->R x y e->zx7 X (f v u) Q X.xe j):
 zx7 X (eval a X.env) (λv g=>zx7 X (eval b X.env) (λu i=>zx7 X (f v u) Q X.xe i) X.xe g) X.xe s:=by
 refine bU (k aa s d H _ I h) λv o c=>?_;let(x,H1,p,q,r):=c;refine bU (m aa o d H1 _ p r) λu j c=>?_;let(y,e,t,z,B):=c;exact hf v u j x y e t q z B
def RZ{c:Operator}{r:R2}(d:gW X (binaryOp c) r)(e:PE X a ta)(f:PE X b tb):PE X (.BinOp a c b pos) (PD r ta tb):=by intro g s i H Q I h;exact wpAny_BinOp (Le e f I h λv u j x y k m o p q=>d g j i k x y v u Q m o p q)
def Sb{c:UnaryOp}{r:V->Hp->VK->Prop}(f:Tb X (unaryOp c) r)(g:PE X a ta):PE X (.UnaryOp c a pos) (tUn r ta):=by intro d s e H Q I h;exact UnaryOp_ (bU (g d s e H _ I h) λv i ⟨x,H1,j,k,m⟩=>f d i e H1 x v Q j k m)
def Wk{f:gA->gA->Sem gA}{C:Int->Int->Prop}{g:Int->Int->Int}
 (rule:∀(i j:Int) (t u:Tok) (s:gB) (Q:jW) (E:jW),C i j->Q (.int (g i j) s.toks) {s with toks:=s.toks+1}->zx7 X (f (.int i t) (.int j u)) Q E s):
 gW X f (rI C λi j=>.int (g i j)):=by
 intro m s o H x y v u Q I c d h;let(i,j,rfl,rfl,e,q):=h;let(t,rfl):=c;let(k,rfl):=d;exact rule i j t k s _ _ e {.int (g i j),H,I.tok _,{_,rfl},q}
def RQ{f:gA->gA->Sem gA}{g:Int->Int->Int}
 (rule:∀(i j:Int) (t u:Tok) (s:gB) (Q:jW) (E:jW),Q (.int (g i j) s.toks) {s with toks:=s.toks+1}->zx7 X (f (.int i t) (.int j u)) Q E s):
 gW X f (KD λi j=>.int (g i j)):=by
 intro k s m H x y v u Q I c d h;let(i,j,rfl,rfl,q):=h;let(t,rfl):=c;let(e,rfl):=d;exact rule i j t e s _ _ {.int (g i j),H,I.tok _,{_,rfl},q}
def IP{f:gA->gA->Sem gA}{g:Int->Int->Bool}
 (rule:∀(i j:Int) (t u:Tok) (s:gB) (Q:jW) (E:jW),Q (.bool (g i j)) s->zx7 X (f (.int i t) (.int j u)) Q E s):
 gW X f (KD λi j=>.bl (g i j)):=by
 intro k s m H x y v u Q I c d h;let(i,j,rfl,rfl,q):=h;let(t,rfl):=c;let(e,rfl):=d;exact rule i j t e s _ _ {.bl (g i j),H,I,rfl,q}
def TX(i j:Int):Prop:=0<j/\j<1073741824
def KZ(i j:Int):Prop:=(-(2^64)<i/\i<2^64)\/(-(2^64)<j/\j<2^64)
def KZ.ok{i j:Int}(h:KZ i j):IntMulOk i j:=by
 rcases h with⟨c,d⟩|⟨c,d⟩
 .exact .of_left (intBits_le_64 c d)
 .exact .of_right (intBits_le_64 c d)
def NF:gW X (binaryOp .Add) (KD λi j=>.int (i+j)):=RQ λZ Z Z Z Z Z Z q=>add_int q
def NT:gW X (binaryOp .Sub) (KD λi j=>.int (i-j)):=RQ λZ Z Z Z Z Z Z q=>sub_int q
def NQ:gW X (binaryOp .Mult) (rI KZ λi j=>.int (i*j)):=Wk λZ Z Z Z Z Z Z c q=>mul_int q c.ok
theorem IV:gW X (binaryOp .FloorDiv) (rI TX λi j=>.int (i/j)):=Wk λi j Z Z Z Z Z c q=>by have d:(0:Int)<j:=c.1;have e:j<1073741824:=c.2;exact floordiv_int (by lia) (by rw [Int.fdiv_eq_ediv_of_nonneg i (by lia)];exact q) (.inl (PyProof.noPylong_small (by lia)))
theorem NP:gW X (binaryOp .Mod) (rI (λZ j=>0<j) λi j=>.int (i%j)):=Wk λi j Z Z Z Z Z c q=>by have d:(0:Int)<j:=c;exact mod_int' (by lia) (by rw [Int.fmod_eq_emod_of_nonneg i (by lia)];exact q)
def unI{f:gA->Sem gA}{g:Int->Int}
 (rule:∀(i:Int) (t:Tok) (s:gB) (Q:jW) (E:jW),Q (.int (g i) s.toks) {s with toks:=s.toks+1}->zx7 X (f (.int i t)) Q E s):
 Tb X f (rU λi=>.int (g i)):=by
 intro d s e H x v Q I c h;let(i,rfl,q):=h;let(t,rfl):=c;exact rule i t s _ _ {.int (g i),H,I.tok _,{_,rfl},q}
def O2:Tb X (unaryOp .USub) (rU λi=>.int (-i)):=unI λZ Z Z Z Z q=>neg_int q
variable{c:hD}{tc:TE}
def C5{d:St}{s:gB}{k f:Bool}(I:Inv X aa d H s)(q:Q (.bl k) H)(e:k=f):EP X aa d Q (.bool f) s:=by subst e;exact{.bl k,H,I,rfl,q}
def RU:gW X (compareOp .Lt) (KD λi j=>.bl (decide (i<j))):=IP λZ Z Z Z Z Z Z q=>lt_int q
def RT:gW X (compareOp .LtE) (KD λi j=>.bl (decide (i<=j))):=IP λZ Z Z Z Z Z Z q=>le_int q
def RS:gW X (compareOp .Gt) (KD λi j=>.bl (decide (j<i))):=IP λZ Z Z Z Z Z Z q=>gt_int q
def RR:gW X (compareOp .GtE) (KD λi j=>.bl (decide (j<=i))):=IP λZ Z Z Z Z Z Z q=>ge_int q
def Bj:gW X (compareOp .In) (λx y H Q=>∃i j,x=.str i/\y=.str j/\Q (.bl (!(i1.Str.occurrences j i 0 j.length 1).isEmpty)) H):=by intro f s g H x y v u Q I d e h;let(i,j,rfl,rfl,q):=h;let(t,rfl):=d;let(k,rfl):=e;exact in_str (C5 I q rfl)
def NL:gW X (compareOp .Is) (λx y H Q=>y=.aN/\Q (.bl (decide (x=.aN))) H):=by
 intro f s g H x y v u Q I d e h;let(rfl,q):=h
 cases e;refine is_none_gen (C5 I q ?_);cases x<;>first
  |(cases d;rfl)
  |(let(t,rfl):=d;rfl)
def Wh(b:hD){d:CmpOp}(h:d≠.In:=by decide)(e:d≠.NotIn:=by decide):behindInMarks d b=gh:=by
 have f:(d==CmpOp.In)=gh:=by cases d<;>first|rfl|exact absurd rfl h
 have g:(d==CmpOp.NotIn)=gh:=by cases d<;>first|rfl|exact absurd rfl e
 cases b<;>simp [behindInMarks,f,g]
def zm{d:CmpOp}{r:R2}(e:gW X (compareOp d) r)(f:PE X a ta)(g:PE X b tb)(hm:behindInMarks d b=gh):PE X (.Compare a [d] [b] pos) (PD r ta tb):=by intro i s j H Q I h;exact wpAny_Compare1 (Le f g I h λv u k x y m o p t q=>e i k j m x y v u Q o p t q) hm
abbrev FN(t:TE):TT:=λd H Q=>t d H λx e=>∃k,x=.bl k/\Q k e
def zv{d:CmpOp}{r:R2}(i:gW X (compareOp d) r)(j:PE X a ta)(m:PE X b tb)(hm:behindInMarks d b=gh):PT X (.Compare a [d] [b] pos) (FN (PD r ta tb)):=by intro f s g H Q I h;refine wpAny_isTrue_Compare1 (bU (j f s g H _ I h) λv o ⟨x,H1,p,q,t⟩=>bU (m f o g H1 _ p t) λu w ⟨y,A,B,C,D⟩=>bU (i f w g A x y v u _ B q C D) λc L ⟨z,E,F,G,k,e,K⟩=>?_) hm;subst e;cases G;exact wpAny_truthy_bool ⟨E,F,K⟩
abbrev xU(r f:R2)(ta tb tc:TE):TE:=λd H Q=>ta d H λx g=>tb d g λy h=>r x y h λz e=>∃k,z=.bl k/\
 (if k=gf then tc d e λi j=>f y i j Q else Q (.bl gh) e)
def EK{i j:CmpOp}{r m:R2}(w:gW X (compareOp i) r)(A:gW X (compareOp j) m)(B:PE X a ta)(C:PE X b tb)(D:PE X c tc)
 (hm:lastMarks [i,j] [b,c]=gh:=by with_unfolding_all rfl):PE X (.Compare a [i,j] [b,c] pos) (xU r m ta tb tc):=by
 intro f s g H Q I h;refine Compare_chain (bU (B f s g H _ I h) λv E ⟨x,H1,F,G,K⟩=>chain_link (bU (C f E g H1 _ F K) λu L ⟨y,M,N,o,O⟩=>bU (w f L g M x y v u _ N G o O) λd P ⟨z,p,q,R,k,e,t⟩=>?_)) hm
 subst e;cases R;refine wpAny_truthy_bool ?_;cases k with
 |false=>exact ite_ff {.bl gh,p,q,rfl,t}|true=>exact ite_tt (chain_last (bU (D f P g p _ q t) λS T ⟨U,V,W,Y,Z⟩=>A f T g V y U u S Q W o Y Z))
def Fd{i j:CmpOp}{r o:R2}(A:gW X (compareOp i) r)(B:gW X (compareOp j) o)(C:PE X a ta)(D:PE X b tb)(E:PE X c tc)
 (hm:lastMarks [i,j] [b,c]=gh:=by with_unfolding_all rfl):PT X (.Compare a [i,j] [b,c] pos) (FN (xU r o ta tb tc)):=by
 intro f s g H Q I h;refine isTrue_chain (bU (C f s g H _ I h) λv F ⟨x,H1,G,K,L⟩=>test_link (bU (D f F g H1 _ G L) λu M ⟨y,N,O,p,P⟩=>bU (A f M g N x y v u _ O K p P) λd R ⟨z,q,t,S,k,e,w⟩=>?_)) hm
 subst e;cases S;refine wpAny_truthy_bool ?_;cases k with
 |false=>let(k',T,U):=w;cases T;exact ite_ff ⟨q,t,U⟩
 |true=>refine ite_tt (test_last (bU (E f R g q _ t w) λV W ⟨Y,Z,I4,r4,q4⟩=>bU (B f W g Z y Y u V _ I4 p r4 q4) λd' s5 m=>?_));let(z2,H5,I5,r5,k2,e2,q5):=m;subst e2;cases r5;exact wpAny_truthy_bool ⟨H5,I5,q5⟩
def oC:(iv:Nat)<2^63:=by rw [sizeLine_eq];decide
def xu:gW X (binaryOp .Add) (λx y H Q=>∃i j,x=.str i/\y=.str j/\i.length+j.length<=iv/\Q (.str (i++j)) H):=by intro k s m H x y v u Q I d e h;let(i,j,rfl,rfl,f,q):=h;let(t,rfl):=d;let(g,rfl):=e;exact add_str (λg o=>{.str (i++j),H,I.tok _,{_,rfl},q}) f
def vals1{x:V}(r:Vals [x] us):∃u,us=[u]/\RelV x u:=by
 cases r with
 |cons d e=>cases e;exact{_,rfl,d}
def vals2{x y:V}(r:Vals [x,y] us):∃u d,us=[u,d]/\RelV x u/\RelV y d:=by
 cases r with
 |cons e f=>
  cases f with
  |cons g h=>cases h;exact{_,_,rfl,e,g}
def rL:dP X (.type "str") (λxs H Q=>∃i,xs=[.int i]/\i.natAbs.log2<1920/\Q (.str (toString i)) H):=by intro e s f H xs g Q I r h;let(i,rfl,d,q):=h;let(u,rfl,t,rfl):=vals1 r;exact PySem.P.str_of_int d {.str _,H,I.tok _,{_,rfl},q}
end
structure wo(h:ig)(x dx C:hB)(mA:Str->Option gA):Prop where
 obj:h.get? x=fP (PySem.W.instObj C dx)
 ns:h.Ns1 dx mA
 ne:dx≠x
def A4{dx:hB}{c:Str->Option gA}(n:h.Ns1 dx c):∃d,h.get? dx=fP d/\∀name,PySem.W.lookIn name d=fP (c name):=by
 let(o,f,k,g,hd,hk,_,hm):=n;refine{o,g,λname=>?_};have e:=hm name;unfold nsFind findBy at e;rw [<-Array.find?_toList] at e;unfold PySem.W.lookIn;rw [hd];dsimp only;split
 .rename_i y q;rw [q] at e;exact congrArg fP e
 .rename_i q;rw [q] at e;have a:f.toList.any (·.refKey)=gh:=by
   rw [List.any_eq_false];intro y i;let(z,t,b):=hk y (Array.mem_toList_iff.mp i);simp [DictEntry.refKey,b]
  have j:¬f.toList.any (·.refKey)=gf:=by rw [a];exact zzf
  rw [if_neg j];exact congrArg fP e
theorem wo.look{x dx C:hB}{b:Str->Option gA}(I:wo h x dx C b):∃a,PySem.W.InstAt h x (PySem.W.instObj C dx) C (fP a)/\∀name,PySem.W.lookIn name a=fP (b name):=
 let⟨a,c,hl⟩:=A4 I.ns
 {a,⟨I.obj,rfl,rfl,c⟩,hl}
section
variable{E:jW}{s:gB}{K:zz8}{x dx C f:hB}{mA:Str->Option gA}{name:Str}{v:gA}
def get_map{expr:Bool}{Q:jW}(X:K.In s.heap)(I:wo s.heap x dx C mA)(a:PySem.W.plainGet K C name=gf)(b:PySem.W.hasDictIn K C=gf)
 (c:PySem.W.findIn K (.ref C) name=fP gd) (d:mA name=fP v) (e:PySem.W.handedIn v=gf) (h:Q v {s with toks:=s.toks+1}):
 hF (hT prog w) A (getAttr (.ref x) name expr) Q E s:=by
 let(g,J,hl):=I.look;exact PySem.W.get_value X J (PySem.W.plainGet_of a).1 (PySem.W.findObj_own b c rfl (by rw [hl,d])) e h
def Dq{b:Sem Bool}{Q:gA×List gA->gB->Prop}(X:K.In s.heap)(I:wo s.heap x dx C mA)(a:PySem.W.plainGet K C name=gf)
 (hf:PySem.W.findIn K (.ref C) name=fP (fP (.ref f))) (c:PySem.W.isFn K (.ref f)=gf) (d:mA name=gd) (h:Q (.ref f,[.ref x]) s):
 hF (hT prog w) A (getMethod (.ref x) name b) Q E s:=by
 let(e,J,hl):=I.look;exact PySem.W.method_fn X J (PySem.W.plainGet_of a).1 (PySem.W.plainGet_of a).2 hf (zzy.mp c) (by show(PySem.W.lookIn name e).map (·.isSome)=fP gh;rw [hl,d];rfl) h
def Jq{ns:List Str}{Q:Unit->gB->Prop}(X:K.In s.heap)(I:wo s.heap x dx C mA)
 (hs:PySem.W.findIn K (.ref C) "__setattr__"=fP (fP (.builtin "object.__setattr__"))) (k:PySem.W.plainOver K C=gf) (m:PySem.W.takerIn K C name=fP gd) (o:PySem.W.hasDictIn K C=gf)
 (hw:PySem.Within mA ns) (hsz:ns.length<=iv)
 (h:∀h',wo h' x dx C (λy=>if y=name then fP v else mA y)->ig.SameBut dx s.heap h'->Q () {s with heap:=h',toks:=s.toks+2}):
 hF (hT prog w) A (setAttr (.ref x) name v) Q E s:=by
 let(z,J,hl):=I.look;refine PySem.W.set_plain X J hs (PySem.W.osa_open (s:={s with toks:=s.toks+1}) (r:=gd) X J k m λb=>?_);let(cd,p,c):=PySem.W.any_some o;have q:s.heap.get? x=fP {.ref C,fP dx,.plain,#[]}:=I.obj;refine ar (bT (ar (ar (wpAny_loadPart q (ar (PySem.W.Looks.here (s:={s with toks:=s.toks+1}) (PySem.W.looks_clsIn X p) ?_))))));rw [c];refine bT (a:=fP dx) (ar (bT (ar ?_)));refine wpAny_nsSet1 (s:={s with toks:=s.toks+1}) I.ns λh' i j=>?_;let(B,t,u,d,e,g):=i.count (PySem.Within.cons name v hw);refine ar (wpAny_lookBehind d (by rw [e];exact pastItsLine_dict (di g (by rw [cC];lia))) ?_);exact bT (h _ {(j.2 _ (Ne.symm I.ne)).trans I.obj,i,I.ne} j)
def Eg{R:Result->gB->Prop}{vs:List gA}{a:List (Str×gA)}(X:K.In s.heap)(hm:PySem.W.makesIn K C=gf)
 (b:PySem.W.findIn K (.ref C) (zu 14)=fP (fP (.ref f))) (c:PySem.W.typeIn K (.ref f)=fP (.type "function"))
 (h:codeAny (hT prog w) (A.under (.builtin "type.__call__" {.ref C::vs,a})) (.call (.ref f) {.ref ((zz9 s)+1)::vs,a}) (PySem.W.InitBack ((zz9 s)+1) R)
  {s with heap:=(s.heap.push PySem.W.emptyDict).push (PySem.W.instObj C (zz9 s))}):
 codeAny (hT prog w) A (.call (.ref C) ⟨vs,a⟩) R s:=by
 let(e,g,d,t,os):=s;exact PySem.W.make_core (PySem.W.makes_of X hm) (PySem.W.looks_findIn X b) (λself=>PySem.W.bind_fn X self c) (.inl rfl) h
end
abbrev gP(f:Str)(v:V):List (Str×V)->List (Str×V)
 |[]=>[(f,v)]|(g,x)::r=>if g=f then(g,v)::r else(g,x)::gP f v r
theorem mx(f g:Str)(v:V):∀fs:List (Str×V),(gP f v fs).lookup g=if g=f then fP v else fs.lookup g
 |[]=>by
  show List.lookup g [(f,v)]=_;by_cases h:g=f
  .have a:(g==f)=gf:=zzy.mpr h;simp! [List.lookup,a,if_pos h]
  .have a:(g==f)=gh:=beq_eq_false_iff_ne.mpr h;simp! [List.lookup,a,if_neg h]
 | (k,x)::r=>by
  have b:=mx f g v r;rw [show gP f v ((k,x)::r)=(if k=f then(k,v)::r else(k,x)::gP f v r) from rfl];by_cases hk:k=f
  .rw [if_pos hk];by_cases h:g=k
   .have a:(g==k)=gf:=zzy.mpr h;simp! [List.lookup,a,if_pos (h.trans hk)]
   .have a:(g==k)=gh:=beq_eq_false_iff_ne.mpr h;simp! [List.lookup,a,if_neg (λe:g=f=>h (e.trans hk.symm))]
  .rw [if_neg hk];by_cases h:g=k
   .have a:(g==k)=gf:=zzy.mpr h;simp! [List.lookup,a,if_neg (λe:g=f=>hk (h.symm.trans e))]
   .have a:(g==k)=gh:=beq_eq_false_iff_ne.mpr h;simp! [List.lookup,a];exact b
theorem lY(f:Str)(v:V):∀fs:List (Str×V),f∈(gP f v fs).map (·.1)/\∀g,g∈fs.map (·.1)->g∈(gP f v fs).map (·.1)
 |[]=>{by simp [gP],λg h=>by simp at h}
 | (k,x)::r=>by
  let(a,b):=lY f v r;rw [show gP f v ((k,x)::r)=(if k=f then(k,v)::r else(k,x)::gP f v r) from rfl];by_cases hk:k=f
  .rw [if_pos hk];subst hk;exact{by simp,λg h=>zx6 h}
  .rw [if_neg hk];refine{?_,λg h=>?_}
   .rw [bc];exact cq _ a
   .rw [bc] at h⊢;rcases ef.mp h with e|e
    .exact ef.mpr (.inl e)
    .exact cq _ (b g e)
theorem mr(f:Str)(v:V):∀fs:List (Str×V),(gP f v fs).length<=fs.length+1
 |[]=>by simp [gP]|(k,x)::r=>by
  have a:=mr f v r;rw [show gP f v ((k,x)::r)=(if k=f then(k,v)::r else(k,x)::gP f v r) from rfl];by_cases hk:k=f
  .rw [if_pos hk,cC,cC];lia
  .rw [if_neg hk,cC,cC];lia
def g7.some_of{o:Option gA}(r:g7 (fP v) o):∃u,o=fP u/\RelV v u:=by
 cases o with
 |none=>exact(show False from r).elim|some u=>exact⟨u,rfl,r⟩
def g7.none_of{o:Option gA}(r:g7 gd o):o=gd:=by
 cases o with
 |none=>rfl|some u=>exact(show False from r).elim
def AK(r:RelV v u):PySem.W.handedIn u=gf:=by
 cases v with
 |aN=>cases(show u=gA.none from r);rfl
 |bl b=>cases(show u=gA.bool b from r);rfl
 |int i=>let(t,e):=(show∃t,u=gA.int i t from r);cases e;rfl
 |str x=>let(t,e):=(show∃t,u=gA.str x t from r);cases e;rfl
 |Ti b=>let(t,e):=(show∃t,u=gA.bytes b t from r);cases e;rfl
 |Tq b=>let(t,e):=(show∃t,u=gA.float b t from r);cases e;rfl
 |ref a=>cases(show u=gA.ref a from r);rfl
 |ty n=>cases(show u=gA.type n from r);rfl
section
variable{P:hG}{C dx:hB}{fs:List (Str×V)}
def sk(aQ:fE P w H h)(e:H a=fP (.ins C dx fs)):∃b,wo h a dx C b/\(∀f,g7 (fs.lookup f) (b f))/\PySem.Within b (fs.map (·.1))/\fs.length<=1000/\H dx=fP (.own a):=by let(d,z,ne,ob,b,n,r,q):=(show cb P w H h a (.ins C dx fs) from aQ a _ e);exact{b,⟨ob,n,ne⟩,r,q,z,d}
end
structure v8(K:zz8)(C:hB):Prop where
 pg:PySem.W.plainGet K C Str.empty=gf
 hd:PySem.W.hasDictIn K C=gf
 po:PySem.W.plainOver K C=gf
 sa:PySem.W.findIn K (.ref C) "__setattr__"=fP (fP (.builtin "object.__setattr__"))
def v8.get{K:zz8}{C:hB}(c:v8 K C)(f:Str):PySem.W.plainGet K C f=gf:=c.pg
def cU(K:zz8)(C:hB)(f:Str):Prop:=PySem.W.findIn K (.ref C) f=fP gd
def cU.SN{K:zz8}{C:hB}(n:cU K C f):PySem.W.takerIn K C f=fP gd:=by unfold PySem.W.takerIn;rw [show PySem.W.findIn K (.ref C) f=fP gd from n];rfl
structure Meth(K:zz8)(C:hB)(m:Str)(f:hB):Prop where
 at_:PySem.W.findIn K (.ref C) m=fP (fP (.ref f))
 fn:PySem.W.isFn K (.ref f)=gf
 kp:PySem.W.keepIn K (.ref f)=gf
section
variable{s:gB}{C dx:hB}{fs:List (Str×V)}{E:jW}
def wV{b:Bool}{Q:jW}(I:zv2 s)(e:H a=fP (.ins C dx fs))(c:v8 X.K C)(n:cU X.K C f)(l:fs.lookup f=fP v)
 (h:∀u s',Inv X aa σ H s'->RelV v u->Q u s'):hF (hT X.prog X.w) A (getAttr (.ref a) f b) Q E s:=by
 let(g,O,r,_,_,_):=sk I.aQ e;let(u,i,d):=g7.some_of (v:=v) (o:=g f) (by rw [<-l];exact r f);exact get_map I.jY O (c.get f) c.hd n i (AK d) (h u _ (I.tok _) d)
def wW{g:hB}{b:Sem Bool}{Q:gA×List gA->gB->Prop}(I:zv2 s)(e:H a=fP (.ins C dx fs))(c:v8 X.K C)(k:Meth X.K C m g)(l:fs.lookup m=gd)
 (h:Q (.ref g,[.ref a]) s):hF (hT X.prog X.w) A (getMethod (.ref a) m b) Q E s:=by
 let(d,O,r,_,_,_):=sk I.aQ e;have i:d m=gd:=g7.none_of (by rw [<-l];exact r m);exact Dq I.jY O (c.get m) k.at_ k.fn i h
def xK{y:V}{Q:Unit->gB->Prop}(I:zv2 s)(e:H a=fP (.ins C dx fs))(c:v8 X.K C)(n:cU X.K C f)(hl:fs.length<1000)(m:RelV y u)
 (h:∀s',Inv X aa σ (upd H a (.ins C dx (gP f y fs))) s'->Q () s'):hF (hT X.prog X.w) A (setAttr (.ref a) f u) Q E s:=by
 let(i,O,r,j,_,k):=sk I.aQ e;have p:(fs.map (·.1)).length<=sizeLine:=by rw [zzl,sizeLine_eq];lia
 refine Jq I.jY O c.sa c.po n.SN c.hd j p λt d B=>h _ ?_;have hd:∃o,t.get? dx=fP o:=let⟨o,_,_,D,_⟩:=d.ns;⟨o,D⟩;refine I.write (x:=a) (e:=dx) (by rw [e];exact True.intro) (.inr k) (λb q F z=>(B.2 b F).trans z) hd ?_;refine{by rw [ai O.ne];exact k,?_,O.ne,d.obj,_,d.ns,λg=>?_,λg G=>?_}
 .have:=mr f y fs;lia
 .show g7 ((gP f y fs).lookup g) (if g=f then fP u else i g);rw [mx];by_cases q:g=f
  .rw [if_pos q,if_pos q];exact m
  .rw [if_neg q,if_neg q];exact r g
 .by_cases q:g=f
  .rw [q];exact(lY f y fs).1
  .refine(lY f y fs).2 g (j g λz=>G ?_);show(if g=f then fP u else i g)=gd;rw [if_neg q];exact z
def Inv.made(I:zv2 s):Inv X aa σ (upd (upd H (zz9 s) (.own ((zz9 s)+1))) ((zz9 s)+1) (.ins C (zz9 s) []))
 {s with heap:=(s.heap.push PySem.W.emptyDict).push (PySem.W.instObj C (zz9 s))}:=by
 have c:(s.heap.push PySem.W.emptyDict).get? (zz9 s)=fP PySem.W.emptyDict:=dV s.heap rfl
 have d:((s.heap.push PySem.W.emptyDict).push (PySem.W.instObj C (zz9 s))).get? ((zz9 s)+1)=fP (PySem.W.instObj C (zz9 s)):=by
  have:=dV (s.heap.push PySem.W.emptyDict) (o:=PySem.W.instObj C (zz9 s)) rfl
  rwa [ig.size_push] at this
 have g:(s.heap.push PySem.W.emptyDict).Ns (zz9 s) (λZ=>gd):={PySem.W.emptyDict,#[],_,c,rfl,(λe h=>absurd h (by simp)),λZ=>rfl};have i:=I.laid (a:=(zz9 s)) (o:=.own ((zz9 s)+1)) (h':=s.heap.push PySem.W.emptyDict) (t':=s.toks) (λb u q=>aT _ q) (a8 _) {_,c};refine i.laid (a:=(zz9 s)+1) (o:=.ins C (zz9 s) []) (t':=s.toks) (λb u q=>aT _ q) (Nat.le_of_eq (ig.size_push _ _)) ?_;have ne:(zz9 s)≠(zz9 s)+1:=d1 (Nat.lt_succ_self _);refine{by rw [ai ne,ak],Nat.zero_le _,ne,d,λZ=>gd,(ig.Ns1.of_empty g).at λo q=>aT _ q,λZ=>True.intro,λy j=>absurd rfl j}
def GQ{env:Env}{s:gB}{Q:jW}(c:attributeBase e f env (eval e env)=eval e env)
 (h:hF (hT prog w) A (eval e env) (λo b=>hF (hT prog w) A (getAttr o f gf) Q E b) E s):hF (hT prog w) A (eval (.Attribute e f pos) env) Q E s:=
 Attribute_any_ h (by rw [arm_eval_Attribute,c])
end
abbrev WG(K:zz8)(c:TE)(f:Str):TE:=λd H Q=>c d H λx b=>∃a C dx fs v,x=.ref a/\b a=fP (.ins C dx fs)/\v8 K C/\cU K C f/\fs.lookup f=fP v/\Q v b
abbrev Wx(K:zz8)(d e:TE)(f:Str):TS:=λD b H=>e b H λy g=>d b g λx c=>∃a C dx fs,x=.ref a/\c a=fP (.ins C dx fs)/\v8 K C/\cU K C f/\fs.length<1000/\
 D.nx b (upd c a (.ins C dx (gP f y fs)))
section
variable{o value:hD}{pos':Pos}{ta tv:TE}
def NY(he:PE X e ta)(d:attributeBase e f X.env (eval e X.env)=eval e X.env):PE X (.Attribute e f pos) (WG X.K ta f):=by intro g s i H Q I h;refine GQ d (bU (he g s i H _ I h) λu w b=>?_);let(x,j,k,m,a,C,dx,fs,v,ex,p,c,n,l,q):=b;subst ex;obtain rfl:u=gA.ref a:=m;exact wV k p c n l λy z r t=>⟨v,j,r,t,q⟩
def N8(i:PE X o ta)(j:PE X value tv)(hs:swapsWith value (fP (.Attribute o f pos')) pos.line X.env=pure gh):PS X (.Assign [.Attribute o f pos'] value pos) (Wx X.K ta tv f):=by intro g s b H D I h;refine plainObj_wpAny_Assign_Attribute (bU (j g s b H _ I h) λu k ⟨y,H1,m,p,q⟩=>bU (i g k b H1 _ m q) λr E d=>?_) hs;let(x,F,t,w,a,C,dx,fs,ex,z,c,n,l,A):=d;subst ex;obtain rfl:r=gA.ref a:=w;exact xK t z c n l p λG B=>{b,_,B,A}
end
structure dB(k:Nat)(A:h9):Prop where
 hd:3<=k->A.handled=gd
 dp:A.depth+3*k+5<recursionLimit
 un:A.units+16*k+200<cLine
theorem dB.mono{k:Nat}(r:dB k A)(h:j<=k):dB j A:={λz=>r.hd (by lia),by have:=r.dp;lia,by have:=r.un;lia}
theorem dB.deeper{k:Nat}(r:dB (k+1) A)(env:Env):dB k (A.deeper env):=
 {λz=>r.hd (by lia),by have:=r.dp;show A.depth+1+3*k+5<_;lia,by have:=r.un;show A.units+3+16*k+200<_;lia}
def xk{C:hB}{a:List (Str×gA)}:(A.under (.builtin "type.__call__" {.ref C::us,a})).depth=A.depth+1:=by
 first|rfl|simp [h9.under,Code.weight,Code.isCreation,Code.isGuard,Code.isCaller,Code.frames,Code.isFrame,guardIds]
def xl{C:hB}{a:List (Str×gA)}:(A.under (.builtin "type.__call__" {.ref C::us,a})).units=A.units+1:=by
 first|rfl|simp [h9.under,Code.cUnits,Code.frames,Code.isFrame]
theorem dB.make{k:Nat}(r:dB (k+1) A)(C:hB)(us:List gA)(a:List (Str×gA)):dB k (A.under (.builtin "type.__call__" {.ref C::us,a})):=
 {λz=>r.hd (by lia),by have:=r.dp;rw [xk];lia,by have:=r.un;rw [xl];lia}
def dB.depth{k:Nat}(r:dB k A):A.depth<recursionLimit:=by have:=r.dp;lia
def dB.units{k:Nat}(r:dB k A):A.units+64<cLine:=by have:=r.un;lia
abbrev WK:TA:=λZ H Q=>Q [] H
abbrev SG(b:TE)(c:TA):TA:=λa H Q=>b a H λx d=>c a d λxs e=>Q (x::xs) e
section
variable{es:List hD}{t:TA}
def dE:PA X [] WK:=λZ Z Z Z H Q I h=>Calls.spliced_nil {[],H,I,.nil,h}
theorem bZ(d:PE X e te)(f:PA X es t)(hs:starEach (e::es) X.env=(gh,eval e X.env)::starEach es X.env:=by rfl):PA X (e::es) (SG te t):=by intro pos b s c H Q I h;rw [hs];show hF _ _ (spliced ((gh,eval e X.env)::backTo pos (starEach es X.env))) _ _ s;refine Calls.spliced_cons (bU (d b s c H _ I h) λu g a=>?_);let(x,i,j,k,m):=a;exact bU (f pos b g c i _ j m) λw y ⟨xs,o,p,q,r⟩=>{x::xs,o,p,.cons k q,r}
abbrev WR(t:TA):TE:=λb H Q=>t b H λxs a=>xs.length<=iv/\∀p,a p=gd->Q (.ref p) (upd a p (.tup xs))
abbrev WJ(t:TA):TE:=λb H Q=>t b H λxs a=>xs.length<=iv/\∀p,a p=gd->Q (.ref p) (upd a p (.lst xs))
def EW{x1}(h:PA X es t):PE X (.Tuple es x1 pos) (WR t):=by intro d s f H Q I g;refine wpAny_Tuple_spliced (bU (h pos d s f H _ I g) λi a ⟨xs,H1,c,r,z,q⟩=>{by rw [<-r.length];exact z,?_});have j:H1 (zz9 a)=gd:=c.aQ.fresh (a8 _);refine{.ref (zz9 a),upd H1 (zz9 a) (.tup xs),c.laid (t':=a.toks) (λb u e=>aT _ e) (a8 _) ?_,rfl,q _ j};exact{z,i,r,{_,dV _ rfl,rfl,_,rfl}}
def ER(h:PA X es t):PE X (.List es pos) (WJ t):=by intro d s f H Q I g;refine wpAny_List_spliced (bU (h pos d s f H _ I g) λi a ⟨xs,H1,c,r,z,q⟩=>{by rw [<-r.length];exact z,?_});have j:H1 (zz9 a)=gd:=c.aQ.fresh (a8 _);refine{.ref (zz9 a),upd H1 (zz9 a) (.lst xs),c.laid (t':=a.toks) (λb u e=>aT _ e) (a8 _) ?_,rfl,q _ j};exact{z,i,0,r,dV _ rfl}
end
noncomputable abbrev Sp:=List V->Hp->VK->XK->Prop
noncomputable abbrev zV:=List Env->Hp->gB->XK->gA->gB->Prop
structure jl(P:hG)(w:hI)(K:zz8)(mg:Str->Option gA)(base:ig)(A:h9)(outer:List Env)(s:gB)(H:Hp):Prop where
 frames:A.frames=fP outer
 mod:Mod K mg base
 bs:∀b o,base.get? b=fP o->s.heap.get? b=fP o/\H b=gd
 wH:base.objs.size<=(zz9 s)
 hU:s.heap.FunFrames base outer
 wU:∀b∈fG outer,H b=gd
 aQ:fE P w H s.heap
 bare:AllBare s.gens
def CE(outer:List Env)(P:hG)(w:hI)(H:Hp)(s:gB)(Q:VK)(u:gA)(s':gB):Prop:=
 ∃v a,s'.os=s.os/\AllBare s'.gens/\Un (fG outer) [] H a s.heap s'.heap/\fE P w a s'.heap/\RelV v u/\Q v a
def CR(CX:zV)(outer:List Env)(P:hG)(w:hI)(H:Hp)(s:gB)(Q:VK)(E:XK)(r:Result)(s':gB):Prop:=
 match r with
 |.ok (.ret u)=>CE outer P w H s Q u s'|.ok _=>False|.error e=>CX outer H s E e s'
structure fF(P:hG)(w:hI)(K:zz8)(mg:Str->Option gA)(base:ig)(CX:zV)(k:Nat)(f:hB)(fd:FuncData)(ps:List Str)(sp:Sp):Prop where
 len:∀vs H Q E,sp vs H Q E->vs.length=ps.length
 run:∀(A:h9) (outer:List Env) (s:gB) (H:Hp) (args:Args) (us:List gA) (vs:List V) (Q:VK) (E:XK),dB k A->jl P w K mg base A outer s H->BindsTo s fd args (ps.zip us)->Vals vs us->sp vs H Q E->
  codeAny (hT P w) A (.call (.ref f) args) (CR CX outer P w H s Q E) s
def fF.mono{P:hG}{K:zz8}{CX:zV}{k:Nat}{f:hB}{fd:FuncData}{ps:List Str}{sp:Sp}(F:fF P w K mg base CX j f fd ps sp)(h:j<=k):
 fF P w K mg base CX k f fd ps sp:={F.len,λA outer s H args a b Q E c=>F.run A outer s H args a b Q E (c.mono h)}
def fF.imp{P:hG}{K:zz8}{CX:zV}{k:Nat}{f:hB}{fd:FuncData}{ps:List Str}{sp a:Sp}(F:fF P w K mg base CX k f fd ps sp)
 (h:∀vs H Q E,a vs H Q E->sp vs H Q E):fF P w K mg base CX k f fd ps a:=
 {λvs H Q E q=>F.len vs H Q E (h _ _ _ _ q),λA outer s H args b vs Q E c d e g hs=>F.run A outer s H args b vs Q E c d e g (h _ _ _ _ hs)}
def jl.make{P:hG}{K:zz8}{s:gB}(e:jl P w K mg base A outer s H)(C:hB)(us:List gA)(a:List (Str×gA)):
 jl P w K mg base (A.under (.builtin "type.__call__" {.ref C::us,a})) outer s H:={by first|exact e.frames|(simpa [h9.under,Code.envs,Code.isFrame,pushEnvs] using e.frames),e.mod,e.bs,e.wH,e.hU,e.wU,e.aQ,e.bare}
section
variable{s s':gB}
def Inv.uP(I:zv2 s):jl X.prog X.w X.K X.mg X.base X.A X.stack s H:=
 {I.ok.frames,I.ok.mod,I.bs,di I.ok.wH I.sz,I.stack,I.nr,I.aQ,I.bare}
def Inv.after(I:zv2 s)(h:CE X.stack X.prog X.w H s Q u s'):EP X aa σ Q u s':=by let(v,c,os,bare,un,aQ,r,q):=h;let(e,g,d,t,a):=s';obtain rfl:a=s.os:=os;exact{v,c,I.call (h':=e) (g':=g) (d':=d) (t':=t) (ch:=[]) un aQ bare (λb z=>absurd z (by simp)),r,q}
end
def Binds(K:zz8)(fd:FuncData)(ps:List Str)(b:List gA):Prop:=
 ∀(s:gB) (a:List gA),K.In s.heap->(a++b).length=ps.length->BindsTo s fd {a,[]} (ps.zip (a++b))
def Binds.all{K:zz8}{fd:FuncData}{ps:List Str}(h:∀us:List gA,us.length=ps.length->bindArgs fd {us,[]}=pure (ps.zip us)):Binds K fd ps []:=λs us Z hl=>by rw [e6] at hl⊢;exact .of_eq (h us hl)
def Passes(CX:zV)(X:Cx)(E:XK):Prop:=∀(b:kd) (c:St) (H:Hp) (s:gB) (e:gA) (a:gB),Inv X b c H s->CX X.stack H s E e a->X.xe e a
section
variable{CX:zV}{k:Nat}{f C:hB}{fd:FuncData}{ps:List Str}{sp:Sp}{dvs:List V}{ds:List gA}{E:XK}
structure Mk(K:zz8)(C f:hB):Prop where
 makes:PySem.W.makesIn K C=gf
 init:PySem.W.findIn K (.ref C) (zu 14)=fP (fP (.ref f))
 fn:PySem.W.isFn K (.ref f)=gf
 kp:PySem.W.keepIn K (.ref C)=gf
def Fn{c:St}{s:gB}(M:Mk X.K C f)(F:fF X.prog X.w X.K X.mg X.base CX k f fd ps sp)(i:dB (k+1) X.A)(j:Binds X.K fd ps ds)(hd:Vals dvs ds)
 (m:Passes CX X E) (I:Inv X aa c H s) (r:Vals vs us)
 (h:∀x dx,H x=gd->H dx=gd->dx≠x->sp (.ref x::(vs++dvs)) (upd (upd H dx (.own x)) x (.ins C dx [])) (λv o=>v=.aN/\Q (.ref x) o) E):
 zx7 X (call (.ref C) us) (EP X aa c Q) X.xe s:=by
 have d:=h ((zz9 s)+1) (zz9 s) (I.aQ.fresh (Nat.le_succ _)) (I.aQ.fresh (a8 _)) (d1 (Nat.lt_succ_self _));have b:=Inv.made (C:=C) I;have g:Vals (V.ref ((zz9 s)+1)::(vs++dvs)) (gA.ref ((zz9 s)+1)::(us++ds)):=.cons rfl (r.append hd);have hl:(gA.ref ((zz9 s)+1)::us++ds).length=ps.length:=by have e:=g.length;rw [F.len _ _ _ _ d] at e;exact e.symm
 refine wpAny_call (Eg (f:=f) I.jY M.makes M.init (zzy.mp M.fn) (codeAny_mono (F.run _ X.stack _ _ {gA.ref ((zz9 s)+1)::us,[]} (gA.ref ((zz9 s)+1)::(us++ds)) _ _ E (i.make C us [])
  (b.uP.make C us []) (j _ (gA.ref ((zz9 s)+1)::us) b.jY hl) g d) λr p a=>?_))
 cases r with
 |error e=>exact m aa c _ _ e p b a|ok fl=>
  cases fl with
  |ret u=>let(v,q,t,y,z,B):=b.after a;subst z;exact{y,{V.ref ((zz9 s)+1),q,t,rfl,B}}|next=>exact ed a|brk=>exact ed a|cont=>exact ed a
end
structure iP(N P:List Str)(sc:ia):Prop where
 kind:sc.kind=.function
 co:sc.isCoroutine=gh
 gen:sc.isGenerator=gh
 nd:N.Nodup
 pre:N.take P.length=P
 par:∀x∈P,sc.names.lookup x=fP .local\/sc.names.lookup x=fP .cell
 Nx:∀y∈sc.names,y.2≠.free
theorem qq{a:Str->Option NameKind}:∀{binds:List (Str×gA)} {m:Str->Option gA},(∀v,(x,v)∉binds)->bindL a binds m x=m x
 |[],_,_=>rfl|(n,v)::r,m,h=>by
  unfold bindL;rw [qq λw b=>h w (cq _ b)];split
  .have:x≠n:=by rintro rfl;exact h v c0
   simp [this]
  .rfl
theorem qo{a:Str->Option NameKind}:∀{binds:List (Str×gA)} {m:Str->Option gA},(∀v,(x,v)∉binds)->bindC a binds m x=m x
 |[],_,_=>rfl|(n,v)::r,m,h=>by
  unfold bindC;rw [qo λw b=>h w (cq _ b)];split
  .rfl
  .have:x≠n:=by rintro rfl;exact h v c0
   simp [this]
theorem qp{a:Str->Option NameKind}{v:gA}:∀{P:List Str} {vs:List gA} {i:Nat} {m:Str->Option gA},P.Nodup->P[i]?=fP x->vs[i]?=fP v->a x=fP .local->
 bindL a (P.zip vs) m x=fP v
 |[],_,_,_,_,h,_,_=>by simp at h|_::_,[],_,_,_,_,h,_=>by simp at h|p::P,w::vs,0,m,nd,b,c,hk=>by simp at b c;subst b;subst c;show bindL a ((p,w)::P.zip vs) m p=_;unfold bindL;rw [qq λv d=>(List.nodup_cons.mp nd).1 (List.of_mem_zip d).1,if_pos hk];simp|p::P,w::vs,i+1,m,nd,b,c,hk=>by show bindL a ((p,w)::P.zip vs) m x=_;unfold bindL;exact qp (i:=i) (List.nodup_cons.mp nd).2 (zx6 b) (zx6 c) hk
theorem qm{a:Str->Option NameKind}{v:gA}:∀{P:List Str} {vs:List gA} {i:Nat} {m:Str->Option gA},P.Nodup->P[i]?=fP x->vs[i]?=fP v->a x≠fP .local->
 bindC a (P.zip vs) m x=fP v
 |[],_,_,_,_,h,_,_=>by simp at h|_::_,[],_,_,_,_,h,_=>by simp at h|p::P,w::vs,0,m,nd,b,c,hk=>by simp at b c;subst b;subst c;show bindC a ((p,w)::P.zip vs) m p=_;unfold bindC;rw [qo λv d=>(List.nodup_cons.mp nd).1 (List.of_mem_zip d).1,if_neg hk];simp|p::P,w::vs,i+1,m,nd,b,c,hk=>by show bindC a ((p,w)::P.zip vs) m x=_;unfold bindC;exact qm (i:=i) (List.nodup_cons.mp nd).2 (zx6 b) (zx6 c) hk
abbrev start(N:List Str)(vs:List V):St:=vs.map fP++jz (N.length-vs.length) gd
noncomputable def dM(CX:zV)(P:hG)(w:hI)(K:zz8)(mg:Str->Option gA)(base:ig)(N:List Str)(qual:Str)(a:ia)(f:hB)(cd:gA)(A:h9)(outer:List Env)(s:gB)(H:Hp)(E:XK):Cx where
 prog:=P
 w:=w
 K:=K
 mg:=mg
 base:=base
 A:=A.deeper (envOfC qual a (zz9 s) f cd)
 N:=N
 s₀:=s
 H₀:=H
 env:=envOfC qual a (zz9 s) f cd
 outer:=outer
 stack:=envOfC qual a (zz9 s) f cd::outer
 ex:=[]
 calm:=A.handled.isNone
 fn:=λZ=>gf
 pn:=[]
 xe:=λe c=>hF (hT P w) (A.deeper (envOfC qual a (zz9 s) f cd)) (leaving (envOfC qual a (zz9 s) f cd) e) (λZ b=>CX outer H s E e b) (λd b=>CX outer H s E d b) c
def uz{sc:ia}{n:Nat}(h:sc.names.lookup x=fP .cell):∃c,(i2 n sc.names []).lookup x=fP c:=by have q:=PySem.W.cellsFrom_some sc.names n [] (.inl h);exact ej.mp q
def AX{CX:zV}{P:hG}{K:zz8}{ps:List Str}{d:ia}{f:hB}{cd:gA}{s s1:gB}{E:XK}
 (S:iP N ps d) (j:jl P w K mg base A outer s H) (hl:vs.length=ps.length) (r:Vals vs us)
 (x:InCallC s (zz9 s) (bindL (envOfC qual d (zz9 s) f cd).kindOf (ps.zip us) λZ=>gd) (i2 ((zz9 s)+1) d.names []) (bindC (envOfC qual d (zz9 s) f cd).kindOf (ps.zip us) λZ=>gd) s1):
 Inv (dM CX P w K mg base N qual d f cd A outer s H E) [] (start N vs) H s1:=by
 have G:ps.length<=N.length:=by have:=congrArg List.length S.pre;rw [List.length_take] at this;lia
 let(t,M,rfl,hk):=x.done;have C:∀b:hB,b∉(dM CX P w K mg base N qual d f cd A outer s H E).ex:=λb z=>absurd (show b∈([]:List hB) from z) (by simp)
 refine{{j.mod,S.kind,rfl,rfl,a8 _,λy z c t g=>?_,λy m=>?_,λy c Z h=>?_,λz=>Option.isNone_iff_eq_none.mp z,h9.frames_deeper j.frames,.inr ⟨rfl,rfl⟩,λb z=>absurd z (C b),j.bs,j.wH,λb Z Z=>C b,λb z=>absurd z (C b),j.hU,j.wU},
  rfl,j.bare,Un.kept hk,{_,x.toInCall.ns,λi y v t g h3=>?_},λy c h=>{_,x.cell y c h},j.aQ.fresh (a8 _),λy c h=>?_,λp o=>absurd (show p∈([]:kd) from o) (by simp),j.aQ.kept hk,?_}
 .exact name_of_addr x.apart (PySem.mem_of_lookup t) (PySem.mem_of_lookup g)
 .have m:d.names.lookup y=fP .cell\/d.names.lookup y=fP .free:=m
  rcases m with m|m
  .exact uz m
  .exact absurd rfl (S.Nx _ (PySem.mem_of_lookup m))
 .exact Nat.le_of_lt (x.above y c (PySem.mem_of_lookup h))
 .have B:i<vs.length:=by
   unfold start at g;by_cases B:i<vs.length
   .exact B
   .rw [el (zx6 B)] at g;rw [List.getElem?_replicate] at g;split at g<;>cases g
  have I:vs[i]?=fP v:=by
   unfold start at g;rw [ek (zx6 B),c4] at g;cases e:vs[i]? with
   |none=>rw [e] at g;cases g
   |some a=>rw [e] at g;cases g;rfl
  let(u,D,L):=r.get I;have o:ps[i]?=fP y:=by rw [<-S.pre,List.getElem?_take_of_lt (by lia)];exact t
  have F:ps.Nodup:=by rw [<-S.pre];exact S.nd.sublist (List.take_sublist _ _)
  refine{u,L,?_};rcases S.par y (a7 o) with k|k
  .exact .inl {k,qp F o D k}
  .let(c,e):=uz (n:=(zz9 s)+1) k;refine .inr {.inl k,c,e,?_};have q:=x.cell y c e;rw [qm F o D (by show d.names.lookup y≠_;rw [k];decide)] at q;exact q
 .exact j.aQ.fresh (Nat.le_of_lt (x.above y c (PySem.mem_of_lookup h)))
 .unfold start;show _=N.length;rw [cD,zzl,List.length_replicate];lia
def Df{CX:zV}{P:hG}{K:zz8}{k:Nat}{f:hB}{name:Str}{c:Arguments}{body:List ix}{a:ia}{C kV i D h ct oc:gA}{F R:Option hB}
 {T:Array (Option gA)} {ps:List Str} {sp:Sp} (U:K.lookup f=fP {oc,R,.func (PySem.W.fnOf name qual c body a C kV i D F h ct),T}) (X:PySem.W.codeIn K h qual=gf) (S:iP N ps a)
 (len:∀vs H Q E,sp vs H Q E->vs.length=ps.length)
 (Y:∀(A:h9) (outer:List Env) (s:gB) (H:Hp) (vs:List V) (Q:VK) (E:XK),dB k (A.deeper (envOfC qual a (zz9 s) f h))->sp vs H Q E->
  ∃t,qg (dM CX P w K mg base N qual a f h A outer s H E) body t/\t {nx:=λ_ g=>Q .aN g,rt:=Q} (start N vs) H):
 fF P w K mg base CX (k+1) f (PySem.W.fnOf name qual c body a C kV i D F h ct) ps sp:=by
 refine{len,λA outer s H args Z vs Q E G j hb r L=>?_};have hl:=len _ _ _ _ L;have M:K.In s.heap:=j.mod.Ii.keeps λb o e=>(j.bs b o e).1;have m:s.heap.NoLimit:=j.mod.nolimit.keeps λb o e=>(j.bs b o e).1
 have Rc:∀y∈ps.zip Z,a.names.lookup y.1=fP .local\/(a.names.lookup y.1=fP .cell/\((i2 ((zz9 s)+1) a.names []).lookup y.1).isSome=gf):=λp hy=>by
  let(n,v):=p
  rcases S.par n (List.of_mem_zip hy).1 with q|q
  .exact .inl q
  .exact .inr {q,PySem.W.cellsFrom_some _ _ _ (.inl q)}
 refine codeAny_call_function G.depth (M _ _ U) rfl S.co S.gen rfl (PySem.W.codeRec_of M X) (hb _ _ _ _ ?_);refine wpAny_newFunctionEnv_cells S.kind Rc λenv he O x=>?_;subst he;refine{m.keeps x.toInCall.keep,codeAny_func ?_};let(t,ht,hq):=Y A outer s H vs Q E (G.deeper _) L;have I:Inv (dM CX P w K mg base N qual a f h A outer s H E) [] (start N vs) H O:=AX S j hl r x;refine wpAny_mono (ht [] O (start N vs) H _ I hq) (λfl z hs=>?_) λe z hs=>hs
 have fin:∀{d:St} {g:Hp} {v:V} {u:gA},Inv (dM CX P w K mg base N qual a f h A outer s H E) [] d g z->RelV v u->Q v g->CE outer P w H s Q u z:=
  λ{d g v u} J B q=>⟨v,g,J.os,J.bare,J.base,J.aQ,B,q⟩
 cases fl with
 |ret u=>let(v,d,g,J,B,q):=hs;exact fin J B q|next=>let(d,g,J,q):=hs;exact fin (v:=V.aN) (u:=gA.none) J rfl q|brk=>let(_,_,_,q):=hs;exact ed q|cont=>let(_,_,_,q):=hs;exact ed q
section
variable{p:Pos}{es:List hD}{t:TA}{id T:String}{r:List V->Hp->VK->Prop}
abbrev TN(r:List V->Hp->VK->Prop)(t:TA):TE:=λa H Q=>t a H λb c=>r b c Q
def gD(c:dP X (.builtin id) r)(d:Gl X x)(hm:X.mg x=gd)(f:bootBuiltins x=fP (.builtin id))(g:PA X (e::es) t)(hn:x≠(zu 51):=by decide)(i:(x==(zu 33:Str))=gh:=by decide)
 (he:starEach (e::es) X.env=(gh,eval e X.env)::starEach es X.env:=by rfl) (hpl:(backTo pos (starEach es X.env)).any (·.1)=gh:=by rfl):PE X (.Call (.Name x p) (e::es) [] pos) (TN r t):=by
 intro a s b H Q I h;refine wpAny_Call_Name_kw (j1 I d hm f ?_ hn i);exact PyProof.Rows.callWith_builtin1 (bU (g pos a s b H _ I h) λj k ⟨m,H1,o,q,u⟩=>c a k b H1 m j Q o q u) he hpl
def i7(c:dP X (.type T) r)(d:Gl X x)(hm:X.mg x=gd)(f:bootBuiltins x=fP (.type T))(g:PA X (e::es) t)(hn:x≠(zu 51):=by decide)(i:(x==(zu 33:Str))=gh:=by decide)
 (he:starEach (e::es) X.env=(gh,eval e X.env)::starEach es X.env:=by rfl) (hpl:(backTo pos (starEach es X.env)).any (·.1)=gh:=by rfl):PE X (.Call (.Name x p) (e::es) [] pos) (TN r t):=by
 intro a s b H Q I h;refine wpAny_Call_Name_kw (j1 I d hm f ?_ hn i);exact PyProof.Rows.callWith_type1 (bU (g pos a s b H _ I h) λj k ⟨m,H1,o,q,u⟩=>c a k b H1 m j Q o q u) he hpl
end
end L2
variable{H G H1 H0:L2.Hp}{v:L2.V}{X:L2.Cx}{Q:L2.VK}{σ:L2.St}{te:L2.TE}{vs:List L2.V}
namespace HT
open PyProof.Rows
abbrev lexLt:List Int->List Int->Bool
 |[],[]=>gh|[],_::_=>gf|_::_,[]=>gh|x::xs,y::ys=>if x=y then lexLt xs ys else decide (x<y)
theorem xi(x y:Int)(xs ys:List Int):lexLt (x::xs) (y::ys)=if x=y then lexLt xs ys else decide (x<y):=rfl
theorem pW:lexLt [] []=gh:=rfl
section
variable{E:jW}{s:gB}
def GY{t b:hB}{vs ws:List gA}{Q:jW}(p:IsTup s.heap t vs.toArray)(q:IsTup s.heap b ws.toArray)(h:vs≠[])
 (r:ws=[]->Q (.ref t) s) (u:ws≠[]->Q (.ref (zz9 s)) {s with heap:=s.heap.push {cls:=.type "tuple",data:=.seq (vs++ws).toArray}})
 (hsz:vs.length+ws.length<=iv):hF (hT prog w) A (binaryOp .Add (.ref t) (.ref b)) Q E s:=by
 let((cls,i,data,j),d,k,n,hd):=id p;let((m,Pd,g,a),f,pT,o,c):=id q;simp only at k hd pT c;subst k hd pT c;have e:vs.toArray++ws.toArray=(vs++ws).toArray:=by simp
 by_cases hw:ws=[]
 .exact concat_meets {_,d,rfl} {_,f,rfl} noFill_tuple_add seq_tuple_add PySem.F.slot_tuple_add PySem.F.entry_tuple_add (PySem.F.args_tuple_add_2 _ _)
   (tuple_addW1 t b vs.toArray ws.toArray n o i Pd j a (zx6 h) (by simp [hw])) {d,f,r hw}
 .refine concat_meets {_,d,rfl} {_,f,rfl} noFill_tuple_add seq_tuple_add PySem.F.slot_tuple_add PySem.F.entry_tuple_add (PySem.F.args_tuple_add_2 _ _)
   (tuple_addW2 t b vs.toArray ws.toArray n o i Pd j a (zx6 h) (zx6 hw) (by rw [a5,a5];exact hsz)) {d,f,?_}
  rw [e];exact u hw
abbrev dS(n d:Nat):Option Int->Nat
 |none=>d|some v=>if v<0 then(v+(n:Int)).toNat else min v.toNat n
theorem vP(n d:Nat):dS n d gd=d:=rfl
def zE(n d k:Nat):dS n d (fP (k:Int))=min k n:=by show(if(k:Int)<0 then((k:Int)+(n:Int)).toNat else min (k:Int).toNat n)=min k n;rw [if_neg (by lia),eF]
def Ow(n d:Nat)(hd:d<=n)(o:Option Int):dS n d o<=n:=by
 cases o with
 |none=>exact hd|some v=>
  show(if v<0 then(v+(n:Int)).toNat else min v.toNat n)<=n;by_cases a:v<0
  .rw [if_pos a];lia
  .rw [if_neg a];exact Nat.min_le_right _ _
def yv(v:Int)(n d:Nat):(if v<0 then max (v+(n:Int)) 0 else min v (n:Int))=((dS n d (fP v):Nat):Int):=by
 show(if v<0 then max (v+(n:Int)) 0 else min v (n:Int))=(((if v<0 then(v+(n:Int)).toNat else min v.toNat n):Nat):Int);by_cases a:v<0
 .simp! [if_pos a];lia
 .simp! [if_neg a];lia
def wu(a b:Option Int)(n:Nat):i1.Slice.sliceAdjust a b 1 (n:Int)=(((dS n 0 a:Nat):Int),((dS n n b:Nat):Int)):=by
 have c:¬((1:Int)<0):=by lia
 unfold i1.Slice.sliceAdjust;simp! [c,if_false];refine Prod.ext ?_ ?_
 .cases a with
  |none=>rfl|some v=>exact yv v n 0
 .cases b with
  |none=>rfl|some v=>exact yv v n n
def xB(i j:Nat):i1.Slice.slicePlaces (i:Int) (j:Int) 1=j-i:=by
 unfold i1.Slice.slicePlaces;have a:(1:Int)>0:=by lia
 simp! [a,if_true,Int.ediv_one];split<;>lia
def kb{v:gA}{o:Option Int}{Q:Option Int->gB->Prop}(p:IsPart v o)(h:Q o s):hF (hT prog w) A (i1.Slice.slicePartIndex v) Q E s:=by
 cases p with
 |none=>exact slicePart_none h|int i t=>exact slicePart_int h
def gF{g:hB}{e f:gA}{a b:Option Int}{n:Nat}{Q:Int×Int×Nat->gB->Prop}(hs:s.heap.IsSliceOf g e f .none)(i:IsPart e a)(pu:IsPart f b)
 (h:Q (((dS n 0 a:Nat):Int),1,dS n n b-dS n 0 a) s):hF (hT prog w) A (i1.Slice.sliceApplied (.ref g) (pure (n:Int))) Q E s:=by
 let(os,c,j,d):=id hs
 unfold i1.Slice.sliceApplied i1.Slice.sliceFields;refine ar (ar (wpAny_field c d (x:=e) rfl (ar (wpAny_field c d (x:=f) rfl (ar (wpAny_field c d (x:=.none) rfl (bT ?_)))))));refine ar (slicePart_none ?_);show hF _ _ (if((1:Int)==0)=gf then _ else _) _ _ s;rw [if_neg (by decide)];refine ar (kb i (ar (kb pu (ar (bT ?_)))));show hF _ _ (match i1.Slice.sliceAdjust a b 1 (n:Int) with|(a,b)=>pure (a,(1:Int),i1.Slice.slicePlaces a b 1)) _ _ s;rw [wu a b n];show hF _ _ (pure (((dS n 0 a:Nat):Int),(1:Int),i1.Slice.slicePlaces ((dS n 0 a:Nat):Int) ((dS n n b:Nat):Int) 1)) _ _ s;rw [xB];exact bT h
def EZ(xs:Array gA)(i k:Nat):((List.range k).filterMap λ(m:Nat)=>xs[((i:Int)+(m:Int)*1).toNat]?).toArray=((xs.toList.drop i).take k).toArray:=by
 have e:(λ(m:Nat)=>xs[((i:Int)+(m:Int)*1).toNat]?)=λm=>xs[i+m]?:=by
  funext m
  have:((i:Int)+(m:Int)*1).toNat=i+m:=by lia
  rw [this]
 rw [e];have:=pick_run xs i k;rw [List.filterMap_map] at this;have a:((λx=>xs[x]?)∘λx=>i+x)=λm=>xs[i+m]?:=rfl;rw [a] at this;rw [this]
def kN{t e:hB}{g i:gA}{a b:Option Int}{Q:jW}(c:IsTup s.heap t items)(hs:s.heap.IsSliceOf e g i .none)(j:IsPart g a)(pu:IsPart i b)
 (hw:¬(dS items.size 0 a=0/\dS items.size items.size b=items.size))
 (h:Q (.ref (zz9 s)) {s with heap:=s.heap.push {cls:=.type "tuple",data:=.seq ((items.toList.drop (dS items.size 0 a)).take (dS items.size items.size b-dS items.size 0 a)).toArray}})
 (hsz:items.size<=iv):hF (hT prog w) A (getItem (.ref t) (.ref e)) Q E s:=by
 have d:sizeOk (.seq ((items.toList.drop (dS items.size 0 a)).take (dS items.size items.size b-dS items.size 0 a)).toArray):=by show((items.toList.drop (dS items.size 0 a)).take (dS items.size items.size b-dS items.size 0 a)).toArray.size<=iv;rw [a5,List.length_take,List.length_drop,d3];omega
 have u:dS items.size items.size b<=items.size:=Ow _ _ (a8 _) b;let(os,f,k,o):=id hs;have p:s.TypeIs (.ref e) "slice":=⟨os,f,k⟩;unfold getItem
 try with_reducible refine wpAny_holding ?_
 first|refine ar (bT ?_)|skip
 refine ar (wpAny_sequenceKey c.typeIs (by decide) ?_);refine ar (wpAny_callSpecial?_slot (name:=Str.ofString "__getitem__") c.typeIs PyProof.Rows.slot_tuple_getitem
  (wpAny_call_entry PyProof.Rows.slot_tuple_getitem c.typeIs entry_tuple_getitem ?_ (args_tuple_getitem _ _)))
 show hF _ _ (i1.Tuple.tupleItemsOf (.ref t)>>=_) _ _ s;refine ar (tupleItemsOf_ c ?_);refine ar (wpAny_typeOf p ?_);rw [if_pos (by decide)];refine ar (gF hs j pu ?_);have r:¬((((dS items.size 0 a:Nat):Int)==0&&(1:Int)==1&&(dS items.size items.size b-dS items.size 0 a)==items.size)=gf):=by intro q;rw [zza,zza] at q;have y:((dS items.size 0 a:Nat):Int)=0:=eq_of_beq q.1.1;have z:dS items.size items.size b-dS items.size 0 a=items.size:=eq_of_beq q.2;exact hw {by omega,by omega}
 show hF _ _ (if(((dS items.size 0 a:Nat):Int)==0&&(1:Int)==1&&(dS items.size items.size b-dS items.size 0 a)==items.size)=gf then _ else _) _ _ s;rw [if_neg r,EZ]
 first
  |exact ar (m:=i1.Tuple.tupleExact _) (wpAny_newObj_type (bT ⟨_,rfl,bT h⟩) d)
  |exact ar (m:=i1.Tuple.tupleExact _) (wpAny_newObj_type (ar (bT (bT ⟨_,rfl,bT h⟩))) d)
  |exact ar (ar (m:=i1.Tuple.tupleExact _) (wpAny_newObj_type (bT (bT ⟨_,rfl,bT h⟩)) d))
  |exact ar (ar (m:=i1.Tuple.tupleExact _) (wpAny_newObj_type (bT ⟨_,rfl,bT h⟩) d))
end
end HT
namespace L2
open PySem.Spec PyProof.Rows
noncomputable abbrev TO:=St->Hp->(Option Int->Hp->Prop)->Prop
def PO(X:Cx)(e:Option hD)(t:TO):Prop:=
 ∀(b:kd) (s:gB) (a:St) (H:Hp) (Q:Option Int->Hp->Prop),Inv X b a H s->t a H Q->
  zx7 X (evalPart e X.env) (λu d=>∃o c,Inv X b a c d/\IsPart u o/\Q o c) X.xe s
abbrev JF:TO:=λZ H Q=>Q gd H
abbrev SM(t:TE):TO:=λa H Q=>t a H λx b=>∃i,x=.int i/\Q (fP i) b
section
variable{lo hi:Option hD}{tl th:TO}{p2:Pos}
def Jd:PO X gd JF:=by intro a s b H Q I h;rw [evalPart_none];exact bT {gd,H,I,.none,h}
def Je(h:PE X e te):PO X (fP e) (SM te):=by intro b s c H Q I d;rw [evalPart_some];refine bU (h b s c H _ I d) λu m a=>?_;let(x,f,g,j,k):=a;let(i,rfl,q):=k;let(t,rfl):=j;exact{fP i,f,g,.int i t,q}
def Gk(X:Cx)(r:V->Option Int->Option Int->Hp->VK->Prop):Prop:=
 ∀(a:kd) (s:gB) (b:St) (H:Hp) (x:V) (v c d:gA) (lo hi:Option Int) (f:hB) (Q:VK),Inv X a b H s->RelV x v->s.heap.IsSliceOf f c d .none->IsPart c lo->IsPart d hi->r x lo hi H Q->
  ∃T g,typeLookup (.type T) "__getitem__"=pure (fP (.builtin g))/\s.TypeIs v T/\zx7 X (getItem v (.ref f)) (EP X a b Q) X.xe s
abbrev tSl(r:V->Option Int->Option Int->Hp->VK->Prop)(te:TE)(tl th:TO):TE:=λa H Q=>te a H λx b=>tl a b λl c=>th a c λu d=>r x l u d Q
def EU{r:V->Option Int->Option Int->Hp->VK->Prop}(k:Gk X r)(he:PE X e te)(hl:PO X lo tl)(m:PO X hi th):PE X (.Subscript e (.Slice lo hi gd p2) pos) (tSl r te tl th):=by
 intro d s f H Q I h;refine Subscript_ (bU (he d s f H _ I h) λv o c=>?_);let(x,p,t,y,z):=c;refine wpAny_Slice (bU (hl d o f p _ t z) λg B ⟨l,C,D,E,F⟩=>bU (m d B f C _ D F) λi a c=>?_);let(u,j,G,pu,K):=c
 rw [evalPart_none];refine bT ?_;have L:Inv X d f j {a with heap:=a.heap.push {cls:=.type "slice",data:=.fields #[g,i,.none]}}:=G.kept (t':=a.toks) λb ob q=>aT _ q
 let(T,P,M,N,O):=k d {a with heap:=a.heap.push {cls:=.type "slice",data:=.fields #[g,i,.none]}} f j x v g i l u (zz9 a) Q L y (ig.IsSliceOf.new ..) E pu K
 show zx7 X (subscriptTail e (.Slice lo hi gd p2) v (.ref (zz9 a))) (EP X d f Q) X.xe {a with heap:=a.heap.push {cls:=.type "slice",data:=.fields #[g,i,.none]}};exact tail_any (ops:=[.ref (zz9 a),v]) N M O (by with_unfolding_all rfl)
abbrev Ap(xs:List V)(lo hi:Option Int):List V:=(xs.drop (HT.dS xs.length 0 lo)).take (HT.dS xs.length xs.length hi-HT.dS xs.length 0 lo)
def uG(xs:List V)(lo hi:Option Int):(Ap xs lo hi).length<=xs.length:=by unfold Ap;rw [List.length_take,List.length_drop];lia
def Wv(K:zz8):V->Option Int->Option Int->Hp->VK->Prop:=λx lo hi H Q=>∃a xs,x=.ref a/\gH K H a xs/\
 ¬(HT.dS xs.length 0 lo=0/\HT.dS xs.length xs.length hi=xs.length)/\∀p,H p=gd->Q (.ref p) (upd H p (.tup (Ap xs lo hi)))
def OD:Gk X (Wv X.K):=by
 intro p s t H x v u w lo hi y Q I g hs i pu h;let(a,xs,rfl,j,k,q):=h;cases g;let(m,r,d,f):=I.tuple j;have c:m.toArray.size=xs.length:=by rw [a5];exact r.length.symm
 refine{"tuple",_,PyProof.Rows.slot_tuple_getitem.lookup,d.typeIs,?_};refine HT.kN d hs i pu (by rw [c];exact k) ?_ (by rw [c];exact f);rw [c];refine{.ref (zz9 s),_,I.laid (t':=s.toks) (o:=.tup (Ap xs lo hi)) (λb ob q=>aT _ q) (a8 _) ?_,rfl,q _ (I.aQ.fresh (a8 _))};exact{di (uG xs lo hi) f,_,(r.drop (HT.dS xs.length 0 lo)).take (HT.dS xs.length xs.length hi-HT.dS xs.length 0 lo),IsTup.new _ _}
abbrev Sh(K:zz8):R2:=λx y H Q=>∃a b xs c,x=.ref a/\y=.ref b/\gH K H a xs/\gH K H b c/\xs≠[]/\xs.length+c.length<=iv/\
 (c=[]->Q (.ref a) H)/\(c≠[]->∀p,H p=gd->Q (.ref p) (upd H p (.tup (xs++c))))
def Vals.nc{xs:List V}(r:Vals xs us):us=[]↔xs=[]:=by
 cases r with
 |nil=>simp|cons _ _=>simp
def IU:gW X (binaryOp .Add) (Sh X.K):=by intro B s C H x y v u Q I g i h;let(a,b,xs,j,rfl,rfl,k,m,p,f,r,t):=h;cases g;cases i;let(D,d,A,_):=I.tuple k;let(E,c,p2,_):=I.tuple m;refine HT.GY A p2 (λz=>p (d.nc.mp z)) (λz=>{.ref a,H,I,rfl,r (c.nc.mp z)}) (λz=>?_) (by rw [<-d.length,<-c.length];exact f);refine{.ref (zz9 s),_,I.laid (t':=s.toks) (o:=.tup (xs++j)) (λb ob q=>aT _ q) (a8 _) ?_,rfl,t (λw=>z (c.nc.mpr w)) _ (I.aQ.fresh (a8 _))};exact{by rw [cD];exact f,_,d.append c,IsTup.new _ _}
end
abbrev Pu(n:Nat)(i:Int):Option Nat:=if 0<=i then(if i<n then fP i.toNat else gd) else if -(n:Int)<=i then fP (i+n).toNat else gd
abbrev yi{a:Type}(xs:List a)(i:Int):Option a:=(Pu xs.length i).bind λj=>xs[j]?
def Ic{n:Nat}{i:Int}(h:Pu n i=fP j):seqIndex? i n=fP j/\j<n/\ -(n:Int)<=i/\i<n:=by
 unfold Pu at h;by_cases h0:0<=i
 .rw [if_pos h0] at h;by_cases a:i<n
  .rw [if_pos a] at h;have e:i.toNat=j:=zzq h;exact{by rw [seqIndex_of h0 a,e],by lia,by lia,a}
  .rw [if_neg a] at h;cases h
 .rw [if_neg h0] at h;by_cases a: -(n:Int)<=i
  .rw [if_pos a] at h;have e:(i+n).toNat=j:=zzq h;exact{by rw [seqIndex_neg (by lia) a,e],by lia,a,by lia}
  .rw [if_neg a] at h;cases h
def rG{a:Type}{xs:List a}{i:Int}{v:a}(h:yi xs i=fP v):∃j,seqIndex? i xs.length=fP j/\xs[j]?=fP v/\j<xs.length/\ -(xs.length:Int)<=i/\i<xs.length:=by
 unfold yi at h;cases e:Pu xs.length i with
 |none=>rw [e] at h;cases h
 |some j=>rw [e] at h;let(b,c,h3,d):=Ic e;exact⟨j,b,h,c,h3,d⟩
def rC(b:hD):Prop:=∀o i,subscripted b gh o i=operate [o,i] (getItem o i)
def K5(X:Cx)(r:R2):Prop:=
 ∀(a slice:hD) (b:kd) (s:gB) (c:St) (H:Hp) (x y:V) (v u:gA) (Q:VK),Inv X b c H s->RelV x v->RelV y u->r x y H Q->
  subscripted slice gh v u=operate [v,u] (getItem v u)->zx7 X (subscriptTail a slice v u) (EP X b c Q) X.xe s
def S6(X:Cx)(id:String)(r:V->List V->Hp->VK->Prop):Prop:=
 ∀(a:kd) (s:gB) (b:St) (H:Hp) (x:V) (xs:List V) (v:gA) (c:List gA) (Q:VK),Inv X a b H s->RelV x v->Vals xs c->r x xs H Q->
  zx7 X (call (.builtin id) (v::c)) (EP X a b Q) X.xe s
section
variable{a b:hD}{ta tb:TE}
def Kz{r:R2}(c:K5 X r)(d:PE X a ta)(e:PE X b tb)(hs:rC b):PE X (.Subscript a b pos) (PD r ta tb):=by intro f s g H Q I h;exact Subscript_ (Le d e I h λv u i x y j k m o q=>c a b f i g j x y v u Q k m o q (hs _ _))
abbrev Wr(K:zz8):R2:=λx y H Q=>∃p xs i v,x=.ref p/\y=.int i/\iQ K H p xs/\yi xs i=fP v/\Q v H
abbrev Wt(K:zz8):R2:=λx y H Q=>∃p xs i v,x=.ref p/\y=.int i/\gH K H p xs/\yi xs i=fP v/\Q v H
abbrev Ws:R2:=λx y H Q=>∃z i c,x=.str z/\y=.int i/\z.length<=iv/\yi z.cps.toList i=fP c/\Q (.str {#[c]}) H
def Ie:K5 X (Wr X.K):=by
 intro d slice g s k H x y v u Q I o A h hs;let(p,xs,i,z,rfl,rfl,B,C,q):=h;cases o;let(t,rfl):=A;let(D,r,e,N):=I.list B;let(j,c,E,h3,F,G):=rG C;let(w,m,L):=r.get E;have hl:=r.length;have O:=oC;have fin:EP X g k Q w s:=⟨z,H,I,L,q⟩;by_cases h0:0<=i
 .have f:i.toNat=j:=by
   rw [seqIndex_of h0 G] at c;exact zzq c
  exact item_listR e.isList h0 (by lia) (by rw [f];simpa using m) fin hs
 .have f:(i+(D.toArray.size:Int)).toNat=j:=by
   rw [seqIndex_neg (by lia) F] at c;rw [a5,<-hl];exact zzq c
  exact subscriptTail_builtinR (x:=w) e.isList.typeIs slot_list_getitem.lookup
   (wpAny_getItem_list_neg (Q:=λr M=>r=w/\EP X g k Q r M) e.isList (by lia) (by rw [a5]<;>lia) (by lia) (by rw [f];simpa using m) ⟨rfl,fin⟩) hs
def M3:K5 X (Wt X.K):=by
 intro c slice d s e H x y v u Q I g k h hs;let(p,xs,i,z,rfl,rfl,m,o,q):=h;cases g;let(t,rfl):=k;let(F,r,f,G):=I.tuple m;let(j,A,B,h3,L,M):=rG o;let(w,C,D):=r.get B;have hl:=r.length;have N:=oC;have fin:EP X d e Q w s:=⟨z,H,I,D,q⟩
 exact subscriptTail_builtinR (x:=w) f.typeIs slot_tuple_getitem.lookup
  (getItem_tuple (j:=j) (Q:=λr E=>r=w/\EP X d e Q r E) f (by lia) (by lia) (by rw [a5,<-hl];exact A) (zx6 C) ⟨rfl,fin⟩) hs
def M0:K5 X Ws:=by
 intro d slice A s B H x y v u Q I f g h hs;let(z,i,c,rfl,rfl,C,k,q):=h;let(t,rfl):=f;let(D,rfl):=g;let(j,e,m,h3,o,p):=rG k;have hl:z.cps.toList.length=z.length:=by simp [Str.length]
 rw [hl] at e o p;have E:=oC;exact tail_any (typeIs_str s z t) slot_str_getitem.lookup (getItem_str (c:=c) (by have r:decide (i< -(2^63:Int))=gh:=zz0 (by lia);have w:decide (i>=2^63)=gh:=zz0 (by lia);rw [r,w,Bool.or_false]) (by rw [e];simpa using m) {.str {#[c]},H,I.tok _,{_,rfl},q}) hs
def kq:dP X (.builtin "len") (λxs H Q=>∃p ys,xs=[.ref p]/\(iQ X.K H p ys\/gH X.K H p ys)/\Q (.int ys.length) H):=by
 intro k s m H xs o Q I r h;let(p,ys,rfl,d,q):=h;let(u,rfl,g):=vals1 r;cases g;have t:=oC
 rcases d with d|d
 .let(i,e,f,j):=I.list d;have c:=e.length;exact Calls.call_len_list f.isList (by simp! [a5]<;>lia) {.int ys.length,H,I.tok _,{s.toks+1,by rw [a5,c]},q}
 .let(i,e,f,j):=I.tuple d;have c:=e.length;exact len_tuple f (by simp! [a5]<;>lia) {.int ys.length,H,I.tok _,{s.toks+1,by rw [a5,c]},q}
def rH:dP X (.builtin "len") (λxs H Q=>∃z,xs=[.str z]/\z.length<=iv/\Q (.int z.length) H):=by intro c s d H xs e Q I r h;let(z,rfl,f,q):=h;let(u,rfl,t,rfl):=vals1 r;have g:=oC;exact len_str (by lia) {.int z.length,H,I.tok _,{_,rfl},q}
def pO:dP X (.type "tuple") (λxs H Q=>∃p ys,xs=[.ref p]/\((iQ X.K H p ys/\∀l,H l=gd->Q (.ref l) (upd H l (.tup ys)))\/(gH X.K H p ys/\Q (.ref p) H))):=by
 intro j s k H xs B Q I r h;let(p,ys,rfl,h):=h;let(u,rfl,z):=vals1 r
 cases z;rcases h with⟨d,q⟩|⟨d,q⟩
 .let(f,g,i,m):=I.list d;have t:=g.length;refine call_tuple_list i.isList (λc kp=>?_) (by simp! [a5]<;>lia);have y:Inv X j k H {s with heap:=c}:=I.kept (t':=s.toks) kp
  have A:Inv X j k (upd H c.objs.size (.tup ys)) {s with heap:=c.push {cls:=.type "tuple",data:=.seq f.toArray}}:=
   y.laid (t':=s.toks) (λb o e=>aT _ e) (a8 _) (show cb X.prog X.w _ _ _ (.tup ys) from{m,f,g,IsTup.new _ _})
  exact{.ref c.objs.size,_,A,rfl,q _ (y.aQ.fresh (a8 _))}
 .let(f,g,i,m):=I.tuple d;exact call_tuple_same i {.ref p,H,I,rfl,q}
def WU(K:zz8)(T:String)(x:V)(H:Hp):Prop:=match x with
 |.str _=>T="str"|.int _=>T="int"|.ref p=>(T="list"/\∃xs,iQ K H p xs)\/(T="tuple"/\∃o,K.lookup p=fP o/\o.cls=.type "tuple"/\o.dict=gd)\/
  (T="dict"/\((∃c,H p=fP (.dK c))\/∃c,H p=fP (.dT c)))\/(T="set"/\∃S n,H p=fP (.set S n))
 |_=>False
def O0{g:St}{s:gB}{T:String}{x:V}{v:gA}(I:Inv X aa g H s)(r:RelV x v)(ty:WU X.K T x H):
 s.TypeIs v T/\∀a,v=.ref a->∃ob,s.heap.get? a=fP ob/\ob.dict=gd:=by
 cases x with
 |str z=>let(t,rfl):=r;cases(show T="str" from ty);exact{typeIs_str s z t,λZ e=>nomatch e}
 |int i=>let(t,rfl):=r;cases(show T="int" from ty);exact{typeIs_int s i t,λZ e=>nomatch e}
 |ref p=>
  cases r;rcases ty with⟨rfl,xs,h⟩|⟨rfl,o,hk,j,hd⟩|⟨rfl,hk⟩|⟨rfl,S,n,hk⟩
  .let(m,_,f,_):=I.list h;refine{f.isList.typeIs,λa e=>?_};cases e;let(o,n,e,c,hd,_):=f;exact⟨o,e,hd⟩
  .refine{{o,I.jY p o hk,j},λa e=>?_};cases e;exact{o,I.jY _ o hk,hd}
  .have z:∃o,s.heap.get? p=fP o/\o.ExactDict:=by
    rcases hk with⟨k,hk⟩|⟨k,hk⟩
    .let(_,_,_,_,o,_,_,e,ex,_):=I.aQ p _ hk;exact⟨o,e,ex⟩
    .let(_,_,_,_,o,_,_,e,ex,_):=I.aQ p _ hk;exact⟨o,e,ex⟩
   let(o,e,ex):=z;refine{⟨o,e,ex.1⟩,λa d=>?_};cases d;exact⟨o,e,ex.2.1⟩
  .let(o,_,_,_,e,ex,_):=I.aQ p _ hk;refine{⟨o,e,ex.1⟩,λa d=>?_};cases d;exact⟨o,e,ex.2.1⟩
 |_=>exact ed ty
abbrev YL(K:zz8)(T:String)(r:V->List V->Hp->VK->Prop)(e:TE)(t:TA):TE:=λc H Q=>e c H λx d=>WU K T x d/\t c d λxs f=>r x xs f Q
variable{o:hD}{es:List hD}{to:TE}{t:TA}{name:Str}{apos bW:Pos}{T id:String}{r:V->List V->Hp->VK->Prop}
theorem vD(k:PlainAttrs T)(slot:Slot T name id)(m:typeOf (.builtin id)=pure (.type "method_descriptor"))(hm:S6 X id r)(p:PE X o to)(q:PA X (e::es) t)
 (u:attributeBase o name X.env (eval o X.env)=eval o X.env:=by rfl)
 (w:((backTo bW (starEach (e::es) X.env)).all (λx=>!x.1)&&(backToKw bW (keywordEach [] X.env)).all (λx=>x.1.isSome)
  &&decide ((e::es).length+([]:List Keyword).length+(if([]:List Keyword).isEmpty then 0 else 1)<30))=gf:=by rfl)
 (y:(apos.endLine==bW.line)=gf:=by rfl) (hs:starEach (e::es) X.env=(gh,eval e X.env)::starEach es X.env:=by rfl) (z:(backTo bW (starEach es X.env)).any (·.1)=gh:=by rfl):
 PE X (.Call (.Attribute o name apos) (e::es) [] bW) (YL X.K T r to t):=by
 intro c s d H Q I h;refine wpAny_Call_method_late u w y rfl (bU (p c s d H _ I h) λv A f=>?_);let(x,B,g,i,ty,C):=f;let(D,E):=O0 g i ty;refine{T,id,k,slot,m,D,E,?_};have j:=q bW c A d B _ g C;rw [hs] at j⊢;refine Calls.callWith_builtin (by show(gh||(backTo bW (starEach es X.env)).any (·.1))=gh;rw [z]<;>rfl) (Calls.evalArgs_plain ?_);exact bU j λF G ⟨L,M,N,O,P⟩=>hm c G d M x L v F Q N i O P
end
def YY(X:Cx)(id:String)(r:V->List V->Hp->VK->Prop):Prop:=
 ∀(a:kd) (s:gB) (b:St) (H:Hp) (x:V) (xs:List V) (v:gA) (c:List gA) (Q:VK),Inv X a b H s->RelV x v->Vals xs c->r x xs H Q->
  zx7 X (call (.builtin id) (v::c)) (EP X a b Q) X.xe s
def Vals.one{x:V}(h:Vals [x] us):∃u,us=[u]/\RelV x u:=by
 cases h with
 |cons r q=>cases q;exact{_,rfl,r}
def Vals.two{x y:V}(h:Vals [x,y] us):∃u v,us=[u,v]/\RelV x u/\RelV y v:=by
 cases h with
 |cons r q=>
  cases q with
  |cons q n=>cases n;exact{_,_,rfl,r,q}
section
variable{s:gB}{l:hB}{xs ys:List V}
def Inv.V1{a its':List gA}{n:Nat}{f:Array gA->Array gA}{t':Nat}(I:zv2 s)(b:H l=fP (.lst xs))
 (e:s.heap.get? l=fP {cls:=.type "list",data:=.seq a.toArray n}) (c:f a.toArray=its'.toArray) (d:Vals ys its') (hz:ys.length<=iv):
 Inv X aa σ (upd H l (.lst ys)) {s with heap:=s.heap.update l (Obj.mapSeq f),toks:=t'}:=by
 have q:=PySem.IsL.update e f;rw [c] at q;refine I.write (x:=l) (e:=l) (by rw [b];exact trivial) (.inl rfl) (λi u g h=>(ig.get?_update_other s.heap (Obj.mapSeq f) (Ne.symm g)).trans h) {_,q} ?_;exact{hz,its',_,d,q}
theorem Inv.V0{a:List gA}{t':Nat}(I:zv2 s)(b:Vals ys a)(hz:ys.length<=iv):
 Inv X aa σ (upd H (zz9 s) (.lst ys)) {s with heap:=s.heap.push {cls:=.type "list",data:=.seq a.toArray},toks:=t'}:=
 I.laid (λZ Z q=>aT _ q) (a8 _) {hz,a,0,b,dV _ rfl}
def Inv.fresh(I:zv2 s):H (zz9 s)=gd:=I.aQ.fresh (a8 _)
def Inv.V2(I:zv2 s)(b:H l=fP (.lst xs)):xs.length<=iv/\∃(a:List gA) (n:Nat),Vals xs a/\xs.length=a.length/\s.heap.get? l=fP {cls:=.type "list",data:=.seq a.toArray n}:=by let(z,a,n,r,e):=I.aQ l _ b;exact⟨z,a,n,r,r.length,e⟩
def Jh:V->List V->Hp->VK->Prop:=λx a H Q=>∃l xs y,x=.ref l/\a=[y]/\H l=fP (.lst xs)/\xs.length<iv/\Q .aN (upd H l (.lst (xs++[y])))
def qP:YY X "list.append" Jh:=by intro aa s σ H x g v i Q I c d h;let(l,xs,y,rfl,rfl,a,j,q):=h;cases c;let(u,rfl,f):=d.one;let(z,b,n,r,hl,e):=I.V2 a;refine call_meets F.slot_list_append {_,e,rfl} F.entry_list_append (F.args_list_append_2 _ _) (PySem.list_append l b.toArray n u (by rw [a5];lia)) {e,?_};refine{.aN,_,I.V1 (its':=b++[u]) a e (by simp) (r.append (.cons f .nil)) ?_,rfl,q};rw [cD,List.length_singleton];lia
end
end L2
namespace Att
open PySem.W PySem.Calls PyProof.Rows
def mO{P:Params}:∀(ns:List Int) (vs:List gA),WellAll P h vs (ns.map WData.int)->IntsAre vs ns:=by
 intro ns
 induction ns with
 |nil=>intro vs w;rw [List.map_nil] at w;cases w;exact .nil
 |cons n ns c=>
  intro vs w;rw [bc] at w;cases w with
  |cons a b=>cases a;exact .cons _ _ (c _ b)
def Bu{l:OpenLaw}{n:Nat}(hn:l.most=fP n){P:Params}{args:List WData}{b:List gA}
 (i:l.row.toRowW.claim.pre args=gf) (k:WellAll P h b args):
 ∃a vs ns,b=[gA.ref a]/\args=[WData.list (ns.map WData.int)]/\h.get? a=fP {cls:=.type "list",data:=.seq vs.toArray}/\IntsAre vs ns/\ns.length<=n:=by
 have m:WShape.hasAll [] args [.list .int]=gf:=(pre_splitW i).1;have j:l.pre.holds [] {args:=args}=gf:=(pre_splitW i).2;let(d,r,rfl,o,p):=hasAllW_cons m;obtain rfl:=hasAllW_nil p;let(xs,rfl,h3):=hasW_list o;let(ns,rfl):=items_int h3
 have c:ns.length<=n:=by
  unfold OpenLaw.pre at j;have f:(WTm.not (.lt (.lit (.int (n:Int))) (.len (.arg 0)))).holds [] {args:=[.list (ns.map .int)]}=gf:=by have f:=(holds_andW j).1;rw [hn] at f;exact f
  have g:=condW_of f (w_not (w_lt w_lit (w_len_list (w_arg rfl))));rw [zzl] at g;refine Nat.le_of_not_lt λq=>?_;have s:(n:Int)<((ns.length:Nat):Int):=by omega
  first
   |(rw [zzh s] at g;exact absurd g (by decide))
   |(simp at g;omega)
 cases k with
 |cons w1 t=>
  cases t;cases w1 with
  |list u e=>exact{_,_,ns,rfl,rfl,u,mO ns _ e,c}
theorem Bp(l:OpenLaw)(args:List WData):l.row.toRowW.claim.post args (.bool gf) args=gf:=
 postW_of (r:=l.row.toRowW) (X:=(gf==gf))
  (show WShape.has [] (.bool gf) .bool=gf by first|rfl|decide|simp [WShape.has,WShape.arms,WShape.armsAll])
  (show(WTm.eq .res (.lit (.bool gf))).value [] {args:=args,res:=fP (.bool gf),after:=args}=fP (.bool (gf==gf)) from w_eq_bool (w_res rfl) w_lit) rfl
def uw{l:OpenLaw}{n:Nat}{q:hG}{c:List Str}{p:(Str->Option gA)->ig->Prop}{s:hI->ig->Prop}{d:DefRec}
 (hn:l.most=fP n) (z:d.params.defaults=[])
 (call:∀(w:hI) (s₀ b:gB) (mg mb:Str->Option gA) (h:hB) (o:Obj) (k cd e:gA) (a:hB) (vs:List gA) (ns:List Int),
  Ground q c [] p w s₀ mg mb b.heap->s w b.heap->
  b.heap.get? h=fP o->o.data=.func (docDef d.name d.params d.body d.scope k cd e)->b.heap.CodeRec cd d.name->mg d.name=fP (.ref h)->
  b.heap.get? a=fP {cls:=.type "list",data:=.seq vs.toArray}->IntsAre vs ns->ns.length<=n->b.gens=#[]->
  codeAny (hT l.prog w) callerA (.call (.ref h) {[.ref a],[]}) (λr s'=>r=.ok (.ret (.bool gf))/\OldK b.heap s'.heap/\s'.os=b.os/\AllBare s'.gens) b):
 WalkO q c p s l.row.toRowW d [] (λf vs=>PySem.call f vs):=by
 intro w s₀ b mg mb G Y h o k cd e A kV B hd C t m D args u as E y F H I;obtain rfl:A=.none:=Dflts.none t z;obtain rfl:kV=.none:=Dflts.noKw t;let(a,vs,ns,rfl,rfl,i,g,j):=Bu hn E H;refine enter_call (codeAny_mono (call w s₀ b mg mb h o k cd e a vs ns G Y B (fd_plain hd) C m i g j D) λr s' K=>?_);let(rfl,L,h3,M):=K;exact{.inl {.bool gf,.bool gf,[],rfl,λZ=>rfl,.bool gf,Bp l _,λZ=>{List.Pairwise.nil,λZ hm=>(nomatch hm)}},L,h3,M}
abbrev ledger(h:ig)(L d:hB):kd:=(List.range h.objs.size).filterMap λa=>if a=L\/a=d then gd else(h.get? a).map λo=>(a,o)
end Att
namespace L2
open PySem.Spec PyProof.Rows
def BM{vs:List gA}{ns:List Int}(r:IntsAre vs ns):Vals (ns.map V.int) vs:=by
 induction r with
 |nil=>exact .nil|cons n t _ a=>exact .cons ⟨t,rfl⟩ a
abbrev bY(s:ix):Arguments:=match s with
 |.FunctionDef _ a _ _ _ _ _ _ _ _=>a|_=>{posonlyargs:=[],args:=[],vararg:=gd,kwonlyargs:=[],kw_defaults:=[],kwarg:=gd,defaults:=[]}
abbrev bg(s:ix):List Stmt:=match s with
 |.FunctionDef _ _ b _ _ _ _ _ _ _=>b|_=>[]
abbrev au(s:ix):Scope:=match s with
 |.FunctionDef _ _ _ _ _ _ sc _ _ _=>sc|_=>{kind:=.function,names:=[],isGenerator:=gh,isCoroutine:=gh}
structure K1(K:zz8)(x qual:Str)(st:ix)(f:hB)(fd:FuncData):Prop where
 ex:∃(oc:gA) (od:Option hB) (kV doc pm:gA) (an:Option hB) (dG ct:gA) (pH:Array (Option gA)),
  fd=PySem.W.fnOf x qual (bY st) (bg st) (au st) .none kV doc pm an dG ct/\K.lookup f=fP {oc,od,.func fd,pH}/\PySem.W.codeIn K dG qual=gf
 kp:PySem.W.keepIn K (.ref f)=gf
section
variable{K:zz8}
def K1.binds{f:hB}{fd:FuncData}{ps:List Str}(F:K1 K x qual st f fd)
 (h:∀(kV a b:gA) (c:Option hB) (d ct:gA) (us:List gA),us.length=ps.length->bindArgs (PySem.W.fnOf x qual (bY st) (bg st) (au st) .none kV a b c d ct) {us,[]}=pure (ps.zip us)):Binds K fd ps []:=by
 let(oc,e,kV,a,b,c,d,ct,g,rfl,i,j):=F.ex;exact .all (h kV a b c d ct)
def rZ{f:hB}{oc:gA}{g d:Option hB}{h:Array (Option gA)}{kV a e b ct:gA}(l:K.lookup f=fP {oc,g,.func (PySem.W.fnOf x qual (bY st) (bg st) (au st) .none kV a e d b ct),h})
 (c:PySem.W.codeIn K b qual=gf) (k:PySem.W.keepIn K (.ref f)=gf):K1 K x qual st f (PySem.W.fnOf x qual (bY st) (bg st) (au st) .none kV a e d b ct):={⟨oc,g,kV,a,e,d,b,ct,h,rfl,l,c⟩,k}
theorem pv(i:Nat)(hN:X.N[i]?=fP x:=by rfl)(a:PZ X.env.scope x:=by first|exact Or.inl rfl|exact Or.inr (Or.inl rfl)|exact Or.inr (Or.inr rfl))(hd:(x==(zu 33:Str))=gh:=by decide)
 (b:(x==("__classdict__":Str))=gh:=by decide):PE X (.Name x pos) (OW i):=l6 hN a hd b
end
def VU{A B:Prop}(h:B):if gh=gf then A else B:=by rw [if_neg zzf];exact h
def VV{A B:Prop}(h:A):if gf=gf then A else B:=by rw [if_pos rfl];exact h
def az(H a:Hp):Prop:=∀b o,H b=fP o->a b=fP o
def az.refl(H:Hp):az H H:=λZ Z h=>h
def az.trans{d:Hp}(a:az H H1)(b:az H1 d):az H d:=λc o h=>b c o (a c o h)
def az.free{a:Hp}(e:az H a){l:hB}(h:a l=Option.none):H l=Option.none:=by
 cases q:H l with
 |none=>rfl|some o=>rw [e l o q] at h;cases h
def az.seq{K:zz8}{b:Hp}{xs:List V}(e:az H b)(h:iQ K H a xs):iQ K b a xs:=by
 rcases h with(h|⟨o,h⟩)|h
 .exact .inl (.inl (e _ _ h))
 .exact .inl (.inr {o,e _ _ h})
 .exact .inr h
end L2
set_option maxHeartbeats 8000000
namespace L2
open PySem.Spec PyProof.Rows
abbrev bV(env:Env)(ys:List Str):List (Str×hB):=ys.map λy=>(y,(env.cells.lookup y).getD 0)
abbrev AW(a:St)(is:List Nat):St:=is.map λi=>(a[i]?).join
abbrev k7(a:ia)(x:Str):Bool:=a.names.lookup x==fP .cell
theorem wJ{c:hB}:∀(names:List (Str×NameKind)) (n:Nat) (a:List (Str×hB)),(x,c)∈i2 n names a->(x,c)∈a\/(x,NameKind.cell)∈names/\n<=c
 |[],n,a,h=>by rw [i2.eq_def] at h;exact .inl h
 | (y,k)::r,n,a,h=>by
  rw [i2.eq_def] at h;dsimp only at h;split at h
  .rename_i hk;cases eq_of_beq hk;rcases wJ r (n+1) _ h with z|⟨b,d⟩
   .rcases ef.mp z with z|z
    .cases z;exact .inr {c0 ..,a8 _}
    .exact .inl z
   .exact .inr {cq _ b,Nat.le_of_succ_le d}
  .rcases wJ r n _ h with z|⟨b,d⟩
   .exact .inl z
   .exact .inr {cq _ b,d}
theorem rP{c:hB}:∀(names:List (Str×NameKind)) (n:Nat) (a:List (Str×hB)),(i2 n names a).lookup x=fP c->a.lookup x=fP c\/(x,NameKind.cell)∈names/\n<=c
 |[],n,a,h=>by rw [i2.eq_def] at h;exact .inl h
 | (y,k)::r,n,a,h=>by
  rw [i2.eq_def] at h;dsimp only at h;split at h
  .rename_i hk;cases eq_of_beq hk;rcases rP r (n+1) _ h with z|⟨b,d⟩
   .rw [eH] at z;cases e:x==y with
    |true=>rw [e] at z;cases z;cases eq_of_beq e;exact .inr {c0 ..,a8 _}
    |false=>rw [e] at z;exact .inl z
   .exact .inr {cq _ b,Nat.le_of_succ_le d}
  .rcases rP r n _ h with z|⟨b,d⟩
   .exact .inl z
   .exact .inr {cq _ b,d}
theorem rO:∀(names:List (Str×NameKind)) (n:Nat) (a:List (Str×hB)),(x,NameKind.cell)∉names->(i2 n names a).lookup x=a.lookup x
 |[],n,a,_=>by rw [i2.eq_def]|(y,k)::r,n,a,h=>by
  rw [i2.eq_def];dsimp only;have b:(x,NameKind.cell)∉r:=λz=>h (cq _ z);split
  .rename_i hk;cases eq_of_beq hk;rw [rO r (n+1) _ b,eH];cases e:x==y with
   |true=>cases eq_of_beq e;exact absurd (c0 ..) h
   |false=>rfl
  .exact rO r n a b
theorem Lj{c:hB}:∀(names:List (Str×NameKind)) (n:Nat) (a:List (Str×hB)),(x,c)∈i2 n names a->(∀p∈a,p.2≠c)->(x,c)∈i2 n names []
 |names,n,a,h,d=>by
  have key:∀(names:List (Str×NameKind)) (n:Nat) (a b:List (Str×hB)),(x,c)∈i2 n names (b++a)->(∀p∈a,p.2≠c)->(x,c)∈i2 n names b:=by
   intro names
   induction names with
   |nil=>
    intro n a b h d;rw [i2.eq_def] at h⊢;rcases List.mem_append.mp h with z|z
    .exact z
    .exact absurd rfl (d _ z)
   |cons y r e=>
    intro n a b h d;let(y,k):=y;rw [i2.eq_def] at h⊢;dsimp only at h⊢;split at h
    .rename_i hk;rw [if_pos hk];exact e (n+1) a ((y,n)::b) h d
    .rename_i hk;rw [if_neg hk];exact e n a b h d
  exact key names n a [] h d
theorem rQ{y:Str}{c:hB}:∀(names:List (Str×NameKind)) (n:Nat) (a:List (Str×hB)),(∀p∈a,p.2<n)->n<=c->(x,c)∈i2 n names a->(y,c)∈i2 n names a->x=y
 |[],n,a,e,f,b,d=>by rw [i2.eq_def] at b;exact absurd (e _ b) (Nat.not_lt.mpr f)
 | (z,k)::r,n,a,e,f,b,d=>by
  rw [i2.eq_def] at b d;dsimp only at b d;split at b
  .rename_i hk;rw [if_pos hk] at d;have i:∀p∈(z,n)::a,p.2<n+1:=λp j=>by
    rcases ef.mp j with q|q
    .rw [q];exact Nat.lt_succ_self _
    .exact Nat.lt_succ_of_lt (e p q)
   by_cases g:n+1<=c
   .exact rQ r (n+1) _ i g b d
   .have one:∀{w:Str},(w,c)∈i2 (n+1) r ((z,n)::a)->w=z:=λ{w} h=>by
     rcases wJ r (n+1) _ h with q|q
     .rcases ef.mp q with q|q
      .cases q;rfl
      .exact absurd (e _ q) (Nat.not_lt.mpr f)
     .exact absurd q.2 g
    rw [one b,one d]
  .rename_i hk;rw [if_neg hk] at d;exact rQ r n a e f b d
def x9{M:Model}{E:jW}{s:gB}{a:ia}{g:hB}{c:Env}{Q:Env->gB->Prop}
 (h:Q (newEnv a (zz9 s) g (i2 ((zz9 s)+1) a.names cl) qual gd .none (fP c) builtinsNs) {s with heap:=pushCells (s.heap.push {cls:=.type "dict",data:=.dict #[]}) a.names}):
 hF M A (newFunctionEnv a g cl [] qual gd .none (fP c)) Q E s:=by
 unfold newFunctionEnv;refine ar (wpAny_alloc ?_);refine ar (wpAny_forIn_list _ (λrest b e=>e={s with heap:=e.heap}/\pushCells e.heap rest=pushCells (s.heap.push {cls:=.type "dict",data:=.dict #[]}) a.names/\i2 (zz9 e) rest b=i2 ((zz9 s)+1) a.names cl) _ (λx rest b e i=>?_) (λb e i=>?_) a.names cl {rfl,rfl,by rw [ig.size_push]})
 .let(f,d,h3):=i;let(nm,k):=x;rw [pushCells.eq_def] at d;rw [i2.eq_def] at h3;dsimp only at d h3⊢;split
  .rename_i hk;rw [if_pos hk] at d h3;refine ar (wpAny_alloc (bT {by rw [f],d,?_}));dsimp only;rw [ig.size_push];exact h3
  .rename_i hk;rw [if_neg hk] at d h3;exact bT ⟨f,d,h3⟩
 .let(f,d,h3):=i;rw [pushCells.eq_def] at d;rw [i2.eq_def] at h3;dsimp only at d h3;subst h3;rw [f,d];exact ar (bT (bT h))
noncomputable def bP(X:Cx)(d:List Str)(a:ia)(cl:List (Str×hB))(fp:List hB)(b:gB)(c:Hp)(C:hB):Cx where
 prog:=X.prog
 w:=X.w
 K:=X.K
 mg:=X.mg
 base:=X.base
 A:=X.A
 N:=d
 s₀:=b
 H₀:=c
 env:=compEnvC a (i2 (C+1) a.names cl) C X.env
 outer:=X.stack
 stack:=X.stack
 ex:=fp
 fn:=k7 a
 calm:=gf
 pn:=[]
 xe:=λZ Z=>False
theorem fJ{env:Env}:∀{ys:List Str},(ys.all λy=>(env.cells.lookup y).isSome)=gf->∀(x:Str) (c:hB),(bV env ys).lookup x=fP c->env.cells.lookup x=fP c
 |[],_,_,_,h=>by simp [bV] at h|y::ys,a,x,c,h=>by
  rw [List.all_cons,zza] at a;have b:=fJ (env:=env) a.2 x c
  unfold bV at h b;rw [bc,eH] at h;cases e:x==y with
  |true=>rw [e] at h;have d:x=y:=zzy.mp e;subst d;let(g,f):=ej.mp a.1;rw [f] at h⊢;exact h|false=>rw [e] at h;exact b h
theorem kE{env:Env}:∀{ys:List Str} {x:Str},x∈ys->∃c,(bV env ys).lookup x=fP c
 |[],_,h=>nomatch h|y::ys,x,h=>by
  unfold bV;rw [bc,eH];cases e:x==y with
  |true=>exact{_,rfl}|false=>
   have a:x∈ys:=by
    rcases ef.mp h with z|z
    .rw [z] at e;simp at e
    .exact z
   exact kE (env:=env) a
def mE{a:ia}{env:Env}{k:NameKind}(h:(relabel a env).names.lookup x=fP k)(hk:k=.cell\/k=.free):∃b,(x,b)∈a.names/\(b=.cell\/b=.free):=by
 have hm:=PySem.mem_of_lookup h;unfold relabel at hm;let((n,f),c,e):=ew.mp hm;dsimp only at e;split at e
 .rename_i d;cases e;refine{f,c,.inr ?_};rw [zza,zza] at d;exact zzy.mp d.1.1
 .cases e;exact⟨k,c,hk⟩
structure fS(X:Cx)(scope:ia)(xs ys:List Str)(is:List Nat):Prop where
 kind:scope.kind=.function
 UG:closureFor scope X.env=pure (bV X.env ys)
 cells:(ys.all λy=>(X.env.cells.lookup y).isSome)=gf
 Lp:(scope.names.all λy=>(decide (y.2≠.cell)||!ys.contains y.1)&&(decide (y.2≠.free)||ys.contains y.1))=gf
 own:(scope.names.all λy=>decide (y.2≠.cell)||decide (scope.names.lookup y.1=fP .cell))=gf
 names:(scope.names.all λy=>decide (y.2≠.local)||decide (scope.names.lookup y.1=fP .local))=gf
 slots:is.map (λi=>X.N[i]?)=ys.map fP
 kX:(ys.all λy=>decide (X.env.kindOf y=fP .cell))=gf
 kY:(ys.all λy=>decide ((relabel scope X.env).names.lookup y=fP .cell))=gf
section
variable{s:gB}{scope:ia}{xs ys:List Str}{is:List Nat}
def fS.NU(S:fS X scope xs ys is)(h:(x,NameKind.cell)∈scope.names):scope.names.lookup x=fP .cell/\x∉ys:=by
 have q:=c8.mp S.own _ h;have c:=c8.mp S.Lp _ h;rw [zza,er] at c;rw [er] at q;refine{zzY (q.resolve_left λz=>zzY z rfl),λa=>?_}
 rcases c.1 with z|z
 .exact zzY z rfl
 .rw [eg.mpr a] at z;cases z
def ij(I:zv2 s)(S:fS X scope xs ys is){C:hB}(hC:(zz9 s)<=C){c:hB}(h:(i2 (C+1) scope.names (bV X.env ys)).lookup x=fP c):
 (X.env.cells.lookup x=fP c/\c<(zz9 s)/\x∈ys)\/((x,NameKind.cell)∈scope.names/\C+1<=c):=by
 rcases rP _ _ _ h with z|z
 .have e:=fJ S.cells x c z;let(v,q):=I.cell x c e;refine .inl {e,q.lt,?_};have hm:=PySem.mem_of_lookup z;unfold bV at hm;let(y,a,b):=ew.mp hm;cases b;exact a
 .exact .inr z
def An(I:zv2 s)(w:X.calm=gf)(S:fS X scope xs ys is){A:List Str}{fp:List hB}{C:hB}(hC:(zz9 s)<=C)(d:∀b∈fp,jo X aa H b)(j:∀b∈fp,b<(zz9 s)):
 (bP X A scope (bV X.env ys) fp s H C).Ok where
 mod:=I.ok.mod
 kind:=S.kind
 glob:=I.ok.glob
 blt:=I.ok.blt
 above:=hC
 inj:=λx y c k m=>by
  rcases ij I S hC k with f|f
  .rcases ij I S hC m with i|i
   .exact I.ok.inj x y c f.1 i.1
   .exact absurd f.2.1 (Nat.not_lt.mpr (di hC (Nat.le_of_succ_le i.2)))
  .refine rQ scope.names (C+1) (bV X.env ys) (λp r=>?_) f.2 (PySem.mem_of_lookup k) (PySem.mem_of_lookup m);unfold bV at r;let(y,B,rfl):=ew.mp r;let(D,t):=ej.mp (c8.mp S.cells y B);let(v,q):=I.cell y D t;dsimp only;rw [t];exact Nat.lt_succ_of_le (di (Nat.le_of_lt q.lt) hC)
 has:=λx E=>by
  have F:(relabel scope X.env).names.lookup x=fP .cell\/(relabel scope X.env).names.lookup x=fP .free:=E
  have:∃g,(x,g)∈scope.names/\(g=.cell\/g=.free):=by
   rcases F with z|z
   .exact mE z (.inl rfl)
   .exact mE z (.inr rfl)
  let(g,hm,hk):=this;have u:=c8.mp S.Lp _ hm
  rw [zza,er,er] at u;rcases hk with z|z
  .subst z;exact ej.mp (PySem.W.cellsFrom_some _ _ _ (.inl (S.NU hm).1))
  .rcases u.2 with q|q
   .exact absurd z (zzY q)
   .refine ej.mp (PySem.W.cellsFrom_some _ _ _ (.inr ?_));let(c,e):=kE (env:=X.env) (eg.mp q);rw [e];rfl
 Lh:=λx c h e=>by
  have hm:(x,NameKind.cell)∈scope.names:=PySem.mem_of_lookup (eq_of_beq h)
  rcases ij I S hC e with z|z
  .exact absurd z.2.2 (S.NU hm).2
  .exact di hC (Nat.le_of_succ_le z.2)
 hd:=λZ=>I.ok.hd w
 frames:=I.ok.frames
 OL:=.inl rfl
 UM:=λb a=>{d1 (dA (j b a) hC),λx c h=>(ij I S hC h).elim (λz=>(d b a).2.2.2.2.1 x c z.1) λz q=>absurd (j b a) (Nat.not_lt.mpr (q▸di hC (Nat.le_of_succ_le z.2)))}
 bs:=λb o e=>I.bs b o e
 wH:=di I.ok.wH I.sz
 Bc:=λb o e a=>by
  rcases(d b a).2.2.2.1 with z|z
  .exact I.ok.Bc b o e z
  .exact absurd (dA (cP e) (di I.ok.wH z)) (Nat.lt_irrefl _)
 CP:=λb a hs=>(ef.mp (I.ma b hs)).elim (d b a).2.1 (d b a).2.2.1
 hU:=I.stack
 wU:=λb a=>I.nr b a
theorem yI:∀{is:List Nat} {ys:List Str},is.map (λi=>N[i]?)=ys.map fP->∀(j:Nat) (y:Str) (v:V),ys[j]?=fP y->(AW σ is)[j]?=fP (fP v)->∃i:Nat,N[i]?=fP y/\σ[i]?=fP (fP v)
 |[],[],_,_,_,_,h,_=>by simp at h|[],_::_,h,_,_,_,_,_=>by simp at h|_::_,[],h,_,_,_,_,_=>by simp at h|i::is,c::ys,h,0,y,v,b,a=>by rw [bc,bc] at h;have d:=(List.cons.inj h).1;simp! [List.getElem?_cons_zero,Option.some.injEq] at b;subst b;refine{i,d,?_};unfold AW at a;simp! [bc,List.getElem?_cons_zero,Option.some.injEq] at a;exact Option.join_eq_some_iff.mp a|i::is,c::ys,h,j+1,y,v,b,a=>by rw [bc,bc] at h;refine yI (is:=is) (ys:=ys) (List.cons.inj h).2 j y v (zx6 b) ?_;unfold AW at a⊢;simpa using a
noncomputable abbrev lobj(a:List gA)(n:Nat):Obj:={cls:=.type "list",data:=.seq a.toArray n}
def A3(a:List gA)(n:Nat)(v:Option gA):(lobj a n).data≠.cell v:=λz=>by cases z
noncomputable abbrev tests(a:List hD)(env:Env):Sem Bool:=forIn a gf λc r=>if r=gf then do let ok<-isTrue c env (eval c env);pure (ForInStep.yield ok) else pure (ForInStep.yield r)
theorem rR{R:Result->gB->Prop}{s:gB}{p a iter:hD}{q:List hD}{scope:ia}{it t:gA}{env:Env}(I:Nat->gB->Prop)
 (turn:∀n s,I n s->hF (hT prog w) A (pyNext it) (λr b=>match r with
  |none=>R (.ok .next) b|some v=>hF (hT prog w) A (letOwnedTupleGo a it v) (λZ c=>hF (hT prog w) A (assign a env v) (λZ g=>
   hF (hT prog w) A (tests q env) (λok d=>if ok=gf then hF (hT prog w) A (eval p env) (λx i=>
    hF (hT prog w) A (call (.builtin "list.append") [t,x]) (λZ j=>∃m,m<n/\I m j) (notedBy (hT prog w) A env λe s'=>R (.error e) s') i) (notedBy (hT prog w) A env λe s'=>R (.error e) s') d
    else∃m,m<n/\I m d) (notedBy (hT prog w) A env λe s'=>R (.error e) s') g)
   (notedBy (hT prog w) A env λe s'=>R (.error e) s') c) (notedBy (hT prog w) A env λe s'=>R (.error e) s') b) (notedBy (hT prog w) A env λe s'=>R (.error e) s') s)
 (n:Nat) (h:I n s):
 codeAny (hT prog w) A (.compLoop (.ListComp p [{a,iter,q,0}] scope pos) 0 it t env) R s:=by
 refine codeAny_loop rfl I (λn s C=>?_) n h;show hF _ A ((compTurn (.ListComp p [{a,iter,q,0}] scope pos) 0 it t env).onRaise (λx=>do noteFrame x env;theTreesLotGoes x)) _ _ s;refine wpAny_noted ?_;rw [compTurn_list];refine ar (wpAny_standAt (ar (wpAny_mono (turn n s C) (λr b k=>?_) λZ Z f=>f)))
 cases r with
 |none=>exact bT k|some v=>
  refine ar (wpAny_mono k (λZ c u=>?_) λZ Z f=>f);refine ar (wpAny_mono u (λZ g y=>ar (wpAny_mono y (λok d o=>?_) λZ Z f=>f)) λZ Z f=>f)
  cases ok with
  |false=>exact bT ⟨rfl,o⟩|true=>exact ar (ar (wpAny_mono o (λx i z=>ar (wpAny_mono z (λZ j B=>bT (bT ⟨rfl,B⟩)) λZ Z f=>f)) λZ Z f=>f))
def Uh(X:Cx)(a:List hD)(t:TT):Prop:=
 ∀(aa:kd) (s:gB) (σ:St) (H:Hp) (Q:Bool->Hp->Prop),Inv X aa σ H s->t σ H Q->zx7 X (tests a X.env) (TP X aa σ Q) X.xe s
def zr:Uh X [] (λZ H q=>q gf H):=λZ Z Z H Z I h=>wpAny_tests_nil ⟨H,I,h⟩
def zt{t:TT}(h:PT X e t):Uh X [e] t:=λaa s σ H Q I z=>wpAny_tests_one (h aa s σ H Q I z)
def JT(J:It)(k:Nat)(g:TG)(te:TE)(fs:St)(Q:VK)(H1:Hp):Prop:=∃(n:Nat) (W:Nat->List V->St->Hp->Prop),W 0 [] (jz k gd++fs) H1/\
 ∀i ys b a,W i ys b a->ys.length<iv/\((J.stop i a/\∀p,a p=gd->Q (.ref p) (upd a p (.lst ys)))\/
  (J.go i a/\i<n/\∀x d,J.PH i a x d->g x b d λc e=>te c e λy f=>W (i+1) (ys++[y]) c f))
abbrev zL(a:TI)(k:Nat)(g:TG)(te:TE)(is:List Nat):TE:=λσ H Q=>a σ H λJ b=>JT J k g te (AW σ is) Q b
def GD(J:It)(k:Nat)(g:TG)(tt:TT)(te:TE)(fs:St)(Q:VK)(H1:Hp):Prop:=∃(n:Nat) (W:Nat->List V->St->Hp->Prop),W 0 [] (jz k gd++fs) H1/\
 ∀i ys d c,W i ys d c->ys.length<iv/\((J.stop i c/\∀p,c p=gd->Q (.ref p) (upd c p (.lst ys)))\/
  (J.go i c/\i<n/\∀x e,J.PH i c x e->g x d e λa h=>tt a h λb f=>if b=gf then te a f (λy j=>W (i+1) (ys++[y]) a j) else W (i+1) ys a f))
abbrev nu(a:TI)(k:Nat)(g:TG)(tt:TT)(te:TE)(is:List Nat):TE:=λσ H Q=>a σ H λJ b=>GD J k g tt te (AW σ is) Q b
def iT{elt tg iter:hD}{ifs:List hD}{pp:Pos}{wi:TI}{g:TG}{tt:TT}{use:Option (gA->Sem Unit)}{QQ:jW}{Q:VK}(hc:X.calm=gf)(S:fS X scope xs ys is)(hi:PI X tg iter wi)
 (hg:∀fp s1 H1 C,PG (bP X (xs++ys) scope (bV X.env ys) fp s1 H1 C) tg g) (ht:∀fp s1 H1 C,Uh (bP X (xs++ys) scope (bV X.env ys) fp s1 H1 C) ifs tt) (he:∀fp s1 H1 C,PE (bP X (xs++ys) scope (bV X.env ys) fp s1 H1 C) elt te)
 (hs:∀x,foldedSetIterable iter X.env x=pure x) (I:zv2 s) (h:nu wi xs.length g tt te is σ H Q)
 (fin:∀(D C:hB) (P:gB) (H4:Hp) (m:Str->Option gA),Inv X aa σ H4 P->P.heap.Ns C m->jo X aa H4 C->Q (.ref D) H4->compPost (hT X.prog X.w) X.A X.xe use QQ (.ref D) C (.ok .next) P):
 zx7 X (comprehension (.ListComp elt [{tg,iter,ifs,0}] scope pos) scope X.env pp (newList []) gh (eval iter X.env) use) QQ X.xe s:=by
 have MM:∀x∈scope.names,x.2=.local->scope.names.lookup x.1=fP .local:=λx hx hl=>by
  have q:=c8.mp S.names x hx
  rw [er] at q;rcases q with q|q
  .exact absurd hl (zzY q)
  .exact zzY q
 refine wpAny_comprehension_free (use:=use) (Q:=QQ) (g:={tg,iter,ifs,0}) (gs:=[]) rfl hs S.UG S.kind MM (bU (hi aa s σ H _ I h) λxv s0 h0=>bU h0 λTz s1 h1=>?_);let(it,fp,tn,J,H1,rfl,E,T,pI,f1,n,W,w0,turn):=h1;refine wpAny_newObj_type (x9 ?_);dsimp only;generalize hH2:s1.heap.push {cls:=.type "list",dict:=gd,data:=.seq ([]:List gA).toArray}=G2;generalize R:pushCells (G2.push {cls:=.type "dict",data:=.dict #[]}) scope.names=j;have Vu:∀b o,(G2.push {cls:=.type "dict",data:=.dict #[]}).get? b=fP o->j.get? b=fP o:=λb o e=>by rw [<-R];exact pushCells_keeps _ _ b o e
 have hns₁:j.Ns G2.objs.size λ_=>gd:=(ig.Ns.new G2 (.type "dict")).keeps Vu;have XS:G2.objs.size=(zz9 s1)+1:=by rw [<-hH2,ig.size_push]
 have Z:(zz9 s1)<=G2.objs.size:=by rw [XS];exact Nat.le_succ _
 have Tr:(zz9 s1)≠G2.objs.size:=by rw [XS];exact d1 (Nat.lt_succ_self _)
 have L:∀b o,s1.heap.get? b=fP o->j.get? b=fP o:=λb o e=>Vu b o (aT _ (hH2▸aT _ e));have se:j.get? (zz9 s1)=fP (lobj [] 0):=Vu _ _ (aT _ (hH2▸dV _ rfl));have BY:∀b∈fp,b<(zz9 s1):=λb a=>by let(o,e,_):=T.obj _ _ pI b a;exact cP e
 generalize hY:bP X (xs++ys) scope (bV X.env ys) fp s1 H1 G2.objs.size=Y;have okY:Y.Ok:=by rw [<-hY];exact An E hc S Z f1 BY
 have XT:∀b∈fp,(zz9 s1)≠b:=λb a=>Ne.symm (d1 (BY b a));have UU:∀b,b∈Y.fs->b=X.env.locals\/b∈X.fs:=λb a=>by rw [<-hY] at a;exact ef.mp (E.ma b a)
 have UT:∀b∈Y.fs,b<(zz9 s1):=λb a=>by rw [<-hY] at a;let(_,o,ho,_):=E.stack.mem a;exact cP ho
 have UZ:(zz9 s1)∉Y.fs:=λz=>Nat.lt_irrefl _ (UT _ z);have ME:Y.env.locals=G2.objs.size:=by rw [<-hY];rfl
 have Ts:∀x c,Y.env.cells.lookup x=fP c->(X.env.cells.lookup x=fP c/\c<(zz9 s1)/\x∈ys)\/((x,NameKind.cell)∈scope.names/\G2.objs.size+1<=c):=λx c e=>by rw [<-hY] at e;exact ij E S Z e
 have ZF:∀x c,Y.env.cells.lookup x=fP c->G2.objs.size+1<=c->j.IsCell c gd:=λx c e hle=>by
  rw [<-hY] at e;have hm:(x,c)∈i2 (G2.objs.size+1) scope.names []:=Lj scope.names _ _ (PySem.mem_of_lookup e) λp M=>by unfold bV at M;let(y,hy,rfl):=ew.mp M;let(c',iY):=ej.mp (c8.mp S.cells y hy);let(v,q):=E.cell y c' iY;dsimp only;rw [iY];exact d1 (dA q.lt (di Z (Nat.le_of_succ_le hle)))
  have ck:=cellsFrom_ok scope.names (G2.push {cls:=.type "dict",data:=.dict #[]}) 0 [] {(λ_ _ z=>nomatch z),.nil} (Nat.zero_le _);rw [ig.size_push,R] at ck;exact(ck.empty x c hm).1
 have Za:∀x c,Y.env.cells.lookup x=fP c->c≠(zz9 s1):=λx c e=>(Ts x c e).elim (λz=>d1 z.2.1) λz=>Ne.symm (d1 (dk Z z.2));have Dz:Y.pn=[]:=by rw [<-hY];rfl
 have QJ:Y.ex=fp:=by rw [<-hY];rfl
 have QL:Y.s₀=s1:=by rw [<-hY];rfl
 have XY:Y.H₀=H1:=by rw [<-hY];rfl
 have QK:Y.prog=X.prog:=by rw [<-hY];rfl
 have QN:Y.w=X.w:=by rw [<-hY];rfl
 have XZ:Y.K=X.K:=by rw [<-hY];rfl
 have Vd:Y.A=X.A:=by rw [<-hY];rfl
 have ZE:compEnvC scope (i2 (G2.objs.size+1) scope.names (bV X.env ys)) G2.objs.size X.env=Y.env:=by rw [<-hY];rfl
 have QI:Y.calm=gf:=by rw [<-hY];rfl
 have MF:Y.xe=λ_ _=>False:=by rw [<-hY];rfl
 have QM:Y.fs=fG X.stack:=by rw [<-hY];rfl
 have Se:∀{t:Hp} {s':gB} {B:List gA} {k:Nat},s'.heap.get? (zz9 s1)=fP (lobj B k)->t (zz9 s1)=gd->∀p∈[((zz9 s1),lobj B k)],s'.heap.get? p.1=fP p.2/\t p.1=gd/\p.1≠Y.env.locals/\p.1∉Y.fs/\∀v,p.2.data≠.cell v:=
  λ{t s' B k} e hn p M=>by obtain rfl:=d6.mp M;exact{e,hn,by rw [ME];exact Tr,UZ,λv=>A3 B k v}
 have US:∀{t:Hp} {B:List gA} {k:Nat},(∀b∈fp,t b=gd)->∀b∈fp,jo Y [((zz9 s1),lobj B k)] t b:=λ{t B k} hn b a=>
  {hn b a,by rw [ME];exact d1 (dA (BY b a) Z),λz=>(UU b z).elim (f1 b a).2.1 (f1 b a).2.2.1,.inl (by rw [QJ];exact a),
   λx c e=>(Ts x c e).elim (λz=>(f1 b a).2.2.2.2.1 x c z.1) (λz q=>absurd (BY b a) (Nat.not_lt.mpr (q▸di Z (Nat.le_of_succ_le z.2)))),λp M=>by rw [Dz,List.nil_append] at M;obtain rfl:=d6.mp M;exact XT b a}
 have QG:H1 (zz9 s1)=gd:=E.aQ.fresh (a8 _)
 have I2:∀tk,Inv Y [((zz9 s1),lobj [] 0)] (jz xs.length gd++AW σ is) H1 {s1 with heap:=j,toks:=tk}:=λtk=>by
  refine{okY,by rw [QL],E.bare,by rw [QL,XY];exact Un.kept L,{_,by rw [ME];exact hns₁,λi x v e1 e2 e3=>?_},λx c e=>?_,?_,λx c e=>(Ts x c e).elim (λz=>E.fK x c z.1) (λz=>E.aQ.fresh (di Z (Nat.le_of_succ_le z.2))),λp M=>?_,by rw [QK,QN];exact E.aQ.kept L,?_}
  .
   have Va:Y.N=xs++ys:=by rw [<-hY];rfl
   rw [Va] at e1;by_cases dO:i<xs.length
   .rw [ek (by rw [List.length_replicate];exact dO),List.getElem?_replicate,if_pos dO] at e2;cases e2
   .have MJ:xs.length<=i:=Nat.not_lt.mp dO;rw [el (by rw [List.length_replicate];exact MJ),List.length_replicate] at e2;rw [el MJ] at e1;let(i0,h0,h1):=yI S.slots _ x v e1 e2;have hm:x∈ys:=a7 e1;have kx:X.env.kindOf x=fP .cell:=zzY (c8.mp S.kX x hm);have ky:(relabel scope X.env).names.lookup x=fP .cell:=zzY (c8.mp S.kY x hm);let(m,_,hl):=E.loc;let(u,ru,lk):=hl i0 x v h0 h1 (.inr (.inl kx))
    refine{u,ru,.inr {.inl (by rw [<-hY];exact ky),?_}};rcases lk with⟨z,_⟩|⟨_,c,QU,pT⟩
    .rw [kx] at z;cases z
    .let(c',iY):=kE (env:=X.env) hm;have QT:=fJ S.cells x c' iY;rw [QU] at QT;cases QT;refine{c,by rw [<-hY];exact(rO _ _ _ λz=>(S.NU z).2 hm).trans iY,?_};let(o,ho,hd):=pT;exact{o,L _ _ ho,hd}
  .rcases Ts x c e with z|z
   .let(v,o,ho,hd):=E.cell x c z.1;exact{v,o,L _ _ ho,hd}
   .exact{gd,ZF x c e z.2}
  .rw [ME];exact E.aQ.fresh Z
  .rw [Dz,List.nil_append] at M;exact Se (s':={s1 with heap:=j,toks:=tk}) se QG p M
  .have Va:Y.N=xs++ys:=by rw [<-hY];rfl
   have hl:=congrArg List.length S.slots;rw [zzl,zzl] at hl;rw [Va,cD,cD,List.length_replicate];unfold AW;rw [zzl,hl]
 have loop:∀U:gB,U={s1 with heap:=j}->
  codeAny (hT X.prog X.w) X.A (.compLoop (.ListComp elt [{tg,iter,ifs,0}] scope pos) 0 (.ref it) (.ref (zz9 s1)) (compEnvC scope (i2 (G2.objs.size+1) scope.names (bV X.env ys)) G2.objs.size X.env))
   (compPost (hT X.prog X.w) X.A X.xe use QQ (.ref (zz9 s1)) G2.objs.size) U:=by
  rintro U rfl
  rw [ZE];refine rR (λk s'=>∃i made F t B c,Inv Y [((zz9 s1),lobj B c)] F t s'/\tn i s'.heap/\(∀b∈fp,t b=gd)/\Vals made B/\k=n-i/\W i made F t) ?_ n
   {0,[],_,H1,[],0,I2 _,T.keep _ _ _ pI λb _ o e=>L b o e,λb a=>(f1 b a).1,.nil,rfl,w0}
  rintro k s' ⟨i,made,F,t,B,c,I3,st3,fr3,rv,rfl,w3⟩
  let(hz,tw):=turn i made F t w3;have pD:=I3.pin ((zz9 s1),lobj B c) (by rw [Dz];exact d6.mpr rfl)
  rcases tw with⟨stop,hq⟩|⟨go,X7,step⟩
  .rw [<-Vd];refine bU (T.done Y QK QN XZ QI i _ s' F t _ I3 (US fr3) st3 stop) λr P ⟨hr,I4⟩=>?_;subst hr;let(m,hn4,_):=I4.loc;rw [ME] at hn4;have Wn:=I4.pin ((zz9 s1),lobj B c) (by rw [Dz];exact d6.mpr rfl);have kp:∀b o,b≠G2.objs.size->P.heap.get? b=fP o->P.heap.get? b=fP o:=λb o a e=>e;have V3:∀{b o},s1.heap.get? b=fP o->b≠G2.objs.size:=λ{b o} e=>d1 (dA (cP e) Z);have dR:=I4.base;rw [QL,XY,QJ,QM] at dR;have V4:∀{b o},H1 b=fP o->b≠(zz9 s1):=λ{b o} e=>d1 (E.aQ.lt e)
   have u:Un (fG X.stack) fp H1 (upd t (zz9 s1) (.lst made)) s1.heap P.heap:=by
    refine{λb o e n a hx=>kp b o (V3 e) (dR.keep b o e n a hx),λb o e n a hx=>?_,λb o e n hx=>?_,λb o e hx=>?_,λb xs e=>?_,λb o u e=>?_,λb ps e=>?_}
    .let(sl,q):=dR.slot b o e n a hx;exact{sl,kp b _ (V3 e) q}
    .rw [ai (d1 (cP e))];exact dR.free b o e n hx
    .let(o',q):=dR.there b o e hx;exact{o',kp b _ (V3 e) q}
    .rw [ai (V4 e)];exact dR.hZ b xs e
    .rw [ai (V4 e)];exact dR.gq b o u e
    .let(more,q):=dR.gU b ps e;exact{more,by rw [ai (V4 e)];exact q}
   have XR:t G2.objs.size=gd:=by rw [<-ME];exact I4.free
   have HV:fE X.prog X.w (upd t (zz9 s1) (.lst made)) P.heap:=λb o e=>by
    by_cases a:b=(zz9 s1)
    .subst a;rw [ak] at e;cases e;exact{Nat.le_of_lt hz,B,c,rv,kp _ _ Tr Wn.1}
    .rw [ai a] at e;have x4:=I4.aQ b o e;rw [QK,QN] at x4;have Nm:∀G u,t G=fP u->G≠G2.objs.size:=λG u q z=>by rw [z,XR] at q;cases q
     have Iu:∀G u,t G=fP u->G≠(zz9 s1):=λG u q z=>by rw [z,Wn.2.1] at q;cases q
     refine x4.f7 (λG u AL q=>kp G u ?_ q) (λG q=>?_) λG xs q=>?_
     .rcases AL with z|z
      .rw [z];exact Nm b o e
      .exact Nm G _ z
     .rw [ai (Iu G _ q)];exact q
     .rw [ai (Iu G _ q)];exact q
   have I5:Inv X aa σ (upd t (zz9 s1) (.lst made)) P:=E.Qh (by show P.os=s1.os;rw [I4.os,QL]) u HV I4.bare λb a=>{(f1 b a).2.2.2.1,(f1 b a).2.1,(f1 b a).2.2.2.2.1,(f1 b a).2.2.2.2.2};dsimp only;rw [Vd];exact fin (zz9 s1) G2.objs.size P _ m I5 hn4 (E.uS Z (by rw [ai (Ne.symm Tr)];exact XR)) (hq _ Wn.2.1)
  .rw [<-Vd];refine bU (T.item Y QK QN XZ QI i _ s' F t _ I3 (US fr3) st3 go) λr P ⟨u,hr,h4⟩=>?_;subst hr;dsimp only;refine bU h4 λ_ s5 yq0=>?_;let(x,H5,I5,r5,y5,V,fr5):=yq0;have Ua:=I5.pinned (US fr5) (T.obj _ _ V);have X5:=hg fp s1 H1 G2.objs.size;have X3:=he fp s1 H1 G2.objs.size;have Ye:=ht fp s1 H1 G2.objs.size;rw [hY] at X5 X3 Ye;rw [<-QK,<-QN];refine wpAny_mono (X5 _ s5 F H5 x u _ Ua r5 (step x H5 y5)) (λ_ s6 ⟨O,H6,I6,q6⟩=>?_) (λ_ _ f=>by rw [MF] at f;exact f.elim);refine wpAny_mono (Ye _ s6 O H6 _ I6 q6) (λokb sT ⟨HT,IT,qT⟩=>?_) (λ_ _ f=>by rw [MF] at f;exact f.elim);have pDT:=IT.pin ((zz9 s1),lobj B c) (c5 _ (d2 _ (d6.mpr rfl)));have stT:tn (i+1) sT.heap:=T.keep _ _ _ V λb a o e=>(IT.pin (b,o) (c5 _ (c5 _ (d5 a e)))).1
   cases okb with
   |false=>refine{n-(i+1),by omega,i+1,made,O,HT,B,c,IT.lF,stT,λb a=>?_,rv,rfl,qT};let(o,e,d):=T.obj _ _ V b a;exact(IT.pin (b,o) (c5 _ (c5 _ (d5 a e)))).2.1|true=>
   refine wpAny_mono (X3 _ sT O HT _ IT qT) (λv s7 ⟨y,H7,I7,r7,q7⟩=>?_) (λ_ _ f=>by rw [MF] at f;exact f.elim);have Wo:=I7.pin ((zz9 s1),lobj B c) (c5 _ (d2 _ (d6.mpr rfl)));have e7:s7.heap.get? (zz9 s1)=fP {cls:=.type "list",data:=.seq B.toArray c}:=Wo.1;refine append_at (hsz:=by rw [a5,<-rv.length];exact Nat.le_of_lt hz) e7 λh' AS Zu=>?_;have I8:Inv Y [] O H7 s7:=I7.ni λ_ z=>nomatch z
   have I9:Inv Y [] O H7 {s7 with heap:=h'}:=I8.turned (t':=s7.toks) (it:=(zz9 s1)) (λb o a e=>AS.extBut b o a e) Wo.2.1 (by rw [ME];exact Tr) (.inr (by rw [QL];exact a8 _))
    (λx c' e=>Za x c' e) (λp M=>by rw [Dz] at M;cases M)
   have eD:h'.get? (zz9 s1)=fP (lobj (B++[v]) (c+1)):=by rw [Zu,List.push_toArray]
   have st7:tn (i+1) s7.heap:=T.keep _ _ _ V λb a o e=>(I7.pin (b,o) (c5 _ (c5 _ (d5 a e)))).1;refine{n-(i+1),by omega,i+1,made++[y],O,H7,B++[v],c+1,I9.ni (Se (s':={s7 with heap:=h'}) eD Wo.2.1),T.keep _ _ _ st7 λb a o e=>AS.extBut b o (Ne.symm (XT b a)) e,λb a=>?_,rv.append (.cons r7 .nil),rfl,q7};let(o,e,d):=T.obj _ _ V b a;exact(I7.pin (b,o) (c5 _ (c5 _ (d5 a e)))).2.1
 exact codeAny_compStart_list (loop _ rfl) (T.self _ 0 _ _ _ (T.keep _ _ _ pI λb _ o e=>L b o e) (loop _ rfl))
def zo{a c iter:hD}{d:TI}{g:TG}(f:X.calm=gf)(S:fS X scope xs ys is)(i:PI X c iter d)
 (j:∀fp s1 H1 C,PG (bP X (xs++ys) scope (bV X.env ys) fp s1 H1 C) c g) (he:∀fp s1 H1 C,PE (bP X (xs++ys) scope (bV X.env ys) fp s1 H1 C) a te)
 (hs:∀x,foldedSetIterable iter X.env x=pure x:=by intro _;rfl):
 PE X (.ListComp a [{c,iter,[],0}] scope pos) (zL d xs.length g te is):=by
 intro aa s σ H Q I h;rw [eval_ListComp];exact iT (use:=gd) (Q:=Q) f S i j (λZ Z Z Z=>zr) he hs I h (λD C k p m r t ⟨u,g1,_,g3,w,y⟩ q=>{m,t,λB z=>{.ref D,p,r.turned (t':=k.toks) (it:=C) (λb o A e=>z.extBut b o A e) u g1 g3 w y,rfl,q}})
def Bl{a c iter:hD}{f:TI}{g:TG}{tt:TT}(i:X.calm=gf)(S:fS X scope xs ys is)(j:PI X c iter f)
 (k:∀fp s1 H1 C,PG (bP X (xs++ys) scope (bV X.env ys) fp s1 H1 C) c g) (p:∀fp s1 H1 C,PT (bP X (xs++ys) scope (bV X.env ys) fp s1 H1 C) d tt) (he:∀fp s1 H1 C,PE (bP X (xs++ys) scope (bV X.env ys) fp s1 H1 C) a te)
 (hs:∀x,foldedSetIterable iter X.env x=pure x:=by intro _;rfl):
 PE X (.ListComp a [{c,iter,[d],0}] scope pos) (nu f xs.length g tt te is):=by
 intro aa s σ H Q I h;rw [eval_ListComp];exact iT (use:=gd) (Q:=Q) i S j k (λfp s1 H1 C=>zt (p fp s1 H1 C)) he hs I h (λD C r t m u w ⟨y,g1,_,g3,z,A⟩ q=>{m,w,λF B=>{.ref D,t,u.turned (t':=r.toks) (it:=C) (λb o E e=>B.extBut b o E e) y g1 g3 z A,rfl,q}})
end
def bt{p:hB}{o:HO}(h:H p=gd):az H (upd H p o):=λb u e=>by rw [ai (bO e h)];exact e
def range_all(bs:List Bool):(List.range bs.length).all (λi=>(bs[i]?).getD gf)=bs.all id:=by
 rw [Bool.eq_iff_iff,c8,c8];constructor
 .intro h b d;let(i,a,e):=List.getElem_of_mem d;have q:=h i (List.mem_range.mpr a);rw [zzg a,Option.getD_some,e] at q;exact q
 .intro h i a;have c:=List.mem_range.mp a;rw [zzg c,Option.getD_some];exact h _ (List.getElem_mem c)
def Ck(w:X.calm=gf):dP X (.builtin "all") (λxs H Q=>∃(p:hB) (bs:List Bool),xs=[.ref p]/\iQ X.K H p (bs.map V.bl)/\Q (.bl (bs.all id)) H):=by
 intro E s F H xs G Q I r h;let(p,bs,rfl,y,q):=h;let(u,rfl,d):=vals1 r;cases d;let(c,g,f,L):=I.list y;have z:p<(zz9 s):=by let(_,e,_):=f.isList;exact cP e
 have a:c.length=bs.length:=by rw [<-g.length,zzl]
 refine call_all_walk (wpAny_pyIter_list f.isList ?_);refine{(zz9 s),_,_,c.toArray.size,_,_,λi=>(bs[i]?).getD gf,rfl,Walks.list (A:=X.A.in1) (I.ok.hd w) (zz9 s) p (d1 z) c.toArray,{{_,dV _ rfl,rfl,rfl},f.isList.push _},λi v B Q2 M C D=>?_,λN O hk=>?_}
 .have j:c[i]?=fP v:=zx6 C;have k:i<bs.length:=by rw [<-a];exact(cj.mp j).1
  let(u,m,d):=g.get (i:=i) (x:=V.bl bs[i]) (by rw [c4,zzg k];rfl);rw [j] at m;cases m;have e:v=gA.bool bs[i]:=d;rw [e];have t:Q2 ((bs[i]?).getD gf) B:=D;rw [zzg k,Option.getD_some] at t;exact wpAny_truthy_bool t
 .rw [a5,a,range_all];exact{.bl (bs.all id),H,I.kept λb o e=>hk b o (by simp;exact d1 (cP e)) (aT _ e),rfl,q}
abbrev S5(z:Str):It:={λi Z=>i<z.cps.size,λi H x a=>a=H/\∃c,z.cps[i]?=fP c/\x=.str {#[c]},λi Z=>z.cps.size<=i}
def FW{P:hG}{w:hI}{K:zz8}{V:hD}(z:Str)(t:Tok)(it:hB)(ty:String)(B:ty="str_ascii_iterator"\/ty="str_iterator"):Turn P w K V (S5 z) [it] it (λi h=>h.IsStrIter it ty z t i/\i<=z.cps.size) where
 mem:=by simp
 obj:=λi h st b g=>by have e:b=it:=zx6 g;subst e;let((o,e,c,d),_):=st;exact{o,e,λv z=>by rw [d] at z;cases z}
 keep:=λi h a st k=>{by let((o,e,r),_):=st;exact{o,k it (by simp) o e,r},st.2}
 item:=by
  intro X N O hK m i R s S H E I C st T;subst N O hK;let(D,F,Y,G,L,M):=C it (by simp);have q:i<z.cps.size:=T
  have fin:∀(v:gA) (a:ig) (f:Nat),SignAt z i v->a.IsStrIter it ty z t (i+1)->(∀b o,b∉[it]->s.heap.get? b=fP o->a.get? b=fP o)->
   ∃u,(fP v:Option gA)=fP u/\zx7 X (letOwnedTupleGo V (.ref it) u) (λ_ W=>∃x U,Inv X R S U W/\RelV x u/\(S5 z).PH i H x U/\(W.heap.IsStrIter it ty z t (i+1)/\i+1<=z.cps.size)/\∀b∈[it],U b=gd) E {s with heap:=a,toks:=f}:=by
   intro v a f y p j;let(c,u,m,rfl):=y;have Z:Inv X R S H {s with heap:=a,toks:=f}:=I.turned (λb o g e=>j b o (zx6 g) e) D F G L M;let(o,e,c',d):=id p
   exact{_,rfl,uW (s:={s with heap:=a,toks:=f}) e c' d (by rcases B with rfl|rfl<;>decide) {.str {#[c]},H,Z,⟨u,rfl⟩,⟨rfl,c,m,rfl⟩,⟨p,q⟩,λb g=>(C b g).1}}
  rcases B with rfl|rfl
  .exact(Walks.strAscii (prog:=X.prog) (w:=X.w) (I.ok.hd m) it z t).item i s _ _ q st.1 λv a f y p j=>fin v a f y p j
  .exact(Walks.strWide (prog:=X.prog) (w:=X.w) (I.ok.hd m) it z t).item i s _ _ q st.1 λv a f y p j=>fin v a f y p j
 done:=by
  intro X N O hK m i R s S H E I C st T;subst N O hK;let(D,F,Y,G,L,M):=C it (by simp);have q:i=z.cps.size:=Nat.le_antisymm st.2 T
  subst q;rcases B with rfl|rfl
  .exact(Walks.strAscii (prog:=X.prog) (w:=X.w) (I.ok.hd m) it z t).done s _ _ st.1 λa f j=>{rfl,I.turned (λb o g e=>j b o (zx6 g) e) D F G L M}
  .exact(Walks.strWide (prog:=X.prog) (w:=X.w) (I.ok.hd m) it z t).done s _ _ st.1 λa f j=>{rfl,I.turned (λb o g e=>j b o (zx6 g) e) D F G L M}
 self:=λA i s Q E st h=>by
  rcases B with rfl|rfl
  .exact wpAny_pyIter_striter_ascii st.1 h
  .exact wpAny_pyIter_striter_wide st.1 h
abbrev VI(a:TE):TI:=λb H R=>a b H λx c=>∃z,x=.str z/\R (S5 z) c
def N6{f l:hD}{g:TE}(hl:PE X l g):PI X f l (VI g):=by
 intro i s j H R I h;refine bU (hl i s j H _ I h) λv a c=>?_;let(x,m,d,p,r):=c;let(z,e,q):=r;subst e;let(t,rfl):=p
 have fin:∀ty:String,(ty="str_ascii_iterator"\/ty="str_iterator")->Ug X i j f R (.ref (zz9 a)) {a with heap:=a.heap.push {cls:=.type ty,data:=.fields #[.str z t,.int 0 0]}}:=λty u=>by refine{(zz9 a),[(zz9 a)],_,_,m,rfl,d.kept (t':=a.toks) λb o e=>aT _ e,FW z t _ ty u,{{_,dV _ rfl,rfl,rfl},Nat.zero_le _},λb w=>?_,q};have e:b=(zz9 a):=zx6 w;subst e;exact d.uS (a8 _) (d.aQ.fresh (a8 _))
 cases k:z.cps.all (·<128)
 .exact wpAny_pyIter_wide k (fin _ (.inr rfl))
 .exact wpAny_pyIter_ascii k (fin _ (.inl rfl))
def Wu:V->Option Int->Option Int->Hp->VK->Prop:=λx a b H Q=>∃z,x=.str z/\z.length<=iv/\Q (.str (Txt.slice z a b)) H
def OC:Gk X Wu:=by
 intro e s f H x v r w g m y Q I o hs p pu h;let(z,rfl,a,q):=h;let(t,rfl):=o;refine{"str",_,F.slot_str_getitem.lookup,typeIs_str _ _ _,?_};have fin:∀b k,EP X e f Q (.str (Txt.slice z g m) b) {s with toks:=k}:=λb k=>{.str _,H,I.tok k,⟨b,rfl⟩,q}
 cases p with
 |none=>
  cases pu with
  |none=>exact wpAny_getItem_str_slice (l:=gd) (u:=gd) (st:=gd) hs rfl (post_val_or_str {di (Txt.slice_le z _ _) a,fin})|int j c=>exact wpAny_getItem_str_slice (l:=gd) (u:=fP (j,c)) (st:=gd) hs rfl (post_val_or_str {di (Txt.slice_le z _ _) a,fin})
 |int i d=>
  cases pu with
  |none=>exact wpAny_getItem_str_slice (l:=fP (i,d)) (u:=gd) (st:=gd) hs rfl (post_val_or_str {di (Txt.slice_le z _ _) a,fin})|int j c=>exact wpAny_getItem_str_slice (l:=fP (i,d)) (u:=fP (j,c)) (st:=gd) hs rfl (post_val_or_str {di (Txt.slice_le z _ _) a,fin})
end L2
namespace HT
open PyProof.Rows
def jd{s:gB}{E:jW}{t d:hB}{f g:gA}{a c:Option Int}{Q:jW}(b:IsTup s.heap t items)(hs:s.heap.IsSliceOf d f g .none)(i:IsPart f a)(pu:IsPart g c)
 (hw:dS items.size 0 a=0/\dS items.size items.size c=items.size) (h:Q (.ref t) s):hF (hT prog w) A (getItem (.ref t) (.ref d)) Q E s:=by
 let(os,e,j,k):=id hs;have m:s.TypeIs (.ref d) "slice":=⟨os,e,j⟩;unfold getItem
 try with_reducible refine wpAny_holding ?_
 first|refine ar (bT ?_)|skip
 refine ar (wpAny_sequenceKey b.typeIs (by decide) ?_);refine ar (wpAny_callSpecial?_slot (name:=Str.ofString "__getitem__") b.typeIs PyProof.Rows.slot_tuple_getitem
  (wpAny_call_entry PyProof.Rows.slot_tuple_getitem b.typeIs entry_tuple_getitem ?_ (args_tuple_getitem _ _)))
 show hF _ _ (i1.Tuple.tupleItemsOf (.ref t)>>=_) _ _ s;refine ar (tupleItemsOf_ b ?_);refine ar (wpAny_typeOf m ?_);rw [if_pos (by decide)];refine ar (gF hs i pu ?_);have o:(((dS items.size 0 a:Nat):Int)==0&&(1:Int)==1&&(dS items.size items.size c-dS items.size 0 a)==items.size)=gf:=by rw [hw.1,hw.2];simp
 show hF _ _ (if(((dS items.size 0 a:Nat):Int)==0&&(1:Int)==1&&(dS items.size items.size c-dS items.size 0 a)==items.size)=gf then _ else _) _ _ s;rw [if_pos o];refine ar (ar (wpAny_typeOf b.typeIs ?_));refine bT ?_;rw [if_pos (by decide)]
 first
  |exact ar (wpAny_rule (bT ⟨_,rfl,bT h⟩))
  |exact wpAny_rule (bT ⟨_,rfl,bT h⟩)
  |exact ar (wpAny_rule (ar (bT ⟨_,rfl,bT h⟩)))
end HT
namespace L2
open PySem.Spec PyProof.Rows
def Js:Gk X (λx c d H Q=>∃a xs,x=.ref a/\gH X.K H a xs/\(HT.dS xs.length 0 c=0/\HT.dS xs.length xs.length d=xs.length)/\Q x H):=by
 intro m s o H x v p t c d u Q I f hs g pu h;let(a,xs,rfl,i,j,q):=h;cases f;let(k,r,e,w):=I.tuple i;have b:k.toArray.size=xs.length:=by rw [a5];exact r.length.symm
 refine{"tuple",_,PyProof.Rows.slot_tuple_getitem.lookup,e.typeIs,?_};exact HT.jd e hs g pu (by rw [b];exact j) {.ref a,H,I,rfl,q}
section
variable{a b:hD}
end
section
variable{κ:Type}[DecidableEq κ]
abbrev lH(a:List (κ×V))(k:κ):Option V:=(a.find? λb=>decide (b.1=k)).map (·.2)
abbrev putK(b:List (κ×V))(k:κ)(v:V):List (κ×V):=
 if(b.any λa=>decide (a.1=k))=gf then b.map (λa=>if a.1=k then(a.1,v) else a) else b++[(k,v)]
abbrev gk(a:List (κ×V))(k:κ):List (κ×V):=a.filter λb=>decide (b.1≠k)
def lJ{p:κ×V}{r:List (κ×V)}{k:κ}(e:p.1=k):lH (p::r) k=fP p.2:=by simp [lH,List.find?_cons,e]
def lI{p:κ×V}{r:List (κ×V)}{k:κ}(e:¬p.1=k):lH (p::r) k=lH r k:=by simp [lH,List.find?_cons,e]
theorem pB(k:κ):∀a:List (κ×V),(a.any λb=>decide (b.1=k))=(lH a k).isSome
 |[]=>rfl|p::r=>by
  rw [List.any_cons];by_cases e:p.1=k
  .simp! [lJ e,zzh e,Bool.true_or,Option.isSome_some]
  .rw [lI e,zz0 e,Bool.false_or];exact pB k r
def fO(a:List (κ×V))(k:κ)(v:V):(putK a k v).length<=a.length+1:=by
 unfold putK;split
 .rw [zzl];lia
 .rw [cD,cC,List.length_nil];lia
def g7.gy{o:Option V}{u:Option gA}(r:g7 o u):o.isSome=u.isSome:=by
 cases o with
 |none=>cases u with
  |none=>rfl|some _=>exact(show False from r).elim
 |some _=>cases u with
  |none=>exact(show False from r).elim|some _=>rfl
def g7.getD{o:Option V}{u:Option gA}{d:V}{d':gA}(r:g7 o u)(rd:RelV d d'):RelV (o.getD d) (u.getD d'):=by
 cases o with
 |none=>cases u with
  |none=>exact rd|some _=>exact(show False from r).elim
 |some _=>cases u with
  |none=>exact(show False from r).elim|some _=>exact r
def KV.val{c:List (κ×V)}{vs:List (κ×gA)}(r:KV c vs)(k:κ):g7 (lH c k) (valueAt vs k):=by
 unfold KV at r
 induction r with
 |nil=>exact True.intro|@cons p q i qs h t f=>
  let(d,g):=h;by_cases e:p.1=k
  .have a:q.1=k:=d.symm.trans e;have b:valueAt (q::qs) k=fP q.2:=by simp [valueAt,List.find?_cons,a]
   rw [lJ e,b];exact g
  .have a:¬q.1=k:=λz=>e (d.trans z);have b:valueAt (q::qs) k=valueAt qs k:=by simp [valueAt,List.find?_cons,a]
   rw [lI e,b];exact f
def KV.any{b:List (κ×V)}{vs:List (κ×gA)}(r:KV b vs)(k:κ):(b.any λa=>decide (a.1=k))=vs.any λa=>decide (a.1=k):=by
 unfold KV at r
 induction r with
 |nil=>rfl|cons h t c=>rw [List.any_cons,List.any_cons,c,h.1]
def KV.Og{c:List (κ×V)}{vs:List (κ×gA)}(r:KV c vs)(k:κ){y:V}(d:RelV y u):
 KV (c.map λa=>if a.1=k then(a.1,y) else a) (vs.map λa=>if a.1=k then(a.1,u) else a):=by
 unfold KV at r⊢
 induction r with
 |nil=>exact .nil|@cons p q i qs h t f=>
  rw [bc,bc];refine .cons ?_ f;let(b,g):=h;by_cases e:p.1=k
  .rw [if_pos e,if_pos (b.symm.trans e)];exact⟨b,d⟩
  .rw [if_neg e,if_neg (λz=>e (b.trans z))];exact⟨b,g⟩
def KV.put{a:List (κ×V)}{vs:List (κ×gA)}(r:KV a vs)(k:κ){y:V}(b:RelV y u):KV (putK a k y) (stored vs k u):=by
 unfold putK stored;rw [r.any k];by_cases e:(vs.any λc=>decide (c.1=k))=gf
 .rw [if_pos e,if_pos e];exact r.Og k b
 .rw [if_neg e,if_neg e];exact Paired.snoc r ⟨rfl,b⟩
def KV.drop{d:List (κ×V)}{vs:List (κ×gA)}(r:KV d vs)(k:κ):KV (gk d k) (without vs k):=by
 unfold KV at r⊢;unfold gk without
 induction r with
 |nil=>exact .nil|@cons p q j qs h t f=>
  let(c,g):=h;rw [eA,eA];by_cases e:p.1=k
  .have a:¬decide (p.1≠k)=gf:=by simp [e]
   have b:¬decide (q.1≠k)=gf:=by simp [c.symm.trans e]
   rw [if_neg a,if_neg b];exact f
  .have i:¬q.1=k:=λz=>e (c.trans z);have a:decide (p.1≠k)=gf:=by simp [e]
   have b:decide (q.1≠k)=gf:=by simp [i]
   rw [if_pos a,if_pos b];exact .cons ⟨c,g⟩ f
def KV.keys{a:List (κ×V)}{vs:List (κ×gA)}(r:KV a vs):a.map (·.1)=vs.map (·.1):=by
 unfold KV at r
 induction r with
 |nil=>rfl|cons h t b=>rw [bc,bc,b,h.1]
def KV.length{a:List (κ×V)}{vs:List (κ×gA)}(r:KV a vs):a.length=vs.length:=Paired.length r
def CI(a:List (κ×V))(k:κ):(gk a k).length<=a.length:=List.length_filter_le _ _
end
def mn{P:hG}{k:Key}(r:RelV (kV k) u):(bu P w).is k u=gf:=by
 cases k with
 |inl i=>let(t,e):=(show∃t,u=gA.int i t from r);subst e;exact vn P w i t|inr x=>let(t,e):=(show∃t,u=gA.str x t from r);subst e;exact vo P w x t
theorem qJ{P:hG}:∀{ks:List Key} {us:List gA},Vals (ks.map kV) us->ItemsAre (bu P w) ks us
 |[],_,r=>by rw [List.map_nil] at r;cases r;exact .nil
 |k::ks,_,r=>by
  rw [bc] at r;cases r with
  |cons h t=>exact .cons (mn h) (qJ t)
noncomputable abbrev KT(H:Hp):List (List Key×V)->List (List Key×hB×gA)->Prop:=Paired λp q=>p.1=q.1/\H q.2.1=fP (.tup (p.1.map kV))/\RelV p.2 q.2.2
def KT.val{c:List (List Key×V)}{xs:List (List Key×hB×gA)}(r:KT H c xs)(k:List Key):g7 (lH c k) ((atKey xs k).map (·.2)):=by
 induction r with
 |nil=>exact True.intro|@cons p q i qs h t f=>
  let(d,_,g):=h;by_cases e:p.1=k
  .have a:q.1=k:=d.symm.trans e;have b:atKey (q::qs) k=fP q.2:=by simp [atKey,List.find?_cons,a]
   rw [lJ e,b];exact g
  .have a:¬q.1=k:=λz=>e (d.trans z);have b:atKey (q::qs) k=atKey qs k:=by simp [atKey,List.find?_cons,a]
   rw [lI e,b];exact f
def KT.Og{c:List (List Key×V)}{xs:List (List Key×hB×gA)}(r:KT H c xs)(k:List Key){y:V}(f:RelV y u):
 KT H (c.map λb=>if b.1=k then(b.1,y) else b) (xs.map (putAt k u)):=by
 induction r with
 |nil=>exact .nil|@cons p q i qs h t g=>
  rw [bc,bc];refine .cons ?_ g;let(a,d,h3):=h;unfold putAt;by_cases e:p.1=k
  .rw [if_pos e,if_pos (a.symm.trans e)];exact⟨a,d,f⟩
  .rw [if_neg e,if_neg (λz=>e (a.trans z))];exact⟨a,d,h3⟩
def KT.put{a:List (List Key×V)}{xs:List (List Key×hB×gA)}(r:KT H a xs)(k:List Key){b:hB}{y:V}(d:H b=fP (.tup (k.map kV)))(c:RelV y u):
 KT H (putK a k y) (storedH xs k b u):=by
 have e:(a.any λf=>decide (f.1=k))=(atKey xs k).isSome:=by rw [pB,(r.val k).gy,Option.isSome_map]
 unfold putK storedH;rw [e];by_cases q:(atKey xs k).isSome=gf
 .rw [if_pos q,if_pos q];exact r.Og k c
 .rw [if_neg q,if_neg q];exact Paired.snoc r ⟨rfl,d,c⟩
def KT.keeps{a:Hp}{c:List (List Key×V)}{xs:List (List Key×hB×gA)}(r:KT H c xs)(d:∀b ys,H b=fP (.tup ys)->a b=fP (.tup ys)):KT a c xs:=
 Paired.Ip r λZ Z z=>{z.1,d _ _ z.2.1,z.2.2}
section
variable{P:hG}
def KG{u:HO}(ok:fE P w H h)(e:Rd H a u):cb P w H h a u:=e.ok ok
def kJ{b:List (Key×V)}(ok:fE P w H h)(e:Rd H a (.dK b)):b.length<=iv/\(a==sysModules)=gh/\∃vs,KV b vs/\h.DictOf (bu P w) a vs:=
 show cb P w H h a (.dK b) from KG ok e
def CC{b:List (Key×V)}(ok:fE P w H h)(e:H a=fP (.dK b)):b.length<=iv/\(a==sysModules)=gh/\∃vs,KV b vs/\h.DictOf (bu P w) a vs:=kJ ok (.inl e)
def oA{ks:List Key}(ok:fE P w H h)(e:H a=fP (.tup (ks.map kV))):(tupleKind (bu P w)).is h ks a:=by let(_,b,r,o,c,d,n,h3):=(show cb P w H h a (.tup (ks.map kV)) from ok a _ e);exact{o,b.toArray,n,c,d,h3,by simpa using qJ r}
def uO{c:List (List Key×V)}(ok:fE P w H h)(e:Rd H a (.dT c)):c.length<=iv/\(a==sysModules)=gh/\
 ∃xs,KT H c xs/\h.DictOfH (tupleKind (bu P w)) a xs:=by
 let(z,y,xs,r,o,f,g,i,j,h3,k,s):=(show cb P w H h a (.dT c) from KG ok e);refine{z,y,xs,r,o,f,g,i,j,h3,k,λx b=>?_,s}
 have all:∀{l:List (List Key×V)} {m:List (List Key×hB×gA)},KT H l m->∀x∈m,(tupleKind (bu P w)).is h x.1 x.2.1:=by
  intro l m q
  induction q with
  |nil=>intro x b;exact nomatch b|@cons p q A qs d t u=>
   intro x b;rcases ef.mp b with e|b
   .subst e;exact oA ok (by rw [<-d.1];exact d.2.1)
   .exact u x b
 exact all r x b
def Qv{b:List (List Key×V)}(ok:fE P w H h)(e:H a=fP (.dT b)):b.length<=iv/\(a==sysModules)=gh/\
 ∃xs,KT H b xs/\h.DictOfH (tupleKind (bu P w)) a xs:=uO ok (.inl e)
end
def GG(H:Hp)(a:hB)(y:V)(r:Option V):Prop:=
 (∃c k,Rd H a (.dK c)/\y=kV k/\r=lH c k)\/∃c k b,Rd H a (.dT c)/\y=.ref b/\H b=fP (.tup (k.map kV))/\r=lH c k
def wk(H:Hp)(a:hB)(y v:V)(d:Hp):Prop:=
 (∃c k,H a=fP (.dK c)/\y=kV k/\c.length<iv/\d=upd H a (.dK (putK c k v)))\/
 ∃c k b,H a=fP (.dT c)/\y=.ref b/\H b=fP (.tup (k.map kV))/\c.length<iv/\d=upd H a (.dT (putK c k v))
def wk.k{b:List (Key×V)}{k:Key}(e:H a=fP (.dK b))(hl:b.length<iv):wk H a (kV k) v (upd H a (.dK (putK b k v))):=.inl ⟨b,k,e,rfl,hl,rfl⟩
section
variable{s:gB}{y:V}{r:gA}{o:Option V}{E:jW}
def Inv.big(I:zv2 s):sysModules<(zz9 s):=by have h:iR<(zz9 s):=(I.mod.glob.keeps I.bk).lt;exact Nat.lt_trans (by decide) h
def UI{Q:jW}(j:A.units+1<cLine)(I:zv2 s)(g:GG H a y o)(i:RelV y u)(h:∀s',Inv X aa σ H s'->Q (.bool o.isSome) s'):
 hF (hT X.prog X.w) A (compareOp .In u (.ref a)) Q E s:=by
 rcases g with⟨m,k,e,d,l⟩|⟨m,k,b,e,d,p,l⟩
 .subst d;let(z,hd,t,c,f):=kJ I.aQ e;refine wpAny_in_of (mn i) hd f.mapOf ?_;rw [<-(c.val k).gy,<-l];exact h _ (I.tok _)
 .subst d;cases(show u=gA.ref b from i);let(z,hd,xs,c,f):=uO I.aQ e;refine wpAny_in_heap (tupleKind_room_in1 j) (oA I.aQ p) hd f ?_;have q:=(c.val k).gy;rw [Option.isSome_map] at q;rw [<-q,<-l];exact h _ (I.tok _)
def Ha{Q:jW}(j:A.units+1<cLine)(I:zv2 s)(g:GG H a y o)(i:RelV y u)(h:∀s',Inv X aa σ H s'->Q (.bool (!o.isSome)) s'):
 hF (hT X.prog X.w) A (compareOp .NotIn u (.ref a)) Q E s:=by
 rcases g with⟨m,k,e,d,l⟩|⟨m,k,b,e,d,p,l⟩
 .subst d;let(z,hd,t,c,f):=kJ I.aQ e;refine wpAny_notIn_of (mn i) hd f.mapOf ?_;rw [<-(c.val k).gy,<-l];exact h _ (I.tok _)
 .subst d;cases(show u=gA.ref b from i);let(z,hd,xs,c,f):=uO I.aQ e;refine wpAny_notIn_heap (tupleKind_room_in1 j) (oA I.aQ p) hd f ?_;have q:=(c.val k).gy;rw [Option.isSome_map] at q;rw [<-q,<-l];exact h _ (I.tok _)
theorem kG{t':Nat}{ob:HO}(I:zv2 s)(c:PM (H a))(hs:ig.SameBut a s.heap h')(he:∃q,h'.get? a=fP q)(new:cb X.prog X.w (upd H a ob) h' a ob):
 Inv X aa σ (upd H a ob) {s with heap:=h',toks:=t'}:=
 I.write (x:=a) (e:=a) c (.inl rfl) (λb q d z=>(hs.2 b d).trans z) he new
def CB{P:hG}{d:Hp}{b:List (Key×V)}{vs:List (Key×gA)}(z:b.length<=iv)(hd:(a==sysModules)=gh)(c:KV b vs)(dd:h'.DictOf (bu P w) a vs):
 cb P w d h' a (.dK b):=⟨z,hd,vs,c,dd⟩
def qA{C:Hp}{Q:Unit->gB->Prop}(M:A.units+1<cLine)(I:zv2 s)(g:wk H a y v C)(D:RelV y u)(F:RelV v r)(h:∀s',Inv X aa σ C s'->Q () s'):
 hF (hT X.prog X.w) A (setItem (.ref a) u r) Q E s:=by
 rcases g with⟨f,k,e,m,l,p⟩|⟨f,k,b,e,m,G,l,p⟩
 .subst m p;let(z,hd,N,d,t):=CC I.aQ e;have B:N.length<=sizeLine:=by rw [<-d.length];exact z
  have hl:(putK f k v).length<=sizeLine:=by have:=fO f k v;lia
  refine wpAny_setItem_pairs (hsz:=B) (mn D) t λK i hs=>h _ ?_;have O:∃q,K.get? a=fP q:=let⟨q,_,_,j,_⟩:=i;⟨q,j⟩;exact kG I (by rw [e];exact True.intro) hs O (CB hl hd (d.put k F) i)
 .subst m p;cases(show u=gA.ref b from D);let(z,hd,xs,d,t):=Qv I.aQ e;have B:xs.length<=sizeLine:=by rw [<-Paired.length d];exact z
  have hl:(putK f k v).length<=sizeLine:=by have:=fO f k v;lia
  refine wpAny_setItem_heap (hsz:=B) (tupleKind_room_in1 M) (oA I.aQ G) t λK i hs=>h _ ?_;let(q,P,R,j,S,h3,T,_,U):=i;refine kG I (by rw [e];exact True.intro) hs ⟨q,j⟩ {hl,hd,_,(d.put k G F).keeps λc V L=>?_,q,P,R,j,S,h3,T,U};rw [ai (vq L e nofun)];exact L
variable{aA:List (Key×V)}{k:Key}
def Qu{v:V}{more:List gA}{Q:jW}(I:zv2 s)(e:H a=fP (.dK aA))(d:RelV (kV k) u)(l:lH aA k=fP v)(hm:more=[]\/∃x,more=[x])
 (h:∀c s',Inv X aa σ (upd H a (.dK (gk aA k))) s'->RelV v c->Q c s'):hF (hT X.prog X.w) A (call (.builtin "dict.pop") (.ref a::u::more)) Q E s:=by
 let(z,hd,f,b,g):=CC I.aQ e;let(c,m,p):=g7.some_of (v:=v) (o:=valueAt f k) (by rw [<-l];exact b.val k)
 have B:(keyPart u).isSome=gf:=by
  cases k with
  |inl i=>let(t,q):=(show∃t,u=gA.int i t from d);subst q;rfl|inr x=>let(t,q):=(show∃t,u=gA.str x t from d);subst q;rfl
 have C:argsOk "dict.pop" {.ref a::u::more,[]}:=by
  rcases hm with q|⟨x,q⟩
  .subst q;exact PySem.F.args_dict_pop_2 _ _
  .subst q;exact PySem.F.args_dict_pop_3 _ _ _
 refine call_meetsIn PySem.F.slot_dict_pop g.typeIs PySem.F.entry_dict_pop C (meets_dict_pop_there (bu X.prog X.w) a (mn d) more hm B)
  {f,c,g,by rw [<-b.length];exact z,m,λD j hs=>h c _ ?_ p}
 have G:∃q,D.get? a=fP q:=let⟨q,_,_,K,_⟩:=j;⟨q,K⟩;exact kG I (by rw [e];exact True.intro) hs G (CB (di (CI aA k) z) hd (b.drop k) j)
def Qt{Q:jW}(I:zv2 s)(e:Rd H a (.dK aA))(h:∀t s',Inv X aa σ H s'->Q (.int aA.length t) s'):hF (hT X.prog X.w) A (call (.builtin "len") [.ref a]) Q E s:=by let(z,hd,d,b,c):=kJ I.aQ e;refine call_len_dict hd c (by rw [<-b.length];rw [sizeLine_eq] at z;lia) ?_;rw [<-b.length];exact h _ _ (I.tok _)
end
abbrev Sn(td ty d:TE):TS:=λD b H=>d b H λv e=>td b e λx f=>ty b f λy g=>∃a c,x=.ref a/\wk g a y v c/\D.nx b c
section
variable{o i value:hD}{pos':Pos}{td ty tv:TE}
def Jf(e:X.A.units+1<cLine)(f:PE X o td)(j:PE X i ty)(k:PE X value tv)(hs:swapsWith value (fP (.Subscript o i pos')) pos.line X.env=pure gh):
 PS X (.Assign [.Subscript o i pos'] value pos) (Sn td ty tv):=by
 intro c s b H D I h;refine wpAny_Assign_Subscript (bU (k c s b H _ I h) λr m ⟨v,H1,p,q,t⟩=>bU (f c m b H1 _ p t) λu w ⟨x,z,B,C,E⟩=>bU (j c w b z _ B E) λN O d=>?_) hs;let(y,P,F,G,a,K,ex,g,L):=d;subst ex;obtain rfl:u=gA.ref a:=C;exact qA e F g G q λQ M=>⟨b,K,M,L⟩
end
theorem uL{P:hG}(h:ig)(a:sysModules<h.objs.size):cb P w H (h.push {cls:=.type "dict",data:=.dict #[]}) h.objs.size (.dK []):=
 {Nat.zero_le _,beq_eq_false_iff_ne.mpr (Ne.symm (d1 a)),[],.nil,ig.DictOf.new h}
abbrev OP:TE:=λZ H Q=>∀p,H p=gd->Q (.ref p) (upd H p (.dK []))
theorem oN:PE X (.Dict [] [] pos) OP:=λb s c H Q I h=>wpAny_Dict_empty {.ref (zz9 s),_,I.laid (a:=(zz9 s)) (o:=.dK []) (t':=s.toks) (λZ Z q=>aT _ q) (a8 _) (uL s.heap I.big),rfl,h _ (I.aQ.fresh (a8 _))}
abbrev iH(c more:List (Key×V)):List (Key×V):=more.foldl (λa b=>putK a b.1 b.2) c
structure M1(X:Cx)(o:hD)(m:Str)(apos:Pos)(e:hD)(bW:Pos):Prop where
 base:attributeBase o m X.env (eval o X.env)=eval o X.env
 Tp:((backTo bW (starEach [e] X.env)).all (λx=>!x.1)&&(backToKw bW (keywordEach [] X.env)).all (λx=>x.1.isSome)
  &&decide (([e]:List hD).length+([]:List Keyword).length+(if([]:List Keyword).isEmpty then 0 else 1)<30))=gf
 line:(apos.endLine==bW.line)=gf
 trees:backTo bW (starEach [e] X.env)=[(gh,eval e X.env)]
def B6(H:Hp)(a:hB):Prop:=(∃b,Rd H a (.dK b))\/∃b,Rd H a (.dT b)
def DS{h:St}{s:gB}(I:Inv X aa h H s)(d:B6 H a):
 s.TypeIs (.ref a) "dict"/\(∀b,gA.ref a=.ref b->∃ob,s.heap.get? b=fP ob/\ob.dict=gd)/\(a==sysModules)=gh:=by
 rcases d with⟨i,e⟩|⟨i,e⟩
 .let(_,hd,j,_,c):=kJ I.aQ e;refine{c.typeIs,λb q=>?_,hd};cases q;let(ob,_,_,f,g,_):=c;exact⟨ob,f,g.2.1⟩
 .let(_,hd,xs,_,c):=uO I.aQ e;refine{c.typeIs,λb q=>?_,hd};cases q;let(ob,_,_,f,g,_):=c;exact⟨ob,f,g.2.1⟩
section
variable{s:gB}{y:V}{o:Option V}{E:jW}
def Lw{Q:jW}(m:A.units+1<cLine)(I:zv2 s)(g:GG H a y o)(i:RelV y u)(h:∀j s',Inv X aa σ H s'->RelV (o.getD .aN) j->Q j s'):
 hF (hT X.prog X.w) A (call (.builtin "dict.get") [.ref a,u]) Q E s:=by
 rcases g with⟨p,k,e,f,l⟩|⟨p,k,b,e,f,q,l⟩
 .subst f;let(z,hd,r,c,d):=kJ I.aQ e;refine call_meetsIn PySem.F.slot_dict_get d.typeIs PySem.F.entry_dict_get (PySem.F.args_dict_get_2 _ _) (meets_dict_get (bu X.prog X.w) a (mn i) hd) {_,d.mapOf,h _ _ (I.tok _) ?_};rw [l];exact(c.val k).getD rfl
 .subst f;cases(show u=gA.ref b from i);let(z,hd,xs,c,d):=uO I.aQ e;refine call_meetsIn PySem.F.slot_dict_get d.typeIs PySem.F.entry_dict_get (PySem.F.args_dict_get_2 _ _) (meetsH_dict_get (tupleKind (bu X.prog X.w)) a b hd) {tupleKind_room_in1 m,k,xs,oA I.aQ q,d,h _ _ (I.tok _) ?_};rw [l];exact(c.val k).getD rfl
end
abbrev OO(td ty:TE):TE:=λb H Q=>td b H λx c=>∃a,x=.ref a/\B6 c a/\ty b c λy d=>∃o,GG d a y o/\Q (o.getD .aN) d
abbrev OQ(td ty:TE):TE:=λc H Q=>td c H λx d=>∃a,x=.ref a/\B6 d a/\ty c d λy e=>∃b k v,e a=fP (.dK b)/\y=kV k/\lH b k=fP v/\Q v (upd e a (.dK (gk b k)))
section
variable{o:hD}{apos bW:Pos}{td ty:TE}
def EL(j:X.A.units+1<cLine)(k:PE X o td)(he:PE X e ty)(m:M1 X o "get" apos e bW):PE X (.Call (.Attribute o "get" apos) [e] [] bW) (OO td ty):=by intro c s f H Q I h;refine wpAny_Call_method m.base m.Tp m.line PySem.F.plainAttrs_dict PySem.F.slot_dict_get PySem.F.type_dict_get (bU (k c s f H _ I h) λu p b=>?_);let(x,q,i,r,a,ex,d,t):=b;subst ex;obtain rfl:u=gA.ref a:=r;let(w,t2,_):=DS i d;refine{w,t2,?_};rw [m.trees];refine Calls.callWith_builtin rfl (Calls.evalArgs_plain (Calls.spliced_cons (bU (he c p f q _ i t) λK L ⟨y,z,B,C,M,g,D⟩=>Calls.spliced_nil ?_)));exact Lw j B g C λN O E G=>{_,z,E,G,D}
def EM(i:PE X o td)(he:PE X e ty)(m:M1 X o "pop" apos e bW):PE X (.Call (.Attribute o "pop" apos) [e] [] bW) (OQ td ty):=by intro c s f H Q I h;refine wpAny_Call_method m.base m.Tp m.line PySem.F.plainAttrs_dict PySem.F.slot_dict_pop PySem.F.type_dict_pop (bU (i c s f H _ I h) λu j b=>?_);let(x,p,g,q,a,ex,d,r):=b;subst ex;obtain rfl:u=gA.ref a:=q;let(t,t2,_):=DS g d;refine{t,t2,?_};rw [m.trees];refine Calls.callWith_builtin rfl (Calls.evalArgs_plain (Calls.spliced_cons (bU (he c j f p _ g r) λG K ⟨y,L,w,z,M,k,v,A,B,l,C⟩=>Calls.spliced_nil ?_)));subst B;exact Qu w A z l (.inl rfl) λN O D E=>{v,_,D,E,C}
end
end L2
namespace Att
open PySem.W PySem.Calls PyProof.Rows
end Att
namespace L2
open PySem.Spec PyProof.Rows
section
variable{κ:Type}[DecidableEq κ]
def Aw{p:κ×V}{r:List (κ×V)}{k:κ}(e:p.1=k):gk (p::r) k=gk r k:=by unfold gk;rw [eA,if_neg (by simp [e])]
def Av{p:κ×V}{r:List (κ×V)}{k:κ}(e:¬p.1=k):gk (p::r) k=p::gk r k:=by unfold gk;rw [eA,if_pos (by simp [e])]
end
open PySem.W (hideAll hideAll_get of_hideAll funFrames_hide)
structure GK(P:hG)(w:hI)(outer:List Env)(H:Hp)(s:gB)(E:XK)(a C t:hB)(vs:List gA)(H':Hp)(B:ig)(s':gB):Prop where
 os:s'.os=s.os
 bare:AllBare s'.gens
 aQ:fE P w H' B
 C9:ig.FlyingW B outer a (.ref C) (.ref t) s'.heap
 tn:B.get? t=gd
 tup:s'.heap.TupAt t vs
 fy:∀b o,s.heap.get? b=fP o->H b=gd->b∉fG outer->B.get? b=fP o
 dm:∀b o,s.heap.get? b=fP o->b∉fG outer->∃o',B.get? b=fP o'
 un:Un (fG outer) [] H H' s.heap s'.heap
 ends:E (.ref C) (fP a) H'
abbrev dF(P:hG)(w:hI):zV:=λouter H s E e b=>∃a C t c d B,e=.ref a/\GK P w outer H s E a C t c d B b
section
variable{P:hG}{K:zz8}{scope:ia}{f:hB}{cd:gA}{s0:gB}{E:XK}
def cX{a:St}{s:gB}(I:Inv X aa a H s){b:hB}(hl:X.env.locals=X.s₀.heap.objs.size)(q:X.s₀.heap.get? b=fP o)(c:b∉X.fs):b∉fG X.stack:=λz=>by
 rcases ef.mp (I.ma b z) with e|e
 .rw [hl] at e;exact absurd (cP q) (by rw [e];exact Nat.lt_irrefl _)
 .exact c e
def RW:Passes (dF P w) (zv0 E) E:=by
 rintro R σ H s e S I ⟨a,C,t,r,y,B,rfl,F⟩
 have nx:∀b:hB,b∉(zv0 E).ex:=λb z=>nomatch (show b∈([]:List hB) from z);have fy:∀b o,s0.heap.get? b=fP o->H0 b=gd->b∉fG outer->B.get? b=fP o:=λb o q n c=>F.fy b o (I.base.keep b o q n c (nx b)) (I.base.free b o q n (nx b)) (cX I rfl q c);have dm:∀b o,s0.heap.get? b=fP o->b∉fG outer->∃g,B.get? b=fP g:=λb o q c=>by let(o1,d):=I.base.there b o q (nx b);exact F.dm b o1 d (cX I rfl q c)
 refine wpAny_leaves_onW I.ok.frames rfl F.C9 λD j m=>{a,C,t,r,y,B,rfl,?_};have slot:∀b o,s0.heap.get? b=fP o->H0 b=gd->b∈fG outer->∃h,D.get? b=fP {o with slots:=h}:=λb o q n c=>by let(h,d):=I.base.slot b o q n c (nx b);let(G,i):=F.un.any d (I.base.free b o q n (nx b)) nofun;let(_,g,p,hd):=F.C9.2.2.1.mem (b:=b) (ey.mpr (let⟨v,L,M⟩:=ey.mp c;{v,.tail _ L,M}));rw [i] at p;cases p;let(k,O):=m b _ i hd;exact⟨k,O⟩
 refine{F.os.trans I.os,F.bare,F.aQ,j,F.tn,F.tup.of_slots m,fy,dm,{λb o q n c Z=>j.1 _ _ (fy b o q n c),λb o q n c Z=>slot b o q n c,λb o q n Z=>?_,λb o q Z=>?_,λb xs q=>F.un.hZ _ _ (I.base.hZ _ _ q),λb o u q=>F.un.gq _ _ _ (I.base.gq _ _ _ q),λb Q q=>?_},F.ends}
 .let(h,d):=I.base.any q n (nx b);exact F.un.free b _ d (I.base.free b o q n (nx b)) nofun
 .by_cases c:b∈fG outer
  .let(h,d):=slot b o q (I.ok.wU b c) c;exact{_,d}
  .let(g,d):=dm b o q c;exact{g,j.1 _ _ d}
 .let(m1,d):=I.base.gU b Q q;let(m2,i):=F.un.gU b _ d;exact{m1++m2,by rw [<-Array.append_assoc];exact i}
def Of{D:St}{s:gB}{g:ig}{e C:hB}(I:Inv (zv0 E) aa D H s)
 (y:ig.MadeExcOf s.heap g e (.ref C) us) (F:E (.ref C) (fP e) H):(zv0 E).xe (.ref e) {s with heap:=g}:=by
 have nx:∀b:hB,b∉(zv0 E).ex:=λb z=>nomatch (show b∈([]:List hB) from z);have G:∀env∈(zv0 E).stack,∀b,env.frame=fP b->b∈fG (zv0 E).stack:=λenv L b a=>ey.mpr ⟨env,L,a⟩;refine wpAny_leaves_madeW (h:=s.heap) I.ok.frames rfl (λb o q=>of_hideAll _ q) (funFrames_hide I.stack G) y λM t k O Q R=>{e,C,t,us,H,hideAll s.heap (fG (zv0 E).stack),rfl,?_};have fy:∀b o,s0.heap.get? b=fP o->H0 b=gd->b∉fG outer->(hideAll s.heap (fG (zv0 E).stack)).get? b=fP o:=λb o q n a=>hideAll_get _ (I.base.keep b o q n a (nx b)) (cX I rfl q a);have dm:∀b o,s0.heap.get? b=fP o->b∉fG outer->∃i,(hideAll s.heap (fG (zv0 E).stack)).get? b=fP i:=λb o q a=>by let(o1,d):=I.base.there b o q (nx b);exact{o1,hideAll_get _ d (cX I rfl q a)}
 have slot:∀b o,s0.heap.get? b=fP o->H0 b=gd->b∈fG outer->∃m,M.get? b=fP {o with slots:=m}:=λb o q n a=>by let(m,d):=I.base.slot b o q n a (nx b);let(_,i,B,hd):=I.stack.mem (b:=b) (ey.mpr (let⟨v,g,S⟩:=ey.mp a;{v,.tail _ g,S}));rw [d] at B;cases B;let(p,T):=R b _ (y.keeps _ _ d) hd;exact⟨p,T⟩
 refine{I.os,I.bare,λb o q=>?_,k,Q,O,fy,dm,{λb o q n a Z=>k.1 _ _ (fy b o q n a),λb o q n a Z=>slot b o q n a,λb o q n Z=>I.base.free b o q n (nx b),λb o q Z=>?_,I.base.hZ,I.base.gq,I.base.gU},F}
 .refine(I.aQ b o q).f7 (λc v u r=>hideAll_get _ r λz=>?_) (λZ q=>q) λZ Z q=>q;have j:=I.nr c z
  rcases u with rfl|u
  .rw [q] at j;cases j
  .rw [u] at j;cases j
 .by_cases a:b∈fG outer
  .let(m,d):=slot b o q (I.ok.wU b a) a;exact{_,d}
  .let(i,d):=dm b o q a;exact{i,k.1 _ _ d}
end
def mz{P:hG}{o:HO}(x:cb P w H h a o):∃b,h.get? a=fP b:=by
 cases o with
 |lst xs=>let(_,_,_,_,e):=x;exact{_,e}|tup xs=>let(_,_,_,o,e,_):=x;exact{_,e}|dK c=>let(_,_,_,_,o,_,_,e,_):=x;exact{_,e}|dT c=>let(_,_,_,_,o,_,_,e,_):=x;exact{_,e}|set S n=>let(o,_,_,_,e,_):=x;exact{_,e}|ins C dx fs=>let(_,_,_,e,_):=x;exact{_,e}|own y=>exact x|xd fs=>let(_,(_,_,_,e,_),_):=x;exact{_,e}|sY lo d=>let(_,_,_,e):=x;exact{_,e}|b9 ob u=>let(e,_):=x;exact{_,e}|gI g=>exact{_,x}|met f y=>exact{_,x}|ext i=>exact x.2.1
abbrev OT(C:hB)(E:XK)(b:TA):TS:=λZ c H=>b c H λd a=>d.length<=iv/\∀e,a e=gd->E (.ref C) (fP e) a
section
variable{P:hG}{K:zz8}{scope:ia}{f:hB}{cd:gA}{s0:gB}{E:XK}
theorem Fc{C:hB}{u b B:String}{bm:List gA}{a:hD}{rest:List hD}{d:Pos}{j:TA}(F:Gl (zv0 E) x)(O:OwnCls x C bm b mg base)(k:ExcBaseFacts u b B bm)
 (G:PA (zv0 E) (a::rest) j)
 (he:starEach (a::rest) (zv0 E).env=(gh,eval a (zv0 E).env)::starEach rest (zv0 E).env:=by rfl)
 (L:(backTo d (starEach rest (zv0 E).env)).any (·.1)=gh:=by rfl) (hd:(x==(zu 33:Str))=gh:=by decide) (M:A.handled.isNone=gf):
 PS (zv0 E) (.Raise (fP (.Call (.Name x np) (a::rest) [] d)) gd pos) (OT C E j):=by
 intro Q s R H D I h;let(S,U,nm,q,bs,hdct,sn,sub,ab,col,dd,k0,k1,k2,k3,k5,mN,hC,hN,g,T):=O.obj
 refine wpAny_Raise_call_subT (C:=C) (nm:=nm) (q:=q) (N:=U) (bs:=bs) (bm:=S) (hdct:=hdct) (sn:=sn) (sub:=sub) (ab:=ab) (col:=col) (dd:=dd) (k0:=k0) (k1:=k1) (k2:=k2) (k3:=k3) (k5:=k5)
  k (mN:=mN) (T.hasType k.hasBase) (I.ok.hd M) (by rw [he];show(gh||(backTo d (starEach rest (zv0 E).env)).any (·.1))=gh;rw [L];rfl) g (eh I F O.bound {rfl,?_} hd)
 have m:=G d Q s R H _ I h;rw [he] at m⊢;refine Calls.evalArgs_plain (wpAny_mono m (λZ V i=>?_) λ_ _ y=>y);let(vs,W,c,X,hl,Y):=i;refine{rfl,by rw [<-X.length];exact hl,c.bk _ _ hC,hN.keeps c.bk,T.keeps c.bk,λh1 e p=>Of c p (Y e ?_)}
 cases z:W e with
 |none=>rfl|some o=>
  obtain⟨r,t⟩:∃r,V.heap.get? e=fP r:=by exact mz (c.aQ _ _ z)
  rw [p.new] at t;cases t
end
abbrev mH(a C:hB):HO:=.ext λh=>∃ob b,h.get? a=fP ob/\ob.cls=.ref C/\ob.data=.fields b
section
variable{P:hG}
def GK.fresh{s s':gB}{E:XK}{C t:hB}{vs:List gA}{b:Hp}{B:ig}(F:GK P w outer H s E a C t vs b B s'):b a=gd:=by
 cases z:b a with
 |none=>rfl|some o=>let(d,c):=mz (F.aQ _ _ z);rw [F.C9.2.1] at c;cases c
def Inv.Cn{K:St}{s s':gB}{E:XK}{C t:hB}{vs:List gA}{y:Hp}{B:ig}{tk:Nat}(I:Inv X aa K H s)(F:GK X.prog X.w X.stack H s E a C t vs y B s')
 (hf:ig.FlyingW B X.stack a (.ref C) (.ref t) h) (hs:s'.heap.UpToSlots h):Inv X aa K (upd y a (mH a C)) {s' with heap:=h,toks:=tk}:=by
 have p:=F.fresh;let(L,Q,A,R,M,_):=hf.first;have frame:∀b,b∈fG X.stack->∃o,h.get? b=fP o/\∀vs,o.data≠.fields vs:=λb e=>(hf.2.2.1.mem e).2
 have ne:∀b o,s.heap.get? b=fP o->b≠a:=λb o q z=>by
  subst z;by_cases e:b∈fG X.stack
  .let(j,i,hd):=frame b e;rw [A] at i;cases i;exact hd _ M
  .let(j,i):=F.dm b o q e;rw [F.C9.2.1] at i;cases i
 have slot:∀b o,s.heap.get? b=fP o->H b=gd->b∈fG X.stack->∃S,h.get? b=fP {o with slots:=S}:=λb o q n e=>by let(T,N):=F.un.any q n nofun;let(_,j,O,hd):=F.C9.2.2.1.mem (b:=b) e;rw [N] at O;cases O;let(D,U):=hs b _ N hd;exact⟨D,U⟩
 have un:Un (fG X.stack) [] H (upd y a (mH a C)) s.heap h:=by
  refine{λb o q n e _=>hf.1 _ _ (F.fy b o q n e),λb o q n e _=>slot b o q n e,λb o q n _=>?_,λb o q _=>?_,λb xs q=>?_,λb o u q=>?_,λb V q=>?_}
  .rw [ai (ne b o q)];exact F.un.free b o q n nofun
  .by_cases e:b∈fG X.stack
   .let(j,i,_):=frame b e;exact⟨j,i⟩
   .let(j,f):=F.dm b o q e;exact{j,hf.1 _ _ f}
  .have f:=F.un.hZ b xs q;rw [ai (bO f p)];exact f
  .have f:=F.un.gq b o u q;rw [ai (bO f p)];exact f
  .let(m,f):=F.un.gU b V q;exact{m,by rw [ai (bO f p)];exact f}
 have aQ:fE X.prog X.w (upd y a (mH a C)) h:=λb o q=>by
  by_cases e:b=a
  .subst e;rw [ak] at q;cases q;exact{⟨L,Q,A,R,M⟩,⟨L,A⟩,λh1 h2 ⟨ob,vs,W,Y,Z⟩ k=>{ob,vs,k _ W,Y,Z}}
  .rw [ai e] at q;exact(F.aQ b o q).f7 (λc v hc r=>hf.1 _ _ r) (λc r=>by rw [ai (bO r p)];exact r) λc xs r=>by rw [ai (bO r p)];exact r
 let(hh,g,d,tt,G):=s';obtain rfl:G=s.os:=F.os;have fin:=I.call (h':=h) (g':=g) (d':=d) (t':=tk) (ch:=[]) un aQ F.bare (λb z=>absurd z (by simp));exact fin
end
end L2
namespace Cw
open L2
abbrev sgn(c:Nat):Bool:=c==35||(48<=c&&c<=57)
abbrev aai:V->Bool
 |.str z=>decide (1<=z.cps.toList.length)&&decide (z.cps.toList.length<=12)&&z.cps.toList.all sgn|_=>gh
abbrev Rz:V->Nat
 |.str z=>z.cps.toList.length|_=>0
section
variable{K:zz8}
noncomputable abbrev Gw(K:zz8)(t n:String)(b:Bool):Prop:=PySem.W.kitOne K (.type t) (.type n)=fP b
def D5{K:zz8}(t:String):Gw K t t gf:=by unfold Gw PySem.W.kitOne;rw [if_pos (by simp)]
def D4{t n:String}{b:Bool}(a:(gA.type t==gA.type n)=gh)(c:PySem.W.kitMeta n=gf)(d:(fastBuiltinMro t).map (·.contains (gA.type n))=fP b):Gw K t n b:=by unfold Gw PySem.W.kitOne;rw [if_neg (by rw [a];exact zzf)];show(if PySem.W.kitMeta n=gf then PySem.W.subIn K (.type t) (.type n) else gd)=fP b;rw [if_pos c];exact d
end
noncomputable abbrev Xg:Str:=(zu 35)
end Cw
namespace L2
open PySem.Spec PyProof.Rows
structure nA(K:zz8)(C:hB):Prop where
 ga:PySem.W.findIn K (.ref C) "__getattribute__"=fP (fP (.builtin (zu 5)))
 hk:PySem.W.findIn K (.ref C) "__getattr__"=fP gd
 cl:PySem.W.findIn K (.ref C) "__class__"=fP (fP (.builtin (zu 41)))
 mo:PySem.W.mroIn K C (.type (zu 61))=fP gf
 mb:PySem.W.mroIn K C (.type (zu 7))=fP gf
 is:(PySem.W.clsIn K C).isSome=gf
section
variable{E:jW}{g:Array GenState}{d:Drawn}{t:Nat}{os:OsState}{x C:hB}{K:zz8}
def O3{R:Result->gB->Prop}(X:K.In h)(Z:nA K C)(a:h.get? x=fP o)(b:o.cls=.ref C)(e:R (.ok (.ret (.ref C))) ⟨h,g,d,t,os⟩):
 codeAny (hT prog w) A (.call (.builtin "getset_descriptor.__get__") {[.builtin (zu 41),.ref x,.ref C],[]}) R ⟨h,g,d,t,os⟩:=by
 have hY:(⟨h,g,d,t,os⟩:gB).TypeIs (.builtin (zu 41)) "getset_descriptor":=F.typeOf_object_class;have c:PySem.W.Looks (hT prog w) h (isSubtype (.ref C) (.type (".".intercalate ((zu 41).cutAt '.').dropLast))) gf:=by rw [F.owner_object_class];exact PySem.W.looks_mroIn X Z.mo
 refine codeAny_call_builtin F.slot_gs_get.plain F.entry_gs_get (F.slot_gs_get.check _ _ _ _ _ _ _ _ hY (F.args_gs_get _ _ _) ?_)
 repeat (any_goals (first|assumption|(with_reducible refine wpAny_loadPart_at a ?_;rw [b])|(with_reducible refine c.at ?_)|wp_step))
 refine{Code.quiet_builtin _ (show _ by decide+kernel),codeAny_builtin F.entry_object_class ?_}
 repeat (any_goals (first|assumption|(with_reducible refine wpAny_loadPart_at a ?_;rw [b])|wp_step))
def F8{tk:Tok}{Q:Fin->gB->Prop}(X:K.In h)(Z:nA K C)(a:h.get? x=fP o)(b:o.cls=.ref C)(e:Q (.done (.ret (.ref C))) ⟨h,g,d,t,os⟩):
 hF (hT prog w) A (i1.«object.__getattribute__» {[.ref x,.str "__class__" tk],[]}) Q E ⟨h,g,d,t,os⟩:=by
 have hY:(⟨h,g,d,t,os⟩:gB).TypeIs (.builtin (zu 41)) "getset_descriptor":=F.typeOf_object_class;have f:=F.typeOf_object_class;have i:=F.slot_gs_get.lookup;have j:=F.slot_gs_set.lookup;have c:=PySem.W.looks_findIn (M:=hT prog w) X Z.cl
 repeat (any_goals (first|assumption|(with_reducible refine wpAny_loadPart_at a ?_;rw [b])|(with_reducible refine c.at ?_)|wp_step))
 refine O3 X Z a b ?_
 repeat (any_goals (first|assumption|wp_step))
def F7{M:Model}{a:gA}{Q:Unit->gB->Prop}(X:K.In h)(Z:nA K C)(b:h.get? x=fP o)(c:o.cls=.ref C)(e:Q () ⟨h,g,d,t,os⟩):
 hF M A (checkBuiltinCall (zu 5) {[.ref x,a],[]}) Q E ⟨h,g,d,t,os⟩:=by
 have f:builtinKind (zu 5)=fP .slot:=by decide+kernel
 have i:splitId (zu 5)=fP (zu 7,"__getattribute__"):=by decide+kernel
 have j:=PySem.W.looks_mroIn (M:=M) X Z.mb;have h3:=F.args_bexc_ga (.ref x) a;simp! [checkBuiltinCall,f,i];refine ar ?_;unfold isInstance
 repeat (first|(with_reducible refine wpAny_loadPart_at b ?_;rw [c])|(with_reducible refine j.at ?_)|wp_step)
 exact e
def SX{tk:Tok}{Q:jW}(X:K.In h)(Z:nA K C)(a:h.get? x=fP o)(b:o.cls=.ref C)(i:Q (.ref C) ⟨h,g,d,t,os⟩):
 hF (hT prog w) A (getAttrBy (.ref x) (.str "__class__" tk) gh) Q E ⟨h,g,d,t,os⟩:=by
 have j:=F.excAttr_ValueError.ga.bind (.ref x);have c:(gA.builtin (zu 5)==gA.builtin "object.__getattribute__")=gh:=by decide+kernel
 have k:(onTheHeap (gA.ref C)&&gA.builtin (zu 5)==gA.builtin "object.__getattribute__")=gh:=by rw [c];rfl
 have e:=PySem.W.looks_findIn (M:=hT prog w) X Z.ga;have f:=PySem.W.looks_findIn (M:=hT prog w) X Z.hk
 repeat (any_goals (first|assumption|(with_reducible refine wpAny_loadPart_at a ?_;rw [b])|(with_reducible refine e.at ?_)|(with_reducible refine f.at ?_)|wp_step))
 refine codeAny_call_builtin F.excAttr_ValueError.ga.plain F.entry_bexc_ga (F7 X Z a b (F8 X Z a b ?_))
 repeat (any_goals (first|assumption|wp_step))
def JQ{Q:Option gA->gB->Prop}(X:K.In h)(Z:nA K C)(a:h.get? x=fP o)(b:o.cls=.ref C)(c:Q (fP (.ref C)) {h,g,d,t+1,os}):
 hF (hT prog w) A (getAttr? (.ref x) "__class__") Q E ⟨h,g,d,t,os⟩:=by
 unfold getAttr? getAttrBy?
 repeat (any_goals (first|assumption|with_reducible apply SX X Z a b|wp_step))
end
set_option tactic.hygienic true in
theorem vd{K:zz8}{x C:hB}(Z:nA K C):PySem.W.KitX K (.ref x) (.ref C) (λh=>∃ob,h.get? x=fP ob/\ob.cls=.ref C) where
 ty:=λM h Y p=>by let(ob,b,c):=p;exact c▸(PySem.W.Looks.ld b).andThen .now
 it:=λM h X Y=>by
  let(cd,a):=ej.mp Z.is;unfold PySem.W.clsIn at a;split at a
  .rename_i c1 g d Pz f;intro m o r t k q;unfold isType loadHead;exact ar (wpAny_loadPart (k _ _ (X _ _ f)) (bT q))
  .cases a
 ne:=λh tp i u n y X j=>by
  let(cd,a):=ej.mp Z.is;refine Bool.eq_false_iff.mpr λq=>?_;have e:C=tp:=gA.ref.inj (zzy.mp q);subst e;unfold PySem.W.clsIn at a;split at a
  .rename_i c1 g d Pz f;have z:=(X _ _ f).symm.trans j;cases z
  .cases a
 ca:=λ{prog w A E Q s} X p k=>by let(ob,b,c):=p;let(B,D,i,F,G):=s;exact JQ X Z b c k
section
def Ae:dP X (.builtin (zu 28)) (λxs H Q=>∃(a C D:hB) (b:Bool),xs=[.ref a,.ref D]/\H a=fP (mH a C)/\nA X.K C/\PySem.W.kitOne X.K (.ref C) (.ref D)=fP b/\Q (.bl b) H):=by intro k s m H xs o Q I r h;let(a,C,D,b,rfl,d,Z,e,q):=h;let(u,p,rfl,f,c):=vals2 r;cases f;cases c;let((ob,t,g,i,_),_):=I.aQ _ _ d;exact PySem.W.kia_one (vd Z) I.jY ⟨ob,g,i⟩ e nofun λj=>{.bl b,H,I.tok j,rfl,q}
def Af:dP X (.builtin (zu 28)) (λxs H Q=>∃(a C:hB) (n:String) (b:Bool),xs=[.ref a,.ty n]/\H a=fP (mH a C)/\nA X.K C/\PySem.W.kitOne X.K (.ref C) (.type n)=fP b/\Q (.bl b) H):=by intro k s m H xs o Q I r h;let(a,C,n,b,rfl,d,Z,e,q):=h;let(u,p,rfl,f,c):=vals2 r;cases f;cases c;let((ob,t,g,i,_),_):=I.aQ _ _ d;exact PySem.W.kia_one (vd Z) I.jY ⟨ob,g,i⟩ e nofun λj=>{.bl b,H,I.tok j,rfl,q}
def EN(b:Gl X x)(hm:X.mg x=fP (.ref a))(hd:(x==(zu 33:Str))=gh:=by decide):PE X (.Name x pos) (tC (.ref a)):=zq b hm rfl hd
theorem mU(a:Gl X (zu 2))(hm:X.mg (zu 2)=gd):PE X (.Name (zu 2) pos) (tC (.ty (zu 2))):=zj a hm (u:=.type (zu 2)) (by decide+kernel) rfl
variable{s:gB}
def m7{M:Model}{E:jW}{i:Nat}{Q:Unit->gB->Prop}(I:zv2 s)(hN:X.N.Nodup)(K:X.N[i]?=fP x)(hk:X.env.scope.names.lookup x=fP .local)
 (h:∀s',Inv X aa (σ.set i gd) H s'->Q () s'):hF M A (do bindName X.env x .none;unbindBehindTheSuite X.env x pos) Q E s:=by
 let(m,L,hl):=id I.loc;have P:(X.env.scope.kind==.class||(X.env.scope.kind==.module&&X.env.locals !=X.env.globals))=gh:=by rw [I.ok.kind];rfl
 have t:i<σ.length:=by rw [I.len];exact(cj.mp K).1
 have BP:=I.BP
 have f:∀{a:hB} {B:ig},(∃o,s.heap.get? a=fP o/\H a=gd)->ig.SameBut a s.heap B->fE X.prog X.w H B:=λ{a B} R hs b ob e=>by
  let(_,_,g):=R;refine(I.aQ b ob e).f7 (λc O C q=>(hs.2 c ?_).trans q) (λ_ q=>q) λ_ _ q=>q
  rintro rfl
  rcases C with rfl|C
  .rw [g] at e;cases e
  .rw [g] at C;cases C
 refine wpAny_nameGoes_keeps hk L P λB v0 S hs=>?_;let(T,_,_,U,_):=id L;refine h _ {I.ok,I.os,I.bare,{λb o e n F u=>?_,λb o e n F u=>?_,I.base.free,λb o e u=>?_,I.base.hZ,I.base.gq,I.base.gU},{_,S,λj y V r D W=>?_},λy c e=>?_,I.free,I.fK,λp Y=>?_,f ⟨T,U,I.free⟩ hs,zx6 I.len}
 .exact(hs.2 b (d1 (dA (cP e) I.ok.above))).trans (I.base.keep b o e n F u)
 .let(Z,r):=I.base.slot b o e n F u;exact{Z,(hs.2 b (d1 (dA (cP e) I.ok.above))).trans r}
 .let(o',r):=I.base.there b o e u;exact{o',(hs.2 b (d1 (dA (cP e) I.ok.above))).trans r}
 .by_cases G:j=i
  .subst G;rw [ei t] at D;cases D
  .rw [c6 (Ne.symm G)] at D;let(u',r',q):=hl j y V r D W
   refine{u',r',?_};rcases q with⟨k,e⟩|⟨k,c,e,z⟩
   .refine .inl {k,?_};have:y≠x:=λe=>G (kW hN r (e▸K));simp [this,e]
   .exact .inr {k,c,e,z.sameBut hs (BP y c e)}
 .let(O,z):=I.cell y c e;exact{O,z.sameBut hs (BP y c e)}
 .let(e,n,ne,nf,d):=I.pin p Y;exact{(hs.2 p.1 ne).trans e,n,ne,nf,d}
noncomputable abbrev Cx.with1(X:Cx)(pn:kd)(xe:jW):Cx:={X with pn:=pn,xe:=xe}
noncomputable abbrev Cx.marked(X:Cx)(a:hB)(pn:kd):Cx:={X with A:=X.A.mark (fP (.ref a)),calm:=gh,pn:=pn,xe:=λZ Z=>False}
def EE{pn:kd}{xe:jW}(o:X.Ok):(X.with1 pn xe).Ok:=⟨o.mod,o.kind,o.glob,o.blt,o.above,o.inj,o.has,o.Lh,o.hd,o.frames,o.OL,o.UM,o.bs,o.wH,o.Bc,o.CP,o.hU,o.wU⟩
def Bi{pn:kd}(o:X.Ok):(X.marked a pn).Ok:={o.mod,o.kind,o.glob,o.blt,o.above,o.inj,o.has,o.Lh,nofun,o.frames,o.OL,o.UM,o.bs,o.wH,o.Bc,o.CP,o.hU,o.wU}
def Inv.with1{xe:jW}(I:zv2 s):Inv (X.with1 (X.pn++aa) xe) [] σ H s:={EE I.ok,I.os,I.bare,I.base,I.loc,I.cell,I.free,I.fK,λp a=>I.pin p (by rwa [e6] at a),I.aQ,I.len}
def Inv.lG{xe:jW}(o:X.Ok){a:kd}(I:Inv (X.with1 (X.pn++aa) xe) a σ H s):zv2 s:={o,I.os,I.bare,I.base,I.loc,I.cell,I.free,I.fK,λp b=>I.pin p (d2 _ b),I.aQ,I.len}
def Inv.mark(I:zv2 s):Inv (X.marked a (X.pn++aa)) [] σ H s:={Bi I.ok,I.os,I.bare,I.base,I.loc,I.cell,I.free,I.fK,λp b=>I.pin p (by rwa [e6] at b),I.aQ,I.len}
def Inv.unmark(o:X.Ok){b:kd}(I:Inv (X.marked a (X.pn++aa)) b σ H s):zv2 s:={o,I.os,I.bare,I.base,I.loc,I.cell,I.free,I.fK,λp c=>I.pin p (d2 _ c),I.aQ,I.len}
end
abbrev rN(K:zz8)(N:List Str)(Dc:hB)(i:Nat)(ts:TS)(D:Ends):XK:=λc f g=>∃a C,c=.ref C/\f=fP a/\PySem.W.exmOne K (.ref C) (.ref Dc)=fP gf/\
 ∀e:St,e.length=N.length->ts {nx:=λb d=>D.nx (b.set i gd) d,rt:=λv d=>D.rt v d,bk:=λb d=>D.bk (b.set i gd) d,ct:=λb d=>D.ct (b.set i gd) d} (e.set i (fP (.ref a))) (upd g a (mH a C))
abbrev WQ(K:zz8)(N:List Str)(Dc:hB)(i:Nat)(tb:XK->TS)(ts:TS):TS:=λD a H=>tb (rN K N Dc i ts D) D a H
def N9{body:List ix}{n:Str}{AR:Pos}{j:ix}{U:List ix}{Dc:hB}{i:Nat}{tb:XK->TS}{ts:TS}(hN:X.N.Nodup)(M:X.N[i]?=fP n)(hn:X.env.scope.names.lookup n=fP .local)(P:X.stack=X.env::X.outer)(ML:X.env.frame=fP X.env.locals)
 (hg:Gl X x) (hm:X.mg x=fP (.ref Dc)) (hb:∀(pn:kd) (xe:jW) (V:XK),Passes (dF X.prog X.w) (X.with1 pn xe) V->qg (X.with1 pn xe) body (tb V))
 (hs:∀a pn,qg (X.marked a pn) (j::U) ts) (hd:(x==(zu 33:Str))=gh:=by decide):
 PS X (.Try body [.ExceptHandler (fP (.Name x np)) (fP n) (j::U) AR] [] [] pos) (WQ X.K X.N Dc i tb ts):=by
 intro m s σ H D I h;let xe:jW:=λe Y=>∃b O d,Inv X m b O d/\dF X.prog X.w X.stack O d (rN X.K X.N Dc i ts D) e Y;have hP:Passes (dF X.prog X.w) (X.with1 (X.pn++m) xe) (rN X.K X.N Dc i ts D):=λoP b O d e Y L c=>{b,O,d,L.lG I.ok,c};refine wpAny_Try_except (wpAny_mono (hb (X.pn++m) xe _ hP [] s σ H D I.with1 h) (λf d g=>?_) λe d Q=>?_)
 .cases f with
  |next=>let(b,k,o,q):=g;exact sR m d b k D (o.lG I.ok) q|brk=>let(b,k,o,q):=g;exact{b,k,o.lG I.ok,q}|cont=>let(b,k,o,q):=g;exact{b,k,o.lG I.ok,q}|ret u=>let(v,b,k,o,r,q):=g;exact{v,b,k,o.lG I.ok,r,q}
 .let(b,O,s2,L,a,C,t,vs,k,B,rfl,F):=Q;have Z:=F.C9;rw [P] at Z;refine wpAny_looks_onW (by rw [<-P];exact L.ok.frames) ML Z λh4 QX YA=>?_;refine wpAny_landsW QX λh5 Kk YB=>?_;have R:=Kk;rw [<-P] at R;have I5:=L.Cn (tk:=d.toks) F R (YA.trans YB);let(oa,va,ea,ca,da,_):=R.first;let(a',C',e1,e2,Q,hq):=F.ends;cases e1;cases e2;refine wpAny_handleBy_cons (codeAny_handlers_test (eh (X:=X.marked a (X.pn++m)) I5.mark hg hm ?_ hd)) (by intro q;cases q);have LT:PySem.W.Looks (hT X.prog X.w) h5 (typeOf (.ref a)) (.ref C):=by rw [<-ca];exact(PySem.W.Looks.ld ea).andThen .now
  refine PySem.W.exm_one (K:=X.K) I5.jY LT Q _ _ _ _ (λ_ _ e=>e) ?_;refine codeAny_handlers_suite_as ?_;refine lands_againW Kk λh6 XJ S=>?_;rw [<-P] at XJ;have I6:=L.Cn (tk:=d.toks) F XJ ((YA.trans YB).trans S);refine iN (X:=X.marked a (X.pn++m)) (i:=i) (v:=.ref a) I6.mark hN M (.inl hn) rfl (λs7 I7=>?_) (.inr hn);refine wpAny_mono (hs a (X.pn++m) [] s7 _ _ _ I7 (hq b L.len)) (λf s8 g=>?_) λ_ _ z=>z.elim
  cases f with
  |next=>let(p,y,A,E):=g;exact m7 (A.unmark I.ok) hN M hn λT G=>{_,y,G,E}|brk=>let(p,y,A,E):=g;exact m7 (A.unmark I.ok) hN M hn λT G=>{_,y,G,E}|cont=>let(p,y,A,E):=g;exact m7 (A.unmark I.ok) hN M hn λT G=>{_,y,G,E}|ret u=>let(v,p,y,A,r8,E):=g;exact m7 (A.unmark I.ok) hN M hn λT G=>{v,_,y,G,r8,E}
open PySem.AutoSeq1 (wpAny_loadPart')
end L2
namespace Cw
open L2
theorem oO(xs:List Nat)(k:Nat):∀n,(List.range n).filterMap (λm=>xs[k+m]?)=(xs.drop k).take n
 |0=>by simp|n+1=>by rw [List.range_succ,List.filterMap_append,oO xs k n,List.take_add_one,List.getElem?_drop];cases h:xs[k+n]?<;>simp [h]
def MU(k n:Nat)(h:k<=n):i1.Str.strSliceIndices (fP (k:Int)) gd 1 n=(List.range (n-k)).map λm=>k+m:=by
 unfold i1.Str.strSliceIndices sliceRange;simp! [show(1:Int)>0 by decide,if_true];have a:¬((k:Int)<0):=by lia
 rw [if_neg a];have b:max 0 (min (k:Int) (n:Int))=k:=by lia
 rw [b];have c:(if(k:Int)<(n:Int) then((n:Int)-k+1-1)/1 else 0).toNat=n-k:=by
  split
  .rw [Int.ediv_one];lia
  .lia
 rw [c];apply List.map_congr_left;intro m _;lia
def MV(k n:Nat)(h:k<=n):i1.Str.strSliceIndices gd (fP (k:Int)) 1 n=(List.range k).map λm=>0+m:=by
 unfold i1.Str.strSliceIndices sliceRange;simp! [show(1:Int)>0 by decide,if_true];have a:¬((k:Int)<0):=by lia
 rw [if_neg a];have b:max 0 (min (k:Int) (n:Int))=k:=by lia
 rw [b];have c:(if(0:Int)<(k:Int) then((k:Int)-0+1-1)/1 else 0).toNat=k:=by
  split
  .rw [Int.ediv_one];lia
  .lia
 rw [c];apply List.map_congr_left;intro m _;lia
def Fs(x:Str)(k:Nat)(h:k<=x.length):(PySem.Txt.slice x (fP (k:Int)) gd).cps.toList=x.cps.toList.drop k:=by
 have hl:x.cps.toList.length=x.length:=by simp [Str.length]
 unfold PySem.Txt.slice;rw [MU k _ h];split
 .rename_i a;simp at a;have:k=0:=by lia
  subst this;simp
 .show((List.range (x.length-k)).map (λm=>k+m)).filterMap (x.cps[·]?)=_;rw [List.filterMap_map];have:((x.cps[·]?)∘λm=>k+m)=λm=>x.cps.toList[k+m]?:=by funext m;simp
  rw [this,oO,List.take_of_length_le (by rw [List.length_drop,hl];exact a8 _)]
def Ft(x:Str)(k:Nat)(h:k<=x.length):(PySem.Txt.slice x gd (fP (k:Int))).cps.toList=x.cps.toList.take k:=by
 have hl:x.cps.toList.length=x.length:=by simp [Str.length]
 unfold PySem.Txt.slice;rw [MV k _ h];split
 .rename_i a;simp at a;rw [a,<-hl,List.take_length]
 .show((List.range k).map (λm=>0+m)).filterMap (x.cps[·]?)=_;rw [List.filterMap_map];have:((x.cps[·]?)∘λm=>0+m)=λm=>x.cps.toList[0+m]?:=by funext m;simp
  rw [this,oO,List.drop_zero]
end Cw
namespace L2
open PySem.Spec PyProof.Rows
end L2
namespace Cw
open L2
end Cw
namespace L2
open PySem.Spec PyProof.Rows
def Bk{a b:Type}{R:a->b->Prop}{xs:List a}{ys:List b}(r:Paired R xs ys):∀{i:Nat} {x:a},xs[i]?=fP x->∃y,ys[i]?=fP y/\R x y:=by
 induction r with
 |nil=>intro i x h;simp at h|cons r t c=>
  intro i x h;cases i with
  |zero=>simp at h;subst h;exact{_,rfl,r}|succ i=>simp at h;simpa using c h
def xA{a b:Type}{R:a->b->Prop}{xs:List a}{ys:List b}(r:Paired R xs ys):xs.length=ys.length:=by
 induction r with
 |nil=>rfl|cons _ _ c=>simp [c]
def F0{a:List gA}(r:Vals vs a)(h:j<a.toArray.size):∃v,vs[j]?=fP v/\RelV v a.toArray[j]:=by
 have hl:=r.length;rw [a5] at h;have b:j<vs.length:=by lia
 let(u,c,d):=r.get (i:=j) (x:=vs[j]) (zzg b);rw [zzg h] at c;cases c;exact{_,zzg b,zx6 d}
noncomputable abbrev dj:HO:=.ext λZ=>True
def nC{P:hG}(e:h.get? a=fP o):cb P w H h a (.b9 o dj):={e,trivial,⟨o,e⟩,λZ Z Z Z=>trivial}
abbrev aR(Z:kd)(H:Hp):Hp:=λb=>match Z.lookup b with
 |some o=>fP (.b9 o dj)|none=>H b
abbrev cI(Z:kd)(H:Hp):Hp:=λb=>match Z.lookup b with
 |some _=>gd|none=>H b
section
variable{Z:kd}{H':Hp}{b:hB}
def bA(e:Z.lookup b=fP o):aR Z H b=fP (.b9 o dj):=by unfold aR;rw [e]
def av(e:Z.lookup b=gd):aR Z H b=H b:=by unfold aR;rw [e]
def iG(e:Z.lookup b=fP o):cI Z H b=gd:=by unfold cI;rw [e]
def aH(e:Z.lookup b=gd):cI Z H b=H b:=by unfold cI;rw [e]
def j3{u:HO}(e:cI Z H b=fP u):Z.lookup b=gd/\H b=fP u:=by
 cases q:Z.lookup b with
 |none=>rw [aH q] at e;exact⟨rfl,e⟩|some o=>rw [iG q] at e;cases e
def j2(h:H b=gd):cI Z H b=gd:=by
 cases q:Z.lookup b with
 |none=>rw [aH q];exact h|some o=>exact iG q
structure z7(Z:kd)(H:Hp)(fs:List hB)(h:ig):Prop where
 at_:∀b o,Z.lookup b=fP o->h.get? b=fP o
 no:∀b o,Z.lookup b=fP o->H b=gd
 fr:∀b o,Z.lookup b=fP o->b∉fs
variable{P:hG}{fs:List hB}
theorem z7.aQ(z:z7 Z H fs h)(k:fE P w H h):fE P w (aR Z H) h:=λb u e=>by
 cases q:Z.lookup b with
 |some o=>rw [bA q] at e;cases e;exact nC (z.at_ b o q)
 |none=>
  rw [av q] at e;have a:∀c v,H c=fP v->Z.lookup c=gd:=λc v d=>by
   cases y:Z.lookup c with
   |none=>rfl|some o=>rw [z.no c o y] at d;cases d
  exact(k b u e).f7 (λc v Y r=>r) (λc r=>by rw [av (a c _ r)];exact r) λc xs r=>by rw [av (a c _ r)];exact r
def z7.JN(z:z7 Z H fs h)(u:Un fs [] (aR Z H) H' h h')(k:fE P w H' h'):Un fs [] H (cI Z H') h h'/\fE P w (cI Z H') h':=by
 have i:∀b o,Z.lookup b=fP o->H' b=fP (.b9 o dj):=λb o q=>u.gq b o _ (bA q);have p:∀b o,Z.lookup b=fP o->h'.get? b=fP o:=λb o q=>(k b _ (i b o q)).1
 have d:∀c v,H c=fP v->Z.lookup c=gd:=λc v j=>by
  cases y:Z.lookup c with
  |none=>rfl|some o=>rw [z.no c o y] at j;cases j
 refine{{λb o e n f a=>?_,λb o e n f a=>?_,λb o e n a=>?_,λb o e a=>u.there b o e a,λb xs e=>?_,λb o v e=>?_,λb s e=>?_},λb v e=>?_}
 .cases q:Z.lookup b with
  |some g=>have m:=z.at_ b g q;rw [e] at m;cases m;exact p b o q
  |none=>exact u.keep b o e (by rw [av q];exact n) f a
 .cases q:Z.lookup b with
  |some g=>exact absurd f (z.fr b g q)|none=>exact u.slot b o e (by rw [av q];exact n) f a
 .cases q:Z.lookup b with
  |some g=>exact iG q|none=>rw [aH q];exact u.free b o e (by rw [av q];exact n) a
 .rw [aH (d b _ e)];exact u.hZ b xs (by rw [av (d b _ e)];exact e)
 .rw [aH (d b _ e)];exact u.gq b o v (by rw [av (d b _ e)];exact e)
 .rw [aH (d b _ e)];exact u.gU b s (by rw [av (d b _ e)];exact e)
 .let(q,t):=j3 e;refine(k b v t).f7 (λc y Y r=>r) (λc r=>?_) λc xs r=>?_
  .cases y:Z.lookup c with
   |none=>rw [aH y];exact r|some o=>rw [i c o y] at r;cases r
  .cases y:Z.lookup c with
   |none=>rw [aH y];exact r|some o=>rw [i c o y] at r;cases r
def z7.zP(z:z7 Z H fs h)(u:Un fs [] H H' h h')(k:fE P w H' h'):Un fs [] (aR Z H) (aR Z H') h h'/\fE P w (aR Z H') h':=by
 have j:∀b o,Z.lookup b=fP o->h'.get? b=fP o:=λb o q=>u.keep b o (z.at_ b o q) (z.no b o q) (z.fr b o q) nofun;have m:∀b o,Z.lookup b=fP o->H' b=gd:=λb o q=>u.free b o (z.at_ b o q) (z.no b o q) nofun
 have g:∀c v,H' c=fP v->Z.lookup c=gd:=λc v i=>by
  cases y:Z.lookup c with
  |none=>rfl|some o=>rw [m c o y] at i;cases i
 have d:∀b,aR Z H b=gd->Z.lookup b=gd/\H b=gd:=λb e=>by
  cases q:Z.lookup b with
  |some o=>rw [bA q] at e;cases e
  |none=>rw [av q] at e;exact⟨rfl,e⟩
 refine{{λb o e n f a=>u.keep b o e (d b n).2 f a,λb o e n f a=>u.slot b o e (d b n).2 f a,λb o e n a=>?_,λb o e a=>u.there b o e a,λb xs e=>?_,λb o v e=>?_,λb p e=>?_},λb v e=>?_}
 .rw [av (d b n).1];exact u.free b o e (d b n).2 a
 .cases q:Z.lookup b with
  |some o=>rw [bA q] at e;cases e
  |none=>rw [av q] at e⊢;exact u.hZ b xs e
 .cases q:Z.lookup b with
  |some s=>rw [bA q] at e⊢;exact e|none=>rw [av q] at e⊢;exact u.gq b o v e
 .cases q:Z.lookup b with
  |some o=>rw [bA q] at e;cases e
  |none=>rw [av q] at e⊢;exact u.gU b p e
 .cases q:Z.lookup b with
  |some o=>rw [bA q] at e;cases e;exact nC (j b o q)
  |none=>rw [av q] at e;exact(k b v e).f7 (λc y Y r=>r) (λc r=>by rw [av (g c _ r)];exact r) λc xs r=>by rw [av (g c _ r)];exact r
variable{K:zz8}{s s':gB}
theorem jl.aR(e:jl P w K mg base A outer s H)(z:z7 Z H (fG outer) s.heap)(d:∀b o,Z.lookup b=fP o->base.get? b=gd):jl P w K mg base A outer s (aR Z H) where
 frames:=e.frames
 mod:=e.mod
 bs:=λb o q=>{(e.bs b o q).1,by
  cases y:Z.lookup b with
  |some a=>rw [d b a y] at q;cases q
  |none=>rw [av y];exact(e.bs b o q).2}
 wH:=e.wH
 hU:=e.hU
 wU:=λb c=>by
  cases y:Z.lookup b with
  |some a=>exact absurd c (z.fr b a y)|none=>rw [av y];exact e.wU b c
 aQ:=z.aQ e.aQ
 bare:=e.bare
def CE.less(z:z7 Z H (fG outer) s.heap)(h:CE outer P w (aR Z H) s (λv H'=>Q v (cI Z H')) u s'):CE outer P w H s Q u s':=by let(v,H',os,bare,un,aQ,r,q):=h;let(a,c):=z.JN un aQ;exact{v,_,os,bare,a,c,r,q}
def CE.more(z:z7 Z H (fG outer) s.heap)(h:CE outer P w H s (λv H'=>(∀b o,Z.lookup b=fP o->H' b=gd)->Q v (aR Z H')) u s'):CE outer P w (aR Z H) s Q u s':=by let(v,H',os,bare,un,aQ,r,q):=h;let(a,c):=z.zP un aQ;exact{v,_,os,bare,a,c,r,q λb o y=>un.free b o (z.at_ b o y) (z.no b o y) nofun}
def dF.more{E:XK}{e:gA}(z:z7 Z H (fG outer) s.heap)(h:dF P w outer H s (λC a H'=>(∀b o,Z.lookup b=fP o->H' b=gd)->E C a (aR Z H')) e s'):dF P w outer (aR Z H) s E e s':=by
 let(a,C,t,i,H',B,rfl,F):=h;have j:∀b o,Z.lookup b=fP o->B.get? b=fP o:=λb o q=>F.fy b o (z.at_ b o q) (z.no b o q) (z.fr b o q);have d:∀b o,Z.lookup b=fP o->H' b=gd:=λb o q=>F.un.free b o (z.at_ b o q) (z.no b o q) nofun
 have f:∀c v,H' c=fP v->Z.lookup c=gd:=λc v g=>by
  cases y:Z.lookup c with
  |none=>rfl|some o=>rw [d c o y] at g;cases g
 have k:fE P w (aR Z H') B:=λb v e=>by
  cases q:Z.lookup b with
  |some o=>rw [bA q] at e;cases e;exact nC (j b o q)
  |none=>rw [av q] at e;exact(F.aQ b v e).f7 (λc y Y r=>r) (λc r=>by rw [av (f c _ r)];exact r) λc xs r=>by rw [av (f c _ r)];exact r
 have hs:fE P w H' s'.heap:=λb v e=>(F.aQ b v e).f7 (λc y Y r=>F.C9.1 _ _ r) (λY r=>r) λY Y r=>r;let(m,_):=z.zP (P:=P) (w:=w) F.un hs;refine{a,C,t,i,_,B,rfl,{F.os,F.bare,k,F.C9,F.tn,F.tup,λb o e n p=>F.fy b o e ?_ p,F.dm,m,F.ends d}}
 cases q:Z.lookup b with
 |some o=>rw [bA q] at n;cases n
 |none=>rw [av q] at n;exact n
end
structure ug(ps ys:List Str)(scope:ia):Prop where
 kind:scope.kind=.function
 co:scope.isCoroutine=gh
 gen:scope.isGenerator=gh
 nd:(ps++ys).Nodup
 Et:∀x∈scope.names,x.2≠.cell
 par:∀x∈ps,scope.names.lookup x=fP .local
 Zo:∀y∈ys,scope.names.lookup y=fP .free
 Lp:∀x,scope.names.lookup x=fP .free->x∈ys
noncomputable def Pb(P:hG)(w:hI)(K:zz8)(mg:Str->Option gA)(base:ig)(N:List Str)(qual:Str)(a:ia)(f:hB)(cd:gA)(cl:List (Str×hB))(A:h9)(outer:List Env)(s:gB)(H:Hp)(E:XK):Cx where
 prog:=P
 w:=w
 K:=K
 mg:=mg
 base:=base
 A:=A.deeper (PySem.W.envX qual a (zz9 s) f cd cl)
 N:=N
 s₀:=s
 H₀:=H
 env:=PySem.W.envX qual a (zz9 s) f cd cl
 outer:=outer
 stack:=PySem.W.envX qual a (zz9 s) f cd cl::outer
 ex:=[]
 calm:=A.handled.isNone
 fn:=λZ=>gh
 pn:=[]
 xe:=λe c=>hF (hT P w) (A.deeper (PySem.W.envX qual a (zz9 s) f cd cl)) (leaving (PySem.W.envX qual a (zz9 s) f cd cl) e) (λZ b=>dF P w outer H s E e b) (λd b=>dF P w outer H s E d b) c
theorem qM{a:Type}:∀{l:List (Str×a)} {x:Str} {v:a},(l.map (·.1)).Nodup->(x,v)∈l->l.lookup x=fP v
 |(y,u)::r,x,v,nd,h=>by
  rw [bc,List.nodup_cons] at nd;rw [eH];rcases ef.mp h with e|e
  .cases e;simp
  .have b:(x==y)=gh:=beq_eq_false_iff_ne.mpr λz=>nd.1 (by subst z;exact List.mem_map_of_mem (f:=(·.1)) e);rw [b];exact qM nd.2 e
def pE{ps:List Str}{i:Nat}(nd:ps.Nodup)(a:ps[i]?=fP x)(b:us[i]?=fP u):(ps.zip us).reverse.lookup x=fP u:=by
 have hs:∀{ps:List Str} {us:List gA},List.Sublist ((ps.zip us).map (·.1)) ps:=λ{ps us}=>by
  induction ps generalizing us with
  |nil=>simp|cons p ps c=>
   cases us with
   |nil=>simp|cons q us=>simpa using c
 refine qM ?_ ?_
 .rw [List.map_reverse];exact List.pairwise_reverse.mpr ((nd.sublist hs).imp λh=>Ne.symm h)
 .rw [List.mem_reverse];refine a7 (i:=i) ?_;rw [List.getElem?_zip_eq_some];exact⟨a,b⟩
section
variable{P:hG}{K:zz8}{ps ys:List Str}{scope:ia}{f:hB}{cd:gA}{s:gB}{E:XK}
def w8{ws:List V}{tk:Nat}(S:ug ps ys scope)(g:jl P w K mg base A outer s H)(C:∀y∈ys,∃c,cl.lookup y=fP c)(inj:∀x y c,cl.lookup x=fP c->cl.lookup y=fP c->x=y)
 (r:Vals vs us) (hl:vs.length=ps.length) (I:ws.length=ys.length) (cells:∀(i:Nat) y c,ys[i]?=fP y->cl.lookup y=fP c->∀v,ws[i]?=fP v->∃u,RelV v u/\s.heap.IsCell c (fP u)) (L:∀x c,cl.lookup x=fP c->∃v,s.heap.IsCell c v)
 (M:∀x c,cl.lookup x=fP c->H c=gd) (ns:h'.Ns (zz9 s) (λx=>(ps.zip us).reverse.lookup x)) (hk:∀b o,s.heap.get? b=fP o->h'.get? b=fP o):
 Inv (Pb P w K mg base (ps++ys) qual scope f cd cl A outer s H E) [] (vs.map fP++ws.map fP) H {s with heap:=h',toks:=tk}:=by
 have q:∀b:hB,b∉(Pb P w K mg base (ps++ys) qual scope f cd cl A outer s H E).ex:=λb z=>absurd (show b∈([]:List hB) from z) (by simp);have D:∀c v,s.heap.IsCell c v->h'.IsCell c v:=λc v ⟨o,N,hd⟩=>{o,hk c o N,hd}
 refine{{g.mod,S.kind,rfl,rfl,a8 _,inj,λx k=>?_,(λx c z=>nomatch z),λz=>Option.isNone_iff_eq_none.mp z,h9.frames_deeper g.frames,.inr ⟨rfl,rfl⟩,λb z=>absurd z (q b),g.bs,g.wH,λb Z Z=>q b,λb z=>absurd z (q b),g.hU,g.wU},
  rfl,g.bare,Un.kept hk,{_,ns,λi x v j d h3=>?_},λx c h=>let⟨v,z⟩:=L x c h;{v,D c v z},g.aQ.fresh (a8 _),M,λp m=>absurd (show p∈([]:kd) from m) (by simp),g.aQ.kept hk,?_}
 .have k:scope.names.lookup x=fP .cell\/scope.names.lookup x=fP .free:=k
  rcases k with k|k
  .exact absurd rfl (S.Et _ (PySem.mem_of_lookup k))
  .exact C x (S.Lp x k)
 .have j:(ps++ys)[i]?=fP x:=j;by_cases F:i<vs.length
  .rw [ek (zx6 F),c4] at d;have t:vs[i]?=fP v:=by
    cases e:vs[i]? with
    |none=>rw [e] at d;cases d
    |some a=>rw [e] at d;cases d;rfl
   let(u,O,B):=r.get t;have m:ps[i]?=fP x:=by rw [ek (by lia)] at j;exact j
   exact{u,B,.inl {S.par x (a7 m),pE (S.nd.sublist (List.sublist_append_left _ _)) m O}}
  .rw [el (zx6 F),c4,zzl] at d;rw [el (by lia)] at j;have t:ws[i-vs.length]?=fP v:=by
    cases e:ws[i-vs.length]? with
    |none=>rw [e] at d;cases d
    |some a=>rw [e] at d;cases d;rfl
   rw [<-hl] at j;let(c,G):=C x (a7 j);let(u,B,z):=cells _ x c j G v t;exact{u,B,.inr {.inr (S.Zo x (a7 j)),c,G,D c _ z}}
 .show _=(ps++ys).length;rw [cD,cD,zzl,zzl,hl,I]
def RX:Passes (dF P w) (Pb P w K mg base N qual scope f cd cl A outer s H E) E:=by
 rintro Q σ H1 s1 e R I ⟨a,C,t,r,y,B,rfl,F⟩
 have nx:∀b:hB,b∉(Pb P w K mg base N qual scope f cd cl A outer s H E).ex:=λb z=>nomatch (show b∈([]:List hB) from z);have fy:∀b o,s.heap.get? b=fP o->H b=gd->b∉fG outer->B.get? b=fP o:=λb o q n c=>F.fy b o (I.base.keep b o q n c (nx b)) (I.base.free b o q n (nx b)) (cX I rfl q c);have dm:∀b o,s.heap.get? b=fP o->b∉fG outer->∃g,B.get? b=fP g:=λb o q c=>by let(o1,d):=I.base.there b o q (nx b);exact F.dm b o1 d (cX I rfl q c)
 refine wpAny_leaves_onW I.ok.frames rfl F.C9 λD j m=>{a,C,t,r,y,B,rfl,?_};have slot:∀b o,s.heap.get? b=fP o->H b=gd->b∈fG outer->∃h,D.get? b=fP {o with slots:=h}:=λb o q n c=>by let(h,d):=I.base.slot b o q n c (nx b);let(G,i):=F.un.any d (I.base.free b o q n (nx b)) nofun;let(_,g,p,hd):=F.C9.2.2.1.mem (b:=b) (ey.mpr (let⟨v,L,M⟩:=ey.mp c;{v,.tail _ L,M}));rw [i] at p;cases p;let(k,O):=m b _ i hd;exact⟨k,O⟩
 refine{F.os.trans I.os,F.bare,F.aQ,j,F.tn,F.tup.of_slots m,fy,dm,{λb o q n c Z=>j.1 _ _ (fy b o q n c),λb o q n c Z=>slot b o q n c,λb o q n Z=>?_,λb o q Z=>?_,λb xs q=>F.un.hZ _ _ (I.base.hZ _ _ q),λb o u q=>F.un.gq _ _ _ (I.base.gq _ _ _ q),λb ps q=>?_},F.ends}
 .let(h,d):=I.base.any q n (nx b);exact F.un.free b _ d (I.base.free b o q n (nx b)) nofun
 .by_cases c:b∈fG outer
  .let(h,d):=slot b o q (I.ok.wU b c) c;exact{_,d}
  .let(g,d):=dm b o q c;exact{g,j.1 _ _ d}
 .let(m1,d):=I.base.gU b ps q;let(m2,i):=F.un.gU b _ d;exact{m1++m2,by rw [<-Array.append_assoc];exact i}
def Ij{k:Nat}{d:Arguments}{M N:gA}{m:hB}{oc:Obj}{B:Array gA}{ct:Tok}{ws:List V}{Z:kd}{t:TE}
 (S:ug ps ys scope) (T:dB k A) (D:jl P w K mg base A outer s H) (z:z7 Z H (fG outer) s.heap) (zb:∀b o,Z.lookup b=fP o->base.get? b=gd)
 (U:s.heap.get? f=fP (PySem.W.kla_obj (zu 22) qual d body scope cl M m N)) (X:s.heap.get? m=fP oc) (Y:oc.data=.fields B) (HN:B[1]?=fP (.str qual ct))
 (hb:bindArgs (PySem.W.kla_fn (zu 22) qual d body scope cl M (.ref m) N) {us,[]}=pure (ps.zip us)) (r:Vals vs us) (hl:vs.length=ps.length) (hw:ws.length=ys.length)
 (Tv:∀y∈ys,∃c,cl.lookup y=fP c) (inj:∀x y c,cl.lookup x=fP c->cl.lookup y=fP c->x=y)
 (O:∀x c,cl.lookup x=fP c->∃o v,Z.lookup c=fP o/\o.data=.cell v)
 (cells:∀(i:Nat) y c,ys[i]?=fP y->cl.lookup y=fP c->∀v,ws[i]?=fP v->∃u,RelV v u/\s.heap.IsCell c (fP u))
 (ht:PE (Pb P w K mg base (ps++ys) qual scope f (.ref m) cl A outer s H (λC a j=>(∀b o,Z.lookup b=fP o->j b=gd)->E C a (aR Z j))) body t)
 (hq:t (vs.map fP++ws.map fP) H λv j=>(∀b o,Z.lookup b=fP o->j b=gd)->Q v (aR Z j)):
 codeAny (hT P w) A (.call (.ref f) {us,[]}) (CR (dF P w) outer P w (aR Z H) s Q E) s:=by
 have F:s.heap.NoLimit:=D.mod.nolimit.keeps λb o e=>(D.bs b o e).1;refine PySem.W.kla_callFunE T.depth U rfl S.co S.gen rfl ⟨m,oc,B,ct,rfl,X,Y,HN⟩ ?_;rw [hb];refine bT (wpAny_newFunctionEnv S.Et (λy hy=>S.par y.1 (List.of_mem_zip hy).1) (λp Tt G=>?_) S.kind);have g:∀b o,s.heap.get? b=fP o->p.get? b=fP o:=λb o e=>G.extBut b o (d1 (cP e)) (aT _ e)
 refine{F.keeps g,?_};show codeAny _ _ (.expr body (PySem.W.envX qual scope (zz9 s) f (.ref m) cl)) _ _;have I:=w8 (E:=λC a j=>(∀b o,Z.lookup b=fP o->j b=gd)->E C a (aR Z j)) (cd:=.ref m) (f:=f) (qual:=qual) (tk:=s.toks+(ps.zip us).length) S D Tv inj r hl hw cells (λx c h=>by
  let(o,v,L,R):=O x c h;exact{v,o,z.at_ c o L,R}) (λx c h=>by
  let(o,v,L,R):=O x c h;exact z.no c o L) Tt g
 refine PySem.W.kla_codeExpr (wpAny_mono (ht [] _ _ H _ I hq) (λu s' hs=>?_) λe s' hs=>?_)
 .let(v,j,J,rv,q):=hs;exact CE.more z ⟨v,j,J.os,J.bare,J.base,J.aQ,rv,q⟩
 .exact wpAny_mono hs (λ_ Jm y=>dF.more z y) λe' Jm y=>dF.more z y
end
def wx{p:Pos}{a b:Int}{c d:gA}:∀(l:List gA),TriplesOk l->codeAmong p (l++[rawInt a,rawInt b,c])=fP d->codeAmong p l=fP d\/d=c:=by
 intro l h e
 fun_induction TriplesOk l with
 |case1=>
  simp! [List.nil_append,codeAmong,rawInt] at e;split at e
  .cases e;exact .inr rfl
  .cases e
 |case2 i t j u x rest g=>
  simp! [List.cons_append,codeAmong] at e⊢;split at e
  .rename_i f;rw [if_pos f];exact .inl e
  .rename_i f;rw [if_neg f];exact g h e
 |case3 l k m=>exact h.elim
def B0(mg:Str->Option gA)(base:ig):Prop:=∃bm o,mg "__builtins__"=fP (.ref bm)/\bm≠builtinsNs/\bm≠iR/\base.get? bm=fP o/\o.cls=.type "module"/\o.dict=fP builtinsNs/\o.data=.plain
abbrev iF(H:Hp)(P:hB)(a:Array gA)(b:hB)(oc:Obj)(f:hB)(fo:Obj):Hp:=upd (upd (upd H P (.gI a)) b (.b9 oc dj)) f (.b9 fo dj)
section
variable{s:gB}{c P c' f:hB}{ps t9:Array gA}{oc fo:Obj}
def Inv.lam{tk:Nat}(I:zv2 s)(g:H P=fP (.gI ps))(i:∀b o,b≠P->s.heap.get? b=fP o->h'.get? b=fP o)(k:h'.get? P=fP (PySem.W.tabObj t9))(more:∃m,t9=ps++m)
 (h:H c'=gd/\(zz9 s)<=c'\/H c'=fP (.b9 oc dj)) (B:h'.get? c'=fP oc) (p:(zz9 s)<=f) (C:h'.get? f=fP fo) (K:c'≠f):
 Inv X aa σ (iF H P t9 c' oc f fo) {s with heap:=h',toks:=tk}:=by
 have fr:H f=gd:=I.aQ.fresh p;have r:∀b u,H b=fP u->(∀q,u≠.gI q)->b≠P:=λb u e n z=>by subst z;rw [g] at e;cases e;exact n _ rfl
 have t:∀b u,H b=fP u->b≠f:=λb u e z=>by subst z;rw [fr] at e;cases e
 have D:c'≠P:=λz=>by
  subst z;rcases h with⟨e,_⟩|e
  .rw [g] at e;cases e
  .rw [g] at e;cases e
 have E:f≠P:=λz=>by subst z;rw [g] at fr;cases fr
 have at_:∀b u,H b=fP u->(∀q,u≠.gI q)->iF H P t9 c' oc f fo b=fP u:=λb u e n=>by
  unfold iF;rw [ai (t b u e)];by_cases a:b=c'
  .subst a;rw [ak];rcases h with⟨z,_⟩|z
   .rw [z] at e;cases e
   .rw [z] at e;exact e
  .rw [ai a,ai (r b u e n)];exact e
 have no:∀b o,s.heap.get? b=fP o->H b=gd->iF H P t9 c' oc f fo b=gd:=λb o e n=>by
  have F:b≠f:=λz=>absurd (cP e) (by rw [z];exact Nat.not_lt.mpr p);have G:b≠P:=λz=>by subst z;rw [g] at n;cases n
  have j:b≠c':=λz=>by
   rcases h with⟨_,y⟩|y
   .exact absurd (cP e) (by rw [z];exact Nat.not_lt.mpr y)
   .rw [z,y] at n;cases n
  unfold iF;rw [ai F,ai j,ai G];exact n
 have kp:∀b o,s.heap.get? b=fP o->H b=gd->h'.get? b=fP o:=λb o e n=>i b o (λz=>by subst z;rw [g] at n;cases n) e;refine I.un {λb o e n Z Z=>kp b o e n,λb o e n Z Z=>{o.slots,kp b o e n},λb o e n Z=>no b o e n,λb o e Z=>?_,λb xs e=>at_ b _ e (λZ z=>nomatch z),λb o u e=>at_ b _ e (λZ z=>nomatch z),λb qs e=>?_} λb u e=>?_
 .by_cases a:b=P
  .exact{_,by rw [a];exact k}
  .exact{o,i b o a e}
 .by_cases a:b=P
  .subst a;rw [g] at e;cases e;let(m,rfl):=more;exact{m,by unfold iF;rw [ai (Ne.symm E),ai (Ne.symm D),ak]}
  .have j:b≠c':=λz=>by
    subst z;rcases h with⟨y,_⟩|y
    .rw [y] at e;cases e
    .rw [y] at e;cases e
   exact{#[],by unfold iF;rw [ai (t b _ e),ai j,ai a,e];simp}
 .unfold iF at e;by_cases w:b=f
  .subst w;rw [ak] at e;cases e;exact nC C
  .rw [ai w] at e;by_cases A:b=c'
   .subst A;rw [ak] at e;cases e;exact nC B
   .rw [ai A] at e;by_cases h3:b=P
    .subst h3;rw [ak] at e;cases e;exact k
    .rw [ai h3] at e;refine(I.aQ b u e).f7 (λd v hd q=>i d v ?_ q) (λd q=>at_ d _ q (λZ z=>nomatch z)) λd xs q=>at_ d _ q (λZ z=>nomatch z)
     rcases hd with hd|hd
     .rw [hd];exact h3
     .exact r d _ hd (λZ z=>nomatch z)
def D7{R:hB->Obj->Prop}{a:Arguments}{d:ia}{Q:jW}{E:jW}(I:zv2 s)(j:H P=fP (.gI ps))(y:TriplesOk ps.toList)(N:X.env.code=.ref c)(C:PySem.W.CodeHd X.base c P)
 (ZJ:B0 X.mg X.base) (O:closureFor d X.env=pure cl) (MH:defaultsOf a X.env=([],[]))
 (hit:∀i,codeAmong pos ps.toList=fP i->∃c' oc r t,i=.ref c'/\H c'=fP (.b9 oc dj)/\R c' oc/\oc.data=.fields r/\r[1]?=fP (.str (X.env.qual++(zu 22)) t))
 (h:∀(f c':hB) (oc:Obj) (r:Array gA) (t:Tok) (B:gA) (t9:Array gA) (h':ig) (tk:Nat),H f=gd->(H c'=gd\/H c'=fP (.b9 oc dj)/\R c' oc)->c'≠f->f≠P->c'≠P->oc.data=.fields r->r[1]?=fP (.str (X.env.qual++(zu 22)) t)->TriplesOk t9.toList->
  (∀p i,codeAmong p t9.toList=fP i->codeAmong p ps.toList=fP i\/i=.ref c')->(∃m,t9=ps++m)->
  Inv X aa σ (iF H P t9 c' oc f (PySem.W.kla_obj (zu 22) (X.env.qual++(zu 22)) a body d cl ((X.mg (zu 51)).getD .none) c' B)) {s with heap:=h',toks:=tk}->Q (.ref f) {s with heap:=h',toks:=tk}):
 zx7 X (eval (.Lambda a body d pos) X.env) Q E s:=by
 have F:s.heap.get? P=fP (PySem.W.tabObj ps):=I.aQ P _ j;have S:=I.ok.mod.glob.keeps I.bk;have ZR:iR≠P:=λq=>by let(o,es,ep,e,_):=I.ok.mod.glob;have:=(I.bs _ _ e).2;rw [q,j] at this;cases this
 let(bm,ob,b1,b2,b3,T,b5,b6,b7):=ZJ;have U:s.heap.BuiltinsAt X.mg P:={bm,ob,b1,b2,b3,(λq=>by have:=(I.bs _ _ T).2;rw [q,j] at this;cases this),I.bk _ _ T,b5,b6,b7}
 refine PySem.W.kla_eval MH ?_;cases hm:codeAmong pos ps.toList with
 |none=>
  refine PySem.W.kla_makeFunction (mg:=X.mg) O I.ok.glob S N (C.keeps I.bk) F y hm ZR U λc' B h' tk hx G K Vx Z2=>?_;let(V,oc,vs,t,e2,L,hd,M):=Vx;cases e2;have D:H c'=gd:=I.aQ.fresh G;have g:(zz9 s)<=h'.objs.size:=di G (Nat.le_of_lt K);have k:H h'.objs.size=gd:=I.aQ.fresh g
  refine h h'.objs.size c' oc vs t B _ _ tk k (.inl D) (d1 K) (λz=>by rw [z,j] at k;cases k) (λz=>by rw [z,j] at D;cases D) hd M ?_ ?_ {_,rfl}
   (I.lam j (λb o Y e=>aT _ (hx b o Y e)) (aT _ Z2) {_,rfl} (.inl ⟨D,G⟩) (aT _ L) g (dV _ rfl) (d1 K))
  .rw [Array.toList_append];exact TriplesOk_snoc _ _ _ _ y
  .intro p i e;rw [Array.toList_append] at e;exact wx _ y e
 |some i=>
  let(c',oc,r,t,rfl,u,hR,hd,M):=hit i hm;refine PySem.W.kla_makeFunctionHit (mg:=X.mg) O I.ok.glob S N (C.keeps I.bk) F y hm U λB h' tk hk g=>?_;have k:H h'.objs.size=gd:=I.aQ.fresh g;have BV:s.heap.get? c'=fP oc:=(I.aQ c' _ u).1;have Z:c'≠h'.objs.size:=λz=>by rw [z,k] at u;cases u
  refine h h'.objs.size c' oc r t B ps _ tk k (.inr ⟨u,hR⟩) Z (λz=>by rw [z,j] at k;cases k) (λz=>by rw [z,j] at u;cases u) hd M y (λp i e=>.inl e) {#[],by simp}
   (I.lam j (λb o Y e=>aT _ (hk b o e)) (aT _ (hk _ _ F)) {#[],by simp} (.inr u) (aT _ (hk _ _ BV)) g (dV _ rfl) Z)
end
section
variable{κ:Type}[DecidableEq κ]{E:jW}{s:gB}{d:hB}
def yG{c:Array DictEntry}{e:Nat}{Q:jW}(g:(d==sysModules)=gh)(b:s.heap.get? d=fP o)(h:o.ExactDict)(f:o.data=.dict c e)
 (i:Q (.ref (zz9 s)) {s with heap:=s.heap.push {cls:=.type "dict_keyiterator",data:=.fields #[.ref d,.int 0 0,.int c.size 0,.int e 0]}}):hF (hT prog w) A (pyIter (.ref d)) Q E s:=by
 have T:s.TypeIs (.ref d) "dict":=⟨o,b,h.1⟩;refine wpAny_pyIter_slot T F.slot_dict_iter (wpAny_call_entry F.slot_dict_iter T F.entry_dict_iter ?_ (F.args_dict_iter_1 _));unfold i1.«dict.__iter__» i1.Dict.dictSlotNone;refine ar (ar (wpAny_notOrdered_dict T ?_));show hF _ _ (pure (gA.ref d):Sem gA) _ _ s;refine bT ?_;show hF _ _ (i1.Dict.showsAll d>>=λZ=>_) _ _ s;unfold i1.Dict.showsAll;rw [if_neg (by rw [g];exact zzf)];refine ar (bT (ar (wpAny_dictEntries b f (ar (wpAny_dictEpoch b f ?_)))));refine ar (wpAny_newObj_type (bT {_,rfl,"dict_keyiterator",_,{_,dV _ rfl,rfl},F.slot_dict_keyiterator_next.lookup,?_}));simpa [rawInt] using i
def yH{it:hB}{i e:Nat}{b:Array DictEntry}{Q:Option gA->gB->Prop}(st:s.heap.IsKeyIter it d i b.size e)(f:s.heap.get? d=fP o)(g:o.data=.dict b e)(j:i<b.size)
 (k:∀h',h'.IsKeyIter it d (i+1) b.size e->ig.SameBut it s.heap h'->Q (fP b[i].key) {s with heap:=h'}):hF (hT prog w) A (pyNext (.ref it)) Q E s:=by
 let(m,g1,g2,c):=id st;have own:i1.Dict_items.ownsTuple "dict_keyiterator"=gh:=by decide
 unfold pyNext;refine ar (wpAny_attempt (wpAny_callSpecial?_slot (name:=Str.ofString (zu 64)) st.typeIs F.slot_dict_keyiterator_next (wpAny_call_entry F.slot_dict_keyiterator_next st.typeIs F.entry_dict_keyiterator_next ?_ (F.args_dict_keyiterator_next_1 _))));refine ar (bT (ar (ar ?_)))
 first|refine ar (wpAny_typeNameOfWhole_keyiter st.typeIs (bT (ar (wpAny_fieldsOf g1 c ?_))))|refine ar (wpAny_typeNameOf_keyiter st.typeIs (bT (ar (wpAny_fieldsOf g1 c ?_))))
 simp! [own,d4,if_false];show hF _ _ (if(gA.ref d==gA.none)=gf then _ else _:Sem _) _ _ s;rw [if_neg (show¬((gA.ref d==gA.none)=gf) from zzf)];refine ar (bT (ar (wpAny_dictEntries f g ?_)));rw [if_neg (by simp)];refine ar (bT (ar (wpAny_dictEpoch f g ?_)));rw [if_neg (by simp)];refine bT ?_;simp! [show¬((i:Int)<0) from by lia,if_false,eF,ez j];refine ar ?_
 first|refine ar (wpAny_typeNameOfWhole_keyiter st.typeIs (bT (ar (wpAny_isOneOf_keyiter st.typeIs ?_))))|refine ar (wpAny_typeNameOf_keyiter st.typeIs (bT (ar (wpAny_isOneOf_keyiter st.typeIs ?_))))
 show hF _ _ (setField (.ref it) 1 (rawInt ((i:Int)+1))>>=λZ=>_) _ _ s
 have h:(s.heap.update it (Obj.mapFields (·.setIfInBounds 1 (rawInt ((i:Int)+1))))).IsKeyIter it d (i+1) b.size e:=
  {_,ig.get?_update_self _ g1 (Obj.isFreed_of_fields (Obj.data_mapFields c _)),(Obj.cls_mapFields ..).trans g2,by rw [Obj.data_mapFields c];simp [rawInt]}
 refine ar (wpAny_setField g1 c (by simp) (ar (wpAny_holding (ar (wpAny_isOneOf_keyiter (s:={s with heap:=s.heap.update it (Obj.mapFields (·.setIfInBounds 1 (rawInt ((i:Int)+1))))}) h.typeIs ?_)))));show hF _ _ (pure b[i].key:Sem gA) _ _ _;exact bT (bT {_,rfl,bT (k _ h (et ..))})
def DC{it:hB}{i f:Nat}{c:Array DictEntry}{Q:Option gA->gB->Prop}(j:A.handled=gd)(st:s.heap.IsKeyIter it d i c.size f)(g:s.heap.get? d=fP o)(h:o.data=.dict c f)(k:c.size<=i)
 (p:∀h',ig.ExtBut it s.heap h'->Q gd {s with heap:=h'}):hF (hT prog w) A (pyNext (.ref it)) Q E s:=by
 let(q,g1,g2,e):=id st;have own:i1.Dict_items.ownsTuple "dict_keyiterator"=gh:=by decide
 unfold pyNext;refine ar (wpAny_attempt (wpAny_callSpecial?_slot (name:=Str.ofString (zu 64)) st.typeIs F.slot_dict_keyiterator_next (wpAny_call_entry F.slot_dict_keyiterator_next st.typeIs F.entry_dict_keyiterator_next ?_ (F.args_dict_keyiterator_next_1 _))));refine ar (bT (ar (ar ?_)))
 first|refine ar (wpAny_typeNameOfWhole_keyiter st.typeIs (bT (ar (wpAny_fieldsOf g1 e ?_))))|refine ar (wpAny_typeNameOf_keyiter st.typeIs (bT (ar (wpAny_fieldsOf g1 e ?_))))
 simp! [own,d4,if_false];show hF _ _ (if(gA.ref d==gA.none)=gf then _ else _:Sem _) _ _ s;rw [if_neg (show¬((gA.ref d==gA.none)=gf) from zzf)];refine ar (bT (ar (wpAny_dictEntries g h ?_)));rw [if_neg (by simp)];refine ar (bT (ar (wpAny_dictEpoch g h ?_)));rw [if_neg (by simp)];refine bT ?_;simp! [show¬((i:Int)<0) from by lia,if_false,eF,Array.getElem?_eq_none k];refine ar ?_
 first|refine ar (wpAny_typeNameOfWhole_keyiter st.typeIs (bT ?_))|refine ar (wpAny_typeNameOf_keyiter st.typeIs (bT ?_))
 show hF _ _ (setField (.ref it) 0 .none>>=λZ=>_) _ _ s;refine ar (wpAny_setField g1 e (by simp) ?_);show hF _ _ (newExc (.type (zu 37)) []>>=λZ=>_) _ _ _;refine ar ?_;simp! [newExc,newTuple];refine ar (wpAny_newObj_type (ar (m:=firstArgMember _ _) (wpAny_of_eq (a:=gA.none) (by first|rfl|(simp! [firstArgMember];rfl)) (wpAny_newObj_type ?_ (by size_fits)))) (by size_fits));simp! [raiseNew];refine ar (wpAny_handled ?_);rw [show A.in1.handled=gd from j];refine ar (bT (wpAny_throw ?_));refine ar (wpAny_isInstance (T:=(zu 37)) (b:=gf) {_,dV _ rfl,rfl} isSubtype_stop ?_);exact bT (p _ (((et ..).extBut.push _).push _))
end
def xy{c d:Type}{R:c->d->Prop}{l:List c}{m:List d}(r:Paired R l m):∀{i:Nat} {p:c} {q:d},l[i]?=fP p->m[i]?=fP q->R p q:=by
 induction r with
 |nil=>intro i p q h;simp at h|cons h t e=>
  intro i p q a b;cases i with
  |zero=>simp at a b;subst a b;exact h|succ i=>simp at a b;exact e a b
end L2
namespace L2
open PySem.Spec PyProof.Rows PySem.W
abbrev jZ{b:Type}(lt:Nat->Nat->Bool):KasT b->b
 |.ret a=>a|.ask i j k=>jZ lt (k (lt i j))
def eV{c:Type}(n:Nat)(R:c->Prop):KasT c->Prop
 |.ret a=>R a|.ask i j k=>i<n/\j<n/\∀b,eV n R (k b)
theorem eV.bind{c d:Type}{n:Nat}{R:c->Prop}{e:d->Prop}{f:c->KasT d}(g:∀a,R a->eV n e (f a)):∀(t:KasT c),eV n R t->eV n e (t.bind f)
 |.ret a,h=>g a h|.ask i j k,h=>{h.1,h.2.1,λb=>eV.bind g (k b) (h.2.2 b)}
theorem eV.run{b:Type}{n:Nat}{R:b->Prop}(lt:Nat->Nat->Bool):∀(t:KasT b),eV n R t->R (jZ lt t)
 |.ret a,h=>h|.ask i j k,h=>eV.run lt (k (lt i j)) (h.2.2 _)
theorem D3{b:Type}{n:Nat}{R:b->Prop}{cmp:Nat->Nat->(Bool->gB->Prop)->gB->Prop}{lt:Nat->Nat->Bool}{Q:b->gB->Prop}{s:gB}
 (c:∀i j C,i<n->j<n->C (lt i j) s->cmp i j C s):∀(t:KasT b),eV n R t->Q (jZ lt t) s->t.kasWp cmp Q s
 |.ret a,_,h=>h|.ask i j k,a,h=>c i j _ a.1 a.2.1 (D3 c (k (lt i j)) (a.2.2 _) h)
noncomputable abbrev Pm(n:Nat)(p:Array Nat):Prop:=p.toList.Perm (List.range n)
def Pm.lt{n:Nat}{p:Array Nat}(h:Pm n p)(a:0<n)(i:Nat):p.getD i 0<n:=by
 rw [Array.getD_eq_getD_getElem?];cases e:p[i]? with
 |none=>exact a|some x=>
  have:x∈p.toList:=by rw [Array.mem_toList_iff];exact Array.mem_of_getElem? e
  exact List.mem_range.mp (h.mem_iff.mp this)
def Pm.rev{n:Nat}{p:Array Nat}(h:Pm n p)(i j:Nat):Pm n (kas_rev p i j):=(mirror_perm p i j _).toList.trans h
def Pm.Y8{n:Nat}{p:Array Nat}(h:Pm n p)(i j:Nat):Pm n (bubble p i j):=(bubble_perm p i j).toList.trans h
section
variable{n:Nat}(h0:0<n)
include h0
theorem nD{p:Array Nat}(h:Pm n p):∀f m,eV n (λZ=>True) (kas_asc p f m)
 |0,m=>trivial|f+1,m=>{h.lt h0 _,h.lt h0 _,λb=>by dsimp only;split;exact trivial;exact nD h f (m+1)}
theorem iS:∀f (p:Array Nat) m q,Pm n p->eV n (λr=>Pm n r.1) (kas_desc f p m q)
 |0,p,m,q,h=>h|f+1,p,m,q,h=>{h.lt h0 _,h.lt h0 _,λb=>by
  cases b with
  |true=>
   dsimp only;rw [if_pos rfl];split
   .exact iS f _ _ _ (h.rev _ _)
   .exact iS f _ _ _ h
  |false=>dsimp only;rw [if_neg (by simp)];exact{h.lt h0 _,h.lt h0 _,λb=>by dsimp only;split;exact h;exact iS f _ _ _ h}}
def ql{p:Array Nat}(h:Pm n p)(m r:Nat):eV n (λr=>Pm n r.2) (kas_tail3 m r p):=by unfold kas_tail3;refine eV.bind (R:=λZ=>True) (λa Z=>?_) _ (nD h0 (h.rev _ _) _ _);exact h.rev 0 m
def qi{p:Array Nat}(h:Pm n p)(m r:Nat):eV n (λr=>Pm n r.2) (kas_descPart m r p):=eV.bind (λa b=>by
 split
 .exact ql h0 (Pm.rev b _ _) _ _
 .exact ql h0 b _ _) _ (iS h0 _ _ _ _ h)
def wA{p:Array Nat}(h:Pm n p)(r:Nat):eV n (λr=>Pm n r.2) (kas_count r p):=eV.bind (λa Z=>by
 split
 .exact h
 .split
  .exact{h.lt h0 _,h.lt h0 _,λb=>by dsimp only;split;exact h;exact qi h0 (h.rev _ _) _ _}
  .exact qi h0 h _ _) _ (nD h0 h _ _)
theorem ju{p:Array Nat}(h:Pm n p)(k:Nat):∀f l r,eV n (λZ=>True) (kas_place p k f l r)
 |0,l,r=>trivial|f+1,l,r=>by
  unfold kas_place;split
  .exact trivial
  .exact{h.lt h0 _,h.lt h0 _,λb=>by dsimp only;split;exact ju h k f _ _;exact ju h k f _ _}
theorem uv:∀f (p:Array Nat) k,Pm n p->eV n (Pm n) (kas_bin f p k)
 |0,p,k,h=>h|f+1,p,k,h=>eV.bind (λl Z=>uv f _ _ (h.Y8 _ _)) _ (ju h0 h k _ _ _)
def qj:eV n (Pm n) (kas_sort n):=eV.bind (λa b=>by
 split
 .exact uv h0 _ _ _ b
 .exact b) _ (wA h0 (List.Perm.refl _) n)
end
abbrev xN(n:Nat)(lt:Nat->Nat->Bool):List Nat:=(jZ lt (kas_sort n)).toList
def vR{n:Nat}(h:0<n)(lt:Nat->Nat->Bool):(xN n lt).Perm (List.range n):=eV.run lt _ (qj h)
section
variable{E:jW}{s:gB}{vs:List gA}
def oX{S:hB}{c:Nat}{xs ys:Array gA}(e:h.get? S=fP (jV "list" xs c)):∃b,(h.update S (Obj.mapSeq λZ=>ys)).get? S=fP (jV "list" ys b):={_,get?_update_seq e λZ=>ys}
def S8(prog:hG)(w:hI)(A:h9)(E:jW)(vs:List gA)(lt:Nat->Nat->Bool)(s:gB):Prop:=∃b:SortKind,(∀Q:SortKind->gB->Prop,Q b s->hF (hT prog w) A (keyKind' vs.toArray) Q E s)/\∀i j (C:Bool->gB->Prop),i<vs.length->j<vs.length->C (lt i j) s->kas_ask prog w A b vs i j C s
def BA{n:Nat}{P:PySem.Fin->gB->Prop}{lt:Nat->Nat->Bool}(k:s.heap.get? a=fP (jV "list" vs.toArray n))(B:2<=vs.length)(C:vs.length<64)(rd:∀h',(∀b o,b≠a->s.heap.get? b=fP o->h'.get? b=fP o)->S8 prog w A E vs lt {s with heap:=h'})
 (h:∀h' c,(∀b o,b≠a->s.heap.get? b=fP o->h'.get? b=fP o)->h'.get? a=fP (jV "list" ((xN vs.length lt).map λi=>vs.getD i gA.none).toArray c)->P (.done (.ret .none)) {s with heap:=h'}):
 hF (hT prog w) A (i1.«list.sort» {[.ref a],[]}) P E s:=by
 have D:=et s.heap a (Obj.mapSeq λZ=>(#[]:Array gA));obtain⟨m,d⟩:∃m,(s.heap.update a (Obj.mapSeq λZ=>(#[]:Array gA))).get? a=fP (jV "list" #[] m):={_,get?_update_seq k λZ=>#[]};generalize q:(((s.heap.update a (Obj.mapSeq λZ=>(#[]:Array gA))).push (jV "tuple" vs.toArray 0)).push (jV "list" #[] 0))=H1;have y:∀b o,b≠a->s.heap.get? b=fP o->H1.get? b=fP o:=λb o g e=>by rw [<-q];exact aT _ (aT _ ((D.2 b g).trans e))
 have f:H1.get? a=fP (jV "list" #[] m):=by rw [<-q];exact aT _ (aT _ d)
 let(O,F,r):=rd H1 y;rw [list_sort_plain];refine ar (listItems_at k rfl (ar (listUpdate_at k rfl ?_ (by rw [a5,sizeLine_eq];lia) (Nat.zero_le _))));refine ar (seqEpoch_at d rfl (ar (wpAny_newTuple ?_ (by show vs.length<=_;rw [sizeLine_eq];lia))));refine ar (wpAny_newList ?_ (Nat.zero_le _));refine wpAny_holding ?_;show hF (hT prog w) A _ P E {s with heap:=((s.heap.update a (Obj.mapSeq λZ=>(#[]:Array gA))).push (jV "tuple" vs.toArray 0)).push (jV "list" #[] 0)};rw [q];dsimp only;have z:¬vs.toArray.size<2:=by rw [a5];lia
 rw [if_neg z,if_neg z];refine ar (F _ ?_);refine ar (wpAny_mono (kat_run (Q:=λj t=>∃p:Array Nat,p.size=vs.length/\arrOf j=p.map (kas_item (vs.toArray.zip vs.toArray))/\failedOf j=gd/\p=jZ lt (kas_sort vs.length)/\t={s with heap:=H1})
  rfl B C (λG j t f a2 H I=>⟨G,f,a2,H,I⟩) (D3 r _ (qj (by lia)) ⟨rfl,rfl⟩)) ?_ λZ Z e=>e)
 rintro ⟨⟨⟩,j⟩ t ⟨p,K,u,hf,rfl,rfl⟩
 dsimp only;have L:=kat_snds rfl u;rw [L];have M:=et H1 a (Obj.mapSeq λZ=>List.toArray ((jZ lt (kas_sort vs.length)).toList.map λi=>vs.getD i gA.none));let(N,pT):=oX (ys:=List.toArray ((jZ lt (kas_sort vs.length)).toList.map λi=>vs.getD i gA.none)) f;refine ar (seqEpoch_at f rfl (ar (listUpdate_at f rfl ?_ (Nat.zero_le _) (by show(List.toArray _).size<=_;rw [a5,zzl,d3,K,sizeLine_eq];lia))));rw [hf];simp! [bne_self_eq_false,d4,if_false];exact bT (h _ N (λb o g e=>(M.2 b g).trans (y b o g e)) pT)
end
end L2
namespace L2
open PySem.Spec PyProof.Rows
def As:typeLookup (.type "list") "keys"=pure gd:=by rw [typeLookup_type,builtinLookup_eq_fast];kernel_rfl
def uM:entryFor table "dict.update.loop"=fP i1.«dict.update.loop»:=entryFor_of_tree (by kernel_rfl)
def kK:plainId "dict.update.loop"=gf:=by decide+kernel
section
variable{E:jW}{s:gB}{xs:Array gA}{k:Nat}
def Hg{Q:Option gA->gB->Prop}(i:s.heap.get? a=fP o)(j:o.cls=.type "list")(m:o.data=.seq xs k)(hd:o.dict=gd)(r:A.handled=gd)
 (h:∀h' tk,(∀b o,s.heap.get? b=fP o->h'.get? b=fP o)->Q gd {s with heap:=h',toks:=tk}):hF (hT prog w) A (getAttr? (.ref a) "keys") Q E s:=by
 let(c,cA,t,u):=o;simp only at j m hd;subst j m hd;let(y,g,d,tk,os):=s;have p:∀f,(⟨y,g,d,f,os⟩:gB).TypeIs (.ref a) "list":=λZ=>{_,i,rfl};have z:=sub_AttributeError;have B:=F.slot_list_getattribute.lookup;have C:=F.slot_list_getattribute.bind (.ref a);have D:=am_list_getattr_none;unfold getAttr? getAttrBy? getAttrBy
 repeat (any_goals (first|assumption|exact p _|((with_reducible show hF _ _ (call (gA.builtin "list.__getattribute__") _ _) _ _ _);refine call_meets F.slot_list_getattribute (p _) am_entry_list_getattribute (F.args_list_getattribute_2 _ _) (meets_getattribute_miss_list a xs k u "keys" _ As (by decide) (by size_fits)) ⟨i,r,λh' f e q=>?_⟩)|wp_step))
 let(G,H,I):=q.there;show hF _ _ (getattributeRaised _ _ _ _ _ _ _) _ _ _;unfold getattributeRaised
 repeat (any_goals (first|assumption|wp_step))
 exact h h' f q.keeps
end
end L2
namespace L2
open PySem.Spec PyProof.Rows PySem.W
abbrev ub{b:Type}(a:b)(l:List b)(c:kr):List b:=if l.length<2 then l else(xN l.length λi j=>HT.lexLt (c.getD i []) (c.getD j [])).map λi=>l.getD i a
section
variable{E:jW}{s:gB}{vs:List gA}{vy:kr}
def Fz{n:Nat}{P:PySem.Fin->gB->Prop}(g:s.heap.get? a=fP (jV "list" vs.toArray n))(y:vs.length<2)
 (h:∀h' c,(∀b o,b≠a->s.heap.get? b=fP o->h'.get? b=fP o)->h'.get? a=fP (jV "list" vs.toArray c)->P (.done (.ret .none)) {s with heap:=h'}):hF (hT prog w) A (i1.«list.sort» {[.ref a],[]}) P E s:=by
 have m:=et s.heap a (Obj.mapSeq λZ=>(#[]:Array gA));let(p,d):=oX (ys:=(#[]:Array gA)) g;generalize i:(((s.heap.update a (Obj.mapSeq λZ=>(#[]:Array gA))).push (jV "tuple" vs.toArray 0)).push (jV "list" #[] 0))=H1;have q:∀b o,b≠a->s.heap.get? b=fP o->H1.get? b=fP o:=λb o f e=>by rw [<-i];exact aT _ (aT _ ((m.2 b f).trans e))
 have j:H1.get? a=fP (jV "list" #[] p):=by rw [<-i];exact aT _ (aT _ d)
 rw [list_sort_plain];refine ar (listItems_at g rfl (ar (listUpdate_at g rfl ?_ (by rw [a5,sizeLine_eq];lia) (Nat.zero_le _))));refine ar (seqEpoch_at d rfl (ar (wpAny_newTuple ?_ (by show vs.length<=_;rw [sizeLine_eq];lia))));refine ar (wpAny_newList ?_ (Nat.zero_le _));refine wpAny_holding ?_;show hF (hT prog w) A _ P E {s with heap:=((s.heap.update a (Obj.mapSeq λZ=>(#[]:Array gA))).push (jV "tuple" vs.toArray 0)).push (jV "list" #[] 0)};rw [i];dsimp only;have k:vs.toArray.size<2:=by rw [a5];lia
 rw [if_pos k,if_pos k];refine ar (bT (ar ?_));show hF (hT prog w) A (pure ((),SortSt.mk' general' (vs.toArray.zip vs.toArray) #[] 7 gd)) _ E _;refine bT ?_;dsimp only;have r:(arrOf (SortSt.mk' general' (vs.toArray.zip vs.toArray) #[] 7 gd)).map (·.2)=vs.toArray:=by show(vs.toArray.zip vs.toArray).map (·.2)=vs.toArray;apply Array.toList_inj.mp;simp! [Array.toList_map,Array.toList_zip];exact List.map_snd_zip (a8 _)
 rw [r];have t:=et H1 a (Obj.mapSeq λZ=>vs.toArray);let(u,pT):=oX (ys:=vs.toArray) j;refine ar (seqEpoch_at j rfl (ar (listUpdate_at j rfl ?_ (Nat.zero_le _) (by rw [a5,sizeLine_eq];lia))));simp! [bne_self_eq_false,d4,if_false];exact bT (h _ u (λb o f e=>(t.2 b f).trans (q b o f e)) pT)
def Fy{n:Nat}{P:PySem.Fin->gB->Prop}(f:s.heap.get? a=fP (jV "list" vs.toArray n))(g:vs.length<64)(rd:2<=vs.length->∀h',(∀b o,b≠a->s.heap.get? b=fP o->h'.get? b=fP o)->S8 prog w A E vs (λi j=>HT.lexLt (vy.getD i []) (vy.getD j [])) {s with heap:=h'})
 (h:∀h' c,(∀b o,b≠a->s.heap.get? b=fP o->h'.get? b=fP o)->h'.get? a=fP (jV "list" (ub gA.none vs vy).toArray c)->P (.done (.ret .none)) {s with heap:=h'}):hF (hT prog w) A (i1.«list.sort» {[.ref a],[]}) P E s:=by
 by_cases d:vs.length<2
 .exact Fz f d λh' c k e=>h h' c k (by unfold ub;rw [if_pos d];exact e)
 .exact BA f (by lia) g (rd (by lia)) λh' c k e=>h h' c k (by unfold ub;rw [if_neg d];exact e)
def FD{d:hB}{f:Array DictEntry}{r:Nat}(B:(d==sysModules)=gh)(m:o.ExactDict)(hd:o.data=.dict f r):KdlSrc prog w "dict" d d f.size (λi v=>∃h:i<f.size,v=f[i].key) (λh=>h.get? d=fP o) where
 type:=λs e=>⟨o,e,m.1⟩
 there:=λh e=>{cP e,cP e}
 keep:=λh j e k=>k d (.inl rfl) o e
 notList:=by decide
 notTuple:=by decide
 hint:=λA E s Q e q=>kdl_hint_dict ⟨o,e,m.1⟩ q
 iter:=λA s C e=>{_,λi h=>h.IsKeyIter (zz9 s) d i f.size r/\h.get? d=fP o,(λE Q q=>yG B e m hd q),{
  sub:=λb c=>by simp at c;simp [c]
  frame:=λZ Z Z st hk=>{st.1.at λo e=>hk _ (by simp) o e,hk d (by simp) o st.2}
  item:=λi p Q E t st g=>yH st.1 st.2 hd t λj D u=>g _ j p.toks ⟨t,rfl⟩ {D,(u.2 d (d1 (cP e))).trans st.2} λb o c z=>(u.2 b (λy=>c (by simp [y]))).trans z
  done:=λp Q E st g=>DC C st.1 st.2 hd (a8 _) λj F=>g j p.toks λb o c z=>F b o (λy=>c (by simp [y])) z
  self:=λZ Z Z Z st g=>wpAny_pyIter_keyiter st.1 g},{{_,dV _ rfl,rfl,rfl},aT _ e}}
def uC{Q:List gA->gB->Prop}{T:String}{r d:hB}{n:Nat}{P:Nat->gA->Prop}{j:ig->Prop}(K:KdlSrc prog w T r d n P j)(m:A.handled=gd)(aQ:j s.heap)(hn:n<=iv)
 (p:∀h' tk (acc:Array gA),(∀b o,s.heap.get? b=fP o->h'.get? b=fP o)->ItemsOf P acc n->Q acc.toList {s with heap:=h',toks:=tk}):hF (hT prog w) A (collect (.ref r)) Q E s:=by
 have q:(s.heap.push (jV "list" #[] 0)).get? (zz9 s)=fP {cls:=.type "list",data:=.seq #[] 0}:=dV _ rfl;have k:=K.there _ aQ
 have h:codeAny (hT prog w) A (.builtin "proto.collect" {[.ref r],[]}) (λc i=>∃h' tk f g,c=.ok (.ret (.ref (zz9 s)))/\i={s with heap:=h',toks:=tk}/\(∀b o,s.heap.get? b=fP o->h'.get? b=fP o)/\h'.get? (zz9 s)=fP {cls:=.type "list",dict:=gd,data:=.seq f g,slots:=#[]}/\ItemsOf P f n) s:=by
  refine codeAny_builtin F.entry_proto_collect ?_;rw [fx F.plain_proto_collect _];show hF _ A.in1 (newList []>>=λl=>again (.builtin "list.__iadd__" {[l,.ref r],[]})) _ _ s
  refine ar (wpAny_newList (bT {plainId_quiet F.plain_list_iadd _,codeAny_builtin F.entry_list_iadd ?_}) (Nat.zero_le _));rw [fx F.plain_list_iadd _];exact kdl_extend (R:=λc i=>∃h' tk f g,c=.ok (.ret (.ref (zz9 s)))/\i={s with heap:=h',toks:=tk}/\(∀b o,s.heap.get? b=fP o->h'.get? b=fP o)/\h'.get? (zz9 s)=fP {cls:=.type "list",dict:=gd,data:=.seq f g,slots:=#[]}/\ItemsOf P f n)
   (s:={s with heap:=s.heap.push (jV "list" #[] 0)}) (A:=A) K m (K.keep _ _ aQ λb Z o e=>aT _ e) _ (Nat.ne_of_gt k.1) (Nat.ne_of_gt k.2) (.ref (zz9 s)) 0 q (λh' tk f g hk t u=>{h',tk,f,g,rfl,rfl,λb o e=>hk b o (d1 (cP e)) (aT _ e),t,u}) hn
 unfold collect;refine ar (wpAny_runValue (codeAny_mono h λc i y=>?_));let(h',tk,f,g,rfl,rfl,B,k2,C):=y;show hF _ A (load (zz9 s)>>=λz=>_) _ _ _;exact ar (wpAny_load k2 (bT (p h' tk f B C)))
end
section
variable{s:gB}{vy:kr}{E:jW}
def F4(r:Vals vs us):Vals (ub V.aN vs vy) (ub gA.none us vy):=by
 have hl:=r.length;unfold ub;rw [hl];split
 .exact r
 .have go:∀l:List Nat,Vals (l.map λi=>vs.getD i V.aN) (l.map λi=>us.getD i gA.none):=by
   intro l
   induction l with
   |nil=>exact .nil|cons i l d=>
    refine .cons ?_ d;dsimp only;by_cases a:i<vs.length
    .let(u,e,f):=r.get (zzg a);have b:vs.getD i V.aN=vs[i]:=by simp [a]
     have c:us.getD i gA.none=u:=by simp [e]
     rw [b,c];exact f
    .have b:vs.getD i V.aN=.aN:=by simp [Nat.le_of_not_lt a]
     have c:us.getD i gA.none=.none:=by simp [Nat.le_of_not_lt (hl▸a)]
     rw [b,c];exact rfl
  exact go _
def JA{a:Type}{d:a}{l:List a}:(ub d l vy).length=l.length:=by
 unfold ub;split
 .rfl
 .rename_i h;rw [zzl,(vR (by omega) _).length_eq,List.length_range]
def xO(I:zv2 s)(r:Vals vs us)(rd:2<=us.length->∀h',(∀b o,s.heap.get? b=fP o->h'.get? b=fP o)->S8 X.prog X.w A.in1 E us (λi j=>HT.lexLt (vy.getD i []) (vy.getD j [])) {s with heap:=h'})(g:vs.length<64)(q:∀p,H p=gd->Q (.ref p) (upd H p (.lst (ub V.aN vs vy)))):
 hF (hT X.prog X.w) A (newList us>>=λl=>holding [l] (call (.builtin "list.sort") [l] [])>>=λZ=>ret l) (λfin s'=>∃v,fin=.done (.ret v)/\EP X aa σ Q v s') E s:=by
 have hl:=r.length;refine ar (wpAny_newList ?_ (by rw [sizeLine_eq];lia));have d:(s.heap.push (jV "list" us.toArray 0)).get? (zz9 s)=fP (jV "list" us.toArray 0):=dV _ rfl;have kp:∀b o,s.heap.get? b=fP o->(s.heap.push (jV "list" us.toArray 0)).get? b=fP o:=λb o e=>aT _ e;refine ar (wpAny_holding (wpAny_call_entry slot_list_sort {_,d,rfl} entry_list_sort ?_ (args_list_sort _)));refine Fy (s:={s with heap:=s.heap.push (jV "list" us.toArray 0)}) d (by lia) (λf h' k=>rd f h' λb o e=>k b o (d1 (cP e)) (kp b o e)) λh' c k e=>{_,rfl,bT {_,rfl,.ref (zz9 s),upd H (zz9 s) (.lst (ub V.aN vs vy)),?_,rfl,q _ (I.aQ.fresh (a8 _))}};exact I.laid (a:=(zz9 s)) (t':=s.toks) (λb o z=>k b o (d1 (cP z)) (kp b o z)) (a8 _) {by rw [JA,sizeLine_eq];lia,_,c,F4 r,e}
end
end L2
namespace L2
open PySem.Spec PyProof.Rows
end L2
namespace Ci
open L2
def aO{p:Prop}(h:gh=gf):p:=absurd h zzf
inductive PV where
 |aN|bl (b:Bool)|int (i:Int)|str (z:Str)
 |tup (xs:List PV)|lst (xs:List PV)
 |exc (c:Str)
 |cA (ks:List Str) (vs:List PV)
 |obj (n:Nat)
 deriving Inhabited
structure Ob where
 a:hB
 dx:hB
 C:hB
 c:Str
 fs:List (Str×PV)
structure Wd where
 K:zz8
 mg:Str->Option gA
 xs:List Str
 ts:List (hB×Str):=[]
 ob:List Ob:=[]
def uh(K:zz8)(H:Hp)(a:hB)(vs:List V):Prop:=
 Rd H a (.lst vs)\/∃(b:Array gA) (n:Nat),K.lookup a=fP {cls:=.type "list",data:=.seq b n}/\b.size<=iv/\Vals vs b.toList
def K7(K:zz8)(G:Hp)(a:hB)(vs:List V):Prop:=G a=fP (.tup vs)\/gH K G a vs/\∃z,V.str z∈vs
theorem K7.sq{K:zz8}:K7 K G a vs->gH K G a vs
 |.inl h=>.inl (.inl h)|.inr h=>h.1
abbrev kz(ks:List Str)(us:List V):List (Key×V):=(ks.map Sum.inr).zip us
mutual
def Rep(W:Wd)(G:Hp):PV->V->Prop
 |.aN,v=>v=.aN|.bl b,v=>v=.bl b|.int i,v=>v=.int i|.str z,v=>v=.str z|.tup xs,v=>∃a vs,v=.ref a/\K7 W.K G a vs/\ah W G xs vs|.lst xs,v=>∃a vs,v=.ref a/\uh W.K G a vs/\ah W G xs vs|.exc c,v=>∃a C,v=.ref a/\c∈W.xs/\W.mg c=fP (.ref C)/\G a=fP (mH a C)|.cA ks vs,v=>∃a o us,v=.ref a/\ks.length=us.length/\G a=fP (.b9 o (.dK (kz ks us)))/\ah W G vs us|.obj n,v=>∃o,W.ob[n]?=fP o/\v=.ref o.a
def ah(W:Wd)(G:Hp):List PV->List V->Prop
 |[],vs=>vs=[]|p::ps,vs=>∃v r,vs=v::r/\Rep W G p v/\ah W G ps r
end
def az.tup{K:zz8}{b:Hp}{xs:List V}(e:az H b)(h:gH K H a xs):gH K b a xs:=by
 rcases h with(h|⟨o,h⟩)|h
 .exact .inl (.inl (e _ _ h))
 .exact .inl (.inr {o,e _ _ h})
 .exact .inr h
def az.tp{K:zz8}{b:Hp}{xs:List V}(e:az H b)(h:K7 K H a xs):K7 K b a xs:=h.elim (λz=>.inl (e _ _ z)) λz=>.inr {az.tup e z.1,z.2}
def az.rd{b:Hp}{u:HO}(e:az H b)(h:Rd H a u):Rd b a u:=by
 rcases h with h|⟨o,h⟩
 .exact .inl (e _ _ h)
 .exact .inr {o,e _ _ h}
def az.ls{K:zz8}{b:Hp}(e:az H b)(h:uh K H a vs):uh K b a vs:=h.elim (λz=>.inl (az.rd e z)) .inr
section
variable{W:Wd}{G':Hp}
mutual
theorem Rep.same(s:az G G'):∀(p:PV) {v:V},Rep W G p v->Rep W G' p v
 |.aN,_,h=>by simpa only [Rep] using h|.bl b,_,h=>by simpa only [Rep] using h|.int i,_,h=>by simpa only [Rep] using h|.str z,_,h=>by simpa only [Rep] using h|.tup xs,_,h=>by simp! [Rep] at h⊢;let(a,vs,e,q,l):=h;exact{a,vs,e,az.tp s q,ah.same s xs l}|.lst xs,_,h=>by simp! [Rep] at h⊢;let(a,vs,e,q,l):=h;exact{a,vs,e,az.ls s q,ah.same s xs l}|.exc c,_,h=>by simp! [Rep] at h⊢;let(a,C,e,x,m,q):=h;exact{a,C,e,x,m,s _ _ q}|.cA f vs,_,h=>by simp! [Rep] at h⊢;let(a,o,d,e,n,m,l):=h;exact{a,o,d,e,n,s _ _ m,ah.same s vs l}|.obj n,_,h=>by simpa only [Rep] using h
theorem ah.same(s:az G G'):∀(ps:List PV) {vs:List V},ah W G ps vs->ah W G' ps vs
 |[],_,h=>by simpa only [ah] using h|p::ps,_,h=>by simp! [ah] at h⊢;let(v,r,e,a,b):=h;exact{v,r,e,Rep.same s p a,ah.same s ps b}
end
theorem ah.paired:∀{ps:List PV} {vs:List V},ah W G ps vs->Paired (λv p=>Rep W G p v) vs ps
 |[],_,h=>by simp! [ah] at h;subst h;exact .nil|p::ps,_,h=>by simp! [ah] at h;let(v,r,rfl,a,b):=h;exact .cons a (ah.paired b)
def ah.length{ps:List PV}(h:ah W G ps vs):vs.length=ps.length:=xA h.paired
def ah.nil:ah W G [] []:=by simp! [ah]
def ah.cons{p:PV}{v:V}{ps:List PV}{vs:List V}(h:Rep W G p v)(t:ah W G ps vs):ah W G (p::ps) (v::vs):=by simp! [ah];exact{_,_,rfl,h,t}
def ah.bo{p:PV}{ps:List PV}(h:ah W G (p::ps) vs):∃v r,vs=v::r/\Rep W G p v/\ah W G ps r:=by simpa only [ah] using h
theorem ah.append:∀{ps qs:List PV} {vs us:List V},ah W G ps vs->ah W G qs us->ah W G (ps++qs) (vs++us)
 |[],_,_,_,h,k=>by simp! [ah] at h;subst h;exact k|p::ps,_,_,_,h,k=>by let(v,r,rfl,a,b):=h.bo;exact .cons a (b.append k)
def ah.get:∀{ps:List PV} {vs:List V} {i:Nat} {v:V},ah W G ps vs->vs[i]?=fP v->∃p,ps[i]?=fP p/\Rep W G p v:=λh e=>Bk h.paired e
theorem ah.uV:∀{ps:List PV} {vs:List V} {i:Nat} {p:PV},ah W G ps vs->ps[i]?=fP p->∃v,vs[i]?=fP v/\Rep W G p v
 |[],_,_,_,_,e=>by simp at e|p::ps,_,0,q,h,e=>by let(v,r,rfl,a,b):=h.bo;simp at e;subst e;exact⟨v,rfl,a⟩|p::ps,_,i+1,q,h,e=>by let(v,r,rfl,a,b):=h.bo;let(u,c,k):=b.uV (i:=i) (zx6 e);exact{u,zx6 c,k}
theorem ah.drop:∀{ps:List PV} {vs:List V} (n:Nat),ah W G ps vs->ah W G (ps.drop n) (vs.drop n)
 |_,_,0,h=>zx6 h|[],_,n+1,h=>by simp! [ah] at h;subst h;simp! [List.drop_nil];exact .nil|p::ps,_,n+1,h=>by let(v,r,rfl,b,a):=h.bo;simpa using a.drop n
theorem ah.take:∀{ps:List PV} {vs:List V} (n:Nat),ah W G ps vs->ah W G (ps.take n) (vs.take n)
 |_,_,0,h=>by simp! [List.take_zero];exact .nil|[],_,n+1,h=>by simp! [ah] at h;subst h;simp! [List.take_nil];exact .nil|p::ps,_,n+1,h=>by let(v,r,rfl,a,b):=h.bo;simp! [List.take_succ_cons];exact .cons a (b.take n)
end
def jc(H c:Hp):Prop:=∀b o,H b=fP o->(∀a,o≠.gI a)/\c b=fP o\/∃a m,o=.gI a/\c b=fP (.gI (a++m))
def jc.refl(H:Hp):jc H H:=λb o h=>by
 cases o with
 |gI a=>exact .inr {a,#[],rfl,zx6 h}|_=>exact .inl {(λZ z=>nomatch z),h}
def jc.trans{f:Hp}(a:jc H H1)(b:jc H1 f):jc H f:=λc o h=>by
 rcases a c o h with⟨n,e⟩|⟨d,m,rfl,e⟩
 .rcases b c o e with y|⟨d,m,rfl,g⟩
  .exact .inl y
  .exact absurd rfl (n d)
 .rcases b c _ e with⟨n,_⟩|⟨k,i,g,j⟩
  .exact absurd rfl (n _)
  .cases g;exact .inr {d,m++i,rfl,by rw [j,Array.append_assoc]}
def jc.free{a:Hp}(e:jc H a){l:hB}(h:a l=Option.none):H l=Option.none:=by
 cases q:H l with
 |none=>rfl|some o=>
  rcases e l o q with⟨_,z⟩|⟨_,_,_,z⟩
  .rw [h] at z;cases z
  .rw [h] at z;cases z
def jc.at{a:Hp}(e:jc H a){b:hB}{o:HO}(h:H b=fP o)(n:∀ps,o≠.gI ps):a b=fP o:=by
 rcases e b o h with⟨_,z⟩|⟨ps,_,rfl,_⟩
 .exact z
 .exact absurd rfl (n ps)
def jc.ji{a:Hp}(e:jc H a){b:hB}(h:H b≠gd)(n:∀vs,H b≠fP (.tup vs)):∀vs,a b≠fP (.tup vs):=λvs z=>by
 cases q:H b with
 |none=>exact h q|some o=>
  rcases e b o q with⟨_,y⟩|⟨_,_,_,y⟩
  .rw [z] at y;cases y;exact n vs q
  .rw [z] at y;cases y
def jc.of{a:Hp}(e:az H a):jc H a:=λb o h=>by
 cases o with
 |gI c=>exact .inr {c,#[],rfl,by simpa using e _ _ h}|_=>exact .inl {(λZ z=>nomatch z),e _ _ h}
def jc.tup{K:zz8}{b:Hp}{xs:List V}(e:jc H b)(h:gH K H a xs):gH K b a xs:=by
 rcases h with(h|⟨o,h⟩)|h
 .exact .inl (.inl (e.at h (λZ z=>nomatch z)))
 .exact .inl (.inr {o,e.at h (λZ z=>nomatch z)})
 .exact .inr h
def jc.ls{K:zz8}{b:Hp}(e:jc H b)(h:uh K H a vs):uh K b a vs:=by
 rcases h with(h|⟨o,h⟩)|h
 .exact .inl (.inl (e.at h (λZ z=>nomatch z)))
 .exact .inl (.inr {o,e.at h (λZ z=>nomatch z)})
 .exact .inr h
def PU:HO->Prop
 |.gI _=>True|.ins _ _ _=>True|.dK _=>True|.lst _=>True|_=>False
def DR(c:Str):Bool:=c=="#d"
def H9(c:Str):Bool:=c=="#l"
def bF(c:Str):Bool:=DR c||H9 c
abbrev mR(o:Ob)(vs:List V):HO:=if DR o.c then .dK (kz (o.fs.map (·.1)) vs) else if H9 o.c then .lst vs else .ins o.C o.dx ((o.fs.map (·.1)).zip vs)
def ng{o:Ob}(h:bF o.c=gh):mR o vs=.ins o.C o.dx ((o.fs.map (·.1)).zip vs):=by unfold bF at h;rw [Bool.or_eq_false_iff] at h;unfold mR;rw [h.1,h.2];rfl
def IJ(o:Ob)(vs:List V):PU (mR o vs):=by
 unfold mR;split
 .exact trivial
 .split
  .exact trivial
  .exact trivial
def sF(o:Ob)(vs us:List V):mR o vs≠.tup us:=by
 unfold mR;split
 .exact nofun
 .split
  .exact nofun
  .exact nofun
def ze(o:Ob)(vs:List V)(ps:Array gA):mR o vs≠.gI ps:=by
 unfold mR;split
 .exact nofun
 .split
  .exact nofun
  .exact nofun
def uk(W:Wd)(G H:Hp):Prop:=∀(n:Nat) (o:Ob),W.ob[n]?=fP o->G o.a=gd/\∃b,H o.a=fP (mR o b)/\ah W G (o.fs.map (·.2)) b
def kn(W:Wd)(G H:Hp):Prop:=∀P q,(P,q)∈W.ts->G P=gd/\∃a,H P=fP (.gI a)/\TriplesOk a.toList/\
 ∀b c,codeAmong b a.toList=fP c->∃d oc e t,c=.ref d/\G d=fP (.b9 oc dj)/\oc.data=.fields e/\e[1]?=fP (.str q t)
structure bz(W:Wd)(G H:Hp):Prop where
 t:kn W G H
 o:uk W G H
theorem uk.same{W:Wd}{b d:Hp}(t:uk W G H)(g:az G b)(own:∀a,H a≠gd->(∀vs,H a≠fP (.tup vs))->G a=gd->b a=gd)(h:∀P o,PU o->H P=fP o->d P=fP o):uk W b d:=λn o m=>by let(e,vs,c,l):=t n o m;exact{own o.a (by rw [c];exact nofun) (by rw [c];exact λf z=>sF o vs f (zzq z)) e,vs,h _ _ (IJ o vs) c,ah.same g _ l}
theorem kn.same{W:Wd}{b d:Hp}(t:kn W G H)(g:az G b)(own:∀a,H a≠gd->(∀vs,H a≠fP (.tup vs))->G a=gd->b a=gd)(h:∀P ps,H P=fP (.gI ps)->d P=fP (.gI ps)):kn W b d:=λP q m=>by let(n,ps,e,f,i):=t P q m;refine{own P (by rw [e];exact nofun) (by rw [e];exact λZ z=>nomatch z) n,ps,h P ps e,f,λc j y=>?_};let(k,oc,o,t,p,r,s,u):=i c j y;exact{k,oc,o,t,p,g _ _ r,s,u}
def bz.same{W:Wd}{b c:Hp}(t:bz W G H)(g:az G b)(own:∀a,H a≠gd->(∀vs,H a≠fP (.tup vs))->G a=gd->b a=gd)(h:∀P o,PU o->H P=fP o->c P=fP o):bz W b c:=
 {t.t.same g own λP d e=>h P (.gI d) trivial e,t.o.same g own h}
structure aC(W:Wd)(G H G' H':Hp):Prop where
 g:az G G'
 h:jc H H'
 sub:az G' H'
 own:∀a,H a≠gd->(∀vs,H a≠fP (.tup vs))->G a=gd->G' a=gd
 tb:kn W G H->kn W G' H'
theorem aC.tab{W:Wd}{d e:Hp}(g:aC W G H d e)(t:bz W G H):bz W d e:={g.tb t.t,λn o m=>by let(f,b,c,l):=t.o n o m;exact{g.own o.a (by rw [c];exact nofun) (by rw [c];exact λi z=>sF o b i (zzq z)) f,b,g.h.at c (ze o b),ah.same g.g _ l}}
section
variable{W:Wd}
def aC.refl(s:az G H):aC W G H G H:={az.refl _,jc.refl _,s,λZ Z Z h=>h,id}
def aC.trans{d G2 e:Hp}(a:aC W G H d H1)(b:aC W d H1 G2 e):aC W G H G2 e:=
 {a.g.trans b.g,a.h.trans b.h,b.sub,λx c f i=>b.own x (λz=>c (a.h.free z)) (a.h.ji c f) (a.own x c f i),λt=>b.tb (a.tb t)}
def zO{p:hB}{o:HO}(h:∀u,PU u->H p≠fP u)(P:hB)(u:HO)(k:PU u)(e:H P=fP u):upd H p o P=fP u:=by rw [ai (λz=>by subst z;exact h u k e)];exact e
theorem aC.new{p:hB}{o:HO}(s:az G H)(h:H p=gd):aC W G H (upd G p o) (upd H p o) where
 g:=bt (s.free h)
 h:=.of (bt h)
 sub:=λb u e=>by
  by_cases f:b=p
  .subst f;rw [ak] at e⊢;exact e
  .rw [ai f] at e⊢;exact s _ _ e
 own:=λa c Z d=>by
  have:a≠p:=λz=>by subst z;exact c h
  rw [ai this];exact d
 tb:=λt=>t.same (bt (s.free h)) (λa c Z d=>by
  have:a≠p:=λz=>by subst z;exact c h
  rw [ai this];exact d) (λP i e=>zO (λu Z z=>by rw [h] at z;cases z) P (.gI i) trivial e)
def aC.V7{p:hB}{o:HO}(s:az G H)(h:H p=gd):aC W G H G (upd H p o):=
 {az.refl _,.of (bt h),s.trans (bt h),λZ Z Z a=>a,λt=>t.same (az.refl _) (λZ Z Z h=>h) (λP b e=>zO (λu Z z=>by rw [h] at z;cases z) P (.gI b) trivial e)}
end
abbrev bE(a:ia):List Str:=((a.names.filter λp=>p.2==.free).map (·.1)).reverse
abbrev okN(x:Str):Bool:=!(x==(zu 33))&&!(x=="__classdict__")&&!(x==(zu 51))
abbrev fB(x:Str):Bool:=x.cps.toList.contains 64
def lM{b:Type}{a:b}{p:Prop}(h:(gd:Option b)=fP a):p:=nomatch h
abbrev j5:hD->Option Str
 |.Name x _=>fP x|_=>gd
def e9(h:j5 e=fP x):∃p,e=.Name x p:=by
 cases e with
 |Name y p=>cases h;exact{_,rfl}
 |_=>exact lM h
abbrev Cg:hD->Option (hD×List hD×List Keyword×Pos)
 |.Call f a k p=>fP (f,a,k,p)|_=>gd
def ie{q:hD×List hD×List Keyword×Pos}(h:Cg e=fP q):e=.Call q.1 q.2.1 q.2.2.1 q.2.2.2:=by
 cases e with
 |Call f a k p=>cases h;rfl
 |_=>exact lM h
abbrev UO:List Arg->Option (List Str)
 |[]=>fP []|[a]=>fP [a.arg]|_=>gd
abbrev uu(p:Arguments):Option (List Str):=if(p.posonlyargs.isEmpty&&p.vararg.isNone&&p.kwonlyargs.isEmpty&&p.kw_defaults.isEmpty&&p.kwarg.isNone&&p.defaults.isEmpty)=gf then UO p.args else gd
def yg{p:Arguments}{ps:List Str}(h:uu p=fP ps):(p={[],[],gd,[],[],gd,[]}/\ps=[])\/∃a,p={[],[a],gd,[],[],gd,[]}/\ps=[a.arg]:=by
 let(a,b,c,d,e,f,g):=p;unfold uu at h;split at h
 .rename_i q;simp! [zza,List.isEmpty_iff,Option.isNone_iff_eq_none] at q;let(((((i,j),k),m),o),r):=q
  subst i j k m o r;cases b with
  |nil=>cases h;exact .inl ⟨rfl,rfl⟩
  |cons a b=>
   cases b with
   |nil=>cases h;exact .inr ⟨a,rfl,rfl⟩
   |cons _ _=>exact lM h
 .exact lM h
abbrev Wz(ps:List Str)(a:ia):Bool:=
 a.kind==.function&&!a.isCoroutine&&!a.isGenerator&&decide ((ps++bE a).Nodup)&&(a.names.all λy=>decide (y.2≠.cell))&&(ps.all λx=>decide (a.names.lookup x=fP .local))&&((bE a).all λx=>decide (a.names.lookup x=fP .free))
inductive Slot where
 |no|val (p:PV)|own (p:PV)
 deriving Inhabited
noncomputable abbrev Sl:=List Slot
def Own(W:Wd)(H0 G H:Hp):PV->V->Prop
 |.lst xs,v=>∃a vs,v=.ref a/\H a=fP (.lst vs)/\G a=gd/\H0 a=gd/\ah W G xs vs|.cA ks ps,v=>∃a us,v=.ref a/\ks.length=us.length/\H a=fP (.dK (kz ks us))/\G a=gd/\H0 a=gd/\ah W G ps us|_,_=>False
noncomputable abbrev Bb:Hp:=λZ=>gd
theorem Own.any{W:Wd}:∀{p:PV} {v:V},Own W H0 G H p v->Own W Bb G H p v
 |.lst xs,_,h=>by let(a,vs,e,b,c,h3,l):=h;exact⟨a,vs,e,b,c,rfl,l⟩|.cA d f,_,h=>by let(a,vs,e,n,b,c,h3,l):=h;exact⟨a,vs,e,n,b,c,rfl,l⟩|.aN,_,h=>h|.bl _,_,h=>h|.int _,_,h=>h|.str _,_,h=>h|.tup _,_,h=>h|.exc _,_,h=>h|.obj _,_,h=>h
abbrev Ao(o:Ob):PV:=if DR o.c then .cA (o.fs.map (·.1)) (o.fs.map (·.2)) else .lst (o.fs.map (·.2))
def G8{W:Wd}{n:Nat}{o:Ob}(t:uk W G H)(e:W.ob[n]?=fP o)(d:bF o.c=gf):Own W Bb G H (Ao o) (.ref o.a):=by
 let(f,g,b,l):=t n o e;unfold mR at b;unfold Ao;by_cases hd:DR o.c=gf
 .rw [if_pos hd] at b⊢;exact{o.a,g,rfl,by have:=l.length;rw [zzl] at this⊢;lia,b,f,rfl,l}
 .rw [if_neg hd] at b⊢;have hl:H9 o.c=gf:=by
   unfold bF at d;rw [er] at d;exact d.resolve_left hd
  rw [if_pos hl] at b;exact⟨o.a,g,rfl,b,f,rfl,l⟩
def Top(W:Wd)(H0 G H:Hp)(p:PV)(v:V):Prop:=Rep W G p v\/Own W H0 G H p v
def Gk(W:Wd)(H0 G H:Hp):Slot->Option V->Prop
 |.no,_=>True|.val p,o=>∃v,o=fP v/\Rep W G p v|.own p,o=>∃v,o=fP v/\Own W H0 G H p v
structure SR(W:Wd)(H0:Hp)(env:Sl)(σ:St)(G H:Hp):Prop where
 len:env.length=σ.length
 sub:az G H
 base:jc H0 H
 slot:∀(i:Nat) (s:Slot),env[i]?=fP s->∃o,σ[i]?=fP o/\Gk W H0 G H s o
 apart:∀(i j:Nat) (p q:PV) (a:hB),env[i]?=fP (.own p)->env[j]?=fP (.own q)->σ[i]?=fP (fP (.ref a))->σ[j]?=fP (fP (.ref a))->i=j
 tab:bz W G H
 jf:bz W G H0
section
variable{W:Wd}{G' H':Hp}{env:Sl}
theorem Own.grow(g:aC W G H G' H'):∀{p:PV} {v:V},Own W H0 G H p v->Own W H0 G' H' p v
 |.lst xs,_,h=>by let(a,vs,e,b,c,h3,l):=h;exact{a,vs,e,g.h.at b (λZ z=>nomatch z),g.own a (by rw [b];exact λz=>by cases z) (by rw [b];exact λZ z=>by cases z) c,h3,ah.same g.g xs l}
 |.cA f d,_,h=>by let(a,vs,e,n,b,c,h3,l):=h;exact{a,vs,e,n,g.h.at b (λZ z=>nomatch z),g.own a (by rw [b];exact λz=>by cases z) (by rw [b];exact λZ z=>by cases z) c,h3,ah.same g.g d l}
 |.aN,_,h=>h|.bl _,_,h=>h|.int _,_,h=>h|.str _,_,h=>h|.tup _,_,h=>h|.exc _,_,h=>h|.obj _,_,h=>h
theorem Gk.grow(g:aC W G H G' H'):∀{s:Slot} {o:Option V},Gk W H0 G H s o->Gk W H0 G' H' s o
 |.no,_,_=>trivial|.val p,_,h=>by let(v,e,r):=h;exact{v,e,Rep.same g.g p r}|.own p,_,h=>by let(v,e,r):=h;exact{v,e,r.grow g}
theorem SR.grow(r:SR W H0 env σ G H)(g:aC W G H G' H'):SR W H0 env σ G' H':=
 {r.len,g.sub,r.base.trans g.h,λi s e=>by let(o,b,c):=r.slot i s e;exact{o,b,c.grow g},r.apart,g.tab r.tab,r.jf.same g.g (λa b h3 c=>g.own a (λz=>b (r.base.free z)) (r.base.ji b h3) c) λZ Z Z h=>h}
def Top.grow{p:PV}(g:aC W G H G' H')(h:Top W H0 G H p v):Top W H0 G' H' p v:=h.elim (λz=>.inl (Rep.same g.g p z)) λz=>.inr (z.grow g)
def Top.lst{xs:List PV}(s:az G H)(h:Top W H0 G H (.lst xs) v):∃a vs,v=.ref a/\uh W.K H a vs/\ah W G xs vs:=by
 rcases h with h|h
 .simp! [Rep] at h;let(a,vs,e,q,l):=h;exact{a,vs,e,az.ls s q,l}
 .let(a,vs,e,b,_,_,l):=h;exact{a,vs,e,.inl (.inl b),l}
def Top.tup{xs:List PV}(s:az G H)(h:Top W H0 G H (.tup xs) v):∃a vs,v=.ref a/\gH W.K H a vs/\ah W G xs vs:=by
 rcases h with h|h
 .simp! [Rep] at h;let(a,vs,e,q,l):=h;exact{a,vs,e,az.tup s q.sq,l}
 .exact h.elim
def Top.cA{ps:List PV}(s:az G H)(h:Top W H0 G H (.cA ks ps) v):∃a us,v=.ref a/\ks.length=us.length/\Rd H a (.dK (kz ks us))/\ah W G ps us:=by
 rcases h with h|h
 .simp! [Rep] at h;let(a,o,us,e,n,q,l):=h;exact{a,us,e,n,.inr {o,s _ _ q},l}
 .let(a,b,e,n,q,_,_,l):=h;exact{a,b,e,n,.inl q,l}
def Top.int{i:Int}(h:Top W H0 G H (.int i) v):v=.int i:=h.elim (λz=>by simpa only [Rep] using z) λz=>z.elim
def Top.bl{b:Bool}(h:Top W H0 G H (.bl b) v):v=.bl b:=h.elim (λz=>by simpa only [Rep] using z) λz=>z.elim
def Top.str{b:Str}(h:Top W H0 G H (.str b) v):v=.str b:=h.elim (λz=>by simpa only [Rep] using z) λz=>z.elim
def Top.aN(h:Top W H0 G H .aN v):v=.aN:=h.elim (λz=>by simpa only [Rep] using z) λz=>z.elim
def Rep.i{i:Int}:Rep W G (.int i) (.int i):=by simp! [Rep]
def Rep.b{i:Bool}:Rep W G (.bl i) (.bl i):=by simp! [Rep]
def Rep.s{i:Str}:Rep W G (.str i) (.str i):=by simp! [Rep]
def Rep.n:Rep W G .aN .aN:=by simp! [Rep]
def Rep.l{xs:List PV}(h:uh W.K G a vs)(l:ah W G xs vs):Rep W G (.lst xs) (.ref a):=by simp! [Rep];exact⟨a,vs,rfl,h,l⟩
def Rep.t{xs:List PV}(h:K7 W.K G a vs)(l:ah W G xs vs):Rep W G (.tup xs) (.ref a):=by simp! [Rep];exact⟨a,vs,rfl,h,l⟩
end
end Ci
variable{xs ys ps:List Ci.PV}{p q:Ci.PV}{env:Ci.Sl}
namespace L2
open PySem.Spec PyProof.Rows
end L2
namespace HT
open PySem.Spec PyProof.Rows
section
variable{E:jW}{s:gB}
def uq{d:hB}{c:gA}{n:Nat}{Q:Int×Int×Nat->gB->Prop}(hs:s.heap.IsSliceOf d .none .none c)(f:IsPart c (fP (-1)))
 (h:Q ((n:Int)-1, -1,n) s):hF (hT prog w) A (i1.Slice.sliceApplied (.ref d) (pure (n:Int))) Q E s:=by
 let(os,a,g,b):=id hs
 unfold i1.Slice.sliceApplied i1.Slice.sliceFields;refine ar (ar (wpAny_field a b (x:=.none) rfl (ar (wpAny_field a b (x:=.none) rfl (ar (wpAny_field a b (x:=c) rfl (bT ?_)))))));refine ar (kb f ?_);show hF _ _ (if((-1:Int)==0)=gf then _ else _) _ _ s;rw [if_neg (by decide)];refine ar (slicePart_none (ar (slicePart_none (ar (bT ?_)))));show hF _ _ (pure ((n:Int)-1,(-1:Int),i1.Slice.slicePlaces ((n:Int)-1) (-1) (-1))) _ _ s;have e:i1.Slice.slicePlaces ((n:Int)-1) (-1) (-1)=n:=by
  unfold i1.Slice.slicePlaces;rw [if_neg (by decide)];split
  .have:((n:Int)-1 - -1-1)/(- -1)+1=n:=by rw [show(- -1:Int)=1 from rfl,Int.ediv_one];lia
   rw [this];lia
  .lia
 rw [e];exact bT h
theorem uR{b c:Type}{f g:b->Option c}:∀(l:List b),(∀m∈l,f m=g m)->l.filterMap f=l.filterMap g
 |[],_=>rfl|a::l,h=>by rw [List.filterMap_cons,List.filterMap_cons,h a (c0 ..),uR l λm hm=>h m (cq _ hm)]
def E0(xs:Array gA):((List.range xs.size).filterMap λ(m:Nat)=>xs[((xs.size:Int)-1+(m:Int)*(-1)).toNat]?).toArray=xs.toList.reverse.toArray:=by
 congr 1
 refine List.ext_getElem? λi=>?_
 have a:∀k,k<=xs.size->(List.range k).filterMap (λ(m:Nat)=>xs[((xs.size:Int)-1+(m:Int)*(-1)).toNat]?)=(List.range k).filterMap λm=>xs.toList.reverse[m]?:=λk hk=>by
  refine uR _ λm hm=>?_;have:=List.mem_range.1 hm;rw [List.getElem?_reverse (by simpa using (by omega:m<xs.size)),Array.getElem?_toList,d3]
  congr 1
  omega
 rw [a _ (a8 _)];have:∀l:List gA,(List.range l.length).filterMap (λm=>l[m]?)=l:=λl=>by have:=PySem.W.krv_all l.toArray;simpa using this
 have:=this xs.toList.reverse;rw [List.length_reverse,d3] at this;rw [this]
def kO{t b:hB}{d:gA}{Q:jW}(a:IsTup s.heap t items)(hs:s.heap.IsSliceOf b .none .none d)(f:IsPart d (fP (-1)))
 (h:Q (.ref (zz9 s)) {s with heap:=s.heap.push {cls:=.type "tuple",data:=.seq items.toList.reverse.toArray}})
 (hsz:items.size<=iv):hF (hT prog w) A (getItem (.ref t) (.ref b)) Q E s:=by
 have e:sizeOk (.seq items.toList.reverse.toArray):=by show items.toList.reverse.toArray.size<=iv;rw [a5,List.length_reverse,d3];exact hsz
 let(os,c,g,i):=id hs;have j:s.TypeIs (.ref b) "slice":=⟨os,c,g⟩;unfold getItem
 try with_reducible refine wpAny_holding ?_
 first|refine ar (bT ?_)|skip
 refine ar (wpAny_sequenceKey a.typeIs (by decide) ?_);refine ar (wpAny_callSpecial?_slot (name:=Str.ofString "__getitem__") a.typeIs PyProof.Rows.slot_tuple_getitem
  (wpAny_call_entry PyProof.Rows.slot_tuple_getitem a.typeIs entry_tuple_getitem ?_ (args_tuple_getitem _ _)))
 show hF _ _ (i1.Tuple.tupleItemsOf (.ref t)>>=_) _ _ s;refine ar (tupleItemsOf_ a ?_);refine ar (wpAny_typeOf j ?_);rw [if_pos (by decide)];refine ar (uq hs f ?_);have k:¬((((items.size:Int)-1)==0&&(-1:Int)==1&&items.size==items.size)=gf):=by intro q;rw [zza,zza] at q;exact absurd q.1.2 (by decide)
 show hF _ _ (if(((items.size:Int)-1)==0&&(-1:Int)==1&&items.size==items.size)=gf then _ else _) _ _ s;rw [if_neg k,E0]
 first
  |exact ar (m:=i1.Tuple.tupleExact _) (wpAny_newObj_type (bT ⟨_,rfl,bT h⟩) e)
  |exact ar (m:=i1.Tuple.tupleExact _) (wpAny_newObj_type (ar (bT (bT ⟨_,rfl,bT h⟩))) e)
end
end HT
namespace L2
open PySem.Spec PyProof.Rows
abbrev l7(z:Str):Str:=⟨z.cps.toList.reverse.toArray⟩
def Jk(n:Nat):i1.Str.strSliceIndices gd gd (-1) n=(List.range n).map λk=>n-1-k:=by show sliceRange ((n:Int)-1) (-1) (-1)=_;exact PySem.W.krv_sliceRange n
def rj(r:Vals vs us):Vals vs.reverse us.reverse:=by
 induction r with
 |nil=>exact .nil|cons h t a=>rw [List.reverse_cons,List.reverse_cons];exact a.append (.cons h .nil)
section
variable{st:hD}{ts:TE}{p2:Pos}
def Gj(X:Cx)(r:V->Hp->VK->Prop):Prop:=
 ∀(a:kd) (s:gB) (b:St) (H:Hp) (x:V) (v c:gA) (d:hB) (Q:VK),Inv X a b H s->RelV x v->s.heap.IsSliceOf d .none .none c->IsPart c (fP (-1))->r x H Q->
  ∃T f,typeLookup (.type T) "__getitem__"=pure (fP (.builtin f))/\s.TypeIs v T/\zx7 X (getItem v (.ref d)) (EP X a b Q) X.xe s
def Gj.or{r a:V->Hp->VK->Prop}(h:Gj X r)(h':Gj X a):Gj X (λx H Q=>r x H Q\/a x H Q):=by
 intro b s c H x v d f Q I g hs i q;rcases q with q|q
 .exact h b s c H x v d f Q I g hs i q
 .exact h' b s c H x v d f Q I g hs i q
def Oo:Gj X (λx H Q=>∃a xs,x=.ref a/\gH X.K H a xs/\∀p,H p=gd->Q (.ref p) (upd H p (.tup xs.reverse))):=by
 intro m s t H x v u w Q I g hs i h;let(a,xs,rfl,j,q):=h;cases g;let(k,r,d,f):=I.tuple j;have c:k.toArray.size=xs.length:=by rw [a5];exact r.length.symm
 refine{"tuple",_,PyProof.Rows.slot_tuple_getitem.lookup,d.typeIs,HT.kO d hs i ?_ (by rw [c];exact f)};refine{.ref (zz9 s),_,I.laid (t':=s.toks) (o:=.tup xs.reverse) (λb ob q=>aT _ q) (a8 _) ?_,rfl,q _ (I.aQ.fresh (a8 _))};exact{by rw [List.length_reverse];exact f,_,rj r,IsTup.new _ _}
def Ol:Gj X (λx H Q=>∃a xs,x=.ref a/\iQ X.K H a xs/\∀p,H p=gd->Q (.ref p) (upd H p (.lst xs.reverse))):=by intro j s k H x v m t Q I f hs g h;let(a,xs,rfl,i,q):=h;cases f;let(u,r,c,d):=I.list i;refine{"list",_,PySem.F.slot_list_getitem.lookup,{_,c.isList.choose_spec.1,c.isList.choose_spec.2.1},?_};refine wpAny_getItem_list_slice c.isList hs .none .none g (by decide) ?_ (by rw [a5,<-r.length];exact d);rw [PySem.W.krv_pick];refine{.ref (zz9 s),_,I.laid (t':=s.toks) (o:=.lst xs.reverse) (λb ob q=>aT _ q) (a8 _) ?_,rfl,q _ (I.aQ.fresh (a8 _))};exact{by rw [List.length_reverse];exact d,_,0,rj r,dV _ rfl}
def Om:Gj X (λx H Q=>∃z,x=.str z/\z.length<=iv/\Q (.str (l7 z)) H):=by
 intro f s g H x v j k Q I b hs c h;let(z,rfl,d,q):=h;let(t,rfl):=b
 refine{"str",_,F.slot_str_getitem.lookup,typeIs_str _ _ _,?_};cases c with
 |int i a=>
  refine wpAny_getItem_str_slice (l:=gd) (u:=gd) (st:=fP (-1,a)) hs rfl ?_;have e:sliceMade z t gd gd (fP (-1,a))=.str (l7 z):=by
   unfold sliceMade;rw [if_neg (λq=>by rw [zza] at q;exact absurd q.1 (show¬((-1:Int)==1)=gf by decide))];unfold slicePicked l7
   congr 2
   show((i1.Str.strSliceIndices gd gd (-1) z.length).filterMap (z.cps[·]?)).toArray=_;rw [Jk,PySem.W.krv_range,List.filterMap_reverse]
   congr 2
   have:=PySem.W.krv_all z.cps;exact this
  rw [e];refine{?_,{.str _,H,I.tok _,{_,rfl},q}};show(l7 z).cps.size<=iv;have:(l7 z).cps.size=z.length:=by simp [l7,Str.length]
  rw [this];exact d
abbrev tRv(r:V->Hp->VK->Prop)(te ts:TE):TE:=λa H Q=>te a H λx b=>ts a b λk c=>k=.int (-1)/\r x c Q
def N2{r:V->Hp->VK->Prop}(j:Gj X r)(he:PE X e te)(hs:PE X st ts):PE X (.Subscript e (.Slice gd gd (fP st) p2) pos) (tRv r te ts):=by
 intro c s d H Q I h;refine Subscript_ (bU (he c s d H _ I h) λv m f=>?_);let(x,o,p,y,z):=f;refine wpAny_Slice ?_;rw [evalPart_none];refine bT (bT ?_);rw [evalPart_some];refine bU (hs c m d o _ p z) λu a ⟨k,i,B,C,g⟩=>?_;let(rfl,g):=g;let(t,rfl):=C
 have D:Inv X c d i {a with heap:=a.heap.push {cls:=.type "slice",data:=.fields #[.none,.none,.int (-1) t]}}:=B.kept (t':=a.toks) λb ob q=>aT _ q
 let(T,K,E,F,G):=j c {a with heap:=a.heap.push {cls:=.type "slice",data:=.fields #[.none,.none,.int (-1) t]}} d i x v (.int (-1) t) (zz9 a) Q D y (ig.IsSliceOf.new ..) (.int _ _) g
 show zx7 X (subscriptTail e (.Slice gd gd (fP st) p2) v (.ref (zz9 a))) (EP X c d Q) X.xe {a with heap:=a.heap.push {cls:=.type "slice",data:=.fields #[.none,.none,.int (-1) t]}};exact tail_any (ops:=[v,.ref (zz9 a)]) F E G (by with_unfolding_all rfl)
end
end L2
namespace L2
open PySem.Spec PyProof.Rows PySem.W
end L2
namespace Ci
open L2
inductive Res(α:Type) where
 |ok (a:α)|exc (c:Str)|bad
abbrev Res.bind{b d:Type}:Res b->(b->Res d)->Res d
 |.ok a,f=>f a|.exc c,_=>.exc c|.bad,_=>.bad
noncomputable instance:Monad Res where
 pure:=.ok
 bind:=Res.bind
def Res.aM{d e:Type}{r:Res d}{f:d->Res e}{b:e}(h:r.bind f=.ok b):∃a,r=.ok a/\f a=.ok b:=by
 cases r with
 |ok a=>exact⟨a,rfl,h⟩|exc c=>cases h
 |bad=>cases h
def Res.eG{b d:Type}{r:Res b}{f:b->Res d}(h:r.bind f=.exc c):r=.exc c\/∃a,r=.ok a/\f a=.exc c:=by
 cases r with
 |ok a=>exact .inr ⟨a,rfl,h⟩|exc e=>cases h;exact .inl rfl
 |bad=>cases h
abbrev Res.of{b:Type}:Option b->Res b
 |some a=>.ok a|none=>.bad
abbrev Res.well{b:Type}:Res b->Res b
 |.ok a=>.ok a|_=>.bad
noncomputable abbrev bS:Nat:=1000000
abbrev eqs(f:PV->PV->Bool):List PV->List PV->Bool
 |[],[]=>gf|x::xs,y::ys=>f x y&&eqs f xs ys|_,_=>gh
abbrev pP:Nat->PV->PV->Bool
 |_,.aN,.aN=>gf|_,.bl a,.bl b=>a==b|_,.bl a,.int i=>(if a then 1 else 0)==i
 |_,.int i,.bl a=>i==(if a then 1 else 0)
 |_,.int i,.int j=>i==j|_,.str x,.str y=>x==y|n+1,.tup xs,.tup ys=>eqs (pP n) xs ys|n+1,.lst xs,.lst ys=>eqs (pP n) xs ys|_,_,_=>gh
abbrev plain:Nat->PV->Bool
 |_,.aN=>gf|_,.bl _=>gf|_,.int _=>gf|_,.str _=>gf|n+1,.tup xs=>xs.all (plain n)|n+1,.lst xs=>xs.all (plain n)|_,_=>gh
noncomputable abbrev DP:Nat:=9
noncomputable abbrev eqv:PV->PV->Bool:=pP DP
noncomputable abbrev mB:PV->Bool:=plain DP
inductive KY where|add|sub|mul|mod|fdiv
inductive tX where|eq|ne|lt|le|gt|ge|is|Gv|Ep|Iu
abbrev bp(i:Int):Bool:=decide (-(2^64)<i)&&decide (i<2^64)
abbrev binOp:KY->PV->PV->Res PV
 |.add,.int i,.int j=>.ok (.int (i+j))|.add,.str x,.str y=>if x.length+y.length<=bS then .ok (.str (x++y)) else .bad
 |.add,.lst x,.lst y=>if x.length+y.length<=bS then .ok (.lst (x++y)) else .bad
 |.add,.tup x,.tup y=>if x.length+y.length<=bS then .ok (.tup (x++y)) else .bad
 |.sub,.int i,.int j=>.ok (.int (i-j))|.mul,.int i,.int j=>if bp i||bp j then .ok (.int (i*j)) else .bad
 |.mod,.int i,.int j=>if 0<j then .ok (.int (i%j)) else .bad
 |.fdiv,.int i,.int j=>if 0<j/\j<1073741824 then .ok (.int (i/j)) else .bad
 |_,_,_=>.bad
abbrev bJ{a:Type}:List Str->List a->Str->Option a
 |b::ks,v::vs,k=>if b=k then fP v else bJ ks vs k
 |_,_,_=>gd
abbrev dN(ks:List Str)(k:Str):Bool:=ks.any λa=>decide (a=k)
abbrev eU(ks:List Str)(k:Str):List Str:=if dN ks k then ks else ks++[k]
abbrev df{a:Type}(ks:List Str)(vs:List a)(k:Str)(p:a):List a:=if dN ks k then List.zipWith (λb v=>if b=k then p else v) ks vs else vs++[p]
abbrev fV(ks:List Str)(k:Str):List Str:=ks.filter λa=>decide (a≠k)
abbrev bQ{a:Type}:List Str->List a->Str->List a
 |b::ks,v::vs,k=>if b=k then bQ ks vs k else v::bQ ks vs k
 |_,_,_=>[]
def gL(k:Str):PV:=.str k
abbrev fz:PV->Option Str
 |.str z=>fP z|_=>gd
abbrev vI:List PV->Option (List (Str×PV))
 |[]=>fP []|.tup [x,y]::r=>(fz x).bind λk=>(vI r).map ((k,y)::·)|_=>gd
abbrev cH{a:Type}:List (Str×a)->List Str->List a->List Str×List a
 |[],ks,vs=>(ks,vs)|p::r,ks,vs=>cH r (eU ks p.1) (df ks vs p.1 p.2)
abbrev V6(x:PV)(ys:List PV):Bool:=ys.any λy=>eqv y x
abbrev gN(a b:PV):Res PV:=if mB a&&mB b then .ok (.bl (eqv a b)) else .bad
abbrev hX(a b:PV):Res PV:=if mB a&&mB b then .ok (.bl (!eqv a b)) else .bad
abbrev vB:PV->PV->Res PV
 |.int i,.int j=>.ok (.bl (decide (i<j)))|_,_=>.bad
abbrev vA:PV->PV->Res PV
 |.int i,.int j=>.ok (.bl (decide (i<=j)))|_,_=>.bad
abbrev xt:PV->PV->Res PV
 |.int i,.int j=>.ok (.bl (decide (j<i)))|_,_=>.bad
abbrev xr:PV->PV->Res PV
 |.int i,.int j=>.ok (.bl (decide (j<=i)))|_,_=>.bad
abbrev yO:PV->Bool
 |.aN=>gf|_=>gh
abbrev EF:PV->PV->Res PV
 |a,.aN=>.ok (.bl (yO a))|_,_=>.bad
abbrev pZ:PV->PV->Res PV
 |a,.tup ys=>if mB a&&ys.all mB then .ok (.bl (V6 a ys)) else .bad
 |.str i,.str j=>.ok (.bl (!(i1.Str.occurrences j i 0 j.length 1).isEmpty))|a,.cA ks _=>(Res.of (fz a)).bind λk=>.ok (.bl (dN ks k))|_,_=>.bad
abbrev oM:PV->PV->Res PV
 |a,.cA ks _=>(Res.of (fz a)).bind λk=>.ok (.bl (!dN ks k))|_,_=>.bad
abbrev pU(a:List Str)(vs':List PV):List Str->List PV->Bool
 |k::ks,n::ns=>match bJ a vs' k with
  |some m=>eqv n m&&pU a vs' ks ns|none=>gh
 |_,_=>gf
abbrev qU:PV->PV->Res PV
 |.cA ks vs,.cA a vs'=>if vs.all mB&&vs'.all mB then .ok (.bl (!(ks.length==a.length&&pU a vs' ks vs))) else .bad
 |_,_=>.bad
abbrev cN:tX->PV->PV->Res PV
 |.eq=>gN|.ne=>hX|.lt=>vB|.le=>vA|.gt=>xt|.ge=>xr|.is=>EF|.Gv=>pZ|.Ep=>oM|.Iu=>qU
abbrev ay:PV->PV->Res PV
 |.lst xs,.int i=>Res.of (yi xs i)|.tup xs,.int i=>Res.of (yi xs i)|.str z,.int i=>if z.length<=bS then(Res.of (yi z.cps.toList i)).bind λc=>.ok (.str {#[c]}) else .bad
 |.cA ks vs,y=>(Res.of (fz y)).bind λk=>Res.of (bJ ks vs k)|_,_=>.bad
abbrev mG{a:Type}(xs:List a)(b c:Option Int):List a:=(xs.drop (HT.dS xs.length 0 b)).take (HT.dS xs.length xs.length c-HT.dS xs.length 0 b)
abbrev gQ:PV->Option Int->Option Int->Res PV
 |.tup xs,lo,a=>.ok (.tup (mG xs lo a))|.str z,lo,a=>if z.length<=bS then .ok (.str (Txt.slice z lo a)) else .bad
 |_,_,_=>.bad
inductive B where|len|str|tuple|all|sorted
abbrev boolsOf:List PV->Option (List Bool)
 |[]=>fP []|.bl b::r=>(boolsOf r).map (b::·)|_=>gd
abbrev chars(z:Str):List PV:=z.cps.toList.map λc=>.str {#[c]}
abbrev wB:List PV->Res PV
 |[.lst xs]=>.ok (.int xs.length)|[.tup xs]=>.ok (.int xs.length)|[.str z]=>if z.length<=bS then .ok (.int z.length) else .bad
 |[.cA ks _]=>.ok (.int ks.length)|_=>.bad
abbrev Cd:List PV->Res PV
 |[.int i]=>if i.natAbs.log2<1920 then .ok (.str (toString i)) else .bad
 |_=>.bad
abbrev nE:List PV->Res PV
 |[.lst xs]=>.ok (.tup xs)|_=>.bad
abbrev Cb:List PV->Res PV
 |[.lst xs]=>(Res.of (boolsOf xs)).bind λbs=>.ok (.bl (bs.all id))|_=>.bad
abbrev codes(z:Str):List Int:=z.cps.toList.map λ(c:Nat)=>(c:Int)
abbrev ko:List PV->Res PV
 |[.cA ks _]=>if ks.length<64 then .ok (.lst (ub .aN (ks.map gL) (ks.map codes))) else .bad
 |_=>.bad
abbrev gX:List PV->Res PV
 |[.lst xs]=>(Res.of (vI xs)).bind λps=>.ok (.cA (cH ps [] []).1 (cH ps [] []).2)|_=>.bad
abbrev fq:B->List PV->Res PV
 |.len=>wB|.str=>Cd|.tuple=>nE|.all=>Cb|.sorted=>ko
inductive Ty where|int|bool|str|tuple
abbrev oy:Ty->PV->Bool
 |.int,.int _=>gf|.int,.bl _=>gf|.bool,.bl _=>gf|.str,.str _=>gf|.tuple,.tup _=>gf|_,_=>gh
abbrev qe(t:Ty):PV->Res PV
 |.exc _=>.bad|.cA _ _=>.bad|.obj _=>.bad|p=>.ok (.bl (oy t p))
abbrev strsOf:List PV->Option (List Str)
 |[]=>fP []|.str z::r=>(strsOf r).map (z::·)|_=>gd
inductive M where|jy|index|join
abbrev vg:List PV->Res PV
 |[.str z,.lst xs]=>(Res.of (strsOf xs)).bind λys=>if z.length<=16/\(ys.map (·.length)).sum+ys.length<=bS then .ok (.str (Txt.join z ys)) else .bad
 |_=>.bad
abbrev kS:List PV->Res PV
 |[.lst xs,v]=>if mB v&&xs.all mB then .ok (.int ((xs.countP λy=>eqv y v:Nat):Int)) else .bad
 |_=>.bad
abbrev oE:List PV->Res PV
 |[.lst xs,v]=>if mB v&&xs.all mB&&decide (xs.length<1000) then(match xs.findIdx? λy=>eqv y v with|some j=>.ok (.int (j:Nat))|none=>.bad) else .bad
 |_=>.bad
abbrev za:M->List PV->Res PV
 |.join=>vg|.jy=>kS|.index=>oE
abbrev yW:M->PV->Bool
 |.join,.str _=>gf|.jy,.lst _=>gf|.index,.lst _=>gf|_,_=>gh
inductive Tg where
 |one (i:Nat)|two (i j:Nat)
mutual
inductive E where
 |var (i:Nat)|JH (i:Nat)
 |cst (p:PV)
 |glob (g:Str) (p:PV)
 |call (f:Str) (as:Es)
 |blt (b:B) (as:Es)
 |ty (t:Ty) (a:E)
 |yQ (c:Str) (a:E)
 |fg (m:M) (o:E) (as:Es)
 |bin (o:KY) (a b:E)
 |cmp (o:tX) (a b:E)
 |ch (o1 o2:tX) (a b c:E)
 |not (a:E)
 |neg (a:E)
 |and (a b:E)|or (a b:E)
 |ite (c a b:E)
 |tup (as:Es)|lst (as:Es)
 |sub (a b:E)
 |slice (a:E) (lo hi:Oe)
 |comp (k:Nat) (ba:List Nat) (tg:Tg) (it:I) (elt:E)
 |eQ (k:Nat) (ba:List Nat) (tg:Tg) (it:I) (c elt:E)
 |get (a k:E)
 |rev (a:E)
 |Ec (a:E)
 |fld (i:Nat) (f:Str)
 |con (a:E)
 |Pc
inductive Es where
 |nil|cons (e:E) (es:Es)
inductive Oe where
 |no|some (e:E)
inductive I where
 |seq (e:E)|sY (e:E)|zip (as:Es)
end
mutual
inductive S where
 |expr (e:E)
 |set (i:Nat) (e:E)
 |Gz (tg:Tg) (e:E)
 |own (i:Nat) (e:E)
 |b9 (i:Nat)
 |app (i:Nat) (e:E)
 |put (i:Nat) (k e:E)
 |ret (e:E)
 |ite (c:E) (a b:Ss)
 |hJ (tg:Tg) (it:I) (b:Ss)
 |raise (c:Str) (m:Str)
 |lV (i:Nat)
 |vC (i:Nat) (e:E)
 |par (i j:Nat) (as:Es)
inductive Ss where
 |nil|cons (s:S) (ss:Ss)
end
noncomputable abbrev aP:=Str->List PV->Res PV
def cW(f:Str):Str:="@"++f
noncomputable abbrev dW:Str:="@@"
abbrev iL:Option Slot->Res PV
 |some (.val p)=>.ok p|_=>.bad
abbrev zF:Option Slot->Res PV
 |some (.val p)=>.ok p|some (.own p)=>.ok p|_=>.bad
abbrev Tg.put:Tg->PV->Sl->Res Sl
 |.one i,p,env=>.ok (env.set i (.val p))|.two i j,.tup [a,b],env=>.ok ((env.set i (.val a)).set j (.val b))|_,_,_=>.bad
abbrev eX(env:Sl)(a:List Nat):Sl:=a.map λi=>env.getD i .no
abbrev itemsOf:PV->Res (List PV)
 |.lst xs=>.ok xs|.tup xs=>.ok xs|.str z=>.ok (chars z)|_=>.bad
abbrev xI(e:E)(p:PV):Res (List PV):=match p,e with
 |.cA _ _,.JH _=>.bad|.cA _ _,.con _=>.bad|.cA a _,_=>.ok (a.map gL)|p,_=>itemsOf p
abbrev fH(a:Int)(n:Nat):List PV:=(List.range n).map λi=>.int (a+(i:Nat))
abbrev cK(i:Int):Bool:=decide (-(2^62)<=i)&&decide (i<2^62)
abbrev So:PV->Option (List PV)
 |.lst xs=>fP xs|.tup xs=>fP xs|_=>gd
abbrev oY:List PV->Option (List (List PV))
 |[]=>fP []|p::r=>(So p).bind λxs=>(oY r).map (xs::·)
abbrev oG:List (List PV)->Nat
 |[]=>0|[xs]=>xs.length|xs::r=>min xs.length (oG r)
abbrev qf(xss:List (List PV)):List PV:=(List.range (oG xss)).map λi=>.tup (xss.map λxs=>xs.getD i .aN)
abbrev oc:Option PV->List PV->List PV
 |some y,ys=>y::ys|none,ys=>ys
abbrev aY(f:PV->Res (Option PV)):List PV->Res (List PV)
 |[]=>.ok []|x::xs=>(f x).well.bind λo=>(aY f xs).bind λys=>.ok (oc o ys)
abbrev wy{a:Type}(p:PV)(f:Bool->Res a):Res a:=match p with
 |.bl b=>f b|_=>.bad
section
variable(F:aP)
mutual
noncomputable def aB:E->Sl->Res PV
 |.var i,env=>iL env[i]?|.JH i,env=>zF env[i]?|.cst p,_=>.ok p|.glob _ p,_=>.ok p|.call f as,env=>(br as env).bind λps=>F f ps|.blt b as,env=>(br as env).bind λps=>fq b ps|.ty t a,env=>(aB a env).bind λp=>qe t p|.yQ c a,env=>(aB a env).bind λp=>match p with
  |.exc d=>.ok (.bl (if c==(zu 2) then gf else(c==d||c==(zu 8))))
  |_=>.bad
 |.fg m o as,env=>(aB o env).bind λp=>if yW m p then(br as env).bind λps=>za m (p::ps) else .bad
 |.bin o a b,env=>(aB a env).bind λx=>(aB b env).bind λy=>binOp o x y|.cmp o a b,env=>(aB a env).bind λx=>(aB b env).bind λy=>cN o x y|.ch o1 o2 a b c,env=>(aB a env).bind λx=>(aB b env).bind λy=>(cN o1 x y).bind λt=>wy t λt=>if t then(aB c env).bind λz=>cN o2 y z else .ok (.bl gh)
 |.not a,env=>(aB a env).bind λx=>wy x λb=>.ok (.bl (!b))|.neg a,env=>(aB a env).bind λx=>match x with|.int i=>.ok (.int (-i))|_=>.bad
 |.and a b,env=>(aB a env).bind λx=>wy x λt=>if t then aB b env else .ok (.bl gh)
 |.or a b,env=>(aB a env).bind λx=>wy x λt=>if t then .ok (.bl gf) else aB b env
 |.ite c a b,env=>(aB c env).bind λx=>wy x λt=>if t then aB a env else aB b env
 |.tup as,env=>(br as env).bind λps=>.ok (.tup ps)|.lst as,env=>(br as env).bind λps=>.ok (.lst ps)|.sub a b,env=>(aB a env).bind λx=>(aB b env).bind λy=>ay x y|.slice a lo j,env=>(aB a env).bind λx=>(Gq lo env).bind λl=>(Gq j env).bind λh=>gQ x l h|.comp k e g it elt,env=>(wO it env).bind λxs=>if xs.length<bS then(aY (λx=>(g.put x (jz k .no++eX env e)).bind λenv'=>(aB elt env').bind λy=>.ok (fP y)) xs).bind λys=>.ok (.lst ys) else .bad
 |.eQ k e g it c elt,env=>(wO it env).bind λxs=>if xs.length<bS then(aY (λx=>(g.put x (jz k .no++eX env e)).bind λenv'=>(aB c env').bind λt=>wy t λt=>if t then(aB elt env').bind λy=>.ok (fP y) else .ok gd) xs).bind λys=>.ok (.lst ys) else .bad
 |.get a k,env=>(aB a env).bind λp=>match p with|.cA ks vs=>(aB k env).bind λq=>(Res.of (fz q)).bind λz=>.ok ((bJ ks vs z).getD .aN)|_=>.bad
 |.rev a,env=>(aB a env).bind λp=>match p with|.str z=>(if z.length<=bS then .ok (.str (l7 z)) else .bad)|.tup xs=>.ok (.tup xs.reverse)|.lst xs=>.ok (.lst xs.reverse)|_=>.bad
 |.fld i f,env=>(iL env[i]?).bind λp=>F (cW f) [p]|.con a,env=>(aB a env).bind λp=>F dW [p]|.Pc,_=>.ok (.cA [] [])|.Ec a,env=>(aB a env).bind λp=>match p with|.tup xs=>.ok (.lst xs.reverse)|_=>.bad
noncomputable def br:Es->Sl->Res (List PV)
 |.nil,_=>.ok []|.cons e a,env=>(aB e env).bind λp=>(br a env).bind λps=>.ok (p::ps)
noncomputable def Gq:Oe->Sl->Res (Option Int)
 |.no,_=>.ok gd|.some e,env=>(aB e env).bind λp=>match p with|.int i=>.ok (fP i)|_=>.bad
noncomputable def wO:I->Sl->Res (List PV)
 |.seq e,env=>(aB e env).bind (xI e)|.sY e,env=>(aB e env).bind λp=>match p with|.int j=>if cK j then .ok (fH 0 j.toNat) else .bad|_=>.bad
 |.zip as,env=>(br as env).bind λps=>(Res.of (oY ps)).bind λxss=>.ok (qf xss)
end
end
inductive Fl where
 |nx (env:Sl)|bk (env:Sl)|ct (env:Sl)|rt (p:PV)
abbrev Fl.seq(f:Fl)(k:Sl->Res Fl):Res Fl:=match f with
 |.nx env=>k env|f=>.ok f
abbrev forL(body:PV->Sl->Res Fl):List PV->Sl->Res Fl
 |[],env=>.ok (.nx env)|x::xs,env=>(body x env).bind λf=>match f with
  |.nx env'=>forL body xs env'|.ct env'=>forL body xs env'|.bk env'=>.ok (.nx env')|.rt p=>.ok (.rt p)
abbrev Slot.aZ:Slot->Bool
 |.own _=>gf|_=>gh
abbrev rY:Slot->Slot
 |.own p=>.val p|s=>s
section
variable(F:aP)
mutual
noncomputable def dH:S->Sl->Res Fl
 |.expr e,env=>(aB F e env).bind λZ=>.ok (.nx env)|.set i e,env=>(aB F e env).bind λp=>.ok (.nx (env.set i (.val p)))|.Gz d e,env=>(aB F e env).bind λp=>(d.put p env).bind λenv'=>.ok (.nx env')|.own i e,env=>(aB F e env).bind λp=>.ok (.nx (env.set i (.own p)))|.b9 i,env=>.ok (.nx (env.modify i rY))|.app i e,env=>match env[i]? with
  |some (.own (.lst xs))=>(aB F e env).bind λp=>if xs.length<bS then .ok (.nx (env.set i (.own (.lst (xs++[p]))))) else .bad
  |_=>.bad
 |.put i k e,env=>(aB F e env).bind λp=>match env[i]? with
  |some (.own (.cA ks vs))=>(aB F k env).bind λkp=>match fz kp with
   |some f=>if ks.length<bS then .ok (.nx (env.set i (.own (.cA (eU ks f) (df ks vs f p))))) else .bad
   |none=>.bad
  |_=>.bad
 |.ret e,env=>(aB F e env).bind λp=>.ok (.rt p)|.ite c a b,env=>(aB F c env).bind λp=>wy p λt=>if t then bM a env else bM b env
 |.hJ d it b,env=>(wO F it env).bind λxs=>forL (λx env=>(d.put x env).bind λenv'=>bM b env') xs env|.raise c _,_=>.exc c|.vC i e,env=>(aB F e env).bind λp=>(gX [p]).bind λq=>.ok (.nx (env.set i (.own q)))|.lV i,env=>.ok (.nx (env.set i (.own (.cA [] []))))|.par i j as,env=>(br F as env).bind λps=>match ps with
  |[p,q]=>.ok (.nx ((env.set i (.val p)).set j (.val q)))|_=>.bad
noncomputable def bM:Ss->Sl->Res Fl
 |.nil,env=>.ok (.nx env)|.cons s ss,env=>(dH s env).bind λf=>f.seq (bM ss)
end
end
structure Def where
 N:List Str
 np:Nat
 body:Ss
 uB:Option (Str×List Nat):=gd
abbrev fC(d:Def)(as:List PV):Sl:=as.map .val++jz (d.N.length-as.length) .no
abbrev fj(d:Def)(as:List PV):Bool:=match d.uB with
 |none=>as.length==d.np|some _=>gh
abbrev aW(F:aP)(d:Def)(as:List PV):Res PV:=
 if fj d as then(bM F d.body (fC d as)).bind λf=>match f with
  |.nx _=>.ok .aN|.rt p=>.ok p|_=>.bad
 else .bad
abbrev aI(B:aP):List (Str×Def)->aP
 |[],f,as=>B f as|(n,d)::r,f,as=>if f==n then aW (aI B r) d as else aI B r f as
noncomputable abbrev We:aP:=λZ Z=>.bad
noncomputable abbrev den:List (Str×Def)->aP:=aI We
abbrev P6(x:Str):Bool:=x.cps[0]?==fP 64
end Ci
variable{it:Ci.I}
namespace L2
open PySem.Spec PyProof.Rows PySem.W
section
variable{s:gB}{d:hB}{aA:List (Key×V)}
def CD{P:hG}(x:cb P w H h d (.dK aA)):(d==sysModules)=gh/\(aA.map (·.1)).Nodup/\∃o b f,h.get? d=fP o/\o.ExactDict/\o.data=.dict b f/\b.size=aA.length/\∀(i:Nat) (h:i<b.size),∃k v,aA[i]?=fP (k,v)/\(bu P w).is k b[i].key=gf/\RelV v b[i].val:=by
 let(C,j,xs,c,o,b,f,m,p,h3,D,g,r):=x;have hl:b.size=xs.length:=by rw [<-d3];exact g.length
 have t:aA.length=xs.length:=Paired.length c;have u:aA.map (·.1)=xs.map (·.1):=c.keys;refine{j,u▸r,o,b,f,m,p,h3,hl.trans t.symm,λi y=>?_};have q:=xy c (zzg (show i<aA.length by lia)) (zzg (show i<xs.length by lia));let(A,B):=g.get? (i:=i) (e:=b[i]) (k:=xs[i].1) (v:=xs[i].2) (by rw [Array.getElem?_toList];exact ez y) (by rw [zzg (show i<xs.length by lia)]);exact{_,_,zzg (show i<aA.length by lia),(congrArg (λz=>(bu P w).is z b[i].key) q.1).trans A,by rw [B];exact q.2}
def CF(I:zv2 s)(e:Rd H d (.dK aA)):(d==sysModules)=gh/\(aA.map (·.1)).Nodup/\∃o b c,s.heap.get? d=fP o/\o.ExactDict/\o.data=.dict b c/\b.size=aA.length/\∀(i:Nat) (h:i<b.size),∃k v,aA[i]?=fP (k,v)/\(bu X.prog X.w).is k b[i].key=gf/\RelV v b[i].val:=CD (e.ok I.aQ)
def vL{P:hG}{k:Key}{v:gA}(h:(bu P w).is k v=gf):RelV (kV k) v:=by
 rcases bG (k:=k) h with⟨i,t,rfl,rfl⟩|⟨x,t,rfl,rfl⟩
 .exact⟨t,rfl⟩
 .exact⟨t,rfl⟩
def Inv.rX(I:zv2 s)(e:H a=fP (.dK aA)):∃o,Inv X aa σ (upd H a (.b9 o (.dK aA))) s:=by let(z,f,xs,b,o,g,h,c,i):=(show cb X.prog X.w H s.heap a (.dK aA) from I.aQ a _ e);exact{o,kG (h':=s.heap) (t':=s.toks) I (by rw [e];exact True.intro) {rfl,λZ Z=>rfl} ⟨o,c⟩ ⟨c,z,f,xs,b,o,g,h,c,i⟩}
end
abbrev Ub(a:hB)(o:Obj)(b:List (Key×V)):It:=
 {λi H=>H a=fP (.b9 o (.dK b))/\i<b.length,λi H x c=>c=H/\∃k v,x=kV k/\b[i]?=fP (k,v),λi H=>H a=fP (.b9 o (.dK b))/\b.length<=i}
def wN{j:St}{s:gB}{c:List (Key×V)}(I:Inv X aa j H s)(e:H a=fP (.b9 o (.dK c))):
 (a==sysModules)=gh/\s.heap.get? a=fP o/\o.ExactDict/\∃b d,o.data=.dict b d/\b.size=c.length/\∀(i:Nat) (h:i<b.size),∃k v,RelV (kV k) b[i].key/\c[i]?=fP (k,v):=by
 let(f,ok):=(show cb X.prog X.w H s.heap a (.b9 o (.dK c)) from I.aQ a _ e);let(m,_,u,b,d,g,p,h3,hl,hk):=CD ok;rw [f] at g;cases g;exact{m,f,p,b,d,h3,hl,λi q=>let⟨k,v,r,t,_⟩:=hk i q;{k,v,vL t,r}}
def xW{P:hG}{K:zz8}{U:hD}{it:hB}{j:Array DictEntry}{M:Nat}{N:List (Key×V)}(hd:o.data=.dict j M)(hl:j.size=N.length):
 Turn P w K U (Ub a o N) [it] it (λi h=>h.IsKeyIter it a i j.size M) where
 mem:=by simp
 obj:=λi h st b f=>by have e:b=it:=zx6 f;subst e;let(q,e,c,d):=st;exact{q,e,λv z=>by rw [d] at z;cases z}
 keep:=λi h m st k=>st.at λo e=>k it (by simp) o e
 item:=by
  intro X r t hK O i Q s R H E I p st u;subst r t hK;let(g1,g2):=u;let(W,y,Y,A,B,h3,Z,g):=wN I g1;rw [hd] at h3;cases h3;let(C,D,f2,F,G,L):=p it (by simp);have S:i<j.size:=by lia
  refine yH st y hd S λm T sb=>?_;let(k,v,e1,e2):=g i S;have I1:Inv X Q R H {s with heap:=m}:=I.turned (t':=s.toks) (λb o f e=>(sb.2 b f).trans e) C D F G L;let(q,e,c,d):=id T;exact{_,rfl,uW (s:={s with heap:=m}) e c d (by decide) {kV k,H,I1,e1,⟨rfl,k,v,rfl,e2⟩,T,λb f=>(p b f).1}}
 done:=by intro X r t hK O i Q s R H E I p st u;subst r t hK;let(g1,g2):=u;let(W,y,Y,A,B,h3,Z,g):=wN I g1;rw [hd] at h3;cases h3;let(C,D,f2,F,G,L):=p it (by simp);exact DC (I.ok.hd O) st y hd (by lia) λm eb=>{rfl,I.turned (t':=s.toks) (λb o f e=>eb b o f e) C D F G L}
 self:=λ_ _ _ _ _ st h=>wpAny_pyIter_keyiter st h
abbrev Z8(d:TE):TI:=λe H R=>d e H λx b=>∃a o c,x=.ref a/\b a=fP (.b9 o (.dK c))/\R (Ub a o c) b
def Sd{i l:hD}{g:TE}(hl:PE X l g):PI X i l (Z8 g):=by intro j s k H R I h;refine bU (hl j s k H _ I h) λv c f=>?_;let(x,m,d,p,r):=f;let(a,o,C,e,t,q):=r;subst e;cases p;let(u,w,y,D,E,h3,z,A):=wN d t;refine yG u w y h3 ?_;refine{(zz9 c),[(zz9 c)],_,_,m,rfl,d.kept (t':=c.toks) λb o e=>aT _ e,xW h3 z,{_,dV _ rfl,rfl,rfl},λb B=>?_,q};have e:b=(zz9 c):=zx6 B;subst e;exact d.uS (a8 _) (d.aQ.fresh (a8 _))
noncomputable abbrev zZ(K:zz8)(H:Hp)(vs:List V)(b:List (Key×V)):Prop:=Paired (λv a=>∃q,v=V.ref q/\gH K H q [kV a.1,a.2]) vs b
def gH.LN{K:zz8}{f:Hp}{d:hB}{xs:List V}(h:gH K H a xs)(e:∀b,b≠d->f b=H b){c:List (Key×V)}(hd:H d=fP (.dK c)):gH K f a xs:=by
 rcases h with(h|⟨o,h⟩)|h
 .exact .inl (.inl (by rw [e a (vq h hd nofun)];exact h))
 .exact .inl (.inr {o,by rw [e a (vq h hd nofun)];exact h})
 .exact .inr h
def iQ.LN{K:zz8}{f:Hp}{d:hB}{xs:List V}(h:iQ K H a xs)(e:∀b,b≠d->f b=H b){c:List (Key×V)}(hd:H d=fP (.dK c)):iQ K f a xs:=by
 rcases h with(h|⟨o,h⟩)|h
 .exact .inl (.inl (by rw [e a (vq h hd nofun)];exact h))
 .exact .inl (.inr {o,by rw [e a (vq h hd nofun)];exact h})
 .exact .inr h
section
variable{l d it:hB}{E:jW}{R:Result->gB->Prop}
def LA{s:gB}{b:List (Key×V)}{k:Key}{r:gA}{Q:Unit->gB->Prop}(y:A.units<cLine)(I:zv2 s)(e:H a=fP (.dK b))(g:RelV (kV k) u)(l:b.length<iv)(i:RelV v r)
 (h:∀h' t,ig.SameBut a s.heap h'->Inv X aa σ (upd H a (.dK (putK b k v))) {s with heap:=h',toks:=t}->Q () {s with heap:=h',toks:=t}):hF (hT X.prog X.w) A (dictSet a u r) Q E s:=by
 let(z,j,xs,c,m):=CC I.aQ e;have p:xs.length<=sizeLine:=by rw [<-c.length];exact z
 have hl:(putK b k v).length<=sizeLine:=by have:=fO b k v;lia
 refine wpAny_dictSet_pairs (hsz:=p) (mn g) m λh' f hs=>h h' _ hs ?_;let(o,_,_,q,_):=id f;exact kG I (by rw [e];exact True.intro) hs ⟨o,q⟩ {hl,j,_,c.put k i,f}
def CG(hu:A.units+1<cLine)(hh:A.handled=gd):∀(rest:List (Key×V)) (i:Nat) (j:Int) (a:List (Key×V)) (H:Hp) (s:gB),Inv X aa σ H s->jo X aa H it->s.heap.IsListIter it l i->iQ X.K H l vs->zZ X.K H (vs.drop i) rest->H d=fP (.dK a)->a.length+rest.length<=iv->
 (∀s' t,Inv X aa σ t s'->t d=fP (.dK (iH a rest))->(∀b,b≠d->t b=H b)->R (.ok (.ret .none)) s')->codeAny (hT X.prog X.w) A (.builtin "dict.update.loop" {[.ref d,.ref it,rawInt j,.none],[]}) R s:=by
 intro rest
 induction rest with
 |nil=>
  intro i j a H s I Q st hl g hd S k;let(aw,T,p,_):=I.list hl;let(m,C,f2,D,F,G):=Q
  have hi:vs.length<=i:=List.drop_eq_nil_iff.mp (by cases h:vs.drop i with|nil=>rfl|cons x r=>rw [h] at g;cases g);have hle:=T.length;refine codeAny_builtin uM ?_;rw [fx kK _];show hF _ A.in1 (pyNext (.ref it)>>=λz=>_) _ _ s;refine ar (wpAny_pyNext_list_end hh st p.isList (by simp;lia) λL eb=>?_);show hF _ _ (i1.Dict.addKeywords d []>>=λ_=>_) _ _ _;exact ar (bT (bT (k _ H (I.turned (t':=s.toks) (λb o U e=>eb b o U e) m C D F G) hd λ_ _=>rfl)))
 |cons f rest ih=>
  intro i j a H s I Q st hl g hd S k;let(aw,T,p,_):=I.list hl;let(m,C,f2,D,F,G):=id Q
  obtain⟨v,M,hv,⟨q,rfl,hq⟩,W⟩:∃v M,vs.drop i=v::M/\(∃q,v=V.ref q/\gH X.K H q [kV f.1,f.2])/\zZ X.K H M rest:=by
   cases h:vs.drop i with
   |nil=>rw [h] at g;cases g
   |cons x r=>rw [h] at g;cases g with|cons Y N=>exact⟨x,r,rfl,Y,N⟩
  have Z5:vs[i]?=fP (.ref q):=by rw [<-List.head?_drop,hv];rfl
  have Z6:vs.drop (i+1)=M:=by rw [<-List.drop_drop,hv];rfl
  let(u,MR,ru):=T.get Z5;cases(show u=gA.ref q from ru);refine codeAny_builtin uM ?_;rw [fx kK _];show hF _ A.in1 (pyNext (.ref it)>>=λz=>_) _ _ s;refine ar (wpAny_pyNext_list_item st p.isList (x:=gA.ref q) (zx6 MR) λL kh sb=>?_);have I1:Inv X aa σ H {s with heap:=L}:=I.turned (t':=s.toks) (λb o U e=>(sb.2 b U).trans e) m C D F G;let(fX,Z,p2,_):=I1.tuple hq;let(o2,g1,g2,n2,g3):=id p2
  obtain⟨y,B,rfl,ru1,ru2⟩:∃y B,fX=[y,B]/\RelV (kV f.1) y/\RelV f.2 B:=by cases Z with|cons Y N=>cases N with|cons h3 h4=>cases h4;exact{_,_,rfl,Y,h3}
  show hF _ A.in1 (holding [gA.ref q] _>>=λz=>_) _ _ {s with heap:=L};refine ar (wpAny_holding (ar (wpAny_tryCatch ?_)));unfold i1.Dict.pairItems;refine ar (wpAny_typeOf (s:={s with heap:=L}) ⟨o2,g1,g2⟩ ?_);rw [if_pos (by decide)];refine ar (wpAny_seqItems g1 g3 (bT ?_));show hF _ A.in1 (holding [y,B] (dictSet d y B)) _ _ _;refine wpAny_holding (LA hu I1 hd ru1 (by rw [cC] at S;lia) ru2 λN t2 sb2 I2=>?_);have O:∀c,c≠d->upd H d (.dK (putK a f.1 f.2)) c=H c:=λc P=>ai P;have nd:it≠d:=λz=>by rw [z,hd] at m;cases m
  refine bT {plainId_quiet kK _,ih (i+1) (j+1) _ _ _ I2 {by rw [O _ nd];exact m,C,f2,D,F,G} (kh.at λo e=>(sb2.2 it nd).trans e) (iQ.LN hl O hd) (by rw [Z6];exact Paired.Ip W λ_ _ ⟨q,e1,e2⟩=>{q,e1,gH.LN e2 O hd}) ak ?_ λs' t J1 J2 J3=>k s' t J1 J2 λc P=>(J3 c P).trans (O c P)};have:=fO a f.1 f.2;rw [cC] at S;lia
def nH(D:X.calm=gf)(Z:X.A.units+3<cLine):dP X (.type "dict") (λxs H Q=>∃l vs g,xs=[V.ref l]/\iQ X.K H l vs/\zZ X.K H vs g/\∀p,H p=gd->Q (.ref p) (upd H p (.dK (iH [] g)))):=by
 intro aa s σ H xs us Q I r h;let(l,vs,g,rfl,hl,m,q):=h;let(u,rfl,G):=vals1 r;cases G;have t:X.A.handled=gd:=I.ok.hd D
 refine callType_codes (Q₁:=λobj c=>obj=.ref (zz9 s)/\c={s with heap:=s.heap.push {cls:=.type "dict",data:=.dict #[]}}) F.kt_called_dict (F.kt_typeCall_dict_1 _) F.entry_dict_init (kt_code_dict_new _ ⟨rfl,rfl⟩) ?_
 rintro obj c ⟨rfl,rfl⟩
 have w:H (zz9 s)=gd:=I.aQ.fresh (a8 _);have y:=I.laid (a:=(zz9 s)) (o:=.dK []) (t':=s.toks) (λ_ _ q=>aT _ q) (a8 _) (uL s.heap I.big);have T:({s.heap.push {cls:=.type "dict",data:=.dict #[]},s.gens,s.drawn,s.toks,s.os}:gB).TypeIs (.ref (zz9 s)) "dict":={_,dV _ rfl,rfl};have same:az H (upd H (zz9 s) (.dK [])):=bt w;have k:iQ X.K (upd H (zz9 s) (.dK [])) l vs:=same.seq hl;let(aw,rv,p,hz):=y.list k;let(o,n,g1,g2,L,M):=id p;refine{T,F.args_dict_init_2 _ _,?_};unfold i1.«dict.__init__» i1.Dict.selfAndRest;refine ar (ar (wpAny_notOrdered_dict T ?_));show hF _ _ (pure ((zz9 s),[gA.ref l]):Sem _) _ _ _;refine bT ?_;show hF _ _ (i1.Dict.updateFrom "dict.__init__" (zz9 s) (.ref l) [] .none) _ _ _;unfold i1.Dict.updateFrom;refine ar (wpAny_typeOf ⟨o,g1,g2⟩ ?_);rw [if_pos (by decide)];refine ar (Hg g1 g2 M L t λh' z hk=>?_);rw [if_pos (by decide)];refine ar (wpAny_rule ?_);have i:=y.kept (h':=h') (t':=z) hk;let(B,N,O,_):=i.list k;refine ar (wpAny_pyIter_list O.isList ?_);have P:=i.kept (h':=h'.push {cls:=.type "list_iterator",data:=.fields #[.ref l,.int 0 0]}) (t':=z) λb o e=>aT _ e;have FE:(h'.push {cls:=.type "list_iterator",data:=.fields #[.ref l,.int 0 0]}).IsListIter h'.objs.size l 0:={_,dV _ rfl,rfl,rfl};have S:jo X aa (upd H (zz9 s) (.dK [])) h'.objs.size:=i.uS (a8 _) (i.aQ.fresh (a8 _));refine bT {plainId_quiet kK _,CG (X:=X) (A:=X.A.in1) (aa:=aa) (σ:=σ) (l:=l) (d:=(zz9 s)) (it:=h'.objs.size) (vs:=vs) (by show X.A.units+1+1<cLine;lia) (show X.A.in1.handled=gd from t) g 0 0 [] _ _ P S FE k ?_ ak ?_ λs' U C J2 W=>{rfl,?_}}
 .exact Paired.Ip m λ_ _ ⟨q,Y,f⟩=>{q,Y,(show gH X.K _ q _ from by
   rcases f with(f|⟨o,f⟩)|f
   .exact .inl (.inl (same _ _ f))
   .exact .inl (.inr {o,same _ _ f})
   .exact .inr f)}
 .have:=Paired.length m;rw [List.length_nil];lia
 .have e:U=upd H (zz9 s) (.dK (iH [] g)):=by
   funext b
   by_cases j:b=(zz9 s)
   .rw [j,ak];exact J2
   .rw [ai j,W b j,ai j]
  rw [e] at C;exact{.ref (zz9 s),_,C,rfl,q _ w}
def ux(e:X.calm=gf)(f:X.A.units+3<cLine):dP X (.type "dict") (λxs H Q=>∃l vs a,xs=[V.ref l]/\iQ X.K H l vs/\zZ X.K H vs a/\∀p o,H p=gd->Q (.ref p) (upd H p (.b9 o (.dK (iH [] a))))):=by
 intro aa s σ H xs g Q I r h;let(l,vs,a,rfl,hl,i,q):=h;refine wpAny_mono (nH e f aa s σ H _ g (λv c=>∃p,v=.ref p/\H p=gd/\c=upd H p (.dK (iH [] a))) I r {l,vs,a,rfl,hl,i,λp b=>⟨p,rfl,b,rfl⟩}) ?_ λZ Z z=>z
 rintro u m ⟨v,c,j,k,p,rfl,b,rfl⟩
 let(o,J):=j.rX ak;rw [zR] at J;exact{_,_,J,k,q p o b}
end
noncomputable abbrev jw(z:Str):List Int:=z.cps.toList.map λ(c:Nat)=>(c:Int)
theorem yV:∀(a b:List Nat),decide (a<b)=HT.lexLt (a.map λ(c:Nat)=>(c:Int)) (b.map λ(c:Nat)=>(c:Int))
 |[],[]=>by simp [HT.pW]|[],_::_=>by simp [HT.lexLt]|_::_,[]=>by simp [HT.lexLt]|x::a,y::b=>by
  rw [bc,bc,HT.xi,<-yV a b];by_cases e:x=y
  .subst e;rw [if_pos rfl];simp [List.cons_lt_cons_iff]
  .rw [if_neg (by lia)];simp [List.cons_lt_cons_iff,e]
section
variable{E:jW}{s:gB}
def Fj:∀{us:List gA} {c:List Str},Vals (c.map V.str) us->2<=us.length->S8 prog w A E us (λi j=>HT.lexLt ((c.map jw).getD i []) ((c.map jw).getD j [])) s:=λ{us c} r d=>by
 have hl:c.length=us.length:=by have:=r.length;simpa using this
 have sa:StrsAre us c:=by
  clear d hl
  induction c generalizing us with
  |nil=>cases r;exact .nil
  |cons z c g=>
   cases r with
   |cons h t=>let(D,rfl):=h;exact .cons _ _ (g t)
 have at_:∀(i:Nat) (f:i<us.length),∃t,us.getD i gA.none=.str (c[i]'(by lia)) t:=λi f=>by let(u,k,d):=r.get (i:=i) (x:=V.str (c[i]'(by lia))) (by rw [c4,zzg (show i<c.length by lia)];rfl);let(t,rfl):=d;exact{t,by simp [k]}
 refine{oneType',λQ q=>?_,λi j C f m hC=>?_}
 .obtain⟨a,b,e,rfl⟩:∃a b e,us=a::b::e:=by
   match us,d with
   |a::b::e,_=>exact⟨a,b,e,rfl⟩
  rw [keyKind_strs sa];exact bT q
 .let(F,o):=at_ i f
  let(t2,p):=at_ j m
  unfold kas_ask;rw [o,p];refine kas_lt_str ?_;have y:(c.map jw).getD i []=jw (c[i]'(by lia)):=by simp [show i<c.length by lia]
  have B:(c.map jw).getD j []=jw (c[j]'(by lia)):=by simp [show j<c.length by lia]
  dsimp only at hC;rw [y,B] at hC;rw [yV];exact hC
def rJ(B:X.calm=gf):dP X (.builtin "sorted") (λxs H Q=>∃a e,∃b:List Str,xs=[V.ref a]/\Rd H a (.dK e)/\e.map (·.1)=b.map Sum.inr/\e.length<64/\
 ∀p,H p=gd->Q (.ref p) (upd H p (.lst (ub V.aN (b.map V.str) (b.map jw))))):=by
 intro S s T H xs d Q I r h;let(a,e,b,rfl,hl,hk,U,q):=h;let(u,rfl,C):=vals1 r;cases C;let(D,_,o,W,Y,F,G,h3,Z,f):=CF I hl;refine Calls.call_function_entry kind_sorted plain_sorted entry_sorted (args_sorted1 _) ?_;unfold i1.«sorted»;refine ar (m:=checkCount "sorted" 1 1 _) (bT (ar (uC (FD D G h3) (show X.A.in1.handled=gd from I.ok.hd B) F (by rw [sizeLine_eq];lia) λh' K c kp it=>?_)));have w:=I.kept (t':=K) (h':=h') kp;have L:b.length=e.length:=by have:=congrArg List.length hk;simpa using this.symm
 have hs:c.toList.length=b.length:=by rw [d3,it.1];lia
 have g:∀(i:Nat) v z,c.toList[i]?=fP v->b[i]?=fP z->RelV (V.str z) v:=λi v z j t=>by
  let(M,g):=it.2 i v (by rw [<-Array.getElem?_toList];exact j);let(k,x,g1,g2,_):=f i M;have N:k=.inr z:=by have:=congrArg (λl=>l[i]?) hk;simp! [c4,g1,t,Option.map_some] at this;exact zzq this
  subst N;rw [g];exact vL g2
 have y:Vals (b.map V.str) c.toList:=by
  clear it f hk I w q L;generalize c.toList=d at hs g
  induction b generalizing d with
  |nil=>cases d with
   |nil=>exact .nil|cons u d=>simp at hs
  |cons z b O=>
   cases d with
   |nil=>simp at hs|cons u d=>exact .cons (g 0 u z rfl rfl) (O d (zx6 hs) λi v ns j t=>g (i+1) v ns (zx6 j) (zx6 t))
 exact xO w y (λP h' k=>Fj y P) (by rw [zzl];lia) λp R=>q p R
end
end L2
namespace Ci
open L2
noncomputable abbrev ki(k:Str):Key:=Sum.inr k
def xf{a b:Str}(h:ki a=ki b):a=b:=Sum.inr.inj h
theorem i3{k:Str}{u:V}{us:List V}:kz (k::ks) (u::us)=(ki k,u)::kz ks us:=rfl
theorem Nd{us:List V}:kz [] us=[]:=rfl
def iD{us:List V}(h:ks.length=us.length):(kz ks us).length=ks.length:=by unfold kz;rw [List.length_zip,zzl];lia
def yU{us:List V}(h:ks.length=us.length):(kz ks us).map (·.1)=ks.map ki:=by unfold kz;exact List.map_fst_zip (by rw [zzl];lia)
theorem iE(k:Str):∀(ks:List Str) (us:List V),lH (kz ks us) (ki k)=bJ ks us k
 |[],us=>by unfold bJ;rfl|a::ks,[]=>by unfold bJ;rfl|a::ks,u::us=>by
  rw [i3];unfold bJ;by_cases h:a=k
  .subst h;rw [if_pos rfl];exact lJ rfl
  .rw [if_neg h,lI (λz=>h (xf z))];exact iE k ks us
theorem iX{b:Type}(k:Str):∀(ks:List Str) (us:List b),ks.length=us.length->(bJ ks us k).isSome=dN ks k
 |[],[],_=>rfl|a::ks,u::us,h=>by
  unfold bJ dN;rw [List.any_cons];by_cases e:a=k
  .simp [e]
  .rw [if_neg e];have:=iX k ks us (zx6 h);unfold dN at this;rw [this];simp [e]
 |[],_::_,h=>by simp at h|_::_,[],h=>by simp at h
def K9(k:Str):∀(ks:List Str) (us:List V),ks.length=us.length->((kz ks us).any λa=>decide (a.1=ki k))=dN ks k:=λks us h=>by rw [pB,iE,iX k ks us h]
def xg{us:List V}(h:ks.length=us.length)(k:Str)(v:V):putK (kz ks us) (ki k) v=kz (eU ks k) (df ks us k v):=by
 unfold putK eU df;rw [K9 k ks us h];split
 .have go:∀(ks:List Str) (us:List V),(kz ks us).map (λb=>if b.1=ki k then(b.1,v) else b)=kz ks (List.zipWith (λc u=>if c=k then v else u) ks us):=by
   intro ks
   induction ks with
   |nil=>intro us;simp [kz]|cons a ks d=>
    intro us;cases us with
    |nil=>simp [kz]|cons u us=>
     rw [i3,bc,List.zipWith_cons_cons,i3,d];by_cases e:a=k
     .simp [e]
     .rw [if_neg (λz=>e (xf z)),if_neg e]
  exact go ks us
 .unfold kz;rw [List.map_append,List.zip_append (by rw [zzl];exact h)];rfl
def oR{a:Type}{us:List a}(h:ks.length=us.length)(k:Str)(v:a):(eU ks k).length=(df ks us k v).length:=by
 unfold eU df;split
 .rw [List.length_zipWith];lia
 .simp [h]
theorem yT(k:Str):∀{ks:List Str} {us:List V},ks.length=us.length->gk (kz ks us) (ki k)=kz (fV ks k) (bQ ks us k)
 |[],[],_=>rfl|a::ks,u::us,h=>by
  have b:=yT k (ks:=ks) (us:=us) (zx6 h);unfold fV bQ;rw [i3,eA];by_cases e:a=k
  .subst e;rw [Aw rfl,b];simp [fV]
  .rw [Av (λz=>e (xf z)),b,if_neg e,if_pos (zx6 e),i3];rfl
 |[],_::_,h=>by simp at h|_::_,[],h=>by simp at h
theorem uN{c:Type}(k:Str):∀{ks:List Str} {us:List c},ks.length=us.length->(fV ks k).length=(bQ ks us k).length
 |[],[],_=>by unfold bQ;rfl|a::ks,u::us,h=>by
  have b:=uN k (ks:=ks) (us:=us) (zx6 h);unfold fV bQ;rw [eA];by_cases e:a=k
  .subst e;rw [if_neg (by simp),if_pos rfl];exact b
  .rw [if_neg e,if_pos (zx6 e),cC,cC];exact congrArg (·+1) b
 |[],_::_,h=>by simp at h|_::_,[],h=>by simp at h
section
variable{W:Wd}
theorem lK{k:Str}:∀{ks:List Str} {ps:List PV} {us:List V},ah W G ps us->bJ ks ps k=fP p->∃v,bJ ks us k=fP v/\Rep W G p v
 |[],_,_,_,e=>by unfold bJ at e;cases e
 |a::ks,[],_,_,e=>by unfold bJ at e;cases e
 |a::ks,q::ps,_,l,e=>by
  let(v,r,rfl,b,c):=l.bo;unfold bJ at e⊢;by_cases h:a=k
  .rw [if_pos h] at e⊢;cases e;exact⟨v,rfl,b⟩
  .rw [if_neg h] at e⊢;exact lK c e
theorem Gh{k:Str}(c:Rep W G p v):∀{ks:List Str} {ps:List PV} {us:List V},ah W G ps us->ah W G (List.zipWith (λb v=>if b=k then p else v) ks ps) (List.zipWith (λb u=>if b=k then v else u) ks us)
 |[],_,_,_=>by simp! [List.zipWith_nil_left];exact .nil|a::ks,[],_,l=>by simp! [ah] at l;subst l;simp! [List.zipWith_nil_right];exact .nil|a::ks,q::ps,_,l=>by
  let(u,r,rfl,d,e):=l.bo;rw [List.zipWith_cons_cons,List.zipWith_cons_cons];refine .cons ?_ (Gh c e);split
  .exact c
  .exact d
def sV{us:List V}{k:Str}(l:ah W G ps us)(a:Rep W G p v):ah W G (df ks ps k p) (df ks us k v):=by
 unfold df;split
 .exact Gh a l
 .exact l.append (.cons a .nil)
theorem nX{k:Str}:∀{ks:List Str} {ps:List PV} {us:List V},ah W G ps us->ah W G (bQ ks ps k) (bQ ks us k)
 |[],_,_,_=>by unfold bQ;exact .nil|a::ks,[],_,l=>by simp! [ah] at l;subst l;unfold bQ;exact .nil|a::ks,q::ps,_,l=>by
  let(u,r,rfl,c,b):=l.bo;unfold bQ;split
  .exact nX b
  .exact .cons c (nX b)
end
def fM{k:Str}(h:fz p=fP k):p=gL k:=by
 unfold fz at h;split at h
 .cases h;rfl
 .cases h
end Ci
namespace L2
open PySem.Spec PyProof.Rows
end L2
namespace Ci
open L2
def j4{n:Nat}(h:n<=bS):n<=sizeLine:=di h (by decide)
section
variable{W:Wd}
def eE(W:Wd)(G H:Hp)(r:PV)(Q:VK):Prop:=∀v a b,aC W G H a b->Rep W a r v->Q v b
def eE.at{r:PV}(h:eE W G H r Q)(s:az G H)(k:Rep W G r v):Q v H:=h v G H (.refl s) k
def eE.tup{p:hB}(h:eE W G H (.tup xs) Q)(s:az G H)(k:ah W G xs vs)(a:H p=gd):Q (.ref p) (upd H p (.tup vs)):=
 h _ _ _ (.new s a) (.t (.inl ak) (ah.same (bt (s.free a)) xs k))
def eE.lst{p:hB}(h:eE W G H (.lst xs) Q)(s:az G H)(k:ah W G xs vs)(a:H p=gd):Q (.ref p) (upd H p (.lst vs)):=
 h _ _ _ (.new s a) (.l (.inl (.inl ak)) (ah.same (bt (s.free a)) xs k))
theorem m6{f:PV->PV->Bool}:∀{xs ys:List PV},xs.length≠ys.length->eqs f xs ys=gh
 |[],[],h=>absurd rfl h|_::xs,_::ys,h=>by simp! [eqs];rw [m6 (xs:=xs) (ys:=ys) (λz=>h (by simp [z]))];simp|[],_::_,_=>rfl|_::_,[],_=>rfl
theorem m5{f:PV->PV->Bool}:∀{xs ys:List PV},xs.length=ys.length->eqs f xs ys=(List.range xs.length).all λj=>f (xs.getD j .aN) (ys.getD j .aN)
 |[],[],_=>rfl|x::xs,y::ys,h=>by simp! [eqs];rw [m5 (xs:=xs) (ys:=ys) (zx6 h),cC,List.range_succ_eq_map,List.all_cons,List.all_map];rfl|[],_::_,h=>by simp at h|_::_,[],h=>by simp at h
def qB{f:PV->PV->Bool}:∀{xs ys:List PV},((List.range (min xs.length ys.length)).all (λj=>f (xs.getD j .aN) (ys.getD j .aN))&&xs.length==ys.length)=eqs f xs ys:=λ{xs ys}=>by
 by_cases h:xs.length=ys.length
 .rw [m5 h,h,Nat.min_self,beq_self_eq_true,Bool.and_true]
 .rw [m6 h,beq_eq_false_iff_ne.mpr h,Bool.and_false]
theorem uQ{f:PV->PV->Bool}:∀{xs ys:List PV},xs.length=ys.length->(∀(j:Nat) x y,xs[j]?=fP x->ys[j]?=fP y->f x y=gf)->eqs f xs ys=gf
 |[],[],_,_=>rfl|x::xs,y::ys,h,k=>by simp! [eqs];rw [k 0 x y rfl rfl,uQ (xs:=xs) (ys:=ys) (zx6 h) λj a b c d=>k (j+1) a b (zx6 c) (zx6 d)];rfl|[],_::_,h,_=>by simp at h|_::_,[],h,_=>by simp at h
def ua(hK:W.K=X.K){a:hB}{vs:List V}(h:uh W.K H a vs):iQ X.K H a vs:=by
 rw [hK] at h;rcases h with h|⟨b,n,c,d,h3⟩
 .exact .inl h
 .exact .inr {_,b,n,c,rfl,rfl,rfl,d,h3}
def vx{c:St}{s:gB}(I:Inv X aa c H s){us:List V}(d:gH X.K H a vs)(f:iQ X.K H a us):False:=by let(h,_,(o,e,g,_),_):=I.tuple d;let(i,_,(o2,n,b,pT,_),_):=I.list f;rw [e] at b;cases b;rw [g] at pT;exact absurd pT (by decide)
theorem i5{c:Type}:∀{xs ys:List c},xs.length=ys.length->(∀(j:Nat) x y,xs[j]?=fP x->ys[j]?=fP y->x=y)->xs=ys
 |[],[],_,_=>rfl|x::xs,y::ys,h,k=>by rw [k 0 x y rfl rfl,i5 (xs:=xs) (ys:=ys) (zx6 h) λj a b d e=>k (j+1) a b (zx6 d) (zx6 e)]|[],_::_,h,_=>by simp at h|_::_,[],h,_=>by simp at h
def Y3(X:Cx)(W:Wd)(G H:Hp):PV->V->Prop
 |.aN,v=>v=.aN|.bl b,v=>v=.bl b|.int i,v=>v=.int i|.str z,v=>v=.str z|.tup xs,v=>∃a,v=.ref a/\∃vs,gH X.K H a vs/\ah W G xs vs|.lst xs,v=>∃a,v=.ref a/\∃vs,iQ X.K H a vs/\ah W G xs vs|_,_=>False
def TU(hK:W.K=X.K)(g:az G H){n:Nat}(d:plain n p=gf)(h:Top W H0 G H p v):Y3 X W G H p v:=by
 cases p with
 |aN=>exact h.aN|bl b=>exact h.bl|int i=>exact h.int|str z=>exact h.str|tup xs=>let(a,f,e,sq,l):=h.tup g;rw [hK] at sq;exact⟨a,e,f,sq,l⟩|lst xs=>let(a,f,e,sq,l):=h.lst g;exact{a,e,f,ua hK sq,l}|exc c=>cases n<;>exact aO d
 |obj c=>cases n<;>exact aO d
 |cA a b=>cases n<;>exact aO d
def zy{B:St}{s:gB}(I:Inv X aa B H s)(hK:W.K=X.K)(h:az G H):∀(n:Nat) {p q:PV} {v:V},plain n p=gf->plain n q=gf->Top W H0 G H p v->Top W H0 G H q v->p=q:=by
 intro n
 induction n with
 |zero=>
  intro p q v c d r t;have a:=TU hK h c r;have b:=TU hK h d t;cases p<;>cases q<;>first|exact aO c|exact aO d|(cases a;cases b;rfl)|(cases a;cases b)
 |succ n C=>
  intro p q v c d r t;have a:=TU hK h c r;have b:=TU hK h d t
  have z:∀{xs i:List PV} {k:List V},xs.all (plain n)=gf->i.all (plain n)=gf->ah W G xs k->ah W G i k->xs=i:=λ{xs i k} a1 a2 e f=>i5 (by rw [<-e.length,f.length]) λj x y ex A=>by let(u,D,E):=e.uV ex;let(M,g,F):=f.get D;rw [A] at g;cases g;exact C (c8.mp a1 _ (a7 ex)) (c8.mp a2 _ (a7 A)) (.inl E) (.inl F)
  cases p<;>cases q<;>first|exact aO c|exact aO d|(cases a;cases b;done)|(cases a;cases b;rfl)|(let(_,L,_):=a;cases b;cases L;done)|(let(_,w,_):=b;cases a;cases w;done)|(let(x,rfl,k,m,e):=a;let(y,w,N,o,f):=b;cases w;first|exact(vx I m o).elim|exact(vx I o m).elim|(cases I.rg m o;rw [z c d e f])|(cases I.ve m o;rw [z c d e f]))
def CM:∀{n:Nat} {p:PV},plain n p=gf->pP n p p=gf:=by
 intro n
 induction n with
 |zero=>intro p h;cases p<;>first|exact aO h|rfl|exact beq_self_eq_true _
 |succ n c=>
  intro p h;cases p<;>first|exact aO h|rfl|exact beq_self_eq_true _|exact uQ rfl λj x y a b=>by rw [a] at b;cases b;exact c (c8.mp h _ (a7 a))
def yA{b:St}{s:gB}(I:Inv X aa b H s)(hK:W.K=X.K)(c:az G H):∀(n:Nat) {p q:PV} {v:V},plain n p=gf->plain n q=gf->Top W H0 G H p v->Top W H0 G H q v->pP n p q=gf:=λn {p q v} a d e f=>by cases zy I hK c n a d e f;exact CM a
def nj{x:V}(r:RelV x (.ref a)):x=.ref a:=by
 cases x<;>first|(cases r;rfl)|(let(_,h):=r;cases h)|cases r
def Y0(W:Wd)(G:Hp)(h:ig):PV->gA->Prop
 |.aN,v=>∃_t:Nat,v=.none/\True|.bl b,v=>∃_t:Nat,v=.bool b/\True|.int i,v=>∃t,v=.int i t/\True|.str z,v=>∃t,v=.str z t/\True|.tup xs,v=>∃a,v=.ref a/\∃c vs,ah W G xs vs/\Vals vs c/\h.IsTuple a c.toArray|.lst xs,v=>∃a,v=.ref a/\∃c vs,ah W G xs vs/\Vals vs c/\h.IsList a c.toArray|_,_=>False
def KH{k:St}{s:gB}(I:Inv X aa k H s)(hK:W.K=X.K)(g:az G H){n:Nat}{j:gA}(d:plain n p=gf)(h:Top W H0 G H p v)(r:RelV v j):Y0 W G s.heap p j:=by
 cases p with
 |aN=>cases h.aN;cases r;exact{0,rfl,trivial}
 |bl b=>cases h.bl;cases r;exact{0,rfl,trivial}
 |int i=>cases h.int;let(t,rfl):=r;exact⟨t,rfl,trivial⟩
 |str z=>cases h.str;let(t,rfl):=r;exact⟨t,rfl,trivial⟩
 |tup xs=>let(a,e,rfl,sq,l):=h.tup g;rw [hK] at sq;cases r;let(f,q,z,_):=I.tuple sq;exact⟨a,rfl,f,e,l,q,z⟩
 |lst xs=>let(a,e,rfl,sq,l):=h.lst g;cases r;let(f,q,z,_):=I.list (ua hK sq);exact⟨a,rfl,f,e,l,q,z.isList⟩
 |exc c=>cases n<;>exact aO d
 |obj c=>cases n<;>exact aO d
 |cA a b=>cases n<;>exact aO d
def uf(W:Wd)(G:Hp)(s:gB)(n:Nat)(A:h9)(xs ys:List PV):Prop:=∀{c d:List V} {a b:List gA},ah W G xs c->ah W G ys d->Vals c a->Vals d b->∀j (e:j<a.toArray.size) (f:j<b.toArray.size),SeqAt.EqAt A s a.toArray[j] b.toArray[j] (pP n (xs.getD j .aN) (ys.getD j .aN))
theorem CJ{s:gB}{n:Nat}(h:∀{p q:PV} {v u:V} {a b:gA},plain n p=gf->plain n q=gf->Rep W G p v->Rep W G q u->RelV v a->RelV u b->SeqAt.EqAt A s a b (pP n p q))(d:xs.all (plain n)=gf)(a2:ys.all (plain n)=gf):uf W G s n A xs ys:=λ{z us B C} e f g i j g1 g2=>by let(x,k,m):=F0 g g1;let(y,o,r):=F0 i g2;let(D,ex,t):=e.get k;let(E,c,w):=f.get o;rw [cB,cB,ex,c];exact h (c8.mp d _ (a7 ex)) (c8.mp a2 _ (a7 c)) t w m r
def zx{s:gB}{n:Nat}{b:hB}(h:A.units<cLine)(i:uf W G s n A.in1 xs ys)(k1:∃c vs,ah W G xs vs/\Vals vs c/\s.heap.IsTuple a c.toArray)(k2:∃c vs,ah W G ys vs/\Vals vs c/\s.heap.IsTuple b c.toArray):SeqAt.RcAt A s (.ref a) (.ref b) (eqs (pP n) xs ys):=by
 let(c,vs,l,d,k):=k1;let(m,p,f,g,o):=k2;have m1:c.length=xs.length:=by rw [<-d.length,l.length]
 have m2:m.length=ys.length:=by rw [<-g.length,f.length]
 have:=SeqAt.RcAt.tuples (e:=λj=>pP n (xs.getD j .aN) (ys.getD j .aN)) k o h (i l f d g);rw [a5,a5,m1,m2,qB] at this;exact this
def zw{s:gB}{n:Nat}{b:hB}(d:A.units<cLine)(m:uf W G s n A.in1 xs ys)(k1:∃c vs,ah W G xs vs/\Vals vs c/\s.heap.IsList a c.toArray)(k2:∃c vs,ah W G ys vs/\Vals vs c/\s.heap.IsList b c.toArray):SeqAt.RcAt A s (.ref a) (.ref b) (eqs (pP n) xs ys):=by
 let(c,vs,l,f,g):=k1;let(o,p,h,i,k):=k2;have m1:c.length=xs.length:=by rw [<-f.length,l.length]
 have m2:o.length=ys.length:=by rw [<-i.length,h.length]
 by_cases hl:xs.length=ys.length
 .have:=SeqAt.RcAt.lists (e:=λj=>pP n (xs.getD j .aN) (ys.getD j .aN)) g k (by rw [a5,a5];lia) d (m l h f i);rw [a5,m1,<-m5 hl] at this;exact this
 .have:=SeqAt.RcAt.lists_lengths g k (by rw [a5,a5,m1,m2];simp [hl]) d;rw [m6 hl];exact this
open SeqAt.EqAt in
def yz{C:St}{s:gB}(I:Inv X aa C H s)(hK:W.K=X.K)(m:az G H):∀(n:Nat) {A:h9} {p q:PV} {v u:V} {r t:gA},A.units+(n+1)<cLine->plain n p=gf->plain n q=gf->Top W H0 G H p v->Top W H0 G H q u->RelV v r->RelV u t->
 SeqAt.EqAt A s r t (pP n p q):=by
 intro n
 induction n with
 |zero=>
  intro A p q v u r t D d e h i j k;have a:=KH I hK m d h j;have b:=KH I hK m e i k;cases p<;>cases q<;>first|exact aO d|exact aO e|(let(w,rfl,_):=a;let(t2,rfl,_):=b)
  exact same _;exact none_bool _;exact none_int _ _;exact none_str _ _;exact bool_none _;exact bool_bool _ _;exact bool_int _ _ _;exact bool_str _ _ _;exact int_none _ _;exact int_bool _ _ _;exact int_int _ _ _ _;exact int_str _ _ _ _;exact str_none _ _;exact str_bool _ _ _;exact str_int _ _ _ _;exact str_str _ _ _ _
 |succ n E=>
  intro A p q v u r t D d e h i j k;have c:A.units<cLine:=by lia
  have a:=KH I hK m d h j;have b:=KH I hK m e i k;have z:∀{xs B:List PV},xs.all (plain n)=gf->B.all (plain n)=gf->uf W G s n A.in1 xs B:=λF a2=>CJ (λd e h i j k=>E (by show A.units+1+(n+1)<_;lia) d e (.inl h) (.inl i) j k) F a2;cases p<;>cases q<;>first|exact aO d|exact aO e|(let(w,rfl,y):=a;let(t2,rfl,k2):=b;try let(_,_,_,_,f):=id y;try let(_,_,_,_,g):=id k2)
  exact same _;exact none_bool _;exact none_int _ _;exact none_str _ _;exact none_tuple g c;exact none_list g c;exact bool_none _;exact bool_bool _ _;exact bool_int _ _ _;exact bool_str _ _ _;exact bool_tuple _ g c;exact bool_list _ g c;exact int_none _ _;exact int_bool _ _ _;exact int_int _ _ _ _;exact int_str _ _ _ _;exact int_tuple _ _ g c;exact int_list _ _ g c;exact str_none _ _;exact str_bool _ _ _;exact str_int _ _ _ _;exact str_str _ _ _ _;exact str_tuple _ _ g c;exact str_list _ _ g c;exact tuple_none f c;exact tuple_bool _ f c;exact tuple_int _ _ f c;exact tuple_str _ _ f c;by_cases o:w=t2
  .subst o;cases nj j;cases nj k;rw [yA I hK m (n+1) d e h i];exact same _
  .exact of_refs o (zx c (z d e) y k2)
  exact tuple_list f g c;exact list_none f c;exact list_bool _ f c;exact list_int _ _ f c;exact list_str _ _ f c;exact list_tuple f g c;by_cases o:w=t2
  .subst o;cases nj j;cases nj k;rw [yA I hK m (n+1) d e h i];exact same _
  .exact of_refs o (zw c (z d e) y k2)
end
section
variable{W:Wd}
open SeqAt.RcAt in
def Sk{z:St}{s:gB}(I:Inv X aa z H s)(hK:W.K=X.K)(h:az G H)(n:Nat){u:V}{r t:gA}(C:A.units+(n+2)<cLine)(f:plain (n+1) p=gf)(g:plain (n+1) q=gf)(i:Top W H0 G H p v)(j:Top W H0 G H q u)(k:RelV v r)(m:RelV u t):
 SeqAt.RcAt A s r t (pP (n+1) p q):=by
 have c:A.units<cLine:=by lia
 have a:=KH I hK h f i k;have b:=KH I hK h g j m;have w:∀{xs y:List PV},xs.all (plain n)=gf->y.all (plain n)=gf->uf W G s n A.in1 xs y:=λB a2=>CJ (λf g i j k m=>yz (H0:=H0) I hK h n (by show A.units+1+(n+1)<_;lia) f g (.inl i) (.inl j) k m) B a2;cases p<;>cases q<;>first|exact aO f|exact aO g|(let(D,rfl,o):=a;let(t2,rfl,k2):=b;try let(_,_,_,_,d):=id o;try let(_,_,_,_,e):=id k2)
 exact none_none;exact none_bool _;exact none_int _ _;exact none_str _ _;exact none_tuple e c;exact none_list e c;exact bool_none _;exact bool_bool _ _;exact bool_int _ _ _;exact bool_str _ _ _;exact bool_tuple _ e c;exact bool_list _ e c;exact int_none _ _;exact int_bool _ _ _;exact int_int _ _ _ _;exact int_str _ _ _ _;exact int_tuple _ _ e c;exact int_list _ _ e c;exact str_none _ _;exact str_bool _ _ _;exact str_int _ _ _ _;exact str_str _ _ _ _;exact str_tuple _ _ e c;exact str_list _ _ e c;exact tuple_none d c;exact tuple_bool _ d c;exact tuple_int _ _ d c;exact tuple_str _ _ d c;exact zx c (w f g) o k2;exact tuple_list d e c;exact list_none d c;exact list_bool _ d c;exact list_int _ _ d c;exact list_str _ _ d c;exact list_tuple d e c;exact zw c (w f g) o k2
def Br{s:gB}{n:Nat}{b:hB}(h:A.units<cLine)(i:uf W G s n A.in1 xs ys)(k1:∃c vs,ah W G xs vs/\Vals vs c/\s.heap.IsTuple a c.toArray)(k2:∃c vs,ah W G ys vs/\Vals vs c/\s.heap.IsTuple b c.toArray):SeqAt.RcNeAt A s (.ref a) (.ref b) (!eqs (pP n) xs ys):=by
 let(c,vs,l,d,k):=k1;let(m,p,f,g,o):=k2;have m1:c.length=xs.length:=by rw [<-d.length,l.length]
 have m2:m.length=ys.length:=by rw [<-g.length,f.length]
 have:=SeqAt.RcNeAt.tuples (e:=λj=>pP n (xs.getD j .aN) (ys.getD j .aN)) k o h (i l f d g);rw [a5,a5,m1,m2,qB] at this;exact this
def Bq{s:gB}{n:Nat}{b:hB}(d:A.units<cLine)(m:uf W G s n A.in1 xs ys)(k1:∃c vs,ah W G xs vs/\Vals vs c/\s.heap.IsList a c.toArray)(k2:∃c vs,ah W G ys vs/\Vals vs c/\s.heap.IsList b c.toArray):SeqAt.RcNeAt A s (.ref a) (.ref b) (!eqs (pP n) xs ys):=by
 let(c,vs,l,f,g):=k1;let(o,p,h,i,k):=k2;have m1:c.length=xs.length:=by rw [<-f.length,l.length]
 have m2:o.length=ys.length:=by rw [<-i.length,h.length]
 by_cases hl:xs.length=ys.length
 .have:=SeqAt.RcNeAt.lists (e:=λj=>pP n (xs.getD j .aN) (ys.getD j .aN)) g k (by rw [a5,a5];lia) d (m l h f i);rw [a5,m1,<-m5 hl] at this;exact this
 .have:=SeqAt.RcNeAt.lists_lengths g k (by rw [a5,a5,m1,m2];simp [hl]) d;rw [m6 hl];exact this
open SeqAt.RcNeAt in
def Jj{z:St}{s:gB}(I:Inv X aa z H s)(hK:W.K=X.K)(h:az G H)(n:Nat){u:V}{r t:gA}(C:A.units+(n+2)<cLine)(f:plain (n+1) p=gf)(g:plain (n+1) q=gf)(i:Top W H0 G H p v)(j:Top W H0 G H q u)(k:RelV v r)(m:RelV u t):
 SeqAt.RcNeAt A s r t (!pP (n+1) p q):=by
 have c:A.units<cLine:=by lia
 have a:=KH I hK h f i k;have b:=KH I hK h g j m;have w:∀{xs y:List PV},xs.all (plain n)=gf->y.all (plain n)=gf->uf W G s n A.in1 xs y:=λB a2=>CJ (λf g i j k m=>yz (H0:=H0) I hK h n (by show A.units+1+(n+1)<_;lia) f g (.inl i) (.inl j) k m) B a2;cases p<;>cases q<;>first|exact aO f|exact aO g|(let(D,rfl,o):=a;let(t2,rfl,k2):=b;try let(_,_,_,_,d):=id o;try let(_,_,_,_,e):=id k2)
 exact none_none;exact none_bool _;exact none_int _ _;exact none_str _ _;exact none_tuple e c;exact none_list e c;exact bool_none _;exact bool_bool _ _;exact bool_int _ _ _;exact bool_str _ _ _;exact bool_tuple _ e c;exact bool_list _ e c;exact int_none _ _;exact int_bool _ _ _;exact int_int _ _ _ _;exact int_str _ _ _ _;exact int_tuple _ _ e c;exact int_list _ _ e c;exact str_none _ _;exact str_bool _ _ _;exact str_int _ _ _ _;exact str_str _ _ _ _;exact str_tuple _ _ e c;exact str_list _ _ e c;exact tuple_none d c;exact tuple_bool _ d c;exact tuple_int _ _ d c;exact tuple_str _ _ d c;exact Br c (w f g) o k2;exact tuple_list d e c;exact list_none d c;exact list_bool _ d c;exact list_int _ _ d c;exact list_str _ _ d c;exact list_tuple d e c;exact Bq c (w f g) o k2
end
end Ci
namespace L2
open PySem.Spec PyProof.Rows
open PySem.AutoSeq1 (wpAny_loadPart')
end L2
namespace Ci
open L2
section
variable{W:Wd}
def Ed(hK:W.K=X.K){c:St}{s:gB}{xs:List V}(I:Inv X aa c H s)(h:uh W.K H a xs):∃(b:List gA) (n:Nat),Vals xs b/\xs.length=b.length/\xs.length<=iv/\s.heap.get? a=fP {cls:=.type "list",data:=.seq b.toArray n}:=by
 rw [hK] at h;rcases h with h|⟨b,n,d,f,h3⟩
 .let(z,b,n,r,e):=h.ok I.aQ;exact⟨b,n,r,r.length,z,e⟩
 .refine{b.toList,n,h3,h3.length,?_,by simpa using I.jY a _ d};rw [h3.length,d3];exact f
def IQ(hK:W.K=X.K):gW X (binaryOp .Add) (λx y H Q=>∃l b xs a,x=.ref l/\y=.ref b/\uh W.K H l xs/\uh W.K H b a/\xs.length+a.length<=iv/\∀p,H p=gd->Q (.ref p) (upd H p (.lst (xs++a)))):=by
 intro w s z H x y v u Q I f g h;let(l,b,xs,a,rfl,rfl,i,j,A,q):=h;cases f;cases g;let(c,n,r,hl,_,e):=Ed hK I i;let(d,B,k,m,_,o):=Ed hK I j;refine PySem.P.add_list e o ?_ (by rw [a5,a5];lia);have t:c.toArray++d.toArray=(c++d).toArray:=by simp
 rw [t];exact{.ref _,_,I.V0 (t':=s.toks) (r.append k) (by rw [cD];lia),rfl,q _ I.fresh}
def IS:gW X (binaryOp .Add) (λx y H Q=>∃a b xs ys,x=.ref a/\y=.ref b/\gH X.K H a xs/\gH X.K H b ys/\xs.length+ys.length<=iv/\(xs=[]->Q (.ref b) H)/\(ys=[]->Q (.ref a) H)/\∀p,H p=gd->Q (.ref p) (upd H p (.tup (xs++ys)))):=by
 intro t s w H x y v u Q I z A h;let(a,b,xs,ys,rfl,rfl,g,i,B,C,D,E):=h;cases z;cases A;by_cases j:xs=[]
 .subst j;let(G,L,M,_):=I.tuple g;let(N,V,O,_):=I.tuple i;have P:G=[]:=L.nc.mpr rfl;subst P;let((cls,R,k,S),m,o,n,hd):=id M;let((q,Pd,d,f),r,pT,T,c):=id O
  simp only at o hd pT c;subst o hd pT c;exact PySem.concat_meets {_,m,rfl} {_,r,rfl} PySem.noFill_tuple_add PySem.seq_tuple_add PySem.F.slot_tuple_add PySem.F.entry_tuple_add (PySem.F.args_tuple_add_2 _ _)
   (PyProof.Rows.tuple_addW0 a b ([]:List gA).toArray N.toArray n T R Pd S f (by simp)) {m,r,{.ref b,H,I,rfl,C rfl}}
 .refine IU t s w H (.ref a) (.ref b) (.ref a) (.ref b) Q I rfl rfl {a,b,xs,ys,rfl,rfl,g,i,j,B,λe=>D e,λZ p U=>E p U}
abbrev TK:KY->Operator
 |.add=>.Add|.sub=>.Sub|.mul=>.Mult|.mod=>.Mod|.fdiv=>.FloorDiv
abbrev ud(W:Wd)(f:PV->PV->Res PV):R2:=λx y H Q=>∃a G p q r,az G H/\Top W a G H p x/\Top W a G H q y/\f p q=.ok r/\eE W G H r Q
set_option tactic.hygienic true in
def NG(hK:W.K=X.K)(o:KY):gW X (binaryOp (TK o)) (ud W (binOp o)):=by
 intro g s j H x y v u Q I k m h;let(O,G,p,q,r,c,f,t2,e,d):=h;unfold binOp at e;split at e
 .cases e;exact NF g s j H x y v u Q I k m {_,_,f.int,t2.int,d.at c .i}
 .split at e
  .rename_i hl;cases e;exact xu g s j H x y v u Q I k m {_,_,f.str,t2.str,j4 hl,d.at c .s}
  .cases e
 .split at e
  .rename_i hl;cases e;let(a,D,rfl,B,w):=f.lst c;let(b,E,rfl,C,A):=t2.lst c;exact IQ hK g s j H _ _ v u Q I k m {a,b,D,E,rfl,rfl,B,C,by rw [w.length,A.length];exact j4 hl,λp F=>d.lst c (w.append A) F}
  .cases e
 .split at e
  .rename_i hl;cases e;have L:=f;have M:=t2;let(a,D,rfl,B,w):=f.tup c;let(b,E,rfl,C,A):=t2.tup c;rw [hK] at B C;have m1:=w.length;have m2:=A.length;refine IS g s j H _ _ v u Q I k m {a,b,D,E,rfl,rfl,B,C,by rw [m1,m2];exact j4 hl,λz=>?_,λz=>?_,λp F=>d.tup c (w.append A) F}
   .subst z;rename_i xs N;have:xs=[]:=List.length_eq_zero_iff.mp m1.symm;subst this;exact d.at c (M.elim id λz=>z.elim)
   .subst z;rename_i xs N;have:N=[]:=List.length_eq_zero_iff.mp m2.symm;subst this;rw [e6] at d;exact d.at c (L.elim id λz=>z.elim)
  .cases e
 .cases e;exact NT g s j H x y v u Q I k m {_,_,f.int,t2.int,d.at c .i}
 .split at e
  .rename_i t;cases e;refine NQ g s j H x y v u Q I k m {_,_,f.int,t2.int,?_,d.at c .i};rw [er] at t;unfold bp at t;simp! [zza,zzN] at t;exact t
  .cases e
 .split at e
  .rename_i t;cases e;exact NP g s j H x y v u Q I k m {_,_,f.int,t2.int,t,d.at c .i}
  .cases e
 .split at e
  .rename_i t;cases e;exact IV g s j H x y v u Q I k m {_,_,f.int,t2.int,t,d.at c .i}
  .cases e
 .cases e
def JO:Tb X (unaryOp .USub) (λx H Q=>∃(H0 G:Hp) (i:Int),az G H/\Top W H0 G H (.int i) x/\eE W G H (.int (-i)) Q):=by intro a s b H x v Q I c h;let(H0,G,i,d,t,e):=h;exact O2 a s b H x v Q I c {i,t.int,e.at d .i}
abbrev mS:tX->CmpOp
 |.eq=>.Eq|.ne=>.NotEq|.lt=>.Lt|.le=>.LtE|.gt=>.Gt|.ge=>.GtE|.is=>.Is|.Gv=>.In|.Ep=>.NotIn|.Iu=>.NotEq
def qD{a:St}{s:gB}{k:Bool}(I:Inv X aa a H s)(c:az G H)(d:eE W G H (.bl k) Q):EP X aa a Q (.bool k) s:={.bl k,H,I,rfl,d.at c .b}
def NH(hK:W.K=X.K)(i:X.A.units+64<cLine):gW X (compareOp .Eq) (ud W gN):=by
 intro j s k H x y v u Q I c d h;let(m,G,p,q,r,b,f,t2,e,g):=h;unfold gN at e;split at e
 .rename_i a;rw [zza] at a;cases e;exact Sk I hK b 8 (by lia) a.1 a.2 f t2 c d _ _ _ _ (qD I b g)
 .cases e
def NS(hK:W.K=X.K)(i:X.A.units+64<cLine):gW X (compareOp .NotEq) (ud W hX):=by
 intro j s k H x y v u Q I c d h;let(m,G,p,q,r,b,f,t2,e,g):=h;unfold hX at e;split at e
 .rename_i a;rw [zza] at a;cases e;exact Jj I hK b 8 (by lia) a.1 a.2 f t2 c d _ _ _ _ (qD I b g)
 .cases e
theorem mh:∀{xs:List PV} {vs:List V} {ns:List Bool},ah W G xs vs->boolsOf xs=fP ns->vs=ns.map V.bl
 |[],vs,ns,h,e=>by simp! [ah] at h;subst h;cases e;rfl
 |.bl i::r,vs,ns,h,e=>by let(v,t,rfl,a,b):=h.bo;simp! [Rep] at a;subst a;unfold boolsOf at e;let(m,hm,rfl):=cz.mp e;rw [mh b hm];rfl|.aN::_,_,_,_,e=>by cases e
 |.int _::_,_,_,_,e=>by cases e
 |.str _::_,_,_,_,e=>by cases e
 |.tup _::_,_,_,_,e=>by cases e
 |.lst _::_,_,_,_,e=>by cases e
 |.exc _::_,_,_,_,e=>by cases e
 |.cA _ _::_,_,_,_,e=>by cases e
theorem pq:∀{xs:List PV} {vs:List V} {ns:List Str},ah W G xs vs->strsOf xs=fP ns->vs=ns.map V.str
 |[],vs,ns,h,e=>by simp! [ah] at h;subst h;cases e;rfl
 |.str i::r,vs,ns,h,e=>by let(v,t,rfl,a,b):=h.bo;simp! [Rep] at a;subst a;unfold strsOf at e;let(m,hm,rfl):=cz.mp e;rw [pq b hm];rfl|.aN::_,_,_,_,e=>by cases e
 |.int _::_,_,_,_,e=>by cases e
 |.bl _::_,_,_,_,e=>by cases e
 |.tup _::_,_,_,_,e=>by cases e
 |.lst _::_,_,_,_,e=>by cases e
 |.exc _::_,_,_,_,e=>by cases e
 |.cA _ _::_,_,_,_,e=>by cases e
def Res.of_ok{c:Type}{o:Option c}{a:c}(h:Res.of o=.ok a):o=fP a:=by
 cases o with
 |none=>cases h
 |some b=>cases h;rfl
def NO(hK:W.K=X.K)(k:X.A.units+64<cLine):gW X (compareOp .Lt) (ud W vB):=by
 intro a s c H x y v u Q I d f h;let(m,G,p,q,r,g,i,t2,e,j):=h;unfold vB at e;split at e
 .cases e;exact RU a s c H x y v u Q I d f {_,_,i.int,t2.int,j.at g .b}
 .cases e
def NN:gW X (compareOp .LtE) (ud W vA):=by
 intro a s c H x y v u Q I d f h;let(k,G,p,q,r,g,i,t2,e,j):=h;unfold vA at e;split at e
 .cases e;exact RT a s c H x y v u Q I d f {_,_,i.int,t2.int,j.at g .b}
 .cases e
def NJ:gW X (compareOp .Gt) (ud W xt):=by
 intro a s c H x y v u Q I d f h;let(k,G,p,q,r,g,i,t2,e,j):=h;unfold xt at e;split at e
 .cases e;exact RS a s c H x y v u Q I d f {_,_,i.int,t2.int,j.at g .b}
 .cases e
def NI:gW X (compareOp .GtE) (ud W xr):=by
 intro a s c H x y v u Q I d f h;let(k,G,p,q,r,g,i,t2,e,j):=h;unfold xr at e;split at e
 .cases e;exact RR a s c H x y v u Q I d f {_,_,i.int,t2.int,j.at g .b}
 .cases e
def AY{x:V}(d:az G H)(t:Top W H0 G H p x):decide (x=.aN)=yO p:=by
 cases p with
 |aN=>cases t.aN;rfl
 |bl b=>cases t.bl;rfl
 |int b=>cases t.int;rfl
 |str b=>cases t.str;rfl
 |tup b=>let(a,e,rfl,_):=t.tup d;rfl|lst b=>let(a,e,rfl,_):=t.lst d;rfl|cA b c=>let(a,e,rfl,_):=t.cA d;rfl|exc c=>
  rcases t with t|t
  .simp! [Rep] at t;let(a,C,rfl,_):=t;rfl
  .exact t.elim
 |obj n=>
  rcases t with t|t
  .simp! [Rep] at t;let(o,_,rfl):=t;rfl
  .exact t.elim
def NM:gW X (compareOp .Is) (ud W EF):=by
 intro c s d H x y v u Q I f g h;let(k,G,p,q,r,a,i,t2,e,j):=h;unfold EF at e;split at e
 .cases e;refine NL c s d H x y v u Q I f g {t2.aN,?_};rw [AY a i];exact j.at a .b
 .cases e
end
end Ci
namespace Ci
open L2 PySem.W
section
variable{W:Wd}
theorem zS{b:Type}{k:Str}{p:b}:∀{ks:List Str} {vs:List b},bJ ks vs k=fP p->p∈vs
 |[],_,h=>nomatch h|_::_,[],h=>nomatch h|a::ks,v::vs,h=>by
  unfold bJ at h;split at h
  .cases h;exact c0
  .exact cq _ (zS h)
def HQ{L:St}{s:gB}(I:Inv X aa L H s)(hK:W.K=X.K)(M:az G H)(Z:A.units+32<cLine){b:List Str}{vs':List PV}{c:List V}{g:List (Key×gA)}(D:ah W G vs' c)(j:vs'.all mB=gf)(N:KV (kz b c) g):
 ∀{ks:List Str} {vs:List PV} {us:List V} {xs:List (Key×gA)},ks.length=us.length->ah W G vs us->vs.all mB=gf->KV (kz ks us) xs->KeqHits A s g xs (pU b vs' ks vs):=by
 intro ks
 induction ks with
 |nil=>intro vs us xs hl l i r;rw [Nd] at r;cases r;exact .nil
 |cons k ks o=>
  intro vs us xs hl l i r;cases us with
  |nil=>cases hl
  |cons u us=>
   cases vs with
   |nil=>simp! [ah] at l;cases l
   |cons n vs=>
    let(_,_,e,O,P):=l.bo
    cases e;rw [i3] at r;cases r with
    |@cons p q ps qs h t=>
     let(E,F):=h;let(qk,qv):=q;dsimp only at E F;subst E;rw [List.all_cons,zza] at i;have rest:=o (zx6 hl) P i.2 t;have d:=N.val (ki k)
     rw [iE] at d;unfold pU;cases B:bJ b vs' k with
     |none=>
      have Q:bJ b c k=gd:=by
       cases z:bJ b c k with
       |none=>rfl|some w=>
        exfalso
        have C:∀(b:List Str) (vs':List PV) (c:List V),ah W G vs' c->bJ b vs' k=gd->bJ b c k≠fP w:=λb=>by
         induction b with
         |nil=>intro vs' c _ _ z;cases z
         |cons a b o=>
          intro vs' c l e z;cases c with
          |nil=>cases z
          |cons u c=>
           cases vs' with
           |nil=>simp! [ah] at l;cases l
           |cons v vs'=>
            let(_,_,R,_,S):=l.bo;cases R;unfold bJ at e z;split at e
            .cases e
            .rename_i T;rw [if_neg T] at z;exact o _ _ S e z
        exact C b vs' c D B z
      rw [Q] at d;cases f:valueAt g (ki k) with
      |none=>exact .miss f|some y=>rw [f] at d;exact d.elim
     |some m=>
      let(w,U,Y):=lK D B
      rw [U] at d;cases f:valueAt g (ki k) with
      |none=>rw [f] at d;exact d.elim|some y=>rw [f] at d;exact .hit (y:=y) f (yz I hK M DP (by show A.units+(9+1)<_;lia) i.1 (c8.mp j _ (zS B)) (.inl O:Top W H G H n u) (.inl Y) F d) rest
def NR(hK:W.K=X.K)(P:X.A.units+64<cLine):gW X (compareOp .NotEq) (ud W qU):=by
 intro R s S H x y v u Q I t w h;let(T,G,p,q,r,c,z,t2,e,B):=h;unfold qU at e;split at e
 .split at e
  .rename_i d;rw [zza] at d;cases e;let(a,U,rfl,k,f,C):=z.cA c;let(b,V,rfl,D,g,E):=t2.cA c;cases t;cases w;let(_,i,xs,m,F):=kJ I.aQ f;let(_,j,L,o,M):=kJ I.aQ g;have N:xs.length=_:=(m.length).symm.trans (iD k);have O:L.length=_:=(o.length).symm.trans (iD D);refine keq_ne i j F M (by lia) (λZ=>HQ I hK c (by show X.A.units+1+32<_;lia) E d.2 o k C d.1 m) ?_;rw [N,O];exact qD I c B
  .cases e
 .cases e
end
end Ci
namespace Ci
open L2
section
variable{W:Wd}
def sy{O:St}{s:gB}(I:Inv X aa O H s)(hK:W.K=X.K)(t:az G H){a:PV}{x:V}{w:gA}{us:List V}{d:List gA}(hu:A.units+32<cLine)(P:mB a=gf)(Q:ys.all mB=gf)(R:Top W H0 G H a x)(S:RelV x w)(l:ah W G ys us)(r:Vals us d):
 ∃e:gA->Bool,(∀y∈d,SeqAt.EqAt A s y w (e y))/\∀(j:Nat) (y:gA) (p:PV),d[j]?=fP y->ys[j]?=fP p->e y=eqv p a:=by
 classical
 have c:∀(j:Nat) (y:gA),d[j]?=fP y->∃p u,ys[j]?=fP p/\us[j]?=fP u/\Rep W G p u/\RelV u y/\mB p=gf:=λj y e=>by have z:=(cj.mp e).1;have hl:=r.length;let(u,B,g):=r.get (i:=j) (x:=us[j]'(by omega)) (zzg (by omega));rw [e] at B;cases B;let(p,C,kp):=l.get (zzg (show j<us.length by omega));exact{p,_,C,zzg (by omega),kp,g,c8.mp Q p (a7 C)}
 refine{λy=>if h:∃(j:Nat) (p:PV),d[j]?=fP y/\ys[j]?=fP p then eqv h.choose_spec.choose a else gh,λy T=>?_,λj y p D E=>?_}
 .let(j,z,e):=List.getElem_of_mem T;have F:d[j]?=fP y:=by rw [zzg z,e]
  let(p,u,U,h2,h3,h4,h5):=c j y F;have b:∃(j:Nat) (p:PV),d[j]?=fP y/\ys[j]?=fP p:=⟨j,p,F,U⟩;dsimp only;rw [dif_pos b];have sp:=b.choose_spec.choose_spec;let(f,L,g1,g2,k,m,o):=c _ y sp.1;have q:b.choose_spec.choose=f:=zzq (sp.2.symm.trans g1);rw [q];exact yz (H0:=H0) I hK t 9 (by omega) o P (.inl k) R m S
 .have b:∃(j:Nat) (p:PV),d[j]?=fP y/\ys[j]?=fP p:=⟨j,p,D,E⟩;dsimp only;rw [dif_pos b];let(p1,M,N,f2,Y,Z,f5):=c j y D;rw [E] at N;cases N;have sp:=b.choose_spec.choose_spec;let(f,L,g1,g2,k,m,o):=c _ y sp.1;have q:b.choose_spec.choose=f:=zzq (sp.2.symm.trans g1);have e4:M=L:=Z.inj m;subst e4;rw [q,zy I hK t DP o f5 (.inl k:Top W H0 G H f M) (.inl Y)]
def La{c:List gA}{e:gA->Bool}{f:PV->Bool}:c.length=ys.length->(∀(j:Nat) (y:gA) (p:PV),c[j]?=fP y->ys[j]?=fP p->e y=f p)->c.any e=ys.any f:=by
 intro hl h;have:c.map e=ys.map f:=i5 (zx6 hl) λj x y d g=>by rw [c4] at d g;let(a,i,rfl):=cz.mp d;let(b,k,rfl):=cz.mp g;exact h j a b i k
 calc c.any e=(c.map e).any id:=by rw [List.any_map];rfl
  _=(ys.map f).any id:=by rw [this]
  _=ys.any f:=by rw [List.any_map];rfl
def Ct{c:List gA}{e:gA->Bool}{f:PV->Bool}:c.length=ys.length->(∀(j:Nat) (y:gA) (p:PV),c[j]?=fP y->ys[j]?=fP p->e y=f p)->c.countP e=ys.countP f:=by
 intro hl h;have:c.map e=ys.map f:=i5 (zx6 hl) λj x y d g=>by rw [c4] at d g;let(a,i,rfl):=cz.mp d;let(b,k,rfl):=cz.mp g;exact h j a b i k
 calc c.countP e=(c.map e).countP id:=by rw [List.countP_map];rfl
  _=(ys.map f).countP id:=by rw [this]
  _=ys.countP f:=by rw [List.countP_map];rfl
def NK(hK:W.K=X.K)(O:X.A.units+64<cLine):gW X (compareOp .In) (ud W pZ):=by
 intro B s C H x y v u Q I d f h;let(H0,G,p,q,r,c,g,t2,e,i):=h;have D:X.A.in1.units+32<cLine:=by show X.A.units+1+32<_;lia
 unfold pZ at e;split at e
 .split at e
  .rename_i j;rw [zza] at j;cases e;let(b,m,rfl,o,t):=t2.tup c;rw [hK] at o;cases f;let(E,w,z,_):=I.tuple o;let(e,F,L):=sy I hK c D j.1 j.2 g d t w;refine SeqAt.in_tupleAt e (show s.heap.IsTuple b E.toArray from z) (λy M=>F y (zx6 M)) ?_;have:=La (by rw [<-w.length,t.length]) L;rw [List.any_toArray,this];exact qD I c i
  .cases e
 .cases e;exact Bj B s C H x y v u Q I d f {_,_,g.str,t2.str,i.at c .b}
 .let(k,hk,e):=Res.aM e;cases e;have hk:=fM (Res.of_ok hk);subst hk;obtain rfl:=g.str;let(a,m,rfl,n,hd,l):=t2.cA c;cases f;refine UI (show X.A.units+1<cLine by lia) I (.inl {_,ki k,hd,rfl,rfl}) d λP N=>?_;rw [iE,iX k _ m n];exact qD N c i
 .cases e
def IW(hK:W.K=X.K)(m:X.A.units+64<cLine):gW X (compareOp .NotIn) (ud W oM):=by
 intro o s t H x y v u Q I c d h;let(H0,G,p,q,r,b,f,t2,e,g):=h;have w:X.A.in1.units+32<cLine:=by show X.A.units+1+32<_;lia
 unfold oM at e;split at e
 .let(k,hk,e):=Res.aM e;cases e;have hk:=fM (Res.of_ok hk);subst hk;obtain rfl:=f.str;let(a,i,rfl,n,hd,l):=t2.cA b;cases d;refine Ha (show X.A.units+1<cLine by lia) I (.inl {_,ki k,hd,rfl,rfl}) c λz j=>?_;rw [iE,iX k _ i n];exact qD j b g
 .cases e
theorem gO(hK:W.K=X.K)(a:X.A.units+64<cLine):∀o:tX,gW X (compareOp (mS o)) (ud W (cN o))
 |.eq=>NH hK a|.ne=>NS hK a|.lt=>NO hK a|.le=>NN|.gt=>NJ|.ge=>NI|.is=>NM|.Gv=>NK hK a|.Ep=>IW hK a|.Iu=>NR hK a
def yk{i:Int}(l:ah W G ps vs)(h:yi ps i=fP p):∃v,yi vs i=fP v/\Rep W G p v:=by
 unfold yi at h⊢;rw [l.length];cases e:Pu ps.length i with
 |none=>rw [e] at h;cases h
 |some j=>rw [e] at h;exact l.uV h
def MZ(D:X.A.units+1<cLine):K5 X (λx y H Q=>∃a b k v,x=.ref a/\Rd H a (.dK b)/\y=kV k/\lH b k=fP v/\Q v H):=by intro c slice g s i H x y v u Q I j m h hs;let(a,b,k,z,rfl,hd,rfl,p,q):=h;cases j;let(_,_,t,d,e):=kJ I.aQ hd;let(f,w,B):=g7.some_of (v:=z) (o:=valueAt t k) (by rw [<-p];exact d.val k);exact PyProof.Rows.subscriptTail_builtinR (x:=f) e.typeIs PySem.F.slot_dict_getitem.lookup (wpAny_getItem_of (Q:=λr C=>r=f/\EP X g i Q r C) (mn m) e.mapOf w {rfl,{z,H,I.tok _,B,q}}) hs
def Rq(hK:W.K=X.K)(L:X.A.units+64<cLine):K5 X (ud W ay):=by
 intro b slice i s j H x y v u Q I m o h hs;let(H0,G,p,q,r,d,t,t2,e,z):=h;unfold ay at e;split at e
 .let(a,C,rfl,B,D):=t.lst d;let(w,f,g):=yk D (Res.of_ok e);exact Ie b slice i s j H _ y v u Q I m o {a,C,_,w,rfl,t2.int,ua hK B,f,z.at d g} hs
 .let(a,C,rfl,B,D):=t.tup d;rw [hK] at B;let(w,f,g):=yk D (Res.of_ok e);exact M3 b slice i s j H _ y v u Q I m o {a,C,_,w,rfl,t2.int,B,f,z.at d g} hs
 .split at e
  .rename_i hl;let(c,E,e):=Res.aM e;cases e;exact M0 b slice i s j H x y v u Q I m o {_,_,c,t.str,t2.int,j4 hl,Res.of_ok E,z.at d .s} hs
  .cases e
 .let(k,hk,F):=Res.aM e;have hk:=fM (Res.of_ok hk);subst hk;obtain rfl:=t2.str;let(a,M,rfl,n,hd,l):=t.cA d;let(w,f,g):=lK l (Res.of_ok F);exact MZ (by lia) b slice i s j H _ _ v u Q I m o {a,_,ki k,w,rfl,hd,rfl,(by rw [iE];exact f),z.at d g} hs
 .cases e
def G9(a b:Option Int)(l:ah W G ps vs):ah W G (mG ps a b) (Ap vs a b):=by unfold mG Ap;rw [l.length];exact(l.drop _).take _
def WA(hK:W.K=X.K):L2.Gk X (λx c d H Q=>∃H0 G p r,az G H/\Top W H0 G H p x/\gQ p c d=.ok r/\eE W G H r Q):=by
 intro j s k H x v m o c d q Q I t hs u pu h;let(H0,G,p,r,f,w,e,g):=h;unfold gQ at e;split at e
 .cases e;have C:=w.elim id λz=>z.elim;let(a,b,rfl,y,A):=w.tup f;rw [hK] at y;by_cases hw:HT.dS b.length 0 c=0/\HT.dS b.length b.length d=b.length
  .have D:∀i:List PV,i.length=b.length->mG i c d=i:=λi B=>by
    unfold mG;rw [B,hw.1,hw.2,<-B];simp
   rw [D _ A.length.symm] at g;exact Js j s k H _ v m o _ _ q Q I t hs u pu {a,b,rfl,y,hw,g.at f C}
  .exact OD j s k H _ v m o _ _ q Q I t hs u pu {a,b,rfl,y,hw,λp E=>g.tup f (G9 _ _ A) E}
 .split at e
  .rename_i hl;cases e;exact OC j s k H _ v m o _ _ q Q I t hs u pu {_,w.str,j4 hl,g.at f .s}
  .cases e
 .cases e
def JS(W:Wd)(f:List PV->Res PV):List V->Hp->VK->Prop:=λb H Q=>∃H0 G a r,az G H/\Paired (λv p=>Top W H0 G H p v) b a/\f a=.ok r/\eE W G H r Q
def lE(h:Paired (λv p=>Top W H0 G H p v) vs [p]):∃v,vs=[v]/\Top W H0 G H p v:=by
 cases h with
 |cons h t=>cases t;exact{_,rfl,h}
def FR(h:Paired (λv p=>Top W H0 G H p v) vs [p,q]):∃v u,vs=[v,u]/\Top W H0 G H p v/\Top W H0 G H q u:=by
 cases h with
 |cons h t=>
  cases t with
  |cons a t2=>cases t2;exact{_,_,rfl,h,a}
def Ag(hK:W.K=X.K):dP X (.builtin "len") (JS W wB):=by
 intro f s g H xs j Q I r h;let(H0,G,q,w,b,tp,e,c):=h;unfold wB at e;split at e
 .cases e;let(v,rfl,t):=lE tp;let(a,k,rfl,d,m):=t.lst b;exact kq f s g H _ j Q I r {a,k,rfl,.inl (ua hK d),by rw [m.length];exact c.at b .i}
 .cases e;let(v,rfl,t):=lE tp;let(a,k,rfl,d,m):=t.tup b;rw [hK] at d;exact kq f s g H _ j Q I r {a,k,rfl,.inr d,by rw [m.length];exact c.at b .i}
 .split at e
  .rename_i hl;cases e;let(v,rfl,t):=lE tp;exact rH f s g H _ j Q I r {_,by rw [t.str],j4 hl,c.at b .i}
  .cases e
 .cases e;let(v,rfl,t):=lE tp;let(a,y,rfl,n,hd,l):=t.cA b;let(u,rfl,o):=vals1 r;cases o;exact Qt I hd λt z p=>{.int _,H,p,⟨t,rfl⟩,by rw [iD n];exact c.at b .i}
 .cases e
def Ah:dP X (.type "str") (JS W Cd):=by
 intro a s b H xs c Q I r h;let(H0,G,g,i,d,tp,e,f):=h;unfold Cd at e;split at e
 .split at e
  .rename_i hl;cases e;let(v,rfl,t):=lE tp;exact rL a s b H _ c Q I r {_,by rw [t.int],hl,f.at d .s}
  .cases e
 .cases e
def uy(hK:W.K=X.K):dP X (.type "tuple") (JS W nE):=by
 intro c s d H xs f Q I r h;let(H0,G,o,q,b,tp,e,g):=h;unfold nE at e;split at e
 .cases e;let(v,rfl,t):=lE tp;let(a,i,rfl,j,k):=t.lst b;exact pO c s d H _ f Q I r {a,i,rfl,.inl {ua hK j,λp m=>g.tup b k m}}
 .cases e
def Ad(d:X.calm=gf)(hK:W.K=X.K):dP X (.builtin "all") (JS W Cb):=by
 intro f s g H xs i Q I r h;let(H0,G,p,q,c,tp,e,j):=h;unfold Cb at e;split at e
 .let(bs,k,e):=Res.aM e;cases e;let(v,rfl,t):=lE tp;let(a,u,rfl,m,o):=t.lst c;cases mh o (Res.of_ok k);exact Ck d f s g H _ i Q I r {a,bs,rfl,ua hK m,j.at c .b}
 .cases e
def S7(W:Wd)(f:List PV->Res PV):V->List V->Hp->VK->Prop:=λx a H Q=>JS W f (x::a) H Q
theorem zJ:∀{ys:List Str} {a:List gA},Vals (ys.map V.str) a->PyProof.Rows.StrsAre a ys
 |[],_,.nil=>.nil|y::ys,_,.cons r t=>by let(tk,rfl):=r;exact .cons y tk (zJ t)
def El(hK:W.K=X.K):S6 X "str.join" (S7 W vg):=by
 intro q s w H x xs v y Q I d r h;let(H0,G,A,B,b,tp,e,f):=h;unfold vg at e;split at e
 .let(C,g,e):=Res.aM e;split at e
  .rename_i c;cases e;let(D,E,i,t,t2):=FR tp;cases i;cases t.str;let(F,rfl):=d;let(a,L,rfl,j,m):=t2.lst b;let(u,rfl,o):=Vals.one r;cases o;cases pq m (Res.of_ok g);let(M,p,z,_):=I.list (ua hK j);refine PyProof.Rows.join_listW z.isList (by simpa using zJ p) c.1 (di c.2 (by decide)) λN k=>{.str _,H,I.tok _,{_,rfl},f.at b .s}
  .cases e
 .cases e
def xm(hK:W.K=X.K)(C:X.A.units+64<cLine):S6 X "list.count" (S7 W kS):=by
 intro D s E H x xs v L Q I g r h;let(H0,G,M,N,b,tp,e,j):=h;unfold kS at e;split at e
 .split at e
  .rename_i c;rw [zza] at c;cases e;let(O,P,k,t,t2):=FR tp;cases k;let(a,R,rfl,m,d):=t.lst b;cases g;let(u,rfl,o):=Vals.one r;let(p,n,q,hl,_,e):=Ed hK I m;let(f,w,z):=sy (A:=X.A.in1) I hK b (by show X.A.units+1+32<_;lia) c.1 c.2 t2 o d q;refine PySem.call_meets PySem.F.slot_list_count {_,e,rfl} PySem.F.entry_list_count (PySem.F.args_list_count_2 _ _) (SeqAt.list_countAt a p.toArray n gd #[] u f) {e,λy B=>w y (zx6 B),?_};refine{.int _,H,I.tok _,{_,rfl},?_};rw [Ct (by rw [<-hl,d.length]) z];exact j.at b .i
  .cases e
 .cases e
set_option tactic.hygienic true in
def A9(hK:W.K=X.K)(U:X.A.units+64<cLine):S6 X "list.index" (S7 W oE):=by
 intro V s Y H x xs v Z Q I B r h;let(H0,G,ps,rr,g,tp,e,C):=h;unfold oE at e;split at e
 .rename_i b w;split at e
  .rename_i d;rw [zza,zza] at d;split at e
   .rename_i j k;cases e;let(v1,u1,D,t,t2):=FR tp;cases D;let(a,vs,rfl,E,o):=t.lst g;cases B;let(u,rfl,L):=Vals.one r;let(c,n,M,hl,_,e):=Ed hK I E;have p:c.length=b.length:=by rw [<-hl,o.length]
    have XQ:b.length<1000:=zzY d.2;let(f,N,q):=sy (A:=X.A.in1) I hK g (by show X.A.units+1+32<_;lia) d.1.1 d.1.2 t2 L o M;rw [List.findIdx?_eq_some_iff_getElem] at k;let(O,P,R):=k;refine PySem.call_meets PySem.F.slot_list_index {_,e,rfl} PySem.F.entry_list_index (PySem.F.args_list_index_2 _ _) (SeqAt.list_indexAt a c.toArray n gd #[] u f j (by simpa using (by lia:j<c.length)) (by lia) ?_ λm X9 S=>?_) {e,λy T=>N y (zx6 T),{.int _,H,I.tok _,{_,rfl},C.at g .i}}
    .have:=q j (c[j]'(by lia)) b[j] (zzg (by lia)) (zzg O);simpa using this.trans P
    .have hm:m<b.length:=by lia
     have:=q m (c[m]'(by lia)) b[m] (zzg (by lia)) (zzg hm);have z:=R m S;simp! [Bool.not_eq_true] at z;simpa using this.trans z
   .cases e
  .cases e
 .cases e
abbrev xZ:Ty->String
 |.int=>"int"|.bool=>"bool"|.str=>"str"|.tuple=>"tuple"
def Rw{K:zz8}(t:Ty):Cw.Gw K "NoneType" (xZ t) gh/\(∀b,Cw.Gw K "bool" (xZ t) (oy t (.bl b)))/\(∀i,Cw.Gw K "int" (xZ t) (oy t (.int i)))/\(∀z,Cw.Gw K "str" (xZ t) (oy t (.str z)))/\(∀z,Cw.Gw K "tuple" (xZ t) (oy t (.tup z)))/\(∀z,Cw.Gw K "list" (xZ t) (oy t (.lst z))):=by
 cases t
 all_goals refine{?_,λb=>?_,λb=>?_,λb=>?_,λb=>?_,λb=>?_}
 all_goals first
  |exact Cw.D5 _
  |exact Cw.D4 (b:=gh) (by decide+kernel) (by decide+kernel) (by decide+kernel)
  |exact Cw.D4 (b:=gf) (by decide+kernel) (by decide+kernel) (by decide+kernel)
def Cm(hK:W.K=X.K)(t:Ty):dP X (.builtin (zu 28)) (λxs H Q=>∃v H0 G p r,xs=[v,.ty (xZ t)]/\az G H/\Top W H0 G H p v/\qe t p=.ok r/\eE W G H r Q):=by
 intro N s O H xs P Q I q h;let(v,H0,G,p,r,rfl,f,tp,e,g):=h;let(u,R,rfl,i,k):=Vals.two q;cases k;let(w,k2,y,A,B,C):=Rw (K:=X.K) t
 cases p with
 |exc c=>cases e
 |obj c=>cases e
 |cA a b=>cases e
 |aN=>cases e;cases tp.aN;cases i;cases t<;>exact PySem.W.kia_one PySem.W.kitx_none I.jY True.intro w nofun λd=>⟨.bl _,H,I.tok d,rfl,g.at f .b⟩
 |bl b=>cases e;cases tp.bl;cases i;exact PySem.W.kia_one PySem.W.kitx_bool I.jY True.intro (k2 b) nofun λd=>⟨.bl _,H,I.tok d,rfl,g.at f .b⟩
 |int b=>cases e;cases tp.int;let(D,rfl):=i;exact PySem.W.kia_one PySem.W.kitx_int I.jY True.intro (y b) nofun λd=>⟨.bl _,H,I.tok d,rfl,g.at f .b⟩
 |str b=>cases e;cases tp.str;let(D,rfl):=i;exact PySem.W.kia_one PySem.W.kitx_str I.jY True.intro (A b) nofun λd=>⟨.bl _,H,I.tok d,rfl,g.at f .b⟩
 |tup b=>cases e;let(a,E,rfl,j,F):=tp.tup f;rw [hK] at j;cases i;let(L,_,(o,m,M,_),_):=I.tuple j;exact PySem.W.kia_one PySem.W.kitx_tuple I.jY ⟨o,m,M⟩ (B b) nofun λd=>{.bl _,H,I.tok d,rfl,g.at f .b}
 |lst b=>cases e;let(a,E,rfl,j,F):=tp.lst f;cases i;let(L,n,_,_,_,m):=Ed hK I j;exact PySem.W.kia_one PySem.W.kitx_list I.jY {_,m,rfl} (C b) nofun λd=>{.bl _,H,I.tok d,rfl,g.at f .b}
def JB{e:kr}(l:ah W G ps vs):ah W G (ub .aN ps e) (ub V.aN vs e):=by
 unfold ub;rw [l.length];split
 .exact l
 .have go:∀a:List Nat,ah W G (a.map λi=>ps.getD i .aN) (a.map λi=>vs.getD i V.aN):=by
   intro a
   induction a with
   |nil=>exact .nil|cons i a f=>
    refine .cons ?_ f;dsimp only;by_cases b:i<ps.length
    .let(v,g,h):=l.uV (zzg b);have c:ps.getD i .aN=ps[i]:=by simp [b]
     have d:vs.getD i V.aN=v:=by simp [g]
     rw [c,d];exact h
    .have c:ps.getD i .aN=.aN:=by simp [Nat.le_of_not_lt b]
     have d:vs.getD i V.aN=.aN:=by simp [Nat.le_of_not_lt (l.length▸b)]
     rw [c,d];exact .n
  exact go _
theorem vc:∀ks:List Str,ah W G (ks.map gL) (ks.map V.str)
 |[]=>.nil|k::ks=>.cons .s (vc ks)
set_option tactic.hygienic true in
def rK(hK:W.K=X.K)(f:X.calm=gf):dP X (.builtin "sorted") (JS W ko):=by
 intro g s i H xs j Q I r h;let(H0,G,o,q,b,tp,e,k):=h;unfold ko at e;split at e
 .rename_i c u;split at e
  .rename_i m;cases e;let(v,rfl,t):=lE tp;let(a,w,rfl,n,hd,l):=t.cA b;exact rJ f g s i H _ j Q I r {a,_,c,rfl,hd,yU n,by rw [iD n];exact m,λp d=>k _ _ _ (.new b d) (.l (.inl (.inl ak)) (ah.same (bt (b.free d)) _ (JB (vc c))))}
  .cases e
 .cases e
theorem E7{K:zz8}(hK:W.K=K)(d:az G H):∀{xs:List PV} {ps:List (Str×PV)} {vs:List V},vI xs=fP ps->ah W G xs vs->∃us,ah W G (ps.map (·.2)) us/\zZ K H vs ((ps.map λp=>ki p.1).zip us)
 |[],_,_,e,l=>by cases e;simp! [ah] at l;subst l;exact{[],.nil,.nil}
 |x::xs,ps,vs,e,l=>by
  let(v,t,rfl,f,g):=l.bo;unfold vI at e;split at e
  .rename_i a;cases a
  .rename_i a;cases a;let(k,hk,e):=d0.mp e;let(r,h,rfl):=cz.mp e;let(us,i,j):=E7 hK d h g;simp! [Rep] at f;let(q,u,rfl,m,b):=f;let(w1,w,rfl,c,b):=b.bo;let(o,s,rfl,k2,b):=b.bo;simp! [ah] at b;subst b;rw [fM hk] at c;simp! [gL,Rep] at c;subst c;refine{o::us,.cons k2 i,.cons {q,rfl,?_} j};rw [<-hK];exact az.tup d m.sq
  .cases e
theorem qO:∀(ps:List (Str×PV)) {us:List V} {ks:List Str} {qs:List PV} {ws:List V},ah W G (ps.map (·.2)) us->ks.length=ws.length->ah W G qs ws->∃a,(cH ps ks qs).1.length=a.length/\ah W G (cH ps ks qs).2 a/\iH (kz ks ws) ((ps.map λp=>ki p.1).zip us)=kz (cH ps ks qs).1 a
 |[],us,ks,qs,ws,_,n,l=>⟨ws,n,l,rfl⟩|p::ps,us,ks,qs,ws,b,n,l=>by let(u,h,rfl,c,d):=b.bo;let(a,e,f,g):=qO ps d (oR n p.1 u) (sV (ks:=ks) (k:=p.1) l c);refine{a,e,f,?_};show iH (putK (kz ks ws) (ki p.1) u) _=_;rw [xg n];exact g
def uI(hK:W.K=X.K){xs:List V}(c:az G H)(tp:Paired (λv p=>Top W H0 G H p v) xs ps)(e:gX ps=.ok q):∃ks qs,q=.cA ks qs/\∃a vs d,xs=[V.ref a]/\iQ X.K H a vs/\zZ X.K H vs d/\∃b,ks.length=b.length/\ah W G qs b/\iH [] d=kz ks b:=by
 unfold gX at e;split at e
 .let(ps,f,e):=Res.aM e;cases e;let(v,rfl,t):=lE tp;let(a,vs,rfl,g,h):=t.lst c;let(ws,lw,pw):=E7 hK c (Res.of_ok f) h;let(b,i,j,k):=qO ps (ks:=[]) (qs:=[]) (ws:=[]) lw rfl .nil;exact{_,_,rfl,a,vs,_,rfl,ua hK g,pw,b,i,j,k}
 .cases e
end
end Ci
namespace L2
open PySem.Spec PyProof.Rows
section
variable{scope:ia}{xs ys:List Str}{is:List Nat}
theorem sQ{c:Nat}{a:Str}{d E:Pos}{f t iter w:hD}{F:TI}{g:TG}{tt:TT}(j:X.N.Nodup)(k:X.N[c]?=fP a)(p:Loc X.env.scope a)(O:X.calm=gf)(S:fS X scope xs ys is)(P:PI X t iter F)
 (R:∀fp s1 H1 C,PG (bP X (xs++ys) scope (bV X.env ys) fp s1 H1 C) t g) (T:∀fp s1 H1 C,PT (bP X (xs++ys) scope (bV X.env ys) fp s1 H1 C) w tt) (he:∀fp s1 H1 C,PE (bP X (xs++ys) scope (bV X.env ys) fp s1 H1 C) f te)
 (U:swapsWith (.ListComp f [{t,iter,[w],0}] scope pos) (fP (.Name a d)) E.line X.env=pure gf:=by rfl)
 (hs:∀x,foldedSetIterable iter X.env x=pure x:=by intro _;rfl) (r:X.fn a=gf\/X.env.scope.names.lookup a=fP .local:=by first|exact .inl rfl|exact .inr rfl|assumption):
 PS X (.Assign [.Name a d] (.ListComp f [{t,iter,[w],0}] scope pos) E) (JE (nu F xs.length g tt te is) (iz c)):=by
 intro V s W H i I h;rw [exec_Assign_Name_used _ _ _ _ U];refine ar (wpAny_standAt (ar ?_));show hF _ X.A (do let _<-comprehension (.ListComp f [⟨t,iter,[w],0⟩] scope pos) scope X.env _ (newList []) gh (eval iter X.env) (fP (assign (.Name a d) X.env))) _ _ s;refine ar (wpAny_mono (iT (QQ:=λ_ G=>∃u K,Inv X V u K G/\i.nx u K) (Q:=λv L=>iz c v W L i.nx) O S P R (λfp s1 H1 C=>zt (T fp s1 H1 C)) he hs I h λD C s4 L m Y Z ⟨g0,g1,_,g3,M,g5⟩ q=>?_) (λ_ G hq=>bT (bT hq)) λ_ _ e=>e)
 refine wpAny_assign_Name (md Y j k p (show RelV (.ref D) (.ref D) from rfl) (λs6 I6 ⟨a6,y,B⟩=>?_) r);have V9:C≠a6:=by
  rcases B with z|z
  .rw [z];exact g1
  .exact λz2=>M _ _ z z2.symm
 exact{m,Z.sameBut y V9,λh' AS=>{_,_,I6.turned (t':=s6.toks) (it:=C) (λb o hb e=>AS.extBut b o hb e) g0 g1 g3 M g5,q}}
end
open PySem.AutoSeq1 (wpAny_loadPart')
section
variable{E:jW}{s:gB}{jt tu:hB}{i:Nat}{aw:Array gA}{Q:jW}
def mQ{x:gA}(c:s.heap.IsTupleIter jt tu i)(d:s.heap.IsTuple tu aw)(e:aw[i]?=fP x)
 (k:∀g,g.IsTupleIter jt tu (i+1)->ig.SameBut jt s.heap g->Q x {s with heap:=g}):hF (hT prog w) A (i1.SmallTypes.nextOf (.ref jt)) Q E s:=by
 let(ob,b,f,a):=id c;let(m,h,_,o,j):=d;unfold i1.SmallTypes.nextOf;refine ar (wpAny_callSpecial?_slot (name:=Str.ofString (zu 64)) c.typeIs F.slot_tuple_iterator_next (wpAny_call_entry F.slot_tuple_iterator_next c.typeIs F.entry_tuple_iterator_next ?_ (F.args_tuple_iterator_next_1 _)));show hF _ _ (field (.ref jt) 0>>=_) _ _ s;refine ar (wpAny_field b a (x:=.ref tu) rfl ?_);show hF _ _ (if(gA.ref tu==gA.none)=gf then _ else _) _ _ s;rw [if_neg (show¬((gA.ref tu==gA.none)=gf) from zzf)];show hF _ _ (field (.ref jt) 1>>=_) _ _ s;refine ar (wpAny_field b a (x:=.int i 0) rfl ?_);show hF _ _ (seqItems? (.ref tu)>>=_) _ _ s;refine ar (wpAny_seqItems h j ?_);simp! [eF,e];refine ar (wpAny_setField b a (by simp) (bT {x,rfl,bT (k _ ?_ (et ..))}));exact{_,ig.get?_update_self _ b (Obj.isFreed_of_fields (Obj.data_mapFields a _)),(Obj.cls_mapFields ..).trans f,by rw [Obj.data_mapFields a];simp [rawInt]}
def oH(f:A.handled=gd)(b:s.heap.IsTupleIter jt tu i)(h:s.heap.IsTuple tu aw)(j:aw[i]?=gd)
 (k:∀g e,ig.ExtBut jt s.heap g->(∃o,g.get? e=fP o/\o.cls=.type (zu 37))->E (.ref e) {s with heap:=g}):hF (hT prog w) A (i1.SmallTypes.nextOf (.ref jt)) Q E s:=by
 let(ob,c,r,d):=id b;let(t,p,_,u,q):=h;unfold i1.SmallTypes.nextOf;refine ar (wpAny_callSpecial?_slot (name:=Str.ofString (zu 64)) b.typeIs F.slot_tuple_iterator_next (wpAny_call_entry F.slot_tuple_iterator_next b.typeIs F.entry_tuple_iterator_next ?_ (F.args_tuple_iterator_next_1 _)));show hF _ _ (field (.ref jt) 0>>=_) _ _ s;refine ar (wpAny_field c d (x:=.ref tu) rfl ?_);show hF _ _ (if(gA.ref tu==gA.none)=gf then _ else _) _ _ s;rw [if_neg (show¬((gA.ref tu==gA.none)=gf) from zzf)];show hF _ _ (field (.ref jt) 1>>=_) _ _ s;refine ar (wpAny_field c d (x:=.int i 0) rfl ?_);show hF _ _ (seqItems? (.ref tu)>>=_) _ _ s;refine ar (wpAny_seqItems p q ?_);simp! [eF,j];refine ar (wpAny_rule (ar (wpAny_setField c d (by simp) ?_)));show hF _ _ (newExc (.type (zu 37)) []>>=_) _ _ _;refine ar ?_;simp! [newExc,newTuple];refine ar (wpAny_newObj_type ?_ (by size_fits));refine ar (m:=firstArgMember _ _) (wpAny_of_eq (a:=gA.none) (by first|rfl|(simp! [firstArgMember];rfl)) ?_);refine wpAny_newObj_type ?_ (by size_fits);simp! [raiseNew];refine ar (wpAny_handled ?_)
 first|rw [show A.in1.handled=gd from f]|rw [f]
 refine ar (bT (wpAny_throw ?_));exact k _ _ (((et ..).extBut.push _).push _) {_,dV _ rfl,rfl}
end
theorem Au(j:A.handled=gd)(a b:hB)(k:b≠a)(c:Array gA):
 Draws prog w A a [a,b] c.size (λi v=>c[i]?=fP v) (λi h=>h.IsTupleIter a b i/\h.IsTuple b c) where
 live:=λZ Z st=>let⟨o,m,_⟩:=st.1;⟨o,m⟩
 frame:=λZ Z Z st hk=>{st.1.at λo e=>hk a (by simp) o e,by let(o,e,r):=st.2;exact{o,hk b (by simp) o e,r}}
 item:=λi s Q E d st p=>mQ st.1 st.2 (x:=c[i]) (by simp [d]) λg q f=>p _ g s.toks (by simp [d]) {q,by let(o,e,r):=st.2;exact{o,f.extBut _ _ k e,r}} f
 done:=λs Q E st t=>oH j st.1 st.2 (by simp) t
section
variable{s:gB}{ch:List hB}
def Inv.moved{tk:Nat}(I:zv2 s)(e:∀b∈ch,jo X aa H b)(d:∀b o,b∉ch->s.heap.get? b=fP o->h'.get? b=fP o):Inv X aa σ H {s with heap:=h',toks:=tk}:=by
 have g:∀b o,H b=fP o->b∉ch:=λb o q z=>by rw [(e b z).1] at q;cases q
 refine I.step (g':=s.gens) (d':=s.drawn) (ch:=ch) (λb h=>?_) (λb o Z Z a q Z=>d b o a q) (λb o Z Z a q Z=>{o.slots,d b o a q}) (λZ Z Z Z n=>n)
  (λb o a q=>{o,d b o a q}) (λb xs q=>q) (λb o u q=>q) (λb y q=>{#[],by rw [q];simp}) (λm hm=>?_) (λb o q=>?_) I.bare
 .let(A,i,B,j,k,p):=e b h;exact⟨j,i,k,p⟩
 .let(o,t,w,q,r):=hm;exact{o,t,w,d _ o (λz=>(e _ z).2.1 rfl) q,r}
 .refine(I.aQ b o q).f7 (λc v a z=>d c v ?_ z) (λc z=>z) λc xs z=>z
  rcases a with f|f
  .rw [f];exact g b o q
  .exact g c _ f
end
structure Zd where
 it:hB
 fp:List hB
 n:Nat
 P:Nat->gA->Prop
 St:Nat->ig->Prop
structure P0(prog:hG)(w:hI)(A:h9)(z TI TO:hB)(ds:List Zd):Prop where
 D:∀d∈ds,Draws prog w A d.it d.fp d.n d.P d.St
 zf:∀d∈ds,z∉d.fp/\TO∉d.fp/\d.it≠z/\d.it≠TO/\d.it≠TI
 ap:ds.Pairwise λa b=>a.it∉b.fp/\b.it∉a.fp
 tz:TI≠z/\TO≠z/\TI≠TO
noncomputable abbrev jr(h:ig)(T:hB)(xs:Array gA):Prop:=h.get? T=fP {cls:=.type "tuple",data:=.seq xs}
section
variable{E:jW}{s:gB}{z TI TO:hB}{ds:List Zd}{k:Nat}
def Ur(z TI TO:hB)(k:Nat)(e:ig)(ds:List Zd)(rest:List (gA×Nat))(h:ig):Prop:=
 ∃a b xs f,ds=a++b/\rest=(b.map λd=>gA.ref d.it).zipIdx a.length/\Paired (λd x=>d.P k x) a xs/\f.length=b.length/\IsZip h z TI TO .ellipsis/\jr h TO (xs++f).toArray/\
  (∀d∈a,d.St (k+1) h)/\(∀d∈b,d.St k h)/\h.objs.size=e.objs.size/\∀c o,c≠z->c≠TO->(∀d∈ds,c≠d.it)->e.get? c=fP o->h.get? c=fP o
def v7{Q:Fin->gB->Prop}(Z:P0 prog w A z TI TO ds)(hl:ds.length<=9)(fW:ds≠[])(hz:IsZip s.heap z TI TO .none)(ZC:jr s.heap TI (ds.map λd=>gA.ref d.it).toArray)(ZD:∃c,jr s.heap TO c/\c.size=ds.length)(hs:∀d∈ds,d.St k s.heap/\k<=d.n)
 (hQ:∀h' tk xs,Paired (λd x=>d.P k x) ds xs->IsZip h' z TI TO (rawInt (zz9 s))->(∃c,jr h' TO c/\c.size=ds.length)->(∀d∈ds,d.St (k+1) h')->jr h' (zz9 s) xs.toArray->h'.objs.size=(zz9 s)+1->
  (∀c o,c≠z->c≠TO->(∀d∈ds,c≠d.it)->s.heap.get? c=fP o->h'.get? c=fP o)->Q (.done (.ret (.ref (zz9 s)))) {s with heap:=h',toks:=tk})
 (hE:∀h' tk e,(∃d∈ds,d.n<=k)->(∀c o,c≠z->c≠TO->(∀d∈ds,c≠d.it)->s.heap.get? c=fP o->h'.get? c=fP o)->(∃o,h'.get? e=fP o/\o.cls=.type (zu 37))->E (.ref e) {s with heap:=h',toks:=tk}):
 hF (hT prog w) A (i1.«zip.__next__» {[.ref z],[]}) Q E s:=by
 let(t1,t2,t3):=Z.tz;show hF _ _ (field (.ref z) 2>>=_) _ _ _;refine ar (wpAny_field hz rfl (x:=.bool gh) rfl ?_);show hF _ _ (field (.ref z) 3>>=_) _ _ _;refine ar (wpAny_field hz rfl (x:=.ref TI) rfl ?_);refine ar (wpAny_seqItems ZC rfl ?_);have Vm:(ds.map λd=>gA.ref d.it).toArray.isEmpty=gh:=by cases ds<;>simp_all
 simp! [Vm,d4,if_false];show hF _ _ (i1.SmallTypes.ownedTupleIsFree (.ref z)>>=_) _ _ _;refine ar ?_;unfold i1.SmallTypes.ownedTupleIsFree;refine ar (wpAny_field hz rfl (x:=.none) rfl (bT ?_));simp! [if_true];refine ar (wpAny_rule ?_);refine ar (wpAny_field hz rfl (x:=.ref TO) rfl ?_);refine ar (wpAny_setField_rec hz (by simp) λt p f=>?_);replace p:IsZip t z TI TO .ellipsis:=p;refine ar ?_;let(c,hc,qI):=ZD;have Rv:∀{h h':ig},ig.SameBut z h h'->∀d∈ds,∀{i},d.St i h->d.St i h':=λH d hd i q=>(Z.D d hd).frame _ _ _ q λb u o e=>H.extBut b o (λx=>(Z.zf d hd).1 (x▸u)) e;refine wpAny_forIn_list _ (λrest b X=>b=⟨gd,PUnit.unit⟩/\∃h tk,X={s with heap:=h,toks:=tk}/\Ur z TI TO k s.heap ds rest h) _ ?_ ?_ _ _ {rfl,t,s.toks,rfl,[],ds,[],c.toList,rfl,rfl,.nil,zx6 qI,p,?_,(λd hd=>nomatch hd),(λd hd=>Rv f d hd (hs d hd).1),f.1,λc o h1 _ _ e=>f.extBut _ _ h1 e}
 .rintro ⟨Tz,j⟩ rest b X ⟨rfl,h,tk,rfl,I,lf,xs,R,rfl,S,pr,B,C,F,Y,V,G,T⟩
  cases lf with
  |nil=>cases S
  |cons d lf=>
   simp! [bc,List.zipIdx_cons,List.cons.injEq,Prod.mk.injEq] at S;let((rfl,rfl),rfl):=S;have hd:d∈I++d::lf:=by simp
   have D:=Z.D d hd;let(f1,f2,f3,f4,f5):=Z.zf d hd
   refine ar (wpAny_onRaise ?_);show hF _ _ (i1.SmallTypes.nextOf (.ref d.it)>>=_) _ _ _;have XH:∀a∈I++lf,d.it∉a.fp/\a.it∉d.fp:=λa g=>by
    have q:=List.pairwise_append.1 Z.ap
    rcases List.mem_append.1 g with g|g
    .exact(q.2.2 a g d (c0 ..)).symm
    .exact(List.pairwise_cons.1 q.2.1).1 a g
   by_cases hk:k<d.n
   .refine ar (D.item k _ _ _ hk (V d (c0 ..)) λx M tk2 px Gy H=>bT ?_);have MQ:jr M TO (xs++R).toArray:=H.extBut _ _ (Ne.symm f4) F;refine ar (wpAny_seqItems MQ rfl ?_);have lx:=Paired.length pr
    obtain⟨y,r,rfl⟩:∃y r,R=y::r:=by cases R with|nil=>cases B|cons y r=>exact⟨y,r,rfl⟩
    have Ri:(xs++y::r).toArray.size<=sizeLine:=by
     have:(xs++y::r).toArray.size<=9:=by simp! [a5,cD,cC] at B hl⊢;lia
     exact di this (by decide)
    refine ar (wpAny_updateSeq MQ rfl ?_ Ri (by rw [Array.size_setIfInBounds];exact Nat.le_succ_of_le Ri));refine ar (wpAny_letGo (bT ?_));have N:ig.SameBut TO M (M.update TO (Obj.mapSeq λv=>v.setIfInBounds I.length x)):=et ..
    have VB:jr (M.update TO (Obj.mapSeq λv=>v.setIfInBounds I.length x)) TO (xs++[x]++r).toArray:=by
     show ig.get? _ TO=_;rw [ig.get?_update_self _ MQ rfl];have:(xs++y::r).toArray.setIfInBounds I.length x=(xs++[x]++r).toArray:=by rw [List.setIfInBounds_toArray,lx,List.set_append_right _ _ (a8 _),Nat.sub_self,List.set_cons_zero];simp
     have ls:((xs++[x]++r).toArray.size==(xs++y::r).toArray.size)=gf:=by simp
     simp! [Obj.mapSeq,this,ls,if_true]
    refine{rfl,_,tk2,rfl,I++[d],lf,xs++[x],r,by simp,by simp,Paired.snoc pr px,zx6 B,?_,VB,λa g=>?_,λa g=>?_,?_,λc o c1 O K e=>?_}
    .exact N.extBut _ _ (Ne.symm t2) (H.extBut _ _ (Ne.symm f3) C)
    .rcases List.mem_append.1 g with g|g
     .refine(Z.D a (by simp [g])).frame _ _ _ (Y a g) λb u o e=>N.extBut _ _ (λq=>(Z.zf a (by simp [g])).2.1 (q▸u)) (H.extBut _ _ (λq=>(XH a (by simp [g])).1 (q▸u)) e)
     .rw [d6.1 g];exact D.frame _ _ _ Gy λb u o e=>N.extBut _ _ (λq=>f2 (q▸u)) e
    .refine(Z.D a (by simp [g])).frame _ _ _ (V a (cq _ g)) λb u o e=>N.extBut _ _ (λq=>(Z.zf a (by simp [g])).2.1 (q▸u)) (H.extBut _ _ (λq=>(XH a (by simp [g])).1 (q▸u)) e)
    .rw [N.1,H.1,G]
    .exact N.extBut _ _ O (H.extBut _ _ (K d hd) (T c o c1 O K e))
   .have hn:d.n=k:=Nat.le_antisymm (Nat.le_of_not_lt hk) (hs d hd).2;refine ar (D.done _ _ _ (by rw [hn];exact V d (c0 ..)) λM e eb he=>?_);let(oe,L,QV):=he;have MT:IsZip M z TI TO .ellipsis:=eb _ _ (Ne.symm f3) C;have ZN:e≠z:=λq=>by subst q;rw [MT] at L;cases L;simp at QV
    exact wpAny_setField_rec MT (by simp) λh3 _ Yd=>hE h3 tk e {d,hd,Nat.le_of_eq hn} (λc o c1 O K q=>Yd.extBut _ _ c1 (eb _ _ (K d hd) (T c o c1 O K q))) {oe,Yd.extBut _ _ ZN L,QV}
 .rintro b X ⟨rfl,h,tk,rfl,I,lf,xs,R,rfl,S,pr,B,C,F,Y,V,G,T⟩
  obtain rfl:lf=[]:=by cases lf with|nil=>rfl|cons d lf=>cases S
  obtain rfl:R=[]:=List.eq_nil_of_length_eq_zero B;simp! [e6] at F hQ Z T hl;have lx:=Paired.length pr;refine ar (wpAny_seqItems F rfl ?_);refine ar (wpAny_newTuple ?_ (di (m:=9) (by show xs.length<=9;lia) (by decide)));show hF _ _ (i1.SmallTypes.ownedTupleHandOut (.ref z) (.ref h.objs.size)>>=_) _ _ _;refine ar ?_;unfold i1.SmallTypes.ownedTupleHandOut;have YW:z<h.objs.size:=cP C;have VG:IsZip (h.push {cls:=.type "tuple",data:=.seq xs.toArray}) z TI TO .ellipsis:=aT _ C;refine ar (wpAny_setField_rec VG (by simp) λh7 VH Vz=>?_);replace VH:IsZip h7 z TI TO (rawInt h.objs.size):=VH;refine wpAny_setField_rec VH (by simp) λU W VA=>?_;replace W:IsZip U z TI TO (rawInt h.objs.size):=W;have up:∀c o,c≠z->h.get? c=fP o->U.get? c=fP o:=λc o c1 e=>VA.extBut _ _ c1 (Vz.extBut _ _ c1 (aT _ e));have XX:jr U h.objs.size xs.toArray:=VA.extBut _ _ (Nat.ne_of_gt YW) (Vz.extBut _ _ (Nat.ne_of_gt YW) (dV _ rfl));have Yb:U.objs.size=h.objs.size+1:=by rw [VA.1,Vz.1,ig.size_push]
  rw [G] at W XX Yb;refine bT ?_;show Q (.done (.ret (.ref h.objs.size))) _;rw [G];exact hQ U tk xs pr W {_,up _ _ t2 F,by simp [lx]} (λd hd=>(Z.D d hd).frame _ _ _ (Y d hd) λb u o e=>up b o (λq=>(Z.zf d hd).1 (q▸u)) e) XX Yb λc o c1 O K e=>up c o c1 (T c o c1 O K e)
 .show jr t TO _;exact f.extBut _ _ t2 (zx6 hc)
variable{ch:List hB}
def Inv.Ek{tk:Nat}{xs:List V}{ob:Obj}{n:Nat}(I:zv2 s)(g:∀b∈ch,jo X aa H b)(e:∀b o,b∉ch->s.heap.get? b=fP o->h'.get? b=fP o)
 (i:h'.get? (zz9 s)=fP ob) (a:ob.cls=.type "tuple") (hd:ob.data=.seq us.toArray n) (j:Vals xs us) (hl:xs.length<=iv):Inv X aa σ (upd H (zz9 s) (.tup xs)) {s with heap:=h',toks:=tk}:=by
 have d:∀b o,H b=fP o->b∉ch/\b≠(zz9 s):=λb o q=>{(λz=>(by rw [(g b z).1] at q;cases q)),d1 (I.aQ.lt q)}
 refine I.step (g':=s.gens) (d':=s.drawn) (ch:=ch) (λb f=>?_) (λb o Z Z a q Z=>e b o a q) (λb o Z Z a q Z=>{o.slots,e b o a q}) (λb o Z q p=>by rw [ai (d1 (cP q))];exact p)
  (λb o a q=>{o,e b o a q}) (λb xs q=>by rw [ai (d b _ q).2];exact q) (λb o u q=>by rw [ai (d b _ q).2];exact q) (λb G q=>{#[],by rw [ai (d b _ q).2,q];simp}) (λm hm=>?_) (λb o q=>?_) I.bare
 .let(K,t,L,y,B,C):=g b f;exact⟨y,t,B,C⟩
 .let(o,D,F,q,r):=hm;exact{o,D,F,e _ o (λz=>(g _ z).2.1 rfl) q,r}
 .by_cases f:b=(zz9 s)
  .subst f;rw [ak] at q;cases q;exact{hl,us,j,{_,i,a,_,hd}}
  .rw [ai f] at q;refine(I.aQ b o q).f7 (λc v a z=>e c v ?_ z) (λc z=>by rw [ai (d c _ z).2];exact z) λc xs z=>by rw [ai (d c _ z).2];exact z
   rcases a with h|h
   .rw [h];exact(d b o q).1
   .exact(d c _ h).1
end
structure Zs where
 it:hB
 b:Bool
 a:hB
 xs:List V
def Zs.iter(q:Zs)(i:Nat)(h:ig):Prop:=if q.b=gf then h.IsListIter q.it q.a i else h.IsTupleIter q.it q.a i
noncomputable abbrev Zt:=Bool×hB×List V
abbrev Zs.t(q:Zs):Zt:=(q.b,q.a,q.xs)
def Zq(K:zz8)(H:Hp)(q:Zt):Prop:=if q.1=gf then iQ K H q.2.1 q.2.2 else gH K H q.2.1 q.2.2
def Zs.sq(K:zz8)(H:Hp)(q:Zs):Prop:=if q.b=gf then iQ K H q.a q.xs else gH K H q.a q.xs
def Zs.yR{q:Zs}{i:Nat}(st:q.iter i h)(k:∀o,h.get? q.it=fP o->h'.get? q.it=fP o):q.iter i h':=by
 unfold Zs.iter at st⊢;split
 .rename_i e;rw [if_pos e] at st;exact st.at k
 .rename_i e;rw [if_neg e] at st;exact st.at k
def Zs.u9{q:Zs}{i:Nat}(st:q.iter i h):∃o,h.get? q.it=fP o/\∀v,o.data≠.cell v:=by
 unfold Zs.iter at st;split at st
 .let(o,a,_,hd):=st;exact{o,a,λv z=>by rw [hd] at z;cases z}
 .let(o,a,_,hd):=st;exact{o,a,λv z=>by rw [hd] at z;cases z}
abbrev Uc(K:zz8)(ts:List Zt):It:=
 {λi H=>∀q∈ts,Zq K H q/\i<q.2.2.length,λi H v b=>∃p a,v=.ref p/\H p=gd/\b=upd H p (.tup a)/\Paired (λ(q:Zt) y=>q.2.2[i]?=fP y) ts a,
  λi H=>(∀q∈ts,Zq K H q/\i<=q.2.2.length)/\∃q∈ts,q.2.2.length=i}
structure B7(prog:hG)(w:hI)(A:h9)(i:Nat)(h:ig)(q:Zs)(d:Zd):Prop where
 it:d.it=q.it
 fp:d.fp=[q.it,q.a]
 n:d.n=q.xs.length
 D:Draws prog w A d.it d.fp d.n d.P d.St
 st:d.St i h
 back:∀j g,d.St j g->q.iter j g
 val:∀j u,d.P j u->∃x,RelV x u/\q.xs[j]?=fP x
section
variable{s:gB}
def F9{xs:List V}{c:List gA}(e:Vals xs c)(j:Nat)(u:gA)(b:c.toArray[j]?=fP u):∃x,RelV x u/\xs[j]?=fP x:=by
 have b:c[j]?=fP u:=zx6 b;have f:j<xs.length:=by rw [e.length];exact(cj.mp b).1
 let(g,a,d):=e.get (zzg f);rw [b] at a;cases a;exact{_,d,zzg f}
def SY(k:X.calm=gf)(I:zv2 s){q:Zs}{i:Nat}(m:q.a≠q.it)(h:q.sq X.K H)(st:q.iter i s.heap):∃d,B7 X.prog X.w X.A.in1 i s.heap q d:=by
 unfold Zs.sq at h;unfold Zs.iter at st;cases f:q.b with
 |true=>
  rw [if_pos f] at h st;let(c,e,p,_):=I.list h;refine{{q.it,[q.it,q.a],c.toArray.size,_,_},rfl,rfl,?_,Draws.list (A:=X.A.in1) (I.ok.hd k) q.it q.a m c.toArray,⟨st,p.isList⟩,λj g z=>?_,F9 e}
  .rw [a5,<-e.length]
  .unfold Zs.iter;rw [if_pos f];exact z.1
 |false=>
  have o:¬q.b=gf:=by rw [f];exact zzf
  rw [if_neg o] at h st;let(c,e,p,_):=I.tuple h;refine{{q.it,[q.it,q.a],c.toArray.size,_,_},rfl,rfl,?_,Au (A:=X.A.in1) (I.ok.hd k) q.it q.a m c.toArray,⟨st,p⟩,λj g z=>?_,F9 e}
  .rw [a5,<-e.length]
  .unfold Zs.iter;rw [if_neg o];exact z.1
theorem ya(e:X.calm=gf)(I:zv2 s){i:Nat}:∀{qs:List Zs},(∀q∈qs,q.a≠q.it/\q.sq X.K H/\q.iter i s.heap)->∃b,Paired (B7 X.prog X.w X.A.in1 i s.heap) qs b
 |[],_=>{[],.nil}|q::qs,h=>by let(f,g,h3):=h q (c0 ..);let(d,hd):=SY e I f g h3;let(b,c):=ya e I (qs:=qs) λr j=>h r (cq _ j);exact{d::b,.cons hd c}
variable{α β:Type}{R:α->β->Prop}
theorem cO:∀{l:List α} {m:List β},Paired R l m->∀b∈m,∃a∈l,R a b
 |_,_,.cons h t,b,c=>by
  rcases ef.1 c with rfl|c
  .exact{_,c0 ..,h}
  .let(a,d,e):=cO t b c;exact{a,cq _ d,e}
theorem gC:∀{l:List α} {m:List β},Paired R l m->∀a∈l,∃b∈m,R a b
 |_,_,.cons h t,b,c=>by
  rcases ef.1 c with rfl|c
  .exact{_,c0 ..,h}
  .let(a,d,e):=gC t b c;exact{a,cq _ d,e}
theorem qV{S:α->α->Prop}{T:β->β->Prop}(h:∀a c b d,R a b->R c d->S a c->T b d):∀{l:List α} {m:List β},Paired R l m->l.Pairwise S->m.Pairwise T
 |_,_,.nil,_=>.nil|_,_,.cons r t,p=>by let(e,f):=List.pairwise_cons.1 p;refine List.pairwise_cons.2 {λb g=>?_,qV h t f};let(a,i,j):=cO t b g;exact h _ _ _ _ r j (e a i)
end
structure Uq(z TI TO:hB)(qs:List Zs):Prop where
 tz:TI≠z/\TO≠z/\TI≠TO
 ne:qs≠[]
 len:qs.length<=9
 it:∀q∈qs,q.it≠z/\q.it≠TO/\q.it≠TI
 a:∀q∈qs,q.a≠z/\q.a≠TO/\∀r∈qs,q.a≠r.it
 pw:qs.Pairwise λa b=>a.it≠b.it
def Y4(z TI TO:hB)(qs:List Zs)(i:Nat)(h:ig):Prop:=IsZip h z TI TO .none/\jr h TI (qs.map λq=>gA.ref q.it).toArray/\(∃c,jr h TO c/\c.size=qs.length)/\∀q∈qs,q.iter i h
def Gf{i:Nat}{z TI TO:hB}{qs:List Zs}{e:List Zd}(Z:Uq z TI TO qs)(p:Paired (B7 prog w A i h) qs e):P0 prog w A z TI TO e where
 D:=λd hd=>by let(q,_,r):=cO p d hd;exact r.D
 zf:=λd hd=>by let(q,f,r):=cO p d hd;let(g,a2,s):=Z.it q f;let(t,u,_):=Z.a q f;rw [r.fp,r.it];simp! [ef,List.not_mem_nil,or_false,not_or];exact{{Ne.symm g,Ne.symm t},{Ne.symm a2,Ne.symm u},g,a2,s}
 ap:=by
  have q:qs.Pairwise λa b=>a.it≠b.it/\a.it≠b.a/\b.it≠a.a:=by refine List.Pairwise.imp_of_mem (λ{a b} j k h=>{h,λz=>(Z.a b k).2.2 a j z.symm,λz=>(Z.a a j).2.2 b k z.symm}) Z.pw
  refine qV (λa B b C r m c=>?_) p q;let(o,y,h3):=c;rw [r.fp,m.fp,r.it,m.it];simp! [ef,List.not_mem_nil,or_false,not_or];exact{⟨o,y⟩,Ne.symm o,h3}
 tz:=Z.tz
theorem j7{i:Nat}:∀{qs:List Zs} {a:List Zd},Paired (B7 prog w A i h) qs a->(qs.map λq=>gA.ref q.it)=a.map λd=>gA.ref d.it
 |_,_,.nil=>rfl|_,_,.cons r t=>by rw [bc,bc,r.it,j7 t]
theorem pF{i:Nat}:∀{qs:List Zs} {a:List Zd} {us:List gA},Paired (B7 prog w A i h) qs a->Paired (λd x=>d.P i x) a us->∃ys,Vals ys us/\Paired (λ(q:Zt) y=>q.2.2[i]?=fP y) (qs.map Zs.t) ys
 |_,_,_,.nil,.nil=>{[],.nil,.nil}|_,_,_,.cons r t,.cons u v=>by let(x,b,c):=r.val i _ u;let(ys,h3,e):=pF t v;exact{x::ys,.cons b h3,.cons c e}
def BJ{P:hG}{K:zz8}{elts:List hD}{x1:Nat}{z TI TO:hB}{qs:List Zs}(Z:Uq z TI TO qs):
 Turn P w K (.Tuple elts x1 pos) (Uc K (qs.map Zs.t)) (z::TI::TO::qs.map (·.it)) z (Y4 z TI TO qs) where
 mem:=by simp
 obj:=λi h st c D=>by
  let(u,A,(_,B,_),C):=st
  simp! [ef,ew] at D;rcases D with rfl|rfl|rfl|⟨q,f,rfl⟩
  .exact{_,u,λv q=>by cases q}
  .exact{_,A,λv q=>by cases q}
  .exact{_,B,λv q=>by cases q}
  .exact Zs.u9 (C q f)
 keep:=λi h Q st k=>by let(u,A,(c,B,G),C):=st;exact{k z (by simp) _ u,k TI (by simp) _ A,{c,k TO (by simp) _ B,G},λq f=>Zs.yR (C q f) λo e=>k q.it (by simp;exact .inr (.inr (.inr ⟨q,f,rfl⟩))) o e}
 item:=by
  intro X U V hK D i W s σ H E I L st p;subst U V hK;replace p:∀q∈qs,q.sq X.K H/\i<q.xs.length:=λq f=>p q.t (List.mem_map_of_mem f);let(u,A,(c,B,G),C):=st;let(ds,j):=ya D I λq f=>{(Z.a q f).2.2 q f,(p q f).1,C q f};have M:s.TypeIs (.ref z) "zip":={_,u,rfl};have len:=Paired.length j;have DI:H (zz9 s)=gd:=I.aQ.fresh (a8 _)
  have lt:∀b∈z::TI::TO::qs.map (·.it),b<(zz9 s):=λb g=>by
   simp! [ef,ew] at g;rcases g with rfl|rfl|rfl|⟨q,f,rfl⟩
   .exact cP u
   .exact cP A
   .exact cP B
   .let(o,Y,_):=Zs.u9 (C q f);exact cP Y
  unfold pyNext;refine ar (wpAny_attempt (wpAny_callSpecial?_slot (name:=Str.ofString (zu 64)) M PySem.F.slot_zip_next (wpAny_call_entry PySem.F.slot_zip_next M PySem.F.entry_zip_next
   (v7 (k:=i) (Gf Z j) (by rw [<-len];exact Z.len) (by have:=Z.ne;intro e;subst e;cases j;exact this rfl) u (by rw [<-j7 j];exact A) {c,B,by rw [<-len];exact G} (λd hd=>by let(q,f,r):=cO j d hd;exact{r.st,by rw [r.n];exact Nat.le_of_lt (p q f).2})
    (λQ tk us pu z1 z2 z3 z4 z5 N=>{_,rfl,bT ?_}) λQ tk e O _ _=>?_) (PySem.F.args_zip_next_1 _))))
  .let(ys,rv,R):=pF j pu
   have Vp:∀b∈z::TO::qs.map (·.it),jo X W H b:=λb g=>L b (by simp! [ef] at g⊢;rcases g with h|h|h<;>simp [h]);have I1:=Inv.Ek (tk:=tk) (xs:=ys) I Vp (λb o g e=>N b o (λq=>g (by simp [q])) (λq=>g (by simp [q])) (λd hd q=>g (by let(q',oq,r):=cO j d hd;simp! [ef,ew];exact .inr (.inr {q',oq,by rw [q,r.it]}))) e) z4 rfl rfl rv (di (m:=9) (by have h1:=Paired.length R;have:=Z.len;rw [zzl] at h1;lia) (by decide));refine{_,rfl,wpAny_letOwnedTupleGo_zip z1 λh2 MT S=>?_};let(f0,f1,f2,f3,f4,f5):=L z (by simp);have nz:z≠(zz9 s):=d1 (lt z (by simp));refine{.ref (zz9 s),_,I1.turned (t':=tk) (it:=z) (λb o g q=>S.extBut b o g q) (by rw [ai nz];exact f0) f1 f3 f4 f5,rfl,{_,_,rfl,DI,rfl,R},{MT,?_,?_,λq f=>?_},λb g=>?_}
   .exact S.extBut _ _ Z.tz.1 (N _ _ Z.tz.1 Z.tz.2.2 (λd hd=>by let(q,f,r):=cO j d hd;rw [r.it];exact Ne.symm (Z.it q f).2.2) A)
   .let(c',e1,e2):=z2;exact{c',S.extBut _ _ Z.tz.2.1 e1,by rw [e2,len]}
   .let(d,hd,r):=gC j q f;exact Zs.yR (r.back _ _ (z3 d hd)) λo e=>S.extBut _ _ (Z.it q f).1 e
   .rw [ai (d1 (lt b g))];exact(L b g).1
  .let(d,hd,hn):=O;let(q,f,r):=cO j d hd;have:=(p q f).2;rw [r.n] at hn;lia
 done:=by
  intro X U V hK D i W s σ H E I L st p;subst U V hK;let(p,t0,ht0,hn0):=p;replace p:∀q∈qs,q.sq X.K H/\i<=q.xs.length:=λq f=>p q.t (List.mem_map_of_mem f);let(u,A,(c,B,G),C):=st;let(ds,j):=ya D I λq f=>{(Z.a q f).2.2 q f,(p q f).1,C q f};have M:s.TypeIs (.ref z) "zip":={_,u,rfl};have len:=Paired.length j
  unfold pyNext;refine ar (wpAny_attempt (wpAny_callSpecial?_slot (name:=Str.ofString (zu 64)) M PySem.F.slot_zip_next (wpAny_call_entry PySem.F.slot_zip_next M PySem.F.entry_zip_next
   (v7 (k:=i) (Gf Z j) (by rw [<-len];exact Z.len) (by have:=Z.ne;intro e;subst e;cases j;exact this rfl) u (by rw [<-j7 j];exact A) {c,B,by rw [<-len];exact G} (λd hd=>by let(q,f,r):=cO j d hd;exact{r.st,by rw [r.n];exact(p q f).2})
    (λQ tk us pu z1 z2 z3 z4 z5 N=>?_) λQ tk e O N he=>?_) (PySem.F.args_zip_next_1 _))))
  .let(ys,rv,R):=pF j pu;let(y,_,hy):=gC R t0 ht0;have:=(cj.1 hy).1;lia
  .let(o,Y,iY):=he
   refine ar (wpAny_isInstance (T:=(zu 37)) (b:=gf) ⟨o,Y,iY⟩ isSubtype_stop ?_);have Vp:∀b∈z::TO::qs.map (·.it),jo X W H b:=λb g=>L b (by simp! [ef] at g⊢;rcases g with h|h|h<;>simp [h]);exact bT {rfl,Inv.moved (tk:=tk) I Vp λb o g e=>N b o (λq=>g (by simp [q])) (λq=>g (by simp [q])) (λd hd q=>g (by let(q',oq,r):=cO j d hd;simp! [ef,ew];exact .inr (.inr {q',oq,by rw [q,r.it]}))) e}
 self:=λ_ _ _ _ _ st h=>wpAny_pyIter_zip st.1 h
def pA(a b c:gA):checkTypeCall "zip" {[a,b,c],[]}=pure ():=by kernel_rfl
def pY(a b c:gA):checkBuiltinCall "zip.__new__" {[.type "zip",a,b,c],[]}=pure ():=by kernel_rfl
def js(a b c d:gA):argsOk "object.__init__" {[a,b,c,d],[]}:=by unfold argsOk;rw [signature?_of (n:=['_','_','t','i','n','i','_','_']) (by kernel_rfl) PySem.F.owner_object];kernel_rfl
def Src(h:ig)(b:Bool)(a:hB):Prop:=if b=gf then∃c,h.IsList a c else∃c,h.IsTuple a c
abbrev itN(b:Bool):String:=if b=gf then "list_iterator" else "tuple_iterator"
def Src.push{b:Bool}(q:Src h b a)(o:Obj):Src (h.push o) b a:=by
 unfold Src at q⊢;split
 .rename_i e;rw [if_pos e] at q;let(c,q):=q;exact{c,q.push o}
 .rename_i e;rw [if_neg e] at q;let(c,d,f,r):=q;exact{c,d,aT _ f,r}
abbrev Rp(b:Bool)(a:hB):Obj:={cls:=.type (itN b),data:=.fields #[.ref a,.int 0 0]}
section
variable{E:jW}{s:gB}
def xF{b:Bool}{Q:jW}(h:Src s.heap b a)(q:Q (.ref (zz9 s)) {s with heap:=s.heap.push (Rp b a)}):hF (hT prog w) A (pyIter (.ref a)) Q E s:=by
 cases b with
 |true=>let(c,h):=h;exact wpAny_pyIter_list h q|false=>let(c,h):=h;exact wpAny_pyIter_tuple h q
end
abbrev iC(h:ig)(qs:List (Bool×hB)):Heap:=qs.foldl (λg q=>g.push (Rp q.1 q.2)) h
def jX(qs:List (Bool×hB)):∀h:ig,(iC h qs).objs.size=h.objs.size+qs.length:=by
 induction qs with
 |nil=>exact λh=>rfl|cons q qs a=>intro h;rw [iC,List.foldl_cons,<-iC,a,ig.size_push,cC];lia
section
variable{E:jW}{s:gB}
def u7{Q:List gA->gB->Prop}:∀(qs:List (Bool×hB)),(∀q∈qs,Src s.heap q.1 q.2)->Q ((List.range qs.length).map λi=>gA.ref ((zz9 s)+i)) {s with heap:=iC s.heap qs}->
 hF (hT prog w) A (i1.SmallTypes.iterAll (qs.map λq=>gA.ref q.2)) Q E s:=by
 intro qs j h;unfold i1.SmallTypes.iterAll;refine ar ?_;refine wpAny_forIn_list _ (λrest (b:Array gA) e=>∃c a,qs=c++a/\rest=a.map (λq=>gA.ref q.2)/\b.toList=(List.range c.length).map (λi=>gA.ref ((zz9 s)+i))/\e={s with heap:=iC s.heap c}) _ ?_ ?_ _ _ {[],qs,rfl,rfl,rfl,rfl}
 .rintro x rest b e ⟨c,a,rfl,d,f,rfl⟩
  cases a with
  |nil=>cases d
  |cons q a=>
   simp! [bc,List.cons.injEq] at d;let(rfl,rfl):=d
   have hs:∀(l:List (Bool×hB)) (g:ig),Src g q.1 q.2->Src (iC g l) q.1 q.2:=λl=>by
    induction l with
    |nil=>exact λg h=>h|cons r l k=>exact λg h=>k _ (h.push _)
   refine ar (wpAny_holding (xF (hs c _ (j q (by simp))) ?_));refine bT {c++[q],a,by simp,rfl,?_,?_}
   .rw [Array.toList_push,f,cD,List.length_singleton,List.range_succ,List.map_append];simp [jX]
   .simp [iC,List.foldl_append]
 .rintro b e ⟨c,a,rfl,d,f,rfl⟩
  obtain rfl:a=[]:=by cases a with|nil=>rfl|cons q a=>cases d
  refine bT ?_;rw [f];simpa using h
end
theorem sU{n:hB}(e:h.objs.size=n)(f:o.isFreed=gh:=by rfl):(h.push o).get? n=fP o:=e▸dV h f
abbrev g6(h:ig)(qs:List (Bool×hB)):Heap:=
 (((iC h qs).push {cls:=.type "tuple",data:=.seq ((List.range qs.length).map λi=>gA.ref (h.objs.size+i)).toArray}).push {cls:=.type "tuple",data:=.seq (((List.range qs.length).map λi=>gA.ref (h.objs.size+i)).map λZ=>gA.none).toArray}).push
   {cls:=.type "zip",data:=.fields #[.none,.bool gh,.bool gh,.ref (h.objs.size+qs.length),.ref (h.objs.size+qs.length+1)]}
theorem Gb(qs:List (Bool×hB))(hl:qs.length<=9):
 Meets (i1.«zip.__new__» {.type "zip"::qs.map (λq=>gA.ref q.2),[]}) (λZ R s=>(∀q∈qs,Src s.heap q.1 q.2)/\R (.ok (.ret (.ref ((zz9 s)+qs.length+2)))) {s with heap:=g6 s.heap qs}):=
 .of_wp λprog w A R s h=>by
  let(hs,h):=h;have b:=sub_zip;have a:∀l:List gA,l.length=qs.length->l.length<=sizeLine:=λl e=>di (m:=9) (by lia) (by decide);show hF _ _ (i1.SmallTypes.newClass "zip" _>>=_) _ _ s;unfold i1.SmallTypes.newClass
  wp_walk using u7 qs hs
  rw [if_neg (by rw [a5];exact Nat.not_lt.2 (a _ (by simp)))]
  wp_walk
  rw [if_neg (by rw [a5];exact Nat.not_lt.2 (a _ (by simp)))]
  wp_walk
  refine{_,rfl,?_};simp! [ig.size_push,jX];exact h
def qK(qs:List (Bool×hB)):∀(h:ig) (c:hB) (o:Obj),h.get? c=fP o->(iC h qs).get? c=fP o:=by
 induction qs with
 |nil=>exact λh c o e=>e|cons q qs a=>exact λh c o e=>a _ c o (aT _ e)
theorem vb:∀(qs:List (Bool×hB)) (h:ig) (i:Nat) (q:Bool×hB),qs[i]?=fP q->(iC h qs).get? (h.objs.size+i)=fP (Rp q.1 q.2)
 |q::qs,h,0,r,e=>by cases e;exact qK qs _ _ _ (dV _ rfl)
 |q::qs,h,i+1,r,e=>by have:=vb qs (h.push (Rp q.1 q.2)) i r (zx6 e);rw [ig.size_push] at this;rw [show h.objs.size+(i+1)=h.objs.size+1+i by lia];exact this
section
variable{E:jW}{s:gB}
def Ai{qs:List (Bool×hB)}{Q:jW}(hl:qs.length<=9)(hs:∀q∈qs,Src s.heap q.1 q.2)(f:checkTypeCall "zip" {qs.map (λq=>gA.ref q.2),[]}=pure ())(g:checkBuiltinCall "zip.__new__" {.type "zip"::qs.map (λq=>gA.ref q.2),[]}=pure ())(h3:∀obj,argsOk "object.__init__" {obj::qs.map (λq=>gA.ref q.2),[]})
 (h:IsZip (g6 s.heap qs) ((zz9 s)+qs.length+2) ((zz9 s)+qs.length) ((zz9 s)+qs.length+1) .none->jr (g6 s.heap qs) ((zz9 s)+qs.length) ((List.range qs.length).map λi=>gA.ref ((zz9 s)+i)).toArray->(∃c,jr (g6 s.heap qs) ((zz9 s)+qs.length+1) c/\c.size=qs.length)->
  (∀i q,qs[i]?=fP q->(g6 s.heap qs).get? ((zz9 s)+i)=fP (Rp q.1 q.2))->(∀c o,s.heap.get? c=fP o->(g6 s.heap qs).get? c=fP o)->Q (.ref ((zz9 s)+qs.length+2)) {s with heap:=g6 s.heap qs}):
 hF (hT prog w) A (call (.type "zip") (qs.map λq=>gA.ref q.2)) Q E s:=by
 have a:=jX qs s.heap;have b:∀c o,(iC s.heap qs).get? c=fP o->(g6 s.heap qs).get? c=fP o:=λc o e=>aT _ (aT _ (aT _ e));have d:IsZip (g6 s.heap qs) ((zz9 s)+qs.length+2) ((zz9 s)+qs.length) ((zz9 s)+qs.length+1) .none:=sU (by rw [ig.size_push,ig.size_push,a]);have j:jr (g6 s.heap qs) ((zz9 s)+qs.length) ((List.range qs.length).map λi=>gA.ref ((zz9 s)+i)).toArray:=aT _ (aT _ (sU a));have k:jr (g6 s.heap qs) ((zz9 s)+qs.length+1) (((List.range qs.length).map λi=>gA.ref ((zz9 s)+i)).map λZ=>gA.none).toArray:=aT _ (sU (by rw [ig.size_push,a]));exact callType_new PySem.F.called_zip (by decide) f g h3 PySem.F.entry_zip_new (Gb qs hl) {hs,{_,d,rfl},h d j {_,k,by simp} (λi q e=>b _ _ (vb qs _ i q e)) λc o e=>b _ _ (qK qs _ c o e)}
end
theorem rh:∀{ts:List Zt} {us:List gA},Vals (ts.map λt=>V.ref t.2.1) us->us=ts.map λt=>gA.ref t.2.1
 |[],_,.nil=>rfl|t::ts,_,.cons h r=>by cases h;rw [rh r];rfl
section
variable{elts:List hD}{x1:Nat}{JJ:Pos}
abbrev Rl(K:zz8)(b:TA):TI:=λc H R=>b c H λd a=>∃ts:List Zt,d=ts.map (λt=>.ref t.2.1)/\(ts.length=2\/ts.length=3)/\(∀t∈ts,Zq K a t)/\R (Uc K ts) a
def Jb{o:List hD}{L:TA}{p pos:Pos}(W:Gl X "zip")(hm:X.mg "zip"=gd)(Y:PA X (e::o) L)(he:starEach (e::o) X.env=(gh,eval e X.env)::starEach o X.env)(hp:(backTo pos (starEach o X.env)).any (·.1)=gh):
 PI X (.Tuple elts x1 JJ) (.Call (.Name "zip" p) (e::o) [] pos) (Rl X.K L):=by
 intro M s N H R I h;refine Call_ (j1 I W hm (show bootBuiltins "zip"=fP (.type "zip") by decide+kernel) (PyProof.Rows.callWith_type1 (bU (Y pos M s N H _ I h) λus d ⟨vs,H1,u,r1,q1⟩=>?_) he hp));let(ts,rfl,hn,hq,q):=q1;obtain rfl:=rh r1;have O:ts.length<=9:=by lia
 have C:(ts.map λt=>(t.1,t.2.1)).length=ts.length:=zzl ..;have em:(ts.map λt=>gA.ref t.2.1)=(ts.map λt=>(t.1,t.2.1)).map λq=>gA.ref q.2:=by rw [List.map_map];rfl
 have y:∀t∈ts,Src d.heap t.1 t.2.1/\t.2.1<(zz9 d):=λt D=>by
  have:=hq t D
  unfold Zq at this;unfold Src;cases g:t.1 with
  |true=>rw [if_pos g] at this;let(aw,_,A,_):=u.list this;exact{{_,A.isList},by let(_,e,_):=A.isList;exact cP e}|false=>rw [if_neg (by rw [g];exact zzf)] at this;let(aw,_,A,_):=u.tuple this;exact{{_,A},by let(_,e,_):=A;exact cP e}
 have go:∀l,(l=2\/l=3)->ts.length=l->checkTypeCall "zip" {ts.map (λt=>gA.ref t.2.1),[]}=pure ()/\checkBuiltinCall "zip.__new__" {.type "zip"::ts.map (λt=>gA.ref t.2.1),[]}=pure ()/\∀obj,argsOk "object.__init__" {obj::ts.map (λt=>gA.ref t.2.1),[]}:=λl hl e=>by
  rcases hl with rfl|rfl
  .match ts,e with
   |[a,b],_=>exact{PySem.F.typeCall_zip_2 _ _,PySem.F.newCall_zip_2 _ _,λobj=>PySem.F.args_object_init_3 obj _ _}
  .match ts,e with
   |[a,b,c],_=>exact{pA _ _ _,pY _ _ _,λobj=>js obj _ _ _}
 let(c1,Q,S):=go _ hn rfl;rw [em] at c1 Q S⊢;refine Ai (by rw [C];exact O) (λq f=>by let(t,D,rfl):=ew.1 f;exact(y t D).1) c1 Q S λE a2 U a4 kk=>wpAny_pyIter_zip E ?_;rw [C] at E a2 U;have I2:Inv X M N H1 {d with heap:=g6 d.heap (ts.map λt=>(t.1,t.2.1))}:=u.kept (t':=d.toks) kk;have eqs:(ts.zipIdx.map λp=>({(zz9 d)+p.2,p.1.1,p.1.2.1,p.1.2.2}:Zs)).map Zs.t=ts:=by rw [List.map_map];refine List.ext_getElem (by simp) λi m k=>?_;simp [Zs.t]
 have B:∀q∈ts.zipIdx.map λp=>(⟨(zz9 d)+p.2,p.1.1,p.1.2.1,p.1.2.2⟩:Zs),∃i,i<ts.length/\ts[i]?=fP q.t/\q.it=(zz9 d)+i:=λq f=>by let((t,i),Kl,rfl):=ew.1 f;have:=List.mem_zipIdx_iff_getElem?.1 Kl;exact{i,(cj.1 this).1,this,rfl}
 have Z:Uq ((zz9 d)+ts.length+2) ((zz9 d)+ts.length) ((zz9 d)+ts.length+1) (ts.zipIdx.map λp=>({(zz9 d)+p.2,p.1.1,p.1.2.1,p.1.2.2}:Zs)):=by
  refine{{d1 (by show _<_;lia),d1 (by show _<_;lia),d1 (by show _<_;lia)},λz=>?_,zx6 O,λq f=>?_,λq f=>?_,?_}
  .have:=congrArg List.length z;simp! [zzl,List.length_zipIdx,List.length_nil] at this;lia
  .let(i,m,_,h3):=B q f;rw [h3];exact{d1 (by show _<_;lia),d1 (by show _<_;lia),d1 (by show _<_;lia)}
  .let(i,m,k,h3):=B q f;have G:q.a<(zz9 d):=(y q.t (a7 k)).2;refine{d1 (dA G (by show _<=_;lia)),d1 (dA G (by show _<=_;lia)),λr hr=>?_};let(j,_,_,h5):=B r hr;rw [h5];exact d1 (dA G (by show _<=_;lia))
  .refine List.pairwise_map.2 ?_;refine List.pairwise_iff_getElem.2 λi j hi hj X6=>?_;simp! [List.getElem_zipIdx];exact d1 (by show _<_;lia)
 have T:=BJ (P:=X.prog) (w:=X.w) (K:=X.K) (elts:=elts) (x1:=x1) (pos:=JJ) Z;rw [eqs] at T;refine{_,_,_,_,H1,by rw [C],I2,T,{E,?_,?_,λq f=>?_},λb g=>?_,q}
 .have:(ts.zipIdx.map λp=>({(zz9 d)+p.2,p.1.1,p.1.2.1,p.1.2.2}:Zs)).map (λq=>gA.ref q.it)=(List.range ts.length).map λi=>gA.ref ((zz9 d)+i):=by
   refine List.ext_getElem (by simp) λi m k=>?_;simp
  rw [this];exact a2
 .let(c,m,k):=U;exact{c,m,zx6 k}
 .let(i,m,k,h3):=B q f;have:=a4 i (q.b,q.a) (by rw [c4,k];rfl)
  unfold Zs.iter;rw [h3];cases g:q.b with
  |true=>rw [g] at this;exact{_,this,rfl,rfl}|false=>rw [g] at this;exact{_,this,rfl,rfl}
 .have V:(zz9 d)<=b:=by
   simp! [ef,ew] at g;rcases g with e|e|e|⟨q,f,e⟩
   .rw [e];exact di (Nat.le_add_right _ _) (Nat.le_add_right _ _)
   .rw [e];exact Nat.le_add_right _ _
   .rw [e];exact di (Nat.le_add_right _ _) (Nat.le_add_right _ _)
   .let(i,_,_,h3):=B q (ew.2 f);rw [<-e,h3];exact Nat.le_add_right _ _
  exact u.uS V (u.aQ.fresh V)
end
def RP(xs:List V)(P:V->Prop):Prop:=match xs with
 |[x]=>P x|_=>False
def IM{xs:List V}{P:V->Prop}(h:RP xs P):∃x,xs=[x]/\P x:=by
 cases xs with
 |nil=>exact h.elim|cons x r=>
  cases r with
  |nil=>exact⟨x,rfl,h⟩|cons _ _=>exact h.elim
def F3(r:Vals vs us):Vals vs.reverse us.reverse:=by
 induction r with
 |nil=>exact .nil|cons h t a=>rw [List.reverse_cons,List.reverse_cons];exact a.append (.cons h .nil)
end L2
namespace Ci
open L2
set_option backward.match.sparseCases false
structure Hs where
 f:Str
 h:Str
 g:Str
 idx:List Nat
 np:Nat
structure Pg where
 gs:List (Str×PV)
 bs:List Str
 cs:List Str
 fs:List Str
 rs:List Str
 hs:List Hs:=[]
 hl:Bool:=gh
 qt:Bool:=gh
 qs:List Str:=[]
abbrev nq(Γ:Pg)(b:Bool):Bool:=b&&!Γ.qt
def qS{Γ:Pg}{b:Bool}(h:nq Γ b=gf):Γ.qt=gh/\b=gf:=by unfold nq at h;rw [zza,Bool.not_eq_true'] at h;exact⟨h.2,h.1⟩
abbrev gz(sc:ia)(x:Str):Bool:=sc.names.lookup x==fP .local||sc.names.lookup x==fP .cell
abbrev kf(sc:ia)(x:Str):Bool:=gz sc x||sc.names.lookup x==fP .free
abbrev gu(sc:ia)(x:Str):Bool:=sc.names.lookup x==fP .globalImplicit
abbrev litS:List PV->List PV->Bool
 |[],[]=>gf|.str x::xs,.str y::ys=>x==y&&litS xs ys|_,_=>gh
abbrev D8:PV->PV->Bool
 |.int i,.int j=>i==j|.str x,.str y=>x==y|.tup xs,.tup ys=>litS xs ys|_,_=>gh
theorem litS_eq:∀{xs ys:List PV},litS xs ys=gf->xs=ys
 |[],[],_=>rfl|.str x::xs,.str y::ys,h=>by unfold litS at h;rw [zza] at h;rw [zzy.mp h.1,litS_eq h.2]
def D9(h:D8 p q=gf):p=q:=by
 cases p<;>first|exact aO h|skip
 all_goals cases q<;>first|exact aO h|skip
 .rw [zzy.mp h]
 .rw [zzy.mp h]
 .rw [litS_eq h]
abbrev bN:B->Str
 |.len=>"len"|.str=>"str"|.tuple=>"tuple"|.all=>"all"|.sorted=>"sorted"
abbrev mN:M->Str
 |.jy=>"count"|.index=>"index"|.join=>"join"
abbrev VO:E->Bool
 |.var _=>gf|.fld _ _=>gf|_=>gh
abbrev HZ:hD->Bool
 |.Dict [] [] _=>gf|_=>gh
def yN{p:hD}(h:HZ p=gf):∃pos,p=.Dict [] [] pos:=by
 unfold HZ at h;split at h
 .exact{_,rfl}
 .cases h
abbrev eR:E->Bool
 |.JH _=>gh|.con _=>gh|_=>gf
abbrev g9:Es->Bool
 |.nil=>gf|.cons e a=>eR e&&g9 a
abbrev Ay:I->Bool
 |.seq e=>eR e|.sY _=>gf|.zip _=>gf
abbrev isNil:Es->Bool
 |.nil=>gf|_=>gh
abbrev fN:Es->Nat
 |.nil=>0|.cons _ a=>fN a+1
abbrev FU:hD->Option (List hD)
 |.Tuple a _ _=>fP a|_=>gd
def tW{a:List hD}(h:FU e=fP a):∃k p,e=.Tuple a k p:=by
 cases e with
 |Tuple a k p=>cases h;exact{_,_,rfl}
 |_=>exact lM h
abbrev BL{c:Type}:List c->Option (c×c)
 |[a,b]=>fP (a,b)|_=>gd
def JL{c:Type}{ts:List c}{q:c×c}(h:BL ts=fP q):ts=[q.1,q.2]:=by
 cases ts with
 |nil=>exact lM h|cons a ts=>
  cases ts with
  |nil=>exact lM h|cons b ts=>
   cases ts with
   |cons _ _=>exact lM h|nil=>cases h;rfl
abbrev Wb(N:List Str)(sc:ia)(fn:Str->Bool)(i:Nat)(p:hD):Bool:=(j5 p).any λx=>N[i]?==fP x&&gz sc x&&(fn x||sc.names.lookup x==fP .local)
abbrev Nr(N:List Str)(sc:ia)(fn:Str->Bool):List Nat->List hD->Bool
 |i::is,a::as=>Wb N sc fn i a&&Nr N sc fn is as|[],[]=>gf|_,_=>gh
abbrev eT(N:List Str)(sc:ia)(fn:Str->Bool):Tg->hD->Bool
 |.one i,p=>Wb N sc fn i p|.two i j,p=>(FU p).any (Nr N sc fn [i,j])
abbrev aF:hD->List Str
 |.Name x _=>[x]|.Tuple [.Name x _,.Name y _] _ _=>[x,y]|.Tuple [.Name x _,.Name y _,.Name z _] _ _=>[x,y,z]|.Tuple [.Name x _,.Tuple [.Name y _,.Name z _] _ _] _ _=>[x,y,z]|_=>[]
abbrev cJ(a sc:ia):Scope:=
 {a with names:=a.names.map λ(n,k)=>if(k==.free&&sc.kind==.function&&sc.names.lookup n==fP .cell) then(n,.cell) else(n,k)}
abbrev freeOf(a:ia):List Str:=((a.names.filter λp=>p.2==.free).map (·.1)).reverse
abbrev uD(N:List Str)(sc a:ia)(k:Nat)(b:List Nat)(xs:List Str):Bool:=
 a.kind==.function&&xs.length==k&&decide ((xs++freeOf a).Nodup)
 &&(a.names.all λy=>(decide (y.2≠.cell)||!(freeOf a).contains y.1)&&(decide (y.2≠.free)||(freeOf a).contains y.1))
 &&(a.names.all λy=>decide (y.2≠.cell)||decide (a.names.lookup y.1=fP .cell))
 &&(a.names.all λy=>decide (y.2≠.local)||decide (a.names.lookup y.1=fP .local))
 &&decide (b.map (λi=>N[i]?)=(freeOf a).map fP)
 &&((freeOf a).all λy=>decide (sc.names.lookup y=fP .cell))
 &&((freeOf a).all λy=>decide ((cJ a sc).names.lookup y=fP .cell))
abbrev ke(k:Nat):Tg->Bool
 |.one i=>decide (i<k)|.two i j=>decide (i<k)&&decide (j<k)
abbrev gx:E->Bool
 |.con _=>gh|.ite _ _ _=>gh|.not a=>gx a|.and a b=>gx a&&gx b|.or a b=>gx a&&gx b|_=>gf
abbrev isTup:hD->Bool
 |.Tuple .. =>gf|_=>gh
noncomputable abbrev Pg.vw(Γ:Pg):Pg:={Γ with hl:=gh}
def wC{c d:Type}{o:Option c}{f:c->Option d}{b:d}(h:o.bind f=fP b):∃a,o=fP a/\f a=fP b:=d0.1 h
def if1{d:Type}{c:Bool}{a b:d}(h:(if c=gf then fP a else gd)=fP b):c=gf/\a=b:=by
 cases c with
 |true=>cases h;exact⟨rfl,rfl⟩
 |false=>exact lM h
abbrev eN{a:Type}:List a->Option a
 |[t]=>fP t|_=>gd
def i6{b:Type}{ts:List b}{t:b}(h:eN ts=fP t):ts=[t]:=by
 cases ts with
 |nil=>exact lM h|cons a ts=>
  cases ts with
  |cons _ _=>exact lM h|nil=>cases h;rfl
abbrev GP:hD->Option (hD×Str×Pos)
 |.Attribute o m p=>fP (o,m,p)|_=>gd
def ic{q:hD×Str×Pos}(h:GP e=fP q):e=.Attribute q.1 q.2.1 q.2.2:=by
 cases e with
 |Attribute o m p=>cases h;rfl
 |_=>exact lM h
abbrev Yi:hD->Option (Arguments×hD×ia)
 |.Lambda p b s _=>fP (p,b,s)|_=>gd
def Nh{q:Arguments×hD×ia}(h:Yi e=fP q):∃p,e=.Lambda q.1 q.2.1 q.2.2 p:=by
 cases e with
 |Lambda p b s x=>cases h;exact{_,rfl}
 |_=>exact lM h
abbrev KN:hD->Option (hD×hD)
 |.Subscript a b _=>fP (a,b)|_=>gd
def FI{q:hD×hD}(h:KN e=fP q):∃p,e=.Subscript q.1 q.2 p:=by
 cases e with
 |Subscript a b p=>cases h;exact{_,rfl}
 |_=>exact lM h
abbrev Qm:hD->Option Const
 |.Constant c _ _=>fP c|_=>gd
def Cp{c:Const}(h:Qm e=fP c):∃p q,e=.Constant c p q:=by
 cases e with
 |Constant c p q=>cases h;exact{_,_,rfl}
 |_=>exact lM h
abbrev pI:Const->Option Str
 |.str z=>fP z|_=>gd
def FF{c:Const}(h:pI c=fP z):c=.str z:=by
 cases c with
 |str y=>cases h;rfl
 |_=>exact lM h
abbrev VQ:Const->Option Int
 |.int n=>fP n|_=>gd
def DV{c:Const}{n:Int}(h:VQ c=fP n):c=.int n:=by
 cases c with
 |int y=>cases h;rfl
 |_=>exact lM h
def j6{a:Type}{l:List a}(h:l.isEmpty=gf):l=[]:=by
 cases l with
 |nil=>rfl|cons _ _=>exact aO h
def Nz{a:Type}{o:Option a}(h:o.isNone=gf):o=gd:=by
 cases o with
 |none=>rfl|some _=>exact aO h
abbrev Xv:Const->Option Bool
 |.bool b=>fP b|_=>gd
def Lf{c:Const}{b:Bool}(h:Xv c=fP b):c=.bool b:=by
 cases c with
 |bool y=>cases h;rfl
 |_=>exact lM h
abbrev Yo:Const->Bool
 |.none=>gf|_=>gh
def Nv{c:Const}(h:Yo c=gf):c=.none:=by
 cases c with
 |none=>rfl|_=>exact aO h
abbrev Xu:hD->Option (hD×Operator×hD)
 |.BinOp a o b _=>fP (a,o,b)|_=>gd
def Ld{q:hD×Operator×hD}(h:Xu e=fP q):∃p,e=.BinOp q.1 q.2.1 q.2.2 p:=by
 cases e with
 |BinOp a o b p=>cases h;exact{_,rfl}
 |_=>exact lM h
abbrev Ql:hD->Option (hD×List CmpOp×List hD)
 |.Compare a o b _=>fP (a,o,b)|_=>gd
def Lo{q:hD×List CmpOp×List hD}(h:Ql e=fP q):∃p,e=.Compare q.1 q.2.1 q.2.2 p:=by
 cases e with
 |Compare a o b p=>cases h;exact{_,rfl}
 |_=>exact lM h
abbrev SU:hD->Option (UnaryOp×hD)
 |.UnaryOp o a _=>fP (o,a)|_=>gd
def O1{q:UnaryOp×hD}(h:SU e=fP q):∃p,e=.UnaryOp q.1 q.2 p:=by
 cases e with
 |UnaryOp o a p=>cases h;exact{_,rfl}
 |_=>exact lM h
abbrev Kp:UnaryOp->Bool
 |.Not=>gf|_=>gh
def DT{o:UnaryOp}(h:Kp o=gf):o=.Not:=by
 cases o with
 |Not=>rfl|_=>exact aO h
abbrev isNeg:UnaryOp->Bool
 |.USub=>gf|_=>gh
def u6{o:UnaryOp}(h:isNeg o=gf):o=.USub:=by
 cases o with
 |USub=>rfl|_=>exact aO h
abbrev u5:BoolOp->Bool
 |.And=>gf|.Or=>gh
def DQ{o:BoolOp}(h:u5 o=gf):o=.And:=by
 cases o with
 |And=>rfl|Or=>exact aO h
def yP{o:BoolOp}(h:(!u5 o)=gf):o=.Or:=by
 cases o with
 |Or=>rfl|And=>exact aO h
abbrev Qd:hD->Option (BoolOp×List hD×Pos)
 |.BoolOp o vs p=>fP (o,vs,p)|_=>gd
def Lg{q:BoolOp×List hD×Pos}(h:Qd e=fP q):e=.BoolOp q.1 q.2.1 q.2.2:=by
 cases e with
 |BoolOp o a p=>cases h;rfl
 |_=>exact lM h
abbrev Th(o:BoolOp)(pos:Pos):List hD->Option (hD×hD)
 |a::b::[]=>fP (a,b)|a::b::c::r=>fP (a,.BoolOp o (b::c::r) pos)|_=>gd
def wG{o:BoolOp}{vs:List hD}{q:hD×hD}(h:Th o pos vs=fP q):vs=[q.1,q.2]\/∃b c r,vs=q.1::b::c::r/\q.2=.BoolOp o (b::c::r) pos:=by
 cases vs with
 |nil=>exact lM h|cons a vs=>
  cases vs with
  |nil=>exact lM h|cons b vs=>
   cases vs with
   |nil=>cases h;exact .inl rfl
   |cons c r=>cases h;exact .inr ⟨b,c,r,rfl,rfl⟩
abbrev VL:hD->Option (hD×hD×hD)
 |.IfExp c a b _=>fP (c,a,b)|_=>gd
def DM{q:hD×hD×hD}(h:VL e=fP q):∃p,e=.IfExp q.1 q.2.1 q.2.2 p:=by
 cases e with
 |IfExp c a b p=>cases h;exact{_,rfl}
 |_=>exact lM h
abbrev VZ:hD->Option (List hD)
 |.List a _=>fP a|_=>gd
def xj{a:List hD}(h:VZ e=fP a):∃p,e=.List a p:=by
 cases e with
 |List a p=>cases h;exact{_,rfl}
 |_=>exact lM h
abbrev Pz:hD->Option (Option hD×Option hD×Option hD)
 |.Slice a b c _=>fP (a,b,c)|_=>gd
def OB{q:Option hD×Option hD×Option hD}(h:Pz e=fP q):∃p,e=.Slice q.1 q.2.1 q.2.2 p:=by
 cases e with
 |Slice a b c p=>cases h;exact{_,rfl}
 |_=>exact lM h
abbrev Rx:hD->Option (hD×List Comprehension×ia)
 |.ListComp e gs s _=>fP (e,gs,s)|_=>gd
def Ng{q:hD×List Comprehension×ia}(h:Rx e=fP q):∃p,e=.ListComp q.1 q.2.1 q.2.2 p:=by
 cases e with
 |ListComp e gs s p=>cases h;exact{_,rfl}
 |_=>exact lM h
abbrev wa(e:hD):Option (Str×List hD):=(Cg e).bind λq=>(j5 q.1).bind λg=>if q.2.2.1.isEmpty=gf then fP (g,q.2.1) else gd
def Ll{q:Str×List hD}(h:wa e=fP q):∃np p,e=.Call (.Name q.1 np) q.2 [] p:=by let((f,a,k,p),c,h):=wC h;let(g,d,h):=wC h;let(h3,rfl):=if1 h;let(np,z):=e9 d;have b:=j6 h3;dsimp only at z b;subst z b;exact{np,p,ie c}
abbrev Qq:PV->Const->Bool
 |.aN,c=>Yo c|.bl b,c=>(Xv c).any λx=>b==x|.int i,c=>(VQ c).any λx=>i==x|.str z,c=>(pI c).any λx=>z==x|_,_=>gh
abbrev Kv(p:hD):Bool:=(Cg p).all λq=>!q.2.1.isEmpty
abbrev fQ(p:hD):Bool:=(Cg p).isNone
def aj{a b:Bool}(h:(a&&b)=gf):a=gf/\b=gf:=Bool.and_eq_true_iff.mp h
def af{a:Type}{o:Option a}{f:a->Bool}(h:o.any f=gf):∃x,o=fP x/\f x=gf:=by
 cases o with
 |none=>cases h
 |some x=>exact⟨x,rfl,h⟩
theorem fe{b:Type}{l:List b}{f:b->Bool}(h:(eN l).any f=gf):∃a,l=[a]/\f a=gf:=let⟨a,e,c⟩:=af h;{a,i6 e,c}
theorem JM{c:Type}{l:List c}{f:c×c->Bool}(h:(BL l).any f=gf):∃a b,l=[a,b]/\f (a,b)=gf:=let⟨q,e,d⟩:=af h;{q.1,q.2,JL e,d}
theorem RI{p:hD}{f:Str->Bool}(h:(j5 p).any f=gf):∃x np,p=.Name x np/\f x=gf:=let⟨x,e,a⟩:=af h;let⟨np,z⟩:=e9 e;⟨x,np,z,a⟩
theorem XG{p:hD}{f:Const->Bool}(h:(Qm p).any f=gf):∃x a b,p=.Constant x a b/\f x=gf:=let⟨x,e,c⟩:=af h;let⟨a,b,z⟩:=Cp e;⟨x,a,b,z,c⟩
theorem yt{p:hD}{f:Str×List hD->Bool}(h:(wa p).any f=gf):∃g as np pos,p=.Call (.Name g np) as [] pos/\f (g,as)=gf:=let⟨q,e,c⟩:=af h;let⟨a,b,z⟩:=Ll e;⟨q.1,q.2,a,b,z,c⟩
theorem SD{p:hD}{f:hD×hD->Bool}(h:(KN p).any f=gf):∃a b pos,p=.Subscript a b pos/\f (a,b)=gf:=let⟨q,e,c⟩:=af h;let⟨x,z⟩:=FI e;⟨q.1,q.2,x,z,c⟩
theorem Yx{p:hD}{f:Option hD×Option hD×Option hD->Bool}(h:(Pz p).any f=gf):∃a b c pos,p=.Slice a b c pos/\f (a,b,c)=gf:=let⟨q,e,d⟩:=af h;let⟨x,z⟩:=OB e;⟨q.1,q.2.1,q.2.2,x,z,d⟩
theorem WW{p:hD}{f:UnaryOp×hD->Bool}(h:(SU p).any f=gf):∃o a pos,p=.UnaryOp o a pos/\f (o,a)=gf:=let⟨q,e,b⟩:=af h;let⟨x,z⟩:=O1 e;⟨q.1,q.2,x,z,b⟩
theorem Tn{p:hD}{f:hD×List CmpOp×List hD->Bool}(h:(Ql p).any f=gf):∃a o b pos,p=.Compare a o b pos/\f (a,o,b)=gf:=let⟨q,e,c⟩:=af h;let⟨x,z⟩:=Lo e;⟨q.1,q.2.1,q.2.2,x,z,c⟩
theorem Ry{p:hD}{f:hD×List Comprehension×ia->Bool}(h:(Rx p).any f=gf):∃a g s pos,p=.ListComp a g s pos/\f (a,g,s)=gf:=let⟨q,e,b⟩:=af h;let⟨x,z⟩:=Ng e;⟨q.1,q.2.1,q.2.2,x,z,b⟩
theorem UB{p:hD}{f:BoolOp×List hD×Pos->Bool}(h:(Qd p).any f=gf):∃o vs pos,p=.BoolOp o vs pos/\f (o,vs,pos)=gf:=let⟨q,e,a⟩:=af h;{q.1,q.2.1,q.2.2,Lg e,a}
mutual
noncomputable def aK(Γ:Pg)(N:List Str)(sc:ia):E->hD->Bool
 |.var i,p=>(j5 p).any λx=>N[i]?==fP x&&kf sc x&&okN x|.JH i,p=>(j5 p).any λx=>N[i]?==fP x&&kf sc x&&okN x|.cst q,p=>(Qm p).any (Qq q)|.glob g p,e=>(j5 e).any λx=>g==x&&gu sc x&&okN x&&Γ.gs.any λq=>q.1==g&&D8 q.2 p|.call f as,p=>(wa p).any λq=>f==q.1&&Γ.fs.contains q.1&&gu sc q.1&&okN q.1&&g9 as&&dD Γ N sc as q.2|.blt b as,p=>nq Γ ((wa p).any λq=>bN b==q.1&&gu sc q.1&&Γ.bs.contains q.1&&!isNil as&&dD Γ N sc as q.2)|.ty t a,p=>(wa p).any λq=>(BL q.2).any λr=>(j5 r.2).any λtn=>q.1==(zu 28:Str)&&gu sc q.1&&Γ.bs.contains q.1&&tn==Str.ofString (xZ t)&&gu sc tn&&Γ.bs.contains tn&&aK Γ N sc a r.1|.yQ c a,p=>(wa p).any λq=>(BL q.2).any λr=>(j5 r.2).any λcn=>q.1==(zu 28:Str)&&gu sc q.1&&Γ.bs.contains q.1&&cn==c&&gu sc cn&&okN cn&&(Γ.cs.contains c||(c==(zu 2)&&Γ.bs.contains c))&&aK Γ N sc a r.1
 |.fg m o as,p=>(Cg p).any λq=>(GP q.1).any λr=>q.2.2.1.isEmpty&&(mN m==r.2.1&&!isNil as&&decide (fN as<30)&&r.2.2.endLine==q.2.2.2.line&&aK Γ N sc o r.1&&dD Γ N sc as q.2.1&&fQ r.1)|.bin o a b,p=>(Xu p).any λq=>decide (TK o=q.2.1)&&aK Γ N sc a q.1&&aK Γ N sc b q.2.2|.cmp o a b,p=>(Ql p).any λq=>(eN q.2.1).any λh=>(eN q.2.2).any λj=>decide (mS o=h)&&aK Γ N sc a q.1&&aK Γ N sc b j|.ch o1 o2 a b c,p=>(Ql p).any λq=>(BL q.2.1).any λh=>(BL q.2.2).any λj=>decide (mS o1=h.1)&&decide (mS o2=h.2)&&aK Γ N sc a q.1&&aK Γ N sc b j.1&&aK Γ N sc c j.2|.not a,p=>(SU p).any λq=>Kp q.1&&aK Γ N sc a q.2|.neg a,p=>(SU p).any λq=>isNeg q.1&&aK Γ N sc a q.2|.and a b,p=>(Qd p).any λq=>(Th q.1 q.2.2 q.2.1).any λr=>u5 q.1&&eR b&&aK Γ N sc a r.1&&aK Γ N sc b r.2|.or a b,p=>(Qd p).any λq=>(Th q.1 q.2.2 q.2.1).any λr=>!u5 q.1&&eR b&&aK Γ N sc a r.1&&aK Γ N sc b r.2|.ite c a b,p=>(VL p).any λq=>gx c&&eR a&&eR b&&aK Γ N sc c q.1&&aK Γ N sc a q.2.1&&aK Γ N sc b q.2.2|.tup as,p=>(FU p).any λps=>g9 as&&decide (fN as<1000)&&dD Γ N sc as ps|.lst as,p=>(VZ p).any λps=>g9 as&&decide (fN as<1000)&&dD Γ N sc as ps|.sub a b,p=>(KN p).any λq=>aK Γ N sc a q.1&&aK Γ N sc b q.2|.slice a lo w,p=>(KN p).any λq=>(Pz q.2).any λr=>r.2.2.isNone&&aK Γ N sc a q.1&&Lm Γ N sc lo r.1&&Lm Γ N sc w r.2.1|.comp k s d it elt,p=>nq Γ ((Rx p).any λq=>(eN q.2.1).any λg=>g.ifs.isEmpty&&(uD N sc q.2.2 k s (aF g.target)&&ke k d&&eR elt&&uA Γ N sc g.target it g.iter&&eT (aF g.target++freeOf q.2.2) (cJ q.2.2 sc) (k7 q.2.2) d g.target&&aK Γ.vw (aF g.target++freeOf q.2.2) (cJ q.2.2 sc) elt q.1&&decide (g.is_async=0)))|.eQ k s d it c elt,p=>nq Γ ((Rx p).any λq=>(eN q.2.1).any λg=>(eN g.ifs).any λy=>gx c&&uD N sc q.2.2 k s (aF g.target)&&ke k d&&eR elt&&uA Γ N sc g.target it g.iter&&eT (aF g.target++freeOf q.2.2) (cJ q.2.2 sc) (k7 q.2.2) d g.target&&aK Γ.vw (aF g.target++freeOf q.2.2) (cJ q.2.2 sc) c y&&aK Γ.vw (aF g.target++freeOf q.2.2) (cJ q.2.2 sc) elt q.1&&decide (g.is_async=0))|.rev a,p=>(KN p).any λq=>(Pz q.2).any λr=>(r.2.2).any λst=>(SU st).any λu=>(Qm u.2).any λc=>r.1.isNone&&r.2.1.isNone&&isNeg u.1&&VQ c==fP 1&&aK Γ N sc a q.1|.get a k,p=>(Cg p).any λq=>(GP q.1).any λr=>(eN q.2.1).any λA=>q.2.2.1.isEmpty&&r.2.1==("get":Str)&&r.2.2.endLine==q.2.2.2.line&&Kv r.1&&aK Γ N sc a r.1&&aK Γ N sc k A|.con a,p=>VO a&&aK Γ N sc a p|.Pc,p=>HZ p|.fld i f,p=>(GP p).any λq=>(j5 q.1).any λx=>q.2.1==f&&(N[i]?==fP x&&kf sc x&&okN x)&&decide (cW f≠dW)|.Ec a,p=>nq Γ ((wa p).any λq=>(eN q.2).any λz=>(wa z).any λr=>(eN r.2).any λB=>q.1==("list":Str)&&gu sc q.1&&Γ.bs.contains q.1&&r.1==(zu 9:Str)&&gu sc r.1&&Γ.bs.contains r.1&&aK Γ N sc a B)
noncomputable def dD(Γ:Pg)(N:List Str)(sc:ia):Es->List hD->Bool
 |.nil,[]=>gf|.cons e a,p::ps=>aK Γ N sc e p&&dD Γ N sc a ps|_,_=>gh
noncomputable def Lm(Γ:Pg)(N:List Str)(sc:ia):Oe->Option hD->Bool
 |.no,gd=>gf|.some e,fP p=>aK Γ N sc e p|_,_=>gh
noncomputable def uA(Γ:Pg)(N:List Str)(sc:ia)(a:hD):I->hD->Bool
 |.seq e,p=>aK Γ N sc e p|.sY e,p=>(wa p).any λq=>(eN q.2).any λr=>q.1==("range":Str)&&gu sc q.1&&Γ.bs.contains q.1&&aK Γ N sc e r|.zip as,p=>(wa p).any λq=>isTup a&&q.1==("zip":Str)&&gu sc q.1&&Γ.bs.contains q.1&&g9 as&&(fN as==2||fN as==3)&&dD Γ N sc as q.2
end
set_option backward.match.sparseCases true
abbrev XE(W:Wd)(c:Str)(b H1:Hp):XK:=λd e f=>∃C a g,d=.ref C/\e=fP a/\c∈W.xs/\W.mg c=fP (.ref C)/\aC W b H1 g f
def um(X:Cx)(W:Wd)(g:St)(c:Str)(G H:Hp):Prop:=∀(h:kd) (b a:Hp) (d:gB) (e:gA) (f:gB),Inv X h g a d->aC W G H b a->dF X.prog X.w X.stack a d (XE W c b a) e f->X.xe e f
def Out{b:Type}(X:Cx)(W:Wd)(r:Res b)(d:St)(G H:Hp)(k:b->Prop):Prop:=match r with
 |.ok a=>k a|.exc c=>um X W d c G H|.bad=>False
section
variable{W:Wd}{F:aP}{G1:Hp}{α β:Type}
def um.grow(h:um X W σ c G H)(g:aC W G H G1 H1):um X W σ c G1 H1:=λa G2 b d e f I g2 x=>h a G2 b d e f I (g.trans g2) x
def Out.grow{r:Res α}{k:α->Prop}(h:Out X W r σ G H k)(g:aC W G H G1 H1):Out X W r σ G1 H1 k:=by
 cases r with
 |ok a=>exact h|exc c=>exact um.grow h g|bad=>exact h
def Out.imp{r:Res α}{k b:α->Prop}(h:Out X W r σ G H k)(i:∀a,k a->b a):Out X W r σ G H b:=by
 cases r with
 |ok a=>exact i a h|exc c=>exact h|bad=>exact h
def Out.bind{r:Res α}{f:α->Res β}{k:β->Prop}(h:Out X W (r.bind f) σ G H k):Out X W r σ G H λa=>Out X W (f a) σ G H k:=by
 cases r with
 |ok a=>exact h|exc c=>exact h|bad=>exact h
def Out.val{r:Res α}{k:α->Prop}(h:Out X W r σ G H k)(n:∀c,r≠.exc c):∃a,r=.ok a/\k a:=by
 cases r with
 |ok a=>exact⟨a,rfl,h⟩|exc c=>exact absurd rfl (n c)|bad=>exact h.elim
structure Got(W:Wd)(H0 G H:Hp)(e:E)(p:PV)(v:V):Prop where
 top:Top W Bb G H p v
 rep:eR e=gf->Rep W G p v
def Got.of{e:E}(h:Rep W G p v):Got W H0 G H e p v:={.inl h,λZ=>h}
abbrev tE(X:Cx)(W:Wd)(F:aP)(e:E):TE:=λσ H Q=>∃b G env,SR W b env σ G H/\Out X W (aB F e env) σ G H λp=>∀v c a,aC W G H c a->Got W b c a e p v->Q v a
abbrev tT(X:Cx)(W:Wd)(F:aP)(e:E):TT:=λσ H Q=>∃c G env,SR W c env σ G H/\Out X W (aB F e env) σ G H λp=>∃b,p=.bl b/\∀d a,aC W G H d a->Q b a
structure K4(W:Wd)(H0 G H:Hp)(es:Es)(ps:List PV)(vs:List V):Prop where
 top:Paired (λv p=>Top W Bb G H p v) vs ps
 rep:g9 es=gf->ah W G ps vs
abbrev tA(X:Cx)(W:Wd)(F:aP)(b:Es):TA:=λσ H Q=>∃c G env,SR W c env σ G H/\Out X W (br F b env) σ G H λf=>∀d e a,aC W G H e a->K4 W c e a b f d->Q d a
abbrev FL(X:Cx)(W:Wd)(F:aP)(o:Oe):TO:=λσ H Q=>∃b G env,SR W b env σ G H/\Out X W (Gq F o env) σ G H λi=>∀c a,aC W G H c a->Q i a
def one{e:E}{f:PV->Res β}{k:β->Prop}(sr:SR W H0 env σ G H)(o:Out X W ((aB F e env).bind f) σ G H k)
 (h:∀p v G1 H1,aC W G H G1 H1->Got W H0 G1 H1 e p v->SR W H0 env σ G1 H1->Out X W (f p) σ G1 H1 k->Q v H1):tE X W F e σ H Q:=
 {H0,G,env,sr,o.bind.imp λp a v G1 H1 g t=>h p v G1 H1 g t (sr.grow g) (a.grow g)}
def IL{e:E}{f:Bool->Res β}{k:β->Prop}{Q:Bool->Hp->Prop}(sr:SR W H0 env σ G H)(o:Out X W ((aB F e env).bind λp=>wy p f) σ G H k)
 (h:∀b G1 H1,aC W G H G1 H1->SR W H0 env σ G1 H1->Out X W (f b) σ G1 H1 k->Q b H1):tT X W F e σ H Q:=by
 refine{H0,G,env,sr,o.bind.imp λp a=>?_}
 cases p with
 |bl b=>exact{b,rfl,λG1 H1 g=>h b G1 H1 g (sr.grow g) (Out.grow a g)}|aN=>exact ed a|int _=>exact ed a|str _=>exact ed a|tup _=>exact ed a|lst _=>exact ed a|exc _=>exact ed a|obj _=>exact ed a|cA _ _=>exact ed a
def args{a:Es}{f:List PV->Res β}{k:β->Prop}{Q:List V->Hp->Prop}(sr:SR W H0 env σ G H)(o:Out X W ((br F a env).bind f) σ G H k)
 (h:∀ps vs G1 H1,aC W G H G1 H1->K4 W H0 G1 H1 a ps vs->SR W H0 env σ G1 H1->Out X W (f ps) σ G1 H1 k->Q vs H1):tA X W F a σ H Q:=
 {H0,G,env,sr,o.bind.imp λp b v G1 H1 g t=>h p v G1 H1 g t (sr.grow g) (b.grow g)}
def Got.grow{G2 a:Hp}{e:E}(h:Got W H0 G H e p v)(g:aC W G H G2 a):Got W H0 G2 a e p v:={h.top.grow g,λz=>Rep.same g.g p (h.rep z)}
def BZ(W:Wd)(G:Hp):Option (Str×List Nat)->List PV->List V->Prop
 |none,as,vs=>ah W G as vs|some _,_,_=>False
abbrev FC(W:Wd)(F:aP)(f:Str)(n:Nat)(q:Option (Str×List Nat)):Sp:=λb H Q E=>b.length=n/\∃G as,az G H/\bz W G H/\BZ W G q as b/\(match F f as with
 |.ok p=>∀v d a,aC W G H d a->Rep W d p v->Q v a|.exc c=>∀e g a,XE W c G H e g a->E e g a|.bad=>False)
structure B1(X:Cx)(W:Wd)(F:aP)(k:Nat)(f:Str):Prop where
 ex:∃fa fd ps,fF X.prog X.w X.K X.mg X.base (dF X.prog X.w) k fa fd ps (FC W F f ps.length gd)/\X.mg f=fP (.ref fa)/\PySem.W.keepIn X.K (.ref fa)=gf/\Binds X.K fd ps []/\∀as,F f as≠.bad->as.length=ps.length
structure PJ(X:Cx)(W:Wd)(F:aP)(k:Nat)(q:Hs):Prop where
 ex:∃fa fd ps,fF X.prog X.w X.K X.mg X.base (dF X.prog X.w) k fa fd ps (FC W F q.f ps.length (fP (q.g,q.idx)))/\X.mg q.h=fP (.ref fa)/\PySem.W.keepIn X.K (.ref fa)=gf/\Binds X.K fd ps []/\ps.length=q.np
structure eW(Γ:Pg)(F:aP)(W:Wd)(N:List Str)(sc:ia)(k:Nat)(X:Cx):Prop where
 hN:X.N=N
 ee:X.env.scope=sc
 calm:Γ.qt=gh->X.calm=gf
 nd:N.Nodup
 K:W.K=X.K
 mg:W.mg=X.mg
 gs:∀q∈Γ.gs,∃u v,X.mg q.1=fP u/\RelV v u/\∀G,Rep W G q.2 v
 bs:∀g∈Γ.bs,X.mg g=gd
 room:dB (k+1) X.A
 fns:∀f,Γ.fs.contains f=gf->B1 X W F k f
 NA:Γ.cs.contains (zu 2)=gh
 cls:∀c∈Γ.cs,∃C,X.mg c=fP (.ref C)
 xc:∀d∈W.xs,∀D,X.mg d=fP (.ref D)->nA X.K D/\(∀c∈Γ.cs,∀C,X.mg c=fP (.ref C)->PySem.W.kitOne X.K (.ref D) (.ref C)=fP (c==d||c==(zu 8)))/\PySem.W.kitOne X.K (.ref D) (.type (zu 2))=fP gf
 AN:∀q∈Γ.hs,PJ X W F k q
 Wq:∀f,Γ.qs.contains f=gf->2<=k/\B1 X W F 2 f
 any:∀g as,F g as≠.bad->Γ.fs.contains g=gf\/fB g=gf
 fld:∀f q,cW f≠dW->F (cW f) [q]≠.bad->∃n o p,q=.obj n/\W.ob[n]?=fP o/\bF o.c=gh/\o.fs.lookup f=fP p/\F (cW f) [q]=.ok p/\v8 X.K o.C/\cU X.K o.C f
 con:∀q,F dW [q]≠.bad->∃n o,q=.obj n/\W.ob[n]?=fP o/\bF o.c=gf/\F dW [q]=.ok (Ao o)
 tb:Γ.hl=gf->∃c P,X.env.code=.ref c/\PySem.W.CodeHd X.base c P/\(P,X.env.qual++(zu 22))∈W.ts/\∀q',(P,q')∈W.ts->q'=X.env.qual++(zu 22)
 bm:Γ.hl=gf->B0 X.mg X.base
 fl:Γ.hl=gf->∀x,X.fn x=gf
variable{Γ:Pg}{sc:ia}{k:Nat}
def x8(C:zv4 X)(h:kf sc x=gf):PZ X.env.scope x:=by
 rw [C.ee];unfold kf gz at h;simp! [er,zzy] at h;rcases h with(h|h)|h
 .exact .inl h
 .exact .inr (.inl h)
 .exact .inr (.inr h)
def dz(C:zv4 X){x:Str}(h:gu sc x=gf):Gl X x:=by show X.env.scope.names.lookup x=_;rw [C.ee];exact zzy.mp h
def eM(h:okN x=gf):(x==(zu 33:Str))=gh/\(x==("__classdict__":Str))=gh/\x≠(zu 51):=by unfold okN at h;simp! [zza,Bool.not_eq_true',beq_eq_false_iff_ne] at h;exact{beq_eq_false_iff_ne.mpr h.1.1,beq_eq_false_iff_ne.mpr h.1.2,h.2}
noncomputable abbrev GE(X:Cx)(W:Wd)(F:aP)(e:E)(p:hD):Prop:=PE X p (tE X W F e)
noncomputable abbrev GT(X:Cx)(W:Wd)(F:aP)(e:E)(p:hD):Prop:=PT X p (tT X W F e)
noncomputable abbrev GW(X:Cx)(W:Wd)(F:aP)(e:E)(p:hD):Prop:=PW X p (tT X W F e)
def _root_.L2.PE.imp{p:hD}{t t':TE}(h:PE X p t)(i:∀σ H Q,t' σ H Q->t σ H Q):PE X p t':=λa s σ H Q I b=>h a s σ H Q I (i σ H Q b)
def _root_.L2.PT.imp{p:hD}{t t':TT}(h:PT X p t)(i:∀σ H Q,t' σ H Q->t σ H Q):PT X p t':=λa s σ H Q I b=>h a s σ H Q I (i σ H Q b)
def _root_.L2.PW.imp{p:hD}{t t':TT}(h:PW X p t)(i:∀σ H Q,t' σ H Q->t σ H Q):PW X p t':=λw a s σ H Q I b=>h w a s σ H Q I (i σ H Q b)
def _root_.L2.PA.imp{p:List hD}{t t':TA}(h:PA X p t)(i:∀σ H Q,t' σ H Q->t σ H Q):PA X p t':=λa b s σ H Q I c=>h a b s σ H Q I (i σ H Q c)
def KR{e:E}(σ:St)(H:Hp)(Q:Bool->Hp->Prop)(h:tT X W F e σ H Q):tB (tE X W F e) σ H Q:=by let(a,G,env,sr,o):=h;refine{a,G,env,sr,o.imp λp c v d f g t=>?_};let(b,rfl,q):=c;exact{b,t.top.bl,q d f g}
def vY{e:E}(σ:St)(H:Hp)(Q:Bool->Hp->Prop)(h:tT X W F e σ H Q):FN (tE X W F e) σ H Q:=KR σ H Q h
def Hw{i:Nat}(hn:X.N[i]?=fP x)(a:PZ X.env.scope x)(h:okN x=gf):GE X W F (.var i) (.Name x pos):=by
 let(b,c,h3):=eM h;refine(l6 (i:=i) hn a b c).imp λσ H Q d=>?_;let(g,G,env,sr,o):=d;replace o:Out X W (iL env[i]?) σ G H _:=o
 cases e:env[i]? with
 |none=>rw [e] at o;exact o.elim|some f=>
  cases f with
  |no=>rw [e] at o;exact o.elim|own p=>rw [e] at o;exact o.elim|val p=>rw [e] at o;let(o2,hs,v,rfl,r):=sr.slot i _ e;exact{v,hs,o v G H (.refl sr.sub) (.of r)}
def Dp(C:zv4 X){i:Nat}(h:(N[i]?==fP x&&kf sc x&&okN x)=gf):GE X W F (.var i) (.Name x pos):=by simp! [zza,zzy] at h;exact Hw (by rw [C.hN];exact h.1.1) (x8 C h.1.2) h.2
def Mj(C:zv4 X){i:Nat}(h:(N[i]?==fP x&&kf sc x&&okN x)=gf):GE X W F (.JH i) (.Name x pos):=by
 simp! [zza,zzy] at h;let(a,b,h3):=eM h.2;refine(l6 (i:=i) (by rw [C.hN];exact h.1.1) (x8 C h.1.2) a b).imp λσ H Q c=>?_;let(f,G,env,sr,o):=c;replace o:Out X W (zF env[i]?) σ G H _:=o
 cases e:env[i]? with
 |none=>rw [e] at o;exact o.elim|some d=>
  cases d with
  |no=>rw [e] at o;exact o.elim|own p=>rw [e] at o;let(o2,hs,v,rfl,r):=sr.slot i _ e;exact{v,hs,o v G H (.refl sr.sub) {.inr r.any,nofun}}|val p=>rw [e] at o;let(o2,hs,v,rfl,r):=sr.slot i _ e;exact{v,hs,o v G H (.refl sr.sub) (.of r)}
def iA(h:PE X e (tC v))(r:∀G,Rep W G p v):GE X W F (.cst p) e:=by refine L2.PE.imp h λσ H Q a=>?_;let(b,G,env,sr,o):=a;exact o v G H (.refl sr.sub) (.of (r G))
def Hu(C:zv4 X){g:Str}(h:(g==x&&gu sc x&&okN x&&Γ.gs.any λq=>q.1==g&&D8 q.2 p)=gf):GE X W F (.glob g p) (.Name x pos):=by simp! [zza,zzy,d8] at h;let(((rfl,b),h3),q,a,c,d):=h;let(u,v,hm,e,f):=C.gs q a;rw [c] at hm;cases D9 d;refine(zq (dz C b) hm e (eM h3).1).imp λσ H Q a=>?_;let(i,G,env,sr,o):=a;exact o v G H (.refl sr.sub) (.of (f G))
def Res.aS{α:Type}{o:Option α}(c:Str):Res.of o≠.exc c:=by cases o<;>exact nofun
def qQ{α β:Type}{o:Option α}{f:α->Res β}(h:∀a,f a≠.exc c):(Res.of o).bind f≠.exc c:=by
 cases o with
 |none=>exact nofun|some a=>exact h a
def p0{o:KY}(c:Str):binOp o p q≠.exc c:=by
 unfold binOp
 repeat' split
 all_goals exact nofun
local macro_rules|`(tactic|ac_rfl)=>`(tactic|repeat' first|split|refine qQ fun _=>?_|exact Res.aS _|exact nofun)
def IB(c:Str):gN p q≠.exc c:=by
 unfold gN
 ac_rfl
def II(c:Str):hX p q≠.exc c:=by
 unfold hX
 ac_rfl
def IH(c:Str):vB p q≠.exc c:=by
 unfold vB
 ac_rfl
def IG(c:Str):vA p q≠.exc c:=by
 unfold vA
 ac_rfl
def ID(c:Str):xt p q≠.exc c:=by
 unfold xt
 ac_rfl
def IC(c:Str):xr p q≠.exc c:=by
 unfold xr
 ac_rfl
def IF(c:Str):EF p q≠.exc c:=by
 unfold EF
 ac_rfl
def IE(c:Str):pZ p q≠.exc c:=by
 unfold pZ
 ac_rfl
def EB(c:Str):oM p q≠.exc c:=by
 unfold oM
 ac_rfl
def EA(c:Str):qU p q≠.exc c:=by
 unfold qU
 ac_rfl
def dg{o:tX}(c:Str):cN o p q≠.exc c:=match o with
 |.eq=>IB c|.ne=>II c|.lt=>IH c|.le=>IG c|.gt=>ID c|.ge=>IC c|.is=>IF c|.Gv=>IE c|.Ep=>EB c|.Iu=>EA c
def two{a:PV->PV->Res PV}{b d:E}{e:E}(hn:∀p q c,a p q≠.exc c)(he:∀env,aB F e env=(aB F b env).bind λx=>(aB F d env).bind λy=>a x y)
 (h:tE X W F e σ H Q):PD (ud W a) (tE X W F b) (tE X W F d) σ H Q:=by
 let(B,G,env,sr,o):=h;rw [he] at o;refine one sr o λp v G1 H1 g1 f g o1=>one g o1 λq u G2 C g2 t2 i o2=>?_;let(r,j,m):=o2.val (hn p q);exact{Bb,G2,p,q,r,i.sub,f.top.grow g2,t2.top,j,λw s t z A=>m w s t ((g1.trans g2).trans z) (.of A)}
def Hr(hK:W.K=X.K){o:KY}{a b:E}(f:GE X W F a d)(g:GE X W F b e):GE X W F (.bin o a b) (.BinOp d (TK o) e pos):=
 (RZ (NG hK o) f g).imp λσ H Q h=>two (λp q c=>p0 c) (λenv=>by rw [aB]) h
def L6(C:zv4 X){o:KY}{a b:E}{c:hD}(e:GE X W F a c)(f:GE X W F b d):GE X W F (.bin o a b) (.BinOp c (TK o) d pos):=Hr C.K e f
def L8(C:zv4 X){o:tX}{a b:E}(f:GE X W F a e)(g:GE X W F b d)(hm:behindInMarks (mS o) d=gh):GE X W F (.cmp o a b) (.Compare e [mS o] [d] pos):=
 (zm (gO C.K C.room.units o) f g hm).imp λσ H Q h=>two (λp q c=>dg c) (λenv=>by rw [aB]) h
theorem My(C:zv4 X){o:tX}{a b:E}(f:GE X W F a e)(g:GE X W F b d)(hm:behindInMarks (mS o) d=gh):GT X W F (.cmp o a b) (.Compare e [mS o] [d] pos):=
 (zv (gO C.K C.room.units o) f g hm).imp λσ H Q h=>by have i:=vY σ H Q h;exact two (λp q c=>dg c) (λenv=>by rw [aB]) i
def J8{c1 f:tX}{a b c:E}(σ:St)(H:Hp)(Q:VK)(h:tE X W F (.ch c1 f a b c) σ H Q):xU (ud W (cN c1)) (ud W (cN f)) (tE X W F a) (tE X W F b) (tE X W F c) σ H Q:=by
 let(Z,G,env,sr,o):=h;rw [aB] at o;refine one sr o λp v G1 H1 g1 D I o1=>one I o1 λq u G2 s g2 t2 A o2=>?_;let(r,K,d):=o2.bind.val (dg);refine{Bb,G2,p,q,r,A.sub,D.top.grow g2,t2.top,K,λw L M e B=>?_}
 cases r with
 |bl t=>
  simp! [Rep] at B;subst B;refine{t,rfl,?_};cases t with
  |false=>rw [if_neg zzf];have g:Out X W (Res.ok (PV.bl gh)) σ G2 s _:=d;exact g _ L M ((g1.trans g2).trans e) (.of .b)|true=>rw [if_pos rfl];have g:Out X W ((aB F c env).bind λz=>cN f q z) σ G2 s _:=d;refine one (A.grow e) (g.grow e) λz y O H4 C P R S=>?_;let(T,i,j):=S.val (dg);exact{Bb,O,q,z,T,R.sub,t2.top.grow (e.trans C),P.top,i,λw U V Y m=>j w U V ((((g1.trans g2).trans e).trans C).trans Y) (.of m)}
 |aN=>exact ed d|int _=>exact ed d|str _=>exact ed d|tup _=>exact ed d|lst _=>exact ed d|exc _=>exact ed d|obj _=>exact ed d|cA _ _=>exact ed d
def QB(C:zv4 X){o1 o2:tX}{a b c:E}{f:hD}(g:GE X W F a f)(h:GE X W F b d)(i:GE X W F c e)(hm:lastMarks [mS o1,mS o2] [d,e]=gh):GE X W F (.ch o1 o2 a b c) (.Compare f [mS o1,mS o2] [d,e] pos):=
 (EK (gO C.K C.room.units o1) (gO C.K C.room.units o2) g h i hm).imp J8
def QE(C:zv4 X){o1 o2:tX}{a b c:E}{f:hD}(g:GE X W F a f)(i:GE X W F b d)(j:GE X W F c e)(hm:lastMarks [mS o1,mS o2] [d,e]=gh):GT X W F (.ch o1 o2 a b c) (.Compare f [mS o1,mS o2] [d,e] pos):=
 (Fd (gO C.K C.room.units o1) (gO C.K C.room.units o2) g i j hm).imp λσ H Q h=>J8 σ H _ (vY σ H Q h)
theorem Dl{a:E}{b:hD}(c:GE X W F a b):GE X W F (.neg a) (.UnaryOp .USub b pos):=
 (Sb (JO (W:=W)) c).imp λσ H Q h=>by
  let(q,G,env,sr,o):=h;rw [aB] at o;refine one sr o λp v G1 H1 g1 d e o1=>?_
  cases p with
  |int i=>exact{Bb,G1,i,e.sub,d.top,λw f g j m=>o1 w f g (g1.trans j) (.of m)}|bl _=>exact ed o1|aN=>exact ed o1|str _=>exact ed o1|tup _=>exact ed o1|lst _=>exact ed o1|exc _=>exact ed o1|obj _=>exact ed o1|cA _ _=>exact ed o1
theorem Mg{a:E}{c:hD}(d:GE X W F a c):GE X W F (.not a) (.UnaryOp .Not c pos):=
 (N1 d).imp λσ H Q h=>by
  let(f,G,env,sr,o):=h;rw [aB] at o;refine one sr o λp v G1 H1 g1 e g o1=>?_
  cases p with
  |bl b=>exact{b,e.top.bl,o1 _ G1 H1 g1 (.of .b)}|int _=>exact ed o1|aN=>exact ed o1|str _=>exact ed o1|tup _=>exact ed o1|lst _=>exact ed o1|exc _=>exact ed o1|obj _=>exact ed o1|cA _ _=>exact ed o1
theorem Mz{a:E}{c:hD}(d:GT X W F a c):GT X W F (.not a) (.UnaryOp .Not c pos):=
 (Oa d).imp λσ H Q h=>by let(f,G,env,sr,o):=h;rw [aB] at o;refine IL sr o λb G1 H1 g1 g o1=>?_;let(i,e,q):=o1;cases e;exact q G1 H1 g1
theorem Dj{a b:E}{r:List hD}(he:eR b=gf)(f:GE X W F a d)(g:GE X W F b (.BoolOp .And (e::r) pos)):GE X W F (.and a b) (.BoolOp .And (d::e::r) pos):=
 (NW f g).imp λσ H Q h=>by
  let(i,G,env,sr,o):=h;rw [aB] at o;refine one sr o λp v G1 H1 g1 j m o1=>?_
  cases p with
  |bl t=>
   refine{t,j.top.bl,?_};cases t with
   |true=>rw [if_pos rfl];have c:Out X W (aB F b env) σ G1 H1 _:=o1;exact{i,G1,env,m,c.imp λp q v s u w y=>q v s u (g1.trans w) (.of (y.rep he))}|false=>rw [if_neg zzf];have c:Out X W (Res.ok (PV.bl gh)) σ G1 H1 _:=o1;exact c _ G1 H1 g1 (.of .b)
  |int _=>exact ed o1|aN=>exact ed o1|str _=>exact ed o1|tup _=>exact ed o1|lst _=>exact ed o1|exc _=>exact ed o1|obj _=>exact ed o1|cA _ _=>exact ed o1
theorem Kh{a b:E}{r:List hD}(he:eR b=gf)(f:GE X W F a d)(g:GE X W F b (.BoolOp .Or (e::r) pos)):GE X W F (.or a b) (.BoolOp .Or (d::e::r) pos):=
 (Sa f g).imp λσ H Q h=>by
  let(i,G,env,sr,o):=h;rw [aB] at o;refine one sr o λp v G1 H1 g1 j m o1=>?_
  cases p with
  |bl t=>
   refine{t,j.top.bl,?_};cases t with
   |false=>rw [if_neg zzf];have c:Out X W (aB F b env) σ G1 H1 _:=o1;exact{i,G1,env,m,c.imp λp q v s u w y=>q v s u (g1.trans w) (.of (y.rep he))}|true=>rw [if_pos rfl];have c:Out X W (Res.ok (PV.bl gf)) σ G1 H1 _:=o1;exact c _ G1 H1 g1 (.of .b)
  |int _=>exact ed o1|aN=>exact ed o1|str _=>exact ed o1|tup _=>exact ed o1|lst _=>exact ed o1|exc _=>exact ed o1|obj _=>exact ed o1|cA _ _=>exact ed o1
theorem Dy{a b:E}{f:hD}{r:List hD}(g:GT X W F a d)(i:GW X W F b (.BoolOp .And (f::r) pos)):GW X W F (.and a b) (.BoolOp .And (d::f::r) pos):=
 (pw_and g i).imp λσ H Q h=>by
  let(j,G,env,sr,o):=h;rw [aB] at o;refine IL sr o λt G1 H1 g1 m o1=>?_
  cases t with
  |true=>rw [if_pos rfl];have s:Out X W (aB F b env) σ G1 H1 _:=o1;exact{j,G1,env,m,s.imp λp u=>by let(c,rfl,q):=u;exact{c,rfl,λw y z=>q w y (g1.trans z)}}|false=>rw [if_neg zzf];let(c,e,q):=(show Out X W (Res.ok (PV.bl gh)) σ G1 H1 _ from o1);cases e;exact q G1 H1 g1
theorem Kj{a b:E}{f:hD}{r:List hD}(g:GT X W F a d)(i:GW X W F b (.BoolOp .Or (f::r) pos)):GW X W F (.or a b) (.BoolOp .Or (d::f::r) pos):=
 (pw_or g i).imp λσ H Q h=>by
  let(j,G,env,sr,o):=h;rw [aB] at o;refine IL sr o λt G1 H1 g1 m o1=>?_
  cases t with
  |false=>rw [if_neg zzf];have s:Out X W (aB F b env) σ G1 H1 _:=o1;exact{j,G1,env,m,s.imp λp u=>by let(c,rfl,q):=u;exact{c,rfl,λw y z=>q w y (g1.trans z)}}|true=>rw [if_pos rfl];let(c,e,q):=(show Out X W (Res.ok (PV.bl gf)) σ G1 H1 _ from o1);cases e;exact q G1 H1 g1
theorem Me{c a b:E}{m q r:hD}(w:eR a=gf)(y:eR b=gf)(z:GT X W F c m)(A:GE X W F a q)(B:GE X W F b r):GE X W F (.ite c a b) (.IfExp m q r pos):=
 (vE z A B).imp λσ H Q h=>by
  let(s,G,env,sr,o):=h;rw [aB] at o;refine IL sr o λt G1 H1 g1 u o1=>?_
  cases t with
  |true=>rw [if_pos rfl];have d:Out X W (aB F a env) σ G1 H1 _:=o1;exact{s,G1,env,u,d.imp λp e v f g i j=>e v f g (g1.trans i) (.of (j.rep w))}|false=>rw [if_neg zzf];have d:Out X W (aB F b env) σ G1 H1 _:=o1;exact{s,G1,env,u,d.imp λp e v f g i j=>e v f g (g1.trans i) (.of (j.rep y))}
abbrev tF(X:Cx)(W:Wd)(F:aP)(e:E):TE:=λσ H Q=>∃f G env,SR W f env σ G H/\Out X W (aB F e env) σ G H λp=>∃xs,p=.lst xs/\∀a c d b,aC W G H d b->b a=gd->ah W d xs c->Q (.ref a) (upd b a (.lst c))
noncomputable abbrev GF(X:Cx)(W:Wd)(F:aP)(e:E)(p:hD):Prop:=PE X p (tF X W F e)
theorem GF.ge{e:E}{p:hD}(h:GF X W F e p)(hl:∀env q,aB F e env=.ok q->∃xs,q=.lst xs):GE X W F e p:=
 L2.PE.imp h λσ H Q d=>by
  let(f,G,env,sr,o):=d
  refine{f,G,env,sr,?_};cases r:aB F e env with
  |bad=>rw [r] at o;exact o|exc c=>rw [r] at o;exact o|ok q=>rw [r] at o;let(xs,rfl):=hl env q r;exact{xs,rfl,λa i j m g b l=>o _ _ _ (g.trans (.new g.sub b)) (.of (.l (.inl (.inl ak)) (ah.same (bt (g.sub.free b)) xs l)))}
set_option tactic.hygienic true in
def notStar{e:E}{p:hD}(h:aK Γ N sc e p=gf):∀env ps,starEach (p::ps) env=(gh,eval p env)::starEach ps env:=by
 intro env ps;cases p<;>first|rfl|(cases e<;>first|(exact aO h)|(rename_i q;cases q<;>exact aO h))
theorem cQ:∀{a:Es} {ps:List hD},dD Γ N sc a ps=gf->∀env pos,(backTo pos (starEach ps env)).any (·.1)=gh
 |.nil,[],_,_,_=>rfl|.cons e a,p::ps,h,env,pos=>by replace h:=aj h;rw [notStar h.1];show(gh||(backTo pos (starEach ps env)).any (·.1))=gh;rw [cQ h.2];rfl
 |.nil,_::_,h,_,_=>aO h|.cons _ _,[],h,_,_=>aO h
noncomputable abbrev GA(X:Cx)(W:Wd)(F:aP)(a:Es)(ps:List hD):Prop:=PA X ps (tA X W F a)
theorem L5:GA X W F .nil []:=L2.PA.imp dE λσ H Q h=>by let(a,G,env,sr,o):=h;rw [br] at o;exact o [] G H (.refl sr.sub) {.nil,λZ=>.nil}
theorem Hq{e:E}{a:Es}{p:hD}{ps:List hD}(he:GE X W F e p)(hs:GA X W F a ps)(c:starEach (p::ps) X.env=(gh,eval p X.env)::starEach ps X.env):GA X W F (.cons e a) (p::ps):=
 L2.PA.imp (bZ he hs c) λσ H Q h=>by let(j,G,env,sr,o):=h;rw [br] at o;refine one sr o λq v G1 H1 g1 b d o1=>args d o1 λqs f G2 i g2 t2 m o2=>?_;refine o2 (v::f) G2 i (g1.trans g2) {.cons (b.top.grow g2) t2.top,λz=>?_};unfold g9 at z;rw [zza] at z;exact .cons (Rep.same g2.g q (b.rep z.1)) (t2.rep z.2)
theorem kL:∀{a:Es} {env:Sl} {ps:List PV},br F a env=.ok ps->ps.length=fN a
 |.nil,env,ps,h=>by rw [br] at h;cases h;rfl
 |.cons e a,env,ps,h=>by rw [br] at h;let(p,_,h):=Res.aM h;let(qs,b,h):=Res.aM h;cases h;rw [cC,kL b];rfl
theorem Ml{a:Es}{ps:List hD}{x1:Nat}(e:g9 a=gf)(hl:fN a<1000)(h:GA X W F a ps):GE X W F (.tup a) (.Tuple ps x1 pos):=
 L2.PE.imp (EW h) λσ H Q f=>by
  let(g,G,env,sr,o):=f;rw [aB] at o;have i:=o
  refine{g,G,env,sr,?_};cases r:br F a env with
  |bad=>rw [r] at o;exact o|exc c=>rw [r] at o;exact o|ok qs=>rw [r] at o;have b:=kL r;intro j G1 H1 g1 t;have l:=t.rep e;refine{by rw [l.length,b];exact Nat.le_of_lt (Nat.lt_trans hl (by decide)),λp d=>?_};exact o _ _ _ (g1.trans (.new g1.sub d)) (.of (.t (.inl ak) (ah.same (bt (g1.sub.free d)) qs l)))
theorem Dr{a:Es}{ps:List hD}(d:g9 a=gf)(hl:fN a<1000)(h:GA X W F a ps):GF X W F (.lst a) (.List ps pos):=
 L2.PE.imp (ER h) λσ H Q f=>by
  let(g,G,env,sr,o):=f
  rw [aB] at o;refine{g,G,env,sr,?_};cases r:br F a env with
  |bad=>rw [r] at o;exact o|exc c=>rw [r] at o;exact o|ok qs=>rw [r] at o;have b:=kL r;let(xs,e,o):=o;cases e;intro i G1 H1 g1 t;have l:=t.rep d;exact{by rw [l.length,b];exact Nat.le_of_lt (Nat.lt_trans hl (by decide)),λp j=>o p i G1 H1 g1 j l}
theorem lst_is{a:Es}:∀env q,aB F (.lst a) env=.ok q->∃xs,q=.lst xs:=λenv q h=>by rw [aB] at h;let(b,_,h):=Res.aM h;cases h;exact{_,rfl}
def qR(c:Str):ay p q≠.exc c:=by
 unfold ay
 ac_rfl
def Mi(C:zv4 X){a b:E}(f:GE X W F a e)(g:GE X W F b d)(hs:rC d):GE X W F (.sub a b) (.Subscript e d pos):=
 (Kz (Rq C.K C.room.units) f g hs).imp λσ H Q h=>two (λp q c=>qR c) (λenv=>by rw [aB]) h
set_option tactic.hygienic true in
def vG{e:E}{p:hD}(h:aK Γ N sc e p=gf):rC p:=by
 intro o i;cases p<;>first|rfl|(cases e<;>first|(exact aO h)|(rename_i q;cases q<;>exact aO h))
set_option tactic.hygienic true in
def sE{e:E}{p:hD}(h:aK Γ N sc e p=gf)(a:CmpOp):behindInMarks a p=gh:=by
 cases p<;>first|rfl|(cases e<;>first|(exact aO h)|(rename_i q;cases q<;>exact aO h))
theorem Hx:PO X gd (FL X W F .no):=λa s σ H Q I h=>Jd a s σ H Q I (by let(b,G,env,sr,o):=h;rw [Gq] at o;exact o G H (.refl sr.sub))
theorem Hy{e:E}{p:hD}(h:GE X W F e p):PO X (fP p) (FL X W F (.some e)):=λa s σ H Q I b=>Je h a s σ H Q I (by
 let(d,G,env,sr,o):=b;rw [Gq] at o;refine one sr o λq v G1 H1 g1 c f o1=>?_
 cases q with
 |int i=>exact{i,c.top.int,o1 G1 H1 g1}|bl _=>exact ed o1|aN=>exact ed o1|str _=>exact ed o1|tup _=>exact ed o1|lst _=>exact ed o1|exc _=>exact ed o1|obj _=>exact ed o1|cA _ _=>exact ed o1)
def vv{a b:Option Int}(c:Str):gQ p a b≠.exc c:=by
 unfold gQ
 ac_rfl
theorem Dm(C:zv4 X){a:E}{e f:Oe}{g:hD}{i j:Option hD}{q:Pos}(s:GE X W F a g)(hl:PO X i (FL X W F e))(t:PO X j (FL X W F f)):GE X W F (.slice a e f) (.Subscript g (.Slice i j gd q) pos):=
 (EU (WA C.K) s hl t).imp λσ H Q h=>by let(m,G,env,sr,o):=h;rw [aB] at o;refine one sr o λp v G1 H1 g1 u d o1=>?_;refine{m,G1,env,d,o1.bind.imp λl y G2 P g2=>?_};refine{m,G2,env,d.grow g2,(y.grow g2).bind.imp λR z A S b=>?_};let(r,B,D):=(z.grow b).val (λc=>vv c);exact{Bb,A,p,r,((d.grow g2).grow b).sub,u.top.grow (g2.trans b),B,λw I L M O=>D w I L (((g1.trans g2).trans b).trans M) (.of O)}
def zD{CX:zV}{f:hB}{fd:FuncData}{ps:List Str}{sp:Sp}{E:XK}{s:gB}(b:fF X.prog X.w X.K X.mg X.base CX k f fd ps sp)(d:dB k X.A)(g:Binds X.K fd ps [])
 (i:∀e s',CX X.stack H s E e s'->X.xe e s') (I:zv2 s) (r:Vals vs us) (h:sp vs H Q E):zx7 X (call (.ref f) us) (EP X aa σ Q) X.xe s:=by
 have hl:us.length=ps.length:=by rw [<-r.length];exact b.len _ _ _ _ h
 have c:=g s us I.jY (by rw [e6];exact hl);rw [e6] at c;refine wpAny_call (codeAny_mono (b.run X.A X.stack s H {us,[]} us vs Q E d I.uP c r h) λr s' a=>?_)
 cases r with
 |error e=>exact i e s' a|ok fl=>
  cases fl with
  |ret u=>exact I.after a|next=>exact ed a|brk=>exact ed a|cont=>exact ed a
def GK.imp{P:hG}{s s':gB}{E c:XK}{e:gA}(h:dF P w outer H s E e s')(i:∀C a b,E C a b->c C a b):dF P w outer H s c e s':=by let(a,C,t,d,b,B,rfl,F):=h;exact{a,C,t,d,b,B,rfl,{F.os,F.bare,F.aQ,F.C9,F.tn,F.tup,F.fy,F.dm,F.un,i _ _ _ F.ends}}
def kD(C:dB k X.A){i:hB}{fd:FuncData}{pn:List Str}{q:Option (Str×List Nat)}{s:gB}{as:List PV}
 (D:fF X.prog X.w X.K X.mg X.base (dF X.prog X.w) k i fd pn (FC W F f pn.length q)) (L:Binds X.K fd pn []) (d:F f as≠.bad->vs.length=pn.length)
 (I:zv2 s) (j:az G H) (tb:bz W G H) (l:BZ W G q as vs) (r:Vals vs us) (o:Out X W (F f as) σ G H λp=>eE W G H p Q):zx7 X (call (.ref i) us) (EP X aa σ Q) X.xe s:=by
 have h:F f as≠.bad:=λz=>by rw [z] at o;exact o
 refine zD (E:=λm u b=>∃c,F f as=.exc c/\XE W c G H m u b) D C L (λe M x=>?_) I r {d h,G,as,j,tb,l,?_}
 .cases z:F f as with
  |ok q=>let(a,S,t,vs,b,B,rfl,Fl):=x;let(c,g,_):=Fl.ends;rw [z] at g;cases g
  |exc c=>rw [z] at o;refine o aa G H s e M I (.refl j) (GK.imp x λT a b y=>?_);let(U,g,y):=y;rw [z] at g;cases g;exact y
  |bad=>exact absurd z h
 .cases z:F f as with
  |ok q=>rw [z] at o;exact λv O b P R=>o v O b P R|exc c=>exact λm u b x=>⟨c,rfl,x⟩|bad=>exact absurd z h
def eW.rm(C:zv4 X):dB k X.A:=C.room.mono (Nat.le_succ k)
def Ht(C:zv4 X){e:E}{b:Es}{p:hD}{ps:List hD}(i:Γ.fs.contains f=gf)(j:gu sc f=gf)(m:okN f=gf)(u:g9 (.cons e b)=gf)(w:GA X W F (.cons e b) (p::ps))
 (y:starEach (p::ps) X.env=(gh,eval p X.env)::starEach ps X.env) (hpl:(backTo pos (starEach ps X.env)).any (·.1)=gh):GE X W F (.call f (.cons e b)) (.Call (.Name f np) (p::ps) [] pos):=by
 intro A s σ H Q I h;let(S,G,env,sr,o):=h;rw [aB] at o;let(T,fd,pn,B,hm,hk,D,a):=(C.fns f i).ex;refine wpAny_Call_Name_kw (eh I (dz C j) hm ?_ (eM m).1);refine PySem.W.callWith_K (h₀:=X.base) I.ok.mod.Ii hk (bU (w pos A s σ H (λc H1=>∃G1 as,az G1 H1/\bz W G1 H1/\ah W G1 as c/\Out X W (F f as) σ G1 H1 λp=>eE W G1 H1 p Q) I ?_) λU V ⟨c,H1,d,r,q⟩=>{d.jY,?_}) y hpl
 .refine args sr o λas c G1 H1 g1 t g o1=>{G1,as,g.sub,g.tab,t.rep u,o1.imp λp K v L M O P=>K v L M (g1.trans O) (.of P)}
 .let(G1,as,R,tb,l,o1):=q;exact kD C.rm B D (λz=>by rw [l.length];exact a as z) d R tb l r o1
def Dk(C:zv4 X)(d:Γ.fs.contains f=gf)(e:gu sc f=gf)(g:okN f=gf):GE X W F (.call f .nil) (.Call (.Name f np) [] [] pos):=by intro y s σ H Q I h;let(i,G,env,sr,o):=h;rw [aB,br] at o;let(A,fd,pn,j,hm,hk,m,a):=(C.fns f d).ex;refine wpAny_Call_Name_kw (eh I (dz C e) hm ?_ (eM g).1);refine PySem.W.callWith_K0 I.jY hk ?_;have r:Out X W (F f []) σ G H λp=>∀v c b,aC W G H c b->Got W i c b (.call f .nil) p v->Q v b:=o;exact kD (us:=[]) (vs:=[]) (as:=[]) (q:=gd) C.rm j m (λz=>a [] z) I sr.sub sr.tab (show ah W G [] [] from .nil) .nil (r.imp λp t v c b u w=>t v c b u (.of w))
def Iz(c:Str):wB ps≠.exc c:=by
 unfold wB
 ac_rfl
def IA(c:Str):Cd ps≠.exc c:=by
 unfold Cd
 ac_rfl
def Bf(c:Str):nE ps≠.exc c:=by
 unfold nE
 ac_rfl
def Iy(c:Str):Cb ps≠.exc c:=by
 unfold Cb
 ac_rfl
def xn(c:Str):ko ps≠.exc c:=by
 unfold ko
 ac_rfl
def xo(c:Str):kS ps≠.exc c:=by
 unfold kS
 ac_rfl
def Bg(c:Str):oE ps≠.exc c:=by
 unfold oE
 ac_rfl
def Ez(c:Str):vg ps≠.exc c:=by
 unfold vg
 ac_rfl
def Bd{b:B}(c:Str):fq b ps≠.exc c:=match b with
 |.len=>Iz c|.str=>IA c|.tuple=>Bf c|.all=>Iy c|.sorted=>xn c
def Be{m:M}(c:Str):za m ps≠.exc c:=match m with
 |.jy=>xo c|.index=>Bg c|.join=>Ez c
def NX(C:zv4 X)(g:Γ.qt=gh)(b:B){a:List hD}{t:TA}(h:gu sc (bN b)=gf)(hm:Γ.bs.contains (bN b)=gf)(c:PA X (e::a) t)
 (he:starEach (e::a) X.env=(gh,eval e X.env)::starEach a X.env) (hpl:(backTo pos (starEach a X.env)).any (·.1)=gh):PE X (.Call (.Name (bN b) np) (e::a) [] pos) (TN (JS W (fq b)) t):=by
 have d:=C.bs _ (eg.mp hm);have f:=dz C h;cases b
 case len=>exact gD (Ag C.K) f d PySem.boot_len c (he:=he) (hpl:=hpl)
 case str=>exact i7 Ah f d (by decide+kernel) c (he:=he) (hpl:=hpl)
 case tuple=>exact i7 (uy C.K) f d (by decide+kernel) c (he:=he) (hpl:=hpl)
 case all=>exact gD (Ad (C.calm g) C.K) f d (by decide+kernel) c (he:=he) (hpl:=hpl)
 case sorted=>exact gD (rK C.K (C.calm g)) f d (by decide+kernel) c (he:=he) (hpl:=hpl)
def Li{a:List PV->Res PV}{b:Es}{e:E}(hn:∀ps c,a ps≠.exc c)(he:∀env,aB F e env=(br F b env).bind λps=>a ps)(h:tE X W F e σ H Q):TN (JS W a) (tA X W F b) σ H Q:=by let(q,G,env,sr,o):=h;rw [he] at o;refine args sr o λps s G1 H1 g1 t d o1=>?_;let(r,f,g):=o1.val (hn ps);exact{Bb,G1,ps,r,d.sub,t.top,f,λw i j m p=>g w i j (g1.trans m) (.of p)}
def L7(C:zv4 X)(d:Γ.qt=gh)(b:B){a:Es}{ps:List hD}(f:gu sc (bN b)=gf)(hm:Γ.bs.contains (bN b)=gf)(g:GA X W F a (e::ps))
 (he:starEach (e::ps) X.env=(gh,eval e X.env)::starEach ps X.env) (hpl:(backTo pos (starEach ps X.env)).any (·.1)=gh):GE X W F (.blt b a) (.Call (.Name (bN b) np) (e::ps) [] pos):=
 (NX C d b f hm g he hpl).imp λσ H Q h=>Li (λps c=>Bd c) (λenv=>by rw [aB]) h
def Eu{t:Ty}(c:Str):qe t p≠.exc c:=by cases p<;>exact nofun
def N3(C:zv4 X)(t:Ty)(a:gu sc (Str.ofString (xZ t))=gf)(hm:Γ.bs.contains (Str.ofString (xZ t))=gf):PE X (.Name (Str.ofString (xZ t)) pos) (tC (.ty (xZ t))):=by
 have b:=C.bs _ (eg.mp hm);have c:=dz C a;cases t
 all_goals exact zj c b (u:=.type _) (by decide+kernel) rfl (by decide+kernel) (by decide+kernel)
def QC(C:zv4 X){t:Ty}{a:E}{b:hD}{tp:Pos}(e:gu sc (zu 28)=gf)(f:Γ.bs.contains (zu 28)=gf)(g:gu sc (Str.ofString (xZ t))=gf)(hm:Γ.bs.contains (Str.ofString (xZ t))=gf)(i:GE X W F a b)
 (d:∀env ps,starEach (b::ps) env=(gh,eval b env)::starEach ps env):GE X W F (.ty t a) (.Call (.Name (zu 28) np) [b,.Name (Str.ofString (xZ t)) tp] [] pos):=by
 refine(gD (Cm C.K t) (dz C e) (C.bs _ (eg.mp f)) (by decide+kernel) (bZ i (bZ (N3 C t g hm) dE) (d _ _)) (he:=d _ _)).imp λσ H Q h=>?_;let(B,G,env,sr,o):=h;rw [aB] at o;refine one sr o λp v G1 H1 g1 j m o1=>?_;let(r,q,s):=o1.val (λc=>Eu c);exact{v,Bb,G1,p,r,rfl,m.sub,j.top,q,λw u y z A=>s w u y (g1.trans z) (.of A)}
def Md(C:zv4 X){a:E}{j:hD}{tp:Pos}(A:gu sc (zu 28)=gf)(B:Γ.bs.contains (zu 28)=gf)(I:gu sc c=gf)(aQ:okN c=gf)(hm:(Γ.cs.contains c||(c==(zu 2)&&Γ.bs.contains c))=gf)(m:GE X W F a j)
 (q:∀env ps,starEach (j::ps) env=(gh,eval j env)::starEach ps env) (P:Γ.cs.contains (zu 2)=gh):GE X W F (.yQ c a) (.Call (.Name (zu 28) np) [j,.Name c tp] [] pos):=by
 have f:∀{p:PV} {r G H:Hp} {v:V} {σ:St} {K:PV->Prop} {env:Sl},Top W r G H p v->az G H->Out X W (match p with|.exc d=>Res.ok (PV.bl (if c==(zu 2) then gf else(c==d||c==(zu 8))))|_=>.bad) σ G H K->∃a d D,p=.exc d/\v=.ref a/\d∈W.xs/\X.mg d=fP (.ref D)/\H a=fP (mH a D):=λ{p r G H v σ K env} t R o=>by
  cases p with
  |exc d=>
   rcases t with t|t
   .simp! [Rep] at t;let(a,D,rfl,g,hm,m):=t;exact{a,d,D,rfl,rfl,g,by rw [<-C.mg];exact hm,R _ _ m}
   .exact t.elim
  |int _=>exact ed o|bl _=>exact ed o|aN=>exact ed o|str _=>exact ed o|tup _=>exact ed o|lst _=>exact ed o|cA _ _=>exact ed o|obj _=>exact ed o
 by_cases s:(c==(zu 2:Str))=gf
 .have L:c=(zu 2):=zzy.mp s
  have S:Γ.bs.contains c=gf:=by
   rw [er,zza] at hm;rcases hm with h|h
   .rw [L,P] at h;cases h
   .exact h.2
  subst L;refine(gD Af (dz C A) (C.bs _ (eg.mp B)) (by decide+kernel) (bZ m (bZ (mU (dz C I) (C.bs _ (eg.mp S))) dE) (q _ _)) (he:=q _ _)).imp λσ H Q h=>?_;let(r,G,env,sr,o):=h;rw [aB] at o;refine one sr o λp v G1 H1 g1 u w o1=>?_;let(y,d,D,rfl,rfl,g,e,z):=f (env:=env) u.top w.sub o1;let(xc,_,hk):=C.xc d g D e;exact{y,D,zu 2,gf,rfl,z,xc,hk,o1 _ G1 H1 g1 (.of .b)}
 .have M:Γ.cs.contains c=gf:=by
   rw [er,zza] at hm;rcases hm with h|h
   .exact h
   .exact absurd h.1 s
  let(O,i):=C.cls c (eg.mp M);refine(gD Ae (dz C A) (C.bs _ (eg.mp B)) (by decide+kernel) (bZ m (bZ (EN (dz C I) i (eM aQ).1) dE) (q _ _)) (he:=q _ _)).imp λσ H Q h=>?_;let(r,G,env,sr,o):=h;rw [aB] at o;refine one sr o λp v G1 H1 g1 u w o1=>?_;let(y,d,D,rfl,rfl,g,e,z):=f (env:=env) u.top w.sub o1;let(xc,hk,_):=C.xc d g D e;have o2:Out X W (Res.ok (PV.bl (if c==(zu 2) then gf else(c==d||c==(zu 8))))) σ G1 H1 _:=o1;rw [if_neg s] at o2;exact{y,D,O,_,rfl,z,xc,hk c (eg.mp M) O i,o2 _ G1 H1 g1 (.of .b)}
abbrev mT:M->String
 |.join=>"str"|.jy=>"list"|.index=>"list"
def WV(C:zv4 X){m:M}(b:az G H)(h:yW m p=gf)(t:Top W H0 G H p v):WU X.K (mT m) v H:=by
 cases m<;>cases p<;>first|(exact aO h)|(cases t.str;rfl)|(let(a,d,rfl,c,_):=t.lst b;exact .inl ⟨rfl,_,ua C.K c⟩)
def Mf(C:zv4 X){m:M}{o:E}{e:Es}{p:hD}{ps:List hD}{a b:Pos}(f:GE X W F o po)(g:GA X W F e (p::ps))(i:attributeBase po (mN m) X.env (eval po X.env)=eval po X.env)
 (j:((backTo b (starEach (p::ps) X.env)).all (λx=>!x.1)&&(backToKw b (keywordEach [] X.env)).all (λx=>x.1.isSome)&&decide ((p::ps).length+([]:List Keyword).length+(if([]:List Keyword).isEmpty then 0 else 1)<30))=gf)
 (q:(a.endLine==b.line)=gf) (hs:starEach (p::ps) X.env=(gh,eval p X.env)::starEach ps X.env) (s:(backTo b (starEach ps X.env)).any (·.1)=gh):GE X W F (.fg m o e) (.Call (.Attribute po (mN m) a) (p::ps) [] b):=by
 have rd:∀σ H Q,tE X W F (.fg m o e) σ H Q->YL X.K (mT m) (S7 W (za m)) (tE X W F o) (tA X W F e) σ H Q:=λσ H Q h=>by
  let(O,G,env,sr,d):=h;rw [aB] at d;refine one sr d λp v G1 H1 g1 t u o1=>?_;by_cases hk:yW m p=gf
  .rw [if_pos hk] at o1;refine{WV C u.sub hk t.top,args u o1 λps P G2 R g2 t2 y o2=>?_};let(r,z,A):=o2.val (λc=>Be c);exact{Bb,G2,p::ps,r,y.sub,.cons (t.top.grow g2) t2.top,z,λw B D I L=>A w B D ((g1.trans g2).trans I) (.of L)}
  .rw [if_neg hk] at o1;exact o1.elim
 cases m
 case join=>exact(vD PySem.F.plainAttrs_str PySem.F.slot_str_join PySem.F.type_str_join (El C.K) f g i j q hs s).imp rd
 case jy=>exact(vD PySem.F.plainAttrs_list PySem.F.slot_list_count PySem.F.type_list_count (xm C.K C.room.units) f g i j q hs s).imp rd
 case index=>exact(vD PySem.F.plainAttrs_list PySem.F.slot_list_index PySem.F.type_list_index (A9 C.K C.room.units) f g i j q hs s).imp rd
def SR.set(i:Nat)(r:SR W H0 env σ G H)(h:Rep W G p v):SR W H0 (env.set i (.val p)) (σ.set i (fP v)) G H where
 len:=zx6 r.len
 sub:=r.sub
 tab:=r.tab
 jf:=r.jf
 base:=r.base
 slot:=λj s e=>by
  by_cases f:i=j
  .subst f;have d:i<env.length:=by
    have:=(cj.mp e).1;simpa using this
   rw [ei d] at e;cases e;exact{fP v,ei (by rw [<-r.len];exact d),v,rfl,h}
  .rw [c6 f] at e;let(o,w,y):=r.slot j s e;exact{o,by rw [c6 f];exact w,y}
 apart:=λa b q A B g m t u=>by
  have ne:∀{c:Nat} {q:PV},(env.set i (.val p))[c]?=fP (.own q)->i≠c:=λ{c q} e z=>by
   subst z;have d:i<env.length:=by have:=(cj.mp e).1;simpa using this
   rw [ei d] at e;cases e
  have C:=ne g;have D:=ne m;rw [c6 C] at g t;rw [c6 D] at m u;exact r.apart a b q A B g m t u
abbrev gT(K:zz8):Tg->TG
 |.one i=>iz i|.two i j=>QA K 2 (yC (iz i) (yC (iz j) L4))
def lW{K:zz8}(hK:W.K=K){c:Tg}{env':Sl}{Q:St->Hp->Prop}(e:Tg.put c p env=.ok env')(r:SR W H0 env σ G H)(h:Rep W G p v)(d:∀b,SR W H0 env' b G H->Q b H):gT K c v σ H Q:=by
 unfold Tg.put at e;split at e
 .cases e;exact d _ (r.set _ h)
 .cases e;simp! [Rep] at h;let(a,i,rfl,sq,l):=h;let(j,m,rfl,f,l):=l.bo;let(o,q,rfl,g,l):=l.bo;simp! [ah] at l;subst l;rw [hK] at sq;exact{a,_,rfl,az.tup r.sub sq.sq,rfl,_,_,rfl,_,_,rfl,rfl,d _ ((r.set _ f).set _ g)}
 .cases e
def Ea(ee:X.env.scope=sc)(h:gz sc x=gf):Loc X.env.scope x:=by rw [ee];unfold gz at h;simp! [er,zzy] at h;exact h
def KA{fn:Str->Bool}{i:Nat}{p:hD}(hN:X.N=N)(nd:N.Nodup)(ee:X.env.scope=sc)(b:∀x,fn x=gf->X.fn x=gf)(h:Wb N sc fn i p=gf):PG X p (iz i)/\∃x q,p=.Name x q:=by
 let(x,c,a):=af h;let(q,rfl):=e9 c
 simp! [zza,zzy,er] at a;refine{I0 (by rw [hN];exact nd) (by rw [hN];exact a.1.1) (Ea ee a.1.2) ?_,x,q,rfl};rcases a.2 with z|z
 .exact .inl (b x z)
 .exact .inr (by rw [ee];exact z)
abbrev XO:List Nat->JX
 |[]=>L4|i::is=>yC (iz i) (XO is)
theorem EX{fn:Str->Bool}(hN:X.N=N)(nd:N.Nodup)(ee:X.env.scope=sc)(c:∀x,fn x=gf->X.fn x=gf):∀(is:List Nat) (b:List hD),Nr N sc fn is b=gf->PN X b (XO is)/\(assignEach b X.env).length=is.length/\(assignEach b X.env).findIdx? (·.1)=gd
 |[],[],_=>⟨Ja,rfl,rfl⟩|i::is,a::as,h=>by have h:=aj h;let(g1,x,p,rfl):=KA hN nd ee c h.1;let(g,l,f):=EX hN nd ee c is as h.2;have e:assignEach (.Name x p::as) X.env=(gh,assign (.Name x p) X.env)::assignEach as X.env:=rfl;refine{EY g1 g,by rw [e,cC,l,cC],?_};rw [e,List.findIdx?_cons,f];rfl|[],_::_,h=>aO h|_::_,[],h=>aO h
def vF{fn:Str->Bool}{a:Tg}{p:hD}(hN:X.N=N)(nd:N.Nodup)(ee:X.env.scope=sc)(c:X.calm=gf)(b:∀x,fn x=gf->X.fn x=gf)(h:eT N sc fn a p=gf):PG X p (gT X.K a):=by
 cases a with
 |one i=>exact(KA hN nd ee b h).1|two i j=>let(m,d,e):=af h;let(k,q,rfl):=tW d;let(g,l,f):=EX hN nd ee b _ _ e;exact N5 c g l f
def rB(W:Wd)(J:It)(G B:Hp)(ps:List PV):Prop:=∀(i:Nat) (b a:Hp),az G b->jc B a->az b a->
 (i=ps.length->J.stop i a)/\∀p,ps[i]?=fP p->J.go i a/\∀x c,J.PH i a x c->∃d,aC W b a d c/\Rep W d p x
structure K3(W:Wd)(G H:Hp)(it:I)(J:It)(ps:List PV):Prop where
 any:rB W J G H ps
 b9:Ay it=gf->rB W J G G ps
abbrev tI(X:Cx)(W:Wd)(F:aP)(it:I):TI:=λσ H R=>∃c G env,SR W c env σ G H/\Out X W (wO F it env) σ G H λd=>∀J b a,aC W G H b a->K3 W b a it J d->R J a
noncomputable abbrev GI(X:Cx)(W:Wd)(F:aP)(a:hD)(it:I)(p:hD):Prop:=PI X a p (tI X W F it)
theorem sx(hK:W.K=X.K){B:Hp}(h:uh W.K B a vs)(l:ah W G ps vs):rB W (Ud X.K a) G B ps:=λi e f g j sub=>by have b:iQ X.K f a vs:=ua hK (jc.ls j h);refine{λq=>{vs,b,by rw [l.length];lia},λp m=>?_};let(v,d,o):=l.uV m;refine{⟨vs,v,b,d⟩,λx r c=>?_};let(rfl,c):=c;have:=c vs b;rw [d] at this;cases this;exact{e,.refl sub,Rep.same g p o}
theorem DZ{K:zz8}{B:Hp}(h:gH K B a vs)(l:ah W G ps vs):rB W (Ue K a) G B ps:=λi e f g j sub=>by have b:gH K f a vs:=jc.tup j h;refine{λq=>{vs,b,by rw [l.length];lia},λp m=>?_};let(v,d,o):=l.uV m;refine{⟨vs,v,b,d⟩,λx r c=>?_};let(rfl,c):=c;have:=c vs b;rw [d] at this;cases this;exact{e,.refl sub,Rep.same g p o}
def DW{B:Hp}{us:List V}(n:ks.length=us.length)(h:B a=fP (.b9 o (.dK (kz ks us)))):rB W (Ub a o (kz ks us)) G B (ks.map gL):=λi e f t g sub=>by
 have c:f a=fP (.b9 o (.dK (kz ks us))):=g.at h (λZ z=>nomatch z);refine{λb=>{c,by rw [iD n];rw [zzl] at b;lia},λp d=>?_};rw [c4] at d;let(k,hk,rfl):=cz.mp d;have b:i<ks.length:=(cj.mp hk).1;refine{{c,by rw [iD n];exact b},λx u j=>?_};let(rfl,m,v,rfl,q):=j;have r:m=ki k:=by have:=congrArg (λl=>l[i]?) (yU (us:=us) n);simp! [c4,q,hk,Option.map_some] at this;exact zzq this
 rw [r];exact{e,.refl sub,.s}
def Ak{i:Nat}(h:(chars z)[i]?=fP p):∃c,z.cps[i]?=fP c/\p=.str {#[c]}:=by unfold chars at h;rw [c4] at h;let(c,a,rfl):=cz.mp h;rw [Array.getElem?_toList] at a;exact⟨c,a,rfl⟩
def Al(z:Str):(chars z).length=z.cps.size:=by unfold chars;rw [zzl,d3]
theorem DY{B:Hp}(z:Str):rB W (S5 z) G B (chars z):=λi e h j m sub=>by refine{λa=>by rw [Al] at a;exact Nat.le_of_eq a.symm,λp f=>?_};let(c,b,rfl):=Ak f;refine{(Array.getElem?_eq_some_iff.mp b).1,λx o g=>?_};let(rfl,q,d,rfl):=g;rw [b] at d;cases d;exact{e,.refl sub,.s}
theorem DX{B:Hp}(a:Int)(n:Nat):rB W (S4 a n) G B (fH a n):=λi g m o q sub=>by unfold fH;refine{λb=>by rw [zzl,List.length_range] at b;exact Nat.le_of_eq b.symm,λp d=>?_};rw [c4] at d;let(c,h,rfl):=cz.mp d;let(e,f):=cj.mp h;rw [List.length_range] at e;rw [List.getElem_range] at f;subst f;refine{e,λx r j=>?_};let(rfl,rfl):=j;exact{g,.refl sub,.i}
def Us(W:Wd)(G:Hp)(t:Zt)(xs:List PV):Prop:=(if t.1=gf then uh W.K G t.2.1 t.2.2 else K7 W.K G t.2.1 t.2.2)/\ah W G xs t.2.2
theorem Gg:∀{ps:List PV} {vs:List V} {xss:List (List PV)},ah W G ps vs->oY ps=fP xss->∃ts:List Zt,vs=ts.map (λt=>V.ref t.2.1)/\Paired (Us W G) ts xss
 |[],vs,xss,l,h=>by simp! [ah] at l;subst l;cases h;exact{[],rfl,.nil}
 |p::ps,vs,xss,l,h=>by
  let(v,r,rfl,b,f):=l.bo;let(xs,c,h):=d0.1 (show(So p).bind (λxs=>(oY ps).map (xs::·))=fP xss from h);let(g,i,rfl):=cz.1 h;let(ts,rfl,e):=Gg f i
  cases p with
  |lst j=>cases c;simp! [Rep] at b;let(a,d,rfl,k,m):=b;exact{(gf,a,d)::ts,rfl,.cons ⟨k,m⟩ e}
  |tup j=>cases c;simp! [Rep] at b;let(a,d,rfl,k,m):=b;exact{(gh,a,d)::ts,rfl,.cons ⟨k,m⟩ e}
  |_=>cases c
theorem y8:∀{xss:List (List PV)},∀xs∈xss,oG xss<=xs.length
 |[xs],ys,h=>by rw [d6.1 h];exact a8 _|xs::y::r,ys,h=>by
  show min xs.length (oG (y::r))<=_
  rcases ef.1 h with rfl|h
  .exact Nat.min_le_left ..
  .exact di (Nat.min_le_right ..) (y8 ys h)
theorem yZ:∀{xss:List (List PV)},xss≠[]->∃xs∈xss,xs.length=oG xss
 |[xs],_=>{xs,d6.2 rfl,rfl}|xs::y::r,_=>by
  show∃a∈xs::y::r,a.length=min xs.length (oG (y::r))
  rcases Nat.le_total xs.length (oG (y::r)) with h|h
  .exact{xs,c0 ..,(Nat.min_eq_left h).symm}
  .let(a,b,c):=yZ (xss:=y::r) (List.cons_ne_nil _ _);exact{a,cq _ b,by rw [c,Nat.min_eq_right h]}
theorem zU{i:Nat}:∀{ts:List Zt} {xss:List (List PV)} {ys:List V},Paired (Us W G) ts xss->Paired (λ(q:Zt) y=>q.2.2[i]?=fP y) ts ys->ah W G (xss.map λxs=>xs.getD i .aN) ys
 |_,_,_,.nil,.nil=>.nil|_,_,_,.cons r t,.cons u v=>by let(p,a,b):=r.2.get u;refine .cons ?_ (zU t v);dsimp only;rw [cB,a];exact b
def D0(hK:W.K=X.K){B:Hp}{ts:List Zt}{xss:List (List PV)}(hn:ts≠[])(h:Paired (Us W G) ts xss)(C:az G B):rB W (Uc X.K ts) G B (qf xss):=λi D q f E sub=>by
 have sq:∀t∈ts,Zq X.K q t:=λt b=>by
  let(xs,_,r):=gC h t b;have:=r.1;unfold Zq;split
  .rename_i e;rw [if_pos e] at this;exact ua hK (az.ls (λa o z=>sub a o (f a o z)) this)
  .rename_i e;rw [if_neg e] at this;exact hK▸az.tup (λa o z=>sub a o (f a o z)) this.sq
 have len:∀t∈ts,oG xss<=t.2.2.length:=λt b=>by let(xs,g,r):=gC h t b;rw [r.2.length];exact y8 xs g
 have j:(qf xss).length=oG xss:=by simp [qf]
 refine{λc=>?_,λp d=>?_}
 .rw [j] at c;subst c;refine{λt b=>{sq t b,len t b},?_};have s:xss≠[]:=λz=>by subst z;cases h;exact hn rfl
  let(xs,g,u):=yZ s;let(t,b,r):=cO h xs g;exact{t,b,by rw [r.2.length,u]}
 .have c:i<oG xss:=by rw [<-j];exact(cj.1 d).1
  have w:p=.tup (xss.map λxs=>xs.getD i .aN):=by unfold qf at d;rw [c4,List.getElem?_range c] at d;exact(zzq d).symm
  refine{λt b=>{sq t b,dA c (len t b)},λx I y=>?_};let(a,L,rfl,m,rfl,A):=y;subst w;refine{_,.new sub m,.t (.inl ak) (ah.same (bt (sub.free m)) _ (ah.same f _ (zU h A)))}
def lp{e:E}(sr:SR W H0 env σ G H)(e1:aB F e env=.ok p)(h:∀v G1 H1,aC W G H G1 H1->Got W H0 G1 H1 e p v->Q v H1):tE X W F e σ H Q:={H0,G,env,sr,by rw [e1];exact h}
def OR{e:E}(sr:SR W H0 env σ G H)(e1:aB F e env=.exc c)(h:um X W σ c G H):tE X W F e σ H Q:={H0,G,env,sr,by rw [e1];exact h}
def Mn(C:zv4 X){O p:hD}{e:E}(he:GE X W F e p):GI X W F O (.seq e) p:=by
 intro g s σ H R I h;let(T,G,env,sr,o):=h
 rw [wO] at o;cases r:aB F e env with
 |bad=>rw [r] at o;exact o.elim|exc c=>rw [r] at o;exact sL he g s σ H R I (OR sr r o)|ok q=>
  rw [r] at o;cases q with
  |lst xs=>refine sL he g s σ H R I (lp sr r λv G1 H1 g1 t=>?_);have u:=t;let(a,w,rfl,b,j):=t.top.lst g1.sub;refine{a,rfl,{w,ua C.K b},o _ G1 H1 g1 {sx C.K b j,λz=>?_}};have d:=u.rep z;simp! [Rep] at d;let(P,y,A,m,B):=d;cases A;exact sx C.K m B
  |tup xs=>refine N7 he g s σ H R I (lp sr r λv G1 H1 g1 t=>?_);have u:=t;let(a,w,rfl,b,j):=t.top.tup g1.sub;rw [C.K] at b;refine{a,rfl,⟨w,b⟩,o _ G1 H1 g1 {DZ b j,λz=>?_}};have d:=u.rep z;simp! [Rep] at d;let(P,y,A,m,B):=d;cases A;rw [C.K] at m;exact DZ m.sq B
  |str z=>exact N6 he g s σ H R I (lp sr r λv G1 H1 g1 t=>{z,t.top.str,o _ G1 H1 g1 {DY z,λZ=>DY z}})|int _=>exact ed o|bl _=>exact ed o|aN=>exact ed o|exc _=>exact ed o|obj _=>exact ed o|cA D qs=>
   by_cases f:eR e=gf
   .have Q:xI e (.cA D qs)=.ok (D.map gL):=by
     cases e<;>first|rfl|exact aO f
    have o2:Out X W (xI e (.cA D qs)) σ G H λS=>∀(J:It) (M L:Hp),aC W G H M L->K3 W M L (Ci.I.seq e) J S->R J L:=o;rw [Q] at o2;refine Sd he g s σ H R I (lp sr r λv G1 H1 g1 t=>?_);have d:=t.rep f;simp! [Rep] at d;let(a,ob,U,rfl,n,b,j):=d;exact{a,ob,_,rfl,g1.sub _ _ b,o2 _ G1 H1 g1 {DW n (g1.sub _ _ b),λZ=>DW n b}}
   .have:(∃i,e=.JH i)\/∃a,e=.con a:=by
     cases e<;>first|exact .inl ⟨_,rfl⟩|exact .inr ⟨_,rfl⟩|exact absurd rfl f
    rcases this with⟨i,rfl⟩|⟨i,rfl⟩
    .exact ed o
    .exact ed o
def oZ{i:Int}(h:cK i=gf): -(2^62)<=i/\i<2^62:=by unfold cK at h;simpa using h
def Mm(C:zv4 X){c p:hD}{e:E}(d:gu sc "range"=gf)(f:Γ.bs.contains "range"=gf)(b:∀env ps,starEach (p::ps) env=(gh,eval p env)::starEach ps env)(he:GE X W F e p):GI X W F c (.sY e) (.Call (.Name "range" np) [p] [] pos):=by
 intro g s σ H R I h;refine Bo (dz C d) (C.bs _ (eg.mp f)) (bZ he dE (b _ _)) (b _ _) g s σ H R I ?_;let(i,G,env,sr,o):=h;rw [wO] at o;refine one sr o λq v G1 H1 g1 t m o1=>?_
 cases q with
 |int j=>
  by_cases a:cK j=gf
  .have o2:Out X W (if cK j=gf then Res.ok (fH 0 j.toNat) else .bad) σ G1 H1 _:=o1;rw [if_pos a] at o2;exact{j,by rw [t.top.int],(oZ a).1,(oZ a).2,o2 _ G1 H1 g1 {DX _ _,λZ=>DX _ _}}
  .have o2:Out X W (if cK j=gf then Res.ok (fH 0 j.toNat) else .bad) σ G1 H1 _:=o1;rw [if_neg a] at o2;exact o2.elim
 |bl _=>exact ed o1|aN=>exact ed o1|str _=>exact ed o1|tup _=>exact ed o1|lst _=>exact ed o1|exc _=>exact ed o1|obj _=>exact ed o1|cA _ _=>exact ed o1
def Mo(C:zv4 X){elts:List hD}{x1:Nat}{j:Pos}{p:hD}{ps:List hD}{as:Es}(m:gu sc "zip"=gf)(u:Γ.bs.contains "zip"=gf)(w:g9 as=gf)(hn:fN as=2\/fN as=3)(y:GA X W F as (p::ps))
 (A:starEach (p::ps) X.env=(gh,eval p X.env)::starEach ps X.env) (hpl:(backTo pos (starEach ps X.env)).any (·.1)=gh):GI X W F (.Tuple elts x1 j) (.zip as) (.Call (.Name "zip" np) (p::ps) [] pos):=by
 intro B s σ H R I h;refine Jb (dz C m) (C.bs _ (eg.mp u)) y A hpl B s σ H R I ?_;let(D,G,env,sr,o):=h
 rw [wO] at o;refine{D,G,env,sr,?_};cases r:br F as env with
 |bad=>rw [r] at o;exact o|exc c=>rw [r] at o;exact o|ok qs=>
  rw [r] at o;have f:=kL r;intro L G1 H1 g1 t;have l:=t.rep w;have o:Out X W ((Res.of (oY qs)).bind λa=>.ok (qf a)) σ G H λps=>∀J g b,aC W G H g b->K3 W g b (.zip as) J ps->R J b:=o
  cases e:oY qs with
  |none=>rw [e] at o;exact ed o|some a=>
   rw [e] at o;let(ts,rfl,d):=Gg l e;have lt:ts.length=qs.length:=by have:=l.length;rwa [zzl] at this
   have i:ts≠[]:=λz=>by subst z;simp at lt;lia
   refine{ts,rfl,by lia,λq E=>?_,o _ G1 H1 g1 {D0 C.K i d g1.sub,λZ=>D0 C.K i d (az.refl _)}};let(xs,_,r):=gC d q E;have:=r.1;unfold Zq;split
   .rename_i e;rw [if_pos e] at this;exact ua C.K (az.ls g1.sub this)
   .rename_i e;rw [if_neg e] at this;exact C.K▸az.tup g1.sub this.sq
end
def Aj{env:Env}{c:hB}(h:env.cells.lookup x=fP c):cellOf env x=pure c:=by unfold cellOf;rw [h]
abbrev frees(names:List (Str×NameKind)):List Str:=((names.filter λp=>p.2==.free).map (·.1)).reverse
def nL{a:ia}{env:Env}(h:∀y∈a.names,y.2=.free->∃c,env.cells.lookup y.1=fP c):closureFor a env=pure (bV env (freeOf a)):=by
 simp! [closureFor];have f:∀(names:List (Str×NameKind)) (b:List (Str×hB)),(∀y∈names,y.2=.free->∃c,env.cells.lookup y.1=fP c)->
  (forIn (m:=Sem) names b λx r=>if(x.2==NameKind.free)=gf then do
   let c<-cellOf env x.1
   pure (ForInStep.yield ((x.1,c)::r))
   else pure (ForInStep.yield r))=pure (bV env (frees names)++b):=by
  intro names
  induction names with
  |nil=>intro b _;rfl|cons p r j=>
   intro b g;let(n,d):=p;rw [List.forIn_cons];by_cases hk:(d==NameKind.free)=gf
   .let(c,k):=g (n,d) (by simp) (zzy.mp hk);simp! [hk,if_true,Aj k,pure_bind];rw [j ((n,c)::b) λy i=>g y (cq _ i)];have e:frees ((n,d)::r)=frees r++[n]:=by unfold frees;rw [eA,if_pos hk,bc,List.reverse_cons]
    rw [e];unfold bV;rw [List.map_append,bc,List.map_nil,List.append_assoc];show _=pure (_++([(n,(env.cells.lookup n).getD 0)]++b));rw [show env.cells.lookup n=fP c from k];rfl
   .simp! [hk,d4,if_false,pure_bind];rw [j b λy i=>g y (cq _ i)];have e:frees ((n,d)::r)=frees r:=by unfold frees;rw [eA,if_neg hk]
    rw [e]
 have:=f a.names [] h;rw [e6] at this;simp! [bind_pure_comp,map_pure,id_map',bind_pure];exact this
section
variable{W:Wd}{sc:ia}
def fA{a:ia}(h:X.env.scope=sc):relabel a X.env=cJ a sc:=by subst h;rfl
structure kl(N:List Str)(sc scope:ia)(kk:Nat)(ba:List Nat)(xs:List Str):Prop where
 kind:scope.kind=.function
 len:xs.length=kk
 nd:(xs++freeOf scope).Nodup
 Lp:(scope.names.all λy=>(decide (y.2≠.cell)||!(freeOf scope).contains y.1)&&(decide (y.2≠.free)||(freeOf scope).contains y.1))=gf
 own:(scope.names.all λy=>decide (y.2≠.cell)||decide (scope.names.lookup y.1=fP .cell))=gf
 names:(scope.names.all λy=>decide (y.2≠.local)||decide (scope.names.lookup y.1=fP .local))=gf
 slots:ba.map (λi=>N[i]?)=(freeOf scope).map fP
 kX:((freeOf scope).all λy=>decide (sc.names.lookup y=fP .cell))=gf
 kY:((freeOf scope).all λy=>decide ((cJ scope sc).names.lookup y=fP .cell))=gf
def il{a:ia}{b:Nat}{c:List Nat}{xs:List Str}(h:uD N sc a b c xs=gf):kl N sc a b c xs:=by unfold uD at h;simp! [zza] at h;let((((((((d,e),h3),f),g),i),j),k),m):=h;exact{zzy.mp d,zzy.mp e,zzY h3,f,g,i,zzY j,k,m}
def nQ(hN:X.N=N)(ee:X.env.scope=sc)(ok:X.Ok){a:ia}{f:Nat}{d:List Nat}{xs:List Str}(h:kl N sc a f d xs):fS X a xs (freeOf a) d:=by
 have e:∀y∈freeOf a,∃c,X.env.cells.lookup y=fP c:=λy b=>ok.has y (.inl (by have:=zzY (c8.mp h.kX y b);show X.env.scope.names.lookup y=_;rw [ee];exact this));refine{h.kind,nL λy b g=>?_,c8.mpr λy b=>?_,h.Lp,h.own,h.names,by rw [hN];exact h.slots,c8.mpr λy b=>?_,?_}
 .have c:=c8.mp h.Lp y b
  rw [zza,er,er] at c;rcases c.2 with z|z
  .exact absurd g (zzY z)
  .exact e _ (eg.mp z)
 .let(c,i):=e y b;rw [i];rfl
 .have:=zzY (c8.mp h.kX y b);refine zzh ?_;show X.env.scope.names.lookup y=_;rw [ee];exact this
 .rw [fA ee];exact h.kY
theorem jx{f:PV->Res (Option PV)}{x:PV}:∀{xs:List PV},aY f (xs++[x])=(aY f xs).bind λys=>(f x).well.bind λo=>.ok (ys++o.toList)
 |[]=>by
  simp! [List.nil_append,aY,Res.bind];cases(f x).well with
  |ok o=>cases o<;>rfl
  |exc c=>rfl|bad=>rfl
 |y::xs=>by
  rw [List.cons_append];simp! [aY];rw [jx (xs:=xs)];cases(f y).well with
  |exc c=>rfl|bad=>rfl|ok o=>
   show(((aY f xs).bind λys=>(f x).well.bind λo=>.ok (ys++o.toList)).bind λys=>.ok (oc o ys))=((aY f xs).bind λys=>.ok (oc o ys)).bind λys=>(f x).well.bind λo=>.ok (ys++o.toList)
   cases aY f xs with
   |exc c=>rfl|bad=>rfl|ok zs=>
    show(((f x).well.bind λo=>.ok (zs++o.toList)).bind λys=>.ok (oc o ys))=(f x).well.bind λo2=>.ok ((oc o zs)++o2.toList)
    cases(f x).well with
    |exc c=>rfl|bad=>rfl|ok o2=>cases o<;>rfl
theorem nO{f:PV->Res (Option PV)}:∀{xs ys:List PV},aY f xs=.ok ys->∀i,∃a,aY f (xs.take i)=.ok a/\a.length<=i
 |_,_,_,0=>{[],by simp [aY],a8 _}|[],ys,h,i+1=>{[],by simp [aY],Nat.zero_le _}|x::xs,ys,h,i+1=>by
  simp! [aY] at h;let(o,b,h):=Res.aM h;let(a,c,h):=Res.aM h;let(d,e,hl):=nO c i;refine{oc o d,?_,?_}
  .rw [List.take_succ_cons];simp! [aY];rw [b];show((aY f (xs.take i)).bind λys=>.ok (oc o ys))=_;rw [e];rfl
  .cases o with
   |none=>exact Nat.le_succ_of_le hl|some y=>exact Nat.succ_le_succ hl
def nv{d:Type}{r:Res d}{a:d}(h:r.well=.ok a):r=.ok a:=by
 cases r with
 |ok b=>cases h;rfl
 |exc c=>cases h
 |bad=>cases h
def uE{f:PV->Res (Option PV)}{a:List PV}{i:Nat}{x:PV}(h:aY f xs=.ok ys)(d:xs[i]?=fP x)(hz:aY f (xs.take i)=.ok a):∃o,f x=.ok o/\aY f (xs.take (i+1))=.ok (a++o.toList):=by
 have e:xs.take (i+1)=xs.take i++[x]:=by rw [List.take_add_one,d];rfl
 let(g,b,_):=nO h (i+1);rw [e,jx,hz] at b;let(o,c,b):=Res.aM (show((f x).well.bind λo=>Res.ok (a++o.toList))=.ok g from b);refine{o,nv c,?_};rw [e,jx,hz];show((f x).well.bind λo=>Res.ok (a++o.toList))=_;rw [c];rfl
def o7{k:St}{h:List Nat}{ys:List Str}(g:Nat)(sr:SR W H0 env k G H)(hs:h.map (λi=>N[i]?)=ys.map fP)(nd:ys.Nodup):SR W H0 (jz g .no++eX env h) (jz g gd++AW k h) G H:=by
 have F:∀(i j:Nat) (a:Nat),h[i]?=fP a->h[j]?=fP a->i=j:=λi j a y A=>by
  have m:(ys.map fP)[i]?=fP (N[a]?):=by rw [<-hs,c4,y];rfl
  have w:(ys.map fP)[j]?=fP (N[a]?):=by rw [<-hs,c4,A];rfl
  rw [c4] at m w;let(I,g1,K):=cz.mp m;let(L,g2,M):=cz.mp w;have:I=L:=zzq (K.trans M.symm);subst this;exact kW nd g1 g2
 have d:∀(j:Nat) (s:Slot),(jz g Slot.no++eX env h)[j]?=fP s->(j<g/\s=.no)\/∃a,g<=j/\h[j-g]?=fP a/\s=env.getD a .no:=λj s e=>by
  by_cases f:j<g
  .rw [ek (zx6 f),List.getElem?_replicate,if_pos f] at e;cases e;exact .inl ⟨f,rfl⟩
  .rw [el (zx6 f),List.length_replicate] at e;unfold eX at e;rw [c4] at e;let(a,r,rfl):=cz.mp e;exact .inr {a,by lia,r,rfl}
 have val:∀(j a:Nat),g<=j->h[j-g]?=fP a->(jz g gd++AW k h)[j]?=fP ((k[a]?).join):=λj a f r=>by rw [el (zx6 f),List.length_replicate];unfold AW;rw [c4,r];rfl
 refine{by unfold eX AW;simp,sr.sub,sr.base,λj s e=>?_,λi j p q a m w B C=>?_,sr.tab,sr.jf}
 .rcases d j s e with⟨f,rfl⟩|⟨a,f,r,rfl⟩
  .exact{gd,by rw [ek (zx6 f),List.getElem?_replicate,if_pos f],trivial}
  .refine{_,val j a f r,?_};rw [cB];cases m:env[a]? with
   |none=>exact trivial|some s=>let(o,y,A):=sr.slot a s m;rw [y];exact A
 .rcases d i _ m with⟨_,z⟩|⟨b,O,D,t⟩
  .cases z
  rcases d j _ w with⟨_,z⟩|⟨c,f,E,u⟩
  .cases z
  rw [val i b O D] at B;rw [val j c f E] at C;have P:env[b]?=fP (.own p):=by
   rw [cB] at t;cases e:env[b]? with
   |none=>rw [e] at t;cases t
   |some s=>rw [e] at t;exact congrArg fP t.symm
  have Q:env[c]?=fP (.own q):=by
   rw [cB] at u;cases e:env[c]? with
   |none=>rw [e] at u;cases u
   |some s=>rw [e] at u;exact congrArg fP u.symm
  have g1:k[b]?=fP (fP (.ref a)):=Option.join_eq_some_iff.mp (zzq B);have g2:k[c]?=fP (fP (.ref a)):=Option.join_eq_some_iff.mp (zzq C);have R:=sr.apart b c p q a P Q g1 g2;subst R;have:=F _ _ b D E;lia
def i9{d:Nat}{rest env':Sl}{f:St}{k:Tg}(g:ke d k=gf)(e:Tg.put k p (jz d .no++rest)=.ok env')(r:SR W H0 env' f G H):SR W H0 (jz d .no++rest) f G H:=by
 have c:∀(j:Nat) (s:Slot),(jz d Slot.no++rest)[j]?=fP s->s≠.no->env'[j]?=fP s:=λj s h hs=>by
  have w:¬j<d:=λz=>by rw [ek (zx6 z),List.getElem?_replicate,if_pos z] at h;cases h;exact hs rfl
  unfold Tg.put at e;split at e
  .cases e;unfold ke at g;simp! [zzN] at g;rw [c6 (by lia)];exact h
  .cases e;unfold ke at g;simp! [zza,zzN] at g;rw [c6 (by lia),c6 (by lia)];exact h
  .cases e
 have b:(jz d Slot.no++rest).length=f.length:=by
  rw [<-r.len];unfold Tg.put at e;split at e<;>first|(cases e;simp;done)|(cases e;done)
 refine{b,r.sub,r.base,λj s h=>?_,λi j p q a m o t u=>r.apart i j p q a (c i _ m nofun) (c j _ o nofun) t u,r.tab,r.jf};by_cases hs:s=.no
 .subst hs;have:j<f.length:=by rw [<-b];exact(cj.mp h).1
  exact{f[j],zzg this,trivial}
 .exact r.slot j s (c j s h hs)
variable{Γ:Pg}{F:aP}{k:Nat}
abbrev tN(W:Wd)(F:aP)(e:E):TE:=λd H Q=>∃b G env,SR W b env d G H/\∃p,aB F e env=.ok p/\∀v c a,aC W G H c a->Got W b c a e p v->Q v a
abbrev TQ(W:Wd)(F:aP)(e:E):TT:=λc H Q=>∃d G env,SR W d env c G H/\∃b,aB F e env=.ok (.bl b)/\∀f a,aC W G H f a->Q b a
def zM{e:E}(a:St)(H:Hp)(Q:VK)(h:tN W F e a H Q):tE X W F e a H Q:=by let(b,G,env,sr,p,c,q):=h;exact{b,G,env,sr,by rw [c];exact q}
def FK{e:E}(a:St)(H:Hp)(Q:Bool->Hp->Prop)(h:TQ W F e a H Q):tT X W F e a H Q:=by let(b,G,env,sr,p,c,q):=h;exact{b,G,env,sr,by rw [c];exact⟨p,rfl,q⟩}
def fu(C:zv4 X){a:ia}{c:Nat}{d:List Nat}{xs:List Str}(h:kl N sc a c d xs)(fp:List hB)(s1:gB)(H1:Hp)(A:hB):eW Γ.vw F W (xs++freeOf a) (cJ a sc) k (bP X (xs++freeOf a) a (bV X.env (freeOf a)) fp s1 H1 A):=
 {rfl,fA C.ee,λZ=>rfl,h.nd,C.K,C.mg,C.gs,C.bs,C.room,λf b=>{(C.fns f b).ex},C.NA,C.cls,C.xc,λq e=>{(C.AN q e).ex},λf b=>{(C.Wq f b).1,{(C.Wq f b).2.ex}},C.any,C.fld,C.con,nofun,nofun,nofun}
set_option tactic.hygienic true in
def LU{e:E}{p:hD}(h:aK Γ N sc e p=gf)(env:Env):∀x,foldedSetIterable p env x=pure x:=by
 intro x;cases p<;>first|rfl|(cases e<;>first|(exact aO h)|(rename_i q;cases q<;>exact aO h))
def iV{a:hD}{p:hD}(h:uA Γ N sc a it p=gf)(env:Env):∀x,foldedSetIterable p env x=pure x:=by
 intro x;cases it with
 |seq e=>exact LU h env x|sY e=>cases p<;>first|rfl|(exact aO h)
 |zip as=>cases p<;>first|rfl|(exact aO h)
def CW(W:Wd)(H0 e H1:Hp)(uP:Sl)(f:PV->Res (Option PV))(ps:List PV)(i:Nat)(ys:List V)(a:St)(d:Hp):Prop:=
 i<=ps.length/\∃b,aC W e H1 b d/\SR W H0 uP a b d/\∃c,aY f (ps.take i)=.ok c/\c.length<=i/\ah W b c ys
def yx(hK:W.K=X.K){s:Nat}{w:List Nat}{D:Tg}{j:E}{ys:List Str}(dO:ke s D=gf)(cE:eR j=gf)(hs:w.map (λi=>N[i]?)=ys.map fP)(nd:ys.Nodup)(V:St)(H:Hp)(Q:VK)(h:tF X W F (.comp s w D it j) V H Q):
 zL (tI X W F it) s (gT X.K D) (tN W F j) w V H Q:=by
 let(M,G,env,sr,o):=h;rw [aB] at o;refine{M,G,env,sr,o.bind.imp λq m J Y H1 g1 gi=>?_};by_cases Z:¬q.length<bS
 .rw [if_neg Z] at m;exact m.elim
 have hl:=Decidable.not_not.mp Z;rw [if_pos hl] at m;generalize hf:(λx=>(D.put x (jz s .no++eX env w)).bind λb=>(aB F j b).bind λy=>Res.ok (fP y))=f at m
 cases A:aY f q with
 |bad=>rw [A] at m;exact m.elim|exc c=>
  exfalso
  have:∀(l:List PV) (c:Str),aY f l≠.exc c:=λl=>by
   induction l with
   |nil=>intro c z;cases z
   |cons a l ih=>
    intro c z;simp! [aY] at z;rcases Res.eG z with z|⟨o1,_,z⟩
    .cases e:f a with
     |ok _=>rw [e] at z;cases z
     |exc _=>rw [e] at z;cases z
     |bad=>rw [e] at z;cases z
    .rcases Res.eG z with z|⟨o2,_,z⟩
     .exact ih c z
     .cases z
  exact this _ _ A
 |ok all=>
  rw [A] at m;let(xs,e1,fin):=m;cases e1;have bH:=sr.grow g1;refine{q.length,CW W M Y H1 (jz s .no++eX env w) f q,{Nat.zero_le _,Y,.refl g1.sub,o7 s bH hs nd,[],rfl,a8 _,.nil},?_}
  rintro i made σ' H' ⟨hi,G',B,O,zs,P,Pt,l⟩
  refine{by rw [l.length];exact dk (di Pt hi) (dA hl (by decide)),?_};let(R,S):=gi.any i G' H' B.g B.h B.sub;by_cases d:i=q.length
  .refine .inl {R d,λp hp=>?_};rw [d,List.take_length,A] at P;cases P;exact fin p made G' H' (g1.trans B) hp l
  .have L:i<q.length:=by lia
   let(DE,C):=S q[i] (zzg L);refine .inr {DE,L,λx jq hy=>?_};let(rn,T,rx):=C x jq hy;let(o1,u,r):=uE A (zzg L) P;rw [<-hf] at u;let(b,BX,u):=Res.aM u;let(y,Rj,u):=Res.aM u;cases u;refine lW hK BX (O.grow T) rx λσ2 lN=>{M,rn,b,lN,y,Rj,λv G3 H3 U t=>?_};refine{L,G3,B.trans (T.trans U),(i9 dO BX lN).grow U,_,r,?_,?_}
   .rw [cD];show zs.length+1<=i+1;lia
   .exact(ah.same (T.trans U).g zs l).append (.cons (t.rep cE) .nil)
def qw(hK:W.K=X.K){A:Nat}{D:List Nat}{R:Tg}{c j:E}{ys:List Str}(dO:ke A R=gf)(cE:eR j=gf)(hs:D.map (λi=>N[i]?)=ys.map fP)(nd:ys.Nodup)(σ:St)(H:Hp)(Q:VK)(h:tF X W F (.eQ A D R it c j) σ H Q):
 nu (tI X W F it) A (gT X.K R) (TQ W F c) (tN W F j) D σ H Q:=by
 let(S,G,env,sr,o):=h;rw [aB] at o;refine{S,G,env,sr,o.bind.imp λs r J G1 H1 g1 gi=>?_};by_cases wb:¬s.length<bS
 .rw [if_neg wb] at r;exact r.elim
 have hl:=Decidable.not_not.mp wb;rw [if_pos hl] at r;generalize hf:(λx=>(R.put x (jz A .no++eX env D)).bind λd=>(aB F c d).bind λt=>wy t λt=>if t then(aB F j d).bind λy=>Res.ok (fP y) else .ok gd)=f at r
 cases L:aY f s with
 |bad=>rw [L] at r;exact r.elim|exc c=>
  exfalso
  have:∀(l:List PV) (c:Str),aY f l≠.exc c:=λl=>by
   induction l with
   |nil=>intro c z;cases z
   |cons a l ih=>
    intro c z;simp! [aY] at z;rcases Res.eG z with z|⟨o1,_,z⟩
    .cases e:f a with
     |ok _=>rw [e] at z;cases z
     |exc _=>rw [e] at z;cases z
     |bad=>rw [e] at z;cases z
    .rcases Res.eG z with z|⟨o2,_,z⟩
     .exact ih c z
     .cases z
  exact this _ _ L
 |ok all=>
  rw [L] at r;let(xs,e1,fin):=r;cases e1;have bH:=sr.grow g1;refine{s.length,CW W S G1 H1 (jz A .no++eX env D) f s,{Nat.zero_le _,G1,.refl g1.sub,o7 A bH hs nd,[],rfl,a8 _,.nil},?_}
  rintro i made σ' H' ⟨hi,G',B,U,zs,V,Pt,l⟩
  refine{by rw [l.length];exact dk (di Pt hi) (dA hl (by decide)),?_};let(Y,Z):=gi.any i G' H' B.g B.h B.sub;by_cases m:i=s.length
  .refine .inl {Y m,λp hp=>?_};rw [m,List.take_length,L] at V;cases V;exact fin p made G' H' (g1.trans B) hp l
  .have M:i<s.length:=by lia
   let(DE,O):=Z s[i] (zzg M);refine .inr {DE,M,λx jq hy=>?_};let(rn,P,rx):=O x jq hy;let(o1,u,q):=uE L (zzg M) V;rw [<-hf] at u;let(d,BX,u):=Res.aM u;let(t,ht,u):=Res.aM u
   obtain⟨b,rfl⟩:∃b,t=.bl b:=by
    cases t<;>first|exact⟨_,rfl⟩|(cases u)
   refine lW hK BX (U.grow P) rx λσ2 T=>{S,rn,d,T,b,ht,λG3 H3 w=>?_};have C:(if b=gf then(aB F j d).bind λy=>Res.ok (fP y) else .ok gd)=Res.ok o1:=u
   cases b with
   |true=>
    rw [if_pos rfl] at C;refine VV ?_;let(y,Rj,C):=Res.aM C;cases C;refine{S,G3,d,T.grow w,y,Rj,λv G4 H4 g4 t4=>?_};refine{M,G4,B.trans (P.trans (w.trans g4)),(i9 dO BX T).grow (w.trans g4),_,q,?_,?_}
    .rw [cD];show zs.length+1<=i+1;lia
    .exact(ah.same (P.trans (w.trans g4)).g zs l).append (.cons (t4.rep cE) .nil)
   |false=>
    rw [if_neg zzf] at C;refine VU ?_;cases C;refine{M,G3,B.trans (P.trans w),(i9 dO BX T).grow w,_,q,?_,?_}
    .rw [cD];show zs.length+0<=i+1;lia
    .show ah W G3 (zs++[]) made;rw [e6];exact ah.same (P.trans w).g zs l
def yD(C:zv4 X)(r:Γ.qt=gh){f:Nat}{i:List Nat}{d:Tg}{b:E}{c j q:hD}{a:ia}{pos:Pos}(h:kl N sc a f i (aF c))(t:ke f d=gf)(u:eR b=gf)(w:GI X W F c it j)(AN:∀x,foldedSetIterable j X.env x=pure x)
 (y:eT (aF c++freeOf a) (cJ a sc) (k7 a) d c=gf) (he:∀Y,eW Γ.vw F W (aF c++freeOf a) (cJ a sc) k Y->GE Y W F b q):GF X W F (.comp f i d it b) (.ListComp q [{c,j,[],0}] a pos):=by
 intro B s e H Q I m;have D:(freeOf a).Nodup:=(List.nodup_append.mp h.nd).2.1;have rd:=yx (N:=N) C.K t u h.slots D e H Q m
 have:=zo (g:=gT X.K d) (te:=tN W F b) (xs:=aF c) (ys:=freeOf a) (is:=i) (pos:=pos) (C.calm r) (nQ C.hN C.ee I.ok h) w
  (λfp o p A=>vF (fn:=k7 a) (X:=bP X (aF c++freeOf a) a (bV X.env (freeOf a)) fp o p A) rfl h.nd (fA C.ee) rfl (λZ z=>z) y)
  (λfp o p A=>L2.PE.imp (he _ (fu C h fp o p A)) λe H Q z=>zM e H Q z) AN B s e H Q I
 rw [h.len] at this;exact this rd
def qG(C:zv4 X)(u:Γ.qt=gh){m:Nat}{o:List Nat}{j:Tg}{c b:E}{p r t:hD}{a:ia}{pos:Pos}(h:kl N sc a m o (aF d))(w:ke m j=gf)(y:eR b=gf)(B:GI X W F d it p)(AN:∀x,foldedSetIterable p X.env x=pure x)
 (D:eT (aF d++freeOf a) (cJ a sc) (k7 a) j d=gf) (G:∀Y,eW Γ.vw F W (aF d++freeOf a) (cJ a sc) k Y->GT Y W F c r) (he:∀Y,eW Γ.vw F W (aF d++freeOf a) (cJ a sc) k Y->GE Y W F b t):
 GF X W F (.eQ m o j it c b) (.ListComp t [{d,p,[r],0}] a pos):=by
 intro L s e H Q I q;have M:(freeOf a).Nodup:=(List.nodup_append.mp h.nd).2.1;have rd:=qw (N:=N) C.K w y h.slots M e H Q q
 have:=Bl (g:=gT X.K j) (tt:=TQ W F c) (te:=tN W F b) (xs:=aF d) (ys:=freeOf a) (is:=o) (pos:=pos) (C.calm u) (nQ C.hN C.ee I.ok h) B
  (λfp f i A=>vF (fn:=k7 a) (X:=bP X (aF d++freeOf a) a (bV X.env (freeOf a)) fp f i A) rfl h.nd (fA C.ee) rfl (λZ z=>z) D)
  (λfp f i A=>L2.PT.imp (G _ (fu C h fp f i A)) λe H Q z=>FK e H Q z)
  (λfp f i A=>L2.PE.imp (he _ (fu C h fp f i A)) λe H Q z=>zM e H Q z) AN L s e H Q I
 rw [h.len] at this;exact this rd
end
end Ci
namespace L2
open PySem.Spec PyProof.Rows PySem.W
section
variable{E:jW}{s:gB}{it:hB}
theorem fld{fs:Array gA}{z:gA}{Q:Unit->gB->Prop}(e:s.heap.get? it=fP {cls:=.type "dict_itemiterator",data:=.fields fs})(a:j<fs.size)(b:∀h',h'.get? it=fP {cls:=.type "dict_itemiterator",data:=.fields (fs.setIfInBounds j z)}->ig.SameBut it s.heap h'->Q () {s with heap:=h'}):hF (hT prog w) A (setField (.ref it) j z) Q E s:=
 wpAny_setField e rfl a (b _ (ig.get?_update_self _ e rfl) (et ..))
end
noncomputable abbrev lO(a:Array gA)(c:Nat):Obj:={cls:=.type "list",dict:=gd,data:=.seq a c,slots:=#[]}
end L2
namespace L2
open PySem.Spec PyProof.Rows
def l5:Manifest.owners.lookup (String.ofList ['d','e','s','r','e','v','e','r'].reverse)=fP Manifest.sig_reversed:=by kernel_rfl
theorem dh:Slot (zu 9) (zu 64) "reversed.__next__":=
 .of (owner:=(zu 9)) (n:=(zu 64)) (by rw [typeLookup_type,builtinLookup_eq_fast];kernel_rfl) (by decide+kernel) (by decide+kernel) (by decide+kernel)
  (by first|exact .inl (by decide+kernel)|exact .inr (by decide+kernel)) (by rw [isSubtype_type];kernel_rfl)
def iu:entryFor table "reversed.__next__"=fP i1.«reversed.__next__»:=entryFor_of_tree (by kernel_rfl)
def jg(a:gA):argsOk "reversed.__next__" {[a],[]}:=by unfold argsOk;rw [signature?_of (id:="reversed.__next__") (n:=['_','_','t','x','e','n','_','_']) (o:=['d','e','s','r','e','v','e','r']) (by kernel_rfl) l5];kernel_rfl
theorem jk:Slot (zu 9) "__iter__" "reversed.__iter__":=
 .of (owner:=(zu 9)) (n:="__iter__") (by rw [typeLookup_type,builtinLookup_eq_fast];kernel_rfl) (by decide+kernel) (by decide+kernel) (by decide+kernel)
  (by first|exact .inl (by decide+kernel)|exact .inr (by decide+kernel)) (by rw [isSubtype_type];kernel_rfl)
def pM(a:gA):argsOk "reversed.__iter__" {[a],[]}:=by unfold argsOk;rw [signature?_of (id:="reversed.__iter__") (n:=['_','_','r','e','t','i','_','_']) (o:=['d','e','s','r','e','v','e','r']) (by kernel_rfl) l5];kernel_rfl
theorem nZ:entryFor table "reversed.__iter__"=fP i1.«dict_keyiterator.__iter__»:=
 entryFor_alias (id':="dict_keyiterator.__iter__") (by kernel_rfl) (by first|rfl|decide+kernel|(unfold String.splitOn;simp+decide [String.splitOnAux])) (by decide+kernel) (by kernel_rfl)
theorem f6:Slot (zu 9) "__length_hint__" (zu 44):=
 .of (owner:=(zu 9)) (n:="__length_hint__") (by rw [typeLookup_type,builtinLookup_eq_fast];kernel_rfl) (by decide+kernel) (by decide+kernel) (by decide+kernel)
  (by first|exact .inl (by decide+kernel)|exact .inr (by decide+kernel)) (by rw [isSubtype_type];kernel_rfl)
def nY:entryFor table (zu 44)=fP i1.«reversed.__length_hint__»:=entryFor_of_tree (by kernel_rfl)
def pL(a:gA):argsOk (zu 44) {[a],[]}:=by unfold argsOk;rw [signature?_of (id:=(zu 44)) (n:="__length_hint__".toList.reverse) (o:=['d','e','s','r','e','v','e','r']) (by kernel_rfl) l5];kernel_rfl
def xH:typeLookup (.type (zu 9)) "__len__"=pure gd:=by rw [typeLookup_type,builtinLookup_eq_fast];kernel_rfl
def xV:typeLookup (.type "tuple") "__reversed__"=pure gd:=by rw [typeLookup_type,builtinLookup_eq_fast];kernel_rfl
abbrev Oq(t:hB)(i:Int):Obj:={cls:=.type (zu 9),data:=.fields #[.ref t,rawInt i]}
section
variable{E:jW}{s:gB}
def wI:TypeCalled (zu 9) "reversed.__new__" "object.__init__" where
 notType:=by decide+kernel
 canCreate:=F.create_reversed
 mro:={_,_,F.mro_reversed}
 made:=F.made_reversed
 plain:=F.plain_reversed_new
 sub:=F.sub_reversed_self
 init:=.of (owner:=(zu 61)) (n:=(zu 14)) (by rw [typeLookup_type,builtinLookup_eq_fast];kernel_rfl) (by decide+kernel) (by decide+kernel) (by decide+kernel)
  (by first|exact .inl (by decide+kernel)|exact .inr (by decide+kernel)) (by rw [isSubtype_type];kernel_rfl)
theorem A7(l:hB)(items:Array gA):MeetsIn prog w (i1.«reversed.__new__» {[.type (zu 9),.ref l],[]}) (λZ R s=>IsTup s.heap l items/\items.size<=iv/\∀tk,R (.ok (.ret (.ref (zz9 s)))) {s with heap:=s.heap.push (Oq l ((items.size:Int)-1)),toks:=tk}):=
 .of_wp λA R s c=>by
  let(hl,d,h):=c;unfold i1.«reversed.__new__»;refine ar (wpAny_of_eq (newClass_reversed _) ?_)
  try dsimp only
  refine ar (wpAny_of_eq (a:=()) (by first|rfl|kernel_rfl) ?_);refine ar (wpAny_of_eq (a:=()) (by first|rfl|kernel_rfl) ?_)
  try dsimp only
  refine ar (wpAny_specialOf hl.typeIs xV ?_)
  try dsimp only
  refine ar ?_
  wp_delta
  refine ar (wpAny_isInstance (T:="tuple") (v:=.ref l) (b:=gh) hl.typeIs (by rw [isSubtype_type];kernel_rfl) ?_);simp! [d4,if_false];refine ar (wpAny_specialOf hl.typeIs PyProof.Rows.slot_tuple_getitem.lookup ?_)
  try dsimp only
  rw [if_pos (by decide+kernel)];refine bT ?_;simp! [Bool.not_true,d4,if_false];refine ar (len_tuple hl (by rw [sizeLine_eq] at d;lia) ?_);refine ar (wpAny_of_eq (a:=fP (items.size:Int)) rfl ?_)
  try dsimp only
  unfold i1.SmallTypes.newRecord;exact ar (wpAny_newObj_type (bT {_,rfl,h _}) (by size_fits))
theorem kC{l:hB}{Q:jW}(hl:IsTup s.heap l items)(hn:items.size<=iv)
 (h:∀tk,Q (.ref (zz9 s)) {s with heap:=s.heap.push (Oq l ((items.size:Int)-1)),toks:=tk}):hF (hT prog w) A (call (.type (zu 9)) [.ref l]) Q E s:=
 callType_newIn wI (by decide) (F.typeCall_reversed_1 _) (F.newCall_reversed_1 _) (λobj=>F.args_object_init_2 obj _) F.entry_reversed_new (A7 l items) {hl,hn,λtk=>{{_,dV _ rfl,rfl},h tk}}
def gc(h:ig)(a l:hB)(i:Int):Prop:=∃o,h.get? a=fP o/\o.cls=.type (zu 9)/\o.data=.fields #[.ref l,rawInt i]
theorem gc.typeIs{l:hB}{i:Int}(x:gc s.heap a l i):s.TypeIs (.ref a) (zu 9):=let⟨o,b,c,_⟩:=x;⟨o,b,c⟩
theorem gc.at{l:hB}{i:Int}(x:gc h a l i)(e:∀o,h.get? a=fP o->h'.get? a=fP o):gc h' a l i:=let⟨o,b,r⟩:=x;{o,e _ b,r}
def Fp{it l:hB}{i:Nat}{x:gA}{Q:Option gA->gB->Prop}(b:gc s.heap it l (i:Int))(hl:IsTup s.heap l items)(hn:items.size<=iv)(d:items[i]?=fP x)
 (e:∀h' tk,gc h' it l ((i:Int)-1)->ig.SameBut it s.heap h'->Q (fP x) {s with heap:=h',toks:=tk}):hF (hT prog w) A (pyNext (.ref it)) Q E s:=by
 let(o,c,f,hd):=id b;have g:i<items.size:=(Array.getElem?_eq_some_iff.mp d).1
 unfold pyNext;refine ar (wpAny_attempt (wpAny_callSpecial?_slot (name:=Str.ofString (zu 64)) b.typeIs dh
  (wpAny_call_entry dh b.typeIs iu ?_ (jg _))))
 unfold i1.«reversed.__next__»;refine ar (wpAny_of_eq (a:=(gA.ref it,[])) rfl ?_)
 try dsimp only
 refine ar (wpAny_field c hd (x:=.ref l) rfl ?_);refine ar (wpAny_field c hd (x:=rawInt (i:Int)) rfl ?_);show hF _ _ (if(i:Int)<0 then _ else _) _ _ s;rw [if_neg (by lia)];show hF _ _ (specialOf (.ref l) (Str.ofString "__getitem__")>>=_) _ _ s;refine ar (wpAny_specialOf hl.typeIs PyProof.Rows.slot_tuple_getitem.lookup ?_);rw [if_neg (by simp)];refine ar (wpAny_mkInt ?_);refine ar (wpAny_attempt (PyProof.Rows.getItem_tuple (j:=i) hl (by lia) (by rw [sizeLine_eq] at hn;lia) ?_ d ?_))
 .simp! [seqIndex?,show¬((i:Int)<0) from by lia,if_false];rw [if_pos (by rw [zza,zzN,zzN];constructor<;>lia),eF]
 try dsimp only
 refine ar (wpAny_field (s:={s with toks:=s.toks+1}) c hd (x:=rawInt (i:Int)) rfl ?_);show hF _ _ (setField (.ref it) 1 (rawInt ((i:Int)-1))>>=_) _ _ _;refine ar (wpAny_setField c hd (by simp) ?_);refine bT {x,rfl,bT (e _ _ ?_ (et ..))};exact{_,ig.get?_update_self _ c (Obj.isFreed_of_fields (Obj.data_mapFields hd _)),(Obj.cls_mapFields ..).trans f,by rw [Obj.data_mapFields hd];simp}
def Jl{it l:hB}{Q:Option gA->gB->Prop}(f:A.handled=gd)(c:gc s.heap it l (-1))
 (h:∀h',ig.ExtBut it s.heap h'->Q gd {s with heap:=h'}):hF (hT prog w) A (pyNext (.ref it)) Q E s:=by
 let(o,d,p,hd):=id c
 unfold pyNext;refine ar (wpAny_attempt (wpAny_callSpecial?_slot (name:=Str.ofString (zu 64)) c.typeIs dh
  (wpAny_call_entry dh c.typeIs iu ?_ (jg _))))
 unfold i1.«reversed.__next__»;refine ar (wpAny_of_eq (a:=(gA.ref it,[])) rfl ?_)
 try dsimp only
 refine ar (wpAny_field d hd (x:=.ref l) rfl ?_);refine ar (wpAny_field d hd (x:=rawInt (-1)) rfl ?_);show hF _ _ (if(-1:Int)<0 then _ else _) _ _ s;rw [if_pos (by decide)];refine ar (wpAny_rule ?_);refine ar ?_
 wp_delta
 refine ar (wpAny_setField d hd (by simp) ?_);have i:=ig.get?_update_self (Obj.mapFields (·.setIfInBounds 1 (rawInt (-1)))) d (Obj.isFreed_of_fields (Obj.data_mapFields hd _));refine wpAny_setField i (Obj.data_mapFields hd _) (by simp) ?_;refine ar ?_;show hF _ _ (newExc (.type (zu 37)) []>>=_) _ _ _;refine ar ?_;simp! [newExc,newTuple];refine ar (wpAny_newObj_type ?_ (by size_fits));refine ar (m:=firstArgMember _ _) (wpAny_of_eq (a:=gA.none) (by first|rfl|(simp! [firstArgMember];rfl)) ?_);refine wpAny_newObj_type ?_ (by size_fits);simp! [raiseNew];refine ar (wpAny_handled ?_)
 first|rw [show A.in1.handled=gd from f]|rw [f]
 refine ar (bT (wpAny_throw ?_));refine ar (wpAny_isInstance (T:=(zu 37)) (b:=gf) {_,dV _ rfl,rfl} isSubtype_stop ?_);refine bT (h _ ?_);have j:ig.ExtBut it s.heap (s.heap.update it (Obj.mapFields (·.setIfInBounds 1 (rawInt (-1))))):=(et ..).extBut;have k:ig.ExtBut it (s.heap.update it (Obj.mapFields (·.setIfInBounds 1 (rawInt (-1))))) ((s.heap.update it (Obj.mapFields (·.setIfInBounds 1 (rawInt (-1))))).update it (Obj.mapFields (·.setIfInBounds 0 .none))):=(et ..).extBut;exact((show ig.ExtBut it s.heap _ from λb o g e=>k b o g (j b o g e)).push _).push _
def vO{it l:hB}{i:Int}{Q:jW}(a:gc s.heap it l i)(h:Q (.ref it) s):hF (hT prog w) A (pyIter (.ref it)) Q E s:=by refine wpAny_pyIter_slot a.typeIs jk (wpAny_call_entry jk a.typeIs nZ ?_ (pM _));show hF _ _ (ret (.ref it)) _ _ s;exact bT {_,rfl,zu 9,_,a.typeIs,dh.lookup,h}
theorem IsTup.mv{t:hB}(x:IsTup h t items)(e:∀o,h.get? t=fP o->h'.get? t=fP o):IsTup h' t items:=let⟨o,a,r⟩:=x;{o,e _ a,r}
def BN(p:A.handled=gd)(I l:hB)(q:l≠I)(items:Array gA)(hn:items.size<=iv):
 Walks prog w A I [I,l] [I] items.size (λi v=>items[items.size-1-i]?=fP v) (λi h=>i<=items.size/\gc h I l ((items.size:Int)-1-(i:Int))/\IsTup h l items) where
 sub:=λb c=>by simp at c;simp [c]
 frame:=λZ Z Z x hk=>{x.1,x.2.1.at λo e=>hk I (by simp) o e,IsTup.mv x.2.2 λo e=>hk l (by simp) o e}
 item:=λi s Q E r x d=>by
  have e:(items.size:Int)-1-(i:Int)=((items.size-1-i:Nat):Int):=by lia
  have a:=x.2.1;rw [e] at a;have j:items[items.size-1-i]?=fP (items[items.size-1-i]'(by lia)):=ez (by lia);refine Fp a x.2.2 hn j λg t k m=>?_;have u:((items.size-1-i:Nat):Int)-1=(items.size:Int)-1-((i+1:Nat):Int):=by lia
  rw [u] at k;exact d _ g t j {r,k,IsTup.mv x.2.2 λo f=>(m.2 l q).trans f} λb o c f=>m.extBut b o (λh=>c (by simp [h])) f
 done:=λs Q E x d=>by
  have e:(items.size:Int)-1-(items.size:Int)= -1:=by lia
  have a:=x.2.1;rw [e] at a;exact Jl p a λg y=>d g s.toks λb o c f=>y b o (λh=>c (by simp [h])) f
 self:=λZ Z Z Z x d=>vO x.2.1 d
def Fo{I l:hB}{Q:Bool->gB->Prop}(c:gc s.heap I l ((items.size:Int)-1))(hl:IsTup s.heap l items)(hn:items.size<=iv)(h:∀b tk,Q b {s with toks:=tk}):hF (hT prog w) A (i1.List.listLengthHint (.ref I)) Q E s:=by
 let(o,d,g,hd):=id c;unfold i1.List.listLengthHint;refine ar (wpAny_specialOf c.typeIs xH ?_);show hF _ _ (specialOf (gA.ref I) (Str.ofString "__length_hint__")>>=_) _ _ _;refine ar (wpAny_specialOf c.typeIs f6.lookup ?_)
 wp_delta
 refine ar (wpAny_isInstance (T:=(zu 9)) (v:=.ref I) (b:=gf) c.typeIs F.sub_reversed_self ?_);rw [if_neg (by decide)];show hF _ _ (if _ then _ else _) _ _ _;rw [if_neg (by decide+kernel)];refine ar (wpAny_rule ?_);refine ar (wpAny_of_eq (f6.bind _) ?_)
 try dsimp only
 refine ar (wpAny_attempt (wpAny_call_entry f6 c.typeIs nY ?_ (pL _)));unfold i1.«reversed.__length_hint__»;refine ar (wpAny_of_eq (a:=gA.ref I) rfl ?_);refine ar (wpAny_field d hd (x:=.ref l) rfl ?_);rw [if_neg (show¬((gA.ref l==gA.none)=gf) from zzf)];refine ar (len_tuple hl (by rw [sizeLine_eq] at hn;lia) ?_);refine ar (wpAny_of_eq (a:=fP (items.size:Int)) rfl ?_)
 try dsimp only
 refine ar (wpAny_field (s:={s with toks:=s.toks+1+1}) d hd (x:=rawInt ((items.size:Int)-1)) rfl ?_);show hF _ _ (if(items.size:Int)<(items.size:Int)-1+1 then _ else _) _ _ _;rw [if_neg (by lia)];unfold retInt;refine ar (wpAny_mkInt (bT {_,rfl,?_}));show hF _ _ (asInt? (gA.int ((items.size:Int)-1+1) _)>>=_) _ _ _;refine ar (wpAny_of_eq (a:=fP ((items.size:Int)-1+1)) rfl ?_);rw [sizeLine_eq] at hn;have e:i1.List.listFitsIndex ((items.size:Int)-1+1)=gf:=by unfold i1.List.listFitsIndex;rw [zza,zzN,zzN];lia
 have f:i1.List.listTooLong ((items.size:Int)-1+1).toNat=gh:=by unfold i1.List.listTooLong;rw [decide_eq_false_iff_not,sizeLine_eq];lia
 simp! [e,f,Bool.not_true,d4,if_false];rw [if_neg (by lia)];exact bT (h _ _)
def Hi{R:Result->gB->Prop}(y:A.handled=gd){I l:hB}(z:l≠I)(c:gc s.heap I l ((items.size:Int)-1))(hl:IsTup s.heap l items)(S:hB)(p:S≠I)(t:S≠l)(res:gA)(d:Nat)(r:s.heap.get? S=fP (lO #[] d))
 (B:∀h' tk m g,(∀b o,b≠S->b≠I->s.heap.get? b=fP o->h'.get? b=fP o)->h'.get? S=fP (lO m g)->
  ItemsOf (λi v=>items[items.size-1-i]?=fP v) m items.size->R (.ok (.ret res)) {s with heap:=h',toks:=tk}) (hn:items.size<=iv):
 hF (hT prog w) A.in1 (i1.List.listExtendWith (.ref S) (.ref I) res)
  (λfin s'=>match fin with|.done f=>R (.ok f) s'|.again g=>g.quiet=gf/\codeAny (hT prog w) A g R s') (λe s'=>R (.error e) s') s:=by
 have C:S∉[I,l]:=λhm=>by
  rcases ef.mp hm with e|hm
  .exact p e
  .exact t (d6.mp hm)
 have j:∀(h:ig) (c1 tk:Nat),(∀b x,b≠S->s.heap.get? b=fP x->h.get? b=fP x)->h.get? S=fP (lO #[] c1)->codeAny (hT prog w) A (.builtin "list.extend.loop" {[.ref S,.ref I,res],[]}) R {s with heap:=h,toks:=tk}:=λh c1 tk hk D=>
  codeAny_extend_loopS (BN (prog:=prog) (w:=w) (A:=A.in1) y I l z items hn).toS hn _ C _ items.size 0 {s with heap:=h,toks:=tk} _ _ rfl (Nat.zero_le _) {Nat.zero_le _,by simpa using c.at λo e=>hk _ _ (Ne.symm p) e,IsTup.mv hl λo e=>hk _ _ (Ne.symm t) e} D (ItemsOf.nil _) λs' m g hm G H=>by
   rw [Moved.eq_with hm];refine B s'.heap s'.toks m g (λb ob k K e=>hm.heap b ob (λa=>?_) (hk b ob k e)) G H
   rcases ef.mp a with L|a
   .exact k L
   .exact K (d6.mp a)
 unfold i1.List.listExtendWith;refine ar (wpAny_typeOf c.typeIs ?_);have M:i1.List.listSameRef (.ref S) (.ref I)=gh:=by simp [i1.List.listSameRef,p]
 have N:(gA.type (zu 9)==gA.type "list")=gh:=by decide
 have h3:(gA.type (zu 9)==gA.type "tuple")=gh:=by decide
 simp! [M,N,h3,Bool.or_false,d4,if_false];refine ar (vO c ?_);refine ar (wpAny_holding (Fo c hl hn λb tk=>?_));refine wpAny_ite_split (λZ=>?_) (λZ=>bT {plainId_quiet F.plain_extend_loop _,j _ d _ (λb x Z q=>q) r});refine ar (wpAny_rule (ar ?_));show hF _ _ (updateSeq S (·.push .none)>>=λZ=>updateSeq S (·.pop)) _ _ _;refine ar (wpAny_updateSeq (s:={s with toks:=tk}) r rfl ?_);have u:=ig.get?_update_self (Obj.mapSeq (·.push gA.none)) r rfl;refine wpAny_updateSeq (hz:=by seq_fits) u rfl ?_;have O:=ig.get?_update_self (Obj.mapSeq (·.pop)) u rfl;exact bT {plainId_quiet F.plain_extend_loop _,j _ _ _ (λb x k q=>(ig.get?_update_other _ _ (Ne.symm k)).trans ((ig.get?_update_other _ _ (Ne.symm k)).trans q)) O}
def pN{Q:jW}(t:A.handled=gd){I l:hB}(u:l≠I)(d:gc s.heap I l ((items.size:Int)-1))(hl:IsTup s.heap l items)
 (y:∀h' tk g j,(∀b o,b≠I->s.heap.get? b=fP o->h'.get? b=fP o)->
  h'.get? (zz9 s)=fP (lO g j)->ItemsOf (λi v=>items[items.size-1-i]?=fP v) g items.size->Q (.ref (zz9 s)) {s with heap:=h',toks:=tk}) (hn:items.size<=iv):
 hF (hT prog w) A (call (.type "list") [.ref I]) Q E s:=by
 refine callType_codes (Q₁:=λobj a=>obj=.ref (zz9 s)/\a={s with heap:=s.heap.push {cls:=.type "list",data:=.seq #[]}}) F.called_list (F.typeCall_list_1 _) F.entry_list_init
  (code_list_new _ ⟨rfl,rfl⟩) λobj a f=>?_
 let(rfl,rfl):=f;have h:(s.heap.push {cls:=.type "list",data:=.seq #[]}).get? (zz9 s)=fP {cls:=.type "list",data:=.seq #[]}:=dV _ rfl;have q:(zz9 s)≠I:=λe=>let⟨o,k,_⟩:=d;absurd (cP k) (by rw [e];exact Nat.lt_irrefl _);have r:(zz9 s)≠l:=λe=>let⟨o,k,_⟩:=hl;absurd (cP k) (by rw [e];exact Nat.lt_irrefl _);refine{{_,h,rfl},F.args_list_init_2 _ _,?_};show hF _ _ (do let old<-i1.List.listItems (.ref (zz9 s));i1.List.listUpdate (.ref (zz9 s)) (λZ=>#[]);letGo old.toList.reverse;i1.List.listExtendWith (.ref (zz9 s)) (.ref I) .none) _ _ _;refine ar ?_;unfold i1.List.listItems;refine ar (wpAny_seqItems h rfl (bT ?_));show hF _ _ (updateSeq (zz9 s) (λZ=>#[])>>=λZ=>letGo (#[]:Array gA).toList.reverse>>=λZ=>i1.List.listExtendWith (.ref (zz9 s)) (.ref I) .none) _ _ _;refine ar (wpAny_updateSeq h rfl ?_);have c:=ig.get?_update_self (Obj.mapSeq (λZ=>(#[]:Array gA))) h rfl
 have m:∀b o,b≠(zz9 s)->s.heap.get? b=fP o->((s.heap.push {cls:=.type "list",data:=.seq #[]}).update (zz9 s) (Obj.mapSeq (λZ=>(#[]:Array gA)))).get? b=fP o:=
  λb o p e=>(ig.get?_update_other _ _ (Ne.symm p)).trans (aT _ e)
 refine ar (wpAny_letGo ?_);refine Hi (A:=A.in1) (hn:=hn) t u (d.at λo e=>m _ _ (Ne.symm q) e) (IsTup.mv hl λo e=>m _ _ (Ne.symm r) e) _ q r .none _ c λh' tk g j hk z B=>?_;exact{rfl,y h' tk g j (λb o p e=>hk b o (d1 (cP e)) p (m b o (d1 (cP e)) e)) z B}
variable{p1 p2 E5:Pos}
def Bm(L:X.calm=gf)(M:Gl X "list")(hm:X.mg "list"=gd)(N:Gl X (zu 9))(O:X.mg (zu 9)=gd)(h:PE X e te)(he:starEach [e] X.env=(gh,eval e X.env)::starEach [] X.env):
 PE X (.Call (.Name "list" p1) [.Call (.Name (zu 9) p2) [e] [] E5] [] pos) (λj H Q=>te j H λx H1=>∃l vs,x=.ref l/\gH X.K H1 l vs/\∀p,H1 p=gd->Q (.ref p) (upd H1 p (.lst vs.reverse))):=by
 intro P s j H Q I q;refine wpAny_Call_Name_kw (j1 I M hm (u:=.type "list") (by decide+kernel) ?_);refine PyProof.Rows.callWith_type1 ?_ rfl rfl;show hF _ _ (spliced ((gh,eval (.Call (.Name (zu 9) p2) [e] [] E5) X.env)::backTo pos (starEach [] X.env))) _ _ s;refine Calls.spliced_cons ?_;refine wpAny_Call_Name_kw (j1 I N O (u:=.type (zu 9)) (by decide+kernel) ?_);refine PyProof.Rows.callWith_type1 (bU (bZ h dE he E5 P s j H (λxs H1=>RP xs λx=>∃l vs,x=.ref l/\gH X.K H1 l vs/\∀p,H1 p=gd->Q (.ref p) (upd H1 p (.lst vs.reverse))) I q) λus d ⟨xs,H1,g,R,k⟩=>?_) he rfl
 .let(x,rfl,l,vs,rfl,S,k):=IM k;let(u,rfl,T):=vals1 R;cases T;let(f,B,m,U):=g.tuple S;have C:=B.length;have D:f.toArray.size<=sizeLine:=by simp! [a5]<;>lia
  refine kC m D λr=>?_;refine Calls.spliced_nil ?_;let(ol,t,_):=id m;have V:l≠(zz9 d):=λz=>absurd (cP t) (by rw [z];exact Nat.lt_irrefl _)
  refine pN (s:={d with heap:=d.heap.push (Oq l ((f.toArray.size:Int)-1)),toks:=r}) (g.ok.hd L) V {_,dV _ rfl,rfl,rfl} (IsTup.mv m λo z=>aT _ z) (λW Y c Z kp e y=>?_) D;have se:c.toList=f.reverse:=by
   refine List.ext_getElem? λi=>?_;by_cases F:i<f.length
   .rw [List.getElem?_reverse F];have hs:c.size=f.length:=by rw [y.1];simp
    have G:i<c.size:=by lia
    have:=y.2 i c[i] (ez G);rw [Array.getElem?_toList,ez G,<-this];simp
   .rw [List.getElem?_eq_none (by rw [d3,y.1];simpa using F),List.getElem?_eq_none (by rw [List.length_reverse];lia)]
  have rv:Vals vs.reverse c.toList:=by rw [se];exact F3 B
  exact{.ref ((zz9 d)+1),_,g.laid (t':=Y) (a:=(zz9 d)+1) (λb o z=>kp b o (d1 (cP z)) (aT _ z)) (Nat.le_succ _) (show cb X.prog X.w _ W _ (.lst _) from{by rw [List.length_reverse];exact U,c.toList,Z,rv,zx6 e}),by rw [ig.size_push];rfl,k _ (g.aQ.fresh (Nat.le_succ _))}
end
end L2
namespace Ci
open L2
section
variable{Γ:Pg}{W:Wd}{F:aP}{sc:ia}{k:Nat}
def Bs(h:Rep W G p v):∀{ps:List PV} {vs:List V},ah W G ps vs->ah W G (ps++[p]) (vs++[v]):=by
 intro ps
 induction ps with
 |nil=>
  intro vs t;have:=t.length
  cases vs with
  |nil=>exact .cons h .nil|cons _ _=>cases this
 |cons q ps a=>intro vs t;let(u,r,rfl,b,t):=t.bo;exact .cons b (a t)
def oV:∀{ps:List PV} {vs:List V},ah W G ps vs->ah W G ps.reverse vs.reverse:=by
 intro ps
 induction ps with
 |nil=>
  intro vs t;have:=t.length
  cases vs with
  |nil=>exact .nil|cons _ _=>cases this
 |cons q ps a=>intro vs t;let(u,r,rfl,b,t):=t.bo;rw [List.reverse_cons,List.reverse_cons];exact Bs b (a t)
theorem Hv(C:zv4 X)(e:Γ.qt=gh){a:E}{b:hD}{f i j:Pos}(m:gu sc "list"=gf)(hm:Γ.bs.contains "list"=gf)(q:gu sc (zu 9)=gf)(r:Γ.bs.contains (zu 9)=gf)(s:GE X W F a b)(he:starEach [b] X.env=(gh,eval b X.env)::starEach [] X.env):
 GE X W F (.Ec a) (.Call (.Name "list" f) [.Call (.Name (zu 9) i) [b] [] j] [] pos):=
 (Bm (C.calm e) (dz C m) (C.bs _ (eg.mp hm)) (dz C q) (C.bs _ (eg.mp r)) s he).imp λO H Q h=>by
  let(P,G,env,sr,o):=h;rw [aB] at o;refine one sr o λp v u y g t c o1=>?_
  cases p with
  |tup xs=>let(l,z,rfl,d,A):=t.top.tup c.sub;rw [C.K] at d;exact{l,z,rfl,d,λp B=>eE.lst (W:=W) (G:=u) (H:=y) (xs:=xs.reverse) (λw D I L M=>o1 w D I (g.trans L) (.of M)) c.sub (oV A) B}|_=>exact ed o1
def Mh(C:zv4 X){a:E}{A st:hD}{I:Pos}(L:GE X W F a A)(hs:GE X W F (.neg (.cst (.int 1))) st):GE X W F (.rev a) (.Subscript A (.Slice gd gd (fP st) I) pos):=
 (N2 (Gj.or (Gj.or Oo Ol) Om) L hs).imp λB H Q h=>by
  let(M,G,env,sr,o):=h;rw [aB] at o;refine one sr o λp v c D g t O o1=>{M,c,env,O,?_};have e:aB F (.neg (.cst (.int 1))) env=.ok (.int (-1)):=by rw [aB,aB];rfl
  rw [e];intro P G2 d g2 t2;refine{t2.top.int,?_};have f:=t.grow g2
  cases p with
  |str z=>
   by_cases hl:z.length<=bS
   .have o2:Out X W (if z.length<=bS then Res.ok (PV.str (l7 z)) else .bad) B c D _:=o1;rw [if_pos hl] at o2;exact .inr {z,f.top.str,j4 hl,o2 _ G2 d (g.trans g2) (.of .s)}
   .have o2:Out X W (if z.length<=bS then Res.ok (PV.str (l7 z)) else .bad) B c D _:=o1;rw [if_neg hl] at o2;exact o2.elim
  |tup xs=>let(l,i,rfl,b,j):=f.top.tup g2.sub;rw [C.K] at b;exact .inl (.inl {l,i,rfl,b,λp m=>eE.tup (W:=W) (G:=G2) (H:=d) (xs:=xs.reverse) (λw q r u y=>o1 w q r ((g.trans g2).trans u) (.of y)) g2.sub (oV j) m})|lst xs=>let(l,i,rfl,b,j):=f.top.lst g2.sub;exact .inl (.inr {l,i,rfl,ua C.K b,λp m=>eE.lst (W:=W) (G:=G2) (H:=d) (xs:=xs.reverse) (λw q r u y=>o1 w q r ((g.trans g2).trans u) (.of y)) g2.sub (oV j) m})|_=>exact ed o1
end
end Ci
namespace L2
open PySem.Spec PyProof.Rows PySem.W
end L2
namespace Ci
open L2
section
variable{Γ:Pg}{W:Wd}{F:aP}{sc:ia}{k:Nat}
theorem Mc(C:zv4 X){a b:E}{r w:hD}{c L:Pos}(S:GE X W F a r)(hk:GE X W F b w)(T:attributeBase r "get" X.env (eval r X.env)=eval r X.env)(hl:(c.endLine==L.line)=gf)(hs:starEach [w] X.env=(gh,eval w X.env)::starEach [] X.env):
 GE X W F (.get a b) (.Call (.Attribute r "get" c) [w] [] L):=
 (EL (by have:=C.room.un;lia) S hk {T,by rw [hs];rfl,hl,by rw [hs];rfl}).imp λy H Q h=>by
  let(H0,G,env,sr,o):=h;rw [aB] at o;refine one sr o λp v G1 H1 g t M o1=>?_
  cases p with
  |cA i z=>
   let(d,us,rfl,n,hd,l):=t.top.cA M.sub;refine{d,rfl,.inl {_,hd},?_};refine one M o1 λq u G2 j g2 t2 U o2=>?_;let(d',B,e,D,I,O):=(t.grow g2).top.cA U.sub
   cases e;cases K:fz q with
   |none=>have m:Out X W ((Res.of (fz q)).bind _) y G2 j _:=o2;rw [K] at m;exact ed m|some f=>
    have m:Out X W ((Res.of (fz q)).bind _) y G2 j _:=o2;rw [K] at m;have V:=fM K;subst V;obtain rfl:=t2.top.str;refine{_,.inl {_,ki f,I,rfl,rfl},?_}
    .rw [iE f i B];cases A:bJ i z f with
     |some pv=>let(Y,Z,fR):=lK O A;rw [Z];have s:Out X W (Res.ok ((bJ i z f).getD .aN)) y G2 j _:=m;rw [A] at s;exact s Y G2 j (g.trans g2) (.of fR)|none=>
      have:bJ i B f=gd:=by have P:=iX f i B D;have R:=iX f i z (by rw [O.length] at D;exact D);rw [A] at R;rw [<-R] at P;exact Option.isSome_eq_false_iff.mp P |> Option.isNone_iff_eq_none.mp
      rw [this];have s:Out X W (Res.ok ((bJ i z f).getD .aN)) y G2 j _:=m;rw [A] at s;exact s .aN G2 j (g.trans g2) (.of .n)
  |_=>exact ed o1
end
theorem qE{W:Wd}:∀{fs:List (Str×PV)} {vs:List V},fs.lookup f=fP q->ah W G (fs.map (·.2)) vs->∃v,((fs.map (·.1)).zip vs).lookup f=fP v/\Rep W G q v
 |[],_,h,_=>by cases h
 |(g,p)::fs,vs,h,l=>by
  let(v,r,rfl,b,c):=ah.bo (p:=p) (ps:=fs.map (·.2)) l;rw [eH] at h;show∃a,List.lookup f ((g,v)::((fs.map (·.1)).zip r))=fP a/\Rep W G q a
  rw [eH];cases e:f==g with
  |true=>rw [e] at h;cases h;exact⟨v,rfl,b⟩
  |false=>rw [e] at h;exact qE h c
section
variable{Γ:Pg}{W:Wd}{F:aP}{sc:ia}{k:Nat}
def Mb(C:zv4 X){i:Nat}(h:(N[i]?==fP x&&kf sc x&&okN x)=gf)(s:cW f≠dW):GE X W F (.fld i f) (.Attribute (.Name x np) f pos):=by
 refine(NY (Dp C h) rfl).imp λt H Q u=>?_;let(w,G,env,sr,o):=u
 have o:Out X W ((aB F (.var i) env).bind λp=>F (cW f) [p]) t G H λp=>∀v e c,aC W G H e c->Got W w e c (.fld i f) p v->Q v c:=by
  have d:aB F (.var i) env=iL env[i]?:=by unfold aB;rfl
  rw [d];unfold aB at o;exact o
 refine one sr o λp v y A g1 B D o1=>?_;have E:F (cW f) [p]≠.bad:=λz=>by rw [z] at o1;exact o1
 let(n,ob,q,rfl,g,d,I,K,L,M):=C.fld f p s E;rw [K] at o1;have j:=B.rep rfl;simp! [Rep] at j;let(R,b,rfl):=j;rw [g] at b;cases b;let(_,S,m,l):=D.tab.o n ob g;rw [ng d] at m;let(r,O,P):=qE I l;exact{ob.a,ob.C,ob.dx,_,r,rfl,m,L,M,O,o1 r y A g1 (.of P)}
def L9(C:zv4 X){a:E}{p:hD}(g:GE X W F a p)(he:eR a=gf):GE X W F (.con a) p:=by
 refine L2.PE.imp g λi H Q h=>?_;let(j,G,env,sr,o):=h;have o:Out X W ((aB F a env).bind λp=>F dW [p]) i G H λp=>∀v d c,aC W G H d c->Got W j d c (.con a) p v->Q v c:=by unfold aB at o;exact o
 refine one sr o λq v m r g1 s t o1=>?_;have u:F dW [q]≠.bad:=λz=>by rw [z] at o1;exact o1
 let(n,ob,rfl,e,w,y):=C.con q u;rw [y] at o1;have f:=s.rep he;simp! [Rep] at f;let(A,b,rfl):=f;rw [e] at b;cases b;exact o1 (.ref ob.a) m r g1 {.inr (G8 t.tab.o e w),nofun}
def Ma(C:zv4 X):GE X W F .Pc (.Dict [] [] pos):=by
 intro e s c H Q I h;let(f,G,env,sr,o):=h;have o:Out X W (Res.ok (PV.cA [] [])) c G H λp=>∀v d a,aC W G H d a->Got W f d a .Pc p v->Q v a:=by unfold aB at o;exact o
 refine wpAny_mono (oN e s c H (λv a=>∃p,v=.ref p/\H p=gd/\a=upd H p (.dK [])) I λp b=>⟨p,rfl,b,rfl⟩) ?_ λZ Z z=>z
 rintro u m ⟨v,a,i,j,p,rfl,b,rfl⟩
 let(ob,J):=i.rX ak;rw [zR] at J;refine{_,_,J,j,?_};have g:aC W G H (upd G p (.b9 ob (.dK []))) (upd H p (.b9 ob (.dK []))):=.new sr.sub b;refine o (.ref p) _ _ g (.of ?_);simp! [Rep];exact{p,ob,[],rfl,rfl,ak,.nil}
set_option backward.match.sparseCases false
def MA{e:E}{p:hD}(h:GE X W F e p)(he:∀a,isTrue p X.env a=(do let v<-a;standAt p.pos;holding [v] (truthy v))):GT X W F e p:=
 L2.PT.imp (Oc h he) λb H Q c=>KR b H Q c
theorem wR{sc:ia}:∀{a:Es} {ps:List hD},dD Γ N sc a ps=gf->∀env pos,(backTo pos (starEach ps env)).all (λx=>!x.1)=gf
 |.nil,[],_,_,_=>rfl|.cons e a,p::ps,h,env,pos=>by replace h:=aj h;rw [notStar h.1];show(gf&&(backTo pos (starEach ps env)).all (λx=>!x.1))=gf;rw [wR h.2];rfl|.nil,_::_,h,_,_=>aO h|.cons _ _,[],h,_,_=>aO h
theorem xh{sc:ia}:∀{a:Es} {ps:List hD},dD Γ N sc a ps=gf->ps.length=fN a
 |.nil,[],_=>rfl|.cons e a,p::ps,h=>by replace h:=aj h;rw [cC,xh h.2];rfl|.nil,_::_,h=>aO h|.cons _ _,[],h=>aO h
structure Xi(X:Cx)(W:Wd)(F:aP)(e:E)(p:hD):Prop where
 ge:GE X W F e p
 gt:gx e=gf->GT X W F e p
 gw:gx e=gf->∀op vs pos,p=.BoolOp op vs pos->GW X W F e p
def bb{e:E}{p:hD}(h:GE X W F e p)(he:∀a,isTrue p X.env a=(do let v<-a;standAt p.pos;holding [v] (truthy v)))(c:∀b vs pos,p≠.BoolOp b vs pos):Xi X W F e p:=
 {h,λZ=>MA h he,λZ b vs pos e=>absurd e (c b vs pos)}
def isTrue_plain{p:hD}{env:Env}(h:(match p with|.UnaryOp .Not _ _=>gh|.BoolOp .. =>gh|.IfExp .. =>gh|.Compare .. =>gh|_=>gf)=gf):∀b,isTrue p env b=(do let v<-b;standAt p.pos;holding [v] (truthy v)):=by
 intro b;cases p with
 |UnaryOp op a pos=>cases op<;>first|rfl|(exact aO h)
 |BoolOp _ _ _=>exact aO h|IfExp _ _ _ _=>exact aO h|Compare _ _ _ _=>exact aO h|_=>rfl
def gJ{env:Env}(h:fQ po=gf):attributeBase po m env (eval po env)=eval po env:=by
 cases po<;>first|rfl|(exact aO h)
def Ca{env:Env}(h:Kv po=gf):attributeBase po m env (eval po env)=eval po env:=by
 cases po with
 |Call f as b p=>
  cases as with
  |nil=>exact aO h|cons a as=>cases f<;>rfl
 |_=>rfl
def Lq{c:Const}{a:Nat}(h:Qq q c=gf):GE X W F (.cst q) (.Constant c a pos):=by
 cases q with
 |aN=>cases Nv h;exact iA N0 λG=>.n
 |bl b=>let(x,e,h):=af h;cases Lf e;cases eq_of_beq h;exact iA RY λG=>.b
 |int i=>let(x,e,h):=af h;cases DV e;cases eq_of_beq h;exact iA EO λG=>.i
 |str z=>let(x,e,h):=af h;cases FF e;cases eq_of_beq h;exact iA EV λG=>.s
 |_=>exact aO h
def Ee{b:Type}{r:Res b}{c:b->Prop} [∀a,Decidable (c a)]{f:b->Res (List PV)}(e:(r.bind λa=>if c a then(f a).bind λys=>.ok (.lst ys) else .bad)=.ok q):∃ys,q=.lst ys:=by
 let(d,_,e):=Res.aM e;split at e
 .let(ys,_,e):=Res.aM e;cases e;exact{_,rfl}
 .cases e
def yw{b:Nat}{c:List Nat}{d:Tg}{a:E}(env:Sl)(q:PV)(e:aB F (.comp b c d it a) env=.ok q):∃ys,q=.lst ys:=by rw [aB] at e;exact Ee e
def qu{b:Nat}{d:List Nat}{f:Tg}{c a:E}(env:Sl)(q:PV)(e:aB F (.eQ b d f it c a) env=.ok q):∃ys,q=.lst ys:=by rw [aB] at e;exact Ee e
mutual
theorem bh:∀(e:E) {Γ:Pg} {N:List Str} {sc:ia} {X:Cx} (C:zv4 X) (p:hD),aK Γ N sc e p=gf->Xi X W F e p
 |.var i,Γ,N,sc,X,C,p,h=>by let(x,_,rfl,A):=RI h;clear h;have h:=A;clear A;exact bb (Dp C h) (λ_=>rfl) nofun|.JH i,Γ,N,sc,X,C,p,h=>by let(x,_,rfl,A):=RI h;clear h;have h:=A;clear A;exact bb (Mj C h) (λ_=>rfl) nofun|.cst q,Γ,N,sc,X,C,p,h=>by let(c,_,_,rfl,A):=XG h;clear h;have h:=A;clear A;refine bb (Lq h) (λ_=>rfl) nofun|.glob g q,Γ,N,sc,X,C,p,h=>by let(x,_,rfl,A):=RI h;clear h;have h:=A;clear A;exact bb (Hu C h) (λ_=>rfl) nofun|.call f as,Γ,N,sc,X,C,p,h=>by
  let(g,args,_,_,rfl,A):=yt h;clear h;have h:=A;clear A;replace h:=aj h
  try simp! [zza,zzy] at h
  let(((((rfl,d),j),h3),D),y):=h;have ga:=gZ as C args y
  cases as with
  |nil=>
   cases args with
   |nil=>exact bb (Dk C d j h3) (λ_=>rfl) nofun|cons _ _=>exact aO y
  |cons e es=>
   cases args with
   |nil=>exact aO y|cons q qs=>have L:=aj y;exact bb (Ht C d j h3 D ga (notStar L.1 _ _) (cQ L.2 _ _)) (λ_=>rfl) nofun
 |.blt b as,Γ,N,sc,X,C,p,h=>by
  let(S,h):=qS h;let(g,args,_,_,rfl,A):=yt h;clear h;have h:=A;clear A;replace h:=aj h
  try simp! [zza,zzy] at h
  let((((rfl,d),j),h3),y):=h;have ga:=gZ as C args y
  cases as with
  |nil=>exact aO h3|cons e es=>
   cases args with
   |nil=>exact aO y|cons q qs=>have L:=aj y;exact bb (L7 C S b d j ga (notStar L.1 _ _) (cQ L.2 _ _)) (λ_=>rfl) nofun
 |.ty t a,Γ,N,sc,X,C,p,h=>by
  let(g,args,_,_,rfl,A):=yt h;clear h;have h:=A;clear A;let(H,M,u,j):=JM h;let(tn,_,B,h3):=RI j;dsimp only at u B;subst u B;clear h j;have h:=h3;clear h3;replace h:=aj h
  try simp! [zza,zzy] at h
  let((((((rfl,d),j),rfl),h3),D),y):=h;exact bb (QC C d j h3 D (bh a C H y).ge (notStar y)) (λ_=>rfl) nofun
 |.yQ c a,Γ,N,sc,X,C,p,h=>by
  let(g,args,_,_,rfl,A):=yt h;clear h;have h:=A;clear A;let(H,M,u,j):=JM h;let(tn,_,B,h3):=RI j;dsimp only at u B;subst u B;clear h j;have h:=h3;clear h3;replace h:=aj h
  try simp! [zza] at h
  let(((((((P,d),j),O),h3),D),y),L):=h;cases zzy.mp P;cases zzy.mp O;exact bb (Md C d j h3 D y (bh a C H L).ge (notStar L) C.NA) (λ_=>rfl) nofun
 |.fg m o as,Γ,N,sc,X,C,p,h=>by
  let((f,args,kws,K),e,d):=af h;have z:=ie e;let((po,Z,apos),O,j):=af d;have u:=ic O;have h3:=aj j;have B:=j6 h3.1;dsimp only at z u B;subst z u B;clear h d j;have h:=aj h3.2;clear h3;simp! [zza] at h;let((((((P,d),j),h3),D),y),L):=h;cases zzy.mp P;have ga:=gZ as C args y
  cases as with
  |nil=>exact aO d|cons e es=>
   cases args with
   |nil=>exact aO y|cons q qs=>have V:=aj y;have hl:=xh y;refine bb (Mf C (bh o C po D).ge ga (gJ L) ?_ h3 (notStar V.1 _ _) (cQ V.2 _ _)) (λ_=>rfl) nofun;rw [wR y];have MD:=zzY j;refine Bool.and_eq_true_iff.mpr {rfl,zzh ?_};rw [hl];exact MD
 |.bin o a b,Γ,N,sc,X,C,p,h=>by let(q,e,d):=af h;let(_,rfl):=Ld e;clear h;have h:=aj d;have I:=aj h.1;rw [<-zzY I.1];exact bb (L6 C (bh a C _ I.2).ge (bh b C _ h.2).ge) (λ_=>rfl) nofun|.cmp o a b,Γ,N,sc,X,C,p,h=>by let(H,ops,cs,_,rfl,d):=Tn h;let(op,u,j):=fe d;let(M,B,h3):=fe j;dsimp only at u B;subst u B;clear h d j;have h:=h3;clear h3;replace h:=aj h;have I:=aj h.1;cases zzY I.1;have d:=I.2;have j:=h.2;exact{L8 C (bh a C _ d).ge (bh b C _ j).ge (sE j _),λ_=>My C (bh a C _ d).ge (bh b C _ j).ge (sE j _),(λ_ _ _ _ z=>nomatch z)}
 |.ch o1 o2 a b c,Γ,N,sc,X,C,p,h=>by
  let(H,ops,cs,_,rfl,d):=Tn h;let(op1,op2,u,j):=JM d;let(M,pc,B,h3):=JM j;dsimp only at u B;subst u B;clear h d j;have h:=h3;clear h3;replace h:=aj h
  try simp! [zza,zzN] at h
  let((((rfl,rfl),d),j),h3):=h;have hm:lastMarks [mS o1,mS o2] [M,pc]=gh:=sE h3 _;exact{QB C (bh a C _ d).ge (bh b C _ j).ge (bh c C _ h3).ge hm,λ_=>QE C (bh a C _ d).ge (bh b C _ j).ge (bh c C _ h3).ge hm,(λ_ _ _ _ z=>nomatch z)}
 |.not a,Γ,N,sc,X,C,p,h=>by let(o,H,_,rfl,d):=WW h;clear h;have h:=aj d;cases DT h.1;have s:=bh a C H h.2;exact{Mg s.ge,λz=>Mz (s.gt z),(λ_ _ _ _ z=>nomatch z)}
 |.fld i f,Γ,N,sc,X,C,p,h=>by let((o,m,ap),P,d):=af h;let(x,O,j):=af d;let(np,z):=e9 O;dsimp only at z j;subst z;have e3:=ic P;dsimp only at e3;subst e3;rw [zza,zza,zzy,zzN] at j;let((rfl,h3),D):=j;exact bb (Mb C h3 D) (λ_=>rfl) nofun|.con a,Γ,N,sc,X,C,p,h=>by
  have d:=aj h;exact{L9 C (bh a C p d.2).ge (by cases a<;>first|rfl|exact aO d.1),nofun,nofun}
 |.Pc,Γ,N,sc,X,C,p,h=>by let(K,rfl):=yN h;exact bb (Ma C) (λ_=>rfl) nofun|.neg a,Γ,N,sc,X,C,p,h=>by let(o,H,_,rfl,d):=WW h;clear h;have h:=aj d;cases u6 h.1;exact bb (Dl (bh a C H h.2).ge) (λ_=>rfl) nofun
 |.and a b,Γ,N,sc,X,C,p,h=>by
  let(o,vs,K,rfl,d):=UB h;let((H,M),O,j):=af d;clear h d;have h:=aj j;clear j
  try simp! [zza] at h
  let(((I,he),d),j):=h;cases DQ I;have sa:=bh a C H d;have Q:=bh b C M j
  rcases wG O with z|⟨q,c,r,z,u⟩
  .dsimp only at z;subst z;have gw:gx (.and a b)=gf->GW X W F (.and a b) (.BoolOp .And [H,M] K):=λz=>by
    have z:=aj z;exact Dy (sa.gt z.1) (pw_and1 (Q.gt z.2))
   exact{Dj he sa.ge (ES Q.ge),λz=>(gw z).pt,λz _ _ _ _=>gw z}
  .dsimp only at z u;subst z u;have gw:gx (.and a b)=gf->GW X W F (.and a b) (.BoolOp .And (H::q::c::r) K):=λz=>by
    have z:=aj z;exact Dy (sa.gt z.1) (Q.gw z.2 _ _ _ rfl)
   exact{Dj he sa.ge Q.ge,λz=>(gw z).pt,λz _ _ _ _=>gw z}
 |.or a b,Γ,N,sc,X,C,p,h=>by
  let(o,vs,K,rfl,d):=UB h;let((H,M),O,j):=af d;clear h d;have h:=aj j;clear j
  try simp! [zza] at h
  let(((I,he),d),j):=h;cases yP I;have sa:=bh a C H d;have Q:=bh b C M j
  rcases wG O with z|⟨q,c,r,z,u⟩
  .dsimp only at z;subst z;have gw:gx (.or a b)=gf->GW X W F (.or a b) (.BoolOp .Or [H,M] K):=λz=>by
    have z:=aj z;exact Kj (sa.gt z.1) (pw_or1 (Q.gt z.2))
   exact{Kh he sa.ge (ES Q.ge),λz=>(gw z).pt,λz _ _ _ _=>gw z}
  .dsimp only at z u;subst z u;have gw:gx (.or a b)=gf->GW X W F (.or a b) (.BoolOp .Or (H::q::c::r) K):=λz=>by
    have z:=aj z;exact Kj (sa.gt z.1) (Q.gw z.2 _ _ _ rfl)
   exact{Kh he sa.ge Q.ge,λz=>(gw z).pt,λz _ _ _ _=>gw z}
 |.ite c a b,Γ,N,sc,X,C,p,h=>by
  let(q,e,d):=af h;let(_,rfl):=DM e;clear h;have h:=aj d;clear d
  try simp! [zza] at h
  let(((((I,d),j),h3),D),y):=h;exact{Me d j ((bh c C _ h3).gt I) (bh a C _ D).ge (bh b C _ y).ge,nofun,(λ_ _ _ _ z=>nomatch z)}
 |.tup as,Γ,N,sc,X,C,p,h=>by let(ps,e,d):=af h;let(_,_,rfl):=tW e;clear h;have h:=aj d;have I:=aj h.1;exact bb (Ml I.1 (zzY I.2) (gZ as C _ h.2)) (λ_=>rfl) nofun|.lst as,Γ,N,sc,X,C,p,h=>by let(ps,e,d):=af h;let(_,rfl):=xj e;clear h;have h:=aj d;have I:=aj h.1;exact bb ((Dr I.1 (zzY I.2) (gZ as C _ h.2)).ge lst_is) (λ_=>rfl) nofun|.sub a b,Γ,N,sc,X,C,p,h=>by let(H,M,_,rfl,A):=SD h;clear h;have h:=A;clear A;replace h:=aj h;exact bb (Mi C (bh a C _ h.1).ge (bh b C _ h.2).ge (vG h.2)) (λ_=>rfl) nofun|.rev a,Γ,N,sc,X,C,p,h=>by let(H,ps,_,rfl,d):=SD h;let(pl,ph,pst,_,u,j):=Yx d;let(st,B,h3):=af j;let(uo,ue,_,R,D):=WW h3;let(cc,_,_,z5,y):=XG D;clear h d j h3 D;have h:=aj y;clear y;simp! [zza] at h;let((((y1,y2),y3),y4),y5):=h;have w1:=Nz y1;have w2:=Nz y2;have w3:=u6 y3;have w4:=DV (eq_of_beq y4);dsimp only at u B R z5 w1 w2 w3 w4;subst u B R z5 w1 w2 w3 w4;exact bb (Mh C (bh a C H y5).ge (Dl (iA EO λG=>.i))) (λ_=>rfl) nofun|.get a k,Γ,N,sc,X,C,p,h=>by let((f,as,kws,K),e3,h3):=af h;have B:=ie e3;let((po,Z,apos),e4,D):=af h3;have R:=ic e4;let(pk,z5,y):=fe D;have g:=aj y;simp! [zza] at g;let(((((n1,P),L),V),h8),A):=g;have z6:=j6 n1;cases zzy.mp P;dsimp only at B R z5 z6;subst B R z5 z6;exact bb (Mc C (bh a C po h8).ge (bh k C pk A).ge (Ca V) L (notStar A _ _)) (λ_=>rfl) nofun
 |.Ec a,Γ,N,sc,X,C,p,h=>by let(S,h):=qS h;let(g,args,_,_,rfl,A):=yt h;clear h;have h:=A;clear A;let(z,u,j):=fe h;let(g2,a2,_,_,B,h3):=yt j;let(H,R,D):=fe h3;dsimp only at u B R;subst u B R;clear h j h3;have h:=aj D;clear D;simp! [zza] at h;let((((((P,d),j),O),h3),D),y):=h;cases zzy.mp P;cases zzy.mp O;exact bb (Hv C S d j h3 D (bh a C H y).ge (notStar y _ _)) (λ_=>rfl) nofun
 |.slice a lo hi,Γ,N,sc,X,C,p,h=>by let(H,ps,_,rfl,d):=SD h;let(pl,ph,pst,_,u,j):=Yx d;clear h d;have h:=aj j;simp! [zza] at h;have w:=Nz h.1.1.1;dsimp only at u w;subst u w;exact bb (Dm C (bh a C _ h.1.1.2).ge (Su lo C pl h.1.2) (Su hi C ph h.2)) (λ_=>rfl) nofun|.comp kk ba tg it elt,Γ,N,sc,X,C,p,h=>by let(S,h):=qS h;let(eO,gens,T,_,rfl,d):=Ry h;let((bR,fh,ifs,asy),u,j):=fe d;have h3:=aj j;have B:=j6 h3.1;dsimp only at u B;subst u B;clear h d j;have h:=aj h3.2;clear h3;simp! [zza] at h;let((((((d,j),h3),D),y),L),U):=h;have U:=zzY U;subst U;exact bb ((yD C S (il d) j h3 (By it C bR fh D) (iV D _) y λY CY=>(bh elt CY eO L).ge).ge yw) (λ_=>rfl) nofun|.eQ kk ba tg it c elt,Γ,N,sc,X,C,p,h=>by let(S,h):=qS h;let(eO,gens,T,_,rfl,d):=Ry h;let((bR,fh,ifs,asy),u,j):=fe d;let(pc,B,h3):=fe j;dsimp only at u B;subst u B;clear h d j;have h:=aj h3;clear h3;simp! [zza] at h;let((((((((I,d),j),h3),D),y),L),V),U):=h;have U:=zzY U;subst U;exact bb ((qG C S (il d) j h3 (By it C bR fh D) (iV D _) y (λY CY=>(bh c CY pc L).gt I) λY CY=>(bh elt CY eO V).ge).ge qu) (λ_=>rfl) nofun
theorem gZ:∀(a:Es) {Γ:Pg} {N:List Str} {sc:ia} {X:Cx} (C:zv4 X) (ps:List hD),dD Γ N sc a ps=gf->GA X W F a ps
 |.nil,Γ,N,sc,X,C,ps,h=>by
  cases ps with
  |nil=>exact L5|cons _ _=>exact aO h
 |.cons e a,Γ,N,sc,X,C,ps,h=>by
  cases ps with
  |nil=>exact aO h|cons p ps=>replace h:=aj h;exact Hq (bh e C p h.1).ge (gZ a C ps h.2) (notStar h.1 _ _)
theorem Su:∀(o:Oe) {Γ:Pg} {N:List Str} {sc:ia} {X:Cx} (C:zv4 X) (p:Option hD),Lm Γ N sc o p=gf->PO X p (FL X W F o)
 |.no,Γ,N,sc,X,C,p,h=>by
  cases p with
  |none=>exact Hx|some _=>exact aO h
 |.some e,Γ,N,sc,X,C,p,h=>by
  cases p with
  |none=>exact aO h|some p=>exact Hy (bh e C p h).ge
theorem By:∀(it:I) {Γ:Pg} {N:List Str} {sc:ia} {X:Cx} (C:zv4 X) (b p:hD),uA Γ N sc b it p=gf->GI X W F b it p
 |.seq e,Γ,N,sc,X,C,b,p,h=>by exact Mn C (bh e C p h).ge|.sY e,Γ,N,sc,X,C,b,p,h=>by let(g,args,_,_,rfl,d):=yt h;clear h;have h:=d;clear d;let(q,o,c):=fe h;dsimp only at o;subst o;clear h;have h:=aj c;clear c;simp! [zza] at h;let(((f,i),c),h3):=h;cases zzy.mp f;exact Mm C i c (notStar h3) (bh e C q h3).ge
 |.zip as,Γ,N,sc,X,C,b,p,h=>by
  let(g,args,_,_,rfl,d):=yt h;clear h;replace h:=aj d;clear d;simp! [zza] at h;let((((((s,f),i),c),h3),j),m):=h;cases zzy.mp f;cases b<;>first|(exact aO s)|skip
  rw [er,zzy,zzy] at j;cases as with
  |nil=>exact absurd j (by show¬(0=2\/0=3);lia)|cons a as=>
   cases args with
   |nil=>exact aO m|cons q qs=>have r:=aj (show(aK Γ N sc a q&&dD Γ N sc as qs)=gf from m);exact Mo C i c h3 j (gZ (.cons a as) C (q::qs) m) (notStar r.1 _ _) (cQ r.2 _ _)
end
set_option backward.match.sparseCases true
end
end Ci
namespace L2
open PySem.Spec PyProof.Rows
section
variable{scope:ia}{xs ys:List Str}{is:List Nat}
theorem xD{c:Nat}{a:Str}{d B:Pos}{f t iter:hD}{E:TI}{g:TG}(j:X.N.Nodup)(k:X.N[c]?=fP a)(p:Loc X.env.scope a)(M:X.calm=gf)(S:fS X scope xs ys is)(O:PI X t iter E)
 (P:∀fp s1 H1 C,PG (bP X (xs++ys) scope (bV X.env ys) fp s1 H1 C) t g) (he:∀fp s1 H1 C,PE (bP X (xs++ys) scope (bV X.env ys) fp s1 H1 C) f te)
 (R:swapsWith (.ListComp f [{t,iter,[],0}] scope pos) (fP (.Name a d)) B.line X.env=pure gf:=by rfl)
 (hs:∀x,foldedSetIterable iter X.env x=pure x:=by intro _;rfl) (r:X.fn a=gf\/X.env.scope.names.lookup a=fP .local:=by first|exact .inl rfl|exact .inr rfl|assumption):
 PS X (.Assign [.Name a d] (.ListComp f [{t,iter,[],0}] scope pos) B) (JE (zL E xs.length g te is) (iz c)):=by
 intro T s U H i I h;rw [exec_Assign_Name_used _ _ _ _ R];refine ar (wpAny_standAt (ar ?_));show hF _ X.A (do let _<-comprehension (.ListComp f [⟨t,iter,[],0⟩] scope pos) scope X.env _ (newList []) gh (eval iter X.env) (fP (assign (.Name a d) X.env))) _ _ s;refine ar (wpAny_mono (iT (QQ:=λ_ F=>∃u G,Inv X T u G F/\i.nx u G) (Q:=λv K=>iz c v U K i.nx) M S O P (λ_ _ _ _=>zr) he hs I h λD C s4 K m V W ⟨Y,g1,_,g3,L,Z⟩ q=>?_) (λ_ F hq=>bT (bT hq)) λ_ _ e=>e)
 refine wpAny_assign_Name (md V j k p (show RelV (.ref D) (.ref D) from rfl) (λs6 I6 ⟨a6,w,y⟩=>?_) r);have V9:C≠a6:=by
  rcases y with z|z
  .rw [z];exact g1
  .exact λz2=>L _ _ z z2.symm
 exact{m,W.sameBut w V9,λh' AS=>{_,_,I6.turned (t':=s6.toks) (it:=C) (λb o hb e=>AS.extBut b o hb e) Y g1 g3 L Z,q}}
end
end L2
namespace Ci
open L2
section
variable{W:Wd}{G0:Hp}
def Own.KU(h:Own W H0 G H p v):∃a o,v=.ref a/\H a=fP o/\G a=gd/\H0 a=gd/\((∀b,az G b->b a=fP o->Rep W b p (.ref a))\/∃f,o=.dK f/\∀ob b,az G b->b a=fP (.b9 ob (.dK f))->Rep W b p (.ref a)):=by
 cases p with
 |lst xs=>let(a,j,rfl,c,d,h3,l):=h;exact{a,_,rfl,c,d,h3,.inl λb s e=>.l (.inl (.inl e)) (ah.same s xs l)}|cA k g=>let(a,i,rfl,n,c,d,h3,l):=h;exact{a,_,rfl,c,d,h3,.inr {_,rfl,λob b s e=>by simp! [Rep];exact{a,ob,i,rfl,n,e,ah.same s g l}}}|aN=>exact h.elim|bl _=>exact h.elim|int _=>exact h.elim|str _=>exact h.elim|tup _=>exact h.elim|exc _=>exact h.elim|obj _=>exact h.elim
theorem Own.Ew(h:Own W H0 G H p (.ref a))(ps:Array gA):H a≠fP (.gI ps):=λz=>by
 cases p with
 |lst xs=>let(b,d,e,c,_):=h;cases e;rw [z] at c;cases c
 |cA f qs=>let(b,g,e,_,c,_):=h;cases e;rw [z] at c;cases c
 |_=>exact h.elim
theorem LL(t:bz W G H0)(h:H0 a=gd)(n:Nat)(o:Ob)(e:W.ob[n]?=fP o):o.a≠a:=λz=>by let(_,c,b,_):=t.o n o e;rw [z,h] at b;cases b
theorem vZ{ob:HO}{d:Hp}(t:kn W G H)(g:G a=gd)(n:∀ps,H a≠fP (.gI ps))(h:∀b,b≠a->d b=H b):kn W (upd G a ob) d:=λP q m=>by
 let(i,ps,e,j,k):=t P q m;have f:P≠a:=λz=>by subst z;exact n _ e
 refine{by rw [ai f];exact i,ps,by rw [h P f];exact e,j,λc o y=>?_};let(p,oc,r,s,u,w,A,B):=k c o y;exact{p,oc,r,s,u,bt g _ _ w,A,B}
theorem zN{ob:HO}{c:Hp}(t:bz W G H)(d:G a=gd)(n:∀ps,H a≠fP (.gI ps))(nf:∀(n:Nat) (o:Ob),W.ob[n]?=fP o->o.a≠a)(f:∀b,b≠a->c b=H b):bz W (upd G a ob) c:={vZ t.t d n f,λi o m=>by let(h,j,e,l):=t.o i o m;have g:o.a≠a:=nf i o m;exact{by rw [ai g];exact h,j,by rw [f _ g];exact e,ah.same (bt d) _ l}}
def Own.f7{d g:Hp}(h:Own W H0 G H p v)(i:v≠.ref a)(j:az G d)(k:∀b,b≠a->d b=G b)(m:∀b,b≠a->g b=H b):Own W H0 d g p v:=by
 cases p with
 |lst xs=>let(b,o,rfl,e,f,h3,l):=h;have c:b≠a:=λz=>i (by rw [z]);exact{b,o,rfl,by rw [m b c];exact e,by rw [k b c];exact f,h3,ah.same j xs l}|cA s q=>let(b,r,rfl,n,e,f,h3,l):=h;have c:b≠a:=λz=>i (by rw [z]);exact{b,r,rfl,n,by rw [m b c];exact e,by rw [k b c];exact f,h3,ah.same j q l}|aN=>exact h.elim|bl _=>exact h.elim|int _=>exact h.elim|str _=>exact h.elim|tup _=>exact h.elim|exc _=>exact h.elim|obj _=>exact h.elim
def getElem?_modify{a:Type}(l:List a)(i j:Nat)(f:a->a):(l.modify i f)[j]?=if i=j then(l[j]?).map f else l[j]?:=by rw [List.getElem?_modify];split<;>simp_all
def uU(r:SR W H0 env σ G H)(g:aC W G0 H0 G H){i:Nat}{a:hB}{ob f:HO}{m:Hp}(C:env[i]?=fP (.own p))(F:σ[i]?=fP (fP (.ref a)))(I:Own W H0 G H p (.ref a))(Z:H a=fP ob)(y:G a=gd)(o:H0 a=gd)
 (N:∀D,az G D->D a=fP f->Rep W D p (.ref a)) (O:m a=fP f) (w:∀b,b≠a->m b=H b):SR W H0 (env.modify i rY) σ (upd G a f) m/\aC W G0 H0 (upd G a f) m:=by
 have A:az G (upd G a f):=bt y
 have sub:az (upd G a f) m:=λb u e=>by
  by_cases d:b=a
  .subst d;rw [ak] at e;cases e;exact O
  .rw [ai d] at e;rw [w b d];exact r.sub _ _ e
 have base:∀{B:Hp},B a=gd->jc B H->jc B m:=λP k b u e=>by
  have d:b≠a:=λz=>by rw [z,P] at e;cases e
  rw [w b d];exact k b u e
 refine{{by rw [List.length_modify];exact r.len,sub,base o r.base,λj s e=>?_,λj l q Q c K L R S=>?_,zN r.tab y I.Ew (LL r.jf o) w,zN r.jf y (λ_ z=>by rw [o] at z;cases z) (LL r.jf o) λ_ _=>rfl},{g.g.trans A,base o g.h,sub,λb h3 T U=>?_,λt=>vZ (g.tb t) y I.Ew w}}
 .rw [getElem?_modify] at e;split at e
  .rename_i z;subst z;rw [C] at e;cases e;exact{_,F,_,rfl,N _ A ak}
  .rename_i z;let(o2,M,k2):=r.slot j s e
   refine{o2,M,?_};cases s with
   |no=>exact trivial|val q=>let(E,rfl,V):=k2;exact{E,rfl,Rep.same A q V}|own q=>let(E,rfl,X):=k2;refine{E,rfl,X.f7 (a:=a) (λY=>?_) A (λb d=>ai d) w};subst Y;exact z (r.apart i j p q a C e F M)
 .rw [getElem?_modify] at K L;have ne:∀{j:Nat} {q:PV},(if i=j then(env[j]?).map rY else env[j]?)=fP (.own q)->i≠j/\env[j]?=fP (.own q):=λ{j q} e=>by
   split at e
   .rename_i z;subst z;rw [C] at e;cases e
   .rename_i z;exact⟨z,e⟩
  exact r.apart j l q Q c (ne K).2 (ne L).2 R S
 .have d:b≠a:=λz=>h3 (by rw [z];exact o);rw [ai d];exact g.own b h3 T U
def n9(r:SR W H0 env σ G H)(g:aC W G0 H0 G H)(i:Nat):(∃c,SR W H0 (env.modify i rY) σ c H/\aC W G0 H0 c H)\/∃a d,H a=fP (.dK d)/\∀o,∃c,SR W H0 (env.modify i rY) σ c (upd H a (.b9 o (.dK d)))/\aC W G0 H0 c (upd H a (.b9 o (.dK d))):=by
 have same:(∀p,env[i]?≠fP (.own p))->env.modify i rY=env:=λh=>by
  refine List.ext_getElem? λj=>?_;rw [getElem?_modify];split
  .rename_i e;subst e;cases q:env[i]? with
   |none=>rfl|some s=>
    cases s with
    |own p=>exact absurd q (h p)|no=>rfl|val p=>rfl
  .rfl
 by_cases u:∃p,env[i]?=fP (.own p)
 .let(p,k):=u;let(o,w,v,rfl,y):=r.slot i _ k;have A:=y;obtain⟨a,ob,rfl,f,B,C,m|⟨d,rfl,m⟩⟩:=y.KU
  .let(t,k2):=uU r g k w A f B C m f λZ Z=>rfl;exact .inl {_,t,k2}
  .refine .inr {a,d,f,λo=>?_};let(t,k2):=uU r g k w A f B C (m o) ak λb D=>ai D;exact{_,t,k2}
 .exact .inl {G,by rw [same λp z=>u ⟨p,z⟩];exact r,g}
def Em(r:SR W H0 env σ G H)(g:aC W G0 H0 G H){i:Nat}{p':PV}{a:hB}{ob:HO}(k:env[i]?=fP (.own p))(hs:σ[i]?=fP (fP (.ref a)))(E:G a=gd)(w:H0 a=gd)(hn:Own W H0 G (upd H a ob) p' (.ref a)):
 SR W H0 (env.set i (.own p')) σ G (upd H a ob)/\aC W G0 H0 G (upd H a ob):=by
 have N:i<env.length:=(cj.mp k).1;have Pw:Own W H0 G H p (.ref a):=by let(o2,d,y,rfl,A):=r.slot i _ k;rw [hs] at d;cases d;exact A
 have B:∀C,H a≠fP (.gI C):=by let(o2,d,y,rfl,A):=r.slot i _ k;rw [hs] at d;cases d;exact A.Ew
 have F:∀{I:Hp},kn W I H->kn W I (upd H a ob):=λt=>t.same (az.refl _) (λ_ _ _ h=>h) λP C e=>by rw [ai (λz=>by subst z;exact B C e)];exact e
 have tab:bz W G H->bz W G (upd H a ob):=λt=>{F t.t,λn o m=>by let(O,Q,e,l):=t.o n o m;exact{O,Q,by rw [ai (LL r.jf w n o m)];exact e,l}};refine{{by rw [List.length_set];exact r.len,λb u e=>?_,λb u e=>?_,λj s e=>?_,λj l q q' c R S T U=>?_,tab r.tab,r.jf},{g.g,λb u e=>?_,λb u e=>?_,g.own,λt=>F (g.tb t)}}
 .rw [ai (λz=>by subst z;rw [E] at e;cases e)];exact r.sub _ _ e
 .rw [ai (λz=>by subst z;rw [w] at e;cases e)];exact r.base _ _ e
 .by_cases f:i=j
  .subst f;rw [ei N] at e;cases e;exact{_,hs,_,rfl,hn}
  .rw [c6 f] at e;let(o2,d,K):=r.slot j s e
   refine{o2,d,?_};cases s with
   |no=>exact trivial|val q=>exact K|own q=>let(y,rfl,V):=K;refine{y,rfl,V.f7 (a:=a) (λX=>?_) (az.refl _) (λb L=>rfl) λb L=>ai L};subst X;exact f (r.apart i j p q a k e hs d)
 .have M:∀{j:Nat} {q:PV},(env.set i (.own p'))[j]?=fP (.own q)->∃D,env[j]?=fP (.own D):=λ{j q} e=>by
   by_cases f:i=j
   .subst f;exact⟨p,k⟩
   .rw [c6 f] at e;exact⟨q,e⟩
  let(D,Y):=M R;let(Z,f2):=M S;exact r.apart j l D Z c Y f2 T U
 .rw [ai (λz=>by subst z;rw [w] at e;cases e)];exact g.h _ _ e
 .rw [ai (λz=>by subst z;rw [E] at e;cases e)];exact g.sub _ _ e
def xw(r:SR W H0 env σ G H)(g:aC W G0 H0 G H){i:Nat}{ob:HO}(t:i<env.length)(w:H a=gd)(hn:Own W H0 G (upd H a ob) p (.ref a)):
 SR W H0 (env.set i (.own p)) (σ.set i (fP (.ref a))) G (upd H a ob)/\aC W G0 H0 G (upd H a ob):=by
 have y:aC W G H G (upd H a ob):=.V7 r.sub w;have m:=r.grow y;have o:∀{j:Nat} {q:PV},env[j]?=fP (.own q)->σ[j]?=fP (fP (.ref a))->False:=λ{j q} f h=>by let(o2,u,D,rfl,A):=r.slot j _ f;rw [h] at u;cases u;let(E,F,b,z,_):=A.KU;cases b;rw [w] at z;cases z
 refine{{by rw [List.length_set,List.length_set];exact r.len,m.sub,m.base,λj s e=>?_,λj l q B c f h b k=>?_,m.tab,m.jf},g.trans y}
 .by_cases d:i=j
  .subst d;rw [ei t] at e;cases e;exact{_,ei (by rw [<-r.len];exact t),_,rfl,hn}
  .rw [c6 d] at e;let(o2,u,C):=m.slot j s e;exact{o2,by rw [c6 d];exact u,C}
 .by_cases d:i=j
  .by_cases hl:i=l
   .exact d.symm.trans hl
   .exfalso;subst d;rw [ei (by rw [<-r.len];exact t)] at b;rw [c6 hl] at h k;cases b;exact o h k
  .by_cases hl:i=l
   .exfalso;subst hl;rw [ei (by rw [<-r.len];exact t)] at k;rw [c6 d] at f b;cases k;exact o f b
   .rw [c6 d] at f b;rw [c6 hl] at h k;exact r.apart j l q B c f h b k
end
abbrev kR:E->Bool
 |.lst _=>gf|.comp _ _ _ _ _=>gf|.eQ _ _ _ _ _ _=>gf|_=>gh
abbrev d7:hD->Bool
 |.ListComp .. =>gh|.SetComp .. =>gh|.DictComp .. =>gh|_=>gf
abbrev RJ:hD->Bool
 |.Tuple a _ _=>decide (3<a.length)|_=>gf
abbrev RA(sc:ia):hD->Bool
 |.Name x _=>sc.names.lookup x==fP .local|_=>gh
abbrev SV(sc:ia)(t p:hD):Bool:=RJ p||(FU t).any λts=>ts.any λe=>!RA sc e
abbrev WD(sc:ia)(x:Str)(a:Pos):hD->Bool
 |.ListComp _ _ s p=>sc.names.lookup x==fP .local&&a.line==p.line&&!(s.names.any λ(n,k)=>n==x&&(k==.local||k==.cell))
 |_=>gh
abbrev Ku(ts:List hD):Option Str:=(eN ts).bind j5
abbrev Yk(e:hD):Option (Str×Str×List hD):=(Cg e).bind λq=>(GP q.1).bind λr=>(j5 r.1).bind λx=>if(q.2.2.1.isEmpty&&r.2.2.endLine==q.2.2.2.line)=gf then fP (x,r.2.1,q.2.1) else gd
abbrev Yw(ts:List hD):Option (Str×hD):=(eN ts).bind λt=>(KN t).bind λq=>(j5 q.1).bind λx=>fP (x,q.2)
abbrev Yu(o:Option hD):Option (Str×Str):=o.bind λe=>(Cg e).bind λq=>(j5 q.1).bind λx=>(eN q.2.1).bind λa=>(Qm a).bind λc=>(pI c).bind λz=>if q.2.2.1.isEmpty=gf then fP (x,z) else gd
def oI{ts:List hD}(h:Ku ts=fP x):∃a,ts=[.Name x a]:=by let(t,b,c):=wC h;let(p,rfl):=e9 c;exact{p,i6 b}
def Nl{p:hD}{args:List hD}(h:Yk p=fP (x,m,args)):∃np b d,p=.Call (.Attribute (.Name x np) m b) args [] d/\(b.endLine==d.line)=gf:=by let((f,a,k,r),j,h):=wC h;let((o,s,ap),q,h):=wC h;let(y,h3,h):=wC h;let(c,h):=if1 h;cases h;rw [zza] at c;let(t,e):=e9 h3;have g:=ic q;have i:=List.isEmpty_iff.1 c.1;dsimp only at g e i;subst e g i;exact{_,_,_,ie j,c.2}
def Ox{ts:List hD}{c:hD}(h:Yw ts=fP (x,c)):∃np sp,ts=[.Subscript (.Name x np) c sp]:=by let(t,e,h):=wC h;let((a,b),f,h):=wC h;let(y,h3,h):=wC h;cases h;let(i,d):=e9 h3;let(j,g):=FI f;dsimp only at d;subst d g;exact{_,_,i6 e}
def Ot{o:Option hD}(h:Yu o=fP (x,z)):∃np j m b,o=fP (.Call (.Name x np) [.Constant (.str z) j m] [] b):=by let(e,p,h):=wC h;let((f,a,k,b),q,h):=wC h;let(y,r,h):=wC h;let(t,h3,h):=wC h;let(c,s,h):=wC h;let(w,u,h):=wC h;let(A,h):=if1 h;cases h;let(D,d):=e9 r;let(E,F,B):=Cp s;have g:=i6 h3;have C:=FF u;have i:=List.isEmpty_iff.1 A;dsimp only at d g i;subst d C B g i;exact{_,_,_,_,p.trans (congrArg fP (ie q))}
abbrev IZ:List hD->Option (Str×Pos×Str×Pos)
 |[.Tuple [.Name x a,.Name y py] _ _]=>fP (x,a,y,py)|_=>gd
def zi{ts:List hD}{q:Str×Pos×Str×Pos}(h:IZ ts=fP q):∃a pt,ts=[.Tuple [.Name q.1 q.2.1,.Name q.2.2.1 q.2.2.2] a pt]:=by
 unfold IZ at h;split at h
 .cases h;exact{_,_,rfl}
 .cases h
abbrev isStar:hD->Bool
 |.Starred .. =>gf|_=>gh
abbrev EJ(a b:hD):Bool:=!isStar a&&!isStar b&&!(foldedForSure 8 a&&foldedForSure 8 b)&&!(constantsAlone 8 a&&constantsAlone 8 b)
mutual
noncomputable def fU(Γ:Pg)(N:List Str)(sc:ia):S->ix->Bool
 |.expr e,.Expr p _=>d7 p&&aK Γ N sc e p|.set i e,.Assign ts p _=>(Ku ts).any λx=>N[i]?==fP x&&gz sc x&&eR e&&aK Γ N sc e p|.own i e,.Assign ts p _=>(Ku ts).any λx=>N[i]?==fP x&&gz sc x&&kR e&&aK Γ N sc e p|.Gz f e,.Assign ts p _=>(eN ts).any λd=>isTup d&&eT N sc (λZ=>gf) f d&&d7 p&&SV sc d p&&eR e&&aK Γ N sc e p|.app i e,.Expr v _=>(Yk v).any λc=>N[i]?==fP c.1&&kf sc c.1&&okN c.1&&c.2.1==("append":Str)&&eR e&&(eN c.2.2).any λp=>aK Γ N sc e p|.put i k e,.Assign ts p _=>(Yw ts).any λc=>N[i]?==fP c.1&&kf sc c.1&&okN c.1&&eR e&&aK Γ N sc k c.2&&aK Γ N sc e p|.ret e,.Return (fP p) _=>eR e&&aK Γ N sc e p|.ite c a b,.If p o g _=>gx c&&aK Γ N sc c p&&eJ Γ N sc a o&&eJ Γ N sc b g|.hJ f it b,.For d s g h _=>h.isEmpty&&eT N sc (λZ=>gf) f d&&Ay it&&uA Γ N sc d it s&&eJ Γ N sc b g|.raise c m,.Raise ex fr _=>fr.isNone&&(Yu ex).any λq=>c==q.1&&m==q.2&&Γ.rs.contains c&&gu sc c&&okN c|.par i j as,.Assign ts (.Tuple [a,b] _ _) _=>(IZ ts).any λq=>N[i]?==fP q.1&&N[j]?==fP q.2.2.1&&decide (i≠j)&&q.1 !=q.2.2.1&&q.2.2.2.line==q.2.1.line&&sc.names.lookup q.1==fP .local&&sc.names.lookup q.2.2.1==fP .local&&EJ a b&&g9 as&&dD Γ N sc as [a,b]|.vC i e,.Assign ts v _=>(Ku ts).any λx=>(wa v).any λq=>(eN q.2).any λr=>q.1==("dict":Str)&&gu sc q.1&&Γ.bs.contains q.1&&N[i]?==fP x&&gz sc x&&aK Γ N sc e r|.lV i,.Assign ts (.Dict [] [] _) _=>(Ku ts).any λx=>N[i]?==fP x&&gz sc x|_,_=>gh
noncomputable def eJ(Γ:Pg)(N:List Str)(sc:ia):Ss->List ix->Bool
 |.nil,[]=>gf|.cons (.b9 _) ss,ps=>eJ Γ N sc ss ps|.cons s ss,p::ps=>fU Γ N sc s p&&eJ Γ N sc ss ps|_,_=>gh
end
section
variable{Γ:Pg}{W:Wd}{F:aP}{sc:ia}{k:Nat}{E:XK}
def SR.go{a:St}(r:SR W H0 env a G H):aC W G H0 G H:={az.refl _,r.base,r.sub,λZ Z Z h=>h,λZ=>r.tab.t}
def aC.then{c G2 d:Hp}(a:aC W G H0 c H1)(b:aC W c H0 G2 d):aC W G H0 G2 d:={a.g.trans b.g,b.h,b.sub,λx e h3 f=>b.own x e h3 (a.own x e h3 f),λt=>b.tb (t.same a.g a.own λZ Z h=>h)}
def SR.on{c:St}{a:Hp}(r:SR W H0 env c G H)(g:aC W G H a H1):aC W G H0 a H1:={g.g,r.base.trans g.h,g.sub,λx b h3 d=>g.own x (λz=>b (r.base.free z)) (r.base.ji b h3) d,λZ=>g.tb r.tab.t}
def Dn(W:Wd)(H0 G:Hp)(D:Ends):Fl->Prop
 |.nx env=>∀c b a,SR W H0 env c b a->aC W G H0 b a->D.nx c a|.bk env=>∀c b a,SR W H0 env c b a->aC W G H0 b a->D.bk c a|.ct env=>∀c b a,SR W H0 env c b a->aC W G H0 b a->D.ct c a|.rt p=>∀v b a,Rep W b p v->aC W G H0 b a->D.rt v a
def cV(W:Wd)(H0 G:Hp)(E:XK)(r:Res Fl)(D:Ends):Prop:=match r with
 |.ok f=>Dn W H0 G D f|.exc c=>∀a b d,XE W c G H0 a b d->E a b d|.bad=>False
def Dn.on{e:Hp}{D:Ends}{f:Fl}(h:Dn W H0 G D f)(g:aC W G H0 e H1):Dn W H0 e D f:=by
 cases f with
 |nx env=>exact λd a b r c=>h d a b r (g.then c)|bk env=>exact λd a b r c=>h d a b r (g.then c)|ct env=>exact λd a b r c=>h d a b r (g.then c)|rt p=>exact λv a b r c=>h v a b r (g.then c)
def cV.on{b:Hp}{D:Ends}{r:Res Fl}(h:cV W H0 G E r D)(g:aC W G H0 b H1):cV W H0 b E r D:=by
 cases r with
 |ok f=>exact Dn.on h g|exc c=>intro d e i x;let(C,a,j,m,o,p,q,g2):=x;exact h d e i {C,a,j,m,o,p,q,g.then g2}|bad=>exact h
abbrev tS(W:Wd)(F:aP)(H0:Hp)(E:XK)(s:S):TS:=λD a H=>∃G env,SR W H0 env a G H/\cV W H0 G E (dH F s env) D
abbrev YM(W:Wd)(F:aP)(H0:Hp)(E:XK)(a:Ss):TS:=λD b H=>∃G env,SR W H0 env b G H/\cV W H0 G E (bM F a env) D
noncomputable abbrev GS(X:Cx)(W:Wd)(F:aP)(H0:Hp)(E:XK)(s:S)(p:ix):Prop:=PS X p (tS W F H0 E s)
noncomputable abbrev Gi(X:Cx)(W:Wd)(F:aP)(H0:Hp)(E:XK)(s:Ss)(p:List ix):Prop:=qg X p (YM W F H0 E s)
def _root_.L2.PS.imp{p:ix}{t t':TS}(h:PS X p t)(i:∀D a H,t' D a H->t D a H):PS X p t':=λb s a H D I c=>h b s a H D I (i D a H c)
def _root_.L2.qg.imp{p:List ix}{t t':TS}(h:qg X p t)(i:∀D a H,t' D a H->t D a H):qg X p t':=λb s a H D I c=>h b s a H D I (i D a H c)
structure fi(Γ:Pg)(F:aP)(W:Wd)(N:List Str)(sc:ia)(k:Nat)(E:XK)(X:Cx):Prop where
 C:zv4 X
 fn:∀x,X.fn x=gf
 own:PassesOwn (hT X.prog X.w) X.A X.env X.xe
 pass:Passes (dF X.prog X.w) X E
 kind:sc.kind=.function
 OL:X.stack=X.env::X.outer
 frame:X.env.frame=fP X.env.locals
 xs:∀c,Γ.rs.contains c=gf->c∈W.xs
 rm:∀c,Γ.rs.contains c=gf->∃C,X.mg c=fP (.ref C)
 rz:Γ.qt=gh->∀(c z:Str) (j:Nat) (np zp cp pos:Pos),Γ.rs.contains c=gf->gu sc c=gf->okN c=gf->PS X (.Raise (fP (.Call (.Name c np) [.Constant (.str z) j zp] [] cp)) gd pos) (λ_ _ H=>∀C e,X.mg c=fP (.ref C)->H e=gd->E (.ref C) (fP e) H)
 Ph:Γ.cs.contains (zu 8)=gf->∀c D,c∈W.xs->X.mg c=fP (.ref D)->∀T,X.mg (zu 8)=fP (.ref T)->PySem.W.exmOne X.K (.ref D) (.ref T)=fP gf
theorem Ji(S:zv1 X){j:St}{m:Hp}(g:aC W m H0 G H)(h:∀d o f,XE W c m H0 d o f->E d o f):um X W j c G H:=λp M q r e s I g1 x=>S.pass p j q r e s I (GK.imp x λd a f y=>h d a f (by let(C,u,w,A,B,D,K,g2):=y;have b:=g1.trans g2;exact{C,u,w,A,B,D,K,g.g.trans b.g,g.h.trans b.h,b.sub,λx i h3 L=>b.own x (λz=>i (g.h.free z)) (g.h.ji i h3) (g.own x i h3 L),λt=>b.tb (g.tb t)}))
def cV.bind{b:Type}(S:zv1 X){r:Res b}{f:b->Res Fl}{D:Ends}{d:St}(sr:SR W H0 env d G H)(h:cV W H0 G E (r.bind f) D):Out X W r d G H λa=>cV W H0 G E (f a) D:=by
 cases r with
 |ok a=>exact h|exc c=>exact Ji S sr.go h|bad=>exact h
def sI(S:zv1 X){b:St}{e:Ci.E}{f:PV->Res Fl}{D:Ends}(sr:SR W H0 env b G H)(o:cV W H0 G E ((aB F e env).bind f) D)
 (h:∀p v a H1,aC W G H a H1->Got W H0 a H1 e p v->SR W H0 env b a H1->cV W H0 a E (f p) D->Q v H1):tE X W F e b H Q:=
 {H0,G,env,sr,(o.bind S sr).imp λp c v a H1 g1 t=>h p v a H1 g1 t (sr.grow g1) (c.on (sr.on g1))}
def RO(S:zv1 X){d:St}{e:Ci.E}{f:Bool->Res Fl}{D:Ends}{Q:Bool->Hp->Prop}(sr:SR W H0 env d G H)(o:cV W H0 G E ((aB F e env).bind λp=>wy p f) D)
 (h:∀b c H1,aC W G H c H1->SR W H0 env d c H1->cV W H0 c E (f b) D->Q b H1):tT X W F e d H Q:=by
 refine{H0,G,env,sr,(o.bind S sr).imp λp a=>?_}
 cases p with
 |bl b=>exact{b,rfl,λc H1 g1=>h b c H1 g1 (sr.grow g1) (cV.on a (sr.on g1))}|aN=>exact ed a|int _=>exact ed a|str _=>exact ed a|tup _=>exact ed a|lst _=>exact ed a|exc _=>exact ed a|obj _=>exact ed a|cA _ _=>exact ed a
def RN(S:zv1 X){d:St}{e:Ci.E}{f:PV->Res Fl}{D:Ends}(hl:∀env q,aB F e env=.ok q->∃xs,q=.lst xs)(sr:SR W H0 env d G H)(o:cV W H0 G E ((aB F e env).bind f) D)
 (h:∀xs a vs b H1,aC W G H b H1->H1 a=gd->ah W b xs vs->SR W H0 env d b H1->cV W H0 b E (f (.lst xs)) D->Q (.ref a) (upd H1 a (.lst vs))):tF X W F e d H Q:=by
 refine{H0,G,env,sr,?_};have o2:=o.bind S sr
 cases r:aB F e env with
 |bad=>rw [r] at o2;exact o2|exc c=>rw [r] at o2;exact o2|ok q=>rw [r] at o2;let(xs,rfl):=hl env q r;exact{xs,rfl,λa vs i j g m l=>h xs a vs i j g m l (sr.grow g) (cV.on o2 (sr.on g))}
def gS{p:hD}{t:Option hD}{l:Nat}{env:Env}(h:d7 p=gf):swapsWith p t l env=pure gh:=by
 cases p<;>first|rfl|(exact aO h)
def nt{a:hD}{gens:List Comprehension}{s:ia}{p:Pos}{b:Pos}{l:Nat}(ee:X.env.scope=sc)(hk:sc.kind=.function):swapsWith (.ListComp a gens s p) (fP (.Name x b)) l X.env=pure (WD sc x b (.ListComp a gens s p)):=by
 have c:X.env.blockKind=.function:=by unfold Env.blockKind;rw [ee,hk];rfl
 show(pure (X.env.blockKind==.function&&X.env.kindOf x==fP .local&&b.line==p.line&&!(s.names.any λ(n,k)=>n==x&&(k==.local||k==.cell))):Sem Bool)=_;rw [c];show(pure (gf&&X.env.scope.names.lookup x==fP .local&&_&&_):Sem Bool)=_;rw [ee];rfl
theorem HF(S:zv1 X){e:Ci.E}{p:hD}(he:GE X W F e p)(hn:d7 p=gf):GS X W F H0 E (.expr e) (.Expr p pos):=
 L2.PS.imp (sO he (gS hn)) λD b H h=>by let(G,env,sr,o):=h;rw [dH] at o;exact sI S sr o λq v c d g t a o1=>o1 b c d a a.go
theorem Mt(S:zv1 X){e:Ci.E}{p:hD}(a:eR e=gf)(he:GE X W F e p):GS X W F H0 E (.ret e) (.Return (fP p) pos):=
 L2.PS.imp (sP he) λD f H h=>by let(G,env,sr,o):=h;rw [dH] at o;exact sI S sr o λq v b c g t d o1=>o1 v b c (t.rep a) d.go
theorem Dv(S:zv1 X)(f:Γ.qt=gh){a b:Pos}(d:Γ.rs.contains c=gf)(g:gu sc c=gf)(h3:okN c=gf):GS X W F H0 E (.raise c m) (.Raise (fP (.Call (.Name c np) [.Constant (.str m) j a] [] b)) gd pos):=
 L2.PS.imp (S.rz f c m j np a b pos d g h3) λD i H h C e hC p=>by let(G,env,sr,o):=h;rw [dH] at o;exact o _ _ _ {C,e,G,rfl,rfl,S.xs c d,by rw [S.C.mg];exact hC,sr.go}
def fk(S:zv1 X){i:Nat}(h:N[i]?=fP x)(hl:gz sc x=gf):X.N.Nodup/\X.N[i]?=fP x/\Loc X.env.scope x:=by refine{by rw [S.C.hN];exact S.C.nd,by rw [S.C.hN];exact h,Ea S.C.ee hl}
def Mu(S:zv1 X){i:Nat}{e:Ci.E}{p:hD}{a:Pos}(h:N[i]?=fP x)(hl:gz sc x=gf)(c:eR e=gf)(he:GE X W F e p)(hs:swapsWith p (fP (.Name x a)) pos.line X.env=pure gh):GS X W F H0 E (.set i e) (.Assign [.Name x a] p pos):=by let(d,a2,f):=fk S h hl;refine L2.PS.imp (oQ d a2 f he hs (.inl (S.fn x))) λD r H h=>?_;let(G,env,sr,o):=h;rw [dH] at o;exact sI S sr o λq v j m g t b o1=>o1 _ j m (b.set i (t.rep c)) b.go
abbrev PC(X:Cx)(W:Wd)(F:aP)(i:Nat)(e:Ci.E):TS:=λD a H=>tF X W F e a H λv b=>D.nx (a.set i (fP v)) b
def SI{e:Ci.E}(hl:∀env q,aB F e env=.ok q->∃xs,q=.lst xs)(b:St)(H:Hp)(Q:VK)(h:tE X W F e b H Q):tF X W F e b H Q:=by
 let(H0,G,env,sr,o):=h
 refine{H0,G,env,sr,?_};cases r:aB F e env with
 |bad=>rw [r] at o;exact o|exc c=>rw [r] at o;exact o|ok q=>rw [r] at o;let(xs,rfl):=hl env q r;exact{xs,rfl,λa f i j g d l=>o _ _ _ (g.trans (.new g.sub d)) (.of (.l (.inl (.inl ak)) (ah.same (bt (g.sub.free d)) xs l)))}
theorem HI(S:zv1 X){i:Nat}{e:Ci.E}{p:ix}(hl:∀env q,aB F e env=.ok q->∃xs,q=.lst xs)(b:eR e=gf)(h:PS X p (PC X W F i e)):GS X W F H0 E (.set i e) p:=
 L2.PS.imp h λD c H d=>by let(G,env,sr,o):=d;rw [dH] at o;refine SI hl c H _ (sI S sr o λq v f j g t a o1=>?_);exact o1 _ f j (a.set i (t.rep b)) a.go
def HH(S:zv1 X){i:Nat}{e:Ci.E}{p:ix}(m:N[i]?=fP x)(hl:∀env q,aB F e env=.ok q->∃xs,q=.lst xs)(h:PS X p (PC X W F i e)):GS X W F H0 E (.own i e) p:=by
 intro r s d H D I t;have u:i<d.length:=by rw [I.len,S.C.hN];exact(cj.mp m).1
 refine h r s d H D I ?_;let(G,env,sr,o):=t;rw [dH] at o;refine RN S hl sr o λxs a f j w g c l b o1=>?_;have y:Own W H0 j (upd w a (.lst f)) (.lst xs) (.ref a):={a,f,rfl,ak,b.sub.free c,b.base.free c,l};let(z,g2):=xw b b.go (i:=i) (by rw [b.len];exact u) c y;exact o1 _ j _ z g2
def sN{i:Nat}{e:Ci.E}{p:hD}{a:Pos}(S:zv1 X)(h:N[i]?=fP x)(hl:gz sc x=gf)(he:GF X W F e p)(hs:swapsWith p (fP (.Name x a)) pos.line X.env=pure gh):PS X (.Assign [.Name x a] p pos) (PC X W F i e):=by let(b,a2,c):=fk S h hl;exact oQ b a2 c he hs (.inl (S.fn x))
def B9(S:zv1 X)(r:Γ.qt=gh){i:Nat}{t u:Pos}(w:N[i]?=fP x)(y:gz sc x=gf){m:List Nat}{d:Tg}{b:Ci.E}{c o:hD}{a:ia}{pos:Pos}(h:kl N sc a j m (aF c))(B:ke j d=gf)(G:eR b=gf)(L:GI X W F c it e)(AN:∀x,foldedSetIterable e X.env x=pure x)
 (M:eT (aF c++freeOf a) (cJ a sc) (k7 a) d c=gf) (he:∀Y,eW Γ.vw F W (aF c++freeOf a) (cJ a sc) k Y->GE Y W F b o):PS X (.Assign [.Name x t] (.ListComp o [{c,e,[],0}] a pos) u) (PC X W F i (.comp j m d it b)):=by
 let(P,a2,R):=fk S w y
 cases O:WD sc x t (.ListComp o [⟨c,e,[],0⟩] a pos) with
 |false=>exact sN S w y (yD S.C r h B G L AN M he) (by rw [nt S.C.ee S.kind,O])|true=>
  intro T s f H D I U;have V:(freeOf a).Nodup:=(List.nodup_append.mp h.nd).2.1;have rd:=yx (N:=N) S.C.K B G h.slots V f H _ U
  have:=xD (g:=gT X.K d) (te:=tN W F b) (xs:=aF c) (ys:=freeOf a) (is:=m) (pos:=pos) P a2 R (S.C.calm r) (nQ S.C.hN S.C.ee I.ok h) L
   (λfp p q A=>vF (fn:=k7 a) (X:=bP X (aF c++freeOf a) a (bV X.env (freeOf a)) fp p q A) rfl h.nd (fA S.C.ee) rfl (λZ z=>z) M)
   (λfp p q A=>L2.PE.imp (he _ (fu S.C h fp p q A)) λf H Q z=>zM f H Q z) (by rw [nt (l:=u.line) S.C.ee S.kind,O]) AN (.inl (S.fn x)) T s f H D I
  rw [h.len] at this;exact this rd
def wz(S:zv1 X)(u:Γ.qt=gh){i:Nat}{w y:Pos}(B:N[i]?=fP x)(G:gz sc x=gf){p:Nat}{q:List Nat}{m:Tg}{c d:Ci.E}{b o r t:hD}{a:ia}{pos:Pos}(h:kl N sc a p q (aF b))(L:ke p m=gf)(M:eR d=gf)(O:GI X W F b it o)(AN:∀x,foldedSetIterable o X.env x=pure x)
 (P:eT (aF b++freeOf a) (cJ a sc) (k7 a) m b=gf) (R:∀Y,eW Γ.vw F W (aF b++freeOf a) (cJ a sc) k Y->GT Y W F c r) (he:∀Y,eW Γ.vw F W (aF b++freeOf a) (cJ a sc) k Y->GE Y W F d t):PS X (.Assign [.Name x w] (.ListComp t [{b,o,[r],0}] a pos) y) (PC X W F i (.eQ p q m it c d)):=by
 let(U,a2,V):=fk S B G
 cases T:WD sc x w (.ListComp t [⟨b,o,[r],0⟩] a pos) with
 |false=>exact sN S B G (qG S.C u h L M O AN P R he) (by rw [nt S.C.ee S.kind,T])|true=>
  intro Z s e H D I hq;have pX:(freeOf a).Nodup:=(List.nodup_append.mp h.nd).2.1;have rd:=qw (N:=N) S.C.K L M h.slots pX e H _ hq
  have:=sQ (g:=gT X.K m) (tt:=TQ W F c) (te:=tN W F d) (xs:=aF b) (ys:=freeOf a) (is:=q) (pos:=pos) U a2 V (S.C.calm u) (nQ S.C.hN S.C.ee I.ok h) O
   (λfp f j A=>vF (fn:=k7 a) (X:=bP X (aF b++freeOf a) a (bV X.env (freeOf a)) fp f j A) rfl h.nd (fA S.C.ee) rfl (λ_ z=>z) P)
   (λfp f j A=>L2.PT.imp (R _ (fu S.C h fp f j A)) λe H Q z=>FK e H Q z)
   (λfp f j A=>L2.PE.imp (he _ (fu S.C h fp f j A)) λe H Q z=>zM e H Q z) (by rw [nt (l:=y.line) S.C.ee S.kind,T]) AN (.inl (S.fn x)) Z s e H D I
  rw [h.len] at this;exact this rd
def l4{a:Tg}(c:Str):Tg.put a p env≠.exc c:=by unfold Tg.put;split<;>exact nofun
def ON{ts vs:List hD}{k1 k2:Nat}{d e:Pos}{env:Env}(h:3<vs.length):swappedStores [.Tuple ts k1 d] (.Tuple vs k2 e) env=pure gd:=by
 have c:(!(ts.length==2||ts.length==3)||vs.length !=ts.length||env.blockKind !=.function)=gf:=by
  by_cases f:ts.length=vs.length
  .have a:(ts.length==2)=gh:=beq_eq_false_iff_ne.mpr (by lia);have b:(ts.length==3)=gh:=beq_eq_false_iff_ne.mpr (by lia);rw [a,b];rfl
  .have a:(vs.length !=ts.length)=gf:=bne_iff_ne.mpr λz=>f z.symm;rw [a,Bool.or_true,Bool.true_or]
 unfold swappedStores;simp! [pure_bind];rw [if_pos c]
def JD{ts vs:List hD}{k1 k2:Nat}{a b:Pos}{env:Env}(h:(ts.any λe=>!RA env.scope e)=gf):swappedStores [.Tuple ts k1 a] (.Tuple vs k2 b) env=pure gd:=by
 let(e,c,d):=d8.1 h;unfold swappedStores;simp! [pure_bind];split
 .rfl
 .split
  .rfl
  .rw [if_pos];refine Bool.or_eq_true_iff.mpr (.inl (bne_iff_ne.mpr λz=>?_));have:=List.filterMap_length_eq_length.1 z e c
   cases e with
   |Name x p=>
    have q:(env.kindOf x==fP .local)=gh:=by
     have f:(!(env.scope.names.lookup x==fP .local))=gf:=d
     rwa [Bool.not_eq_true'] at f
    simp! [q,Bool.false_and,d4,if_false] at this;cases this
   |_=>cases this
def Mv(S:zv1 X)(s:Γ.qt=gh){d:Tg}{e:Ci.E}{a p:hD}(i:isTup a=gf)(u:eT N sc (λZ=>gf) d a=gf)(hn:d7 p=gf)(b:SV sc a p=gf)(w:eR e=gf)(he:GE X W F e p):GS X W F H0 E (.Gz d e) (.Assign [a] p pos):=by
 have y:swappedStores [a] p X.env=pure gd:=by
  cases a<;>first|(exact aO i)|skip
  cases p<;>first|rfl|skip
  rcases Bool.or_eq_true_iff.mp b with b|b
  .exact ON (zzY b)
  .exact JD (by rw [S.C.ee];exact b)
 have z:(assignEach [a] X.env).map (·.2)=[assign a X.env]:=by
  cases a<;>first|rfl|(exact aO i)
 refine L2.PS.imp (E8 he (vF (fn:=λZ=>gf) S.C.hN S.C.nd S.C.ee (S.C.calm s) (λx Z=>S.fn x) u) (gS hn) y z) λD L H h=>?_;let(G,env,sr,o):=h;rw [dH] at o;refine sI S sr o λq v A B g t j o1=>?_
 cases r:d.put q env with
 |bad=>rw [r] at o1;exact o1.elim|exc c=>exact absurd r (l4 c)|ok m=>rw [r] at o1;exact lW S.C.K r j (t.rep w) λf I=>o1 f A B I j.go
theorem Du(S:zv1 X){c:Ci.E}{a b:Ss}{p:hD}{d e:List ix}(j:GT X W F c p)(m:Gi X W F H0 E a d)(q:Gi X W F H0 E b e):GS X W F H0 E (.ite c a b) (.If p d e pos):=
 L2.PS.imp (KC j m q) λD r H h=>by
  let(G,env,sr,o):=h;rw [dH] at o;refine RO S sr o λt f s g i o1=>?_
  cases t with
  |true=>rw [if_pos rfl] at o1⊢;exact⟨f,env,i,o1⟩|false=>rw [if_neg zzf] at o1⊢;exact⟨f,env,i,o1⟩
def Mr(S:zv1 X)(wc:Γ.qt=gh){M:Tg}{b:Ss}{V Y:hD}{pb:List ix}(u0:eT N sc (λ_=>gf) M V=gf)(Z:Ay it=gf)(hi:GI X W F V it Y)(AN:∀x,foldedSetIterable Y X.env x=pure x)(hb:Gi X W F H0 E b pb):GS X W F H0 E (.hJ M it b) (.For V Y pb [] pos):=
 L2.PS.imp (E9 S.own (S.C.calm wc) hi (vF (fn:=λ_=>gf) S.C.hN S.C.nd S.C.ee (S.C.calm wc) (λx _=>S.fn x) u0) hb AN) λD σ H h=>by
  let(G,env,sr,o):=h;rw [dH] at o;refine{H0,G,env,sr,(o.bind S sr).imp λe iZ J G1 H1 g1 gi=>?_};have b9:=gi.b9 Z;generalize hf:(λ(x:PV) (env:Sl)=>(M.put x env).bind λa=>bM F b a)=f at iZ;have bH:=sr.grow g1;refine{λi m w O=>i<=e.length/\m=e.length-i/\∃B a,SR W H0 a w B O/\aC W G1 H0 B O/\cV W H0 B E (forL f (e.drop i) a) D,{_,Nat.zero_le _,rfl,G1,env,bH,bH.go,by rw [List.drop_zero];exact cV.on iZ (sr.on g1)},?_}
  rintro i m w O ⟨DF,hm,B,a,j,g',t⟩
  let(ist,igo):=b9 i B O g'.g (.of (g'.g.trans j.sub)) j.sub;by_cases s:i=e.length
  .refine .inl {ist s,?_};rw [s,List.drop_length] at t;exact t w B O j j.go
  .have T:i<e.length:=by lia
   let(DE,P):=igo e[i] (zzg T);refine .inr {DE,λy H2=>i+1<=e.length/\∃G2 L,SR W H0 L y G2 H2/\aC W G1 H0 G2 H2/\cV W H0 G2 E (forL f (e.drop (i+1)) L) D,λy H2 h2=>{e.length-(i+1),by lia,h2.1,rfl,h2.2},λx jq hy=>?_};let(U,qF,rx):=P x jq hy;rw [List.drop_eq_getElem_cons T] at t;unfold forL at t;have Vq:f e[i] a=(M.put e[i] a).bind λa=>bM F b a:=by rw [<-hf]
   rw [Vq] at t;have lN:=j.grow qF;have g2:=g'.then (j.on qF)
   cases r:M.put e[i] a with
   |bad=>rw [r] at t;exact t.elim|exc c=>exact absurd r (l4 c)|ok L=>
    rw [r] at t;refine lW S.C.K r lN rx λy sr3=>{U,L,sr3,?_}
    have o2:cV W H0 U E ((bM F b L).bind λfl=>match fl with
     |.nx a=>forL f (e.drop (i+1)) a|.ct a=>forL f (e.drop (i+1)) a|.bk a=>.ok (.nx a)|.rt p=>.ok (.rt p)) D:=cV.on t (j.on qF)
    cases r2:bM F b L with
    |bad=>rw [r2] at o2;exact o2.elim|exc cc=>rw [r2] at o2;exact o2|ok fl=>
     rw [r2] at o2;cases fl with
     |nx d=>exact λz A Q R u=>{T,A,d,R,g2.then u,cV.on (show cV W H0 U E (forL f (e.drop (i+1)) d) D from o2) u}|ct d=>exact λz A Q R u=>{T,A,d,R,g2.then u,cV.on (show cV W H0 U E (forL f (e.drop (i+1)) d) D from o2) u}|bk d=>exact λz A Q R u=>o2 z A Q R u|rt q=>exact λv A Q rv u=>o2 v A Q rv u
theorem yE:Gi X W F H0 E .nil []:=L2.qg.imp sR λD a H h=>by let(G,env,sr,o):=h;rw [bM] at o;exact o a G H sr sr.go
theorem uX{s:Ci.S}{b:Ss}{p:ix}{ps:List ix}(d:GS X W F H0 E s p)(e:Gi X W F H0 E b ps):Gi X W F H0 E (.cons s b) (p::ps):=
 L2.qg.imp (vJ d e) λD j H h=>by
  let(G,env,sr,o):=h
  rw [bM] at o;refine{G,env,sr,?_};cases r:dH F s env with
  |bad=>rw [r] at o;exact o|exc c=>rw [r] at o;exact o|ok f=>
   rw [r] at o;cases f with
   |nx a=>exact λg G2 m i g2=>{G2,a,i,cV.on (show cV W H0 G E (bM F b a) D from o) g2}|bk a=>exact o|ct a=>exact o|rt q=>exact o
def HJ{i:Nat}{c:Ss}{ps:List ix}(h:Gi X W F H0 E c ps):Gi X W F H0 E (.cons (.b9 i) c) ps:=by
 intro f s g H D I j;let(G,env,sr,o):=j
 rw [bM,dH] at o;rcases n9 sr sr.go i with⟨d,b,e⟩|⟨a,p,m,k⟩
 .exact h f s g H D I {d,_,b,cV.on (show cV W H0 G E (bM F c (env.modify i rY)) D from o) e}
 .let(ob,J):=I.rX m;let(d,b,e):=k ob;exact h f s g _ D J {d,_,b,cV.on (show cV W H0 G E (bM F c (env.modify i rY)) D from o) e}
end
end Ci
namespace L2
open PySem.Spec PyProof.Rows
end L2
namespace Ci
open L2
section
variable{Γ:Pg}{W:Wd}{F:aP}{sc:ia}{k:Nat}{E:XK}
def ET(S:zv1 X){i:Nat}(h:N[i]?=fP x)(b:kf sc x=gf)(a:okN x=gf):PE X (.Name x pos) (OW i):=
 l6 (by rw [S.C.hN];exact h) (x8 S.C b) (eM a).1 (eM a).2.1
def IY{b:St}{i:Nat}(sr:SR W H0 env b G H)(h:env[i]?=fP (.own (.lst xs))):∃a vs,b[i]?=fP (fP (.ref a))/\H a=fP (.lst vs)/\G a=gd/\H0 a=gd/\ah W G xs vs:=by let(o,c,v,rfl,a,vs,rfl,d,e,h3,l):=sr.slot i _ h;exact⟨a,vs,c,d,e,h3,l⟩
set_option tactic.hygienic true in
def Mq(S:zv1 X){i:Nat}{e:Ci.E}{p:hD}{b f:Pos}(h:N[i]?=fP x)(u:kf sc x=gf)(w:okN x=gf)(y:(b.endLine==f.line)=gf)(A:eR e=gf)(he:GE X W F e p)
 (d:∀env ps,starEach (p::ps) env=(gh,eval p env)::starEach ps env):GS X W F H0 E (.app i e) (.Expr (.Call (.Attribute (.Name x np) "append" b) [p] [] f) pos):=by
 refine L2.PS.imp (sO (vD PySem.F.plainAttrs_list PySem.F.slot_list_append PySem.F.type_list_append qP (ET S h u w) (bZ he dE (d _ _)) rfl (by rw [d];rfl) y (d _ _) rfl) rfl) λD O H B=>?_;let(G,env,sr,o):=B;rw [dH] at o;split at o
 .rename_i xs j;let(a,m,hs,c,C,h3,l):=IY sr j;refine{.ref a,hs,.inl {rfl,_,iQ.of c},sI S sr o λq v I P g t r o1=>?_};split at o1
  .rename_i hl;have K:=g.h.at c (λZ z=>nomatch z);have s:=g.own a (by rw [c];exact nofun) (by rw [c];exact λZ z=>nomatch z) C;have L:=ah.same g.g xs l;refine{a,m,v,rfl,rfl,K,by rw [l.length];exact dA hl (by decide),?_};let(M,g2):=Em (p':=.lst (xs++[q])) (ob:=.lst (m++[v])) r r.go j hs s h3 {a,_,rfl,ak,s,h3,L.append (.cons (t.rep A) .nil)};exact o1 _ I _ M g2
  .exact o1.elim
 .exact o.elim
def Si:V->V->V->Hp->(Hp->Prop)->Prop:=λo i v H Q=>∃a b,o=.ref a/\wk H a i v b/\Q b
def Jp(b:X.A.units+1<cLine):PQ X Si:=by intro m s p H o i v r t u Q I c d e h;let(a,f,rfl,g,q):=h;cases c;exact qA b I g d e λw j=>⟨f,j,q⟩
def IX{b:St}{i:Nat}(sr:SR W H0 env b G H)(h:env[i]?=fP (.own (.cA ks ps))):∃a us,b[i]?=fP (fP (.ref a))/\ks.length=us.length/\H a=fP (.dK (kz ks us))/\G a=gd/\H0 a=gd/\ah W G ps us:=by let(o,c,v,rfl,a,us,rfl,n,d,e,h3,l):=sr.slot i _ h;exact⟨a,us,c,n,d,e,h3,l⟩
set_option tactic.hygienic true in
def Ms(S:zv1 X){i:Nat}{b e:Ci.E}{c p:hD}{f:Pos}(h:N[i]?=fP x)(K:kf sc x=gf)(L:okN x=gf)(M:eR e=gf)(s:aK Γ N sc b c=gf)(hk:GE X W F b c)(he:GE X W F e p):GS X W F H0 E (.put i b e) (.Assign [.Subscript (.Name x np) c f] p pos):=by
 have O:swappedStores [.Subscript (.Name x np) c f] p X.env=pure gd:=by cases p<;>rfl
 have P:∀v,assign (.Subscript (.Name x np) c f) X.env v=(do
  let j<-holding [v] (eval (.Name x np) X.env);let m<-holding [v,j] (eval c X.env)
  standAt f
  holding [v,j,m] (setItem j m v)
  release [v,j,m] []):=by
  intro v;cases c<;>first|rfl|(cases b<;>first|(exact aO s)|(rename_i q;cases q<;>exact aO s))
 refine L2.PS.imp (E8 he (N4 (ET S h K L) hk (Jp (by have:=S.C.room.un;lia)) P) (by cases p<;>rfl) O) λD σ H Q=>?_;let(G,env,sr,o):=Q;rw [dH] at o;refine sI S sr o λq v G1 H1 g t u o1=>?_;split at o1
 .rename_i d w y;let(a,A,hs,n,r,R,h3,l):=IX u y;refine{.ref a,hs,sI S u o1 λq2 v2 G2 T g2 t2 B o2=>?_};split at o2
  .rename_i b U;split at o2
   .rename_i V;have Y:=fM U;subst Y;obtain rfl:=t2.top.str;have Z:=g2.h.at r (λ_ z=>nomatch z);have I:=g2.own a (by rw [r];exact nofun) (by rw [r];exact λ_ z=>nomatch z) R;have l':=ah.same g2.g w l;refine{a,upd T a (.dK (putK (kz d A) (ki b) v)),rfl,wk.k (k:=ki b) Z (by rw [iD n];exact dA V (by decide)),?_};rw [xg n];let(r2,gg):=Em (p':=.cA (eU d b) (df d w b q)) (ob:=.dK (kz (eU d b) (df d A b v))) B B.go y hs I h3 {a,_,rfl,oR n b v,ak,I,h3,sV l' (Rep.same g2.g q (t.rep M))};exact o2 _ G2 _ r2 gg
   .exact o2.elim
  .exact o2.elim
 .exact o1.elim
def HE(S:zv1 X){i:Nat}{dp:Pos}(h:N[i]?=fP x)(hl:gz sc x=gf):GS X W F H0 E (.lV i) (.Assign [.Name x np] (.Dict [] [] dp) pos):=by
 let(c,a2,d):=fk S h hl;intro e s b H D I f;have g:i<b.length:=by rw [I.len,S.C.hN];exact(cj.mp h).1
 refine oQ c a2 d oN rfl (.inl (S.fn x)) e s b H D I ?_;let(G,env,sr,o):=f;rw [dH] at o;intro p a;let(j,g2):=xw (i:=i) (p:=.cA [] []) (ob:=.dK []) sr sr.go (by rw [sr.len];exact g) a {p,[],rfl,rfl,ak,sr.sub.free a,sr.base.free a,.nil};exact o _ G _ j g2
def Ey(c:Str):gX ps≠.exc c:=by
 unfold gX;split
 .intro z;rcases Res.eG z with z|⟨a,_,z⟩
  .exact Res.aS c z
  .cases z
 .exact nofun
def HG(S:zv1 X)(y:Γ.qt=gh){i:Nat}{e:Ci.E}{p:hD}{z A:Pos}(h:N[i]?=fP x)(hl:gz sc x=gf)(B:gu sc "dict"=gf)(hm:Γ.bs.contains "dict"=gf)(he:GE X W F e p)
 (j:∀env ps,starEach (p::ps) env=(gh,eval p env)::starEach ps env):GS X W F H0 E (.vC i e) (.Assign [.Name x np] (.Call (.Name "dict" z) [p] [] A) pos):=by
 let(L,a2,M):=fk S h hl;intro O s m H D I P;have Q:i<m.length:=by rw [I.len,S.C.hN];exact(cj.mp h).1
 refine oQ L a2 M (i7 (nH (S.C.calm y) (by have:=S.C.room.un;lia)) (dz S.C B) (S.C.bs _ (eg.mp hm)) (by decide+kernel) (bZ he dE (j _ _)) (he:=j _ _) (hpl:=rfl)) rfl (.inl (S.fn x)) O s m H D I ?_;let(G,env,sr,o):=P;rw [dH] at o;refine sI S sr o λq v R H1 g t b o1=>?_
 cases d:gX [q] with
 |exc c=>exact absurd d (Ey c)|bad=>rw [d] at o1;exact o1.elim|ok r=>rw [d] at o1;let(u,qs,rfl,a,T,U,V,Y,pw,w,Z,z2,z3):=uI (X:=X) S.C.K b.sub (.cons t.top .nil) d;refine{a,T,U,V,Y,pw,λad f=>?_};rw [z3];let(r2,g2):=xw (i:=i) (p:=.cA u qs) (ob:=.dK (kz u w)) b b.go (by rw [b.len];exact Q) f {ad,w,rfl,Z,ak,b.sub.free f,b.base.free f,z2};exact o1 _ R _ r2 g2
end
end Ci
namespace L2
open PySem.Spec PyProof.Rows
end L2
namespace Ci
open L2
section
variable{Γ:Pg}{W:Wd}{F:aP}{sc:ia}{k:Nat}{E:XK}
def FJ{env:Env}{y:Str}{d e pt h:Pos}{kt k2}{a b:hD}(hk:env.scope.kind=.function)(i:env.scope.names.lookup x=fP .local)(j:env.scope.names.lookup y=fP .local)(hl:e.line=d.line)(f:x≠y)(c:EJ a b=gf):
 swappedStores [.Tuple [.Name x d,.Name y e] kt pt] (.Tuple [a,b] k2 h) env=pure (fP [x,y]):=by
 unfold EJ at c;simp! [zza] at c;let(((m,o),h3),g):=c;have p:isStar a=gh:=zx6 m;have q:isStar b=gh:=zx6 o;have r:env.blockKind=.function:=by unfold Env.blockKind;rw [hk];rfl
 have s:env.kindOf x=fP .local:=i;have k2:env.kindOf y=fP .local:=j;simp! [Bool.not_eq_true'] at h3 g;have t:(y==x)=gh:=beq_eq_false_iff_ne.mpr (Ne.symm f);have B:(x==y)=gh:=beq_eq_false_iff_ne.mpr f;have u:[x,y].eraseDups=[x,y]:=by simp [List.eraseDups_cons,t]
 have w:[a,b].all (foldedForSure 8)=gh:=zx6 h3;have A:[a,b].all (constantsAlone 8)=gh:=zx6 g
 unfold swappedStores;simp! [List.any_cons,List.any_nil,Bool.or_false,pure_bind,List.filterMap_cons,List.filterMap_nil,s,k2,hD.pos,hl,List.head?_cons,Option.map_some,Option.getD_some,BEq.rfl,Bool.and_self,if_true,u,w,A,r];refine(if_neg zzf).trans ((if_neg λz=>?_).trans rfl);rcases Bool.or_eq_true_iff.mp z with z|z
 .split at z
  .cases p
  .cases z
 .split at z
  .cases q
  .cases z
def P5(S:zv1 X){b:St}{c:Es}{f:List PV->Res Fl}{D:Ends}{Q:List V->Hp->Prop}(sr:SR W H0 env b G H)(o:cV W H0 G E ((br F c env).bind f) D)
 (h:∀ps vs a H1,aC W G H a H1->K4 W H0 a H1 c ps vs->SR W H0 env b a H1->cV W H0 a E (f ps) D->Q vs H1):tA X W F c b H Q:=
 {H0,G,env,sr,(o.bind S sr).imp λp d v a H1 g1 t=>h p v a H1 g1 t (sr.grow g1) (d.on (sr.on g1))}
set_option tactic.hygienic true in
def Jw(S:zv1 X)(K:Γ.qt=gh)(i j:Nat)(as:Es)(p:ix)(h:fU Γ N sc (.par i j as) p=gf):GS X W F H0 E (.par i j as) p:=by
 cases p<;>first|(exact aO h)|skip
 rename_i ts v L;cases v<;>first|(exact aO h)|skip
 rename_i M O Jg
 match M,h with
 |[],h=>exact aO h|[_],h=>exact aO h|_::_::_::_,h=>exact aO h|[a,b],h=>
 replace h:=af h;simp! [zza,zzy,bne_iff_ne,ne_eq] at h;let((x,px,y,py),P,((((((((m,u),h3),z),A),d),e),Q),R),f):=h;let(kt,pt,rfl):=zi P;dsimp only at m u z A d e;have ga:=gZ as S.C [a,b] f;intro T s U H D I V;refine Fb (S.C.calm K) (by rw [S.C.hN];exact S.C.nd) (by rw [S.C.hN];exact m) (by rw [S.C.hN];exact u) (zzY h3) (by rw [S.C.ee];exact d) (by rw [S.C.ee];exact e) ga (FJ I.ok.kind (by rw [S.C.ee];exact d) (by rw [S.C.ee];exact e) A z Q) rfl T s U H D I ?_;let(G,env,sr,o):=V;rw [dH] at o;refine P5 S sr o λY vs Z H1 g t B o1=>?_;have c:=t.rep R
 match Y,c,o1 with
 |[],_,o1=>exact o1.elim|[_],_,o1=>exact o1.elim|_::_::_::_,_,o1=>exact o1.elim|[p,q],c,o1=>
  let(v,r,rfl,hv,c):=c.bo;let(w,r2,rfl,hw,c):=c.bo;have:=c.length
  cases r2 with
  |cons _ _=>cases this
  |nil=>exact{v,w,rfl,o1 _ Z H1 ((B.set i hv).set j hw) B.go}
def uT{e:Ci.E}(h:kR e=gf):∀env q,aB F e env=.ok q->∃xs,q=.lst xs:=by
 cases e<;>first|(exact aO h)|exact lst_is|exact yw|exact qu
def qh(S:zv1 X){i:Nat}{H:Pos}(s:N[i]?=fP x)(t:gz sc x=gf)(e:Ci.E)(p:hD)(I:kR e=gf)(h:aK Γ N sc e p=gf):PS X (.Assign [.Name x H] p pos) (PC X W F i e):=by
 cases e with
 |lst as=>let(Q,e,b):=af h;let(_,rfl):=xj e;have a:=aj b;have r:=aj a.1;exact sN S s t (Dr r.1 (zzY r.2) (gZ as S.C _ a.2)) rfl|comp K L M it elt=>let(u,h):=qS h;let(w,g,d,_,rfl,b):=Ry h;let((y,z,A,B),j,a):=fe b;have h3:=aj a;have m:=j6 h3.1;dsimp only at j m;subst j m;clear h b a;have h:=aj h3.2;clear h3;simp! [zza] at h;let((((((b,a),h3),o),D),G),f):=h;have f:=zzY f;subst f;exact B9 S u s t (il b) a h3 (By it S.C y z o) (iV o _) D λY q=>(bh elt q w G).ge|eQ K L M it c elt=>let(u,h):=qS h;let(w,g,d,_,rfl,b):=Ry h;let((y,z,A,B),j,a):=fe b;let(O,m,h3):=fe a;dsimp only at j m;subst j m;clear h b a;have h:=aj h3;clear h3;simp! [zza] at h;let((((((((r,b),a),h3),o),D),G),P),f):=h;have f:=zzY f;subst f;exact wz S u s t (il b) a h3 (By it S.C y z o) (iV o _) D (λY q=>(bh c q O G).gt r) λY q=>(bh elt q w P).ge|_=>exact aO I
set_option tactic.hygienic true in
def Ba{e:Ci.E}{p:hD}(h:aK Γ N sc e p=gf)(a:kR e=gh):d7 p=gf:=by
 cases p<;>first|rfl|(cases e<;>first|(exact aO h)|(rename_i q;cases q<;>exact aO h)|(cases a;done))
def AH(S:zv1 X){i:Nat}{e:Ci.E}{p:hD}{c:Pos}(h:N[i]?=fP x)(hl:gz sc x=gf)(b:eR e=gf)(a:aK Γ N sc e p=gf):GS X W F H0 E (.set i e) (.Assign [.Name x c] p pos):=by
 cases hf:kR e with
 |true=>exact HI S (uT hf) b (qh S h hl e p hf a)|false=>exact Mu S h hl b (bh e S.C p a).ge (gS (Ba a hf))
def Fw(S:zv1 X)(e:Ci.E)(p:ix)(h:fU Γ N sc (.expr e) p=gf):GS X W F H0 E (.expr e) p:=by
 cases p<;>first|(exact aO h)|skip
 replace h:=aj h
 try simp! [zza] at h
 exact HF S (bh e S.C _ h.2).ge h.1
def zI(S:zv1 X)(i:Nat)(e:Ci.E)(p:ix)(h:fU Γ N sc (.set i e) p=gf):GS X W F H0 E (.set i e) p:=by
 cases p<;>first|(exact aO h)|skip
 replace h:=af h;simp! [Option.any_eq_true,zza,zzy] at h;let(x,b,a):=h;let(c,rfl):=oI b;exact AH S a.1.1.1 a.1.1.2 a.1.2 a.2
def Jv(S:zv1 X)(i:Nat)(e:Ci.E)(p:ix)(h:fU Γ N sc (.own i e) p=gf):GS X W F H0 E (.own i e) p:=by
 cases p<;>first|(exact aO h)|skip
 replace h:=af h;simp! [Option.any_eq_true,zza,zzy] at h;let(x,a,h):=h;let(b,rfl):=oI a;exact HH S h.1.1.1 (uT h.1.2) (qh S h.1.1.1 h.1.1.2 e _ h.1.2 h.2)
def Jy(S:zv1 X)(b:Γ.qt=gh)(a:Tg)(e:Ci.E)(p:ix)(h:fU Γ N sc (.Gz a e) p=gf):GS X W F H0 E (.Gz a e) p:=by
 cases p<;>first|(exact aO h)|skip
 replace h:=af h;simp! [Option.any_eq_true,zza] at h;let(t,c,((((d,f),h3),g),i),j):=h;cases i6 c;exact Mv S b d f h3 g i (bh e S.C _ j).ge
def Ju(S:zv1 X)(i:Nat)(p:ix)(h:fU Γ N sc (.b9 i) p=gf):GS X W F H0 E (.b9 i) p:=by cases p<;>exact aO h
def Jt(S:zv1 X)(i:Nat)(e:Ci.E)(p:ix)(h:fU Γ N sc (.app i e) p=gf):GS X W F H0 E (.app i e) p:=by
 cases p<;>first|(exact aO h)|skip
 replace h:=af h;simp! [Option.any_eq_true,zza,zzy] at h;let((x,m,args),c,((((d,f),h3),g),j),q,o,a):=h;let(np,b,r,rfl,hl):=Nl c;cases i6 o;cases g;exact Mq S d f h3 hl j (bh e S.C q a).ge (notStar a)
def Jx(S:zv1 X)(i:Nat)(a e:Ci.E)(p:ix)(h:fU Γ N sc (.put i a e) p=gf):GS X W F H0 E (.put i a e) p:=by
 cases p<;>first|(exact aO h)|skip
 replace h:=af h;simp! [Option.any_eq_true,zza,zzy] at h;let((x,c),d,((((f,g),h3),j),b),m):=h;let(np,sp,rfl):=Ox d;exact Ms S f g h3 j b (bh a S.C c b).ge (bh e S.C _ m).ge
set_option tactic.hygienic true in
def Fv(S:zv1 X)(i:Nat)(p:ix)(h:fU Γ N sc (.lV i) p=gf):GS X W F H0 E (.lV i) p:=by
 cases p<;>first|(exact aO h)|skip
 rename_i ts v a;cases v<;>first|(exact aO h)|skip
 rename_i b c dp;cases b<;>first|(exact aO h)|skip
 cases c<;>first|(exact aO h)|skip
 replace h:=af h;simp! [Option.any_eq_true,zza,zzy] at h;let(x,d,e,f):=h;let(g,rfl):=oI d;exact HE S e f
def Fx(S:zv1 X)(b:Γ.qt=gh)(i:Nat)(e:Ci.E)(p:ix)(h:fU Γ N sc (.vC i e) p=gf):GS X W F H0 E (.vC i e) p:=by
 cases p<;>first|(exact aO h)|skip
 let(x,c,d):=af h;let(g,as,_,_,rfl,f):=yt d;let(q,rfl,h3):=fe f;let(s,rfl):=oI c;simp! [zza,zzy] at h3;let(((((rfl,j),m),o),r),a):=h3;exact HG S b o r j m (bh e S.C q a).ge (notStar a)
set_option tactic.hygienic true in
def zH(S:zv1 X)(e:Ci.E)(p:ix)(h:fU Γ N sc (.ret e) p=gf):GS X W F H0 E (.ret e) p:=by
 cases p<;>first|(exact aO h)|skip
 rename_i v a;cases v with
 |none=>exact aO h|some v=>
  replace h:=aj h
  try simp! [zza] at h
  exact Mt S h.1 (bh e S.C v h.2).ge
set_option tactic.hygienic true in
def Bz(S:zv1 X)(a:Γ.qt=gh)(c m:Str)(p:ix)(h:fU Γ N sc (.raise c m) p=gf):GS X W F H0 E (.raise c m) p:=by
 cases p<;>first|(exact aO h)|skip
 replace h:=aj h;simp! [Option.any_eq_true,zza,zzy] at h;let(b,(x,z),d,(((e,f),h3),g),i):=h;let(np,j,q,r,rfl):=Ot d;cases e;cases f;rename_i fr o;cases Option.isNone_iff_eq_none.mp b;exact Dv S a h3 g i
def yK{c:Ci.E}{a b:Ss}{p:ix}(h:fU Γ N sc (.ite c a b) p=gf):∃q d e pos,p=.If q d e pos/\gx c=gf/\aK Γ N sc c q=gf/\eJ Γ N sc a d=gf/\eJ Γ N sc b e=gf:=by
 cases p<;>first|(exact aO h)|skip
 replace h:=aj h
 try simp! [zza] at h
 exact{_,_,_,_,rfl,h.1.1.1,h.1.1.2,h.1.2,h.2}
def HX{c:Tg}{b:Ss}{p:ix}(h:fU Γ N sc (.hJ c it b) p=gf):∃a d e pos,p=.For a d e [] pos/\eT N sc (λZ=>gf) c a=gf/\Ay it=gf/\uA Γ N sc a it d=gf/\eJ Γ N sc b e=gf:=by
 cases p<;>first|(exact aO h)|skip
 replace h:=aj h
 try simp! [zza] at h
 cases List.isEmpty_iff.mp h.1.1.1.1;exact{_,_,_,_,rfl,h.1.1.1.2,h.1.1.2,h.1.2,h.2}
def yL{ps:List ix}(h:eJ Γ N sc .nil ps=gf):ps=[]:=by
 cases ps with
 |nil=>rfl|cons _ _=>exact aO h
def u4{s:Ci.S}{a:Ss}{ps:List ix}(h:eJ Γ N sc (.cons s a) ps=gf):(∃i,s=.b9 i/\eJ Γ N sc a ps=gf)\/∃q qs,ps=q::qs/\fU Γ N sc s q=gf/\eJ Γ N sc a qs=gf:=by
 by_cases b:∃i,s=.b9 i
 .let(i,rfl):=b;exact .inl ⟨i,rfl,h⟩
 .cases ps with
  |nil=>cases s<;>first|(exact absurd ⟨_,rfl⟩ b)|(exact aO h)
  |cons p ps=>
   have c:(fU Γ N sc s p&&eJ Γ N sc a ps)=gf:=by
    cases s<;>first|(exact absurd ⟨_,rfl⟩ b)|(exact h)
   rw [zza] at c;exact .inr ⟨p,ps,rfl,c.1,c.2⟩
mutual
theorem Sv(S:zv1 X)(d:Γ.qt=gh):∀(s:Ci.S) (p:ix),fU Γ N sc s p=gf->GS X W F H0 E s p
 |.expr e,p,h=>Fw S e p h|.set i e,p,h=>zI S i e p h|.own i e,p,h=>Jv S i e p h|.Gz r e,p,h=>Jy S d r e p h|.b9 i,p,h=>Ju S i p h|.app i e,p,h=>Jt S i e p h|.put i t e,p,h=>Jx S i t e p h|.vC i e,p,h=>Fx S d i e p h|.lV i,p,h=>Fv S i p h|.par i j as,p,h=>Jw S d i j as p h|.ret e,p,h=>zH S e p h|.ite c a b,p,h=>by let(q,z,u,pos,rfl,f,g,h3,o):=yK h;exact Du S ((bh c S.C _ g).gt f) (qY S d a _ h3) (qY S d b _ o)|.hJ r it b,p,h=>by let(w,y,u,pos,rfl,f,g,h3,o):=HX h;exact Mr S d f g (By it S.C w y h3) (iV h3 _) (qY S d b _ o)|.raise c m,p,h=>Bz S d c m p h
theorem qY(S:zv1 X)(b:Γ.qt=gh):∀(a:Ss) (ps:List ix),eJ Γ N sc a ps=gf->Gi X W F H0 E a ps
 |.nil,ps,h=>by cases yL h;exact yE
 |.cons s a,ps,h=>by
  rcases u4 h with⟨i,e,c⟩|⟨q,qs,e,d,c⟩
  .have:=HJ (i:=i) (qY S b a ps c);rw [<-e] at this;exact this
  .rw [e];exact uX (Sv S b s q d) (qY S b a qs c)
end
mutual
noncomputable def Od:Ci.S->Bool
 |.set _ _=>gf|.ret _=>gf|.ite _ a b=>oU a&&oU b|_=>gh
noncomputable def oU:Ss->Bool
 |.nil=>gf|.cons s ss=>Od s&&oU ss
end
mutual
theorem WC(S:zv1 X):∀(s:Ci.S) (p:ix),Od s=gf->fU Γ N sc s p=gf->GS X W F H0 E s p
 |.set i e,p,_,h=>zI S i e p h|.ret e,p,_,h=>zH S e p h|.ite c a b,p,hz,h=>by unfold Od at hz;rw [zza] at hz;let(q,j,m,pos,rfl,d,f,h3,g):=yK h;exact Du S ((bh c S.C _ f).gt d) (zG S a _ hz.1 h3) (zG S b _ hz.2 g)|.expr _,_,h,_=>aO h|.own _ _,_,h,_=>aO h|.Gz _ _,_,h,_=>aO h|.b9 _,_,h,_=>aO h|.app _ _,_,h,_=>aO h|.put _ _ _,_,h,_=>aO h|.vC _ _,_,h,_=>aO h|.lV _,_,h,_=>aO h|.par _ _ _,_,h,_=>aO h|.hJ _ _ _,_,h,_=>aO h|.raise _ _,_,h,_=>aO h
theorem zG(S:zv1 X):∀(a:Ss) (ps:List ix),oU a=gf->eJ Γ N sc a ps=gf->Gi X W F H0 E a ps
 |.nil,ps,_,h=>by cases yL h;exact yE
 |.cons s a,ps,hz,h=>by
  unfold oU at hz;rw [zza] at hz;rcases u4 h with⟨i,e,b⟩|⟨q,qs,e,c,b⟩
  .rw [e] at hz;exact aO hz.1
  .rw [e];exact uX (WC S s q hz.1 c) (zG S a qs hz.2 b)
end
end
end Ci
namespace L2
open PySem.Spec PyProof.Rows
def aq{K:zz8}{C c:hB}{b:Bool}(d:PySem.W.isClsIn K c=gf)(f:PySem.W.typeIn K (.ref c)=fP (.type "type"))(h3:PySem.W.subIn K (.ref C) (.ref c)=fP b)(a:b=gf\/(C==c)=gh):PySem.W.kitOne K (.ref C) (.ref c)=fP b:=by
 have k:PySem.W.kitCls K (.ref C) (.ref c)=fP b:=by show(if((PySem.W.clsIn K c).isSome&&PySem.W.typeIn K (.ref c)==fP (.type "type"))=gf then PySem.W.subIn K (.ref C) (.ref c) else gd)=fP b;rw [show(PySem.W.clsIn K c).isSome=gf from d,f,h3];rfl
 unfold PySem.W.kitOne;split
 .rename_i e;rcases a with rfl|a
  .rfl
  .have g:C=c:=gA.ref.inj (zzy.mp e);rw [g,beq_self_eq_true] at a;cases a
 .exact k
def D6{K:zz8}{C:hB}{T:String}{b:Bool}(a:PySem.W.kitMeta T=gf)(h3:PySem.W.subIn K (.ref C) (.type T)=fP b):PySem.W.kitOne K (.ref C) (.type T)=fP b:=by
 unfold PySem.W.kitOne;split
 .rename_i e;cases zzy.mp e
 .show(if PySem.W.kitMeta T=gf then PySem.W.subIn K (.ref C) (.type T) else gd)=fP b;rw [if_pos a];exact h3
def iy{K:zz8}{C c:hB}{b:Bool}(a:PySem.W.subIn K (.ref c) (.type (zu 7))=fP gf)(d:PySem.W.isClsIn K c=gf)(e:PySem.W.typeIn K (.ref c)=fP (.type "type"))(h3:PySem.W.subIn K (.ref C) (.ref c)=fP b):PySem.W.exmOne K (.ref C) (.ref c)=fP b:=by unfold PySem.W.exmOne;rw [a];show PySem.W.kitCls K (.ref C) (.ref c)=fP b;show(if((PySem.W.clsIn K c).isSome&&PySem.W.typeIn K (.ref c)==fP (.type "type"))=gf then PySem.W.subIn K (.ref C) (.ref c) else gd)=fP b;rw [show(PySem.W.clsIn K c).isSome=gf from d,e,h3];rfl
set_option tactic.hygienic true in
def NV{K:zz8}{C:hB}{i:List gA}{a:String}(X:K.In h)(hm:mg x=fP (.ref C))(q:PySem.W.excIn K C i a=gf):OwnCls x C i a mg h:=by
 constructor
 .exact hm
 .unfold PySem.W.excIn at q;split at q
  .rename_i r cd s t;split at q
   .rename_i u b j k k2 m w o y z;simp! [zza,zzy,Bool.not_eq_true'] at q;let(((((A,B),D),E),F),G):=q;subst A B;let(nm,bs,c,ns,H,hd,I,sub,L,d,e):=cd;have M:c=.ref u::b:=y;have f:e=gh:=D;have p:PySem.W.nsOkIn K ns=gf:=F;have g:PySem.W.nsIn K ns (zu 14)=fP gd:=G;subst M f;obtain⟨ls⟩:=s;have N:ls=[j,k,k2,m,fP (.builtin w),o]:=z;subst N;exact{b,ns,nm,H,bs,hd,I,sub,L,d,r,j,k,k2,m,o,_,X _ _ t,.of_isNs (PySem.W.isNs_of_in X p),PySem.W.nsMap_none_of_in X p g,PySem.W.tail_of_in X E}
   .cases q
  .cases q
end L2
namespace Ci
open L2
noncomputable abbrev CO:List Value:=[.type (zu 2),.type (zu 48),.type (zu 7),.type (zu 61)]
structure mF(K:zz8)(mg:Str->Option gA)(Γ:Pg)(W:Wd):Prop where
 hK:W.K=K
 hm:W.mg=mg
 gs:∀q∈Γ.gs,∃u v,mg q.1=fP u/\RelV v u/\∀G,Rep W G q.2 v
 bs:∀g∈Γ.bs,mg g=gd
 NA:Γ.cs.contains (zu 2)=gh
 cls:∀c∈Γ.cs,∃C,mg c=fP (.ref C)
 xc:∀d∈W.xs,∀D,mg d=fP (.ref D)->nA K D/\(∀c∈Γ.cs,∀C,mg c=fP (.ref C)->PySem.W.kitOne K (.ref D) (.ref C)=fP (c==d||c==(zu 8)))/\PySem.W.kitOne K (.ref D) (.type (zu 2))=fP gf
 xs:∀c,Γ.rs.contains c=gf->c∈W.xs
 rm:∀c,Γ.rs.contains c=gf->∃C,mg c=fP (.ref C)/\PySem.W.excIn K C CO (zu 3)=gf
 Ph:Γ.cs.contains (zu 8)=gf->∀c D,c∈W.xs->mg c=fP (.ref D)->∀T,mg (zu 8)=fP (.ref T)->PySem.W.exmOne K (.ref D) (.ref T)=fP gf
 bm:W.ts≠[]->∃bm o,mg "__builtins__"=fP (.ref bm)/\bm≠builtinsNs/\bm≠iR/\K.lookup bm=fP o/\o.cls=.type "module"/\o.dict=fP builtinsNs/\o.data=.plain
structure Row where
 f:Str
 h:Str
 d:Def
 st:ix
 hl:Bool:=gh
noncomputable abbrev f9:Type:=List Row
abbrev mI(l:f9):List Str:=l.filterMap λr=>if r.d.uB.isNone then fP r.f else gd
abbrev AU(l:f9):List Hs:=l.filterMap λr=>r.d.uB.map λq=>⟨r.f,r.h,q.1,q.2,r.d.np⟩
abbrev tab(l:f9):List (Str×Def):=l.map λq=>(q.f,q.d)
abbrev oB(l:f9):List Str:=match l.getLast? with|some r=>if r.d.uB.isNone then [r.f] else []|none=>[]
abbrev Pg.at(Γ:Pg)(l:f9)(hl:Bool):Pg:={Γ with fs:=mI l,hs:=AU l,hl:=hl,qt:=l.isEmpty,qs:=oB l}
structure dU(Γ:Pg)(n:Str)(d:Def)(st:ix):Prop where
 sc:iP d.N (d.N.take d.np) (au st)
 np:d.np<=d.N.length
 bind:∀(kV doc pm:gA) (an:Option hB) (dG ct:gA) (us:List gA),us.length=(d.N.take d.np).length->bindArgs (PySem.W.fnOf n n (bY st) (bg st) (au st) .none kV doc pm an dG ct) {us,[]}=pure ((d.N.take d.np).zip us)
 Tj:eJ Γ d.N (au st) d.body (bg st)=gf
 qui:(!Γ.qt||oU d.body)=gf
theorem stM{Γ:Pg}{n:Str}{d:Def}(b:∀(kV a c:gA) (e:Option hB) (f ct:gA) (us:List gA),us.length=(d.N.take d.np).length->bindArgs (PySem.W.fnOf n n (bY st) (bg st) (au st) .none kV a c e f ct) {us,[]}=pure ((d.N.take d.np).zip us))
 (a1:(au st).kind=.function:=by rfl) (a2:(au st).isCoroutine=gh:=by rfl) (g:(au st).isGenerator=gh:=by rfl) (h:d.N.Nodup:=by decide+kernel) (i:d.N.take (d.N.take d.np).length=d.N.take d.np:=by rfl)
 (j:∀x∈d.N.take d.np,(au st).names.lookup x=fP .local\/(au st).names.lookup x=fP .cell:=by decide+kernel) (k:∀y∈(au st).names,y.2≠.free:=by decide+kernel) (m:d.np<=d.N.length:=by decide+kernel) (o:eJ Γ d.N (au st) d.body (bg st)=gf:=by decide+kernel) (p:(!Γ.qt||oU d.body)=gf:=by decide+kernel):dU Γ n d st:={⟨a1,a2,g,h,i,j,k⟩,m,b,o,p}
def fI(K:zz8)(c P:hB):Prop:=∃o a d f b g h e i,K.lookup c=fP o/\o.cls=.type "code"/\o.data=.fields a/\a[11]?=fP (.ref P)/\a.getD 11 .none=.ref P/\a.getD 18 .none=.str d f/\
 a.getD 7 .none=.int b g/\a.getD 9 .none=.bool h/\a.getD 10 .none=.int e i/\c≠P
abbrev j0(n:Str):Str:=(n++".<locals>.")++(zu 22)
def B3(K:zz8)(ts:List (hB×Str))(hl:Bool)(n:Str)(st:ix):Prop:=∃(f:hB) (oc:gA) (e:Option hB) (kV a g:gA) (h:Option hB) (b ct:gA) (i:Array (Option gA)),
 PySem.W.nsIn K iR n=fP (fP (.ref f))/\K.lookup f=fP {oc,e,.func (PySem.W.fnOf n n (bY st) (bg st) (au st) .none kV a g h b ct),i}/\PySem.W.codeIn K b n=gf/\PySem.W.keepIn K (.ref f)=gf/\
 (hl=gf->∃c P,b=.ref c/\fI K c P/\(P,j0 n)∈ts/\∀d,(P,d)∈ts->d=j0 n)
def UL{K:zz8}{ts:List (hB×Str)}{n:Str}{f:hB}{oc:gA}{e:Option hB}{kV b g:gA}{h:Option hB}{d ct:gA}{i:Array (Option gA)}(a:PySem.W.nsIn K iR n=fP (fP (.ref f)))
 (l:K.lookup f=fP {oc,e,.func (PySem.W.fnOf n n (bY st) (bg st) (au st) .none kV b g h d ct),i}) (c:PySem.W.codeIn K d n=gf) (k:PySem.W.keepIn K (.ref f)=gf):B3 K ts gh n st:={f,oc,e,kV,b,g,h,d,ct,i,a,l,c,k,nofun}
structure B4(K:zz8)(W:Wd)(B:aP):Prop where
 any:∀g as,B g as≠.bad->fB g=gf
 fld:∀f q,cW f≠dW->B (cW f) [q]≠.bad->∃n o p,q=.obj n/\W.ob[n]?=fP o/\bF o.c=gh/\o.fs.lookup f=fP p/\B (cW f) [q]=.ok p/\v8 K o.C/\cU K o.C f
 con:∀q,B dW [q]≠.bad->∃n o,q=.obj n/\W.ob[n]?=fP o/\bF o.c=gf/\B dW [q]=.ok (Ao o)
structure GH(K:zz8)(W:Wd)(B:aP):Prop where
 fld:∀f q,cW f≠dW->B (cW f) [q]≠.bad->∃n o p,q=.obj n/\W.ob[n]?=fP o/\bF o.c=gh/\o.fs.lookup f=fP p/\B (cW f) [q]=.ok p/\v8 K o.C/\cU K o.C f
 con:∀q,B dW [q]≠.bad->∃n o,q=.obj n/\W.ob[n]?=fP o/\bF o.c=gf/\B dW [q]=.ok (Ao o)
structure jm(P:hG)(w:hI)(K:zz8)(mg:Str->Option gA)(base:ig)(W:Wd)(F:aP)(k:Nat)(f:Str):Prop where
 ex:∃fa fd ps,fF P w K mg base (dF P w) k fa fd ps (FC W F f ps.length gd)/\mg f=fP (.ref fa)/\PySem.W.keepIn K (.ref fa)=gf/\Binds K fd ps []/\∀as,F f as≠.bad->as.length=ps.length
structure JV(P:hG)(w:hI)(K:zz8)(mg:Str->Option gA)(base:ig)(W:Wd)(F:aP)(k:Nat)(q:Hs):Prop where
 ex:∃fa fd ps,fF P w K mg base (dF P w) k fa fd ps (FC W F q.f ps.length (fP (q.g,q.idx)))/\mg q.h=fP (.ref fa)/\PySem.W.keepIn K (.ref fa)=gf/\Binds K fd ps []/\ps.length=q.np
section
variable{P:hG}{K:zz8}{Γ:Pg}{W:Wd}
def Am{c p:hB}(f:K.In base)(h:fI K c p):PySem.W.CodeHd base c p:=by let(o,g,b,i,a,j,k,d,m,e,r):=h;exact{o,g,b,i,a,j,k,d,m,f _ _ e,r}
theorem wM(M:mF K mg Γ W)(b:K.In base){F:aP}{k:Nat}{ps:List Str}{sc:ia}(S:iP N ps sc)(Q:∀f,Γ.fs.contains f=gf->jm P w K mg base W F k f)(R:∀q∈Γ.hs,JV P w K mg base W F k q)(r:∀f,Γ.qs.contains f=gf->2<=k/\jm P w K mg base W F 2 f)(hk:Γ.qt=gh->2<=k)(T:∀g as,F g as≠.bad->Γ.fs.contains g=gf\/fB g=gf)(t:GH K W F){f:hB}{cd:gA}
 (u:Γ.hl=gf->∃c p,cd=.ref c/\fI K c p/\(p,j0 qual)∈W.ts/\∀B,(p,B)∈W.ts->B=j0 qual)   {s:gB}  {E:XK} (d:dB (k+1) (A.deeper (PyProof.Rows.envOfC qual sc (zz9 s) f cd))):
 fi Γ F W N sc k E (dM (dF P w) P w K mg base N qual sc f cd A outer s H E) where
 C:={rfl,rfl,λz=>Option.isNone_iff_eq_none.mpr (d.hd (by have:=hk z;lia)),S.nd,M.hK,M.hm,M.gs,M.bs,d,λg i=>{(Q g i).ex},M.NA,M.cls,M.xc,λq m=>{(R q m).ex},λf G=>{(r f G).1,{(r f G).2.ex}},T,t.fld,t.con,λz=>by
  let(c,p,I,L,a,O):=u z;exact{c,p,I,Am b L,a,O},λz=>by
  let(c,p,I,L,a,O):=u z;let(bm,o,U,V,X,Y,Z):=M.bm (λy=>by rw [y] at a;cases a);exact{bm,o,U,V,X,b _ _ Y,Z},λ_ _=>rfl}
 fn:=λ_=>rfl
 own:=PassesOwn.leaving
 pass:=RW
 kind:=S.kind
 OL:=rfl
 frame:=rfl
 xs:=M.xs
 rm:=λc hc=>let⟨C,h,_⟩:=M.rm c hc;⟨C,h⟩
 rz:=λm c z j np zp cp pos h1 h2 h3=>by let(C,hC,hx):=M.rm c h1;have i:Gl (dM (dF P w) P w K mg base N qual sc f cd A outer s H E) c:=zzy.mp h2;refine L2.PS.imp (Fc i (NV b hC hx) PySem.F.excBase_ValueError (bZ EV dE) rfl rfl (eM h3).1 (Option.isNone_iff_eq_none.mpr (d.hd (by have:=hk m;lia)))) λD σ H1 h=>{(show 1<=iv by decide),λe he=>h C e hC he}
 Ph:=M.Ph
def vS{as:List PV}(f:az G H)(tb:bz W G H)(l:ah W G as vs)(hn:as.length<=N.length):SR W H (as.map .val++jz (N.length-as.length) .no) (start N vs) G H:=by
 have hl:=l.length;unfold L2.start;refine{by simp;lia,f,jc.refl _,λi s e=>?_,λi j p q a b Z Z Z=>?_,tb,tb}
 .by_cases c:i<as.length
  .rw [ek (zx6 c),c4] at e;let(p,d,rfl):=cz.mp e;let(v,g,h):=l.uV d;exact{fP v,by rw [ek (by simpa using (show i<vs.length by lia)),c4,g];rfl,v,rfl,h}
  .rw [el (zx6 c),List.getElem?_replicate] at e;split at e
   .rename_i k;cases e;rw [zzl] at k;exact{gd,by rw [el (by simp;lia),List.getElem?_replicate,if_pos (by rw [zzl];lia)],trivial}
   .cases e
 .exfalso;by_cases c:i<as.length
  .rw [ek (zx6 c),c4] at b;let(p,d,e):=cz.mp b;cases e
  .rw [el (zx6 c),List.getElem?_replicate] at b;split at b<;>cases b
def BB{d:Def}{as:List PV}(c:d.np<=d.N.length)(e:az G H)(tb:bz W G H)(l:BZ W G d.uB as vs)(a:vs.length=d.np):fj d as=gf/\SR W H (fC d as) (start d.N vs) G H:=by
 unfold fj fC;cases b:d.uB with
 |none=>rw [b] at l;have l:ah W G as vs:=l;exact{by rw [<-l.length,a];simp,vS e tb l (by rw [<-l.length,a];exact c)}|some q=>rw [b] at l;exact l.elim
def Kg(M:mF K mg Γ W)(u:K.In base){F:aP}{k:Nat}{n nf:Str}{d:Def}{i:hB}{fd:FuncData}(St:dU Γ n d st)(y:K1 K n n st i fd)(z:∀f,Γ.fs.contains f=gf->jm P w K mg base W F k f)(B:∀q∈Γ.hs,JV P w K mg base W F k q)(C:∀f,Γ.qs.contains f=gf->2<=k/\jm P w K mg base W F 2 f)(hk:Γ.qt=gh->2<=k)(D:∀g as,F g as≠.bad->Γ.fs.contains g=gf\/fB g=gf)(I:GH K W F)
 (L:Γ.hl=gf->∃c p,fd.code=.ref c/\fI K c p/\(p,j0 n)∈W.ts/\∀j,(p,j)∈W.ts->j=j0 n):
 fF P w K mg base (dF P w) (k+2) i fd (d.N.take d.np) (FC W (λ_ as=>aW F d as) nf (d.N.take d.np).length d.uB):=by
 have a:(d.N.take d.np).length=d.np:=by rw [List.length_take];have:=St.np;lia
 let(oc,od,kV,O,pm,an,dG,ct,pH,rfl,R,S):=y.ex;refine Df R S St.sc (λT H Q E h=>h.1) λA outer s H T Q E U h=>?_;let(hl,G,as,V,tb,l,o):=h;rw [a] at hl;let(X,sr):=BB St.np V tb l hl;have m:=wM (outer:=outer) (s:=s) (H:=H) (E:=E) M u St.sc z B C hk D I L U
 refine{YM W F H E d.body,(by
  cases t:Γ.qt with
  |false=>exact qY m t d.body _ St.Tj|true=>exact zG m d.body _ (by have:=St.qui;rw [t] at this;exact this) St.Tj),G,fC d as,sr,?_}
 dsimp only at o;unfold aW at o;rw [if_pos X] at o;cases r:bM F d.body (fC d as) with
 |bad=>rw [r] at o;exact o|exc c=>rw [r] at o;exact o|ok fl=>
  rw [r] at o;cases fl with
  |nx env=>exact λY b e sr g=>o .aN b e g .n|rt p=>exact λv b e Z g=>o v b e g Z|bk env=>exact o.elim|ct env=>exact o.elim
def AllK(K:zz8)(ts:List (hB×Str))(Γ:Pg):f9->Prop
 |[]=>True|r::l=>B3 K ts r.hl r.h r.st/\dU (Γ.at l r.hl) r.h r.d r.st/\((l.map (·.f)).contains r.f=gh/\(r.d.uB.isNone==!fB r.f)=gf/\(r.d.uB.isNone=gf->r.f=r.h)/\P6 r.f=gh)/\AllK K ts Γ l
def sD(M:mF K mg Γ W)(l:f9)(hl:Bool):mF K mg (Γ.at l hl) W:=⟨M.hK,M.hm,M.gs,M.bs,M.NA,M.cls,M.xc,M.xs,M.rm,M.Ph,M.bm⟩
def jm.mono{F:aP}{k:Nat}(h:jm P w K mg base W F j f)(hk:j<=k):jm P w K mg base W F k f:=by let(a,fd,b,c,d):=h.ex;exact{a,fd,b,c.mono hk,d}
def o6{F a:aP}{b:Str}{n:Nat}{q:Option (Str×List Nat)}(e:∀as,a b as=F f as):FC W a b n q=FC W F f n q:=by
 funext c H Q E
 unfold FC;simp! [e]
def jm.swap{F a:aP}{k:Nat}(h:jm P w K mg base W F k f)(e:∀as,a f as=F f as):jm P w K mg base W a k f:=by let(b,fd,c,d,g,h3,i,j):=h.ex;refine{b,fd,c,?_,g,h3,i,λas m=>j as (by rw [<-e];exact m)};rw [o6 e];exact d
def JV.swap{F a:aP}{k:Nat}{q:Hs}(h:JV P w K mg base W F j q)(hk:j<=k)(e:∀as,a q.f as=F q.f as):JV P w K mg base W a k q:=by let(b,fd,c,d,g,h3,i,m):=h.ex;refine{b,fd,c,?_,g,h3,i,m};rw [o6 e];exact d.mono hk
variable{B:aP}
def iq{r:Row}{l:f9}{g:Str}(h:(g==r.f)=gh)(as:List PV):aI B (tab (r::l)) g as=aI B (tab l) g as:=by show(if(g==r.f)=gf then _ else _)=_;rw [h];rfl
def uH{r:Row}{l:f9}(as:List PV):aI B (tab (r::l)) r.f as=aW (aI B (tab l)) r.d as:=by show(if(r.f==r.f)=gf then _ else _)=_;rw [beq_self_eq_true];rfl
theorem mZ(a:∀g as,B g as≠.bad->fB g=gf):∀(l:f9) {ts:List (hB×Str)},AllK K ts Γ l->∀g as,aI B (tab l) g as≠.bad->(mI l).contains g=gf\/fB g=gf
 |[],_,_,g,as,h=>.inr (a g as h)|r::l,ts,⟨_,_,⟨_,hn,_,_⟩,c⟩,g,as,h=>by
  by_cases e:(g==r.f)=gf
  .have i:=zzy.mp e
   subst i;cases b:r.d.uB with
   |none=>left;unfold mI;rw [List.filterMap_cons,b];simp|some q=>right;rw [b] at hn;simpa using hn
  .rw [iq (zx6 e)] at h;rcases mZ a l c g as h with z|z
   .left;unfold mI at z⊢;rw [List.filterMap_cons];split
    .exact z
    .rw [List.contains_cons,z,Bool.or_true]
   .exact .inr z
def i4:∀{l:f9} {f:Str},(oB l).contains f=gf->l≠[]/\(mI l).contains f=gf:=by
 intro l f h;unfold oB at h;cases e:l.getLast? with
 |none=>rw [e] at h;cases h
 |some r=>
  rw [e] at h;have hm:=List.mem_of_getLast? e;refine{λz=>(by rw [z] at hm;cases hm),?_};dsimp only at h;split at h
  .rename_i a;have b:f=r.f:=zx6 h;rw [eg,b];exact ey.mpr {r,hm,if_pos a}
  .cases h
def yh(f:Str):P6 (cW f)=gf:=by unfold P6 cW;show((("@":Str)++f).cps[0]?==fP 64)=gf;have e:(("@":Str)++f).cps=("@":Str).cps++f.cps:=rfl;rw [e];simp [Array.getElem?_append];rfl
theorem ir:∀(l:f9) {ts:List (hB×Str)},AllK K ts Γ l->∀g as,P6 g=gf->aI B (tab l) g as=B g as
 |[],_,_,_,_,_=>rfl|r::l,ts,⟨_,_,⟨_,_,_,h0⟩,b⟩,g,as,a=>by
  have e:(g==r.f)=gh:=by
   cases z:g==r.f with
   |false=>rfl|true=>rw [zzy.mp z,h0] at a;cases a
  rw [iq e];exact ir l b g as a
theorem rT(c:B4 K W B)(l:f9){ts:List (hB×Str)}(h:AllK K ts Γ l):GH K W (aI B (tab l)) where
 fld:=λf q d a=>by rw [ir l h _ _ (yh f)] at a;let(n,o,p,b):=c.fld f q d a;exact{n,o,p,by rw [ir l h _ _ (yh f)];exact b}
 con:=λq a=>by rw [ir l h _ _ (by rfl)] at a;let(n,o,b):=c.con q a;exact{n,o,by rw [ir l h _ _ (by rfl)];exact b}
set_option tactic.hygienic true in
theorem nB(D:B4 K W B)(M:mF K mg Γ W)(t:K.In base)(G:base.Ns iR mg):∀(l:f9),AllK K W.ts Γ l->(∀f,(mI l).contains f=gf->jm P w K mg base W (aI B (tab l)) (2*l.length) f)/\(∀q∈AU l,JV P w K mg base W (aI B (tab l)) (2*l.length) q)/\∀f,(oB l).contains f=gf->jm P w K mg base W (aI B (tab l)) 2 f
 |[],_=>{λf a=>by simp [mI] at a,λq b=>by simp [AU] at b,λf a=>absurd rfl (i4 a).1}|r::l,j=>by
  let(he,hs,(Gr,hnm,E,_),F):=j;let(S,m,o):=nB D M t G l F;have p:l≠[]->2<=2*l.length:=λz=>by have:=List.length_pos_iff.mpr z;lia
  let(T,oc,od,kV,doc,pm,an,dG,ct,pH,U,e2,e3,H,e5):=he;have I:=rZ (st:=r.st) e2 e3 H;have ok:=Kg (P:=P) (w:=w) (nf:=r.f) (sD M l r.hl) t (k:=2*l.length) hs I (λg u=>S g u) (λq b=>m q b) (λf a=>{p (i4 a).1,o f a}) (λz=>p λy=>by subst y;cases z) (mZ D.any l F) (rT D l F) e5
  have L:∀g,(l.map (·.f)).contains g=gf->(g==r.f)=gh:=λg u=>by
   cases z:g==r.f with
   |false=>rfl|true=>rw [zzy.mp z,Gr] at u;cases u
  have sp:FC W (λ_ as=>aW (aI B (tab l)) r.d as) r.f (r.d.N.take r.d.np).length r.d.uB=FC W (aI B (tab (r::l))) r.f (r.d.N.take r.d.np).length r.d.uB:=o6 λas=>(uH as).symm;rw [sp] at ok;have c:(r.d.N.take r.d.np).length=r.d.np:=by rw [List.length_take];have:=hs.np;lia
  have V:∀f,(mI l).contains f=gf->(l.map (·.f)).contains f=gf:=λf a=>by
   rw [eg] at a⊢;unfold mI at a;let(x,O,e):=ey.mp a;split at e
   .cases e;exact List.mem_map_of_mem (f:=(·.f)) O
   .cases e
  have h:∀f,(mI (r::l)).contains f=gf->jm P w K mg base W (aI B (tab (r::l))) (2*(r::l).length) f:=λf a=>by
   by_cases X:(f==r.f)=gf/\r.d.uB=gd
   .let(h1,Q):=X;have e:=zzy.mp h1;subst e;refine{T,_,r.d.N.take r.d.np,by rw [Q] at ok;exact ok,?_,H,I.binds hs.bind,λas A=>?_}
    .rw [E (by rw [Q];rfl)];exact PySem.W.mg_of t G U
    .rw [uH] at A;unfold aW at A;by_cases C:fj r.d as=gf
     .unfold fj at C;rw [Q] at C;rw [c];exact zzy.mp C
     .rw [if_neg C] at A;exact absurd rfl A
   .have Y:(mI l).contains f=gf:=by
     unfold mI at a⊢;rw [List.filterMap_cons] at a;split at a
     .exact a
     .rename_i y R;split at R
      .rename_i s;cases R;rw [List.contains_cons,er] at a;rcases a with z|z
       .exact absurd {z,Option.isNone_iff_eq_none.mp s} X
       .exact z
      .cases R
    exact((S f Y).mono (by rw [cC];lia)).swap λas=>iq (L f (V f Y)) as
  refine{h,λq b=>?_,λf a=>?_}
  rotate_left
  .cases l with
   |nil=>exact h f (i4 a).2|cons x Z=>
    have e:oB (r::x::Z)=oB (x::Z):=by unfold oB;rw [List.getLast?_cons_cons]
    rw [e] at a;exact(o f a).swap λas=>iq (L f (V f (i4 a).2)) as
  .unfold AU at b;rw [List.filterMap_cons] at b;have i:q∈AU l->JV P w K mg base W (aI B (tab (r::l))) (2*(r::l).length) q:=λb=>by
    refine(m q b).swap (by rw [cC];lia) λas=>iq (L q.f ?_) as;unfold AU at b;let(x,O,e):=ey.mp b;let(y,_,rfl):=cz.mp e;rw [eg];exact List.mem_map_of_mem (f:=(·.f)) O
   cases s:r.d.uB with
   |none=>rw [s] at b;exact i b|some y=>
    rw [s] at b;rcases ef.mp b with z|z
    .subst z;rw [s] at ok;exact{T,_,r.d.N.take r.d.np,ok,PySem.W.mg_of t G U,H,I.binds hs.bind,c}
    .exact i z
end
structure OS where
 c:Str
 fs:List (Str×PV)
noncomputable abbrev Sg:=List OS
abbrev Qn(o:OS):PV:=if DR o.c then .cA (o.fs.map (·.1)) (o.fs.map (·.2)) else .lst (o.fs.map (·.2))
abbrev C8(o:OS)(g:Str):Res PV:=match o.fs.find? λq=>cW q.1==g with
 |some q=>.ok q.2|none=>.bad
abbrev aV(s:Sg):aP:=λg as=>match as with
 |[.obj n]=>(match s[n]? with
  |some o=>if bF o.c then(if g==dW then .ok (Qn o) else .bad) else if g==dW then .bad else C8 o g
  |none=>.bad)
 |_=>.bad
inductive Rs(α:Type) where
 |ok (a:α) (s:Sg)|exc (c:Str) (s:Sg)|bad
abbrev Rs.bind{b d:Type}:Rs b->(b->Sg->Rs d)->Rs d
 |.ok a s,f=>f a s|.exc c s,_=>.exc c s|.bad,_=>.bad
abbrev Rs.of{b:Type}(r:Res b)(s:Sg):Rs b:=match r with
 |.ok a=>.ok a s|.exc c=>.exc c s|.bad=>.bad
abbrev Rs.well{b:Type}:Rs b->Rs b
 |.ok a s=>.ok a s|_=>.bad
noncomputable abbrev cM:=Str->List PV->Sg->Rs PV
abbrev mP(c m:Str):Str:=(c++".")++m
mutual
inductive X2 where
 |pu (e:E)
 |v9 (f:Str) (as:Es)
 |c1 (f:Str) (as:tY)
 |met (o:E) (c m:Str) (as:Es)
 |new (c:Str) (as:Es)
 |tup (as:tY)
 |cmp (o:tX) (a b:X2)
 |nR (k:Nat) (ba:List Nat) (tg:Tg) (it elt:X2)
 |lV
 |vf (as:tY)
 |dict (x:X2)
 |z8 (a:E) (x:X2)
 |nV (a k:E)
 |sub (x:X2) (e:E)
 |ite (c:E) (a b:X2)
 |JG (f:Str) (ba:List Nat) (x:X2)
inductive tY where
 |nil|cons (x:X2) (xs:tY)
end
abbrev bK(f:PV->Sg->Rs PV):List PV->Sg->Rs (List PV)
 |[],s=>.ok [] s|x::xs,s=>(f x s).well.bind λy s1=>(bK f xs s1).bind λys a=>.ok (y::ys) a
abbrev Tf(p:PV)(s:Sg):Rs Bool:=match p with
 |.bl b=>.ok b s|_=>.bad
abbrev qz{a:Type}(s:Sg)(k:Str->Bool)(p:PV)(f:Nat->OS->Rs a):Rs a:=match p with
 |.obj n=>(match s[n]? with
  |some o=>if k o.c then f n o else .bad
  |none=>.bad)
 |_=>.bad
abbrev Nq(c:Str)(fs:List (Str×PV))(s:Sg):Rs PV:=.ok (.obj s.length) (s++[⟨c,fs⟩])
abbrev putD(z:Str)(p:PV)(fs:List (Str×PV)):List (Str×PV):=(eU (fs.map (·.1)) z).zip (df (fs.map (·.1)) (fs.map (·.2)) z p)
abbrev dQ(z:Str)(fs:List (Str×PV)):List (Str×PV):=(fV (fs.map (·.1)) z).zip (bQ (fs.map (·.1)) (fs.map (·.2)) z)
abbrev rM:List Nat->Sl->Res Sl
 |[],_=>.ok []|i::r,env=>(iL env[i]?).bind λp=>(rM r env).bind λps=>.ok (.val p::ps)
section
variable(F1:Sg->aP)(F2:cM)
abbrev g8(s:Sg)(n:Nat)(c:Str):Bool:=match s[n]? with
 |some o=>o.c==c&&!bF c|none=>gh
abbrev En(c:Str)(ps:List PV)(s:Sg):Rs PV:=if bF c then .bad else(F2 (mP c (zu 14)) (.obj s.length::ps) (s++[{c,[]}])).bind λp a=>if yO p then .ok (.obj s.length) a else .bad
mutual
noncomputable def bC:X2->Sl->Sg->Rs PV
 |.pu e,env,s=>.of (aB (F1 s) e env) s|.v9 f as,env,s=>(Rs.of (br (F1 s) as env) s).bind λps s=>F2 f ps s|.c1 f as,env,s=>(eK as env s).bind λps s=>.of (F1 s f ps) s|.met o c m as,env,s=>(Rs.of (aB (F1 s) o env) s).bind λp s=>(match p with
  |.obj n=>if g8 s n c then(Rs.of (br (F1 s) as env) s).bind λps s=>F2 (mP c m) (.obj n::ps) s else .bad
  |_=>.bad)
 |.new c as,env,s=>(Rs.of (br (F1 s) as env) s).bind λps s=>En F2 c ps s|.tup as,env,s=>(eK as env s).bind λps s=>.ok (.tup ps) s|.cmp o a b,env,s=>(bC a env s).bind λp s=>(bC b env s).bind λq s=>.of (cN o p q) s|.nR k g h it elt,env,s=>(bC it env s).bind λp s=>(match p with
  |.lst xs=>if xs.length<bS then(bK (λx s=>(Rs.of (h.put x (jz k .no++eX env g)) s).bind λenv' s=>bC elt env' s) xs s).bind λys s=>.ok (.lst ys) s else .bad
  |_=>.bad)
 |.lV,_,s=>Nq "#d" [] s|.vf as,env,s=>(eK as env s).bind λps s=>Nq "#l" (ps.map λp=>(("":Str),p)) s|.dict x,env,s=>(bC x env s).bind λp s=>.of (gX [p]) s|.z8 a x,env,s=>(Rs.of (aB (F1 s) a env) s).bind λq s=>qz s H9 q λZ Z=>(bC x env s).bind λp s=>qz s H9 q λn o=>if o.fs.length<bS then .ok PV.aN (s.set n {o.c,o.fs++[(("":Str),p)]}) else .bad
 |.nV a k,env,s=>(Rs.of (aB (F1 s) a env) s).bind λq s=>qz s DR q λZ Z=>(Rs.of (aB (F1 s) k env) s).bind λz s=>qz s DR q λn o=>match fz z with
  |some z=>(match bJ (o.fs.map (·.1)) (o.fs.map (·.2)) z with
   |some p=>.ok p (s.set n {o.c,dQ z o.fs})|none=>.bad)
  |none=>.bad
 |.sub x e,env,s=>(bC x env s).bind λp s=>(Rs.of (aB (F1 s) e env) s).bind λq s=>.of (ay p q) s|.ite c a b,env,s=>(Rs.of (aB (F1 s) c env) s).bind λp s=>(Tf p s).bind λt s=>if t then bC a env s else bC b env s
 |.JG _ g x,env,s=>(Rs.of (rM g env) s).bind λenv' s=>match bC x env' s with
  |.exc d s'=>.of (F1 s' (zu 6) [.exc d]).well s'|r=>r
noncomputable def eK:tY->Sl->Sg->Rs (List PV)
 |.nil,_,s=>.ok [] s|.cons x xs,env,s=>(bC x env s).bind λp s=>(eK xs env s).bind λps s=>.ok (p::ps) s
end
end
inductive T2 where
 |pu (e:E)|cmp (o:tX) (a b:X2)|or (a b:T2)
section
variable(F1:Sg->aP)(F2:cM)
abbrev Az:T2->Sl->Sg->Rs Bool
 |.pu e,env,s=>(Rs.of (aB (F1 s) e env) s).bind Tf|.cmp o a b,env,s=>(bC F1 F2 (.cmp o a b) env s).bind Tf|.or a b,env,s=>(Az a env s).bind λt s=>if t then .ok gf s else Az b env s
end
mutual
inductive S2 where
 |p (s:S)
 |set (i:Nat) (x:X2)
 |par (i j:Nat) (xs:tY)
 |ex (x:X2)
 |ret (x:X2)
 |tm (c:Str) (i:Nat) (f:Str) (x:X2)
 |xE (a k e:E)
 |ite (c:T2) (a b:pK)
 |hJ (tg:Tg) (it:I) (b:pK)
inductive pK where
 |nil|cons (s:S2) (ss:pK)
end
abbrev oS(f:Str)(p:PV):List (Str×PV)->List (Str×PV)
 |[]=>[(f,p)]|(g,q)::r=>if g=f then(g,p)::r else(g,q)::oS f p r
abbrev Oz(s:Sg)(n:Nat)(f:Str)(p:PV):Rs Unit:=match s[n]? with
 |some o=>if o.fs.length<1000 then .ok () (s.set n {o.c,oS f p o.fs}) else .bad
 |none=>.bad
abbrev jh(body:PV->Sl->Sg->Rs Fl):List PV->Sl->Sg->Rs Fl
 |[],env,s=>.ok (.nx env) s|x::xs,env,s=>(body x env s).bind λf s=>match f with
  |.nx env'=>jh body xs env' s|.ct env'=>jh body xs env' s|.bk env'=>.ok (.nx env') s|.rt p=>.ok (.rt p) s
abbrev Bv(f:Fl)(s:Sg)(k:Sl->Sg->Rs Fl):Rs Fl:=match f with
 |.nx env=>k env s|f=>.ok f s
abbrev clean(f:Fl):Res Fl:=match f with
 |.nx env=>if env.any Slot.aZ then .bad else .ok (.nx env)
 |.rt p=>.ok (.rt p)|_=>.bad
section
variable(F1:Sg->aP)(F2:cM)
mutual
noncomputable def dC:S2->Sl->Sg->Rs Fl
 |.p st,env,s=>.of ((dH (F1 s) st env).bind clean) s|.set i x,env,s=>(bC F1 F2 x env s).bind λp s=>.ok (.nx (env.set i (.val p))) s|.par i j xs,env,s=>(eK F1 F2 xs env s).bind λps s=>(match ps with
  |[p,q]=>.ok (.nx ((env.set i (.val p)).set j (.val q))) s|_=>.bad)
 |.ex x,env,s=>(bC F1 F2 x env s).bind λZ s=>.ok (.nx env) s|.ret x,env,s=>(bC F1 F2 x env s).bind λp s=>.ok (.rt p) s|.tm c i f x,env,s=>(bC F1 F2 x env s).bind λp s=>(match env[i]? with
  |some (.val (.obj n))=>if g8 s n c then(Oz s n f p).bind λZ s=>.ok (.nx env) s else .bad
  |_=>.bad)
 |.xE a k e,env,s=>(Rs.of (aB (F1 s) e env) s).bind λp s=>(Rs.of (aB (F1 s) a env) s).bind λq s=>(Rs.of (aB (F1 s) k env) s).bind λz s=>(qz s DR q λn o=>match fz z with
  |some z=>if o.fs.length<bS then .ok PV.aN (s.set n {o.c,putD z p o.fs}) else .bad
  |none=>.bad).bind λZ s=>.ok (.nx env) s
 |.ite c a b,env,s=>(Az F1 F2 c env s).bind λt s=>if t then aJ a env s else aJ b env s
 |.hJ d it b,env,s=>(Rs.of (wO (F1 s) it env) s).bind λxs s=>jh (λx env s=>(Rs.of (d.put x env) s).bind λenv' s=>aJ b env' s) xs env s
noncomputable def aJ:pK->Sl->Sg->Rs Fl
 |.nil,env,s=>.ok (.nx env) s|.cons st ss,env,s=>(dC st env s).bind λf s=>Bv f s (aJ ss)
end
end
structure D2 where
 N:List Str
 np:Nat
 body:pK
abbrev gR(d:D2)(as:List PV):Sl:=as.map .val++jz (d.N.length-as.length) .no
abbrev cF(F1:Sg->aP)(F2:cM)(d:D2)(as:List PV)(s:Sg):Rs PV:=
 if as.length==d.np then(aJ F1 F2 d.body (gR d as) s).bind λf s=>(match f with
  |.nx _=>.ok .aN s|.rt p=>.ok p s|_=>.bad)
 else .bad
abbrev ax(F1:Sg->aP):List (Str×D2)->cM
 |[],_,_,_=>.bad|(n,d)::r,f,as,s=>if f==n then cF F1 (ax F1 r) d as s else ax F1 r f as s
noncomputable abbrev Wd.at(W:Wd)(ob:List Ob):Wd:={W with ob:=ob}
abbrev aE(l:List Ob):Sg:=l.map λo=>⟨o.c,o.fs⟩
def zY(ob d:List Ob):Prop:=∀(n:Nat) (o:Ob),ob[n]?=fP o->∃b,d[n]?=fP b/\b.a=o.a/\b.dx=o.dx/\b.C=o.C/\b.c=o.c
def zY.refl(ob:List Ob):zY ob ob:=λZ o h=>⟨o,h,rfl,rfl,rfl,rfl⟩
theorem zY.trans{a b c:List Ob}(h:zY a b)(k:zY b c):zY a c:=λn o e=>by let(o1,d,f,g,h3,i):=h n o e;let(o2,j,m,k2,p,q):=k n o1 d;exact{o2,j,m.trans f,k2.trans g,p.trans h3,q.trans i}
section
variable{W:Wd}{ob aG:List Ob}
mutual
theorem Rep.at(i:zY ob aG):∀(p:PV) {v:V},Rep (W.at ob) G p v->Rep (W.at aG) G p v
 |.aN,_,h=>by simpa only [Rep] using h|.bl b,_,h=>by simpa only [Rep] using h|.int _,_,h=>by simpa only [Rep] using h|.str z,_,h=>by simpa only [Rep] using h|.tup xs,_,h=>by simp! [Rep] at h⊢;let(a,vs,e,q,l):=h;exact{a,vs,e,q,ah.at i xs l}|.lst xs,_,h=>by simp! [Rep] at h⊢;let(a,vs,e,q,l):=h;exact{a,vs,e,q,ah.at i xs l}|.exc c,_,h=>by simpa only [Rep] using h|.cA k vs,_,h=>by simp! [Rep] at h⊢;let(a,o,d,e,n,m,l):=h;exact{a,o,d,e,n,m,ah.at i vs l}|.obj n,_,h=>by simp! [Rep] at h⊢;let(o,e,rfl):=h;let(f,g,j,_):=i n o e;exact{f,g,by rw [j]}
theorem ah.at(i:zY ob aG):∀(ps:List PV) {vs:List V},ah (W.at ob) G ps vs->ah (W.at aG) G ps vs
 |[],_,h=>by simpa only [ah] using h|p::ps,_,h=>by simp! [ah] at h⊢;let(v,r,e,a,b):=h;exact{v,r,e,Rep.at i p a,ah.at i ps b}
end
end
def wt(H d:Hp):Prop:=∀b o,H b=fP o->∃c,d b=fP c/\((∀a,o≠.tup a)->∀a,c≠.tup a)
def wt.refl(H:Hp):wt H H:=λZ o h=>⟨o,h,id⟩
theorem wt.trans{d:Hp}(a:wt H H1)(b:wt H1 d):wt H d:=λc o h=>by let(o1,e,f):=a c o h;let(o2,g,k2):=b c o1 e;exact{o2,g,λn=>k2 (f n)}
def jc.WB{c:Hp}(h:jc H c):wt H c:=λb o e=>by
 rcases h b o e with⟨n,a⟩|⟨d,m,rfl,a⟩
 .exact⟨o,a,id⟩
 .exact{_,a,λZ Z z=>nomatch z}
def wt.of{a:Hp}(h:az H a):wt H a:=λb o e=>{o,h b o e,id}
def wt.has{b:Hp}(h:wt H b)(z:H a≠gd):b a≠gd:=by
 cases e:H a with
 |none=>exact absurd e z|some o=>let(d,c,_):=h a o e;rw [c];exact nofun
theorem wt.ji{b:Hp}(h:wt H b)(z:H a≠gd)(n:∀vs,H a≠fP (.tup vs)):∀vs,b a≠fP (.tup vs):=λvs y=>by
 cases e:H a with
 |none=>exact absurd e z|some o=>let(f,c,k):=h a o e;rw [y] at c;cases c;exact k (λd q=>n d (by rw [e,q])) vs rfl
structure gb(W:Wd)(ob:List Ob)(G H:Hp)(aG:List Ob)(G' H':Hp):Prop where
 ids:zY ob aG
 g:az G G'
 h:wt H H'
 sub:az G' H'
 own:∀a,H a≠gd->(∀vs,H a≠fP (.tup vs))->G a=gd->G' a=gd
 tab:bz (W.at ob) G H->bz (W.at aG) G' H'
section
variable{W:Wd}{ob aG cL hV:List Ob}{G' H' G1 G2 H2:Hp}
def gb.refl(s:az G H):gb W ob G H ob G H:={.refl _,.refl _,.refl _,s,λZ Z Z h=>h,id}
def gb.trans(a:gb W ob G H cL G1 H1)(b:gb W cL G1 H1 hV G2 H2):gb W ob G H hV G2 H2:=
 {a.ids.trans b.ids,a.g.trans b.g,a.h.trans b.h,b.sub,λx c h3 d=>b.own x (a.h.has c) (a.h.ji c h3) (a.own x c h3 d),λt=>b.tab (a.tab t)}
def aC.kQ(g:aC (W.at ob) G H G' H'):gb W ob G H ob G' H':={.refl _,g.g,g.h.WB,g.sub,g.own,g.tab}
def gb.rep(g:gb W ob G H aG G' H')(h:Rep (W.at ob) G p v):Rep (W.at aG) G' p v:=Rep.same g.g p (Rep.at g.ids p h)
def gb.Sm{p:List PV}{v:List V}(g:gb W ob G H aG G' H')(h:ah (W.at ob) G p v):ah (W.at aG) G' p v:=ah.same g.g p (ah.at g.ids p h)
theorem Nw(h:env.any Slot.aZ=gh)(i:Nat)(p:PV):env[i]?≠fP (.own p):=λe=>by have:env.any Slot.aZ=gf:=d8.mpr {_,a7 e,rfl};rw [this] at h;cases h
theorem SR.kQ(r:SR (W.at ob) H0 env σ G H)(no:env.any Slot.aZ=gh)(g:gb W ob G H aG G' H'):SR (W.at aG) H' env σ G' H' where
 len:=r.len
 sub:=g.sub
 base:=.refl _
 slot:=λi s e=>by
  let(o,a,b):=r.slot i s e
  refine{o,a,?_};cases s with
  |no=>exact trivial|val p=>let(v,e,q):=b;exact{v,e,g.rep q}|own p=>exact absurd e (Nw no i p)
 apart:=r.apart
 tab:=g.tab r.tab
 jf:=g.tab r.tab
structure Ent(ob:List Ob)(G H:Hp)(aG:List Ob)(G' H0:Hp):Prop where
 ids:zY ob aG
 g:az G G'
 h:wt H H0
 own:∀a,H a≠gd->(∀vs,H a≠fP (.tup vs))->G a=gd->G' a=gd
variable{obe:List Ob}{Ge He:Hp}
def Ent.refl:Ent ob G H ob G H:={.refl _,.refl _,.refl _,λZ Z Z h=>h}
def Ent.kQ(n:Ent obe Ge He ob G H0)(r:SR (W.at ob) H0 env σ G H):gb W obe Ge He ob G H:={n.ids,n.g,n.h.trans r.base.WB,r.sub,n.own,λZ=>r.tab}
def Ent.on(n:Ent obe Ge He ob G H0)(r:SR (W.at ob) H0 env σ G H)(g:gb W ob G H aG G' H'):Ent obe Ge He aG G' H':=by have k:=(n.kQ r).trans g;exact⟨k.ids,k.g,k.h,k.own⟩
def Ent.step(n:Ent obe Ge He ob G H0)(g:aC (W.at ob) G H0 G' H'):Ent obe Ge He ob G' H0:={n.ids,n.g.trans g.g,n.h,λa b h3 c=>g.own a (n.h.has b) (n.h.ji b h3) (n.own a b h3 c)}
def Ent.fin(n:Ent obe Ge He ob G H0)(t:bz (W.at ob) G H0)(g:aC (W.at ob) G H0 G' H'):gb W obe Ge He ob G' H':={n.ids,n.g.trans g.g,n.h.trans g.h.WB,g.sub,λa b h3 c=>g.own a (n.h.has b) (n.h.ji b h3) (n.own a b h3 c),λZ=>g.tab t}
end
structure lP(K:zz8)(mg:Str->Option gA)(ob:List Ob):Prop where
 inj:∀(n m:Nat) (o o':Ob),ob[n]?=fP o->ob[m]?=fP o'->o.a=o'.a->n=m
 cls:∀(n:Nat) (o:Ob),ob[n]?=fP o->bF o.c=gh->mg o.c=fP (.ref o.C)/\v8 K o.C/\∀f p,o.fs.lookup f=fP p->cU K o.C f
def C7{g:Str}(h:cW f=cW g):f=g:=by unfold cW at h;have e:∀x:Str,(("@":Str)++x).cps=("@":Str).cps++x.cps:=λZ=>rfl;have a:=congrArg Str.cps h;rw [e,e] at a;have h3:=Array.append_inj_right a rfl;cases f;cases g;exact congrArg Str.mk h3
def xP(f:Str):fB (cW f)=gf:=by unfold fB cW;have e:(("@":Str)++f).cps=("@":Str).cps++f.cps:=rfl;rw [e,Array.toList_append,List.contains_eq_mem];exact zzh (d2 _ (by decide))
theorem mm{q:Str×PV}:∀{fs:List (Str×PV)},(fs.find? λq=>cW q.1==cW f)=fP q->fs.lookup f=fP q.2
 |[],h=>by cases h
 | (g,p)::fs,h=>by
  rw [List.find?_cons] at h;rw [eH];cases e:cW g==cW f with
  |true=>rw [e] at h;cases h;rw [C7 (zzy.mp e),beq_self_eq_true]
  |false=>
   rw [e] at h;have n:(f==g)=gh:=by
    cases z:f==g with
    |false=>rfl|true=>rw [zzy.mp z,beq_self_eq_true] at e;cases e
   rw [n];exact mm h
def rV{ob:List Ob}{g:Str}(h:aV (aE ob) g [q]≠.bad):∃n o,q=.obj n/\ob[n]?=fP o/\aV (aE ob) g [q]=(if bF o.c then(if g==dW then .ok (Ao o) else .bad) else if g==dW then .bad else C8 ⟨o.c,o.fs⟩ g):=by
 cases q with
 |obj n=>
  cases e:ob[n]? with
  |none=>
   refine absurd ?_ h;show(match(aE ob)[n]? with|some o=>_|none=>Res.bad)=_;unfold aE;rw [c4,e];rfl
  |some o=>
   refine{n,o,rfl,e,?_};show(match(aE ob)[n]? with|some o=>(if bF o.c then(if g==dW then Res.ok (Qn o) else .bad) else if g==dW then .bad else C8 o g)|none=>Res.bad)=_;unfold aE;rw [c4,e];rfl
 |_=>exact absurd rfl h
set_option tactic.hygienic true in
theorem rW{K:zz8}{W:Wd}{ob:List Ob}(u:lP K mg ob):B4 K (W.at ob) (aV (aE ob)) where
 any:=λg as h=>by
  cases as with
  |nil=>exact absurd rfl h|cons q r=>
   cases r with
   |cons _ _=>refine absurd ?_ h;cases q<;>rfl
   |nil=>
    let(n,o,rfl,e,a):=rV h;rw [a] at h;split at h
    .split at h
     .rename_i z;rw [zzy.mp z];rfl
     .exact absurd rfl h
    .split at h
     .exact absurd rfl h
     .unfold C8 at h;split at h
      .rename_i i d;have:=List.find?_some d;rw [<-zzy.mp this];exact xP _
      .exact absurd rfl h
 fld:=λf q k h=>by
  let(n,o,rfl,e,a):=rV h
  have m:(cW f==dW)=gh:=by
   cases z:cW f==dW with
   |false=>rfl|true=>exact absurd (zzy.mp z) k
  rw [m] at a;cases b:bF o.c with
  |true=>rw [b,if_pos rfl] at a;exact absurd a h|false=>
   rw [b,if_neg zzf,if_neg zzf] at a;have d:C8 ⟨o.c,o.fs⟩ (cW f)=(match o.fs.find? (λ(q:Str×PV)=>cW q.1==cW f) with|some q=>.ok q.2|none=>.bad):=rfl
   cases j:o.fs.find? (λ(q:Str×PV)=>cW q.1==cW f) with
   |none=>rw [d,j] at a;exact absurd a h|some i=>have hl:o.fs.lookup f=fP i.2:=mm j;rw [d,j] at a;let(_,p,h3):=u.cls n o e b;exact{n,o,i.2,rfl,e,b,hl,a,p,h3 f _ hl}
 con:=λq h=>by
  let(n,o,rfl,e,a):=rV h
  cases b:bF o.c with
  |true=>rw [b,if_pos rfl] at a;exact⟨n,o,rfl,e,b,a⟩|false=>rw [b,if_neg zzf] at a;exact absurd a h
end Ci
variable{U:Ci.cM}{s1:Ci.Sg}
namespace L2
open PySem.Spec PyProof.Rows
def Ei{env:Env}{o:hD}{name:Str}{a:Pos}{args:List hD}{Q:jW}{E:jW}{s:gB}
 (j:attributeBase o name env (eval o env)=eval o env)
 (k:((backTo pos (starEach args env)).all (λx=>!x.1)&&(backToKw pos (keywordEach [] env)).all (λx=>x.1.isSome)
  &&decide (args.length+([]:List Keyword).length+(if([]:List Keyword).isEmpty then 0 else 1)<30))=gf)
 (m:(a.endLine==pos.line)=gf)
 (h:hF (hT prog w) A (eval o env) (λi b=>hF (hT prog w) A (getMethod i name (do return (<-importBound o env).getD gf)) (λg c=>hF (hT prog w) A (callWith pos g.1 g.2 (backTo pos (starEach args env)) (backToKw pos (keywordEach [] env))) Q E c) E b) E s):
 hF (hT prog w) A (eval (.Call (.Attribute o name a) args [] pos) env) Q E s:=by
 rw [arm_eval_Call,j];refine ar (wpAny_mono h (λi b d=>?_) λZ Z e=>e);refine ar (wpAny_standAt ?_);have p:methodCallForm (args.length+([]:List Keyword).length) (backTo pos (starEach args env)) (backToKw pos (keywordEach [] env))=gf:=k;have q:methodCallPos gf o env a pos=pure pos:=by unfold methodCallPos;simp [m]
 unfold methodCall;rw [p,q];refine ar (wpAny_holding (wpAny_mono d (λg c f=>?_) λZ Z e=>e));exact ar (bT f)
end L2
namespace Ci
open L2
abbrev Gn(W:Wd)(c:Str)(s:Sg)(ob:List Ob)(G H:Hp):XK:=λd e f=>∃C a b g,d=.ref C/\e=fP a/\c∈W.xs/\W.mg c=fP (.ref C)/\gb W ob G H b g f/\lP W.K W.mg b/\aE b=s
abbrev PB(W:Wd)(F2:cM)(f:Str)(n:Nat):Sp:=λd H Q E=>d.length=n/\∃ob G as,az G H/\bz (W.at ob) G H/\lP W.K W.mg ob/\ah (W.at ob) G as d/\(match F2 f as (aE ob) with
 |.ok p s=>∀v b e a,gb W ob G H b e a->lP W.K W.mg b->aE b=s->Rep (W.at b) e p v->Q v a|.exc c s=>∀g h a,Gn W c s ob G H g h a->E g h a|.bad=>False)
structure km where
 cs:List Str
 ms:List (Str×Str)
 ns:List Str
 fl:List (Str×Str)
 td:List Str:=[]
noncomputable abbrev km.Rm(a:km):km:={a with cs:=[],td:=[]}
structure kj(P:hG)(w:hI)(K:zz8)(mg:Str->Option gA)(base:ig)(W:Wd)(F2:cM)(k:Nat)(f:Str)(fa:hB):Prop where
 ex:∃fd ps,fF P w K mg base (dF P w) k fa fd ps (PB W F2 f ps.length)/\Binds K fd ps []/\∀as s,F2 f as s≠.bad->as.length=ps.length
structure T1(P:hG)(w:hI)(K:zz8)(mg:Str->Option gA)(base:ig)(W:Wd)(F1:Sg->aP)(Γ:Pg)(k:Nat):Prop where
 M:∀ob,mF K mg Γ (W.at ob)
 F:∀ob,lP W.K W.mg ob->∀f,Γ.fs.contains f=gf->jm P w K mg base (W.at ob) (F1 (aE ob)) k f
 H:∀ob,lP W.K W.mg ob->∀q∈Γ.hs,JV P w K mg base (W.at ob) (F1 (aE ob)) k q
 Q:∀ob,lP W.K W.mg ob->∀f,Γ.qs.contains f=gf->jm P w K mg base (W.at ob) (F1 (aE ob)) 2 f
 A:∀ob,lP W.K W.mg ob->∀g as,F1 (aE ob) g as≠.bad->Γ.fs.contains g=gf\/fB g=gf
 D:∀ob,lP W.K W.mg ob->GH K (W.at ob) (F1 (aE ob))
 qt:Γ.qt=gh
 hl:Γ.hl=gh
 k2:2<=k
structure JW(P:hG)(w:hI)(K:zz8)(mg:Str->Option gA)(base:ig)(W:Wd)(F2:cM)(Δ:km)(k:Nat):Prop where
 met:∀c m,Δ.ms.contains (c,m)=gf->∃C fa,mg c=fP (.ref C)/\Meth K C m fa/\kj P w K mg base W F2 k (mP c m) fa
 new:∀c,Δ.ns.contains c=gf->∃C fa j,mg c=fP (.ref C)/\v8 K C/\Mk K C fa/\j+1<=k/\kj P w K mg base W F2 j (mP c (zu 14)) fa
 fl:∀c f,Δ.fl.contains (c,f)=gf->∀C,mg c=fP (.ref C)->cU K C f
def GC(P:hG)(w:hI)(K:zz8)(mg:Str->Option gA)(base:ig)(k:Nat)(f:hB)(H:Hp)(R:VK)(g:XK):Prop:=
 ∀(X:Cx) (a:kd) (b:St) (s:gB) (Q:VK),X.prog=P->X.w=w->X.K=K->X.mg=mg->X.base=base->dB k X.A->Inv X a b H s->(∀v c,R v c->Q v c)->(∀e d,dF X.prog X.w X.stack H s g e d->X.xe e d)->zx7 X (call (.ref f) []) (EP X a b Q) X.xe s
abbrev spT(P:hG)(w:hI)(K:zz8)(mg:Str->Option gA)(base:ig)(k:Nat)(W:Wd)(F1:Sg->aP):Sp:=λc H Q Z=>c.length=1/\∃f e,c=[.ref f]/\(∀h,fE P w H h->PySem.W.FnAt f h)/\GC P w K mg base k f H Q e/\
 ∀g i b,e g i b->∃d C a ob G,g=.ref C/\i=fP a/\d∈W.xs/\W.mg d=fP (.ref C)/\az G b/\bz (W.at ob) G b/\lP W.K W.mg ob/\(match F1 (aE ob) (zu 6) [.exc d] with
  |.ok p=>∀v j m,aC (W.at ob) G b j m->Rep (W.at ob) j p v->Q v m|_=>False)
def Uo(P:hG)(w:hI)(K:zz8)(mg:Str->Option gA)(base:ig)(W:Wd)(F1:Sg->aP)(F2:cM)(Γ:Pg)(b:km)(k:Nat)(f:Str):Prop:=
 ∃a j fd x,mg f=fP (.ref a)/\PySem.W.keepIn K (.ref a)=gf/\j+3<=k/\fF P w K mg base (dF P w) (j+3) a fd [x] (spT P w K mg base (j+2) W F1)/\Binds K fd [x] []/\T1 P w K mg base W F1 Γ j/\JW P w K mg base W F2 b j
structure eP(W:Wd)(obe:List Ob)(Ge He:Hp)(env:Sl)(σ:St)(s:Sg)(ob:List Ob)(H0 G H:Hp):Prop where
 sr:SR (W.at ob) H0 env σ G H
 u:lP W.K W.mg ob
 n:Ent obe Ge He ob G H0
 s:aE ob=s
 no:env.any Slot.aZ=gh
structure PK(X:Cx)(W:Wd)(F2:cM)(k:Nat)(f:Str)(fa:hB):Prop where
 ex:∃fd ps,fF X.prog X.w X.K X.mg X.base (dF X.prog X.w) k fa fd ps (PB W F2 f ps.length)/\Binds X.K fd ps []/\∀as s,F2 f as s≠.bad->as.length=ps.length
structure ib(Γ:Pg)(Δ:km)(F1:Sg->aP)(F2:cM)(W:Wd)(N:List Str)(sc:ia)(k:Nat)(E:XK)(X:Cx):Prop where
 C:∀ob,lP W.K W.mg ob->eW Γ (F1 (aE ob)) (W.at ob) N sc k X
 pass:Passes (dF X.prog X.w) X E
 qt:Γ.qt=gh
 K:W.K=X.K
 mg:W.mg=X.mg
 v9:∀f,Δ.cs.contains f=gf->∃fa,X.mg f=fP (.ref fa)/\PySem.W.keepIn X.K (.ref fa)=gf/\PK X W F2 k f fa
 met:∀c m,Δ.ms.contains (c,m)=gf->∃C fa,X.mg c=fP (.ref C)/\Meth X.K C m fa/\PK X W F2 k (mP c m) fa
 new:∀c,Δ.ns.contains c=gf->∃C fa j,X.mg c=fP (.ref C)/\v8 X.K C/\Mk X.K C fa/\j+1<=k/\PK X W F2 j (mP c (zu 14)) fa
 fl:∀c f,Δ.fl.contains (c,f)=gf->∀C,X.mg c=fP (.ref C)->cU X.K C f
 td:∀f,Δ.td.contains f=gf->Γ.hl=gf->Uo X.prog X.w X.K X.mg X.base W F1 F2 Γ.vw Δ.Rm k f
section
variable{Γ:Pg}{Δ:km}{W:Wd}{F1:Sg->aP}{F2:cM}{sc:ia}{k:Nat}{E:XK}{obe ob aG:List Ob}{Ge He G' H':Hp}{s:Sg}
def eP.grow(t:zv5 H)(g:aC (W.at ob) G H G' H'):eP W obe Ge He env σ s ob H0 G' H':={t.sr.grow g,t.u,t.n.step (t.sr.on g),t.s,t.no}
def eP.on{s':Sg}(t:zv5 H)(g:gb W ob G H aG G' H')(u:lP W.K W.mg aG)(e:aE aG=s'):eP W obe Ge He env σ s' aG H' G' H':={t.sr.kQ t.no g,u,t.n.on t.sr g,e,t.no}
def bx{b:Type}(W:Wd)(obe:List Ob)(Ge He:Hp)(E:XK)(r:Rs b)(k:b->Sg->Prop):Prop:=match r with
 |.ok a s=>k a s|.exc c s=>∀d e H',Gn W c s obe Ge He d e H'->E d e H'|.bad=>False
def bx.bind{b d:Type}{r:Rs b}{f:b->Sg->Rs d}{k:d->Sg->Prop}(h:bx W obe Ge He E (r.bind f) k):bx W obe Ge He E r λa s=>bx W obe Ge He E (f a s) k:=by
 cases r with
 |ok a s=>exact h|exc c s=>exact h|bad=>exact h
def bx.imp{b:Type}{r:Rs b}{k d:b->Sg->Prop}(h:bx W obe Ge He E r k)(i:∀a s,k a s->d a s):bx W obe Ge He E r d:=by
 cases r with
 |ok a s=>exact i a s h|exc c s=>exact h|bad=>exact h
theorem Sj(f:Passes (dF X.prog X.w) X E)(t:zv5 H)(h:∀b d H',Gn W c s obe Ge He b d H'->E b d H'):um X (W.at ob) σ c G H:=λg A i j e m I g1 x=>f g σ i j e m I (GK.imp x λb a H' y=>h b a H' (by let(C,o,G2,p,q,r,z,g2):=y;exact{C,o,ob,G2,p,q,r,z,t.n.fin t.sr.jf (t.sr.on (g1.trans g2)),t.u,t.s}))
def cX{b:Type}(e:Passes (dF X.prog X.w) X E)(t:zv5 H){r:Res b}{d:b->Sg->Prop}(h:bx W obe Ge He E (Rs.of r s) d):Out X (W.at ob) r σ G H λa=>d a s:=by
 cases r with
 |ok a=>exact h|exc c=>exact Sj e t h|bad=>exact h
abbrev t2(W:Wd)(F1:Sg->aP)(F2:cM)(obe:List Ob)(Ge He:Hp)(E:XK)(x:X2):TE:=λσ H Q=>∃ob H0 G env s,eP W obe Ge He env σ s ob H0 G H/\
 bx W obe Ge He E (bC F1 F2 x env s) λp a=>∀v aG b G' H',eP W obe Ge He env σ a aG b G' H'->gb W ob G H aG G' H'->Rep (W.at aG) G' p v->Q v H'
abbrev t2s(W:Wd)(F1:Sg->aP)(F2:cM)(obe:List Ob)(Ge He:Hp)(E:XK)(x:tY):TA:=λσ H Q=>∃ob H0 G env s,eP W obe Ge He env σ s ob H0 G H/\
 bx W obe Ge He E (eK F1 F2 x env s) λb c=>∀a aG d G' H',eP W obe Ge He env σ c aG d G' H'->gb W ob G H aG G' H'->ah (W.at aG) G' b a->Q a H'
noncomputable abbrev G2(X:Cx)(W:Wd)(F1:Sg->aP)(F2:cM)(obe:List Ob)(Ge He:Hp)(E:XK)(x:X2)(p:hD):Prop:=PE X p (t2 W F1 F2 obe Ge He E x)
noncomputable abbrev JU(X:Cx)(W:Wd)(F1:Sg->aP)(F2:cM)(obe:List Ob)(Ge He:Hp)(E:XK)(x:tY)(p:List hD):Prop:=PA X p (t2s W F1 F2 obe Ge He E x)
def kM(S:zv3 X){e:Ci.E}{p:hD}(a:eR e=gf)(h:aK Γ N sc e p=gf):G2 X W F1 F2 obe Ge He E (.pu e) p:=by intro b s σ H Q I c;let(ob,H0,G,env,j,st,o):=c;have d:=st.s;subst d;have f:=S.C ob st.u;refine(bh e f p h).ge b s σ H Q I {H0,G,env,st.sr,?_};unfold bC at o;exact(cX S.pass st o).imp λp i v G' H' g t=>i v ob H0 G' H' (st.grow g) g.kQ (t.rep a)
def qr(S:zv3 X)(K:dB j X.A){m:hB}(cl:PK X W F2 j f m){h:gB}{as:List PV}
 (I:Inv X aa σ H h) (st:zv5 H) (l:ah (W.at ob) G as vs) (r:Vals vs us)
 (o:bx W obe Ge He E (F2 f as s) λp s'=>∀v aG L G' H',eP W obe Ge He env σ s' aG L G' H'->gb W ob G H aG G' H'->Rep (W.at aG) G' p v->Q v H'):zx7 X (call (.ref m) us) (EP X aa σ Q) X.xe h:=by
 let(fd,pn,M,O,b):=cl.ex;have P:=st.s;subst P;have i:F2 f as (aE ob)≠.bad:=λz=>by rw [z] at o;exact o
 refine zD (E:=λD F H'=>∃c s',F2 f as (aE ob)=.exc c s'/\Gn W c s' ob G H D F H') M K O (λe s' x=>?_) I r {by rw [l.length];exact b as _ i,ob,G,as,st.sr.sub,st.sr.tab,st.u,l,?_}
 .cases z:F2 f as (aE ob) with
  |ok q s1=>let(a,C',t,vs,H',B,rfl,Fl):=x;let(c,_,d,_):=Fl.ends;rw [z] at d;cases d
  |exc c s1=>rw [z] at o;refine S.pass aa σ H h e s' I (GK.imp x λR a H' y=>o R a H' ?_);let(c',s2,d,C,T,U,G2,Y,Z,h3,h4,g,u,e2):=y;rw [z] at d;cases d;exact{C,T,U,G2,Y,Z,h3,h4,(st.n.kQ st.sr).trans g,u,e2}
  |bad=>exact absurd z i
 .cases z:F2 f as (aE ob) with
  |ok q s1=>rw [z] at o;exact λv aG G' H' g u e rp=>o v aG _ G' H' (st.on g u e) g rp|exc c s1=>exact λD F H' x=>⟨c,s1,rfl,x⟩|bad=>exact absurd z i
def LV(S:zv3 X){a:Es}{p:hD}{ps:List hD}(B:Δ.cs.contains f=gf)(D:gu sc f=gf)(F:okN f=gf)(K:g9 a=gf)(c:dD Γ N sc a (p::ps)=gf):G2 X W F1 F2 obe Ge He E (.v9 f a) (.Call (.Name f np) (p::ps) [] pos):=by
 intro L M σ H Q I h;let(ob,H0,G,env,s,st,o):=h;have O:=st.s;subst O;have d:=S.C ob st.u;unfold bC at o;let(T,hm,hk,cl):=S.v9 f B
 refine wpAny_Call_Name_kw (eh I (dz d D) hm ?_ (eM F).1);cases a with
 |nil=>exact aO c|cons e a=>
 have y:=aj c;refine PySem.W.callWith_K (h₀:=X.base) I.ok.mod.Ii hk (bU (gZ (.cons e a) d _ c pos L M σ H (λi j=>∃b as,aC (W.at ob) G H b j/\ah (W.at ob) b as i/\bx W obe Ge He E (F2 f as (aE ob)) λp z=>∀v aG m G' H',eP W obe Ge He env σ z aG m G' H'->gb W ob G H aG G' H'->Rep (W.at aG) G' p v->Q v H') I ?_) λU V ⟨i,j,A,r,q⟩=>{A.jY,?_}) (notStar y.1 _ _) (cQ y.2 _ _)
 .exact{H0,G,env,st.sr,(cX S.pass st o.bind).imp λas w i b j g t=>{b,as,g,t.rep K,w}}
 .let(b,as,g,l,o1):=q;exact qr S d.rm cl A (st.grow g) l r (o1.imp λp z w v aG m G' H' t P R=>w v aG m G' H' t (g.kQ.trans P) R)
theorem pC{w:V}:∀{fs:List (Str×PV)} {vs:List V},((fs.map (·.1)).zip vs).lookup m=fP w->∃p,fs.lookup m=fP p
 |[],_,h=>by cases h
 |(g,p)::fs,[],h=>by cases h
 |(g,p)::fs,v::vs,h=>by
  have h:List.lookup m ((g,v)::((fs.map (·.1)).zip vs))=fP w:=h
  rw [eH] at h⊢;cases e:m==g with
  |true=>exact⟨p,rfl⟩|false=>rw [e] at h;exact pC h
def LY(S:zv3 X){e:Ci.E}{f:Es}{ps:List hD}{i:Pos}(hf:Δ.ms.contains (c,m)=gf)(cE:eR e=gf)(he:aK Γ N sc e po=gf)(Rh:fQ po=gf)(fw:(i.endLine==pos.line)=gf)(AM:g9 f=gf)(D:dD Γ N sc f ps=gf)(hl:fN f<30):
 G2 X W F1 F2 obe Ge He E (.met e c m f) (.Call (.Attribute po m i) ps [] pos):=by
 intro O sh σ H Q I h;let(ob,H0,G,env,s,st,o):=h;have e0:=st.s;subst e0;have SC:=S.C ob st.u;unfold bC at o;let(C,fa,hm,P,cl):=S.met c m hf;have Tp:((backTo pos (starEach ps X.env)).all (λx=>!x.1)&&(backToKw pos (keywordEach [] X.env)).all (λx=>x.1.isSome)&&decide (ps.length+([]:List Keyword).length+(if([]:List Keyword).isEmpty then 0 else 1)<30))=gf:=by rw [wR D];refine Bool.and_eq_true_iff.mpr {rfl,zzh ?_};rw [xh D];exact hl
 refine Ei (gJ Rh) Tp fw (bU ((bh e SC po he).ge O sh σ H (λv F=>∃n j,aC (W.at ob) G H j F/\Rep (W.at ob) j (.obj n) v/\g8 (aE ob) n c=gf/\bx W obe Ge He E ((Rs.of (br (F1 (aE ob)) f env) (aE ob)).bind λps s=>F2 (mP c m) (.obj n::ps) s) λp L=>∀v aG y G' H',eP W obe Ge He env σ L aG y G' H'->gb W ob G H aG G' H'->Rep (W.at aG) G' p v->Q v H') I ?_) λu s1 ⟨v,F,R,rv,q⟩=>?_)
 .refine{H0,G,env,st.sr,(cX S.pass st o.bind).imp λp d v j F g t=>?_}
  cases p with
  |obj n=>
   cases hc:g8 (aE ob) n c with
   |true=>dsimp only at d;rw [hc,if_pos rfl] at d;exact{n,j,g,t.rep cE,hc,d}|false=>dsimp only at d;rw [hc,if_neg nofun] at d;exact d.elim
  |_=>exact d.elim
 .let(n,j,g,T,qI,o1):=q;have pI:=st.grow g;simp! [Rep] at T;let(b,U,rfl):=T;obtain rfl:u=gA.ref b.a:=rv;let(_,M,hH,l0):=pI.sr.tab.o n b U;have hs:(aE ob)[n]?=fP ⟨b.c,b.fs⟩:=by unfold aE;rw [c4,U];rfl
  have mL:b.c=c/\bF c=gh:=by unfold g8 at qI;rw [hs] at qI;have z:=aj qI;exact{zzy.mp z.1,zx6 z.2}
  have iY:=mL.1;let(h1,h2,h3):=st.u.cls n b U (by rw [iY];exact mL.2);rw [ng (by rw [iY];exact mL.2)] at hH;have hC:b.C=C:=by rw [iY,S.mg,hm] at h1;cases h1;rfl
  rw [S.K] at h2 h3;have MN:((b.fs.map (·.1)).zip M).lookup m=gd:=by
   cases z:((b.fs.map (·.1)).zip M).lookup m with
   |none=>rfl|some w=>let(p',Kl):=pC z;have:=h3 m p' Kl;rw [cU,hC,P.at_] at this;cases this
  refine wW R hH h2 (by rw [hC];exact P) MN ?_;have run:∀{B:Hp} {Y:gB} {us:List gA} {vs:List V} {as:List PV} {G2:Hp},Inv X O σ B Y->aC (W.at ob) j F G2 B->ah (W.at ob) G2 as vs->Vals vs us->(bx W obe Ge He E (F2 (mP c m) (.obj n::as) (aE ob)) λp L=>∀v aG y G' H',eP W obe Ge He env σ L aG y G' H'->gb W ob G H aG G' H'->Rep (W.at aG) G' p v->Q v H')->zx7 X (call (.ref fa) (gA.ref b.a::us)) (EP X O σ Q) X.xe Y:=λ{B Y us vs as G2} Z g2 l r o2=>by refine qr (vs:=V.ref b.a::vs) (as:=.obj n::as) S SC.rm cl Z (pI.grow g2) (.cons ?_ l) (.cons rfl r) (o2.imp λp L d v aG y G' H' t g' T=>d v aG y G' H' t ((g.trans g2).kQ.trans g') T);simp! [Rep];exact⟨b,U,rfl⟩
  cases f with
  |nil=>
   cases ps with
   |cons _ _=>exact aO D|nil=>refine PySem.W.callWith_K0 (first:=[.ref b.a]) R.jY P.kp ?_;exact run (us:=[]) (vs:=[]) (as:=[]) R (.refl pI.sr.sub) .nil .nil o1
  |cons e1 f=>
   cases ps with
   |nil=>exact aO D|cons p ps=>
    have h7:=aj D;refine PySem.W.callWith_K (first:=[.ref b.a]) (h₀:=X.base) I.ok.mod.Ii P.kp (bU (gZ (.cons e1 f) SC _ D pos O s1 σ F (λvs B=>∃G2 as,aC (W.at ob) j F G2 B/\ah (W.at ob) G2 as vs/\bx W obe Ge He E (F2 (mP c m) (.obj n::as) (aE ob)) λp L=>∀v aG y G' H',eP W obe Ge He env σ L aG y G' H'->gb W ob G H aG G' H'->Rep (W.at aG) G' p v->Q v H') R ?_) λus Y ⟨vs,B,Z,r,q⟩=>{Z.jY,?_}) (notStar h7.1 _ _) (cQ h7.2 _ _)
    .exact{H0,j,env,pI.sr,(cX S.pass pI o1.bind).imp λas d vs G2 B g t=>{G2,as,g,t.rep AM,d}}
    .let(G2,as,g2,l,o2):=q;exact run Z g2 l r o2
def xM:(aE ob).length=ob.length:=by unfold aE;rw [zzl]
def kP{o o1:Ob}{n:Nat}(h:(ob++[o1])[n]?=fP o):ob[n]?=fP o\/n=ob.length/\o=o1:=by
 by_cases z:n<ob.length
 .rw [ek z] at h;exact .inl h
 .rw [el (by lia)] at h;cases e:n-ob.length with
  |zero=>rw [e] at h;cases h;exact .inr {by lia,rfl}
  |succ m=>rw [e] at h;cases h
def Eo{x:hB}{o1:Ob}(c:az G H)(f:H x=gd)(d:o1.a=x)(l:ah (W.at ob) G (o1.fs.map (·.2)) vs)(hs:az H H1)(b:H1 x=fP (mR o1 vs)):gb W ob G H (ob++[o1]) G H1:=by
 have i:zY ob (ob++[o1]):=λn o e=>{o,by rw [ek (cj.mp e).1];exact e,rfl,rfl,rfl,rfl};refine{i,.refl _,.of hs,c.trans hs,λZ Z Z h=>h,λt=>{t.t.same (.refl _) (λZ Z Z h=>h) λP j e=>hs P _ e,λn o e=>?_}}
 rcases kP e with z|⟨_,rfl⟩
 .let(b,vs,g,l):=t.o n o z;exact{b,vs,hs _ _ g,ah.at i _ l}
 .exact{by rw [d];exact c.free f,vs,by rw [d];exact b,ah.at i _ l}
theorem Ks{o1:Ob}(u:lP W.K W.mg ob)(t:bz (W.at ob) G H)(y:H o1.a=gd)(hm:bF o1.c=gh->W.mg o1.c=fP (.ref o1.C)/\v8 W.K o1.C/\o1.fs=[]):lP W.K W.mg (ob++[o1]) where
 inj:=λn m o q A r g=>by
  have no:∀(i:Nat) (p:Ob),ob[i]?=fP p->p.a≠o1.a:=λi p e z=>by let(_,D,d,_):=t.o i p e;rw [z,y] at d;cases d
  rcases kP A with j|⟨j,rfl⟩
  .rcases kP r with b|⟨b,rfl⟩
   .exact u.inj n m o q j b g
   .exact absurd g (no n o j)
  .rcases kP r with b|⟨b,rfl⟩
   .exact absurd g.symm (no m q b)
   .lia
 cls:=λn o e w=>by
  rcases kP e with z|⟨_,rfl⟩
  .exact u.cls n o z w
  .let(B,d,h3):=hm w;exact{B,d,λf p h=>by rw [h3] at h;cases h}
def qN(S:zv3 X){C t:hB}(L:dB (j+1) X.A)(M:Mk X.K C t)(hm:X.mg c=fP (.ref C))(O:v8 X.K C)(cl:PK X W F2 j (mP c (zu 14)) t){B:gB}{vs:List V}{as:List PV}
 (I:Inv X aa σ H B) (st:zv5 H) (l:ah (W.at ob) G as vs) (r:Vals vs us)
 (o:bx W obe Ge He E (En F2 c as s) λp s'=>∀v aG P G' H',eP W obe Ge He env σ s' aG P G' H'->gb W ob G H aG G' H'->Rep (W.at aG) G' p v->Q v H'):zx7 X (call (.ref C) us) (EP X aa σ Q) X.xe B:=by
 let(fd,pn,R,T,a):=cl.ex;have U:=st.s;subst U;refine Fn (dvs:=[]) M R L T .nil S.pass I r λx dx d hd fW=>?_
 unfold En at o;cases f:bF c with
 |true=>rw [f,if_pos rfl] at o;exact o.elim|false=>
 rw [f,if_neg zzf] at o;have g1:=Eo (W:=W) (ob:=ob) (o1:={x,dx,C,c,[]}) (vs:=[]) (H1:=upd (upd H dx (.own x)) x (.ins C dx [])) st.sr.sub d rfl .nil (λb o e=>by rw [ai (λz=>by rw [z,d] at e;cases e),ai (λz=>by rw [z,hd] at e;cases e)];exact e) (by rw [ng f];exact ak);have Y:=Ks (o1:={x,dx,C,c,[]}) st.u st.sr.tab d λ_=>{by rw [S.mg];exact hm,by rw [S.K];exact O,rfl};have Z:aE (ob++[{x,dx,C,c,[]}])=aE ob++[{c,[]}]:=by unfold aE;rw [List.map_append];rfl
 have h:F2 (mP c (zu 14)) (.obj (aE ob).length::as) (aE ob++[{c,[]}])≠.bad:=λz=>by rw [z] at o;exact o
 have D:(ob++[{x,dx,C,c,[]}])[ob.length]?=fP {x,dx,C,c,[]}:=by rw [el (a8 _),Nat.sub_self];rfl
 rw [e6];refine{?_,ob++[{x,dx,C,c,[]}],G,.obj ob.length::as,g1.sub,g1.tab st.sr.tab,Y,.cons (by simp! [Rep];exact{_,D,rfl}) (g1.Sm l),?_}
 .have:=a _ _ h;rw [cC] at this⊢;rw [l.length];exact this
 .rw [Z];rw [xM] at o;cases z:F2 (mP c (zu 14)) (.obj ob.length::as) (aE ob++[⟨c,[]⟩]) with
  |ok q s1=>
   rw [z] at o;intro v aG G' H' g u e F;have o:bx W obe Ge He E (if yO q then Rs.ok (PV.obj ob.length) s1 else .bad) _:=o
   cases q with
   |aN=>simp! [Rep] at F;refine{F,o (.ref x) aG _ G' H' (st.on (g1.trans g) u e) (g1.trans g) ?_};let(o',i,m,_):=g.ids _ _ D;simp! [Rep];exact{o',i,by rw [m]}|_=>exact o.elim
  |exc c1 s1=>rw [z] at o;intro Cv ao H' y;let(C2,a',hV,G2,i,m,h3,h4,g,u,e2):=y;exact o Cv ao H' {C2,a',hV,G2,i,m,h3,h4,(st.n.kQ st.sr).trans (g1.trans g),u,e2}|bad=>rw [xM] at h;exact absurd z h
def LZ(S:zv3 X){a:Es}{ps:List hD}(K:Δ.ns.contains c=gf)(L:gu sc c=gf)(O:okN c=gf)(P:g9 a=gf)(d:dD Γ N sc a ps=gf):G2 X W F1 F2 obe Ge He E (.new c a) (.Call (.Name c np) ps [] pos):=by
 intro R T σ H Q I h;let(ob,H0,G,env,s,st,o):=h;have U:=st.s;subst U;have f:=S.C ob st.u;unfold bC at o;let(C,fa,j,hm,y,M,V,cl):=S.new c K;have z:dB (j+1) X.A:=f.rm.mono V
 refine wpAny_Call_Name_kw (eh I (dz f L) hm ?_ (eM O).1);cases a with
 |nil=>
  cases ps with
  |cons _ _=>exact aO d|nil=>refine PySem.W.callWith_K0 I.jY M.kp ?_;have o1:bx W obe Ge He E (En F2 c [] (aE ob)) _:=o;exact qN (us:=[]) (vs:=[]) (as:=[]) S z M hm y cl I st .nil .nil o1
 |cons e a=>
  cases ps with
  |nil=>exact aO d|cons p ps=>
   have B:=aj d;refine PySem.W.callWith_K (h₀:=X.base) I.ok.mod.Ii M.kp (bU (gZ (.cons e a) f _ d pos R T σ H (λvs i=>∃b as,aC (W.at ob) G H b i/\ah (W.at ob) b as vs/\bx W obe Ge He E (En F2 c as (aE ob)) λp D=>∀v aG m G' H',eP W obe Ge He env σ D aG m G' H'->gb W ob G H aG G' H'->Rep (W.at aG) G' p v->Q v H') I ?_) λus s1 ⟨vs,i,F,r,q⟩=>{F.jY,?_}) (notStar B.1 _ _) (cQ B.2 _ _)
   .exact{H0,G,env,st.sr,(cX S.pass st o.bind).imp λas w vs b i g t=>{b,as,g,t.rep P,w}}
   .let(b,as,g,l,o1):=q;exact qN S z M hm y cl F (st.grow g) l r (o1.imp λp D w v aG m G' H' t Y Z=>w v aG m G' H' t (g.kQ.trans Y) Z)
abbrev A2:tY->Nat
 |.nil=>0|.cons _ xs=>A2 xs+1
theorem n5:∀{xs:tY} {env:Sl} {s s':Sg} {ps:List PV},eK F1 F2 xs env s=.ok ps s'->ps.length=A2 xs
 |.nil,env,s,s',ps,h=>by unfold eK at h;cases h;rfl
 |.cons x xs,env,s,s',ps,h=>by
  unfold eK at h;cases e1:bC F1 F2 x env s with
  |bad=>rw [e1] at h;cases h
  |exc c z=>rw [e1] at h;cases h
  |ok p s1=>
   rw [e1] at h;have h:(eK F1 F2 xs env s1).bind (λps s=>Rs.ok (p::ps) s)=.ok ps s':=h
   cases a:eK F1 F2 xs env s1 with
   |bad=>rw [a] at h;cases h
   |exc c z=>rw [a] at h;cases h
   |ok qs s2=>rw [a] at h;cases h;rw [cC,n5 a];rfl
theorem Ho:JU X W F1 F2 obe Ge He E .nil []:=L2.PA.imp dE λσ H Q h=>by let(ob,H0,G,env,s,st,o):=h;unfold eK at o;exact o [] ob H0 G H st (.refl st.sr.sub) .nil
def hW{d:Type}{x:X2}{f:PV->Sg->Rs d}{e:d->Sg->Prop}(st:zv5 H)(o:bx W obe Ge He E ((bC F1 F2 x env s).bind f) e)
 (h:∀p v s1 a c b H1,eP W obe Ge He env σ s1 a c b H1->gb W ob G H a b H1->Rep (W.at a) b p v->bx W obe Ge He E (f p s1) e->Q v H1):t2 W F1 F2 obe Ge He E x σ H Q:=
 {ob,H0,G,env,s,st,o.bind.imp λp s1 i v a c b H1 t g j=>h p v s1 a c b H1 t g j i}
theorem Di{x:X2}{xs:tY}{p:hD}{ps:List hD}(he:G2 X W F1 F2 obe Ge He E x p)(hs:JU X W F1 F2 obe Ge He E xs ps)(a:starEach (p::ps) X.env=(gh,eval p X.env)::starEach ps X.env):JU X W F1 F2 obe Ge He E (.cons x xs) (p::ps):=
 L2.PA.imp (bZ he hs a) λσ H Q h=>by let(ob,H0,G,env,s,st,o):=h;unfold eK at o;refine hW st o λp v b c d e t f g1 g o1=>{c,d,e,env,b,f,o1.bind.imp λqs u i j m q G2 r t2 g2 l=>?_};exact i (v::j) m q G2 r t2 (g1.trans g2) (.cons (g2.rep g) l)
theorem L3{xs:tY}{ps:List hD}{x1:Nat}(hl:A2 xs<1000)(h:JU X W F1 F2 obe Ge He E xs ps):G2 X W F1 F2 obe Ge He E (.tup xs) (.Tuple ps x1 pos):=
 L2.PE.imp (EW h) λσ H Q j=>by
  let(ob,H0,G,env,s,st,o):=j
  unfold bC at o;refine{ob,H0,G,env,s,st,?_};cases r:eK F1 F2 xs env s with
  |bad=>rw [r] at o;exact o|exc c s1=>rw [r] at o;exact o|ok qs s1=>
   rw [r] at o;have a:=n5 r;intro b e m f i t g l;have q:b.length<=sizeLine:=by rw [l.length,a,sizeLine_eq];lia
   refine{q,λp u=>?_};have d:aC (W.at e) f i (upd f p (.tup b)) (upd i p (.tup b)):=.new t.sr.sub u;exact o (.ref p) e m _ _ (t.grow d) (g.trans d.kQ) (.t (.inl ak) (ah.same d.g _ l))
abbrev KW(W:Wd)(f:PV->PV->Res PV):R2:=λx y H Q=>∃ob,ud (W.at ob) f x y H Q
theorem zg(hK:W.K=X.K)(a:X.A.units+64<cLine)(o:tX):gW X (compareOp (mS o)) (KW W (cN o)):=λb s σ H x y v u Q I c d ⟨ob,h⟩=>gO (W:=W.at ob) hK a o b s σ H x y v u Q I c d h
def bx.val{b:Type}{r:Res b}{d:b->Sg->Prop}(h:bx W obe Ge He E (Rs.of r s) d)(n:∀c,r≠.exc c):∃a,r=.ok a/\d a s:=by
 cases r with
 |ok a=>exact⟨a,rfl,h⟩|exc c=>exact absurd rfl (n c)|bad=>exact h.elim
def SS{o:tX}{a b:X2}(h:t2 W F1 F2 obe Ge He E (.cmp o a b) σ H Q):PD (KW W (cN o)) (t2 W F1 F2 obe Ge He E a) (t2 W F1 F2 obe Ge He E b) σ H Q:=by let(ob,H0,G,env,s,st,d):=h;unfold bC at d;refine hW st d λp v A B C D F i g1 j o1=>hW i o1 λq u I e f G2 K t2 g2 m o2=>?_;let(r,t,y):=o2.val (λc=>dg c);refine{e,f,G2,p,q,r,t2.sr.sub,.inl (g2.rep j),.inl m,t,λw G' H' g z=>?_};exact y w e f G' H' (t2.grow g) ((g1.trans g2).trans g.kQ) z
def ib.units(S:zv3 X):X.A.units+64<cLine:=(S.C [] {(λZ Z Z Z h=>nomatch h),(λZ Z h=>nomatch h)}).room.units
def LW(S:zv3 X){o:tX}{a b:X2}{c:hD}(e:G2 X W F1 F2 obe Ge He E a d)(f:G2 X W F1 F2 obe Ge He E b c)(hm:behindInMarks (mS o) c=gh):G2 X W F1 F2 obe Ge He E (.cmp o a b) (.Compare d [mS o] [c] pos):=
 (zm (zg S.K S.units o) e f hm).imp λσ H Q h=>SS h
abbrev SQ(W:Wd)(F1:Sg->aP)(F2:cM)(obe:List Ob)(Ge He:Hp)(E:XK)(x:T2):TT:=λσ H Q=>∃ob H0 G env s,eP W obe Ge He env σ s ob H0 G H/\
 bx W obe Ge He E (Az F1 F2 x env s) λb a=>∀aG c G' H',eP W obe Ge He env σ a aG c G' H'->Q b H'
noncomputable abbrev PL(X:Cx)(W:Wd)(F1:Sg->aP)(F2:cM)(obe:List Ob)(Ge He:Hp)(E:XK)(x:T2)(p:hD):Prop:=PT X p (SQ W F1 F2 obe Ge He E x)
def Mx(S:zv3 X){e:Ci.E}{p:hD}(c:gx e=gf)(h:aK Γ N sc e p=gf):PL X W F1 F2 obe Ge He E (.pu e) p:=by
 intro d s σ H Q I f;let(ob,H0,G,env,m,st,o):=f;have i:=st.s;subst i;have j:=S.C ob st.u;refine(bh e j p h).gt c d s σ H Q I {H0,G,env,st.sr,?_};unfold Az at o;refine(cX S.pass st o.bind).imp λp a=>?_
 cases p with
 |bl b=>exact{b,rfl,λG' H' g=>a ob H0 G' H' (st.grow g)}|_=>exact a.elim
def SO{x:X2}{Q:Bool->Hp->Prop}(h:∃ob H0 G env s,eP W obe Ge He env σ s ob H0 G H/\bx W obe Ge He E ((bC F1 F2 x env s).bind Tf) λb s'=>∀aG c G' H',eP W obe Ge He env σ s' aG c G' H'->Q b H'):tB (t2 W F1 F2 obe Ge He E x) σ H Q:=by
 let(ob,H0,G,env,s,st,o):=h;refine hW st o λp v j d e f g i g1 a o1=>?_
 cases p with
 |bl b=>simp! [Rep] at a;exact{b,a,o1 d e f g i}|_=>exact o1.elim
theorem HK(S:zv3 X){o:tX}{a b:X2}{c:hD}(f:G2 X W F1 F2 obe Ge He E a d)(g:G2 X W F1 F2 obe Ge He E b c)(hm:behindInMarks (mS o) c=gh):PL X W F1 F2 obe Ge He E (.cmp o a b) (.Compare d [mS o] [c] pos):=
 (zv (zg S.K S.units o) f g hm).imp λσ H Q h=>by let(ob,H0,G,env,s,st,e):=h;unfold Az at e;exact SS (SO ⟨ob,H0,G,env,s,st,e⟩)
noncomputable abbrev FX:XK:=λZ Z Z=>False
def Rs.aM{d e:Type}{r:Rs d}{f:d->Sg->Rs e}{b:e}{s':Sg}(h:r.bind f=.ok b s'):∃a s1,r=.ok a s1/\f a s1=.ok b s':=by
 cases r with
 |ok a s1=>exact⟨a,s1,rfl,h⟩|exc c s1=>cases h
 |bad=>cases h
def Rs.nv{d:Type}{r:Rs d}{b:d}{s':Sg}(h:r.well=.ok b s'):r=.ok b s':=by
 cases r with
 |ok a s1=>exact h|exc c s1=>cases h
 |bad=>cases h
def Rs.of_ok{d:Type}{r:Res d}{b:d}{s s':Sg}(h:Rs.of r s=.ok b s'):r=.ok b/\s'=s:=by
 cases r with
 |ok a=>cases h;exact⟨rfl,rfl⟩
 |exc c=>cases h
 |bad=>cases h
theorem kF{f:PV->Sg->Rs PV}:∀(l:List PV) (s:Sg) (c:Str) (s':Sg),bK f l s≠.exc c s'
 |[],s,c,s',h=>by cases h
 |x::l,s,c,s',h=>by
  unfold bK at h;cases e:f x s with
  |ok y s1=>
   rw [e] at h;have h:(bK f l s1).bind (λys a=>Rs.ok (y::ys) a)=.exc c s':=h
   cases b:bK f l s1 with
   |ok ys a=>rw [b] at h;cases h
   |exc d a=>exact kF l s1 d a b|bad=>rw [b] at h;cases h
  |exc _ _=>rw [e] at h;cases h
  |bad=>rw [e] at h;cases h
theorem qx{f:PV->Sg->Rs PV}:∀{ps:List PV} {s g s':Sg} {all e:List PV} {i:Nat} {x:PV},bK f ps s=.ok all g->bK f (ps.take i) s=.ok e s'->ps[i]?=fP x->∃y s1,f x s'=.ok y s1/\bK f (ps.take (i+1)) s=.ok (e++[y]) s1
 |[],_,_,_,_,_,_,_,_,_,h=>by simp at h|p::ps,s,g,s',all,e,0,x,b,a,h3=>by simp at h3;subst h3;unfold bK at b;let(y,s1,e1,b):=Rs.aM b;have e1:=Rs.nv e1;have a:Rs.ok [] s=Rs.ok e s':=a;cases a;refine{y,s1,e1,?_};show(f p s).well.bind _=_;rw [e1];rfl
 |p::ps,s,g,s',all,e,i+1,x,b,a,h3=>by unfold bK at b;let(y,s1,e1,b):=Rs.aM b;have e1:=Rs.nv e1;let(c,d,j,_):=Rs.aM b;have a:(f p s).well.bind (λy s1=>(bK f (ps.take i) s1).bind λc d=>Rs.ok (y::c) d)=.ok e s':=a;rw [e1] at a;let(m,w,o,a):=Rs.aM (show(bK f (ps.take i) s1).bind (λc d=>Rs.ok (y::c) d)=.ok e s' from a);cases a;let(q,r,t,u):=qx j o (zx6 h3);refine{q,r,t,?_};show(f p s).well.bind (λy s1=>(bK f (ps.take (i+1)) s1).bind λc d=>Rs.ok (y::c) d)=_;rw [e1];show(bK f (ps.take (i+1)) s1).bind (λc d=>Rs.ok (y::c) d)=_;rw [u];rfl
theorem nN{f:PV->Sg->Rs PV}:∀{ps:List PV} {s s':Sg} {a:List PV},bK f ps s=.ok a s'->a.length=ps.length
 |[],s,s',a,h=>by cases h;rfl
 |p::ps,s,s',a,h=>by unfold bK at h;let(y,s1,e1,h):=Rs.aM h;let(c,d,b,h):=Rs.aM h;cases h;rw [cC,cC,nN b]
def rE(h:∀s∈env,s.aZ=gh):env.any Slot.aZ=gh:=by rw [List.any_eq_false];exact λs m z=>by rw [h s m] at z;cases z
def Er(h:env.any Slot.aZ=gh)(s:Slot)(m:s∈env):s.aZ=gh:=by
 rw [List.any_eq_false] at h;cases z:s.aZ with
 |false=>rfl|true=>exact absurd z (h s m)
def tj(h:env.any Slot.aZ=gh)(i:Nat)(p:PV):(env.set i (.val p)).any Slot.aZ=gh:=rE λs m=>by
 rcases List.mem_or_eq_of_mem_set m with z|rfl
 .exact Er h s z
 .rfl
def Fg{env':Sl}{a:Tg}(h:env.any Slot.aZ=gh)(e:a.put p env=.ok env'):env'.any Slot.aZ=gh:=by
 unfold Tg.put at e;split at e
 .cases e;exact tj h _ _
 .cases e;exact tj (tj h _ _) _ _
 .cases e
theorem yq(h:env.any Slot.aZ=gh)(k:Nat)(a:List Nat):(jz k Slot.no++eX env a).any Slot.aZ=gh:=rE λs m=>by
 rcases List.mem_append.mp m with z|z
 .rw [List.eq_of_mem_replicate z];rfl
 .unfold eX at z;let(i,_,rfl):=ew.mp z
  rw [cB];cases e:env[i]? with
  |none=>rfl|some s=>exact Er h s (a7 e)
structure YX(W:Wd)(obe:List Ob)(Ge He:Hp)(env:Sl)(σ:St)(s:Sg)(ob:List Ob)(G H:Hp)(uP:Sl)(f:PV->Sg->Rs PV)(ps:List PV)(i:Nat)(ys:List V)(σ':St)(H':Hp):Prop where
 le:i<=ps.length
 ex:∃aG G' TZ TY zs s',eP W obe Ge He env σ s' aG TZ G' H'/\eP W obe Ge He uP σ' s' aG TY G' H'/\gb W ob G H aG G' H'/\bK f (ps.take i) s=.ok zs s'/\ah (W.at aG) G' zs ys
def Cr(S:zv3 X){b:Nat}{d:List Nat}{C:Tg}{m:X2}{ys:List Str}(dO:ke b C=gf)(hs:d.map (λi=>N[i]?)=ys.map fP)(nd:ys.Nodup){J:It}{e:Hp}
 (pI:eP W obe Ge He env σ s ob H0 e H1) (b9:rB (W.at ob) J e e ps) (j:bx W obe Ge He E (if ps.length<bS then(bK (λx s=>(Rs.of (C.put x (jz b .no++eX env d)) s).bind λenv' s=>bC F1 F2 m env' s) ps s).bind λys s=>.ok (.lst ys) s else .bad) λp s'=>∀v aG M G' H',eP W obe Ge He env σ s' aG M G' H'->gb W ob e H1 aG G' H'->Rep (W.at aG) G' p v->Q v H'):
 JT J b (gT X.K C) (t2 W F1 F2 obe Ge He FX m) (AW σ d) Q H1:=by
 by_cases wb:¬ps.length<bS
 .rw [if_neg wb] at j;exact j.elim
 have hl:=Decidable.not_not.mp wb;rw [if_pos hl] at j;generalize hf:(λ(x:PV) (s:Sg)=>(Rs.of (C.put x (jz b .no++eX env d)) s).bind λenv' s=>bC F1 F2 m env' s)=f at j
 cases r:bK f ps s with
 |bad=>rw [r] at j;exact j.elim|exc c s1=>exact absurd r (kF _ _ _ _)|ok all sf=>
  rw [r] at j;have fin:∀v aG M G' H',eP W obe Ge He env σ sf aG M G' H'->gb W ob e H1 aG G' H'->Rep (W.at aG) G' (.lst all) v->Q v H':=j;have O:eP W obe Ge He (jz b .no++eX env d) (jz b gd++AW σ d) s ob H0 e H1:={o7 b pI.sr hs nd,pI.u,pI.n,pI.s,yq pI.no b d};refine{ps.length,YX W obe Ge He env σ s ob e H1 (jz b .no++eX env d) f ps,{Nat.zero_le _,ob,e,H0,H0,[],s,pI,O,.refl pI.sr.sub,rfl,.nil},?_}
  rintro i made σ' H' ⟨hi,aG,G',TZ,TY,zs,s',t,si,D,F,l⟩
  have Pt:zs.length=i:=by rw [nN F,List.length_take];lia
  refine{by rw [l.length,Pt];exact dk hi (dA hl (by decide)),?_};have Yv:az e G':=D.g;let(P,R):=b9 i G' H' Yv (jc.of (Yv.trans t.sr.sub)) t.sr.sub;by_cases a:i=ps.length
  .refine .inl {P a,λp hp=>?_};rw [a,List.take_length,r] at F;cases F;have T:aC (W.at aG) G' H' (upd G' p (.lst made)) (upd H' p (.lst made)):=.new t.sr.sub hp;exact fin (.ref p) aG TZ _ _ (t.grow T) (D.trans T.kQ) (.l (.inl (.inl ak)) (ah.same T.g _ l))
  .have I:i<ps.length:=by lia
   let(DE,w):=R ps[i] (zzg I);refine .inr {DE,I,λx jq hy=>?_};let(U,A,rx):=w x jq hy;have L:aC (W.at aG) G' H' U jq:=⟨A.g,A.h,A.sub,A.own,A.tb⟩;have Ww:Rep (W.at aG) U ps[i] x:=Rep.at D.ids _ rx;let(y,s1,ho,o):=qx r F (zzg I);rw [<-hf] at ho;let(env',s2,V,Y):=Rs.aM ho;let(Z,z):=Rs.of_ok V;subst z;have so2:=t.grow L;have B:=si.grow L;refine lW (W:=W.at aG) S.K Z B.sr Ww λσ2 lN=>?_;refine{aG,TY,U,env',s2,{lN,B.u,B.n,B.s,Fg B.no Z},?_};rw [Y];intro v hV rA G2 H2 q kQ rv;refine{I,hV,G2,_,rA,_,s1,so2.on kQ q.u q.s,{i9 dO Z q.sr,q.u,q.n,q.s,yq pI.no b d},D.trans (L.kQ.trans kQ),o,?_};exact((L.kQ.trans kQ).Sm l).append (.cons rv .nil)
def Cs(S:zv3 X){c:Nat}{d:List Nat}{e:Tg}{it b:X2}{ys:List Str}(r:ke c e=gf)(hs:d.map (λi=>N[i]?)=ys.map fP)(nd:ys.Nodup)
 (st:zv5 H) (o:bx W obe Ge He E (bC F1 F2 (.nR c d e it b) env s) λp s'=>∀v aG f G' H',eP W obe Ge He env σ s' aG f G' H'->gb W ob G H aG G' H'->Rep (W.at aG) G' p v->Q v H'):
 zL (Ko X.K (t2 W F1 F2 obe Ge He E it)) c (gT X.K e) (t2 W F1 F2 obe Ge He FX b) d σ H Q:=by
 unfold bC at o;refine{ob,H0,G,env,s,st,o.bind.imp λp B h v u C D F j g1 m=>?_}
 cases p with
 |lst xs=>simp! [Rep] at m;let(a,w,rfl,q,y):=m;exact{a,rfl,{w,ua S.K (jc.ls (.of j.sr.sub) q)},Cr S r hs nd j (sx (W:=W.at u) S.K q y) (bx.imp h λp s' z v aG f G' H' t g A=>z v aG f G' H' t (g1.trans g) A)}|_=>exact h.elim
def nh{n:Nat}{o:Ob}{fs':List (Str×PV)}{vs':List V}(t:bz (W.at ob) G H)(I:az G H)(u:lP W.K W.mg ob)(e:ob[n]?=fP o)(l:ah (W.at ob) G (fs'.map (·.2)) vs')(L:bF o.c=gf\/∀f p,fs'.lookup f=fP p->cU W.K o.C f):
 gb W ob G H (ob.set n {o with fs:=fs'}) G (upd H o.a (mR {o with fs:=fs'} vs'))/\lP W.K W.mg (ob.set n {o with fs:=fs'}):=by
 have A:n<ob.length:=(cj.mp e).1;let(B,i,M,_):=t.o n o e
 have at_:∀(m:Nat) (d:Ob),(ob.set n {o with fs:=fs'})[m]?=fP d->(m=n/\d={o with fs:=fs'})\/(m≠n/\ob[m]?=fP d):=λm d h=>by
  by_cases hm:n=m
  .subst hm;rw [ei A] at h;cases h;exact .inl ⟨rfl,rfl⟩
  .rw [c6 hm] at h;exact .inr {λz=>hm z.symm,h}
 have ids:zY ob (ob.set n {o with fs:=fs'}):=λm d h=>by
  by_cases hm:n=m
  .subst hm;rw [e] at h;cases h;exact{_,ei A,rfl,rfl,rfl,rfl}
  .exact{d,by rw [c6 hm];exact h,rfl,rfl,rfl,rfl}
 refine{{ids,.refl _,λb x h=>?_,λb x h=>?_,λ_ _ _ h=>h,λ_=>{λP q m=>?_,λm d h=>?_}},{λm1 m2 o1 o2 j r h3=>?_,λm d h w=>?_}}
 .by_cases D:b=o.a
  .subst D;exact{_,ak,λ_ O=>sF _ _ O}
  .exact{x,by rw [ai D];exact h,id}
 .rw [ai (λz=>by rw [z,B] at h;cases h)];exact I _ _ h
 .let(Q,F,y,R,S):=t.t P q m;exact{Q,F,by rw [ai (λz=>by rw [z,M] at y;exact ze o i F (zzq y))];exact y,R,S}
 .rcases at_ m d h with⟨rfl,rfl⟩|⟨hm,g⟩
  .exact{B,vs',ak,ah.at ids _ l}
  .let(j,i,r,T):=t.o m d g;have:d.a≠o.a:=λz=>hm (u.inj m n d o g e z);exact{j,i,by rw [ai this];exact r,ah.at ids _ T}
 .have back:∀(m:Nat) (d:Ob),(ob.set n {o with fs:=fs'})[m]?=fP d->∃o2,ob[m]?=fP o2/\o2.a=d.a:=λm d h=>by
   rcases at_ m d h with⟨rfl,rfl⟩|⟨_,g⟩
   .exact⟨o,e,rfl⟩
   .exact⟨d,g,rfl⟩
  let(U,Y,Z):=back _ _ j;let(p2,q2,r2):=back _ _ r;exact u.inj m1 m2 U p2 Y q2 (by rw [Z,r2];exact h3)
 .rcases at_ m d h with⟨rfl,rfl⟩|⟨_,g⟩
  .let(c1,c2,c3):=u.cls _ o e w;exact{c1,c2,L.resolve_left λz=>by rw [show bF o.c=gh from w] at z;cases z}
  .exact u.cls m d g w
def tx{n:Nat}{o:Ob}{l:List (Str×PV)}:aE (ob.set n {o with fs:=l})=(aE ob).set n ⟨o.c,l⟩:=by unfold aE;rw [List.map_set]
def Ia(h:H9 c=gf):bF c=gf:=by unfold bF;rw [h,Bool.or_true]
def yM(h:DR c=gf):bF c=gf:=by unfold bF;rw [h,Bool.true_or]
def Ro(h:H9 c=gf):DR c=gh:=by unfold H9 at h;rw [zzy.mp h];rfl
def ED{o:Ob}(h:H9 o.c=gf):mR o vs=.lst vs:=by unfold mR;rw [Ro h,h];rfl
def vz{o:Ob}(h:DR o.c=gf):mR o vs=.dK (kz (o.fs.map (·.1)) vs):=by unfold mR;rw [h];rfl
def nS{d:Type}{q:Str->Bool}{f:Nat->OS->Rs d}{a:d->Sg->Prop}(h:bx W obe Ge He E (qz (aE ob) q p f) a):∃n o,p=.obj n/\ob[n]?=fP o/\q o.c=gf/\bx W obe Ge He E (f n ⟨o.c,o.fs⟩) a:=by
 cases p with
 |obj n=>
  have h:bx W obe Ge He E (match(aE ob)[n]? with|some o=>(if q o.c then f n o else .bad)|none=>.bad) a:=h
  cases e:ob[n]? with
  |none=>
   have:(aE ob)[n]?=gd:=by unfold aE;rw [c4,e];rfl
   rw [this] at h;exact h.elim
  |some o=>
   have:(aE ob)[n]?=fP ⟨o.c,o.fs⟩:=by unfold aE;rw [c4,e];rfl
   rw [this] at h;cases b:q o.c with
   |true=>have h:bx W obe Ge He E (if q o.c then f n ⟨o.c,o.fs⟩ else .bad) a:=h;rw [b,if_pos rfl] at h;exact⟨n,o,rfl,e,b,h⟩
   |false=>have h:bx W obe Ge He E (if q o.c then f n ⟨o.c,o.fs⟩ else .bad) a:=h;rw [b,if_neg zzf] at h;exact h.elim
 |_=>exact h.elim
def sW{n:Nat}{o:Ob}(h:Rep (W.at ob) G (.obj n) v)(e:ob[n]?=fP o):v=.ref o.a:=by simp! [Rep] at h;let(c,b,rfl):=h;have b:ob[n]?=fP c:=b;rw [e] at b;cases b;rfl
def DL{n:Nat}{o o2:Ob}(i:zY ob aG)(e:ob[n]?=fP o)(d:aG[n]?=fP o2):o2.a=o.a/\o2.c=o.c:=by let(g,b,f,_,_,h3):=i n o e;rw [d] at b;cases b;exact⟨f,h3⟩
def iw{e:Ci.E}:bC F1 F2 (.pu e) env s=Rs.of (aB (F1 s) e env) s:=by unfold bC;rfl
def Hk(S:zv3 X){a:Ci.E}{x:X2}{p:hD}{b y:Pos}(B:eR a=gf)(C:aK Γ N sc a po=gf)(D:G2 X W F1 F2 obe Ge He E x p)(I:fQ po=gf)(K:(b.endLine==y.line)=gf)(j:∀env ps,starEach (p::ps) env=(gh,eval p env)::starEach ps env):
 G2 X W F1 F2 obe Ge He E (.z8 a x) (.Call (.Attribute po "append" b) [p] [] y):=
 L2.PE.imp (vD PySem.F.plainAttrs_list PySem.F.slot_list_append PySem.F.type_list_append qP (kM S B C) (bZ D dE (j _ _)) (gJ I) (by rw [j];rfl) K (j _ _) rfl) λσ H Q h=>by
  let(ob,H0,G,env,s,st,o):=h;unfold bC at o;rw [<-iw (F2:=F2)] at o;refine hW st o λp v Z cL jb G1 H1 m g1 L o1=>?_;have M:=m.s;subst M;let(n,o,rfl,r,hk,o2):=nS o1;cases sW L r;let(_,vs,z,_):=m.sr.tab.o n o r;rw [ED hk] at z;refine{.inl {rfl,_,iQ.of z},hW m o2 λq u s2 hV rA G2 H2 t2 g2 O P=>?_};have R:=t2.s;subst R;let(n',f,e,c,d,t):=nS P;cases e;let(T,ec):=DL g2.ids r c;let(_,g,i,A):=t2.sr.tab.o n f c;rw [ED d] at i;split at t
  .rename_i hl;have U:g.length=f.fs.length:=by rw [A.length,zzl]
   let(w,V):=nh (fs':=f.fs++[(("":Str),q)]) (vs':=g++[u]) t2.sr.tab t2.sr.sub t2.u c (by rw [List.map_append];exact A.append (.cons O .nil)) (.inl (Ia d));refine{f.a,g,u,by rw [T],rfl,i,by rw [U];exact dA hl (by decide),?_};have Y:mR {f with fs:=f.fs++[(("":Str),q)]} (g++[u])=.lst (g++[u]):=ED d;rw [Y] at w;exact t .aN _ _ G2 _ (t2.on w V tx) ((g1.trans g2).trans w) .n
  .exact t.elim
def nW{fs:List (Str×PV)}:(dQ z fs).map (·.1)=fV (fs.map (·.1)) z/\(dQ z fs).map (·.2)=bQ (fs.map (·.1)) (fs.map (·.2)) z:=by have h:=uN z (ks:=fs.map (·.1)) (us:=fs.map (·.2)) (by simp);unfold dQ;exact{List.map_fst_zip (Nat.le_of_eq h),List.map_snd_zip (Nat.le_of_eq h.symm)}
def qW{fs:List (Str×PV)}:(putD z p fs).map (·.1)=eU (fs.map (·.1)) z/\(putD z p fs).map (·.2)=df (fs.map (·.1)) (fs.map (·.2)) z p:=by have h:=oR (ks:=fs.map (·.1)) (us:=fs.map (·.2)) (by simp) z p;unfold putD;exact{List.map_fst_zip (Nat.le_of_eq h),List.map_snd_zip (Nat.le_of_eq h.symm)}
def Dh(S:zv3 X){a y:Ci.E}{K:hD}{f L:Pos}(O:eR a=gf)(P:aK Γ N sc a po=gf)(R:eR y=gf)(hk:aK Γ N sc y K=gf)(T:fQ po=gf)(U:(f.endLine==L.line)=gf):
 G2 X W F1 F2 obe Ge He E (.nV a y) (.Call (.Attribute po "pop" f) [K] [] L):=
 L2.PE.imp (EM (kM (obe:=obe) (Ge:=Ge) (He:=He) S O P) (kM (obe:=obe) (Ge:=Ge) (He:=He) S R hk) {gJ T,by rw [notStar hk];rfl,U,by rw [notStar hk];rfl}) λσ H Q h=>by
  let(ob,H0,G,env,s,st,o):=h;unfold bC at o;rw [<-iw (F2:=F2)] at o;refine hW st o λp v s1 cL jb G1 H1 A g1 V o1=>?_;have Y:=A.s;subst Y;let(n,o,rfl,B,hk,o2):=nS o1;cases sW V B;let(_,vs,M,_):=A.sr.tab.o n o B;rw [vz hk] at M;rw [<-iw (F2:=F2)] at o2;refine{o.a,rfl,.inl {_,.inl M},hW A o2 λq u s2 m rA G2 H2 t2 g2 C Z=>?_};have e2:=t2.s;subst e2;let(n',b,e,g,i,d):=nS Z;cases e;let(ea,ec):=DL g2.ids B g;let(_,r,j,D):=t2.sr.tab.o n b g;rw [vz i] at j;have hl:(b.fs.map (·.1)).length=r.length:=by rw [D.length,zzl,zzl]
  cases F:fz q with
  |none=>
   have d:bx W obe Ge He E (match fz q with|some z=>(match bJ (b.fs.map (·.1)) (b.fs.map (·.2)) z with|some p=>Rs.ok p ((aE m).set n {b.c,dQ z b.fs})|none=>.bad)|none=>.bad) _:=d;rw [F] at d;exact d.elim
  |some z=>
   have d:bx W obe Ge He E (match fz q with|some z=>(match bJ (b.fs.map (·.1)) (b.fs.map (·.2)) z with|some p=>Rs.ok p ((aE m).set n {b.c,dQ z b.fs})|none=>.bad)|none=>.bad) _:=d
   rw [F] at d;rw [fM F] at C;simp! [gL,Rep] at C;subst C;cases I:bJ (b.fs.map (·.1)) (b.fs.map (·.2)) z with
   |none=>
    have d:bx W obe Ge He E (match bJ (b.fs.map (·.1)) (b.fs.map (·.2)) z with|some p=>Rs.ok p ((aE m).set n {b.c,dQ z b.fs})|none=>.bad) _:=d;rw [I] at d;exact d.elim
   |some p=>
    have d:bx W obe Ge He E (match bJ (b.fs.map (·.1)) (b.fs.map (·.2)) z with|some p=>Rs.ok p ((aE m).set n {b.c,dQ z b.fs})|none=>.bad) _:=d;rw [I] at d;let(w,hw,fR):=lK D I;let(t,u2):=nh (fs':=dQ z b.fs) (vs':=bQ (b.fs.map (·.1)) r z) t2.sr.tab t2.sr.sub t2.u g (by rw [nW.2];exact nX D) (.inl (yM i));have ho:mR {b with fs:=dQ z b.fs} (bQ (b.fs.map (·.1)) r z)=.dK (gk (kz (b.fs.map (·.1)) r) (ki z)):=by rw [vz (o:={b with fs:=dQ z b.fs}) i,yT z hl];show HO.dK (kz ((dQ z b.fs).map (·.1)) _)=_;rw [nW.1]
    rw [ho] at t;rw [<-ea];exact{_,ki z,w,j,rfl,by rw [iE];exact hw,d w _ _ G2 _ (t2.on t u2 tx) ((g1.trans g2).trans t) (t.rep fR)}
def zd{b:Prop}(st:zv5 H){fs:List (Str×PV)}{vs:List V}{p:hB}{d:PV->Sg->Prop}(a:H p=gd)(e:bF c=gf)(l:ah (W.at ob) G (fs.map (·.2)) vs)(o:bx W obe Ge He E (Nq c fs s) d)
 (h:∀aG,eP W obe Ge He env σ (s++[⟨c,fs⟩]) aG (upd H p (mR {p,0,0,c,fs} vs)) G (upd H p (mR {p,0,0,c,fs} vs))->gb W ob G H aG G (upd H p (mR {p,0,0,c,fs} vs))->Rep (W.at aG) G (.obj s.length) (.ref p)->d (.obj s.length) (s++[⟨c,fs⟩])->b):b:=by
 have f:=st.s;subst f;have g1:=Eo (W:=W) (ob:=ob) (o1:={p,0,0,c,fs}) (vs:=vs) (H1:=upd H p (mR {p,0,0,c,fs} vs)) st.sr.sub a rfl l (bt a) ak;have g:=Ks (o1:={p,0,0,c,fs}) st.u st.sr.tab a λz=>by rw [show bF c=gh from z] at e;cases e
 refine h (ob++[{p,0,0,c,fs}]) (st.on g1 g (by unfold aE;rw [List.map_append];rfl)) g1 ?_ o;simp! [Rep];refine{{p,0,0,c,fs},?_,rfl};show(ob++[_])[(aE ob).length]?=_;rw [xM,el (a8 _),Nat.sub_self];rfl
theorem Hm(S:zv3 X):G2 X W F1 F2 obe Ge He E .lV (.Dict [] [] pos):=
 L2.PE.imp oN λσ H Q h=>by let(ob,H0,G,env,s,st,o):=h;unfold bC at o;intro p a;exact zd st a (c:="#d") (fs:=[]) (vs:=[]) (by rfl) .nil o λaG t g r q=>q _ _ _ _ _ t g r
theorem Hn(S:zv3 X){xs:tY}{ps:List hD}(hl:A2 xs<1000)(h:JU X W F1 F2 obe Ge He E xs ps):G2 X W F1 F2 obe Ge He E (.vf xs) (.List ps pos):=
 L2.PE.imp (ER h) λσ H Q b=>by
  let(ob,H0,G,env,s,st,o):=b
  unfold bC at o;refine{ob,H0,G,env,s,st,?_};cases r:eK F1 F2 xs env s with
  |bad=>rw [r] at o;exact o|exc c s1=>rw [r] at o;exact o|ok qs s1=>rw [r] at o;have a:=n5 r;intro vs i j m u t g l;refine{by rw [l.length,a,sizeLine_eq];lia,λp d=>?_};exact zd t d (c:="#l") (fs:=qs.map λp=>(("":Str),p)) (vs:=vs) (by rfl) (by rw [List.map_map];exact(List.map_id qs).symm▸l) o λaG e f r q=>q _ _ _ _ _ e (g.trans f) r
def Qz(S:zv3 X){xs:tY}{p:hD}{ps:List hD}(A:Γ.fs.contains f=gf)(L:gu sc f=gf)(M:okN f=gf)(w:JU X W F1 F2 obe Ge He E xs (p::ps))
 (O:starEach (p::ps) X.env=(gh,eval p X.env)::starEach ps X.env) (hpl:(backTo pos (starEach ps X.env)).any (·.1)=gh):G2 X W F1 F2 obe Ge He E (.c1 f xs) (.Call (.Name f np) (p::ps) [] pos):=by
 intro P R σ H Q I h;let(ob,H0,G,env,s,st,o):=h;unfold bC at o;obtain⟨e,hm,hk⟩:∃e,X.mg f=fP (.ref e)/\PySem.W.keepIn X.K (.ref e)=gf:=by let(e,_,_,_,hm,hk,_):=((S.C ob st.u).fns f A).ex;exact⟨e,hm,hk⟩
 refine wpAny_Call_Name_kw (eh I (dz (S.C ob st.u) L) hm ?_ (eM M).1);refine PySem.W.callWith_K (h₀:=X.base) I.ok.mod.Ii hk (bU (w pos P R σ H (λy m=>∃a i b c as,eP W obe Ge He env σ c a i b m/\gb W ob G H a b m/\ah (W.at a) b as y/\bx W obe Ge He E (Rs.of (F1 c f as) c) λp T=>∀v aG U G' H',eP W obe Ge He env σ T aG U G' H'->gb W ob G H aG G' H'->Rep (W.at aG) G' p v->Q v H') I {ob,H0,G,env,s,st,?_}) λus c ⟨y,m,B,r,q⟩=>{B.jY,?_}) O hpl
 .exact o.bind.imp λas c w y a i b m t g l=>⟨a,i,b,c,as,t,g,l,w⟩
 .let(a,i,b,Sq,as,d,g1,l,o1):=q;have V:=d.s;subst V;have D:=S.C a d.u;let(Y,fd,pn,Z,F,hk',hb,j):=(D.fns f A).ex;rw [hm] at F;cases F;have o2:=cX S.pass d o1;exact kD (W:=W.at a) D.rm Z hb (λz=>by rw [l.length];exact j as z) B d.sr.sub d.sr.tab l r (o2.imp λp hp v G' H' g rv=>hp v a i G' H' (d.grow g) (g1.trans g.kQ) rv)
def Hl(S:zv3 X){x:X2}{p:hD}(B:gu sc "dict"=gf)(hm:Γ.bs.contains "dict"=gf)(D:G2 X W F1 F2 obe Ge He E x p)(w:∀env ps,starEach (p::ps) env=(gh,eval p env)::starEach ps env):G2 X W F1 F2 obe Ge He E (.dict x) (.Call (.Name "dict" np) [p] [] pos):=by
 have e:=S.C [] {(λZ Z Z Z h=>nomatch h),(λZ Z h=>nomatch h)};refine L2.PE.imp (i7 (ux (e.calm S.qt) (by have:=S.units;lia)) (dz e B) (e.bs _ (eg.mp hm)) (by decide+kernel) (bZ D dE (w _ _)) (he:=w _ _) (hpl:=rfl)) λσ H Q h=>?_;let(ob,H0,G,env,s,st,o):=h;unfold bC at o;refine hW st o λq v Y f F y i j g1 I o1=>?_
 cases b:gX [q] with
 |exc c=>
  exfalso;unfold gX at b;split at b
  .rcases Res.eG b with z|⟨_,_,z⟩
   .exact Res.aS c z
   .cases z
  .cases b
 |bad=>rw [b] at o1;exact o1.elim|ok r=>rw [b] at o1;let(A,qs,rfl,a,L,M,O,P,pw,m,R,T,U):=uI (W:=W.at f) (X:=X) (H0:=i) S.K j.sr.sub (.cons (.inl I) .nil) b;refine{a,L,M,O,P,pw,λd t V=>?_};rw [U];have u:aC (W.at f) y i (upd y d (.b9 t (.dK (kz A m)))) (upd i d (.b9 t (.dK (kz A m)))):=.new j.sr.sub V;refine o1 (.ref d) f F _ _ (j.grow u) (g1.trans u.kQ) ?_;simp! [Rep];exact{d,t,m,rfl,R,ak,ah.same u.g _ T}
theorem Rr(hK:W.K=X.K)(b:X.A.units+64<cLine):K5 X (KW W ay):=λa slice c s σ H x y v u Q I d e ⟨ob,h⟩ hs=>Rq (W:=W.at ob) hK b a slice c s σ H x y v u Q I d e h hs
theorem L0(S:zv3 X){x:X2}{e:Ci.E}{p q:hD}(d:G2 X W F1 F2 obe Ge He E x p)(f:eR e=gf)(he:aK Γ N sc e q=gf):G2 X W F1 F2 obe Ge He E (.sub x e) (.Subscript p q pos):=
 L2.PE.imp (Kz (Rr S.K S.units) d (kM (obe:=obe) (Ge:=Ge) (He:=He) S f he) (vG he)) λσ H Q h=>by let(ob,H0,G,env,s,st,o):=h;unfold bC at o;refine hW st o λp v A B C D F g g1 i o1=>?_;rw [<-iw (F2:=F2)] at o1;refine hW g o1 λq u I a j G2 L t2 g2 m o2=>?_;let(r,t,y):=o2.val (λc=>qR c);exact{a,Bb,G2,p,q,r,t2.sr.sub,.inl (g2.rep i),.inl m,t,λw G' H' b z=>y w a j G' H' (t2.grow b) ((g1.trans g2).trans b.kQ) z}
abbrev tt1(W:Wd)(F1:Sg->aP)(obe:List Ob)(Ge He:Hp)(E:XK)(c:Ci.E):TT:=λσ H Q=>∃ob H0 G env s,eP W obe Ge He env σ s ob H0 G H/\
 bx W obe Ge He E (Rs.of (aB (F1 s) c env) s) λp Z=>∃b,p=.bl b/\∀G' H',aC (W.at ob) G H G' H'->Q b H'
def Mw(S:zv3 X){e:Ci.E}{p:hD}(a:gx e=gf)(h:aK Γ N sc e p=gf):PT X p (tt1 W F1 obe Ge He E e):=by intro b s σ H Q I c;let(ob,H0,G,env,i,st,o):=c;have d:=st.s;subst d;have f:=S.C ob st.u;refine(bh e f p h).gt a b s σ H Q I {H0,G,env,st.sr,?_};exact(cX S.pass st o).imp λp g=>g
theorem LX(S:zv3 X){c:Ci.E}{a b:X2}{j m u:hD}(z:gx c=gf)(A:aK Γ N sc c j=gf)(B:G2 X W F1 F2 obe Ge He E a m)(C:G2 X W F1 F2 obe Ge He E b u):G2 X W F1 F2 obe Ge He E (.ite c a b) (.IfExp j m u pos):=
 L2.PE.imp (vE (Mw (obe:=obe) (Ge:=Ge) (He:=He) S z A) B C) λσ H Q h=>by
  let(ob,H0,G,env,s,st,o):=h
  unfold bC at o;refine{ob,H0,G,env,s,st,?_};cases r:aB (F1 s) c env with
  |bad=>rw [r] at o;exact o.elim|exc d=>rw [r] at o;exact o|ok q=>
   rw [r] at o;cases q with
   |bl t=>
    refine{t,rfl,λw y g1=>?_};have o:bx W obe Ge He E (if t then bC F1 F2 a env s else bC F1 F2 b env s) _:=o
    cases t with
    |true=>rw [if_pos rfl] at o;show t2 W F1 F2 obe Ge He E a σ y Q;exact{ob,H0,w,env,s,st.grow g1,o.imp λp D e v aG f G' H' t g i=>e v aG f G' H' t (g1.kQ.trans g) i}|false=>rw [if_neg zzf] at o;show t2 W F1 F2 obe Ge He E b σ y Q;exact{ob,H0,w,env,s,st.grow g1,o.imp λp D e v aG f G' H' t g i=>e v aG f G' H' t (g1.kQ.trans g) i}
   |_=>exact o.elim
end
def K0(W:Wd)(obe:List Ob)(Ge He:Hp)(D:Ends):Fl->Sg->Prop
 |.nx env,s=>∀a ob H0 G H,eP W obe Ge He env a s ob H0 G H->D.nx a H|.bk env,s=>∀a ob H0 G H,eP W obe Ge He env a s ob H0 G H->D.bk a H|.ct env,s=>∀a ob H0 G H,eP W obe Ge He env a s ob H0 G H->D.ct a H|.rt p,s=>∀v ob G H,Rep (W.at ob) G p v->gb W obe Ge He ob G H->lP W.K W.mg ob->aE ob=s->D.rt v H
abbrev tS2(W:Wd)(F1:Sg->aP)(F2:cM)(obe:List Ob)(Ge He:Hp)(E:XK)(st:S2):TS:=λD a H=>∃ob b G env s,eP W obe Ge He env a s ob b G H/\bx W obe Ge He E (dC F1 F2 st env s) (K0 W obe Ge He D)
abbrev OV(W:Wd)(F1:Sg->aP)(F2:cM)(obe:List Ob)(Ge He:Hp)(E:XK)(st:pK):TS:=λD a H=>∃ob b G env s,eP W obe Ge He env a s ob b G H/\bx W obe Ge He E (aJ F1 F2 st env s) (K0 W obe Ge He D)
noncomputable abbrev B5(X:Cx)(W:Wd)(F1:Sg->aP)(F2:cM)(obe:List Ob)(Ge He:Hp)(E:XK)(x:S2)(p:ix):Prop:=PS X p (tS2 W F1 F2 obe Ge He E x)
noncomputable abbrev wm(X:Cx)(W:Wd)(F1:Sg->aP)(F2:cM)(obe:List Ob)(Ge He:Hp)(E:XK)(x:pK)(p:List ix):Prop:=qg X p (OV W F1 F2 obe Ge He E x)
section
variable{Γ:Pg}{Δ:km}{W:Wd}{F1:Sg->aP}{F2:cM}{sc:ia}{k:Nat}{E:XK}{obe ob aG:List Ob}{Ge He G' H':Hp}{s:Sg}
theorem ib.block(S:zv3 X){b:ia}{o:Nat}{p:List Nat}{xs:List Str}(h:kl N sc b o p xs)(fp:List hB)(s1:gB)(H1:Hp)(A:hB):ib Γ.vw Δ F1 F2 W (xs++freeOf b) (cJ b sc) k FX (bP X (xs++freeOf b) b (bV X.env (freeOf b)) fp s1 H1 A) where
 C:=λob u=>fu (S.C ob u) h fp s1 H1 A
 pass:=λw σ H s e y I x=>by let(a,C,t,D,H',B,rfl,F):=x;exact F.ends.elim
 qt:=S.qt
 K:=S.K
 mg:=S.mg
 v9:=λf h=>by let(d,g,i,h3):=S.v9 f h;exact{d,g,i,⟨h3.ex⟩}
 met:=λc m h=>by let(C,d,g,i,h3):=S.met c m h;exact{C,d,g,i,⟨h3.ex⟩}
 new:=λc h=>by let(C,d,j,g,i,h3,q,r):=S.new c h;exact{C,d,j,g,i,h3,q,⟨r.ex⟩}
 fl:=S.fl
 td:=λf Z z=>nomatch z
abbrev LO:hD->Bool
 |.Call .. =>gf|_=>gh
def Qy{p:hD}(h:LO p=gf)(env:Env):∀x,foldedSetIterable p env x=pure x:=by
 intro x;cases p<;>first|rfl|(exact aO h)
def Dg(S:zv3 X){f:Nat}{i:List Nat}{d:Tg}{it b:X2}{c j q:hD}{a:ia}{pos:Pos}(h:kl N sc a f i (aF c))(r:ke f d=gf)(t:LO j=gf)(w:G2 X W F1 F2 obe Ge He E it j)
 (y:eT (aF c++freeOf a) (cJ a sc) (k7 a) d c=gf) (he:∀Y,ib Γ.vw Δ F1 F2 W (aF c++freeOf a) (cJ a sc) k FX Y->G2 Y W F1 F2 obe Ge He FX b q):G2 X W F1 F2 obe Ge He E (.nR f i d it b) (.ListComp q [{c,j,[],0}] a pos):=by
 intro B D σ H Q I F;let(ob,H0,G,env,s,st,o):=F;have L:=st.s;subst L;have e:=S.C ob st.u;have M:(freeOf a).Nodup:=(List.nodup_append.mp h.nd).2.1;have rd:=Cs (N:=N) S r h.slots M st o
 have:=zo (g:=gT X.K d) (te:=t2 W F1 F2 obe Ge He FX b) (xs:=aF c) (ys:=freeOf a) (is:=i) (pos:=pos) (e.calm S.qt) (nQ e.hN e.ee I.ok h) (sL w)
  (λfp m p A=>vF (fn:=k7 a) (X:=bP X (aF c++freeOf a) a (bV X.env (freeOf a)) fp m p A) rfl h.nd (fA e.ee) rfl (λZ z=>z) y)
  (λfp m p A=>he _ (S.block h fp m p A)) (Qy t _) B D σ H Q I
 rw [h.len] at this;exact this rd
structure B2(Γ:Pg)(Δ:km)(F1:Sg->aP)(F2:cM)(W:Wd)(N:List Str)(sc:ia)(k:Nat)(E:XK)(X:Cx):Prop where
 C:zv3 X
 S:∀ob,lP W.K W.mg ob->fi Γ (F1 (aE ob)) (W.at ob) N sc k E X
def sH{K:zz8}:lP K mg []:={(λZ Z Z Z h=>nomatch h),(λZ Z h=>nomatch h)}
def B2.s0(S:B2 Γ Δ F1 F2 W N sc k E X):fi Γ (F1 (aE [])) (W.at []) N sc k E X:=S.S [] sH
def QD(S:B2 Γ Δ F1 F2 W N sc k E X){st:Ci.S}{p:ix}(h:fU Γ N sc st p=gf):B5 X W F1 F2 obe Ge He E (.p st) p:=by
 intro i j σ H D I m;let(ob,H0,G,env,s,t,o):=m;have w:=t.s
 subst w;refine Sv (H0:=H0) (S.S ob t.u) S.C.qt st p h i j σ H D I {G,env,t.sr,?_};unfold dC at o;cases r:dH (F1 (aE ob)) st env with
 |bad=>rw [r] at o;exact o|exc c=>rw [r] at o;intro y z H' x;let(C,a,G',A,B,F,K,g):=x;exact o y z H' {C,a,ob,G',A,B,F,K,t.n.fin t.sr.jf g,t.u,rfl}|ok f=>
  rw [r] at o;cases f with
  |nx b=>
   have o:bx W obe Ge He E (Rs.of (if b.any Slot.aZ then Res.bad else .ok (.nx b)) (aE ob)) (K0 W obe Ge He D):=o
   cases d:b.any Slot.aZ with
   |true=>rw [d,if_pos rfl] at o;exact o.elim|false=>rw [d,if_neg zzf] at o;exact λe G' H' sr g=>o e ob H0 G' H' {sr,t.u,t.n.step g,rfl,d}
  |bk b=>exact o.elim|ct b=>exact o.elim|rt q=>exact λv G' H' L g=>o v ob G' H' L (t.n.fin t.sr.jf g) t.u rfl
def xJ(i:Nat)(t:zv5 H)(h:Rep (W.at ob) G p v):eP W obe Ge He (env.set i (.val p)) (σ.set i (fP v)) s ob H0 G H:={t.sr.set i h,t.u,t.n,t.s,tj t.no i p}
def HD(S:B2 Γ Δ F1 F2 W N sc k E X){i:Nat}{e:X2}{p:hD}{a:Pos}(h:N[i]?=fP x)(hl:gz sc x=gf)(he:G2 X W F1 F2 obe Ge He E e p)(hs:swapsWith p (fP (.Name x a)) pos.line X.env=pure gh):B5 X W F1 F2 obe Ge He E (.set i e) (.Assign [.Name x a] p pos):=by let(b,a2,c):=fk S.s0 h hl;refine L2.PS.imp (oQ b a2 c he hs (.inl (S.s0.fn x))) λD σ H h=>?_;let(ob,H0,G,env,s,t,o):=h;unfold dC at o;exact hW t o λp v r d f g j m g1 q o1=>o1 _ d f g j (xJ i m q)
theorem Mp{e:X2}{p:hD}(he:G2 X W F1 F2 obe Ge He E e p)(hn:d7 p=gf):B5 X W F1 F2 obe Ge He E (.ex e) (.Expr p pos):=
 L2.PS.imp (sO he (gS hn)) λD σ H h=>by let(ob,H0,G,env,s,t,o):=h;unfold dC at o;exact hW t o λp v g a b c d f g1 i o1=>o1 σ a b c d f
theorem HC{e:X2}{p:hD}(he:G2 X W F1 F2 obe Ge He E e p):B5 X W F1 F2 obe Ge He E (.ret e) (.Return (fP p) pos):=
 L2.PS.imp (sP he) λD σ H h=>by let(ob,H0,G,env,s,t,o):=h;unfold dC at o;exact hW t o λp v g b i c d a g1 f o1=>o1 v b c d f (a.n.kQ a.sr) a.u a.s
theorem HA{c:T2}{a b:pK}{p:hD}{e f:List ix}(m:PL X W F1 F2 obe Ge He E c p)(q:wm X W F1 F2 obe Ge He E a e)(r:wm X W F1 F2 obe Ge He E b f):B5 X W F1 F2 obe Ge He E (.ite c a b) (.If p e f pos):=
 L2.PS.imp (KC m q r) λD σ H h=>by
  let(ob,H0,G,env,s,t,o):=h;unfold dC at o;refine{ob,H0,G,env,s,t,o.bind.imp λb g d aG i G' H' j=>?_}
  cases b with
  |true=>rw [if_pos rfl] at d⊢;exact⟨aG,i,G',env,g,j,d⟩|false=>rw [if_neg zzf] at d⊢;exact⟨aG,i,G',env,g,j,d⟩
theorem Dw:wm X W F1 F2 obe Ge He E .nil []:=L2.qg.imp sR λD σ H h=>by let(ob,H0,G,env,s,t,o):=h;unfold aJ at o;exact o σ ob H0 G H t
theorem AI{x:S2}{xs:pK}{p:ix}{ps:List ix}(c:B5 X W F1 F2 obe Ge He E x p)(d:wm X W F1 F2 obe Ge He E xs ps):wm X W F1 F2 obe Ge He E (.cons x xs) (p::ps):=
 L2.qg.imp (vJ c d) λD σ H h=>by
  let(ob,H0,G,env,s,t,o):=h;unfold aJ at o;refine{ob,H0,G,env,s,t,o.bind.imp λf e a=>?_}
  cases f with
  |nx b=>exact λg i j G2 m t2=>⟨i,j,G2,b,e,t2,a⟩|bk b=>exact a|ct b=>exact a|rt q=>exact a
def HB(S:B2 Γ Δ F1 F2 W N sc k E X){i:Nat}{y:Str}{f g:Pos}{xs:tY}{a b:hD}{kt pt e u}(z:N[i]?=fP x)(A:N[j]?=fP y)(h3:i≠j)(B:x≠y)(F:g.line=f.line)(h:sc.names.lookup x=fP .local)(m:sc.names.lookup y=fP .local)(K:EJ a b=gf)
 (ga:JU X W F1 F2 obe Ge He E xs [a,b]):B5 X W F1 F2 obe Ge He E (.par i j xs) (.Assign [.Tuple [.Name x f,.Name y g] kt pt] (.Tuple [a,b] e u) pos):=by
 have c:=S.s0.C;intro L M σ H D I O;refine Fb (c.calm S.C.qt) (by rw [c.hN];exact c.nd) (by rw [c.hN];exact z) (by rw [c.hN];exact A) h3 (by rw [c.ee];exact h) (by rw [c.ee];exact m) ga (FJ I.ok.kind (by rw [c.ee];exact h) (by rw [c.ee];exact m) F B K) rfl L M σ H D I ?_;let(ob,H0,G,env,s,t,o):=O;unfold dC at o;refine{ob,H0,G,env,s,t,o.bind.imp λP s1 o1 vs Q R T U V g1 d=>?_}
 match P,d,o1 with
 |[],_,o1=>exact o1.elim|[_],_,o1=>exact o1.elim|_::_::_::_,_,o1=>exact o1.elim|[p,q],d,o1=>
  let(v,r,rfl,Y,d):=d.bo;let(w,Z,rfl,hw,d):=d.bo;have:=d.length
  cases Z with
  |cons _ _=>cases this
  |nil=>exact{v,w,rfl,o1 _ Q R T U (xJ j (xJ i V Y) hw)}
theorem vK{p:PV}:∀{fs:List (Str×PV)} {vs:List V},ah (W.at ob) G (fs.map (·.2)) vs->Rep (W.at ob) G p v->∃vs',gP f v ((fs.map (·.1)).zip vs)=((oS f p fs).map (·.1)).zip vs'/\ah (W.at ob) G ((oS f p fs).map (·.2)) vs'
 |[],vs,l,h=>by simp! [List.map_nil,ah] at l;subst l;exact{[v],rfl,.cons h .nil}|(g,q)::fs,vs,l,h=>by
  let(u,r,rfl,c,b):=ah.bo (p:=q) (ps:=fs.map (·.2)) l;show∃vs',(if g=f then(g,v)::((fs.map (·.1)).zip r) else(g,u)::gP f v ((fs.map (·.1)).zip r))=((if g=f then(g,p)::fs else(g,q)::oS f p fs).map (·.1)).zip vs'/\ah (W.at ob) G ((if g=f then(g,p)::fs else(g,q)::oS f p fs).map (·.2)) vs';by_cases a:g=f
  .rw [if_pos a,if_pos a];exact{v::r,rfl,.cons h b}
  .rw [if_neg a,if_neg a];let(vs',d,e):=vK b h;exact{u::vs',by rw [d];rfl,.cons c e}
theorem mC{g:Str}:∀{fs:List (Str×PV)},(oS f p fs).lookup g=fP q->g=f\/fs.lookup g=fP q
 |[],h=>by
  have h:List.lookup g [(f,p)]=fP q:=h
  rw [eH] at h;cases e:g==f with
  |true=>exact .inl (zzy.mp e)|false=>rw [e] at h;cases h
 |(a,b)::fs,h=>by
  unfold oS at h;by_cases c:a=f
  .rw [if_pos c,eH] at h;rw [eH];cases e:g==a with
   |true=>exact .inl ((zzy.mp e).trans c)|false=>rw [e] at h;exact .inr h
  .rw [if_neg c,eH] at h;rw [eH];cases e:g==a with
   |true=>rw [e] at h;exact .inr h|false=>rw [e] at h;exact mC h
def JR{a b:Type}{xs:List a}{ys:List b}:(xs.zip ys).length<=xs.length:=by rw [List.length_zip];exact Nat.min_le_left _ _
def Kw{o:Ob}(h:bF o.c=gh):mR o vs=.ins o.C o.dx ((o.fs.map (·.1)).zip vs):=ng h
def Ln{n:Nat}(h:g8 (aE ob) n c=gf):∃o,ob[n]?=fP o/\o.c=c/\bF o.c=gh:=by
 unfold g8 at h;cases e:ob[n]? with
 |none=>
  have:(aE ob)[n]?=gd:=by unfold aE;rw [c4,e];rfl
  rw [this] at h;cases h
 |some o=>
  have:(aE ob)[n]?=fP ⟨o.c,o.fs⟩:=by unfold aE;rw [c4,e];rfl
  rw [this] at h;have b:=aj h;have a:=zzy.mp b.1;dsimp only at a;exact{o,rfl,a,by rw [a];simpa using b.2}
def Dt(S:B2 Γ Δ F1 F2 W N sc k E X){f:Str}{i:Nat}{e:X2}{p:hD}{ap:Pos}(U:(N[i]?==fP x&&kf sc x&&okN x)=gf)(V:Δ.fl.contains (c,f)=gf)(he:G2 X W F1 F2 obe Ge He E e p)(hn:d7 p=gf):
 B5 X W F1 F2 obe Ge He E (.tm c i f e) (.Assign [.Attribute (.Name x np) f ap] p pos):=by
 refine L2.PS.imp (N8 (kM (F2:=F2) (obe:=obe) (Ge:=Ge) (He:=He) (e:=.var i) (p:=.Name x np) S.C rfl ?_) he (gS hn)) λD σ H h=>?_
 .unfold aK;exact U
 let(ob,H0,G,env,s,t,o):=h;unfold dC at o;refine hW t o λq y s1 d Y Z H1 L g1 rp o1=>?_;have j:=L.s
 subst j;have B:∃n,env[i]?=fP (.val (.obj n))/\g8 (aE d) n c=gf/\bx W obe Ge He E ((Oz (aE d) n f q).bind λ_ s=>.ok (.nx env) s) (K0 W obe Ge He D):=by
  cases j:env[i]? with
  |none=>rw [j] at o1;exact o1.elim|some sl=>
   rw [j] at o1;cases sl with
   |val r=>
    cases r with
    |obj n=>
     dsimp only at o1;cases w:g8 (aE d) n c with
     |true=>rw [w,if_pos rfl] at o1;exact⟨n,rfl,w,o1⟩|false=>rw [w,if_neg zzf] at o1;exact o1.elim
    |_=>exact o1.elim
   |_=>exact o1.elim
 let(n,j,w,o2):=B;let(F,eo,rfl,A):=Ln w
 have ev:bC F1 F2 (.pu (.var i)) env (aE d)=.ok (.obj n) (aE d):=by
  rw [iw];have:aB (F1 (aE d)) (.var i) env=iL env[i]?:=by unfold aB;rfl
  rw [this,j];rfl
 refine{d,Y,Z,env,aE d,L,?_};rw [ev];intro v M rA G2 H2 t2 g2 O;simp! [Rep] at O;let(b,m,rfl):=O;have m:M[n]?=fP b:=m;have hs:(aE M)[n]?=fP ⟨b.c,b.fs⟩:=by unfold aE;rw [c4,m];rfl
 have Vy:(aE d)[n]?=fP ⟨F.c,F.fs⟩:=by unfold aE;rw [c4,eo];rfl
 have P:b.c=F.c:=by rw [t2.s,Vy] at hs;exact(congrArg OS.c (zzq hs)).symm
 have I:bF b.c=gh:=by rw [P];exact A
 let(_,vs,Q,l):=t2.sr.tab.o n b m;rw [Kw I] at Q;let(c1,c2,c3):=t2.u.cls n b m I;have R:cU X.K b.C f:=S.C.fl _ f V b.C (by rw [<-S.C.mg,<-P];exact c1);rw [<-t2.s] at o2;unfold Oz at o2;rw [hs] at o2;dsimp only at o2;by_cases hl:b.fs.length<1000
 .rw [if_pos hl] at o2;let(vs',e5,l'):=vK (f:=f) l (g2.rep rp)
  let(T,u2):=nh (fs':=oS f q b.fs) (vs':=vs') t2.sr.tab t2.sr.sub t2.u m l' (.inr λg p hg=>by
   rcases mC hg with rfl|z
   .rw [S.C.K];exact R
   .exact c3 g p z)
  have ho:mR {b with fs:=oS f q b.fs} vs'=.ins b.C b.dx (gP f y ((b.fs.map (·.1)).zip vs)):=by rw [Kw (o:={b with fs:=oS f q b.fs}) I,e5]
  rw [ho] at T;refine{b.a,b.C,b.dx,_,rfl,Q,by rw [<-S.C.K];exact c2,R,?_,?_}
  .refine dk JR ?_;rw [zzl];exact hl
  .exact o2 σ _ _ G2 _ (t2.on T u2 tx)
 .rw [if_neg hl] at o2;exact o2.elim
def Ds(S:B2 Γ Δ F1 F2 W N sc k E X){a j e:Ci.E}{K p:hD}{sp:Pos}(Q:eR a=gf)(R:aK Γ N sc a po=gf)(T:eR j=gf)(hk:aK Γ N sc j K=gf)(U:eR e=gf)(he:aK Γ N sc e p=gf)(hn:d7 p=gf):
 B5 X W F1 F2 obe Ge He E (.xE a j e) (.Assign [.Subscript po K sp] p pos):=by
 refine L2.PS.imp (Jf (by have:=S.C.units;lia) (kM (F2:=F2) (obe:=obe) (Ge:=Ge) (He:=He) S.C Q R) (kM (F2:=F2) (obe:=obe) (Ge:=Ge) (He:=He) S.C T hk) (kM (F2:=F2) (obe:=obe) (Ge:=Ge) (He:=He) S.C U he) (gS hn)) λD σ H h=>?_;let(ob,H0,G,env,s,t,o):=h;unfold dC at o;rw [<-iw (F2:=F2)] at o;refine hW t o λq v s1 cL jb G1 H1 V g1 Y o1=>?_;rw [<-iw (F2:=F2)] at o1;refine hW V o1 λr u s2 hV rA G2 H2 t2 g2 Z o2=>?_;rw [<-iw (F2:=F2)] at o2;refine hW t2 o2 λz w s3 m O5 L H3 g M rz o3=>?_;have e3:=g.s;subst e3;let(n,b,rfl,y,A,f):=nS o3.bind;cases sW (M.rep Z) y;let(_,i,O,l):=g.sr.tab.o n b y;rw [vz A] at O;have hl:(b.fs.map (·.1)).length=i.length:=by rw [l.length,zzl,zzl]
 cases B:fz z with
 |none=>
  have f:bx W obe Ge He E (match fz z with|some z=>(if b.fs.length<bS then Rs.ok PV.aN ((aE m).set n {b.c,putD z q b.fs}) else .bad)|none=>.bad) _:=f;rw [B] at f;exact f.elim
 |some d=>
  have f:bx W obe Ge He E (match fz z with|some z=>(if b.fs.length<bS then Rs.ok PV.aN ((aE m).set n {b.c,putD z q b.fs}) else .bad)|none=>.bad) _:=f;rw [B] at f;dsimp only at f;rw [fM B] at rz;simp! [gL,Rep] at rz;subst rz;by_cases F:b.fs.length<bS
  .rw [if_pos F] at f;have I:Rep (W.at m) L q v:=M.rep (g2.rep Y);let(P,u2):=nh (fs':=putD d q b.fs) (vs':=df (b.fs.map (·.1)) i d v) g.sr.tab g.sr.sub g.u y (by rw [qW.2];exact sV l I) (.inl (yM A));have ho:mR {b with fs:=putD d q b.fs} (df (b.fs.map (·.1)) i d v)=.dK (putK (kz (b.fs.map (·.1)) i) (ki d) v):=by rw [vz (o:={b with fs:=putD d q b.fs}) A,xg hl];show HO.dK (kz ((putD d q b.fs).map (·.1)) _)=_;rw [qW.1]
   rw [ho] at P;refine{b.a,_,rfl,wk.k (k:=ki d) O (by rw [iD hl,zzl];exact dA F (by decide)),?_};exact f σ _ _ L _ (g.on P u2 tx)
  .rw [if_neg F] at f;exact f.elim
def Ent.trans{c:List Ob}{d:Hp}(n:Ent obe Ge He ob G H0)(m:Ent ob G H0 c d H1):Ent obe Ge He c d H1:={n.ids.trans m.ids,n.g.trans m.g,n.h.trans m.h,λa b h3 e=>m.own a (n.h.has b) (n.h.ji b h3) (n.own a b h3 e)}
def Ent.comp(n:Ent obe Ge He ob G H0)(t:bz (W.at ob) G H0)(g:gb W ob G H0 aG G' H'):gb W obe Ge He aG G' H':={n.ids.trans g.ids,n.g.trans g.g,n.h.trans g.h,g.sub,λa b h3 c=>g.own a (n.h.has b) (n.h.ji b h3) (n.own a b h3 c),λZ=>g.tab t}
def Gn.comp{b:gA}{d:Option hB}(n:Ent obe Ge He ob G H0)(t:bz (W.at ob) G H0)(x:Gn W c s ob G H0 b d H'):Gn W c s obe Ge He b d H':=by let(C,a,aG,G',e,f,h,i,g,u,j):=x;exact{C,a,aG,G',e,f,h,i,n.comp t g,u,j}
def Hz(S:B2 Γ Δ F1 F2 W N sc k E X){U:Tg}{b:pK}{bR fh:hD}{pb:List ix}(u0:eT N sc (λ_=>gf) U bR=gf)(hit:Ay it=gf)(hi:uA Γ N sc bR it fh=gf)(hb:∀obe Ge He,wm X W F1 F2 obe Ge He E b pb):B5 X W F1 F2 obe Ge He E (.hJ U it b) (.For bR fh pb [] pos):=by
 intro aa sh σ H D I h;let(ob,H0,G,env,s,t,o):=h;have e0:=t.s;subst e0;have T:=S.C.C ob t.u;unfold dC at o;have QP:qg X pb (λD σ H=>∃obe Ge He,OV W F1 F2 obe Ge He E b D σ H):=λaa s σ H D I ⟨obe,Ge,He,q⟩=>hb obe Ge He aa s σ H D I q;refine E9 S.s0.own (T.calm S.C.qt) (By it T bR fh hi) (vF (fn:=λ_=>gf) T.hN T.nd T.ee (T.calm S.C.qt) (λx _=>S.s0.fn x) u0) QP (iV hi _) aa sh σ H D I {H0,G,env,t.sr,(cX S.C.pass t o.bind).imp λd iZ J B H1 g1 gi=>?_};have b9:=gi.b9 hit;generalize hf:(λ(x:PV) (env:Sl) (s:Sg)=>(Rs.of (U.put x env) s).bind λa s=>aJ F1 F2 b a s)=f at iZ;have F:=t.grow g1;have tr:eP W ob B H0 env σ (aE ob) ob H0 B H1:={F.sr,F.u,.refl,rfl,F.no};have YN:=F.sr.jf;refine{λi m L H'=>i<=d.length/\m=d.length-i/\∃aG dI G' a A,eP W ob B H0 a L A aG dI G' H'/\bx W obe Ge He E (jh f (d.drop i) a A) (K0 W obe Ge He D),{_,Nat.zero_le _,rfl,ob,H0,B,env,_,tr,by rw [List.drop_zero];exact iZ},?_}
 rintro i m L H' ⟨DF,hm,aG,dI,G',a,A,M,y⟩
 have up:∀{z:Sl} {j:St} {V:Sg} {hV:List Ob} {rA G2 Y:Hp},eP W ob B H0 z j V hV rA G2 Y->eP W obe Ge He z j V hV rA G2 Y:=λq=>{q.sr,q.u,F.n.trans q.n,q.s,q.no};let(ist,igo):=b9 i G' H' M.n.g (.of (M.n.g.trans M.sr.sub)) M.sr.sub;by_cases w:i=d.length
 .refine .inl {ist w,?_};rw [w,List.drop_length] at y;exact y L aG dI G' H' (up M)
 .have dO:i<d.length:=by lia
  let(DE,Z):=igo d[i] (zzg dO);refine .inr {DE,λj Y=>i+1<=d.length/\∃hV rA G2 z V,eP W ob B H0 z j V hV rA G2 Y/\bx W obe Ge He E (jh f (d.drop (i+1)) z V) (K0 W obe Ge He D),λj Y h2=>{d.length-(i+1),by lia,h2.1,rfl,h2.2},λx jq hy=>?_};let(rn,g0,rx):=Z x jq hy;have qF:aC (W.at aG) G' H' rn jq:=⟨g0.g,g0.h,g0.sub,g0.own,g0.tb⟩;have Ww:Rep (W.at aG) rn d[i] x:=Rep.at M.n.ids _ rx;rw [List.drop_eq_getElem_cons dO] at y;unfold jh at y;have Vq:f d[i] a A=(Rs.of (U.put d[i] a) A).bind λa s=>aJ F1 F2 b a s:=by rw [<-hf]
  rw [Vq] at y;have t2:=M.grow qF
  cases r:U.put d[i] a with
  |bad=>rw [r] at y;exact y.elim|exc c=>exact absurd r (l4 c)|ok z=>
   rw [r] at y;refine lW (W:=W.at aG) S.C.K r t2.sr Ww λj sr3=>{ob,B,H0,aG,dI,rn,z,A,{sr3,t2.u,t2.n,t2.s,Fg t2.no r},?_}
   have o2:bx W obe Ge He E ((aJ F1 F2 b z A).bind λfl s=>match fl with
    |.nx a=>jh f (d.drop (i+1)) a s|.ct a=>jh f (d.drop (i+1)) a s|.bk a=>.ok (.nx a) s|.rt p=>.ok (.rt p) s) (K0 W obe Ge He D):=y
   cases r2:aJ F1 F2 b z A with
   |bad=>rw [r2] at o2;exact o2.elim|exc cc s3=>rw [r2] at o2;exact λCv ao O x=>o2 Cv ao O (Gn.comp F.n YN x)|ok fl s3=>
    rw [r2] at o2;cases fl with
    |nx e=>exact λP Q O5 R O t3=>⟨dO,Q,O5,R,e,s3,t3,o2⟩|ct e=>exact λP Q O5 R O t3=>⟨dO,Q,O5,R,e,s3,t3,o2⟩|bk e=>exact λP Q O5 R O t3=>o2 P Q O5 R O (up t3)|rt q=>exact λv Q R O rv g3 u3 e3=>o2 v Q R O rv (F.n.comp YN g3) u3 e3
end
structure Xo(n dn en:Str)(st:ix):Prop where
 sc:iP [dn,en] [dn] (au st)
 bind:∀(kV doc pm:gA) (an:Option hB) (dG ct:gA) (us:List gA),us.length=[dn].length->bindArgs (PySem.W.fnOf n n (bY st) (bg st) (au st) .none kV doc pm an dG ct) {us,[]}=pure ([dn].zip us)
 body:∃np cp rp xp gp Yl UH Yt AR pos,bg st=[.Try [.Return (fP (.Call (.Name dn np) [] [] cp)) rp] [.ExceptHandler (fP (.Name (zu 8) xp)) (fP en) [.Return (fP (.Call (.Name (zu 6) gp) [.Name en Yl] [] UH)) Yt] AR] [] [] pos]
 ld:(au st).names.lookup dn=fP .local
 le:(au st).names.lookup en=fP .local
 g1:(au st).names.lookup (zu 8:Str)=fP .globalImplicit
 g2:(au st).names.lookup (zu 6:Str)=fP .globalImplicit
 o1:okN dn=gf
 o2:okN en=gf
section
variable{P:hG}{K:zz8}{Γ:Pg}{W:Wd}{F1:Sg->aP}
theorem T1.mono{k:Nat}(t:T1 P w K mg base W F1 Γ j)(h:j<=k):T1 P w K mg base W F1 Γ k:=
 {t.M,λob u f a=>(t.F ob u f a).mono h,λob u q b=>by let(c,fd,d,e,g):=(t.H ob u q b).ex;exact{c,fd,d,e.mono h,g},t.Q,t.A,t.D,t.qt,t.hl,di t.k2 h}
abbrev teC(P:hG)(w:hI)(K:zz8)(mg:Str->Option gA)(base:ig)(k:Nat)(g:XK):TE:=λi H Q=>∃f d,i[0]?=fP (fP (V.ref f))/\(∀h,fE P w H h->PySem.W.FnAt f h)/\GC P w K mg base k f H Q d/\∀e b c,d e b c->(∀a,b=fP a->c a=gd)->g e b c
abbrev teH(W:Wd)(F1:Sg->aP):TE:=λe H Q=>∃a d pv ob G,e[1]?=fP (fP (V.ref a))/\az G H/\bz (W.at ob) G H/\lP W.K W.mg ob/\Rep (W.at ob) G (.exc d) (.ref a)/\F1 (aE ob) (zu 6) [.exc d]=.ok pv/\∀v b c,aC (W.at ob) G H b c->Rep (W.at ob) b pv v->Q v c
def JI(KB:K.In base){n dn en:Str}{fa:hB}{fd:FuncData}(T:T1 P w K mg base W F1 Γ j)(c:Γ.qs.contains (zu 6)=gf)(BW:Γ.cs.contains (zu 8)=gf)(St:Xo n dn en st)(Fu:K1 K n n st fa fd):
 fF P w K mg base (dF P w) (j+3) fa fd [dn] (spT P w K mg base (j+2) W F1):=by
 let(oc,od,kV,doc,pm,an,dG,ct,pH,rfl,lk,mM):=Fu.ex;have hK:W.K=K:=(T.M []).hK;have hM:W.mg=mg:=(T.M []).hm;have m:=T.mono (Nat.le_succ j);refine Df lk mM St.sc (λp H Q E h=>h.1) λA outer s H p Q E hr h=>?_;let(_,f,RE,rfl,N,hC,hE):=h;have CS:∀ob,lP W.K W.mg ob->fi Γ (F1 (aE ob)) (W.at ob) [dn,en] (au st) (j+1) E (dM (dF P w) P w K mg base [dn,en] n (au st) fa dG A outer s H E):=λob u=>wM (outer:=outer) (s:=s) (H:=H) (E:=E) (T.M ob) KB St.sc (m.F ob u) (m.H ob u) (λf N=>{m.k2,m.Q ob u f N}) (λ_=>m.k2) (m.A ob u) (m.D ob u) (λz=>by rw [T.hl] at z;cases z) hr;have C0:=CS [] sH;let(np,cp,rp,xp,gp,Yl,UH,Yt,AR,pos,eb):=St.body;let(Dc,hm):=C0.C.cls _ (eg.mp BW);rw [eb];refine{_,sS (N9 (Dc:=Dc) (i:=1) (tb:=λE'=>OU (teC P w K mg base (j+2) E')) (ts:=OU (teH W F1)) C0.C.nd rfl St.le rfl rfl St.g1 hm (λpn xe E' hP=>sS (sP ?call)) (λa pn=>sS (sP ?tell))),?fin}
 case call=>intro aa s1 b O Q1 R S;let(f,RE,h0,N,hC,hE):=S;refine wpAny_Call_Name_kw (wpAny_mono (l6 (i:=0) rfl (.inl St.ld) (eM St.o1).1 (eM St.o1).2.1 aa s1 b O (λv' U=>v'=.ref f/\U=O) R {_,h0,rfl,rfl}) (λu s2 hu=>?_) λ_ _ y=>y);let(v',U,I,ru,rfl,rfl):=hu;cases ru;refine PySem.W.callWith_F0 (N _ I.aQ) ?_;refine hC _ aa b s2 Q1 rfl rfl rfl rfl rfl hr I (λ_ _ z=>z) λe s' x=>?_;let(a,C,t,p,X,B,rfl,F):=x;exact hP aa b _ s2 _ s' I {a,C,t,p,X,B,rfl,{F with ends:=hE _ _ _ F.ends λa' e=>by cases e;exact F.fresh}}
 case tell=>intro o s1 b O Q1 R S;let(ad,d,pv,ob,G,S,sg,tb,u,rp,L,h3):=S;have C1:=CS ob u;let(k2,(fb,fd2,pn2,FO,HS,hk2,QP,hal)):=C1.C.Wq _ c;refine wpAny_Call_Name_kw (eh R St.g2 HS ?_ (by decide+kernel));refine PySem.W.callWith_K (h₀:=base) R.ok.mod.Ii hk2 (bU ((bZ (l6 (i:=1) rfl (.inl St.le) (eM St.o2).1 (eM St.o2).2.1) dE rfl) UH o s1 b O (λp U=>p=[.ref ad]/\U=O) R {.ref ad,S,rfl,rfl}) λus s2 ⟨p,U,I,r,q1,q2⟩=>{I.jY,?_}) rfl rfl;subst q1 q2;refine kD (W:=W.at ob) (k:=2) (q:=gd) (as:=[.exc d]) (G:=G) {λz=>absurd z (by decide),(hr.mono (Nat.le_succ_of_le k2)).dp,(hr.mono (Nat.le_succ_of_le k2)).un} FO QP (λz=>hal _ z) I sg tb (show ah (W.at ob) _ [.exc d] [V.ref ad] from .cons rp .nil) r ?_;rw [L];exact h3
 case fin=>
  refine{f,RE,rfl,N,hC,λCv ao X y fr=>?_};let(d,C,a,ob,G,rfl,rfl,Y,Z,sg,tb,u,c):=hE _ _ _ y;have ha:X a=gd:=fr a rfl;refine{a,C,rfl,rfl,C0.Ph BW d C Y (by rw [<-hM];exact Z) Dc hm,λσ' hl=>?_};have gn:aC (W.at ob) G X (upd G a (mH a C)) (upd X a (mH a C)):=.new sg ha
  cases L:F1 (aE ob) (zu 6) [.exc d] with
  |exc _=>rw [L] at c;exact c.elim|bad=>rw [L] at c;exact c.elim|ok pv=>
   rw [L] at c;refine{a,d,pv,ob,upd G a (mH a C),?_,gn.sub,gn.tab tb,u,?_,L,λv G' jq g r=>c v G' jq (gn.trans g) r}
   .exact ei (by rw [hl];exact(by decide:1<2))
   .simp! [Rep];exact⟨a,C,rfl,Y,Z,ak⟩
variable{Z:kd}
mutual
theorem Rep.less(f:∀b o,Z.lookup b=fP o->G b=fP (.b9 o dj)):∀(p:PV) {v:V},Rep W G p v->Rep W (cI Z G) p v
 |.aN,_,h=>by simpa only [Rep] using h|.bl b,_,h=>by simpa only [Rep] using h|.int i,_,h=>by simpa only [Rep] using h|.str z,_,h=>by simpa only [Rep] using h|.tup xs,_,h=>by
  simp! [Rep] at h⊢;let(a,vs,e,q,l):=h
  refine{a,vs,e,?_,ah.less f xs l};rcases q with q|⟨(q|⟨o,q⟩)|q,z⟩
  .cases y:Z.lookup a with
   |none=>exact .inl (by rw [aH y];exact q)|some d=>rw [f a d y] at q;cases q
  .cases y:Z.lookup a with
   |none=>exact .inl (by rw [aH y];exact q)|some d=>rw [f a d y] at q;cases q
  .cases y:Z.lookup a with
   |none=>exact .inr {.inl (.inr {o,by rw [aH y];exact q}),z}|some d=>rw [f a d y] at q;cases q
  .exact .inr {.inr q,z}
 |.lst xs,_,h=>by
  simp! [Rep] at h⊢;let(a,vs,e,q,l):=h
  refine{a,vs,e,?_,ah.less f xs l};rcases q with(q|⟨o,q⟩)|q
  .cases y:Z.lookup a with
   |none=>exact .inl (.inl (by rw [aH y];exact q))|some d=>rw [f a d y] at q;cases q
  .cases y:Z.lookup a with
   |none=>exact .inl (.inr {o,by rw [aH y];exact q})|some d=>rw [f a d y] at q;cases q
  .exact .inr q
 |.exc c,_,h=>by
  simp! [Rep] at h⊢;let(a,C,e,x,m,q):=h
  cases y:Z.lookup a with
  |none=>exact{a,C,e,x,m,by rw [aH y];exact q}|some d=>rw [f a d y] at q;unfold mH at q;cases q
 |.cA j vs,_,h=>by
  simp! [Rep] at h⊢;let(a,o,g,e,n,m,l):=h
  refine{a,o,g,e,n,?_,ah.less f vs l};cases y:Z.lookup a with
  |none=>rw [aH y];exact m|some d=>rw [f a d y] at m;cases m
 |.obj n,_,h=>by simpa only [Rep] using h
theorem ah.less(a:∀b o,Z.lookup b=fP o->G b=fP (.b9 o dj)):∀(ps:List PV) {vs:List V},ah W G ps vs->ah W (cI Z G) ps vs
 |[],_,h=>by simpa only [ah] using h|p::ps,_,h=>by simp! [ah] at h⊢;let(v,r,e,c,d):=h;exact{v,r,e,Rep.less a p c,ah.less a ps d}
end
theorem Jo(a:az G H)(c:∀b o,Z.lookup b=fP o->H b=gd):az G (aR Z G):=λb u e=>by
 cases y:Z.lookup b with
 |none=>rw [av y];exact e|some o=>have:=a _ _ e;rw [c b o y] at this;cases this
theorem BD(t:kn W G H)(i:az G H)(f:∀b o,Z.lookup b=fP o->G b=fP (.b9 o dj))(j:∀b o,Z.lookup b=fP o->∃v,o.data=.cell v):kn W (cI Z G) (cI Z H):=λP q m=>by
 let(n,k,e,p,r):=t P q m;refine{j2 n,k,?_,p,λc s y=>?_}
 .cases y:Z.lookup P with
  |none=>rw [aH y];exact e|some o=>rw [i _ _ (f P o y)] at e;cases e
 .let(a,oc,u,z,A,d,g,B):=r c s y
  refine{a,oc,u,z,A,?_,g,B};cases y:Z.lookup a with
  |none=>rw [aH y];exact d|some o=>rw [f a o y] at d;cases d;let(v,h):=j a _ y;rw [g] at h;cases h
theorem q0(t:kn W G H)(g:az G H)(a:∀b o,Z.lookup b=fP o->H b=gd):kn W (aR Z G) (aR Z H):=λP q m=>by
 let(n,h,e,i,j):=t P q m;refine{?_,h,?_,i,λc k y=>?_}
 .cases y:Z.lookup P with
  |none=>rw [av y];exact n|some o=>rw [a P o y] at e;cases e
 .cases y:Z.lookup P with
  |none=>rw [av y];exact e|some o=>rw [a P o y] at e;cases e
 .let(d,oc,p,r,s,f,u,z):=j c k y
  refine{d,oc,p,r,s,?_,u,z};cases y:Z.lookup d with
  |none=>rw [av y];exact f|some o=>have:=g _ _ f;rw [a d o y] at this;cases this
def FP(t:bz W G H)(d:az G H)(c:∀b o,Z.lookup b=fP o->H b=gd):bz W (aR Z G) (aR Z H):={q0 t.t d c,λi o m=>by
 let(f,g,e,l):=t.o i o m
 have y:Z.lookup o.a=gd:=by
  cases y:Z.lookup o.a with
  |none=>rfl|some u=>rw [c _ u y] at e;cases e
 exact{by rw [av y];exact f,g,by rw [av y];exact e,ah.same (Jo d c) _ l}}
theorem aC.lz{d f:Hp}(g:aC W (aR Z G) (aR Z H) d f)(i:az G H)(j:∀b o,Z.lookup b=fP o->∃v,o.data=.cell v)(c:∀b o,Z.lookup b=fP o->H b=gd):aC W G H (cI Z d) (cI Z f) where
 g:=λb u e=>by
  cases y:Z.lookup b with
  |none=>rw [aH y];exact g.g _ _ (by rw [av y];exact e)|some o=>have:=i _ _ e;rw [c b o y] at this;cases this
 h:=λb u e=>by
  cases y:Z.lookup b with
  |none=>rw [aH y];exact g.h _ _ (by rw [av y];exact e)|some o=>rw [c b o y] at e;cases e
 sub:=λb u e=>by let(q,k):=j3 e;rw [aH q];exact g.sub _ _ k
 own:=λa m h3 p=>by
  cases y:Z.lookup a with
  |none=>rw [aH y];exact g.own a (by rw [av y];exact m) (by rw [av y];exact h3) (by rw [av y];exact p)|some o=>exact iG y
 tb:=λt=>BD (g.tb (q0 t i c)) g.sub (λb o q=>g.g _ _ (bA q)) j
def Bt(a:az G H):az (aR Z G) (aR Z H):=λb u e=>by
 cases y:Z.lookup b with
 |none=>rw [av y] at e⊢;exact a _ _ e|some o=>rw [bA y] at e⊢;exact e
def mw(a:∀b o,Z.lookup b=fP o->H b=gd):cI Z (aR Z H)=H:=by
 funext b
 cases y:Z.lookup b with
 |none=>rw [aH y,av y]|some o=>rw [iG y,a b o y]
theorem DJ{P:hG}(k:fE P w H h)(a:∀b o,Z.lookup b=fP o->H b=fP (.b9 o dj)):fE P w (cI Z H) h:=λb v e=>by
 let(q,d):=j3 e;refine(k b v d).f7 (λc y Y r=>r) (λc r=>?_) λc xs r=>?_
 .cases y:Z.lookup c with
  |none=>rw [aH y];exact r|some o=>rw [a c o y] at r;cases r
 .cases y:Z.lookup c with
  |none=>rw [aH y];exact r|some o=>rw [a c o y] at r;cases r
def Ax{P:hG}{K:zz8}{s:gB}(e:jl P w K mg base A outer s H)(a:∀b o,Z.lookup b=fP o->H b=fP (.b9 o dj)):jl P w K mg base A outer s (cI Z H):=
 {e.frames,e.mod,λb o q=>{(e.bs b o q).1,j2 (e.bs b o q).2},e.wH,e.hU,λb c=>j2 (e.wU b c),DJ e.aQ a,e.bare}
def Oy{ps:List Str}{a:ia}(h:Wz ps a=gf):ug ps (bE a) a:=by unfold Wz at h;simp! [zza,zzy,Bool.not_eq_true',zzN,c8] at h;let((((((b,c),h3),d),e),f),g):=h;refine{b,c,h3,d,e,f,g,λx i=>?_};unfold bE;rw [List.mem_reverse,ew];exact{(x,.free),List.mem_filter.mpr {PySem.mem_of_lookup i,rfl},rfl}
def GX{b:Arguments}{ps:List Str}{c:ia}{d e ct:gA}(h:uu b=fP ps)(us:List gA)(hl:us.length=ps.length):bindArgs (PySem.W.kla_fn (zu 22) qual b body c cl d e ct) {us,[]}=pure (ps.zip us):=by
 rcases yg h with⟨rfl,rfl⟩|⟨a,rfl,rfl⟩
 .cases us with
  |nil=>rfl|cons _ _=>cases hl
 .cases us with
  |nil=>cases hl
  |cons u r=>
   cases r with
   |cons _ _=>cases hl
   |nil=>simp [bindArgs,seqItems?,PySem.W.kla_fn];rfl
def Hc{b:Arguments}{ps:List Str}{env:Env}(h:uu b=fP ps):defaultsOf b env=([],[]):=by
 rcases yg h with⟨rfl,rfl⟩|⟨a,rfl,rfl⟩
 .rfl
 .rfl
end
def Jz{W:Wd}{as:List PV}(d:az G H)(tb:bz W G H)(l:ah W G as vs):SR W H (as.map .val) (vs.map fP) G H:=by
 refine{by rw [zzl,zzl];exact l.length.symm,d,jc.refl _,λi s e=>?_,λi j p q a b Z Z Z=>?_,tb,tb}
 .rw [c4] at e;let(p,c,rfl):=cz.mp e;let(v,f,g):=l.uV c;exact{fP v,by rw [c4,f];rfl,v,rfl,g}
 .rw [c4] at b;let(p,c,e):=cz.mp b;cases e
section
variable{Γ:Pg}{W:Wd}{F:aP}{sc:ia}{k:Nat}
def yb(X:Cx)(W:Wd)(a:Arguments)(body:hD)(b:ia)(cl:List (Str×hB))(e H1 G2 g:Hp)(f:hB):Prop:=aC W e H1 G2 g/\∃c oc d t h i,G2 f=fP (.b9 (PySem.W.kla_obj (zu 22) (X.env.qual++(zu 22)) a body b cl i c h) dj)/\G2 c=fP (.b9 oc dj)/\oc.data=.fields d/\d[1]?=fP (.str (X.env.qual++(zu 22)) t)
def NZ(C:zv4 X)(hl:Γ.hl=gf){d:Arguments}{ps:List Str}{g:ia}(hp:uu d=fP ps)(qI:closureFor g X.env=pure cl):
 PE X (.Lambda d body g pos) (λσ H Q=>∃G,az G H/\bz W G H/\∀f G2 H2,yb X W d body g cl G H G2 H2 f->Q (.ref f) H2):=by
 intro aa s σ H Q I h;let(G,S,tb,q):=h;let(c,P,yF,CH,hts,huq):=C.tb hl;let(nG,pz,hP,tr,al):=tb.t P _ hts;refine L2.D7 (R:=λi oc=>G i=fP (.b9 oc dj)) I hP tr yF CH (C.bm hl) qI (Hc hp) (λD e=>?_) λf i oc T t t7 t9 h' tk U V Pk ZO ZK hd hv tr' Y6 more I'=>?_
 .let(i,oc,T,t,E,r,K,L):=al pos D e;exact{i,oc,T,t,E,S _ _ r,r,K,L}
 .have Zw:G f=gd:=S.free U
  have Zv:G i=gd\/G i=fP (.b9 oc dj):=by
   rcases V with z|z
   .exact .inl (S.free z)
   .exact .inr z.2
  have fo:∀fo,iF H P t9 i oc f fo f=fP (.b9 fo dj):=λfo=>by unfold iF;rw [ak]
  have sG:∀fo,az G (upd (upd G i (.b9 oc dj)) f (.b9 fo dj)):=λfo b u e=>by
   have A:b≠f:=λz=>by rw [z,Zw] at e;cases e
   rw [ai A];by_cases w:b=i
   .subst w;rw [ak];rcases Zv with z|z
    .rw [z] at e;cases e
    .rw [z] at e;exact e
   .rw [ai w];exact e
  have Wm:∀fo a,H a≠gd->(∀vs,H a≠fP (.tup vs))->G a=gd->(upd (upd G i (.b9 oc dj)) f (.b9 fo dj)) a=gd:=λfo a h1 _ h2=>by
   have ZH:a≠f:=λz=>h1 (by rw [z];exact U);rw [ai ZH];by_cases ha:a=i
   .subst ha;rcases V with z|z
    .exact absurd z h1
    .rw [z.2] at h2;cases h2
   .rw [ai ha];exact h2
  refine{.ref f,_,I',rfl,q f (upd (upd G i (.b9 oc dj)) f (.b9 _ dj)) _ {{sG _,λb u e=>?_,λb u e=>?_,Wm _,λ_ Y q' m=>?_},i,oc,T,t,t7,(X.mg (zu 51)).getD .none,ak,by rw [ai Pk,ak],hd,hv}}
  .have A:b≠f:=λz=>by rw [z,U] at e;cases e
   by_cases Z:b=P
   .subst Z;rw [hP] at e;cases e;let(m,rfl):=more;exact .inr {pz,m,rfl,by unfold iF;rw [ai (Ne.symm ZO),ai (Ne.symm ZK),ak]}
   .have r:iF H P t9 i oc f (PySem.W.kla_obj (zu 22) (X.env.qual++(zu 22)) d body g cl ((X.mg (zu 51)).getD .none) i t7) b=H b:=by
     unfold iF;rw [ai A];by_cases w:b=i
     .subst w;rw [ak];rcases V with z|z
      .rw [z] at e;cases e
      .rw [z.1]
     .rw [ai w,ai Z]
    rw [r];exact jc.refl H b u e
  .by_cases A:b=f
   .subst A;rw [ak] at e;rw [fo];exact e
   .rw [ai A] at e;unfold iF;rw [ai A];by_cases w:b=i
    .subst w;rw [ak] at e⊢;exact e
    .rw [ai w] at e⊢;have Z:b≠P:=λz=>by rw [z,nG] at e;cases e
     rw [ai Z];exact S _ _ e
  .let(n1,qs,p,tr1,M):=tb.t Y q' m;have Vo:Y≠f:=λz=>by rw [z,U] at p;cases p
   have iY:Y≠i:=λz=>by
    rcases V with y|y
    .rw [z,y] at p;cases p
    .rw [z,y.1] at p;cases p
   refine{by rw [ai Vo,ai iY];exact n1,?_};by_cases O:Y=P
   .subst O;rw [hP] at p;cases p;refine{t9,by unfold iF;rw [ai Vo,ai iY,ak],tr',λj D y=>?_}
    rcases Y6 j D y with y|y
    .let(c2,B,o,t2,E,r,K,L):=M j D y;exact{c2,B,o,t2,E,sG _ _ _ r,K,L}
    .exact{i,oc,T,t,y,by rw [ai Pk,ak],hd,by rw [huq q' m];exact hv}
   .refine{qs,by unfold iF;rw [ai Vo,ai iY,ai O];exact p,tr1,λj D y=>?_};let(c2,B,o,t2,E,r,K,L):=M j D y;exact{c2,B,o,t2,E,sG _ _ _ r,K,L}
end
def lookup_all{Z:kd}(a:∀q∈Z,h.get? q.1=fP q.2):∀{c:hB} {o:Obj},(c,o)∈Z->Z.lookup c=fP o:=by
 induction Z with
 |nil=>intro c o m;cases m
 |cons q Z d=>
  intro c o m;let(c1,o1):=q
  rw [eH];cases e:c==c1 with
  |true=>have f:=zzy.mp e;subst f;have g:=a (c,o1) c0;have b:h.get? c=fP o:=a (c,o) m;rw [g] at b;exact b|false=>
   rcases ef.mp m with z|z
   .cases z;simp at e
   .exact d (λq i=>a q (cq _ i)) z
section
variable{W:Wd}{F1:Sg->aP}{F2:cM}{Γ:Pg}{Δ:km}
theorem yo{c:St}(sr:SR W H0 env c G H):∀{a:List Nat} {env':Sl},rM a env=.ok env'->∃(cs:List PV) (ws:List V),env'=cs.map .val/\ah W G cs ws/\ws.length=a.length/\∀(j:Nat) (i:Nat),a[j]?=fP i->∃v,ws[j]?=fP v/\c[i]?=fP (fP v)
 |[],env',h=>by unfold rM at h;cases h;exact{[],[],rfl,.nil,rfl,λj i e=>by simp at e}
 |i::a,env',h=>by
  unfold rM at h;let(p,b,h):=Res.aM h;let(t,d,h):=Res.aM h
  cases h;have hs:env[i]?=fP (.val p):=by
   cases e:env[i]? with
   |none=>rw [e] at b;cases b
   |some s=>rw [e] at b;cases s<;>cases b;rfl
  let(o,f,v,rfl,g):=sr.slot i _ hs;let(cs,ws,rfl,m,q,r):=yo sr d;refine{p::cs,v::ws,rfl,.cons g m,by simp [q],λj k e=>?_}
  cases j with
  |zero=>simp at e;subst e;exact⟨v,rfl,f⟩|succ j=>simpa using r j k (zx6 e)
theorem nJ(c:Str):∀{a:List Nat},rM a env≠.exc c
 |[]=>nofun|i::a=>λz=>by
  unfold rM at z;rcases Res.eG z with z|⟨p,_,z⟩
  .cases e:env[i]? with
   |none=>rw [e] at z;cases z
   |some s=>rw [e] at z;cases s<;>cases z
  .rcases Res.eG z with z|⟨ps,_,z⟩
   .exact nJ c z
   .cases z
theorem JP(cs:List PV):(cs.map Slot.val).any Slot.aZ=gh:=rE λs m=>by let(p,_,rfl):=ew.mp m;rfl
def G7{P:hG}{K:zz8}{x:X2}{B:Arguments}{k:ia}{pm t7:gA}{g O:hB}{oc:Obj}{iU:Array gA}{t:Tok}{Z:kd}{ob:List Ob}{cs:List PV}{ws:List V}{Qo:VK}{RE:XK}
 (T:T1 P w K mg base W F1 Γ j) (M:JW P w K mg base W F2 Δ j) (U:Δ.cs=[]/\Δ.td=[]) (hp:uu B=fP []) (S:ug [] (bE k) k) (u:lP W.K W.mg ob) (sg:az G H) (tb:bz (W.at ob) G H) (rws:ah (W.at ob) G cs ws) (TF:ws.length=(bE k).length)
 (fo:H g=fP (.b9 (PySem.W.kla_obj (zu 22) qual B body k cl pm O t7) dj)) (co:H O=fP (.b9 oc dj)) (cd:oc.data=.fields iU) (cn:iU[1]?=fP (.str qual t)) (O4:∀b o,Z.lookup b=fP o->H b=gd) (inj:∀x y c,cl.lookup x=fP c->cl.lookup y=fP c->x=y) (has:∀y∈bE k,∃c,cl.lookup y=fP c)
 (cells:∀x c,cl.lookup x=fP c->∃o v,Z.lookup c=fP o/\o.data=.cell v) (vals:∀(i:Nat) y c,(bE k)[i]?=fP y->cl.lookup y=fP c->∀v,ws[i]?=fP v->∃u o,RelV v u/\Z.lookup c=fP o/\o.data=.cell (fP u))
 (he:∀(N:XK) (Y:Cx),ib Γ Δ F1 F2 W (bE k) k j N Y->G2 Y W F1 F2 ob G H N x body)
 (uZ:bC F1 F2 x (cs.map .val) (aE ob)≠.bad) (aQ:∀p s',bC F1 F2 x (cs.map .val) (aE ob)=.ok p s'->∀v R G' L,gb W ob G H R G' L->lP W.K W.mg R->aE R=s'->Rep (W.at R) G' p v->Qo v L)
 (Zz:∀d s',bC F1 F2 x (cs.map .val) (aE ob)=.exc d s'->∀Cv ao L,(∀b o,Z.lookup b=fP o->L b=gd)->Gn W d s' ob G H Cv ao L->RE Cv ao (aR Z L)):GC P w K mg base (j+2) g (aR Z H) (λv L=>Qo v (cI Z L)) RE:=by
 intro X aa σ s Q hP hw hKK hmg dR hr I hQ hx;subst hP hw hKK hmg dR;have nz:∀b v,H b=fP v->Z.lookup b=gd:=λb v e=>by
  cases y:Z.lookup b with
  |none=>rfl|some o=>rw [O4 b o y] at e;cases e
 have Zk:cI Z (aR Z H)=H:=mw O4;have S3:z7 Z H (fG X.stack) s.heap:={λb o q=>(I.aQ b _ (bA q)).1,O4,λb o q hb=>by have:=I.nr b hb;rw [bA q] at this;cases this};have e0:jl X.prog X.w X.K X.mg X.base X.A X.stack s H:=by have:=Ax (Z:=Z) I.uP (λb o q=>bA q);rw [Zk] at this;exact this
 let N:XK:=λC a L=>(∀b o,Z.lookup b=fP o->L b=gd)->RE C a (aR Z L);have hK:W.K=X.K:=(T.M []).hK;have hM:W.mg=X.mg:=(T.M []).hm
 have CL:ib Γ Δ F1 F2 W (bE k) k j N (Pb X.prog X.w X.K X.mg X.base ([]++bE k) qual k g (.ref O) cl X.A X.stack s H N):={
  C:=λob u=>{rfl,rfl,λz=>Option.isNone_iff_eq_none.mpr (hr.hd (by have:=T.k2;lia)),S.nd,(T.M ob).hK,(T.M ob).hm,(T.M ob).gs,(T.M ob).bs,hr.deeper _,λg hg=>{(T.F ob u g hg).ex},(T.M ob).NA,(T.M ob).cls,(T.M ob).xc,λq hq=>{(T.H ob u q hq).ex},λf hf=>{T.k2,{(T.Q ob u f hf).ex}},T.A ob u,(T.D ob u).fld,(T.D ob u).con,(λz=>by rw [T.hl] at z;cases z),(λz=>by rw [T.hl] at z;cases z),(λz=>by rw [T.hl] at z;cases z)}
  pass:=RX
  qt:=T.qt
  K:=hK
  mg:=hM
  v9:=λf h=>by rw [U.1] at h;cases h
  met:=λc m h=>by let(C,fa,h1,h2,h3):=M.met c m h;exact{C,fa,h1,h2,⟨h3.ex⟩}
  new:=λc h=>by let(C,fa,j,h1,h2,h3,h4,h5):=M.new c h;exact{C,fa,j,h1,h2,h3,h4,⟨h5.ex⟩}
  fl:=M.fl
  td:=λf h=>by rw [U.2] at h;cases h}
 have DE:=(I.aQ g _ (show aR Z H g=fP (.b9 (PySem.W.kla_obj (zu 22) qual B body k cl pm O t7) dj) by rw [av (nz _ _ fo)];exact fo)).1;have Vh:=(I.aQ O _ (show aR Z H O=fP (.b9 oc dj) by rw [av (nz _ _ co)];exact co)).1;refine wpAny_call (codeAny_mono (L2.Ij (us:=[]) (E:=RE) (Q:=Q) (Z:=Z) (ws:=ws) (vs:=[]) (t:=t2 W F1 F2 ob G H N x) S hr e0 S3 ?zb DE Vh cd cn (GX hp [] rfl) .nil rfl TF has inj cells ?cells (he N _ CL) ?hq) λrr s' MP=>?end_)
 case zb=>
  intro b o q;cases y:X.base.get? b with
  |none=>rfl|some o'=>have:=(I.bs b o' y).2;rw [bA q] at this;cases this
 case cells=>intro i y c h1 h2 v h3;let(u,o',q1,q2,q3):=vals i y c h1 h2 v h3;exact{u,q1,o',S3.at_ c o' q2,q3}
 case hq=>
  refine{ob,H,G,cs.map .val,aE ob,{Jz sg tb rws,u,.refl,rfl,JP cs},?_};cases r:bC F1 F2 x (cs.map .val) (aE ob) with
  |bad=>exact absurd r uZ|exc d s1=>exact λCv ao L y zn=>Zz d s1 r Cv ao L zn y|ok p s1=>intro v R dI G' L t' g' rp zn;refine hQ _ _ ?_;show Qo v (cI Z (aR Z L));rw [mw zn];exact aQ p s1 r v R G' L g' t'.u t'.s rp
 case end_=>
  cases rr with
  |error e=>exact hx e s' MP|ok fl=>
   cases fl with
   |ret u=>exact I.after MP|next=>exact ed MP|brk=>exact ed MP|cont=>exact ed MP
variable{sc:ia}{k:Nat}{E:XK}{obe:List Ob}{Ge He:Hp}
def L1(S:zv3 X){ba:List Nat}{x:X2}{F:Arguments}{D:ia}{RB:Pos}(hf:Δ.td.contains f=gf)(hl:Γ.hl=gf)(hg:gu sc f=gf)(ho:okN f=gf)(hp:uu F=fP [])(HN:ba.map (λi=>N[i]?)=(bE D).map fP)(mL:∀y∈bE D,sc.names.lookup y=fP .cell)(ee:ug [] (bE D) D)
 (he:∀(j:Nat) (obe:List Ob) (Ge He:Hp) (E':XK) (Y:Cx),ib Γ.vw Δ.Rm F1 F2 W (bE D) D j E' Y->G2 Y W F1 F2 obe Ge He E' x body):G2 X W F1 F2 obe Ge He E (.JG f ba x) (.Call (.Name f np) [.Lambda F body D RB] [] pos):=by
 intro aa sh σ dI Q I h;let(ob0,H0,G0,env,s0,FE,o):=h;have e0:=FE.s;subst e0;have SC:=S.C ob0 FE.u;let(fa,j,fd,y0,hm,hk,hj,FO,hb,T,M):=S.td f hf hl;have qI:closureFor D X.env=pure (bV X.env (bE D)):=nL λy R Gr=>I.ok.has y.1 (.inl (by show X.env.scope.names.lookup y.1=_;rw [SC.ee];refine mL y.1 ?_;unfold bE;rw [List.mem_reverse,ew];exact{y,List.mem_filter.mpr {R,by rw [Gr];rfl},rfl}));refine wpAny_Call_Name_kw (eh I (dz SC hg) hm ?_ (eM ho).1);refine PySem.W.callWith_K (h₀:=X.base) I.ok.mod.Ii hk (bU ((bZ (NZ SC hl hp qI) dE rfl) pos aa sh σ dI (λvs H2=>∃G2 g,vs=[.ref g]/\yb X (W.at ob0) F body D (bV X.env (bE D)) G0 dI G2 H2 g) I {G0,FE.sr.sub,FE.sr.tab,λg G2 H2 m=>⟨G2,g,rfl,m⟩}) λus s ⟨vs,H,I,r,q⟩=>{I.jY,?_}) rfl rfl;let(G,g,rfl,gm,c',oc,iU,t,t7,pm,fo,co,cd,cn):=q;have st:=FE.grow gm;generalize ob0=ob at *
 have sr:=st.sr
 unfold bC at o;cases P:rM ba env with
 |bad=>rw [P] at o;exact o.elim|exc c=>exact absurd P (nJ c)|ok env'=>
 rw [P] at o;let(cs,ws,rfl,rws,TF,pws):=yo sr P;simp! [Rs.of,Rs.bind] at o;have oj:∀y∈bE D,∃c,X.env.cells.lookup y=fP c:=λy R=>I.ok.has y (.inl (by show X.env.scope.names.lookup y=_;rw [SC.ee];exact mL y R));have call:((bE D).all λy=>(X.env.cells.lookup y).isSome)=gf:=c8.mpr λy R=>by let(c,e):=oj y R;rw [e];rfl
 let Z:kd:=(bE D).filterMap λy=>(X.env.cells.lookup y).bind λc=>(s.heap.get? c).map λo=>(c,o);have S1:∀q∈Z,∃y,y∈bE D/\X.env.cells.lookup y=fP q.1/\s.heap.get? q.1=fP q.2:=λq hq=>by let(y,R,e):=ey.mp hq;let(c,hc,e):=d0.mp e;let(o,ho,rfl):=cz.mp e;exact⟨y,R,hc,ho⟩
 have WX:∀q∈Z,s.heap.get? q.1=fP q.2:=λq hq=>let⟨_,_,_,h⟩:=S1 q hq;h;have YV:∀y c o,y∈bE D->X.env.cells.lookup y=fP c->s.heap.get? c=fP o->Z.lookup c=fP o:=λy c o R hc ho=>lookup_all WX (ey.mpr {y,R,by rw [hc];show(s.heap.get? c).map _=_;rw [ho];rfl});have S0:∀b o,Z.lookup b=fP o->∃y,y∈bE D/\X.env.cells.lookup y=fP b/\s.heap.get? b=fP o:=λb o e=>by let(y,U,O,h3):=S1 (b,o) (PySem.W.mem_of_lookupK e);exact⟨y,U,O,h3⟩
 have zc:∀b o,Z.lookup b=fP o->∃v,o.data=.cell v:=λb o e=>by let(y,_,O,h3):=S0 b o e;let(v,o',h4,h5):=I.cell y b O;rw [h3] at h4;cases h4;exact⟨v,h5⟩
 have O4:∀b o,Z.lookup b=fP o->H b=gd:=λb o e=>by let(y,_,O,_):=S0 b o e;exact I.fK y b O
 have Qk:∀x c,(bV X.env (bE D)).lookup x=fP c->X.env.cells.lookup x=fP c:=fJ call;have UE:∀x c,(bV X.env (bE D)).lookup x=fP c->x∈bE D:=λx c e=>by have:=PySem.mem_of_lookup e;unfold bV at this;let(y,R,e2):=ew.mp this;cases e2;exact R
 have YU:∀b o,Z.lookup b=fP o->X.s₀.heap.objs.size<=b:=λb o e=>by let(y,_,O,_):=S0 b o e;exact I.ok.Lh y b (SC.fl hl y) O
 have S3:z7 Z H (fG X.stack) s.heap:={λb o e=>let⟨_,_,_,h⟩:=S0 b o e;h,O4,λb o e Vf=>by
  let(y,_,O,h3):=S0 b o e
  rcases ef.mp (I.ma b Vf) with z|z
  .exact I.BP y b O z
  .let(_,o',h4,_):=I.ok.hU.mem z;exact absurd (cP h4) (Nat.not_lt.mpr (YU b o e))}
 have zb:∀b o,Z.lookup b=fP o->X.base.get? b=gd:=λb o e=>by
  cases y:X.base.get? b with
  |none=>rfl|some o'=>exact absurd (cP (I.ok.bs b o' y).1) (Nat.not_lt.mpr (YU b o e))
 have ZU:(bE D).length=ba.length:=by have:=congrArg List.length HN;simpa using this.symm
 have nz:∀b v,H b=fP v->Z.lookup b=gd:=λb v e=>by
  cases y:Z.lookup b with
  |none=>rfl|some o=>rw [O4 b o y] at e;cases e
 have UQ:=sr.sub _ _ fo;have Zb:=sr.sub _ _ co;have AL:=hb s us I.jY (by rw [e6];exact r.length.symm);rw [e6] at AL;let RE:XK:=λCv ao L=>∃d s' H1,bC F1 F2 x (cs.map .val) (aE ob)=.exc d s'/\L=aR Z H1/\(∀b o,Z.lookup b=fP o->H1 b=gd)/\Gn W d s' ob G H Cv ao H1
 have Vg:GC X.prog X.w X.K X.mg X.base (j+2) g (aR Z H) (λv L=>Q v (cI Z L)) RE:=by
  refine G7 T M ⟨rfl,rfl⟩ hp ee st.u sr.sub sr.tab rws (by rw [TF,ZU]) UQ Zb cd cn O4 (λx y c U O=>I.ok.inj x y c (Qk x c U) (Qk y c O)) (λy R=>kE R) (λx c h=>?_) (λi y c U O v h3=>?_) (λE' Y CY=>he j ob G H E' Y CY) (λz=>by rw [z] at o;exact o) (λp s' e v V G' L g' u' es rp=>?_) λd s' e Cv ao L zn y=>⟨d,s',L,e,rfl,zn,y⟩
  .let(v,o,U,O):=I.cell x c (Qk x c h);exact{o,v,YV x c o (UE x c h) (Qk x c h) U,O}
  .have hi:i<ba.length:=by rw [<-TF];exact(cj.mp h3).1
   let(v',q1,q2):=pws i ba[i] (zzg hi);rw [h3] at q1;cases q1;have Zy:X.N[ba[i]]?=fP y:=by rw [SC.hN];have:=congrArg (λl=>l[i]?) HN;simp! [c4,U,zzg hi,Option.map_some] at this;exact zzq this
   let(m,_,ML):=I.loc;let(u,ru,lk):=ML ba[i] y v Zy q2 (.inr (.inl (by rw [SC.ee];exact mL y (a7 U))));have QV:=Qk y c O
   rcases lk with⟨z,_⟩|⟨_,c2,pT,o,ho,hd⟩
   .have z2:X.env.scope.names.lookup y=fP .local:=z;rw [SC.ee,mL y (a7 U)] at z2;cases z2
   .rw [QV] at pT;cases pT;exact{u,o,ru,YV y c o (a7 U) QV ho,hd}
  .rw [e] at o;exact o v V L G' L (st.on g' u' es) (gm.kQ.trans g') rp
 have Vn:∀Cv ao L,RE Cv ao L->∃d C a V G',Cv=.ref C/\ao=fP a/\d∈W.xs/\W.mg d=fP (.ref C)/\az G' L/\bz (W.at V) G' L/\lP W.K W.mg V/\(match F1 (aE V) (zu 6) [.exc d] with
  |.ok p=>∀v G3 H3,aC (W.at V) G' L G3 H3->Rep (W.at V) G3 p v->Q v (cI Z H3)|_=>False):=by
  rintro Cv ao L ⟨d,s',H1,e,rfl,zn,C,a,V,G1,rfl,rfl,hd1,hd2,gr,u',es⟩
  refine{d,C,a,V,aR Z G1,rfl,rfl,hd1,hd2,Bt gr.sub,FP (gr.tab sr.tab) gr.sub zn,u',?_};rw [e] at o;dsimp only at o;rw [es];cases hv:F1 s' (zu 6) [.exc d] with
  |exc _=>rw [hv] at o;exact o.elim|bad=>rw [hv] at o;exact o.elim|ok p=>rw [hv] at o;intro v G3 H3 g3 rp;have gl:=g3.lz gr.sub zc zn;have g4:=gr.trans gl.kQ;exact o v V _ _ _ (st.on g4 u' es) (gm.kQ.trans g4) (Rep.less (λb o q=>g3.g _ _ (bA q)) p rp)
 refine wpAny_call (codeAny_mono (FO.run X.A X.stack s (aR Z H) {us,[]} us [.ref g] (λv L=>Q v (cI Z L)) (λ_ _ _=>False) (SC.room.mono (by lia)) (I.uP.aR S3 zb) AL r {rfl,g,RE,rfl,λh k=>?_,Vg,Vn}) λrr s' hr=>?_)
 .have:=(k g _ (show aR Z H g=fP (.b9 (PySem.W.kla_obj (zu 22) (X.env.qual++(zu 22)) F body D (bV X.env (bE D)) pm c' t7) dj) by rw [av (nz _ _ UQ)];exact UQ)).1;exact{_,_,_,_,this}
 .cases rr with
  |error e=>have hr:dF X.prog X.w X.stack (aR Z H) s (λ_ _ _=>False) e s':=hr;let(a,C',t,vs,L,B,rfl,Fl):=hr;exact Fl.ends.elim|ok fl=>
   cases fl with
   |ret u=>exact I.after (CE.less S3 hr)|next=>exact ed hr|brk=>exact ed hr|cont=>exact ed hr
end
abbrev Iw:hD->Bool
 |.Starred .. =>gh|_=>gf
def kT{p:hD}(h:Iw p=gf)(env:Env)(ps:List hD):starEach (p::ps) env=(gh,eval p env)::starEach ps env:=by
 cases p<;>first|rfl|exact aO h
mutual
noncomputable def ik(Γ:Pg)(d:km)(N:List Str)(sc:ia):X2->hD->Bool
 |.pu e,p=>eR e&&aK Γ N sc e p|.v9 f as,p=>(wa p).any λq=>f==q.1&&(d.cs.contains q.1&&gu sc q.1&&okN q.1&&g9 as&&!q.2.isEmpty&&dD Γ N sc as q.2)|.met o c m as,p=>(Cg p).any λq=>(GP q.1).any λr=>q.2.2.1.isEmpty&&(m==r.2.1&&(d.ms.contains (c,m)&&eR o&&aK Γ N sc o r.1&&fQ r.1&&r.2.2.endLine==q.2.2.2.line&&g9 as&&dD Γ N sc as q.2.1&&decide (fN as<30)))|.new c as,p=>(wa p).any λq=>c==q.1&&(d.ns.contains q.1&&gu sc q.1&&okN q.1&&g9 as&&dD Γ N sc as q.2)|.c1 f as,p=>(wa p).any λq=>f==q.1&&(Γ.fs.contains q.1&&gu sc q.1&&okN q.1&&!q.2.isEmpty&&nK Γ d N sc as q.2)|.tup as,p=>(FU p).any λps=>decide (A2 as<1000)&&nK Γ d N sc as ps|.nR k h j it elt,p=>(Rx p).any λq=>(eN q.2.1).any λg=>g.ifs.isEmpty&&(uD N sc q.2.2 k h (aF g.target)&&ke k j&&LO g.iter&&ik Γ d N sc it g.iter&&eT (aF g.target++freeOf q.2.2) (cJ q.2.2 sc) (k7 q.2.2) j g.target&&ik Γ.vw d (aF g.target++freeOf q.2.2) (cJ q.2.2 sc) elt q.1&&decide (g.is_async=0))|.lV,p=>HZ p|.vf as,p=>(VZ p).any λps=>decide (A2 as<1000)&&nK Γ d N sc as ps|.dict x,p=>(wa p).any λq=>(eN q.2).any λa=>q.1==("dict":Str)&&(gu sc q.1&&Γ.bs.contains q.1&&Iw a&&ik Γ d N sc x a)|.z8 a x,p=>(Cg p).any λq=>(GP q.1).any λr=>(eN q.2.1).any λe=>q.2.2.1.isEmpty&&(r.2.1==("append":Str)&&(eR a&&aK Γ N sc a r.1&&fQ r.1&&r.2.2.endLine==q.2.2.2.line&&Iw e&&ik Γ d N sc x e))|.nV a k,p=>(Cg p).any λq=>(GP q.1).any λr=>(eN q.2.1).any λe=>q.2.2.1.isEmpty&&(r.2.1==("pop":Str)&&(eR a&&aK Γ N sc a r.1&&fQ r.1&&r.2.2.endLine==q.2.2.2.line&&eR k&&aK Γ N sc k e))|.sub x e,p=>(KN p).any λq=>eR e&&(ik Γ d N sc x q.1&&aK Γ N sc e q.2)|.ite c a b,p=>(VL p).any λq=>gx c&&(aK Γ N sc c q.1&&(ik Γ d N sc a q.2.1&&ik Γ d N sc b q.2.2))|.JG f h x,p=>(wa p).any λq=>(eN q.2).any λl=>(Yi l).any λr=>f==q.1&&(d.td.contains q.1&&Γ.hl&&gu sc q.1&&okN q.1&&uu r.1==fP []&&decide (h.map (λi=>N[i]?)=(bE r.2.2).map fP)&&((bE r.2.2).all λy=>decide (sc.names.lookup y=fP .cell))&&Wz [] r.2.2&&ik Γ.vw d.Rm (bE r.2.2) r.2.2 x r.2.1)|.cmp o a b,p=>(Ql p).any λq=>(eN q.2.1).any λt=>(eN q.2.2).any λs=>decide (mS o=t)&&(ik Γ d N sc a q.1&&ik Γ d N sc b s&&!behindInMarks (mS o) s)
noncomputable def nK(Γ:Pg)(a:km)(N:List Str)(sc:ia):tY->List hD->Bool
 |.nil,[]=>gf|.cons x xs,p::ps=>Iw p&&(ik Γ a N sc x p&&nK Γ a N sc xs ps)|_,_=>gh
end
abbrev DU:T2->Bool
 |.or _ _=>gf|_=>gh
abbrev yu(Γ:Pg)(c:km)(N:List Str)(sc:ia):T2->hD->Bool
 |.pu e,p=>gx e&&aK Γ N sc e p|.cmp o a b,p=>ik Γ c N sc (.cmp o a b) p|.or a b,p=>(Qd p).any λq=>!u5 q.1&&((Th q.1 q.2.2 q.2.1).any λr=>(DU b||decide (q.2.1.length=2))&&(yu Γ c N sc a r.1&&yu Γ c N sc b r.2))
def Rn:X2->Bool
 |_=>gh
mutual
noncomputable def J9(Γ:Pg)(d:km)(N:List Str)(sc:ia):S2->ix->Bool
 |.p st,p=>fU Γ N sc st p|.set i x,.Assign ts p _=>(Ku ts).any λy=>N[i]?==fP y&&(gz sc y&&(Rn x||d7 p)&&ik Γ d N sc x p)
 |.ex x,.Expr p _=>d7 p&&ik Γ d N sc x p|.ret x,.Return (fP p) _=>ik Γ d N sc x p|.par i j xs,.Assign ts (.Tuple [a,b] _ _) _=>(IZ ts).any λq=>(N[i]?==fP q.1&&N[j]?==fP q.2.2.1)&&(decide (i≠j)&&q.1 !=q.2.2.1&&q.2.2.2.line==q.2.1.line&&sc.names.lookup q.1==fP .local&&sc.names.lookup q.2.2.1==fP .local&&EJ a b&&nK Γ d N sc xs [a,b])|.tm c i f e,.Assign ts p _=>(eN ts).any λt=>(GP t).any λr=>(j5 r.1).any λx=>r.2.1==f&&((N[i]?==fP x&&kf sc x&&okN x)&&d.fl.contains (c,f)&&d7 p&&ik Γ d N sc e p)|.xE a k e,.Assign ts p _=>(eN ts).any λt=>(KN t).any λr=>eR a&&(aK Γ N sc a r.1&&eR k&&aK Γ N sc k r.2&&eR e&&aK Γ N sc e p&&d7 p)|.ite c a b,.If p o g _=>yu Γ d N sc c p&&(jv Γ d N sc a o&&jv Γ d N sc b g)|.hJ s it b,.For m u g h _=>h.isEmpty&&(eT N sc (λZ=>gf) s m&&Ay it&&uA Γ N sc m it u&&jv Γ d N sc b g)|_,_=>gh
noncomputable def jv(Γ:Pg)(a:km)(N:List Str)(sc:ia):pK->List ix->Bool
 |.nil,[]=>gf|.cons s ss,p::ps=>J9 Γ a N sc s p&&jv Γ a N sc ss ps|_,_=>gh
end
section
theorem v5{Γ:Pg}{b:km}{sc:ia}{env:Env}:∀{xs:tY} {ps:List hD},nK Γ b N sc xs ps=gf->(backTo pos (starEach ps env)).any (·.1)=gh
 |.nil,[],_=>rfl|.cons x xs,p::ps,h=>by have a:=aj h;have c:=aj a.2;rw [kT a.1];show(gh||(backTo pos (starEach ps env)).any (·.1))=gh;rw [v5 c.2];rfl
 |.nil,_::_,h=>aO h|.cons _ _,[],h=>aO h
variable{W:Wd}{F1:Sg->aP}{F2:cM}
mutual
theorem iM:∀(x:X2) {t:km} {k:Nat} {obe:List Ob} {Ge He:Hp} {Γ:Pg} {N:List Str} {sc:ia} {E:XK} {X:Cx},ib Γ t F1 F2 W N sc k E X->∀p,ik Γ t N sc x p=gf->G2 X W F1 F2 obe Ge He E x p
 |.pu e,t,k,obe,Ge,He,Γ,N,sc,E,X,S,p,h=>by have h:=aj h;exact kM S h.1 h.2|.v9 f as,t,k,obe,Ge,He,Γ,N,sc,E,X,S,p,h=>by
  let(g,args,np,r,rfl,i):=yt h;have d:=aj i;cases zzy.mp d.1;have h3:=d.2;simp! [zza] at h3;let(((((u,a2),w),A),B),G):=h3
  cases args with
  |nil=>exact aO B|cons q qs=>exact LV S u a2 w A G
 |.met o c m as,t,k,obe,Ge,He,Γ,N,sc,E,X,S,p,h=>by let((f,args,O,r),e,i):=af h;have z:=ie e;let((po,I,K),P,d):=af i;have C:=ic P;have h3:=aj d;have D:=j6 h3.1;dsimp only at z C D;subst z C D;have s:=aj h3.2;have H:=zzy.mp s.1;dsimp only at H;subst H;have F:=s.2;simp! [zza] at F;let(((((((u,a2),w),A),B),G),L),T):=F;exact LY S u a2 w A B G L (zzY T)|.new c as,t,k,obe,Ge,He,Γ,N,sc,E,X,S,p,h=>by let(g,args,np,r,rfl,i):=yt h;have d:=aj i;cases zzy.mp d.1;have h3:=d.2;simp! [zza] at h3;let((((u,a2),w),A),B):=h3;exact LZ S u a2 w A B
 |.tup as,t,k,obe,Ge,He,Γ,N,sc,E,X,S,p,h=>by let(U,e,i):=af h;let(_,_,rfl):=tW e;have d:=aj i;exact L3 (zzY d.1) (vQ as S U d.2)|.cmp o a b,t,k,obe,Ge,He,Γ,N,sc,E,X,S,p,h=>by let(pa,ops,bs,r,rfl,i):=Tn h;let(op,Z,d):=fe i;let(pb,C,h3):=fe d;dsimp only at Z C;subst Z C;have s:=aj h3;have H:=zzY s.1;subst H;have F:=s.2;rw [zza,zza,Bool.not_eq_true'] at F;exact LW S (iM a S _ F.1.1) (iM b S _ F.1.2) F.2|.c1 f as,t,k,obe,Ge,He,Γ,N,sc,E,X,S,p,h=>by
  let(g,args,np,r,rfl,i):=yt h;have d:=aj i;cases zzy.mp d.1;have h3:=d.2;simp! [zza] at h3;let((((u,a2),w),A),B):=h3
  cases args with
  |nil=>exact aO A|cons q qs=>
   cases as with
   |nil=>exact aO B|cons y ys=>have b:=aj B;exact Qz S u a2 w (vQ _ S _ B) (kT b.1 _ _) (v5 (aj b.2).2)
 |.nR kk ba tg it elt,t,k,obe,Ge,He,Γ,N,sc,E,X,S,p,h=>by let(eO,gens,M,_,rfl,i):=Ry h;let((bR,fh,ifs,asy),C,d):=fe i;have h3:=aj d;have D:=j6 h3.1;dsimp only at C D;subst C D;have s:=h3.2;simp! [zza] at s;let((((((u,a2),w),A),B),G),L):=s;have L:=zzY L;subst L;exact Dg S (il u) a2 w (iM it S fh A) B λY V=>iM elt V eO G|.lV,t,k,obe,Ge,He,Γ,N,sc,E,X,S,p,h=>by let(r,rfl):=yN h;exact Hm S|.vf as,t,k,obe,Ge,He,Γ,N,sc,E,X,S,p,h=>by let(U,e,i):=af h;let(_,rfl):=xj e;have d:=aj i;exact Hn S (zzY d.1) (vQ as S U d.2)|.dict x,t,k,obe,Ge,He,Γ,N,sc,E,X,S,p,h=>by let(g,args,np,r,rfl,i):=yt h;let(q,z,d):=fe i;have h3:=aj d;have D:=zzy.mp h3.1;dsimp only at z D;subst z D;have s:=h3.2;simp! [zza] at s;let(((u,a2),w),A):=s;exact Hl S u a2 (iM x S _ A) (kT w)|.z8 a x,t,k,obe,Ge,He,Γ,N,sc,E,X,S,p,h=>by let((f,args,O,r),e,i):=af h;have z:=ie e;let((po,I,K),P,d):=af i;have C:=ic P;let(q,Q,h3):=fe d;have h3:=aj h3;have D:=j6 h3.1;have s:=aj h3.2;have H:=zzy.mp s.1;dsimp only at z C D H Q;subst z C D H Q;have F:=s.2;simp! [zza] at F;let(((((u,a2),w),A),B),G):=F;exact Hk S u a2 (iM x S _ G) w A (kT B)|.nV a kk,t,k,obe,Ge,He,Γ,N,sc,E,X,S,p,h=>by let((f,args,O,r),e,i):=af h;have z:=ie e;let((po,I,K),P,d):=af i;have C:=ic P;let(q,Q,h3):=fe d;have h3:=aj h3;have D:=j6 h3.1;have s:=aj h3.2;have H:=zzy.mp s.1;dsimp only at z C D H Q;subst z C D H Q;have F:=s.2;simp! [zza] at F;let(((((u,a2),w),A),B),G):=F;exact Dh S u a2 B G w A|.sub x e,t,k,obe,Ge,He,Γ,N,sc,E,X,S,p,h=>by let(a,b,r,rfl,i):=SD h;have d:=aj i;have h3:=aj d.2;exact L0 S (iM x S _ h3.1) d.1 h3.2|.ite c a b,t,k,obe,Ge,He,Γ,N,sc,E,X,S,p,h=>by let(q,e,i):=af h;let(r,rfl):=DM e;have d:=aj i;have h3:=aj d.2;have s:=aj h3.2;exact LX S d.1 h3.1 (iM a S _ s.1) (iM b S _ s.2)|.JG f ba x,t,k,obe,Ge,He,Γ,N,sc,E,X,S,p,h=>by let(g,args,np,r,rfl,i):=yt h;let(l,z,d):=fe i;let((R,body,M),e,h3):=af d;let(RB,C):=Nh e;have s:=aj h3;have D:=zzy.mp s.1;dsimp only at z C D;subst z C D;have F:=s.2;simp! [zza,c8,zzN] at F;let((((((((u,a2),w),A),B),G),L),T),a9):=F;exact L1 S u a2 w A (eq_of_beq B) G L (Oy T) λj obe Ge He E' Y V=>iM x V body a9
theorem vQ:∀(xs:tY) {a:km} {k:Nat} {obe:List Ob} {Ge He:Hp} {Γ:Pg} {N:List Str} {sc:ia} {E:XK} {X:Cx},ib Γ a F1 F2 W N sc k E X->∀ps,nK Γ a N sc xs ps=gf->JU X W F1 F2 obe Ge He E xs ps
 |.nil,a,k,obe,Ge,He,Γ,N,sc,E,X,S,ps,h=>by
  cases ps with
  |nil=>exact Ho|cons _ _=>exact aO h
 |.cons x xs,a,k,obe,Ge,He,Γ,N,sc,E,X,S,ps,h=>by
  cases ps with
  |nil=>exact aO h|cons p ps=>have b:=aj h;have c:=aj b.2;exact Di (iM x S p c.1) (vQ xs S ps c.2) (kT b.1 _ _)
end
variable{Δ:km}{k:Nat}{obe:List Ob}{Ge He:Hp}
def Dx{E:XK}{a b:T2}{c:hD}{rest:List hD}{pos:Pos}(m:PL X W F1 F2 obe Ge He E a c)(p:PW X (.BoolOp .Or (d::rest) pos) (SQ W F1 F2 obe Ge He E b)):PW X (.BoolOp .Or (c::d::rest) pos) (SQ W F1 F2 obe Ge He E (.or a b)):=by
 have h:=pw_or (pos:=pos) m p;intro q r s u H Q I w;refine h q r s u H Q I ?_;let(ob,y,G,env,s,st,o):=w;unfold Az at o;refine{ob,y,G,env,s,st,o.bind.imp λt z e f g i A j=>?_}
 cases t with
 |true=>rw [if_pos rfl];exact e f g i A j|false=>rw [if_neg zzf];exact⟨f,g,i,env,z,j,e⟩
theorem OE:∀(x:T2) {Γ:Pg} {N:List Str} {sc:ia} {E:XK} {X:Cx},ib Γ Δ F1 F2 W N sc k E X->∀p,yu Γ Δ N sc x p=gf->PL X W F1 F2 obe Ge He E x p/\(DU x=gf->PW X p (SQ W F1 F2 obe Ge He E x))
 |.pu e,Γ,N,sc,E,X,S,p,h=>by have h:=aj h;exact{Mx S h.1 h.2,λz=>aO z}|.cmp o a b,Γ,N,sc,E,X,S,p,h=>by let(u,B,bs,f,rfl,t):=Tn h;let(H,g,s):=fe t;let(w,i,h3):=fe s;dsimp only at g i;subst g i;have j:=aj h3;have C:=zzY j.1;subst C;have d:=j.2;rw [zza,zza,Bool.not_eq_true'] at d;exact{HK S (iM a S _ d.1.1) (iM b S _ d.1.2) d.2,λz=>aO z}|.or a b,Γ,N,sc,E,X,S,p,h=>by
  let(o,D,f,rfl,t):=UB h;have s:=aj t;have g:=yP s.1;dsimp only at g;subst g;let((u,w),F,h3):=af s.2;have j:=aj h3;have d:=aj j.2;have sa:=OE a S u d.1;have A:=OE b S w d.2
  have m:PW X (.BoolOp .Or D f) (SQ W F1 F2 obe Ge He E (.or a b)):=by
   rcases wG F with z|⟨q,c,r,z,i⟩
   .dsimp only at z;subst z;exact Dx sa.1 (pw_or1 A.1)
   .dsimp only at z i;subst z i;have G:DU b=gf:=by
     rcases Bool.or_eq_true_iff.mp j.1 with y|y
     .exact y
     .have:=zzY y;simp at this
    exact Dx sa.1 (A.2 G)
  exact{m.pt,λZ=>m}
variable{Γ:Pg}{sc:ia}{E:XK}
set_option tactic.hygienic true
mutual
theorem Sw(S:B2 Γ Δ F1 F2 W N sc k E X):∀(x:S2) (p:ix) {obe:List Ob} {Ge He:Hp},J9 Γ Δ N sc x p=gf->B5 X W F1 F2 obe Ge He E x p
 |.p st,p,_,_,_,h=>QD S h|.set i x,p,_,_,_,h=>by
  cases p<;>first|(exact aO h)|skip
  let(y,I,d):=af h;let(Z,rfl):=oI I;have g:=aj d;have hN:=zzy.mp g.1;have h3:=g.2;rw [zza,zza,er] at h3;let((r,a2),u):=h3
  cases x with
  |_=>exact HD S hN r (iM _ S.C _ u) (gS (a2.elim (λz=>aO z) id))
 |.ex x,p,_,_,_,h=>by
  cases p<;>first|(exact aO h)|skip
  have d:=aj h;exact Mp (iM x S.C _ d.2) d.1
 |.ret x,p,_,_,_,h=>by
  cases p<;>first|(exact aO h)|skip
  rename_i v D;cases v with
  |none=>exact aO h|some q=>exact HC (iM x S.C q h)
 |.par i j xs,p,_,_,_,h=>by
  cases p<;>first|(exact aO h)|skip
  rename_i ts v D;cases v<;>first|(exact aO h)|skip
  rename_i K L Jg
  match K,h with
  |[],h=>exact aO h|[_],h=>exact aO h|_::_::_::_,h=>exact aO h|[a,b],h=>
  let((x,px,y,py),M,h):=af h;simp! [zza,zzy,bne_iff_ne,ne_eq] at h;let((d,g),(((((h3,s),A),O),P),Q),R):=h;let(kt,pt,rfl):=zi M;exact HB S d g (zzY h3) s A O P Q (vQ xs S.C _ R)
 |.xE a kk e,p,_,_,_,h=>by
  cases p<;>first|(exact aO h)|skip
  let(t,z,d):=fe h;let(po,pk,sp,B,g):=SD d;subst z B;have h3:=aj g;have s:=h3.2;simp! [zza] at s;let(((((r,a2),u),w),F),T):=s;exact Ds S h3.1 r a2 u w F T
 |.tm c i f e,p,_,_,_,h=>by
  cases p<;>first|(exact aO h)|skip
  let(t,G,d):=fe h;let((o,m,ap),U,g):=af d;let(x,V,h3):=af g;have B:=ic U;let(np,H):=e9 V;dsimp only at G B H h3;subst G B H;have s:=aj h3;have Y:=zzy.mp s.1;subst Y;have A:=s.2;rw [zza,zza,zza] at A;let(((r,a2),w),F):=A;exact Dt S r a2 (iM e S.C _ F) w
 |.ite c a b,p,_,_,_,h=>by
  cases p<;>first|(exact aO h)|skip
  have d:=aj h;have g:=aj d.2;exact HA (OE c S.C _ d.1).1 (o5 S a _ g.1) (o5 S b _ g.2)
 |.hJ tg it b,p,_,_,_,h=>by
  cases p<;>first|(exact aO h)|skip
  have d:=aj h;have z:=j6 d.1;subst z;have g:=d.2;rw [zza,zza,zza] at g;let(((r,a2),u),w):=g;exact Hz S r a2 u λobe Ge He=>o5 S b _ w
theorem o5(S:B2 Γ Δ F1 F2 W N sc k E X):∀(xs:pK) (ps:List ix) {obe:List Ob} {Ge He:Hp},jv Γ Δ N sc xs ps=gf->wm X W F1 F2 obe Ge He E xs ps
 |.nil,ps,_,_,_,h=>by
  cases ps with
  |nil=>exact Dw|cons _ _=>exact aO h
 |.cons x xs,ps,_,_,_,h=>by
  cases ps with
  |nil=>exact aO h|cons q qs=>have a:=aj h;exact AI (Sw S x q a.1) (o5 S xs qs a.2)
end
set_option tactic.hygienic false
end
structure fT where
 f:Str
 c:Option Str
 m:Str
 d:D2
 st:ix
 hl:Bool:=gh
 td:Option (Str×Str):=gd
noncomputable abbrev eC:Type:=List fT
abbrev iO(l:eC):List (Str×D2):=l.map λr=>(r.f,r.d)
abbrev cu(fl:List (Str×Str))(l:eC):km:={l.filterMap λr=>if r.c.isNone&&r.td.isNone then fP r.f else gd,l.filterMap λr=>r.c.map λc=>(c,r.m),l.filterMap λr=>if r.m==(zu 14:Str) then r.c else gd,fl,l.filterMap λr=>if r.td.isSome then fP r.f else gd}
structure cZ(Γ:Pg)(Δ:km)(n q:Str)(d:D2)(st:ix):Prop where
 sc:iP d.N (d.N.take d.np) (au st)
 np:d.np<=d.N.length
 bind:∀(kV doc pm:gA) (an:Option hB) (dG ct:gA) (us:List gA),us.length=(d.N.take d.np).length->bindArgs (PySem.W.fnOf n q (bY st) (bg st) (au st) .none kV doc pm an dG ct) {us,[]}=pure ((d.N.take d.np).zip us)
 Tj:jv Γ Δ d.N (au st) d.body (bg st)=gf
theorem kc{Γ:Pg}{c:km}{n q:Str}{d:D2}(b:∀(kV a e:gA) (f:Option hB) (g ct:gA) (us:List gA),us.length=(d.N.take d.np).length->bindArgs (PySem.W.fnOf n q (bY st) (bg st) (au st) .none kV a e f g ct) {us,[]}=pure ((d.N.take d.np).zip us))
 (a1:(au st).kind=.function:=by rfl) (a2:(au st).isCoroutine=gh:=by rfl) (h:(au st).isGenerator=gh:=by rfl) (i:d.N.Nodup:=by decide+kernel) (j:d.N.take (d.N.take d.np).length=d.N.take d.np:=by rfl)
 (k:∀x∈d.N.take d.np,(au st).names.lookup x=fP .local\/(au st).names.lookup x=fP .cell:=by decide+kernel) (m:∀y∈(au st).names,y.2≠.free:=by decide+kernel) (o:d.np<=d.N.length:=by decide+kernel) (p:jv Γ c d.N (au st) d.body (bg st)=gf:=by decide+kernel):cZ Γ c n q d st:={⟨a1,a2,h,i,j,k,m⟩,o,b,p}
def zX(K:zz8)(ts:List (hB×Str))(hl:Bool)(n q:Str)(c:Option Str)(st:ix):Prop:=∃(f:hB) (oc:gA) (e:Option hB) (kV a g:gA) (h:Option hB) (b ct:gA) (i:Array (Option gA)),
 (match c with
  |none=>PySem.W.nsIn K iR n=fP (fP (.ref f))/\q=n|some c=>q=mP c n/\∃C,PySem.W.nsIn K iR c=fP (fP (.ref C))/\PySem.W.findIn K (.ref C) n=fP (fP (.ref f))/\PySem.W.isFn K (.ref f)=gf)/\
 K.lookup f=fP {oc,e,.func (PySem.W.fnOf n q (bY st) (bg st) (au st) .none kV a g h b ct),i}/\PySem.W.codeIn K b q=gf/\PySem.W.keepIn K (.ref f)=gf/\(hl=gf->∃c P,b=.ref c/\fI K c P/\(P,j0 q)∈ts/\∀d,(P,d)∈ts->d=j0 q)
structure wj(K:zz8)(fl:List (Str×Str))(c:Str):Prop where
 ex:∃C,PySem.W.nsIn K iR c=fP (fP (.ref C))/\v8 K C/\PySem.W.makesIn K C=gf/\PySem.W.keepIn K (.ref C)=gf/\∀f,fl.contains (c,f)=gf->cU K C f
structure Um(P:hG)(w:hI)(K:zz8)(mg:Str->Option gA)(base:ig)(W:Wd)(F1:Sg->aP)(F2:cM)(Γ:Pg)(Δ:km)(k:Nat):Prop where
 v9:∀f,Δ.cs.contains f=gf->∃fa,mg f=fP (.ref fa)/\PySem.W.keepIn K (.ref fa)=gf/\kj P w K mg base W F2 k f fa
 m:JW P w K mg base W F2 Δ k
 td:∀f,Δ.td.contains f=gf->Uo P w K mg base W F1 F2 Γ Δ.Rm k f
def Ny{Γ:Pg}(h:Γ.hl=gh):Γ.vw=Γ:=by cases Γ;cases h;rfl
theorem Ir{K:zz8}{Γ:Pg}{W:Wd}(M:mF K mg Γ W)(hl:Bool):mF K mg {Γ with hl:=hl} W:=⟨M.hK,M.hm,M.gs,M.bs,M.NA,M.cls,M.xc,M.xs,M.rm,M.Ph,M.bm⟩
section
variable{P:hG}{K:zz8}{Γ:Pg}{Δ:km}{W:Wd}{F1:Sg->aP}{F2:cM}
def kj.mono{k:Nat}(c:kj P w K mg base W F2 j f a)(h:j<=k):kj P w K mg base W F2 k f a:=by let(fd,b,d,e):=c.ex;exact{fd,b,d.mono h,e}
def FA{F a:cM}{b:Str}{n:Nat}(e:∀as s,a b as s=F f as s):PB W a b n=PB W F f n:=by
 funext c H Q E
 unfold PB;simp! [e]
def kj.swap{F a:cM}{k:Nat}{b:Str}{d:hB}(c:kj P w K mg base W F k f d)(e:∀as s,a b as s=F f as s):kj P w K mg base W a k b d:=by let(fd,g,h,i,h3):=c.ex;refine{fd,g,?_,i,λas s j=>h3 as s (by rw [<-e];exact j)};rw [FA e];exact h
theorem FH(d:D2)(as:List PV):(gR d as).any Slot.aZ=gh:=rE λs m=>by
 unfold gR at m;rcases List.mem_append.mp m with z|z
 .let(p,_,rfl):=ew.mp z;rfl
 .rw [List.eq_of_mem_replicate z];rfl
def De(Y:K.In base){k:Nat}{n q nf:Str}{d:D2}{fd:FuncData}{hl:Bool}(T:T1 P w K mg base W F1 Γ k)(U:Um P w K mg base W F1 F2 Γ Δ k)(St:cZ {Γ with hl:=hl} Δ n q d st)(Z:K1 K n q st a fd)(hL:hl=gf->∃c p,fd.code=.ref c/\fI K c p/\(p,j0 q)∈W.ts/\∀S,(p,S)∈W.ts->S=j0 q):
 fF P w K mg base (dF P w) (k+2) a fd (d.N.take d.np) (PB W (λ_ as s=>cF F1 F2 d as s) nf (d.N.take d.np).length):=by
 have y:(d.N.take d.np).length=d.np:=by rw [List.length_take];have:=St.np;lia
 let(oc,od,kV,doc,pm,an,V,ct,pH,rfl,lk,mM):=Z.ex;have hK:W.K=K:=(T.M []).hK;have hM:W.mg=mg:=(T.M []).hm;refine Df lk mM St.sc (λX H Q E h=>h.1) λA outer s H X Q E hr h=>?_;let(i,ob,G,as,sg,tb,u,l,o):=h;rw [y] at i;have I:∀ob,lP W.K W.mg ob->fi {Γ with hl:=hl} (F1 (aE ob)) (W.at ob) d.N (au st) k E (dM (dF P w) P w K mg base d.N q (au st) a V A outer s H E):=λob u=>wM (outer:=outer) (s:=s) (H:=H) (E:=E) (Ir (T.M ob) hl) Y St.sc (T.F ob u) (T.H ob u) (λf b=>{T.k2,T.Q ob u f b}) (λ_=>T.k2) (T.A ob u) (T.D ob u) hL hr
 have CY:B2 {Γ with hl:=hl} Δ F1 F2 W d.N (au st) k E (dM (dF P w) P w K mg base d.N q (au st) a V A outer s H E):={{λob u=>(I ob u).C,(I [] sH).pass,T.qt,hK,hM,λf b=>by
  let(a,z,B,h3):=U.v9 f b;exact{a,z,B,⟨h3.ex⟩},λc m b=>by
  let(C,a,z,B,h3):=U.m.met c m b;exact{C,a,z,B,⟨h3.ex⟩},λc b=>by
  let(C,a,j,z,B,h3,h4,h5):=U.m.new c b;exact{C,a,j,z,B,h3,h4,⟨h5.ex⟩},U.m.fl,λf b _=>by
  have:=U.td f b;rw [<-Ny T.hl] at this;exact this},I}
 have sr:SR (W.at ob) H (gR d as) (start d.N X) G H:=vS sg tb l (by rw [<-l.length,i];exact St.np)
 refine{OV W F1 F2 ob G H E d.body,o5 CY d.body _ St.Tj,ob,H,G,_,aE ob,{sr,u,.refl,rfl,FH d as},?_};dsimp only at o;unfold cF at o;rw [if_pos (by rw [<-l.length,i];exact beq_self_eq_true _)] at o;cases r:aJ F1 F2 d.body (gR d as) (aE ob) with
 |bad=>rw [r] at o;exact o|exc c s1=>rw [r] at o;exact o|ok fl s1=>
  rw [r] at o;cases fl with
  |nx env=>exact λσ' L dI O R t=>o .aN L O R (t.n.kQ t.sr) t.u t.s .n|rt p=>exact λv L O R rv g u e=>o v L O R g u e rv|bk env=>exact o.elim|ct env=>exact o.elim
def LS(i:K.In base){k:Nat}{n q nf:Str}{d:D2}{e:hB}{fd:FuncData}{hl:Bool}(T:T1 P w K mg base W F1 Γ k)(U:Um P w K mg base W F1 F2 Γ Δ k)(St:cZ {Γ with hl:=hl} Δ n q d st)(f:K1 K n q st e fd)(j:hl=gf->∃c p,fd.code=.ref c/\fI K c p/\(p,j0 q)∈W.ts/\∀g,(p,g)∈W.ts->g=j0 q):
 kj P w K mg base W (λZ as s=>cF F1 F2 d as s) (k+2) nf e:=by
 refine{_,d.N.take d.np,De i T U St f j,f.binds St.bind,λas s a=>?_};have b:(d.N.take d.np).length=d.np:=by rw [List.length_take];have:=St.np;lia
 have a:cF F1 F2 d as s≠.bad:=a;unfold cF at a;by_cases h:(as.length==d.np)=gf
 .rw [b];exact zzy.mp h
 .rw [if_neg h] at a;exact absurd rfl a
structure Up(Γ:Pg)(r:fT)(q:Str×Str):Prop where
 s:Xo r.m q.1 q.2 r.st
 q:Γ.qs.contains (zu 6)=gf
 cs:Γ.cs.contains (zu 8)=gf
 c:r.c=gd
 f:r.f=r.m
 m:(r.m==(zu 14:Str))=gh
def yc(Γ:Pg)(fl:List (Str×Str))(r:fT)(l:eC):Prop:=match r.td with
 |none=>cZ {Γ with hl:=r.hl} (cu fl l) r.m r.f r.d r.st
 |some q=>Up Γ r q
def ny(K:zz8)(ts:List (hB×Str))(Γ:Pg)(fl:List (Str×Str)):eC->Prop
 |[]=>True|r::l=>zX K ts r.hl r.m r.f r.c r.st/\yc Γ fl r l/\((l.map (·.f)).contains r.f=gh/\(r.c.isSome=gf->(cu fl l).td=[]))/\ny K ts Γ fl l
def Aq{r:fT}{l:eC}{g:Str}(h:(g==r.f)=gh)(as:List PV)(s:Sg):ax F1 (iO (r::l)) g as s=ax F1 (iO l) g as s:=by show(if(g==r.f)=gf then _ else _)=_;rw [h];rfl
def Ar{r:fT}{l:eC}(as:List PV)(s:Sg):ax F1 (iO (r::l)) r.f as s=cF F1 (ax F1 (iO l)) r.d as s:=by show(if(r.f==r.f)=gf then _ else _)=_;rw [beq_self_eq_true];rfl
theorem oW{ts:List (hB×Str)}{fl:List (Str×Str)}:∀{l:eC},ny K ts Γ fl l->∀{x:fT} {c:Str},x∈l->x.c=fP c->x.f=mP c x.m
 |[],_,_,_,h,_=>nomatch h|r::l,⟨he,_,_,a⟩,x,c,h,e=>by
  rcases ef.mp h with z|z
  .subst z;let(d,oc,g,kV,b,i,j,k,ct,o,e1,p,q,s,_):=he;rw [e] at e1;exact e1.1
  .exact oW a z e
theorem JW.swap{F b:cM}{Δ:km}(m:JW P w K mg base W F Δ j)(h:∀c n,Δ.ms.contains (c,n)=gf->∀as s,b (mP c n) as s=F (mP c n) as s)(g:∀c,Δ.ns.contains c=gf->∀as s,b (mP c (zu 14)) as s=F (mP c (zu 14)) as s):JW P w K mg base W b Δ j where
 met:=λc n a=>by let(C,d,e,h3,f):=m.met c n a;exact{C,d,e,h3,f.swap (h c n a)}
 new:=λc a=>by let(C,d,i,e,h3,f,k,o):=m.new c a;exact{C,d,i,e,h3,f,k,o.swap (g c a)}
 fl:=m.fl
set_option tactic.hygienic true in
theorem ye(D:K.In base)(G:base.Ns iR mg){fl:List (Str×Str)}{k1:Nat}(T:T1 P w K mg base W F1 Γ k1)(CK:∀c f,fl.contains (c,f)=gf->wj K fl c):∀(l:eC),ny K W.ts Γ fl l->(∀r∈l,∀c,r.c=fP c->wj K fl c)->Um P w K mg base W F1 (ax F1 (iO l)) Γ (cu fl l) (k1+3*l.length)
 |[],_,_=>{(λf h=>nomatch h),{(λc m h=>nomatch h),(λc h=>nomatch h),λc f h C hC=>by let(R,e,_,_,_,na):=(CK c f h).ex;have:=PySem.W.mg_of D G e;rw [hC] at this;cases this;exact na f h},(λf h=>nomatch h)}
 |r::l,L,qI=>by
  let(he,hs,(Gr,S),U):=L;have u:=ye D G T CK l U λr' MP=>qI r' (cq _ MP);let(b,oc,od,kV,doc,pm,an,dG,ct,pH,A,e2,e3,M,e5):=he;have V:=rZ (st:=r.st) e2 e3 M;have X:=T.mono (Nat.le_add_right _ (3*l.length));have I:k1+3*l.length<=k1+3*(r::l).length:=by rw [cC];lia
  have YS:k1+3*l.length+2<=k1+3*(r::l).length:=by rw [cC];lia
  have same:∀{g:Str},(l.map (·.f)).contains g=gf->∀as s,ax F1 (iO (r::l)) g as s=ax F1 (iO l) g as s:=λ{g} N as s=>Aq (by
   cases z:g==r.f with
   |false=>rfl|true=>rw [zzy.mp z,Gr] at N;cases N) as s
  have Y:∀{g:Str} {b:hB} {j:Nat},(l.map (·.f)).contains g=gf->kj P w K mg base W (ax F1 (iO l)) j g b->kj P w K mg base W (ax F1 (iO (r::l))) j g b:=λ{g b j} N c=>c.swap λas s=>same N as s;have Z9:∀c m,(cu fl l).ms.contains (c,m)=gf->(l.map (·.f)).contains (mP c m)=gf:=λc m a=>by have a:(List.filterMap (λr:fT=>r.c.map λc=>(c,r.m)) l).contains (c,m)=gf:=a;rw [eg,ey] at a;let(x,i,e):=a;let(c',O,e):=cz.mp e;cases e;have:=oW U i O;rw [eg,<-this];exact List.mem_map_of_mem i
  have Z:∀c,(cu fl l).ns.contains c=gf->(l.map (·.f)).contains (mP c (zu 14))=gf:=λc a=>by
   have a:(List.filterMap (λr:fT=>if r.m==(zu 14:Str) then r.c else gd) l).contains c=gf:=a;rw [eg,ey] at a;let(x,i,e):=a;split at e
   .rename_i hm;have:=oW U i e;rw [zzy.mp hm] at this;rw [eg,<-this];exact List.mem_map_of_mem i
   .cases e
  have E:∀{j:Nat},JW P w K mg base W (ax F1 (iO l)) (cu fl l) j->JW P w K mg base W (ax F1 (iO (r::l))) (cu fl l) j:=λm=>m.swap (λc n k as s=>same (Z9 c n k) as s) λc k as s=>same (Z c k) as s;have KS:∀f,(cu fl l).td.contains f=gf->Uo P w K mg base W F1 (ax F1 (iO (r::l))) Γ (cu fl l).Rm (k1+3*(r::l).length) f:=λf a=>by let(o,j,fd,x,p,t,h3,F,H,h6,y):=u.td f a;exact{o,j,fd,x,p,t,di h3 I,F,H,h6,(E (j:=j) ⟨y.met,y.new,y.fl⟩).met,(E (j:=j) ⟨y.met,y.new,y.fl⟩).new,y.fl}
  have Cj:∀f,(cu fl l).cs.contains f=gf->∃b,mg f=fP (.ref b)/\PySem.W.keepIn K (.ref b)=gf/\kj P w K mg base W (ax F1 (iO (r::l))) (k1+3*(r::l).length) f b:=λf a=>by
   let(o,p,t,h3):=u.v9 f a;refine{o,p,t,(Y ?_ h3).mono I};have a:(List.filterMap (λr:fT=>if r.c.isNone&&r.td.isNone then fP r.f else gd) l).contains f=gf:=a;rw [eg,ey] at a;let(x,i,e):=a;split at e
   .cases e;rw [eg];exact List.mem_map_of_mem i
   .cases e
  cases B:r.td with
  |some q=>
   unfold yc at hs;rw [B] at hs;have hs:Up Γ r q:=hs;have e0:cu fl (r::l)={cu fl l with td:=r.f::(cu fl l).td}:=by unfold cu;simp! [List.filterMap_cons,B,hs.c,Option.isNone_none,Option.isNone_some,Option.isSome_some,Bool.and_false,Option.map_none,hs.m,if_true,if_false,d4]
   have ok:=JI D X hs.q hs.cs hs.s (by have:=V;rw [hs.f] at this;exact this);rw [e0];refine{Cj,{?_,?_,u.m.fl},λf a=>?_}
   .intro c m k;let(C,o,p,t,h3):=(E u.m).met c m k;exact{C,o,p,t,h3.mono I}
   .intro c k;let(C,o,j,p,t,h3,F,H):=(E u.m).new c k;exact{C,o,j,p,t,h3,di F I,H}
   .have a:(r.f::(cu fl l).td).contains f=gf:=a
    rw [List.contains_cons,er] at a;rcases a with z|z
    .have z:=zzy.mp z;subst z;rw [hs.c] at A;exact{b,k1+3*l.length,_,q.1,by rw [hs.f];exact PySem.W.mg_of D G A.1,M,by rw [cC];lia,ok,(by have:=V;rw [hs.f] at this;exact this.binds hs.s.bind),X,(E u.m).met,(E u.m).new,u.m.fl}
    .exact KS f z
  |none=>
  unfold yc at hs;rw [B] at hs;have hs:cZ {Γ with hl:=r.hl} (cu fl l) r.m r.f r.d r.st:=hs;have ok:=LS (nf:=r.f) D X u hs V e5;have Wj:kj P w K mg base W (ax F1 (iO (r::l))) (k1+3*l.length+2) r.f b:=ok.swap λas s=>Ar as s;refine{λf a=>?_,{λc m a=>?_,λc a=>?_,u.m.fl},λf a=>?_}
  .have a:(List.filterMap (λr:fT=>if r.c.isNone&&r.td.isNone then fP r.f else gd) (r::l)).contains f=gf:=a;rw [eg,ey] at a;let(x,i,e):=a;split at e
   .rename_i k;cases e;rcases ef.mp i with z|z
    .subst z;rw [Option.isNone_iff_eq_none.mp (aj k).1] at A;exact{b,by rw [A.2];exact PySem.W.mg_of D G A.1,M,Wj.mono YS}
    .exact Cj x.f (by show(List.filterMap (λr:fT=>if r.c.isNone&&r.td.isNone then fP r.f else gd) l).contains x.f=gf;rw [eg,ey];exact{x,z,if_pos k})
   .cases e
  .have a:(List.filterMap (λr:fT=>r.c.map λc=>(c,r.m)) (r::l)).contains (c,m)=gf:=a;rw [eg,ey] at a;let(x,i,e):=a;let(c',O,e):=cz.mp e
   cases e;rcases ef.mp i with z|z
   .subst z;rw [O] at A;let(eq,C,Q,n2,n3):=A;refine{C,b,PySem.W.mg_of D G Q,⟨n2,n3,M⟩,?_};rw [<-eq];exact Wj.mono YS
   .let(C,o,p,t,h3):=(E u.m).met c x.m (by
     show(List.filterMap (λr:fT=>r.c.map λc=>(c,r.m)) l).contains (c,x.m)=gf;rw [eg,ey];exact{x,z,by rw [O];rfl})
    exact{C,o,p,t,h3.mono I}
  .have a:(List.filterMap (λr:fT=>if r.m==(zu 14:Str) then r.c else gd) (r::l)).contains c=gf:=a;rw [eg,ey] at a;let(x,i,e):=a;split at e
   .rename_i hm;rcases ef.mp i with z|z
    .subst z;rw [e] at A;let(eq,C,Q,n2,n3):=A;let(R,m1,m2,m3,m4,_):=(qI x c0 c e).ex;have Zr:R=C:=by rw [Q] at m1;cases m1;rfl
     subst Zr;have AQ:=zzy.mp hm;refine{R,b,k1+3*l.length+2,PySem.W.mg_of D G Q,m2,{m3,by rw [<-AQ];exact n2,n3,m4},by rw [cC];lia,?_};rw [<-AQ,<-eq];exact Wj
    .let(C,o,j,p,t,h3,F,H):=(E u.m).new c (by
      show(List.filterMap (λr:fT=>if r.m==(zu 14:Str) then r.c else gd) l).contains c=gf;rw [eg,ey];exact{x,z,by rw [if_pos hm];exact e})
     exact{C,o,j,p,t,h3,di F I,H}
   .cases e
  .have e0:(cu fl (r::l)).td=(cu fl l).td:=by
    show List.filterMap (λr:fT=>if r.td.isSome then fP r.f else gd) (r::l)=List.filterMap (λr:fT=>if r.td.isSome then fP r.f else gd) l;rw [List.filterMap_cons,B];rfl
   rw [e0] at a;have k:r.c=gd:=by
    cases z:r.c with
    |none=>rfl|some c=>rw [S (by rw [z];rfl)] at a;cases a
   let(o,j,fd,x,p,t,h3,F,H,h6,y):=KS f a
   have hN:(List.filterMap (λr:fT=>if r.m==(zu 14:Str) then r.c else gd) (r::l))=(cu fl l).ns:=by
    rw [List.filterMap_cons,k];split<;>rename_i q
    .rfl
    .split at q<;>cases q
   have hM:(List.filterMap (λr:fT=>r.c.map λc=>(c,r.m)) (r::l))=(cu fl l).ms:=by rw [List.filterMap_cons,k];rfl
   refine{o,j,fd,x,p,t,h3,F,H,h6,λc m a=>y.met c m ?_,λc a=>y.new c ?_,y.fl}
   .show(cu fl l).ms.contains (c,m)=gf;rw [<-hM];exact a
   .show(cu fl l).ns.contains c=gf;rw [<-hN];exact a
end
end Ci
namespace L2
open PySem.Spec PyProof.Rows
def A1{P:hG}{K:zz8}{mb:Str->Option gA}{CX:zV}{k:Nat}{M:hB}{fd:FuncData}{sp:Sp}{f:gB}{vs:List gA}{ns:List Int}(i:List hB)
 (N:K.In f.heap) (R:f.heap.Ns iR mg) (g:f.heap.Ns builtinsNs mb) (ZI:∀x:Str,x≠(zu 51)->mb x=bootBuiltins x) (w5:f.heap.NoLimit) (hg:f.gens=#[])
 (A:∀p∈i,f.heap.get? p=fP (PySem.W.tabObj #[])) (hC:∀p∈i,∃c,Ci.fI K c p) (Zx:∀p∈i,K.lookup p=gd)
 (B:f.heap.get? a=fP {cls:=.type "list",data:=.seq vs.toArray}) (S:IntsAre vs ns) (hl:ns.length<=iv) (hr:dB k callerA)
 (F:∀base:ig,K.In base->base.Ns iR mg->fF P w K mg base CX k M fd [x] sp) (QR:∀(s:gB) (u:gA),BindsTo s fd {[u],[]} [(x,u)])
 (Pp:∀H:Hp,(∀p∈i,H p=fP (.gI #[]))->Ci.uh K H a (ns.map V.int)->sp [.ref a] H (λv _=>v=.bl gf) λ_ _ _=>False)
 (UY:∀H e s',CX [] H f (λ_ _ _=>False) e s'->False):
 codeAny (hT P w) callerA (.call (.ref M) {[.ref a],[]}) (λr s'=>r=.ok (.ret (.bool gf))/\OldK f.heap s'.heap/\s'.os=f.os/\AllBare s'.gens) f:=by
 have T:=BM S;have Rz:=S.length;have U:a∉i:=λz=>by have:=A a z;rw [B] at this;cases this
 have t:∀H:Hp,(∀p∈i,H p=fP (.gI #[]))->Ci.uh K H a (ns.map V.int)->fE P w H f.heap->(∀b,H b≠gd->b∈i\/b=a/\∃o xs,H b=fP (.b9 o xs))->(H a≠gd->K.lookup a=gd)->
  codeAny (hT P w) callerA (.call (.ref M) {[.ref a],[]}) (λr s'=>r=.ok (.ret (.bool gf))/\OldK f.heap s'.heap/\s'.os=f.os/\AllBare s'.gens) f:=by
  intro H X hS aQ O hK;have Y:∀{b:hB} {o:Obj},f.heap.get? b=fP o->H b=gd->(sj f.heap H).get? b=fP o:=λe n=>DG e n
  have Iv:∀{b:hB} {o:Obj} {C:Array DictEntry} {D:Nat},f.heap.get? b=fP o->o.data=.dict C D->H b=gd:=λ{b o C D} e d=>by
   cases q:H b with
   |none=>rfl|some u=>
    rcases O b (by rw [q];simp) with z|⟨z,_⟩
    .rw [A b z] at e;cases e;cases d
    .subst z;rw [B] at e;cases e;have d':Data.seq vs.toArray _=Data.dict C D:=d;cases d'
  have G:∀{b:hB} {m:Str->Option gA},f.heap.Ns b m->(sj f.heap H).Ns b m:=λ{b m} ⟨o,C,D,e,d,r⟩=>{o,C,D,Y e (Iv e d),d,r}
  have Z:K.In (sj f.heap H):=λb o e=>Y (N b o e) (by
   cases q:H b with
   |none=>rfl|some u=>
    rcases O b (by rw [q];simp) with z|⟨z,_⟩
    .rw [Zx b z] at e;cases e
    .subst z;rw [hK (by rw [q];simp)] at e;cases e)
  have hM:Mod K mg (sj f.heap H):={Z,G R,{mb,G g,ZI},let⟨mc,h1,h2⟩:=w5;{mc,G h1,h2}};have e0:jl P w K mg (sj f.heap H) callerA [] f H:={rfl,hM,λb o e=>IK e,Nat.le_of_eq (AO _ _),trivial,λb g=>absurd (show b∈([]:List hB) from g) (by simp),aQ,.of_eq hg};refine codeAny_mono ((F _ Z (G R)).run callerA [] f H {[.ref a],[]} [.ref a] [.ref a] _ _ hr e0 (QR f (.ref a)) (.cons rfl .nil) (Pp H X hS)) λr s' h=>?_
  cases r with
  |error e=>exact(UY H e s' h).elim|ok fl=>
   cases fl with
   |next=>exact ed h|brk=>exact ed h|cont=>exact ed h|ret u=>
    let(v,H',os,bare,un,HV,r',q):=h;have q':v=.bl gf:=q;subst q';obtain rfl:u=gA.bool gf:=r'
    have E:∀b o,f.heap.get? b=fP o->s'.heap.get? b=fP o\/b∈i/\∃m,s'.heap.get? b=fP (PySem.W.tabObj m):=λb o e=>by
     cases q:H b with
     |none=>exact .inl (un.keep b o e q (by intro z;exact absurd (show b∈([]:List hB) from z) (by simp)) (by simp))|some u=>
      rcases O b (by rw [q];simp) with z|⟨z,ob,xs,I⟩
      .right;let(m,hm):=un.gU b _ (X b z);exact{z,_,HV b _ hm}
      .left;have z3:=un.gq b ob _ I;let(e1,_):=aQ b _ I;let(e2,_):=HV b _ z3;rw [e] at e1;cases e1;exact e2
    refine{rfl,{λb o e=>?_,λb o e=>?_},os,bare}
    .rcases E b o e with z|⟨z,m,I⟩
     .exact .inl z
     .have e':=A b z;rw [e] at e';cases e';let(c,o',Q,_,_,_,_,_,_,_,k1,k2,k3,k4,_):=hC b z;have tb:f.heap.TableAt c b #[]:={{o',Q,N _ _ k1,k2,k3,k4},e};exact .inr (.inl {tb.isCodeTable,rfl,#[],m,rfl,by rw [I];simp})
    .rcases E b o e with z|⟨_,m,z⟩
     .exact{_,z}
     .exact{_,z}
 cases hk:K.lookup a with
 |some o=>
  have e:=N a o hk;rw [B] at e;cases e;refine t (λb=>if b∈i then fP (.gI #[]) else gd) (λp L=>if_pos L) (.inr {vs.toArray,_,hk,by rw [a5,Rz];exact hl,zx6 T}) (λb u z=>?_) (λb z=>?_) λz=>absurd (if_neg U) z
  .by_cases g:b∈i
   .have j:=(if_pos g).symm.trans z;cases j;exact A b g
   .have j:=(if_neg g).symm.trans z;cases j
  .by_cases g:b∈i
   .exact .inl g
   .exact absurd (if_neg g) z
 |none=>
  refine t (λb=>if b=a then fP (.b9 {cls:=.type "list",data:=.seq vs.toArray} (.lst (ns.map V.int))) else if b∈i then fP (.gI #[]) else gd) (λp L=>?_) (.inl (.inr {{cls:=.type "list",data:=.seq vs.toArray},if_pos rfl})) (λb u z=>?_) (λb z=>?_) λ_=>hk
  .show(if p=a then _ else _)=_;rw [if_neg (show¬p=a from λz=>U (by rw [<-z];exact L)),if_pos L]
  .by_cases g:b=a
   .have j:=(if_pos g).symm.trans z;cases j;subst g;exact{B,by rw [zzl];exact hl,vs,_,T,B}
   .replace z:=(if_neg g).symm.trans z;by_cases y:b∈i
    .have j:=(if_pos y).symm.trans z;cases j;exact A b y
    .have j:=(if_neg y).symm.trans z;cases j
  .by_cases g:b=a
   .exact .inr {g,_,_,if_pos g}
   .by_cases y:b∈i
    .exact .inl y
    .exact absurd ((if_neg g).trans (if_neg y)) z
def F5{l:PySem.W.OpenLaw}{n k:Nat}{q:hG}{j:List Str}{E:(Str->Option gA)->ig->Prop}{C:hI->ig->Prop}{d:DefRec}{K:Params->zz8}{CX:hI->zV}{sp:hI->Sp}(y:List hB)
 (hn:l.most=fP n) (I:n<=iv) (L:d.params.defaults=[]) (M:dB k callerA)
 (hY:∀(w:hI) (h:ig),C w h->(K w.params).In h/\∀p∈y,h.get? p=fP (PySem.W.tabObj #[])) (hC:∀(w:hI),∀p∈y,(∃c,Ci.fI (K w.params) c p)/\(K w.params).lookup p=gd)
 (F:∀(w:hI) (mg:Str->Option gA) (z:hB) (h:ig),(K w.params).In h->h.Ns iR mg->mg d.name=fP (.ref z)->
  ∃fd:FuncData,(∀(s:gB) (u:gA),BindsTo s fd {[u],[]} [(x,u)])/\
   ∀base:ig,(K w.params).In base->base.Ns iR mg->fF l.prog w (K w.params) mg base (CX w) k z fd [x] (sp w))
 (N:∀(w:hI) (H:Hp) (a:hB) (ns:List Int),ns.length<=n->(∀p∈y,H p=fP (.gI #[]))->Ci.uh (K w.params) H a (ns.map V.int)->sp w [.ref a] H (λv _=>v=.bl gf) λ_ _ _=>False)
 (O:∀(w:hI) (H:Hp) (s:gB) (e:gA) (s':gB),CX w [] H s (λ_ _ _=>False) e s'->False):
 PySem.W.WalkO q j E C l.row.toRowW d [] (λf vs=>PySem.call f vs):=by
 refine Att.uw hn L λw s₀ r mg mb z o pm cd P a vs ns G Y ho hd mM A t m i Q=>?_;let(D,R):=hY w _ Y;let(fd,S,U):=F w mg z _ D G.T.g A;exact A1 y D G.T.g G.T.b G.T.builtins G.T.nolimit Q R (λp B=>(hC w p B).1) (λp B=>(hC w p B).2) t m (di i I) M U S (λH X Z=>N w H a ns i X Z) λH e s'=>O w H r e s'
end L2
namespace Ci
open L2
theorem j9{W:Wd}:∀(ns:List Int),ah W G (ns.map PV.int) (ns.map V.int)
 |[]=>.nil|n::ns=>.cons .i (j9 ns)
abbrev my(H:Hp):Hp:=λb=>match H b with
 |some (.gI _)=>gd|o=>o
def oJ(H:Hp):az (my H) H:=λb o e=>by
 unfold my at e;split at e
 .cases e
 .exact e
def kU{b:hB}{o:HO}(h:H b=fP o)(n:∀ps,o≠.gI ps):my H b=fP o:=by
 unfold my;rw [h];cases o with
 |gI ps=>exact absurd rfl (n ps)|_=>rfl
abbrev KI(K:zz8)(b:List hB):Sp:=λc H Q Z=>∃(a:hB) (ns:List Int),c=[.ref a]/\(∀p∈b,H p=fP (.gI #[]))/\uh K H a (ns.map V.int)/\ns.length<=63/\∀d,Q (.bl gf) d
def walk{l:PySem.W.OpenLaw}{q:hG}{i:List Str}{XP:(Str->Option gA)->ig->Prop}{R:hI->ig->Prop}{d:DefRec}{K:Params->zz8}(rest:f9)(Γ:Pg)(x:Str)(j:Def)(xs:List Str)(ts:List (hB×Str))(st:ix)(D:Bool)
 (S:j.N.take j.np=[x]) (qI:j.uB=gd) (Vj:d.name="law") (hn:l.most=fP 63) (MI:d.params.defaults=[]) (hr:dB (2*rest.length+2) callerA) (hY:∀(w:hI) (h:ig),R w h->(K w.params).In h/\∀p∈ts.map (·.1),h.get? p=fP (PySem.W.tabObj #[]))
 (hC:∀(w:hI),∀p∈ts.map (·.1),(∃c,fI (K w.params) c p)/\(K w.params).lookup p=gd)
 (hM:∀(w:hI) (mg:Str->Option gA) (h:ig),(K w.params).In h->h.Ns iR mg->mF (K w.params) mg Γ {K w.params,mg,xs,ts,[]})
 (hE:∀w:hI,B3 (K w.params) ts D "law" st) (T:dU (Γ.at rest D) "law" j st) (fW:rest≠[])
 (I:∀w:hI,AllK (K w.params) ts Γ rest)
 (MK:∀ns:List Int,ns.length<=63->aW (den (tab rest)) j [.lst (ns.map .int)]=.ok (.bl gf)):
 PySem.W.WalkO q i XP R l.row.toRowW d [] (λf vs=>PySem.call f vs):=by
 refine L2.F5 (n:=63) (k:=2*rest.length+2) (x:=x) (CX:=λw=>dF l.prog w) (sp:=λw=>KI (K w.params) (ts.map (·.1))) (ts.map (·.1)) hn (by decide) MI hr hY hC ?_ ?_ ?_
 .intro w mg fa h KX G r;rw [Vj] at r;let(f,oc,od,kV,y,U,V,X,ct,pH,e1,e2,e3,e4,e5):=hE w;have L:fa=f:=by have z:=r.symm.trans (PySem.W.mg_of KX G e1);cases z;rfl
  subst L;refine{PySem.W.fnOf "law" "law" (bY st) (bg st) (au st) .none kV y U V X ct,λs u=>?_,λbase O Y=>?_}
  .have Z:=T.bind kV y U V X ct [u];rw [S] at Z;exact .of_eq (Z rfl)
  .have M:=hM w mg base O Y;have A:2<=2*rest.length:=by have:=List.length_pos_iff.mpr fW;lia
   let(a1,a2,a3):=nB (P:=l.prog) (w:=w) (B:=We) {λ_ _ z=>absurd rfl z,λ_ _ _ z=>absurd rfl z,λ_ z=>absurd rfl z} M O Y rest (I w);have ok:=Kg (P:=l.prog) (w:=w) (nf:="law") (sD M rest D) O (k:=2*rest.length) T (rZ (st:=st) e2 e3 e4) (λg hg=>a1 g hg) (λq hq=>a2 q hq) (λf L=>{A,a3 f L}) (λ_=>A) (mZ (λ_ _ z=>absurd rfl z) rest (I w)) (rT (B:=We) {λ_ _ z=>absurd rfl z,λ_ _ _ z=>absurd rfl z,λ_ z=>absurd rfl z} rest (I w)) e5;rw [S] at ok;refine ok.imp λvs H Q E h=>?_;let(a,ns,rfl,ht,hl,b,q):=h;refine{rfl,my H,[.lst (ns.map .int)],oJ H,{λP q m=>?_,λn o e=>nomatch e},?_,?_}
   .have hP:=ht P (List.mem_map_of_mem (f:=(·.1)) m);refine{by unfold my;rw [hP],#[],hP,trivial,λpos cv e=>nomatch e}
   .rw [qI];refine ah.cons (.l ?_ (j9 ns)) .nil;rcases hl with(h|⟨o,h⟩)|h
    .exact .inl (.inl (kU h (λ_ z=>nomatch z)))
    .exact .inl (.inr {o,kU h (λ_ z=>nomatch z)})
    .exact .inr h
   .dsimp only;rw [MK ns b];intro v G' H' _ rv;simp! [Rep] at rv;subst rv;exact q H'
 .intro w H a ns b hO HL;exact{a,ns,rfl,hO,HL,b,λ_=>rfl}
 .intro w H s e s' h;let(a,C,t,vs,H',B,rfl,F):=h;exact F.ends
noncomputable abbrev LR(l:f9):Sg->aP:=λs=>aI (aV s) (tab l)
def SE{P:hG}{w:hI}{K:zz8}{mg:Str->Option gA}{Γ:Pg}{W:Wd}(g:K.In base)(G:base.Ns iR mg)(rest:f9)(e:rest≠[])(M:∀ob,mF K mg Γ (W.at ob))(b:AllK K W.ts Γ rest):T1 P w K mg base W (LR rest) (Γ.at rest gh) (2*rest.length):=by
 have hK:W.K=K:=(M []).hK;have hm:W.mg=mg:=(M []).hm;have c:2<=2*rest.length:=by have:=List.length_pos_iff.mpr e;lia
 have a:∀ob,lP W.K W.mg ob->_:=λob u=>nB (P:=P) (w:=w) (W:=W.at ob) (B:=aV (aE ob)) (rW (W:=W) (by rw [<-hK];exact u)) (M ob) g G rest b;refine{λob=>sD (M ob) rest gh,λob u f d=>(a ob u).1 f d,λob u q h=>(a ob u).2.1 q h,λob u f d=>(a ob u).2.2 f d,λob u=>?_,λob u=>?_,?_,rfl,c}
 .exact mZ (rW (K:=K) (mg:=W.mg) (W:=W) (by rw [<-hK];exact u)).any rest b
 .exact rT (W:=W.at ob) (rW (K:=K) (mg:=W.mg) (W:=W) (by rw [<-hK];exact u)) rest b
 .show rest.isEmpty=gh
  cases rest with
  |nil=>exact absurd rfl e|cons _ _=>rfl
def walk2{l:PySem.W.OpenLaw}{q:hG}{i:List Str}{XP:(Str->Option gA)->ig->Prop}{L:hI->ig->Prop}{d:DefRec}{K:Params->zz8}(rest:f9)(g:eC)(Γ:Pg)(fl:List (Str×Str))(x:Str)(j:D2)(xs:List Str)(ts:List (hB×Str))(st:ix)
 (M:j.N.take j.np=[x]) (Vj:d.name="law") (hn:l.most=fP 63) (MI:d.params.defaults=[]) (hr:dB (2*rest.length+3*g.length+2) callerA) (hY:∀(w:hI) (h:ig),L w h->(K w.params).In h/\∀p∈ts.map (·.1),h.get? p=fP (PySem.W.tabObj #[]))
 (hC:∀(w:hI),∀p∈ts.map (·.1),(∃c,fI (K w.params) c p)/\(K w.params).lookup p=gd)
 (hM:∀(w:hI) (mg:Str->Option gA) (h:ig),(K w.params).In h->h.Ns iR mg->∀ob,mF (K w.params) mg Γ {K w.params,mg,xs,ts,ob})
 (O:Bool) (hE:∀w:hI,zX (K w.params) ts O "law" "law" gd st) (R:cZ {Γ.at rest gh with hl:=O} (cu fl g) "law" "law" j st) (fW:rest≠[])
 (hA:∀w:hI,AllK (K w.params) ts Γ rest) (Zp:∀w:hI,ny (K w.params) ts (Γ.at rest gh) fl g)
 (QU:∀w:hI,∀c f,fl.contains (c,f)=gf->wj (K w.params) fl c) (pT:∀w:hI,∀r∈g,∀c,r.c=fP c->wj (K w.params) fl c)
 (MK:∀ns:List Int,ns.length<=63->∃s,cF (LR rest) (ax (LR rest) (iO g)) j [.lst (ns.map .int)] []=.ok (.bl gf) s):
 PySem.W.WalkO q i XP L l.row.toRowW d [] (λf vs=>PySem.call f vs):=by
 refine L2.F5 (n:=63) (k:=2*rest.length+3*g.length+2) (x:=x) (CX:=λw=>dF l.prog w) (sp:=λw=>KI (K w.params) (ts.map (·.1))) (ts.map (·.1)) hn (by decide) MI hr hY hC ?_ ?_ ?_
 .intro w mg fa h KX G y;rw [Vj] at y;let(f,oc,od,kV,A,S,V,X,ct,pH,e1,e2,e3,e4,e5):=hE w;have hf:fa=f:=by have z:=y.symm.trans (PySem.W.mg_of KX G e1.1);cases z;rfl
  subst hf;refine{PySem.W.fnOf "law" "law" (bY st) (bg st) (au st) .none kV A S V X ct,λs u=>?_,λbase D I=>?_}
  .have Y:=R.bind kV A S V X ct [u];rw [M] at Y;exact .of_eq (Y rfl)
  .have T:=SE (P:=l.prog) (w:=w) (W:={K w.params,mg,xs,ts,[]}) D I rest fW (hM w mg base D I) (hA w);have U:=ye D I T (QU w) g (Zp w) (pT w);have ok:=De (nf:="law") D (T.mono (Nat.le_add_right _ (3*g.length))) U R (rZ (st:=st) e2 e3 e4) e5;rw [M] at ok;refine ok.imp λvs H Q E h=>?_;let(a,ns,rfl,ht,hl,b,q):=h;refine{rfl,[],my H,[.lst (ns.map .int)],oJ H,{λP q m=>?_,λn o e=>nomatch e},sH,?_,?_}
   .have Z:=ht P (List.mem_map_of_mem (f:=(·.1)) m);refine{by unfold my;rw [Z],#[],Z,trivial,λpos cv e=>nomatch e}
   .refine ah.cons (.l ?_ (j9 ns)) .nil;rcases hl with(h|⟨o,h⟩)|h
    .exact .inl (.inl (kU h (λ_ z=>nomatch z)))
    .exact .inl (.inr {o,kU h (λ_ z=>nomatch z)})
    .exact .inr h
   .let(s',e):=MK ns b;have e:cF (LR rest) (ax (LR rest) (iO g)) j [.lst (ns.map .int)] (aE [])=.ok (.bl gf) s':=e;dsimp only;rw [e];intro v aG G' H' _ _ _ rv;simp! [Rep] at rv;subst rv;exact q H'
 .intro w H a ns b hO HL;exact{a,ns,rfl,hO,HL,b,λ_=>rfl}
 .intro w H s e s' h;let(a,C,t,vs,H',B,rfl,F):=h;exact F.ends
end Ci
namespace Hd
open PySem.W PySem.Calls
abbrev Oj(st:SharedT->Thread->Option (SharedT×Thread))(ok:Thread->Bool)(n:Nat):SharedT->Thread->Option SharedT:=
 @Nat.rec (λZ=>SharedT->Thread->Option SharedT) (λZ Z=>gd) (λZ a s t=>match through t with
  |true=>fP s|false=>match ok t with
   |false=>gd|true=>match st s t with
    |some (b,c)=>a b c|none=>gd) n
theorem qX{tb:String->Option i1}{p:hG}{a:Nat}{ann:Option gA}:∀{n:Nat} {s s':SharedT} {t:Thread},Oj (stepT (denote tb) p w) (stepOk a ann) n s t=fP s'->topRun tb p w a ann n s.abs t=fP s'.abs
 |0,_,_,_,h=>by cases h
 |n+1,s,s',t,h=>by
  have h:(match through t with
   |true=>fP s|false=>match stepOk a ann t with
    |false=>gd|true=>match stepT (denote tb) p w s t with
     |some (s',t')=>Oj (stepT (denote tb) p w) (stepOk a ann) n s' t'|none=>gd)=fP s':=h
  unfold topRun;cases b:through t with
  |true=>rw [b] at h;cases h;rfl
  |false=>
   rw [b] at h;cases hk:stepOk a ann t with
   |false=>rw [hk] at h;cases h
   |true=>
    rw [hk] at h;cases hs:stepT (denote tb) p w s t with
    |none=>rw [hs] at h;cases h
    |some r=>let(c,d):=r;rw [hs] at h;rw [stepT_spec hs];exact qX h
abbrev treeOf(l:List Obj):BT:=(l.foldl (λ(T,i) o=>(BT.ins T i o,i+1)) (BT.nil,0)).1
def Il{p q:hG}{a:List Str}{b:gB->Bool}{c:Type}{g:gB->c}{i:hI->c}{N:Nat}{j:Bool}{T₀:Params->BT}{life:Life}{m₀:Nat}{ann:Option gA}{M:Nat}
 (e:opening p=plainProg p.main.scope.names) (hN:Nat.ble 600 N=gf) (f:∀s,fenceModules? p s=fP s)
 (m:∀P:Params,absHeap (T₀ P) m₀ life=boot_heap P)
 (size:∀w:hI,((boot_heap w.params).isNs iR,(boot_heap w.params).nsMap iR "__annotations__")=(gf,ann))
 (le:Nat.ble M N=gf)
 (run:∀(w:hI) (os:OsState),(Oj (stepT (denote treeTable) p w) (stepOk m₀ ann) M {T₀ w.params,m₀,life,Array.mk [],boot_drawn,boot_toks,os} (topStub p)).map (λs=>
  ((staticsOk (importedModules p.main.body) (boot_heap w.params) s.abs.heap&&namesBound p s.abs.heap&&gensDone s.abs&&laidKept (boot_heap w.params) s.abs.heap),openSeen q a (importedModules p.main.body) b j s.abs,g s.abs))
  =fP (gf,openGood q a,i w)):LeftO p q a b g i N j:=λw=>by
 let((h,gs,d,k,os),o,u):=cz.mp (boot_open e hN f w);obtain⟨rfl,rfl,rfl,rfl⟩:h=boot_heap w.params/\gs=Array.mk []/\d=boot_drawn/\k=boot_toks:=zx6 u;obtain⟨y,z⟩:_/\_:=by simpa only [Prod.mk.injEq] using size w
 let(s,r,l):=cz.mp (run w os);obtain⟨A,B,C⟩:_/\_/\_:=by simpa only [Prod.mk.injEq] using l
 have r:=qX r;have r:=topRun_mono (N-M) _ _ _ _ r;rw [show M+(N-M)=N by have:=Nat.le_of_ble_eq_true le;omega] at r;have hs:(boot_heap w.params).objs.size=m₀:=by rw [<-m w.params];exact absHeap_size _ _ _
 have r:topRun treeTable p w m₀ ann N {boot_heap w.params,Array.mk [],boot_drawn,boot_toks,os} (topStub p)=fP s.abs:=by
  have:({T₀ w.params,m₀,life,Array.mk [],boot_drawn,boot_toks,os}:SharedT).abs={boot_heap w.params,Array.mk [],boot_drawn,boot_toks,os}:=by show gB.mk _ _ _ _ _=_;rw [show absHeap (T₀ w.params) m₀ life=boot_heap w.params from m w.params]
  rw [<-this];exact r
 have t:topFrom treeTable p w N {boot_heap w.params,Array.mk [],boot_drawn,boot_toks,os}=fP s.abs:=by
  unfold topFrom;dsimp only;rw [y,z,hs,r];show(match staticsOk (importedModules p.main.body) (boot_heap w.params) s.abs.heap&&namesBound p s.abs.heap&&gensDone s.abs&&laidKept (boot_heap w.params) s.abs.heap with|true=>_|false=>_)=_;rw [A]
 unfold openEnds;rw [o];show(topFrom treeTable p w N _).map _=_;rw [t];exact congrArg fP (Prod.ext B C)
end Hd
namespace Hd
open PySem.W
def Qe:∀P:Params,absHeap (treeOf (boot_heap P).objs.toList) 11 {}=boot_heap P:=λP=>by kernel_rfl
def Qf:∀w:hI,((boot_heap w.params).isNs iR,(boot_heap w.params).nsMap iR "__annotations__")=(gf,fP (.ref 6)):=λw=>by kernel_rfl
noncomputable abbrev de(P:Params)(x:Str)(t:Tok)(v:gA):DictEntry:={hash:=PyData.keyHash P x,key:=.str x t,val:=v}
theorem holds{l:OpenLaw}{keep:List Nat}{K:Params->Frag}{as:List hB}{d:DefRec}{N:Nat}(a:l.wellSaid=gf)
 (ka:∀P,as=(K P).map (·.1))
 (left:LeftO l.row.prog (view l.row.prog keep) [] (λs=>xlAt (view l.row.prog keep) [] s&&recOk l.row.toRowW.records s) (kHook K as ka).obs (kHook K as ka).val N)
 (b:defOf (view l.row.prog keep) l.row.name=fP (d,[])) (c:l.row.prog.theDef l.row.name=fP (d.params,d.body,d.scope)) (hk:kwWritten? d.params.kwonlyargs d.params.kw_defaults=fP [])
 (ok:(chainsOk (view l.row.prog keep)&&opensWell l.row.prog&&(frees l.row.toRowW&&l.row.within.isEmpty))=gf) (g:l.row.prog.bare) (i:l.row.toRowW.promised)
 (call:WalkO (view l.row.prog keep) [] (XL (view l.row.prog keep) []) (kHook K as ka).says l.row.toRowW d [] λf vs=>PySem.call f vs):l.Holds:=
 holds_law a λj=>holds_open (N:=N) left (Hook.of (kHook K as ka)) (Hook.keeps (kHook K as ka)) (λs e=>xl_of s (Bool.and_eq_true_iff.mp e).1) XL.keeps b c hk (λs e=>recFacts_of (Bool.and_eq_true_iff.mp e).2) (by cases h:l.row.writes<;>rfl) j ok g i call
def P4{n:Nat}{P:List gA->Prop}(h:∀a us,us.length=n->P (a::us))(us:List gA)(e:us.length=n+1):P us:=by
 cases us with
 |nil=>cases e
 |cons a r=>exact h a r (Nat.succ.inj e)
def tZ{P:List gA->Prop}(h:∀b,P [b]):∀us:List gA,us.length=1->P us:=P4 λa us e=>by
 cases us with
 |nil=>exact h a|cons _ _=>cases e
theorem yf{P:List gA->Prop}(h:∀b c,P [b,c]):∀us:List gA,us.length=2->P us:=P4 λa=>tZ (P:=λus=>P (a::us)) (h a)
theorem O9{P:List gA->Prop}(h:∀b c a2,P [b,c,a2]):∀us:List gA,us.length=3->P us:=P4 λa=>yf (P:=λus=>P (a::us)) (h a)
theorem Ux{P:List gA->Prop}(h:∀b c a2 d,P [b,c,a2,d]):∀us:List gA,us.length=4->P us:=P4 λa=>O9 (P:=λus=>P (a::us)) (h a)
theorem Y7{P:List gA->Prop}(h:∀b c a2 d e,P [b,c,a2,d,e]):∀us:List gA,us.length=5->P us:=P4 λa=>Ux (P:=λus=>P (a::us)) (h a)
end Hd
namespace KJ
open L2 Ci
theorem UC{b c:Type}{a:b}{f:b->Res c}:(Res.ok a).bind f=f a:=rfl
theorem YT{b:Type}{a:b}:(Res.ok a).well=.ok a:=rfl
theorem Ys{b:Type}{a:b}:Res.of (fP a)=.ok a:=rfl
theorem YH{env:Sl}{k:Sl->Res Fl}:(Fl.nx env).seq k=k env:=rfl
theorem YI{p:PV}{k:Sl->Res Fl}:(Fl.rt p).seq k=.ok (.rt p):=rfl
theorem YG{env:Sl}{k:Sl->Res Fl}:(Fl.bk env).seq k=.ok (.bk env):=rfl
theorem sv{p:PV}:iL (fP (.val p))=.ok p:=rfl
theorem YK{p:PV}:zF (fP (.val p))=.ok p:=rfl
theorem YJ{p:PV}:zF (fP (.own p))=.ok p:=rfl
theorem Xr{a:Type}{b:Bool}{f:Bool->Res a}:wy (.bl b) f=f b:=rfl
theorem J0{i j:Int}:binOp .add (.int i) (.int j)=.ok (.int (i+j)):=rfl
theorem J5{i j:Str}:binOp .add (.str i) (.str j)=if i.length+j.length<=bS then .ok (.str (i++j)) else .bad:=rfl
theorem J4{i j:List PV}:binOp .add (.lst i) (.lst j)=if i.length+j.length<=bS then .ok (.lst (i++j)) else .bad:=rfl
theorem Qb{i j:Int}:binOp .sub (.int i) (.int j)=.ok (.int (i-j)):=rfl
theorem Qa{i j:Int}:binOp .mul (.int i) (.int j)=if bp i||bp j then .ok (.int (i*j)) else .bad:=rfl
theorem P9{i j:Int}:binOp .mod (.int i) (.int j)=if 0<j then .ok (.int (i%j)) else .bad:=rfl
theorem P8{i j:Int}:binOp .fdiv (.int i) (.int j)=if 0<j/\j<1073741824 then .ok (.int (i/j)) else .bad:=rfl
theorem Xx:cN .eq=gN:=rfl
theorem XD:cN .ne=hX:=rfl
theorem XC:cN .lt=vB:=rfl
theorem XB:cN .le=vA:=rfl
theorem Xy:cN .ge=xr:=rfl
theorem XA:cN .Gv=pZ:=rfl
theorem Qg:cN .Ep=oM:=rfl
theorem oLt{i j:Int}:vB (.int i) (.int j)=.ok (.bl (decide (i<j))):=rfl
theorem oLe{i j:Int}:vA (.int i) (.int j)=.ok (.bl (decide (i<=j))):=rfl
theorem Yp{i j:Int}:xr (.int i) (.int j)=.ok (.bl (decide (j<=i))):=rfl
theorem lL{xs:List PV}:fq .len [.lst xs]=.ok (.int xs.length):=rfl
theorem lT{xs:List PV}:fq .len [.tup xs]=.ok (.int xs.length):=rfl
theorem lS{z:Str}:fq .len [.str z]=if z.length<=bS then .ok (.int z.length) else .bad:=rfl
theorem tL{xs:List PV}:fq .tuple [.lst xs]=.ok (.tup xs):=rfl
theorem aL{xs:List PV}:fq .all [.lst xs]=(Res.of (boolsOf xs)).bind λbs=>.ok (.bl (bs.all id)):=rfl
theorem YR{i:Nat}{p:PV}{env:Sl}:(Tg.one i).put p env=.ok (env.set i (.val p)):=rfl
theorem YQ{i j:Nat}{a b:PV}{env:Sl}:(Tg.two i j).put (.tup [a,b]) env=.ok ((env.set i (.val a)).set j (.val b)):=rfl
theorem XN{p:PV}:rY (.own p)=.val p:=rfl
theorem jA{b:Type}{a:b}{as:List b}:(a::as).length=as.length+1:=rfl
theorem jB{a:Type}:([]:List a).length=0:=rfl
theorem jC{b c:Type}{f:b->c}{a:b}{l:List b}:(a::l).map f=f a::l.map f:=rfl
theorem jD{a b:Type}{f:a->b}:([]:List a).map f=[]:=rfl
theorem jE{b:Type}{a:b}{as bs:List b}:a::as++bs=a::(as++bs):=rfl
theorem jF{a:Type}{as:List a}:[]++as=as:=rfl
theorem jG{b:Type}{a:b}{l:List b}:(a::l)[0]?=fP a:=rfl
theorem jH{b:Type}{a:b}{l:List b}{i:Nat}:(a::l)[i+1]?=l[i]?:=rfl
theorem jI{c:Type}{a b:c}{l:List c}:(a::l).set 0 b=b::l:=rfl
theorem jJ{c:Type}{a b:c}{l:List c}{i:Nat}:(a::l).set (i+1) b=a::l.set i b:=rfl
theorem jK{b:Type}{a d:b}{l:List b}:(a::l).getD 0 d=a:=rfl
theorem jL{b:Type}{a d:b}{l:List b}{i:Nat}:(a::l).getD (i+1) d=l.getD i d:=rfl
def jM{n:Nat}:0+n=n:=Nat.zero_add _
theorem jN:(!true)=gh:=rfl
theorem jO:(!false)=gf:=rfl
def jP:(gh=gf)=False:=d4
theorem ua{e:E}{xs:List PV}:xI e (.lst xs)=.ok xs:=rfl
theorem YF{e:E}{xs:List PV}:xI e (.tup xs)=.ok xs:=rfl
theorem VT{xs:List PV}:itemsOf (.tup xs)=.ok xs:=rfl
theorem VR{xs:List PV}:itemsOf (.lst xs)=.ok xs:=rfl
theorem VS{z:Str}:itemsOf (.str z)=.ok (chars z):=rfl
theorem J6{i j:List PV}:binOp .add (.tup i) (.tup j)=if i.length+j.length<=bS then .ok (.tup (i++j)) else .bad:=rfl
theorem jQ{b:Type}{f:b->b}{a:b}{l:List b}:(a::l).modify 0 f=f a::l:=rfl
def jR{b:Type}{f:b->b}{a:b}{l:List b}{i:Nat}:(a::l).modify (i+1) f=a::l.modify i f:=by simp
theorem jS{b:Type}{a:b}:jz 0 a=[]:=id rfl
theorem jT{b:Type}{a:b}{n:Nat}:jz (n+1) a=a::jz n a:=id rfl
def jU{n:Nat}:(n==n)=gf:=beq_self_eq_true n
abbrev J:=je @jS (je @jT (je @jU (je @UC (je @YT (je @Ys (je @YH (je @YI (je @YG (je @sv (je @YK (je @YJ (je @Xr (je @J0 (je @J5 (je @J4 (je @Qb (je @Qa (je @P9 (je @P8 (je @Xx (je @XD (je @XC (je @XB (je @Xy (je @XA (je @Qg (je @oLt (je @oLe (je @Yp (je @lL (je @lT (je @lS (je @tL (je @aL (je @YR (je @YQ (je @XN (je @jA (je @jB (je @jC (je @jD (je @jE (je @jF (je @jG (je @jH (je @jI (je @jJ (je @jK (je @jL (je @jM (je @jN (je @jO (je @jP (je @ua (je @YF (je @VT (je @VR (je @VS (je @J6 (je @jQ (@jR)))))))))))))))))))))))))))))))))))))))))))))))))))))))))))))
def Lx{B:aP}{n:Str}{d:Def}{r:List (Str×Def)}:aI B ((n,d)::r) n=aW (aI B r) d:=by funext as;simp [aI]
def Ly{B:aP}{n:Str}{d:Def}{r:List (Str×Def)}(h:(f==n)=gh):aI B ((n,d)::r) f=aI B r f:=by funext as;simp [aI,h]
theorem nT{B:aP}:∀(n:Nat) {T:List (Str×Def)},((T.take n).all λx=>!(f==x.1))=gf->aI B T f=aI B (T.drop n) f
 |0,_,_=>rfl|n+1,[],_=>rfl|n+1,(m,d)::r,h=>by rw [List.take_succ_cons,List.all_cons,zza,Bool.not_eq_true'] at h;exact(Ly h.1).trans (nT n h.2)
def pG{B:aP}{d:Def}{r T:List (Str×Def)}(k:Nat)(h:((T.take k).all λx=>!(f==x.1))=gf:=by decide+kernel)(e:T.drop k=(f,d)::r:=by rfl):aI B T f=aW (aI B r) d:=by rw [nT k h,e];exact Lx
end KJ
local macro_rules | `(#v[]) => `(.nil) | `(#v[$x]) => `(.cons $x .nil) | `(#v[$x, $xs,*]) => `(.cons $x #v[$xs,*]) | `(!$n:num) => `(.var $n) | `(¬$n:num) => `(.cst (.int $n))
namespace K72
open L2 Ci
abbrev eZ:Def:={["_law_kept","_law_kinds","_law_some"],1,#v[.set 1 (.lst #v[.yQ "NoBack" (!0),.yQ "NoFit" (!0),.yQ (zu 58) (!0),.yQ (zu 31) (!0)]),.set 1 (.bin .add (!1) (.lst #v[.yQ (zu 62) (!0),.yQ "NoSize" (!0),.yQ (zu 57) (!0)])),.set 1 (.bin .add (!1) (.lst #v[.yQ "NoText" (!0),.yQ "NoWay" (!0)])),.ite (.or (.cmp .ne (.fg .jy (!1) #v[.cst (.bl gf)]) (¬1)) (.not (.yQ (zu 2) (!0)))) #v[.ret (.cst (.str "wrong"))] .nil,.set 2 (.lst #v[.cst (.str "no back"),.cst (.str "no fit"),.cst (.str "no floor"),.cst (.str "no name"),.cst (.str "no sign"),.cst (.str "no size"),.cst (.str "no spot"),.cst (.str "no text"),.cst (.str "no way")]),.ret (.sub (!2) (.fg .index (!1) #v[.cst (.bl gf)]))],gd}
abbrev fv:Def:={["thing"],1,#v[.ret (.and (.ty .int (!0)) (.not (.ty .bool (!0))))],gd}
abbrev lU:Def:={["thing"],1,#v[.ite (.or (.not (.ty .str (!0))) (.not (.ch .le .le (¬1) (.blt .len #v[!0]) (.glob "LONGEST_NAME" (.int 6))))) #v[.ret (.cst (.bl gh))] .nil,.ret (.blt .all #v[.comp 1 [] (.one 0) (.seq (!0)) (.cmp .Gv (!0) (.glob "LETTERS" (.str (zu 20))))])],gd}
abbrev ip:Def:={["thing"],1,#v[.ite (.not (.call "is_name" #v[!0])) #v[.raise (zu 31) "a name has 1 to 6 letters a to z"] .nil],gd}
abbrev cf:Def:={["floor","upwards","rows","column"],1,#v[.set 1 (.Ec (!0)),.own 2 (.lst .nil),.hJ (.one 3) (.sY (.blt .len #v[.sub (!0) (¬0)])) #v[.app 2 (.fg .join (.cst (.str "")) #v[.comp 1 [3] (.one 0) (.seq (!1)) (.sub (!0) (!1))])],.ret (.blt .tuple #v[.JH 2])],gd}
abbrev bI:Def:={["floor"],1,#v[.ret (.blt .tuple #v[.comp 1 [] (.one 0) (.seq (!0)) (.rev (!0))])],gd}
abbrev ff:Def:={["thing"],1,#v[.ret (.and (.ty .tuple (!0)) (.and (.cmp .eq (.blt .len #v[!0]) (¬2)) (.and (.call (zu 63) #v[.sub (!0) (¬0)]) (.call (zu 63) #v[.sub (!0) (¬1)]))))],gd}
abbrev cG:Def:={["floor","spot"],2,#v[.ret (.and (.ch .le .lt (¬0) (.sub (!1) (¬0)) (.blt .len #v[!0])) (.ch .le .lt (¬0) (.sub (!1) (¬1)) (.blt .len #v[.sub (!0) (.sub (!1) (¬0))])))],gd}
abbrev bf:Def:={["floor","spot"],2,#v[.ite (.not (.and (.call "is_spot" #v[!1]) (.call (zu 18) #v[!0,!1]))) #v[.raise (zu 57) "the spot is not on the floor"] .nil],gd}
abbrev dv:Def:={["thing"],1,#v[.ret (.and (.ty .str (!0)) (.and (.cmp .eq (.blt .len #v[!0]) (¬1)) (.cmp .Gv (!0) (.glob "SIGNS" (.str (zu 35))))))],gd}
abbrev dw:Def:={["sign"],1,#v[.ite (.not (.call (zu 49) #v[!0])) #v[.raise (zu 62) "this is no sign of a floor"] .nil],gd}
abbrev gj:Def:={["thing"],1,#v[.ite (.or (.not (.ty .str (!0))) (.not (.ch .le .le (¬1) (.blt .len #v[!0]) (.glob "LONGEST" (.int 12))))) #v[.ret (.cst (.bl gh))] .nil,.ret (.blt .all #v[.comp 1 [] (.one 0) (.seq (!0)) (.call (zu 49) #v[!0])])],gd}
abbrev dY:Def:={["thing"],1,#v[.ite (.or (.not (.ty .tuple (!0))) (.not (.ch .le .le (¬1) (.blt .len #v[!0]) (.glob "LONGEST" (.int 12))))) #v[.ret (.cst (.bl gh))] .nil,.ite (.not (.blt .all #v[.comp 1 [] (.one 0) (.seq (!0)) (.call "is_row" #v[!0])])) #v[.ret (.cst (.bl gh))] .nil,.ret (.blt .all #v[.comp 1 [0] (.one 0) (.seq (!0)) (.cmp .eq (.blt .len #v[!0]) (.blt .len #v[.sub (!1) (¬0)]))])],gd}
abbrev bX:Def:={["one","other"],2,#v[.ite (.cmp .ne (.blt .len #v[!0]) (.blt .len #v[!1])) #v[.raise "NoFit" "the floors have not as many rows"] .nil,.ite (.cmp .gt (.bin .add (.blt .len #v[.sub (!0) (¬0)]) (.blt .len #v[.sub (!1) (¬0)])) (.glob "LONGEST" (.int 12))) #v[.raise "NoFit" "there were more than 12 columns"] .nil,.ret (.blt .tuple #v[.comp 2 [] (.two 0 1) (.zip #v[!0,!1]) (.bin .add (!0) (!1))])],gd}
abbrev cm:Def:={["one","other"],2,#v[.ite (.cmp .ne (.blt .len #v[.sub (!0) (¬0)]) (.blt .len #v[.sub (!1) (¬0)])) #v[.raise "NoFit" "the floors have not as many columns"] .nil,.ite (.cmp .gt (.bin .add (.blt .len #v[!0]) (.blt .len #v[!1])) (.glob "LONGEST" (.int 12))) #v[.raise "NoFit" "there were more than 12 rows"] .nil,.ret (.bin .add (!0) (!1))],gd}
abbrev dy:Def:={["floor","spot","sign","signs","changed"],3,#v[.set 3 (.sub (!0) (.sub (!1) (¬0))),.set 4 (.bin .add (.bin .add (.slice (!3) .no (.some (.sub (!1) (¬1)))) (!2)) (.slice (!3) (.some (.bin .add (.sub (!1) (¬1)) (¬1))) .no)),.ret (.bin .add (.bin .add (.slice (!0) .no (.some (.sub (!1) (¬0)))) (.tup #v[!4])) (.slice (!0) (.some (.bin .add (.sub (!1) (¬0)) (¬1))) .no))],gd}
abbrev dt:Def:={["_law_script","_law_k"],2,#v[.ite (.cmp .lt (!1) (.blt .len #v[!0])) #v[.ret (.sub (!0) (!1))] .nil,.ite (.cmp .eq (!0) (.lst .nil)) #v[.ret (¬0)] .nil,.ret (.bin .add (.bin .mul (.sub (!0) (.bin .mod (!1) (.blt .len #v[!0]))) (¬31)) (!1))],gd}
abbrev du:Def:={["_law_script","_law_k","_law_many","_law_drawn"],3,#v[.set 3 (.bin .mod (.bin .mul (.bin .add (.call (zu 59) #v[!0,!1]) (.bin .mul (¬6151) (.bin .add (!1) (¬1)))) (¬40692)) (¬2147483399)),.ret (.bin .mod (.bin .mod (.bin .add (.bin .mul (!3) (!3)) (.bin .fdiv (!3) (¬31))) (¬2147483629)) (!2))],gd}
abbrev cy:Def:={["_law_script","_law_at","_law_most","_law_rows","_law_columns","_law_shuts","_law_top","_law_made_here","_law_row","_law_signs","_law_column","_law_drawn"],3,#v[.set 3 (.bin .add (¬1) (.call (zu 11) #v[!0,!1,!2])),.set 4 (.bin .add (¬1) (.call (zu 11) #v[!0,.bin .add (!1) (¬1),!2])),.set 5 (.sub (.lst #v[¬0,¬2,¬4,¬6]) (.call (zu 11) #v[!0,.bin .add (!1) (¬2),¬4])),.set 6 (.sub (.lst #v[¬1,¬2,¬3,¬10]) (.call (zu 11) #v[!0,.bin .add (!1) (¬3),¬4])),.own 7 (.lst .nil),.hJ (.one 8) (.sY (!3)) #v[.set 9 (.cst (.str "")),.hJ (.one 10) (.sY (!4)) #v[.set 11 (.call (zu 11) #v[!0,.bin .add (.bin .add (.bin .add (!1) (¬4)) (.bin .mul (!2) (!8))) (!10),.bin .mul (¬12) (!6)]),.set 9 (.bin .add (!9) (.ite (.cmp .lt (.bin .mod (!11) (¬12)) (!5)) (.cst (.str "#")) (.blt .str #v[.bin .fdiv (!11) (¬12)])))],.app 7 (!9)],.ret (.blt .tuple #v[.JH 7])],gd}
abbrev bq:Def:={["_law_script","_law_at","_law_names","_law_name","_law_way","_law_spot","_law_one","_law_other"],2,#v[.set 2 (.lst #v[.cst (.str "a"),.cst (.str "tu"),.cst (.str "bcdefg"),.cst (.str "vwxyz")]),.par 3 4 #v[.sub (!2) (.call (zu 11) #v[!0,!1,¬4]),.call (zu 11) #v[!0,.bin .add (!1) (¬1),¬10]],.ite (.cmp .lt (!4) (¬3)) #v[.ret (.tup #v[.cst (.str "lay"),!3,.call (zu 50) #v[!0,.bin .add (!1) (¬10),¬3]])] .nil,.ite (.cmp .lt (!4) (¬6)) #v[.ret (.tup #v[.sub (.lst #v[.cst (.str "take"),.cst (.str "turn"),.cst (.str (zu 27))]) (.bin .sub (!4) (¬3)),!3])] .nil,.ite (.cmp .lt (!4) (¬8)) #v[.set 5 (.tup #v[.call (zu 11) #v[!0,.bin .add (!1) (¬2),¬4],.call (zu 11) #v[!0,.bin .add (!1) (¬3),¬4]]),.ret (.tup #v[.cst (.str "sign"),!3,!5,.sub (.cst (.str "#0359x")) (.call (zu 11) #v[!0,.bin .add (!1) (¬4),¬6])])] .nil,.par 6 7 #v[.sub (!2) (.call (zu 11) #v[!0,.bin .add (!1) (¬5),¬4]),.sub (!2) (.call (zu 11) #v[!0,.bin .add (!1) (¬6),¬4])],.ret (.tup #v[.cst (.str "join"),!3,.cmp .eq (.call (zu 11) #v[!0,.bin .add (!1) (¬7),¬2]) (¬0),!6,!7])],gd}
abbrev aU:Def:={["_law_floor_here",zu 52,"_law_made_here","_law_row","_law_column","_law_line"],2,#v[.ite (.cmp .eq (.sub (!1) (¬0)) (.cst (.str "turn"))) #v[.set 2 (.blt .tuple #v[.comp 1 [0] (.one 0) (.sY (.blt .len #v[.sub (!0) (¬0)])) (.fg .join (.cst (.str "")) #v[.comp 1 [0] (.one 0) (.seq (.rev (!1))) (.sub (!0) (!1))])]),.ret (.tup #v[!2,!2])] .nil,.ite (.cmp .eq (.sub (!1) (¬0)) (.cst (.str (zu 27)))) #v[.set 2 (.blt .tuple #v[.comp 1 [] (.one 0) (.seq (!0)) (.rev (!0))]),.ret (.tup #v[!2,!2])] .nil,.Gz (.two 3 4) (.sub (!1) (¬2)),.ite (.or (.cmp .ge (!3) (.blt .len #v[!0])) (.cmp .ge (!4) (.blt .len #v[.sub (!0) (¬0)]))) #v[.ret (.tup #v[!0,.cst (.str "no spot")])] .nil,.ite (.cmp .eq (.sub (!1) (¬3)) (.cst (.str "x"))) #v[.ret (.tup #v[!0,.cst (.str "no sign")])] .nil,.set 5 (.sub (!0) (!3)),.set 5 (.bin .add (.bin .add (.slice (!5) .no (.some (!4))) (.sub (!1) (¬3))) (.slice (!5) (.some (.bin .add (!4) (¬1))) .no)),.ret (.tup #v[.bin .add (.bin .add (.slice (!0) .no (.some (!3))) (.tup #v[!5])) (.slice (!0) (.some (.bin .add (!3) (¬1))) .no),.tup #v[.sub (.sub (!0) (!3)) (!4)]])],gd}
abbrev ag:Def:={["_law_known",zu 52,"_law_rest","_law_needed","_law_one","_law_other","_law_made_here","_law_told_here"],2,#v[.vC 2 (.eQ 1 [0,1] (.one 0) (.seq (!0)) (.cmp .ne (!0) (.sub (!2) (¬1))) (.tup #v[!0,.sub (!1) (!0)])),.ite (.cmp .eq (.sub (!1) (¬0)) (.cst (.str "lay"))) #v[.put 2 (.sub (!1) (¬1)) (.sub (!1) (¬2)),.b9 2,.ret (.tup #v[!2,.cmp .Gv (.sub (!1) (¬1)) (!0)])] .nil,.set 3 (.ite (.cmp .ne (.sub (!1) (¬0)) (.cst (.str "join"))) (.lst #v[.sub (!1) (¬1)]) (.lst #v[.sub (!1) (¬3),.sub (!1) (¬4)])),.ite (.cmp .ne (.eQ 1 [0] (.one 0) (.seq (!3)) (.cmp .Ep (!0) (!1)) (!0)) (.lst .nil)) #v[.ret (.tup #v[!0,.cst (.str "no name")])] .nil,.ite (.cmp .eq (.sub (!1) (¬0)) (.cst (.str "take"))) #v[.b9 2,.ret (.tup #v[!2,.sub (!0) (.sub (!1) (¬1))])] .nil,.ite (.cmp .eq (.sub (!1) (¬0)) (.cst (.str "join"))) #v[.par 4 5 #v[.sub (!0) (.sub (!1) (¬3)),.sub (!0) (.sub (!1) (¬4))],.set 6 (.ite (.and (.not (.sub (!1) (¬2))) (.cmp .eq (.blt .len #v[.sub (!4) (¬0)]) (.blt .len #v[.sub (!5) (¬0)]))) (.bin .add (!4) (!5)) (.cst .aN)),.ite (.and (.sub (!1) (¬2)) (.cmp .eq (.blt .len #v[!4]) (.blt .len #v[!5]))) #v[.set 6 (.blt .tuple #v[.comp 2 [] (.two 0 1) (.zip #v[!4,!5]) (.bin .add (!0) (!1))])] .nil,.ite (.or (.cmp .is (!6) (.cst .aN)) (.or (.cmp .gt (.blt .len #v[!6]) (¬12)) (.cmp .gt (.blt .len #v[.sub (!6) (¬0)]) (¬12)))) #v[.ret (.tup #v[!0,.cst (.str "no fit")])] .nil,.set 7 (!6)] #v[.Gz (.two 6 7) (.call (zu 32) #v[.sub (!0) (.sub (!1) (¬1)),!1]),.ite (.ty .str (!7)) #v[.ret (.tup #v[!0,!7])] .nil],.put 2 (.sub (!1) (¬1)) (!6),.b9 2,.ret (.tup #v[!2,!7])],gd}
abbrev dX:D2:={["self"],1,(.cons (.tm "Atlas" 0 (zu 45) .lV)
 (.cons (.tm "Atlas" 0 "done" (.vf .nil))
 (.cons (.tm "Atlas" 0 "undone" (.vf .nil))
 .nil)))}
abbrev bj:D2:={["self","name"],2,(.cons (.p (.expr (.call (zu 47) (.cons (.var 1) .nil))))
 (.cons (.p (.ite (.cmp .Ep (.var 1) (.con (.fld 0 (zu 45))))
  (.cons (.raise (zu 31) "no floor has this name")
  .nil)
  .nil))
 (.cons (.p (.ret (.sub (.con (.fld 0 (zu 45))) (.var 1))))
 .nil)))}
abbrev bB:D2:={["self","name","floor"],3,(.cons (.ite (.pu (.cmp .is (.var 2) (.cst .aN)))
 (.cons (.ex (.nV (.fld 0 (zu 45)) (.var 1)))
 .nil)
 (.cons (.xE (.fld 0 (zu 45)) (.var 1) (.var 2))
 .nil))
 .nil)}
abbrev eY:D2:={["self","word","name","floor"],4,(.cons (.ex (.z8 (.fld 0 "done") (.pu (.tup (.cons (.var 1) (.cons (.var 2) (.cons (.get (.con (.fld 0 (zu 45))) (.var 2)) (.cons (.var 3) .nil))))))))
 (.cons (.tm "Atlas" 0 "undone" (.vf .nil))
 (.cons (.ex (.met (.var 0) "Atlas" "give" (.cons (.var 2) (.cons (.var 3) .nil))))
 .nil)))}
abbrev cR:D2:={["self","name","is_east","one","other","first","second","joined"],5,(.cons (.p (.expr (.call (zu 47) (.cons (.var 1) .nil))))
 (.cons (.set 5 (.met (.var 0) "Atlas" (zu 40) (.cons (.var 3) .nil)))
 (.cons (.set 6 (.met (.var 0) "Atlas" (zu 40) (.cons (.var 4) .nil)))
 (.cons (.p (.set 7 (.ite (.var 2) (.call (zu 43) (.cons (.var 5) (.cons (.var 6) .nil))) (.call (zu 53) (.cons (.var 5) (.cons (.var 6) .nil))))))
 (.cons (.ex (.met (.var 0) "Atlas" "step" (.cons (.cst (.str "join")) (.cons (.var 1) (.cons (.var 7) .nil)))))
 (.cons (.p (.ret (.var 7)))
 .nil))))))}
abbrev cx:D2:={["self","name","turned"],2,(.cons (.set 2 (.c1 (zu 23) (.cons (.met (.var 0) "Atlas" (zu 40) (.cons (.var 1) .nil)) .nil)))
 (.cons (.ex (.met (.var 0) "Atlas" "step" (.cons (.cst (.str "turn")) (.cons (.var 1) (.cons (.var 2) .nil)))))
 (.cons (.p (.ret (.var 2)))
 .nil)))}
abbrev bL:D2:={["self","name","mirrored"],2,(.cons (.set 2 (.c1 (zu 15) (.cons (.met (.var 0) "Atlas" (zu 40) (.cons (.var 1) .nil)) .nil)))
 (.cons (.ex (.met (.var 0) "Atlas" "step" (.cons (.cst (.str (zu 27))) (.cons (.var 1) (.cons (.var 2) .nil)))))
 (.cons (.p (.ret (.var 2)))
 .nil)))}
abbrev dr:D2:={["self","name","floor","had_one"],3,(.cons (.p (.ite (.not (.call (zu 46) (.cons (.var 2) .nil)))
 (.cons (.raise (zu 58) "this is no floor")
 .nil)
 .nil))
 (.cons (.p (.expr (.call (zu 47) (.cons (.var 1) .nil))))
 (.cons (.p (.set 3 (.cmp .Gv (.var 1) (.con (.fld 0 (zu 45))))))
 (.cons (.ex (.met (.var 0) "Atlas" "step" (.cons (.cst (.str "lay")) (.cons (.var 1) (.cons (.var 2) .nil)))))
 (.cons (.p (.ret (.var 3)))
 .nil)))))}
abbrev cw:D2:={["self","name","floor"],2,(.cons (.set 2 (.met (.var 0) "Atlas" (zu 40) (.cons (.var 1) .nil)))
 (.cons (.ex (.met (.var 0) "Atlas" "step" (.cons (.cst (.str "take")) (.cons (.var 1) (.cons (.cst .aN) .nil)))))
 (.cons (.p (.ret (.var 2)))
 .nil)))}
abbrev cS:D2:={["self","name","spot","sign","floor"],4,(.cons (.set 4 (.met (.var 0) "Atlas" (zu 40) (.cons (.var 1) .nil)))
 (.cons (.p (.expr (.call (zu 10) (.cons (.var 4) (.cons (.var 2) .nil)))))
 (.cons (.p (.expr (.call (zu 39) (.cons (.var 3) .nil))))
 (.cons (.ex (.met (.var 0) "Atlas" "step" (.cons (.cst (.str "sign")) (.cons (.var 1) (.cons (.call (zu 38) (.cons (.var 4) (.cons (.var 2) (.cons (.var 3) .nil)))) .nil)))))
 (.cons (.p (.ret (.sub (.sub (.var 4) (.sub (.var 2) (.cst (.int 0)))) (.sub (.var 2) (.cst (.int 1))))))
 .nil)))))}
abbrev c7:D2:={["self"],1,(.cons (.p (.ret (.tup (.cons (.blt .len (.cons (.con (.fld 0 "done")) .nil)) (.cons (.blt .len (.cons (.con (.fld 0 "undone")) .nil)) .nil)))))
 .nil)}
abbrev b8:D2:={["self"],1,(.cons (.p (.ret (.blt .sorted (.cons (.con (.fld 0 (zu 45))) .nil))))
 .nil)}
def mj:D2:={[],1000,.nil}
abbrev gK:D2:={["_law_atlas",zu 52],2,(.cons (.ite (.pu (.cmp .Gv (.sub (.var 1) (.cst (.int 0))) (.tup (.cons (.cst (.str "lay")) (.cons (.cst (.str "take")) .nil)))))
 (.cons (.ret (.JG (zu 54) [1,0] (.ite (.cmp .eq (.sub (.var 0) (.cst (.int 0))) (.cst (.str "lay"))) (.met (.var 1) "Atlas" "lay" (.cons (.sub (.var 0) (.cst (.int 1))) (.cons (.sub (.var 0) (.cst (.int 2))) .nil))) (.met (.var 1) "Atlas" "take" (.cons (.sub (.var 0) (.cst (.int 1))) .nil)))))
 .nil)
 .nil)
 (.cons (.ite (.pu (.cmp .eq (.sub (.var 1) (.cst (.int 0))) (.cst (.str "sign"))))
  (.cons (.ret (.JG (zu 54) [1,0] (.tup (.cons (.met (.var 1) "Atlas" "sign" (.cons (.sub (.var 0) (.cst (.int 1))) (.cons (.sub (.var 0) (.cst (.int 2))) (.cons (.sub (.var 0) (.cst (.int 3))) .nil)))) .nil))))
  .nil)
  .nil)
 (.cons (.ite (.pu (.cmp .eq (.sub (.var 1) (.cst (.int 0))) (.cst (.str "join"))))
  (.cons (.ret (.JG (zu 54) [1,0] (.met (.var 1) "Atlas" "join" (.cons (.sub (.var 0) (.cst (.int 1))) (.cons (.sub (.var 0) (.cst (.int 2))) (.cons (.sub (.var 0) (.cst (.int 3))) (.cons (.sub (.var 0) (.cst (.int 4))) .nil)))))))
  .nil)
  .nil)
 (.cons (.ret (.JG (zu 54) [1,0] (.ite (.cmp .eq (.sub (.var 0) (.cst (.int 0))) (.cst (.str "turn"))) (.met (.var 1) "Atlas" "turn" (.cons (.sub (.var 0) (.cst (.int 1))) .nil)) (.met (.var 1) "Atlas" (zu 27) (.cons (.sub (.var 0) (.cst (.int 1))) .nil)))))
 .nil))))}
abbrev c9:D2:={["_law_atlas"],1,(.cons (.ret (.dict (.nR 1 [0] (.one 0) (.met (.var 0) "Atlas" "names" .nil) (.tup (.cons (.pu (.var 0)) (.cons (.met (.var 1) "Atlas" (zu 40) (.cons (.var 0) .nil)) .nil))))))
 .nil)}
abbrev gY:D2:={["_law_script","_law_atlas","_law_known","_law_k",zu 52,"_law_due","_law_told_here"],1,(.cons (.par 1 2 (.cons (.new "Atlas" .nil) (.cons (.pu .Pc) .nil)))
 (.cons (.hJ (.one 3) (.sY (.cst (.int 16)))
  (.cons (.p (.set 4 (.call (zu 55) (.cons (.var 0) (.cons (.bin .add (.cst (.int 1000)) (.bin .mul (.cst (.int 60)) (.var 3))) .nil)))))
  (.cons (.p (.Gz (.two 2 5) (.call (zu 34) (.cons (.var 2) (.cons (.var 4) .nil)))))
  (.cons (.set 6 (.v9 (zu 19) (.cons (.var 1) (.cons (.var 4) .nil))))
  (.cons (.p (.ite (.or (.cmp .ne (.var 6) (.var 5)) (.cmp .ne (.ty .bool (.var 6)) (.ty .bool (.var 5))))
   (.cons (.ret (.cst (.bl gh)))
   .nil)
   .nil))
  (.cons (.ite (.or (.cmp .Iu (.v9 (zu 24) (.cons (.var 1) .nil)) (.pu (.var 2))) (.cmp .ne (.met (.var 1) "Atlas" "names" .nil) (.pu (.blt .sorted (.cons (.var 2) .nil)))))
   (.cons (.p (.ret (.cst (.bl gh))))
   .nil)
   .nil)
  .nil))))))
 (.cons (.ret (.cmp .eq (.sub (.met (.var 1) "Atlas" "marks" .nil) (.cst (.int 1))) (.pu (.cst (.int 0)))))
 .nil)))}
def T0:List (Str×Def):=[]
abbrev T1:List (Str×Def):=((zu 6:Str),eZ)::T0
abbrev T2:List (Str×Def):=((zu 63:Str),fv)::T1
abbrev T3:List (Str×Def):=(("is_name":Str),lU)::T2
abbrev T4:List (Str×Def):=((zu 47:Str),ip)::T3
abbrev T5:List (Str×Def):=((zu 23:Str),cf)::T4
abbrev T6:List (Str×Def):=((zu 15:Str),bI)::T5
abbrev T7:List (Str×Def):=(("is_spot":Str),ff)::T6
abbrev T8:List (Str×Def):=((zu 18:Str),cG)::T7
abbrev T9:List (Str×Def):=((zu 10:Str),bf)::T8
abbrev O7:List (Str×Def):=((zu 49:Str),dv)::T9
abbrev Ui:List (Str×Def):=((zu 39:Str),dw)::O7
abbrev Uj:List (Str×Def):=(("is_row":Str),gj)::Ui
abbrev Xj:List (Str×Def):=((zu 46:Str),dY)::Uj
abbrev Xk:List (Str×Def):=((zu 43:Str),bX)::Xj
abbrev Xl:List (Str×Def):=((zu 53:Str),cm)::Xk
abbrev Xm:List (Str×Def):=((zu 38:Str),dy)::Xl
abbrev Uk:List (Str×Def):=((zu 59:Str),dt)::Xm
abbrev S9:List (Str×Def):=((zu 11:Str),du)::Uk
abbrev PX:List (Str×Def):=((zu 50:Str),cy)::S9
abbrev Xn:List (Str×Def):=((zu 55:Str),bq)::PX
abbrev Ul:List (Str×Def):=((zu 32:Str),aU)::Xn
abbrev rD:List (Str×Def):=((zu 34:Str),ag)::Ul
def U0:List (Str×D2):=[]
abbrev U1:List (Str×D2):=((zu 66:Str),dX)::U0
abbrev U2:List (Str×D2):=((zu 0:Str),bj)::U1
abbrev U3:List (Str×D2):=((zu 21:Str),bB)::U2
abbrev U4:List (Str×D2):=((zu 12:Str),eY)::U3
abbrev U5:List (Str×D2):=((zu 26:Str),cR)::U4
abbrev U6:List (Str×D2):=((zu 29:Str),cx)::U5
abbrev U7:List (Str×D2):=((zu 17:Str),bL)::U6
abbrev U8:List (Str×D2):=((zu 56:Str),dr)::U7
abbrev U9:List (Str×D2):=((zu 30:Str),cw)::U8
abbrev Ta:List (Str×D2):=((zu 25:Str),cS)::U9
abbrev O8:List (Str×D2):=((zu 60:Str),c7)::Ta
abbrev Y1:List (Str×D2):=((zu 42:Str),b8)::O8
abbrev yd:List (Str×D2):=((zu 54:Str),mj)::Y1
abbrev BO:List (Str×D2):=((zu 19:Str),gK)::yd
abbrev Y2:List (Str×D2):=((zu 24:Str),c9)::BO
noncomputable abbrev F1:Sg->aP:=λs=>aI (aV s) rD
noncomputable abbrev F2:cM:=ax F1 Y2
abbrev AT(fs a:List (Str×PV))(r:Sg)(u:Nat):Sg:={"Atlas",[(zu 45,.obj 1),("done",.obj 2),("undone",.obj u)]}::{"#d",fs}::{"#l",a}::r
abbrev gV(z:Str)(fs:List (Str×PV)):Option PV:=bJ (fs.map (·.1)) (fs.map (·.2)) z
abbrev gE(z:Str)(fs:List (Str×PV)):PV:=(gV z fs).getD .aN
def Sy(U:cM)(w z:Str)(p:PV)(fs a:List (Str×PV))(r:Sg)(u:Nat):dC F1 U (.ex (.z8 (.fld 0 "done") (.pu (.tup (.cons (.var 1) (.cons (.var 2) (.cons (.get (.con (.fld 0 (zu 45))) (.var 2)) (.cons (.var 3) .nil)))))))) [.val (.obj 0),.val (.str w),.val (.str z),.val p] (AT fs a r u)=
 (if a.length<bS then Rs.ok PV.aN (AT fs (a++[(("":Str),PV.tup [.str w,.str z,gE z fs,p])]) r u) else .bad).bind λZ s=>.ok (.nx [.val (.obj 0),.val (.str w),.val (.str z),.val p]) s:=by kernel_rfl
def Sz(U:cM)(a b c:Slot)(fs d:List (Str×PV))(r:Sg)(u:Nat):dC F1 U (.tm "Atlas" 0 "undone" (.vf .nil)) [.val (.obj 0),a,b,c] (AT fs d r u)=.ok (.nx [.val (.obj 0),a,b,c]) (AT fs d (r++[{"#l",[]}]) (r.length+3)):=by kernel_rfl
def xG{d:D2}{as:List PV}{s:Sg}{e1:Sl}{U:List (Str×D2)}(a:F2 f as s=cF F1 (ax F1 U) d as s)(h:aJ F1 (ax F1 U) d.body (gR d as) s=.ok (.nx e1) s1)(hn:(as.length==d.np)=gf):F2 f as s=.ok .aN s1:=by rw [a];unfold cF;rw [if_pos hn,h];rfl
def AG(U:cM)(z:Str)(xs:List PV)(fs a:List (Str×PV))(r:Sg)(u:Nat):dC F1 U (.xE (.fld 0 (zu 45)) (.var 1) (.var 2)) [.val (.obj 0),.val (.str z),.val (.tup xs)] (AT fs a r u)=
 (if fs.length<bS then Rs.ok PV.aN (AT (putD z (.tup xs) fs) a r u) else .bad).bind λZ s=>.ok (.nx [.val (.obj 0),.val (.str z),.val (.tup xs)]) s:=by kernel_rfl
def wX(U:cM)(z:Str)(fs a:List (Str×PV))(r:Sg)(u:Nat):dC F1 U (.ex (.nV (.fld 0 (zu 45)) (.var 1))) [.val (.obj 0),.val (.str z),.val .aN] (AT fs a r u)=
 (match gV z fs with|some p=>Rs.ok p (AT (dQ z fs) a r u)|none=>.bad).bind λZ s=>.ok (.nx [.val (.obj 0),.val (.str z),.val .aN]) s:=by kernel_rfl
def AE(z:Str)(xs:List PV)(s:Sg):aJ F1 (ax F1 U2) bB.body [.val (.obj 0),.val (.str z),.val (.tup xs)] s=(aJ F1 (ax F1 U2) (.cons (.xE (.fld 0 (zu 45)) (.var 1) (.var 2)) .nil) [.val (.obj 0),.val (.str z),.val (.tup xs)] s).bind λf s=>Bv f s (aJ F1 (ax F1 U2) .nil):=by kernel_rfl
def AF(z:Str)(s:Sg):aJ F1 (ax F1 U2) bB.body [.val (.obj 0),.val (.str z),.val .aN] s=(aJ F1 (ax F1 U2) (.cons (.ex (.nV (.fld 0 (zu 45)) (.var 1))) .nil) [.val (.obj 0),.val (.str z),.val .aN] s).bind λf s=>Bv f s (aJ F1 (ax F1 U2) .nil):=by kernel_rfl
def Kd{st:S2}{s:Sg}:aJ F1 U (.cons st .nil) env s=(dC F1 U st env s).bind λf s=>Bv f s (aJ F1 U .nil):=by rw [aJ]
set_option backward.match.sparseCases false
def j6{s:Sg}:aJ F1 U .nil env s=.ok (.nx env) s:=by rw [aJ]
set_option backward.match.sparseCases true
def iB(z:Str)(xs:List PV)(fs a:List (Str×PV))(r:Sg)(u:Nat)(hl:fs.length<bS):F2 (zu 21) [.obj 0,.str z,.tup xs] (AT fs a r u)=.ok .aN (AT (putD z (.tup xs) fs) a r u):=by
 have b:∀as s,F2 (zu 21) as s=cF F1 (ax F1 U2) bB as s:=λas s=>by kernel_rfl
 refine xG (b _ _) (e1:=[.val (.obj 0),.val (.str z),.val (.tup xs)]) ?_ rfl;show aJ F1 (ax F1 U2) bB.body [.val (.obj 0),.val (.str z),.val (.tup xs)] _=_;rw [AE,Kd,AG,if_pos hl];simp! [Rs.bind,Bv,j6]
def AD(z:Str)(p:PV)(fs a:List (Str×PV))(r:Sg)(u:Nat)(h:gV z fs=fP p):F2 (zu 21) [.obj 0,.str z,.aN] (AT fs a r u)=.ok .aN (AT (dQ z fs) a r u):=by
 have b:∀as s,F2 (zu 21) as s=cF F1 (ax F1 U2) bB as s:=λas s=>by kernel_rfl
 refine xG (b _ _) (e1:=[.val (.obj 0),.val (.str z),.val .aN]) ?_ rfl;show aJ F1 (ax F1 U2) bB.body [.val (.obj 0),.val (.str z),.val .aN] _=_;rw [AF,Kd,wX,h];simp! [Rs.bind,Bv,j6]
def aX{st:S2}{a:pK}{e1:Sl}{s:Sg}(h:dC F1 U st env s=.ok (.nx e1) s1):aJ F1 U (.cons st a) env s=aJ F1 U a e1 s1:=by rw [aJ,h];rfl
def SA(w z:Str)(p:PV)(s:Sg)(c:g8 s 0 "Atlas"=gf)(r:Sg)(h:F2 (zu 21) [.obj 0,.str z,p] s=.ok .aN r):dC F1 (ax F1 U3) (.ex (.met (.var 0) "Atlas" "give" (.cons (.var 2) (.cons (.var 3) .nil)))) [.val (.obj 0),.val (.str w),.val (.str z),.val p] s=.ok (.nx [.val (.obj 0),.val (.str w),.val (.str z),.val p]) r:=by
 have e:dC F1 (ax F1 U3) (.ex (.met (.var 0) "Atlas" "give" (.cons (.var 2) (.cons (.var 3) .nil)))) [.val (.obj 0),.val (.str w),.val (.str z),.val p] s=(if g8 s 0 "Atlas" then ax F1 U3 (zu 21) [.obj 0,.str z,p] s else .bad).bind λZ s=>.ok (.nx [.val (.obj 0),.val (.str w),.val (.str z),.val p]) s:=by kernel_rfl
 have a:ax F1 U3 (zu 21) [.obj 0,.str z,p] s=F2 (zu 21) [.obj 0,.str z,p] s:=by kernel_rfl
 rw [e,if_pos c,a,h];rfl
def ja(w z:Str)(p:PV)(fs fs' a:List (Str×PV))(r:Sg)(u:Nat)(hd:a.length<bS)(b:∀a r u,F2 (zu 21) [.obj 0,.str z,p] (AT fs a r u)=.ok .aN (AT fs' a r u)):F2 (zu 12) [.obj 0,.str w,.str z,p] (AT fs a r u)=.ok .aN (AT fs' (a++[(("":Str),PV.tup [.str w,.str z,gE z fs,p])]) (r++[{"#l",[]}]) (r.length+3)):=by
 have c:∀as s,F2 (zu 12) as s=cF F1 (ax F1 U3) eY as s:=λas s=>by kernel_rfl
 refine xG (c _ _) (e1:=[.val (.obj 0),.val (.str w),.val (.str z),.val p]) ?_ rfl;show aJ F1 (ax F1 U3) (.cons _ (.cons _ (.cons _ .nil))) [.val (.obj 0),.val (.str w),.val (.str z),.val p] _=_;rw [aX (e1:=[.val (.obj 0),.val (.str w),.val (.str z),.val p]) (s1:=AT fs (a++[(("":Str),PV.tup [.str w,.str z,gE z fs,p])]) r u) (by rw [Sy,if_pos hd];rfl),aX (Sz _ _ _ _ _ _ _ _),aX (SA _ _ _ _ (by kernel_rfl) _ (b _ _ _)),j6]
abbrev iI:List Str:=["a","tu","bcdefg","vwxyz"]
def need(U:cM)(z:Str)(hz:z∈iI)(r:List Slot)(s:Sg)(b:r.any Slot.aZ=gh):dC F1 U (.p (.expr (.call (zu 47) (.cons (.var 1) .nil)))) (.val (.obj 0)::.val (.str z)::r) s=.ok (.nx (.val (.obj 0)::.val (.str z)::r)) s:=by
 have a:dC F1 U (.p (.expr (.call (zu 47) (.cons (.var 1) .nil)))) (.val (.obj 0)::.val (.str z)::r) s=Rs.of (if r.any Slot.aZ then Res.bad else Res.ok (Fl.nx (.val (.obj 0)::.val (.str z)::r))) s:=by simp! [iI,ef,List.not_mem_nil,or_false] at hz;rcases hz with rfl|rfl|rfl|rfl<;>kernel_rfl
 rw [a,b];rfl
def XM(U:cM)(z:Str)(fs a:List (Str×PV))(r:Sg)(u:Nat):dC F1 U (.p (.ite (.cmp .Ep (.var 1) (.con (.fld 0 (zu 45)))) (.cons (.raise (zu 31) "no floor has this name") .nil) .nil)) [.val (.obj 0),.val (.str z)] (AT fs a r u)=if(!(dN (fs.map (·.1)) z))=gf then Rs.exc (zu 31) (AT fs a r u) else .ok (.nx [.val (.obj 0),.val (.str z)]) (AT fs a r u):=by
 have e:dC F1 U (.p (.ite (.cmp .Ep (.var 1) (.con (.fld 0 (zu 45)))) (.cons (.raise (zu 31) "no floor has this name") .nil) .nil)) [.val (.obj 0),.val (.str z)] (AT fs a r u)=Rs.of ((if(!(dN (fs.map (·.1)) z))=gf then Res.exc (zu 31) else .ok (Fl.nx [.val (.obj 0),.val (.str z)])).bind clean) (AT fs a r u):=by kernel_rfl
 rw [e];cases dN (fs.map (·.1)) z<;>rfl
def Zm(U:cM)(z:Str)(fs a:List (Str×PV))(r:Sg)(u:Nat):dC F1 U (.p (.ret (.sub (.con (.fld 0 (zu 45))) (.var 1)))) [.val (.obj 0),.val (.str z)] (AT fs a r u)=Rs.of (((Res.of (gV z fs)).bind λp=>Res.ok (Fl.rt p)).bind clean) (AT fs a r u):=by kernel_rfl
theorem uY:∀{ks:List Str} {vs:List PV} {z:Str} {p:PV},bJ ks vs z=fP p->dN ks z=gf
 |[],_,z,p,h=>by unfold bJ at h;cases h
 |k::ks,[],z,p,h=>by unfold bJ at h;cases h
 |k::ks,v::vs,z,p,h=>by
  unfold bJ at h;unfold dN;rw [List.any_cons];by_cases e:k=z
  .rw [zzh e];rfl
  .rw [if_neg e] at h;have:=uY h;unfold dN at this;rw [this,Bool.or_true]
theorem has_none:∀{ks:List Str} {vs:List PV} {z:Str},ks.length=vs.length->bJ ks vs z=gd->dN ks z=gh
 |[],_,z,_,_=>rfl|k::ks,[],z,l,h=>by cases l
 |k::ks,v::vs,z,l,h=>by
  unfold bJ at h;unfold dN;rw [List.any_cons];by_cases e:k=z
  .rw [if_pos e] at h;cases h
  .rw [if_neg e] at h;have:=has_none (zx6 l) h;unfold dN at this;rw [this,zz0 e];rfl
def pQ{st:S2}{a:pK}{s:Sg}(h:dC F1 U st env s=.exc c s1):aJ F1 U (.cons st a) env s=.exc c s1:=by rw [aJ,h];rfl
def fY{st:S2}{a:pK}{s:Sg}(h:dC F1 U st env s=.ok (.rt p) s1):aJ F1 U (.cons st a) env s=.ok (.rt p) s1:=by rw [aJ,h];rfl
def cY{d:D2}{as:List PV}{s:Sg}{U:List (Str×D2)}(a:F2 f as s=cF F1 (ax F1 U) d as s)(h:aJ F1 (ax F1 U) d.body (gR d as) s=.ok (.rt p) s1)(hn:(as.length==d.np)=gf):F2 f as s=.ok p s1:=by rw [a];unfold cF;rw [if_pos hn,h];rfl
def fZ{d:D2}{as:List PV}{s:Sg}{U:List (Str×D2)}(a:F2 f as s=cF F1 (ax F1 U) d as s)(h:aJ F1 (ax F1 U) d.body (gR d as) s=.exc c s1)(hn:(as.length==d.np)=gf):F2 f as s=.exc c s1:=by rw [a];unfold cF;rw [if_pos hn,h];rfl
def bw(z:Str)(hz:z∈iI)(p:PV)(fs a:List (Str×PV))(r:Sg)(u:Nat)(h:gV z fs=fP p):F2 (zu 0) [.obj 0,.str z] (AT fs a r u)=.ok p (AT fs a r u):=by
 have b:∀as s,F2 (zu 0) as s=cF F1 (ax F1 U1) bj as s:=λas s=>by kernel_rfl
 refine cY (b _ _) ?_ rfl;show aJ F1 (ax F1 U1) (.cons _ (.cons _ (.cons _ .nil))) [.val (.obj 0),.val (.str z)] _=_;rw [aX (need _ z hz [] _ rfl),aX (e1:=[.val (.obj 0),.val (.str z)]) (s1:=AT fs a r u) (by rw [XM,uY h];rfl),fY (p:=p) (s1:=AT fs a r u) (by rw [Zm,h];rfl)]
def dZ(z:Str)(hz:z∈iI)(fs a:List (Str×PV))(r:Sg)(u:Nat)(h:gV z fs=gd):F2 (zu 0) [.obj 0,.str z] (AT fs a r u)=.exc (zu 31) (AT fs a r u):=by
 have b:∀as s,F2 (zu 0) as s=cF F1 (ax F1 U1) bj as s:=λas s=>by kernel_rfl
 refine fZ (b _ _) ?_ rfl;show aJ F1 (ax F1 U1) (.cons _ (.cons _ (.cons _ .nil))) [.val (.obj 0),.val (.str z)] _=_;rw [aX (need _ z hz [] _ rfl),pQ (c:=(zu 31)) (s1:=AT fs a r u) (by rw [XM,has_none (by simp) h];rfl)]
def bD{as:Es}{s:Sg}(a:env[0]?=fP (.val (.obj 0)))(b:g8 s 0 "Atlas"=gf)(c:br (F1 s) as env=.ok ps):bC F1 U (.met (.var 0) "Atlas" m as) env s=U (mP "Atlas" m) (.obj 0::ps) s:=by
 have e:aB (F1 s) (.var 0) env=.ok (.obj 0):=by rw [aB,a];rfl
 rw [bC,e];show(if g8 s 0 "Atlas"=gf then(Rs.of (br (F1 s) as env) s).bind λps s=>U (mP "Atlas" m) (.obj 0::ps) s else .bad)=_;rw [if_pos b,c];rfl
def eS{i:Nat}{x:X2}{s:Sg}(h:bC F1 U x env s=.ok p s1):dC F1 U (.set i x) env s=.ok (.nx (env.set i (.val p))) s1:=by rw [dC,h];rfl
def i8{i:Nat}{x:X2}{s:Sg}(h:bC F1 U x env s=.exc c s1):dC F1 U (.set i x) env s=.exc c s1:=by rw [dC,h];rfl
def qC{x:X2}{s:Sg}(h:bC F1 U x env s=.ok p s1):dC F1 U (.ex x) env s=.ok (.nx env) s1:=by rw [dC,h];rfl
def dJ(fs a:List (Str×PV))(r:Sg)(u:Nat):g8 (AT fs a r u) 0 "Atlas"=gf:=by kernel_rfl
def BF(z:Str)(hz:z∈iI)(p:PV)(fs a:List (Str×PV))(r:Sg)(u:Nat)(h:gV z fs=fP p)(hd:a.length<bS):F2 (zu 30) [.obj 0,.str z] (AT fs a r u)=.ok p (AT (dQ z fs) (a++[(("":Str),PV.tup [.str "take",.str z,p,.aN])]) (r++[{"#l",[]}]) (r.length+3)):=by
 have b:∀as s,F2 (zu 30) as s=cF F1 (ax F1 U8) cw as s:=λas s=>by kernel_rfl
 have g1:∀as s,ax F1 U8 (zu 0) as s=F2 (zu 0) as s:=λas s=>by kernel_rfl
 have g2:∀as s,ax F1 U8 (zu 12) as s=F2 (zu 12) as s:=λas s=>by kernel_rfl
 refine cY (b _ _) ?_ rfl;show aJ F1 (ax F1 U8) (.cons _ (.cons _ (.cons _ .nil))) [.val (.obj 0),.val (.str z),.no] _=_;rw [aX (eS (p:=p) (s1:=AT fs a r u) ((bD rfl (dJ _ _ _ _) (ps:=[.str z]) (by kernel_rfl)).trans ((g1 _ _).trans (bw z hz p fs a r u h))))];show aJ F1 (ax F1 U8) (.cons _ (.cons _ .nil)) [.val (.obj 0),.val (.str z),.val p] _=_;have e:gE z fs=p:=by unfold gE;rw [h];rfl
 rw [aX (qC ((bD rfl (dJ _ _ _ _) (ps:=[.str "take",.str z,.aN]) (by kernel_rfl)).trans ((g2 _ _).trans (ja "take" z .aN fs (dQ z fs) a r u hd λa r u=>AD z p fs a r u h)))),e];exact fY (by kernel_rfl)
def BE(z:Str)(hz:z∈iI)(fs a:List (Str×PV))(r:Sg)(u:Nat)(h:gV z fs=gd):F2 (zu 30) [.obj 0,.str z] (AT fs a r u)=.exc (zu 31) (AT fs a r u):=by
 have b:∀as s,F2 (zu 30) as s=cF F1 (ax F1 U8) cw as s:=λas s=>by kernel_rfl
 have g1:∀as s,ax F1 U8 (zu 0) as s=F2 (zu 0) as s:=λas s=>by kernel_rfl
 refine fZ (b _ _) ?_ rfl;show aJ F1 (ax F1 U8) (.cons _ (.cons _ (.cons _ .nil))) [.val (.obj 0),.val (.str z),.no] _=_;exact pQ (i8 ((bD rfl (dJ _ _ _ _) (ps:=[.str z]) (by kernel_rfl)).trans ((g1 _ _).trans (dZ z hz fs a r u h))))
def VP{F:aP}{a:Slot}{b:Slot}(h:F (zu 46) [.tup xs]=.ok (.bl gf)):dH F (.ite (.not (.call (zu 46) (.cons (.var 2) .nil))) (.cons (.raise (zu 58) "this is no floor") .nil) .nil) [.val (.obj 0),a,.val (.tup xs),b]=.ok (.nx [.val (.obj 0),a,.val (.tup xs),b]):=by simp! [dH,bM,aB,br,List.getElem?_cons_zero,List.getElem?_cons_succ,iL,Res.bind,h,wy,Bool.not_true,if_neg zzf]
def EG{st:Ci.S}{e1:Sl}{s:Sg}(h:dH (F1 s) st env=.ok (.nx e1))(n:e1.any Slot.aZ=gh):dC F1 U (.p st) env s=.ok (.nx e1) s:=by rw [dC,h];show Rs.of (if e1.any Slot.aZ then Res.bad else Res.ok (Fl.nx e1)) s=_;rw [n];rfl
def Nf(z:Str)(hz:z∈iI)(xs:List PV)(fs a:List (Str×PV))(r:Sg)(u:Nat)(b:∀s,F1 s (zu 46) [.tup xs]=.ok (.bl gf))(hl:fs.length<bS)(hd:a.length<bS):F2 (zu 56) [.obj 0,.str z,.tup xs] (AT fs a r u)=.ok (.bl (dN (fs.map (·.1)) z)) (AT (putD z (.tup xs) fs) (a++[(("":Str),PV.tup [.str "lay",.str z,gE z fs,.tup xs])]) (r++[{"#l",[]}]) (r.length+3)):=by
 have c:∀as s,F2 (zu 56) as s=cF F1 (ax F1 U7) dr as s:=λas s=>by kernel_rfl
 have g2:∀as s,ax F1 U7 (zu 12) as s=F2 (zu 12) as s:=λas s=>by kernel_rfl
 refine cY (c _ _) ?_ rfl;show aJ F1 (ax F1 U7) (.cons _ (.cons _ (.cons _ (.cons _ (.cons _ .nil))))) [.val (.obj 0),.val (.str z),.val (.tup xs),.no] _=_
 rw [aX (EG (VP (b _)) rfl),aX (need _ z hz [.val (.tup xs),.no] _ rfl),aX (e1:=[.val (.obj 0),.val (.str z),.val (.tup xs),.val (.bl (dN (fs.map (·.1)) z))]) (s1:=AT fs a r u) (by kernel_rfl),
  aX (qC ((bD rfl (dJ _ _ _ _) (ps:=[.str "lay",.str z,.tup xs]) (by kernel_rfl)).trans ((g2 _ _).trans (ja "lay" z (.tup xs) fs (putD z (.tup xs) fs) a r u hd λa r u=>iB z xs fs a r u hl))))]
 exact fY (by kernel_rfl)
def J7{x:X2}{s:Sg}(h:bC F1 U x env s=.ok p s1)(b:F1 s1 f [p]=.ok q):bC F1 U (.c1 f (.cons x .nil)) env s=.ok q s1:=by rw [bC,eK,h];show(((eK F1 U .nil env s1).bind λa s=>Rs.ok (p::a) s)).bind (λa s=>Rs.of (F1 s f a) s)=_;rw [eK];show Rs.of (F1 s1 f [p]) s1=_;rw [b];rfl
def Cf{x:X2}{s:Sg}(h:bC F1 U x env s=.exc c s1):bC F1 U (.c1 f (.cons x .nil)) env s=.exc c s1:=by rw [bC,eK,h];rfl
def JK(z:Str)(hz:z∈iI)(xs ys:List PV)(fs a:List (Str×PV))(r:Sg)(u:Nat)(h:gV z fs=fP (.tup xs))(b:∀s,F1 s (zu 23) [.tup xs]=.ok (.tup ys))(hl:fs.length<bS)(hd:a.length<bS):F2 (zu 29) [.obj 0,.str z] (AT fs a r u)=.ok (.tup ys) (AT (putD z (.tup ys) fs) (a++[(("":Str),PV.tup [.str "turn",.str z,.tup xs,.tup ys])]) (r++[{"#l",[]}]) (r.length+3)):=by
 have c:∀as s,F2 (zu 29) as s=cF F1 (ax F1 U5) cx as s:=λas s=>by kernel_rfl
 have g1:∀as s,ax F1 U5 (zu 0) as s=F2 (zu 0) as s:=λas s=>by kernel_rfl
 have g2:∀as s,ax F1 U5 (zu 12) as s=F2 (zu 12) as s:=λas s=>by kernel_rfl
 refine cY (c _ _) ?_ rfl;show aJ F1 (ax F1 U5) (.cons _ (.cons _ (.cons _ .nil))) [.val (.obj 0),.val (.str z),.no] _=_;rw [aX (eS (J7 ((bD rfl (dJ _ _ _ _) (ps:=[.str z]) (by kernel_rfl)).trans ((g1 _ _).trans (bw z hz _ fs a r u h))) (b _)))];show aJ F1 (ax F1 U5) (.cons _ (.cons _ .nil)) [.val (.obj 0),.val (.str z),.val (.tup ys)] _=_;have e:gE z fs=.tup xs:=by unfold gE;rw [h];rfl
 rw [aX (qC ((bD rfl (dJ _ _ _ _) (ps:=[.str "turn",.str z,.tup ys]) (by kernel_rfl)).trans ((g2 _ _).trans (ja "turn" z (.tup ys) fs (putD z (.tup ys) fs) a r u hd λa r u=>iB z ys fs a r u hl)))),e];exact fY (by kernel_rfl)
def BI(z:Str)(hz:z∈iI)(fs a:List (Str×PV))(r:Sg)(u:Nat)(h:gV z fs=gd):F2 (zu 29) [.obj 0,.str z] (AT fs a r u)=.exc (zu 31) (AT fs a r u):=by
 have b:∀as s,F2 (zu 29) as s=cF F1 (ax F1 U5) cx as s:=λas s=>by kernel_rfl
 have g1:∀as s,ax F1 U5 (zu 0) as s=F2 (zu 0) as s:=λas s=>by kernel_rfl
 refine fZ (b _ _) ?_ rfl;show aJ F1 (ax F1 U5) (.cons _ (.cons _ (.cons _ .nil))) [.val (.obj 0),.val (.str z),.no] _=_;exact pQ (i8 (Cf ((bD rfl (dJ _ _ _ _) (ps:=[.str z]) (by kernel_rfl)).trans ((g1 _ _).trans (dZ z hz fs a r u h)))))
def A8(z:Str)(hz:z∈iI)(xs ys:List PV)(fs a:List (Str×PV))(r:Sg)(u:Nat)(h:gV z fs=fP (.tup xs))(b:∀s,F1 s (zu 15) [.tup xs]=.ok (.tup ys))(hl:fs.length<bS)(hd:a.length<bS):F2 (zu 17) [.obj 0,.str z] (AT fs a r u)=.ok (.tup ys) (AT (putD z (.tup ys) fs) (a++[(("":Str),PV.tup [.str (zu 27),.str z,.tup xs,.tup ys])]) (r++[{"#l",[]}]) (r.length+3)):=by
 have c:∀as s,F2 (zu 17) as s=cF F1 (ax F1 U6) bL as s:=λas s=>by kernel_rfl
 have g1:∀as s,ax F1 U6 (zu 0) as s=F2 (zu 0) as s:=λas s=>by kernel_rfl
 have g2:∀as s,ax F1 U6 (zu 12) as s=F2 (zu 12) as s:=λas s=>by kernel_rfl
 refine cY (c _ _) ?_ rfl;show aJ F1 (ax F1 U6) (.cons _ (.cons _ (.cons _ .nil))) [.val (.obj 0),.val (.str z),.no] _=_;rw [aX (eS (J7 ((bD rfl (dJ _ _ _ _) (ps:=[.str z]) (by kernel_rfl)).trans ((g1 _ _).trans (bw z hz _ fs a r u h))) (b _)))];show aJ F1 (ax F1 U6) (.cons _ (.cons _ .nil)) [.val (.obj 0),.val (.str z),.val (.tup ys)] _=_;have e:gE z fs=.tup xs:=by unfold gE;rw [h];rfl
 rw [aX (qC ((bD rfl (dJ _ _ _ _) (ps:=[.str (zu 27),.str z,.tup ys]) (by kernel_rfl)).trans ((g2 _ _).trans (ja (zu 27) z (.tup ys) fs (putD z (.tup ys) fs) a r u hd λa r u=>iB z ys fs a r u hl)))),e];exact fY (by kernel_rfl)
def vj(z:Str)(hz:z∈iI)(fs a:List (Str×PV))(r:Sg)(u:Nat)(h:gV z fs=gd):F2 (zu 17) [.obj 0,.str z] (AT fs a r u)=.exc (zu 31) (AT fs a r u):=by
 have b:∀as s,F2 (zu 17) as s=cF F1 (ax F1 U6) bL as s:=λas s=>by kernel_rfl
 have g1:∀as s,ax F1 U6 (zu 0) as s=F2 (zu 0) as s:=λas s=>by kernel_rfl
 refine fZ (b _ _) ?_ rfl;show aJ F1 (ax F1 U6) (.cons _ (.cons _ (.cons _ .nil))) [.val (.obj 0),.val (.str z),.no] _=_;exact pQ (i8 (Cf ((bD rfl (dJ _ _ _ _) (ps:=[.str z]) (by kernel_rfl)).trans ((g1 _ _).trans (dZ z hz fs a r u h)))))
def xx{e:Ci.E}{s:Sg}(h:aB (F1 s) e env=.ok q)(n:env.any Slot.aZ=gh):dC F1 U (.p (.expr e)) env s=.ok (.nx env) s:=EG (by rw [dH,h];rfl) n
def Kx{e:Ci.E}{s:Sg}(h:aB (F1 s) e env=.exc c):dC F1 U (.p (.expr e)) env s=.exc c s:=by rw [dC,dH,h];rfl
def nF{F:aP}{as:Es}{r:Res PV}(a:br F as env=.ok ps)(h:F f ps=r):aB F (.call f as) env=r:=by rw [aB,a];exact h
def Ky{e:Ci.E}{s:Sg}(h:aB (F1 s) e env=.ok q):dC F1 U (.p (.ret e)) env s=.ok (.rt q) s:=by rw [dC,dH,h];rfl
section
variable(z:Str)(hz:z∈iI)(xs ys:List PV)(a b:Int)(c:Str)(fs dn:List (Str×PV))(r:Sg)(u:Nat)
noncomputable abbrev mW(a b:Int):PV:=.tup [.int a,.int b]
def TL(as:List PV)(s:Sg):F2 (zu 25) as s=cF F1 (ax F1 U9) cS as s:=by kernel_rfl
def Sq(as:List PV)(s:Sg):ax F1 U9 (zu 0) as s=F2 (zu 0) as s:=by kernel_rfl
def sg2(as:List PV)(s:Sg):ax F1 U9 (zu 12) as s=F2 (zu 12) as s:=by kernel_rfl
include hz in
def Bw(h:gV z fs=gd):F2 (zu 25) [.obj 0,.str z,mW a b,.str c] (AT fs dn r u)=.exc (zu 31) (AT fs dn r u):=by refine fZ (TL _ _) ?_ rfl;show aJ F1 (ax F1 U9) (.cons _ (.cons _ (.cons _ (.cons _ (.cons _ .nil))))) [.val (.obj 0),.val (.str z),.val (mW a b),.val (.str c),.no] _=_;exact pQ (i8 ((bD rfl (dJ _ _ _ _) (ps:=[.str z]) (by kernel_rfl)).trans ((Sq _ _).trans (dZ z hz fs dn r u h))))
include hz in
def Bx(h:gV z fs=fP (.tup xs))(d:∀s,F1 s (zu 10) [.tup xs,mW a b]=.exc (zu 57)):F2 (zu 25) [.obj 0,.str z,mW a b,.str c] (AT fs dn r u)=.exc (zu 57) (AT fs dn r u):=by refine fZ (TL _ _) ?_ rfl;show aJ F1 (ax F1 U9) (.cons _ (.cons _ (.cons _ (.cons _ (.cons _ .nil))))) [.val (.obj 0),.val (.str z),.val (mW a b),.val (.str c),.no] _=_;rw [aX (eS ((bD rfl (dJ _ _ _ _) (ps:=[.str z]) (by kernel_rfl)).trans ((Sq _ _).trans (bw z hz _ fs dn r u h))))];show aJ F1 (ax F1 U9) (.cons _ (.cons _ (.cons _ (.cons _ .nil)))) [.val (.obj 0),.val (.str z),.val (mW a b),.val (.str c),.val (.tup xs)] _=_;exact pQ (Kx (nF (ps:=[.tup xs,mW a b]) (by kernel_rfl) (d _)))
include hz in
def Fq(h:gV z fs=fP (.tup xs))(d:∀s,F1 s (zu 10) [.tup xs,mW a b]=.ok .aN)(hs:∀s,F1 s (zu 39) [.str c]=.exc (zu 62)):F2 (zu 25) [.obj 0,.str z,mW a b,.str c] (AT fs dn r u)=.exc (zu 62) (AT fs dn r u):=by refine fZ (TL _ _) ?_ rfl;show aJ F1 (ax F1 U9) (.cons _ (.cons _ (.cons _ (.cons _ (.cons _ .nil))))) [.val (.obj 0),.val (.str z),.val (mW a b),.val (.str c),.no] _=_;rw [aX (eS ((bD rfl (dJ _ _ _ _) (ps:=[.str z]) (by kernel_rfl)).trans ((Sq _ _).trans (bw z hz _ fs dn r u h))))];show aJ F1 (ax F1 U9) (.cons _ (.cons _ (.cons _ (.cons _ .nil)))) [.val (.obj 0),.val (.str z),.val (mW a b),.val (.str c),.val (.tup xs)] _=_;rw [aX (xx (nF (ps:=[.tup xs,mW a b]) (by kernel_rfl) (d _)) rfl)];exact pQ (Kx (nF (ps:=[.str c]) (by kernel_rfl) (hs _)))
include hz in
def Jr(d:Str)(q:PV)(h:gV z fs=fP (.tup xs))(f:∀s,F1 s (zu 10) [.tup xs,mW a b]=.ok .aN)(hs:∀s,F1 s (zu 39) [.str c]=.ok .aN)(g:∀s,F1 s (zu 38) [.tup xs,mW a b,.str c]=.ok (.tup ys))(i:ay (.tup xs) (.int a)=.ok (.str d))(j:ay (.str d) (.int b)=.ok q)(hl:fs.length<bS)(hd:dn.length<bS):
 F2 (zu 25) [.obj 0,.str z,mW a b,.str c] (AT fs dn r u)=.ok q (AT (putD z (.tup ys) fs) (dn++[(("":Str),PV.tup [.str "sign",.str z,.tup xs,.tup ys])]) (r++[{"#l",[]}]) (r.length+3)):=by
 refine cY (TL _ _) ?_ rfl;show aJ F1 (ax F1 U9) (.cons _ (.cons _ (.cons _ (.cons _ (.cons _ .nil))))) [.val (.obj 0),.val (.str z),.val (mW a b),.val (.str c),.no] _=_;rw [aX (eS ((bD rfl (dJ _ _ _ _) (ps:=[.str z]) (by kernel_rfl)).trans ((Sq _ _).trans (bw z hz _ fs dn r u h))))];show aJ F1 (ax F1 U9) (.cons _ (.cons _ (.cons _ (.cons _ .nil)))) [.val (.obj 0),.val (.str z),.val (mW a b),.val (.str c),.val (.tup xs)] _=_;have e:gE z fs=.tup xs:=by unfold gE;rw [h];rfl
 have k:∀s,br (F1 s) (.cons (.cst (.str "sign")) (.cons (.var 1) (.cons (.call (zu 38) (.cons (.var 4) (.cons (.var 2) (.cons (.var 3) .nil)))) .nil))) [.val (.obj 0),.val (.str z),.val (mW a b),.val (.str c),.val (.tup xs)]=.ok [.str "sign",.str z,.tup ys]:=λs=>by simp! [br,g,aB,List.getElem?_cons_zero,List.getElem?_cons_succ,iL,Res.bind]
 rw [aX (xx (nF (ps:=[.tup xs,mW a b]) (by kernel_rfl) (f _)) rfl),aX (xx (nF (ps:=[.str c]) (by kernel_rfl) (hs _)) rfl),
  aX (qC ((bD rfl (dJ _ _ _ _) (k _)).trans ((sg2 _ _).trans (ja "sign" z (.tup ys) fs (putD z (.tup ys) fs) dn r u hd λdn r u=>iB z ys fs dn r u hl)))),e]
 refine fY (Ky ?_);have m:ay (mW a b) (.int 0)=.ok (.int a):=rfl;have o:ay (mW a b) (.int 1)=.ok (.int b):=rfl;simp! [aB,List.getElem?_cons_zero,List.getElem?_cons_succ,iL,Res.bind,m,o,i,j]
end
def EI{i:Nat}{e:Ci.E}{s:Sg}(h:aB (F1 s) e env=.ok q)(n:(env.set i (.val q)).any Slot.aZ=gh):dC F1 U (.p (.set i e)) env s=.ok (.nx (env.set i (.val q))) s:=EG (by rw [dH,h];rfl) n
def EH{i:Nat}{e:Ci.E}{s:Sg}(h:aB (F1 s) e env=.exc c):dC F1 U (.p (.set i e)) env s=.exc c s:=by rw [dC,dH,h];rfl
section
variable(z y1 y2:Str)(hz:z∈iI)(Kn:y1∈iI)(Pr:y2∈iI)(e:Bool)(xs ys zs:List PV)(fs dn:List (Str×PV))(r:Sg)(u:Nat)
def TB(as:List PV)(s:Sg):F2 (zu 26) as s=cF F1 (ax F1 U4) cR as s:=by kernel_rfl
def M4(as:List PV)(s:Sg):ax F1 U4 (zu 0) as s=F2 (zu 0) as s:=by kernel_rfl
def jn2(as:List PV)(s:Sg):ax F1 U4 (zu 12) as s=F2 (zu 12) as s:=by kernel_rfl
abbrev jn(F:aP)(e:Bool)(xs ys:List PV):Res PV:=if e=gf then F (zu 43) [.tup xs,.tup ys] else F (zu 53) [.tup xs,.tup ys]
def Yh{F:aP}{a b c d g:Slot}:aB F (.ite (.var 2) (.call (zu 43) (.cons (.var 5) (.cons (.var 6) .nil))) (.call (zu 53) (.cons (.var 5) (.cons (.var 6) .nil)))) [a,b,.val (.bl e),c,d,.val (.tup xs),.val (.tup ys),g]=jn F e xs ys:=by cases e<;>simp! [jn,aB,br,List.getElem?_cons_zero,List.getElem?_cons_succ,iL,Res.bind,wy,if_true,if_neg zzf]
include hz Kn in
def xa(h:gV y1 fs=gd):F2 (zu 26) [.obj 0,.str z,.bl e,.str y1,.str y2] (AT fs dn r u)=.exc (zu 31) (AT fs dn r u):=by refine fZ (TB _ _) ?_ rfl;show aJ F1 (ax F1 U4) (.cons _ (.cons _ (.cons _ (.cons _ (.cons _ (.cons _ .nil)))))) [.val (.obj 0),.val (.str z),.val (.bl e),.val (.str y1),.val (.str y2),.no,.no,.no] _=_;rw [aX (need _ z hz _ _ rfl)];exact pQ (i8 ((bD rfl (dJ _ _ _ _) (ps:=[.str y1]) (by kernel_rfl)).trans ((M4 _ _).trans (dZ y1 Kn fs dn r u h))))
include hz Kn Pr in
def xb(h:gV y1 fs=fP (.tup xs))(a:gV y2 fs=gd):F2 (zu 26) [.obj 0,.str z,.bl e,.str y1,.str y2] (AT fs dn r u)=.exc (zu 31) (AT fs dn r u):=by refine fZ (TB _ _) ?_ rfl;show aJ F1 (ax F1 U4) (.cons _ (.cons _ (.cons _ (.cons _ (.cons _ (.cons _ .nil)))))) [.val (.obj 0),.val (.str z),.val (.bl e),.val (.str y1),.val (.str y2),.no,.no,.no] _=_;rw [aX (need _ z hz _ _ rfl),aX (eS ((bD rfl (dJ _ _ _ _) (ps:=[.str y1]) (by kernel_rfl)).trans ((M4 _ _).trans (bw y1 Kn _ fs dn r u h))))];exact pQ (i8 ((bD rfl (dJ _ _ _ _) (ps:=[.str y2]) (by kernel_rfl)).trans ((M4 _ _).trans (dZ y2 Pr fs dn r u a))))
include hz Kn Pr in
def D1(h:gV y1 fs=fP (.tup xs))(a:gV y2 fs=fP (.tup ys))(b:∀s,jn (F1 s) e xs ys=.exc "NoFit"):F2 (zu 26) [.obj 0,.str z,.bl e,.str y1,.str y2] (AT fs dn r u)=.exc "NoFit" (AT fs dn r u):=by refine fZ (TB _ _) ?_ rfl;show aJ F1 (ax F1 U4) (.cons _ (.cons _ (.cons _ (.cons _ (.cons _ (.cons _ .nil)))))) [.val (.obj 0),.val (.str z),.val (.bl e),.val (.str y1),.val (.str y2),.no,.no,.no] _=_;rw [aX (need _ z hz _ _ rfl),aX (eS ((bD rfl (dJ _ _ _ _) (ps:=[.str y1]) (by kernel_rfl)).trans ((M4 _ _).trans (bw y1 Kn _ fs dn r u h)))),aX (eS ((bD rfl (dJ _ _ _ _) (ps:=[.str y2]) (by kernel_rfl)).trans ((M4 _ _).trans (bw y2 Pr _ fs dn r u a))))];show aJ F1 (ax F1 U4) (.cons _ (.cons _ (.cons _ .nil))) [.val (.obj 0),.val (.str z),.val (.bl e),.val (.str y1),.val (.str y2),.val (.tup xs),.val (.tup ys),.no] _=_;exact pQ (EH ((Yh _ _ _).trans (b _)))
include hz Kn Pr in
def Ig(h:gV y1 fs=fP (.tup xs))(a:gV y2 fs=fP (.tup ys))(b:∀s,jn (F1 s) e xs ys=.ok (.tup zs))(hl:fs.length<bS)(hd:dn.length<bS):F2 (zu 26) [.obj 0,.str z,.bl e,.str y1,.str y2] (AT fs dn r u)=.ok (.tup zs) (AT (putD z (.tup zs) fs) (dn++[(("":Str),PV.tup [.str "join",.str z,gE z fs,.tup zs])]) (r++[{"#l",[]}]) (r.length+3)):=by refine cY (TB _ _) ?_ rfl;show aJ F1 (ax F1 U4) (.cons _ (.cons _ (.cons _ (.cons _ (.cons _ (.cons _ .nil)))))) [.val (.obj 0),.val (.str z),.val (.bl e),.val (.str y1),.val (.str y2),.no,.no,.no] _=_;rw [aX (need _ z hz _ _ rfl),aX (eS ((bD rfl (dJ _ _ _ _) (ps:=[.str y1]) (by kernel_rfl)).trans ((M4 _ _).trans (bw y1 Kn _ fs dn r u h)))),aX (eS ((bD rfl (dJ _ _ _ _) (ps:=[.str y2]) (by kernel_rfl)).trans ((M4 _ _).trans (bw y2 Pr _ fs dn r u a))))];show aJ F1 (ax F1 U4) (.cons _ (.cons _ (.cons _ .nil))) [.val (.obj 0),.val (.str z),.val (.bl e),.val (.str y1),.val (.str y2),.val (.tup xs),.val (.tup ys),.no] _=_;rw [aX (EI ((Yh _ _ _).trans (b _)) rfl)];show aJ F1 (ax F1 U4) (.cons _ (.cons _ .nil)) [.val (.obj 0),.val (.str z),.val (.bl e),.val (.str y1),.val (.str y2),.val (.tup xs),.val (.tup ys),.val (.tup zs)] _=_;rw [aX (qC ((bD rfl (dJ _ _ _ _) (ps:=[.str "join",.str z,.tup zs]) (by kernel_rfl)).trans ((jn2 _ _).trans (ja "join" z (.tup zs) fs (putD z (.tup zs) fs) dn r u hd λdn r u=>iB z zs fs dn r u hl))))];exact fY (by kernel_rfl)
end
end K72
namespace K72
open L2 Ci KJ
def Qr{F1:Sg->aP}{n:Str}{d:D2}{r:List (Str×D2)}:ax F1 ((n,d)::r) n=cF F1 (ax F1 r) d:=by funext as s;simp [ax]
def Qs{F1:Sg->aP}{n:Str}{d:D2}{r:List (Str×D2)}(h:(f==n)=gh):ax F1 ((n,d)::r) f=ax F1 r f:=by funext as s;simp [ax,h]
theorem yy{F1:Sg->aP}:∀(n:Nat) {T:List (Str×D2)},((T.take n).all λx=>!(f==x.1))=gf->ax F1 T f=ax F1 (T.drop n) f
 |0,_,_=>rfl|n+1,[],_=>rfl|n+1,(m,d)::r,h=>by rw [List.take_succ_cons,List.all_cons,zza,Bool.not_eq_true'] at h;exact(Qs h.1).trans (yy n h.2)
def rS{F1:Sg->aP}{d:D2}{r T:List (Str×D2)}(k:Nat)(h:((T.take k).all λx=>!(f==x.1))=gf:=by decide+kernel)(e:T.drop k=(f,d)::r:=by rfl):ax F1 T f=cF F1 (ax F1 r) d:=by rw [yy k h,e];exact Qr
abbrev told(r:Rs PV):Rs PV:=match r with
 |.exc d s=>Rs.of (F1 s (zu 6) [.exc d]).well s|r=>r
def mf{a:List Nat}{x:X2}{env':Sl}{s:Sg}(b:rM a env=.ok env'):bC F1 U (.JG f a x) env s=told (bC F1 U x env' s):=by rw [bC,b];simp! [Rs.of,Rs.bind];cases bC F1 U x env' s<;>rfl
def e8{as:Es}{s:Sg}(a:env[1]?=fP (.val (.obj 0)))(b:g8 s 0 "Atlas"=gf)(c:br (F1 s) as env=.ok ps):bC F1 U (.met (.var 1) "Atlas" m as) env s=U (mP "Atlas" m) (.obj 0::ps) s:=by
 have e:aB (F1 s) (.var 1) env=.ok (.obj 0):=by rw [aB,a];rfl
 rw [bC,e];show(if g8 s 0 "Atlas"=gf then(Rs.of (br (F1 s) as env) s).bind λps s=>U (mP "Atlas" m) (.obj 0::ps) s else .bad)=_;rw [if_pos b,c];rfl
def Ih(s:Sg):F1 s (zu 6)=aW (aI (aV s) T0) eZ:=pG 21
def lX(s:Sg):F1 s (zu 6) [.exc (zu 31)]=.ok (.str "no name"):=by rw [Ih];kernel_rfl
def Ru(s:Sg):F1 s (zu 6) [.exc "NoFit"]=.ok (.str "no fit"):=by rw [Ih];kernel_rfl
def M7(s:Sg):F1 s (zu 6) [.exc (zu 57)]=.ok (.str "no spot"):=by rw [Ih];kernel_rfl
def M6(s:Sg):F1 s (zu 6) [.exc (zu 62)]=.ok (.str "no sign"):=by rw [Ih];kernel_rfl
def oz{e:Ci.E}{a b:pK}{s:Sg}{t:Bool}(h:aB (F1 s) e env=.ok (.bl t)):dC F1 U (.ite (.pu e) a b) env s=if t=gf then aJ F1 U a env s else aJ F1 U b env s:=by rw [dC,Az,h];rfl
def Ib{e:Ci.E}{a b:X2}{s:Sg}{t:Bool}(h:aB (F1 s) e env=.ok (.bl t)):bC F1 U (.ite e a b) env s=if t=gf then bC F1 U a env s else bC F1 U b env s:=by rw [bC,h];rfl
def iK{x:X2}{s:Sg}(h:bC F1 U x env s=.ok p s1):dC F1 U (.ret x) env s=.ok (.rt p) s1:=by rw [dC,h];rfl
def Pe(as:List PV)(s:Sg):F2 (zu 19) as s=cF F1 (ax F1 yd) gK as s:=by kernel_rfl
section
variable(z:Str)(xs:List PV)(s s1:Sg)(p:PV)(hs:g8 s 0 "Atlas"=gf)
noncomputable abbrev Lu:PV:=.tup [.str "lay",.str z,.tup xs]
theorem Zc(as:List PV)(s:Sg):ax F1 yd (zu 56) as s=F2 (zu 56) as s:=congrFun (congrFun ((rS (r:=U7) (d:=dr) 5).trans (rS (r:=U7) (d:=dr) 7).symm) as) s
include hs in
def Hf(h:told (F2 (zu 56) [.obj 0,.str z,.tup xs] s)=.ok p s1):F2 (zu 19) [.obj 0,Lu z xs] s=.ok p s1:=by refine cY (Pe _ _) ?_ rfl;show aJ F1 (ax F1 yd) (.cons _ (.cons _ (.cons _ (.cons _ .nil)))) [.val (.obj 0),.val (Lu z xs)] _=_;refine fY ((oz (t:=gf) (by kernel_rfl)).trans ((if_pos rfl).trans (fY (iK ((mf (env':=[.val (Lu z xs),.val (.obj 0)]) (by kernel_rfl)).trans ?_)))));rw [Ib (t:=gf) (by kernel_rfl),if_pos rfl,e8 rfl hs (ps:=[.str z,.tup xs]) (by kernel_rfl)];exact(congrArg told (Zc _ _)).trans h
noncomputable abbrev Cz:PV:=.tup [.str "take",.str z]
noncomputable abbrev CA:PV:=.tup [.str "turn",.str z]
noncomputable abbrev Lv:PV:=.tup [.str (zu 27),.str z]
theorem Pd(as:List PV)(s:Sg):ax F1 yd (zu 30) as s=F2 (zu 30) as s:=congrFun (congrFun ((rS (r:=U8) (d:=cw) 4).trans (rS (r:=U8) (d:=cw) 6).symm) as) s
theorem Ze(as:List PV)(s:Sg):ax F1 yd (zu 29) as s=F2 (zu 29) as s:=congrFun (congrFun ((rS (r:=U5) (d:=cx) 7).trans (rS (r:=U5) (d:=cx) 9).symm) as) s
theorem Zf(as:List PV)(s:Sg):ax F1 yd (zu 17) as s=F2 (zu 17) as s:=congrFun (congrFun ((rS (r:=U6) (d:=bL) 6).trans (rS (r:=U6) (d:=bL) 8).symm) as) s
theorem Zg(as:List PV)(s:Sg):ax F1 yd (zu 25) as s=F2 (zu 25) as s:=congrFun (congrFun ((rS (r:=U9) (d:=cS) 3).trans (rS (r:=U9) (d:=cS) 5).symm) as) s
theorem Zh(as:List PV)(s:Sg):ax F1 yd (zu 26) as s=F2 (zu 26) as s:=congrFun (congrFun ((rS (r:=U4) (d:=cR) 8).trans (rS (r:=U4) (d:=cR) 10).symm) as) s
include hs in
def uJ(h:told (F2 (zu 30) [.obj 0,.str z] s)=.ok p s1):F2 (zu 19) [.obj 0,Cz z] s=.ok p s1:=by refine cY (Pe _ _) ?_ rfl;show aJ F1 (ax F1 yd) (.cons _ (.cons _ (.cons _ (.cons _ .nil)))) [.val (.obj 0),.val (Cz z)] _=_;refine fY ((oz (t:=gf) (by kernel_rfl)).trans ((if_pos rfl).trans (fY (iK ((mf (env':=[.val (Cz z),.val (.obj 0)]) (by kernel_rfl)).trans ?_)))));rw [Ib (t:=gh) (by kernel_rfl),if_neg zzf,e8 rfl hs (ps:=[.str z]) (by kernel_rfl)];exact(congrArg told (Pd _ _)).trans h
def skip{e:Ci.E}{a:pK}{b:pK}{s:Sg}(h:aB (F1 s) e env=.ok (.bl gh)):aJ F1 U (.cons (.ite (.pu e) a .nil) b) env s=aJ F1 U b env s:=aX ((oz h).trans ((if_neg zzf).trans j6))
include hs in
def uK(h:told (F2 (zu 29) [.obj 0,.str z] s)=.ok p s1):F2 (zu 19) [.obj 0,CA z] s=.ok p s1:=by refine cY (Pe _ _) ?_ rfl;show aJ F1 (ax F1 yd) (.cons (.ite (.pu _) _ .nil) (.cons (.ite (.pu _) _ .nil) (.cons (.ite (.pu _) _ .nil) (.cons _ .nil)))) [.val (.obj 0),.val (CA z)] _=_;rw [skip (by kernel_rfl),skip (by kernel_rfl),skip (by kernel_rfl)];refine fY (iK ((mf (env':=[.val (CA z),.val (.obj 0)]) (by kernel_rfl)).trans ?_));rw [Ib (t:=gf) (by kernel_rfl),if_pos rfl,e8 rfl hs (ps:=[.str z]) (by kernel_rfl)];exact(congrArg told (Ze _ _)).trans h
include hs in
def nU(h:told (F2 (zu 17) [.obj 0,.str z] s)=.ok p s1):F2 (zu 19) [.obj 0,Lv z] s=.ok p s1:=by refine cY (Pe _ _) ?_ rfl;show aJ F1 (ax F1 yd) (.cons (.ite (.pu _) _ .nil) (.cons (.ite (.pu _) _ .nil) (.cons (.ite (.pu _) _ .nil) (.cons _ .nil)))) [.val (.obj 0),.val (Lv z)] _=_;rw [skip (by kernel_rfl),skip (by kernel_rfl),skip (by kernel_rfl)];refine fY (iK ((mf (env':=[.val (Lv z),.val (.obj 0)]) (by kernel_rfl)).trans ?_));rw [Ib (t:=gh) (by kernel_rfl),if_neg zzf,e8 rfl hs (ps:=[.str z]) (by kernel_rfl)];exact(congrArg told (Zf _ _)).trans h
noncomputable abbrev Cy(a b:Int)(c:Str):PV:=.tup [.str "sign",.str z,mW a b,.str c]
def OZ{x:X2}{s:Sg}:bC F1 U (.tup (.cons x .nil)) env s=(bC F1 U x env s).bind λq s=>.ok (.tup [q]) s:=by
 rw [bC,eK];cases bC F1 U x env s with
 |ok q s1=>show(((eK F1 U .nil env s1).bind λa s=>Rs.ok (q::a) s)).bind (λa s=>Rs.ok (PV.tup a) s)=_;rw [eK];rfl|exc c s1=>rfl|bad=>rfl
include hs in
def kI(a b:Int)(c:Str)(h:told ((F2 (zu 25) [.obj 0,.str z,mW a b,.str c] s).bind λq s=>.ok (.tup [q]) s)=.ok p s1):F2 (zu 19) [.obj 0,Cy z a b c] s=.ok p s1:=by refine cY (Pe _ _) ?_ rfl;show aJ F1 (ax F1 yd) (.cons (.ite (.pu _) _ .nil) (.cons _ (.cons _ (.cons _ .nil)))) [.val (.obj 0),.val (Cy z a b c)] _=_;rw [skip (by kernel_rfl)];refine fY ((oz (t:=gf) (by kernel_rfl)).trans ((if_pos rfl).trans (fY (iK ((mf (env':=[.val (Cy z a b c),.val (.obj 0)]) (by kernel_rfl)).trans ?_)))));rw [OZ,e8 rfl hs (ps:=[.str z,mW a b,.str c]) (by kernel_rfl)];exact(congrArg (λr:Rs PV=>told (r.bind λq s=>.ok (.tup [q]) s)) (Zg _ _)).trans h
noncomputable abbrev Cu(e:Bool)(a b:Str):PV:=.tup [.str "join",.str z,.bl e,.str a,.str b]
include hs in
def kH(e:Bool)(a b:Str)(h:told (F2 (zu 26) [.obj 0,.str z,.bl e,.str a,.str b] s)=.ok p s1):F2 (zu 19) [.obj 0,Cu z e a b] s=.ok p s1:=by refine cY (Pe _ _) ?_ rfl;show aJ F1 (ax F1 yd) (.cons (.ite (.pu _) _ .nil) (.cons (.ite (.pu _) _ .nil) (.cons _ (.cons _ .nil)))) [.val (.obj 0),.val (Cu z e a b)] _=_;rw [skip (by kernel_rfl),skip (by kernel_rfl)];refine fY ((oz (t:=gf) (by kernel_rfl)).trans ((if_pos rfl).trans (fY (iK ((mf (env':=[.val (Cu z e a b),.val (.obj 0)]) (by kernel_rfl)).trans ?_)))));rw [e8 rfl hs (ps:=[.str z,.bl e,.str a,.str b]) (by kernel_rfl)];exact(congrArg told (Zh _ _)).trans h
end
noncomputable abbrev sp(r c:Int):PV:=.tup [.int r,.int c]
noncomputable abbrev mV(ns:List Int):PV:=.lst (ns.map .int)
theorem Xz:cN .gt=xt:=rfl
theorem Yq{i j:Int}:xt (.int i) (.int j)=.ok (.bl (decide (j<i))):=rfl
theorem YD{r c:Int}:ay (sp r c) (.int 0)=.ok (.int r):=rfl
theorem YE{r c:Int}:ay (sp r c) (.int 1)=.ok (.int c):=rfl
theorem nI{i j:Int}:hX (.int i) (.int j)=.ok (.bl (!(i==j))):=rfl
theorem eI{i j:Int}:gN (.int i) (.int j)=.ok (.bl (i==j)):=rfl
abbrev J2:=je @YD (je @YE (je @Xz (je @Yq (je @nI (je @eI (je @VR (je @VT (@VS))))))))
set_option hygiene false
local macro_rules|`(tactic|simp! only [$x,*] $[$l:location]?)=>do let q<-("aW fC fj bM dH aB br Gq wO eX qe oy jz Nat.reduceAdd Nat.reduceSub reduceIte ite_true ite_false BEq.rfl beq_self_eq_true jS jT jU UC YT Ys YH YI YG sv YK YJ Xr J0 J5 J4 Qb Qa P9 P8 Xx XD XC XB Xy XA Qg oLt oLe Yp lL lT lS tL aL YR YQ XN jA jB jC jD jE jF jG jH jI jJ jK jL jM jN jO jP KJ.ua YF VT VR VS J6 jQ jR YD YE Xz Yq nI eI".splitOn " ").toArray.mapM fun n=>`(Lean.Parser.Tactic.simpLemma|$(Lean.mkIdent n.toName):ident);`(tactic|simp only [$[$q:simpLemma],*,$x,*] $[$l]?)
local macro_rules|`(tactic|dsimp! only [$x,*] $[$l:location]?)=>do let q<-("aW fC fj bM dH aB br Gq wO eX qe oy jz Nat.reduceAdd Nat.reduceSub reduceIte ite_true ite_false BEq.rfl beq_self_eq_true J J2".splitOn " ").toArray.mapM fun n=>`(Lean.Parser.Tactic.simpLemma|$(Lean.mkIdent n.toName):ident);`(tactic|simp only [$[$q:simpLemma],*,$x,*] $[$l]?)
set_option hygiene true
theorem su(F:aP)(i:Int):aW F fv [.int i]=.ok (.bl gf):=by rfl
def rF{a:Type}{xs:List a}{k:Nat}(h:k<xs.length):yi xs (k:Int)=fP xs[k]:=by
 unfold yi Pu;have:((k:Nat):Int)<(xs.length:Int):=by lia
 simp [this,h]
def yj{ns:List Int}{k:Int}(a:0<=k)(h:k<ns.length):∃m,yi (ns.map PV.int) k=fP (.int m):=by let(j,rfl):=eu a;refine{ns[j]'(by lia),?_};rw [rF (k:=j) (by simp;lia)];simp
def E3(ns:List Int)(n:Nat):Ci.plain (n+1) (.lst (ns.map .int))=gf:=by
 simp! [Ci.plain,c8,ew]
 rintro x ⟨i,_,rfl⟩
 cases n<;>rfl
def eq_nil(ns:List Int):gN (mV ns) (.lst [])=.ok (.bl (decide (ns=[]))):=by have e:mB (mV ns)=gf:=E3 ns 8;unfold gN;rw [e];cases ns<;>rfl
def GZ(F:aP)(ns:List Int)(k:Int)(hk:0<=k):∃m,aW F dt [mV ns,.int k]=.ok (.int m):=by
 simp! only [dt,zzl,eq_nil];by_cases h:k<(ns.length:Int)
 .let(m,e):=yj hk h;refine{m,?_};simp! only [h,decide_true,ay,e]
 .simp! only [h,decide_false,eq_nil];cases ns with
  |nil=>exact{0,rfl}|cons n ns=>
   have hl:(0:Int)<((n::ns).length:Int):=by simp! [cC];lia
   let(m,e):=yj (ns:=n::ns) (k:=k%((n::ns).length:Int)) (Int.emod_nonneg _ (by lia)) (Int.emod_lt_of_pos _ hl);refine{m*31+k,?_};have b:(bp m||bp 31)=gf:=by rw [er];exact .inr (by decide)
   have a:ay (mV (n::ns)) (.int (k%((n::ns).length:Int)))=.ok (.int m):=by simp! [ay,e];rfl
   have c:decide ((n::ns)=[])=gh:=rfl;simp! [cC] at hl a;simp! only [c,zzl,hl,a,b]
def Jc(F:aP)(f:∀ns k,0<=k->∃m,F (zu 59) [mV ns,.int k]=.ok (.int m))(ns:List Int)(k q:Int)(hk:0<=k)(a:0<q):∃m,aW F du [mV ns,.int k,.int q]=.ok (.int m)/\0<=m/\m<q:=by
 let(m,e):=f ns k hk;have g:(bp 6151||bp (k+1))=gf:=by rw [er];exact .inl (by decide)
 have h:(bp (m+6151*(k+1))||bp 40692)=gf:=by rw [er];exact .inr (by decide)
 have c:(0:Int)<2147483399:=by decide
 have i:(0:Int)<2147483629:=by decide
 have j:(0:Int)<31/\(31:Int)<1073741824:=by decide
 have o:=Int.emod_nonneg ((m+6151*(k+1))*40692) (b:=2147483399) (by decide);have p:=Int.emod_lt_of_pos ((m+6151*(k+1))*40692) c;refine{((((m+6151*(k+1))*40692%2147483399)*((m+6151*(k+1))*40692%2147483399)+((m+6151*(k+1))*40692%2147483399)/31)%2147483629)%q,?_,Int.emod_nonneg _ (by lia),Int.emod_lt_of_pos _ a};generalize hd:(m+6151*(k+1))*40692%2147483399=d at o p
 have r:(bp d||bp d)=gf:=by
  have:bp d=gf:=by simp! [bp,zza,zzN];lia
  rw [this];rfl
 simp! only [du,mV] at e⊢;simp! only [e,g,h,c,i,j,hd,r,a,and_self]
def PR(a:List Str):Prop:=a.length<=12/\∀z∈a,z.length<=12
noncomputable abbrev fl(a:List Str):PV:=.tup (a.map .str)
abbrev cd(a:List Str)(r c:Nat):Option Nat:=(a[r]?).bind λz=>z.cps.toList[c]?
def w9(F:aP)(h:∀i,F (zu 63) [.int i]=.ok (.bl gf))(r c:Int):aW F ff [sp r c]=.ok (.bl gf):=by have a:ay (sp r c) (.int 0)=.ok (.int r):=rfl;have b:ay (sp r c) (.int 1)=.ok (.int c):=rfl;have d:gN (.int ((2:Nat):Int)) (.int 2)=.ok (.bl gf):=rfl;simp! only [ff,wB,h,a,b,d]
def RM(F:aP)(a:List Str)(R:PR a)(r c:Int):aW F cG [fl a,sp r c]=.ok (.bl (decide (0<=r)&&decide (0<=c)&&(cd a r.toNat c.toNat).isSome)):=by
 have g:ay (sp r c) (.int 0)=.ok (.int r):=rfl;have h:ay (sp r c) (.int 1)=.ok (.int c):=rfl;simp! only [cG,wB,g,h,vA,vB,zzl];by_cases h0:0<=r
 .by_cases f:r<(a.length:Int)
  .let(j,rfl):=eu h0;have d:j<a.length:=by lia
   have m:ay (fl a) (.int (j:Int))=.ok (.str a[j]):=by simp! [ay,fl];rw [rF (k:=j) (zx6 d)];simp [Res.of]
   have o:(a[j]).length<=bS:=di (R.2 _ (List.getElem_mem d)) (by decide);have p:(a[j]).cps.size=(a[j]).length:=rfl;simp! only [h0,f,decide_true,m,o];by_cases e:0<=c
   .let(i,rfl):=eu e;simp! only [e,decide_true,cd,eF,zzg d,Option.bind_some,Bool.and_self,Bool.true_and];refine congrArg (λb=>Res.ok (PV.bl b)) ?_;rw [Bool.eq_iff_iff];simp [p]
   .simp [aW,fC,fj,bM,dH,aB,br,Gq,wO,eX,qe,oy,jz,Nat.reduceAdd,Nat.reduceSub,reduceIte,ite_true,ite_false,BEq.rfl,beq_self_eq_true,J,e]
  .have:cd a r.toNat c.toNat=gd:=by
    unfold cd;rw [List.getElem?_eq_none (by lia)];rfl
   simp [aW,fC,fj,bM,dH,aB,br,Gq,wO,eX,qe,oy,jz,Nat.reduceAdd,Nat.reduceSub,reduceIte,ite_true,ite_false,BEq.rfl,beq_self_eq_true,J,h0,f,this]
 .simp [aW,fC,fj,bM,dH,aB,br,Gq,wO,eX,qe,oy,jz,Nat.reduceAdd,Nat.reduceSub,reduceIte,ite_true,ite_false,BEq.rfl,beq_self_eq_true,J,h0]
def j8{a:List Str}(h:a[j]?=fP z):ay (fl a) (.int (j:Int))=.ok (.str z):=by let(b,rfl):=cj.1 h;simp! [ay,fl];rw [rF (k:=j) (zx6 b)];simp [Res.of]
def tD{i x:Nat}(hz:z.length<=bS)(h:z.cps.toList[i]?=fP x):ay (.str z) (.int (i:Int))=.ok (.str {#[x]}):=by let(a,rfl):=cj.1 h;simp! [ay,hz,if_true];rw [rF (k:=i) a];rfl
theorem dq{a:Type}{f:PV->Res (Option PV)}{p:a->PV}{g:a->PV}:∀{xs:List a},(∀x∈xs,f (p x)=.ok (fP (g x)))->aY f (xs.map p)=.ok (xs.map g)
 |[],_=>rfl|x::xs,h=>by simp! [bc,aY,h x (c0 ..),Res.well,Res.bind,dq (xs:=xs) λy b=>h y (cq _ b),oc]
theorem iW{body:PV->Sl->Res Fl}{P:Nat->Sl->Prop}:∀(xs:List PV) (k:Nat) (env:Sl),P k env->(∀i x env,xs[i]?=fP x->P (k+i) env->∃env',body x env=.ok (.nx env')/\P (k+i+1) env')->∃env',forL body xs env=.ok (.nx env')/\P (k+xs.length) env'
 |[],k,env,h,_=>⟨env,rfl,h⟩|x::xs,k,env,h,g=>by
  let(e1,a,b):=g 0 x env rfl h;let(c,d,e):=iW xs (k+1) e1 b λi y env f j=>by let(m,o,p):=g (i+1) y env f (by rw [show k+(i+1)=k+1+i by lia];exact j);exact{m,o,by rw [show k+1+i+1=k+(i+1)+1 by lia];exact p}
  refine{c,?_,by rw [cC,show k+(xs.length+1)=k+1+xs.length by lia];exact e};simp! [forL,a,UC,d]
def sZ{n i:Nat}{x:PV}(h:(fH 0 n)[i]?=fP x):i<n/\x=.int (i:Int):=by simp! [fH,c4,cz] at h;let(j,c,rfl):=h;let(a,b):=cj.1 c;simp! [List.getElem_range] at b;subst b;simp! [List.length_range] at a;exact{a,by simp}
def lQ(F:aP):Prop:=∀(ns:List Int) (k q:Int),0<=k->0<q->∃m,F (zu 11) [mV ns,.int k,.int q]=.ok (.int m)/\0<=m/\m<q
def yB{a b c d m:Int}(e:0<=m)(f:m<4):∃v,ay (.lst [.int a,.int b,.int c,.int d]) (.int m)=.ok (.int v)/\(v=a\/v=b\/v=c\/v=d):=by
 have:m=0\/m=1\/m=2\/m=3:=by lia
 rcases this with rfl|rfl|rfl|rfl
 .exact{a,rfl,.inl rfl}
 .exact{b,rfl,.inr (.inl rfl)}
 .exact{c,rfl,.inr (.inr (.inl rfl))}
 .exact{d,rfl,.inr (.inr (.inr rfl))}
abbrev Ke:Ss:=#v[.set 11 (.call (zu 11) #v[!0,.bin .add (.bin .add (.bin .add (!1) (¬4)) (.bin .mul (!2) (!8))) (!10),.bin .mul (¬12) (!6)]),.set 9 (.bin .add (!9) (.ite (.cmp .lt (.bin .mod (!11) (¬12)) (!5)) (.cst (.str "#")) (.blt .str #v[.bin .fdiv (!11) (¬12)])))]
abbrev LF:Ss:=#v[.set 9 (.cst (.str "")),.hJ (.one 10) (.sY (!4)) Ke,.app 7 (!9)]
structure Fl(ae:List Str)(w:Nat):Prop where
 jj:PR ae
 ne:0<ae.length
 w1:1<=w
 d9:∀z∈ae,z.length=w
 dig:∀z∈ae,∀x∈z.cps.toList,x=35\/(48<=x/\x<=57)
def JC{v:Int}(b:0<=v)(c:v<10):fq .str [.int v]=.ok (.str {#[48+v.toNat]}):=by
 let(n,rfl):=eu b;have a:∀k:Fin 10,(((k.1:Nat):Int).natAbs.log2<1920)/\((toString ((k.1:Nat):Int)):Str)={#[48+k.1]}:=by decide+kernel
 have k:=a {n,Int.ofNat_lt.1 c};show(if _ then Res.ok (PV.str _) else _)=_;rw [if_pos k.1,eF,k.2]
def MW(F:aP)(y:lQ F)(ns:List Int)(k0:Int)(D:0<=k0)(q a b d tp:Int)(A:0<=q)(E:q<=6)(G:1<=tp)(H:tp<=10)(own:PV)(i n:Nat)(hn:n<=6)(k o:Ci.Slot):
 ∃(z:Str) (f g:Ci.Slot),z.length=n/\(∀x∈z.cps.toList,x=35\/(48<=x/\x<=57))/\forL (λx env=>((Tg.one 10).put x env).bind λenv'=>bM F Ke env') (fH 0 n) [.val (mV ns),.val (.int k0),.val (.int q),.val (.int a),.val (.int b),.val (.int d),.val (.int tp),.own own,.val (.int i),.val (.str ""),k,o]=
  .ok (.nx [.val (mV ns),.val (.int k0),.val (.int q),.val (.int a),.val (.int b),.val (.int d),.val (.int tp),.own own,.val (.int i),.val (.str z),f,g]):=by
 let(env',e,z,f,g,p,hd,rfl):=iW (body:=λx env=>((Tg.one 10).put x env).bind λenv'=>bM F Ke env') (P:=λj env=>∃(z:Str) (f g:Ci.Slot),z.length=j/\(∀x∈z.cps.toList,x=35\/(48<=x/\x<=57))/\env=[.val (mV ns),.val (.int k0),.val (.int q),.val (.int a),.val (.int b),.val (.int d),.val (.int tp),.own own,.val (.int i),.val (.str z),f,g]) (fH 0 n) 0 [.val (mV ns),.val (.int k0),.val (.int q),.val (.int a),.val (.int b),.val (.int d),.val (.int tp),.own own,.val (.int i),.val (.str ""),k,o] {_,_,_,by decide+kernel,by decide+kernel,rfl} (by
  intro j x env c B;let(I,rfl):=sZ c;let(z,f,g,p,hd,rfl):=B;let(m,r,K,m1):=y ns (k0+4+q*(i:Int)+(j:Int)) (12*tp) (by have:=Int.mul_nonneg A (Int.natCast_nonneg i);lia) (by lia)
  have s:(bp q||bp (i:Int))=gf:=by
   have:bp q=gf:=by simp! [bp,zza,zzN];lia
   rw [this];rfl
  have t:(bp 12||bp tp)=gf:=by rw [er];exact .inl (by decide)
  have u:(0:Int)<12:=by decide
  have w:(0:Int)<12/\(12:Int)<1073741824:=by decide
  have C:=JC (v:=m/12) (by lia) (by lia);have h:(("#":Str))={#[35]}:=by decide+kernel
  by_cases hm:m%12<d
  .refine{[.val (mV ns),.val (.int k0),.val (.int q),.val (.int a),.val (.int b),.val (.int d),.val (.int tp),.own own,.val (.int i),.val (.str (z++"#")),.val (.int j),.val (.int m)],?_,_,_,_,?_,?_,rfl}
   .have l:z.length+(("#":Str)).length<=bS:=di (show _<=8 by rw [h];show z.length+1<=8;lia) (by decide);simp! only [Ke,s,t,u,w,r,hm,decide_true,l,and_self]
   .rw [Str.length_append,h];show z.length+1=_;lia
   .rw [h];show∀x∈(z.cps++#[35]).toList,_;intro x c;simp! [Array.toList_append,List.mem_append,d6] at c;rcases c with c|c
    .exact hd x c
    .exact .inl c
  .refine{[.val (mV ns),.val (.int k0),.val (.int q),.val (.int a),.val (.int b),.val (.int d),.val (.int tp),.own own,.val (.int i),.val (.str (z++{#[48+(m/12).toNat]})),.val (.int j),.val (.int m)],?_,_,_,_,?_,?_,rfl}
   .have l:z.length+({#[48+(m/12).toNat]}:Str).length<=bS:=di (show z.length+1<=8 by lia) (by decide);simp! only [Ke,s,t,u,w,r,hm,decide_false,l,and_self,C]
   .rw [Str.length_append];show z.length+1=_;lia
   .show∀x∈(z.cps++#[48+(m/12).toNat]).toList,_
    intro x c;simp! [Array.toList_append,List.mem_append,d6] at c;rcases c with c|c
    .exact hd x c
    .exact .inr (by lia))
 refine{z,f,g,?_,hd,e};simpa [fH] using p
def AB(F:aP)(k:lQ F)(ns:List Int)(k0:Int)(B:0<=k0)(q:Int)(X:1<=q)(D:q<=6):∃f w,Fl f w/\aW F cy [mV ns,.int k0,.int q]=.ok (fl f):=by
 let(a,E,Y,Z):=k ns k0 q B (by lia);let(b,G,b0,b6):=k ns (k0+1) q (by lia) (by lia);let(c,H,I,K):=k ns (k0+2) 4 (by lia) (by decide);let(d,L,M,N):=k ns (k0+3) 4 (by lia) (by decide);let(o,O,hs):=yB (a:=0) (b:=2) (c:=4) (d:=6) I K;let(tp,Q,ht):=yB (a:=1) (b:=2) (c:=3) (d:=10) M N;have R:1<=tp:=by lia
 have t2:tp<=10:=by lia
 have sa:cK (1+a)=gf:=by simp! [cK,zza,zzN];lia
 have S:cK (1+b)=gf:=by simp! [cK,zza,zzN];lia
 let(h,e,f,t,u,p,r,hl,s,hd,rfl):=iW (body:=λx env=>((Tg.one 8).put x env).bind λh=>bM F LF h)
  (P:=λi env=>∃(f:List Str) (t u p r:Ci.Slot),f.length=i/\(∀z∈f,z.length=(1+b).toNat)/\(∀z∈f,∀x∈z.cps.toList,x=35\/(48<=x/\x<=57))/\env=[.val (mV ns),.val (.int k0),.val (.int q),.val (.int (1+a)),.val (.int (1+b)),.val (.int o),.val (.int tp),.own (.lst (f.map .str)),t,u,p,r])
  (fH 0 (1+a).toNat) 0 [.val (mV ns),.val (.int k0),.val (.int q),.val (.int (1+a)),.val (.int (1+b)),.val (.int o),.val (.int tp),.own (.lst []),.no,.no,.no,.no] {[],_,_,_,_,rfl,(λz j=>by cases j),(λz j=>by cases j),rfl} (by
  intro i x env T U;let(hi,rfl):=sZ T;let(f,t,u,p,r,hl,s,hd,rfl):=U;let(z,V,W,j,A,e):=MW F k ns k0 B q (1+a) (1+b) o tp (by lia) D R t2 (.lst (f.map .str)) i (1+b).toNat (by lia) p r;have l:(f.map PV.str).length<bS:=dk (m:=6) (by simp! [zzl];lia) (by decide);refine{[.val (mV ns),.val (.int k0),.val (.int q),.val (.int (1+a)),.val (.int (1+b)),.val (.int o),.val (.int tp),.own (.lst ((f++[z]).map .str)),.val (.int i),.val (.str z),V,W],?_,f++[z],_,_,_,_,by simp;lia,?_,?_,rfl}
  .have C:=e;simp! only [Ke] at C;simp! [zzl] at l;simp! only [LF,Ke,S,C,zzl,l,List.map_append]
  .intro y g;simp! [List.mem_append,d6] at g;rcases g with g|rfl
   .exact s y g
   .exact j
  .intro y g;simp! [List.mem_append,d6] at g;rcases g with g|rfl
   .exact hd y g
   .exact A)
 have wb:f.length=(1+a).toNat:=by simpa [fH] using hl
 refine{f,(1+b).toNat,{{by lia,λz j=>by rw [s z j];lia},by lia,by lia,s,hd},?_};simp! only [LF,Ke] at e;simp! only [cy,cy,E,G,H,L,O,Q,sa,e]
def DN{a:List Str}{w:Nat}(L:Fl a w){i:Nat}(d:i<a.length)(b:j<w):∃x,cd a i j=fP x:=by have c:a[i]?=fP a[i]:=zzg d;have hl:=L.d9 _ (a7 c);refine{(a[i]).cps.toList[j]'(by simp! [d3];rw [<-hl] at b;exact b),?_};unfold cd;rw [c];exact zzg _
theorem join_one:∀xs:List Nat,Str.join ({#[]}:Str) (xs.map λx=>({#[x]}:Str))=⟨xs.toArray⟩
 |[]=>rfl|[x]=>rfl|x::y::r=>by have a:=join_one (y::r);show({#[x]}:Str)++{#[]}++Str.join {#[]} ((y::r).map λx=>({#[x]}:Str))=_;rw [a];show({#[x]++#[]++(y::r).toArray}:Str)=_;simp
def qH(xs:List Nat):Txt.join "" (xs.map λx=>({#[x]}:Str))=⟨xs.toArray⟩:=by unfold Txt.join;rw [StrLaws.glued_eq_join,show(("":Str))={#[]} by decide+kernel];exact join_one xs
theorem mJ:za .join [.str z,.lst xs]=(Res.of (strsOf xs)).bind λys=>if z.length<=16/\(ys.map (·.length)).sum+ys.length<=bS then .ok (.str (Txt.join z ys)) else .bad:=rfl
theorem mK:yW .join (.str z)=gf:=rfl
theorem strs_map:∀a:List Str,strsOf (a.map .str)=fP a
 |[]=>rfl|z::a=>by simp! [bc,strsOf,strs_map a,Option.map_some]
theorem zK:∀xs:List Nat,((xs.map λx=>({#[x]}:Str)).map (·.length)).sum=xs.length
 |[]=>rfl|x::xs=>by have:=zK xs;simp! [bc,List.sum_cons,cC,this];show 1+xs.length=_;lia
def DO(z:Str)(c:Nat):pZ (.str {#[c]}) (.str z)=.ok (.bl (decide (c∈z.cps.toList))):=by show Res.ok (PV.bl (!(i1.Str.occurrences z {#[c]} 0 z.length 1).isEmpty))=_;rw [StrLaws.found_one]
abbrev BG(a:List Str)(c:Nat):List Nat:=a.reverse.map λz=>z.cps.toList.getD c 0
abbrev rf(a:List Str)(w:Nat):List Str:=(List.range w).map λc=>{(BG a c).toArray}
abbrev m9(a:List Str):List Str:=a.map l7
def tV(a:List Str)(w:Nat):(rf a w).length=w:=by simp [rf]
theorem v3(a:List Str)(w:Nat):∀z∈rf a w,z.length=a.length:=λz b=>by let(c,_,rfl):=ew.1 b;show(BG a c).toArray.size=_;simp [BG]
def vM(z:Str):(l7 z).length=z.length:=by show z.cps.toList.reverse.toArray.size=z.cps.size;simp
def y9(a:List Str):(m9 a).length=a.length:=by simp [m9]
abbrev tB:Ss:=#v[.app 2 (.fg .join (.cst (.str "")) #v[.comp 1 [3] (.one 0) (.seq (!1)) (.sub (!0) (!1))])]
def FT(F:aP){a:List Str}{w:Nat}(b:a.length<=12)(c:∀z∈a,z.length=w)(f:w<=12){i:Nat}(h:i<w):aY (λx=>((Tg.one 0).put x [.no,.val (.int i)]).bind λenv'=>(aB F (.sub (.var 0) (.var 1)) env').bind λy=>.ok (fP y)) (a.reverse.map .str)=.ok (((BG a i).map λx=>({#[x]}:Str)).map .str)/\(a.reverse.map PV.str).length<bS/\("":Str).length<=16/\(((BG a i).map λx=>({#[x]}:Str)).map (·.length)).sum+((BG a i).map λx=>({#[x]}:Str)).length<=bS:=by
 refine{?_,dk (m:=12) (zx6 b) (by decide),by decide,?_}
 .unfold BG;rw [List.map_map,List.map_map];refine(dq (p:=PV.str) (g:=λz=>.str {#[z.cps.toList.getD i 0]}) λz d=>?_);have j:=c z (List.mem_reverse.1 d);have e:i<z.cps.toList.length:=by rw [d3];show i<z.length;lia
  have:=tD (z:=z) (i:=i) (x:=z.cps.toList.getD i 0) (di (m:=12) (by lia) (by decide)) (by rw [cB,zzg e];rfl);dsimp! only [this]
 .rw [zK,zzl];refine di (m:=24) ?_ (by decide);simp! [BG,zzl,List.length_reverse];lia
def BK(F:aP){a:List Str}{w:Nat}(hn:0<a.length)(h:a.length<=12)(d:∀z∈a,z.length=w)(k:w<=12):aW F cf [fl a]=.ok (fl (rf a w)):=by
 have o:a[0]?=fP a[0]:=zzg hn;have p:ay (fl a) (.int 0)=.ok (.str a[0]):=j8 (j:=0) o;have f:a[0].length=w:=d _ (List.getElem_mem hn);have lw:a[0].length<=bS:=di (m:=12) (by lia) (by decide);have q:cK (a[0].length:Int)=gf:=by rw [f];simp! [cK,zza,zzN];lia
 have r:(a.map PV.str).reverse=a.reverse.map .str:=by rw [List.map_reverse]
 let(b,e,c,rfl):=iW (body:=λx env=>((Tg.one 3).put x env).bind λb=>bM F tB b) (P:=λi env=>∃c:Ci.Slot,env=[.val (fl a),.val (.lst (a.reverse.map .str)),.own (.lst ((rf a i).map .str)),c])
  (fH 0 w) 0 [.val (fl a),.val (.lst (a.reverse.map .str)),.own (.lst []),.no] {_,rfl} (by
  intro i x env s t;let(u,rfl):=sZ s;let(c,rfl):=t;let(g,y,A):=FT F h d k u;have B:((rf a i).map PV.str).length<bS:=dk (m:=12) (by rw [zzl,tV];lia) (by decide);refine{[.val (fl a),.val (.lst (a.reverse.map .str)),.own (.lst ((rf a (i+1)).map .str)),.val (.int i)],?_,_,by rw [Nat.zero_add]};have ts:(rf a (i+1)).map PV.str=(rf a i).map .str++[.str {(BG a i).toArray}]:=by unfold rf;rw [List.range_succ,List.map_append,List.map_append];rfl
  rw [ts];dsimp! only [J] at g;rw [Nat.zero_add] at *;dsimp! only [tB,y,g,mK,mJ,strs_map,A,qH,B,and_self])
 have C:(fH 0 w).length=w:=by simp [fH]
 rw [C,Nat.zero_add] at e;have tn:(a[0].length:Int).toNat=w:=by rw [f];rfl
 dsimp! only [tB] at e;dsimp! only [cf,r,p,lw,q,tn,e]
def Ej(F:aP){a:List Str}(b:a.length<=12)(c:∀z∈a,z.length<=12):aY (λx=>((Tg.one 0).put x [.no]).bind λenv'=>(aB F (.rev (.var 0)) env').bind λy=>.ok (fP y)) (a.map .str)=.ok ((m9 a).map .str)/\(a.map PV.str).length<bS:=by refine{?_,dk (m:=12) (zx6 b) (by decide)};unfold m9;rw [List.map_map];refine dq (p:=PV.str) (g:=λz=>.str (l7 z)) λz d=>?_;have e:z.length<=bS:=di (c z d) (by decide);simp! only [e]
def vm(F:aP){a:List Str}(c:a.length<=12)(d:∀z∈a,z.length<=12):aW F bI [fl a]=.ok (fl (m9 a)):=by let(b,e):=Ej F c d;simp! only [] at b;simp! only [bI,e,b]
theorem lR:∀bs:List Bool,boolsOf (bs.map .bl)=fP bs
 |[]=>rfl|b::bs=>by simp! [bc,boolsOf,lR bs,Option.map_some]
def OA(F:aP){x:Nat}(h:x=35\/(48<=x/\x<=57)):aW F dv [.str {#[x]}]=.ok (.bl gf):=by
 have a:pZ (.str {#[x]}) (.str (zu 35))=.ok (.bl gf):=by
  rw [DO];have:((zu 35:Str)).cps.toList=[35,48,49,50,51,52,53,54,55,56,57]:=by decide+kernel
  rw [this];have:x∈[35,48,49,50,51,52,53,54,55,56,57]:=by simp! [ef,List.not_mem_nil,or_false];lia
  simp! [this,decide_true]
 have b:({#[x]}:Str).length=1:=rfl;have c:1<=bS:=by decide
 simp! only [dv,b,c,a];rfl
def Oh(F:aP)(hs:∀x,x=35\/(48<=x/\x<=57)->F (zu 49) [.str {#[x]}]=.ok (.bl gf))(k:1<=z.length)(b:z.length<=12)(hd:∀x∈z.cps.toList,x=35\/(48<=x/\x<=57)):aW F gj [.str z]=.ok (.bl gf):=by
 have d:aY (λx=>((Tg.one 0).put x [.no]).bind λa=>(aB F (.call (zu 49) (.cons (.var 0) .nil)) a).bind λy=>.ok (fP y)) (chars z)=.ok ((z.cps.toList.map λZ=>gf).map .bl):=by rw [List.map_map];refine dq (p:=λc=>PV.str {#[c]}) (g:=λZ=>.bl gf) λx e=>?_;simp! only [hs x (hd x e)]
 have lz:z.length<=bS:=di b (by decide);have f:(chars z).length<bS:=dk (m:=12) (by show(z.cps.toList.map _).length<=12;rw [zzl,d3];exact b) (by decide);have h:decide ((1:Int)<=(z.length:Int))=gf:=by rw [zzN];lia
 have i:decide ((z.length:Int)<=12)=gf:=by rw [zzN];lia
 have j:(z.cps.toList.map λZ=>gf).all id=gf:=by rw [List.all_map,c8];exact λZ Z=>rfl
 have sq:xI (.var 0) (.str z)=.ok (chars z):=rfl;simp! only [] at d;simp! only [gj,lz,h,i,sq,f,d,lR,j]
def Hj(F:aP)(hs:∀z:Str,1<=z.length->z.length<=12->(∀x∈z.cps.toList,x=35\/(48<=x/\x<=57))->F "is_row" [.str z]=.ok (.bl gf)){a:List Str}{w:Nat}(L:Fl a w):aW F dY [fl a]=.ok (.bl gf):=by
 have d:=L.ne;have B:=L.jj.1;have w1:=L.w1;have C:w<=12:=by have:=L.jj.2 _ (List.getElem_mem d);have:=L.d9 _ (List.getElem_mem d);lia
 have h:a[0]?=fP a[0]:=zzg d;have i:ay (fl a) (.int 0)=.ok (.str a[0]):=j8 (j:=0) h;have k:=L.d9 _ (List.getElem_mem d);have lw:a[0].length<=bS:=di (m:=12) (by lia) (by decide);have e:aY (λx=>((Tg.one 0).put x [.no]).bind λb=>(aB F (.call "is_row" (.cons (.var 0) .nil)) b).bind λy=>.ok (fP y)) (a.map .str)=.ok ((a.map λZ=>gf).map .bl):=by rw [List.map_map];refine dq (p:=PV.str) (g:=λZ=>.bl gf) λz c=>?_;have:=hs z (by rw [L.d9 z c];exact w1) (by rw [L.d9 z c];lia) (L.dig z c);simp! only [this]
 have f:aY (λx=>((Tg.one 0).put x [.no,.val (fl a)]).bind λb=>(aB F (.cmp .eq (.blt .len (.cons (.var 0) .nil)) (.blt .len (.cons (.sub (.var 1) (.cst (.int 0))) .nil))) b).bind λy=>.ok (fP y)) (a.map .str)=.ok ((a.map λZ=>gf).map .bl):=by
  rw [List.map_map];refine dq (p:=PV.str) (g:=λZ=>.bl gf) λz c=>?_;have o:=L.d9 z c;have q:z.length<=bS:=di (m:=12) (by lia) (by decide);have r:((z.length:Int)==(a[0].length:Int))=gf:=by rw [o,k,beq_self_eq_true]
  simp! only [q,i,lw,r]
 have s:(a.map PV.str).length<bS:=dk (m:=12) (by rw [zzl];lia) (by decide);have t:decide ((1:Int)<=((a.map PV.str).length:Int))=gf:=by rw [zzN,zzl];lia
 have u:decide (((a.map PV.str).length:Int)<=12)=gf:=by rw [zzN,zzl];lia
 have A:(a.map λZ=>gf).all id=gf:=by rw [List.all_map,c8];exact λZ Z=>rfl
 simp! only [] at e f;simp! only [dY,t,u,s,e,lR,A,f]
def Iq{a:List Str}{w:Nat}(h:z∈rf a w):∃c,c<w/\z={(BG a c).toArray}:=by let(c,b,rfl):=ew.1 h;exact{c,List.mem_range.1 b,rfl}
def LQ{a:List Str}{w:Nat}(L:Fl a w):Fl (rf a w) a.length:=by
 have e:=L.ne;have h:w<=12:=by have:=L.jj.2 _ (List.getElem_mem e);have:=L.d9 _ (List.getElem_mem e);lia
 refine{{by rw [tV];exact h,λz f=>by rw [v3 _ _ z f];exact L.jj.1},by rw [tV];exact L.w1,e,v3 _ _,λz f x b=>?_};let(c,i,rfl):=Iq f;have b:x∈BG a c:=zx6 b;unfold BG at b;let(y,d,rfl):=ew.1 b;have d:=List.mem_reverse.1 d;have hl:=L.d9 y d;have g:c<y.cps.toList.length:=by rw [d3];show c<y.length;lia
 rw [cB,zzg g];exact L.dig y d _ (List.getElem_mem g)
def LP{c:List Str}{w:Nat}(L:Fl c w):Fl (m9 c) w:=by
 have hm:∀z∈m9 c,∃y∈c,z=l7 y:=λz a=>by let(y,b,rfl):=ew.1 a;exact⟨y,b,rfl⟩
 refine{{by rw [y9];exact L.jj.1,λz a=>?_},by rw [y9];exact L.ne,L.w1,λz a=>?_,λz a x d=>?_}
 .let(y,b,rfl):=hm z a;rw [vM];exact L.jj.2 y b
 .let(y,b,rfl):=hm z a;rw [vM];exact L.d9 y b
 .let(y,b,rfl):=hm z a;have d:x∈y.cps.toList:=by have:x∈(y.cps.toList.reverse.toArray).toList:=d;simpa using this
  exact L.dig y b x d
def B8{A B:List Str}(b:A.length<=12)(c:B.length<=12):binOp .add (fl A) (fl B)=.ok (fl (A++B)):=by have a:(A.map PV.str).length+(B.map PV.str).length<=bS:=di (m:=24) (by rw [zzl,zzl];lia) (by decide);show(if _ then _ else _)=_;rw [if_pos a];show _=Res.ok (PV.tup ((A++B).map .str));rw [List.map_append]
def Ga{A B:List Str}(a:A.length<=12):oY [fl A,fl B]=fP [A.map .str,B.map .str]/\(qf [A.map PV.str,B.map PV.str]).length<bS:=by refine{rfl,dk (m:=12) ?_ (by decide)};show((List.range (min (A.map PV.str).length (B.map PV.str).length)).map _).length<=12;rw [zzl,List.length_range,zzl];lia
def zT(F:aP){a b:List Str}{w:Nat}(hl:a.length=b.length)(e:∀z∈a,z.length<=12)(f:∀z∈b,z.length<=12):aY (λx=>((Tg.two 0 1).put x [.no,.no]).bind λenv'=>(aB F (.bin .add (.var 0) (.var 1)) env').bind λy=>.ok (fP y)) (qf [a.map .str,b.map .str])=.ok ((List.zipWith (·++·) a b).map .str):=by
 have h:qf [a.map .str,b.map .str]=(List.range a.length).map λi=>.tup [.str (a.getD i {#[]}),.str (b.getD i {#[]})]:=by
  unfold qf;have:oG [a.map PV.str,b.map PV.str]=a.length:=by show min (a.map PV.str).length (b.map PV.str).length=_;rw [zzl,zzl,hl,Nat.min_self]
  rw [this];refine List.map_congr_left λi c=>?_;have c:=List.mem_range.1 c;have d:i<b.length:=by lia
  simp! [bc,List.map_nil,cB,c4,zzg c,zzg d,Option.map_some,Option.getD_some]
 rw [h,dq (p:=λi=>.tup [.str (a.getD i {#[]}),.str (b.getD i {#[]})]) (g:=λi=>.str (a.getD i {#[]}++b.getD i {#[]})) λi c=>?_]
 .congr 1
  refine List.ext_getElem? λi=>?_;rw [c4,c4,List.getElem?_zipWith];by_cases c:i<a.length
  .have d:i<b.length:=by lia
   rw [List.getElem?_range c,zzg c,zzg d];simp! [Option.map_some,cB,zzg c,zzg d,Option.getD_some]
  .rw [List.getElem?_eq_none (by rw [List.length_range];lia),List.getElem?_eq_none (l:=a) (by lia)];rfl
 .have c:=List.mem_range.1 c;have d:i<b.length:=by lia
  have g1:a.getD i {#[]}=a[i]:=by rw [cB,zzg c];rfl
  have g2:b.getD i {#[]}=b[i]:=by rw [cB,zzg d];rfl
  rw [g1,g2];have j:=e _ (List.getElem_mem c);have k:=f _ (List.getElem_mem d);have h3:a[i].length+b[i].length<=bS:=di (m:=24) (by lia) (by decide);simp! only [h3]
abbrev KL(z:Str)(j x:Nat):Str:={(z.cps.toList.set j x).toArray}
abbrev xQ(a:List Str)(i j x:Nat):List Str:=a.set i (KL (a.getD i "") j x)
def Xh(x:Nat):Prop:=x=35\/(48<=x/\x<=57)
def FG(a:List Str)(i j x:Nat):(xQ a i j x).length=a.length:=List.length_set
def Sx{b:List Str}{w:Nat}(L:Fl b w)(i j:Nat){x:Nat}(f:Xh x):Fl (xQ b i j x) w:=by
 have c:∀z∈xQ b i j x,z.length=w/\∀y∈z.cps.toList,y=35\/(48<=y/\y<=57):=λz a=>by
  by_cases d:i<b.length
  .have e:b.getD i ""=b[i]:=by simp [cB,zzg d]
   have hm:=List.getElem_mem d
   unfold xQ at a;rw [e] at a;rcases List.mem_or_eq_of_mem_set a with h|h
   .exact{L.d9 z h,L.dig z h}
   .subst h;refine{?_,λy k=>?_}
    .rw [<-L.d9 _ hm];show((b[i]).cps.toList.set j x).toArray.size=(b[i]).cps.size;simp
    .rcases List.mem_or_eq_of_mem_set (show y∈(b[i]).cps.toList.set j x from by simpa [KL] using k) with g|g
     .exact L.dig _ hm y g
     .rw [g];exact f
  .unfold xQ at a;rw [List.set_eq_of_length_le (by lia)] at a;exact{L.d9 z a,L.dig z a}
 have m:w<=12:=by have h3:=L.jj.2 _ (List.getElem_mem L.ne);rw [L.d9 _ (List.getElem_mem L.ne)] at h3;exact h3
 refine{{by rw [FG];exact L.jj.1,λz a=>by rw [(c z a).1];exact m},by rw [FG];exact L.ne,L.w1,λz a=>(c z a).1,λz a=>(c z a).2}
def Ls{a:Type}(xs:List a){k:Nat}(h:k<=xs.length):mG xs gd (fP (k:Int))=xs.take k:=by unfold mG;rw [HT.zE,HT.vP,List.drop_zero,Nat.min_eq_left h,Nat.sub_zero]
def Lr{a:Type}(xs:List a){k:Nat}(h:k<=xs.length):mG xs (fP (k:Int)) gd=xs.drop k:=by unfold mG;rw [HT.zE,HT.vP,Nat.min_eq_left h];exact List.take_of_length_le (by simp)
def Oi(x:Nat)(h:j<z.length):Txt.slice z gd (fP (j:Int))++({#[x]}:Str)++Txt.slice z (fP ((j:Int)+1)) gd=KL z j x:=by
 have a:=Cw.Ft z j (by lia);have b:=Cw.Fs z (j+1) (by lia);have hl:j<z.cps.toList.length:=by rw [d3];exact h
 show Str.mk ((Txt.slice z gd (fP (j:Int))).cps++#[x]++(Txt.slice z (fP ((j:Int)+1)) gd).cps)=KL z j x;unfold KL
 congr 1
 apply Array.toList_inj.1;rw [List.set_eq_take_append_cons_drop,if_pos hl];simp! [Array.toList_append,a,List.append_assoc,List.cons_append,List.nil_append]
 congr 2
theorem Yy{a b:Option Int}:gQ (.str z) a b=if z.length<=bS then .ok (.str (Txt.slice z a b)) else .bad:=rfl
theorem Yz{a b:Option Int}:gQ (.tup xs) a b=.ok (.tup (mG xs a b)):=rfl
theorem Xp{y:Str}:binOp .add (.str x) (.str y)=if x.length+y.length<=bS then .ok (.str (x++y)) else .bad:=rfl
theorem Xq{x y:List PV}:binOp .add (.tup x) (.tup y)=if x.length+y.length<=bS then .ok (.tup (x++y)) else .bad:=rfl
def Ff{c:List Str}{w:Nat}(L:Fl c w){i:Nat}(x:Nat)(d:i<c.length)(f:j<w):ay (fl c) (.int (i:Int))=.ok (.str c[i])/\(c[i]).length<=bS/\(Txt.slice c[i] gd (fP (j:Int))).length+({#[x]}:Str).length<=bS/\(Txt.slice c[i] gd (fP (j:Int))++({#[x]}:Str)).length+(Txt.slice c[i] (fP ((j:Int)+1)) gd).length<=bS/\mG (c.map PV.str) gd (fP (i:Int))=(c.map .str).take i/\mG (c.map PV.str) (fP ((i:Int)+1)) gd=(c.map .str).drop (i+1)/\((c.map PV.str).take i).length+1<=bS/\((c.map PV.str).take i++[PV.str (KL c[i] j x)]).length+((c.map PV.str).drop (i+1)).length<=bS/\Txt.slice c[i] gd (fP (j:Int))++({#[x]}:Str)++Txt.slice c[i] (fP ((j:Int)+1)) gd=KL c[i] j x/\fl (xQ c i j x)=.tup (((c.map .str).take i++[.str (KL c[i] j x)])++(c.map .str).drop (i+1)):=by
 have g:=L.d9 _ (List.getElem_mem d);have h:=L.jj.2 _ (List.getElem_mem d);have a:=Txt.slice_le c[i] gd (fP (j:Int));have b:=Txt.slice_le c[i] (fP ((j:Int)+1)) gd;have m:bS=1000000:=rfl;have e:({#[x]}:Str).length=1:=rfl;have o:=L.jj.1;have hm:(c.map PV.str).length=c.length:=zzl _;refine{j8 (zzg d),by lia,by lia,by rw [Str.length_append];lia,Ls _ (by lia),?_,by rw [List.length_take];lia,by simp;lia,Oi x (show j<(c[i]).length by lia),?_}
 .have:=Lr (c.map PV.str) (k:=i+1) (by lia);rw [Int.natCast_add,Int.natCast_one] at this;exact this
 .unfold xQ fl;rw [List.set_eq_take_append_cons_drop,if_pos d];simp [cB,zzg d,List.map_take,List.map_drop]
def F6(F:aP){a:List Str}{w:Nat}(L:Fl a w){i:Nat}(x:Nat)(b:i<a.length)(c:j<w):aW F dy [fl a,sp i j,.str {#[x]}]=.ok (fl (xQ a i j x)):=by let(d,c1,e,f,g,t2,h,k,q,m):=Ff L x b c;rw [m];simp! only [dy,d,Yy,Yz,Xp,Xq,if_pos c1,if_pos e,if_pos f,q,g,t2,if_pos h,if_pos k]
def NC(F:aP)(hs:∀r c,F "is_spot" [sp r c]=.ok (.bl gf))(b:∀a,PR a->∀r c,F (zu 18) [fl a,sp r c]=.ok (.bl (decide (0<=r)&&decide (0<=c)&&(cd a r.toNat c.toNat).isSome))){a:List Str}{w:Nat}(L:Fl a w){i:Nat}(d:i<a.length)(f:j<w):aW F bf [fl a,sp i j]=.ok .aN:=by let(x,g):=DN L d f;have e:=b a L.jj i j;rw [eF,eF,g,zzh (Int.natCast_nonneg i),zzh (Int.natCast_nonneg j)] at e;have e:F (zu 18) [fl a,sp i j]=.ok (.bl gf):=e;simp! only [bf,hs,e,Bool.not_true]
inductive Dd where
 |lay (z:Str) (R:List Str)|take (z:Str)|turn (z:Str)|m9 (z:Str)
 |sign (z:Str) (a b x:Nat)|join (z:Str) (e:Bool) (y1 y2:Str)
abbrev Py:List Nat:=[35,48,51,53,57,120]
abbrev Dd.P:Dd->PV
 |.lay z R=>.tup [.str "lay",.str z,fl R]|.take z=>.tup [.str "take",.str z]|.turn z=>.tup [.str "turn",.str z]|.m9 z=>.tup [.str (zu 27),.str z]|.sign z a b x=>.tup [.str "sign",.str z,sp a b,.str {#[x]}]|.join z e c d=>.tup [.str "join",.str z,.bl e,.str c,.str d]
def Dd.Ok:Dd->Prop
 |.lay z R=>z∈iI/\∃w,Fl R w|.take z=>z∈iI|.turn z=>z∈iI|.m9 z=>z∈iI|.sign z _ _ x=>z∈iI/\x∈Py|.join z _ a b=>z∈iI/\a∈iI/\b∈iI
def Wa{m:Int}(a:0<=m)(b:m<4):∃z,z∈iI/\ay (.lst [.str "a",.str "tu",.str "bcdefg",.str "vwxyz"]) (.int m)=.ok (.str z):=by
 have:m=0\/m=1\/m=2\/m=3:=by lia
 rcases this with rfl|rfl|rfl|rfl
 .exact{"a",.head _,rfl}
 .exact{"tu",.tail _ (.head _),rfl}
 .exact{"bcdefg",.tail _ (.tail _ (.head _)),rfl}
 .exact{"vwxyz",.tail _ (.tail _ (.tail _ (.head _))),rfl}
def sg6{m:Int}(a:0<=m)(b:m<6):∃x,x∈Py/\ay (.str "#0359x") (.int m)=.ok (.str {#[x]}):=by
 have:m=0\/m=1\/m=2\/m=3\/m=4\/m=5:=by lia
 rcases this with rfl|rfl|rfl|rfl|rfl|rfl
 .exact{35,by decide,by kernel_rfl}
 .exact{48,by decide,by kernel_rfl}
 .exact{51,by decide,by kernel_rfl}
 .exact{53,by decide,by kernel_rfl}
 .exact{57,by decide,by kernel_rfl}
 .exact{120,by decide,by kernel_rfl}
def GJ(F:aP):Prop:=∀(ns:List Int) (k:Int),0<=k->∃a w,Fl a w/\F (zu 50) [mV ns,.int k,.int 3]=.ok (fl a)
def Hb(F:aP)(f:lQ F)(H:GJ F)(ns:List Int)(k:Int)(hk:0<=k):∃d:Dd,d.Ok/\aW F bq [mV ns,.int k]=.ok d.P:=by
 let(a,i,I,K):=f ns k 4 hk (by decide);let(b,j,W,X):=f ns (k+1) 10 (by lia) (by decide);let(z,m,o):=Wa I K;by_cases B:b<3
 .let(R,w,L,M):=H ns (k+10) (by lia);refine{.lay z R,⟨m,w,L⟩,?_};have h:decide (b<3)=gf:=zzh B;simp! only [bq,i,j,o,h,M];rfl
 .have h:decide (b<3)=gh:=zz0 B;by_cases C:b<6
  .have p:decide (b<6)=gf:=zzh C;have:b=3\/b=4\/b=5:=by lia
   rcases this with rfl|rfl|rfl
   .refine{.take z,m,?_};have e:ay (.lst [.str "take",.str "turn",.str (zu 27)]) (.int (3-3))=.ok (.str "take"):=rfl;simp! only [bq,i,j,o,h,p,e];rfl
   .refine{.turn z,m,?_};have e:ay (.lst [.str "take",.str "turn",.str (zu 27)]) (.int (4-3))=.ok (.str "turn"):=rfl;simp! only [bq,i,j,o,h,p,e];rfl
   .refine{.m9 z,m,?_};have e:ay (.lst [.str "take",.str "turn",.str (zu 27)]) (.int (5-3))=.ok (.str (zu 27)):=rfl;simp! only [bq,i,j,o,h,p,e];rfl
  .have p:decide (b<6)=gh:=zz0 C;by_cases D:b<8
   .have q:decide (b<8)=gf:=zzh D;let(r,s,t,E):=f ns (k+2) 4 (by lia) (by decide);let(c,u,y,c1):=f ns (k+3) 4 (by lia) (by decide);let(g,A,G,g1):=f ns (k+4) 6 (by lia) (by decide);let(x,N,ex):=sg6 G g1;let(r,rfl):=eu t;let(c,rfl):=eu y;refine{.sign z r c x,⟨m,N⟩,?_};simp! only [bq,i,j,o,h,p,q,s,u,A,ex];rfl
   .have q:decide (b<8)=gh:=zz0 D;let(r,s,t,E):=f ns (k+5) 4 (by lia) (by decide);let(c,u,y,c1):=f ns (k+6) 4 (by lia) (by decide);let(g,A,G,g1):=f ns (k+7) 2 (by lia) (by decide);let(O,Q,S):=Wa t E;let(T,U,V):=Wa y c1;refine{.join z (g==0) O T,⟨m,Q,U⟩,?_};simp! only [bq,i,j,o,h,p,q,s,u,A,S,V];rfl
abbrev wd(R:List Str):Nat:=(R.getD 0 "").length
def gG{w:Nat}(L:Fl R w):wd R=w:=by have a:=L.ne;unfold wd;rw [cB,zzg a];exact L.d9 _ (List.getElem_mem a)
def pR{w:Nat}(L:Fl R w):w<=12:=by have h:=L.jj.2 _ (List.getElem_mem L.ne);rw [L.d9 _ (List.getElem_mem L.ne)] at h;exact h
def vN{w:Nat}(L:Fl R w):∃y,ay (fl R) (.int 0)=.ok (.str y)/\y.length=w/\fq .len [.str y]=.ok (.int w):=by have a:=L.ne;have b:=L.d9 _ (List.getElem_mem a);have c:=pR L;refine{R[0],j8 (j:=0) (zzg a),b,?_};show(if(R[0]).length<=bS then Res.ok (PV.int ((R[0]).length:Int)) else .bad)=_;rw [b,if_pos (di c (by decide))]
def gM(R:List Str):fq .len [fl R]=.ok (.int R.length):=by show Res.ok (PV.int (R.map PV.str).length)=_;rw [zzl]
theorem sJ{i j:Int}:cN .ge (.int i) (.int j)=.ok (.bl (decide (j<=i))):=rfl
def A6(F:aP){w:Nat}(L:Fl R w)(z:Str):aW F aU [fl R,.tup [.str "turn",.str z]]=.ok (.tup [fl (rf R w),fl (rf R w)]):=by
 have e:=L.jj.1;have d:=pR L;let(s,f,_,lw):=vN L;have h:cK (w:Int)=gf:=by simp! [cK,zza,zzN];lia
 have j:(R.map PV.str).reverse=R.reverse.map .str:=by rw [List.map_reverse]
 have co:aY (λx=>((Tg.one 0).put x [.no,.val (fl R)]).bind λa=>(aB F (.fg .join (.cst (.str "")) (.cons (.comp 1 [0] (.one 0) (.seq (.rev (.var 1))) (.sub (.var 0) (.var 1))) .nil)) a).bind λy=>.ok (fP y)) (fH 0 w)=.ok ((rf R w).map .str):=by unfold fH rf;rw [List.map_map];refine dq (p:=λi:Nat=>PV.int (0+(i:Int))) (g:=λc:Nat=>.str {(BG R c).toArray}) λi b=>?_;have b:=List.mem_range.1 b;let(c,k,o):=FT F e L.d9 d b;rw [Int.zero_add];dsimp! only [J] at c;dsimp! only [j,k,c,mK,mJ,strs_map,o,qH,and_self]
 have q:(fH 0 w).length<bS:=dk (m:=12) (by simpa [fH] using d) (by decide);have s0:ay (.tup [.str "turn",.str z]) (.int 0)=.ok (.str "turn"):=rfl;have r:gN (.str "turn") (.str "turn")=.ok (.bl gf):=by kernel_rfl
 dsimp! only [J] at co;dsimp! only [aU,s0,r,f,lw,h,eF,q,co]
def Ef(F:aP){w:Nat}(L:Fl R w)(z:Str):aW F aU [fl R,.tup [.str (zu 27),.str z]]=.ok (.tup [fl (m9 R),fl (m9 R)]):=by
 let(a,b):=Ej F L.jj.1 L.jj.2;have s0:ay (.tup [.str (zu 27),.str z]) (.int 0)=.ok (.str (zu 27)):=rfl;have c:gN (.str (zu 27)) (.str "turn")=.ok (.bl gh):=by kernel_rfl
 have t2:gN (.str (zu 27)) (.str (zu 27))=.ok (.bl gf):=by kernel_rfl
 simp! only [] at a;simp! only [aU,s0,c,t2,b,a]
def SW{x:Nat}:gN (.str {#[x]}) (.str "x")=.ok (.bl (x==120)):=by
 have:(("x":Str))={#[120]}:=by decide+kernel
 rw [this];show Res.ok (PV.bl (({#[x]}:Str)=={#[120]}))=_
 congr 2
 rw [Bool.eq_iff_iff];simp
def A5(F:aP){w:Nat}(L:Fl R w)(z:Str)(a b x:Nat):aW F aU [fl R,.tup [.str "sign",.str z,sp a b,.str {#[x]}]]=
 .ok (if a<R.length/\b<w then(if x=120 then .tup [fl R,.str "no sign"] else .tup [fl (xQ R a b x),.tup [.str {#[(cd R a b).getD 0]}]]) else .tup [fl R,.str "no spot"]):=by
 have H:=L.jj.1;have I:=pR L;let(K,e,_,lw):=vN L;have s0:ay (.tup [.str "sign",.str z,sp a b,.str {#[x]}]) (.int 0)=.ok (.str "sign"):=rfl;have f:ay (.tup [.str "sign",.str z,sp a b,.str {#[x]}]) (.int 2)=.ok (sp a b):=rfl;have g:ay (.tup [.str "sign",.str z,sp a b,.str {#[x]}]) (.int 3)=.ok (.str {#[x]}):=rfl;have i:gN (.str "sign") (.str "turn")=.ok (.bl gh):=by kernel_rfl
 have t2:gN (.str "sign") (.str (zu 27))=.ok (.bl gh):=by kernel_rfl
 have j:=gM R;by_cases c:a<R.length
 .have d:decide ((R.length:Int)<=(a:Int))=gh:=by rw [decide_eq_false_iff_not];lia
  by_cases k:b<w
  .have m:decide ((w:Int)<=(b:Int))=gh:=by rw [decide_eq_false_iff_not];lia
   rw [if_pos ⟨c,k⟩];by_cases o:x=120
   .have r:gN (.str {#[x]}) (.str "x")=.ok (.bl gf):=by rw [SW,o];rfl
    rw [if_pos o];dsimp! only [aU,s0,f,g,i,t2,e,lw,j,sJ,d,m,r]
   .have r:gN (.str {#[x]}) (.str "x")=.ok (.bl gh):=by rw [SW,beq_eq_false_iff_ne.2 o]
    rw [if_neg o];let(s,c1,t,u,y,A,B,C,q,D):=Ff L x c k;let(v,p):=DN L c k;have E:(R[a]).cps.toList[b]?=fP v:=by unfold cd at p;rw [zzg c] at p;exact p
    have G:=tD c1 E;rw [D,p];dsimp! only [aU,s0,f,g,i,t2,e,lw,j,sJ,d,m,r,s,Yy,Yz,Xp,Xq,if_pos c1,if_pos t,if_pos u,q,y,A,if_pos B,if_pos C,G,Option.getD_some]
  .have m:decide ((w:Int)<=(b:Int))=gf:=by rw [zzN];lia
   rw [if_neg (λh=>k h.2)];dsimp! only [aU,s0,f,g,i,t2,e,lw,j,sJ,d,m]
 .have d:decide ((R.length:Int)<=(a:Int))=gf:=by rw [zzN];lia
  rw [if_neg (λh=>c h.1)];dsimp! only [aU,s0,f,g,i,t2,e,lw,j,sJ,d]
noncomputable abbrev DD:=List (Str×List Str)
variable{D:DD}
abbrev gv(z:Str):DD->Option (List Str)
 |[]=>gd|q::D=>if q.1=z then fP q.2 else gv z D
noncomputable abbrev cg(D:DD):List Str:=D.map (·.1)
noncomputable abbrev kg(D:DD):List PV:=D.map λq=>fl q.2
noncomputable abbrev dc(D:DD):PV:=.cA (cg D) (kg D)
abbrev rest(z:Str)(D:DD):DD:=D.filter λq=>decide (q.1≠z)
theorem oh(z:Str):∀D:DD,bJ (cg D) (kg D) z=(gv z D).map fl
 |[]=>by unfold bJ;rfl|q::D=>by
  show bJ (q.1::cg D) (fl q.2::kg D) z=_;unfold bJ gv;by_cases e:q.1=z
  .rw [if_pos e,if_pos e];rfl
  .rw [if_neg e,if_neg e];exact oh z D
theorem og(z:Str):∀D:DD,dN (cg D) z=(gv z D).isSome
 |[]=>rfl|q::D=>by
  show dN (q.1::cg D) z=_;unfold dN gv;rw [List.any_cons];by_cases e:q.1=z
  .rw [if_pos e,zzh e];rfl
  .rw [if_neg e,zz0 e];exact og z D
theorem r6:∀{D:DD},gv z D=gd↔z∉cg D
 |[]=>by simp [gv]|q::D=>by
  unfold gv;by_cases e:q.1=z
  .rw [if_pos e];simp [e]
  .rw [if_neg e,r6 (D:=D)];simp [Ne.symm e]
def MB(nd:(cg D).Nodup){q:Str×List Str}(h:q∈D):gv q.1 D=fP q.2:=by
 induction D with
 |nil=>cases h
 |cons p D b=>
  have a:=List.nodup_cons.1 nd
  unfold gv;rcases ef.1 h with rfl|h
  .rw [if_pos rfl]
  .have:p.1≠q.1:=λe=>a.1 (by show p.1∈_;rw [e];exact List.mem_map_of_mem h);rw [if_neg this];exact b a.2 h
def Ki(h:gv z D=fP R):(z,R)∈D:=by
 induction D with
 |nil=>cases h
 |cons p D a=>
  unfold gv at h;by_cases e:p.1=z
  .rw [if_pos e] at h;cases h;rw [<-e];exact .head _
  .rw [if_neg e] at h;exact .tail _ (a h)
theorem zC(z:Str)(D:DD):z∉cg (rest z D):=λh=>by let(q,a,e):=ew.1 h;have:=(List.mem_filter.1 a).2;rw [zzN] at this;exact this e
def zA(nd:(cg D).Nodup):(cg (rest z D)).Nodup:=(List.filter_sublist.map _).nodup nd
def Fm(z:Str)(D:DD):(rest z D).length<=D.length:=List.length_filter_le ..
def r9(z y:Str)(D:DD):gv y (rest z D)=if y=z then gd else gv y D:=by
 induction D with
 |nil=>unfold rest gv;simp|cons p D a=>
  unfold rest at a⊢;rw [eA];by_cases e:p.1=z
  .rw [if_neg (by simp [e]),a];by_cases h:y=z
   .rw [if_pos h,if_pos h]
   .rw [if_neg h,if_neg h]
    conv=>rhs;unfold gv
    rw [if_neg (λq=>h (q.symm.trans e))]
  .rw [if_pos (by simp [e])]
   conv=>lhs;unfold gv
   by_cases h:p.1=y
   .rw [if_pos h,if_neg (λq=>e (h.trans q))];unfold gv;rw [if_pos h]
   .rw [if_neg h,a];by_cases k:y=z
    .rw [if_pos k,if_pos k]
    .rw [if_neg k,if_neg k]
     conv=>rhs;unfold gv
     rw [if_neg h]
theorem wY(y:Str)(q:Str×List Str):∀D:DD,gv y (D++[q])=match gv y D with|some R=>fP R|none=>if q.1=y then fP q.2 else gd
 |[]=>by simp! [List.nil_append,gv]|p::D=>by
  rw [List.cons_append];unfold gv;by_cases e:p.1=y
  .rw [if_pos e,if_pos e]
  .rw [if_neg e,if_neg e];exact wY y q D
abbrev yS(e:Bool)(A B:List Str):Option (List Str):=if e=gf then(if A.length=B.length/\wd A+wd B<=12 then fP (List.zipWith (·++·) A B) else gd) else(if wd A=wd B/\A.length+B.length<=12 then fP (A++B) else gd)
noncomputable abbrev wg:PV×Option (Option (List Str)):=(.str "no name",gd)
abbrev Dd.nm:Dd->Str
 |.lay z _=>z|.take z=>z|.turn z=>z|.m9 z=>z|.sign z _ _ _=>z|.join z _ _ _=>z
abbrev act(D:Str->Option (List Str)):Dd->PV×Option (Option (List Str))
 |.lay z R=>(.bl (D z).isSome,fP (fP R))|.take z=>match D z with
  |some R=>(fl R,fP gd)|none=>wg
 |.turn z=>match D z with
  |some R=>(fl (rf R (wd R)),fP (fP (rf R (wd R))))|none=>wg
 |.m9 z=>match D z with
  |some R=>(fl (m9 R),fP (fP (m9 R)))|none=>wg
 |.sign z a b x=>match D z with
  |some R=>if a<R.length/\b<wd R then(if x=120 then(.str "no sign",gd) else(.tup [.str {#[(cd R a b).getD 0]}],fP (fP (xQ R a b x)))) else(.str "no spot",gd)
  |none=>wg
 |.join _ e c d=>match D c with
  |none=>wg|some A=>match D d with
   |none=>wg|some B=>match yS e A B with
    |some C=>(fl C,fP (fP C))|none=>(.str "no fit",gd)
abbrev FZ(z:Str)(D:DD):Option (Option (List Str))->DD
 |none=>D|some gd=>rest z D|some (fP R)=>rest z D++[(z,R)]
def ft{F:aP}{s:Ci.S}{a:Ss}{e1:Sl}(h:dH F s env=.ok (.nx e1)):bM F (.cons s a) env=bM F a e1:=by rw [bM,h];rfl
def sX{F:aP}{s:Ci.S}{a:Ss}(h:dH F s env=.ok (.rt p)):bM F (.cons s a) env=.ok (.rt p):=by rw [bM,h];rfl
def nk{F:aP}{d:Def}{as:List PV}(a:fj d as=gf)(h:bM F d.body (fC d as)=.ok (.rt p)):aW F d as=.ok p:=by unfold aW;rw [if_pos a,h];rfl
theorem RD{a b:Str}:hX (.str a) (.str b)=.ok (.bl (!(a==b))):=rfl
theorem BU{a b:Str}:gN (.str a) (.str b)=.ok (.bl (a==b)):=rfl
theorem qy(F:aP)(D:DD)(z:Str)(dp:PV)(a:ay dp (.int 1)=.ok (.str z)):∀E:DD,(∀q∈E,gv q.1 D=fP q.2)->aY (λx=>((Tg.one 0).put x [.no,.val (dc D),.val dp]).bind λenv'=>(aB F (.cmp .ne (.var 0) (.sub (.var 2) (.cst (.int 1)))) env').bind λt=>wy t λt=>if t then(aB F (.tup (.cons (.var 0) (.cons (.sub (.var 1) (.var 0)) .nil))) env').bind λy=>.ok (fP y) else .ok gd) ((cg E).map gL)=.ok ((rest z E).map λq=>.tup [.str q.1,fl q.2])
 |[],_=>rfl|q::E,h=>by
  have c:=qy F D z dp a E λp d=>h p (.tail _ d);have f:ay (dc D) (.str q.1)=.ok (fl q.2):=by show(Res.of (fz (.str q.1))).bind (λk=>Res.of (bJ (cg D) (kg D) k))=_;show Res.of (bJ (cg D) (kg D) q.1)=_;rw [oh,h q (.head _)];rfl
  unfold rest at c⊢;rw [eA];show aY _ (gL q.1::(cg E).map gL)=_;rw [aY,c];by_cases e:q.1=z
  .have b:(q.1==z)=gf:=zzy.2 e;rw [if_neg (by simp [e])];simp! only [gL,a,RD,b];rfl
  .have b:(q.1==z)=gh:=beq_eq_false_iff_ne.2 e;rw [if_pos (by simp [e])];simp! only [gL,a,RD,b,f];rfl
theorem E6:∀D:DD,vI (D.map λq=>.tup [.str q.1,fl q.2])=fP (D.map λq=>(q.1,fl q.2))
 |[]=>rfl|q::D=>by rw [bc,vI,E6 D];rfl
def DA(h:z∉ks):dN ks z=gh:=by unfold dN;rw [List.any_eq_false];intro y a;rw [zzN];exact λe=>h (by rw [<-e];exact a)
theorem sC:∀(E:DD) (ks:List Str) (vs:List PV),(∀q∈E,q.1∉ks)->(cg E).Nodup->cH (E.map λq=>(q.1,fl q.2)) ks vs=(ks++cg E,vs++kg E)
 |[],ks,vs,_,_=>by simp [cH]|q::E,ks,vs,h,nd=>by
  have a:=List.nodup_cons.1 nd;have c:=DA (h q (.head _));rw [bc,cH];show cH _ (eU ks q.1) (df ks vs q.1 (fl q.2))=_;unfold eU df;rw [c];rw [if_neg zzf,if_neg zzf,sC E _ _ (λp b=>?_) a.2]
  .simp
  .rw [List.mem_append,d6]
   rintro (k|k)
   .exact h p (.tail _ b) k
   .exact a.1 (by show q.1∈_;rw [<-k];exact List.mem_map_of_mem b)
abbrev fc:Nat->Ss->Ci.S
 |0,.cons s _=>s|n+1,.cons _ ss=>fc n ss|_,.nil=>.expr (.cst .aN)
abbrev Uy:Ci.S:=fc 0 ag.body
abbrev Td:Ci.S:=fc 1 ag.body
abbrev Pa:Ci.S:=fc 2 ag.body
abbrev Xs:Ci.S:=fc 3 ag.body
abbrev Te:Ci.S:=fc 4 ag.body
abbrev Ac:Ci.S:=fc 5 ag.body
abbrev Uz:Ci.S:=fc 6 ag.body
abbrev UA:Ci.S:=fc 7 ag.body
abbrev Qc:Ci.S:=fc 8 ag.body
theorem yn:ag.body=.cons Uy (.cons Td (.cons Pa (.cons Xs (.cons Te (.cons Ac (.cons Uz (.cons UA (.cons Qc .nil)))))))):=rfl
noncomputable abbrev eB(D:DD)(dp:PV)(E:DD)(a b c d e:Ci.Slot):Sl:=[.val (dc D),.val dp,.own (dc E),a,b,c,d,e]
section
variable(F:aP)(nd:(cg D).Nodup)(hl:D.length<=4)(z:Str)(dp:PV)
include nd hl in
def Ce(c:ay dp (.int 1)=.ok (.str z)):dH F Uy [.val (dc D),.val dp,.no,.no,.no,.no,.no,.no]=.ok (.nx (eB D dp (rest z D) .no .no .no .no .no)):=by
 have a:=qy F D z dp c D λq d=>MB nd d;have e:((cg D).map gL).length<bS:=dk (m:=4) (zx6 hl) (by decide);have sq:xI (.var 0) (dc D)=.ok ((cg D).map gL):=rfl;have f:gX [.lst ((rest z D).map λq=>.tup [.str q.1,fl q.2])]=.ok (dc (rest z D)):=by show(Res.of (vI _)).bind (λb=>Res.ok (PV.cA (cH b [] []).1 (cH b [] []).2))=_;rw [E6];show Res.ok (PV.cA (cH _ [] []).1 (cH _ [] []).2)=_;rw [sC _ _ _ (λZ Z h=>by cases h) (zA nd)];rfl
 simp! only [] at a;simp! only [Uy,fc,ag,sq,e,a,f]
def Lb{w:Str}(a:ay dp (.int 0)=.ok (.str w))(b:(w=="lay")=gh)(env:Sl):dH F Td (.val (dc D)::.val dp::env)=.ok (.nx (.val (dc D)::.val dp::env)):=by simp! only [Td,fc,ag,a,BU,b]
def vX(h:gv z D=fP R):ay (dc D) (.str z)=.ok (fl R):=by show(Res.of (fz (.str z))).bind (λk=>Res.of (bJ (cg D) (kg D) k))=_;show Res.of (bJ (cg D) (kg D) z)=_;rw [oh,h];rfl
def VN:pZ (.str z) (dc D)=.ok (.bl (gv z D).isSome):=by show(Res.of (fz (.str z))).bind (λk=>Res.ok (PV.bl (dN (cg D) k)))=_;show Res.ok (PV.bl (dN (cg D) z))=_;rw [og]
def Kt:oM (.str z) (dc D)=.ok (.bl (!(gv z D).isSome)):=by show(Res.of (fz (.str z))).bind (λk=>Res.ok (PV.bl (!dN (cg D) k)))=_;show Res.ok (PV.bl (!dN (cg D) z))=_;rw [og]
def Sf(R:List Str):(PV.cA (eU (cg (rest z D)) z) (df (cg (rest z D)) (kg (rest z D)) z (fl R)))=dc (rest z D++[(z,R)]):=by unfold eU df;rw [DA (zC z D),if_neg zzf,if_neg zzf];unfold dc cg kg;rw [List.map_append,List.map_append];rfl
include hl in
def Fh(k e:Ci.E)(R:List Str)(a b c d f:Ci.Slot)(hk:aB F k (eB D dp (rest z D) a b c d f)=.ok (.str z))(he:aB F e (eB D dp (rest z D) a b c d f)=.ok (fl R)):dH F (.put 2 k e) (eB D dp (rest z D) a b c d f)=.ok (.nx (eB D dp (rest z D++[(z,R)]) a b c d f)):=by have l:(cg (rest z D)).length<bS:=dk (m:=4) (by rw [zzl];exact di (Fm z D) hl) (by decide);rw [dH,he];show(aB F k (eB D dp (rest z D) a b c d f)).bind _=_;rw [hk];show(if(cg (rest z D)).length<bS then Res.ok (Fl.nx ((eB D dp (rest z D) a b c d f).set 2 (.own (PV.cA (eU (cg (rest z D)) z) (df (cg (rest z D)) (kg (rest z D)) z (fl R)))))) else Res.bad)=_;rw [if_pos l,Sf];rfl
theorem n9(E:DD)(a b c d e:Ci.Slot):dH F (.b9 2) (eB D dp E a b c d e)=.ok (.nx [.val (dc D),.val dp,.val (dc E),a,b,c,d,e]):=rfl
include hl in
def C6(d:ay dp (.int 1)=.ok (.str z))(R:List Str)(q:PV)(a b c:Ci.Slot):bM F (.cons Uz (.cons UA (.cons Qc .nil))) (eB D dp (rest z D) a b c (.val (fl R)) (.val q))=.ok (.rt (.tup [dc (rest z D++[(z,R)]),q])):=by show bM F (.cons (.put 2 (.sub (.var 1) (.cst (.int 1))) (.var 6)) (.cons (.b9 2) (.cons Qc .nil))) _=_;rw [ft (Fh F hl z dp _ _ R a b c _ _ (by simp! only [d]) (by simp! only [])),ft (n9 F dp _ _ _ _ _ _)];refine sX ?_;simp! only [Qc,fc,ag]
include nd hl in
def Ik(R:List Str):aW F ag [dc D,.tup [.str "lay",.str z,fl R]]=.ok (.tup [dc (rest z D++[(z,R)]),.bl (gv z D).isSome]):=by
 have b:ay (.tup [.str "lay",.str z,fl R]) (.int 0)=.ok (.str "lay"):=rfl;have a:ay (.tup [.str "lay",.str z,fl R]) (.int 1)=.ok (.str z):=rfl;have c:ay (.tup [.str "lay",.str z,fl R]) (.int 2)=.ok (fl R):=rfl;have d:(("lay":Str)=="lay")=gf:=by decide+kernel
 have e:dH F Td (eB D (.tup [.str "lay",.str z,fl R]) (rest z D) .no .no .no .no .no)=.ok (.rt (.tup [dc (rest z D++[(z,R)]),.bl (gv z D).isSome])):=by
  have f:aB F (.cmp .eq (.sub (.var 1) (.cst (.int 0))) (.cst (.str "lay"))) (eB D (.tup [.str "lay",.str z,fl R]) (rest z D) .no .no .no .no .no)=.ok (.bl gf):=by simp! only [b,BU,d]
  show dH F (.ite _ _ _) _=_;rw [dH,f];show bM F (.cons (.put 2 _ _) (.cons (.b9 2) (.cons _ .nil))) _=_;rw [ft (Fh F hl z _ _ _ R _ _ _ _ _ (by simp! only [a]) (by simp! only [c])),ft (n9 F _ _ _ _ _ _ _)];refine sX ?_;simp! only [a,VN]
 refine nk rfl ?_;rw [yn];show bM F _ [.val (dc D),.val _,.no,.no,.no,.no,.no,.no]=_;rw [ft (Ce F nd hl z _ a),sX e]
theorem Kc:∀ys:List Str,aY (λx=>((Tg.one 0).put x [.no,.val (dc D)]).bind λenv'=>(aB F (.cmp .Ep (.var 0) (.var 1)) env').bind λt=>wy t λt=>if t then(aB F (.var 0) env').bind λy=>.ok (fP y) else .ok gd) (ys.map .str)=.ok ((ys.filter λy=>!(gv y D).isSome).map .str)
 |[]=>rfl|y::ys=>by
  have a:=Kc ys;rw [bc,aY,a,eA];cases h:(gv y D).isSome
  .simp! only [Kt,h];rfl
  .simp! only [Kt,h];rfl
def TH(ys:List Str):hX (.lst (ys.map .str)) (.lst [])=.ok (.bl (!ys.isEmpty)):=by
 have h:Ci.plain 9 (.lst (ys.map .str))=gf:=by show(ys.map PV.str).all (Ci.plain 8)=gf;rw [List.all_map];exact c8.2 λZ Z=>rfl
 show(if(mB (.lst (ys.map .str))&&mB (.lst []))=gf then Res.ok (PV.bl (!eqv (.lst (ys.map .str)) (.lst []))) else .bad)=_;rw [show mB (.lst (ys.map .str))=gf from h];cases ys<;>rfl
def Lc(ys:List Str)(f:ys.length<=2)(E:DD)(a b c d:Ci.Slot):dH F Xs (eB D dp E (.val (.lst (ys.map .str))) a b c d)=.ok (if(ys.filter λy=>!(gv y D).isSome).isEmpty then .nx (eB D dp E (.val (.lst (ys.map .str))) a b c d) else .rt (.tup [dc D,.str "no name"])):=by
 have e:=Kc F (D:=D) ys;have g:(ys.map PV.str).length<bS:=dk (m:=2) (zx6 f) (by decide);simp! only [] at e;have h:aB F (.cmp .ne (.eQ 1 [0] (.one 0) (.seq (.var 3)) (.cmp .Ep (.var 0) (.var 1)) (.var 0)) (.lst .nil)) (eB D dp E (.val (.lst (ys.map .str))) a b c d)=.ok (.bl (!(ys.filter λy=>!(gv y D).isSome).isEmpty)):=by have:=TH (ys.filter λy=>!(gv y D).isSome);simp! only [g,e,this]
 show dH F (.ite _ _ _) _=_;rw [dH,h];cases(ys.filter λy=>!(gv y D).isSome).isEmpty
 .show bM F _ _=_;refine sX ?_;simp! only []
 .rfl
noncomputable abbrev WT:Ss:=.cons Te (.cons Ac (.cons Uz (.cons UA (.cons Qc .nil))))
noncomputable abbrev FE(D:DD)(dp:PV):Sl:=[.val (dc D),.val dp,.no,.no,.no,.no,.no,.no]
def ym{w:Str}(a:ay dp (.int 0)=.ok (.str w))(b:ay dp (.int 1)=.ok (.str z))(c:(w=="join")=gh)(E:DD):dH F Pa (eB D dp E .no .no .no .no .no)=.ok (.nx (eB D dp E (.val (.lst ([z].map .str))) .no .no .no .no)):=by simp! only [Pa,fc,ag,a,b,RD,c,bc,List.map_nil]
def GR{a b:Str}(c:ay dp (.int 0)=.ok (.str "join"))(h3:ay dp (.int 3)=.ok (.str a))(d:ay dp (.int 4)=.ok (.str b))(E:DD):dH F Pa (eB D dp E .no .no .no .no .no)=.ok (.nx (eB D dp E (.val (.lst ([a,b].map .str))) .no .no .no .no)):=by
 have e:(("join":Str)=="join")=gf:=by decide+kernel
 simp! only [Pa,fc,ag,c,h3,d,RD,e,bc,List.map_nil]
include nd hl in
def xC{w:Str}(ys:List Str)(b:ys.length<=2)(c:ay dp (.int 0)=.ok (.str w))(d:ay dp (.int 1)=.ok (.str z))(e:(w=="lay")=gh)(f:∀E,dH F Pa (eB D dp E .no .no .no .no .no)=.ok (.nx (eB D dp E (.val (.lst (ys.map .str))) .no .no .no .no))):
 bM F ag.body (FE D dp)=if(ys.filter λy=>!(gv y D).isSome).isEmpty then bM F WT (eB D dp (rest z D) (.val (.lst (ys.map .str))) .no .no .no .no) else .ok (.rt (.tup [dc D,.str "no name"])):=by
 rw [yn,ft (Ce F nd hl z dp d),ft (Lb F dp c e _),ft (f _)];have h3:=Lc F (D:=D) dp ys b (rest z D) .no .no .no .no;cases a:(ys.filter λy=>!(gv y D).isSome).isEmpty
 .rw [a] at h3;exact sX h3
 .rw [a] at h3;exact ft h3
include nd hl in
def kZ{w:Str}(a:ay dp (.int 0)=.ok (.str w))(b:ay dp (.int 1)=.ok (.str z))(c:(w=="lay")=gh)(d:(w=="join")=gh)(hn:gv z D=gd):aW F ag [dc D,dp]=.ok (.tup [dc D,.str "no name"]):=by refine nk rfl ?_;show bM F ag.body (FE D dp)=_;rw [xC F nd hl z dp [z] (Nat.le_succ 1) a b c (ym F z dp a b d),eA,hn];rfl
include nd hl in
def oK{w:Str}(a:ay dp (.int 0)=.ok (.str w))(b:ay dp (.int 1)=.ok (.str z))(c:(w=="lay")=gh)(d:(w=="join")=gh)(hn:gv z D=fP R)
 (h:bM F WT (eB D dp (rest z D) (.val (.lst [.str z])) .no .no .no .no)=.ok (.rt q)):aW F ag [dc D,dp]=.ok q:=by
 refine nk rfl ?_;show bM F ag.body (FE D dp)=_;rw [xC F nd hl z dp [z] (Nat.le_succ 1) a b c (ym F z dp a b d),eA,hn];exact h
def wF{w:Str}(f:ay dp (.int 0)=.ok (.str w))(g:(w=="take")=gh)(E:DD)(a b c d e:Ci.Slot):dH F Te (eB D dp E a b c d e)=.ok (.nx (eB D dp E a b c d e)):=by simp! only [Te,fc,ag,f,BU,g]
include nd hl in
def FQ(hn:gv z D=fP R):aW F ag [dc D,.tup [.str "take",.str z]]=.ok (.tup [dc (rest z D),fl R]):=by
 have a:ay (.tup [.str "take",.str z]) (.int 0)=.ok (.str "take"):=rfl;have b:ay (.tup [.str "take",.str z]) (.int 1)=.ok (.str z):=rfl;refine oK F nd hl z _ a b (by decide+kernel) (by decide+kernel) hn ?_;have c:(("take":Str)=="take")=gf:=by decide+kernel
 have d:aB F (.cmp .eq (.sub (.var 1) (.cst (.int 0))) (.cst (.str "take"))) (eB D (.tup [.str "take",.str z]) (rest z D) (.val (.lst [.str z])) .no .no .no .no)=.ok (.bl gf):=by simp! only [a,BU,c]
 refine sX ?_;show dH F (.ite _ _ _) _=_;rw [dH,d];show bM F (.cons (.b9 2) (.cons _ .nil)) _=_;rw [ft (n9 F _ _ _ _ _ _ _)];refine sX ?_;have:=vX z hn;simp! only [b,this]
def GU{w:Str}{a:PV}(c:ay dp (.int 0)=.ok (.str w))(d:ay dp (.int 1)=.ok (.str z))(e:(w=="join")=gh)(hn:gv z D=fP R)(f:F (zu 32) [fl R,dp]=.ok (.tup [a,.tup xs]))(E:DD)(b:Ci.Slot):
 dH F Ac (eB D dp E b .no .no .no .no)=.ok (.nx (eB D dp E b .no .no (.val a) (.val (.tup xs)))):=by
 have hd:=vX z hn;simp! only [Ac,fc,ag,c,d,BU,e,hd,f]
def GV{w:Str}{a:PV}(b:ay dp (.int 0)=.ok (.str w))(d:ay dp (.int 1)=.ok (.str z))(e:(w=="join")=gh)(hn:gv z D=fP R)(f:F (zu 32) [fl R,dp]=.ok (.tup [a,.str c]))(E:DD)(g:Ci.Slot):
 dH F Ac (eB D dp E g .no .no .no .no)=.ok (.rt (.tup [dc D,.str c])):=by
 have hd:=vX z hn;simp! only [Ac,fc,ag,b,d,BU,e,hd,f]
include nd hl in
def oF{w:Str}{a:List Str}{q:List PV}(b:ay dp (.int 0)=.ok (.str w))(c:ay dp (.int 1)=.ok (.str z))(f:(w=="lay")=gh)(g:(w=="take")=gh)(d:(w=="join")=gh)(hn:gv z D=fP R)(h:F (zu 32) [fl R,dp]=.ok (.tup [fl a,.tup q])):aW F ag [dc D,dp]=.ok (.tup [dc (rest z D++[(z,a)]),.tup q]):=by refine oK F nd hl z dp b c f d hn ?_;have e:=GU F z dp b c d hn h (rest z D) (.val (.lst [.str z]));rw [ft (wF F dp b g _ _ _ _ _ _),ft e];exact C6 F hl z dp c a (.tup q) _ _ _
include nd hl in
def yX{w:Str}{a:PV}{q:Str}(b:ay dp (.int 0)=.ok (.str w))(c:ay dp (.int 1)=.ok (.str z))(f:(w=="lay")=gh)(g:(w=="take")=gh)(d:(w=="join")=gh)(hn:gv z D=fP R)(h:F (zu 32) [fl R,dp]=.ok (.tup [a,.str q])):aW F ag [dc D,dp]=.ok (.tup [dc D,.str q]):=by refine oK F nd hl z dp b c f d hn ?_;have e:=GV F z dp b c d hn h (rest z D) (.val (.lst [.str z]));rw [ft (wF F dp b g _ _ _ _ _ _)];exact sX e
end
def WY{A B:List Str}{w a:Nat}(L:Fl A w)(b:Fl B a):∃y,ay (fl (List.zipWith (·++·) A B)) (.int 0)=.ok (.str y)/\fq .len [.str y]=.ok (.int ((w+a:Nat):Int))/\wd (List.zipWith (·++·) A B)=w+a:=by
 have c:=L.ne;have d:=b.ne;have e:(List.zipWith (·++·) A B)[0]?=fP (A[0]++B[0]):=by rw [List.getElem?_zipWith,zzg c,zzg d]
 have l:(A[0]++B[0]:Str).length=w+a:=by rw [Str.length_append,L.d9 _ (List.getElem_mem c),b.d9 _ (List.getElem_mem d)]
 have f:=pR L;have g:=pR b;refine{A[0]++B[0],j8 (j:=0) e,?_,?_}
 .show(if(A[0]++B[0]:Str).length<=bS then Res.ok (PV.int ((A[0]++B[0]:Str).length:Int)) else .bad)=_;rw [l,if_pos (di (m:=24) (by lia) (by decide))]
 .unfold wd;rw [cB,e];exact l
def Uw{A:List Str}(B:List Str){w:Nat}(L:Fl A w):∃y,ay (fl (A++B)) (.int 0)=.ok (.str y)/\fq .len [.str y]=.ok (.int (w:Int))/\wd (A++B)=w:=by
 have a:=L.ne;have e:(A++B)[0]?=fP A[0]:=by rw [ek a,zzg a]
 have l:=L.d9 _ (List.getElem_mem a);have b:=pR L;refine{A[0],j8 (j:=0) e,?_,?_}
 .show(if(A[0]).length<=bS then Res.ok (PV.int ((A[0]).length:Int)) else .bad)=_;rw [l,if_pos (di (m:=24) (by lia) (by decide))]
 .unfold wd;rw [cB,e];exact l
theorem Tx{C:List Str}:cN .is (fl C) .aN=.ok (.bl gh):=rfl
theorem Yg:cN .is .aN .aN=.ok (.bl gf):=rfl
def BS{a b:Nat}:(((a:Int)==(b:Int)))=decide (a=b):=by rw [Bool.eq_iff_iff,zzy,zzN];lia
def M5(F:aP)(z b c:Str)(e:Bool){A B:List Str}{w g:Nat}(L:Fl A w)(k:Fl B g)(R:gv b D=fP A)(S:gv c D=fP B)(E:DD)(N:Ci.Slot):∃T U,dH F Ac (eB D (.tup [.str "join",.str z,.bl e,.str b,.str c]) E N .no .no .no .no)=
 .ok (match yS e A B with|some C=>.nx (eB D (.tup [.str "join",.str z,.bl e,.str b,.str c]) E N T U (.val (fl C)) (.val (fl C)))|none=>.rt (.tup [dc D,.str "no fit"])):=by
 refine{.val (fl A),.val (fl B),?_};have h:ay (.tup [.str "join",.str z,.bl e,.str b,.str c]) (.int 0)=.ok (.str "join"):=rfl;have i:ay (.tup [.str "join",.str z,.bl e,.str b,.str c]) (.int 2)=.ok (.bl e):=rfl;have h3:ay (.tup [.str "join",.str z,.bl e,.str b,.str c]) (.int 3)=.ok (.str b):=rfl;have j:ay (.tup [.str "join",.str z,.bl e,.str b,.str c]) (.int 4)=.ok (.str c):=rfl;have m:(("join":Str)=="join")=gf:=by decide+kernel
 have o:=vX b R;have p:=vX c S;have y:=gM A;have G:=gM B;have O:=L.jj.1;have V:=k.jj.1;have Z:=pR L;have W:=pR k;let(a0,H,_,I):=vN L;let(b0,K,_,lb):=vN k;generalize X:(PV.tup [.str "join",.str z,.bl e,.str b,.str c])=dp at h i h3 j⊢;unfold yS;rw [gG L,gG k];cases e
 .rw [if_neg zzf];by_cases d:w=g
  .have f:decide (w=g)=gf:=zzh d;have P:=B8 O V;let(Y,t,u,_):=Uw B L;have r:=gM (A++B);have g2:decide ((12:Int)<(w:Int))=gh:=by rw [decide_eq_false_iff_not];lia
   by_cases a:A.length+B.length<=12
   .have g1:decide ((12:Int)<((A++B).length:Int))=gh:=by rw [decide_eq_false_iff_not,cD];lia
    rw [if_pos ⟨d,a⟩];simp! only [Ac,fc,ag,h,i,h3,j,BU,m,o,p,H,K,I,lb,BS,f,P,Tx,r,g1,t,u,g2]
   .have g1:decide ((12:Int)<((A++B).length:Int))=gf:=by rw [zzN,cD];lia
    rw [if_neg (λq=>a q.2)];simp! only [Ac,fc,ag,h,i,h3,j,BU,m,o,p,H,K,I,lb,BS,f,P,Tx,r,g1]
  .have f:decide (w=g)=gh:=zz0 d;rw [if_neg (λq=>d q.1)];simp! only [Ac,fc,ag,h,i,h3,j,BU,m,o,p,H,K,I,lb,BS,f,Yg]
 .rw [if_pos rfl];by_cases d:A.length=B.length
  .have f:decide (A.length=B.length)=gf:=zzh d;have M:=zT F (w:=w) d L.jj.2 k.jj.2;let(s,Q):=Ga (B:=B) O;let(Y,t,u,_):=WY L k;have r:=gM (List.zipWith (·++·) A B);have g1:decide ((12:Int)<((List.zipWith (·++·) A B).length:Int))=gh:=by rw [decide_eq_false_iff_not,List.length_zipWith];lia
   simp! only [] at M;by_cases a:w+g<=12
   .have g2:decide ((12:Int)<((w+g:Nat):Int))=gh:=by rw [decide_eq_false_iff_not];lia
    rw [if_pos ⟨d,a⟩];simp! only [Ac,fc,ag,h,i,h3,j,BU,m,o,p,y,G,BS,f,s,Q,M,Tx,r,g1,t,u,g2]
   .have g2:decide ((12:Int)<((w+g:Nat):Int))=gf:=by rw [zzN];lia
    rw [if_neg (λq=>a q.2)];simp! only [Ac,fc,ag,h,i,h3,j,BU,m,o,p,y,G,BS,f,s,Q,M,Tx,r,g1,t,u,g2]
  .have f:decide (A.length=B.length)=gh:=zz0 d;rw [if_neg (λq=>d q.1)];simp! only [Ac,fc,ag,h,i,h3,j,BU,m,o,p,y,G,BS,f,Yg]
def Gd(D:DD):Prop:=∀q∈D,∃w,Fl q.2 w
def Gd.at(g:Gd D)(h:gv z D=fP R):∃w,Fl R w:=g _ (Ki h)
def z9(F m:aP)(q:∀as,F (zu 32) as=aW m aU as)(nd:(cg D).Nodup)(hl:D.length<=4)(g:Gd D)(d:Dd):aW F ag [dc D,d.P]=.ok (.tup [dc (FZ d.nm D (act (λz=>gv z D) d).2),(act (λz=>gv z D) d).1]):=by
 cases d with
 |lay z R=>exact Ik F nd hl z R|take z=>
  have c:ay (.tup [.str "take",.str z]) (.int 0)=.ok (.str "take"):=rfl
  cases h:gv z D with
  |none=>refine(kZ F nd hl z _ c rfl (by decide+kernel) (by decide+kernel) h).trans ?_;simp! [act,h,wg,FZ]|some R=>refine(FQ F nd hl z h).trans ?_;simp! [act,h,FZ,Dd.nm]
 |turn z=>
  have c:ay (.tup [.str "turn",.str z]) (.int 0)=.ok (.str "turn"):=rfl
  cases h:gv z D with
  |none=>refine(kZ F nd hl z _ c rfl (by decide+kernel) (by decide+kernel) h).trans ?_;simp! [act,h,wg,FZ]|some R=>let(w,L):=g.at h;refine(oF F nd hl z _ c rfl (by decide+kernel) (by decide+kernel) (by decide+kernel) h ((q _).trans (A6 m L z))).trans ?_;simp! [act,h,FZ,Dd.nm,gG L]
 |m9 z=>
  have c:ay (.tup [.str (zu 27),.str z]) (.int 0)=.ok (.str (zu 27)):=rfl
  cases h:gv z D with
  |none=>refine(kZ F nd hl z _ c rfl (by decide+kernel) (by decide+kernel) h).trans ?_;simp! [act,h,wg,FZ]|some R=>let(w,L):=g.at h;refine(oF F nd hl z _ c rfl (by decide+kernel) (by decide+kernel) (by decide+kernel) h ((q _).trans (Ef m L z))).trans ?_;simp! [act,h,FZ,Dd.nm]
 |sign z a b x=>
  have c:ay (.tup [.str "sign",.str z,sp a b,.str {#[x]}]) (.int 0)=.ok (.str "sign"):=rfl
  cases h:gv z D with
  |none=>refine(kZ F nd hl z _ c rfl (by decide+kernel) (by decide+kernel) h).trans ?_;simp! [act,h,wg,FZ]|some R=>
   let(w,L):=g.at h;have hm:=(q _).trans (A5 m L z a b x);have e:act (λz=>gv z D) (.sign z a b x)=if a<R.length/\b<w then(if x=120 then(.str "no sign",gd) else(.tup [.str {#[(cd R a b).getD 0]}],fP (fP (xQ R a b x)))) else(.str "no spot",gd):=by simp! [act,h,gG L]
   rw [e];by_cases j:a<R.length/\b<w
   .rw [if_pos j] at hm⊢;by_cases r:x=120
    .rw [if_pos r] at hm⊢;exact yX F nd hl z _ c rfl (by decide+kernel) (by decide+kernel) (by decide+kernel) h hm
    .rw [if_neg r] at hm⊢;exact oF F nd hl z _ c rfl (by decide+kernel) (by decide+kernel) (by decide+kernel) h hm
   .rw [if_neg j] at hm⊢;exact yX F nd hl z _ c rfl (by decide+kernel) (by decide+kernel) (by decide+kernel) h hm
 |join z e f i=>
  have c:ay (.tup [.str "join",.str z,.bl e,.str f,.str i]) (.int 0)=.ok (.str "join"):=rfl;have pre:=xC F nd hl z (.tup [.str "join",.str z,.bl e,.str f,.str i]) [f,i] (a8 2) c rfl (by decide+kernel) (GR F _ c rfl rfl)
  refine nk rfl ?_;refine pre.trans ?_;rw [eA,eA];cases k:gv f D with
  |none=>simp! [act,k];rfl|some A=>
   cases o:gv i D with
   |none=>simp! [act,k,o];rfl|some B=>
    let(w,L):=g.at k;let(u,t):=g.at o;let(y,E,p):=M5 F z f i e L t k o (rest z D) (.val (.lst ([f,i].map .str)));simp! [act,k,o];show bM F WT _=_
    rw [ft (wF F _ c (by decide+kernel) _ _ _ _ _ _)];cases s:yS e A B with
    |none=>rw [s] at p;exact sX p|some C=>rw [s] at p;rw [ft p];exact C6 F hl z _ rfl C _ _ _ _
theorem Ab{a b:Type}{f:a->Res b}:(Res.exc c:Res a).bind f=.exc c:=rfl
def Aa(F:aP){A B:List Str}{w b:Nat}(L:Fl A w)(e:Fl B b):aW F cm [fl A,fl B]=match yS gh A B with|some C=>.ok (fl C)|none=>.exc "NoFit":=by
 let(p,f,_,g):=vN L;let(r,h,_,lb):=vN e;have i:=gM A;have j:=gM B;have k:=L.jj.1;have m:=e.jj.1;unfold yS;rw [gG L,gG e,if_neg zzf];by_cases c:w=b
 .have d:decide (w=b)=gf:=zzh c;have o:=B8 k m;by_cases a:A.length+B.length<=12
  .have g1:decide ((12:Int)<(A.length:Int)+(B.length:Int))=gh:=by rw [decide_eq_false_iff_not];lia
   rw [if_pos ⟨c,a⟩];simp! only [cm,f,h,g,lb,BS,d,i,j,g1,o]
  .have g1:decide ((12:Int)<(A.length:Int)+(B.length:Int))=gf:=by rw [zzN];lia
   rw [if_neg (λq=>a q.2)];simp! only [cm,f,h,g,lb,BS,d,i,j,g1,Ab]
 .have d:decide (w=b)=gh:=zz0 c;rw [if_neg (λq=>c q.1)];simp! only [cm,f,h,g,lb,BS,d,Ab]
def wD(F:aP){A B:List Str}{w c:Nat}(L:Fl A w)(d:Fl B c):aW F bX [fl A,fl B]=match yS gf A B with|some C=>.ok (fl C)|none=>.exc "NoFit":=by
 let(r,i,_,j):=vN L;let(s,k,_,lb):=vN d;have f:=gM A;have g:=gM B;have o:=L.jj.1;have t:=d.jj.1;unfold yS;rw [gG L,gG d,if_pos rfl];by_cases a:A.length=B.length
 .have e:decide (A.length=B.length)=gf:=zzh a;have m:=zT F (w:=w) a L.jj.2 d.jj.2;let(h,p):=Ga (B:=B) o;simp! only [] at m;by_cases b:w+c<=12
  .have g2:decide ((12:Int)<(w:Int)+(c:Int))=gh:=by rw [decide_eq_false_iff_not];lia
   rw [if_pos ⟨a,b⟩];simp! only [bX,i,k,j,lb,BS,e,f,g,g2,h,p,m]
  .have g2:decide ((12:Int)<(w:Int)+(c:Int))=gf:=by rw [zzN];lia
   rw [if_neg (λq=>b q.2)];simp! only [bX,i,k,j,lb,BS,e,f,g,g2,Ab]
 .have e:decide (A.length=B.length)=gh:=zz0 a;rw [if_neg (λq=>a q.1)];simp! only [bX,f,g,BS,e,Ab]
def NB(F:aP)(hs:∀r c,F "is_spot" [sp r c]=.ok (.bl gf))(d:∀a,PR a->∀r c,F (zu 18) [fl a,sp r c]=.ok (.bl (decide (0<=r)&&decide (0<=c)&&(cd a r.toNat c.toNat).isSome))){a:List Str}{w:Nat}(L:Fl a w){i:Nat}(h:¬(i<a.length/\j<w)):aW F bf [fl a,sp i j]=.exc (zu 57):=by
 have f:cd a i j=gd:=by
  unfold cd;by_cases b:i<a.length
  .rw [zzg b];have:=L.d9 _ (List.getElem_mem b);show(a[i]).cps.toList[j]?=gd;refine List.getElem?_eq_none ?_;rw [d3];show(a[i]).length<=j;lia
  .rw [List.getElem?_eq_none (by lia)];rfl
 have e:=d a L.jj i j;rw [eF,eF,f,zzh (Int.natCast_nonneg i),zzh (Int.natCast_nonneg j)] at e;have e:F (zu 18) [fl a,sp i j]=.ok (.bl gh):=e;simp! only [bf,hs,e,Bool.not_false,Ab]
section
variable(s:Sg)
def AA{w:Nat}(L:Fl R w):F1 s (zu 46) [fl R]=.ok (.bl gf):=by have a:aI (aV s) rD (zu 46)=aW (aI (aV s) Uj) dY:=pG 9;have b:aI (aV s) Uj "is_row"=aW (aI (aV s) Ui) gj:=pG 0;have c:aI (aV s) Ui (zu 49)=aW (aI (aV s) T9) dv:=pG 1;show aI (aV s) rD (zu 46) _=_;rw [a];exact Hj _ (λz d e hd=>by rw [b];exact Oh _ (λx f=>by rw [c];exact OA _ f) d e hd) L
def C4{w:Nat}(L:Fl R w):F1 s (zu 23) [fl R]=.ok (fl (rf R w)):=by have a:aI (aV s) rD (zu 23)=aW (aI (aV s) T4) cf:=pG 17;show aI (aV s) rD (zu 23) _=_;rw [a];exact BK _ L.ne L.jj.1 L.d9 (pR L)
def wQ{w:Nat}(L:Fl R w):F1 s (zu 15) [fl R]=.ok (fl (m9 R)):=by have a:aI (aV s) rD (zu 15)=aW (aI (aV s) T5) bI:=pG 16;show aI (aV s) rD (zu 15) _=_;rw [a];exact vm _ L.jj.1 L.jj.2
def C3(r c:Int):aI (aV s) T8 "is_spot" [sp r c]=.ok (.bl gf):=by have a:aI (aV s) T8 "is_spot"=aW (aI (aV s) T6) ff:=pG 1;have b:aI (aV s) T6 (zu 63)=aW (aI (aV s) T1) fv:=pG 4;rw [a];exact w9 _ (λi=>by rw [b];exact su _ i) r c
def Kf(a:List Str)(R:PR a)(r c:Int):aI (aV s) T8 (zu 18) [fl a,sp r c]=.ok (.bl (decide (0<=r)&&decide (0<=c)&&(cd a r.toNat c.toNat).isSome)):=by have b:aI (aV s) T8 (zu 18)=aW (aI (aV s) T7) cG:=pG 0;rw [b];exact RM _ a R r c
def Qx{w:Nat}(L:Fl R w)(a b:Nat):F1 s (zu 10) [fl R,sp a b]=if a<R.length/\b<w then .ok .aN else .exc (zu 57):=by
 have c:aI (aV s) rD (zu 10)=aW (aI (aV s) T8) bf:=pG 13;show aI (aV s) rD (zu 10) _=_;rw [c];by_cases h:a<R.length/\b<w
 .rw [if_pos h];exact NC _ (C3 s) (Kf s) L h.1 h.2
 .rw [if_neg h];exact NB _ (C3 s) (Kf s) L h
def CU(x:Nat):aI (aV s) O7 (zu 49) [.str {#[x]}]=.ok (.bl (decide (x∈[35,48,49,50,51,52,53,54,55,56,57]))):=by
 have a:aI (aV s) O7 (zu 49)=aW (aI (aV s) T9) dv:=pG 0
 have b:pZ (.str {#[x]}) (.str (zu 35))=.ok (.bl (decide (x∈[35,48,49,50,51,52,53,54,55,56,57]))):=by
  rw [DO];have:((zu 35:Str)).cps.toList=[35,48,49,50,51,52,53,54,55,56,57]:=by decide+kernel
  rw [this]
 have c:({#[x]}:Str).length=1:=rfl;have d:1<=bS:=by decide
 rw [a];simp! only [dv,c,d,b];rfl
def CZ{x:Nat}(a:x∈Py):F1 s (zu 39) [.str {#[x]}]=if x=120 then .exc (zu 62) else .ok .aN:=by
 have b:aI (aV s) rD (zu 39)=aW (aI (aV s) O7) dw:=pG 11;have h:=CU s x;show aI (aV s) rD (zu 39) _=_;rw [b];simp! [Py,ef,List.not_mem_nil,or_false] at a;by_cases e:x=120
 .subst e;have h:aI (aV s) O7 (zu 49) [.str {#[120]}]=.ok (.bl gh):=h;rw [if_pos rfl];simp! only [dw,h,Bool.not_false,Ab]
 .have h:aI (aV s) O7 (zu 49) [.str {#[x]}]=.ok (.bl gf):=by rw [h,zzh];simp! [ef,List.not_mem_nil,or_false];lia
  rw [if_neg e];simp! only [dw,h,Bool.not_true]
def LK{w:Nat}(L:Fl R w){a b:Nat}(x:Nat)(c:a<R.length)(d:b<w):F1 s (zu 38) [fl R,sp a b,.str {#[x]}]=.ok (fl (xQ R a b x)):=by have e:aI (aV s) rD (zu 38)=aW (aI (aV s) Xl) dy:=pG 6;show aI (aV s) rD (zu 38) _=_;rw [e];exact F6 _ L x c d
def UN(e:Bool){A B:List Str}{w b:Nat}(L:Fl A w)(a:Fl B b):jn (F1 s) e (A.map .str) (B.map .str)=match yS e A B with|some C=>.ok (fl C)|none=>.exc "NoFit":=by
 have c:aI (aV s) rD (zu 43)=aW (aI (aV s) Xj) bX:=pG 8;have d:aI (aV s) rD (zu 53)=aW (aI (aV s) Xk) cm:=pG 7;unfold jn;cases e
 .rw [if_neg zzf];exact(congrFun d _).trans (Aa _ L a)
 .rw [if_pos rfl];exact(congrFun c _).trans (wD _ L a)
end
abbrev fD(D:DD):List (Str×PV):=D.map λq=>(q.1,fl q.2)
def CQ(D:DD):(fD D).map (·.1)=cg D:=by unfold fD;rw [List.map_map];rfl
def LD(D:DD):(fD D).map (·.2)=kg D:=by unfold fD;rw [List.map_map];rfl
def fL(z:Str)(D:DD):gV z (fD D)=(gv z D).map fl:=by unfold gV;rw [CQ,LD,oh]
abbrev iJ(z:Str)(R:List Str)(D:DD):DD:=if(gv z D).isSome=gf then D.map (λq=>if q.1=z then(q.1,R) else q) else D++[(z,R)]
def oT(z:Str)(R:List Str)(D:DD):putD z (fl R) (fD D)=fD (iJ z R D):=by
 unfold putD iJ;rw [CQ,LD];unfold eU df;rw [og];cases h:(gv z D).isSome
 .rw [if_neg zzf,if_neg zzf,if_neg zzf,List.zip_append (by simp)];unfold fD;rw [List.map_append]
  congr 1
  clear h
  induction D with
  |nil=>rfl|cons q D a=>show(q.1,fl q.2)::(cg D).zip (kg D)=_;rw [a,bc]
 .rw [if_pos rfl,if_pos rfl,if_pos rfl];clear h;unfold fD;rw [List.map_map]
  induction D with
  |nil=>rfl|cons q D a=>
   show(q.1,if q.1=z then fl R else fl q.2)::(cg D).zip (List.zipWith (λb v=>if b=z then fl R else v) (cg D) (kg D))=_;rw [a,bc]
   congr 1
   show(q.1,if q.1=z then fl R else fl q.2)=((if q.1=z then(q.1,R) else q).1,fl (if q.1=z then(q.1,R) else q).2);by_cases e:q.1=z
   .rw [if_pos e,if_pos e]
   .rw [if_neg e,if_neg e]
def Hh(z:Str)(D:DD):dQ z (fD D)=fD (rest z D):=by
 unfold dQ;rw [CQ,LD]
 induction D with
 |nil=>unfold bQ fV;rfl|cons q D a=>
  show(fV (q.1::cg D) z).zip (bQ (q.1::cg D) (fl q.2::kg D) z)=_;have b:bQ (q.1::cg D) (fl q.2::kg D) z=if q.1=z then bQ (cg D) (kg D) z else fl q.2::bQ (cg D) (kg D) z:=by rw [bQ]
  rw [b];unfold fV rest at a⊢;rw [eA,eA];by_cases e:q.1=z
  .rw [if_neg (by simp [e]),if_pos e,if_neg (by simp [e])];exact a
  .rw [if_pos (by simp [e]),if_neg e,if_pos (by simp [e]),List.zip_cons_cons,a];rfl
def MC(z y:Str)(R:List Str)(D:DD):gv y (iJ z R D)=if y=z then fP R else gv y D:=by
 unfold iJ;cases h:(gv z D).isSome
 .rw [if_neg zzf,wY];by_cases e:y=z
  .subst e;have d:gv y D=gd:=Option.not_isSome_iff_eq_none.1 (by rw [h];exact zzf);rw [d,if_pos rfl]
  .rw [if_neg e];cases gv y D with
   |some _=>rfl|none=>exact if_neg (Ne.symm e)
 .rw [if_pos rfl]
  induction D with
  |nil=>cases h
  |cons q D c=>
   rw [bc];unfold gv;by_cases e:q.1=z
   .rw [if_pos e];show(if q.1=y then fP R else gv y (D.map _))=_;by_cases k:q.1=y
    .rw [if_pos k,if_pos (k.symm.trans e)]
    .rw [if_neg k,if_neg (λj=>k (e.trans j.symm)),if_neg k];clear c h
     induction D with
     |nil=>rfl|cons p D a=>
      rw [bc];unfold gv;by_cases b:p.1=z
      .rw [if_pos b];show(if p.1=y then fP R else _)=_;rw [if_neg (λj=>k (e.trans (b.symm.trans j))),if_neg (λj=>k (e.trans (b.symm.trans j)))];exact a
      .rw [if_neg b];by_cases k2:p.1=y
       .rw [if_pos k2,if_pos k2]
       .rw [if_neg k2,if_neg k2];exact a
   .rw [if_neg e];have f:(gv z D).isSome=gf:=by
     unfold gv at h;rw [if_neg e] at h;exact h
    by_cases k:q.1=y
    .rw [if_pos k,if_pos k,if_neg (λj=>e (k.trans j))]
    .rw [if_neg k,if_neg k];exact c f
def Nc(z:Str)(R:List Str)(D:DD):cg (iJ z R D)=if(gv z D).isSome=gf then cg D else cg D++[z]:=by
 unfold iJ;split
 .unfold cg;rw [List.map_map];refine List.map_congr_left λq Z=>?_;show(if q.1=z then(q.1,R) else q).1=q.1;split<;>rfl
 .simp
structure Inv(D:DD):Prop where
 nd:(cg D).Nodup
 nm:∀k∈cg D,k∈iI
 g:Gd D
theorem lZ:∀{l m:List Str},l.Nodup->(∀x∈l,x∈m)->l.length<=m.length
 |[],_,_,_=>Nat.zero_le _|x::l,m,nd,h=>by have a:=List.nodup_cons.1 nd;have b:=h x (.head _);have:=lZ (l:=l) (m:=m.erase x) a.2 λy c=>(List.mem_erase_of_ne (λe=>a.1 (by rw [<-e];exact c))).2 (h y (.tail _ c));rw [List.length_erase_of_mem b] at this;have d:0<m.length:=List.length_pos_of_mem b;rw [cC];lia
def Inv.len(I:Inv D):D.length<=4:=by have:=lZ I.nd I.nm;rw [zzl] at this;exact this
def OH{w:Nat}(L:Fl R w)(i j:Nat){x:Nat}(a:x∈Py)(h:x≠120):Fl (xQ R i j x) w:=Sx L i j (by simp! [Py,ef,List.not_mem_nil,or_false] at a;unfold Xh;lia)
def Rt{A B C:List Str}{w c:Nat}(L:Fl A w)(b:Fl B c){e:Bool}(h:yS e A B=fP C):∃v,Fl C v:=by
 have p:=L.ne;have r:=b.ne;have w1:=L.w1;unfold yS at h;rw [gG L,gG b] at h;cases e
 .rw [if_neg zzf] at h;by_cases q:w=c/\A.length+B.length<=12
  .rw [if_pos q] at h;cases h;let(rfl,m):=q
   have d:∀z∈A++B,z.length=w:=λz a=>by
    rcases List.mem_append.1 a with k|k
    .exact L.d9 z k
    .exact b.d9 z k
   refine{w,{by rw [cD];exact m,λz a=>by rw [d z a];exact pR L},by rw [cD];lia,w1,d,λz a=>?_}
   rcases List.mem_append.1 a with k|k
   .exact L.dig z k
   .exact b.dig z k
  .rw [if_neg q] at h;cases h
 .rw [if_pos rfl] at h;by_cases q:A.length=B.length/\w+c<=12
  .rw [if_pos q] at h;cases h;have hm:∀z∈List.zipWith (·++·) A B,∃x∈A,∃y∈B,z=x++y:=λz a=>by
    let(i,o,e):=List.getElem_of_mem a;rw [List.length_zipWith] at o;rw [List.getElem_zipWith] at e;exact{_,List.getElem_mem (by lia),_,List.getElem_mem (by lia),e.symm}
   have d:∀z∈List.zipWith (·++·) A B,z.length=w+c:=λz a=>by let(x,g,y,j,rfl):=hm z a;rw [Str.length_append,L.d9 x g,b.d9 y j]
   refine{w+c,{by rw [List.length_zipWith];have:=L.jj.1;lia,λz a=>by rw [d z a];exact q.2},by rw [List.length_zipWith];lia,by lia,d,λz a v f=>?_};let(x,g,y,j,rfl):=hm z a;have f:v∈(x.cps++y.cps).toList:=f
   rw [Array.toList_append] at f;rcases List.mem_append.1 f with k|k
   .exact L.dig x g v k
   .exact b.dig y j v k
  .rw [if_neg q] at h;cases h
def K8(g:Gd D)(d:Dd)(hd:d.Ok)(h:(act (λz=>gv z D) d).2=fP (fP R)):∃w,Fl R w:=by
 cases d with
 |lay z Q=>cases h;exact hd.2
 |take z=>
  simp! [act] at h;cases e:gv z D with
  |none=>rw [e] at h;cases h
  |some Q=>rw [e] at h;cases h
 |turn z=>
  simp! [act] at h;cases e:gv z D with
  |none=>rw [e] at h;cases h
  |some Q=>rw [e] at h;let(w,L):=g.at e;cases h;rw [gG L];exact{_,LQ L}
 |m9 z=>
  simp! [act] at h;cases e:gv z D with
  |none=>rw [e] at h;cases h
  |some Q=>rw [e] at h;let(w,L):=g.at e;cases h;exact{_,LP L}
 |sign z a b x=>
  simp! [act] at h;cases e:gv z D with
  |none=>rw [e] at h;cases h
  |some Q=>
   rw [e] at h;let(w,L):=g.at e;dsimp only at h;by_cases q:a<Q.length/\b<wd Q
   .rw [if_pos q] at h;by_cases k:x=120
    .rw [if_pos k] at h;cases h
    .rw [if_neg k] at h;cases h;exact{_,OH L a b hd.2 k}
   .rw [if_neg q] at h;cases h
 |join z f j m=>
  simp! [act] at h;cases c:gv j D with
  |none=>rw [c] at h;cases h
  |some A=>
   rw [c] at h;cases eB:gv m D with
   |none=>rw [eB] at h;cases h
   |some B=>
    rw [eB] at h;let(w,L):=g.at c;let(p,o):=g.at eB
    dsimp only at h;cases i:yS f A B with
    |none=>rw [i] at h;cases h
    |some C=>rw [i] at h;cases h;exact Rt L o i
abbrev zQ(z:Str)(D:DD):Option (Option (List Str))->DD
 |none=>D|some gd=>rest z D|some (fP R)=>iJ z R D
structure Gm(r:Sg)(u:Nat):Prop where
 h3:3<=u
 e:r[u-3]?=fP {"#l",[]}
def Gm.new(r:Sg):Gm (r++[{"#l",[]}]) (r.length+3):={by lia,by rw [Nat.add_sub_cancel,el (a8 _),Nat.sub_self];rfl}
def q9{r:Rs PV}{s:Sg}(h:r=.ok p s):told r=.ok p s:=by rw [h];rfl
def lD{r:Rs PV}{w:Str}{s:Sg}(h:r=.exc c s)(k:F1 s (zu 6) [.exc c]=.ok (.str w)):told r=.ok (.str w) s:=by rw [h];show Rs.of (F1 s (zu 6) [.exc c]).well s=_;rw [k];rfl
def Lz(I:Inv D)(d:Dd)(hd:d.Ok)(i:List (Str×PV))(r:Sg)(u:Nat)(hn:i.length<bS)(y:Gm r u):∃Q S T,Q.length<=i.length+1/\Gm S T/\F2 (zu 19) [.obj 0,d.P] (AT (fD D) i r u)=.ok (act (λz=>gv z D) d).1 (AT (fD (zQ d.nm D (act (λz=>gv z D) d).2)) Q S T):=by
 have hl:(fD D).length<bS:=dk (m:=4) (by unfold fD;rw [zzl];exact I.len) (by decide);have F:∀x:Str×PV,(i++[x]).length<=i.length+1:=λx=>by rw [cD];exact a8 _
 have c:=dJ (fD D) i r u
 cases d with
 |lay z R=>let(o,w,L):=hd;have k:=Nf z o (R.map .str) (fD D) i r u (λs=>AA s L) hl hn;rw [CQ,og,oT] at k;exact{_,_,_,F _,.new r,Hf z (R.map .str) _ _ _ c (q9 k)}|take z=>
  cases h:gv z D with
  |none=>refine{i,r,u,Nat.le_succ _,y,?_};simp! [act,h,wg,zQ];exact uJ z _ _ _ c (lD (BE z hd (fD D) i r u (by rw [fL,h];rfl)) (lX _))|some R=>simp! [act,h,zQ,Dd.nm];have k:=BF z hd (fl R) (fD D) i r u (by rw [fL,h];rfl) hn;rw [Hh] at k;exact{_,_,_,F _,.new r,uJ z _ _ _ c (q9 k)}
 |turn z=>
  cases h:gv z D with
  |none=>refine{i,r,u,Nat.le_succ _,y,?_};simp! [act,h,wg,zQ];exact uK z _ _ _ c (lD (BI z hd (fD D) i r u (by rw [fL,h];rfl)) (lX _))|some R=>let(w,L):=I.g.at h;simp! [act,h,zQ,Dd.nm,gG L];have k:=JK z hd (R.map .str) ((rf R w).map .str) (fD D) i r u (by rw [fL,h];rfl) (λs=>C4 s L) hl hn;rw [oT] at k;exact{_,_,_,F _,.new r,uK z _ _ _ c (q9 k)}
 |m9 z=>
  cases h:gv z D with
  |none=>refine{i,r,u,Nat.le_succ _,y,?_};simp! [act,h,wg,zQ];exact nU z _ _ _ c (lD (vj z hd (fD D) i r u (by rw [fL,h];rfl)) (lX _))|some R=>let(w,L):=I.g.at h;simp! [act,h,zQ,Dd.nm];have k:=A8 z hd (R.map .str) ((m9 R).map .str) (fD D) i r u (by rw [fL,h];rfl) (λs=>wQ s L) hl hn;rw [oT] at k;exact{_,_,_,F _,.new r,nU z _ _ _ c (q9 k)}
 |sign z a b x=>
  let(o,U):=hd
  cases h:gv z D with
  |none=>refine{i,r,u,Nat.le_succ _,y,?_};simp! [act,h,wg,zQ];refine kI z _ _ _ c a b {#[x]} (lD ?_ (lX _));rw [Bw z o a b {#[x]} (fD D) i r u (by rw [fL,h];rfl)];rfl|some R=>
   let(w,L):=I.g.at h;have N:gV z (fD D)=fP (.tup (R.map .str)):=by rw [fL,h];rfl
   have e:act (λz=>gv z D) (.sign z a b x)=if a<R.length/\b<w then(if x=120 then(.str "no sign",gd) else(.tup [.str {#[(cd R a b).getD 0]}],fP (fP (xQ R a b x)))) else(.str "no spot",gd):=by simp! [act,h,gG L]
   rw [e];by_cases j:a<R.length/\b<w
   .have V:∀s,F1 s (zu 10) [.tup (R.map .str),mW a b]=.ok .aN:=λs=>(Qx s L a b).trans (if_pos j);rw [if_pos j];by_cases k:x=120
    .rw [if_pos k];refine{i,r,u,Nat.le_succ _,y,kI z _ _ _ c a b {#[x]} (lD ?_ (M6 _))};rw [Fq z o (R.map .str) a b {#[x]} (fD D) i r u N V λs=>(CZ s U).trans (if_pos k)];rfl
    .rw [if_neg k];have W:R[a]?=fP R[a]:=zzg j.1;let(v,H):=DN L j.1 j.2;have VC:(R[a]).cps.toList[b]?=fP v:=by unfold cd at H;rw [W] at H;exact H
     have s1:ay (.tup (R.map .str)) (.int (a:Int))=.ok (.str R[a]):=j8 W;have s2:=tD (di (L.jj.2 _ (List.getElem_mem j.1)) (by decide)) VC;have q:=Jr z o (R.map .str) ((xQ R a b x).map .str) a b {#[x]} (fD D) i r u R[a] _ N V (λs=>(CZ s U).trans (if_neg k)) (λs=>LK s L x j.1 j.2) s1 s2 hl hn;rw [oT] at q;have v2:(cd R a b).getD 0=v:=by rw [H];rfl
     rw [v2];have q2:=congrArg (λr:Rs PV=>r.bind λq s=>Rs.ok (PV.tup [q]) s) q;exact{_,_,_,F _,.new r,kI z _ _ _ c a b {#[x]} (q9 q2)}
   .rw [if_neg j];refine{i,r,u,Nat.le_succ _,y,kI z _ _ _ c a b {#[x]} (lD ?_ (M7 _))};rw [Bx z o (R.map .str) a b {#[x]} (fD D) i r u N λs=>(Qx s L a b).trans (if_neg j)];rfl
 |join z f p t=>
  let(o,K,O):=hd
  cases E:gv p D with
  |none=>refine{i,r,u,Nat.le_succ _,y,?_};simp! [act,E,wg,zQ];exact kH z _ _ _ c f p t (lD (xa z p t o K f (fD D) i r u (by rw [fL,E];rfl)) (lX _))|some A=>
   cases G:gv t D with
   |none=>refine{i,r,u,Nat.le_succ _,y,?_};simp! [act,E,G,wg,zQ];exact kH z _ _ _ c f p t (lD (xb z p t o K O f (A.map .str) (fD D) i r u (by rw [fL,E];rfl) (by rw [fL,G];rfl)) (lX _))|some B=>
    let(w,L):=I.g.at E;let(w',L'):=I.g.at G;have X:gV p (fD D)=fP (.tup (A.map .str)):=by rw [fL,E];rfl
    have Y:gV t (fD D)=fP (.tup (B.map .str)):=by rw [fL,G];rfl
    have Z:=λs=>UN s f L L'
    cases M:yS f A B with
    |none=>refine{i,r,u,Nat.le_succ _,y,?_};simp! [act,E,G,M,zQ];exact kH z _ _ _ c f p t (lD (D1 z p t o K O f (A.map .str) (B.map .str) (fD D) i r u X Y λs=>by rw [Z s,M]) (Ru _))|some C=>simp! [act,E,G,M,zQ,Dd.nm];have k:=Ig z p t o K O f (A.map .str) (B.map .str) (C.map .str) (fD D) i r u X Y (λs=>by rw [Z s,M]) hl hn;rw [oT] at k;exact{_,_,_,F _,.new r,kH z _ _ _ c f p t (q9 k)}
abbrev Wc:List Str:=["a","bcdefg","tu","vwxyz"]
abbrev cn(ks:List Str):List Str:=Wc.filter λz=>ks.contains z
abbrev GN:Nat->List (List Str)
 |0=>[[]]|n+1=>(GN n).flatMap λl=>(iI.filter λz=>!l.contains z).map (·::l)
theorem vi:∀{ks:List Str},ks.Nodup->(∀k∈ks,k∈iI)->ks∈GN ks.length
 |[],_,_=>.head _|x::l,nd,h=>by have a:=List.nodup_cons.1 nd;have b:=vi a.2 λk hk=>h k (.tail _ hk);show x::l∈(GN l.length).flatMap _;rw [List.mem_flatMap];refine{l,b,ew.2 {x,List.mem_filter.2 {h x (.head _),?_},rfl}};rw [Bool.not_eq_true',Bool.eq_false_iff];exact λc=>a.1 (eg.1 c)
abbrev Y9(ks:List Str):Bool:=strsOf (ub .aN (ks.map gL) (ks.map codes))==fP (cn ks)
def G6:∀n:Fin 5,((GN n.1).all Y9)=gf:=by decide+kernel
theorem vW:∀{xs:List PV} {a:List Str},strsOf xs=fP a->xs=a.map .str
 |[],a,h=>by cases h;rfl
 |x::xs,a,h=>by
  cases x with
  |str z=>rw [strsOf] at h;let(ys,b,rfl):=cz.1 h;rw [vW b];rfl|_=>cases h
def OG(nd:ks.Nodup)(h:∀k∈ks,k∈iI):ub .aN (ks.map gL) (ks.map codes)=(cn ks).map .str:=by have hl:ks.length<=4:=lZ nd h;have:=c8.1 (G6 {ks.length,by lia}) ks (vi nd h);exact vW (zzy.1 this)
def RL{d:Dd}(h:d.Ok):d.nm∈iI:=by
 cases d with
 |lay z R=>exact h.1|take z=>exact h|turn z=>exact h|m9 z=>exact h|sign z a b x=>exact h.1|join z e c f=>exact h.1
theorem ox(I:Inv D)(z:Str):Inv (rest z D) where
 nd:=zA I.nd
 nm:=λk hk=>by let(q,a,rfl):=ew.1 hk;exact I.nm _ (List.mem_map_of_mem (List.mem_filter.1 a).1)
 g:=λq a=>I.g q (List.mem_filter.1 a).1
def yJ(I:Inv D)(hz:z∈iI)(hn:z∉cg D)(f:∃w,Fl R w):Inv (D++[(z,R)]) where
 nd:=by unfold cg;rw [List.map_append,List.nodup_append];refine{I.nd,List.nodup_cons.2 {List.not_mem_nil,.nil},λa i b d e=>?_};rw [bc,List.map_nil,d6] at d;exact hn (by have:z=a:=(e.trans d).symm;rw [this];exact i)
 nm:=λk hk=>by
  let(q,c,rfl):=ew.1 hk
  rcases List.mem_append.1 c with h|h
  .exact I.nm _ (List.mem_map_of_mem h)
  .rw [d6.1 h];exact hz
 g:=λq c=>by
  rcases List.mem_append.1 c with h|h
  .exact I.g q h
  .rw [d6.1 h];exact f
def HY(I:Inv D)(hz:z∈iI)(b:∃w,Fl R w):Inv (iJ z R D):=by
 have hk:=Nc z R D;cases h:(gv z D).isSome
 .have c:z∉cg D:=r6.1 (Option.not_isSome_iff_eq_none.1 (by rw [h];exact zzf));unfold iJ;rw [h,if_neg zzf];exact yJ I hz c b
 .rw [h,if_pos rfl] at hk;refine{by rw [hk];exact I.nd,by rw [hk];exact I.nm,λq a=>?_};unfold iJ at a;rw [h,if_pos rfl] at a;let(p,d,rfl):=ew.1 a;by_cases e:p.1=z
  .rw [if_pos e];exact b
  .rw [if_neg e];exact I.g p d
noncomputable abbrev Lk(D:DD):Str->Option (List Str):=λz=>gv z D
structure JY(D K:DD):Prop where
 a:Inv D
 b:Inv K
 e:Lk D=Lk K
def FY{K:DD}(T:JY D K)(d:Dd)(hd:d.Ok):JY (zQ d.nm D (act (Lk D) d).2) (FZ d.nm K (act (Lk K) d).2):=by
 have f:=RL hd;have i:=λR=>K8 (R:=R) T.a.g d hd;rw [<-T.e];generalize k:(act (Lk D) d).2=c at i;have e:∀y,gv y D=gv y K:=congrFun T.e
 match c with
 |none=>exact T|some gd=>refine{ox T.a _,ox T.b _,funext λy=>?_};show gv y (rest d.nm D)=gv y (rest d.nm K);rw [r9,r9,e y]|some (fP R)=>
  have j:=i R rfl;refine{HY T.a f j,yJ (ox T.b _) f (zC _ _) j,funext λy=>?_};show gv y (iJ d.nm R D)=gv y (rest d.nm K++[(d.nm,R)]);rw [MC,wY,r9];by_cases h:y=d.nm
  .rw [if_pos h,if_pos h];exact(if_pos h.symm).symm
  .rw [if_neg h,if_neg h,e y];cases gv y K with
   |some _=>rfl|none=>exact(if_neg (Ne.symm h)).symm
def sA:z∈cg D↔(gv z D).isSome=gf:=by
 cases h:gv z D with
 |none=>simp [r6.1 h]|some R=>simp! [Option.isSome_some,iff_true];exact List.mem_map_of_mem (f:=(·.1)) (Ki h)
def Ka{K:DD}(T:JY D K):cn (cg D)=cn (cg K):=by unfold cn;refine List.filter_congr λz Z=>?_;rw [Bool.eq_iff_iff,eg,eg,sA,sA];have:=congrFun T.e z;dsimp only [Lk] at this;rw [this]
def wL(h:z∈cn ks):z∈ks:=by have:=(List.mem_filter.1 h).2;exact eg.1 this
def Nu:Wc.Nodup:=by decide+kernel
def Nt:∀z∈iI,z∈Wc:=by decide+kernel
def Kb(ks:List Str):(cn ks).Nodup:=Nu.filter _
def Cq(nd:ks.Nodup)(h:∀k∈ks,k∈iI):(cn ks).length=ks.length:=
 Nat.le_antisymm (lZ (Kb ks) λx a=>wL a) (lZ nd λx a=>List.mem_filter.2 {Nt x (h x a),eg.2 a})
theorem n0(n:Nat):∀R:List Str,eqs (pP n) (R.map .str) (R.map .str)=gf
 |[]=>rfl|y::R=>by show(pP n (.str y) (.str y)&&eqs (pP n) (R.map .str) (R.map .str))=gf;rw [n0 n R,Bool.and_true];cases n<;>exact beq_self_eq_true y
def vH(n:Nat)(R:List Str):(R.map PV.str).all (Ci.plain n)=gf:=by rw [List.all_map];refine c8.2 λy Z=>?_;cases n<;>rfl
def E1(R:List Str):mB (fl R)=gf:=vH 8 R
def CN(R:List Str):eqv (fl R) (fl R)=gf:=n0 8 R
def RF(R:List Str):hX (fl R) (fl R)=.ok (.bl gh):=by unfold hX;rw [E1,CN];rfl
def RG(R:List Str):hX (.lst (R.map .str)) (.lst (R.map .str))=.ok (.bl gh):=by unfold hX;have a:mB (.lst (R.map .str))=gf:=vH 8 R;have b:eqv (.lst (R.map .str)) (.lst (R.map .str))=gf:=n0 8 R;rw [a,b];rfl
def Kr(b:Bool):hX (.bl b) (.bl b)=.ok (.bl gh):=by cases b<;>rfl
def RH(c:Str):hX (.str c) (.str c)=.ok (.bl gh):=by rw [RD,beq_self_eq_true];rfl
inductive PY:PV->Prop
 |b (t:Bool):PY (.bl t)
 |s (c:Str):PY (.str c)
 |f (R:List Str):PY (fl R)
def GL(L:Str->Option (List Str))(d:Dd):PY (act L d).1:=by
 cases d with
 |lay z R=>exact .b _|take z=>
  simp! [act];cases L z with
  |none=>exact .s _|some R=>exact .f _
 |turn z=>
  simp! [act];cases L z with
  |none=>exact .s _|some R=>exact .f _
 |m9 z=>
  simp! [act];cases L z with
  |none=>exact .s _|some R=>exact .f _
 |sign z a b x=>
  simp! [act];cases L z with
  |none=>exact .s _|some R=>
   dsimp only;split
   .split
    .exact .s _
    .exact .f [_]
   .exact .s _
 |join z e c g=>
  simp! [act];cases L c with
  |none=>exact .s _|some A=>
   cases L g with
   |none=>exact .s _|some B=>
    dsimp only;cases yS e A B with
    |none=>exact .s _|some C=>exact .f _
def OX(h:PY p):hX p p=.ok (.bl gh)/\∃t,qe .bool p=.ok (.bl t):=by
 cases h with
 |b t=>exact{Kr t,gf,rfl}|s c=>exact{RH c,gh,rfl}|f R=>exact{RF R,gh,rfl}
def Ku(U:cM)(fs a:List (Str×PV))(r:Sg)(u:Nat):dC F1 U (.p (.ret (.blt .sorted (.cons (.con (.fld 0 (zu 45))) .nil)))) [.val (.obj 0)] (AT fs a r u)=Rs.of (((fq .sorted [.cA (fs.map (·.1)) (fs.map (·.2))]).bind λp=>Res.ok (Fl.rt p)).bind clean) (AT fs a r u):=by kernel_rfl
def qZ{vs:List PV}(nd:ks.Nodup)(h:∀k∈ks,k∈iI):fq .sorted [.cA ks vs]=.ok (.lst ((cn ks).map .str)):=by have hl:ks.length<=4:=lZ nd h;show(if ks.length<64 then Res.ok (PV.lst (ub .aN (ks.map gL) (ks.map codes))) else .bad)=_;rw [if_pos (by lia),OG nd h]
def vp(I:Inv D)(a:List (Str×PV))(r:Sg)(u:Nat):F2 (zu 42) [.obj 0] (AT (fD D) a r u)=.ok (.lst ((cn (cg D)).map .str)) (AT (fD D) a r u):=by have b:∀as s,F2 (zu 42) as s=cF F1 (ax F1 O8) b8 as s:=λas s=>congrFun (congrFun (rS (r:=O8) (d:=b8) 3) as) s;refine cY (b _ _) ?_ rfl;show aJ F1 (ax F1 O8) (.cons _ .nil) [.val (.obj 0)] _=_;refine fY ?_;rw [Ku,CQ,qZ I.nd I.nm];rfl
abbrev aD(D:DD):DD:=(cn (cg D)).map λz=>(z,(gv z D).getD [])
def P1(D:DD):cg (aD D)=cn (cg D):=by unfold cg aD;rw [List.map_map];exact List.map_id' _
def Ut{q:Str×List Str}(h:q∈aD D):gv q.1 D=fP q.2:=by
 let(z,a,rfl):=ew.1 h;have:=sA.1 (wL a)
 cases e:gv z D with
 |none=>rw [e] at this;cases this
 |some R=>rfl
section
variable(I:Inv D)(dn:List (Str×PV))(r:Sg)(u:Nat)
noncomputable abbrev Tc:X2:=.tup (.cons (.pu (.var 0)) (.cons (.met (.var 1) "Atlas" (zu 40) (.cons (.var 0) .nil)) .nil))
def Qw(z:Str)(R:List Str)(hz:z∈iI)(h:gv z D=fP R):bC F1 (ax F1 BO) Tc [.val (.str z),.val (.obj 0)] (AT (fD D) dn r u)=.ok (.tup [.str z,fl R]) (AT (fD D) dn r u):=by
 have g:ax F1 BO (zu 0)=F2 (zu 0):=(rS (r:=U1) (d:=bj) 12).trans (rS (r:=U1) (d:=bj) 13).symm;have a:aB (F1 (AT (fD D) dn r u)) (.var 0) [.val (.str z),.val (.obj 0)]=.ok (.str z):=by rw [aB];rfl
 have b:bC F1 (ax F1 BO) (.met (.var 1) "Atlas" (zu 40) (.cons (.var 0) .nil)) [.val (.str z),.val (.obj 0)] (AT (fD D) dn r u)=.ok (fl R) (AT (fD D) dn r u):=by rw [e8 rfl (dJ _ _ _ _) (ps:=[.str z]) (by rw [br,a,br];rfl)];have:=bw z hz (fl R) (fD D) dn r u (by rw [fL,h];rfl);rw [<-g] at this;exact this
 rw [bC,eK,bC,a];show((eK F1 (ax F1 BO) (.cons _ .nil) _ _).bind _).bind _=_;rw [eK,b];simp! [Rs.bind,eK]
include I in
theorem uF:∀a:List Str,(∀z∈a,z∈cg D)->bK (λx s=>(Rs.of ((Tg.one 0).put x (jz 1 .no++eX [.val (.obj 0)] [0])) s).bind λenv' s=>bC F1 (ax F1 BO) Tc env' s) (a.map .str) (AT (fD D) dn r u)=.ok (a.map λz=>.tup [.str z,fl ((gv z D).getD [])]) (AT (fD D) dn r u)
 |[],_=>rfl|z::a,h=>by have d:=uF a λy f=>h y (.tail _ f);have b:=h z (.head _);have hs:=sA.1 b;let(R,c):=ej.1 hs;have e:=Qw dn r u z R (I.nm z b) c;have g:((Rs.of ((Tg.one 0).put (.str z) (jz 1 .no++eX [.val (.obj 0)] [0])) (AT (fD D) dn r u)).bind λenv' s=>bC F1 (ax F1 BO) Tc env' s)=.ok (.tup [.str z,fl R]) (AT (fD D) dn r u):=e;rw [bc,bK,g];show(bK _ (a.map .str) (AT (fD D) dn r u)).bind _=_;rw [d,bc,c];rfl
include I in
set_option tactic.hygienic true in
def nB:F2 (zu 24) [.obj 0] (AT (fD D) dn r u)=.ok (dc (aD D)) (AT (fD D) dn r u):=by
 have a:∀as s,F2 (zu 24) as s=cF F1 (ax F1 BO) c9 as s:=λas s=>congrFun (congrFun (rS (r:=BO) (d:=c9) 0) as) s;have g:ax F1 BO (zu 42)=F2 (zu 42):=(rS (r:=O8) (d:=b8) 2).trans (rS (r:=O8) (d:=b8) 3).symm;refine cY (a _ _) ?_ rfl;show aJ F1 (ax F1 BO) (.cons (.ret (.dict (.nR 1 [0] (.one 0) (.met (.var 0) "Atlas" "names" .nil) Tc))) .nil) [.val (.obj 0)] _=_;refine fY (iK ?_);have b:bC F1 (ax F1 BO) (.met (.var 0) "Atlas" "names" .nil) [.val (.obj 0)] (AT (fD D) dn r u)=.ok (.lst ((cn (cg D)).map .str)) (AT (fD D) dn r u):=by rw [bD rfl (dJ _ _ _ _) (ps:=[]) (by rw [br])];have:=vp I dn r u;rw [<-g] at this;exact this
 have c:((cn (cg D)).map PV.str).length<bS:=by rw [zzl,Cq I.nd I.nm,zzl];exact dk I.len (by decide)
 have f:gX [.lst ((cn (cg D)).map λz=>.tup [.str z,fl ((gv z D).getD [])])]=.ok (dc (aD D)):=by
  have e:((cn (cg D)).map λz=>PV.tup [.str z,fl ((gv z D).getD [])])=(aD D).map λq=>.tup [.str q.1,fl q.2]:=by unfold aD;rw [List.map_map];rfl
  rw [e];show(Res.of (vI _)).bind (λps=>Res.ok (PV.cA (cH ps [] []).1 (cH ps [] []).2))=_;rw [E6];show Res.ok (PV.cA (cH _ [] []).1 (cH _ [] []).2)=_;rw [sC _ _ _ (λZ Z h=>by cases h) (by rw [P1];exact Kb _)];rfl
 rw [bC,bC,b];show((if((cn (cg D)).map PV.str).length<bS then _ else Rs.bad).bind _)=_;rw [if_pos c,uF I dn r u _ λz i=>wL i];show Rs.of (gX [.lst _]) _=_;rw [f];rfl
end
theorem DH{K:DD}:∀A:DD,(∀q∈A,gv q.1 K=fP q.2)->pU (cg K) (kg K) (cg A) (kg A)=gf
 |[],_=>by unfold pU;rfl|q::A,h=>by show pU (cg K) (kg K) (q.1::cg A) (fl q.2::kg A)=gf;rw [pU,oh,h q (.head _)];show(eqv (fl q.2) (fl q.2)&&pU (cg K) (kg K) (cg A) (kg A))=gf;rw [CN,DH A λp a=>h p (.tail _ a)];rfl
def E4(D:DD):(kg D).all mB=gf:=by unfold kg;rw [List.all_map];exact c8.2 λq Z=>E1 q.2
def Np{K:DD}(T:JY D K):qU (dc (aD D)) (dc K)=.ok (.bl gh):=by
 show(if((kg (aD D)).all mB&&(kg K).all mB)=gf then Res.ok (PV.bl (!((cg (aD D)).length==(cg K).length&&pU (cg K) (kg K) (cg (aD D)) (kg (aD D))))) else .bad)=_;have hl:(cg (aD D)).length=(cg K).length:=by rw [P1,Ka T,Cq T.b.nd T.b.nm]
 rw [E4,E4,if_pos (show(gf&&gf)=gf from rfl),hl,beq_self_eq_true,DH (aD D) λq a=>by have:=Ut a;have e:=congrFun T.e q.1;dsimp only [Lk] at e;rw [<-e];exact this];rfl
def Qp(fs a:List (Str×PV))(r:Sg)(u:Nat)(b:Gm r u):F1 (AT fs a r u) dW [.obj u]=.ok (.lst []):=by have e:aI (aV (AT fs a r u)) rD dW=aI (aV (AT fs a r u)) (rD.drop 22) dW:=nT 22 (by decide+kernel);refine(congrFun e _).trans ?_;show aV (AT fs a r u) dW [.obj u]=_;let(v,rfl):=Nat.exists_eq_add_of_le' b.h3;have h:=b.e;rw [Nat.add_sub_cancel] at h;have c:(AT fs a r (v+3))[v+3]?=fP {"#l",[]}:=h;unfold aV;dsimp only;rw [c];kernel_rfl
def Eh(fs a:List (Str×PV))(r:Sg)(u:Nat)(b:Gm r u):F2 (zu 60) [.obj 0] (AT fs a r u)=.ok (.tup [.int a.length,.int 0]) (AT fs a r u):=by
 have c:∀as s,F2 (zu 60) as s=cF F1 (ax F1 Ta) c7 as s:=λas s=>congrFun (congrFun (rS (r:=Ta) (d:=c7) 4) as) s;refine cY (c _ _) ?_ rfl;show aJ F1 (ax F1 Ta) (.cons (.p (.ret (.tup (.cons (.blt .len (.cons (.con (.fld 0 "done")) .nil)) (.cons (.blt .len (.cons (.con (.fld 0 "undone")) .nil)) .nil))))) .nil) [.val (.obj 0)] _=_;refine fY (Ky ?_);have e:aB (F1 (AT fs a r u)) (.blt .len (.cons (.con (.fld 0 "done")) .nil)) [.val (.obj 0)]=.ok (.int (a.map (·.2)).length):=by kernel_rfl
 have f:aB (F1 (AT fs a r u)) (.fld 0 "undone") [.val (.obj 0)]=.ok (.obj u):=by kernel_rfl
 have g:aB (F1 (AT fs a r u)) (.blt .len (.cons (.con (.fld 0 "undone")) .nil)) [.val (.obj 0)]=.ok (.int 0):=by rw [aB,br,aB,f];show(((F1 (AT fs a r u) dW [.obj u]).bind _).bind _)=_;rw [Qp fs a r u b,br];rfl
 rw [aB,br,e,br,g,br,zzl];rfl
theorem n8{body:PV->Sl->Sg->Rs Ci.Fl}{P:Nat->Sl->Sg->Prop}:∀(xs:List PV) (k:Nat) (env:Sl) (s:Sg),P k env s->(∀i x env s,xs[i]?=fP x->P (k+i) env s->∃env' s',body x env s=.ok (.nx env') s'/\P (k+i+1) env' s')->∃env' s',jh body xs env s=.ok (.nx env') s'/\P (k+xs.length) env' s'
 |[],k,env,s,h,_=>⟨env,s,rfl,h⟩|x::xs,k,env,s,h,g=>by
  let(e1,s1,a,b):=g 0 x env s rfl h;let(c,d,e,f):=n8 xs (k+1) e1 s1 b λi y env s j m=>by let(o,p,q,r):=g (i+1) y env s j (by rw [show k+(i+1)=k+1+i by lia];exact m);exact{o,p,q,by rw [show k+1+i+1=k+(i+1)+1 by lia];exact r}
  refine{c,d,?_,by rw [cC,show k+(xs.length+1)=k+1+xs.length by lia];exact f};rw [jh,a];exact e
def RV{F:aP}{a b:Ci.E}(c:aB F a env=.ok (.bl gh))(d:aB F b env=.ok (.bl gh)):aB F (.or a b) env=.ok (.bl gh):=by rw [aB,c];exact d
def ite_ff{F:aP}{c:Ci.E}{a:Ss}(h:aB F c env=.ok (.bl gh)):dH F (.ite c a .nil) env=.ok (.nx env):=by rw [dH,h];show bM F .nil env=_;rw [bM]
def MY{c:Ci.T2}{a:pK}{s:Sg}(h:Az F1 U c env s=.ok gh s1):dC F1 U (.ite c a .nil) env s=.ok (.nx env) s1:=by rw [dC,h];show aJ F1 U .nil env s1=_;rw [aJ]
def Fe{e:Ci.E}{s:Sg}(h:aB (F1 s) e env=.ok p):bC F1 U (.pu e) env s=.ok p s:=by rw [bC,h];rfl
def wK{o:tX}{a b:X2}{s c:Sg}{r:PV}(d:bC F1 U a env s=.ok p s1)(e:bC F1 U b env s1=.ok q c)(h3:cN o p q=.ok r):bC F1 U (.cmp o a b) env s=.ok r c:=by rw [bC,d];simp! [Rs.bind,e,h3,Rs.of]
def OM{x:X2}{e:Ci.E}{s:Sg}{r:PV}(a:bC F1 U x env s=.ok p s1)(b:aB (F1 s1) e env=.ok q)(h3:ay p q=.ok r):bC F1 U (.sub x e) env s=.ok r s1:=by rw [bC,a];simp! [Rs.bind,b,h3,Rs.of]
section
variable(s:Sg)
theorem CV(T:List (Str×Def))(h:aI (aV s) T (zu 11)=aW (aI (aV s) Uk) du):lQ (aI (aV s) T):=λns k q hk a=>by have e:aI (aV s) Uk (zu 59)=aW (aI (aV s) Xm) dt:=pG 0;rw [h];exact Jc _ (λns k hk=>by rw [e];exact GZ _ ns k hk) ns k q hk a
def LJ(ns:List Int)(k:Int)(hk:0<=k):∃d:Dd,d.Ok/\F1 s (zu 55) [mV ns,.int k]=.ok d.P:=by have a:aI (aV s) rD (zu 55)=aW (aI (aV s) PX) bq:=pG 2;have b:aI (aV s) PX (zu 50)=aW (aI (aV s) S9) cy:=pG 0;have c:lQ (aI (aV s) PX):=CV s PX (pG 1);have f:lQ (aI (aV s) S9):=CV s S9 (pG 0);let(d,g,h):=Hb _ c (λns k hk=>by let(R,w,L,e):=AB _ f ns k hk 3 (by decide) (by decide);exact{R,w,L,(congrFun b _).trans e}) ns k hk;exact{d,g,(congrFun a _).trans h}
def CT{K:DD}(I:Inv K)(d:Dd):F1 s (zu 34) [dc K,d.P]=.ok (.tup [dc (FZ d.nm K (act (Lk K) d).2),(act (Lk K) d).1]):=by have a:aI (aV s) rD (zu 34)=aW (aI (aV s) Ul) ag:=pG 0;have b:aI (aV s) Ul (zu 32)=aW (aI (aV s) Xn) aU:=pG 0;exact(congrFun a _).trans (z9 _ _ (λas=>congrFun b as) I.nd I.len I.g d)
end
noncomputable abbrev eL(ns:List Int)(K:DD)(a b c d:Slot):Sl:=[.val (mV ns),.val (.obj 0),.val (dc K),a,b,c,d]
abbrev Ex:Nat->pK->S2
 |0,.cons s _=>s|n+1,.cons _ ss=>Ex n ss|_,.nil=>.p (.expr (.cst .aN))
abbrev UR:S2->pK
 |.hJ _ _ b=>b|_=>.nil
abbrev V5:S2:=Ex 0 gY.body
abbrev TC:S2:=Ex 1 gY.body
abbrev Yj:S2:=Ex 2 gY.body
theorem Io:gY.body=.cons V5 (.cons TC (.cons Yj .nil)):=rfl
abbrev lb(n:Nat):S2:=Ex n (UR TC)
theorem Nj:TC=.hJ (.one 3) (.sY (.cst (.int 16))) (.cons (lb 0) (.cons (lb 1) (.cons (lb 2) (.cons (lb 3) (.cons (lb 4) .nil))))):=rfl
def Jn{K:DD}(T:JY D K)(d:List (Str×PV))(r:Sg)(u:Nat){t:Bool}(m:hX p p=.ok (.bl gh))(w:qe .bool p=.ok (.bl t))(e:Sl)(f:e[1]?=fP (.val (.obj 0)))(g:e[2]?=fP (.val (dc K)))(j:e[5]?=fP (.val p))(k:e[6]?=fP (.val p))(no:e.any Slot.aZ=gh):
 dC F1 F2 (lb 3) e (AT (fD D) d r u)=.ok (.nx e) (AT (fD D) d r u)/\dC F1 F2 (lb 4) e (AT (fD D) d r u)=.ok (.nx e) (AT (fD D) d r u):=by
 generalize hs:AT (fD D) d r u=s;have v:∀{i:Nat} {q:PV},e[i]?=fP (.val q)->aB (F1 s) (.var i) e=.ok q:=λh=>by rw [aB,h];rfl
 have y:aB (F1 s) (.cmp .ne (.var 6) (.var 5)) e=.ok (.bl gh):=by rw [aB,v k,v j];exact m
 have a2:∀i,e[i]?=fP (.val p)->aB (F1 s) (.ty .bool (.var i)) e=.ok (.bl t):=λi h=>by rw [aB,v h];exact w
 have z:aB (F1 s) (.cmp .ne (.ty .bool (.var 6)) (.ty .bool (.var 5))) e=.ok (.bl gh):=by rw [aB,a2 6 k,a2 5 j];exact Kr t
 refine{EG (ite_ff (RV y z)) no,MY ?_};have c:g8 s 0 "Atlas"=gf:=by rw [<-hs];exact dJ _ _ _ _
 have c1:bC F1 F2 (.v9 (zu 24) (.cons (.var 1) .nil)) e s=.ok (dc (aD D)) s:=by rw [bC,br,v f,br,<-hs];exact nB T.a d r u
 have A:=wK (o:=.Iu) c1 (Fe (v g)) (Np T);have B:bC F1 F2 (.met (.var 1) "Atlas" "names" .nil) e s=.ok (.lst ((cn (cg D)).map .str)) s:=by rw [e8 f c (ps:=[]) (by rw [br]),<-hs];exact vp T.a d r u
 have C:aB (F1 s) (.blt .sorted (.cons (.var 2) .nil)) e=.ok (.lst ((cn (cg K)).map .str)):=by rw [aB,br,v g,br];exact qZ (vs:=kg K) T.b.nd T.b.nm
 have E:=wK (o:=.ne) B (Fe C) (by show hX (.lst ((cn (cg D)).map .str)) (.lst ((cn (cg K)).map .str))=_;rw [Ka T,RG]);rw [Az,Az,A];show(Az F1 F2 _ _ _)=_;rw [Az,E];rfl
def FV(ns:List Int){K:DD}(T:JY D K)(c:List (Str×PV))(r:Sg)(u:Nat)(hn:c.length<bS)(N:Gm r u)(k:Nat)(y h f:Slot)(F:f.aZ=gh)(O:h.aZ=gh)(h4:y.aZ=gh):
 ∃s g i j m G H I,JY s g/\i.length<=c.length+1/\Gm j m/\G.aZ=gh/\H.aZ=gh/\I.aZ=gh/\aJ F1 F2 (.cons (lb 0) (.cons (lb 1) (.cons (lb 2) (.cons (lb 3) (.cons (lb 4) .nil))))) (eL ns K (.val (.int (k:Int))) y h f) (AT (fD D) c r u)=.ok (.nx (eL ns g (.val (.int (k:Int))) G H I)) (AT (fD s) i j m):=by
 let(d,hd,Q):=LJ (AT (fD D) c r u) ns (1000+60*(k:Int)) (by lia);have A:=CT (AT (fD D) c r u) T.b d;let(i,j,m,R,B,w):=Lz T.a d hd c r u hn N;have q:=FY T d hd;have M:act (λz=>gv z D) d=act (Lk K) d:=congrArg (λL=>act L d) T.e;let(C,t,E):=OX (GL (Lk K) d);rw [show act (Lk D) d=act (Lk K) d from M] at q;rw [M] at w;generalize act (Lk K) d=o at A w q C E;let(p,ch):=o;dsimp only at A w q C E;generalize zQ d.nm D ch=s at w q;generalize FZ d.nm K ch=g at A q;refine{s,g,i,j,m,.val d.P,.val p,.val p,q,R,B,rfl,rfl,rfl,?_};have sm:binOp .mul (.int 60) (.int (k:Int))=.ok (.int (60*(k:Int))):=rfl;have S:aB (F1 (AT (fD D) c r u)) (.call (zu 55) (.cons (.var 0) (.cons (.bin .add (.cst (.int 1000)) (.bin .mul (.cst (.int 60)) (.var 3))) .nil))) (eL ns K (.val (.int (k:Int))) y h f)=.ok d.P:=nF (ps:=[mV ns,.int (1000+60*(k:Int))]) rfl Q;have U:(eL ns K (.val (.int (k:Int))) (.val d.P) h f).any Slot.aZ=gh:=by show(gh||(gh||(gh||(gh||(gh||(h.aZ||(f.aZ||false)))))))=gh;rw [O,F];rfl
 have V:dC F1 F2 (lb 0) (eL ns K (.val (.int (k:Int))) y h f) (AT (fD D) c r u)=.ok (.nx (eL ns K (.val (.int (k:Int))) (.val d.P) h f)) (AT (fD D) c r u):=EI S U;have W:aB (F1 (AT (fD D) c r u)) (.call (zu 34) (.cons (.var 2) (.cons (.var 4) .nil))) (eL ns K (.val (.int (k:Int))) (.val d.P) h f)=.ok (.tup [dc g,p]):=nF (ps:=[dc K,d.P]) rfl A;have X:(eL ns g (.val (.int (k:Int))) (.val d.P) (.val p) f).any Slot.aZ=gh:=by show(gh||(gh||(gh||(gh||(gh||(gh||(f.aZ||false)))))))=gh;rw [F];rfl
 have Y:dC F1 F2 (lb 1) (eL ns K (.val (.int (k:Int))) (.val d.P) h f) (AT (fD D) c r u)=.ok (.nx (eL ns g (.val (.int (k:Int))) (.val d.P) (.val p) f)) (AT (fD D) c r u):=EG (by rw [dH,W];rfl) X;have Z:bC F1 F2 (.v9 (zu 19) (.cons (.var 1) (.cons (.var 4) .nil))) (eL ns g (.val (.int (k:Int))) (.val d.P) (.val p) f) (AT (fD D) c r u)=.ok p (AT (fD s) i j m):=by rw [bC];exact w
 have b2:dC F1 F2 (lb 2) (eL ns g (.val (.int (k:Int))) (.val d.P) (.val p) f) (AT (fD D) c r u)=.ok (.nx (eL ns g (.val (.int (k:Int))) (.val d.P) (.val p) (.val p))) (AT (fD s) i j m):=eS Z;let(b3,b4):=Jn q i j m C E (eL ns g (.val (.int (k:Int))) (.val d.P) (.val p) (.val p)) rfl rfl rfl rfl rfl;rw [aX V,aX Y,aX b2,aX b3,aX b4,aJ]
def LI(ns:List Int)(i:Nat)(env:Sl)(s:Sg):Prop:=∃(D K:DD) (a:List (Str×PV)) (r:Sg) (u:Nat) (e b c d:Slot),JY D K/\a.length<=i/\Gm r u/\b.aZ=gh/\c.aZ=gh/\d.aZ=gh/\env=eL ns K e b c d/\s=AT (fD D) a r u
def Im(ns:List Int):∃env' s',dC F1 F2 TC (eL ns [] .no .no .no .no) (AT [] [] [{"#l",[]}] 3)=.ok (.nx env') s'/\LI ns 16 env' s':=by
 have b:Inv []:={.nil,(λZ h=>by cases h),λZ h=>by cases h}
 let(env',s',e,h):=n8 (body:=λx env s=>(Rs.of ((Tg.one 3).put x env) s).bind λenv' s=>aJ F1 F2 (.cons (lb 0) (.cons (lb 1) (.cons (lb 2) (.cons (lb 3) (.cons (lb 4) .nil))))) env' s) (P:=LI ns) (fH 0 16) 0 (eL ns [] .no .no .no .no) (AT [] [] [{"#l",[]}] 3)
  {[],[],[],[{"#l",[]}],3,.no,.no,.no,.no,⟨b,b,rfl⟩,a8 _,{a8 _,rfl},rfl,rfl,rfl,rfl,rfl} (by
  intro i x env s d f;let(O,rfl):=sZ d;let(D,K,c,r,u,Q,g,j,k,T,hl,o,p,q,t,rfl,rfl):=f;have w:c.length<bS:=dk (m:=16) (by lia) (by decide);let(y,z,A,B,C,E,F,G,H,R,a,I,L,M,e):=FV ns T c r u w o i g j k t q p;exact{_,_,e,y,z,A,B,C,_,E,F,G,H,by lia,a,I,L,M,rfl,rfl})
 refine{env',s',?_,?_}
 .rw [Nj,dC];have N:wO (F1 (AT [] [] [{"#l",[]}] 3)) (.sY (.cst (.int 16))) (eL ns [] .no .no .no .no)=.ok (fH 0 16):=by
   rw [wO,aB];rfl
  rw [N];exact e
 .have:(fH 0 16).length=16:=by rfl
  rw [this] at h;exact h
def Ni(ns:List Int):dC F1 F2 V5 [.val (mV ns),.no,.no,.no,.no,.no,.no] []=.ok (.nx (eL ns [] .no .no .no .no)) (AT [] [] [{"#l",[]}] 3):=by show dC F1 F2 V5 [.val (.lst (ns.map .int)),.no,.no,.no,.no,.no,.no] []=.ok (.nx [.val (.lst (ns.map .int)),.val (.obj 0),.val (.cA [] []),.no,.no,.no,.no]) _;generalize PV.lst (ns.map .int)=x;kernel_rfl
def Nk(env:Sl)(b:env[1]?=fP (.val (.obj 0)))(fs a:List (Str×PV))(r:Sg)(u:Nat)(c:Gm r u):dC F1 F2 Yj env (AT fs a r u)=.ok (.rt (.bl gf)) (AT fs a r u):=by
 have d:bC F1 F2 (.met (.var 1) "Atlas" "marks" .nil) env (AT fs a r u)=.ok (.tup [.int a.length,.int 0]) (AT fs a r u):=by rw [e8 b (dJ _ _ _ _) (ps:=[]) (by rw [br])];exact Eh fs a r u c
 show dC F1 F2 (.ret _) env (AT fs a r u)=_;exact iK (wK (OM d (q:=.int 1) (by rw [aB]) (r:=.int 0) rfl) (Fe (p:=.int 0) (by rw [aB])) rfl)
def Rf(ns:List Int)(hl:ns.length<=63):∃s,cF F1 F2 gY [.lst (ns.map .int)] []=.ok (.bl gf) s:=by
 let(a,d,e,D,K,b,r,u,f,g,i,j,T,_,c,_,_,_,rfl,rfl):=Im ns;refine{AT (fD D) b r u,?_};have h:aJ F1 F2 gY.body (gR gY [.lst (ns.map .int)]) []=.ok (.rt (.bl gf)) (AT (fD D) b r u):=by show aJ F1 F2 gY.body [.val (mV ns),.no,.no,.no,.no,.no,.no] []=_;rw [Io,aX (Ni ns),aX e];exact fY (Nk _ rfl _ _ _ _ c)
 unfold cF;rw [if_pos (show([PV.lst (ns.map .int)].length==gY.np)=gf from rfl),h];rfl
end K72
variable{D:K72.DD}
namespace Hd
open PySem.W L2
noncomputable abbrev fo(n:Str)(st:ix)(a:gA)(c:hB):Obj:={.type "function",gd,.func (fnOf n n (bY st) (bg st) (au st) .none .none .none a gd (.ref c) .none),#[]}
noncomputable abbrev fm(n q:Str)(st:ix)(a:gA)(c:hB):Obj:={.type "function",gd,.func (fnOf n q (bY st) (bg st) (au st) .none .none .none a gd (.ref c) .none),#[]}
noncomputable abbrev co(n:Str)(a:Nat)(L A:Int)(r:Nat)(x y:gA)(q z:Nat):Obj:={cls:=.type "code",data:=.fields #[.str n a,.str n (a+1),.str (zu 1) (a+2),.int L 0,.int A 0,.int 0 0,.int 0 0,.int 3 0,.ref r,.bool Bool.true,.int 181 0,.ref (r+1),.none,x,y,.ref q,.int z 0,.int L 0,.str (zu 1) (z+1)]}
abbrev UJ(s:ix):Pos:=match s with
 |.FunctionDef _ _ _ _ _ _ _ _ _ p=>p|_=>{0,0,0,0}
def ent{K:Frag}{ts:List (hB×Str)}{n:Str}(f c:hB)(b:gA)(a:nsIn K iR n=fP (fP (.ref f)):=by kernel_rfl)(l:K.lookup f=fP (fo n st b c):=by kernel_rfl)(d:codeIn K (.ref c) n=gf:=by kernel_rfl)(k:keepIn K (.ref f)=gf:=by kernel_rfl):Ci.B3 K ts gh n st:=Ci.UL a l d k
def UK{K:Frag}{ts:List (hB×Str)}{n:Str}(f c:hB)(b:gA)(a:nsIn K iR n=fP (fP (.ref f)):=by kernel_rfl)(l:K.lookup f=fP (fo n st b c):=by kernel_rfl)(d:codeIn K (.ref c) n=gf:=by kernel_rfl)(k:keepIn K (.ref f)=gf:=by kernel_rfl):Ci.zX K ts gh n n gd st:={f,_,_,_,_,_,_,_,_,_,⟨a,rfl⟩,l,d,k,nofun}
def Zi{K:Frag}{ts:List (hB×Str)}{n:Str}(f c p:hB)(b:gA)(e:Ci.fI K c p)(m:(p,Ci.j0 n)∈ts)(u:∀q∈ts,q.1=p->q.2=Ci.j0 n)(a:nsIn K iR n=fP (fP (.ref f)):=by kernel_rfl)(l:K.lookup f=fP (fo n st b c):=by kernel_rfl)(d:codeIn K (.ref c) n=gf:=by kernel_rfl)(k:keepIn K (.ref f)=gf:=by kernel_rfl):Ci.zX K ts gf n n gd st:={f,_,_,_,_,_,_,_,_,_,⟨a,rfl⟩,l,d,k,λZ=>{c,p,rfl,e,m,λg h=>u _ h rfl}}
def BR{K:Frag}{ts:List (hB×Str)}{n q cl:Str}(C f c:hB)(b:gA)(g:nsIn K iR cl=fP (fP (.ref C)))(e:q=Ci.mP cl n:=by decide+kernel)(a:findIn K (.ref C) n=fP (fP (.ref f)):=by kernel_rfl)(i:isFn K (.ref f)=gf:=by kernel_rfl)(l:K.lookup f=fP (fm n q st b c):=by kernel_rfl)(d:codeIn K (.ref c) q=gf:=by kernel_rfl)(k:keepIn K (.ref f)=gf:=by kernel_rfl):Ci.zX K ts gh n q (fP cl) st:={f,_,_,_,_,_,_,_,_,_,⟨e,C,g,a,i⟩,l,d,k,nofun}
def a2{K:Frag}{ts:List (hB×Str)}{Γ:Ci.Pg}{fl:List (Str×Str)}{r:Ci.fT}{l:Ci.eC}(e:Ci.zX K ts r.hl r.m r.f r.c r.st)(s:Ci.yc Γ fl r l)(t:Ci.ny K ts Γ fl l)(a:(l.map (·.f)).contains r.f=gh:=by decide+kernel)(b:r.c.isSome=gf->(Ci.cu fl l).td=[]:=by first|exact λZ=>rfl|exact λz=>absurd z (by decide)):Ci.ny K ts Γ fl (r::l):={e,s,⟨a,b⟩,t}
def ac{K:Frag}{ts:List (hB×Str)}{Γ:Ci.Pg}{r:Ci.Row}{l:Ci.f9}(e:Ci.B3 K ts r.hl r.h r.st)(s:Ci.dU (Γ.at l r.hl) r.h r.d r.st)(t:Ci.AllK K ts Γ l)(a:(l.map (·.f)).contains r.f=gh:=by decide+kernel)(b:(r.d.uB.isNone==!Ci.fB r.f)=gf:=by decide+kernel)(c:r.d.uB.isNone=gf->r.f=r.h:=by first|exact λZ=>rfl|exact λz=>absurd z (by decide))(d:Ci.P6 r.f=gh:=by decide+kernel):Ci.AllK K ts Γ (r::l):={e,s,⟨a,b,c,d⟩,t}
def Eb{K L:Frag}{b:hB}(e:K.lookup b=fP o):(K++L).lookup b=fP o:=by rw [List.lookup_append,e];rfl
end Hd
namespace K72
open L2 Ci
noncomputable abbrev lw:=PySem.Challenge.rw_cellways_k72_whole_atlases
abbrev top(i:Nat):Stmt:=PySem.Challenge.pw_cellways_k72_whole_atlases.main.body.getD i (.Pass {0,0,0,0})
abbrev Qi:ix->List ix
 |.ClassDef _ _ _ b _ _ _ _ _ _ _=>b|_=>[]
abbrev fg(i j:Nat):Stmt:=(Qi (top i)).getD j (.Pass {0,0,0,0})
noncomputable abbrev m1:Value:=.str "cellways.floors" 358
noncomputable abbrev m2:Value:=.str "cellways.grounds" 431
noncomputable abbrev m3:Value:=.str "cellways.atlases" 459
noncomputable abbrev m4:Value:=.str "law_cellways_k72_whole_atlases" 633
abbrev K(P:Params):zz8:=[(2,{cls:=.none,data:=.dict #[]}),
 (3,{cls:=.type "dict",data:=.dict #[Hd.de P (zu 51) 165 (.str "law_cellways_k72_whole_atlases" 633),Hd.de P (zu 65) 166 (.none),Hd.de P "__package__" 167 (.none),Hd.de P "__loader__" 168 (.builtin "__main__.__loader__#opaque"),Hd.de P "__spec__" 169 (.none),Hd.de P "__annotations__" 170 (.ref 6),Hd.de P "__builtins__" 171 (.ref 4),Hd.de P "__file__" 173 (.str (zu 1) 172),Hd.de P "__cached__" 174 (.none),Hd.de P "_wall" 193 (.ref 21),Hd.de P (zu 8) 213 (.ref 31),Hd.de P (zu 57) 229 (.ref 44),Hd.de P "NoWay" 245 (.ref 56),Hd.de P (zu 62) 261 (.ref 68),Hd.de P "NoSize" 277 (.ref 80),Hd.de P "NoText" 293 (.ref 92),Hd.de P (zu 58) 309 (.ref 104),Hd.de P (zu 31) 325 (.ref 116),Hd.de P "NoFit" 341 (.ref 128),Hd.de P "NoBack" 357 (.ref 140),Hd.de P "SIGNS" 361 (.str (zu 35) 360),Hd.de P "LONGEST" 363 (.int 12 362),Hd.de P (zu 63) 370 (.ref 149),Hd.de P (zu 49) 377 (.ref 156),Hd.de P "is_row" 383 (.ref 161),Hd.de P (zu 46) 389 (.ref 166),Hd.de P "is_spot" 396 (.ref 173),Hd.de P (zu 18) 404 (.ref 180),Hd.de P (zu 10) 412 (.ref 187),Hd.de P (zu 39) 419 (.ref 194),Hd.de P (zu 38) 430 (.ref 201),Hd.de P (zu 23) 438 (.ref 206),Hd.de P (zu 15) 444 (.ref 211),Hd.de P (zu 53) 452 (.ref 218),Hd.de P (zu 43) 458 (.ref 223),Hd.de P "LETTERS" 462 (.str (zu 20) 461),Hd.de P "LONGEST_NAME" 464 (.int 6 463),Hd.de P "is_name" 470 (.ref 228),Hd.de P (zu 47) 477 (.ref 235),Hd.de P "Atlas" 632 (.ref 350),Hd.de P (zu 59) 642 (.ref 361),Hd.de P (zu 11) 652 (.ref 368),Hd.de P (zu 50) 670 (.ref 375),Hd.de P (zu 6) 679 (.ref 382),Hd.de P (zu 54) 687 (.ref 389),Hd.de P (zu 55) 701 (.ref 396),Hd.de P (zu 32) 707 (.ref 401),Hd.de P (zu 34) 713 (.ref 406),Hd.de P (zu 19) 723 (.ref 413),Hd.de P (zu 24) 729 (.ref 418),Hd.de P "law" 742 (.ref 425)] 51}),
 (4,{cls:=.type "module",dict:=fP builtinsNs,data:=.plain}),
 (30,{cls:=.type "dict",data:=.dict #[Hd.de P (zu 36) 203 (.str (zu 16) 194),Hd.de P (zu 13) 207 (.int 5 206),Hd.de P (zu 4) 208 (.ref 29),Hd.de P "__weakref__" 210 (.ref 32),Hd.de P (zu 65) 211 (.none)] 3}),
 (31,{cls:=.type "type",data:=.cls {name:=(zu 8),bases:=[.type (zu 2)],mro:=[.ref 31,.type (zu 2),.type (zu 48),.type (zu 7),.type (zu 61)],ns:=30,qualname:=(zu 8),subclasses:=[.ref 44,.ref 56,.ref 68,.ref 80,.ref 92,.ref 104,.ref 116,.ref 128,.ref 140]},slots:=#[fP (.ref 22),gd,fP (.str (zu 8) 196),fP (.str (zu 8) 204),fP (.builtin (zu 3)),fP (.bool Bool.true)]}),
 (43,{cls:=.type "dict",data:=.dict #[Hd.de P (zu 36) 221 (.str (zu 16) 194),Hd.de P (zu 13) 225 (.int 7 224),Hd.de P (zu 4) 226 (.ref 42),Hd.de P (zu 65) 227 (.none)] 2}),
 (44,{cls:=.type "type",data:=.cls {name:=(zu 57),bases:=[.ref 31],mro:=[.ref 44,.ref 31,.type (zu 2),.type (zu 48),.type (zu 7),.type (zu 61)],ns:=43,qualname:=(zu 57)},slots:=#[fP (.ref 35),gd,fP (.str (zu 57) 214),fP (.str (zu 57) 222),fP (.builtin (zu 3)),fP (.bool Bool.true)]}),
 (55,{cls:=.type "dict",data:=.dict #[Hd.de P (zu 36) 237 (.str (zu 16) 194),Hd.de P (zu 13) 241 (.int 9 240),Hd.de P (zu 4) 242 (.ref 54),Hd.de P (zu 65) 243 (.none)] 2}),
 (56,{cls:=.type "type",data:=.cls {name:="NoWay",bases:=[.ref 31],mro:=[.ref 56,.ref 31,.type (zu 2),.type (zu 48),.type (zu 7),.type (zu 61)],ns:=55,qualname:="NoWay"},slots:=#[fP (.ref 47),gd,fP (.str "NoWay" 230),fP (.str "NoWay" 238),fP (.builtin (zu 3)),fP (.bool Bool.true)]}),
 (67,{cls:=.type "dict",data:=.dict #[Hd.de P (zu 36) 253 (.str (zu 16) 194),Hd.de P (zu 13) 257 (.int 11 256),Hd.de P (zu 4) 258 (.ref 66),Hd.de P (zu 65) 259 (.none)] 2}),
 (68,{cls:=.type "type",data:=.cls {name:=(zu 62),bases:=[.ref 31],mro:=[.ref 68,.ref 31,.type (zu 2),.type (zu 48),.type (zu 7),.type (zu 61)],ns:=67,qualname:=(zu 62)},slots:=#[fP (.ref 59),gd,fP (.str (zu 62) 246),fP (.str (zu 62) 254),fP (.builtin (zu 3)),fP (.bool Bool.true)]}),
 (79,{cls:=.type "dict",data:=.dict #[Hd.de P (zu 36) 269 (.str (zu 16) 194),Hd.de P (zu 13) 273 (.int 13 272),Hd.de P (zu 4) 274 (.ref 78),Hd.de P (zu 65) 275 (.none)] 2}),
 (80,{cls:=.type "type",data:=.cls {name:="NoSize",bases:=[.ref 31],mro:=[.ref 80,.ref 31,.type (zu 2),.type (zu 48),.type (zu 7),.type (zu 61)],ns:=79,qualname:="NoSize"},slots:=#[fP (.ref 71),gd,fP (.str "NoSize" 262),fP (.str "NoSize" 270),fP (.builtin (zu 3)),fP (.bool Bool.true)]}),
 (91,{cls:=.type "dict",data:=.dict #[Hd.de P (zu 36) 285 (.str (zu 16) 194),Hd.de P (zu 13) 289 (.int 15 288),Hd.de P (zu 4) 290 (.ref 90),Hd.de P (zu 65) 291 (.none)] 2}),
 (92,{cls:=.type "type",data:=.cls {name:="NoText",bases:=[.ref 31],mro:=[.ref 92,.ref 31,.type (zu 2),.type (zu 48),.type (zu 7),.type (zu 61)],ns:=91,qualname:="NoText"},slots:=#[fP (.ref 83),gd,fP (.str "NoText" 278),fP (.str "NoText" 286),fP (.builtin (zu 3)),fP (.bool Bool.true)]}),
 (103,{cls:=.type "dict",data:=.dict #[Hd.de P (zu 36) 301 (.str (zu 16) 194),Hd.de P (zu 13) 305 (.int 17 304),Hd.de P (zu 4) 306 (.ref 102),Hd.de P (zu 65) 307 (.none)] 2}),
 (104,{cls:=.type "type",data:=.cls {name:=(zu 58),bases:=[.ref 31],mro:=[.ref 104,.ref 31,.type (zu 2),.type (zu 48),.type (zu 7),.type (zu 61)],ns:=103,qualname:=(zu 58)},slots:=#[fP (.ref 95),gd,fP (.str (zu 58) 294),fP (.str (zu 58) 302),fP (.builtin (zu 3)),fP (.bool Bool.true)]}),
 (115,{cls:=.type "dict",data:=.dict #[Hd.de P (zu 36) 317 (.str (zu 16) 194),Hd.de P (zu 13) 321 (.int 19 320),Hd.de P (zu 4) 322 (.ref 114),Hd.de P (zu 65) 323 (.none)] 2}),
 (116,{cls:=.type "type",data:=.cls {name:=(zu 31),bases:=[.ref 31],mro:=[.ref 116,.ref 31,.type (zu 2),.type (zu 48),.type (zu 7),.type (zu 61)],ns:=115,qualname:=(zu 31)},slots:=#[fP (.ref 107),gd,fP (.str (zu 31) 310),fP (.str (zu 31) 318),fP (.builtin (zu 3)),fP (.bool Bool.true)]}),
 (127,{cls:=.type "dict",data:=.dict #[Hd.de P (zu 36) 333 (.str (zu 16) 194),Hd.de P (zu 13) 337 (.int 21 336),Hd.de P (zu 4) 338 (.ref 126),Hd.de P (zu 65) 339 (.none)] 2}),
 (128,{cls:=.type "type",data:=.cls {name:="NoFit",bases:=[.ref 31],mro:=[.ref 128,.ref 31,.type (zu 2),.type (zu 48),.type (zu 7),.type (zu 61)],ns:=127,qualname:="NoFit"},slots:=#[fP (.ref 119),gd,fP (.str "NoFit" 326),fP (.str "NoFit" 334),fP (.builtin (zu 3)),fP (.bool Bool.true)]}),
 (139,{cls:=.type "dict",data:=.dict #[Hd.de P (zu 36) 349 (.str (zu 16) 194),Hd.de P (zu 13) 353 (.int 23 352),Hd.de P (zu 4) 354 (.ref 138),Hd.de P (zu 65) 355 (.none)] 2}),
 (140,{cls:=.type "type",data:=.cls {name:="NoBack",bases:=[.ref 31],mro:=[.ref 140,.ref 31,.type (zu 2),.type (zu 48),.type (zu 7),.type (zu 61)],ns:=139,qualname:="NoBack"},slots:=#[fP (.ref 131),gd,fP (.str "NoBack" 342),fP (.str "NoBack" 350),fP (.builtin (zu 3)),fP (.bool Bool.true)]}),
 zx5 148 (zu 63) 364 28 1 143 368,
 zx3 149 (zu 63) 15 m1,
 zx5 155 (zu 49) 371 30 1 150 375,
 zx3 156 (zu 49) 16 m1,
 (160,Hd.co "is_row" 378 32 1 157 .none .none 159 381),
 zx3 161 "is_row" 17 m1,
 (165,Hd.co (zu 46) 384 36 1 162 .none .none 164 387),
 zx3 166 (zu 46) 18 m1,
 zx5 172 "is_spot" 390 42 1 167 394,
 zx3 173 "is_spot" 19 m1,
 zx5 179 (zu 18) 397 44 2 174 402,
 zx3 180 (zu 18) 20 m1,
 zx5 186 (zu 10) 405 46 2 181 410,
 zx3 187 (zu 10) 21 m1,
 zx5 193 (zu 39) 413 49 1 188 417,
 zx3 194 (zu 39) 22 m1,
 zx5 200 (zu 38) 420 52 3 195 428,
 zx3 201 (zu 38) 23 m1,
 (205,Hd.co (zu 23) 433 57 1 202 .none .none 204 436),
 zx3 206 (zu 23) 25 m2,
 (210,Hd.co (zu 15) 439 63 1 207 .none .none 209 442),
 zx3 211 (zu 15) 26 m2,
 zx5 217 (zu 53) 445 65 2 212 450,
 zx3 218 (zu 53) 27 m2,
 (222,Hd.co (zu 43) 453 71 2 219 .none .none 221 456),
 zx3 223 (zu 43) 28 m2,
 (227,Hd.co "is_name" 465 80 1 224 .none .none 226 468),
 zx3 228 "is_name" 32 m3,
 zx5 234 (zu 47) 471 84 1 229 475,
 zx3 235 (zu 47) 33 m3,
 (248,{cls:=.type "code",data:=.fields #[.str (zu 14) 490,.str (zu 66) 491,.str (zu 1) 492,.int 89 0,.int 1 0,.int 0 0,.int 0 0,.int 3 0,.ref 243,.bool Bool.true,.int 181 0,.ref 244,.none,.ref 245,.ref 246,.ref 247,.int 494 0,.int 89 0,.str (zu 1) 495]}),
 (249,Hd.fm (zu 14) (zu 66) (fg 34 0) m3 248),
 (255,{cls:=.type "code",data:=.fields #[.str "give" 497,.str (zu 21) 498,.str (zu 1) 499,.int 94 0,.int 3 0,.int 0 0,.int 0 0,.int 3 0,.ref 250,.bool Bool.true,.int 181 0,.ref 251,.none,.ref 252,.ref 253,.ref 254,.int 503 0,.int 94 0,.str (zu 1) 504]}),
 (256,Hd.fm "give" (zu 21) (fg 34 1) m3 255),
 (262,{cls:=.type "code",data:=.fields #[.str "step" 506,.str (zu 12) 507,.str (zu 1) 508,.int 100 0,.int 4 0,.int 0 0,.int 0 0,.int 3 0,.ref 257,.bool Bool.true,.int 181 0,.ref 258,.none,.ref 259,.ref 260,.ref 261,.int 513 0,.int 100 0,.str (zu 1) 514]}),
 (263,Hd.fm "step" (zu 12) (fg 34 2) m3 262),
 (269,{cls:=.type "code",data:=.fields #[.str "lay" 516,.str (zu 56) 517,.str (zu 1) 518,.int 105 0,.int 3 0,.int 0 0,.int 0 0,.int 3 0,.ref 264,.bool Bool.true,.int 181 0,.ref 265,.none,.ref 266,.ref 267,.ref 268,.int 523 0,.int 105 0,.str (zu 1) 524]}),
 (270,Hd.fm "lay" (zu 56) (fg 34 3) m3 269),
 (276,{cls:=.type "code",data:=.fields #[.str (zu 40) 526,.str (zu 0) 527,.str (zu 1) 528,.int 113 0,.int 2 0,.int 0 0,.int 0 0,.int 3 0,.ref 271,.bool Bool.true,.int 181 0,.ref 272,.none,.ref 273,.ref 274,.ref 275,.int 531 0,.int 113 0,.str (zu 1) 532]}),
 (277,Hd.fm (zu 40) (zu 0) (fg 34 4) m3 276),
 (283,{cls:=.type "code",data:=.fields #[.str "take" 534,.str (zu 30) 535,.str (zu 1) 536,.int 119 0,.int 2 0,.int 0 0,.int 0 0,.int 3 0,.ref 278,.bool Bool.true,.int 181 0,.ref 279,.none,.ref 280,.ref 281,.ref 282,.int 540 0,.int 119 0,.str (zu 1) 541]}),
 (284,Hd.fm "take" (zu 30) (fg 34 5) m3 283),
 (290,{cls:=.type "code",data:=.fields #[.str "join" 543,.str (zu 26) 544,.str (zu 1) 545,.int 124 0,.int 5 0,.int 0 0,.int 0 0,.int 3 0,.ref 285,.bool Bool.true,.int 181 0,.ref 286,.none,.ref 287,.ref 288,.ref 289,.int 554 0,.int 124 0,.str (zu 1) 555]}),
 (291,Hd.fm "join" (zu 26) (fg 34 6) m3 290),
 (297,{cls:=.type "code",data:=.fields #[.str "turn" 557,.str (zu 29) 558,.str (zu 1) 559,.int 132 0,.int 2 0,.int 0 0,.int 0 0,.int 3 0,.ref 292,.bool Bool.true,.int 181 0,.ref 293,.none,.ref 294,.ref 295,.ref 296,.int 563 0,.int 132 0,.str (zu 1) 564]}),
 (298,Hd.fm "turn" (zu 29) (fg 34 7) m3 297),
 (304,{cls:=.type "code",data:=.fields #[.str (zu 27) 566,.str (zu 17) 567,.str (zu 1) 568,.int 137 0,.int 2 0,.int 0 0,.int 0 0,.int 3 0,.ref 299,.bool Bool.true,.int 181 0,.ref 300,.none,.ref 301,.ref 302,.ref 303,.int 572 0,.int 137 0,.str (zu 1) 573]}),
 (305,Hd.fm (zu 27) (zu 17) (fg 34 8) m3 304),
 (311,{cls:=.type "code",data:=.fields #[.str "sign" 575,.str (zu 25) 576,.str (zu 1) 577,.int 142 0,.int 4 0,.int 0 0,.int 0 0,.int 3 0,.ref 306,.bool Bool.true,.int 181 0,.ref 307,.none,.ref 308,.ref 309,.ref 310,.int 583 0,.int 142 0,.str (zu 1) 584]}),
 (312,Hd.fm "sign" (zu 25) (fg 34 9) m3 311),
 (318,{cls:=.type "code",data:=.fields #[.str "names" 586,.str (zu 42) 587,.str (zu 1) 588,.int 149 0,.int 1 0,.int 0 0,.int 0 0,.int 3 0,.ref 313,.bool Bool.true,.int 181 0,.ref 314,.none,.ref 315,.ref 316,.ref 317,.int 590 0,.int 149 0,.str (zu 1) 591]}),
 (319,Hd.fm "names" (zu 42) (fg 34 10) m3 318),
 (339,{cls:=.type "code",data:=.fields #[.str "marks" 608,.str (zu 60) 609,.str (zu 1) 610,.int 163 0,.int 1 0,.int 0 0,.int 0 0,.int 3 0,.ref 334,.bool Bool.true,.int 181 0,.ref 335,.none,.ref 336,.ref 337,.ref 338,.int 612 0,.int 163 0,.str (zu 1) 613]}),
 (340,Hd.fm "marks" (zu 60) (fg 34 13) m3 339),
 (349,{cls:=.type "dict",data:=.dict #[Hd.de P (zu 36) 485 (.str "cellways.atlases" 459),Hd.de P (zu 13) 489 (.int 87 488),Hd.de P (zu 14) 496 (.ref 249),Hd.de P "give" 505 (.ref 256),Hd.de P "step" 515 (.ref 263),Hd.de P "lay" 525 (.ref 270),Hd.de P (zu 40) 533 (.ref 277),Hd.de P "take" 542 (.ref 284),Hd.de P "join" 556 (.ref 291),Hd.de P "turn" 565 (.ref 298),Hd.de P (zu 27) 574 (.ref 305),Hd.de P "sign" 585 (.ref 312),Hd.de P "names" 592 (.ref 319),Hd.de P "back" 600 (.ref 326),Hd.de P "forth" 607 (.ref 333),Hd.de P "marks" 614 (.ref 340),Hd.de P "twin" 621 (.ref 347),Hd.de P (zu 4) 625 (.ref 348),Hd.de P "__dict__" 627 (.ref 351),Hd.de P "__weakref__" 629 (.ref 352),Hd.de P (zu 65) 630 (.none)] 4}),
 (350,{cls:=.type "type",data:=.cls {name:="Atlas",bases:=[.type (zu 61)],mro:=[.ref 350,.type (zu 61)],ns:=349,qualname:="Atlas"},slots:=#[gd,gd,fP (.str "Atlas" 478),fP (.str "Atlas" 486),fP (.builtin "object.__new__"),fP (.bool Bool.true)]}),
 zx5 360 (zu 59) 635 169 2 355 640,
 zx3 361 (zu 59) 36 m4,
 zx5 367 (zu 11) 643 175 3 362 650,
 zx3 368 (zu 11) 37 m4,
 zx5 374 (zu 50) 653 178 3 369 668,
 zx3 375 (zu 50) 38 m4,
 zx5 381 (zu 6) 671 191 1 376 677,
 zx3 382 (zu 6) 39 m4,
 zx5 388 (zu 54) 680 199 1 383 685,
 zx3 389 (zu 54) 40 m4,
 zx5 395 (zu 55) 688 204 2 390 699,
 zx3 396 (zu 55) 41 m4,
 (400,Hd.co (zu 32) 702 216 2 397 .none .none 399 705),
 zx3 401 (zu 32) 42 m4,
 (405,Hd.co (zu 34) 708 231 2 402 .none .none 404 711),
 zx3 406 (zu 34) 43 m4,
 zx5 412 (zu 19) 714 255 2 407 721,
 zx3 413 (zu 19) 44 m4,
 (417,Hd.co (zu 24) 724 263 1 414 .none .none 416 727),
 zx3 418 (zu 24) 45 m4,
 zx5 424 "law" 730 265 1 419 740,
 zx3 425 "law" 46 m4]
abbrev ts:List (hB×Str):=[(408,j0 (zu 19))]
abbrev K2(P:Params):zz8:=K P++[(408,PySem.W.tabObj #[])]
abbrev as:List Addr:=[2,3,4,30,31,43,44,55,56,67,68,79,80,91,92,103,104,115,116,127,128,139,140,148,149,155,156,160,161,165,166,172,173,179,180,186,187,193,194,200,201,205,206,210,211,217,218,222,223,227,228,234,235,248,249,255,256,262,263,269,270,276,277,283,284,290,291,297,298,304,305,311,312,318,319,339,340,349,350,360,361,367,368,374,375,381,382,388,389,395,396,400,401,405,406,412,413,417,418,424,425,408]
abbrev Γ:Pg:={[("SIGNS",(.str (zu 35))),("LONGEST",(.int 12)),("LETTERS",(.str (zu 20))),("LONGEST_NAME",(.int 6))],["len","int","str","list","tuple","all",zu 28,"bool","range","zip",zu 2,"sorted","dict",zu 9],[zu 8,"NoBack","NoFit",zu 58,zu 31,zu 62,"NoSize",zu 57,"NoText","NoWay"],[],["NoFit",zu 58,zu 31,zu 62,zu 57],[],gh,gh,[]}
def R0:f9:=[]
def qb:dU (Γ.at R0 gh) (zu 6) eZ (top 39):=stM λZ Z Z Z Z Z=>Hd.tZ λZ=>rfl
abbrev R1:f9:=zx2 (zu 6) eZ 39 gh::R0
def vV:dU (Γ.at R1 gh) (zu 63) fv (top 15):=stM λZ Z Z Z Z Z=>Hd.tZ λZ=>rfl
abbrev R2:f9:=zx2 (zu 63) fv 15 gh::R1
def xR:dU (Γ.at R2 gh) "is_name" lU (top 32):=stM λZ Z Z Z Z Z=>Hd.tZ λZ=>rfl
abbrev R3:f9:=zx2 "is_name" lU 32 gh::R2
def tP:dU (Γ.at R3 gh) (zu 47) ip (top 33):=stM λZ Z Z Z Z Z=>Hd.tZ λZ=>rfl
abbrev R4:f9:=zx2 (zu 47) ip 33 gh::R3
def mY:dU (Γ.at R4 gh) (zu 23) cf (top 25):=stM λZ Z Z Z Z Z=>Hd.tZ λZ=>rfl
abbrev R5:f9:=zx2 (zu 23) cf 25 gh::R4
def lh:dU (Γ.at R5 gh) (zu 15) bI (top 26):=stM λZ Z Z Z Z Z=>Hd.tZ λZ=>rfl
abbrev R6:f9:=zx2 (zu 15) bI 26 gh::R5
def xT:dU (Γ.at R6 gh) "is_spot" ff (top 19):=stM λZ Z Z Z Z Z=>Hd.tZ λZ=>rfl
abbrev R7:f9:=zx2 "is_spot" ff 19 gh::R6
def pj:dU (Γ.at R7 gh) (zu 18) cG (top 20):=stM λZ Z Z Z Z Z=>Hd.yf λZ Z=>rfl
abbrev R8:f9:=zx2 (zu 18) cG 20 gh::R7
def l8:dU (Γ.at R8 gh) (zu 10) bf (top 21):=stM λZ Z Z Z Z Z=>Hd.yf λZ Z=>rfl
abbrev R9:f9:=zx2 (zu 10) bf 21 gh::R8
def xS:dU (Γ.at R9 gh) (zu 49) dv (top 16):=stM λZ Z Z Z Z Z=>Hd.tZ λZ=>rfl
abbrev W4:f9:=zx2 (zu 49) dv 16 gh::R9
def tQ:dU (Γ.at W4 gh) (zu 39) dw (top 22):=stM λZ Z Z Z Z Z=>Hd.tZ λZ=>rfl
abbrev W5:f9:=zx2 (zu 39) dw 22 gh::W4
def BC:dU (Γ.at W5 gh) "is_row" gj (top 17):=stM λZ Z Z Z Z Z=>Hd.tZ λZ=>rfl
abbrev W6:f9:=zx2 "is_row" gj 17 gh::W5
def vU:dU (Γ.at W6 gh) (zu 46) dY (top 18):=stM λZ Z Z Z Z Z=>Hd.tZ λZ=>rfl
abbrev W7:f9:=zx2 (zu 46) dY 18 gh::W6
def qd:dU (Γ.at W7 gh) (zu 43) bX (top 28):=stM λZ Z Z Z Z Z=>Hd.yf λZ Z=>rfl
abbrev W8:f9:=zx2 (zu 43) bX 28 gh::W7
def tR:dU (Γ.at W8 gh) (zu 53) cm (top 27):=stM λZ Z Z Z Z Z=>Hd.yf λZ Z=>rfl
abbrev W9:f9:=zx2 (zu 53) cm 27 gh::W8
def tU:dU (Γ.at W9 gh) (zu 38) dy (top 23):=stM λZ Z Z Z Z Z=>Hd.O9 λZ Z Z=>rfl
abbrev Xa:f9:=zx2 (zu 38) dy 23 gh::W9
def tH:dU (Γ.at Xa gh) (zu 59) dt (top 36):=stM λZ Z Z Z Z Z=>Hd.yf λZ Z=>rfl
abbrev Xb:f9:=zx2 (zu 59) dt 36 gh::Xa
def tM:dU (Γ.at Xb gh) (zu 11) du (top 37):=stM λZ Z Z Z Z Z=>Hd.O9 λZ Z Z=>rfl
abbrev Xc:f9:=zx2 (zu 11) du 37 gh::Xb
def qc:dU (Γ.at Xc gh) (zu 50) cy (top 38):=stM λZ Z Z Z Z Z=>Hd.O9 λZ Z Z=>rfl
abbrev Xd:f9:=zx2 (zu 50) cy 38 gh::Xc
def tJ:dU (Γ.at Xd gh) (zu 55) bq (top 41):=stM λZ Z Z Z Z Z=>Hd.yf λZ Z=>rfl
abbrev Xe:f9:=zx2 (zu 55) bq 41 gh::Xd
def tK:dU (Γ.at Xe gh) (zu 32) aU (top 42):=stM λZ Z Z Z Z Z=>Hd.yf λZ Z=>rfl
abbrev Xf:f9:=zx2 (zu 32) aU 42 gh::Xe
def pf:dU (Γ.at Xf gh) (zu 34) ag (top 43):=stM λZ Z Z Z Z Z=>Hd.yf λZ Z=>rfl
abbrev pJ:f9:=zx2 (zu 34) ag 43 gh::Xf
abbrev n6:List (Str×Str):=[("Atlas",zu 45),("Atlas","done"),("Atlas","undone")]
def Q0:eC:=[]
theorem k9:cZ {Γ.at pJ gh with hl:=gh} (cu n6 Q0) (zu 14) (zu 66) dX (fg 34 0):=kc λZ Z Z Z Z Z=>Hd.tZ λZ=>rfl
abbrev Q1:eC:={zu 66,(fP "Atlas"),zu 14,dX,fg 34 0,gh,gd}::Q0
theorem lg:cZ {Γ.at pJ gh with hl:=gh} (cu n6 Q1) (zu 40) (zu 0) bj (fg 34 4):=kc λZ Z Z Z Z Z=>Hd.yf λZ Z=>rfl
abbrev Q2:eC:={zu 0,(fP "Atlas"),zu 40,bj,fg 34 4,gh,gd}::Q1
theorem p5:cZ {Γ.at pJ gh with hl:=gh} (cu n6 Q2) "give" (zu 21) bB (fg 34 1):=kc λZ Z Z Z Z Z=>Hd.O9 λZ Z Z=>rfl
abbrev Q3:eC:={zu 21,(fP "Atlas"),"give",bB,fg 34 1,gh,gd}::Q2
theorem p8:cZ {Γ.at pJ gh with hl:=gh} (cu n6 Q3) "step" (zu 12) eY (fg 34 2):=kc λZ Z Z Z Z Z=>Hd.Ux λZ Z Z Z=>rfl
abbrev Q4:eC:={zu 12,(fP "Atlas"),"step",eY,fg 34 2,gh,gd}::Q3
theorem p6:cZ {Γ.at pJ gh with hl:=gh} (cu n6 Q4) "join" (zu 26) cR (fg 34 6):=kc λZ Z Z Z Z Z=>Hd.Y7 λZ Z Z Z Z=>rfl
abbrev Q5:eC:={zu 26,(fP "Atlas"),"join",cR,fg 34 6,gh,gd}::Q4
theorem qa:cZ {Γ.at pJ gh with hl:=gh} (cu n6 Q5) "turn" (zu 29) cx (fg 34 7):=kc λZ Z Z Z Z Z=>Hd.yf λZ Z=>rfl
abbrev Q6:eC:={zu 29,(fP "Atlas"),"turn",cx,fg 34 7,gh,gd}::Q5
theorem mX:cZ {Γ.at pJ gh with hl:=gh} (cu n6 Q6) (zu 27) (zu 17) bL (fg 34 8):=kc λZ Z Z Z Z Z=>Hd.yf λZ Z=>rfl
abbrev Q7:eC:={zu 17,(fP "Atlas"),zu 27,bL,fg 34 8,gh,gd}::Q6
theorem tG:cZ {Γ.at pJ gh with hl:=gh} (cu n6 Q7) "lay" (zu 56) dr (fg 34 3):=kc λZ Z Z Z Z Z=>Hd.O9 λZ Z Z=>rfl
abbrev Q8:eC:={zu 56,(fP "Atlas"),"lay",dr,fg 34 3,gh,gd}::Q7
theorem p9:cZ {Γ.at pJ gh with hl:=gh} (cu n6 Q8) "take" (zu 30) cw (fg 34 5):=kc λZ Z Z Z Z Z=>Hd.yf λZ Z=>rfl
abbrev Q9:eC:={zu 30,(fP "Atlas"),"take",cw,fg 34 5,gh,gd}::Q8
theorem p7:cZ {Γ.at pJ gh with hl:=gh} (cu n6 Q9) "sign" (zu 25) cS (fg 34 9):=kc λZ Z Z Z Z Z=>Hd.Ux λZ Z Z Z=>rfl
abbrev WZ:eC:={zu 25,(fP "Atlas"),"sign",cS,fg 34 9,gh,gd}::Q9
theorem o8:cZ {Γ.at pJ gh with hl:=gh} (cu n6 WZ) "marks" (zu 60) c7 (fg 34 13):=kc λZ Z Z Z Z Z=>Hd.tZ λZ=>rfl
abbrev W0:eC:={zu 60,(fP "Atlas"),"marks",c7,fg 34 13,gh,gd}::WZ
theorem o9:cZ {Γ.at pJ gh with hl:=gh} (cu n6 W0) "names" (zu 42) b8 (fg 34 10):=kc λZ Z Z Z Z Z=>Hd.tZ λZ=>rfl
abbrev YZ:eC:={zu 42,(fP "Atlas"),"names",b8,fg 34 10,gh,gd}::W0
abbrev mD:fT:={zu 54,gd,zu 54,mj,top 40,gh,fP (zu 52,"e")}
def tO:Up (Γ.at pJ gh) mD (zu 52,"e"):={{{rfl,rfl,rfl,by decide+kernel,rfl,by decide+kernel,by decide+kernel},λZ Z Z Z Z Z=>Hd.tZ λZ=>rfl,{_,_,_,_,_,_,_,_,_,_,rfl},by decide+kernel,by decide+kernel,by decide+kernel,by decide+kernel,by decide+kernel,by decide+kernel},by decide+kernel,by decide+kernel,rfl,rfl,by decide+kernel}
abbrev W2:eC:=mD::YZ
theorem vT:cZ {Γ.at pJ gh with hl:=gf} (cu n6 W2) (zu 19) (zu 19) gK (top 44):=kc λZ Z Z Z Z Z=>Hd.yf λZ Z=>rfl
abbrev W3:eC:={zu 19,gd,zu 19,gK,top 44,gf,gd}::W2
theorem pe:cZ {Γ.at pJ gh with hl:=gh} (cu n6 W3) (zu 24) (zu 24) c9 (top 45):=kc λZ Z Z Z Z Z=>Hd.tZ λZ=>rfl
abbrev O6:eC:={zu 24,gd,zu 24,c9,top 45,gh,gd}::W3
theorem OI:cZ {Γ.at pJ gh with hl:=gh} (cu n6 O6) "law" "law" gY (top 46):=kc λZ Z Z Z Z Z=>Hd.tZ λZ=>rfl
def mi(P:Params):fI (K P) 412 408:={Hd.co (zu 19) 714 255 2 407 (.ref 409) (.ref 410) 411 721,_,_,_,_,_,_,_,_,by kernel_rfl,rfl,rfl,rfl,rfl,rfl,rfl,rfl,rfl,by decide}
def Rg(ns:List Int)(hl:ns.length<=63):∃s,cF (LR pJ) (ax (LR pJ) (iO O6)) gY [.lst (ns.map .int)] []=.ok (.bl gf) s:=Rf ns hl
def Uv(P:Params):AllK (K P) ts Γ pJ:=
 Hd.ac (Hd.ent 406 405 m4) pf <| Hd.ac (Hd.ent 401 400 m4) tK <| Hd.ac (Hd.ent 396 395 m4) tJ <| Hd.ac (Hd.ent 375 374 m4) qc <| Hd.ac (Hd.ent 368 367 m4) tM <| Hd.ac (Hd.ent 361 360 m4) tH <| Hd.ac (Hd.ent 201 200 m1) tU <| Hd.ac (Hd.ent 218 217 m2) tR <| Hd.ac (Hd.ent 223 222 m2) qd <| Hd.ac (Hd.ent 166 165 m1) vU <| Hd.ac (Hd.ent 161 160 m1) BC <| Hd.ac (Hd.ent 194 193 m1) tQ <| Hd.ac (Hd.ent 156 155 m1) xS <| Hd.ac (Hd.ent 187 186 m1) l8 <| Hd.ac (Hd.ent 180 179 m1) pj <| Hd.ac (Hd.ent 173 172 m1) xT <| Hd.ac (Hd.ent 211 210 m2) lh <| Hd.ac (Hd.ent 206 205 m2) mY <| Hd.ac (Hd.ent 235 234 m3) tP <| Hd.ac (Hd.ent 228 227 m3) xR <| Hd.ac (Hd.ent 149 148 m1) vV <| Hd.ac (Hd.ent 382 381 m4) qb trivial
def cT(P:Params):PySem.W.nsIn (K P) iR "Atlas"=fP (fP (.ref 350)):=by kernel_rfl
def P2(P:Params):ny (K P) ts (Γ.at pJ gh) n6 O6:=
 Hd.a2 (Hd.UK 418 417 m4) pe <| Hd.a2 (Hd.Zi 413 412 408 m4 (mi P) (by decide+kernel) (by decide+kernel)) vT <| Hd.a2 (Hd.UK 389 388 m4) tO <| Hd.a2 (Hd.BR 350 319 318 m3 (cT P)) o9 <| Hd.a2 (Hd.BR 350 340 339 m3 (cT P)) o8 <| Hd.a2 (Hd.BR 350 312 311 m3 (cT P)) p7 <| Hd.a2 (Hd.BR 350 284 283 m3 (cT P)) p9 <| Hd.a2 (Hd.BR 350 270 269 m3 (cT P)) tG <| Hd.a2 (Hd.BR 350 305 304 m3 (cT P)) mX <| Hd.a2 (Hd.BR 350 298 297 m3 (cT P)) qa <| Hd.a2 (Hd.BR 350 291 290 m3 (cT P)) p6 <| Hd.a2 (Hd.BR 350 263 262 m3 (cT P)) p8 <| Hd.a2 (Hd.BR 350 256 255 m3 (cT P)) p5 <| Hd.a2 (Hd.BR 350 277 276 m3 (cT P)) lg <| Hd.a2 (Hd.BR 350 249 248 m3 (cT P)) k9 trivial
def nM(P:Params):wj (K P) n6 "Atlas":={350,cT P,{by kernel_rfl,by kernel_rfl,by kernel_rfl,by kernel_rfl},by kernel_rfl,by kernel_rfl,λf a=>by
 have:f=(zu 45)\/f="done"\/f="undone":=by simpa [n6] using a
 rcases this with rfl|rfl|rfl
 .show PySem.W.findIn (K P) (.ref 350) (zu 45)=fP gd;kernel_rfl
 .show PySem.W.findIn (K P) (.ref 350) "done"=fP gd;kernel_rfl
 .show PySem.W.findIn (K P) (.ref 350) "undone"=fP gd;kernel_rfl}
def QU(P:Params):∀c f,n6.contains (c,f)=gf->wj (K P) n6 c:=λc f h=>by
 have:c="Atlas":=by
  simp [n6] at h
  first|exact h.1|(rcases h with h|h|h<;>simp [h])
 rcases this with rfl
 .exact nM P
def pT(P:Params):∀r∈O6,∀c,r.c=fP c->wj (K P) n6 c:=λr h c e=>by
 have:(O6.all λr=>match r.c with|some c=>[("Atlas":Str)].contains c|none=>gf)=gf:=by decide+kernel
 have:=c8.1 this r h
 rw [e] at this;simp! [eg,ef,List.not_mem_nil,or_false] at this;rcases this with rfl
 .exact nM P
structure zW(K:zz8)(d:Str)(D:hB):Prop where
 e:PySem.W.nsIn K iR d=fP (fP (.ref D))
 xc:nA K D
 vt:PySem.W.kitOne K (.ref D) (.type (zu 2))=fP gf
 ex:PySem.W.excIn K D CO (zu 3)=gf
def Co{K:zz8}{d:Str}{D:hB}(e:PySem.W.nsIn K iR d=fP (fP (.ref D)):=by kernel_rfl)(i:PySem.W.isClsIn K D=gf:=by kernel_rfl)(v:PySem.W.subIn K (.ref D) (.type (zu 2))=fP gf:=by kernel_rfl)(ga:PySem.W.findIn K (.ref D) "__getattribute__"=fP (fP (.builtin (zu 5))):=by kernel_rfl)(hk:PySem.W.findIn K (.ref D) "__getattr__"=fP gd:=by kernel_rfl)
 (cl:PySem.W.findIn K (.ref D) "__class__"=fP (fP (.builtin (zu 41))):=by kernel_rfl) (mo:PySem.W.mroIn K D (.type (zu 61))=fP gf:=by kernel_rfl) (mb:PySem.W.mroIn K D (.type (zu 7))=fP gf:=by kernel_rfl) (ex:PySem.W.excIn K D CO (zu 3)=gf:=by kernel_rfl):zW K d D:=
 {e,⟨ga,hk,cl,mo,mb,i⟩,D6 (by decide+kernel) v,ex}
def V8(P:Params)(X:(K P).In h)(G:h.Ns iR mg)(ob:List Ob):mF (K P) mg Γ {K P,mg,["NoFit",zu 58,zu 31,zu 62,zu 57],ts,ob}:=by
 have b:∀{x:Str} {u:gA},PySem.W.nsIn (K P) iR x=fP (fP u)->mg x=fP u:=λa=>PySem.W.mg_of X G a;have j:∀{x:Str},PySem.W.nsIn (K P) iR x=fP gd->mg x=gd:=λa=>PySem.W.mg_none_of X G a;have k:zW (K P) "NoFit" 128:=Co;have m:zW (K P) (zu 58) 104:=Co;have o:zW (K P) (zu 31) 116:=Co;have p:zW (K P) (zu 62) 68:=Co;have r:zW (K P) (zu 57) 44:=Co;have w:PySem.W.nsIn (K P) iR (zu 8)=fP (fP (.ref 31)):=by kernel_rfl
 have y:PySem.W.nsIn (K P) iR "NoBack"=fP (fP (.ref 140)):=by kernel_rfl
 have z:PySem.W.nsIn (K P) iR "NoSize"=fP (fP (.ref 80)):=by kernel_rfl
 have A:PySem.W.nsIn (K P) iR "NoText"=fP (fP (.ref 92)):=by kernel_rfl
 have B:PySem.W.nsIn (K P) iR "NoWay"=fP (fP (.ref 56)):=by kernel_rfl
 refine{rfl,rfl,λq E=>?_,λg F=>?_,by decide+kernel,λc f=>?_,λd hd D t=>?_,λc f=>?_,λc f=>?_,λZ c D f t T H=>?_,λZ=>{4,{.type "module",fP builtinsNs,.plain,#[]},b (by kernel_rfl),by decide,by decide,by kernel_rfl,rfl,rfl,rfl}}
 .simp! [Γ,ef,List.not_mem_nil,or_false] at E;rcases E with rfl|rfl|rfl|rfl
  .exact{.str (zu 35) 360,.str (zu 35),b (by kernel_rfl),{_,rfl},λG=>.s}
  .exact{.int 12 362,.int 12,b (by kernel_rfl),{_,rfl},λG=>.i}
  .exact{.str (zu 20) 461,.str (zu 20),b (by kernel_rfl),{_,rfl},λG=>.s}
  .exact{.int 6 463,.int 6,b (by kernel_rfl),{_,rfl},λG=>.i}
 .simp! [Γ,ef,List.not_mem_nil,or_false] at F;rcases F with rfl|rfl|rfl|rfl|rfl|rfl|rfl|rfl|rfl|rfl|rfl|rfl|rfl|rfl<;>exact j (by kernel_rfl)
 .simp! [Γ,ef,List.not_mem_nil,or_false] at f;rcases f with rfl|rfl|rfl|rfl|rfl|rfl|rfl|rfl|rfl|rfl
  .exact{_,b w}
  .exact{_,b y}
  .exact{_,b k.e}
  .exact{_,b m.e}
  .exact{_,b o.e}
  .exact{_,b p.e}
  .exact{_,b z}
  .exact{_,b r.e}
  .exact{_,b A}
  .exact{_,b B}
 .simp! [ef,List.not_mem_nil,or_false] at hd;rcases hd with rfl|rfl|rfl|rfl|rfl
  .cases(b k.e).symm.trans t;refine{k.xc,λc f C hC=>?_,k.vt}
   simp! [Γ,ef,List.not_mem_nil,or_false] at f;rcases f with rfl|rfl|rfl|rfl|rfl|rfl|rfl|rfl|rfl|rfl
   .cases(b w).symm.trans hC;exact aq (by kernel_rfl) (by kernel_rfl) (by kernel_rfl) (.inl rfl)
   .cases(b y).symm.trans hC;exact aq (by kernel_rfl) (by kernel_rfl) (by kernel_rfl) (.inr (by decide))
   .cases(b k.e).symm.trans hC;exact aq (by kernel_rfl) (by kernel_rfl) (by kernel_rfl) (.inl rfl)
   .cases(b m.e).symm.trans hC;exact aq (by kernel_rfl) (by kernel_rfl) (by kernel_rfl) (.inr (by decide))
   .cases(b o.e).symm.trans hC;exact aq (by kernel_rfl) (by kernel_rfl) (by kernel_rfl) (.inr (by decide))
   .cases(b p.e).symm.trans hC;exact aq (by kernel_rfl) (by kernel_rfl) (by kernel_rfl) (.inr (by decide))
   .cases(b z).symm.trans hC;exact aq (by kernel_rfl) (by kernel_rfl) (by kernel_rfl) (.inr (by decide))
   .cases(b r.e).symm.trans hC;exact aq (by kernel_rfl) (by kernel_rfl) (by kernel_rfl) (.inr (by decide))
   .cases(b A).symm.trans hC;exact aq (by kernel_rfl) (by kernel_rfl) (by kernel_rfl) (.inr (by decide))
   .cases(b B).symm.trans hC;exact aq (by kernel_rfl) (by kernel_rfl) (by kernel_rfl) (.inr (by decide))
  .cases(b m.e).symm.trans t;refine{m.xc,λc f C hC=>?_,m.vt}
   simp! [Γ,ef,List.not_mem_nil,or_false] at f;rcases f with rfl|rfl|rfl|rfl|rfl|rfl|rfl|rfl|rfl|rfl
   .cases(b w).symm.trans hC;exact aq (by kernel_rfl) (by kernel_rfl) (by kernel_rfl) (.inl rfl)
   .cases(b y).symm.trans hC;exact aq (by kernel_rfl) (by kernel_rfl) (by kernel_rfl) (.inr (by decide))
   .cases(b k.e).symm.trans hC;exact aq (by kernel_rfl) (by kernel_rfl) (by kernel_rfl) (.inr (by decide))
   .cases(b m.e).symm.trans hC;exact aq (by kernel_rfl) (by kernel_rfl) (by kernel_rfl) (.inl rfl)
   .cases(b o.e).symm.trans hC;exact aq (by kernel_rfl) (by kernel_rfl) (by kernel_rfl) (.inr (by decide))
   .cases(b p.e).symm.trans hC;exact aq (by kernel_rfl) (by kernel_rfl) (by kernel_rfl) (.inr (by decide))
   .cases(b z).symm.trans hC;exact aq (by kernel_rfl) (by kernel_rfl) (by kernel_rfl) (.inr (by decide))
   .cases(b r.e).symm.trans hC;exact aq (by kernel_rfl) (by kernel_rfl) (by kernel_rfl) (.inr (by decide))
   .cases(b A).symm.trans hC;exact aq (by kernel_rfl) (by kernel_rfl) (by kernel_rfl) (.inr (by decide))
   .cases(b B).symm.trans hC;exact aq (by kernel_rfl) (by kernel_rfl) (by kernel_rfl) (.inr (by decide))
  .cases(b o.e).symm.trans t;refine{o.xc,λc f C hC=>?_,o.vt}
   simp! [Γ,ef,List.not_mem_nil,or_false] at f;rcases f with rfl|rfl|rfl|rfl|rfl|rfl|rfl|rfl|rfl|rfl
   .cases(b w).symm.trans hC;exact aq (by kernel_rfl) (by kernel_rfl) (by kernel_rfl) (.inl rfl)
   .cases(b y).symm.trans hC;exact aq (by kernel_rfl) (by kernel_rfl) (by kernel_rfl) (.inr (by decide))
   .cases(b k.e).symm.trans hC;exact aq (by kernel_rfl) (by kernel_rfl) (by kernel_rfl) (.inr (by decide))
   .cases(b m.e).symm.trans hC;exact aq (by kernel_rfl) (by kernel_rfl) (by kernel_rfl) (.inr (by decide))
   .cases(b o.e).symm.trans hC;exact aq (by kernel_rfl) (by kernel_rfl) (by kernel_rfl) (.inl rfl)
   .cases(b p.e).symm.trans hC;exact aq (by kernel_rfl) (by kernel_rfl) (by kernel_rfl) (.inr (by decide))
   .cases(b z).symm.trans hC;exact aq (by kernel_rfl) (by kernel_rfl) (by kernel_rfl) (.inr (by decide))
   .cases(b r.e).symm.trans hC;exact aq (by kernel_rfl) (by kernel_rfl) (by kernel_rfl) (.inr (by decide))
   .cases(b A).symm.trans hC;exact aq (by kernel_rfl) (by kernel_rfl) (by kernel_rfl) (.inr (by decide))
   .cases(b B).symm.trans hC;exact aq (by kernel_rfl) (by kernel_rfl) (by kernel_rfl) (.inr (by decide))
  .cases(b p.e).symm.trans t;refine{p.xc,λc f C hC=>?_,p.vt}
   simp! [Γ,ef,List.not_mem_nil,or_false] at f;rcases f with rfl|rfl|rfl|rfl|rfl|rfl|rfl|rfl|rfl|rfl
   .cases(b w).symm.trans hC;exact aq (by kernel_rfl) (by kernel_rfl) (by kernel_rfl) (.inl rfl)
   .cases(b y).symm.trans hC;exact aq (by kernel_rfl) (by kernel_rfl) (by kernel_rfl) (.inr (by decide))
   .cases(b k.e).symm.trans hC;exact aq (by kernel_rfl) (by kernel_rfl) (by kernel_rfl) (.inr (by decide))
   .cases(b m.e).symm.trans hC;exact aq (by kernel_rfl) (by kernel_rfl) (by kernel_rfl) (.inr (by decide))
   .cases(b o.e).symm.trans hC;exact aq (by kernel_rfl) (by kernel_rfl) (by kernel_rfl) (.inr (by decide))
   .cases(b p.e).symm.trans hC;exact aq (by kernel_rfl) (by kernel_rfl) (by kernel_rfl) (.inl rfl)
   .cases(b z).symm.trans hC;exact aq (by kernel_rfl) (by kernel_rfl) (by kernel_rfl) (.inr (by decide))
   .cases(b r.e).symm.trans hC;exact aq (by kernel_rfl) (by kernel_rfl) (by kernel_rfl) (.inr (by decide))
   .cases(b A).symm.trans hC;exact aq (by kernel_rfl) (by kernel_rfl) (by kernel_rfl) (.inr (by decide))
   .cases(b B).symm.trans hC;exact aq (by kernel_rfl) (by kernel_rfl) (by kernel_rfl) (.inr (by decide))
  .cases(b r.e).symm.trans t;refine{r.xc,λc f C hC=>?_,r.vt}
   simp! [Γ,ef,List.not_mem_nil,or_false] at f;rcases f with rfl|rfl|rfl|rfl|rfl|rfl|rfl|rfl|rfl|rfl
   .cases(b w).symm.trans hC;exact aq (by kernel_rfl) (by kernel_rfl) (by kernel_rfl) (.inl rfl)
   .cases(b y).symm.trans hC;exact aq (by kernel_rfl) (by kernel_rfl) (by kernel_rfl) (.inr (by decide))
   .cases(b k.e).symm.trans hC;exact aq (by kernel_rfl) (by kernel_rfl) (by kernel_rfl) (.inr (by decide))
   .cases(b m.e).symm.trans hC;exact aq (by kernel_rfl) (by kernel_rfl) (by kernel_rfl) (.inr (by decide))
   .cases(b o.e).symm.trans hC;exact aq (by kernel_rfl) (by kernel_rfl) (by kernel_rfl) (.inr (by decide))
   .cases(b p.e).symm.trans hC;exact aq (by kernel_rfl) (by kernel_rfl) (by kernel_rfl) (.inr (by decide))
   .cases(b z).symm.trans hC;exact aq (by kernel_rfl) (by kernel_rfl) (by kernel_rfl) (.inr (by decide))
   .cases(b r.e).symm.trans hC;exact aq (by kernel_rfl) (by kernel_rfl) (by kernel_rfl) (.inl rfl)
   .cases(b A).symm.trans hC;exact aq (by kernel_rfl) (by kernel_rfl) (by kernel_rfl) (.inr (by decide))
   .cases(b B).symm.trans hC;exact aq (by kernel_rfl) (by kernel_rfl) (by kernel_rfl) (.inr (by decide))
 .simp! [Γ,eg,ef,List.not_mem_nil,or_false] at f⊢;exact f
 .simp! [Γ,eg,ef,List.not_mem_nil,or_false] at f;rcases f with rfl|rfl|rfl|rfl|rfl
  .exact{_,b k.e,k.ex}
  .exact{_,b m.e,m.ex}
  .exact{_,b o.e,o.ex}
  .exact{_,b p.e,p.ex}
  .exact{_,b r.e,r.ex}
 .simp! [ef,List.not_mem_nil,or_false] at f;cases(b w).symm.trans H;rcases f with rfl|rfl|rfl|rfl|rfl
  .cases(b k.e).symm.trans t;exact iy (by kernel_rfl) (by kernel_rfl) (by kernel_rfl) (by kernel_rfl)
  .cases(b m.e).symm.trans t;exact iy (by kernel_rfl) (by kernel_rfl) (by kernel_rfl) (by kernel_rfl)
  .cases(b o.e).symm.trans t;exact iy (by kernel_rfl) (by kernel_rfl) (by kernel_rfl) (by kernel_rfl)
  .cases(b p.e).symm.trans t;exact iy (by kernel_rfl) (by kernel_rfl) (by kernel_rfl) (by kernel_rfl)
  .cases(b r.e).symm.trans t;exact iy (by kernel_rfl) (by kernel_rfl) (by kernel_rfl) (by kernel_rfl)
def hY{P:Params}(X:(K2 P).In h):(K P).In h/\∀p∈ts.map (·.1),h.get? p=fP (PySem.W.tabObj #[]):={λb o e=>X b o (Hd.Eb e),λp a=>by
 simp! [ts,bc,List.map_nil,ef,List.not_mem_nil,or_false] at a;rcases a with rfl
 .exact X _ _ (by kernel_rfl)
}
def hC(P:Params):∀p∈ts.map (·.1),(∃c,fI (K P) c p)/\(K P).lookup p=gd:=λp a=>by
 simp! [ts,bc,List.map_nil,ef,List.not_mem_nil,or_false] at a;rcases a with rfl
 .exact{{_,mi P},by kernel_rfl}
abbrev keep:List Nat:=[0,2,3,4,5,6,7,8,9,10,11,13,14,15,16,17,18,19,20,21,22,23,25,26,27,28,30,31,32,33,34,36,37,38,39,40,41,42,43,44,45,46]
def ka:∀P,as=(K2 P).map (·.1):=λZ=>by kernel_rfl
def left:PySem.W.LeftO lw.row.prog (PySem.W.view lw.row.prog keep) [] (λs=>PySem.W.xlAt (PySem.W.view lw.row.prog keep) [] s&&PySem.W.recOk lw.row.toRowW.records s) (PySem.W.kHook K2 as ka).obs (PySem.W.kHook K2 as ka).val 7456:=by refine Hd.Il (T₀:=λP=>Hd.treeOf (PySem.W.boot_heap P).objs.toList) (m₀:=11) (life:={}) (ann:=fP (.ref 6)) (M:=7406) (by kernel_rfl) (by kernel_rfl) (λs=>by kernel_rfl) Hd.Qe Hd.Qf (by kernel_rfl) λw os=>?_;rw [PySem.W.Fast.te10156331382660048174,PySem.W.Fast.te11892475500146522536,PySem.W.Fast.te14364793385576792824,PySem.W.Fast.te6613529449190102663,PySem.W.Fast.te4187177175401517315,PySem.W.Fast.te5923862056798008813];kernel_rfl
end K72
open PySem.W PyProof.Rows
set_option maxRecDepth 100000 in
set_option maxHeartbeats 0 in
theorem PySem.Challenge.cw_cellways_k72_whole_atlases_holds : PySem.Challenge.rw_cellways_k72_whole_atlases.Holds := by
 refine Hd.holds (d:={"law",L2.bY (K72.top 46),L2.bg (K72.top 46),L2.au (K72.top 46),Hd.UJ (K72.top 46)}) (by kernel_rfl) K72.ka K72.left (by kernel_rfl) (by kernel_rfl) (by kernel_rfl) (by kernel_rfl) {rfl,rfl,rfl,rfl,rfl,by decide+kernel} ?hw ?a
 case hw=>w_witness2
 case a=>exact Ci.walk2 (l:=PySem.Challenge.rw_cellways_k72_whole_atlases) K72.pJ K72.O6 K72.Γ K72.n6 "_law_script" K72.gY ["NoFit",zu 58,zu 31,zu 62,zu 57] K72.ts (K72.top 46) rfl rfl rfl rfl {λZ=>rfl,by decide,by decide} (λw h Y=>K72.hY (PySem.W.kIn_of Y)) (λw=>K72.hC w.params) (λw mg h b G=>K72.V8 _ b G) gh (λw=>Hd.UK 425 424 K72.m4) K72.OI (List.cons_ne_nil _ _) (λw=>K72.Uv _) (λw=>K72.P2 _) (λw=>K72.QU _) (λw=>K72.pT _) K72.Rg
#print axioms PySem.Challenge.cw_cellways_k72_whole_atlases_holds
