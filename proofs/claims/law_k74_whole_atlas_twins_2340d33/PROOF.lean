import PyProof.Rows.All
import Wide.All
import OpenK.AllK
import Wide.FinOn
import Lean
import PyProof.EqAt
import PyProof.EqKinds
import PyProof.TupleCall
import PySem.Challenge.RW_cellways_k74_whole_atlas_twins
set_option Elab.async false
set_option tactic.hygienic false
set_option linter.all false
set_option genSizeOf false
set_option genInjectivity false
set_option genSizeOfSpec false
set_option bootstrap.genMatcherCode false
set_option compiler.extract_closed false
set_option compiler.reuse false
set_option maxRecDepth 100000
abbrev zz8:=PySem.W.Frag
local macro_rules | `(zz9 $x) => `(($x).heap.objs.size)
local macro_rules | `(tactic| simp! [$x,*] $[$l:location]?) => `(tactic| simp only [$x,*] $[$l]?)
theorem zzf:¬false=true:=Bool.false_ne_true
theorem zza(a b:Bool):((a&&b)=true)=(a=true/\b=true):=Bool.and_eq_true a b
theorem zzg.{u}{a:Type u}{l:List a}{i:Nat}(h:i<l.length):l[i]?=some l[i]:=List.getElem?_eq_getElem h
theorem zzl.{u,v}{a:Type u}{b:Type v}{l:List a}(f:a->b):(l.map f).length=l.length:=List.length_map f
def zzN:=@decide_eq_true_eq
def zzY:=@of_decide_eq_true
def zzh:=@decide_eq_true
def zzq:=@Option.some.inj
def zzy:=@beq_iff_eq
def zz0:=@decide_eq_false
open PySem renaming wpAny_bind→ar,wpAny_pure→bc,Value→iv,Shared→ix,Addr→i1,Expr→i2,wpAny→jW,Program→jX,World→kd,model→kr,Around→ku,Scope→kv,Heap→kA,sizeLine→kB,Stmt→k6,mainGlobals→la,Builtin→lb,cellsFrom→lg
open PySem.Heap renaming get?_push_of_some→aT,lt_size→c6,get?_push_size→d4
open List renaming size_toArray→a5,mem_of_getElem?→a6,map_cons→a8,getElem?_eq_some_iff→b4,mem_cons_of_mem→cz,getD_eq_getElem?_getD→cW,length_cons→c4,length_append→c5,mem_cons_self→c8,getElem?_map→dk,mem_append_right→dV,getElem?_set_ne→dX,all_eq_true→d0,mem_append_left→ed,mem_singleton→ej,any_eq_true→ek,mem_cons→er,contains_iff_mem→et,getElem?_set_self→eu,getElem?_append_left→ey,getElem?_append_right→ez,mem_map→fP,mem_filterMap→f6,filter_cons→g5,lookup_cons→hD,append_nil→hF,replicate→ll
open Nat renaming le_refl→a7,le_trans→d1,lt_of_le_of_lt→d2,lt_of_lt_of_le→d3,ne_of_lt→d8
open Option renaming map_eq_some_iff→cP,bind_eq_some_iff→d6,isSome_iff_exists→ew,some→hI,none→h9
open Array renaming length_toList→ef,getElem?_eq_getElem→gf
open Bool renaming false_eq_true→eg,or_eq_true→eH,true→ie,false→ig
open False renaming elim→el
open PySem.Heap.SameBut renaming update→e6
open Int renaming eq_ofNat_of_zero_le→fx,toNat_natCast→hB
open PySem.Around renaming under_plainId→hG
open And renaming intro→lj
open PyProof.Rows renaming seqObj→lq
abbrev lr:=PySem.Value->PySem.Shared->Prop
abbrev lu:=List (PySem.Addr×PySem.Obj)
abbrev ly:=List (List Int)
abbrev lA:=List Int->List Int->Int->Prop
local macro_rules|`(zx6 $x)=>`(by simpa using $x)
def zy0:Nat->Lean.Syntax->Lean.MacroM (Lean.TSyntax `rcasesPat)
 |n+1,t=>do match t with
  |`(($a,$b,*))=>let q<-(#[a]++b.getElems).mapM fun x=>do`(Lean.Parser.Tactic.rcasesPatLo|$(<-zy0 n x):rcasesPat)
                 `(rcasesPat|⟨$q,*⟩)
  |`($x:ident)=>`(rcasesPat|$x:ident)
  |`(_)=>`(rcasesPat|_)
  |_=>Lean.Macro.throwUnsupported
 |_,_=>Lean.Macro.throwUnsupported
local macro_rules|`(tactic|let $p:term:=$e)=>do let q<-zy0 19 p;let k:=Lean.mkIdent (.mkSimple s!"K{hash (toString p.raw)%997}");if q.raw[1].getNumArgs<4 then`(tactic|obtain $q:rcasesPat:=$e)else`(tactic|first|(refine Classical.byContradiction fun $k=>?_;obtain $q:rcasesPat:=$e;refine $k ?_;clear $k)|obtain $q:rcasesPat:=$e)
local macro_rules(kind:=«term{_}»)|`({$x,*})=>`(⟨$x,*⟩)
open PySem
variable{us:List iv}{a:i1}{o:Obj}{u:iv}{w t' j:Nat}{h base h':kA}{x c g f m qual z:Str}{e d p body po:i2}{N R ks:List Str}{A:ku}{aa:lu}{pos np:Pos}{prog:jX}{mg:Str->Option iv}{outer:List Env}{items:Array iv}{st:k6}
local macro_rules|`(zx7 $x $y*)=>`(PySem.wpAny (PySem.model ($x).prog ($x).w) ($x).A $y*)
local macro_rules|`(abbrev $i:declId $s:optDeclSig:=$v)=>`(noncomputable def $i $s:optDeclSig:=$v)|`(abbrev $i:declId $s:optDeclSig $v:declValEqns)=>`(noncomputable def $i $s:optDeclSig $v:declValEqns)
local macro_rules|`(∅)=>`(by kernel_rfl)|`(↑1)=>`(by decide+kernel)|`(↑2)=>`(by decide)
set_option hygiene false
local macro_rules|`(zv0 $x)=>`(dC (dz P w) P w K mg base N qual scope f cd A outer s0 H0 $x)
local macro_rules|`(zv1 $x)=>`(Inv X aa σ H $x)
local macro_rules|`(zv2 $x)=>`(hV Γ Δ F1 F2 W N sc k E $x)
local macro_rules|`(zv3 $x)=>`(fG Γ F W N sc k E $x)
local macro_rules|`(zv4 $x)=>`(e8 Γ F W N sc k $x)
local macro_rules|`(zv5 $x)=>`(eC W obe Ge He env σ s ob H0 G $x)
set_option hygiene true
open PySem
set_option hygiene false
local macro_rules|`(zx2 $a $b $c $d)=>`(⟨$a,$a,$b,K74.top $c,$d⟩)
local macro_rules|`(zx5 $a $n $b $c $d $e $f)=>do let k:=(⟨e.raw⟩:Lean.NumLit).getNat;`(($a,Hd.co $n $b $c $d $e (.ref $(Lean.quote (k+2))) (.ref $(Lean.quote (k+3))) $(Lean.quote (k+4)) $f))|`(zx3 $a $n $c $m)=>do let k:=(⟨a.raw⟩:Lean.NumLit).getNat;`(($a,Hd.fo $n (K74.top $c) $m $(Lean.quote (k-1))))
set_option hygiene true
local macro_rules|`(zu $n)=>return Lean.Syntax.mkStrLit (("ValueError|BaseException.__getattribute__|FloorError|_law_pick|reversed|_law_class|__init__|_law_all_of|mirrored_floor|is_on_floor|abcdefghijklmnopqrstuvwxyz|<lambda>|need_on_floor|turned_floor|_law_behind|isinstance|_law_did|mirror|_law_made|__debug__|#0123456789|StopIteration|floors|Atlas.floor_of|Atlas.__init__|floor_of|object.__class__|set_beside|reversed.__length_hint__|need_name|_law_told|_law_deed|BaseException|ValueError.__new__|is_sign|_law_floor|__name__|_law_deed_here|with_sign|set_below|need_sign|Atlas.back|_law_cell|Atlas.forth|is_whole|is_floor|__next__|Atlas.mirror|no name".splitOn "|")[(⟨n.raw⟩:Lean.NumLit).getNat]!)
namespace L2
open PySem.Spec PyProof.Rows
noncomputable abbrev Key:=Sum Int Str
abbrev rh:Key->iv->Bool
 |.inl k,v=>iv.isInt k v|.inr x,v=>iv.isStrOf x v
abbrev Xg(w:kd):Key->Int
 |.inl k=>hashInt k|.inr x=>hashStr w x
theorem bG:∀{k:Key} {v:iv},rh k v=ie->(∃i t,k=Sum.inl i/\v=iv.int i t)\/(∃x t,k=Sum.inr x/\v=iv.str x t)
 |.inl i,v,h=>by let(t,e):=iv.isInt_shape (k:=i) (v:=v) h;exact .inl ⟨i,t,rfl,e⟩|.inr x,v,h=>by let(t,e):=iv.isStrOf_shape (x:=x) (v:=v) h;exact .inr ⟨x,t,rfl,e⟩
def Bj(i:Int)(t:Tok):rh (.inl i) (.int i t)=ie:=by simp [rh,iv.isInt]
def Bk(x:Str)(t:Tok):rh (.inr x) (.str x t)=ie:=by simp [rh,iv.isStrOf]
def N2(a b:Int):decide ((Sum.inl a:Key)=Sum.inl b)=(a==b):=by
 by_cases e:a=b
 .subst e;simp
 .have h:¬(Sum.inl a:Key)=Sum.inl b:=λq=>e (Sum.inl.inj q);rw [zz0 h];exact(beq_eq_false_iff_ne.mpr e).symm
def N5(a b:Str):decide ((Sum.inr a:Key)=Sum.inr b)=decide (a=b):=by
 by_cases e:a=b
 .subst e;simp
 .have h:¬(Sum.inr a:Key)=Sum.inr b:=λq=>e (Sum.inr.inj q);rw [zz0 h,zz0 e]
def N3(a:Int)(b:Str):decide ((Sum.inl a:Key)=Sum.inr b)=ig:=zz0 nofun
def N4(a:Str)(b:Int):decide ((Sum.inr a:Key)=Sum.inl b)=ig:=zz0 nofun
noncomputable def bg(prog:jX)(w:kd):PySem.KeyKind prog w Key where
 is:=rh
 hash:=Xg w
 inj:=λv a b ha f=>by
  rcases bG ha with⟨i,t,rfl,rfl⟩|⟨x,t,rfl,rfl⟩
  .rcases bG f with⟨j,u,rfl,e⟩|⟨y,u,rfl,e⟩
   .injection e with c _;rw [c]
   .exact nomatch e
  .rcases bG f with⟨j,u,rfl,e⟩|⟨y,u,rfl,e⟩
   .exact nomatch e
   .injection e with c _;rw [c]
 byValue:=λk v h=>by rcases bG h with⟨i,t,rfl,rfl⟩|⟨x,t,rfl,rfl⟩<;>rfl
 pyHash:=λd h=>by
  rcases bG d with⟨i,t,rfl,rfl⟩|⟨x,t,rfl,rfl⟩
  .exact wpAny_pyHash_int h
  .exact wpAny_pyHash_str h
 eqBool:=λhu d h=>by
  rcases bG hu with⟨i,t,rfl,rfl⟩|⟨x,t,rfl,rfl⟩
  .rcases bG d with⟨j,u,rfl,rfl⟩|⟨y,u,rfl,rfl⟩
   .rw [N2] at h;exact wpAny_eqBool_int h
   .rw [N3] at h;exact SeqAt.EqAt.int_str i t y u _ _ _ _ h
  .rcases bG d with⟨j,u,rfl,rfl⟩|⟨y,u,rfl,rfl⟩
   .rw [N4] at h;exact SeqAt.EqAt.str_int x t j u _ _ _ _ h
   .rw [N5] at h;exact wpAny_eqBool_str h
 «strs»:=λk x t v h=>by
  rcases bG h with⟨i,u,rfl,e⟩|⟨y,u,rfl,e⟩
  .exact nomatch e
  .injection e with c _
   subst c;cases v<;>rfl
def vH(prog:jX)(w:kd)(i:Int)(t:Tok):(bg prog w).is (.inl i) (.int i t)=ie:=Bj i t
def vI(prog:jX)(w:kd)(x:Str)(t:Tok):(bg prog w).is (.inr x) (.str x t)=ie:=Bk x t
inductive V where
 |aR|bl (b:Bool)|int (i:Int)|str (x:Str)|UL (b:Array UInt8)|UR (b:UInt64)|ref (a:i1)|ty (n:String)
 deriving DecidableEq
variable{v:V}{vs:List V}
def RelV:V->iv->Prop
 |.aR,u=>u=iv.none|.bl b,u=>u=iv.bool b|.int i,u=>∃t,u=iv.int i t|.str x,u=>∃t,u=iv.str x t|.UL b,u=>∃t,u=iv.bytes b t|.UR b,u=>∃t,u=iv.float b t|.ref a,u=>u=iv.ref a|.ty n,u=>u=iv.type n
noncomputable abbrev Vals:List V->List iv->Prop:=Paired RelV
def Vals.length{xs:List V}(r:Vals xs us):xs.length=us.length:=Paired.length r
theorem Vals.get:∀{xs:List V} {us:List iv} {i:Nat} {x:V},Vals xs us->xs[i]?=hI x->∃u,us[i]?=hI u/\RelV x u
 |_,_,_,_,.nil,e=>by simp at e|_,_,0,_,.cons r _,e=>by simp at e;subst e;exact{_,rfl,r}|_,_,i+1,x,.cons _ t,e=>by let(u,a,b):=Vals.get (i:=i) (x:=x) t (zx6 e);exact{u,zx6 a,b}
def Vals.append{xs ys:List V}{ws:List iv}(r:Vals xs us)(s:Vals ys ws):Vals (xs++ys) (us++ws):=by
 induction r with
 |nil=>exact s|cons r _ a=>exact .cons r a
theorem Vals.take:∀{xs:List V} {us:List iv} (n:Nat),Vals xs us->Vals (xs.take n) (us.take n)
 |_,_,0,_=>.nil|_,_,_+1,.nil=>.nil|_,_,n+1,.cons r t=>.cons r (Vals.take n t)
theorem Vals.drop:∀{xs:List V} {us:List iv} (n:Nat),Vals xs us->Vals (xs.drop n) (us.drop n)
 |_,_,0,r=>r|_,_,_+1,.nil=>.nil|_,_,n+1,.cons _ t=>Vals.drop n t
def hW:Option V->Option iv->Prop
 |some v,hI u=>RelV v u|none,h9=>True|_,_=>False
def KV{a:Type}:List (a×V)->List (a×iv)->Prop:=Paired λ(p:a×V) (q:a×iv)=>p.1=q.1/\RelV p.2 q.2
abbrev kV:Key->V
 |.inl i=>.int i|.inr x=>.str x
inductive HO where
 |lst (xs:List V)
 |tup (xs:List V)
 |dK (aA:List (Key×V))|dT (aA:List (List Key×V))
 |set (S:Int->Bool) (n:Nat)
 |ins (C dx:i1) (fs:List (Str×V))
 |own (x:i1)
 |xd (fs:List (Str×V))
 |met (f x:i1)
 |pU (lo hi:Int)
 |bV (o:Obj) (u:HO)
 |gz (ps:Array iv)
 |ext (φ:kA->Prop)
noncomputable abbrev Hp:=i1->Option HO
variable{H H1 G H0:Hp}
abbrev upd(H:Hp)(a:i1)(o:HO):Hp:=λb=>if b=a then hI o else H b
def aq{o:HO}:upd H a o a=hI o:=by unfold upd;rw [if_pos rfl]
def ag{b:i1}{o:HO}(h:b≠a):upd H a o b=H b:=by unfold upd;rw [if_neg h]
def nM{o u:HO}:upd (upd H a o) a u=upd H a u:=by funext b;unfold upd;split<;>rfl
def vK{b:i1}{o u:HO}(h:H a=hI o)(h':H b=hI u)(d:o≠u):a≠b:=by intro e;subst e;rw [h] at h';exact d (zzq h')
def bL{b:i1}{o:HO}(h:H a=hI o)(h':H b=h9):a≠b:=by intro e;subst e;rw [h] at h';cases h'
section
variable(P:jX)(w:kd)
def bX(H:Hp)(h:kA)(a:i1):HO->Prop
 |.lst xs=>xs.length<=kB/\∃(c:List iv) (n:Nat),Vals xs c/\h.get? a=hI {cls:=.type "list",data:=.seq c.toArray n}|.tup xs=>xs.length<=kB/\∃c:List iv,Vals xs c/\IsTup h a c.toArray|.dK d=>d.length<=kB/\(a==sysModules)=ig/\∃vs,KV d vs/\h.DictOf (bg P w) a vs|.dT d=>d.length<=kB/\(a==sysModules)=ig/\∃xs:List (List Key×i1×iv),
  Paired (λ(p:List Key×V) (q:List Key×i1×iv)=>p.1=q.1/\H q.2.1=hI (.tup (p.1.map kV))/\RelV p.2 q.2.2) d xs/\
  ∃o g k,h.get? a=hI o/\o.ExactDict/\o.data=.dict g k/\g.toList=xs.map (entryOfKey (tupleKind (bg P w)))/\(xs.map (·.1)).Nodup
 |.set S n=>h.SetOf (intKind P w) a S n|.ins C dx fs=>H dx=hI (.own a)/\fs.length<=1000/\dx≠a/\h.get? a=hI (PySem.W.instObj C dx)/\
  ∃b,h.Ns1 dx b/\(∀f,hW (fs.lookup f) (b f))/\PySem.Within b (fs.map (·.1))
 |.own _=>∃o,h.get? a=hI o|.xd fs=>∃b,h.Ns1 a b/\∀f,hW (fs.lookup f) (b f)|.pU lo m=>∃t u v,h.get? a=hI {cls:=.type "range",data:=.fields #[.int lo t,.int m u,.int 1 v]}|.bV o u=>h.get? a=hI o/\bX H h a u|.gz ps=>h.get? a=hI {cls:=.none,data:=.fields ps}|.met f x=>h.get? a=hI (PySem.W.methodObj (.ref f) (.ref x))|.ext e=>e h/\(∃o,h.get? a=hI o)/\∀i j:kA,e i->(∀o,i.get? a=hI o->j.get? a=hI o)->e j
def fw(H:Hp)(h:kA):Prop:=∀a o,H a=hI o->bX P w H h a o
end
section
variable{P:jX}{w:kd}{H':Hp}{o:HO}
def bX.lt(x:bX P w H h a o):a<h.objs.size:=by
 cases o with
 |lst xs=>let(_,_,_,_,e):=x;exact c6 e|tup xs=>let(_,_,_,p):=x;exact p.lt|dK b=>let(_,_,_,_,o,_,_,e,_):=x;exact c6 e|dT b=>let(_,_,_,_,o,_,_,e,_):=x;exact c6 e|set S n=>let(o,_,_,_,e,_):=x;exact c6 e|ins C dx fs=>let(_,_,_,e,_):=x;exact c6 e|own y=>let(_,e):=x;exact c6 e|xd fs=>let(_,(_,_,_,e,_),_):=x;exact c6 e|pU lo c=>let(_,_,_,e):=x;exact c6 e|bV ob u=>let(e,_):=x;exact c6 e|gz d=>exact c6 (show h.get? a=hI _ from x)|met f y=>exact c6 (show h.get? a=hI _ from x)|ext g=>let(_,(_,e),_):=x;exact c6 e
def Paired.Je{e g:Type}{F G:e->g->Prop}{c:List e}{d:List g}(r:Paired F c d)(f:∀a b,F a b->G a b):Paired G c d:=by
 induction r with
 |nil=>exact .nil|cons r _ i=>exact .cons (f _ _ r) i
def bX.fW(x:bX P w H h a o)(k:∀b u,(b=a\/H b=hI (.own a))->h.get? b=hI u->h'.get? b=hI u)
 (B:∀b,H b=hI (.own a)->H' b=hI (.own a)) (D:∀b xs,H b=hI (.tup xs)->H' b=hI (.tup xs)):bX P w H' h' a o:=by
 induction o with
 |lst xs=>let(z,j,n,r,e):=x;exact{z,j,n,r,k _ _ (.inl rfl) e}|tup xs=>let(z,j,r,ob,e,c):=x;exact{z,j,r,ob,k _ _ (.inl rfl) e,c}|dK E=>let(z,y,F,r,ob,g,i,e,c):=x;exact{z,y,F,r,ob,g,i,k _ _ (.inl rfl) e,c}|dT E=>let(z,y,xs,r,ob,g,i,e,c):=x;exact{z,y,xs,Paired.Je r λp q z=>{z.1,D _ _ z.2.1,z.2.2},ob,g,i,k _ _ (.inl rfl) e,c}|set S n=>let(ob,g,i,t,e,c):=x;exact{ob,g,i,t,k _ _ (.inl rfl) e,c}|ins C dx fs=>let(d,z,ne,e,m,(s,g,i,G,c),r):=x;exact{B _ d,z,ne,k _ _ (.inl rfl) e,m,{s,g,i,k _ _ (.inr d) G,c},r}|own y=>let(ob,e):=x;exact{ob,k _ _ (.inl rfl) e}|xd fs=>let(m,(s,g,i,e,c),r):=x;exact{m,{s,g,i,k _ _ (.inl rfl) e,c},r}|pU lo K=>let(t,u,v,e):=x;exact{t,u,v,k _ _ (.inl rfl) e}|bV ob u I=>let(e,q):=x;exact{k _ _ (.inl rfl) e,I q}|gz A=>have e:h.get? a=hI {cls:=.none,data:=.fields A}:=x;show h'.get? a=hI {cls:=.none,data:=.fields A};exact k a _ (.inl rfl) e|met f y=>have e:h.get? a=hI (PySem.W.methodObj (.ref f) (.ref y)):=x;show h'.get? a=hI (PySem.W.methodObj (.ref f) (.ref y));exact k a _ (.inl rfl) e|ext L=>let(p,(o,e),st):=x;exact{st _ _ p λo q=>k _ _ (.inl rfl) q,{o,k _ _ (.inl rfl) e},st}
def fw.lt(x:fw P w H h)(e:H a=hI o):a<h.objs.size:=(x a o e).lt
def fw.fresh(x:fw P w H h)(e:h.objs.size<=a):H a=h9:=by
 cases q:H a with
 |none=>rfl|some u=>exact absurd (d3 (x.lt q) e) (Nat.lt_irrefl _)
def fw.kept(x:fw P w H h)(k:∀b u,h.get? b=hI u->h'.get? b=hI u):fw P w H h':=λa o e=>(x a o e).fW (λb u Z q=>k b u q) (λZ q=>q) λZ Z q=>q
theorem fw.laid(x:fw P w H h)(k:∀b u,h.get? b=hI u->h'.get? b=hI u)(g:h.objs.size<=a)(new:bX P w (upd H a o) h' a o):fw P w (upd H a o) h':=λb u e=>by
 have d:=x.fresh g;by_cases f:b=a
 .subst f;rw [aq] at e;cases e;exact new
 .rw [ag f] at e;exact(x b u e).fW (λc v Z q=>k c v q) (λc q=>by rw [ag (bL q d)];exact q) λc xs q=>by rw [ag (bL q d)];exact q
end
def Rd(H:Hp)(a:i1)(u:HO):Prop:=H a=hI u\/∃o,H a=hI (.bV o u)
def Rd.ok{P:jX}{w:kd}{u:HO}(r:Rd H a u)(x:fw P w H h):bX P w H h a u:=by
 rcases r with r|⟨o,r⟩
 .exact x a u r
 .let(_,q):=x a _ r;exact q
def QN:Option HO->Prop
 |some (.lst _)=>True|some (.dK _)=>True|some (.dT _)=>True|some (.set _ _)=>True|some (.ins _ _ _)=>True|some (.ext _)=>True|_=>False
section
variable{P:jX}{w:kd}{x e:i1}{o':HO}
def fw.write(ok:fw P w H h)(d:QN (H x))(he:e=x\/H e=hI (.own x))(k:∀b u,b≠e->h.get? b=hI u->h'.get? b=hI u)(m:∃u,h'.get? e=hI u)
 (new:bX P w (upd H x o') h' x o'):fw P w (upd H x o') h':=λb u q=>by
 have i:∀c y,H c=hI (.own y)->c≠x:=λc y r z=>by subst z;rw [r] at d;exact d
 have o:∀c xs,H c=hI (.tup xs)->c≠x:=λc xs r z=>by subst z;rw [r] at d;exact d
 by_cases f:b=x
 .subst f;rw [aq] at q;cases q;exact new
 .rw [ag f] at q;by_cases a:b=e
  .have j:H b=hI (.own x):=by
    rcases he with z|z
    .exact absurd (a.trans z) f
    .rw [a];exact z
   rw [q] at j;cases j;let(v,p):=m;exact{v,by rw [a];exact p}
  .refine(ok b u q).fW (λc v g r=>k c v ?_ r) (λc r=>by rw [ag (i c b r)];exact r) λc xs r=>by rw [ag (o c xs r)];exact r
   rcases g with rfl|g
   .exact a
   .rintro rfl
    rcases he with z|z
    .exact i c b g z
    .rw [g] at z;cases z;exact f rfl
end
structure Un(fs ex:List i1)(H H':Hp)(h h':kA):Prop where
 keep:∀b o,h.get? b=hI o->H b=h9->b∉fs->b∉ex->h'.get? b=hI o
 slot:∀b o,h.get? b=hI o->H b=h9->b∈fs->b∉ex->∃sl,h'.get? b=hI {o with slots:=sl}
 free:∀b o,h.get? b=hI o->H b=h9->b∉ex->H' b=h9
 there:∀b o,h.get? b=hI o->b∉ex->∃o',h'.get? b=hI o'
 ib:∀b xs,H b=hI (.tup xs)->H' b=hI (.tup xs)
 gj:∀b o u,H b=hI (.bV o u)->H' b=hI (.bV o u)
 gZ:∀b ps,H b=hI (.gz ps)->∃more,H' b=hI (.gz (ps++more))
section
variable{fs ex:List i1}{h1:kA}{x e:i1}{o:HO}
def Un.any(u:Un fs ex H H1 h h1){b:i1}{ob:Obj}(q:h.get? b=hI ob)(n:H b=h9)(c:b∉ex):∃f,h1.get? b=hI {ob with slots:=f}:=by
 by_cases d:b∈fs
 .exact u.slot b ob q n d c
 .exact{ob.slots,u.keep b ob q n d c}
def Un.kept(k:∀b u,h.get? b=hI u->h'.get? b=hI u):Un fs ex H H h h':=
 {λb ob q Z Z Z=>k b ob q,λb ob q Z Z Z=>{ob.slots,k b ob q},λZ Z Z n Z=>n,λb ob q Z=>{ob,k b ob q},λZ Z q=>q,λZ Z Z q=>q,λZ c q=>{#[],by rw [q];simp}}
def Un.refl:Un fs ex H H h h:=Un.kept λZ Z q=>q
theorem Un.laid(k:∀b u,h.get? b=hI u->h'.get? b=hI u)(c:h.objs.size<=a)(hn:H a=h9):Un fs ex H (upd H a o) h h' where
 keep:=λb u q Z Z Z=>k b u q
 slot:=λb u q Z Z Z=>{u.slots,k b u q}
 free:=λb u q n Z=>by rw [ag (d8 (d3 (c6 q) c))];exact n
 there:=λb u q Z=>{u,k b u q}
 ib:=λb xs q=>by rw [ag (bL q hn)];exact q
 gj:=λb u xs q=>by rw [ag (bL q hn)];exact q
 gZ:=λb d q=>{#[],by rw [ag (bL q hn),q];simp}
def Un.write(d:QN (H x))(he:e=x\/H e=hI (.own x))(k:∀b u,b≠e->h.get? b=hI u->h'.get? b=hI u)(i:∃u,h'.get? e=hI u):Un fs ex H (upd H x o) h h':=by
 have f:∀b,H b=h9->b≠x:=λb n z=>by subst z;rw [n] at d;exact d
 have g:∀b,H b=h9->b≠e:=λb n z=>by
  subst z;rcases he with r|r
  .exact f b n r
  .rw [n] at r;cases r
 have hm:∀b u,H b=hI u->¬QN (hI u)->b≠x:=λb u q nm z=>by subst z;rw [q] at d;exact nm d
 refine{λb u q n Z Z=>k b u (g b n) q,λb u q n Z Z=>{u.slots,k b u (g b n) q},λb u q n Z=>by rw [ag (f b n)];exact n,λb u q Z=>?_,
  λb xs q=>by rw [ag (hm b _ q λz=>z)];exact q,λb u xs q=>by rw [ag (hm b _ q λz=>z)];exact q,λb j q=>{#[],by rw [ag (hm b _ q λz=>z),q];simp}}
 by_cases c:b=e
 .subst c;exact i
 .exact{u,k b u c q}
end
abbrev Vm(h:kA)(H:Hp):List Addr:=(List.range h.objs.size).filter λa=>(H a).isSome
abbrev sN(h:kA)(H:Hp):Heap:=PySem.W.hideAll h (Vm h H)
def Bc(h:kA)(H:Hp):(sN h H).objs.size=h.objs.size:=PySem.W.hideAll_size _ _
theorem D3{b:i1}(e:h.get? b=hI o)(n:H b=h9):(sN h H).get? b=hI o:=
 PySem.W.hideAll_get _ e λhm=>by have q:(H b).isSome=ie:=(List.mem_filter.mp hm).2;rw [n] at q;simp at q
def Jw{b:i1}(e:(sN h H).get? b=hI o):h.get? b=hI o/\H b=h9:=by
 have a:h.get? b=hI o:=PySem.W.of_hideAll (Vm h H) e
 refine{a,?_};cases q:H b with
 |none=>rfl|some x=>have hm:b∈Vm h H:=List.mem_filter.mpr {List.mem_range.mpr (c6 a),by simp [q]};have z:(sN h H).get? b=h9:=PySem.W.hideAll_none (Vm h H) hm;rw [z] at e;cases e
abbrev Hw(g h:kA)(L:i1):lu:=(List.range h.objs.size).filterMap λa=>if a=L\/(g.get? a).isSome=ie then h9 else(h.get? a).map λo=>(a,o)
abbrev rest(g h:kA)(L d:i1):lu:=(Hw g h L).filter λp=>decide (p.1≠d)
structure Mod(K:zz8)(mg:Str->Option iv)(base:kA):Prop where
 Ja:K.In base
 glob:base.Ns la mg
 blt:∃mb,base.Ns builtinsNs mb/\∀x:Str,x≠(zu 36)->mb x=bootBuiltins x
 nolimit:base.NoLimit
structure Cx where
 prog:jX
 w:kd
 K:zz8
 mg:Str->Option iv
 base:kA
 A:ku
 N:List Str
 s₀:ix
 H₀:Hp
 env:Env
 outer:List Env
 stack:List Env
 ex:List i1
 fn:Str->Bool
 calm:Bool
 pn:lu
 xe:lr
variable{X:Cx}
abbrev fz(l:List Env):List Addr:=l.filterMap (·.frame)
noncomputable abbrev Cx.fs(X:Cx):List Addr:=fz X.outer
def QW(sc:kv)(x:Str):Prop:=sc.names.lookup x=hI .local\/sc.names.lookup x=hI .cell\/sc.names.lookup x=hI .free
def Loc(sc:kv)(x:Str):Prop:=sc.names.lookup x=hI .local\/sc.names.lookup x=hI .cell
def Look(env:Env)(h:kA)(m:Str->Option iv)(x:Str)(u:iv):Prop:=
 (env.kindOf x=hI .local/\m x=hI u)\/((env.kindOf x=hI .cell\/env.kindOf x=hI .free)/\∃c,env.cells.lookup x=hI c/\h.IsCell c (hI u))
structure Cx.Ok(X:Cx):Prop where
 mod:Mod X.K X.mg X.base
 kind:X.env.scope.kind=.function
 glob:X.env.globals=la
 blt:X.env.builtins=builtinsNs
 above:X.s₀.heap.objs.size<=X.env.locals
 inj:∀x y c,X.env.cells.lookup x=hI c->X.env.cells.lookup y=hI c->x=y
 has:∀x,(X.env.kindOf x=hI .cell\/X.env.kindOf x=hI .free)->∃c,X.env.cells.lookup x=hI c
 Me:∀x c,X.fn x=ie->X.env.cells.lookup x=hI c->X.s₀.heap.objs.size<=c
 hd:X.calm=ie->X.A.handled=h9
 frames:X.A.frames=hI X.stack
 PL:X.stack=X.outer\/(X.stack=X.env::X.outer/\X.env.frame=hI X.env.locals)
 V6:∀b∈X.ex,b≠X.env.locals/\∀x c,X.env.cells.lookup x=hI c->c≠b
 bs:∀b o,X.base.get? b=hI o->X.s₀.heap.get? b=hI o/\X.H₀ b=h9
 wY:X.base.objs.size<=X.s₀.heap.objs.size
 Bw:∀b o,X.base.get? b=hI o->b∉X.ex
 Dl:∀b∈X.ex,b∉X.fs
 hZ:X.s₀.heap.FunFrames X.base X.outer
 xm:∀b∈X.fs,X.H₀ b=h9
structure Inv(X:Cx)(aa:lu)(σ:List (Option V))(H:Hp)(s:ix):Prop where
 ok:X.Ok
 os:s.os=X.s₀.os
 bare:AllBare s.gens
 base:Un X.fs X.ex X.H₀ H X.s₀.heap s.heap
 loc:∃m,s.heap.Ns X.env.locals m/\∀(i:Nat) (x:Str) (v:V),X.N[i]?=hI x->σ[i]?=hI (hI v)->QW X.env.scope x->∃u,RelV v u/\Look X.env s.heap m x u
 cell:∀x c,X.env.cells.lookup x=hI c->∃v,s.heap.IsCell c v
 free:H X.env.locals=h9
 fE:∀x c,X.env.cells.lookup x=hI c->H c=h9
 pin:∀p∈X.pn++aa,s.heap.get? p.1=hI p.2/\H p.1=h9/\p.1≠X.env.locals/\p.1∉X.fs/\∀v,p.2.data≠.cell v
 aM:fw X.prog X.w H s.heap
 len:σ.length=X.N.length
section
variable{σ:List (Option V)}{H':Hp}{s:ix}
theorem Cx.Ok.Xx(ok:X.Ok){b:i1}(e:X.base.get? b=hI o):b∉X.fs:=λa=>by have:=(ok.hZ.mem a).1;rw [e] at this;cases this
def Inv.bs(I:zv1 s):∀b o,X.base.get? b=hI o->s.heap.get? b=hI o/\H b=h9:=λb o e=>{I.base.keep b o (I.ok.bs b o e).1 (I.ok.bs b o e).2 (I.ok.Xx e) (I.ok.Bw b o e),I.base.free b o (I.ok.bs b o e).1 (I.ok.bs b o e).2 (I.ok.Bw b o e)}
def Inv.bk(I:zv1 s):∀b o,X.base.get? b=hI o->s.heap.get? b=hI o:=λb o e=>(I.bs b o e).1
def Inv.mod(I:zv1 s):Mod X.K X.mg X.base:=I.ok.mod
def Inv.jZ(I:zv1 s):X.K.In s.heap:=I.ok.mod.Ja.keeps I.bk
theorem Inv.fr(I:zv1 s):∃m,Fr X.base X.env.locals s.heap m:=
 let⟨m,a,_⟩:=I.loc
 {m,a,I.bk,d1 I.ok.wY I.ok.above}
theorem Inv.lt(I:zv1 s):X.env.locals<(zz9 s):=let⟨_,a,_⟩:=I.loc;a.lt
def Inv.sz(I:zv1 s):X.s₀.heap.objs.size<=(zz9 s):=d1 I.ok.above (Nat.le_of_lt I.lt)
theorem Inv.Xy(I:zv1 s)(h:(zz9 s)<=a):a∉X.fs:=λb=>by let(_,o,c,_):=I.ok.hZ.mem b;exact absurd (d3 (c6 c) (d1 I.sz h)) (Nat.lt_irrefl _)
theorem Inv.Ca(I:zv1 s):∀x c,X.env.cells.lookup x=hI c->c≠X.env.locals:=λx c e z=>by let(v,o,a,hd):=I.cell x c e;let(m,(f,g,h,b,d,_),_):=I.loc;rw [z,b] at a;cases a;rw [d] at hd;cases hd
def Inv.hZ(I:zv1 s):s.heap.FunFrames X.base X.outer:=by
 have all:∀(l:List Env),(∀b∈fz l,b∈X.fs)->X.s₀.heap.FunFrames X.base l->s.heap.FunFrames X.base l:=by
  intro l
  induction l with
  |nil=>intro _ _;trivial|cons env r d=>intro hs hl;let(hk,(L,o,hf,f,g,hd),hr):=hl;have a:L∈X.fs:=hs L (by unfold fz;rw [List.filterMap_cons,hf];exact c8);let(h,e):=I.base.slot L o g (I.ok.xm L a) a λz=>I.ok.Dl L z a;exact{hk,{L,_,hf,f,e,hd},d (λb c=>hs b (by unfold fz;rw [List.filterMap_cons,hf];exact cz _ c)) hr}
 exact all X.outer (λZ c=>c) I.ok.hZ
def Inv.stack(I:zv1 s):s.heap.FunFrames X.base X.stack:=by
 rcases I.ok.PL with e|⟨e,hf⟩
 .rw [e];exact I.hZ
 .rw [e];let(m,a,_):=I.loc;refine .cons (by rw [I.ok.kind];decide) hf a ?_ I.hZ;exact kA.get?_none_of_le (d1 I.ok.wY I.ok.above)
def Inv.my(I:zv1 s):∀b∈fz X.stack,b∈X.env.locals::X.fs:=λb a=>by
 rcases I.ok.PL with e|⟨e,hf⟩
 .rw [e] at a;exact cz _ a
 .rw [e] at a;unfold fz at a;rw [List.filterMap_cons,hf] at a;exact a
theorem Inv.nK(I:zv1 s):∀b∈fz X.stack,H b=h9:=λb a=>by
 rcases er.mp (I.my b a) with e|a
 .rw [e];exact I.free
 .let(_,o,c,_):=I.ok.hZ.mem a;exact I.base.free b o c (I.ok.xm b a) λz=>I.ok.Dl b z a
def Inv.step{g':Array GenState}{t':Nat}{d':Drawn}{ch:List i1}(I:zv1 s)
 (t:∀b∈ch,(b∈X.ex\/X.s₀.heap.objs.size<=b)/\b≠X.env.locals/\(∀x c,X.env.cells.lookup x=hI c->c≠b)/\∀p∈X.pn++aa,p.1≠b)
 (keep:∀b o,b≠X.env.locals->b∉X.fs->b∉ch->s.heap.get? b=hI o->H b=h9->h'.get? b=hI o)
 (slot:∀b o,b≠X.env.locals->b∈X.fs->b∉ch->s.heap.get? b=hI o->H b=h9->∃D,h'.get? b=hI {o with slots:=D}) (free:∀b o,b∉ch->s.heap.get? b=hI o->H b=h9->H' b=h9)
 (there:∀b o,b∉ch->s.heap.get? b=hI o->∃y,h'.get? b=hI y)
 (ib:∀b xs,H b=hI (.tup xs)->H' b=hI (.tup xs)) (gj:∀b o u,H b=hI (.bV o u)->H' b=hI (.bV o u)) (gZ:∀b ps,H b=hI (.gz ps)->∃more,H' b=hI (.gz (ps++more)))
 (ns:∀m,s.heap.Ns X.env.locals m->h'.Ns X.env.locals m) (aM:fw X.prog X.w H' h') (M:AllBare g'):
 Inv X aa σ H' {s with heap:=h',gens:=g',drawn:=d',toks:=t'}:=by
 have Vd:∀b o,X.s₀.heap.get? b=hI o->b≠X.env.locals:=λb o e=>d8 (d3 (c6 e) I.ok.above)
 have C:∀b o,X.s₀.heap.get? b=hI o->b∉X.ex->b∉ch:=λb o e a h=>by
  rcases(t b h).1 with z|z
  .exact a z
  .exact absurd (d3 (c6 e) z) (Nat.lt_irrefl _)
 have f:∀x c,X.env.cells.lookup x=hI c->∀v,s.heap.IsCell c v->h'.IsCell c v:=λx c e v E=>by
  let(o,j,hd):=E;have A:c∉ch:=λz=>(t c z).2.2.1 x c e rfl;by_cases G:c∈X.fs
  .let(D,q):=slot c o (I.Ca x c e) G A j (I.fE x c e);exact{_,q,hd}
  .exact{o,keep c o (I.Ca x c e) G A j (I.fE x c e),hd}
 refine{I.ok,I.os,M,{λb o e n h a=>?_,λb o e n h a=>?_,λb o e n a=>?_,λb o e a=>?_,λb xs e=>ib b xs (I.base.ib b xs e),λb o xs e=>gj b o xs (I.base.gj b o xs e),λb ps e=>?_},?_,λx c e=>?_,?_,λx c e=>?_,λp K=>?_,aM,I.len}
 .exact keep b o (Vd b o e) h (C b o e a) (I.base.keep b o e n h a) (I.base.free b o e n a)
 .let(D,g):=I.base.slot b o e n h a;let(F,B):=slot b _ (Vd b o e) h (C b o e a) g (I.base.free b o e n a);exact⟨F,B⟩
 .let(y,g):=I.base.there b o e a;exact free b y (C b o e a) g (I.base.free b o e n a)
 .let(y,g):=I.base.there b o e a;exact there b y (C b o e a) g
 .let(m1,g):=I.base.gZ b ps e;let(m2,B):=gZ b _ g;exact{m1++m2,by rw [B,Array.append_assoc]}
 .let(m,N,hl):=I.loc;refine{m,ns m N,λi x v g B O=>?_};let(u,r,l):=hl i x v g B O
  refine{u,r,?_};rcases l with l|⟨k,c,e,z⟩
  .exact .inl l
  .exact .inr {k,c,e,f x c e _ z}
 .let(v,z):=I.cell x c e;exact{v,f x c e v z}
 .let(m,(o,_,_,j,_),_):=I.loc;exact free _ o (λz=>(t _ z).2.1 rfl) j I.free
 .let(v,o,j,hd):=I.cell x c e;exact free c o (λz=>(t c z).2.2.1 x c e rfl) j (I.fE x c e)
 .let(e,n,ne,L,d):=I.pin p K;have A:p.1∉ch:=λz=>(t p.1 z).2.2.2 p K rfl;exact{keep p.1 p.2 ne L A e n,free p.1 p.2 A e n,ne,L,d}
def Inv.un{t':Nat}(I:zv1 s)(u:Un X.fs [] H H' s.heap h')(aM:fw X.prog X.w H' h'):Inv X aa σ H' {s with heap:=h',toks:=t'}:=by let(m,(o,j,k,f,r),_):=id I.loc;let(p,h):=u.any f I.free (by simp);exact I.step (g':=s.gens) (d':=s.drawn) (ch:=[]) (λZ z=>nomatch z) (λb o Z a Z e n=>u.keep b o e n a (by simp)) (λb o Z a Z e n=>u.slot b o e n a (by simp)) (λb o Z e n=>u.free b o e n (by simp)) (λb o Z e=>u.there b o e (by simp)) u.ib u.gj u.gZ (λq hm=>by let(t,c,d,g,i):=hm;rw [f] at g;cases g;exact{_,c,d,h,i}) aM I.bare
def Inv.call{g':Array GenState}{t':Nat}{d':Drawn}{ch:List i1}(I:zv1 s)(u:Un (fz X.stack) ch H H' s.heap h')(aM:fw X.prog X.w H' h')(k:AllBare g')
 (h:∀b∈ch,(b∈X.ex\/X.s₀.heap.objs.size<=b)/\b≠X.env.locals/\(∀x c,X.env.cells.lookup x=hI c->c≠b)/\∀p∈X.pn++aa,p.1≠b):
 Inv X aa σ H' {s with heap:=h',gens:=g',drawn:=d',toks:=t'}:=by
 let(m,(o,y,A,i,r),_):=id I.loc;let(B,d):=u.any i I.free λz=>(h _ z).2.1 rfl;exact I.step (ch:=ch) h (λb o d q a e n=>u.keep b o e n (λz=>(er.mp (I.my b z)).elim d q) a) (λb o Z Z a e n=>u.any e n a) (λb o a e n=>u.free b o e n a) (λb o a e=>u.there b o e a) u.ib u.gj u.gZ (λC hm=>by let(D,f,g,j,t):=hm;rw [i] at j;cases j;exact{_,f,g,d,t}) aM k
def Inv.turned{t':Nat}{it:i1}(I:zv1 s)(k:∀b o,b≠it->s.heap.get? b=hI o->h'.get? b=hI o)(hn:H it=h9)(d:it≠X.env.locals)
 (g:it∈X.ex\/X.s₀.heap.objs.size<=it) (h:∀x c,X.env.cells.lookup x=hI c->c≠it) (i:∀p∈X.pn++aa,p.1≠it):Inv X aa σ H {s with heap:=h',toks:=t'}:=by
 have f:∀b u,H b=hI u->b≠it:=λb u e z=>by rw [z,hn] at e;cases e
 refine I.step (g':=s.gens) (d':=s.drawn) (ch:=[it]) (λb j=>?_) (λb o Z Z a e Z=>k b o (λz=>a (by simp [z])) e) (λb o Z Z a e Z=>{o.slots,k b o (λz=>a (by simp [z])) e}) (λZ Z Z Z n=>n)
  (λb o a e=>{o,k b o (λz=>a (by simp [z])) e}) (λZ Z e=>e) (λZ Z Z e=>e) (λb A e=>{#[],by rw [e];simp}) (λm hm=>?_) (λb u e=>?_) I.bare
 .have e:b=it:=zx6 j;subst e;exact⟨g,d,h,i⟩
 .let(o,t,w,y,r):=hm;exact{o,t,w,k _ o (Ne.symm d) y,r}
 .refine(I.aM b u e).fW (λc v a q=>k c v ?_ q) (λZ q=>q) λZ Z q=>q
  rcases a with z|z
  .rw [z];exact f b u e
  .exact f c _ z
theorem Inv.tok(I:zv1 s)(t:Nat):Inv X aa σ H {s with toks:=t}:=I.un (h':=s.heap) (t':=t) Un.refl I.aM
theorem Inv.kept{t':Nat}(I:zv1 s)(k:∀b u,s.heap.get? b=hI u->h'.get? b=hI u):Inv X aa σ H {s with heap:=h',toks:=t'}:=I.un (Un.kept k) (I.aM.kept k)
theorem Inv.laid{o:HO}{t':Nat}(I:zv1 s)(k:∀b u,s.heap.get? b=hI u->h'.get? b=hI u)(c:(zz9 s)<=a)(new:bX X.prog X.w (upd H a o) h' a o):
 Inv X aa σ (upd H a o) {s with heap:=h',toks:=t'}:=I.un (Un.laid k c (I.aM.fresh c)) (I.aM.laid k c new)
theorem Inv.write{x e:i1}{o:HO}{t':Nat}(I:zv1 s)(a:QN (H x))(he:e=x\/H e=hI (.own x))(k:∀b u,b≠e->s.heap.get? b=hI u->h'.get? b=hI u)(c:∃u,h'.get? e=hI u)
 (new:bX X.prog X.w (upd H x o) h' x o):Inv X aa σ (upd H x o) {s with heap:=h',toks:=t'}:=I.un (Un.write a he k c) (I.aM.write a he k c new)
def Inv.nF{a:lu}(I:zv1 s)(h:∀p∈a,s.heap.get? p.1=hI p.2/\H p.1=h9/\p.1≠X.env.locals/\p.1∉X.fs/\∀v,p.2.data≠.cell v):Inv X a σ H s:=
 {I.ok,I.os,I.bare,I.base,I.loc,I.cell,I.free,I.fE,λp b=>(List.mem_append.mp b).elim (λz=>I.pin p (ed _ z)) (h p),I.aM,I.len}
def kZ(hN:N.Nodup){i:Nat}(a:N[i]?=hI x)(b:N[j]?=hI x):i=j:=by let(e,c):=b4.mp a;let(f,d):=b4.mp b;exact(List.getElem_inj hN).mp (c.trans d.symm)
def BZ{M:Model}{E:lr}{i:Nat}{Q:Unit->ix->Prop}(I:zv1 s)(hN:X.N.Nodup)(L:X.N[i]?=hI x)(B:Loc X.env.scope x)(r:RelV v u)
 (h:∀s',Inv X aa (σ.set i (hI v)) H s'->(∃a,kA.SameBut a s.heap s'.heap/\(a=X.env.locals\/X.env.cells.lookup x=hI a))->Q () s') (hf:X.fn x=ie\/X.env.scope.names.lookup x=hI .local:=by first|exact .inl rfl|exact .inr rfl|assumption):jW M A (storeName X.env x u) Q E s:=by
 let(m,T,hl):=id I.loc;have NB:(X.env.scope.kind==.class||(X.env.scope.kind==.module&&X.env.locals !=X.env.globals))=ig:=by rw [I.ok.kind];rfl
 have F:i<σ.length:=by rw [I.len];exact(b4.mp L).1
 have Ca:=I.Ca
 have f:∀{a:i1} {h':kA},(∃o,s.heap.get? a=hI o/\H a=h9)->kA.SameBut a s.heap h'->fw X.prog X.w H h':=λ{a h'} ha hs b ob e=>by
  let(_,_,C):=ha;refine(I.aM b ob e).fW (λc R t q=>(hs.2 c ?_).trans q) (λ_ q=>q) λ_ _ q=>q
  rintro rfl
  rcases t with rfl|t
  .rw [C] at e;cases e
  .rw [C] at t;cases t
 rcases B with hk|hk
 .refine wpAny_storeName_local hk T (λh' Qt hs=>?_) NB;let(oL,_,_,Qu,_):=id T;refine h _ {I.ok,I.os,I.bare,{λb o e n G B=>?_,λb o e n G B=>?_,I.base.free,λb o e B=>?_,I.base.ib,I.base.gj,I.base.gZ},{_,Qt,λj y U g D W=>?_},λy c e=>?_,I.free,I.fE,λp Y=>?_,f ⟨oL,Qu,I.free⟩ hs,zx6 I.len} {_,hs,.inl rfl}
  .exact(hs.2 b (d8 (d3 (c6 e) I.ok.above))).trans (I.base.keep b o e n G B)
  .let(Z,g):=I.base.slot b o e n G B;exact{Z,(hs.2 b (d8 (d3 (c6 e) I.ok.above))).trans g}
  .let(o',g):=I.base.there b o e B;exact{o',(hs.2 b (d8 (d3 (c6 e) I.ok.above))).trans g}
  .by_cases K:j=i
   .subst K;rw [L] at g;cases g;rw [eu F] at D;cases D;exact{u,r,.inl {hk,by simp}}
   .rw [dX (Ne.symm K)] at D;let(u',r',q):=hl j y U g D W
    refine{u',r',?_};rcases q with⟨k,e⟩|⟨k,c,e,z⟩
    .refine .inl {k,?_};have:y≠x:=λe=>K (kZ hN g (e▸L));simp [this,e]
    .exact .inr {k,c,e,z.sameBut hs (Ca y c e)}
  .let(R,z):=I.cell y c e;exact{R,z.sameBut hs (Ca y c e)}
  .let(e,n,ne,nf,d):=I.pin p Y;exact{(hs.2 p.1 ne).trans e,n,ne,nf,d}
 .have oJ:X.fn x=ie:=by
   rcases hf with z|z
   .exact z
   .rw [z] at hk;cases hk
  let(c,t):=I.ok.has x (.inl hk);let(R,z):=I.cell x c t;refine wpAny_storeName_cell I.ok.kind hk t z (λh' iT hs=>?_);let(oc,O,P):=id z;refine h {s with heap:=h'} {I.ok,I.os,I.bare,{λb o e n G B=>?_,λb o e n G B=>?_,I.base.free,λb o e B=>?_,I.base.ib,I.base.gj,I.base.gZ},{m,T.sameBut hs (Ne.symm (Ca x c t)),λj y U g D W=>?_},λy S e=>?_,I.free,I.fE,λp Y=>?_,f {oc,O,I.fE x c t} hs,zx6 I.len} {c,hs,.inr t}
  .exact(hs.2 b (d8 (d3 (c6 e) (I.ok.Me x c oJ t)))).trans (I.base.keep b o e n G B)
  .let(Z,g):=I.base.slot b o e n G B;exact{Z,(hs.2 b (d8 (d3 (c6 e) (I.ok.Me x c oJ t)))).trans g}
  .let(o',g):=I.base.there b o e B;exact{o',(hs.2 b (d8 (d3 (c6 e) (I.ok.Me x c oJ t)))).trans g}
  .by_cases K:j=i
   .subst K;rw [L] at g;cases g;rw [eu F] at D;cases D;exact{u,r,.inr {.inl hk,c,t,iT}}
   .rw [dX (Ne.symm K)] at D;let(u',r',q):=hl j y U g D W
    refine{u',r',?_};rcases q with q|⟨k,S,e,z'⟩
    .exact .inl q
    .refine .inr {k,S,e,z'.sameBut hs ?_}
     rintro rfl
     exact K (kZ hN g (I.ok.inj _ _ _ e t▸L))
  .by_cases mY:S=c
   .subst mY;exact{_,iT}
   .let(w2,z2):=I.cell y S e;exact{w2,z2.sameBut hs mY}
  .let(e,n,ne,nf,d):=I.pin p Y;refine{(hs.2 p.1 ?_).trans e,n,ne,nf,d};intro q;rw [q,O] at e;have q':oc=p.2:=zzq e;exact d R (by rw [<-q'];exact P)
def iM{M:Model}{E:lr}{i:Nat}{Q:Unit->ix->Prop}(I:zv1 s)(hN:X.N.Nodup)(a:X.N[i]?=hI x)(b:Loc X.env.scope x)(r:RelV v u)
 (h:∀s',Inv X aa (σ.set i (hI v)) H s'->Q () s') (hf:X.fn x=ie\/X.env.scope.names.lookup x=hI .local:=by first|exact .inl rfl|exact .inr rfl|assumption):jW M A (storeName X.env x u) Q E s:=
 BZ I hN a b r (λs' c Z=>h s' c) hf
def Inv.Rq{s':ix}{ch:List i1}(I:zv1 s)(a:s'.os=s.os)(u:Un (fz X.stack) ch H H' s.heap s'.heap)(aM:fw X.prog X.w H' s'.heap)(d:AllBare s'.gens)
 (f:∀b∈ch,(b∈X.ex\/X.s₀.heap.objs.size<=b)/\b≠X.env.locals/\(∀x c,X.env.cells.lookup x=hI c->c≠b)/\∀p∈X.pn++aa,p.1≠b):Inv X aa σ H' s':=by
 let(h',g',d',t',g):=s';have e:g=s.os:=a;subst e;exact I.call (g':=g') (t':=t') (d':=d') u aM d f
end
noncomputable abbrev XK:=iv->Option i1->Hp->Prop
noncomputable abbrev St:=List (Option V)
variable{σ:St}
noncomputable abbrev VK:=V->Hp->Prop
variable{Q:VK}
noncomputable abbrev TE:=St->Hp->VK->Prop
noncomputable abbrev TT:=St->Hp->(Bool->Hp->Prop)->Prop
noncomputable abbrev TA:=St->Hp->(List V->Hp->Prop)->Prop
structure Ends where
 nx:St->Hp->Prop
 rt:VK
 bk:St->Hp->Prop:=λ_ _=>False
 ct:St->Hp->Prop:=λ_ _=>False
noncomputable abbrev TS:=Ends->St->Hp->Prop
def EP(X:Cx)(aa:lu)(b:St)(Q:VK)(u:iv)(s':ix):Prop:=∃v a,Inv X aa b a s'/\RelV v u/\Q v a
def TP(X:Cx)(aa:lu)(c:St)(Q:Bool->Hp->Prop)(b:Bool)(s':ix):Prop:=∃a,Inv X aa c a s'/\Q b a
def AP(X:Cx)(aa:lu)(c:St)(Q:List V->Hp->Prop)(us:List iv)(s':ix):Prop:=∃a b,Inv X aa c b s'/\Vals a us/\Q a b
def SP(X:Cx)(aa:lu)(D:Ends)(f:Flow)(s':ix):Prop:=
 match f with
 |.next=>∃a b,Inv X aa a b s'/\D.nx a b|.brk=>∃a b,Inv X aa a b s'/\D.bk a b|.cont=>∃a b,Inv X aa a b s'/\D.ct a b|.ret u=>∃v a b,Inv X aa a b s'/\RelV v u/\D.rt v b
def PE(X:Cx)(e:i2)(t:TE):Prop:=
 ∀(b:lu) (s:ix) (a:St) (H:Hp) (Q:VK),Inv X b a H s->t a H Q->zx7 X (eval e X.env) (EP X b a Q) X.xe s
def PT(X:Cx)(e:i2)(t:TT):Prop:=
 ∀(b:lu) (s:ix) (a:St) (H:Hp) (Q:Bool->Hp->Prop),Inv X b a H s->t a H Q->zx7 X (isTrue e X.env (eval e X.env)) (TP X b a Q) X.xe s
def PW(X:Cx)(e:i2)(t:TT):Prop:=
 ∀(a:Sem iv) (c:lu) (s:ix) (b:St) (H:Hp) (Q:Bool->Hp->Prop),Inv X c b H s->t b H Q->zx7 X (isTrue e X.env a) (TP X c b Q) X.xe s
def PW.pt{t:TT}(h:PW X e t):PT X e t:=h _
def PA(X:Cx)(d:List i2)(t:TA):Prop:=
 ∀(a:Pos) (c:lu) (s:ix) (b:St) (H:Hp) (Q:List V->Hp->Prop),Inv X c b H s->t b H Q->zx7 X (spliced (backTo a (starEach d X.env))) (AP X c b Q) X.xe s
def PS(X:Cx)(st:k6)(t:TS):Prop:=
 ∀(a:lu) (s:ix) (b:St) (H:Hp) (D:Ends),Inv X a b H s->t D b H->zx7 X (exec st X.env) (SP X a D) X.xe s
def qE(X:Cx)(st:List k6)(t:TS):Prop:=
 ∀(a:lu) (s:ix) (b:St) (H:Hp) (D:Ends),Inv X a b H s->t D b H->zx7 X (execs st X.env) (SP X a D) X.xe s
def bM{b:Type}{t:Sem b}{Q c:b->ix->Prop}{M:Model}{E:lr}{s:ix}(h:jW M A t Q E s)(d:∀a s,Q a s->c a s):jW M A t c E s:=wpAny_mono h d λZ Z x=>x
section
def bin{a b:i2}{k tb:TE}(ha:PE X a k)(o:PE X b tb){s:ix}{d:St}{R:V->V->Hp->Prop}(I:Inv X aa d H s)(h:k d H λx H1=>tb d H1 λy e=>R x y e)
 {m:Type} {Q:m->ix->Prop} {f:iv->iv->Sem m}
 (hf:∀v u j x y e,Inv X aa d e j->RelV x v->RelV y u->R x y e->zx7 X (f v u) Q X.xe j):
 zx7 X (eval a X.env) (λv g=>zx7 X (eval b X.env) (λu i=>zx7 X (f v u) Q X.xe i) X.xe g) X.xe s:=by
 refine bM (ha aa s d H _ I h) λv p c=>?_;let(x,H1,q,r,t):=c;refine bM (o aa p d H1 _ q t) λu j c=>?_;let(y,e,z,B,C):=c;exact hf v u j x y e z r B C
abbrev P6(i:Nat):TE:=λa H Q=>∃v,a[i]?=hI (hI v)/\Q v H
abbrev tC(v:V):TE:=λZ H Q=>Q v H
def mi{i:Nat}(hN:X.N[i]?=hI x)(d:QW X.env.scope x)(hd:(x==(zu 19:Str))=ig:=by decide)(f:(x==("__classdict__":Str))=ig:=by decide):PE X (.Name x pos) (P6 i):=by
 intro g s j H Q I h;let(v,e,h):=h;let(m,k,hl):=I.loc;let(u,r,l):=hl i x v hN e d;have fin:EP X g j Q u s:=⟨v,H,I,r,h⟩
 rcases l with⟨hk,hm⟩|⟨hk,c,a,b⟩
 .exact wpAny_Name (wpAny_loadName_local I.ok.kind hk k hm fin) hd
 .rcases hk with hk|hk
  .exact wpAny_Name (wpAny_loadName_cell I.ok.kind hk a b fin) hd
  .exact wpAny_Name (wpAny_loadName_free I.ok.kind hk a b fin f) hd
def Fi{i j pos}:PE X (.Constant (.int i) j pos) (tC (.int i)):=λZ Z Z H Z I h=>wpAny_Constant_int {.int i,H,I.tok _,{_,rfl},h}
def Tp{b j pos}:PE X (.Constant (.bool b) j pos) (tC (.bl b)):=λZ Z Z H Z I h=>Constant_bool {.bl b,H,I,rfl,h}
def OY{j pos}:PE X (.Constant .none j pos) (tC .aR):=λZ Z Z H Z I h=>Constant_none {.aR,H,I,rfl,h}
def tG{x j pos}:PE X (.Constant (.str x) j pos) (tC (.str x)):=λZ Z Z H Z I h=>Calls.Constant_str {.str x,H,I.tok _,{_,rfl},h}
def Gl(X:Cx)(x:Str):Prop:=X.env.kindOf x=hI .globalImplicit
def dS{E:lr}{s:ix}{a:St}{Q:lr}(I:Inv X aa a H s)(b:Gl X x)(hm:X.mg x=hI u)(h:Q u s)
 (hd:(x==(zu 19:Str))=ig:=by decide):zx7 X (eval (.Name x pos) X.env) Q E s:=
 Calls.Name_function_global I.ok.kind b (Calls.loadGlobal_global (by rw [I.ok.glob];exact I.mod.glob.keeps I.bk) hm h) hd
def j1{E:lr}{s:ix}{a:St}{Q:lr}(I:Inv X aa a H s)(b:Gl X x)(hm:X.mg x=h9)(c:bootBuiltins x=hI u)(h:Q u s)
 (hn:x≠(zu 36):=by decide) (hd:(x==(zu 19:Str))=ig:=by decide):zx7 X (eval (.Name x pos) X.env) Q E s:=by
 let(mb,d,e):=I.mod.blt;exact Calls.Name_function_global I.ok.kind b (Calls.loadGlobal_builtin (by rw [I.ok.glob];exact I.mod.glob.keeps I.bk) hm (by rw [I.ok.blt];exact d.keeps I.bk) ((e x hn).trans c) h) hd
def zR(a:Gl X x)(hm:X.mg x=hI u)(r:RelV v u)(hd:(x==(zu 19:Str))=ig:=by decide):PE X (.Name x pos) (tC v):=
 λZ Z Z H Z I h=>dS I a hm ⟨v,H,I,r,h⟩ hd
def zO(a:Gl X x)(hm:X.mg x=h9)(b:bootBuiltins x=hI u)(r:RelV v u)(hn:x≠(zu 36):=by decide)(hd:(x==(zu 19:Str))=ig:=by decide):PE X (.Name x pos) (tC v):=
 λZ Z Z H Z I h=>j1 I a hm b ⟨v,H,I,r,h⟩ hn hd
variable{a b:i2}{ta tb:TE}
abbrev tB(t:TE):TT:=λd H Q=>t d H λx e=>∃c,x=.bl c/\Q c e
def O9{t:TE}(h:PE X e t)(he:∀c,isTrue e X.env c=(do let v<-c;standAt e.pos;holding [v] (truthy v)):=by intro _;rfl):PT X e (tB t):=by intro g s i H Q I j;refine isTrue_plain (bM (h g s i H _ I j) λv r f=>?_) (he _);let(x,k,m,o,p):=f;let(d,rfl,q):=p;cases o;exact wpAny_truthy_bool ⟨k,m,q⟩
variable{tA Vk:TT}{rest:List i2}
abbrev X5(t u:TT):TT:=λd H Q=>t d H λc e=>if c=ie then u d e Q else Q ig e
abbrev tOr(t u:TT):TT:=λd H Q=>t d H λc e=>if c=ie then Q ie e else u d e Q
abbrev Yd(t:TT):TT:=λd H Q=>t d H λc e=>Q (!c) e
def pw_and1(ha:PT X a tA):PW X (.BoolOp .And [a] pos) tA:=by
 intro g d s f H Q I h;refine isTrue_and (bM (ha d s f H Q I h) λc i e=>?_)
 cases c with
 |true=>exact isTrue_and_nil e|false=>exact e
def pw_or1(ha:PT X a tA):PW X (.BoolOp .Or [a] pos) tA:=by
 intro g d s f H Q I h;refine isTrue_or (bM (ha d s f H Q I h) λc i e=>?_)
 cases c with
 |false=>exact isTrue_or_nil e|true=>exact e
def pw_and(ha:PT X a tA)(k:PW X (.BoolOp .And (b::rest) pos) Vk):PW X (.BoolOp .And (a::b::rest) pos) (X5 tA Vk):=by
 intro m e s f H Q I h;refine isTrue_and (bM (ha e s f H _ I h) λc o d=>?_);let(g,i,j):=d
 cases c with
 |true=>exact k m e o f g Q i j|false=>exact⟨g,i,j⟩
def pw_or(ha:PT X a tA)(k:PW X (.BoolOp .Or (b::rest) pos) Vk):PW X (.BoolOp .Or (a::b::rest) pos) (tOr tA Vk):=by
 intro m e s f H Q I h;refine isTrue_or (bM (ha e s f H _ I h) λc o d=>?_);let(g,i,j):=d
 cases c with
 |true=>exact⟨g,i,j⟩|false=>exact k m e o f g Q i j
def O8(ha:PT X a tA):PT X (.UnaryOp .Not a pos) (Yd tA):=by intro d s e H Q I h;exact isTrue_not (ha d s e H (λc f=>Q (!c) f) I h)
abbrev TX(ta tb:TE):TE:=λd H Q=>ta d H λx e=>∃c,x=.bl c/\if c=ie then tb d e Q else Q (.bl ig) e
abbrev Ye(ta tb:TE):TE:=λd H Q=>ta d H λx e=>∃c,x=.bl c/\if c=ie then Q (.bl ie) e else tb d e Q
abbrev Ud(ta:TE):TE:=λd H Q=>ta d H λx e=>∃c,x=.bl c/\Q (.bl (!c)) e
def Fm{op}{t:TE}(h:PE X a t):PE X (.BoolOp op [a] pos) t:=λc s d H Q I e=>BoolOp_one (h c s d H Q I e)
def OT(ha:PE X a ta)(k:PE X (.BoolOp .And (b::rest) pos) tb):PE X (.BoolOp .And (a::b::rest) pos) (TX ta tb):=by
 intro f s g H Q I h;refine BoolOp_and (bM (ha f s g H _ I h) λv m e=>?_);let(x,i,j,o,d):=e;let(c,rfl,d):=d
 cases o;refine wpAny_truthy_bool ?_;cases c with
 |true=>exact k f m g i Q j d|false=>exact{.bl ig,i,j,rfl,d}
def Ts(ha:PE X a ta)(k:PE X (.BoolOp .Or (b::rest) pos) tb):PE X (.BoolOp .Or (a::b::rest) pos) (Ye ta tb):=by
 intro f s g H Q I h;refine BoolOp_or (bM (ha f s g H _ I h) λv m e=>?_);let(x,i,j,o,d):=e;let(c,rfl,d):=d
 cases o;refine wpAny_truthy_bool ?_;cases c with
 |false=>exact k f m g i Q j d|true=>exact{.bl ie,i,j,rfl,d}
def OZ(ha:PE X a ta):PE X (.UnaryOp .Not a pos) (Ud ta):=by intro f s g H Q I h;refine UnaryOp_ (bM (ha f s g H _ I h) λv m d=>?_);let(x,i,j,k,e):=d;let(c,rfl,e):=e;cases k;exact not_of (wpAny_truthy_bool {.bl (!c),i,j,rfl,e})
abbrev tIf(t:TT)(ta tb:TE):TE:=λd H Q=>t d H λc e=>if c=ie then ta d e Q else tb d e Q
def vU{c:i2}(o:PT X c tA)(ha:PE X a ta)(p:PE X b tb):PE X (.IfExp c a b pos) (tIf tA ta tb):=by
 intro e s f H Q I h;refine wpAny_IfExp (bM (o e s f H _ I h) λd i g=>?_);let(j,k,m):=g
 cases d with
 |true=>exact ha e i f j Q k m|false=>exact p e i f j Q k m
end
def il(K:zz8)(H:Hp)(a:i1)(xs:List V):Prop:=
 Rd H a (.lst xs)\/
  ∃(o:Obj) (b:Array iv) (n:Nat),K.lookup a=hI o/\o.cls=.type "list"/\o.dict=h9/\o.data=.seq b n/\b.size<=kB/\Vals xs b.toList
def f9(K:zz8)(H:Hp)(a:i1)(xs:List V):Prop:=
 Rd H a (.tup xs)\/
  ∃(o:Obj) (b:Array iv) (n:Nat),K.lookup a=hI o/\o.cls=.type "tuple"/\o.data=.seq b n/\b.size<=kB/\Vals xs b.toList
abbrev VN:iv->Option V
 |.none=>hI .aR|.bool b=>hI (.bl b)|.int i _=>hI (.int i)|.str x _=>hI (.str x)|.bytes b _=>hI (.UL b)|.float b _=>hI (.UR b)|.ref a=>hI (.ref a)|.type n=>hI (.ty n)|_=>h9
def RelV.abs{x:V}(r:RelV x u):VN u=hI x:=by
 cases x with
 |aR=>cases r;rfl
 |bl _=>cases r;rfl
 |int _=>let(t,rfl):=r;rfl|str _=>let(t,rfl):=r;rfl|UL _=>let(t,rfl):=r;rfl|UR _=>let(t,rfl):=r;rfl|ref _=>cases r;rfl
 |ty _=>cases r;rfl
def RelV.inj{x y:V}(r:RelV x u)(q:RelV y u):x=y:=zzq (r.abs.symm.trans q.abs)
def Vals.inj{xs ys:List V}(r:Vals xs us)(q:Vals ys us):xs=ys:=by
 induction r generalizing ys with
 |nil=>cases q;rfl
 |cons r _ a=>
  cases q with
  |cons b c=>rw [r.inj b,a c]
section
variable{s:ix}{xs ys:List V}
def il.of{K:zz8}(h:H a=hI (.lst xs)):il K H a xs:=.inl (.inl h)
def Inv.list(I:zv1 s)(h:il X.K H a xs):∃b:List iv,Vals xs b/\PlainL s.heap a b.toArray/\xs.length<=sizeLine:=by
 rcases h with h|⟨o,b,n,hk,c,hd,hs,d,r⟩
 .let(z,b,n,r,e):=h.ok I.aM;exact{b,r,{_,n,e,rfl,rfl,rfl},z}
 .refine{b.toList,r,{o,n,I.jZ a o hk,c,hd,zx6 hs},?_};have e:=r.length;simp! [ef] at e;lia
def Inv.tuple(I:zv1 s)(h:f9 X.K H a xs):∃b:List iv,Vals xs b/\IsTup s.heap a b.toArray/\xs.length<=sizeLine:=by
 rcases h with h|⟨o,b,n,hk,c,hs,d,r⟩
 .let(z,b,r,p):=h.ok I.aM;exact⟨b,r,p,z⟩
 .refine{b.toList,r,{o,I.jZ a o hk,c,n,zx6 hs},?_};have e:=r.length;simp! [ef] at e;lia
def Inv.vB(I:zv1 s)(h:il X.K H a xs)(h':il X.K H a ys):xs=ys:=by
 let(g,r,(o,n,e,_,_,d),_):=I.list h;let(b,i,(k,m,c,_,_,f),_):=I.list h';rw [e] at c;cases c;rw [d] at f
 injection f with j _
 have:g=b:=by simpa using congrArg Array.toList j
 subst this;exact r.inj i
def Inv.rL(I:zv1 s)(h:f9 X.K H a xs)(h':f9 X.K H a ys):xs=ys:=by
 let(g,r,(o,e,_,n,d),_):=I.tuple h;let(b,i,(k,c,_,m,f),_):=I.tuple h';rw [e] at c;cases c;rw [d] at f
 injection f with j _
 have:g=b:=by simpa using congrArg Array.toList j
 subst this;exact r.inj i
variable{rest:List k6}{t u:TS}{te:TE}
def Uc:TS:=λD σ H=>D.nx σ H
abbrev Yh(t u:TS):TS:=λD σ H=>t {D with nx:=u D} σ H
def tP:qE X [] Uc:=λZ Z σ H Z I h=>wpAny_execs_nil ⟨σ,H,I,h⟩
def vW(c:PS X st t)(d:qE X rest u):qE X (st::rest) (Yh t u):=by
 intro aa s σ H D I h;refine wpAny_execs_cons (bM (c aa s σ H {D with nx:=u D} I h) λf g q=>?_)
 cases f with
 |next=>let(b,i,j,q):=q;exact d aa g b i D j q|ret v=>exact q|brk=>exact q|cont=>exact q
def tQ(b:PS X st t):qE X [st] t:=by
 intro aa s σ H D I h;refine wpAny_execs_cons (bM (b aa s σ H D I h) λf c q=>?_)
 cases f with
 |next=>exact wpAny_execs_nil q|ret v=>exact q|brk=>exact q|cont=>exact q
def Inv.quiet{s:ix}(I:zv1 s):interactive X.env=ig:=by simp [interactive,I.ok.kind]
abbrev Ua(te:TE):TS:=λD σ H=>te σ H λZ b=>D.nx σ b
theorem tK(he:PE X e te)(hs:swapsWith e h9 pos.line X.env=pure ig:=by rfl):PS X (.Expr e pos) (Ua te):=by intro aa s σ H D I h;exact wpAny_Expr_any (bM (he aa s σ H _ I h) λv d ⟨x,H1,b,f,c⟩=>⟨σ,H1,b,c⟩) I.quiet hs
abbrev P2(te:TE):TS:=λD σ H=>te σ H D.rt
def tM(he:PE X e te):PS X (.Return (hI e) pos) (P2 te):=by intro aa s σ H D I h;exact wpAny_Return_some (bM (he aa s σ H _ I h) λv f ⟨x,H1,b,c,d⟩=>⟨x,σ,H1,b,c,d⟩)
abbrev X9(c:TT)(t u:TS):TS:=λD σ H=>c σ H λb d=>if b=ie then t D σ d else u D σ d
def Ly{c:i2}{a b:List k6}{g:TT}(o:PT X c g)(ha:qE X a t)(p:qE X b u):PS X (.If c a b pos) (X9 g t u):=by
 intro aa s σ H D I h;refine wpAny_If (bM (o aa s σ H _ I h) λd i f=>?_);let(j,k,m):=f
 cases d with
 |true=>exact ha aa i σ j D k m|false=>exact p aa i σ j D k m
end
noncomputable abbrev TG:=V->St->Hp->(St->Hp->Prop)->Prop
noncomputable abbrev KS:=List V->St->Hp->(St->Hp->Prop)->Prop
def PG(X:Cx)(a:i2)(t:TG):Prop:=
 ∀(c:lu) (s:ix) (d:St) (H:Hp) (v:V) (u:iv) (Q:St->Hp->Prop),Inv X c d H s->RelV v u->t v d H Q->
  zx7 X (assign a X.env u) (λZ f=>∃b e,Inv X c b e f/\Q b e) X.xe s
def QO(X:Cx)(ts:List i2)(t:KS):Prop:=
 ∀(b:lu) (s:ix) (c:St) (H:Hp) (d:List V) (e:List iv) (Q:St->Hp->Prop),Inv X b c H s->Vals d e->t d c H Q->
  zx7 X (assignInOrder ((assignEach ts X.env).map (·.2)) e) (λZ g=>∃a f,Inv X b a f g/\Q a f) X.xe s
noncomputable abbrev LZ:=V->V->V->Hp->(Hp->Prop)->Prop
def QR(X:Cx)(t:LZ):Prop:=
 ∀(a:lu) (s:ix) (b:St) (H:Hp) (o i v:V) (c d u:iv) (Q:Hp->Prop),Inv X a b H s->RelV o c->RelV i d->RelV v u->t o i v H Q->
  zx7 X (setItem c d u) (λZ f=>∃e,Inv X a b e f/\Q e) X.xe s
abbrev oG(i:Nat):TG:=λv a H Q=>Q (a.set i (hI v)) H
def JK{i:Nat}(hN:X.N.Nodup)(a:X.N[i]?=hI x)(b:Loc X.env.scope x)(hf:X.fn x=ie\/X.env.scope.names.lookup x=hI .local:=by first|exact .inl rfl|exact .inr rfl|assumption):PG X (.Name x pos) (oG i):=by intro d s e H v u Q I r h;exact wpAny_assign_Name (iM I hN a b r (λf c=>{_,H,c,h}) hf)
abbrev MT:KS:=λa b H Q=>a=[]/\Q b H
abbrev yU(t:TG)(u:KS):KS:=λb c H Q=>∃v r,b=v::r/\t v c H λa d=>u r a d Q
def JL:QO X [] MT:=by intro b s a H c d Q I r h;let(e,h):=h;subst e;cases r;exact assignInOrder_nil ⟨a,H,I,h⟩
theorem Fq{a:List i2}{t:TG}{u:KS}(f:PG X e t)(g:QO X a u)
 (hs:(assignEach (e::a) X.env).map (·.2)=assign e X.env::(assignEach a X.env).map (·.2):=by rfl):QO X (e::a) (yU t u):=by
 intro d s i H w y Q I r h;let(v,z,j,h):=h
 subst j;cases r with
 |cons r k=>rw [hs];refine assignInOrder_cons (bM (f d s i H _ _ _ I r h) λZ m b=>?_);let(c,o,p,q):=b;exact g d m c o _ _ Q p k q
abbrev RK(K:zz8)(n:Nat)(t:KS):TG:=λv b H Q=>∃a xs,v=.ref a/\f9 K H a xs/\xs.length=n/\t xs b H Q
theorem O3{c:List i2}{k:Nat}{t:KS}{n:Nat}(i:X.calm=ie)(h:QO X c t)
 (hn:(assignEach c X.env).length=n:=by rfl) (j:(assignEach c X.env).findIdx? (·.1)=h9:=by rfl):PG X (.Tuple c k pos) (RK X.K n t):=by
 intro f s g H v u Q I r d;let(a,xs,m,p,hl,d):=d;subst m;cases r;let(A,rv,q,B):=I.tuple p;refine assign_Tuple_tuple (I.ok.hd i) q (by simp [hn,<-hl,rv.length]) j λw y=>?_;have z:Inv X f g H {s with heap:=w}:=I.kept (t':=s.toks) λb o e=>y b o (d8 (c6 e)) e;exact h f _ g H xs _ Q z (zx6 rv) d
abbrev Wl(b c:TE)(t:LZ):TG:=λv a H Q=>b a H λo d=>c a d λi e=>t o i v e λf=>Q a f
def O2{o i:i2}{f g:TE}{t:LZ}(j:PE X o f)(k:PE X i g)(hs:QR X t)
 (ha:∀v,assign (.Subscript o i pos) X.env v=(do
  let b<-holding [v] (eval o X.env);let c<-holding [v,b] (eval i X.env)
  standAt pos
  holding [v,b,c] (setItem b c v)
  release [v,b,c] []):=by intro _;rfl):PG X (.Subscript o i pos) (Wl f g t):=by
 intro e s d H v u Q I r h;rw [ha];refine ar (wpAny_holding (bM (j e s d H _ I h) λb m a=>?_));let(x,p,q,w,z):=a;refine ar (wpAny_holding (bM (k e m d p _ q z) λc A a=>?_));let(y,B,C,D,E):=a;refine ar (wpAny_standAt (ar (wpAny_holding (bM (hs e A d B x y v b c u _ C w D r E) λZ L a=>?_))));let(F,G,K):=a;exact wpAny_release ⟨d,F,G,K⟩
abbrev TY(te:TE)(g:TG):TS:=λD a H=>te a H λx b=>g x a b D.nx
theorem FG{a:i2}{te:TE}{g:TG}(he:PE X e te)(f:PG X a g)(hs:swapsWithSole [a] e pos.line X.env=pure ig:=by rfl)(i:swappedStores [a] e X.env=pure h9:=by rfl)
 (j:(assignEach [a] X.env).map (·.2)=[assign a X.env]:=by rfl):PS X (.Assign [a] e pos) (TY te g):=by
 intro c s d H D I h;refine wpAny_Assign_stores (bM (he c s d H _ I h) λv k b=>?_) hs i;let(x,m,o,p,r):=b;rw [j];exact bM (f c k d m x v _ o p r) λZ t q=>q
theorem tO{i:Nat}{te:TE}{a:Pos}(hN:X.N.Nodup)(c:X.N[i]?=hI x)(d:Loc X.env.scope x)(he:PE X e te)(hs:swapsWith e (hI (.Name x a)) pos.line X.env=pure ig:=by rfl)(hf:X.fn x=ie\/X.env.scope.names.lookup x=hI .local:=by first|exact .inl rfl|exact .inr rfl|assumption):
 PS X (.Assign [.Name x a] e pos) (TY te (oG i)):=by
 intro f s g H D I h;refine wpAny_Assign_Name (bM (he f s g H _ I h) λv q b=>?_) hs;let(y,j,k,m,o):=b;exact iM k hN c d m (λr p=>{_,j,p,o}) hf
abbrev Yg(i j:Nat)(b:TA):TS:=λD a H=>b a H λc d=>∃v w,c=[v,w]/\D.nx ((a.set i (hI v)).set j (hI w)) d
theorem FI{i:Nat}{y:Str}{a b:i2}{t:TA}{g k pt:Pos}{kt k2 m}(F:X.calm=ie)(hN:X.N.Nodup)(G:X.N[i]?=hI x)(K:X.N[j]?=hI y)(L:i≠j)
 (u:X.env.scope.names.lookup x=hI .local) (z:X.env.scope.names.lookup y=hI .local) (ha:PA X [a,b] t)
 (hw:swappedStores [.Tuple [.Name x g,.Name y k] kt pt] (.Tuple [a,b] k2 m) X.env=pure (hI [x,y]))
 (hs:swapsWithSole [.Tuple [.Name x g,.Name y k] kt pt] (.Tuple [a,b] k2 m) pos.line X.env=pure ig:=by rfl):
 PS X (.Assign [.Tuple [.Name x g,.Name y k] kt pt] (.Tuple [a,b] k2 m) pos) (Yg i j t):=by
 intro B s C H D I h;rw [exec_Assign_arm];refine ar (wpAny_standAt ?_);rw [hs];refine ar (bc ?_);rw [if_neg ↑2];refine ar (Tuple_ (bM (ha _ B s C H _ I h) λM c ⟨Z,H1,O,P,r⟩=>?_));let(v,w,Q,r):=r
 subst Q;obtain⟨d,f,rfl,rv,R⟩:∃d f,M=[d,f]/\RelV v d/\RelV w f:=by
  cases P with
  |cons p q=>
   cases q with
   |cons S T=>cases T;exact{_,_,rfl,p,S}
 refine wpAny_newObj_type ?_ (by show 2<=kB;decide);have U:Inv X B C H1 {c with heap:=c.heap.push {cls:=.type "tuple",data:=.seq [d,f].toArray}}:=O.kept (t':=c.toks) λb o e=>aT _ e;rw [hw];refine ar (bc ?_);show zx7 X (do rule "assign.swapped-stores";let items<-unpackItems (.ref (zz9 c)) 2 h9;assignInOrder [λv=>bindName X.env y v,λv=>bindName X.env x v] items.reverse;pure Flow.next) _ _ _;refine ar (wpAny_rule (ar (unpackItems_tuple (items:=#[d,f]) (I.ok.hd F) (IsTup.new c.heap _) λh' V=>?_)));have W:=U.kept (h':=h') (t':=c.toks) λb o e=>V b o (d8 (c6 e)) e;show jW _ _ (assignInOrder [λv=>bindName X.env y v,λv=>bindName X.env x v] [f,d]>>=λ_=>pure Flow.next) _ _ _;refine ar (assignInOrder_cons (wpAny_bindName (iM W hN K (.inl z) R (λs2 Y=>?_) (.inr z))));refine assignInOrder_cons (wpAny_bindName (iM Y hN G (.inl u) rv (λs3 E=>assignInOrder_nil (bc ?_)) (.inr u)));rw [List.set_comm _ _ (Ne.symm L)] at E;exact{_,H1,E,r}
structure It where
 go:Nat->Hp->Prop
 QF:Nat->Hp->V->Hp->Prop
 stop:Nat->Hp->Prop
def jr(X:Cx)(aa:lu)(H:Hp)(b:i1):Prop:=
 H b=h9/\b≠X.env.locals/\b∉X.fs/\(b∈X.ex\/X.s₀.heap.objs.size<=b)/\(∀x c,X.env.cells.lookup x=hI c->c≠b)/\∀p∈X.pn++aa,p.1≠b
def Inv.vh{f:St}{d:Hp}{s:ix}{b:i1}(I:Inv X aa f H s)(a:(zz9 s)<=b)(hn:d b=h9):jr X aa d b:=by
 refine{hn,Nat.ne_of_gt (d3 I.lt a),I.Xy a,.inr (d1 I.sz a),λx c e z=>?_,λp g z=>?_}
 .let(v,q):=I.cell x c e;exact absurd (d3 q.lt (by rw [z];exact a)) (Nat.lt_irrefl _)
 .exact absurd (d3 (c6 (I.pin p g).1) (by rw [z];exact a)) (Nat.lt_irrefl _)
structure Turn(P:jX)(w:kd)(K:zz8)(tg:i2)(J:It)(fp:List i1)(it:i1)(tn:Nat->kA->Prop):Prop where
 mem:it∈fp
 obj:∀i h,tn i h->∀b∈fp,∃o,h.get? b=hI o/\∀v,o.data≠.cell v
 keep:∀i h h',tn i h->(∀b∈fp,∀o,h.get? b=hI o->h'.get? b=hI o)->tn i h'
 item:∀(X:Cx),X.prog=P->X.w=w->X.K=K->X.calm=ie->∀(i:Nat) (aa:lu) (s:ix) (σ:St) (H:Hp) (E:lr),Inv X aa σ H s->(∀b∈fp,jr X aa H b)->tn i s.heap->J.go i H->
  jW (kr P w) X.A (pyNext (.ref it)) (λr s1=>∃u,r=hI u/\
   jW (kr P w) X.A (letOwnedTupleGo tg (.ref it) u) (λ_ s2=>∃x H',Inv X aa σ H' s2/\RelV x u/\J.QF i H x H'/\tn (i+1) s2.heap/\∀b∈fp,H' b=h9) E s1) E s
 done:∀(X:Cx),X.prog=P->X.w=w->X.K=K->X.calm=ie->∀(i:Nat) (aa:lu) (s:ix) (σ:St) (H:Hp) (E:lr),Inv X aa σ H s->(∀b∈fp,jr X aa H b)->tn i s.heap->J.stop i H->
  jW (kr P w) X.A (pyNext (.ref it)) (λr s1=>r=h9/\Inv X aa σ H s1) E s
 self:∀(A:ku) (i:Nat) (s:ix) (Q:lr) (E:lr),tn i s.heap->Q (.ref it) s->jW (kr P w) A (pyIter (.ref it)) Q E s
noncomputable abbrev TI:=St->Hp->(It->Hp->Prop)->Prop
def Vz(X:Cx)(aa:lu)(d:St)(e:i2)(R:It->Hp->Prop)(f:iv)(c:ix):Prop:=
 ∃(it:i1) (fp:List i1) (tn:Nat->kA->Prop) (J:It) (a:Hp),f=.ref it/\Inv X aa d a c/\Turn X.prog X.w X.K e J fp it tn/\tn 0 c.heap/\(∀b∈fp,jr X aa a b)/\R J a
def PI(X:Cx)(c iter:i2)(d:TI):Prop:=
 ∀(b:lu) (s:ix) (a:St) (H:Hp) (R:It->Hp->Prop),Inv X b a H s->d a H R->
  zx7 X (eval iter X.env) (λv e=>zx7 X (pyIter v) (Vz X b a c R) X.xe e) X.xe s
def vm{M:Model}{E:lr}{s:ix}{b:i2}{it:i1}{n:String}{vs:Array iv}{Q:Unit->ix->Prop}(c:s.heap.get? it=hI o)(d:o.cls=.type n)(hd:o.data=.fields vs)
 (hn:["enumerate","zip","dict_itemiterator","dict_reverseitemiterator","odict_iterator","itertools.zip_longest","itertools.pairwise"].contains n=ig) (a:Q () s):jW M A (letOwnedTupleGo b (.ref it) u) Q E s:=by
 unfold letOwnedTupleGo;cases b<;>first
  |exact bc a
  |(cases u<;>first
   |exact bc a
   | (refine ar (wpAny_load c ?_)
      rw [d,hd];show jW M A (if(["enumerate","zip","dict_itemiterator","dict_reverseitemiterator","odict_iterator","itertools.zip_longest","itertools.pairwise"].contains n&&vs[0]?==hI (rawInt _))=ie then _ else _) Q E s;rw [if_neg (by intro h;rw [hn,Bool.false_and] at h;cases h)];exact bc a))
abbrev Vx(K:zz8)(a:i1):It:=
 {λi H=>∃xs x,il K H a xs/\xs[i]?=hI x,λi H x b=>b=H/\∀xs,il K H a xs->xs[i]?=hI x,λi H=>∃xs,il K H a xs/\xs.length<=i}
abbrev Vy(K:zz8)(a:i1):It:=
 {λi H=>∃xs x,f9 K H a xs/\xs[i]?=hI x,λi H x b=>b=H/\∀xs,f9 K H a xs->xs[i]?=hI x,λi H=>∃xs,f9 K H a xs/\xs.length<=i}
abbrev Uy(a:Int)(n:Nat):It:={λi Z=>i<n,λi H x b=>b=H/\x=.int (a+i),λi Z=>n<=i}
def B3{P:jX}{w:kd}{K:zz8}{N:i2}(a it:i1):Turn P w K N (Vx K a) [it] it (λi h=>h.IsListIter it a i) where
 mem:=by simp
 obj:=λi h st b f=>by have e:b=it:=zx6 f;subst e;let(o,e,c,d):=st;exact{o,e,λv z=>by rw [d] at z;cases z}
 keep:=λi h g st k=>st.at λo e=>k it (by simp) o e
 item:=by intro X m q hK F i G s L H E I hf st r;subst m q hK;let(xs,x,j,t):=r;let(O,rv,p,Q):=I.list j;let(u,hu,R):=rv.get t;let(y,A,S,B,C,D):=hf it (by simp);refine wpAny_pyNext_list_item st p.isList (x:=u) (zx6 hu) λg M T=>?_;have U:Inv X G L H {s with heap:=g}:=I.turned (t':=s.toks) (λb o f e=>(T.2 b f).trans e) y A B C D;let(o,e,c,d):=id M;exact{u,rfl,vm (s:={s with heap:=g}) e c d ↑2 {x,H,U,R,{rfl,λY V=>by rw [I.vB V j];exact t},M,λb f=>(hf b f).1}}
 done:=by intro X m q hK F i G s L H E I hf st r;subst m q hK;let(xs,j,t):=r;let(O,rv,p,Q):=I.list j;let(y,A,S,B,C,D):=hf it (by simp);have hl:=rv.length;exact wpAny_pyNext_list_end (I.ok.hd F) st p.isList (by simp;lia) λg W=>{rfl,I.turned (t':=s.toks) (λb o f e=>W b o f e) y A B C D}
 self:=λZ Z Z Z Z st h=>wpAny_pyIter_listiter st h
def yv{P:jX}{w:kd}{K:zz8}{O:i2}(a it:i1):Turn P w K O (Vy K a) [it] it (λi h=>h.IsTupleIter it a i) where
 mem:=by simp
 obj:=λi h st b f=>by have e:b=it:=zx6 f;subst e;let(o,e,c,d):=st;exact{o,e,λv z=>by rw [d] at z;cases z}
 keep:=λi h g st k=>st.at λo e=>k it (by simp) o e
 item:=by intro X m q hK G i L s M H E I hf st r;subst m q hK;let(xs,x,j,t):=r;let(y,rv,p,Q):=I.tuple j;let(u,hu,R):=rv.get t;let(A,B,S,C,D,F):=hf it (by simp);refine wpAny_pyNext_tuple_item st (show s.heap.IsTuple a y.toArray from p) (x:=u) (zx6 hu) λg N T=>?_;have U:Inv X L M H {s with heap:=g}:=I.turned (t':=s.toks) (λb o f e=>(T.2 b f).trans e) A B C D F;let(o,e,c,d):=id N;exact{u,rfl,vm (s:={s with heap:=g}) e c d ↑2 {x,H,U,R,{rfl,λY V=>by rw [I.rL V j];exact t},N,λb f=>(hf b f).1}}
 done:=by intro X m q hK G i L s M H E I hf st r;subst m q hK;let(xs,j,t):=r;let(y,rv,p,Q):=I.tuple j;let(A,B,S,C,D,F):=hf it (by simp);have hl:=rv.length;exact wpAny_pyNext_tuple_end (I.ok.hd G) st (show s.heap.IsTuple a y.toArray from p) (by simp;lia) λg W=>{rfl,I.turned (t':=s.toks) (λb o f e=>W b o f e) A B C D F}
 self:=λZ Z Z Z Z st h=>wpAny_pyIter_tupleiter st h
def yu{P:jX}{w:kd}{K:zz8}{F:i2}(it:i1)(c:Int)(n:Nat):Turn P w K F (Uy c n) [it] it (λi h=>IsRangeIter h it (c+(i:Nat)*1) ((n:Int)-(i:Nat)) 1) where
 mem:=by simp
 obj:=λi h st b a=>by have e:b=it:=zx6 a;subst e;exact{_,st,λv z=>by have G:Data.fields _=Data.cell v:=z;cases G}
 keep:=λi h d st k=>k it (by simp) _ st
 item:=by intro X f g hK j i A s B H E I hf st m;subst f g hK;let(p,q,L,r,u,y):=hf it (by simp);have W:=Walks.range (prog:=X.prog) (w:=X.w) (I.ok.hd j) it c 1 n;refine W.item i s _ _ m st λv d C M D N=>?_;let(t,rfl):=M;have O:Inv X A B H {s with heap:=d,toks:=C}:=I.turned (λb o a e=>N b o (zx6 a) e) p q r u y;refine{_,rfl,vm (s:={s with heap:=d,toks:=C}) (n:="range_iterator") D rfl rfl ↑2 {.int (c+i),H,O,{t,?_},⟨rfl,rfl⟩,D,λb a=>(hf b a).1}};rw [Int.mul_one]
 done:=by intro X f g hK j i A s B H E I hf st m;subst f g hK;let(p,q,L,r,u,y):=hf it (by simp);exact wpAny_pyNext_range_end (I.ok.hd j) st (by have:n<=i:=m;lia) λd Q=>{rfl,I.turned (t':=s.toks) (λb o a e=>Q b o a e) p q r u y}
 self:=λZ Z Z Z Z st h=>wpAny_pyIter_rangeiter st h
section
variable{tg:i2}
abbrev Lj(K:zz8)(c:TE):TI:=λd H R=>c d H λx b=>∃a,x=.ref a/\(∃xs,il K b a xs)/\R (Vx K a) b
abbrev W5(K:zz8)(c:TE):TI:=λd H R=>c d H λx b=>∃a,x=.ref a/\(∃xs,f9 K b a xs)/\R (Vy K a) b
def tH{l:i2}{g:TE}(hl:PE X l g):PI X tg l (Lj X.K g):=by intro i s j H R I h;refine bM (hl i s j H _ I h) λv c f=>?_;let(x,k,d,m,r):=f;let(a,e,(xs,t),q):=r;subst e;cases m;let(w,rv,p,y):=d.list t;refine wpAny_pyIter_list p.isList ?_;refine{(zz9 c),[(zz9 c)],_,_,k,rfl,d.kept (t':=c.toks) λb o e=>aT _ e,B3 a _,{_,d4 _ rfl,rfl,rfl},λb u=>?_,q};have e:b=(zz9 c):=zx6 u;subst e;exact d.vh (a7 _) (d.aM.fresh (a7 _))
def O5{l:i2}{g:TE}(hl:PE X l g):PI X tg l (W5 X.K g):=by intro i s j H R I h;refine bM (hl i s j H _ I h) λv c f=>?_;let(x,k,d,m,r):=f;let(a,e,(xs,t),q):=r;subst e;cases m;let(u,rv,p,y):=d.tuple t;refine wpAny_pyIter_tuple (show c.heap.IsTuple a u.toArray from p) ?_;refine{(zz9 c),[(zz9 c)],_,_,k,rfl,d.kept (t':=c.toks) λb o e=>aT _ e,yv a _,{_,d4 _ rfl,rfl,rfl},λb w=>?_,q};have e:b=(zz9 c):=zx6 w;subst e;exact d.vh (a7 _) (d.aM.fresh (a7 _))
def FQ{d:St}{s:ix}{R:It->Hp->Prop}{E:lr}{a c:Int}{t u v:Tok}{tk:Nat}(I:Inv X aa d H s)(g: -(2^62)<=a)(h:a<2^62)(i: -(2^62)<=c)(j:c<2^62)
 (q:R (Uy a (c-a).toNat) H):zx7 X (pyIter (.ref (zz9 s))) (Vz X aa d tg R) E {s with heap:=s.heap.push {cls:=.type "range",data:=.fields #[.int a t,.int c u,.int 1 v]},toks:=tk}:=by
 refine wpAny_pyIter_range (IsRange.new ..) (small_one g h i j) ?_;have f:Inv X aa d H {s with heap:=s.heap.push {cls:=.type "range",data:=.fields #[.int a t,.int c u,.int 1 v]},toks:=tk}:=I.kept λb o e=>aT _ e
 refine{(s.heap.push {cls:=.type "range",data:=.fields #[.int a t,.int c u,.int 1 v]}).objs.size,[(s.heap.push {cls:=.type "range",data:=.fields #[.int a t,.int c u,.int 1 v]}).objs.size],_,_,H,rfl,
  f.kept (t':=tk) λb o e=>aT _ e,yu _ a (c-a).toNat,?_,λb k=>?_,q}
 .have m:a+((0:Nat):Int)*1=a:=by simp
  have p:(((c-a).toNat:Nat):Int)-((0:Nat):Int)=lb.Range.rangeSize a c 1:=by rw [rangeSize_one];split<;>lia
  show IsRangeIter _ _ (a+((0:Nat):Int)*1) ((((c-a).toNat:Nat):Int)-((0:Nat):Int)) 1;rw [m,p];exact d4 _ rfl
 .have e:b=(s.heap.push {cls:=.type "range",data:=.fields #[.int a t,.int c u,.int 1 v]}).objs.size:=zx6 k;subst e;exact f.vh (a7 _) (f.aM.fresh (a7 _))
abbrev Su(a:TA):TI:=λb H R=>a b H λc d=>∃j:Int,c=[.int j]/\ -(2^62)<=j/\j<2^62/\R (Uy 0 j.toNat) d
theorem BK{a:i2}{d:TA}{p:Pos}(f:Gl X "range")(hm:X.mg "range"=h9)(ha:PA X [a] d)(hs:starEach [a] X.env=[(ig,eval a X.env)]:=by rfl):PI X tg (.Call (.Name "range" p) [a] [] pos) (Su d):=by
 intro g s i H R I h;refine Call_ (j1 I f hm boot_range (PyProof.Rows.callWith_type1 (bM (ha pos g s i H _ I h) λw y b=>?_) hs rfl));let(z,A,k,m,c):=b;let(j,e,c,o,q):=c
 subst e;cases m with
 |cons r u=>cases u;let(t,rfl):=r;exact call_range_1 (FQ k (by lia) (by lia) c o (zx6 q))
abbrev X8(f:TI)(g:TG)(tb:TS):TS:=λD a H=>f a H λJ h=>∃W:Nat->Nat->St->Hp->Prop,(∃m,W 0 m a h)/\∀i m a H,W i m a H->
 (J.stop i H/\D.nx a H)\/(J.go i H/\∃N:St->Hp->Prop,(∀b c,N b c->∃e,e<m/\W (i+1) e b c)/\∀x c,J.QF i H x c->g x a c λd j=>tb {D with nx:=N,ct:=N,bk:=D.nx} d j)
abbrev tJ(fp:List i1)(h:kA):lu:=fp.filterMap λb=>(h.get? b).map λo=>(b,o)
def dO{fp:List i1}{b:i1}(a:b∈fp)(e:h.get? b=hI o):(b,o)∈tJ fp h:=f6.mpr {b,a,by rw [e];rfl}
def BD{fp:List i1}{p:i1×Obj}(a:p∈tJ fp h):p.1∈fp/\h.get? p.1=hI p.2:=by
 let(b,c,e):=f6.mp a
 cases q:h.get? b with
 |none=>rw [q] at e;cases e
 |some o=>rw [q] at e;have d:(b,o)=p:=zzq e;subst d;exact⟨c,q⟩
theorem Inv.pinned{a:St}{s:ix}{fp:List i1}(I:Inv X aa a H s)(hf:∀b∈fp,jr X aa H b)(g:∀b∈fp,∃o,s.heap.get? b=hI o/\∀v,o.data≠.cell v):Inv X (aa++tJ fp s.heap) a H s:=
 I.nF λp h=>(List.mem_append.mp h).elim (λz=>I.pin p (dV _ z)) λz=>by let(c,e):=BD z;let(i,j,k,_):=hf p.1 c;let(o,f,d):=g p.1 c;rw [e] at f;cases f;exact⟨e,i,j,k,d⟩
def Inv.lG{b:lu}{a:St}{s:ix}(I:Inv X (aa++b) a H s):Inv X aa a H s:=I.nF λp c=>I.pin p (dV _ (ed _ c))
def FH{iter:i2}{body:List k6}{S:TI}{g:TG}{tb:TS}(F:PassesOwn (kr X.prog X.w) X.A X.env X.xe)(U:X.calm=ie)(hi:PI X tg iter S)(hg:PG X tg g)(c:qE X body tb)
 (hs:∀x,foldedSetIterable iter X.env x=pure x:=by intro _;rfl):PS X (.For tg iter body [] pos) (X8 S g tb):=by
 intro B s V H D I h;refine wpAny_For (bM (hi B s V H _ I h) λv s1 h1=>bM h1 λVb s2 h2=>?_) hs;let(it,fp,tn,J,H2,e,I2,T,Hk,Y,W,(m0,w0),turn):=h2;subst e;have O:∀{y:Hp},(∀b∈fp,y b=h9)->∀b∈fp,jr X B y b:=λhn b c=>{hn b c,(Y b c).2};refine codeAny_forLoop_any (λn Z=>∃i j y,Inv X B j y Z/\tn i Z.heap/\(∀b∈fp,y b=h9)/\W i n j y) ?_ m0 {0,V,H2,I2,Hk,λb c=>(Y b c).1,w0}
 rintro n s3 ⟨i,k,M,I3,G,K,w3⟩
 rcases turn i n k M w3 with⟨stop,qn⟩|⟨go,N,hN,step⟩
 .refine wpAny_passesOwn F (bM (T.done X rfl rfl rfl U i B s3 k M X.xe I3 (O K) G stop) λr s4 ⟨hr,I4⟩=>?_);subst hr;exact wpAny_execs_nil ⟨k,M,I4,qn⟩
 .refine wpAny_passesOwn F (bM (T.item X rfl rfl rfl U i B s3 k M X.xe I3 (O K) G go) λr s4 ⟨u,hr,h4⟩=>?_);subst hr;refine wpAny_passesOwn F (bM h4 λ_ s5 C=>?_);let(x,H5,I5,r5,y5,E,P):=C;have Vu:=I5.pinned (O P) (T.obj _ _ E);refine wpAny_passesOwn F (bM (hg _ s5 k H5 x u _ Vu r5 (step x H5 y5)) λ_ s6 C=>?_);let(Q,H6,I6,q6):=C;refine wpAny_passesOwn F (bM (c _ s6 Q H6 _ I6 q6) λf R z=>?_);have p:∀{a:St} {q:Hp},Inv X (B++tJ fp s5.heap) a q R->N a q->∃m,m<n/\∃i j y,Inv X B j y R/\tn i R.heap/\(∀b∈fp,y b=h9)/\W i m j y:=λ{a q} t L=>by let(m',hm,w7):=hN a q L;refine{m',hm,i+1,a,q,t.lG,T.keep _ _ _ E λb c o e=>(t.pin (b,o) (dV _ (dV _ (dO c e)))).1,λb c=>?_,w7};let(o,e,d):=T.obj _ _ E b c;exact(t.pin (b,o) (dV _ (dV _ (dO c e)))).2.1
  cases f with
  |next=>let(a,q,t,L):=z;exact p t L|cont=>let(a,q,t,L):=z;exact p t L|brk=>let(a,q,t,z):=z;exact⟨a,q,t.lG,z⟩|ret v=>let(x7,a,q,t,r7,z):=z;exact⟨x7,a,q,t.lG,r7,z⟩
end
noncomputable abbrev R2:=V->V->Hp->VK->Prop
def gB(X:Cx)(f:iv->iv->Sem iv)(r:R2):Prop:=
 ∀(a:lu) (s:ix) (b:St) (H:Hp) (x y:V) (v u:iv) (Q:VK),Inv X a b H s->RelV x v->RelV y u->r x y H Q->
  zx7 X (f v u) (EP X a b Q) X.xe s
def UE(X:Cx)(f:iv->Sem iv)(r:V->Hp->VK->Prop):Prop:=
 ∀(a:lu) (s:ix) (b:St) (H:Hp) (x:V) (v:iv) (Q:VK),Inv X a b H s->RelV x v->r x H Q->
  zx7 X (f v) (EP X a b Q) X.xe s
def cG(X:Cx)(f:iv)(r:List V->Hp->VK->Prop):Prop:=
 ∀(a:lu) (s:ix) (b:St) (H:Hp) (xs:List V) (c:List iv) (Q:VK),Inv X a b H s->Vals xs c->r xs H Q->
  zx7 X (call f c) (EP X a b Q) X.xe s
abbrev QD(r:R2)(b tb:TE):TE:=λa H Q=>b a H λx c=>tb a c λy d=>r x y d Q
abbrev tUn(r:V->Hp->VK->Prop)(a:TE):TE:=λb H Q=>a b H λx c=>r x c Q
abbrev rI(C:Int->Int->Prop)(g:Int->Int->V):R2:=λx y H Q=>∃i j,x=.int i/\y=.int j/\C i j/\Q (g i j) H
abbrev Lz(g:Int->Int->V):R2:=λx y H Q=>∃i j,x=.int i/\y=.int j/\Q (g i j) H
def rU(g:Int->V):V->Hp->VK->Prop:=λx H Q=>∃i,x=.int i/\Q (g i) H
section
variable{a b:i2}{ta tb:TE}
def Ma(ha:PE X a ta)(k:PE X b tb){s:ix}{d:St}{R:V->V->Hp->Prop}(I:Inv X aa d H s)
 (h:ta d H λx H1=>tb d H1 λy e=>R x y e) {Q:lr} {f:iv->iv->Sem iv}
 (hf:∀v u j x y e,Inv X aa d e j->RelV x v->RelV y u->R x y e->zx7 X (f v u) Q X.xe j):
 zx7 X (eval a X.env) (λv g=>zx7 X (eval b X.env) (λu i=>zx7 X (f v u) Q X.xe i) X.xe g) X.xe s:=by
 refine bM (ha aa s d H _ I h) λv m c=>?_;let(x,H1,o,p,q):=c;refine bM (k aa m d H1 _ o q) λu j c=>?_;let(y,e,r,t,z):=c;exact hf v u j x y e r p t z
def Tr{c:Operator}{r:R2}(d:gB X (binaryOp c) r)(ha:PE X a ta)(e:PE X b tb):PE X (.BinOp a c b pos) (QD r ta tb):=by intro f s g H Q I h;exact wpAny_BinOp (Ma ha e I h λv u i x y j k m o q=>d f i g j x y v u Q k m o q)
def Tt{c:UnaryOp}{r:V->Hp->VK->Prop}(f:UE X (unaryOp c) r)(ha:PE X a ta):PE X (.UnaryOp c a pos) (tUn r ta):=by intro d s e H Q I h;exact UnaryOp_ (bM (ha d s e H _ I h) λv g ⟨x,H1,i,j,k⟩=>f d g e H1 x v Q i j k)
def XD{f:iv->iv->Sem iv}{C:Int->Int->Prop}{g:Int->Int->Int}
 (rule:∀(i j:Int) (t u:Tok) (s:ix) (Q:lr) (E:lr),C i j->Q (.int (g i j) s.toks) {s with toks:=s.toks+1}->zx7 X (f (.int i t) (.int j u)) Q E s):
 gB X f (rI C λi j=>.int (g i j)):=by
 intro m s o H x y v u Q I c d h;let(i,j,rfl,rfl,e,q):=h;let(t,rfl):=c;let(k,rfl):=d;exact rule i j t k s _ _ e {.int (g i j),H,I.tok _,{_,rfl},q}
def Te{f:iv->iv->Sem iv}{g:Int->Int->Int}
 (rule:∀(i j:Int) (t u:Tok) (s:ix) (Q:lr) (E:lr),Q (.int (g i j) s.toks) {s with toks:=s.toks+1}->zx7 X (f (.int i t) (.int j u)) Q E s):
 gB X f (Lz λi j=>.int (g i j)):=by
 intro k s m H x y v u Q I c d h;let(i,j,rfl,rfl,q):=h;let(t,rfl):=c;let(e,rfl):=d;exact rule i j t e s _ _ {.int (g i j),H,I.tok _,{_,rfl},q}
def Jz{f:iv->iv->Sem iv}{g:Int->Int->Bool}
 (rule:∀(i j:Int) (t u:Tok) (s:ix) (Q:lr) (E:lr),Q (.bool (g i j)) s->zx7 X (f (.int i t) (.int j u)) Q E s):
 gB X f (Lz λi j=>.bl (g i j)):=by
 intro k s m H x y v u Q I c d h;let(i,j,rfl,rfl,q):=h;let(t,rfl):=c;let(e,rfl):=d;exact rule i j t e s _ _ {.bl (g i j),H,I,rfl,q}
def Vq(i j:Int):Prop:=0<j/\j<1073741824
def LS(i j:Int):Prop:=(-(2^64)<i/\i<2^64)\/(-(2^64)<j/\j<2^64)
def LS.ok{i j:Int}(h:LS i j):IntMulOk i j:=by
 rcases h with⟨c,d⟩|⟨c,d⟩
 .exact .of_left (intBits_le_64 c d)
 .exact .of_right (intBits_le_64 c d)
def OA:gB X (binaryOp .Add) (Lz λi j=>.int (i+j)):=Te λZ Z Z Z Z Z Z q=>add_int q
def OP:gB X (binaryOp .Sub) (Lz λi j=>.int (i-j)):=Te λZ Z Z Z Z Z Z q=>sub_int q
def OM:gB X (binaryOp .Mult) (rI LS λi j=>.int (i*j)):=XD λZ Z Z Z Z Z Z c q=>mul_int q c.ok
theorem JD:gB X (binaryOp .FloorDiv) (rI Vq λi j=>.int (i/j)):=XD λi j Z Z Z Z Z c q=>by have d:(0:Int)<j:=c.1;have e:j<1073741824:=c.2;exact floordiv_int (by lia) (by rw [Int.fdiv_eq_ediv_of_nonneg i (by lia)];exact q) (.inl (PyProof.noPylong_small (by lia)))
theorem OL:gB X (binaryOp .Mod) (rI (λZ j=>0<j) λi j=>.int (i%j)):=XD λi j Z Z Z Z Z c q=>by have d:(0:Int)<j:=c;exact mod_int' (by lia) (by rw [Int.fmod_eq_emod_of_nonneg i (by lia)];exact q)
def unI{f:iv->Sem iv}{g:Int->Int}
 (rule:∀(i:Int) (t:Tok) (s:ix) (Q:lr) (E:lr),Q (.int (g i) s.toks) {s with toks:=s.toks+1}->zx7 X (f (.int i t)) Q E s):
 UE X f (rU λi=>.int (g i)):=by
 intro d s e H x v Q I c h;let(i,rfl,q):=h;let(t,rfl):=c;exact rule i t s _ _ {.int (g i),H,I.tok _,{_,rfl},q}
def P9:UE X (unaryOp .USub) (rU λi=>.int (-i)):=unI λZ Z Z Z Z q=>neg_int q
variable{c:i2}{tc:TE}
def Du{d:St}{s:ix}{k f:Bool}(I:Inv X aa d H s)(q:Q (.bl k) H)(e:k=f):EP X aa d Q (.bool f) s:=by subst e;exact{.bl k,H,I,rfl,q}
def Tj:gB X (compareOp .Lt) (Lz λi j=>.bl (decide (i<j))):=Jz λZ Z Z Z Z Z Z q=>lt_int q
def Ti:gB X (compareOp .LtE) (Lz λi j=>.bl (decide (i<=j))):=Jz λZ Z Z Z Z Z Z q=>le_int q
def Th:gB X (compareOp .Gt) (Lz λi j=>.bl (decide (j<i))):=Jz λZ Z Z Z Z Z Z q=>gt_int q
def Tf:gB X (compareOp .GtE) (Lz λi j=>.bl (decide (j<=i))):=Jz λZ Z Z Z Z Z Z q=>ge_int q
def BF:gB X (compareOp .In) (λx y H Q=>∃i j,x=.str i/\y=.str j/\Q (.bl (!(lb.Str.occurrences j i 0 j.length 1).isEmpty)) H):=by intro f s g H x y v u Q I d e h;let(i,j,rfl,rfl,q):=h;let(t,rfl):=d;let(k,rfl):=e;exact in_str (Du I q rfl)
def OG:gB X (compareOp .Is) (λx y H Q=>y=.aR/\Q (.bl (decide (x=.aR))) H):=by
 intro f s g H x y v u Q I d e h;let(rfl,q):=h
 cases e;refine is_none_gen (Du I q ?_);cases x<;>first
  |(cases d;rfl)
  |(let(t,rfl):=d;rfl)
def Xz(b:i2){d:CmpOp}(h:d≠.In:=by decide)(e:d≠.NotIn:=by decide):behindInMarks d b=ig:=by
 have f:(d==CmpOp.In)=ig:=by cases d<;>first|rfl|exact absurd rfl h
 have g:(d==CmpOp.NotIn)=ig:=by cases d<;>first|rfl|exact absurd rfl e
 cases b<;>simp [behindInMarks,f,g]
def zP{d:CmpOp}{r:R2}(e:gB X (compareOp d) r)(ha:PE X a ta)(f:PE X b tb)(hm:behindInMarks d b=ig):PE X (.Compare a [d] [b] pos) (QD r ta tb):=by intro g s i H Q I h;exact wpAny_Compare1 (Ma ha f I h λv u j x y k m o p q=>e g j i k x y v u Q m o p q) hm
abbrev Gm(t:TE):TT:=λd H Q=>t d H λx e=>∃k,x=.bl k/\Q k e
def zT{d:CmpOp}{r:R2}(i:gB X (compareOp d) r)(ha:PE X a ta)(j:PE X b tb)(hm:behindInMarks d b=ig):PT X (.Compare a [d] [b] pos) (Gm (QD r ta tb)):=by intro f s g H Q I h;refine wpAny_isTrue_Compare1 (bM (ha f s g H _ I h) λv m ⟨x,H1,o,p,q⟩=>bM (j f m g H1 _ o q) λu t ⟨y,w,A,B,C⟩=>bM (i f t g w x y v u _ A p B C) λc K ⟨z,D,E,F,k,e,G⟩=>?_) hm;subst e;cases F;exact wpAny_truthy_bool ⟨D,E,G⟩
abbrev yo(r f:R2)(ta tb tc:TE):TE:=λd H Q=>ta d H λx g=>tb d g λy h=>r x y h λz e=>∃k,z=.bl k/\
 (if k=ie then tc d e λi j=>f y i j Q else Q (.bl ig) e)
def Fe{i j:CmpOp}{r m:R2}(w:gB X (compareOp i) r)(A:gB X (compareOp j) m)(ha:PE X a ta)(B:PE X b tb)(C:PE X c tc)
 (hm:lastMarks [i,j] [b,c]=ig:=by with_unfolding_all rfl):PE X (.Compare a [i,j] [b,c] pos) (yo r m ta tb tc):=by
 intro f s g H Q I h;refine Compare_chain (bM (ha f s g H _ I h) λv D ⟨x,H1,E,F,G⟩=>chain_link (bM (B f D g H1 _ E G) λu K ⟨y,L,M,o,N⟩=>bM (w f K g L x y v u _ M F o N) λd O ⟨z,p,q,P,k,e,t⟩=>?_)) hm
 subst e;cases P;refine wpAny_truthy_bool ?_;cases k with
 |false=>exact ite_ff {.bl ig,p,q,rfl,t}|true=>exact ite_tt (chain_last (bM (C f O g p _ q t) λR S ⟨T,U,V,W,Y⟩=>A f S g U y T u R Q V o W Y))
def FK{i j:CmpOp}{r o:R2}(A:gB X (compareOp i) r)(B:gB X (compareOp j) o)(ha:PE X a ta)(C:PE X b tb)(D:PE X c tc)
 (hm:lastMarks [i,j] [b,c]=ig:=by with_unfolding_all rfl):PT X (.Compare a [i,j] [b,c] pos) (Gm (yo r o ta tb tc)):=by
 intro f s g H Q I h;refine isTrue_chain (bM (ha f s g H _ I h) λv E ⟨x,H1,F,G,K⟩=>test_link (bM (C f E g H1 _ F K) λu L ⟨y,M,N,p,O⟩=>bM (A f L g M x y v u _ N G p O) λd P ⟨z,q,t,R,k,e,w⟩=>?_)) hm
 subst e;cases R;refine wpAny_truthy_bool ?_;cases k with
 |false=>let(k',S,T):=w;cases S;exact ite_ff ⟨q,t,T⟩
 |true=>refine ite_tt (test_last (bM (D f P g q _ t w) λU V ⟨W,Y,Z,r4,q4⟩=>bM (B f V g Y y W u U _ Z p r4 q4) λd' s5 m=>?_));let(z2,H5,I5,r5,k2,e2,q5):=m;subst e2;cases r5;exact wpAny_truthy_bool ⟨H5,I5,q5⟩
def oR:(kB:Nat)<2^63:=by rw [sizeLine_eq];decide
def xV:gB X (binaryOp .Add) (λx y H Q=>∃i j,x=.str i/\y=.str j/\i.length+j.length<=kB/\Q (.str (i++j)) H):=by intro k s m H x y v u Q I d e h;let(i,j,rfl,rfl,f,q):=h;let(t,rfl):=d;let(g,rfl):=e;exact add_str (λg o=>{.str (i++j),H,I.tok _,{_,rfl},q}) f
def vals1{x:V}(r:Vals [x] us):∃u,us=[u]/\RelV x u:=by
 cases r with
 |cons d e=>cases e;exact{_,rfl,d}
def vals2{x y:V}(r:Vals [x,y] us):∃u d,us=[u,d]/\RelV x u/\RelV y d:=by
 cases r with
 |cons e f=>
  cases f with
  |cons g h=>cases h;exact{_,_,rfl,e,g}
def Aw:cG X (.type "int") (λxs H Q=>(∃i,xs=[.int i]/\Q (.int i) H)\/∃k,xs=[.bl k]/\Q (.int (if k then 1 else 0)) H):=by
 intro e s f H xs g Q I r h;rcases h with⟨i,rfl,q⟩|⟨k,rfl,q⟩
 .let(u,rfl,t,rfl):=vals1 r;exact call_int_int {.int i,H,I,{_,rfl},q}
 .let(u,rfl,d):=vals1 r;cases d;exact call_int_bool {.int (if k then 1 else 0),H,I.tok _,{_,rfl},q}
def r6:cG X (.type "str") (λxs H Q=>∃i,xs=[.int i]/\i.natAbs.log2<1920/\Q (.str (toString i)) H):=by intro e s f H xs g Q I r h;let(i,rfl,d,q):=h;let(u,rfl,t,rfl):=vals1 r;exact PySem.P.str_of_int d {.str _,H,I.tok _,{_,rfl},q}
end
structure wK(h:kA)(x dx C:i1)(mA:Str->Option iv):Prop where
 obj:h.get? x=hI (PySem.W.instObj C dx)
 ns:h.Ns1 dx mA
 ne:dx≠x
def Bp{dx:i1}{c:Str->Option iv}(n:h.Ns1 dx c):∃d,h.get? dx=hI d/\∀name,PySem.W.lookIn name d=hI (c name):=by
 let(o,f,k,g,hd,hk,_,hm):=n;refine{o,g,λname=>?_};have e:=hm name;unfold nsFind findBy at e;rw [<-Array.find?_toList] at e;unfold PySem.W.lookIn;rw [hd];dsimp only;split
 .rename_i y q;rw [q] at e;exact congrArg hI e
 .rename_i q;rw [q] at e;have a:f.toList.any (·.refKey)=ig:=by
   rw [List.any_eq_false];intro y i;let(z,t,b):=hk y (Array.mem_toList_iff.mp i);simp [DictEntry.refKey,b]
  have j:¬f.toList.any (·.refKey)=ie:=by rw [a];exact zzf
  rw [if_neg j];exact congrArg hI e
theorem wK.look{x dx C:i1}{b:Str->Option iv}(I:wK h x dx C b):∃a,PySem.W.InstAt h x (PySem.W.instObj C dx) C (hI a)/\∀name,PySem.W.lookIn name a=hI (b name):=
 let⟨a,c,hl⟩:=Bp I.ns
 {a,⟨I.obj,rfl,rfl,c⟩,hl}
section
variable{w:kd}{E:lr}{s:ix}{K:zz8}{x dx C f:i1}{mA:Str->Option iv}{name:Str}{v:iv}
def get_map{expr:Bool}{Q:lr}(X:K.In s.heap)(I:wK s.heap x dx C mA)(b:PySem.W.plainGet K C name=ie)(c:PySem.W.hasDictIn K C=ie)
 (ha:PySem.W.findIn K (.ref C) name=hI h9) (d:mA name=hI v) (a:PySem.W.handedIn v=ie) (h:Q v {s with toks:=s.toks+1}):
 jW (kr prog w) A (getAttr (.ref x) name expr) Q E s:=by
 let(e,J,hl):=I.look;exact PySem.W.get_value X J (PySem.W.plainGet_of b).1 (PySem.W.findObj_own c ha rfl (by rw [hl,d])) a h
def DL{b:Sem Bool}{Q:iv×List iv->ix->Prop}(X:K.In s.heap)(I:wK s.heap x dx C mA)(a:PySem.W.plainGet K C name=ie)
 (hf:PySem.W.findIn K (.ref C) name=hI (hI (.ref f))) (c:PySem.W.isFn K (.ref f)=ie) (d:mA name=h9) (h:Q (.ref f,[.ref x]) s):
 jW (kr prog w) A (getMethod (.ref x) name b) Q E s:=by
 let(e,J,hl):=I.look;exact PySem.W.method_fn X J (PySem.W.plainGet_of a).1 (PySem.W.plainGet_of a).2 hf (zzy.mp c) (by show(PySem.W.lookIn name e).map (·.isSome)=hI ig;rw [hl,d];rfl) h
def J8{ns:List Str}{Q:Unit->ix->Prop}(X:K.In s.heap)(I:wK s.heap x dx C mA)
 (hs:PySem.W.findIn K (.ref C) "__setattr__"=hI (hI (.builtin "object.__setattr__"))) (j:PySem.W.plainOver K C=ie) (k:PySem.W.takerIn K C name=hI h9) (m:PySem.W.hasDictIn K C=ie)
 (hw:PySem.Within mA ns) (hsz:ns.length<=kB)
 (h:∀h',wK h' x dx C (λy=>if y=name then hI v else mA y)->kA.SameBut dx s.heap h'->Q () {s with heap:=h',toks:=s.toks+2}):
 jW (kr prog w) A (setAttr (.ref x) name v) Q E s:=by
 let(z,J,hl):=I.look;refine PySem.W.set_plain X J hs (PySem.W.osa_open (s:={s with toks:=s.toks+1}) (r:=h9) X J j k λb=>?_);let(cd,o,p):=PySem.W.any_some m;have q:s.heap.get? x=hI {.ref C,hI dx,.plain,#[]}:=I.obj;refine ar (bc (ar (ar (wpAny_loadPart q (ar (PySem.W.Looks.here (s:={s with toks:=s.toks+1}) (PySem.W.looks_clsIn X o) ?_))))));rw [p];refine bc (a:=hI dx) (ar (bc (ar ?_)));refine wpAny_nsSet1 (s:={s with toks:=s.toks+1}) I.ns λh' g i=>?_;let(B,t,u,c,d,e):=g.count (PySem.Within.cons name v hw);refine ar (wpAny_lookBehind c (by rw [d];exact pastItsLine_dict (d1 e (by rw [c4];lia))) ?_);exact bc (h _ {(i.2 _ (Ne.symm I.ne)).trans I.obj,g,I.ne} i)
def EJ{R:Result->ix->Prop}{vs:List iv}{a:List (Str×iv)}(X:K.In s.heap)(hm:PySem.W.makesIn K C=ie)
 (b:PySem.W.findIn K (.ref C) (zu 6)=hI (hI (.ref f))) (hf:PySem.W.typeIn K (.ref f)=hI (.type "function"))
 (h:codeAny (kr prog w) (A.under (.builtin "type.__call__" {.ref C::vs,a})) (.call (.ref f) {.ref ((zz9 s)+1)::vs,a}) (PySem.W.InitBack ((zz9 s)+1) R)
  {s with heap:=(s.heap.push PySem.W.emptyDict).push (PySem.W.instObj C (zz9 s))}):
 codeAny (kr prog w) A (.call (.ref C) ⟨vs,a⟩) R s:=by
 let(c,g,d,t,os):=s;exact PySem.W.make_core (PySem.W.makes_of X hm) (PySem.W.looks_findIn X b) (λself=>PySem.W.bind_fn X self hf) (.inl rfl) h
end
abbrev gW(f:Str)(v:V):List (Str×V)->List (Str×V)
 |[]=>[(f,v)]|(g,x)::r=>if g=f then(g,v)::r else(g,x)::gW f v r
theorem mI(f g:Str)(v:V):∀fs:List (Str×V),(gW f v fs).lookup g=if g=f then hI v else fs.lookup g
 |[]=>by
  show List.lookup g [(f,v)]=_;by_cases h:g=f
  .have a:(g==f)=ie:=zzy.mpr h;simp! [List.lookup,a,if_pos h]
  .have a:(g==f)=ig:=beq_eq_false_iff_ne.mpr h;simp! [List.lookup,a,if_neg h]
 | (k,x)::r=>by
  have b:=mI f g v r;rw [show gW f v ((k,x)::r)=(if k=f then(k,v)::r else(k,x)::gW f v r) from rfl];by_cases hk:k=f
  .rw [if_pos hk];by_cases h:g=k
   .have a:(g==k)=ie:=zzy.mpr h;simp! [List.lookup,a,if_pos (h.trans hk)]
   .have a:(g==k)=ig:=beq_eq_false_iff_ne.mpr h;simp! [List.lookup,a,if_neg (λe:g=f=>h (e.trans hk.symm))]
  .rw [if_neg hk];by_cases h:g=k
   .have a:(g==k)=ie:=zzy.mpr h;simp! [List.lookup,a,if_neg (λe:g=f=>hk (h.symm.trans e))]
   .have a:(g==k)=ig:=beq_eq_false_iff_ne.mpr h;simp! [List.lookup,a];exact b
theorem l7(f:Str)(v:V):∀fs:List (Str×V),f∈(gW f v fs).map (·.1)/\∀g,g∈fs.map (·.1)->g∈(gW f v fs).map (·.1)
 |[]=>{by simp [gW],λg h=>by simp at h}
 | (k,x)::r=>by
  let(a,b):=l7 f v r;rw [show gW f v ((k,x)::r)=(if k=f then(k,v)::r else(k,x)::gW f v r) from rfl];by_cases hk:k=f
  .rw [if_pos hk];subst hk;exact{by simp,λg h=>zx6 h}
  .rw [if_neg hk];refine{?_,λg h=>?_}
   .rw [a8];exact cz _ a
   .rw [a8] at h⊢;rcases er.mp h with e|e
    .exact er.mpr (.inl e)
    .exact cz _ (b g e)
theorem mG(f:Str)(v:V):∀fs:List (Str×V),(gW f v fs).length<=fs.length+1
 |[]=>by simp [gW]|(k,x)::r=>by
  have a:=mG f v r;rw [show gW f v ((k,x)::r)=(if k=f then(k,v)::r else(k,x)::gW f v r) from rfl];by_cases hk:k=f
  .rw [if_pos hk,c4,c4];lia
  .rw [if_neg hk,c4,c4];lia
def hW.some_of{o:Option iv}(r:hW (hI v) o):∃u,o=hI u/\RelV v u:=by
 cases o with
 |none=>exact(show False from r).elim|some u=>exact⟨u,rfl,r⟩
def hW.none_of{o:Option iv}(r:hW h9 o):o=h9:=by
 cases o with
 |none=>rfl|some u=>exact(show False from r).elim
def A9(r:RelV v u):PySem.W.handedIn u=ie:=by
 cases v with
 |aR=>cases(show u=iv.none from r);rfl
 |bl b=>cases(show u=iv.bool b from r);rfl
 |int i=>let(t,e):=(show∃t,u=iv.int i t from r);cases e;rfl
 |str x=>let(t,e):=(show∃t,u=iv.str x t from r);cases e;rfl
 |UL b=>let(t,e):=(show∃t,u=iv.bytes b t from r);cases e;rfl
 |UR b=>let(t,e):=(show∃t,u=iv.float b t from r);cases e;rfl
 |ref a=>cases(show u=iv.ref a from r);rfl
 |ty n=>cases(show u=iv.type n from r);rfl
section
variable{P:jX}{w:kd}{C dx:i1}{fs:List (Str×V)}
def sO(aM:fw P w H h)(e:H a=hI (.ins C dx fs)):∃b,wK h a dx C b/\(∀f,hW (fs.lookup f) (b f))/\PySem.Within b (fs.map (·.1))/\fs.length<=1000/\H dx=hI (.own a):=by let(d,z,ne,ob,b,n,r,q):=(show bX P w H h a (.ins C dx fs) from aM a _ e);exact{b,⟨ob,n,ne⟩,r,q,z,d}
end
structure wC(K:zz8)(C:i1):Prop where
 pg:PySem.W.plainGet K C Str.empty=ie
 hd:PySem.W.hasDictIn K C=ie
 po:PySem.W.plainOver K C=ie
 sa:PySem.W.findIn K (.ref C) "__setattr__"=hI (hI (.builtin "object.__setattr__"))
def wC.get{K:zz8}{C:i1}(c:wC K C)(f:Str):PySem.W.plainGet K C f=ie:=c.pg
def cI(K:zz8)(C:i1)(f:Str):Prop:=PySem.W.findIn K (.ref C) f=hI h9
def cI.Ug{K:zz8}{C:i1}(n:cI K C f):PySem.W.takerIn K C f=hI h9:=by unfold PySem.W.takerIn;rw [show PySem.W.findIn K (.ref C) f=hI h9 from n];rfl
structure Meth(K:zz8)(C:i1)(m:Str)(f:i1):Prop where
 at_:PySem.W.findIn K (.ref C) m=hI (hI (.ref f))
 fn:PySem.W.isFn K (.ref f)=ie
 kp:PySem.W.keepIn K (.ref f)=ie
section
variable{s:ix}{C dx:i1}{fs:List (Str×V)}{E:lr}
def xn{b:Bool}{Q:lr}(I:zv1 s)(e:H a=hI (.ins C dx fs))(c:wC X.K C)(n:cI X.K C f)(l:fs.lookup f=hI v)
 (h:∀u s',Inv X aa σ H s'->RelV v u->Q u s'):jW (kr X.prog X.w) A (getAttr (.ref a) f b) Q E s:=by
 let(g,O,r,_,_,_):=sO I.aM e;let(u,hu,d):=hW.some_of (v:=v) (o:=g f) (by rw [<-l];exact r f);exact get_map I.jZ O (c.get f) c.hd n hu (A9 d) (h u _ (I.tok _) d)
def xo{g:i1}{b:Sem Bool}{Q:iv×List iv->ix->Prop}(I:zv1 s)(e:H a=hI (.ins C dx fs))(c:wC X.K C)(k:Meth X.K C m g)(l:fs.lookup m=h9)
 (h:Q (.ref g,[.ref a]) s):jW (kr X.prog X.w) A (getMethod (.ref a) m b) Q E s:=by
 let(d,O,r,_,_,_):=sO I.aM e;have i:d m=h9:=hW.none_of (by rw [<-l];exact r m);exact DL I.jZ O (c.get m) k.at_ k.fn i h
def yd{y:V}{Q:Unit->ix->Prop}(I:zv1 s)(e:H a=hI (.ins C dx fs))(c:wC X.K C)(n:cI X.K C f)(hl:fs.length<1000)(m:RelV y u)
 (h:∀s',Inv X aa σ (upd H a (.ins C dx (gW f y fs))) s'->Q () s'):jW (kr X.prog X.w) A (setAttr (.ref a) f u) Q E s:=by
 let(i,O,r,j,_,k):=sO I.aM e;have p:(fs.map (·.1)).length<=sizeLine:=by rw [zzl,sizeLine_eq];lia
 refine J8 I.jZ O c.sa c.po n.Ug c.hd j p λt d B=>h _ ?_;have hd:∃o,t.get? dx=hI o:=let⟨o,_,_,D,_⟩:=d.ns;⟨o,D⟩;refine I.write (x:=a) (e:=dx) (by rw [e];exact True.intro) (.inr k) (λb q F z=>(B.2 b F).trans z) hd ?_;refine{by rw [ag O.ne];exact k,?_,O.ne,d.obj,_,d.ns,λg=>?_,λg G=>?_}
 .have:=mG f y fs;lia
 .show hW ((gW f y fs).lookup g) (if g=f then hI u else i g);rw [mI];by_cases q:g=f
  .rw [if_pos q,if_pos q];exact m
  .rw [if_neg q,if_neg q];exact r g
 .by_cases q:g=f
  .rw [q];exact(l7 f y fs).1
  .refine(l7 f y fs).2 g (j g λz=>G ?_);show(if g=f then hI u else i g)=h9;rw [if_neg q];exact z
def Inv.made(I:zv1 s):Inv X aa σ (upd (upd H (zz9 s) (.own ((zz9 s)+1))) ((zz9 s)+1) (.ins C (zz9 s) []))
 {s with heap:=(s.heap.push PySem.W.emptyDict).push (PySem.W.instObj C (zz9 s))}:=by
 have c:(s.heap.push PySem.W.emptyDict).get? (zz9 s)=hI PySem.W.emptyDict:=d4 s.heap rfl
 have d:((s.heap.push PySem.W.emptyDict).push (PySem.W.instObj C (zz9 s))).get? ((zz9 s)+1)=hI (PySem.W.instObj C (zz9 s)):=by
  have:=d4 (s.heap.push PySem.W.emptyDict) (o:=PySem.W.instObj C (zz9 s)) rfl
  rwa [kA.size_push] at this
 have g:(s.heap.push PySem.W.emptyDict).Ns (zz9 s) (λZ=>h9):={PySem.W.emptyDict,#[],_,c,rfl,(λe h=>absurd h (by simp)),λZ=>rfl};have i:=I.laid (a:=(zz9 s)) (o:=.own ((zz9 s)+1)) (h':=s.heap.push PySem.W.emptyDict) (t':=s.toks) (λb u q=>aT _ q) (a7 _) {_,c};refine i.laid (a:=(zz9 s)+1) (o:=.ins C (zz9 s) []) (t':=s.toks) (λb u q=>aT _ q) (Nat.le_of_eq (kA.size_push _ _)) ?_;have ne:(zz9 s)≠(zz9 s)+1:=d8 (Nat.lt_succ_self _);refine{by rw [ag ne,aq],Nat.zero_le _,ne,d,λZ=>h9,(kA.Ns1.of_empty g).at λo q=>aT _ q,λZ=>True.intro,λy j=>absurd rfl j}
def Hx{w:kd}{env:Env}{s:ix}{Q:lr}(c:attributeBase e f env (eval e env)=eval e env)
 (h:jW (kr prog w) A (eval e env) (λo b=>jW (kr prog w) A (getAttr o f ie) Q E b) E s):jW (kr prog w) A (eval (.Attribute e f pos) env) Q E s:=
 Attribute_any_ h (by rw [arm_eval_Attribute,c])
end
abbrev X7(K:zz8)(c:TE)(f:Str):TE:=λd H Q=>c d H λx b=>∃a C dx fs v,x=.ref a/\b a=hI (.ins C dx fs)/\wC K C/\cI K C f/\fs.lookup f=hI v/\Q v b
abbrev XW(K:zz8)(d e:TE)(f:Str):TS:=λD b H=>e b H λy g=>d b g λx c=>∃a C dx fs,x=.ref a/\c a=hI (.ins C dx fs)/\wC K C/\cI K C f/\fs.length<1000/\
 D.nx b (upd c a (.ins C dx (gW f y fs)))
section
variable{o value:i2}{pos':Pos}{ta tv:TE}
def OW(he:PE X e ta)(d:attributeBase e f X.env (eval e X.env)=eval e X.env):PE X (.Attribute e f pos) (X7 X.K ta f):=by intro g s i H Q I h;refine Hx d (bM (he g s i H _ I h) λu w b=>?_);let(x,j,k,m,a,C,dx,fs,v,ex,p,c,n,l,q):=b;subst ex;obtain rfl:u=iv.ref a:=m;exact xn k p c n l λy z r t=>⟨v,j,r,t,q⟩
def O6(ha:PE X o ta)(i:PE X value tv)(hs:swapsWith value (hI (.Attribute o f pos')) pos.line X.env=pure ig):PS X (.Assign [.Attribute o f pos'] value pos) (XW X.K ta tv f):=by intro g s b H D I h;refine plainObj_wpAny_Assign_Attribute (bM (i g s b H _ I h) λu j ⟨y,H1,k,m,q⟩=>bM (ha g j b H1 _ k q) λp B d=>?_) hs;let(x,E,r,t,a,C,dx,fs,ex,w,c,n,l,z):=d;subst ex;obtain rfl:p=iv.ref a:=t;exact yd r w c n l m λF A=>{b,_,A,z}
end
structure dm(k:Nat)(A:ku):Prop where
 hd:3<=k->A.handled=h9
 dp:A.depth+3*k+5<recursionLimit
 un:A.units+16*k+200<cLine
theorem dm.mono{k:Nat}(r:dm k A)(h:j<=k):dm j A:={λz=>r.hd (by lia),by have:=r.dp;lia,by have:=r.un;lia}
theorem dm.deeper{k:Nat}(r:dm (k+1) A)(env:Env):dm k (A.deeper env):=
 {λz=>r.hd (by lia),by have:=r.dp;show A.depth+1+3*k+5<_;lia,by have:=r.un;show A.units+3+16*k+200<_;lia}
def xI{C:i1}{a:List (Str×iv)}:(A.under (.builtin "type.__call__" {.ref C::us,a})).depth=A.depth+1:=by
 first|rfl|simp [ku.under,Code.weight,Code.isCreation,Code.isGuard,Code.isCaller,Code.frames,Code.isFrame,guardIds]
def xJ{C:i1}{a:List (Str×iv)}:(A.under (.builtin "type.__call__" {.ref C::us,a})).units=A.units+1:=by
 first|rfl|simp [ku.under,Code.cUnits,Code.frames,Code.isFrame]
theorem dm.make{k:Nat}(r:dm (k+1) A)(C:i1)(us:List iv)(a:List (Str×iv)):dm k (A.under (.builtin "type.__call__" {.ref C::us,a})):=
 {λz=>r.hd (by lia),by have:=r.dp;rw [xI];lia,by have:=r.un;rw [xJ];lia}
def dm.depth{k:Nat}(r:dm k A):A.depth<recursionLimit:=by have:=r.dp;lia
def dm.units{k:Nat}(r:dm k A):A.units+64<cLine:=by have:=r.un;lia
abbrev PZ:TA:=λZ H Q=>Q [] H
abbrev Gj(b:TE)(c:TA):TA:=λa H Q=>b a H λx d=>c a d λxs e=>Q (x::xs) e
section
variable{es:List i2}{te:TE}{t:TA}
def cC:PA X [] PZ:=λZ Z Z Z H Q I h=>Calls.spliced_nil {[],H,I,.nil,h}
theorem bx(ha:PE X e te)(hr:PA X es t)(hs:starEach (e::es) X.env=(ig,eval e X.env)::starEach es X.env:=by rfl):PA X (e::es) (Gj te t):=by intro pos b s c H Q I h;rw [hs];show jW _ _ (spliced ((ig,eval e X.env)::backTo pos (starEach es X.env))) _ _ s;refine Calls.spliced_cons (bM (ha b s c H _ I h) λu d a=>?_);let(x,f,g,i,j):=a;exact bM (hr pos b d c f _ g j) λq r ⟨xs,k,m,o,p⟩=>{x::xs,k,m,.cons i o,p}
abbrev P5(t:TA):TE:=λb H Q=>t b H λxs a=>xs.length<=kB/\∀p,a p=h9->Q (.ref p) (upd a p (.tup xs))
abbrev Yb(t:TA):TE:=λb H Q=>t b H λxs a=>xs.length<=kB/\∀p,a p=h9->Q (.ref p) (upd a p (.lst xs))
def xZ{x1}(h:PA X es t):PE X (.Tuple es x1 pos) (P5 t):=by intro d s f H Q I g;refine wpAny_Tuple_spliced (bM (h pos d s f H _ I g) λi a ⟨xs,H1,c,r,z,q⟩=>{by rw [<-r.length];exact z,?_});have hf:H1 (zz9 a)=h9:=c.aM.fresh (a7 _);refine{.ref (zz9 a),upd H1 (zz9 a) (.tup xs),c.laid (t':=a.toks) (λb u e=>aT _ e) (a7 _) ?_,rfl,q _ hf};exact{z,i,r,{_,d4 _ rfl,rfl,_,rfl}}
def Fj(h:PA X es t):PE X (.List es pos) (Yb t):=by intro d s f H Q I g;refine wpAny_List_spliced (bM (h pos d s f H _ I g) λi a ⟨xs,H1,c,r,z,q⟩=>{by rw [<-r.length];exact z,?_});have hf:H1 (zz9 a)=h9:=c.aM.fresh (a7 _);refine{.ref (zz9 a),upd H1 (zz9 a) (.lst xs),c.laid (t':=a.toks) (λb u e=>aT _ e) (a7 _) ?_,rfl,q _ hf};exact{z,i,0,r,d4 _ rfl}
end
noncomputable abbrev Sp:=List V->Hp->VK->XK->Prop
noncomputable abbrev Al:=List Env->Hp->ix->XK->iv->ix->Prop
structure jo(P:jX)(w:kd)(K:zz8)(mg:Str->Option iv)(base:kA)(A:ku)(outer:List Env)(s:ix)(H:Hp):Prop where
 frames:A.frames=hI outer
 mod:Mod K mg base
 bs:∀b o,base.get? b=hI o->s.heap.get? b=hI o/\H b=h9
 wY:base.objs.size<=(zz9 s)
 hZ:s.heap.FunFrames base outer
 xm:∀b∈fz outer,H b=h9
 aM:fw P w H s.heap
 bare:AllBare s.gens
def CE(outer:List Env)(P:jX)(w:kd)(H:Hp)(s:ix)(Q:VK)(u:iv)(s':ix):Prop:=
 ∃v a,s'.os=s.os/\AllBare s'.gens/\Un (fz outer) [] H a s.heap s'.heap/\fw P w a s'.heap/\RelV v u/\Q v a
def CR(CX:Al)(outer:List Env)(P:jX)(w:kd)(H:Hp)(s:ix)(Q:VK)(E:XK)(r:Result)(s':ix):Prop:=
 match r with
 |.ok (.ret u)=>CE outer P w H s Q u s'|.ok _=>False|.error e=>CX outer H s E e s'
structure fy(P:jX)(w:kd)(K:zz8)(mg:Str->Option iv)(base:kA)(CX:Al)(k:Nat)(f:i1)(fd:FuncData)(ps:List Str)(sp:Sp):Prop where
 len:∀vs H Q E,sp vs H Q E->vs.length=ps.length
 run:∀(A:ku) (outer:List Env) (s:ix) (H:Hp) (args:Args) (us:List iv) (vs:List V) (Q:VK) (E:XK),dm k A->jo P w K mg base A outer s H->BindsTo s fd args (ps.zip us)->Vals vs us->sp vs H Q E->
  codeAny (kr P w) A (.call (.ref f) args) (CR CX outer P w H s Q E) s
def fy.mono{P:jX}{w:kd}{K:zz8}{CX:Al}{k:Nat}{f:i1}{fd:FuncData}{ps:List Str}{sp:Sp}(F:fy P w K mg base CX j f fd ps sp)(h:j<=k):
 fy P w K mg base CX k f fd ps sp:={F.len,λA outer s H args a b Q E hr=>F.run A outer s H args a b Q E (hr.mono h)}
def fy.imp{P:jX}{w:kd}{K:zz8}{CX:Al}{k:Nat}{f:i1}{fd:FuncData}{ps:List Str}{sp a:Sp}(F:fy P w K mg base CX k f fd ps sp)
 (h:∀vs H Q E,a vs H Q E->sp vs H Q E):fy P w K mg base CX k f fd ps a:=
 {λvs H Q E q=>F.len vs H Q E (h _ _ _ _ q),λA outer s H args b vs Q E hr c d e hs=>F.run A outer s H args b vs Q E hr c d e (h _ _ _ _ hs)}
def jo.make{P:jX}{w:kd}{K:zz8}{s:ix}(e:jo P w K mg base A outer s H)(C:i1)(us:List iv)(a:List (Str×iv)):
 jo P w K mg base (A.under (.builtin "type.__call__" {.ref C::us,a})) outer s H:={by first|exact e.frames|(simpa [ku.under,Code.envs,Code.isFrame,pushEnvs] using e.frames),e.mod,e.bs,e.wY,e.hZ,e.xm,e.aM,e.bare}
section
variable{s s':ix}
def Inv.vd(I:zv1 s):jo X.prog X.w X.K X.mg X.base X.A X.stack s H:=
 {I.ok.frames,I.ok.mod,I.bs,d1 I.ok.wY I.sz,I.stack,I.nK,I.aM,I.bare}
def Inv.after(I:zv1 s)(h:CE X.stack X.prog X.w H s Q u s'):EP X aa σ Q u s':=by let(v,c,os,bare,un,aM,r,q):=h;let(e,g,d,t,a):=s';obtain rfl:a=s.os:=os;exact{v,c,I.call (h':=e) (g':=g) (d':=d) (t':=t) (ch:=[]) un aM bare (λb z=>absurd z (by simp)),r,q}
end
def Binds(K:zz8)(fd:FuncData)(ps:List Str)(b:List iv):Prop:=
 ∀(s:ix) (a:List iv),K.In s.heap->(a++b).length=ps.length->BindsTo s fd {a,[]} (ps.zip (a++b))
def Binds.all{K:zz8}{fd:FuncData}{ps:List Str}(h:∀us:List iv,us.length=ps.length->bindArgs fd {us,[]}=pure (ps.zip us)):Binds K fd ps []:=λs us Z hl=>by rw [hF] at hl⊢;exact .of_eq (h us hl)
def Passes(CX:Al)(X:Cx)(E:XK):Prop:=∀(b:lu) (c:St) (H:Hp) (s:ix) (e:iv) (a:ix),Inv X b c H s->CX X.stack H s E e a->X.xe e a
section
variable{CX:Al}{k:Nat}{f C:i1}{fd:FuncData}{ps:List Str}{sp:Sp}{dvs:List V}{ds:List iv}{E:XK}
structure Mk(K:zz8)(C f:i1):Prop where
 makes:PySem.W.makesIn K C=ie
 init:PySem.W.findIn K (.ref C) (zu 6)=hI (hI (.ref f))
 fn:PySem.W.isFn K (.ref f)=ie
 kp:PySem.W.keepIn K (.ref C)=ie
def FU{c:St}{s:ix}(M:Mk X.K C f)(F:fy X.prog X.w X.K X.mg X.base CX k f fd ps sp)(hr:dm (k+1) X.A)(i:Binds X.K fd ps ds)(hd:Vals dvs ds)
 (j:Passes CX X E) (I:Inv X aa c H s) (r:Vals vs us)
 (h:∀x dx,H x=h9->H dx=h9->dx≠x->sp (.ref x::(vs++dvs)) (upd (upd H dx (.own x)) x (.ins C dx [])) (λv m=>v=.aR/\Q (.ref x) m) E):
 zx7 X (call (.ref C) us) (EP X aa c Q) X.xe s:=by
 have d:=h ((zz9 s)+1) (zz9 s) (I.aM.fresh (Nat.le_succ _)) (I.aM.fresh (a7 _)) (d8 (Nat.lt_succ_self _));have b:=Inv.made (C:=C) I;have g:Vals (V.ref ((zz9 s)+1)::(vs++dvs)) (iv.ref ((zz9 s)+1)::(us++ds)):=.cons rfl (r.append hd);have hl:(iv.ref ((zz9 s)+1)::us++ds).length=ps.length:=by have e:=g.length;rw [F.len _ _ _ _ d] at e;exact e.symm
 refine wpAny_call (EJ (f:=f) I.jZ M.makes M.init (zzy.mp M.fn) (codeAny_mono (F.run _ X.stack _ _ {iv.ref ((zz9 s)+1)::us,[]} (iv.ref ((zz9 s)+1)::(us++ds)) _ _ E (hr.make C us [])
  (b.vd.make C us []) (i _ (iv.ref ((zz9 s)+1)::us) b.jZ hl) g d) λr o a=>?_))
 cases r with
 |error e=>exact j aa c _ _ e o b a|ok fl=>
  cases fl with
  |ret u=>let(v,p,q,rv,t,y):=b.after a;subst t;exact{rv,{V.ref ((zz9 s)+1),p,q,rfl,y}}|next=>exact el a|brk=>exact el a|cont=>exact el a
end
structure iO(N P:List Str)(sc:kv):Prop where
 kind:sc.kind=.function
 co:sc.isCoroutine=ig
 gen:sc.isGenerator=ig
 nd:N.Nodup
 pre:N.take P.length=P
 par:∀x∈P,sc.names.lookup x=hI .local\/sc.names.lookup x=hI .cell
 Ot:∀y∈sc.names,y.2≠.free
theorem qM{a:Str->Option NameKind}:∀{binds:List (Str×iv)} {m:Str->Option iv},(∀v,(x,v)∉binds)->bindL a binds m x=m x
 |[],_,_=>rfl|(n,v)::r,m,h=>by
  unfold bindL;rw [qM λw b=>h w (cz _ b)];split
  .have:x≠n:=by rintro rfl;exact h v c8
   simp [this]
  .rfl
theorem qK{a:Str->Option NameKind}:∀{binds:List (Str×iv)} {m:Str->Option iv},(∀v,(x,v)∉binds)->bindC a binds m x=m x
 |[],_,_=>rfl|(n,v)::r,m,h=>by
  unfold bindC;rw [qK λw b=>h w (cz _ b)];split
  .rfl
  .have:x≠n:=by rintro rfl;exact h v c8
   simp [this]
theorem qL{a:Str->Option NameKind}{v:iv}:∀{P:List Str} {vs:List iv} {i:Nat} {m:Str->Option iv},P.Nodup->P[i]?=hI x->vs[i]?=hI v->a x=hI .local->
 bindL a (P.zip vs) m x=hI v
 |[],_,_,_,_,h,_,_=>by simp at h|_::_,[],_,_,_,_,h,_=>by simp at h|p::P,w::vs,0,m,nd,b,c,hk=>by simp at b c;subst b;subst c;show bindL a ((p,w)::P.zip vs) m p=_;unfold bindL;rw [qM λv d=>(List.nodup_cons.mp nd).1 (List.of_mem_zip d).1,if_pos hk];simp|p::P,w::vs,i+1,m,nd,b,c,hk=>by show bindL a ((p,w)::P.zip vs) m x=_;unfold bindL;exact qL (i:=i) (List.nodup_cons.mp nd).2 (zx6 b) (zx6 c) hk
theorem qJ{a:Str->Option NameKind}{v:iv}:∀{P:List Str} {vs:List iv} {i:Nat} {m:Str->Option iv},P.Nodup->P[i]?=hI x->vs[i]?=hI v->a x≠hI .local->
 bindC a (P.zip vs) m x=hI v
 |[],_,_,_,_,h,_,_=>by simp at h|_::_,[],_,_,_,_,h,_=>by simp at h|p::P,w::vs,0,m,nd,b,c,hk=>by simp at b c;subst b;subst c;show bindC a ((p,w)::P.zip vs) m p=_;unfold bindC;rw [qK λv d=>(List.nodup_cons.mp nd).1 (List.of_mem_zip d).1,if_neg hk];simp|p::P,w::vs,i+1,m,nd,b,c,hk=>by show bindC a ((p,w)::P.zip vs) m x=_;unfold bindC;exact qJ (i:=i) (List.nodup_cons.mp nd).2 (zx6 b) (zx6 c) hk
abbrev start(N:List Str)(vs:List V):St:=vs.map hI++ll (N.length-vs.length) h9
noncomputable def dC(CX:Al)(P:jX)(w:kd)(K:zz8)(mg:Str->Option iv)(base:kA)(N:List Str)(qual:Str)(a:kv)(f:i1)(cd:iv)(A:ku)(outer:List Env)(s:ix)(H:Hp)(E:XK):Cx where
 prog:=P
 w:=w
 K:=K
 mg:=mg
 base:=base
 A:=A.deeper (envOfC qual a (zz9 s) f cd)
 N:=N
 s₀:=s
 H₀:=H
 env:=envOfC qual a (zz9 s) f cd
 outer:=outer
 stack:=envOfC qual a (zz9 s) f cd::outer
 ex:=[]
 calm:=A.handled.isNone
 fn:=λZ=>ie
 pn:=[]
 xe:=λe c=>jW (kr P w) (A.deeper (envOfC qual a (zz9 s) f cd)) (leaving (envOfC qual a (zz9 s) f cd) e) (λZ b=>CX outer H s E e b) (λd b=>CX outer H s E d b) c
def uU{sc:kv}{n:Nat}(h:sc.names.lookup x=hI .cell):∃c,(lg n sc.names []).lookup x=hI c:=by have q:=PySem.W.cellsFrom_some sc.names n [] (.inl h);exact ew.mp q
def Bg{CX:Al}{P:jX}{w:kd}{K:zz8}{ps:List Str}{d:kv}{f:i1}{cd:iv}{s D:ix}{E:XK}
 (S:iO N ps d) (j:jo P w K mg base A outer s H) (hl:vs.length=ps.length) (r:Vals vs us)
 (x:InCallC s (zz9 s) (bindL (envOfC qual d (zz9 s) f cd).kindOf (ps.zip us) λZ=>h9) (lg ((zz9 s)+1) d.names []) (bindC (envOfC qual d (zz9 s) f cd).kindOf (ps.zip us) λZ=>h9) D):
 Inv (dC CX P w K mg base N qual d f cd A outer s H E) [] (start N vs) H D:=by
 have G:ps.length<=N.length:=by have:=congrArg List.length S.pre;rw [List.length_take] at this;lia
 let(t,I,rfl,hk):=x.done;have C:∀b:i1,b∉(dC CX P w K mg base N qual d f cd A outer s H E).ex:=λb z=>absurd (show b∈([]:List i1) from z) (by simp)
 refine{{j.mod,S.kind,rfl,rfl,a7 _,λy z c t g=>?_,λy m=>?_,λy c Z h=>?_,λz=>Option.isNone_iff_eq_none.mp z,ku.frames_deeper j.frames,.inr ⟨rfl,rfl⟩,λb z=>absurd z (C b),j.bs,j.wY,λb Z Z=>C b,λb z=>absurd z (C b),j.hZ,j.xm},
  rfl,j.bare,Un.kept hk,{_,x.toInCall.ns,λi y v t g L=>?_},λy c h=>{_,x.cell y c h},j.aM.fresh (a7 _),λy c h=>?_,λp o=>absurd (show p∈([]:lu) from o) (by simp),j.aM.kept hk,?_}
 .exact name_of_addr x.apart (PySem.mem_of_lookup t) (PySem.mem_of_lookup g)
 .have m:d.names.lookup y=hI .cell\/d.names.lookup y=hI .free:=m
  rcases m with m|m
  .exact uU m
  .exact absurd rfl (S.Ot _ (PySem.mem_of_lookup m))
 .exact Nat.le_of_lt (x.above y c (PySem.mem_of_lookup h))
 .have B:i<vs.length:=by
   unfold start at g;by_cases B:i<vs.length
   .exact B
   .rw [ez (zx6 B)] at g;rw [List.getElem?_replicate] at g;split at g<;>cases g
  have ha:vs[i]?=hI v:=by
   unfold start at g;rw [ey (zx6 B),dk] at g;cases e:vs[i]? with
   |none=>rw [e] at g;cases g
   |some a=>rw [e] at g;cases g;rfl
  let(u,hu,rv):=r.get ha;have o:ps[i]?=hI y:=by rw [<-S.pre,List.getElem?_take_of_lt (by lia)];exact t
  have F:ps.Nodup:=by rw [<-S.pre];exact S.nd.sublist (List.take_sublist _ _)
  refine{u,rv,?_};rcases S.par y (a6 o) with k|k
  .exact .inl {k,qL F o hu k}
  .let(c,e):=uU (n:=(zz9 s)+1) k;refine .inr {.inl k,c,e,?_};have q:=x.cell y c e;rw [qJ F o hu (by show d.names.lookup y≠_;rw [k];decide)] at q;exact q
 .exact j.aM.fresh (Nat.le_of_lt (x.above y c (PySem.mem_of_lookup h)))
 .unfold start;show _=N.length;rw [c5,zzl,List.length_replicate];lia
def Dz{CX:Al}{P:jX}{w:kd}{K:zz8}{k:Nat}{f:i1}{name:Str}{c:Arguments}{body:List k6}{a:kv}{B kV i C h ct oc:iv}{D M:Option i1}
 {O:Array (Option iv)} {ps:List Str} {sp:Sp} (R:K.lookup f=hI {oc,M,.func (PySem.W.fnOf name qual c body a B kV i C D h ct),O}) (T:PySem.W.codeIn K h qual=ie) (S:iO N ps a)
 (len:∀vs H Q E,sp vs H Q E->vs.length=ps.length)
 (U:∀(A:ku) (outer:List Env) (s:ix) (H:Hp) (vs:List V) (Q:VK) (E:XK),dm k (A.deeper (envOfC qual a (zz9 s) f h))->sp vs H Q E->
  ∃t,qE (dC CX P w K mg base N qual a f h A outer s H E) body t/\t {nx:=λ_ g=>Q .aR g,rt:=Q} (start N vs) H):
 fy P w K mg base CX (k+1) f (PySem.W.fnOf name qual c body a B kV i C D h ct) ps sp:=by
 refine{len,λA outer s H args X vs Q E hr j Y r F=>?_};have hl:=len _ _ _ _ F;have G:K.In s.heap:=j.mod.Ja.keeps λb o e=>(j.bs b o e).1;have m:s.heap.NoLimit:=j.mod.nolimit.keeps λb o e=>(j.bs b o e).1
 have Z:∀y∈ps.zip X,a.names.lookup y.1=hI .local\/(a.names.lookup y.1=hI .cell/\((lg ((zz9 s)+1) a.names []).lookup y.1).isSome=ie):=λp hy=>by
  let(n,v):=p
  rcases S.par n (List.of_mem_zip hy).1 with q|q
  .exact .inl q
  .exact .inr {q,PySem.W.cellsFrom_some _ _ _ (.inl q)}
 refine codeAny_call_function hr.depth (G _ _ R) rfl S.co S.gen rfl (PySem.W.codeRec_of G T) (Y _ _ _ _ ?_);refine wpAny_newFunctionEnv_cells S.kind Z λenv he L x=>?_;subst he;refine{m.keeps x.toInCall.keep,codeAny_func ?_};let(t,ht,hq):=U A outer s H vs Q E (hr.deeper _) F;have I:Inv (dC CX P w K mg base N qual a f h A outer s H E) [] (start N vs) H L:=Bg S j hl r x;refine wpAny_mono (ht [] L (start N vs) H _ I hq) (λfl z hs=>?_) λe z hs=>hs
 have fin:∀{d:St} {g:Hp} {v:V} {u:iv},Inv (dC CX P w K mg base N qual a f h A outer s H E) [] d g z->RelV v u->Q v g->CE outer P w H s Q u z:=
  λ{d g v u} J rv q=>⟨v,g,J.os,J.bare,J.base,J.aM,rv,q⟩
 cases fl with
 |ret u=>let(v,d,g,J,rv,q):=hs;exact fin J rv q|next=>let(d,g,J,q):=hs;exact fin (v:=V.aR) (u:=iv.none) J rfl q|brk=>let(_,_,_,q):=hs;exact el q|cont=>let(_,_,_,q):=hs;exact el q
section
variable{p:Pos}{es:List i2}{t:TA}{id T:String}{r:List V->Hp->VK->Prop}
abbrev Vl(r:List V->Hp->VK->Prop)(t:TA):TE:=λa H Q=>t a H λb c=>r b c Q
def gx(c:cG X (.builtin id) r)(d:Gl X x)(hm:X.mg x=h9)(f:bootBuiltins x=hI (.builtin id))(ha:PA X (e::es) t)(hn:x≠(zu 36):=by decide)(g:(x==(zu 19:Str))=ig:=by decide)
 (he:starEach (e::es) X.env=(ig,eval e X.env)::starEach es X.env:=by rfl) (hpl:(backTo pos (starEach es X.env)).any (·.1)=ig:=by rfl):PE X (.Call (.Name x p) (e::es) [] pos) (Vl r t):=by
 intro a s b H Q I h;refine wpAny_Call_Name_kw (j1 I d hm f ?_ hn g);exact PyProof.Rows.callWith_builtin1 (bM (ha pos a s b H _ I h) λi j ⟨k,H1,m,o,q⟩=>c a j b H1 k i Q m o q) he hpl
def dQ(c:cG X (.type T) r)(d:Gl X x)(hm:X.mg x=h9)(f:bootBuiltins x=hI (.type T))(ha:PA X (e::es) t)(hn:x≠(zu 36):=by decide)(g:(x==(zu 19:Str))=ig:=by decide)
 (he:starEach (e::es) X.env=(ig,eval e X.env)::starEach es X.env:=by rfl) (hpl:(backTo pos (starEach es X.env)).any (·.1)=ig:=by rfl):PE X (.Call (.Name x p) (e::es) [] pos) (Vl r t):=by
 intro a s b H Q I h;refine wpAny_Call_Name_kw (j1 I d hm f ?_ hn g);exact PyProof.Rows.callWith_type1 (bM (ha pos a s b H _ I h) λi j ⟨k,H1,m,o,q⟩=>c a j b H1 k i Q m o q) he hpl
end
end L2
variable{H H1 G H0:L2.Hp}{v:L2.V}{X:L2.Cx}{Q:L2.VK}{σ:L2.St}{vs:List L2.V}
namespace HT
open PyProof.Rows
abbrev lexLt:List Int->List Int->Bool
 |[],[]=>ig|[],_::_=>ie|_::_,[]=>ig|x::xs,y::ys=>if x=y then lexLt xs ys else decide (x<y)
theorem xG(x y:Int)(xs ys:List Int):lexLt (x::xs) (y::ys)=if x=y then lexLt xs ys else decide (x<y):=rfl
theorem qh:lexLt [] []=ig:=rfl
section
variable{w:kd}{E:lr}{s:ix}
def HF{t b:i1}{vs ws:List iv}{Q:lr}(q:IsTup s.heap t vs.toArray)(r:IsTup s.heap b ws.toArray)(i:vs≠[])
 (u:ws=[]->Q (.ref t) s) (y:ws≠[]->Q (.ref (zz9 s)) {s with heap:=s.heap.push {cls:=.type "tuple",data:=.seq (vs++ws).toArray}})
 (hsz:vs.length+ws.length<=kB):jW (kr prog w) A (binaryOp .Add (.ref t) (.ref b)) Q E s:=by
 let((cls,j,data,k),f,m,n,hd):=id q;let((o,a,h,c),g,qe,p,d):=id r;simp only at m hd qe d;subst m hd qe d;have e:vs.toArray++ws.toArray=(vs++ws).toArray:=by simp
 by_cases hw:ws=[]
 .exact concat_meets {_,f,rfl} {_,g,rfl} noFill_tuple_add seq_tuple_add PySem.F.slot_tuple_add PySem.F.entry_tuple_add (PySem.F.args_tuple_add_2 _ _)
   (tuple_addW1 t b vs.toArray ws.toArray n p j a k c (zx6 i) (by simp [hw])) {f,g,u hw}
 .refine concat_meets {_,f,rfl} {_,g,rfl} noFill_tuple_add seq_tuple_add PySem.F.slot_tuple_add PySem.F.entry_tuple_add (PySem.F.args_tuple_add_2 _ _)
   (tuple_addW2 t b vs.toArray ws.toArray n p j a k c (zx6 i) (zx6 hw) (by rw [a5,a5];exact hsz)) {f,g,?_}
  rw [e];exact y hw
abbrev dE(n d:Nat):Option Int->Nat
 |none=>d|some v=>if v<0 then(v+(n:Int)).toNat else min v.toNat n
theorem wa(n d:Nat):dE n d h9=d:=rfl
def z7(n d k:Nat):dE n d (hI (k:Int))=min k n:=by show(if(k:Int)<0 then((k:Int)+(n:Int)).toNat else min (k:Int).toNat n)=min k n;rw [if_neg (by lia),hB]
def Pq(n d:Nat)(hd:d<=n)(o:Option Int):dE n d o<=n:=by
 cases o with
 |none=>exact hd|some v=>
  show(if v<0 then(v+(n:Int)).toNat else min v.toNat n)<=n;by_cases a:v<0
  .rw [if_pos a];lia
  .rw [if_neg a];exact Nat.min_le_right _ _
def yP(v:Int)(n d:Nat):(if v<0 then max (v+(n:Int)) 0 else min v (n:Int))=((dE n d (hI v):Nat):Int):=by
 show(if v<0 then max (v+(n:Int)) 0 else min v (n:Int))=(((if v<0 then(v+(n:Int)).toNat else min v.toNat n):Nat):Int);by_cases a:v<0
 .simp! [if_pos a];lia
 .simp! [if_neg a];lia
def wN(a b:Option Int)(n:Nat):lb.Slice.sliceAdjust a b 1 (n:Int)=(((dE n 0 a:Nat):Int),((dE n n b:Nat):Int)):=by
 have c:¬((1:Int)<0):=by lia
 unfold lb.Slice.sliceAdjust;simp! [c,if_false];refine Prod.ext ?_ ?_
 .cases a with
  |none=>rfl|some v=>exact yP v n 0
 .cases b with
  |none=>rfl|some v=>exact yP v n n
def x5(i j:Nat):lb.Slice.slicePlaces (i:Int) (j:Int) 1=j-i:=by
 unfold lb.Slice.slicePlaces;have a:(1:Int)>0:=by lia
 simp! [a,if_true,Int.ediv_one];split<;>lia
def kb{v:iv}{o:Option Int}{Q:Option Int->ix->Prop}(p:IsPart v o)(h:Q o s):jW (kr prog w) A (lb.Slice.slicePartIndex v) Q E s:=by
 cases p with
 |none=>exact slicePart_none h|int i t=>exact slicePart_int h
def gy{g:i1}{e f:iv}{a b:Option Int}{n:Nat}{Q:Int×Int×Nat->ix->Prop}(hs:s.heap.IsSliceOf g e f .none)(i:IsPart e a)(pu:IsPart f b)
 (h:Q (((dE n 0 a:Nat):Int),1,dE n n b-dE n 0 a) s):jW (kr prog w) A (lb.Slice.sliceApplied (.ref g) (pure (n:Int))) Q E s:=by
 let(os,c,j,d):=id hs
 unfold lb.Slice.sliceApplied lb.Slice.sliceFields;refine ar (ar (wpAny_field c d (x:=e) rfl (ar (wpAny_field c d (x:=f) rfl (ar (wpAny_field c d (x:=.none) rfl (bc ?_)))))));refine ar (slicePart_none ?_);show jW _ _ (if((1:Int)==0)=ie then _ else _) _ _ s;rw [if_neg ↑2];refine ar (kb i (ar (kb pu (ar (bc ?_)))));show jW _ _ (match lb.Slice.sliceAdjust a b 1 (n:Int) with|(a,b)=>pure (a,(1:Int),lb.Slice.slicePlaces a b 1)) _ _ s;rw [wN a b n];show jW _ _ (pure (((dE n 0 a:Nat):Int),(1:Int),lb.Slice.slicePlaces ((dE n 0 a:Nat):Int) ((dE n n b:Nat):Int) 1)) _ _ s;rw [x5];exact bc h
def Fs(xs:Array iv)(i k:Nat):((List.range k).filterMap λ(m:Nat)=>xs[((i:Int)+(m:Int)*1).toNat]?).toArray=((xs.toList.drop i).take k).toArray:=by
 have e:(λ(m:Nat)=>xs[((i:Int)+(m:Int)*1).toNat]?)=λm=>xs[i+m]?:=by
  funext m
  have:((i:Int)+(m:Int)*1).toNat=i+m:=by lia
  rw [this]
 rw [e];have:=pick_run xs i k;rw [List.filterMap_map] at this;have a:((λx=>xs[x]?)∘λx=>i+x)=λm=>xs[i+m]?:=rfl;rw [a] at this;rw [this]
def kM{t e:i1}{g i:iv}{a b:Option Int}{Q:lr}(c:IsTup s.heap t items)(hs:s.heap.IsSliceOf e g i .none)(j:IsPart g a)(pu:IsPart i b)
 (hw:¬(dE items.size 0 a=0/\dE items.size items.size b=items.size))
 (h:Q (.ref (zz9 s)) {s with heap:=s.heap.push {cls:=.type "tuple",data:=.seq ((items.toList.drop (dE items.size 0 a)).take (dE items.size items.size b-dE items.size 0 a)).toArray}})
 (hsz:items.size<=kB):jW (kr prog w) A (getItem (.ref t) (.ref e)) Q E s:=by
 have d:sizeOk (.seq ((items.toList.drop (dE items.size 0 a)).take (dE items.size items.size b-dE items.size 0 a)).toArray):=by show((items.toList.drop (dE items.size 0 a)).take (dE items.size items.size b-dE items.size 0 a)).toArray.size<=kB;rw [a5,List.length_take,List.length_drop,ef];omega
 have u:dE items.size items.size b<=items.size:=Pq _ _ (a7 _) b;let(os,f,k,o):=id hs;have p:s.TypeIs (.ref e) "slice":=⟨os,f,k⟩;unfold getItem
 try with_reducible refine wpAny_holding ?_
 first|refine ar (bc ?_)|skip
 refine ar (wpAny_sequenceKey c.typeIs ↑2 ?_);refine ar (wpAny_callSpecial?_slot (name:=Str.ofString "__getitem__") c.typeIs PyProof.Rows.slot_tuple_getitem
  (wpAny_call_entry PyProof.Rows.slot_tuple_getitem c.typeIs entry_tuple_getitem ?_ (args_tuple_getitem _ _)))
 show jW _ _ (lb.Tuple.tupleItemsOf (.ref t)>>=_) _ _ s;refine ar (tupleItemsOf_ c ?_);refine ar (wpAny_typeOf p ?_);rw [if_pos ↑2];refine ar (gy hs j pu ?_);have r:¬((((dE items.size 0 a:Nat):Int)==0&&(1:Int)==1&&(dE items.size items.size b-dE items.size 0 a)==items.size)=ie):=by intro q;rw [zza,zza] at q;have y:((dE items.size 0 a:Nat):Int)=0:=eq_of_beq q.1.1;have z:dE items.size items.size b-dE items.size 0 a=items.size:=eq_of_beq q.2;exact hw {by omega,by omega}
 show jW _ _ (if(((dE items.size 0 a:Nat):Int)==0&&(1:Int)==1&&(dE items.size items.size b-dE items.size 0 a)==items.size)=ie then _ else _) _ _ s;rw [if_neg r,Fs]
 first
  |exact ar (m:=lb.Tuple.tupleExact _) (wpAny_newObj_type (bc ⟨_,rfl,bc h⟩) d)
  |exact ar (m:=lb.Tuple.tupleExact _) (wpAny_newObj_type (ar (bc (bc ⟨_,rfl,bc h⟩))) d)
  |exact ar (ar (m:=lb.Tuple.tupleExact _) (wpAny_newObj_type (bc (bc ⟨_,rfl,bc h⟩)) d))
  |exact ar (ar (m:=lb.Tuple.tupleExact _) (wpAny_newObj_type (bc ⟨_,rfl,bc h⟩) d))
end
end HT
namespace L2
open PySem.Spec PyProof.Rows
noncomputable abbrev TO:=St->Hp->(Option Int->Hp->Prop)->Prop
def PO(X:Cx)(e:Option i2)(t:TO):Prop:=
 ∀(b:lu) (s:ix) (a:St) (H:Hp) (Q:Option Int->Hp->Prop),Inv X b a H s->t a H Q->
  zx7 X (evalPart e X.env) (λu d=>∃o c,Inv X b a c d/\IsPart u o/\Q o c) X.xe s
abbrev Kr:TO:=λZ H Q=>Q h9 H
abbrev Ue(t:TE):TO:=λa H Q=>t a H λx b=>∃i,x=.int i/\Q (hI i) b
section
variable{te:TE}{lo hi:Option i2}{tl th:TO}{p2:Pos}
def JQ:PO X h9 Kr:=by intro a s b H Q I h;rw [evalPart_none];exact bc {h9,H,I,.none,h}
def JR(h:PE X e te):PO X (hI e) (Ue te):=by intro b s c H Q I d;rw [evalPart_some];refine bM (h b s c H _ I d) λu m a=>?_;let(x,f,g,j,k):=a;let(i,rfl,q):=k;let(t,rfl):=j;exact{hI i,f,g,.int i t,q}
def GV(X:Cx)(r:V->Option Int->Option Int->Hp->VK->Prop):Prop:=
 ∀(a:lu) (s:ix) (b:St) (H:Hp) (x:V) (v c d:iv) (lo hi:Option Int) (f:i1) (Q:VK),Inv X a b H s->RelV x v->s.heap.IsSliceOf f c d .none->IsPart c lo->IsPart d hi->r x lo hi H Q->
  ∃T g,typeLookup (.type T) "__getitem__"=pure (hI (.builtin g))/\s.TypeIs v T/\zx7 X (getItem v (.ref f)) (EP X a b Q) X.xe s
abbrev tSl(r:V->Option Int->Option Int->Hp->VK->Prop)(te:TE)(tl th:TO):TE:=λa H Q=>te a H λx b=>tl a b λl c=>th a c λu d=>r x l u d Q
def Fo{r:V->Option Int->Option Int->Hp->VK->Prop}(hr:GV X r)(he:PE X e te)(hl:PO X lo tl)(hu:PO X hi th):PE X (.Subscript e (.Slice lo hi h9 p2) pos) (tSl r te tl th):=by
 intro d s f H Q I h;refine Subscript_ (bM (he d s f H _ I h) λv k c=>?_);let(x,m,o,p,t):=c;refine wpAny_Slice (bM (hl d k f m _ o t) λg y ⟨l,z,B,C,D⟩=>bM (hu d y f z _ B D) λi a c=>?_);let(u,j,E,pu,F):=c
 rw [evalPart_none];refine bc ?_;have G:Inv X d f j {a with heap:=a.heap.push {cls:=.type "slice",data:=.fields #[g,i,.none]}}:=E.kept (t':=a.toks) λb ob q=>aT _ q
 let(T,N,K,L,M):=hr d {a with heap:=a.heap.push {cls:=.type "slice",data:=.fields #[g,i,.none]}} f j x v g i l u (zz9 a) Q G p (kA.IsSliceOf.new ..) C pu F
 show zx7 X (subscriptTail e (.Slice lo hi h9 p2) v (.ref (zz9 a))) (EP X d f Q) X.xe {a with heap:=a.heap.push {cls:=.type "slice",data:=.fields #[g,i,.none]}};exact tail_any (ops:=[.ref (zz9 a),v]) L K M (by with_unfolding_all rfl)
abbrev AM(xs:List V)(lo hi:Option Int):List V:=(xs.drop (HT.dE xs.length 0 lo)).take (HT.dE xs.length xs.length hi-HT.dE xs.length 0 lo)
def u4(xs:List V)(lo hi:Option Int):(AM xs lo hi).length<=xs.length:=by unfold AM;rw [List.length_take,List.length_drop];lia
def XT(K:zz8):V->Option Int->Option Int->Hp->VK->Prop:=λx lo hi H Q=>∃a xs,x=.ref a/\f9 K H a xs/\
 ¬(HT.dE xs.length 0 lo=0/\HT.dE xs.length xs.length hi=xs.length)/\∀p,H p=h9->Q (.ref p) (upd H p (.tup (AM xs lo hi)))
def PB:GV X (XT X.K):=by
 intro p s t H x v u w lo hi y Q I g hs i pu h;let(a,xs,rfl,j,k,q):=h;cases g;let(m,r,d,f):=I.tuple j;have c:m.toArray.size=xs.length:=by rw [a5];exact r.length.symm
 refine{"tuple",_,PyProof.Rows.slot_tuple_getitem.lookup,d.typeIs,?_};refine HT.kM d hs i pu (by rw [c];exact k) ?_ (by rw [c];exact f);rw [c];refine{.ref (zz9 s),_,I.laid (t':=s.toks) (o:=.tup (AM xs lo hi)) (λb ob q=>aT _ q) (a7 _) ?_,rfl,q _ (I.aM.fresh (a7 _))};exact{d1 (u4 xs lo hi) f,_,(r.drop (HT.dE xs.length 0 lo)).take (HT.dE xs.length xs.length hi-HT.dE xs.length 0 lo),IsTup.new _ _}
abbrev Tz(K:zz8):R2:=λx y H Q=>∃a b xs c,x=.ref a/\y=.ref b/\f9 K H a xs/\f9 K H b c/\xs≠[]/\xs.length+c.length<=kB/\
 (c=[]->Q (.ref a) H)/\(c≠[]->∀p,H p=h9->Q (.ref p) (upd H p (.tup (xs++c))))
def Vals.nD{xs:List V}(r:Vals xs us):us=[]↔xs=[]:=by
 cases r with
 |nil=>simp|cons _ _=>simp
def JC:gB X (binaryOp .Add) (Tz X.K):=by intro A s B H x y v u Q I g i h;let(a,b,xs,j,rfl,rfl,ha,k,m,f,p,r):=h;cases g;cases i;let(C,d,t,_):=I.tuple ha;let(D,c,p2,_):=I.tuple k;refine HT.HF t p2 (λz=>m (d.nD.mp z)) (λz=>{.ref a,H,I,rfl,p (c.nD.mp z)}) (λz=>?_) (by rw [<-d.length,<-c.length];exact f);refine{.ref (zz9 s),_,I.laid (t':=s.toks) (o:=.tup (xs++j)) (λb ob q=>aT _ q) (a7 _) ?_,rfl,r (λw=>z (c.nD.mpr w)) _ (I.aM.fresh (a7 _))};exact{by rw [c5];exact f,_,d.append c,IsTup.new _ _}
end
abbrev NX(n:Nat)(i:Int):Option Nat:=if 0<=i then(if i<n then hI i.toNat else h9) else if -(n:Int)<=i then hI (i+n).toNat else h9
abbrev uw{a:Type}(xs:List a)(i:Int):Option a:=(NX xs.length i).bind λj=>xs[j]?
def IZ{n:Nat}{i:Int}(h:NX n i=hI j):seqIndex? i n=hI j/\j<n/\ -(n:Int)<=i/\i<n:=by
 unfold NX at h;by_cases h0:0<=i
 .rw [if_pos h0] at h;by_cases a:i<n
  .rw [if_pos a] at h;have e:i.toNat=j:=zzq h;exact{by rw [seqIndex_of h0 a,e],by lia,by lia,a}
  .rw [if_neg a] at h;cases h
 .rw [if_neg h0] at h;by_cases a: -(n:Int)<=i
  .rw [if_pos a] at h;have e:(i+n).toNat=j:=zzq h;exact{by rw [seqIndex_neg (by lia) a,e],by lia,a,by lia}
  .rw [if_neg a] at h;cases h
def rV{a:Type}{xs:List a}{i:Int}{v:a}(h:uw xs i=hI v):∃j,seqIndex? i xs.length=hI j/\xs[j]?=hI v/\j<xs.length/\ -(xs.length:Int)<=i/\i<xs.length:=by
 unfold uw at h;cases e:NX xs.length i with
 |none=>rw [e] at h;cases h
 |some j=>rw [e] at h;let(b,c,d,f):=IZ e;exact⟨j,b,h,c,d,f⟩
def rQ(b:i2):Prop:=∀o i,subscripted b ig o i=operate [o,i] (getItem o i)
def Qg(X:Cx)(r:R2):Prop:=
 ∀(a slice:i2) (b:lu) (s:ix) (c:St) (H:Hp) (x y:V) (v u:iv) (Q:VK),Inv X b c H s->RelV x v->RelV y u->r x y H Q->
  subscripted slice ig v u=operate [v,u] (getItem v u)->zx7 X (subscriptTail a slice v u) (EP X b c Q) X.xe s
def QM(X:Cx)(id:String)(r:V->List V->Hp->VK->Prop):Prop:=
 ∀(a:lu) (s:ix) (b:St) (H:Hp) (x:V) (xs:List V) (v:iv) (c:List iv) (Q:VK),Inv X a b H s->RelV x v->Vals xs c->r x xs H Q->
  zx7 X (call (.builtin id) (v::c)) (EP X a b Q) X.xe s
section
variable{a b:i2}{ta tb:TE}
def Tq{r:R2}(hr:Qg X r)(ha:PE X a ta)(c:PE X b tb)(hs:rQ b):PE X (.Subscript a b pos) (QD r ta tb):=by intro d s e H Q I h;exact Subscript_ (Ma ha c I h λv u f x y g i j k q=>hr a b d f e g x y v u Q i j k q (hs _ _))
abbrev XN(K:zz8):R2:=λx y H Q=>∃p xs i v,x=.ref p/\y=.int i/\il K H p xs/\uw xs i=hI v/\Q v H
abbrev XQ(K:zz8):R2:=λx y H Q=>∃p xs i v,x=.ref p/\y=.int i/\f9 K H p xs/\uw xs i=hI v/\Q v H
abbrev XO:R2:=λx y H Q=>∃z i c,x=.str z/\y=.int i/\z.length<=kB/\uw z.cps.toList i=hI c/\Q (.str {#[c]}) H
def I0:Qg X (XN X.K):=by
 intro d slice g s k H x y v u Q I o A h hs;let(p,xs,i,z,rfl,rfl,B,C,q):=h;cases o;let(t,rfl):=A;let(D,r,e,N):=I.list B;let(j,c,E,O,F,G):=rV C;let(w,m,L):=r.get E;have hl:=r.length;have P:=oR;have fin:EP X g k Q w s:=⟨z,H,I,L,q⟩;by_cases h0:0<=i
 .have f:i.toNat=j:=by
   rw [seqIndex_of h0 G] at c;exact zzq c
  exact item_listR e.isList h0 (by lia) (by rw [f];simpa using m) fin hs
 .have f:(i+(D.toArray.size:Int)).toNat=j:=by
   rw [seqIndex_neg (by lia) F] at c;rw [a5,<-hl];exact zzq c
  exact subscriptTail_builtinR (x:=w) e.isList.typeIs slot_list_getitem.lookup
   (wpAny_getItem_list_neg (Q:=λr M=>r=w/\EP X g k Q r M) e.isList (by lia) (by rw [a5]<;>lia) (by lia) (by rw [f];simpa using m) ⟨rfl,fin⟩) hs
def N0:Qg X (XQ X.K):=by
 intro c slice d s e H x y v u Q I g k h hs;let(p,xs,i,z,rfl,rfl,m,o,q):=h;cases g;let(t,rfl):=k;let(F,r,f,G):=I.tuple m;let(j,A,B,L,M,N):=rV o;let(w,C,D):=r.get B;have hl:=r.length;have O:=oR;have fin:EP X d e Q w s:=⟨z,H,I,D,q⟩
 exact subscriptTail_builtinR (x:=w) f.typeIs slot_tuple_getitem.lookup
  (getItem_tuple (j:=j) (Q:=λr E=>r=w/\EP X d e Q r E) f (by lia) (by lia) (by rw [a5,<-hl];exact A) (zx6 C) ⟨rfl,fin⟩) hs
def NZ:Qg X XO:=by
 intro d slice A s B H x y v u Q I f g h hs;let(z,i,c,rfl,rfl,C,k,q):=h;let(t,rfl):=f;let(D,rfl):=g;let(j,e,m,E,o,p):=rV k;have hl:z.cps.toList.length=z.length:=by simp [Str.length]
 rw [hl] at e o p;have F:=oR;exact tail_any (typeIs_str s z t) slot_str_getitem.lookup (getItem_str (c:=c) (by have r:decide (i< -(2^63:Int))=ig:=zz0 (by lia);have w:decide (i>=2^63)=ig:=zz0 (by lia);rw [r,w,Bool.or_false]) (by rw [e];simpa using m) {.str {#[c]},H,I.tok _,{_,rfl},q}) hs
def kq:cG X (.builtin "len") (λxs H Q=>∃p ys,xs=[.ref p]/\(il X.K H p ys\/f9 X.K H p ys)/\Q (.int ys.length) H):=by
 intro k s m H xs o Q I r h;let(p,ys,rfl,d,q):=h;let(u,rfl,g):=vals1 r;cases g;have t:=oR
 rcases d with d|d
 .let(i,e,f,j):=I.list d;have c:=e.length;exact Calls.call_len_list f.isList (by simp! [a5]<;>lia) {.int ys.length,H,I.tok _,{s.toks+1,by rw [a5,c]},q}
 .let(i,e,f,j):=I.tuple d;have c:=e.length;exact len_tuple f (by simp! [a5]<;>lia) {.int ys.length,H,I.tok _,{s.toks+1,by rw [a5,c]},q}
def rW:cG X (.builtin "len") (λxs H Q=>∃z,xs=[.str z]/\z.length<=kB/\Q (.int z.length) H):=by intro c s d H xs e Q I r h;let(z,rfl,f,q):=h;let(u,rfl,t,rfl):=vals1 r;have g:=oR;exact len_str (by lia) {.int z.length,H,I.tok _,{_,rfl},q}
def rX:cG X (.type "list") (λxs H Q=>∃p ys,xs=[.ref p]/\(il X.K H p ys\/f9 X.K H p ys)/\∀l,H l=h9->Q (.ref l) (upd H l (.lst ys))):=by
 intro A s B H xs D Q I r h;let(p,ys,rfl,i,q):=h;let(u,rfl,C):=vals1 r
 cases C;have fin:∀(d:List iv),Vals ys d->ys.length<=kB->∀(c:kA) (f:Nat),(∀b z,s.heap.get? b=hI z->c.get? b=hI z)->
  c.get? (zz9 s)=hI {cls:=.type "list",dict:=h9,data:=.seq d.toArray f,slots:=#[]}->EP X A B Q (.ref (zz9 s)) {s with heap:=c}:=λd g j c f kp e=>
  {.ref (zz9 s),_,I.laid (t':=s.toks) kp (a7 _) (show bX X.prog X.w _ c _ (.lst ys) from⟨j,d,f,g,e⟩),rfl,q _ (I.aM.fresh (a7 _))}
 rcases i with i|i
 .let(d,g,m,j):=I.list i;have k:=g.length;let(o,t,y,n,hd):=m.isList;exact call_list_seq p (.inl rfl) t y hd (λc f kp e=>fin d g j c f kp e) (by simp! [a5]<;>lia)
 .let(d,g,m,j):=I.tuple i;have k:=g.length;let(o,t,y,n,hd):=m;exact call_list_seq p (.inr rfl) t y hd (λc f kp e=>fin d g j c f kp e) (by simp! [a5]<;>lia)
def qa:cG X (.type "tuple") (λxs H Q=>∃p ys,xs=[.ref p]/\((il X.K H p ys/\∀l,H l=h9->Q (.ref l) (upd H l (.tup ys)))\/(f9 X.K H p ys/\Q (.ref p) H))):=by
 intro j s k H xs B Q I r h;let(p,ys,rfl,h):=h;let(u,rfl,z):=vals1 r
 cases z;rcases h with⟨d,q⟩|⟨d,q⟩
 .let(f,g,i,m):=I.list d;have t:=g.length;refine call_tuple_list i.isList (λc kp=>?_) (by simp! [a5]<;>lia);have y:Inv X j k H {s with heap:=c}:=I.kept (t':=s.toks) kp
  have A:Inv X j k (upd H c.objs.size (.tup ys)) {s with heap:=c.push {cls:=.type "tuple",data:=.seq f.toArray}}:=
   y.laid (t':=s.toks) (λb o e=>aT _ e) (a7 _) (show bX X.prog X.w _ _ _ (.tup ys) from{m,f,g,IsTup.new _ _})
  exact{.ref c.objs.size,_,A,rfl,q _ (y.aM.fresh (a7 _))}
 .let(f,g,i,m):=I.tuple d;exact call_tuple_same i {.ref p,H,I,rfl,q}
def Vn(K:zz8)(T:String)(x:V)(H:Hp):Prop:=match x with
 |.str _=>T="str"|.int _=>T="int"|.ref p=>(T="list"/\∃xs,il K H p xs)\/(T="tuple"/\∃o,K.lookup p=hI o/\o.cls=.type "tuple"/\o.dict=h9)\/
  (T="dict"/\((∃c,H p=hI (.dK c))\/∃c,H p=hI (.dT c)))\/(T="set"/\∃S n,H p=hI (.set S n))
 |_=>False
def Gy{g:St}{s:ix}{T:String}{x:V}{v:iv}(I:Inv X aa g H s)(r:RelV x v)(ty:Vn X.K T x H):
 s.TypeIs v T/\∀a,v=.ref a->∃ob,s.heap.get? a=hI ob/\ob.dict=h9:=by
 cases x with
 |str z=>let(t,rfl):=r;cases(show T="str" from ty);exact{typeIs_str s z t,λZ e=>nomatch e}
 |int i=>let(t,rfl):=r;cases(show T="int" from ty);exact{typeIs_int s i t,λZ e=>nomatch e}
 |ref p=>
  cases r;rcases ty with⟨rfl,xs,h⟩|⟨rfl,o,hk,j,hd⟩|⟨rfl,hk⟩|⟨rfl,S,n,hk⟩
  .let(m,_,f,_):=I.list h;refine{f.isList.typeIs,λa e=>?_};cases e;let(o,n,e,c,hd,_):=f;exact⟨o,e,hd⟩
  .refine{{o,I.jZ p o hk,j},λa e=>?_};cases e;exact{o,I.jZ _ o hk,hd}
  .have z:∃o,s.heap.get? p=hI o/\o.ExactDict:=by
    rcases hk with⟨k,hk⟩|⟨k,hk⟩
    .let(_,_,_,_,o,_,_,e,ex,_):=I.aM p _ hk;exact⟨o,e,ex⟩
    .let(_,_,_,_,o,_,_,e,ex,_):=I.aM p _ hk;exact⟨o,e,ex⟩
   let(o,e,ex):=z;refine{⟨o,e,ex.1⟩,λa d=>?_};cases d;exact⟨o,e,ex.2.1⟩
  .let(o,_,_,_,e,ex,_):=I.aM p _ hk;refine{⟨o,e,ex.1⟩,λa d=>?_};cases d;exact⟨o,e,ex.2.1⟩
 |_=>exact el ty
abbrev X6(K:zz8)(T:String)(r:V->List V->Hp->VK->Prop)(d:TE):TE:=λe H Q=>d e H λx c=>Vn K T x c/\r x [] c Q
abbrev tBM(K:zz8)(T:String)(r:V->List V->Hp->VK->Prop)(e:TE)(t:TA):TE:=λc H Q=>e c H λx d=>Vn K T x d/\t c d λxs f=>r x xs f Q
variable{o:i2}{es:List i2}{to:TE}{t:TA}{name:Str}{apos bE:Pos}{T id:String}{r:V->List V->Hp->VK->Prop}
theorem OV(j:PlainAttrs T)(slot:Slot T name id)(k:typeOf (.builtin id)=pure (.type "method_descriptor"))(hm:QM X id r)(m:PE X o to)
 (p:attributeBase o name X.env (eval o X.env)=eval o X.env:=by rfl) (q:(apos.endLine==bE.line)=ie:=by rfl):PE X (.Call (.Attribute o name apos) [] [] bE) (X6 X.K T r to):=by
 intro d s f H Q I h;refine wpAny_Call_method0_late p q (bM (m d s f H _ I h) λv u c=>?_);let(x,w,g,i,ty,y):=c;let(z,A):=Gy g i ty;exact{T,id,j,slot,k,z,A,Calls.callWith_builtin rfl (PySem.evalArgs_none (hm d u f w x [] v [] Q g i .nil y))}
theorem vS(k:PlainAttrs T)(slot:Slot T name id)(m:typeOf (.builtin id)=pure (.type "method_descriptor"))(hm:QM X id r)(p:PE X o to)(ha:PA X (e::es) t)
 (q:attributeBase o name X.env (eval o X.env)=eval o X.env:=by rfl)
 (u:((backTo bE (starEach (e::es) X.env)).all (λx=>!x.1)&&(backToKw bE (keywordEach [] X.env)).all (λx=>x.1.isSome)
  &&decide ((e::es).length+([]:List Keyword).length+(if([]:List Keyword).isEmpty then 0 else 1)<30))=ie:=by rfl)
 (w:(apos.endLine==bE.line)=ie:=by rfl) (hs:starEach (e::es) X.env=(ig,eval e X.env)::starEach es X.env:=by rfl) (y:(backTo bE (starEach es X.env)).any (·.1)=ig:=by rfl):
 PE X (.Call (.Attribute o name apos) (e::es) [] bE) (tBM X.K T r to t):=by
 intro c s d H Q I h;refine wpAny_Call_method_late q u w rfl (bM (p c s d H _ I h) λv z f=>?_);let(x,A,g,i,ty,B):=f;let(C,D):=Gy g i ty;refine{T,id,k,slot,m,C,D,?_};have j:=ha bE c z d A _ g B;rw [hs] at j⊢;refine Calls.callWith_builtin (by show(ig||(backTo bE (starEach es X.env)).any (·.1))=ig;rw [y]<;>rfl) (Calls.evalArgs_plain ?_);exact bM j λE F ⟨G,L,M,N,O⟩=>hm c F d L x G v E Q M i N O
end
def Ys(X:Cx)(id:String)(r:V->List V->Hp->VK->Prop):Prop:=
 ∀(a:lu) (s:ix) (b:St) (H:Hp) (x:V) (xs:List V) (v:iv) (c:List iv) (Q:VK),Inv X a b H s->RelV x v->Vals xs c->r x xs H Q->
  zx7 X (call (.builtin id) (v::c)) (EP X a b Q) X.xe s
def Vals.one{x:V}(h:Vals [x] us):∃u,us=[u]/\RelV x u:=by
 cases h with
 |cons r q=>cases q;exact{_,rfl,r}
def Vals.two{x y:V}(h:Vals [x,y] us):∃u v,us=[u,v]/\RelV x u/\RelV y v:=by
 cases h with
 |cons r q=>
  cases q with
  |cons q n=>cases n;exact{_,_,rfl,r,q}
theorem Vals.zero:∀{us:List iv},Vals [] us->us=[]
 |_,.nil=>rfl
def Vals.dropLast{xs:List V}(h:Vals xs us):Vals xs.dropLast us.dropLast:=by
 induction h with
 |nil=>exact .nil|cons r t a=>
  cases t with
  |nil=>exact .nil|cons q b=>exact .cons r a
theorem Vals.rep{xs:List V}(h:Vals xs us):∀k:Nat,Vals (ll k xs).flatten (ll k us).flatten
 |0=>.nil|k+1=>by rw [List.replicate_succ,List.replicate_succ,List.flatten_cons,List.flatten_cons];exact Vals.append h (Vals.rep h k)
def xh{c:Type}(l:List c):l.eraseIdx (l.length-1)=l.dropLast:=by
 induction l with
 |nil=>rfl|cons a r d=>
  cases r with
  |nil=>rfl|cons b r=>
   have e:(a::b::r).length-1=((b::r).length-1)+1:=by have f:(a::b::r).length=r.length+2:=rfl;have g:(b::r).length=r.length+1:=rfl;lia
   rw [e,List.eraseIdx_cons_succ,d]
   all_goals rfl
theorem foldl_rep(b:List iv):∀(k:Nat) (a:List iv),
 List.foldl (λx1 c=>x1++c) a.toArray (ll k b.toArray)=(a++(ll k b).flatten).toArray
 |0,a=>by simp|k+1,a=>by
  have e:a.toArray++b.toArray=(a++b).toArray:=by simp
  have d:(a++b)++(ll k b).flatten=a++(ll (k+1) b).flatten:=by rw [List.replicate_succ,List.flatten_cons,List.append_assoc]
  rw [<-d,<-foldl_rep b k (a++b),<-e,List.replicate_succ,List.foldl_cons]
section
variable{s:ix}{l:i1}{xs ys:List V}
def Inv.SM{a its':List iv}{n:Nat}{f:Array iv->Array iv}{t':Nat}(I:zv1 s)(b:H l=hI (.lst xs))
 (e:s.heap.get? l=hI {cls:=.type "list",data:=.seq a.toArray n}) (hf:f a.toArray=its'.toArray) (c:Vals ys its') (hz:ys.length<=kB):
 Inv X aa σ (upd H l (.lst ys)) {s with heap:=s.heap.update l (Obj.mapSeq f),toks:=t'}:=by
 have q:=PySem.IsL.update e f;rw [hf] at q;refine I.write (x:=l) (e:=l) (by rw [b];exact trivial) (.inl rfl) (λg u d hu=>(kA.get?_update_other s.heap (Obj.mapSeq f) (Ne.symm d)).trans hu) {_,q} ?_;exact{hz,its',_,c,q}
theorem Inv.SI{a:List iv}{t':Nat}(I:zv1 s)(b:Vals ys a)(hz:ys.length<=kB):
 Inv X aa σ (upd H (zz9 s) (.lst ys)) {s with heap:=s.heap.push {cls:=.type "list",data:=.seq a.toArray},toks:=t'}:=
 I.laid (λZ Z q=>aT _ q) (a7 _) {hz,a,0,b,d4 _ rfl}
def Inv.fresh(I:zv1 s):H (zz9 s)=h9:=I.aM.fresh (a7 _)
def Inv.SN(I:zv1 s)(b:H l=hI (.lst xs)):xs.length<=kB/\∃(a:List iv) (n:Nat),Vals xs a/\xs.length=a.length/\s.heap.get? l=hI {cls:=.type "list",data:=.seq a.toArray n}:=by let(z,a,n,r,e):=I.aM l _ b;exact⟨z,a,n,r,r.length,e⟩
def EY{n:Nat}(h:n<=kB):lb.List.listTooLong n=ig:=by unfold lb.List.listTooLong;exact zz0 (by lia)
def JX:V->List V->Hp->VK->Prop:=λx a H Q=>∃l xs y,x=.ref l/\a=[y]/\H l=hI (.lst xs)/\xs.length<kB/\Q .aR (upd H l (.lst (xs++[y])))
def rA:Ys X "list.append" JX:=by intro aa s σ H x f v g Q I c rv h;let(l,xs,y,rfl,rfl,a,i,q):=h;cases c;let(u,rfl,d):=rv.one;let(z,b,n,r,hl,e):=I.SN a;refine call_meets F.slot_list_append {_,e,rfl} F.entry_list_append (F.args_list_append_2 _ _) (PySem.list_append l b.toArray n u (by rw [a5];lia)) {e,?_};refine{.aR,_,I.SM (its':=b++[u]) a e (by simp) (r.append (.cons d .nil)) ?_,rfl,q};rw [c5,List.length_singleton];lia
def XR:V->List V->Hp->VK->Prop:=λx a H Q=>∃l xs y,x=.ref l/\a=[]/\H l=hI (.lst xs)/\xs[xs.length-1]?=hI y/\Q y (upd H l (.lst xs.dropLast))
def Of:Ys X "list.pop" XR:=by
 intro aa s σ H x j v k Q I d rv h;let(l,xs,y,rfl,rfl,c,f,q):=h;cases d;have b:=rv.zero;subst b;let(z,a,n,r,hl,e):=I.SN c;let(u,hu,g):=r.get f;have i:a.toArray[a.toArray.size-1]?=hI u:=by show a.toArray[a.length-1]?=hI u;rw [<-Array.getElem?_toList,<-hl];exact hu
 refine call_meets F.slot_list_pop {_,e,rfl} F.entry_list_pop (F.args_list_pop_1 _) (MeetsSeq.list_pop_last l a.toArray n u i (by rw [a5];lia)) {e,?_};refine{y,_,I.SM (its':=a.dropLast) c e ?_ r.dropLast ?_,g,q}
 .show a.toArray.eraseIdxIfInBounds (a.toArray.size-1)=a.dropLast.toArray;rw [a5,List.eraseIdxIfInBounds_toArray,xh]
 .rw [List.length_dropLast];lia
def len_rep{a:Type}(xs:List a)(k:Nat):(ll k xs).flatten.length=k*xs.length:=by
 induction k with
 |zero=>simp|succ k b=>rw [List.replicate_succ,List.flatten_cons,c5,b,Nat.succ_mul,Nat.add_comm]
end
end L2
namespace Att
open PySem.W PySem.Calls PyProof.Rows
def m6{P:Params}:∀(ns:List Int) (vs:List iv),WellAll P h vs (ns.map WData.int)->IntsAre vs ns:=by
 intro ns
 induction ns with
 |nil=>intro vs w;rw [List.map_nil] at w;cases w;exact .nil
 |cons n ns c=>
  intro vs w;rw [a8] at w;cases w with
  |cons a b=>cases a;exact .cons _ _ (c _ b)
def BR{l:OpenLaw}{n:Nat}(hn:l.most=hI n){P:Params}{args:List WData}{b:List iv}
 (i:l.row.toRowW.claim.pre args=ie) (k:WellAll P h b args):
 ∃a vs ns,b=[iv.ref a]/\args=[WData.list (ns.map WData.int)]/\h.get? a=hI {cls:=.type "list",data:=.seq vs.toArray}/\IntsAre vs ns/\ns.length<=n:=by
 have g:WShape.hasAll [] args [.list .int]=ie:=(pre_splitW i).1;have j:l.pre.holds [] {args:=args}=ie:=(pre_splitW i).2;let(d,r,rfl,m,o):=hasAllW_cons g;obtain rfl:=hasAllW_nil o;let(xs,rfl,p):=hasW_list m;let(ns,rfl):=items_int p
 have c:ns.length<=n:=by
  unfold OpenLaw.pre at j;have e:(WTm.not (.lt (.lit (.int (n:Int))) (.len (.arg 0)))).holds [] {args:=[.list (ns.map .int)]}=ie:=by have e:=(holds_andW j).1;rw [hn] at e;exact e
  have f:=condW_of e (w_not (w_lt w_lit (w_len_list (w_arg rfl))));rw [zzl] at f;refine Nat.le_of_not_lt λq=>?_;have s:(n:Int)<((ns.length:Nat):Int):=by omega
  first
   |(rw [zzh s] at f;exact absurd f ↑2)
   |(simp at f;omega)
 cases k with
 |cons w1 t=>
  cases t;cases w1 with
  |list u w=>exact{_,_,ns,rfl,rfl,u,m6 ns _ w,c}
theorem BL(l:OpenLaw)(args:List WData):l.row.toRowW.claim.post args (.bool ie) args=ie:=
 postW_of (r:=l.row.toRowW) (X:=(ie==ie))
  (show WShape.has [] (.bool ie) .bool=ie by first|rfl|decide|simp [WShape.has,WShape.arms,WShape.armsAll])
  (show(WTm.eq .res (.lit (.bool ie))).value [] {args:=args,res:=hI (.bool ie),after:=args}=hI (.bool (ie==ie)) from w_eq_bool (w_res rfl) w_lit) rfl
def uQ{l:OpenLaw}{n:Nat}{q:jX}{c:List Str}{p:(Str->Option iv)->kA->Prop}{s:kd->kA->Prop}{d:DefRec}
 (hn:l.most=hI n) (z:d.params.defaults=[])
 (call:∀(w:kd) (s₀ b:ix) (mg mb:Str->Option iv) (h:i1) (o:Obj) (k cd e:iv) (a:i1) (vs:List iv) (ns:List Int),
  Ground q c [] p w s₀ mg mb b.heap->s w b.heap->
  b.heap.get? h=hI o->o.data=.func (docDef d.name d.params d.body d.scope k cd e)->b.heap.CodeRec cd d.name->mg d.name=hI (.ref h)->
  b.heap.get? a=hI {cls:=.type "list",data:=.seq vs.toArray}->IntsAre vs ns->ns.length<=n->b.gens=#[]->
  codeAny (kr l.prog w) callerA (.call (.ref h) {[.ref a],[]}) (λr s'=>r=.ok (.ret (.bool ie))/\OldK b.heap s'.heap/\s'.os=b.os/\AllBare s'.gens) b):
 WalkO q c p s l.row.toRowW d [] (λf vs=>PySem.call f vs):=by
 intro w s₀ b mg mb G Y h o k cd e A kV B hd C t m D args u as E y F H I;obtain rfl:A=.none:=Dflts.none t z;obtain rfl:kV=.none:=Dflts.noKw t;let(a,vs,ns,rfl,rfl,i,g,j):=BR hn E H;refine enter_call (codeAny_mono (call w s₀ b mg mb h o k cd e a vs ns G Y B (fd_plain hd) C m i g j D) λr s' K=>?_);let(rfl,L,M,N):=K;exact{.inl {.bool ie,.bool ie,[],rfl,λZ=>rfl,.bool ie,BL l _,λZ=>{List.Pairwise.nil,λZ hm=>(nomatch hm)}},L,M,N}
abbrev ledger(h:kA)(L d:i1):lu:=(List.range h.objs.size).filterMap λa=>if a=L\/a=d then h9 else(h.get? a).map λo=>(a,o)
end Att
namespace L2
open PySem.Spec PyProof.Rows
def B7{vs:List iv}{ns:List Int}(r:IntsAre vs ns):Vals (ns.map V.int) vs:=by
 induction r with
 |nil=>exact .nil|cons n t _ a=>exact .cons ⟨t,rfl⟩ a
abbrev bR(s:k6):Arguments:=match s with
 |.FunctionDef _ a _ _ _ _ _ _ _ _=>a|_=>{posonlyargs:=[],args:=[],vararg:=h9,kwonlyargs:=[],kw_defaults:=[],kwarg:=h9,defaults:=[]}
abbrev bf(s:k6):List Stmt:=match s with
 |.FunctionDef _ _ b _ _ _ _ _ _ _=>b|_=>[]
abbrev ax(s:k6):Scope:=match s with
 |.FunctionDef _ _ _ _ _ _ sc _ _ _=>sc|_=>{kind:=.function,names:=[],isGenerator:=ig,isCoroutine:=ig}
structure LV(K:zz8)(x qual:Str)(st:k6)(f:i1)(fd:FuncData):Prop where
 ex:∃(oc:iv) (od:Option i1) (kV doc pm:iv) (an:Option i1) (dA ct:iv) (pT:Array (Option iv)),
  fd=PySem.W.fnOf x qual (bR st) (bf st) (ax st) .none kV doc pm an dA ct/\K.lookup f=hI {oc,od,.func fd,pT}/\PySem.W.codeIn K dA qual=ie
 kp:PySem.W.keepIn K (.ref f)=ie
section
variable{K:zz8}
def LV.binds{f:i1}{fd:FuncData}{ps:List Str}(F:LV K x qual st f fd)
 (h:∀(kV a b:iv) (c:Option i1) (d ct:iv) (us:List iv),us.length=ps.length->bindArgs (PySem.W.fnOf x qual (bR st) (bf st) (ax st) .none kV a b c d ct) {us,[]}=pure (ps.zip us)):Binds K fd ps []:=by
 let(oc,e,kV,a,b,c,d,ct,g,rfl,i,j):=F.ex;exact .all (h kV a b c d ct)
def sF{f:i1}{oc:iv}{g d:Option i1}{h:Array (Option iv)}{kV a e b ct:iv}(l:K.lookup f=hI {oc,g,.func (PySem.W.fnOf x qual (bR st) (bf st) (ax st) .none kV a e d b ct),h})
 (c:PySem.W.codeIn K b qual=ie) (k:PySem.W.keepIn K (.ref f)=ie):LV K x qual st f (PySem.W.fnOf x qual (bR st) (bf st) (ax st) .none kV a e d b ct):={⟨oc,g,kV,a,e,d,b,ct,h,rfl,l,c⟩,k}
theorem pv(i:Nat)(hN:X.N[i]?=hI x:=by rfl)(a:QW X.env.scope x:=by first|exact Or.inl rfl|exact Or.inr (Or.inl rfl)|exact Or.inr (Or.inr rfl))(hd:(x==(zu 19:Str))=ig:=by decide)
 (b:(x==("__classdict__":Str))=ig:=by decide):PE X (.Name x pos) (P6 i):=mi hN a hd b
end
def Xd{A B:Prop}(h:B):if ig=ie then A else B:=by rw [if_neg zzf];exact h
def Xe{A B:Prop}(h:A):if ie=ie then A else B:=by rw [if_pos rfl];exact h
def aC(H a:Hp):Prop:=∀b o,H b=hI o->a b=hI o
def aC.refl(H:Hp):aC H H:=λZ Z h=>h
def aC.trans{d:Hp}(a:aC H H1)(b:aC H1 d):aC H d:=λc o h=>b c o (a c o h)
def aC.free{a:Hp}(e:aC H a){l:i1}(h:a l=Option.none):H l=Option.none:=by
 cases q:H l with
 |none=>rfl|some o=>rw [e l o q] at h;cases h
def aC.seq{K:zz8}{b:Hp}{xs:List V}(e:aC H b)(h:il K H a xs):il K b a xs:=by
 rcases h with(h|⟨o,h⟩)|h
 .exact .inl (.inl (e _ _ h))
 .exact .inl (.inr {o,e _ _ h})
 .exact .inr h
section
variable{a b:i2}
end
section
variable{κ:Type}[DecidableEq κ]
abbrev lI(a:List (κ×V))(k:κ):Option V:=(a.find? λb=>decide (b.1=k)).map (·.2)
abbrev putK(b:List (κ×V))(k:κ)(v:V):List (κ×V):=
 if(b.any λa=>decide (a.1=k))=ie then b.map (λa=>if a.1=k then(a.1,v) else a) else b++[(k,v)]
abbrev gh(a:List (κ×V))(k:κ):List (κ×V):=a.filter λb=>decide (b.1≠k)
def lK{p:κ×V}{r:List (κ×V)}{k:κ}(e:p.1=k):lI (p::r) k=hI p.2:=by simp [lI,List.find?_cons,e]
def lJ{p:κ×V}{r:List (κ×V)}{k:κ}(e:¬p.1=k):lI (p::r) k=lI r k:=by simp [lI,List.find?_cons,e]
theorem pP(k:κ):∀a:List (κ×V),(a.any λb=>decide (b.1=k))=(lI a k).isSome
 |[]=>rfl|p::r=>by
  rw [List.any_cons];by_cases e:p.1=k
  .simp! [lK e,zzh e,Bool.true_or,Option.isSome_some]
  .rw [lJ e,zz0 e,Bool.false_or];exact pP k r
def ee(a:List (κ×V))(k:κ)(v:V):(putK a k v).length<=a.length+1:=by
 unfold putK;split
 .rw [zzl];lia
 .rw [c5,c4,List.length_nil];lia
def hW.gq{o:Option V}{u:Option iv}(r:hW o u):o.isSome=u.isSome:=by
 cases o with
 |none=>cases u with
  |none=>rfl|some _=>exact(show False from r).elim
 |some _=>cases u with
  |none=>exact(show False from r).elim|some _=>rfl
def hW.getD{o:Option V}{u:Option iv}{d:V}{d':iv}(r:hW o u)(rd:RelV d d'):RelV (o.getD d) (u.getD d'):=by
 cases o with
 |none=>cases u with
  |none=>exact rd|some _=>exact(show False from r).elim
 |some _=>cases u with
  |none=>exact(show False from r).elim|some _=>exact r
def KV.val{c:List (κ×V)}{vs:List (κ×iv)}(r:KV c vs)(k:κ):hW (lI c k) (valueAt vs k):=by
 unfold KV at r
 induction r with
 |nil=>exact True.intro|@cons p q i qs h t f=>
  let(d,g):=h;by_cases e:p.1=k
  .have a:q.1=k:=d.symm.trans e;have b:valueAt (q::qs) k=hI q.2:=by simp [valueAt,List.find?_cons,a]
   rw [lK e,b];exact g
  .have a:¬q.1=k:=λz=>e (d.trans z);have b:valueAt (q::qs) k=valueAt qs k:=by simp [valueAt,List.find?_cons,a]
   rw [lJ e,b];exact f
def KV.any{b:List (κ×V)}{vs:List (κ×iv)}(r:KV b vs)(k:κ):(b.any λa=>decide (a.1=k))=vs.any λa=>decide (a.1=k):=by
 unfold KV at r
 induction r with
 |nil=>rfl|cons h t c=>rw [List.any_cons,List.any_cons,c,h.1]
def KV.Pd{c:List (κ×V)}{vs:List (κ×iv)}(r:KV c vs)(k:κ){y:V}(d:RelV y u):
 KV (c.map λa=>if a.1=k then(a.1,y) else a) (vs.map λa=>if a.1=k then(a.1,u) else a):=by
 unfold KV at r⊢
 induction r with
 |nil=>exact .nil|@cons p q i qs h t f=>
  rw [a8,a8];refine .cons ?_ f;let(b,g):=h;by_cases e:p.1=k
  .rw [if_pos e,if_pos (b.symm.trans e)];exact⟨b,d⟩
  .rw [if_neg e,if_neg (λz=>e (b.trans z))];exact⟨b,g⟩
def KV.put{a:List (κ×V)}{vs:List (κ×iv)}(r:KV a vs)(k:κ){y:V}(b:RelV y u):KV (putK a k y) (stored vs k u):=by
 unfold putK stored;rw [r.any k];by_cases e:(vs.any λc=>decide (c.1=k))=ie
 .rw [if_pos e,if_pos e];exact r.Pd k b
 .rw [if_neg e,if_neg e];exact Paired.snoc r ⟨rfl,b⟩
def KV.drop{d:List (κ×V)}{vs:List (κ×iv)}(r:KV d vs)(k:κ):KV (gh d k) (without vs k):=by
 unfold KV at r⊢;unfold gh without
 induction r with
 |nil=>exact .nil|@cons p q j qs h t f=>
  let(c,g):=h;rw [g5,g5];by_cases e:p.1=k
  .have a:¬decide (p.1≠k)=ie:=by simp [e]
   have b:¬decide (q.1≠k)=ie:=by simp [c.symm.trans e]
   rw [if_neg a,if_neg b];exact f
  .have i:¬q.1=k:=λz=>e (c.trans z);have a:decide (p.1≠k)=ie:=by simp [e]
   have b:decide (q.1≠k)=ie:=by simp [i]
   rw [if_pos a,if_pos b];exact .cons ⟨c,g⟩ f
def KV.keys{a:List (κ×V)}{vs:List (κ×iv)}(r:KV a vs):a.map (·.1)=vs.map (·.1):=by
 unfold KV at r
 induction r with
 |nil=>rfl|cons h t b=>rw [a8,a8,b,h.1]
def KV.length{a:List (κ×V)}{vs:List (κ×iv)}(r:KV a vs):a.length=vs.length:=Paired.length r
def Dg(a:List (κ×V))(k:κ):(gh a k).length<=a.length:=List.length_filter_le _ _
end
def kQ{P:jX}{w:kd}{k:Key}(r:RelV (kV k) u):(bg P w).is k u=ie:=by
 cases k with
 |inl i=>let(t,e):=(show∃t,u=iv.int i t from r);subst e;exact vH P w i t|inr x=>let(t,e):=(show∃t,u=iv.str x t from r);subst e;exact vI P w x t
theorem rf{P:jX}{w:kd}:∀{ks:List Key} {us:List iv},Vals (ks.map kV) us->ItemsAre (bg P w) ks us
 |[],_,r=>by rw [List.map_nil] at r;cases r;exact .nil
 |k::ks,_,r=>by
  rw [a8] at r;cases r with
  |cons h t=>exact .cons (kQ h) (rf t)
noncomputable abbrev KT(H:Hp):List (List Key×V)->List (List Key×i1×iv)->Prop:=Paired λp q=>p.1=q.1/\H q.2.1=hI (.tup (p.1.map kV))/\RelV p.2 q.2.2
def KT.val{c:List (List Key×V)}{xs:List (List Key×i1×iv)}(r:KT H c xs)(k:List Key):hW (lI c k) ((atKey xs k).map (·.2)):=by
 induction r with
 |nil=>exact True.intro|@cons p q i qs h t f=>
  let(d,_,g):=h;by_cases e:p.1=k
  .have a:q.1=k:=d.symm.trans e;have b:atKey (q::qs) k=hI q.2:=by simp [atKey,List.find?_cons,a]
   rw [lK e,b];exact g
  .have a:¬q.1=k:=λz=>e (d.trans z);have b:atKey (q::qs) k=atKey qs k:=by simp [atKey,List.find?_cons,a]
   rw [lJ e,b];exact f
def KT.Pd{c:List (List Key×V)}{xs:List (List Key×i1×iv)}(r:KT H c xs)(k:List Key){y:V}(f:RelV y u):
 KT H (c.map λb=>if b.1=k then(b.1,y) else b) (xs.map (putAt k u)):=by
 induction r with
 |nil=>exact .nil|@cons p q j qs h t g=>
  rw [a8,a8];refine .cons ?_ g;let(a,d,i):=h;unfold putAt;by_cases e:p.1=k
  .rw [if_pos e,if_pos (a.symm.trans e)];exact⟨a,d,f⟩
  .rw [if_neg e,if_neg (λz=>e (a.trans z))];exact⟨a,d,i⟩
def KT.put{a:List (List Key×V)}{xs:List (List Key×i1×iv)}(r:KT H a xs)(k:List Key){b:i1}{y:V}(d:H b=hI (.tup (k.map kV)))(c:RelV y u):
 KT H (putK a k y) (storedH xs k b u):=by
 have e:(a.any λf=>decide (f.1=k))=(atKey xs k).isSome:=by rw [pP,(r.val k).gq,Option.isSome_map]
 unfold putK storedH;rw [e];by_cases q:(atKey xs k).isSome=ie
 .rw [if_pos q,if_pos q];exact r.Pd k c
 .rw [if_neg q,if_neg q];exact Paired.snoc r ⟨rfl,d,c⟩
def KT.keeps{a:Hp}{c:List (List Key×V)}{xs:List (List Key×i1×iv)}(r:KT H c xs)(d:∀b ys,H b=hI (.tup ys)->a b=hI (.tup ys)):KT a c xs:=
 Paired.Je r λZ Z z=>{z.1,d _ _ z.2.1,z.2.2}
section
variable{P:jX}{w:kd}
def LA{u:HO}(ok:fw P w H h)(e:Rd H a u):bX P w H h a u:=e.ok ok
def jg{b:List (Key×V)}(ok:fw P w H h)(e:Rd H a (.dK b)):b.length<=kB/\(a==sysModules)=ig/\∃vs,KV b vs/\h.DictOf (bg P w) a vs:=
 show bX P w H h a (.dK b) from LA ok e
def u7{b:List (Key×V)}(ok:fw P w H h)(e:H a=hI (.dK b)):b.length<=kB/\(a==sysModules)=ig/\∃vs,KV b vs/\h.DictOf (bg P w) a vs:=jg ok (.inl e)
def oP{ks:List Key}(ok:fw P w H h)(e:H a=hI (.tup (ks.map kV))):(tupleKind (bg P w)).is h ks a:=by let(_,b,r,o,c,d,n,f):=(show bX P w H h a (.tup (ks.map kV)) from ok a _ e);exact{o,b.toArray,n,c,d,f,by simpa using rf r}
def vc{c:List (List Key×V)}(ok:fw P w H h)(e:Rd H a (.dT c)):c.length<=kB/\(a==sysModules)=ig/\
 ∃xs,KT H c xs/\h.DictOfH (tupleKind (bg P w)) a xs:=by
 let(z,y,xs,r,o,f,g,i,j,k,s,u):=(show bX P w H h a (.dT c) from LA ok e);refine{z,y,xs,r,o,f,g,i,j,k,s,λx b=>?_,u}
 have all:∀{l:List (List Key×V)} {m:List (List Key×i1×iv)},KT H l m->∀x∈m,(tupleKind (bg P w)).is h x.1 x.2.1:=by
  intro l m q
  induction q with
  |nil=>intro x b;exact nomatch b|@cons p q B qs d t A=>
   intro x b;rcases er.mp b with e|b
   .subst e;exact oP ok (by rw [<-d.1];exact d.2.1)
   .exact A x b
 exact all r x b
def RF{b:List (List Key×V)}(ok:fw P w H h)(e:H a=hI (.dT b)):b.length<=kB/\(a==sysModules)=ig/\
 ∃xs,KT H b xs/\h.DictOfH (tupleKind (bg P w)) a xs:=vc ok (.inl e)
end
def Hq(H:Hp)(a:i1)(y:V)(r:Option V):Prop:=
 (∃c k,Rd H a (.dK c)/\y=kV k/\r=lI c k)\/∃c k b,Rd H a (.dT c)/\y=.ref b/\H b=hI (.tup (k.map kV))/\r=lI c k
def wI(H:Hp)(a:i1)(y v:V)(d:Hp):Prop:=
 (∃c k,H a=hI (.dK c)/\y=kV k/\c.length<kB/\d=upd H a (.dK (putK c k v)))\/
 ∃c k b,H a=hI (.dT c)/\y=.ref b/\H b=hI (.tup (k.map kV))/\c.length<kB/\d=upd H a (.dT (putK c k v))
def wI.k{b:List (Key×V)}{k:Key}(e:H a=hI (.dK b))(hl:b.length<kB):wI H a (kV k) v (upd H a (.dK (putK b k v))):=.inl ⟨b,k,e,rfl,hl,rfl⟩
section
variable{s:ix}{y:V}{r:iv}{o:Option V}{E:lr}
def Inv.big(I:zv1 s):sysModules<(zz9 s):=by have h:la<(zz9 s):=(I.mod.glob.keeps I.bk).lt;exact Nat.lt_trans ↑2 h
def V2{Q:lr}(hu:A.units+1<cLine)(I:zv1 s)(g:Hq H a y o)(i:RelV y u)(h:∀s',Inv X aa σ H s'->Q (.bool o.isSome) s'):
 jW (kr X.prog X.w) A (compareOp .In u (.ref a)) Q E s:=by
 rcases g with⟨j,k,e,d,l⟩|⟨j,k,b,e,d,m,l⟩
 .subst d;let(z,hd,p,c,f):=jg I.aM e;refine wpAny_in_of (kQ i) hd f.mapOf ?_;rw [<-(c.val k).gq,<-l];exact h _ (I.tok _)
 .subst d;cases(show u=iv.ref b from i);let(z,hd,xs,c,f):=vc I.aM e;refine wpAny_in_heap (tupleKind_room_in1 hu) (oP I.aM m) hd f ?_;have q:=(c.val k).gq;rw [Option.isSome_map] at q;rw [<-q,<-l];exact h _ (I.tok _)
def HQ{Q:lr}(hu:A.units+1<cLine)(I:zv1 s)(g:Hq H a y o)(i:RelV y u)(h:∀s',Inv X aa σ H s'->Q (.bool (!o.isSome)) s'):
 jW (kr X.prog X.w) A (compareOp .NotIn u (.ref a)) Q E s:=by
 rcases g with⟨j,k,e,d,l⟩|⟨j,k,b,e,d,m,l⟩
 .subst d;let(z,hd,p,c,f):=jg I.aM e;refine wpAny_notIn_of (kQ i) hd f.mapOf ?_;rw [<-(c.val k).gq,<-l];exact h _ (I.tok _)
 .subst d;cases(show u=iv.ref b from i);let(z,hd,xs,c,f):=vc I.aM e;refine wpAny_notIn_heap (tupleKind_room_in1 hu) (oP I.aM m) hd f ?_;have q:=(c.val k).gq;rw [Option.isSome_map] at q;rw [<-q,<-l];exact h _ (I.tok _)
theorem gN{t':Nat}{ob:HO}(I:zv1 s)(c:QN (H a))(hs:kA.SameBut a s.heap h')(he:∃q,h'.get? a=hI q)(new:bX X.prog X.w (upd H a ob) h' a ob):
 Inv X aa σ (upd H a ob) {s with heap:=h',toks:=t'}:=
 I.write (x:=a) (e:=a) c (.inl rfl) (λb q d z=>(hs.2 b d).trans z) he new
def sA{P:jX}{w:kd}{d:Hp}{b:List (Key×V)}{vs:List (Key×iv)}(z:b.length<=kB)(hd:(a==sysModules)=ig)(c:KV b vs)(dd:h'.DictOf (bg P w) a vs):
 bX P w d h' a (.dK b):=⟨z,hd,vs,c,dd⟩
def qS{C:Hp}{Q:Unit->ix->Prop}(hu:A.units+1<cLine)(I:zv1 s)(g:wI H a y v C)(D:RelV y u)(rv:RelV v r)(h:∀s',Inv X aa σ C s'->Q () s'):
 jW (kr X.prog X.w) A (setItem (.ref a) u r) Q E s:=by
 rcases g with⟨f,k,e,m,l,p⟩|⟨f,k,b,e,m,F,l,p⟩
 .subst m p;let(z,hd,L,d,t):=u7 I.aM e;have B:L.length<=sizeLine:=by rw [<-d.length];exact z
  have hl:(putK f k v).length<=sizeLine:=by have:=ee f k v;lia
  refine wpAny_setItem_pairs (hsz:=B) (kQ D) t λG i hs=>h _ ?_;have M:∃q,G.get? a=hI q:=let⟨q,_,_,j,_⟩:=i;⟨q,j⟩;exact gN I (by rw [e];exact True.intro) hs M (sA hl hd (d.put k rv) i)
 .subst m p;cases(show u=iv.ref b from D);let(z,hd,xs,d,t):=RF I.aM e;have B:xs.length<=sizeLine:=by rw [<-Paired.length d];exact z
  have hl:(putK f k v).length<=sizeLine:=by have:=ee f k v;lia
  refine wpAny_setItem_heap (hsz:=B) (tupleKind_room_in1 hu) (oP I.aM F) t λG i hs=>h _ ?_;let(q,N,O,j,P,R,S,_,T):=i;refine gN I (by rw [e];exact True.intro) hs ⟨q,j⟩ {hl,hd,_,(d.put k F rv).keeps λc U K=>?_,q,N,O,j,P,R,S,T};rw [ag (vK K e nofun)];exact K
variable{aA:List (Key×V)}{k:Key}
def RA{v:V}{more:List iv}{Q:lr}(I:zv1 s)(e:H a=hI (.dK aA))(d:RelV (kV k) u)(l:lI aA k=hI v)(hm:more=[]\/∃x,more=[x])
 (h:∀c s',Inv X aa σ (upd H a (.dK (gh aA k))) s'->RelV v c->Q c s'):jW (kr X.prog X.w) A (call (.builtin "dict.pop") (.ref a::u::more)) Q E s:=by
 let(z,hd,f,b,g):=u7 I.aM e;let(c,m,p):=hW.some_of (v:=v) (o:=valueAt f k) (by rw [<-l];exact b.val k)
 have B:(keyPart u).isSome=ie:=by
  cases k with
  |inl i=>let(t,q):=(show∃t,u=iv.int i t from d);subst q;rfl|inr x=>let(t,q):=(show∃t,u=iv.str x t from d);subst q;rfl
 have ha:argsOk "dict.pop" {.ref a::u::more,[]}:=by
  rcases hm with q|⟨x,q⟩
  .subst q;exact PySem.F.args_dict_pop_2 _ _
  .subst q;exact PySem.F.args_dict_pop_3 _ _ _
 refine call_meetsIn PySem.F.slot_dict_pop g.typeIs PySem.F.entry_dict_pop ha (meets_dict_pop_there (bg X.prog X.w) a (kQ d) more hm B)
  {f,c,g,by rw [<-b.length];exact z,m,λC j hs=>h c _ ?_ p}
 have D:∃q,C.get? a=hI q:=let⟨q,_,_,G,_⟩:=j;⟨q,G⟩;exact gN I (by rw [e];exact True.intro) hs D (sA (d1 (Dg aA k) z) hd (b.drop k) j)
def Rz{Q:lr}(I:zv1 s)(e:Rd H a (.dK aA))(h:∀t s',Inv X aa σ H s'->Q (.int aA.length t) s'):jW (kr X.prog X.w) A (call (.builtin "len") [.ref a]) Q E s:=by let(z,hd,d,b,c):=jg I.aM e;refine call_len_dict hd c (by rw [<-b.length];rw [sizeLine_eq] at z;lia) ?_;rw [<-b.length];exact h _ _ (I.tok _)
end
abbrev TJ(td ty d:TE):TS:=λD b H=>d b H λv e=>td b e λx f=>ty b f λy g=>∃a c,x=.ref a/\wI g a y v c/\D.nx b c
section
variable{o i value:i2}{pos':Pos}{td ty tv:TE}
def JU(hu:X.A.units+1<cLine)(e:PE X o td)(f:PE X i ty)(j:PE X value tv)(hs:swapsWith value (hI (.Subscript o i pos')) pos.line X.env=pure ig):
 PS X (.Assign [.Subscript o i pos'] value pos) (TJ td ty tv):=by
 intro c s b H D I h;refine wpAny_Assign_Subscript (bM (j c s b H _ I h) λr k ⟨v,H1,m,rv,p⟩=>bM (e c k b H1 _ m p) λu q ⟨x,t,w,z,B⟩=>bM (f c q b t _ w B) λL M d=>?_) hs;let(y,N,C,E,a,F,ex,g,G):=d;subst ex;obtain rfl:u=iv.ref a:=z;exact qS hu C g E rv λO K=>⟨b,F,K,G⟩
end
theorem kJ{P:jX}{w:kd}(h:kA)(a:sysModules<h.objs.size):bX P w H (h.push {cls:=.type "dict",data:=.dict #[]}) h.objs.size (.dK []):=
 {Nat.zero_le _,beq_eq_false_iff_ne.mpr (Ne.symm (d8 a)),[],.nil,kA.DictOf.new h}
abbrev PR:TE:=λZ H Q=>∀p,H p=h9->Q (.ref p) (upd H p (.dK []))
theorem vT:PE X (.Dict [] [] pos) PR:=λb s c H Q I h=>wpAny_Dict_empty {.ref (zz9 s),_,I.laid (a:=(zz9 s)) (o:=.dK []) (t':=s.toks) (λZ Z q=>aT _ q) (a7 _) (kJ s.heap I.big),rfl,h _ (I.aM.fresh (a7 _))}
def pN:List (TE×TE)->St->Hp->(List (V×V)->Hp->Prop)->Prop
 |[],_,H,Q=>Q [] H|(tk,a)::r,σ,H,Q=>tk σ H λx H1=>a σ H1 λy b=>pN r σ b λps c=>Q ((x,y)::ps) c
noncomputable abbrev VV:List (V×V)->List (iv×iv)->Prop:=Paired λp q=>RelV p.1 q.1/\RelV p.2 q.2
def QP(X:Cx)(pos:Pos)(keys:List (Option i2))(a:List i2)(f:List (TE×TE)):Prop:=
 ∀(c:lu) (s:ix) (b:St) (H:Hp) (Q:List (V×V)->Hp->Prop),Inv X c b H s->pN f b H Q->
  zx7 X (evalPairs (pairTrees keys a X.env pos)) (λg h=>∃d e,Inv X c b e h/\VV d g/\Q d e) X.xe s
def JS:QP X pos [] [] []:=λa s b H Q I h=>pairTrees_nil_walk {[],H,I,.nil,h}
def FC{k v:i2}{ks:List (Option i2)}{vs:List i2}{tk c:TE}{d:List (TE×TE)}(hk:PE X k tk)(e:PE X v c)(hr:QP X pos ks vs d):
 QP X pos (hI k::ks) (v::vs) ((tk,c)::d):=λa s b H Q I h=>
 pairTrees_cons_walk (bM (hk a s b H _ I h) λu f ⟨x,H1,g,i,j⟩=>bM (e a f b H1 _ g j) λB m ⟨y,o,p,q,r⟩=>bM (hr a m b o _ p r) λC D ⟨t,w,z,rel,A⟩=>{(x,y)::t,w,z,.cons ⟨i,q⟩ rel,A})
abbrev cL(c more:List (Key×V)):List (Key×V):=more.foldl (λa b=>putK a b.1 b.2) c
def KV.merge:∀{more:List (Key×V)} {rs:List (Key×iv)} {a:List (Key×V)} {vs:List (Key×iv)},KV more rs->KV a vs->KV (cL a more) (merged vs rs):=by
 intro more rs a vs r;unfold KV at r
 induction r generalizing a vs with
 |nil=>intro q;exact q|@cons p q d qs h t b=>
  intro c;have e:KV (putK a p.1 p.2) (stored vs q.1 q.2):=by have:=c.put p.1 h.2;rw [<-h.1];exact this
  exact b e
theorem jh:∀(more a:List (Key×V)),(cL a more).length<=a.length+more.length
 |[],a=>by show a.length<=a.length+0;lia|p::r,a=>by have b:=jh r (putK a p.1 p.2);have c:=ee a p.1 p.2;show(cL (putK a p.1 p.2) r).length<=_;rw [c4];lia
theorem n0{P:jX}{w:kd}:∀{d:List (Key×V)} {ws:List (iv×iv)},VV (d.map λe=>(kV e.1,e.2)) ws->∃rs,Carries (bg P w) ws rs/\KV d rs
 |[],_,r=>by rw [List.map_nil] at r;cases r;exact{[],True.intro,.nil}
 |p::d,_,r=>by
  rw [a8] at r;cases r with
  |@cons a b as bs h t=>let(rs,c,q):=n0 (P:=P) (w:=w) t;let(b1,f):=b;exact{(p.1,f)::rs,{kQ h.1,rfl,c},.cons ⟨rfl,h.2⟩ q}
abbrev TZ(d:List (TE×TE)):TE:=λe H Q=>∀p,H p=h9->pN d e (upd H p (.dK [])) λf b=>b p=hI (.dK [])/\∃a:List (Key×V),f=a.map (λc=>(kV c.1,c.2))/\a.length<=15/\Q (.ref p) (upd b p (.dK (cL [] a)))
def JJ{keys:List (Option i2)}{b:List i2}{g:List (TE×TE)}(h:QP X pos keys b g)(m:keys.all (·.isSome)=ie)(hl:keys.length=b.length)(p:keys≠[])
 (r:keys.length<=15):PE X (.Dict keys b pos) (TZ g):=by
 intro t s u H Q I q;have y:=I.aM.fresh (a7 (zz9 s));have A:=I.laid (a:=(zz9 s)) (o:=.dK []) (h':=s.heap.push {cls:=.type "dict",data:=.dict #[]}) (t':=s.toks) (λZ Z q=>aT _ q) (a7 _) (kJ s.heap I.big);refine wpAny_Dict_walk (knd:=bg X.prog X.w) m hl p r (bM (h t _ u _ _ A (q _ y)) λO R d=>?_);let(S,T,i,f,e,j,B,U,C):=d;subst B;let(rs,c,D):=n0 (P:=X.prog) (w:=X.w) f;let(z,hd,E,F,G):=u7 i.aM e;cases F;refine{rs,c,G,λh' k hs=>{.ref (zz9 s),_,?_,rfl,C}};have K:(cL [] j).length<=sizeLine:=by have L:=jh j [];rw [List.length_nil] at L;rw [sizeLine_eq];lia
 have M:∃q,h'.get? (zz9 s)=hI q:=let⟨q,_,_,N,_⟩:=k;⟨q,N⟩;exact gN i (by rw [e];exact True.intro) hs M (sA K hd (D.merge .nil) k)
structure M1(X:Cx)(o:i2)(m:Str)(apos:Pos)(e:i2)(bE:Pos):Prop where
 base:attributeBase o m X.env (eval o X.env)=eval o X.env
 UQ:((backTo bE (starEach [e] X.env)).all (λx=>!x.1)&&(backToKw bE (keywordEach [] X.env)).all (λx=>x.1.isSome)
  &&decide (([e]:List i2).length+([]:List Keyword).length+(if([]:List Keyword).isEmpty then 0 else 1)<30))=ie
 line:(apos.endLine==bE.line)=ie
 trees:backTo bE (starEach [e] X.env)=[(ig,eval e X.env)]
def CB(H:Hp)(a:i1):Prop:=(∃b,Rd H a (.dK b))\/∃b,Rd H a (.dT b)
def Eh{h:St}{s:ix}(I:Inv X aa h H s)(d:CB H a):
 s.TypeIs (.ref a) "dict"/\(∀b,iv.ref a=.ref b->∃ob,s.heap.get? b=hI ob/\ob.dict=h9)/\(a==sysModules)=ig:=by
 rcases d with⟨i,e⟩|⟨i,e⟩
 .let(_,hd,j,_,c):=jg I.aM e;refine{c.typeIs,λb q=>?_,hd};cases q;let(ob,_,_,f,g,_):=c;exact⟨ob,f,g.2.1⟩
 .let(_,hd,xs,_,c):=vc I.aM e;refine{c.typeIs,λb q=>?_,hd};cases q;let(ob,_,_,f,g,_):=c;exact⟨ob,f,g.2.1⟩
section
variable{s:ix}{y:V}{o:Option V}{E:lr}
def Ms{Q:lr}(hu:A.units+1<cLine)(I:zv1 s)(g:Hq H a y o)(i:RelV y u)(h:∀j s',Inv X aa σ H s'->RelV (o.getD .aR) j->Q j s'):
 jW (kr X.prog X.w) A (call (.builtin "dict.get") [.ref a,u]) Q E s:=by
 rcases g with⟨m,k,e,f,l⟩|⟨m,k,b,e,f,p,l⟩
 .subst f;let(z,hd,q,c,d):=jg I.aM e;refine call_meetsIn PySem.F.slot_dict_get d.typeIs PySem.F.entry_dict_get (PySem.F.args_dict_get_2 _ _) (meets_dict_get (bg X.prog X.w) a (kQ i) hd) {_,d.mapOf,h _ _ (I.tok _) ?_};rw [l];exact(c.val k).getD rfl
 .subst f;cases(show u=iv.ref b from i);let(z,hd,xs,c,d):=vc I.aM e;refine call_meetsIn PySem.F.slot_dict_get d.typeIs PySem.F.entry_dict_get (PySem.F.args_dict_get_2 _ _) (meetsH_dict_get (tupleKind (bg X.prog X.w)) a b hd) {tupleKind_room_in1 hu,k,xs,oP I.aM p,d,h _ _ (I.tok _) ?_};rw [l];exact(c.val k).getD rfl
end
abbrev PQ(td ty:TE):TE:=λb H Q=>td b H λx c=>∃a,x=.ref a/\CB c a/\ty b c λy d=>∃o,Hq d a y o/\Q (o.getD .aR) d
abbrev PU(td ty:TE):TE:=λc H Q=>td c H λx d=>∃a,x=.ref a/\CB d a/\ty c d λy e=>∃b k v,e a=hI (.dK b)/\y=kV k/\lI b k=hI v/\Q v (upd e a (.dK (gh b k)))
section
variable{o:i2}{apos bE:Pos}{td ty:TE}
def Ff(hu:X.A.units+1<cLine)(j:PE X o td)(he:PE X e ty)(m:M1 X o "get" apos e bE):PE X (.Call (.Attribute o "get" apos) [e] [] bE) (PQ td ty):=by intro c s f H Q I h;refine wpAny_Call_method m.base m.UQ m.line PySem.F.plainAttrs_dict PySem.F.slot_dict_get PySem.F.type_dict_get (bM (j c s f H _ I h) λu k b=>?_);let(x,p,i,q,a,ex,d,r):=b;subst ex;obtain rfl:u=iv.ref a:=q;let(t,t2,_):=Eh i d;refine{t,t2,?_};rw [m.trees];refine Calls.callWith_builtin rfl (Calls.evalArgs_plain (Calls.spliced_cons (bM (he c k f p _ i r) λG K ⟨y,w,z,B,L,g,C⟩=>Calls.spliced_nil ?_)));exact Ms hu z g B λM N D E=>{_,w,D,E,C}
def Fg(i:PE X o td)(he:PE X e ty)(m:M1 X o "pop" apos e bE):PE X (.Call (.Attribute o "pop" apos) [e] [] bE) (PU td ty):=by intro c s f H Q I h;refine wpAny_Call_method m.base m.UQ m.line PySem.F.plainAttrs_dict PySem.F.slot_dict_pop PySem.F.type_dict_pop (bM (i c s f H _ I h) λu j b=>?_);let(x,p,g,q,a,ex,d,r):=b;subst ex;obtain rfl:u=iv.ref a:=q;let(t,t2,_):=Eh g d;refine{t,t2,?_};rw [m.trees];refine Calls.callWith_builtin rfl (Calls.evalArgs_plain (Calls.spliced_cons (bM (he c j f p _ g r) λG K ⟨y,L,w,z,M,k,v,A,B,l,C⟩=>Calls.spliced_nil ?_)));subst B;exact RA w A z l (.inl rfl) λN O D E=>{v,_,D,E,C}
end
end L2
namespace Att
open PySem.W PySem.Calls PyProof.Rows
end Att
namespace L2
open PySem.Spec PyProof.Rows
section
variable{κ:Type}[DecidableEq κ]
def AX{p:κ×V}{r:List (κ×V)}{k:κ}(e:p.1=k):gh (p::r) k=gh r k:=by unfold gh;rw [g5,if_neg (by simp [e])]
def AW{p:κ×V}{r:List (κ×V)}{k:κ}(e:¬p.1=k):gh (p::r) k=p::gh r k:=by unfold gh;rw [g5,if_pos (by simp [e])]
end
end L2
set_option maxHeartbeats 8000000
namespace L2
open PySem.Spec PyProof.Rows
section
variable{w:kd}{κ:Type}[DecidableEq κ]{E:lr}{s:ix}{d:i1}
def yX{c:Array DictEntry}{e:Nat}{Q:lr}(g:(d==sysModules)=ig)(b:s.heap.get? d=hI o)(h:o.ExactDict)(f:o.data=.dict c e)
 (i:Q (.ref (zz9 s)) {s with heap:=s.heap.push {cls:=.type "dict_keyiterator",data:=.fields #[.ref d,.int 0 0,.int c.size 0,.int e 0]}}):jW (kr prog w) A (pyIter (.ref d)) Q E s:=by
 have T:s.TypeIs (.ref d) "dict":=⟨o,b,h.1⟩;refine wpAny_pyIter_slot T F.slot_dict_iter (wpAny_call_entry F.slot_dict_iter T F.entry_dict_iter ?_ (F.args_dict_iter_1 _));unfold lb.«dict.__iter__» lb.Dict.dictSlotNone;refine ar (ar (wpAny_notOrdered_dict T ?_));show jW _ _ (pure (iv.ref d):Sem iv) _ _ s;refine bc ?_;show jW _ _ (lb.Dict.showsAll d>>=λZ=>_) _ _ s;unfold lb.Dict.showsAll;rw [if_neg (by rw [g];exact zzf)];refine ar (bc (ar (wpAny_dictEntries b f (ar (wpAny_dictEpoch b f ?_)))));refine ar (wpAny_newObj_type (bc {_,rfl,"dict_keyiterator",_,{_,d4 _ rfl,rfl},F.slot_dict_keyiterator_next.lookup,?_}));simpa [rawInt] using i
def yY{it:i1}{i e:Nat}{b:Array DictEntry}{Q:Option iv->ix->Prop}(st:s.heap.IsKeyIter it d i b.size e)(f:s.heap.get? d=hI o)(g:o.data=.dict b e)(j:i<b.size)
 (k:∀h',h'.IsKeyIter it d (i+1) b.size e->kA.SameBut it s.heap h'->Q (hI b[i].key) {s with heap:=h'}):jW (kr prog w) A (pyNext (.ref it)) Q E s:=by
 let(m,g1,g2,c):=id st;have own:lb.Dict_items.ownsTuple "dict_keyiterator"=ig:=↑2
 unfold pyNext;refine ar (wpAny_attempt (wpAny_callSpecial?_slot (name:=Str.ofString (zu 46)) st.typeIs F.slot_dict_keyiterator_next (wpAny_call_entry F.slot_dict_keyiterator_next st.typeIs F.entry_dict_keyiterator_next ?_ (F.args_dict_keyiterator_next_1 _))));refine ar (bc (ar (ar ?_)))
 first|refine ar (wpAny_typeNameOfWhole_keyiter st.typeIs (bc (ar (wpAny_fieldsOf g1 c ?_))))|refine ar (wpAny_typeNameOf_keyiter st.typeIs (bc (ar (wpAny_fieldsOf g1 c ?_))))
 simp! [own,eg,if_false];show jW _ _ (if(iv.ref d==iv.none)=ie then _ else _:Sem _) _ _ s;rw [if_neg (show¬((iv.ref d==iv.none)=ie) from zzf)];refine ar (bc (ar (wpAny_dictEntries f g ?_)));rw [if_neg (by simp)];refine ar (bc (ar (wpAny_dictEpoch f g ?_)));rw [if_neg (by simp)];refine bc ?_;simp! [show¬((i:Int)<0) from by lia,if_false,hB,gf j];refine ar ?_
 first|refine ar (wpAny_typeNameOfWhole_keyiter st.typeIs (bc (ar (wpAny_isOneOf_keyiter st.typeIs ?_))))|refine ar (wpAny_typeNameOf_keyiter st.typeIs (bc (ar (wpAny_isOneOf_keyiter st.typeIs ?_))))
 show jW _ _ (setField (.ref it) 1 (rawInt ((i:Int)+1))>>=λZ=>_) _ _ s
 have h:(s.heap.update it (Obj.mapFields (·.setIfInBounds 1 (rawInt ((i:Int)+1))))).IsKeyIter it d (i+1) b.size e:=
  {_,kA.get?_update_self _ g1 (Obj.isFreed_of_fields (Obj.data_mapFields c _)),(Obj.cls_mapFields ..).trans g2,by rw [Obj.data_mapFields c];simp [rawInt]}
 refine ar (wpAny_setField g1 c (by simp) (ar (wpAny_holding (ar (wpAny_isOneOf_keyiter (s:={s with heap:=s.heap.update it (Obj.mapFields (·.setIfInBounds 1 (rawInt ((i:Int)+1))))}) h.typeIs ?_)))));show jW _ _ (pure b[i].key:Sem iv) _ _ _;exact bc (bc {_,rfl,bc (k _ h (e6 ..))})
def DZ{it:i1}{i f:Nat}{c:Array DictEntry}{Q:Option iv->ix->Prop}(j:A.handled=h9)(st:s.heap.IsKeyIter it d i c.size f)(g:s.heap.get? d=hI o)(h:o.data=.dict c f)(k:c.size<=i)
 (p:∀h',kA.ExtBut it s.heap h'->Q h9 {s with heap:=h'}):jW (kr prog w) A (pyNext (.ref it)) Q E s:=by
 let(q,g1,g2,e):=id st;have own:lb.Dict_items.ownsTuple "dict_keyiterator"=ig:=↑2
 unfold pyNext;refine ar (wpAny_attempt (wpAny_callSpecial?_slot (name:=Str.ofString (zu 46)) st.typeIs F.slot_dict_keyiterator_next (wpAny_call_entry F.slot_dict_keyiterator_next st.typeIs F.entry_dict_keyiterator_next ?_ (F.args_dict_keyiterator_next_1 _))));refine ar (bc (ar (ar ?_)))
 first|refine ar (wpAny_typeNameOfWhole_keyiter st.typeIs (bc (ar (wpAny_fieldsOf g1 e ?_))))|refine ar (wpAny_typeNameOf_keyiter st.typeIs (bc (ar (wpAny_fieldsOf g1 e ?_))))
 simp! [own,eg,if_false];show jW _ _ (if(iv.ref d==iv.none)=ie then _ else _:Sem _) _ _ s;rw [if_neg (show¬((iv.ref d==iv.none)=ie) from zzf)];refine ar (bc (ar (wpAny_dictEntries g h ?_)));rw [if_neg (by simp)];refine ar (bc (ar (wpAny_dictEpoch g h ?_)));rw [if_neg (by simp)];refine bc ?_;simp! [show¬((i:Int)<0) from by lia,if_false,hB,Array.getElem?_eq_none k];refine ar ?_
 first|refine ar (wpAny_typeNameOfWhole_keyiter st.typeIs (bc ?_))|refine ar (wpAny_typeNameOf_keyiter st.typeIs (bc ?_))
 show jW _ _ (setField (.ref it) 0 .none>>=λZ=>_) _ _ s;refine ar (wpAny_setField g1 e (by simp) ?_);show jW _ _ (newExc (.type (zu 21)) []>>=λZ=>_) _ _ _;refine ar ?_;simp! [newExc,newTuple];refine ar (wpAny_newObj_type (ar (m:=firstArgMember _ _) (wpAny_of_eq (a:=iv.none) (by first|rfl|(simp! [firstArgMember];rfl)) (wpAny_newObj_type ?_ (by size_fits)))) (by size_fits));simp! [raiseNew];refine ar (wpAny_handled ?_);rw [show A.in1.handled=h9 from j];refine ar (bc (wpAny_throw ?_));refine ar (wpAny_isInstance (T:=(zu 21)) (b:=ie) {_,d4 _ rfl,rfl} isSubtype_stop ?_);exact bc (p _ (((e6 ..).extBut.push _).push _))
end
abbrev cw(env:Env)(ys:List Str):List (Str×i1):=ys.map λy=>(y,(env.cells.lookup y).getD 0)
abbrev Bf(a:St)(is:List Nat):St:=is.map λi=>(a[i]?).join
abbrev qm(a:kv)(x:Str):Bool:=a.names.lookup x==hI .cell
theorem w8{c:i1}:∀(names:List (Str×NameKind)) (n:Nat) (a:List (Str×i1)),(x,c)∈lg n names a->(x,c)∈a\/(x,NameKind.cell)∈names/\n<=c
 |[],n,a,h=>by rw [lg.eq_def] at h;exact .inl h
 | (y,k)::r,n,a,h=>by
  rw [lg.eq_def] at h;dsimp only at h;split at h
  .rename_i hk;cases eq_of_beq hk;rcases w8 r (n+1) _ h with z|⟨b,d⟩
   .rcases er.mp z with z|z
    .cases z;exact .inr {c8 ..,a7 _}
    .exact .inl z
   .exact .inr {cz _ b,Nat.le_of_succ_le d}
  .rcases w8 r n _ h with z|⟨b,d⟩
   .exact .inl z
   .exact .inr {cz _ b,d}
theorem sm{c:i1}:∀(names:List (Str×NameKind)) (n:Nat) (a:List (Str×i1)),(lg n names a).lookup x=hI c->a.lookup x=hI c\/(x,NameKind.cell)∈names/\n<=c
 |[],n,a,h=>by rw [lg.eq_def] at h;exact .inl h
 | (y,k)::r,n,a,h=>by
  rw [lg.eq_def] at h;dsimp only at h;split at h
  .rename_i hk;cases eq_of_beq hk;rcases sm r (n+1) _ h with z|⟨b,d⟩
   .rw [hD] at z;cases e:x==y with
    |true=>rw [e] at z;cases z;cases eq_of_beq e;exact .inr {c8 ..,a7 _}
    |false=>rw [e] at z;exact .inl z
   .exact .inr {cz _ b,Nat.le_of_succ_le d}
  .rcases sm r n _ h with z|⟨b,d⟩
   .exact .inl z
   .exact .inr {cz _ b,d}
theorem sj:∀(names:List (Str×NameKind)) (n:Nat) (a:List (Str×i1)),(x,NameKind.cell)∉names->(lg n names a).lookup x=a.lookup x
 |[],n,a,_=>by rw [lg.eq_def]|(y,k)::r,n,a,h=>by
  rw [lg.eq_def];dsimp only;have hr:(x,NameKind.cell)∉r:=λz=>h (cz _ z);split
  .rename_i hk;cases eq_of_beq hk;rw [sj r (n+1) _ hr,hD];cases e:x==y with
   |true=>cases eq_of_beq e;exact absurd (c8 ..) h
   |false=>rfl
  .exact sj r n a hr
theorem Mh{c:i1}:∀(names:List (Str×NameKind)) (n:Nat) (a:List (Str×i1)),(x,c)∈lg n names a->(∀p∈a,p.2≠c)->(x,c)∈lg n names []
 |names,n,a,h,ha=>by
  have key:∀(names:List (Str×NameKind)) (n:Nat) (a b:List (Str×i1)),(x,c)∈lg n names (b++a)->(∀p∈a,p.2≠c)->(x,c)∈lg n names b:=by
   intro names
   induction names with
   |nil=>
    intro n a b h ha;rw [lg.eq_def] at h⊢;rcases List.mem_append.mp h with z|z
    .exact z
    .exact absurd rfl (ha _ z)
   |cons y r d=>
    intro n a b h ha;let(y,k):=y;rw [lg.eq_def] at h⊢;dsimp only at h⊢;split at h
    .rename_i hk;rw [if_pos hk];exact d (n+1) a ((y,n)::b) h ha
    .rename_i hk;rw [if_neg hk];exact d n a b h ha
  exact key names n a [] h ha
theorem su{y:Str}{c:i1}:∀(names:List (Str×NameKind)) (n:Nat) (a:List (Str×i1)),(∀p∈a,p.2<n)->n<=c->(x,c)∈lg n names a->(y,c)∈lg n names a->x=y
 |[],n,a,ha,e,b,d=>by rw [lg.eq_def] at b;exact absurd (ha _ b) (Nat.not_lt.mpr e)
 | (z,k)::r,n,a,ha,e,b,d=>by
  rw [lg.eq_def] at b d;dsimp only at b d;split at b
  .rename_i hk;rw [if_pos hk] at d;have f:∀p∈(z,n)::a,p.2<n+1:=λp i=>by
    rcases er.mp i with q|q
    .rw [q];exact Nat.lt_succ_self _
    .exact Nat.lt_succ_of_lt (ha p q)
   by_cases g:n+1<=c
   .exact su r (n+1) _ f g b d
   .have one:∀{w:Str},(w,c)∈lg (n+1) r ((z,n)::a)->w=z:=λ{w} h=>by
     rcases w8 r (n+1) _ h with q|q
     .rcases er.mp q with q|q
      .cases q;rfl
      .exact absurd (ha _ q) (Nat.not_lt.mpr e)
     .exact absurd q.2 g
    rw [one b,one d]
  .rename_i hk;rw [if_neg hk] at d;exact su r n a ha e b d
def yy{M:Model}{E:lr}{s:ix}{a:kv}{g:i1}{cl:List (Str×i1)}{c:Env}{Q:Env->ix->Prop}
 (h:Q (newEnv a (zz9 s) g (lg ((zz9 s)+1) a.names cl) qual h9 .none (hI c) builtinsNs) {s with heap:=pushCells (s.heap.push {cls:=.type "dict",data:=.dict #[]}) a.names}):
 jW M A (newFunctionEnv a g cl [] qual h9 .none (hI c)) Q E s:=by
 unfold newFunctionEnv;refine ar (wpAny_alloc ?_);refine ar (wpAny_forIn_list _ (λrest b f=>f={s with heap:=f.heap}/\pushCells f.heap rest=pushCells (s.heap.push {cls:=.type "dict",data:=.dict #[]}) a.names/\lg (zz9 f) rest b=lg ((zz9 s)+1) a.names cl) _ (λx rest b f j=>?_) (λb f j=>?_) a.names cl {rfl,rfl,by rw [kA.size_push]})
 .let(i,d,e):=j;let(nm,k):=x;rw [pushCells.eq_def] at d;rw [lg.eq_def] at e;dsimp only at d e⊢;split
  .rename_i hk;rw [if_pos hk] at d e;refine ar (wpAny_alloc (bc {by rw [i],d,?_}));dsimp only;rw [kA.size_push];exact e
  .rename_i hk;rw [if_neg hk] at d e;exact bc ⟨i,d,e⟩
 .let(i,d,e):=j;rw [pushCells.eq_def] at d;rw [lg.eq_def] at e;dsimp only at d e;subst e;rw [i,d];exact ar (bc (bc h))
noncomputable def cV(X:Cx)(d:List Str)(a:kv)(cl:List (Str×i1))(fp:List i1)(b:ix)(c:Hp)(C:i1):Cx where
 prog:=X.prog
 w:=X.w
 K:=X.K
 mg:=X.mg
 base:=X.base
 A:=X.A
 N:=d
 s₀:=b
 H₀:=c
 env:=compEnvC a (lg (C+1) a.names cl) C X.env
 outer:=X.stack
 stack:=X.stack
 ex:=fp
 fn:=qm a
 calm:=ie
 pn:=[]
 xe:=λZ Z=>False
theorem fC{env:Env}:∀{ys:List Str},(ys.all λy=>(env.cells.lookup y).isSome)=ie->∀(x:Str) (c:i1),(cw env ys).lookup x=hI c->env.cells.lookup x=hI c
 |[],_,_,_,h=>by simp [cw] at h|y::ys,ha,x,c,h=>by
  rw [List.all_cons,zza] at ha;have b:=fC (env:=env) ha.2 x c
  unfold cw at h b;rw [a8,hD] at h;cases e:x==y with
  |true=>rw [e] at h;have a:x=y:=zzy.mp e;subst a;let(f,d):=ew.mp ha.1;rw [d] at h⊢;exact h|false=>rw [e] at h;exact b h
theorem kF{env:Env}:∀{ys:List Str} {x:Str},x∈ys->∃c,(cw env ys).lookup x=hI c
 |[],_,h=>nomatch h|y::ys,x,h=>by
  unfold cw;rw [a8,hD];cases e:x==y with
  |true=>exact{_,rfl}|false=>
   have a:x∈ys:=by
    rcases er.mp h with z|z
    .rw [z] at e;simp at e
    .exact z
   exact kF (env:=env) a
def mQ{a:kv}{env:Env}{k:NameKind}(h:(relabel a env).names.lookup x=hI k)(hk:k=.cell\/k=.free):∃b,(x,b)∈a.names/\(b=.cell\/b=.free):=by
 have hm:=PySem.mem_of_lookup h;unfold relabel at hm;let((n,f),c,e):=fP.mp hm;dsimp only at e;split at e
 .rename_i d;cases e;refine{f,c,.inr ?_};rw [zza,zza] at d;exact zzy.mp d.1.1
 .cases e;exact⟨k,c,hk⟩
structure ij(X:Cx)(scope:kv)(xs ys:List Str)(is:List Nat):Prop where
 kind:scope.kind=.function
 VZ:closureFor scope X.env=pure (cw X.env ys)
 cells:(ys.all λy=>(X.env.cells.lookup y).isSome)=ie
 Mo:(scope.names.all λy=>(decide (y.2≠.cell)||!ys.contains y.1)&&(decide (y.2≠.free)||ys.contains y.1))=ie
 own:(scope.names.all λy=>decide (y.2≠.cell)||decide (scope.names.lookup y.1=hI .cell))=ie
 names:(scope.names.all λy=>decide (y.2≠.local)||decide (scope.names.lookup y.1=hI .local))=ie
 slots:is.map (λi=>X.N[i]?)=ys.map hI
 kX:(ys.all λy=>decide (X.env.kindOf y=hI .cell))=ie
 kY:(ys.all λy=>decide ((relabel scope X.env).names.lookup y=hI .cell))=ie
section
variable{s:ix}{scope:kv}{xs ys:List Str}{is:List Nat}
def ij.OQ(S:ij X scope xs ys is)(h:(x,NameKind.cell)∈scope.names):scope.names.lookup x=hI .cell/\x∉ys:=by
 have q:=d0.mp S.own _ h;have c:=d0.mp S.Mo _ h;rw [zza,eH] at c;rw [eH] at q;refine{zzY (q.resolve_left λz=>zzY z rfl),λa=>?_}
 rcases c.1 with z|z
 .exact zzY z rfl
 .rw [et.mpr a] at z;cases z
def ip(I:zv1 s)(S:ij X scope xs ys is){C:i1}(hC:(zz9 s)<=C){c:i1}(h:(lg (C+1) scope.names (cw X.env ys)).lookup x=hI c):
 (X.env.cells.lookup x=hI c/\c<(zz9 s)/\x∈ys)\/((x,NameKind.cell)∈scope.names/\C+1<=c):=by
 rcases sm _ _ _ h with z|z
 .have e:=fC S.cells x c z;let(v,q):=I.cell x c e;refine .inl {e,q.lt,?_};have hm:=PySem.mem_of_lookup z;unfold cw at hm;let(y,a,b):=fP.mp hm;cases b;exact a
 .exact .inr z
def AI(I:zv1 s)(u:X.calm=ie)(S:ij X scope xs ys is){w:List Str}{fp:List i1}{C:i1}(hC:(zz9 s)<=C)(hf:∀b∈fp,jr X aa H b)(i:∀b∈fp,b<(zz9 s)):
 (cV X w scope (cw X.env ys) fp s H C).Ok where
 mod:=I.ok.mod
 kind:=S.kind
 glob:=I.ok.glob
 blt:=I.ok.blt
 above:=hC
 inj:=λx y c j k=>by
  rcases ip I S hC j with d|d
  .rcases ip I S hC k with g|g
   .exact I.ok.inj x y c d.1 g.1
   .exact absurd d.2.1 (Nat.not_lt.mpr (d1 hC (Nat.le_of_succ_le g.2)))
  .refine su scope.names (C+1) (cw X.env ys) (λp m=>?_) d.2 (PySem.mem_of_lookup j) (PySem.mem_of_lookup k);unfold cw at m;let(y,A,rfl):=fP.mp m;let(B,r):=ew.mp (d0.mp S.cells y A);let(v,q):=I.cell y B r;dsimp only;rw [r];exact Nat.lt_succ_of_le (d1 (Nat.le_of_lt q.lt) hC)
 has:=λx D=>by
  have E:(relabel scope X.env).names.lookup x=hI .cell\/(relabel scope X.env).names.lookup x=hI .free:=D
  have:∃f,(x,f)∈scope.names/\(f=.cell\/f=.free):=by
   rcases E with z|z
   .exact mQ z (.inl rfl)
   .exact mQ z (.inr rfl)
  let(f,hm,hk):=this;have t:=d0.mp S.Mo _ hm
  rw [zza,eH,eH] at t;rcases hk with z|z
  .subst z;exact ew.mp (PySem.W.cellsFrom_some _ _ _ (.inl (S.OQ hm).1))
  .rcases t.2 with q|q
   .exact absurd z (zzY q)
   .refine ew.mp (PySem.W.cellsFrom_some _ _ _ (.inr ?_));let(c,e):=kF (env:=X.env) (et.mp q);rw [e];rfl
 Me:=λx c h e=>by
  have hm:(x,NameKind.cell)∈scope.names:=PySem.mem_of_lookup (eq_of_beq h)
  rcases ip I S hC e with z|z
  .exact absurd z.2.2 (S.OQ hm).2
  .exact d1 hC (Nat.le_of_succ_le z.2)
 hd:=λZ=>I.ok.hd u
 frames:=I.ok.frames
 PL:=.inl rfl
 V6:=λb a=>{d8 (d3 (i b a) hC),λx c h=>(ip I S hC h).elim (λz=>(hf b a).2.2.2.2.1 x c z.1) λz q=>absurd (i b a) (Nat.not_lt.mpr (q▸d1 hC (Nat.le_of_succ_le z.2)))}
 bs:=λb o e=>I.bs b o e
 wY:=d1 I.ok.wY I.sz
 Bw:=λb o e a=>by
  rcases(hf b a).2.2.2.1 with z|z
  .exact I.ok.Bw b o e z
  .exact absurd (d3 (c6 e) (d1 I.ok.wY z)) (Nat.lt_irrefl _)
 Dl:=λb a hs=>(er.mp (I.my b hs)).elim (hf b a).2.1 (hf b a).2.2.1
 hZ:=I.stack
 xm:=λb a=>I.nK b a
theorem y8:∀{is:List Nat} {ys:List Str},is.map (λi=>N[i]?)=ys.map hI->∀(j:Nat) (y:Str) (v:V),ys[j]?=hI y->(Bf σ is)[j]?=hI (hI v)->∃i:Nat,N[i]?=hI y/\σ[i]?=hI (hI v)
 |[],[],_,_,_,_,h,_=>by simp at h|[],_::_,h,_,_,_,_,_=>by simp at h|_::_,[],h,_,_,_,_,_=>by simp at h|i::is,c::ys,h,0,y,v,b,a=>by rw [a8,a8] at h;have d:=(List.cons.inj h).1;simp! [List.getElem?_cons_zero,Option.some.injEq] at b;subst b;refine{i,d,?_};unfold Bf at a;simp! [a8,List.getElem?_cons_zero,Option.some.injEq] at a;exact Option.join_eq_some_iff.mp a|i::is,c::ys,h,j+1,y,v,b,a=>by rw [a8,a8] at h;refine y8 (is:=is) (ys:=ys) (List.cons.inj h).2 j y v (zx6 b) ?_;unfold Bf at a⊢;simpa using a
noncomputable abbrev lobj(a:List iv)(n:Nat):Obj:={cls:=.type "list",data:=.seq a.toArray n}
def Bo(a:List iv)(n:Nat)(v:Option iv):(lobj a n).data≠.cell v:=λz=>by cases z
noncomputable abbrev tests(a:List i2)(env:Env):Sem Bool:=forIn a ie λc r=>if r=ie then do let ok<-isTrue c env (eval c env);pure (ForInStep.yield ok) else pure (ForInStep.yield r)
theorem sx{w:kd}{R:Result->ix->Prop}{s:ix}{a iter:i2}{q:List i2}{scope:kv}{it t:iv}{env:Env}(I:Nat->ix->Prop)
 (turn:∀n s,I n s->jW (kr prog w) A (pyNext it) (λr b=>match r with
  |none=>R (.ok .next) b|some v=>jW (kr prog w) A (letOwnedTupleGo a it v) (λZ c=>jW (kr prog w) A (assign a env v) (λZ g=>
   jW (kr prog w) A (tests q env) (λok d=>if ok=ie then jW (kr prog w) A (eval p env) (λx i=>
    jW (kr prog w) A (call (.builtin "list.append") [t,x]) (λZ j=>∃m,m<n/\I m j) (notedBy (kr prog w) A env λe s'=>R (.error e) s') i) (notedBy (kr prog w) A env λe s'=>R (.error e) s') d
    else∃m,m<n/\I m d) (notedBy (kr prog w) A env λe s'=>R (.error e) s') g)
   (notedBy (kr prog w) A env λe s'=>R (.error e) s') c) (notedBy (kr prog w) A env λe s'=>R (.error e) s') b) (notedBy (kr prog w) A env λe s'=>R (.error e) s') s)
 (n:Nat) (h:I n s):
 codeAny (kr prog w) A (.compLoop (.ListComp p [{a,iter,q,0}] scope pos) 0 it t env) R s:=by
 refine codeAny_loop rfl I (λn s C=>?_) n h;show jW _ A ((compTurn (.ListComp p [{a,iter,q,0}] scope pos) 0 it t env).onRaise (λx=>do noteFrame x env;theTreesLotGoes x)) _ _ s;refine wpAny_noted ?_;rw [compTurn_list];refine ar (wpAny_standAt (ar (wpAny_mono (turn n s C) (λr b k=>?_) λZ Z f=>f)))
 cases r with
 |none=>exact bc k|some v=>
  refine ar (wpAny_mono k (λZ c u=>?_) λZ Z f=>f);refine ar (wpAny_mono u (λZ g y=>ar (wpAny_mono y (λok d o=>?_) λZ Z f=>f)) λZ Z f=>f)
  cases ok with
  |false=>exact bc ⟨rfl,o⟩|true=>exact ar (ar (wpAny_mono o (λx i z=>ar (wpAny_mono z (λZ j B=>bc (bc ⟨rfl,B⟩)) λZ Z f=>f)) λZ Z f=>f))
def VA(X:Cx)(a:List i2)(t:TT):Prop:=
 ∀(aa:lu) (s:ix) (σ:St) (H:Hp) (Q:Bool->Hp->Prop),Inv X aa σ H s->t σ H Q->zx7 X (tests a X.env) (TP X aa σ Q) X.xe s
def JO:VA X [] (λZ H q=>q ie H):=λZ Z Z H Z I h=>wpAny_tests_nil ⟨H,I,h⟩
def JP{t:TT}(h:PT X e t):VA X [e] t:=λaa s σ H Q I z=>wpAny_tests_one (h aa s σ H Q I z)
def KO(J:It)(k:Nat)(g:TG)(te:TE)(fs:St)(Q:VK)(H1:Hp):Prop:=∃(n:Nat) (W:Nat->List V->St->Hp->Prop),W 0 [] (ll k h9++fs) H1/\
 ∀i ys b a,W i ys b a->ys.length<kB/\((J.stop i a/\∀p,a p=h9->Q (.ref p) (upd a p (.lst ys)))\/
  (J.go i a/\i<n/\∀x d,J.QF i a x d->g x b d λc e=>te c e λy f=>W (i+1) (ys++[y]) c f))
abbrev Gi(a:TI)(k:Nat)(g:TG)(te:TE)(is:List Nat):TE:=λσ H Q=>a σ H λJ b=>KO J k g te (Bf σ is) Q b
def Ho(J:It)(k:Nat)(g:TG)(tt:TT)(te:TE)(fs:St)(Q:VK)(H1:Hp):Prop:=∃(n:Nat) (W:Nat->List V->St->Hp->Prop),W 0 [] (ll k h9++fs) H1/\
 ∀i ys d c,W i ys d c->ys.length<kB/\((J.stop i c/\∀p,c p=h9->Q (.ref p) (upd c p (.lst ys)))\/
  (J.go i c/\i<n/\∀x e,J.QF i c x e->g x d e λa h=>tt a h λb f=>if b=ie then te a f (λy j=>W (i+1) (ys++[y]) a j) else W (i+1) ys a f))
abbrev um(a:TI)(k:Nat)(g:TG)(tt:TT)(te:TE)(is:List Nat):TE:=λσ H Q=>a σ H λJ b=>Ho J k g tt te (Bf σ is) Q b
def qQ{elt tg iter:i2}{ifs:List i2}{pp:Pos}{wi:TI}{g:TG}{te:TE}{tt:TT}{use:Option (iv->Sem Unit)}{QQ:lr}{Q:VK}(hc:X.calm=ie)(S:ij X scope xs ys is)(hi:PI X tg iter wi)
 (hg:∀fp a H1 C,PG (cV X (xs++ys) scope (cw X.env ys) fp a H1 C) tg g) (ht:∀fp a H1 C,VA (cV X (xs++ys) scope (cw X.env ys) fp a H1 C) ifs tt) (he:∀fp a H1 C,PE (cV X (xs++ys) scope (cw X.env ys) fp a H1 C) elt te)
 (hs:∀x,foldedSetIterable iter X.env x=pure x) (I:zv1 s) (h:um wi xs.length g tt te is σ H Q)
 (fin:∀(D C:i1) (R:ix) (H4:Hp) (m:Str->Option iv),Inv X aa σ H4 R->R.heap.Ns C m->jr X aa H4 C->Q (.ref D) H4->compPost (kr X.prog X.w) X.A X.xe use QQ (.ref D) C (.ok .next) R):
 zx7 X (comprehension (.ListComp elt [{tg,iter,ifs,0}] scope pos) scope X.env pp (newList []) ig (eval iter X.env) use) QQ X.xe s:=by
 have NJ:∀x∈scope.names,x.2=.local->scope.names.lookup x.1=hI .local:=λx hx hl=>by
  have q:=d0.mp S.names x hx
  rw [eH] at q;rcases q with q|q
  .exact absurd hl (zzY q)
  .exact zzY q
 refine wpAny_comprehension_free (use:=use) (Q:=QQ) (g:={tg,iter,ifs,0}) (gs:=[]) rfl hs S.VZ S.kind NJ (bM (hi aa s σ H _ I h) λxv s0 h0=>bM h0 λVb a h1=>?_);let(it,fp,tn,J,H1,rfl,F,T,pV,f1,n,W,w0,turn):=h1;refine wpAny_newObj_type (yy ?_);dsimp only;generalize hH2:a.heap.push {cls:=.type "list",dict:=h9,data:=.seq ([]:List iv).toArray}=G2;generalize U:pushCells (G2.push {cls:=.type "dict",data:=.dict #[]}) scope.names=t;have WO:∀b o,(G2.push {cls:=.type "dict",data:=.dict #[]}).get? b=hI o->t.get? b=hI o:=λb o e=>by rw [<-U];exact pushCells_keeps _ _ b o e
 have hns₁:t.Ns G2.objs.size λ_=>h9:=(kA.Ns.new G2 (.type "dict")).keeps WO;have Zo:G2.objs.size=(zz9 a)+1:=by rw [<-hH2,kA.size_push]
 have qd:(zz9 a)<=G2.objs.size:=by rw [Zo];exact Nat.le_succ _
 have US:(zz9 a)≠G2.objs.size:=by rw [Zo];exact d8 (Nat.lt_succ_self _)
 have M:∀b o,a.heap.get? b=hI o->t.get? b=hI o:=λb o e=>WO b o (aT _ (hH2▸aT _ e));have sM:t.get? (zz9 a)=hI (lobj [] 0):=WO _ _ (aT _ (hH2▸d4 _ rfl));have Cj:∀b∈fp,b<(zz9 a):=λb j=>by let(o,e,_):=T.obj _ _ pV b j;exact c6 e
 generalize hY:cV X (xs++ys) scope (cw X.env ys) fp a H1 G2.objs.size=Y;have okY:Y.Ok:=by rw [<-hY];exact AI F hc S qd f1 Cj
 have Zp:∀b∈fp,(zz9 a)≠b:=λb j=>Ne.symm (d8 (Cj b j));have Wj:∀b,b∈Y.fs->b=X.env.locals\/b∈X.fs:=λb j=>by rw [<-hY] at j;exact er.mp (F.my b j)
 have Wi:∀b∈Y.fs,b<(zz9 a):=λb j=>by rw [<-hY] at j;let(_,o,ho,_):=F.stack.mem j;exact c6 ho
 have Wq:(zz9 a)∉Y.fs:=λz=>Nat.lt_irrefl _ (Wi _ z);have Nz:Y.env.locals=G2.objs.size:=by rw [<-hY];rfl
 have UT:∀x c,Y.env.cells.lookup x=hI c->(X.env.cells.lookup x=hI c/\c<(zz9 a)/\x∈ys)\/((x,NameKind.cell)∈scope.names/\G2.objs.size+1<=c):=λx c e=>by rw [<-hY] at e;exact ip F S qd e
 have hYn:∀x c,Y.env.cells.lookup x=hI c->G2.objs.size+1<=c->t.IsCell c h9:=λx c e hle=>by
  rw [<-hY] at e;have hm:(x,c)∈lg (G2.objs.size+1) scope.names []:=Mh scope.names _ _ (PySem.mem_of_lookup e) λp O=>by unfold cw at O;let(y,hy,rfl):=fP.mp O;let(c',iT):=ew.mp (d0.mp S.cells y hy);let(v,q):=F.cell y c' iT;dsimp only;rw [iT];exact d8 (d3 q.lt (d1 qd (Nat.le_of_succ_le hle)))
  have ck:=cellsFrom_ok scope.names (G2.push {cls:=.type "dict",data:=.dict #[]}) 0 [] {(λ_ _ z=>nomatch z),.nil} (Nat.zero_le _);rw [kA.size_push,U] at ck;exact(ck.empty x c hm).1
 have clt:∀x c,Y.env.cells.lookup x=hI c->c≠(zz9 a):=λx c e=>(UT x c e).elim (λz=>d8 z.2.1) λz=>Ne.symm (d8 (d2 qd z.2));have DW:Y.pn=[]:=by rw [<-hY];rfl
 have RT:Y.ex=fp:=by rw [<-hY];rfl
 have RV:Y.s₀=a:=by rw [<-hY];rfl
 have Zw:Y.H₀=H1:=by rw [<-hY];rfl
 have RU:Y.prog=X.prog:=by rw [<-hY];rfl
 have RX:Y.w=X.w:=by rw [<-hY];rfl
 have Zx:Y.K=X.K:=by rw [<-hY];rfl
 have Wu:Y.A=X.A:=by rw [<-hY];rfl
 have hYe:compEnvC scope (lg (G2.objs.size+1) scope.names (cw X.env ys)) G2.objs.size X.env=Y.env:=by rw [<-hY];rfl
 have RS:Y.calm=ie:=by rw [<-hY];rfl
 have NA:Y.xe=λ_ _=>False:=by rw [<-hY];rfl
 have RW:Y.fs=fz X.stack:=by rw [<-hY];rfl
 have Tv:∀{B:Hp} {s':ix} {E:List iv} {k:Nat},s'.heap.get? (zz9 a)=hI (lobj E k)->B (zz9 a)=h9->∀p∈[((zz9 a),lobj E k)],s'.heap.get? p.1=hI p.2/\B p.1=h9/\p.1≠Y.env.locals/\p.1∉Y.fs/\∀v,p.2.data≠.cell v:=
  λ{B s' E k} e hn p O=>by obtain rfl:=ej.mp O;exact{e,hn,by rw [Nz];exact US,Wq,λv=>Bo E k v}
 have We:∀{B:Hp} {E:List iv} {k:Nat},(∀b∈fp,B b=h9)->∀b∈fp,jr Y [((zz9 a),lobj E k)] B b:=λ{B E k} hn b j=>
  {hn b j,by rw [Nz];exact d8 (d3 (Cj b j) qd),λz=>(Wj b z).elim (f1 b j).2.1 (f1 b j).2.2.1,.inl (by rw [RT];exact j),
   λx c e=>(UT x c e).elim (λz=>(f1 b j).2.2.2.2.1 x c z.1) (λz q=>absurd (Cj b j) (Nat.not_lt.mpr (q▸d1 qd (Nat.le_of_succ_le z.2)))),λp O=>by rw [DW,List.nil_append] at O;obtain rfl:=ej.mp O;exact Zp b j}
 have RQ:H1 (zz9 a)=h9:=F.aM.fresh (a7 _)
 have I2:∀tk,Inv Y [((zz9 a),lobj [] 0)] (ll xs.length h9++Bf σ is) H1 {a with heap:=t,toks:=tk}:=λtk=>by
  refine{okY,by rw [RV],F.bare,by rw [RV,Zw];exact Un.kept M,{_,by rw [Nz];exact hns₁,λi x v e1 e2 e3=>?_},λx c e=>?_,?_,λx c e=>(UT x c e).elim (λz=>F.fE x c z.1) (λz=>F.aM.fresh (d1 qd (Nat.le_of_succ_le z.2))),λp O=>?_,by rw [RU,RX];exact F.aM.kept M,?_}
  .
   have Wr:Y.N=xs++ys:=by rw [<-hY];rfl
   rw [Wr] at e1;by_cases eE:i<xs.length
   .rw [ey (by rw [List.length_replicate];exact eE),List.getElem?_replicate,if_pos eE] at e2;cases e2
   .have NG:xs.length<=i:=Nat.not_lt.mp eE;rw [ez (by rw [List.length_replicate];exact NG),List.length_replicate] at e2;rw [ez NG] at e1;let(i0,h0,h1):=y8 S.slots _ x v e1 e2;have hm:x∈ys:=a6 e1;have kx:X.env.kindOf x=hI .cell:=zzY (d0.mp S.kX x hm);have ky:(relabel scope X.env).names.lookup x=hI .cell:=zzY (d0.mp S.kY x hm);let(m,_,hl):=F.loc;let(u,ru,lk):=hl i0 x v h0 h1 (.inr (.inl kx))
    refine{u,ru,.inr {.inl (by rw [<-hY];exact ky),?_}};rcases lk with⟨z,_⟩|⟨_,c,Sd,qe⟩
    .rw [kx] at z;cases z
    .let(c',iT):=kF (env:=X.env) hm;have Sb:=fC S.cells x c' iT;rw [Sd] at Sb;cases Sb;refine{c,by rw [<-hY];exact(sj _ _ _ λz=>(S.OQ z).2 hm).trans iT,?_};let(o,ho,hd):=qe;exact{o,M _ _ ho,hd}
  .rcases UT x c e with z|z
   .let(v,o,ho,hd):=F.cell x c z.1;exact{v,o,M _ _ ho,hd}
   .exact{h9,hYn x c e z.2}
  .rw [Nz];exact F.aM.fresh qd
  .rw [DW,List.nil_append] at O;exact Tv (s':={a with heap:=t,toks:=tk}) sM RQ p O
  .have Wr:Y.N=xs++ys:=by rw [<-hY];rfl
   have hl:=congrArg List.length S.slots;rw [zzl,zzl] at hl;rw [Wr,c5,c5,List.length_replicate];unfold Bf;rw [zzl,hl]
 have loop:∀V:ix,V={a with heap:=t}->
  codeAny (kr X.prog X.w) X.A (.compLoop (.ListComp elt [{tg,iter,ifs,0}] scope pos) 0 (.ref it) (.ref (zz9 a)) (compEnvC scope (lg (G2.objs.size+1) scope.names (cw X.env ys)) G2.objs.size X.env))
   (compPost (kr X.prog X.w) X.A X.xe use QQ (.ref (zz9 a)) G2.objs.size) V:=by
  rintro V rfl
  rw [hYe];refine sx (λk s'=>∃i made G B E c,Inv Y [((zz9 a),lobj E c)] G B s'/\tn i s'.heap/\(∀b∈fp,B b=h9)/\Vals made E/\k=n-i/\W i made G B) ?_ n
   {0,[],_,H1,[],0,I2 _,T.keep _ _ _ pV λb _ o e=>M b o e,λb j=>(f1 b j).1,.nil,rfl,w0}
  rintro k s' ⟨i,made,G,B,E,c,I3,st3,fr3,rv,rfl,w3⟩
  let(hz,tw):=turn i made G B w3;have pD:=I3.pin ((zz9 a),lobj E c) (by rw [DW];exact ej.mpr rfl)
  rcases tw with⟨stop,hq⟩|⟨go,ZF,step⟩
  .rw [<-Wu];refine bM (T.done Y RU RX Zx RS i _ s' G B _ I3 (We fr3) st3 stop) λr R ⟨hr,I4⟩=>?_;subst hr;let(m,hn4,_):=I4.loc;rw [Nz] at hn4;have XI:=I4.pin ((zz9 a),lobj E c) (by rw [DW];exact ej.mpr rfl);have kp:∀b o,b≠G2.objs.size->R.heap.get? b=hI o->R.heap.get? b=hI o:=λb o j e=>e;have Xl:∀{b o},a.heap.get? b=hI o->b≠G2.objs.size:=λ{b o} e=>d8 (d3 (c6 e) qd);have dj:=I4.base;rw [RV,Zw,RT,RW] at dj;have Xm:∀{b o},H1 b=hI o->b≠(zz9 a):=λ{b o} e=>d8 (F.aM.lt e)
   have u:Un (fz X.stack) fp H1 (upd B (zz9 a) (.lst made)) a.heap R.heap:=by
    refine{λb o e n j hx=>kp b o (Xl e) (dj.keep b o e n j hx),λb o e n j hx=>?_,λb o e n hx=>?_,λb o e hx=>?_,λb xs e=>?_,λb o u e=>?_,λb ps e=>?_}
    .let(sl,q):=dj.slot b o e n j hx;exact{sl,kp b _ (Xl e) q}
    .rw [ag (d8 (c6 e))];exact dj.free b o e n hx
    .let(o',q):=dj.there b o e hx;exact{o',kp b _ (Xl e) q}
    .rw [ag (Xm e)];exact dj.ib b xs e
    .rw [ag (Xm e)];exact dj.gj b o u e
    .let(more,q):=dj.gZ b ps e;exact{more,by rw [ag (Xm e)];exact q}
   have Zn:B G2.objs.size=h9:=by rw [<-Nz];exact I4.free
   have IQ:fw X.prog X.w (upd B (zz9 a) (.lst made)) R.heap:=λb o e=>by
    by_cases j:b=(zz9 a)
    .subst j;rw [aq] at e;cases e;exact{Nat.le_of_lt hz,E,c,rv,kp _ _ US XI.1}
    .rw [ag j] at e;have x4:=I4.aM b o e;rw [RU,RX] at x4;have Og:∀L u,B L=hI u->L≠G2.objs.size:=λL u q z=>by rw [z,Zn] at q;cases q
     have Cm:∀L u,B L=hI u->L≠(zz9 a):=λL u q z=>by rw [z,XI.2.1] at q;cases q
     refine x4.fW (λL u G7 q=>kp L u ?_ q) (λL q=>?_) λL xs q=>?_
     .rcases G7 with z|z
      .rw [z];exact Og b o e
      .exact Og L _ z
     .rw [ag (Cm L _ q)];exact q
     .rw [ag (Cm L _ q)];exact q
   have I5:Inv X aa σ (upd B (zz9 a) (.lst made)) R:=F.Rq (by show R.os=a.os;rw [I4.os,RV]) u IQ I4.bare λb j=>{(f1 b j).2.2.2.1,(f1 b j).2.1,(f1 b j).2.2.2.2.1,(f1 b j).2.2.2.2.2};dsimp only;rw [Wu];exact fin (zz9 a) G2.objs.size R _ m I5 hn4 (F.vh qd (by rw [ag (Ne.symm US)];exact Zn)) (hq _ XI.2.1)
  .rw [<-Wu];refine bM (T.item Y RU RX Zx RS i _ s' G B _ I3 (We fr3) st3 go) λr R ⟨u,hr,h4⟩=>?_;subst hr;dsimp only;refine bM h4 λ_ s5 yq0=>?_;let(x,H5,I5,r5,y5,Z,fr5):=yq0;have Vu:=I5.pinned (We fr5) (T.obj _ _ Z);have ZD:=hg fp a H1 G2.objs.size;have ZA:=he fp a H1 G2.objs.size;have ZM:=ht fp a H1 G2.objs.size;rw [hY] at ZD ZA ZM;rw [<-RU,<-RX];refine wpAny_mono (ZD _ s5 G H5 x u _ Vu r5 (step x H5 y5)) (λ_ s6 ⟨P,H6,I6,q6⟩=>?_) (λ_ _ f=>by rw [NA] at f;exact f.elim);refine wpAny_mono (ZM _ s6 P H6 _ I6 q6) (λokb sT ⟨HT,IT,qT⟩=>?_) (λ_ _ f=>by rw [NA] at f;exact f.elim);have pDT:=IT.pin ((zz9 a),lobj E c) (dV _ (ed _ (ej.mpr rfl)));have stT:tn (i+1) sT.heap:=T.keep _ _ _ Z λb j o e=>(IT.pin (b,o) (dV _ (dV _ (dO j e)))).1
   cases okb with
   |false=>refine{n-(i+1),by omega,i+1,made,P,HT,E,c,IT.lG,stT,λb j=>?_,rv,rfl,qT};let(o,e,d):=T.obj _ _ Z b j;exact(IT.pin (b,o) (dV _ (dV _ (dO j e)))).2.1|true=>
   refine wpAny_mono (ZA _ sT P HT _ IT qT) (λv s7 ⟨y,H7,I7,r7,q7⟩=>?_) (λ_ _ f=>by rw [NA] at f;exact f.elim);have XJ:=I7.pin ((zz9 a),lobj E c) (dV _ (ed _ (ej.mpr rfl)));have e7:s7.heap.get? (zz9 a)=hI {cls:=.type "list",data:=.seq E.toArray c}:=XJ.1;refine append_at (hsz:=by rw [a5,<-rv.length];exact Nat.le_of_lt hz) e7 λh' D7 hD'=>?_;have I8:Inv Y [] P H7 s7:=I7.nF λ_ z=>nomatch z
   have I9:Inv Y [] P H7 {s7 with heap:=h'}:=I8.turned (t':=s7.toks) (it:=(zz9 a)) (λb o j e=>D7.extBut b o j e) XJ.2.1 (by rw [Nz];exact US) (.inr (by rw [RV];exact a7 _))
    (λx c' e=>clt x c' e) (λp O=>by rw [DW] at O;cases O)
   have eD:h'.get? (zz9 a)=hI (lobj (E++[v]) (c+1)):=by rw [hD',List.push_toArray]
   have st7:tn (i+1) s7.heap:=T.keep _ _ _ Z λb j o e=>(I7.pin (b,o) (dV _ (dV _ (dO j e)))).1;refine{n-(i+1),by omega,i+1,made++[y],P,H7,E++[v],c+1,I9.nF (Tv (s':={s7 with heap:=h'}) eD XJ.2.1),T.keep _ _ _ st7 λb j o e=>D7.extBut b o (Ne.symm (Zp b j)) e,λb j=>?_,rv.append (.cons r7 .nil),rfl,q7};let(o,e,d):=T.obj _ _ Z b j;exact(I7.pin (b,o) (dV _ (dV _ (dO j e)))).2.1
 exact codeAny_compStart_list (loop _ rfl) (T.self _ 0 _ _ _ (T.keep _ _ _ pV λb _ o e=>M b o e) (loop _ rfl))
def zQ{a c iter:i2}{f:TI}{g:TG}{te:TE}(i:X.calm=ie)(S:ij X scope xs ys is)(j:PI X c iter f)
 (k:∀fp d H1 C,PG (cV X (xs++ys) scope (cw X.env ys) fp d H1 C) c g) (he:∀fp d H1 C,PE (cV X (xs++ys) scope (cw X.env ys) fp d H1 C) a te)
 (hs:∀x,foldedSetIterable iter X.env x=pure x:=by intro _;rfl):
 PE X (.ListComp a [{c,iter,[],0}] scope pos) (Gi f xs.length g te is):=by
 intro aa s σ H Q I h;rw [eval_ListComp];exact qQ (use:=h9) (Q:=Q) i S j k (λZ Z Z Z=>JO) he hs I h (λD C p r m t u ⟨w,g1,_,g3,y,z⟩ q=>{m,u,λE A=>{.ref D,r,t.turned (t':=p.toks) (it:=C) (λb o B e=>A.extBut b o B e) w g1 g3 y z,rfl,q}})
def BH{c f iter:i2}{i:TI}{g:TG}{te:TE}{tt:TT}(j:X.calm=ie)(S:ij X scope xs ys is)(k:PI X f iter i)
 (p:∀fp a H1 C,PG (cV X (xs++ys) scope (cw X.env ys) fp a H1 C) f g) (r:∀fp a H1 C,PT (cV X (xs++ys) scope (cw X.env ys) fp a H1 C) d tt) (he:∀fp a H1 C,PE (cV X (xs++ys) scope (cw X.env ys) fp a H1 C) c te)
 (hs:∀x,foldedSetIterable iter X.env x=pure x:=by intro _;rfl):
 PE X (.ListComp c [{f,iter,[d],0}] scope pos) (um i xs.length g tt te is):=by
 intro aa s σ H Q I h;rw [eval_ListComp];exact qQ (use:=h9) (Q:=Q) j S k p (λfp a H1 C=>JP (r fp a H1 C)) he hs I h (λD C t u m w y ⟨z,g1,_,g3,A,B⟩ q=>{m,y,λG E=>{.ref D,u,w.turned (t':=t.toks) (it:=C) (λb o F e=>E.extBut b o F e) z g1 g3 A B,rfl,q}})
end
def bj{p:i1}{o:HO}(h:H p=h9):aC H (upd H p o):=λb u e=>by rw [ag (bL e h)];exact e
def range_all(bs:List Bool):(List.range bs.length).all (λi=>(bs[i]?).getD ie)=bs.all id:=by
 rw [Bool.eq_iff_iff,d0,d0];constructor
 .intro h b d;let(i,a,e):=List.getElem_of_mem d;have q:=h i (List.mem_range.mpr a);rw [zzg a,Option.getD_some,e] at q;exact q
 .intro h i a;have c:=List.mem_range.mp a;rw [zzg c,Option.getD_some];exact h _ (List.getElem_mem c)
def CT(m:X.calm=ie):cG X (.builtin "all") (λxs H Q=>∃(p:i1) (bs:List Bool),xs=[.ref p]/\il X.K H p (bs.map V.bl)/\Q (.bl (bs.all id)) H):=by
 intro C s D H xs E Q I r h;let(p,bs,rfl,t,q):=h;let(u,rfl,d):=vals1 r;cases d;let(c,rv,f,F):=I.list t;have w:p<(zz9 s):=by let(_,e,_):=f.isList;exact c6 e
 have a:c.length=bs.length:=by rw [<-rv.length,zzl]
 refine call_all_walk (wpAny_pyIter_list f.isList ?_);refine{(zz9 s),_,_,c.toArray.size,_,_,λi=>(bs[i]?).getD ie,rfl,Walks.list (A:=X.A.in1) (I.ok.hd m) (zz9 s) p (d8 w) c.toArray,{{_,d4 _ rfl,rfl,rfl},f.isList.push _},λi v y Q2 G z B=>?_,λL M hk=>?_}
 .have g:c[i]?=hI v:=zx6 z;have j:i<bs.length:=by rw [<-a];exact(b4.mp g).1
  let(u,hu,d):=rv.get (i:=i) (x:=V.bl bs[i]) (by rw [dk,zzg j];rfl);rw [g] at hu;cases hu;have e:v=iv.bool bs[i]:=d;rw [e];have k:Q2 ((bs[i]?).getD ie) y:=B;rw [zzg j,Option.getD_some] at k;exact wpAny_truthy_bool k
 .rw [a5,a,range_all];exact{.bl (bs.all id),H,I.kept λb o e=>hk b o (by simp;exact d8 (c6 e)) (aT _ e),rfl,q}
abbrev Uz(z:Str):It:={λi Z=>i<z.cps.size,λi H x a=>a=H/\∃c,z.cps[i]?=hI c/\x=.str {#[c]},λi Z=>z.cps.size<=i}
def Gu{P:jX}{w:kd}{K:zz8}{U:i2}(z:Str)(t:Tok)(it:i1)(ty:String)(B:ty="str_ascii_iterator"\/ty="str_iterator"):Turn P w K U (Uz z) [it] it (λi h=>h.IsStrIter it ty z t i/\i<=z.cps.size) where
 mem:=by simp
 obj:=λi h st b g=>by have e:b=it:=zx6 g;subst e;let((o,e,c,d),_):=st;exact{o,e,λv z=>by rw [d] at z;cases z}
 keep:=λi h a st k=>{by let((o,e,r),_):=st;exact{o,k it (by simp) o e,r},st.2}
 item:=by
  intro X M N hK m i O s R H E I hf st S;subst M N hK;let(C,D,W,F,G,L):=hf it (by simp);have q:i<z.cps.size:=S
  have fin:∀(v:iv) (a:kA) (f:Nat),SignAt z i v->a.IsStrIter it ty z t (i+1)->(∀b o,b∉[it]->s.heap.get? b=hI o->a.get? b=hI o)->
   ∃u,(hI v:Option iv)=hI u/\zx7 X (letOwnedTupleGo U (.ref it) u) (λ_ V=>∃x T,Inv X O R T V/\RelV x u/\(Uz z).QF i H x T/\(V.heap.IsStrIter it ty z t (i+1)/\i+1<=z.cps.size)/\∀b∈[it],T b=h9) E {s with heap:=a,toks:=f}:=by
   intro v a f y p j;let(c,u,m,rfl):=y;have Y:Inv X O R H {s with heap:=a,toks:=f}:=I.turned (λb o g e=>j b o (zx6 g) e) C D F G L;let(o,e,Z,d):=id p
   exact{_,rfl,vm (s:={s with heap:=a,toks:=f}) e Z d (by rcases B with rfl|rfl<;>decide) {.str {#[c]},H,Y,⟨u,rfl⟩,⟨rfl,c,m,rfl⟩,⟨p,q⟩,λb g=>(hf b g).1}}
  rcases B with rfl|rfl
  .exact(Walks.strAscii (prog:=X.prog) (w:=X.w) (I.ok.hd m) it z t).item i s _ _ q st.1 λv a f y p j=>fin v a f y p j
  .exact(Walks.strWide (prog:=X.prog) (w:=X.w) (I.ok.hd m) it z t).item i s _ _ q st.1 λv a f y p j=>fin v a f y p j
 done:=by
  intro X M N hK m i O s R H E I hf st S;subst M N hK;let(C,D,W,F,G,L):=hf it (by simp);have q:i=z.cps.size:=Nat.le_antisymm st.2 S
  subst q;rcases B with rfl|rfl
  .exact(Walks.strAscii (prog:=X.prog) (w:=X.w) (I.ok.hd m) it z t).done s _ _ st.1 λa f j=>{rfl,I.turned (λb o g e=>j b o (zx6 g) e) C D F G L}
  .exact(Walks.strWide (prog:=X.prog) (w:=X.w) (I.ok.hd m) it z t).done s _ _ st.1 λa f j=>{rfl,I.turned (λb o g e=>j b o (zx6 g) e) C D F G L}
 self:=λA i s Q E st h=>by
  rcases B with rfl|rfl
  .exact wpAny_pyIter_striter_ascii st.1 h
  .exact wpAny_pyIter_striter_wide st.1 h
abbrev W4(a:TE):TI:=λb H R=>a b H λx c=>∃z,x=.str z/\R (Uz z) c
def O4{f l:i2}{g:TE}(hl:PE X l g):PI X f l (W4 g):=by
 intro i s j H R I h;refine bM (hl i s j H _ I h) λv a c=>?_;let(x,k,d,m,p):=c;let(z,e,q):=p;subst e;let(t,rfl):=m
 have fin:∀ty:String,(ty="str_ascii_iterator"\/ty="str_iterator")->Vz X i j f R (.ref (zz9 a)) {a with heap:=a.heap.push {cls:=.type ty,data:=.fields #[.str z t,.int 0 0]}}:=λty r=>by refine{(zz9 a),[(zz9 a)],_,_,k,rfl,d.kept (t':=a.toks) λb o e=>aT _ e,Gu z t _ ty r,{{_,d4 _ rfl,rfl,rfl},Nat.zero_le _},λb u=>?_,q};have e:b=(zz9 a):=zx6 u;subst e;exact d.vh (a7 _) (d.aM.fresh (a7 _))
 cases ha:z.cps.all (·<128)
 .exact wpAny_pyIter_wide ha (fin _ (.inr rfl))
 .exact wpAny_pyIter_ascii ha (fin _ (.inl rfl))
def XS:V->Option Int->Option Int->Hp->VK->Prop:=λx a b H Q=>∃z,x=.str z/\z.length<=kB/\Q (.str (Txt.slice z a b)) H
def Pz:GV X XS:=by
 intro e s f H x v r w g m y Q I o hs p pu h;let(z,rfl,a,q):=h;let(t,rfl):=o;refine{"str",_,F.slot_str_getitem.lookup,typeIs_str _ _ _,?_};have fin:∀b k,EP X e f Q (.str (Txt.slice z g m) b) {s with toks:=k}:=λb k=>{.str _,H,I.tok k,⟨b,rfl⟩,q}
 cases p with
 |none=>
  cases pu with
  |none=>exact wpAny_getItem_str_slice (l:=h9) (u:=h9) (st:=h9) hs rfl (post_val_or_str {d1 (Txt.slice_le z _ _) a,fin})|int j c=>exact wpAny_getItem_str_slice (l:=h9) (u:=hI (j,c)) (st:=h9) hs rfl (post_val_or_str {d1 (Txt.slice_le z _ _) a,fin})
 |int i d=>
  cases pu with
  |none=>exact wpAny_getItem_str_slice (l:=hI (i,d)) (u:=h9) (st:=h9) hs rfl (post_val_or_str {d1 (Txt.slice_le z _ _) a,fin})|int j c=>exact wpAny_getItem_str_slice (l:=hI (i,d)) (u:=hI (j,c)) (st:=h9) hs rfl (post_val_or_str {d1 (Txt.slice_le z _ _) a,fin})
end L2
namespace Cw
open L2
abbrev sgn(c:Nat):Bool:=c==35||(48<=c&&c<=57)
abbrev abN:V->Bool
 |.str z=>decide (1<=z.cps.toList.length)&&decide (z.cps.toList.length<=12)&&z.cps.toList.all sgn|_=>ig
abbrev SH:V->Nat
 |.str z=>z.cps.toList.length|_=>0
section
variable{K:zz8}
noncomputable abbrev Hg(K:zz8)(t n:String)(b:Bool):Prop:=PySem.W.kitOne K (.type t) (.type n)=hI b
def Ex{K:zz8}(t:String):Hg K t t ie:=by unfold Hg PySem.W.kitOne;rw [if_pos (by simp)]
def Eu{t n:String}{b:Bool}(a:(iv.type t==iv.type n)=ig)(c:PySem.W.kitMeta n=ie)(d:(fastBuiltinMro t).map (·.contains (iv.type n))=hI b):Hg K t n b:=by unfold Hg PySem.W.kitOne;rw [if_neg (by rw [a];exact zzf)];show(if PySem.W.kitMeta n=ie then PySem.W.subIn K (.type t) (.type n) else h9)=hI b;rw [if_pos c];exact d
end
noncomputable abbrev YM:Str:=(zu 20)
end Cw
namespace L2
open PySem.Spec PyProof.Rows
def xX{c d:Type}{R:c->d->Prop}{l:List c}{m:List d}(r:Paired R l m):∀{i:Nat} {p:c} {q:d},l[i]?=hI p->m[i]?=hI q->R p q:=by
 induction r with
 |nil=>intro i p q h;simp at h|cons h t e=>
  intro i p q a b;cases i with
  |zero=>simp at a b;subst a b;exact h|succ i=>simp at a b;exact e a b
def AU:typeLookup (.type "list") "keys"=pure h9:=by rw [typeLookup_type,builtinLookup_eq_fast];kernel_rfl
def u9:entryFor table "dict.update.loop"=hI lb.«dict.update.loop»:=entryFor_of_tree ∅
def kK:plainId "dict.update.loop"=ie:=↑1
section
variable{w:kd}{E:lr}{s:ix}{xs:Array iv}{k:Nat}
def HV{Q:Option iv->ix->Prop}(i:s.heap.get? a=hI o)(j:o.cls=.type "list")(m:o.data=.seq xs k)(hd:o.dict=h9)(r:A.handled=h9)
 (h:∀h' tk,(∀b o,s.heap.get? b=hI o->h'.get? b=hI o)->Q h9 {s with heap:=h',toks:=tk}):jW (kr prog w) A (getAttr? (.ref a) "keys") Q E s:=by
 let(c,cq,t,u):=o;simp only at j m hd;subst j m hd;let(y,g,d,tk,os):=s;have p:∀f,(⟨y,g,d,f,os⟩:ix).TypeIs (.ref a) "list":=λZ=>{_,i,rfl};have z:=sub_AttributeError;have B:=F.slot_list_getattribute.lookup;have C:=F.slot_list_getattribute.bind (.ref a);have D:=am_list_getattr_none;unfold getAttr? getAttrBy? getAttrBy
 repeat (any_goals (first|assumption|exact p _|((with_reducible show jW _ _ (call (iv.builtin "list.__getattribute__") _ _) _ _ _);refine call_meets F.slot_list_getattribute (p _) am_entry_list_getattribute (F.args_list_getattribute_2 _ _) (meets_getattribute_miss_list a xs k u "keys" _ AU ↑2 (by size_fits)) ⟨i,r,λh' f e q=>?_⟩)|wp_step))
 let(G,H,I):=q.there;show jW _ _ (getattributeRaised _ _ _ _ _ _ _) _ _ _;unfold getattributeRaised
 repeat (any_goals (first|assumption|wp_step))
 exact h h' f q.keeps
end
end L2
namespace L2
open PySem.Spec PyProof.Rows PySem.W
abbrev j0{b:Type}(lt:Nat->Nat->Bool):KasT b->b
 |.ret a=>a|.ask i j k=>j0 lt (k (lt i j))
def eN{c:Type}(n:Nat)(R:c->Prop):KasT c->Prop
 |.ret a=>R a|.ask i j k=>i<n/\j<n/\∀b,eN n R (k b)
theorem eN.bind{c d:Type}{n:Nat}{R:c->Prop}{e:d->Prop}{f:c->KasT d}(hf:∀a,R a->eN n e (f a)):∀(t:KasT c),eN n R t->eN n e (t.bind f)
 |.ret a,h=>hf a h|.ask i j k,h=>{h.1,h.2.1,λb=>eN.bind hf (k b) (h.2.2 b)}
theorem eN.run{b:Type}{n:Nat}{R:b->Prop}(lt:Nat->Nat->Bool):∀(t:KasT b),eN n R t->R (j0 lt t)
 |.ret a,h=>h|.ask i j k,h=>eN.run lt (k (lt i j)) (h.2.2 _)
theorem Et{b:Type}{n:Nat}{R:b->Prop}{cmp:Nat->Nat->(Bool->ix->Prop)->ix->Prop}{lt:Nat->Nat->Bool}{Q:b->ix->Prop}{s:ix}
 (c:∀i j C,i<n->j<n->C (lt i j) s->cmp i j C s):∀(t:KasT b),eN n R t->Q (j0 lt t) s->t.kasWp cmp Q s
 |.ret a,_,h=>h|.ask i j k,a,h=>c i j _ a.1 a.2.1 (Et c (k (lt i j)) (a.2.2 _) h)
noncomputable abbrev Pm(n:Nat)(p:Array Nat):Prop:=p.toList.Perm (List.range n)
def Pm.lt{n:Nat}{p:Array Nat}(h:Pm n p)(a:0<n)(i:Nat):p.getD i 0<n:=by
 rw [Array.getD_eq_getD_getElem?];cases e:p[i]? with
 |none=>exact a|some x=>
  have:x∈p.toList:=by rw [Array.mem_toList_iff];exact Array.mem_of_getElem? e
  exact List.mem_range.mp (h.mem_iff.mp this)
def Pm.rev{n:Nat}{p:Array Nat}(h:Pm n p)(i j:Nat):Pm n (kas_rev p i j):=(mirror_perm p i j _).toList.trans h
def Pm.bub{n:Nat}{p:Array Nat}(h:Pm n p)(i j:Nat):Pm n (bubble p i j):=(bubble_perm p i j).toList.trans h
section
variable{n:Nat}(h0:0<n)
include h0
theorem nV{p:Array Nat}(h:Pm n p):∀f m,eN n (λZ=>True) (kas_asc p f m)
 |0,m=>trivial|f+1,m=>{h.lt h0 _,h.lt h0 _,λb=>by dsimp only;split;exact trivial;exact nV h f (m+1)}
theorem iP:∀f (p:Array Nat) m q,Pm n p->eN n (λr=>Pm n r.1) (kas_desc f p m q)
 |0,p,m,q,h=>h|f+1,p,m,q,h=>{h.lt h0 _,h.lt h0 _,λb=>by
  cases b with
  |true=>
   dsimp only;rw [if_pos rfl];split
   .exact iP f _ _ _ (h.rev _ _)
   .exact iP f _ _ _ h
  |false=>dsimp only;rw [if_neg (by simp)];exact{h.lt h0 _,h.lt h0 _,λb=>by dsimp only;split;exact h;exact iP f _ _ _ h}}
def qI{p:Array Nat}(h:Pm n p)(m r:Nat):eN n (λr=>Pm n r.2) (kas_tail3 m r p):=by unfold kas_tail3;refine eN.bind (R:=λZ=>True) (λa Z=>?_) _ (nV h0 (h.rev _ _) _ _);exact h.rev 0 m
def qG{p:Array Nat}(h:Pm n p)(m r:Nat):eN n (λr=>Pm n r.2) (kas_descPart m r p):=eN.bind (λa ha=>by
 split
 .exact qI h0 (Pm.rev ha _ _) _ _
 .exact qI h0 ha _ _) _ (iP h0 _ _ _ _ h)
def wQ{p:Array Nat}(h:Pm n p)(r:Nat):eN n (λr=>Pm n r.2) (kas_count r p):=eN.bind (λa Z=>by
 split
 .exact h
 .split
  .exact{h.lt h0 _,h.lt h0 _,λb=>by dsimp only;split;exact h;exact qG h0 (h.rev _ _) _ _}
  .exact qG h0 h _ _) _ (nV h0 h _ _)
theorem jv{p:Array Nat}(h:Pm n p)(k:Nat):∀f l r,eN n (λZ=>True) (kas_place p k f l r)
 |0,l,r=>trivial|f+1,l,r=>by
  unfold kas_place;split
  .exact trivial
  .exact{h.lt h0 _,h.lt h0 _,λb=>by dsimp only;split;exact jv h k f _ _;exact jv h k f _ _}
theorem uP:∀f (p:Array Nat) k,Pm n p->eN n (Pm n) (kas_bin f p k)
 |0,p,k,h=>h|f+1,p,k,h=>eN.bind (λl Z=>uP f _ _ (h.bub _ _)) _ (jv h0 h k _ _ _)
def qH:eN n (Pm n) (kas_sort n):=eN.bind (λa ha=>by
 split
 .exact uP h0 _ _ _ ha
 .exact ha) _ (wQ h0 (List.Perm.refl _) n)
end
abbrev yf(n:Nat)(lt:Nat->Nat->Bool):List Nat:=(j0 lt (kas_sort n)).toList
def wc{n:Nat}(h:0<n)(lt:Nat->Nat->Bool):(yf n lt).Perm (List.range n):=eN.run lt _ (qH h)
section
variable{w:kd}{E:lr}{s:ix}{vs:List iv}
def pq{S:i1}{c:Nat}{xs ys:Array iv}(e:h.get? S=hI (lq "list" xs c)):∃b,(h.update S (Obj.mapSeq λZ=>ys)).get? S=hI (lq "list" ys b):={_,get?_update_seq e λZ=>ys}
def UB(prog:jX)(w:kd)(A:ku)(E:lr)(vs:List iv)(lt:Nat->Nat->Bool)(s:ix):Prop:=∃b:SortKind,(∀Q:SortKind->ix->Prop,Q b s->jW (kr prog w) A (keyKind' vs.toArray) Q E s)/\∀i j (C:Bool->ix->Prop),i<vs.length->j<vs.length->C (lt i j) s->kas_ask prog w A b vs i j C s
def BV{n:Nat}{P:PySem.Fin->ix->Prop}{lt:Nat->Nat->Bool}(k:s.heap.get? a=hI (lq "list" vs.toArray n))(B:2<=vs.length)(C:vs.length<64)(rd:∀h',(∀b o,b≠a->s.heap.get? b=hI o->h'.get? b=hI o)->UB prog w A E vs lt {s with heap:=h'})
 (h:∀h' c,(∀b o,b≠a->s.heap.get? b=hI o->h'.get? b=hI o)->h'.get? a=hI (lq "list" ((yf vs.length lt).map λi=>vs.getD i iv.none).toArray c)->P (.done (.ret .none)) {s with heap:=h'}):
 jW (kr prog w) A (lb.«list.sort» {[.ref a],[]}) P E s:=by
 have D:=e6 s.heap a (Obj.mapSeq λZ=>(#[]:Array iv));obtain⟨m,d⟩:∃m,(s.heap.update a (Obj.mapSeq λZ=>(#[]:Array iv))).get? a=hI (lq "list" #[] m):={_,get?_update_seq k λZ=>#[]};generalize q:(((s.heap.update a (Obj.mapSeq λZ=>(#[]:Array iv))).push (lq "tuple" vs.toArray 0)).push (lq "list" #[] 0))=H1;have y:∀b o,b≠a->s.heap.get? b=hI o->H1.get? b=hI o:=λb o g e=>by rw [<-q];exact aT _ (aT _ ((D.2 b g).trans e))
 have f:H1.get? a=hI (lq "list" #[] m):=by rw [<-q];exact aT _ (aT _ d)
 let(O,F,r):=rd H1 y;rw [list_sort_plain];refine ar (listItems_at k rfl (ar (listUpdate_at k rfl ?_ (by rw [a5,sizeLine_eq];lia) (Nat.zero_le _))));refine ar (seqEpoch_at d rfl (ar (wpAny_newTuple ?_ (by show vs.length<=_;rw [sizeLine_eq];lia))));refine ar (wpAny_newList ?_ (Nat.zero_le _));refine wpAny_holding ?_;show jW (kr prog w) A _ P E {s with heap:=((s.heap.update a (Obj.mapSeq λZ=>(#[]:Array iv))).push (lq "tuple" vs.toArray 0)).push (lq "list" #[] 0)};rw [q];dsimp only;have z:¬vs.toArray.size<2:=by rw [a5];lia
 rw [if_neg z,if_neg z];refine ar (F _ ?_);refine ar (wpAny_mono (kat_run (Q:=λj t=>∃p:Array Nat,p.size=vs.length/\arrOf j=p.map (kas_item (vs.toArray.zip vs.toArray))/\failedOf j=h9/\p=j0 lt (kas_sort vs.length)/\t={s with heap:=H1})
  rfl B C (λG j t f a2 H I=>⟨G,f,a2,H,I⟩) (Et r _ (qH (by lia)) ⟨rfl,rfl⟩)) ?_ λZ Z e=>e)
 rintro ⟨⟨⟩,j⟩ t ⟨p,K,u,hf,rfl,rfl⟩
 dsimp only;have L:=kat_snds rfl u;rw [L];have M:=e6 H1 a (Obj.mapSeq λZ=>List.toArray ((j0 lt (kas_sort vs.length)).toList.map λi=>vs.getD i iv.none));let(N,qe):=pq (ys:=List.toArray ((j0 lt (kas_sort vs.length)).toList.map λi=>vs.getD i iv.none)) f;refine ar (seqEpoch_at f rfl (ar (listUpdate_at f rfl ?_ (Nat.zero_le _) (by show(List.toArray _).size<=_;rw [a5,zzl,ef,K,sizeLine_eq];lia))));rw [hf];simp! [bne_self_eq_false,eg,if_false];exact bc (h _ N (λb o g e=>(M.2 b g).trans (y b o g e)) qe)
end
end L2
namespace L2
open PySem.Spec PyProof.Rows
open PySem.W (hideAll hideAll_get of_hideAll funFrames_hide)
structure Hu(P:jX)(w:kd)(outer:List Env)(H:Hp)(s:ix)(E:XK)(a C t:i1)(vs:List iv)(H':Hp)(B:kA)(s':ix):Prop where
 os:s'.os=s.os
 bare:AllBare s'.gens
 aM:fw P w H' B
 Dx:kA.FlyingW B outer a (.ref C) (.ref t) s'.heap
 tn:B.get? t=h9
 tup:s'.heap.TupAt t vs
 fk:∀b o,s.heap.get? b=hI o->H b=h9->b∉fz outer->B.get? b=hI o
 cY:∀b o,s.heap.get? b=hI o->b∉fz outer->∃o',B.get? b=hI o'
 un:Un (fz outer) [] H H' s.heap s'.heap
 ends:E (.ref C) (hI a) H'
abbrev dz(P:jX)(w:kd):Al:=λouter H s E e b=>∃a C t c d B,e=.ref a/\Hu P w outer H s E a C t c d B b
section
variable{P:jX}{w:kd}{K:zz8}{scope:kv}{f:i1}{cd:iv}{s0:ix}{E:XK}
def cM{a:St}{s:ix}(I:Inv X aa a H s){b:i1}(hl:X.env.locals=X.s₀.heap.objs.size)(q:X.s₀.heap.get? b=hI o)(c:b∉X.fs):b∉fz X.stack:=λz=>by
 rcases er.mp (I.my b z) with e|e
 .rw [hl] at e;exact absurd (c6 q) (by rw [e];exact Nat.lt_irrefl _)
 .exact c e
def Tn:Passes (dz P w) (zv0 E) E:=by
 rintro R σ H s e S I ⟨a,C,t,r,y,B,rfl,F⟩
 have nx:∀b:i1,b∉(zv0 E).ex:=λb z=>nomatch (show b∈([]:List i1) from z);have fk:∀b o,s0.heap.get? b=hI o->H0 b=h9->b∉fz outer->B.get? b=hI o:=λb o q n c=>F.fk b o (I.base.keep b o q n c (nx b)) (I.base.free b o q n (nx b)) (cM I rfl q c);have cY:∀b o,s0.heap.get? b=hI o->b∉fz outer->∃g,B.get? b=hI g:=λb o q c=>by let(o1,d):=I.base.there b o q (nx b);exact F.cY b o1 d (cM I rfl q c)
 refine wpAny_leaves_onW I.ok.frames rfl F.Dx λD j m=>{a,C,t,r,y,B,rfl,?_};have slot:∀b o,s0.heap.get? b=hI o->H0 b=h9->b∈fz outer->∃h,D.get? b=hI {o with slots:=h}:=λb o q n c=>by let(h,d):=I.base.slot b o q n c (nx b);let(G,i):=F.un.any d (I.base.free b o q n (nx b)) nofun;let(_,g,p,hd):=F.Dx.2.2.1.mem (b:=b) (f6.mpr (let⟨v,L,M⟩:=f6.mp c;{v,.tail _ L,M}));rw [i] at p;cases p;let(k,O):=m b _ i hd;exact⟨k,O⟩
 refine{F.os.trans I.os,F.bare,F.aM,j,F.tn,F.tup.of_slots m,fk,cY,{λb o q n c Z=>j.1 _ _ (fk b o q n c),λb o q n c Z=>slot b o q n c,λb o q n Z=>?_,λb o q Z=>?_,λb xs q=>F.un.ib _ _ (I.base.ib _ _ q),λb o u q=>F.un.gj _ _ _ (I.base.gj _ _ _ q),λb Q q=>?_},F.ends}
 .let(h,d):=I.base.any q n (nx b);exact F.un.free b _ d (I.base.free b o q n (nx b)) nofun
 .by_cases c:b∈fz outer
  .let(h,d):=slot b o q (I.ok.xm b c) c;exact{_,d}
  .let(g,d):=cY b o q c;exact{g,j.1 _ _ d}
 .let(m1,d):=I.base.gZ b Q q;let(m2,i):=F.un.gZ b _ d;exact{m1++m2,by rw [<-Array.append_assoc];exact i}
def Pc{D:St}{s:ix}{g:kA}{e C:i1}(I:Inv (zv0 E) aa D H s)
 (y:kA.MadeExcOf s.heap g e (.ref C) us) (F:E (.ref C) (hI e) H):(zv0 E).xe (.ref e) {s with heap:=g}:=by
 have nx:∀b:i1,b∉(zv0 E).ex:=λb z=>nomatch (show b∈([]:List i1) from z);have G:∀env∈(zv0 E).stack,∀b,env.frame=hI b->b∈fz (zv0 E).stack:=λenv L b a=>f6.mpr ⟨env,L,a⟩;refine wpAny_leaves_madeW (h:=s.heap) I.ok.frames rfl (λb o q=>of_hideAll _ q) (funFrames_hide I.stack G) y λM t k O Q R=>{e,C,t,us,H,hideAll s.heap (fz (zv0 E).stack),rfl,?_};have fk:∀b o,s0.heap.get? b=hI o->H0 b=h9->b∉fz outer->(hideAll s.heap (fz (zv0 E).stack)).get? b=hI o:=λb o q n a=>hideAll_get _ (I.base.keep b o q n a (nx b)) (cM I rfl q a);have cY:∀b o,s0.heap.get? b=hI o->b∉fz outer->∃i,(hideAll s.heap (fz (zv0 E).stack)).get? b=hI i:=λb o q a=>by let(o1,d):=I.base.there b o q (nx b);exact{o1,hideAll_get _ d (cM I rfl q a)}
 have slot:∀b o,s0.heap.get? b=hI o->H0 b=h9->b∈fz outer->∃m,M.get? b=hI {o with slots:=m}:=λb o q n a=>by let(m,d):=I.base.slot b o q n a (nx b);let(_,i,B,hd):=I.stack.mem (b:=b) (f6.mpr (let⟨v,g,S⟩:=f6.mp a;{v,.tail _ g,S}));rw [d] at B;cases B;let(p,T):=R b _ (y.keeps _ _ d) hd;exact⟨p,T⟩
 refine{I.os,I.bare,λb o q=>?_,k,Q,O,fk,cY,{λb o q n a Z=>k.1 _ _ (fk b o q n a),λb o q n a Z=>slot b o q n a,λb o q n Z=>I.base.free b o q n (nx b),λb o q Z=>?_,I.base.ib,I.base.gj,I.base.gZ},F}
 .refine(I.aM b o q).fW (λc v u r=>hideAll_get _ r λz=>?_) (λZ q=>q) λZ Z q=>q;have j:=I.nK c z
  rcases u with rfl|u
  .rw [q] at j;cases j
  .rw [u] at j;cases j
 .by_cases a:b∈fz outer
  .let(m,d):=slot b o q (I.ok.xm b a) a;exact{_,d}
  .let(i,d):=cY b o q a;exact{i,k.1 _ _ d}
end
def mM{P:jX}{w:kd}{o:HO}(x:bX P w H h a o):∃b,h.get? a=hI b:=by
 cases o with
 |lst xs=>let(_,_,_,_,e):=x;exact{_,e}|tup xs=>let(_,_,_,o,e,_):=x;exact{_,e}|dK c=>let(_,_,_,_,o,_,_,e,_):=x;exact{_,e}|dT c=>let(_,_,_,_,o,_,_,e,_):=x;exact{_,e}|set S n=>let(o,_,_,_,e,_):=x;exact{_,e}|ins C dx fs=>let(_,_,_,e,_):=x;exact{_,e}|own y=>exact x|xd fs=>let(_,(_,_,_,e,_),_):=x;exact{_,e}|pU lo d=>let(_,_,_,e):=x;exact{_,e}|bV ob u=>let(e,_):=x;exact{_,e}|gz g=>exact{_,x}|met f y=>exact{_,x}|ext i=>exact x.2.1
abbrev P1(C:i1)(E:XK)(b:TA):TS:=λZ c H=>b c H λd a=>d.length<=kB/\∀e,a e=h9->E (.ref C) (hI e) a
section
variable{P:jX}{w:kd}{K:zz8}{scope:kv}{f:i1}{cd:iv}{s0:ix}{E:XK}
theorem FJ{C:i1}{u b B:String}{bm:List iv}{a:i2}{rest:List i2}{d:Pos}{j:TA}(F:Gl (zv0 E) x)(O:OwnCls x C bm b mg base)(k:ExcBaseFacts u b B bm)
 (ha:PA (zv0 E) (a::rest) j)
 (he:starEach (a::rest) (zv0 E).env=(ig,eval a (zv0 E).env)::starEach rest (zv0 E).env:=by rfl)
 (G:(backTo d (starEach rest (zv0 E).env)).any (·.1)=ig:=by rfl) (hd:(x==(zu 19:Str))=ig:=by decide) (L:A.handled.isNone=ie):
 PS (zv0 E) (.Raise (hI (.Call (.Name x np) (a::rest) [] d)) h9 pos) (P1 C E j):=by
 intro M s Q H D I h;let(R,S,nm,q,bs,hdct,sn,sub,ab,col,dd,k0,k1,k2,k3,k5,mN,hC,hN,g,T):=O.obj
 refine wpAny_Raise_call_subT (C:=C) (nm:=nm) (q:=q) (N:=S) (bs:=bs) (bm:=R) (hdct:=hdct) (sn:=sn) (sub:=sub) (ab:=ab) (col:=col) (dd:=dd) (k0:=k0) (k1:=k1) (k2:=k2) (k3:=k3) (k5:=k5)
  k (mN:=mN) (T.hasType k.hasBase) (I.ok.hd L) (by rw [he];show(ig||(backTo d (starEach rest (zv0 E).env)).any (·.1))=ig;rw [G];rfl) g (dS I F O.bound {rfl,?_} hd)
 have m:=ha d M s Q H _ I h;rw [he] at m⊢;refine Calls.evalArgs_plain (wpAny_mono m (λX U i=>?_) λ_ _ y=>y);let(Y,V,c,rv,hl,W):=i;refine{rfl,by rw [<-rv.length];exact hl,c.bk _ _ hC,hN.keeps c.bk,T.keeps c.bk,λZ e p=>Pc c p (W e ?_)}
 cases z:V e with
 |none=>rfl|some o=>
  obtain⟨r,t⟩:∃r,U.heap.get? e=hI r:=by exact mM (c.aM _ _ z)
  rw [p.new] at t;cases t
end
noncomputable abbrev cU:HO:=.ext λZ=>True
def nT{P:jX}{w:kd}(e:h.get? a=hI o):bX P w H h a (.bV o cU):={e,trivial,⟨o,e⟩,λZ Z Z Z=>trivial}
abbrev aQ(Z:lu)(H:Hp):Hp:=λb=>match Z.lookup b with
 |some o=>hI (.bV o cU)|none=>H b
abbrev cy(Z:lu)(H:Hp):Hp:=λb=>match Z.lookup b with
 |some _=>h9|none=>H b
section
variable{Z:lu}{H':Hp}{b:i1}
def bD(e:Z.lookup b=hI o):aQ Z H b=hI (.bV o cU):=by unfold aQ;rw [e]
def ay(e:Z.lookup b=h9):aQ Z H b=H b:=by unfold aQ;rw [e]
def iI(e:Z.lookup b=hI o):cy Z H b=h9:=by unfold cy;rw [e]
def aI(e:Z.lookup b=h9):cy Z H b=H b:=by unfold cy;rw [e]
def j3{u:HO}(e:cy Z H b=hI u):Z.lookup b=h9/\H b=hI u:=by
 cases q:Z.lookup b with
 |none=>rw [aI q] at e;exact⟨rfl,e⟩|some o=>rw [iI q] at e;cases e
def j2(h:H b=h9):cy Z H b=h9:=by
 cases q:Z.lookup b with
 |none=>rw [aI q];exact h|some o=>exact iI q
structure Ap(Z:lu)(H:Hp)(fs:List i1)(h:kA):Prop where
 at_:∀b o,Z.lookup b=hI o->h.get? b=hI o
 no:∀b o,Z.lookup b=hI o->H b=h9
 fr:∀b o,Z.lookup b=hI o->b∉fs
variable{P:jX}{w:kd}{fs:List i1}
theorem Ap.aM(z:Ap Z H fs h)(k:fw P w H h):fw P w (aQ Z H) h:=λb u e=>by
 cases q:Z.lookup b with
 |some o=>rw [bD q] at e;cases e;exact nT (z.at_ b o q)
 |none=>
  rw [ay q] at e;have a:∀c v,H c=hI v->Z.lookup c=h9:=λc v d=>by
   cases y:Z.lookup c with
   |none=>rfl|some o=>rw [z.no c o y] at d;cases d
  exact(k b u e).fW (λc v Y r=>r) (λc r=>by rw [ay (a c _ r)];exact r) λc xs r=>by rw [ay (a c _ r)];exact r
def Ap.KA(z:Ap Z H fs h)(u:Un fs [] (aQ Z H) H' h h')(k:fw P w H' h'):Un fs [] H (cy Z H') h h'/\fw P w (cy Z H') h':=by
 have i:∀b o,Z.lookup b=hI o->H' b=hI (.bV o cU):=λb o q=>u.gj b o _ (bD q);have p:∀b o,Z.lookup b=hI o->h'.get? b=hI o:=λb o q=>(k b _ (i b o q)).1
 have d:∀c v,H c=hI v->Z.lookup c=h9:=λc v j=>by
  cases y:Z.lookup c with
  |none=>rfl|some o=>rw [z.no c o y] at j;cases j
 refine{{λb o e n f a=>?_,λb o e n f a=>?_,λb o e n a=>?_,λb o e a=>u.there b o e a,λb xs e=>?_,λb o v e=>?_,λb s e=>?_},λb v e=>?_}
 .cases q:Z.lookup b with
  |some g=>have m:=z.at_ b g q;rw [e] at m;cases m;exact p b o q
  |none=>exact u.keep b o e (by rw [ay q];exact n) f a
 .cases q:Z.lookup b with
  |some g=>exact absurd f (z.fr b g q)|none=>exact u.slot b o e (by rw [ay q];exact n) f a
 .cases q:Z.lookup b with
  |some g=>exact iI q|none=>rw [aI q];exact u.free b o e (by rw [ay q];exact n) a
 .rw [aI (d b _ e)];exact u.ib b xs (by rw [ay (d b _ e)];exact e)
 .rw [aI (d b _ e)];exact u.gj b o v (by rw [ay (d b _ e)];exact e)
 .rw [aI (d b _ e)];exact u.gZ b s (by rw [ay (d b _ e)];exact e)
 .let(q,t):=j3 e;refine(k b v t).fW (λc y Y r=>r) (λc r=>?_) λc xs r=>?_
  .cases y:Z.lookup c with
   |none=>rw [aI y];exact r|some o=>rw [i c o y] at r;cases r
  .cases y:Z.lookup c with
   |none=>rw [aI y];exact r|some o=>rw [i c o y] at r;cases r
def Ap.Ah(z:Ap Z H fs h)(u:Un fs [] H H' h h')(k:fw P w H' h'):Un fs [] (aQ Z H) (aQ Z H') h h'/\fw P w (aQ Z H') h':=by
 have j:∀b o,Z.lookup b=hI o->h'.get? b=hI o:=λb o q=>u.keep b o (z.at_ b o q) (z.no b o q) (z.fr b o q) nofun;have m:∀b o,Z.lookup b=hI o->H' b=h9:=λb o q=>u.free b o (z.at_ b o q) (z.no b o q) nofun
 have g:∀c v,H' c=hI v->Z.lookup c=h9:=λc v i=>by
  cases y:Z.lookup c with
  |none=>rfl|some o=>rw [m c o y] at i;cases i
 have d:∀b,aQ Z H b=h9->Z.lookup b=h9/\H b=h9:=λb e=>by
  cases q:Z.lookup b with
  |some o=>rw [bD q] at e;cases e
  |none=>rw [ay q] at e;exact⟨rfl,e⟩
 refine{{λb o e n f a=>u.keep b o e (d b n).2 f a,λb o e n f a=>u.slot b o e (d b n).2 f a,λb o e n a=>?_,λb o e a=>u.there b o e a,λb xs e=>?_,λb o v e=>?_,λb p e=>?_},λb v e=>?_}
 .rw [ay (d b n).1];exact u.free b o e (d b n).2 a
 .cases q:Z.lookup b with
  |some o=>rw [bD q] at e;cases e
  |none=>rw [ay q] at e⊢;exact u.ib b xs e
 .cases q:Z.lookup b with
  |some s=>rw [bD q] at e⊢;exact e|none=>rw [ay q] at e⊢;exact u.gj b o v e
 .cases q:Z.lookup b with
  |some o=>rw [bD q] at e;cases e
  |none=>rw [ay q] at e⊢;exact u.gZ b p e
 .cases q:Z.lookup b with
  |some o=>rw [bD q] at e;cases e;exact nT (j b o q)
  |none=>rw [ay q] at e;exact(k b v e).fW (λc y Y r=>r) (λc r=>by rw [ay (g c _ r)];exact r) λc xs r=>by rw [ay (g c _ r)];exact r
variable{K:zz8}{s s':ix}
theorem jo.aQ(e:jo P w K mg base A outer s H)(z:Ap Z H (fz outer) s.heap)(d:∀b o,Z.lookup b=hI o->base.get? b=h9):jo P w K mg base A outer s (aQ Z H) where
 frames:=e.frames
 mod:=e.mod
 bs:=λb o q=>{(e.bs b o q).1,by
  cases y:Z.lookup b with
  |some a=>rw [d b a y] at q;cases q
  |none=>rw [ay y];exact(e.bs b o q).2}
 wY:=e.wY
 hZ:=e.hZ
 xm:=λb c=>by
  cases y:Z.lookup b with
  |some a=>exact absurd c (z.fr b a y)|none=>rw [ay y];exact e.xm b c
 aM:=z.aM e.aM
 bare:=e.bare
def CE.less(z:Ap Z H (fz outer) s.heap)(h:CE outer P w (aQ Z H) s (λv H'=>Q v (cy Z H')) u s'):CE outer P w H s Q u s':=by let(v,H',os,bare,un,aM,r,q):=h;let(a,c):=z.KA un aM;exact{v,_,os,bare,a,c,r,q}
def CE.more(z:Ap Z H (fz outer) s.heap)(h:CE outer P w H s (λv H'=>(∀b o,Z.lookup b=hI o->H' b=h9)->Q v (aQ Z H')) u s'):CE outer P w (aQ Z H) s Q u s':=by let(v,H',os,bare,un,aM,r,q):=h;let(a,c):=z.Ah un aM;exact{v,_,os,bare,a,c,r,q λb o y=>un.free b o (z.at_ b o y) (z.no b o y) nofun}
def dz.more{E:XK}{e:iv}(z:Ap Z H (fz outer) s.heap)(h:dz P w outer H s (λC a H'=>(∀b o,Z.lookup b=hI o->H' b=h9)->E C a (aQ Z H')) e s'):dz P w outer (aQ Z H) s E e s':=by
 let(a,C,t,i,H',B,rfl,F):=h;have j:∀b o,Z.lookup b=hI o->B.get? b=hI o:=λb o q=>F.fk b o (z.at_ b o q) (z.no b o q) (z.fr b o q);have d:∀b o,Z.lookup b=hI o->H' b=h9:=λb o q=>F.un.free b o (z.at_ b o q) (z.no b o q) nofun
 have f:∀c v,H' c=hI v->Z.lookup c=h9:=λc v g=>by
  cases y:Z.lookup c with
  |none=>rfl|some o=>rw [d c o y] at g;cases g
 have k:fw P w (aQ Z H') B:=λb v e=>by
  cases q:Z.lookup b with
  |some o=>rw [bD q] at e;cases e;exact nT (j b o q)
  |none=>rw [ay q] at e;exact(F.aM b v e).fW (λc y Y r=>r) (λc r=>by rw [ay (f c _ r)];exact r) λc xs r=>by rw [ay (f c _ r)];exact r
 have hs:fw P w H' s'.heap:=λb v e=>(F.aM b v e).fW (λc y Y r=>F.Dx.1 _ _ r) (λY r=>r) λY Y r=>r;let(m,_):=z.Ah (P:=P) (w:=w) F.un hs;refine{a,C,t,i,_,B,rfl,{F.os,F.bare,k,F.Dx,F.tn,F.tup,λb o e n p=>F.fk b o e ?_ p,F.cY,m,F.ends d}}
 cases q:Z.lookup b with
 |some o=>rw [bD q] at n;cases n
 |none=>rw [ay q] at n;exact n
end
structure uI(ps ys:List Str)(scope:kv):Prop where
 kind:scope.kind=.function
 co:scope.isCoroutine=ig
 gen:scope.isGenerator=ig
 nd:(ps++ys).Nodup
 EW:∀x∈scope.names,x.2≠.cell
 par:∀x∈ps,scope.names.lookup x=hI .local
 fre:∀y∈ys,scope.names.lookup y=hI .free
 Mo:∀x,scope.names.lookup x=hI .free->x∈ys
noncomputable def Qm(P:jX)(w:kd)(K:zz8)(mg:Str->Option iv)(base:kA)(N:List Str)(qual:Str)(a:kv)(f:i1)(cd:iv)(cl:List (Str×i1))(A:ku)(outer:List Env)(s:ix)(H:Hp)(E:XK):Cx where
 prog:=P
 w:=w
 K:=K
 mg:=mg
 base:=base
 A:=A.deeper (PySem.W.envX qual a (zz9 s) f cd cl)
 N:=N
 s₀:=s
 H₀:=H
 env:=PySem.W.envX qual a (zz9 s) f cd cl
 outer:=outer
 stack:=PySem.W.envX qual a (zz9 s) f cd cl::outer
 ex:=[]
 calm:=A.handled.isNone
 fn:=λZ=>ig
 pn:=[]
 xe:=λe c=>jW (kr P w) (A.deeper (PySem.W.envX qual a (zz9 s) f cd cl)) (leaving (PySem.W.envX qual a (zz9 s) f cd cl) e) (λZ b=>dz P w outer H s E e b) (λd b=>dz P w outer H s E d b) c
theorem rj{a:Type}:∀{l:List (Str×a)} {x:Str} {v:a},(l.map (·.1)).Nodup->(x,v)∈l->l.lookup x=hI v
 |(y,u)::r,x,v,nd,h=>by
  rw [a8,List.nodup_cons] at nd;rw [hD];rcases er.mp h with e|e
  .cases e;simp
  .have b:(x==y)=ig:=beq_eq_false_iff_ne.mpr λz=>nd.1 (by subst z;exact List.mem_map_of_mem (f:=(·.1)) e);rw [b];exact rj nd.2 e
def pR{ps:List Str}{i:Nat}(nd:ps.Nodup)(a:ps[i]?=hI x)(b:us[i]?=hI u):(ps.zip us).reverse.lookup x=hI u:=by
 have hs:∀{ps:List Str} {us:List iv},List.Sublist ((ps.zip us).map (·.1)) ps:=λ{ps us}=>by
  induction ps generalizing us with
  |nil=>simp|cons p ps c=>
   cases us with
   |nil=>simp|cons q us=>simpa using c
 refine rj ?_ ?_
 .rw [List.map_reverse];exact List.pairwise_reverse.mpr ((nd.sublist hs).imp λh=>Ne.symm h)
 .rw [List.mem_reverse];refine a6 (i:=i) ?_;rw [List.getElem?_zip_eq_some];exact⟨a,b⟩
section
variable{P:jX}{w:kd}{K:zz8}{ps ys:List Str}{scope:kv}{f:i1}{cd:iv}{cl:List (Str×i1)}{s:ix}{E:XK}
def xx{ws:List V}{tk:Nat}(S:uI ps ys scope)(g:jo P w K mg base A outer s H)(t:∀y∈ys,∃c,cl.lookup y=hI c)(inj:∀x y c,cl.lookup x=hI c->cl.lookup y=hI c->x=y)
 (r:Vals vs us) (hl:vs.length=ps.length) (F:ws.length=ys.length) (cells:∀(i:Nat) y c,ys[i]?=hI y->cl.lookup y=hI c->∀v,ws[i]?=hI v->∃u,RelV v u/\s.heap.IsCell c (hI u)) (G:∀x c,cl.lookup x=hI c->∃v,s.heap.IsCell c v)
 (I:∀x c,cl.lookup x=hI c->H c=h9) (ns:h'.Ns (zz9 s) (λx=>(ps.zip us).reverse.lookup x)) (hk:∀b o,s.heap.get? b=hI o->h'.get? b=hI o):
 Inv (Qm P w K mg base (ps++ys) qual scope f cd cl A outer s H E) [] (vs.map hI++ws.map hI) H {s with heap:=h',toks:=tk}:=by
 have q:∀b:i1,b∉(Qm P w K mg base (ps++ys) qual scope f cd cl A outer s H E).ex:=λb z=>absurd (show b∈([]:List i1) from z) (by simp);have B:∀c v,s.heap.IsCell c v->h'.IsCell c v:=λc v ⟨o,L,hd⟩=>{o,hk c o L,hd}
 refine{{g.mod,S.kind,rfl,rfl,a7 _,inj,λx k=>?_,(λx c z=>nomatch z),λz=>Option.isNone_iff_eq_none.mp z,ku.frames_deeper g.frames,.inr ⟨rfl,rfl⟩,λb z=>absurd z (q b),g.bs,g.wY,λb Z Z=>q b,λb z=>absurd z (q b),g.hZ,g.xm},
  rfl,g.bare,Un.kept hk,{_,ns,λi x v j d M=>?_},λx c h=>let⟨v,z⟩:=G x c h;{v,B c v z},g.aM.fresh (a7 _),I,λp m=>absurd (show p∈([]:lu) from m) (by simp),g.aM.kept hk,?_}
 .have k:scope.names.lookup x=hI .cell\/scope.names.lookup x=hI .free:=k
  rcases k with k|k
  .exact absurd rfl (S.EW _ (PySem.mem_of_lookup k))
  .exact t x (S.Mo x k)
 .have j:(ps++ys)[i]?=hI x:=j;by_cases C:i<vs.length
  .rw [ey (zx6 C),dk] at d;have ha:vs[i]?=hI v:=by
    cases e:vs[i]? with
    |none=>rw [e] at d;cases d
    |some a=>rw [e] at d;cases d;rfl
   let(u,hu,rv):=r.get ha;have m:ps[i]?=hI x:=by rw [ey (by lia)] at j;exact j
   exact{u,rv,.inl {S.par x (a6 m),pR (S.nd.sublist (List.sublist_append_left _ _)) m hu}}
  .rw [ez (zx6 C),dk,zzl] at d;rw [ez (by lia)] at j;have ha:ws[i-vs.length]?=hI v:=by
    cases e:ws[i-vs.length]? with
    |none=>rw [e] at d;cases d
    |some a=>rw [e] at d;cases d;rfl
   rw [<-hl] at j;let(c,D):=t x (a6 j);let(u,rv,z):=cells _ x c j D v ha;exact{u,rv,.inr {.inr (S.fre x (a6 j)),c,D,B c _ z}}
 .show _=(ps++ys).length;rw [c5,c5,zzl,zzl,hl,F]
def To:Passes (dz P w) (Qm P w K mg base N qual scope f cd cl A outer s H E) E:=by
 rintro Q σ H1 s1 e R I ⟨a,C,t,r,y,B,rfl,F⟩
 have nx:∀b:i1,b∉(Qm P w K mg base N qual scope f cd cl A outer s H E).ex:=λb z=>nomatch (show b∈([]:List i1) from z);have fk:∀b o,s.heap.get? b=hI o->H b=h9->b∉fz outer->B.get? b=hI o:=λb o q n c=>F.fk b o (I.base.keep b o q n c (nx b)) (I.base.free b o q n (nx b)) (cM I rfl q c);have cY:∀b o,s.heap.get? b=hI o->b∉fz outer->∃g,B.get? b=hI g:=λb o q c=>by let(o1,d):=I.base.there b o q (nx b);exact F.cY b o1 d (cM I rfl q c)
 refine wpAny_leaves_onW I.ok.frames rfl F.Dx λD j m=>{a,C,t,r,y,B,rfl,?_};have slot:∀b o,s.heap.get? b=hI o->H b=h9->b∈fz outer->∃h,D.get? b=hI {o with slots:=h}:=λb o q n c=>by let(h,d):=I.base.slot b o q n c (nx b);let(G,i):=F.un.any d (I.base.free b o q n (nx b)) nofun;let(_,g,p,hd):=F.Dx.2.2.1.mem (b:=b) (f6.mpr (let⟨v,L,M⟩:=f6.mp c;{v,.tail _ L,M}));rw [i] at p;cases p;let(k,O):=m b _ i hd;exact⟨k,O⟩
 refine{F.os.trans I.os,F.bare,F.aM,j,F.tn,F.tup.of_slots m,fk,cY,{λb o q n c Z=>j.1 _ _ (fk b o q n c),λb o q n c Z=>slot b o q n c,λb o q n Z=>?_,λb o q Z=>?_,λb xs q=>F.un.ib _ _ (I.base.ib _ _ q),λb o u q=>F.un.gj _ _ _ (I.base.gj _ _ _ q),λb ps q=>?_},F.ends}
 .let(h,d):=I.base.any q n (nx b);exact F.un.free b _ d (I.base.free b o q n (nx b)) nofun
 .by_cases c:b∈fz outer
  .let(h,d):=slot b o q (I.ok.xm b c) c;exact{_,d}
  .let(g,d):=cY b o q c;exact{g,j.1 _ _ d}
 .let(m1,d):=I.base.gZ b ps q;let(m2,i):=F.un.gZ b _ d;exact{m1++m2,by rw [<-Array.append_assoc];exact i}
def Jb{k:Nat}{d:Arguments}{M N:iv}{m:i1}{oc:Obj}{B:Array iv}{ct:Tok}{ws:List V}{Z:lu}{t:TE}
 (S:uI ps ys scope) (hr:dm k A) (D:jo P w K mg base A outer s H) (z:Ap Z H (fz outer) s.heap) (zb:∀b o,Z.lookup b=hI o->base.get? b=h9)
 (T:s.heap.get? f=hI (PySem.W.kla_obj (zu 11) qual d body scope cl M m N)) (U:s.heap.get? m=hI oc) (X:oc.data=.fields B) (Y:B[1]?=hI (.str qual ct))
 (hb:bindArgs (PySem.W.kla_fn (zu 11) qual d body scope cl M (.ref m) N) {us,[]}=pure (ps.zip us)) (r:Vals vs us) (hl:vs.length=ps.length) (hw:ws.length=ys.length)
 (UY:∀y∈ys,∃c,cl.lookup y=hI c) (inj:∀x y c,cl.lookup x=hI c->cl.lookup y=hI c->x=y)
 (O:∀x c,cl.lookup x=hI c->∃o v,Z.lookup c=hI o/\o.data=.cell v)
 (cells:∀(i:Nat) y c,ys[i]?=hI y->cl.lookup y=hI c->∀v,ws[i]?=hI v->∃u,RelV v u/\s.heap.IsCell c (hI u))
 (ht:PE (Qm P w K mg base (ps++ys) qual scope f (.ref m) cl A outer s H (λC a j=>(∀b o,Z.lookup b=hI o->j b=h9)->E C a (aQ Z j))) body t)
 (hq:t (vs.map hI++ws.map hI) H λv j=>(∀b o,Z.lookup b=hI o->j b=h9)->Q v (aQ Z j)):
 codeAny (kr P w) A (.call (.ref f) {us,[]}) (CR (dz P w) outer P w (aQ Z H) s Q E) s:=by
 have F:s.heap.NoLimit:=D.mod.nolimit.keeps λb o e=>(D.bs b o e).1;refine PySem.W.kla_callFunE hr.depth T rfl S.co S.gen rfl ⟨m,oc,B,ct,rfl,U,X,Y⟩ ?_;rw [hb];refine bc (wpAny_newFunctionEnv S.EW (λy hy=>S.par y.1 (List.of_mem_zip hy).1) (λp UU G=>?_) S.kind);have g:∀b o,s.heap.get? b=hI o->p.get? b=hI o:=λb o e=>G.extBut b o (d8 (c6 e)) (aT _ e)
 refine{F.keeps g,?_};show codeAny _ _ (.expr body (PySem.W.envX qual scope (zz9 s) f (.ref m) cl)) _ _;have I:=xx (E:=λC a j=>(∀b o,Z.lookup b=hI o->j b=h9)->E C a (aQ Z j)) (cd:=.ref m) (f:=f) (qual:=qual) (tk:=s.toks+(ps.zip us).length) S D UY inj r hl hw cells (λx c h=>by
  let(o,v,L,R):=O x c h;exact{v,o,z.at_ c o L,R}) (λx c h=>by
  let(o,v,L,R):=O x c h;exact z.no c o L) UU g
 refine PySem.W.kla_codeExpr (wpAny_mono (ht [] _ _ H _ I hq) (λu s' hs=>?_) λe s' hs=>?_)
 .let(v,j,J,rv,q):=hs;exact CE.more z ⟨v,j,J.os,J.bare,J.base,J.aM,rv,q⟩
 .exact wpAny_mono hs (λ_ J5 y=>dz.more z y) λe' J5 y=>dz.more z y
end
def wO{p:Pos}{a b:Int}{c d:iv}:∀(l:List iv),TriplesOk l->codeAmong p (l++[rawInt a,rawInt b,c])=hI d->codeAmong p l=hI d\/d=c:=by
 intro l h e
 fun_induction TriplesOk l with
 |case1=>
  simp! [List.nil_append,codeAmong,rawInt] at e;split at e
  .cases e;exact .inr rfl
  .cases e
 |case2 i t j u x rest g=>
  simp! [List.cons_append,codeAmong] at e⊢;split at e
  .rename_i f;rw [if_pos f];exact .inl e
  .rename_i f;rw [if_neg f];exact g h e
 |case3 l k m=>exact h.elim
def Cs(mg:Str->Option iv)(base:kA):Prop:=∃bm o,mg "__builtins__"=hI (.ref bm)/\bm≠builtinsNs/\bm≠la/\base.get? bm=hI o/\o.cls=.type "module"/\o.dict=hI builtinsNs/\o.data=.plain
abbrev iH(H:Hp)(P:i1)(a:Array iv)(b:i1)(oc:Obj)(f:i1)(fo:Obj):Hp:=upd (upd (upd H P (.gz a)) b (.bV oc cU)) f (.bV fo cU)
section
variable{s:ix}{c P c' f:i1}{ps uC:Array iv}{oc fo:Obj}
def Inv.lam{tk:Nat}(I:zv1 s)(g:H P=hI (.gz ps))(i:∀b o,b≠P->s.heap.get? b=hI o->h'.get? b=hI o)(r:h'.get? P=hI (PySem.W.tabObj uC))(more:∃m,uC=ps++m)
 (h:H c'=h9/\(zz9 s)<=c'\/H c'=hI (.bV oc cU)) (C:h'.get? c'=hI oc) (hf:(zz9 s)<=f) (j:h'.get? f=hI fo) (K:c'≠f):
 Inv X aa σ (iH H P uC c' oc f fo) {s with heap:=h',toks:=tk}:=by
 have fr:H f=h9:=I.aM.fresh hf;have t:∀b u,H b=hI u->(∀q,u≠.gz q)->b≠P:=λb u e n z=>by subst z;rw [g] at e;cases e;exact n _ rfl
 have w:∀b u,H b=hI u->b≠f:=λb u e z=>by subst z;rw [fr] at e;cases e
 have D:c'≠P:=λz=>by
  subst z;rcases h with⟨e,_⟩|e
  .rw [g] at e;cases e
  .rw [g] at e;cases e
 have E:f≠P:=λz=>by subst z;rw [g] at fr;cases fr
 have at_:∀b u,H b=hI u->(∀q,u≠.gz q)->iH H P uC c' oc f fo b=hI u:=λb u e n=>by
  unfold iH;rw [ag (w b u e)];by_cases a:b=c'
  .subst a;rw [aq];rcases h with⟨z,_⟩|z
   .rw [z] at e;cases e
   .rw [z] at e;exact e
  .rw [ag a,ag (t b u e n)];exact e
 have no:∀b o,s.heap.get? b=hI o->H b=h9->iH H P uC c' oc f fo b=h9:=λb o e n=>by
  have F:b≠f:=λz=>absurd (c6 e) (by rw [z];exact Nat.not_lt.mpr hf);have G:b≠P:=λz=>by subst z;rw [g] at n;cases n
  have k:b≠c':=λz=>by
   rcases h with⟨_,y⟩|y
   .exact absurd (c6 e) (by rw [z];exact Nat.not_lt.mpr y)
   .rw [z,y] at n;cases n
  unfold iH;rw [ag F,ag k,ag G];exact n
 have kp:∀b o,s.heap.get? b=hI o->H b=h9->h'.get? b=hI o:=λb o e n=>i b o (λz=>by subst z;rw [g] at n;cases n) e;refine I.un {λb o e n Z Z=>kp b o e n,λb o e n Z Z=>{o.slots,kp b o e n},λb o e n Z=>no b o e n,λb o e Z=>?_,λb xs e=>at_ b _ e (λZ z=>nomatch z),λb o u e=>at_ b _ e (λZ z=>nomatch z),λb qs e=>?_} λb u e=>?_
 .by_cases a:b=P
  .exact{_,by rw [a];exact r}
  .exact{o,i b o a e}
 .by_cases a:b=P
  .subst a;rw [g] at e;cases e;let(m,rfl):=more;exact{m,by unfold iH;rw [ag (Ne.symm E),ag (Ne.symm D),aq]}
  .have k:b≠c':=λz=>by
    subst z;rcases h with⟨y,_⟩|y
    .rw [y] at e;cases e
    .rw [y] at e;cases e
   exact{#[],by unfold iH;rw [ag (w b _ e),ag k,ag a,e];simp}
 .unfold iH at e;by_cases A:b=f
  .subst A;rw [aq] at e;cases e;exact nT j
  .rw [ag A] at e;by_cases B:b=c'
   .subst B;rw [aq] at e;cases e;exact nT C
   .rw [ag B] at e;by_cases p:b=P
    .subst p;rw [aq] at e;cases e;exact r
    .rw [ag p] at e;refine(I.aM b u e).fW (λd v hd q=>i d v ?_ q) (λd q=>at_ d _ q (λZ z=>nomatch z)) λd xs q=>at_ d _ q (λZ z=>nomatch z)
     rcases hd with hd|hd
     .rw [hd];exact p
     .exact t d _ hd (λZ z=>nomatch z)
def Ez{R:i1->Obj->Prop}{a:Arguments}{d:kv}{cl:List (Str×i1)}{Q:lr}{E:lr}(I:zv1 s)(j:H P=hI (.gz ps))(y:TriplesOk ps.toList)(T:X.env.code=.ref c)(C:PySem.W.CodeHd X.base c P)
 (F:Cs X.mg X.base) (U:closureFor d X.env=pure cl) (NC:defaultsOf a X.env=([],[]))
 (hit:∀i,codeAmong pos ps.toList=hI i->∃c' oc r t,i=.ref c'/\H c'=hI (.bV oc cU)/\R c' oc/\oc.data=.fields r/\r[1]?=hI (.str (X.env.qual++(zu 11)) t))
 (h:∀(f c':i1) (oc:Obj) (r:Array iv) (t:Tok) (B:iv) (uC:Array iv) (h':kA) (tk:Nat),H f=h9->(H c'=h9\/H c'=hI (.bV oc cU)/\R c' oc)->c'≠f->f≠P->c'≠P->oc.data=.fields r->r[1]?=hI (.str (X.env.qual++(zu 11)) t)->TriplesOk uC.toList->
  (∀p i,codeAmong p uC.toList=hI i->codeAmong p ps.toList=hI i\/i=.ref c')->(∃m,uC=ps++m)->
  Inv X aa σ (iH H P uC c' oc f (PySem.W.kla_obj (zu 11) (X.env.qual++(zu 11)) a body d cl ((X.mg (zu 36)).getD .none) c' B)) {s with heap:=h',toks:=tk}->Q (.ref f) {s with heap:=h',toks:=tk}):
 zx7 X (eval (.Lambda a body d pos) X.env) Q E s:=by
 have G:s.heap.get? P=hI (PySem.W.tabObj ps):=I.aM P _ j;have V:=I.ok.mod.glob.keeps I.bk;have K:la≠P:=λq=>by let(o,es,ep,e,_):=I.ok.mod.glob;have:=(I.bs _ _ e).2;rw [q,j] at this;cases this
 let(bm,ob,b1,b2,b3,Y,b5,b6,b7):=F;have Z:s.heap.BuiltinsAt X.mg P:={bm,ob,b1,b2,b3,(λq=>by have:=(I.bs _ _ Y).2;rw [q,j] at this;cases this),I.bk _ _ Y,b5,b6,b7}
 refine PySem.W.kla_eval NC ?_;cases hm:codeAmong pos ps.toList with
 |none=>
  refine PySem.W.kla_makeFunction (mg:=X.mg) U I.ok.glob V T (C.keeps I.bk) G y hm K Z λc' B h' tk hx L M WS N=>?_;let(c₂,oc,vs,t,e2,O,hd,S):=WS;cases e2;have D:H c'=h9:=I.aM.fresh L;have g:(zz9 s)<=h'.objs.size:=d1 L (Nat.le_of_lt M);have k:H h'.objs.size=h9:=I.aM.fresh g
  refine h h'.objs.size c' oc vs t B _ _ tk k (.inl D) (d8 M) (λz=>by rw [z,j] at k;cases k) (λz=>by rw [z,j] at D;cases D) hd S ?_ ?_ {_,rfl}
   (I.lam j (λb o hb e=>aT _ (hx b o hb e)) (aT _ N) {_,rfl} (.inl ⟨D,L⟩) (aT _ O) g (d4 _ rfl) (d8 M))
  .rw [Array.toList_append];exact TriplesOk_snoc _ _ _ _ y
  .intro p i e;rw [Array.toList_append] at e;exact wO _ y e
 |some i=>
  let(c',oc,r,t,rfl,u,hR,hd,S):=hit i hm;refine PySem.W.kla_makeFunctionHit (mg:=X.mg) U I.ok.glob V T (C.keeps I.bk) G y hm Z λB h' tk hk g=>?_;have k:H h'.objs.size=h9:=I.aM.fresh g;have Ce:s.heap.get? c'=hI oc:=(I.aM c' _ u).1;have Qr:c'≠h'.objs.size:=λz=>by rw [z,k] at u;cases u
  refine h h'.objs.size c' oc r t B ps _ tk k (.inr ⟨u,hR⟩) Qr (λz=>by rw [z,j] at k;cases k) (λz=>by rw [z,j] at u;cases u) hd S y (λp i e=>.inl e) {#[],by simp}
   (I.lam j (λb o hb e=>aT _ (hk b o e)) (aT _ (hk _ _ G)) {#[],by simp} (.inr u) (aT _ (hk _ _ Ce)) g (d4 _ rfl) Qr)
end
end L2
namespace L2
open PySem.Spec PyProof.Rows PySem.W
abbrev uD{b:Type}(a:b)(l:List b)(c:ly):List b:=if l.length<2 then l else(yf l.length λi j=>HT.lexLt (c.getD i []) (c.getD j [])).map λi=>l.getD i a
section
variable{w:kd}{E:lr}{s:ix}{vs:List iv}{vN:ly}
def F5{n:Nat}{P:PySem.Fin->ix->Prop}(g:s.heap.get? a=hI (lq "list" vs.toArray n))(y:vs.length<2)
 (h:∀h' c,(∀b o,b≠a->s.heap.get? b=hI o->h'.get? b=hI o)->h'.get? a=hI (lq "list" vs.toArray c)->P (.done (.ret .none)) {s with heap:=h'}):jW (kr prog w) A (lb.«list.sort» {[.ref a],[]}) P E s:=by
 have m:=e6 s.heap a (Obj.mapSeq λZ=>(#[]:Array iv));let(p,d):=pq (ys:=(#[]:Array iv)) g;generalize i:(((s.heap.update a (Obj.mapSeq λZ=>(#[]:Array iv))).push (lq "tuple" vs.toArray 0)).push (lq "list" #[] 0))=H1;have q:∀b o,b≠a->s.heap.get? b=hI o->H1.get? b=hI o:=λb o f e=>by rw [<-i];exact aT _ (aT _ ((m.2 b f).trans e))
 have j:H1.get? a=hI (lq "list" #[] p):=by rw [<-i];exact aT _ (aT _ d)
 rw [list_sort_plain];refine ar (listItems_at g rfl (ar (listUpdate_at g rfl ?_ (by rw [a5,sizeLine_eq];lia) (Nat.zero_le _))));refine ar (seqEpoch_at d rfl (ar (wpAny_newTuple ?_ (by show vs.length<=_;rw [sizeLine_eq];lia))));refine ar (wpAny_newList ?_ (Nat.zero_le _));refine wpAny_holding ?_;show jW (kr prog w) A _ P E {s with heap:=((s.heap.update a (Obj.mapSeq λZ=>(#[]:Array iv))).push (lq "tuple" vs.toArray 0)).push (lq "list" #[] 0)};rw [i];dsimp only;have k:vs.toArray.size<2:=by rw [a5];lia
 rw [if_pos k,if_pos k];refine ar (bc (ar ?_));show jW (kr prog w) A (pure ((),SortSt.mk' general' (vs.toArray.zip vs.toArray) #[] 7 h9)) _ E _;refine bc ?_;dsimp only;have r:(arrOf (SortSt.mk' general' (vs.toArray.zip vs.toArray) #[] 7 h9)).map (·.2)=vs.toArray:=by show(vs.toArray.zip vs.toArray).map (·.2)=vs.toArray;apply Array.toList_inj.mp;simp! [Array.toList_map,Array.toList_zip];exact List.map_snd_zip (a7 _)
 rw [r];have t:=e6 H1 a (Obj.mapSeq λZ=>vs.toArray);let(u,qe):=pq (ys:=vs.toArray) j;refine ar (seqEpoch_at j rfl (ar (listUpdate_at j rfl ?_ (Nat.zero_le _) (by rw [a5,sizeLine_eq];lia))));simp! [bne_self_eq_false,eg,if_false];exact bc (h _ u (λb o f e=>(t.2 b f).trans (q b o f e)) qe)
def F4{n:Nat}{P:PySem.Fin->ix->Prop}(f:s.heap.get? a=hI (lq "list" vs.toArray n))(g:vs.length<64)(rd:2<=vs.length->∀h',(∀b o,b≠a->s.heap.get? b=hI o->h'.get? b=hI o)->UB prog w A E vs (λi j=>HT.lexLt (vN.getD i []) (vN.getD j [])) {s with heap:=h'})
 (h:∀h' c,(∀b o,b≠a->s.heap.get? b=hI o->h'.get? b=hI o)->h'.get? a=hI (lq "list" (uD iv.none vs vN).toArray c)->P (.done (.ret .none)) {s with heap:=h'}):jW (kr prog w) A (lb.«list.sort» {[.ref a],[]}) P E s:=by
 by_cases d:vs.length<2
 .exact F5 f d λh' c k e=>h h' c k (by unfold uD;rw [if_pos d];exact e)
 .exact BV f (by lia) g (rd (by lia)) λh' c k e=>h h' c k (by unfold uD;rw [if_neg d];exact e)
def F8{d:i1}{f:Array DictEntry}{r:Nat}(B:(d==sysModules)=ig)(m:o.ExactDict)(hd:o.data=.dict f r):KdlSrc prog w "dict" d d f.size (λi v=>∃h:i<f.size,v=f[i].key) (λh=>h.get? d=hI o) where
 type:=λs e=>⟨o,e,m.1⟩
 there:=λh e=>{c6 e,c6 e}
 keep:=λh j e k=>k d (.inl rfl) o e
 notList:=↑2
 notTuple:=↑2
 hint:=λA E s Q e q=>kdl_hint_dict ⟨o,e,m.1⟩ q
 iter:=λA s C e=>{_,λi h=>h.IsKeyIter (zz9 s) d i f.size r/\h.get? d=hI o,(λE Q q=>yX B e m hd q),{
  sub:=λb c=>by simp at c;simp [c]
  frame:=λZ Z Z st hk=>{st.1.at λo e=>hk _ (by simp) o e,hk d (by simp) o st.2}
  item:=λi p Q E t st g=>yY st.1 st.2 hd t λj D u=>g _ j p.toks ⟨t,rfl⟩ {D,(u.2 d (d8 (c6 e))).trans st.2} λb o c z=>(u.2 b (λy=>c (by simp [y]))).trans z
  done:=λp Q E st g=>DZ C st.1 st.2 hd (a7 _) λj F=>g j p.toks λb o c z=>F b o (λy=>c (by simp [y])) z
  self:=λZ Z Z Z st g=>wpAny_pyIter_keyiter st.1 g},{{_,d4 _ rfl,rfl,rfl},aT _ e}}
def uX{Q:List iv->ix->Prop}{T:String}{r d:i1}{n:Nat}{P:Nat->iv->Prop}{j:kA->Prop}(K:KdlSrc prog w T r d n P j)(m:A.handled=h9)(aM:j s.heap)(hn:n<=kB)
 (p:∀h' tk (acc:Array iv),(∀b o,s.heap.get? b=hI o->h'.get? b=hI o)->ItemsOf P acc n->Q acc.toList {s with heap:=h',toks:=tk}):jW (kr prog w) A (collect (.ref r)) Q E s:=by
 have q:(s.heap.push (lq "list" #[] 0)).get? (zz9 s)=hI {cls:=.type "list",data:=.seq #[] 0}:=d4 _ rfl;have k:=K.there _ aM
 have h:codeAny (kr prog w) A (.builtin "proto.collect" {[.ref r],[]}) (λc i=>∃h' tk f g,c=.ok (.ret (.ref (zz9 s)))/\i={s with heap:=h',toks:=tk}/\(∀b o,s.heap.get? b=hI o->h'.get? b=hI o)/\h'.get? (zz9 s)=hI {cls:=.type "list",dict:=h9,data:=.seq f g,slots:=#[]}/\ItemsOf P f n) s:=by
  refine codeAny_builtin F.entry_proto_collect ?_;rw [hG F.plain_proto_collect _];show jW _ A.in1 (newList []>>=λl=>again (.builtin "list.__iadd__" {[l,.ref r],[]})) _ _ s
  refine ar (wpAny_newList (bc {plainId_quiet F.plain_list_iadd _,codeAny_builtin F.entry_list_iadd ?_}) (Nat.zero_le _));rw [hG F.plain_list_iadd _];exact kdl_extend (R:=λc i=>∃h' tk f g,c=.ok (.ret (.ref (zz9 s)))/\i={s with heap:=h',toks:=tk}/\(∀b o,s.heap.get? b=hI o->h'.get? b=hI o)/\h'.get? (zz9 s)=hI {cls:=.type "list",dict:=h9,data:=.seq f g,slots:=#[]}/\ItemsOf P f n)
   (s:={s with heap:=s.heap.push (lq "list" #[] 0)}) (A:=A) K m (K.keep _ _ aM λb Z o e=>aT _ e) _ (Nat.ne_of_gt k.1) (Nat.ne_of_gt k.2) (.ref (zz9 s)) 0 q (λh' tk f g hk t u=>{h',tk,f,g,rfl,rfl,λb o e=>hk b o (d8 (c6 e)) (aT _ e),t,u}) hn
 unfold collect;refine ar (wpAny_runValue (codeAny_mono h λc i hr=>?_));let(h',tk,f,g,rfl,rfl,y,k2,B):=hr;show jW _ A (load (zz9 s)>>=λz=>_) _ _ _;exact ar (wpAny_load k2 (bc (p h' tk f y B)))
end
section
variable{s:ix}{vN:ly}{E:lr}
def GD(r:Vals vs us):Vals (uD V.aR vs vN) (uD iv.none us vN):=by
 have hl:=r.length;unfold uD;rw [hl];split
 .exact r
 .have go:∀l:List Nat,Vals (l.map λi=>vs.getD i V.aR) (l.map λi=>us.getD i iv.none):=by
   intro l
   induction l with
   |nil=>exact .nil|cons i l d=>
    refine .cons ?_ d;dsimp only;by_cases a:i<vs.length
    .let(u,hu,e):=r.get (zzg a);have b:vs.getD i V.aR=vs[i]:=by simp [a]
     have c:us.getD i iv.none=u:=by simp [hu]
     rw [b,c];exact e
    .have b:vs.getD i V.aR=.aR:=by simp [Nat.le_of_not_lt a]
     have c:us.getD i iv.none=.none:=by simp [Nat.le_of_not_lt (hl▸a)]
     rw [b,c];exact rfl
  exact go _
def Kl{a:Type}{d:a}{l:List a}:(uD d l vN).length=l.length:=by
 unfold uD;split
 .rfl
 .rename_i h;rw [zzl,(wc (by omega) _).length_eq,List.length_range]
def yg(I:zv1 s)(r:Vals vs us)(rd:2<=us.length->∀h',(∀b o,s.heap.get? b=hI o->h'.get? b=hI o)->UB X.prog X.w A.in1 E us (λi j=>HT.lexLt (vN.getD i []) (vN.getD j [])) {s with heap:=h'})(g:vs.length<64)(q:∀p,H p=h9->Q (.ref p) (upd H p (.lst (uD V.aR vs vN)))):
 jW (kr X.prog X.w) A (newList us>>=λl=>holding [l] (call (.builtin "list.sort") [l] [])>>=λZ=>ret l) (λfin s'=>∃v,fin=.done (.ret v)/\EP X aa σ Q v s') E s:=by
 have hl:=r.length;refine ar (wpAny_newList ?_ (by rw [sizeLine_eq];lia));have d:(s.heap.push (lq "list" us.toArray 0)).get? (zz9 s)=hI (lq "list" us.toArray 0):=d4 _ rfl;have kp:∀b o,s.heap.get? b=hI o->(s.heap.push (lq "list" us.toArray 0)).get? b=hI o:=λb o e=>aT _ e;refine ar (wpAny_holding (wpAny_call_entry slot_list_sort {_,d,rfl} entry_list_sort ?_ (args_list_sort _)));refine F4 (s:={s with heap:=s.heap.push (lq "list" us.toArray 0)}) d (by lia) (λf h' k=>rd f h' λb o e=>k b o (d8 (c6 e)) (kp b o e)) λh' c k e=>{_,rfl,bc {_,rfl,.ref (zz9 s),upd H (zz9 s) (.lst (uD V.aR vs vN)),?_,rfl,q _ (I.aM.fresh (a7 _))}};exact I.laid (a:=(zz9 s)) (t':=s.toks) (λb o z=>k b o (d8 (c6 z)) (kp b o z)) (a7 _) {by rw [Kl,sizeLine_eq];lia,_,c,GD r,e}
variable{d:i1}{aA:List (Key×V)}
def C8{P:jX}{w:kd}(x:bX P w H h d (.dK aA)):(d==sysModules)=ig/\(aA.map (·.1)).Nodup/\∃o b f,h.get? d=hI o/\o.ExactDict/\o.data=.dict b f/\b.size=aA.length/\∀(i:Nat) (h:i<b.size),∃k v,aA[i]?=hI (k,v)/\(bg P w).is k b[i].key=ie/\RelV v b[i].val:=by
 let(F,j,xs,c,o,b,f,m,p,r,G,g,t):=x;have hl:b.size=xs.length:=by rw [<-ef];exact g.length
 have u:aA.length=xs.length:=Paired.length c;have y:aA.map (·.1)=xs.map (·.1):=c.keys;refine{j,y▸t,o,b,f,m,p,r,hl.trans u.symm,λi B=>?_};have q:=xX c (zzg (show i<aA.length by lia)) (zzg (show i<xs.length by lia));let(C,D):=g.get? (i:=i) (e:=b[i]) (k:=xs[i].1) (v:=xs[i].2) (by rw [Array.getElem?_toList];exact gf B) (by rw [zzg (show i<xs.length by lia)]);exact{_,_,zzg (show i<aA.length by lia),(congrArg (λz=>(bg P w).is z b[i].key) q.1).trans C,by rw [D];exact q.2}
def C9(I:zv1 s)(e:Rd H d (.dK aA)):(d==sysModules)=ig/\(aA.map (·.1)).Nodup/\∃o b c,s.heap.get? d=hI o/\o.ExactDict/\o.data=.dict b c/\b.size=aA.length/\∀(i:Nat) (h:i<b.size),∃k v,aA[i]?=hI (k,v)/\(bg X.prog X.w).is k b[i].key=ie/\RelV v b[i].val:=C8 (e.ok I.aM)
def vY{P:jX}{w:kd}{k:Key}{v:iv}(h:(bg P w).is k v=ie):RelV (kV k) v:=by
 rcases bG (k:=k) h with⟨i,t,rfl,rfl⟩|⟨x,t,rfl,rfl⟩
 .exact⟨t,rfl⟩
 .exact⟨t,rfl⟩
def Inv.ny(I:zv1 s)(e:H a=hI (.dK aA)):∃o,Inv X aa σ (upd H a (.bV o (.dK aA))) s:=by let(z,f,xs,b,o,g,h,c,i):=(show bX X.prog X.w H s.heap a (.dK aA) from I.aM a _ e);exact{o,gN (h':=s.heap) (t':=s.toks) I (by rw [e];exact True.intro) {rfl,λZ Z=>rfl} ⟨o,c⟩ ⟨c,z,f,xs,b,o,g,h,c,i⟩}
end
abbrev Vv(a:i1)(o:Obj)(b:List (Key×V)):It:=
 {λi H=>H a=hI (.bV o (.dK b))/\i<b.length,λi H x c=>c=H/\∃k v,x=kV k/\b[i]?=hI (k,v),λi H=>H a=hI (.bV o (.dK b))/\b.length<=i}
def xf{j:St}{s:ix}{c:List (Key×V)}(I:Inv X aa j H s)(e:H a=hI (.bV o (.dK c))):
 (a==sysModules)=ig/\s.heap.get? a=hI o/\o.ExactDict/\∃b d,o.data=.dict b d/\b.size=c.length/\∀(i:Nat) (h:i<b.size),∃k v,RelV (kV k) b[i].key/\c[i]?=hI (k,v):=by
 let(f,ok):=(show bX X.prog X.w H s.heap a (.bV o (.dK c)) from I.aM a _ e);let(m,_,y,b,d,g,p,q,hl,hk):=C8 ok;rw [f] at g;cases g;exact{m,f,p,b,d,q,hl,λi r=>let⟨k,v,t,u,_⟩:=hk i r;{k,v,vY u,t}}
def yt{P:jX}{w:kd}{K:zz8}{U:i2}{it:i1}{m:Array DictEntry}{M:Nat}{N:List (Key×V)}(hd:o.data=.dict m M)(hl:m.size=N.length):
 Turn P w K U (Vv a o N) [it] it (λi h=>h.IsKeyIter it a i m.size M) where
 mem:=by simp
 obj:=λi h st b f=>by have e:b=it:=zx6 f;subst e;let(q,e,c,d):=st;exact{q,e,λv z=>by rw [d] at z;cases z}
 keep:=λi h p st k=>st.at λo e=>k it (by simp) o e
 item:=by
  intro X r t hK O i Q s R H E I hf st u;subst r t hK;let(g1,g2):=u;let(W,y,Y,A,B,g,Z,j):=xf I g1;rw [hd] at g;cases g;let(C,D,f2,F,G,L):=hf it (by simp);have S:i<m.size:=by lia
  refine yY st y hd S λp T sb=>?_;let(k,v,e1,e2):=j i S;have I1:Inv X Q R H {s with heap:=p}:=I.turned (t':=s.toks) (λb o f e=>(sb.2 b f).trans e) C D F G L;let(q,e,c,d):=id T;exact{_,rfl,vm (s:={s with heap:=p}) e c d ↑2 {kV k,H,I1,e1,⟨rfl,k,v,rfl,e2⟩,T,λb f=>(hf b f).1}}
 done:=by intro X r t hK O i Q s R H E I hf st u;subst r t hK;let(g1,g2):=u;let(W,y,Y,A,B,g,Z,j):=xf I g1;rw [hd] at g;cases g;let(C,D,f2,F,G,L):=hf it (by simp);exact DZ (I.ok.hd O) st y hd (by lia) λp eb=>{rfl,I.turned (t':=s.toks) (λb o f e=>eb b o f e) C D F G L}
 self:=λ_ _ _ _ _ st h=>wpAny_pyIter_keyiter st h
abbrev iDk(d:TE):TI:=λe H R=>d e H λx b=>∃a o c,x=.ref a/\b a=hI (.bV o (.dK c))/\R (Vv a o c) b
def Tu{j l:i2}{g:TE}(hl:PE X l g):PI X j l (iDk g):=by intro k s m H R I h;refine bM (hl k s m H _ I h) λv c f=>?_;let(x,p,d,r,t):=f;let(a,o,D,e,u,q):=t;subst e;cases r;let(w,y,z,E,F,i,A,B):=xf d u;refine yX w y z i ?_;refine{(zz9 c),[(zz9 c)],_,_,p,rfl,d.kept (t':=c.toks) λb o e=>aT _ e,yt i A,{_,d4 _ rfl,rfl,rfl},λb C=>?_,q};have e:b=(zz9 c):=zx6 C;subst e;exact d.vh (a7 _) (d.aM.fresh (a7 _))
noncomputable abbrev Ao(K:zz8)(H:Hp)(vs:List V)(b:List (Key×V)):Prop:=Paired (λv a=>∃q,v=V.ref q/\f9 K H q [kV a.1,a.2]) vs b
def f9.MF{K:zz8}{f:Hp}{d:i1}{xs:List V}(h:f9 K H a xs)(e:∀b,b≠d->f b=H b){c:List (Key×V)}(hd:H d=hI (.dK c)):f9 K f a xs:=by
 rcases h with(h|⟨o,h⟩)|h
 .exact .inl (.inl (by rw [e a (vK h hd nofun)];exact h))
 .exact .inl (.inr {o,by rw [e a (vK h hd nofun)];exact h})
 .exact .inr h
def il.MF{K:zz8}{f:Hp}{d:i1}{xs:List V}(h:il K H a xs)(e:∀b,b≠d->f b=H b){c:List (Key×V)}(hd:H d=hI (.dK c)):il K f a xs:=by
 rcases h with(h|⟨o,h⟩)|h
 .exact .inl (.inl (by rw [e a (vK h hd nofun)];exact h))
 .exact .inl (.inr {o,by rw [e a (vK h hd nofun)];exact h})
 .exact .inr h
section
variable{l d it:i1}{E:lr}{R:Result->ix->Prop}
def Mz{s:ix}{b:List (Key×V)}{k:Key}{r:iv}{Q:Unit->ix->Prop}(hu:A.units<cLine)(I:zv1 s)(e:H a=hI (.dK b))(g:RelV (kV k) u)(l:b.length<kB)(rv:RelV v r)
 (h:∀h' t,kA.SameBut a s.heap h'->Inv X aa σ (upd H a (.dK (putK b k v))) {s with heap:=h',toks:=t}->Q () {s with heap:=h',toks:=t}):jW (kr X.prog X.w) A (dictSet a u r) Q E s:=by
 let(z,i,xs,c,j):=u7 I.aM e;have m:xs.length<=sizeLine:=by rw [<-c.length];exact z
 have hl:(putK b k v).length<=sizeLine:=by have:=ee b k v;lia
 refine wpAny_dictSet_pairs (hsz:=m) (kQ g) j λh' f hs=>h h' _ hs ?_;let(o,_,_,p,_):=id f;exact gN I (by rw [e];exact True.intro) hs ⟨o,p⟩ {hl,i,_,c.put k rv,f}
def De(hu:A.units+1<cLine)(hh:A.handled=h9):∀(rest:List (Key×V)) (i:Nat) (j:Int) (a:List (Key×V)) (H:Hp) (s:ix),Inv X aa σ H s->jr X aa H it->s.heap.IsListIter it l i->il X.K H l vs->Ao X.K H (vs.drop i) rest->H d=hI (.dK a)->a.length+rest.length<=kB->
 (∀s' t,Inv X aa σ t s'->t d=hI (.dK (cL a rest))->(∀b,b≠d->t b=H b)->R (.ok (.ret .none)) s')->codeAny (kr X.prog X.w) A (.builtin "dict.update.loop" {[.ref d,.ref it,rawInt j,.none],[]}) R s:=by
 intro rest
 induction rest with
 |nil=>
  intro i j a H s I hf st hl g hd Q k;let(aw,rv,p,_):=I.list hl;let(m,C,f2,D,F,G):=hf
  have hi:vs.length<=i:=List.drop_eq_nil_iff.mp (by cases h:vs.drop i with|nil=>rfl|cons x r=>rw [h] at g;cases g);have hle:=rv.length;refine codeAny_builtin u9 ?_;rw [hG kK _];show jW _ A.in1 (pyNext (.ref it)>>=λz=>_) _ _ s;refine ar (wpAny_pyNext_list_end hh st p.isList (by simp;lia) λL eb=>?_);show jW _ _ (lb.Dict.addKeywords d []>>=λ_=>_) _ _ _;exact ar (bc (bc (k _ H (I.turned (t':=s.toks) (λb o S e=>eb b o S e) m C D F G) hd λ_ _=>rfl)))
 |cons f rest ih=>
  intro i j a H s I hf st hl g hd Q k;let(aw,rv,p,_):=I.list hl;let(m,C,f2,D,F,G):=id hf
  obtain⟨v,M,hv,⟨q,rfl,hq⟩,T⟩:∃v M,vs.drop i=v::M/\(∃q,v=V.ref q/\f9 X.K H q [kV f.1,f.2])/\Ao X.K H M rest:=by
   cases h:vs.drop i with
   |nil=>rw [h] at g;cases g
   |cons x r=>rw [h] at g;cases g with|cons U N=>exact⟨x,r,rfl,U,N⟩
  have W:vs[i]?=hI (.ref q):=by rw [<-List.head?_drop,hv];rfl
  have Y:vs.drop (i+1)=M:=by rw [<-List.drop_drop,hv];rfl
  let(u,NP,ru):=rv.get W;cases(show u=iv.ref q from ru);refine codeAny_builtin u9 ?_;rw [hG kK _];show jW _ A.in1 (pyNext (.ref it)>>=λz=>_) _ _ s;refine ar (wpAny_pyNext_list_item st p.isList (x:=iv.ref q) (zx6 NP) λL kg sb=>?_);have I1:Inv X aa σ H {s with heap:=L}:=I.turned (t':=s.toks) (λb o S e=>(sb.2 b S).trans e) m C D F G;let(fS,Z,p2,_):=I1.tuple hq;let(o2,g1,g2,n2,g3):=id p2
  obtain⟨y,B,rfl,ru1,ru2⟩:∃y B,fS=[y,B]/\RelV (kV f.1) y/\RelV f.2 B:=by cases Z with|cons U N=>cases N with|cons h3 h4=>cases h4;exact{_,_,rfl,U,h3}
  show jW _ A.in1 (holding [iv.ref q] _>>=λz=>_) _ _ {s with heap:=L};refine ar (wpAny_holding (ar (wpAny_tryCatch ?_)));unfold lb.Dict.pairItems;refine ar (wpAny_typeOf (s:={s with heap:=L}) ⟨o2,g1,g2⟩ ?_);rw [if_pos ↑2];refine ar (wpAny_seqItems g1 g3 (bc ?_));show jW _ A.in1 (holding [y,B] (dictSet d y B)) _ _ _;refine wpAny_holding (Mz hu I1 hd ru1 (by rw [c4] at Q;lia) ru2 λN t2 sb2 I2=>?_);have O:∀c,c≠d->upd H d (.dK (putK a f.1 f.2)) c=H c:=λc P=>ag P;have nd:it≠d:=λz=>by rw [z,hd] at m;cases m
  refine bc {plainId_quiet kK _,ih (i+1) (j+1) _ _ _ I2 {by rw [O _ nd];exact m,C,f2,D,F,G} (kg.at λo e=>(sb2.2 it nd).trans e) (il.MF hl O hd) (by rw [Y];exact Paired.Je T λ_ _ ⟨q,e1,e2⟩=>{q,e1,f9.MF e2 O hd}) aq ?_ λs' t J1 J2 J3=>k s' t J1 J2 λc P=>(J3 c P).trans (O c P)};have:=ee a f.1 f.2;rw [c4] at Q;lia
def nY(G:X.calm=ie)(hu:X.A.units+3<cLine):cG X (.type "dict") (λxs H Q=>∃l vs g,xs=[V.ref l]/\il X.K H l vs/\Ao X.K H vs g/\∀p,H p=h9->Q (.ref p) (upd H p (.dK (cL [] g)))):=by
 intro aa s σ H xs Z Q I r h;let(l,vs,g,rfl,hl,t,q):=h;let(u,rfl,L):=vals1 r;cases L;have w:X.A.handled=h9:=I.ok.hd G
 refine callType_codes (Q₁:=λobj c=>obj=.ref (zz9 s)/\c={s with heap:=s.heap.push {cls:=.type "dict",data:=.dict #[]}}) F.kt_called_dict (F.kt_typeCall_dict_1 _) F.entry_dict_init (kt_code_dict_new _ ⟨rfl,rfl⟩) ?_
 rintro obj c ⟨rfl,rfl⟩
 have y:H (zz9 s)=h9:=I.aM.fresh (a7 _);have z:=I.laid (a:=(zz9 s)) (o:=.dK []) (t':=s.toks) (λ_ _ q=>aT _ q) (a7 _) (kJ s.heap I.big);have T:({s.heap.push {cls:=.type "dict",data:=.dict #[]},s.gens,s.drawn,s.toks,s.os}:ix).TypeIs (.ref (zz9 s)) "dict":={_,d4 _ rfl,rfl};have same:aC H (upd H (zz9 s) (.dK [])):=bj y;have k:il X.K (upd H (zz9 s) (.dK [])) l vs:=same.seq hl;let(aw,rv,p,hz):=z.list k;let(o,n,g1,g2,M,N):=id p;refine{T,F.args_dict_init_2 _ _,?_};unfold lb.«dict.__init__» lb.Dict.selfAndRest;refine ar (ar (wpAny_notOrdered_dict T ?_));show jW _ _ (pure ((zz9 s),[iv.ref l]):Sem _) _ _ _;refine bc ?_;show jW _ _ (lb.Dict.updateFrom "dict.__init__" (zz9 s) (.ref l) [] .none) _ _ _;unfold lb.Dict.updateFrom;refine ar (wpAny_typeOf ⟨o,g1,g2⟩ ?_);rw [if_pos ↑2];refine ar (HV g1 g2 N M w λh' B hk=>?_);rw [if_pos ↑2];refine ar (wpAny_rule ?_);have i:=z.kept (h':=h') (t':=B) hk;let(C,O,P,_):=i.list k;refine ar (wpAny_pyIter_list P.isList ?_);have S:=i.kept (h':=h'.push {cls:=.type "list_iterator",data:=.fields #[.ref l,.int 0 0]}) (t':=B) λb o e=>aT _ e;have F9:(h'.push {cls:=.type "list_iterator",data:=.fields #[.ref l,.int 0 0]}).IsListIter h'.objs.size l 0:={_,d4 _ rfl,rfl,rfl};have m:jr X aa (upd H (zz9 s) (.dK [])) h'.objs.size:=i.vh (a7 _) (i.aM.fresh (a7 _));refine bc {plainId_quiet kK _,De (X:=X) (A:=X.A.in1) (aa:=aa) (σ:=σ) (l:=l) (d:=(zz9 s)) (it:=h'.objs.size) (vs:=vs) (by show X.A.units+1+1<cLine;lia) (show X.A.in1.handled=h9 from w) g 0 0 [] _ _ S m F9 k ?_ aq ?_ λs' U D J2 W=>{rfl,?_}}
 .exact Paired.Je t λ_ _ ⟨q,Y,f⟩=>{q,Y,(show f9 X.K _ q _ from by
   rcases f with(f|⟨o,f⟩)|f
   .exact .inl (.inl (same _ _ f))
   .exact .inl (.inr {o,same _ _ f})
   .exact .inr f)}
 .have:=Paired.length t;rw [List.length_nil];lia
 .have e:U=upd H (zz9 s) (.dK (cL [] g)):=by
   funext b
   by_cases j:b=(zz9 s)
   .rw [j,aq];exact J2
   .rw [ag j,W b j,ag j]
  rw [e] at D;exact{.ref (zz9 s),_,D,rfl,q _ y}
def uS(e:X.calm=ie)(hu:X.A.units+3<cLine):cG X (.type "dict") (λxs H Q=>∃l vs a,xs=[V.ref l]/\il X.K H l vs/\Ao X.K H vs a/\∀p o,H p=h9->Q (.ref p) (upd H p (.bV o (.dK (cL [] a))))):=by
 intro aa s σ H xs f Q I r h;let(l,vs,a,rfl,hl,g,q):=h;refine wpAny_mono (nY e hu aa s σ H _ f (λv c=>∃p,v=.ref p/\H p=h9/\c=upd H p (.dK (cL [] a))) I r {l,vs,a,rfl,hl,g,λp b=>⟨p,rfl,b,rfl⟩}) ?_ λZ Z z=>z
 rintro u j ⟨v,c,i,rv,p,rfl,b,rfl⟩
 let(o,J):=i.ny aq;rw [nM] at J;exact{_,_,J,rv,q p o b}
end
noncomputable abbrev jx(z:Str):List Int:=z.cps.toList.map λ(c:Nat)=>(c:Int)
theorem zy:∀(a b:List Nat),decide (a<b)=HT.lexLt (a.map λ(c:Nat)=>(c:Int)) (b.map λ(c:Nat)=>(c:Int))
 |[],[]=>by simp [HT.qh]|[],_::_=>by simp [HT.lexLt]|_::_,[]=>by simp [HT.lexLt]|x::a,y::b=>by
  rw [a8,a8,HT.xG,<-zy a b];by_cases e:x=y
  .subst e;rw [if_pos rfl];simp [List.cons_lt_cons_iff]
  .rw [if_neg (by lia)];simp [List.cons_lt_cons_iff,e]
section
variable{E:lr}{s:ix}
def FR{w:kd}:∀{us:List iv} {c:List Str},Vals (c.map V.str) us->2<=us.length->UB prog w A E us (λi j=>HT.lexLt ((c.map jx).getD i []) ((c.map jx).getD j [])) s:=λ{us c} r d=>by
 have hl:c.length=us.length:=by have:=r.length;simpa using this
 have sa:StrsAre us c:=by
  clear d hl
  induction c generalizing us with
  |nil=>cases r;exact .nil
  |cons z c g=>
   cases r with
   |cons h t=>let(D,rfl):=h;exact .cons _ _ (g t)
 have at_:∀(i:Nat) (f:i<us.length),∃t,us.getD i iv.none=.str (c[i]'(by lia)) t:=λi f=>by let(u,k,d):=r.get (i:=i) (x:=V.str (c[i]'(by lia))) (by rw [dk,zzg (show i<c.length by lia)];rfl);let(t,rfl):=d;exact{t,by simp [k]}
 refine{oneType',λQ q=>?_,λi j C f m hC=>?_}
 .obtain⟨a,b,e,rfl⟩:∃a b e,us=a::b::e:=by
   match us,d with
   |a::b::e,_=>exact⟨a,b,e,rfl⟩
  rw [keyKind_strs sa];exact bc q
 .let(F,o):=at_ i f
  let(t2,p):=at_ j m
  unfold kas_ask;rw [o,p];refine kas_lt_str ?_;have y:(c.map jx).getD i []=jx (c[i]'(by lia)):=by simp [show i<c.length by lia]
  have B:(c.map jx).getD j []=jx (c[j]'(by lia)):=by simp [show j<c.length by lia]
  dsimp only at hC;rw [y,B] at hC;rw [zy];exact hC
def rY(y:X.calm=ie):cG X (.builtin "sorted") (λxs H Q=>∃a e,∃b:List Str,xs=[V.ref a]/\Rd H a (.dK e)/\e.map (·.1)=b.map Sum.inr/\e.length<64/\
 ∀p,H p=h9->Q (.ref p) (upd H p (.lst (uD V.aR (b.map V.str) (b.map jx))))):=by
 intro S s T H xs d Q I r h;let(a,e,b,rfl,hl,hk,U,q):=h;let(u,rfl,B):=vals1 r;cases B;let(C,_,o,W,Y,D,F,G,Z,f):=C9 I hl;refine Calls.call_function_entry kind_sorted plain_sorted entry_sorted (args_sorted1 _) ?_;unfold lb.«sorted»;refine ar (m:=checkCount "sorted" 1 1 _) (bc (ar (uX (F8 C F G) (show X.A.in1.handled=h9 from I.ok.hd y) D (by rw [sizeLine_eq];lia) λh' K c kp it=>?_)));have w:=I.kept (t':=K) (h':=h') kp;have L:b.length=e.length:=by have:=congrArg List.length hk;simpa using this.symm
 have hs:c.toList.length=b.length:=by rw [ef,it.1];lia
 have g:∀(i:Nat) v z,c.toList[i]?=hI v->b[i]?=hI z->RelV (V.str z) v:=λi v z j t=>by
  let(M,g):=it.2 i v (by rw [<-Array.getElem?_toList];exact j);let(k,x,g1,g2,_):=f i M;have N:k=.inr z:=by have:=congrArg (λl=>l[i]?) hk;simp! [dk,g1,t,Option.map_some] at this;exact zzq this
  subst N;rw [g];exact vY g2
 have rv:Vals (b.map V.str) c.toList:=by
  clear it f hk I w q L;generalize c.toList=d at hs g
  induction b generalizing d with
  |nil=>cases d with
   |nil=>exact .nil|cons u d=>simp at hs
  |cons z b O=>
   cases d with
   |nil=>simp at hs|cons u d=>exact .cons (g 0 u z rfl rfl) (O d (zx6 hs) λi v ns j t=>g (i+1) v ns (zx6 j) (zx6 t))
 exact yg w rv (λP h' k=>FR rv P) (by rw [zzl];lia) λp R=>q p R
end
def wZ:cG X (.type "dict") (λxs H Q=>∃a g,xs=[V.ref a]/\Rd H a (.dK g)/\∀p,H p=h9->Q (.ref p) (upd H p (.dK g))):=by
 intro M s N H xs O Q I r h;let(a,g,rfl,hr,q):=h;let(u,rfl,B):=vals1 r
 cases B;refine callType_codes (Q₁:=λobj b=>obj=.ref (zz9 s)/\b={s with heap:=s.heap.push {cls:=.type "dict",data:=.dict #[]}}) F.kt_called_dict (F.kt_typeCall_dict_1 _) F.entry_dict_init (kt_code_dict_new _ ⟨rfl,rfl⟩) ?_
 rintro obj b ⟨rfl,rfl⟩
 have A:H (zz9 s)=h9:=I.aM.fresh (a7 _);have j:=I.laid (a:=(zz9 s)) (o:=.dK []) (t':=s.toks) (λZ Z q=>aT _ q) (a7 _) (kJ s.heap I.big);have T:({s.heap.push {cls:=.type "dict",data:=.dict #[]},s.gens,s.drawn,s.toks,s.os}:ix).TypeIs (.ref (zz9 s)) "dict":={_,d4 _ rfl,rfl}
 have k:a≠(zz9 s):=λz=>by rcases hr with e|⟨o,e⟩<;>(rw [z,A] at e;cases e)
 have m:Rd (upd H (zz9 s) (.dK [])) a (.dK g):=by
  rcases hr with e|⟨o,e⟩
  .exact .inl (by rw [ag k];exact e)
  .exact .inr {o,by rw [ag k];exact e}
 let(z,t,i,c,d):=jg j.aM m;let(_,w,C,f,hd):=u7 j.aM (aq (H:=H) (a:=(zz9 s)) (o:=.dK []));cases f;have nd:(i.map (·.1)).Nodup:=by let(_,_,_,_,_,_,_,_,h):=d;exact h
 have D:merged [] i=i:=merged_append_of_fresh [] i nd;refine{T,F.args_dict_init_2 _ _,?_};unfold lb.«dict.__init__» lb.Dict.selfAndRest;refine ar (ar (wpAny_notOrdered_dict T ?_));show jW _ _ (pure ((zz9 s),[iv.ref a]):Sem _) _ _ _;refine bc ?_;show jW _ _ (lb.Dict.updateFrom "dict.__init__" (zz9 s) (.ref a) [] .none) _ _ _;unfold lb.Dict.updateFrom;refine ar (wpAny_typeOf d.typeIs ?_);rw [if_neg ↑2];refine ar ?_;unfold lb.Dict.merge;refine ar ?_;unfold lb.Dict.readDirectly;refine ar (wpAny_isInstance d.typeIs isSubtype_dict_dict ?_);simp! [Bool.not_true,eg,if_false];refine ar (wpAny_specialOf d.typeIs F.slot_dict_iter.lookup (bc ?_));simp! [beq_self_eq_true,if_true];refine ar (bc ?_);refine wpAny_mergeDict (hsz:=by rw [List.length_nil,Nat.zero_add,<-Paired.length c];exact z) (Ne.symm k) t hd d λE y P G=>?_;rw [D] at y;show jW _ _ (lb.Dict.addKeywords (zz9 s) []>>=_) _ _ _;refine ar (bc (bc {rfl,?_}));have K:∃q,E.get? (zz9 s)=hI q:=let⟨q,_,_,L,_⟩:=y;⟨q,L⟩;have J:=gN (t':=s.toks) j (by rw [aq];exact True.intro) G K (sA z w c y);rw [nM] at J;exact{.ref (zz9 s),_,J,rfl,q _ A}
end L2
namespace HT
open PyProof.Rows
def ja{w:kd}{s:ix}{E:lr}{t d:i1}{f g:iv}{a c:Option Int}{Q:lr}(b:IsTup s.heap t items)(hs:s.heap.IsSliceOf d f g .none)(i:IsPart f a)(pu:IsPart g c)
 (hw:dE items.size 0 a=0/\dE items.size items.size c=items.size) (h:Q (.ref t) s):jW (kr prog w) A (getItem (.ref t) (.ref d)) Q E s:=by
 let(os,e,j,k):=id hs;have m:s.TypeIs (.ref d) "slice":=⟨os,e,j⟩;unfold getItem
 try with_reducible refine wpAny_holding ?_
 first|refine ar (bc ?_)|skip
 refine ar (wpAny_sequenceKey b.typeIs ↑2 ?_);refine ar (wpAny_callSpecial?_slot (name:=Str.ofString "__getitem__") b.typeIs PyProof.Rows.slot_tuple_getitem
  (wpAny_call_entry PyProof.Rows.slot_tuple_getitem b.typeIs entry_tuple_getitem ?_ (args_tuple_getitem _ _)))
 show jW _ _ (lb.Tuple.tupleItemsOf (.ref t)>>=_) _ _ s;refine ar (tupleItemsOf_ b ?_);refine ar (wpAny_typeOf m ?_);rw [if_pos ↑2];refine ar (gy hs i pu ?_);have o:(((dE items.size 0 a:Nat):Int)==0&&(1:Int)==1&&(dE items.size items.size c-dE items.size 0 a)==items.size)=ie:=by rw [hw.1,hw.2];simp
 show jW _ _ (if(((dE items.size 0 a:Nat):Int)==0&&(1:Int)==1&&(dE items.size items.size c-dE items.size 0 a)==items.size)=ie then _ else _) _ _ s;rw [if_pos o];refine ar (ar (wpAny_typeOf b.typeIs ?_));refine bc ?_;rw [if_pos ↑2]
 first
  |exact ar (wpAny_rule (bc ⟨_,rfl,bc h⟩))
  |exact wpAny_rule (bc ⟨_,rfl,bc h⟩)
  |exact ar (wpAny_rule (ar (bc ⟨_,rfl,bc h⟩)))
end HT
namespace L2
open PySem.Spec PyProof.Rows
def J9:GV X (λx c d H Q=>∃a xs,x=.ref a/\f9 X.K H a xs/\(HT.dE xs.length 0 c=0/\HT.dE xs.length xs.length d=xs.length)/\Q x H):=by
 intro m s o H x v p t c d u Q I f hs g pu h;let(a,xs,rfl,i,j,q):=h;cases f;let(k,r,e,w):=I.tuple i;have b:k.toArray.size=xs.length:=by rw [a5];exact r.length.symm
 refine{"tuple",_,PyProof.Rows.slot_tuple_getitem.lookup,e.typeIs,?_};exact HT.ja e hs g pu (by rw [b];exact j) {.ref a,H,I,rfl,q}
abbrev mW(a C:i1):HO:=.ext λh=>∃ob b,h.get? a=hI ob/\ob.cls=.ref C/\ob.data=.fields b
section
variable{P:jX}{w:kd}
def Hu.fresh{s s':ix}{E:XK}{C t:i1}{vs:List iv}{b:Hp}{B:kA}(F:Hu P w outer H s E a C t vs b B s'):b a=h9:=by
 cases z:b a with
 |none=>rfl|some o=>let(d,c):=mM (F.aM _ _ z);rw [F.Dx.2.1] at c;cases c
def Inv.CV{G:St}{s s':ix}{E:XK}{C t:i1}{vs:List iv}{p:Hp}{B:kA}{tk:Nat}(I:Inv X aa G H s)(F:Hu X.prog X.w X.stack H s E a C t vs p B s')
 (hf:kA.FlyingW B X.stack a (.ref C) (.ref t) h) (hs:s'.heap.UpToSlots h):Inv X aa G (upd p a (mW a C)) {s' with heap:=h,toks:=tk}:=by
 have ha:=F.fresh;let(K,O,y,Q,L,_):=hf.first;have frame:∀b,b∈fz X.stack->∃o,h.get? b=hI o/\∀vs,o.data≠.fields vs:=λb e=>(hf.2.2.1.mem e).2
 have ne:∀b o,s.heap.get? b=hI o->b≠a:=λb o q z=>by
  subst z;by_cases e:b∈fz X.stack
  .let(j,i,hd):=frame b e;rw [y] at i;cases i;exact hd _ L
  .let(j,i):=F.cY b o q e;rw [F.Dx.2.1] at i;cases i
 have slot:∀b o,s.heap.get? b=hI o->H b=h9->b∈fz X.stack->∃R,h.get? b=hI {o with slots:=R}:=λb o q n e=>by let(S,M):=F.un.any q n nofun;let(_,j,N,hd):=F.Dx.2.2.1.mem (b:=b) e;rw [M] at N;cases N;let(A,T):=hs b _ M hd;exact⟨A,T⟩
 have un:Un (fz X.stack) [] H (upd p a (mW a C)) s.heap h:=by
  refine{λb o q n e _=>hf.1 _ _ (F.fk b o q n e),λb o q n e _=>slot b o q n e,λb o q n _=>?_,λb o q _=>?_,λb xs q=>?_,λb o u q=>?_,λb U q=>?_}
  .rw [ag (ne b o q)];exact F.un.free b o q n nofun
  .by_cases e:b∈fz X.stack
   .let(j,i,_):=frame b e;exact⟨j,i⟩
   .let(j,f):=F.cY b o q e;exact{j,hf.1 _ _ f}
  .have f:=F.un.ib b xs q;rw [ag (bL f ha)];exact f
  .have f:=F.un.gj b o u q;rw [ag (bL f ha)];exact f
  .let(m,f):=F.un.gZ b U q;exact{m,by rw [ag (bL f ha)];exact f}
 have aM:fw X.prog X.w (upd p a (mW a C)) h:=λb o q=>by
  by_cases e:b=a
  .subst e;rw [aq] at q;cases q;exact{⟨K,O,y,Q,L⟩,⟨K,y⟩,λZ h2 ⟨ob,vs,V,W,Y⟩ k=>{ob,vs,k _ V,W,Y}}
  .rw [ag e] at q;exact(F.aM b o q).fW (λc v hc r=>hf.1 _ _ r) (λc r=>by rw [ag (bL r ha)];exact r) λc xs r=>by rw [ag (bL r ha)];exact r
 let(hh,g,d,tt,D):=s';obtain rfl:D=s.os:=F.os;have fin:=I.call (h':=h) (g':=g) (d':=d) (t':=tk) (ch:=[]) un aM F.bare (λb z=>absurd z (by simp));exact fin
end
structure nR(K:zz8)(C:i1):Prop where
 ga:PySem.W.findIn K (.ref C) "__getattribute__"=hI (hI (.builtin (zu 1)))
 hk:PySem.W.findIn K (.ref C) "__getattr__"=hI h9
 cl:PySem.W.findIn K (.ref C) "__class__"=hI (hI (.builtin (zu 26)))
 mo:PySem.W.mroIn K C (.type "object")=hI ie
 mb:PySem.W.mroIn K C (.type (zu 32))=hI ie
 is:(PySem.W.clsIn K C).isSome=ie
section
variable{w:kd}{E:lr}{g:Array GenState}{d:Drawn}{t:Nat}{os:OsState}{x C:i1}{K:zz8}
def Qb{R:Result->ix->Prop}(X:K.In h)(Z:nR K C)(a:h.get? x=hI o)(b:o.cls=.ref C)(e:R (.ok (.ret (.ref C))) ⟨h,g,d,t,os⟩):
 codeAny (kr prog w) A (.call (.builtin "getset_descriptor.__get__") {[.builtin (zu 26),.ref x,.ref C],[]}) R ⟨h,g,d,t,os⟩:=by
 have hY:(⟨h,g,d,t,os⟩:ix).TypeIs (.builtin (zu 26)) "getset_descriptor":=F.typeOf_object_class;have c:PySem.W.Looks (kr prog w) h (isSubtype (.ref C) (.type (".".intercalate ((zu 26).cutAt '.').dropLast))) ie:=by rw [F.owner_object_class];exact PySem.W.looks_mroIn X Z.mo
 refine codeAny_call_builtin F.slot_gs_get.plain F.entry_gs_get (F.slot_gs_get.check _ _ _ _ _ _ _ _ hY (F.args_gs_get _ _ _) ?_)
 repeat (any_goals (first|assumption|(with_reducible refine wpAny_loadPart_at a ?_;rw [b])|(with_reducible refine c.at ?_)|wp_step))
 refine{Code.quiet_builtin _ (show _ by decide+kernel),codeAny_builtin F.entry_object_class ?_}
 repeat (any_goals (first|assumption|(with_reducible refine wpAny_loadPart_at a ?_;rw [b])|wp_step))
def GK{tk:Tok}{Q:Fin->ix->Prop}(X:K.In h)(Z:nR K C)(a:h.get? x=hI o)(b:o.cls=.ref C)(e:Q (.done (.ret (.ref C))) ⟨h,g,d,t,os⟩):
 jW (kr prog w) A (lb.«object.__getattribute__» {[.ref x,.str "__class__" tk],[]}) Q E ⟨h,g,d,t,os⟩:=by
 have hY:(⟨h,g,d,t,os⟩:ix).TypeIs (.builtin (zu 26)) "getset_descriptor":=F.typeOf_object_class;have f:=F.typeOf_object_class;have i:=F.slot_gs_get.lookup;have j:=F.slot_gs_set.lookup;have c:=PySem.W.looks_findIn (M:=kr prog w) X Z.cl
 repeat (any_goals (first|assumption|(with_reducible refine wpAny_loadPart_at a ?_;rw [b])|(with_reducible refine c.at ?_)|wp_step))
 refine Qb X Z a b ?_
 repeat (any_goals (first|assumption|wp_step))
def GJ{M:Model}{a:iv}{Q:Unit->ix->Prop}(X:K.In h)(Z:nR K C)(b:h.get? x=hI o)(c:o.cls=.ref C)(e:Q () ⟨h,g,d,t,os⟩):
 jW M A (checkBuiltinCall (zu 1) {[.ref x,a],[]}) Q E ⟨h,g,d,t,os⟩:=by
 have f:builtinKind (zu 1)=hI .slot:=↑1
 have i:splitId (zu 1)=hI (zu 32,"__getattribute__"):=↑1
 have j:=PySem.W.looks_mroIn (M:=M) X Z.mb;have k:=F.args_bexc_ga (.ref x) a;simp! [checkBuiltinCall,f,i];refine ar ?_;unfold isInstance
 repeat (first|(with_reducible refine wpAny_loadPart_at b ?_;rw [c])|(with_reducible refine j.at ?_)|wp_step)
 exact e
def Ur{tk:Tok}{Q:lr}(X:K.In h)(Z:nR K C)(a:h.get? x=hI o)(b:o.cls=.ref C)(i:Q (.ref C) ⟨h,g,d,t,os⟩):
 jW (kr prog w) A (getAttrBy (.ref x) (.str "__class__" tk) ig) Q E ⟨h,g,d,t,os⟩:=by
 have j:=F.excAttr_ValueError.ga.bind (.ref x);have c:(iv.builtin (zu 1)==iv.builtin "object.__getattribute__")=ig:=↑1
 have k:(onTheHeap (iv.ref C)&&iv.builtin (zu 1)==iv.builtin "object.__getattribute__")=ig:=by rw [c];rfl
 have e:=PySem.W.looks_findIn (M:=kr prog w) X Z.ga;have f:=PySem.W.looks_findIn (M:=kr prog w) X Z.hk
 repeat (any_goals (first|assumption|(with_reducible refine wpAny_loadPart_at a ?_;rw [b])|(with_reducible refine e.at ?_)|(with_reducible refine f.at ?_)|wp_step))
 refine codeAny_call_builtin F.excAttr_ValueError.ga.plain F.entry_bexc_ga (GJ X Z a b (GK X Z a b ?_))
 repeat (any_goals (first|assumption|wp_step))
def KI{Q:Option iv->ix->Prop}(X:K.In h)(Z:nR K C)(a:h.get? x=hI o)(b:o.cls=.ref C)(c:Q (hI (.ref C)) {h,g,d,t+1,os}):
 jW (kr prog w) A (getAttr? (.ref x) "__class__") Q E ⟨h,g,d,t,os⟩:=by
 unfold getAttr? getAttrBy?
 repeat (any_goals (first|assumption|with_reducible apply Ur X Z a b|wp_step))
end
set_option tactic.hygienic true in
theorem vA{K:zz8}{x C:i1}(Z:nR K C):PySem.W.KitX K (.ref x) (.ref C) (λh=>∃ob,h.get? x=hI ob/\ob.cls=.ref C) where
 ty:=λM h Y p=>by let(ob,b,c):=p;exact c▸(PySem.W.Looks.ld b).andThen .now
 it:=λM h X Y=>by
  let(cd,a):=ew.mp Z.is;unfold PySem.W.clsIn at a;split at a
  .rename_i c1 g Mg QB d;intro j m o r k q;unfold isType loadHead;exact ar (wpAny_loadPart (k _ _ (X _ _ d)) (bc q))
  .cases a
 ne:=λh tp i t n u X f=>by
  let(cd,a):=ew.mp Z.is;refine Bool.eq_false_iff.mpr λq=>?_;have e:C=tp:=iv.ref.inj (zzy.mp q);subst e;unfold PySem.W.clsIn at a;split at a
  .rename_i c1 g Mg QB d;have z:=(X _ _ d).symm.trans f;cases z
  .cases a
 ca:=λ{prog w A E Q s} X p k=>by let(ob,b,c):=p;let(y,B,i,D,F):=s;exact KI X Z b c k
section
def Ay:cG X (.builtin (zu 15)) (λxs H Q=>∃(a C D:i1) (b:Bool),xs=[.ref a,.ref D]/\H a=hI (mW a C)/\nR X.K C/\PySem.W.kitOne X.K (.ref C) (.ref D)=hI b/\Q (.bl b) H):=by intro j s k H xs m Q I r h;let(a,C,D,b,rfl,ha,Z,e,q):=h;let(u,o,rfl,d,c):=vals2 r;cases d;cases c;let((ob,p,f,g,_),_):=I.aM _ _ ha;exact PySem.W.kia_one (vA Z) I.jZ ⟨ob,f,g⟩ e nofun λi=>{.bl b,H,I.tok i,rfl,q}
def Az:cG X (.builtin (zu 15)) (λxs H Q=>∃(a C:i1) (n:String) (b:Bool),xs=[.ref a,.ty n]/\H a=hI (mW a C)/\nR X.K C/\PySem.W.kitOne X.K (.ref C) (.type n)=hI b/\Q (.bl b) H):=by intro j s k H xs m Q I r h;let(a,C,n,b,rfl,ha,Z,e,q):=h;let(u,o,rfl,d,c):=vals2 r;cases d;cases c;let((ob,p,f,g,_),_):=I.aM _ _ ha;exact PySem.W.kia_one (vA Z) I.jZ ⟨ob,f,g⟩ e nofun λi=>{.bl b,H,I.tok i,rfl,q}
def Fh(b:Gl X x)(hm:X.mg x=hI (.ref a))(hd:(x==(zu 19:Str))=ig:=by decide):PE X (.Name x pos) (tC (.ref a)):=zR b hm rfl hd
theorem m9(a:Gl X (zu 0))(hm:X.mg (zu 0)=h9):PE X (.Name (zu 0) pos) (tC (.ty (zu 0))):=zO a hm (u:=.type (zu 0)) ↑1 rfl
variable{s:ix}
def nA{M:Model}{E:lr}{i:Nat}{Q:Unit->ix->Prop}(I:zv1 s)(hN:X.N.Nodup)(K:X.N[i]?=hI x)(hk:X.env.scope.names.lookup x=hI .local)
 (h:∀s',Inv X aa (σ.set i h9) H s'->Q () s'):jW M A (do bindName X.env x .none;unbindBehindTheSuite X.env x pos) Q E s:=by
 let(m,L,hl):=id I.loc;have P:(X.env.scope.kind==.class||(X.env.scope.kind==.module&&X.env.locals !=X.env.globals))=ig:=by rw [I.ok.kind];rfl
 have t:i<σ.length:=by rw [I.len];exact(b4.mp K).1
 have Ca:=I.Ca
 have f:∀{a:i1} {B:kA},(∃o,s.heap.get? a=hI o/\H a=h9)->kA.SameBut a s.heap B->fw X.prog X.w H B:=λ{a B} ha hs b ob e=>by
  let(_,_,g):=ha;refine(I.aM b ob e).fW (λc O C q=>(hs.2 c ?_).trans q) (λ_ q=>q) λ_ _ q=>q
  rintro rfl
  rcases C with rfl|C
  .rw [g] at e;cases e
  .rw [g] at C;cases C
 refine wpAny_nameGoes_keeps hk L P λB v0 R hs=>?_;let(S,_,_,T,_):=id L;refine h _ {I.ok,I.os,I.bare,{λb o e n F u=>?_,λb o e n F u=>?_,I.base.free,λb o e u=>?_,I.base.ib,I.base.gj,I.base.gZ},{_,R,λj y U r D V=>?_},λy c e=>?_,I.free,I.fE,λp W=>?_,f ⟨S,T,I.free⟩ hs,zx6 I.len}
 .exact(hs.2 b (d8 (d3 (c6 e) I.ok.above))).trans (I.base.keep b o e n F u)
 .let(Y,r):=I.base.slot b o e n F u;exact{Y,(hs.2 b (d8 (d3 (c6 e) I.ok.above))).trans r}
 .let(Z,r):=I.base.there b o e u;exact{Z,(hs.2 b (d8 (d3 (c6 e) I.ok.above))).trans r}
 .by_cases G:j=i
  .subst G;rw [eu t] at D;cases D
  .rw [dX (Ne.symm G)] at D;let(u',r',q):=hl j y U r D V
   refine{u',r',?_};rcases q with⟨k,e⟩|⟨k,c,e,z⟩
   .refine .inl {k,?_};have:y≠x:=λe=>G (kZ hN r (e▸K));simp [this,e]
   .exact .inr {k,c,e,z.sameBut hs (Ca y c e)}
 .let(O,z):=I.cell y c e;exact{O,z.sameBut hs (Ca y c e)}
 .let(e,n,ne,nf,d):=I.pin p W;exact{(hs.2 p.1 ne).trans e,n,ne,nf,d}
noncomputable abbrev Cx.with1(X:Cx)(pn:lu)(xe:lr):Cx:={X with pn:=pn,xe:=xe}
noncomputable abbrev Cx.marked(X:Cx)(a:i1)(pn:lu):Cx:={X with A:=X.A.mark (hI (.ref a)),calm:=ig,pn:=pn,xe:=λZ Z=>False}
def E7{pn:lu}{xe:lr}(o:X.Ok):(X.with1 pn xe).Ok:=⟨o.mod,o.kind,o.glob,o.blt,o.above,o.inj,o.has,o.Me,o.hd,o.frames,o.PL,o.V6,o.bs,o.wY,o.Bw,o.Dl,o.hZ,o.xm⟩
def BE{pn:lu}(o:X.Ok):(X.marked a pn).Ok:={o.mod,o.kind,o.glob,o.blt,o.above,o.inj,o.has,o.Me,nofun,o.frames,o.PL,o.V6,o.bs,o.wY,o.Bw,o.Dl,o.hZ,o.xm}
def Inv.with1{xe:lr}(I:zv1 s):Inv (X.with1 (X.pn++aa) xe) [] σ H s:={E7 I.ok,I.os,I.bare,I.base,I.loc,I.cell,I.free,I.fE,λp a=>I.pin p (by rwa [hF] at a),I.aM,I.len}
def Inv.lH{xe:lr}(o:X.Ok){a:lu}(I:Inv (X.with1 (X.pn++aa) xe) a σ H s):zv1 s:={o,I.os,I.bare,I.base,I.loc,I.cell,I.free,I.fE,λp b=>I.pin p (ed _ b),I.aM,I.len}
def Inv.mark(I:zv1 s):Inv (X.marked a (X.pn++aa)) [] σ H s:={BE I.ok,I.os,I.bare,I.base,I.loc,I.cell,I.free,I.fE,λp b=>I.pin p (by rwa [hF] at b),I.aM,I.len}
def Inv.unmark(o:X.Ok){b:lu}(I:Inv (X.marked a (X.pn++aa)) b σ H s):zv1 s:={o,I.os,I.bare,I.base,I.loc,I.cell,I.free,I.fE,λp c=>I.pin p (ed _ c),I.aM,I.len}
end
abbrev se(K:zz8)(N:List Str)(Dc:i1)(i:Nat)(ts:TS)(D:Ends):XK:=λc f g=>∃a C,c=.ref C/\f=hI a/\PySem.W.exmOne K (.ref C) (.ref Dc)=hI ie/\
 ∀e:St,e.length=N.length->ts {nx:=λb d=>D.nx (b.set i h9) d,rt:=λv d=>D.rt v d,bk:=λb d=>D.bk (b.set i h9) d,ct:=λb d=>D.ct (b.set i h9) d} (e.set i (hI (.ref a))) (upd g a (mW a C))
abbrev Yi(K:zz8)(N:List Str)(Dc:i1)(i:Nat)(tb:XK->TS)(ts:TS):TS:=λD a H=>tb (se K N Dc i ts D) D a H
def O7{body:List k6}{n:Str}{Bd:Pos}{g:k6}{T:List k6}{Dc:i1}{i:Nat}{tb:XK->TS}{ts:TS}(hN:X.N.Nodup)(L:X.N[i]?=hI n)(hn:X.env.scope.names.lookup n=hI .local)(O:X.stack=X.env::X.outer)(NI:X.env.frame=hI X.env.locals)
 (hg:Gl X x) (hm:X.mg x=hI (.ref Dc)) (hb:∀(pn:lu) (xe:lr) (U:XK),Passes (dz X.prog X.w) (X.with1 pn xe) U->qE (X.with1 pn xe) body (tb U))
 (hs:∀a pn,qE (X.marked a pn) (g::T) ts) (hd:(x==(zu 19:Str))=ig:=by decide):
 PS X (.Try body [.ExceptHandler (hI (.Name x np)) (hI n) (g::T) Bd] [] [] pos) (Yi X.K X.N Dc i tb ts):=by
 intro k s σ H D I h;let xe:lr:=λe V=>∃b M d,Inv X k b M d/\dz X.prog X.w X.stack M d (se X.K X.N Dc i ts D) e V;have hP:Passes (dz X.prog X.w) (X.with1 (X.pn++k) xe) (se X.K X.N Dc i ts D):=λo8 b M d e V G c=>{b,M,d,G.lH I.ok,c};refine wpAny_Try_except (wpAny_mono (hb (X.pn++k) xe _ hP [] s σ H D I.with1 h) (λf d hf=>?_) λe d P=>?_)
 .cases f with
  |next=>let(b,j,m,q):=hf;exact tP k d b j D (m.lH I.ok) q|brk=>let(b,j,m,q):=hf;exact{b,j,m.lH I.ok,q}|cont=>let(b,j,m,q):=hf;exact{b,j,m.lH I.ok,q}|ret u=>let(v,b,j,m,r,q):=hf;exact{v,b,j,m.lH I.ok,r,q}
 .let(b,M,s2,G,a,C,t,vs,j,B,rfl,F):=P;have Y:=F.Dx;rw [O] at Y;refine wpAny_looks_onW (by rw [<-O];exact G.ok.frames) NI Y λh4 Sh Z=>?_;refine wpAny_landsW Sh λh5 Lh Z9=>?_;have Q:=Lh;rw [<-O] at Q;have I5:=G.CV (tk:=d.toks) F Q (Z.trans Z9);let(oa,va,ea,ca,da,_):=Q.first;let(a',C',e1,e2,P,hq):=F.ends;cases e1;cases e2;refine wpAny_handleBy_cons (codeAny_handlers_test (dS (X:=X.marked a (X.pn++k)) I5.mark hg hm ?_ hd)) (by intro q;cases q);have LT:PySem.W.Looks (kr X.prog X.w) h5 (typeOf (.ref a)) (.ref C):=by rw [<-ca];exact(PySem.W.Looks.ld ea).andThen .now
  refine PySem.W.exm_one (K:=X.K) I5.jZ LT P _ _ _ _ (λ_ _ e=>e) ?_;refine codeAny_handlers_suite_as ?_;refine lands_againW Lh λh6 Zj R=>?_;rw [<-O] at Zj;have I6:=G.CV (tk:=d.toks) F Zj ((Z.trans Z9).trans R);refine iM (X:=X.marked a (X.pn++k)) (i:=i) (v:=.ref a) I6.mark hN L (.inl hn) rfl (λs7 I7=>?_) (.inr hn);refine wpAny_mono (hs a (X.pn++k) [] s7 _ _ _ I7 (hq b G.len)) (λf s8 hf=>?_) λ_ _ z=>z.elim
  cases f with
  |next=>let(o,p,y,A):=hf;exact nA (y.unmark I.ok) hN L hn λS E=>{_,p,E,A}|brk=>let(o,p,y,A):=hf;exact nA (y.unmark I.ok) hN L hn λS E=>{_,p,E,A}|cont=>let(o,p,y,A):=hf;exact nA (y.unmark I.ok) hN L hn λS E=>{_,p,E,A}|ret u=>let(v,o,p,y,r8,A):=hf;exact nA (y.unmark I.ok) hN L hn λS E=>{v,_,p,E,r8,A}
open PySem.AutoSeq1 (wpAny_loadPart')
end L2
namespace Cw
open L2
theorem o7(xs:List Nat)(k:Nat):∀n,(List.range n).filterMap (λm=>xs[k+m]?)=(xs.drop k).take n
 |0=>by simp|n+1=>by rw [List.range_succ,List.filterMap_append,o7 xs k n,List.take_add_one,List.getElem?_drop];cases h:xs[k+n]?<;>simp [h]
def NS(k n:Nat)(h:k<=n):lb.Str.strSliceIndices (hI (k:Int)) h9 1 n=(List.range (n-k)).map λm=>k+m:=by
 unfold lb.Str.strSliceIndices sliceRange;simp! [show(1:Int)>0 by decide,if_true];have a:¬((k:Int)<0):=by lia
 rw [if_neg a];have b:max 0 (min (k:Int) (n:Int))=k:=by lia
 rw [b];have c:(if(k:Int)<(n:Int) then((n:Int)-k+1-1)/1 else 0).toNat=n-k:=by
  split
  .rw [Int.ediv_one];lia
  .lia
 rw [c];apply List.map_congr_left;intro m _;lia
def NT(k n:Nat)(h:k<=n):lb.Str.strSliceIndices h9 (hI (k:Int)) 1 n=(List.range k).map λm=>0+m:=by
 unfold lb.Str.strSliceIndices sliceRange;simp! [show(1:Int)>0 by decide,if_true];have a:¬((k:Int)<0):=by lia
 rw [if_neg a];have b:max 0 (min (k:Int) (n:Int))=k:=by lia
 rw [b];have c:(if(0:Int)<(k:Int) then((k:Int)-0+1-1)/1 else 0).toNat=k:=by
  split
  .rw [Int.ediv_one];lia
  .lia
 rw [c];apply List.map_congr_left;intro m _;lia
def FY(x:Str)(k:Nat)(h:k<=x.length):(PySem.Txt.slice x (hI (k:Int)) h9).cps.toList=x.cps.toList.drop k:=by
 have hl:x.cps.toList.length=x.length:=by simp [Str.length]
 unfold PySem.Txt.slice;rw [NS k _ h];split
 .rename_i a;simp at a;have:k=0:=by lia
  subst this;simp
 .show((List.range (x.length-k)).map (λm=>k+m)).filterMap (x.cps[·]?)=_;rw [List.filterMap_map];have:((x.cps[·]?)∘λm=>k+m)=λm=>x.cps.toList[k+m]?:=by funext m;simp
  rw [this,o7,List.take_of_length_le (by rw [List.length_drop,hl];exact a7 _)]
def FZ(x:Str)(k:Nat)(h:k<=x.length):(PySem.Txt.slice x h9 (hI (k:Int))).cps.toList=x.cps.toList.take k:=by
 have hl:x.cps.toList.length=x.length:=by simp [Str.length]
 unfold PySem.Txt.slice;rw [NT k _ h];split
 .rename_i a;simp at a;rw [a,<-hl,List.take_length]
 .show((List.range k).map (λm=>0+m)).filterMap (x.cps[·]?)=_;rw [List.filterMap_map];have:((x.cps[·]?)∘λm=>0+m)=λm=>x.cps.toList[0+m]?:=by funext m;simp
  rw [this,o7,List.drop_zero]
end Cw
namespace L2
open PySem.Spec PyProof.Rows
end L2
namespace Cw
open L2
end Cw
namespace L2
open PySem.Spec PyProof.Rows
def BG{a b:Type}{R:a->b->Prop}{xs:List a}{ys:List b}(r:Paired R xs ys):∀{i:Nat} {x:a},xs[i]?=hI x->∃y,ys[i]?=hI y/\R x y:=by
 induction r with
 |nil=>intro i x h;simp at h|cons r t c=>
  intro i x h;cases i with
  |zero=>simp at h;subst h;exact{_,rfl,r}|succ i=>simp at h;simpa using c h
def xY{a b:Type}{R:a->b->Prop}{xs:List a}{ys:List b}(r:Paired R xs ys):xs.length=ys.length:=by
 induction r with
 |nil=>rfl|cons _ _ c=>simp [c]
def Gz{a:List iv}(r:Vals vs a)(h:j<a.toArray.size):∃v,vs[j]?=hI v/\RelV v a.toArray[j]:=by
 have hl:=r.length;rw [a5] at h;have b:j<vs.length:=by lia
 let(u,hu,c):=r.get (i:=j) (x:=vs[j]) (zzg b);rw [zzg h] at hu;cases hu;exact{_,zzg b,zx6 c}
end L2
namespace Ci
open L2
def aN{p:Prop}(h:ig=ie):p:=absurd h zzf
inductive PV where
 |aR|bl (b:Bool)|int (i:Int)|str (z:Str)
 |tup (xs:List PV)|lst (xs:List PV)
 |exc (c:Str)
 |cq (ks:List Str) (vs:List PV)
 |obj (n:Nat)
 deriving Inhabited
structure Ob where
 a:i1
 dx:i1
 C:i1
 c:Str
 fs:List (Str×PV)
structure Wd where
 K:zz8
 mg:Str->Option iv
 xs:List Str
 ts:List (i1×Str):=[]
 ob:List Ob:=[]
def uJ(K:zz8)(H:Hp)(a:i1)(vs:List V):Prop:=
 Rd H a (.lst vs)\/∃(b:Array iv) (n:Nat),K.lookup a=hI {cls:=.type "list",data:=.seq b n}/\b.size<=kB/\Vals vs b.toList
def L0(K:zz8)(G:Hp)(a:i1)(vs:List V):Prop:=G a=hI (.tup vs)\/f9 K G a vs/\∃z,V.str z∈vs
theorem L0.sq{K:zz8}:L0 K G a vs->f9 K G a vs
 |.inl h=>.inl (.inl h)|.inr h=>h.1
abbrev kz(ks:List Str)(us:List V):List (Key×V):=(ks.map Sum.inr).zip us
mutual
def Rep(W:Wd)(G:Hp):PV->V->Prop
 |.aR,v=>v=.aR|.bl b,v=>v=.bl b|.int i,v=>v=.int i|.str z,v=>v=.str z|.tup xs,v=>∃a vs,v=.ref a/\L0 W.K G a vs/\ai W G xs vs|.lst xs,v=>∃a vs,v=.ref a/\uJ W.K G a vs/\ai W G xs vs|.exc c,v=>∃a C,v=.ref a/\c∈W.xs/\W.mg c=hI (.ref C)/\G a=hI (mW a C)|.cq ks vs,v=>∃a o us,v=.ref a/\ks.length=us.length/\G a=hI (.bV o (.dK (kz ks us)))/\ai W G vs us|.obj n,v=>∃o,W.ob[n]?=hI o/\v=.ref o.a
def ai(W:Wd)(G:Hp):List PV->List V->Prop
 |[],vs=>vs=[]|p::ps,vs=>∃v r,vs=v::r/\Rep W G p v/\ai W G ps r
end
def aC.tup{K:zz8}{b:Hp}{xs:List V}(e:aC H b)(h:f9 K H a xs):f9 K b a xs:=by
 rcases h with(h|⟨o,h⟩)|h
 .exact .inl (.inl (e _ _ h))
 .exact .inl (.inr {o,e _ _ h})
 .exact .inr h
def aC.tp{K:zz8}{b:Hp}{xs:List V}(e:aC H b)(h:L0 K H a xs):L0 K b a xs:=h.elim (λz=>.inl (e _ _ z)) λz=>.inr {aC.tup e z.1,z.2}
def aC.rd{b:Hp}{u:HO}(e:aC H b)(h:Rd H a u):Rd b a u:=by
 rcases h with h|⟨o,h⟩
 .exact .inl (e _ _ h)
 .exact .inr {o,e _ _ h}
def aC.ls{K:zz8}{b:Hp}(e:aC H b)(h:uJ K H a vs):uJ K b a vs:=h.elim (λz=>.inl (aC.rd e z)) .inr
section
variable{W:Wd}{G':Hp}
mutual
theorem Rep.same(s:aC G G'):∀(p:PV) {v:V},Rep W G p v->Rep W G' p v
 |.aR,_,h=>by simpa only [Rep] using h|.bl b,_,h=>by simpa only [Rep] using h|.int i,_,h=>by simpa only [Rep] using h|.str z,_,h=>by simpa only [Rep] using h|.tup xs,_,h=>by simp! [Rep] at h⊢;let(a,vs,e,q,l):=h;exact{a,vs,e,aC.tp s q,ai.same s xs l}|.lst xs,_,h=>by simp! [Rep] at h⊢;let(a,vs,e,q,l):=h;exact{a,vs,e,aC.ls s q,ai.same s xs l}|.exc c,_,h=>by simp! [Rep] at h⊢;let(a,C,e,x,m,q):=h;exact{a,C,e,x,m,s _ _ q}|.cq f vs,_,h=>by simp! [Rep] at h⊢;let(a,o,d,e,n,m,l):=h;exact{a,o,d,e,n,s _ _ m,ai.same s vs l}|.obj n,_,h=>by simpa only [Rep] using h
theorem ai.same(s:aC G G'):∀(ps:List PV) {vs:List V},ai W G ps vs->ai W G' ps vs
 |[],_,h=>by simpa only [ai] using h|p::ps,_,h=>by simp! [ai] at h⊢;let(v,r,e,a,b):=h;exact{v,r,e,Rep.same s p a,ai.same s ps b}
end
theorem ai.paired:∀{ps:List PV} {vs:List V},ai W G ps vs->Paired (λv p=>Rep W G p v) vs ps
 |[],_,h=>by simp! [ai] at h;subst h;exact .nil|p::ps,_,h=>by simp! [ai] at h;let(v,r,rfl,a,b):=h;exact .cons a (ai.paired b)
def ai.length{ps:List PV}(h:ai W G ps vs):vs.length=ps.length:=xY h.paired
def ai.nil:ai W G [] []:=by simp! [ai]
def ai.cons{p:PV}{v:V}{ps:List PV}{vs:List V}(h:Rep W G p v)(t:ai W G ps vs):ai W G (p::ps) (v::vs):=by simp! [ai];exact{_,_,rfl,h,t}
def ai.bo{p:PV}{ps:List PV}(h:ai W G (p::ps) vs):∃v r,vs=v::r/\Rep W G p v/\ai W G ps r:=by simpa only [ai] using h
theorem ai.append:∀{ps qs:List PV} {vs us:List V},ai W G ps vs->ai W G qs us->ai W G (ps++qs) (vs++us)
 |[],_,_,_,h,k=>by simp! [ai] at h;subst h;exact k|p::ps,_,_,_,h,k=>by let(v,r,rfl,a,b):=h.bo;exact .cons a (b.append k)
def ai.get:∀{ps:List PV} {vs:List V} {i:Nat} {v:V},ai W G ps vs->vs[i]?=hI v->∃p,ps[i]?=hI p/\Rep W G p v:=λh e=>BG h.paired e
theorem ai.sH:∀{ps:List PV} {vs:List V} {i:Nat} {p:PV},ai W G ps vs->ps[i]?=hI p->∃v,vs[i]?=hI v/\Rep W G p v
 |[],_,_,_,_,e=>by simp at e|p::ps,_,0,q,h,e=>by let(v,r,rfl,a,b):=h.bo;simp at e;subst e;exact⟨v,rfl,a⟩|p::ps,_,i+1,q,h,e=>by let(v,r,rfl,a,b):=h.bo;let(u,c,k):=b.sH (i:=i) (zx6 e);exact{u,zx6 c,k}
theorem ai.drop:∀{ps:List PV} {vs:List V} (n:Nat),ai W G ps vs->ai W G (ps.drop n) (vs.drop n)
 |_,_,0,h=>zx6 h|[],_,n+1,h=>by simp! [ai] at h;subst h;simp! [List.drop_nil];exact .nil|p::ps,_,n+1,h=>by let(v,r,rfl,b,a):=h.bo;simpa using a.drop n
theorem ai.take:∀{ps:List PV} {vs:List V} (n:Nat),ai W G ps vs->ai W G (ps.take n) (vs.take n)
 |_,_,0,h=>by simp! [List.take_zero];exact .nil|[],_,n+1,h=>by simp! [ai] at h;subst h;simp! [List.take_nil];exact .nil|p::ps,_,n+1,h=>by let(v,r,rfl,a,b):=h.bo;simp! [List.take_succ_cons];exact .cons a (b.take n)
end
def i8(H c:Hp):Prop:=∀b o,H b=hI o->(∀a,o≠.gz a)/\c b=hI o\/∃a m,o=.gz a/\c b=hI (.gz (a++m))
def i8.refl(H:Hp):i8 H H:=λb o h=>by
 cases o with
 |gz a=>exact .inr {a,#[],rfl,zx6 h}|_=>exact .inl {(λZ z=>nomatch z),h}
def i8.trans{f:Hp}(a:i8 H H1)(b:i8 H1 f):i8 H f:=λc o h=>by
 rcases a c o h with⟨n,e⟩|⟨d,m,rfl,e⟩
 .rcases b c o e with y|⟨d,m,rfl,g⟩
  .exact .inl y
  .exact absurd rfl (n d)
 .rcases b c _ e with⟨n,_⟩|⟨k,i,g,j⟩
  .exact absurd rfl (n _)
  .cases g;exact .inr {d,m++i,rfl,by rw [j,Array.append_assoc]}
def i8.free{a:Hp}(e:i8 H a){l:i1}(h:a l=Option.none):H l=Option.none:=by
 cases q:H l with
 |none=>rfl|some o=>
  rcases e l o q with⟨_,z⟩|⟨_,_,_,z⟩
  .rw [h] at z;cases z
  .rw [h] at z;cases z
def i8.at{a:Hp}(e:i8 H a){b:i1}{o:HO}(h:H b=hI o)(n:∀ps,o≠.gz ps):a b=hI o:=by
 rcases e b o h with⟨_,z⟩|⟨ps,_,rfl,_⟩
 .exact z
 .exact absurd rfl (n ps)
def i8.ji{a:Hp}(e:i8 H a){b:i1}(h:H b≠h9)(n:∀vs,H b≠hI (.tup vs)):∀vs,a b≠hI (.tup vs):=λvs z=>by
 cases q:H b with
 |none=>exact h q|some o=>
  rcases e b o q with⟨_,y⟩|⟨_,_,_,y⟩
  .rw [z] at y;cases y;exact n vs q
  .rw [z] at y;cases y
def i8.of{a:Hp}(e:aC H a):i8 H a:=λb o h=>by
 cases o with
 |gz c=>exact .inr {c,#[],rfl,by simpa using e _ _ h}|_=>exact .inl {(λZ z=>nomatch z),e _ _ h}
def i8.tup{K:zz8}{b:Hp}{xs:List V}(e:i8 H b)(h:f9 K H a xs):f9 K b a xs:=by
 rcases h with(h|⟨o,h⟩)|h
 .exact .inl (.inl (e.at h (λZ z=>nomatch z)))
 .exact .inl (.inr {o,e.at h (λZ z=>nomatch z)})
 .exact .inr h
def i8.ls{K:zz8}{b:Hp}(e:i8 H b)(h:uJ K H a vs):uJ K b a vs:=by
 rcases h with(h|⟨o,h⟩)|h
 .exact .inl (.inl (e.at h (λZ z=>nomatch z)))
 .exact .inl (.inr {o,e.at h (λZ z=>nomatch z)})
 .exact .inr h
def QU:HO->Prop
 |.gz _=>True|.ins _ _ _=>True|.dK _=>True|.lst _=>True|_=>False
def Bh(c:Str):Bool:=c=="#d"
def Ck(c:Str):Bool:=c=="#l"
def bC(c:Str):Bool:=Bh c||Ck c
abbrev lR(o:Ob)(vs:List V):HO:=if Bh o.c then .dK (kz (o.fs.map (·.1)) vs) else if Ck o.c then .lst vs else .ins o.C o.dx ((o.fs.map (·.1)).zip vs)
def nE{o:Ob}(h:bC o.c=ig):lR o vs=.ins o.C o.dx ((o.fs.map (·.1)).zip vs):=by unfold bC at h;rw [Bool.or_eq_false_iff] at h;unfold lR;rw [h.1,h.2];rfl
def Jv(o:Ob)(vs:List V):QU (lR o vs):=by
 unfold lR;split
 .exact trivial
 .split
  .exact trivial
  .exact trivial
def sY(o:Ob)(vs us:List V):lR o vs≠.tup us:=by
 unfold lR;split
 .exact nofun
 .split
  .exact nofun
  .exact nofun
def zK(o:Ob)(vs:List V)(ps:Array iv):lR o vs≠.gz ps:=by
 unfold lR;split
 .exact nofun
 .split
  .exact nofun
  .exact nofun
def uK(W:Wd)(G H:Hp):Prop:=∀(n:Nat) (o:Ob),W.ob[n]?=hI o->G o.a=h9/\∃b,H o.a=hI (lR o b)/\ai W G (o.fs.map (·.2)) b
def kl(W:Wd)(G H:Hp):Prop:=∀P q,(P,q)∈W.ts->G P=h9/\∃a,H P=hI (.gz a)/\TriplesOk a.toList/\
 ∀b c,codeAmong b a.toList=hI c->∃d oc e t,c=.ref d/\G d=hI (.bV oc cU)/\oc.data=.fields e/\e[1]?=hI (.str q t)
structure bA(W:Wd)(G H:Hp):Prop where
 t:kl W G H
 o:uK W G H
theorem uK.same{W:Wd}{b d:Hp}(t:uK W G H)(g:aC G b)(own:∀a,H a≠h9->(∀vs,H a≠hI (.tup vs))->G a=h9->b a=h9)(h:∀P o,QU o->H P=hI o->d P=hI o):uK W b d:=λn o m=>by let(e,vs,c,l):=t n o m;exact{own o.a (by rw [c];exact nofun) (by rw [c];exact λf z=>sY o vs f (zzq z)) e,vs,h _ _ (Jv o vs) c,ai.same g _ l}
theorem kl.same{W:Wd}{b d:Hp}(t:kl W G H)(g:aC G b)(own:∀a,H a≠h9->(∀vs,H a≠hI (.tup vs))->G a=h9->b a=h9)(h:∀P ps,H P=hI (.gz ps)->d P=hI (.gz ps)):kl W b d:=λP q m=>by let(n,ps,e,f,i):=t P q m;refine{own P (by rw [e];exact nofun) (by rw [e];exact λZ z=>nomatch z) n,ps,h P ps e,f,λc j y=>?_};let(k,oc,o,t,p,r,s,u):=i c j y;exact{k,oc,o,t,p,g _ _ r,s,u}
def bA.same{W:Wd}{b c:Hp}(t:bA W G H)(g:aC G b)(own:∀a,H a≠h9->(∀vs,H a≠hI (.tup vs))->G a=h9->b a=h9)(h:∀P o,QU o->H P=hI o->c P=hI o):bA W b c:=
 {t.t.same g own λP d e=>h P (.gz d) trivial e,t.o.same g own h}
structure aE(W:Wd)(G H G' H':Hp):Prop where
 g:aC G G'
 h:i8 H H'
 sub:aC G' H'
 own:∀a,H a≠h9->(∀vs,H a≠hI (.tup vs))->G a=h9->G' a=h9
 tb:kl W G H->kl W G' H'
theorem aE.tab{W:Wd}{d e:Hp}(g:aE W G H d e)(t:bA W G H):bA W d e:={g.tb t.t,λn o m=>by let(f,b,c,l):=t.o n o m;exact{g.own o.a (by rw [c];exact nofun) (by rw [c];exact λi z=>sY o b i (zzq z)) f,b,g.h.at c (zK o b),ai.same g.g _ l}}
section
variable{W:Wd}
def aE.refl(s:aC G H):aE W G H G H:={aC.refl _,i8.refl _,s,λZ Z Z h=>h,id}
def aE.trans{d G2 e:Hp}(a:aE W G H d H1)(b:aE W d H1 G2 e):aE W G H G2 e:=
 {a.g.trans b.g,a.h.trans b.h,b.sub,λx c f i=>b.own x (λz=>c (a.h.free z)) (a.h.ji c f) (a.own x c f i),λt=>b.tb (a.tb t)}
def Ag{p:i1}{o:HO}(h:∀u,QU u->H p≠hI u)(P:i1)(u:HO)(k:QU u)(e:H P=hI u):upd H p o P=hI u:=by rw [ag (λz=>by subst z;exact h u k e)];exact e
theorem aE.new{p:i1}{o:HO}(s:aC G H)(h:H p=h9):aE W G H (upd G p o) (upd H p o) where
 g:=bj (s.free h)
 h:=.of (bj h)
 sub:=λb u e=>by
  by_cases d:b=p
  .subst d;rw [aq] at e⊢;exact e
  .rw [ag d] at e⊢;exact s _ _ e
 own:=λa ha Z c=>by
  have:a≠p:=λz=>by subst z;exact ha h
  rw [ag this];exact c
 tb:=λt=>t.same (bj (s.free h)) (λa ha Z c=>by
  have:a≠p:=λz=>by subst z;exact ha h
  rw [ag this];exact c) (λP f e=>Ag (λu Z z=>by rw [h] at z;cases z) P (.gz f) trivial e)
def aE.Od{p:i1}{o:HO}(s:aC G H)(h:H p=h9):aE W G H G (upd H p o):=
 {aC.refl _,.of (bj h),s.trans (bj h),λZ Z Z a=>a,λt=>t.same (aC.refl _) (λZ Z Z h=>h) (λP b e=>Ag (λu Z z=>by rw [h] at z;cases z) P (.gz b) trivial e)}
end
abbrev bF(a:kv):List Str:=((a.names.filter λp=>p.2==.free).map (·.1)).reverse
abbrev okN(x:Str):Bool:=!(x==(zu 19))&&!(x=="__classdict__")&&!(x==(zu 36))
abbrev fq(x:Str):Bool:=x.cps.toList.contains 64
def kT{b:Type}{a:b}{p:Prop}(h:(h9:Option b)=hI a):p:=nomatch h
def E5{a:Type}{o:Option a}{f:a->Bool}(h:o.any f=ie):∃x,o=hI x/\f x=ie:=by
 cases o with
 |none=>cases h
 |some x=>exact⟨x,rfl,h⟩
abbrev j5:i2->Option Str
 |.Name x _=>hI x|_=>h9
def eT(h:j5 e=hI x):∃p,e=.Name x p:=by
 cases e with
 |Name y p=>cases h;exact{_,rfl}
 |_=>exact kT h
abbrev B9:i2->Option (i2×List i2×List Keyword×Pos)
 |.Call f a k p=>hI (f,a,k,p)|_=>h9
def gD{q:i2×List i2×List Keyword×Pos}(h:B9 e=hI q):e=.Call q.1 q.2.1 q.2.2.1 q.2.2.2:=by
 cases e with
 |Call f a k p=>cases h;rfl
 |_=>exact kT h
abbrev V8:List Arg->Option (List Str)
 |[]=>hI []|[a]=>hI [a.arg]|_=>h9
abbrev uO(p:Arguments):Option (List Str):=if(p.posonlyargs.isEmpty&&p.vararg.isNone&&p.kwonlyargs.isEmpty&&p.kw_defaults.isEmpty&&p.kwarg.isNone&&p.defaults.isEmpty)=ie then V8 p.args else h9
def yE{p:Arguments}{ps:List Str}(h:uO p=hI ps):(p={[],[],h9,[],[],h9,[]}/\ps=[])\/∃a,p={[],[a],h9,[],[],h9,[]}/\ps=[a.arg]:=by
 let(a,b,c,d,e,f,g):=p;unfold uO at h;split at h
 .rename_i q;simp! [zza,List.isEmpty_iff,Option.isNone_iff_eq_none] at q;let(((((i,j),k),m),o),r):=q
  subst i j k m o r;cases b with
  |nil=>cases h;exact .inl ⟨rfl,rfl⟩
  |cons a b=>
   cases b with
   |nil=>cases h;exact .inr ⟨a,rfl,rfl⟩
   |cons _ _=>exact kT h
 .exact kT h
abbrev XY(ps:List Str)(a:kv):Bool:=
 a.kind==.function&&!a.isCoroutine&&!a.isGenerator&&decide ((ps++bF a).Nodup)&&(a.names.all λy=>decide (y.2≠.cell))&&(ps.all λx=>decide (a.names.lookup x=hI .local))&&((bF a).all λx=>decide (a.names.lookup x=hI .free))
inductive Slot where
 |no|val (p:PV)|own (p:PV)
 deriving Inhabited
noncomputable abbrev Sl:=List Slot
def Own(W:Wd)(H0 G H:Hp):PV->V->Prop
 |.lst xs,v=>∃a vs,v=.ref a/\H a=hI (.lst vs)/\G a=h9/\H0 a=h9/\ai W G xs vs|.cq ks ps,v=>∃a us,v=.ref a/\ks.length=us.length/\H a=hI (.dK (kz ks us))/\G a=h9/\H0 a=h9/\ai W G ps us|_,_=>False
noncomputable abbrev Cn:Hp:=λZ=>h9
theorem Own.any{W:Wd}:∀{p:PV} {v:V},Own W H0 G H p v->Own W Cn G H p v
 |.lst xs,_,h=>by let(a,vs,e,b,c,d,l):=h;exact⟨a,vs,e,b,c,rfl,l⟩|.cq f g,_,h=>by let(a,vs,e,n,b,c,d,l):=h;exact⟨a,vs,e,n,b,c,rfl,l⟩|.aR,_,h=>h|.bl _,_,h=>h|.int _,_,h=>h|.str _,_,h=>h|.tup _,_,h=>h|.exc _,_,h=>h|.obj _,_,h=>h
abbrev AL(o:Ob):PV:=if Bh o.c then .cq (o.fs.map (·.1)) (o.fs.map (·.2)) else .lst (o.fs.map (·.2))
def HM{W:Wd}{n:Nat}{o:Ob}(t:uK W G H)(e:W.ob[n]?=hI o)(d:bC o.c=ie):Own W Cn G H (AL o) (.ref o.a):=by
 let(f,g,b,l):=t n o e;unfold lR at b;unfold AL;by_cases hd:Bh o.c=ie
 .rw [if_pos hd] at b⊢;exact{o.a,g,rfl,by have:=l.length;rw [zzl] at this⊢;lia,b,f,rfl,l}
 .rw [if_neg hd] at b⊢;have hl:Ck o.c=ie:=by
   unfold bC at d;rw [eH] at d;exact d.resolve_left hd
  rw [if_pos hl] at b;exact⟨o.a,g,rfl,b,f,rfl,l⟩
def Top(W:Wd)(H0 G H:Hp)(p:PV)(v:V):Prop:=Rep W G p v\/Own W H0 G H p v
def GV(W:Wd)(H0 G H:Hp):Slot->Option V->Prop
 |.no,_=>True|.val p,o=>∃v,o=hI v/\Rep W G p v|.own p,o=>∃v,o=hI v/\Own W H0 G H p v
structure SR(W:Wd)(H0:Hp)(env:Sl)(σ:St)(G H:Hp):Prop where
 len:env.length=σ.length
 sub:aC G H
 base:i8 H0 H
 slot:∀(i:Nat) (s:Slot),env[i]?=hI s->∃o,σ[i]?=hI o/\GV W H0 G H s o
 apart:∀(i j:Nat) (p q:PV) (a:i1),env[i]?=hI (.own p)->env[j]?=hI (.own q)->σ[i]?=hI (hI (.ref a))->σ[j]?=hI (hI (.ref a))->i=j
 tab:bA W G H
 je:bA W G H0
section
variable{W:Wd}{G' H':Hp}{env:Sl}
theorem Own.grow(g:aE W G H G' H'):∀{p:PV} {v:V},Own W H0 G H p v->Own W H0 G' H' p v
 |.lst xs,_,h=>by let(a,vs,e,b,c,d,l):=h;exact{a,vs,e,g.h.at b (λZ z=>nomatch z),g.own a (by rw [b];exact λz=>by cases z) (by rw [b];exact λZ z=>by cases z) c,d,ai.same g.g xs l}
 |.cq i f,_,h=>by let(a,vs,e,n,b,c,d,l):=h;exact{a,vs,e,n,g.h.at b (λZ z=>nomatch z),g.own a (by rw [b];exact λz=>by cases z) (by rw [b];exact λZ z=>by cases z) c,d,ai.same g.g f l}
 |.aR,_,h=>h|.bl _,_,h=>h|.int _,_,h=>h|.str _,_,h=>h|.tup _,_,h=>h|.exc _,_,h=>h|.obj _,_,h=>h
theorem GV.grow(g:aE W G H G' H'):∀{s:Slot} {o:Option V},GV W H0 G H s o->GV W H0 G' H' s o
 |.no,_,_=>trivial|.val p,_,h=>by let(v,e,r):=h;exact{v,e,Rep.same g.g p r}|.own p,_,h=>by let(v,e,r):=h;exact{v,e,r.grow g}
theorem SR.grow(r:SR W H0 env σ G H)(g:aE W G H G' H'):SR W H0 env σ G' H':=
 {r.len,g.sub,r.base.trans g.h,λi s e=>by let(o,b,c):=r.slot i s e;exact{o,b,c.grow g},r.apart,g.tab r.tab,r.je.same g.g (λa b d c=>g.own a (λz=>b (r.base.free z)) (r.base.ji b d) c) λZ Z Z h=>h}
def Top.grow{p:PV}(g:aE W G H G' H')(h:Top W H0 G H p v):Top W H0 G' H' p v:=h.elim (λz=>.inl (Rep.same g.g p z)) λz=>.inr (z.grow g)
def Top.lst{xs:List PV}(s:aC G H)(h:Top W H0 G H (.lst xs) v):∃a vs,v=.ref a/\uJ W.K H a vs/\ai W G xs vs:=by
 rcases h with h|h
 .simp! [Rep] at h;let(a,vs,e,q,l):=h;exact{a,vs,e,aC.ls s q,l}
 .let(a,vs,e,b,_,_,l):=h;exact{a,vs,e,.inl (.inl b),l}
def Top.tup{xs:List PV}(s:aC G H)(h:Top W H0 G H (.tup xs) v):∃a vs,v=.ref a/\f9 W.K H a vs/\ai W G xs vs:=by
 rcases h with h|h
 .simp! [Rep] at h;let(a,vs,e,q,l):=h;exact{a,vs,e,aC.tup s q.sq,l}
 .exact h.elim
def Top.cq{ps:List PV}(s:aC G H)(h:Top W H0 G H (.cq ks ps) v):∃a us,v=.ref a/\ks.length=us.length/\Rd H a (.dK (kz ks us))/\ai W G ps us:=by
 rcases h with h|h
 .simp! [Rep] at h;let(a,o,us,e,n,q,l):=h;exact{a,us,e,n,.inr {o,s _ _ q},l}
 .let(a,b,e,n,q,_,_,l):=h;exact{a,b,e,n,.inl q,l}
def Top.int{i:Int}(h:Top W H0 G H (.int i) v):v=.int i:=h.elim (λz=>by simpa only [Rep] using z) λz=>z.elim
def Top.bl{b:Bool}(h:Top W H0 G H (.bl b) v):v=.bl b:=h.elim (λz=>by simpa only [Rep] using z) λz=>z.elim
def Top.str{b:Str}(h:Top W H0 G H (.str b) v):v=.str b:=h.elim (λz=>by simpa only [Rep] using z) λz=>z.elim
def Top.aR(h:Top W H0 G H .aR v):v=.aR:=h.elim (λz=>by simpa only [Rep] using z) λz=>z.elim
def Rep.i{i:Int}:Rep W G (.int i) (.int i):=by simp! [Rep]
def Rep.b{i:Bool}:Rep W G (.bl i) (.bl i):=by simp! [Rep]
def Rep.s{i:Str}:Rep W G (.str i) (.str i):=by simp! [Rep]
def Rep.n:Rep W G .aR .aR:=by simp! [Rep]
def Rep.l{xs:List PV}(h:uJ W.K G a vs)(l:ai W G xs vs):Rep W G (.lst xs) (.ref a):=by simp! [Rep];exact⟨a,vs,rfl,h,l⟩
def Rep.t{xs:List PV}(h:L0 W.K G a vs)(l:ai W G xs vs):Rep W G (.tup xs) (.ref a):=by simp! [Rep];exact⟨a,vs,rfl,h,l⟩
end
end Ci
variable{xs ys ps:List Ci.PV}{env:Ci.Sl}{q:Ci.PV}
namespace L2
open PySem.Spec PyProof.Rows
end L2
namespace HT
open PySem.Spec PyProof.Rows
section
variable{w:kd}{E:lr}{s:ix}
def uN{d:i1}{c:iv}{n:Nat}{Q:Int×Int×Nat->ix->Prop}(hs:s.heap.IsSliceOf d .none .none c)(f:IsPart c (hI (-1)))
 (h:Q ((n:Int)-1, -1,n) s):jW (kr prog w) A (lb.Slice.sliceApplied (.ref d) (pure (n:Int))) Q E s:=by
 let(os,a,g,b):=id hs
 unfold lb.Slice.sliceApplied lb.Slice.sliceFields;refine ar (ar (wpAny_field a b (x:=.none) rfl (ar (wpAny_field a b (x:=.none) rfl (ar (wpAny_field a b (x:=c) rfl (bc ?_)))))));refine ar (kb f ?_);show jW _ _ (if((-1:Int)==0)=ie then _ else _) _ _ s;rw [if_neg ↑2];refine ar (slicePart_none (ar (slicePart_none (ar (bc ?_)))));show jW _ _ (pure ((n:Int)-1,(-1:Int),lb.Slice.slicePlaces ((n:Int)-1) (-1) (-1))) _ _ s;have e:lb.Slice.slicePlaces ((n:Int)-1) (-1) (-1)=n:=by
  unfold lb.Slice.slicePlaces;rw [if_neg ↑2];split
  .have:((n:Int)-1 - -1-1)/(- -1)+1=n:=by rw [show(- -1:Int)=1 from rfl,Int.ediv_one];lia
   rw [this];lia
  .lia
 rw [e];exact bc h
theorem vg{b c:Type}{f g:b->Option c}:∀(l:List b),(∀m∈l,f m=g m)->l.filterMap f=l.filterMap g
 |[],_=>rfl|a::l,h=>by rw [List.filterMap_cons,List.filterMap_cons,h a (c8 ..),vg l λm hm=>h m (cz _ hm)]
def Ft(xs:Array iv):((List.range xs.size).filterMap λ(m:Nat)=>xs[((xs.size:Int)-1+(m:Int)*(-1)).toNat]?).toArray=xs.toList.reverse.toArray:=by
 congr 1
 refine List.ext_getElem? λi=>?_
 have a:∀k,k<=xs.size->(List.range k).filterMap (λ(m:Nat)=>xs[((xs.size:Int)-1+(m:Int)*(-1)).toNat]?)=(List.range k).filterMap λm=>xs.toList.reverse[m]?:=λk hk=>by
  refine vg _ λm hm=>?_;have:=List.mem_range.1 hm;rw [List.getElem?_reverse (by simpa using (by omega:m<xs.size)),Array.getElem?_toList,ef]
  congr 1
  omega
 rw [a _ (a7 _)];have:∀l:List iv,(List.range l.length).filterMap (λm=>l[m]?)=l:=λl=>by have:=PySem.W.krv_all l.toArray;simpa using this
 have:=this xs.toList.reverse;rw [List.length_reverse,ef] at this;rw [this]
def kN{t b:i1}{d:iv}{Q:lr}(a:IsTup s.heap t items)(hs:s.heap.IsSliceOf b .none .none d)(f:IsPart d (hI (-1)))
 (h:Q (.ref (zz9 s)) {s with heap:=s.heap.push {cls:=.type "tuple",data:=.seq items.toList.reverse.toArray}})
 (hsz:items.size<=kB):jW (kr prog w) A (getItem (.ref t) (.ref b)) Q E s:=by
 have e:sizeOk (.seq items.toList.reverse.toArray):=by show items.toList.reverse.toArray.size<=kB;rw [a5,List.length_reverse,ef];exact hsz
 let(os,c,g,i):=id hs;have j:s.TypeIs (.ref b) "slice":=⟨os,c,g⟩;unfold getItem
 try with_reducible refine wpAny_holding ?_
 first|refine ar (bc ?_)|skip
 refine ar (wpAny_sequenceKey a.typeIs ↑2 ?_);refine ar (wpAny_callSpecial?_slot (name:=Str.ofString "__getitem__") a.typeIs PyProof.Rows.slot_tuple_getitem
  (wpAny_call_entry PyProof.Rows.slot_tuple_getitem a.typeIs entry_tuple_getitem ?_ (args_tuple_getitem _ _)))
 show jW _ _ (lb.Tuple.tupleItemsOf (.ref t)>>=_) _ _ s;refine ar (tupleItemsOf_ a ?_);refine ar (wpAny_typeOf j ?_);rw [if_pos ↑2];refine ar (uN hs f ?_);have k:¬((((items.size:Int)-1)==0&&(-1:Int)==1&&items.size==items.size)=ie):=by intro q;rw [zza,zza] at q;exact absurd q.1.2 ↑2
 show jW _ _ (if(((items.size:Int)-1)==0&&(-1:Int)==1&&items.size==items.size)=ie then _ else _) _ _ s;rw [if_neg k,Ft]
 first
  |exact ar (m:=lb.Tuple.tupleExact _) (wpAny_newObj_type (bc ⟨_,rfl,bc h⟩) e)
  |exact ar (m:=lb.Tuple.tupleExact _) (wpAny_newObj_type (ar (bc (bc ⟨_,rfl,bc h⟩))) e)
end
end HT
namespace L2
open PySem.Spec PyProof.Rows
abbrev mm(z:Str):Str:=⟨z.cps.toList.reverse.toArray⟩
def J0(n:Nat):lb.Str.strSliceIndices h9 h9 (-1) n=(List.range n).map λk=>n-1-k:=by show sliceRange ((n:Int)-1) (-1) (-1)=_;exact PySem.W.krv_sliceRange n
def rN(r:Vals vs us):Vals vs.reverse us.reverse:=by
 induction r with
 |nil=>exact .nil|cons h t a=>rw [List.reverse_cons,List.reverse_cons];exact a.append (.cons h .nil)
section
variable{st:i2}{te ts:TE}{p2:Pos}
def GU(X:Cx)(r:V->Hp->VK->Prop):Prop:=
 ∀(a:lu) (s:ix) (b:St) (H:Hp) (x:V) (v c:iv) (d:i1) (Q:VK),Inv X a b H s->RelV x v->s.heap.IsSliceOf d .none .none c->IsPart c (hI (-1))->r x H Q->
  ∃T f,typeLookup (.type T) "__getitem__"=pure (hI (.builtin f))/\s.TypeIs v T/\zx7 X (getItem v (.ref d)) (EP X a b Q) X.xe s
def GU.or{r a:V->Hp->VK->Prop}(h:GU X r)(h':GU X a):GU X (λx H Q=>r x H Q\/a x H Q):=by
 intro b s c H x v d f Q I g hs i q;rcases q with q|q
 .exact h b s c H x v d f Q I g hs i q
 .exact h' b s c H x v d f Q I g hs i q
def Pn:GU X (λx H Q=>∃a xs,x=.ref a/\f9 X.K H a xs/\∀p,H p=h9->Q (.ref p) (upd H p (.tup xs.reverse))):=by
 intro m s t H x v u w Q I g hs i h;let(a,xs,rfl,j,q):=h;cases g;let(k,r,d,f):=I.tuple j;have c:k.toArray.size=xs.length:=by rw [a5];exact r.length.symm
 refine{"tuple",_,PyProof.Rows.slot_tuple_getitem.lookup,d.typeIs,HT.kN d hs i ?_ (by rw [c];exact f)};refine{.ref (zz9 s),_,I.laid (t':=s.toks) (o:=.tup xs.reverse) (λb ob q=>aT _ q) (a7 _) ?_,rfl,q _ (I.aM.fresh (a7 _))};exact{by rw [List.length_reverse];exact f,_,rN r,IsTup.new _ _}
def Pk:GU X (λx H Q=>∃a xs,x=.ref a/\il X.K H a xs/\∀p,H p=h9->Q (.ref p) (upd H p (.lst xs.reverse))):=by intro j s k H x v m t Q I f hs g h;let(a,xs,rfl,i,q):=h;cases f;let(u,r,c,d):=I.list i;refine{"list",_,PySem.F.slot_list_getitem.lookup,{_,c.isList.choose_spec.1,c.isList.choose_spec.2.1},?_};refine wpAny_getItem_list_slice c.isList hs .none .none g ↑2 ?_ (by rw [a5,<-r.length];exact d);rw [PySem.W.krv_pick];refine{.ref (zz9 s),_,I.laid (t':=s.toks) (o:=.lst xs.reverse) (λb ob q=>aT _ q) (a7 _) ?_,rfl,q _ (I.aM.fresh (a7 _))};exact{by rw [List.length_reverse];exact d,_,0,rN r,d4 _ rfl}
def Pl:GU X (λx H Q=>∃z,x=.str z/\z.length<=kB/\Q (.str (mm z)) H):=by
 intro f s g H x v j k Q I b hs c h;let(z,rfl,d,q):=h;let(t,rfl):=b
 refine{"str",_,F.slot_str_getitem.lookup,typeIs_str _ _ _,?_};cases c with
 |int i a=>
  refine wpAny_getItem_str_slice (l:=h9) (u:=h9) (st:=hI (-1,a)) hs rfl ?_;have e:sliceMade z t h9 h9 (hI (-1,a))=.str (mm z):=by
   unfold sliceMade;rw [if_neg (λq=>by rw [zza] at q;exact absurd q.1 (show¬((-1:Int)==1)=ie by decide))];unfold slicePicked mm
   congr 2
   show((lb.Str.strSliceIndices h9 h9 (-1) z.length).filterMap (z.cps[·]?)).toArray=_;rw [J0,PySem.W.krv_range,List.filterMap_reverse]
   congr 2
   have:=PySem.W.krv_all z.cps;exact this
  rw [e];refine{?_,{.str _,H,I.tok _,{_,rfl},q}};show(mm z).cps.size<=kB;have:(mm z).cps.size=z.length:=by simp [mm,Str.length]
  rw [this];exact d
abbrev tRv(r:V->Hp->VK->Prop)(te ts:TE):TE:=λa H Q=>te a H λx b=>ts a b λk c=>k=.int (-1)/\r x c Q
def O0{r:V->Hp->VK->Prop}(hr:GU X r)(he:PE X e te)(hs:PE X st ts):PE X (.Subscript e (.Slice h9 h9 (hI st) p2) pos) (tRv r te ts):=by
 intro c s d H Q I h;refine Subscript_ (bM (he c s d H _ I h) λv j f=>?_);let(x,m,o,p,y):=f;refine wpAny_Slice ?_;rw [evalPart_none];refine bc (bc ?_);rw [evalPart_some];refine bM (hs c j d m _ o y) λu a ⟨k,i,z,B,g⟩=>?_;let(rfl,g):=g;let(t,rfl):=B
 have C:Inv X c d i {a with heap:=a.heap.push {cls:=.type "slice",data:=.fields #[.none,.none,.int (-1) t]}}:=z.kept (t':=a.toks) λb ob q=>aT _ q
 let(T,G,D,E,F):=hr c {a with heap:=a.heap.push {cls:=.type "slice",data:=.fields #[.none,.none,.int (-1) t]}} d i x v (.int (-1) t) (zz9 a) Q C p (kA.IsSliceOf.new ..) (.int _ _) g
 show zx7 X (subscriptTail e (.Slice h9 h9 (hI st) p2) v (.ref (zz9 a))) (EP X c d Q) X.xe {a with heap:=a.heap.push {cls:=.type "slice",data:=.fields #[.none,.none,.int (-1) t]}};exact tail_any (ops:=[v,.ref (zz9 a)]) E D F (by with_unfolding_all rfl)
end
end L2
namespace L2
open PySem.Spec PyProof.Rows PySem.W
end L2
namespace Ci
open L2
inductive Res(α:Type) where
 |ok (a:α)|exc (c:Str)|bad
abbrev Res.bind{b d:Type}:Res b->(b->Res d)->Res d
 |.ok a,f=>f a|.exc c,_=>.exc c|.bad,_=>.bad
noncomputable instance:Monad Res where
 pure:=.ok
 bind:=Res.bind
def Res.aK{d e:Type}{r:Res d}{f:d->Res e}{b:e}(h:r.bind f=.ok b):∃a,r=.ok a/\f a=.ok b:=by
 cases r with
 |ok a=>exact⟨a,rfl,h⟩|exc c=>cases h
 |bad=>cases h
def Res.dY{b d:Type}{r:Res b}{f:b->Res d}(h:r.bind f=.exc c):r=.exc c\/∃a,r=.ok a/\f a=.exc c:=by
 cases r with
 |ok a=>exact .inr ⟨a,rfl,h⟩|exc e=>cases h;exact .inl rfl
 |bad=>cases h
abbrev Res.of{b:Type}:Option b->Res b
 |some a=>.ok a|none=>.bad
abbrev Res.well{b:Type}:Res b->Res b
 |.ok a=>.ok a|_=>.bad
noncomputable abbrev bT:Nat:=1000000
abbrev eqs(f:PV->PV->Bool):List PV->List PV->Bool
 |[],[]=>ie|x::xs,y::ys=>f x y&&eqs f xs ys|_,_=>ig
abbrev qb:Nat->PV->PV->Bool
 |_,.aR,.aR=>ie|_,.bl a,.bl b=>a==b|_,.bl a,.int i=>(if a then 1 else 0)==i
 |_,.int i,.bl a=>i==(if a then 1 else 0)
 |_,.int i,.int j=>i==j|_,.str x,.str y=>x==y|n+1,.tup xs,.tup ys=>eqs (qb n) xs ys|n+1,.lst xs,.lst ys=>eqs (qb n) xs ys|_,_,_=>ig
abbrev plain:Nat->PV->Bool
 |_,.aR=>ie|_,.bl _=>ie|_,.int _=>ie|_,.str _=>ie|n+1,.tup xs=>xs.all (plain n)|n+1,.lst xs=>xs.all (plain n)|_,_=>ig
noncomputable abbrev DP:Nat:=9
noncomputable abbrev eqv:PV->PV->Bool:=qb DP
noncomputable abbrev nc:PV->Bool:=plain DP
inductive KN where|add|sub|mul|mod|fdiv
inductive uu where|eq|ne|lt|le|gt|ge|is|Ed|Hi|Cm
abbrev bq(i:Int):Bool:=decide (-(2^64)<i)&&decide (i<2^64)
abbrev binOp:KN->PV->PV->Res PV
 |.add,.int i,.int j=>.ok (.int (i+j))|.add,.str x,.str y=>if x.length+y.length<=bT then .ok (.str (x++y)) else .bad
 |.add,.lst x,.lst y=>if x.length+y.length<=bT then .ok (.lst (x++y)) else .bad
 |.add,.tup x,.tup y=>if x.length+y.length<=bT then .ok (.tup (x++y)) else .bad
 |.sub,.int i,.int j=>.ok (.int (i-j))|.mul,.int i,.int j=>if bq i||bq j then .ok (.int (i*j)) else .bad
 |.mul,.lst x,.int j=>if 0<=j/\j<1000/\x.length<1000 then .ok (.lst (ll j.toNat x).flatten) else .bad
 |.mod,.int i,.int j=>if 0<j then .ok (.int (i%j)) else .bad
 |.fdiv,.int i,.int j=>if 0<j/\j<1073741824 then .ok (.int (i/j)) else .bad
 |_,_,_=>.bad
abbrev bW{a:Type}:List Str->List a->Str->Option a
 |b::ks,v::vs,k=>if b=k then hI v else bW ks vs k
 |_,_,_=>h9
abbrev iC(ks:List Str)(k:Str):Bool:=ks.any λa=>decide (a=k)
abbrev eM(ks:List Str)(k:Str):List Str:=if iC ks k then ks else ks++[k]
abbrev cQ{a:Type}(ks:List Str)(vs:List a)(k:Str)(p:a):List a:=if iC ks k then List.zipWith (λb v=>if b=k then p else v) ks vs else vs++[p]
abbrev fO(ks:List Str)(k:Str):List Str:=ks.filter λa=>decide (a≠k)
abbrev bO{a:Type}:List Str->List a->Str->List a
 |b::ks,v::vs,k=>if b=k then bO ks vs k else v::bO ks vs k
 |_,_,_=>[]
def gP(k:Str):PV:=.str k
abbrev eG:PV->Option Str
 |.str z=>hI z|_=>h9
abbrev vV:List PV->Option (List (Str×PV))
 |[]=>hI []|.tup [x,y]::r=>(eG x).bind λk=>(vV r).map ((k,y)::·)|_=>h9
abbrev bP{a:Type}:List (Str×a)->List Str->List a->List Str×List a
 |[],ks,vs=>(ks,vs)|p::r,ks,vs=>bP r (eM ks p.1) (cQ ks vs p.1 p.2)
abbrev Xn(x:PV)(ys:List PV):Bool:=ys.any λy=>eqv y x
abbrev gS(a b:PV):Res PV:=if nc a&&nc b then .ok (.bl (eqv a b)) else .bad
abbrev iJ(a b:PV):Res PV:=if nc a&&nc b then .ok (.bl (!eqv a b)) else .bad
abbrev vP:PV->PV->Res PV
 |.int i,.int j=>.ok (.bl (decide (i<j)))|_,_=>.bad
abbrev vO:PV->PV->Res PV
 |.int i,.int j=>.ok (.bl (decide (i<=j)))|_,_=>.bad
abbrev xU:PV->PV->Res PV
 |.int i,.int j=>.ok (.bl (decide (j<i)))|_,_=>.bad
abbrev xS:PV->PV->Res PV
 |.int i,.int j=>.ok (.bl (decide (j<=i)))|_,_=>.bad
abbrev zm:PV->Bool
 |.aR=>ie|_=>ig
abbrev E8:PV->PV->Res PV
 |a,.aR=>.ok (.bl (zm a))|_,_=>.bad
abbrev ql:PV->PV->Res PV
 |a,.tup ys=>if nc a&&ys.all nc then .ok (.bl (Xn a ys)) else .bad
 |.str i,.str j=>.ok (.bl (!(lb.Str.occurrences j i 0 j.length 1).isEmpty))|a,.cq ks _=>(Res.of (eG a)).bind λk=>.ok (.bl (iC ks k))|_,_=>.bad
abbrev o6:PV->PV->Res PV
 |a,.cq ks _=>(Res.of (eG a)).bind λk=>.ok (.bl (!iC ks k))|_,_=>.bad
abbrev qf(a:List Str)(vs':List PV):List Str->List PV->Bool
 |k::ks,n::ns=>match bW a vs' k with
  |some m=>eqv n m&&qf a vs' ks ns|none=>ig
 |_,_=>ie
abbrev rC:PV->PV->Res PV
 |.cq ks vs,.cq a vs'=>if vs.all nc&&vs'.all nc then .ok (.bl (!(ks.length==a.length&&qf a vs' ks vs))) else .bad
 |_,_=>.bad
abbrev cB:uu->PV->PV->Res PV
 |.eq=>gS|.ne=>iJ|.lt=>vP|.le=>vO|.gt=>xU|.ge=>xS|.is=>E8|.Ed=>ql|.Hi=>o6|.Cm=>rC
abbrev aB:PV->PV->Res PV
 |.lst xs,.int i=>Res.of (uw xs i)|.tup xs,.int i=>Res.of (uw xs i)|.str z,.int i=>if z.length<=bT then(Res.of (uw z.cps.toList i)).bind λc=>.ok (.str {#[c]}) else .bad
 |.cq ks vs,y=>(Res.of (eG y)).bind λk=>Res.of (bW ks vs k)|_,_=>.bad
abbrev mV{a:Type}(xs:List a)(b c:Option Int):List a:=(xs.drop (HT.dE xs.length 0 b)).take (HT.dE xs.length xs.length c-HT.dE xs.length 0 b)
abbrev gX:PV->Option Int->Option Int->Res PV
 |.tup xs,lo,a=>.ok (.tup (mV xs lo a))|.str z,lo,a=>if z.length<=bT then .ok (.str (Txt.slice z lo a)) else .bad
 |_,_,_=>.bad
inductive B where|len|int|str|tuple|all|sorted
abbrev boolsOf:List PV->Option (List Bool)
 |[]=>hI []|.bl b::r=>(boolsOf r).map (b::·)|_=>h9
abbrev chars(z:Str):List PV:=z.cps.toList.map λc=>.str {#[c]}
abbrev wR:List PV->Res PV
 |[.lst xs]=>.ok (.int xs.length)|[.tup xs]=>.ok (.int xs.length)|[.str z]=>if z.length<=bT then .ok (.int z.length) else .bad
 |[.cq ks _]=>.ok (.int ks.length)|_=>.bad
abbrev CI:List PV->Res PV
 |[.bl b]=>.ok (.int (if b then 1 else 0))
 |_=>.bad
abbrev CJ:List PV->Res PV
 |[.int i]=>if i.natAbs.log2<1920 then .ok (.str (toString i)) else .bad
 |_=>.bad
abbrev nW:List PV->Res PV
 |[.lst xs]=>.ok (.tup xs)|_=>.bad
abbrev CG:List PV->Res PV
 |[.lst xs]=>(Res.of (boolsOf xs)).bind λbs=>.ok (.bl (bs.all id))|_=>.bad
abbrev codes(z:Str):List Int:=z.cps.toList.map λ(c:Nat)=>(c:Int)
abbrev kn:List PV->Res PV
 |[.cq ks _]=>if ks.length<64 then .ok (.lst (uD .aR (ks.map gP) (ks.map codes))) else .bad
 |_=>.bad
abbrev g6:List PV->Res PV
 |[.lst xs]=>(Res.of (vV xs)).bind λps=>.ok (.cq (bP ps [] []).1 (bP ps [] []).2)|_=>.bad
abbrev fe:B->List PV->Res PV
 |.len=>wR|.int=>CI|.str=>CJ|.tuple=>nW|.all=>CG|.sorted=>kn
inductive Ty where|int|bool|str|tuple
abbrev oO:Ty->PV->Bool
 |.int,.int _=>ie|.int,.bl _=>ie|.bool,.bl _=>ie|.str,.str _=>ie|.tuple,.tup _=>ie|_,_=>ig
abbrev ni(t:Ty):PV->Res PV
 |.exc _=>.bad|.cq _ _=>.bad|.obj _=>.bad|p=>.ok (.bl (oO t p))
abbrev strsOf:List PV->Option (List Str)
 |[]=>hI []|.str z::r=>(strsOf r).map (z::·)|_=>h9
inductive M where|jz|index|join
abbrev vD:List PV->Res PV
 |[.str z,.lst xs]=>(Res.of (strsOf xs)).bind λys=>if z.length<=16/\(ys.map (·.length)).sum+ys.length<=bT then .ok (.str (Txt.join z ys)) else .bad
 |_=>.bad
abbrev kR:List PV->Res PV
 |[.lst xs,v]=>if nc v&&xs.all nc then .ok (.int ((xs.countP λy=>eqv y v:Nat):Int)) else .bad
 |_=>.bad
abbrev oS:List PV->Res PV
 |[.lst xs,v]=>if nc v&&xs.all nc&&decide (xs.length<1000) then(match xs.findIdx? λy=>eqv y v with|some j=>.ok (.int (j:Nat))|none=>.bad) else .bad
 |_=>.bad
abbrev zH:M->List PV->Res PV
 |.join=>vD|.jz=>kR|.index=>oS
abbrev zA:M->PV->Bool
 |.join,.str _=>ie|.jz,.lst _=>ie|.index,.lst _=>ie|_,_=>ig
inductive Tg where
 |one (i:Nat)|two (i j:Nat)
mutual
inductive E where
 |var (i:Nat)|Ks (i:Nat)
 |cst (p:PV)
 |glob (g:Str) (p:PV)
 |call (f:Str) (as:Es)
 |blt (b:B) (as:Es)
 |ty (t:Ty) (a:E)
 |zq (c:Str) (a:E)
 |dD (m:M) (o:E) (as:Es)
 |bin (o:KN) (a b:E)
 |cmp (o:uu) (a b:E)
 |ch (o1 o2:uu) (a b c:E)
 |not (a:E)
 |neg (a:E)
 |and (a b:E)|or (a b:E)
 |ite (c a b:E)
 |tup (as:Es)|lst (as:Es)
 |sub (a b:E)
 |slice (a:E) (lo hi:Oe)
 |comp (k:Nat) (bh:List Nat) (tg:Tg) (it:I) (elt:E)
 |fI (k:Nat) (bh:List Nat) (tg:Tg) (it:I) (c elt:E)
 |get (a k:E)
 |rev (a:E)
 |EG (a:E)
 |fld (i:Nat) (f:Str)
 |con (a:E)
 |Mt
 |Mv (ks:List (Str×Str))
inductive Es where
 |nil|cons (e:E) (es:Es)
inductive Oe where
 |no|some (e:E)
inductive I where
 |seq (e:E)|pU (e:E)|zip (as:Es)
end
mutual
inductive S where
 |expr (e:E)
 |set (i:Nat) (e:E)
 |Cq (tg:Tg) (e:E)
 |own (i:Nat) (e:E)
 |bV (i:Nat)
 |app (i:Nat) (e:E)
 |put (i:Nat) (k e:E)
 |ret (e:E)
 |ite (c:E) (a b:Ss)
 |eS (tg:Tg) (it:I) (b:Ss)
 |raise (c:Str) (m:Str)
 |vQ (i:Nat) (e:E)
 |par (i j:Nat) (as:Es)
inductive Ss where
 |nil|cons (s:S) (ss:Ss)
end
noncomputable abbrev aP:=Str->List PV->Res PV
def cK(f:Str):Str:="@"++f
noncomputable abbrev d5:Str:="@@"
abbrev mS:Option Slot->Res PV
 |some (.val p)=>.ok p|_=>.bad
abbrev z9:Option Slot->Res PV
 |some (.val p)=>.ok p|some (.own p)=>.ok p|_=>.bad
abbrev Tg.put:Tg->PV->Sl->Res Sl
 |.one i,p,env=>.ok (env.set i (.val p))|.two i j,.tup [a,b],env=>.ok ((env.set i (.val a)).set j (.val b))|_,_,_=>.bad
abbrev eO(env:Sl)(a:List Nat):Sl:=a.map λi=>env.getD i .no
abbrev itemsOf:PV->Res (List PV)
 |.lst xs=>.ok xs|.tup xs=>.ok xs|.str z=>.ok (chars z)|_=>.bad
abbrev yb(e:E)(p:PV):Res (List PV):=match p,e with
 |.cq _ _,.Ks _=>.bad|.cq _ _,.con _=>.bad|.cq a _,_=>.ok (a.map gP)|p,_=>itemsOf p
abbrev eJ(a:Int)(n:Nat):List PV:=(List.range n).map λi=>.int (a+(i:Nat))
abbrev bS(i:Int):Bool:=decide (-(2^62)<=i)&&decide (i<2^62)
abbrev TK:PV->Option (List PV)
 |.tup xs=>hI xs|_=>h9
abbrev pz:List PV->Option (List (List PV))
 |[]=>hI []|p::r=>(TK p).bind λxs=>(pz r).map (xs::·)
abbrev oU:List (List PV)->Nat
 |[]=>0|[xs]=>xs.length|xs::r=>min xs.length (oU r)
abbrev qD(xss:List (List PV)):List PV:=(List.range (oU xss)).map λi=>.tup (xss.map λxs=>xs.getD i .aR)
abbrev oc:Option PV->List PV->List PV
 |some y,ys=>y::ys|none,ys=>ys
abbrev aY(f:PV->Res (Option PV)):List PV->Res (List PV)
 |[]=>.ok []|x::xs=>(f x).well.bind λo=>(aY f xs).bind λys=>.ok (oc o ys)
abbrev yF{a:Type}(p:PV)(f:Bool->Res a):Res a:=match p with
 |.bl b=>f b|_=>.bad
section
variable(F:aP)
mutual
noncomputable def az:E->Sl->Res PV
 |.var i,env=>mS env[i]?|.Ks i,env=>z9 env[i]?|.cst p,_=>.ok p|.glob _ p,_=>.ok p|.call f as,env=>(bw as env).bind λps=>F f ps|.blt b as,env=>(bw as env).bind λps=>fe b ps|.ty t a,env=>(az a env).bind λp=>ni t p|.zq c a,env=>(az a env).bind λp=>match p with
  |.exc d=>.ok (.bl (if c==(zu 0) then ie else(c==d||c==(zu 2))))
  |_=>.bad
 |.dD m o as,env=>(az o env).bind λp=>if zA m p then(bw as env).bind λps=>zH m (p::ps) else .bad
 |.bin o a b,env=>(az a env).bind λx=>(az b env).bind λy=>binOp o x y|.cmp o a b,env=>(az a env).bind λx=>(az b env).bind λy=>cB o x y|.ch o1 o2 a b c,env=>(az a env).bind λx=>(az b env).bind λy=>(cB o1 x y).bind λt=>yF t λt=>if t then(az c env).bind λz=>cB o2 y z else .ok (.bl ig)
 |.not a,env=>(az a env).bind λx=>yF x λb=>.ok (.bl (!b))|.neg a,env=>(az a env).bind λx=>match x with|.int i=>.ok (.int (-i))|_=>.bad
 |.and a b,env=>(az a env).bind λx=>yF x λt=>if t then az b env else .ok (.bl ig)
 |.or a b,env=>(az a env).bind λx=>yF x λt=>if t then .ok (.bl ie) else az b env
 |.ite c a b,env=>(az c env).bind λx=>yF x λt=>if t then az a env else az b env
 |.tup as,env=>(bw as env).bind λps=>.ok (.tup ps)|.lst as,env=>(bw as env).bind λps=>.ok (.lst ps)|.sub a b,env=>(az a env).bind λx=>(az b env).bind λy=>aB x y|.slice a lo r,env=>(az a env).bind λx=>(G6 lo env).bind λl=>(G6 r env).bind λh=>gX x l h|.comp k g j it elt,env=>(uz it env).bind λxs=>if xs.length<bT then(aY (λx=>(j.put x (ll k .no++eO env g)).bind λe=>(az elt e).bind λy=>.ok (hI y)) xs).bind λys=>.ok (.lst ys) else .bad
 |.fI k g j it c elt,env=>(uz it env).bind λxs=>if xs.length<bT then(aY (λx=>(j.put x (ll k .no++eO env g)).bind λe=>(az c e).bind λt=>yF t λt=>if t then(az elt e).bind λy=>.ok (hI y) else .ok h9) xs).bind λys=>.ok (.lst ys) else .bad
 |.get a k,env=>(az a env).bind λp=>match p with|.cq ks vs=>(az k env).bind λq=>(Res.of (eG q)).bind λz=>.ok ((bW ks vs z).getD .aR)|_=>.bad
 |.rev a,env=>(az a env).bind λp=>match p with|.str z=>(if z.length<=bT then .ok (.str (mm z)) else .bad)|.tup xs=>.ok (.tup xs.reverse)|.lst xs=>.ok (.lst xs.reverse)|_=>.bad
 |.fld i f,env=>(mS env[i]?).bind λp=>F (cK f) [p]|.con a,env=>(az a env).bind λp=>F d5 [p]|.Mt,_=>.ok (.cq [] [])|.Mv ks,_=>.ok (.cq (bP (ks.map λq=>(q.1,PV.tup [.str q.2])) [] []).1 (bP (ks.map λq=>(q.1,PV.tup [.str q.2])) [] []).2)|.EG a,env=>(az a env).bind λp=>match p with|.tup xs=>.ok (.lst xs.reverse)|_=>.bad
noncomputable def bw:Es->Sl->Res (List PV)
 |.nil,_=>.ok []|.cons e a,env=>(az e env).bind λp=>(bw a env).bind λps=>.ok (p::ps)
noncomputable def G6:Oe->Sl->Res (Option Int)
 |.no,_=>.ok h9|.some e,env=>(az e env).bind λp=>match p with|.int i=>.ok (hI i)|_=>.bad
noncomputable def uz:I->Sl->Res (List PV)
 |.seq e,env=>(az e env).bind (yb e)|.pU e,env=>(az e env).bind λp=>match p with|.int j=>if bS j then .ok (eJ 0 j.toNat) else .bad|_=>.bad
 |.zip as,env=>(bw as env).bind λps=>(Res.of (pz ps)).bind λxss=>.ok (qD xss)
end
end
inductive Fl where
 |nx (env:Sl)|bk (env:Sl)|ct (env:Sl)|rt (p:PV)
abbrev Fl.seq(f:Fl)(k:Sl->Res Fl):Res Fl:=match f with
 |.nx env=>k env|f=>.ok f
abbrev forL(body:PV->Sl->Res Fl):List PV->Sl->Res Fl
 |[],env=>.ok (.nx env)|x::xs,env=>(body x env).bind λf=>match f with
  |.nx a=>forL body xs a|.ct a=>forL body xs a|.bk a=>.ok (.nx a)|.rt p=>.ok (.rt p)
abbrev Slot.cb:Slot->Bool
 |.own _=>ie|_=>ig
abbrev sE:Slot->Slot
 |.own p=>.val p|s=>s
section
variable(F:aP)
mutual
noncomputable def dq:S->Sl->Res Fl
 |.expr e,env=>(az F e env).bind λZ=>.ok (.nx env)|.set i e,env=>(az F e env).bind λp=>.ok (.nx (env.set i (.val p)))|.Cq d e,env=>(az F e env).bind λp=>(d.put p env).bind λf=>.ok (.nx f)|.own i e,env=>(az F e env).bind λp=>.ok (.nx (env.set i (.own p)))|.bV i,env=>.ok (.nx (env.modify i sE))|.app i e,env=>match env[i]? with
  |some (.own (.lst xs))=>(az F e env).bind λp=>if xs.length<bT then .ok (.nx (env.set i (.own (.lst (xs++[p]))))) else .bad
  |_=>.bad
 |.put i k e,env=>(az F e env).bind λp=>match env[i]? with
  |some (.own (.cq ks vs))=>(az F k env).bind λkp=>match eG kp with
   |some g=>if ks.length<bT then .ok (.nx (env.set i (.own (.cq (eM ks g) (cQ ks vs g p))))) else .bad
   |none=>.bad
  |_=>.bad
 |.ret e,env=>(az F e env).bind λp=>.ok (.rt p)|.ite c a b,env=>(az F c env).bind λp=>yF p λt=>if t then bJ a env else bJ b env
 |.eS d it b,env=>(uz F it env).bind λxs=>forL (λx env=>(d.put x env).bind λf=>bJ b f) xs env|.raise c _,_=>.exc c|.vQ i e,env=>(az F e env).bind λp=>(g6 [p]).bind λq=>.ok (.nx (env.set i (.own q)))|.par i j as,env=>(bw F as env).bind λps=>match ps with
  |[p,q]=>.ok (.nx ((env.set i (.val p)).set j (.val q)))|_=>.bad
noncomputable def bJ:Ss->Sl->Res Fl
 |.nil,env=>.ok (.nx env)|.cons s ss,env=>(dq s env).bind λf=>f.seq (bJ ss)
end
end
structure Def where
 N:List Str
 np:Nat
 body:Ss
 uW:Option (Str×List Nat):=h9
abbrev ft(d:Def)(as:List PV):Sl:=as.map .val++ll (d.N.length-as.length) .no
abbrev e9(d:Def)(as:List PV):Bool:=match d.uW with
 |none=>as.length==d.np|some _=>ig
abbrev aX(F:aP)(d:Def)(as:List PV):Res PV:=
 if e9 d as then(bJ F d.body (ft d as)).bind λf=>match f with
  |.nx _=>.ok .aR|.rt p=>.ok p|_=>.bad
 else .bad
abbrev aH(B:aP):List (Str×Def)->aP
 |[],f,as=>B f as|(n,d)::r,f,as=>if f==n then aX (aH B r) d as else aH B r f as
noncomputable abbrev Xv:aP:=λZ Z=>.bad
noncomputable abbrev den:List (Str×Def)->aP:=aH Xv
abbrev Rc(x:Str):Bool:=x.cps[0]?==hI 64
noncomputable abbrev ki(k:Str):Key:=Sum.inr k
def xA{a b:Str}(h:ki a=ki b):a=b:=Sum.inr.inj h
theorem iV{k:Str}{u:V}{us:List V}:kz (k::ks) (u::us)=(ki k,u)::kz ks us:=rfl
theorem N7{us:List V}:kz [] us=[]:=rfl
def iF{us:List V}(h:ks.length=us.length):(kz ks us).length=ks.length:=by unfold kz;rw [List.length_zip,zzl];lia
def zw{us:List V}(h:ks.length=us.length):(kz ks us).map (·.1)=ks.map ki:=by unfold kz;exact List.map_fst_zip (by rw [zzl];lia)
theorem iG(k:Str):∀(ks:List Str) (us:List V),lI (kz ks us) (ki k)=bW ks us k
 |[],us=>by unfold bW;rfl|a::ks,[]=>by unfold bW;rfl|a::ks,u::us=>by
  rw [iV];unfold bW;by_cases h:a=k
  .subst h;rw [if_pos rfl];exact lK rfl
  .rw [if_neg h,lJ (λz=>h (xA z))];exact iG k ks us
theorem iS{b:Type}(k:Str):∀(ks:List Str) (us:List b),ks.length=us.length->(bW ks us k).isSome=iC ks k
 |[],[],_=>rfl|a::ks,u::us,h=>by
  unfold bW iC;rw [List.any_cons];by_cases e:a=k
  .simp [e]
  .rw [if_neg e];have:=iS k ks us (zx6 h);unfold iC at this;rw [this];simp [e]
 |[],_::_,h=>by simp at h|_::_,[],h=>by simp at h
def L5(k:Str):∀(ks:List Str) (us:List V),ks.length=us.length->((kz ks us).any λa=>decide (a.1=ki k))=iC ks k:=λks us h=>by rw [pP,iG,iS k ks us h]
def xB{us:List V}(h:ks.length=us.length)(k:Str)(v:V):putK (kz ks us) (ki k) v=kz (eM ks k) (cQ ks us k v):=by
 unfold putK eM cQ;rw [L5 k ks us h];split
 .have go:∀(ks:List Str) (us:List V),(kz ks us).map (λb=>if b.1=ki k then(b.1,v) else b)=kz ks (List.zipWith (λc u=>if c=k then v else u) ks us):=by
   intro ks
   induction ks with
   |nil=>intro us;simp [kz]|cons a ks d=>
    intro us;cases us with
    |nil=>simp [kz]|cons u us=>
     rw [iV,a8,List.zipWith_cons_cons,iV,d];by_cases e:a=k
     .simp [e]
     .rw [if_neg (λz=>e (xA z)),if_neg e]
  exact go ks us
 .unfold kz;rw [List.map_append,List.zip_append (by rw [zzl];exact h)];rfl
def o9{a:Type}{us:List a}(h:ks.length=us.length)(k:Str)(v:a):(eM ks k).length=(cQ ks us k v).length:=by
 unfold eM cQ;split
 .rw [List.length_zipWith];lia
 .simp [h]
theorem zv(k:Str):∀{ks:List Str} {us:List V},ks.length=us.length->gh (kz ks us) (ki k)=kz (fO ks k) (bO ks us k)
 |[],[],_=>rfl|a::ks,u::us,h=>by
  have b:=zv k (ks:=ks) (us:=us) (zx6 h);unfold fO bO;rw [iV,g5];by_cases e:a=k
  .subst e;rw [AX rfl,b];simp [fO]
  .rw [AW (λz=>e (xA z)),b,if_neg e,if_pos (zx6 e),iV];rfl
 |[],_::_,h=>by simp at h|_::_,[],h=>by simp at h
theorem vb{c:Type}(k:Str):∀{ks:List Str} {us:List c},ks.length=us.length->(fO ks k).length=(bO ks us k).length
 |[],[],_=>by unfold bO;rfl|a::ks,u::us,h=>by
  have b:=vb k (ks:=ks) (us:=us) (zx6 h);unfold fO bO;rw [g5];by_cases e:a=k
  .subst e;rw [if_neg (by simp),if_pos rfl];exact b
  .rw [if_neg e,if_pos (zx6 e),c4,c4];exact congrArg (·+1) b
 |[],_::_,h=>by simp at h|_::_,[],h=>by simp at h
section
variable{W:Wd}
theorem lM{k:Str}{p:PV}:∀{ks:List Str} {ps:List PV} {us:List V},ai W G ps us->bW ks ps k=hI p->∃v,bW ks us k=hI v/\Rep W G p v
 |[],_,_,_,e=>by unfold bW at e;cases e
 |a::ks,[],_,_,e=>by unfold bW at e;cases e
 |a::ks,q::ps,_,l,e=>by
  let(v,r,rfl,b,c):=l.bo;unfold bW at e⊢;by_cases h:a=k
  .rw [if_pos h] at e⊢;cases e;exact⟨v,rfl,b⟩
  .rw [if_neg h] at e⊢;exact lM c e
theorem GQ{k:Str}{p:PV}(c:Rep W G p v):∀{ks:List Str} {ps:List PV} {us:List V},ai W G ps us->ai W G (List.zipWith (λb v=>if b=k then p else v) ks ps) (List.zipWith (λb u=>if b=k then v else u) ks us)
 |[],_,_,_=>by simp! [List.zipWith_nil_left];exact .nil|a::ks,[],_,l=>by simp! [ai] at l;subst l;simp! [List.zipWith_nil_right];exact .nil|a::ks,q::ps,_,l=>by
  let(u,r,rfl,d,e):=l.bo;rw [List.zipWith_cons_cons,List.zipWith_cons_cons];refine .cons ?_ (GQ c e);split
  .exact c
  .exact d
def tU{us:List V}{k:Str}{p:PV}(l:ai W G ps us)(a:Rep W G p v):ai W G (cQ ks ps k p) (cQ ks us k v):=by
 unfold cQ;split
 .exact GQ a l
 .exact l.append (.cons a .nil)
theorem ox{k:Str}:∀{ks:List Str} {ps:List PV} {us:List V},ai W G ps us->ai W G (bO ks ps k) (bO ks us k)
 |[],_,_,_=>by unfold bO;exact .nil|a::ks,[],_,l=>by simp! [ai] at l;subst l;unfold bO;exact .nil|a::ks,q::ps,_,l=>by
  let(u,r,rfl,c,b):=l.bo;unfold bO;split
  .exact ox b
  .exact .cons c (ox b)
end
def fF{p:PV}{k:Str}(h:eG p=hI k):p=gP k:=by
 unfold eG at h;split at h
 .cases h;rfl
 .cases h
end Ci
variable{it:Ci.I}
namespace L2
open PySem.Spec PyProof.Rows
end L2
namespace Ci
open L2
def j4{n:Nat}(h:n<=bT):n<=sizeLine:=d1 h ↑2
section
variable{W:Wd}
def dW(W:Wd)(G H:Hp)(r:PV)(Q:VK):Prop:=∀v a b,aE W G H a b->Rep W a r v->Q v b
def dW.at{r:PV}(h:dW W G H r Q)(s:aC G H)(k:Rep W G r v):Q v H:=h v G H (.refl s) k
def dW.tup{p:i1}(h:dW W G H (.tup xs) Q)(s:aC G H)(k:ai W G xs vs)(a:H p=h9):Q (.ref p) (upd H p (.tup vs)):=
 h _ _ _ (.new s a) (.t (.inl aq) (ai.same (bj (s.free a)) xs k))
def dW.lst{p:i1}(h:dW W G H (.lst xs) Q)(s:aC G H)(k:ai W G xs vs)(a:H p=h9):Q (.ref p) (upd H p (.lst vs)):=
 h _ _ _ (.new s a) (.l (.inl (.inl aq)) (ai.same (bj (s.free a)) xs k))
theorem nu{f:PV->PV->Bool}:∀{xs ys:List PV},xs.length≠ys.length->eqs f xs ys=ig
 |[],[],h=>absurd rfl h|_::xs,_::ys,h=>by simp! [eqs];rw [nu (xs:=xs) (ys:=ys) (λz=>h (by simp [z]))];simp|[],_::_,_=>rfl|_::_,[],_=>rfl
theorem nt{f:PV->PV->Bool}:∀{xs ys:List PV},xs.length=ys.length->eqs f xs ys=(List.range xs.length).all λj=>f (xs.getD j .aR) (ys.getD j .aR)
 |[],[],_=>rfl|x::xs,y::ys,h=>by simp! [eqs];rw [nt (xs:=xs) (ys:=ys) (zx6 h),c4,List.range_succ_eq_map,List.all_cons,List.all_map];rfl|[],_::_,h=>by simp at h|_::_,[],h=>by simp at h
def qW{f:PV->PV->Bool}:∀{xs ys:List PV},((List.range (min xs.length ys.length)).all (λj=>f (xs.getD j .aR) (ys.getD j .aR))&&xs.length==ys.length)=eqs f xs ys:=λ{xs ys}=>by
 by_cases h:xs.length=ys.length
 .rw [nt h,h,Nat.min_self,beq_self_eq_true,Bool.and_true]
 .rw [nu h,beq_eq_false_iff_ne.mpr h,Bool.and_false]
theorem ve{f:PV->PV->Bool}:∀{xs ys:List PV},xs.length=ys.length->(∀(j:Nat) x y,xs[j]?=hI x->ys[j]?=hI y->f x y=ie)->eqs f xs ys=ie
 |[],[],_,_=>rfl|x::xs,y::ys,h,k=>by simp! [eqs];rw [k 0 x y rfl rfl,ve (xs:=xs) (ys:=ys) (zx6 h) λj a b ha c=>k (j+1) a b (zx6 ha) (zx6 c)];rfl|[],_::_,h,_=>by simp at h|_::_,[],h,_=>by simp at h
def wG(hK:W.K=X.K){a:i1}{vs:List V}(h:uJ W.K H a vs):il X.K H a vs:=by
 rw [hK] at h;rcases h with h|⟨b,n,c,d,e⟩
 .exact .inl h
 .exact .inr {_,b,n,c,rfl,rfl,rfl,d,e}
def vM{c:St}{s:ix}(I:Inv X aa c H s){us:List V}(d:f9 X.K H a vs)(f:il X.K H a us):False:=by let(h,_,(o,e,g,_),_):=I.tuple d;let(i,_,(o2,n,b,qe,_),_):=I.list f;rw [e] at b;cases b;rw [g] at qe;exact absurd qe ↑2
theorem iX{c:Type}:∀{xs ys:List c},xs.length=ys.length->(∀(j:Nat) x y,xs[j]?=hI x->ys[j]?=hI y->x=y)->xs=ys
 |[],[],_,_=>rfl|x::xs,y::ys,h,k=>by rw [k 0 x y rfl rfl,iX (xs:=xs) (ys:=ys) (zx6 h) λj a b ha d=>k (j+1) a b (zx6 ha) (zx6 d)]|[],_::_,h,_=>by simp at h|_::_,[],h,_=>by simp at h
def Vsh(X:Cx)(W:Wd)(G H:Hp):PV->V->Prop
 |.aR,v=>v=.aR|.bl b,v=>v=.bl b|.int i,v=>v=.int i|.str z,v=>v=.str z|.tup xs,v=>∃a,v=.ref a/\∃vs,f9 X.K H a vs/\ai W G xs vs|.lst xs,v=>∃a,v=.ref a/\∃vs,il X.K H a vs/\ai W G xs vs|_,_=>False
def Vo(hK:W.K=X.K)(g:aC G H){n:Nat}{p:PV}(d:plain n p=ie)(h:Top W H0 G H p v):Vsh X W G H p v:=by
 cases p with
 |aR=>exact h.aR|bl b=>exact h.bl|int i=>exact h.int|str z=>exact h.str|tup xs=>let(a,f,e,sq,l):=h.tup g;rw [hK] at sq;exact⟨a,e,f,sq,l⟩|lst xs=>let(a,f,e,sq,l):=h.lst g;exact{a,e,f,wG hK sq,l}|exc c=>cases n<;>exact aN d
 |obj c=>cases n<;>exact aN d
 |cq a b=>cases n<;>exact aN d
def zW{B:St}{s:ix}(I:Inv X aa B H s)(hK:W.K=X.K)(h:aC G H):∀(n:Nat) {p q:PV} {v:V},plain n p=ie->plain n q=ie->Top W H0 G H p v->Top W H0 G H q v->p=q:=by
 intro n
 induction n with
 |zero=>
  intro p q v c d r t;have a:=Vo hK h c r;have b:=Vo hK h d t;cases p<;>cases q<;>first|exact aN c|exact aN d|(cases a;cases b;rfl)|(cases a;cases b)
 |succ n C=>
  intro p q v c d r t;have a:=Vo hK h c r;have b:=Vo hK h d t
  have z:∀{xs i:List PV} {k:List V},xs.all (plain n)=ie->i.all (plain n)=ie->ai W G xs k->ai W G i k->xs=i:=λ{xs i k} a1 a2 e f=>iX (by rw [<-e.length,f.length]) λj x y ex A=>by let(u,D,E):=e.sH ex;let(M,g,F):=f.get D;rw [A] at g;cases g;exact C (d0.mp a1 _ (a6 ex)) (d0.mp a2 _ (a6 A)) (.inl E) (.inl F)
  cases p<;>cases q<;>first|exact aN c|exact aN d|(cases a;cases b;done)|(cases a;cases b;rfl)|(let(_,L,_):=a;cases b;cases L;done)|(let(_,w,_):=b;cases a;cases w;done)|(let(x,rfl,k,m,e):=a;let(y,w,N,o,f):=b;cases w;first|exact(vM I m o).elim|exact(vM I o m).elim|(cases I.rL m o;rw [z c d e f])|(cases I.vB m o;rw [z c d e f]))
def Di:∀{n:Nat} {p:PV},plain n p=ie->qb n p p=ie:=by
 intro n
 induction n with
 |zero=>intro p h;cases p<;>first|exact aN h|rfl|exact beq_self_eq_true _
 |succ n c=>
  intro p h;cases p<;>first|exact aN h|rfl|exact beq_self_eq_true _|exact ve rfl λj x y a b=>by rw [a] at b;cases b;exact c (d0.mp h _ (a6 a))
def yS{b:St}{s:ix}(I:Inv X aa b H s)(hK:W.K=X.K)(c:aC G H):∀(n:Nat) {p q:PV} {v:V},plain n p=ie->plain n q=ie->Top W H0 G H p v->Top W H0 G H q v->qb n p q=ie:=λn {p q v} a d e f=>by cases zW I hK c n a d e f;exact Di a
def nH{x:V}(r:RelV x (.ref a)):x=.ref a:=by
 cases x<;>first|(cases r;rfl)|(let(_,h):=r;cases h)|cases r
def Shp(W:Wd)(G:Hp)(h:kA):PV->iv->Prop
 |.aR,v=>∃_t:Nat,v=.none/\True|.bl b,v=>∃_t:Nat,v=.bool b/\True|.int i,v=>∃t,v=.int i t/\True|.str z,v=>∃t,v=.str z t/\True|.tup xs,v=>∃a,v=.ref a/\∃c vs,ai W G xs vs/\Vals vs c/\h.IsTuple a c.toArray|.lst xs,v=>∃a,v=.ref a/\∃c vs,ai W G xs vs/\Vals vs c/\h.IsList a c.toArray|_,_=>False
def LD{k:St}{s:ix}(I:Inv X aa k H s)(hK:W.K=X.K)(g:aC G H){n:Nat}{p:PV}{j:iv}(d:plain n p=ie)(h:Top W H0 G H p v)(r:RelV v j):Shp W G s.heap p j:=by
 cases p with
 |aR=>cases h.aR;cases r;exact{0,rfl,trivial}
 |bl b=>cases h.bl;cases r;exact{0,rfl,trivial}
 |int i=>cases h.int;let(t,rfl):=r;exact⟨t,rfl,trivial⟩
 |str z=>cases h.str;let(t,rfl):=r;exact⟨t,rfl,trivial⟩
 |tup xs=>let(a,e,rfl,sq,l):=h.tup g;rw [hK] at sq;cases r;let(f,q,z,_):=I.tuple sq;exact⟨a,rfl,f,e,l,q,z⟩
 |lst xs=>let(a,e,rfl,sq,l):=h.lst g;cases r;let(f,q,z,_):=I.list (wG hK sq);exact⟨a,rfl,f,e,l,q,z.isList⟩
 |exc c=>cases n<;>exact aN d
 |obj c=>cases n<;>exact aN d
 |cq a b=>cases n<;>exact aN d
def uG(W:Wd)(G:Hp)(s:ix)(n:Nat)(A:ku)(xs ys:List PV):Prop:=∀{c d:List V} {a b:List iv},ai W G xs c->ai W G ys d->Vals c a->Vals d b->∀j (e:j<a.toArray.size) (f:j<b.toArray.size),SeqAt.EqAt A s a.toArray[j] b.toArray[j] (qb n (xs.getD j .aR) (ys.getD j .aR))
theorem Dh{s:ix}{n:Nat}(h:∀{p q:PV} {v u:V} {a b:iv},plain n p=ie->plain n q=ie->Rep W G p v->Rep W G q u->RelV v a->RelV u b->SeqAt.EqAt A s a b (qb n p q))(d:xs.all (plain n)=ie)(a2:ys.all (plain n)=ie):uG W G s n A xs ys:=λ{z us B C} e f g i j g1 g2=>by let(x,k,m):=Gz g g1;let(y,o,r):=Gz i g2;let(D,ex,t):=e.get k;let(E,c,w):=f.get o;rw [cW,cW,ex,c];exact h (d0.mp d _ (a6 ex)) (d0.mp a2 _ (a6 c)) t w m r
def zV{s:ix}{n:Nat}{b:i1}(hu:A.units<cLine)(h:uG W G s n A.in1 xs ys)(k1:∃c vs,ai W G xs vs/\Vals vs c/\s.heap.IsTuple a c.toArray)(k2:∃c vs,ai W G ys vs/\Vals vs c/\s.heap.IsTuple b c.toArray):SeqAt.RcAt A s (.ref a) (.ref b) (eqs (qb n) xs ys):=by
 let(c,vs,l,d,i):=k1;let(k,o,f,g,m):=k2;have m1:c.length=xs.length:=by rw [<-d.length,l.length]
 have m2:k.length=ys.length:=by rw [<-g.length,f.length]
 have:=SeqAt.RcAt.tuples (e:=λj=>qb n (xs.getD j .aR) (ys.getD j .aR)) i m hu (h l f d g);rw [a5,a5,m1,m2,qW] at this;exact this
def zU{s:ix}{n:Nat}{b:i1}(hu:A.units<cLine)(k:uG W G s n A.in1 xs ys)(k1:∃c vs,ai W G xs vs/\Vals vs c/\s.heap.IsList a c.toArray)(k2:∃c vs,ai W G ys vs/\Vals vs c/\s.heap.IsList b c.toArray):SeqAt.RcAt A s (.ref a) (.ref b) (eqs (qb n) xs ys):=by
 let(c,vs,l,d,f):=k1;let(m,o,g,h,i):=k2;have m1:c.length=xs.length:=by rw [<-d.length,l.length]
 have m2:m.length=ys.length:=by rw [<-h.length,g.length]
 by_cases hl:xs.length=ys.length
 .have:=SeqAt.RcAt.lists (e:=λj=>qb n (xs.getD j .aR) (ys.getD j .aR)) f i (by rw [a5,a5];lia) hu (k l g d h);rw [a5,m1,<-nt hl] at this;exact this
 .have:=SeqAt.RcAt.lists_lengths f i (by rw [a5,a5,m1,m2];simp [hl]) hu;rw [nu hl];exact this
open SeqAt.EqAt in
def yR{C:St}{s:ix}(I:Inv X aa C H s)(hK:W.K=X.K)(m:aC G H):∀(n:Nat) {A:ku} {p q:PV} {v u:V} {r t:iv},A.units+(n+1)<cLine->plain n p=ie->plain n q=ie->Top W H0 G H p v->Top W H0 G H q u->RelV v r->RelV u t->
 SeqAt.EqAt A s r t (qb n p q):=by
 intro n
 induction n with
 |zero=>
  intro A p q v u r t hu d e h i j k;have a:=LD I hK m d h j;have b:=LD I hK m e i k;cases p<;>cases q<;>first|exact aN d|exact aN e|(let(w,rfl,_):=a;let(t2,rfl,_):=b)
  exact same _;exact none_bool _;exact none_int _ _;exact none_str _ _;exact bool_none _;exact bool_bool _ _;exact bool_int _ _ _;exact bool_str _ _ _;exact int_none _ _;exact int_bool _ _ _;exact int_int _ _ _ _;exact int_str _ _ _ _;exact str_none _ _;exact str_bool _ _ _;exact str_int _ _ _ _;exact str_str _ _ _ _
 |succ n D=>
  intro A p q v u r t hu d e h i j k;have c:A.units<cLine:=by lia
  have a:=LD I hK m d h j;have b:=LD I hK m e i k;have z:∀{xs B:List PV},xs.all (plain n)=ie->B.all (plain n)=ie->uG W G s n A.in1 xs B:=λE a2=>Dh (λd e h i j k=>D (by show A.units+1+(n+1)<_;lia) d e (.inl h) (.inl i) j k) E a2;cases p<;>cases q<;>first|exact aN d|exact aN e|(let(w,rfl,y):=a;let(t2,rfl,k2):=b;try let(_,_,_,_,f):=id y;try let(_,_,_,_,g):=id k2)
  exact same _;exact none_bool _;exact none_int _ _;exact none_str _ _;exact none_tuple g c;exact none_list g c;exact bool_none _;exact bool_bool _ _;exact bool_int _ _ _;exact bool_str _ _ _;exact bool_tuple _ g c;exact bool_list _ g c;exact int_none _ _;exact int_bool _ _ _;exact int_int _ _ _ _;exact int_str _ _ _ _;exact int_tuple _ _ g c;exact int_list _ _ g c;exact str_none _ _;exact str_bool _ _ _;exact str_int _ _ _ _;exact str_str _ _ _ _;exact str_tuple _ _ g c;exact str_list _ _ g c;exact tuple_none f c;exact tuple_bool _ f c;exact tuple_int _ _ f c;exact tuple_str _ _ f c;by_cases o:w=t2
  .subst o;cases nH j;cases nH k;rw [yS I hK m (n+1) d e h i];exact same _
  .exact of_refs o (zV c (z d e) y k2)
  exact tuple_list f g c;exact list_none f c;exact list_bool _ f c;exact list_int _ _ f c;exact list_str _ _ f c;exact list_tuple f g c;by_cases o:w=t2
  .subst o;cases nH j;cases nH k;rw [yS I hK m (n+1) d e h i];exact same _
  .exact of_refs o (zU c (z d e) y k2)
end
section
variable{W:Wd}
open SeqAt.RcAt in
def TF{z:St}{s:ix}(I:Inv X aa z H s)(hK:W.K=X.K)(h:aC G H)(n:Nat){p:PV}{u:V}{r t:iv}(hu:A.units+(n+2)<cLine)(f:plain (n+1) p=ie)(g:plain (n+1) q=ie)(i:Top W H0 G H p v)(j:Top W H0 G H q u)(k:RelV v r)(m:RelV u t):
 SeqAt.RcAt A s r t (qb (n+1) p q):=by
 have c:A.units<cLine:=by lia
 have a:=LD I hK h f i k;have b:=LD I hK h g j m;have w:∀{xs y:List PV},xs.all (plain n)=ie->y.all (plain n)=ie->uG W G s n A.in1 xs y:=λB a2=>Dh (λf g i j k m=>yR (H0:=H0) I hK h n (by show A.units+1+(n+1)<_;lia) f g (.inl i) (.inl j) k m) B a2;cases p<;>cases q<;>first|exact aN f|exact aN g|(let(C,rfl,o):=a;let(t2,rfl,k2):=b;try let(_,_,_,_,d):=id o;try let(_,_,_,_,e):=id k2)
 exact none_none;exact none_bool _;exact none_int _ _;exact none_str _ _;exact none_tuple e c;exact none_list e c;exact bool_none _;exact bool_bool _ _;exact bool_int _ _ _;exact bool_str _ _ _;exact bool_tuple _ e c;exact bool_list _ e c;exact int_none _ _;exact int_bool _ _ _;exact int_int _ _ _ _;exact int_str _ _ _ _;exact int_tuple _ _ e c;exact int_list _ _ e c;exact str_none _ _;exact str_bool _ _ _;exact str_int _ _ _ _;exact str_str _ _ _ _;exact str_tuple _ _ e c;exact str_list _ _ e c;exact tuple_none d c;exact tuple_bool _ d c;exact tuple_int _ _ d c;exact tuple_str _ _ d c;exact zV c (w f g) o k2;exact tuple_list d e c;exact list_none d c;exact list_bool _ d c;exact list_int _ _ d c;exact list_str _ _ d c;exact list_tuple d e c;exact zU c (w f g) o k2
def BO{s:ix}{n:Nat}{b:i1}(hu:A.units<cLine)(h:uG W G s n A.in1 xs ys)(k1:∃c vs,ai W G xs vs/\Vals vs c/\s.heap.IsTuple a c.toArray)(k2:∃c vs,ai W G ys vs/\Vals vs c/\s.heap.IsTuple b c.toArray):SeqAt.RcNeAt A s (.ref a) (.ref b) (!eqs (qb n) xs ys):=by
 let(c,vs,l,d,i):=k1;let(k,o,f,g,m):=k2;have m1:c.length=xs.length:=by rw [<-d.length,l.length]
 have m2:k.length=ys.length:=by rw [<-g.length,f.length]
 have:=SeqAt.RcNeAt.tuples (e:=λj=>qb n (xs.getD j .aR) (ys.getD j .aR)) i m hu (h l f d g);rw [a5,a5,m1,m2,qW] at this;exact this
def BN{s:ix}{n:Nat}{b:i1}(hu:A.units<cLine)(k:uG W G s n A.in1 xs ys)(k1:∃c vs,ai W G xs vs/\Vals vs c/\s.heap.IsList a c.toArray)(k2:∃c vs,ai W G ys vs/\Vals vs c/\s.heap.IsList b c.toArray):SeqAt.RcNeAt A s (.ref a) (.ref b) (!eqs (qb n) xs ys):=by
 let(c,vs,l,d,f):=k1;let(m,o,g,h,i):=k2;have m1:c.length=xs.length:=by rw [<-d.length,l.length]
 have m2:m.length=ys.length:=by rw [<-h.length,g.length]
 by_cases hl:xs.length=ys.length
 .have:=SeqAt.RcNeAt.lists (e:=λj=>qb n (xs.getD j .aR) (ys.getD j .aR)) f i (by rw [a5,a5];lia) hu (k l g d h);rw [a5,m1,<-nt hl] at this;exact this
 .have:=SeqAt.RcNeAt.lists_lengths f i (by rw [a5,a5,m1,m2];simp [hl]) hu;rw [nu hl];exact this
open SeqAt.RcNeAt in
def JZ{z:St}{s:ix}(I:Inv X aa z H s)(hK:W.K=X.K)(h:aC G H)(n:Nat){p:PV}{u:V}{r t:iv}(hu:A.units+(n+2)<cLine)(f:plain (n+1) p=ie)(g:plain (n+1) q=ie)(i:Top W H0 G H p v)(j:Top W H0 G H q u)(k:RelV v r)(m:RelV u t):
 SeqAt.RcNeAt A s r t (!qb (n+1) p q):=by
 have c:A.units<cLine:=by lia
 have a:=LD I hK h f i k;have b:=LD I hK h g j m;have w:∀{xs y:List PV},xs.all (plain n)=ie->y.all (plain n)=ie->uG W G s n A.in1 xs y:=λB a2=>Dh (λf g i j k m=>yR (H0:=H0) I hK h n (by show A.units+1+(n+1)<_;lia) f g (.inl i) (.inl j) k m) B a2;cases p<;>cases q<;>first|exact aN f|exact aN g|(let(C,rfl,o):=a;let(t2,rfl,k2):=b;try let(_,_,_,_,d):=id o;try let(_,_,_,_,e):=id k2)
 exact none_none;exact none_bool _;exact none_int _ _;exact none_str _ _;exact none_tuple e c;exact none_list e c;exact bool_none _;exact bool_bool _ _;exact bool_int _ _ _;exact bool_str _ _ _;exact bool_tuple _ e c;exact bool_list _ e c;exact int_none _ _;exact int_bool _ _ _;exact int_int _ _ _ _;exact int_str _ _ _ _;exact int_tuple _ _ e c;exact int_list _ _ e c;exact str_none _ _;exact str_bool _ _ _;exact str_int _ _ _ _;exact str_str _ _ _ _;exact str_tuple _ _ e c;exact str_list _ _ e c;exact tuple_none d c;exact tuple_bool _ d c;exact tuple_int _ _ d c;exact tuple_str _ _ d c;exact BO c (w f g) o k2;exact tuple_list d e c;exact list_none d c;exact list_bool _ d c;exact list_int _ _ d c;exact list_str _ _ d c;exact list_tuple d e c;exact BN c (w f g) o k2
end
end Ci
namespace L2
open PySem.Spec PyProof.Rows
open PySem.AutoSeq1 (wpAny_loadPart')
end L2
namespace Ci
open L2
section
variable{W:Wd}
def Bq(hK:W.K=X.K){d:St}{s:ix}{xs:List V}(I:Inv X aa d H s)(h:uJ W.K H a xs):∃(b:List iv) (n:Nat),Vals xs b/\xs.length=b.length/\xs.length<=kB/\s.heap.get? a=hI {cls:=.type "list",data:=.seq b.toArray n}:=by
 rw [hK] at h;rcases h with h|⟨b,n,f,g,c⟩
 .let(z,b,n,r,e):=h.ok I.aM;exact⟨b,n,r,r.length,z,e⟩
 .refine{b.toList,n,c,c.length,?_,by simpa using I.jZ a _ f};rw [c.length,ef];exact g
def JA(hK:W.K=X.K):gB X (binaryOp .Add) (λx y H Q=>∃l b xs a,x=.ref l/\y=.ref b/\uJ W.K H l xs/\uJ W.K H b a/\xs.length+a.length<=kB/\∀p,H p=h9->Q (.ref p) (upd H p (.lst (xs++a)))):=by
 intro t s w H x y v u Q I f g h;let(l,b,xs,a,rfl,rfl,i,j,z,q):=h;cases f;cases g;let(c,n,r,hl,_,e):=Bq hK I i;let(d,A,k,B,_,m):=Bq hK I j;refine PySem.P.add_list e m ?_ (by rw [a5,a5];lia);have o:c.toArray++d.toArray=(c++d).toArray:=by simp
 rw [o];exact{.ref _,_,I.SI (t':=s.toks) (r.append k) (by rw [c5];lia),rfl,q _ I.fresh}
def JF(hK:W.K=X.K):gB X (binaryOp .Mult) (λx y H Q=>∃l k xs,x=.ref l/\y=.int k/\uJ W.K H l xs/\0<=k/\k<1000/\xs.length<1000/\∀p,H p=h9->Q (.ref p) (upd H p (.lst (ll k.toNat xs).flatten))):=by
 intro E s G H x y v u Q I i j h;let(l,k,xs,rfl,rfl,o,L,M,N,q):=h;cases i;let(t,rfl):=j;let(b,n,r,hl,_,e):=Bq hK I o
 have g:xs.length*k.toNat<=sizeLine:=by
  have:xs.length*k.toNat<=1000*1000:=Nat.mul_le_mul (by lia) (by lia);have O:(1000000:Nat)<=sizeLine:=↑2
  lia
 have c:b.toArray.size*k.toNat<=sizeLine:=by rw [a5,<-hl];exact g
 have w:¬b.toArray.size*k.toNat>(2^63-1)/8:=by
  have:(kB:Nat)<=(2^63-1)/8:=↑2
  lia
 have z:¬(!Builtin.List.listFitsIndex k)=ie:=by rw [fitsIndex_both (by lia) (by lia)];exact zzf
 have A:¬lb.List.listTooLong (b.toArray.size*k.toNat)=ie:=by rw [EY c];exact zzf
 have B:List.foldl (λd f=>d++f) #[] (ll (if b.toArray.isEmpty=ie then 0 else k.toNat) b.toArray)=(ll k.toNat b).flatten.toArray:=by
  have C:∀m:Nat,List.foldl (λd f=>d++f) #[] (ll m b.toArray)=(ll m b).flatten.toArray:=λm=>by have:=foldl_rep b m [];rw [List.nil_append] at this;exact this
  rw [C];cases b with
  |nil=>simp|cons a P=>rw [if_neg (by simp)]
 refine wpAny_binaryOp_repeat_ref (T:="list") (U:="int") ↑2 {_,e,rfl} (λD=>typeIs_int D k t) noFill_list_mul PySem.F.fills_int_mul PySem.F.slot_int_rmul repeat_list PySem.F.slot_int_index.lookup
  (call_meets PySem.F.slot_int_rmul (typeIs_int s k t) PySem.F.entry_int_rmul (PySem.F.args_int_rmul_2 _ _) (int___rmul___int_list k t l b.toArray n)
   {e,rfl,{_,e,rfl},call_meets PySem.F.slot_list_mul {_,e,rfl} PySem.F.entry_list_mul (PySem.F.args_list_mul_2 _ _) (AutoListH.list___mul___list_int_3 l b.toArray n k t z w A) {e,?_}})
 rw [B];exact{.ref _,_,I.SI (t':=s.toks) (r.rep k.toNat) (by rw [len_rep,Nat.mul_comm];exact g),rfl,q _ I.fresh}
theorem ai.rep(h:ai W G ps vs):∀k:Nat,ai W G (ll k ps).flatten (ll k vs).flatten
 |0=>.nil|k+1=>by rw [List.replicate_succ,List.replicate_succ,List.flatten_cons,List.flatten_cons];exact h.append (h.rep k)
def JB:gB X (binaryOp .Add) (λx y H Q=>∃a b xs ys,x=.ref a/\y=.ref b/\f9 X.K H a xs/\f9 X.K H b ys/\xs.length+ys.length<=kB/\(xs=[]->Q (.ref b) H)/\(ys=[]->Q (.ref a) H)/\∀p,H p=h9->Q (.ref p) (upd H p (.tup (xs++ys)))):=by
 intro t s w H x y v u Q I z A h;let(a,b,xs,ys,rfl,rfl,ha,i,B,C,D,E):=h;cases z;cases A;by_cases j:xs=[]
 .subst j;let(G,L,M,_):=I.tuple ha;let(N,V,O,_):=I.tuple i;have P:G=[]:=L.nD.mpr rfl;subst P;let((cls,R,k,S),m,o,n,hd):=id M;let((q,d,f,g),r,qe,T,c):=id O
  simp only at o hd qe c;subst o hd qe c;exact PySem.concat_meets {_,m,rfl} {_,r,rfl} PySem.noFill_tuple_add PySem.seq_tuple_add PySem.F.slot_tuple_add PySem.F.entry_tuple_add (PySem.F.args_tuple_add_2 _ _)
   (PyProof.Rows.tuple_addW0 a b ([]:List iv).toArray N.toArray n T R d S g (by simp)) {m,r,{.ref b,H,I,rfl,C rfl}}
 .refine JC t s w H (.ref a) (.ref b) (.ref a) (.ref b) Q I rfl rfl {a,b,xs,ys,rfl,rfl,ha,i,j,B,λe=>D e,λZ p U=>E p U}
abbrev Vf:KN->Operator
 |.add=>.Add|.sub=>.Sub|.mul=>.Mult|.mod=>.Mod|.fdiv=>.FloorDiv
abbrev uF(W:Wd)(f:PV->PV->Res PV):R2:=λx y H Q=>∃a G p q r,aC G H/\Top W a G H p x/\Top W a G H q y/\f p q=.ok r/\dW W G H r Q
set_option tactic.hygienic true in
def OB(hK:W.K=X.K)(o:KN):gB X (binaryOp (Vf o)) (uF W (binOp o)):=by
 intro j s k H x y v u Q I m t h;let(O,G,p,q,r,c,g,t2,e,d):=h;unfold binOp at e;split at e
 .cases e;exact OA j s k H x y v u Q I m t {_,_,g.int,t2.int,d.at c .i}
 .split at e
  .rename_i hl;cases e;exact xV j s k H x y v u Q I m t {_,_,g.str,t2.str,j4 hl,d.at c .s}
  .cases e
 .split at e
  .rename_i hl;cases e;let(a,B,rfl,A,w):=g.lst c;let(b,F,rfl,E,C):=t2.lst c;exact JA hK j s k H _ _ v u Q I m t {a,b,B,F,rfl,rfl,A,E,by rw [w.length,C.length];exact j4 hl,λp D=>d.lst c (w.append C) D}
  .cases e
 .split at e
  .rename_i hl;cases e;have L:=g;have M:=t2;let(a,B,rfl,A,w):=g.tup c;let(b,F,rfl,E,C):=t2.tup c;rw [hK] at A E;have m1:=w.length;have m2:=C.length;refine JB j s k H _ _ v u Q I m t {a,b,B,F,rfl,rfl,A,E,by rw [m1,m2];exact j4 hl,λz=>?_,λz=>?_,λp D=>d.tup c (w.append C) D}
   .subst z;rename_i xs N;have:xs=[]:=List.length_eq_zero_iff.mp m1.symm;subst this;exact d.at c (M.elim id λz=>z.elim)
   .subst z;rename_i xs N;have:N=[]:=List.length_eq_zero_iff.mp m2.symm;subst this;rw [hF] at d;exact d.at c (L.elim id λz=>z.elim)
  .cases e
 .cases e;exact OP j s k H x y v u Q I m t {_,_,g.int,t2.int,d.at c .i}
 .split at e
  .rename_i f;cases e;refine OM j s k H x y v u Q I m t {_,_,g.int,t2.int,?_,d.at c .i};rw [eH] at f;unfold bq at f;simp! [zza,zzN] at f;exact f
  .cases e
 .split at e
  .rename_i f;cases e;let(a,B,rfl,A,w):=g.lst c;exact JF hK j s k H _ _ v u Q I m t {a,_,B,rfl,t2.int,A,f.1,f.2.1,by rw [w.length];exact f.2.2,λp D=>d.lst c (w.rep _) D}
  .cases e
 .split at e
  .rename_i f;cases e;exact OL j s k H x y v u Q I m t {_,_,g.int,t2.int,f,d.at c .i}
  .cases e
 .split at e
  .rename_i f;cases e;exact JD j s k H x y v u Q I m t {_,_,g.int,t2.int,f,d.at c .i}
  .cases e
 .cases e
def KC:UE X (unaryOp .USub) (λx H Q=>∃(H0 G:Hp) (i:Int),aC G H/\Top W H0 G H (.int i) x/\dW W G H (.int (-i)) Q):=by intro a s b H x v Q I c h;let(H0,G,i,d,t,e):=h;exact P9 a s b H x v Q I c {i,t.int,e.at d .i}
abbrev m8:uu->CmpOp
 |.eq=>.Eq|.ne=>.NotEq|.lt=>.Lt|.le=>.LtE|.gt=>.Gt|.ge=>.GtE|.is=>.Is|.Ed=>.In|.Hi=>.NotIn|.Cm=>.NotEq
def qX{a:St}{s:ix}{k:Bool}(I:Inv X aa a H s)(c:aC G H)(d:dW W G H (.bl k) Q):EP X aa a Q (.bool k) s:={.bl k,H,I,rfl,d.at c .b}
def OC(hK:W.K=X.K)(hu:X.A.units+64<cLine):gB X (compareOp .Eq) (uF W gS):=by
 intro i s j H x y v u Q I c d h;let(k,G,p,q,r,b,f,t2,e,g):=h;unfold gS at e;split at e
 .rename_i a;rw [zza] at a;cases e;exact TF I hK b 8 (by lia) a.1 a.2 f t2 c d _ _ _ _ (qX I b g)
 .cases e
def OO(hK:W.K=X.K)(hu:X.A.units+64<cLine):gB X (compareOp .NotEq) (uF W iJ):=by
 intro i s j H x y v u Q I c d h;let(k,G,p,q,r,b,f,t2,e,g):=h;unfold iJ at e;split at e
 .rename_i a;rw [zza] at a;cases e;exact JZ I hK b 8 (by lia) a.1 a.2 f t2 c d _ _ _ _ (qX I b g)
 .cases e
theorem mB:∀{xs:List PV} {vs:List V} {ns:List Bool},ai W G xs vs->boolsOf xs=hI ns->vs=ns.map V.bl
 |[],vs,ns,h,e=>by simp! [ai] at h;subst h;cases e;rfl
 |.bl i::r,vs,ns,h,e=>by let(v,t,rfl,a,b):=h.bo;simp! [Rep] at a;subst a;unfold boolsOf at e;let(m,hm,rfl):=cP.mp e;rw [mB b hm];rfl|.aR::_,_,_,_,e=>by cases e
 |.int _::_,_,_,_,e=>by cases e
 |.str _::_,_,_,_,e=>by cases e
 |.tup _::_,_,_,_,e=>by cases e
 |.lst _::_,_,_,_,e=>by cases e
 |.exc _::_,_,_,_,e=>by cases e
 |.cq _ _::_,_,_,_,e=>by cases e
theorem pM:∀{xs:List PV} {vs:List V} {ns:List Str},ai W G xs vs->strsOf xs=hI ns->vs=ns.map V.str
 |[],vs,ns,h,e=>by simp! [ai] at h;subst h;cases e;rfl
 |.str i::r,vs,ns,h,e=>by let(v,t,rfl,a,b):=h.bo;simp! [Rep] at a;subst a;unfold strsOf at e;let(m,hm,rfl):=cP.mp e;rw [pM b hm];rfl|.aR::_,_,_,_,e=>by cases e
 |.int _::_,_,_,_,e=>by cases e
 |.bl _::_,_,_,_,e=>by cases e
 |.tup _::_,_,_,_,e=>by cases e
 |.lst _::_,_,_,_,e=>by cases e
 |.exc _::_,_,_,_,e=>by cases e
 |.cq _ _::_,_,_,_,e=>by cases e
def Res.of_ok{c:Type}{o:Option c}{a:c}(h:Res.of o=.ok a):o=hI a:=by
 cases o with
 |none=>cases h
 |some b=>cases h;rfl
def OJ(hK:W.K=X.K)(hu:X.A.units+64<cLine):gB X (compareOp .Lt) (uF W vP):=by
 intro a s c H x y v u Q I d f h;let(k,G,p,q,r,g,i,t2,e,j):=h;unfold vP at e;split at e
 .cases e;exact Tj a s c H x y v u Q I d f {_,_,i.int,t2.int,j.at g .b}
 .cases e
def OI:gB X (compareOp .LtE) (uF W vO):=by
 intro a s c H x y v u Q I d f h;let(k,G,p,q,r,g,i,t2,e,j):=h;unfold vO at e;split at e
 .cases e;exact Ti a s c H x y v u Q I d f {_,_,i.int,t2.int,j.at g .b}
 .cases e
def OE:gB X (compareOp .Gt) (uF W xU):=by
 intro a s c H x y v u Q I d f h;let(k,G,p,q,r,g,i,t2,e,j):=h;unfold xU at e;split at e
 .cases e;exact Th a s c H x y v u Q I d f {_,_,i.int,t2.int,j.at g .b}
 .cases e
def OD:gB X (compareOp .GtE) (uF W xS):=by
 intro a s c H x y v u Q I d f h;let(k,G,p,q,r,g,i,t2,e,j):=h;unfold xS at e;split at e
 .cases e;exact Tf a s c H x y v u Q I d f {_,_,i.int,t2.int,j.at g .b}
 .cases e
def Bi{p:PV}{x:V}(d:aC G H)(t:Top W H0 G H p x):decide (x=.aR)=zm p:=by
 cases p with
 |aR=>cases t.aR;rfl
 |bl b=>cases t.bl;rfl
 |int b=>cases t.int;rfl
 |str b=>cases t.str;rfl
 |tup b=>let(a,e,rfl,_):=t.tup d;rfl|lst b=>let(a,e,rfl,_):=t.lst d;rfl|cq b c=>let(a,e,rfl,_):=t.cq d;rfl|exc c=>
  rcases t with t|t
  .simp! [Rep] at t;let(a,C,rfl,_):=t;rfl
  .exact t.elim
 |obj n=>
  rcases t with t|t
  .simp! [Rep] at t;let(o,_,rfl):=t;rfl
  .exact t.elim
def OH:gB X (compareOp .Is) (uF W E8):=by
 intro c s d H x y v u Q I f g h;let(k,G,p,q,r,a,i,t2,e,j):=h;unfold E8 at e;split at e
 .cases e;refine OG c s d H x y v u Q I f g {t2.aR,?_};rw [Bi a i];exact j.at a .b
 .cases e
end
end Ci
namespace Ci
open L2 PySem.W
section
variable{W:Wd}
theorem Ai{b:Type}{k:Str}{p:b}:∀{ks:List Str} {vs:List b},bW ks vs k=hI p->p∈vs
 |[],_,h=>nomatch h|_::_,[],h=>nomatch h|a::ks,v::vs,h=>by
  unfold bW at h;split at h
  .cases h;exact c8
  .exact cz _ (Ai h)
def IL{E:St}{s:ix}(I:Inv X aa E H s)(hK:W.K=X.K)(F:aC G H)(hu:A.units+32<cLine){b:List Str}{vs':List PV}{c:List V}{f:List (Key×iv)}(C:ai W G vs' c)(i:vs'.all nc=ie)(L:KV (kz b c) f):
 ∀{ks:List Str} {vs:List PV} {us:List V} {xs:List (Key×iv)},ks.length=us.length->ai W G vs us->vs.all nc=ie->KV (kz ks us) xs->KeqHits A s f xs (qf b vs' ks vs):=by
 intro ks
 induction ks with
 |nil=>intro vs us xs hl l g r;rw [N7] at r;cases r;exact .nil
 |cons k ks j=>
  intro vs us xs hl l g r;cases us with
  |nil=>cases hl
  |cons u us=>
   cases vs with
   |nil=>simp! [ai] at l;cases l
   |cons n vs=>
    let(_,_,e,M,N):=l.bo
    cases e;rw [iV] at r;cases r with
    |@cons p q U qs h t=>
     let(D,rv):=h;let(Y,Z):=q;dsimp only at D rv;subst D;rw [List.all_cons,zza] at g;have rest:=j (zx6 hl) N g.2 t;have d:=L.val (ki k)
     rw [iG] at d;unfold qf;cases o:bW b vs' k with
     |none=>
      have O:bW b c k=h9:=by
       cases z:bW b c k with
       |none=>rfl|some w=>
        exfalso
        have B:∀(b:List Str) (vs':List PV) (c:List V),ai W G vs' c->bW b vs' k=h9->bW b c k≠hI w:=λb=>by
         induction b with
         |nil=>intro vs' c _ _ z;cases z
         |cons a b j=>
          intro vs' c l e z;cases c with
          |nil=>cases z
          |cons u c=>
           cases vs' with
           |nil=>simp! [ai] at l;cases l
           |cons v vs'=>
            let(_,_,P,_,Q):=l.bo;cases P;unfold bW at e z;split at e
            .cases e
            .rename_i R;rw [if_neg R] at z;exact j _ _ Q e z
        exact B b vs' c C o z
      rw [O] at d;cases ha:valueAt f (ki k) with
      |none=>exact .miss ha|some y=>rw [ha] at d;exact d.elim
     |some m=>
      let(w,S,T):=lM C o
      rw [S] at d;cases ha:valueAt f (ki k) with
      |none=>rw [ha] at d;exact d.elim|some y=>rw [ha] at d;exact .hit (y:=y) ha (yR I hK F DP (by show A.units+(9+1)<_;lia) g.1 (d0.mp i _ (Ai o)) (.inl M:Top W H G H n u) (.inl T) rv d) rest
def ON(hK:W.K=X.K)(hu:X.A.units+64<cLine):gB X (compareOp .NotEq) (uF W rC):=by
 intro P s R H x y v u Q I t w h;let(S,G,p,q,r,c,z,t2,e,B):=h;unfold rC at e;split at e
 .split at e
  .rename_i d;rw [zza] at d;cases e;let(a,T,rfl,k,f,C):=z.cq c;let(b,U,rfl,D,g,E):=t2.cq c;cases t;cases w;let(_,i,xs,m,F):=jg I.aM f;let(_,j,L,o,M):=jg I.aM g;have N:xs.length=_:=(m.length).symm.trans (iF k);have O:L.length=_:=(o.length).symm.trans (iF D);refine keq_ne i j F M (by lia) (λZ=>IL I hK c (by show X.A.units+1+32<_;lia) E d.2 o k C d.1 m) ?_;rw [N,O];exact qX I c B
  .cases e
 .cases e
end
end Ci
namespace Ci
open L2
section
variable{W:Wd}
def sR{O:St}{s:ix}(I:Inv X aa O H s)(hK:W.K=X.K)(t:aC G H){a:PV}{x:V}{w:iv}{us:List V}{d:List iv}(hu:A.units+32<cLine)(ha:nc a=ie)(P:ys.all nc=ie)(Q:Top W H0 G H a x)(R:RelV x w)(l:ai W G ys us)(r:Vals us d):
 ∃e:iv->Bool,(∀y∈d,SeqAt.EqAt A s y w (e y))/\∀(j:Nat) (y:iv) (p:PV),d[j]?=hI y->ys[j]?=hI p->e y=eqv p a:=by
 classical
 have c:∀(j:Nat) (y:iv),d[j]?=hI y->∃p u,ys[j]?=hI p/\us[j]?=hI u/\Rep W G p u/\RelV u y/\nc p=ie:=λj y e=>by have z:=(b4.mp e).1;have hl:=r.length;let(u,B,g):=r.get (i:=j) (x:=us[j]'(by omega)) (zzg (by omega));rw [e] at B;cases B;let(p,C,kp):=l.get (zzg (show j<us.length by omega));exact{p,_,C,zzg (by omega),kp,g,d0.mp P p (a6 C)}
 refine{λy=>if h:∃(j:Nat) (p:PV),d[j]?=hI y/\ys[j]?=hI p then eqv h.choose_spec.choose a else ig,λy S=>?_,λj y p D E=>?_}
 .let(j,z,e):=List.getElem_of_mem S;have F:d[j]?=hI y:=by rw [zzg z,e]
  let(p,u,T,h2,h3,h4,h5):=c j y F;have b:∃(j:Nat) (p:PV),d[j]?=hI y/\ys[j]?=hI p:=⟨j,p,F,T⟩;dsimp only;rw [dif_pos b];have sp:=b.choose_spec.choose_spec;let(f,L,g1,g2,k,m,o):=c _ y sp.1;have q:b.choose_spec.choose=f:=zzq (sp.2.symm.trans g1);rw [q];exact yR (H0:=H0) I hK t 9 (by omega) o ha (.inl k) Q m R
 .have b:∃(j:Nat) (p:PV),d[j]?=hI y/\ys[j]?=hI p:=⟨j,p,D,E⟩;dsimp only;rw [dif_pos b];let(p1,M,N,f2,U,Y,Z):=c j y D;rw [E] at N;cases N;have sp:=b.choose_spec.choose_spec;let(f,L,g1,g2,k,m,o):=c _ y sp.1;have q:b.choose_spec.choose=f:=zzq (sp.2.symm.trans g1);have e4:M=L:=Y.inj m;subst e4;rw [q,zW I hK t DP o Z (.inl k:Top W H0 G H f M) (.inl U)]
def L6{c:List iv}{e:iv->Bool}{f:PV->Bool}:c.length=ys.length->(∀(j:Nat) (y:iv) (p:PV),c[j]?=hI y->ys[j]?=hI p->e y=f p)->c.any e=ys.any f:=by
 intro hl h;have:c.map e=ys.map f:=iX (zx6 hl) λj x y d g=>by rw [dk] at d g;let(a,ha,rfl):=cP.mp d;let(b,i,rfl):=cP.mp g;exact h j a b ha i
 calc c.any e=(c.map e).any id:=by rw [List.any_map];rfl
  _=(ys.map f).any id:=by rw [this]
  _=ys.any f:=by rw [List.any_map];rfl
def C7{c:List iv}{e:iv->Bool}{f:PV->Bool}:c.length=ys.length->(∀(j:Nat) (y:iv) (p:PV),c[j]?=hI y->ys[j]?=hI p->e y=f p)->c.countP e=ys.countP f:=by
 intro hl h;have:c.map e=ys.map f:=iX (zx6 hl) λj x y d g=>by rw [dk] at d g;let(a,ha,rfl):=cP.mp d;let(b,i,rfl):=cP.mp g;exact h j a b ha i
 calc c.countP e=(c.map e).countP id:=by rw [List.countP_map];rfl
  _=(ys.map f).countP id:=by rw [this]
  _=ys.countP f:=by rw [List.countP_map];rfl
def OF(hK:W.K=X.K)(hu:X.A.units+64<cLine):gB X (compareOp .In) (uF W ql):=by
 intro w s B H x y v u Q I d f h;let(H0,G,p,q,r,c,g,t2,e,i):=h;have C:X.A.in1.units+32<cLine:=by show X.A.units+1+32<_;lia
 unfold ql at e;split at e
 .split at e
  .rename_i j;rw [zza] at j;cases e;let(b,m,rfl,o,t):=t2.tup c;rw [hK] at o;cases f;let(D,rv,z,_):=I.tuple o;let(e,E,F):=sR I hK c C j.1 j.2 g d t rv;refine SeqAt.in_tupleAt e (show s.heap.IsTuple b D.toArray from z) (λy L=>E y (zx6 L)) ?_;have:=L6 (by rw [<-rv.length,t.length]) F;rw [List.any_toArray,this];exact qX I c i
  .cases e
 .cases e;exact BF w s B H x y v u Q I d f {_,_,g.str,t2.str,i.at c .b}
 .let(k,hk,e):=Res.aK e;cases e;have hk:=fF (Res.of_ok hk);subst hk;obtain rfl:=g.str;let(a,m,rfl,n,hd,l):=t2.cq c;cases f;refine V2 (show X.A.units+1<cLine by lia) I (.inl {_,ki k,hd,rfl,rfl}) d λN M=>?_;rw [iG,iS k _ m n];exact qX M c i
 .cases e
def JE(hK:W.K=X.K)(hu:X.A.units+64<cLine):gB X (compareOp .NotIn) (uF W o6):=by
 intro m s o H x y v u Q I c d h;let(H0,G,p,q,r,b,f,t2,e,g):=h;have t:X.A.in1.units+32<cLine:=by show X.A.units+1+32<_;lia
 unfold o6 at e;split at e
 .let(k,hk,e):=Res.aK e;cases e;have hk:=fF (Res.of_ok hk);subst hk;obtain rfl:=f.str;let(a,i,rfl,n,hd,l):=t2.cq b;cases d;refine HQ (show X.A.units+1<cLine by lia) I (.inl {_,ki k,hd,rfl,rfl}) c λw j=>?_;rw [iG,iS k _ i n];exact qX j b g
 .cases e
theorem gU(hK:W.K=X.K)(hu:X.A.units+64<cLine):∀o:uu,gB X (compareOp (m8 o)) (uF W (cB o))
 |.eq=>OC hK hu|.ne=>OO hK hu|.lt=>OJ hK hu|.le=>OI|.gt=>OE|.ge=>OD|.is=>OH|.Ed=>OF hK hu|.Hi=>JE hK hu|.Cm=>ON hK hu
def yI{i:Int}{p:PV}(l:ai W G ps vs)(h:uw ps i=hI p):∃v,uw vs i=hI v/\Rep W G p v:=by
 unfold uw at h⊢;rw [l.length];cases e:NX ps.length i with
 |none=>rw [e] at h;cases h
 |some j=>rw [e] at h;exact l.sH h
def NY(hu:X.A.units+1<cLine):Qg X (λx y H Q=>∃a b k v,x=.ref a/\Rd H a (.dK b)/\y=kV k/\lI b k=hI v/\Q v H):=by intro c slice g s i H x y v u Q I j m h hs;let(a,b,k,z,rfl,hd,rfl,p,q):=h;cases j;let(_,_,t,d,e):=jg I.aM hd;let(f,w,B):=hW.some_of (v:=z) (o:=valueAt t k) (by rw [<-p];exact d.val k);exact PyProof.Rows.subscriptTail_builtinR (x:=f) e.typeIs PySem.F.slot_dict_getitem.lookup (wpAny_getItem_of (Q:=λr C=>r=f/\EP X g i Q r C) (kQ m) e.mapOf w {rfl,{z,H,I.tok _,B,q}}) hs
def Xf(hK:W.K=X.K)(hu:X.A.units+64<cLine):Qg X (uF W aB):=by
 intro b slice i s j H x y v u Q I m o h hs;let(H0,G,p,q,r,d,t,t2,e,z):=h;unfold aB at e;split at e
 .let(a,C,rfl,B,D):=t.lst d;let(w,f,g):=yI D (Res.of_ok e);exact I0 b slice i s j H _ y v u Q I m o {a,C,_,w,rfl,t2.int,wG hK B,f,z.at d g} hs
 .let(a,C,rfl,B,D):=t.tup d;rw [hK] at B;let(w,f,g):=yI D (Res.of_ok e);exact N0 b slice i s j H _ y v u Q I m o {a,C,_,w,rfl,t2.int,B,f,z.at d g} hs
 .split at e
  .rename_i hl;let(c,E,e):=Res.aK e;cases e;exact NZ b slice i s j H x y v u Q I m o {_,_,c,t.str,t2.int,j4 hl,Res.of_ok E,z.at d .s} hs
  .cases e
 .let(k,hk,F):=Res.aK e;have hk:=fF (Res.of_ok hk);subst hk;obtain rfl:=t2.str;let(a,L,rfl,n,hd,l):=t.cq d;let(w,f,g):=lM l (Res.of_ok F);exact NY (by lia) b slice i s j H _ _ v u Q I m o {a,_,ki k,w,rfl,hd,rfl,(by rw [iG];exact f),z.at d g} hs
 .cases e
def HP(a b:Option Int)(l:ai W G ps vs):ai W G (mV ps a b) (AM vs a b):=by unfold mV AM;rw [l.length];exact(l.drop _).take _
def X0(hK:W.K=X.K):L2.GV X (λx c d H Q=>∃H0 G p r,aC G H/\Top W H0 G H p x/\gX p c d=.ok r/\dW W G H r Q):=by
 intro j s k H x v m o c d q Q I t hs u pu h;let(H0,G,p,r,f,w,e,g):=h;unfold gX at e;split at e
 .cases e;have C:=w.elim id λz=>z.elim;let(a,b,rfl,y,A):=w.tup f;rw [hK] at y;by_cases hw:HT.dE b.length 0 c=0/\HT.dE b.length b.length d=b.length
  .have D:∀i:List PV,i.length=b.length->mV i c d=i:=λi B=>by
    unfold mV;rw [B,hw.1,hw.2,<-B];simp
   rw [D _ A.length.symm] at g;exact J9 j s k H _ v m o _ _ q Q I t hs u pu {a,b,rfl,y,hw,g.at f C}
  .exact PB j s k H _ v m o _ _ q Q I t hs u pu {a,b,rfl,y,hw,λp E=>g.tup f (HP _ _ A) E}
 .split at e
  .rename_i hl;cases e;exact Pz j s k H _ v m o _ _ q Q I t hs u pu {_,w.str,j4 hl,g.at f .s}
  .cases e
 .cases e
def Hm(W:Wd)(f:List PV->Res PV):List V->Hp->VK->Prop:=λb H Q=>∃H0 G a r,aC G H/\Paired (λv p=>Top W H0 G H p v) b a/\f a=.ok r/\dW W G H r Q
def jm{p:PV}(h:Paired (λv p=>Top W H0 G H p v) vs [p]):∃v,vs=[v]/\Top W H0 G H p v:=by
 cases h with
 |cons h t=>cases t;exact{_,rfl,h}
def Gq{p:PV}(h:Paired (λv p=>Top W H0 G H p v) vs [p,q]):∃v u,vs=[v,u]/\Top W H0 G H p v/\Top W H0 G H q u:=by
 cases h with
 |cons h t=>
  cases t with
  |cons a t2=>cases t2;exact{_,_,rfl,h,a}
def AA(hK:W.K=X.K):cG X (.builtin "len") (Hm W wR):=by
 intro f s g H xs j Q I r h;let(H0,G,q,w,b,tp,e,c):=h;unfold wR at e;split at e
 .cases e;let(v,rfl,t):=jm tp;let(a,k,rfl,d,m):=t.lst b;exact kq f s g H _ j Q I r {a,k,rfl,.inl (wG hK d),by rw [m.length];exact c.at b .i}
 .cases e;let(v,rfl,t):=jm tp;let(a,k,rfl,d,m):=t.tup b;rw [hK] at d;exact kq f s g H _ j Q I r {a,k,rfl,.inr d,by rw [m.length];exact c.at b .i}
 .split at e
  .rename_i hl;cases e;let(v,rfl,t):=jm tp;exact rW f s g H _ j Q I r {_,by rw [t.str],j4 hl,c.at b .i}
  .cases e
 .cases e;let(v,rfl,t):=jm tp;let(a,y,rfl,n,hd,l):=t.cq b;let(u,rfl,o):=vals1 r;cases o;exact Rz I hd λt z p=>{.int _,H,p,⟨t,rfl⟩,by rw [iF n];exact c.at b .i}
 .cases e
def Ax:cG X (.type "int") (Hm W CI):=by
 intro a s b H xs c Q I r h;let(H0,G,g,j,d,tp,e,f):=h;unfold CI at e;split at e
 .cases e;let(v,rfl,t):=jm tp;exact Aw a s b H _ c Q I r (.inr {_,by rw [t.bl],f.at d .i})
 .cases e
def AB:cG X (.type "str") (Hm W CJ):=by
 intro a s b H xs c Q I r h;let(H0,G,g,i,d,tp,e,f):=h;unfold CJ at e;split at e
 .split at e
  .rename_i hl;cases e;let(v,rfl,t):=jm tp;exact r6 a s b H _ c Q I r {_,by rw [t.int],hl,f.at d .s}
  .cases e
 .cases e
def uT(hK:W.K=X.K):cG X (.type "tuple") (Hm W nW):=by
 intro c s d H xs f Q I r h;let(H0,G,o,q,b,tp,e,g):=h;unfold nW at e;split at e
 .cases e;let(v,rfl,t):=jm tp;let(a,i,rfl,j,k):=t.lst b;exact qa c s d H _ f Q I r {a,i,rfl,.inl {wG hK j,λp m=>g.tup b k m}}
 .cases e
def Av(d:X.calm=ie)(hK:W.K=X.K):cG X (.builtin "all") (Hm W CG):=by
 intro f s g H xs i Q I r h;let(H0,G,p,q,c,tp,e,j):=h;unfold CG at e;split at e
 .let(bs,k,e):=Res.aK e;cases e;let(v,rfl,t):=jm tp;let(a,u,rfl,m,o):=t.lst c;cases mB o (Res.of_ok k);exact CT d f s g H _ i Q I r {a,bs,rfl,wG hK m,j.at c .b}
 .cases e
def UA(W:Wd)(f:List PV->Res PV):V->List V->Hp->VK->Prop:=λx a H Q=>Hm W f (x::a) H Q
theorem Ad:∀{ys:List Str} {a:List iv},Vals (ys.map V.str) a->PyProof.Rows.StrsAre a ys
 |[],_,.nil=>.nil|y::ys,_,.cons r t=>by let(tk,rfl):=r;exact .cons y tk (Ad t)
def ER(hK:W.K=X.K):QM X "str.join" (UA W vD):=by
 intro p s q H x xs v w Q I d r h;let(H0,G,y,A,b,tp,e,f):=h;unfold vD at e;split at e
 .let(B,g,e):=Res.aK e;split at e
  .rename_i c;cases e;let(C,D,i,t,t2):=Gq tp;cases i;cases t.str;let(E,rfl):=d;let(a,F,rfl,j,m):=t2.lst b;let(u,rfl,o):=Vals.one r;cases o;cases pM m (Res.of_ok g);let(L,rv,z,_):=I.list (wG hK j);refine PyProof.Rows.join_listW z.isList (by simpa using Ad rv) c.1 (d1 c.2 ↑2) λM k=>{.str _,H,I.tok _,{_,rfl},f.at b .s}
  .cases e
 .cases e
def xK(hK:W.K=X.K)(hu:X.A.units+64<cLine):QM X "list.count" (UA W kR):=by
 intro B s C H x xs v D Q I g r h;let(H0,G,E,L,b,tp,e,j):=h;unfold kR at e;split at e
 .split at e
  .rename_i c;rw [zza] at c;cases e;let(M,N,k,t,t2):=Gq tp;cases k;let(a,O,rfl,m,d):=t.lst b;cases g;let(u,rfl,o):=Vals.one r;let(p,n,rv,hl,_,e):=Bq hK I m;let(f,q,w):=sR (A:=X.A.in1) I hK b (by show X.A.units+1+32<_;lia) c.1 c.2 t2 o d rv;refine PySem.call_meets PySem.F.slot_list_count {_,e,rfl} PySem.F.entry_list_count (PySem.F.args_list_count_2 _ _) (SeqAt.list_countAt a p.toArray n h9 #[] u f) {e,λy z=>q y (zx6 z),?_};refine{.int _,H,I.tok _,{_,rfl},?_};rw [C7 (by rw [<-hl,d.length]) w];exact j.at b .i
  .cases e
 .cases e
set_option tactic.hygienic true in
def Bu(hK:W.K=X.K)(hu:X.A.units+64<cLine):QM X "list.index" (UA W oS):=by
 intro T s U H x xs v V Q I B r h;let(H0,G,Y,Z,g,tp,e,C):=h;unfold oS at e;split at e
 .rename_i b w;split at e
  .rename_i d;rw [zza,zza] at d;split at e
   .rename_i j k;cases e;let(v1,u1,D,t,t2):=Gq tp;cases D;let(a,vs,rfl,E,o):=t.lst g;cases B;let(u,rfl,L):=Vals.one r;let(c,n,rv,hl,_,e):=Bq hK I E;have p:c.length=b.length:=by rw [<-hl,o.length]
    have Zm:b.length<1000:=zzY d.2;let(f,M,q):=sR (A:=X.A.in1) I hK g (by show X.A.units+1+32<_;lia) d.1.1 d.1.2 t2 L o rv;rw [List.findIdx?_eq_some_iff_getElem] at k;let(N,O,P):=k;refine PySem.call_meets PySem.F.slot_list_index {_,e,rfl} PySem.F.entry_list_index (PySem.F.args_list_index_2 _ _) (SeqAt.list_indexAt a c.toArray n h9 #[] u f j (by simpa using (by lia:j<c.length)) (by lia) ?_ λm ZI R=>?_) {e,λy S=>M y (zx6 S),{.int _,H,I.tok _,{_,rfl},C.at g .i}}
    .have:=q j (c[j]'(by lia)) b[j] (zzg (by lia)) (zzg N);simpa using this.trans O
    .have hm:m<b.length:=by lia
     have:=q m (c[m]'(by lia)) b[m] (zzg (by lia)) (zzg hm);have z:=P m R;simp! [Bool.not_eq_true] at z;simpa using this.trans z
   .cases e
  .cases e
 .cases e
abbrev yw:Ty->String
 |.int=>"int"|.bool=>"bool"|.str=>"str"|.tuple=>"tuple"
def SF{K:zz8}(t:Ty):Cw.Hg K "NoneType" (yw t) ig/\(∀b,Cw.Hg K "bool" (yw t) (oO t (.bl b)))/\(∀i,Cw.Hg K "int" (yw t) (oO t (.int i)))/\(∀z,Cw.Hg K "str" (yw t) (oO t (.str z)))/\(∀z,Cw.Hg K "tuple" (yw t) (oO t (.tup z)))/\(∀z,Cw.Hg K "list" (yw t) (oO t (.lst z))):=by
 cases t
 all_goals refine{?_,λb=>?_,λb=>?_,λb=>?_,λb=>?_,λb=>?_}
 all_goals first
  |exact Cw.Ex _
  |exact Cw.Eu (b:=ig) ↑1 ↑1 ↑1
  |exact Cw.Eu (b:=ie) ↑1 ↑1 ↑1
def CU(hK:W.K=X.K)(t:Ty):cG X (.builtin (zu 15)) (λxs H Q=>∃v H0 G p r,xs=[v,.ty (yw t)]/\aC G H/\Top W H0 G H p v/\ni t p=.ok r/\dW W G H r Q):=by
 intro N s O H xs P Q I q h;let(v,H0,G,p,r,rfl,f,tp,e,g):=h;let(u,R,rfl,i,k):=Vals.two q;cases k;let(w,k2,y,A,B,C):=SF (K:=X.K) t
 cases p with
 |exc c=>cases e
 |obj c=>cases e
 |cq a b=>cases e
 |aR=>cases e;cases tp.aR;cases i;cases t<;>exact PySem.W.kia_one PySem.W.kitx_none I.jZ True.intro w nofun λd=>⟨.bl _,H,I.tok d,rfl,g.at f .b⟩
 |bl b=>cases e;cases tp.bl;cases i;exact PySem.W.kia_one PySem.W.kitx_bool I.jZ True.intro (k2 b) nofun λd=>⟨.bl _,H,I.tok d,rfl,g.at f .b⟩
 |int b=>cases e;cases tp.int;let(D,rfl):=i;exact PySem.W.kia_one PySem.W.kitx_int I.jZ True.intro (y b) nofun λd=>⟨.bl _,H,I.tok d,rfl,g.at f .b⟩
 |str b=>cases e;cases tp.str;let(D,rfl):=i;exact PySem.W.kia_one PySem.W.kitx_str I.jZ True.intro (A b) nofun λd=>⟨.bl _,H,I.tok d,rfl,g.at f .b⟩
 |tup b=>cases e;let(a,E,rfl,j,F):=tp.tup f;rw [hK] at j;cases i;let(L,_,(o,m,M,_),_):=I.tuple j;exact PySem.W.kia_one PySem.W.kitx_tuple I.jZ ⟨o,m,M⟩ (B b) nofun λd=>{.bl _,H,I.tok d,rfl,g.at f .b}
 |lst b=>cases e;let(a,E,rfl,j,F):=tp.lst f;cases i;let(L,n,_,_,_,m):=Bq hK I j;exact PySem.W.kia_one PySem.W.kitx_list I.jZ {_,m,rfl} (C b) nofun λd=>{.bl _,H,I.tok d,rfl,g.at f .b}
def Km{e:ly}(l:ai W G ps vs):ai W G (uD .aR ps e) (uD V.aR vs e):=by
 unfold uD;rw [l.length];split
 .exact l
 .have go:∀a:List Nat,ai W G (a.map λi=>ps.getD i .aR) (a.map λi=>vs.getD i V.aR):=by
   intro a
   induction a with
   |nil=>exact .nil|cons i a f=>
    refine .cons ?_ f;dsimp only;by_cases b:i<ps.length
    .let(v,g,rv):=l.sH (zzg b);have c:ps.getD i .aR=ps[i]:=by simp [b]
     have d:vs.getD i V.aR=v:=by simp [g]
     rw [c,d];exact rv
    .have c:ps.getD i .aR=.aR:=by simp [Nat.le_of_not_lt b]
     have d:vs.getD i V.aR=.aR:=by simp [Nat.le_of_not_lt (l.length▸b)]
     rw [c,d];exact .n
  exact go _
theorem vz:∀ks:List Str,ai W G (ks.map gP) (ks.map V.str)
 |[]=>.nil|k::ks=>.cons .s (vz ks)
set_option tactic.hygienic true in
def rZ(hK:W.K=X.K)(f:X.calm=ie):cG X (.builtin "sorted") (Hm W kn):=by
 intro g s i H xs j Q I r h;let(H0,G,o,q,b,tp,e,k):=h;unfold kn at e;split at e
 .rename_i c u;split at e
  .rename_i m;cases e;let(v,rfl,t):=jm tp;let(a,w,rfl,n,hd,l):=t.cq b;exact rY f g s i H _ j Q I r {a,_,c,rfl,hd,zw n,by rw [iF n];exact m,λp d=>k _ _ _ (.new b d) (.l (.inl (.inl aq)) (ai.same (bj (b.free d)) _ (Km (vz c))))}
  .cases e
 .cases e
theorem FF{K:zz8}(hK:W.K=K)(d:aC G H):∀{xs:List PV} {ps:List (Str×PV)} {vs:List V},vV xs=hI ps->ai W G xs vs->∃us,ai W G (ps.map (·.2)) us/\Ao K H vs ((ps.map λp=>ki p.1).zip us)
 |[],_,_,e,l=>by cases e;simp! [ai] at l;subst l;exact{[],.nil,.nil}
 |x::xs,ps,vs,e,l=>by
  let(v,s,rfl,f,g):=l.bo;unfold vV at e;split at e
  .rename_i a;cases a
  .rename_i a;cases a;let(k,hk,e):=d6.mp e;let(r,hr,rfl):=cP.mp e;let(us,h,i):=FF hK d hr g;simp! [Rep] at f;let(q,t,rfl,j,b):=f;let(w1,u,rfl,c,b):=b.bo;let(m,o,rfl,k2,b):=b.bo;simp! [ai] at b;subst b;rw [fF hk] at c;simp! [gP,Rep] at c;subst c;refine{m::us,.cons k2 h,.cons {q,rfl,?_} i};rw [<-hK];exact aC.tup d j.sq
  .cases e
theorem l8:∀(ps:List (Str×PV)) {us:List V} {ks:List Str} {qs:List PV} {ws:List V},ai W G (ps.map (·.2)) us->ks.length=ws.length->ai W G qs ws->∃a,(bP ps ks qs).1.length=a.length/\ai W G (bP ps ks qs).2 a/\cL (kz ks ws) ((ps.map λp=>ki p.1).zip us)=kz (bP ps ks qs).1 a
 |[],us,ks,qs,ws,_,n,l=>⟨ws,n,l,rfl⟩|p::ps,us,ks,qs,ws,b,n,l=>by let(u,h,rfl,c,d):=b.bo;let(a,e,f,g):=l8 ps d (o9 n p.1 u) (tU (ks:=ks) (k:=p.1) l c);refine{a,e,f,?_};show cL (putK (kz ks ws) (ki p.1) u) _=_;rw [xB n];exact g
def u6(hK:W.K=X.K){xs:List V}(c:aC G H)(tp:Paired (λv p=>Top W H0 G H p v) xs ps)(e:g6 ps=.ok q):∃ks qs,q=.cq ks qs/\∃a vs d,xs=[V.ref a]/\il X.K H a vs/\Ao X.K H vs d/\∃b,ks.length=b.length/\ai W G qs b/\cL [] d=kz ks b:=by
 unfold g6 at e;split at e
 .let(ps,f,e):=Res.aK e;cases e;let(v,rfl,t):=jm tp;let(a,vs,rfl,g,h):=t.lst c;let(ws,lw,pw):=FF hK c (Res.of_ok f) h;let(b,i,j,k):=l8 ps (ks:=[]) (qs:=[]) (ws:=[]) lw rfl .nil;exact{_,_,rfl,a,vs,_,rfl,wG hK g,pw,b,i,j,k}
 .cases e
end
end Ci
namespace L2
open PySem.Spec PyProof.Rows
open PySem.AutoSeq1 (wpAny_loadPart')
section
variable{w:kd}{E:lr}{s:ix}{jt tu:i1}{i:Nat}{aw:Array iv}{Q:lr}
def m7{x:iv}(c:s.heap.IsTupleIter jt tu i)(d:s.heap.IsTuple tu aw)(e:aw[i]?=hI x)
 (k:∀g,g.IsTupleIter jt tu (i+1)->kA.SameBut jt s.heap g->Q x {s with heap:=g}):jW (kr prog w) A (lb.SmallTypes.nextOf (.ref jt)) Q E s:=by
 let(ob,b,f,a):=id c;let(m,h,_,o,j):=d;unfold lb.SmallTypes.nextOf;refine ar (wpAny_callSpecial?_slot (name:=Str.ofString (zu 46)) c.typeIs F.slot_tuple_iterator_next (wpAny_call_entry F.slot_tuple_iterator_next c.typeIs F.entry_tuple_iterator_next ?_ (F.args_tuple_iterator_next_1 _)));show jW _ _ (field (.ref jt) 0>>=_) _ _ s;refine ar (wpAny_field b a (x:=.ref tu) rfl ?_);show jW _ _ (if(iv.ref tu==iv.none)=ie then _ else _) _ _ s;rw [if_neg (show¬((iv.ref tu==iv.none)=ie) from zzf)];show jW _ _ (field (.ref jt) 1>>=_) _ _ s;refine ar (wpAny_field b a (x:=.int i 0) rfl ?_);show jW _ _ (seqItems? (.ref tu)>>=_) _ _ s;refine ar (wpAny_seqItems h j ?_);simp! [hB,e];refine ar (wpAny_setField b a (by simp) (bc {x,rfl,bc (k _ ?_ (e6 ..))}));exact{_,kA.get?_update_self _ b (Obj.isFreed_of_fields (Obj.data_mapFields a _)),(Obj.cls_mapFields ..).trans f,by rw [Obj.data_mapFields a];simp [rawInt]}
def oV(f:A.handled=h9)(b:s.heap.IsTupleIter jt tu i)(h:s.heap.IsTuple tu aw)(j:aw[i]?=h9)
 (k:∀g e,kA.ExtBut jt s.heap g->(∃o,g.get? e=hI o/\o.cls=.type (zu 21))->E (.ref e) {s with heap:=g}):jW (kr prog w) A (lb.SmallTypes.nextOf (.ref jt)) Q E s:=by
 let(ob,c,r,d):=id b;let(t,p,_,u,q):=h;unfold lb.SmallTypes.nextOf;refine ar (wpAny_callSpecial?_slot (name:=Str.ofString (zu 46)) b.typeIs F.slot_tuple_iterator_next (wpAny_call_entry F.slot_tuple_iterator_next b.typeIs F.entry_tuple_iterator_next ?_ (F.args_tuple_iterator_next_1 _)));show jW _ _ (field (.ref jt) 0>>=_) _ _ s;refine ar (wpAny_field c d (x:=.ref tu) rfl ?_);show jW _ _ (if(iv.ref tu==iv.none)=ie then _ else _) _ _ s;rw [if_neg (show¬((iv.ref tu==iv.none)=ie) from zzf)];show jW _ _ (field (.ref jt) 1>>=_) _ _ s;refine ar (wpAny_field c d (x:=.int i 0) rfl ?_);show jW _ _ (seqItems? (.ref tu)>>=_) _ _ s;refine ar (wpAny_seqItems p q ?_);simp! [hB,j];refine ar (wpAny_rule (ar (wpAny_setField c d (by simp) ?_)));show jW _ _ (newExc (.type (zu 21)) []>>=_) _ _ _;refine ar ?_;simp! [newExc,newTuple];refine ar (wpAny_newObj_type ?_ (by size_fits));refine ar (m:=firstArgMember _ _) (wpAny_of_eq (a:=iv.none) (by first|rfl|(simp! [firstArgMember];rfl)) ?_);refine wpAny_newObj_type ?_ (by size_fits);simp! [raiseNew];refine ar (wpAny_handled ?_)
 first|rw [show A.in1.handled=h9 from f]|rw [f]
 refine ar (bc (wpAny_throw ?_));exact k _ _ (((e6 ..).extBut.push _).push _) {_,d4 _ rfl,rfl}
end
theorem AV{w:kd}(j:A.handled=h9)(a b:i1)(k:b≠a)(c:Array iv):
 Draws prog w A a [a,b] c.size (λi v=>c[i]?=hI v) (λi h=>h.IsTupleIter a b i/\h.IsTuple b c) where
 live:=λZ Z st=>let⟨o,m,_⟩:=st.1;⟨o,m⟩
 frame:=λZ Z Z st hk=>{st.1.at λo e=>hk a (by simp) o e,by let(o,e,r):=st.2;exact{o,hk b (by simp) o e,r}}
 item:=λi s Q E d st p=>m7 st.1 st.2 (x:=c[i]) (by simp [d]) λg q f=>p _ g s.toks (by simp [d]) {q,by let(o,e,r):=st.2;exact{o,f.extBut _ _ k e,r}} f
 done:=λs Q E st t=>oV j st.1 st.2 (by simp) t
section
variable{s:ix}{ch:List i1}
def Inv.moved{tk:Nat}(I:zv1 s)(hf:∀b∈ch,jr X aa H b)(d:∀b o,b∉ch->s.heap.get? b=hI o->h'.get? b=hI o):Inv X aa σ H {s with heap:=h',toks:=tk}:=by
 have f:∀b o,H b=hI o->b∉ch:=λb o q z=>by rw [(hf b z).1] at q;cases q
 refine I.step (g':=s.gens) (d':=s.drawn) (ch:=ch) (λb g=>?_) (λb o Z Z a q Z=>d b o a q) (λb o Z Z a q Z=>{o.slots,d b o a q}) (λZ Z Z Z n=>n)
  (λb o a q=>{o,d b o a q}) (λb xs q=>q) (λb o u q=>q) (λb w q=>{#[],by rw [q];simp}) (λm hm=>?_) (λb o q=>?_) I.bare
 .let(y,h,A,i,j,k):=hf b g;exact⟨i,h,j,k⟩
 .let(o,p,t,q,r):=hm;exact{o,p,t,d _ o (λz=>(hf _ z).2.1 rfl) q,r}
 .refine(I.aM b o q).fW (λc v a z=>d c v ?_ z) (λc z=>z) λc xs z=>z
  rcases a with e|e
  .rw [e];exact f b o q
  .exact f c _ e
end
structure Zd where
 it:i1
 fp:List i1
 n:Nat
 P:Nat->iv->Prop
 St:Nat->kA->Prop
structure QX(prog:jX)(w:kd)(A:ku)(z TI TO:i1)(ds:List Zd):Prop where
 D:∀d∈ds,Draws prog w A d.it d.fp d.n d.P d.St
 zf:∀d∈ds,z∉d.fp/\TO∉d.fp/\d.it≠z/\d.it≠TO/\d.it≠TI
 ap:ds.Pairwise λa b=>a.it∉b.fp/\b.it∉a.fp
 tz:TI≠z/\TO≠z/\TI≠TO
noncomputable abbrev ju(h:kA)(T:i1)(xs:Array iv):Prop:=h.get? T=hI {cls:=.type "tuple",data:=.seq xs}
section
variable{w:kd}{E:lr}{s:ix}{z TI TO:i1}{ds:List Zd}{k:Nat}
def VJ(z TI TO:i1)(k:Nat)(e:kA)(ds:List Zd)(rest:List (iv×Nat))(h:kA):Prop:=
 ∃a b xs f,ds=a++b/\rest=(b.map λd=>iv.ref d.it).zipIdx a.length/\Paired (λd x=>d.P k x) a xs/\f.length=b.length/\IsZip h z TI TO .ellipsis/\ju h TO (xs++f).toArray/\
  (∀d∈a,d.St (k+1) h)/\(∀d∈b,d.St k h)/\h.objs.size=e.objs.size/\∀c o,c≠z->c≠TO->(∀d∈ds,c≠d.it)->e.get? c=hI o->h.get? c=hI o
def wB{Q:Fin->ix->Prop}(Z:QX prog w A z TI TO ds)(hl:ds.length<=9)(g7:ds≠[])(hz:IsZip s.heap z TI TO .none)(W:ju s.heap TI (ds.map λd=>iv.ref d.it).toArray)(X:∃c,ju s.heap TO c/\c.size=ds.length)(hs:∀d∈ds,d.St k s.heap/\k<=d.n)
 (hQ:∀h' tk xs,Paired (λd x=>d.P k x) ds xs->IsZip h' z TI TO (rawInt (zz9 s))->(∃c,ju h' TO c/\c.size=ds.length)->(∀d∈ds,d.St (k+1) h')->ju h' (zz9 s) xs.toArray->h'.objs.size=(zz9 s)+1->
  (∀c o,c≠z->c≠TO->(∀d∈ds,c≠d.it)->s.heap.get? c=hI o->h'.get? c=hI o)->Q (.done (.ret (.ref (zz9 s)))) {s with heap:=h',toks:=tk})
 (hE:∀h' tk e,(∃d∈ds,d.n<=k)->(∀c o,c≠z->c≠TO->(∀d∈ds,c≠d.it)->s.heap.get? c=hI o->h'.get? c=hI o)->(∃o,h'.get? e=hI o/\o.cls=.type (zu 21))->E (.ref e) {s with heap:=h',toks:=tk}):
 jW (kr prog w) A (lb.«zip.__next__» {[.ref z],[]}) Q E s:=by
 let(t1,t2,t3):=Z.tz;show jW _ _ (field (.ref z) 2>>=_) _ _ _;refine ar (wpAny_field hz rfl (x:=.bool ig) rfl ?_);show jW _ _ (field (.ref z) 3>>=_) _ _ _;refine ar (wpAny_field hz rfl (x:=.ref TI) rfl ?_);refine ar (wpAny_seqItems W rfl ?_);have WD:(ds.map λd=>iv.ref d.it).toArray.isEmpty=ig:=by cases ds<;>simp_all
 simp! [WD,eg,if_false];show jW _ _ (lb.SmallTypes.ownedTupleIsFree (.ref z)>>=_) _ _ _;refine ar ?_;unfold lb.SmallTypes.ownedTupleIsFree;refine ar (wpAny_field hz rfl (x:=.none) rfl (bc ?_));simp! [if_true];refine ar (wpAny_rule ?_);refine ar (wpAny_field hz rfl (x:=.ref TO) rfl ?_);refine ar (wpAny_setField_rec hz (by simp) λr g f=>?_);replace g:IsZip r z TI TO .ellipsis:=g;refine ar ?_;let(c,hc,q9):=X;have SE:∀{h h':kA},kA.SameBut z h h'->∀d∈ds,∀{i},d.St i h->d.St i h':=λG d hd i q=>(Z.D d hd).frame _ _ _ q λb t o e=>G.extBut b o (λx=>(Z.zf d hd).1 (x▸t)) e;refine wpAny_forIn_list _ (λrest b Y=>b=⟨h9,PUnit.unit⟩/\∃h tk,Y={s with heap:=h,toks:=tk}/\VJ z TI TO k s.heap ds rest h) _ ?_ ?_ _ _ {rfl,r,s.toks,rfl,[],ds,[],c.toList,rfl,rfl,.nil,zx6 q9,g,?_,(λd hd=>nomatch hd),(λd hd=>SE f d hd (hs d hd).1),f.1,λc o h1 _ _ e=>f.extBut _ _ h1 e}
 .rintro ⟨Vb,j⟩ rest b Y ⟨rfl,h,tk,rfl,H,lf,xs,O,rfl,hr,pr,u,B,C,sd,U,F,R⟩
  cases lf with
  |nil=>cases hr
  |cons d lf=>
   simp! [a8,List.zipIdx_cons,List.cons.injEq,Prod.mk.injEq] at hr;let((rfl,rfl),rfl):=hr;have hd:d∈H++d::lf:=by simp
   have D:=Z.D d hd;let(f1,f2,f3,f4,f5):=Z.zf d hd
   refine ar (wpAny_onRaise ?_);show jW _ _ (lb.SmallTypes.nextOf (.ref d.it)>>=_) _ _ _;have Zf:∀a∈H++lf,d.it∉a.fp/\a.it∉d.fp:=λa ha=>by
    have q:=List.pairwise_append.1 Z.ap
    rcases List.mem_append.1 ha with ha|ha
    .exact(q.2.2 a ha d (c8 ..)).symm
    .exact(List.pairwise_cons.1 q.2.1).1 a ha
   by_cases hk:k<d.n
   .refine ar (D.item k _ _ _ hk (U d (c8 ..)) λx L tk2 px Hk G=>bc ?_);have NO:ju L TO (xs++O).toArray:=G.extBut _ _ (Ne.symm f4) C;refine ar (wpAny_seqItems NO rfl ?_);have lx:=Paired.length pr
    obtain⟨y,p,rfl⟩:∃y p,O=y::p:=by cases O with|nil=>cases u|cons y p=>exact⟨y,p,rfl⟩
    have Sr:(xs++y::p).toArray.size<=sizeLine:=by
     have:(xs++y::p).toArray.size<=9:=by simp! [a5,c5,c4] at u hl⊢;lia
     exact d1 this ↑2
    refine ar (wpAny_updateSeq NO rfl ?_ Sr (by rw [Array.size_setIfInBounds];exact Nat.le_succ_of_le Sr));refine ar (wpAny_letGo (bc ?_));have M:kA.SameBut TO L (L.update TO (Obj.mapSeq λv=>v.setIfInBounds H.length x)):=e6 ..
    have WW:ju (L.update TO (Obj.mapSeq λv=>v.setIfInBounds H.length x)) TO (xs++[x]++p).toArray:=by
     show kA.get? _ TO=_;rw [kA.get?_update_self _ NO rfl];have:(xs++y::p).toArray.setIfInBounds H.length x=(xs++[x]++p).toArray:=by rw [List.setIfInBounds_toArray,lx,List.set_append_right _ _ (a7 _),Nat.sub_self,List.set_cons_zero];simp
     have ls:((xs++[x]++p).toArray.size==(xs++y::p).toArray.size)=ie:=by simp
     simp! [Obj.mapSeq,this,ls,if_true]
    refine{rfl,_,tk2,rfl,H++[d],lf,xs++[x],p,by simp,by simp,Paired.snoc pr px,zx6 u,?_,WW,λa ha=>?_,λa ha=>?_,?_,λc o c1 N I e=>?_}
    .exact M.extBut _ _ (Ne.symm t2) (G.extBut _ _ (Ne.symm f3) B)
    .rcases List.mem_append.1 ha with ha|ha
     .refine(Z.D a (by simp [ha])).frame _ _ _ (sd a ha) λb t o e=>M.extBut _ _ (λq=>(Z.zf a (by simp [ha])).2.1 (q▸t)) (G.extBut _ _ (λq=>(Zf a (by simp [ha])).1 (q▸t)) e)
     .rw [ej.1 ha];exact D.frame _ _ _ Hk λb t o e=>M.extBut _ _ (λq=>f2 (q▸t)) e
    .refine(Z.D a (by simp [ha])).frame _ _ _ (U a (cz _ ha)) λb t o e=>M.extBut _ _ (λq=>(Z.zf a (by simp [ha])).2.1 (q▸t)) (G.extBut _ _ (λq=>(Zf a (by simp [ha])).1 (q▸t)) e)
    .rw [M.1,G.1,F]
    .exact M.extBut _ _ N (G.extBut _ _ (I d hd) (R c o c1 N I e))
   .have hn:d.n=k:=Nat.le_antisymm (Nat.le_of_not_lt hk) (hs d hd).2;refine ar (D.done _ _ _ (by rw [hn];exact U d (c8 ..)) λL e eb he=>?_);let(oe,K,Se):=he;have Hf:IsZip L z TI TO .ellipsis:=eb _ _ (Ne.symm f3) B;have hez:e≠z:=λq=>by subst q;rw [Hf] at K;cases K;simp at Se
    exact wpAny_setField_rec Hf (by simp) λh3 _ ZL=>hE h3 tk e {d,hd,Nat.le_of_eq hn} (λc o c1 N I q=>ZL.extBut _ _ c1 (eb _ _ (I d hd) (R c o c1 N I q))) {oe,ZL.extBut _ _ hez K,Se}
 .rintro b Y ⟨rfl,h,tk,rfl,H,lf,xs,O,rfl,hr,pr,u,B,C,sd,U,F,R⟩
  obtain rfl:lf=[]:=by cases lf with|nil=>rfl|cons d lf=>cases hr
  obtain rfl:O=[]:=List.eq_nil_of_length_eq_zero u;simp! [hF] at C hQ Z R hl;have lx:=Paired.length pr;refine ar (wpAny_seqItems C rfl ?_);refine ar (wpAny_newTuple ?_ (d1 (m:=9) (by show xs.length<=9;lia) ↑2));show jW _ _ (lb.SmallTypes.ownedTupleHandOut (.ref z) (.ref h.objs.size)>>=_) _ _ _;refine ar ?_;unfold lb.SmallTypes.ownedTupleHandOut;have S:z<h.objs.size:=c6 B;have W2:IsZip (h.push {cls:=.type "tuple",data:=.seq xs.toArray}) z TI TO .ellipsis:=aT _ B;refine ar (wpAny_setField_rec W2 (by simp) λh7 W3 WT=>?_);replace W3:IsZip h7 z TI TO (rawInt h.objs.size):=W3;refine wpAny_setField_rec W3 (by simp) λT V WU=>?_;replace V:IsZip T z TI TO (rawInt h.objs.size):=V;have up:∀c o,c≠z->h.get? c=hI o->T.get? c=hI o:=λc o c1 e=>WU.extBut _ _ c1 (WT.extBut _ _ c1 (aT _ e));have Zv:ju T h.objs.size xs.toArray:=WU.extBut _ _ (Nat.ne_of_gt S) (WT.extBut _ _ (Nat.ne_of_gt S) (d4 _ rfl));have ZJ:T.objs.size=h.objs.size+1:=by rw [WU.1,WT.1,kA.size_push]
  rw [F] at V Zv ZJ;refine bc ?_;show Q (.done (.ret (.ref h.objs.size))) _;rw [F];exact hQ T tk xs pr V {_,up _ _ t2 C,by simp [lx]} (λd hd=>(Z.D d hd).frame _ _ _ (sd d hd) λb t o e=>up b o (λq=>(Z.zf d hd).1 (q▸t)) e) Zv ZJ λc o c1 N I e=>up c o c1 (R c o c1 N I e)
 .show ju r TO _;exact f.extBut _ _ t2 (zx6 hc)
variable{ch:List i1}
def Inv.EO{tk:Nat}{xs:List V}{ob:Obj}{n:Nat}(I:zv1 s)(hf:∀b∈ch,jr X aa H b)(e:∀b o,b∉ch->s.heap.get? b=hI o->h'.get? b=hI o)
 (h:h'.get? (zz9 s)=hI ob) (a:ob.cls=.type "tuple") (hd:ob.data=.seq us.toArray n) (i:Vals xs us) (hl:xs.length<=kB):Inv X aa σ (upd H (zz9 s) (.tup xs)) {s with heap:=h',toks:=tk}:=by
 have d:∀b o,H b=hI o->b∉ch/\b≠(zz9 s):=λb o q=>{(λz=>(by rw [(hf b z).1] at q;cases q)),d8 (I.aM.lt q)}
 refine I.step (g':=s.gens) (d':=s.drawn) (ch:=ch) (λb f=>?_) (λb o Z Z a q Z=>e b o a q) (λb o Z Z a q Z=>{o.slots,e b o a q}) (λb o Z q j=>by rw [ag (d8 (c6 q))];exact j)
  (λb o a q=>{o,e b o a q}) (λb xs q=>by rw [ag (d b _ q).2];exact q) (λb o u q=>by rw [ag (d b _ q).2];exact q) (λb F q=>{#[],by rw [ag (d b _ q).2,q];simp}) (λm hm=>?_) (λb o q=>?_) I.bare
 .let(G,p,K,t,y,B):=hf b f;exact⟨t,p,y,B⟩
 .let(o,C,D,q,r):=hm;exact{o,C,D,e _ o (λz=>(hf _ z).2.1 rfl) q,r}
 .by_cases f:b=(zz9 s)
  .subst f;rw [aq] at q;cases q;exact{hl,us,i,{_,h,a,_,hd}}
  .rw [ag f] at q;refine(I.aM b o q).fW (λc v a z=>e c v ?_ z) (λc z=>by rw [ag (d c _ z).2];exact z) λc xs z=>by rw [ag (d c _ z).2];exact z
   rcases a with g|g
   .rw [g];exact(d b o q).1
   .exact(d c _ g).1
end
structure Zs where
 it:i1
 a:i1
 xs:List V
def Zs.iter(q:Zs)(i:Nat)(h:kA):Prop:=h.IsTupleIter q.it q.a i
noncomputable abbrev Zt:=i1×List V
def Zs.t(q:Zs):Zt:=(q.a,q.xs)
def Zq(K:zz8)(H:Hp)(q:Zt):Prop:=f9 K H q.1 q.2
def Zs.sq(K:zz8)(H:Hp)(q:Zs):Prop:=f9 K H q.a q.xs
def Zs.zr{q:Zs}{i:Nat}(st:q.iter i h)(k:∀o,h.get? q.it=hI o->h'.get? q.it=hI o):q.iter i h':=kA.IsTupleIter.at st k
def Zs.vx{q:Zs}{i:Nat}(st:q.iter i h):∃o,h.get? q.it=hI o/\∀v,o.data≠.cell v:=by let(o,a,_,hd):=st;exact{o,a,λv z=>by rw [hd] at z;cases z}
abbrev Vw(K:zz8)(ts:List Zt):It:=
 {λi H=>∀q∈ts,Zq K H q/\i<q.2.length,λi H v b=>∃p a,v=.ref p/\H p=h9/\b=upd H p (.tup a)/\Paired (λ(q:Zt) y=>q.2[i]?=hI y) ts a,
  λi H=>(∀q∈ts,Zq K H q/\i<=q.2.length)/\∃q∈ts,q.2.length=i}
structure CC(prog:jX)(w:kd)(A:ku)(i:Nat)(h:kA)(q:Zs)(d:Zd):Prop where
 it:d.it=q.it
 fp:d.fp=[q.it,q.a]
 n:d.n=q.xs.length
 D:Draws prog w A d.it d.fp d.n d.P d.St
 st:d.St i h
 back:∀j g,d.St j g->q.iter j g
 val:∀j u,d.P j u->∃x,RelV x u/\q.xs[j]?=hI x
section
variable{s:ix}
def Qd{xs:List V}{b:List iv}(rv:Vals xs b)(j:Nat)(u:iv)(hu:b.toArray[j]?=hI u):∃x,RelV x u/\xs[j]?=hI x:=by
 have hu:b[j]?=hI u:=zx6 hu;have d:j<xs.length:=by rw [rv.length];exact(b4.mp hu).1
 let(e,a,c):=rv.get (zzg d);rw [hu] at a;cases a;exact{_,c,zzg d}
def Ut(c:X.calm=ie)(I:zv1 s){q:Zs}{i:Nat}(e:q.a≠q.it)(h:q.sq X.K H)(st:q.iter i s.heap):∃d,CC X.prog X.w X.A.in1 i s.heap q d:=by let(b,rv,p,_):=I.tuple h;refine{{q.it,[q.it,q.a],b.toArray.size,_,_},rfl,rfl,?_,AV (A:=X.A.in1) (I.ok.hd c) q.it q.a e b.toArray,⟨st,p⟩,λj g z=>z.1,Qd rv};rw [a5,<-rv.length]
theorem yz(e:X.calm=ie)(I:zv1 s){i:Nat}:∀{qs:List Zs},(∀q∈qs,q.a≠q.it/\q.sq X.K H/\q.iter i s.heap)->∃b,Paired (CC X.prog X.w X.A.in1 i s.heap) qs b
 |[],_=>{[],.nil}|q::qs,h=>by let(f,g,j):=h q (c8 ..);let(d,hd):=Ut e I f g j;let(b,c):=yz e I (qs:=qs) λr hr=>h r (cz _ hr);exact{d::b,.cons hd c}
variable{α β:Type}{R:α->β->Prop}
theorem cD:∀{l:List α} {m:List β},Paired R l m->∀b∈m,∃a∈l,R a b
 |_,_,.cons h t,b,c=>by
  rcases er.1 c with rfl|c
  .exact{_,c8 ..,h}
  .let(a,d,e):=cD t b c;exact{a,cz _ d,e}
theorem gu:∀{l:List α} {m:List β},Paired R l m->∀a∈l,∃b∈m,R a b
 |_,_,.cons h t,b,c=>by
  rcases er.1 c with rfl|c
  .exact{_,c8 ..,h}
  .let(a,d,e):=gu t b c;exact{a,cz _ d,e}
theorem rD{S:α->α->Prop}{T:β->β->Prop}(h:∀a c b d,R a b->R c d->S a c->T b d):∀{l:List α} {m:List β},Paired R l m->l.Pairwise S->m.Pairwise T
 |_,_,.nil,_=>.nil|_,_,.cons r t,p=>by let(e,f):=List.pairwise_cons.1 p;refine List.pairwise_cons.2 {λb g=>?_,rD h t f};let(a,i,j):=cD t b g;exact h _ _ _ _ r j (e a i)
end
structure VI(z TI TO:i1)(qs:List Zs):Prop where
 tz:TI≠z/\TO≠z/\TI≠TO
 ne:qs≠[]
 len:qs.length<=9
 it:∀q∈qs,q.it≠z/\q.it≠TO/\q.it≠TI
 a:∀q∈qs,q.a≠z/\q.a≠TO/\∀r∈qs,q.a≠r.it
 pw:qs.Pairwise λa b=>a.it≠b.it
def ZTn(z TI TO:i1)(qs:List Zs)(i:Nat)(h:kA):Prop:=IsZip h z TI TO .none/\ju h TI (qs.map λq=>iv.ref q.it).toArray/\(∃c,ju h TO c/\c.size=qs.length)/\∀q∈qs,q.iter i h
def GO{w:kd}{i:Nat}{z TI TO:i1}{qs:List Zs}{e:List Zd}(Z:VI z TI TO qs)(p:Paired (CC prog w A i h) qs e):QX prog w A z TI TO e where
 D:=λd hd=>by let(q,_,r):=cD p d hd;exact r.D
 zf:=λd hd=>by let(q,f,r):=cD p d hd;let(g,a2,o):=Z.it q f;let(b1,s,_):=Z.a q f;rw [r.fp,r.it];simp! [er,List.not_mem_nil,or_false,not_or];exact{{Ne.symm g,Ne.symm b1},{Ne.symm a2,Ne.symm s},g,a2,o}
 ap:=by
  have q:qs.Pairwise λa b=>a.it≠b.it/\a.it≠b.a/\b.it≠a.a:=by refine List.Pairwise.imp_of_mem (λ{a b} ha j h=>{h,λz=>(Z.a b j).2.2 a ha z.symm,λz=>(Z.a a ha).2.2 b j z.symm}) Z.pw
  refine rD (λa y b B r k c=>?_) p q;let(m,t,u):=c;rw [r.fp,k.fp,r.it,k.it];simp! [er,List.not_mem_nil,or_false,not_or];exact{⟨m,t⟩,Ne.symm m,u}
 tz:=Z.tz
theorem j6{w:kd}{i:Nat}:∀{qs:List Zs} {a:List Zd},Paired (CC prog w A i h) qs a->(qs.map λq=>iv.ref q.it)=a.map λd=>iv.ref d.it
 |_,_,.nil=>rfl|_,_,.cons r t=>by rw [a8,a8,r.it,j6 t]
theorem pS{w:kd}{i:Nat}:∀{qs:List Zs} {a:List Zd} {us:List iv},Paired (CC prog w A i h) qs a->Paired (λd x=>d.P i x) a us->∃ys,Vals ys us/\Paired (λ(q:Zt) y=>q.2[i]?=hI y) (qs.map Zs.t) ys
 |_,_,_,.nil,.nil=>{[],.nil,.nil}|_,_,_,.cons r t,.cons u v=>by let(x,b,c):=r.val i _ u;let(ys,e,f):=pS t v;exact{x::ys,.cons b e,.cons c f}
def B4{P:jX}{w:kd}{K:zz8}{elts:List i2}{x1:Nat}{z TI TO:i1}{qs:List Zs}(Z:VI z TI TO qs):
 Turn P w K (.Tuple elts x1 pos) (Vw K (qs.map Zs.t)) (z::TI::TO::qs.map (·.it)) z (ZTn z TI TO qs) where
 mem:=by simp
 obj:=λi h st c D=>by
  let(u,A,(_,B,_),C):=st
  simp! [er,fP] at D;rcases D with rfl|rfl|rfl|⟨q,f,rfl⟩
  .exact{_,u,λv q=>by cases q}
  .exact{_,A,λv q=>by cases q}
  .exact{_,B,λv q=>by cases q}
  .exact Zs.vx (C q f)
 keep:=λi h O st k=>by let(u,A,(c,B,G),C):=st;exact{k z (by simp) _ u,k TI (by simp) _ A,{c,k TO (by simp) _ B,G},λq f=>Zs.zr (C q f) λo e=>k q.it (by simp;exact .inr (.inr (.inr ⟨q,f,rfl⟩))) o e}
 item:=by
  intro X S U hK D i V s σ H E I hf st p;subst S U hK;replace p:∀q∈qs,q.sq X.K H/\i<q.xs.length:=λq f=>p q.t (List.mem_map_of_mem f);let(u,A,(c,B,G),C):=st;let(ds,j):=yz D I λq f=>{(Z.a q f).2.2 q f,(p q f).1,C q f};have L:s.TypeIs (.ref z) "zip":={_,u,rfl};have len:=Paired.length j;have xw:H (zz9 s)=h9:=I.aM.fresh (a7 _)
  have lt:∀b∈z::TI::TO::qs.map (·.it),b<(zz9 s):=λb g=>by
   simp! [er,fP] at g;rcases g with rfl|rfl|rfl|⟨q,f,rfl⟩
   .exact c6 u
   .exact c6 A
   .exact c6 B
   .let(o,W,_):=Zs.vx (C q f);exact c6 W
  unfold pyNext;refine ar (wpAny_attempt (wpAny_callSpecial?_slot (name:=Str.ofString (zu 46)) L PySem.F.slot_zip_next (wpAny_call_entry PySem.F.slot_zip_next L PySem.F.entry_zip_next
   (wB (k:=i) (GO Z j) (by rw [<-len];exact Z.len) (by have:=Z.ne;intro e;subst e;cases j;exact this rfl) u (by rw [<-j6 j];exact A) {c,B,by rw [<-len];exact G} (λd hd=>by let(q,f,r):=cD j d hd;exact{r.st,by rw [r.n];exact Nat.le_of_lt (p q f).2})
    (λO tk us pu z1 z2 z3 z4 z5 M=>{_,rfl,bc ?_}) λO tk e N _ _=>?_) (PySem.F.args_zip_next_1 _))))
  .let(ys,rv,Q):=pS j pu
   have Y:∀b∈z::TO::qs.map (·.it),jr X V H b:=λb g=>hf b (by simp! [er] at g⊢;rcases g with h|h|h<;>simp [h]);have I1:=Inv.EO (tk:=tk) (xs:=ys) I Y (λb o g e=>M b o (λq=>g (by simp [q])) (λq=>g (by simp [q])) (λd hd q=>g (by let(q',oK,r):=cD j d hd;simp! [er,fP];exact .inr (.inr {q',oK,by rw [q,r.it]}))) e) z4 rfl rfl rv (d1 (m:=9) (by have h1:=Paired.length Q;have:=Z.len;rw [zzl] at h1;lia) ↑2);refine{_,rfl,wpAny_letOwnedTupleGo_zip z1 λh2 Hf R=>?_};let(f0,f1,f2,f3,f4,f5):=hf z (by simp);have nz:z≠(zz9 s):=d8 (lt z (by simp));refine{.ref (zz9 s),_,I1.turned (t':=tk) (it:=z) (λb o g q=>R.extBut b o g q) (by rw [ag nz];exact f0) f1 f3 f4 f5,rfl,{_,_,rfl,xw,rfl,Q},{Hf,?_,?_,λq f=>?_},λb g=>?_}
   .exact R.extBut _ _ Z.tz.1 (M _ _ Z.tz.1 Z.tz.2.2 (λd hd=>by let(q,f,r):=cD j d hd;rw [r.it];exact Ne.symm (Z.it q f).2.2) A)
   .let(c',e1,e2):=z2;exact{c',R.extBut _ _ Z.tz.2.1 e1,by rw [e2,len]}
   .let(d,hd,r):=gu j q f;exact Zs.zr (r.back _ _ (z3 d hd)) λo e=>R.extBut _ _ (Z.it q f).1 e
   .rw [ag (d8 (lt b g))];exact(hf b g).1
  .let(d,hd,hn):=N;let(q,f,r):=cD j d hd;have:=(p q f).2;rw [r.n] at hn;lia
 done:=by
  intro X S U hK D i V s σ H E I hf st p;subst S U hK;let(p,t0,ht0,hn0):=p;replace p:∀q∈qs,q.sq X.K H/\i<=q.xs.length:=λq f=>p q.t (List.mem_map_of_mem f);let(u,A,(c,B,G),C):=st;let(ds,j):=yz D I λq f=>{(Z.a q f).2.2 q f,(p q f).1,C q f};have L:s.TypeIs (.ref z) "zip":={_,u,rfl};have len:=Paired.length j
  unfold pyNext;refine ar (wpAny_attempt (wpAny_callSpecial?_slot (name:=Str.ofString (zu 46)) L PySem.F.slot_zip_next (wpAny_call_entry PySem.F.slot_zip_next L PySem.F.entry_zip_next
   (wB (k:=i) (GO Z j) (by rw [<-len];exact Z.len) (by have:=Z.ne;intro e;subst e;cases j;exact this rfl) u (by rw [<-j6 j];exact A) {c,B,by rw [<-len];exact G} (λd hd=>by let(q,f,r):=cD j d hd;exact{r.st,by rw [r.n];exact(p q f).2})
    (λO tk us pu z1 z2 z3 z4 z5 M=>?_) λO tk e N M he=>?_) (PySem.F.args_zip_next_1 _))))
  .let(ys,rv,Q):=pS j pu;let(y,_,hy):=gu Q t0 ht0;have:=(b4.1 hy).1;lia
  .let(o,W,iT):=he
   refine ar (wpAny_isInstance (T:=(zu 21)) (b:=ie) ⟨o,W,iT⟩ isSubtype_stop ?_);have Y:∀b∈z::TO::qs.map (·.it),jr X V H b:=λb g=>hf b (by simp! [er] at g⊢;rcases g with h|h|h<;>simp [h]);exact bc {rfl,Inv.moved (tk:=tk) I Y λb o g e=>M b o (λq=>g (by simp [q])) (λq=>g (by simp [q])) (λd hd q=>g (by let(q',oK,r):=cD j d hd;simp! [er,fP];exact .inr (.inr {q',oK,by rw [q,r.it]}))) e}
 self:=λ_ _ _ _ _ st h=>wpAny_pyIter_zip st.1 h
def Src(h:kA)(a:i1):Prop:=∃b,h.IsTuple a b
def Src.push(q:Src h a)(o:Obj):Src (h.push o) a:=by let(b,c,d,r):=q;exact{b,c,aT _ d,r}
abbrev SA(a:i1):Obj:={cls:=.type "tuple_iterator",data:=.fields #[.ref a,.int 0 0]}
section
variable{w:kd}{E:lr}{s:ix}
def x9{Q:lr}(h:Src s.heap a)(q:Q (.ref (zz9 s)) {s with heap:=s.heap.push (SA a)}):jW (kr prog w) A (pyIter (.ref a)) Q E s:=by let(b,h):=h;exact wpAny_pyIter_tuple h q
end
abbrev iE(h:kA)(qs:List i1):Heap:=qs.foldl (λg q=>g.push (SA q)) h
def jY(qs:List i1):∀h:kA,(iE h qs).objs.size=h.objs.size+qs.length:=by
 induction qs with
 |nil=>exact λh=>rfl|cons q qs a=>intro h;rw [iE,List.foldl_cons,<-iE,a,kA.size_push,c4];lia
section
variable{w:kd}{E:lr}{s:ix}
def vw{Q:List iv->ix->Prop}:∀(qs:List i1),(∀q∈qs,Src s.heap q)->Q ((List.range qs.length).map λi=>iv.ref ((zz9 s)+i)) {s with heap:=iE s.heap qs}->
 jW (kr prog w) A (lb.SmallTypes.iterAll (qs.map λq=>iv.ref q)) Q E s:=by
 intro qs f h;unfold lb.SmallTypes.iterAll;refine ar ?_;refine wpAny_forIn_list _ (λrest (b:Array iv) d=>∃c a,qs=c++a/\rest=a.map (λq=>iv.ref q)/\b.toList=(List.range c.length).map (λi=>iv.ref ((zz9 s)+i))/\d={s with heap:=iE s.heap c}) _ ?_ ?_ _ _ {[],qs,rfl,rfl,rfl,rfl}
 .rintro x rest b d ⟨c,a,rfl,hr,e,rfl⟩
  cases a with
  |nil=>cases hr
  |cons q a=>
   simp! [a8,List.cons.injEq] at hr;let(rfl,rfl):=hr
   have hs:∀(l:List i1) (g:kA),Src g q->Src (iE g l) q:=λl=>by
    induction l with
    |nil=>exact λg h=>h|cons r l j=>exact λg h=>j _ (h.push _)
   refine ar (wpAny_holding (x9 (hs c _ (f q (by simp))) ?_));refine bc {c++[q],a,by simp,rfl,?_,?_}
   .rw [Array.toList_push,e,c5,List.length_singleton,List.range_succ,List.map_append];simp [jY]
   .simp [iE,List.foldl_append]
 .rintro b d ⟨c,a,rfl,hr,e,rfl⟩
  obtain rfl:a=[]:=by cases a with|nil=>rfl|cons q a=>cases hr
  refine bc ?_;rw [e];simpa using h
end
theorem tR{n:i1}(e:h.objs.size=n)(f:o.isFreed=ig:=by rfl):(h.push o).get? n=hI o:=e▸d4 h f
abbrev hU(h:kA)(qs:List i1):Heap:=
 (((iE h qs).push {cls:=.type "tuple",data:=.seq ((List.range qs.length).map λi=>iv.ref (h.objs.size+i)).toArray}).push {cls:=.type "tuple",data:=.seq (((List.range qs.length).map λi=>iv.ref (h.objs.size+i)).map λZ=>iv.none).toArray}).push
   {cls:=.type "zip",data:=.fields #[.none,.bool ig,.bool ig,.ref (h.objs.size+qs.length),.ref (h.objs.size+qs.length+1)]}
theorem GN(qs:List i1)(hl:qs.length<=9):
 Meets (lb.«zip.__new__» {.type "zip"::qs.map (λq=>iv.ref q),[]}) (λZ R s=>(∀q∈qs,Src s.heap q)/\R (.ok (.ret (.ref ((zz9 s)+qs.length+2)))) {s with heap:=hU s.heap qs}):=
 .of_wp λprog w A R s h=>by
  let(hs,h):=h;have b:=sub_zip;have a:∀l:List iv,l.length=qs.length->l.length<=sizeLine:=λl e=>d1 (m:=9) (by lia) ↑2;show jW _ _ (lb.SmallTypes.newClass "zip" _>>=_) _ _ s;unfold lb.SmallTypes.newClass
  wp_walk using vw qs hs
  rw [if_neg (by rw [a5];exact Nat.not_lt.2 (a _ (by simp)))]
  wp_walk
  rw [if_neg (by rw [a5];exact Nat.not_lt.2 (a _ (by simp)))]
  wp_walk
  refine{_,rfl,?_};simp! [kA.size_push,jY];exact h
def rg(qs:List i1):∀(h:kA) (c:i1) (o:Obj),h.get? c=hI o->(iE h qs).get? c=hI o:=by
 induction qs with
 |nil=>exact λh c o e=>e|cons q qs a=>exact λh c o e=>a _ c o (aT _ e)
theorem vy:∀(qs:List i1) (h:kA) (i:Nat) (q:i1),qs[i]?=hI q->(iE h qs).get? (h.objs.size+i)=hI (SA q)
 |q::qs,h,0,r,e=>by cases e;exact rg qs _ _ _ (d4 _ rfl)
 |q::qs,h,i+1,r,e=>by have:=vy qs (h.push (SA q)) i r (zx6 e);rw [kA.size_push] at this;rw [show h.objs.size+(i+1)=h.objs.size+1+i by lia];exact this
section
variable{w:kd}{E:lr}{s:ix}
def AD{qs:List i1}{Q:lr}(hl:qs.length<=9)(hs:∀q∈qs,Src s.heap q)(f:checkTypeCall "zip" {qs.map (λq=>iv.ref q),[]}=pure ())(g:checkBuiltinCall "zip.__new__" {.type "zip"::qs.map (λq=>iv.ref q),[]}=pure ())(j:∀obj,argsOk "object.__init__" {obj::qs.map (λq=>iv.ref q),[]})
 (h:IsZip (hU s.heap qs) ((zz9 s)+qs.length+2) ((zz9 s)+qs.length) ((zz9 s)+qs.length+1) .none->ju (hU s.heap qs) ((zz9 s)+qs.length) ((List.range qs.length).map λi=>iv.ref ((zz9 s)+i)).toArray->(∃c,ju (hU s.heap qs) ((zz9 s)+qs.length+1) c/\c.size=qs.length)->
  (∀i q,qs[i]?=hI q->(hU s.heap qs).get? ((zz9 s)+i)=hI (SA q))->(∀c o,s.heap.get? c=hI o->(hU s.heap qs).get? c=hI o)->Q (.ref ((zz9 s)+qs.length+2)) {s with heap:=hU s.heap qs}):
 jW (kr prog w) A (call (.type "zip") (qs.map λq=>iv.ref q)) Q E s:=by
 have a:=jY qs s.heap;have b:∀c o,(iE s.heap qs).get? c=hI o->(hU s.heap qs).get? c=hI o:=λc o e=>aT _ (aT _ (aT _ e));have d:IsZip (hU s.heap qs) ((zz9 s)+qs.length+2) ((zz9 s)+qs.length) ((zz9 s)+qs.length+1) .none:=tR (by rw [kA.size_push,kA.size_push,a]);have k:ju (hU s.heap qs) ((zz9 s)+qs.length) ((List.range qs.length).map λi=>iv.ref ((zz9 s)+i)).toArray:=aT _ (aT _ (tR a));have m:ju (hU s.heap qs) ((zz9 s)+qs.length+1) (((List.range qs.length).map λi=>iv.ref ((zz9 s)+i)).map λZ=>iv.none).toArray:=aT _ (tR (by rw [kA.size_push,a]));exact callType_new PySem.F.called_zip ↑2 f g j PySem.F.entry_zip_new (GN qs hl) {hs,{_,d,rfl},h d k {_,m,by simp} (λi q e=>b _ _ (vy qs _ i q e)) λc o e=>b _ _ (rg qs _ c o e)}
end
theorem rM:∀{ts:List Zt} {us:List iv},Vals (ts.map λt=>V.ref t.1) us->us=ts.map λt=>iv.ref t.1
 |[],_,.nil=>rfl|t::ts,_,.cons h r=>by cases h;rw [rM r];rfl
section
variable{elts:List i2}{x1:Nat}{Ku:Pos}
abbrev Sv(K:zz8)(b:TA):TI:=λc H R=>b c H λd a=>∃ts:List Zt,d=ts.map (λt=>.ref t.1)/\ts.length=2/\(∀t∈ts,Zq K a t)/\R (Vw K ts) a
def JM{o:List i2}{G:TA}{p pos:Pos}(Y:Gl X "zip")(hm:X.mg "zip"=h9)(ha:PA X (e::o) G)(he:starEach (e::o) X.env=(ig,eval e X.env)::starEach o X.env)(hp:(backTo pos (starEach o X.env)).any (·.1)=ig):
 PI X (.Tuple elts x1 Ku) (.Call (.Name "zip" p) (e::o) [] pos) (Sv X.K G):=by
 intro L s M H R I h;refine Call_ (j1 I Y hm (show bootBuiltins "zip"=hI (.type "zip") by decide+kernel) (PyProof.Rows.callWith_type1 (bM (ha pos L s M H _ I h) λus d ⟨vs,H1,A,r1,q1⟩=>?_) he hp));let(ts,rfl,hn,hq,q):=q1;obtain rfl:=rM r1;have N:ts.length<=9:=by lia
 have B:(ts.map λt=>t.1).length=ts.length:=zzl ..;have em:(ts.map λt=>iv.ref t.1)=(ts.map λt=>t.1).map λq=>iv.ref q:=by rw [List.map_map];rfl
 have u:∀t∈ts,Src d.heap t.1/\t.1<(zz9 d):=λt C=>by have:=hq t C;let(aw,_,O,_):=A.tuple this;exact{{_,O},by let(_,e,_):=O;exact c6 e}
 obtain⟨c1,Q,S⟩:checkTypeCall "zip" ⟨ts.map (λt=>iv.ref t.1),[]⟩=pure ()/\checkBuiltinCall "zip.__new__" ⟨.type "zip"::ts.map (λt=>iv.ref t.1),[]⟩=pure ()/\∀obj,argsOk "object.__init__" ⟨obj::ts.map (λt=>iv.ref t.1),[]⟩:=by
  match ts,hn with
  |[a,b],_=>exact{PySem.F.typeCall_zip_2 _ _,PySem.F.newCall_zip_2 _ _,λobj=>PySem.F.args_object_init_3 obj _ _}
 rw [em] at c1 Q S⊢;refine AD (by rw [B];exact N) (λq f=>by let(t,C,rfl):=fP.1 f;exact(u t C).1) c1 Q S λD a2 U a4 kk=>wpAny_pyIter_zip D ?_;rw [B] at D a2 U;have I2:Inv X L M H1 {d with heap:=hU d.heap (ts.map λt=>t.1)}:=A.kept (t':=d.toks) kk;have eqs:(ts.zipIdx.map λp=>({(zz9 d)+p.2,p.1.1,p.1.2}:Zs)).map Zs.t=ts:=by rw [List.map_map];refine List.ext_getElem (by simp) λi k g=>?_;simp [Zs.t]
 have y:∀q∈ts.zipIdx.map λp=>(⟨(zz9 d)+p.2,p.1.1,p.1.2⟩:Zs),∃i,i<ts.length/\ts[i]?=hI q.t/\q.it=(zz9 d)+i:=λq f=>by let((t,i),Li,rfl):=fP.1 f;have:=List.mem_zipIdx_iff_getElem?.1 Li;exact{i,(b4.1 this).1,this,rfl}
 have Z:VI ((zz9 d)+ts.length+2) ((zz9 d)+ts.length) ((zz9 d)+ts.length+1) (ts.zipIdx.map λp=>({(zz9 d)+p.2,p.1.1,p.1.2}:Zs)):=by
  refine{{d8 (by show _<_;lia),d8 (by show _<_;lia),d8 (by show _<_;lia)},λz=>?_,zx6 N,λq f=>?_,λq f=>?_,?_}
  .have:=congrArg List.length z;simp! [zzl,List.length_zipIdx,List.length_nil] at this;lia
  .let(i,k,_,m):=y q f;rw [m];exact{d8 (by show _<_;lia),d8 (by show _<_;lia),d8 (by show _<_;lia)}
  .let(i,k,g,m):=y q f;have E:q.a<(zz9 d):=(u q.t (a6 g)).2;refine{d8 (d3 E (by show _<=_;lia)),d8 (d3 E (by show _<=_;lia)),λr hr=>?_};let(j,_,_,h5):=y r hr;rw [h5];exact d8 (d3 E (by show _<=_;lia))
  .refine List.pairwise_map.2 ?_;refine List.pairwise_iff_getElem.2 λi j hi hj ZE=>?_;simp! [List.getElem_zipIdx];exact d8 (by show _<_;lia)
 have T:=B4 (P:=X.prog) (w:=X.w) (K:=X.K) (elts:=elts) (x1:=x1) (pos:=Ku) Z;rw [eqs] at T;refine{_,_,_,_,H1,by rw [B],I2,T,{D,?_,?_,λq f=>?_},λb V=>?_,q}
 .have:(ts.zipIdx.map λp=>({(zz9 d)+p.2,p.1.1,p.1.2}:Zs)).map (λq=>iv.ref q.it)=(List.range ts.length).map λi=>iv.ref ((zz9 d)+i):=by
   refine List.ext_getElem (by simp) λi k g=>?_;simp
  rw [this];exact a2
 .let(c,k,g):=U;exact{c,k,zx6 g}
 .let(i,k,g,m):=y q f;have:=a4 i q.a (by rw [dk,g];rfl);unfold Zs.iter;rw [m];exact{_,this,rfl,rfl}
 .have W:(zz9 d)<=b:=by
   simp! [er,fP] at V;rcases V with e|e|e|⟨q,f,e⟩
   .rw [e];exact d1 (Nat.le_add_right _ _) (Nat.le_add_right _ _)
   .rw [e];exact Nat.le_add_right _ _
   .rw [e];exact d1 (Nat.le_add_right _ _) (Nat.le_add_right _ _)
   .let(i,_,_,m):=y q (fP.2 f);rw [<-e,m];exact Nat.le_add_right _ _
  exact A.vh W (A.aM.fresh W)
end
def Td(xs:List V)(P:V->Prop):Prop:=match xs with
 |[x]=>P x|_=>False
def Jy{xs:List V}{P:V->Prop}(h:Td xs P):∃x,xs=[x]/\P x:=by
 cases xs with
 |nil=>exact h.elim|cons x r=>
  cases r with
  |nil=>exact⟨x,rfl,h⟩|cons _ _=>exact h.elim
def GC(r:Vals vs us):Vals vs.reverse us.reverse:=by
 induction r with
 |nil=>exact .nil|cons h t a=>rw [List.reverse_cons,List.reverse_cons];exact a.append (.cons h .nil)
end L2
namespace Ci
open L2
set_option backward.match.sparseCases false
structure Hs where
 f:Str
 h:Str
 g:Str
 idx:List Nat
 np:Nat
structure Pg where
 gs:List (Str×PV)
 bs:List Str
 cs:List Str
 fs:List Str
 rs:List Str
 hs:List Hs:=[]
 hl:Bool:=ig
 qt:Bool:=ig
 qs:List Str:=[]
abbrev nq(Γ:Pg)(b:Bool):Bool:=b&&!Γ.qt
def zJ{Γ:Pg}{b:Bool}(h:nq Γ b=ie):Γ.qt=ig/\b=ie:=by unfold nq at h;rw [zza,Bool.not_eq_true'] at h;exact⟨h.2,h.1⟩
abbrev jc(sc:kv)(x:Str):Bool:=sc.names.lookup x==hI .local||sc.names.lookup x==hI .cell
abbrev ke(sc:kv)(x:Str):Bool:=jc sc x||sc.names.lookup x==hI .free
abbrev fA(sc:kv)(x:Str):Bool:=sc.names.lookup x==hI .globalImplicit
abbrev litS:List PV->List PV->Bool
 |[],[]=>ie|.str x::xs,.str y::ys=>x==y&&litS xs ys|_,_=>ig
abbrev EC:PV->PV->Bool
 |.int i,.int j=>i==j|.str x,.str y=>x==y|.tup xs,.tup ys=>litS xs ys|_,_=>ig
theorem litS_eq:∀{xs ys:List PV},litS xs ys=ie->xs=ys
 |[],[],_=>rfl|.str x::xs,.str y::ys,h=>by unfold litS at h;rw [zza] at h;rw [zzy.mp h.1,litS_eq h.2]
def ED{p:PV}(h:EC p q=ie):p=q:=by
 cases p<;>first|exact aN h|skip
 all_goals cases q<;>first|exact aN h|skip
 .rw [zzy.mp h]
 .rw [zzy.mp h]
 .rw [litS_eq h]
abbrev bN:B->Str
 |.len=>"len"|.int=>"int"|.str=>"str"|.tuple=>"tuple"|.all=>"all"|.sorted=>"sorted"
abbrev mN:M->Str
 |.jz=>"count"|.index=>"index"|.join=>"join"
abbrev W9:E->Bool
 |.var _=>ie|.fld _ _=>ie|_=>ig
abbrev IX:i2->Bool
 |.Dict [] [] _=>ie|_=>ig
def zi(h:IX p=ie):∃pos,p=.Dict [] [] pos:=by
 unfold IX at h;split at h
 .exact{_,rfl}
 .cases h
abbrev d7:E->Bool
 |.Ks _=>ig|.con _=>ig|_=>ie
abbrev hX:Es->Bool
 |.nil=>ie|.cons e a=>d7 e&&hX a
abbrev AZ:I->Bool
 |.seq e=>d7 e|.pU _=>ie|.zip _=>ie
abbrev isNil:Es->Bool
 |.nil=>ie|_=>ig
abbrev g8:Es->Nat
 |.nil=>0|.cons _ a=>g8 a+1
abbrev B2:i2->Option (List i2)
 |.Tuple a _ _=>hI a|_=>h9
def nL{a:List i2}(h:B2 e=hI a):∃k p,e=.Tuple a k p:=by
 cases e with
 |Tuple a k p=>cases h;exact{_,_,rfl}
 |_=>exact kT h
abbrev B6{c:Type}:List c->Option (c×c)
 |[a,b]=>hI (a,b)|_=>h9
def Ky{c:Type}{ts:List c}{q:c×c}(h:B6 ts=hI q):ts=[q.1,q.2]:=by
 cases ts with
 |nil=>exact kT h|cons a ts=>
  cases ts with
  |nil=>exact kT h|cons b ts=>
   cases ts with
   |cons _ _=>exact kT h|nil=>cases h;rfl
abbrev Xs(N:List Str)(sc:kv)(fn:Str->Bool)(i:Nat)(p:i2):Bool:=(j5 p).any λx=>N[i]?==hI x&&jc sc x&&(fn x||sc.names.lookup x==hI .local)
abbrev Oj(N:List Str)(sc:kv)(fn:Str->Bool):List Nat->List i2->Bool
 |i::is,a::as=>Xs N sc fn i a&&Oj N sc fn is as|[],[]=>ie|_,_=>ig
abbrev fB(N:List Str)(sc:kv)(fn:Str->Bool):Tg->i2->Bool
 |.one i,p=>Xs N sc fn i p|.two i j,p=>(B2 p).any (Oj N sc fn [i,j])
abbrev aV:i2->List Str
 |.Name x _=>[x]|.Tuple [.Name x _,.Name y _] _ _=>[x,y]|.Tuple [.Name x _,.Name y _,.Name z _] _ _=>[x,y,z]|.Tuple [.Name x _,.Tuple [.Name y _,.Name z _] _ _] _ _=>[x,y,z]|_=>[]
abbrev dy(a sc:kv):Scope:=
 {a with names:=a.names.map λ(n,k)=>if(k==.free&&sc.kind==.function&&sc.names.lookup n==hI .cell) then(n,.cell) else(n,k)}
abbrev freeOf(a:kv):List Str:=((a.names.filter λp=>p.2==.free).map (·.1)).reverse
abbrev uY(N:List Str)(sc a:kv)(k:Nat)(b:List Nat)(xs:List Str):Bool:=
 a.kind==.function&&xs.length==k&&decide ((xs++freeOf a).Nodup)
 &&(a.names.all λy=>(decide (y.2≠.cell)||!(freeOf a).contains y.1)&&(decide (y.2≠.free)||(freeOf a).contains y.1))
 &&(a.names.all λy=>decide (y.2≠.cell)||decide (a.names.lookup y.1=hI .cell))
 &&(a.names.all λy=>decide (y.2≠.local)||decide (a.names.lookup y.1=hI .local))
 &&decide (b.map (λi=>N[i]?)=(freeOf a).map hI)
 &&((freeOf a).all λy=>decide (sc.names.lookup y=hI .cell))
 &&((freeOf a).all λy=>decide ((dy a sc).names.lookup y=hI .cell))
abbrev mz(k:Nat):Tg->Bool
 |.one i=>decide (i<k)|.two i j=>decide (i<k)&&decide (j<k)
abbrev gk:E->Bool
 |.con _=>ig|.ite _ _ _=>ig|.not a=>gk a|.and a b=>gk a&&gk b|.or a b=>gk a&&gk b|_=>ie
abbrev isTup:i2->Bool
 |.Tuple .. =>ie|_=>ig
noncomputable abbrev Pg.zI(Γ:Pg):Pg:={Γ with hl:=ig}
def wU{c d:Type}{o:Option c}{f:c->Option d}{b:d}(h:o.bind f=hI b):∃a,o=hI a/\f a=hI b:=d6.1 h
def if1{d:Type}{c:Bool}{a b:d}(h:(if c=ie then hI a else h9)=hI b):c=ie/\a=b:=by
 cases c with
 |true=>cases h;exact⟨rfl,rfl⟩
 |false=>exact kT h
abbrev dw{a:Type}:List a->Option a
 |[t]=>hI t|_=>h9
def iZ{b:Type}{ts:List b}{t:b}(h:dw ts=hI t):ts=[t]:=by
 cases ts with
 |nil=>exact kT h|cons a ts=>
  cases ts with
  |cons _ _=>exact kT h|nil=>cases h;rfl
abbrev GY:i2->Option (i2×Str×Pos)
 |.Attribute o m p=>hI (o,m,p)|_=>h9
def gC{q:i2×Str×Pos}(h:GY e=hI q):e=.Attribute q.1 q.2.1 q.2.2:=by
 cases e with
 |Attribute o m p=>cases h;rfl
 |_=>exact kT h
abbrev ZR:i2->Option (Arguments×i2×kv)
 |.Lambda p b s _=>hI (p,b,s)|_=>h9
def N9{q:Arguments×i2×kv}(h:ZR e=hI q):∃p,e=.Lambda q.1 q.2.1 q.2.2 p:=by
 cases e with
 |Lambda p b s x=>cases h;exact{_,rfl}
 |_=>exact kT h
abbrev PM:i2->Option (i2×i2)
 |.Subscript a b _=>hI (a,b)|_=>h9
def Gg{q:i2×i2}(h:PM e=hI q):∃p,e=.Subscript q.1 q.2 p:=by
 cases e with
 |Subscript a b p=>cases h;exact{_,rfl}
 |_=>exact kT h
abbrev Rw:i2->Option Const
 |.Constant c _ _=>hI c|_=>h9
def C3{c:Const}(h:Rw e=hI c):∃p q,e=.Constant c p q:=by
 cases e with
 |Constant c p q=>cases h;exact{_,_,rfl}
 |_=>exact kT h
abbrev pV:Const->Option Str
 |.str z=>hI z|_=>h9
def Ga{c:Const}(h:pV c=hI z):c=.str z:=by
 cases c with
 |str y=>cases h;rfl
 |_=>exact kT h
abbrev Xa:Const->Option Int
 |.int n=>hI n|_=>h9
def El{c:Const}{n:Int}(h:Xa c=hI n):c=.int n:=by
 cases c with
 |int y=>cases h;rfl
 |_=>exact kT h
def eh{a:Type}{l:List a}(h:l.isEmpty=ie):l=[]:=by
 cases l with
 |nil=>rfl|cons _ _=>exact aN h
def Ov{a:Type}{o:Option a}(h:o.isNone=ie):o=h9:=by
 cases o with
 |none=>rfl|some _=>exact aN h
abbrev Y1:Const->Option Bool
 |.bool b=>hI b|_=>h9
def Mb{c:Const}{b:Bool}(h:Y1 c=hI b):c=.bool b:=by
 cases c with
 |bool y=>cases h;rfl
 |_=>exact kT h
abbrev ZW:Const->Bool
 |.none=>ie|_=>ig
def Oo{c:Const}(h:ZW c=ie):c=.none:=by
 cases c with
 |none=>rfl|_=>exact aN h
abbrev Y0:i2->Option (i2×Operator×i2)
 |.BinOp a o b _=>hI (a,o,b)|_=>h9
def L9{q:i2×Operator×i2}(h:Y0 e=hI q):∃p,e=.BinOp q.1 q.2.1 q.2.2 p:=by
 cases e with
 |BinOp a o b p=>cases h;exact{_,rfl}
 |_=>exact kT h
abbrev Rv:i2->Option (i2×List CmpOp×List i2)
 |.Compare a o b _=>hI (a,o,b)|_=>h9
def Mm{q:i2×List CmpOp×List i2}(h:Rv e=hI q):∃p,e=.Compare q.1 q.2.1 q.2.2 p:=by
 cases e with
 |Compare a o b p=>cases h;exact{_,rfl}
 |_=>exact kT h
abbrev Um:i2->Option (UnaryOp×i2)
 |.UnaryOp o a _=>hI (o,a)|_=>h9
def P8{q:UnaryOp×i2}(h:Um e=hI q):∃p,e=.UnaryOp q.1 q.2 p:=by
 cases e with
 |UnaryOp o a p=>cases h;exact{_,rfl}
 |_=>exact kT h
abbrev Ll:UnaryOp->Bool
 |.Not=>ie|_=>ig
def Ej{o:UnaryOp}(h:Ll o=ie):o=.Not:=by
 cases o with
 |Not=>rfl|_=>exact aN h
abbrev isNeg:UnaryOp->Bool
 |.USub=>ie|_=>ig
def vv{o:UnaryOp}(h:isNeg o=ie):o=.USub:=by
 cases o with
 |USub=>rfl|_=>exact aN h
abbrev vq:BoolOp->Bool
 |.And=>ie|.Or=>ig
def Eg{o:BoolOp}(h:vq o=ie):o=.And:=by
 cases o with
 |And=>rfl|Or=>exact aN h
def zo{o:BoolOp}(h:(!vq o)=ie):o=.Or:=by
 cases o with
 |Or=>rfl|And=>exact aN h
abbrev Rl:i2->Option (BoolOp×List i2×Pos)
 |.BoolOp o vs p=>hI (o,vs,p)|_=>h9
def Md{q:BoolOp×List i2×Pos}(h:Rl e=hI q):e=.BoolOp q.1 q.2.1 q.2.2:=by
 cases e with
 |BoolOp o a p=>cases h;rfl
 |_=>exact kT h
abbrev UK(o:BoolOp)(pos:Pos):List i2->Option (i2×i2)
 |a::b::[]=>hI (a,b)|a::b::c::r=>hI (a,.BoolOp o (b::c::r) pos)|_=>h9
def wX{o:BoolOp}{vs:List i2}{q:i2×i2}(h:UK o pos vs=hI q):vs=[q.1,q.2]\/∃b c r,vs=q.1::b::c::r/\q.2=.BoolOp o (b::c::r) pos:=by
 cases vs with
 |nil=>exact kT h|cons a vs=>
  cases vs with
  |nil=>exact kT h|cons b vs=>
   cases vs with
   |nil=>cases h;exact .inl rfl
   |cons c r=>cases h;exact .inr ⟨b,c,r,rfl,rfl⟩
abbrev W6:i2->Option (i2×i2×i2)
 |.IfExp c a b _=>hI (c,a,b)|_=>h9
def Ec{q:i2×i2×i2}(h:W6 e=hI q):∃p,e=.IfExp q.1 q.2.1 q.2.2 p:=by
 cases e with
 |IfExp c a b p=>cases h;exact{_,rfl}
 |_=>exact kT h
abbrev Xk:i2->Option (List i2)
 |.List a _=>hI a|_=>h9
def xH{a:List i2}(h:Xk e=hI a):∃p,e=.List a p:=by
 cases e with
 |List a p=>cases h;exact{_,rfl}
 |_=>exact kT h
abbrev QB:i2->Option (Option i2×Option i2×Option i2)
 |.Slice a b c _=>hI (a,b,c)|_=>h9
def Py{q:Option i2×Option i2×Option i2}(h:QB e=hI q):∃p,e=.Slice q.1 q.2.1 q.2.2 p:=by
 cases e with
 |Slice a b c p=>cases h;exact{_,rfl}
 |_=>exact kT h
abbrev SG:i2->Option (i2×List Comprehension×kv)
 |.ListComp e gs s _=>hI (e,gs,s)|_=>h9
def N8{q:i2×List Comprehension×kv}(h:SG e=hI q):∃p,e=.ListComp q.1 q.2.1 q.2.2 p:=by
 cases e with
 |ListComp e gs s p=>cases h;exact{_,rfl}
 |_=>exact kT h
abbrev ux(e:i2):Option (Str×List i2):=(B9 e).bind λq=>(j5 q.1).bind λg=>if q.2.2.1.isEmpty=ie then hI (g,q.2.1) else h9
def Mi{q:Str×List i2}(h:ux e=hI q):∃np p,e=.Call (.Name q.1 np) q.2 [] p:=by let((f,a,k,p),c,h):=wU h;let(g,d,h):=wU h;let(i,rfl):=if1 h;let(np,z):=eT d;have b:=eh i;dsimp only at z b;subst z b;exact{np,p,gD c}
abbrev Ry:PV->Const->Bool
 |.aR,c=>ZW c|.bl b,c=>(Y1 c).any λx=>b==x|.int i,c=>(Xa c).any λx=>i==x|.str z,c=>(pV c).any λx=>z==x|_,_=>ig
abbrev Ls(p:i2):Bool:=(B9 p).all λq=>!q.2.1.isEmpty
abbrev dU(p:i2):Bool:=(B9 p).isNone
def ak{a b:Bool}(h:(a&&b)=ie):a=ie/\b=ie:=Bool.and_eq_true_iff.mp h
def ah{a:Type}{o:Option a}{f:a->Bool}(h:o.any f=ie):∃x,o=hI x/\f x=ie:=by
 cases o with
 |none=>cases h
 |some x=>exact⟨x,rfl,h⟩
theorem eW{b:Type}{l:List b}{f:b->Bool}(h:(dw l).any f=ie):∃a,l=[a]/\f a=ie:=let⟨a,e,c⟩:=ah h;{a,iZ e,c}
theorem Kz{c:Type}{l:List c}{f:c×c->Bool}(h:(B6 l).any f=ie):∃a b,l=[a,b]/\f (a,b)=ie:=let⟨q,e,d⟩:=ah h;{q.1,q.2,Ky e,d}
theorem SX{f:Str->Bool}(h:(j5 p).any f=ie):∃x np,p=.Name x np/\f x=ie:=let⟨x,e,a⟩:=ah h;let⟨np,z⟩:=eT e;⟨x,np,z,a⟩
theorem Zb{f:Const->Bool}(h:(Rw p).any f=ie):∃x a b,p=.Constant x a b/\f x=ie:=let⟨x,e,c⟩:=ah h;let⟨a,b,z⟩:=C3 e;⟨x,a,b,z,c⟩
theorem wD{f:Str×List i2->Bool}(h:(ux p).any f=ie):∃g as np pos,p=.Call (.Name g np) as [] pos/\f (g,as)=ie:=let⟨q,e,c⟩:=ah h;let⟨a,b,z⟩:=Mi e;⟨q.1,q.2,a,b,z,c⟩
theorem Vi{f:i2×i2->Bool}(h:(PM p).any f=ie):∃a b pos,p=.Subscript a b pos/\f (a,b)=ie:=let⟨q,e,c⟩:=ah h;let⟨x,z⟩:=Gg e;⟨q.1,q.2,x,z,c⟩
theorem Z5{f:Option i2×Option i2×Option i2->Bool}(h:(QB p).any f=ie):∃a b c pos,p=.Slice a b c pos/\f (a,b,c)=ie:=let⟨q,e,d⟩:=ah h;let⟨x,z⟩:=Py e;⟨q.1,q.2.1,q.2.2,x,z,d⟩
theorem Yn{f:UnaryOp×i2->Bool}(h:(Um p).any f=ie):∃o a pos,p=.UnaryOp o a pos/\f (o,a)=ie:=let⟨q,e,b⟩:=ah h;let⟨x,z⟩:=P8 e;⟨q.1,q.2,x,z,b⟩
theorem UN{f:i2×List CmpOp×List i2->Bool}(h:(Rv p).any f=ie):∃a o b pos,p=.Compare a o b pos/\f (a,o,b)=ie:=let⟨q,e,c⟩:=ah h;let⟨x,z⟩:=Mm e;⟨q.1,q.2.1,q.2.2,x,z,c⟩
theorem Xi{f:i2×List Comprehension×kv->Bool}(h:(SG p).any f=ie):∃a g s pos,p=.ListComp a g s pos/\f (a,g,s)=ie:=let⟨q,e,b⟩:=ah h;let⟨x,z⟩:=N8 e;⟨q.1,q.2.1,q.2.2,x,z,b⟩
theorem VU{f:BoolOp×List i2×Pos->Bool}(h:(Rl p).any f=ie):∃o vs pos,p=.BoolOp o vs pos/\f (o,vs,pos)=ie:=let⟨q,e,a⟩:=ah h;{q.1,q.2.1,q.2.2,Md e,a}
abbrev Zc:i2->Option (List (Option i2)×List i2)
 |.Dict ks vs _=>hI (ks,vs)|_=>h9
def Mu{q:List (Option i2)×List i2}(h:Zc p=hI q):∃pos,p=.Dict q.1 q.2 pos:=by
 cases p with
 |Dict a b pos=>cases h;exact{_,rfl}
 |_=>exact kT h
abbrev HN(z:Str):i2->Bool
 |.Constant (.str y) _ _=>z==y|_=>ig
def yQ(h:HN z p=ie):∃a b,p=.Constant (.str z) a b:=by
 unfold HN at h;split at h
 .exact{_,_,by rw [eq_of_beq h]}
 .cases h
abbrev UO:List (Str×Str)->List (Option i2)->List i2->Bool
 |[],ks,vs=>ks.isEmpty&&vs.isEmpty|z::zs,k::ks,v::vs=>k.any (HN z.1)&&((B2 v).any λps=>(dw ps).any (HN z.2))&&UO zs ks vs|_,_,_=>ig
mutual
noncomputable def aJ(Γ:Pg)(N:List Str)(sc:kv):E->i2->Bool
 |.var i,p=>(j5 p).any λx=>N[i]?==hI x&&ke sc x&&okN x|.Ks i,p=>(j5 p).any λx=>N[i]?==hI x&&ke sc x&&okN x|.cst q,p=>(Rw p).any (Ry q)|.glob g p,e=>(j5 e).any λx=>g==x&&fA sc x&&okN x&&Γ.gs.any λq=>q.1==g&&EC q.2 p|.call f as,p=>(ux p).any λq=>f==q.1&&Γ.fs.contains q.1&&fA sc q.1&&okN q.1&&hX as&&dt Γ N sc as q.2|.blt b as,p=>nq Γ ((ux p).any λq=>bN b==q.1&&fA sc q.1&&Γ.bs.contains q.1&&!isNil as&&dt Γ N sc as q.2)|.ty t a,p=>(ux p).any λq=>(B6 q.2).any λr=>(j5 r.2).any λtn=>q.1==(zu 15:Str)&&fA sc q.1&&Γ.bs.contains q.1&&tn==Str.ofString (yw t)&&fA sc tn&&Γ.bs.contains tn&&aJ Γ N sc a r.1|.zq c a,p=>(ux p).any λq=>(B6 q.2).any λr=>(j5 r.2).any λcn=>q.1==(zu 15:Str)&&fA sc q.1&&Γ.bs.contains q.1&&cn==c&&fA sc cn&&okN cn&&(Γ.cs.contains c||(c==(zu 0)&&Γ.bs.contains c))&&aJ Γ N sc a r.1
 |.dD m o as,p=>(B9 p).any λq=>(GY q.1).any λr=>q.2.2.1.isEmpty&&(mN m==r.2.1&&!isNil as&&decide (g8 as<30)&&r.2.2.endLine==q.2.2.2.line&&aJ Γ N sc o r.1&&dt Γ N sc as q.2.1&&dU r.1)|.bin o a b,p=>(Y0 p).any λq=>decide (Vf o=q.2.1)&&aJ Γ N sc a q.1&&aJ Γ N sc b q.2.2|.cmp o a b,p=>(Rv p).any λq=>(dw q.2.1).any λh=>(dw q.2.2).any λj=>decide (m8 o=h)&&aJ Γ N sc a q.1&&aJ Γ N sc b j|.ch o1 o2 a b c,p=>(Rv p).any λq=>(B6 q.2.1).any λh=>(B6 q.2.2).any λj=>decide (m8 o1=h.1)&&decide (m8 o2=h.2)&&aJ Γ N sc a q.1&&aJ Γ N sc b j.1&&aJ Γ N sc c j.2|.not a,p=>(Um p).any λq=>Ll q.1&&aJ Γ N sc a q.2|.neg a,p=>(Um p).any λq=>isNeg q.1&&aJ Γ N sc a q.2|.and a b,p=>(Rl p).any λq=>(UK q.1 q.2.2 q.2.1).any λr=>vq q.1&&d7 b&&aJ Γ N sc a r.1&&aJ Γ N sc b r.2|.or a b,p=>(Rl p).any λq=>(UK q.1 q.2.2 q.2.1).any λr=>!vq q.1&&d7 b&&aJ Γ N sc a r.1&&aJ Γ N sc b r.2|.ite c a b,p=>(W6 p).any λq=>gk c&&d7 a&&d7 b&&aJ Γ N sc c q.1&&aJ Γ N sc a q.2.1&&aJ Γ N sc b q.2.2|.tup as,p=>(B2 p).any λps=>hX as&&decide (g8 as<1000)&&dt Γ N sc as ps|.lst as,p=>(Xk p).any λps=>hX as&&decide (g8 as<1000)&&dt Γ N sc as ps|.sub a b,p=>(PM p).any λq=>aJ Γ N sc a q.1&&aJ Γ N sc b q.2|.slice a lo w,p=>(PM p).any λq=>(QB q.2).any λr=>r.2.2.isNone&&aJ Γ N sc a q.1&&Mj Γ N sc lo r.1&&Mj Γ N sc w r.2.1|.comp k s d it elt,p=>nq Γ ((SG p).any λq=>(dw q.2.1).any λg=>g.ifs.isEmpty&&(uY N sc q.2.2 k s (aV g.target)&&mz k d&&d7 elt&&uV Γ N sc g.target it g.iter&&fB (aV g.target++freeOf q.2.2) (dy q.2.2 sc) (qm q.2.2) d g.target&&aJ Γ.zI (aV g.target++freeOf q.2.2) (dy q.2.2 sc) elt q.1&&decide (g.is_async=0)))|.fI k s d it c elt,p=>nq Γ ((SG p).any λq=>(dw q.2.1).any λg=>(dw g.ifs).any λy=>gk c&&uY N sc q.2.2 k s (aV g.target)&&mz k d&&d7 elt&&uV Γ N sc g.target it g.iter&&fB (aV g.target++freeOf q.2.2) (dy q.2.2 sc) (qm q.2.2) d g.target&&aJ Γ.zI (aV g.target++freeOf q.2.2) (dy q.2.2 sc) c y&&aJ Γ.zI (aV g.target++freeOf q.2.2) (dy q.2.2 sc) elt q.1&&decide (g.is_async=0))|.rev a,p=>(PM p).any λq=>(QB q.2).any λr=>(r.2.2).any λst=>(Um st).any λu=>(Rw u.2).any λc=>r.1.isNone&&r.2.1.isNone&&isNeg u.1&&Xa c==hI 1&&aJ Γ N sc a q.1|.get a k,p=>(B9 p).any λq=>(GY q.1).any λr=>(dw q.2.1).any λA=>q.2.2.1.isEmpty&&r.2.1==("get":Str)&&r.2.2.endLine==q.2.2.2.line&&Ls r.1&&aJ Γ N sc a r.1&&aJ Γ N sc k A|.con a,p=>W9 a&&aJ Γ N sc a p|.Mt,p=>IX p|.Mv ks,p=>(Zc p).any λq=>UO ks q.1 q.2&&(!ks.isEmpty&&decide (ks.length<=15))|.fld i f,p=>(GY p).any λq=>(j5 q.1).any λx=>q.2.1==f&&(N[i]?==hI x&&ke sc x&&okN x)&&decide (cK f≠d5)|.EG a,p=>nq Γ ((ux p).any λq=>(dw q.2).any λz=>(ux z).any λr=>(dw r.2).any λB=>q.1==("list":Str)&&fA sc q.1&&Γ.bs.contains q.1&&r.1==(zu 4:Str)&&fA sc r.1&&Γ.bs.contains r.1&&aJ Γ N sc a B)
noncomputable def dt(Γ:Pg)(N:List Str)(sc:kv):Es->List i2->Bool
 |.nil,[]=>ie|.cons e a,p::ps=>aJ Γ N sc e p&&dt Γ N sc a ps|_,_=>ig
noncomputable def Mj(Γ:Pg)(N:List Str)(sc:kv):Oe->Option i2->Bool
 |.no,h9=>ie|.some e,hI p=>aJ Γ N sc e p|_,_=>ig
noncomputable def uV(Γ:Pg)(N:List Str)(sc:kv)(a:i2):I->i2->Bool
 |.seq e,p=>aJ Γ N sc e p|.pU e,p=>(ux p).any λq=>(dw q.2).any λr=>q.1==("range":Str)&&fA sc q.1&&Γ.bs.contains q.1&&aJ Γ N sc e r|.zip as,p=>(ux p).any λq=>isTup a&&q.1==("zip":Str)&&fA sc q.1&&Γ.bs.contains q.1&&hX as&&g8 as==2&&dt Γ N sc as q.2
end
set_option backward.match.sparseCases true
abbrev XE(W:Wd)(c:Str)(b H1:Hp):XK:=λd e f=>∃C a g,d=.ref C/\e=hI a/\c∈W.xs/\W.mg c=hI (.ref C)/\aE W b H1 g f
def uL(X:Cx)(W:Wd)(g:St)(c:Str)(G H:Hp):Prop:=∀(h:lu) (b a:Hp) (d:ix) (e:iv) (f:ix),Inv X h g a d->aE W G H b a->dz X.prog X.w X.stack a d (XE W c b a) e f->X.xe e f
def Out{b:Type}(X:Cx)(W:Wd)(r:Res b)(d:St)(G H:Hp)(k:b->Prop):Prop:=match r with
 |.ok a=>k a|.exc c=>uL X W d c G H|.bad=>False
section
variable{W:Wd}{F:aP}{G1:Hp}{α β:Type}
def uL.grow(h:uL X W σ c G H)(g:aE W G H G1 H1):uL X W σ c G1 H1:=λa G2 b d e f I g2 x=>h a G2 b d e f I (g.trans g2) x
def Out.grow{r:Res α}{k:α->Prop}(h:Out X W r σ G H k)(g:aE W G H G1 H1):Out X W r σ G1 H1 k:=by
 cases r with
 |ok a=>exact h|exc c=>exact uL.grow h g|bad=>exact h
def Out.imp{r:Res α}{k b:α->Prop}(h:Out X W r σ G H k)(i:∀a,k a->b a):Out X W r σ G H b:=by
 cases r with
 |ok a=>exact i a h|exc c=>exact h|bad=>exact h
def Out.bind{r:Res α}{f:α->Res β}{k:β->Prop}(h:Out X W (r.bind f) σ G H k):Out X W r σ G H λa=>Out X W (f a) σ G H k:=by
 cases r with
 |ok a=>exact h|exc c=>exact h|bad=>exact h
def Out.val{r:Res α}{k:α->Prop}(h:Out X W r σ G H k)(n:∀c,r≠.exc c):∃a,r=.ok a/\k a:=by
 cases r with
 |ok a=>exact⟨a,rfl,h⟩|exc c=>exact absurd rfl (n c)|bad=>exact h.elim
structure Got(W:Wd)(H0 G H:Hp)(e:E)(p:PV)(v:V):Prop where
 top:Top W Cn G H p v
 rep:d7 e=ie->Rep W G p v
def Got.of{e:E}{p:PV}(h:Rep W G p v):Got W H0 G H e p v:={.inl h,λZ=>h}
abbrev tE(X:Cx)(W:Wd)(F:aP)(e:E):TE:=λσ H Q=>∃b G env,SR W b env σ G H/\Out X W (az F e env) σ G H λp=>∀v c a,aE W G H c a->Got W b c a e p v->Q v a
abbrev tT(X:Cx)(W:Wd)(F:aP)(e:E):TT:=λσ H Q=>∃c G env,SR W c env σ G H/\Out X W (az F e env) σ G H λp=>∃b,p=.bl b/\∀d a,aE W G H d a->Q b a
structure LX(W:Wd)(H0 G H:Hp)(es:Es)(ps:List PV)(vs:List V):Prop where
 top:Paired (λv p=>Top W Cn G H p v) vs ps
 rep:hX es=ie->ai W G ps vs
abbrev tA(X:Cx)(W:Wd)(F:aP)(b:Es):TA:=λσ H Q=>∃c G env,SR W c env σ G H/\Out X W (bw F b env) σ G H λf=>∀d e a,aE W G H e a->LX W c e a b f d->Q d a
abbrev Gk(X:Cx)(W:Wd)(F:aP)(o:Oe):TO:=λσ H Q=>∃b G env,SR W b env σ G H/\Out X W (G6 F o env) σ G H λi=>∀c a,aE W G H c a->Q i a
def one{e:E}{f:PV->Res β}{k:β->Prop}(sr:SR W H0 env σ G H)(o:Out X W ((az F e env).bind f) σ G H k)
 (h:∀p v G1 H1,aE W G H G1 H1->Got W H0 G1 H1 e p v->SR W H0 env σ G1 H1->Out X W (f p) σ G1 H1 k->Q v H1):tE X W F e σ H Q:=
 {H0,G,env,sr,o.bind.imp λp a v G1 H1 g t=>h p v G1 H1 g t (sr.grow g) (a.grow g)}
def Jx{e:E}{f:Bool->Res β}{k:β->Prop}{Q:Bool->Hp->Prop}(sr:SR W H0 env σ G H)(o:Out X W ((az F e env).bind λp=>yF p f) σ G H k)
 (h:∀b G1 H1,aE W G H G1 H1->SR W H0 env σ G1 H1->Out X W (f b) σ G1 H1 k->Q b H1):tT X W F e σ H Q:=by
 refine{H0,G,env,sr,o.bind.imp λp a=>?_}
 cases p with
 |bl b=>exact{b,rfl,λG1 H1 g=>h b G1 H1 g (sr.grow g) (Out.grow a g)}|aR=>exact el a|int _=>exact el a|str _=>exact el a|tup _=>exact el a|lst _=>exact el a|exc _=>exact el a|obj _=>exact el a|cq _ _=>exact el a
def args{a:Es}{f:List PV->Res β}{k:β->Prop}{Q:List V->Hp->Prop}(sr:SR W H0 env σ G H)(o:Out X W ((bw F a env).bind f) σ G H k)
 (h:∀ps vs G1 H1,aE W G H G1 H1->LX W H0 G1 H1 a ps vs->SR W H0 env σ G1 H1->Out X W (f ps) σ G1 H1 k->Q vs H1):tA X W F a σ H Q:=
 {H0,G,env,sr,o.bind.imp λp b v G1 H1 g t=>h p v G1 H1 g t (sr.grow g) (b.grow g)}
def Got.grow{G2 a:Hp}{e:E}{p:PV}(h:Got W H0 G H e p v)(g:aE W G H G2 a):Got W H0 G2 a e p v:={h.top.grow g,λz=>Rep.same g.g p (h.rep z)}
def Cr(W:Wd)(G:Hp):Option (Str×List Nat)->List PV->List V->Prop
 |none,as,vs=>ai W G as vs|some _,_,_=>False
abbrev F7(W:Wd)(F:aP)(f:Str)(n:Nat)(q:Option (Str×List Nat)):Sp:=λb H Q E=>b.length=n/\∃G as,aC G H/\bA W G H/\Cr W G q as b/\(match F f as with
 |.ok p=>∀v d a,aE W G H d a->Rep W d p v->Q v a|.exc c=>∀e g a,XE W c G H e g a->E e g a|.bad=>False)
structure Ct(X:Cx)(W:Wd)(F:aP)(k:Nat)(f:Str):Prop where
 ex:∃fa fd ps,fy X.prog X.w X.K X.mg X.base (dz X.prog X.w) k fa fd ps (F7 W F f ps.length h9)/\X.mg f=hI (.ref fa)/\PySem.W.keepIn X.K (.ref fa)=ie/\Binds X.K fd ps []/\∀as,F f as≠.bad->as.length=ps.length
structure QH(X:Cx)(W:Wd)(F:aP)(k:Nat)(q:Hs):Prop where
 ex:∃fa fd ps,fy X.prog X.w X.K X.mg X.base (dz X.prog X.w) k fa fd ps (F7 W F q.f ps.length (hI (q.g,q.idx)))/\X.mg q.h=hI (.ref fa)/\PySem.W.keepIn X.K (.ref fa)=ie/\Binds X.K fd ps []/\ps.length=q.np
structure e8(Γ:Pg)(F:aP)(W:Wd)(N:List Str)(sc:kv)(k:Nat)(X:Cx):Prop where
 hN:X.N=N
 fQ:X.env.scope=sc
 calm:Γ.qt=ig->X.calm=ie
 nd:N.Nodup
 K:W.K=X.K
 mg:W.mg=X.mg
 gs:∀q∈Γ.gs,∃u v,X.mg q.1=hI u/\RelV v u/\∀G,Rep W G q.2 v
 bs:∀g∈Γ.bs,X.mg g=h9
 room:dm (k+1) X.A
 fns:∀f,Γ.fs.contains f=ie->Ct X W F k f
 Ow:Γ.cs.contains (zu 0)=ig
 cls:∀c∈Γ.cs,∃C,X.mg c=hI (.ref C)
 xc:∀d∈W.xs,∀D,X.mg d=hI (.ref D)->nR X.K D/\(∀c∈Γ.cs,∀C,X.mg c=hI (.ref C)->PySem.W.kitOne X.K (.ref D) (.ref C)=hI (c==d||c==(zu 2)))/\PySem.W.kitOne X.K (.ref D) (.type (zu 0))=hI ie
 NF:∀q∈Γ.hs,QH X W F k q
 XM:∀f,Γ.qs.contains f=ie->2<=k/\Ct X W F 2 f
 any:∀g as,F g as≠.bad->Γ.fs.contains g=ie\/fq g=ie
 fld:∀f q,cK f≠d5->F (cK f) [q]≠.bad->∃n o p,q=.obj n/\W.ob[n]?=hI o/\bC o.c=ig/\o.fs.lookup f=hI p/\F (cK f) [q]=.ok p/\wC X.K o.C/\cI X.K o.C f
 con:∀q,F d5 [q]≠.bad->∃n o,q=.obj n/\W.ob[n]?=hI o/\bC o.c=ie/\F d5 [q]=.ok (AL o)
 tb:Γ.hl=ie->∃c P,X.env.code=.ref c/\PySem.W.CodeHd X.base c P/\(P,X.env.qual++(zu 11))∈W.ts/\∀q',(P,q')∈W.ts->q'=X.env.qual++(zu 11)
 bm:Γ.hl=ie->Cs X.mg X.base
 fl:Γ.hl=ie->∀x,X.fn x=ie
variable{Γ:Pg}{sc:kv}{k:Nat}
def yx(C:zv4 X)(h:ke sc x=ie):QW X.env.scope x:=by
 rw [C.fQ];unfold ke jc at h;simp! [eH,zzy] at h;rcases h with(h|h)|h
 .exact .inl h
 .exact .inr (.inl h)
 .exact .inr (.inr h)
def cH(C:zv4 X){x:Str}(h:fA sc x=ie):Gl X x:=by show X.env.scope.names.lookup x=_;rw [C.fQ];exact zzy.mp h
def ei(h:okN x=ie):(x==(zu 19:Str))=ig/\(x==("__classdict__":Str))=ig/\x≠(zu 36):=by unfold okN at h;simp! [zza,Bool.not_eq_true',beq_eq_false_iff_ne] at h;exact{beq_eq_false_iff_ne.mpr h.1.1,beq_eq_false_iff_ne.mpr h.1.2,h.2}
noncomputable abbrev GE(X:Cx)(W:Wd)(F:aP)(e:E)(p:i2):Prop:=PE X p (tE X W F e)
noncomputable abbrev GT(X:Cx)(W:Wd)(F:aP)(e:E)(p:i2):Prop:=PT X p (tT X W F e)
noncomputable abbrev GW(X:Cx)(W:Wd)(F:aP)(e:E)(p:i2):Prop:=PW X p (tT X W F e)
def _root_.L2.PE.imp{t t':TE}(h:PE X p t)(i:∀σ H Q,t' σ H Q->t σ H Q):PE X p t':=λa s σ H Q I b=>h a s σ H Q I (i σ H Q b)
def _root_.L2.PT.imp{t t':TT}(h:PT X p t)(i:∀σ H Q,t' σ H Q->t σ H Q):PT X p t':=λa s σ H Q I b=>h a s σ H Q I (i σ H Q b)
def _root_.L2.PW.imp{t t':TT}(h:PW X p t)(i:∀σ H Q,t' σ H Q->t σ H Q):PW X p t':=λw a s σ H Q I b=>h w a s σ H Q I (i σ H Q b)
def _root_.L2.PA.imp{p:List i2}{t t':TA}(h:PA X p t)(i:∀σ H Q,t' σ H Q->t σ H Q):PA X p t':=λa b s σ H Q I c=>h a b s σ H Q I (i σ H Q c)
def LN{e:E}(σ:St)(H:Hp)(Q:Bool->Hp->Prop)(h:tT X W F e σ H Q):tB (tE X W F e) σ H Q:=by let(a,G,env,sr,o):=h;refine{a,G,env,sr,o.imp λp c v d f g t=>?_};let(b,rfl,q):=c;exact{b,t.top.bl,q d f g}
def wu{e:E}(σ:St)(H:Hp)(Q:Bool->Hp->Prop)(h:tT X W F e σ H Q):Gm (tE X W F e) σ H Q:=LN σ H Q h
def Ip{i:Nat}(hn:X.N[i]?=hI x)(a:QW X.env.scope x)(h:okN x=ie):GE X W F (.var i) (.Name x pos):=by
 let(b,c,g):=ei h;refine(mi (i:=i) hn a b c).imp λσ H Q d=>?_;let(j,G,env,sr,o):=d;replace o:Out X W (mS env[i]?) σ G H _:=o
 cases e:env[i]? with
 |none=>rw [e] at o;exact o.elim|some f=>
  cases f with
  |no=>rw [e] at o;exact o.elim|own p=>rw [e] at o;exact o.elim|val p=>rw [e] at o;let(o2,hs,v,rfl,r):=sr.slot i _ e;exact{v,hs,o v G H (.refl sr.sub) (.of r)}
def DK(C:zv4 X){i:Nat}(h:(N[i]?==hI x&&ke sc x&&okN x)=ie):GE X W F (.var i) (.Name x pos):=by simp! [zza,zzy] at h;exact Ip (by rw [C.hN];exact h.1.1) (yx C h.1.2) h.2
def Nc(C:zv4 X){i:Nat}(h:(N[i]?==hI x&&ke sc x&&okN x)=ie):GE X W F (.Ks i) (.Name x pos):=by
 simp! [zza,zzy] at h;let(a,b,f):=ei h.2;refine(mi (i:=i) (by rw [C.hN];exact h.1.1) (yx C h.1.2) a b).imp λσ H Q c=>?_;let(g,G,env,sr,o):=c;replace o:Out X W (z9 env[i]?) σ G H _:=o
 cases e:env[i]? with
 |none=>rw [e] at o;exact o.elim|some d=>
  cases d with
  |no=>rw [e] at o;exact o.elim|own p=>rw [e] at o;let(o2,hs,v,rfl,r):=sr.slot i _ e;exact{v,hs,o v G H (.refl sr.sub) {.inr r.any,nofun}}|val p=>rw [e] at o;let(o2,hs,v,rfl,r):=sr.slot i _ e;exact{v,hs,o v G H (.refl sr.sub) (.of r)}
def iD{p:PV}(h:PE X e (tC v))(r:∀G,Rep W G p v):GE X W F (.cst p) e:=by refine L2.PE.imp h λσ H Q a=>?_;let(b,G,env,sr,o):=a;exact o v G H (.refl sr.sub) (.of (r G))
def Im(C:zv4 X){p:PV}(h:(g==x&&fA sc x&&okN x&&Γ.gs.any λq=>q.1==g&&EC q.2 p)=ie):GE X W F (.glob g p) (.Name x pos):=by simp! [zza,zzy,ek] at h;let(((rfl,b),c),q,a,d,e):=h;let(u,v,hm,rv,hr):=C.gs q a;rw [d] at hm;cases ED e;refine(zR (cH C b) hm rv (ei c).1).imp λσ H Q a=>?_;let(f,G,env,sr,o):=a;exact o v G H (.refl sr.sub) (.of (hr G))
def Res.aO{α:Type}{o:Option α}(c:Str):Res.of o≠.exc c:=by cases o<;>exact nofun
def qj{α β:Type}{o:Option α}{f:α->Res β}(h:∀a,f a≠.exc c):(Res.of o).bind f≠.exc c:=by
 cases o with
 |none=>exact nofun|some a=>exact h a
def qo{o:KN}{p:PV}(c:Str):binOp o p q≠.exc c:=by
 unfold binOp
 repeat' split
 all_goals exact nofun
local macro_rules|`(tactic|ac_rfl)=>`(tactic|repeat' first|split|refine qj fun _=>?_|exact Res.aO _|exact nofun)
def Jn{p:PV}(c:Str):gS p q≠.exc c:=by
 unfold gS
 ac_rfl
def Ju{p:PV}(c:Str):iJ p q≠.exc c:=by
 unfold iJ
 ac_rfl
def Jt{p:PV}(c:Str):vP p q≠.exc c:=by
 unfold vP
 ac_rfl
def Js{p:PV}(c:Str):vO p q≠.exc c:=by
 unfold vO
 ac_rfl
def Jp{p:PV}(c:Str):xU p q≠.exc c:=by
 unfold xU
 ac_rfl
def Jo{p:PV}(c:Str):xS p q≠.exc c:=by
 unfold xS
 ac_rfl
def Jr{p:PV}(c:Str):E8 p q≠.exc c:=by
 unfold E8
 ac_rfl
def Jq{p:PV}(c:Str):ql p q≠.exc c:=by
 unfold ql
 ac_rfl
def E4{p:PV}(c:Str):o6 p q≠.exc c:=by
 unfold o6
 ac_rfl
def E3{p:PV}(c:Str):rC p q≠.exc c:=by
 unfold rC
 ac_rfl
def cR{o:uu}{p:PV}(c:Str):cB o p q≠.exc c:=match o with
 |.eq=>Jn c|.ne=>Ju c|.lt=>Jt c|.le=>Js c|.gt=>Jp c|.ge=>Jo c|.is=>Jr c|.Ed=>Jq c|.Hi=>E4 c|.Cm=>E3 c
def two{a:PV->PV->Res PV}{b d:E}{e:E}(hn:∀p q c,a p q≠.exc c)(he:∀env,az F e env=(az F b env).bind λx=>(az F d env).bind λy=>a x y)
 (h:tE X W F e σ H Q):QD (uF W a) (tE X W F b) (tE X W F d) σ H Q:=by
 let(A,G,env,sr,o):=h;rw [he] at o;refine one sr o λp v G1 H1 g1 f g o1=>one g o1 λq u G2 B g2 t2 i o2=>?_;let(r,hr,j):=o2.val (hn p q);exact{Cn,G2,p,q,r,i.sub,f.top.grow g2,t2.top,hr,λw m s t z=>j w m s ((g1.trans g2).trans t) (.of z)}
def Ik(hK:W.K=X.K){o:KN}{a b:E}(ha:GE X W F a d)(f:GE X W F b e):GE X W F (.bin o a b) (.BinOp d (Vf o) e pos):=
 (Tr (OB hK o) ha f).imp λσ H Q h=>two (λp q c=>qo c) (λenv=>by rw [az]) h
def MW(C:zv4 X){o:KN}{a b:E}{c:i2}(ha:GE X W F a c)(e:GE X W F b d):GE X W F (.bin o a b) (.BinOp c (Vf o) d pos):=Ik C.K ha e
def MY(C:zv4 X){o:uu}{a b:E}(ha:GE X W F a e)(f:GE X W F b d)(hm:behindInMarks (m8 o) d=ig):GE X W F (.cmp o a b) (.Compare e [m8 o] [d] pos):=
 (zP (gU C.K C.room.units o) ha f hm).imp λσ H Q h=>two (λp q c=>cR c) (λenv=>by rw [az]) h
theorem Nu(C:zv4 X){o:uu}{a b:E}(ha:GE X W F a e)(f:GE X W F b d)(hm:behindInMarks (m8 o) d=ig):GT X W F (.cmp o a b) (.Compare e [m8 o] [d] pos):=
 (zT (gU C.K C.room.units o) ha f hm).imp λσ H Q h=>by have g:=wu σ H Q h;exact two (λp q c=>cR c) (λenv=>by rw [az]) g
def K5{c1 f:uu}{a b c:E}(σ:St)(H:Hp)(Q:VK)(h:tE X W F (.ch c1 f a b c) σ H Q):yo (uF W (cB c1)) (uF W (cB f)) (tE X W F a) (tE X W F b) (tE X W F c) σ H Q:=by
 let(Y,G,env,sr,o):=h;rw [az] at o;refine one sr o λp v G1 H1 g1 D I o1=>one I o1 λq u G2 s g2 t2 A o2=>?_;let(r,hr,d):=o2.bind.val (cR);refine{Cn,G2,p,q,r,A.sub,D.top.grow g2,t2.top,hr,λw K L e B=>?_}
 cases r with
 |bl t=>
  simp! [Rep] at B;subst B;refine{t,rfl,?_};cases t with
  |false=>rw [if_neg zzf];have g:Out X W (Res.ok (PV.bl ig)) σ G2 s _:=d;exact g _ K L ((g1.trans g2).trans e) (.of .b)|true=>rw [if_pos rfl];have g:Out X W ((az F c env).bind λz=>cB f q z) σ G2 s _:=d;refine one (A.grow e) (g.grow e) λz y M Z C O P R=>?_;let(S,i,j):=R.val (cR);exact{Cn,M,q,z,S,P.sub,t2.top.grow (e.trans C),O.top,i,λw T U V m=>j w T U ((((g1.trans g2).trans e).trans C).trans V) (.of m)}
 |aR=>exact el d|int _=>exact el d|str _=>exact el d|tup _=>exact el d|lst _=>exact el d|exc _=>exact el d|obj _=>exact el d|cq _ _=>exact el d
def RL(C:zv4 X){o1 o2:uu}{a b c:E}{f:i2}(ha:GE X W F a f)(g:GE X W F b d)(h:GE X W F c e)(hm:lastMarks [m8 o1,m8 o2] [d,e]=ig):GE X W F (.ch o1 o2 a b c) (.Compare f [m8 o1,m8 o2] [d,e] pos):=
 (Fe (gU C.K C.room.units o1) (gU C.K C.room.units o2) ha g h hm).imp K5
def RO(C:zv4 X){o1 o2:uu}{a b c:E}{f:i2}(ha:GE X W F a f)(g:GE X W F b d)(i:GE X W F c e)(hm:lastMarks [m8 o1,m8 o2] [d,e]=ig):GT X W F (.ch o1 o2 a b c) (.Compare f [m8 o1,m8 o2] [d,e] pos):=
 (FK (gU C.K C.room.units o1) (gU C.K C.room.units o2) ha g i hm).imp λσ H Q h=>K5 σ H _ (wu σ H Q h)
theorem DI{a:E}{b:i2}(ha:GE X W F a b):GE X W F (.neg a) (.UnaryOp .USub b pos):=
 (Tt (KC (W:=W)) ha).imp λσ H Q h=>by
  let(m,G,env,sr,o):=h;rw [az] at o;refine one sr o λp v G1 H1 g1 c d o1=>?_
  cases p with
  |int i=>exact{Cn,G1,i,d.sub,c.top,λw e f g j=>o1 w e f (g1.trans g) (.of j)}|bl _=>exact el o1|aR=>exact el o1|str _=>exact el o1|tup _=>exact el o1|lst _=>exact el o1|exc _=>exact el o1|obj _=>exact el o1|cq _ _=>exact el o1
theorem M9{a:E}{c:i2}(ha:GE X W F a c):GE X W F (.not a) (.UnaryOp .Not c pos):=
 (OZ ha).imp λσ H Q h=>by
  let(e,G,env,sr,o):=h;rw [az] at o;refine one sr o λp v G1 H1 g1 d f o1=>?_
  cases p with
  |bl b=>exact{b,d.top.bl,o1 _ G1 H1 g1 (.of .b)}|int _=>exact el o1|aR=>exact el o1|str _=>exact el o1|tup _=>exact el o1|lst _=>exact el o1|exc _=>exact el o1|obj _=>exact el o1|cq _ _=>exact el o1
theorem Nv{a:E}{c:i2}(ha:GT X W F a c):GT X W F (.not a) (.UnaryOp .Not c pos):=
 (O8 ha).imp λσ H Q h=>by let(d,G,env,sr,o):=h;rw [az] at o;refine Jx sr o λb G1 H1 g1 f o1=>?_;let(g,e,q):=o1;cases e;exact q G1 H1 g1
theorem DG{a b:E}{r:List i2}(he:d7 b=ie)(ha:GE X W F a d)(f:GE X W F b (.BoolOp .And (e::r) pos)):GE X W F (.and a b) (.BoolOp .And (d::e::r) pos):=
 (OT ha f).imp λσ H Q h=>by
  let(g,G,env,sr,o):=h;rw [az] at o;refine one sr o λp v G1 H1 g1 i j o1=>?_
  cases p with
  |bl t=>
   refine{t,i.top.bl,?_};cases t with
   |true=>rw [if_pos rfl];have c:Out X W (az F b env) σ G1 H1 _:=o1;exact{g,G1,env,j,c.imp λp m v q s u w=>m v q s (g1.trans u) (.of (w.rep he))}|false=>rw [if_neg zzf];have c:Out X W (Res.ok (PV.bl ig)) σ G1 H1 _:=o1;exact c _ G1 H1 g1 (.of .b)
  |int _=>exact el o1|aR=>exact el o1|str _=>exact el o1|tup _=>exact el o1|lst _=>exact el o1|exc _=>exact el o1|obj _=>exact el o1|cq _ _=>exact el o1
theorem Ld{a b:E}{r:List i2}(he:d7 b=ie)(ha:GE X W F a d)(f:GE X W F b (.BoolOp .Or (e::r) pos)):GE X W F (.or a b) (.BoolOp .Or (d::e::r) pos):=
 (Ts ha f).imp λσ H Q h=>by
  let(g,G,env,sr,o):=h;rw [az] at o;refine one sr o λp v G1 H1 g1 i j o1=>?_
  cases p with
  |bl t=>
   refine{t,i.top.bl,?_};cases t with
   |false=>rw [if_neg zzf];have c:Out X W (az F b env) σ G1 H1 _:=o1;exact{g,G1,env,j,c.imp λp m v q s u w=>m v q s (g1.trans u) (.of (w.rep he))}|true=>rw [if_pos rfl];have c:Out X W (Res.ok (PV.bl ie)) σ G1 H1 _:=o1;exact c _ G1 H1 g1 (.of .b)
  |int _=>exact el o1|aR=>exact el o1|str _=>exact el o1|tup _=>exact el o1|lst _=>exact el o1|exc _=>exact el o1|obj _=>exact el o1|cq _ _=>exact el o1
theorem DV{a b:E}{f:i2}{r:List i2}(ha:GT X W F a d)(g:GW X W F b (.BoolOp .And (f::r) pos)):GW X W F (.and a b) (.BoolOp .And (d::f::r) pos):=
 (pw_and ha g).imp λσ H Q h=>by
  let(i,G,env,sr,o):=h;rw [az] at o;refine Jx sr o λt G1 H1 g1 j o1=>?_
  cases t with
  |true=>rw [if_pos rfl];have m:Out X W (az F b env) σ G1 H1 _:=o1;exact{i,G1,env,j,m.imp λp s=>by let(c,rfl,q):=s;exact{c,rfl,λu w y=>q u w (g1.trans y)}}|false=>rw [if_neg zzf];let(c,e,q):=(show Out X W (Res.ok (PV.bl ig)) σ G1 H1 _ from o1);cases e;exact q G1 H1 g1
theorem Lf{a b:E}{f:i2}{r:List i2}(ha:GT X W F a d)(g:GW X W F b (.BoolOp .Or (f::r) pos)):GW X W F (.or a b) (.BoolOp .Or (d::f::r) pos):=
 (pw_or ha g).imp λσ H Q h=>by
  let(i,G,env,sr,o):=h;rw [az] at o;refine Jx sr o λt G1 H1 g1 j o1=>?_
  cases t with
  |false=>rw [if_neg zzf];have m:Out X W (az F b env) σ G1 H1 _:=o1;exact{i,G1,env,j,m.imp λp s=>by let(c,rfl,q):=s;exact{c,rfl,λu w y=>q u w (g1.trans y)}}|true=>rw [if_pos rfl];let(c,e,q):=(show Out X W (Res.ok (PV.bl ie)) σ G1 H1 _ from o1);cases e;exact q G1 H1 g1
theorem M7{c a b:E}{q r s:i2}(y:d7 a=ie)(d:d7 b=ie)(z:GT X W F c q)(ha:GE X W F a r)(A:GE X W F b s):GE X W F (.ite c a b) (.IfExp q r s pos):=
 (vU z ha A).imp λσ H Q h=>by
  let(u,G,env,sr,o):=h;rw [az] at o;refine Jx sr o λt G1 H1 g1 w o1=>?_
  cases t with
  |true=>rw [if_pos rfl];have e:Out X W (az F a env) σ G1 H1 _:=o1;exact{u,G1,env,w,e.imp λp f v g i j m=>f v g i (g1.trans j) (.of (m.rep y))}|false=>rw [if_neg zzf];have e:Out X W (az F b env) σ G1 H1 _:=o1;exact{u,G1,env,w,e.imp λp f v g i j m=>f v g i (g1.trans j) (.of (m.rep d))}
abbrev tF(X:Cx)(W:Wd)(F:aP)(e:E):TE:=λσ H Q=>∃f G env,SR W f env σ G H/\Out X W (az F e env) σ G H λp=>∃xs,p=.lst xs/\∀a c d b,aE W G H d b->b a=h9->ai W d xs c->Q (.ref a) (upd b a (.lst c))
noncomputable abbrev GF(X:Cx)(W:Wd)(F:aP)(e:E)(p:i2):Prop:=PE X p (tF X W F e)
theorem GF.ge{e:E}(h:GF X W F e p)(hl:∀env q,az F e env=.ok q->∃xs,q=.lst xs):GE X W F e p:=
 L2.PE.imp h λσ H Q b=>by
  let(d,G,env,sr,o):=b
  refine{d,G,env,sr,?_};cases r:az F e env with
  |bad=>rw [r] at o;exact o|exc c=>rw [r] at o;exact o|ok q=>rw [r] at o;let(xs,rfl):=hl env q r;exact{xs,rfl,λa f i j g ha l=>o _ _ _ (g.trans (.new g.sub ha)) (.of (.l (.inl (.inl aq)) (ai.same (bj (g.sub.free ha)) xs l)))}
set_option tactic.hygienic true in
def notStar{e:E}(h:aJ Γ N sc e p=ie):∀env ps,starEach (p::ps) env=(ig,eval p env)::starEach ps env:=by
 intro env ps;cases p<;>first|rfl|(cases e<;>first|(exact aN h)|(rename_i q;cases q<;>exact aN h))
theorem cE:∀{a:Es} {ps:List i2},dt Γ N sc a ps=ie->∀env pos,(backTo pos (starEach ps env)).any (·.1)=ig
 |.nil,[],_,_,_=>rfl|.cons e a,p::ps,h,env,pos=>by replace h:=ak h;rw [notStar h.1];show(ig||(backTo pos (starEach ps env)).any (·.1))=ig;rw [cE h.2];rfl
 |.nil,_::_,h,_,_=>aN h|.cons _ _,[],h,_,_=>aN h
noncomputable abbrev GA(X:Cx)(W:Wd)(F:aP)(a:Es)(ps:List i2):Prop:=PA X ps (tA X W F a)
theorem MV:GA X W F .nil []:=L2.PA.imp cC λσ H Q h=>by let(a,G,env,sr,o):=h;rw [bw] at o;exact o [] G H (.refl sr.sub) {.nil,λZ=>.nil}
theorem Ij{e:E}{a:Es}{ps:List i2}(he:GE X W F e p)(hs:GA X W F a ps)(c:starEach (p::ps) X.env=(ig,eval p X.env)::starEach ps X.env):GA X W F (.cons e a) (p::ps):=
 L2.PA.imp (bx he hs c) λσ H Q h=>by let(j,G,env,sr,o):=h;rw [bw] at o;refine one sr o λq v G1 H1 g1 b d o1=>args d o1 λqs f G2 i g2 t2 m o2=>?_;refine o2 (v::f) G2 i (g1.trans g2) {.cons (b.top.grow g2) t2.top,λz=>?_};unfold hX at z;rw [zza] at z;exact .cons (Rep.same g2.g q (b.rep z.1)) (t2.rep z.2)
theorem kL:∀{a:Es} {env:Sl} {ps:List PV},bw F a env=.ok ps->ps.length=g8 a
 |.nil,env,ps,h=>by rw [bw] at h;cases h;rfl
 |.cons e a,env,ps,h=>by rw [bw] at h;let(p,_,h):=Res.aK h;let(qs,b,h):=Res.aK h;cases h;rw [c4,kL b];rfl
theorem Nd{a:Es}{ps:List i2}{x1:Nat}(e:hX a=ie)(hl:g8 a<1000)(h:GA X W F a ps):GE X W F (.tup a) (.Tuple ps x1 pos):=
 L2.PE.imp (xZ h) λσ H Q f=>by
  let(g,G,env,sr,o):=f;rw [az] at o;have i:=o
  refine{g,G,env,sr,?_};cases r:bw F a env with
  |bad=>rw [r] at o;exact o|exc c=>rw [r] at o;exact o|ok qs=>rw [r] at o;have b:=kL r;intro j G1 H1 g1 t;have l:=t.rep e;refine{by rw [l.length,b];exact Nat.le_of_lt (Nat.lt_trans hl ↑2),λp d=>?_};exact o _ _ _ (g1.trans (.new g1.sub d)) (.of (.t (.inl aq) (ai.same (bj (g1.sub.free d)) qs l)))
theorem DM{a:Es}{ps:List i2}(d:hX a=ie)(hl:g8 a<1000)(h:GA X W F a ps):GF X W F (.lst a) (.List ps pos):=
 L2.PE.imp (Fj h) λσ H Q f=>by
  let(g,G,env,sr,o):=f
  rw [az] at o;refine{g,G,env,sr,?_};cases r:bw F a env with
  |bad=>rw [r] at o;exact o|exc c=>rw [r] at o;exact o|ok qs=>rw [r] at o;have b:=kL r;let(xs,e,o):=o;cases e;intro i G1 H1 g1 t;have l:=t.rep d;exact{by rw [l.length,b];exact Nat.le_of_lt (Nat.lt_trans hl ↑2),λp j=>o p i G1 H1 g1 j l}
theorem lst_is{a:Es}:∀env q,az F (.lst a) env=.ok q->∃xs,q=.lst xs:=λenv q h=>by rw [az] at h;let(b,_,h):=Res.aK h;cases h;exact{_,rfl}
def Bz{p:PV}(c:Str):aB p q≠.exc c:=by
 unfold aB
 ac_rfl
def Nb(C:zv4 X){a b:E}(ha:GE X W F a e)(f:GE X W F b d)(hs:rQ d):GE X W F (.sub a b) (.Subscript e d pos):=
 (Tq (Xf C.K C.room.units) ha f hs).imp λσ H Q h=>two (λp q c=>Bz c) (λenv=>by rw [az]) h
set_option tactic.hygienic true in
def Fv{e:E}(h:aJ Γ N sc e p=ie):rQ p:=by
 intro o i;cases p<;>first|rfl|(cases e<;>first|(exact aN h)|(rename_i q;cases q<;>exact aN h))
set_option tactic.hygienic true in
def sX{e:E}(h:aJ Γ N sc e p=ie)(a:CmpOp):behindInMarks a p=ig:=by
 cases p<;>first|rfl|(cases e<;>first|(exact aN h)|(rename_i q;cases q<;>exact aN h))
theorem Ir:PO X h9 (Gk X W F .no):=λa s σ H Q I h=>JQ a s σ H Q I (by let(b,G,env,sr,o):=h;rw [G6] at o;exact o G H (.refl sr.sub))
theorem Iu{e:E}(h:GE X W F e p):PO X (hI p) (Gk X W F (.some e)):=λa s σ H Q I b=>JR h a s σ H Q I (by
 let(d,G,env,sr,o):=b;rw [G6] at o;refine one sr o λq v G1 H1 g1 c f o1=>?_
 cases q with
 |int i=>exact{i,c.top.int,o1 G1 H1 g1}|bl _=>exact el o1|aR=>exact el o1|str _=>exact el o1|tup _=>exact el o1|lst _=>exact el o1|exc _=>exact el o1|obj _=>exact el o1|cq _ _=>exact el o1)
def vL{p:PV}{a b:Option Int}(c:Str):gX p a b≠.exc c:=by
 unfold gX
 ac_rfl
theorem DJ(C:zv4 X){a:E}{f g:Oe}{i:i2}{j m:Option i2}{s:Pos}(ha:GE X W F a i)(hl:PO X j (Gk X W F f))(t:PO X m (Gk X W F g)):GE X W F (.slice a f g) (.Subscript i (.Slice j m h9 s) pos):=
 (Fo (X0 C.K) ha hl t).imp λσ H Q h=>by let(q,G,env,sr,o):=h;rw [az] at o;refine one sr o λp v G1 H1 g1 u d o1=>?_;refine{q,G1,env,d,o1.bind.imp λl y G2 M g2=>?_};refine{q,G2,env,d.grow g2,(y.grow g2).bind.imp λO e z P b=>?_};let(r,hr,A):=(e.grow b).val (λc=>vL c);exact{Cn,z,p,r,((d.grow g2).grow b).sub,u.top.grow (g2.trans b),hr,λw B D I L=>A w B D (((g1.trans g2).trans b).trans I) (.of L)}
def zZ{CX:Al}{f:i1}{fd:FuncData}{ps:List Str}{sp:Sp}{E:XK}{s:ix}(b:fy X.prog X.w X.K X.mg X.base CX k f fd ps sp)(hr:dm k X.A)(d:Binds X.K fd ps [])
 (g:∀e s',CX X.stack H s E e s'->X.xe e s') (I:zv1 s) (r:Vals vs us) (h:sp vs H Q E):zx7 X (call (.ref f) us) (EP X aa σ Q) X.xe s:=by
 have hl:us.length=ps.length:=by rw [<-r.length];exact b.len _ _ _ _ h
 have c:=d s us I.jZ (by rw [hF];exact hl);rw [hF] at c;refine wpAny_call (codeAny_mono (b.run X.A X.stack s H {us,[]} us vs Q E hr I.vd c r h) λr s' a=>?_)
 cases r with
 |error e=>exact g e s' a|ok fl=>
  cases fl with
  |ret u=>exact I.after a|next=>exact el a|brk=>exact el a|cont=>exact el a
def Hu.imp{P:jX}{w:kd}{s s':ix}{E c:XK}{e:iv}(h:dz P w outer H s E e s')(i:∀C a b,E C a b->c C a b):dz P w outer H s c e s':=by let(a,C,t,d,b,B,rfl,F):=h;exact{a,C,t,d,b,B,rfl,{F.os,F.bare,F.aM,F.Dx,F.tn,F.tup,F.fk,F.cY,F.un,i _ _ _ F.ends}}
def kD(hr:dm k X.A){i:i1}{fd:FuncData}{pn:List Str}{q:Option (Str×List Nat)}{s:ix}{as:List PV}
 (C:fy X.prog X.w X.K X.mg X.base (dz X.prog X.w) k i fd pn (F7 W F f pn.length q)) (D:Binds X.K fd pn []) (d:F f as≠.bad->vs.length=pn.length)
 (I:zv1 s) (j:aC G H) (tb:bA W G H) (l:Cr W G q as vs) (r:Vals vs us) (o:Out X W (F f as) σ G H λp=>dW W G H p Q):zx7 X (call (.ref i) us) (EP X aa σ Q) X.xe s:=by
 have h:F f as≠.bad:=λz=>by rw [z] at o;exact o
 refine zZ (E:=λm u b=>∃c,F f as=.exc c/\XE W c G H m u b) C hr D (λe L x=>?_) I r {d h,G,as,j,tb,l,?_}
 .cases z:F f as with
  |ok q=>let(a,R,t,vs,b,B,rfl,Fl):=x;let(c,g,_):=Fl.ends;rw [z] at g;cases g
  |exc c=>rw [z] at o;refine o aa G H s e L I (.refl j) (Hu.imp x λS a b y=>?_);let(T,g,y):=y;rw [z] at g;cases g;exact y
  |bad=>exact absurd z h
 .cases z:F f as with
  |ok q=>rw [z] at o;exact λv M b O P=>o v M b O P|exc c=>exact λm u b x=>⟨c,rfl,x⟩|bad=>exact absurd z h
def e8.rm(C:zv4 X):dm k X.A:=C.room.mono (Nat.le_succ k)
def Il(C:zv4 X){e:E}{b:Es}{ps:List i2}(hf:Γ.fs.contains f=ie)(i:fA sc f=ie)(j:okN f=ie)(m:hX (.cons e b)=ie)(ha:GA X W F (.cons e b) (p::ps))
 (u:starEach (p::ps) X.env=(ig,eval p X.env)::starEach ps X.env) (hpl:(backTo pos (starEach ps X.env)).any (·.1)=ig):GE X W F (.call f (.cons e b)) (.Call (.Name f np) (p::ps) [] pos):=by
 intro w s σ H Q I h;let(P,G,env,sr,o):=h;rw [az] at o;let(R,fd,pn,y,hm,hk,A,a):=(C.fns f hf).ex;refine wpAny_Call_Name_kw (dS I (cH C i) hm ?_ (ei j).1);refine PySem.W.callWith_K (h₀:=X.base) I.ok.mod.Ja hk (bM (ha pos w s σ H (λc H1=>∃G1 as,aC G1 H1/\bA W G1 H1/\ai W G1 as c/\Out X W (F f as) σ G1 H1 λp=>dW W G1 H1 p Q) I ?_) λS T ⟨c,H1,d,r,q⟩=>{d.jZ,?_}) u hpl
 .refine args sr o λas c G1 H1 g1 t g o1=>{G1,as,g.sub,g.tab,t.rep m,o1.imp λp B v D K L M=>B v D K (g1.trans L) (.of M)}
 .let(G1,as,O,tb,l,o1):=q;exact kD C.rm y A (λz=>by rw [l.length];exact a as z) d O tb l r o1
def DH(C:zv4 X)(hf:Γ.fs.contains f=ie)(d:fA sc f=ie)(e:okN f=ie):GE X W F (.call f .nil) (.Call (.Name f np) [] [] pos):=by intro w s σ H Q I h;let(g,G,env,sr,o):=h;rw [az,bw] at o;let(y,fd,pn,i,hm,hk,j,a):=(C.fns f hf).ex;refine wpAny_Call_Name_kw (dS I (cH C d) hm ?_ (ei e).1);refine PySem.W.callWith_K0 I.jZ hk ?_;have m:Out X W (F f []) σ G H λp=>∀v c b,aE W G H c b->Got W g c b (.call f .nil) p v->Q v b:=o;exact kD (us:=[]) (vs:=[]) (as:=[]) (q:=h9) C.rm i j (λz=>a [] z) I sr.sub sr.tab (show ai W G [] [] from .nil) .nil (m.imp λp r v c b t u=>r v c b t (.of u))
def Jl(c:Str):wR ps≠.exc c:=by
 unfold wR
 ac_rfl
def Jk(c:Str):CI ps≠.exc c:=by
 unfold CI
 ac_rfl
def Jm(c:Str):CJ ps≠.exc c:=by
 unfold CJ
 ac_rfl
def BB(c:Str):nW ps≠.exc c:=by
 unfold nW
 ac_rfl
def Jj(c:Str):CG ps≠.exc c:=by
 unfold CG
 ac_rfl
def xP(c:Str):kn ps≠.exc c:=by
 unfold kn
 ac_rfl
def xQ(c:Str):kR ps≠.exc c:=by
 unfold kR
 ac_rfl
def BC(c:Str):oS ps≠.exc c:=by
 unfold oS
 ac_rfl
def E1(c:Str):vD ps≠.exc c:=by
 unfold vD
 ac_rfl
def Bx{b:B}(c:Str):fe b ps≠.exc c:=match b with
 |.len=>Jl c|.int=>Jk c|.str=>Jm c|.tuple=>BB c|.all=>Jj c|.sorted=>xP c
def By{m:M}(c:Str):zH m ps≠.exc c:=match m with
 |.jz=>xQ c|.index=>BC c|.join=>E1 c
def OU(C:zv4 X)(f:Γ.qt=ig)(b:B){d:List i2}{t:TA}(g:fA sc (bN b)=ie)(hm:Γ.bs.contains (bN b)=ie)(ha:PA X (e::d) t)
 (he:starEach (e::d) X.env=(ig,eval e X.env)::starEach d X.env) (hpl:(backTo pos (starEach d X.env)).any (·.1)=ig):PE X (.Call (.Name (bN b) np) (e::d) [] pos) (Vl (Hm W (fe b)) t):=by
 have a:=C.bs _ (et.mp hm);have c:=cH C g;cases b
 case len=>exact gx (AA C.K) c a PySem.boot_len ha (he:=he) (hpl:=hpl)
 case int=>exact dQ Ax c a ↑1 ha (he:=he) (hpl:=hpl)
 case str=>exact dQ AB c a ↑1 ha (he:=he) (hpl:=hpl)
 case tuple=>exact dQ (uT C.K) c a ↑1 ha (he:=he) (hpl:=hpl)
 case all=>exact gx (Av (C.calm f) C.K) c a ↑1 ha (he:=he) (hpl:=hpl)
 case sorted=>exact gx (rZ C.K (C.calm f)) c a ↑1 ha (he:=he) (hpl:=hpl)
def Mf{a:List PV->Res PV}{b:Es}{e:E}(hn:∀ps c,a ps≠.exc c)(he:∀env,az F e env=(bw F b env).bind λps=>a ps)(h:tE X W F e σ H Q):Vl (Hm W a) (tA X W F b) σ H Q:=by let(p,G,env,sr,o):=h;rw [he] at o;refine args sr o λps q G1 H1 g1 t d o1=>?_;let(r,hr,f):=o1.val (hn ps);exact{Cn,G1,ps,r,d.sub,t.top,hr,λw g i j m=>f w g i (g1.trans j) (.of m)}
def MX(C:zv4 X)(d:Γ.qt=ig)(b:B){a:Es}{ps:List i2}(f:fA sc (bN b)=ie)(hm:Γ.bs.contains (bN b)=ie)(ha:GA X W F a (e::ps))
 (he:starEach (e::ps) X.env=(ig,eval e X.env)::starEach ps X.env) (hpl:(backTo pos (starEach ps X.env)).any (·.1)=ig):GE X W F (.blt b a) (.Call (.Name (bN b) np) (e::ps) [] pos):=
 (OU C d b f hm ha he hpl).imp λσ H Q h=>Mf (λps c=>Bx c) (λenv=>by rw [az]) h
def EX{t:Ty}{p:PV}(c:Str):ni t p≠.exc c:=by cases p<;>exact nofun
def O1(C:zv4 X)(t:Ty)(a:fA sc (Str.ofString (yw t))=ie)(hm:Γ.bs.contains (Str.ofString (yw t))=ie):PE X (.Name (Str.ofString (yw t)) pos) (tC (.ty (yw t))):=by
 have b:=C.bs _ (et.mp hm);have c:=cH C a;cases t
 all_goals exact zO c b (u:=.type _) ↑1 rfl ↑1 ↑1
def RM(C:zv4 X){t:Ty}{a:E}{b:i2}{tp:Pos}(e:fA sc (zu 15)=ie)(f:Γ.bs.contains (zu 15)=ie)(g:fA sc (Str.ofString (yw t))=ie)(hm:Γ.bs.contains (Str.ofString (yw t))=ie)(ha:GE X W F a b)
 (d:∀env ps,starEach (b::ps) env=(ig,eval b env)::starEach ps env):GE X W F (.ty t a) (.Call (.Name (zu 15) np) [b,.Name (Str.ofString (yw t)) tp] [] pos):=by
 refine(gx (CU C.K t) (cH C e) (C.bs _ (et.mp f)) ↑1 (bx ha (bx (O1 C t g hm) cC) (d _ _)) (he:=d _ _)).imp λσ H Q h=>?_;let(z,G,env,sr,o):=h;rw [az] at o;refine one sr o λp v G1 H1 g1 i j o1=>?_;let(r,hr,m):=o1.val (λc=>EX c);exact{v,Cn,G1,p,r,rfl,j.sub,i.top,hr,λw q s u y=>m w q s (g1.trans u) (.of y)}
def M6(C:zv4 X){a:E}{j:i2}{tp:Pos}(z:fA sc (zu 15)=ie)(A:Γ.bs.contains (zu 15)=ie)(B:fA sc c=ie)(aM:okN c=ie)(hm:(Γ.cs.contains c||(c==(zu 0)&&Γ.bs.contains c))=ie)(ha:GE X W F a j)
 (m:∀env ps,starEach (j::ps) env=(ig,eval j env)::starEach ps env) (O:Γ.cs.contains (zu 0)=ig):GE X W F (.zq c a) (.Call (.Name (zu 15) np) [j,.Name c tp] [] pos):=by
 have f:∀{p:PV} {q G H:Hp} {v:V} {σ:St} {I:PV->Prop} {env:Sl},Top W q G H p v->aC G H->Out X W (match p with|.exc d=>Res.ok (PV.bl (if c==(zu 0) then ie else(c==d||c==(zu 2))))|_=>.bad) σ G H I->∃a d D,p=.exc d/\v=.ref a/\d∈W.xs/\X.mg d=hI (.ref D)/\H a=hI (mW a D):=λ{p q G H v σ I env} t P o=>by
  cases p with
  |exc d=>
   rcases t with t|t
   .simp! [Rep] at t;let(a,D,rfl,g,hm,ha):=t;exact{a,d,D,rfl,rfl,g,by rw [<-C.mg];exact hm,P _ _ ha}
   .exact t.elim
  |int _=>exact el o|bl _=>exact el o|aR=>exact el o|str _=>exact el o|tup _=>exact el o|lst _=>exact el o|cq _ _=>exact el o|obj _=>exact el o
 by_cases r:(c==(zu 0:Str))=ie
 .have K:c=(zu 0):=zzy.mp r
  have R:Γ.bs.contains c=ie:=by
   rw [eH,zza] at hm;rcases hm with h|h
   .rw [K,O] at h;cases h
   .exact h.2
  subst K;refine(gx Az (cH C z) (C.bs _ (et.mp A)) ↑1 (bx ha (bx (m9 (cH C B) (C.bs _ (et.mp R))) cC) (m _ _)) (he:=m _ _)).imp λσ H Q h=>?_;let(q,G,env,sr,o):=h;rw [az] at o;refine one sr o λp v G1 H1 g1 s u o1=>?_;let(w,d,D,rfl,rfl,g,e,y):=f (env:=env) s.top u.sub o1;let(xc,_,hk):=C.xc d g D e;exact{w,D,zu 0,ie,rfl,y,xc,hk,o1 _ G1 H1 g1 (.of .b)}
 .have L:Γ.cs.contains c=ie:=by
   rw [eH,zza] at hm;rcases hm with h|h
   .exact h
   .exact absurd h.1 r
  let(M,i):=C.cls c (et.mp L);refine(gx Ay (cH C z) (C.bs _ (et.mp A)) ↑1 (bx ha (bx (Fh (cH C B) i (ei aM).1) cC) (m _ _)) (he:=m _ _)).imp λσ H Q h=>?_;let(q,G,env,sr,o):=h;rw [az] at o;refine one sr o λp v G1 H1 g1 s u o1=>?_;let(w,d,D,rfl,rfl,g,e,y):=f (env:=env) s.top u.sub o1;let(xc,hk,_):=C.xc d g D e;have o2:Out X W (Res.ok (PV.bl (if c==(zu 0) then ie else(c==d||c==(zu 2))))) σ G1 H1 _:=o1;rw [if_neg r] at o2;exact{w,D,M,_,rfl,y,xc,hk c (et.mp L) M i,o2 _ G1 H1 g1 (.of .b)}
abbrev mT:M->String
 |.join=>"str"|.jz=>"list"|.index=>"list"
def Ym(C:zv4 X){m:M}{p:PV}(b:aC G H)(h:zA m p=ie)(t:Top W H0 G H p v):Vn X.K (mT m) v H:=by
 cases m<;>cases p<;>first|(exact aN h)|(cases t.str;rfl)|(let(a,d,rfl,c,_):=t.lst b;exact .inl ⟨rfl,_,wG C.K c⟩)
def M8(C:zv4 X){m:M}{o:E}{e:Es}{ps:List i2}{a b:Pos}(f:GE X W F o po)(ha:GA X W F e (p::ps))(g:attributeBase po (mN m) X.env (eval po X.env)=eval po X.env)
 (i:((backTo b (starEach (p::ps) X.env)).all (λx=>!x.1)&&(backToKw b (keywordEach [] X.env)).all (λx=>x.1.isSome)&&decide ((p::ps).length+([]:List Keyword).length+(if([]:List Keyword).isEmpty then 0 else 1)<30))=ie)
 (j:(a.endLine==b.line)=ie) (hs:starEach (p::ps) X.env=(ig,eval p X.env)::starEach ps X.env) (q:(backTo b (starEach ps X.env)).any (·.1)=ig):GE X W F (.dD m o e) (.Call (.Attribute po (mN m) a) (p::ps) [] b):=by
 have rd:∀σ H Q,tE X W F (.dD m o e) σ H Q->tBM X.K (mT m) (UA W (zH m)) (tE X W F o) (tA X W F e) σ H Q:=λσ H Q h=>by
  let(I,G,env,sr,d):=h;rw [az] at d;refine one sr d λp v G1 H1 g1 s t o1=>?_;by_cases hk:zA m p=ie
  .rw [if_pos hk] at o1;refine{Ym C t.sub hk s.top,args t o1 λps L G2 O g2 t2 u o2=>?_};let(r,hr,y):=o2.val (λc=>By c);exact{Cn,G2,p::ps,r,u.sub,.cons (s.top.grow g2) t2.top,hr,λw z A B D=>y w z A ((g1.trans g2).trans B) (.of D)}
  .rw [if_neg hk] at o1;exact o1.elim
 cases m
 case join=>exact(vS PySem.F.plainAttrs_str PySem.F.slot_str_join PySem.F.type_str_join (ER C.K) f ha g i j hs q).imp rd
 case jz=>exact(vS PySem.F.plainAttrs_list PySem.F.slot_list_count PySem.F.type_list_count (xK C.K C.room.units) f ha g i j hs q).imp rd
 case index=>exact(vS PySem.F.plainAttrs_list PySem.F.slot_list_index PySem.F.type_list_index (Bu C.K C.room.units) f ha g i j hs q).imp rd
def SR.set{p:PV}(i:Nat)(r:SR W H0 env σ G H)(h:Rep W G p v):SR W H0 (env.set i (.val p)) (σ.set i (hI v)) G H where
 len:=zx6 r.len
 sub:=r.sub
 tab:=r.tab
 je:=r.je
 base:=r.base
 slot:=λj s e=>by
  by_cases f:i=j
  .subst f;have d:i<env.length:=by
    have:=(b4.mp e).1;simpa using this
   rw [eu d] at e;cases e;exact{hI v,eu (by rw [<-r.len];exact d),v,rfl,h}
  .rw [dX f] at e;let(o,w,y):=r.slot j s e;exact{o,by rw [dX f];exact w,y}
 apart:=λa b q A ad g m t u=>by
  have ne:∀{c:Nat} {q:PV},(env.set i (.val p))[c]?=hI (.own q)->i≠c:=λ{c q} e z=>by
   subst z;have d:i<env.length:=by have:=(b4.mp e).1;simpa using this
   rw [eu d] at e;cases e
  have B:=ne g;have C:=ne m;rw [dX B] at g t;rw [dX C] at m u;exact r.apart a b q A ad g m t u
abbrev gT(K:zz8):Tg->TG
 |.one i=>oG i|.two i j=>RK K 2 (yU (oG i) (yU (oG j) MT))
def l4{K:zz8}(hK:W.K=K){c:Tg}{d:Sl}{p:PV}{Q:St->Hp->Prop}(e:Tg.put c p env=.ok d)(r:SR W H0 env σ G H)(h:Rep W G p v)(f:∀b,SR W H0 d b G H->Q b H):gT K c v σ H Q:=by
 unfold Tg.put at e;split at e
 .cases e;exact f _ (r.set _ h)
 .cases e;simp! [Rep] at h;let(a,j,rfl,sq,l):=h;let(m,o,rfl,g,l):=l.bo;let(q,s,rfl,i,l):=l.bo;simp! [ai] at l;subst l;rw [hK] at sq;exact{a,_,rfl,aC.tup r.sub sq.sq,rfl,_,_,rfl,_,_,rfl,rfl,f _ ((r.set _ g).set _ i)}
 .cases e
def EE(fQ:X.env.scope=sc)(h:jc sc x=ie):Loc X.env.scope x:=by rw [fQ];unfold jc at h;simp! [eH,zzy] at h;exact h
def Lx{fn:Str->Bool}{i:Nat}(hN:X.N=N)(nd:N.Nodup)(fQ:X.env.scope=sc)(b:∀x,fn x=ie->X.fn x=ie)(h:Xs N sc fn i p=ie):PG X p (oG i)/\∃x q,p=.Name x q:=by
 let(x,c,a):=ah h;let(q,rfl):=eT c
 simp! [zza,zzy,eH] at a;refine{JK (by rw [hN];exact nd) (by rw [hN];exact a.1.1) (EE fQ a.1.2) ?_,x,q,rfl};rcases a.2 with z|z
 .exact .inl (b x z)
 .exact .inr (by rw [fQ];exact z)
abbrev Zl:List Nat->KS
 |[]=>MT|i::is=>yU (oG i) (Zl is)
theorem Fp{fn:Str->Bool}(hN:X.N=N)(nd:N.Nodup)(fQ:X.env.scope=sc)(c:∀x,fn x=ie->X.fn x=ie):∀(is:List Nat) (b:List i2),Oj N sc fn is b=ie->QO X b (Zl is)/\(assignEach b X.env).length=is.length/\(assignEach b X.env).findIdx? (·.1)=h9
 |[],[],_=>⟨JL,rfl,rfl⟩|i::is,a::as,h=>by have h:=ak h;let(g1,x,p,rfl):=Lx hN nd fQ c h.1;let(g,l,f):=Fp hN nd fQ c is as h.2;have e:assignEach (.Name x p::as) X.env=(ig,assign (.Name x p) X.env)::assignEach as X.env:=rfl;refine{Fq g1 g,by rw [e,c4,l,c4],?_};rw [e,List.findIdx?_cons,f];rfl|[],_::_,h=>aN h|_::_,[],h=>aN h
def BJ{fn:Str->Bool}{a:Tg}(hN:X.N=N)(nd:N.Nodup)(fQ:X.env.scope=sc)(c:X.calm=ie)(b:∀x,fn x=ie->X.fn x=ie)(h:fB N sc fn a p=ie):PG X p (gT X.K a):=by
 cases a with
 |one i=>exact(Lx hN nd fQ b h).1|two i j=>let(m,d,e):=ah h;let(k,q,rfl):=nL d;let(g,l,f):=Fp hN nd fQ b _ _ e;exact O3 c g l f
def rP(W:Wd)(J:It)(G B:Hp)(ps:List PV):Prop:=∀(i:Nat) (b a:Hp),aC G b->i8 B a->aC b a->
 (i=ps.length->J.stop i a)/\∀p,ps[i]?=hI p->J.go i a/\∀x c,J.QF i a x c->∃d,aE W b a d c/\Rep W d p x
structure LW(W:Wd)(G H:Hp)(it:I)(J:It)(ps:List PV):Prop where
 any:rP W J G H ps
 bV:AZ it=ie->rP W J G G ps
abbrev tI(X:Cx)(W:Wd)(F:aP)(it:I):TI:=λσ H R=>∃c G env,SR W c env σ G H/\Out X W (uz F it env) σ G H λd=>∀J b a,aE W G H b a->LW W b a it J d->R J a
noncomputable abbrev GI(X:Cx)(W:Wd)(F:aP)(a:i2)(it:I)(p:i2):Prop:=PI X a p (tI X W F it)
theorem sQ(hK:W.K=X.K){B:Hp}(h:uJ W.K B a vs)(l:ai W G ps vs):rP W (Vx X.K a) G B ps:=λi e f g j sub=>by have b:il X.K f a vs:=wG hK (i8.ls j h);refine{λo=>{vs,b,by rw [l.length];lia},λp m=>?_};let(v,d,rv):=l.sH m;refine{⟨vs,v,b,d⟩,λx q c=>?_};let(rfl,c):=c;have:=c vs b;rw [d] at this;cases this;exact{e,.refl sub,Rep.same g p rv}
theorem Ep{K:zz8}{B:Hp}(h:f9 K B a vs)(l:ai W G ps vs):rP W (Vy K a) G B ps:=λi e f g j sub=>by have b:f9 K f a vs:=i8.tup j h;refine{λo=>{vs,b,by rw [l.length];lia},λp m=>?_};let(v,d,rv):=l.sH m;refine{⟨vs,v,b,d⟩,λx q c=>?_};let(rfl,c):=c;have:=c vs b;rw [d] at this;cases this;exact{e,.refl sub,Rep.same g p rv}
def Em{B:Hp}{us:List V}(n:ks.length=us.length)(h:B a=hI (.bV o (.dK (kz ks us)))):rP W (Vv a o (kz ks us)) G B (ks.map gP):=λi e f t g sub=>by
 have c:f a=hI (.bV o (.dK (kz ks us))):=g.at h (λZ z=>nomatch z);refine{λb=>{c,by rw [iF n];rw [zzl] at b;lia},λp d=>?_};rw [dk] at d;let(k,hk,rfl):=cP.mp d;have b:i<ks.length:=(b4.mp hk).1;refine{{c,by rw [iF n];exact b},λx u j=>?_};let(rfl,m,v,rfl,q):=j;have r:m=ki k:=by have:=congrArg (λl=>l[i]?) (zw (us:=us) n);simp! [dk,q,hk,Option.map_some] at this;exact zzq this
 rw [r];exact{e,.refl sub,.s}
def AF{i:Nat}{p:PV}(h:(chars z)[i]?=hI p):∃c,z.cps[i]?=hI c/\p=.str {#[c]}:=by unfold chars at h;rw [dk] at h;let(c,a,rfl):=cP.mp h;rw [Array.getElem?_toList] at a;exact⟨c,a,rfl⟩
def AG(z:Str):(chars z).length=z.cps.size:=by unfold chars;rw [zzl,ef]
theorem Eo{B:Hp}(z:Str):rP W (Uz z) G B (chars z):=λi e h j m sub=>by refine{λa=>by rw [AG] at a;exact Nat.le_of_eq a.symm,λp f=>?_};let(c,b,rfl):=AF f;refine{(Array.getElem?_eq_some_iff.mp b).1,λx o g=>?_};let(rfl,q,d,rfl):=g;rw [b] at d;cases d;exact{e,.refl sub,.s}
theorem En{B:Hp}(a:Int)(n:Nat):rP W (Uy a n) G B (eJ a n):=λi g m o q sub=>by unfold eJ;refine{λb=>by rw [zzl,List.length_range] at b;exact Nat.le_of_eq b.symm,λp d=>?_};rw [dk] at d;let(c,h,rfl):=cP.mp d;let(e,f):=b4.mp h;rw [List.length_range] at e;rw [List.getElem_range] at f;subst f;refine{e,λx r j=>?_};let(rfl,rfl):=j;exact{g,.refl sub,.i}
def VL(W:Wd)(G:Hp)(t:Zt)(xs:List PV):Prop:=L0 W.K G t.1 t.2/\ai W G xs t.2
theorem GP:∀{ps:List PV} {vs:List V} {xss:List (List PV)},ai W G ps vs->pz ps=hI xss->∃ts:List Zt,vs=ts.map (λt=>V.ref t.1)/\Paired (VL W G) ts xss
 |[],vs,xss,l,h=>by simp! [ai] at l;subst l;cases h;exact{[],rfl,.nil}
 |p::ps,vs,xss,l,h=>by
  let(v,r,rfl,b,d):=l.bo;let(xs,c,h):=d6.1 (show(TK p).bind (λxs=>(pz ps).map (xs::·))=hI xss from h);let(e,f,rfl):=cP.1 h;let(ts,rfl,g):=GP d f
  cases p with
  |tup j=>cases c;simp! [Rep] at b;let(a,i,rfl,k,m):=b;exact{(a,i)::ts,rfl,.cons ⟨k,m⟩ g}
  |_=>cases c
theorem zF:∀{xss:List (List PV)},∀xs∈xss,oU xss<=xs.length
 |[xs],ys,h=>by rw [ej.1 h];exact a7 _|xs::y::r,ys,h=>by
  show min xs.length (oU (y::r))<=_
  rcases er.1 h with rfl|h
  .exact Nat.min_le_left ..
  .exact d1 (Nat.min_le_right ..) (zF ys h)
theorem zE:∀{xss:List (List PV)},xss≠[]->∃xs∈xss,xs.length=oU xss
 |[xs],_=>{xs,ej.2 rfl,rfl}|xs::y::r,_=>by
  show∃a∈xs::y::r,a.length=min xs.length (oU (y::r))
  rcases Nat.le_total xs.length (oU (y::r)) with h|h
  .exact{xs,c8 ..,(Nat.min_eq_left h).symm}
  .let(a,b,c):=zE (xss:=y::r) (List.cons_ne_nil _ _);exact{a,cz _ b,by rw [c,Nat.min_eq_right h]}
theorem Ak{i:Nat}:∀{ts:List Zt} {xss:List (List PV)} {ys:List V},Paired (VL W G) ts xss->Paired (λ(q:Zt) y=>q.2[i]?=hI y) ts ys->ai W G (xss.map λxs=>xs.getD i .aR) ys
 |_,_,_,.nil,.nil=>.nil|_,_,_,.cons r t,.cons u v=>by let(p,a,b):=r.2.get u;refine .cons ?_ (Ak t v);dsimp only;rw [cW,a];exact b
def Er(hK:W.K=X.K){B:Hp}{ts:List Zt}{xss:List (List PV)}(hn:ts≠[])(h:Paired (VL W G) ts xss)(y:aC G B):rP W (Vw X.K ts) G B (qD xss):=λi A j f C sub=>by
 have sq:∀t∈ts,Zq X.K j t:=λt b=>by let(xs,_,r):=gu h t b;exact hK▸aC.tup (λa o z=>sub a o (f a o z)) r.1.sq
 have len:∀t∈ts,oU xss<=t.2.length:=λt b=>by let(xs,e,r):=gu h t b;rw [r.2.length];exact zF xs e
 have g:(qD xss).length=oU xss:=by simp [qD]
 refine{λc=>?_,λp d=>?_}
 .rw [g] at c;subst c;refine{λt b=>{sq t b,len t b},?_};have m:xss≠[]:=λz=>by subst z;cases h;exact hn rfl
  let(xs,e,q):=zE m;let(t,b,r):=cD h xs e;exact{t,b,by rw [r.2.length,q]}
 .have c:i<oU xss:=by rw [<-g];exact(b4.1 d).1
  have s:p=.tup (xss.map λxs=>xs.getD i .aR):=by unfold qD at d;rw [dk,List.getElem?_range c] at d;exact(zzq d).symm
  refine{λt b=>{sq t b,d3 c (len t b)},λx D u=>?_};let(a,E,rfl,ha,rfl,w):=u;subst s;refine{_,.new sub ha,.t (.inl aq) (ai.same (bj (sub.free ha)) _ (ai.same f _ (Ak h w)))}
def lF{e:E}{p:PV}(sr:SR W H0 env σ G H)(e1:az F e env=.ok p)(h:∀v G1 H1,aE W G H G1 H1->Got W H0 G1 H1 e p v->Q v H1):tE X W F e σ H Q:={H0,G,env,sr,by rw [e1];exact h}
def PX{e:E}(sr:SR W H0 env σ G H)(e1:az F e env=.exc c)(h:uL X W σ c G H):tE X W F e σ H Q:={H0,G,env,sr,by rw [e1];exact h}
def Ng(C:zv4 X){P:i2}{e:E}(he:GE X W F e p):GI X W F P (.seq e) p:=by
 intro g s σ H R I h;let(T,G,env,sr,o):=h
 rw [uz] at o;cases r:az F e env with
 |bad=>rw [r] at o;exact o.elim|exc c=>rw [r] at o;exact tH he g s σ H R I (PX sr r o)|ok q=>
  rw [r] at o;cases q with
  |lst xs=>refine tH he g s σ H R I (lF sr r λv G1 H1 g1 t=>?_);have u:=t;let(a,w,rfl,b,j):=t.top.lst g1.sub;refine{a,rfl,{w,wG C.K b},o _ G1 H1 g1 {sQ C.K b j,λz=>?_}};have d:=u.rep z;simp! [Rep] at d;let(Q,y,A,m,B):=d;cases A;exact sQ C.K m B
  |tup xs=>refine O5 he g s σ H R I (lF sr r λv G1 H1 g1 t=>?_);have u:=t;let(a,w,rfl,b,j):=t.top.tup g1.sub;rw [C.K] at b;refine{a,rfl,⟨w,b⟩,o _ G1 H1 g1 {Ep b j,λz=>?_}};have d:=u.rep z;simp! [Rep] at d;let(Q,y,A,m,B):=d;cases A;rw [C.K] at m;exact Ep m.sq B
  |str z=>exact O4 he g s σ H R I (lF sr r λv G1 H1 g1 t=>{z,t.top.str,o _ G1 H1 g1 {Eo z,λZ=>Eo z}})|int _=>exact el o|bl _=>exact el o|aR=>exact el o|exc _=>exact el o|obj _=>exact el o|cq D qs=>
   by_cases f:d7 e=ie
   .have L:yb e (.cq D qs)=.ok (D.map gP):=by
     cases e<;>first|rfl|exact aN f
    have o2:Out X W (yb e (.cq D qs)) σ G H λS=>∀(J:It) (O M:Hp),aE W G H O M->LW W O M (Ci.I.seq e) J S->R J M:=o;rw [L] at o2;refine Tu he g s σ H R I (lF sr r λv G1 H1 g1 t=>?_);have d:=t.rep f;simp! [Rep] at d;let(a,ob,U,rfl,n,b,j):=d;exact{a,ob,_,rfl,g1.sub _ _ b,o2 _ G1 H1 g1 {Em n (g1.sub _ _ b),λZ=>Em n b}}
   .have:(∃i,e=.Ks i)\/∃a,e=.con a:=by
     cases e<;>first|exact .inl ⟨_,rfl⟩|exact .inr ⟨_,rfl⟩|exact absurd rfl f
    rcases this with⟨i,rfl⟩|⟨i,rfl⟩
    .exact el o
    .exact el o
def pB{i:Int}(h:bS i=ie): -(2^62)<=i/\i<2^62:=by unfold bS at h;simpa using h
def Nf(C:zv4 X){c:i2}{e:E}(d:fA sc "range"=ie)(f:Γ.bs.contains "range"=ie)(b:∀env ps,starEach (p::ps) env=(ig,eval p env)::starEach ps env)(he:GE X W F e p):GI X W F c (.pU e) (.Call (.Name "range" np) [p] [] pos):=by
 intro g s σ H R I h;refine BK (cH C d) (C.bs _ (et.mp f)) (bx he cC (b _ _)) (b _ _) g s σ H R I ?_;let(i,G,env,sr,o):=h;rw [uz] at o;refine one sr o λq v G1 H1 g1 t m o1=>?_
 cases q with
 |int j=>
  by_cases a:bS j=ie
  .have o2:Out X W (if bS j=ie then Res.ok (eJ 0 j.toNat) else .bad) σ G1 H1 _:=o1;rw [if_pos a] at o2;exact{j,by rw [t.top.int],(pB a).1,(pB a).2,o2 _ G1 H1 g1 {En _ _,λZ=>En _ _}}
  .have o2:Out X W (if bS j=ie then Res.ok (eJ 0 j.toNat) else .bad) σ G1 H1 _:=o1;rw [if_neg a] at o2;exact o2.elim
 |bl _=>exact el o1|aR=>exact el o1|str _=>exact el o1|tup _=>exact el o1|lst _=>exact el o1|exc _=>exact el o1|obj _=>exact el o1|cq _ _=>exact el o1
def Nh(C:zv4 X){elts:List i2}{x1:Nat}{j:Pos}{ps:List i2}{as:Es}(m:fA sc "zip"=ie)(u:Γ.bs.contains "zip"=ie)(w:hX as=ie)(hn:g8 as=2)(ha:GA X W F as (p::ps))
 (y:starEach (p::ps) X.env=(ig,eval p X.env)::starEach ps X.env) (hpl:(backTo pos (starEach ps X.env)).any (·.1)=ig):GI X W F (.Tuple elts x1 j) (.zip as) (.Call (.Name "zip" np) (p::ps) [] pos):=by
 intro A s σ H R I h;refine JM (cH C m) (C.bs _ (et.mp u)) ha y hpl A s σ H R I ?_;let(B,G,env,sr,o):=h
 rw [uz] at o;refine{B,G,env,sr,?_};cases r:bw F as env with
 |bad=>rw [r] at o;exact o|exc c=>rw [r] at o;exact o|ok qs=>
  rw [r] at o;have f:=kL r;intro E G1 H1 g1 t;have l:=t.rep w;have o:Out X W ((Res.of (pz qs)).bind λa=>.ok (qD a)) σ G H λps=>∀J g b,aE W G H g b->LW W g b (.zip as) J ps->R J b:=o
  cases e:pz qs with
  |none=>rw [e] at o;exact el o|some a=>
   rw [e] at o;let(ts,rfl,d):=GP l e;have lt:ts.length=qs.length:=by have:=l.length;rwa [zzl] at this
   have i:ts≠[]:=λz=>by subst z;simp at lt;lia
   refine{ts,rfl,by lia,λq D=>?_,o _ G1 H1 g1 {Er C.K i d g1.sub,λZ=>Er C.K i d (aC.refl _)}};let(xs,_,r):=gu d q D;exact C.K▸aC.tup g1.sub r.1.sq
end
def AE{env:Env}{c:i1}(h:env.cells.lookup x=hI c):cellOf env x=pure c:=by unfold cellOf;rw [h]
abbrev frees(names:List (Str×NameKind)):List Str:=((names.filter λp=>p.2==.free).map (·.1)).reverse
def n6{a:kv}{env:Env}(h:∀y∈a.names,y.2=.free->∃c,env.cells.lookup y.1=hI c):closureFor a env=pure (cw env (freeOf a)):=by
 simp! [closureFor];have f:∀(names:List (Str×NameKind)) (b:List (Str×i1)),(∀y∈names,y.2=.free->∃c,env.cells.lookup y.1=hI c)->
  (forIn (m:=Sem) names b λx r=>if(x.2==NameKind.free)=ie then do
   let c<-cellOf env x.1
   pure (ForInStep.yield ((x.1,c)::r))
   else pure (ForInStep.yield r))=pure (cw env (frees names)++b):=by
  intro names
  induction names with
  |nil=>intro b _;rfl|cons p r j=>
   intro b g;let(n,d):=p;rw [List.forIn_cons];by_cases hk:(d==NameKind.free)=ie
   .let(c,k):=g (n,d) (by simp) (zzy.mp hk);simp! [hk,if_true,AE k,pure_bind];rw [j ((n,c)::b) λy i=>g y (cz _ i)];have e:frees ((n,d)::r)=frees r++[n]:=by unfold frees;rw [g5,if_pos hk,a8,List.reverse_cons]
    rw [e];unfold cw;rw [List.map_append,a8,List.map_nil,List.append_assoc];show _=pure (_++([(n,(env.cells.lookup n).getD 0)]++b));rw [show env.cells.lookup n=hI c from k];rfl
   .simp! [hk,eg,if_false,pure_bind];rw [j b λy i=>g y (cz _ i)];have e:frees ((n,d)::r)=frees r:=by unfold frees;rw [g5,if_neg hk]
    rw [e]
 have:=f a.names [] h;rw [hF] at this;simp! [bind_pure_comp,map_pure,id_map',bind_pure];exact this
section
variable{W:Wd}{sc:kv}
def iK{a:kv}(h:X.env.scope=sc):relabel a X.env=dy a sc:=by subst h;rfl
structure nQ(N:List Str)(sc scope:kv)(kk:Nat)(bh:List Nat)(xs:List Str):Prop where
 kind:scope.kind=.function
 len:xs.length=kk
 nd:(xs++freeOf scope).Nodup
 Mo:(scope.names.all λy=>(decide (y.2≠.cell)||!(freeOf scope).contains y.1)&&(decide (y.2≠.free)||(freeOf scope).contains y.1))=ie
 own:(scope.names.all λy=>decide (y.2≠.cell)||decide (scope.names.lookup y.1=hI .cell))=ie
 names:(scope.names.all λy=>decide (y.2≠.local)||decide (scope.names.lookup y.1=hI .local))=ie
 slots:bh.map (λi=>N[i]?)=(freeOf scope).map hI
 kX:((freeOf scope).all λy=>decide (sc.names.lookup y=hI .cell))=ie
 kY:((freeOf scope).all λy=>decide ((dy scope sc).names.lookup y=hI .cell))=ie
def n9{a:kv}{b:Nat}{c:List Nat}{xs:List Str}(h:uY N sc a b c xs=ie):nQ N sc a b c xs:=by unfold uY at h;simp! [zza] at h;let((((((((d,e),f),g),i),j),k),m),o):=h;exact{zzy.mp d,zzy.mp e,zzY f,g,i,j,zzY k,m,o}
def xa(hN:X.N=N)(fQ:X.env.scope=sc)(ok:X.Ok){a:kv}{f:Nat}{d:List Nat}{xs:List Str}(h:nQ N sc a f d xs):ij X a xs (freeOf a) d:=by
 have e:∀y∈freeOf a,∃c,X.env.cells.lookup y=hI c:=λy b=>ok.has y (.inl (by have:=zzY (d0.mp h.kX y b);show X.env.scope.names.lookup y=_;rw [fQ];exact this));refine{h.kind,n6 λy b hf=>?_,d0.mpr λy b=>?_,h.Mo,h.own,h.names,by rw [hN];exact h.slots,d0.mpr λy b=>?_,?_}
 .have c:=d0.mp h.Mo y b
  rw [zza,eH,eH] at c;rcases c.2 with z|z
  .exact absurd hf (zzY z)
  .exact e _ (et.mp z)
 .let(c,g):=e y b;rw [g];rfl
 .have:=zzY (d0.mp h.kX y b);refine zzh ?_;show X.env.scope.names.lookup y=_;rw [fQ];exact this
 .rw [iK fQ];exact h.kY
theorem jy{f:PV->Res (Option PV)}{x:PV}:∀{xs:List PV},aY f (xs++[x])=(aY f xs).bind λys=>(f x).well.bind λo=>.ok (ys++o.toList)
 |[]=>by
  simp! [List.nil_append,aY,Res.bind];cases(f x).well with
  |ok o=>cases o<;>rfl
  |exc c=>rfl|bad=>rfl
 |y::xs=>by
  rw [List.cons_append];simp! [aY];rw [jy (xs:=xs)];cases(f y).well with
  |exc c=>rfl|bad=>rfl|ok o=>
   show(((aY f xs).bind λys=>(f x).well.bind λo=>.ok (ys++o.toList)).bind λys=>.ok (oc o ys))=((aY f xs).bind λys=>.ok (oc o ys)).bind λys=>(f x).well.bind λo=>.ok (ys++o.toList)
   cases aY f xs with
   |exc c=>rfl|bad=>rfl|ok zs=>
    show(((f x).well.bind λo=>.ok (zs++o.toList)).bind λys=>.ok (oc o ys))=(f x).well.bind λo2=>.ok ((oc o zs)++o2.toList)
    cases(f x).well with
    |exc c=>rfl|bad=>rfl|ok o2=>cases o<;>rfl
theorem oh{f:PV->Res (Option PV)}:∀{xs ys:List PV},aY f xs=.ok ys->∀i,∃a,aY f (xs.take i)=.ok a/\a.length<=i
 |_,_,_,0=>{[],by simp [aY],a7 _}|[],ys,h,i+1=>{[],by simp [aY],Nat.zero_le _}|x::xs,ys,h,i+1=>by
  simp! [aY] at h;let(o,b,h):=Res.aK h;let(a,c,h):=Res.aK h;let(d,e,hl):=oh c i;refine{oc o d,?_,?_}
  .rw [List.take_succ_cons];simp! [aY];rw [b];show((aY f (xs.take i)).bind λys=>.ok (oc o ys))=_;rw [e];rfl
  .cases o with
   |none=>exact Nat.le_succ_of_le hl|some y=>exact Nat.succ_le_succ hl
def nN{d:Type}{r:Res d}{a:d}(h:r.well=.ok a):r=.ok a:=by
 cases r with
 |ok b=>cases h;rfl
 |exc c=>cases h
 |bad=>cases h
def uZ{f:PV->Res (Option PV)}{a:List PV}{i:Nat}{x:PV}(h:aY f xs=.ok ys)(d:xs[i]?=hI x)(hz:aY f (xs.take i)=.ok a):∃o,f x=.ok o/\aY f (xs.take (i+1))=.ok (a++o.toList):=by
 have e:xs.take (i+1)=xs.take i++[x]:=by rw [List.take_add_one,d];rfl
 let(g,b,_):=oh h (i+1);rw [e,jy,hz] at b;let(o,c,b):=Res.aK (show((f x).well.bind λo=>Res.ok (a++o.toList))=.ok g from b);refine{o,nN c,?_};rw [e,jy,hz];show((f x).well.bind λo=>Res.ok (a++o.toList))=_;rw [c];rfl
def pF{k:St}{h:List Nat}{ys:List Str}(g:Nat)(sr:SR W H0 env k G H)(hs:h.map (λi=>N[i]?)=ys.map hI)(nd:ys.Nodup):SR W H0 (ll g .no++eO env h) (ll g h9++Bf k h) G H:=by
 have w:∀(i j:Nat) (a:Nat),h[i]?=hI a->h[j]?=hI a->i=j:=λi j a y A=>by
  have m:(ys.map hI)[i]?=hI (N[a]?):=by rw [<-hs,dk,y];rfl
  have u:(ys.map hI)[j]?=hI (N[a]?):=by rw [<-hs,dk,A];rfl
  rw [dk] at m u;let(F,g1,I):=cP.mp m;let(K,g2,L):=cP.mp u;have:F=K:=zzq (I.trans L.symm);subst this;exact kZ nd g1 g2
 have d:∀(j:Nat) (s:Slot),(ll g Slot.no++eO env h)[j]?=hI s->(j<g/\s=.no)\/∃a,g<=j/\h[j-g]?=hI a/\s=env.getD a .no:=λj s e=>by
  by_cases f:j<g
  .rw [ey (zx6 f),List.getElem?_replicate,if_pos f] at e;cases e;exact .inl ⟨f,rfl⟩
  .rw [ez (zx6 f),List.length_replicate] at e;unfold eO at e;rw [dk] at e;let(a,ha,rfl):=cP.mp e;exact .inr {a,by lia,ha,rfl}
 have val:∀(j a:Nat),g<=j->h[j-g]?=hI a->(ll g h9++Bf k h)[j]?=hI ((k[a]?).join):=λj a f ha=>by rw [ez (zx6 f),List.length_replicate];unfold Bf;rw [dk,ha];rfl
 refine{by unfold eO Bf;simp,sr.sub,sr.base,λj s e=>?_,λi j p q a m u B C=>?_,sr.tab,sr.je}
 .rcases d j s e with⟨f,rfl⟩|⟨a,f,ha,rfl⟩
  .exact{h9,by rw [ey (zx6 f),List.getElem?_replicate,if_pos f],trivial}
  .refine{_,val j a f ha,?_};rw [cW];cases m:env[a]? with
   |none=>exact trivial|some s=>let(o,y,A):=sr.slot a s m;rw [y];exact A
 .rcases d i _ m with⟨_,z⟩|⟨b,M,D,r⟩
  .cases z
  rcases d j _ u with⟨_,z⟩|⟨c,f,E,t⟩
  .cases z
  rw [val i b M D] at B;rw [val j c f E] at C;have O:env[b]?=hI (.own p):=by
   rw [cW] at r;cases e:env[b]? with
   |none=>rw [e] at r;cases r
   |some s=>rw [e] at r;exact congrArg hI r.symm
  have P:env[c]?=hI (.own q):=by
   rw [cW] at t;cases e:env[c]? with
   |none=>rw [e] at t;cases t
   |some s=>rw [e] at t;exact congrArg hI t.symm
  have g1:k[b]?=hI (hI (.ref a)):=Option.join_eq_some_iff.mp (zzq B);have g2:k[c]?=hI (hI (.ref a)):=Option.join_eq_some_iff.mp (zzq C);have Q:=sr.apart b c p q a O P g1 g2;subst Q;have:=w _ _ b D E;lia
def i6{d:Nat}{rest k:Sl}{f:St}{m:Tg}{p:PV}(g:mz d m=ie)(e:Tg.put m p (ll d .no++rest)=.ok k)(r:SR W H0 k f G H):SR W H0 (ll d .no++rest) f G H:=by
 have c:∀(j:Nat) (s:Slot),(ll d Slot.no++rest)[j]?=hI s->s≠.no->k[j]?=hI s:=λj s h hs=>by
  have y:¬j<d:=λz=>by rw [ey (zx6 z),List.getElem?_replicate,if_pos z] at h;cases h;exact hs rfl
  unfold Tg.put at e;split at e
  .cases e;unfold mz at g;simp! [zzN] at g;rw [dX (by lia)];exact h
  .cases e;unfold mz at g;simp! [zza,zzN] at g;rw [dX (by lia),dX (by lia)];exact h
  .cases e
 have b:(ll d Slot.no++rest).length=f.length:=by
  rw [<-r.len];unfold Tg.put at e;split at e<;>first|(cases e;simp;done)|(cases e;done)
 refine{b,r.sub,r.base,λj s h=>?_,λi j p q a o t u w=>r.apart i j p q a (c i _ o nofun) (c j _ t nofun) u w,r.tab,r.je};by_cases hs:s=.no
 .subst hs;have:j<f.length:=by rw [<-b];exact(b4.mp h).1
  exact{f[j],zzg this,trivial}
 .exact r.slot j s (c j s h hs)
variable{Γ:Pg}{F:aP}{k:Nat}
abbrev tN(W:Wd)(F:aP)(e:E):TE:=λd H Q=>∃b G env,SR W b env d G H/\∃p,az F e env=.ok p/\∀v c a,aE W G H c a->Got W b c a e p v->Q v a
abbrev Yc(W:Wd)(F:aP)(e:E):TT:=λc H Q=>∃d G env,SR W d env c G H/\∃b,az F e env=.ok (.bl b)/\∀f a,aE W G H f a->Q b a
def LO{e:E}(a:St)(H:Hp)(Q:VK)(h:tN W F e a H Q):tE X W F e a H Q:=by let(b,G,env,sr,p,c,q):=h;exact{b,G,env,sr,by rw [c];exact q}
def PY{e:E}(a:St)(H:Hp)(Q:Bool->Hp->Prop)(h:Yc W F e a H Q):tT X W F e a H Q:=by let(b,G,env,sr,p,c,q):=h;exact{b,G,env,sr,by rw [c];exact⟨p,rfl,q⟩}
def kH(C:zv4 X){a:kv}{b:Nat}{c:List Nat}{xs:List Str}(h:nQ N sc a b c xs)(fp:List i1)(d:ix)(H1:Hp)(A:i1):e8 Γ.zI F W (xs++freeOf a) (dy a sc) k (cV X (xs++freeOf a) a (cw X.env (freeOf a)) fp d H1 A):=
 {rfl,iK C.fQ,λZ=>rfl,h.nd,C.K,C.mg,C.gs,C.bs,C.room,λf hf=>{(C.fns f hf).ex},C.Ow,C.cls,C.xc,λq e=>{(C.NF q e).ex},λf hf=>{(C.XM f hf).1,{(C.XM f hf).2.ex}},C.any,C.fld,C.con,nofun,nofun,nofun}
set_option tactic.hygienic true in
def ML{e:E}(h:aJ Γ N sc e p=ie)(env:Env):∀x,foldedSetIterable p env x=pure x:=by
 intro x;cases p<;>first|rfl|(cases e<;>first|(exact aN h)|(rename_i q;cases q<;>exact aN h))
def nv{a:i2}(h:uV Γ N sc a it p=ie)(env:Env):∀x,foldedSetIterable p env x=pure x:=by
 intro x;cases it with
 |seq e=>exact ML h env x|pU e=>cases p<;>first|rfl|(exact aN h)
 |zip as=>cases p<;>first|rfl|(exact aN h)
def CW(W:Wd)(H0 e H1:Hp)(vd:Sl)(f:PV->Res (Option PV))(ps:List PV)(i:Nat)(ys:List V)(a:St)(d:Hp):Prop:=
 i<=ps.length/\∃b,aE W e H1 b d/\SR W H0 vd a b d/\∃c,aY f (ps.take i)=.ok c/\c.length<=i/\ai W b c ys
def HL(hK:W.K=X.K){r:Nat}{u:List Nat}{C:Tg}{d:E}{ys:List Str}(eE:mz r C=ie)(cA:d7 d=ie)(hs:u.map (λi=>N[i]?)=ys.map hI)(nd:ys.Nodup)(V:St)(H:Hp)(Q:VK)(h:tF X W F (.comp r u C it d) V H Q):
 Gi (tI X W F it) r (gT X.K C) (tN W F d) u V H Q:=by
 let(L,G,env,sr,o):=h;rw [az] at o;refine{L,G,env,sr,o.bind.imp λm j J Y H1 g1 gi=>?_};by_cases Z:¬m.length<bT
 .rw [if_neg Z] at j;exact j.elim
 have hl:=Decidable.not_not.mp Z;rw [if_pos hl] at j;generalize hf:(λx=>(C.put x (ll r .no++eO env u)).bind λM=>(az F d M).bind λy=>Res.ok (hI y))=f at j
 cases w:aY f m with
 |bad=>rw [w] at j;exact j.elim|exc c=>
  exfalso
  have:∀(l:List PV) (c:Str),aY f l≠.exc c:=λl=>by
   induction l with
   |nil=>intro c z;cases z
   |cons a l ih=>
    intro c z;simp! [aY] at z;rcases Res.dY z with z|⟨o1,_,z⟩
    .cases e:f a with
     |ok _=>rw [e] at z;cases z
     |exc _=>rw [e] at z;cases z
     |bad=>rw [e] at z;cases z
    .rcases Res.dY z with z|⟨o2,_,z⟩
     .exact ih c z
     .cases z
  exact this _ _ w
 |ok all=>
  rw [w] at j;let(xs,e1,fin):=j;cases e1;have bH:=sr.grow g1;refine{m.length,CW W L Y H1 (ll r .no++eO env u) f m,{Nat.zero_le _,Y,.refl g1.sub,pF r bH hs nd,[],rfl,a7 _,.nil},?_}
  rintro i made σ' H' ⟨hi,G',A,O,zs,P,Qx,l⟩
  refine{by rw [l.length];exact d2 (d1 Qx hi) (d3 hl ↑2),?_};let(R,S):=gi.any i G' H' A.g A.h A.sub;by_cases b:i=m.length
  .refine .inl {R b,λp hp=>?_};rw [b,List.take_length,w] at P;cases P;exact fin p made G' H' (g1.trans A) hp l
  .have D:i<m.length:=by lia
   let(D0,B):=S m[i] (zzg D);refine .inr {D0,D,λx js hy=>?_};let(rO,T,rx):=B x js hy;let(o1,s,q):=uZ w (zzg D) P;rw [<-hf] at s;let(M,Cg,s):=Res.aK s;let(y,NQ,s):=Res.aK s;cases s;refine l4 hK Cg (O.grow T) rx λσ2 lU=>{L,rO,M,lU,y,NQ,λv G3 H3 U t=>?_};refine{D,G3,A.trans (T.trans U),(i6 eE Cg lU).grow U,_,q,?_,?_}
   .rw [c5];show zs.length+1<=i+1;lia
   .exact(ai.same (T.trans U).g zs l).append (.cons (t.rep cA) .nil)
def AK(hK:W.K=X.K){D:List Nat}{R:Tg}{c d:E}{ys:List Str}(eE:mz w R=ie)(cA:d7 d=ie)(hs:D.map (λi=>N[i]?)=ys.map hI)(nd:ys.Nodup)(σ:St)(H:Hp)(Q:VK)(h:tF X W F (.fI w D R it c d) σ H Q):
 um (tI X W F it) w (gT X.K R) (Yc W F c) (tN W F d) D σ H Q:=by
 let(S,G,env,sr,o):=h;rw [az] at o;refine{S,G,env,sr,o.bind.imp λr q J G1 H1 g1 gi=>?_};by_cases wF:¬r.length<bT
 .rw [if_neg wF] at q;exact q.elim
 have hl:=Decidable.not_not.mp wF;rw [if_pos hl] at q;generalize hf:(λx=>(R.put x (ll w .no++eO env D)).bind λA=>(az F c A).bind λt=>yF t λt=>if t then(az F d A).bind λy=>Res.ok (hI y) else .ok h9)=f at q
 cases L:aY f r with
 |bad=>rw [L] at q;exact q.elim|exc c=>
  exfalso
  have:∀(l:List PV) (c:Str),aY f l≠.exc c:=λl=>by
   induction l with
   |nil=>intro c z;cases z
   |cons a l ih=>
    intro c z;simp! [aY] at z;rcases Res.dY z with z|⟨o1,_,z⟩
    .cases e:f a with
     |ok _=>rw [e] at z;cases z
     |exc _=>rw [e] at z;cases z
     |bad=>rw [e] at z;cases z
    .rcases Res.dY z with z|⟨o2,_,z⟩
     .exact ih c z
     .cases z
  exact this _ _ L
 |ok all=>
  rw [L] at q;let(xs,e1,fin):=q;cases e1;have bH:=sr.grow g1;refine{r.length,CW W S G1 H1 (ll w .no++eO env D) f r,{Nat.zero_le _,G1,.refl g1.sub,pF w bH hs nd,[],rfl,a7 _,.nil},?_}
  rintro i made σ' H' ⟨hi,G',B,U,zs,V,Qx,l⟩
  refine{by rw [l.length];exact d2 (d1 Qx hi) (d3 hl ↑2),?_};let(Y,Z):=gi.any i G' H' B.g B.h B.sub;by_cases j:i=r.length
  .refine .inl {Y j,λp hp=>?_};rw [j,List.take_length,L] at V;cases V;exact fin p made G' H' (g1.trans B) hp l
  .have M:i<r.length:=by lia
   let(D0,O):=Z r[i] (zzg M);refine .inr {D0,M,λx js hy=>?_};let(rO,P,rx):=O x js hy;let(o1,s,m):=uZ L (zzg M) V;rw [<-hf] at s;let(A,Cg,s):=Res.aK s;let(t,ht,s):=Res.aK s
   obtain⟨b,rfl⟩:∃b,t=.bl b:=by
    cases t<;>first|exact⟨_,rfl⟩|(cases s)
   refine l4 hK Cg (U.grow P) rx λσ2 T=>{S,rO,A,T,b,ht,λG3 H3 u=>?_};have C:(if b=ie then(az F d A).bind λy=>Res.ok (hI y) else .ok h9)=Res.ok o1:=s
   cases b with
   |true=>
    rw [if_pos rfl] at C;refine Xe ?_;let(y,NQ,C):=Res.aK C;cases C;refine{S,G3,A,T.grow u,y,NQ,λv G4 H4 g4 t4=>?_};refine{M,G4,B.trans (P.trans (u.trans g4)),(i6 eE Cg T).grow (u.trans g4),_,m,?_,?_}
    .rw [c5];show zs.length+1<=i+1;lia
    .exact(ai.same (P.trans (u.trans g4)).g zs l).append (.cons (t4.rep cA) .nil)
   |false=>
    rw [if_neg zzf] at C;refine Xd ?_;cases C;refine{M,G3,B.trans (P.trans u),(i6 eE Cg T).grow u,_,m,?_,?_}
    .rw [c5];show zs.length+0<=i+1;lia
    .show ai W G3 (zs++[]) made;rw [hF];exact ai.same (P.trans u).g zs l
def Iq(C:zv4 X)(r:Γ.qt=ig){f:Nat}{i:List Nat}{d:Tg}{b:E}{c j q:i2}{a:kv}{pos:Pos}(h:nQ N sc a f i (aV c))(t:mz f d=ie)(u:d7 b=ie)(w:GI X W F c it j)(NF:∀x,foldedSetIterable j X.env x=pure x)
 (y:fB (aV c++freeOf a) (dy a sc) (qm a) d c=ie) (he:∀Y,e8 Γ.zI F W (aV c++freeOf a) (dy a sc) k Y->GE Y W F b q):GF X W F (.comp f i d it b) (.ListComp q [{c,j,[],0}] a pos):=by
 intro B s e H Q I m;have D:(freeOf a).Nodup:=(List.nodup_append.mp h.nd).2.1;have rd:=HL (N:=N) C.K t u h.slots D e H Q m
 have:=zQ (g:=gT X.K d) (te:=tN W F b) (xs:=aV c) (ys:=freeOf a) (is:=i) (pos:=pos) (C.calm r) (xa C.hN C.fQ I.ok h) w
  (λfp o p A=>BJ (fn:=qm a) (X:=cV X (aV c++freeOf a) a (cw X.env (freeOf a)) fp o p A) rfl h.nd (iK C.fQ) rfl (λZ z=>z) y)
  (λfp o p A=>L2.PE.imp (he _ (kH C h fp o p A)) λe H Q z=>LO e H Q z) NF B s e H Q I
 rw [h.len] at this;exact this rd
def A5(C:zv4 X)(u:Γ.qt=ig){m:Nat}{o:List Nat}{j:Tg}{c b:E}{r t:i2}{a:kv}{pos:Pos}(h:nQ N sc a m o (aV d))(w:mz m j=ie)(y:d7 b=ie)(B:GI X W F d it p)(NF:∀x,foldedSetIterable p X.env x=pure x)
 (D:fB (aV d++freeOf a) (dy a sc) (qm a) j d=ie) (G:∀Y,e8 Γ.zI F W (aV d++freeOf a) (dy a sc) k Y->GT Y W F c r) (he:∀Y,e8 Γ.zI F W (aV d++freeOf a) (dy a sc) k Y->GE Y W F b t):
 GF X W F (.fI m o j it c b) (.ListComp t [{d,p,[r],0}] a pos):=by
 intro L s e H Q I q;have M:(freeOf a).Nodup:=(List.nodup_append.mp h.nd).2.1;have rd:=AK (N:=N) C.K w y h.slots M e H Q q
 have:=BH (g:=gT X.K j) (tt:=Yc W F c) (te:=tN W F b) (xs:=aV d) (ys:=freeOf a) (is:=o) (pos:=pos) (C.calm u) (xa C.hN C.fQ I.ok h) B
  (λfp f i A=>BJ (fn:=qm a) (X:=cV X (aV d++freeOf a) a (cw X.env (freeOf a)) fp f i A) rfl h.nd (iK C.fQ) rfl (λZ z=>z) D)
  (λfp f i A=>L2.PT.imp (G _ (kH C h fp f i A)) λe H Q z=>PY e H Q z)
  (λfp f i A=>L2.PE.imp (he _ (kH C h fp f i A)) λe H Q z=>LO e H Q z) NF L s e H Q I
 rw [h.len] at this;exact this rd
end
theorem qY{W:Wd}:∀{fs:List (Str×PV)} {vs:List V},fs.lookup f=hI q->ai W G (fs.map (·.2)) vs->∃v,((fs.map (·.1)).zip vs).lookup f=hI v/\Rep W G q v
 |[],_,h,_=>by cases h
 |(g,p)::fs,vs,h,l=>by
  let(v,r,rfl,b,c):=ai.bo (p:=p) (ps:=fs.map (·.2)) l;rw [hD] at h;show∃a,List.lookup f ((g,v)::((fs.map (·.1)).zip r))=hI a/\Rep W G q a
  rw [hD];cases e:f==g with
  |true=>rw [e] at h;cases h;exact⟨v,rfl,b⟩
  |false=>rw [e] at h;exact qY h c
section
variable{Γ:Pg}{W:Wd}{F:aP}{sc:kv}{k:Nat}
def M4(C:zv4 X){i:Nat}(h:(N[i]?==hI x&&ke sc x&&okN x)=ie)(hf:cK f≠d5):GE X W F (.fld i f) (.Attribute (.Name x np) f pos):=by
 refine(OW (DK C h) rfl).imp λs H Q t=>?_;let(u,G,env,sr,o):=t
 have o:Out X W ((az F (.var i) env).bind λp=>F (cK f) [p]) s G H λp=>∀v e c,aE W G H e c->Got W u e c (.fld i f) p v->Q v c:=by
  have d:az F (.var i) env=mS env[i]?:=by unfold az;rfl
  rw [d];unfold az at o;exact o
 refine one sr o λp v w y g1 A B o1=>?_;have D:F (cK f) [p]≠.bad:=λz=>by rw [z] at o1;exact o1
 let(n,ob,q,rfl,g,d,E,I,K,L):=C.fld f p hf D;rw [I] at o1;have j:=A.rep rfl;simp! [Rep] at j;let(O,b,rfl):=j;rw [g] at b;cases b;let(_,P,m,l):=B.tab.o n ob g;rw [nE d] at m;let(r,M,rv):=qY E l;exact{ob.a,ob.C,ob.dx,_,r,rfl,m,K,L,M,o1 r w y g1 (.of rv)}
def MZ(C:zv4 X){a:E}(ha:GE X W F a p)(he:d7 a=ie):GE X W F (.con a) p:=by
 refine L2.PE.imp ha λg H Q h=>?_;let(i,G,env,sr,o):=h;have o:Out X W ((az F a env).bind λp=>F d5 [p]) g G H λp=>∀v d c,aE W G H d c->Got W i d c (.con a) p v->Q v c:=by unfold az at o;exact o
 refine one sr o λq v j m g1 r s o1=>?_;have t:F d5 [q]≠.bad:=λz=>by rw [z] at o1;exact o1
 let(n,ob,rfl,e,u,w):=C.con q t;rw [w] at o1;have f:=r.rep he;simp! [Rep] at f;let(y,b,rfl):=f;rw [e] at b;cases b;exact o1 (.ref ob.a) j m g1 {.inr (HM s.tab.o e u),nofun}
def M0(C:zv4 X):GE X W F .Mt (.Dict [] [] pos):=by
 intro e s c H Q I h;let(f,G,env,sr,o):=h;have o:Out X W (Res.ok (PV.cq [] [])) c G H λp=>∀v d a,aE W G H d a->Got W f d a .Mt p v->Q v a:=by unfold az at o;exact o
 refine wpAny_mono (vT e s c H (λv a=>∃p,v=.ref p/\H p=h9/\a=upd H p (.dK [])) I λp b=>⟨p,rfl,b,rfl⟩) ?_ λZ Z z=>z
 rintro u j ⟨v,a,i,rv,p,rfl,b,rfl⟩
 let(ob,J):=i.ny aq;rw [nM] at J;refine{_,_,J,rv,?_};have g:aE W G H (upd G p (.bV ob (.dK []))) (upd H p (.bV ob (.dK []))):=.new sr.sub b;refine o (.ref p) _ _ g (.of ?_);simp! [Rep];exact{p,ob,[],rfl,rfl,aq,.nil}
noncomputable abbrev Yl(a:List (Str×Str)):List (TE×TE):=a.map λz=>(tC (.str z.1),P5 (Gj (tC (.str z.2)) PZ))
theorem FD{pos:Pos}:∀{a:List (Str×Str)} {ks:List (Option i2)} {vs:List i2},UO a ks vs=ie->QP X pos ks vs (Yl a)/\ks.all (·.isSome)=ie/\ks.length=a.length/\vs.length=a.length
 |[],ks,vs,h=>by have h:=ak h;cases List.isEmpty_iff.1 h.1;cases List.isEmpty_iff.1 h.2;exact⟨JS,rfl,rfl,rfl⟩
 |_::_,[],_,h=>aN h|_::_,_::_,[],h=>aN h|z::a,k::ks,v::vs,h=>by have h:=ak h;have b:=ak h.1;let(d,e,f,g):=FD (pos:=pos) h.2;let(p,rfl,i):=E5 b.1;let(_,_,rfl):=yQ i;let(r,j,m):=E5 b.2;let(_,_,rfl):=nL j;let(c,o,q):=eW m;subst o;let(_,_,rfl):=yQ q;exact{FC tG (xZ (bx tG cC)) d,e,congrArg (·+1) f,congrArg (·+1) g}
theorem LR{d:St}:∀(a:List (Str×Str)) {G H:Hp} {Q:List (V×V)->Hp->Prop},aC G H->(∀us b c,aE W G H b c->ai W b (a.map λz=>.tup [.str z.2]) us->Q (((a.map λz=>ki z.1).zip us).map λe=>(kV e.1,e.2)) c)->pN (Yl a) d H Q
 |[],G,H,Q,s,h=>h [] G H (.refl s) .nil|z::a,G,H,Q,s,h=>by show P5 (Gj (tC (.str z.2)) PZ) d H λy i=>pN (Yl a) d i λps j=>Q ((.str z.1,y)::ps) j;refine{show 1<=kB by decide,λp m=>?_};have f:aE W G H (upd G p (.tup [.str z.2])) (upd H p (.tup [.str z.2])):=.new s m;refine LR a f.sub λus b c g l=>h (.ref p::us) b c (f.trans g) (.cons (Rep.same g.g _ (Rep.t (.inl aq) (.cons (by simp! [Rep]) .nil))) l)
def aE.Xp{G2 c:Hp}{p:i1}{x o:HO}(s:aC G H)(h:H p=h9)(r:∀us,x≠.tup us)(i:∀us,x≠.gz us)(g:aE W G (upd H p x) G2 c):aE W G H (upd G2 p o) (upd c p o):=by
 have w:aE W G H G (upd H p x):=.Od s h;have a:=w.trans g;have A:c p=hI x:=g.h.at aq i;have B:G2 p=h9:=g.own p (by rw [aq];exact nofun) (λC z=>by rw [aq] at z;exact r C (zzq z)) (s.free h);have j:∀b u,H b=hI u->b≠p:=λb u e z=>by rw [z,h] at e;cases e
 refine{λb u e=>?_,λb u e=>?_,λb u e=>?_,λb e t z=>?_,λt P q m=>?_}
 .rw [ag (j b u (s b u e))];exact a.g b u e
 .rw [ag (j b u e)];exact a.h b u e
 .by_cases z:b=p
  .subst z;rw [aq] at e⊢;exact e
  .rw [ag z] at e⊢;exact a.sub b u e
 .rw [ag λy=>e (by rw [y,h])];exact a.own b e t z
 .let(n,D,e,E,I):=a.tb t P q m;have np:P≠p:=λy=>by rw [y,A] at e;exact i _ (zzq e)
  refine{by rw [ag np];exact n,D,by rw [ag np];exact e,E,λd K y=>?_};let(L,oc,M,t,O,f,Q,R):=I d K y;refine{L,oc,M,t,O,?_,Q,R};rw [ag λy=>by rw [y,B] at f;cases f];exact f
def M3(C:zv4 X){a:List (Str×Str)}{ks:List (Option i2)}{vs:List i2}{pos:Pos}(hd:UO a ks vs=ie)(m:a≠[])(r:a.length<=15):GE X W F (.Mv a) (.Dict ks vs pos):=by
 intro t s f H Q I h;let(w,G,env,sr,o):=h;let(y,A,e,B):=FD (X:=X) (pos:=pos) hd;have o:Out X W (Res.ok (PV.cq (bP (a.map λq=>(q.1,PV.tup [.str q.2])) [] []).1 (bP (a.map λq=>(q.1,PV.tup [.str q.2])) [] []).2)) f G H λp=>∀v i b,aE W G H i b->Got W w i b (.Mv a) p v->Q v b:=by unfold az at o;exact o
 refine wpAny_mono (JJ y A (e.trans B.symm) (λz=>m (List.length_eq_zero_iff.1 (by rw [<-e,z];rfl))) (by rw [e];exact r) t s f H (λv b=>∃p us G2 c,v=.ref p/\H p=h9/\aE W G (upd H p (.dK [])) G2 c/\ai W G2 (a.map λz=>.tup [.str z.2]) us/\b=upd c p (.dK (cL [] ((a.map λz=>ki z.1).zip us)))) I λp d=>?_) ?_ λZ Z z=>z
 .have D:aE W G H G (upd H p (.dK [])):=.Od sr.sub d;refine LR (W:=W) (G:=G) a D.sub λus G2 c g l=>?_;refine{g.h.at aq (λZ z=>nomatch z),_,rfl,?_,p,us,G2,c,rfl,d,g,l,rfl};rw [List.length_zip,zzl];lia
 rintro u P ⟨v,b,E,rv,p,us,G2,c,rfl,d,g,l,rfl⟩
 let(ob,J):=E.ny aq;rw [nM] at J;refine{_,_,J,rv,?_};let(ws,K,L,j):=l8 (a.map λq=>(q.1,PV.tup [.str q.2])) (ks:=[]) (qs:=[]) (ws:=[]) (us:=us) (W:=W) (G:=G2) (by rw [List.map_map];exact l) rfl .nil;rw [List.map_map] at j;have M:aE W G H (upd G2 p (.bV ob (.dK (cL [] ((a.map λz=>ki z.1).zip us))))) (upd c p (.bV ob (.dK (cL [] ((a.map λz=>ki z.1).zip us))))):=.Xp (x:=.dK []) sr.sub d (λZ z=>nomatch z) (λZ z=>nomatch z) g;refine o (.ref p) _ _ M (.of ?_);simp! [Rep];have O:G2 p=h9:=g.own p (by rw [aq];exact nofun) (λvs z=>by rw [aq] at z;cases z) (sr.sub.free d);exact{p,ob,ws,rfl,K,by rw [<-j];exact aq,ai.same (bj O) _ L}
end
end Ci
namespace L2
open PySem.Spec PyProof.Rows PySem.W
section
variable{w:kd}{E:lr}{s:ix}{it:i1}
theorem fld{fs:Array iv}{z:iv}{Q:Unit->ix->Prop}(e:s.heap.get? it=hI {cls:=.type "dict_itemiterator",data:=.fields fs})(a:j<fs.size)(b:∀h',h'.get? it=hI {cls:=.type "dict_itemiterator",data:=.fields (fs.setIfInBounds j z)}->kA.SameBut it s.heap h'->Q () {s with heap:=h'}):jW (kr prog w) A (setField (.ref it) j z) Q E s:=
 wpAny_setField e rfl a (b _ (kA.get?_update_self _ e rfl) (e6 ..))
end
noncomputable abbrev lO(a:Array iv)(c:Nat):Obj:={cls:=.type "list",dict:=h9,data:=.seq a c,slots:=#[]}
end L2
namespace L2
open PySem.Spec PyProof.Rows
def mf:Manifest.owners.lookup (String.ofList ['d','e','s','r','e','v','e','r'].reverse)=hI Manifest.sig_reversed:=∅
theorem cS:Slot (zu 4) (zu 46) "reversed.__next__":=
 .of (owner:=(zu 4)) (n:=(zu 46)) (by rw [typeLookup_type,builtinLookup_eq_fast];kernel_rfl) ↑1 ↑1 ↑1
  (by first|exact .inl ↑1|exact .inr ↑1) (by rw [isSubtype_type];kernel_rfl)
def iA:entryFor table "reversed.__next__"=hI lb.«reversed.__next__»:=entryFor_of_tree ∅
def jf(a:iv):argsOk "reversed.__next__" {[a],[]}:=by unfold argsOk;rw [signature?_of (id:="reversed.__next__") (n:=['_','_','t','x','e','n','_','_']) (o:=['d','e','s','r','e','v','e','r']) ∅ mf];kernel_rfl
theorem jk:Slot (zu 4) "__iter__" "reversed.__iter__":=
 .of (owner:=(zu 4)) (n:="__iter__") (by rw [typeLookup_type,builtinLookup_eq_fast];kernel_rfl) ↑1 ↑1 ↑1
  (by first|exact .inl ↑1|exact .inr ↑1) (by rw [isSubtype_type];kernel_rfl)
def p7(a:iv):argsOk "reversed.__iter__" {[a],[]}:=by unfold argsOk;rw [signature?_of (id:="reversed.__iter__") (n:=['_','_','r','e','t','i','_','_']) (o:=['d','e','s','r','e','v','e','r']) ∅ mf];kernel_rfl
theorem oz:entryFor table "reversed.__iter__"=hI lb.«dict_keyiterator.__iter__»:=
 entryFor_alias (id':="dict_keyiterator.__iter__") ∅ (by first|rfl|decide+kernel|(unfold String.splitOn;simp+decide [String.splitOnAux])) ↑1 ∅
theorem fU:Slot (zu 4) "__length_hint__" (zu 28):=
 .of (owner:=(zu 4)) (n:="__length_hint__") (by rw [typeLookup_type,builtinLookup_eq_fast];kernel_rfl) ↑1 ↑1 ↑1
  (by first|exact .inl ↑1|exact .inr ↑1) (by rw [isSubtype_type];kernel_rfl)
def oy:entryFor table (zu 28)=hI lb.«reversed.__length_hint__»:=entryFor_of_tree ∅
def p6(a:iv):argsOk (zu 28) {[a],[]}:=by unfold argsOk;rw [signature?_of (id:=(zu 28)) (n:="__length_hint__".toList.reverse) (o:=['d','e','s','r','e','v','e','r']) ∅ mf];kernel_rfl
def ya:typeLookup (.type (zu 4)) "__len__"=pure h9:=by rw [typeLookup_type,builtinLookup_eq_fast];kernel_rfl
def yq:typeLookup (.type "tuple") "__reversed__"=pure h9:=by rw [typeLookup_type,builtinLookup_eq_fast];kernel_rfl
abbrev Po(t:i1)(i:Int):Obj:={cls:=.type (zu 4),data:=.fields #[.ref t,rawInt i]}
section
variable{w:kd}{E:lr}{s:ix}
def w5:TypeCalled (zu 4) "reversed.__new__" "object.__init__" where
 notType:=↑1
 canCreate:=F.create_reversed
 mro:={_,_,F.mro_reversed}
 made:=F.made_reversed
 plain:=F.plain_reversed_new
 sub:=F.sub_reversed_self
 init:=.of (owner:="object") (n:=(zu 6)) (by rw [typeLookup_type,builtinLookup_eq_fast];kernel_rfl) ↑1 ↑1 ↑1
  (by first|exact .inl ↑1|exact .inr ↑1) (by rw [isSubtype_type];kernel_rfl)
theorem Bt(l:i1)(items:Array iv):MeetsIn prog w (lb.«reversed.__new__» {[.type (zu 4),.ref l],[]}) (λZ R s=>IsTup s.heap l items/\items.size<=kB/\∀tk,R (.ok (.ret (.ref (zz9 s)))) {s with heap:=s.heap.push (Po l ((items.size:Int)-1)),toks:=tk}):=
 .of_wp λA R s c=>by
  let(hl,d,h):=c;unfold lb.«reversed.__new__»;refine ar (wpAny_of_eq (newClass_reversed _) ?_)
  try dsimp only
  refine ar (wpAny_of_eq (a:=()) (by first|rfl|kernel_rfl) ?_);refine ar (wpAny_of_eq (a:=()) (by first|rfl|kernel_rfl) ?_)
  try dsimp only
  refine ar (wpAny_specialOf hl.typeIs yq ?_)
  try dsimp only
  refine ar ?_
  wp_delta
  refine ar (wpAny_isInstance (T:="tuple") (v:=.ref l) (b:=ig) hl.typeIs (by rw [isSubtype_type];kernel_rfl) ?_);simp! [eg,if_false];refine ar (wpAny_specialOf hl.typeIs PyProof.Rows.slot_tuple_getitem.lookup ?_)
  try dsimp only
  rw [if_pos ↑1];refine bc ?_;simp! [Bool.not_true,eg,if_false];refine ar (len_tuple hl (by rw [sizeLine_eq] at d;lia) ?_);refine ar (wpAny_of_eq (a:=hI (items.size:Int)) rfl ?_)
  try dsimp only
  unfold lb.SmallTypes.newRecord;exact ar (wpAny_newObj_type (bc {_,rfl,h _}) (by size_fits))
theorem kC{l:i1}{Q:lr}(hl:IsTup s.heap l items)(hn:items.size<=kB)
 (h:∀tk,Q (.ref (zz9 s)) {s with heap:=s.heap.push (Po l ((items.size:Int)-1)),toks:=tk}):jW (kr prog w) A (call (.type (zu 4)) [.ref l]) Q E s:=
 callType_newIn w5 ↑2 (F.typeCall_reversed_1 _) (F.newCall_reversed_1 _) (λobj=>F.args_object_init_2 obj _) F.entry_reversed_new (Bt l items) {hl,hn,λtk=>{{_,d4 _ rfl,rfl},h tk}}
def f7(h:kA)(a l:i1)(i:Int):Prop:=∃o,h.get? a=hI o/\o.cls=.type (zu 4)/\o.data=.fields #[.ref l,rawInt i]
theorem f7.typeIs{l:i1}{i:Int}(x:f7 s.heap a l i):s.TypeIs (.ref a) (zu 4):=let⟨o,b,c,_⟩:=x;⟨o,b,c⟩
theorem f7.at{l:i1}{i:Int}(x:f7 h a l i)(e:∀o,h.get? a=hI o->h'.get? a=hI o):f7 h' a l i:=let⟨o,b,r⟩:=x;{o,e _ b,r}
def FW{it l:i1}{i:Nat}{x:iv}{Q:Option iv->ix->Prop}(b:f7 s.heap it l (i:Int))(hl:IsTup s.heap l items)(hn:items.size<=kB)(d:items[i]?=hI x)
 (e:∀h' tk,f7 h' it l ((i:Int)-1)->kA.SameBut it s.heap h'->Q (hI x) {s with heap:=h',toks:=tk}):jW (kr prog w) A (pyNext (.ref it)) Q E s:=by
 let(o,c,f,hd):=id b;have g:i<items.size:=(Array.getElem?_eq_some_iff.mp d).1
 unfold pyNext;refine ar (wpAny_attempt (wpAny_callSpecial?_slot (name:=Str.ofString (zu 46)) b.typeIs cS
  (wpAny_call_entry cS b.typeIs iA ?_ (jf _))))
 unfold lb.«reversed.__next__»;refine ar (wpAny_of_eq (a:=(iv.ref it,[])) rfl ?_)
 try dsimp only
 refine ar (wpAny_field c hd (x:=.ref l) rfl ?_);refine ar (wpAny_field c hd (x:=rawInt (i:Int)) rfl ?_);show jW _ _ (if(i:Int)<0 then _ else _) _ _ s;rw [if_neg (by lia)];show jW _ _ (specialOf (.ref l) (Str.ofString "__getitem__")>>=_) _ _ s;refine ar (wpAny_specialOf hl.typeIs PyProof.Rows.slot_tuple_getitem.lookup ?_);rw [if_neg (by simp)];refine ar (wpAny_mkInt ?_);refine ar (wpAny_attempt (PyProof.Rows.getItem_tuple (j:=i) hl (by lia) (by rw [sizeLine_eq] at hn;lia) ?_ d ?_))
 .simp! [seqIndex?,show¬((i:Int)<0) from by lia,if_false];rw [if_pos (by rw [zza,zzN,zzN];constructor<;>lia),hB]
 try dsimp only
 refine ar (wpAny_field (s:={s with toks:=s.toks+1}) c hd (x:=rawInt (i:Int)) rfl ?_);show jW _ _ (setField (.ref it) 1 (rawInt ((i:Int)-1))>>=_) _ _ _;refine ar (wpAny_setField c hd (by simp) ?_);refine bc {x,rfl,bc (e _ _ ?_ (e6 ..))};exact{_,kA.get?_update_self _ c (Obj.isFreed_of_fields (Obj.data_mapFields hd _)),(Obj.cls_mapFields ..).trans f,by rw [Obj.data_mapFields hd];simp}
def J4{it l:i1}{Q:Option iv->ix->Prop}(f:A.handled=h9)(c:f7 s.heap it l (-1))
 (h:∀h',kA.ExtBut it s.heap h'->Q h9 {s with heap:=h'}):jW (kr prog w) A (pyNext (.ref it)) Q E s:=by
 let(o,d,p,hd):=id c
 unfold pyNext;refine ar (wpAny_attempt (wpAny_callSpecial?_slot (name:=Str.ofString (zu 46)) c.typeIs cS
  (wpAny_call_entry cS c.typeIs iA ?_ (jf _))))
 unfold lb.«reversed.__next__»;refine ar (wpAny_of_eq (a:=(iv.ref it,[])) rfl ?_)
 try dsimp only
 refine ar (wpAny_field d hd (x:=.ref l) rfl ?_);refine ar (wpAny_field d hd (x:=rawInt (-1)) rfl ?_);show jW _ _ (if(-1:Int)<0 then _ else _) _ _ s;rw [if_pos ↑2];refine ar (wpAny_rule ?_);refine ar ?_
 wp_delta
 refine ar (wpAny_setField d hd (by simp) ?_);have i:=kA.get?_update_self (Obj.mapFields (·.setIfInBounds 1 (rawInt (-1)))) d (Obj.isFreed_of_fields (Obj.data_mapFields hd _));refine wpAny_setField i (Obj.data_mapFields hd _) (by simp) ?_;refine ar ?_;show jW _ _ (newExc (.type (zu 21)) []>>=_) _ _ _;refine ar ?_;simp! [newExc,newTuple];refine ar (wpAny_newObj_type ?_ (by size_fits));refine ar (m:=firstArgMember _ _) (wpAny_of_eq (a:=iv.none) (by first|rfl|(simp! [firstArgMember];rfl)) ?_);refine wpAny_newObj_type ?_ (by size_fits);simp! [raiseNew];refine ar (wpAny_handled ?_)
 first|rw [show A.in1.handled=h9 from f]|rw [f]
 refine ar (bc (wpAny_throw ?_));refine ar (wpAny_isInstance (T:=(zu 21)) (b:=ie) {_,d4 _ rfl,rfl} isSubtype_stop ?_);refine bc (h _ ?_);have j:kA.ExtBut it s.heap (s.heap.update it (Obj.mapFields (·.setIfInBounds 1 (rawInt (-1))))):=(e6 ..).extBut;have k:kA.ExtBut it (s.heap.update it (Obj.mapFields (·.setIfInBounds 1 (rawInt (-1))))) ((s.heap.update it (Obj.mapFields (·.setIfInBounds 1 (rawInt (-1))))).update it (Obj.mapFields (·.setIfInBounds 0 .none))):=(e6 ..).extBut;exact((show kA.ExtBut it s.heap _ from λb o g e=>k b o g (j b o g e)).push _).push _
def v9{it l:i1}{i:Int}{Q:lr}(a:f7 s.heap it l i)(h:Q (.ref it) s):jW (kr prog w) A (pyIter (.ref it)) Q E s:=by refine wpAny_pyIter_slot a.typeIs jk (wpAny_call_entry jk a.typeIs oz ?_ (p7 _));show jW _ _ (ret (.ref it)) _ _ s;exact bc {_,rfl,zu 4,_,a.typeIs,cS.lookup,h}
theorem IsTup.mv{t:i1}(x:IsTup h t items)(e:∀o,h.get? t=hI o->h'.get? t=hI o):IsTup h' t items:=let⟨o,a,r⟩:=x;{o,e _ a,r}
def B8(p:A.handled=h9)(I l:i1)(q:l≠I)(items:Array iv)(hn:items.size<=kB):
 Walks prog w A I [I,l] [I] items.size (λi v=>items[items.size-1-i]?=hI v) (λi h=>i<=items.size/\f7 h I l ((items.size:Int)-1-(i:Int))/\IsTup h l items) where
 sub:=λb c=>by simp at c;simp [c]
 frame:=λZ Z Z x hk=>{x.1,x.2.1.at λo e=>hk I (by simp) o e,IsTup.mv x.2.2 λo e=>hk l (by simp) o e}
 item:=λi s Q E r x d=>by
  have e:(items.size:Int)-1-(i:Int)=((items.size-1-i:Nat):Int):=by lia
  have a:=x.2.1;rw [e] at a;have j:items[items.size-1-i]?=hI (items[items.size-1-i]'(by lia)):=gf (by lia);refine FW a x.2.2 hn j λg t k m=>?_;have u:((items.size-1-i:Nat):Int)-1=(items.size:Int)-1-((i+1:Nat):Int):=by lia
  rw [u] at k;exact d _ g t j {r,k,IsTup.mv x.2.2 λo f=>(m.2 l q).trans f} λb o c f=>m.extBut b o (λh=>c (by simp [h])) f
 done:=λs Q E x d=>by
  have e:(items.size:Int)-1-(items.size:Int)= -1:=by lia
  have a:=x.2.1;rw [e] at a;exact J4 p a λg y=>d g s.toks λb o c f=>y b o (λh=>c (by simp [h])) f
 self:=λZ Z Z Z x d=>v9 x.2.1 d
def FV{I l:i1}{Q:Bool->ix->Prop}(c:f7 s.heap I l ((items.size:Int)-1))(hl:IsTup s.heap l items)(hn:items.size<=kB)(h:∀b tk,Q b {s with toks:=tk}):jW (kr prog w) A (lb.List.listLengthHint (.ref I)) Q E s:=by
 let(o,d,g,hd):=id c;unfold lb.List.listLengthHint;refine ar (wpAny_specialOf c.typeIs ya ?_);show jW _ _ (specialOf (iv.ref I) (Str.ofString "__length_hint__")>>=_) _ _ _;refine ar (wpAny_specialOf c.typeIs fU.lookup ?_)
 wp_delta
 refine ar (wpAny_isInstance (T:=(zu 4)) (v:=.ref I) (b:=ie) c.typeIs F.sub_reversed_self ?_);rw [if_neg ↑2];show jW _ _ (if _ then _ else _) _ _ _;rw [if_neg ↑1];refine ar (wpAny_rule ?_);refine ar (wpAny_of_eq (fU.bind _) ?_)
 try dsimp only
 refine ar (wpAny_attempt (wpAny_call_entry fU c.typeIs oy ?_ (p6 _)));unfold lb.«reversed.__length_hint__»;refine ar (wpAny_of_eq (a:=iv.ref I) rfl ?_);refine ar (wpAny_field d hd (x:=.ref l) rfl ?_);rw [if_neg (show¬((iv.ref l==iv.none)=ie) from zzf)];refine ar (len_tuple hl (by rw [sizeLine_eq] at hn;lia) ?_);refine ar (wpAny_of_eq (a:=hI (items.size:Int)) rfl ?_)
 try dsimp only
 refine ar (wpAny_field (s:={s with toks:=s.toks+1+1}) d hd (x:=rawInt ((items.size:Int)-1)) rfl ?_);show jW _ _ (if(items.size:Int)<(items.size:Int)-1+1 then _ else _) _ _ _;rw [if_neg (by lia)];unfold retInt;refine ar (wpAny_mkInt (bc {_,rfl,?_}));show jW _ _ (asInt? (iv.int ((items.size:Int)-1+1) _)>>=_) _ _ _;refine ar (wpAny_of_eq (a:=hI ((items.size:Int)-1+1)) rfl ?_);rw [sizeLine_eq] at hn;have e:lb.List.listFitsIndex ((items.size:Int)-1+1)=ie:=by unfold lb.List.listFitsIndex;rw [zza,zzN,zzN];lia
 have f:lb.List.listTooLong ((items.size:Int)-1+1).toNat=ig:=by unfold lb.List.listTooLong;rw [decide_eq_false_iff_not,sizeLine_eq];lia
 simp! [e,f,Bool.not_true,eg,if_false];rw [if_neg (by lia)];exact bc (h _ _)
def HX{R:Result->ix->Prop}(B:A.handled=h9){I l:i1}(C:l≠I)(c:f7 s.heap I l ((items.size:Int)-1))(hl:IsTup s.heap l items)(S:i1)(p:S≠I)(y:S≠l)(res:iv)(d:Nat)(r:s.heap.get? S=hI (lO #[] d))
 (D:∀h' tk m g,(∀b o,b≠S->b≠I->s.heap.get? b=hI o->h'.get? b=hI o)->h'.get? S=hI (lO m g)->
  ItemsOf (λi v=>items[items.size-1-i]?=hI v) m items.size->R (.ok (.ret res)) {s with heap:=h',toks:=tk}) (hn:items.size<=kB):
 jW (kr prog w) A.in1 (lb.List.listExtendWith (.ref S) (.ref I) res)
  (λfin s'=>match fin with|.done f=>R (.ok f) s'|.again g=>g.quiet=ie/\codeAny (kr prog w) A g R s') (λe s'=>R (.error e) s') s:=by
 have t:S∉[I,l]:=λhm=>by
  rcases er.mp hm with e|hm
  .exact p e
  .exact y (ej.mp hm)
 have j:∀(h:kA) (c1 tk:Nat),(∀b x,b≠S->s.heap.get? b=hI x->h.get? b=hI x)->h.get? S=hI (lO #[] c1)->codeAny (kr prog w) A (.builtin "list.extend.loop" {[.ref S,.ref I,res],[]}) R {s with heap:=h,toks:=tk}:=λh c1 tk hk G=>
  codeAny_extend_loopS (B8 (prog:=prog) (w:=w) (A:=A.in1) B I l C items hn).toS hn _ t _ items.size 0 {s with heap:=h,toks:=tk} _ _ rfl (Nat.zero_le _) {Nat.zero_le _,by simpa using c.at λo e=>hk _ _ (Ne.symm p) e,IsTup.mv hl λo e=>hk _ _ (Ne.symm y) e} G (ItemsOf.nil _) λs' m g hm H K=>by
   rw [Moved.eq_with hm];refine D s'.heap s'.toks m g (λb ob k L e=>hm.heap b ob (λa=>?_) (hk b ob k e)) H K
   rcases er.mp a with M|a
   .exact k M
   .exact L (ej.mp a)
 unfold lb.List.listExtendWith;refine ar (wpAny_typeOf c.typeIs ?_);have N:lb.List.listSameRef (.ref S) (.ref I)=ig:=by simp [lb.List.listSameRef,p]
 have O:(iv.type (zu 4)==iv.type "list")=ig:=↑2
 have P:(iv.type (zu 4)==iv.type "tuple")=ig:=↑2
 simp! [N,O,P,Bool.or_false,eg,if_false];refine ar (v9 c ?_);refine ar (wpAny_holding (FV c hl hn λb tk=>?_));refine wpAny_ite_split (λZ=>?_) (λZ=>bc {plainId_quiet F.plain_extend_loop _,j _ d _ (λb x Z q=>q) r});refine ar (wpAny_rule (ar ?_));show jW _ _ (updateSeq S (·.push .none)>>=λZ=>updateSeq S (·.pop)) _ _ _;refine ar (wpAny_updateSeq (s:={s with toks:=tk}) r rfl ?_);have z:=kA.get?_update_self (Obj.mapSeq (·.push iv.none)) r rfl;refine wpAny_updateSeq (hz:=by seq_fits) z rfl ?_;have u:=kA.get?_update_self (Obj.mapSeq (·.pop)) z rfl;exact bc {plainId_quiet F.plain_extend_loop _,j _ _ _ (λb x k q=>(kA.get?_update_other _ _ (Ne.symm k)).trans ((kA.get?_update_other _ _ (Ne.symm k)).trans q)) u}
def p9{Q:lr}(t:A.handled=h9){I l:i1}(u:l≠I)(d:f7 s.heap I l ((items.size:Int)-1))(hl:IsTup s.heap l items)
 (y:∀h' tk g j,(∀b o,b≠I->s.heap.get? b=hI o->h'.get? b=hI o)->
  h'.get? (zz9 s)=hI (lO g j)->ItemsOf (λi v=>items[items.size-1-i]?=hI v) g items.size->Q (.ref (zz9 s)) {s with heap:=h',toks:=tk}) (hn:items.size<=kB):
 jW (kr prog w) A (call (.type "list") [.ref I]) Q E s:=by
 refine callType_codes (Q₁:=λobj a=>obj=.ref (zz9 s)/\a={s with heap:=s.heap.push {cls:=.type "list",data:=.seq #[]}}) F.called_list (F.typeCall_list_1 _) F.entry_list_init
  (code_list_new _ ⟨rfl,rfl⟩) λobj a f=>?_
 let(rfl,rfl):=f;have h:(s.heap.push {cls:=.type "list",data:=.seq #[]}).get? (zz9 s)=hI {cls:=.type "list",data:=.seq #[]}:=d4 _ rfl;have q:(zz9 s)≠I:=λe=>let⟨o,k,_⟩:=d;absurd (c6 k) (by rw [e];exact Nat.lt_irrefl _);have r:(zz9 s)≠l:=λe=>let⟨o,k,_⟩:=hl;absurd (c6 k) (by rw [e];exact Nat.lt_irrefl _);refine{{_,h,rfl},F.args_list_init_2 _ _,?_};show jW _ _ (do let old<-lb.List.listItems (.ref (zz9 s));lb.List.listUpdate (.ref (zz9 s)) (λZ=>#[]);letGo old.toList.reverse;lb.List.listExtendWith (.ref (zz9 s)) (.ref I) .none) _ _ _;refine ar ?_;unfold lb.List.listItems;refine ar (wpAny_seqItems h rfl (bc ?_));show jW _ _ (updateSeq (zz9 s) (λZ=>#[])>>=λZ=>letGo (#[]:Array iv).toList.reverse>>=λZ=>lb.List.listExtendWith (.ref (zz9 s)) (.ref I) .none) _ _ _;refine ar (wpAny_updateSeq h rfl ?_);have c:=kA.get?_update_self (Obj.mapSeq (λZ=>(#[]:Array iv))) h rfl
 have m:∀b o,b≠(zz9 s)->s.heap.get? b=hI o->((s.heap.push {cls:=.type "list",data:=.seq #[]}).update (zz9 s) (Obj.mapSeq (λZ=>(#[]:Array iv)))).get? b=hI o:=
  λb o p e=>(kA.get?_update_other _ _ (Ne.symm p)).trans (aT _ e)
 refine ar (wpAny_letGo ?_);refine HX (A:=A.in1) (hn:=hn) t u (d.at λo e=>m _ _ (Ne.symm q) e) (IsTup.mv hl λo e=>m _ _ (Ne.symm r) e) _ q r .none _ c λh' tk g j hk z B=>?_;exact{rfl,y h' tk g j (λb o p e=>hk b o (d8 (c6 e)) p (m b o (d8 (c6 e)) e)) z B}
variable{te:TE}{p1 p2 FA:Pos}
def BI(G:X.calm=ie)(L:Gl X "list")(hm:X.mg "list"=h9)(M:Gl X (zu 4))(N:X.mg (zu 4)=h9)(h:PE X e te)(he:starEach [e] X.env=(ig,eval e X.env)::starEach [] X.env):
 PE X (.Call (.Name "list" p1) [.Call (.Name (zu 4) p2) [e] [] FA] [] pos) (λj H Q=>te j H λx H1=>∃l vs,x=.ref l/\f9 X.K H1 l vs/\∀p,H1 p=h9->Q (.ref p) (upd H1 p (.lst vs.reverse))):=by
 intro O s j H Q I q;refine wpAny_Call_Name_kw (j1 I L hm (u:=.type "list") ↑1 ?_);refine PyProof.Rows.callWith_type1 ?_ rfl rfl;show jW _ _ (spliced ((ig,eval (.Call (.Name (zu 4) p2) [e] [] FA) X.env)::backTo pos (starEach [] X.env))) _ _ s;refine Calls.spliced_cons ?_;refine wpAny_Call_Name_kw (j1 I M N (u:=.type (zu 4)) ↑1 ?_);refine PyProof.Rows.callWith_type1 (bM (bx h cC he FA O s j H (λxs H1=>Td xs λx=>∃l vs,x=.ref l/\f9 X.K H1 l vs/\∀p,H1 p=h9->Q (.ref p) (upd H1 p (.lst vs.reverse))) I q) λus d ⟨xs,H1,g,P,k⟩=>?_) he rfl
 .let(x,rfl,l,vs,rfl,R,k):=Jy k;let(u,rfl,S):=vals1 P;cases S;let(f,y,m,T):=g.tuple R;have B:=y.length;have C:f.toArray.size<=sizeLine:=by simp! [a5]<;>lia
  refine kC m C λr=>?_;refine Calls.spliced_nil ?_;let(ol,t,_):=id m;have U:l≠(zz9 d):=λz=>absurd (c6 t) (by rw [z];exact Nat.lt_irrefl _)
  refine p9 (s:={d with heap:=d.heap.push (Po l ((f.toArray.size:Int)-1)),toks:=r}) (g.ok.hd G) U {_,d4 _ rfl,rfl,rfl} (IsTup.mv m λo z=>aT _ z) (λV W c Y kp e ha=>?_) C;have Z:c.toList=f.reverse:=by
   refine List.ext_getElem? λi=>?_;by_cases D:i<f.length
   .rw [List.getElem?_reverse D];have hs:c.size=f.length:=by rw [ha.1];simp
    have F:i<c.size:=by lia
    have:=ha.2 i c[i] (gf F);rw [Array.getElem?_toList,gf F,<-this];simp
   .rw [List.getElem?_eq_none (by rw [ef,ha.1];simpa using D),List.getElem?_eq_none (by rw [List.length_reverse];lia)]
  have rv:Vals vs.reverse c.toList:=by rw [Z];exact GC y
  exact{.ref ((zz9 d)+1),_,g.laid (t':=W) (a:=(zz9 d)+1) (λb o z=>kp b o (d8 (c6 z)) (aT _ z)) (Nat.le_succ _) (show bX X.prog X.w _ V _ (.lst _) from{by rw [List.length_reverse];exact T,c.toList,Y,rv,zx6 e}),by rw [kA.size_push];rfl,k _ (g.aM.fresh (Nat.le_succ _))}
end
end L2
namespace Ci
open L2
section
variable{Γ:Pg}{W:Wd}{F:aP}{sc:kv}{k:Nat}
def BP{p:PV}(h:Rep W G p v):∀{ps:List PV} {vs:List V},ai W G ps vs->ai W G (ps++[p]) (vs++[v]):=by
 intro ps
 induction ps with
 |nil=>
  intro vs t;have:=t.length
  cases vs with
  |nil=>exact .cons h .nil|cons _ _=>cases this
 |cons q ps a=>intro vs t;let(u,r,rfl,b,t):=t.bo;exact .cons b (a t)
def pf:∀{ps:List PV} {vs:List V},ai W G ps vs->ai W G ps.reverse vs.reverse:=by
 intro ps
 induction ps with
 |nil=>
  intro vs t;have:=t.length
  cases vs with
  |nil=>exact .nil|cons _ _=>cases this
 |cons q ps a=>intro vs t;let(u,r,rfl,b,t):=t.bo;rw [List.reverse_cons,List.reverse_cons];exact BP b (a t)
theorem Io(C:zv4 X)(e:Γ.qt=ig){a:E}{b:i2}{f i j:Pos}(m:fA sc "list"=ie)(hm:Γ.bs.contains "list"=ie)(q:fA sc (zu 4)=ie)(r:Γ.bs.contains (zu 4)=ie)(ha:GE X W F a b)(he:starEach [b] X.env=(ig,eval b X.env)::starEach [] X.env):
 GE X W F (.EG a) (.Call (.Name "list" f) [.Call (.Name (zu 4) i) [b] [] j] [] pos):=
 (BI (C.calm e) (cH C m) (C.bs _ (et.mp hm)) (cH C q) (C.bs _ (et.mp r)) ha he).imp λM H Q h=>by
  let(O,G,env,sr,o):=h;rw [az] at o;refine one sr o λp v s u g t c o1=>?_
  cases p with
  |tup xs=>let(l,y,rfl,d,z):=t.top.tup c.sub;rw [C.K] at d;exact{l,y,rfl,d,λp A=>dW.lst (W:=W) (G:=s) (H:=u) (xs:=xs.reverse) (λw B D I L=>o1 w B D (g.trans I) (.of L)) c.sub (pf z) A}|_=>exact el o1
def Na(C:zv4 X){a:E}{A st:i2}{I:Pos}(ha:GE X W F a A)(hs:GE X W F (.neg (.cst (.int 1))) st):GE X W F (.rev a) (.Subscript A (.Slice h9 h9 (hI st) I) pos):=
 (O0 (GU.or (GU.or Pn Pk) Pl) ha hs).imp λB H Q h=>by
  let(L,G,env,sr,o):=h;rw [az] at o;refine one sr o λp v c D g t M o1=>{L,c,env,M,?_};have e:az F (.neg (.cst (.int 1))) env=.ok (.int (-1)):=by rw [az,az];rfl
  rw [e];intro O G2 d g2 t2;refine{t2.top.int,?_};have f:=t.grow g2
  cases p with
  |str z=>
   by_cases hl:z.length<=bT
   .have o2:Out X W (if z.length<=bT then Res.ok (PV.str (mm z)) else .bad) B c D _:=o1;rw [if_pos hl] at o2;exact .inr {z,f.top.str,j4 hl,o2 _ G2 d (g.trans g2) (.of .s)}
   .have o2:Out X W (if z.length<=bT then Res.ok (PV.str (mm z)) else .bad) B c D _:=o1;rw [if_neg hl] at o2;exact o2.elim
  |tup xs=>let(l,i,rfl,b,j):=f.top.tup g2.sub;rw [C.K] at b;exact .inl (.inl {l,i,rfl,b,λp m=>dW.tup (W:=W) (G:=G2) (H:=d) (xs:=xs.reverse) (λw q r u y=>o1 w q r ((g.trans g2).trans u) (.of y)) g2.sub (pf j) m})|lst xs=>let(l,i,rfl,b,j):=f.top.lst g2.sub;exact .inl (.inr {l,i,rfl,wG C.K b,λp m=>dW.lst (W:=W) (G:=G2) (H:=d) (xs:=xs.reverse) (λw q r u y=>o1 w q r ((g.trans g2).trans u) (.of y)) g2.sub (pf j) m})|_=>exact el o1
end
end Ci
namespace L2
open PySem.Spec PyProof.Rows PySem.W
end L2
namespace Ci
open L2
section
variable{Γ:Pg}{W:Wd}{F:aP}{sc:kv}{k:Nat}
theorem M5(C:zv4 X){a b:E}{r w:i2}{c K:Pos}(ha:GE X W F a r)(hk:GE X W F b w)(R:attributeBase r "get" X.env (eval r X.env)=eval r X.env)(hl:(c.endLine==K.line)=ie)(hs:starEach [w] X.env=(ig,eval w X.env)::starEach [] X.env):
 GE X W F (.get a b) (.Call (.Attribute r "get" c) [w] [] K):=
 (Ff (by have:=C.room.un;lia) ha hk {R,by rw [hs];rfl,hl,by rw [hs];rfl}).imp λy H Q h=>by
  let(H0,G,env,sr,o):=h;rw [az] at o;refine one sr o λp v G1 H1 g t L o1=>?_
  cases p with
  |cq i z=>
   let(d,us,rfl,n,hd,l):=t.top.cq L.sub;refine{d,rfl,.inl {_,hd},?_};refine one L o1 λq u G2 j g2 t2 S o2=>?_;let(d',B,e,D,T,M):=(t.grow g2).top.cq S.sub
   cases e;cases I:eG q with
   |none=>have m:Out X W ((Res.of (eG q)).bind _) y G2 j _:=o2;rw [I] at m;exact el m|some f=>
    have m:Out X W ((Res.of (eG q)).bind _) y G2 j _:=o2;rw [I] at m;have U:=fF I;subst U;obtain rfl:=t2.top.str;refine{_,.inl {_,ki f,T,rfl,rfl},?_}
    .rw [iG f i B];cases A:bW i z f with
     |some pv=>let(V,Y,Z):=lM M A;rw [Y];have s:Out X W (Res.ok ((bW i z f).getD .aR)) y G2 j _:=m;rw [A] at s;exact s V G2 j (g.trans g2) (.of Z)|none=>
      have:bW i B f=h9:=by have O:=iS f i B D;have P:=iS f i z (by rw [M.length] at D;exact D);rw [A] at P;rw [<-P] at O;exact Option.isSome_eq_false_iff.mp O |> Option.isNone_iff_eq_none.mp
      rw [this];have s:Out X W (Res.ok ((bW i z f).getD .aR)) y G2 j _:=m;rw [A] at s;exact s .aR G2 j (g.trans g2) (.of .n)
  |_=>exact el o1
set_option backward.match.sparseCases false
def Nw{e:E}(h:GE X W F e p)(he:∀a,isTrue p X.env a=(do let v<-a;standAt p.pos;holding [v] (truthy v))):GT X W F e p:=
 L2.PT.imp (O9 h he) λb H Q c=>LN b H Q c
theorem xk{sc:kv}:∀{a:Es} {ps:List i2},dt Γ N sc a ps=ie->∀env pos,(backTo pos (starEach ps env)).all (λx=>!x.1)=ie
 |.nil,[],_,_,_=>rfl|.cons e a,p::ps,h,env,pos=>by replace h:=ak h;rw [notStar h.1];show(ie&&(backTo pos (starEach ps env)).all (λx=>!x.1))=ie;rw [xk h.2];rfl|.nil,_::_,h,_,_=>aN h|.cons _ _,[],h,_,_=>aN h
theorem xE{sc:kv}:∀{a:Es} {ps:List i2},dt Γ N sc a ps=ie->ps.length=g8 a
 |.nil,[],_=>rfl|.cons e a,p::ps,h=>by replace h:=ak h;rw [c4,xE h.2];rfl|.nil,_::_,h=>aN h|.cons _ _,[],h=>aN h
structure YO(X:Cx)(W:Wd)(F:aP)(e:E)(p:i2):Prop where
 ge:GE X W F e p
 gt:gk e=ie->GT X W F e p
 gw:gk e=ie->∀op vs pos,p=.BoolOp op vs pos->GW X W F e p
def aZ{e:E}(h:GE X W F e p)(he:∀a,isTrue p X.env a=(do let v<-a;standAt p.pos;holding [v] (truthy v)))(c:∀b vs pos,p≠.BoolOp b vs pos):YO X W F e p:=
 {h,λZ=>Nw h he,λZ b vs pos e=>absurd e (c b vs pos)}
def isTrue_plain{env:Env}(h:(match p with|.UnaryOp .Not _ _=>ig|.BoolOp .. =>ig|.IfExp .. =>ig|.Compare .. =>ig|_=>ie)=ie):∀b,isTrue p env b=(do let v<-b;standAt p.pos;holding [v] (truthy v)):=by
 intro b;cases p with
 |UnaryOp op a pos=>cases op<;>first|rfl|(exact aN h)
 |BoolOp _ _ _=>exact aN h|IfExp _ _ _ _=>exact aN h|Compare _ _ _ _=>exact aN h|_=>rfl
def fc{env:Env}(h:dU po=ie):attributeBase po m env (eval po env)=eval po env:=by
 cases po<;>first|rfl|(exact aN h)
def CF{env:Env}(h:Ls po=ie):attributeBase po m env (eval po env)=eval po env:=by
 cases po with
 |Call f as b p=>
  cases as with
  |nil=>exact aN h|cons a as=>cases f<;>rfl
 |_=>rfl
def Mp{c:Const}{a:Nat}(h:Ry q c=ie):GE X W F (.cst q) (.Constant c a pos):=by
 cases q with
 |aR=>cases Oo h;exact iD OY λG=>.n
 |bl b=>let(x,e,h):=ah h;cases Mb e;cases eq_of_beq h;exact iD Tp λG=>.b
 |int i=>let(x,e,h):=ah h;cases El e;cases eq_of_beq h;exact iD Fi λG=>.i
 |str z=>let(x,e,h):=ah h;cases Ga e;cases eq_of_beq h;exact iD tG λG=>.s
 |_=>exact aN h
def EH{b:Type}{r:Res b}{c:b->Prop} [∀a,Decidable (c a)]{f:b->Res (List PV)}(e:(r.bind λa=>if c a then(f a).bind λys=>.ok (.lst ys) else .bad)=.ok q):∃ys,q=.lst ys:=by
 let(d,_,e):=Res.aK e;split at e
 .let(ys,_,e):=Res.aK e;cases e;exact{_,rfl}
 .cases e
def HK{b:Nat}{c:List Nat}{d:Tg}{a:E}(env:Sl)(q:PV)(e:az F (.comp b c d it a) env=.ok q):∃ys,q=.lst ys:=by rw [az] at e;exact EH e
def AJ{b:Nat}{d:List Nat}{f:Tg}{c a:E}(env:Sl)(q:PV)(e:az F (.fI b d f it c a) env=.ok q):∃ys,q=.lst ys:=by rw [az] at e;exact EH e
mutual
theorem bt:∀(e:E) {Γ:Pg} {N:List Str} {sc:kv} {X:Cx} (C:zv4 X) (p:i2),aJ Γ N sc e p=ie->YO X W F e p
 |.var i,Γ,N,sc,X,C,p,h=>by let(x,_,rfl,B):=SX h;clear h;have h:=B;clear B;exact aZ (DK C h) (λ_=>rfl) nofun|.Ks i,Γ,N,sc,X,C,p,h=>by let(x,_,rfl,B):=SX h;clear h;have h:=B;clear B;exact aZ (Nc C h) (λ_=>rfl) nofun|.cst q,Γ,N,sc,X,C,p,h=>by let(c,_,_,rfl,B):=Zb h;clear h;have h:=B;clear B;refine aZ (Mp h) (λ_=>rfl) nofun|.glob g q,Γ,N,sc,X,C,p,h=>by let(x,_,rfl,B):=SX h;clear h;have h:=B;clear B;exact aZ (Im C h) (λ_=>rfl) nofun|.call f as,Γ,N,sc,X,C,p,h=>by
  let(g,args,_,_,rfl,B):=wD h;clear h;have h:=B;clear B;replace h:=ak h
  try simp! [zza,zzy] at h
  let(((((rfl,d),j),u),H),A):=h;have ga:=hJ as C args A
  cases as with
  |nil=>
   cases args with
   |nil=>exact aZ (DH C d j u) (λ_=>rfl) nofun|cons _ _=>exact aN A
  |cons e es=>
   cases args with
   |nil=>exact aN A|cons q qs=>have M:=ak A;exact aZ (Il C d j u H ga (notStar M.1 _ _) (cE M.2 _ _)) (λ_=>rfl) nofun
 |.blt b as,Γ,N,sc,X,C,p,h=>by
  let(T,h):=zJ h;let(g,args,_,_,rfl,B):=wD h;clear h;have h:=B;clear B;replace h:=ak h
  try simp! [zza,zzy] at h
  let((((rfl,d),j),u),A):=h;have ga:=hJ as C args A
  cases as with
  |nil=>exact aN u|cons e es=>
   cases args with
   |nil=>exact aN A|cons q qs=>have M:=ak A;exact aZ (MX C T b d j ga (notStar M.1 _ _) (cE M.2 _ _)) (λ_=>rfl) nofun
 |.ty t a,Γ,N,sc,X,C,p,h=>by
  let(g,args,_,_,rfl,B):=wD h;clear h;have h:=B;clear B;let(I,O,y,j):=Kz h;let(tn,_,D,u):=SX j;dsimp only at y D;subst y D;clear h j;have h:=u;clear u;replace h:=ak h
  try simp! [zza,zzy] at h
  let((((((rfl,d),j),rfl),u),H),A):=h;exact aZ (RM C d j u H (bt a C I A).ge (notStar A)) (λ_=>rfl) nofun
 |.zq c a,Γ,N,sc,X,C,p,h=>by
  let(g,args,_,_,rfl,B):=wD h;clear h;have h:=B;clear B;let(I,O,y,j):=Kz h;let(tn,_,D,u):=SX j;dsimp only at y D;subst y D;clear h j;have h:=u;clear u;replace h:=ak h
  try simp! [zza] at h
  let(((((((Q,d),j),P),u),H),A),M):=h;cases zzy.mp Q;cases zzy.mp P;exact aZ (M6 C d j u H A (bt a C I M).ge (notStar M) C.Ow) (λ_=>rfl) nofun
 |.dD m o as,Γ,N,sc,X,C,p,h=>by
  let((f,args,kws,K),e,d):=ah h;have z:=gD e;let((po,attr,apos),P,j):=ah d;have y:=gC P;have u:=ak j;have D:=eh u.1;dsimp only at z y D;subst z y D;clear h d j;have h:=ak u.2;clear u;simp! [zza] at h;let((((((Q,d),j),u),H),A),M):=h;cases zzy.mp Q;have ga:=hJ as C args A
  cases as with
  |nil=>exact aN d|cons e es=>
   cases args with
   |nil=>exact aN A|cons q qs=>have Z:=ak A;have hl:=xE A;refine aZ (M8 C (bt o C po H).ge ga (fc M) ?_ u (notStar Z.1 _ _) (cE Z.2 _ _)) (λ_=>rfl) nofun;rw [xk A];have Ny:=zzY j;refine Bool.and_eq_true_iff.mpr {rfl,zzh ?_};rw [hl];exact Ny
 |.bin o a b,Γ,N,sc,X,C,p,h=>by let(q,e,d):=ah h;let(_,rfl):=L9 e;clear h;have h:=ak d;have L:=ak h.1;rw [<-zzY L.1];exact aZ (MW C (bt a C _ L.2).ge (bt b C _ h.2).ge) (λ_=>rfl) nofun|.cmp o a b,Γ,N,sc,X,C,p,h=>by let(I,ops,cs,_,rfl,d):=UN h;let(op,y,j):=eW d;let(O,D,u):=eW j;dsimp only at y D;subst y D;clear h d j;have h:=u;clear u;replace h:=ak h;have L:=ak h.1;cases zzY L.1;have d:=L.2;have j:=h.2;exact{MY C (bt a C _ d).ge (bt b C _ j).ge (sX j _),λ_=>Nu C (bt a C _ d).ge (bt b C _ j).ge (sX j _),(λ_ _ _ _ z=>nomatch z)}
 |.ch o1 o2 a b c,Γ,N,sc,X,C,p,h=>by
  let(I,ops,cs,_,rfl,d):=UN h;let(op1,op2,y,j):=Kz d;let(O,pc,D,u):=Kz j;dsimp only at y D;subst y D;clear h d j;have h:=u;clear u;replace h:=ak h
  try simp! [zza,zzN] at h
  let((((rfl,rfl),d),j),u):=h;have hm:lastMarks [m8 o1,m8 o2] [O,pc]=ig:=sX u _;exact{RL C (bt a C _ d).ge (bt b C _ j).ge (bt c C _ u).ge hm,λ_=>RO C (bt a C _ d).ge (bt b C _ j).ge (bt c C _ u).ge hm,(λ_ _ _ _ z=>nomatch z)}
 |.not a,Γ,N,sc,X,C,p,h=>by let(o,I,_,rfl,d):=Yn h;clear h;have h:=ak d;cases Ej h.1;have s:=bt a C I h.2;exact{M9 s.ge,λz=>Nv (s.gt z),(λ_ _ _ _ z=>nomatch z)}
 |.fld i f,Γ,N,sc,X,C,p,h=>by let((o,m,ap),Q,d):=ah h;let(x,P,j):=ah d;let(np,z):=eT P;dsimp only at z j;subst z;have e3:=gC Q;dsimp only at e3;subst e3;rw [zza,zza,zzy,zzN] at j;let((rfl,u),H):=j;exact aZ (M4 C u H) (λ_=>rfl) nofun|.con a,Γ,N,sc,X,C,p,h=>by
  have d:=ak h;exact{MZ C (bt a C p d.2).ge (by cases a<;>first|rfl|exact aN d.1),nofun,nofun}
 |.Mt,Γ,N,sc,X,C,p,h=>by let(K,rfl):=zi h;exact aZ (M0 C) (λ_=>rfl) nofun|.Mv ks,Γ,N,sc,X,C,p,h=>by let(q,e,d):=ah h;let(K,rfl):=Mu e;have j:=ak d;have u:=ak j.2;exact aZ (M3 C j.1 (λz=>by rw [z] at u;cases u.1) (zzY u.2)) (λ_=>rfl) nofun
 |.neg a,Γ,N,sc,X,C,p,h=>by let(o,I,_,rfl,d):=Yn h;clear h;have h:=ak d;cases vv h.1;exact aZ (DI (bt a C I h.2).ge) (λ_=>rfl) nofun
 |.and a b,Γ,N,sc,X,C,p,h=>by
  let(o,vs,K,rfl,d):=VU h;let((I,O),P,j):=ah d;clear h d;have h:=ak j;clear j
  try simp! [zza] at h
  let(((L,he),d),j):=h;cases Eg L;have sa:=bt a C I d;have R:=bt b C O j
  rcases wX P with z|⟨q,c,r,z,y⟩
  .dsimp only at z;subst z;have gw:gk (.and a b)=ie->GW X W F (.and a b) (.BoolOp .And [I,O] K):=λz=>by
    have z:=ak z;exact DV (sa.gt z.1) (pw_and1 (R.gt z.2))
   exact{DG he sa.ge (Fm R.ge),λz=>(gw z).pt,λz _ _ _ _=>gw z}
  .dsimp only at z y;subst z y;have gw:gk (.and a b)=ie->GW X W F (.and a b) (.BoolOp .And (I::q::c::r) K):=λz=>by
    have z:=ak z;exact DV (sa.gt z.1) (R.gw z.2 _ _ _ rfl)
   exact{DG he sa.ge R.ge,λz=>(gw z).pt,λz _ _ _ _=>gw z}
 |.or a b,Γ,N,sc,X,C,p,h=>by
  let(o,vs,K,rfl,d):=VU h;let((I,O),P,j):=ah d;clear h d;have h:=ak j;clear j
  try simp! [zza] at h
  let(((L,he),d),j):=h;cases zo L;have sa:=bt a C I d;have R:=bt b C O j
  rcases wX P with z|⟨q,c,r,z,y⟩
  .dsimp only at z;subst z;have gw:gk (.or a b)=ie->GW X W F (.or a b) (.BoolOp .Or [I,O] K):=λz=>by
    have z:=ak z;exact Lf (sa.gt z.1) (pw_or1 (R.gt z.2))
   exact{Ld he sa.ge (Fm R.ge),λz=>(gw z).pt,λz _ _ _ _=>gw z}
  .dsimp only at z y;subst z y;have gw:gk (.or a b)=ie->GW X W F (.or a b) (.BoolOp .Or (I::q::c::r) K):=λz=>by
    have z:=ak z;exact Lf (sa.gt z.1) (R.gw z.2 _ _ _ rfl)
   exact{Ld he sa.ge R.ge,λz=>(gw z).pt,λz _ _ _ _=>gw z}
 |.ite c a b,Γ,N,sc,X,C,p,h=>by
  let(q,e,d):=ah h;let(_,rfl):=Ec e;clear h;have h:=ak d;clear d
  try simp! [zza] at h
  let(((((L,d),j),u),H),A):=h;exact{M7 d j ((bt c C _ u).gt L) (bt a C _ H).ge (bt b C _ A).ge,nofun,(λ_ _ _ _ z=>nomatch z)}
 |.tup as,Γ,N,sc,X,C,p,h=>by let(ps,e,d):=ah h;let(_,_,rfl):=nL e;clear h;have h:=ak d;have L:=ak h.1;exact aZ (Nd L.1 (zzY L.2) (hJ as C _ h.2)) (λ_=>rfl) nofun|.lst as,Γ,N,sc,X,C,p,h=>by let(ps,e,d):=ah h;let(_,rfl):=xH e;clear h;have h:=ak d;have L:=ak h.1;exact aZ ((DM L.1 (zzY L.2) (hJ as C _ h.2)).ge lst_is) (λ_=>rfl) nofun|.sub a b,Γ,N,sc,X,C,p,h=>by let(I,O,_,rfl,B):=Vi h;clear h;have h:=B;clear B;replace h:=ak h;exact aZ (Nb C (bt a C _ h.1).ge (bt b C _ h.2).ge (Fv h.2)) (λ_=>rfl) nofun|.rev a,Γ,N,sc,X,C,p,h=>by let(I,ps,_,rfl,d):=Vi h;let(pl,ph,pst,_,y,j):=Z5 d;let(st,D,u):=ah j;let(uo,ue,_,S,H):=Yn u;let(cc,_,_,z5,A):=Zb H;clear h d j u H;have h:=ak A;clear A;simp! [zza] at h;let((((y1,y2),y3),y4),y5):=h;have w1:=Ov y1;have w2:=Ov y2;have w3:=vv y3;have w4:=El (eq_of_beq y4);dsimp only at y D S z5 w1 w2 w3 w4;subst y D S z5 w1 w2 w3 w4;exact aZ (Na C (bt a C I y5).ge (DI (iD Fi λG=>.i))) (λ_=>rfl) nofun|.get a k,Γ,N,sc,X,C,p,h=>by let((f,as,kws,K),e3,u):=ah h;have D:=gD e3;let((po,attr,apos),e4,H):=ah u;have S:=gC e4;let(pk,z5,A):=eW H;have g:=ak A;simp! [zza] at g;let(((((n1,Q),M),Z),h8),B):=g;have z6:=eh n1;cases zzy.mp Q;dsimp only at D S z5 z6;subst D S z5 z6;exact aZ (M5 C (bt a C po h8).ge (bt k C pk B).ge (CF Z) M (notStar B _ _)) (λ_=>rfl) nofun
 |.EG a,Γ,N,sc,X,C,p,h=>by let(T,h):=zJ h;let(g,args,_,_,rfl,B):=wD h;clear h;have h:=B;clear B;let(z,y,j):=eW h;let(g2,a2,_,_,D,u):=wD j;let(I,S,H):=eW u;dsimp only at y D S;subst y D S;clear h j u;have h:=ak H;clear H;simp! [zza] at h;let((((((Q,d),j),P),u),H),A):=h;cases zzy.mp Q;cases zzy.mp P;exact aZ (Io C T d j u H (bt a C I A).ge (notStar A _ _)) (λ_=>rfl) nofun
 |.slice a lo hi,Γ,N,sc,X,C,p,h=>by let(I,ps,_,rfl,d):=Vi h;let(pl,ph,pst,_,y,j):=Z5 d;clear h d;have h:=ak j;simp! [zza] at h;have w:=Ov h.1.1.1;dsimp only at y w;subst y w;exact aZ (DJ C (bt a C _ h.1.1.2).ge (TN lo C pl h.1.2) (TN hi C ph h.2)) (λ_=>rfl) nofun|.comp kk bh tg it elt,Γ,N,sc,X,C,p,h=>by let(T,h):=zJ h;let(k9,gens,U,_,rfl,d):=Xi h;let((cN,i3,ifs,asy),y,j):=eW d;have u:=ak j;have D:=eh u.1;dsimp only at y D;subst y D;clear h d j;have h:=ak u.2;clear u;simp! [zza] at h;let((((((d,j),u),H),A),M),V):=h;have V:=zzY V;subst V;exact aZ ((Iq C T (n9 d) j u (Ka it C cN i3 H) (nv H _) A λY CY=>(bt elt CY k9 M).ge).ge HK) (λ_=>rfl) nofun|.fI kk bh tg it c elt,Γ,N,sc,X,C,p,h=>by let(T,h):=zJ h;let(k9,gens,U,_,rfl,d):=Xi h;let((cN,i3,ifs,asy),y,j):=eW d;let(pc,D,u):=eW j;dsimp only at y D;subst y D;clear h d j;have h:=ak u;clear u;simp! [zza] at h;let((((((((L,d),j),u),H),A),M),Z),V):=h;have V:=zzY V;subst V;exact aZ ((A5 C T (n9 d) j u (Ka it C cN i3 H) (nv H _) A (λY CY=>(bt c CY pc M).gt L) λY CY=>(bt elt CY k9 Z).ge).ge AJ) (λ_=>rfl) nofun
theorem hJ:∀(a:Es) {Γ:Pg} {N:List Str} {sc:kv} {X:Cx} (C:zv4 X) (ps:List i2),dt Γ N sc a ps=ie->GA X W F a ps
 |.nil,Γ,N,sc,X,C,ps,h=>by
  cases ps with
  |nil=>exact MV|cons _ _=>exact aN h
 |.cons e a,Γ,N,sc,X,C,ps,h=>by
  cases ps with
  |nil=>exact aN h|cons p ps=>replace h:=ak h;exact Ij (bt e C p h.1).ge (hJ a C ps h.2) (notStar h.1 _ _)
theorem TN:∀(o:Oe) {Γ:Pg} {N:List Str} {sc:kv} {X:Cx} (C:zv4 X) (p:Option i2),Mj Γ N sc o p=ie->PO X p (Gk X W F o)
 |.no,Γ,N,sc,X,C,p,h=>by
  cases p with
  |none=>exact Ir|some _=>exact aN h
 |.some e,Γ,N,sc,X,C,p,h=>by
  cases p with
  |none=>exact aN h|some p=>exact Iu (bt e C p h).ge
theorem Ka:∀(it:I) {Γ:Pg} {N:List Str} {sc:kv} {X:Cx} (C:zv4 X) (b p:i2),uV Γ N sc b it p=ie->GI X W F b it p
 |.seq e,Γ,N,sc,X,C,b,p,h=>by exact Ng C (bt e C p h).ge|.pU e,Γ,N,sc,X,C,b,p,h=>by let(g,args,_,_,rfl,d):=wD h;clear h;have h:=d;clear d;let(q,r,c):=eW h;dsimp only at r;subst r;clear h;have h:=ak c;clear c;simp! [zza] at h;let(((i,j),c),f):=h;cases zzy.mp i;exact Nf C j c (notStar f) (bt e C q f).ge
 |.zip as,Γ,N,sc,X,C,b,p,h=>by
  let(g,args,_,_,rfl,d):=wD h;clear h;replace h:=ak d;clear d;simp! [zza] at h;let((((((t,i),j),c),f),m),o):=h;cases zzy.mp i;cases b<;>first|(exact aN t)|skip
  rw [zzy] at m;cases as with
  |nil=>exact absurd m (by show¬(0=2);lia)|cons a as=>
   cases args with
   |nil=>exact aN o|cons q qs=>have s:=ak (show(aJ Γ N sc a q&&dt Γ N sc as qs)=ie from o);exact Nh C j c f m (hJ (.cons a as) C (q::qs) o) (notStar s.1 _ _) (cE s.2 _ _)
end
set_option backward.match.sparseCases true
end
end Ci
namespace L2
open PySem.Spec PyProof.Rows
end L2
namespace Ci
open L2
section
variable{W:Wd}{G0:Hp}
def Own.LQ{p:PV}(h:Own W H0 G H p v):∃a o,v=.ref a/\H a=hI o/\G a=h9/\H0 a=h9/\((∀b,aC G b->b a=hI o->Rep W b p (.ref a))\/∃g,o=.dK g/\∀ob b,aC G b->b a=hI (.bV ob (.dK g))->Rep W b p (.ref a)):=by
 cases p with
 |lst xs=>let(a,k,rfl,c,d,f,l):=h;exact{a,_,rfl,c,d,f,.inl λb s e=>.l (.inl (.inl e)) (ai.same s xs l)}|cq m i=>let(a,j,rfl,n,c,d,f,l):=h;exact{a,_,rfl,c,d,f,.inr {_,rfl,λob b s e=>by simp! [Rep];exact{a,ob,j,rfl,n,e,ai.same s i l}}}|aR=>exact h.elim|bl _=>exact h.elim|int _=>exact h.elim|str _=>exact h.elim|tup _=>exact h.elim|exc _=>exact h.elim|obj _=>exact h.elim
theorem Own.EZ{p:PV}(h:Own W H0 G H p (.ref a))(ps:Array iv):H a≠hI (.gz ps):=λz=>by
 cases p with
 |lst xs=>let(b,d,e,c,_):=h;cases e;rw [z] at c;cases c
 |cq f qs=>let(b,g,e,_,c,_):=h;cases e;rw [z] at c;cases c
 |_=>exact h.elim
theorem ME(t:bA W G H0)(h:H0 a=h9)(n:Nat)(o:Ob)(e:W.ob[n]?=hI o):o.a≠a:=λz=>by let(_,c,b,_):=t.o n o e;rw [z,h] at b;cases b
theorem wx{ob:HO}{d:Hp}(t:kl W G H)(g:G a=h9)(n:∀ps,H a≠hI (.gz ps))(h:∀b,b≠a->d b=H b):kl W (upd G a ob) d:=λP q m=>by
 let(i,ps,e,j,k):=t P q m;have f:P≠a:=λz=>by subst z;exact n _ e
 refine{by rw [ag f];exact i,ps,by rw [h P f];exact e,j,λc o y=>?_};let(p,oc,r,s,u,w,A,B):=k c o y;exact{p,oc,r,s,u,bj g _ _ w,A,B}
theorem Af{ob:HO}{c:Hp}(t:bA W G H)(d:G a=h9)(n:∀ps,H a≠hI (.gz ps))(nf:∀(n:Nat) (o:Ob),W.ob[n]?=hI o->o.a≠a)(f:∀b,b≠a->c b=H b):bA W (upd G a ob) c:={wx t.t d n f,λi o m=>by let(h,j,e,l):=t.o i o m;have g:o.a≠a:=nf i o m;exact{by rw [ag g];exact h,j,by rw [f _ g];exact e,ai.same (bj d) _ l}}
def Own.fW{p:PV}{d i:Hp}(h:Own W H0 G H p v)(j:v≠.ref a)(k:aC G d)(m:∀b,b≠a->d b=G b)(o:∀b,b≠a->i b=H b):Own W H0 d i p v:=by
 cases p with
 |lst xs=>let(b,q,rfl,e,f,g,l):=h;have c:b≠a:=λz=>j (by rw [z]);exact{b,q,rfl,by rw [o b c];exact e,by rw [m b c];exact f,g,ai.same k xs l}|cq t r=>let(b,s,rfl,n,e,f,g,l):=h;have c:b≠a:=λz=>j (by rw [z]);exact{b,s,rfl,n,by rw [o b c];exact e,by rw [m b c];exact f,g,ai.same k r l}|aR=>exact h.elim|bl _=>exact h.elim|int _=>exact h.elim|str _=>exact h.elim|tup _=>exact h.elim|exc _=>exact h.elim|obj _=>exact h.elim
def getElem?_modify{a:Type}(l:List a)(i j:Nat)(f:a->a):(l.modify i f)[j]?=if i=j then(l[j]?).map f else l[j]?:=by rw [List.getElem?_modify];split<;>simp_all
def vj(r:SR W H0 env σ G H)(g:aE W G0 H0 G H){i:Nat}{p:PV}{a:i1}{ob f:HO}{m:Hp}(C:env[i]?=hI (.own p))(F:σ[i]?=hI (hI (.ref a)))(I:Own W H0 G H p (.ref a))(Z:H a=hI ob)(y:G a=h9)(o:H0 a=h9)
 (O:∀D,aC G D->D a=hI f->Rep W D p (.ref a)) (P:m a=hI f) (w:∀b,b≠a->m b=H b):SR W H0 (env.modify i sE) σ (upd G a f) m/\aE W G0 H0 (upd G a f) m:=by
 have A:aC G (upd G a f):=bj y
 have sub:aC (upd G a f) m:=λb u e=>by
  by_cases d:b=a
  .subst d;rw [aq] at e;cases e;exact P
  .rw [ag d] at e;rw [w b d];exact r.sub _ _ e
 have base:∀{B:Hp},B a=h9->i8 B H->i8 B m:=λQ k b u e=>by
  have d:b≠a:=λz=>by rw [z,Q] at e;cases e
  rw [w b d];exact k b u e
 refine{{by rw [List.length_modify];exact r.len,sub,base o r.base,λj s e=>?_,λj l q R c K L S T=>?_,Af r.tab y I.EZ (ME r.je o) w,Af r.je y (λ_ z=>by rw [o] at z;cases z) (ME r.je o) λ_ _=>rfl},{g.g.trans A,base o g.h,sub,λb M U V=>?_,λt=>wx (g.tb t) y I.EZ w}}
 .rw [getElem?_modify] at e;split at e
  .rename_i z;subst z;rw [C] at e;cases e;exact{_,F,_,rfl,O _ A aq}
  .rename_i z;let(o2,N,k2):=r.slot j s e
   refine{o2,N,?_};cases s with
   |no=>exact trivial|val q=>let(E,rfl,rv):=k2;exact{E,rfl,Rep.same A q rv}|own q=>let(E,rfl,X):=k2;refine{E,rfl,X.fW (a:=a) (λY=>?_) A (λb d=>ag d) w};subst Y;exact z (r.apart i j p q a C e F N)
 .rw [getElem?_modify] at K L;have ne:∀{j:Nat} {q:PV},(if i=j then(env[j]?).map sE else env[j]?)=hI (.own q)->i≠j/\env[j]?=hI (.own q):=λ{j q} e=>by
   split at e
   .rename_i z;subst z;rw [C] at e;cases e
   .rename_i z;exact⟨z,e⟩
  exact r.apart j l q R c (ne K).2 (ne L).2 S T
 .have d:b≠a:=λz=>M (by rw [z];exact o);rw [ag d];exact g.own b M U V
def oC(r:SR W H0 env σ G H)(g:aE W G0 H0 G H)(i:Nat):(∃c,SR W H0 (env.modify i sE) σ c H/\aE W G0 H0 c H)\/∃a d,H a=hI (.dK d)/\∀o,∃c,SR W H0 (env.modify i sE) σ c (upd H a (.bV o (.dK d)))/\aE W G0 H0 c (upd H a (.bV o (.dK d))):=by
 have same:(∀p,env[i]?≠hI (.own p))->env.modify i sE=env:=λh=>by
  refine List.ext_getElem? λj=>?_;rw [getElem?_modify];split
  .rename_i e;subst e;cases q:env[i]? with
   |none=>rfl|some s=>
    cases s with
    |own p=>exact absurd q (h p)|no=>rfl|val p=>rfl
  .rfl
 by_cases u:∃p,env[i]?=hI (.own p)
 .let(p,k):=u;let(o,w,v,rfl,y):=r.slot i _ k;have A:=y;obtain⟨a,ob,rfl,f,B,C,m|⟨d,rfl,m⟩⟩:=y.LQ
  .let(t,k2):=vj r g k w A f B C m f λZ Z=>rfl;exact .inl {_,t,k2}
  .refine .inr {a,d,f,λo=>?_};let(t,k2):=vj r g k w A f B C (m o) aq λb D=>ag D;exact{_,t,k2}
 .exact .inl {G,by rw [same λp z=>u ⟨p,z⟩];exact r,g}
def ES(r:SR W H0 env σ G H)(g:aE W G0 H0 G H){i:Nat}{p p':PV}{a:i1}{ob:HO}(k:env[i]?=hI (.own p))(hs:σ[i]?=hI (hI (.ref a)))(F:G a=h9)(y:H0 a=h9)(hn:Own W H0 G (upd H a ob) p' (.ref a)):
 SR W H0 (env.set i (.own p')) σ G (upd H a ob)/\aE W G0 H0 G (upd H a ob):=by
 have N:i<env.length:=(b4.mp k).1;have Qy:Own W H0 G H p (.ref a):=by let(o2,d,A,rfl,B):=r.slot i _ k;rw [hs] at d;cases d;exact B
 have C:∀D,H a≠hI (.gz D):=by let(o2,d,A,rfl,B):=r.slot i _ k;rw [hs] at d;cases d;exact B.EZ
 have w:∀{I:Hp},kl W I H->kl W I (upd H a ob):=λt=>t.same (aC.refl _) (λ_ _ _ h=>h) λP D e=>by rw [ag (λz=>by subst z;exact C D e)];exact e
 have tab:bA W G H->bA W G (upd H a ob):=λt=>{w t.t,λn o m=>by let(O,Q,e,l):=t.o n o m;exact{O,Q,by rw [ag (ME r.je y n o m)];exact e,l}};refine{{by rw [List.length_set];exact r.len,λb u e=>?_,λb u e=>?_,λj s e=>?_,λj l q q' c R S T U=>?_,tab r.tab,r.je},{g.g,λb u e=>?_,λb u e=>?_,g.own,λt=>w (g.tb t)}}
 .rw [ag (λz=>by subst z;rw [F] at e;cases e)];exact r.sub _ _ e
 .rw [ag (λz=>by subst z;rw [y] at e;cases e)];exact r.base _ _ e
 .by_cases f:i=j
  .subst f;rw [eu N] at e;cases e;exact{_,hs,_,rfl,hn}
  .rw [dX f] at e;let(o2,d,K):=r.slot j s e
   refine{o2,d,?_};cases s with
   |no=>exact trivial|val q=>exact K|own q=>let(A,rfl,V):=K;refine{A,rfl,V.fW (a:=a) (λX=>?_) (aC.refl _) (λb L=>rfl) λb L=>ag L};subst X;exact f (r.apart i j p q a k e hs d)
 .have M:∀{j:Nat} {q:PV},(env.set i (.own p'))[j]?=hI (.own q)->∃E,env[j]?=hI (.own E):=λ{j q} e=>by
   by_cases f:i=j
   .subst f;exact⟨p,k⟩
   .rw [dX f] at e;exact⟨q,e⟩
  let(E,Y):=M R;let(Z,f2):=M S;exact r.apart j l E Z c Y f2 T U
 .rw [ag (λz=>by subst z;rw [y] at e;cases e)];exact g.h _ _ e
 .rw [ag (λz=>by subst z;rw [F] at e;cases e)];exact g.sub _ _ e
def E9(r:SR W H0 env σ G H)(g:aE W G0 H0 G H){i:Nat}{p:PV}{ob:HO}(t:i<env.length)(ha:H a=h9)(hn:Own W H0 G (upd H a ob) p (.ref a)):
 SR W H0 (env.set i (.own p)) (σ.set i (hI (.ref a))) G (upd H a ob)/\aE W G0 H0 G (upd H a ob):=by
 have w:aE W G H G (upd H a ob):=.Od r.sub ha;have m:=r.grow w;have o:∀{j:Nat} {q:PV},env[j]?=hI (.own q)->σ[j]?=hI (hI (.ref a))->False:=λ{j q} f h=>by let(o2,u,C,rfl,z):=r.slot j _ f;rw [h] at u;cases u;let(D,E,b,y,_):=z.LQ;cases b;rw [ha] at y;cases y
 refine{{by rw [List.length_set,List.length_set];exact r.len,m.sub,m.base,λj s e=>?_,λj l q A c f h b k=>?_,m.tab,m.je},g.trans w}
 .by_cases d:i=j
  .subst d;rw [eu t] at e;cases e;exact{_,eu (by rw [<-r.len];exact t),_,rfl,hn}
  .rw [dX d] at e;let(o2,u,B):=m.slot j s e;exact{o2,by rw [dX d];exact u,B}
 .by_cases d:i=j
  .by_cases hl:i=l
   .exact d.symm.trans hl
   .exfalso;subst d;rw [eu (by rw [<-r.len];exact t)] at b;rw [dX hl] at h k;cases b;exact o h k
  .by_cases hl:i=l
   .exfalso;subst hl;rw [eu (by rw [<-r.len];exact t)] at k;rw [dX d] at f b;cases k;exact o f b
   .rw [dX d] at f b;rw [dX hl] at h k;exact r.apart j l q A c f h b k
end
abbrev nB:E->Bool
 |.lst _=>ie|_=>ig
abbrev Xw:E->Bool
 |.comp _ _ _ _ _=>ig|.fI _ _ _ _ _ _=>ig|_=>ie
abbrev dP:i2->Bool
 |.ListComp .. =>ig|.SetComp .. =>ig|.DictComp .. =>ig|_=>ie
abbrev S8:i2->Bool
 |.Tuple a _ _=>decide (3<a.length)|_=>ie
abbrev SJ(sc:kv):i2->Bool
 |.Name x _=>sc.names.lookup x==hI .local|_=>ig
abbrev Uo(sc:kv)(t p:i2):Bool:=S8 p||(B2 t).any λts=>ts.any λe=>!SJ sc e
abbrev SW(ts:List i2):Option Str:=(dw ts).bind j5
abbrev ZS(e:i2):Option (Str×Str×List i2):=(B9 e).bind λq=>(GY q.1).bind λr=>(j5 r.1).bind λx=>if(q.2.2.1.isEmpty&&r.2.2.endLine==q.2.2.2.line)=ie then hI (x,r.2.1,q.2.1) else h9
abbrev Z4(ts:List i2):Option (Str×i2):=(dw ts).bind λt=>(PM t).bind λq=>(j5 q.1).bind λx=>hI (x,q.2)
abbrev Z2(o:Option i2):Option (Str×Str):=o.bind λe=>(B9 e).bind λq=>(j5 q.1).bind λx=>(dw q.2.1).bind λa=>(Rw a).bind λc=>(pV c).bind λz=>if q.2.2.1.isEmpty=ie then hI (x,z) else h9
def sW{ts:List i2}(h:SW ts=hI x):∃a,ts=[.Name x a]:=by let(t,b,c):=wU h;let(p,rfl):=eT c;exact{p,iZ b}
def Oc{args:List i2}(h:ZS p=hI (x,m,args)):∃np b d,p=.Call (.Attribute (.Name x np) m b) args [] d/\(b.endLine==d.line)=ie:=by let((f,a,k,s),j,h):=wU h;let((o,t,ap),q,h):=wU h;let(y,r,h):=wU h;let(c,h):=if1 h;cases h;rw [zza] at c;let(u,e):=eT r;have g:=gC q;have i:=List.isEmpty_iff.1 c.1;dsimp only at g e i;subst e g i;exact{_,_,_,gD j,c.2}
def Pr{ts:List i2}{c:i2}(h:Z4 ts=hI (x,c)):∃np sp,ts=[.Subscript (.Name x np) c sp]:=by let(t,e,h):=wU h;let((a,b),f,h):=wU h;let(y,g,h):=wU h;cases h;let(j,d):=eT g;let(k,i):=Gg f;dsimp only at d;subst d i;exact{_,_,iZ e}
def Pp{o:Option i2}(h:Z2 o=hI (x,z)):∃np j m b,o=hI (.Call (.Name x np) [.Constant (.str z) j m] [] b):=by let(e,p,h):=wU h;let((f,a,k,b),q,h):=wU h;let(y,r,h):=wU h;let(t,s,h):=wU h;let(c,u,h):=wU h;let(w,A,h):=wU h;let(B,h):=if1 h;cases h;let(E,d):=eT r;let(F,G,C):=C3 u;have g:=iZ s;have D:=Ga A;have i:=List.isEmpty_iff.1 B;dsimp only at d g i;subst d D C g i;exact{_,_,_,_,p.trans (congrArg hI (gD q))}
abbrev JI:List i2->Option (Str×Pos×Str×Pos)
 |[.Tuple [.Name x a,.Name y py] _ _]=>hI (x,a,y,py)|_=>h9
def zN{ts:List i2}{q:Str×Pos×Str×Pos}(h:JI ts=hI q):∃a pt,ts=[.Tuple [.Name q.1 q.2.1,.Name q.2.2.1 q.2.2.2] a pt]:=by
 unfold JI at h;split at h
 .cases h;exact{_,_,rfl}
 .cases h
abbrev isStar:i2->Bool
 |.Starred .. =>ie|_=>ig
abbrev Fd(a b:i2):Bool:=!isStar a&&!isStar b&&!(foldedForSure 8 a&&foldedForSure 8 b)&&!(constantsAlone 8 a&&constantsAlone 8 b)
mutual
noncomputable def gb(Γ:Pg)(N:List Str)(sc:kv):S->k6->Bool
 |.expr e,.Expr p _=>dP p&&aJ Γ N sc e p|.set i e,.Assign ts p _=>(SW ts).any λx=>N[i]?==hI x&&jc sc x&&d7 e&&aJ Γ N sc e p&&Xw e|.own i e,.Assign ts p _=>(SW ts).any λx=>N[i]?==hI x&&jc sc x&&nB e&&aJ Γ N sc e p|.Cq f e,.Assign ts p _=>(dw ts).any λd=>isTup d&&fB N sc (λZ=>ie) f d&&dP p&&Uo sc d p&&d7 e&&aJ Γ N sc e p|.app i e,.Expr v _=>(ZS v).any λc=>N[i]?==hI c.1&&ke sc c.1&&okN c.1&&c.2.1==("append":Str)&&d7 e&&(dw c.2.2).any λp=>aJ Γ N sc e p|.put i k e,.Assign ts p _=>(Z4 ts).any λc=>N[i]?==hI c.1&&ke sc c.1&&okN c.1&&d7 e&&aJ Γ N sc k c.2&&aJ Γ N sc e p|.ret e,.Return (hI p) _=>d7 e&&aJ Γ N sc e p|.ite c a b,.If p o g _=>gk c&&aJ Γ N sc c p&&dZ Γ N sc a o&&dZ Γ N sc b g|.eS f it b,.For d s g h _=>h.isEmpty&&fB N sc (λZ=>ie) f d&&AZ it&&uV Γ N sc d it s&&dZ Γ N sc b g|.raise c m,.Raise ex fr _=>fr.isNone&&(Z2 ex).any λq=>c==q.1&&m==q.2&&Γ.rs.contains c&&fA sc c&&okN c|.par i j as,.Assign ts (.Tuple [a,b] _ _) _=>(JI ts).any λq=>N[i]?==hI q.1&&N[j]?==hI q.2.2.1&&decide (i≠j)&&q.1 !=q.2.2.1&&q.2.2.2.line==q.2.1.line&&sc.names.lookup q.1==hI .local&&sc.names.lookup q.2.2.1==hI .local&&Fd a b&&hX as&&dt Γ N sc as [a,b]|.vQ i e,.Assign ts v _=>(SW ts).any λx=>(ux v).any λq=>(dw q.2).any λr=>q.1==("dict":Str)&&fA sc q.1&&Γ.bs.contains q.1&&N[i]?==hI x&&jc sc x&&aJ Γ N sc e r|_,_=>ig
noncomputable def dZ(Γ:Pg)(N:List Str)(sc:kv):Ss->List k6->Bool
 |.nil,[]=>ie|.cons (.bV _) ss,ps=>dZ Γ N sc ss ps|.cons s ss,p::ps=>gb Γ N sc s p&&dZ Γ N sc ss ps|_,_=>ig
end
section
variable{Γ:Pg}{W:Wd}{F:aP}{sc:kv}{k:Nat}{E:XK}
def SR.go{a:St}(r:SR W H0 env a G H):aE W G H0 G H:={aC.refl _,r.base,r.sub,λZ Z Z h=>h,λZ=>r.tab.t}
def aE.then{c G2 d:Hp}(a:aE W G H0 c H1)(b:aE W c H0 G2 d):aE W G H0 G2 d:={a.g.trans b.g,b.h,b.sub,λx e f i=>b.own x e f (a.own x e f i),λt=>b.tb (t.same a.g a.own λZ Z h=>h)}
def SR.on{c:St}{a:Hp}(r:SR W H0 env c G H)(g:aE W G H a H1):aE W G H0 a H1:={g.g,r.base.trans g.h,g.sub,λx b d e=>g.own x (λz=>b (r.base.free z)) (r.base.ji b d) e,λZ=>g.tb r.tab.t}
def Dn(W:Wd)(H0 G:Hp)(D:Ends):Fl->Prop
 |.nx env=>∀c b a,SR W H0 env c b a->aE W G H0 b a->D.nx c a|.bk env=>∀c b a,SR W H0 env c b a->aE W G H0 b a->D.bk c a|.ct env=>∀c b a,SR W H0 env c b a->aE W G H0 b a->D.ct c a|.rt p=>∀v b a,Rep W b p v->aE W G H0 b a->D.rt v a
def cJ(W:Wd)(H0 G:Hp)(E:XK)(r:Res Fl)(D:Ends):Prop:=match r with
 |.ok f=>Dn W H0 G D f|.exc c=>∀a b d,XE W c G H0 a b d->E a b d|.bad=>False
def Dn.on{e:Hp}{D:Ends}{f:Fl}(h:Dn W H0 G D f)(g:aE W G H0 e H1):Dn W H0 e D f:=by
 cases f with
 |nx env=>exact λd a b r c=>h d a b r (g.then c)|bk env=>exact λd a b r c=>h d a b r (g.then c)|ct env=>exact λd a b r c=>h d a b r (g.then c)|rt p=>exact λv a b r c=>h v a b r (g.then c)
def cJ.on{b:Hp}{D:Ends}{r:Res Fl}(h:cJ W H0 G E r D)(g:aE W G H0 b H1):cJ W H0 b E r D:=by
 cases r with
 |ok f=>exact Dn.on h g|exc c=>intro d e i x;let(C,a,j,m,o,p,q,g2):=x;exact h d e i {C,a,j,m,o,p,q,g.then g2}|bad=>exact h
abbrev tS(W:Wd)(F:aP)(H0:Hp)(E:XK)(s:S):TS:=λD a H=>∃G env,SR W H0 env a G H/\cJ W H0 G E (dq F s env) D
abbrev tSs(W:Wd)(F:aP)(H0:Hp)(E:XK)(a:Ss):TS:=λD b H=>∃G env,SR W H0 env b G H/\cJ W H0 G E (bJ F a env) D
noncomputable abbrev GS(X:Cx)(W:Wd)(F:aP)(H0:Hp)(E:XK)(s:S)(p:k6):Prop:=PS X p (tS W F H0 E s)
noncomputable abbrev GR(X:Cx)(W:Wd)(F:aP)(H0:Hp)(E:XK)(s:Ss)(p:List k6):Prop:=qE X p (tSs W F H0 E s)
def _root_.L2.PS.imp{p:k6}{t t':TS}(h:PS X p t)(i:∀D a H,t' D a H->t D a H):PS X p t':=λb s a H D I c=>h b s a H D I (i D a H c)
def _root_.L2.qE.imp{p:List k6}{t t':TS}(h:qE X p t)(i:∀D a H,t' D a H->t D a H):qE X p t':=λb s a H D I c=>h b s a H D I (i D a H c)
structure fG(Γ:Pg)(F:aP)(W:Wd)(N:List Str)(sc:kv)(k:Nat)(E:XK)(X:Cx):Prop where
 C:zv4 X
 fn:∀x,X.fn x=ie
 own:PassesOwn (kr X.prog X.w) X.A X.env X.xe
 pass:Passes (dz X.prog X.w) X E
 kind:sc.kind=.function
 PL:X.stack=X.env::X.outer
 frame:X.env.frame=hI X.env.locals
 xs:∀c,Γ.rs.contains c=ie->c∈W.xs
 rm:∀c,Γ.rs.contains c=ie->∃C,X.mg c=hI (.ref C)
 rz:Γ.qt=ig->∀(c z:Str) (j:Nat) (np zp cp pos:Pos),Γ.rs.contains c=ie->fA sc c=ie->okN c=ie->PS X (.Raise (hI (.Call (.Name c np) [.Constant (.str z) j zp] [] cp)) h9 pos) (λ_ _ H=>∀C e,X.mg c=hI (.ref C)->H e=h9->E (.ref C) (hI e) H)
 Qp:Γ.cs.contains (zu 2)=ie->∀c D,c∈W.xs->X.mg c=hI (.ref D)->∀T,X.mg (zu 2)=hI (.ref T)->PySem.W.exmOne X.K (.ref D) (.ref T)=hI ie
theorem JY(S:zv3 X){j:St}{m:Hp}(g:aE W m H0 G H)(h:∀d o f,XE W c m H0 d o f->E d o f):uL X W j c G H:=λq O r s e u I g1 x=>S.pass q j r s e u I (Hu.imp x λd a f y=>h d a f (by let(C,w,A,B,D,K,L,g2):=y;have b:=g1.trans g2;exact{C,w,A,B,D,K,L,g.g.trans b.g,g.h.trans b.h,b.sub,λx i p M=>b.own x (λz=>i (g.h.free z)) (g.h.ji i p) (g.own x i p M),λt=>b.tb (g.tb t)}))
def cJ.bind{b:Type}(S:zv3 X){r:Res b}{f:b->Res Fl}{D:Ends}{d:St}(sr:SR W H0 env d G H)(h:cJ W H0 G E (r.bind f) D):Out X W r d G H λa=>cJ W H0 G E (f a) D:=by
 cases r with
 |ok a=>exact h|exc c=>exact JY S sr.go h|bad=>exact h
def tj(S:zv3 X){b:St}{e:Ci.E}{f:PV->Res Fl}{D:Ends}(sr:SR W H0 env b G H)(o:cJ W H0 G E ((az F e env).bind f) D)
 (h:∀p v a H1,aE W G H a H1->Got W H0 a H1 e p v->SR W H0 env b a H1->cJ W H0 a E (f p) D->Q v H1):tE X W F e b H Q:=
 {H0,G,env,sr,(o.bind S sr).imp λp c v a H1 g1 t=>h p v a H1 g1 t (sr.grow g1) (c.on (sr.on g1))}
def Tc(S:zv3 X){d:St}{e:Ci.E}{f:Bool->Res Fl}{D:Ends}{Q:Bool->Hp->Prop}(sr:SR W H0 env d G H)(o:cJ W H0 G E ((az F e env).bind λp=>yF p f) D)
 (h:∀b c H1,aE W G H c H1->SR W H0 env d c H1->cJ W H0 c E (f b) D->Q b H1):tT X W F e d H Q:=by
 refine{H0,G,env,sr,(o.bind S sr).imp λp a=>?_}
 cases p with
 |bl b=>exact{b,rfl,λc H1 g1=>h b c H1 g1 (sr.grow g1) (cJ.on a (sr.on g1))}|aR=>exact el a|int _=>exact el a|str _=>exact el a|tup _=>exact el a|lst _=>exact el a|exc _=>exact el a|obj _=>exact el a|cq _ _=>exact el a
def Tb(S:zv3 X){d:St}{e:Ci.E}{f:PV->Res Fl}{D:Ends}(hl:∀env q,az F e env=.ok q->∃xs,q=.lst xs)(sr:SR W H0 env d G H)(o:cJ W H0 G E ((az F e env).bind f) D)
 (h:∀xs a vs b H1,aE W G H b H1->H1 a=h9->ai W b xs vs->SR W H0 env d b H1->cJ W H0 b E (f (.lst xs)) D->Q (.ref a) (upd H1 a (.lst vs))):tF X W F e d H Q:=by
 refine{H0,G,env,sr,?_};have o2:=o.bind S sr
 cases r:az F e env with
 |bad=>rw [r] at o2;exact o2|exc c=>rw [r] at o2;exact o2|ok q=>rw [r] at o2;let(xs,rfl):=hl env q r;exact{xs,rfl,λa vs i j g ha l=>h xs a vs i j g ha l (sr.grow g) (cJ.on o2 (sr.on g))}
def gY{t:Option i2}{l:Nat}{env:Env}(h:dP p=ie):swapsWith p t l env=pure ig:=by
 cases p<;>first|rfl|(exact aN h)
theorem IB(S:zv3 X){e:Ci.E}(he:GE X W F e p)(hn:dP p=ie):GS X W F H0 E (.expr e) (.Expr p pos):=
 L2.PS.imp (tK he (gY hn)) λD b H h=>by let(G,env,sr,o):=h;rw [dq] at o;exact tj S sr o λq v c d g t a o1=>o1 b c d a a.go
theorem Nm(S:zv3 X){e:Ci.E}(a:d7 e=ie)(he:GE X W F e p):GS X W F H0 E (.ret e) (.Return (hI p) pos):=
 L2.PS.imp (tM he) λD f H h=>by let(G,env,sr,o):=h;rw [dq] at o;exact tj S sr o λq v b c g t d o1=>o1 v b c (t.rep a) d.go
theorem DR(S:zv3 X)(f:Γ.qt=ig){a b:Pos}(d:Γ.rs.contains c=ie)(g:fA sc c=ie)(i:okN c=ie):GS X W F H0 E (.raise c m) (.Raise (hI (.Call (.Name c np) [.Constant (.str m) j a] [] b)) h9 pos):=
 L2.PS.imp (S.rz f c m j np a b pos d g i) λD p H h C e hC q=>by let(G,env,sr,o):=h;rw [dq] at o;exact o _ _ _ {C,e,G,rfl,rfl,S.xs c d,by rw [S.C.mg];exact hC,sr.go}
def km(S:zv3 X){i:Nat}(h:N[i]?=hI x)(hl:jc sc x=ie):X.N.Nodup/\X.N[i]?=hI x/\Loc X.env.scope x:=by refine{by rw [S.C.hN];exact S.C.nd,by rw [S.C.hN];exact h,EE S.C.fQ hl}
def Np(S:zv3 X){i:Nat}{e:Ci.E}{a:Pos}(h:N[i]?=hI x)(hl:jc sc x=ie)(c:d7 e=ie)(he:GE X W F e p)(hs:swapsWith p (hI (.Name x a)) pos.line X.env=pure ig):GS X W F H0 E (.set i e) (.Assign [.Name x a] p pos):=by let(d,a2,f):=km S h hl;refine L2.PS.imp (tO d a2 f he hs (.inl (S.fn x))) λD r H h=>?_;let(G,env,sr,o):=h;rw [dq] at o;exact tj S sr o λq v j m g t b o1=>o1 _ j m (b.set i (t.rep c)) b.go
abbrev Vj(X:Cx)(W:Wd)(F:aP)(i:Nat)(e:Ci.E):TS:=λD a H=>tF X W F e a H λv b=>D.nx (a.set i (hI v)) b
def Ub{e:Ci.E}(hl:∀env q,az F e env=.ok q->∃xs,q=.lst xs)(b:St)(H:Hp)(Q:VK)(h:tE X W F e b H Q):tF X W F e b H Q:=by
 let(H0,G,env,sr,o):=h
 refine{H0,G,env,sr,?_};cases r:az F e env with
 |bad=>rw [r] at o;exact o|exc c=>rw [r] at o;exact o|ok q=>rw [r] at o;let(xs,rfl):=hl env q r;exact{xs,rfl,λa d f i g ha l=>o _ _ _ (g.trans (.new g.sub ha)) (.of (.l (.inl (.inl aq)) (ai.same (bj (g.sub.free ha)) xs l)))}
theorem IE(S:zv3 X){i:Nat}{e:Ci.E}{p:k6}(hl:∀env q,az F e env=.ok q->∃xs,q=.lst xs)(b:d7 e=ie)(h:PS X p (Vj X W F i e)):GS X W F H0 E (.set i e) p:=
 L2.PS.imp h λD c H d=>by let(G,env,sr,o):=d;rw [dq] at o;refine Ub hl c H _ (tj S sr o λq v f j g t a o1=>?_);exact o1 _ f j (a.set i (t.rep b)) a.go
def ID(S:zv3 X){i:Nat}{e:Ci.E}{p:k6}(j:N[i]?=hI x)(hl:∀env q,az F e env=.ok q->∃xs,q=.lst xs)(h:PS X p (Vj X W F i e)):GS X W F H0 E (.own i e) p:=by
 intro m s c H D I r;have t:i<c.length:=by rw [I.len,S.C.hN];exact(b4.mp j).1
 refine h m s c H D I ?_;let(G,env,sr,o):=r;rw [dq] at o;refine Tb S hl sr o λxs a d f u g ha l b o1=>?_;have w:Own W H0 f (upd u a (.lst d)) (.lst xs) (.ref a):={a,d,rfl,aq,b.sub.free ha,b.base.free ha,l};let(y,g2):=E9 b b.go (i:=i) (by rw [b.len];exact t) ha w;exact o1 _ f _ y g2
def JT{i:Nat}{e:Ci.E}{a:Pos}(S:zv3 X)(h:N[i]?=hI x)(hl:jc sc x=ie)(he:GF X W F e p)(hs:swapsWith p (hI (.Name x a)) pos.line X.env=pure ig):PS X (.Assign [.Name x a] p pos) (Vj X W F i e):=by let(b,a2,c):=km S h hl;exact tO b a2 c he hs (.inl (S.fn x))
def md{a:Tg}{p:PV}(c:Str):Tg.put a p env≠.exc c:=by unfold Tg.put;split<;>exact nofun
def PN{ts vs:List i2}{k1 k2:Nat}{d e:Pos}{env:Env}(h:3<vs.length):swappedStores [.Tuple ts k1 d] (.Tuple vs k2 e) env=pure h9:=by
 have c:(!(ts.length==2||ts.length==3)||vs.length !=ts.length||env.blockKind !=.function)=ie:=by
  by_cases f:ts.length=vs.length
  .have a:(ts.length==2)=ig:=beq_eq_false_iff_ne.mpr (by lia);have b:(ts.length==3)=ig:=beq_eq_false_iff_ne.mpr (by lia);rw [a,b];rfl
  .have a:(vs.length !=ts.length)=ie:=bne_iff_ne.mpr λz=>f z.symm;rw [a,Bool.or_true,Bool.true_or]
 unfold swappedStores;simp! [pure_bind];rw [if_pos c]
def Ko{ts vs:List i2}{k1 k2:Nat}{a b:Pos}{env:Env}(h:(ts.any λe=>!SJ env.scope e)=ie):swappedStores [.Tuple ts k1 a] (.Tuple vs k2 b) env=pure h9:=by
 let(e,c,d):=ek.1 h;unfold swappedStores;simp! [pure_bind];split
 .rfl
 .split
  .rfl
  .rw [if_pos];refine Bool.or_eq_true_iff.mpr (.inl (bne_iff_ne.mpr λz=>?_));have:=List.filterMap_length_eq_length.1 z e c
   cases e with
   |Name x p=>
    have q:(env.kindOf x==hI .local)=ig:=by
     have f:(!(env.scope.names.lookup x==hI .local))=ie:=d
     rwa [Bool.not_eq_true'] at f
    simp! [q,Bool.false_and,eg,if_false] at this;cases this
   |_=>cases this
def Nq(S:zv3 X)(m:Γ.qt=ig){d:Tg}{e:Ci.E}{a:i2}(i:isTup a=ie)(s:fB N sc (λZ=>ie) d a=ie)(hn:dP p=ie)(b:Uo sc a p=ie)(u:d7 e=ie)(he:GE X W F e p):GS X W F H0 E (.Cq d e) (.Assign [a] p pos):=by
 have w:swappedStores [a] p X.env=pure h9:=by
  cases a<;>first|(exact aN i)|skip
  cases p<;>first|rfl|skip
  rcases Bool.or_eq_true_iff.mp b with b|b
  .exact PN (zzY b)
  .exact Ko (by rw [S.C.fQ];exact b)
 have y:(assignEach [a] X.env).map (·.2)=[assign a X.env]:=by
  cases a<;>first|rfl|(exact aN i)
 refine L2.PS.imp (FG he (BJ (fn:=λZ=>ie) S.C.hN S.C.nd S.C.fQ (S.C.calm m) (λx Z=>S.fn x) s) (gY hn) w y) λD I H h=>?_;let(G,env,sr,o):=h;rw [dq] at o;refine tj S sr o λq v z A g t j o1=>?_
 cases r:d.put q env with
 |bad=>rw [r] at o1;exact o1.elim|exc c=>exact absurd r (md c)|ok L=>rw [r] at o1;exact l4 S.C.K r j (t.rep u) λf B=>o1 f z A B j.go
theorem DQ(S:zv3 X){c:Ci.E}{a b:Ss}{d e:List k6}(j:GT X W F c p)(ha:GR X W F H0 E a d)(m:GR X W F H0 E b e):GS X W F H0 E (.ite c a b) (.If p d e pos):=
 L2.PS.imp (Ly j ha m) λD q H h=>by
  let(G,env,sr,o):=h;rw [dq] at o;refine Tc S sr o λt f r g i o1=>?_
  cases t with
  |true=>rw [if_pos rfl] at o1⊢;exact⟨f,env,i,o1⟩|false=>rw [if_neg zzf] at o1⊢;exact⟨f,env,i,o1⟩
def Nk(S:zv3 X)(Hb:Γ.qt=ig){M:Tg}{b:Ss}{V Y:i2}{pb:List k6}(Ea:fB N sc (λ_=>ie) M V=ie)(Z:AZ it=ie)(hi:GI X W F V it Y)(NF:∀x,foldedSetIterable Y X.env x=pure x)(hb:GR X W F H0 E b pb):GS X W F H0 E (.eS M it b) (.For V Y pb [] pos):=
 L2.PS.imp (FH S.own (S.C.calm Hb) hi (BJ (fn:=λ_=>ie) S.C.hN S.C.nd S.C.fQ (S.C.calm Hb) (λx _=>S.fn x) Ea) hb NF) λD σ H h=>by
  let(G,env,sr,o):=h;rw [dq] at o;refine{H0,G,env,sr,(o.bind S sr).imp λd iU J G1 H1 g1 gi=>?_};have bV:=gi.bV Z;generalize hf:(λ(x:PV) (env:Sl)=>(M.put x env).bind λe=>bJ F b e)=f at iU;have bH:=sr.grow g1;refine{λi m w O=>i<=d.length/\m=d.length-i/\∃B e,SR W H0 e w B O/\aE W G1 H0 B O/\cJ W H0 B E (forL f (d.drop i) e) D,{_,Nat.zero_le _,rfl,G1,env,bH,bH.go,by rw [List.drop_zero];exact cJ.on iU (sr.on g1)},?_}
  rintro i m w O ⟨D1,hm,B,e,j,g',t⟩
  let(ist,igo):=bV i B O g'.g (.of (g'.g.trans j.sub)) j.sub;by_cases s:i=d.length
  .refine .inl {ist s,?_};rw [s,List.drop_length] at t;exact t w B O j j.go
  .have T:i<d.length:=by lia
   let(D0,P):=igo d[i] (zzg T);refine .inr {D0,λy H2=>i+1<=d.length/\∃G2 L,SR W H0 L y G2 H2/\aE W G1 H0 G2 H2/\cJ W H0 G2 E (forL f (d.drop (i+1)) L) D,λy H2 h2=>{d.length-(i+1),by lia,h2.1,rfl,h2.2},λx js hy=>?_};let(U,qZ,rx):=P x js hy;rw [List.drop_eq_getElem_cons T] at t;unfold forL at t;have WI:f d[i] e=(M.put d[i] e).bind λe=>bJ F b e:=by rw [<-hf]
   rw [WI] at t;have lU:=j.grow qZ;have g2:=g'.then (j.on qZ)
   cases r:M.put d[i] e with
   |bad=>rw [r] at t;exact t.elim|exc c=>exact absurd r (md c)|ok L=>
    rw [r] at t;refine l4 S.C.K r lU rx λy sr3=>{U,L,sr3,?_}
    have o2:cJ W H0 U E ((bJ F b L).bind λfl=>match fl with
     |.nx e=>forL f (d.drop (i+1)) e|.ct e=>forL f (d.drop (i+1)) e|.bk e=>.ok (.nx e)|.rt p=>.ok (.rt p)) D:=cJ.on t (j.on qZ)
    cases r2:bJ F b L with
    |bad=>rw [r2] at o2;exact o2.elim|exc cc=>rw [r2] at o2;exact o2|ok fl=>
     rw [r2] at o2;cases fl with
     |nx a=>exact λz A Q R u=>{T,A,a,R,g2.then u,cJ.on (show cJ W H0 U E (forL f (d.drop (i+1)) a) D from o2) u}|ct a=>exact λz A Q R u=>{T,A,a,R,g2.then u,cJ.on (show cJ W H0 U E (forL f (d.drop (i+1)) a) D from o2) u}|bk a=>exact λz A Q R u=>o2 z A Q R u|rt q=>exact λv A Q rv u=>o2 v A Q rv u
theorem yV:GR X W F H0 E .nil []:=L2.qE.imp tP λD a H h=>by let(G,env,sr,o):=h;rw [bJ] at o;exact o a G H sr sr.go
theorem vn{s:Ci.S}{b:Ss}{p:k6}{ps:List k6}(d:GS X W F H0 E s p)(e:GR X W F H0 E b ps):GR X W F H0 E (.cons s b) (p::ps):=
 L2.qE.imp (vW d e) λD j H h=>by
  let(G,env,sr,o):=h
  rw [bJ] at o;refine{G,env,sr,?_};cases r:dq F s env with
  |bad=>rw [r] at o;exact o|exc c=>rw [r] at o;exact o|ok f=>
   rw [r] at o;cases f with
   |nx a=>exact λg G2 m i g2=>{G2,a,i,cJ.on (show cJ W H0 G E (bJ F b a) D from o) g2}|bk a=>exact o|ct a=>exact o|rt q=>exact o
def IF{i:Nat}{c:Ss}{ps:List k6}(h:GR X W F H0 E c ps):GR X W F H0 E (.cons (.bV i) c) ps:=by
 intro f s g H D I j;let(G,env,sr,o):=j
 rw [bJ,dq] at o;rcases oC sr sr.go i with⟨d,b,e⟩|⟨a,m,ha,k⟩
 .exact h f s g H D I {d,_,b,cJ.on (show cJ W H0 G E (bJ F c (env.modify i sE)) D from o) e}
 .let(ob,J):=I.ny ha;let(d,b,e):=k ob;exact h f s g _ D J {d,_,b,cJ.on (show cJ W H0 G E (bJ F c (env.modify i sE)) D from o) e}
end
end Ci
namespace L2
open PySem.Spec PyProof.Rows
end L2
namespace Ci
open L2
section
variable{Γ:Pg}{W:Wd}{F:aP}{sc:kv}{k:Nat}{E:XK}
def Fn(S:zv3 X){i:Nat}(h:N[i]?=hI x)(b:ke sc x=ie)(a:okN x=ie):PE X (.Name x pos) (P6 i):=
 mi (by rw [S.C.hN];exact h) (yx S.C b) (ei a).1 (ei a).2.1
def JH{b:St}{i:Nat}(sr:SR W H0 env b G H)(h:env[i]?=hI (.own (.lst xs))):∃a vs,b[i]?=hI (hI (.ref a))/\H a=hI (.lst vs)/\G a=h9/\H0 a=h9/\ai W G xs vs:=by let(o,c,v,rfl,a,vs,rfl,d,e,f,l):=sr.slot i _ h;exact⟨a,vs,c,d,e,f,l⟩
set_option tactic.hygienic true in
def Nj(S:zv3 X){i:Nat}{e:Ci.E}{b f:Pos}(h:N[i]?=hI x)(w:ke sc x=ie)(y:okN x=ie)(A:(b.endLine==f.line)=ie)(B:d7 e=ie)(he:GE X W F e p)
 (d:∀env ps,starEach (p::ps) env=(ig,eval p env)::starEach ps env):GS X W F H0 E (.app i e) (.Expr (.Call (.Attribute (.Name x np) "append" b) [p] [] f) pos):=by
 refine L2.PS.imp (tK (vS PySem.F.plainAttrs_list PySem.F.slot_list_append PySem.F.type_list_append rA (Fn S h w y) (bx he cC (d _ _)) rfl (by rw [d];rfl) A (d _ _) rfl) rfl) λD P H C=>?_;let(G,env,sr,o):=C;rw [dq] at o;split at o
 .rename_i xs j;let(a,m,hs,c,I,r,l):=JH sr j;refine{.ref a,hs,.inl {rfl,_,il.of c},tj S sr o λq v K Q g t s o1=>?_};split at o1
  .rename_i hl;have L:=g.h.at c (λZ z=>nomatch z);have u:=g.own a (by rw [c];exact nofun) (by rw [c];exact λZ z=>nomatch z) I;have M:=ai.same g.g xs l;refine{a,m,v,rfl,rfl,L,by rw [l.length];exact d3 hl ↑2,?_};let(O,g2):=ES (p':=.lst (xs++[q])) (ob:=.lst (m++[v])) s s.go j hs u r {a,_,rfl,aq,u,r,M.append (.cons (t.rep B) .nil)};exact o1 _ K _ O g2
  .exact o1.elim
 .exact o.elim
def TB:V->V->V->Hp->(Hp->Prop)->Prop:=λo i v H Q=>∃a b,o=.ref a/\wI H a i v b/\Q b
def J7(hu:X.A.units+1<cLine):QR X TB:=by intro f s j H o i v m p u Q I b c rv h;let(a,d,rfl,g,q):=h;cases b;exact qS hu I g c rv λr e=>⟨d,e,q⟩
def JG{b:St}{i:Nat}(sr:SR W H0 env b G H)(h:env[i]?=hI (.own (.cq ks ps))):∃a us,b[i]?=hI (hI (.ref a))/\ks.length=us.length/\H a=hI (.dK (kz ks us))/\G a=h9/\H0 a=h9/\ai W G ps us:=by let(o,c,v,rfl,a,us,rfl,n,d,e,f,l):=sr.slot i _ h;exact⟨a,us,c,n,d,e,f,l⟩
set_option tactic.hygienic true in
def Nl(S:zv3 X){i:Nat}{b e:Ci.E}{c:i2}{f:Pos}(h:N[i]?=hI x)(L:ke sc x=ie)(M:okN x=ie)(O:d7 e=ie)(s:aJ Γ N sc b c=ie)(hk:GE X W F b c)(he:GE X W F e p):GS X W F H0 E (.put i b e) (.Assign [.Subscript (.Name x np) c f] p pos):=by
 have P:swappedStores [.Subscript (.Name x np) c f] p X.env=pure h9:=by cases p<;>rfl
 have ha:∀v,assign (.Subscript (.Name x np) c f) X.env v=(do
  let j<-holding [v] (eval (.Name x np) X.env);let m<-holding [v,j] (eval c X.env)
  standAt f
  holding [v,j,m] (setItem j m v)
  release [v,j,m] []):=by
  intro v;cases c<;>first|rfl|(cases b<;>first|(exact aN s)|(rename_i q;cases q<;>exact aN s))
 refine L2.PS.imp (FG he (O2 (Fn S h L M) hk (J7 (by have:=S.C.room.un;lia)) ha) (by cases p<;>rfl) P) λD σ H Q=>?_;let(G,env,sr,o):=Q;rw [dq] at o;refine tj S sr o λq v G1 H1 g t u o1=>?_;split at o1
 .rename_i d w y;let(a,A,hs,n,r,R,B,l):=JG u y;refine{.ref a,hs,tj S u o1 λq2 v2 G2 T g2 t2 I o2=>?_};split at o2
  .rename_i b U;split at o2
   .rename_i V;have Y:=fF U;subst Y;obtain rfl:=t2.top.str;have Z:=g2.h.at r (λ_ z=>nomatch z);have K:=g2.own a (by rw [r];exact nofun) (by rw [r];exact λ_ z=>nomatch z) R;have l':=ai.same g2.g w l;refine{a,upd T a (.dK (putK (kz d A) (ki b) v)),rfl,wI.k (k:=ki b) Z (by rw [iF n];exact d3 V ↑2),?_};rw [xB n];let(r2,gg):=ES (p':=.cq (eM d b) (cQ d w b q)) (ob:=.dK (kz (eM d b) (cQ d A b v))) I I.go y hs K B {a,_,rfl,o9 n b v,aq,K,B,tU l' (Rep.same g2.g q (t.rep O))};exact o2 _ G2 _ r2 gg
   .exact o2.elim
  .exact o2.elim
 .exact o1.elim
def E0(c:Str):g6 ps≠.exc c:=by
 unfold g6;split
 .intro z;rcases Res.dY z with z|⟨a,_,z⟩
  .exact Res.aO c z
  .cases z
 .exact nofun
def IC(S:zv3 X)(y:Γ.qt=ig){i:Nat}{e:Ci.E}{p:i2}{z A:Pos}(h:N[i]?=hI x)(hl:jc sc x=ie)(B:fA sc "dict"=ie)(hm:Γ.bs.contains "dict"=ie)(he:GE X W F e p)
 (j:∀env ps,starEach (p::ps) env=(ig,eval p env)::starEach ps env):GS X W F H0 E (.vQ i e) (.Assign [.Name x np] (.Call (.Name "dict" z) [p] [] A) pos):=by
 let(L,a2,M):=km S h hl;intro O s m H D I P;have Q:i<m.length:=by rw [I.len,S.C.hN];exact(b4.mp h).1
 refine tO L a2 M (dQ (nY (S.C.calm y) (by have:=S.C.room.un;lia)) (cH S.C B) (S.C.bs _ (et.mp hm)) ↑1 (bx he cC (j _ _)) (he:=j _ _) (hpl:=rfl)) rfl (.inl (S.fn x)) O s m H D I ?_;let(G,env,sr,o):=P;rw [dq] at o;refine tj S sr o λq v R H1 g t b o1=>?_
 cases d:g6 [q] with
 |exc c=>exact absurd d (E0 c)|bad=>rw [d] at o1;exact o1.elim|ok r=>rw [d] at o1;let(u,qs,rfl,a,T,U,V,Y,pw,w,Z,z2,z3):=u6 (X:=X) S.C.K b.sub (.cons t.top .nil) d;refine{a,T,U,V,Y,pw,λad f=>?_};rw [z3];let(r2,g2):=E9 (i:=i) (p:=.cq u qs) (ob:=.dK (kz u w)) b b.go (by rw [b.len];exact Q) f {ad,w,rfl,Z,aq,b.sub.free f,b.base.free f,z2};exact o1 _ R _ r2 g2
end
end Ci
namespace L2
open PySem.Spec PyProof.Rows
end L2
namespace Ci
open L2
section
variable{Γ:Pg}{W:Wd}{F:aP}{sc:kv}{k:Nat}{E:XK}
def Gh{env:Env}{y:Str}{d e pt i:Pos}{kt k2}{a b:i2}(hk:env.scope.kind=.function)(j:env.scope.names.lookup x=hI .local)(m:env.scope.names.lookup y=hI .local)(hl:e.line=d.line)(f:x≠y)(c:Fd a b=ie):
 swappedStores [.Tuple [.Name x d,.Name y e] kt pt] (.Tuple [a,b] k2 i) env=pure (hI [x,y]):=by
 unfold Fd at c;simp! [zza] at c;let(((o,p),g),h):=c;have q:isStar a=ig:=zx6 o;have r:isStar b=ig:=zx6 p;have b1:env.blockKind=.function:=by unfold Env.blockKind;rw [hk];rfl
 have s:env.kindOf x=hI .local:=j;have k2:env.kindOf y=hI .local:=m;simp! [Bool.not_eq_true'] at g h;have t:(y==x)=ig:=beq_eq_false_iff_ne.mpr (Ne.symm f);have u:(x==y)=ig:=beq_eq_false_iff_ne.mpr f;have w:[x,y].eraseDups=[x,y]:=by simp [List.eraseDups_cons,t]
 have A:[a,b].all (foldedForSure 8)=ig:=zx6 g;have B:[a,b].all (constantsAlone 8)=ig:=zx6 h
 unfold swappedStores;simp! [List.any_cons,List.any_nil,Bool.or_false,pure_bind,List.filterMap_cons,List.filterMap_nil,s,k2,i2.pos,hl,List.head?_cons,Option.map_some,Option.getD_some,BEq.rfl,Bool.and_self,if_true,w,A,B,b1];refine(if_neg zzf).trans ((if_neg λz=>?_).trans rfl);rcases Bool.or_eq_true_iff.mp z with z|z
 .split at z
  .cases q
  .cases z
 .split at z
  .cases r
  .cases z
def Rb(S:zv3 X){b:St}{c:Es}{f:List PV->Res Fl}{D:Ends}{Q:List V->Hp->Prop}(sr:SR W H0 env b G H)(o:cJ W H0 G E ((bw F c env).bind f) D)
 (h:∀ps vs a H1,aE W G H a H1->LX W H0 a H1 c ps vs->SR W H0 env b a H1->cJ W H0 a E (f ps) D->Q vs H1):tA X W F c b H Q:=
 {H0,G,env,sr,(o.bind S sr).imp λp d v a H1 g1 t=>h p v a H1 g1 t (sr.grow g1) (d.on (sr.on g1))}
set_option tactic.hygienic true in
def Kg(S:zv3 X)(B:Γ.qt=ig)(i j:Nat)(as:Es)(p:k6)(h:gb Γ N sc (.par i j as) p=ie):GS X W F H0 E (.par i j as) p:=by
 cases p<;>first|(exact aN h)|skip
 rename_i ts v K;cases v<;>first|(exact aN h)|skip
 rename_i L M JV
 match L,h with
 |[],h=>exact aN h|[_],h=>exact aN h|_::_::_::_,h=>exact aN h|[a,b],h=>
 replace h:=ah h;simp! [zza,zzy,bne_iff_ne,ne_eq] at h;let((x,px,y,py),O,((((((((f,m),P),u),z),d),e),Q),R),T):=h;let(kt,pt,rfl):=zN O;dsimp only at f m u z d e;have ga:=hJ as S.C [a,b] T;intro U s V H D I Y;refine FI (S.C.calm B) (by rw [S.C.hN];exact S.C.nd) (by rw [S.C.hN];exact f) (by rw [S.C.hN];exact m) (zzY P) (by rw [S.C.fQ];exact d) (by rw [S.C.fQ];exact e) ga (Gh I.ok.kind (by rw [S.C.fQ];exact d) (by rw [S.C.fQ];exact e) z u Q) rfl U s V H D I ?_;let(G,env,sr,o):=Y;rw [dq] at o;refine Rb S sr o λZ vs G1 H1 g t A o1=>?_;have c:=t.rep R
 match Z,c,o1 with
 |[],_,o1=>exact o1.elim|[_],_,o1=>exact o1.elim|_::_::_::_,_,o1=>exact o1.elim|[p,q],c,o1=>
  let(v,r,rfl,hv,c):=c.bo;let(w,r2,rfl,hw,c):=c.bo;have:=c.length
  cases r2 with
  |cons _ _=>cases this
  |nil=>exact{v,w,rfl,o1 _ G1 H1 ((A.set i hv).set j hw) A.go}
def vi{e:Ci.E}(h:nB e=ie):∀env q,az F e env=.ok q->∃xs,q=.lst xs:=by
 cases e<;>first|(exact aN h)|exact lst_is
def qF(S:zv3 X){i:Nat}{d:Pos}(f:N[i]?=hI x)(a:jc sc x=ie)(e:Ci.E)(p:i2)(hf:nB e=ie)(h:aJ Γ N sc e p=ie):PS X (.Assign [.Name x d] p pos) (Vj X W F i e):=by
 cases e with
 |lst as=>let(j,e,g):=ah h;let(_,rfl):=xH e;have b:=ak g;have c:=ak b.1;exact JT S f a (DM c.1 (zzY c.2) (hJ as S.C _ b.2)) rfl|_=>exact aN hf
set_option tactic.hygienic true in
def Bv{e:Ci.E}(h:aJ Γ N sc e p=ie)(hf:Xw e=ie):dP p=ie:=by
 cases p<;>first|rfl|(cases e<;>first|(exact aN h)|(rename_i q;cases q<;>exact aN h)|(exact aN hf))
def A6(S:zv3 X){i:Nat}{e:Ci.E}{c:Pos}(h:N[i]?=hI x)(hl:jc sc x=ie)(b:d7 e=ie)(a:aJ Γ N sc e p=ie)(hk:Xw e=ie):GS X W F H0 E (.set i e) (.Assign [.Name x c] p pos):=by
 cases hf:nB e with
 |true=>exact IE S (vi hf) b (qF S h hl e p hf a)|false=>exact Np S h hl b (bt e S.C p a).ge (gY (Bv a hk))
def F0(S:zv3 X)(e:Ci.E)(p:k6)(h:gb Γ N sc (.expr e) p=ie):GS X W F H0 E (.expr e) p:=by
 cases p<;>first|(exact aN h)|skip
 replace h:=ak h
 try simp! [zza] at h
 exact IB S (bt e S.C _ h.2).ge h.1
def Ac(S:zv3 X)(i:Nat)(e:Ci.E)(p:k6)(h:gb Γ N sc (.set i e) p=ie):GS X W F H0 E (.set i e) p:=by
 cases p<;>first|(exact aN h)|skip
 replace h:=ah h;simp! [Option.any_eq_true,zza,zzy] at h;let(x,b,a):=h;let(c,rfl):=sW b;exact A6 S a.1.1.1.1 a.1.1.1.2 a.1.1.2 a.1.2 a.2
def Kf(S:zv3 X)(i:Nat)(e:Ci.E)(p:k6)(h:gb Γ N sc (.own i e) p=ie):GS X W F H0 E (.own i e) p:=by
 cases p<;>first|(exact aN h)|skip
 replace h:=ah h;simp! [Option.any_eq_true,zza,zzy] at h;let(x,a,h):=h;let(b,rfl):=sW a;exact ID S h.1.1.1 (vi h.1.2) (qF S h.1.1.1 h.1.1.2 e _ h.1.2 h.2)
def Ki(S:zv3 X)(b:Γ.qt=ig)(a:Tg)(e:Ci.E)(p:k6)(h:gb Γ N sc (.Cq a e) p=ie):GS X W F H0 E (.Cq a e) p:=by
 cases p<;>first|(exact aN h)|skip
 replace h:=ah h;simp! [Option.any_eq_true,zza] at h;let(t,c,((((d,f),g),i),j),m):=h;cases iZ c;exact Nq S b d f g i j (bt e S.C _ m).ge
def Ke(S:zv3 X)(i:Nat)(p:k6)(h:gb Γ N sc (.bV i) p=ie):GS X W F H0 E (.bV i) p:=by cases p<;>exact aN h
def Kb(S:zv3 X)(i:Nat)(e:Ci.E)(p:k6)(h:gb Γ N sc (.app i e) p=ie):GS X W F H0 E (.app i e) p:=by
 cases p<;>first|(exact aN h)|skip
 replace h:=ah h;simp! [Option.any_eq_true,zza,zzy] at h;let((x,m,args),c,((((d,f),g),j),o),q,r,a):=h;let(np,b,s,rfl,hl):=Oc c;cases iZ r;cases j;exact Nj S d f g hl o (bt e S.C q a).ge (notStar a)
def Kh(S:zv3 X)(i:Nat)(a e:Ci.E)(p:k6)(h:gb Γ N sc (.put i a e) p=ie):GS X W F H0 E (.put i a e) p:=by
 cases p<;>first|(exact aN h)|skip
 replace h:=ah h;simp! [Option.any_eq_true,zza,zzy] at h;let((x,c),d,((((f,g),j),m),b),o):=h;let(np,sp,rfl):=Pr d;exact Nl S f g j m b (bt a S.C c b).ge (bt e S.C _ o).ge
def F3(S:zv3 X)(c:Γ.qt=ig)(i:Nat)(e:Ci.E)(p:k6)(h:gb Γ N sc (.vQ i e) p=ie):GS X W F H0 E (.vQ i e) p:=by
 cases p<;>first|(exact aN h)|skip
 let(x,d,f):=ah h;let(g,as,_,_,rfl,j):=wD f;let(q,rfl,a):=eW j;let(t,rfl):=sW d;simp! [zza,zzy] at a;let(((((rfl,m),o),r),s),b):=a;exact IC S c r s m o (bt e S.C q b).ge (notStar b)
set_option tactic.hygienic true in
def Ab(S:zv3 X)(e:Ci.E)(p:k6)(h:gb Γ N sc (.ret e) p=ie):GS X W F H0 E (.ret e) p:=by
 cases p<;>first|(exact aN h)|skip
 rename_i v a;cases v with
 |none=>exact aN h|some v=>
  replace h:=ak h
  try simp! [zza] at h
  exact Nm S h.1 (bt e S.C v h.2).ge
set_option tactic.hygienic true in
def BU(S:zv3 X)(a:Γ.qt=ig)(c m:Str)(p:k6)(h:gb Γ N sc (.raise c m) p=ie):GS X W F H0 E (.raise c m) p:=by
 cases p<;>first|(exact aN h)|skip
 replace h:=ak h;simp! [Option.any_eq_true,zza,zzy] at h;let(b,(x,z),d,(((e,f),g),i),o):=h;let(np,j,r,s,rfl):=Pp d;cases e;cases f;rename_i fr q;cases Option.isNone_iff_eq_none.mp b;exact DR S a g i o
def za{c:Ci.E}{a b:Ss}{p:k6}(h:gb Γ N sc (.ite c a b) p=ie):∃q d e pos,p=.If q d e pos/\gk c=ie/\aJ Γ N sc c q=ie/\dZ Γ N sc a d=ie/\dZ Γ N sc b e=ie:=by
 cases p<;>first|(exact aN h)|skip
 replace h:=ak h
 try simp! [zza] at h
 exact{_,_,_,_,rfl,h.1.1.1,h.1.1.2,h.1.2,h.2}
def IW{c:Tg}{b:Ss}{p:k6}(h:gb Γ N sc (.eS c it b) p=ie):∃a d e pos,p=.For a d e [] pos/\fB N sc (λZ=>ie) c a=ie/\AZ it=ie/\uV Γ N sc a it d=ie/\dZ Γ N sc b e=ie:=by
 cases p<;>first|(exact aN h)|skip
 replace h:=ak h
 try simp! [zza] at h
 cases List.isEmpty_iff.mp h.1.1.1.1;exact{_,_,_,_,rfl,h.1.1.1.2,h.1.1.2,h.1.2,h.2}
def zd{ps:List k6}(h:dZ Γ N sc .nil ps=ie):ps=[]:=by
 cases ps with
 |nil=>rfl|cons _ _=>exact aN h
def vp{s:Ci.S}{a:Ss}{ps:List k6}(h:dZ Γ N sc (.cons s a) ps=ie):(∃i,s=.bV i/\dZ Γ N sc a ps=ie)\/∃q qs,ps=q::qs/\gb Γ N sc s q=ie/\dZ Γ N sc a qs=ie:=by
 by_cases b:∃i,s=.bV i
 .let(i,rfl):=b;exact .inl ⟨i,rfl,h⟩
 .cases ps with
  |nil=>cases s<;>first|(exact absurd ⟨_,rfl⟩ b)|(exact aN h)
  |cons p ps=>
   have c:(gb Γ N sc s p&&dZ Γ N sc a ps)=ie:=by
    cases s<;>first|(exact absurd ⟨_,rfl⟩ b)|(exact h)
   rw [zza] at c;exact .inr ⟨p,ps,rfl,c.1,c.2⟩
mutual
theorem TQ(S:zv3 X)(d:Γ.qt=ig):∀(s:Ci.S) (p:k6),gb Γ N sc s p=ie->GS X W F H0 E s p
 |.expr e,p,h=>F0 S e p h|.set i e,p,h=>Ac S i e p h|.own i e,p,h=>Kf S i e p h|.Cq t e,p,h=>Ki S d t e p h|.bV i,p,h=>Ke S i p h|.app i e,p,h=>Kb S i e p h|.put i u e,p,h=>Kh S i u e p h|.vQ i e,p,h=>F3 S d i e p h|.par i j as,p,h=>Kg S d i j as p h|.ret e,p,h=>Ab S e p h|.ite c a b,p,h=>by let(q,A,w,pos,rfl,g,o,f,r):=za h;exact DQ S ((bt c S.C _ o).gt g) (rJ S d a _ f) (rJ S d b _ r)|.eS t it b,p,h=>by let(y,z,w,pos,rfl,g,o,f,r):=IW h;exact Nk S d g o (Ka it S.C y z f) (nv f _) (rJ S d b _ r)|.raise c m,p,h=>BU S d c m p h
theorem rJ(S:zv3 X)(b:Γ.qt=ig):∀(a:Ss) (ps:List k6),dZ Γ N sc a ps=ie->GR X W F H0 E a ps
 |.nil,ps,h=>by cases zd h;exact yV
 |.cons s a,ps,h=>by
  rcases vp h with⟨i,e,c⟩|⟨q,qs,e,d,c⟩
  .have:=IF (i:=i) (rJ S b a ps c);rw [<-e] at this;exact this
  .rw [e];exact vn (TQ S b s q d) (rJ S b a qs c)
end
mutual
noncomputable def Pb:Ci.S->Bool
 |.set _ _=>ie|.ret _=>ie|.ite _ a b=>pe a&&pe b|_=>ig
noncomputable def pe:Ss->Bool
 |.nil=>ie|.cons s ss=>Pb s&&pe ss
end
mutual
theorem X4(S:zv3 X):∀(s:Ci.S) (p:k6),Pb s=ie->gb Γ N sc s p=ie->GS X W F H0 E s p
 |.set i e,p,_,h=>Ac S i e p h|.ret e,p,_,h=>Ab S e p h|.ite c a b,p,hz,h=>by unfold Pb at hz;rw [zza] at hz;let(q,m,o,pos,rfl,d,f,g,j):=za h;exact DQ S ((bt c S.C _ f).gt d) (Aa S a _ hz.1 g) (Aa S b _ hz.2 j)|.expr _,_,h,_=>aN h|.own _ _,_,h,_=>aN h|.Cq _ _,_,h,_=>aN h|.bV _,_,h,_=>aN h|.app _ _,_,h,_=>aN h|.put _ _ _,_,h,_=>aN h|.vQ _ _,_,h,_=>aN h|.par _ _ _,_,h,_=>aN h|.eS _ _ _,_,h,_=>aN h|.raise _ _,_,h,_=>aN h
theorem Aa(S:zv3 X):∀(a:Ss) (ps:List k6),pe a=ie->dZ Γ N sc a ps=ie->GR X W F H0 E a ps
 |.nil,ps,_,h=>by cases zd h;exact yV
 |.cons s a,ps,hz,h=>by
  unfold pe at hz;rw [zza] at hz;rcases vp h with⟨i,e,b⟩|⟨q,qs,e,c,b⟩
  .rw [e] at hz;exact aN hz.1
  .rw [e];exact vn (X4 S s q hz.1 c) (Aa S a qs hz.2 b)
end
end
end Ci
namespace L2
open PySem.Spec PyProof.Rows
def Ew{K:zz8}{C c:i1}{b:Bool}(d:PySem.W.isClsIn K c=ie)(f:PySem.W.typeIn K (.ref c)=hI (.type "type"))(g:PySem.W.subIn K (.ref C) (.ref c)=hI b)(a:b=ie\/(C==c)=ig):PySem.W.kitOne K (.ref C) (.ref c)=hI b:=by
 have k:PySem.W.kitCls K (.ref C) (.ref c)=hI b:=by show(if((PySem.W.clsIn K c).isSome&&PySem.W.typeIn K (.ref c)==hI (.type "type"))=ie then PySem.W.subIn K (.ref C) (.ref c) else h9)=hI b;rw [show(PySem.W.clsIn K c).isSome=ie from d,f,g];rfl
 unfold PySem.W.kitOne;split
 .rename_i e;rcases a with rfl|a
  .rfl
  .have h:C=c:=iv.ref.inj (zzy.mp e);rw [h,beq_self_eq_true] at a;cases a
 .exact k
def Ey{K:zz8}{C:i1}{T:String}{b:Bool}(a:PySem.W.kitMeta T=ie)(c:PySem.W.subIn K (.ref C) (.type T)=hI b):PySem.W.kitOne K (.ref C) (.type T)=hI b:=by
 unfold PySem.W.kitOne;split
 .rename_i e;cases zzy.mp e
 .show(if PySem.W.kitMeta T=ie then PySem.W.subIn K (.ref C) (.type T) else h9)=hI b;rw [if_pos a];exact c
def Dm{K:zz8}{C c:i1}{b:Bool}(a:PySem.W.subIn K (.ref c) (.type (zu 32))=hI ie)(d:PySem.W.isClsIn K c=ie)(e:PySem.W.typeIn K (.ref c)=hI (.type "type"))(f:PySem.W.subIn K (.ref C) (.ref c)=hI b):PySem.W.exmOne K (.ref C) (.ref c)=hI b:=by unfold PySem.W.exmOne;rw [a];show PySem.W.kitCls K (.ref C) (.ref c)=hI b;show(if((PySem.W.clsIn K c).isSome&&PySem.W.typeIn K (.ref c)==hI (.type "type"))=ie then PySem.W.subIn K (.ref C) (.ref c) else h9)=hI b;rw [show(PySem.W.clsIn K c).isSome=ie from d,e,f];rfl
set_option tactic.hygienic true in
def OR{K:zz8}{C:i1}{i:List iv}{a:String}(X:K.In h)(hm:mg x=hI (.ref C))(q:PySem.W.excIn K C i a=ie):OwnCls x C i a mg h:=by
 constructor
 .exact hm
 .unfold PySem.W.excIn at q;split at q
  .rename_i r cd s t;split at q
   .rename_i u b j k k2 m w o y z;simp! [zza,zzy,Bool.not_eq_true'] at q;let(((((A,B),D),E),F),G):=q;subst A B;let(nm,bs,c,ns,H,hd,I,sub,L,d,e):=cd;have M:c=.ref u::b:=y;have f:e=ig:=D;have p:PySem.W.nsOkIn K ns=ie:=F;have g:PySem.W.nsIn K ns (zu 6)=hI h9:=G;subst M f;obtain⟨ls⟩:=s;have N:ls=[j,k,k2,m,hI (.builtin w),o]:=z;subst N;exact{b,ns,nm,H,bs,hd,I,sub,L,d,r,j,k,k2,m,o,_,X _ _ t,.of_isNs (PySem.W.isNs_of_in X p),PySem.W.nsMap_none_of_in X p g,PySem.W.tail_of_in X E}
   .cases q
  .cases q
end L2
namespace Ci
open L2
noncomputable abbrev Dk:List Value:=[.type (zu 0),.type "Exception",.type (zu 32),.type "object"]
structure mU(K:zz8)(mg:Str->Option iv)(Γ:Pg)(W:Wd):Prop where
 hK:W.K=K
 hm:W.mg=mg
 gs:∀q∈Γ.gs,∃u v,mg q.1=hI u/\RelV v u/\∀G,Rep W G q.2 v
 bs:∀g∈Γ.bs,mg g=h9
 Ow:Γ.cs.contains (zu 0)=ig
 cls:∀c∈Γ.cs,∃C,mg c=hI (.ref C)
 xc:∀d∈W.xs,∀D,mg d=hI (.ref D)->nR K D/\(∀c∈Γ.cs,∀C,mg c=hI (.ref C)->PySem.W.kitOne K (.ref D) (.ref C)=hI (c==d||c==(zu 2)))/\PySem.W.kitOne K (.ref D) (.type (zu 0))=hI ie
 xs:∀c,Γ.rs.contains c=ie->c∈W.xs
 rm:∀c,Γ.rs.contains c=ie->∃C,mg c=hI (.ref C)/\PySem.W.excIn K C Dk (zu 33)=ie
 Qp:Γ.cs.contains (zu 2)=ie->∀c D,c∈W.xs->mg c=hI (.ref D)->∀T,mg (zu 2)=hI (.ref T)->PySem.W.exmOne K (.ref D) (.ref T)=hI ie
 bm:W.ts≠[]->∃bm o,mg "__builtins__"=hI (.ref bm)/\bm≠builtinsNs/\bm≠la/\K.lookup bm=hI o/\o.cls=.type "module"/\o.dict=hI builtinsNs/\o.data=.plain
structure Row where
 f:Str
 h:Str
 d:Def
 st:k6
 hl:Bool:=ig
noncomputable abbrev fX:Type:=List Row
abbrev mX(l:fX):List Str:=l.filterMap λr=>if r.d.uW.isNone then hI r.f else h9
abbrev Be(l:fX):List Hs:=l.filterMap λr=>r.d.uW.map λq=>⟨r.f,r.h,q.1,q.2,r.d.np⟩
abbrev tab(l:fX):List (Str×Def):=l.map λq=>(q.f,q.d)
abbrev oQ(l:fX):List Str:=match l.getLast? with|some r=>if r.d.uW.isNone then [r.f] else []|none=>[]
abbrev Pg.at(Γ:Pg)(l:fX)(hl:Bool):Pg:={Γ with fs:=mX l,hs:=Be l,hl:=hl,qt:=l.isEmpty,qs:=oQ l}
structure dF(Γ:Pg)(n:Str)(d:Def)(st:k6):Prop where
 sc:iO d.N (d.N.take d.np) (ax st)
 np:d.np<=d.N.length
 bind:∀(kV doc pm:iv) (an:Option i1) (dA ct:iv) (us:List iv),us.length=(d.N.take d.np).length->bindArgs (PySem.W.fnOf n n (bR st) (bf st) (ax st) .none kV doc pm an dA ct) {us,[]}=pure ((d.N.take d.np).zip us)
 UM:dZ Γ d.N (ax st) d.body (bf st)=ie
 qui:(!Γ.qt||pe d.body)=ie
theorem stM{Γ:Pg}{n:Str}{d:Def}(b:∀(kV a e:iv) (f:Option i1) (g ct:iv) (us:List iv),us.length=(d.N.take d.np).length->bindArgs (PySem.W.fnOf n n (bR st) (bf st) (ax st) .none kV a e f g ct) {us,[]}=pure ((d.N.take d.np).zip us))
 (a1:(ax st).kind=.function:=by rfl) (a2:(ax st).isCoroutine=ig:=by rfl) (h:(ax st).isGenerator=ig:=by rfl) (i:d.N.Nodup:=by decide+kernel) (j:d.N.take (d.N.take d.np).length=d.N.take d.np:=by rfl)
 (k:∀x∈d.N.take d.np,(ax st).names.lookup x=hI .local\/(ax st).names.lookup x=hI .cell:=by decide+kernel) (m:∀y∈(ax st).names,y.2≠.free:=by decide+kernel) (o:d.np<=d.N.length:=by decide+kernel) (p:dZ Γ d.N (ax st) d.body (bf st)=ie:=by decide+kernel) (c:(!Γ.qt||pe d.body)=ie:=by decide+kernel):dF Γ n d st:={⟨a1,a2,h,i,j,k,m⟩,o,b,p,c}
def eZ(K:zz8)(c P:i1):Prop:=∃o a d f b g h e i,K.lookup c=hI o/\o.cls=.type "code"/\o.data=.fields a/\a[11]?=hI (.ref P)/\a.getD 11 .none=.ref P/\a.getD 18 .none=.str d f/\
 a.getD 7 .none=.int b g/\a.getD 9 .none=.bool h/\a.getD 10 .none=.int e i/\c≠P
abbrev jb(n:Str):Str:=(n++".<locals>.")++(zu 11)
def Cy(K:zz8)(ts:List (i1×Str))(hl:Bool)(n:Str)(st:k6):Prop:=∃(f:i1) (oc:iv) (e:Option i1) (kV a g:iv) (h:Option i1) (b ct:iv) (i:Array (Option iv)),
 PySem.W.nsIn K la n=hI (hI (.ref f))/\K.lookup f=hI {oc,e,.func (PySem.W.fnOf n n (bR st) (bf st) (ax st) .none kV a g h b ct),i}/\PySem.W.codeIn K b n=ie/\PySem.W.keepIn K (.ref f)=ie/\
 (hl=ie->∃c P,b=.ref c/\eZ K c P/\(P,jb n)∈ts/\∀d,(P,d)∈ts->d=jb n)
def V4{K:zz8}{ts:List (i1×Str)}{n:Str}{f:i1}{oc:iv}{e:Option i1}{kV b g:iv}{h:Option i1}{d ct:iv}{i:Array (Option iv)}(a:PySem.W.nsIn K la n=hI (hI (.ref f)))
 (l:K.lookup f=hI {oc,e,.func (PySem.W.fnOf n n (bR st) (bf st) (ax st) .none kV b g h d ct),i}) (c:PySem.W.codeIn K d n=ie) (k:PySem.W.keepIn K (.ref f)=ie):Cy K ts ig n st:={f,oc,e,kV,b,g,h,d,ct,i,a,l,c,k,nofun}
structure Cz(K:zz8)(W:Wd)(B:aP):Prop where
 any:∀g as,B g as≠.bad->fq g=ie
 fld:∀f q,cK f≠d5->B (cK f) [q]≠.bad->∃n o p,q=.obj n/\W.ob[n]?=hI o/\bC o.c=ig/\o.fs.lookup f=hI p/\B (cK f) [q]=.ok p/\wC K o.C/\cI K o.C f
 con:∀q,B d5 [q]≠.bad->∃n o,q=.obj n/\W.ob[n]?=hI o/\bC o.c=ie/\B d5 [q]=.ok (AL o)
structure Hr(K:zz8)(W:Wd)(B:aP):Prop where
 fld:∀f q,cK f≠d5->B (cK f) [q]≠.bad->∃n o p,q=.obj n/\W.ob[n]?=hI o/\bC o.c=ig/\o.fs.lookup f=hI p/\B (cK f) [q]=.ok p/\wC K o.C/\cI K o.C f
 con:∀q,B d5 [q]≠.bad->∃n o,q=.obj n/\W.ob[n]?=hI o/\bC o.c=ie/\B d5 [q]=.ok (AL o)
structure jq(P:jX)(w:kd)(K:zz8)(mg:Str->Option iv)(base:kA)(W:Wd)(F:aP)(k:Nat)(f:Str):Prop where
 ex:∃fa fd ps,fy P w K mg base (dz P w) k fa fd ps (F7 W F f ps.length h9)/\mg f=hI (.ref fa)/\PySem.W.keepIn K (.ref fa)=ie/\Binds K fd ps []/\∀as,F f as≠.bad->as.length=ps.length
structure KQ(P:jX)(w:kd)(K:zz8)(mg:Str->Option iv)(base:kA)(W:Wd)(F:aP)(k:Nat)(q:Hs):Prop where
 ex:∃fa fd ps,fy P w K mg base (dz P w) k fa fd ps (F7 W F q.f ps.length (hI (q.g,q.idx)))/\mg q.h=hI (.ref fa)/\PySem.W.keepIn K (.ref fa)=ie/\Binds K fd ps []/\ps.length=q.np
section
variable{P:jX}{w:kd}{K:zz8}{Γ:Pg}{W:Wd}
def AH{c p:i1}(f:K.In base)(h:eZ K c p):PySem.W.CodeHd base c p:=by let(o,g,b,i,a,j,k,d,m,e,r):=h;exact{o,g,b,i,a,j,k,d,m,f _ _ e,r}
theorem xb(M:mU K mg Γ W)(b:K.In base){F:aP}{k:Nat}{ps:List Str}{sc:kv}(S:iO N ps sc)(L:∀f,Γ.fs.contains f=ie->jq P w K mg base W F k f)(O:∀q∈Γ.hs,KQ P w K mg base W F k q)(m:∀f,Γ.qs.contains f=ie->2<=k/\jq P w K mg base W F 2 f)(hk:Γ.qt=ig->2<=k)(Q:∀g as,F g as≠.bad->Γ.fs.contains g=ie\/fq g=ie)(r:Hr K W F){f:i1}{cd:iv}
 (t:Γ.hl=ie->∃c p,cd=.ref c/\eZ K c p/\(p,jb qual)∈W.ts/\∀u,(p,u)∈W.ts->u=jb qual)   {s:ix}  {E:XK} (hr:dm (k+1) (A.deeper (PyProof.Rows.envOfC qual sc (zz9 s) f cd))):
 fG Γ F W N sc k E (dC (dz P w) P w K mg base N qual sc f cd A outer s H E) where
 C:={rfl,rfl,λz=>Option.isNone_iff_eq_none.mpr (hr.hd (by have:=hk z;lia)),S.nd,M.hK,M.hm,M.gs,M.bs,hr,λg d=>{(L g d).ex},M.Ow,M.cls,M.xc,λq i=>{(O q i).ex},λf hf=>{(m f hf).1,{(m f hf).2.ex}},Q,r.fld,r.con,λz=>by
  let(c,p,B,G,a,I):=t z;exact{c,p,B,AH b G,a,I},λz=>by
  let(c,p,B,G,a,I):=t z;let(bm,o,b1,R,T,U,V):=M.bm (λy=>by rw [y] at a;cases a);exact{bm,o,b1,R,T,b _ _ U,V},λ_ _=>rfl}
 fn:=λ_=>rfl
 own:=PassesOwn.leaving
 pass:=Tn
 kind:=S.kind
 PL:=rfl
 frame:=rfl
 xs:=M.xs
 rm:=λc X=>let⟨C,h,_⟩:=M.rm c X;⟨C,h⟩
 rz:=λi c z j np zp cp Y Z h2 h3=>by let(C,hC,hx):=M.rm c Z;have d:Gl (dC (dz P w) P w K mg base N qual sc f cd A outer s H E) c:=zzy.mp h2;refine L2.PS.imp (FJ d (OR b hC hx) PySem.F.excBase_ValueError (bx tG cC) rfl rfl (ei h3).1 (Option.isNone_iff_eq_none.mpr (hr.hd (by have:=hk i;lia)))) λD σ H1 h=>{(show 1<=kB by decide),λe he=>h C e hC he}
 Qp:=M.Qp
def wg{as:List PV}(f:aC G H)(tb:bA W G H)(l:ai W G as vs)(hn:as.length<=N.length):SR W H (as.map .val++ll (N.length-as.length) .no) (start N vs) G H:=by
 have hl:=l.length;unfold L2.start;refine{by simp;lia,f,i8.refl _,λi s e=>?_,λi j p q a b Z Z Z=>?_,tb,tb}
 .by_cases c:i<as.length
  .rw [ey (zx6 c),dk] at e;let(p,d,rfl):=cP.mp e;let(v,g,rv):=l.sH d;exact{hI v,by rw [ey (by simpa using (show i<vs.length by lia)),dk,g];rfl,v,rfl,rv}
  .rw [ez (zx6 c),List.getElem?_replicate] at e;split at e
   .rename_i h;cases e;rw [zzl] at h;exact{h9,by rw [ez (by simp;lia),List.getElem?_replicate,if_pos (by rw [zzl];lia)],trivial}
   .cases e
 .exfalso;by_cases c:i<as.length
  .rw [ey (zx6 c),dk] at b;let(p,d,e):=cP.mp b;cases e
  .rw [ez (zx6 c),List.getElem?_replicate] at b;split at b<;>cases b
def BX{d:Def}{as:List PV}(a:d.np<=d.N.length)(e:aC G H)(tb:bA W G H)(l:Cr W G d.uW as vs)(b:vs.length=d.np):e9 d as=ie/\SR W H (ft d as) (start d.N vs) G H:=by
 unfold e9 ft;cases c:d.uW with
 |none=>rw [c] at l;have l:ai W G as vs:=l;exact{by rw [<-l.length,b];simp,wg e tb l (by rw [<-l.length,b];exact a)}|some q=>rw [c] at l;exact l.elim
def Lc(M:mU K mg Γ W)(u:K.In base){F:aP}{k:Nat}{n nf:Str}{d:Def}{i:i1}{fd:FuncData}(St:dF Γ n d st)(y:LV K n n st i fd)(z:∀f,Γ.fs.contains f=ie->jq P w K mg base W F k f)(B:∀q∈Γ.hs,KQ P w K mg base W F k q)(C:∀f,Γ.qs.contains f=ie->2<=k/\jq P w K mg base W F 2 f)(hk:Γ.qt=ig->2<=k)(D:∀g as,F g as≠.bad->Γ.fs.contains g=ie\/fq g=ie)(I:Hr K W F)
 (L:Γ.hl=ie->∃c p,fd.code=.ref c/\eZ K c p/\(p,jb n)∈W.ts/\∀j,(p,j)∈W.ts->j=jb n):
 fy P w K mg base (dz P w) (k+2) i fd (d.N.take d.np) (F7 W (λ_ as=>aX F d as) nf (d.N.take d.np).length d.uW):=by
 have a:(d.N.take d.np).length=d.np:=by rw [List.length_take];have:=St.np;lia
 let(oc,Y,kV,O,Z,an,dA,ct,pT,rfl,R,S):=y.ex;refine Dz R S St.sc (λT H Q E h=>h.1) λA outer s H T Q E hr h=>?_;let(hl,G,as,U,tb,l,o):=h;rw [a] at hl;let(V,sr):=BX St.np U tb l hl;have m:=xb (outer:=outer) (s:=s) (H:=H) (E:=E) M u St.sc z B C hk D I L hr
 refine{tSs W F H E d.body,(by
  cases t:Γ.qt with
  |false=>exact rJ m t d.body _ St.UM|true=>exact Aa m d.body _ (by have:=St.qui;rw [t] at this;exact this) St.UM),G,ft d as,sr,?_}
 dsimp only at o;unfold aX at o;rw [if_pos V] at o;cases r:bJ F d.body (ft d as) with
 |bad=>rw [r] at o;exact o|exc c=>rw [r] at o;exact o|ok fl=>
  rw [r] at o;cases fl with
  |nx env=>exact λX b e sr g=>o .aR b e g .n|rt p=>exact λv b e rv g=>o v b e g rv|bk env=>exact o.elim|ct env=>exact o.elim
def AllK(K:zz8)(ts:List (i1×Str))(Γ:Pg):fX->Prop
 |[]=>True|r::l=>Cy K ts r.hl r.h r.st/\dF (Γ.at l r.hl) r.h r.d r.st/\((l.map (·.f)).contains r.f=ig/\(r.d.uW.isNone==!fq r.f)=ie/\(r.d.uW.isNone=ie->r.f=r.h)/\Rc r.f=ig)/\AllK K ts Γ l
def sV(M:mU K mg Γ W)(l:fX)(hl:Bool):mU K mg (Γ.at l hl) W:=⟨M.hK,M.hm,M.gs,M.bs,M.Ow,M.cls,M.xc,M.xs,M.rm,M.Qp,M.bm⟩
def jq.mono{F:aP}{k:Nat}(h:jq P w K mg base W F j f)(hk:j<=k):jq P w K mg base W F k f:=by let(a,fd,b,c,d):=h.ex;exact{a,fd,b,c.mono hk,d}
def pE{F a:aP}{b:Str}{n:Nat}{q:Option (Str×List Nat)}(e:∀as,a b as=F f as):F7 W a b n q=F7 W F f n q:=by
 funext c H Q E
 unfold F7;simp! [e]
def jq.swap{F a:aP}{k:Nat}(h:jq P w K mg base W F k f)(e:∀as,a f as=F f as):jq P w K mg base W a k f:=by let(b,fd,c,d,g,i,j,m):=h.ex;refine{b,fd,c,?_,g,i,j,λas o=>m as (by rw [<-e];exact o)};rw [pE e];exact d
def KQ.swap{F a:aP}{k:Nat}{q:Hs}(h:KQ P w K mg base W F j q)(hk:j<=k)(e:∀as,a q.f as=F q.f as):KQ P w K mg base W a k q:=by let(b,fd,c,d,g,i,m,o):=h.ex;refine{b,fd,c,?_,g,i,m,o};rw [pE e];exact d.mono hk
variable{B:aP}
def iy{r:Row}{l:fX}(h:(g==r.f)=ig)(as:List PV):aH B (tab (r::l)) g as=aH B (tab l) g as:=by show(if(g==r.f)=ie then _ else _)=_;rw [h];rfl
def u5{r:Row}{l:fX}(as:List PV):aH B (tab (r::l)) r.f as=aX (aH B (tab l)) r.d as:=by show(if(r.f==r.f)=ie then _ else _)=_;rw [beq_self_eq_true];rfl
theorem nr(a:∀g as,B g as≠.bad->fq g=ie):∀(l:fX) {ts:List (i1×Str)},AllK K ts Γ l->∀g as,aH B (tab l) g as≠.bad->(mX l).contains g=ie\/fq g=ie
 |[],_,_,g,as,h=>.inr (a g as h)|r::l,ts,⟨_,_,⟨_,hn,_,_⟩,hr⟩,g,as,h=>by
  by_cases e:(g==r.f)=ie
  .have c:=zzy.mp e
   subst c;cases b:r.d.uW with
   |none=>left;unfold mX;rw [List.filterMap_cons,b];simp|some q=>right;rw [b] at hn;simpa using hn
  .rw [iy (zx6 e)] at h;rcases nr a l hr g as h with z|z
   .left;unfold mX at z⊢;rw [List.filterMap_cons];split
    .exact z
    .rw [List.contains_cons,z,Bool.or_true]
   .exact .inr z
def iW:∀{l:fX} {f:Str},(oQ l).contains f=ie->l≠[]/\(mX l).contains f=ie:=by
 intro l f h;unfold oQ at h;cases e:l.getLast? with
 |none=>rw [e] at h;cases h
 |some r=>
  rw [e] at h;have hm:=List.mem_of_getLast? e;refine{λz=>(by rw [z] at hm;cases hm),?_};dsimp only at h;split at h
  .rename_i a;have hf:f=r.f:=zx6 h;rw [et,hf];exact f6.mpr {r,hm,if_pos a}
  .cases h
def yG(f:Str):Rc (cK f)=ie:=by unfold Rc cK;show((("@":Str)++f).cps[0]?==hI 64)=ie;have e:(("@":Str)++f).cps=("@":Str).cps++f.cps:=rfl;rw [e];simp [Array.getElem?_append];rfl
theorem iz:∀(l:fX) {ts:List (i1×Str)},AllK K ts Γ l->∀g as,Rc g=ie->aH B (tab l) g as=B g as
 |[],_,_,_,_,_=>rfl|r::l,ts,⟨_,_,⟨_,_,_,h0⟩,hr⟩,g,as,a=>by
  have e:(g==r.f)=ig:=by
   cases z:g==r.f with
   |false=>rfl|true=>rw [zzy.mp z,h0] at a;cases a
  rw [iy e];exact iz l hr g as a
theorem sy(c:Cz K W B)(l:fX){ts:List (i1×Str)}(h:AllK K ts Γ l):Hr K W (aH B (tab l)) where
 fld:=λf q hf a=>by rw [iz l h _ _ (yG f)] at a;let(n,o,p,b):=c.fld f q hf a;exact{n,o,p,by rw [iz l h _ _ (yG f)];exact b}
 con:=λq a=>by rw [iz l h _ _ (by rfl)] at a;let(n,o,b):=c.con q a;exact{n,o,by rw [iz l h _ _ (by rfl)];exact b}
set_option tactic.hygienic true in
theorem nS(u:Cz K W B)(M:mU K mg Γ W)(p:K.In base)(G:base.Ns la mg):∀(l:fX),AllK K W.ts Γ l->(∀f,(mX l).contains f=ie->jq P w K mg base W (aH B (tab l)) (2*l.length) f)/\(∀q∈Be l,KQ P w K mg base W (aH B (tab l)) (2*l.length) q)/\∀f,(oQ l).contains f=ie->jq P w K mg base W (aH B (tab l)) 2 f
 |[],_=>{λf hf=>by simp [mX] at hf,λq a=>by simp [Be] at a,λf hf=>absurd rfl (iW hf).1}|r::l,V=>by
  let(he,hs,(X,Y,A,_),hr):=V;let(L,i,j):=nS u M p G l hr;have m:l≠[]->2<=2*l.length:=λz=>by have:=List.length_pos_iff.mpr z;lia
  let(O,oc,od,kV,Z,pm,an,dA,ct,pT,Q,e2,e3,C,e5):=he;have D:=sF (st:=r.st) e2 e3 C;have ok:=Lc (P:=P) (w:=w) (nf:=r.f) (sV M l r.hl) p (k:=2*l.length) hs D (λg s=>L g s) (λq a=>i q a) (λf hf=>{m (iW hf).1,j f hf}) (λz=>m λy=>by subst y;cases z) (nr u.any l hr) (sy u l hr) e5
  have E:∀g,(l.map (·.f)).contains g=ie->(g==r.f)=ig:=λg s=>by
   cases z:g==r.f with
   |false=>rfl|true=>rw [zzy.mp z,X] at s;cases s
  have sp:F7 W (λ_ as=>aX (aH B (tab l)) r.d as) r.f (r.d.N.take r.d.np).length r.d.uW=F7 W (aH B (tab (r::l))) r.f (r.d.N.take r.d.np).length r.d.uW:=pE λas=>(u5 as).symm;rw [sp] at ok;have b:(r.d.N.take r.d.np).length=r.d.np:=by rw [List.length_take];have:=hs.np;lia
  have R:∀f,(mX l).contains f=ie->(l.map (·.f)).contains f=ie:=λf hf=>by
   rw [et] at hf⊢;unfold mX at hf;let(x,F,e):=f6.mp hf;split at e
   .cases e;exact List.mem_map_of_mem (f:=(·.f)) F
   .cases e
  have c:∀f,(mX (r::l)).contains f=ie->jq P w K mg base W (aH B (tab (r::l))) (2*(r::l).length) f:=λf hf=>by
   by_cases S:(f==r.f)=ie/\r.d.uW=h9
   .let(h1,H):=S;have e:=zzy.mp h1;subst e;refine{O,_,r.d.N.take r.d.np,by rw [H] at ok;exact ok,?_,C,D.binds hs.bind,λas t=>?_}
    .rw [A (by rw [H];rfl)];exact PySem.W.mg_of p G Q
    .rw [u5] at t;unfold aX at t;by_cases ha:e9 r.d as=ie
     .unfold e9 at ha;rw [H] at ha;rw [b];exact zzy.mp ha
     .rw [if_neg ha] at t;exact absurd rfl t
   .have T:(mX l).contains f=ie:=by
     unfold mX at hf⊢;rw [List.filterMap_cons] at hf;split at hf
     .exact hf
     .rename_i y I;split at I
      .rename_i o;cases I;rw [List.contains_cons,eH] at hf;rcases hf with z|z
       .exact absurd {z,Option.isNone_iff_eq_none.mp o} S
       .exact z
      .cases I
    exact((L f T).mono (by rw [c4];lia)).swap λas=>iy (E f (R f T)) as
  refine{c,λq a=>?_,λf hf=>?_}
  rotate_left
  .cases l with
   |nil=>exact c f (iW hf).2|cons x U=>
    have e:oQ (r::x::U)=oQ (x::U):=by unfold oQ;rw [List.getLast?_cons_cons]
    rw [e] at hf;exact(j f hf).swap λas=>iy (E f (R f (iW hf).2)) as
  .unfold Be at a;rw [List.filterMap_cons] at a;have h:q∈Be l->KQ P w K mg base W (aH B (tab (r::l))) (2*(r::l).length) q:=λa=>by
    refine(i q a).swap (by rw [c4];lia) λas=>iy (E q.f ?_) as;unfold Be at a;let(x,F,e):=f6.mp a;let(y,_,rfl):=cP.mp e;rw [et];exact List.mem_map_of_mem (f:=(·.f)) F
   cases o:r.d.uW with
   |none=>rw [o] at a;exact h a|some y=>
    rw [o] at a;rcases er.mp a with z|z
    .subst z;rw [o] at ok;exact{O,_,r.d.N.take r.d.np,ok,PySem.W.mg_of p G Q,C,D.binds hs.bind,b}
    .exact h z
end
structure OS where
 c:Str
 fs:List (Str×PV)
noncomputable abbrev Sg:=List OS
abbrev Mn(o:OS):PV:=if Bh o.c then .cq (o.fs.map (·.1)) (o.fs.map (·.2)) else .lst (o.fs.map (·.2))
abbrev A3(o:OS)(g:Str):Res PV:=match o.fs.find? λq=>cK q.1==g with
 |some q=>.ok q.2|none=>.bad
abbrev aW(s:Sg):aP:=λg as=>match as with
 |[.obj n]=>(match s[n]? with
  |some o=>if bC o.c then(if g==d5 then .ok (Mn o) else .bad) else if g==d5 then .bad else A3 o g
  |none=>.bad)
 |_=>.bad
inductive Rs(α:Type) where
 |ok (a:α) (s:Sg)|exc (c:Str) (s:Sg)|bad
abbrev Rs.bind{b d:Type}:Rs b->(b->Sg->Rs d)->Rs d
 |.ok a s,f=>f a s|.exc c s,_=>.exc c s|.bad,_=>.bad
abbrev Rs.of{b:Type}(r:Res b)(s:Sg):Rs b:=match r with
 |.ok a=>.ok a s|.exc c=>.exc c s|.bad=>.bad
abbrev Rs.well{b:Type}:Rs b->Rs b
 |.ok a s=>.ok a s|_=>.bad
noncomputable abbrev gA:=Str->List PV->Sg->Rs PV
abbrev kS(c m:Str):Str:=(c++".")++m
mutual
inductive X2 where
 |pu (e:E)
 |p8 (f:Str) (as:Es)
 |c1 (f:Str) (as:uv)
 |met (o:E) (c m:Str) (as:Es)
 |new (c:Str) (as:Es)
 |tup (as:uv)
 |cmp (o:uu) (a b:X2)
 |oj (k:Nat) (bh:List Nat) (tg:Tg) (it elt:X2)
 |AS
 |vC (as:uv)
 |dict (x:X2)
 |uM (a:E) (x:X2)
 |x6 (a:E)
 |qV (a k:E)
 |ite (c:E) (a b:X2)
 |AN (a:E)
 |xC (a:E)
 |Hl (f:Str) (bh:List Nat) (x:X2)
inductive uv where
 |nil|cons (x:X2) (xs:uv)
end
abbrev bK(f:PV->Sg->Rs PV):List PV->Sg->Rs (List PV)
 |[],s=>.ok [] s|x::xs,s=>(f x s).well.bind λy a=>(bK f xs a).bind λys b=>.ok (y::ys) b
abbrev UJ(p:PV)(s:Sg):Rs Bool:=match p with
 |.bl b=>.ok b s|_=>.bad
abbrev ff{a:Type}(s:Sg)(k:Str->Bool)(p:PV)(f:Nat->OS->Rs a):Rs a:=match p with
 |.obj n=>(match s[n]? with
  |some o=>if k o.c then f n o else .bad
  |none=>.bad)
 |_=>.bad
abbrev xN(c:Str)(fs:List (Str×PV))(s:Sg):Rs PV:=.ok (.obj s.length) (s++[⟨c,fs⟩])
abbrev putD(z:Str)(p:PV)(fs:List (Str×PV)):List (Str×PV):=(eM (fs.map (·.1)) z).zip (cQ (fs.map (·.1)) (fs.map (·.2)) z p)
abbrev fj(z:Str)(fs:List (Str×PV)):List (Str×PV):=(fO (fs.map (·.1)) z).zip (bO (fs.map (·.1)) (fs.map (·.2)) z)
abbrev r9:List Nat->Sl->Res Sl
 |[],_=>.ok []|i::r,env=>(mS env[i]?).bind λp=>(r9 r env).bind λps=>.ok (.val p::ps)
section
variable(F1:Sg->aP)(F2:gA)
abbrev gE(s:Sg)(n:Nat)(c:Str):Bool:=match s[n]? with
 |some o=>o.c==c&&!bC c|none=>ig
abbrev xO(c:Str)(ps:List PV)(s:Sg):Rs PV:=if bC c then .bad else(F2 (kS c (zu 6)) (.obj s.length::ps) (s++[{c,[]}])).bind λp a=>if zm p then .ok (.obj s.length) a else .bad
mutual
noncomputable def bp:X2->Sl->Sg->Rs PV
 |.pu e,env,s=>.of (az (F1 s) e env) s|.p8 f as,env,s=>(Rs.of (bw (F1 s) as env) s).bind λps s=>F2 f ps s|.c1 f as,env,s=>(dJ as env s).bind λps s=>.of (F1 s f ps) s|.met o c m as,env,s=>(Rs.of (az (F1 s) o env) s).bind λp s=>(match p with
  |.obj n=>if gE s n c then(Rs.of (bw (F1 s) as env) s).bind λps s=>F2 (kS c m) (.obj n::ps) s else .bad
  |_=>.bad)
 |.new c as,env,s=>(Rs.of (bw (F1 s) as env) s).bind λps s=>xO F2 c ps s|.tup as,env,s=>(dJ as env s).bind λps s=>.ok (.tup ps) s|.cmp o a b,env,s=>(bp a env s).bind λp s=>(bp b env s).bind λq s=>.of (cB o p q) s|.oj k g i it elt,env,s=>(bp it env s).bind λp s=>(match p with
  |.lst xs=>if xs.length<bT then(bK (λx s=>(Rs.of (i.put x (ll k .no++eO env g)) s).bind λh s=>bp elt h s) xs s).bind λys s=>.ok (.lst ys) s else .bad
  |_=>.bad)
 |.AS,_,s=>xN "#d" [] s|.vC as,env,s=>(dJ as env s).bind λps s=>xN "#l" (ps.map λp=>(("":Str),p)) s|.dict x,env,s=>(bp x env s).bind λp s=>.of (g6 [p]) s|.uM a x,env,s=>(Rs.of (az (F1 s) a env) s).bind λq s=>ff s Ck q λZ Z=>(bp x env s).bind λp s=>ff s Ck q λn o=>if o.fs.length<bT then .ok PV.aR (s.set n {o.c,o.fs++[(("":Str),p)]}) else .bad
 |.x6 a,env,s=>(Rs.of (az (F1 s) a env) s).bind λq s=>ff s Ck q λn o=>match o.fs[o.fs.length-1]? with
  |some p=>.ok p.2 (s.set n ⟨o.c,o.fs.dropLast⟩)|none=>.bad
 |.qV a k,env,s=>(Rs.of (az (F1 s) a env) s).bind λq s=>ff s Bh q λZ Z=>(Rs.of (az (F1 s) k env) s).bind λz s=>ff s Bh q λn o=>match eG z with
  |some z=>(match bW (o.fs.map (·.1)) (o.fs.map (·.2)) z with
   |some p=>.ok p (s.set n {o.c,fj z o.fs})|none=>.bad)
  |none=>.bad
 |.ite c a b,env,s=>(Rs.of (az (F1 s) c env) s).bind λp s=>(UJ p s).bind λt s=>if t then bp a env s else bp b env s
 |.AN a,env,s=>(Rs.of (az (F1 s) a env) s).bind λq s=>ff s Bh q λZ o=>xN "#d" o.fs s|.xC a,env,s=>(Rs.of (az (F1 s) a env) s).bind λq s=>ff s Ck q λZ o=>xN "#l" o.fs s|.Hl _ g x,env,s=>(Rs.of (r9 g env) s).bind λh s=>match bp x h s with
  |.exc d s'=>.of (F1 s' (zu 5) [.exc d]).well s'|r=>r
noncomputable def dJ:uv->Sl->Sg->Rs (List PV)
 |.nil,_,s=>.ok [] s|.cons x xs,env,s=>(bp x env s).bind λp s=>(dJ xs env s).bind λps s=>.ok (p::ps) s
end
end
inductive T2 where
 |pu (e:E)|cmp (o:uu) (a b:X2)|or (a b:T2)
section
variable(F1:Sg->aP)(F2:gA)
abbrev uA:T2->Sl->Sg->Rs Bool
 |.pu e,env,s=>(Rs.of (az (F1 s) e env) s).bind UJ|.cmp o a b,env,s=>(bp F1 F2 (.cmp o a b) env s).bind UJ|.or a b,env,s=>(uA a env s).bind λt s=>if t then .ok ie s else uA b env s
end
mutual
inductive S2 where
 |p (s:S)
 |set (i:Nat) (x:X2)
 |par (i j:Nat) (xs:uv)
 |ex (x:X2)
 |ret (x:X2)
 |mw (c:Str) (i:Nat) (f:Str) (x:X2)
 |BM (a k e:E)
 |ite (c:T2) (a b:pX)
 |eS (tg:Tg) (it:I) (b:pX)
inductive pX where
 |nil|cons (s:S2) (ss:pX)
end
abbrev mj(f:Str)(p:PV):List (Str×PV)->List (Str×PV)
 |[]=>[(f,p)]|(g,q)::r=>if g=f then(g,p)::r else(g,q)::mj f p r
abbrev BS(s:Sg)(n:Nat)(f:Str)(p:PV):Rs Unit:=match s[n]? with
 |some o=>if o.fs.length<1000 then .ok () (s.set n {o.c,mj f p o.fs}) else .bad
 |none=>.bad
abbrev eL(body:PV->Sl->Sg->Rs Fl):List PV->Sl->Sg->Rs Fl
 |[],env,s=>.ok (.nx env) s|x::xs,env,s=>(body x env s).bind λf s=>match f with
  |.nx a=>eL body xs a s|.ct a=>eL body xs a s|.bk a=>.ok (.nx a) s|.rt p=>.ok (.rt p) s
abbrev XZ(f:Fl)(s:Sg)(k:Sl->Sg->Rs Fl):Rs Fl:=match f with
 |.nx env=>k env s|f=>.ok f s
abbrev clean(f:Fl):Res Fl:=match f with
 |.nx env=>if env.any Slot.cb then .bad else .ok (.nx env)
 |.rt p=>.ok (.rt p)|_=>.bad
section
variable(F1:Sg->aP)(F2:gA)
mutual
noncomputable def eQ:S2->Sl->Sg->Rs Fl
 |.p st,env,s=>.of ((dq (F1 s) st env).bind clean) s|.set i x,env,s=>(bp F1 F2 x env s).bind λp s=>.ok (.nx (env.set i (.val p))) s|.par i j xs,env,s=>(dJ F1 F2 xs env s).bind λps s=>(match ps with
  |[p,q]=>.ok (.nx ((env.set i (.val p)).set j (.val q))) s|_=>.bad)
 |.ex x,env,s=>(bp F1 F2 x env s).bind λZ s=>.ok (.nx env) s|.ret x,env,s=>(bp F1 F2 x env s).bind λp s=>.ok (.rt p) s|.mw c i f x,env,s=>(bp F1 F2 x env s).bind λp s=>(match env[i]? with
  |some (.val (.obj n))=>if gE s n c then(BS s n f p).bind λZ s=>.ok (.nx env) s else .bad
  |_=>.bad)
 |.BM a k e,env,s=>(Rs.of (az (F1 s) e env) s).bind λp s=>(Rs.of (az (F1 s) a env) s).bind λq s=>(Rs.of (az (F1 s) k env) s).bind λz s=>(ff s Bh q λn o=>match eG z with
  |some z=>if o.fs.length<bT then .ok PV.aR (s.set n {o.c,putD z p o.fs}) else .bad
  |none=>.bad).bind λZ s=>.ok (.nx env) s
 |.ite c a b,env,s=>(uA F1 F2 c env s).bind λt s=>if t then cO a env s else cO b env s
 |.eS d it b,env,s=>(Rs.of (uz (F1 s) it env) s).bind λxs s=>eL (λx env s=>(Rs.of (d.put x env) s).bind λg s=>cO b g s) xs env s
noncomputable def cO:pX->Sl->Sg->Rs Fl
 |.nil,env,s=>.ok (.nx env) s|.cons st ss,env,s=>(eQ st env s).bind λf s=>XZ f s (cO ss)
end
end
structure D2 where
 N:List Str
 np:Nat
 body:pX
abbrev fV(d:D2)(as:List PV):Sl:=as.map .val++ll (d.N.length-as.length) .no
abbrev mr(F1:Sg->aP)(F2:gA)(d:D2)(as:List PV)(s:Sg):Rs PV:=
 if as.length==d.np then(cO F1 F2 d.body (fV d as) s).bind λf s=>(match f with
  |.nx _=>.ok .aR s|.rt p=>.ok p s|_=>.bad)
 else .bad
abbrev bU(F1:Sg->aP):List (Str×D2)->gA
 |[],_,_,_=>.bad|(n,d)::r,f,as,s=>if f==n then mr F1 (bU F1 r) d as s else bU F1 r f as s
noncomputable abbrev Wd.at(W:Wd)(ob:List Ob):Wd:={W with ob:=ob}
abbrev aF(l:List Ob):Sg:=l.map λo=>⟨o.c,o.fs⟩
def An(ob d:List Ob):Prop:=∀(n:Nat) (o:Ob),ob[n]?=hI o->∃b,d[n]?=hI b/\b.a=o.a/\b.dx=o.dx/\b.C=o.C/\b.c=o.c
def An.refl(ob:List Ob):An ob ob:=λZ o h=>⟨o,h,rfl,rfl,rfl,rfl⟩
theorem An.trans{a b c:List Ob}(h:An a b)(k:An b c):An a c:=λn o e=>by let(o1,d,f,g,i,j):=h n o e;let(o2,m,p,k2,q,r):=k n o1 d;exact{o2,m,p.trans f,k2.trans g,q.trans i,r.trans j}
section
variable{W:Wd}{ob aG:List Ob}
mutual
theorem Rep.at(i:An ob aG):∀(p:PV) {v:V},Rep (W.at ob) G p v->Rep (W.at aG) G p v
 |.aR,_,h=>by simpa only [Rep] using h|.bl b,_,h=>by simpa only [Rep] using h|.int _,_,h=>by simpa only [Rep] using h|.str z,_,h=>by simpa only [Rep] using h|.tup xs,_,h=>by simp! [Rep] at h⊢;let(a,vs,e,q,l):=h;exact{a,vs,e,q,ai.at i xs l}|.lst xs,_,h=>by simp! [Rep] at h⊢;let(a,vs,e,q,l):=h;exact{a,vs,e,q,ai.at i xs l}|.exc c,_,h=>by simpa only [Rep] using h|.cq k vs,_,h=>by simp! [Rep] at h⊢;let(a,o,d,e,n,m,l):=h;exact{a,o,d,e,n,m,ai.at i vs l}|.obj n,_,h=>by simp! [Rep] at h⊢;let(o,e,rfl):=h;let(f,g,j,_):=i n o e;exact{f,g,by rw [j]}
theorem ai.at(i:An ob aG):∀(ps:List PV) {vs:List V},ai (W.at ob) G ps vs->ai (W.at aG) G ps vs
 |[],_,h=>by simpa only [ai] using h|p::ps,_,h=>by simp! [ai] at h⊢;let(v,r,e,a,b):=h;exact{v,r,e,Rep.at i p a,ai.at i ps b}
end
end
def wL(H d:Hp):Prop:=∀b o,H b=hI o->∃c,d b=hI c/\((∀a,o≠.tup a)->∀a,c≠.tup a)
def wL.refl(H:Hp):wL H H:=λZ o h=>⟨o,h,id⟩
theorem wL.trans{d:Hp}(a:wL H H1)(b:wL H1 d):wL H d:=λc o h=>by let(o1,e,f):=a c o h;let(o2,g,k2):=b c o1 e;exact{o2,g,λn=>k2 (f n)}
def i8.X3{c:Hp}(h:i8 H c):wL H c:=λb o e=>by
 rcases h b o e with⟨n,a⟩|⟨d,m,rfl,a⟩
 .exact⟨o,a,id⟩
 .exact{_,a,λZ Z z=>nomatch z}
def wL.of{a:Hp}(h:aC H a):wL H a:=λb o e=>{o,h b o e,id}
def wL.has{b:Hp}(h:wL H b)(z:H a≠h9):b a≠h9:=by
 cases e:H a with
 |none=>exact absurd e z|some o=>let(d,c,_):=h a o e;rw [c];exact nofun
theorem wL.ji{b:Hp}(h:wL H b)(z:H a≠h9)(n:∀vs,H a≠hI (.tup vs)):∀vs,b a≠hI (.tup vs):=λvs y=>by
 cases e:H a with
 |none=>exact absurd e z|some o=>let(f,c,k):=h a o e;rw [y] at c;cases c;exact k (λd q=>n d (by rw [e,q])) vs rfl
structure fZ(W:Wd)(ob:List Ob)(G H:Hp)(aG:List Ob)(G' H':Hp):Prop where
 ids:An ob aG
 g:aC G G'
 h:wL H H'
 sub:aC G' H'
 own:∀a,H a≠h9->(∀vs,H a≠hI (.tup vs))->G a=h9->G' a=h9
 tab:bA (W.at ob) G H->bA (W.at aG) G' H'
section
variable{W:Wd}{ob aG cj iY:List Ob}{G' H' G1 G2 H2:Hp}
def fZ.refl(s:aC G H):fZ W ob G H ob G H:={.refl _,.refl _,.refl _,s,λZ Z Z h=>h,id}
def fZ.trans(a:fZ W ob G H cj G1 H1)(b:fZ W cj G1 H1 iY G2 H2):fZ W ob G H iY G2 H2:=
 {a.ids.trans b.ids,a.g.trans b.g,a.h.trans b.h,b.sub,λx c d e=>b.own x (a.h.has c) (a.h.ji c d) (a.own x c d e),λt=>b.tab (a.tab t)}
def aE.lN(g:aE (W.at ob) G H G' H'):fZ W ob G H ob G' H':={.refl _,g.g,g.h.X3,g.sub,g.own,g.tab}
def fZ.rep{p:PV}(g:fZ W ob G H aG G' H')(h:Rep (W.at ob) G p v):Rep (W.at aG) G' p v:=Rep.same g.g p (Rep.at g.ids p h)
def fZ.TH{p:List PV}{v:List V}(g:fZ W ob G H aG G' H')(h:ai (W.at ob) G p v):ai (W.at aG) G' p v:=ai.same g.g p (ai.at g.ids p h)
theorem Oq(h:env.any Slot.cb=ig)(i:Nat)(p:PV):env[i]?≠hI (.own p):=λe=>by have:env.any Slot.cb=ie:=ek.mpr {_,a6 e,rfl};rw [this] at h;cases h
theorem SR.lN(r:SR (W.at ob) H0 env σ G H)(no:env.any Slot.cb=ig)(g:fZ W ob G H aG G' H'):SR (W.at aG) H' env σ G' H' where
 len:=r.len
 sub:=g.sub
 base:=.refl _
 slot:=λi s e=>by
  let(o,a,b):=r.slot i s e
  refine{o,a,?_};cases s with
  |no=>exact trivial|val p=>let(v,e,q):=b;exact{v,e,g.rep q}|own p=>exact absurd e (Oq no i p)
 apart:=r.apart
 tab:=g.tab r.tab
 je:=g.tab r.tab
structure Ent(ob:List Ob)(G H:Hp)(aG:List Ob)(G' H0:Hp):Prop where
 ids:An ob aG
 g:aC G G'
 h:wL H H0
 own:∀a,H a≠h9->(∀vs,H a≠hI (.tup vs))->G a=h9->G' a=h9
variable{obe:List Ob}{Ge He:Hp}
def Ent.refl:Ent ob G H ob G H:={.refl _,.refl _,.refl _,λZ Z Z h=>h}
def Ent.lN(n:Ent obe Ge He ob G H0)(r:SR (W.at ob) H0 env σ G H):fZ W obe Ge He ob G H:={n.ids,n.g,n.h.trans r.base.X3,r.sub,n.own,λZ=>r.tab}
def Ent.on(n:Ent obe Ge He ob G H0)(r:SR (W.at ob) H0 env σ G H)(g:fZ W ob G H aG G' H'):Ent obe Ge He aG G' H':=by have k:=(n.lN r).trans g;exact⟨k.ids,k.g,k.h,k.own⟩
def Ent.step(n:Ent obe Ge He ob G H0)(g:aE (W.at ob) G H0 G' H'):Ent obe Ge He ob G' H0:={n.ids,n.g.trans g.g,n.h,λa b c d=>g.own a (n.h.has b) (n.h.ji b c) (n.own a b c d)}
def Ent.fin(n:Ent obe Ge He ob G H0)(t:bA (W.at ob) G H0)(g:aE (W.at ob) G H0 G' H'):fZ W obe Ge He ob G' H':={n.ids,n.g.trans g.g,n.h.trans g.h.X3,g.sub,λa b c d=>g.own a (n.h.has b) (n.h.ji b c) (n.own a b c d),λZ=>g.tab t}
end
structure lV(K:zz8)(mg:Str->Option iv)(ob:List Ob):Prop where
 inj:∀(n m:Nat) (o o':Ob),ob[n]?=hI o->ob[m]?=hI o'->o.a=o'.a->n=m
 cls:∀(n:Nat) (o:Ob),ob[n]?=hI o->bC o.c=ig->mg o.c=hI (.ref o.C)/\wC K o.C/\∀f p,o.fs.lookup f=hI p->cI K o.C f
def Dw(h:cK f=cK g):f=g:=by unfold cK at h;have e:∀x:Str,(("@":Str)++x).cps=("@":Str).cps++x.cps:=λZ=>rfl;have a:=congrArg Str.cps h;rw [e,e] at a;have b:=Array.append_inj_right a rfl;cases f;cases g;exact congrArg Str.mk b
def yh(f:Str):fq (cK f)=ie:=by unfold fq cK;have e:(("@":Str)++f).cps=("@":Str).cps++f.cps:=rfl;rw [e,Array.toList_append,List.contains_eq_mem];exact zzh (ed _ ↑2)
theorem mF{q:Str×PV}:∀{fs:List (Str×PV)},(fs.find? λq=>cK q.1==cK f)=hI q->fs.lookup f=hI q.2
 |[],h=>by cases h
 | (g,p)::fs,h=>by
  rw [List.find?_cons] at h;rw [hD];cases e:cK g==cK f with
  |true=>rw [e] at h;cases h;rw [Dw (zzy.mp e),beq_self_eq_true]
  |false=>
   rw [e] at h;have n:(f==g)=ig:=by
    cases z:f==g with
    |false=>rfl|true=>rw [zzy.mp z,beq_self_eq_true] at e;cases e
   rw [n];exact mF h
def sC{ob:List Ob}(h:aW (aF ob) g [q]≠.bad):∃n o,q=.obj n/\ob[n]?=hI o/\aW (aF ob) g [q]=(if bC o.c then(if g==d5 then .ok (AL o) else .bad) else if g==d5 then .bad else A3 ⟨o.c,o.fs⟩ g):=by
 cases q with
 |obj n=>
  cases e:ob[n]? with
  |none=>
   refine absurd ?_ h;show(match(aF ob)[n]? with|some o=>_|none=>Res.bad)=_;unfold aF;rw [dk,e];rfl
  |some o=>
   refine{n,o,rfl,e,?_};show(match(aF ob)[n]? with|some o=>(if bC o.c then(if g==d5 then Res.ok (Mn o) else .bad) else if g==d5 then .bad else A3 o g)|none=>Res.bad)=_;unfold aF;rw [dk,e];rfl
 |_=>exact absurd rfl h
set_option tactic.hygienic true in
theorem sD{K:zz8}{W:Wd}{ob:List Ob}(u:lV K mg ob):Cz K (W.at ob) (aW (aF ob)) where
 any:=λg as h=>by
  cases as with
  |nil=>exact absurd rfl h|cons q r=>
   cases r with
   |cons _ _=>refine absurd ?_ h;cases q<;>rfl
   |nil=>
    let(n,o,rfl,e,a):=sC h;rw [a] at h;split at h
    .split at h
     .rename_i z;rw [zzy.mp z];rfl
     .exact absurd rfl h
    .split at h
     .exact absurd rfl h
     .unfold A3 at h;split at h
      .rename_i i d;have:=List.find?_some d;rw [<-zzy.mp this];exact yh _
      .exact absurd rfl h
 fld:=λf q hf h=>by
  let(n,o,rfl,e,a):=sC h
  have k:(cK f==d5)=ig:=by
   cases z:cK f==d5 with
   |false=>rfl|true=>exact absurd (zzy.mp z) hf
  rw [k] at a;cases b:bC o.c with
  |true=>rw [b,if_pos rfl] at a;exact absurd a h|false=>
   rw [b,if_neg zzf,if_neg zzf] at a;have d:A3 ⟨o.c,o.fs⟩ (cK f)=(match o.fs.find? (λ(q:Str×PV)=>cK q.1==cK f) with|some q=>.ok q.2|none=>.bad):=rfl
   cases j:o.fs.find? (λ(q:Str×PV)=>cK q.1==cK f) with
   |none=>rw [d,j] at a;exact absurd a h|some i=>have hl:o.fs.lookup f=hI i.2:=mF j;rw [d,j] at a;let(_,m,p):=u.cls n o e b;exact{n,o,i.2,rfl,e,b,hl,a,m,p f _ hl}
 con:=λq h=>by
  let(n,o,rfl,e,a):=sC h
  cases b:bC o.c with
  |true=>rw [b,if_pos rfl] at a;exact⟨n,o,rfl,e,b,a⟩|false=>rw [b,if_neg zzf] at a;exact absurd a h
end Ci
namespace L2
open PySem.Spec PyProof.Rows
def EL{w:kd}{env:Env}{o:i2}{name:Str}{a:Pos}{args:List i2}{Q:lr}{E:lr}{s:ix}
 (j:attributeBase o name env (eval o env)=eval o env)
 (k:((backTo pos (starEach args env)).all (λx=>!x.1)&&(backToKw pos (keywordEach [] env)).all (λx=>x.1.isSome)
  &&decide (args.length+([]:List Keyword).length+(if([]:List Keyword).isEmpty then 0 else 1)<30))=ie)
 (m:(a.endLine==pos.line)=ie)
 (h:jW (kr prog w) A (eval o env) (λi b=>jW (kr prog w) A (getMethod i name (do return (<-importBound o env).getD ie)) (λg c=>jW (kr prog w) A (callWith pos g.1 g.2 (backTo pos (starEach args env)) (backToKw pos (keywordEach [] env))) Q E c) E b) E s):
 jW (kr prog w) A (eval (.Call (.Attribute o name a) args [] pos) env) Q E s:=by
 rw [arm_eval_Call,j];refine ar (wpAny_mono h (λi b d=>?_) λZ Z e=>e);refine ar (wpAny_standAt ?_);have p:methodCallForm (args.length+([]:List Keyword).length) (backTo pos (starEach args env)) (backToKw pos (keywordEach [] env))=ie:=k;have q:methodCallPos ie o env a pos=pure pos:=by unfold methodCallPos;simp [m]
 unfold methodCall;rw [p,q];refine ar (wpAny_holding (wpAny_mono d (λg c f=>?_) λZ Z e=>e));exact ar (bc f)
end L2
namespace Ci
open L2
abbrev GX(W:Wd)(c:Str)(s:Sg)(ob:List Ob)(G H:Hp):XK:=λd e f=>∃C a b g,d=.ref C/\e=hI a/\c∈W.xs/\W.mg c=hI (.ref C)/\fZ W ob G H b g f/\lV W.K W.mg b/\aF b=s
abbrev QC(W:Wd)(F2:gA)(f:Str)(n:Nat):Sp:=λd H Q E=>d.length=n/\∃ob G as,aC G H/\bA (W.at ob) G H/\lV W.K W.mg ob/\ai (W.at ob) G as d/\(match F2 f as (aF ob) with
 |.ok p s=>∀v b e a,fZ W ob G H b e a->lV W.K W.mg b->aF b=s->Rep (W.at b) e p v->Q v a|.exc c s=>∀g h a,GX W c s ob G H g h a->E g h a|.bad=>False)
structure kj where
 cs:List Str
 ms:List (Str×Str)
 ns:List Str
 fl:List (Str×Str)
 td:List Str:=[]
noncomputable abbrev kj.Sw(a:kj):kj:={a with cs:=[],td:=[]}
structure kh(P:jX)(w:kd)(K:zz8)(mg:Str->Option iv)(base:kA)(W:Wd)(F2:gA)(k:Nat)(f:Str)(fa:i1):Prop where
 ex:∃fd ps,fy P w K mg base (dz P w) k fa fd ps (QC W F2 f ps.length)/\Binds K fd ps []/\∀as s,F2 f as s≠.bad->as.length=ps.length
structure T1(P:jX)(w:kd)(K:zz8)(mg:Str->Option iv)(base:kA)(W:Wd)(F1:Sg->aP)(Γ:Pg)(k:Nat):Prop where
 M:∀ob,mU K mg Γ (W.at ob)
 F:∀ob,lV W.K W.mg ob->∀f,Γ.fs.contains f=ie->jq P w K mg base (W.at ob) (F1 (aF ob)) k f
 H:∀ob,lV W.K W.mg ob->∀q∈Γ.hs,KQ P w K mg base (W.at ob) (F1 (aF ob)) k q
 Q:∀ob,lV W.K W.mg ob->∀f,Γ.qs.contains f=ie->jq P w K mg base (W.at ob) (F1 (aF ob)) 2 f
 A:∀ob,lV W.K W.mg ob->∀g as,F1 (aF ob) g as≠.bad->Γ.fs.contains g=ie\/fq g=ie
 D:∀ob,lV W.K W.mg ob->Hr K (W.at ob) (F1 (aF ob))
 qt:Γ.qt=ig
 hl:Γ.hl=ig
 k2:2<=k
structure KR(P:jX)(w:kd)(K:zz8)(mg:Str->Option iv)(base:kA)(W:Wd)(F2:gA)(Δ:kj)(k:Nat):Prop where
 met:∀c m,Δ.ms.contains (c,m)=ie->∃C fa,mg c=hI (.ref C)/\Meth K C m fa/\kh P w K mg base W F2 k (kS c m) fa
 new:∀c,Δ.ns.contains c=ie->∃C fa j,mg c=hI (.ref C)/\wC K C/\Mk K C fa/\j+1<=k/\kh P w K mg base W F2 j (kS c (zu 6)) fa
 fl:∀c f,Δ.fl.contains (c,f)=ie->∀C,mg c=hI (.ref C)->cI K C f
def Hn(P:jX)(w:kd)(K:zz8)(mg:Str->Option iv)(base:kA)(k:Nat)(f:i1)(H:Hp)(R:VK)(RE:XK):Prop:=
 ∀(X:Cx) (a:lu) (b:St) (s:ix) (Q:VK),X.prog=P->X.w=w->X.K=K->X.mg=mg->X.base=base->dm k X.A->Inv X a b H s->(∀v c,R v c->Q v c)->(∀e d,dz X.prog X.w X.stack H s RE e d->X.xe e d)->zx7 X (call (.ref f) []) (EP X a b Q) X.xe s
abbrev spT(P:jX)(w:kd)(K:zz8)(mg:Str->Option iv)(base:kA)(k:Nat)(W:Wd)(F1:Sg->aP):Sp:=λc H Q Z=>c.length=1/\∃f RE,c=[.ref f]/\(∀h,fw P w H h->PySem.W.FnAt f h)/\Hn P w K mg base k f H Q RE/\
 ∀e g b,RE e g b->∃d C a ob G,e=.ref C/\g=hI a/\d∈W.xs/\W.mg d=hI (.ref C)/\aC G b/\bA (W.at ob) G b/\lV W.K W.mg ob/\(match F1 (aF ob) (zu 5) [.exc d] with
  |.ok p=>∀v i j,aE (W.at ob) G b i j->Rep (W.at ob) i p v->Q v j|_=>False)
def VG(P:jX)(w:kd)(K:zz8)(mg:Str->Option iv)(base:kA)(W:Wd)(F1:Sg->aP)(F2:gA)(Γ:Pg)(b:kj)(k:Nat)(f:Str):Prop:=
 ∃a j fd x,mg f=hI (.ref a)/\PySem.W.keepIn K (.ref a)=ie/\j+3<=k/\fy P w K mg base (dz P w) (j+3) a fd [x] (spT P w K mg base (j+2) W F1)/\Binds K fd [x] []/\T1 P w K mg base W F1 Γ j/\KR P w K mg base W F2 b j
structure eC(W:Wd)(obe:List Ob)(Ge He:Hp)(env:Sl)(σ:St)(s:Sg)(ob:List Ob)(H0 G H:Hp):Prop where
 sr:SR (W.at ob) H0 env σ G H
 u:lV W.K W.mg ob
 n:Ent obe Ge He ob G H0
 s:aF ob=s
 no:env.any Slot.cb=ig
structure QI(X:Cx)(W:Wd)(F2:gA)(k:Nat)(f:Str)(fa:i1):Prop where
 ex:∃fd ps,fy X.prog X.w X.K X.mg X.base (dz X.prog X.w) k fa fd ps (QC W F2 f ps.length)/\Binds X.K fd ps []/\∀as s,F2 f as s≠.bad->as.length=ps.length
structure hV(Γ:Pg)(Δ:kj)(F1:Sg->aP)(F2:gA)(W:Wd)(N:List Str)(sc:kv)(k:Nat)(E:XK)(X:Cx):Prop where
 C:∀ob,lV W.K W.mg ob->e8 Γ (F1 (aF ob)) (W.at ob) N sc k X
 pass:Passes (dz X.prog X.w) X E
 qt:Γ.qt=ig
 K:W.K=X.K
 mg:W.mg=X.mg
 p8:∀f,Δ.cs.contains f=ie->∃fa,X.mg f=hI (.ref fa)/\PySem.W.keepIn X.K (.ref fa)=ie/\QI X W F2 k f fa
 met:∀c m,Δ.ms.contains (c,m)=ie->∃C fa,X.mg c=hI (.ref C)/\Meth X.K C m fa/\QI X W F2 k (kS c m) fa
 new:∀c,Δ.ns.contains c=ie->∃C fa j,X.mg c=hI (.ref C)/\wC X.K C/\Mk X.K C fa/\j+1<=k/\QI X W F2 j (kS c (zu 6)) fa
 fl:∀c f,Δ.fl.contains (c,f)=ie->∀C,X.mg c=hI (.ref C)->cI X.K C f
 td:∀f,Δ.td.contains f=ie->Γ.hl=ie->VG X.prog X.w X.K X.mg X.base W F1 F2 Γ.zI Δ.Sw k f
section
variable{Γ:Pg}{Δ:kj}{W:Wd}{F1:Sg->aP}{F2:gA}{sc:kv}{k:Nat}{E:XK}{obe ob aG:List Ob}{Ge He G' H':Hp}{s:Sg}
def eC.grow(t:zv5 H)(g:aE (W.at ob) G H G' H'):eC W obe Ge He env σ s ob H0 G' H':={t.sr.grow g,t.u,t.n.step (t.sr.on g),t.s,t.no}
def eC.on{s':Sg}(t:zv5 H)(g:fZ W ob G H aG G' H')(u:lV W.K W.mg aG)(e:aF aG=s'):eC W obe Ge He env σ s' aG H' G' H':={t.sr.lN t.no g,u,t.n.on t.sr g,e,t.no}
def bu{b:Type}(W:Wd)(obe:List Ob)(Ge He:Hp)(E:XK)(r:Rs b)(k:b->Sg->Prop):Prop:=match r with
 |.ok a s=>k a s|.exc c s=>∀d e H',GX W c s obe Ge He d e H'->E d e H'|.bad=>False
def bu.bind{b d:Type}{r:Rs b}{f:b->Sg->Rs d}{k:d->Sg->Prop}(h:bu W obe Ge He E (r.bind f) k):bu W obe Ge He E r λa s=>bu W obe Ge He E (f a s) k:=by
 cases r with
 |ok a s=>exact h|exc c s=>exact h|bad=>exact h
def bu.imp{b:Type}{r:Rs b}{k d:b->Sg->Prop}(h:bu W obe Ge He E r k)(i:∀a s,k a s->d a s):bu W obe Ge He E r d:=by
 cases r with
 |ok a s=>exact i a s h|exc c s=>exact h|bad=>exact h
theorem TC(f:Passes (dz X.prog X.w) X E)(t:zv5 H)(h:∀b d H',GX W c s obe Ge He b d H'->E b d H'):uL X (W.at ob) σ c G H:=λg A i j e m I g1 x=>f g σ i j e m I (Hu.imp x λb a H' y=>h b a H' (by let(C,o,G2,p,q,r,z,g2):=y;exact{C,o,ob,G2,p,q,r,z,t.n.fin t.sr.je (t.sr.on (g1.trans g2)),t.u,t.s}))
def cM{b:Type}(e:Passes (dz X.prog X.w) X E)(t:zv5 H){r:Res b}{d:b->Sg->Prop}(h:bu W obe Ge He E (Rs.of r s) d):Out X (W.at ob) r σ G H λa=>d a s:=by
 cases r with
 |ok a=>exact h|exc c=>exact TC e t h|bad=>exact h
abbrev t2(W:Wd)(F1:Sg->aP)(F2:gA)(obe:List Ob)(Ge He:Hp)(E:XK)(x:X2):TE:=λσ H Q=>∃ob H0 G env s,eC W obe Ge He env σ s ob H0 G H/\
 bu W obe Ge He E (bp F1 F2 x env s) λp a=>∀v aG b G' H',eC W obe Ge He env σ a aG b G' H'->fZ W ob G H aG G' H'->Rep (W.at aG) G' p v->Q v H'
abbrev t2s(W:Wd)(F1:Sg->aP)(F2:gA)(obe:List Ob)(Ge He:Hp)(E:XK)(x:uv):TA:=λσ H Q=>∃ob H0 G env s,eC W obe Ge He env σ s ob H0 G H/\
 bu W obe Ge He E (dJ F1 F2 x env s) λb c=>∀a aG d G' H',eC W obe Ge He env σ c aG d G' H'->fZ W ob G H aG G' H'->ai (W.at aG) G' b a->Q a H'
noncomputable abbrev G2(X:Cx)(W:Wd)(F1:Sg->aP)(F2:gA)(obe:List Ob)(Ge He:Hp)(E:XK)(x:X2)(p:i2):Prop:=PE X p (t2 W F1 F2 obe Ge He E x)
noncomputable abbrev KP(X:Cx)(W:Wd)(F1:Sg->aP)(F2:gA)(obe:List Ob)(Ge He:Hp)(E:XK)(x:uv)(p:List i2):Prop:=PA X p (t2s W F1 F2 obe Ge He E x)
def iB(S:zv2 X){e:Ci.E}(a:d7 e=ie)(h:aJ Γ N sc e p=ie):G2 X W F1 F2 obe Ge He E (.pu e) p:=by intro b s σ H Q I c;let(ob,H0,G,env,j,st,o):=c;have d:=st.s;subst d;have f:=S.C ob st.u;refine(bt e f p h).ge b s σ H Q I {H0,G,env,st.sr,?_};unfold bp at o;exact(cM S.pass st o).imp λp i v G' H' g t=>i v ob H0 G' H' (st.grow g) g.lN (t.rep a)
def qN(S:zv2 X)(hr:dm j X.A){m:i1}(cl:QI X W F2 j f m){h:ix}{as:List PV}
 (I:Inv X aa σ H h) (st:zv5 H) (l:ai (W.at ob) G as vs) (r:Vals vs us)
 (o:bu W obe Ge He E (F2 f as s) λp s'=>∀v aG K G' H',eC W obe Ge He env σ s' aG K G' H'->fZ W ob G H aG G' H'->Rep (W.at aG) G' p v->Q v H'):zx7 X (call (.ref m) us) (EP X aa σ Q) X.xe h:=by
 let(fd,pn,L,M,b):=cl.ex;have O:=st.s;subst O;have i:F2 f as (aF ob)≠.bad:=λz=>by rw [z] at o;exact o
 refine zZ (E:=λD F H'=>∃c s',F2 f as (aF ob)=.exc c s'/\GX W c s' ob G H D F H') L hr M (λe s' x=>?_) I r {by rw [l.length];exact b as _ i,ob,G,as,st.sr.sub,st.sr.tab,st.u,l,?_}
 .cases z:F2 f as (aF ob) with
  |ok q s1=>let(a,C',t,vs,H',B,rfl,Fl):=x;let(c,_,d,_):=Fl.ends;rw [z] at d;cases d
  |exc c s1=>rw [z] at o;refine S.pass aa σ H h e s' I (Hu.imp x λP a H' y=>o P a H' ?_);let(c',s2,d,C,R,T,G2,U,Y,Z,h4,g,u,e2):=y;rw [z] at d;cases d;exact{C,R,T,G2,U,Y,Z,h4,(st.n.lN st.sr).trans g,u,e2}
  |bad=>exact absurd z i
 .cases z:F2 f as (aF ob) with
  |ok q s1=>rw [z] at o;exact λv aG G' H' g u e rp=>o v aG _ G' H' (st.on g u e) g rp|exc c s1=>exact λD F H' x=>⟨c,s1,rfl,x⟩|bad=>exact absurd z i
def MM(S:zv2 X){a:Es}{ps:List i2}(hf:Δ.cs.contains f=ie)(A:fA sc f=ie)(B:okN f=ie)(D:hX a=ie)(ha:dt Γ N sc a (p::ps)=ie):G2 X W F1 F2 obe Ge He E (.p8 f a) (.Call (.Name f np) (p::ps) [] pos):=by
 intro F K σ H Q I h;let(ob,H0,G,env,s,st,o):=h;have L:=st.s;subst L;have c:=S.C ob st.u;unfold bp at o;let(P,hm,hk,cl):=S.p8 f hf
 refine wpAny_Call_Name_kw (dS I (cH c A) hm ?_ (ei B).1);cases a with
 |nil=>exact aN ha|cons e a=>
 have w:=ak ha;refine PySem.W.callWith_K (h₀:=X.base) I.ok.mod.Ja hk (bM (hJ (.cons e a) c _ ha pos F K σ H (λd i=>∃b as,aE (W.at ob) G H b i/\ai (W.at ob) b as d/\bu W obe Ge He E (F2 f as (aF ob)) λp y=>∀v aG j G' H',eC W obe Ge He env σ y aG j G' H'->fZ W ob G H aG G' H'->Rep (W.at aG) G' p v->Q v H') I ?_) λR T ⟨d,i,z,r,q⟩=>{z.jZ,?_}) (notStar w.1 _ _) (cE w.2 _ _)
 .exact{H0,G,env,st.sr,(cM S.pass st o.bind).imp λas m d b i g t=>{b,as,g,t.rep D,m}}
 .let(b,as,g,l,o1):=q;exact qN S c.rm cl z (st.grow g) l r (o1.imp λp y m v aG j G' H' t M O=>m v aG j G' H' t (g.lN.trans M) O)
theorem pQ{w:V}:∀{fs:List (Str×PV)} {vs:List V},((fs.map (·.1)).zip vs).lookup m=hI w->∃p,fs.lookup m=hI p
 |[],_,h=>by cases h
 |(g,p)::fs,[],h=>by cases h
 |(g,p)::fs,v::vs,h=>by
  have h:List.lookup m ((g,v)::((fs.map (·.1)).zip vs))=hI w:=h
  rw [hD] at h⊢;cases e:m==g with
  |true=>exact⟨p,rfl⟩|false=>rw [e] at h;exact pQ h
def MP(S:zv2 X){e:Ci.E}{f:Es}{ps:List i2}{i:Pos}(hf:Δ.ms.contains (c,m)=ie)(cA:d7 e=ie)(he:aJ Γ N sc e po=ie)(NK:dU po=ie)(dv:(i.endLine==pos.line)=ie)(Bb:hX f=ie)(ha:dt Γ N sc f ps=ie)(hl:g8 f<30):
 G2 X W F1 F2 obe Ge He E (.met e c m f) (.Call (.Attribute po m i) ps [] pos):=by
 intro M sh σ H Q I h;let(ob,H0,G,env,s,st,o):=h;have e0:=st.s;subst e0;have Z:=S.C ob st.u;unfold bp at o;let(C,fa,hm,O,cl):=S.met c m hf;have UQ:((backTo pos (starEach ps X.env)).all (λx=>!x.1)&&(backToKw pos (keywordEach [] X.env)).all (λx=>x.1.isSome)&&decide (ps.length+([]:List Keyword).length+(if([]:List Keyword).isEmpty then 0 else 1)<30))=ie:=by rw [xk ha];refine Bool.and_eq_true_iff.mpr {rfl,zzh ?_};rw [xE ha];exact hl
 refine EL (fc NK) UQ dv (bM ((bt e Z po he).ge M sh σ H (λv D=>∃n j,aE (W.at ob) G H j D/\Rep (W.at ob) j (.obj n) v/\gE (aF ob) n c=ie/\bu W obe Ge He E ((Rs.of (bw (F1 (aF ob)) f env) (aF ob)).bind λps s=>F2 (kS c m) (.obj n::ps) s) λp F=>∀v aG y G' H',eC W obe Ge He env σ F aG y G' H'->fZ W ob G H aG G' H'->Rep (W.at aG) G' p v->Q v H') I ?_) λu s1 ⟨v,D,P,rv,q⟩=>?_)
 .refine{H0,G,env,st.sr,(cM S.pass st o.bind).imp λp d v j D g t=>?_}
  cases p with
  |obj n=>
   cases hc:gE (aF ob) n c with
   |true=>dsimp only at d;rw [hc,if_pos rfl] at d;exact{n,j,g,t.rep cA,hc,d}|false=>dsimp only at d;rw [hc,if_neg nofun] at d;exact d.elim
  |_=>exact d.elim
 .let(n,j,g,R,q9,o1):=q;have pV:=st.grow g;simp! [Rep] at R;let(b,T,rfl):=R;obtain rfl:u=iv.ref b.a:=rv;let(_,L,hH,l0):=pV.sr.tab.o n b T;have hs:(aF ob)[n]?=hI ⟨b.c,b.fs⟩:=by unfold aF;rw [dk,T];rfl
  have mY:b.c=c/\bC c=ig:=by unfold gE at q9;rw [hs] at q9;have z:=ak q9;exact{zzy.mp z.1,zx6 z.2}
  have iT:=mY.1;let(h1,h2,h3):=st.u.cls n b T (by rw [iT];exact mY.2);rw [nE (by rw [iT];exact mY.2)] at hH;have hC:b.C=C:=by rw [iT,S.mg,hm] at h1;cases h1;rfl
  rw [S.K] at h2 h3;have NL:((b.fs.map (·.1)).zip L).lookup m=h9:=by
   cases z:((b.fs.map (·.1)).zip L).lookup m with
   |none=>rfl|some w=>let(p',Li):=pQ z;have:=h3 m p' Li;rw [cI,hC,O.at_] at this;cases this
  refine xo P hH h2 (by rw [hC];exact O) NL ?_;have run:∀{B:Hp} {U:ix} {us:List iv} {vs:List V} {as:List PV} {G2:Hp},Inv X M σ B U->aE (W.at ob) j D G2 B->ai (W.at ob) G2 as vs->Vals vs us->(bu W obe Ge He E (F2 (kS c m) (.obj n::as) (aF ob)) λp F=>∀v aG y G' H',eC W obe Ge He env σ F aG y G' H'->fZ W ob G H aG G' H'->Rep (W.at aG) G' p v->Q v H')->zx7 X (call (.ref fa) (iv.ref b.a::us)) (EP X M σ Q) X.xe U:=λ{B U us vs as G2} Y g2 l r o2=>by refine qN (vs:=V.ref b.a::vs) (as:=.obj n::as) S Z.rm cl Y (pV.grow g2) (.cons ?_ l) (.cons rfl r) (o2.imp λp F d v aG y G' H' t g' R=>d v aG y G' H' t ((g.trans g2).lN.trans g') R);simp! [Rep];exact⟨b,T,rfl⟩
  cases f with
  |nil=>
   cases ps with
   |cons _ _=>exact aN ha|nil=>refine PySem.W.callWith_K0 (first:=[.ref b.a]) P.jZ O.kp ?_;exact run (us:=[]) (vs:=[]) (as:=[]) P (.refl pV.sr.sub) .nil .nil o1
  |cons e1 f=>
   cases ps with
   |nil=>exact aN ha|cons p ps=>
    have h7:=ak ha;refine PySem.W.callWith_K (first:=[.ref b.a]) (h₀:=X.base) I.ok.mod.Ja O.kp (bM (hJ (.cons e1 f) Z _ ha pos M s1 σ D (λvs B=>∃G2 as,aE (W.at ob) j D G2 B/\ai (W.at ob) G2 as vs/\bu W obe Ge He E (F2 (kS c m) (.obj n::as) (aF ob)) λp F=>∀v aG y G' H',eC W obe Ge He env σ F aG y G' H'->fZ W ob G H aG G' H'->Rep (W.at aG) G' p v->Q v H') P ?_) λus U ⟨vs,B,Y,r,q⟩=>{Y.jZ,?_}) (notStar h7.1 _ _) (cE h7.2 _ _)
    .exact{H0,j,env,pV.sr,(cM S.pass pV o1.bind).imp λas d vs G2 B g t=>{G2,as,g,t.rep Bb,d}}
    .let(G2,as,g2,l,o2):=q;exact run Y g2 l r o2
def ye:(aF ob).length=ob.length:=by unfold aF;rw [zzl]
def kO{o o1:Ob}{n:Nat}(h:(ob++[o1])[n]?=hI o):ob[n]?=hI o\/n=ob.length/\o=o1:=by
 by_cases z:n<ob.length
 .rw [ey z] at h;exact .inl h
 .rw [ez (by lia)] at h;cases e:n-ob.length with
  |zero=>rw [e] at h;cases h;exact .inr {by lia,rfl}
  |succ m=>rw [e] at h;cases h
def EU{x:i1}{o1:Ob}(c:aC G H)(d:H x=h9)(ha:o1.a=x)(l:ai (W.at ob) G (o1.fs.map (·.2)) vs)(hs:aC H H1)(b:H1 x=hI (lR o1 vs)):fZ W ob G H (ob++[o1]) G H1:=by
 have i:An ob (ob++[o1]):=λn o e=>{o,by rw [ey (b4.mp e).1];exact e,rfl,rfl,rfl,rfl};refine{i,.refl _,.of hs,c.trans hs,λZ Z Z h=>h,λt=>{t.t.same (.refl _) (λZ Z Z h=>h) λP g e=>hs P _ e,λn o e=>?_}}
 rcases kO e with z|⟨_,rfl⟩
 .let(b,vs,f,l):=t.o n o z;exact{b,vs,hs _ _ f,ai.at i _ l}
 .exact{by rw [ha];exact c.free d,vs,by rw [ha];exact b,ai.at i _ l}
theorem Lq{o1:Ob}(u:lV W.K W.mg ob)(t:bA (W.at ob) G H)(y:H o1.a=h9)(hm:bC o1.c=ig->W.mg o1.c=hI (.ref o1.C)/\wC W.K o1.C/\o1.fs=[]):lV W.K W.mg (ob++[o1]) where
 inj:=λn m o q A r g=>by
  have no:∀(i:Nat) (p:Ob),ob[i]?=hI p->p.a≠o1.a:=λi p e z=>by let(_,F,d,_):=t.o i p e;rw [z,y] at d;cases d
  rcases kO A with j|⟨j,rfl⟩
  .rcases kO r with b|⟨b,rfl⟩
   .exact u.inj n m o q j b g
   .exact absurd g (no n o j)
  .rcases kO r with b|⟨b,rfl⟩
   .exact absurd g.symm (no m q b)
   .lia
 cls:=λn o e w=>by
  rcases kO e with z|⟨_,rfl⟩
  .exact u.cls n o z w
  .let(B,d,D):=hm w;exact{B,d,λf p h=>by rw [D] at h;cases h}
def rn(S:zv2 X){C t:i1}(hr:dm (j+1) X.A)(M:Mk X.K C t)(hm:X.mg c=hI (.ref C))(L:wC X.K C)(cl:QI X W F2 j (kS c (zu 6)) t){B:ix}{vs:List V}{as:List PV}
 (I:Inv X aa σ H B) (st:zv5 H) (l:ai (W.at ob) G as vs) (r:Vals vs us)
 (o:bu W obe Ge He E (xO F2 c as s) λp s'=>∀v aG O G' H',eC W obe Ge He env σ s' aG O G' H'->fZ W ob G H aG G' H'->Rep (W.at aG) G' p v->Q v H'):zx7 X (call (.ref C) us) (EP X aa σ Q) X.xe B:=by
 let(fd,pn,P,R,a):=cl.ex;have T:=st.s;subst T;refine FU (dvs:=[]) M P hr R .nil S.pass I r λx dx d hd g7=>?_
 unfold xO at o;cases f:bC c with
 |true=>rw [f,if_pos rfl] at o;exact o.elim|false=>
 rw [f,if_neg zzf] at o;have g1:=EU (W:=W) (ob:=ob) (o1:={x,dx,C,c,[]}) (vs:=[]) (H1:=upd (upd H dx (.own x)) x (.ins C dx [])) st.sr.sub d rfl .nil (λb o e=>by rw [ag (λz=>by rw [z,d] at e;cases e),ag (λz=>by rw [z,hd] at e;cases e)];exact e) (by rw [nE f];exact aq);have U:=Lq (o1:={x,dx,C,c,[]}) st.u st.sr.tab d λ_=>{by rw [S.mg];exact hm,by rw [S.K];exact L,rfl};have Y:aF (ob++[{x,dx,C,c,[]}])=aF ob++[{c,[]}]:=by unfold aF;rw [List.map_append];rfl
 have h:F2 (kS c (zu 6)) (.obj (aF ob).length::as) (aF ob++[{c,[]}])≠.bad:=λz=>by rw [z] at o;exact o
 have D:(ob++[{x,dx,C,c,[]}])[ob.length]?=hI {x,dx,C,c,[]}:=by rw [ez (a7 _),Nat.sub_self];rfl
 rw [hF];refine{?_,ob++[{x,dx,C,c,[]}],G,.obj ob.length::as,g1.sub,g1.tab st.sr.tab,U,.cons (by simp! [Rep];exact{_,D,rfl}) (g1.TH l),?_}
 .have:=a _ _ h;rw [c4] at this⊢;rw [l.length];exact this
 .rw [Y];rw [ye] at o;cases z:F2 (kS c (zu 6)) (.obj ob.length::as) (aF ob++[⟨c,[]⟩]) with
  |ok q s1=>
   rw [z] at o;intro v aG G' H' g u e F;have o:bu W obe Ge He E (if zm q then Rs.ok (PV.obj ob.length) s1 else .bad) _:=o
   cases q with
   |aR=>simp! [Rep] at F;refine{F,o (.ref x) aG _ G' H' (st.on (g1.trans g) u e) (g1.trans g) ?_};let(Z,i,m,_):=g.ids _ _ D;simp! [Rep];exact{Z,i,by rw [m]}|_=>exact o.elim
  |exc c1 s1=>rw [z] at o;intro Cv ao H' y;let(C2,a',iY,G2,i,m,h3,h4,g,u,e2):=y;exact o Cv ao H' {C2,a',iY,G2,i,m,h3,h4,(st.n.lN st.sr).trans (g1.trans g),u,e2}|bad=>rw [ye] at h;exact absurd z h
def MQ(S:zv2 X){a:Es}{ps:List i2}(hf:Δ.ns.contains c=ie)(D:fA sc c=ie)(F:okN c=ie)(K:hX a=ie)(ha:dt Γ N sc a ps=ie):G2 X W F1 F2 obe Ge He E (.new c a) (.Call (.Name c np) ps [] pos):=by
 intro L O σ H Q I h;let(ob,H0,G,env,s,st,o):=h;have P:=st.s;subst P;have d:=S.C ob st.u;unfold bp at o;let(C,V,j,hm,w,M,R,cl):=S.new c hf;have hr:dm (j+1) X.A:=d.rm.mono R
 refine wpAny_Call_Name_kw (dS I (cH d D) hm ?_ (ei F).1);cases a with
 |nil=>
  cases ps with
  |cons _ _=>exact aN ha|nil=>refine PySem.W.callWith_K0 I.jZ M.kp ?_;have o1:bu W obe Ge He E (xO F2 c [] (aF ob)) _:=o;exact rn (us:=[]) (vs:=[]) (as:=[]) S hr M hm w cl I st .nil .nil o1
 |cons e a=>
  cases ps with
  |nil=>exact aN ha|cons p ps=>
   have y:=ak ha;refine PySem.W.callWith_K (h₀:=X.base) I.ok.mod.Ja M.kp (bM (hJ (.cons e a) d _ ha pos L O σ H (λvs f=>∃b as,aE (W.at ob) G H b f/\ai (W.at ob) b as vs/\bu W obe Ge He E (xO F2 c as (aF ob)) λp z=>∀v aG i G' H',eC W obe Ge He env σ z aG i G' H'->fZ W ob G H aG G' H'->Rep (W.at aG) G' p v->Q v H') I ?_) λus Y ⟨vs,f,B,r,q⟩=>{B.jZ,?_}) (notStar y.1 _ _) (cE y.2 _ _)
   .exact{H0,G,env,st.sr,(cM S.pass st o.bind).imp λas m vs b f g t=>{b,as,g,t.rep K,m}}
   .let(b,as,g,l,o1):=q;exact rn S hr M hm w cl B (st.grow g) l r (o1.imp λp z m v aG i G' H' t T U=>m v aG i G' H' t (g.lN.trans T) U)
abbrev Bm:uv->Nat
 |.nil=>0|.cons _ xs=>Bm xs+1
theorem oA:∀{xs:uv} {env:Sl} {s s':Sg} {ps:List PV},dJ F1 F2 xs env s=.ok ps s'->ps.length=Bm xs
 |.nil,env,s,s',ps,h=>by unfold dJ at h;cases h;rfl
 |.cons x xs,env,s,s',ps,h=>by
  unfold dJ at h;cases e1:bp F1 F2 x env s with
  |bad=>rw [e1] at h;cases h
  |exc c z=>rw [e1] at h;cases h
  |ok p s1=>
   rw [e1] at h;have h:(dJ F1 F2 xs env s1).bind (λps s=>Rs.ok (p::ps) s)=.ok ps s':=h
   cases a:dJ F1 F2 xs env s1 with
   |bad=>rw [a] at h;cases h
   |exc c z=>rw [a] at h;cases h
   |ok qs s2=>rw [a] at h;cases h;rw [c4,oA a];rfl
theorem Ii:KP X W F1 F2 obe Ge He E .nil []:=L2.PA.imp cC λσ H Q h=>by let(ob,H0,G,env,s,st,o):=h;unfold dJ at o;exact o [] ob H0 G H st (.refl st.sr.sub) .nil
def gR{e:Type}{x:X2}{f:PV->Sg->Rs e}{i:e->Sg->Prop}(st:zv5 H)(o:bu W obe Ge He E ((bp F1 F2 x env s).bind f) i)
 (h:∀p v c a d b H1,eC W obe Ge He env σ c a d b H1->fZ W ob G H a b H1->Rep (W.at a) b p v->bu W obe Ge He E (f p c) i->Q v H1):t2 W F1 F2 obe Ge He E x σ H Q:=
 {ob,H0,G,env,s,st,o.bind.imp λp c j v a d b H1 t g m=>h p v c a d b H1 t g m j}
theorem DF{x:X2}{xs:uv}{ps:List i2}(he:G2 X W F1 F2 obe Ge He E x p)(hs:KP X W F1 F2 obe Ge He E xs ps)(a:starEach (p::ps) X.env=(ig,eval p X.env)::starEach ps X.env):KP X W F1 F2 obe Ge He E (.cons x xs) (p::ps):=
 L2.PA.imp (bx he hs a) λσ H Q h=>by let(ob,H0,G,env,s,st,o):=h;unfold dJ at o;refine gR st o λp v b c d e t f g1 g o1=>{c,d,e,env,b,f,o1.bind.imp λqs u i j m q G2 r t2 g2 l=>?_};exact i (v::j) m q G2 r t2 (g1.trans g2) (.cons (g2.rep g) l)
theorem MS{xs:uv}{ps:List i2}{x1:Nat}(hl:Bm xs<1000)(h:KP X W F1 F2 obe Ge He E xs ps):G2 X W F1 F2 obe Ge He E (.tup xs) (.Tuple ps x1 pos):=
 L2.PE.imp (xZ h) λσ H Q j=>by
  let(ob,H0,G,env,s,st,o):=j
  unfold bp at o;refine{ob,H0,G,env,s,st,?_};cases r:dJ F1 F2 xs env s with
  |bad=>rw [r] at o;exact o|exc c s1=>rw [r] at o;exact o|ok qs s1=>
   rw [r] at o;have a:=oA r;intro b e m f i t g l;have q:b.length<=sizeLine:=by rw [l.length,a,sizeLine_eq];lia
   refine{q,λp u=>?_};have d:aE (W.at e) f i (upd f p (.tup b)) (upd i p (.tup b)):=.new t.sr.sub u;exact o (.ref p) e m _ _ (t.grow d) (g.trans d.lN) (.t (.inl aq) (ai.same d.g _ l))
abbrev QG(W:Wd)(f:PV->PV->Res PV):R2:=λx y H Q=>∃ob,uF (W.at ob) f x y H Q
theorem zL(hK:W.K=X.K)(hu:X.A.units+64<cLine)(o:uu):gB X (compareOp (m8 o)) (QG W (cB o)):=λa s σ H x y v u Q I b c ⟨ob,h⟩=>gU (W:=W.at ob) hK hu o a s σ H x y v u Q I b c h
def bu.val{b:Type}{r:Res b}{d:b->Sg->Prop}(h:bu W obe Ge He E (Rs.of r s) d)(n:∀c,r≠.exc c):∃a,r=.ok a/\d a s:=by
 cases r with
 |ok a=>exact⟨a,rfl,h⟩|exc c=>exact absurd rfl (n c)|bad=>exact h.elim
def Ul{o:uu}{a b:X2}(h:t2 W F1 F2 obe Ge He E (.cmp o a b) σ H Q):QD (QG W (cB o)) (t2 W F1 F2 obe Ge He E a) (t2 W F1 F2 obe Ge He E b) σ H Q:=by let(ob,H0,G,env,s,st,d):=h;unfold bp at d;refine gR st d λp v z A B C D i g1 j o1=>gR i o1 λq u F e f G2 I t2 g2 m o2=>?_;let(r,hr,t):=o2.val (λc=>cR c);refine{e,f,G2,p,q,r,t2.sr.sub,.inl (g2.rep j),.inl m,hr,λw G' H' g y=>?_};exact t w e f G' H' (t2.grow g) ((g1.trans g2).trans g.lN) y
def hV.units(S:zv2 X):X.A.units+64<cLine:=(S.C [] {(λZ Z Z Z h=>nomatch h),(λZ Z h=>nomatch h)}).room.units
def MN(S:zv2 X){o:uu}{a b:X2}{c:i2}(ha:G2 X W F1 F2 obe Ge He E a d)(e:G2 X W F1 F2 obe Ge He E b c)(hm:behindInMarks (m8 o) c=ig):G2 X W F1 F2 obe Ge He E (.cmp o a b) (.Compare d [m8 o] [c] pos):=
 (zP (zL S.K S.units o) ha e hm).imp λσ H Q h=>Ul h
abbrev Uj(W:Wd)(F1:Sg->aP)(F2:gA)(obe:List Ob)(Ge He:Hp)(E:XK)(x:T2):TT:=λσ H Q=>∃ob H0 G env s,eC W obe Ge He env σ s ob H0 G H/\
 bu W obe Ge He E (uA F1 F2 x env s) λb a=>∀aG c G' H',eC W obe Ge He env σ a aG c G' H'->Q b H'
noncomputable abbrev QL(X:Cx)(W:Wd)(F1:Sg->aP)(F2:gA)(obe:List Ob)(Ge He:Hp)(E:XK)(x:T2)(p:i2):Prop:=PT X p (Uj W F1 F2 obe Ge He E x)
def Nt(S:zv2 X){e:Ci.E}(c:gk e=ie)(h:aJ Γ N sc e p=ie):QL X W F1 F2 obe Ge He E (.pu e) p:=by
 intro d s σ H Q I f;let(ob,H0,G,env,m,st,o):=f;have i:=st.s;subst i;have j:=S.C ob st.u;refine(bt e j p h).gt c d s σ H Q I {H0,G,env,st.sr,?_};unfold uA at o;refine(cM S.pass st o.bind).imp λp a=>?_
 cases p with
 |bl b=>exact{b,rfl,λG' H' g=>a ob H0 G' H' (st.grow g)}|_=>exact a.elim
def Uh{x:X2}{Q:Bool->Hp->Prop}(h:∃ob H0 G env s,eC W obe Ge He env σ s ob H0 G H/\bu W obe Ge He E ((bp F1 F2 x env s).bind UJ) λb s'=>∀aG c G' H',eC W obe Ge He env σ s' aG c G' H'->Q b H'):tB (t2 W F1 F2 obe Ge He E x) σ H Q:=by
 let(ob,H0,G,env,s,st,o):=h;refine gR st o λp v j d e f g i g1 a o1=>?_
 cases p with
 |bl b=>simp! [Rep] at a;exact{b,a,o1 d e f g i}|_=>exact o1.elim
theorem IG(S:zv2 X){o:uu}{a b:X2}{c:i2}(ha:G2 X W F1 F2 obe Ge He E a d)(f:G2 X W F1 F2 obe Ge He E b c)(hm:behindInMarks (m8 o) c=ig):QL X W F1 F2 obe Ge He E (.cmp o a b) (.Compare d [m8 o] [c] pos):=
 (zT (zL S.K S.units o) ha f hm).imp λσ H Q h=>by let(ob,H0,G,env,s,st,e):=h;unfold uA at e;exact Ul (Uh ⟨ob,H0,G,env,s,st,e⟩)
noncomputable abbrev FX:XK:=λZ Z Z=>False
def Rs.aK{e g:Type}{r:Rs e}{f:e->Sg->Rs g}{b:g}{s':Sg}(h:r.bind f=.ok b s'):∃a d,r=.ok a d/\f a d=.ok b s':=by
 cases r with
 |ok a d=>exact⟨a,d,rfl,h⟩|exc c d=>cases h
 |bad=>cases h
def Rs.nN{d:Type}{r:Rs d}{b:d}{s':Sg}(h:r.well=.ok b s'):r=.ok b s':=by
 cases r with
 |ok a s1=>exact h|exc c s1=>cases h
 |bad=>cases h
def Rs.of_ok{d:Type}{r:Res d}{b:d}{s s':Sg}(h:Rs.of r s=.ok b s'):r=.ok b/\s'=s:=by
 cases r with
 |ok a=>cases h;exact⟨rfl,rfl⟩
 |exc c=>cases h
 |bad=>cases h
theorem kG{f:PV->Sg->Rs PV}:∀(l:List PV) (s:Sg) (c:Str) (s':Sg),bK f l s≠.exc c s'
 |[],s,c,s',h=>by cases h
 |x::l,s,c,s',h=>by
  unfold bK at h;cases e:f x s with
  |ok y s1=>
   rw [e] at h;have h:(bK f l s1).bind (λys a=>Rs.ok (y::ys) a)=.exc c s':=h
   cases b:bK f l s1 with
   |ok ys a=>rw [b] at h;cases h
   |exc d a=>exact kG l s1 d a b|bad=>rw [b] at h;cases h
  |exc _ _=>rw [e] at h;cases h
  |bad=>rw [e] at h;cases h
theorem qP{f:PV->Sg->Rs PV}:∀{ps:List PV} {s m s':Sg} {all g:List PV} {i:Nat} {x:PV},bK f ps s=.ok all m->bK f (ps.take i) s=.ok g s'->ps[i]?=hI x->∃y a,f x s'=.ok y a/\bK f (ps.take (i+1)) s=.ok (g++[y]) a
 |[],_,_,_,_,_,_,_,_,_,h=>by simp at h|p::ps,s,m,s',all,g,0,x,c,b,j=>by simp at j;subst j;unfold bK at c;let(y,a,e1,c):=Rs.aK c;have e1:=Rs.nN e1;have b:Rs.ok [] s=Rs.ok g s':=b;cases b;refine{y,a,e1,?_};show(f p s).well.bind _=_;rw [e1];rfl
 |p::ps,s,m,s',all,g,i+1,x,c,b,j=>by unfold bK at c;let(y,a,e1,c):=Rs.aK c;have e1:=Rs.nN e1;let(d,e,o,_):=Rs.aK c;have b:(f p s).well.bind (λy a=>(bK f (ps.take i) a).bind λd e=>Rs.ok (y::d) e)=.ok g s':=b;rw [e1] at b;let(q,A,r,b):=Rs.aK (show(bK f (ps.take i) a).bind (λd e=>Rs.ok (y::d) e)=.ok g s' from b);cases b;let(t,u,w,z):=qP o r (zx6 j);refine{t,u,w,?_};show(f p s).well.bind (λy a=>(bK f (ps.take (i+1)) a).bind λd e=>Rs.ok (y::d) e)=_;rw [e1];show(bK f (ps.take (i+1)) a).bind (λd e=>Rs.ok (y::d) e)=_;rw [z];rfl
theorem og{f:PV->Sg->Rs PV}:∀{ps:List PV} {s s':Sg} {a:List PV},bK f ps s=.ok a s'->a.length=ps.length
 |[],s,s',a,h=>by cases h;rfl
 |p::ps,s,s',a,h=>by unfold bK at h;let(y,c,e1,h):=Rs.aK h;let(d,e,b,h):=Rs.aK h;cases h;rw [c4,c4,og b]
def rR(h:∀s∈env,s.cb=ig):env.any Slot.cb=ig:=by rw [List.any_eq_false];exact λs m z=>by rw [h s m] at z;cases z
def EV(h:env.any Slot.cb=ig)(s:Slot)(m:s∈env):s.cb=ig:=by
 rw [List.any_eq_false] at h;cases z:s.cb with
 |false=>rfl|true=>exact absurd z (h s m)
def tY(h:env.any Slot.cb=ig)(i:Nat)(p:PV):(env.set i (.val p)).any Slot.cb=ig:=rR λs m=>by
 rcases List.mem_or_eq_of_mem_set m with z|rfl
 .exact EV h s z
 .rfl
def FN{a:Sl}{b:Tg}{p:PV}(h:env.any Slot.cb=ig)(e:b.put p env=.ok a):a.any Slot.cb=ig:=by
 unfold Tg.put at e;split at e
 .cases e;exact tY h _ _
 .cases e;exact tY (tY h _ _) _ _
 .cases e
theorem yN(h:env.any Slot.cb=ig)(k:Nat)(a:List Nat):(ll k Slot.no++eO env a).any Slot.cb=ig:=rR λs m=>by
 rcases List.mem_append.mp m with z|z
 .rw [List.eq_of_mem_replicate z];rfl
 .unfold eO at z;let(i,_,rfl):=fP.mp z
  rw [cW];cases e:env[i]? with
  |none=>rfl|some s=>exact EV h s (a6 e)
structure CW2(W:Wd)(obe:List Ob)(Ge He:Hp)(env:Sl)(σ:St)(s:Sg)(ob:List Ob)(G H:Hp)(vd:Sl)(f:PV->Sg->Rs PV)(ps:List PV)(i:Nat)(ys:List V)(σ':St)(H':Hp):Prop where
 le:i<=ps.length
 ex:∃aG G' Vt Vs zs s',eC W obe Ge He env σ s' aG Vt G' H'/\eC W obe Ge He vd σ' s' aG Vs G' H'/\fZ W ob G H aG G' H'/\bK f (ps.take i) s=.ok zs s'/\ai (W.at aG) G' zs ys
def C5(S:zv2 X){b:Nat}{d:List Nat}{D:Tg}{m:X2}{ys:List Str}(eE:mz b D=ie)(hs:d.map (λi=>N[i]?)=ys.map hI)(nd:ys.Nodup){J:It}{e:Hp}
 (pV:eC W obe Ge He env σ s ob H0 e H1) (bV:rP (W.at ob) J e e ps) (j:bu W obe Ge He E (if ps.length<bT then(bK (λx s=>(Rs.of (D.put x (ll b .no++eO env d)) s).bind λr s=>bp F1 F2 m r s) ps s).bind λys s=>.ok (.lst ys) s else .bad) λp s'=>∀v aG O G' H',eC W obe Ge He env σ s' aG O G' H'->fZ W ob e H1 aG G' H'->Rep (W.at aG) G' p v->Q v H'):
 KO J b (gT X.K D) (t2 W F1 F2 obe Ge He FX m) (Bf σ d) Q H1:=by
 by_cases wF:¬ps.length<bT
 .rw [if_neg wF] at j;exact j.elim
 have hl:=Decidable.not_not.mp wF;rw [if_pos hl] at j;generalize hf:(λ(x:PV) (s:Sg)=>(Rs.of (D.put x (ll b .no++eO env d)) s).bind λr s=>bp F1 F2 m r s)=f at j
 cases t:bK f ps s with
 |bad=>rw [t] at j;exact j.elim|exc c s1=>exact absurd t (kG _ _ _ _)|ok all sf=>
  rw [t] at j;have fin:∀v aG O G' H',eC W obe Ge He env σ sf aG O G' H'->fZ W ob e H1 aG G' H'->Rep (W.at aG) G' (.lst all) v->Q v H':=j;have P:eC W obe Ge He (ll b .no++eO env d) (ll b h9++Bf σ d) s ob H0 e H1:={pF b pV.sr hs nd,pV.u,pV.n,pV.s,yN pV.no b d};refine{ps.length,CW2 W obe Ge He env σ s ob e H1 (ll b .no++eO env d) f ps,{Nat.zero_le _,ob,e,H0,H0,[],s,pV,P,.refl pV.sr.sub,rfl,.nil},?_}
  rintro i made σ' H' ⟨hi,aG,G',Vt,Vs,zs,s',w,si,F,I,l⟩
  have Qx:zs.length=i:=by rw [og I,List.length_take];lia
  refine{by rw [l.length,Qx];exact d2 hi (d3 hl ↑2),?_};have Z3:aC e G':=F.g;let(R,T):=bV i G' H' Z3 (i8.of (Z3.trans w.sr.sub)) w.sr.sub;by_cases a:i=ps.length
  .refine .inl {R a,λp hp=>?_};rw [a,List.take_length,t] at I;cases I;have U:aE (W.at aG) G' H' (upd G' p (.lst made)) (upd H' p (.lst made)):=.new w.sr.sub hp;exact fin (.ref p) aG Vt _ _ (w.grow U) (F.trans U.lN) (.l (.inl (.inl aq)) (ai.same U.g _ l))
  .have L:i<ps.length:=by lia
   let(D0,A):=T ps[i] (zzg L);refine .inr {D0,L,λx js hy=>?_};let(V,B,rx):=A x js hy;have M:aE (W.at aG) G' H' V js:=⟨B.g,B.h,B.sub,B.own,B.tb⟩;have XU:Rep (W.at aG) V ps[i] x:=Rep.at F.ids _ rx;let(y,s1,ho,o):=qP t I (zzg L);rw [<-hf] at ho;let(r,s2,Y,Z):=Rs.aK ho;let(Cg,z):=Rs.of_ok Y;subst z;have so2:=w.grow M;have C:=si.grow M;refine l4 (W:=W.at aG) S.K Cg C.sr XU λσ2 lU=>?_;refine{aG,Vs,V,r,s2,{lU,C.u,C.n,C.s,FN C.no Cg},?_};rw [Z];intro v iY uH G2 H2 q lN rv;refine{L,iY,G2,_,uH,_,s1,so2.on lN q.u q.s,{i6 eE Cg q.sr,q.u,q.n,q.s,yN pV.no b d},F.trans (M.lN.trans lN),o,?_};exact((M.lN.trans lN).TH l).append (.cons rv .nil)
def C6(S:zv2 X){c:Nat}{d:List Nat}{e:Tg}{it b:X2}{ys:List Str}(r:mz c e=ie)(hs:d.map (λi=>N[i]?)=ys.map hI)(nd:ys.Nodup)
 (st:zv5 H) (o:bu W obe Ge He E (bp F1 F2 (.oj c d e it b) env s) λp s'=>∀v aG f G' H',eC W obe Ge He env σ s' aG f G' H'->fZ W ob G H aG G' H'->Rep (W.at aG) G' p v->Q v H'):
 Gi (Lj X.K (t2 W F1 F2 obe Ge He E it)) c (gT X.K e) (t2 W F1 F2 obe Ge He FX b) d σ H Q:=by
 unfold bp at o;refine{ob,H0,G,env,s,st,o.bind.imp λp A h v u B C D j g1 m=>?_}
 cases p with
 |lst xs=>simp! [Rep] at m;let(a,w,rfl,q,y):=m;exact{a,rfl,{w,wG S.K (i8.ls (.of j.sr.sub) q)},C5 S r hs nd j (sQ (W:=W.at u) S.K q y) (bu.imp h λp s' z v aG f G' H' t g rv=>z v aG f G' H' t (g1.trans g) rv)}|_=>exact h.elim
def k7{n:Nat}{o:Ob}{fs':List (Str×PV)}{vs':List V}(t:bA (W.at ob) G H)(I:aC G H)(u:lV W.K W.mg ob)(e:ob[n]?=hI o)(l:ai (W.at ob) G (fs'.map (·.2)) vs')(L:bC o.c=ie\/∀f p,fs'.lookup f=hI p->cI W.K o.C f):
 fZ W ob G H (ob.set n {o with fs:=fs'}) G (upd H o.a (lR {o with fs:=fs'} vs'))/\lV W.K W.mg (ob.set n {o with fs:=fs'}):=by
 have A:n<ob.length:=(b4.mp e).1;let(B,i,M,_):=t.o n o e
 have at_:∀(m:Nat) (d:Ob),(ob.set n {o with fs:=fs'})[m]?=hI d->(m=n/\d={o with fs:=fs'})\/(m≠n/\ob[m]?=hI d):=λm d h=>by
  by_cases hm:n=m
  .subst hm;rw [eu A] at h;cases h;exact .inl ⟨rfl,rfl⟩
  .rw [dX hm] at h;exact .inr {λz=>hm z.symm,h}
 have ids:An ob (ob.set n {o with fs:=fs'}):=λm d h=>by
  by_cases hm:n=m
  .subst hm;rw [e] at h;cases h;exact{_,eu A,rfl,rfl,rfl,rfl}
  .exact{d,by rw [dX hm];exact h,rfl,rfl,rfl,rfl}
 refine{{ids,.refl _,λb x h=>?_,λb x h=>?_,λ_ _ _ h=>h,λ_=>{λP q m=>?_,λm d h=>?_}},{λm1 m2 o1 o2 j r O=>?_,λm d h w=>?_}}
 .by_cases D:b=o.a
  .subst D;exact{_,aq,λ_ Q=>sY _ _ Q}
  .exact{x,by rw [ag D];exact h,id}
 .rw [ag (λz=>by rw [z,B] at h;cases h)];exact I _ _ h
 .let(R,F,y,S,T):=t.t P q m;exact{R,F,by rw [ag (λz=>by rw [z,M] at y;exact zK o i F (zzq y))];exact y,S,T}
 .rcases at_ m d h with⟨rfl,rfl⟩|⟨hm,g⟩
  .exact{B,vs',aq,ai.at ids _ l}
  .let(j,i,r,U):=t.o m d g;have:d.a≠o.a:=λz=>hm (u.inj m n d o g e z);exact{j,i,by rw [ag this];exact r,ai.at ids _ U}
 .have back:∀(m:Nat) (d:Ob),(ob.set n {o with fs:=fs'})[m]?=hI d->∃o2,ob[m]?=hI o2/\o2.a=d.a:=λm d h=>by
   rcases at_ m d h with⟨rfl,rfl⟩|⟨_,g⟩
   .exact⟨o,e,rfl⟩
   .exact⟨d,g,rfl⟩
  let(Y,Z,r1):=back _ _ j;let(p2,q2,r2):=back _ _ r;exact u.inj m1 m2 Y p2 Z q2 (by rw [r1,r2];exact O)
 .rcases at_ m d h with⟨rfl,rfl⟩|⟨_,g⟩
  .let(c1,c2,c3):=u.cls _ o e w;exact{c1,c2,L.resolve_left λz=>by rw [show bC o.c=ig from w] at z;cases z}
  .exact u.cls m d g w
def pA{n:Nat}{o:Ob}{l:List (Str×PV)}:aF (ob.set n {o with fs:=l})=(aF ob).set n ⟨o.c,l⟩:=by unfold aF;rw [List.map_set]
def zj(h:Ck c=ie):bC c=ie:=by unfold bC;rw [h,Bool.or_true]
def zg(h:Bh c=ie):bC c=ie:=by unfold bC;rw [h,Bool.true_or]
def Sz(h:Ck c=ie):Bh c=ig:=by unfold Ck at h;rw [zzy.mp h];rfl
def oY{o:Ob}(h:Ck o.c=ie):lR o vs=.lst vs:=by unfold lR;rw [Sz h,h];rfl
def oX{o:Ob}(h:Bh o.c=ie):lR o vs=.dK (kz (o.fs.map (·.1)) vs):=by unfold lR;rw [h];rfl
def iq{d:Type}{q:Str->Bool}{p:PV}{f:Nat->OS->Rs d}{a:d->Sg->Prop}(h:bu W obe Ge He E (ff (aF ob) q p f) a):∃n o,p=.obj n/\ob[n]?=hI o/\q o.c=ie/\bu W obe Ge He E (f n ⟨o.c,o.fs⟩) a:=by
 cases p with
 |obj n=>
  have h:bu W obe Ge He E (match(aF ob)[n]? with|some o=>(if q o.c then f n o else .bad)|none=>.bad) a:=h
  cases e:ob[n]? with
  |none=>
   have:(aF ob)[n]?=h9:=by unfold aF;rw [dk,e];rfl
   rw [this] at h;exact h.elim
  |some o=>
   have:(aF ob)[n]?=hI ⟨o.c,o.fs⟩:=by unfold aF;rw [dk,e];rfl
   rw [this] at h;cases b:q o.c with
   |true=>have h:bu W obe Ge He E (if q o.c then f n ⟨o.c,o.fs⟩ else .bad) a:=h;rw [b,if_pos rfl] at h;exact⟨n,o,rfl,e,b,h⟩
   |false=>have h:bu W obe Ge He E (if q o.c then f n ⟨o.c,o.fs⟩ else .bad) a:=h;rw [b,if_neg zzf] at h;exact h.elim
 |_=>exact h.elim
def i4{n:Nat}{o:Ob}(h:Rep (W.at ob) G (.obj n) v)(e:ob[n]?=hI o):v=.ref o.a:=by simp! [Rep] at h;let(c,b,rfl):=h;have b:ob[n]?=hI c:=b;rw [e] at b;cases b;rfl
def Eb{n:Nat}{o o2:Ob}(i:An ob aG)(e:ob[n]?=hI o)(d:aG[n]?=hI o2):o2.a=o.a/\o2.c=o.c:=by let(h,b,f,_,_,g):=i n o e;rw [d] at b;cases b;exact⟨f,g⟩
def fN{e:Ci.E}:bp F1 F2 (.pu e) env s=Rs.of (az (F1 s) e env) s:=by unfold bp;rfl
def H9(S:zv2 X){a:Ci.E}{x:X2}{b z:Pos}(C:d7 a=ie)(ha:aJ Γ N sc a po=ie)(D:G2 X W F1 F2 obe Ge He E x p)(I:dU po=ie)(K:(b.endLine==z.line)=ie)(j:∀env ps,starEach (p::ps) env=(ig,eval p env)::starEach ps env):
 G2 X W F1 F2 obe Ge He E (.uM a x) (.Call (.Attribute po "append" b) [p] [] z):=
 L2.PE.imp (vS PySem.F.plainAttrs_list PySem.F.slot_list_append PySem.F.type_list_append rA (iB S C ha) (bx D cC (j _ _)) (fc I) (by rw [j];rfl) K (j _ _) rfl) λσ H Q h=>by
  let(ob,H0,G,env,s,st,o):=h;unfold bp at o;rw [<-fN (F2:=F2)] at o;refine gR st o λp v Y Z ik G1 H1 m g1 L o1=>?_;have M:=m.s;subst M;let(n,o,rfl,r,hk,o2):=iq o1;cases i4 L r;let(_,vs,A,_):=m.sr.tab.o n o r;rw [oY hk] at A;refine{.inl {rfl,_,il.of A},gR m o2 λq u s2 iY uH G2 H2 t2 g2 O P=>?_};have R:=t2.s;subst R;let(n',f,e,c,d,t):=iq P;cases e;let(T,ec):=Eb g2.ids r c;let(_,g,i,B):=t2.sr.tab.o n f c;rw [oY d] at i;split at t
  .rename_i hl;have w:g.length=f.fs.length:=by rw [B.length,zzl]
   let(y,U):=k7 (fs':=f.fs++[(("":Str),q)]) (vs':=g++[u]) t2.sr.tab t2.sr.sub t2.u c (by rw [List.map_append];exact B.append (.cons O .nil)) (.inl (zj d));refine{f.a,g,u,by rw [T],rfl,i,by rw [w];exact d3 hl ↑2,?_};have V:lR {f with fs:=f.fs++[(("":Str),q)]} (g++[u])=.lst (g++[u]):=oY d;rw [V] at y;exact t .aR _ _ G2 _ (t2.on y U pA) ((g1.trans g2).trans y) .n
  .exact t.elim
theorem Ih(S:zv2 X){a:Ci.E}{b t:Pos}(y:d7 a=ie)(ha:aJ Γ N sc a po=ie)(z:dU po=ie)(A:(b.endLine==t.line)=ie):
 G2 X W F1 F2 obe Ge He E (.x6 a) (.Call (.Attribute po "pop" b) [] [] t):=
 L2.PE.imp (OV PySem.F.plainAttrs_list PySem.F.slot_list_pop PySem.F.type_list_pop Of (iB (obe:=obe) (Ge:=Ge) (He:=He) S y ha) (fc z) A) λσ H Q h=>by
  let(ob,H0,G,env,s,st,o):=h;unfold bp at o;rw [<-fN (F2:=F2)] at o;refine gR st o λp v M g O w P e g1 B o1=>?_;have C:=e.s;subst C;let(n,o,rfl,j,hk,o2):=iq o1;cases i4 B j;let(_,d,m,l):=e.sr.tab.o n o j
  rw [oY hk] at m;refine{.inl {rfl,_,il.of m},?_};cases r:o.fs[o.fs.length-1]? with
  |none=>
   have o2:bu W obe Ge He E (match o.fs[o.fs.length-1]? with|some p=>Rs.ok p.2 ((aF g).set n ⟨o.c,o.fs.dropLast⟩)|none=>.bad) _:=o2;rw [r] at o2;exact o2.elim
  |some q=>
   have o2:bu W obe Ge He E (match o.fs[o.fs.length-1]? with|some p=>Rs.ok p.2 ((aF g).set n ⟨o.c,o.fs.dropLast⟩)|none=>.bad) _:=o2;rw [r] at o2;have D:d.length=o.fs.length:=by rw [l.length,zzl]
   let(u,hu,I):=l.sH (i:=d.length-1) (p:=q.2) (by rw [D,dk,r];rfl);have ld:ai (W.at g) w (o.fs.dropLast.map (·.2)) d.dropLast:=by rw [List.map_dropLast,List.dropLast_eq_take,List.dropLast_eq_take,l.length];exact l.take _
   let(f,K):=k7 (fs':=o.fs.dropLast) (vs':=d.dropLast) e.sr.tab e.sr.sub e.u j ld (.inl (zj hk));have L:lR {o with fs:=o.fs.dropLast} d.dropLast=.lst d.dropLast:=oY hk;rw [L] at f;exact{o.a,d,u,rfl,rfl,m,hu,o2 u _ _ w _ (e.on f K pA) (g1.trans f) (f.rep I)}
def ou{fs:List (Str×PV)}:(fj z fs).map (·.1)=fO (fs.map (·.1)) z/\(fj z fs).map (·.2)=bO (fs.map (·.1)) (fs.map (·.2)) z:=by have h:=vb z (ks:=fs.map (·.1)) (us:=fs.map (·.2)) (by simp);unfold fj;exact{List.map_fst_zip (Nat.le_of_eq h),List.map_snd_zip (Nat.le_of_eq h.symm)}
def rF{p:PV}{fs:List (Str×PV)}:(putD z p fs).map (·.1)=eM (fs.map (·.1)) z/\(putD z p fs).map (·.2)=cQ (fs.map (·.1)) (fs.map (·.2)) z p:=by have h:=o9 (ks:=fs.map (·.1)) (us:=fs.map (·.2)) (by simp) z p;unfold putD;exact{List.map_fst_zip (Nat.le_of_eq h),List.map_snd_zip (Nat.le_of_eq h.symm)}
def DE(S:zv2 X){a y:Ci.E}{K:i2}{f L:Pos}(O:d7 a=ie)(ha:aJ Γ N sc a po=ie)(P:d7 y=ie)(hk:aJ Γ N sc y K=ie)(R:dU po=ie)(T:(f.endLine==L.line)=ie):
 G2 X W F1 F2 obe Ge He E (.qV a y) (.Call (.Attribute po "pop" f) [K] [] L):=
 L2.PE.imp (Fg (iB (obe:=obe) (Ge:=Ge) (He:=He) S O ha) (iB (obe:=obe) (Ge:=Ge) (He:=He) S P hk) {fc R,by rw [notStar hk];rfl,T,by rw [notStar hk];rfl}) λσ H Q h=>by
  let(ob,H0,G,env,s,st,o):=h;unfold bp at o;rw [<-fN (F2:=F2)] at o;refine gR st o λp v s1 cj ik G1 H1 A g1 U o1=>?_;have V:=A.s;subst V;let(n,o,rfl,B,hk,o2):=iq o1;cases i4 U B;let(_,vs,M,_):=A.sr.tab.o n o B;rw [oX hk] at M;rw [<-fN (F2:=F2)] at o2;refine{o.a,rfl,.inl {_,.inl M},gR A o2 λq u s2 m uH G2 H2 t2 g2 C Y=>?_};have Z:=t2.s;subst Z;let(n',b,e,g,i,d):=iq Y;cases e;let(ea,ec):=Eb g2.ids B g;let(_,r,j,D):=t2.sr.tab.o n b g;rw [oX i] at j;have hl:(b.fs.map (·.1)).length=r.length:=by rw [D.length,zzl,zzl]
  cases F:eG q with
  |none=>
   have d:bu W obe Ge He E (match eG q with|some z=>(match bW (b.fs.map (·.1)) (b.fs.map (·.2)) z with|some p=>Rs.ok p ((aF m).set n {b.c,fj z b.fs})|none=>.bad)|none=>.bad) _:=d;rw [F] at d;exact d.elim
  |some z=>
   have d:bu W obe Ge He E (match eG q with|some z=>(match bW (b.fs.map (·.1)) (b.fs.map (·.2)) z with|some p=>Rs.ok p ((aF m).set n {b.c,fj z b.fs})|none=>.bad)|none=>.bad) _:=d
   rw [F] at d;rw [fF F] at C;simp! [gP,Rep] at C;subst C;cases I:bW (b.fs.map (·.1)) (b.fs.map (·.2)) z with
   |none=>
    have d:bu W obe Ge He E (match bW (b.fs.map (·.1)) (b.fs.map (·.2)) z with|some p=>Rs.ok p ((aF m).set n {b.c,fj z b.fs})|none=>.bad) _:=d;rw [I] at d;exact d.elim
   |some p=>
    have d:bu W obe Ge He E (match bW (b.fs.map (·.1)) (b.fs.map (·.2)) z with|some p=>Rs.ok p ((aF m).set n {b.c,fj z b.fs})|none=>.bad) _:=d;rw [I] at d;let(w,hw,fY):=lM D I;let(t,u2):=k7 (fs':=fj z b.fs) (vs':=bO (b.fs.map (·.1)) r z) t2.sr.tab t2.sr.sub t2.u g (by rw [ou.2];exact ox D) (.inl (zg i));have ho:lR {b with fs:=fj z b.fs} (bO (b.fs.map (·.1)) r z)=.dK (gh (kz (b.fs.map (·.1)) r) (ki z)):=by rw [oX (o:={b with fs:=fj z b.fs}) i,zv z hl];show HO.dK (kz ((fj z b.fs).map (·.1)) _)=_;rw [ou.1]
    rw [ho] at t;rw [<-ea];exact{_,ki z,w,j,rfl,by rw [iG];exact hw,d w _ _ G2 _ (t2.on t u2 pA) ((g1.trans g2).trans t) (t.rep fY)}
def nC{b:Prop}(st:zv5 H){fs:List (Str×PV)}{vs:List V}{p:i1}{d:PV->Sg->Prop}(a:H p=h9)(e:bC c=ie)(l:ai (W.at ob) G (fs.map (·.2)) vs)(o:bu W obe Ge He E (xN c fs s) d)
 (h:∀aG,eC W obe Ge He env σ (s++[⟨c,fs⟩]) aG (upd H p (lR {p,0,0,c,fs} vs)) G (upd H p (lR {p,0,0,c,fs} vs))->fZ W ob G H aG G (upd H p (lR {p,0,0,c,fs} vs))->Rep (W.at aG) G (.obj s.length) (.ref p)->d (.obj s.length) (s++[⟨c,fs⟩])->b):b:=by
 have f:=st.s;subst f;have g1:=EU (W:=W) (ob:=ob) (o1:={p,0,0,c,fs}) (vs:=vs) (H1:=upd H p (lR {p,0,0,c,fs} vs)) st.sr.sub a rfl l (bj a) aq;have g:=Lq (o1:={p,0,0,c,fs}) st.u st.sr.tab a λz=>by rw [show bC c=ig from z] at e;cases e
 refine h (ob++[{p,0,0,c,fs}]) (st.on g1 g (by unfold aF;rw [List.map_append];rfl)) g1 ?_ o;simp! [Rep];refine{{p,0,0,c,fs},?_,rfl};show(ob++[_])[(aF ob).length]?=_;rw [ye,ez (a7 _),Nat.sub_self];rfl
theorem Ic(S:zv2 X):G2 X W F1 F2 obe Ge He E .AS (.Dict [] [] pos):=
 L2.PE.imp vT λσ H Q h=>by let(ob,H0,G,env,s,st,o):=h;unfold bp at o;intro p a;exact nC st a (c:="#d") (fs:=[]) (vs:=[]) (by rfl) .nil o λaG t g r q=>q _ _ _ _ _ t g r
def Ia(S:zv2 X){a:Ci.E}(j:fA sc "dict"=ie)(hm:Γ.bs.contains "dict"=ie)(m:d7 a=ie)(ha:aJ Γ N sc a d=ie):G2 X W F1 F2 obe Ge He E (.AN a) (.Call (.Name "dict" np) [d] [] pos):=by have e:=S.C [] {(λZ Z Z Z h=>nomatch h),(λZ Z h=>nomatch h)};refine L2.PE.imp (dQ wZ (cH e j) (e.bs _ (et.mp hm)) ↑1 (bx (iB (obe:=obe) (Ge:=Ge) (He:=He) S m ha) cC (notStar ha _ _)) (he:=notStar ha _ _) (hpl:=rfl)) λσ H Q h=>?_;let(ob,H0,G,env,s,st,o):=h;unfold bp at o;rw [<-fN (F2:=F2)] at o;refine gR st o λp v z A B D F b g1 u o1=>?_;have w:=b.s;subst w;let(n,o,rfl,f,hk,o2):=iq o1;cases i4 u f;let(_,vs,i,l):=b.sr.tab.o n o f;rw [oX hk] at i;refine{o.a,_,rfl,.inl i,λp y=>?_};rw [show HO.dK (kz (o.fs.map (·.1)) vs)=lR {p,0,0,"#d",o.fs} vs from(oX (o:={p,0,0,"#d",o.fs}) rfl).symm];exact nC b y (c:="#d") (fs:=o.fs) (vs:=vs) (by rfl) l o2 λaG t g r q=>q _ _ _ _ _ t (g1.trans g) r
def Ie(S:zv2 X){a:Ci.E}(j:fA sc "list"=ie)(hm:Γ.bs.contains "list"=ie)(m:d7 a=ie)(ha:aJ Γ N sc a d=ie):G2 X W F1 F2 obe Ge He E (.xC a) (.Call (.Name "list" np) [d] [] pos):=by have e:=S.C [] {(λZ Z Z Z h=>nomatch h),(λZ Z h=>nomatch h)};refine L2.PE.imp (dQ rX (cH e j) (e.bs _ (et.mp hm)) ↑1 (bx (iB (obe:=obe) (Ge:=Ge) (He:=He) S m ha) cC (notStar ha _ _)) (he:=notStar ha _ _) (hpl:=rfl)) λσ H Q h=>?_;let(ob,H0,G,env,s,st,o):=h;unfold bp at o;rw [<-fN (F2:=F2)] at o;refine gR st o λp v z A B D F b g1 u o1=>?_;have w:=b.s;subst w;let(n,o,rfl,f,hk,o2):=iq o1;cases i4 u f;let(_,vs,i,l):=b.sr.tab.o n o f;rw [oY hk] at i;refine{o.a,_,rfl,.inl (il.of i),λp y=>?_};rw [show HO.lst vs=lR {p,0,0,"#l",o.fs} vs from(oY (o:={p,0,0,"#l",o.fs}) rfl).symm];exact nC b y (c:="#l") (fs:=o.fs) (vs:=vs) (by rfl) l o2 λaG t g r q=>q _ _ _ _ _ t (g1.trans g) r
theorem Ig(S:zv2 X){xs:uv}{ps:List i2}(hl:Bm xs<1000)(h:KP X W F1 F2 obe Ge He E xs ps):G2 X W F1 F2 obe Ge He E (.vC xs) (.List ps pos):=
 L2.PE.imp (Fj h) λσ H Q b=>by
  let(ob,H0,G,env,s,st,o):=b
  unfold bp at o;refine{ob,H0,G,env,s,st,?_};cases r:dJ F1 F2 xs env s with
  |bad=>rw [r] at o;exact o|exc c s1=>rw [r] at o;exact o|ok qs s1=>rw [r] at o;have a:=oA r;intro vs i j m u t g l;refine{by rw [l.length,a,sizeLine_eq];lia,λp d=>?_};exact nC t d (c:="#l") (fs:=qs.map λp=>(("":Str),p)) (vs:=vs) (by rfl) (by rw [List.map_map];exact(List.map_id qs).symm▸l) o λaG e f r q=>q _ _ _ _ _ e (g.trans f) r
def RJ(S:zv2 X){xs:uv}{ps:List i2}(hf:Γ.fs.contains f=ie)(D:fA sc f=ie)(F:okN f=ie)(ha:KP X W F1 F2 obe Ge He E xs (p::ps))
 (L:starEach (p::ps) X.env=(ig,eval p X.env)::starEach ps X.env) (hpl:(backTo pos (starEach ps X.env)).any (·.1)=ig):G2 X W F1 F2 obe Ge He E (.c1 f xs) (.Call (.Name f np) (p::ps) [] pos):=by
 intro M O σ H Q I h;let(ob,H0,G,env,s,st,o):=h;unfold bp at o;obtain⟨e,hm,hk⟩:∃e,X.mg f=hI (.ref e)/\PySem.W.keepIn X.K (.ref e)=ie:=by let(e,_,_,_,hm,hk,_):=((S.C ob st.u).fns f hf).ex;exact⟨e,hm,hk⟩
 refine wpAny_Call_Name_kw (dS I (cH (S.C ob st.u) D) hm ?_ (ei F).1);refine PySem.W.callWith_K (h₀:=X.base) I.ok.mod.Ja hk (bM (ha pos M O σ H (λw m=>∃a i b c as,eC W obe Ge He env σ c a i b m/\fZ W ob G H a b m/\ai (W.at a) b as w/\bu W obe Ge He E (Rs.of (F1 c f as) c) λp P=>∀v aG R G' H',eC W obe Ge He env σ P aG R G' H'->fZ W ob G H aG G' H'->Rep (W.at aG) G' p v->Q v H') I {ob,H0,G,env,s,st,?_}) λus c ⟨w,m,y,r,q⟩=>{y.jZ,?_}) L hpl
 .exact o.bind.imp λas c ha w a i b m t g l=>⟨a,i,b,c,as,t,g,l,ha⟩
 .let(a,i,b,T,as,d,g1,l,o1):=q;have U:=d.s;subst U;have A:=S.C a d.u;let(V,fd,pn,Y,B,Z,hb,j):=(A.fns f hf).ex;rw [hm] at B;cases B;have o2:=cM S.pass d o1;exact kD (W:=W.at a) A.rm Y hb (λz=>by rw [l.length];exact j as z) y d.sr.sub d.sr.tab l r (o2.imp λp hp v G' H' g rv=>hp v a i G' H' (d.grow g) (g1.trans g.lN) rv)
def Ib(S:zv2 X){x:X2}(A:fA sc "dict"=ie)(hm:Γ.bs.contains "dict"=ie)(B:G2 X W F1 F2 obe Ge He E x p)(u:∀env ps,starEach (p::ps) env=(ig,eval p env)::starEach ps env):G2 X W F1 F2 obe Ge He E (.dict x) (.Call (.Name "dict" np) [p] [] pos):=by
 have d:=S.C [] {(λZ Z Z Z h=>nomatch h),(λZ Z h=>nomatch h)};refine L2.PE.imp (dQ (uS (d.calm S.qt) (by have:=S.units;lia)) (cH d A) (d.bs _ (et.mp hm)) ↑1 (bx B cC (u _ _)) (he:=u _ _) (hpl:=rfl)) λσ H Q h=>?_;let(ob,H0,G,env,s,st,o):=h;unfold bp at o;refine gR st o λq v V e D w f i g1 F o1=>?_
 cases b:g6 [q] with
 |exc c=>
  exfalso;unfold g6 at b;split at b
  .rcases Res.dY b with z|⟨_,_,z⟩
   .exact Res.aO c z
   .cases z
  .cases b
 |bad=>rw [b] at o1;exact o1.elim|ok r=>rw [b] at o1;let(y,qs,rfl,a,I,L,M,O,pw,j,P,R,T):=u6 (W:=W.at e) (X:=X) (H0:=f) S.K i.sr.sub (.cons (.inl F) .nil) b;refine{a,I,L,M,O,pw,λad m U=>?_};rw [T];have t:aE (W.at e) w f (upd w ad (.bV m (.dK (kz y j)))) (upd f ad (.bV m (.dK (kz y j)))):=.new i.sr.sub U;refine o1 (.ref ad) e D _ _ (i.grow t) (g1.trans t.lN) ?_;simp! [Rep];exact{ad,m,j,rfl,P,aq,ai.same t.g _ R}
abbrev tt1(W:Wd)(F1:Sg->aP)(obe:List Ob)(Ge He:Hp)(E:XK)(c:Ci.E):TT:=λσ H Q=>∃ob H0 G env s,eC W obe Ge He env σ s ob H0 G H/\
 bu W obe Ge He E (Rs.of (az (F1 s) c env) s) λp Z=>∃b,p=.bl b/\∀G' H',aE (W.at ob) G H G' H'->Q b H'
def Nr(S:zv2 X){e:Ci.E}(a:gk e=ie)(h:aJ Γ N sc e p=ie):PT X p (tt1 W F1 obe Ge He E e):=by intro b s σ H Q I c;let(ob,H0,G,env,i,st,o):=c;have d:=st.s;subst d;have f:=S.C ob st.u;refine(bt e f p h).gt a b s σ H Q I {H0,G,env,st.sr,?_};exact(cM S.pass st o).imp λp g=>g
theorem MO(S:zv2 X){c:Ci.E}{a b:X2}{j m u:i2}(e:gk c=ie)(z:aJ Γ N sc c j=ie)(ha:G2 X W F1 F2 obe Ge He E a m)(A:G2 X W F1 F2 obe Ge He E b u):G2 X W F1 F2 obe Ge He E (.ite c a b) (.IfExp j m u pos):=
 L2.PE.imp (vU (Nr (obe:=obe) (Ge:=Ge) (He:=He) S e z) ha A) λσ H Q h=>by
  let(ob,H0,G,env,s,st,o):=h
  unfold bp at o;refine{ob,H0,G,env,s,st,?_};cases r:az (F1 s) c env with
  |bad=>rw [r] at o;exact o.elim|exc d=>rw [r] at o;exact o|ok q=>
   rw [r] at o;cases q with
   |bl t=>
    refine{t,rfl,λw y g1=>?_};have o:bu W obe Ge He E (if t then bp F1 F2 a env s else bp F1 F2 b env s) _:=o
    cases t with
    |true=>rw [if_pos rfl] at o;show t2 W F1 F2 obe Ge He E a σ y Q;exact{ob,H0,w,env,s,st.grow g1,o.imp λp B f v aG i G' H' t g rv=>f v aG i G' H' t (g1.lN.trans g) rv}|false=>rw [if_neg zzf] at o;show t2 W F1 F2 obe Ge He E b σ y Q;exact{ob,H0,w,env,s,st.grow g1,o.imp λp B f v aG i G' H' t g rv=>f v aG i G' H' t (g1.lN.trans g) rv}
   |_=>exact o.elim
end
def LU(W:Wd)(obe:List Ob)(Ge He:Hp)(D:Ends):Fl->Sg->Prop
 |.nx env,s=>∀a ob H0 G H,eC W obe Ge He env a s ob H0 G H->D.nx a H|.bk env,s=>∀a ob H0 G H,eC W obe Ge He env a s ob H0 G H->D.bk a H|.ct env,s=>∀a ob H0 G H,eC W obe Ge He env a s ob H0 G H->D.ct a H|.rt p,s=>∀v ob G H,Rep (W.at ob) G p v->fZ W obe Ge He ob G H->lV W.K W.mg ob->aF ob=s->D.rt v H
abbrev tS2(W:Wd)(F1:Sg->aP)(F2:gA)(obe:List Ob)(Ge He:Hp)(E:XK)(st:S2):TS:=λD a H=>∃ob b G env s,eC W obe Ge He env a s ob b G H/\bu W obe Ge He E (eQ F1 F2 st env s) (LU W obe Ge He D)
abbrev P4(W:Wd)(F1:Sg->aP)(F2:gA)(obe:List Ob)(Ge He:Hp)(E:XK)(st:pX):TS:=λD a H=>∃ob b G env s,eC W obe Ge He env a s ob b G H/\bu W obe Ge He E (cO F1 F2 st env s) (LU W obe Ge He D)
noncomputable abbrev CA(X:Cx)(W:Wd)(F1:Sg->aP)(F2:gA)(obe:List Ob)(Ge He:Hp)(E:XK)(x:S2)(p:k6):Prop:=PS X p (tS2 W F1 F2 obe Ge He E x)
noncomputable abbrev wJ(X:Cx)(W:Wd)(F1:Sg->aP)(F2:gA)(obe:List Ob)(Ge He:Hp)(E:XK)(x:pX)(p:List k6):Prop:=qE X p (P4 W F1 F2 obe Ge He E x)
section
variable{Γ:Pg}{Δ:kj}{W:Wd}{F1:Sg->aP}{F2:gA}{sc:kv}{k:Nat}{E:XK}{obe ob aG:List Ob}{Ge He G' H':Hp}{s:Sg}
theorem hV.block(S:zv2 X){b:kv}{q:Nat}{r:List Nat}{xs:List Str}(h:nQ N sc b q r xs)(fp:List i1)(p:ix)(H1:Hp)(A:i1):hV Γ.zI Δ F1 F2 W (xs++freeOf b) (dy b sc) k FX (cV X (xs++freeOf b) b (cw X.env (freeOf b)) fp p H1 A) where
 C:=λob u=>kH (S.C ob u) h fp p H1 A
 pass:=λD σ H s e L I x=>by let(a,C,t,M,H',B,rfl,F):=x;exact F.ends.elim
 qt:=S.qt
 K:=S.K
 mg:=S.mg
 p8:=λf h=>by let(d,g,i,o):=S.p8 f h;exact{d,g,i,⟨o.ex⟩}
 met:=λc m h=>by let(C,d,g,i,o):=S.met c m h;exact{C,d,g,i,⟨o.ex⟩}
 new:=λc h=>by let(C,d,j,g,i,o,w,y):=S.new c h;exact{C,d,j,g,i,o,w,⟨y.ex⟩}
 fl:=S.fl
 td:=λf Z z=>nomatch z
abbrev MG:i2->Bool
 |.Call .. =>ie|_=>ig
def RI(h:MG p=ie)(env:Env):∀x,foldedSetIterable p env x=pure x:=by
 intro x;cases p<;>first|rfl|(exact aN h)
def DC(S:zv2 X){f:Nat}{i:List Nat}{d:Tg}{it b:X2}{c j r:i2}{a:kv}{pos:Pos}(h:nQ N sc a f i (aV c))(t:mz f d=ie)(m:MG j=ie)(w:G2 X W F1 F2 obe Ge He E it j)
 (y:fB (aV c++freeOf a) (dy a sc) (qm a) d c=ie) (he:∀Y,hV Γ.zI Δ F1 F2 W (aV c++freeOf a) (dy a sc) k FX Y->G2 Y W F1 F2 obe Ge He FX b r):G2 X W F1 F2 obe Ge He E (.oj f i d it b) (.ListComp r [{c,j,[],0}] a pos):=by
 intro B D σ H Q I F;let(ob,H0,G,env,s,st,o):=F;have L:=st.s;subst L;have e:=S.C ob st.u;have M:(freeOf a).Nodup:=(List.nodup_append.mp h.nd).2.1;have rd:=C6 (N:=N) S t h.slots M st o
 have:=zQ (g:=gT X.K d) (te:=t2 W F1 F2 obe Ge He FX b) (xs:=aV c) (ys:=freeOf a) (is:=i) (pos:=pos) (e.calm S.qt) (xa e.hN e.fQ I.ok h) (tH w)
  (λfp p q A=>BJ (fn:=qm a) (X:=cV X (aV c++freeOf a) a (cw X.env (freeOf a)) fp p q A) rfl h.nd (iK e.fQ) rfl (λZ z=>z) y)
  (λfp p q A=>he _ (S.block h fp p q A)) (RI m _) B D σ H Q I
 rw [h.len] at this;exact this rd
structure Cu(Γ:Pg)(Δ:kj)(F1:Sg->aP)(F2:gA)(W:Wd)(N:List Str)(sc:kv)(k:Nat)(E:XK)(X:Cx):Prop where
 C:zv2 X
 S:∀ob,lV W.K W.mg ob->fG Γ (F1 (aF ob)) (W.at ob) N sc k E X
def sZ{K:zz8}:lV K mg []:={(λZ Z Z Z h=>nomatch h),(λZ Z h=>nomatch h)}
def Cu.s0(S:Cu Γ Δ F1 F2 W N sc k E X):fG Γ (F1 (aF [])) (W.at []) N sc k E X:=S.S [] sZ
def RN(S:Cu Γ Δ F1 F2 W N sc k E X){st:Ci.S}{p:k6}(h:gb Γ N sc st p=ie):CA X W F1 F2 obe Ge He E (.p st) p:=by
 intro i j σ H D I m;let(ob,H0,G,env,s,t,o):=m;have w:=t.s
 subst w;refine TQ (H0:=H0) (S.S ob t.u) S.C.qt st p h i j σ H D I {G,env,t.sr,?_};unfold eQ at o;cases r:dq (F1 (aF ob)) st env with
 |bad=>rw [r] at o;exact o|exc c=>rw [r] at o;intro y z H' x;let(C,a,G',A,B,F,K,g):=x;exact o y z H' {C,a,ob,G',A,B,F,K,t.n.fin t.sr.je g,t.u,rfl}|ok f=>
  rw [r] at o;cases f with
  |nx b=>
   have o:bu W obe Ge He E (Rs.of (if b.any Slot.cb then Res.bad else .ok (.nx b)) (aF ob)) (LU W obe Ge He D):=o
   cases d:b.any Slot.cb with
   |true=>rw [d,if_pos rfl] at o;exact o.elim|false=>rw [d,if_neg zzf] at o;exact λe G' H' sr g=>o e ob H0 G' H' {sr,t.u,t.n.step g,rfl,d}
  |bk b=>exact o.elim|ct b=>exact o.elim|rt q=>exact λv G' H' rv g=>o v ob G' H' rv (t.n.fin t.sr.je g) t.u rfl
def yc{p:PV}(i:Nat)(t:zv5 H)(h:Rep (W.at ob) G p v):eC W obe Ge He (env.set i (.val p)) (σ.set i (hI v)) s ob H0 G H:={t.sr.set i h,t.u,t.n,t.s,tY t.no i p}
def IA(S:Cu Γ Δ F1 F2 W N sc k E X){i:Nat}{e:X2}{a:Pos}(h:N[i]?=hI x)(hl:jc sc x=ie)(he:G2 X W F1 F2 obe Ge He E e p)(hs:swapsWith p (hI (.Name x a)) pos.line X.env=pure ig):CA X W F1 F2 obe Ge He E (.set i e) (.Assign [.Name x a] p pos):=by let(b,a2,c):=km S.s0 h hl;refine L2.PS.imp (tO b a2 c he hs (.inl (S.s0.fn x))) λD σ H h=>?_;let(ob,H0,G,env,s,t,o):=h;unfold eQ at o;exact gR t o λp v r d f g j m g1 q o1=>o1 _ d f g j (yc i m q)
theorem Ni{e:X2}(he:G2 X W F1 F2 obe Ge He E e p)(hn:dP p=ie):CA X W F1 F2 obe Ge He E (.ex e) (.Expr p pos):=
 L2.PS.imp (tK he (gY hn)) λD σ H h=>by let(ob,H0,G,env,s,t,o):=h;unfold eQ at o;exact gR t o λp v g a b c d f g1 i o1=>o1 σ a b c d f
theorem Iz{e:X2}(he:G2 X W F1 F2 obe Ge He E e p):CA X W F1 F2 obe Ge He E (.ret e) (.Return (hI p) pos):=
 L2.PS.imp (tM he) λD σ H h=>by let(ob,H0,G,env,s,t,o):=h;unfold eQ at o;exact gR t o λp v g b i c d a g1 f o1=>o1 v b c d f (a.n.lN a.sr) a.u a.s
theorem Iw{c:T2}{a b:pX}{e f:List k6}(m:QL X W F1 F2 obe Ge He E c p)(ha:wJ X W F1 F2 obe Ge He E a e)(q:wJ X W F1 F2 obe Ge He E b f):CA X W F1 F2 obe Ge He E (.ite c a b) (.If p e f pos):=
 L2.PS.imp (Ly m ha q) λD σ H h=>by
  let(ob,H0,G,env,s,t,o):=h;unfold eQ at o;refine{ob,H0,G,env,s,t,o.bind.imp λb g d aG i G' H' j=>?_}
  cases b with
  |true=>rw [if_pos rfl] at d⊢;exact⟨aG,i,G',env,g,j,d⟩|false=>rw [if_neg zzf] at d⊢;exact⟨aG,i,G',env,g,j,d⟩
theorem DS:wJ X W F1 F2 obe Ge He E .nil []:=L2.qE.imp tP λD σ H h=>by let(ob,H0,G,env,s,t,o):=h;unfold cO at o;exact o σ ob H0 G H t
theorem A7{x:S2}{xs:pX}{p:k6}{ps:List k6}(b:CA X W F1 F2 obe Ge He E x p)(c:wJ X W F1 F2 obe Ge He E xs ps):wJ X W F1 F2 obe Ge He E (.cons x xs) (p::ps):=
 L2.qE.imp (vW b c) λD σ H h=>by
  let(ob,H0,G,env,s,t,o):=h;unfold cO at o;refine{ob,H0,G,env,s,t,o.bind.imp λf d hf=>?_}
  cases f with
  |nx a=>exact λe g i G2 j t2=>⟨g,i,G2,a,d,t2,hf⟩|bk a=>exact hf|ct a=>exact hf|rt q=>exact hf
def Iy(S:Cu Γ Δ F1 F2 W N sc k E X){i:Nat}{y:Str}{f g:Pos}{xs:uv}{a b:i2}{kt pt e u}(z:N[i]?=hI x)(A:N[j]?=hI y)(B:i≠j)(F:x≠y)(K:g.line=f.line)(h:sc.names.lookup x=hI .local)(m:sc.names.lookup y=hI .local)(L:Fd a b=ie)
 (ga:KP X W F1 F2 obe Ge He E xs [a,b]):CA X W F1 F2 obe Ge He E (.par i j xs) (.Assign [.Tuple [.Name x f,.Name y g] kt pt] (.Tuple [a,b] e u) pos):=by
 have c:=S.s0.C;intro M O σ H D I P;refine FI (c.calm S.C.qt) (by rw [c.hN];exact c.nd) (by rw [c.hN];exact z) (by rw [c.hN];exact A) B (by rw [c.fQ];exact h) (by rw [c.fQ];exact m) ga (Gh I.ok.kind (by rw [c.fQ];exact h) (by rw [c.fQ];exact m) K F L) rfl M O σ H D I ?_;let(ob,H0,G,env,s,t,o):=P;unfold eQ at o;refine{ob,H0,G,env,s,t,o.bind.imp λQ s1 o1 vs R T U V Y g1 d=>?_}
 match Q,d,o1 with
 |[],_,o1=>exact o1.elim|[_],_,o1=>exact o1.elim|_::_::_::_,_,o1=>exact o1.elim|[p,q],d,o1=>
  let(v,r,rfl,Z,d):=d.bo;let(w,r2,rfl,hw,d):=d.bo;have:=d.length
  cases r2 with
  |cons _ _=>cases this
  |nil=>exact{v,w,rfl,o1 _ R T U V (yc j (yc i Y Z) hw)}
theorem vX{p:PV}:∀{fs:List (Str×PV)} {vs:List V},ai (W.at ob) G (fs.map (·.2)) vs->Rep (W.at ob) G p v->∃vs',gW f v ((fs.map (·.1)).zip vs)=((mj f p fs).map (·.1)).zip vs'/\ai (W.at ob) G ((mj f p fs).map (·.2)) vs'
 |[],vs,l,h=>by simp! [List.map_nil,ai] at l;subst l;exact{[v],rfl,.cons h .nil}|(g,q)::fs,vs,l,h=>by
  let(u,r,rfl,c,b):=ai.bo (p:=q) (ps:=fs.map (·.2)) l;show∃vs',(if g=f then(g,v)::((fs.map (·.1)).zip r) else(g,u)::gW f v ((fs.map (·.1)).zip r))=((if g=f then(g,p)::fs else(g,q)::mj f p fs).map (·.1)).zip vs'/\ai (W.at ob) G ((if g=f then(g,p)::fs else(g,q)::mj f p fs).map (·.2)) vs';by_cases a:g=f
  .rw [if_pos a,if_pos a];exact{v::r,rfl,.cons h b}
  .rw [if_neg a,if_neg a];let(vs',d,e):=vX b h;exact{u::vs',by rw [d];rfl,.cons c e}
theorem mO{p:PV}:∀{fs:List (Str×PV)},(mj f p fs).lookup g=hI q->g=f\/fs.lookup g=hI q
 |[],h=>by
  have h:List.lookup g [(f,p)]=hI q:=h
  rw [hD] at h;cases e:g==f with
  |true=>exact .inl (zzy.mp e)|false=>rw [e] at h;cases h
 |(a,b)::fs,h=>by
  unfold mj at h;by_cases ha:a=f
  .rw [if_pos ha,hD] at h;rw [hD];cases e:g==a with
   |true=>exact .inl ((zzy.mp e).trans ha)|false=>rw [e] at h;exact .inr h
  .rw [if_neg ha,hD] at h;rw [hD];cases e:g==a with
   |true=>rw [e] at h;exact .inr h|false=>rw [e] at h;exact mO h
def KL{a b:Type}{xs:List a}{ys:List b}:(xs.zip ys).length<=xs.length:=by rw [List.length_zip];exact Nat.min_le_left _ _
def Lu{o:Ob}(h:bC o.c=ig):lR o vs=.ins o.C o.dx ((o.fs.map (·.1)).zip vs):=nE h
def Ml{n:Nat}(h:gE (aF ob) n c=ie):∃o,ob[n]?=hI o/\o.c=c/\bC o.c=ig:=by
 unfold gE at h;cases e:ob[n]? with
 |none=>
  have:(aF ob)[n]?=h9:=by unfold aF;rw [dk,e];rfl
  rw [this] at h;cases h
 |some o=>
  have:(aF ob)[n]?=hI ⟨o.c,o.fs⟩:=by unfold aF;rw [dk,e];rfl
  rw [this] at h;have b:=ak h;have a:=zzy.mp b.1;dsimp only at a;exact{o,rfl,a,by rw [a];simpa using b.2}
def DO(S:Cu Γ Δ F1 F2 W N sc k E X){f:Str}{i:Nat}{e:X2}{p:i2}{ap:Pos}(T:(N[i]?==hI x&&ke sc x&&okN x)=ie)(U:Δ.fl.contains (c,f)=ie)(he:G2 X W F1 F2 obe Ge He E e p)(hn:dP p=ie):
 CA X W F1 F2 obe Ge He E (.mw c i f e) (.Assign [.Attribute (.Name x np) f ap] p pos):=by
 refine L2.PS.imp (O6 (iB (F2:=F2) (obe:=obe) (Ge:=Ge) (He:=He) (e:=.var i) (p:=.Name x np) S.C rfl ?_) he (gY hn)) λD σ H h=>?_
 .unfold aJ;exact T
 let(ob,H0,G,env,s,t,o):=h;unfold eQ at o;refine gR t o λq y s1 d V Y H1 L g1 Z o1=>?_;have j:=L.s
 subst j;have B:∃n,env[i]?=hI (.val (.obj n))/\gE (aF d) n c=ie/\bu W obe Ge He E ((BS (aF d) n f q).bind λ_ s=>.ok (.nx env) s) (LU W obe Ge He D):=by
  cases j:env[i]? with
  |none=>rw [j] at o1;exact o1.elim|some sl=>
   rw [j] at o1;cases sl with
   |val r=>
    cases r with
    |obj n=>
     dsimp only at o1;cases w:gE (aF d) n c with
     |true=>rw [w,if_pos rfl] at o1;exact⟨n,rfl,w,o1⟩|false=>rw [w,if_neg zzf] at o1;exact o1.elim
    |_=>exact o1.elim
   |_=>exact o1.elim
 let(n,j,w,o2):=B;let(F,eo,rfl,A):=Ml w
 have ev:bp F1 F2 (.pu (.var i)) env (aF d)=.ok (.obj n) (aF d):=by
  rw [fN];have:az (F1 (aF d)) (.var i) env=mS env[i]?:=by unfold az;rfl
  rw [this,j];rfl
 refine{d,V,Y,env,aF d,L,?_};rw [ev];intro v M uH G2 H2 t2 g2 rv;simp! [Rep] at rv;let(b,m,rfl):=rv;have m:M[n]?=hI b:=m;have hs:(aF M)[n]?=hI ⟨b.c,b.fs⟩:=by unfold aF;rw [dk,m];rfl
 have UW:(aF d)[n]?=hI ⟨F.c,F.fs⟩:=by unfold aF;rw [dk,eo];rfl
 have O:b.c=F.c:=by rw [t2.s,UW] at hs;exact(congrArg OS.c (zzq hs)).symm
 have I:bC b.c=ig:=by rw [O];exact A
 let(_,vs,P,l):=t2.sr.tab.o n b m;rw [Lu I] at P;let(c1,c2,c3):=t2.u.cls n b m I;have Q:cI X.K b.C f:=S.C.fl _ f U b.C (by rw [<-S.C.mg,<-O];exact c1);rw [<-t2.s] at o2;unfold BS at o2;rw [hs] at o2;dsimp only at o2;by_cases hl:b.fs.length<1000
 .rw [if_pos hl] at o2;let(vs',e5,l'):=vX (f:=f) l (g2.rep Z)
  let(R,u2):=k7 (fs':=mj f q b.fs) (vs':=vs') t2.sr.tab t2.sr.sub t2.u m l' (.inr λg p hg=>by
   rcases mO hg with rfl|z
   .rw [S.C.K];exact Q
   .exact c3 g p z)
  have ho:lR {b with fs:=mj f q b.fs} vs'=.ins b.C b.dx (gW f y ((b.fs.map (·.1)).zip vs)):=by rw [Lu (o:={b with fs:=mj f q b.fs}) I,e5]
  rw [ho] at R;refine{b.a,b.C,b.dx,_,rfl,P,by rw [<-S.C.K];exact c2,Q,?_,?_}
  .refine d2 KL ?_;rw [zzl];exact hl
  .exact o2 σ _ _ G2 _ (t2.on R u2 pA)
 .rw [if_neg hl] at o2;exact o2.elim
def DN(S:Cu Γ Δ F1 F2 W N sc k E X){a j e:Ci.E}{L:i2}{sp:Pos}(R:d7 a=ie)(ha:aJ Γ N sc a po=ie)(T:d7 j=ie)(hk:aJ Γ N sc j L=ie)(m:d7 e=ie)(he:aJ Γ N sc e p=ie)(hn:dP p=ie):
 CA X W F1 F2 obe Ge He E (.BM a j e) (.Assign [.Subscript po L sp] p pos):=by
 refine L2.PS.imp (JU (by have:=S.C.units;lia) (iB (F2:=F2) (obe:=obe) (Ge:=Ge) (He:=He) S.C R ha) (iB (F2:=F2) (obe:=obe) (Ge:=Ge) (He:=He) S.C T hk) (iB (F2:=F2) (obe:=obe) (Ge:=Ge) (He:=He) S.C m he) (gY hn)) λD σ H h=>?_;let(ob,H0,G,env,s,t,o):=h;unfold eQ at o;rw [<-fN (F2:=F2)] at o;refine gR t o λq v s1 cj ik G1 H1 U g1 V o1=>?_;rw [<-fN (F2:=F2)] at o1;refine gR U o1 λr u s2 iY uH G2 H2 t2 g2 Y o2=>?_;rw [<-fN (F2:=F2)] at o2;refine gR t2 o2 λz w s3 y Qf M H3 g O rz Z=>?_;have e3:=g.s;subst e3;let(n,b,rfl,A,B,f):=iq Z.bind;cases i4 (O.rep Y) A;let(_,i,P,l):=g.sr.tab.o n b A;rw [oX B] at P;have hl:(b.fs.map (·.1)).length=i.length:=by rw [l.length,zzl,zzl]
 cases F:eG z with
 |none=>
  have f:bu W obe Ge He E (match eG z with|some z=>(if b.fs.length<bT then Rs.ok PV.aR ((aF y).set n {b.c,putD z q b.fs}) else .bad)|none=>.bad) _:=f;rw [F] at f;exact f.elim
 |some d=>
  have f:bu W obe Ge He E (match eG z with|some z=>(if b.fs.length<bT then Rs.ok PV.aR ((aF y).set n {b.c,putD z q b.fs}) else .bad)|none=>.bad) _:=f;rw [F] at f;dsimp only at f;rw [fF F] at rz;simp! [gP,Rep] at rz;subst rz;by_cases I:b.fs.length<bT
  .rw [if_pos I] at f;have K:Rep (W.at y) M q v:=O.rep (g2.rep V);let(Q,u2):=k7 (fs':=putD d q b.fs) (vs':=cQ (b.fs.map (·.1)) i d v) g.sr.tab g.sr.sub g.u A (by rw [rF.2];exact tU l K) (.inl (zg B));have ho:lR {b with fs:=putD d q b.fs} (cQ (b.fs.map (·.1)) i d v)=.dK (putK (kz (b.fs.map (·.1)) i) (ki d) v):=by rw [oX (o:={b with fs:=putD d q b.fs}) B,xB hl];show HO.dK (kz ((putD d q b.fs).map (·.1)) _)=_;rw [rF.1]
   rw [ho] at Q;refine{b.a,_,rfl,wI.k (k:=ki d) P (by rw [iF hl,zzl];exact d3 I ↑2),?_};exact f σ _ _ M _ (g.on Q u2 pA)
  .rw [if_neg I] at f;exact f.elim
def Ent.trans{c:List Ob}{d:Hp}(n:Ent obe Ge He ob G H0)(m:Ent ob G H0 c d H1):Ent obe Ge He c d H1:={n.ids.trans m.ids,n.g.trans m.g,n.h.trans m.h,λa b e f=>m.own a (n.h.has b) (n.h.ji b e) (n.own a b e f)}
def Ent.comp(n:Ent obe Ge He ob G H0)(t:bA (W.at ob) G H0)(g:fZ W ob G H0 aG G' H'):fZ W obe Ge He aG G' H':={n.ids.trans g.ids,n.g.trans g.g,n.h.trans g.h,g.sub,λa b c d=>g.own a (n.h.has b) (n.h.ji b c) (n.own a b c d),λZ=>g.tab t}
def GX.comp{b:iv}{d:Option i1}(n:Ent obe Ge He ob G H0)(t:bA (W.at ob) G H0)(x:GX W c s ob G H0 b d H'):GX W c s obe Ge He b d H':=by let(C,a,aG,G',e,f,h,i,g,u,j):=x;exact{C,a,aG,G',e,f,h,i,n.comp t g,u,j}
def Iv(S:Cu Γ Δ F1 F2 W N sc k E X){U:Tg}{b:pX}{cN i3:i2}{pb:List k6}(Ea:fB N sc (λ_=>ie) U cN=ie)(hit:AZ it=ie)(hi:uV Γ N sc cN it i3=ie)(hb:∀obe Ge He,wJ X W F1 F2 obe Ge He E b pb):CA X W F1 F2 obe Ge He E (.eS U it b) (.For cN i3 pb [] pos):=by
 intro aa sh σ H D I h;let(ob,H0,G,env,s,t,o):=h;have e0:=t.s;subst e0;have T:=S.C.C ob t.u;unfold eQ at o;have RY:qE X pb (λD σ H=>∃obe Ge He,P4 W F1 F2 obe Ge He E b D σ H):=λaa s σ H D I ⟨obe,Ge,He,q⟩=>hb obe Ge He aa s σ H D I q;refine FH S.s0.own (T.calm S.C.qt) (Ka it T cN i3 hi) (BJ (fn:=λ_=>ie) T.hN T.nd T.fQ (T.calm S.C.qt) (λx _=>S.s0.fn x) Ea) RY (nv hi _) aa sh σ H D I {H0,G,env,t.sr,(cM S.C.pass t o.bind).imp λd iU J B H1 g1 gi=>?_};have bV:=gi.bV hit;generalize hf:(λ(x:PV) (env:Sl) (s:Sg)=>(Rs.of (U.put x env) s).bind λa s=>cO F1 F2 b a s)=f at iU;have F:=t.grow g1;have tr:eC W ob B H0 env σ (aF ob) ob H0 B H1:={F.sr,F.u,.refl,rfl,F.no};have V:=F.sr.je;refine{λi m L H'=>i<=d.length/\m=d.length-i/\∃aG dB G' a A,eC W ob B H0 a L A aG dB G' H'/\bu W obe Ge He E (eL f (d.drop i) a A) (LU W obe Ge He D),{_,Nat.zero_le _,rfl,ob,H0,B,env,_,tr,by rw [List.drop_zero];exact iU},?_}
 rintro i m L H' ⟨D1,hm,aG,dB,G',a,A,M,y⟩
 have up:∀{z:Sl} {j:St} {Y:Sg} {iY:List Ob} {uH G2 Z:Hp},eC W ob B H0 z j Y iY uH G2 Z->eC W obe Ge He z j Y iY uH G2 Z:=λq=>{q.sr,q.u,F.n.trans q.n,q.s,q.no};let(ist,igo):=bV i G' H' M.n.g (.of (M.n.g.trans M.sr.sub)) M.sr.sub;by_cases w:i=d.length
 .refine .inl {ist w,?_};rw [w,List.drop_length] at y;exact y L aG dB G' H' (up M)
 .have eE:i<d.length:=by lia
  let(D0,hyld):=igo d[i] (zzg eE);refine .inr {D0,λj Z=>i+1<=d.length/\∃iY uH G2 z Y,eC W ob B H0 z j Y iY uH G2 Z/\bu W obe Ge He E (eL f (d.drop (i+1)) z Y) (LU W obe Ge He D),λj Z h2=>{d.length-(i+1),by lia,h2.1,rfl,h2.2},λx js hy=>?_};let(rO,g0,rx):=hyld x js hy;have qZ:aE (W.at aG) G' H' rO js:=⟨g0.g,g0.h,g0.sub,g0.own,g0.tb⟩;have XU:Rep (W.at aG) rO d[i] x:=Rep.at M.n.ids _ rx;rw [List.drop_eq_getElem_cons eE] at y;unfold eL at y;have WI:f d[i] a A=(Rs.of (U.put d[i] a) A).bind λa s=>cO F1 F2 b a s:=by rw [<-hf]
  rw [WI] at y;have t2:=M.grow qZ
  cases r:U.put d[i] a with
  |bad=>rw [r] at y;exact y.elim|exc c=>exact absurd r (md c)|ok z=>
   rw [r] at y;refine l4 (W:=W.at aG) S.C.K r t2.sr XU λj sr3=>{ob,B,H0,aG,dB,rO,z,A,{sr3,t2.u,t2.n,t2.s,FN t2.no r},?_}
   have o2:bu W obe Ge He E ((cO F1 F2 b z A).bind λfl s=>match fl with
    |.nx a=>eL f (d.drop (i+1)) a s|.ct a=>eL f (d.drop (i+1)) a s|.bk a=>.ok (.nx a) s|.rt p=>.ok (.rt p) s) (LU W obe Ge He D):=y
   cases r2:cO F1 F2 b z A with
   |bad=>rw [r2] at o2;exact o2.elim|exc cc s3=>rw [r2] at o2;exact λCv ao O x=>o2 Cv ao O (GX.comp F.n V x)|ok fl s3=>
    rw [r2] at o2;cases fl with
    |nx e=>exact λP Q Qf R O t3=>⟨eE,Q,Qf,R,e,s3,t3,o2⟩|ct e=>exact λP Q Qf R O t3=>⟨eE,Q,Qf,R,e,s3,t3,o2⟩|bk e=>exact λP Q Qf R O t3=>o2 P Q Qf R O (up t3)|rt q=>exact λv Q R O rv g3 u3 e3=>o2 v Q R O rv (F.n.comp V g3) u3 e3
end
structure YV(n dn en:Str)(st:k6):Prop where
 sc:iO [dn,en] [dn] (ax st)
 bind:∀(kV doc pm:iv) (an:Option i1) (dA ct:iv) (us:List iv),us.length=[dn].length->bindArgs (PySem.W.fnOf n n (bR st) (bf st) (ax st) .none kV doc pm an dA ct) {us,[]}=pure ([dn].zip us)
 body:∃np cp rp xp gp ZT V1 Z1 Bd pos,bf st=[.Try [.Return (hI (.Call (.Name dn np) [] [] cp)) rp] [.ExceptHandler (hI (.Name (zu 2) xp)) (hI en) [.Return (hI (.Call (.Name (zu 5) gp) [.Name en ZT] [] V1)) Z1] Bd] [] [] pos]
 ld:(ax st).names.lookup dn=hI .local
 le:(ax st).names.lookup en=hI .local
 g1:(ax st).names.lookup (zu 2:Str)=hI .globalImplicit
 g2:(ax st).names.lookup (zu 5:Str)=hI .globalImplicit
 o1:okN dn=ie
 o2:okN en=ie
section
variable{P:jX}{w:kd}{K:zz8}{Γ:Pg}{W:Wd}{F1:Sg->aP}
theorem T1.mono{k:Nat}(t:T1 P w K mg base W F1 Γ j)(h:j<=k):T1 P w K mg base W F1 Γ k:=
 {t.M,λob u f hf=>(t.F ob u f hf).mono h,λob u q a=>by let(b,fd,c,d,e):=(t.H ob u q a).ex;exact{b,fd,c,d.mono h,e},t.Q,t.A,t.D,t.qt,t.hl,d1 t.k2 h}
abbrev teC(P:jX)(w:kd)(K:zz8)(mg:Str->Option iv)(base:kA)(k:Nat)(e:XK):TE:=λg H Q=>∃f RE,g[0]?=hI (hI (V.ref f))/\(∀h,fw P w H h->PySem.W.FnAt f h)/\Hn P w K mg base k f H Q RE/\∀d b c,RE d b c->(∀a,b=hI a->c a=h9)->e d b c
abbrev teH(W:Wd)(F1:Sg->aP):TE:=λe H Q=>∃a d pv ob G,e[1]?=hI (hI (V.ref a))/\aC G H/\bA (W.at ob) G H/\lV W.K W.mg ob/\Rep (W.at ob) G (.exc d) (.ref a)/\F1 (aF ob) (zu 5) [.exc d]=.ok pv/\∀v b c,aE (W.at ob) G H b c->Rep (W.at ob) b pv v->Q v c
def Kt(KB:K.In base){n Z en:Str}{fa:i1}{fd:FuncData}(T:T1 P w K mg base W F1 Γ j)(c:Γ.qs.contains (zu 5)=ie)(Cf:Γ.cs.contains (zu 2)=ie)(St:YV n Z en st)(Fu:LV K n n st fa fd):
 fy P w K mg base (dz P w) (j+3) fa fd [Z] (spT P w K mg base (j+2) W F1):=by
 let(oc,od,kV,doc,pm,an,dA,ct,pT,rfl,lk,mZ):=Fu.ex;have hK:W.K=K:=(T.M []).hK;have hM:W.mg=mg:=(T.M []).hm;have m:=T.mono (Nat.le_succ j);refine Dz lk mZ St.sc (λp H Q E h=>h.1) λA outer s H p Q E hr h=>?_;let(_,f,RE,rfl,hf,hC,hE):=h;have CS:∀ob,lV W.K W.mg ob->fG Γ (F1 (aF ob)) (W.at ob) [Z,en] (ax st) (j+1) E (dC (dz P w) P w K mg base [Z,en] n (ax st) fa dA A outer s H E):=λob u=>xb (outer:=outer) (s:=s) (H:=H) (E:=E) (T.M ob) KB St.sc (m.F ob u) (m.H ob u) (λf hf=>{m.k2,m.Q ob u f hf}) (λ_=>m.k2) (m.A ob u) (m.D ob u) (λz=>by rw [T.hl] at z;cases z) hr;have C0:=CS [] sZ;let(np,cp,rp,xp,gp,ZT,V1,Z1,Bd,pos,eb):=St.body;let(Dc,hm):=C0.C.cls _ (et.mp Cf);rw [eb];refine{_,tQ (O7 (Dc:=Dc) (i:=1) (tb:=λE'=>P2 (teC P w K mg base (j+2) E')) (ts:=P2 (teH W F1)) C0.C.nd rfl St.le rfl rfl St.g1 hm (λpn xe E' hP=>tQ (tM ?call)) (λa pn=>tQ (tM ?tell))),?fin}
 case call=>intro aa s1 b N Q1 O R;let(f,RE,h0,hf,hC,hE):=R;refine wpAny_Call_Name_kw (wpAny_mono (mi (i:=0) rfl (.inl St.ld) (ei St.o1).1 (ei St.o1).2.1 aa s1 b N (λv' S=>v'=.ref f/\S=N) O {_,h0,rfl,rfl}) (λu s2 hu=>?_) λ_ _ y=>y);let(v',S,I,ru,rfl,rfl):=hu;cases ru;refine PySem.W.callWith_F0 (hf _ I.aM) ?_;refine hC _ aa b s2 Q1 rfl rfl rfl rfl rfl hr I (λ_ _ z=>z) λe s' x=>?_;let(a,C,t,p,U,B,rfl,F):=x;exact hP aa b _ s2 _ s' I {a,C,t,p,U,B,rfl,{F with ends:=hE _ _ _ F.ends λa' e=>by cases e;exact F.fresh}}
 case tell=>intro o s1 b N Q1 O R;let(ad,d,pv,ob,G,R,sg,tb,u,rp,L,h3):=R;have C1:=CS ob u;let(k2,(fb,fd2,pn2,FO,IM,hk2,RY,hal)):=C1.C.XM _ c;refine wpAny_Call_Name_kw (dS O St.g2 IM ?_ ↑1);refine PySem.W.callWith_K (h₀:=base) O.ok.mod.Ja hk2 (bM ((bx (mi (i:=1) rfl (.inl St.le) (ei St.o2).1 (ei St.o2).2.1) cC rfl) V1 o s1 b N (λp S=>p=[.ref ad]/\S=N) O {.ref ad,R,rfl,rfl}) λus s2 ⟨p,S,I,r,q1,q2⟩=>{I.jZ,?_}) rfl rfl;subst q1 q2;refine kD (W:=W.at ob) (k:=2) (q:=h9) (as:=[.exc d]) (G:=G) {λz=>absurd z ↑2,(hr.mono (Nat.le_succ_of_le k2)).dp,(hr.mono (Nat.le_succ_of_le k2)).un} FO RY (λz=>hal _ z) I sg tb (show ai (W.at ob) _ [.exc d] [V.ref ad] from .cons rp .nil) r ?_;rw [L];exact h3
 case fin=>
  refine{f,RE,rfl,hf,hC,λCv ao U y fr=>?_};let(d,C,a,ob,G,rfl,rfl,X,Y,sg,tb,u,c):=hE _ _ _ y;have ha:U a=h9:=fr a rfl;refine{a,C,rfl,rfl,C0.Qp Cf d C X (by rw [<-hM];exact Y) Dc hm,λσ' hl=>?_};have gn:aE (W.at ob) G U (upd G a (mW a C)) (upd U a (mW a C)):=.new sg ha
  cases L:F1 (aF ob) (zu 5) [.exc d] with
  |exc _=>rw [L] at c;exact c.elim|bad=>rw [L] at c;exact c.elim|ok pv=>
   rw [L] at c;refine{a,d,pv,ob,upd G a (mW a C),?_,gn.sub,gn.tab tb,u,?_,L,λv G' js g r=>c v G' js (gn.trans g) r}
   .exact eu (by rw [hl];exact(by decide:1<2))
   .simp! [Rep];exact⟨a,C,rfl,X,Y,aq⟩
variable{Z:lu}
mutual
theorem Rep.less(f:∀b o,Z.lookup b=hI o->G b=hI (.bV o cU)):∀(p:PV) {v:V},Rep W G p v->Rep W (cy Z G) p v
 |.aR,_,h=>by simpa only [Rep] using h|.bl b,_,h=>by simpa only [Rep] using h|.int i,_,h=>by simpa only [Rep] using h|.str z,_,h=>by simpa only [Rep] using h|.tup xs,_,h=>by
  simp! [Rep] at h⊢;let(a,vs,e,q,l):=h
  refine{a,vs,e,?_,ai.less f xs l};rcases q with q|⟨(q|⟨o,q⟩)|q,z⟩
  .cases y:Z.lookup a with
   |none=>exact .inl (by rw [aI y];exact q)|some d=>rw [f a d y] at q;cases q
  .cases y:Z.lookup a with
   |none=>exact .inl (by rw [aI y];exact q)|some d=>rw [f a d y] at q;cases q
  .cases y:Z.lookup a with
   |none=>exact .inr {.inl (.inr {o,by rw [aI y];exact q}),z}|some d=>rw [f a d y] at q;cases q
  .exact .inr {.inr q,z}
 |.lst xs,_,h=>by
  simp! [Rep] at h⊢;let(a,vs,e,q,l):=h
  refine{a,vs,e,?_,ai.less f xs l};rcases q with(q|⟨o,q⟩)|q
  .cases y:Z.lookup a with
   |none=>exact .inl (.inl (by rw [aI y];exact q))|some d=>rw [f a d y] at q;cases q
  .cases y:Z.lookup a with
   |none=>exact .inl (.inr {o,by rw [aI y];exact q})|some d=>rw [f a d y] at q;cases q
  .exact .inr q
 |.exc c,_,h=>by
  simp! [Rep] at h⊢;let(a,C,e,x,m,q):=h
  cases y:Z.lookup a with
  |none=>exact{a,C,e,x,m,by rw [aI y];exact q}|some d=>rw [f a d y] at q;unfold mW at q;cases q
 |.cq j vs,_,h=>by
  simp! [Rep] at h⊢;let(a,o,g,e,n,m,l):=h
  refine{a,o,g,e,n,?_,ai.less f vs l};cases y:Z.lookup a with
  |none=>rw [aI y];exact m|some d=>rw [f a d y] at m;cases m
 |.obj n,_,h=>by simpa only [Rep] using h
theorem ai.less(a:∀b o,Z.lookup b=hI o->G b=hI (.bV o cU)):∀(ps:List PV) {vs:List V},ai W G ps vs->ai W (cy Z G) ps vs
 |[],_,h=>by simpa only [ai] using h|p::ps,_,h=>by simp! [ai] at h⊢;let(v,r,e,c,d):=h;exact{v,r,e,Rep.less a p c,ai.less a ps d}
end
theorem J6(a:aC G H)(c:∀b o,Z.lookup b=hI o->H b=h9):aC G (aQ Z G):=λb u e=>by
 cases y:Z.lookup b with
 |none=>rw [ay y];exact e|some o=>have:=a _ _ e;rw [c b o y] at this;cases this
theorem B0(t:kl W G H)(i:aC G H)(f:∀b o,Z.lookup b=hI o->G b=hI (.bV o cU))(j:∀b o,Z.lookup b=hI o->∃v,o.data=.cell v):kl W (cy Z G) (cy Z H):=λP q m=>by
 let(n,k,e,p,r):=t P q m;refine{j2 n,k,?_,p,λc s y=>?_}
 .cases y:Z.lookup P with
  |none=>rw [aI y];exact e|some o=>rw [i _ _ (f P o y)] at e;cases e
 .let(a,oc,u,z,A,d,g,B):=r c s y
  refine{a,oc,u,z,A,?_,g,B};cases y:Z.lookup a with
  |none=>rw [aI y];exact d|some o=>rw [f a o y] at d;cases d;let(v,h):=j a _ y;rw [g] at h;cases h
theorem rK(t:kl W G H)(g:aC G H)(a:∀b o,Z.lookup b=hI o->H b=h9):kl W (aQ Z G) (aQ Z H):=λP q m=>by
 let(n,h,e,i,j):=t P q m;refine{?_,h,?_,i,λc k y=>?_}
 .cases y:Z.lookup P with
  |none=>rw [ay y];exact n|some o=>rw [a P o y] at e;cases e
 .cases y:Z.lookup P with
  |none=>rw [ay y];exact e|some o=>rw [a P o y] at e;cases e
 .let(d,oc,p,r,s,f,u,z):=j c k y
  refine{d,oc,p,r,s,?_,u,z};cases y:Z.lookup d with
  |none=>rw [ay y];exact f|some o=>have:=g _ _ f;rw [a d o y] at this;cases this
def Gn(t:bA W G H)(d:aC G H)(c:∀b o,Z.lookup b=hI o->H b=h9):bA W (aQ Z G) (aQ Z H):={rK t.t d c,λi o m=>by
 let(f,g,e,l):=t.o i o m
 have y:Z.lookup o.a=h9:=by
  cases y:Z.lookup o.a with
  |none=>rfl|some u=>rw [c _ u y] at e;cases e
 exact{by rw [ay y];exact f,g,by rw [ay y];exact e,ai.same (J6 d c) _ l}}
theorem aE.lz{d f:Hp}(g:aE W (aQ Z G) (aQ Z H) d f)(i:aC G H)(j:∀b o,Z.lookup b=hI o->∃v,o.data=.cell v)(c:∀b o,Z.lookup b=hI o->H b=h9):aE W G H (cy Z d) (cy Z f) where
 g:=λb u e=>by
  cases y:Z.lookup b with
  |none=>rw [aI y];exact g.g _ _ (by rw [ay y];exact e)|some o=>have:=i _ _ e;rw [c b o y] at this;cases this
 h:=λb u e=>by
  cases y:Z.lookup b with
  |none=>rw [aI y];exact g.h _ _ (by rw [ay y];exact e)|some o=>rw [c b o y] at e;cases e
 sub:=λb u e=>by let(q,k):=j3 e;rw [aI q];exact g.sub _ _ k
 own:=λa m p r=>by
  cases y:Z.lookup a with
  |none=>rw [aI y];exact g.own a (by rw [ay y];exact m) (by rw [ay y];exact p) (by rw [ay y];exact r)|some o=>exact iI y
 tb:=λt=>B0 (g.tb (rK t i c)) g.sub (λb o q=>g.g _ _ (bD q)) j
def BQ(a:aC G H):aC (aQ Z G) (aQ Z H):=λb u e=>by
 cases y:Z.lookup b with
 |none=>rw [ay y] at e⊢;exact a _ _ e|some o=>rw [bD y] at e⊢;exact e
def mH(a:∀b o,Z.lookup b=hI o->H b=h9):cy Z (aQ Z H)=H:=by
 funext b
 cases y:Z.lookup b with
 |none=>rw [aI y,ay y]|some o=>rw [iI y,a b o y]
theorem D5{P:jX}{w:kd}(k:fw P w H h)(a:∀b o,Z.lookup b=hI o->H b=hI (.bV o cU)):fw P w (cy Z H) h:=λb v e=>by
 let(q,d):=j3 e;refine(k b v d).fW (λc y Y r=>r) (λc r=>?_) λc xs r=>?_
 .cases y:Z.lookup c with
  |none=>rw [aI y];exact r|some o=>rw [a c o y] at r;cases r
 .cases y:Z.lookup c with
  |none=>rw [aI y];exact r|some o=>rw [a c o y] at r;cases r
def AY{P:jX}{w:kd}{K:zz8}{s:ix}(e:jo P w K mg base A outer s H)(a:∀b o,Z.lookup b=hI o->H b=hI (.bV o cU)):jo P w K mg base A outer s (cy Z H):=
 {e.frames,e.mod,λb o q=>{(e.bs b o q).1,j2 (e.bs b o q).2},e.wY,e.hZ,λb c=>j2 (e.xm b c),D5 e.aM a,e.bare}
def Pu{ps:List Str}{a:kv}(h:XY ps a=ie):uI ps (bF a) a:=by unfold XY at h;simp! [zza,zzy,Bool.not_eq_true',zzN,d0] at h;let((((((b,c),d),e),f),g),i):=h;refine{b,c,d,e,f,g,i,λx j=>?_};unfold bF;rw [List.mem_reverse,fP];exact{(x,.free),List.mem_filter.mpr {PySem.mem_of_lookup j,rfl},rfl}
def HD{b:Arguments}{ps:List Str}{c:kv}{cl:List (Str×i1)}{d e ct:iv}(h:uO b=hI ps)(us:List iv)(hl:us.length=ps.length):bindArgs (PySem.W.kla_fn (zu 11) qual b body c cl d e ct) {us,[]}=pure (ps.zip us):=by
 rcases yE h with⟨rfl,rfl⟩|⟨a,rfl,rfl⟩
 .match us,hl with
  |[],_=>rfl
 .match us,hl with
  |[u],_=>simp [bindArgs,seqItems?,PySem.W.kla_fn];rfl
def HU{b:Arguments}{ps:List Str}{env:Env}(h:uO b=hI ps):defaultsOf b env=([],[]):=by
 rcases yE h with⟨rfl,rfl⟩|⟨a,rfl,rfl⟩
 .rfl
 .rfl
end
def Kk{W:Wd}{as:List PV}(d:aC G H)(tb:bA W G H)(l:ai W G as vs):SR W H (as.map .val) (vs.map hI) G H:=by
 refine{by rw [zzl,zzl];exact l.length.symm,d,i8.refl _,λi s e=>?_,λi j p q a b Z Z Z=>?_,tb,tb}
 .rw [dk] at e;let(p,c,rfl):=cP.mp e;let(v,f,rv):=l.sH c;exact{hI v,by rw [dk,f];rfl,v,rfl,rv}
 .rw [dk] at b;let(p,c,e):=cP.mp b;cases e
section
variable{Γ:Pg}{W:Wd}{F:aP}{sc:kv}{k:Nat}
def yA(X:Cx)(W:Wd)(a:Arguments)(body:i2)(b:kv)(cl:List (Str×i1))(e H1 G2 g:Hp)(f:i1):Prop:=aE W e H1 G2 g/\∃c oc d t h i,G2 f=hI (.bV (PySem.W.kla_obj (zu 11) (X.env.qual++(zu 11)) a body b cl i c h) cU)/\G2 c=hI (.bV oc cU)/\oc.data=.fields d/\d[1]?=hI (.str (X.env.qual++(zu 11)) t)
def OX(C:zv4 X)(hl:Γ.hl=ie){d:Arguments}{ps:List Str}{g:kv}{cl:List (Str×i1)}(hp:uO d=hI ps)(q9:closureFor g X.env=pure cl):
 PE X (.Lambda d body g pos) (λσ H Q=>∃G,aC G H/\bA W G H/\∀f G2 H2,yA X W d body g cl G H G2 H2 f->Q (.ref f) H2):=by
 intro aa s σ H Q I h;let(G,S,tb,q):=h;let(c,P,yW,CH,Z,huq):=C.tb hl;let(nG,pO,hP,tr,al):=tb.t P _ Z;refine L2.Ez (R:=λi oc=>G i=hI (.bV oc cU)) I hP tr yW CH (C.bm hl) q9 (HU hp) (λD e=>?_) λf i oc T t uy uC h' tk hf U Qr hfP hcP hd hv tr' al' more I'=>?_
 .let(i,oc,T,t,E,r,K,L):=al pos D e;exact{i,oc,T,t,E,S _ _ r,r,K,L}
 .have hGf:G f=h9:=S.free hf
  have hGc:G i=h9\/G i=hI (.bV oc cU):=by
   rcases U with z|z
   .exact .inl (S.free z)
   .exact .inr z.2
  have fo:∀fo,iH H P uC i oc f fo f=hI (.bV fo cU):=λfo=>by unfold iH;rw [aq]
  have sG:∀fo,aC G (upd (upd G i (.bV oc cU)) f (.bV fo cU)):=λfo b u e=>by
   have A:b≠f:=λz=>by rw [z,hGf] at e;cases e
   rw [ag A];by_cases w:b=i
   .subst w;rw [aq];rcases hGc with z|z
    .rw [z] at e;cases e
    .rw [z] at e;exact e
   .rw [ag w];exact e
  have XH:∀fo a,H a≠h9->(∀vs,H a≠hI (.tup vs))->G a=h9->(upd (upd G i (.bV oc cU)) f (.bV fo cU)) a=h9:=λfo a h1 _ h2=>by
   have haf:a≠f:=λz=>h1 (by rw [z];exact hf);rw [ag haf];by_cases ha:a=i
   .subst ha;rcases U with z|z
    .exact absurd z h1
    .rw [z.2] at h2;cases h2
   .rw [ag ha];exact h2
  refine{.ref f,_,I',rfl,q f (upd (upd G i (.bV oc cU)) f (.bV _ cU)) _ {{sG _,λb u e=>?_,λb u e=>?_,XH _,λ_ V q' m=>?_},i,oc,T,t,uy,(X.mg (zu 36)).getD .none,aq,by rw [ag Qr,aq],hd,hv}}
  .have A:b≠f:=λz=>by rw [z,hf] at e;cases e
   by_cases Y:b=P
   .subst Y;rw [hP] at e;cases e;let(m,rfl):=more;exact .inr {pO,m,rfl,by unfold iH;rw [ag (Ne.symm hfP),ag (Ne.symm hcP),aq]}
   .have r:iH H P uC i oc f (PySem.W.kla_obj (zu 11) (X.env.qual++(zu 11)) d body g cl ((X.mg (zu 36)).getD .none) i uy) b=H b:=by
     unfold iH;rw [ag A];by_cases w:b=i
     .subst w;rw [aq];rcases U with z|z
      .rw [z] at e;cases e
      .rw [z.1]
     .rw [ag w,ag Y]
    rw [r];exact i8.refl H b u e
  .by_cases A:b=f
   .subst A;rw [aq] at e;rw [fo];exact e
   .rw [ag A] at e;unfold iH;rw [ag A];by_cases w:b=i
    .subst w;rw [aq] at e⊢;exact e
    .rw [ag w] at e⊢;have Y:b≠P:=λz=>by rw [z,nG] at e;cases e
     rw [ag Y];exact S _ _ e
  .let(n1,qs,p,tr1,M):=tb.t V q' m;have WG:V≠f:=λz=>by rw [z,hf] at p;cases p
   have iT:V≠i:=λz=>by
    rcases U with y|y
    .rw [z,y] at p;cases p
    .rw [z,y.1] at p;cases p
   refine{by rw [ag WG,ag iT];exact n1,?_};by_cases O:V=P
   .subst O;rw [hP] at p;cases p;refine{uC,by unfold iH;rw [ag WG,ag iT,aq],tr',λj D y=>?_}
    rcases al' j D y with y|y
    .let(c2,B,o,t2,E,r,K,L):=M j D y;exact{c2,B,o,t2,E,sG _ _ _ r,K,L}
    .exact{i,oc,T,t,y,by rw [ag Qr,aq],hd,by rw [huq q' m];exact hv}
   .refine{qs,by unfold iH;rw [ag WG,ag iT,ag O];exact p,tr1,λj D y=>?_};let(c2,B,o,t2,E,r,K,L):=M j D y;exact{c2,B,o,t2,E,sG _ _ _ r,K,L}
end
def lookup_all{Z:lu}(ha:∀q∈Z,h.get? q.1=hI q.2):∀{c:i1} {o:Obj},(c,o)∈Z->Z.lookup c=hI o:=by
 induction Z with
 |nil=>intro c o m;cases m
 |cons q Z b=>
  intro c o m;let(c1,o1):=q
  rw [hD];cases e:c==c1 with
  |true=>have d:=zzy.mp e;subst d;have f:=ha (c,o1) c8;have a:h.get? c=hI o:=ha (c,o) m;rw [f] at a;exact a|false=>
   rcases er.mp m with z|z
   .cases z;simp at e
   .exact b (λq g=>ha q (cz _ g)) z
section
variable{W:Wd}{F1:Sg->aP}{F2:gA}{Γ:Pg}{Δ:kj}
theorem yM{d:St}(sr:SR W H0 env d G H):∀{a:List Nat} {b:Sl},r9 a env=.ok b->∃(cs:List PV) (ws:List V),b=cs.map .val/\ai W G cs ws/\ws.length=a.length/\∀(j:Nat) (i:Nat),a[j]?=hI i->∃v,ws[j]?=hI v/\d[i]?=hI (hI v)
 |[],b,h=>by unfold r9 at h;cases h;exact{[],[],rfl,.nil,rfl,λj i e=>by simp at e}
 |i::a,b,h=>by
  unfold r9 at h;let(p,c,h):=Res.aK h;let(t,f,h):=Res.aK h
  cases h;have hs:env[i]?=hI (.val p):=by
   cases e:env[i]? with
   |none=>rw [e] at c;cases c
   |some s=>rw [e] at c;cases s<;>cases c;rfl
  let(o,g,v,rfl,rv):=sr.slot i _ hs;let(cs,ws,rfl,m,q,r):=yM sr f;refine{p::cs,v::ws,rfl,.cons rv m,by simp [q],λj k e=>?_}
  cases j with
  |zero=>simp at e;subst e;exact⟨v,rfl,g⟩|succ j=>simpa using r j k (zx6 e)
theorem nZ(c:Str):∀{a:List Nat},r9 a env≠.exc c
 |[]=>nofun|i::a=>λz=>by
  unfold r9 at z;rcases Res.dY z with z|⟨p,_,z⟩
  .cases e:env[i]? with
   |none=>rw [e] at z;cases z
   |some s=>rw [e] at z;cases s<;>cases z
  .rcases Res.dY z with z|⟨ps,_,z⟩
   .exact nZ c z
   .cases z
theorem KG(cs:List PV):(cs.map Slot.val).any Slot.cb=ig:=rR λs m=>by let(p,_,rfl):=fP.mp m;rfl
def HI{P:jX}{w:kd}{K:zz8}{x:X2}{B:Arguments}{k:kv}{cl:List (Str×i1)}{pm uy:iv}{g O:i1}{oc:Obj}{ic:Array iv}{t:Tok}{Z:lu}{ob:List Ob}{cs:List PV}{ws:List V}{Qo:VK}{RE:XK}
 (T:T1 P w K mg base W F1 Γ j) (M:KR P w K mg base W F2 Δ j) (U:Δ.cs=[]/\Δ.td=[]) (hp:uO B=hI []) (S:uI [] (bF k) k) (u:lV W.K W.mg ob) (sg:aC G H) (tb:bA (W.at ob) G H) (rws:ai (W.at ob) G cs ws) (Vc:ws.length=(bF k).length)
 (fo:H g=hI (.bV (PySem.W.kla_obj (zu 11) qual B body k cl pm O uy) cU)) (co:H O=hI (.bV oc cU)) (cd:oc.data=.fields ic) (cn:ic[1]?=hI (.str qual t)) (Qe:∀b o,Z.lookup b=hI o->H b=h9) (inj:∀x y c,cl.lookup x=hI c->cl.lookup y=hI c->x=y) (has:∀y∈bF k,∃c,cl.lookup y=hI c)
 (cells:∀x c,cl.lookup x=hI c->∃o v,Z.lookup c=hI o/\o.data=.cell v) (vals:∀(i:Nat) y c,(bF k)[i]?=hI y->cl.lookup y=hI c->∀v,ws[i]?=hI v->∃u o,RelV v u/\Z.lookup c=hI o/\o.data=.cell (hI u))
 (he:∀(N:XK) (Y:Cx),hV Γ Δ F1 F2 W (bF k) k j N Y->G2 Y W F1 F2 ob G H N x body)
 (vo:bp F1 F2 x (cs.map .val) (aF ob)≠.bad) (aM:∀p s',bp F1 F2 x (cs.map .val) (aF ob)=.ok p s'->∀v R G' L,fZ W ob G H R G' L->lV W.K W.mg R->aF R=s'->Rep (W.at R) G' p v->Qo v L)
 (hRE:∀d s',bp F1 F2 x (cs.map .val) (aF ob)=.exc d s'->∀Cv ao L,(∀b o,Z.lookup b=hI o->L b=h9)->GX W d s' ob G H Cv ao L->RE Cv ao (aQ Z L)):Hn P w K mg base (j+2) g (aQ Z H) (λv L=>Qo v (cy Z L)) RE:=by
 intro X aa σ s Q hP hw hKK hmg dj hr I hQ hx;subst hP hw hKK hmg dj;have nz:∀b v,H b=hI v->Z.lookup b=h9:=λb v e=>by
  cases y:Z.lookup b with
  |none=>rfl|some o=>rw [Qe b o y] at e;cases e
 have eqH:cy Z (aQ Z H)=H:=mH Qe;have Uw:Ap Z H (fz X.stack) s.heap:={λb o q=>(I.aM b _ (bD q)).1,Qe,λb o q hb=>by have:=I.nK b hb;rw [bD q] at this;cases this};have e0:jo X.prog X.w X.K X.mg X.base X.A X.stack s H:=by have:=AY (Z:=Z) I.vd (λb o q=>bD q);rw [eqH] at this;exact this
 let N:XK:=λC a L=>(∀b o,Z.lookup b=hI o->L b=h9)->RE C a (aQ Z L);have hK:W.K=X.K:=(T.M []).hK;have hM:W.mg=X.mg:=(T.M []).hm
 have CL:hV Γ Δ F1 F2 W (bF k) k j N (Qm X.prog X.w X.K X.mg X.base ([]++bF k) qual k g (.ref O) cl X.A X.stack s H N):={
  C:=λob u=>{rfl,rfl,λz=>Option.isNone_iff_eq_none.mpr (hr.hd (by have:=T.k2;lia)),S.nd,(T.M ob).hK,(T.M ob).hm,(T.M ob).gs,(T.M ob).bs,hr.deeper _,λg hg=>{(T.F ob u g hg).ex},(T.M ob).Ow,(T.M ob).cls,(T.M ob).xc,λq hq=>{(T.H ob u q hq).ex},λf hf=>{T.k2,{(T.Q ob u f hf).ex}},T.A ob u,(T.D ob u).fld,(T.D ob u).con,(λz=>by rw [T.hl] at z;cases z),(λz=>by rw [T.hl] at z;cases z),(λz=>by rw [T.hl] at z;cases z)}
  pass:=To
  qt:=T.qt
  K:=hK
  mg:=hM
  p8:=λf h=>by rw [U.1] at h;cases h
  met:=λc m h=>by let(C,fa,h1,h2,h3):=M.met c m h;exact{C,fa,h1,h2,⟨h3.ex⟩}
  new:=λc h=>by let(C,fa,j,h1,h2,h3,h4,h5):=M.new c h;exact{C,fa,j,h1,h2,h3,h4,⟨h5.ex⟩}
  fl:=M.fl
  td:=λf h=>by rw [U.2] at h;cases h}
 have D0:=(I.aM g _ (show aQ Z H g=hI (.bV (PySem.W.kla_obj (zu 11) qual B body k cl pm O uy) cU) by rw [ay (nz _ _ fo)];exact fo)).1;have Wy:=(I.aM O _ (show aQ Z H O=hI (.bV oc cU) by rw [ay (nz _ _ co)];exact co)).1;refine wpAny_call (codeAny_mono (L2.Jb (us:=[]) (E:=RE) (Q:=Q) (Z:=Z) (ws:=ws) (vs:=[]) (t:=t2 W F1 F2 ob G H N x) S hr e0 Uw ?zb D0 Wy cd cn (HD hp [] rfl) .nil rfl Vc has inj cells ?cells (he N _ CL) ?hq) λrr s' NN=>?end_)
 case zb=>
  intro b o q;cases y:X.base.get? b with
  |none=>rfl|some o'=>have:=(I.bs b o' y).2;rw [bD q] at this;cases this
 case cells=>intro i y c h1 h2 v h3;let(u,o',q1,q2,q3):=vals i y c h1 h2 v h3;exact{u,q1,o',Uw.at_ c o' q2,q3}
 case hq=>
  refine{ob,H,G,cs.map .val,aF ob,{Kk sg tb rws,u,.refl,rfl,KG cs},?_};cases r:bp F1 F2 x (cs.map .val) (aF ob) with
  |bad=>exact absurd r vo|exc d s1=>exact λCv ao L y zn=>hRE d s1 r Cv ao L zn y|ok p s1=>intro v R dB G' L t' g' rp zn;refine hQ _ _ ?_;show Qo v (cy Z (aQ Z L));rw [mH zn];exact aM p s1 r v R G' L g' t'.u t'.s rp
 case end_=>
  cases rr with
  |error e=>exact hx e s' NN|ok fl=>
   cases fl with
   |ret u=>exact I.after NN|next=>exact el NN|brk=>exact el NN|cont=>exact el NN
variable{sc:kv}{k:Nat}{E:XK}{obe:List Ob}{Ge He:Hp}
def MR(S:zv2 X){bh:List Nat}{x:X2}{F:Arguments}{D:kv}{SK:Pos}(hf:Δ.td.contains f=ie)(hl:Γ.hl=ie)(hg:fA sc f=ie)(ho:okN f=ie)(hp:uO F=hI [])(IJ:bh.map (λi=>N[i]?)=(bF D).map hI)(mY:∀y∈bF D,sc.names.lookup y=hI .cell)(fQ:uI [] (bF D) D)
 (he:∀(j:Nat) (obe:List Ob) (Ge He:Hp) (E':XK) (Y:Cx),hV Γ.zI Δ.Sw F1 F2 W (bF D) D j E' Y->G2 Y W F1 F2 obe Ge He E' x body):G2 X W F1 F2 obe Ge He E (.Hl f bh x) (.Call (.Name f np) [.Lambda F body D SK] [] pos):=by
 intro aa sh σ dB Q I h;let(ob0,H0,G0,env,s0,F9,o):=h;have e0:=F9.s;subst e0;have V:=S.C ob0 F9.u;let(fa,j,fd,y0,hm,hk,hj,FO,hb,T,M):=S.td f hf hl;have q9:closureFor D X.env=pure (cw X.env (bF D)):=n6 λy P G8=>I.ok.has y.1 (.inl (by show X.env.scope.names.lookup y.1=_;rw [V.fQ];refine mY y.1 ?_;unfold bF;rw [List.mem_reverse,fP];exact{y,List.mem_filter.mpr {P,by rw [G8];rfl},rfl}));refine wpAny_Call_Name_kw (dS I (cH V hg) hm ?_ (ei ho).1);refine PySem.W.callWith_K (h₀:=X.base) I.ok.mod.Ja hk (bM ((bx (OX V hl hp q9) cC rfl) pos aa sh σ dB (λvs H2=>∃G2 g,vs=[.ref g]/\yA X (W.at ob0) F body D (cw X.env (bF D)) G0 dB G2 H2 g) I {G0,F9.sr.sub,F9.sr.tab,λg G2 H2 m=>⟨G2,g,rfl,m⟩}) λus s ⟨vs,H,I,r,q⟩=>{I.jZ,?_}) rfl rfl;let(G,g,rfl,gm,c',oc,ic,t,uy,pm,fo,co,cd,cn):=q;have st:=F9.grow gm;generalize ob0=ob at *
 have sr:=st.sr
 unfold bp at o;cases Ba:r9 bh env with
 |bad=>rw [Ba] at o;exact o.elim|exc c=>exact absurd Ba (nZ c)|ok av=>
 rw [Ba] at o;let(cs,ws,rfl,rws,Vc,pws):=yM sr Ba;simp! [Rs.of,Rs.bind] at o;have oI:∀y∈bF D,∃c,X.env.cells.lookup y=hI c:=λy P=>I.ok.has y (.inl (by show X.env.scope.names.lookup y=_;rw [V.fQ];exact mY y P));have call:((bF D).all λy=>(X.env.cells.lookup y).isSome)=ie:=d0.mpr λy P=>by let(c,e):=oI y P;rw [e];rfl
 let Z:lu:=(bF D).filterMap λy=>(X.env.cells.lookup y).bind λc=>(s.heap.get? c).map λo=>(c,o);have Uv:∀q∈Z,∃y,y∈bF D/\X.env.cells.lookup y=hI q.1/\s.heap.get? q.1=hI q.2:=λq hq=>by let(y,P,e):=f6.mp hq;let(c,hc,e):=d6.mp e;let(o,ho,rfl):=cP.mp e;exact⟨y,P,hc,ho⟩
 have Yo:∀q∈Z,s.heap.get? q.1=hI q.2:=λq hq=>let⟨_,_,_,h⟩:=Uv q hq;h;have zin:∀y c o,y∈bF D->X.env.cells.lookup y=hI c->s.heap.get? c=hI o->Z.lookup c=hI o:=λy c o P hc ho=>lookup_all Yo (f6.mpr {y,P,by rw [hc];show(s.heap.get? c).map _=_;rw [ho];rfl});have Uu:∀b o,Z.lookup b=hI o->∃y,y∈bF D/\X.env.cells.lookup y=hI b/\s.heap.get? b=hI o:=λb o e=>by let(y,R,O,h3):=Uv (b,o) (PySem.W.mem_of_lookupK e);exact⟨y,R,O,h3⟩
 have zc:∀b o,Z.lookup b=hI o->∃v,o.data=.cell v:=λb o e=>by let(y,_,O,h3):=Uu b o e;let(v,o',h4,h5):=I.cell y b O;rw [h3] at h4;cases h4;exact⟨v,h5⟩
 have Qe:∀b o,Z.lookup b=hI o->H b=h9:=λb o e=>by let(y,_,O,_):=Uu b o e;exact I.fE y b O
 have Ru:∀x c,(cw X.env (bF D)).lookup x=hI c->X.env.cells.lookup x=hI c:=fC call;have VY:∀x c,(cw X.env (bF D)).lookup x=hI c->x∈bF D:=λx c e=>by have:=PySem.mem_of_lookup e;unfold cw at this;let(y,P,e2):=fP.mp this;cases e2;exact P
 have zge:∀b o,Z.lookup b=hI o->X.s₀.heap.objs.size<=b:=λb o e=>by let(y,_,O,_):=Uu b o e;exact I.ok.Me y b (V.fl hl y) O
 have Uw:Ap Z H (fz X.stack) s.heap:={λb o e=>let⟨_,_,_,h⟩:=Uu b o e;h,Qe,λb o e Ww=>by
  let(y,_,O,h3):=Uu b o e
  rcases er.mp (I.my b Ww) with z|z
  .exact I.Ca y b O z
  .let(_,o',h4,_):=I.ok.hZ.mem z;exact absurd (c6 h4) (Nat.not_lt.mpr (zge b o e))}
 have zb:∀b o,Z.lookup b=hI o->X.base.get? b=h9:=λb o e=>by
  cases y:X.base.get? b with
  |none=>rfl|some o'=>exact absurd (c6 (I.ok.bs b o' y).1) (Nat.not_lt.mpr (zge b o e))
 have hlF:(bF D).length=bh.length:=by have:=congrArg List.length IJ;simpa using this.symm
 have nz:∀b v,H b=hI v->Z.lookup b=h9:=λb v e=>by
  cases y:Z.lookup b with
  |none=>rfl|some o=>rw [Qe b o y] at e;cases e
 have Wc:=sr.sub _ _ fo;have coH:=sr.sub _ _ co;have G7:=hb s us I.jZ (by rw [hF];exact r.length.symm);rw [hF] at G7;let RE:XK:=λCv ao L=>∃d s' H1,bp F1 F2 x (cs.map .val) (aF ob)=.exc d s'/\L=aQ Z H1/\(∀b o,Z.lookup b=hI o->H1 b=h9)/\GX W d s' ob G H Cv ao H1
 have Wx:Hn X.prog X.w X.K X.mg X.base (j+2) g (aQ Z H) (λv L=>Q v (cy Z L)) RE:=by
  refine HI T M ⟨rfl,rfl⟩ hp fQ st.u sr.sub sr.tab rws (by rw [Vc,hlF]) Wc coH cd cn Qe (λx y c R O=>I.ok.inj x y c (Ru x c R) (Ru y c O)) (λy P=>kF P) (λx c h=>?_) (λi y c R O v h3=>?_) (λE' Y CY=>he j ob G H E' Y CY) (λz=>by rw [z] at o;exact o) (λp s' e v U G' L g' u' es rp=>?_) λd s' e Cv ao L zn y=>⟨d,s',L,e,rfl,zn,y⟩
  .let(v,o,R,O):=I.cell x c (Ru x c h);exact{o,v,zin x c o (VY x c h) (Ru x c h) R,O}
  .have hi:i<bh.length:=by rw [<-Vc];exact(b4.mp h3).1
   let(v',q1,q2):=pws i bh[i] (zzg hi);rw [h3] at q1;cases q1;have hNy:X.N[bh[i]]?=hI y:=by rw [V.hN];have:=congrArg (λl=>l[i]?) IJ;simp! [dk,R,zzg hi,Option.map_some] at this;exact zzq this
   let(m,_,NI):=I.loc;let(u,ru,lk):=NI bh[i] y v hNy q2 (.inr (.inl (by rw [V.fQ];exact mY y (a6 R))));have Se:=Ru y c O
   rcases lk with⟨z,_⟩|⟨_,c2,qe,o,ho,hd⟩
   .have z2:X.env.scope.names.lookup y=hI .local:=z;rw [V.fQ,mY y (a6 R)] at z2;cases z2
   .rw [Se] at qe;cases qe;exact{u,o,ru,zin y c o (a6 R) Se ho,hd}
  .rw [e] at o;exact o v U L G' L (st.on g' u' es) (gm.lN.trans g') rp
 have WE:∀Cv ao L,RE Cv ao L->∃d C a U G',Cv=.ref C/\ao=hI a/\d∈W.xs/\W.mg d=hI (.ref C)/\aC G' L/\bA (W.at U) G' L/\lV W.K W.mg U/\(match F1 (aF U) (zu 5) [.exc d] with
  |.ok p=>∀v G3 H3,aE (W.at U) G' L G3 H3->Rep (W.at U) G3 p v->Q v (cy Z H3)|_=>False):=by
  rintro Cv ao L ⟨d,s',H1,e,rfl,zn,C,a,U,G1,rfl,rfl,hd1,hd2,gr,u',es⟩
  refine{d,C,a,U,aQ Z G1,rfl,rfl,hd1,hd2,BQ gr.sub,Gn (gr.tab sr.tab) gr.sub zn,u',?_};rw [e] at o;dsimp only at o;rw [es];cases hv:F1 s' (zu 5) [.exc d] with
  |exc _=>rw [hv] at o;exact o.elim|bad=>rw [hv] at o;exact o.elim|ok p=>rw [hv] at o;intro v G3 H3 g3 rp;have gl:=g3.lz gr.sub zc zn;have g4:=gr.trans gl.lN;exact o v U _ _ _ (st.on g4 u' es) (gm.lN.trans g4) (Rep.less (λb o q=>g3.g _ _ (bD q)) p rp)
 refine wpAny_call (codeAny_mono (FO.run X.A X.stack s (aQ Z H) {us,[]} us [.ref g] (λv L=>Q v (cy Z L)) (λ_ _ _=>False) (V.room.mono (by lia)) (I.vd.aQ Uw zb) G7 r {rfl,g,RE,rfl,λh k=>?_,Wx,WE}) λrr s' hr=>?_)
 .have:=(k g _ (show aQ Z H g=hI (.bV (PySem.W.kla_obj (zu 11) (X.env.qual++(zu 11)) F body D (cw X.env (bF D)) pm c' uy) cU) by rw [ay (nz _ _ Wc)];exact Wc)).1;exact{_,_,_,_,this}
 .cases rr with
  |error e=>have hr:dz X.prog X.w X.stack (aQ Z H) s (λ_ _ _=>False) e s':=hr;let(a,C',t,vs,L,B,rfl,Fl):=hr;exact Fl.ends.elim|ok fl=>
   cases fl with
   |ret u=>exact I.after (CE.less Uw hr)|next=>exact el hr|brk=>exact el hr|cont=>exact el hr
end
abbrev Ji:i2->Bool
 |.Starred .. =>ig|_=>ie
def kU(h:Ji p=ie)(env:Env)(ps:List i2):starEach (p::ps) env=(ig,eval p env)::starEach ps env:=by
 cases p<;>first|rfl|exact aN h
mutual
noncomputable def i9(Γ:Pg)(d:kj)(N:List Str)(sc:kv):X2->i2->Bool
 |.pu e,p=>d7 e&&aJ Γ N sc e p|.p8 f as,p=>(ux p).any λq=>f==q.1&&(d.cs.contains q.1&&fA sc q.1&&okN q.1&&hX as&&!q.2.isEmpty&&dt Γ N sc as q.2)|.met o c m as,p=>(B9 p).any λq=>(GY q.1).any λr=>q.2.2.1.isEmpty&&(m==r.2.1&&(d.ms.contains (c,m)&&d7 o&&aJ Γ N sc o r.1&&dU r.1&&r.2.2.endLine==q.2.2.2.line&&hX as&&dt Γ N sc as q.2.1&&decide (g8 as<30)))|.new c as,p=>(ux p).any λq=>c==q.1&&(d.ns.contains q.1&&fA sc q.1&&okN q.1&&hX as&&dt Γ N sc as q.2)|.c1 f as,p=>(ux p).any λq=>f==q.1&&(Γ.fs.contains q.1&&fA sc q.1&&okN q.1&&!q.2.isEmpty&&n5 Γ d N sc as q.2)|.tup as,p=>(B2 p).any λps=>decide (Bm as<1000)&&n5 Γ d N sc as ps|.oj k h s it elt,p=>(SG p).any λq=>(dw q.2.1).any λg=>g.ifs.isEmpty&&(uY N sc q.2.2 k h (aV g.target)&&mz k s&&MG g.iter&&i9 Γ d N sc it g.iter&&fB (aV g.target++freeOf q.2.2) (dy q.2.2 sc) (qm q.2.2) s g.target&&i9 Γ.zI d (aV g.target++freeOf q.2.2) (dy q.2.2 sc) elt q.1&&decide (g.is_async=0))|.AS,p=>IX p|.vC as,p=>(Xk p).any λps=>decide (Bm as<1000)&&n5 Γ d N sc as ps|.dict x,p=>(ux p).any λq=>(dw q.2).any λa=>q.1==("dict":Str)&&(fA sc q.1&&Γ.bs.contains q.1&&Ji a&&i9 Γ d N sc x a)|.uM a x,p=>(B9 p).any λq=>(GY q.1).any λr=>(dw q.2.1).any λe=>q.2.2.1.isEmpty&&(r.2.1==("append":Str)&&(d7 a&&aJ Γ N sc a r.1&&dU r.1&&r.2.2.endLine==q.2.2.2.line&&Ji e&&i9 Γ d N sc x e))|.x6 a,p=>(B9 p).any λq=>(GY q.1).any λr=>q.2.1.isEmpty&&(q.2.2.1.isEmpty&&(r.2.1==("pop":Str)&&(d7 a&&aJ Γ N sc a r.1&&dU r.1&&r.2.2.endLine==q.2.2.2.line)))|.qV a k,p=>(B9 p).any λq=>(GY q.1).any λr=>(dw q.2.1).any λe=>q.2.2.1.isEmpty&&(r.2.1==("pop":Str)&&(d7 a&&aJ Γ N sc a r.1&&dU r.1&&r.2.2.endLine==q.2.2.2.line&&d7 k&&aJ Γ N sc k e))|.ite c a b,p=>(W6 p).any λq=>gk c&&(aJ Γ N sc c q.1&&(i9 Γ d N sc a q.2.1&&i9 Γ d N sc b q.2.2))|.Hl f h x,p=>(ux p).any λq=>(dw q.2).any λl=>(ZR l).any λr=>f==q.1&&(d.td.contains q.1&&Γ.hl&&fA sc q.1&&okN q.1&&uO r.1==hI []&&decide (h.map (λi=>N[i]?)=(bF r.2.2).map hI)&&((bF r.2.2).all λy=>decide (sc.names.lookup y=hI .cell))&&XY [] r.2.2&&i9 Γ.zI d.Sw (bF r.2.2) r.2.2 x r.2.1)|.AN a,p=>(ux p).any λq=>(dw q.2).any λj=>q.1==("dict":Str)&&(fA sc q.1&&Γ.bs.contains q.1&&d7 a&&aJ Γ N sc a j)|.xC a,p=>(ux p).any λq=>(dw q.2).any λj=>q.1==("list":Str)&&(fA sc q.1&&Γ.bs.contains q.1&&d7 a&&aJ Γ N sc a j)|.cmp o a b,p=>(Rv p).any λq=>(dw q.2.1).any λu=>(dw q.2.2).any λt=>decide (m8 o=u)&&(i9 Γ d N sc a q.1&&i9 Γ d N sc b t&&!behindInMarks (m8 o) t)
noncomputable def n5(Γ:Pg)(a:kj)(N:List Str)(sc:kv):uv->List i2->Bool
 |.nil,[]=>ie|.cons x xs,p::ps=>Ji p&&(i9 Γ a N sc x p&&n5 Γ a N sc xs ps)|_,_=>ig
end
abbrev Ek:T2->Bool
 |.or _ _=>ie|_=>ig
abbrev yO(Γ:Pg)(c:kj)(N:List Str)(sc:kv):T2->i2->Bool
 |.pu e,p=>gk e&&aJ Γ N sc e p|.cmp o a b,p=>i9 Γ c N sc (.cmp o a b) p|.or a b,p=>(Rl p).any λq=>!vq q.1&&((UK q.1 q.2.2 q.2.1).any λr=>(Ek b||decide (q.2.1.length=2))&&(yO Γ c N sc a r.1&&yO Γ c N sc b r.2))
def Sy:X2->Bool
 |_=>ig
mutual
noncomputable def K6(Γ:Pg)(d:kj)(N:List Str)(sc:kv):S2->k6->Bool
 |.p st,p=>gb Γ N sc st p|.set i x,.Assign ts p _=>(SW ts).any λy=>N[i]?==hI y&&(jc sc y&&(Sy x||dP p)&&i9 Γ d N sc x p)
 |.ex x,.Expr p _=>dP p&&i9 Γ d N sc x p|.ret x,.Return (hI p) _=>i9 Γ d N sc x p|.par i j xs,.Assign ts (.Tuple [a,b] _ _) _=>(JI ts).any λq=>(N[i]?==hI q.1&&N[j]?==hI q.2.2.1)&&(decide (i≠j)&&q.1 !=q.2.2.1&&q.2.2.2.line==q.2.1.line&&sc.names.lookup q.1==hI .local&&sc.names.lookup q.2.2.1==hI .local&&Fd a b&&n5 Γ d N sc xs [a,b])|.mw c i f e,.Assign ts p _=>(dw ts).any λt=>(GY t).any λr=>(j5 r.1).any λx=>r.2.1==f&&((N[i]?==hI x&&ke sc x&&okN x)&&d.fl.contains (c,f)&&dP p&&i9 Γ d N sc e p)|.BM a k e,.Assign ts p _=>(dw ts).any λt=>(PM t).any λr=>d7 a&&(aJ Γ N sc a r.1&&d7 k&&aJ Γ N sc k r.2&&d7 e&&aJ Γ N sc e p&&dP p)|.ite c a b,.If p o g _=>yO Γ d N sc c p&&(jw Γ d N sc a o&&jw Γ d N sc b g)|.eS s it b,.For m u g h _=>h.isEmpty&&(fB N sc (λZ=>ie) s m&&AZ it&&uV Γ N sc m it u&&jw Γ d N sc b g)|_,_=>ig
noncomputable def jw(Γ:Pg)(a:kj)(N:List Str)(sc:kv):pX->List k6->Bool
 |.nil,[]=>ie|.cons s ss,p::ps=>K6 Γ a N sc s p&&jw Γ a N sc ss ps|_,_=>ig
end
section
theorem wA{Γ:Pg}{b:kj}{sc:kv}{env:Env}:∀{xs:uv} {ps:List i2},n5 Γ b N sc xs ps=ie->(backTo pos (starEach ps env)).any (·.1)=ig
 |.nil,[],_=>rfl|.cons x xs,p::ps,h=>by have a:=ak h;have c:=ak a.2;rw [kU a.1];show(ig||(backTo pos (starEach ps env)).any (·.1))=ig;rw [wA c.2];rfl
 |.nil,_::_,h=>aN h|.cons _ _,[],h=>aN h
variable{W:Wd}{F1:Sg->aP}{F2:gA}
mutual
theorem jd:∀(x:X2) {C:kj} {k:Nat} {obe:List Ob} {Ge He:Hp} {Γ:Pg} {N:List Str} {sc:kv} {E:XK} {X:Cx},hV Γ C F1 F2 W N sc k E X->∀p,i9 Γ C N sc x p=ie->G2 X W F1 F2 obe Ge He E x p
 |.pu e,C,k,obe,Ge,He,Γ,N,sc,E,X,S,p,h=>by have h:=ak h;exact iB S h.1 h.2|.p8 f as,C,k,obe,Ge,He,Γ,N,sc,E,X,S,p,h=>by
  let(g,args,np,t,rfl,s):=wD h;have i:=ak s;cases zzy.mp i.1;have d:=i.2;simp! [zza] at d;let(((((w,a2),A),B),G),I):=d
  cases args with
  |nil=>exact aN G|cons q qs=>exact MM S w a2 A B I
 |.met o c m as,C,k,obe,Ge,He,Γ,N,sc,E,X,S,p,h=>by let((f,args,O,t),e,s):=ah h;have z:=gD e;let((po,K,L),P,i):=ah s;have D:=gC P;have d:=ak i;have u:=eh d.1;dsimp only at z D u;subst z D u;have r:=ak d.2;have H:=zzy.mp r.1;dsimp only at H;subst H;have F:=r.2;simp! [zza] at F;let(((((((w,a2),A),B),G),I),Q),U):=F;exact MP S w a2 A B G I Q (zzY U)|.new c as,C,k,obe,Ge,He,Γ,N,sc,E,X,S,p,h=>by let(g,args,np,t,rfl,s):=wD h;have i:=ak s;cases zzy.mp i.1;have d:=i.2;simp! [zza] at d;let((((w,a2),A),B),G):=d;exact MQ S w a2 A B G
 |.tup as,C,k,obe,Ge,He,Γ,N,sc,E,X,S,p,h=>by let(V,e,s):=ah h;let(_,_,rfl):=nL e;have i:=ak s;exact MS (zzY i.1) (wb as S V i.2)|.cmp o a b,C,k,obe,Ge,He,Γ,N,sc,E,X,S,p,h=>by let(pa,ops,bs,t,rfl,s):=UN h;let(op,z1,i):=eW s;let(pb,D,d):=eW i;dsimp only at z1 D;subst z1 D;have r:=ak d;have H:=zzY r.1;subst H;have F:=r.2;rw [zza,zza,Bool.not_eq_true'] at F;exact MN S (jd a S _ F.1.1) (jd b S _ F.1.2) F.2|.c1 f as,C,k,obe,Ge,He,Γ,N,sc,E,X,S,p,h=>by
  let(g,args,np,t,rfl,s):=wD h;have i:=ak s;cases zzy.mp i.1;have d:=i.2;simp! [zza] at d;let((((w,a2),A),B),G):=d
  cases args with
  |nil=>exact aN B|cons q qs=>
   cases as with
   |nil=>exact aN G|cons y ys=>have b:=ak G;exact RJ S w a2 A (wb _ S _ G) (kU b.1 _ _) (wA (ak b.2).2)
 |.oj kk bh tg it elt,C,k,obe,Ge,He,Γ,N,sc,E,X,S,p,h=>by let(k9,gens,R,_,rfl,s):=Xi h;let((cN,i3,ifs,asy),D,i):=eW s;have d:=ak i;have u:=eh d.1;dsimp only at D u;subst D u;have r:=d.2;simp! [zza] at r;let((((((w,a2),A),B),G),I),Q):=r;have Q:=zzY Q;subst Q;exact DC S (n9 w) a2 A (jd it S i3 B) G λY Z=>jd elt Z k9 I|.AS,C,k,obe,Ge,He,Γ,N,sc,E,X,S,p,h=>by let(t,rfl):=zi h;exact Ic S|.vC as,C,k,obe,Ge,He,Γ,N,sc,E,X,S,p,h=>by let(V,e,s):=ah h;let(_,rfl):=xH e;have i:=ak s;exact Ig S (zzY i.1) (wb as S V i.2)|.dict x,C,k,obe,Ge,He,Γ,N,sc,E,X,S,p,h=>by let(g,args,np,t,rfl,s):=wD h;let(q,z,i):=eW s;have d:=ak i;have u:=zzy.mp d.1;dsimp only at z u;subst z u;have r:=d.2;simp! [zza] at r;let(((w,a2),A),B):=r;exact Ib S w a2 (jd x S _ B) (kU A)|.uM a x,C,k,obe,Ge,He,Γ,N,sc,E,X,S,p,h=>by let((f,args,O,t),e,s):=ah h;have z:=gD e;let((po,K,L),P,i):=ah s;have D:=gC P;let(q,M,d):=eW i;have d:=ak d;have u:=eh d.1;have r:=ak d.2;have H:=zzy.mp r.1;dsimp only at z D u H M;subst z D u H M;have F:=r.2;simp! [zza] at F;let(((((w,a2),A),B),G),I):=F;exact H9 S w a2 (jd x S _ I) A B (kU G)|.x6 a,C,k,obe,Ge,He,Γ,N,sc,E,X,S,p,h=>by let((f,args,O,t),e,s):=ah h;have z:=gD e;let((po,K,L),P,i):=ah s;have D:=gC P;have d:=ak i;have M:=eh d.1;have d:=ak d.2;have u:=eh d.1;have r:=ak d.2;have H:=zzy.mp r.1;dsimp only at z D u H M;subst z D u H M;have F:=r.2;simp! [zza] at F;let(((w,a2),A),B):=F;exact Ih S w a2 A B|.qV a kk,C,k,obe,Ge,He,Γ,N,sc,E,X,S,p,h=>by let((f,args,O,t),e,s):=ah h;have z:=gD e;let((po,K,L),P,i):=ah s;have D:=gC P;let(q,M,d):=eW i;have d:=ak d;have u:=eh d.1;have r:=ak d.2;have H:=zzy.mp r.1;dsimp only at z D u H M;subst z D u H M;have F:=r.2;simp! [zza] at F;let(((((w,a2),A),B),G),I):=F;exact DE S w a2 G I A B|.ite c a b,C,k,obe,Ge,He,Γ,N,sc,E,X,S,p,h=>by let(q,e,s):=ah h;let(t,rfl):=Ec e;have i:=ak s;have d:=ak i.2;have r:=ak d.2;exact MO S i.1 d.1 (jd a S _ r.1) (jd b S _ r.2)|.Hl f bh x,C,k,obe,Ge,He,Γ,N,sc,E,X,S,p,h=>by let(g,args,np,t,rfl,s):=wD h;let(l,z,i):=eW s;let((T,body,R),e,d):=ah i;let(SK,D):=N9 e;have r:=ak d;have u:=zzy.mp r.1;dsimp only at z D u;subst z D u;have F:=r.2;simp! [zza,d0,zzN] at F;let((((((((w,a2),A),B),G),I),Q),U),a9):=F;exact MR S w a2 A B (eq_of_beq G) I Q (Pu U) λj obe Ge He E' Y Z=>jd x Z body a9|.AN a,C,k,obe,Ge,He,Γ,N,sc,E,X,S,p,h=>by let(g,args,np,t,rfl,s):=wD h;let(q,z,i):=eW s;have d:=ak i;have u:=zzy.mp d.1;dsimp only at z u;subst z u;have r:=d.2;simp! [zza] at r;let(((w,a2),A),B):=r;exact Ia S w a2 A B|.xC a,C,k,obe,Ge,He,Γ,N,sc,E,X,S,p,h=>by let(g,args,np,t,rfl,s):=wD h;let(q,z,i):=eW s;have d:=ak i;have u:=zzy.mp d.1;dsimp only at z u;subst z u;have r:=d.2;simp! [zza] at r;let(((w,a2),A),B):=r;exact Ie S w a2 A B
theorem wb:∀(xs:uv) {a:kj} {k:Nat} {obe:List Ob} {Ge He:Hp} {Γ:Pg} {N:List Str} {sc:kv} {E:XK} {X:Cx},hV Γ a F1 F2 W N sc k E X->∀ps,n5 Γ a N sc xs ps=ie->KP X W F1 F2 obe Ge He E xs ps
 |.nil,a,k,obe,Ge,He,Γ,N,sc,E,X,S,ps,h=>by
  cases ps with
  |nil=>exact Ii|cons _ _=>exact aN h
 |.cons x xs,a,k,obe,Ge,He,Γ,N,sc,E,X,S,ps,h=>by
  cases ps with
  |nil=>exact aN h|cons p ps=>have b:=ak h;have c:=ak b.2;exact DF (jd x S p c.1) (wb xs S ps c.2) (kU b.1 _ _)
end
variable{Δ:kj}{k:Nat}{obe:List Ob}{Ge He:Hp}
def DU{E:XK}{a b:T2}{c:i2}{rest:List i2}{pos:Pos}(ha:QL X W F1 F2 obe Ge He E a c)(m:PW X (.BoolOp .Or (d::rest) pos) (Uj W F1 F2 obe Ge He E b)):PW X (.BoolOp .Or (c::d::rest) pos) (Uj W F1 F2 obe Ge He E (.or a b)):=by
 have h:=pw_or (pos:=pos) ha m;intro p q s r H Q I u;refine h p q s r H Q I ?_;let(ob,w,G,env,s,st,o):=u;unfold uA at o;refine{ob,w,G,env,s,st,o.bind.imp λt y e f g i z j=>?_}
 cases t with
 |true=>rw [if_pos rfl];exact e f g i z j|false=>rw [if_neg zzf];exact⟨f,g,i,env,y,j,e⟩
theorem PC:∀(x:T2) {Γ:Pg} {N:List Str} {sc:kv} {E:XK} {X:Cx},hV Γ Δ F1 F2 W N sc k E X->∀p,yO Γ Δ N sc x p=ie->QL X W F1 F2 obe Ge He E x p/\(Ek x=ie->PW X p (Uj W F1 F2 obe Ge He E x))
 |.pu e,Γ,N,sc,E,X,S,p,h=>by have h:=ak h;exact{Nt S h.1 h.2,λz=>aN z}|.cmp o a b,Γ,N,sc,E,X,S,p,h=>by let(w,C,bs,f,rfl,t):=UN h;let(I,g,s):=eW t;let(A,i,u):=eW s;dsimp only at g i;subst g i;have j:=ak u;have D:=zzY j.1;subst D;have d:=j.2;rw [zza,zza,Bool.not_eq_true'] at d;exact{IG S (jd a S _ d.1.1) (jd b S _ d.1.2) d.2,λz=>aN z}|.or a b,Γ,N,sc,E,X,S,p,h=>by
  let(o,F,f,rfl,t):=VU h;have s:=ak t;have g:=zo s.1;dsimp only at g;subst g;let((w,A),G,u):=ah s.2;have j:=ak u;have d:=ak j.2;have sa:=PC a S w d.1;have B:=PC b S A d.2
  have m:PW X (.BoolOp .Or F f) (Uj W F1 F2 obe Ge He E (.or a b)):=by
   rcases wX G with z|⟨q,c,r,z,i⟩
   .dsimp only at z;subst z;exact DU sa.1 (pw_or1 B.1)
   .dsimp only at z i;subst z i;have H:Ek b=ie:=by
     rcases Bool.or_eq_true_iff.mp j.1 with y|y
     .exact y
     .have:=zzY y;simp at this
    exact DU sa.1 (B.2 H)
  exact{m.pt,λZ=>m}
variable{Γ:Pg}{sc:kv}{E:XK}
set_option tactic.hygienic true
mutual
theorem TR(S:Cu Γ Δ F1 F2 W N sc k E X):∀(x:S2) (p:k6) {obe:List Ob} {Ge He:Hp},K6 Γ Δ N sc x p=ie->CA X W F1 F2 obe Ge He E x p
 |.p st,p,_,_,_,h=>RN S h|.set i x,p,_,_,_,h=>by
  cases p<;>first|(exact aN h)|skip
  let(y,K,d):=ah h;let(xp,rfl):=sW K;have g:=ak d;have hN:=zzy.mp g.1;have r:=g.2;rw [zza,zza,eH] at r;let((s,a2),w):=r
  cases x with
  |_=>exact IA S hN s (jd _ S.C _ w) (gY (a2.elim (λz=>aN z) id))
 |.ex x,p,_,_,_,h=>by
  cases p<;>first|(exact aN h)|skip
  have d:=ak h;exact Ni (jd x S.C _ d.2) d.1
 |.ret x,p,_,_,_,h=>by
  cases p<;>first|(exact aN h)|skip
  rename_i v F;cases v with
  |none=>exact aN h|some q=>exact Iz (jd x S.C q h)
 |.par i j xs,p,_,_,_,h=>by
  cases p<;>first|(exact aN h)|skip
  rename_i ts v F;cases v<;>first|(exact aN h)|skip
  rename_i L M JV
  match L,h with
  |[],h=>exact aN h|[_],h=>exact aN h|_::_::_::_,h=>exact aN h|[a,b],h=>
  let((x,px,y,py),O,h):=ah h;simp! [zza,zzy,bne_iff_ne,ne_eq] at h;let((d,g),(((((r,u),B),P),Q),R),T):=h;let(kt,pt,rfl):=zN O;exact Iy S d g (zzY r) u B P Q R (wb xs S.C _ T)
 |.BM a kk e,p,_,_,_,h=>by
  cases p<;>first|(exact aN h)|skip
  let(t,z,d):=eW h;let(po,pk,sp,D,g):=Vi d;subst z D;have r:=ak g;have u:=r.2;simp! [zza] at u;let(((((s,a2),w),A),G),U):=u;exact DN S r.1 s a2 w A G U
 |.mw c i f e,p,_,_,_,h=>by
  cases p<;>first|(exact aN h)|skip
  let(t,H,d):=eW h;let((o,m,ap),V,g):=ah d;let(x,Y,r):=ah g;have D:=gC V;let(np,I):=eT Y;dsimp only at H D I r;subst H D I;have u:=ak r;have Z:=zzy.mp u.1;subst Z;have B:=u.2;rw [zza,zza,zza] at B;let(((s,a2),A),G):=B;exact DO S s a2 (jd e S.C _ G) A
 |.ite c a b,p,_,_,_,h=>by
  cases p<;>first|(exact aN h)|skip
  have d:=ak h;have g:=ak d.2;exact Iw (PC c S.C _ d.1).1 (pC S a _ g.1) (pC S b _ g.2)
 |.eS tg it b,p,_,_,_,h=>by
  cases p<;>first|(exact aN h)|skip
  have d:=ak h;have z:=eh d.1;subst z;have g:=d.2;rw [zza,zza,zza] at g;let(((s,a2),w),A):=g;exact Iv S s a2 w λobe Ge He=>pC S b _ A
theorem pC(S:Cu Γ Δ F1 F2 W N sc k E X):∀(xs:pX) (ps:List k6) {obe:List Ob} {Ge He:Hp},jw Γ Δ N sc xs ps=ie->wJ X W F1 F2 obe Ge He E xs ps
 |.nil,ps,_,_,_,h=>by
  cases ps with
  |nil=>exact DS|cons _ _=>exact aN h
 |.cons x xs,ps,_,_,_,h=>by
  cases ps with
  |nil=>exact aN h|cons q qs=>have a:=ak h;exact A7 (TR S x q a.1) (pC S xs qs a.2)
end
set_option tactic.hygienic false
end
structure fH where
 f:Str
 c:Option Str
 m:Str
 d:D2
 st:k6
 hl:Bool:=ig
 td:Option (Str×Str):=h9
noncomputable abbrev dr:Type:=List fH
abbrev iN(l:dr):List (Str×D2):=l.map λr=>(r.f,r.d)
abbrev bY(fl:List (Str×Str))(l:dr):kj:={l.filterMap λr=>if r.c.isNone&&r.td.isNone then hI r.f else h9,l.filterMap λr=>r.c.map λc=>(c,r.m),l.filterMap λr=>if r.m==(zu 6:Str) then r.c else h9,fl,l.filterMap λr=>if r.td.isSome then hI r.f else h9}
structure cx(Γ:Pg)(Δ:kj)(n q:Str)(d:D2)(st:k6):Prop where
 sc:iO d.N (d.N.take d.np) (ax st)
 np:d.np<=d.N.length
 bind:∀(kV doc pm:iv) (an:Option i1) (dA ct:iv) (us:List iv),us.length=(d.N.take d.np).length->bindArgs (PySem.W.fnOf n q (bR st) (bf st) (ax st) .none kV doc pm an dA ct) {us,[]}=pure ((d.N.take d.np).zip us)
 UM:jw Γ Δ d.N (ax st) d.body (bf st)=ie
theorem ia{Γ:Pg}{c:kj}{n q:Str}{d:D2}(b:∀(kV a e:iv) (f:Option i1) (g ct:iv) (us:List iv),us.length=(d.N.take d.np).length->bindArgs (PySem.W.fnOf n q (bR st) (bf st) (ax st) .none kV a e f g ct) {us,[]}=pure ((d.N.take d.np).zip us))
 (a1:(ax st).kind=.function:=by rfl) (a2:(ax st).isCoroutine=ig:=by rfl) (h:(ax st).isGenerator=ig:=by rfl) (i:d.N.Nodup:=by decide+kernel) (j:d.N.take (d.N.take d.np).length=d.N.take d.np:=by rfl)
 (k:∀x∈d.N.take d.np,(ax st).names.lookup x=hI .local\/(ax st).names.lookup x=hI .cell:=by decide+kernel) (m:∀y∈(ax st).names,y.2≠.free:=by decide+kernel) (o:d.np<=d.N.length:=by decide+kernel) (p:jw Γ c d.N (ax st) d.body (bf st)=ie:=by decide+kernel):cx Γ c n q d st:={⟨a1,a2,h,i,j,k,m⟩,o,b,p}
def Am(K:zz8)(ts:List (i1×Str))(hl:Bool)(n q:Str)(c:Option Str)(st:k6):Prop:=∃(f:i1) (oc:iv) (e:Option i1) (kV a g:iv) (h:Option i1) (b ct:iv) (i:Array (Option iv)),
 (match c with
  |none=>PySem.W.nsIn K la n=hI (hI (.ref f))/\q=n|some c=>q=kS c n/\∃C,PySem.W.nsIn K la c=hI (hI (.ref C))/\PySem.W.findIn K (.ref C) n=hI (hI (.ref f))/\PySem.W.isFn K (.ref f)=ie)/\
 K.lookup f=hI {oc,e,.func (PySem.W.fnOf n q (bR st) (bf st) (ax st) .none kV a g h b ct),i}/\PySem.W.codeIn K b q=ie/\PySem.W.keepIn K (.ref f)=ie/\(hl=ie->∃c P,b=.ref c/\eZ K c P/\(P,jb q)∈ts/\∀d,(P,d)∈ts->d=jb q)
structure wH(K:zz8)(fl:List (Str×Str))(c:Str):Prop where
 ex:∃C,PySem.W.nsIn K la c=hI (hI (.ref C))/\wC K C/\PySem.W.makesIn K C=ie/\PySem.W.keepIn K (.ref C)=ie/\∀f,fl.contains (c,f)=ie->cI K C f
structure VF(P:jX)(w:kd)(K:zz8)(mg:Str->Option iv)(base:kA)(W:Wd)(F1:Sg->aP)(F2:gA)(Γ:Pg)(Δ:kj)(k:Nat):Prop where
 p8:∀f,Δ.cs.contains f=ie->∃fa,mg f=hI (.ref fa)/\PySem.W.keepIn K (.ref fa)=ie/\kh P w K mg base W F2 k f fa
 m:KR P w K mg base W F2 Δ k
 td:∀f,Δ.td.contains f=ie->VG P w K mg base W F1 F2 Γ Δ.Sw k f
def Ou{Γ:Pg}(h:Γ.hl=ig):Γ.zI=Γ:=by cases Γ;cases h;rfl
theorem Jg{K:zz8}{Γ:Pg}{W:Wd}(M:mU K mg Γ W)(hl:Bool):mU K mg {Γ with hl:=hl} W:=⟨M.hK,M.hm,M.gs,M.bs,M.Ow,M.cls,M.xc,M.xs,M.rm,M.Qp,M.bm⟩
section
variable{P:jX}{w:kd}{K:zz8}{Γ:Pg}{Δ:kj}{W:Wd}{F1:Sg->aP}{F2:gA}
def kh.mono{k:Nat}(c:kh P w K mg base W F2 j f a)(h:j<=k):kh P w K mg base W F2 k f a:=by let(fd,b,d,e):=c.ex;exact{fd,b,d.mono h,e}
def F6{F a:gA}{b:Str}{n:Nat}(e:∀as s,a b as s=F f as s):QC W a b n=QC W F f n:=by
 funext c H Q E
 unfold QC;simp! [e]
def kh.swap{F a:gA}{k:Nat}{b:Str}{d:i1}(c:kh P w K mg base W F k f d)(e:∀as s,a b as s=F f as s):kh P w K mg base W a k b d:=by let(fd,g,h,i,j):=c.ex;refine{fd,g,?_,i,λas s m=>j as s (by rw [<-e];exact m)};rw [F6 e];exact h
theorem Gf(d:D2)(as:List PV):(fV d as).any Slot.cb=ig:=rR λs m=>by
 unfold fV at m;rcases List.mem_append.mp m with z|z
 .let(p,_,rfl):=fP.mp z;rfl
 .rw [List.eq_of_mem_replicate z];rfl
def Dy(Y:K.In base){k:Nat}{n q nf:Str}{d:D2}{fd:FuncData}{hl:Bool}(T:T1 P w K mg base W F1 Γ k)(U:VF P w K mg base W F1 F2 Γ Δ k)(St:cx {Γ with hl:=hl} Δ n q d st)(Z:LV K n q st a fd)(hL:hl=ie->∃c p,fd.code=.ref c/\eZ K c p/\(p,jb q)∈W.ts/\∀S,(p,S)∈W.ts->S=jb q):
 fy P w K mg base (dz P w) (k+2) a fd (d.N.take d.np) (QC W (λ_ as s=>mr F1 F2 d as s) nf (d.N.take d.np).length):=by
 have i:(d.N.take d.np).length=d.np:=by rw [List.length_take];have:=St.np;lia
 let(oc,od,kV,doc,pm,an,V,ct,pT,rfl,lk,mZ):=Z.ex;have hK:W.K=K:=(T.M []).hK;have hM:W.mg=mg:=(T.M []).hm;refine Dz lk mZ St.sc (λX H Q E h=>h.1) λA outer s H X Q E hr h=>?_;let(b,ob,G,as,sg,tb,u,l,o):=h;rw [i] at b;have I:∀ob,lV W.K W.mg ob->fG {Γ with hl:=hl} (F1 (aF ob)) (W.at ob) d.N (ax st) k E (dC (dz P w) P w K mg base d.N q (ax st) a V A outer s H E):=λob u=>xb (outer:=outer) (s:=s) (H:=H) (E:=E) (Jg (T.M ob) hl) Y St.sc (T.F ob u) (T.H ob u) (λf hf=>{T.k2,T.Q ob u f hf}) (λ_=>T.k2) (T.A ob u) (T.D ob u) hL hr
 have CY:Cu {Γ with hl:=hl} Δ F1 F2 W d.N (ax st) k E (dC (dz P w) P w K mg base d.N q (ax st) a V A outer s H E):={{λob u=>(I ob u).C,(I [] sZ).pass,T.qt,hK,hM,λf hf=>by
  let(a,y,z,B):=U.p8 f hf;exact{a,y,z,⟨B.ex⟩},λc m hf=>by
  let(C,a,y,z,B):=U.m.met c m hf;exact{C,a,y,z,⟨B.ex⟩},λc hf=>by
  let(C,a,j,y,z,B,h4,h5):=U.m.new c hf;exact{C,a,j,y,z,B,h4,⟨h5.ex⟩},U.m.fl,λf hf _=>by
  have:=U.td f hf;rw [<-Ou T.hl] at this;exact this},I}
 have sr:SR (W.at ob) H (fV d as) (start d.N X) G H:=wg sg tb l (by rw [<-l.length,b];exact St.np)
 refine{P4 W F1 F2 ob G H E d.body,pC CY d.body _ St.UM,ob,H,G,_,aF ob,{sr,u,.refl,rfl,Gf d as},?_};dsimp only at o;unfold mr at o;rw [if_pos (by rw [<-l.length,b];exact beq_self_eq_true _)] at o;cases r:cO F1 F2 d.body (fV d as) (aF ob) with
 |bad=>rw [r] at o;exact o|exc c s1=>rw [r] at o;exact o|ok fl s1=>
  rw [r] at o;cases fl with
  |nx env=>exact λσ' L dB O R t=>o .aR L O R (t.n.lN t.sr) t.u t.s .n|rt p=>exact λv L O R rv g u e=>o v L O R g u e rv|bk env=>exact o.elim|ct env=>exact o.elim
def MK(h:K.In base){k:Nat}{n q nf:Str}{d:D2}{e:i1}{fd:FuncData}{hl:Bool}(T:T1 P w K mg base W F1 Γ k)(U:VF P w K mg base W F1 F2 Γ Δ k)(St:cx {Γ with hl:=hl} Δ n q d st)(f:LV K n q st e fd)(i:hl=ie->∃c p,fd.code=.ref c/\eZ K c p/\(p,jb q)∈W.ts/\∀g,(p,g)∈W.ts->g=jb q):
 kh P w K mg base W (λZ as s=>mr F1 F2 d as s) (k+2) nf e:=by
 refine{_,d.N.take d.np,Dy h T U St f i,f.binds St.bind,λas s a=>?_};have b:(d.N.take d.np).length=d.np:=by rw [List.length_take];have:=St.np;lia
 have a:mr F1 F2 d as s≠.bad:=a;unfold mr at a;by_cases ha:(as.length==d.np)=ie
 .rw [b];exact zzy.mp ha
 .rw [if_neg ha] at a;exact absurd rfl a
structure VH(Γ:Pg)(r:fH)(q:Str×Str):Prop where
 s:YV r.m q.1 q.2 r.st
 q:Γ.qs.contains (zu 5)=ie
 cs:Γ.cs.contains (zu 2)=ie
 c:r.c=h9
 f:r.f=r.m
 m:(r.m==(zu 6:Str))=ig
def yB(Γ:Pg)(fl:List (Str×Str))(r:fH)(l:dr):Prop:=match r.td with
 |none=>cx {Γ with hl:=r.hl} (bY fl l) r.m r.f r.d r.st
 |some q=>VH Γ r q
def nO(K:zz8)(ts:List (i1×Str))(Γ:Pg)(fl:List (Str×Str)):dr->Prop
 |[]=>True|r::l=>Am K ts r.hl r.m r.f r.c r.st/\yB Γ fl r l/\((l.map (·.f)).contains r.f=ig/\(r.c.isSome=ie->(bY fl l).td=[]))/\nO K ts Γ fl l
def AQ{r:fH}{l:dr}(h:(g==r.f)=ig)(as:List PV)(s:Sg):bU F1 (iN (r::l)) g as s=bU F1 (iN l) g as s:=by show(if(g==r.f)=ie then _ else _)=_;rw [h];rfl
def AR{r:fH}{l:dr}(as:List PV)(s:Sg):bU F1 (iN (r::l)) r.f as s=mr F1 (bU F1 (iN l)) r.d as s:=by show(if(r.f==r.f)=ie then _ else _)=_;rw [beq_self_eq_true];rfl
theorem pj{ts:List (i1×Str)}{fl:List (Str×Str)}:∀{l:dr},nO K ts Γ fl l->∀{x:fH} {c:Str},x∈l->x.c=hI c->x.f=kS c x.m
 |[],_,_,_,h,_=>nomatch h|r::l,⟨he,_,_,hr⟩,x,c,h,e=>by
  rcases er.mp h with z|z
  .subst z;let(b,oc,d,kV,a,g,i,j,ct,k,e1,o,p,q,_):=he;rw [e] at e1;exact e1.1
  .exact pj hr z e
theorem KR.swap{F b:gA}{Δ:kj}(m:KR P w K mg base W F Δ j)(h:∀c n,Δ.ms.contains (c,n)=ie->∀as s,b (kS c n) as s=F (kS c n) as s)(k:∀c,Δ.ns.contains c=ie->∀as s,b (kS c (zu 6)) as s=F (kS c (zu 6)) as s):KR P w K mg base W b Δ j where
 met:=λc n a=>by let(C,d,e,f,g):=m.met c n a;exact{C,d,e,f,g.swap (h c n a)}
 new:=λc a=>by let(C,d,i,e,f,g,o,p):=m.new c a;exact{C,d,i,e,f,g,o,p.swap (k c a)}
 fl:=m.fl
set_option tactic.hygienic true in
theorem yC(D:K.In base)(G:base.Ns la mg){fl:List (Str×Str)}{k1:Nat}(T:T1 P w K mg base W F1 Γ k1)(CK:∀c f,fl.contains (c,f)=ie->wH K fl c):∀(l:dr),nO K W.ts Γ fl l->(∀r∈l,∀c,r.c=hI c->wH K fl c)->VF P w K mg base W F1 (bU F1 (iN l)) Γ (bY fl l) (k1+3*l.length)
 |[],_,_=>{(λf h=>nomatch h),{(λc m h=>nomatch h),(λc h=>nomatch h),λc f h C hC=>by let(R,e,_,_,_,na):=(CK c f h).ex;have:=PySem.W.mg_of D G e;rw [hC] at this;cases this;exact na f h},(λf h=>nomatch h)}
 |r::l,xq,q9=>by
  let(he,hs,(G8,S),hr):=xq;have u:=yC D G T CK l hr λr' NN=>q9 r' (cz _ NN);let(a,oc,od,kV,doc,pm,an,dA,ct,pT,A,e2,e3,M,e5):=he;have U:=sF (st:=r.st) e2 e3 M;have V:=T.mono (Nat.le_add_right _ (3*l.length));have I:k1+3*l.length<=k1+3*(r::l).length:=by rw [c4];lia
  have L:k1+3*l.length+2<=k1+3*(r::l).length:=by rw [c4];lia
  have same:∀{g:Str},(l.map (·.f)).contains g=ie->∀as s,bU F1 (iN (r::l)) g as s=bU F1 (iN l) g as s:=λ{g} N as s=>AQ (by
   cases z:g==r.f with
   |false=>rfl|true=>rw [zzy.mp z,G8] at N;cases N) as s
  have X:∀{g:Str} {a:i1} {j:Nat},(l.map (·.f)).contains g=ie->kh P w K mg base W (bU F1 (iN l)) j g a->kh P w K mg base W (bU F1 (iN (r::l))) j g a:=λ{g a j} N c=>c.swap λas s=>same N as s;have Y:∀c m,(bY fl l).ms.contains (c,m)=ie->(l.map (·.f)).contains (kS c m)=ie:=λc m hf=>by have hf:(List.filterMap (λr:fH=>r.c.map λc=>(c,r.m)) l).contains (c,m)=ie:=hf;rw [et,f6] at hf;let(x,b,e):=hf;let(c',O,e):=cP.mp e;cases e;have:=pj hr b O;rw [et,<-this];exact List.mem_map_of_mem b
  have Z:∀c,(bY fl l).ns.contains c=ie->(l.map (·.f)).contains (kS c (zu 6))=ie:=λc hf=>by
   have hf:(List.filterMap (λr:fH=>if r.m==(zu 6:Str) then r.c else h9) l).contains c=ie:=hf;rw [et,f6] at hf;let(x,b,e):=hf;split at e
   .rename_i hm;have:=pj hr b e;rw [zzy.mp hm] at this;rw [et,<-this];exact List.mem_map_of_mem b
   .cases e
  have E:∀{j:Nat},KR P w K mg base W (bU F1 (iN l)) (bY fl l) j->KR P w K mg base W (bU F1 (iN (r::l))) (bY fl l) j:=λm=>m.swap (λc n i as s=>same (Y c n i) as s) λc i as s=>same (Z c i) as s;have LP:∀f,(bY fl l).td.contains f=ie->VG P w K mg base W F1 (bU F1 (iN (r::l))) Γ (bY fl l).Sw (k1+3*(r::l).length) f:=λf hf=>by let(k,j,fd,x,o,p,t,F,H,h6,y):=u.td f hf;exact{k,j,fd,x,o,p,d1 t I,F,H,h6,(E (j:=j) ⟨y.met,y.new,y.fl⟩).met,(E (j:=j) ⟨y.met,y.new,y.fl⟩).new,y.fl}
  have CQ:∀f,(bY fl l).cs.contains f=ie->∃a,mg f=hI (.ref a)/\PySem.W.keepIn K (.ref a)=ie/\kh P w K mg base W (bU F1 (iN (r::l))) (k1+3*(r::l).length) f a:=λf hf=>by
   let(k,o,p,t):=u.p8 f hf;refine{k,o,p,(X ?_ t).mono I};have hf:(List.filterMap (λr:fH=>if r.c.isNone&&r.td.isNone then hI r.f else h9) l).contains f=ie:=hf;rw [et,f6] at hf;let(x,b,e):=hf;split at e
   .cases e;rw [et];exact List.mem_map_of_mem b
   .cases e
  cases B:r.td with
  |some q=>
   unfold yB at hs;rw [B] at hs;have hs:VH Γ r q:=hs;have e0:bY fl (r::l)={bY fl l with td:=r.f::(bY fl l).td}:=by unfold bY;simp! [List.filterMap_cons,B,hs.c,Option.isNone_none,Option.isNone_some,Option.isSome_some,Bool.and_false,Option.map_none,hs.m,if_true,if_false,eg]
   have ok:=Kt D V hs.q hs.cs hs.s (by have:=U;rw [hs.f] at this;exact this);rw [e0];refine{CQ,{?_,?_,u.m.fl},λf hf=>?_}
   .intro c m i;let(C,k,o,p,t):=(E u.m).met c m i;exact{C,k,o,p,t.mono I}
   .intro c i;let(C,k,j,o,p,t,F,H):=(E u.m).new c i;exact{C,k,j,o,p,t,d1 F I,H}
   .have hf:(r.f::(bY fl l).td).contains f=ie:=hf
    rw [List.contains_cons,eH] at hf;rcases hf with z|z
    .have z:=zzy.mp z;subst z;rw [hs.c] at A;exact{a,k1+3*l.length,_,q.1,by rw [hs.f];exact PySem.W.mg_of D G A.1,M,by rw [c4];lia,ok,(by have:=U;rw [hs.f] at this;exact this.binds hs.s.bind),V,(E u.m).met,(E u.m).new,u.m.fl}
    .exact LP f z
  |none=>
  unfold yB at hs;rw [B] at hs;have hs:cx {Γ with hl:=r.hl} (bY fl l) r.m r.f r.d r.st:=hs;have ok:=MK (nf:=r.f) D V u hs U e5;have XC:kh P w K mg base W (bU F1 (iN (r::l))) (k1+3*l.length+2) r.f a:=ok.swap λas s=>AR as s;refine{λf hf=>?_,{λc m hf=>?_,λc hf=>?_,u.m.fl},λf hf=>?_}
  .have hf:(List.filterMap (λr:fH=>if r.c.isNone&&r.td.isNone then hI r.f else h9) (r::l)).contains f=ie:=hf;rw [et,f6] at hf;let(x,b,e):=hf;split at e
   .rename_i i;cases e;rcases er.mp b with z|z
    .subst z;rw [Option.isNone_iff_eq_none.mp (ak i).1] at A;exact{a,by rw [A.2];exact PySem.W.mg_of D G A.1,M,XC.mono L}
    .exact CQ x.f (by show(List.filterMap (λr:fH=>if r.c.isNone&&r.td.isNone then hI r.f else h9) l).contains x.f=ie;rw [et,f6];exact{x,z,if_pos i})
   .cases e
  .have hf:(List.filterMap (λr:fH=>r.c.map λc=>(c,r.m)) (r::l)).contains (c,m)=ie:=hf;rw [et,f6] at hf;let(x,b,e):=hf;let(c',O,e):=cP.mp e
   cases e;rcases er.mp b with z|z
   .subst z;rw [O] at A;let(eq,C,Q,n2,n3):=A;refine{C,a,PySem.W.mg_of D G Q,⟨n2,n3,M⟩,?_};rw [<-eq];exact XC.mono L
   .let(C,k,o,p,t):=(E u.m).met c x.m (by
     show(List.filterMap (λr:fH=>r.c.map λc=>(c,r.m)) l).contains (c,x.m)=ie;rw [et,f6];exact{x,z,by rw [O];rfl})
    exact{C,k,o,p,t.mono I}
  .have hf:(List.filterMap (λr:fH=>if r.m==(zu 6:Str) then r.c else h9) (r::l)).contains c=ie:=hf;rw [et,f6] at hf;let(x,b,e):=hf;split at e
   .rename_i hm;rcases er.mp b with z|z
    .subst z;rw [e] at A;let(eq,C,Q,n2,n3):=A;let(R,m1,m2,m3,m4,_):=(q9 x c8 c e).ex;have hCC:R=C:=by rw [Q] at m1;cases m1;rfl
     subst hCC;have yZ:=zzy.mp hm;refine{R,a,k1+3*l.length+2,PySem.W.mg_of D G Q,m2,{m3,by rw [<-yZ];exact n2,n3,m4},by rw [c4];lia,?_};rw [<-yZ,<-eq];exact XC
    .let(C,k,j,o,p,t,F,H):=(E u.m).new c (by
      show(List.filterMap (λr:fH=>if r.m==(zu 6:Str) then r.c else h9) l).contains c=ie;rw [et,f6];exact{x,z,by rw [if_pos hm];exact e})
     exact{C,k,j,o,p,t,d1 F I,H}
   .cases e
  .have e0:(bY fl (r::l)).td=(bY fl l).td:=by
    show List.filterMap (λr:fH=>if r.td.isSome then hI r.f else h9) (r::l)=List.filterMap (λr:fH=>if r.td.isSome then hI r.f else h9) l;rw [List.filterMap_cons,B];rfl
   rw [e0] at hf;have i:r.c=h9:=by
    cases z:r.c with
    |none=>rfl|some c=>rw [S (by rw [z];rfl)] at hf;cases hf
   let(k,j,fd,x,o,p,t,F,H,h6,y):=LP f hf
   have hN:(List.filterMap (λr:fH=>if r.m==(zu 6:Str) then r.c else h9) (r::l))=(bY fl l).ns:=by
    rw [List.filterMap_cons,i];split<;>rename_i q
    .rfl
    .split at q<;>cases q
   have hM:(List.filterMap (λr:fH=>r.c.map λc=>(c,r.m)) (r::l))=(bY fl l).ms:=by rw [List.filterMap_cons,i];rfl
   refine{k,j,fd,x,o,p,t,F,H,h6,λc m hf=>y.met c m ?_,λc hf=>y.new c ?_,y.fl}
   .show(bY fl l).ms.contains (c,m)=ie;rw [<-hM];exact hf
   .show(bY fl l).ns.contains c=ie;rw [<-hN];exact hf
end
end Ci
namespace L2
open PySem.Spec PyProof.Rows
def Bl{P:jX}{w:kd}{K:zz8}{mb:Str->Option iv}{CX:Al}{k:Nat}{L:i1}{fd:FuncData}{sp:Sp}{f:ix}{vs:List iv}{ns:List Int}(i:List i1)
 (M:K.In f.heap) (S:f.heap.Ns la mg) (g:f.heap.Ns builtinsNs mb) (N:∀x:Str,x≠(zu 36)->mb x=bootBuiltins x) (xu:f.heap.NoLimit) (hg:f.gens=#[])
 (A:∀p∈i,f.heap.get? p=hI (PySem.W.tabObj #[])) (hC:∀p∈i,∃c,Ci.eZ K c p) (O:∀p∈i,K.lookup p=h9)
 (ha:f.heap.get? a=hI {cls:=.type "list",data:=.seq vs.toArray}) (T:IntsAre vs ns) (hl:ns.length<=kB) (hr:dm k callerA)
 (F:∀base:kA,K.In base->base.Ns la mg->fy P w K mg base CX k L fd [x] sp) (RZ:∀(s:ix) (u:iv),BindsTo s fd {[u],[]} [(x,u)])
 (Qv:∀H:Hp,(∀p∈i,H p=hI (.gz #[]))->Ci.uJ K H a (ns.map V.int)->sp [.ref a] H (λv _=>v=.bl ie) λ_ _ _=>False)
 (Wo:∀H e s',CX [] H f (λ_ _ _=>False) e s'->False):
 codeAny (kr P w) callerA (.call (.ref L) {[.ref a],[]}) (λr s'=>r=.ok (.ret (.bool ie))/\OldK f.heap s'.heap/\s'.os=f.os/\AllBare s'.gens) f:=by
 have rv:=B7 T;have SH:=T.length;have U:a∉i:=λz=>by have:=A a z;rw [ha] at this;cases this
 have t:∀H:Hp,(∀p∈i,H p=hI (.gz #[]))->Ci.uJ K H a (ns.map V.int)->fw P w H f.heap->(∀b,H b≠h9->b∈i\/b=a/\∃o xs,H b=hI (.bV o xs))->(H a≠h9->K.lookup a=h9)->
  codeAny (kr P w) callerA (.call (.ref L) {[.ref a],[]}) (λr s'=>r=.ok (.ret (.bool ie))/\OldK f.heap s'.heap/\s'.os=f.os/\AllBare s'.gens) f:=by
  intro H X hS aM Q hK;have Y:∀{b:i1} {o:Obj},f.heap.get? b=hI o->H b=h9->(sN f.heap H).get? b=hI o:=λe n=>D3 e n
  have Jh:∀{b:i1} {o:Obj} {B:Array DictEntry} {C:Nat},f.heap.get? b=hI o->o.data=.dict B C->H b=h9:=λ{b o B C} e d=>by
   cases q:H b with
   |none=>rfl|some u=>
    rcases Q b (by rw [q];simp) with z|⟨z,_⟩
    .rw [A b z] at e;cases e;cases d
    .subst z;rw [ha] at e;cases e;have d':Data.seq vs.toArray _=Data.dict B C:=d;cases d'
  have E:∀{b:i1} {m:Str->Option iv},f.heap.Ns b m->(sN f.heap H).Ns b m:=λ{b m} ⟨o,B,C,e,d,r⟩=>{o,B,C,Y e (Jh e d),d,r}
  have Z:K.In (sN f.heap H):=λb o e=>Y (M b o e) (by
   cases q:H b with
   |none=>rfl|some u=>
    rcases Q b (by rw [q];simp) with z|⟨z,_⟩
    .rw [O b z] at e;cases e
    .subst z;rw [hK (by rw [q];simp)] at e;cases e)
  have hM:Mod K mg (sN f.heap H):={Z,E S,{mb,E g,N},let⟨mc,h1,h2⟩:=xu;{mc,E h1,h2}};have e0:jo P w K mg (sN f.heap H) callerA [] f H:={rfl,hM,λb o e=>Jw e,Nat.le_of_eq (Bc _ _),trivial,λb g=>absurd (show b∈([]:List i1) from g) (by simp),aM,.of_eq hg};refine codeAny_mono ((F _ Z (E S)).run callerA [] f H {[.ref a],[]} [.ref a] [.ref a] _ _ hr e0 (RZ f (.ref a)) (.cons rfl .nil) (Qv H X hS)) λr s' h=>?_
  cases r with
  |error e=>exact(Wo H e s' h).elim|ok fl=>
   cases fl with
   |next=>exact el h|brk=>exact el h|cont=>exact el h|ret u=>
    let(v,H',os,bare,un,IQ,r',q):=h;have q':v=.bl ie:=q;subst q';obtain rfl:u=iv.bool ie:=r'
    have D:∀b o,f.heap.get? b=hI o->s'.heap.get? b=hI o\/b∈i/\∃m,s'.heap.get? b=hI (PySem.W.tabObj m):=λb o e=>by
     cases q:H b with
     |none=>exact .inl (un.keep b o e q (by intro z;exact absurd (show b∈([]:List i1) from z) (by simp)) (by simp))|some u=>
      rcases Q b (by rw [q];simp) with z|⟨z,ob,xs,G⟩
      .right;let(m,hm):=un.gZ b _ (X b z);exact{z,_,IQ b _ hm}
      .left;have z3:=un.gj b ob _ G;let(e1,_):=aM b _ G;let(e2,_):=IQ b _ z3;rw [e] at e1;cases e1;exact e2
    refine{rfl,{λb o e=>?_,λb o e=>?_},os,bare}
    .rcases D b o e with z|⟨z,m,G⟩
     .exact .inl z
     .have e':=A b z;rw [e] at e';cases e';let(c,o',R,_,_,_,_,_,_,_,k1,k2,k3,k4,_):=hC b z;have tb:f.heap.TableAt c b #[]:={{o',R,M _ _ k1,k2,k3,k4},e};exact .inr (.inl {tb.isCodeTable,rfl,#[],m,rfl,by rw [G];simp})
    .rcases D b o e with z|⟨_,m,z⟩
     .exact{_,z}
     .exact{_,z}
 cases hk:K.lookup a with
 |some o=>
  have e:=M a o hk;rw [ha] at e;cases e;refine t (λb=>if b∈i then hI (.gz #[]) else h9) (λp I=>if_pos I) (.inr {vs.toArray,_,hk,by rw [a5,SH];exact hl,zx6 rv}) (λb u z=>?_) (λb z=>?_) λz=>absurd (if_neg U) z
  .by_cases g:b∈i
   .have j:=(if_pos g).symm.trans z;cases j;exact A b g
   .have j:=(if_neg g).symm.trans z;cases j
  .by_cases g:b∈i
   .exact .inl g
   .exact absurd (if_neg g) z
 |none=>
  refine t (λb=>if b=a then hI (.bV {cls:=.type "list",data:=.seq vs.toArray} (.lst (ns.map V.int))) else if b∈i then hI (.gz #[]) else h9) (λp I=>?_) (.inl (.inr {{cls:=.type "list",data:=.seq vs.toArray},if_pos rfl})) (λb u z=>?_) (λb z=>?_) λ_=>hk
  .show(if p=a then _ else _)=_;rw [if_neg (show¬p=a from λz=>U (by rw [<-z];exact I)),if_pos I]
  .by_cases g:b=a
   .have j:=(if_pos g).symm.trans z;cases j;subst g;exact{ha,by rw [zzl];exact hl,vs,_,rv,ha}
   .replace z:=(if_neg g).symm.trans z;by_cases y:b∈i
    .have j:=(if_pos y).symm.trans z;cases j;exact A b y
    .have j:=(if_neg y).symm.trans z;cases j
  .by_cases g:b=a
   .exact .inr {g,_,_,if_pos g}
   .by_cases y:b∈i
    .exact .inl y
    .exact absurd ((if_neg g).trans (if_neg y)) z
def GG{l:PySem.W.OpenLaw}{n k:Nat}{q:jX}{j:List Str}{E:(Str->Option iv)->kA->Prop}{C:kd->kA->Prop}{d:DefRec}{K:Params->zz8}{CX:kd->Al}{sp:kd->Sp}(y:List i1)
 (hn:l.most=hI n) (I:n<=kB) (L:d.params.defaults=[]) (hr:dm k callerA)
 (hY:∀(w:kd) (h:kA),C w h->(K w.params).In h/\∀p∈y,h.get? p=hI (PySem.W.tabObj #[])) (hC:∀(w:kd),∀p∈y,(∃c,Ci.eZ (K w.params) c p)/\(K w.params).lookup p=h9)
 (F:∀(w:kd) (mg:Str->Option iv) (z:i1) (h:kA),(K w.params).In h->h.Ns la mg->mg d.name=hI (.ref z)->
  ∃fd:FuncData,(∀(s:ix) (u:iv),BindsTo s fd {[u],[]} [(x,u)])/\
   ∀base:kA,(K w.params).In base->base.Ns la mg->fy l.prog w (K w.params) mg base (CX w) k z fd [x] (sp w))
 (M:∀(w:kd) (H:Hp) (a:i1) (ns:List Int),ns.length<=n->(∀p∈y,H p=hI (.gz #[]))->Ci.uJ (K w.params) H a (ns.map V.int)->sp w [.ref a] H (λv _=>v=.bl ie) λ_ _ _=>False)
 (N:∀(w:kd) (H:Hp) (s:ix) (e:iv) (s':ix),CX w [] H s (λ_ _ _=>False) e s'->False):
 PySem.W.WalkO q j E C l.row.toRowW d [] (λf vs=>PySem.call f vs):=by
 refine Att.uQ hn L λw s₀ r mg mb z o Z cd O a vs ns G Y ho hd mZ A t m i P=>?_;let(D,Q):=hY w _ Y;let(fd,R,S):=F w mg z _ D G.T.g A;exact Bl y D G.T.g G.T.b G.T.builtins G.T.nolimit P Q (λp B=>(hC w p B).1) (λp B=>(hC w p B).2) t m (d1 i I) hr S R (λH U X=>M w H a ns i U X) λH e s'=>N w H r e s'
end L2
namespace Ci
open L2
theorem j9{W:Wd}:∀(ns:List Int),ai W G (ns.map PV.int) (ns.map V.int)
 |[]=>.nil|n::ns=>.cons .i (j9 ns)
abbrev mL(H:Hp):Hp:=λb=>match H b with
 |some (.gz _)=>h9|o=>o
def oW(H:Hp):aC (mL H) H:=λb o e=>by
 unfold mL at e;split at e
 .cases e
 .exact e
def kW{b:i1}{o:HO}(h:H b=hI o)(n:∀ps,o≠.gz ps):mL H b=hI o:=by
 unfold mL;rw [h];cases o with
 |gz ps=>exact absurd rfl (n ps)|_=>rfl
abbrev LF(K:zz8)(b:List i1):Sp:=λc H Q Z=>∃(a:i1) (ns:List Int),c=[.ref a]/\(∀p∈b,H p=hI (.gz #[]))/\uJ K H a (ns.map V.int)/\ns.length<=63/\∀d,Q (.bl ie) d
def walk{l:PySem.W.OpenLaw}{q:jX}{i:List Str}{XP:(Str->Option iv)->kA->Prop}{O:kd->kA->Prop}{d:DefRec}{K:Params->zz8}(rest:fX)(Γ:Pg)(x:Str)(j:Def)(xs:List Str)(ts:List (i1×Str))(st:k6)(D:Bool)
 (R:j.N.take j.np=[x]) (q9:j.uW=h9) (WA:d.name="law") (hn:l.most=hI 63) (ND:d.params.defaults=[]) (hr:dm (2*rest.length+2) callerA) (hY:∀(w:kd) (h:kA),O w h->(K w.params).In h/\∀p∈ts.map (·.1),h.get? p=hI (PySem.W.tabObj #[]))
 (hC:∀(w:kd),∀p∈ts.map (·.1),(∃c,eZ (K w.params) c p)/\(K w.params).lookup p=h9)
 (hM:∀(w:kd) (mg:Str->Option iv) (h:kA),(K w.params).In h->h.Ns la mg->mU (K w.params) mg Γ {K w.params,mg,xs,ts,[]})
 (hE:∀w:kd,Cy (K w.params) ts D "law" st) (S:dF (Γ.at rest D) "law" j st) (g7:rest≠[])
 (I:∀w:kd,AllK (K w.params) ts Γ rest)
 (NH:∀ns:List Int,ns.length<=63->aX (den (tab rest)) j [.lst (ns.map .int)]=.ok (.bl ie)):
 PySem.W.WalkO q i XP O l.row.toRowW d [] (λf vs=>PySem.call f vs):=by
 refine L2.GG (n:=63) (k:=2*rest.length+2) (x:=x) (CX:=λw=>dz l.prog w) (sp:=λw=>LF (K w.params) (ts.map (·.1))) (ts.map (·.1)) hn ↑2 ND hr hY hC ?_ ?_ ?_
 .intro w mg fa h KX G r;rw [WA] at r;let(f,oc,od,kV,y,T,U,V,ct,pT,e1,e2,e3,e4,e5):=hE w;have hf:fa=f:=by have z:=r.symm.trans (PySem.W.mg_of KX G e1);cases z;rfl
  subst hf;refine{PySem.W.fnOf "law" "law" (bR st) (bf st) (ax st) .none kV y T U V ct,λs u=>?_,λbase L X=>?_}
  .have Y:=S.bind kV y T U V ct [u];rw [R] at Y;exact .of_eq (Y rfl)
  .have M:=hM w mg base L X;have A:2<=2*rest.length:=by have:=List.length_pos_iff.mpr g7;lia
   let(a1,a2,a3):=nS (P:=l.prog) (w:=w) (B:=Xv) {λ_ _ z=>absurd rfl z,λ_ _ _ z=>absurd rfl z,λ_ z=>absurd rfl z} M L X rest (I w);have ok:=Lc (P:=l.prog) (w:=w) (nf:="law") (sV M rest D) L (k:=2*rest.length) S (sF (st:=st) e2 e3 e4) (λg hg=>a1 g hg) (λq hq=>a2 q hq) (λf hf=>{A,a3 f hf}) (λ_=>A) (nr (λ_ _ z=>absurd rfl z) rest (I w)) (sy (B:=Xv) {λ_ _ z=>absurd rfl z,λ_ _ _ z=>absurd rfl z,λ_ z=>absurd rfl z} rest (I w)) e5;rw [R] at ok;refine ok.imp λvs H Q E h=>?_;let(a,ns,rfl,ht,hl,b,q):=h;refine{rfl,mL H,[.lst (ns.map .int)],oW H,{λP q m=>?_,λn o e=>nomatch e},?_,?_}
   .have Z:=ht P (List.mem_map_of_mem (f:=(·.1)) m);refine{by unfold mL;rw [Z],#[],Z,trivial,λpos cv e=>nomatch e}
   .rw [q9];refine ai.cons (.l ?_ (j9 ns)) .nil;rcases hl with(h|⟨o,h⟩)|h
    .exact .inl (.inl (kW h (λ_ z=>nomatch z)))
    .exact .inl (.inr {o,kW h (λ_ z=>nomatch z)})
    .exact .inr h
   .dsimp only;rw [NH ns b];intro v G' H' _ rv;simp! [Rep] at rv;subst rv;exact q H'
 .intro w H a ns b hO IH;exact{a,ns,rfl,hO,IH,b,λ_=>rfl}
 .intro w H s e s' h;let(a,C,t,vs,H',B,rfl,F):=h;exact F.ends
noncomputable abbrev MJ(l:fX):Sg->aP:=λs=>aH (aW s) (tab l)
def TV{P:jX}{w:kd}{K:zz8}{mg:Str->Option iv}{Γ:Pg}{W:Wd}(e:K.In base)(G:base.Ns la mg)(rest:fX)(d:rest≠[])(M:∀ob,mU K mg Γ (W.at ob))(b:AllK K W.ts Γ rest):T1 P w K mg base W (MJ rest) (Γ.at rest ig) (2*rest.length):=by
 have hK:W.K=K:=(M []).hK;have hm:W.mg=mg:=(M []).hm;have c:2<=2*rest.length:=by have:=List.length_pos_iff.mpr d;lia
 have a:∀ob,lV W.K W.mg ob->_:=λob u=>nS (P:=P) (w:=w) (W:=W.at ob) (B:=aW (aF ob)) (sD (W:=W) (by rw [<-hK];exact u)) (M ob) e G rest b;refine{λob=>sV (M ob) rest ig,λob u f hf=>(a ob u).1 f hf,λob u q g=>(a ob u).2.1 q g,λob u f hf=>(a ob u).2.2 f hf,λob u=>?_,λob u=>?_,?_,rfl,c}
 .exact nr (sD (K:=K) (mg:=W.mg) (W:=W) (by rw [<-hK];exact u)).any rest b
 .exact sy (W:=W.at ob) (sD (K:=K) (mg:=W.mg) (W:=W) (by rw [<-hK];exact u)) rest b
 .show rest.isEmpty=ig
  cases rest with
  |nil=>exact absurd rfl d|cons _ _=>rfl
def walk2{l:PySem.W.OpenLaw}{q:jX}{i:List Str}{XP:(Str->Option iv)->kA->Prop}{M:kd->kA->Prop}{d:DefRec}{K:Params->zz8}(rest:fX)(g:dr)(Γ:Pg)(fl:List (Str×Str))(x:Str)(j:D2)(xs:List Str)(ts:List (i1×Str))(st:k6)
 (O:j.N.take j.np=[x]) (WA:d.name="law") (hn:l.most=hI 63) (ND:d.params.defaults=[]) (hr:dm (2*rest.length+3*g.length+2) callerA) (hY:∀(w:kd) (h:kA),M w h->(K w.params).In h/\∀p∈ts.map (·.1),h.get? p=hI (PySem.W.tabObj #[]))
 (hC:∀(w:kd),∀p∈ts.map (·.1),(∃c,eZ (K w.params) c p)/\(K w.params).lookup p=h9)
 (hM:∀(w:kd) (mg:Str->Option iv) (h:kA),(K w.params).In h->h.Ns la mg->∀ob,mU (K w.params) mg Γ {K w.params,mg,xs,ts,ob})
 (R:Bool) (hE:∀w:kd,Am (K w.params) ts R "law" "law" h9 st) (S:cx {Γ.at rest ig with hl:=R} (bY fl g) "law" "law" j st) (g7:rest≠[])
 (hA:∀w:kd,AllK (K w.params) ts Γ rest) (I:∀w:kd,nO (K w.params) ts (Γ.at rest ig) fl g)
 (Sd:∀w:kd,∀c f,fl.contains (c,f)=ie->wH (K w.params) fl c) (qe:∀w:kd,∀r∈g,∀c,r.c=hI c->wH (K w.params) fl c)
 (NH:∀ns:List Int,ns.length<=63->∃s,mr (MJ rest) (bU (MJ rest) (iN g)) j [.lst (ns.map .int)] []=.ok (.bl ie) s):
 PySem.W.WalkO q i XP M l.row.toRowW d [] (λf vs=>PySem.call f vs):=by
 refine L2.GG (n:=63) (k:=2*rest.length+3*g.length+2) (x:=x) (CX:=λw=>dz l.prog w) (sp:=λw=>LF (K w.params) (ts.map (·.1))) (ts.map (·.1)) hn ↑2 ND hr hY hC ?_ ?_ ?_
 .intro w mg fa h KX G y;rw [WA] at y;let(f,oc,od,kV,A,V,X,Y,ct,pT,e1,e2,e3,e4,e5):=hE w;have hf:fa=f:=by have z:=y.symm.trans (PySem.W.mg_of KX G e1.1);cases z;rfl
  subst hf;refine{PySem.W.fnOf "law" "law" (bR st) (bf st) (ax st) .none kV A V X Y ct,λs u=>?_,λbase D L=>?_}
  .have Z:=S.bind kV A V X Y ct [u];rw [O] at Z;exact .of_eq (Z rfl)
  .have T:=TV (P:=l.prog) (w:=w) (W:={K w.params,mg,xs,ts,[]}) D L rest g7 (hM w mg base D L) (hA w);have U:=yC D L T (Sd w) g (I w) (qe w);have ok:=Dy (nf:="law") D (T.mono (Nat.le_add_right _ (3*g.length))) U S (sF (st:=st) e2 e3 e4) e5;rw [O] at ok;refine ok.imp λvs H Q E h=>?_;let(a,ns,rfl,ht,hl,b,q):=h;refine{rfl,[],mL H,[.lst (ns.map .int)],oW H,{λP q m=>?_,λn o e=>nomatch e},sZ,?_,?_}
   .have hP:=ht P (List.mem_map_of_mem (f:=(·.1)) m);refine{by unfold mL;rw [hP],#[],hP,trivial,λpos cv e=>nomatch e}
   .refine ai.cons (.l ?_ (j9 ns)) .nil;rcases hl with(h|⟨o,h⟩)|h
    .exact .inl (.inl (kW h (λ_ z=>nomatch z)))
    .exact .inl (.inr {o,kW h (λ_ z=>nomatch z)})
    .exact .inr h
   .let(s',e):=NH ns b;have e:mr (MJ rest) (bU (MJ rest) (iN g)) j [.lst (ns.map .int)] (aF [])=.ok (.bl ie) s':=e;dsimp only;rw [e];intro v aG G' H' _ _ _ rv;simp! [Rep] at rv;subst rv;exact q H'
 .intro w H a ns b hO IH;exact{a,ns,rfl,hO,IH,b,λ_=>rfl}
 .intro w H s e s' h;let(a,C,t,vs,H',B,rfl,F):=h;exact F.ends
end Ci
namespace Hd
open PySem.W PySem.Calls
abbrev Pj(st:SharedT->Thread->Option (SharedT×Thread))(ok:Thread->Bool)(n:Nat):SharedT->Thread->Option SharedT:=
 @Nat.rec (λZ=>SharedT->Thread->Option SharedT) (λZ Z=>h9) (λZ a s t=>match through t with
  |true=>hI s|false=>match ok t with
   |false=>h9|true=>match st s t with
    |some (b,c)=>a b c|none=>h9) n
theorem rG{tb:String->Option lb}{p:jX}{w:kd}{a:Nat}{ann:Option iv}:∀{n:Nat} {s s':SharedT} {t:Thread},Pj (stepT (denote tb) p w) (stepOk a ann) n s t=hI s'->topRun tb p w a ann n s.abs t=hI s'.abs
 |0,_,_,_,h=>by cases h
 |n+1,s,s',t,h=>by
  have h:(match through t with
   |true=>hI s|false=>match stepOk a ann t with
    |false=>h9|true=>match stepT (denote tb) p w s t with
     |some (s',t')=>Pj (stepT (denote tb) p w) (stepOk a ann) n s' t'|none=>h9)=hI s':=h
  unfold topRun;cases b:through t with
  |true=>rw [b] at h;cases h;rfl
  |false=>
   rw [b] at h;cases hk:stepOk a ann t with
   |false=>rw [hk] at h;cases h
   |true=>
    rw [hk] at h;cases hs:stepT (denote tb) p w s t with
    |none=>rw [hs] at h;cases h
    |some r=>let(c,d):=r;rw [hs] at h;rw [stepT_spec hs];exact rG h
abbrev treeOf(l:List Obj):BT:=(l.foldl (λ(T,i) o=>(BT.ins T i o,i+1)) (BT.nil,0)).1
def Jd{p q:jX}{a:List Str}{b:ix->Bool}{c:Type}{g:ix->c}{i:kd->c}{N:Nat}{j:Bool}{T₀:Params->BT}{life:Life}{m₀:Nat}{ann:Option iv}{M:Nat}
 (e:opening p=plainProg p.main.scope.names) (hN:Nat.ble 600 N=ie) (f:∀s,fenceModules? p s=hI s)
 (m:∀P:Params,absHeap (T₀ P) m₀ life=boot_heap P)
 (size:∀w:kd,((boot_heap w.params).isNs la,(boot_heap w.params).nsMap la "__annotations__")=(ie,ann))
 (le:Nat.ble M N=ie)
 (run:∀(w:kd) (os:OsState),(Pj (stepT (denote treeTable) p w) (stepOk m₀ ann) M {T₀ w.params,m₀,life,Array.mk [],boot_drawn,boot_toks,os} (topStub p)).map (λs=>
  ((staticsOk (importedModules p.main.body) (boot_heap w.params) s.abs.heap&&namesBound p s.abs.heap&&gensDone s.abs&&laidKept (boot_heap w.params) s.abs.heap),openSeen q a (importedModules p.main.body) b j s.abs,g s.abs))
  =hI (ie,openGood q a,i w)):LeftO p q a b g i N j:=λw=>by
 let((h,gs,d,k,os),o,u):=cP.mp (boot_open e hN f w);obtain⟨rfl,rfl,rfl,rfl⟩:h=boot_heap w.params/\gs=Array.mk []/\d=boot_drawn/\k=boot_toks:=zx6 u;obtain⟨y,z⟩:_/\_:=by simpa only [Prod.mk.injEq] using size w
 let(s,r,l):=cP.mp (run w os);obtain⟨A,B,C⟩:_/\_/\_:=by simpa only [Prod.mk.injEq] using l
 have r:=rG r;have r:=topRun_mono (N-M) _ _ _ _ r;rw [show M+(N-M)=N by have:=Nat.le_of_ble_eq_true le;lia] at r;have hs:(boot_heap w.params).objs.size=m₀:=by rw [<-m w.params];exact absHeap_size _ _ _
 have r:topRun treeTable p w m₀ ann N {boot_heap w.params,Array.mk [],boot_drawn,boot_toks,os} (topStub p)=hI s.abs:=by
  have:({T₀ w.params,m₀,life,Array.mk [],boot_drawn,boot_toks,os}:SharedT).abs={boot_heap w.params,Array.mk [],boot_drawn,boot_toks,os}:=by show ix.mk _ _ _ _ _=_;rw [show absHeap (T₀ w.params) m₀ life=boot_heap w.params from m w.params]
  rw [<-this];exact r
 have t:topFrom treeTable p w N {boot_heap w.params,Array.mk [],boot_drawn,boot_toks,os}=hI s.abs:=by
  unfold topFrom;dsimp only;rw [y,z,hs,r];show(match staticsOk (importedModules p.main.body) (boot_heap w.params) s.abs.heap&&namesBound p s.abs.heap&&gensDone s.abs&&laidKept (boot_heap w.params) s.abs.heap with|true=>_|false=>_)=_;rw [A]
 unfold openEnds;rw [o];show(topFrom treeTable p w N _).map _=_;rw [t];exact congrArg hI (Prod.ext B C)
end Hd
namespace Hd
open PySem.W
def Rm:∀P:Params,absHeap (treeOf (boot_heap P).objs.toList) 11 {}=boot_heap P:=λP=>∅
def Rn:∀w:kd,((boot_heap w.params).isNs la,(boot_heap w.params).nsMap la "__annotations__")=(ie,hI (.ref 6)):=λw=>∅
noncomputable abbrev de(P:Params)(x:Str)(t:Tok)(v:iv):DictEntry:={hash:=PyData.keyHash P x,key:=.str x t,val:=v}
theorem holds{l:OpenLaw}{keep:List Nat}{K:Params->Frag}{as:List i1}{d:DefRec}{N:Nat}(a:l.wellSaid=ie)
 (ka:∀P,as=(K P).map (·.1))
 (left:LeftO l.row.prog (view l.row.prog keep) [] (λs=>xlAt (view l.row.prog keep) [] s&&recOk l.row.toRowW.records s) (kHook K as ka).obs (kHook K as ka).val N)
 (b:defOf (view l.row.prog keep) l.row.name=hI (d,[])) (c:l.row.prog.theDef l.row.name=hI (d.params,d.body,d.scope)) (hk:kwWritten? d.params.kwonlyargs d.params.kw_defaults=hI [])
 (ok:(chainsOk (view l.row.prog keep)&&opensWell l.row.prog&&(frees l.row.toRowW&&l.row.within.isEmpty))=ie) (g:l.row.prog.bare) (i:l.row.toRowW.promised)
 (call:WalkO (view l.row.prog keep) [] (XL (view l.row.prog keep) []) (kHook K as ka).says l.row.toRowW d [] λf vs=>PySem.call f vs):l.Holds:=
 holds_law a λj=>holds_open (N:=N) left (Hook.of (kHook K as ka)) (Hook.keeps (kHook K as ka)) (λs e=>xl_of s (Bool.and_eq_true_iff.mp e).1) XL.keeps b c hk (λs e=>recFacts_of (Bool.and_eq_true_iff.mp e).2) (by cases h:l.row.writes<;>rfl) j ok g i call
def Ra{n:Nat}{P:List iv->Prop}(h:∀a us,us.length=n->P (a::us))(us:List iv)(e:us.length=n+1):P us:=by
 cases us with
 |nil=>cases e
 |cons a r=>exact h a r (Nat.succ.inj e)
def p0{P:List iv->Prop}(h:∀b,P [b]):∀us:List iv,us.length=1->P us:=Ra λa us e=>by
 cases us with
 |nil=>exact h a|cons _ _=>cases e
theorem yD{P:List iv->Prop}(h:∀b c,P [b,c]):∀us:List iv,us.length=2->P us:=Ra λa=>p0 (P:=λus=>P (a::us)) (h a)
theorem Qk{P:List iv->Prop}(h:∀b c a2,P [b,c,a2]):∀us:List iv,us.length=3->P us:=Ra λa=>yD (P:=λus=>P (a::us)) (h a)
theorem VQ{P:List iv->Prop}(h:∀b c a2 d,P [b,c,a2,d]):∀us:List iv,us.length=4->P us:=Ra λa=>Qk (P:=λus=>P (a::us)) (h a)
theorem ar5{P:List iv->Prop}(h:∀b c a2 d e,P [b,c,a2,d,e]):∀us:List iv,us.length=5->P us:=Ra λa=>VQ (P:=λus=>P (a::us)) (h a)
end Hd
namespace KJ
open L2 Ci
theorem VW{b c:Type}{a:b}{f:b->Res c}:(Res.ok a).bind f=f a:=rfl
theorem wok{b:Type}{a:b}:(Res.ok a).well=.ok a:=rfl
theorem Z0{b:Type}{a:b}:Res.of (hI a)=.ok a:=rfl
theorem sqn{env:Sl}{k:Sl->Res Fl}:(Fl.nx env).seq k=k env:=rfl
theorem sqr{p:PV}{k:Sl->Res Fl}:(Fl.rt p).seq k=.ok (.rt p):=rfl
theorem sqb{env:Sl}{k:Sl->Res Fl}:(Fl.bk env).seq k=.ok (.bk env):=rfl
theorem sv{p:PV}:mS (hI (.val p))=.ok p:=rfl
theorem stv{p:PV}:z9 (hI (.val p))=.ok p:=rfl
theorem sto{p:PV}:z9 (hI (.own p))=.ok p:=rfl
theorem YY{a:Type}{b:Bool}{f:Bool->Res a}:yF (.bl b) f=f b:=rfl
theorem KY{i j:Int}:binOp .add (.int i) (.int j)=.ok (.int (i+j)):=rfl
theorem K1{i j:Str}:binOp .add (.str i) (.str j)=if i.length+j.length<=bT then .ok (.str (i++j)) else .bad:=rfl
theorem KZ{i j:List PV}:binOp .add (.lst i) (.lst j)=if i.length+j.length<=bT then .ok (.lst (i++j)) else .bad:=rfl
theorem Rj{i j:Int}:binOp .sub (.int i) (.int j)=.ok (.int (i-j)):=rfl
theorem Ri{i j:Int}:binOp .mul (.int i) (.int j)=if bq i||bq j then .ok (.int (i*j)) else .bad:=rfl
theorem Rh{i j:Int}:binOp .mod (.int i) (.int j)=if 0<j then .ok (.int (i%j)) else .bad:=rfl
theorem Rg{i j:Int}:binOp .fdiv (.int i) (.int j)=if 0<j/\j<1073741824 then .ok (.int (i/j)) else .bad:=rfl
theorem Y3:cB .eq=gS:=rfl
theorem Y9:cB .ne=iJ:=rfl
theorem Y8:cB .lt=vP:=rfl
theorem Y7:cB .le=vO:=rfl
theorem Y4:cB .ge=xS:=rfl
theorem Y6:cB .Ed=ql:=rfl
theorem Ro:cB .Hi=o6:=rfl
theorem oLt{i j:Int}:vP (.int i) (.int j)=.ok (.bl (decide (i<j))):=rfl
theorem oLe{i j:Int}:vO (.int i) (.int j)=.ok (.bl (decide (i<=j))):=rfl
theorem ZX{i j:Int}:xS (.int i) (.int j)=.ok (.bl (decide (j<=i))):=rfl
theorem lL{xs:List PV}:fe .len [.lst xs]=.ok (.int xs.length):=rfl
theorem lT{xs:List PV}:fe .len [.tup xs]=.ok (.int xs.length):=rfl
theorem lS{z:Str}:fe .len [.str z]=if z.length<=bT then .ok (.int z.length) else .bad:=rfl
theorem tL{xs:List PV}:fe .tuple [.lst xs]=.ok (.tup xs):=rfl
theorem aL{xs:List PV}:fe .all [.lst xs]=(Res.of (boolsOf xs)).bind λbs=>.ok (.bl (bs.all id)):=rfl
theorem tgp{i:Nat}{p:PV}{env:Sl}:(Tg.one i).put p env=.ok (env.set i (.val p)):=rfl
theorem tg2{i j:Nat}{a b:PV}{env:Sl}:(Tg.two i j).put (.tup [a,b]) env=.ok ((env.set i (.val a)).set j (.val b)):=rfl
theorem Zk{p:PV}:sE (.own p)=.val p:=rfl
theorem jA{b:Type}{a:b}{as:List b}:(a::as).length=as.length+1:=rfl
theorem jB{a:Type}:([]:List a).length=0:=rfl
theorem jC{b c:Type}{f:b->c}{a:b}{l:List b}:(a::l).map f=f a::l.map f:=rfl
theorem jD{a b:Type}{f:a->b}:([]:List a).map f=[]:=rfl
theorem jE{b:Type}{a:b}{as bs:List b}:a::as++bs=a::(as++bs):=rfl
theorem jF{a:Type}{as:List a}:[]++as=as:=rfl
theorem jG{b:Type}{a:b}{l:List b}:(a::l)[0]?=hI a:=rfl
theorem jH{b:Type}{a:b}{l:List b}{i:Nat}:(a::l)[i+1]?=l[i]?:=rfl
theorem jI{c:Type}{a b:c}{l:List c}:(a::l).set 0 b=b::l:=rfl
theorem jJ{c:Type}{a b:c}{l:List c}{i:Nat}:(a::l).set (i+1) b=a::l.set i b:=rfl
theorem jK{b:Type}{a d:b}{l:List b}:(a::l).getD 0 d=a:=rfl
theorem jL{b:Type}{a d:b}{l:List b}{i:Nat}:(a::l).getD (i+1) d=l.getD i d:=rfl
def jM{n:Nat}:0+n=n:=Nat.zero_add _
theorem jN:(!true)=ig:=rfl
theorem jO:(!false)=ie:=rfl
def jP:(ig=ie)=False:=eg
theorem wG{e:E}{xs:List PV}:yb e (.lst xs)=.ok xs:=rfl
theorem sqT{e:E}{xs:List PV}:yb e (.tup xs)=.ok xs:=rfl
theorem IY{xs:List PV}:itemsOf (.tup xs)=.ok xs:=rfl
theorem Xb{xs:List PV}:itemsOf (.lst xs)=.ok xs:=rfl
theorem Xc{z:Str}:itemsOf (.str z)=.ok (chars z):=rfl
theorem K3{i j:List PV}:binOp .add (.tup i) (.tup j)=if i.length+j.length<=bT then .ok (.tup (i++j)) else .bad:=rfl
theorem jQ{b:Type}{f:b->b}{a:b}{l:List b}:(a::l).modify 0 f=f a::l:=rfl
def jR{b:Type}{f:b->b}{a:b}{l:List b}{i:Nat}:(a::l).modify (i+1) f=a::l.modify i f:=by simp
theorem jS{b:Type}{a:b}:ll 0 a=[]:=id rfl
theorem jT{b:Type}{a:b}{n:Nat}:ll (n+1) a=a::ll n a:=id rfl
def jU{n:Nat}:(n==n)=ie:=beq_self_eq_true n
abbrev J:=lj @jS (lj @jT (lj @jU (lj @VW (lj @wok (lj @Z0 (lj @sqn (lj @sqr (lj @sqb (lj @sv (lj @stv (lj @sto (lj @YY (lj @KY (lj @K1 (lj @KZ (lj @Rj (lj @Ri (lj @Rh (lj @Rg (lj @Y3 (lj @Y9 (lj @Y8 (lj @Y7 (lj @Y4 (lj @Y6 (lj @Ro (lj @oLt (lj @oLe (lj @ZX (lj @lL (lj @lT (lj @lS (lj @tL (lj @aL (lj @tgp (lj @tg2 (lj @Zk (lj @jA (lj @jB (lj @jC (lj @jD (lj @jE (lj @jF (lj @jG (lj @jH (lj @jI (lj @jJ (lj @jK (lj @jL (lj @jM (lj @jN (lj @jO (lj @jP (lj @wG (lj @sqT (lj @IY (lj @Xb (lj @Xc (lj @K3 (lj @jQ (@jR)))))))))))))))))))))))))))))))))))))))))))))))))))))))))))))
def Mw{B:aP}{n:Str}{d:Def}{r:List (Str×Def)}:aH B ((n,d)::r) n=aX (aH B r) d:=by funext as;simp [aH]
def Mx{B:aP}{n:Str}{d:Def}{r:List (Str×Def)}(h:(f==n)=ig):aH B ((n,d)::r) f=aH B r f:=by funext as;simp [aH,h]
theorem om{B:aP}:∀(n:Nat) {T:List (Str×Def)},((T.take n).all λx=>!(f==x.1))=ie->aH B T f=aH B (T.drop n) f
 |0,_,_=>rfl|n+1,[],_=>rfl|n+1,(m,d)::r,h=>by rw [List.take_succ_cons,List.all_cons,zza,Bool.not_eq_true'] at h;exact(Mx h.1).trans (om n h.2)
def oq{B:aP}{d:Def}{r T:List (Str×Def)}(k:Nat)(h:((T.take k).all λx=>!(f==x.1))=ie:=by decide+kernel)(e:T.drop k=(f,d)::r:=by rfl):aH B T f=aX (aH B r) d:=by rw [om k h,e];exact Mw
end KJ
local macro_rules | `(#v[]) => `(.nil) | `(#v[$x]) => `(.cons $x .nil) | `(#v[$x, $xs,*]) => `(.cons $x #v[$xs,*]) | `(!$n:num) => `(.var $n) | `(¬$n:num) => `(.cst (.int $n))
namespace K74
open L2 Ci
abbrev du:Def:={["_law_kept","_law_kinds","_law_some"],1,#v[.set 1 (.lst #v[.zq "NoBack" (!0),.zq "NoFit" (!0),.zq "NoFloor" (!0),.zq "NoName" (!0)]),.set 1 (.bin .add (!1) (.lst #v[.zq "NoSign" (!0),.zq "NoSize" (!0),.zq "NoSpot" (!0)])),.set 1 (.bin .add (!1) (.lst #v[.zq "NoText" (!0),.zq "NoWay" (!0)])),.ite (.or (.cmp .ne (.dD .jz (!1) #v[.cst (.bl ie)]) (¬1)) (.not (.zq (zu 0) (!0)))) #v[.ret (.cst (.str "wrong"))] .nil,.set 2 (.lst #v[.cst (.str "no back"),.cst (.str "no fit"),.cst (.str "no floor"),.cst (.str (zu 48)),.cst (.str "no sign"),.cst (.str "no size"),.cst (.str "no spot"),.cst (.str "no text"),.cst (.str "no way")]),.ret (.sub (!2) (.dD .index (!1) #v[.cst (.bl ie)]))],h9}
abbrev fi:Def:={["thing"],1,#v[.ret (.and (.ty .int (!0)) (.not (.ty .bool (!0))))],h9}
abbrev lY:Def:={["thing"],1,#v[.ite (.or (.not (.ty .str (!0))) (.not (.ch .le .le (¬1) (.blt .len #v[!0]) (.glob "LONGEST_NAME" (.int 6))))) #v[.ret (.cst (.bl ig))] .nil,.ret (.blt .all #v[.comp 1 [] (.one 0) (.seq (!0)) (.cmp .Ed (!0) (.glob "LETTERS" (.str (zu 10))))])],h9}
abbrev iw:Def:={["thing"],1,#v[.ite (.not (.call "is_name" #v[!0])) #v[.raise "NoName" "a name has 1 to 6 letters a to z"] .nil],h9}
abbrev b8:Def:={["floor","upwards","rows","column"],1,#v[.set 1 (.EG (!0)),.own 2 (.lst .nil),.eS (.one 3) (.pU (.blt .len #v[.sub (!0) (¬0)])) #v[.app 2 (.dD .join (.cst (.str "")) #v[.comp 1 [3] (.one 0) (.seq (!1)) (.sub (!0) (!1))])],.ret (.blt .tuple #v[.Ks 2])],h9}
abbrev bI:Def:={["floor"],1,#v[.ret (.blt .tuple #v[.comp 1 [] (.one 0) (.seq (!0)) (.rev (!0))])],h9}
abbrev eY:Def:={["thing"],1,#v[.ret (.and (.ty .tuple (!0)) (.and (.cmp .eq (.blt .len #v[!0]) (¬2)) (.and (.call (zu 44) #v[.sub (!0) (¬0)]) (.call (zu 44) #v[.sub (!0) (¬1)]))))],h9}
abbrev cu:Def:={["floor","spot"],2,#v[.ret (.and (.ch .le .lt (¬0) (.sub (!1) (¬0)) (.blt .len #v[!0])) (.ch .le .lt (¬0) (.sub (!1) (¬1)) (.blt .len #v[.sub (!0) (.sub (!1) (¬0))])))],h9}
abbrev bb:Def:={["floor","spot"],2,#v[.ite (.not (.and (.call "is_spot" #v[!1]) (.call (zu 9) #v[!0,!1]))) #v[.raise "NoSpot" "the spot is not on the floor"] .nil],h9}
abbrev dg:Def:={["thing"],1,#v[.ret (.and (.ty .str (!0)) (.and (.cmp .eq (.blt .len #v[!0]) (¬1)) (.cmp .Ed (!0) (.glob "SIGNS" (.str (zu 20))))))],h9}
abbrev dh:Def:={["sign"],1,#v[.ite (.not (.call (zu 34) #v[!0])) #v[.raise "NoSign" "this is no sign of a floor"] .nil],h9}
abbrev gd:Def:={["thing"],1,#v[.ite (.or (.not (.ty .str (!0))) (.not (.ch .le .le (¬1) (.blt .len #v[!0]) (.glob "LONGEST" (.int 12))))) #v[.ret (.cst (.bl ig))] .nil,.ret (.blt .all #v[.comp 1 [] (.one 0) (.seq (!0)) (.call (zu 34) #v[!0])])],h9}
abbrev dI:Def:={["thing"],1,#v[.ite (.or (.not (.ty .tuple (!0))) (.not (.ch .le .le (¬1) (.blt .len #v[!0]) (.glob "LONGEST" (.int 12))))) #v[.ret (.cst (.bl ig))] .nil,.ite (.not (.blt .all #v[.comp 1 [] (.one 0) (.seq (!0)) (.call "is_row" #v[!0])])) #v[.ret (.cst (.bl ig))] .nil,.ret (.blt .all #v[.comp 1 [0] (.one 0) (.seq (!0)) (.cmp .eq (.blt .len #v[!0]) (.blt .len #v[.sub (!1) (¬0)]))])],h9}
abbrev bQ:Def:={["one","other"],2,#v[.ite (.cmp .ne (.blt .len #v[!0]) (.blt .len #v[!1])) #v[.raise "NoFit" "the floors have not as many rows"] .nil,.ite (.cmp .gt (.bin .add (.blt .len #v[.sub (!0) (¬0)]) (.blt .len #v[.sub (!1) (¬0)])) (.glob "LONGEST" (.int 12))) #v[.raise "NoFit" "there were more than 12 columns"] .nil,.ret (.blt .tuple #v[.comp 2 [] (.two 0 1) (.zip #v[!0,!1]) (.bin .add (!0) (!1))])],h9}
abbrev b9:Def:={["one","other"],2,#v[.ite (.cmp .ne (.blt .len #v[.sub (!0) (¬0)]) (.blt .len #v[.sub (!1) (¬0)])) #v[.raise "NoFit" "the floors have not as many columns"] .nil,.ite (.cmp .gt (.bin .add (.blt .len #v[!0]) (.blt .len #v[!1])) (.glob "LONGEST" (.int 12))) #v[.raise "NoFit" "there were more than 12 rows"] .nil,.ret (.bin .add (!0) (!1))],h9}
abbrev di:Def:={["floor","spot","sign","signs","changed"],3,#v[.set 3 (.sub (!0) (.sub (!1) (¬0))),.set 4 (.bin .add (.bin .add (.slice (!3) .no (.some (.sub (!1) (¬1)))) (!2)) (.slice (!3) (.some (.bin .add (.sub (!1) (¬1)) (¬1))) .no)),.ret (.bin .add (.bin .add (.slice (!0) .no (.some (.sub (!1) (¬0)))) (.tup #v[!4])) (.slice (!0) (.some (.bin .add (.sub (!1) (¬0)) (¬1))) .no))],h9}
abbrev c7:Def:={["_law_script","_law_k"],2,#v[.ite (.cmp .lt (!1) (.blt .len #v[!0])) #v[.ret (.sub (!0) (!1))] .nil,.ite (.cmp .eq (!0) (.lst .nil)) #v[.ret (¬0)] .nil,.ret (.bin .add (.bin .mul (.sub (!0) (.bin .mod (!1) (.blt .len #v[!0]))) (¬31)) (!1))],h9}
abbrev c9:Def:={["_law_script","_law_k","_law_many","_law_drawn"],3,#v[.set 3 (.bin .mod (.bin .mul (.bin .add (.call (zu 42) #v[!0,!1]) (.bin .mul (¬6151) (.bin .add (!1) (¬1)))) (¬40692)) (¬2147483399)),.ret (.bin .mod (.bin .mod (.bin .add (.bin .mul (!3) (!3)) (.bin .fdiv (!3) (¬31))) (¬2147483629)) (!2))],h9}
abbrev cf:Def:={["_law_script","_law_at","_law_most","_law_rows","_law_columns","_law_shuts","_law_top","_law_made_here","_law_row","_law_signs","_law_column","_law_drawn"],3,#v[.set 3 (.bin .add (¬1) (.call (zu 3) #v[!0,!1,!2])),.set 4 (.bin .add (¬1) (.call (zu 3) #v[!0,.bin .add (!1) (¬1),!2])),.set 5 (.sub (.lst #v[¬0,¬2,¬4,¬6]) (.call (zu 3) #v[!0,.bin .add (!1) (¬2),¬4])),.set 6 (.sub (.lst #v[¬1,¬2,¬3,¬10]) (.call (zu 3) #v[!0,.bin .add (!1) (¬3),¬4])),.own 7 (.lst .nil),.eS (.one 8) (.pU (!3)) #v[.set 9 (.cst (.str "")),.eS (.one 10) (.pU (!4)) #v[.set 11 (.call (zu 3) #v[!0,.bin .add (.bin .add (.bin .add (!1) (¬4)) (.bin .mul (!2) (!8))) (!10),.bin .mul (¬12) (!6)]),.set 9 (.bin .add (!9) (.ite (.cmp .lt (.bin .mod (!11) (¬12)) (!5)) (.cst (.str "#")) (.blt .str #v[.bin .fdiv (!11) (¬12)])))],.app 7 (!9)],.ret (.blt .tuple #v[.Ks 7])],h9}
abbrev br:Def:={["_law_script","_law_at","_law_names","_law_name","_law_way","_law_spot","_law_one","_law_other"],2,#v[.set 2 (.lst #v[.cst (.str "a"),.cst (.str "tu"),.cst (.str "bcdefg"),.cst (.str "vwxyz")]),.par 3 4 #v[.sub (!2) (.call (zu 3) #v[!0,!1,¬4]),.call (zu 3) #v[!0,.bin .add (!1) (¬1),¬10]],.ite (.cmp .lt (!4) (¬3)) #v[.ret (.tup #v[.cst (.str "lay"),!3,.call (zu 35) #v[!0,.bin .add (!1) (¬10),¬3]])] .nil,.ite (.cmp .lt (!4) (¬6)) #v[.ret (.tup #v[.sub (.lst #v[.cst (.str "take"),.cst (.str "turn"),.cst (.str (zu 17))]) (.bin .sub (!4) (¬3)),!3])] .nil,.ite (.cmp .lt (!4) (¬8)) #v[.set 5 (.tup #v[.call (zu 3) #v[!0,.bin .add (!1) (¬2),¬4],.call (zu 3) #v[!0,.bin .add (!1) (¬3),¬4]]),.ret (.tup #v[.cst (.str "sign"),!3,!5,.sub (.cst (.str "#0359x")) (.call (zu 3) #v[!0,.bin .add (!1) (¬4),¬6])])] .nil,.par 6 7 #v[.sub (!2) (.call (zu 3) #v[!0,.bin .add (!1) (¬5),¬4]),.sub (!2) (.call (zu 3) #v[!0,.bin .add (!1) (¬6),¬4])],.ret (.tup #v[.cst (.str "join"),!3,.cmp .eq (.call (zu 3) #v[!0,.bin .add (!1) (¬7),¬2]) (¬0),!6,!7])],h9}
abbrev aU:Def:={["_law_floor_here",zu 37,"_law_made_here","_law_row","_law_column","_law_line"],2,#v[.ite (.cmp .eq (.sub (!1) (¬0)) (.cst (.str "turn"))) #v[.set 2 (.blt .tuple #v[.comp 1 [0] (.one 0) (.pU (.blt .len #v[.sub (!0) (¬0)])) (.dD .join (.cst (.str "")) #v[.comp 1 [0] (.one 0) (.seq (.rev (!1))) (.sub (!0) (!1))])]),.ret (.tup #v[!2,!2])] .nil,.ite (.cmp .eq (.sub (!1) (¬0)) (.cst (.str (zu 17)))) #v[.set 2 (.blt .tuple #v[.comp 1 [] (.one 0) (.seq (!0)) (.rev (!0))]),.ret (.tup #v[!2,!2])] .nil,.Cq (.two 3 4) (.sub (!1) (¬2)),.ite (.or (.cmp .ge (!3) (.blt .len #v[!0])) (.cmp .ge (!4) (.blt .len #v[.sub (!0) (¬0)]))) #v[.ret (.tup #v[!0,.cst (.str "no spot")])] .nil,.ite (.cmp .eq (.sub (!1) (¬3)) (.cst (.str "x"))) #v[.ret (.tup #v[!0,.cst (.str "no sign")])] .nil,.set 5 (.sub (!0) (!3)),.set 5 (.bin .add (.bin .add (.slice (!5) .no (.some (!4))) (.sub (!1) (¬3))) (.slice (!5) (.some (.bin .add (!4) (¬1))) .no)),.ret (.tup #v[.bin .add (.bin .add (.slice (!0) .no (.some (!3))) (.tup #v[!5])) (.slice (!0) (.some (.bin .add (!3) (¬1))) .no),.tup #v[.sub (.sub (!0) (!3)) (!4)]])],h9}
abbrev aj:Def:={["_law_known",zu 37,"_law_rest","_law_needed","_law_one","_law_other","_law_made_here","_law_told_here"],2,#v[.vQ 2 (.fI 1 [0,1] (.one 0) (.seq (!0)) (.cmp .ne (!0) (.sub (!2) (¬1))) (.tup #v[!0,.sub (!1) (!0)])),.ite (.cmp .eq (.sub (!1) (¬0)) (.cst (.str "lay"))) #v[.put 2 (.sub (!1) (¬1)) (.sub (!1) (¬2)),.bV 2,.ret (.tup #v[!2,.cmp .Ed (.sub (!1) (¬1)) (!0)])] .nil,.set 3 (.ite (.cmp .ne (.sub (!1) (¬0)) (.cst (.str "join"))) (.lst #v[.sub (!1) (¬1)]) (.lst #v[.sub (!1) (¬3),.sub (!1) (¬4)])),.ite (.cmp .ne (.fI 1 [0] (.one 0) (.seq (!3)) (.cmp .Hi (!0) (!1)) (!0)) (.lst .nil)) #v[.ret (.tup #v[!0,.cst (.str (zu 48))])] .nil,.ite (.cmp .eq (.sub (!1) (¬0)) (.cst (.str "take"))) #v[.bV 2,.ret (.tup #v[!2,.sub (!0) (.sub (!1) (¬1))])] .nil,.ite (.cmp .eq (.sub (!1) (¬0)) (.cst (.str "join"))) #v[.par 4 5 #v[.sub (!0) (.sub (!1) (¬3)),.sub (!0) (.sub (!1) (¬4))],.set 6 (.ite (.and (.not (.sub (!1) (¬2))) (.cmp .eq (.blt .len #v[.sub (!4) (¬0)]) (.blt .len #v[.sub (!5) (¬0)]))) (.bin .add (!4) (!5)) (.cst .aR)),.ite (.and (.sub (!1) (¬2)) (.cmp .eq (.blt .len #v[!4]) (.blt .len #v[!5]))) #v[.set 6 (.blt .tuple #v[.comp 2 [] (.two 0 1) (.zip #v[!4,!5]) (.bin .add (!0) (!1))])] .nil,.ite (.or (.cmp .is (!6) (.cst .aR)) (.or (.cmp .gt (.blt .len #v[!6]) (¬12)) (.cmp .gt (.blt .len #v[.sub (!6) (¬0)]) (¬12)))) #v[.ret (.tup #v[!0,.cst (.str "no fit")])] .nil,.set 7 (!6)] #v[.Cq (.two 6 7) (.call (zu 18) #v[.sub (!0) (.sub (!1) (¬1)),!1]),.ite (.ty .str (!7)) #v[.ret (.tup #v[!0,!7])] .nil],.put 2 (.sub (!1) (¬1)) (!6),.bV 2,.ret (.tup #v[!2,!7])],h9}
abbrev gG:D2:={["self","name","floor"],3,(.cons (.ite (.pu (.cmp .is (!2) (.cst .aR)))
 (.cons (.ex (.qV (.fld 0 (zu 22)) (!1)))
 .nil)
 (.cons (.BM (.fld 0 (zu 22)) (!1) (!2))
 .nil))
 .nil)}
abbrev gJ:D2:={["self","word","name","floor"],4,(.cons (.ex (.uM (.fld 0 "done") (.pu (.tup #v[!1,!2,.get (.con (.fld 0 (zu 22))) (!2),!3]))))
 (.cons (.mw "Atlas" 0 "undone" (.vC .nil))
 (.cons (.ex (.met (!0) "Atlas" "give" #v[!2,!3]))
 .nil)))}
abbrev ir:D2:={["self","name","floor","had_one"],3,(.cons (.p (.ite (.not (.call (zu 45) #v[!2]))
 (.cons (.raise "NoFloor" "this is no floor")
 .nil)
 .nil))
 (.cons (.p (.expr (.call (zu 29) #v[!1])))
 (.cons (.p (.set 3 (.cmp .Ed (!1) (.con (.fld 0 (zu 22))))))
 (.cons (.ex (.met (!0) "Atlas" "step" #v[.cst (.str "lay"),!1,!2]))
 (.cons (.p (.ret (!3)))
 .nil)))))}
abbrev gF:D2:={["self","step"],1,(.cons (.p (.ite (.cmp .eq (.blt .len #v[.con (.fld 0 "done")]) (¬0))
 (.cons (.raise "NoBack" "there is nothing to take back")
 .nil)
 .nil))
 (.cons (.set 1 (.x6 (.fld 0 "done")))
 (.cons (.ex (.uM (.fld 0 "undone") (.pu (!1))))
 (.cons (.ex (.met (!0) "Atlas" "give" #v[.sub (!1) (¬1),.sub (!1) (¬2)]))
 (.cons (.p (.ret (.sub (!1) (¬0))))
 .nil)))))}
abbrev dG:D2:={["self"],1,(.cons (.mw "Atlas" 0 (zu 22) .AS)
 (.cons (.mw "Atlas" 0 "done" (.vC .nil))
 (.cons (.mw "Atlas" 0 "undone" (.vC .nil))
 .nil)))}
abbrev gM:D2:={["self","other"],1,(.cons (.set 1 (.new "Atlas" .nil))
 (.cons (.mw "Atlas" 1 (zu 22) (.AN (.fld 0 (zu 22))))
 (.cons (.mw "Atlas" 1 "done" (.xC (.fld 0 "done")))
 (.cons (.mw "Atlas" 1 "undone" (.xC (.fld 0 "undone")))
 (.cons (.p (.ret (!1)))
 .nil)))))}
abbrev dH:D2:={["self","name"],2,(.cons (.p (.expr (.call (zu 29) #v[!1])))
 (.cons (.p (.ite (.cmp .Hi (!1) (.con (.fld 0 (zu 22))))
  (.cons (.raise "NoName" "no floor has this name")
  .nil)
  .nil))
 (.cons (.p (.ret (.sub (.con (.fld 0 (zu 22))) (!1))))
 .nil)))}
abbrev gH:D2:={["self","name","is_east","one","other","first","second","joined"],5,(.cons (.p (.expr (.call (zu 29) #v[!1])))
 (.cons (.set 5 (.met (!0) "Atlas" (zu 25) #v[!3]))
 (.cons (.set 6 (.met (!0) "Atlas" (zu 25) #v[!4]))
 (.cons (.p (.set 7 (.ite (!2) (.call (zu 27) #v[!5,!6]) (.call (zu 39) #v[!5,!6]))))
 (.cons (.ex (.met (!0) "Atlas" "step" #v[.cst (.str "join"),!1,!7]))
 (.cons (.p (.ret (!7)))
 .nil))))))}
abbrev gL:D2:={["self","name","turned"],2,(.cons (.set 2 (.c1 (zu 13) #v[.met (!0) "Atlas" (zu 25) #v[!1]]))
 (.cons (.ex (.met (!0) "Atlas" "step" #v[.cst (.str "turn"),!1,!2]))
 (.cons (.p (.ret (!2)))
 .nil)))}
abbrev fh:D2:={["self","name","mirrored"],2,(.cons (.set 2 (.c1 (zu 8) #v[.met (!0) "Atlas" (zu 25) #v[!1]]))
 (.cons (.ex (.met (!0) "Atlas" "step" #v[.cst (.str (zu 17)),!1,!2]))
 (.cons (.p (.ret (!2)))
 .nil)))}
abbrev gK:D2:={["self","name","floor"],2,(.cons (.set 2 (.met (!0) "Atlas" (zu 25) #v[!1]))
 (.cons (.ex (.met (!0) "Atlas" "step" #v[.cst (.str "take"),!1,.cst .aR]))
 (.cons (.p (.ret (!2)))
 .nil)))}
abbrev gI:D2:={["self","name","spot","sign","floor"],4,(.cons (.set 4 (.met (!0) "Atlas" (zu 25) #v[!1]))
 (.cons (.p (.expr (.call (zu 12) #v[!4,!2])))
 (.cons (.p (.expr (.call (zu 40) #v[!3])))
 (.cons (.ex (.met (!0) "Atlas" "step" #v[.cst (.str "sign"),!1,.call (zu 38) #v[!4,!2,!3]]))
 (.cons (.p (.ret (.sub (.sub (!4) (.sub (!2) (¬0))) (.sub (!2) (¬1)))))
 .nil)))))}
abbrev fK:D2:={["self"],1,(.cons (.p (.ret (.tup #v[.blt .len #v[.con (.fld 0 "done")],.blt .len #v[.con (.fld 0 "undone")]])))
 .nil)}
abbrev fL:D2:={["self"],1,(.cons (.p (.ret (.blt .sorted #v[.con (.fld 0 (zu 22))])))
 .nil)}
abbrev fJ:D2:={["self","step"],1,(.cons (.p (.ite (.cmp .eq (.blt .len #v[.con (.fld 0 "undone")]) (¬0))
 (.cons (.raise "NoBack" "there is nothing to do again")
 .nil)
 .nil))
 (.cons (.set 1 (.x6 (.fld 0 "undone")))
 (.cons (.ex (.uM (.fld 0 "done") (.pu (!1))))
 (.cons (.ex (.met (!0) "Atlas" "give" #v[.sub (!1) (¬1),.sub (!1) (¬3)]))
 (.cons (.p (.ret (.sub (!1) (¬0))))
 .nil)))))}
def mD:D2:={[],1000,.nil}
abbrev jV:D2:={["_law_atlas",zu 37],2,(.cons (.ite (.pu (.cmp .Ed (.sub (!1) (¬0)) (.tup #v[.cst (.str "lay"),.cst (.str "take")])))
 (.cons (.ret (.Hl (zu 30) [1,0] (.ite (.cmp .eq (.sub (!0) (¬0)) (.cst (.str "lay"))) (.met (!1) "Atlas" "lay" #v[.sub (!0) (¬1),.sub (!0) (¬2)]) (.met (!1) "Atlas" "take" #v[.sub (!0) (¬1)]))))
 .nil)
 .nil)
 (.cons (.ite (.pu (.cmp .eq (.sub (!1) (¬0)) (.cst (.str "sign"))))
  (.cons (.ret (.Hl (zu 30) [1,0] (.tup #v[.met (!1) "Atlas" "sign" #v[.sub (!0) (¬1),.sub (!0) (¬2),.sub (!0) (¬3)]])))
  .nil)
  .nil)
 (.cons (.ite (.pu (.cmp .eq (.sub (!1) (¬0)) (.cst (.str "join"))))
  (.cons (.ret (.Hl (zu 30) [1,0] (.met (!1) "Atlas" "join" #v[.sub (!0) (¬1),.sub (!0) (¬2),.sub (!0) (¬3),.sub (!0) (¬4)])))
  .nil)
  .nil)
 (.cons (.ret (.Hl (zu 30) [1,0] (.ite (.cmp .eq (.sub (!0) (¬0)) (.cst (.str "turn"))) (.met (!1) "Atlas" "turn" #v[.sub (!0) (¬1)]) (.met (!1) "Atlas" (zu 17) #v[.sub (!0) (¬1)]))))
 .nil))))}
abbrev fM:D2:={["_law_atlas"],1,(.cons (.ret (.dict (.oj 1 [0] (.one 0) (.met (!0) "Atlas" "names" .nil) (.tup #v[.pu (!0),.met (!1) "Atlas" (zu 25) #v[!0]]))))
 .nil)}
abbrev iu:D2:={["_law_script","_law_atlas","_law_rows","_law_k",zu 37,"_law_known","_law_due","_law_many","_law_other","_law_rounds","_law_one","_law_at","_law_here","_law_count"],1,(.cons (.par 1 2 #v[.new "Atlas" .nil,.pu (.lst #v[.Mt,.Mv [("a","0")],.Mv [("a","0"),("b","1#")]])])
 (.cons (.ex (.met (!1) "Atlas" "lay" #v[.cst (.str "a"),.tup #v[.cst (.str "0")]]))
 (.cons (.ex (.met (!1) "Atlas" "lay" #v[.cst (.str "b"),.tup #v[.cst (.str "1#")]]))
 (.cons (.eS (.one 3) (.pU (¬8))
  (.cons (.p (.set 4 (.call (zu 31) #v[!0,.bin .add (¬1000) (.bin .mul (¬60) (!3))])))
  (.cons (.p (.Cq (.two 5 6) (.call (zu 14) #v[.sub (!2) (.neg (¬1)),!4])))
  (.cons (.ex (.p8 (zu 16) #v[!1,!4]))
  (.cons (.p (.set 2 (.bin .add (!2) (.bin .mul (.lst #v[!5]) (.blt .int #v[.not (.ty .str (!6))])))))
  .nil)))))
 (.cons (.p (.set 7 (.bin .sub (.blt .len #v[!2]) (¬1))))
 (.cons (.ex (.met (!1) "Atlas" "back" .nil))
 (.cons (.ex (.met (!1) "Atlas" "back" .nil))
 (.cons (.set 8 (.met (!1) "Atlas" "twin" .nil))
 (.cons (.ite (.or (.cmp .ne (.met (!8) "Atlas" "marks" .nil) (.pu (.tup #v[.bin .sub (!7) (¬2),¬2]))) (.cmp .Cm (.p8 (zu 7) #v[!8]) (.pu (.sub (!2) (.neg (¬3))))))
  (.cons (.p (.ret (.cst (.bl ig))))
  .nil)
  .nil)
 (.cons (.p (.set 9 (.lst #v[.tup #v[!1,¬3000],.tup #v[!8,¬4000]])))
 (.cons (.eS (.two 10 11) (.seq (.ite (.cmp .eq (.call (zu 3) #v[!0,¬5,¬2]) (¬0)) (!9) (.rev (!9))))
  (.cons (.eS (.one 3) (.seq (.tup #v[¬2,¬1]))
   (.cons (.ex (.met (!10) "Atlas" "forth" .nil))
   (.cons (.ite (.cmp .Cm (.p8 (zu 7) #v[!10]) (.pu (.sub (!2) (.neg (!3)))))
    (.cons (.p (.ret (.cst (.bl ig))))
    .nil)
    .nil)
   .nil)))
  (.cons (.p (.par 12 13 #v[.sub (!2) (.neg (¬1)),!7]))
  (.cons (.eS (.one 3) (.pU (¬3))
   (.cons (.p (.set 4 (.call (zu 31) #v[!0,.bin .add (!11) (.bin .mul (¬60) (!3))])))
   (.cons (.p (.Cq (.two 12 6) (.call (zu 14) #v[!12,!4])))
   (.cons (.ite (.cmp .ne (.p8 (zu 16) #v[!10,!4]) (.pu (!6)))
    (.cons (.p (.ret (.cst (.bl ig))))
    .nil)
    .nil)
   (.cons (.p (.set 13 (.bin .add (!13) (.blt .int #v[.not (.ty .str (!6))]))))
   .nil)))))
  (.cons (.eS (.one 3) (.pU (!13))
   (.cons (.ex (.met (!10) "Atlas" "back" .nil))
   .nil))
  (.cons (.ite (.or (.cmp .Cm (.p8 (zu 7) #v[!10]) (.pu .Mt)) (.cmp .ne (.Hl (zu 30) [10] (.met (!0) "Atlas" "back" .nil)) (.pu (.cst (.str "no back")))))
   (.cons (.p (.ret (.cst (.bl ig))))
   .nil)
   .nil)
  (.cons (.eS (.one 3) (.pU (!13))
   (.cons (.ex (.met (!10) "Atlas" "forth" .nil))
   .nil))
  (.cons (.ite (.or (.cmp .Cm (.p8 (zu 7) #v[!10]) (.pu (!12))) (.cmp .ne (.met (!10) "Atlas" "marks" .nil) (.pu (.tup #v[!13,¬0]))))
   (.cons (.p (.ret (.cst (.bl ig))))
   .nil)
   .nil)
  .nil))))))))
 (.cons (.p (.ret (.cst (.bl ie))))
 .nil))))))))))))}
def T0:List (Str×Def):=[]
abbrev T1:List (Str×Def):=((zu 5:Str),du)::T0
abbrev T2:List (Str×Def):=((zu 44:Str),fi)::T1
abbrev T3:List (Str×Def):=(("is_name":Str),lY)::T2
abbrev T4:List (Str×Def):=((zu 29:Str),iw)::T3
abbrev T5:List (Str×Def):=((zu 13:Str),b8)::T4
abbrev T6:List (Str×Def):=((zu 8:Str),bI)::T5
abbrev T7:List (Str×Def):=(("is_spot":Str),eY)::T6
abbrev T8:List (Str×Def):=((zu 9:Str),cu)::T7
abbrev T9:List (Str×Def):=((zu 12:Str),bb)::T8
abbrev Qi:List (Str×Def):=((zu 34:Str),dg)::T9
abbrev VB:List (Str×Def):=((zu 40:Str),dh)::Qi
abbrev VC:List (Str×Def):=(("is_row":Str),gd)::VB
abbrev YQ:List (Str×Def):=((zu 45:Str),dI)::VC
abbrev YR:List (Str×Def):=((zu 27:Str),bQ)::YQ
abbrev YS:List (Str×Def):=((zu 39:Str),b9)::YR
abbrev YT:List (Str×Def):=((zu 38:Str),di)::YS
abbrev VD:List (Str×Def):=((zu 42:Str),c7)::YT
abbrev UD:List (Str×Def):=((zu 3:Str),c9)::VD
abbrev QV:List (Str×Def):=((zu 35:Str),cf)::UD
abbrev YU:List (Str×Def):=((zu 31:Str),br)::QV
abbrev VE:List (Str×Def):=((zu 18:Str),aU)::YU
abbrev pY:List (Str×Def):=((zu 14:Str),aj)::VE
def U0:List (Str×D2):=[]
abbrev U1:List (Str×D2):=(("Atlas.give":Str),gG)::U0
abbrev U2:List (Str×D2):=(("Atlas.step":Str),gJ)::U1
abbrev U3:List (Str×D2):=(("Atlas.lay":Str),ir)::U2
abbrev U4:List (Str×D2):=((zu 41:Str),gF)::U3
abbrev U5:List (Str×D2):=((zu 24:Str),dG)::U4
abbrev U6:List (Str×D2):=(("Atlas.twin":Str),gM)::U5
abbrev U7:List (Str×D2):=((zu 23:Str),dH)::U6
abbrev U8:List (Str×D2):=(("Atlas.join":Str),gH)::U7
abbrev U9:List (Str×D2):=(("Atlas.turn":Str),gL)::U8
abbrev U10:List (Str×D2):=((zu 47:Str),fh)::U9
abbrev U11:List (Str×D2):=(("Atlas.take":Str),gK)::U10
abbrev U12:List (Str×D2):=(("Atlas.sign":Str),gI)::U11
abbrev U13:List (Str×D2):=(("Atlas.marks":Str),fK)::U12
abbrev U14:List (Str×D2):=(("Atlas.names":Str),fL)::U13
abbrev U15:List (Str×D2):=((zu 43:Str),fJ)::U14
abbrev U16:List (Str×D2):=((zu 30:Str),mD)::U15
abbrev Qj:List (Str×D2):=((zu 16:Str),jV)::U16
abbrev pZ:List (Str×D2):=((zu 7:Str),fM)::Qj
noncomputable abbrev F1:Sg->aP:=λs=>aH (aW s) pY
noncomputable abbrev F2:gA:=bU F1 pZ
end K74
namespace K74
open L2 Ci KJ
noncomputable abbrev sp(r c:Int):PV:=.tup [.int r,.int c]
noncomputable abbrev mR(ns:List Int):PV:=.lst (ns.map .int)
theorem Y5:cB .gt=xU:=rfl
theorem ZY{i j:Int}:xU (.int i) (.int j)=.ok (.bl (decide (j<i))):=rfl
theorem sp0{r c:Int}:aB (sp r c) (.int 0)=.ok (.int r):=rfl
theorem sp1{r c:Int}:aB (sp r c) (.int 1)=.ok (.int c):=rfl
theorem nI{i j:Int}:iJ (.int i) (.int j)=.ok (.bl (!(i==j))):=rfl
theorem eI{i j:Int}:gS (.int i) (.int j)=.ok (.bl (i==j)):=rfl
abbrev J2:=lj @sp0 (lj @sp1 (lj @Y5 (lj @ZY (lj @nI (lj @eI (lj @Xb (lj @IY (@Xc))))))))
set_option hygiene false
local macro_rules|`(tactic|simp! only [$x,*] $[$l:location]?)=>do let q<-("aX ft e9 bJ dq az bw G6 uz eO ni oO ll Nat.reduceAdd Nat.reduceSub reduceIte ite_true ite_false BEq.rfl beq_self_eq_true jS jT jU VW wok Z0 sqn sqr sqb sv stv sto YY KY K1 KZ Rj Ri Rh Rg Y3 Y9 Y8 Y7 Y4 Y6 Ro oLt oLe ZX lL lT lS tL aL tgp tg2 Zk jA jB jC jD jE jF jG jH jI jJ jK jL jM jN jO jP KJ.wG sqT IY Xb Xc K3 jQ jR sp0 sp1 Y5 ZY nI eI".splitOn " ").toArray.mapM fun n=>`(Lean.Parser.Tactic.simpLemma|$(Lean.mkIdent n.toName):ident);`(tactic|simp only [$[$q:simpLemma],*,$x,*] $[$l]?)
local macro_rules|`(tactic|dsimp! only [$x,*] $[$l:location]?)=>do let q<-("aX ft e9 bJ dq az bw G6 uz eO ni oO ll Nat.reduceAdd Nat.reduceSub reduceIte ite_true ite_false BEq.rfl beq_self_eq_true J J2".splitOn " ").toArray.mapM fun n=>`(Lean.Parser.Tactic.simpLemma|$(Lean.mkIdent n.toName):ident);`(tactic|simp only [$[$q:simpLemma],*,$x,*] $[$l]?)
set_option hygiene true
theorem sP(F:aP)(i:Int):aX F fi [.int i]=.ok (.bl ie):=by rfl
def rT{a:Type}{xs:List a}{k:Nat}(h:k<xs.length):uw xs (k:Int)=hI xs[k]:=by
 unfold uw NX;have:((k:Nat):Int)<(xs.length:Int):=by lia
 simp [this,h]
def yH{ns:List Int}{k:Int}(a:0<=k)(h:k<ns.length):∃m,uw (ns.map PV.int) k=hI (.int m):=by let(j,rfl):=fx a;refine{ns[j]'(by lia),?_};rw [rT (k:=j) (by simp;lia)];simp
def Fx(ns:List Int)(n:Nat):Ci.plain (n+1) (.lst (ns.map .int))=ie:=by
 simp! [Ci.plain,d0,fP]
 rintro x ⟨i,_,rfl⟩
 cases n<;>rfl
def eq_nil(ns:List Int):gS (mR ns) (.lst [])=.ok (.bl (decide (ns=[]))):=by have e:nc (mR ns)=ie:=Fx ns 8;unfold gS;rw [e];cases ns<;>rfl
def HG(F:aP)(ns:List Int)(k:Int)(hk:0<=k):∃m,aX F c7 [mR ns,.int k]=.ok (.int m):=by
 simp! only [c7,zzl,eq_nil];by_cases h:k<(ns.length:Int)
 .let(m,e):=yH hk h;refine{m,?_};simp! only [h,decide_true,aB,e]
 .simp! only [h,decide_false,eq_nil];cases ns with
  |nil=>exact{0,rfl}|cons n ns=>
   have hl:(0:Int)<((n::ns).length:Int):=by simp! [c4];lia
   let(m,e):=yH (ns:=n::ns) (k:=k%((n::ns).length:Int)) (Int.emod_nonneg _ (by lia)) (Int.emod_lt_of_pos _ hl);refine{m*31+k,?_};have b:(bq m||bq 31)=ie:=by rw [eH];exact .inr ↑2
   have a:aB (mR (n::ns)) (.int (k%((n::ns).length:Int)))=.ok (.int m):=by simp! [aB,e];rfl
   have c:decide ((n::ns)=[])=ig:=rfl;simp! [c4] at hl a;simp! only [c,zzl,hl,a,b]
def JN(F:aP)(f:∀ns k,0<=k->∃m,F (zu 42) [mR ns,.int k]=.ok (.int m))(ns:List Int)(k q:Int)(hk:0<=k)(a:0<q):∃m,aX F c9 [mR ns,.int k,.int q]=.ok (.int m)/\0<=m/\m<q:=by
 let(m,e):=f ns k hk;have g:(bq 6151||bq (k+1))=ie:=by rw [eH];exact .inl ↑2
 have h:(bq (m+6151*(k+1))||bq 40692)=ie:=by rw [eH];exact .inr ↑2
 have c:(0:Int)<2147483399:=↑2
 have i:(0:Int)<2147483629:=↑2
 have j:(0:Int)<31/\(31:Int)<1073741824:=↑2
 have o:=Int.emod_nonneg ((m+6151*(k+1))*40692) (b:=2147483399) ↑2;have p:=Int.emod_lt_of_pos ((m+6151*(k+1))*40692) c;refine{((((m+6151*(k+1))*40692%2147483399)*((m+6151*(k+1))*40692%2147483399)+((m+6151*(k+1))*40692%2147483399)/31)%2147483629)%q,?_,Int.emod_nonneg _ (by lia),Int.emod_lt_of_pos _ a};generalize hd:(m+6151*(k+1))*40692%2147483399=d at o p
 have r:(bq d||bq d)=ie:=by
  have:bq d=ie:=by simp! [bq,zza,zzN];lia
  rw [this];rfl
 simp! only [c9,mR] at e⊢;simp! only [e,g,h,c,i,j,hd,r,a,and_self]
def QT(ae:List Str):Prop:=ae.length<=12/\∀z∈ae,z.length<=12
noncomputable abbrev fl(ae:List Str):PV:=.tup (ae.map .str)
abbrev cd(ae:List Str)(r c:Nat):Option Nat:=(ae[r]?).bind λz=>z.cps.toList[c]?
def xy(F:aP)(h:∀i,F (zu 44) [.int i]=.ok (.bl ie))(r c:Int):aX F eY [sp r c]=.ok (.bl ie):=by have a:aB (sp r c) (.int 0)=.ok (.int r):=rfl;have b:aB (sp r c) (.int 1)=.ok (.int c):=rfl;have d:gS (.int ((2:Nat):Int)) (.int 2)=.ok (.bl ie):=rfl;simp! only [eY,wR,h,a,b,d]
def Ta(F:aP)(ae:List Str)(R:QT ae)(r c:Int):aX F cu [fl ae,sp r c]=.ok (.bl (decide (0<=r)&&decide (0<=c)&&(cd ae r.toNat c.toNat).isSome)):=by
 have f:aB (sp r c) (.int 0)=.ok (.int r):=rfl;have g:aB (sp r c) (.int 1)=.ok (.int c):=rfl;simp! only [cu,wR,f,g,vO,vP,zzl];by_cases h0:0<=r
 .by_cases e:r<(ae.length:Int)
  .let(j,rfl):=fx h0;have a:j<ae.length:=by lia
   have h:aB (fl ae) (.int (j:Int))=.ok (.str ae[j]):=by simp! [aB,fl];rw [rT (k:=j) (zx6 a)];simp [Res.of]
   have m:(ae[j]).length<=bT:=d1 (R.2 _ (List.getElem_mem a)) ↑2;have o:(ae[j]).cps.size=(ae[j]).length:=rfl;simp! only [h0,e,decide_true,h,m];by_cases d:0<=c
   .let(i,rfl):=fx d;simp! only [d,decide_true,cd,hB,zzg a,Option.bind_some,Bool.and_self,Bool.true_and];refine congrArg (λb=>Res.ok (PV.bl b)) ?_;rw [Bool.eq_iff_iff];simp [o]
   .simp [aX,ft,e9,bJ,dq,az,bw,G6,uz,eO,ni,oO,ll,Nat.reduceAdd,Nat.reduceSub,reduceIte,ite_true,ite_false,BEq.rfl,beq_self_eq_true,J,d]
  .have:cd ae r.toNat c.toNat=h9:=by
    unfold cd;rw [List.getElem?_eq_none (by lia)];rfl
   simp [aX,ft,e9,bJ,dq,az,bw,G6,uz,eO,ni,oO,ll,Nat.reduceAdd,Nat.reduceSub,reduceIte,ite_true,ite_false,BEq.rfl,beq_self_eq_true,J,h0,e,this]
 .simp [aX,ft,e9,bJ,dq,az,bw,G6,uz,eO,ni,oO,ll,Nat.reduceAdd,Nat.reduceSub,reduceIte,ite_true,ite_false,BEq.rfl,beq_self_eq_true,J,h0]
def j8{ae:List Str}(h:ae[j]?=hI z):aB (fl ae) (.int (j:Int))=.ok (.str z):=by let(a,rfl):=b4.1 h;simp! [aB,fl];rw [rT (k:=j) (zx6 a)];simp [Res.of]
def tZ{i x:Nat}(hz:z.length<=bT)(h:z.cps.toList[i]?=hI x):aB (.str z) (.int (i:Int))=.ok (.str {#[x]}):=by let(a,rfl):=b4.1 h;simp! [aB,hz,if_true];rw [rT (k:=i) a];rfl
theorem cZ{a:Type}{f:PV->Res (Option PV)}{p:a->PV}{g:a->PV}:∀{xs:List a},(∀x∈xs,f (p x)=.ok (hI (g x)))->aY f (xs.map p)=.ok (xs.map g)
 |[],_=>rfl|x::xs,h=>by simp! [a8,aY,h x (c8 ..),Res.well,Res.bind,cZ (xs:=xs) λy b=>h y (cz _ b),oc]
theorem iQ{body:PV->Sl->Res Fl}{P:Nat->Sl->Prop}:∀(xs:List PV) (k:Nat) (env:Sl),P k env->(∀i x env,xs[i]?=hI x->P (k+i) env->∃a,body x env=.ok (.nx a)/\P (k+i+1) a)->∃a,forL body xs env=.ok (.nx a)/\P (k+xs.length) a
 |[],k,env,h,_=>⟨env,rfl,h⟩|x::xs,k,env,h,g=>by
  let(e1,b1,b):=g 0 x env rfl h;let(c,d,e):=iQ xs (k+1) e1 b λi y env f j=>by let(m,o,p):=g (i+1) y env f (by rw [show k+(i+1)=k+1+i by lia];exact j);exact{m,o,by rw [show k+1+i+1=k+(i+1)+1 by lia];exact p}
  refine{c,?_,by rw [c4,show k+(xs.length+1)=k+1+xs.length by lia];exact e};simp! [forL,b1,VW,d]
def mn{n i:Nat}{x:PV}(h:(eJ 0 n)[i]?=hI x):i<n/\x=.int (i:Int):=by simp! [eJ,dk,cP] at h;let(j,c,rfl):=h;let(a,b):=b4.1 c;simp! [List.getElem_range] at b;subst b;simp! [List.length_range] at a;exact{a,by simp}
def lW(F:aP):Prop:=∀(ns:List Int) (k q:Int),0<=k->0<q->∃m,F (zu 3) [mR ns,.int k,.int q]=.ok (.int m)/\0<=m/\m<q
def yT{a b c d m:Int}(e:0<=m)(f:m<4):∃v,aB (.lst [.int a,.int b,.int c,.int d]) (.int m)=.ok (.int v)/\(v=a\/v=b\/v=c\/v=d):=by
 have:m=0\/m=1\/m=2\/m=3:=by lia
 rcases this with rfl|rfl|rfl|rfl
 .exact{a,rfl,.inl rfl}
 .exact{b,rfl,.inr (.inl rfl)}
 .exact{c,rfl,.inr (.inr (.inl rfl))}
 .exact{d,rfl,.inr (.inr (.inr rfl))}
abbrev La:Ss:=#v[.set 11 (.call (zu 3) #v[!0,.bin .add (.bin .add (.bin .add (!1) (¬4)) (.bin .mul (!2) (!8))) (!10),.bin .mul (¬12) (!6)]),.set 9 (.bin .add (!9) (.ite (.cmp .lt (.bin .mod (!11) (¬12)) (!5)) (.cst (.str "#")) (.blt .str #v[.bin .fdiv (!11) (¬12)])))]
abbrev MA:Ss:=#v[.set 9 (.cst (.str "")),.eS (.one 10) (.pU (!4)) La,.app 7 (!9)]
structure Fl(ae:List Str)(w:Nat):Prop where
 jj:QT ae
 ne:0<ae.length
 w1:1<=w
 dR:∀z∈ae,z.length=w
 dig:∀z∈ae,∀x∈z.cps.toList,x=35\/(48<=x/\x<=57)
def Kn{v:Int}(b:0<=v)(c:v<10):fe .str [.int v]=.ok (.str {#[48+v.toNat]}):=by
 let(n,rfl):=fx b;have a:∀k:Fin 10,(((k.1:Nat):Int).natAbs.log2<1920)/\((toString ((k.1:Nat):Int)):Str)={#[48+k.1]}:=↑1
 have k:=a {n,Int.ofNat_lt.1 c};show(if _ then Res.ok (PV.str _) else _)=_;rw [if_pos k.1,hB,k.2]
def NU(F:aP)(B:lW F)(ns:List Int)(k0:Int)(E:0<=k0)(q a b d tp:Int)(k:0<=q)(G:q<=6)(H:1<=tp)(I:tp<=10)(own:PV)(i n:Nat)(hn:n<=6)(p r:Ci.Slot):
 ∃(z:Str) (f g:Ci.Slot),z.length=n/\(∀x∈z.cps.toList,x=35\/(48<=x/\x<=57))/\forL (λx env=>((Tg.one 10).put x env).bind λh=>bJ F La h) (eJ 0 n) [.val (mR ns),.val (.int k0),.val (.int q),.val (.int a),.val (.int b),.val (.int d),.val (.int tp),.own own,.val (.int i),.val (.str ""),p,r]=
  .ok (.nx [.val (mR ns),.val (.int k0),.val (.int q),.val (.int a),.val (.int b),.val (.int d),.val (.int tp),.own own,.val (.int i),.val (.str z),f,g]):=by
 let(h,e,z,f,g,s,hd,rfl):=iQ (body:=λx env=>((Tg.one 10).put x env).bind λh=>bJ F La h) (P:=λj env=>∃(z:Str) (f g:Ci.Slot),z.length=j/\(∀x∈z.cps.toList,x=35\/(48<=x/\x<=57))/\env=[.val (mR ns),.val (.int k0),.val (.int q),.val (.int a),.val (.int b),.val (.int d),.val (.int tp),.own own,.val (.int i),.val (.str z),f,g]) (eJ 0 n) 0 [.val (mR ns),.val (.int k0),.val (.int q),.val (.int a),.val (.int b),.val (.int d),.val (.int tp),.own own,.val (.int i),.val (.str ""),p,r] {_,_,_,by decide+kernel,by decide+kernel,rfl} (by
  intro j x env c C;let(K,rfl):=mn c;let(z,f,g,s,hd,rfl):=C;let(m,t,L,m1):=B ns (k0+4+q*(i:Int)+(j:Int)) (12*tp) (by have:=Int.mul_nonneg k (Int.natCast_nonneg i);lia) (by lia)
  have u:(bq q||bq (i:Int))=ie:=by
   have:bq q=ie:=by simp! [bq,zza,zzN];lia
   rw [this];rfl
  have w:(bq 12||bq tp)=ie:=by rw [eH];exact .inl ↑2
  have y:(0:Int)<12:=↑2
  have A:(0:Int)<12/\(12:Int)<1073741824:=↑2
  have D:=Kn (v:=m/12) (by lia) (by lia);have o:(("#":Str))={#[35]}:=↑1
  by_cases hm:m%12<d
  .refine{[.val (mR ns),.val (.int k0),.val (.int q),.val (.int a),.val (.int b),.val (.int d),.val (.int tp),.own own,.val (.int i),.val (.str (z++"#")),.val (.int j),.val (.int m)],?_,_,_,_,?_,?_,rfl}
   .have l:z.length+(("#":Str)).length<=bT:=d1 (show _<=8 by rw [o];show z.length+1<=8;lia) ↑2;simp! only [La,u,w,y,A,t,hm,decide_true,l,and_self]
   .rw [Str.length_append,o];show z.length+1=_;lia
   .rw [o];show∀x∈(z.cps++#[35]).toList,_;intro x c;simp! [Array.toList_append,List.mem_append,ej] at c;rcases c with c|c
    .exact hd x c
    .exact .inl c
  .refine{[.val (mR ns),.val (.int k0),.val (.int q),.val (.int a),.val (.int b),.val (.int d),.val (.int tp),.own own,.val (.int i),.val (.str (z++{#[48+(m/12).toNat]})),.val (.int j),.val (.int m)],?_,_,_,_,?_,?_,rfl}
   .have l:z.length+({#[48+(m/12).toNat]}:Str).length<=bT:=d1 (show z.length+1<=8 by lia) ↑2;simp! only [La,u,w,y,A,t,hm,decide_false,l,and_self,D]
   .rw [Str.length_append];show z.length+1=_;lia
   .show∀x∈(z.cps++#[48+(m/12).toNat]).toList,_
    intro x c;simp! [Array.toList_append,List.mem_append,ej] at c;rcases c with c|c
    .exact hd x c
    .exact .inr (by lia))
 refine{z,f,g,?_,hd,e};simpa [eJ] using s
def A4(F:aP)(h:lW F)(ns:List Int)(k0:Int)(t:0<=k0)(q:Int)(V:1<=q)(B:q<=6):∃ae w,Fl ae w/\aX F cf [mR ns,.int k0,.int q]=.ok (fl ae):=by
 let(a,C,W,X):=h ns k0 q t (by lia);let(b,D,Y,Z):=h ns (k0+1) q (by lia) (by lia);let(c,E,G,H):=h ns (k0+2) 4 (by lia) ↑2;let(d,I,K,L):=h ns (k0+3) 4 (by lia) ↑2;let(j,M,hs):=yT (a:=0) (b:=2) (c:=4) (d:=6) G H;let(tp,N,ht):=yT (a:=1) (b:=2) (c:=3) (d:=10) K L;have O:1<=tp:=by lia
 have t2:tp<=10:=by lia
 have sa:bS (1+a)=ie:=by simp! [bS,zza,zzN];lia
 have Q:bS (1+b)=ie:=by simp! [bS,zza,zzN];lia
 let(u,e,ae,p,r,k,o,hl,hr,hd,rfl):=iQ (body:=λx env=>((Tg.one 8).put x env).bind λu=>bJ F MA u)
  (P:=λi env=>∃(ae:List Str) (p r k o:Ci.Slot),ae.length=i/\(∀z∈ae,z.length=(1+b).toNat)/\(∀z∈ae,∀x∈z.cps.toList,x=35\/(48<=x/\x<=57))/\env=[.val (mR ns),.val (.int k0),.val (.int q),.val (.int (1+a)),.val (.int (1+b)),.val (.int j),.val (.int tp),.own (.lst (ae.map .str)),p,r,k,o])
  (eJ 0 (1+a).toNat) 0 [.val (mR ns),.val (.int k0),.val (.int q),.val (.int (1+a)),.val (.int (1+b)),.val (.int j),.val (.int tp),.own (.lst []),.no,.no,.no,.no] {[],_,_,_,_,rfl,(λz g=>by cases g),(λz g=>by cases g),rfl} (by
  intro i x env R S;let(hi,rfl):=mn R;let(ae,p,r,k,o,hl,hr,hd,rfl):=S;let(z,T,U,g,s,e):=NU F h ns k0 t q (1+a) (1+b) j tp (by lia) B O t2 (.lst (ae.map .str)) i (1+b).toNat (by lia) k o;have l:(ae.map PV.str).length<bT:=d2 (m:=6) (by simp! [zzl];lia) ↑2;refine{[.val (mR ns),.val (.int k0),.val (.int q),.val (.int (1+a)),.val (.int (1+b)),.val (.int j),.val (.int tp),.own (.lst ((ae++[z]).map .str)),.val (.int i),.val (.str z),T,U],?_,ae++[z],_,_,_,_,by simp;lia,?_,?_,rfl}
  .have A:=e;simp! only [La] at A;simp! [zzl] at l;simp! only [MA,La,Q,A,zzl,l,List.map_append]
  .intro y f;simp! [List.mem_append,ej] at f;rcases f with f|rfl
   .exact hr y f
   .exact g
  .intro y f;simp! [List.mem_append,ej] at f;rcases f with f|rfl
   .exact hd y f
   .exact s)
 have wF:ae.length=(1+a).toNat:=by simpa [eJ] using hl
 refine{ae,(1+b).toNat,{{by lia,λz g=>by rw [hr z g];lia},by lia,by lia,hr,hd},?_};simp! only [MA,La] at e;simp! only [cf,cf,C,D,E,I,M,N,sa,e]
def Ee{ae:List Str}(L:Fl ae w){i:Nat}(c:i<ae.length)(a:j<w):∃x,cd ae i j=hI x:=by have b:ae[i]?=hI ae[i]:=zzg c;have hl:=L.dR _ (a6 b);refine{(ae[i]).cps.toList[j]'(by simp! [ef];rw [<-hl] at a;exact a),?_};unfold cd;rw [b];exact zzg _
theorem join_one:∀xs:List Nat,Str.join ({#[]}:Str) (xs.map λx=>({#[x]}:Str))=⟨xs.toArray⟩
 |[]=>rfl|[x]=>rfl|x::y::r=>by have a:=join_one (y::r);show({#[x]}:Str)++{#[]}++Str.join {#[]} ((y::r).map λx=>({#[x]}:Str))=_;rw [a];show({#[x]++#[]++(y::r).toArray}:Str)=_;simp
def q0(xs:List Nat):Txt.join "" (xs.map λx=>({#[x]}:Str))=⟨xs.toArray⟩:=by unfold Txt.join;rw [StrLaws.glued_eq_join,show(("":Str))={#[]} by decide+kernel];exact join_one xs
theorem mJ:zH .join [.str z,.lst xs]=(Res.of (strsOf xs)).bind λys=>if z.length<=16/\(ys.map (·.length)).sum+ys.length<=bT then .ok (.str (Txt.join z ys)) else .bad:=rfl
theorem mK:zA .join (.str z)=ie:=rfl
theorem strs_map:∀a:List Str,strsOf (a.map .str)=hI a
 |[]=>rfl|z::a=>by simp! [a8,strsOf,strs_map a,Option.map_some]
theorem Ae:∀xs:List Nat,((xs.map λx=>({#[x]}:Str)).map (·.length)).sum=xs.length
 |[]=>rfl|x::xs=>by have:=Ae xs;simp! [a8,List.sum_cons,c4,this];show 1+xs.length=_;lia
def Ef(z:Str)(c:Nat):ql (.str {#[c]}) (.str z)=.ok (.bl (decide (c∈z.cps.toList))):=by show Res.ok (PV.bl (!(lb.Str.occurrences z {#[c]} 0 z.length 1).isEmpty))=_;rw [StrLaws.found_one]
abbrev B1(ae:List Str)(c:Nat):List Nat:=ae.reverse.map λz=>z.cps.toList.getD c 0
abbrev pW(ae:List Str)(w:Nat):List Str:=(List.range w).map λc=>{(B1 ae c).toArray}
abbrev lP(ae:List Str):List Str:=ae.map mm
def uq(ae:List Str)(w:Nat):(pW ae w).length=w:=by simp [pW]
theorem wy(ae:List Str)(w:Nat):∀z∈pW ae w,z.length=ae.length:=λz a=>by let(c,_,rfl):=fP.1 a;show(B1 ae c).toArray.size=_;simp [B1]
def vZ(z:Str):(mm z).length=z.length:=by show z.cps.toList.reverse.toArray.size=z.cps.size;simp
def zG(ae:List Str):(lP ae).length=ae.length:=by simp [lP]
abbrev tB:Ss:=#v[.app 2 (.dD .join (.cst (.str "")) #v[.comp 1 [3] (.one 0) (.seq (!1)) (.sub (!0) (!1))])]
def Gr(F:aP){ae:List Str}(a:ae.length<=12)(hr:∀z∈ae,z.length=w)(e:w<=12){i:Nat}(f:i<w):aY (λx=>((Tg.one 0).put x [.no,.val (.int i)]).bind λb=>(az F (.sub (!0) (!1)) b).bind λy=>.ok (hI y)) (ae.reverse.map .str)=.ok (((B1 ae i).map λx=>({#[x]}:Str)).map .str)/\(ae.reverse.map PV.str).length<bT/\("":Str).length<=16/\(((B1 ae i).map λx=>({#[x]}:Str)).map (·.length)).sum+((B1 ae i).map λx=>({#[x]}:Str)).length<=bT:=by
 refine{?_,d2 (m:=12) (zx6 a) ↑2,by decide,?_}
 .unfold B1;rw [List.map_map,List.map_map];refine(cZ (p:=PV.str) (g:=λz=>.str {#[z.cps.toList.getD i 0]}) λz c=>?_);have h:=hr z (List.mem_reverse.1 c);have d:i<z.cps.toList.length:=by rw [ef];show i<z.length;lia
  have:=tZ (z:=z) (i:=i) (x:=z.cps.toList.getD i 0) (d1 (m:=12) (by lia) ↑2) (by rw [cW,zzg d];rfl);dsimp! only [this]
 .rw [Ae,zzl];refine d1 (m:=24) ?_ ↑2;simp! [B1,zzl,List.length_reverse];lia
def B5(F:aP){ae:List Str}(hn:0<ae.length)(f:ae.length<=12)(hr:∀z∈ae,z.length=w)(g:w<=12):aX F b8 [fl ae]=.ok (fl (pW ae w)):=by
 have h:ae[0]?=hI ae[0]:=zzg hn;have k:aB (fl ae) (.int 0)=.ok (.str ae[0]):=j8 (j:=0) h;have b:ae[0].length=w:=hr _ (List.getElem_mem hn);have lw:ae[0].length<=bT:=d1 (m:=12) (by lia) ↑2;have o:bS (ae[0].length:Int)=ie:=by rw [b];simp! [bS,zza,zzN];lia
 have p:(ae.map PV.str).reverse=ae.reverse.map .str:=by rw [List.map_reverse]
 let(c,e,a,rfl):=iQ (body:=λx env=>((Tg.one 3).put x env).bind λc=>bJ F tB c) (P:=λi env=>∃a:Ci.Slot,env=[.val (fl ae),.val (.lst (ae.reverse.map .str)),.own (.lst ((pW ae i).map .str)),a])
  (eJ 0 w) 0 [.val (fl ae),.val (.lst (ae.reverse.map .str)),.own (.lst []),.no] {_,rfl} (by
  intro i x env q r;let(s,rfl):=mn q;let(a,rfl):=r;let(d,t,u):=Gr F f hr g s;have y:((pW ae i).map PV.str).length<bT:=d2 (m:=12) (by rw [zzl,uq];lia) ↑2;refine{[.val (fl ae),.val (.lst (ae.reverse.map .str)),.own (.lst ((pW ae (i+1)).map .str)),.val (.int i)],?_,_,by rw [Nat.zero_add]};have ts:(pW ae (i+1)).map PV.str=(pW ae i).map .str++[.str {(B1 ae i).toArray}]:=by unfold pW;rw [List.range_succ,List.map_append,List.map_append];rfl
  rw [ts];dsimp! only [J] at d;rw [Nat.zero_add] at *;dsimp! only [tB,t,d,mK,mJ,strs_map,u,q0,y,and_self])
 have A:(eJ 0 w).length=w:=by simp [eJ]
 rw [A,Nat.zero_add] at e;have tn:(ae[0].length:Int).toNat=w:=by rw [b];rfl
 dsimp! only [tB] at e;dsimp! only [b8,p,k,lw,o,tn,e]
def EN(F:aP){ae:List Str}(a:ae.length<=12)(hr:∀z∈ae,z.length<=12):aY (λx=>((Tg.one 0).put x [.no]).bind λb=>(az F (.rev (!0)) b).bind λy=>.ok (hI y)) (ae.map .str)=.ok ((lP ae).map .str)/\(ae.map PV.str).length<bT:=by refine{?_,d2 (m:=12) (zx6 a) ↑2};unfold lP;rw [List.map_map];refine cZ (p:=PV.str) (g:=λz=>.str (mm z)) λz c=>?_;have d:z.length<=bT:=d1 (hr z c) ↑2;simp! only [d]
def vG(F:aP){ae:List Str}(b:ae.length<=12)(hr:∀z∈ae,z.length<=12):aX F bI [fl ae]=.ok (fl (lP ae)):=by let(a,c):=EN F b hr;simp! only [] at a;simp! only [bI,c,a]
theorem lX:∀bs:List Bool,boolsOf (bs.map .bl)=hI bs
 |[]=>rfl|b::bs=>by simp! [a8,boolsOf,lX bs,Option.map_some]
def Px(F:aP){x:Nat}(h:x=35\/(48<=x/\x<=57)):aX F dg [.str {#[x]}]=.ok (.bl ie):=by
 have a:ql (.str {#[x]}) (.str (zu 20))=.ok (.bl ie):=by
  rw [Ef];have:((zu 20:Str)).cps.toList=[35,48,49,50,51,52,53,54,55,56,57]:=↑1
  rw [this];have:x∈[35,48,49,50,51,52,53,54,55,56,57]:=by simp! [er,List.not_mem_nil,or_false];lia
  simp! [this,decide_true]
 have b:({#[x]}:Str).length=1:=rfl;have c:1<=bT:=↑2
 simp! only [dg,b,c,a];rfl
def Pf(F:aP)(hs:∀x,x=35\/(48<=x/\x<=57)->F (zu 34) [.str {#[x]}]=.ok (.bl ie))(k:1<=z.length)(a:z.length<=12)(hd:∀x∈z.cps.toList,x=35\/(48<=x/\x<=57)):aX F gd [.str z]=.ok (.bl ie):=by
 have b:aY (λx=>((Tg.one 0).put x [.no]).bind λd=>(az F (.call (zu 34) #v[!0]) d).bind λy=>.ok (hI y)) (chars z)=.ok ((z.cps.toList.map λZ=>ie).map .bl):=by rw [List.map_map];refine cZ (p:=λc=>PV.str {#[c]}) (g:=λZ=>.bl ie) λx e=>?_;simp! only [hs x (hd x e)]
 have lz:z.length<=bT:=d1 a ↑2;have f:(chars z).length<bT:=d2 (m:=12) (by show(z.cps.toList.map _).length<=12;rw [zzl,ef];exact a) ↑2;have h:decide ((1:Int)<=(z.length:Int))=ie:=by rw [zzN];lia
 have i:decide ((z.length:Int)<=12)=ie:=by rw [zzN];lia
 have j:(z.cps.toList.map λZ=>ie).all id=ie:=by rw [List.all_map,d0];exact λZ Z=>rfl
 have sq:yb (!0) (.str z)=.ok (chars z):=rfl;simp! only [] at b;simp! only [gd,lz,h,i,sq,f,b,lX,j]
def HY(F:aP)(hs:∀z:Str,1<=z.length->z.length<=12->(∀x∈z.cps.toList,x=35\/(48<=x/\x<=57))->F "is_row" [.str z]=.ok (.bl ie)){ae:List Str}(L:Fl ae w):aX F dI [fl ae]=.ok (.bl ie):=by
 have b:=L.ne;have A:=L.jj.1;have w1:=L.w1;have B:w<=12:=by have:=L.jj.2 _ (List.getElem_mem b);have:=L.dR _ (List.getElem_mem b);lia
 have f:ae[0]?=hI ae[0]:=zzg b;have h:aB (fl ae) (.int 0)=.ok (.str ae[0]):=j8 (j:=0) f;have i:=L.dR _ (List.getElem_mem b);have lw:ae[0].length<=bT:=d1 (m:=12) (by lia) ↑2;have d:aY (λx=>((Tg.one 0).put x [.no]).bind λc=>(az F (.call "is_row" #v[!0]) c).bind λy=>.ok (hI y)) (ae.map .str)=.ok ((ae.map λZ=>ie).map .bl):=by rw [List.map_map];refine cZ (p:=PV.str) (g:=λZ=>.bl ie) λz a=>?_;have:=hs z (by rw [L.dR z a];exact w1) (by rw [L.dR z a];lia) (L.dig z a);simp! only [this]
 have e:aY (λx=>((Tg.one 0).put x [.no,.val (fl ae)]).bind λc=>(az F (.cmp .eq (.blt .len #v[!0]) (.blt .len #v[.sub (!1) (¬0)])) c).bind λy=>.ok (hI y)) (ae.map .str)=.ok ((ae.map λZ=>ie).map .bl):=by
  rw [List.map_map];refine cZ (p:=PV.str) (g:=λZ=>.bl ie) λz a=>?_;have k:=L.dR z a;have o:z.length<=bT:=d1 (m:=12) (by lia) ↑2;have q:((z.length:Int)==(ae[0].length:Int))=ie:=by rw [k,i,beq_self_eq_true]
  simp! only [o,h,lw,q]
 have r:(ae.map PV.str).length<bT:=d2 (m:=12) (by rw [zzl];lia) ↑2;have s:decide ((1:Int)<=((ae.map PV.str).length:Int))=ie:=by rw [zzN,zzl];lia
 have t:decide (((ae.map PV.str).length:Int)<=12)=ie:=by rw [zzN,zzl];lia
 have u:(ae.map λZ=>ie).all id=ie:=by rw [List.all_map,d0];exact λZ Z=>rfl
 simp! only [] at d e;simp! only [dI,s,t,r,d,lX,u,e]
def Jf{ae:List Str}(h:z∈pW ae w):∃c,c<w/\z={(B1 ae c).toArray}:=by let(c,a,rfl):=fP.1 h;exact{c,List.mem_range.1 a,rfl}
def MI{ae:List Str}(L:Fl ae w):Fl (pW ae w) ae.length:=by
 have d:=L.ne;have g:w<=12:=by have:=L.jj.2 _ (List.getElem_mem d);have:=L.dR _ (List.getElem_mem d);lia
 refine{{by rw [uq];exact g,λz e=>by rw [wy _ _ z e];exact L.jj.1},by rw [uq];exact L.w1,d,wy _ _,λz e x a=>?_};let(c,h,rfl):=Jf e;have a:x∈B1 ae c:=zx6 a;unfold B1 at a;let(y,b,rfl):=fP.1 a;have b:=List.mem_reverse.1 b;have hl:=L.dR y b;have f:c<y.cps.toList.length:=by rw [ef];show c<y.length;lia
 rw [cW,zzg f];exact L.dig y b _ (List.getElem_mem f)
def MH{ae:List Str}(L:Fl ae w):Fl (lP ae) w:=by
 have hm:∀z∈lP ae,∃y∈ae,z=mm y:=λz a=>by let(y,b,rfl):=fP.1 a;exact⟨y,b,rfl⟩
 refine{{by rw [zG];exact L.jj.1,λz a=>?_},by rw [zG];exact L.ne,L.w1,λz a=>?_,λz a x c=>?_}
 .let(y,b,rfl):=hm z a;rw [vZ];exact L.jj.2 y b
 .let(y,b,rfl):=hm z a;rw [vZ];exact L.dR y b
 .let(y,b,rfl):=hm z a;have c:x∈y.cps.toList:=by have:x∈(y.cps.toList.reverse.toArray).toList:=c;simpa using this
  exact L.dig y b x c
def CD{A B:List Str}(b:A.length<=12)(c:B.length<=12):binOp .add (fl A) (fl B)=.ok (fl (A++B)):=by have a:(A.map PV.str).length+(B.map PV.str).length<=bT:=d1 (m:=24) (by rw [zzl,zzl];lia) ↑2;show(if _ then _ else _)=_;rw [if_pos a];show _=Res.ok (PV.tup ((A++B).map .str));rw [List.map_append]
def GL{A B:List Str}(a:A.length<=12):pz [fl A,fl B]=hI [A.map .str,B.map .str]/\(qD [A.map PV.str,B.map PV.str]).length<bT:=by refine{rfl,d2 (m:=12) ?_ ↑2};show((List.range (min (A.map PV.str).length (B.map PV.str).length)).map _).length<=12;rw [zzl,List.length_range,zzl];lia
def Aj(F:aP){a b:List Str}{w:Nat}(hl:a.length=b.length)(ha:∀z∈a,z.length<=12)(e:∀z∈b,z.length<=12):aY (λx=>((Tg.two 0 1).put x [.no,.no]).bind λf=>(az F (.bin .add (!0) (!1)) f).bind λy=>.ok (hI y)) (qD [a.map .str,b.map .str])=.ok ((List.zipWith (·++·) a b).map .str):=by
 have h:qD [a.map .str,b.map .str]=(List.range a.length).map λi=>.tup [.str (a.getD i {#[]}),.str (b.getD i {#[]})]:=by
  unfold qD;have:oU [a.map PV.str,b.map PV.str]=a.length:=by show min (a.map PV.str).length (b.map PV.str).length=_;rw [zzl,zzl,hl,Nat.min_self]
  rw [this];refine List.map_congr_left λi c=>?_;have c:=List.mem_range.1 c;have d:i<b.length:=by lia
  simp! [a8,List.map_nil,cW,dk,zzg c,zzg d,Option.map_some,Option.getD_some]
 rw [h,cZ (p:=λi=>.tup [.str (a.getD i {#[]}),.str (b.getD i {#[]})]) (g:=λi=>.str (a.getD i {#[]}++b.getD i {#[]})) λi c=>?_]
 .congr 1
  refine List.ext_getElem? λi=>?_;rw [dk,dk,List.getElem?_zipWith];by_cases c:i<a.length
  .have d:i<b.length:=by lia
   rw [List.getElem?_range c,zzg c,zzg d];simp! [Option.map_some,cW,zzg c,zzg d,Option.getD_some]
  .rw [List.getElem?_eq_none (by rw [List.length_range];lia),List.getElem?_eq_none (l:=a) (by lia)];rfl
 .have c:=List.mem_range.1 c;have d:i<b.length:=by lia
  have g1:a.getD i {#[]}=a[i]:=by rw [cW,zzg c];rfl
  have g2:b.getD i {#[]}=b[i]:=by rw [cW,zzg d];rfl
  rw [g1,g2];have k:=ha _ (List.getElem_mem c);have o:=e _ (List.getElem_mem d);have j:a[i].length+b[i].length<=bT:=d1 (m:=24) (by lia) ↑2;simp! only [j]
abbrev LI(z:Str)(j x:Nat):Str:={(z.cps.toList.set j x).toArray}
abbrev yi(ae:List Str)(i j x:Nat):List Str:=ae.set i (LI (ae.getD i "") j x)
def YN(x:Nat):Prop:=x=35\/(48<=x/\x<=57)
def Gb(ae:List Str)(i j x:Nat):(yi ae i j x).length=ae.length:=List.length_set
def TU{ae:List Str}(L:Fl ae w)(i j:Nat){x:Nat}(f:YN x):Fl (yi ae i j x) w:=by
 have b:∀z∈yi ae i j x,z.length=w/\∀y∈z.cps.toList,y=35\/(48<=y/\y<=57):=λz a=>by
  by_cases c:i<ae.length
  .have e:ae.getD i ""=ae[i]:=by simp [cW,zzg c]
   have hm:=List.getElem_mem c
   unfold yi at a;rw [e] at a;rcases List.mem_or_eq_of_mem_set a with h|h
   .exact{L.dR z h,L.dig z h}
   .subst h;refine{?_,λy k=>?_}
    .rw [<-L.dR _ hm];show((ae[i]).cps.toList.set j x).toArray.size=(ae[i]).cps.size;simp
    .rcases List.mem_or_eq_of_mem_set (show y∈(ae[i]).cps.toList.set j x from by simpa [LI] using k) with g|g
     .exact L.dig _ hm y g
     .rw [g];exact f
  .unfold yi at a;rw [List.set_eq_of_length_le (by lia)] at a;exact{L.dR z a,L.dig z a}
 have m:w<=12:=by have d:=L.jj.2 _ (List.getElem_mem L.ne);rw [L.dR _ (List.getElem_mem L.ne)] at d;exact d
 refine{{by rw [Gb];exact L.jj.1,λz a=>by rw [(b z a).1];exact m},by rw [Gb];exact L.ne,L.w1,λz a=>(b z a).1,λz a=>(b z a).2}
def Mr{a:Type}(xs:List a){k:Nat}(h:k<=xs.length):mV xs h9 (hI (k:Int))=xs.take k:=by unfold mV;rw [HT.z7,HT.wa,List.drop_zero,Nat.min_eq_left h,Nat.sub_zero]
def Mq{a:Type}(xs:List a){k:Nat}(h:k<=xs.length):mV xs (hI (k:Int)) h9=xs.drop k:=by unfold mV;rw [HT.z7,HT.wa,Nat.min_eq_left h];exact List.take_of_length_le (by simp)
def Ph(x:Nat)(h:j<z.length):Txt.slice z h9 (hI (j:Int))++({#[x]}:Str)++Txt.slice z (hI ((j:Int)+1)) h9=LI z j x:=by
 have a:=Cw.FZ z j (by lia);have b:=Cw.FY z (j+1) (by lia);have hl:j<z.cps.toList.length:=by rw [ef];exact h
 show Str.mk ((Txt.slice z h9 (hI (j:Int))).cps++#[x]++(Txt.slice z (hI ((j:Int)+1)) h9).cps)=LI z j x;unfold LI
 congr 1
 apply Array.toList_inj.1;rw [List.set_eq_take_append_cons_drop,if_pos hl];simp! [Array.toList_append,a,List.append_assoc,List.cons_append,List.nil_append]
 congr 2
theorem Z6{a b:Option Int}:gX (.str z) a b=if z.length<=bT then .ok (.str (Txt.slice z a b)) else .bad:=rfl
theorem Z7{a b:Option Int}:gX (.tup xs) a b=.ok (.tup (mV xs a b)):=rfl
theorem YW{y:Str}:binOp .add (.str x) (.str y)=if x.length+y.length<=bT then .ok (.str (x++y)) else .bad:=rfl
theorem YX{x y:List PV}:binOp .add (.tup x) (.tup y)=if x.length+y.length<=bT then .ok (.tup (x++y)) else .bad:=rfl
def FL{ae:List Str}(L:Fl ae w){i:Nat}(x:Nat)(c:i<ae.length)(e:j<w):aB (fl ae) (.int (i:Int))=.ok (.str ae[i])/\(ae[i]).length<=bT/\(Txt.slice ae[i] h9 (hI (j:Int))).length+({#[x]}:Str).length<=bT/\(Txt.slice ae[i] h9 (hI (j:Int))++({#[x]}:Str)).length+(Txt.slice ae[i] (hI ((j:Int)+1)) h9).length<=bT/\mV (ae.map PV.str) h9 (hI (i:Int))=(ae.map .str).take i/\mV (ae.map PV.str) (hI ((i:Int)+1)) h9=(ae.map .str).drop (i+1)/\((ae.map PV.str).take i).length+1<=bT/\((ae.map PV.str).take i++[PV.str (LI ae[i] j x)]).length+((ae.map PV.str).drop (i+1)).length<=bT/\Txt.slice ae[i] h9 (hI (j:Int))++({#[x]}:Str)++Txt.slice ae[i] (hI ((j:Int)+1)) h9=LI ae[i] j x/\fl (yi ae i j x)=.tup (((ae.map .str).take i++[.str (LI ae[i] j x)])++(ae.map .str).drop (i+1)):=by
 have f:=L.dR _ (List.getElem_mem c);have g:=L.jj.2 _ (List.getElem_mem c);have a:=Txt.slice_le ae[i] h9 (hI (j:Int));have b:=Txt.slice_le ae[i] (hI ((j:Int)+1)) h9;have h:bT=1000000:=rfl;have d:({#[x]}:Str).length=1:=rfl;have hr:=L.jj.1;have hm:(ae.map PV.str).length=ae.length:=zzl _;refine{j8 (zzg c),by lia,by lia,by rw [Str.length_append];lia,Mr _ (by lia),?_,by rw [List.length_take];lia,by simp;lia,Ph x (show j<(ae[i]).length by lia),?_}
 .have:=Mq (ae.map PV.str) (k:=i+1) (by lia);rw [Int.natCast_add,Int.natCast_one] at this;exact this
 .unfold yi fl;rw [List.set_eq_take_append_cons_drop,if_pos c];simp [cW,zzg c,List.map_take,List.map_drop]
def GH(F:aP){ae:List Str}(L:Fl ae w){i:Nat}(x:Nat)(a:i<ae.length)(b:j<w):aX F di [fl ae,sp i j,.str {#[x]}]=.ok (fl (yi ae i j x)):=by let(c,c1,d,e,f,t2,g,h,q,k):=FL L x a b;rw [k];simp! only [di,c,Z6,Z7,YW,YX,if_pos c1,if_pos d,if_pos e,q,f,t2,if_pos g,if_pos h]
def Oy(F:aP)(hs:∀r c,F "is_spot" [sp r c]=.ok (.bl ie))(a:∀ae,QT ae->∀r c,F (zu 9) [fl ae,sp r c]=.ok (.bl (decide (0<=r)&&decide (0<=c)&&(cd ae r.toNat c.toNat).isSome))){ae:List Str}(L:Fl ae w){i:Nat}(b:i<ae.length)(d:j<w):aX F bb [fl ae,sp i j]=.ok .aR:=by let(x,f):=Ee L b d;have e:=a ae L.jj i j;rw [hB,hB,f,zzh (Int.natCast_nonneg i),zzh (Int.natCast_nonneg j)] at e;have e:F (zu 9) [fl ae,sp i j]=.ok (.bl ie):=e;simp! only [bb,hs,e,Bool.not_true]
abbrev lQ:List Str:=["a","tu","bcdefg","vwxyz","b"]
inductive Dd where
 |lay (z:Str) (R:List Str)|take (z:Str)|turn (z:Str)|lP (z:Str)
 |sign (z:Str) (a b x:Nat)|join (z:Str) (e:Bool) (y1 y2:Str)
abbrev QA:List Nat:=[35,48,51,53,57,120]
abbrev Dd.P:Dd->PV
 |.lay z R=>.tup [.str "lay",.str z,fl R]|.take z=>.tup [.str "take",.str z]|.turn z=>.tup [.str "turn",.str z]|.lP z=>.tup [.str (zu 17),.str z]|.sign z a b x=>.tup [.str "sign",.str z,sp a b,.str {#[x]}]|.join z e c d=>.tup [.str "join",.str z,.bl e,.str c,.str d]
def Dd.Ok:Dd->Prop
 |.lay z R=>z∈lQ/\∃w,Fl R w|.take z=>z∈lQ|.turn z=>z∈lQ|.lP z=>z∈lQ|.sign z _ _ x=>z∈lQ/\x∈QA|.join z _ a b=>z∈lQ/\a∈lQ/\b∈lQ
def Xr{m:Int}(a:0<=m)(b:m<4):∃z,z∈lQ/\aB (.lst [.str "a",.str "tu",.str "bcdefg",.str "vwxyz"]) (.int m)=.ok (.str z):=by
 have:m=0\/m=1\/m=2\/m=3:=by lia
 rcases this with rfl|rfl|rfl|rfl
 .exact{"a",.head _,rfl}
 .exact{"tu",.tail _ (.head _),rfl}
 .exact{"bcdefg",.tail _ (.tail _ (.head _)),rfl}
 .exact{"vwxyz",.tail _ (.tail _ (.tail _ (.head _))),rfl}
def sg6{m:Int}(a:0<=m)(b:m<6):∃x,x∈QA/\aB (.str "#0359x") (.int m)=.ok (.str {#[x]}):=by
 have:m=0\/m=1\/m=2\/m=3\/m=4\/m=5:=by lia
 rcases this with rfl|rfl|rfl|rfl|rfl|rfl
 .exact{35,by decide,by kernel_rfl}
 .exact{48,by decide,by kernel_rfl}
 .exact{51,by decide,by kernel_rfl}
 .exact{53,by decide,by kernel_rfl}
 .exact{57,by decide,by kernel_rfl}
 .exact{120,by decide,by kernel_rfl}
def Ht(F:aP):Prop:=∀(ns:List Int) (k:Int),0<=k->∃ae w,Fl ae w/\F (zu 35) [mR ns,.int k,.int 3]=.ok (fl ae)
def HS(F:aP)(f:lW F)(hf:Ht F)(ns:List Int)(k:Int)(hk:0<=k):∃d:Dd,d.Ok/\aX F br [mR ns,.int k]=.ok d.P:=by
 let(a,i,H,I):=f ns k 4 hk ↑2;let(b,j,V,b1):=f ns (k+1) 10 (by lia) ↑2;let(z,m,o):=Xr H I;by_cases B:b<3
 .let(R,w,L,K):=hf ns (k+10) (by lia);refine{.lay z R,⟨m,w,L⟩,?_};have h:decide (b<3)=ie:=zzh B;simp! only [br,i,j,o,h,K];rfl
 .have h:decide (b<3)=ig:=zz0 B;by_cases C:b<6
  .have p:decide (b<6)=ie:=zzh C;have:b=3\/b=4\/b=5:=by lia
   rcases this with rfl|rfl|rfl
   .refine{.take z,m,?_};have e:aB (.lst [.str "take",.str "turn",.str (zu 17)]) (.int (3-3))=.ok (.str "take"):=rfl;simp! only [br,i,j,o,h,p,e];rfl
   .refine{.turn z,m,?_};have e:aB (.lst [.str "take",.str "turn",.str (zu 17)]) (.int (4-3))=.ok (.str "turn"):=rfl;simp! only [br,i,j,o,h,p,e];rfl
   .refine{.lP z,m,?_};have e:aB (.lst [.str "take",.str "turn",.str (zu 17)]) (.int (5-3))=.ok (.str (zu 17)):=rfl;simp! only [br,i,j,o,h,p,e];rfl
  .have p:decide (b<6)=ig:=zz0 C;by_cases D:b<8
   .have q:decide (b<8)=ie:=zzh D;let(r,s,t,E):=f ns (k+2) 4 (by lia) ↑2;let(c,u,y,c1):=f ns (k+3) 4 (by lia) ↑2;let(g,A,G,g1):=f ns (k+4) 6 (by lia) ↑2;let(x,M,ex):=sg6 G g1;let(r,rfl):=fx t;let(c,rfl):=fx y;refine{.sign z r c x,⟨m,M⟩,?_};simp! only [br,i,j,o,h,p,q,s,u,A,ex];rfl
   .have q:decide (b<8)=ig:=zz0 D;let(r,s,t,E):=f ns (k+5) 4 (by lia) ↑2;let(c,u,y,c1):=f ns (k+6) 4 (by lia) ↑2;let(g,A,G,g1):=f ns (k+7) 2 (by lia) ↑2;let(N,O,Q):=Xr t E;let(S,T,U):=Xr y c1;refine{.join z (g==0) N S,⟨m,O,T⟩,?_};simp! only [br,i,j,o,h,p,q,s,u,A,Q,U];rfl
abbrev wd(R:List Str):Nat:=(R.getD 0 "").length
def fv(L:Fl R w):wd R=w:=by have a:=L.ne;unfold wd;rw [cW,zzg a];exact L.dR _ (List.getElem_mem a)
def qc(L:Fl R w):w<=12:=by have h:=L.jj.2 _ (List.getElem_mem L.ne);rw [L.dR _ (List.getElem_mem L.ne)] at h;exact h
def v7(L:Fl R w):∃y,aB (fl R) (.int 0)=.ok (.str y)/\y.length=w/\fe .len [.str y]=.ok (.int w):=by have a:=L.ne;have b:=L.dR _ (List.getElem_mem a);have c:=qc L;refine{R[0],j8 (j:=0) (zzg a),b,?_};show(if(R[0]).length<=bT then Res.ok (PV.int ((R[0]).length:Int)) else .bad)=_;rw [b,if_pos (d1 c ↑2)]
def gQ(R:List Str):fe .len [fl R]=.ok (.int R.length):=by show Res.ok (PV.int (R.map PV.str).length)=_;rw [zzl]
theorem tm{i j:Int}:cB .ge (.int i) (.int j)=.ok (.bl (decide (j<=i))):=rfl
def Bs(F:aP)(L:Fl R w)(z:Str):aX F aU [fl R,.tup [.str "turn",.str z]]=.ok (.tup [fl (pW R w),fl (pW R w)]):=by
 have d:=L.jj.1;have b:=qc L;let(s,e,_,lw):=v7 L;have f:bS (w:Int)=ie:=by simp! [bS,zza,zzN];lia
 have h:(R.map PV.str).reverse=R.reverse.map .str:=by rw [List.map_reverse]
 have co:aY (λx=>((Tg.one 0).put x [.no,.val (fl R)]).bind λj=>(az F (.dD .join (.cst (.str "")) #v[.comp 1 [0] (.one 0) (.seq (.rev (!1))) (.sub (!0) (!1))]) j).bind λy=>.ok (hI y)) (eJ 0 w)=.ok ((pW R w).map .str):=by unfold eJ pW;rw [List.map_map];refine cZ (p:=λi:Nat=>PV.int (0+(i:Int))) (g:=λc:Nat=>.str {(B1 R c).toArray}) λi a=>?_;have a:=List.mem_range.1 a;let(c,k,o):=Gr F d L.dR b a;rw [Int.zero_add];dsimp! only [J] at c;dsimp! only [h,k,c,mK,mJ,strs_map,o,q0,and_self]
 have q:(eJ 0 w).length<bT:=d2 (m:=12) (by simpa [eJ] using b) ↑2;have s0:aB (.tup [.str "turn",.str z]) (.int 0)=.ok (.str "turn"):=rfl;have r:gS (.str "turn") (.str "turn")=.ok (.bl ie):=∅
 dsimp! only [J] at co;dsimp! only [aU,s0,r,e,lw,f,hB,q,co]
def EI(F:aP)(L:Fl R w)(z:Str):aX F aU [fl R,.tup [.str (zu 17),.str z]]=.ok (.tup [fl (lP R),fl (lP R)]):=by
 let(a,b):=EN F L.jj.1 L.jj.2;have s0:aB (.tup [.str (zu 17),.str z]) (.int 0)=.ok (.str (zu 17)):=rfl;have c:gS (.str (zu 17)) (.str "turn")=.ok (.bl ig):=∅
 have t2:gS (.str (zu 17)) (.str (zu 17))=.ok (.bl ie):=∅
 simp! only [] at a;simp! only [aU,s0,c,t2,b,a]
def Uq{x:Nat}:gS (.str {#[x]}) (.str "x")=.ok (.bl (x==120)):=by
 have:(("x":Str))={#[120]}:=↑1
 rw [this];show Res.ok (PV.bl (({#[x]}:Str)=={#[120]}))=_
 congr 2
 rw [Bool.eq_iff_iff];simp
def Br(F:aP)(L:Fl R w)(z:Str)(a b x:Nat):aX F aU [fl R,.tup [.str "sign",.str z,sp a b,.str {#[x]}]]=
 .ok (if a<R.length/\b<w then(if x=120 then .tup [fl R,.str "no sign"] else .tup [fl (yi R a b x),.tup [.str {#[(cd R a b).getD 0]}]]) else .tup [fl R,.str "no spot"]):=by
 have hr:=L.jj.1;have G:=qc L;let(H,d,_,lw):=v7 L;have s0:aB (.tup [.str "sign",.str z,sp a b,.str {#[x]}]) (.int 0)=.ok (.str "sign"):=rfl;have e:aB (.tup [.str "sign",.str z,sp a b,.str {#[x]}]) (.int 2)=.ok (sp a b):=rfl;have f:aB (.tup [.str "sign",.str z,sp a b,.str {#[x]}]) (.int 3)=.ok (.str {#[x]}):=rfl;have g:gS (.str "sign") (.str "turn")=.ok (.bl ig):=∅
 have t2:gS (.str "sign") (.str (zu 17))=.ok (.bl ig):=∅
 have i:=gQ R;by_cases ha:a<R.length
 .have c:decide ((R.length:Int)<=(a:Int))=ig:=by rw [decide_eq_false_iff_not];lia
  by_cases j:b<w
  .have k:decide ((w:Int)<=(b:Int))=ig:=by rw [decide_eq_false_iff_not];lia
   rw [if_pos ⟨ha,j⟩];by_cases m:x=120
   .have p:gS (.str {#[x]}) (.str "x")=.ok (.bl ie):=by rw [Uq,m];rfl
    rw [if_pos m];dsimp! only [aU,s0,e,f,g,t2,d,lw,i,tm,c,k,p]
   .have p:gS (.str {#[x]}) (.str "x")=.ok (.bl ig):=by rw [Uq,beq_eq_false_iff_ne.2 m]
    rw [if_neg m];let(r,c1,s,t,u,y,A,B,q,C):=FL L x ha j;let(v,o):=Ee L ha j;have D:(R[a]).cps.toList[b]?=hI v:=by unfold cd at o;rw [zzg ha] at o;exact o
    have E:=tZ c1 D;rw [C,o];dsimp! only [aU,s0,e,f,g,t2,d,lw,i,tm,c,k,p,r,Z6,Z7,YW,YX,if_pos c1,if_pos s,if_pos t,q,u,y,if_pos A,if_pos B,E,Option.getD_some]
  .have k:decide ((w:Int)<=(b:Int))=ie:=by rw [zzN];lia
   rw [if_neg (λh=>j h.2)];dsimp! only [aU,s0,e,f,g,t2,d,lw,i,tm,c,k]
 .have c:decide ((R.length:Int)<=(a:Int))=ie:=by rw [zzN];lia
  rw [if_neg (λh=>ha h.1)];dsimp! only [aU,s0,e,f,g,t2,d,lw,i,tm,c]
noncomputable abbrev DD:=List (Str×List Str)
variable{D:DD}
abbrev gv(z:Str):DD->Option (List Str)
 |[]=>h9|q::D=>if q.1=z then hI q.2 else gv z D
noncomputable abbrev Lk(D:DD):Str->Option (List Str):=λz=>gv z D
noncomputable abbrev cg(D:DD):List Str:=D.map (·.1)
noncomputable abbrev kf(D:DD):List PV:=D.map λq=>fl q.2
noncomputable abbrev dc(D:DD):PV:=.cq (cg D) (kf D)
abbrev rest(z:Str)(D:DD):DD:=D.filter λq=>decide (q.1≠z)
theorem oH(z:Str):∀D:DD,bW (cg D) (kf D) z=(gv z D).map fl
 |[]=>by unfold bW;rfl|q::D=>by
  show bW (q.1::cg D) (fl q.2::kf D) z=_;unfold bW gv;by_cases e:q.1=z
  .rw [if_pos e,if_pos e];rfl
  .rw [if_neg e,if_neg e];exact oH z D
theorem l5(z:Str):∀D:DD,iC (cg D) z=(gv z D).isSome
 |[]=>rfl|q::D=>by
  show iC (q.1::cg D) z=_;unfold iC gv;rw [List.any_cons];by_cases e:q.1=z
  .rw [if_pos e,zzh e];rfl
  .rw [if_neg e,zz0 e];exact l5 z D
theorem sL:∀{D:DD},gv z D=h9↔z∉cg D
 |[]=>by simp [gv]|q::D=>by
  unfold gv;by_cases e:q.1=z
  .rw [if_pos e];simp [e]
  .rw [if_neg e,sL (D:=D)];simp [Ne.symm e]
def Nx(nd:(cg D).Nodup){q:Str×List Str}(h:q∈D):gv q.1 D=hI q.2:=by
 induction D with
 |nil=>cases h
 |cons p D b=>
  have a:=List.nodup_cons.1 nd
  unfold gv;rcases er.1 h with rfl|h
  .rw [if_pos rfl]
  .have:p.1≠q.1:=λe=>a.1 (by show p.1∈_;rw [e];exact List.mem_map_of_mem h);rw [if_neg this];exact b a.2 h
def Le(h:gv z D=hI R):(z,R)∈D:=by
 induction D with
 |nil=>cases h
 |cons p D a=>
  unfold gv at h;by_cases e:p.1=z
  .rw [if_pos e] at h;cases h;rw [<-e];exact .head _
  .rw [if_neg e] at h;exact .tail _ (a h)
theorem zY(z:Str)(D:DD):z∉cg (rest z D):=λh=>by let(q,a,e):=fP.1 h;have:=(List.mem_filter.1 a).2;rw [zzN] at this;exact this e
def zX(nd:(cg D).Nodup):(cg (rest z D)).Nodup:=(List.filter_sublist.map _).nodup nd
def FT(z:Str)(D:DD):(rest z D).length<=D.length:=List.length_filter_le ..
def iR(z y:Str)(D:DD):gv y (rest z D)=if y=z then h9 else gv y D:=by
 induction D with
 |nil=>unfold rest gv;simp|cons p D a=>
  unfold rest at a⊢;rw [g5];by_cases e:p.1=z
  .rw [if_neg (by simp [e]),a];by_cases h:y=z
   .rw [if_pos h,if_pos h]
   .rw [if_neg h,if_neg h]
    conv=>rhs;unfold gv
    rw [if_neg (λq=>h (q.symm.trans e))]
  .rw [if_pos (by simp [e])]
   conv=>lhs;unfold gv
   by_cases h:p.1=y
   .rw [if_pos h,if_neg (λq=>e (h.trans q))];unfold gv;rw [if_pos h]
   .rw [if_neg h,a];by_cases k:y=z
    .rw [if_pos k,if_pos k]
    .rw [if_neg k,if_neg k]
     conv=>rhs;unfold gv
     rw [if_neg h]
theorem sJ(y:Str)(q:Str×List Str):∀D:DD,gv y (D++[q])=match gv y D with|some R=>hI R|none=>if q.1=y then hI q.2 else h9
 |[]=>by simp! [List.nil_append,gv]|p::D=>by
  rw [List.cons_append];unfold gv;by_cases e:p.1=y
  .rw [if_pos e,if_pos e]
  .rw [if_neg e,if_neg e];exact sJ y q D
abbrev zt(e:Bool)(A B:List Str):Option (List Str):=if e=ie then(if A.length=B.length/\wd A+wd B<=12 then hI (List.zipWith (·++·) A B) else h9) else(if wd A=wd B/\A.length+B.length<=12 then hI (A++B) else h9)
noncomputable abbrev Hj:PV×Option (Option (List Str)):=(.str (zu 48),h9)
abbrev Dd.nm:Dd->Str
 |.lay z _=>z|.take z=>z|.turn z=>z|.lP z=>z|.sign z _ _ _=>z|.join z _ _ _=>z
abbrev act(D:Str->Option (List Str)):Dd->PV×Option (Option (List Str))
 |.lay z R=>(.bl (D z).isSome,hI (hI R))|.take z=>match D z with
  |some R=>(fl R,hI h9)|none=>Hj
 |.turn z=>match D z with
  |some R=>(fl (pW R (wd R)),hI (hI (pW R (wd R))))|none=>Hj
 |.lP z=>match D z with
  |some R=>(fl (lP R),hI (hI (lP R)))|none=>Hj
 |.sign z a b x=>match D z with
  |some R=>if a<R.length/\b<wd R then(if x=120 then(.str "no sign",h9) else(.tup [.str {#[(cd R a b).getD 0]}],hI (hI (yi R a b x)))) else(.str "no spot",h9)
  |none=>Hj
 |.join _ e c d=>match D c with
  |none=>Hj|some A=>match D d with
   |none=>Hj|some B=>match zt e A B with
    |some C=>(fl C,hI (hI C))|none=>(.str "no fit",h9)
abbrev wz(z:Str)(D:DD):Option (Option (List Str))->DD
 |none=>D|some h9=>rest z D|some (hI R)=>rest z D++[(z,R)]
def fg{F:aP}{s:Ci.S}{a:Ss}{e1:Sl}(h:dq F s env=.ok (.nx e1)):bJ F (.cons s a) env=bJ F a e1:=by rw [bJ,h];rfl
def tV{F:aP}{s:Ci.S}{a:Ss}{p:PV}(h:dq F s env=.ok (.rt p)):bJ F (.cons s a) env=.ok (.rt p):=by rw [bJ,h];rfl
def nJ{F:aP}{d:Def}{as:List PV}{p:PV}(a:e9 d as=ie)(h:bJ F d.body (ft d as)=.ok (.rt p)):aX F d as=.ok p:=by unfold aX;rw [if_pos a,h];rfl
theorem SQ{a b:Str}:iJ (.str a) (.str b)=.ok (.bl (!(a==b))):=rfl
theorem Cd{a b:Str}:gS (.str a) (.str b)=.ok (.bl (a==b)):=rfl
theorem qR(F:aP)(D:DD)(z:Str)(dp:PV)(a:aB dp (.int 1)=.ok (.str z)):∀E:DD,(∀q∈E,gv q.1 D=hI q.2)->aY (λx=>((Tg.one 0).put x [.no,.val (dc D),.val dp]).bind λc=>(az F (.cmp .ne (!0) (.sub (!2) (¬1))) c).bind λt=>yF t λt=>if t then(az F (.tup #v[!0,.sub (!1) (!0)]) c).bind λy=>.ok (hI y) else .ok h9) ((cg E).map gP)=.ok ((rest z E).map λq=>.tup [.str q.1,fl q.2])
 |[],_=>rfl|q::E,h=>by
  have d:=qR F D z dp a E λp f=>h p (.tail _ f);have g:aB (dc D) (.str q.1)=.ok (fl q.2):=by show(Res.of (eG (.str q.1))).bind (λk=>Res.of (bW (cg D) (kf D) k))=_;show Res.of (bW (cg D) (kf D) q.1)=_;rw [oH,h q (.head _)];rfl
  unfold rest at d⊢;rw [g5];show aY _ (gP q.1::(cg E).map gP)=_;rw [aY,d];by_cases e:q.1=z
  .have b:(q.1==z)=ie:=zzy.2 e;rw [if_neg (by simp [e])];simp! only [gP,a,SQ,b];rfl
  .have b:(q.1==z)=ig:=beq_eq_false_iff_ne.2 e;rw [if_pos (by simp [e])];simp! only [gP,a,SQ,b,g];rfl
theorem FE:∀D:DD,vV (D.map λq=>.tup [.str q.1,fl q.2])=hI (D.map λq=>(q.1,fl q.2))
 |[]=>rfl|q::D=>by rw [a8,vV,FE D];rfl
def DX(h:z∉ks):iC ks z=ig:=by unfold iC;rw [List.any_eq_false];intro y a;rw [zzN];exact λe=>h (by rw [<-e];exact a)
theorem sU:∀(E:DD) (ks:List Str) (vs:List PV),(∀q∈E,q.1∉ks)->(cg E).Nodup->bP (E.map λq=>(q.1,fl q.2)) ks vs=(ks++cg E,vs++kf E)
 |[],ks,vs,_,_=>by simp [bP]|q::E,ks,vs,h,nd=>by
  have a:=List.nodup_cons.1 nd;have c:=DX (h q (.head _));rw [a8,bP];show bP _ (eM ks q.1) (cQ ks vs q.1 (fl q.2))=_;unfold eM cQ;rw [c];rw [if_neg zzf,if_neg zzf,sU E _ _ (λp b=>?_) a.2]
  .simp
  .rw [List.mem_append,ej]
   rintro (k|k)
   .exact h p (.tail _ b) k
   .exact a.1 (by show q.1∈_;rw [<-k];exact List.mem_map_of_mem b)
abbrev eV:Nat->Ss->Ci.S
 |0,.cons s _=>s|n+1,.cons _ ss=>eV n ss|_,.nil=>.expr (.cst .aR)
abbrev VR:Ci.S:=eV 0 aj.body
abbrev UH:Ci.S:=eV 1 aj.body
abbrev Ql:Ci.S:=eV 2 aj.body
abbrev YZ:Ci.S:=eV 3 aj.body
abbrev UI:Ci.S:=eV 4 aj.body
abbrev Au:Ci.S:=eV 5 aj.body
abbrev VS:Ci.S:=eV 6 aj.body
abbrev VT:Ci.S:=eV 7 aj.body
abbrev Rk:Ci.S:=eV 8 aj.body
theorem yL:aj.body=.cons VR #v[UH,Ql,YZ,UI,Au,VS,VT,Rk]:=rfl
noncomputable abbrev eB(D:DD)(dp:PV)(E:DD)(a b c d e:Ci.Slot):Sl:=[.val (dc D),.val dp,.own (dc E),a,b,c,d,e]
section
variable(F:aP)(nd:(cg D).Nodup)(hl:D.length<=5)(z:Str)(dp:PV)
include nd hl in
def CN(c:aB dp (.int 1)=.ok (.str z)):dq F VR [.val (dc D),.val dp,.no,.no,.no,.no,.no,.no]=.ok (.nx (eB D dp (rest z D) .no .no .no .no .no)):=by
 have a:=qR F D z dp c D λq d=>Nx nd d;have e:((cg D).map gP).length<bT:=d2 (m:=5) (zx6 hl) ↑2;have sq:yb (!0) (dc D)=.ok ((cg D).map gP):=rfl;have bd:g6 [.lst ((rest z D).map λq=>.tup [.str q.1,fl q.2])]=.ok (dc (rest z D)):=by show(Res.of (vV _)).bind (λb=>Res.ok (PV.cq (bP b [] []).1 (bP b [] []).2))=_;rw [FE];show Res.ok (PV.cq (bP _ [] []).1 (bP _ [] []).2)=_;rw [sU _ _ _ (λZ Z h=>by cases h) (zX nd)];rfl
 simp! only [] at a;simp! only [VR,eV,aj,sq,e,a,bd]
def L7{w:Str}(a:aB dp (.int 0)=.ok (.str w))(b:(w=="lay")=ig)(env:Sl):dq F UH (.val (dc D)::.val dp::env)=.ok (.nx (.val (dc D)::.val dp::env)):=by simp! only [UH,eV,aj,a,Cd,b]
def wt(h:gv z D=hI R):aB (dc D) (.str z)=.ok (fl R):=by show(Res.of (eG (.str z))).bind (λk=>Res.of (bW (cg D) (kf D) k))=_;show Res.of (bW (cg D) (kf D) z)=_;rw [oH,h];rfl
def W8:ql (.str z) (dc D)=.ok (.bl (gv z D).isSome):=by show(Res.of (eG (.str z))).bind (λk=>Res.ok (PV.bl (iC (cg D) k)))=_;show Res.ok (PV.bl (iC (cg D) z))=_;rw [l5]
def Lr:o6 (.str z) (dc D)=.ok (.bl (!(gv z D).isSome)):=by show(Res.of (eG (.str z))).bind (λk=>Res.ok (PV.bl (!iC (cg D) k)))=_;show Res.ok (PV.bl (!iC (cg D) z))=_;rw [l5]
def Tx(R:List Str):(PV.cq (eM (cg (rest z D)) z) (cQ (cg (rest z D)) (kf (rest z D)) z (fl R)))=dc (rest z D++[(z,R)]):=by unfold eM cQ;rw [DX (zY z D),if_neg zzf,if_neg zzf];unfold dc cg kf;rw [List.map_append,List.map_append];rfl
include hl in
def FP(k e:Ci.E)(R:List Str)(a b c d f:Ci.Slot)(hk:az F k (eB D dp (rest z D) a b c d f)=.ok (.str z))(he:az F e (eB D dp (rest z D) a b c d f)=.ok (fl R)):dq F (.put 2 k e) (eB D dp (rest z D) a b c d f)=.ok (.nx (eB D dp (rest z D++[(z,R)]) a b c d f)):=by have l:(cg (rest z D)).length<bT:=d2 (m:=5) (by rw [zzl];exact d1 (FT z D) hl) ↑2;rw [dq,he];show(az F k (eB D dp (rest z D) a b c d f)).bind _=_;rw [hk];show(if(cg (rest z D)).length<bT then Res.ok (Fl.nx ((eB D dp (rest z D) a b c d f).set 2 (.own (PV.cq (eM (cg (rest z D)) z) (cQ (cg (rest z D)) (kf (rest z D)) z (fl R)))))) else Res.bad)=_;rw [if_pos l,Tx];rfl
theorem oC(E:DD)(a b c d e:Ci.Slot):dq F (.bV 2) (eB D dp E a b c d e)=.ok (.nx [.val (dc D),.val dp,.val (dc E),a,b,c,d,e]):=rfl
include hl in
def Dv(d:aB dp (.int 1)=.ok (.str z))(R:List Str)(q:PV)(a b c:Ci.Slot):bJ F #v[VS,VT,Rk] (eB D dp (rest z D) a b c (.val (fl R)) (.val q))=.ok (.rt (.tup [dc (rest z D++[(z,R)]),q])):=by show bJ F #v[.put 2 (.sub (!1) (¬1)) (!6),.bV 2,Rk] _=_;rw [fg (FP F hl z dp _ _ R a b c _ _ (by simp! only [d]) (by simp! only [])),fg (oC F dp _ _ _ _ _ _)];refine tV ?_;simp! only [Rk,eV,aj]
include nd hl in
def Jc(R:List Str):aX F aj [dc D,.tup [.str "lay",.str z,fl R]]=.ok (.tup [dc (rest z D++[(z,R)]),.bl (gv z D).isSome]):=by
 have b:aB (.tup [.str "lay",.str z,fl R]) (.int 0)=.ok (.str "lay"):=rfl;have a:aB (.tup [.str "lay",.str z,fl R]) (.int 1)=.ok (.str z):=rfl;have c:aB (.tup [.str "lay",.str z,fl R]) (.int 2)=.ok (fl R):=rfl;have d:(("lay":Str)=="lay")=ie:=↑1
 have e:dq F UH (eB D (.tup [.str "lay",.str z,fl R]) (rest z D) .no .no .no .no .no)=.ok (.rt (.tup [dc (rest z D++[(z,R)]),.bl (gv z D).isSome])):=by
  have f:az F (.cmp .eq (.sub (!1) (¬0)) (.cst (.str "lay"))) (eB D (.tup [.str "lay",.str z,fl R]) (rest z D) .no .no .no .no .no)=.ok (.bl ie):=by simp! only [b,Cd,d]
  show dq F (.ite _ _ _) _=_;rw [dq,f];show bJ F #v[.put 2 _ _,.bV 2,_] _=_;rw [fg (FP F hl z _ _ _ R _ _ _ _ _ (by simp! only [a]) (by simp! only [c])),fg (oC F _ _ _ _ _ _ _)];refine tV ?_;simp! only [a,W8]
 refine nJ rfl ?_;rw [yL];show bJ F _ [.val (dc D),.val _,.no,.no,.no,.no,.no,.no]=_;rw [fg (CN F nd hl z _ a),tV e]
theorem K8:∀ys:List Str,aY (λx=>((Tg.one 0).put x [.no,.val (dc D)]).bind λa=>(az F (.cmp .Hi (!0) (!1)) a).bind λt=>yF t λt=>if t then(az F (!0) a).bind λy=>.ok (hI y) else .ok h9) (ys.map .str)=.ok ((ys.filter λy=>!(gv y D).isSome).map .str)
 |[]=>rfl|y::ys=>by
  have b:=K8 ys;rw [a8,aY,b,g5];cases h:(gv y D).isSome
  .simp! only [Lr,h];rfl
  .simp! only [Lr,h];rfl
def Vd(ys:List Str):iJ (.lst (ys.map .str)) (.lst [])=.ok (.bl (!ys.isEmpty)):=by
 have h:Ci.plain 9 (.lst (ys.map .str))=ie:=by show(ys.map PV.str).all (Ci.plain 8)=ie;rw [List.all_map];exact d0.2 λZ Z=>rfl
 show(if(nc (.lst (ys.map .str))&&nc (.lst []))=ie then Res.ok (PV.bl (!eqv (.lst (ys.map .str)) (.lst []))) else .bad)=_;rw [show nc (.lst (ys.map .str))=ie from h];cases ys<;>rfl
def L8(ys:List Str)(f:ys.length<=2)(E:DD)(a b c d:Ci.Slot):dq F YZ (eB D dp E (.val (.lst (ys.map .str))) a b c d)=.ok (if(ys.filter λy=>!(gv y D).isSome).isEmpty then .nx (eB D dp E (.val (.lst (ys.map .str))) a b c d) else .rt (.tup [dc D,.str (zu 48)])):=by
 have e:=K8 F (D:=D) ys;have g:(ys.map PV.str).length<bT:=d2 (m:=2) (zx6 f) ↑2;simp! only [] at e;have h:az F (.cmp .ne (.fI 1 [0] (.one 0) (.seq (!3)) (.cmp .Hi (!0) (!1)) (!0)) (.lst .nil)) (eB D dp E (.val (.lst (ys.map .str))) a b c d)=.ok (.bl (!(ys.filter λy=>!(gv y D).isSome).isEmpty)):=by have:=Vd (ys.filter λy=>!(gv y D).isSome);simp! only [g,e,this]
 show dq F (.ite _ _ _) _=_;rw [dq,h];cases(ys.filter λy=>!(gv y D).isSome).isEmpty
 .show bJ F _ _=_;refine tV ?_;simp! only []
 .rfl
noncomputable abbrev Yk:Ss:=.cons UI #v[Au,VS,VT,Rk]
noncomputable abbrev F9(D:DD)(dp:PV):Sl:=[.val (dc D),.val dp,.no,.no,.no,.no,.no,.no]
def yK{w:Str}(a:aB dp (.int 0)=.ok (.str w))(b:aB dp (.int 1)=.ok (.str z))(c:(w=="join")=ig)(E:DD):dq F Ql (eB D dp E .no .no .no .no .no)=.ok (.nx (eB D dp E (.val (.lst ([z].map .str))) .no .no .no .no)):=by simp! only [Ql,eV,aj,a,b,SQ,c,a8,List.map_nil]
def HA{a b:Str}(c:aB dp (.int 0)=.ok (.str "join"))(d:aB dp (.int 3)=.ok (.str a))(e:aB dp (.int 4)=.ok (.str b))(E:DD):dq F Ql (eB D dp E .no .no .no .no .no)=.ok (.nx (eB D dp E (.val (.lst ([a,b].map .str))) .no .no .no .no)):=by
 have f:(("join":Str)=="join")=ie:=↑1
 simp! only [Ql,eV,aj,c,d,e,SQ,f,a8,List.map_nil]
include nd hl in
def x8{w:Str}(ys:List Str)(c:ys.length<=2)(d:aB dp (.int 0)=.ok (.str w))(e:aB dp (.int 1)=.ok (.str z))(f:(w=="lay")=ig)(g:∀E,dq F Ql (eB D dp E .no .no .no .no .no)=.ok (.nx (eB D dp E (.val (.lst (ys.map .str))) .no .no .no .no))):
 bJ F aj.body (F9 D dp)=if(ys.filter λy=>!(gv y D).isSome).isEmpty then bJ F Yk (eB D dp (rest z D) (.val (.lst (ys.map .str))) .no .no .no .no) else .ok (.rt (.tup [dc D,.str (zu 48)])):=by
 rw [yL,fg (CN F nd hl z dp e),fg (L7 F dp d f _),fg (g _)];have a:=L8 F (D:=D) dp ys c (rest z D) .no .no .no .no;cases b:(ys.filter λy=>!(gv y D).isSome).isEmpty
 .rw [b] at a;exact tV a
 .rw [b] at a;exact fg a
include nd hl in
def k8{w:Str}(a:aB dp (.int 0)=.ok (.str w))(b:aB dp (.int 1)=.ok (.str z))(c:(w=="lay")=ig)(d:(w=="join")=ig)(hn:gv z D=h9):aX F aj [dc D,dp]=.ok (.tup [dc D,.str (zu 48)]):=by refine nJ rfl ?_;show bJ F aj.body (F9 D dp)=_;rw [x8 F nd hl z dp [z] (Nat.le_succ 1) a b c (yK F z dp a b d),g5,hn];rfl
include nd hl in
def oZ{w:Str}(a:aB dp (.int 0)=.ok (.str w))(b:aB dp (.int 1)=.ok (.str z))(c:(w=="lay")=ig)(d:(w=="join")=ig)(hn:gv z D=hI R)
 (h:bJ F Yk (eB D dp (rest z D) (.val (.lst [.str z])) .no .no .no .no)=.ok (.rt q)):aX F aj [dc D,dp]=.ok q:=by
 refine nJ rfl ?_;show bJ F aj.body (F9 D dp)=_;rw [x8 F nd hl z dp [z] (Nat.le_succ 1) a b c (yK F z dp a b d),g5,hn];exact h
def wW{w:Str}(f:aB dp (.int 0)=.ok (.str w))(g:(w=="take")=ig)(E:DD)(a b c d e:Ci.Slot):dq F UI (eB D dp E a b c d e)=.ok (.nx (eB D dp E a b c d e)):=by simp! only [UI,eV,aj,f,Cd,g]
include nd hl in
def Gp(hn:gv z D=hI R):aX F aj [dc D,.tup [.str "take",.str z]]=.ok (.tup [dc (rest z D),fl R]):=by
 have a:aB (.tup [.str "take",.str z]) (.int 0)=.ok (.str "take"):=rfl;have b:aB (.tup [.str "take",.str z]) (.int 1)=.ok (.str z):=rfl;refine oZ F nd hl z _ a b ↑1 ↑1 hn ?_;have c:(("take":Str)=="take")=ie:=↑1
 have d:az F (.cmp .eq (.sub (!1) (¬0)) (.cst (.str "take"))) (eB D (.tup [.str "take",.str z]) (rest z D) (.val (.lst [.str z])) .no .no .no .no)=.ok (.bl ie):=by simp! only [a,Cd,c]
 refine tV ?_;show dq F (.ite _ _ _) _=_;rw [dq,d];show bJ F #v[.bV 2,_] _=_;rw [fg (oC F _ _ _ _ _ _ _)];refine tV ?_;have:=wt z hn;simp! only [b,this]
def HB{w:Str}{a:PV}(c:aB dp (.int 0)=.ok (.str w))(d:aB dp (.int 1)=.ok (.str z))(e:(w=="join")=ig)(hn:gv z D=hI R)(f:F (zu 18) [fl R,dp]=.ok (.tup [a,.tup xs]))(E:DD)(b:Ci.Slot):
 dq F Au (eB D dp E b .no .no .no .no)=.ok (.nx (eB D dp E b .no .no (.val a) (.val (.tup xs)))):=by
 have hd:=wt z hn;simp! only [Au,eV,aj,c,d,Cd,e,hd,f]
def HC{w:Str}{a:PV}(b:aB dp (.int 0)=.ok (.str w))(d:aB dp (.int 1)=.ok (.str z))(e:(w=="join")=ig)(hn:gv z D=hI R)(f:F (zu 18) [fl R,dp]=.ok (.tup [a,.str c]))(E:DD)(g:Ci.Slot):
 dq F Au (eB D dp E g .no .no .no .no)=.ok (.rt (.tup [dc D,.str c])):=by
 have hd:=wt z hn;simp! only [Au,eV,aj,b,d,Cd,e,hd,f]
include nd hl in
def oT{w:Str}{a:List Str}{q:List PV}(b:aB dp (.int 0)=.ok (.str w))(c:aB dp (.int 1)=.ok (.str z))(f:(w=="lay")=ig)(g:(w=="take")=ig)(d:(w=="join")=ig)(hn:gv z D=hI R)(h:F (zu 18) [fl R,dp]=.ok (.tup [fl a,.tup q])):aX F aj [dc D,dp]=.ok (.tup [dc (rest z D++[(z,a)]),.tup q]):=by refine oZ F nd hl z dp b c f d hn ?_;have e:=HB F z dp b c d hn h (rest z D) (.val (.lst [.str z]));rw [fg (wW F dp b g _ _ _ _ _ _),fg e];exact Dv F hl z dp c a (.tup q) _ _ _
include nd hl in
def zC{w:Str}{a:PV}{q:Str}(b:aB dp (.int 0)=.ok (.str w))(c:aB dp (.int 1)=.ok (.str z))(f:(w=="lay")=ig)(g:(w=="take")=ig)(d:(w=="join")=ig)(hn:gv z D=hI R)(h:F (zu 18) [fl R,dp]=.ok (.tup [a,.str q])):aX F aj [dc D,dp]=.ok (.tup [dc D,.str q]):=by refine oZ F nd hl z dp b c f d hn ?_;have e:=HC F z dp b c d hn h (rest z D) (.val (.lst [.str z]));rw [fg (wW F dp b g _ _ _ _ _ _)];exact tV e
end
def Yp{A B:List Str}{a:Nat}(L:Fl A w)(b:Fl B a):∃y,aB (fl (List.zipWith (·++·) A B)) (.int 0)=.ok (.str y)/\fe .len [.str y]=.ok (.int ((w+a:Nat):Int))/\wd (List.zipWith (·++·) A B)=w+a:=by
 have ha:=L.ne;have c:=b.ne;have e:(List.zipWith (·++·) A B)[0]?=hI (A[0]++B[0]):=by rw [List.getElem?_zipWith,zzg ha,zzg c]
 have l:(A[0]++B[0]:Str).length=w+a:=by rw [Str.length_append,L.dR _ (List.getElem_mem ha),b.dR _ (List.getElem_mem c)]
 have d:=qc L;have f:=qc b;refine{A[0]++B[0],j8 (j:=0) e,?_,?_}
 .show(if(A[0]++B[0]:Str).length<=bT then Res.ok (PV.int ((A[0]++B[0]:Str).length:Int)) else .bad)=_;rw [l,if_pos (d1 (m:=24) (by lia) ↑2)]
 .unfold wd;rw [cW,e];exact l
def VP{A:List Str}(B:List Str)(L:Fl A w):∃y,aB (fl (A++B)) (.int 0)=.ok (.str y)/\fe .len [.str y]=.ok (.int (w:Int))/\wd (A++B)=w:=by
 have ha:=L.ne;have e:(A++B)[0]?=hI A[0]:=by rw [ey ha,zzg ha]
 have l:=L.dR _ (List.getElem_mem ha);have a:=qc L;refine{A[0],j8 (j:=0) e,?_,?_}
 .show(if(A[0]).length<=bT then Res.ok (PV.int ((A[0]).length:Int)) else .bad)=_;rw [l,if_pos (d1 (m:=24) (by lia) ↑2)]
 .unfold wd;rw [cW,e];exact l
theorem Va{C:List Str}:cB .is (fl C) .aR=.ok (.bl ig):=rfl
theorem ZO:cB .is .aR .aR=.ok (.bl ie):=rfl
def Cb{a b:Nat}:(((a:Int)==(b:Int)))=decide (a=b):=by rw [Bool.eq_iff_iff,zzy,zzN];lia
def N1(F:aP)(z b c:Str)(e:Bool){A B:List Str}{w g:Nat}(L:Fl A w)(m:Fl B g)(T:gv b D=hI A)(U:gv c D=hI B)(E:DD)(P:Ci.Slot):∃V W,dq F Au (eB D (.tup [.str "join",.str z,.bl e,.str b,.str c]) E P .no .no .no .no)=
 .ok (match zt e A B with|some C=>.nx (eB D (.tup [.str "join",.str z,.bl e,.str b,.str c]) E P V W (.val (fl C)) (.val (fl C)))|none=>.rt (.tup [dc D,.str "no fit"])):=by
 refine{.val (fl A),.val (fl B),?_};have h:aB (.tup [.str "join",.str z,.bl e,.str b,.str c]) (.int 0)=.ok (.str "join"):=rfl;have i:aB (.tup [.str "join",.str z,.bl e,.str b,.str c]) (.int 2)=.ok (.bl e):=rfl;have j:aB (.tup [.str "join",.str z,.bl e,.str b,.str c]) (.int 3)=.ok (.str b):=rfl;have k:aB (.tup [.str "join",.str z,.bl e,.str b,.str c]) (.int 4)=.ok (.str c):=rfl;have o:(("join":Str)=="join")=ie:=↑1
 have p:=wt b T;have r:=wt c U;have G:=gQ A;have H:=gQ B;have Q:=L.jj.1;have X:=m.jj.1;have QE:=qc L;have Y:=qc m;let(a0,I,_,K):=v7 L;let(b0,M,_,N):=v7 m;generalize Z:(PV.tup [.str "join",.str z,.bl e,.str b,.str c])=dp at h i j k⊢;unfold zt;rw [fv L,fv m];cases e
 .rw [if_neg zzf];by_cases d:w=g
  .have f:decide (w=g)=ie:=zzh d;have R:=CD Q X;let(c0,u,y,_):=VP B L;have s:=gQ (A++B);have g2:decide ((12:Int)<(w:Int))=ig:=by rw [decide_eq_false_iff_not];lia
   by_cases a:A.length+B.length<=12
   .have g1:decide ((12:Int)<((A++B).length:Int))=ig:=by rw [decide_eq_false_iff_not,c5];lia
    rw [if_pos ⟨d,a⟩];simp! only [Au,eV,aj,h,i,j,k,Cd,o,p,r,I,M,K,N,Cb,f,R,Va,s,g1,u,y,g2]
   .have g1:decide ((12:Int)<((A++B).length:Int))=ie:=by rw [zzN,c5];lia
    rw [if_neg (λq=>a q.2)];simp! only [Au,eV,aj,h,i,j,k,Cd,o,p,r,I,M,K,N,Cb,f,R,Va,s,g1]
  .have f:decide (w=g)=ig:=zz0 d;rw [if_neg (λq=>d q.1)];simp! only [Au,eV,aj,h,i,j,k,Cd,o,p,r,I,M,K,N,Cb,f,ZO]
 .rw [if_pos rfl];by_cases d:A.length=B.length
  .have f:decide (A.length=B.length)=ie:=zzh d;have O:=Aj F (w:=w) d L.jj.2 m.jj.2;let(t,S):=GL (B:=B) Q;let(c0,u,y,_):=Yp L m;have s:=gQ (List.zipWith (·++·) A B);have g1:decide ((12:Int)<((List.zipWith (·++·) A B).length:Int))=ig:=by rw [decide_eq_false_iff_not,List.length_zipWith];lia
   simp! only [] at O;by_cases a:w+g<=12
   .have g2:decide ((12:Int)<((w+g:Nat):Int))=ig:=by rw [decide_eq_false_iff_not];lia
    rw [if_pos ⟨d,a⟩];simp! only [Au,eV,aj,h,i,j,k,Cd,o,p,r,G,H,Cb,f,t,S,O,Va,s,g1,u,y,g2]
   .have g2:decide ((12:Int)<((w+g:Nat):Int))=ie:=by rw [zzN];lia
    rw [if_neg (λq=>a q.2)];simp! only [Au,eV,aj,h,i,j,k,Cd,o,p,r,G,H,Cb,f,t,S,O,Va,s,g1,u,y,g2]
  .have f:decide (A.length=B.length)=ig:=zz0 d;rw [if_neg (λq=>d q.1)];simp! only [Au,eV,aj,h,i,j,k,Cd,o,p,r,G,H,Cb,f,ZO]
def Gd(D:DD):Prop:=∀q∈D,∃w,Fl q.2 w
def Gd.at(g:Gd D)(h:gv z D=hI R):∃w,Fl R w:=g _ (Le h)
def Aq(F m:aP)(q:∀as,F (zu 18) as=aX m aU as)(nd:(cg D).Nodup)(hl:D.length<=5)(g:Gd D)(d:Dd):aX F aj [dc D,d.P]=.ok (.tup [dc (wz d.nm D (act (Lk D) d).2),(act (Lk D) d).1]):=by
 cases d with
 |lay z R=>exact Jc F nd hl z R|take z=>
  have c:aB (.tup [.str "take",.str z]) (.int 0)=.ok (.str "take"):=rfl
  cases h:gv z D with
  |none=>refine(k8 F nd hl z _ c rfl ↑1 ↑1 h).trans ?_;simp! [act,h,Hj,wz]|some R=>refine(Gp F nd hl z h).trans ?_;simp! [act,h,wz,Dd.nm]
 |turn z=>
  have c:aB (.tup [.str "turn",.str z]) (.int 0)=.ok (.str "turn"):=rfl
  cases h:gv z D with
  |none=>refine(k8 F nd hl z _ c rfl ↑1 ↑1 h).trans ?_;simp! [act,h,Hj,wz]|some R=>let(w,L):=g.at h;refine(oT F nd hl z _ c rfl ↑1 ↑1 ↑1 h ((q _).trans (Bs m L z))).trans ?_;simp! [act,h,wz,Dd.nm,fv L]
 |lP z=>
  have c:aB (.tup [.str (zu 17),.str z]) (.int 0)=.ok (.str (zu 17)):=rfl
  cases h:gv z D with
  |none=>refine(k8 F nd hl z _ c rfl ↑1 ↑1 h).trans ?_;simp! [act,h,Hj,wz]|some R=>let(w,L):=g.at h;refine(oT F nd hl z _ c rfl ↑1 ↑1 ↑1 h ((q _).trans (EI m L z))).trans ?_;simp! [act,h,wz,Dd.nm]
 |sign z a b x=>
  have c:aB (.tup [.str "sign",.str z,sp a b,.str {#[x]}]) (.int 0)=.ok (.str "sign"):=rfl
  cases h:gv z D with
  |none=>refine(k8 F nd hl z _ c rfl ↑1 ↑1 h).trans ?_;simp! [act,h,Hj,wz]|some R=>
   let(w,L):=g.at h;have hm:=(q _).trans (Br m L z a b x);have e:act (Lk D) (.sign z a b x)=if a<R.length/\b<w then(if x=120 then(.str "no sign",h9) else(.tup [.str {#[(cd R a b).getD 0]}],hI (hI (yi R a b x)))) else(.str "no spot",h9):=by simp! [act,h,fv L]
   rw [e];by_cases j:a<R.length/\b<w
   .rw [if_pos j] at hm⊢;by_cases r:x=120
    .rw [if_pos r] at hm⊢;exact zC F nd hl z _ c rfl ↑1 ↑1 ↑1 h hm
    .rw [if_neg r] at hm⊢;exact oT F nd hl z _ c rfl ↑1 ↑1 ↑1 h hm
   .rw [if_neg j] at hm⊢;exact zC F nd hl z _ c rfl ↑1 ↑1 ↑1 h hm
 |join z e f i=>
  have c:aB (.tup [.str "join",.str z,.bl e,.str f,.str i]) (.int 0)=.ok (.str "join"):=rfl;have pre:=x8 F nd hl z (.tup [.str "join",.str z,.bl e,.str f,.str i]) [f,i] (a7 2) c rfl ↑1 (HA F _ c rfl rfl)
  refine nJ rfl ?_;refine pre.trans ?_;rw [g5,g5];cases k:gv f D with
  |none=>simp! [act,k];rfl|some A=>
   cases o:gv i D with
   |none=>simp! [act,k,o];rfl|some B=>
    let(w,L):=g.at k;let(u,t):=g.at o;let(y,E,p):=N1 F z f i e L t k o (rest z D) (.val (.lst ([f,i].map .str)));simp! [act,k,o];show bJ F Yk _=_
    rw [fg (wW F _ c ↑1 _ _ _ _ _ _)];cases s:zt e A B with
    |none=>rw [s] at p;exact tV p|some C=>rw [s] at p;rw [fg p];exact Dv F hl z _ rfl C _ _ _ _
theorem As{a b:Type}{f:a->Res b}:(Res.exc c:Res a).bind f=.exc c:=rfl
def Ar(F:aP){A B:List Str}{b:Nat}(L:Fl A w)(e:Fl B b):aX F b9 [fl A,fl B]=match zt ig A B with|some C=>.ok (fl C)|none=>.exc "NoFit":=by
 let(r,f,_,g):=v7 L;let(s,h,_,i):=v7 e;have j:=gQ A;have k:=gQ B;have m:=L.jj.1;have o:=e.jj.1;unfold zt;rw [fv L,fv e,if_neg zzf];by_cases c:w=b
 .have d:decide (w=b)=ie:=zzh c;have p:=CD m o;by_cases a:A.length+B.length<=12
  .have g1:decide ((12:Int)<(A.length:Int)+(B.length:Int))=ig:=by rw [decide_eq_false_iff_not];lia
   rw [if_pos ⟨c,a⟩];simp! only [b9,f,h,g,i,Cb,d,j,k,g1,p]
  .have g1:decide ((12:Int)<(A.length:Int)+(B.length:Int))=ie:=by rw [zzN];lia
   rw [if_neg (λq=>a q.2)];simp! only [b9,f,h,g,i,Cb,d,j,k,g1,As]
 .have d:decide (w=b)=ig:=zz0 c;rw [if_neg (λq=>c q.1)];simp! only [b9,f,h,g,i,Cb,d,As]
def wV(F:aP){A B:List Str}{w c:Nat}(L:Fl A w)(d:Fl B c):aX F bQ [fl A,fl B]=match zt ie A B with|some C=>.ok (fl C)|none=>.exc "NoFit":=by
 let(s,i,_,j):=v7 L;let(t,k,_,m):=v7 d;have f:=gQ A;have g:=gQ B;have p:=L.jj.1;have u:=d.jj.1;unfold zt;rw [fv L,fv d,if_pos rfl];by_cases a:A.length=B.length
 .have e:decide (A.length=B.length)=ie:=zzh a;have o:=Aj F (w:=w) a L.jj.2 d.jj.2;let(h,r):=GL (B:=B) p;simp! only [] at o;by_cases b:w+c<=12
  .have g2:decide ((12:Int)<(w:Int)+(c:Int))=ig:=by rw [decide_eq_false_iff_not];lia
   rw [if_pos ⟨a,b⟩];simp! only [bQ,i,k,j,m,Cb,e,f,g,g2,h,r,o]
  .have g2:decide ((12:Int)<(w:Int)+(c:Int))=ie:=by rw [zzN];lia
   rw [if_neg (λq=>b q.2)];simp! only [bQ,i,k,j,m,Cb,e,f,g,g2,As]
 .have e:decide (A.length=B.length)=ig:=zz0 a;rw [if_neg (λq=>a q.1)];simp! only [bQ,f,g,Cb,e,As]
def Ox(F:aP)(hs:∀r c,F "is_spot" [sp r c]=.ok (.bl ie))(b:∀ae,QT ae->∀r c,F (zu 9) [fl ae,sp r c]=.ok (.bl (decide (0<=r)&&decide (0<=c)&&(cd ae r.toNat c.toNat).isSome))){ae:List Str}(L:Fl ae w){i:Nat}(h:¬(i<ae.length/\j<w)):aX F bb [fl ae,sp i j]=.exc "NoSpot":=by
 have d:cd ae i j=h9:=by
  unfold cd;by_cases a:i<ae.length
  .rw [zzg a];have:=L.dR _ (List.getElem_mem a);show(ae[i]).cps.toList[j]?=h9;refine List.getElem?_eq_none ?_;rw [ef];show(ae[i]).length<=j;lia
  .rw [List.getElem?_eq_none (by lia)];rfl
 have e:=b ae L.jj i j;rw [hB,hB,d,zzh (Int.natCast_nonneg i),zzh (Int.natCast_nonneg j)] at e;have e:F (zu 9) [fl ae,sp i j]=.ok (.bl ig):=e;simp! only [bb,hs,e,Bool.not_false,As]
section
variable(s:Sg)
def A2(L:Fl R w):F1 s (zu 45) [fl R]=.ok (.bl ie):=by have a:aH (aW s) pY (zu 45)=aX (aH (aW s) VC) dI:=oq 9;have b:aH (aW s) VC "is_row"=aX (aH (aW s) VB) gd:=oq 0;have c:aH (aW s) VB (zu 34)=aX (aH (aW s) T9) dg:=oq 1;show aH (aW s) pY (zu 45) _=_;rw [a];exact HY _ (λz d e hd=>by rw [b];exact Pf _ (λx f=>by rw [c];exact Px _ f) d e hd) L
def Dt(L:Fl R w):F1 s (zu 13) [fl R]=.ok (fl (pW R w)):=by have a:aH (aW s) pY (zu 13)=aX (aH (aW s) T4) b8:=oq 17;show aH (aW s) pY (zu 13) _=_;rw [a];exact B5 _ L.ne L.jj.1 L.dR (qc L)
def xi(L:Fl R w):F1 s (zu 8) [fl R]=.ok (fl (lP R)):=by have a:aH (aW s) pY (zu 8)=aX (aH (aW s) T5) bI:=oq 16;show aH (aW s) pY (zu 8) _=_;rw [a];exact vG _ L.jj.1 L.jj.2
def Ds(r c:Int):aH (aW s) T8 "is_spot" [sp r c]=.ok (.bl ie):=by have a:aH (aW s) T8 "is_spot"=aX (aH (aW s) T6) eY:=oq 1;have b:aH (aW s) T6 (zu 44)=aX (aH (aW s) T1) fi:=oq 4;rw [a];exact xy _ (λi=>by rw [b];exact sP _ i) r c
def Lb(ae:List Str)(R:QT ae)(r c:Int):aH (aW s) T8 (zu 9) [fl ae,sp r c]=.ok (.bl (decide (0<=r)&&decide (0<=c)&&(cd ae r.toNat c.toNat).isSome)):=by have a:aH (aW s) T8 (zu 9)=aX (aH (aW s) T7) cu:=oq 0;rw [a];exact Ta _ ae R r c
def MC(L:Fl R w)(a b:Nat):F1 s (zu 12) [fl R,sp a b]=if a<R.length/\b<w then .ok .aR else .exc "NoSpot":=by
 have c:aH (aW s) pY (zu 12)=aX (aH (aW s) T8) bb:=oq 13;show aH (aW s) pY (zu 12) _=_;rw [c];by_cases h:a<R.length/\b<w
 .rw [if_pos h];exact Oy _ (Ds s) (Lb s) L h.1 h.2
 .rw [if_neg h];exact Ox _ (Ds s) (Lb s) L h
def Dq(x:Nat):aH (aW s) Qi (zu 34) [.str {#[x]}]=.ok (.bl (decide (x∈[35,48,49,50,51,52,53,54,55,56,57]))):=by
 have a:aH (aW s) Qi (zu 34)=aX (aH (aW s) T9) dg:=oq 0
 have b:ql (.str {#[x]}) (.str (zu 20))=.ok (.bl (decide (x∈[35,48,49,50,51,52,53,54,55,56,57]))):=by
  rw [Ef];have:((zu 20:Str)).cps.toList=[35,48,49,50,51,52,53,54,55,56,57]:=↑1
  rw [this]
 have c:({#[x]}:Str).length=1:=rfl;have d:1<=bT:=↑2
 rw [a];simp! only [dg,c,d,b];rfl
def Dr{x:Nat}(a:x∈QA):F1 s (zu 40) [.str {#[x]}]=if x=120 then .exc "NoSign" else .ok .aR:=by
 have b:aH (aW s) pY (zu 40)=aX (aH (aW s) Qi) dh:=oq 11;have h:=Dq s x;show aH (aW s) pY (zu 40) _=_;rw [b];simp! [QA,er,List.not_mem_nil,or_false] at a;by_cases e:x=120
 .subst e;have h:aH (aW s) Qi (zu 34) [.str {#[120]}]=.ok (.bl ig):=h;rw [if_pos rfl];simp! only [dh,h,Bool.not_false,As]
 .have h:aH (aW s) Qi (zu 34) [.str {#[x]}]=.ok (.bl ie):=by rw [h,zzh];simp! [er,List.not_mem_nil,or_false];lia
  rw [if_neg e];simp! only [dh,h,Bool.not_true]
def MD(L:Fl R w){a b:Nat}(x:Nat)(ha:a<R.length)(c:b<w):F1 s (zu 38) [fl R,sp a b,.str {#[x]}]=.ok (fl (yi R a b x)):=by have d:aH (aW s) pY (zu 38)=aX (aH (aW s) YS) di:=oq 6;show aH (aW s) pY (zu 38) _=_;rw [d];exact GH _ L x ha c
abbrev jn(F:aP)(e:Bool)(A B:List Str):Res PV:=if e=ie then F (zu 27) [fl A,fl B] else F (zu 39) [fl A,fl B]
def V7(e:Bool){A B:List Str}{b:Nat}(L:Fl A w)(a:Fl B b):jn (F1 s) e A B=match zt e A B with|some C=>.ok (fl C)|none=>.exc "NoFit":=by
 have c:aH (aW s) pY (zu 27)=aX (aH (aW s) YQ) bQ:=oq 8;have d:aH (aW s) pY (zu 39)=aX (aH (aW s) YR) b9:=oq 7;unfold jn;cases e
 .rw [if_neg zzf];exact(congrFun d _).trans (Ar _ L a)
 .rw [if_pos rfl];exact(congrFun c _).trans (wV _ L a)
end
abbrev fD(D:DD):List (Str×PV):=D.map λq=>(q.1,fl q.2)
def A0(D:DD):(fD D).map (·.1)=cg D:=by unfold fD;rw [List.map_map];rfl
def A1(D:DD):(fD D).map (·.2)=kf D:=by unfold fD;rw [List.map_map];rfl
abbrev g9(z:Str)(R:List Str)(D:DD):DD:=if(gv z D).isSome=ie then D.map (λq=>if q.1=z then(q.1,R) else q) else D++[(z,R)]
def Pa(z:Str)(R:List Str)(D:DD):putD z (fl R) (fD D)=fD (g9 z R D):=by
 unfold putD g9;rw [A0,A1];unfold eM cQ;rw [l5];cases h:(gv z D).isSome
 .rw [if_neg zzf,if_neg zzf,if_neg zzf,List.zip_append (by simp)];unfold fD;rw [List.map_append]
  congr 1
  clear h
  induction D with
  |nil=>rfl|cons q D a=>show(q.1,fl q.2)::(cg D).zip (kf D)=_;rw [a,a8]
 .rw [if_pos rfl,if_pos rfl,if_pos rfl];clear h;unfold fD;rw [List.map_map]
  induction D with
  |nil=>rfl|cons q D a=>
   show(q.1,if q.1=z then fl R else fl q.2)::(cg D).zip (List.zipWith (λb v=>if b=z then fl R else v) (cg D) (kf D))=_;rw [a,a8]
   congr 1
   show(q.1,if q.1=z then fl R else fl q.2)=((if q.1=z then(q.1,R) else q).1,fl (if q.1=z then(q.1,R) else q).2);by_cases e:q.1=z
   .rw [if_pos e,if_pos e]
   .rw [if_neg e,if_neg e]
def HW(z:Str)(D:DD):fj z (fD D)=fD (rest z D):=by
 unfold fj;rw [A0,A1]
 induction D with
 |nil=>unfold bO fO;rfl|cons q D a=>
  show(fO (q.1::cg D) z).zip (bO (q.1::cg D) (fl q.2::kf D) z)=_;have b:bO (q.1::cg D) (fl q.2::kf D) z=if q.1=z then bO (cg D) (kf D) z else fl q.2::bO (cg D) (kf D) z:=by rw [bO]
  rw [b];unfold fO rest at a⊢;rw [g5,g5];by_cases e:q.1=z
  .rw [if_neg (by simp [e]),if_pos e,if_neg (by simp [e])];exact a
  .rw [if_pos (by simp [e]),if_neg e,if_pos (by simp [e]),List.zip_cons_cons,a];rfl
def DT(z y:Str)(R:List Str)(D:DD):gv y (g9 z R D)=if y=z then hI R else gv y D:=by
 unfold g9;cases h:(gv z D).isSome
 .rw [if_neg zzf,sJ];by_cases e:y=z
  .subst e;have d:gv y D=h9:=Option.not_isSome_iff_eq_none.1 (by rw [h];exact zzf);rw [d,if_pos rfl]
  .rw [if_neg e];cases gv y D with
   |some _=>rfl|none=>exact if_neg (Ne.symm e)
 .rw [if_pos rfl]
  induction D with
  |nil=>cases h
  |cons q D c=>
   rw [a8];unfold gv;by_cases e:q.1=z
   .rw [if_pos e];show(if q.1=y then hI R else gv y (D.map _))=_;by_cases k:q.1=y
    .rw [if_pos k,if_pos (k.symm.trans e)]
    .rw [if_neg k,if_neg (λj=>k (e.trans j.symm)),if_neg k];clear c h
     induction D with
     |nil=>rfl|cons p D a=>
      rw [a8];unfold gv;by_cases b:p.1=z
      .rw [if_pos b];show(if p.1=y then hI R else _)=_;rw [if_neg (λj=>k (e.trans (b.symm.trans j))),if_neg (λj=>k (e.trans (b.symm.trans j)))];exact a
      .rw [if_neg b];by_cases k2:p.1=y
       .rw [if_pos k2,if_pos k2]
       .rw [if_neg k2,if_neg k2];exact a
   .rw [if_neg e];have f:(gv z D).isSome=ie:=by
     unfold gv at h;rw [if_neg e] at h;exact h
    by_cases k:q.1=y
    .rw [if_pos k,if_pos k,if_neg (λj=>e (k.trans j))]
    .rw [if_neg k,if_neg k];exact c f
def N6(z:Str)(R:List Str)(D:DD):cg (g9 z R D)=if(gv z D).isSome=ie then cg D else cg D++[z]:=by
 unfold g9;split
 .unfold cg;rw [List.map_map];refine List.map_congr_left λq Z=>?_;show(if q.1=z then(q.1,R) else q).1=q.1;split<;>rfl
 .simp
structure Inv(D:DD):Prop where
 nd:(cg D).Nodup
 nm:∀k∈cg D,k∈lQ
 g:Gd D
theorem ma:∀{l m:List Str},l.Nodup->(∀x∈l,x∈m)->l.length<=m.length
 |[],_,_,_=>Nat.zero_le _|x::l,m,nd,h=>by have a:=List.nodup_cons.1 nd;have b:=h x (.head _);have:=ma (l:=l) (m:=m.erase x) a.2 λy c=>(List.mem_erase_of_ne (λe=>a.1 (by rw [<-e];exact c))).2 (h y (.tail _ c));rw [List.length_erase_of_mem b] at this;have d:0<m.length:=List.length_pos_of_mem b;rw [c4];lia
def Inv.len(I:Inv D):D.length<=5:=by have:=ma I.nd I.nm;rw [zzl] at this;exact this
section
variable{U:gA}{st:S2}{ss:pX}{e1:Sl}{s s1:Sg}{p:PV}{t:Ci.S}{e:Ci.E}{i:Nat}{x y:X2}{a b:pX}
set_option backward.match.sparseCases false
def eh:cO F1 U .nil env s=.ok (.nx env) s:=by rw [cO]
set_option backward.match.sparseCases true
def cT{z:Rs Ci.Fl}(h:eQ F1 U st env s=.ok (.nx e1) s1)(g:cO F1 U ss e1 s1=z):cO F1 U (.cons st ss) env s=z:=by rw [cO,h];exact g
def oB(h:eQ F1 U st env s=.exc c s1):cO F1 U (.cons st ss) env s=.exc c s1:=by rw [cO,h];rfl
def eX(h:eQ F1 U st env s=.ok (.rt p) s1):cO F1 U (.cons st ss) env s=.ok (.rt p) s1:=by rw [cO,h];rfl
def Fb{z:Res Ci.Fl}(h:dq (F1 s) t env=z):eQ F1 U (.p t) env s=Rs.of (z.bind clean) s:=by rw [eQ,h]
def tD(h:dq (F1 s) t env=.ok (.nx e1))(n:e1.any Slot.cb=ig):eQ F1 U (.p t) env s=.ok (.nx e1) s:=by refine(Fb h).trans ?_;show Rs.of (if e1.any Slot.cb then Res.bad else Res.ok (Fl.nx e1)) s=_;rw [n];rfl
def tx(h:az (F1 s) e env=.ok q)(n:env.any Slot.cb=ig):eQ F1 U (.p (.expr e)) env s=.ok (.nx env) s:=tD (by rw [dq,h];rfl) n
def xW(h:az (F1 s) e env=.ok q)(n:(env.set i (.val q)).any Slot.cb=ig):eQ F1 U (.p (.set i e)) env s=.ok (.nx (env.set i (.val q))) s:=tD (by rw [dq,h];rfl) n
theorem vR(h:az (F1 s) e env=.ok q):eQ F1 U (.p (.ret e)) env s=.ok (.rt q) s:=Fb (z:=.ok (.rt q)) (by rw [dq,h];rfl)
theorem Lw(h:az (F1 s) e env=.exc c):eQ F1 U (.p (.expr e)) env s=.exc c s:=Fb (z:=.exc c) (by rw [dq,h];rfl)
theorem Fc(h:az (F1 s) e env=.exc c):eQ F1 U (.p (.set i e)) env s=.exc c s:=Fb (z:=.exc c) (by rw [dq,h];rfl)
theorem zM(h:az (F1 s) e env=.ok (.bl ie)):eQ F1 U (.p (.ite e #v[.raise c m] .nil)) env s=.exc c s:=Fb (z:=.exc c) (by rw [dq,h];show bJ (F1 s) #v[.raise c m] env=_;rw [bJ,dq];rfl)
def ite_ff{F:aP}{a:Ss}(h:az F e env=.ok (.bl ig)):dq F (.ite e a .nil) env=.ok (.nx env):=by rw [dq,h];show bJ F .nil env=_;rw [bJ]
def ko{F:aP}{as:Es}{r:Res PV}(ha:bw F as env=.ok ps)(h:F f ps=r):az F (.call f as) env=r:=by rw [az,ha];exact h
def cX(h:bp F1 U x env s=.ok p s1):eQ F1 U (.set i x) env s=.ok (.nx (env.set i (.val p))) s1:=by rw [eQ,h];rfl
def i5(h:bp F1 U x env s=.exc c s1):eQ F1 U (.set i x) env s=.exc c s1:=by rw [eQ,h];rfl
def d9(h:bp F1 U x env s=.ok p s1):eQ F1 U (.ex x) env s=.ok (.nx env) s1:=by rw [eQ,h];rfl
def j7(h:bp F1 U x env s=.ok p s1):eQ F1 U (.ret x) env s=.ok (.rt p) s1:=by rw [eQ,h];rfl
def K4(h:bp F1 U x env s=.ok p s1)(g:F1 s1 f [p]=.ok q):bp F1 U (.c1 f #v[x]) env s=.ok q s1:=by rw [bp,dJ,h];show(((dJ F1 U .nil env s1).bind λd s=>Rs.ok (p::d) s)).bind (λd s=>Rs.of (F1 s f d) s)=_;rw [dJ];show Rs.of (F1 s1 f [p]) s1=_;rw [g];rfl
def CP(h:bp F1 U x env s=.exc c s1):bp F1 U (.c1 f #v[x]) env s=.exc c s1:=by rw [bp,dJ,h];rfl
def IY{z:Rs Ci.Fl}(h:az (F1 s) e env=.ok (.bl ie))(g:cO F1 U a env s=z):eQ F1 U (.ite (.pu e) a b) env s=z:=by rw [eQ,uA,h];exact g
def ZP{z:Rs Ci.Fl}(h:az (F1 s) e env=.ok (.bl ig))(g:cO F1 U b env s=z):eQ F1 U (.ite (.pu e) a b) env s=z:=by rw [eQ,uA,h];exact g
def xT{z:Rs PV}(h:az (F1 s) e env=.ok (.bl ie))(g:bp F1 U x env s=z):bp F1 U (.ite e x y) env s=z:=by rw [bp,h];exact g
def xF{z:Rs PV}(h:az (F1 s) e env=.ok (.bl ig))(g:bp F1 U y env s=z):bp F1 U (.ite e x y) env s=z:=by rw [bp,h];exact g
def sk{z:Rs Ci.Fl}(h:az (F1 s) e env=.ok (.bl ig))(g:cO F1 U ss env s=z):cO F1 U (.cons (.ite (.pu e) a .nil) ss) env s=z:=cT (ZP h eh) g
def P7{z:Rs PV}(h:bp F1 U x env s=z):bp F1 U (.tup #v[x]) env s=z.bind λq s=>.ok (.tup [q]) s:=by
 rw [bp,dJ,h];cases z with
 |ok q s1=>show(((dJ F1 U .nil env s1).bind λd s=>Rs.ok (q::d) s)).bind (λd s=>Rs.ok (PV.tup d) s)=_;rw [dJ];rfl|exc c s1=>rfl|bad=>rfl
abbrev told(r:Rs PV):Rs PV:=match r with
 |.exc d s=>Rs.of (F1 s (zu 5) [.exc d]).well s|r=>r
def kc{d:List Nat}{z w:Rs PV}(j:r9 d env=.ok e1)(g:told z=w)(h:bp F1 U x e1 s=z):bp F1 U (.Hl f d x) env s=w:=by rw [bp,j,<-g,<-h];simp! [Rs.of,Rs.bind];cases bp F1 U x e1 s<;>rfl
def Ui{r:Rs PV}(h:r=.ok p s):told r=.ok p s:=by rw [h];rfl
def jl{r:Rs PV}{w:Str}(h:r=.exc c s)(k:aX (aH (aW s) T0) du [.exc c]=.ok (.str w)):told r=.ok (.str w) s:=by rw [h];show Rs.of (F1 s (zu 5) [.exc c]).well s=_;rw [show F1 s (zu 5)=aX (aH (aW s) T0) du from oq 21,k];rfl
theorem nk:∀(n:Nat) {T:List (Str×D2)},((T.take n).all λx=>!(f==x.1))=ie->bU F1 T f=bU F1 (T.drop n) f
 |0,_,_=>rfl|n+1,[],_=>rfl|n+1,(m,d)::r,h=>by rw [List.take_succ_cons,List.all_cons,zza,Bool.not_eq_true'] at h;exact(show bU F1 ((m,d)::r) f=bU F1 r f by funext as s;simp [bU,h.1]).trans (nk n h.2)
variable{d:D2}{T:List (Str×D2)}{as:List PV}
theorem run_eq(k:Nat)(e:pZ.drop k=(f,d)::T)(hk:(((pZ.take k).all λx=>!(f==x.1)),as.length==d.np)=(ie,ie))(s:Sg):F2 f as s=(cO F1 (bU F1 T) d.body (fV d as) s).bind λf s=>(match f with
 |.nx _=>.ok .aR s|.rt p=>.ok p s|_=>.bad):=by
 have h:F2 f as s=mr F1 (bU F1 T) d as s:=by rw [show F2 f=bU F1 (pZ.drop k) f from nk k (congrArg Prod.fst hk),e];simp [bU]
 exact h.trans (if_pos (congrArg Prod.snd hk))
abbrev flR:Rs PV->Rs Ci.Fl
 |.ok p s=>.ok (.rt p) s|.exc c s=>.exc c s|.bad=>.bad
def ba{z:Rs PV}(k:Nat)(e:pZ.drop k=(f,d)::T)(h:cO F1 (bU F1 T) d.body (fV d as) s=flR z)(hk:(((pZ.take k).all λx=>!(f==x.1)),as.length==d.np)=(ie,ie)):F2 f as s=z:=by rw [run_eq k e hk,h];cases z<;>rfl
def tW(k:Nat)(e:pZ.drop k=(f,d)::T)(h:cO F1 (bU F1 T) d.body (fV d as) s=.ok (.nx e1) s1)(hk:(((pZ.take k).all λx=>!(f==x.1)),as.length==d.np)=(ie,ie)):F2 f as s=.ok .aR s1:=by rw [run_eq k e hk,h];rfl
def cm{a:Nat}{as:Es}{z:Rs PV}(h:F2 (kS "Atlas" m) (.obj a::ps) s=z)(j:gE s a "Atlas"=ie)(g:(env[i]?,bw (F1 s) as env)=(hI (.val (.obj a)),.ok ps))(hu:(pZ.drop (18-T.length),(pZ.take (18-T.length)).all λx=>!(kS "Atlas" m==x.1))=(T,ie)):bp F1 (bU F1 T) (.met (.var i) "Atlas" m as) env s=z:=by
 let(hu,k):=Prod.mk.inj hu;let(g,ha):=Prod.mk.inj g;have e:az (F1 s) (.var i) env=.ok (.obj a):=by rw [az,g];rfl
 rw [bp,e];show(if gE s a "Atlas"=ie then(Rs.of (bw (F1 s) as env) s).bind λps s=>bU F1 T (kS "Atlas" m) (.obj a::ps) s else .bad)=_;rw [if_pos j,ha,<-hu];exact(congrFun (congrFun (nk _ k) _) _).symm.trans h
def NW:Ck "#l"=ie:=↑1
def zS{n:Nat}{fs:List (Str×PV)}{x:Str×PV}(ha:az (F1 s) e env=.ok (.obj n))(hs:s[n]?=hI {"#l",fs++[x]}):bp F1 U (.x6 e) env s=.ok x.2 (s.set n {"#l",fs}):=by
 have e:(fs++[x])[(fs++[x]).length-1]?=hI x:=by simp
 rw [bp,ha];simp! [Rs.of,Rs.bind,ff,hs,e,List.dropLast_concat,if_pos NW]
def rE(h:az (F1 s) e env=.ok p):bp F1 U (.pu e) env s=.ok p s:=by rw [bp,h];rfl
def rS{a:Ci.E}{n:Nat}{fs:List (Str×PV)}(ha:az (F1 s) a env=.ok (.obj n))(hs:s[n]?=hI {"#l",fs})(g:az (F1 s) e env=.ok p)(hl:fs.length<bT):bp F1 U (.uM a (.pu e)) env s=.ok .aR (s.set n {"#l",fs++[(("":Str),p)]}):=by rw [bp,ha];simp! [Rs.of,Rs.bind,ff,hs,rE g,if_pos NW,if_pos hl]
def Ei:Bh "#d"=ie:=↑1
def Df{k:Ci.E}{n:Nat}{fs:List (Str×PV)}(ha:az (F1 s) e env=.ok (.obj n))(hs:s[n]?=hI {"#d",fs})(hk:az (F1 s) k env=.ok (.str z))(g:bW (fs.map (·.1)) (fs.map (·.2)) z=hI p):bp F1 U (.qV e k) env s=.ok p (s.set n {"#d",fj z fs}):=by rw [bp,ha];simp! [Rs.of,Rs.bind,ff,hs,if_pos Ei,hk,show eG (.str z)=hI z from rfl,g]
def JW{a k:Ci.E}{n:Nat}{fs:List (Str×PV)}(ha:az (F1 s) a env=.ok (.obj n))(hs:s[n]?=hI {"#d",fs})(hk:az (F1 s) k env=.ok (.str z))(he:az (F1 s) e env=.ok p)(hl:fs.length<bT):eQ F1 U (.BM a k e) env s=.ok (.nx env) (s.set n {"#d",putD z p fs}):=by rw [eQ,he];simp! [Rs.of,Rs.bind,ha,ff,hs,if_pos Ei,hk,show eG (.str z)=hI z from rfl,if_pos hl]
def z8{n:Nat}{fs gs:List (Str×PV)}(h:bp F1 U x env s=.ok p s1)(g:env[i]?=hI (.val (.obj n)))(hs:s1[n]?=hI {"Atlas",fs})(j:mj f p fs=gs)(hl:decide (fs.length<1000)=ie):eQ F1 U (.mw "Atlas" i f x) env s=.ok (.nx env) (s1.set n {"Atlas",gs}):=by
 have c:gE s1 n "Atlas"=ie:=by unfold gE;rw [hs];kernel_rfl
 rw [eQ,h];simp! [Rs.bind,g,if_pos c,BS,hs,if_pos (zzY hl),j]
def zx{n:Nat}{fs:List (Str×PV)}(ha:az (F1 s) e env=.ok (.obj n))(hs:s[n]?=hI {"#l",fs}):bp F1 U (.xC e) env s=.ok (.obj s.length) (s++[{"#l",fs}]):=by rw [bp,ha];simp! [Rs.of,Rs.bind,ff,hs,if_pos NW,xN]
def HR{n:Nat}{fs:List (Str×PV)}(ha:az (F1 s) e env=.ok (.obj n))(hs:s[n]?=hI {"#d",fs}):bp F1 U (.AN e) env s=.ok (.obj s.length) (s++[{"#d",fs}]):=by rw [bp,ha];simp! [Rs.of,Rs.bind,ff,hs,if_pos Ei,xN]
def Oa:bp F1 U (.vC .nil) env s=.ok (.obj s.length) (s++[{"#l",[]}]):=by rw [bp,dJ];rfl
def RD:bp F1 U .AS env s=.ok (.obj s.length) (s++[{"#d",[]}]):=by rw [bp];rfl
end
abbrev KD(z:Str)(D:DD):Option (Option (List Str))->DD
 |none=>D|some h9=>rest z D|some (hI R)=>g9 z R D
abbrev oF:Option (List Str)->PV
 |none=>.aR|some R=>fl R
noncomputable abbrev ym(w z:Str)(h c:Option (List Str)):Str×PV:=("",.tup [.str w,.str z,oF h,oF c])
noncomputable abbrev GZ(f d u:Nat):List (Str×PV):=[(zu 22,.obj f),("done",.obj d),("undone",.obj u)]
structure At(s:Sg)(fr:List (Nat×OS))(a f d u:Nat)(D:DD)(dn un:List (Str×PV)):Prop where
 ha:s[a]?=hI {"Atlas",GZ f d u}
 hf:s[f]?=hI {"#d",fD D}
 hd:s[d]?=hI {"#l",dn}
 hu:s[u]?=hI {"#l",un}
 ne:d≠u
 hr:∀q∈fr,s[q.1]?=hI q.2/\q.1∉[a,f,d,u]
noncomputable abbrev Ux(s:Sg)(fr:List (Nat×OS))(a:Nat)(D:DD)(b un:List (Str×PV)):Prop:=∃f d u,At s fr a f d u D b un
noncomputable abbrev gV(z:Str)(fs:List (Str×PV)):Option PV:=bW (fs.map (·.1)) (fs.map (·.2)) z
def MU:gV z (fD D)=(gv z D).map fl:=by rw [gV,A0,A1,oH]
def Wk:(gV z (fD D)).getD .aR=oF (gv z D):=by rw [MU];cases gv z D<;>rfl
def df{s:Sg}{n m:Nat}{o a:OS}(h:s[n]?=hI o)(h':s[m]?=hI a)(k:(o.c==a.c)=ig):n≠m:=λe=>by rw [e,h'] at h;cases h;rw [beq_self_eq_true] at k;cases k
def tX{s:Sg}{n:Nat}{o x:OS}(h:s[n]?=hI o):(s.set n x)[n]?=hI x:=by rw [List.getElem?_set_self',h];rfl
def Mg:(("Atlas":Str)=="#d")=ig/\(("Atlas":Str)=="#l")=ig/\(("#d":Str)=="#l")=ig:={by kernel_rfl,by kernel_rfl,by kernel_rfl}
def nU{s:Sg}{n:Nat}{o x:OS}(h:s[n]?=hI o):(s++[x])[n]?=hI o:=by rw [ey (b4.1 h).1,h]
def lZ{s:Sg}{n:Nat}{o:OS}(h:s[n]?=hI o)(a:((pY.take 22).all λx=>!(g==x.1))=ie):F1 s g [.obj n]=(if bC o.c then(if g==d5 then .ok (Mn o) else .bad) else if g==d5 then .bad else A3 o g):=by have e:aH (aW s) pY g=aH (aW s) (pY.drop 22) g:=om 22 a;refine(congrFun e _).trans ?_;show aW s g [.obj n]=_;unfold aW;dsimp only;rw [h]
section
variable{s:Sg}{fr:List (Nat×OS)}{a f d u:Nat}{dn un:List (Str×PV)}(hT:At s fr a f d u D dn un)
include hT
def At.cl:gE s a "Atlas"=ie:=by unfold gE;rw [hT.ha];kernel_rfl
def At.af:a≠f:=df hT.ha hT.hf Mg.1
def At.ad:a≠d:=df hT.ha hT.hd Mg.2.1
def At.au:a≠u:=df hT.ha hT.hu Mg.2.1
def At.fd:f≠d:=df hT.hf hT.hd Mg.2.2
def At.fu:f≠u:=df hT.hf hT.hu Mg.2.2
theorem At.Wh{n:Nat}{x:OS}(h:n∈[a,f,d,u]):∀q∈fr,(s.set n x)[q.1]?=hI q.2/\q.1∉[a,f,d,u]:=λq b=>by have:=hT.hr q b;refine{?_,this.2};rw [dX (λe:n=q.1=>this.2 (e▸h))];exact this.1
def At.BS(b:DD):At (s.set f {"#d",fD b}) fr a f d u b dn un:=
 {(dX hT.af.symm).trans hT.ha,tX hT.hf,(dX hT.fd).trans hT.hd,(dX hT.fu).trans hT.hu,hT.ne,hT.Wh (by simp)}
def At.Pw(x:List (Str×PV)):At (s.set d {"#l",x}) fr a f d u D x un:=
 {(dX hT.ad.symm).trans hT.ha,(dX hT.fd.symm).trans hT.hf,tX hT.hd,(dX hT.ne).trans hT.hu,hT.ne,hT.Wh (by simp)}
def At.TL(x:List (Str×PV)):At (s.set u {"#l",x}) fr a f d u D dn x:=
 {(dX hT.au.symm).trans hT.ha,(dX hT.fu.symm).trans hT.hf,(dX hT.ne.symm).trans hT.hd,tX hT.hu,hT.ne,hT.Wh (by simp)}
def At.Xq:At ((s++[({"#l",[]}:OS)]).set a {"Atlas",GZ f d s.length}) fr a f d s.length D dn []:=by have lt:∀{n:Nat} {o:OS},s[n]?=hI o->n≠s.length:=λh=>d8 (b4.1 h).1;refine{tX (nU hT.ha),(dX hT.af).trans (nU hT.hf),(dX hT.ad).trans (nU hT.hd),(dX (lt hT.ha)).trans List.getElem?_concat_length,lt hT.hd,λq e=>?_};let(c,b):=hT.hr q e;simp! [er,List.not_mem_nil,or_false,not_or] at b⊢;exact{(dX (Ne.symm b.1)).trans (nU c),b.1,b.2.1,b.2.2.1,lt c}
def eF:az (F1 s) (.fld 0 (zu 22)) (.val (.obj a)::env)=.ok (.obj f):=by rw [az];exact(lZ hT.ha ↑1).trans ∅
def eD:az (F1 s) (.fld 0 "done") (.val (.obj a)::env)=.ok (.obj d):=by rw [az];exact(lZ hT.ha ↑1).trans ∅
def eU:az (F1 s) (.fld 0 "undone") (.val (.obj a)::env)=.ok (.obj u):=by rw [az];exact(lZ hT.ha ↑1).trans ∅
def cF:az (F1 s) (.con (.fld 0 (zu 22))) (.val (.obj a)::env)=.ok (.cq (cg D) (kf D)):=by rw [az,eF hT,<-A0,<-A1];exact(lZ hT.hf ↑1).trans ∅
def xD:az (F1 s) (.blt .len #v[.con (.fld 0 "done")]) (.val (.obj a)::env)=.ok (.int dn.length):=by rw [az,bw,az,eD hT];show(((F1 s d5 [.obj d]).bind _).bind _)=_;rw [lZ hT.hd ↑1,bw,<-zzl (·.2)];kernel_rfl
def EB:az (F1 s) (.blt .len #v[.con (.fld 0 "undone")]) (.val (.obj a)::env)=.ok (.int un.length):=by rw [az,bw,az,eU hT];show(((F1 s d5 [.obj u]).bind _).bind _)=_;rw [lZ hT.hu ↑1,bw,<-zzl (·.2)];kernel_rfl
variable{w:Str}{c:Option (List Str)}{U:gA}
def sI(hT:At s fr a f d u D dn un)(I:Inv D)(hn:c=h9->(gv z D).isSome=ie):∃s',F2 "Atlas.give" [.obj a,.str z,oF c] s=.ok .aR s'/\At s' fr a f d u (KD z D (hI c)) dn un:=by
 refine{_,?_,hT.BS _};cases c with
 |none=>let(R,h):=ew.1 (hn rfl);have e:=Df (U:=bU F1 U0) (e:=.fld 0 (zu 22)) (k:=.var 1) (env:=[.val (.obj a),.val (.str z),.val .aR]) (z:=z) (p:=fl R) (eF hT) hT.hf rfl (MU.trans (by rw [h];rfl));rw [HW] at e;exact tW 17 rfl (cT (IY ∅ (cT (d9 e) eh)) eh) ∅|some R=>have e:=JW (U:=bU F1 U0) (a:=.fld 0 (zu 22)) (k:=.var 1) (e:=.var 2) (env:=[.val (.obj a),.val (.str z),.val (fl R)]) (z:=z) (p:=fl R) (eF hT) hT.hf rfl rfl (d2 (m:=5) (by unfold fD;rw [zzl];exact I.len) ↑2);rw [Pa] at e;exact tW 17 rfl (cT (ZP ∅ (cT e eh)) eh) ∅
def i7(hT:At s fr a f d u D dn un)(I:Inv D)(w z:Str)(c:Option (List Str))(hd:dn.length<bT)(hn:c=h9->(gv z D).isSome=ie):∃s',F2 "Atlas.step" [.obj a,.str w,.str z,oF c] s=.ok .aR s'/\Ux s' fr a (KD z D (hI c)) (dn++[ym w z (gv z D) c]) []:=by
 have b:=hT.Pw (dn++[ym w z (gv z D) c]);have h:=b.Xq;let(s',e,i):=sI h I hn
 have g:az (F1 s) (.tup #v[!1,!2,.get (.con (.fld 0 (zu 22))) (!2),!3]) [.val (.obj a),.val (.str w),.val (.str z),.val (oF c)]=.ok (ym w z (gv z D) c).2:=by
  have k:az (F1 s) (.get (.con (.fld 0 (zu 22))) (!2)) [.val (.obj a),.val (.str w),.val (.str z),.val (oF c)]=.ok (oF (gv z D)):=by rw [az,cF hT,<-Wk,gV,A0,A1];rfl
  rw [az,bw,bw,bw,k];rfl
 exact{s',tW 16 rfl (cT (d9 (rS (eD hT) hT.hd g hd)) (cT (z8 Oa rfl (nU b.ha) ∅ ∅) (cT (d9 (cm e h.cl rfl ∅)) eh))) ∅,f,d,_,i}
def need(hz:z∈lQ)(h:env[1]?=hI (.val (.str z)))(n:env.any Slot.cb=ig):eQ F1 U (.p (.expr (.call (zu 29) #v[!1]))) env s=.ok (.nx env) s:=by
 have k:F1 s (zu 29) [.str z]=.ok .aR:=by simp! [lQ,er,List.not_mem_nil,or_false] at hz;rcases hz with rfl|rfl|rfl|rfl|rfl<;>kernel_rfl
 exact tx (ko (ps:=[.str z]) (by rw [bw,az,h,bw];rfl) k) n
def SV(hT:At s fr a f d u D dn un):az (F1 s) (.cmp .Hi (!1) (.con (.fld 0 (zu 22)))) [.val (.obj a),.val (.str z)]=.ok (.bl !((gv z D).isSome)):=by rw [az,cF hT,<-l5];rfl
def bz(hT:At s fr a f d u D dn un)(hz:z∈lQ)(h:gv z D=hI R):F2 (zu 23) [.obj a,.str z] s=.ok (fl R) s:=by
 have c:=SV hT (z:=z);rw [h] at c;have k:az (F1 s) (.sub (.con (.fld 0 (zu 22))) (!1)) [.val (.obj a),.val (.str z)]=Res.of (gV z (fD D)):=by rw [az,cF hT,gV,A0,A1];rfl
 rw [MU,h] at k;exact ba 11 rfl (cT (need hz rfl rfl) (cT (tD (ite_ff c) rfl) (eX (vR k)))) ∅
def dN(hT:At s fr a f d u D dn un)(hz:z∈lQ)(h:gv z D=h9):F2 (zu 23) [.obj a,.str z] s=.exc "NoName" s:=by have c:=SV hT (z:=z);rw [h] at c;exact ba 11 rfl (cT (need hz rfl rfl) (oB (zM c))) ∅
end
def PH(L:Fl R w)(i j:Nat){x:Nat}(a:x∈QA)(h:x≠120):Fl (yi R i j x) w:=TU L i j (by simp! [QA,er,List.not_mem_nil,or_false] at a;unfold YN;lia)
def SD{A B C:List Str}{c:Nat}(L:Fl A w)(b:Fl B c){e:Bool}(h:zt e A B=hI C):∃v,Fl C v:=by
 have o:=L.ne;have p:=b.ne;have w1:=L.w1;unfold zt at h;rw [fv L,fv b] at h;cases e
 .rw [if_neg zzf] at h;by_cases q:w=c/\A.length+B.length<=12
  .rw [if_pos q] at h;cases h;let(rfl,j):=q
   have hr:∀z∈A++B,z.length=w:=λz a=>by
    rcases List.mem_append.1 a with k|k
    .exact L.dR z k
    .exact b.dR z k
   refine{w,{by rw [c5];exact j,λz a=>by rw [hr z a];exact qc L},by rw [c5];lia,w1,hr,λz a=>?_}
   rcases List.mem_append.1 a with k|k
   .exact L.dig z k
   .exact b.dig z k
  .rw [if_neg q] at h;cases h
 .rw [if_pos rfl] at h;by_cases q:A.length=B.length/\w+c<=12
  .rw [if_pos q] at h;cases h;have hm:∀z∈List.zipWith (·++·) A B,∃x∈A,∃y∈B,z=x++y:=λz a=>by
    let(i,m,e):=List.getElem_of_mem a;rw [List.length_zipWith] at m;rw [List.getElem_zipWith] at e;exact{_,List.getElem_mem (by lia),_,List.getElem_mem (by lia),e.symm}
   have hr:∀z∈List.zipWith (·++·) A B,z.length=w+c:=λz a=>by let(x,f,y,g,rfl):=hm z a;rw [Str.length_append,L.dR x f,b.dR y g]
   refine{w+c,{by rw [List.length_zipWith];have:=L.jj.1;lia,λz a=>by rw [hr z a];exact q.2},by rw [List.length_zipWith];lia,by lia,hr,λz a v d=>?_};let(x,f,y,g,rfl):=hm z a;have d:v∈(x.cps++y.cps).toList:=d
   rw [Array.toList_append] at d;rcases List.mem_append.1 d with k|k
   .exact L.dig x f v k
   .exact b.dig y g v k
  .rw [if_neg q] at h;cases h
def L1(g:Gd D)(d:Dd)(hd:d.Ok)(h:(act (Lk D) d).2=hI (hI R)):∃w,Fl R w:=by
 cases d with
 |lay z Q=>cases h;exact hd.2
 |take z=>
  simp! [act] at h;cases e:Lk D z with
  |none=>rw [e] at h;cases h
  |some Q=>rw [e] at h;cases h
 |turn z=>
  simp! [act] at h;cases e:Lk D z with
  |none=>rw [e] at h;cases h
  |some Q=>rw [e] at h;let(w,L):=g.at e;cases h;rw [fv L];exact{_,MI L}
 |lP z=>
  simp! [act] at h;cases e:Lk D z with
  |none=>rw [e] at h;cases h
  |some Q=>rw [e] at h;let(w,L):=g.at e;cases h;exact{_,MH L}
 |sign z a b x=>
  simp! [act] at h;cases e:Lk D z with
  |none=>rw [e] at h;cases h
  |some Q=>
   rw [e] at h;let(w,L):=g.at e;dsimp only at h;by_cases q:a<Q.length/\b<wd Q
   .rw [if_pos q] at h;by_cases k:x=120
    .rw [if_pos k] at h;cases h
    .rw [if_neg k] at h;cases h;exact{_,PH L a b hd.2 k}
   .rw [if_neg q] at h;cases h
 |join z f i j=>
  simp! [act] at h;cases eA:Lk D i with
  |none=>rw [eA] at h;cases h
  |some A=>
   rw [eA] at h;cases eB:Lk D j with
   |none=>rw [eB] at h;cases h
   |some B=>
    rw [eB] at h;let(w,L):=g.at eA;let(o,m):=g.at eB
    dsimp only at h;cases c:zt f A B with
    |none=>rw [c] at h;cases h
    |some C=>rw [c] at h;cases h;exact SD L m c
abbrev Dd.wd:Dd->Str
 |.lay _ _=>"lay"|.take _=>"take"|.turn _=>"turn"|.lP _=>(zu 17)|.sign _ _ _ _=>"sign"|.join _ _ _ _=>"join"
section
variable{d:Dd}{s s1:Sg}{p:PV}{F:aP}
variable{a:Nat}
abbrev dM(s:Sg)(a:Nat):Dd->Rs PV
 |.lay z R=>F2 "Atlas.lay" [.obj a,.str z,fl R] s|.take z=>F2 "Atlas.take" [.obj a,.str z] s|.turn z=>F2 "Atlas.turn" [.obj a,.str z] s|.lP z=>F2 (zu 47) [.obj a,.str z] s|.sign z b c x=>(F2 "Atlas.sign" [.obj a,.str z,sp b c,.str {#[x]}] s).bind λq s=>.ok (.tup [q]) s|.join z e f g=>F2 "Atlas.join" [.obj a,.str z,.bl e,.str f,.str g] s
def Ze(hs:gE s a "Atlas"=ie)(h:told (dM s a d)=.ok p s1):F2 (zu 16) [.obj a,d.P] s=.ok p s1:=by
 cases d with
 |lay z R=>exact ba 1 rfl (eX (IY ∅ (eX (j7 (kc rfl h (xT ∅ (cm (ps:=[.str z,fl R]) rfl hs ∅ ∅))))))) ∅|take z=>exact ba 1 rfl (eX (IY ∅ (eX (j7 (kc rfl h (xF ∅ (cm (ps:=[.str z]) rfl hs ∅ ∅))))))) ∅|turn z=>exact ba 1 rfl (sk ∅ (sk ∅ (sk ∅ (eX (j7 (kc rfl h (xT ∅ (cm (ps:=[.str z]) rfl hs ∅ ∅)))))))) ∅|lP z=>exact ba 1 rfl (sk ∅ (sk ∅ (sk ∅ (eX (j7 (kc rfl h (xF ∅ (cm (ps:=[.str z]) rfl hs ∅ ∅)))))))) ∅|sign z b c x=>exact ba 1 rfl (sk ∅ (eX (IY ∅ (eX (j7 (kc rfl h (P7 (cm (ps:=[.str z,sp b c,.str {#[x]}]) rfl hs ∅ ∅)))))))) ∅|join z e f g=>exact ba 1 rfl (sk ∅ (sk ∅ (eX (IY ∅ (eX (j7 (kc rfl h (cm (ps:=[.str z,.bl e,.str f,.str g]) rfl hs ∅ ∅)))))))) ∅
def Mc{r:Rs PV}(h:r=.exc c s):(r.bind λq s=>Rs.ok (PV.tup [q]) s)=.exc c s:=by rw [h];rfl
def gc{e:Ci.E}{b:Es}(h:az F e env=.ok p)(g:bw F b env=.ok ps):bw F (.cons e b) env=.ok (p::ps):=by rw [bw,h,g];rfl
def qi:bw F .nil env=.ok []:=by rw [bw]
def yn{a b:Ci.E}{r:PV}(h:aB p q=.ok r)(c:az F a env=.ok p)(e:az F b env=.ok q):az F (.sub a b) env=.ok r:=by rw [az,c,e];exact h
def SY{e:Ci.E}(h:az F e env=.ok (.bl ie)):az F (.not e) env=.ok (.bl ig):=by rw [az,h];rfl
def XA{e:Ci.E}(h:az F e env=.ok (.bl ig)):az F (.not e) env=.ok (.bl ie):=by rw [az,h];rfl
def ZQ{e:Bool}{A B:List Str}{a b c d g:Slot}:az F (.ite (!2) (.call (zu 27) #v[!5,!6]) (.call (zu 39) #v[!5,!6])) [a,b,.val (.bl e),c,d,.val (fl A),.val (fl B),g]=jn F e A B:=by cases e<;>simp! [jn,az,bw,List.getElem?_cons_zero,List.getElem?_cons_succ,mS,Res.bind,yF,if_true,if_neg zzf]
variable{dn un:List (Str×PV)}{fr:List (Nat×OS)}{f g u:Nat}
noncomputable abbrev Yq(fr:List (Nat×OS))(a:Nat)(D:DD)(dn:List (Str×PV))(s:Sg)(d:Dd)(c:Option (Option (List Str)))(s':Sg):Prop:=match c with
 |none=>s'=s|some c=>Ux s' fr a (KD d.nm D (hI c)) (dn++[ym d.wd d.nm (gv d.nm D) c]) []
noncomputable abbrev Vr(fr:List (Nat×OS))(a:Nat)(D:DD)(d:Dd)(dn:List (Str×PV))(s:Sg)(x:PV×Option (Option (List Str))):Prop:=∃b,F2 (zu 16) [.obj a,d.P] s=.ok x.1 b/\Yq fr a D dn s d x.2 b
def kI(b:gE s a "Atlas"=ie)(e:act (Lk D) d=(p,h9))(h:told (dM s a d)=.ok p s):Vr fr a D d dn s (act (Lk D) d):=by rw [e];exact{s,Ze b h,rfl}
def qU{c:Option (List Str)}(b:gE s a "Atlas"=ie)(e:act (Lk D) d=(p,hI c))(k:Ux s1 fr a (KD d.nm D (hI c)) (dn++[ym d.wd d.nm (gv d.nm D) c]) [])(h:dM s a d=.ok p s1):Vr fr a D d dn s (act (Lk D) d):=by rw [e];exact{s1,Ze b (Ui h),k}
def EA(b:At s fr a f g u D dn un)(I:Inv D)(hz:z∈lQ)(L:Fl R w)(hn:dn.length<bT):∃s',Ux s' fr a (KD z D (hI (hI R))) (dn++[ym "lay" z (gv z D) (hI R)]) []/\F2 "Atlas.lay" [.obj a,.str z,fl R] s=.ok (.bl (gv z D).isSome) s':=by
 let(s',e,k):=i7 b I "lay" z (hI R) hn nofun;have c:az (F1 s) (.cmp .Ed (!1) (.con (.fld 0 (zu 22)))) [.val (.obj a),.val (.str z),.val (fl R),.no]=.ok (.bl (gv z D).isSome):=by rw [az,cF b,<-l5];rfl
 exact{s',k,ba 15 rfl (cT (tD (ite_ff (SY (ko (ps:=[fl R]) ∅ (A2 _ L)))) rfl) (cT (need hz rfl rfl) (cT (xW c rfl) (cT (d9 (cm e b.cl rfl ∅)) (eX ∅))))) ∅}
def My(i:At s fr a f g u D dn un)(I:Inv D)(hd:d.Ok)(hn:dn.length<bT):Vr fr a D d dn s (act (Lk D) d):=by
 cases d with
 |lay z R=>let(m,w,L):=hd;let(X,k,e):=EA i I m L hn;exact qU i.cl rfl k e|take z=>
  cases h:gv z D with
  |none=>exact kI i.cl (p:=.str (zu 48)) (by simp! [act,Lk,h]) (jl (ba 7 rfl (oB (i5 (cm (dN i hd h) i.cl rfl ∅))) ∅) ∅)|some R=>let(E,t,k2):=i7 i I "take" z h9 hn (λ_=>by rw [h];rfl);exact qU i.cl (p:=fl R) (c:=h9) (by simp! [act,Lk,h]) k2 (ba 7 rfl (cT (cX (cm (bz i hd h) i.cl rfl ∅)) (cT (d9 (cm t i.cl rfl ∅)) (eX ∅))) ∅)
 |turn z=>
  cases h:gv z D with
  |none=>exact kI i.cl (p:=.str (zu 48)) (by simp! [act,Lk,h]) (jl (ba 9 rfl (oB (i5 (CP (cm (dN i hd h) i.cl rfl ∅)))) ∅) ∅)|some R=>let(w,L):=I.g.at h;let(E,t,k2):=i7 i I "turn" z (hI (pW R w)) hn nofun;exact qU i.cl (p:=fl (pW R w)) (c:=hI (pW R w)) (by simp! [act,Lk,h,fv L]) k2 (ba 9 rfl (cT (cX (K4 (cm (bz i hd h) i.cl rfl ∅) (Dt _ L))) (cT (d9 (cm t i.cl rfl ∅)) (eX ∅))) ∅)
 |lP z=>
  cases h:gv z D with
  |none=>exact kI i.cl (p:=.str (zu 48)) (by simp! [act,Lk,h]) (jl (ba 8 rfl (oB (i5 (CP (cm (dN i hd h) i.cl rfl ∅)))) ∅) ∅)|some R=>let(w,L):=I.g.at h;let(E,t,k2):=i7 i I (zu 17) z (hI (lP R)) hn nofun;exact qU i.cl (p:=fl (lP R)) (c:=hI (lP R)) (by simp! [act,Lk,h]) k2 (ba 8 rfl (cT (cX (K4 (cm (bz i hd h) i.cl rfl ∅) (xi _ L))) (cT (d9 (cm t i.cl rfl ∅)) (eX ∅))) ∅)
 |sign z a b x=>
  let(m,O):=hd
  cases h:gv z D with
  |none=>exact kI i.cl (p:=.str (zu 48)) (by simp! [act,Lk,h]) (jl (Mc (ba 6 rfl (oB (i5 (cm (dN i m h) i.cl rfl ∅))) ∅)) ∅)|some R=>
   let(w,L):=I.g.at h;by_cases j:a<R.length/\b<w
   .by_cases k:x=120
    .exact kI i.cl (p:=.str "no sign") (by simp! [act,Lk,h,fv L,if_pos j,if_pos k]) (jl (Mc (ba 6 rfl (cT (cX (cm (bz i m h) i.cl rfl ∅)) (cT (tx (ko (ps:=[fl R,sp a b]) ∅ ((MC _ L a b).trans (if_pos j))) rfl) (oB (Lw (ko (ps:=[.str {#[x]}]) ∅ ((Dr _ O).trans (if_pos k))))))) ∅)) ∅)
    .have P:R[a]?=hI R[a]:=zzg j.1;let(v,G):=Ee L j.1 j.2;have Q:(R[a]).cps.toList[b]?=hI v:=by unfold cd at G;rw [P] at G;exact G
     have s1:aB (fl R) (.int (a:Int))=.ok (.str R[a]):=j8 P;have E:=tZ (d1 (L.jj.2 _ (List.getElem_mem j.1)) ↑2) Q;let(Y,S,T):=i7 i I "sign" z (hI (yi R a b x)) hn nofun;refine qU i.cl (p:=.tup [.str {#[v]}]) (c:=hI (yi R a b x)) (by simp! [act,Lk,h,fv L,if_pos j,if_neg k,G,Option.getD_some]) T (congrArg (λr:Rs PV=>r.bind λq s=>Rs.ok (PV.tup [q]) s) (ba (z:=.ok (.str {#[v]}) _) 6 rfl (cT (cX (cm (bz i m h) i.cl rfl ∅)) (cT (tx (ko (ps:=[fl R,sp a b]) ∅ ((MC _ L a b).trans (if_pos j))) rfl) (cT (tx (ko (ps:=[.str {#[x]}]) ∅ ((Dr _ O).trans (if_neg k))) rfl) (cT (d9 (cm S i.cl (congrArg (Prod.mk _) (gc ∅ (gc ∅ (gc (ko (ps:=[fl R,sp a b,.str {#[x]}]) ∅ (MD _ L x j.1 j.2)) ∅)))) ∅)) (eX (vR (yn E (yn s1 ∅ ∅) ∅))))))) ∅))
   .exact kI i.cl (p:=.str "no spot") (by simp! [act,Lk,h,fv L,if_neg j]) (jl (Mc (ba 6 rfl (cT (cX (cm (bz i m h) i.cl rfl ∅)) (oB (Lw (ko (ps:=[fl R,sp a b]) ∅ ((MC _ L a b).trans (if_neg j)))))) ∅)) ∅)
 |join z f U V=>
  let(m,H,N):=hd
  cases o:gv U D with
  |none=>exact kI i.cl (p:=.str (zu 48)) (by simp! [act,Lk,o]) (jl (ba 10 rfl (cT (need m rfl rfl) (oB (i5 (cm (dN i H o) i.cl rfl ∅)))) ∅) ∅)|some A=>
   cases y:gv V D with
   |none=>exact kI i.cl (p:=.str (zu 48)) (by simp! [act,Lk,o,y]) (jl (ba 10 rfl (cT (need m rfl rfl) (cT (cX (cm (bz i H o) i.cl rfl ∅)) (oB (i5 (cm (dN i N y) i.cl rfl ∅))))) ∅) ∅)|some B=>
    let(w,L):=I.g.at o;let(Z,W):=I.g.at y;have K:=λs=>V7 s f L W
    cases M:zt f A B with
    |none=>rw [M] at K;exact kI i.cl (p:=.str "no fit") (by simp! [act,Lk,o,y,M]) (jl (ba 10 rfl (cT (need m rfl rfl) (cT (cX (cm (bz i H o) i.cl rfl ∅)) (cT (cX (cm (bz i N y) i.cl rfl ∅)) (oB (Fc (ZQ.trans (K _))))))) ∅) ∅)|some C=>rw [M] at K;let(E,t,k2):=i7 i I "join" z (hI C) hn nofun;exact qU i.cl (p:=fl C) (c:=hI C) (by simp! [act,Lk,o,y,M]) k2 (ba 10 rfl (cT (need m rfl rfl) (cT (cX (cm (bz i H o) i.cl rfl ∅)) (cT (cX (cm (bz i N y) i.cl rfl ∅)) (cT (xW (ZQ.trans (K _)) rfl) (cT (d9 (cm t i.cl rfl ∅)) (eX ∅)))))) ∅)
end
abbrev Xu:List Str:=["a","b","bcdefg","tu","vwxyz"]
abbrev cn(ks:List Str):List Str:=Xu.filter λz=>ks.contains z
abbrev Hv:Nat->List (List Str)
 |0=>[[]]|n+1=>(Hv n).flatMap λl=>(lQ.filter λz=>!l.contains z).map (·::l)
theorem vF:∀{ks:List Str},ks.Nodup->(∀k∈ks,k∈lQ)->ks∈Hv ks.length
 |[],_,_=>.head _|x::l,nd,h=>by have a:=List.nodup_cons.1 nd;have b:=vF a.2 λk hk=>h k (.tail _ hk);show x::l∈(Hv l.length).flatMap _;rw [List.mem_flatMap];refine{l,b,fP.2 {x,List.mem_filter.2 {h x (.head _),?_},rfl}};rw [Bool.not_eq_true',Bool.eq_false_iff];exact λc=>a.1 (et.1 c)
abbrev chS(ks:List Str):Bool:=strsOf (uD .aR (ks.map gP) (ks.map codes))==hI (cn ks)
def HH:∀n:Fin 6,((Hv n.1).all chS)=ie:=↑1
theorem wo:∀{xs:List PV} {a:List Str},strsOf xs=hI a->xs=a.map .str
 |[],a,h=>by cases h;rfl
 |x::xs,a,h=>by
  cases x with
  |str z=>rw [strsOf] at h;let(ys,b,rfl):=cP.1 h;rw [wo b];rfl|_=>cases h
def PF(nd:ks.Nodup)(h:∀k∈ks,k∈lQ):uD .aR (ks.map gP) (ks.map codes)=(cn ks).map .str:=by have hl:ks.length<=5:=ma nd h;have:=d0.1 (HH {ks.length,by lia}) ks (vF nd h);exact wo (zzy.1 this)
def Lv{d:Dd}(h:d.Ok):d.nm∈lQ:=by
 cases d with
 |lay z R=>exact h.1|take z=>exact h|turn z=>exact h|lP z=>exact h|sign z a b x=>exact h.1|join z e c f=>exact h.1
theorem kP(I:Inv D)(z:Str):Inv (rest z D) where
 nd:=zX I.nd
 nm:=λk hk=>by let(q,a,rfl):=fP.1 hk;exact I.nm _ (List.mem_map_of_mem (List.mem_filter.1 a).1)
 g:=λq a=>I.g q (List.mem_filter.1 a).1
def y9(I:Inv D)(hz:z∈lQ)(hn:z∉cg D)(f:∃w,Fl R w):Inv (D++[(z,R)]) where
 nd:=by unfold cg;rw [List.map_append,List.nodup_append];refine{I.nd,List.nodup_cons.2 {List.not_mem_nil,.nil},λa ha b d e=>?_};rw [a8,List.map_nil,ej] at d;exact hn (by have:z=a:=(e.trans d).symm;rw [this];exact ha)
 nm:=λk hk=>by
  let(q,c,rfl):=fP.1 hk
  rcases List.mem_append.1 c with h|h
  .exact I.nm _ (List.mem_map_of_mem h)
  .rw [ej.1 h];exact hz
 g:=λq c=>by
  rcases List.mem_append.1 c with h|h
  .exact I.g q h
  .rw [ej.1 h];exact f
def ze(I:Inv D)(hz:z∈lQ)(b:∃w,Fl R w):Inv (g9 z R D):=by
 have hk:=N6 z R D;cases h:(gv z D).isSome
 .have c:z∉cg D:=sL.1 (Option.not_isSome_iff_eq_none.1 (by rw [h];exact zzf));unfold g9;rw [h,if_neg zzf];exact y9 I hz c b
 .rw [h,if_pos rfl] at hk;refine{by rw [hk];exact I.nd,by rw [hk];exact I.nm,λq a=>?_};unfold g9 at a;rw [h,if_pos rfl] at a;let(p,d,rfl):=fP.1 a;by_cases e:p.1=z
  .rw [if_pos e];exact b
  .rw [if_neg e];exact I.g p d
structure KU(D K:DD):Prop where
 a:Inv D
 b:Inv K
 e:Lk D=Lk K
def Gv{K:DD}(T:KU D K)(d:Dd)(hd:d.Ok):KU (KD d.nm D (act (Lk D) d).2) (wz d.nm K (act (Lk K) d).2):=by
 have f:=Lv hd;have hf:=λR=>L1 (R:=R) T.a.g d hd;rw [<-T.e];generalize j:(act (Lk D) d).2=c at hf;have e:∀y,gv y D=gv y K:=congrFun T.e
 match c with
 |none=>exact T|some h9=>refine{kP T.a _,kP T.b _,funext λy=>?_};show gv y (rest d.nm D)=gv y (rest d.nm K);rw [iR,iR,e y]|some (hI R)=>
  have i:=hf R rfl;refine{ze T.a f i,y9 (kP T.b _) f (zY _ _) i,funext λy=>?_};show gv y (g9 d.nm R D)=gv y (rest d.nm K++[(d.nm,R)]);rw [DT,sJ,iR];by_cases h:y=d.nm
  .rw [if_pos h,if_pos h];exact(if_pos h.symm).symm
  .rw [if_neg h,if_neg h,e y];cases gv y K with
   |some _=>rfl|none=>exact(if_neg (Ne.symm h)).symm
def sS:z∈cg D↔(gv z D).isSome=ie:=by
 cases h:gv z D with
 |none=>simp [sL.1 h]|some R=>simp! [Option.isSome_some,iff_true];exact List.mem_map_of_mem (f:=(·.1)) (Le h)
def Rx{K:DD}(T:KU D K):cn (cg D)=cn (cg K):=by unfold cn;refine List.filter_congr λz Z=>?_;rw [Bool.eq_iff_iff,et,et,sS,sS];have:=congrFun T.e z;dsimp only [Lk] at this;rw [this]
def w9(h:z∈cn ks):z∈ks:=by have:=(List.mem_filter.1 h).2;exact et.1 this
def Om:Xu.Nodup:=↑1
def Ol:∀z∈lQ,z∈Xu:=↑1
def K7(ks:List Str):(cn ks).Nodup:=Om.filter _
def C4(nd:ks.Nodup)(h:∀k∈ks,k∈lQ):(cn ks).length=ks.length:=
 Nat.le_antisymm (ma (K7 ks) λx a=>w9 a) (ma nd λx a=>List.mem_filter.2 {Ol x (h x a),et.2 a})
theorem vf(n:Nat):∀R:List Str,eqs (qb n) (R.map .str) (R.map .str)=ie
 |[]=>rfl|y::R=>by show(qb n (.str y) (.str y)&&eqs (qb n) (R.map .str) (R.map .str))=ie;rw [vf n R,Bool.and_true];cases n<;>exact beq_self_eq_true y
def Fy(n:Nat)(R:List Str):(R.map PV.str).all (Ci.plain n)=ie:=by rw [List.all_map];refine d0.2 λy Z=>?_;cases n<;>rfl
def Fw(R:List Str):nc (fl R)=ie:=Fy 8 R
def Dj(R:List Str):eqv (fl R) (fl R)=ie:=vf 8 R
def Lo(R:List Str):iJ (fl R) (fl R)=.ok (.bl ig):=by unfold iJ;rw [Fw,Dj];rfl
def SS(b:Bool):iJ (.bl b) (.bl b)=.ok (.bl ig):=by cases b<;>rfl
def Lp(c:Str):iJ (.str c) (.str c)=.ok (.bl ig):=by rw [SQ,beq_self_eq_true];rfl
def wM{L:Str->Option (List Str)}{P:PV->Option (Option (List Str))->Prop}(d:Dd)(f:∀c,P (.str c) h9)(i:∀t R,P (.bl t) (hI (hI R)))(j:∀R,L d.nm=hI R->P (fl R) (hI h9))(g:∀Q R,P (fl Q) (hI (hI R))):P (act L d).1 (act L d).2:=by
 cases d with
 |lay z R=>exact i _ _|take z=>
  simp! [act];cases h:L z with
  |none=>exact f _|some R=>exact j _ h
 |sign z a b x=>
  simp! [act];cases L z with
  |none=>exact f _|some R=>
   dsimp only;split
   .split
    .exact f _
    .exact g [_] _
   .exact f _
 |join z e k m=>
  simp! [act];cases L k with
  |none=>exact f _|some A=>
   cases L m with
   |none=>exact f _|some B=>
    dsimp only;cases zt e A B with
    |none=>exact f _|some C=>exact g _ _
 |_ z=>
  simp! [act];cases L z with
  |none=>exact f _|some R=>exact g _ _
theorem L4(L:Str->Option (List Str))(d:Dd):ni .str (act L d).1=.ok (.bl (act L d).2.isNone):=wM (P:=λp c=>ni .str p=.ok (.bl c.isNone)) d (λZ=>rfl) (λZ Z=>rfl) (λZ Z=>rfl) λZ Z=>rfl
theorem L3(L:Str->Option (List Str))(d:Dd):iJ (act L d).1 (act L d).1=.ok (.bl ig):=wM (P:=λp Z=>iJ p p=.ok (.bl ig)) d Lp (λt Z=>SS t) (λR Z=>Lo R) λQ Z=>Lo Q
def BW{vs:List PV}(nd:ks.Nodup)(h:∀k∈ks,k∈lQ):fe .sorted [.cq ks vs]=.ok (.lst ((cn ks).map .str)):=by have hl:ks.length<=5:=ma nd h;show(if ks.length<64 then Res.ok (PV.lst (uD .aR (ks.map gP) (ks.map codes))) else .bad)=_;rw [if_pos (by lia),PF nd h]
def HE{F:aP}{a:Ci.E}{p:PV}{o:B}(h:az F a env=.ok p){z:Res PV}(g:fe o [p]=z):az F (.blt o #v[a]) env=z:=by rw [az,gc h qi];exact g
def ET{s:Sg}{fr:List (Nat×OS)}{a f d u:Nat}{b un:List (Str×PV)}(c:At s fr a f d u D b un)(I:Inv D):F2 "Atlas.names" [.obj a] s=.ok (.lst ((cn (cg D)).map .str)) s:=
 ba 4 rfl (eX (vR (HE (cF c) (BW I.nd I.nm)))) ∅
abbrev aD(D:DD):DD:=(cn (cg D)).map λz=>(z,(gv z D).getD [])
def QY(D:DD):cg (aD D)=cn (cg D):=by unfold cg aD;rw [List.map_map];exact List.map_id' _
def VM{q:Str×List Str}(h:q∈aD D):gv q.1 D=hI q.2:=by
 let(z,a,rfl):=fP.1 h;have:=sS.1 (w9 a)
 cases e:gv z D with
 |none=>rw [e] at this;cases this
 |some R=>rfl
section
variable{s:Sg}{fr:List (Nat×OS)}{a f d u:Nat}{dn un:List (Str×PV)}(hT:At s fr a f d u D dn un)(I:Inv D)
noncomputable abbrev UG:X2:=.tup #v[.pu (!0),.met (!1) "Atlas" (zu 25) #v[!0]]
include hT in
def RG(hz:z∈lQ)(h:gv z D=hI R):bp F1 (bU F1 Qj) UG [.val (.str z),.val (.obj a)] s=.ok (.tup [.str z,fl R]) s:=by rw [bp,dJ,rE (p:=.str z) rfl];show((dJ F1 (bU F1 Qj) #v[_] _ _).bind _).bind _=_;rw [dJ,cm (m:=(zu 25)) (bz hT hz h) hT.cl rfl ∅];simp! [Rs.bind,dJ]
include hT I in
theorem u0:∀b:List Str,(∀z∈b,z∈cg D)->bK (λx s=>(Rs.of ((Tg.one 0).put x (ll 1 .no++eO [.val (.obj a)] [0])) s).bind λc s=>bp F1 (bU F1 Qj) UG c s) (b.map .str) s=.ok (b.map λz=>.tup [.str z,fl ((gv z D).getD [])]) s
 |[],_=>rfl|z::b,h=>by have hz:=h z (.head _);let(R,e):=ew.1 (sS.1 hz);rw [a8,bK,show((Rs.of ((Tg.one 0).put (.str z) (ll 1 .no++eO [.val (.obj a)] [0])) s).bind λc s=>bp F1 (bU F1 Qj) UG c s)=.ok (.tup [.str z,fl R]) s from RG hT (I.nm z hz) e];show(bK _ (b.map .str) s).bind _=_;rw [u0 b λy g=>h y (.tail _ g),a8,e];rfl
include hT I in
set_option tactic.hygienic true in
def nS:F2 (zu 7) [.obj a] s=.ok (dc (aD D)) s:=by
 refine ba 0 rfl (eX (j7 ?_)) ∅;show bp F1 (bU F1 Qj) (.dict (.oj 1 [0] (.one 0) (.met (!0) "Atlas" "names" .nil) UG)) [.val (.obj a)] _=_;have c:((cn (cg D)).map PV.str).length<bT:=by rw [zzl,C4 I.nd I.nm,zzl];exact d2 I.len ↑2
 have bd:g6 [.lst ((cn (cg D)).map λz=>.tup [.str z,fl ((gv z D).getD [])])]=.ok (dc (aD D)):=by
  have e:((cn (cg D)).map λz=>PV.tup [.str z,fl ((gv z D).getD [])])=(aD D).map λq=>.tup [.str q.1,fl q.2]:=by unfold aD;rw [List.map_map];rfl
  rw [e];show(Res.of (vV _)).bind (λb=>Res.ok (PV.cq (bP b [] []).1 (bP b [] []).2))=_;rw [FE];show Res.ok (PV.cq (bP _ [] []).1 (bP _ [] []).2)=_;rw [sU _ _ _ (λZ Z h=>by cases h) (by rw [QY];exact K7 _)];rfl
 rw [bp,bp,cm (m:="names") (ET hT I) hT.cl rfl ∅];show((if((cn (cg D)).map PV.str).length<bT then _ else Rs.bad).bind _)=_;rw [if_pos c];rw [u0 hT I _ λz g=>w9 g];show Rs.of (g6 [.lst _]) _=_;rw [bd];rfl
end
theorem D4{K:DD}:∀A:DD,(∀q∈A,gv q.1 K=hI q.2)->qf (cg K) (kf K) (cg A) (kf A)=ie
 |[],_=>by unfold qf;rfl|q::A,h=>by show qf (cg K) (kf K) (q.1::cg A) (fl q.2::kf A)=ie;rw [qf,oH,h q (.head _)];show(eqv (fl q.2) (fl q.2)&&qf (cg K) (kf K) (cg A) (kf A))=ie;rw [Dj,D4 A λp a=>h p (.tail _ a)];rfl
def Fz(D:DD):(kf D).all nc=ie:=by unfold kf;rw [List.all_map];exact d0.2 λq Z=>Fw q.2
def Oh{K:DD}(T:KU D K):rC (dc (aD D)) (dc K)=.ok (.bl ig):=by
 show(if((kf (aD D)).all nc&&(kf K).all nc)=ie then Res.ok (PV.bl (!((cg (aD D)).length==(cg K).length&&qf (cg K) (kf K) (cg (aD D)) (kf (aD D))))) else .bad)=_;have hl:(cg (aD D)).length=(cg K).length:=by rw [QY,Rx T,C4 T.b.nd T.b.nm]
 rw [Fz,Fz,if_pos (show(ie&&ie)=ie from rfl),hl,beq_self_eq_true,D4 (aD D) λq a=>by have:=VM a;have e:=congrFun T.e q.1;dsimp only [Lk] at e;rw [<-e];exact this];rfl
section
variable{F:aP}{e:Ci.E}{U:gA}
def Uk{a:Es}(h:bw F a env=.ok ps):az F (.tup a) env=.ok (.tup ps):=by rw [az,h];rfl
def V5{a:Type}{l:List a}(h:az F e env=.ok (.int l.length)):az F (.cmp .eq e (¬0)) env=.ok (.bl l.isEmpty):=by rw [az,h,az];cases l<;>exact eI
def ZN{a:Type}{l:List a}{x:a}:(l++[x]).isEmpty=ig:=by cases l<;>rfl
variable{s:Sg}{fr:List (Nat×OS)}{a f d u:Nat}{dn un:List (Str×PV)}{w:Str}{h c:Option (List Str)}
def EK(b:At s fr a f d u D dn un):F2 "Atlas.marks" [.obj a] s=.ok (.tup [.int dn.length,.int un.length]) s:=
 ba 5 rfl (eX (vR (Uk (gc (xD b) (gc (EB b) qi))))) ∅
def Hz(b:At s fr a f d u D (dn++[ym w z h c]) un)(I:Inv D)(hn:un.length<bT)(j:h=h9->(gv z D).isSome=ie):∃s',F2 (zu 41) [.obj a] s=.ok (.str w) s'/\At s' fr a f d u (KD z D (hI h)) dn (un++[ym w z h c]):=by have g:=b.Pw dn;have i:=g.TL (un++[ym w z h c]);let(s',e,k):=sI i I j;exact{s',ba 14 rfl (cT (tD (ite_ff ((V5 (xD b)).trans (by rw [ZN]))) rfl) (cT (cX (zS (eD b) b.hd)) (cT (d9 (rS (p:=(ym w z h c).2) (eU g) g.hu rfl hn)) (cT (d9 (cm e i.cl ∅ ∅)) (eX ∅))))) ∅,k}
def DB(b:At s fr a f d u D dn (un++[ym w z h c]))(I:Inv D)(hn:dn.length<bT)(j:c=h9->(gv z D).isSome=ie):∃s',F2 (zu 43) [.obj a] s=.ok (.str w) s'/\At s' fr a f d u (KD z D (hI c)) (dn++[ym w z h c]) un:=by have g:=b.TL un;have i:=g.Pw (dn++[ym w z h c]);let(s',e,k):=sI i I j;exact{s',ba 3 rfl (cT (tD (ite_ff ((V5 (EB b)).trans (by rw [ZN]))) rfl) (cT (cX (zS (eU b) b.hu)) (cT (d9 (rS (p:=(ym w z h c).2) (eD g) g.hd rfl hn)) (cT (d9 (cm e i.cl ∅ ∅)) (eX ∅))))) ∅,k}
theorem Hy(b:At s fr a f d u D [] un):F2 (zu 41) [.obj a] s=.exc "NoBack" s:=ba 14 rfl (oB (zM (V5 (l:=([]:List (Str×PV))) (xD b)))) ∅
def At.app(b:At s fr a f d u D dn un)(L:Sg):At (s++L) fr a f d u D dn un:=by
 have g:∀{n:Nat} {o:OS},s[n]?=hI o->(s++L)[n]?=hI o:=λh=>by rw [ey (b4.1 h).1,h]
 exact{g b.ha,g b.hf,g b.hd,g b.hu,b.ne,λq i=>{g (b.hr q i).1,(b.hr q i).2}}
def rH{i:Nat}{x:X2}{M:Sg}{o:OS}{fs gs:List (Str×PV)}(h:bp F1 U x env (s++{"Atlas",fs}::M)=.ok (.obj (s++{"Atlas",fs}::M).length) ((s++{"Atlas",fs}::M)++[o]))(b:env[i]?=hI (.val (.obj s.length)))(j:mj g (.obj (s.length+(M.length+1))) fs=gs)(hl:decide (fs.length<1000)=ie):
 eQ F1 U (.mw "Atlas" i g x) env (s++{"Atlas",fs}::M)=.ok (.nx env) (s++{"Atlas",gs}::(M++[o])):=by
 have e:=z8 (f:=g) h b (fs:=fs) (gs:=gs) (by rw [List.append_assoc,ez (a7 _),Nat.sub_self];rfl) (by rw [c5];exact j) hl;rw [List.append_assoc,List.set_append_right _ _ (a7 _),Nat.sub_self] at e;exact e
theorem IV:F2 (zu 24) [.obj s.length] (s++[{"Atlas",[]}])=.ok .aR (s++[{"Atlas",GZ (s.length+1) (s.length+2) (s.length+3)},{"#d",[]},{"#l",[]},{"#l",[]}]):=
 tW 13 rfl (cT (rH (M:=[]) RD rfl rfl ∅) (cT (rH Oa rfl rfl ∅) (cT (rH Oa rfl ∅ ∅) eh))) ∅
def Oi:bp F1 (bU F1 U5) (.new "Atlas" .nil) env s=.ok (.obj s.length) (s++[{"Atlas",GZ (s.length+1) (s.length+2) (s.length+3)},{"#d",[]},{"#l",[]},{"#l",[]}]):=by have k:bU F1 U5 (kS "Atlas" (zu 6))=F2 (zu 24):=(nk (T:=pZ) 13 ∅).symm;rw [bp,qi];show xO (bU F1 U5) "Atlas" [] s=_;unfold xO;rw [if_neg ↑1,k,IV];rfl
theorem Kx(b:At s fr a f d u D dn un):F2 "Atlas.twin" [.obj a] s=.ok (.obj s.length) (s++[{"Atlas",GZ (s.length+4) (s.length+5) (s.length+6)},{"#d",[]},{"#l",[]},{"#l",[]},{"#d",fD D},{"#l",dn},{"#l",un}]):=
 ba 12 rfl (cT (cX Oi) (cT (rH (HR (eF (b.app _)) (b.app _).hf) rfl rfl ∅) (cT (rH (zx (eD (b.app _)) (b.app _).hd) rfl rfl ∅) (cT (rH (gs:=GZ (s.length+4) (s.length+5) (s.length+6)) (zx (eU (b.app _)) (b.app _).hu) rfl ∅ ∅) (eX ∅))))) ∅
end
structure UC where
 w:Str
 z:Str
 h:Option (List Str)
 c:Option (List Str)
noncomputable abbrev Pt:=List (UC×DD)
structure Yr(A B:DD)(x:UC):Prop where
 z:x.z∈lQ
 h:x.h=gv x.z A
 c:∀y,gv y B=if y=x.z then x.c else gv y A
 ne:x.h=h9->x.c=h9->False
def QS(K:DD):Pt->Prop
 |[]=>K=[]|q::P=>Yr q.2 K q.1/\Inv q.2/\QS q.2 P
def QK(K:DD):Pt->Prop
 |[]=>True|q::P=>Yr K q.2 q.1/\Inv q.2/\QK q.2 P
abbrev rv{a b:Type}(f:a->b):List a->List b
 |[]=>[]|q::P=>rv f P++[f q]
theorem iL{a b:Type}{f:a->b}:∀{P:List a},(rv f P).length=P.length
 |[]=>rfl|q::P=>by show(rv f P++[f q]).length=_;rw [c5,iL];rfl
noncomputable abbrev eP(q:UC×DD):Str×PV:=ym q.1.w q.1.z q.1.h q.1.c
def Gw{A B:DD}(T:KU D A)(I:Inv B)(hz:z∈lQ){c:Option (List Str)}(b:∀y,gv y B=if y=z then c else gv y A):KU (KD z D (hI c)) B:=by
 have e:∀y,gv y D=gv y A:=congrFun T.e;have d:=b z
 rw [if_pos rfl] at d;cases c with
 |none=>refine{kP T.a _,I,funext λy=>?_};show gv y (rest z D)=gv y B;rw [iR,b,e]|some R=>refine{ze T.a hz (I.g.at d),I,funext λy=>?_};show gv y (g9 z R D)=gv y B;rw [DT,b,e]
noncomputable abbrev Tm:=DD×Pt×Pt
set_option backward.match.sparseCases false
structure Hs(s:Sg)(fr:List (Nat×OS))(a:Nat)(T:Tm):Prop where
 x:∃D f d u,At s fr a f d u D (rv eP T.2.1) (rv eP T.2.2)/\KU D T.1
 p:QS T.1 T.2.1
 q:QK T.1 T.2.2
set_option backward.match.sparseCases true
def LY(fr:List (Nat×OS))(a:Nat)(T:Tm):Prop:=∀s:Sg,(∀q∈fr,s[q.1]?=hI q.2)->Hs s [] a T
noncomputable abbrev four(a f d u:Nat)(D:DD)(b un:List (Str×PV)):List (Nat×OS):=[(a,{"Atlas",GZ f d u}),(f,{"#d",fD D}),(d,{"#l",b}),(u,{"#l",un})]
abbrev b1:Tm->Tm
 |(K,q::P,Q)=>(q.2,P,(q.1,K)::Q)|T=>T
abbrev bk:Nat->Tm->Tm
 |0,T=>T|n+1,T=>b1 (bk n T)
theorem nX(T:Tm):∀n,n<=T.2.1.length->(bk n T).2.1.length+n=T.2.1.length/\(bk n T).2.2.length=T.2.2.length+n
 |0,_=>⟨rfl,rfl⟩|n+1,h=>by
  let(a,b):=nX T n (by lia);show(b1 (bk n T)).2.1.length+(n+1)=_/\(b1 (bk n T)).2.2.length=_;generalize bk n T=V at a b;let(K,P,Q):=V
  cases P with
  |nil=>exact absurd a (by show¬0+n=_;lia)|cons q P=>exact{by show P.length+(n+1)=_;rw [<-a];show _=P.length+1+n;lia,by show Q.length+1=_;rw [show Q.length=_ from b];rfl}
section
variable{s:Sg}{fr:List (Nat×OS)}{a:Nat}{T:Tm}
def Hs.hr(S:Hs s fr a T):∀q∈fr,s[q.1]?=hI q.2:=by let(D,f,d,u,b,_):=S.x;exact λq c=>(b.hr q c).1
theorem D8{K:DD}{P Q:Pt}{s':Sg}(S:Hs s fr a (K,P,Q))(T:KU D K){d:Dd}(hd:d.Ok)(k:Yq fr a D (rv eP P) s d (act (Lk K) d).2 s'):∃f g,Hs s' fr a (wz d.nm K (act (Lk K) d).2,f,g)/\match(act (Lk K) d).2 with
 |none=>f=P/\g=Q|some _=>∃x,f=(x,K)::P/\g=[]:=by
 have i:=Gv T d hd;have o:∀y,gv y D=gv y K:=congrFun T.e
 rw [T.e] at i;cases j:(act (Lk K) d).2 with
 |none=>rw [j] at k;cases k;exact⟨P,Q,S,rfl,rfl⟩
 |some c=>
  rw [j] at k i;let(q,r,t,m):=k;refine{({d.wd,d.nm,gv d.nm D,c},K)::P,[],{{_,q,r,t,m,i},{{Lv hd,o _,λy=>?_,λu w=>?_},T.b,S.p},trivial},_,rfl,rfl}
  .cases c with
   |none=>exact iR _ _ _|some R=>
    show gv y (rest d.nm K++[(d.nm,R)])=_;rw [sJ,iR];by_cases h:y=d.nm
    .rw [if_pos h,if_pos h];exact if_pos h.symm
    .rw [if_neg h,if_neg h];cases gv y K with
     |some _=>rfl|none=>exact if_neg (Ne.symm h)
  .have k:=wM (L:=Lk K) (P:=λZ c=>c=hI h9->Lk K d.nm≠h9) d (λZ=>nofun) (λZ Z=>nofun) (λR h Z k=>by rw [h] at k;cases k) λZ Z=>nofun;exact k (j.trans (congrArg hI w)) ((o _).symm.trans u)
theorem IU{K:DD}{P Q:Pt}(S:Hs s fr a (K,P,Q)){d:Dd}(hd:d.Ok)(hn:P.length<bT):∃s' b c,F2 (zu 16) [.obj a,d.P] s=.ok (act (Lk K) d).1 s'/\Hs s' fr a (wz d.nm K (act (Lk K) d).2,b,c)/\match(act (Lk K) d).2 with
 |none=>b=P/\c=Q|some _=>∃x,b=(x,K)::P/\c=[]:=by
 let(D,f,g,u,h,T):=S.x;let(s',e,k):=My h T.a hd (by rw [iL];exact hn);rw [T.e] at e k;let(b,c,r):=D8 S T hd k;exact⟨s',b,c,e,r⟩
def D9{K:DD}{P Q:Pt}(S:Hs s fr a (K,P,Q))(hz:z∈lQ)(L:Fl R w)(hn:P.length<bT):∃s' x p,F2 "Atlas.lay" [.obj a,.str z,fl R] s=.ok p s'/\Hs s' fr a (wz z K (hI (hI R)),(x,K)::P,[]):=by let(D,f,g,u,b,T):=S.x;let(s',k,e):=EA b T.a hz L (by rw [iL];exact hn);let(c,i,h,x,rfl,rfl):=D8 (d:=.lay z R) S T ⟨hz,w,L⟩ k;exact{s',x,_,e,h}
def CM(S:Hs s fr a T)(h:0<T.2.1.length)(hl:T.2.2.length<bT):∃s' p,F2 (zu 41) [.obj a] s=.ok p s'/\Hs s' fr a (b1 T):=by
 let(K,P,Q):=T
 cases P with
 |nil=>cases h
 |cons q P=>
  let(x,A):=q;let(D,f,d,u,i,T):=S.x;let(L,I,p):=S.p
  let(s',e,g):=Hz (z:=x.z) (h:=x.h) (c:=x.c) (w:=x.w) i T.a (by rw [iL];exact hl) λh=>by
   rw [show gv x.z D=x.c from(congrFun T.e _).trans ((L.c _).trans (if_pos rfl))];cases q:x.c with
   |none=>exact(L.ne h q).elim|some _=>rfl
  refine{s',_,e,{_,f,d,u,g,Gw T I L.z (c:=x.h) λy=>?_},p,L,T.b,S.q};by_cases q:y=x.z
  .rw [if_pos q,L.h,q]
  .rw [if_neg q,L.c,if_neg q]
def xl(S:Hs s fr a (b1 T))(h:0<T.2.1.length)(hl:T.2.1.length<bT):∃s' p,F2 (zu 43) [.obj a] s=.ok p s'/\Hs s' fr a T:=by
 let(K,P,Q):=T
 cases P with
 |nil=>cases h
 |cons q P=>
  let(x,A):=q;let(D,f,d,u,i,T):=S.x;let(L,I,p):=S.q
  let(s',e,g):=DB (z:=x.z) (h:=x.h) (c:=x.c) (w:=x.w) i T.a (by rw [iL];exact Nat.lt_of_succ_lt hl) λh=>by
   rw [show gv x.z D=x.h from(congrFun T.e _).trans L.h.symm];cases q:x.h with
   |none=>exact(L.ne q h).elim|some _=>rfl
  exact{s',_,e,{_,f,d,u,g,Gw T I L.z L.c},⟨L,T.b,S.p⟩,p}
def Kw(S:Hs s [] a T):∃s' b m r,F2 "Atlas.twin" [.obj a] s=.ok (.obj b) s'/\Hs s' m a T/\Hs s' r b T/\LY m b T/\LY r a T:=by
 let(D,f,d,u,i,t):=S.x;have lt:∀{n:Nat} {o:OS},s[n]?=hI o->n<s.length:=λh=>(b4.1 h).1;have y:=lt i.ha;have z:=lt i.hf;have ld:=lt i.hd;have A:=lt i.hu;have j:=i.app [{"Atlas",GZ (s.length+4) (s.length+5) (s.length+6)},{"#d",[]},{"#l",[]},{"#l",[]},{"#d",fD D},{"#l",rv eP T.2.1},{"#l",rv eP T.2.2}];have e:=Kx i;generalize w:[_,_,_,_,_,_,_]=L at e j;have g:∀k,(s++L)[s.length+k]?=L[k]?:=λk=>by rw [ez (Nat.le_add_right _ _),Nat.add_sub_cancel_left]
 have gs:∀q∈four s.length (s.length+4) (s.length+5) (s.length+6) D (rv eP T.2.1) (rv eP T.2.2),(s++L)[q.1]?=hI q.2/\q.1∉[a,f,d,u]:=λq c=>by
  subst w;simp! [er,List.not_mem_nil,or_false,not_or] at c⊢;rcases c with rfl|rfl|rfl|rfl
  .exact{g 0,by lia,by lia,by lia,by lia}
  .exact{g 4,by lia,by lia,by lia,by lia}
  .exact{g 5,by lia,by lia,by lia,by lia}
  .exact{g 6,by lia,by lia,by lia,by lia}
 have gt:∀q∈four a f d u D (rv eP T.2.1) (rv eP T.2.2),(s++L)[q.1]?=hI q.2/\q.1∉[s.length,s.length+4,s.length+5,s.length+6]:=λq c=>by
  simp! [er,List.not_mem_nil,or_false,not_or] at c⊢;rcases c with rfl|rfl|rfl|rfl
  .exact{j.ha,by lia,by lia,by lia,by lia}
  .exact{j.hf,by lia,by lia,by lia,by lia}
  .exact{j.hd,by lia,by lia,by lia,by lia}
  .exact{j.hu,by lia,by lia,by lia,by lia}
 have m4:∀{s:Sg} {fr:List (Nat×OS)} {a f d u:Nat},d≠u->(∀q∈four a f d u D (rv eP T.2.1) (rv eP T.2.2),s[q.1]?=hI q.2)->(∀q∈fr,s[q.1]?=hI q.2/\q.1∉[a,f,d,u])->Hs s fr a T:=λne h k=>{{D,_,_,_,{h _ (.head _),h _ (.tail _ (.head _)),h _ (.tail _ (.tail _ (.head _))),h _ (.tail _ (.tail _ (.tail _ (.head _)))),ne,k},t},S.p,S.q};exact{_,_,four s.length _ _ _ D _ _,four a f d u D _ _,e,m4 i.ne (λq c=>(gt q c).1) gs,m4 (by lia) (λq c=>(gs q c).1) gt,λs h=>m4 (by lia) h (λZ k=>by cases k),λs h=>m4 i.ne h (λZ k=>by cases k)}
end
abbrev BA:Nat->pX->S2
 |0,.cons s _=>s|n+1,.cons _ ss=>BA n ss|_,.nil=>.p (.expr (.cst .aR))
abbrev HZ:S2->pX
 |.eS _ _ b=>b|_=>.nil
def SU(i j:Int):iJ (.tup [.int i,.int j]) (.tup [.int i,.int j])=.ok (.bl ig):=by
 have h:eqv (.tup [.int i,.int j]) (.tup [.int i,.int j])=ie:=by show((i==i)&&((j==j)&&ie))=ie;rw [beq_self_eq_true,beq_self_eq_true];rfl
 show(if ie=ie then Res.ok (PV.bl (!eqv (.tup [.int i,.int j]) (.tup [.int i,.int j]))) else .bad)=_;rw [h];rfl
noncomputable abbrev fR(q:UC×DD):PV:=dc q.2
noncomputable abbrev oN(a:Sl):Prop:=a.any Slot.cb=ig
theorem aS:∀{env:Sl} {i:Nat} {p:PV},oN env->oN (env.set i (.val p))
 |[],_,_,_=>rfl|_::_,0,_,h=>(Bool.or_eq_false_iff.1 h).2|_::_,_+1,_,h=>Bool.or_eq_false_iff.2 {(Bool.or_eq_false_iff.1 h).1,aS (Bool.or_eq_false_iff.1 h).2}
abbrev ae(K:DD)(P:Pt):List PV:=rv fR P++[dc K]
def v8{K:DD}{P:Pt}:(ae K P).length=P.length+1:=by unfold ae;rw [c5,iL];rfl
def xM{a:Type}{xs ys:List a}{y:a}:uw (xs++y::ys) (-((ys.length+1:Nat):Int))=hI y:=by unfold uw NX;rw [c5,c4,if_neg (by lia),if_pos (by lia),show((-((ys.length+1:Nat):Int))+((xs.length+(ys.length+1):Nat):Int)).toNat=xs.length by lia];show(xs++y::ys)[xs.length]?=_;rw [ez (a7 _),Nat.sub_self];rfl
theorem lh{K:DD}{P Q:Pt}:∀j:Nat,j<=P.length->j<=2->aB (.lst (ae K P)) (.int (-((j+1:Nat):Int)))=.ok (dc (bk j (K,P,Q)).1)
 |0,_,_=>congrArg Res.of (xM (ys:=[]))|1,h,_=>by
  cases P with
  |nil=>cases h
  |cons q P=>exact congrArg Res.of (Eq.trans (congrArg (λl=>uw l _) (List.append_assoc (rv fR P) [fR q] [dc K])) (xM (ys:=[dc K])))
 |2,h,_=>by
  match P,h with
  |q::p::P,_=>exact congrArg Res.of (Eq.trans (congrArg (λl=>uw l _) (show(rv fR P++[fR p]++[fR q])++[dc K]=rv fR P++fR p::[fR q,dc K] by simp)) (xM (ys:=[fR q,dc K])))
 |n+3,_,h=>absurd h (by lia)
section
variable{U:gA}{F:aP}{a b:Ci.E}{s s1 s2:Sg}{p r:PV}{x y:X2}{o:uu}{i:Nat}
def l6{t:Ci.T2}{a:pX}(h:uA F1 U t env s=.ok ig s1):eQ F1 U (.ite t a .nil) env s=.ok (.nx env) s1:=by rw [eQ,h];show cO F1 U .nil env s1=_;exact eh
def HJ(c:bp F1 U x env s=.ok p s1)(d:bp F1 U y env s1=.ok q s2)(e:cB o p q=.ok (.bl ig)):uA F1 U (.cmp o x y) env s=.ok ig s2:=by rw [uA,bp,c];simp! [Rs.bind,d,e,Rs.of];rfl
def XF{t w:Ci.T2}(h:uA F1 U t env s=.ok ig s1)(g:uA F1 U w env s1=.ok ig s2):uA F1 U (.or t w) env s=.ok ig s2:=by rw [uA,h];exact g
def KH(h:env[i]?=hI (.val p)):az F (.var i) env=.ok p:=by rw [az,h];rfl
def Sx{t:Bool}(h:env[6]?=hI (.val p))(k:ni .str p=.ok (.bl t)):az F (.blt .int #v[.not (.ty .str (!6))]) env=.ok (.int (if t then 0 else 1)):=by
 have e:az F (.ty .str (!6)) env=.ok (.bl t):=by rw [az,KH h];exact k
 cases t with
 |true=>exact HE (SY e) rfl|false=>exact HE (XA e) rfl
def mh{e:Ci.E}(h:az (F1 s) e env=.ok q)(n:oN env):eQ F1 U (.p (.set i e)) env s=.ok (.nx (env.set i (.val q))) s:=xW h (aS n)
def Up{c:Tg}{e:Ci.E}{e1:Sl}(h:az F e env=.ok q)(g:c.put q env=.ok e1):dq F (.Cq c e) env=.ok (.nx e1):=by rw [dq,h];show(c.put q env).bind _=_;rw [g];rfl
def uR{as:Es}{r:Res PV}(h:F f ps=r)(ha:bw F as env=.ok ps):az F (.call f as) env=r:=ko ha h
def Rp{as:Es}{z:Rs PV}(h:U f ps s=z)(ha:bw (F1 s) as env=.ok ps):bp F1 U (.p8 f as) env s=z:=by rw [bp,ha];exact h
def CO{o:KN}{z:Res PV}(g:binOp o p q=z)(h:az F a env=.ok p)(c:az F b env=.ok q):az F (.bin o a b) env=z:=by rw [az,h,c];exact g
noncomputable abbrev bd(c:Tg)(b:pX):PV->Sl->Sg->Rs Ci.Fl:=λx env s=>(Rs.of (c.put x env) s).bind λd s=>cO F1 F2 b d s
def DA{c:Tg}{b:pX}{e1:Sl}(d:uz (F1 s) it env=.ok xs)(h:eL (bd c b) xs env s=.ok (.nx e1) s1):eQ F1 F2 (.eS c it b) env s=.ok (.nx e1) s1:=by rw [eQ,d];exact h
def fT{body:PV->Sl->Sg->Rs Ci.Fl}{e1:Sl}{z:Rs Ci.Fl}(h:body p env s=.ok (.nx e1) s1)(g:eL body xs e1 s1=z):eL body (p::xs) env s=z:=by rw [eL,h];exact g
def X1{n:Nat}(hn:n<1000):bS (n:Int)=ie:=by simp! [bS,zza,zzN];lia
def Pe{e:Ci.E}{j:Int}(h:az F e env=.ok (.int j))(hn:bS j=ie):uz F (.pU e) env=.ok (eJ 0 j.toNat):=by rw [uz,h];exact if_pos hn
variable{fr:List (Nat×OS)}{n:Nat}{T:Tm}
def Hs.inv(S:Hs s fr n T):Inv T.1:=by let(_,_,_,_,_,h):=S.x;exact h.b
def kE(S:Hs s fr n T)(g:env[i]?=hI (.val (.obj n)))(h:az (F1 s) a env=.ok (dc T.1)):uA F1 F2 (.cmp .Cm (.p8 (zu 7) #v[.var i]) (.pu a)) env s=.ok ig s:=by
 let(D,f,d,u,j,c):=S.x;have e:bp F1 F2 (.p8 (zu 7) #v[.var i]) env s=.ok (dc (aD D)) s:=by rw [bp,gc (KH g) qi];exact nS j c.a
 exact HJ e (rE h) (Oh c)
def qO(S:Hs s fr n T)(e:env[i]?=hI (.val (.obj n)))(g:az (F1 s) a env=.ok (.tup [.int T.2.1.length,.int T.2.2.length])):uA F1 F2 (.cmp .ne (.met (.var i) "Atlas" "marks" .nil) (.pu a)) env s=.ok ig s:=by let(D,f,d,u,c,h):=S.x;have hm:=EK c;rw [iL,iL] at hm;exact HJ (cm hm c.cl (by rw [e,qi]) ∅) (rE g) (SU _ _)
def Hs.cl(S:Hs s fr n T):gE s n "Atlas"=ie:=by let(_,_,_,_,c,_):=S.x;exact c.cl
def RH(S:Hs s fr n T)(h:F2 (kS "Atlas" m) [.obj n] s=.ok p s1)(c:env[i]?=hI (.val (.obj n)))(hu:(pZ.drop (18-pZ.length),(pZ.take (18-pZ.length)).all λx=>!(kS "Atlas" m==x.1))=(pZ,ie)):eQ F1 F2 (.ex (.met (.var i) "Atlas" m .nil)) env s=.ok (.nx env) s1:=
 d9 (cm h S.cl (by rw [c,qi]) hu)
end
section
variable(s:Sg)
theorem xj(T:List (Str×Def))(h:aH (aW s) T (zu 3)=aX (aH (aW s) VD) c9):lW (aH (aW s) T):=λns k q hk a=>by have e:aH (aW s) VD (zu 42)=aX (aH (aW s) YT) c7:=oq 0;rw [h];exact JN _ (λns k hk=>by rw [e];exact HG _ ns k hk) ns k q hk a
def MB(ns:List Int)(k:Int)(hk:0<=k):∃d:Dd,d.Ok/\F1 s (zu 31) [mR ns,.int k]=.ok d.P:=by have a:aH (aW s) pY (zu 31)=aX (aH (aW s) QV) br:=oq 2;have b:aH (aW s) QV (zu 35)=aX (aH (aW s) UD) cf:=oq 0;have c:lW (aH (aW s) QV):=xj s QV (oq 1);have f:lW (aH (aW s) UD):=xj s UD (oq 0);let(d,g,h):=HS _ c (λns k hk=>by let(R,w,L,e):=A4 _ f ns k hk 3 ↑2 ↑2;exact{R,w,L,(congrFun b _).trans e}) ns k hk;exact{d,g,(congrFun a _).trans h}
def Dp{K:DD}(I:Inv K)(d:Dd):F1 s (zu 14) [dc K,d.P]=.ok (.tup [dc (wz d.nm K (act (Lk K) d).2),(act (Lk K) d).1]):=by have a:aH (aW s) pY (zu 14)=aX (aH (aW s) VE) aj:=oq 0;have b:aH (aW s) VE (zu 18)=aX (aH (aW s) YU) aU:=oq 0;exact(congrFun a _).trans (Aq _ _ (λas=>congrFun b as) I.nd I.len I.g d)
end
theorem gO{body:PV->Sl->Sg->Rs Ci.Fl}{P:Nat->Sl->Sg->Prop}:∀(xs:List PV) (k:Nat) (env:Sl) (s:Sg),P k env s->(∀i x env s,xs[i]?=hI x->P (k+i) env s->∃a s',body x env s=.ok (.nx a) s'/\P (k+i+1) a s')->∃a s',eL body xs env s=.ok (.nx a) s'/\P (k+xs.length) a s'
 |[],k,env,s,h,_=>⟨env,s,rfl,h⟩|x::xs,k,env,s,h,g=>by
  let(e1,b,b1,c):=g 0 x env s rfl h;let(d,e,f,j):=gO xs (k+1) e1 b c λi y env s m o=>by let(p,q,r,t):=g (i+1) y env s m (by rw [show k+(i+1)=k+1+i by lia];exact o);exact{p,q,r,by rw [show k+1+i+1=k+(i+1)+1 by lia];exact t}
  refine{d,e,?_,by rw [c4,show k+(xs.length+1)=k+1+xs.length by lia];exact j};rw [eL,b1];exact f
def K9{s:Sg}{fr:List (Nat×OS)}{a:Nat}{K:DD}{P:Pt}(S:Hs s fr a (K,P,[]))(ns:List Int){k:Int}(hk:0<=k)(hl:P.length<100):∃(d p:PV) (s':Sg) (c:DD) (b:Pt) (j:Bool),F1 s (zu 31) [mR ns,.int k]=.ok d/\F1 s (zu 14) [dc K,d]=.ok (.tup [dc c,p])/\F2 (zu 16) [.obj a,d] s=.ok p s'/\Hs s' fr a (c,b,[])/\
 ni .str p=.ok (.bl j)/\iJ p p=.ok (.bl ig)/\ae c b=ae K P++(if j then [] else [dc c])/\b.length=P.length+(if j then 0 else 1):=by
 let(d,hd,g):=MB s ns k hk;let(s',b,i,h,e,hm):=IU S hd (Nat.lt_trans hl ↑2);refine{_,_,s',wz d.nm K (act (Lk K) d).2,b,_,g,Dp s S.inv d,h,?_,L4 (Lk K) d,L3 (Lk K) d,?_}
 all_goals
  cases f:(act (Lk K) d).2 with
  |none=>
   rw [f] at hm e;let(rfl,rfl):=hm
   first|exact e|exact⟨(hF _).symm,rfl⟩
  |some o=>
   rw [f] at hm e;let(x,rfl,rfl):=hm
   first|exact e|exact⟨rfl,rfl⟩
section
variable{ns:List Int}{c n:Nat}{k0:Int}{fr:List (Nat×OS)}{s:Sg}
noncomputable abbrev eA(ns:List Int)(R:List PV)(a b d e:Slot):Sl:=[.val (mR ns),.val (.obj 0),.val (.lst R),a,b,d,e,.no,.no,.no,.no,.no,.no,.no]
abbrev bB:pX:=HZ (BA 3 iu.body)
def Qa(ns:List Int)(i:Nat)(env:Sl)(s:Sg):Prop:=∃K P a b d e,env=eA ns (ae K P) a b d e/\oN env/\Hs s [] 0 (K,P,[])/\2<=P.length/\P.length<=2+i
def RB{i:Nat}(h:Qa ns i env s)(w:i<8):∃b s',bd (.one 3) bB (.int i) env s=.ok (.nx b) s'/\Qa ns (i+1) b s':=by
 let(K,P,y,z,A,B,rfl,o,S,C,hl):=h;let(d,p,s',a,e,j,f,g,r,t,ty,_,hr,u):=K9 S ns (k:=1000+60*i) (by lia) (by lia);have o1:=aS (i:=4) (p:=d) (aS (i:=3) (p:=.int i) o);have o2:=aS (i:=6) (p:=p) (aS (i:=5) (p:=dc a) o1);have D:(ae K P).length=P.length+1:=v8;refine{_,s',cT (mh (uR f rfl) (aS o)) (cT (tD (Up (uR g (gc (yn (lh (Q:=[]) 0 (Nat.zero_le _) ↑2) rfl rfl) (gc rfl qi))) rfl) o2) (cT (d9 (Rp r rfl)) (cT (mh (q:=.lst (ae a e)) (CO (p:=.lst (ae K P)) (q:=.lst (if j then [] else [dc a])) ?_ rfl (CO (p:=.lst [dc a]) (q:=.int (if j then 0 else 1)) ?_ rfl (Sx rfl ty))) o2) eh))),a,e,.val (.int i),_,_,_,rfl,aS o2,t,by lia,?_}
 .rw [hr];exact if_pos (by cases j<;>exact d1 (m:=101) (by simp! [c4,List.length_nil,if_true,if_neg zzf];lia) ↑2)
 .cases j<;>rfl
 .cases j<;>simp! [if_true,if_neg zzf] at u<;>lia
abbrev rB:pX:=HZ (BA 10 iu.body)
variable{K0:DD}{P0:Pt}{b:Nat}
noncomputable abbrev eR(ns:List Int)(K0:DD)(P0:Pt)(b:Nat)(a d e f g h i j k:Slot):Sl:=[.val (mR ns),.val (.obj 0),.val (.lst (ae K0 P0)),e,f,a,g,.val (.int P0.length),.val (.obj b),d,h,i,j,k]
def RE(ns:List Int)(K0:DD)(P0:Pt)(b:Nat)(env:Sl):Prop:=∃a d e f g h i j k,env=eR ns K0 P0 b a d e f g h i j k/\oN env
def Lm{V:Nat->Tm}{t0:Slot}(hs:∀i s,i<n->Hs s fr c (V i)->∃s' p,F2 (kS "Atlas" m) [.obj c] s=.ok p s'/\Hs s' fr c (V (i+1)))(hu:(pZ.drop (18-pZ.length),(pZ.take (18-pZ.length)).all λx=>!(kS "Atlas" m==x.1))=(pZ,ie))(hn:n<1000)(S:Hs s fr c (V 0))(o:oN env)(g:env=env.set 3 t0)(j:env[10]?=hI (.val (.obj c)))(f:env[13]?=hI (.val (.int n))):
 ∃a s',eQ F1 F2 (.eS (.one 3) (.pU (!13)) #v[.ex (.met (!10) "Atlas" m .nil)]) env s=.ok (.nx (env.set 3 a)) s'/\Hs s' fr c (V n)/\oN (env.set 3 a):=by
 let(r,s',e,(a,rfl,o),d):=gO (body:=bd (.one 3) #v[.ex (.met (!10) "Atlas" m .nil)]) (P:=λi e s=>(∃a,e=env.set 3 a/\oN e)/\Hs s fr c (V i)) (eJ 0 n) 0 env s {⟨t0,g,o⟩,S} (by intro i x e s k h;let(q,rfl):=mn k;let((a,rfl,o),S):=h;rw [Nat.zero_add] at S⊢;let(s',p,e,d):=hs i s q S;refine{_,s',cT (RH S e ?_ hu) eh,{.val (.int i),List.set_set ..,aS o},d};rw [List.set_set,dX ↑2,j]);rw [show(eJ 0 n).length=n by simp [eJ],Nat.zero_add] at d;exact{a,s',DA ((Pe (KH f) (X1 hn)).trans (by rw [hB])) e,d,o}
def Qc(ns:List Int)(K0:DD)(P0:Pt)(b:Nat)(fr:List (Nat×OS))(c:Nat)(k0:Int)(i:Nat)(env:Sl)(s:Sg):Prop:=∃K P a d e f g,env=eR ns K0 P0 b a d e f g (.val (.obj c)) (.val (.int k0)) (.val (dc K)) (.val (.int P.length))/\oN env/\Hs s fr c (K,P,[])/\P.length<=50+i
def RC{i:Nat}(h:Qc ns K0 P0 b fr c k0 i env s)(hk:0<=k0)(y:i<3):∃a s',bd (.one 3) (HZ (BA 2 rB)) (.int i) env s=.ok (.nx a) s'/\Qc ns K0 P0 b fr c k0 (i+1) a s':=by
 let(K,P,z,A,B,C,D,rfl,o,S,hl):=h;let(d,p,s',e,f,j,m,r,t,u,ty,w,hr,g):=K9 S ns (k:=k0+60*i) (by lia) (by lia);have o1:=aS (i:=4) (p:=d) (aS (i:=3) (p:=.int i) o);have o2:=aS (i:=6) (p:=p) (aS (i:=12) (p:=dc e) o1);refine{_,s',cT (mh (uR m rfl) (aS o)) (cT (tD (Up (uR r rfl) rfl) o2) (cT (l6 (HJ (Rp t rfl) (rE rfl) w)) (cT (mh (q:=.int f.length) (CO (p:=.int P.length) (q:=.int (if j then 0 else 1)) ?_ rfl (Sx rfl ty)) o2) eh))),e,f,_,_,.val (.int i),_,_,rfl,aS o2,u,?_}
 .rw [g];cases j<;>rfl
 .cases j<;>simp! [if_true,if_neg zzf] at g<;>lia
def v5(hP:2<=P0.length)(hl:P0.length<50)(hk:0<=k0)(S:Hs s fr c (bk 2 (K0,P0,[])))(h:RE ns K0 P0 b env):∃A s',bd (.two 10 11) rB (.tup [.obj c,.int k0]) env s=.ok (.nx A) s'/\RE ns K0 P0 b A/\∃T,Hs s' fr c T:=by
 let(s5,s9,s3,s4,s6,Co,Cp,Vg,Vh,rfl,o):=h;have L:∀{n:Nat},n<100->n<bT:=λh=>Nat.lt_trans h ↑2;have l1:(bk 1 (K0,P0,[])).2.1.length+1=P0.length:=(nX (K0,P0,[]) 1 (by show 1<=P0.length;lia)).1;let(s1,p1,e1,q):=xl (T:=bk 1 (K0,P0,[])) S (by lia) (L (by lia));let(F,p2,G,S2):=xl (T:=(K0,P0,[])) q (by show 0<P0.length;lia) (L (by show P0.length<100;lia));have o1:=aS (i:=3) (p:=.int 1) (aS (i:=3) (p:=.int 2) (aS (i:=11) (p:=.int k0) (aS (i:=10) (p:=.obj c) o)));have o2:=aS (i:=13) (p:=.int P0.length) (aS (i:=12) (p:=dc K0) o1);let(env,H,I,K,P,M,N,O,R,U,a,W,X,r):=gO (body:=bd (.one 3) (HZ (BA 2 rB))) (P:=Qc ns K0 P0 b fr c k0) (eJ 0 3) 0 _ F {K0,P0,_,_,_,_,_,rfl,o2,S2,by lia} (by intro i x env s Y h;let(t,rfl):=mn Y;rw [Nat.zero_add] at h⊢;exact RC h hk t);have hn:P.length<100:=d2 r ↑2;have w:=nX (K,P,[]);let(B,Z,r3,k,o3):=Lm (n:=P.length) (m:="back") (V:=λi=>bk i (K,P,[])) (env:=env) (t0:=O) (λi s t S=>by let(y,C):=w i (by show i<=P.length;lia);have y:_+i=P.length:=y;have C:_=0+i:=C;exact CM S (by lia) (L (by lia))) ∅ (by lia) X W (by rw [a];rfl) (by rw [a];rfl) (by rw [a];rfl);have g1:_+P.length=P.length:=(w P.length (a7 _)).1;have E:(bk P.length (K,P,[])).2.1=[]:=List.length_eq_zero_iff.1 (by lia);have eK:(bk P.length (K,P,[])).1=[]:=by have:=k.p;rw [E] at this;exact this
 let(v3,g,r5,e,o5):=Lm (n:=P.length) (m:="forth") (V:=λi=>bk (P.length-i) (K,P,[])) (env:=env.set 3 B) (t0:=B) (λi s t S=>by have y:_+(P.length-(i+1))=P.length:=(w (P.length-(i+1)) (by show _<=P.length;lia)).1;refine xl ?_ (by lia) (L (by lia));rw [show P.length-i=P.length-(i+1)+1 by lia] at S;exact S) ∅ (by lia) k o3 (by rw [a];rfl) (by rw [a];rfl) (by rw [a];rfl);have e:Hs g fr c (bk (P.length-P.length) (K,P,[])):=e;rw [Nat.sub_self] at e;let(D,f,d,u,z,_):=k.x
 rw [E] at z;subst a;exact{_,g,cT (DA (xs:=[.int 2,.int 1]) (by rw [uz];rfl) (fT (cT (RH S e1 rfl ∅) (cT (l6 (kE q rfl (yn (lh (Q:=[]) 1 (by lia) (by lia)) rfl rfl))) eh)) (fT (cT (RH q G rfl ∅) (cT (l6 (kE S2 rfl (yn (lh (Q:=[]) 0 (by lia) (by lia)) rfl rfl))) eh)) rfl)))
  (cT (tD (e1:=(_:Sl)) (by rw [dq,gc (yn (lh (Q:=[]) 0 (Nat.zero_le _) ↑2) rfl rfl) (gc (p:=.int P0.length) rfl qi)];rfl) o2) (cT (DA (Pe (j:=3) (by rw [az]) ↑2) I) (cT r3
  (cT (l6 (XF (kE k rfl (by rw [az,eK];rfl)) (HJ (p:=.str "no back") (kc rfl (jl rfl ∅) (cm (m:="back") (Hy z) z.cl rfl ∅)) (rE (p:=.str "no back") rfl) (Lp _)))) (cT r5 (cT (l6 (XF (kE e rfl rfl) (qO e rfl rfl))) eh)))))),{M,N,v3,R,U,_,_,_,_,rfl,o5},_,e}
def Gx(a:2<=P0.length)(hl:P0.length<50){d:Nat}{l:Int}(hk:0<=k0)(e:0<=l)(S:Hs s fr c (bk 2 (K0,P0,[])))(f:LY fr d (bk 2 (K0,P0,[])))(o:RE ns K0 P0 b env):∃g s',eL (bd (.two 10 11) rB) [.tup [.obj c,.int k0],.tup [.obj d,.int l]] env s=.ok (.nx g) s':=by let(_,m,h,o1,T,i):=v5 a hl hk S o;let(_,j,k,_):=v5 a hl e (f _ i.hr) o1;exact{_,j,fT h (fT k rfl)}
end
def Wa:Fl ["0"] 1:={{by decide,by decide+kernel},by decide,by decide,by decide+kernel,by decide+kernel}
def Wb:Fl ["1#"] 2:={{by decide,by decide+kernel},by decide,by decide,by decide+kernel,by decide+kernel}
def Sn(ns:List Int)(hl:ns.length<=63):∃s,mr F1 F2 iu [.lst (ns.map .int)] []=.ok (.bl ie) s:=by
 have y:Inv []:={.nil,(λ_ h=>by cases h),λ_ h=>by cases h};have A:Hs [{"Atlas",GZ 1 2 3},{"#d",[]},{"#l",[]},{"#l",[]}] [] 0 ([],[],[]):={{[],1,2,3,{rfl,rfl,rfl,rfl,by decide,nofun},y,y,rfl},rfl,trivial};let(s1,H,p1,I,B):=D9 A (z:="a") (.head _) Wa (show 0<bT by decide);let(L,M,p2,N,S2):=D9 B (z:="b") (.tail _ (.tail _ (.tail _ (.tail _ (.head _))))) Wb (show 1<bT by decide);have O:eQ F1 F2 (BA 0 iu.body) (fV iu [.lst (ns.map .int)]) []=.ok (.nx (eA ns (ae (wz "b" (wz "a" [] (hI (hI ["0"]))) (hI (hI ["1#"]))) [(M,wz "a" [] (hI (hI ["0"]))),(H,[])]) .no .no .no .no)) [{"Atlas",GZ 1 2 3},{"#d",[]},{"#l",[]},{"#l",[]}]:=by unfold eA mR;generalize PV.lst (ns.map .int)=x;kernel_rfl
 let(_,s3,R,K,P,f,g,k,r,rfl,o,C,a,c):=gO (body:=bd (.one 3) bB) (P:=Qa ns) (eJ 0 8) 0 _ L {_,_,.no,.no,.no,.no,rfl,rfl,S2,a7 _,a7 _} (by intro i x env s S h;let(U,rfl):=mn S;rw [Nat.zero_add] at h⊢;exact RB h U);have c:P.length<50:=d2 c ↑2;let(D,m1):=nX (K,P,[]) 1 (by show 1<=P.length;lia);have D:_+1=P.length:=D;let(s4,p4,V,E):=CM (T:=(K,P,[])) C (by show 0<P.length;lia) (show 0<bT by decide);let(s5,p5,W,F):=CM (T:=bk 1 (K,P,[])) E (by lia) (by rw [m1];exact show 1<bT by decide);let(t,b,Wf,Wg,X,Y,u,Z,k2):=Kw (T:=bk 2 (K,P,[])) F;let(G,m2):=nX (K,P,[]) 2 a;have G:_+2=P.length:=G;let(m,em,m0,m3):=xj t pY (oq 4) ns 5 2 ↑2 ↑2;have o1:=aS (i:=9) (p:=.lst [.tup [.obj 0,.int 3000],.tup [.obj b,.int 4000]]) (aS (i:=8) (p:=.obj b) (aS (i:=7) (p:=.int P.length) o));have hc:∀{env:Sl},env[0]?=hI (.val (mR ns))->az (F1 t) (.cmp .eq (.call (zu 3) #v[!0,¬5,¬2]) (¬0)) env=.ok (.bl (m==0)):=λh=>by rw [az,uR em (by rw [bw,KH h];rfl),az];exact eI
 have w:∃env d,eL (bd (.two 10 11) rB) (if m=0 then [.tup [.obj 0,.int 3000],.tup [.obj b,.int 4000]] else [.tup [.obj b,.int 4000],.tup [.obj 0,.int 3000]]) (eR ns K P b k (.val (.lst [.tup [.obj 0,.int 3000],.tup [.obj b,.int 4000]])) f g r .no .no .no .no) t=.ok (.nx env) d:=by
  split
  .exact Gx a c ↑2 ↑2 Y Z {k,_,f,g,r,.no,.no,.no,.no,rfl,o1}
  .exact Gx a c ↑2 ↑2 u k2 {k,_,f,g,r,.no,.no,.no,.no,rfl,o1}
 let(_,d,e):=w
 refine{d,?_};have h:cO F1 F2 iu.body (fV iu [.lst (ns.map .int)]) []=.ok (.rt (.bl ie)) d:=cT O (cT (d9 (cm (m:="lay") I A.cl ∅ ∅)) (cT (d9 (cm (m:="lay") N B.cl ∅ ∅)) (cT (DA (Pe (j:=8) (by rw [az]) ↑2) R)
  (cT (mh (q:=.int P.length) (CO (p:=.int (ae K P).length) (q:=.int 1) (by rw [v8];exact congrArg (λi=>Res.ok (PV.int i)) (by lia)) (HE (p:=.lst (ae K P)) rfl rfl) (by rw [az])) o) (cT (RH C V rfl ∅) (cT (RH E W rfl ∅) (cT (cX (cm (m:="twin") X F.cl (by rw [qi];rfl) ∅))
  (cT (l6 (XF (qO u rfl (Uk (gc (p:=.int (bk 2 (K,P,[])).2.1.length) (CO (p:=.int P.length) (q:=.int 2) (congrArg (λi=>Res.ok (PV.int i)) (by lia)) rfl (by rw [az])) (gc (p:=.int (bk 2 (K,P,[])).2.2.length) (by rw [az,m2];rfl) qi)))) (kE u rfl (yn (lh (Q:=[]) 2 a ↑2) rfl rfl))))
  (cT (mh (q:=.lst [.tup [.obj 0,.int 3000],.tup [.obj b,.int 4000]]) rfl (aS (aS o))) (cT (DA (by
   rw [uz,az,hc rfl];have:m=0\/m=1:=by lia
   rcases this with rfl|rfl<;>rfl) e) (eX (vR (by rw [az])))))))))))))
 unfold mr;rw [if_pos (show([PV.lst (ns.map .int)].length==iu.np)=ie from rfl),h];rfl
end K74
variable{D:K74.DD}
namespace Hd
open PySem.W L2
noncomputable abbrev fo(n:Str)(st:k6)(a:iv)(c:i1):Obj:={.type "function",h9,.func (fnOf n n (bR st) (bf st) (ax st) .none .none .none a h9 (.ref c) .none),#[]}
noncomputable abbrev fm(n q:Str)(st:k6)(a:iv)(c:i1):Obj:={.type "function",h9,.func (fnOf n q (bR st) (bf st) (ax st) .none .none .none a h9 (.ref c) .none),#[]}
noncomputable abbrev co(n:Str)(a:Nat)(L A:Int)(r:Nat)(x y:iv)(q z:Nat):Obj:={cls:=.type "code",data:=.fields #[.str n a,.str n (a+1),.str "/claim/cut.py" (a+2),.int L 0,.int A 0,.int 0 0,.int 0 0,.int 3 0,.ref r,.bool Bool.true,.int 181 0,.ref (r+1),.none,x,y,.ref q,.int z 0,.int L 0,.str "/claim/cut.py" (z+1)]}
abbrev V3(s:k6):Pos:=match s with
 |.FunctionDef _ _ _ _ _ _ _ _ _ p=>p|_=>{0,0,0,0}
def ent{K:Frag}{ts:List (i1×Str)}{n:Str}(f c:i1)(b:iv)(a:nsIn K la n=hI (hI (.ref f)):=by kernel_rfl)(l:K.lookup f=hI (fo n st b c):=by kernel_rfl)(d:codeIn K (.ref c) n=ie:=by kernel_rfl)(k:keepIn K (.ref f)=ie:=by kernel_rfl):Ci.Cy K ts ig n st:=Ci.V4 a l d k
def Zg{K:Frag}{ts:List (i1×Str)}{n:Str}(f c:i1)(b:iv)(a:nsIn K la n=hI (hI (.ref f)):=by kernel_rfl)(l:K.lookup f=hI (fo n st b c):=by kernel_rfl)(d:codeIn K (.ref c) n=ie:=by kernel_rfl)(k:keepIn K (.ref f)=ie:=by kernel_rfl):Ci.Am K ts ig n n h9 st:={f,_,_,_,_,_,_,_,_,_,⟨a,rfl⟩,l,d,k,nofun}
def Zh{K:Frag}{ts:List (i1×Str)}{n:Str}(f c p:i1)(b:iv)(e:Ci.eZ K c p)(m:(p,Ci.jb n)∈ts)(u:∀q∈ts,q.1=p->q.2=Ci.jb n)(a:nsIn K la n=hI (hI (.ref f)):=by kernel_rfl)(l:K.lookup f=hI (fo n st b c):=by kernel_rfl)(d:codeIn K (.ref c) n=ie:=by kernel_rfl)(k:keepIn K (.ref f)=ie:=by kernel_rfl):Ci.Am K ts ie n n h9 st:={f,_,_,_,_,_,_,_,_,_,⟨a,rfl⟩,l,d,k,λZ=>{c,p,rfl,e,m,λg h=>u _ h rfl}}
def xg{K:Frag}{ts:List (i1×Str)}{n q cl:Str}(C f c:i1)(b:iv)(g:nsIn K la cl=hI (hI (.ref C)))(e:q=Ci.kS cl n:=by decide+kernel)(a:findIn K (.ref C) n=hI (hI (.ref f)):=by kernel_rfl)(i:isFn K (.ref f)=ie:=by kernel_rfl)(l:K.lookup f=hI (fm n q st b c):=by kernel_rfl)(d:codeIn K (.ref c) q=ie:=by kernel_rfl)(k:keepIn K (.ref f)=ie:=by kernel_rfl):Ci.Am K ts ig n q (hI cl) st:={f,_,_,_,_,_,_,_,_,_,⟨e,C,g,a,i⟩,l,d,k,nofun}
def a2{K:Frag}{ts:List (i1×Str)}{Γ:Ci.Pg}{fl:List (Str×Str)}{r:Ci.fH}{l:Ci.dr}(e:Ci.Am K ts r.hl r.m r.f r.c r.st)(s:Ci.yB Γ fl r l)(t:Ci.nO K ts Γ fl l)(a:(l.map (·.f)).contains r.f=ig:=by decide+kernel)(b:r.c.isSome=ie->(Ci.bY fl l).td=[]:=by first|exact λZ=>rfl|exact λz=>absurd z ↑2):Ci.nO K ts Γ fl (r::l):={e,s,⟨a,b⟩,t}
def ac{K:Frag}{ts:List (i1×Str)}{Γ:Ci.Pg}{r:Ci.Row}{l:Ci.fX}(e:Ci.Cy K ts r.hl r.h r.st)(s:Ci.dF (Γ.at l r.hl) r.h r.d r.st)(t:Ci.AllK K ts Γ l)(a:(l.map (·.f)).contains r.f=ig:=by decide+kernel)(b:(r.d.uW.isNone==!Ci.fq r.f)=ie:=by decide+kernel)(c:r.d.uW.isNone=ie->r.f=r.h:=by first|exact λZ=>rfl|exact λz=>absurd z ↑2)(d:Ci.Rc r.f=ig:=by decide+kernel):Ci.AllK K ts Γ (r::l):={e,s,⟨a,b,c,d⟩,t}
def EF{K L:Frag}{b:i1}(e:K.lookup b=hI o):(K++L).lookup b=hI o:=by rw [List.lookup_append,e];rfl
end Hd
namespace K74
open L2 Ci
noncomputable abbrev lw:=PySem.Challenge.rw_cellways_k74_whole_atlas_twins
abbrev top(i:Nat):Stmt:=PySem.Challenge.pw_cellways_k74_whole_atlas_twins.main.body.getD i (.Pass {0,0,0,0})
abbrev Rr:k6->List k6
 |.ClassDef _ _ _ b _ _ _ _ _ _ _=>b|_=>[]
abbrev dD(i j:Nat):Stmt:=(Rr (top i)).getD j (.Pass {0,0,0,0})
noncomputable abbrev m1:Value:=.str "cellways.floors" 351
noncomputable abbrev m2:Value:=.str "cellways.grounds" 424
noncomputable abbrev m3:Value:=.str "cellways.atlases" 452
noncomputable abbrev m4:Value:=.str "law_cellways_k74_whole_atlas_twins" 628
noncomputable abbrev Kq(n q:Str)(a:Nat)(L A:Int)(r z:Nat):Obj:={cls:=.type "code",data:=.fields #[.str n a,.str q (a+1),.str "/claim/cut.py" (a+2),.int L 0,.int A 0,.int 0 0,.int 0 0,.int 3 0,.ref r,.bool Bool.true,.int 181 0,.ref (r+1),.none,.ref (r+2),.ref (r+3),.ref (r+4),.int z 0,.int L 0,.str "/claim/cut.py" (z+1)]}
noncomputable abbrev Kd(P:Params)(D t:Nat)(l:Int):Obj:={cls:=.type "dict",data:=.dict #[Hd.de P "__module__" (t+7) (.str "cellways.errors" 187),Hd.de P "__firstlineno__" (t+11) (.int l (t+10)),Hd.de P "__static_attributes__" (t+12) (.ref (D-2)),Hd.de P "__doc__" (t+13) (.none)] 2}
noncomputable abbrev Kc(n:Str)(D t:Nat):Obj:={cls:=.type "type",data:=.cls {name:=n,bases:=[.ref 24],mro:=[.ref D,.ref 24,.type (zu 0),.type "Exception",.type (zu 32),.type "object"],ns:=D-1,qualname:=n},slots:=#[hI (.ref (D-9)),h9,hI (.str n t),hI (.str n (t+8)),hI (.builtin (zu 33)),hI (.bool Bool.true)]}
abbrev K(P:Params):zz8:=[(2,{cls:=.none,data:=.dict #[]}),
 (3,{cls:=.type "dict",data:=.dict #[Hd.de P (zu 36) 165 (.str "law_cellways_k74_whole_atlas_twins" 628),Hd.de P "__doc__" 166 (.none),Hd.de P "__package__" 167 (.none),Hd.de P "__loader__" 168 (.builtin "__main__.__loader__#opaque"),Hd.de P "__spec__" 169 (.none),Hd.de P "__annotations__" 170 (.ref 6),Hd.de P "__builtins__" 171 (.ref 4),Hd.de P "__file__" 173 (.str "/claim/cut.py" 172),Hd.de P "__cached__" 174 (.none),Hd.de P (zu 2) 206 (.ref 24),Hd.de P "NoSpot" 222 (.ref 37),Hd.de P "NoWay" 238 (.ref 49),Hd.de P "NoSign" 254 (.ref 61),Hd.de P "NoSize" 270 (.ref 73),Hd.de P "NoText" 286 (.ref 85),Hd.de P "NoFloor" 302 (.ref 97),Hd.de P "NoName" 318 (.ref 109),Hd.de P "NoFit" 334 (.ref 121),Hd.de P "NoBack" 350 (.ref 133),Hd.de P "SIGNS" 354 (.str (zu 20) 353),Hd.de P "LONGEST" 356 (.int 12 355),Hd.de P (zu 44) 363 (.ref 142),Hd.de P (zu 34) 370 (.ref 149),Hd.de P "is_row" 376 (.ref 154),Hd.de P (zu 45) 382 (.ref 159),Hd.de P "is_spot" 389 (.ref 166),Hd.de P (zu 9) 397 (.ref 173),Hd.de P (zu 12) 405 (.ref 180),Hd.de P (zu 40) 412 (.ref 187),Hd.de P (zu 38) 423 (.ref 194),Hd.de P (zu 13) 431 (.ref 199),Hd.de P (zu 8) 437 (.ref 204),Hd.de P (zu 39) 445 (.ref 211),Hd.de P (zu 27) 451 (.ref 216),Hd.de P "LETTERS" 455 (.str (zu 10) 454),Hd.de P "LONGEST_NAME" 457 (.int 6 456),Hd.de P "is_name" 463 (.ref 221),Hd.de P (zu 29) 470 (.ref 228),Hd.de P "Atlas" 627 (.ref 343),Hd.de P (zu 42) 637 (.ref 354),Hd.de P (zu 3) 647 (.ref 361),Hd.de P (zu 35) 665 (.ref 368),Hd.de P (zu 5) 674 (.ref 375),Hd.de P (zu 30) 682 (.ref 382),Hd.de P (zu 31) 696 (.ref 389),Hd.de P (zu 18) 702 (.ref 394),Hd.de P (zu 14) 708 (.ref 399),Hd.de P (zu 16) 718 (.ref 406),Hd.de P (zu 7) 724 (.ref 411),Hd.de P "law" 744 (.ref 418)] 50}),
 (4,{cls:=.type "module",dict:=hI builtinsNs,data:=.plain}),
 (23,{cls:=.type "dict",data:=.dict #[Hd.de P "__module__" 196 (.str "cellways.errors" 187),Hd.de P "__firstlineno__" 200 (.int 2 199),Hd.de P "__static_attributes__" 201 (.ref 22),Hd.de P "__weakref__" 203 (.ref 25),Hd.de P "__doc__" 204 (.none)] 3}),
 (24,{cls:=.type "type",data:=.cls {name:=(zu 2),bases:=[.type (zu 0)],mro:=[.ref 24,.type (zu 0),.type "Exception",.type (zu 32),.type "object"],ns:=23,qualname:=(zu 2),subclasses:=[.ref 37,.ref 49,.ref 61,.ref 73,.ref 85,.ref 97,.ref 109,.ref 121,.ref 133]},slots:=#[hI (.ref 15),h9,hI (.str (zu 2) 189),hI (.str (zu 2) 197),hI (.builtin (zu 33)),hI (.bool Bool.true)]}),
 (36,Kd P 37 207 4),
 (37,Kc "NoSpot" 37 207),
 (48,Kd P 49 223 6),
 (49,Kc "NoWay" 49 223),
 (60,Kd P 61 239 8),
 (61,Kc "NoSign" 61 239),
 (72,Kd P 73 255 10),
 (73,Kc "NoSize" 73 255),
 (84,Kd P 85 271 12),
 (85,Kc "NoText" 85 271),
 (96,Kd P 97 287 14),
 (97,Kc "NoFloor" 97 287),
 (108,Kd P 109 303 16),
 (109,Kc "NoName" 109 303),
 (120,Kd P 121 319 18),
 (121,Kc "NoFit" 121 319),
 (132,Kd P 133 335 20),
 (133,Kc "NoBack" 133 335),
 zx5 141 (zu 44) 357 25 1 136 361,
 zx3 142 (zu 44) 14 m1,
 zx5 148 (zu 34) 364 27 1 143 368,
 zx3 149 (zu 34) 15 m1,
 (153,Hd.co "is_row" 371 29 1 150 .none .none 152 374),
 zx3 154 "is_row" 16 m1,
 (158,Hd.co (zu 45) 377 33 1 155 .none .none 157 380),
 zx3 159 (zu 45) 17 m1,
 zx5 165 "is_spot" 383 39 1 160 387,
 zx3 166 "is_spot" 18 m1,
 zx5 172 (zu 9) 390 41 2 167 395,
 zx3 173 (zu 9) 19 m1,
 zx5 179 (zu 12) 398 43 2 174 403,
 zx3 180 (zu 12) 20 m1,
 zx5 186 (zu 40) 406 46 1 181 410,
 zx3 187 (zu 40) 21 m1,
 zx5 193 (zu 38) 413 49 3 188 421,
 zx3 194 (zu 38) 22 m1,
 (198,Hd.co (zu 13) 426 54 1 195 .none .none 197 429),
 zx3 199 (zu 13) 24 m2,
 (203,Hd.co (zu 8) 432 60 1 200 .none .none 202 435),
 zx3 204 (zu 8) 25 m2,
 zx5 210 (zu 39) 438 62 2 205 443,
 zx3 211 (zu 39) 26 m2,
 (215,Hd.co (zu 27) 446 68 2 212 .none .none 214 449),
 zx3 216 (zu 27) 27 m2,
 (220,Hd.co "is_name" 458 77 1 217 .none .none 219 461),
 zx3 221 "is_name" 31 m3,
 zx5 227 (zu 29) 464 81 1 222 468,
 zx3 228 (zu 29) 32 m3,
 (241,Kq (zu 6) (zu 24) 483 86 1 236 487),
 (242,Hd.fm (zu 6) (zu 24) (dD 33 0) m3 241),
 (248,Kq "give" "Atlas.give" 490 91 3 243 496),
 (249,Hd.fm "give" "Atlas.give" (dD 33 1) m3 248),
 (255,Kq "step" "Atlas.step" 499 97 4 250 506),
 (256,Hd.fm "step" "Atlas.step" (dD 33 2) m3 255),
 (262,Kq "lay" "Atlas.lay" 509 102 3 257 516),
 (263,Hd.fm "lay" "Atlas.lay" (dD 33 3) m3 262),
 (269,Kq (zu 25) (zu 23) 519 110 2 264 524),
 (270,Hd.fm (zu 25) (zu 23) (dD 33 4) m3 269),
 (276,Kq "take" "Atlas.take" 527 116 2 271 533),
 (277,Hd.fm "take" "Atlas.take" (dD 33 5) m3 276),
 (283,Kq "join" "Atlas.join" 536 121 5 278 547),
 (284,Hd.fm "join" "Atlas.join" (dD 33 6) m3 283),
 (290,Kq "turn" "Atlas.turn" 550 129 2 285 556),
 (291,Hd.fm "turn" "Atlas.turn" (dD 33 7) m3 290),
 (297,Kq (zu 17) (zu 47) 559 134 2 292 565),
 (298,Hd.fm (zu 17) (zu 47) (dD 33 8) m3 297),
 (304,Kq "sign" "Atlas.sign" 568 139 4 299 576),
 (305,Hd.fm "sign" "Atlas.sign" (dD 33 9) m3 304),
 (311,Kq "names" "Atlas.names" 579 146 1 306 583),
 (312,Hd.fm "names" "Atlas.names" (dD 33 10) m3 311),
 (318,Kq "back" (zu 41) 586 149 1 313 591),
 (319,Hd.fm "back" (zu 41) (dD 33 11) m3 318),
 (325,Kq "forth" (zu 43) 594 157 1 320 599),
 (326,Hd.fm "forth" (zu 43) (dD 33 12) m3 325),
 (332,Kq "marks" "Atlas.marks" 602 165 1 327 606),
 (333,Hd.fm "marks" "Atlas.marks" (dD 33 13) m3 332),
 (339,Kq "twin" "Atlas.twin" 609 168 1 334 614),
 (340,Hd.fm "twin" "Atlas.twin" (dD 33 14) m3 339),
 (342,{cls:=.type "dict",data:=.dict #[Hd.de P "__module__" 478 (.str "cellways.atlases" 452),Hd.de P "__firstlineno__" 482 (.int 84 481),Hd.de P (zu 6) 489 (.ref 242),Hd.de P "give" 498 (.ref 249),Hd.de P "step" 508 (.ref 256),Hd.de P "lay" 518 (.ref 263),Hd.de P (zu 25) 526 (.ref 270),Hd.de P "take" 535 (.ref 277),Hd.de P "join" 549 (.ref 284),Hd.de P "turn" 558 (.ref 291),Hd.de P (zu 17) 567 (.ref 298),Hd.de P "sign" 578 (.ref 305),Hd.de P "names" 585 (.ref 312),Hd.de P "back" 593 (.ref 319),Hd.de P "forth" 601 (.ref 326),Hd.de P "marks" 608 (.ref 333),Hd.de P "twin" 616 (.ref 340),Hd.de P "__static_attributes__" 620 (.ref 341),Hd.de P "__dict__" 622 (.ref 344),Hd.de P "__weakref__" 624 (.ref 345),Hd.de P "__doc__" 625 (.none)] 4}),
 (343,{cls:=.type "type",data:=.cls {name:="Atlas",bases:=[.type "object"],mro:=[.ref 343,.type "object"],ns:=342,qualname:="Atlas"},slots:=#[h9,h9,hI (.str "Atlas" 471),hI (.str "Atlas" 479),hI (.builtin "object.__new__"),hI (.bool Bool.true)]}),
 zx5 353 (zu 42) 630 175 2 348 635,
 zx3 354 (zu 42) 35 m4,
 zx5 360 (zu 3) 638 181 3 355 645,
 zx3 361 (zu 3) 36 m4,
 zx5 367 (zu 35) 648 184 3 362 663,
 zx3 368 (zu 35) 37 m4,
 zx5 374 (zu 5) 666 197 1 369 672,
 zx3 375 (zu 5) 38 m4,
 zx5 381 (zu 30) 675 205 1 376 680,
 zx3 382 (zu 30) 39 m4,
 zx5 388 (zu 31) 683 210 2 383 694,
 zx3 389 (zu 31) 40 m4,
 (393,Hd.co (zu 18) 697 222 2 390 .none .none 392 700),
 zx3 394 (zu 18) 41 m4,
 (398,Hd.co (zu 14) 703 237 2 395 .none .none 397 706),
 zx3 399 (zu 14) 42 m4,
 zx5 405 (zu 16) 709 261 2 400 716,
 zx3 406 (zu 16) 43 m4,
 (410,Hd.co (zu 7) 719 269 1 407 .none .none 409 722),
 zx3 411 (zu 7) 44 m4,
 zx5 417 "law" 725 271 1 412 742,
 zx3 418 "law" 45 m4]
abbrev ts:List (i1×Str):=[(401,jb (zu 16)),(413,jb "law")]
abbrev K2(P:Params):zz8:=K P++[(401,PySem.W.tabObj #[]),(413,PySem.W.tabObj #[])]
abbrev as:List Addr:=[2,3,4,23,24,36,37,48,49,60,61,72,73,84,85,96,97,108,109,120,121,132,133,141,142,148,149,153,154,158,159,165,166,172,173,179,180,186,187,193,194,198,199,203,204,210,211,215,216,220,221,227,228,241,242,248,249,255,256,262,263,269,270,276,277,283,284,290,291,297,298,304,305,311,312,318,319,325,326,332,333,339,340,342,343,353,354,360,361,367,368,374,375,381,382,388,389,393,394,398,399,405,406,410,411,417,418,401,413]
abbrev Γ:Pg:={[("SIGNS",(.str (zu 20))),("LONGEST",(.int 12)),("LETTERS",(.str (zu 10))),("LONGEST_NAME",(.int 6))],["len","int","str","list","tuple","all",zu 15,"bool","range","zip",zu 0,"sorted","dict",zu 4],[zu 2,"NoBack","NoFit","NoFloor","NoName","NoSign","NoSize","NoSpot","NoText","NoWay"],[],["NoBack","NoFit","NoFloor","NoName","NoSign","NoSpot"],[],ig,ig,[]}
def R0:fX:=[]
def qA:dF (Γ.at R0 ig) (zu 5) du (top 38):=stM λZ Z Z Z Z Z=>Hd.p0 λZ=>rfl
abbrev R1:fX:=zx2 (zu 5) du 38 ig::R0
def wm:dF (Γ.at R1 ig) (zu 44) fi (top 14):=stM λZ Z Z Z Z Z=>Hd.p0 λZ=>rfl
abbrev R2:fX:=zx2 (zu 44) fi 14 ig::R1
def yj:dF (Γ.at R2 ig) "is_name" lY (top 31):=stM λZ Z Z Z Z Z=>Hd.p0 λZ=>rfl
abbrev R3:fX:=zx2 "is_name" lY 31 ig::R2
def uf:dF (Γ.at R3 ig) (zu 29) iw (top 32):=stM λZ Z Z Z Z Z=>Hd.p0 λZ=>rfl
abbrev R4:fX:=zx2 (zu 29) iw 32 ig::R3
def nh:dF (Γ.at R4 ig) (zu 13) b8 (top 24):=stM λZ Z Z Z Z Z=>Hd.p0 λZ=>rfl
abbrev R5:fX:=zx2 (zu 13) b8 24 ig::R4
def lE:dF (Γ.at R5 ig) (zu 8) bI (top 25):=stM λZ Z Z Z Z Z=>Hd.p0 λZ=>rfl
abbrev R6:fX:=zx2 (zu 8) bI 25 ig::R5
def yl:dF (Γ.at R6 ig) "is_spot" eY (top 18):=stM λZ Z Z Z Z Z=>Hd.p0 λZ=>rfl
abbrev R7:fX:=zx2 "is_spot" eY 18 ig::R6
def pL:dF (Γ.at R7 ig) (zu 9) cu (top 19):=stM λZ Z Z Z Z Z=>Hd.yD λZ Z=>rfl
abbrev R8:fX:=zx2 (zu 9) cu 19 ig::R7
def mx:dF (Γ.at R8 ig) (zu 12) bb (top 20):=stM λZ Z Z Z Z Z=>Hd.yD λZ Z=>rfl
abbrev R9:fX:=zx2 (zu 12) bb 20 ig::R8
def yk:dF (Γ.at R9 ig) (zu 34) dg (top 15):=stM λZ Z Z Z Z Z=>Hd.p0 λZ=>rfl
abbrev YA:fX:=zx2 (zu 34) dg 15 ig::R9
def ug:dF (Γ.at YA ig) (zu 40) dh (top 21):=stM λZ Z Z Z Z Z=>Hd.p0 λZ=>rfl
abbrev YB:fX:=zx2 (zu 40) dh 21 ig::YA
def BY:dF (Γ.at YB ig) "is_row" gd (top 16):=stM λZ Z Z Z Z Z=>Hd.p0 λZ=>rfl
abbrev YC:fX:=zx2 "is_row" gd 16 ig::YB
def wk:dF (Γ.at YC ig) (zu 45) dI (top 17):=stM λZ Z Z Z Z Z=>Hd.p0 λZ=>rfl
abbrev YD:fX:=zx2 (zu 45) dI 17 ig::YC
def qC:dF (Γ.at YD ig) (zu 27) bQ (top 27):=stM λZ Z Z Z Z Z=>Hd.yD λZ Z=>rfl
abbrev YE:fX:=zx2 (zu 27) bQ 27 ig::YD
def uh:dF (Γ.at YE ig) (zu 39) b9 (top 26):=stM λZ Z Z Z Z Z=>Hd.yD λZ Z=>rfl
abbrev YF:fX:=zx2 (zu 39) b9 26 ig::YE
def uk:dF (Γ.at YF ig) (zu 38) di (top 22):=stM λZ Z Z Z Z Z=>Hd.Qk λZ Z Z=>rfl
abbrev YG:fX:=zx2 (zu 38) di 22 ig::YF
def t8:dF (Γ.at YG ig) (zu 42) c7 (top 35):=stM λZ Z Z Z Z Z=>Hd.yD λZ Z=>rfl
abbrev YH:fX:=zx2 (zu 42) c7 35 ig::YG
def uc:dF (Γ.at YH ig) (zu 3) c9 (top 36):=stM λZ Z Z Z Z Z=>Hd.Qk λZ Z Z=>rfl
abbrev YI:fX:=zx2 (zu 3) c9 36 ig::YH
def qB:dF (Γ.at YI ig) (zu 35) cf (top 37):=stM λZ Z Z Z Z Z=>Hd.Qk λZ Z Z=>rfl
abbrev YJ:fX:=zx2 (zu 35) cf 37 ig::YI
def ua:dF (Γ.at YJ ig) (zu 31) br (top 40):=stM λZ Z Z Z Z Z=>Hd.yD λZ Z=>rfl
abbrev YK:fX:=zx2 (zu 31) br 40 ig::YJ
def ub:dF (Γ.at YK ig) (zu 18) aU (top 41):=stM λZ Z Z Z Z Z=>Hd.yD λZ Z=>rfl
abbrev YL:fX:=zx2 (zu 18) aU 41 ig::YK
def pK:dF (Γ.at YL ig) (zu 14) aj (top 42):=stM λZ Z Z Z Z Z=>Hd.yD λZ Z=>rfl
abbrev nj:fX:=zx2 (zu 14) aj 42 ig::YL
abbrev mE:List (Str×Str):=[("Atlas",zu 22),("Atlas","done"),("Atlas","undone")]
def Q0:dr:=[]
theorem qq:cx {Γ.at nj ig with hl:=ig} (bY mE Q0) "give" "Atlas.give" gG (dD 33 1):=ia λZ Z Z Z Z Z=>Hd.Qk λZ Z Z=>rfl
abbrev Q1:dr:={"Atlas.give",(hI "Atlas"),"give",gG,dD 33 1,ig,h9}::Q0
theorem qw:cx {Γ.at nj ig with hl:=ig} (bY mE Q1) "step" "Atlas.step" gJ (dD 33 2):=ia λZ Z Z Z Z Z=>Hd.VQ λZ Z Z Z=>rfl
abbrev Q2:dr:={"Atlas.step",(hI "Atlas"),"step",gJ,dD 33 2,ig,h9}::Q1
theorem t7:cx {Γ.at nj ig with hl:=ig} (bY mE Q2) "lay" "Atlas.lay" ir (dD 33 3):=ia λZ Z Z Z Z Z=>Hd.Qk λZ Z Z=>rfl
abbrev Q3:dr:={"Atlas.lay",(hI "Atlas"),"lay",ir,dD 33 3,ig,h9}::Q2
theorem qp:cx {Γ.at nj ig with hl:=ig} (bY mE Q3) "back" (zu 41) gF (dD 33 11):=ia λZ Z Z Z Z Z=>Hd.p0 λZ=>rfl
abbrev Q4:dr:={zu 41,(hI "Atlas"),"back",gF,dD 33 11,ig,h9}::Q3
theorem lp:cx {Γ.at nj ig with hl:=ig} (bY mE Q4) (zu 6) (zu 24) dG (dD 33 0):=ia λZ Z Z Z Z Z=>Hd.p0 λZ=>rfl
abbrev Q5:dr:={zu 24,(hI "Atlas"),zu 6,dG,dD 33 0,ig,h9}::Q4
theorem qz:cx {Γ.at nj ig with hl:=ig} (bY mE Q5) "twin" "Atlas.twin" gM (dD 33 14):=ia λZ Z Z Z Z Z=>Hd.p0 λZ=>rfl
abbrev Q6:dr:={"Atlas.twin",(hI "Atlas"),"twin",gM,dD 33 14,ig,h9}::Q5
theorem lD:cx {Γ.at nj ig with hl:=ig} (bY mE Q6) (zu 25) (zu 23) dH (dD 33 4):=ia λZ Z Z Z Z Z=>Hd.yD λZ Z=>rfl
abbrev Q7:dr:={zu 23,(hI "Atlas"),zu 25,dH,dD 33 4,ig,h9}::Q6
theorem qr:cx {Γ.at nj ig with hl:=ig} (bY mE Q7) "join" "Atlas.join" gH (dD 33 6):=ia λZ Z Z Z Z Z=>Hd.ar5 λZ Z Z Z Z=>rfl
abbrev Q8:dr:={"Atlas.join",(hI "Atlas"),"join",gH,dD 33 6,ig,h9}::Q7
theorem qy:cx {Γ.at nj ig with hl:=ig} (bY mE Q8) "turn" "Atlas.turn" gL (dD 33 7):=ia λZ Z Z Z Z Z=>Hd.yD λZ Z=>rfl
abbrev Q9:dr:={"Atlas.turn",(hI "Atlas"),"turn",gL,dD 33 7,ig,h9}::Q8
theorem ng:cx {Γ.at nj ig with hl:=ig} (bY mE Q9) (zu 17) (zu 47) fh (dD 33 8):=ia λZ Z Z Z Z Z=>Hd.yD λZ Z=>rfl
abbrev Yt:dr:={zu 47,(hI "Atlas"),zu 17,fh,dD 33 8,ig,h9}::Q9
theorem qx:cx {Γ.at nj ig with hl:=ig} (bY mE Yt) "take" "Atlas.take" gK (dD 33 5):=ia λZ Z Z Z Z Z=>Hd.yD λZ Z=>rfl
abbrev Yu:dr:={"Atlas.take",(hI "Atlas"),"take",gK,dD 33 5,ig,h9}::Yt
theorem qu:cx {Γ.at nj ig with hl:=ig} (bY mE Yu) "sign" "Atlas.sign" gI (dD 33 9):=ia λZ Z Z Z Z Z=>Hd.VQ λZ Z Z Z=>rfl
abbrev Yv:dr:={"Atlas.sign",(hI "Atlas"),"sign",gI,dD 33 9,ig,h9}::Yu
theorem pH:cx {Γ.at nj ig with hl:=ig} (bY mE Yv) "marks" "Atlas.marks" fK (dD 33 13):=ia λZ Z Z Z Z Z=>Hd.p0 λZ=>rfl
abbrev Yw:dr:={"Atlas.marks",(hI "Atlas"),"marks",fK,dD 33 13,ig,h9}::Yv
theorem pI:cx {Γ.at nj ig with hl:=ig} (bY mE Yw) "names" "Atlas.names" fL (dD 33 10):=ia λZ Z Z Z Z Z=>Hd.p0 λZ=>rfl
abbrev Yx:dr:={"Atlas.names",(hI "Atlas"),"names",fL,dD 33 10,ig,h9}::Yw
theorem pG:cx {Γ.at nj ig with hl:=ig} (bY mE Yx) "forth" (zu 43) fJ (dD 33 12):=ia λZ Z Z Z Z Z=>Hd.p0 λZ=>rfl
abbrev Q15:dr:={zu 43,(hI "Atlas"),"forth",fJ,dD 33 12,ig,h9}::Yx
abbrev mP:fH:={zu 30,h9,zu 30,mD,top 39,ig,hI (zu 37,"e")}
def ud:VH (Γ.at nj ig) mP (zu 37,"e"):={{{rfl,rfl,rfl,by decide+kernel,rfl,by decide+kernel,by decide+kernel},λZ Z Z Z Z Z=>Hd.p0 λZ=>rfl,{_,_,_,_,_,_,_,_,_,_,rfl},by decide+kernel,by decide+kernel,by decide+kernel,by decide+kernel,by decide+kernel,by decide+kernel},by decide+kernel,by decide+kernel,rfl,rfl,by decide+kernel}
abbrev Yy:dr:=mP::Q15
theorem wj:cx {Γ.at nj ig with hl:=ie} (bY mE Yy) (zu 16) (zu 16) jV (top 43):=ia λZ Z Z Z Z Z=>Hd.yD λZ Z=>rfl
abbrev Yz:dr:={zu 16,h9,zu 16,jV,top 43,ie,h9}::Yy
theorem pJ:cx {Γ.at nj ig with hl:=ig} (bY mE Yz) (zu 7) (zu 7) fM (top 44):=ia λZ Z Z Z Z Z=>Hd.p0 λZ=>rfl
abbrev Qh:dr:={zu 7,h9,zu 7,fM,top 44,ig,h9}::Yz
theorem PJ:cx {Γ.at nj ig with hl:=ie} (bY mE Qh) "law" "law" iu (top 45):=ia λZ Z Z Z Z Z=>Hd.p0 λZ=>rfl
def mC(P:Params):eZ (K P) 405 401:={Hd.co (zu 16) 709 261 2 400 (.ref 402) (.ref 403) 404 716,_,_,_,_,_,_,_,_,by kernel_rfl,rfl,rfl,rfl,rfl,rfl,rfl,rfl,rfl,by decide}
def CZ(P:Params):eZ (K P) 417 413:={Hd.co "law" 725 271 1 412 (.ref 414) (.ref 415) 416 742,_,_,_,_,_,_,_,_,by kernel_rfl,rfl,rfl,rfl,rfl,rfl,rfl,rfl,rfl,by decide}
def So(ns:List Int)(hl:ns.length<=63):∃s,mr (MJ nj) (bU (MJ nj) (iN Qh)) iu [.lst (ns.map .int)] []=.ok (.bl ie) s:=Sn ns hl
def VO(P:Params):AllK (K P) ts Γ nj:=
 Hd.ac (Hd.ent 399 398 m4) pK <| Hd.ac (Hd.ent 394 393 m4) ub <| Hd.ac (Hd.ent 389 388 m4) ua <| Hd.ac (Hd.ent 368 367 m4) qB <| Hd.ac (Hd.ent 361 360 m4) uc <| Hd.ac (Hd.ent 354 353 m4) t8 <| Hd.ac (Hd.ent 194 193 m1) uk <| Hd.ac (Hd.ent 211 210 m2) uh <| Hd.ac (Hd.ent 216 215 m2) qC <| Hd.ac (Hd.ent 159 158 m1) wk <| Hd.ac (Hd.ent 154 153 m1) BY <| Hd.ac (Hd.ent 187 186 m1) ug <| Hd.ac (Hd.ent 149 148 m1) yk <| Hd.ac (Hd.ent 180 179 m1) mx <| Hd.ac (Hd.ent 173 172 m1) pL <| Hd.ac (Hd.ent 166 165 m1) yl <| Hd.ac (Hd.ent 204 203 m2) lE <| Hd.ac (Hd.ent 199 198 m2) nh <| Hd.ac (Hd.ent 228 227 m3) uf <| Hd.ac (Hd.ent 221 220 m3) yj <| Hd.ac (Hd.ent 142 141 m1) wm <| Hd.ac (Hd.ent 375 374 m4) qA trivial
def bZ(P:Params):PySem.W.nsIn (K P) la "Atlas"=hI (hI (.ref 343)):=∅
def QZ(P:Params):nO (K P) ts (Γ.at nj ig) mE Qh:=
 Hd.a2 (Hd.Zg 411 410 m4) pJ <| Hd.a2 (Hd.Zh 406 405 401 m4 (mC P) ↑1 ↑1) wj <| Hd.a2 (Hd.Zg 382 381 m4) ud <| Hd.a2 (Hd.xg 343 326 325 m3 (bZ P)) pG <| Hd.a2 (Hd.xg 343 312 311 m3 (bZ P)) pI <| Hd.a2 (Hd.xg 343 333 332 m3 (bZ P)) pH <| Hd.a2 (Hd.xg 343 305 304 m3 (bZ P)) qu <| Hd.a2 (Hd.xg 343 277 276 m3 (bZ P)) qx <| Hd.a2 (Hd.xg 343 298 297 m3 (bZ P)) ng <| Hd.a2 (Hd.xg 343 291 290 m3 (bZ P)) qy <| Hd.a2 (Hd.xg 343 284 283 m3 (bZ P)) qr <| Hd.a2 (Hd.xg 343 270 269 m3 (bZ P)) lD <| Hd.a2 (Hd.xg 343 340 339 m3 (bZ P)) qz <| Hd.a2 (Hd.xg 343 242 241 m3 (bZ P)) lp <| Hd.a2 (Hd.xg 343 319 318 m3 (bZ P)) qp <| Hd.a2 (Hd.xg 343 263 262 m3 (bZ P)) t7 <| Hd.a2 (Hd.xg 343 256 255 m3 (bZ P)) qw <| Hd.a2 (Hd.xg 343 249 248 m3 (bZ P)) qq trivial
def n8(P:Params):wH (K P) mE "Atlas":={343,bZ P,{by kernel_rfl,by kernel_rfl,by kernel_rfl,by kernel_rfl},by kernel_rfl,by kernel_rfl,λf hf=>by
 have:f=(zu 22)\/f="done"\/f="undone":=by simpa [mE] using hf
 rcases this with rfl|rfl|rfl
 .show PySem.W.findIn (K P) (.ref 343) (zu 22)=hI h9;kernel_rfl
 .show PySem.W.findIn (K P) (.ref 343) "done"=hI h9;kernel_rfl
 .show PySem.W.findIn (K P) (.ref 343) "undone"=hI h9;kernel_rfl}
def Sd(P:Params):∀c f,mE.contains (c,f)=ie->wH (K P) mE c:=λc f h=>by
 have:c="Atlas":=by
  simp [mE] at h
  first|exact h.1|(rcases h with h|h|h<;>simp [h])
 rcases this with rfl
 .exact n8 P
def qe(P:Params):∀r∈Qh,∀c,r.c=hI c->wH (K P) mE c:=λr h c e=>by
 have:(Qh.all λr=>match r.c with|some c=>[("Atlas":Str)].contains c|none=>ie)=ie:=↑1
 have:=d0.1 this r h
 rw [e] at this;simp! [et,er,List.not_mem_nil,or_false] at this;rcases this with rfl
 .exact n8 P
structure QJ(K:zz8)(d:Str)(D:i1):Prop where
 e:PySem.W.nsIn K la d=hI (hI (.ref D))
 xc:nR K D
 vt:PySem.W.kitOne K (.ref D) (.type (zu 0))=hI ie
 ex:PySem.W.excIn K D Dk (zu 33)=ie
def V0{K:zz8}{d:Str}{D:i1}(e:PySem.W.nsIn K la d=hI (hI (.ref D)):=by kernel_rfl)(i:PySem.W.isClsIn K D=ie:=by kernel_rfl)(v:PySem.W.subIn K (.ref D) (.type (zu 0))=hI ie:=by kernel_rfl)(ga:PySem.W.findIn K (.ref D) "__getattribute__"=hI (hI (.builtin (zu 1))):=by kernel_rfl)(hk:PySem.W.findIn K (.ref D) "__getattr__"=hI h9:=by kernel_rfl)
 (cl:PySem.W.findIn K (.ref D) "__class__"=hI (hI (.builtin (zu 26))):=by kernel_rfl) (mo:PySem.W.mroIn K D (.type "object")=hI ie:=by kernel_rfl) (mb:PySem.W.mroIn K D (.type (zu 32))=hI ie:=by kernel_rfl) (ex:PySem.W.excIn K D Dk (zu 33)=ie:=by kernel_rfl):QJ K d D:=
 {e,⟨ga,hk,cl,mo,mb,i⟩,Ey ↑1 v,ex}
abbrev adL:List (Str×Nat):=[(zu 2,24),("NoBack",133),("NoFit",121),("NoFloor",97),("NoName",109),("NoSign",61),("NoSize",73),("NoSpot",37),("NoText",85),("NoWay",49)]
abbrev ad(c:Str):Nat:=(adL.lookup c).getD 0
noncomputable abbrev Us:List Str:=["NoBack","NoFit","NoFloor","NoName","NoSign","NoSpot"]
def Xo(P:Params)(X:(K P).In h)(G:h.Ns la mg)(ob:List Ob):mU (K P) mg Γ {K P,mg,Us,ts,ob}:=by
 have j:∀{x:Str} {u:iv},PySem.W.nsIn (K P) la x=hI (hI u)->mg x=hI u:=λa=>PySem.W.mg_of X G a;have f:∀{x:Str},PySem.W.nsIn (K P) la x=hI h9->mg x=h9:=λa=>PySem.W.mg_none_of X G a
 have e:∀{c:Str},c∈Γ.cs->PySem.W.nsIn (K P) la c=hI (hI (.ref (ad c))):=λh=>by simp! [Γ,er,List.not_mem_nil,or_false] at h;rcases h with rfl|rfl|rfl|rfl|rfl|rfl|rfl|rfl|rfl|rfl<;>kernel_rfl
 have x:∀{c:Str},c∈Us->QJ (K P) c (ad c):=λh=>by simp! [Us,er,List.not_mem_nil,or_false] at h;rcases h with rfl|rfl|rfl|rfl|rfl|rfl<;>exact V0
 refine{rfl,rfl,λq m=>?_,λg o=>?_,by decide+kernel,λc b=>?_,λd hd D k=>?_,λc b=>?_,λc b=>?_,λZ c D b k T p=>?_,λZ=>{4,{.type "module",hI builtinsNs,.plain,#[]},j ∅,by decide,by decide,by kernel_rfl,rfl,rfl,rfl}}
 .simp! [Γ,er,List.not_mem_nil,or_false] at m;rcases m with rfl|rfl|rfl|rfl
  .exact{.str (zu 20) 353,.str (zu 20),j ∅,{_,rfl},λG=>.s}
  .exact{.int 12 355,.int 12,j ∅,{_,rfl},λG=>.i}
  .exact{.str (zu 10) 454,.str (zu 10),j ∅,{_,rfl},λG=>.s}
  .exact{.int 6 456,.int 6,j ∅,{_,rfl},λG=>.i}
 .simp! [Γ,er,List.not_mem_nil,or_false] at o;rcases o with rfl|rfl|rfl|rfl|rfl|rfl|rfl|rfl|rfl|rfl|rfl|rfl|rfl|rfl<;>exact f ∅
 .exact{_,j (e b)}
 .cases(j (x hd).e).symm.trans k;refine{(x hd).xc,λc b C hC=>?_,(x hd).vt}
  cases(j (e b)).symm.trans hC;simp! [Γ,Us,er,List.not_mem_nil,or_false] at hd b;rcases hd with rfl|rfl|rfl|rfl|rfl|rfl<;>rcases b with rfl|rfl|rfl|rfl|rfl|rfl|rfl|rfl|rfl|rfl<;>exact Ew ∅ ∅ ∅ ↑1
 .simp! [Γ,et] at b;exact b
 .simp! [Γ,et] at b;exact{_,j (x b).e,(x b).ex}
 .cases(j (e (c:=(zu 2)) (.head _))).symm.trans p;cases(j (x b).e).symm.trans k;simp! [Us,er,List.not_mem_nil,or_false] at b;rcases b with rfl|rfl|rfl|rfl|rfl|rfl<;>exact Dm ∅ ∅ ∅ ∅
def hY{P:Params}(X:(K2 P).In h):(K P).In h/\∀p∈ts.map (·.1),h.get? p=hI (PySem.W.tabObj #[]):={λb o e=>X b o (Hd.EF e),λp a=>by
 simp! [ts,a8,List.map_nil,er,List.not_mem_nil,or_false] at a;rcases a with rfl|rfl
 .exact X _ _ ∅
 .exact X _ _ ∅
}
def hC(P:Params):∀p∈ts.map (·.1),(∃c,eZ (K P) c p)/\(K P).lookup p=h9:=λp a=>by
 simp! [ts,a8,List.map_nil,er,List.not_mem_nil,or_false] at a;rcases a with rfl|rfl
 .exact{{_,mC P},by kernel_rfl}
 .exact{{_,CZ P},by kernel_rfl}
abbrev keep:List Nat:=[1,2,3,4,5,6,7,8,9,10,12,13,14,15,16,17,18,19,20,21,22,24,25,26,27,29,30,31,32,33,35,36,37,38,39,40,41,42,43,44,45]
def ka:∀P,as=(K2 P).map (·.1):=λZ=>∅
def left:PySem.W.LeftO lw.row.prog (PySem.W.view lw.row.prog keep) [] (λs=>PySem.W.xlAt (PySem.W.view lw.row.prog keep) [] s&&PySem.W.recOk lw.row.toRowW.records s) (PySem.W.kHook K2 as ka).obs (PySem.W.kHook K2 as ka).val 7416:=by refine Hd.Jd (T₀:=λP=>Hd.treeOf (PySem.W.boot_heap P).objs.toList) (m₀:=11) (life:={}) (ann:=hI (.ref 6)) (M:=7366) ∅ ∅ (λs=>∅) Hd.Rm Hd.Rn ∅ λw os=>?_;rw [PySem.W.Fast.te10156331382660048174,PySem.W.Fast.te11892475500146522536,PySem.W.Fast.te14364793385576792824,PySem.W.Fast.te6613529449190102663,PySem.W.Fast.te4187177175401517315,PySem.W.Fast.te5923862056798008813];kernel_rfl
end K74
open PySem.W PyProof.Rows
set_option maxRecDepth 100000 in
set_option maxHeartbeats 0 in
theorem PySem.Challenge.cw_cellways_k74_whole_atlas_twins_holds : PySem.Challenge.rw_cellways_k74_whole_atlas_twins.Holds := by
 refine Hd.holds (d:={"law",L2.bR (K74.top 45),L2.bf (K74.top 45),L2.ax (K74.top 45),Hd.V3 (K74.top 45)}) ∅ K74.ka K74.left ∅ ∅ ∅ ∅ {rfl,rfl,rfl,rfl,rfl,by decide+kernel} ?hw ?a
 case hw=>w_witness2
 case a=>exact Ci.walk2 (l:=PySem.Challenge.rw_cellways_k74_whole_atlas_twins) K74.nj K74.Qh K74.Γ K74.mE "_law_script" K74.iu ["NoBack","NoFit","NoFloor","NoName","NoSign","NoSpot"] K74.ts (K74.top 45) rfl rfl rfl rfl {λZ=>rfl,by decide,by decide} (λw h Y=>K74.hY (PySem.W.kIn_of Y)) (λw=>K74.hC w.params) (λw mg h b G=>K74.Xo _ b G) ie (λw=>Hd.Zh 418 417 413 K74.m4 (K74.CZ w.params) ↑1 ↑1) K74.PJ (List.cons_ne_nil _ _) (λw=>K74.VO _) (λw=>K74.QZ _) (λw=>K74.Sd _) (λw=>K74.qe _) K74.So
#print axioms PySem.Challenge.cw_cellways_k74_whole_atlas_twins_holds
