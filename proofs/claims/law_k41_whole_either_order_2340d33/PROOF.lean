import PyProof.Rows.All
import Wide.All
import OpenK.AllK
import Wide.FinOn
import Lean
import PyProof.EqAt
import PyProof.EqKinds
import PyProof.TupleCall
import PySem.Challenge.RW_cellways_k41_whole_either_order
set_option Elab.async false
set_option tactic.hygienic false
set_option linter.all false
set_option genSizeOf false
set_option genSizeOfSpec false
set_option bootstrap.genMatcherCode false
set_option compiler.extract_closed false
set_option compiler.reuse false
set_option maxRecDepth 100000
abbrev zz8:=PySem.W.Frag
local macro_rules | `(zz9 $x) => `(($x).heap.objs.size)
local macro_rules | `(tactic| simp! [$x,*] $[$l:location]?) => `(tactic| simp only [$x,*] $[$l]?)
theorem zzf:¬false=true:=Bool.false_ne_true
theorem zza(a b:Bool):((a&&b)=true)=(a=true/\b=true):=Bool.and_eq_true a b
theorem zzg.{u}{a:Type u}{l:List a}{i:Nat}(h:i<l.length):l[i]?=some l[i]:=List.getElem?_eq_getElem h
theorem zzl.{u,v}{a:Type u}{b:Type v}{l:List a}(f:a->b):(l.map f).length=l.length:=List.length_map f
def zzN:=@decide_eq_true_eq
def zzY:=@of_decide_eq_true
def zzh:=@decide_eq_true
def zzq:=@Option.some.inj
def zzy:=@beq_iff_eq
def zz0:=@decide_eq_false
open PySem renaming wpAny_bind→ak,wpAny_pure→bc,Value→hV,Shared→hW,Addr→h9,Expr→ia,wpAny→ie,Program→ig,World→ij,model→ik,Around→il,Scope→iv,Heap→i1,sizeLine→i2,Stmt→je,mainGlobals→jf,Builtin→jj,Arguments→jm,cellsFrom→kd
open PySem.Heap renaming get?_push_of_some→ar,lt_size→c8,get?_push_size→en
open List renaming size_toArray→a0,mem_of_getElem?→a7,map_cons→a9,getElem?_eq_some_iff→bV,mem_cons_of_mem→b0,getD_eq_getElem?_getD→cP,length_cons→cS,length_append→c7,mem_cons_self→dB,getElem?_map→dV,mem_append_right→d0,getElem?_set_ne→ea,all_eq_true→ed,mem_append_left→eu,mem_singleton→eM,any_eq_true→eQ,mem_cons→e9,contains_iff_mem→fb,getElem?_set_self→fi,getElem?_append_left→fP,getElem?_append_right→fS,mem_map→gI,mem_filterMap→gS,filter_cons→g6,lookup_cons→hB,append_nil→hD,replicate→kq
open Nat renaming le_refl→a8,le_trans→ee,lt_of_le_of_lt→ef,lt_of_lt_of_le→el,ne_of_lt→et
open Option renaming map_eq_some_iff→b4,bind_eq_some_iff→eo,isSome_iff_exists→fx,some→hG,none→hI
open Array renaming length_toList→ey
open Bool renaming false_eq_true→eH,or_eq_true→gd,true→hQ,false→hU
open False renaming elim→e6
open PySem.Heap.SameBut renaming update→gq
open Int renaming eq_ofNat_of_zero_le→gz,toNat_natCast→g7
open PySem.Around renaming under_plainId→hF
open And renaming intro→kn
abbrev ku:=PySem.Value->PySem.Shared->Prop
abbrev kv:=List (PySem.Addr×PySem.Obj)
abbrev kB:=List (List Int)
abbrev k6:=List Int->List Int->Int->Prop
local macro_rules|`(zx6 $x)=>`(by simpa using $x)
def zy0:Nat->Lean.Syntax->Lean.MacroM (Lean.TSyntax `rcasesPat)
 |n+1,t=>do match t with
  |`(($a,$b,*))=>let q<-(#[a]++b.getElems).mapM fun x=>do`(Lean.Parser.Tactic.rcasesPatLo|$(<-zy0 n x):rcasesPat)
                 `(rcasesPat|⟨$q,*⟩)
  |`($x:ident)=>`(rcasesPat|$x:ident)
  |`(_)=>`(rcasesPat|_)
  |_=>Lean.Macro.throwUnsupported
 |_,_=>Lean.Macro.throwUnsupported
local macro_rules|`(tactic|let $p:term:=$e)=>do let q<-zy0 19 p;let k:=Lean.mkIdent (.mkSimple s!"K{hash (toString p.raw)%997}");if q.raw[1].getNumArgs<4 then`(tactic|obtain $q:rcasesPat:=$e)else`(tactic|first|(refine Classical.byContradiction fun $k=>?_;obtain $q:rcasesPat:=$e;refine $k ?_;clear $k)|obtain $q:rcasesPat:=$e)
local macro_rules(kind:=«term{_}»)|`({$x,*})=>`(⟨$x,*⟩)
open PySem
variable{us:List hV}{x g f m qual z:Str}{u:hV}{a:h9}{o:Obj}{P prog:ig}{w:ij}{h base:i1}{t' j k kk:Nat}{e d body:ia}{N:List Str}{A:il}{pos np:Pos}{c r cl:Int}{mg:Str->Option hV}{st:je}{idx ix:List Nat}{rs:Nat->List Str}
local macro_rules|`(zx7 $x $y*)=>`(PySem.wpAny (PySem.model ($x).prog ($x).w) ($x).A $y*)
local macro_rules|`(abbrev $i:declId $s:optDeclSig:=$v)=>`(noncomputable def $i $s:optDeclSig:=$v)|`(abbrev $i:declId $s:optDeclSig $v:declValEqns)=>`(noncomputable def $i $s:optDeclSig $v:declValEqns)
set_option hygiene false
local macro_rules|`(zv0 $x)=>`(dS (dQ P w) P w K mg base N qual scope f cd A outer s0 H0 $x)
local macro_rules|`(zv1 $x)=>`(er Γ F W N sc k E $x)
local macro_rules|`(zv2 $x)=>`(Inv X ae σ H $x)
local macro_rules|`(zv3 $x)=>`(eh Γ F W N sc k $x)
local macro_rules|`(zv4 $x)=>`(ox Γ Δ F1 F2 W N sc k E $x)
set_option hygiene true
open PySem
set_option hygiene false
local macro_rules|`(zx2 $a $b $c $d)=>`(⟨$a,$a,$b,K41.top $c,$d⟩)
local macro_rules|`(zx5 $a $n $b $c $d $e $f)=>do let k:=(⟨e.raw⟩:Lean.NumLit).getNat;`(($a,Hd.co $n $b $c $d $e (.ref $(Lean.quote (k+2))) (.ref $(Lean.quote (k+3))) $(Lean.quote (k+4)) $f))|`(zx3 $a $n $c $m)=>do let k:=(⟨a.raw⟩:Lean.NumLit).getNat;`(($a,Hd.fo $n (K41.top $c) $m $(Lean.quote (k-1))))
set_option hygiene true
local macro_rules|`(zu $n)=>return Lean.Syntax.mkStrLit (("Keeper|_law_pick|enumerate|/claim/cut.py|<lambda>|need_open|_law_spots|is_on_floor|open_spots_beside|has_open_corners|dict_keyiterator|_law_told|need_on_floor|__init__|reached|_law_walker|#0123456789|step_cost|open_spots|ValueError.__new__|distance|_law_floor|ValueError|FloorError|walker|__debug__|Keeper.cut_off|is_open|cut_off|with_sign|spread_to|Keeper.distance|Keeper.__init__|steps_from|are_beside|__name__|need_sign|height_at|Keeper.found|__static_attributes__|is_spot|steps_to|BaseException|_law_cell|spread@steps_to|is_whole|tuple_iterator".splitOn "|")[(⟨n.raw⟩:Lean.NumLit).getNat]!)
namespace L2
open PySem.Spec PyProof.Rows
noncomputable abbrev Key:=Sum Int Str
abbrev qf:Key->hV->Bool
 |.inl k,v=>hV.isInt k v|.inr x,v=>hV.isStrOf x v
abbrev Sz(w:ij):Key->Int
 |.inl k=>hashInt k|.inr x=>hashStr w x
theorem cb:∀{k:Key} {v:hV},qf k v=hQ->(∃i t,k=Sum.inl i/\v=hV.int i t)\/(∃x t,k=Sum.inr x/\v=hV.str x t)
 |.inl i,v,h=>by let(t,e):=hV.isInt_shape (k:=i) (v:=v) h;exact .inl ⟨i,t,rfl,e⟩|.inr x,v,h=>by let(t,e):=hV.isStrOf_shape (x:=x) (v:=v) h;exact .inr ⟨x,t,rfl,e⟩
def zV(i:Int)(t:Tok):qf (.inl i) (.int i t)=hQ:=by simp [qf,hV.isInt]
def zW(x:Str)(t:Tok):qf (.inr x) (.str x t)=hQ:=by simp [qf,hV.isStrOf]
def K7(a b:Int):decide ((Sum.inl a:Key)=Sum.inl b)=(a==b):=by
 by_cases e:a=b
 .subst e;simp
 .have h:¬(Sum.inl a:Key)=Sum.inl b:=λq=>e (Sum.inl.inj q);rw [zz0 h];exact(beq_eq_false_iff_ne.mpr e).symm
def La(a b:Str):decide ((Sum.inr a:Key)=Sum.inr b)=decide (a=b):=by
 by_cases e:a=b
 .subst e;simp
 .have h:¬(Sum.inr a:Key)=Sum.inr b:=λq=>e (Sum.inr.inj q);rw [zz0 h,zz0 e]
def K8(a:Int)(b:Str):decide ((Sum.inl a:Key)=Sum.inr b)=hU:=zz0 nofun
def K9(a:Str)(b:Int):decide ((Sum.inr a:Key)=Sum.inl b)=hU:=zz0 nofun
noncomputable def cG(prog:ig)(w:ij):PySem.KeyKind prog w Key where
 is:=qf
 hash:=Sz w
 inj:=λv a b f d=>by
  rcases cb f with⟨i,t,rfl,rfl⟩|⟨x,t,rfl,rfl⟩
  .rcases cb d with⟨j,u,rfl,e⟩|⟨y,u,rfl,e⟩
   .injection e with e1 _;rw [e1]
   .exact nomatch e
  .rcases cb d with⟨j,u,rfl,e⟩|⟨y,u,rfl,e⟩
   .exact nomatch e
   .injection e with e1 _;rw [e1]
 byValue:=λk v h=>by rcases cb h with⟨i,t,rfl,rfl⟩|⟨x,t,rfl,rfl⟩<;>rfl
 pyHash:=λc h=>by
  rcases cb c with⟨i,t,rfl,rfl⟩|⟨x,t,rfl,rfl⟩
  .exact wpAny_pyHash_int h
  .exact wpAny_pyHash_str h
 eqBool:=λg c h=>by
  rcases cb g with⟨i,t,rfl,rfl⟩|⟨x,t,rfl,rfl⟩
  .rcases cb c with⟨j,u,rfl,rfl⟩|⟨y,u,rfl,rfl⟩
   .rw [K7] at h;exact wpAny_eqBool_int h
   .rw [K8] at h;exact SeqAt.EqAt.int_str i t y u _ _ _ _ h
  .rcases cb c with⟨j,u,rfl,rfl⟩|⟨y,u,rfl,rfl⟩
   .rw [K9] at h;exact SeqAt.EqAt.str_int x t j u _ _ _ _ h
   .rw [La] at h;exact wpAny_eqBool_str h
 «strs»:=λk x t v h=>by
  rcases cb h with⟨i,u,rfl,e⟩|⟨y,u,rfl,e⟩
  .exact nomatch e
  .injection e with e1 _
   subst e1;cases v<;>rfl
def uB(prog:ig)(w:ij)(i:Int)(t:Tok):(cG prog w).is (.inl i) (.int i t)=hQ:=zV i t
def uC(prog:ig)(w:ij)(x:Str)(t:Tok):(cG prog w).is (.inr x) (.str x t)=hQ:=zW x t
inductive V where
 |aL|bl (b:Bool)|int (i:Int)|str (x:Str)|Qf (b:Array UInt8)|Ql (b:UInt64)|ref (a:h9)|ty (n:String)
 deriving DecidableEq
variable{v:V}{vs:List V}
def RelV:V->hV->Prop
 |.aL,u=>u=hV.none|.bl b,u=>u=hV.bool b|.int i,u=>∃t,u=hV.int i t|.str x,u=>∃t,u=hV.str x t|.Qf b,u=>∃t,u=hV.bytes b t|.Ql b,u=>∃t,u=hV.float b t|.ref a,u=>u=hV.ref a|.ty n,u=>u=hV.type n
noncomputable abbrev Vals:List V->List hV->Prop:=Paired RelV
def Vals.length{xs:List V}(r:Vals xs us):xs.length=us.length:=Paired.length r
theorem Vals.get:∀{xs:List V} {us:List hV} {i:Nat} {x:V},Vals xs us->xs[i]?=hG x->∃u,us[i]?=hG u/\RelV x u
 |_,_,_,_,.nil,e=>by simp at e|_,_,0,_,.cons r _,e=>by simp at e;subst e;exact{_,rfl,r}|_,_,i+1,x,.cons _ t,e=>by let(u,a,b):=Vals.get (i:=i) (x:=x) t (zx6 e);exact{u,zx6 a,b}
theorem Vals.set{x:V}(r:RelV x u):∀{xs:List V} {us:List hV} (i:Nat),Vals xs us->Vals (xs.set i x) (us.set i u)
 |_,_,_,.nil=>.nil|_,_,0,.cons _ t=>.cons r t|_,_,i+1,.cons q t=>.cons q (Vals.set r i t)
def Vals.append{xs ys:List V}{ws:List hV}(r:Vals xs us)(s:Vals ys ws):Vals (xs++ys) (us++ws):=by
 induction r with
 |nil=>exact s|cons r _ a=>exact .cons r a
theorem Vals.take:∀{xs:List V} {us:List hV} (n:Nat),Vals xs us->Vals (xs.take n) (us.take n)
 |_,_,0,_=>.nil|_,_,_+1,.nil=>.nil|_,_,n+1,.cons r t=>.cons r (Vals.take n t)
theorem Vals.drop:∀{xs:List V} {us:List hV} (n:Nat),Vals xs us->Vals (xs.drop n) (us.drop n)
 |_,_,0,r=>r|_,_,_+1,.nil=>.nil|_,_,n+1,.cons _ t=>Vals.drop n t
def gX:Option V->Option hV->Prop
 |some v,hG u=>RelV v u|none,hI=>True|_,_=>False
def KV{a:Type}:List (a×V)->List (a×hV)->Prop:=Paired λ(p:a×V) (q:a×hV)=>p.1=q.1/\RelV p.2 q.2
abbrev kV:Key->V
 |.inl i=>.int i|.inr x=>.str x
inductive HO where
 |lst (xs:List V)
 |tup (xs:List V)
 |dK (aw:List (Key×V))|dT (aw:List (List Key×V))
 |set (S:Int->Bool) (n:Nat)
 |ins (C dx:h9) (fs:List (Str×V))
 |own (x:h9)
 |xd (fs:List (Str×V))
 |met (f x:h9)
 |mv (lo hi:Int)
 |bw (o:Obj) (u:HO)
 |hJ (ps:Array hV)
 |ext (φ:i1->Prop)
noncomputable abbrev Hp:=h9->Option HO
variable{H H' G H0:Hp}
abbrev upd(H:Hp)(a:h9)(o:HO):Hp:=λb=>if b=a then hG o else H b
def aq{o:HO}:upd H a o a=hG o:=by unfold upd;rw [if_pos rfl]
def af{b:h9}{o:HO}(h:b≠a):upd H a o b=H b:=by unfold upd;rw [if_neg h]
def kc{b:h9}{o u:HO}(h:H a=hG o)(h':H b=hG u)(d:o≠u):a≠b:=by intro e;subst e;rw [h] at h';exact d (zzq h')
def dX{b:h9}{o:HO}(h:H a=hG o)(h':H b=hI):a≠b:=by intro e;subst e;rw [h] at h';cases h'
section
variable(P:ig)(w:ij)
def bZ(H:Hp)(h:i1)(a:h9):HO->Prop
 |.lst xs=>xs.length<=i2/\∃(c:List hV) (n:Nat),Vals xs c/\h.get? a=hG {cls:=.type "list",data:=.seq c.toArray n}|.tup xs=>xs.length<=i2/\∃c:List hV,Vals xs c/\IsTup h a c.toArray|.dK d=>d.length<=i2/\(a==sysModules)=hU/\∃vs,KV d vs/\h.DictOf (cG P w) a vs|.dT d=>d.length<=i2/\(a==sysModules)=hU/\∃xs:List (List Key×h9×hV),
  Paired (λ(p:List Key×V) (q:List Key×h9×hV)=>p.1=q.1/\H q.2.1=hG (.tup (p.1.map kV))/\RelV p.2 q.2.2) d xs/\
  ∃o g k,h.get? a=hG o/\o.ExactDict/\o.data=.dict g k/\g.toList=xs.map (entryOfKey (tupleKind (cG P w)))/\(xs.map (·.1)).Nodup
 |.set S n=>h.SetOf (intKind P w) a S n|.ins C dx fs=>H dx=hG (.own a)/\fs.length<=1000/\dx≠a/\h.get? a=hG (PySem.W.instObj C dx)/\
  ∃b,h.Ns1 dx b/\(∀f,gX (fs.lookup f) (b f))/\PySem.Within b (fs.map (·.1))
 |.own _=>∃o,h.get? a=hG o|.xd fs=>∃b,h.Ns1 a b/\∀f,gX (fs.lookup f) (b f)|.mv lo m=>∃t u v,h.get? a=hG {cls:=.type "range",data:=.fields #[.int lo t,.int m u,.int 1 v]}|.bw o u=>h.get? a=hG o/\bZ H h a u|.hJ ps=>h.get? a=hG {cls:=.none,data:=.fields ps}|.met f x=>h.get? a=hG (PySem.W.methodObj (.ref f) (.ref x))|.ext e=>e h/\(∃o,h.get? a=hG o)/\∀i j:i1,e i->(∀o,i.get? a=hG o->j.get? a=hG o)->e j
def eY(H:Hp)(h:i1):Prop:=∀a o,H a=hG o->bZ P w H h a o
end
section
variable{h':i1}{o:HO}
def bZ.lt(x:bZ P w H h a o):a<h.objs.size:=by
 cases o with
 |lst xs=>let(_,_,_,_,e):=x;exact c8 e|tup xs=>let(_,_,_,p):=x;exact p.lt|dK b=>let(_,_,_,_,o,_,_,e,_):=x;exact c8 e|dT b=>let(_,_,_,_,o,_,_,e,_):=x;exact c8 e|set S n=>let(o,_,_,_,e,_):=x;exact c8 e|ins C dx fs=>let(_,_,_,e,_):=x;exact c8 e|own y=>let(_,e):=x;exact c8 e|xd fs=>let(_,(_,_,_,e,_),_):=x;exact c8 e|mv lo c=>let(_,_,_,e):=x;exact c8 e|bw ob u=>let(e,_):=x;exact c8 e|hJ d=>exact c8 (show h.get? a=hG _ from x)|met f y=>exact c8 (show h.get? a=hG _ from x)|ext g=>let(_,(_,e),_):=x;exact c8 e
def Paired.OL{c d:Type}{F G:c->d->Prop}{l₁:List c}{l₂:List d}(r:Paired F l₁ l₂)(f:∀a b,F a b->G a b):Paired G l₁ l₂:=by
 induction r with
 |nil=>exact .nil|cons r _ e=>exact .cons (f _ _ r) e
def bZ.fU(x:bZ P w H h a o)(k:∀b u,(b=a\/H b=hG (.own a))->h.get? b=hG u->h'.get? b=hG u)
 (B:∀b,H b=hG (.own a)->H' b=hG (.own a)) (D:∀b xs,H b=hG (.tup xs)->H' b=hG (.tup xs)):bZ P w H' h' a o:=by
 induction o with
 |lst xs=>let(z,j,n,r,e):=x;exact{z,j,n,r,k _ _ (.inl rfl) e}|tup xs=>let(z,j,r,ob,e,c):=x;exact{z,j,r,ob,k _ _ (.inl rfl) e,c}|dK E=>let(z,y,F,r,ob,g,i,e,c):=x;exact{z,y,F,r,ob,g,i,k _ _ (.inl rfl) e,c}|dT E=>let(z,y,xs,r,ob,g,i,e,c):=x;exact{z,y,xs,Paired.OL r λp q z=>{z.1,D _ _ z.2.1,z.2.2},ob,g,i,k _ _ (.inl rfl) e,c}|set S n=>let(ob,g,i,t,e,c):=x;exact{ob,g,i,t,k _ _ (.inl rfl) e,c}|ins C dx fs=>let(d,z,ne,e,m,(s,g,i,G,c),r):=x;exact{B _ d,z,ne,k _ _ (.inl rfl) e,m,{s,g,i,k _ _ (.inr d) G,c},r}|own y=>let(ob,e):=x;exact{ob,k _ _ (.inl rfl) e}|xd fs=>let(m,(s,g,i,e,c),r):=x;exact{m,{s,g,i,k _ _ (.inl rfl) e,c},r}|mv lo K=>let(t,u,v,e):=x;exact{t,u,v,k _ _ (.inl rfl) e}|bw ob u I=>let(e,q):=x;exact{k _ _ (.inl rfl) e,I q}|hJ A=>have e:h.get? a=hG {cls:=.none,data:=.fields A}:=x;show h'.get? a=hG {cls:=.none,data:=.fields A};exact k a _ (.inl rfl) e|met f y=>have e:h.get? a=hG (PySem.W.methodObj (.ref f) (.ref y)):=x;show h'.get? a=hG (PySem.W.methodObj (.ref f) (.ref y));exact k a _ (.inl rfl) e|ext L=>let(p,(o,e),st):=x;exact{st _ _ p λo q=>k _ _ (.inl rfl) q,{o,k _ _ (.inl rfl) e},st}
def eY.lt(x:eY P w H h)(e:H a=hG o):a<h.objs.size:=(x a o e).lt
def eY.fresh(x:eY P w H h)(e:h.objs.size<=a):H a=hI:=by
 cases q:H a with
 |none=>rfl|some u=>exact absurd (el (x.lt q) e) (Nat.lt_irrefl _)
def eY.kept(x:eY P w H h)(k:∀b u,h.get? b=hG u->h'.get? b=hG u):eY P w H h':=λa o e=>(x a o e).fU (λb u Z q=>k b u q) (λZ q=>q) λZ Z q=>q
theorem eY.laid(x:eY P w H h)(k:∀b u,h.get? b=hG u->h'.get? b=hG u)(g:h.objs.size<=a)(new:bZ P w (upd H a o) h' a o):eY P w (upd H a o) h':=λb u e=>by
 have d:=x.fresh g;by_cases f:b=a
 .subst f;rw [aq] at e;cases e;exact new
 .rw [af f] at e;exact(x b u e).fU (λc v Z q=>k c v q) (λc q=>by rw [af (dX q d)];exact q) λc xs q=>by rw [af (dX q d)];exact q
end
def Rd(H:Hp)(a:h9)(u:HO):Prop:=H a=hG u\/∃o,H a=hG (.bw o u)
def Rd.ok{u:HO}(r:Rd H a u)(x:eY P w H h):bZ P w H h a u:=by
 rcases r with r|⟨o,r⟩
 .exact x a u r
 .let(_,q):=x a _ r;exact q
def Nm:Option HO->Prop
 |some (.lst _)=>True|some (.dK _)=>True|some (.dT _)=>True|some (.set _ _)=>True|some (.ins _ _ _)=>True|some (.ext _)=>True|_=>False
section
variable{h':i1}{x e:h9}{o':HO}
def eY.write(ok:eY P w H h)(d:Nm (H x))(he:e=x\/H e=hG (.own x))(k:∀b u,b≠e->h.get? b=hG u->h'.get? b=hG u)(m:∃u,h'.get? e=hG u)
 (new:bZ P w (upd H x o') h' x o'):eY P w (upd H x o') h':=λb u q=>by
 have i:∀c y,H c=hG (.own y)->c≠x:=λc y r z=>by subst z;rw [r] at d;exact d
 have o:∀c xs,H c=hG (.tup xs)->c≠x:=λc xs r z=>by subst z;rw [r] at d;exact d
 by_cases f:b=x
 .subst f;rw [aq] at q;cases q;exact new
 .rw [af f] at q;by_cases a:b=e
  .have j:H b=hG (.own x):=by
    rcases he with z|z
    .exact absurd (a.trans z) f
    .rw [a];exact z
   rw [q] at j;cases j;let(v,p):=m;exact{v,by rw [a];exact p}
  .refine(ok b u q).fU (λc v g r=>k c v ?_ r) (λc r=>by rw [af (i c b r)];exact r) λc xs r=>by rw [af (o c xs r)];exact r
   rcases g with rfl|g
   .exact a
   .rintro rfl
    rcases he with z|z
    .exact i c b g z
    .rw [g] at z;cases z;exact f rfl
end
structure Un(fs ex:List h9)(H H':Hp)(h h':i1):Prop where
 keep:∀b o,h.get? b=hG o->H b=hI->b∉fs->b∉ex->h'.get? b=hG o
 slot:∀b o,h.get? b=hG o->H b=hI->b∈fs->b∉ex->∃sl,h'.get? b=hG {o with slots:=sl}
 free:∀b o,h.get? b=hG o->H b=hI->b∉ex->H' b=hI
 there:∀b o,h.get? b=hG o->b∉ex->∃o',h'.get? b=hG o'
 iY:∀b xs,H b=hG (.tup xs)->H' b=hG (.tup xs)
 gC:∀b o u,H b=hG (.bw o u)->H' b=hG (.bw o u)
 iI:∀b ps,H b=hG (.hJ ps)->∃more,H' b=hG (.hJ (ps++more))
section
variable{fs ex:List h9}{H1:Hp}{h1 h':i1}{x e:h9}{o:HO}
def Un.any(u:Un fs ex H H1 h h1){b:h9}{ob:Obj}(q:h.get? b=hG ob)(n:H b=hI)(c:b∉ex):∃f,h1.get? b=hG {ob with slots:=f}:=by
 by_cases d:b∈fs
 .exact u.slot b ob q n d c
 .exact{ob.slots,u.keep b ob q n d c}
def Un.kept(k:∀b u,h.get? b=hG u->h'.get? b=hG u):Un fs ex H H h h':=
 {λb ob q Z Z Z=>k b ob q,λb ob q Z Z Z=>{ob.slots,k b ob q},λZ Z Z n Z=>n,λb ob q Z=>{ob,k b ob q},λZ Z q=>q,λZ Z Z q=>q,λZ c q=>{#[],by rw [q];simp}}
def Un.refl:Un fs ex H H h h:=Un.kept λZ Z q=>q
theorem Un.laid(k:∀b u,h.get? b=hG u->h'.get? b=hG u)(d:h.objs.size<=a)(c:H a=hI):Un fs ex H (upd H a o) h h' where
 keep:=λb u q Z Z Z=>k b u q
 slot:=λb u q Z Z Z=>{u.slots,k b u q}
 free:=λb u q n Z=>by rw [af (et (el (c8 q) d))];exact n
 there:=λb u q Z=>{u,k b u q}
 iY:=λb xs q=>by rw [af (dX q c)];exact q
 gC:=λb u xs q=>by rw [af (dX q c)];exact q
 iI:=λb f q=>{#[],by rw [af (dX q c),q];simp}
def Un.write(d:Nm (H x))(he:e=x\/H e=hG (.own x))(k:∀b u,b≠e->h.get? b=hG u->h'.get? b=hG u)(i:∃u,h'.get? e=hG u):Un fs ex H (upd H x o) h h':=by
 have f:∀b,H b=hI->b≠x:=λb n z=>by subst z;rw [n] at d;exact d
 have g:∀b,H b=hI->b≠e:=λb n z=>by
  subst z;rcases he with r|r
  .exact f b n r
  .rw [n] at r;cases r
 have hm:∀b u,H b=hG u->¬Nm (hG u)->b≠x:=λb u q j z=>by subst z;rw [q] at d;exact j d
 refine{λb u q n Z Z=>k b u (g b n) q,λb u q n Z Z=>{u.slots,k b u (g b n) q},λb u q n Z=>by rw [af (f b n)];exact n,λb u q Z=>?_,
  λb xs q=>by rw [af (hm b _ q λz=>z)];exact q,λb u xs q=>by rw [af (hm b _ q λz=>z)];exact q,λb m q=>{#[],by rw [af (hm b _ q λz=>z),q];simp}}
 by_cases c:b=e
 .subst c;exact i
 .exact{u,k b u c q}
end
abbrev QN(h:i1)(H:Hp):List Addr:=(List.range h.objs.size).filter λa=>(H a).isSome
abbrev rh(h:i1)(H:Hp):Heap:=PySem.W.hideAll h (QN h H)
def zN(h:i1)(H:Hp):(rh h H).objs.size=h.objs.size:=PySem.W.hideAll_size _ _
theorem BS{b:h9}(e:h.get? b=hG o)(n:H b=hI):(rh h H).get? b=hG o:=
 PySem.W.hideAll_get _ e λhm=>by have q:(H b).isSome=hQ:=(List.mem_filter.mp hm).2;rw [n] at q;simp at q
def Ga{b:h9}(e:(rh h H).get? b=hG o):h.get? b=hG o/\H b=hI:=by
 have a:h.get? b=hG o:=PySem.W.of_hideAll (QN h H) e
 refine{a,?_};cases q:H b with
 |none=>rfl|some x=>have hm:b∈QN h H:=List.mem_filter.mpr {List.mem_range.mpr (c8 a),by simp [q]};have z:(rh h H).get? b=hI:=PySem.W.hideAll_none (QN h H) hm;rw [z] at e;cases e
abbrev Ej(g h:i1)(L:h9):kv:=(List.range h.objs.size).filterMap λa=>if a=L\/(g.get? a).isSome=hQ then hI else(h.get? a).map λo=>(a,o)
abbrev rest(g h:i1)(L d:h9):kv:=(Ej g h L).filter λp=>decide (p.1≠d)
structure Mod(K:zz8)(mg:Str->Option hV)(base:i1):Prop where
 Iq:K.In base
 glob:base.Ns jf mg
 blt:∃mb,base.Ns builtinsNs mb/\∀x:Str,x≠(zu 35)->mb x=bootBuiltins x
 nolimit:base.NoLimit
structure Cx where
 prog:ig
 w:ij
 K:zz8
 mg:Str->Option hV
 base:i1
 A:il
 N:List Str
 s₀:hW
 H₀:Hp
 env:Env
 outer:List Env
 stack:List Env
 ex:List h9
 fn:Str->Bool
 calm:Bool
 pn:kv
 xe:ku
variable{X:Cx}
abbrev fQ(l:List Env):List Addr:=l.filterMap (·.frame)
noncomputable abbrev Cx.fs(X:Cx):List Addr:=fQ X.outer
def Nv(sc:iv)(x:Str):Prop:=sc.names.lookup x=hG .local\/sc.names.lookup x=hG .cell\/sc.names.lookup x=hG .free
def Loc(sc:iv)(x:Str):Prop:=sc.names.lookup x=hG .local\/sc.names.lookup x=hG .cell
def Look(env:Env)(h:i1)(m:Str->Option hV)(x:Str)(u:hV):Prop:=
 (env.kindOf x=hG .local/\m x=hG u)\/((env.kindOf x=hG .cell\/env.kindOf x=hG .free)/\∃c,env.cells.lookup x=hG c/\h.IsCell c (hG u))
structure Cx.Ok(X:Cx):Prop where
 mod:Mod X.K X.mg X.base
 kind:X.env.scope.kind=.function
 glob:X.env.globals=jf
 blt:X.env.builtins=builtinsNs
 above:X.s₀.heap.objs.size<=X.env.locals
 inj:∀x y c,X.env.cells.lookup x=hG c->X.env.cells.lookup y=hG c->x=y
 has:∀x,(X.env.kindOf x=hG .cell\/X.env.kindOf x=hG .free)->∃c,X.env.cells.lookup x=hG c
 MO:∀x c,X.fn x=hQ->X.env.cells.lookup x=hG c->X.s₀.heap.objs.size<=c
 hd:X.calm=hQ->X.A.handled=hI
 frames:X.A.frames=hG X.stack
 Pr:X.stack=X.outer\/(X.stack=X.env::X.outer/\X.env.frame=hG X.env.locals)
 exf:∀b∈X.ex,b≠X.env.locals/\∀x c,X.env.cells.lookup x=hG c->c≠b
 bs:∀b o,X.base.get? b=hG o->X.s₀.heap.get? b=hG o/\X.H₀ b=hI
 xl:X.base.objs.size<=X.s₀.heap.objs.size
 FU:∀b o,X.base.get? b=hG o->b∉X.ex
 JS:∀b∈X.ex,b∉X.fs
 gZ:X.s₀.heap.FunFrames X.base X.outer
 xG:∀b∈X.fs,X.H₀ b=hI
structure Inv(X:Cx)(ae:kv)(σ:List (Option V))(H:Hp)(s:hW):Prop where
 ok:X.Ok
 os:s.os=X.s₀.os
 bare:AllBare s.gens
 base:Un X.fs X.ex X.H₀ H X.s₀.heap s.heap
 loc:∃m,s.heap.Ns X.env.locals m/\∀(i:Nat) (x:Str) (v:V),X.N[i]?=hG x->σ[i]?=hG (hG v)->Nv X.env.scope x->∃u,RelV v u/\Look X.env s.heap m x u
 cell:∀x c,X.env.cells.lookup x=hG c->∃v,s.heap.IsCell c v
 free:H X.env.locals=hI
 i6:∀x c,X.env.cells.lookup x=hG c->H c=hI
 pin:∀p∈X.pn++ae,s.heap.get? p.1=hG p.2/\H p.1=hI/\p.1≠X.env.locals/\p.1∉X.fs/\∀v,p.2.data≠.cell v
 aR:eY X.prog X.w H s.heap
 len:σ.length=X.N.length
section
variable{ae:kv}{σ:List (Option V)}{s:hW}{h':i1}
theorem Cx.Ok.SX(ok:X.Ok){b:h9}(e:X.base.get? b=hG o):b∉X.fs:=λa=>by have:=(ok.gZ.mem a).1;rw [e] at this;cases this
def Inv.bs(I:zv2 s):∀b o,X.base.get? b=hG o->s.heap.get? b=hG o/\H b=hI:=λb o e=>{I.base.keep b o (I.ok.bs b o e).1 (I.ok.bs b o e).2 (I.ok.SX e) (I.ok.FU b o e),I.base.free b o (I.ok.bs b o e).1 (I.ok.bs b o e).2 (I.ok.FU b o e)}
def Inv.bk(I:zv2 s):∀b o,X.base.get? b=hG o->s.heap.get? b=hG o:=λb o e=>(I.bs b o e).1
def Inv.mod(I:zv2 s):Mod X.K X.mg X.base:=I.ok.mod
def Inv.kS(I:zv2 s):X.K.In s.heap:=I.ok.mod.Iq.keeps I.bk
theorem Inv.fr(I:zv2 s):∃m,Fr X.base X.env.locals s.heap m:=
 let⟨m,a,_⟩:=I.loc
 {m,a,I.bk,ee I.ok.xl I.ok.above}
theorem Inv.lt(I:zv2 s):X.env.locals<(zz9 s):=let⟨_,a,_⟩:=I.loc;a.lt
def Inv.sz(I:zv2 s):X.s₀.heap.objs.size<=(zz9 s):=ee I.ok.above (Nat.le_of_lt I.lt)
theorem Inv.SY(I:zv2 s)(h:(zz9 s)<=a):a∉X.fs:=λb=>by let(_,o,c,_):=I.ok.gZ.mem b;exact absurd (el (c8 c) (ee I.sz h)) (Nat.lt_irrefl _)
theorem Inv.Eu(I:zv2 s):∀x c,X.env.cells.lookup x=hG c->c≠X.env.locals:=λx c e z=>by let(v,o,a,hd):=I.cell x c e;let(m,(f,g,h,b,d,_),_):=I.loc;rw [z,b] at a;cases a;rw [d] at hd;cases hd
def Inv.gZ(I:zv2 s):s.heap.FunFrames X.base X.outer:=by
 have all:∀(l:List Env),(∀b∈fQ l,b∈X.fs)->X.s₀.heap.FunFrames X.base l->s.heap.FunFrames X.base l:=by
  intro l
  induction l with
  |nil=>intro _ _;trivial|cons env r f=>intro hs hl;let(hk,(L,o,a,g,h,hd),i):=hl;have c:L∈X.fs:=hs L (by unfold fQ;rw [List.filterMap_cons,a];exact dB);let(j,e):=I.base.slot L o h (I.ok.xG L c) c λz=>I.ok.JS L z c;exact{hk,{L,_,a,g,e,hd},f (λb d=>hs b (by unfold fQ;rw [List.filterMap_cons,a];exact b0 _ d)) i}
 exact all X.outer (λZ d=>d) I.ok.gZ
def Inv.stack(I:zv2 s):s.heap.FunFrames X.base X.stack:=by
 rcases I.ok.Pr with e|⟨e,hf⟩
 .rw [e];exact I.gZ
 .rw [e];let(m,a,_):=I.loc;refine .cons (by rw [I.ok.kind];decide) hf a ?_ I.gZ;exact i1.get?_none_of_le (ee I.ok.xl I.ok.above)
def Inv.ju(I:zv2 s):∀b∈fQ X.stack,b∈X.env.locals::X.fs:=λb a=>by
 rcases I.ok.Pr with e|⟨e,hf⟩
 .rw [e] at a;exact b0 _ a
 .rw [e] at a;unfold fQ at a;rw [List.filterMap_cons,hf] at a;exact a
theorem Inv.mL(I:zv2 s):∀b∈fQ X.stack,H b=hI:=λb a=>by
 rcases e9.mp (I.ju b a) with e|a
 .rw [e];exact I.free
 .let(_,o,c,_):=I.ok.gZ.mem a;exact I.base.free b o c (I.ok.xG b a) λz=>I.ok.JS b z a
def Inv.step{g':Array GenState}{t':Nat}{d':Drawn}{ch:List h9}(I:zv2 s)
 (j:∀b∈ch,(b∈X.ex\/X.s₀.heap.objs.size<=b)/\b≠X.env.locals/\(∀x c,X.env.cells.lookup x=hG c->c≠b)/\∀p∈X.pn++ae,p.1≠b)
 (keep:∀b o,b≠X.env.locals->b∉X.fs->b∉ch->s.heap.get? b=hG o->H b=hI->h'.get? b=hG o)
 (slot:∀b o,b≠X.env.locals->b∈X.fs->b∉ch->s.heap.get? b=hG o->H b=hI->∃C,h'.get? b=hG {o with slots:=C}) (free:∀b o,b∉ch->s.heap.get? b=hG o->H b=hI->H' b=hI)
 (there:∀b o,b∉ch->s.heap.get? b=hG o->∃t,h'.get? b=hG t)
 (iY:∀b xs,H b=hG (.tup xs)->H' b=hG (.tup xs)) (gC:∀b o u,H b=hG (.bw o u)->H' b=hG (.bw o u)) (iI:∀b ps,H b=hG (.hJ ps)->∃more,H' b=hG (.hJ (ps++more)))
 (ns:∀m,s.heap.Ns X.env.locals m->h'.Ns X.env.locals m) (aR:eY X.prog X.w H' h') (M:AllBare g'):
 Inv X ae σ H' {s with heap:=h',gens:=g',drawn:=d',toks:=t'}:=by
 have F:∀b o,X.s₀.heap.get? b=hG o->b≠X.env.locals:=λb o e=>et (el (c8 e) I.ok.above)
 have B:∀b o,X.s₀.heap.get? b=hG o->b∉X.ex->b∉ch:=λb o e a g=>by
  rcases(j b g).1 with z|z
  .exact a z
  .exact absurd (el (c8 e) z) (Nat.lt_irrefl _)
 have f:∀x c,X.env.cells.lookup x=hG c->∀v,s.heap.IsCell c v->h'.IsCell c v:=λx c e v D=>by
  let(o,h,hd):=D;have y:c∉ch:=λz=>(j c z).2.2.1 x c e rfl;by_cases G:c∈X.fs
  .let(C,q):=slot c o (I.Eu x c e) G y h (I.i6 x c e);exact{_,q,hd}
  .exact{o,keep c o (I.Eu x c e) G y h (I.i6 x c e),hd}
 refine{I.ok,I.os,M,{λb o e n g a=>?_,λb o e n g a=>?_,λb o e n a=>?_,λb o e a=>?_,λb xs e=>iY b xs (I.base.iY b xs e),λb o xs e=>gC b o xs (I.base.gC b o xs e),λb ps e=>?_},?_,λx c e=>?_,?_,λx c e=>?_,λp K=>?_,aR,I.len}
 .exact keep b o (F b o e) g (B b o e a) (I.base.keep b o e n g a) (I.base.free b o e n a)
 .let(C,e1):=I.base.slot b o e n g a;let(E,A):=slot b _ (F b o e) g (B b o e a) e1 (I.base.free b o e n a);exact⟨E,A⟩
 .let(t,e1):=I.base.there b o e a;exact free b t (B b o e a) e1 (I.base.free b o e n a)
 .let(t,e1):=I.base.there b o e a;exact there b t (B b o e a) e1
 .let(m1,e1):=I.base.iI b ps e;let(m2,A):=iI b _ e1;exact{m1++m2,by rw [A,Array.append_assoc]}
 .let(m,N,hl):=I.loc;refine{m,ns m N,λi x v e1 A O=>?_};let(u,r,l):=hl i x v e1 A O
  refine{u,r,?_};rcases l with l|⟨k,c,e,z⟩
  .exact .inl l
  .exact .inr {k,c,e,f x c e _ z}
 .let(v,z):=I.cell x c e;exact{v,f x c e v z}
 .let(m,(o,_,_,h,_),_):=I.loc;exact free _ o (λz=>(j _ z).2.1 rfl) h I.free
 .let(v,o,h,hd):=I.cell x c e;exact free c o (λz=>(j c z).2.2.1 x c e rfl) h (I.i6 x c e)
 .let(e,n,ne,L,d):=I.pin p K;have y:p.1∉ch:=λz=>(j p.1 z).2.2.2 p K rfl;exact{keep p.1 p.2 ne L y e n,free p.1 p.2 y e n,ne,L,d}
def Inv.un{t':Nat}(I:zv2 s)(u:Un X.fs [] H H' s.heap h')(aR:eY X.prog X.w H' h'):Inv X ae σ H' {s with heap:=h',toks:=t'}:=by let(m,(o,j,k,f,r),_):=id I.loc;let(p,h):=u.any f I.free (by simp);exact I.step (g':=s.gens) (d':=s.drawn) (ch:=[]) (λZ z=>nomatch z) (λb o Z a Z e n=>u.keep b o e n a (by simp)) (λb o Z a Z e n=>u.slot b o e n a (by simp)) (λb o Z e n=>u.free b o e n (by simp)) (λb o Z e=>u.there b o e (by simp)) u.iY u.gC u.iI (λq hm=>by let(t,c,d,g,i):=hm;rw [f] at g;cases g;exact{_,c,d,h,i}) aR I.bare
def Inv.call{g':Array GenState}{t':Nat}{d':Drawn}{ch:List h9}(I:zv2 s)(u:Un (fQ X.stack) ch H H' s.heap h')(aR:eY X.prog X.w H' h')(k:AllBare g')
 (h:∀b∈ch,(b∈X.ex\/X.s₀.heap.objs.size<=b)/\b≠X.env.locals/\(∀x c,X.env.cells.lookup x=hG c->c≠b)/\∀p∈X.pn++ae,p.1≠b):
 Inv X ae σ H' {s with heap:=h',gens:=g',drawn:=d',toks:=t'}:=by
 let(m,(o,y,A,i,r),_):=id I.loc;let(B,d):=u.any i I.free λz=>(h _ z).2.1 rfl;exact I.step (ch:=ch) h (λb o d q a e n=>u.keep b o e n (λz=>(e9.mp (I.ju b z)).elim d q) a) (λb o Z Z a e n=>u.any e n a) (λb o a e n=>u.free b o e n a) (λb o a e=>u.there b o e a) u.iY u.gC u.iI (λC hm=>by let(D,f,g,j,t):=hm;rw [i] at j;cases j;exact{_,f,g,d,t}) aR k
def Inv.turned{t':Nat}{it:h9}(I:zv2 s)(k:∀b o,b≠it->s.heap.get? b=hG o->h'.get? b=hG o)(g:H it=hI)(d:it≠X.env.locals)
 (h:it∈X.ex\/X.s₀.heap.objs.size<=it) (i:∀x c,X.env.cells.lookup x=hG c->c≠it) (j:∀p∈X.pn++ae,p.1≠it):Inv X ae σ H {s with heap:=h',toks:=t'}:=by
 have f:∀b u,H b=hG u->b≠it:=λb u e z=>by rw [z,g] at e;cases e
 refine I.step (g':=s.gens) (d':=s.drawn) (ch:=[it]) (λb t=>?_) (λb o Z Z a e Z=>k b o (λz=>a (by simp [z])) e) (λb o Z Z a e Z=>{o.slots,k b o (λz=>a (by simp [z])) e}) (λZ Z Z Z n=>n)
  (λb o a e=>{o,k b o (λz=>a (by simp [z])) e}) (λZ Z e=>e) (λZ Z Z e=>e) (λb B e=>{#[],by rw [e];simp}) (λm hm=>?_) (λb u e=>?_) I.bare
 .have e:b=it:=zx6 t;subst e;exact⟨h,d,i,j⟩
 .let(o,w,y,A,r):=hm;exact{o,w,y,k _ o (Ne.symm d) A,r}
 .refine(I.aR b u e).fU (λc v a q=>k c v ?_ q) (λZ q=>q) λZ Z q=>q
  rcases a with z|z
  .rw [z];exact f b u e
  .exact f c _ z
theorem Inv.tok(I:zv2 s)(t:Nat):Inv X ae σ H {s with toks:=t}:=I.un (h':=s.heap) (t':=t) Un.refl I.aR
theorem Inv.kept{t':Nat}(I:zv2 s)(k:∀b u,s.heap.get? b=hG u->h'.get? b=hG u):Inv X ae σ H {s with heap:=h',toks:=t'}:=I.un (Un.kept k) (I.aR.kept k)
theorem Inv.laid{o:HO}{t':Nat}(I:zv2 s)(k:∀b u,s.heap.get? b=hG u->h'.get? b=hG u)(c:(zz9 s)<=a)(new:bZ X.prog X.w (upd H a o) h' a o):
 Inv X ae σ (upd H a o) {s with heap:=h',toks:=t'}:=I.un (Un.laid k c (I.aR.fresh c)) (I.aR.laid k c new)
theorem Inv.write{x e:h9}{o:HO}{t':Nat}(I:zv2 s)(a:Nm (H x))(he:e=x\/H e=hG (.own x))(k:∀b u,b≠e->s.heap.get? b=hG u->h'.get? b=hG u)(c:∃u,h'.get? e=hG u)
 (new:bZ X.prog X.w (upd H x o) h' x o):Inv X ae σ (upd H x o) {s with heap:=h',toks:=t'}:=I.un (Un.write a he k c) (I.aR.write a he k c new)
def Inv.iO{a:kv}(I:zv2 s)(h:∀p∈a,s.heap.get? p.1=hG p.2/\H p.1=hI/\p.1≠X.env.locals/\p.1∉X.fs/\∀v,p.2.data≠.cell v):Inv X a σ H s:=
 {I.ok,I.os,I.bare,I.base,I.loc,I.cell,I.free,I.i6,λp b=>(List.mem_append.mp b).elim (λz=>I.pin p (eu _ z)) (h p),I.aR,I.len}
def nR(hN:N.Nodup){i:Nat}(a:N[i]?=hG x)(b:N[j]?=hG x):i=j:=by let(d,e1):=bV.mp a;let(e,c):=bV.mp b;exact(List.getElem_inj hN).mp (e1.trans c.symm)
def lx{M:Model}{E:ku}{i:Nat}{Q:Unit->hW->Prop}(I:zv2 s)(hN:X.N.Nodup)(K:X.N[i]?=hG x)(t:Loc X.env.scope x)(r:RelV v u)
 (h:∀s',Inv X ae (σ.set i (hG v)) H s'->(∃a,i1.SameBut a s.heap s'.heap/\(a=X.env.locals\/X.env.cells.lookup x=hG a))->Q () s') (hf:X.fn x=hQ\/X.env.scope.names.lookup x=hG .local:=by first|exact .inl rfl|exact .inr rfl|assumption):ie M A (storeName X.env x u) Q E s:=by
 let(m,T,hl):=id I.loc;have RS:(X.env.scope.kind==.class||(X.env.scope.kind==.module&&X.env.locals !=X.env.globals))=hU:=by rw [I.ok.kind];rfl
 have D:i<σ.length:=by rw [I.len];exact(bV.mp K).1
 have Eu:=I.Eu
 have f:∀{a:h9} {h':i1},(∃o,s.heap.get? a=hG o/\H a=hI)->i1.SameBut a s.heap h'->eY X.prog X.w H h':=λ{a h'} ha hs b ob e=>by
  let(_,_,B):=ha;refine(I.aR b ob e).fU (λc R g q=>(hs.2 c ?_).trans q) (λ_ q=>q) λ_ _ q=>q
  rintro rfl
  rcases g with rfl|g
  .rw [B] at e;cases e
  .rw [B] at g;cases g
 rcases t with hk|hk
 .refine wpAny_storeName_local hk T (λh' WO hs=>?_) RS;let(oL,_,_,U,_):=id T;refine h _ {I.ok,I.os,I.bare,{λb o e n F t=>?_,λb o e n F t=>?_,I.base.free,λb o e t=>?_,I.base.iY,I.base.gC,I.base.iI},{_,WO,λj y W e1 C Y=>?_},λy c e=>?_,I.free,I.i6,λp Z=>?_,f ⟨oL,U,I.free⟩ hs,zx6 I.len} {_,hs,.inl rfl}
  .exact(hs.2 b (et (el (c8 e) I.ok.above))).trans (I.base.keep b o e n F t)
  .let(sl,e1):=I.base.slot b o e n F t;exact{sl,(hs.2 b (et (el (c8 e) I.ok.above))).trans e1}
  .let(o',e1):=I.base.there b o e t;exact{o',(hs.2 b (et (el (c8 e) I.ok.above))).trans e1}
  .by_cases G:j=i
   .subst G;rw [K] at e1;cases e1;rw [fi D] at C;cases C;exact{u,r,.inl {hk,by simp}}
   .rw [ea (Ne.symm G)] at C;let(u',r',q):=hl j y W e1 C Y
    refine{u',r',?_};rcases q with⟨k,e⟩|⟨k,c,e,z⟩
    .refine .inl {k,?_};have:y≠x:=λe=>G (nR hN e1 (e▸K));simp [this,e]
    .exact .inr {k,c,e,z.sameBut hs (Eu y c e)}
  .let(R,z):=I.cell y c e;exact{R,z.sameBut hs (Eu y c e)}
  .let(e,n,ne,nf,d):=I.pin p Z;exact{(hs.2 p.1 ne).trans e,n,ne,nf,d}
 .have nv:X.fn x=hQ:=by
   rcases hf with z|z
   .exact z
   .rw [z] at hk;cases hk
  let(c,g):=I.ok.has x (.inl hk);let(R,z):=I.cell x c g;refine wpAny_storeName_cell I.ok.kind hk g z (λh' iu hs=>?_);let(oc,L,O):=id z;refine h {s with heap:=h'} {I.ok,I.os,I.bare,{λb o e n F t=>?_,λb o e n F t=>?_,I.base.free,λb o e t=>?_,I.base.iY,I.base.gC,I.base.iI},{m,T.sameBut hs (Ne.symm (Eu x c g)),λj y W e1 C Y=>?_},λy S e=>?_,I.free,I.i6,λp Z=>?_,f {oc,L,I.i6 x c g} hs,zx6 I.len} {c,hs,.inr g}
  .exact(hs.2 b (et (el (c8 e) (I.ok.MO x c nv g)))).trans (I.base.keep b o e n F t)
  .let(sl,e1):=I.base.slot b o e n F t;exact{sl,(hs.2 b (et (el (c8 e) (I.ok.MO x c nv g)))).trans e1}
  .let(o',e1):=I.base.there b o e t;exact{o',(hs.2 b (et (el (c8 e) (I.ok.MO x c nv g)))).trans e1}
  .by_cases G:j=i
   .subst G;rw [K] at e1;cases e1;rw [fi D] at C;cases C;exact{u,r,.inr {.inl hk,c,g,iu}}
   .rw [ea (Ne.symm G)] at C;let(u',r',q):=hl j y W e1 C Y
    refine{u',r',?_};rcases q with q|⟨k,S,e,z'⟩
    .exact .inl q
    .refine .inr {k,S,e,z'.sameBut hs ?_}
     rintro rfl
     exact G (nR hN e1 (I.ok.inj _ _ _ e g▸K))
  .by_cases P:S=c
   .subst P;exact{_,iu}
   .let(w2,z2):=I.cell y S e;exact{w2,z2.sameBut hs P}
  .let(e,n,ne,nf,d):=I.pin p Z;refine{(hs.2 p.1 ?_).trans e,n,ne,nf,d};intro q;rw [q,L] at e;have q':oc=p.2:=zzq e;exact d R (by rw [<-q'];exact O)
def vd{M:Model}{E:ku}{i:Nat}{Q:Unit->hW->Prop}(I:zv2 s)(hN:X.N.Nodup)(a:X.N[i]?=hG x)(b:Loc X.env.scope x)(r:RelV v u)
 (h:∀s',Inv X ae (σ.set i (hG v)) H s'->Q () s') (c:X.fn x=hQ\/X.env.scope.names.lookup x=hG .local:=by first|exact .inl rfl|exact .inr rfl|assumption):ie M A (storeName X.env x u) Q E s:=
 lx I hN a b r (λs' d Z=>h s' d) c
def Inv.NI{s':hW}{ch:List h9}(I:zv2 s)(a:s'.os=s.os)(u:Un (fQ X.stack) ch H H' s.heap s'.heap)(aR:eY X.prog X.w H' s'.heap)(d:AllBare s'.gens)
 (f:∀b∈ch,(b∈X.ex\/X.s₀.heap.objs.size<=b)/\b≠X.env.locals/\(∀x c,X.env.cells.lookup x=hG c->c≠b)/\∀p∈X.pn++ae,p.1≠b):Inv X ae σ H' s':=by
 let(h',g',d',t',g):=s';have e:g=s.os:=a;subst e;exact I.call (g':=g') (t':=t') (d':=d') u aR d f
end
noncomputable abbrev XK:=hV->Option h9->Hp->Prop
noncomputable abbrev St:=List (Option V)
variable{σ:St}
noncomputable abbrev VK:=V->Hp->Prop
variable{Q:VK}
noncomputable abbrev TE:=St->Hp->VK->Prop
variable{te:TE}
noncomputable abbrev TT:=St->Hp->(Bool->Hp->Prop)->Prop
noncomputable abbrev TA:=St->Hp->(List V->Hp->Prop)->Prop
structure Ends where
 nx:St->Hp->Prop
 rt:VK
 bk:St->Hp->Prop:=λ_ _=>False
 ct:St->Hp->Prop:=λ_ _=>False
noncomputable abbrev TS:=Ends->St->Hp->Prop
def EP(X:Cx)(b:kv)(c:St)(Q:VK)(u:hV)(s':hW):Prop:=∃v a,Inv X b c a s'/\RelV v u/\Q v a
def TP(X:Cx)(c:kv)(d:St)(Q:Bool->Hp->Prop)(b:Bool)(s':hW):Prop:=∃a,Inv X c d a s'/\Q b a
def AP(X:Cx)(c:kv)(d:St)(Q:List V->Hp->Prop)(us:List hV)(s':hW):Prop:=∃a b,Inv X c d b s'/\Vals a us/\Q a b
def SP(X:Cx)(c:kv)(D:Ends)(f:Flow)(s':hW):Prop:=
 match f with
 |.next=>∃a b,Inv X c a b s'/\D.nx a b|.brk=>∃a b,Inv X c a b s'/\D.bk a b|.cont=>∃a b,Inv X c a b s'/\D.ct a b|.ret u=>∃v a b,Inv X c a b s'/\RelV v u/\D.rt v b
def PE(X:Cx)(e:ia)(t:TE):Prop:=
 ∀(b:kv) (s:hW) (a:St) (H:Hp) (Q:VK),Inv X b a H s->t a H Q->zx7 X (eval e X.env) (EP X b a Q) X.xe s
def PT(X:Cx)(e:ia)(t:TT):Prop:=
 ∀(b:kv) (s:hW) (a:St) (H:Hp) (Q:Bool->Hp->Prop),Inv X b a H s->t a H Q->zx7 X (isTrue e X.env (eval e X.env)) (TP X b a Q) X.xe s
def PW(X:Cx)(e:ia)(t:TT):Prop:=
 ∀(a:Sem hV) (c:kv) (s:hW) (b:St) (H:Hp) (Q:Bool->Hp->Prop),Inv X c b H s->t b H Q->zx7 X (isTrue e X.env a) (TP X c b Q) X.xe s
def PW.pt{t:TT}(h:PW X e t):PT X e t:=h _
def PA(X:Cx)(d:List ia)(t:TA):Prop:=
 ∀(a:Pos) (c:kv) (s:hW) (b:St) (H:Hp) (Q:List V->Hp->Prop),Inv X c b H s->t b H Q->zx7 X (spliced (backTo a (starEach d X.env))) (AP X c b Q) X.xe s
def PS(X:Cx)(st:je)(t:TS):Prop:=
 ∀(a:kv) (s:hW) (b:St) (H:Hp) (D:Ends),Inv X a b H s->t D b H->zx7 X (exec st X.env) (SP X a D) X.xe s
def sy(X:Cx)(st:List je)(t:TS):Prop:=
 ∀(a:kv) (s:hW) (b:St) (H:Hp) (D:Ends),Inv X a b H s->t D b H->zx7 X (execs st X.env) (SP X a D) X.xe s
def bM{b:Type}{t:Sem b}{Q c:b->hW->Prop}{M:Model}{E:ku}{s:hW}(h:ie M A t Q E s)(d:∀a s,Q a s->c a s):ie M A t c E s:=wpAny_mono h d λZ Z x=>x
section
def bin{a b:ia}{o tb:TE}(q:PE X a o)(r:PE X b tb){j:kv}{s:hW}{d:St}{R:V->V->Hp->Prop}(I:Inv X j d H s)(h:o d H λx m=>tb d m λy e=>R x y e)
 {p:Type} {Q:p->hW->Prop} {f:hV->hV->Sem p}
 (hf:∀v u k x y e,Inv X j d e k->RelV x v->RelV y u->R x y e->zx7 X (f v u) Q X.xe k):
 zx7 X (eval a X.env) (λv g=>zx7 X (eval b X.env) (λu i=>zx7 X (f v u) Q X.xe i) X.xe g) X.xe s:=by
 refine bM (q j s d H _ I h) λv t c=>?_;let(x,m,z,B,C):=c;refine bM (r j t d m _ z C) λu k c=>?_;let(y,e,D,E,F):=c;exact hf v u k x y e D B E F
abbrev Hm(i:Nat):TE:=λa H Q=>∃v,a[i]?=hG (hG v)/\Q v H
abbrev tC(v:V):TE:=λZ H Q=>Q v H
def iE{i:Nat}(hN:X.N[i]?=hG x)(d:Nv X.env.scope x)(hd:(x==(zu 25:Str))=hU:=by decide)(f:(x==("__classdict__":Str))=hU:=by decide):PE X (.Name x pos) (Hm i):=by
 intro g s j H Q I h;let(v,e,h):=h;let(m,k,hl):=I.loc;let(u,r,l):=hl i x v hN e d;have fin:EP X g j Q u s:=⟨v,H,I,r,h⟩
 rcases l with⟨hk,hm⟩|⟨hk,c,a,b⟩
 .exact wpAny_Name (wpAny_loadName_local I.ok.kind hk k hm fin) hd
 .rcases hk with hk|hk
  .exact wpAny_Name (wpAny_loadName_cell I.ok.kind hk a b fin) hd
  .exact wpAny_Name (wpAny_loadName_free I.ok.kind hk a b fin f) hd
def rH{i j pos}:PE X (.Constant (.int i) j pos) (tC (.int i)):=λZ Z Z H Z I h=>wpAny_Constant_int {.int i,H,I.tok _,{_,rfl},h}
def O2{b j pos}:PE X (.Constant (.bool b) j pos) (tC (.bl b)):=λZ Z Z H Z I h=>Constant_bool {.bl b,H,I,rfl,h}
def LU{j pos}:PE X (.Constant .none j pos) (tC .aL):=λZ Z Z H Z I h=>Constant_none {.aL,H,I,rfl,h}
def rJ{x j pos}:PE X (.Constant (.str x) j pos) (tC (.str x)):=λZ Z Z H Z I h=>Calls.Constant_str {.str x,H,I.tok _,{_,rfl},h}
def Gl(X:Cx)(x:Str):Prop:=X.env.kindOf x=hG .globalImplicit
def fH{E:ku}{a:kv}{s:hW}{b:St}{Q:ku}(I:Inv X a b H s)(c:Gl X x)(hm:X.mg x=hG u)(h:Q u s)
 (hd:(x==(zu 25:Str))=hU:=by decide):zx7 X (eval (.Name x pos) X.env) Q E s:=
 Calls.Name_function_global I.ok.kind c (Calls.loadGlobal_global (by rw [I.ok.glob];exact I.mod.glob.keeps I.bk) hm h) hd
def gD{E:ku}{a:kv}{s:hW}{b:St}{Q:ku}(I:Inv X a b H s)(c:Gl X x)(hm:X.mg x=hI)(d:bootBuiltins x=hG u)(h:Q u s)
 (e:x≠(zu 35):=by decide) (hd:(x==(zu 25:Str))=hU:=by decide):zx7 X (eval (.Name x pos) X.env) Q E s:=by
 let(mb,f,g):=I.mod.blt;exact Calls.Name_function_global I.ok.kind c (Calls.loadGlobal_builtin (by rw [I.ok.glob];exact I.mod.glob.keeps I.bk) hm (by rw [I.ok.blt];exact f.keeps I.bk) ((g x e).trans d) h) hd
def Gv(a:Gl X x)(hm:X.mg x=hG u)(r:RelV v u)(hd:(x==(zu 25:Str))=hU:=by decide):PE X (.Name x pos) (tC v):=
 λZ Z Z H Z I h=>fH I a hm ⟨v,H,I,r,h⟩ hd
def Gr(a:Gl X x)(hm:X.mg x=hI)(b:bootBuiltins x=hG u)(r:RelV v u)(c:x≠(zu 35):=by decide)(hd:(x==(zu 25:Str))=hU:=by decide):PE X (.Name x pos) (tC v):=
 λZ Z Z H Z I h=>gD I a hm b ⟨v,H,I,r,h⟩ c hd
variable{a b:ia}{ta tb:TE}
abbrev tB(t:TE):TT:=λd H Q=>t d H λx e=>∃c,x=.bl c/\Q c e
def L8{t:TE}(h:PE X e t)(he:∀c,isTrue e X.env c=(do let v<-c;standAt e.pos;holding [v] (truthy v)):=by intro _;rfl):PT X e (tB t):=by intro g s i H Q I j;refine isTrue_plain (bM (h g s i H _ I j) λv r f=>?_) (he _);let(x,k,m,o,p):=f;let(d,rfl,q):=p;cases o;exact wpAny_truthy_bool ⟨k,m,q⟩
variable{tA QK:TT}{rest:List ia}
abbrev Tx(t u:TT):TT:=λd H Q=>t d H λc e=>if c=hQ then u d e Q else Q hU e
abbrev XB(t u:TT):TT:=λd H Q=>t d H λc e=>if c=hQ then Q hQ e else u d e Q
abbrev TJ(t:TT):TT:=λd H Q=>t d H λc e=>Q (!c) e
def pw_and1(d:PT X a tA):PW X (.BoolOp .And [a] pos) tA:=by
 intro i f s g H Q I h;refine isTrue_and (bM (d f s g H Q I h) λc j e=>?_)
 cases c with
 |true=>exact isTrue_and_nil e|false=>exact e
def pw_or1(d:PT X a tA):PW X (.BoolOp .Or [a] pos) tA:=by
 intro i f s g H Q I h;refine isTrue_or (bM (d f s g H Q I h) λc j e=>?_)
 cases c with
 |false=>exact isTrue_or_nil e|true=>exact e
def pw_and(k:PT X a tA)(m:PW X (.BoolOp .And (b::rest) pos) QK):PW X (.BoolOp .And (a::b::rest) pos) (Tx tA QK):=by
 intro o e s f H Q I h;refine isTrue_and (bM (k e s f H _ I h) λc p d=>?_);let(g,i,j):=d
 cases c with
 |true=>exact m o e p f g Q i j|false=>exact⟨g,i,j⟩
def pw_or(k:PT X a tA)(m:PW X (.BoolOp .Or (b::rest) pos) QK):PW X (.BoolOp .Or (a::b::rest) pos) (XB tA QK):=by
 intro o e s f H Q I h;refine isTrue_or (bM (k e s f H _ I h) λc p d=>?_);let(g,i,j):=d
 cases c with
 |true=>exact⟨g,i,j⟩|false=>exact m o e p f g Q i j
def L7(d:PT X a tA):PT X (.UnaryOp .Not a pos) (TJ tA):=by intro e s f H Q I h;exact isTrue_not (d e s f H (λc g=>Q (!c) g) I h)
abbrev Px(ta tb:TE):TE:=λd H Q=>ta d H λx e=>∃c,x=.bl c/\if c=hQ then tb d e Q else Q (.bl hU) e
abbrev TK(ta tb:TE):TE:=λd H Q=>ta d H λx e=>∃c,x=.bl c/\if c=hQ then Q (.bl hQ) e else tb d e Q
abbrev PD(ta:TE):TE:=λd H Q=>ta d H λx e=>∃c,x=.bl c/\Q (.bl (!c)) e
def CT{op}{t:TE}(h:PE X a t):PE X (.BoolOp op [a] pos) t:=λc s d H Q I e=>BoolOp_one (h c s d H Q I e)
def LO(k:PE X a ta)(m:PE X (.BoolOp .And (b::rest) pos) tb):PE X (.BoolOp .And (a::b::rest) pos) (Px ta tb):=by
 intro f s g H Q I h;refine BoolOp_and (bM (k f s g H _ I h) λv o e=>?_);let(x,i,j,p,d):=e;let(c,rfl,d):=d
 cases p;refine wpAny_truthy_bool ?_;cases c with
 |true=>exact m f o g i Q j d|false=>exact{.bl hU,i,j,rfl,d}
def O4(k:PE X a ta)(m:PE X (.BoolOp .Or (b::rest) pos) tb):PE X (.BoolOp .Or (a::b::rest) pos) (TK ta tb):=by
 intro f s g H Q I h;refine BoolOp_or (bM (k f s g H _ I h) λv o e=>?_);let(x,i,j,p,d):=e;let(c,rfl,d):=d
 cases p;refine wpAny_truthy_bool ?_;cases c with
 |false=>exact m f o g i Q j d|true=>exact{.bl hQ,i,j,rfl,d}
def LV(f:PE X a ta):PE X (.UnaryOp .Not a pos) (PD ta):=by intro g s i H Q I h;refine UnaryOp_ (bM (f g s i H _ I h) λv o d=>?_);let(x,j,k,m,e):=d;let(c,rfl,e):=e;cases m;exact not_of (wpAny_truthy_bool {.bl (!c),j,k,rfl,e})
abbrev XA(t:TT)(ta tb:TE):TE:=λd H Q=>t d H λc e=>if c=hQ then ta d e Q else tb d e Q
def CP{c:ia}(o:PT X c tA)(p:PE X a ta)(q:PE X b tb):PE X (.IfExp c a b pos) (XA tA ta tb):=by
 intro e s f H Q I h;refine wpAny_IfExp (bM (o e s f H _ I h) λd i g=>?_);let(j,k,m):=g
 cases d with
 |true=>exact p e i f j Q k m|false=>exact q e i f j Q k m
end
def kJ(K:zz8)(H:Hp)(a:h9)(xs:List V):Prop:=
 Rd H a (.lst xs)\/
  ∃(o:Obj) (b:Array hV) (n:Nat),K.lookup a=hG o/\o.cls=.type "list"/\o.dict=hI/\o.data=.seq b n/\b.size<=i2/\Vals xs b.toList
def fC(K:zz8)(H:Hp)(a:h9)(xs:List V):Prop:=
 Rd H a (.tup xs)\/
  ∃(o:Obj) (b:Array hV) (n:Nat),K.lookup a=hG o/\o.cls=.type "tuple"/\o.data=.seq b n/\b.size<=i2/\Vals xs b.toList
abbrev Ro:hV->Option V
 |.none=>hG .aL|.bool b=>hG (.bl b)|.int i _=>hG (.int i)|.str x _=>hG (.str x)|.bytes b _=>hG (.Qf b)|.float b _=>hG (.Ql b)|.ref a=>hG (.ref a)|.type n=>hG (.ty n)|_=>hI
def RelV.abs{x:V}(r:RelV x u):Ro u=hG x:=by
 cases x with
 |aL=>cases r;rfl
 |bl _=>cases r;rfl
 |int _=>let(t,rfl):=r;rfl|str _=>let(t,rfl):=r;rfl|Qf _=>let(t,rfl):=r;rfl|Ql _=>let(t,rfl):=r;rfl|ref _=>cases r;rfl
 |ty _=>cases r;rfl
def RelV.inj{x y:V}(r:RelV x u)(q:RelV y u):x=y:=zzq (r.abs.symm.trans q.abs)
def Vals.inj{xs ys:List V}(r:Vals xs us)(q:Vals ys us):xs=ys:=by
 induction r generalizing ys with
 |nil=>cases q;rfl
 |cons r _ a=>
  cases q with
  |cons b c=>rw [r.inj b,a c]
section
variable{ae:kv}{s:hW}{xs ys:List V}
def kJ.of{K:zz8}(h:H a=hG (.lst xs)):kJ K H a xs:=.inl (.inl h)
def Inv.list(I:zv2 s)(h:kJ X.K H a xs):∃b:List hV,Vals xs b/\PlainL s.heap a b.toArray/\xs.length<=sizeLine:=by
 rcases h with h|⟨o,b,n,hk,c,hd,hs,d,r⟩
 .let(z,b,n,r,e):=h.ok I.aR;exact{b,r,{_,n,e,rfl,rfl,rfl},z}
 .refine{b.toList,r,{o,n,I.kS a o hk,c,hd,zx6 hs},?_};have e:=r.length;simp! [ey] at e;lia
def Inv.tuple(I:zv2 s)(h:fC X.K H a xs):∃b:List hV,Vals xs b/\IsTup s.heap a b.toArray/\xs.length<=sizeLine:=by
 rcases h with h|⟨o,b,n,hk,c,hs,d,r⟩
 .let(z,b,r,p):=h.ok I.aR;exact⟨b,r,p,z⟩
 .refine{b.toList,r,{o,I.kS a o hk,c,n,zx6 hs},?_};have e:=r.length;simp! [ey] at e;lia
def Inv.uA(I:zv2 s)(h:kJ X.K H a xs)(h':kJ X.K H a ys):xs=ys:=by
 let(g,r,(o,n,e,_,_,d),_):=I.list h;let(b,i,(j,k,c,_,_,f),_):=I.list h';rw [e] at c;cases c;rw [d] at f
 injection f with d1 _
 have:g=b:=by simpa using congrArg Array.toList d1
 subst this;exact r.inj i
def Inv.qr(I:zv2 s)(h:fC X.K H a xs)(h':fC X.K H a ys):xs=ys:=by
 let(g,r,(o,e,_,n,d),_):=I.tuple h;let(b,i,(j,c,_,k,f),_):=I.tuple h';rw [e] at c;cases c;rw [d] at f
 injection f with d1 _
 have:g=b:=by simpa using congrArg Array.toList d1
 subst this;exact r.inj i
variable{rest:List je}{t u:TS}
def PC:TS:=λD σ H=>D.nx σ H
abbrev TM(t u:TS):TS:=λD σ H=>t {D with nx:=u D} σ H
def yr:sy X [] PC:=λZ Z σ H Z I h=>wpAny_execs_nil ⟨σ,H,I,h⟩
def uS(c:PS X st t)(d:sy X rest u):sy X (st::rest) (TM t u):=by
 intro ae s σ H D I h;refine wpAny_execs_cons (bM (c ae s σ H {D with nx:=u D} I h) λf g q=>?_)
 cases f with
 |next=>let(b,i,j,q):=q;exact d ae g b i D j q|ret v=>exact q|brk=>exact q|cont=>exact q
def Inv.quiet{ae:kv}{s:hW}(I:zv2 s):interactive X.env=hU:=by simp [interactive,I.ok.kind]
abbrev Pz(te:TE):TS:=λD σ H=>te σ H λZ b=>D.nx σ b
theorem kj(he:PE X e te)(hs:swapsWith e hI pos.line X.env=pure hU:=by rfl):PS X (.Expr e pos) (Pz te):=by intro ae s σ H D I h;exact wpAny_Expr_any (bM (he ae s σ H _ I h) λv d ⟨x,H1,b,f,c⟩=>⟨σ,H1,b,c⟩) I.quiet hs
abbrev TL(te:TE):TS:=λD σ H=>te σ H D.rt
def Dg(he:PE X e te):PS X (.Return (hG e) pos) (TL te):=by intro ae s σ H D I h;exact wpAny_Return_some (bM (he ae s σ H _ I h) λv f ⟨x,H1,b,c,d⟩=>⟨x,σ,H1,b,c,d⟩)
abbrev TC(c:TT)(t u:TS):TS:=λD σ H=>c σ H λb d=>if b=hQ then t D σ d else u D σ d
def IB{c:ia}{a b:List je}{g:TT}(o:PT X c g)(p:sy X a t)(q:sy X b u):PS X (.If c a b pos) (TC g t u):=by
 intro ae s σ H D I h;refine wpAny_If (bM (o ae s σ H _ I h) λd i f=>?_);let(j,k,m):=f
 cases d with
 |true=>exact p ae i σ j D k m|false=>exact q ae i σ j D k m
end
noncomputable abbrev TG:=V->St->Hp->(St->Hp->Prop)->Prop
noncomputable abbrev HE:=List V->St->Hp->(St->Hp->Prop)->Prop
def PG(X:Cx)(a:ia)(t:TG):Prop:=
 ∀(c:kv) (s:hW) (d:St) (H:Hp) (v:V) (u:hV) (Q:St->Hp->Prop),Inv X c d H s->RelV v u->t v d H Q->
  zx7 X (assign a X.env u) (λZ f=>∃b e,Inv X c b e f/\Q b e) X.xe s
def Nq(X:Cx)(ts:List ia)(t:HE):Prop:=
 ∀(b:kv) (s:hW) (c:St) (H:Hp) (d:List V) (e:List hV) (Q:St->Hp->Prop),Inv X b c H s->Vals d e->t d c H Q->
  zx7 X (assignInOrder ((assignEach ts X.env).map (·.2)) e) (λZ g=>∃a f,Inv X b a f g/\Q a f) X.xe s
noncomputable abbrev Jg:=V->V->V->Hp->(Hp->Prop)->Prop
def Nr(X:Cx)(t:Jg):Prop:=
 ∀(a:kv) (s:hW) (b:St) (H:Hp) (o i v:V) (c d u:hV) (Q:Hp->Prop),Inv X a b H s->RelV o c->RelV i d->RelV v u->t o i v H Q->
  zx7 X (setItem c d u) (λZ f=>∃e,Inv X a b e f/\Q e) X.xe s
abbrev ir(i:Nat):TG:=λv a H Q=>Q (a.set i (hG v)) H
def Gy{i:Nat}(hN:X.N.Nodup)(a:X.N[i]?=hG x)(b:Loc X.env.scope x)(c:X.fn x=hQ\/X.env.scope.names.lookup x=hG .local:=by first|exact .inl rfl|exact .inr rfl|assumption):PG X (.Name x pos) (ir i):=by intro e s f H v u Q I r h;exact wpAny_assign_Name (vd I hN a b r (λg d=>{_,H,d,h}) c)
abbrev J4:HE:=λa b H Q=>a=[]/\Q b H
abbrev xI(t:TG)(u:HE):HE:=λb c H Q=>∃v r,b=v::r/\t v c H λa d=>u r a d Q
def Gz:Nq X [] J4:=by intro b s a H c d Q I r h;let(e,h):=h;subst e;cases r;exact assignInOrder_nil ⟨a,H,I,h⟩
theorem C3{a:List ia}{t:TG}{u:HE}(f:PG X e t)(g:Nq X a u)
 (hs:(assignEach (e::a) X.env).map (·.2)=assign e X.env::(assignEach a X.env).map (·.2):=by rfl):Nq X (e::a) (xI t u):=by
 intro d s i H q w Q I r h;let(v,y,e1,h):=h
 subst e1;cases r with
 |cons r j=>rw [hs];refine assignInOrder_cons (bM (f d s i H _ _ _ I r h) λZ k b=>?_);let(c,m,o,p):=b;exact g d k c m _ _ Q o j p
abbrev N4(K:zz8)(n:Nat)(t:HE):TG:=λv b H Q=>∃a xs,v=.ref a/\fC K H a xs/\xs.length=n/\t xs b H Q
theorem LY{c:List ia}{t:HE}{n:Nat}(j:X.calm=hQ)(h:Nq X c t)
 (m:(assignEach c X.env).length=n:=by rfl) (p:(assignEach c X.env).findIdx? (·.1)=hI:=by rfl):PG X (.Tuple c k pos) (N4 X.K n t):=by
 intro f s g H v u Q I r d;let(a,xs,e1,q,hl,d):=d;subst e1;cases r;let(B,i,w,C):=I.tuple q;refine assign_Tuple_tuple (I.ok.hd j) w (by simp [m,<-hl,i.length]) p λy z=>?_;have A:Inv X f g H {s with heap:=y}:=I.kept (t':=s.toks) λb o e=>z b o (et (c8 e)) e;exact h f _ g H xs _ Q A (zx6 i) d
abbrev RH(b c:TE)(t:Jg):TG:=λv a H Q=>b a H λo d=>c a d λi e=>t o i v e λf=>Q a f
def C0{o i:ia}{f g:TE}{t:Jg}(j:PE X o f)(k:PE X i g)(hs:Nr X t)
 (m:∀v,assign (.Subscript o i pos) X.env v=(do
  let b<-holding [v] (eval o X.env);let c<-holding [v,b] (eval i X.env)
  standAt pos
  holding [v,b,c] (setItem b c v)
  release [v,b,c] []):=by intro _;rfl):PG X (.Subscript o i pos) (RH f g t):=by
 intro e s d H v u Q I r h;rw [m];refine ak (wpAny_holding (bM (j e s d H _ I h) λb p a=>?_));let(x,q,w,z,A):=a;refine ak (wpAny_holding (bM (k e p d q _ w A) λc B a=>?_));let(y,C,D,E,F):=a;refine ak (wpAny_standAt (ak (wpAny_holding (bM (hs e B d C x y v b c u _ D z E r F) λZ M a=>?_))));let(G,K,L):=a;exact wpAny_release ⟨d,G,K,L⟩
abbrev Hk(te:TE)(g:TG):TS:=λD a H=>te a H λx b=>g x a b D.nx
theorem Dd{a:ia}{g:TG}(he:PE X e te)(f:PG X a g)(hs:swapsWithSole [a] e pos.line X.env=pure hU:=by rfl)(i:swappedStores [a] e X.env=pure hI:=by rfl)
 (j:(assignEach [a] X.env).map (·.2)=[assign a X.env]:=by rfl):PS X (.Assign [a] e pos) (Hk te g):=by
 intro c s d H D I h;refine wpAny_Assign_stores (bM (he c s d H _ I h) λv k b=>?_) hs i;let(x,m,o,p,r):=b;rw [j];exact bM (f c k d m x v _ o p r) λZ t q=>q
theorem k9{i:Nat}{a:Pos}(hN:X.N.Nodup)(c:X.N[i]?=hG x)(d:Loc X.env.scope x)(he:PE X e te)(hs:swapsWith e (hG (.Name x a)) pos.line X.env=pure hU:=by rfl)(f:X.fn x=hQ\/X.env.scope.names.lookup x=hG .local:=by first|exact .inl rfl|exact .inr rfl|assumption):
 PS X (.Assign [.Name x a] e pos) (Hk te (ir i)):=by
 intro g s j H D I h;refine wpAny_Assign_Name (bM (he g s j H _ I h) λv r b=>?_) hs;let(y,k,m,o,p):=b;exact vd m hN c d o (λt q=>{_,k,q,p}) f
abbrev ME(c:TT)(tb:TS):TS:=λD a H=>∃W:Nat->St->Hp->Prop,(∃m,W m a H)/\∀m a H,W m a H->
 c a H λb e=>if b=hQ then∃N:St->Hp->Prop,(∀d f,N d f->∃g,g<m/\W g d f)/\tb {D with nx:=N,ct:=N,bk:=D.nx} a e else D.nx a e
def Dh{c:ia}{body:List je}{u:TT}{tb:TS}(y:PassesOwn (ik X.prog X.w) X.A X.env X.xe)(E:PT X c u)(F:sy X body tb):PS X (.While c body [] pos) (ME u tb):=by
 intro m s G H D I h;let(W,(K,L),e):=h;refine wpAny_While (codeAny_whileLoop (λn M=>∃g z,Inv X m g z M/\W n g z) ?_ K ⟨G,H,I,L⟩)
 rintro n s1 ⟨d,H1,O,w1⟩
 refine wpAny_passesOwn y (bM (E m s1 d H1 _ O (e n d H1 w1)) λb P o=>?_);let(B,C,j):=o
 cases b with
 |true=>
  let(N,hN,j):=j;rw [if_pos rfl];refine wpAny_passesOwn y (bM (F m P d B _ C j) λf Q k=>?_)
  cases f with
  |next=>let(a,i,p,q):=k;let(r,hm,t):=hN a i q;exact⟨r,hm,a,i,p,t⟩|cont=>let(a,i,p,q):=k;let(r,hm,t):=hN a i q;exact⟨r,hm,a,i,p,t⟩|brk=>exact k|ret v=>exact k
 |false=>rw [if_neg zzf];exact wpAny_execs_nil ⟨d,B,C,j⟩
structure It where
 go:Nat->Hp->Prop
 Nc:Nat->Hp->V->Hp->Prop
 stop:Nat->Hp->Prop
def gV(X:Cx)(a:kv)(H:Hp)(b:h9):Prop:=
 H b=hI/\b≠X.env.locals/\b∉X.fs/\(b∈X.ex\/X.s₀.heap.objs.size<=b)/\(∀x c,X.env.cells.lookup x=hG c->c≠b)/\∀p∈X.pn++a,p.1≠b
def Inv.oK{d:kv}{f:St}{s:hW}{b:h9}(I:Inv X d f H s)(a:(zz9 s)<=b)(g:H' b=hI):gV X d H' b:=by
 refine{g,Nat.ne_of_gt (el I.lt a),I.SY a,.inr (ee I.sz a),λx c e z=>?_,λp h z=>?_}
 .let(v,q):=I.cell x c e;exact absurd (el q.lt (by rw [z];exact a)) (Nat.lt_irrefl _)
 .exact absurd (el (c8 (I.pin p h).1) (by rw [z];exact a)) (Nat.lt_irrefl _)
structure Turn(P:ig)(w:ij)(K:zz8)(tg:ia)(J:It)(fp:List h9)(it:h9)(tn:Nat->i1->Prop):Prop where
 mem:it∈fp
 obj:∀i h,tn i h->∀b∈fp,∃o,h.get? b=hG o/\∀v,o.data≠.cell v
 keep:∀i h h',tn i h->(∀b∈fp,∀o,h.get? b=hG o->h'.get? b=hG o)->tn i h'
 item:∀(X:Cx),X.prog=P->X.w=w->X.K=K->X.calm=hQ->∀(i:Nat) (ae:kv) (s:hW) (σ:St) (H:Hp) (E:ku),Inv X ae σ H s->(∀b∈fp,gV X ae H b)->tn i s.heap->J.go i H->
  ie (ik P w) X.A (pyNext (.ref it)) (λr s1=>∃u,r=hG u/\
   ie (ik P w) X.A (letOwnedTupleGo tg (.ref it) u) (λ_ s2=>∃x H',Inv X ae σ H' s2/\RelV x u/\J.Nc i H x H'/\tn (i+1) s2.heap/\∀b∈fp,H' b=hI) E s1) E s
 done:∀(X:Cx),X.prog=P->X.w=w->X.K=K->X.calm=hQ->∀(i:Nat) (ae:kv) (s:hW) (σ:St) (H:Hp) (E:ku),Inv X ae σ H s->(∀b∈fp,gV X ae H b)->tn i s.heap->J.stop i H->
  ie (ik P w) X.A (pyNext (.ref it)) (λr s1=>r=hI/\Inv X ae σ H s1) E s
 self:∀(A:il) (i:Nat) (s:hW) (Q:ku) (E:ku),tn i s.heap->Q (.ref it) s->ie (ik P w) A (pyIter (.ref it)) Q E s
noncomputable abbrev TI:=St->Hp->(It->Hp->Prop)->Prop
def TX(X:Cx)(c:kv)(e:St)(f:ia)(R:It->Hp->Prop)(g:hV)(d:hW):Prop:=
 ∃(it:h9) (fp:List h9) (tn:Nat->i1->Prop) (J:It) (a:Hp),g=.ref it/\Inv X c e a d/\Turn X.prog X.w X.K f J fp it tn/\tn 0 d.heap/\(∀b∈fp,gV X c a b)/\R J a
def PI(X:Cx)(d a:ia)(e:TI):Prop:=
 ∀(c:kv) (s:hW) (b:St) (H:Hp) (R:It->Hp->Prop),Inv X c b H s->e b H R->
  zx7 X (eval a X.env) (λv f=>zx7 X (pyIter v) (TX X c b d R) X.xe f) X.xe s
def xO{M:Model}{E:ku}{s:hW}{b:ia}{it:h9}{n:String}{vs:Array hV}{Q:Unit->hW->Prop}(c:s.heap.get? it=hG o)(d:o.cls=.type n)(hd:o.data=.fields vs)
 (e:[zu 2,"zip","dict_itemiterator","dict_reverseitemiterator","odict_iterator","itertools.zip_longest","itertools.pairwise"].contains n=hU) (a:Q () s):ie M A (letOwnedTupleGo b (.ref it) u) Q E s:=by
 unfold letOwnedTupleGo;cases b<;>first
  |exact bc a
  |(cases u<;>first
   |exact bc a
   | (refine ak (wpAny_load c ?_)
      rw [d,hd];show ie M A (if([zu 2,"zip","dict_itemiterator","dict_reverseitemiterator","odict_iterator","itertools.zip_longest","itertools.pairwise"].contains n&&vs[0]?==hG (rawInt _))=hQ then _ else _) Q E s;rw [if_neg (by intro h;rw [e,Bool.false_and] at h;cases h)];exact bc a))
abbrev Q8(K:zz8)(a:h9):It:=
 {λi H=>∃xs x,kJ K H a xs/\xs[i]?=hG x,λi H x b=>b=H/\∀xs,kJ K H a xs->xs[i]?=hG x,λi H=>∃xs,kJ K H a xs/\xs.length<=i}
abbrev Q9(K:zz8)(a:h9):It:=
 {λi H=>∃xs x,fC K H a xs/\xs[i]?=hG x,λi H x b=>b=H/\∀xs,fC K H a xs->xs[i]?=hG x,λi H=>∃xs,fC K H a xs/\xs.length<=i}
abbrev Nl(a:Int)(n:Nat):It:={λi Z=>i<n,λi H x b=>b=H/\x=.int (a+i),λi Z=>n<=i}
def Az{K:zz8}{Q:ia}(a it:h9):Turn P w K Q (Q8 K a) [it] it (λi h=>h.IsListIter it a i) where
 mem:=by simp
 obj:=λi h st b f=>by have e:b=it:=zx6 f;subst e;let(o,e,c,d):=st;exact{o,e,λv z=>by rw [d] at z;cases z}
 keep:=λi h g st k=>st.at λo e=>k it (by simp) o e
 item:=by intro X q r hK L i M s N H E I j st t;subst q r hK;let(xs,x,m,y):=t;let(R,A,p,S):=I.list m;let(u,T,U):=A.get y;let(B,C,V,D,F,G):=j it (by simp);refine wpAny_pyNext_list_item st p.isList (x:=u) (zx6 T) λg O W=>?_;have Y:Inv X M N H {s with heap:=g}:=I.turned (t':=s.toks) (λb o f e=>(W.2 b f).trans e) B C D F G;let(o,e,c,d):=id O;exact{u,rfl,xO (s:={s with heap:=g}) e c d (by decide) {x,H,Y,U,{rfl,λys Z=>by rw [I.uA Z m];exact y},O,λb f=>(j b f).1}}
 done:=by intro X q r hK L i M s N H E I j st t;subst q r hK;let(xs,m,y):=t;let(R,A,p,S):=I.list m;let(B,C,V,D,F,G):=j it (by simp);have hl:=A.length;exact wpAny_pyNext_list_end (I.ok.hd L) st p.isList (by simp;lia) λg eb=>{rfl,I.turned (t':=s.toks) (λb o f e=>eb b o f e) B C D F G}
 self:=λ_ _ _ _ _ st h=>wpAny_pyIter_listiter st h
def wX{K:zz8}{R:ia}(a it:h9):Turn P w K R (Q9 K a) [it] it (λi h=>h.IsTupleIter it a i) where
 mem:=by simp
 obj:=λi h st b f=>by have e:b=it:=zx6 f;subst e;let(o,e,c,d):=st;exact{o,e,λv z=>by rw [d] at z;cases z}
 keep:=λi h g st k=>st.at λo e=>k it (by simp) o e
 item:=by intro X q r hK M i N s O H E I j st t;subst q r hK;let(xs,x,m,y):=t;let(A,B,p,S):=I.tuple m;let(u,T,U):=B.get y;let(C,D,V,F,G,L):=j it (by simp);refine wpAny_pyNext_tuple_item st (show s.heap.IsTuple a A.toArray from p) (x:=u) (zx6 T) λg Q W=>?_;have Y:Inv X N O H {s with heap:=g}:=I.turned (t':=s.toks) (λb o f e=>(W.2 b f).trans e) C D F G L;let(o,e,c,d):=id Q;exact{u,rfl,xO (s:={s with heap:=g}) e c d (by decide) {x,H,Y,U,{rfl,λys Z=>by rw [I.qr Z m];exact y},Q,λb f=>(j b f).1}}
 done:=by intro X q r hK M i N s O H E I j st t;subst q r hK;let(xs,m,y):=t;let(A,B,p,S):=I.tuple m;let(C,D,V,F,G,L):=j it (by simp);have hl:=B.length;exact wpAny_pyNext_tuple_end (I.ok.hd M) st (show s.heap.IsTuple a A.toArray from p) (by simp;lia) λg eb=>{rfl,I.turned (t':=s.toks) (λb o f e=>eb b o f e) C D F G L}
 self:=λ_ _ _ _ _ st h=>wpAny_pyIter_tupleiter st h
def wW{w:ij}{K:zz8}{G:ia}(it:h9)(c:Int)(n:Nat):Turn P w K G (Nl c n) [it] it (λi h=>IsRangeIter h it (c+(i:Nat)*1) ((n:Int)-(i:Nat)) 1) where
 mem:=by simp
 obj:=λi h st b a=>by have e:b=it:=zx6 a;subst e;exact{_,st,λv z=>by have L:Data.fields _=Data.cell v:=z;cases L}
 keep:=λi h d st k=>k it (by simp) _ st
 item:=by intro X g j hK m i B s C H E I f st p;subst g j hK;let(q,r,M,u,y,A):=f it (by simp);have W:=Walks.range (prog:=X.prog) (w:=X.w) (I.ok.hd m) it c 1 n;refine W.item i s _ _ p st λv d D N F O=>?_;let(t,rfl):=N;have Q:Inv X B C H {s with heap:=d,toks:=D}:=I.turned (λb o a e=>O b o (zx6 a) e) q r u y A;refine{_,rfl,xO (s:={s with heap:=d,toks:=D}) (n:="range_iterator") F rfl rfl (by decide) {.int (c+i),H,Q,{t,?_},⟨rfl,rfl⟩,F,λb a=>(f b a).1}};rw [Int.mul_one]
 done:=by intro X g j hK m i B s C H E I f st p;subst g j hK;let(q,r,M,u,y,A):=f it (by simp);exact wpAny_pyNext_range_end (I.ok.hd m) st (by have:n<=i:=p;lia) λd R=>{rfl,I.turned (t':=s.toks) (λb o a e=>R b o a e) q r u y A}
 self:=λZ Z Z Z Z st h=>wpAny_pyIter_rangeiter st h
section
variable{tg:ia}
abbrev OB(K:zz8)(c:TE):TI:=λd H R=>c d H λx b=>∃a,x=.ref a/\(∃xs,kJ K b a xs)/\R (Q8 K a) b
abbrev So(K:zz8)(c:TE):TI:=λd H R=>c d H λx b=>∃a,x=.ref a/\(∃xs,fC K b a xs)/\R (Q9 K a) b
def ym{l:ia}{g:TE}(hl:PE X l g):PI X tg l (OB X.K g):=by intro i s j H R I h;refine bM (hl i s j H _ I h) λv c f=>?_;let(x,k,d,m,r):=f;let(a,e,(xs,t),q):=r;subst e;cases m;let(w,y,p,z):=d.list t;refine wpAny_pyIter_list p.isList ?_;refine{(zz9 c),[(zz9 c)],_,_,k,rfl,d.kept (t':=c.toks) λb o e=>ar _ e,Az a _,{_,en _ rfl,rfl,rfl},λb u=>?_,q};have e:b=(zz9 c):=zx6 u;subst e;exact d.oK (a8 _) (d.aR.fresh (a8 _))
def L3{l:ia}{g:TE}(hl:PE X l g):PI X tg l (So X.K g):=by intro i s j H R I h;refine bM (hl i s j H _ I h) λv c f=>?_;let(x,k,d,m,r):=f;let(a,e,(xs,t),q):=r;subst e;cases m;let(u,y,p,z):=d.tuple t;refine wpAny_pyIter_tuple (show c.heap.IsTuple a u.toArray from p) ?_;refine{(zz9 c),[(zz9 c)],_,_,k,rfl,d.kept (t':=c.toks) λb o e=>ar _ e,wX a _,{_,en _ rfl,rfl,rfl},λb w=>?_,q};have e:b=(zz9 c):=zx6 w;subst e;exact d.oK (a8 _) (d.aR.fresh (a8 _))
def uV{d:kv}{f:St}{s:hW}{R:It->Hp->Prop}{E:ku}{a:Int}{t u v:Tok}{tk:Nat}(I:Inv X d f H s)(h: -(2^62)<=a)(i:a<2^62)(j: -(2^62)<=c)(k:c<2^62)
 (q:R (Nl a (c-a).toNat) H):zx7 X (pyIter (.ref (zz9 s))) (TX X d f tg R) E {s with heap:=s.heap.push {cls:=.type "range",data:=.fields #[.int a t,.int c u,.int 1 v]},toks:=tk}:=by
 refine wpAny_pyIter_range (IsRange.new ..) (small_one h i j k) ?_;have g:Inv X d f H {s with heap:=s.heap.push {cls:=.type "range",data:=.fields #[.int a t,.int c u,.int 1 v]},toks:=tk}:=I.kept λb o e=>ar _ e
 refine{(s.heap.push {cls:=.type "range",data:=.fields #[.int a t,.int c u,.int 1 v]}).objs.size,[(s.heap.push {cls:=.type "range",data:=.fields #[.int a t,.int c u,.int 1 v]}).objs.size],_,_,H,rfl,
  g.kept (t':=tk) λb o e=>ar _ e,wW _ a (c-a).toNat,?_,λb m=>?_,q}
 .have e1:a+((0:Nat):Int)*1=a:=by simp
  have p:(((c-a).toNat:Nat):Int)-((0:Nat):Int)=jj.Range.rangeSize a c 1:=by rw [rangeSize_one];split<;>lia
  show IsRangeIter _ _ (a+((0:Nat):Int)*1) ((((c-a).toNat:Nat):Int)-((0:Nat):Int)) 1;rw [e1,p];exact en _ rfl
 .have e:b=(s.heap.push {cls:=.type "range",data:=.fields #[.int a t,.int c u,.int 1 v]}).objs.size:=zx6 m;subst e;exact g.oK (a8 _) (g.aR.fresh (a8 _))
abbrev OC(a:TA):TI:=λb H R=>a b H λc d=>∃j:Int,c=[.int j]/\ -(2^62)<=j/\j<2^62/\R (Nl 0 j.toNat) d
abbrev OD(a:TA):TI:=λb H R=>a b H λc d=>∃i j:Int,c=[.int i,.int j]/\(-(2^62)<=i/\i<2^62/\ -(2^62)<=j/\j<2^62)/\R (Nl i (j-i).toNat) d
theorem Ak{a:ia}{d:TA}{p:Pos}(f:Gl X "range")(hm:X.mg "range"=hI)(g:PA X [a] d)(hs:starEach [a] X.env=[(hU,eval a X.env)]:=by rfl):PI X tg (.Call (.Name "range" p) [a] [] pos) (OC d):=by
 intro i s k H R I h;refine Call_ (gD I f hm boot_range (PyProof.Rows.callWith_type1 (bM (g pos i s k H _ I h) λy z b=>?_) hs rfl));let(A,B,m,o,c):=b;let(j,e,c,u,q):=c
 subst e;cases o with
 |cons r w=>cases w;let(t,rfl):=r;exact call_range_1 (uV m (by lia) (by lia) c u (zx6 q))
theorem Al{a b:ia}{g:TA}{p:Pos}(m:Gl X "range")(hm:X.mg "range"=hI)(o:PA X [a,b] g)(hs:starEach [a,b] X.env=[(hU,eval a X.env),(hU,eval b X.env)]:=by rfl)(k:starEach [b] X.env=[(hU,eval b X.env)]:=by rfl):
 PI X tg (.Call (.Name "range" p) [a,b] [] pos) (OD g):=by
 intro u s w H R I h;refine Call_ (gD I m hm boot_range (PyProof.Rows.callWith_type1 (bM (o pos u s w H _ I h) λE F c=>?_) (by rw [hs,k]) (by rw [k];rfl)));let(G,K,y,z,d):=c;let(i,j,e,(d,A,B,C),q):=d
 subst e;cases z with
 |cons r f=>
  cases f with
  |cons D f=>cases f;let(t,rfl):=r;let(L,rfl):=D;exact call_range_2 (uV y d A B C q)
abbrev TB(f:TI)(g:TG)(tb:TS):TS:=λD a H=>f a H λJ h=>∃W:Nat->Nat->St->Hp->Prop,(∃m,W 0 m a h)/\∀i m a H,W i m a H->
 (J.stop i H/\D.nx a H)\/(J.go i H/\∃N:St->Hp->Prop,(∀b c,N b c->∃e,e<m/\W (i+1) e b c)/\∀x c,J.Nc i H x c->g x a c λd j=>tb {D with nx:=N,ct:=N,bk:=D.nx} d j)
abbrev rK(fp:List h9)(h:i1):kv:=fp.filterMap λb=>(h.get? b).map λo=>(b,o)
def dW{fp:List h9}{b:h9}(a:b∈fp)(e:h.get? b=hG o):(b,o)∈rK fp h:=gS.mpr {b,a,by rw [e];rfl}
def Ag{fp:List h9}{p:h9×Obj}(a:p∈rK fp h):p.1∈fp/\h.get? p.1=hG p.2:=by
 let(b,c,e):=gS.mp a
 cases q:h.get? b with
 |none=>rw [q] at e;cases e
 |some o=>rw [q] at e;have d:(b,o)=p:=zzq e;subst d;exact⟨c,q⟩
theorem Inv.pinned{a:kv}{c:St}{s:hW}{fp:List h9}(I:Inv X a c H s)(h:∀b∈fp,gV X a H b)(i:∀b∈fp,∃o,s.heap.get? b=hG o/\∀v,o.data≠.cell v):Inv X (a++rK fp s.heap) c H s:=
 I.iO λp j=>(List.mem_append.mp j).elim (λz=>I.pin p (d0 _ z)) λz=>by let(f,e):=Ag z;let(k,m,q,_):=h p.1 f;let(o,g,d):=i p.1 f;rw [e] at g;cases g;exact⟨e,k,m,q,d⟩
def Inv.kD{a pl:kv}{b:St}{s:hW}(I:Inv X (a++pl) b H s):Inv X a b H s:=I.iO λp c=>I.pin p (d0 _ (eu _ c))
def De{c:ia}{body:List je}{Y:TI}{g:TG}{tb:TS}(G:PassesOwn (ik X.prog X.w) X.A X.env X.xe)(Z:X.calm=hQ)(hi:PI X tg c Y)(hg:PG X tg g)(j:sy X body tb)
 (hs:∀x,foldedSetIterable c X.env x=pure x:=by intro _;rfl):PS X (.For tg c body [] pos) (TB Y g tb):=by
 intro C s σ H D I h;refine wpAny_For (bM (hi C s σ H _ I h) λv s1 h1=>bM h1 λSx s2 h2=>?_) hs;let(it,fp,tn,J,H2,e,I2,T,Ef,f2,W,(m0,w0),K):=h2;subst e;have Q:∀{z:Hp},(∀b∈fp,z b=hI)->∀b∈fp,gV X C z b:=λhn b j=>{hn b j,(f2 b j).2};refine codeAny_forLoop_any (λn s'=>∃i k z,Inv X C k z s'/\tn i s'.heap/\(∀b∈fp,z b=hI)/\W i n k z) ?_ m0 {0,σ,H2,I2,Ef,λb j=>(f2 b j).1,w0}
 rintro n s3 ⟨i,p,P,I3,L,M,w3⟩
 rcases K i n p P w3 with⟨stop,qn⟩|⟨go,N,hN,step⟩
 .refine wpAny_passesOwn G (bM (T.done X rfl rfl rfl Z i C s3 p P X.xe I3 (Q M) L stop) λr s4 ⟨R,I4⟩=>?_);subst R;exact wpAny_execs_nil ⟨p,P,I4,qn⟩
 .refine wpAny_passesOwn G (bM (T.item X rfl rfl rfl Z i C s3 p P X.xe I3 (Q M) L go) λr s4 ⟨u,R,h4⟩=>?_);subst R;refine wpAny_passesOwn G (bM h4 λ_ s5 E=>?_);let(x,H5,I5,r5,y5,F,S):=E;have QX:=I5.pinned (Q S) (T.obj _ _ F);refine wpAny_passesOwn G (bM (hg _ s5 p H5 x u _ QX r5 (step x H5 y5)) λ_ s6 E=>?_);let(U,H6,I6,q6):=E;refine wpAny_passesOwn G (bM (j _ s6 U H6 _ I6 q6) λf V B=>?_);have q:∀{a:St} {t:Hp},Inv X (C++rK fp s5.heap) a t V->N a t->∃m,m<n/\∃i k z,Inv X C k z V/\tn i V.heap/\(∀b∈fp,z b=hI)/\W i m k z:=λ{a t} y O=>by let(m',hm,w7):=hN a t O;refine{m',hm,i+1,a,t,y.kD,T.keep _ _ _ F λb j o e=>(y.pin (b,o) (d0 _ (d0 _ (dW j e)))).1,λb j=>?_,w7};let(o,e,d):=T.obj _ _ F b j;exact(y.pin (b,o) (d0 _ (d0 _ (dW j e)))).2.1
  cases f with
  |next=>let(a,t,y,O):=B;exact q y O|cont=>let(a,t,y,O):=B;exact q y O|brk=>let(a,t,y,B):=B;exact⟨a,t,y.kD,B⟩|ret v=>let(x7,a,t,y,r7,B):=B;exact⟨x7,a,t,y.kD,r7,B⟩
end
noncomputable abbrev R2:=V->V->Hp->VK->Prop
def gB(X:Cx)(f:hV->hV->Sem hV)(r:R2):Prop:=
 ∀(a:kv) (s:hW) (b:St) (H:Hp) (x y:V) (v u:hV) (Q:VK),Inv X a b H s->RelV x v->RelV y u->r x y H Q->
  zx7 X (f v u) (EP X a b Q) X.xe s
def Qa(X:Cx)(f:hV->Sem hV)(r:V->Hp->VK->Prop):Prop:=
 ∀(a:kv) (s:hW) (b:St) (H:Hp) (x:V) (v:hV) (Q:VK),Inv X a b H s->RelV x v->r x H Q->
  zx7 X (f v) (EP X a b Q) X.xe s
def eC(X:Cx)(f:hV)(r:List V->Hp->VK->Prop):Prop:=
 ∀(a:kv) (s:hW) (b:St) (H:Hp) (xs:List V) (c:List hV) (Q:VK),Inv X a b H s->Vals xs c->r xs H Q->
  zx7 X (call f c) (EP X a b Q) X.xe s
abbrev MB(r:R2)(b tb:TE):TE:=λa H Q=>b a H λx c=>tb a c λy d=>r x y d Q
abbrev XG(r:V->Hp->VK->Prop)(a:TE):TE:=λb H Q=>a b H λx c=>r x c Q
abbrev rI(C:Int->Int->Prop)(g:Int->Int->V):R2:=λx y H Q=>∃i j,x=.int i/\y=.int j/\C i j/\Q (g i j) H
abbrev Mb(g:Int->Int->V):R2:=λx y H Q=>∃i j,x=.int i/\y=.int j/\Q (g i j) H
def rU(g:Int->V):V->Hp->VK->Prop:=λx H Q=>∃i,x=.int i/\Q (g i) H
section
variable{a b:ia}{ta tb:TE}
def Jp(o:PE X a ta)(p:PE X b tb){j:kv}{s:hW}{d:St}{R:V->V->Hp->Prop}(I:Inv X j d H s)
 (h:ta d H λx m=>tb d m λy e=>R x y e) {Q:ku} {f:hV->hV->Sem hV}
 (hf:∀v u k x y e,Inv X j d e k->RelV x v->RelV y u->R x y e->zx7 X (f v u) Q X.xe k):
 zx7 X (eval a X.env) (λv g=>zx7 X (eval b X.env) (λu i=>zx7 X (f v u) Q X.xe i) X.xe g) X.xe s:=by
 refine bM (o j s d H _ I h) λv q c=>?_;let(x,m,r,t,z):=c;refine bM (p j q d m _ r z) λu k c=>?_;let(y,e,B,C,D):=c;exact hf v u k x y e B t C D
def O3{op:Operator}{r:R2}(c:gB X (binaryOp op) r)(d:PE X a ta)(e:PE X b tb):PE X (.BinOp a op b pos) (MB r ta tb):=by intro f s g H Q I h;exact wpAny_BinOp (Jp d e I h λv u i x y j k m o q=>c f i g j x y v u Q k m o q)
def O5{op:UnaryOp}{r:V->Hp->VK->Prop}(e:Qa X (unaryOp op) r)(f:PE X a ta):PE X (.UnaryOp op a pos) (XG r ta):=by intro c s d H Q I h;exact UnaryOp_ (bM (f c s d H _ I h) λv g ⟨x,H1,i,j,k⟩=>e c g d H1 x v Q i j k)
def CC{f:hV->hV->Sem hV}{C:Int->Int->Prop}{g:Int->Int->Int}
 (rule:∀(i j:Int) (t u:Tok) (s:hW) (Q:ku) (E:ku),C i j->Q (.int (g i j) s.toks) {s with toks:=s.toks+1}->zx7 X (f (.int i t) (.int j u)) Q E s):
 gB X f (rI C λi j=>.int (g i j)):=by
 intro m s o H x y v u Q I c d h;let(i,j,rfl,rfl,e,q):=h;let(t,rfl):=c;let(k,rfl):=d;exact rule i j t k s _ _ e {.int (g i j),H,I.tok _,{_,rfl},q}
def OW{f:hV->hV->Sem hV}{g:Int->Int->Int}
 (rule:∀(i j:Int) (t u:Tok) (s:hW) (Q:ku) (E:ku),Q (.int (g i j) s.toks) {s with toks:=s.toks+1}->zx7 X (f (.int i t) (.int j u)) Q E s):
 gB X f (Mb λi j=>.int (g i j)):=by
 intro k s m H x y v u Q I c d h;let(i,j,rfl,rfl,q):=h;let(t,rfl):=c;let(e,rfl):=d;exact rule i j t e s _ _ {.int (g i j),H,I.tok _,{_,rfl},q}
def Lv{f:hV->hV->Sem hV}{g:Int->Int->Bool}
 (rule:∀(i j:Int) (t u:Tok) (s:hW) (Q:ku) (E:ku),Q (.bool (g i j)) s->zx7 X (f (.int i t) (.int j u)) Q E s):
 gB X f (Mb λi j=>.bl (g i j)):=by
 intro k s m H x y v u Q I c d h;let(i,j,rfl,rfl,q):=h;let(t,rfl):=c;let(e,rfl):=d;exact rule i j t e s _ _ {.bl (g i j),H,I,rfl,q}
def QR(i j:Int):Prop:=0<j/\j<1073741824
def IX(i j:Int):Prop:=(-(2^64)<i/\i<2^64)\/(-(2^64)<j/\j<2^64)
def IX.ok{i j:Int}(h:IX i j):IntMulOk i j:=by
 rcases h with⟨c,d⟩|⟨c,d⟩
 .exact .of_left (intBits_le_64 c d)
 .exact .of_right (intBits_le_64 c d)
def Lw:gB X (binaryOp .Add) (Mb λi j=>.int (i+j)):=OW λZ Z Z Z Z Z Z q=>add_int q
def LK:gB X (binaryOp .Sub) (Mb λi j=>.int (i-j)):=OW λZ Z Z Z Z Z Z q=>sub_int q
def LH:gB X (binaryOp .Mult) (rI IX λi j=>.int (i*j)):=CC λZ Z Z Z Z Z Z c q=>mul_int q c.ok
theorem Gh:gB X (binaryOp .FloorDiv) (rI QR λi j=>.int (i/j)):=CC λi j Z Z Z Z Z c q=>by have d:(0:Int)<j:=c.1;have e:j<1073741824:=c.2;exact floordiv_int (by lia) (by rw [Int.fdiv_eq_ediv_of_nonneg i (by lia)];exact q) (.inl (PyProof.noPylong_small (by lia)))
theorem LG:gB X (binaryOp .Mod) (rI (λZ j=>0<j) λi j=>.int (i%j)):=CC λi j Z Z Z Z Z c q=>by have d:(0:Int)<j:=c;exact mod_int' (by lia) (by rw [Int.fmod_eq_emod_of_nonneg i (by lia)];exact q)
def XM{f:hV->Sem hV}{g:Int->Int}
 (rule:∀(i:Int) (t:Tok) (s:hW) (Q:ku) (E:ku),Q (.int (g i) s.toks) {s with toks:=s.toks+1}->zx7 X (f (.int i t)) Q E s):
 Qa X f (rU λi=>.int (g i)):=by
 intro d s e H x v Q I c h;let(i,rfl,q):=h;let(t,rfl):=c;exact rule i t s _ _ {.int (g i),H,I.tok _,{_,rfl},q}
def MI:Qa X (unaryOp .USub) (rU λi=>.int (-i)):=XM λZ Z Z Z Z q=>neg_int q
variable{c:ia}{tc:TE}
def qX{d:kv}{f:St}{s:hW}{k g:Bool}(I:Inv X d f H s)(q:Q (.bl k) H)(e:k=g):EP X d f Q (.bool g) s:=by subst e;exact{.bl k,H,I,rfl,q}
def OZ:gB X (compareOp .Lt) (Mb λi j=>.bl (decide (i<j))):=Lv λZ Z Z Z Z Z Z q=>lt_int q
def OY:gB X (compareOp .LtE) (Mb λi j=>.bl (decide (i<=j))):=Lv λZ Z Z Z Z Z Z q=>le_int q
def OX:gB X (compareOp .Gt) (Mb λi j=>.bl (decide (j<i))):=Lv λZ Z Z Z Z Z Z q=>gt_int q
def Ah:gB X (compareOp .In) (λx y H Q=>∃i j,x=.str i/\y=.str j/\Q (.bl (!(jj.Str.occurrences j i 0 j.length 1).isEmpty)) H):=by intro f s g H x y v u Q I d e h;let(i,j,rfl,rfl,q):=h;let(t,rfl):=d;let(k,rfl):=e;exact in_str (qX I q rfl)
def LB:gB X (compareOp .Is) (λx y H Q=>y=.aL/\Q (.bl (decide (x=.aL))) H):=by
 intro f s g H x y v u Q I d e h;let(rfl,q):=h
 cases e;refine is_none_gen (qX I q ?_);cases x<;>first
  |(cases d;rfl)
  |(let(t,rfl):=d;rfl)
def Gm:gB X (compareOp .IsNot) (λx y H Q=>y=.aL/\Q (.bl (!decide (x=.aL))) H):=by
 intro f s g H x y v u Q I d e h;let(rfl,q):=h
 cases e;refine isnot_none_gen (qX I q ?_);cases x<;>first
  |(cases d;rfl)
  |(let(t,rfl):=d;rfl)
def S1(b:ia){op:CmpOp}(h:op≠.In:=by decide)(d:op≠.NotIn:=by decide):behindInMarks op b=hU:=by
 have e1:(op==CmpOp.In)=hU:=by cases op<;>first|rfl|exact absurd rfl h
 have e:(op==CmpOp.NotIn)=hU:=by cases op<;>first|rfl|exact absurd rfl d
 cases b<;>simp [behindInMarks,e1,e]
def yk{op:CmpOp}{r:R2}(d:gB X (compareOp op) r)(e:PE X a ta)(f:PE X b tb)(hm:behindInMarks op b=hU):PE X (.Compare a [op] [b] pos) (MB r ta tb):=by intro g s i H Q I h;exact wpAny_Compare1 (Jp e f I h λv u j x y k m o p q=>d g j i k x y v u Q m o p q) hm
abbrev DL(t:TE):TT:=λd H Q=>t d H λx e=>∃k,x=.bl k/\Q k e
def yt{op:CmpOp}{r:R2}(g:gB X (compareOp op) r)(i:PE X a ta)(j:PE X b tb)(hm:behindInMarks op b=hU):PT X (.Compare a [op] [b] pos) (DL (MB r ta tb)):=by intro d s f H Q I h;refine wpAny_isTrue_Compare1 (bM (i d s f H _ I h) λv m ⟨x,H1,o,p,q⟩=>bM (j d m f H1 _ o q) λu t ⟨y,w,A,B,C⟩=>bM (g d t f w x y v u _ A p B C) λc K ⟨z,D,E,F,k,e,G⟩=>?_) hm;subst e;cases F;exact wpAny_truthy_bool ⟨D,E,G⟩
abbrev wM(r f:R2)(ta tb tc:TE):TE:=λd H Q=>ta d H λx g=>tb d g λy h=>r x y h λz e=>∃k,z=.bl k/\
 (if k=hQ then tc d e λi j=>f y i j Q else Q (.bl hU) e)
def CN{op i:CmpOp}{r j:R2}(t:gB X (compareOp op) r)(w:gB X (compareOp i) j)(A:PE X a ta)(B:PE X b tb)(C:PE X c tc)
 (hm:lastMarks [op,i] [b,c]=hU:=by with_unfolding_all rfl):PE X (.Compare a [op,i] [b,c] pos) (wM r j ta tb tc):=by
 intro f s g H Q I h;refine Compare_chain (bM (A f s g H _ I h) λv D ⟨x,H1,E,F,G⟩=>chain_link (bM (B f D g H1 _ E G) λu K ⟨y,L,M,m,N⟩=>bM (t f K g L x y v u _ M F m N) λd O ⟨z,o,p,P,k,e,q⟩=>?_)) hm
 subst e;cases P;refine wpAny_truthy_bool ?_;cases k with
 |false=>exact ite_ff {.bl hU,o,p,rfl,q}|true=>exact ite_tt (chain_last (bM (C f O g o _ p q) λR S ⟨T,U,V,W,Y⟩=>w f S g U y T u R Q V m W Y))
def Di{op i:CmpOp}{r m:R2}(w:gB X (compareOp op) r)(A:gB X (compareOp i) m)(B:PE X a ta)(C:PE X b tb)(D:PE X c tc)
 (hm:lastMarks [op,i] [b,c]=hU:=by with_unfolding_all rfl):PT X (.Compare a [op,i] [b,c] pos) (DL (wM r m ta tb tc)):=by
 intro f s g H Q I h;refine isTrue_chain (bM (B f s g H _ I h) λv E ⟨x,H1,F,G,K⟩=>test_link (bM (C f E g H1 _ F K) λu L ⟨y,M,N,o,O⟩=>bM (w f L g M x y v u _ N G o O) λd P ⟨z,p,q,R,k,e,t⟩=>?_)) hm
 subst e;cases R;refine wpAny_truthy_bool ?_;cases k with
 |false=>let(k',S,T):=t;cases S;exact ite_ff ⟨p,q,T⟩
 |true=>refine ite_tt (test_last (bM (D f P g p _ q t) λU V ⟨W,Y,Z,r4,q4⟩=>bM (A f V g Y y W u U _ Z o r4 q4) λd' s5 j=>?_));let(z2,H5,I5,r5,k2,e2,q5):=j;subst e2;cases r5;exact wpAny_truthy_bool ⟨H5,I5,q5⟩
def nJ:(i2:Nat)<2^63:=by rw [sizeLine_eq];decide
def wo:gB X (binaryOp .Add) (λx y H Q=>∃i j,x=.str i/\y=.str j/\i.length+j.length<=i2/\Q (.str (i++j)) H):=by intro k s m H x y v u Q I d e h;let(i,j,rfl,rfl,f,q):=h;let(t,rfl):=d;let(g,rfl):=e;exact add_str (λg o=>{.str (i++j),H,I.tok _,{_,rfl},q}) f
def vals1{x:V}(r:Vals [x] us):∃u,us=[u]/\RelV x u:=by
 cases r with
 |cons d e=>cases e;exact{_,rfl,d}
def vals2{x y:V}(r:Vals [x,y] us):∃u d,us=[u,d]/\RelV x u/\RelV y d:=by
 cases r with
 |cons e f=>
  cases f with
  |cons g h=>cases h;exact{_,_,rfl,e,g}
def Be:eC X (.builtin "abs") (λxs H Q=>∃i,xs=[.int i]/\Q (.int (if i<0 then -i else i)) H):=by intro d s e H xs f Q I r h;let(i,rfl,q):=h;let(u,rfl,t,rfl):=vals1 r;exact call_abs_int λu g=>{.int (if i<0 then -i else i),H,I.tok _,{_,rfl},q}
def ze(e:X.calm=hQ):eC X (.builtin "max") (λxs H Q=>∃i j,xs=[.int i,.int j]/\Q (.int (if j>i then j else i)) H):=by
 intro f s g H xs m Q I r h;let(i,j,rfl,q):=h;let(u,o,rfl,(t,rfl),(p,rfl)):=vals2 r;refine max_two_ints (I.ok.hd e) λw y k=>{_,H,I.kept k,?_,q};by_cases d:j>i
 .rw [if_pos d,if_pos d];exact{_,rfl}
 .rw [if_neg d,if_neg d];exact{_,rfl}
def qL:eC X (.type "str") (λxs H Q=>∃i,xs=[.int i]/\i.natAbs.log2<1920/\Q (.str (toString i)) H):=by intro e s f H xs g Q I r h;let(i,rfl,d,q):=h;let(u,rfl,t,rfl):=vals1 r;exact PySem.P.str_of_int d {.str _,H,I.tok _,{_,rfl},q}
end
structure vq(h:i1)(x dx C:h9)(mA:Str->Option hV):Prop where
 obj:h.get? x=hG (PySem.W.instObj C dx)
 ns:h.Ns1 dx mA
 ne:dx≠x
def z9{dx:h9}{b:Str->Option hV}(n:h.Ns1 dx b):∃c,h.get? dx=hG c/\∀name,PySem.W.lookIn name c=hG (b name):=by
 let(o,d,k,f,hd,hk,_,hm):=n;refine{o,f,λname=>?_};have e:=hm name;unfold nsFind findBy at e;rw [<-Array.find?_toList] at e;unfold PySem.W.lookIn;rw [hd];dsimp only;split
 .rename_i y q;rw [q] at e;exact congrArg hG e
 .rename_i q;rw [q] at e;have a:d.toList.any (·.refKey)=hU:=by
   rw [List.any_eq_false];intro y g;let(z,t,i):=hk y (Array.mem_toList_iff.mp g);simp [DictEntry.refKey,i]
  have j:¬d.toList.any (·.refKey)=hQ:=by rw [a];exact zzf
  rw [if_neg j];exact congrArg hG e
theorem vq.look{x dx C:h9}{b:Str->Option hV}(I:vq h x dx C b):∃a,PySem.W.InstAt h x (PySem.W.instObj C dx) C (hG a)/\∀name,PySem.W.lookIn name a=hG (b name):=
 let⟨a,c,hl⟩:=z9 I.ns
 {a,⟨I.obj,rfl,rfl,c⟩,hl}
section
variable{E:ku}{s:hW}{K:zz8}{x dx C f:h9}{mA:Str->Option hV}{name:Str}{v:hV}
def get_map{expr:Bool}{Q:ku}(X:K.In s.heap)(I:vq s.heap x dx C mA)(a:PySem.W.plainGet K C name=hQ)(b:PySem.W.hasDictIn K C=hQ)
 (c:PySem.W.findIn K (.ref C) name=hG hI) (d:mA name=hG v) (e:PySem.W.handedIn v=hQ) (h:Q v {s with toks:=s.toks+1}):
 ie (ik prog w) A (getAttr (.ref x) name expr) Q E s:=by
 let(g,J,hl):=I.look;exact PySem.W.get_value X J (PySem.W.plainGet_of a).1 (PySem.W.findObj_own b c rfl (by rw [hl,d])) e h
def BG{pl:Sem Bool}{Q:hV×List hV->hW->Prop}(X:K.In s.heap)(I:vq s.heap x dx C mA)(a:PySem.W.plainGet K C name=hQ)
 (hf:PySem.W.findIn K (.ref C) name=hG (hG (.ref f))) (b:PySem.W.isFn K (.ref f)=hQ) (c:mA name=hI) (h:Q (.ref f,[.ref x]) s):
 ie (ik prog w) A (getMethod (.ref x) name pl) Q E s:=by
 let(d,J,hl):=I.look;exact PySem.W.method_fn X J (PySem.W.plainGet_of a).1 (PySem.W.plainGet_of a).2 hf (zzy.mp b) (by show(PySem.W.lookIn name d).map (·.isSome)=hG hU;rw [hl,c];rfl) h
def GV{ns:List Str}{Q:Unit->hW->Prop}(X:K.In s.heap)(I:vq s.heap x dx C mA)
 (hs:PySem.W.findIn K (.ref C) "__setattr__"=hG (hG (.builtin "object.__setattr__"))) (j:PySem.W.plainOver K C=hQ) (k:PySem.W.takerIn K C name=hG hI) (m:PySem.W.hasDictIn K C=hQ)
 (hw:PySem.Within mA ns) (hsz:ns.length<=i2)
 (h:∀h',vq h' x dx C (λy=>if y=name then hG v else mA y)->i1.SameBut dx s.heap h'->Q () {s with heap:=h',toks:=s.toks+2}):
 ie (ik prog w) A (setAttr (.ref x) name v) Q E s:=by
 let(z,J,hl):=I.look;refine PySem.W.set_plain X J hs (PySem.W.osa_open (s:={s with toks:=s.toks+1}) (r:=hI) X J j k λb=>?_);let(cd,o,p):=PySem.W.any_some m;have q:s.heap.get? x=hG {.ref C,hG dx,.plain,#[]}:=I.obj;refine ak (bc (ak (ak (wpAny_loadPart q (ak (PySem.W.Looks.here (s:={s with toks:=s.toks+1}) (PySem.W.looks_clsIn X o) ?_))))));rw [p];refine bc (a:=hG dx) (ak (bc (ak ?_)));refine wpAny_nsSet1 (s:={s with toks:=s.toks+1}) I.ns λh' g i=>?_;let(B,t,u,c,d,e):=g.count (PySem.Within.cons name v hw);refine ak (wpAny_lookBehind c (by rw [d];exact pastItsLine_dict (ee e (by rw [cS];lia))) ?_);exact bc (h _ {(i.2 _ (Ne.symm I.ne)).trans I.obj,g,I.ne} i)
def Cj{R:Result->hW->Prop}{vs:List hV}{a:List (Str×hV)}(X:K.In s.heap)(hm:PySem.W.makesIn K C=hQ)
 (b:PySem.W.findIn K (.ref C) (zu 13)=hG (hG (.ref f))) (c:PySem.W.typeIn K (.ref f)=hG (.type "function"))
 (h:codeAny (ik prog w) (A.under (.builtin "type.__call__" {.ref C::vs,a})) (.call (.ref f) {.ref ((zz9 s)+1)::vs,a}) (PySem.W.InitBack ((zz9 s)+1) R)
  {s with heap:=(s.heap.push PySem.W.emptyDict).push (PySem.W.instObj C (zz9 s))}):
 codeAny (ik prog w) A (.call (.ref C) ⟨vs,a⟩) R s:=by
 let(e,g,d,t,os):=s;exact PySem.W.make_core (PySem.W.makes_of X hm) (PySem.W.looks_findIn X b) (λself=>PySem.W.bind_fn X self c) (.inl rfl) h
end
abbrev gL(f:Str)(v:V):List (Str×V)->List (Str×V)
 |[]=>[(f,v)]|(g,x)::r=>if g=f then(g,v)::r else(g,x)::gL f v r
theorem lP(f g:Str)(v:V):∀fs:List (Str×V),(gL f v fs).lookup g=if g=f then hG v else fs.lookup g
 |[]=>by
  show List.lookup g [(f,v)]=_;by_cases h:g=f
  .have a:(g==f)=hQ:=zzy.mpr h;simp! [List.lookup,a,if_pos h]
  .have a:(g==f)=hU:=beq_eq_false_iff_ne.mpr h;simp! [List.lookup,a,if_neg h]
 | (k,x)::r=>by
  have b:=lP f g v r;rw [show gL f v ((k,x)::r)=(if k=f then(k,v)::r else(k,x)::gL f v r) from rfl];by_cases hk:k=f
  .rw [if_pos hk];by_cases h:g=k
   .have a:(g==k)=hQ:=zzy.mpr h;simp! [List.lookup,a,if_pos (h.trans hk)]
   .have a:(g==k)=hU:=beq_eq_false_iff_ne.mpr h;simp! [List.lookup,a,if_neg (λe:g=f=>h (e.trans hk.symm))]
  .rw [if_neg hk];by_cases h:g=k
   .have a:(g==k)=hQ:=zzy.mpr h;simp! [List.lookup,a,if_neg (λe:g=f=>hk (h.symm.trans e))]
   .have a:(g==k)=hU:=beq_eq_false_iff_ne.mpr h;simp! [List.lookup,a];exact b
theorem kT(f:Str)(v:V):∀fs:List (Str×V),f∈(gL f v fs).map (·.1)/\∀g,g∈fs.map (·.1)->g∈(gL f v fs).map (·.1)
 |[]=>{by simp [gL],λg h=>by simp at h}
 | (k,x)::r=>by
  let(a,b):=kT f v r;rw [show gL f v ((k,x)::r)=(if k=f then(k,v)::r else(k,x)::gL f v r) from rfl];by_cases hk:k=f
  .rw [if_pos hk];subst hk;exact{by simp,λg h=>zx6 h}
  .rw [if_neg hk];refine{?_,λg h=>?_}
   .rw [a9];exact b0 _ a
   .rw [a9] at h⊢;rcases e9.mp h with e|e
    .exact e9.mpr (.inl e)
    .exact b0 _ (b g e)
theorem lN(f:Str)(v:V):∀fs:List (Str×V),(gL f v fs).length<=fs.length+1
 |[]=>by simp [gL]|(k,x)::r=>by
  have a:=lN f v r;rw [show gL f v ((k,x)::r)=(if k=f then(k,v)::r else(k,x)::gL f v r) from rfl];by_cases hk:k=f
  .rw [if_pos hk,cS,cS];lia
  .rw [if_neg hk,cS,cS];lia
def gX.some_of{o:Option hV}(r:gX (hG v) o):∃u,o=hG u/\RelV v u:=by
 cases o with
 |none=>exact(show False from r).elim|some u=>exact⟨u,rfl,r⟩
def gX.none_of{o:Option hV}(r:gX hI o):o=hI:=by
 cases o with
 |none=>rfl|some u=>exact(show False from r).elim
def zK(r:RelV v u):PySem.W.handedIn u=hQ:=by
 cases v with
 |aL=>cases(show u=hV.none from r);rfl
 |bl b=>cases(show u=hV.bool b from r);rfl
 |int i=>let(t,e):=(show∃t,u=hV.int i t from r);cases e;rfl
 |str x=>let(t,e):=(show∃t,u=hV.str x t from r);cases e;rfl
 |Qf b=>let(t,e):=(show∃t,u=hV.bytes b t from r);cases e;rfl
 |Ql b=>let(t,e):=(show∃t,u=hV.float b t from r);cases e;rfl
 |ref a=>cases(show u=hV.ref a from r);rfl
 |ty n=>cases(show u=hV.type n from r);rfl
section
variable{C dx:h9}{fs:List (Str×V)}
def rj(aR:eY P w H h)(e:H a=hG (.ins C dx fs)):∃b,vq h a dx C b/\(∀f,gX (fs.lookup f) (b f))/\PySem.Within b (fs.map (·.1))/\fs.length<=1000/\H dx=hG (.own a):=by let(d,z,ne,ob,b,n,r,q):=(show bZ P w H h a (.ins C dx fs) from aR a _ e);exact{b,⟨ob,n,ne⟩,r,q,z,d}
end
structure qv(K:zz8)(C:h9):Prop where
 pg:PySem.W.plainGet K C Str.empty=hQ
 hd:PySem.W.hasDictIn K C=hQ
 po:PySem.W.plainOver K C=hQ
 sa:PySem.W.findIn K (.ref C) "__setattr__"=hG (hG (.builtin "object.__setattr__"))
def qv.get{K:zz8}{C:h9}(c:qv K C)(f:Str):PySem.W.plainGet K C f=hQ:=c.pg
def cC(K:zz8)(C:h9)(f:Str):Prop:=PySem.W.findIn K (.ref C) f=hG hI
def cC.PJ{K:zz8}{C:h9}(n:cC K C f):PySem.W.takerIn K C f=hG hI:=by unfold PySem.W.takerIn;rw [show PySem.W.findIn K (.ref C) f=hG hI from n];rfl
structure Meth(K:zz8)(C:h9)(m:Str)(f:h9):Prop where
 at_:PySem.W.findIn K (.ref C) m=hG (hG (.ref f))
 fn:PySem.W.isFn K (.ref f)=hQ
 kp:PySem.W.keepIn K (.ref f)=hQ
section
variable{ae:kv}{s:hW}{C dx:h9}{fs:List (Str×V)}{E:ku}
def vP{b:Bool}{Q:ku}(I:zv2 s)(e:H a=hG (.ins C dx fs))(c:qv X.K C)(n:cC X.K C f)(l:fs.lookup f=hG v)
 (h:∀u s',Inv X ae σ H s'->RelV v u->Q u s'):ie (ik X.prog X.w) A (getAttr (.ref a) f b) Q E s:=by
 let(g,O,r,_,_,_):=rj I.aR e;let(u,i,d):=gX.some_of (v:=v) (o:=g f) (by rw [<-l];exact r f);exact get_map I.kS O (c.get f) c.hd n i (zK d) (h u _ (I.tok _) d)
def vQ{g:h9}{pl:Sem Bool}{Q:hV×List hV->hW->Prop}(I:zv2 s)(e:H a=hG (.ins C dx fs))(c:qv X.K C)(k:Meth X.K C m g)(l:fs.lookup m=hI)
 (h:Q (.ref g,[.ref a]) s):ie (ik X.prog X.w) A (getMethod (.ref a) m pl) Q E s:=by
 let(b,O,r,_,_,_):=rj I.aR e;have d:b m=hI:=gX.none_of (by rw [<-l];exact r m);exact BG I.kS O (c.get m) k.at_ k.fn d h
def wF{y:V}{Q:Unit->hW->Prop}(I:zv2 s)(e:H a=hG (.ins C dx fs))(c:qv X.K C)(n:cC X.K C f)(hl:fs.length<1000)(m:RelV y u)
 (h:∀s',Inv X ae σ (upd H a (.ins C dx (gL f y fs))) s'->Q () s'):ie (ik X.prog X.w) A (setAttr (.ref a) f u) Q E s:=by
 let(i,O,r,j,_,k):=rj I.aR e;have p:(fs.map (·.1)).length<=sizeLine:=by rw [zzl,sizeLine_eq];lia
 refine GV I.kS O c.sa c.po n.PJ c.hd j p λt d B=>h _ ?_;have hd:∃o,t.get? dx=hG o:=let⟨o,_,_,D,_⟩:=d.ns;⟨o,D⟩;refine I.write (x:=a) (e:=dx) (by rw [e];exact True.intro) (.inr k) (λb q F z=>(B.2 b F).trans z) hd ?_;refine{by rw [af O.ne];exact k,?_,O.ne,d.obj,_,d.ns,λg=>?_,λg G=>?_}
 .have:=lN f y fs;lia
 .show gX ((gL f y fs).lookup g) (if g=f then hG u else i g);rw [lP];by_cases q:g=f
  .rw [if_pos q,if_pos q];exact m
  .rw [if_neg q,if_neg q];exact r g
 .by_cases q:g=f
  .rw [q];exact(kT f y fs).1
  .refine(kT f y fs).2 g (j g λz=>G ?_);show(if g=f then hG u else i g)=hI;rw [if_neg q];exact z
def Inv.made(I:zv2 s):Inv X ae σ (upd (upd H (zz9 s) (.own ((zz9 s)+1))) ((zz9 s)+1) (.ins C (zz9 s) []))
 {s with heap:=(s.heap.push PySem.W.emptyDict).push (PySem.W.instObj C (zz9 s))}:=by
 have e1:(s.heap.push PySem.W.emptyDict).get? (zz9 s)=hG PySem.W.emptyDict:=en s.heap rfl
 have c:((s.heap.push PySem.W.emptyDict).push (PySem.W.instObj C (zz9 s))).get? ((zz9 s)+1)=hG (PySem.W.instObj C (zz9 s)):=by
  have:=en (s.heap.push PySem.W.emptyDict) (o:=PySem.W.instObj C (zz9 s)) rfl
  rwa [i1.size_push] at this
 have d:(s.heap.push PySem.W.emptyDict).Ns (zz9 s) (λZ=>hI):={PySem.W.emptyDict,#[],_,e1,rfl,(λe g=>absurd g (by simp)),λZ=>rfl};have h:=I.laid (a:=(zz9 s)) (o:=.own ((zz9 s)+1)) (h':=s.heap.push PySem.W.emptyDict) (t':=s.toks) (λb u q=>ar _ q) (a8 _) {_,e1};refine h.laid (a:=(zz9 s)+1) (o:=.ins C (zz9 s) []) (t':=s.toks) (λb u q=>ar _ q) (Nat.le_of_eq (i1.size_push _ _)) ?_;have ne:(zz9 s)≠(zz9 s)+1:=et (Nat.lt_succ_self _);refine{by rw [af ne,aq],Nat.zero_le _,ne,c,λZ=>hI,(i1.Ns1.of_empty d).at λo q=>ar _ q,λZ=>True.intro,λy i=>absurd rfl i}
def Eo{env:Env}{s:hW}{Q:ku}(c:attributeBase e f env (eval e env)=eval e env)
 (h:ie (ik prog w) A (eval e env) (λo b=>ie (ik prog w) A (getAttr o f hQ) Q E b) E s):ie (ik prog w) A (eval (.Attribute e f pos) env) Q E s:=
 Attribute_any_ h (by rw [arm_eval_Attribute,c])
end
abbrev Tz(K:zz8)(c:TE)(f:Str):TE:=λd H Q=>c d H λx b=>∃a C dx fs v,x=.ref a/\b a=hG (.ins C dx fs)/\qv K C/\cC K C f/\fs.lookup f=hG v/\Q v b
abbrev To(K:zz8)(d tv:TE)(f:Str):TS:=λD b H=>tv b H λy e=>d b e λx c=>∃a C dx fs,x=.ref a/\c a=hG (.ins C dx fs)/\qv K C/\cC K C f/\fs.length<1000/\
 D.nx b (upd c a (.ins C dx (gL f y fs)))
section
variable{o value:ia}{pos':Pos}{ta tv:TE}
def LR(he:PE X e ta)(d:attributeBase e f X.env (eval e X.env)=eval e X.env):PE X (.Attribute e f pos) (Tz X.K ta f):=by intro g s i H Q I h;refine Eo d (bM (he g s i H _ I h) λu w b=>?_);let(x,j,k,m,a,C,dx,fs,v,ex,p,c,n,l,q):=b;subst ex;obtain rfl:u=hV.ref a:=m;exact vP k p c n l λy z r t=>⟨v,j,r,t,q⟩
def L5(i:PE X o ta)(j:PE X value tv)(hs:swapsWith value (hG (.Attribute o f pos')) pos.line X.env=pure hU):PS X (.Assign [.Attribute o f pos'] value pos) (To X.K ta tv f):=by intro g s b H D I h;refine plainObj_wpAny_Assign_Attribute (bM (j g s b H _ I h) λu k ⟨y,H1,m,p,q⟩=>bM (i g k b H1 _ m q) λr E d=>?_) hs;let(x,F,t,w,a,C,dx,fs,ex,z,c,n,l,A):=d;subst ex;obtain rfl:r=hV.ref a:=w;exact wF t z c n l p λG B=>{b,_,B,A}
end
structure cN(k:Nat)(A:il):Prop where
 hd:3<=k->A.handled=hI
 dp:A.depth+3*k+5<recursionLimit
 un:A.units+16*k+200<cLine
theorem cN.mono(r:cN k A)(h:j<=k):cN j A:={λz=>r.hd (by lia),by have:=r.dp;lia,by have:=r.un;lia}
theorem cN.deeper(r:cN (k+1) A)(env:Env):cN k (A.deeper env):=
 {λz=>r.hd (by lia),by have:=r.dp;show A.depth+1+3*k+5<_;lia,by have:=r.un;show A.units+3+16*k+200<_;lia}
theorem cN.in1(r:cN (k+1) A):cN k A.in1:=
 {λz=>r.hd (by lia),by have:=r.dp;show A.depth+3*k+5<_;lia,by have:=r.un;show A.units+1+16*k+200<_;lia}
def v8{C:h9}{a:List (Str×hV)}:(A.under (.builtin "type.__call__" {.ref C::us,a})).depth=A.depth+1:=by
 first|rfl|simp [il.under,Code.weight,Code.isCreation,Code.isGuard,Code.isCaller,Code.frames,Code.isFrame,guardIds]
def v9{C:h9}{a:List (Str×hV)}:(A.under (.builtin "type.__call__" {.ref C::us,a})).units=A.units+1:=by
 first|rfl|simp [il.under,Code.cUnits,Code.frames,Code.isFrame]
theorem cN.make(r:cN (k+1) A)(C:h9)(us:List hV)(a:List (Str×hV)):cN k (A.under (.builtin "type.__call__" {.ref C::us,a})):=
 {λz=>r.hd (by lia),by have:=r.dp;rw [v8];lia,by have:=r.un;rw [v9];lia}
def cN.depth(r:cN k A):A.depth<recursionLimit:=by have:=r.dp;lia
def cN.units(r:cN k A):A.units+64<cLine:=by have:=r.un;lia
abbrev TH:TA:=λZ H Q=>Q [] H
abbrev Py(b:TE)(c:TA):TA:=λa H Q=>b a H λx d=>c a d λxs e=>Q (x::xs) e
section
variable{es:List ia}{t:TA}
def eB:PA X [] TH:=λZ Z Z Z H Q I h=>Calls.spliced_nil {[],H,I,.nil,h}
theorem cH(d:PE X e te)(f:PA X es t)(hs:starEach (e::es) X.env=(hU,eval e X.env)::starEach es X.env:=by rfl):PA X (e::es) (Py te t):=by intro pos b s c H Q I h;rw [hs];show ie _ _ (spliced ((hU,eval e X.env)::backTo pos (starEach es X.env))) _ _ s;refine Calls.spliced_cons (bM (d b s c H _ I h) λu g a=>?_);let(x,i,j,k,m):=a;exact bM (f pos b g c i _ j m) λw y ⟨xs,o,p,q,r⟩=>{x::xs,o,p,.cons k q,r}
abbrev TN(t:TA):TE:=λb H Q=>t b H λxs a=>xs.length<=i2/\∀p,a p=hI->Q (.ref p) (upd a p (.tup xs))
abbrev TF(t:TA):TE:=λb H Q=>t b H λxs a=>xs.length<=i2/\∀p,a p=hI->Q (.ref p) (upd a p (.lst xs))
def CV{d}(h:PA X es t):PE X (.Tuple es d pos) (TN t):=by intro f s g H Q I i;refine wpAny_Tuple_spliced (bM (h pos f s g H _ I i) λj a ⟨xs,H1,c,r,z,q⟩=>{by rw [<-r.length];exact z,?_});have k:H1 (zz9 a)=hI:=c.aR.fresh (a8 _);refine{.ref (zz9 a),upd H1 (zz9 a) (.tup xs),c.laid (t':=a.toks) (λb u e=>ar _ e) (a8 _) ?_,rfl,q _ k};exact{z,j,r,{_,en _ rfl,rfl,_,rfl}}
def LS(h:PA X es t):PE X (.List es pos) (TF t):=by intro d s f H Q I g;refine wpAny_List_spliced (bM (h pos d s f H _ I g) λi a ⟨xs,H1,c,r,z,q⟩=>{by rw [<-r.length];exact z,?_});have j:H1 (zz9 a)=hI:=c.aR.fresh (a8 _);refine{.ref (zz9 a),upd H1 (zz9 a) (.lst xs),c.laid (t':=a.toks) (λb u e=>ar _ e) (a8 _) ?_,rfl,q _ j};exact{z,i,0,r,en _ rfl}
end
noncomputable abbrev Sp:=List V->Hp->VK->XK->Prop
noncomputable abbrev yS:=List Env->Hp->hW->XK->hV->hW->Prop
structure hX(P:ig)(w:ij)(K:zz8)(mg:Str->Option hV)(base:i1)(A:il)(outer:List Env)(s:hW)(H:Hp):Prop where
 frames:A.frames=hG outer
 mod:Mod K mg base
 bs:∀b o,base.get? b=hG o->s.heap.get? b=hG o/\H b=hI
 xl:base.objs.size<=(zz9 s)
 gZ:s.heap.FunFrames base outer
 xG:∀b∈fQ outer,H b=hI
 aR:eY P w H s.heap
 bare:AllBare s.gens
def CE(outer:List Env)(P:ig)(w:ij)(H:Hp)(s:hW)(Q:VK)(u:hV)(s':hW):Prop:=
 ∃v a,s'.os=s.os/\AllBare s'.gens/\Un (fQ outer) [] H a s.heap s'.heap/\eY P w a s'.heap/\RelV v u/\Q v a
def CR(CX:yS)(outer:List Env)(P:ig)(w:ij)(H:Hp)(s:hW)(Q:VK)(E:XK)(r:Result)(s':hW):Prop:=
 match r with
 |.ok (.ret u)=>CE outer P w H s Q u s'|.ok _=>False|.error e=>CX outer H s E e s'
structure fL(P:ig)(w:ij)(K:zz8)(mg:Str->Option hV)(base:i1)(CX:yS)(k:Nat)(f:h9)(fd:FuncData)(ps:List Str)(sp:Sp):Prop where
 len:∀vs H Q E,sp vs H Q E->vs.length=ps.length
 run:∀(A:il) (outer:List Env) (s:hW) (H:Hp) (args:Args) (us:List hV) (vs:List V) (Q:VK) (E:XK),cN k A->hX P w K mg base A outer s H->BindsTo s fd args (ps.zip us)->Vals vs us->sp vs H Q E->
  codeAny (ik P w) A (.call (.ref f) args) (CR CX outer P w H s Q E) s
def fL.mono{K:zz8}{CX:yS}{f:h9}{fd:FuncData}{ps:List Str}{sp:Sp}(F:fL P w K mg base CX j f fd ps sp)(h:j<=k):
 fL P w K mg base CX k f fd ps sp:={F.len,λA outer s H args a b Q E c=>F.run A outer s H args a b Q E (c.mono h)}
def fL.imp{K:zz8}{CX:yS}{f:h9}{fd:FuncData}{ps:List Str}{sp a:Sp}(F:fL P w K mg base CX k f fd ps sp)
 (h:∀vs H Q E,a vs H Q E->sp vs H Q E):fL P w K mg base CX k f fd ps a:=
 {λvs H Q E q=>F.len vs H Q E (h _ _ _ _ q),λA outer s H args b vs Q E c d e g hs=>F.run A outer s H args b vs Q E c d e g (h _ _ _ _ hs)}
def hX.make{K:zz8}{outer:List Env}{s:hW}(e:hX P w K mg base A outer s H)(C:h9)(us:List hV)(a:List (Str×hV)):
 hX P w K mg base (A.under (.builtin "type.__call__" {.ref C::us,a})) outer s H:={by first|exact e.frames|(simpa [il.under,Code.envs,Code.isFrame,pushEnvs] using e.frames),e.mod,e.bs,e.xl,e.gZ,e.xG,e.aR,e.bare}
def hX.in1{K:zz8}{outer:List Env}{s:hW}(e:hX P w K mg base A outer s H):
 hX P w K mg base A.in1 outer s H:=⟨e.frames,e.mod,e.bs,e.xl,e.gZ,e.xG,e.aR,e.bare⟩
section
variable{ae:kv}{s s':hW}
def Inv.qS(I:zv2 s):hX X.prog X.w X.K X.mg X.base X.A X.stack s H:=
 {I.ok.frames,I.ok.mod,I.bs,ee I.ok.xl I.sz,I.stack,I.mL,I.aR,I.bare}
def Inv.after(I:zv2 s)(h:CE X.stack X.prog X.w H s Q u s'):EP X ae σ Q u s':=by let(v,c,os,bare,un,aR,r,q):=h;let(e,g,d,t,a):=s';obtain rfl:a=s.os:=os;exact{v,c,I.call (h':=e) (g':=g) (d':=d) (t':=t) (ch:=[]) un aR bare (λb z=>absurd z (by simp)),r,q}
end
def Binds(K:zz8)(fd:FuncData)(ps:List Str)(b:List hV):Prop:=
 ∀(s:hW) (a:List hV),K.In s.heap->(a++b).length=ps.length->BindsTo s fd {a,[]} (ps.zip (a++b))
def Binds.all{K:zz8}{fd:FuncData}{ps:List Str}(h:∀us:List hV,us.length=ps.length->bindArgs fd {us,[]}=pure (ps.zip us)):Binds K fd ps []:=λs us Z hl=>by rw [hD] at hl⊢;exact .of_eq (h us hl)
def Passes(CX:yS)(X:Cx)(E:XK):Prop:=∀(b:kv) (c:St) (H:Hp) (s:hW) (e:hV) (a:hW),Inv X b c H s->CX X.stack H s E e a->X.xe e a
section
variable{CX:yS}{f C:h9}{fd:FuncData}{ps:List Str}{sp:Sp}{dvs:List V}{ds:List hV}{E:XK}
structure Mk(K:zz8)(C f:h9):Prop where
 makes:PySem.W.makesIn K C=hQ
 init:PySem.W.findIn K (.ref C) (zu 13)=hG (hG (.ref f))
 fn:PySem.W.isFn K (.ref f)=hQ
 kp:PySem.W.keepIn K (.ref C)=hQ
def Dm{c:kv}{d:St}{s:hW}(M:Mk X.K C f)(F:fL X.prog X.w X.K X.mg X.base CX k f fd ps sp)(j:cN (k+1) X.A)(m:Binds X.K fd ps ds)(hd:Vals dvs ds)
 (o:Passes CX X E) (I:Inv X c d H s) (r:Vals vs us)
 (h:∀x dx,H x=hI->H dx=hI->dx≠x->sp (.ref x::(vs++dvs)) (upd (upd H dx (.own x)) x (.ins C dx [])) (λv p=>v=.aL/\Q (.ref x) p) E):
 zx7 X (call (.ref C) us) (EP X c d Q) X.xe s:=by
 have g:=h ((zz9 s)+1) (zz9 s) (I.aR.fresh (Nat.le_succ _)) (I.aR.fresh (a8 _)) (et (Nat.lt_succ_self _));have b:=Inv.made (C:=C) I;have i:Vals (V.ref ((zz9 s)+1)::(vs++dvs)) (hV.ref ((zz9 s)+1)::(us++ds)):=.cons rfl (r.append hd);have hl:(hV.ref ((zz9 s)+1)::us++ds).length=ps.length:=by have e:=i.length;rw [F.len _ _ _ _ g] at e;exact e.symm
 refine wpAny_call (Cj (f:=f) I.kS M.makes M.init (zzy.mp M.fn) (codeAny_mono (F.run _ X.stack _ _ {hV.ref ((zz9 s)+1)::us,[]} (hV.ref ((zz9 s)+1)::(us++ds)) _ _ E (j.make C us [])
  (b.qS.make C us []) (m _ (hV.ref ((zz9 s)+1)::us) b.kS hl) i g) λr q a=>?_))
 cases r with
 |error e=>exact o c d _ _ e q b a|ok fl=>
  cases fl with
  |ret u=>let(v,t,y,z,B,D):=b.after a;subst B;exact{z,{V.ref ((zz9 s)+1),t,y,rfl,D}}|next=>exact e6 a|brk=>exact e6 a|cont=>exact e6 a
end
structure jx(N P:List Str)(sc:iv):Prop where
 kind:sc.kind=.function
 co:sc.isCoroutine=hU
 gen:sc.isGenerator=hU
 nd:N.Nodup
 pre:N.take P.length=P
 par:∀x∈P,sc.names.lookup x=hG .local\/sc.names.lookup x=hG .cell
 Lo:∀y∈sc.names,y.2≠.free
theorem pJ{a:Str->Option NameKind}:∀{binds:List (Str×hV)} {m:Str->Option hV},(∀v,(x,v)∉binds)->bindL a binds m x=m x
 |[],_,_=>rfl|(n,v)::r,m,h=>by
  unfold bindL;rw [pJ λw b=>h w (b0 _ b)];split
  .have:x≠n:=by rintro rfl;exact h v dB
   simp [this]
  .rfl
theorem pH{a:Str->Option NameKind}:∀{binds:List (Str×hV)} {m:Str->Option hV},(∀v,(x,v)∉binds)->bindC a binds m x=m x
 |[],_,_=>rfl|(n,v)::r,m,h=>by
  unfold bindC;rw [pH λw b=>h w (b0 _ b)];split
  .rfl
  .have:x≠n:=by rintro rfl;exact h v dB
   simp [this]
theorem pI{a:Str->Option NameKind}{v:hV}:∀{P:List Str} {vs:List hV} {i:Nat} {m:Str->Option hV},P.Nodup->P[i]?=hG x->vs[i]?=hG v->a x=hG .local->
 bindL a (P.zip vs) m x=hG v
 |[],_,_,_,_,h,_,_=>by simp at h|_::_,[],_,_,_,_,h,_=>by simp at h|p::P,w::vs,0,m,nd,b,c,hk=>by simp at b c;subst b;subst c;show bindL a ((p,w)::P.zip vs) m p=_;unfold bindL;rw [pJ λv d=>(List.nodup_cons.mp nd).1 (List.of_mem_zip d).1,if_pos hk];simp|p::P,w::vs,i+1,m,nd,b,c,hk=>by show bindL a ((p,w)::P.zip vs) m x=_;unfold bindL;exact pI (i:=i) (List.nodup_cons.mp nd).2 (zx6 b) (zx6 c) hk
theorem pG{a:Str->Option NameKind}{v:hV}:∀{P:List Str} {vs:List hV} {i:Nat} {m:Str->Option hV},P.Nodup->P[i]?=hG x->vs[i]?=hG v->a x≠hG .local->
 bindC a (P.zip vs) m x=hG v
 |[],_,_,_,_,h,_,_=>by simp at h|_::_,[],_,_,_,_,h,_=>by simp at h|p::P,w::vs,0,m,nd,b,c,hk=>by simp at b c;subst b;subst c;show bindC a ((p,w)::P.zip vs) m p=_;unfold bindC;rw [pH λv d=>(List.nodup_cons.mp nd).1 (List.of_mem_zip d).1,if_neg hk];simp|p::P,w::vs,i+1,m,nd,b,c,hk=>by show bindC a ((p,w)::P.zip vs) m x=_;unfold bindC;exact pG (i:=i) (List.nodup_cons.mp nd).2 (zx6 b) (zx6 c) hk
abbrev start(N:List Str)(vs:List V):St:=vs.map hG++kq (N.length-vs.length) hI
noncomputable def dS(CX:yS)(P:ig)(w:ij)(K:zz8)(mg:Str->Option hV)(base:i1)(N:List Str)(qual:Str)(a:iv)(f:h9)(cd:hV)(A:il)(outer:List Env)(s:hW)(H:Hp)(E:XK):Cx where
 prog:=P
 w:=w
 K:=K
 mg:=mg
 base:=base
 A:=A.deeper (envOfC qual a (zz9 s) f cd)
 N:=N
 s₀:=s
 H₀:=H
 env:=envOfC qual a (zz9 s) f cd
 outer:=outer
 stack:=envOfC qual a (zz9 s) f cd::outer
 ex:=[]
 calm:=A.handled.isNone
 fn:=λZ=>hQ
 pn:=[]
 xe:=λe c=>ie (ik P w) (A.deeper (envOfC qual a (zz9 s) f cd)) (leaving (envOfC qual a (zz9 s) f cd) e) (λZ b=>CX outer H s E e b) (λd b=>CX outer H s E d b) c
def tx{sc:iv}{n:Nat}(h:sc.names.lookup x=hG .cell):∃c,(kd n sc.names []).lookup x=hG c:=by have q:=PySem.W.cellsFrom_some sc.names n [] (.inl h);exact fx.mp q
def zT{CX:yS}{K:zz8}{ps:List Str}{d:iv}{f:h9}{cd:hV}{outer:List Env}{s D:hW}{E:XK}
 (S:jx N ps d) (j:hX P w K mg base A outer s H) (hl:vs.length=ps.length) (r:Vals vs us)
 (x:InCallC s (zz9 s) (bindL (envOfC qual d (zz9 s) f cd).kindOf (ps.zip us) λZ=>hI) (kd ((zz9 s)+1) d.names []) (bindC (envOfC qual d (zz9 s) f cd).kindOf (ps.zip us) λZ=>hI) D):
 Inv (dS CX P w K mg base N qual d f cd A outer s H E) [] (start N vs) H D:=by
 have I:ps.length<=N.length:=by have:=congrArg List.length S.pre;rw [List.length_take] at this;lia
 let(t,O,rfl,hk):=x.done;have C:∀b:h9,b∉(dS CX P w K mg base N qual d f cd A outer s H E).ex:=λb z=>absurd (show b∈([]:List h9) from z) (by simp)
 refine{{j.mod,S.kind,rfl,rfl,a8 _,λy z c t g=>?_,λy m=>?_,λy c Z h=>?_,λz=>Option.isNone_iff_eq_none.mp z,il.frames_deeper j.frames,.inr ⟨rfl,rfl⟩,λb z=>absurd z (C b),j.bs,j.xl,λb Z Z=>C b,λb z=>absurd z (C b),j.gZ,j.xG},
  rfl,j.bare,Un.kept hk,{_,x.toInCall.ns,λi y v t g Q=>?_},λy c h=>{_,x.cell y c h},j.aR.fresh (a8 _),λy c h=>?_,λp o=>absurd (show p∈([]:kv) from o) (by simp),j.aR.kept hk,?_}
 .exact name_of_addr x.apart (PySem.mem_of_lookup t) (PySem.mem_of_lookup g)
 .have m:d.names.lookup y=hG .cell\/d.names.lookup y=hG .free:=m
  rcases m with m|m
  .exact tx m
  .exact absurd rfl (S.Lo _ (PySem.mem_of_lookup m))
 .exact Nat.le_of_lt (x.above y c (PySem.mem_of_lookup h))
 .have B:i<vs.length:=by
   unfold start at g;by_cases B:i<vs.length
   .exact B
   .rw [fS (zx6 B)] at g;rw [List.getElem?_replicate] at g;split at g<;>cases g
  have L:vs[i]?=hG v:=by
   unfold start at g;rw [fP (zx6 B),dV] at g;cases e:vs[i]? with
   |none=>rw [e] at g;cases g
   |some a=>rw [e] at g;cases g;rfl
  let(u,F,M):=r.get L;have o:ps[i]?=hG y:=by rw [<-S.pre,List.getElem?_take_of_lt (by lia)];exact t
  have G:ps.Nodup:=by rw [<-S.pre];exact S.nd.sublist (List.take_sublist _ _)
  refine{u,M,?_};rcases S.par y (a7 o) with k|k
  .exact .inl {k,pI G o F k}
  .let(c,e):=tx (n:=(zz9 s)+1) k;refine .inr {.inl k,c,e,?_};have q:=x.cell y c e;rw [pG G o F (by show d.names.lookup y≠_;rw [k];decide)] at q;exact q
 .exact j.aR.fresh (Nat.le_of_lt (x.above y c (PySem.mem_of_lookup h)))
 .unfold start;show _=N.length;rw [c7,zzl,List.length_replicate];lia
def Ia{CX:yS}{K:zz8}{f:h9}{name:Str}{c:jm}{body:List je}{a:iv}{z kV g B dD ct oc:hV}{C M:Option h9}
 {O:Array (Option hV)} {ps:List Str} {sp:Sp} (R:K.lookup f=hG {oc,M,.func (PySem.W.fnOf name qual c body a z kV g B C dD ct),O}) (T:PySem.W.codeIn K dD qual=hQ) (S:jx N ps a)
 (len:∀vs H Q E,sp vs H Q E->vs.length=ps.length)
 (U:∀(A:il) (outer:List Env) (s:hW) (H:Hp) (vs:List V) (Q:VK) (E:XK),cN k (A.deeper (envOfC qual a (zz9 s) f dD))->sp vs H Q E->
  ∃t,sy (dS CX P w K mg base N qual a f dD A outer s H E) body t/\t {nx:=λ_ H'=>Q .aL H',rt:=Q} (start N vs) H):
 fL P w K mg base CX (k+1) f (PySem.W.fnOf name qual c body a z kV g B C dD ct) ps sp:=by
 refine{len,λA outer s H args X vs Q E D h Y r F=>?_};have hl:=len _ _ _ _ F;have G:K.In s.heap:=h.mod.Iq.keeps λb o e=>(h.bs b o e).1;have i:s.heap.NoLimit:=h.mod.nolimit.keeps λb o e=>(h.bs b o e).1
 have Z:∀y∈ps.zip X,a.names.lookup y.1=hG .local\/(a.names.lookup y.1=hG .cell/\((kd ((zz9 s)+1) a.names []).lookup y.1).isSome=hQ):=λj hy=>by
  let(n,v):=j
  rcases S.par n (List.of_mem_zip hy).1 with q|q
  .exact .inl q
  .exact .inr {q,PySem.W.cellsFrom_some _ _ _ (.inl q)}
 refine codeAny_call_function D.depth (G _ _ R) rfl S.co S.gen rfl (PySem.W.codeRec_of G T) (Y _ _ _ _ ?_);refine wpAny_newFunctionEnv_cells S.kind Z λenv he L x=>?_;subst he;refine{i.keeps x.toInCall.keep,codeAny_func ?_};let(t,ht,hq):=U A outer s H vs Q E (D.deeper _) F;have I:Inv (dS CX P w K mg base N qual a f dD A outer s H E) [] (start N vs) H L:=zT S h hl r x;refine wpAny_mono (ht [] L (start N vs) H _ I hq) (λfl m hs=>?_) λe m hs=>hs
 have fin:∀{d:St} {H':Hp} {v:V} {u:hV},Inv (dS CX P w K mg base N qual a f dD A outer s H E) [] d H' m->RelV v u->Q v H'->CE outer P w H s Q u m:=
  λ{d H' v u} J p q=>⟨v,H',J.os,J.bare,J.base,J.aR,p,q⟩
 cases fl with
 |ret u=>let(v,d,H',J,p,q):=hs;exact fin J p q|next=>let(d,H',J,q):=hs;exact fin (v:=V.aL) (u:=hV.none) J rfl q|brk=>let(_,_,_,q):=hs;exact e6 q|cont=>let(_,_,_,q):=hs;exact e6 q
section
variable{p:Pos}{es:List ia}{t:TA}{id T:String}{r:List V->Hp->VK->Prop}
abbrev QL(r:List V->Hp->VK->Prop)(t:TA):TE:=λa H Q=>t a H λb c=>r b c Q
def kg(c:eC X (.builtin id) r)(d:Gl X x)(hm:X.mg x=hI)(f:bootBuiltins x=hG (.builtin id))(g:PA X (e::es) t)(i:x≠(zu 35):=by decide)(j:(x==(zu 25:Str))=hU:=by decide)
 (he:starEach (e::es) X.env=(hU,eval e X.env)::starEach es X.env:=by rfl) (hpl:(backTo pos (starEach es X.env)).any (·.1)=hU:=by rfl):PE X (.Call (.Name x p) (e::es) [] pos) (QL r t):=by
 intro a s b H Q I h;refine wpAny_Call_Name_kw (gD I d hm f ?_ i j);exact PyProof.Rows.callWith_builtin1 (bM (g pos a s b H _ I h) λk m ⟨o,H1,q,u,w⟩=>c a m b H1 o k Q q u w) he hpl
def k8(c:eC X (.type T) r)(d:Gl X x)(hm:X.mg x=hI)(f:bootBuiltins x=hG (.type T))(g:PA X (e::es) t)(i:x≠(zu 35):=by decide)(j:(x==(zu 25:Str))=hU:=by decide)
 (he:starEach (e::es) X.env=(hU,eval e X.env)::starEach es X.env:=by rfl) (hpl:(backTo pos (starEach es X.env)).any (·.1)=hU:=by rfl):PE X (.Call (.Name x p) (e::es) [] pos) (QL r t):=by
 intro a s b H Q I h;refine wpAny_Call_Name_kw (gD I d hm f ?_ i j);exact PyProof.Rows.callWith_type1 (bM (g pos a s b H _ I h) λk m ⟨o,H1,q,u,w⟩=>c a m b H1 o k Q q u w) he hpl
end
end L2
variable{H H' G H0:L2.Hp}{v:L2.V}{X:L2.Cx}{Q:L2.VK}{σ:L2.St}{te:L2.TE}{vs:List L2.V}
namespace HT
open PyProof.Rows
abbrev lexLt:List Int->List Int->Bool
 |[],[]=>hU|[],_::_=>hQ|_::_,[]=>hU|x::xs,y::ys=>if x=y then lexLt xs ys else decide (x<y)
section
variable{E:ku}{s:hW}
def Ep{t b:h9}{vs ws:List hV}{Q:ku}(q:IsTup s.heap t vs.toArray)(r:IsTup s.heap b ws.toArray)(i:vs≠[])
 (u:ws=[]->Q (.ref t) s) (y:ws≠[]->Q (.ref (zz9 s)) {s with heap:=s.heap.push {cls:=.type "tuple",data:=.seq (vs++ws).toArray}})
 (hsz:vs.length+ws.length<=i2):ie (ik prog w) A (binaryOp .Add (.ref t) (.ref b)) Q E s:=by
 let((cls,j,data,k),f,m,n,hd):=id q;let((o,a,h,c),g,lJ,p,d):=id r;simp only at m hd lJ d;subst m hd lJ d;have e:vs.toArray++ws.toArray=(vs++ws).toArray:=by simp
 by_cases hw:ws=[]
 .exact concat_meets {_,f,rfl} {_,g,rfl} noFill_tuple_add seq_tuple_add PySem.F.slot_tuple_add PySem.F.entry_tuple_add (PySem.F.args_tuple_add_2 _ _)
   (tuple_addW1 t b vs.toArray ws.toArray n p j a k c (zx6 i) (by simp [hw])) {f,g,u hw}
 .refine concat_meets {_,f,rfl} {_,g,rfl} noFill_tuple_add seq_tuple_add PySem.F.slot_tuple_add PySem.F.entry_tuple_add (PySem.F.args_tuple_add_2 _ _)
   (tuple_addW2 t b vs.toArray ws.toArray n p j a k c (zx6 i) (zx6 hw) (by rw [a0,a0];exact hsz)) {f,g,?_}
  rw [e];exact y hw
abbrev cX(n d:Nat):Option Int->Nat
 |none=>d|some v=>if v<0 then(v+(n:Int)).toNat else min v.toNat n
theorem uY(n d:Nat):cX n d hI=d:=rfl
def yC(n d k:Nat):cX n d (hG (k:Int))=min k n:=by show(if(k:Int)<0 then((k:Int)+(n:Int)).toNat else min (k:Int).toNat n)=min k n;rw [if_neg (by lia),g7]
def Mo(n d:Nat)(hd:d<=n)(o:Option Int):cX n d o<=n:=by
 cases o with
 |none=>exact hd|some v=>
  show(if v<0 then(v+(n:Int)).toNat else min v.toNat n)<=n;by_cases a:v<0
  .rw [if_pos a];lia
  .rw [if_neg a];exact Nat.min_le_right _ _
def xq(v:Int)(n d:Nat):(if v<0 then max (v+(n:Int)) 0 else min v (n:Int))=((cX n d (hG v):Nat):Int):=by
 show(if v<0 then max (v+(n:Int)) 0 else min v (n:Int))=(((if v<0 then(v+(n:Int)).toNat else min v.toNat n):Nat):Int);by_cases a:v<0
 .simp! [if_pos a];lia
 .simp! [if_neg a];lia
def vB(a b:Option Int)(n:Nat):jj.Slice.sliceAdjust a b 1 (n:Int)=(((cX n 0 a:Nat):Int),((cX n n b:Nat):Int)):=by
 have c:¬((1:Int)<0):=by lia
 unfold jj.Slice.sliceAdjust;simp! [c,if_false];refine Prod.ext ?_ ?_
 .cases a with
  |none=>rfl|some v=>exact xq v n 0
 .cases b with
  |none=>rfl|some v=>exact xq v n n
def wx(i j:Nat):jj.Slice.slicePlaces (i:Int) (j:Int) 1=j-i:=by
 unfold jj.Slice.slicePlaces;have a:(1:Int)>0:=by lia
 simp! [a,if_true,Int.ediv_one];split<;>lia
def jo{v:hV}{o:Option Int}{Q:Option Int->hW->Prop}(p:IsPart v o)(h:Q o s):ie (ik prog w) A (jj.Slice.slicePartIndex v) Q E s:=by
 cases p with
 |none=>exact slicePart_none h|int i t=>exact slicePart_int h
def gu{g:h9}{e f:hV}{a b:Option Int}{n:Nat}{Q:Int×Int×Nat->hW->Prop}(hs:s.heap.IsSliceOf g e f .none)(pl:IsPart e a)(pu:IsPart f b)
 (h:Q (((cX n 0 a:Nat):Int),1,cX n n b-cX n 0 a) s):ie (ik prog w) A (jj.Slice.sliceApplied (.ref g) (pure (n:Int))) Q E s:=by
 let(os,c,i,d):=id hs
 unfold jj.Slice.sliceApplied jj.Slice.sliceFields;refine ak (ak (wpAny_field c d (x:=e) rfl (ak (wpAny_field c d (x:=f) rfl (ak (wpAny_field c d (x:=.none) rfl (bc ?_)))))));refine ak (slicePart_none ?_);show ie _ _ (if((1:Int)==0)=hQ then _ else _) _ _ s;rw [if_neg (by decide)];refine ak (jo pl (ak (jo pu (ak (bc ?_)))));show ie _ _ (match jj.Slice.sliceAdjust a b 1 (n:Int) with|(a,b)=>pure (a,(1:Int),jj.Slice.slicePlaces a b 1)) _ _ s;rw [vB a b n];show ie _ _ (pure (((cX n 0 a:Nat):Int),(1:Int),jj.Slice.slicePlaces ((cX n 0 a:Nat):Int) ((cX n n b:Nat):Int) 1)) _ _ s;rw [wx];exact bc h
def C7(xs:Array hV)(i k:Nat):((List.range k).filterMap λ(m:Nat)=>xs[((i:Int)+(m:Int)*1).toNat]?).toArray=((xs.toList.drop i).take k).toArray:=by
 have e:(λ(m:Nat)=>xs[((i:Int)+(m:Int)*1).toNat]?)=λm=>xs[i+m]?:=by
  funext m
  have:((i:Int)+(m:Int)*1).toNat=i+m:=by lia
  rw [this]
 rw [e];have:=pick_run xs i k;rw [List.filterMap_map] at this;have a:((λx=>xs[x]?)∘λx=>i+x)=λm=>xs[i+m]?:=rfl;rw [a] at this;rw [this]
def j5{t f:h9}{a:Array hV}{j k:hV}{b c:Option Int}{Q:ku}(d:IsTup s.heap t a)(hs:s.heap.IsSliceOf f j k .none)(pl:IsPart j b)(pu:IsPart k c)
 (hw:¬(cX a.size 0 b=0/\cX a.size a.size c=a.size))
 (h:Q (.ref (zz9 s)) {s with heap:=s.heap.push {cls:=.type "tuple",data:=.seq ((a.toList.drop (cX a.size 0 b)).take (cX a.size a.size c-cX a.size 0 b)).toArray}})
 (hsz:a.size<=i2):ie (ik prog w) A (getItem (.ref t) (.ref f)) Q E s:=by
 have e:sizeOk (.seq ((a.toList.drop (cX a.size 0 b)).take (cX a.size a.size c-cX a.size 0 b)).toArray):=by show((a.toList.drop (cX a.size 0 b)).take (cX a.size a.size c-cX a.size 0 b)).toArray.size<=i2;rw [a0,List.length_take,List.length_drop,ey];omega
 have u:cX a.size a.size c<=a.size:=Mo _ _ (a8 _) c;let(os,g,i,o):=id hs;have p:s.TypeIs (.ref f) "slice":=⟨os,g,i⟩;unfold getItem
 try with_reducible refine wpAny_holding ?_
 first|refine ak (bc ?_)|skip
 refine ak (wpAny_sequenceKey d.typeIs (by decide) ?_);refine ak (wpAny_callSpecial?_slot (name:=Str.ofString "__getitem__") d.typeIs PyProof.Rows.slot_tuple_getitem
  (wpAny_call_entry PyProof.Rows.slot_tuple_getitem d.typeIs entry_tuple_getitem ?_ (args_tuple_getitem _ _)))
 show ie _ _ (jj.Tuple.tupleItemsOf (.ref t)>>=_) _ _ s;refine ak (tupleItemsOf_ d ?_);refine ak (wpAny_typeOf p ?_);rw [if_pos (by decide)];refine ak (gu hs pl pu ?_);have r:¬((((cX a.size 0 b:Nat):Int)==0&&(1:Int)==1&&(cX a.size a.size c-cX a.size 0 b)==a.size)=hQ):=by intro q;rw [zza,zza] at q;have y:((cX a.size 0 b:Nat):Int)=0:=eq_of_beq q.1.1;have z:cX a.size a.size c-cX a.size 0 b=a.size:=eq_of_beq q.2;exact hw {by omega,by omega}
 show ie _ _ (if(((cX a.size 0 b:Nat):Int)==0&&(1:Int)==1&&(cX a.size a.size c-cX a.size 0 b)==a.size)=hQ then _ else _) _ _ s;rw [if_neg r,C7]
 first
  |exact ak (m:=jj.Tuple.tupleExact _) (wpAny_newObj_type (bc ⟨_,rfl,bc h⟩) e)
  |exact ak (m:=jj.Tuple.tupleExact _) (wpAny_newObj_type (ak (bc (bc ⟨_,rfl,bc h⟩))) e)
  |exact ak (ak (m:=jj.Tuple.tupleExact _) (wpAny_newObj_type (bc (bc ⟨_,rfl,bc h⟩)) e))
  |exact ak (ak (m:=jj.Tuple.tupleExact _) (wpAny_newObj_type (bc ⟨_,rfl,bc h⟩) e))
end
end HT
namespace L2
open PySem.Spec PyProof.Rows
noncomputable abbrev TO:=St->Hp->(Option Int->Hp->Prop)->Prop
def PO(X:Cx)(e:Option ia)(t:TO):Prop:=
 ∀(b:kv) (s:hW) (a:St) (H:Hp) (Q:Option Int->Hp->Prop),Inv X b a H s->t a H Q->
  zx7 X (evalPart e X.env) (λu d=>∃o c,Inv X b a c d/\IsPart u o/\Q o c) X.xe s
abbrev Hl:TO:=λZ H Q=>Q hI H
abbrev PF(t:TE):TO:=λa H Q=>t a H λx b=>∃i,x=.int i/\Q (hG i) b
section
variable{lo hi:Option ia}{tl th:TO}{p2:Pos}
def GD:PO X hI Hl:=by intro a s b H Q I h;rw [evalPart_none];exact bc {hI,H,I,.none,h}
def GG(h:PE X e te):PO X (hG e) (PF te):=by intro b s c H Q I d;rw [evalPart_some];refine bM (h b s c H _ I d) λu m a=>?_;let(x,f,g,j,k):=a;let(i,rfl,q):=k;let(t,rfl):=j;exact{hG i,f,g,.int i t,q}
def A1(X:Cx)(r:V->Option Int->Option Int->Hp->VK->Prop):Prop:=
 ∀(a:kv) (s:hW) (b:St) (H:Hp) (x:V) (v c d:hV) (lo hi:Option Int) (f:h9) (Q:VK),Inv X a b H s->RelV x v->s.heap.IsSliceOf f c d .none->IsPart c lo->IsPart d hi->r x lo hi H Q->
  ∃T g,typeLookup (.type T) "__getitem__"=pure (hG (.builtin g))/\s.TypeIs v T/\zx7 X (getItem v (.ref f)) (EP X a b Q) X.xe s
abbrev XF(r:V->Option Int->Option Int->Hp->VK->Prop)(te:TE)(tl th:TO):TE:=λa H Q=>te a H λx b=>tl a b λl c=>th a c λu d=>r x l u d Q
def CU{r:V->Option Int->Option Int->Hp->VK->Prop}(k:A1 X r)(he:PE X e te)(hl:PO X lo tl)(m:PO X hi th):PE X (.Subscript e (.Slice lo hi hI p2) pos) (XF r te tl th):=by
 intro d s f H Q I h;refine Subscript_ (bM (he d s f H _ I h) λv o c=>?_);let(x,p,t,y,z):=c;refine wpAny_Slice (bM (hl d o f p _ t z) λg B ⟨l,C,D,pl,E⟩=>bM (m d B f C _ D E) λi a c=>?_);let(u,j,F,pu,G):=c
 rw [evalPart_none];refine bc ?_;have K:Inv X d f j {a with heap:=a.heap.push {cls:=.type "slice",data:=.fields #[g,i,.none]}}:=F.kept (t':=a.toks) λb ob q=>ar _ q
 let(T,O,L,M,N):=k d {a with heap:=a.heap.push {cls:=.type "slice",data:=.fields #[g,i,.none]}} f j x v g i l u (zz9 a) Q K y (i1.IsSliceOf.new ..) pl pu G
 show zx7 X (subscriptTail e (.Slice lo hi hI p2) v (.ref (zz9 a))) (EP X d f Q) X.xe {a with heap:=a.heap.push {cls:=.type "slice",data:=.fields #[g,i,.none]}};exact tail_any (ops:=[.ref (zz9 a),v]) M L N (by with_unfolding_all rfl)
abbrev tJ(xs:List V)(lo hi:Option Int):List V:=(xs.drop (HT.cX xs.length 0 lo)).take (HT.cX xs.length xs.length hi-HT.cX xs.length 0 lo)
def lF(xs:List V)(lo hi:Option Int):(tJ xs lo hi).length<=xs.length:=by unfold tJ;rw [List.length_take,List.length_drop];lia
def Tf(K:zz8):V->Option Int->Option Int->Hp->VK->Prop:=λx lo hi H Q=>∃a xs,x=.ref a/\fC K H a xs/\
 ¬(HT.cX xs.length 0 lo=0/\HT.cX xs.length xs.length hi=xs.length)/\∀p,H p=hI->Q (.ref p) (upd H p (.tup (tJ xs lo hi)))
def Mu:A1 X (Tf X.K):=by
 intro m s p H x v t u lo hi w Q I g hs pl pu h;let(a,xs,rfl,i,j,q):=h;cases g;let(k,r,d,f):=I.tuple i;have c:k.toArray.size=xs.length:=by rw [a0];exact r.length.symm
 refine{"tuple",_,PyProof.Rows.slot_tuple_getitem.lookup,d.typeIs,?_};refine HT.j5 d hs pl pu (by rw [c];exact j) ?_ (by rw [c];exact f);rw [c];refine{.ref (zz9 s),_,I.laid (t':=s.toks) (o:=.tup (tJ xs lo hi)) (λb ob q=>ar _ q) (a8 _) ?_,rfl,q _ (I.aR.fresh (a8 _))};exact{ee (lF xs lo hi) f,_,(r.drop (HT.cX xs.length 0 lo)).take (HT.cX xs.length xs.length hi-HT.cX xs.length 0 lo),IsTup.new _ _}
abbrev O8(K:zz8):R2:=λx y H Q=>∃a b xs c,x=.ref a/\y=.ref b/\fC K H a xs/\fC K H b c/\xs≠[]/\xs.length+c.length<=i2/\
 (c=[]->Q (.ref a) H)/\(c≠[]->∀p,H p=hI->Q (.ref p) (upd H p (.tup (xs++c))))
def Vals.mH{xs:List V}(r:Vals xs us):us=[]↔xs=[]:=by
 cases r with
 |nil=>simp|cons _ _=>simp
def Gg:gB X (binaryOp .Add) (O8 X.K):=by intro B s C H x y v u Q I g i h;let(a,b,xs,j,rfl,rfl,k,m,p,f,r,t):=h;cases g;cases i;let(D,d,A,_):=I.tuple k;let(E,c,p2,_):=I.tuple m;refine HT.Ep A p2 (λz=>p (d.mH.mp z)) (λz=>{.ref a,H,I,rfl,r (c.mH.mp z)}) (λz=>?_) (by rw [<-d.length,<-c.length];exact f);refine{.ref (zz9 s),_,I.laid (t':=s.toks) (o:=.tup (xs++j)) (λb ob q=>ar _ q) (a8 _) ?_,rfl,t (λw=>z (c.mH.mpr w)) _ (I.aR.fresh (a8 _))};exact{by rw [c7];exact f,_,d.append c,IsTup.new _ _}
end
abbrev K4(n:Nat)(i:Int):Option Nat:=if 0<=i then(if i<n then hG i.toNat else hI) else if -(n:Int)<=i then hG (i+n).toNat else hI
abbrev vF{a:Type}(xs:List a)(i:Int):Option a:=(K4 xs.length i).bind λj=>xs[j]?
def Fy{n:Nat}{i:Int}(h:K4 n i=hG j):seqIndex? i n=hG j/\j<n/\ -(n:Int)<=i/\i<n:=by
 unfold K4 at h;by_cases h0:0<=i
 .rw [if_pos h0] at h;by_cases a:i<n
  .rw [if_pos a] at h;have e:i.toNat=j:=zzq h;exact{by rw [seqIndex_of h0 a,e],by lia,by lia,a}
  .rw [if_neg a] at h;cases h
 .rw [if_neg h0] at h;by_cases a: -(n:Int)<=i
  .rw [if_pos a] at h;have e:(i+n).toNat=j:=zzq h;exact{by rw [seqIndex_neg (by lia) a,e],by lia,a,by lia}
  .rw [if_neg a] at h;cases h
def qH{a:Type}{xs:List a}{i:Int}{v:a}(h:vF xs i=hG v):∃j,seqIndex? i xs.length=hG j/\xs[j]?=hG v/\j<xs.length/\ -(xs.length:Int)<=i/\i<xs.length:=by
 unfold vF at h;cases e:K4 xs.length i with
 |none=>rw [e] at h;cases h
 |some j=>rw [e] at h;let(b,c,d,f):=Fy e;exact⟨j,b,h,c,d,f⟩
def qA(b:ia):Prop:=∀o i,subscripted b hU o i=operate [o,i] (getItem o i)
def ML(X:Cx)(r:R2):Prop:=
 ∀(a slice:ia) (b:kv) (s:hW) (c:St) (H:Hp) (x y:V) (v u:hV) (Q:VK),Inv X b c H s->RelV x v->RelV y u->r x y H Q->
  subscripted slice hU v u=operate [v,u] (getItem v u)->zx7 X (subscriptTail a slice v u) (EP X b c Q) X.xe s
def TU(X:Cx)(id:String)(r:V->List V->Hp->VK->Prop):Prop:=
 ∀(a:kv) (s:hW) (b:St) (H:Hp) (x:V) (xs:List V) (v:hV) (c:List hV) (Q:VK),Inv X a b H s->RelV x v->Vals xs c->r x xs H Q->
  zx7 X (call (.builtin id) (v::c)) (EP X a b Q) X.xe s
section
variable{a b:ia}{ta tb:TE}
def Iz{r:R2}(c:ML X r)(d:PE X a ta)(e:PE X b tb)(hs:qA b):PE X (.Subscript a b pos) (MB r ta tb):=by intro f s g H Q I h;exact Subscript_ (Jp d e I h λv u i x y j k m o q=>c a b f i g j x y v u Q k m o q (hs _ _))
abbrev Tb(K:zz8):R2:=λx y H Q=>∃p xs i v,x=.ref p/\y=.int i/\kJ K H p xs/\vF xs i=hG v/\Q v H
abbrev O9(K:zz8):R2:=λx y H Q=>∃p xs i v,x=.ref p/\y=.int i/\fC K H p xs/\vF xs i=hG v/\Q v H
abbrev Tc:R2:=λx y H Q=>∃z i c,x=.str z/\y=.int i/\z.length<=i2/\vF z.cps.toList i=hG c/\Q (.str {#[c]}) H
def Fz:ML X (Tb X.K):=by
 intro d slice f s g H x y v u Q I m o h hs;let(p,xs,i,z,rfl,rfl,A,B,q):=h;cases m;let(t,rfl):=o;let(C,r,pl,M):=I.list A;let(j,c,D,N,E,F):=qH B;let(w,k,G):=r.get D;have hl:=r.length;have O:=nJ;have fin:EP X f g Q w s:=⟨z,H,I,G,q⟩;by_cases h0:0<=i
 .have e:i.toNat=j:=by
   rw [seqIndex_of h0 F] at c;exact zzq c
  exact item_listR pl.isList h0 (by lia) (by rw [e];simpa using k) fin hs
 .have e:(i+(C.toArray.size:Int)).toNat=j:=by
   rw [seqIndex_neg (by lia) E] at c;rw [a0,<-hl];exact zzq c
  exact subscriptTail_builtinR (x:=w) pl.isList.typeIs slot_list_getitem.lookup
   (wpAny_getItem_list_neg (Q:=λr L=>r=w/\EP X f g Q r L) pl.isList (by lia) (by rw [a0]<;>lia) (by lia) (by rw [e];simpa using k) ⟨rfl,fin⟩) hs
def B0:ML X (O9 X.K):=by
 intro c slice d s e H x y v u Q I f g h hs;let(p,xs,i,z,rfl,rfl,k,m,q):=h;cases f;let(t,rfl):=g;let(E,r,pl,F):=I.tuple k;let(j,o,A,G,L,M):=qH m;let(w,B,C):=r.get A;have hl:=r.length;have N:=nJ;have fin:EP X d e Q w s:=⟨z,H,I,C,q⟩
 exact subscriptTail_builtinR (x:=w) pl.typeIs slot_tuple_getitem.lookup
  (getItem_tuple (j:=j) (Q:=λr D=>r=w/\EP X d e Q r D) pl (by lia) (by lia) (by rw [a0,<-hl];exact o) (zx6 B) ⟨rfl,fin⟩) hs
def K6:ML X Tc:=by
 intro d slice w s A H x y v u Q I f g h hs;let(z,i,c,rfl,rfl,B,k,q):=h;let(t,rfl):=f;let(C,rfl):=g;let(j,e,m,D,o,p):=qH k;have hl:z.cps.toList.length=z.length:=by simp [Str.length]
 rw [hl] at e o p;have E:=nJ;exact tail_any (typeIs_str s z t) slot_str_getitem.lookup (getItem_str (c:=c) (by have e1:decide (i< -(2^63:Int))=hU:=zz0 (by lia);have r:decide (i>=2^63)=hU:=zz0 (by lia);rw [e1,r,Bool.or_false]) (by rw [e];simpa using m) {.str {#[c]},H,I.tok _,{_,rfl},q}) hs
def rR(c d:Option Int)(n:Nat):(sliceBounds c d hI n).1=((HT.cX n 0 c:Nat):Int)/\(sliceBounds c d hI n).2.1=((HT.cX n n d:Nat):Int)/\(sliceBounds c d hI n).2.2=1:=by
 refine{?_,?_,rfl}
 .cases c with
  |none=>simp [sliceBounds,HT.cX]|some i=>
   simp! [sliceBounds,HT.cX,Option.getD_none,show(1:Int)>0 by decide,if_true];by_cases h:i<0
   .simp! [h,if_true]<;>lia
   .simp! [h,if_false]<;>lia
 .cases d with
  |none=>simp [sliceBounds,HT.cX]|some i=>
   simp! [sliceBounds,HT.cX,Option.getD_none,show(1:Int)>0 by decide,if_true];by_cases h:i<0
   .simp! [h,if_true]<;>lia
   .simp! [h,if_false]<;>lia
def o9(c:List hV)(d e:Option Int):slicePick c.toArray d e hI=((c.drop (HT.cX c.length 0 d)).take (HT.cX c.length c.length e-HT.cX c.length 0 d)).toArray:=by let(f,g,h):=rR d e c.toArray.size;unfold slicePick;rw [f,g,h];simp! [sliceRange_one,pick_run,a0]<;>rfl
def Td(K:zz8):V->Option Int->Option Int->Hp->VK->Prop:=λx c d H Q=>∃a xs,x=.ref a/\kJ K H a xs/\∀p,H p=hI->Q (.ref p) (upd H p (.lst (tJ xs c d)))
def GY:A1 X (Td X.K):=by intro k s m H x v p t d e u Q I g hs pl pu h;let(a,xs,rfl,i,q):=h;cases g;let(w,r,f,j):=I.list i;have c:=r.length;refine{"list",_,slot_list_getitem.lookup,f.isList.typeIs,?_};refine wpAny_getItem_list_slice f.isList hs pl pu .none (by simp) ?_ (by rw [a0]<;>lia);rw [o9,<-c];refine{.ref (zz9 s),_,I.laid (t':=s.toks) (o:=.lst (tJ xs d e)) (λb ob q=>ar _ q) (a8 _) ?_,rfl,q _ (I.aR.fresh (a8 _))};exact{ee (lF xs d e) j,_,0,(r.drop (HT.cX xs.length 0 d)).take (HT.cX xs.length xs.length e-HT.cX xs.length 0 d),en _ rfl}
def jz:eC X (.builtin "len") (λxs H Q=>∃p ys,xs=[.ref p]/\(kJ X.K H p ys\/fC X.K H p ys)/\Q (.int ys.length) H):=by
 intro j s k H xs m Q I r h;let(p,ys,rfl,d,q):=h;let(u,rfl,f):=vals1 r;cases f;have o:=nJ
 rcases d with d|d
 .let(g,e,pl,i):=I.list d;have c:=e.length;exact Calls.call_len_list pl.isList (by simp! [a0]<;>lia) {.int ys.length,H,I.tok _,{s.toks+1,by rw [a0,c]},q}
 .let(g,e,pl,i):=I.tuple d;have c:=e.length;exact len_tuple pl (by simp! [a0]<;>lia) {.int ys.length,H,I.tok _,{s.toks+1,by rw [a0,c]},q}
def qK:eC X (.builtin "len") (λxs H Q=>∃z,xs=[.str z]/\z.length<=i2/\Q (.int z.length) H):=by intro c s d H xs e Q I r h;let(z,rfl,f,q):=h;let(u,rfl,t,rfl):=vals1 r;have g:=nJ;exact len_str (by lia) {.int z.length,H,I.tok _,{_,rfl},q}
def oG:eC X (.type "tuple") (λxs H Q=>∃p ys,xs=[.ref p]/\((kJ X.K H p ys/\∀l,H l=hI->Q (.ref l) (upd H l (.tup ys)))\/(fC X.K H p ys/\Q (.ref p) H))):=by
 intro i s j H xs A Q I r h;let(p,ys,rfl,h):=h;let(u,rfl,y):=vals1 r
 cases y;rcases h with⟨d,q⟩|⟨d,q⟩
 .let(f,g,pl,k):=I.list d;have m:=g.length;refine call_tuple_list pl.isList (λc kp=>?_) (by simp! [a0]<;>lia);have t:Inv X i j H {s with heap:=c}:=I.kept (t':=s.toks) kp
  have z:Inv X i j (upd H c.objs.size (.tup ys)) {s with heap:=c.push {cls:=.type "tuple",data:=.seq f.toArray}}:=
   t.laid (t':=s.toks) (λb o e=>ar _ e) (a8 _) (show bZ X.prog X.w _ _ _ (.tup ys) from{k,f,g,IsTup.new _ _})
  exact{.ref c.objs.size,_,z,rfl,q _ (t.aR.fresh (a8 _))}
 .let(f,g,pl,k):=I.tuple d;exact call_tuple_same pl {.ref p,H,I,rfl,q}
def VP(K:zz8)(T:String)(x:V)(H:Hp):Prop:=match x with
 |.str _=>T="str"|.int _=>T="int"|.ref p=>(T="list"/\∃xs,kJ K H p xs)\/(T="tuple"/\∃o,K.lookup p=hG o/\o.cls=.type "tuple"/\o.dict=hI)\/
  (T="dict"/\((∃c,H p=hG (.dK c))\/∃c,H p=hG (.dT c)))\/(T="set"/\∃S n,H p=hG (.set S n))
 |_=>False
def MG{f:kv}{g:St}{s:hW}{T:String}{x:V}{v:hV}(I:Inv X f g H s)(r:RelV x v)(ty:VP X.K T x H):
 s.TypeIs v T/\∀a,v=.ref a->∃ob,s.heap.get? a=hG ob/\ob.dict=hI:=by
 cases x with
 |str z=>let(t,rfl):=r;cases(show T="str" from ty);exact{typeIs_str s z t,λZ e=>nomatch e}
 |int i=>let(t,rfl):=r;cases(show T="int" from ty);exact{typeIs_int s i t,λZ e=>nomatch e}
 |ref p=>
  cases r;rcases ty with⟨rfl,xs,h⟩|⟨rfl,o,hk,j,hd⟩|⟨rfl,hk⟩|⟨rfl,S,n,hk⟩
  .let(m,_,pl,_):=I.list h;refine{pl.isList.typeIs,λa e=>?_};cases e;let(o,n,e,c,hd,_):=pl;exact⟨o,e,hd⟩
  .refine{{o,I.kS p o hk,j},λa e=>?_};cases e;exact{o,I.kS _ o hk,hd}
  .have z:∃o,s.heap.get? p=hG o/\o.ExactDict:=by
    rcases hk with⟨k,hk⟩|⟨k,hk⟩
    .let(_,_,_,_,o,_,_,e,ex,_):=I.aR p _ hk;exact⟨o,e,ex⟩
    .let(_,_,_,_,o,_,_,e,ex,_):=I.aR p _ hk;exact⟨o,e,ex⟩
   let(o,e,ex):=z;refine{⟨o,e,ex.1⟩,λa d=>?_};cases d;exact⟨o,e,ex.2.1⟩
  .let(o,_,_,_,e,ex,_):=I.aR p _ hk;refine{⟨o,e,ex.1⟩,λa d=>?_};cases d;exact⟨o,e,ex.2.1⟩
 |_=>exact e6 ty
abbrev Xz(K:zz8)(T:String)(r:V->List V->Hp->VK->Prop)(e:TE)(t:TA):TE:=λc H Q=>e c H λx d=>VP K T x d/\t c d λxs f=>r x xs f Q
variable{o:ia}{es:List ia}{to:TE}{t:TA}{name:Str}{apos bL:Pos}{T id:String}{r:V->List V->Hp->VK->Prop}
theorem yj(k:PlainAttrs T)(slot:Slot T name id)(m:typeOf (.builtin id)=pure (.type "method_descriptor"))(hm:TU X id r)(p:PE X o to)(q:PA X (e::es) t)
 (u:attributeBase o name X.env (eval o X.env)=eval o X.env:=by rfl)
 (w:((backTo bL (starEach (e::es) X.env)).all (λx=>!x.1)&&(backToKw bL (keywordEach [] X.env)).all (λx=>x.1.isSome)
  &&decide ((e::es).length+([]:List Keyword).length+(if([]:List Keyword).isEmpty then 0 else 1)<30))=hQ:=by rfl)
 (y:(apos.endLine==bL.line)=hQ:=by rfl) (hs:starEach (e::es) X.env=(hU,eval e X.env)::starEach es X.env:=by rfl) (z:(backTo bL (starEach es X.env)).any (·.1)=hU:=by rfl):
 PE X (.Call (.Attribute o name apos) (e::es) [] bL) (Xz X.K T r to t):=by
 intro c s d H Q I h;refine wpAny_Call_method_late u w y rfl (bM (p c s d H _ I h) λv A f=>?_);let(x,B,g,i,ty,C):=f;let(D,E):=MG g i ty;refine{T,id,k,slot,m,D,E,?_};have j:=q bL c A d B _ g C;rw [hs] at j⊢;refine Calls.callWith_builtin (by show(hU||(backTo bL (starEach es X.env)).any (·.1))=hU;rw [z]<;>rfl) (Calls.evalArgs_plain ?_);exact bM j λF G ⟨L,M,N,O,P⟩=>hm c G d M x L v F Q N i O P
end
def Ra(X:Cx)(id:String)(r:V->List V->Hp->VK->Prop):Prop:=
 ∀(a:kv) (s:hW) (b:St) (H:Hp) (x:V) (xs:List V) (v:hV) (c:List hV) (Q:VK),Inv X a b H s->RelV x v->Vals xs c->r x xs H Q->
  zx7 X (call (.builtin id) (v::c)) (EP X a b Q) X.xe s
def Vals.one{x:V}(h:Vals [x] us):∃u,us=[u]/\RelV x u:=by
 cases h with
 |cons r q=>cases q;exact{_,rfl,r}
def Vals.two{x y:V}(h:Vals [x,y] us):∃u v,us=[u,v]/\RelV x u/\RelV y v:=by
 cases h with
 |cons r q=>
  cases q with
  |cons q n=>cases n;exact{_,_,rfl,r,q}
theorem Vals.eraseIdx:∀{xs:List V} {us:List hV} (i:Nat),Vals xs us->Vals (xs.eraseIdx i) (us.eraseIdx i)
 |_,_,_,.nil=>.nil|_,_,0,.cons _ t=>t|_,_,i+1,.cons r t=>.cons r (Vals.eraseIdx i t)
theorem Vals.rep{xs:List V}(h:Vals xs us):∀k:Nat,Vals (kq k xs).flatten (kq k us).flatten
 |0=>.nil|k+1=>by rw [List.replicate_succ,List.replicate_succ,List.flatten_cons,List.flatten_cons];exact Vals.append h (Vals.rep h k)
theorem kW{a:Type}:∀(l:List a) (i:Nat),(l.eraseIdx i).length<=l.length
 |[],_=>a8 _|_::_,0=>Nat.le_succ _|_::r,i+1=>Nat.succ_le_succ (kW r i)
theorem foldl_rep(b:List hV):∀(k:Nat) (a:List hV),
 List.foldl (λc d=>c++d) a.toArray (kq k b.toArray)=(a++(kq k b).flatten).toArray
 |0,a=>by simp|k+1,a=>by
  have e:a.toArray++b.toArray=(a++b).toArray:=by simp
  have f:(a++b)++(kq k b).flatten=a++(kq (k+1) b).flatten:=by rw [List.replicate_succ,List.flatten_cons,List.append_assoc]
  rw [<-f,<-foldl_rep b k (a++b),<-e,List.replicate_succ,List.foldl_cons]
section
variable{ae:kv}{s:hW}{l:h9}{xs ys:List V}
def Inv.FI{a its':List hV}{n:Nat}{f:Array hV->Array hV}{t':Nat}(I:zv2 s)(b:H l=hG (.lst xs))
 (e:s.heap.get? l=hG {cls:=.type "list",data:=.seq a.toArray n}) (c:f a.toArray=its'.toArray) (d:Vals ys its') (hz:ys.length<=i2):
 Inv X ae σ (upd H l (.lst ys)) {s with heap:=s.heap.update l (Obj.mapSeq f),toks:=t'}:=by
 have q:=PySem.IsL.update e f;rw [c] at q;refine I.write (x:=l) (e:=l) (by rw [b];exact trivial) (.inl rfl) (λi u g h=>(i1.get?_update_other s.heap (Obj.mapSeq f) (Ne.symm g)).trans h) {_,q} ?_;exact{hz,its',_,d,q}
theorem Inv.SF{a:List hV}{t':Nat}(I:zv2 s)(b:Vals ys a)(hz:ys.length<=i2):
 Inv X ae σ (upd H (zz9 s) (.lst ys)) {s with heap:=s.heap.push {cls:=.type "list",data:=.seq a.toArray},toks:=t'}:=
 I.laid (λZ Z q=>ar _ q) (a8 _) {hz,a,0,b,en _ rfl}
def Inv.fresh(I:zv2 s):H (zz9 s)=hI:=I.aR.fresh (a8 _)
def Inv.FJ(I:zv2 s)(b:H l=hG (.lst xs)):xs.length<=i2/\∃(a:List hV) (n:Nat),Vals xs a/\xs.length=a.length/\s.heap.get? l=hG {cls:=.type "list",data:=.seq a.toArray n}:=by let(z,a,n,r,e):=I.aR l _ b;exact⟨z,a,n,r,r.length,e⟩
def Cu{n:Nat}(h:n<=i2):jj.List.listTooLong n=hU:=by unfold jj.List.listTooLong;exact zz0 (by lia)
def GJ:V->List V->Hp->VK->Prop:=λx a H Q=>∃l xs y,x=.ref l/\a=[y]/\H l=hG (.lst xs)/\xs.length<i2/\Q .aL (upd H l (.lst (xs++[y])))
def Aa:Ra X "list.append" GJ:=by intro ae s σ H x g v i Q I c d h;let(l,xs,y,rfl,rfl,a,j,q):=h;cases c;let(u,rfl,f):=d.one;let(z,b,n,r,hl,e):=I.FJ a;refine call_meets F.slot_list_append {_,e,rfl} F.entry_list_append (F.args_list_append_2 _ _) (PySem.list_append l b.toArray n u (by rw [a0];lia)) {e,?_};refine{.aL,_,I.FI (its':=b++[u]) a e (by simp) (r.append (.cons f .nil)) ?_,rfl,q};rw [c7,List.length_singleton];lia
def Mc:V->List V->Hp->VK->Prop:=λx a H Q=>∃l xs i k y,x=.ref l/\a=[.int i]/\H l=hG (.lst xs)/\ -(2^63)<=i/\i<2^63/\seqIndex? i xs.length=hG k/\xs[k]?=hG y/\Q y (upd H l (.lst (xs.eraseIdx k)))
def Co:Ra X "list.pop" Mc:=by
 intro ae s σ H x A v B Q I c d h;let(l,xs,i,k,y,rfl,rfl,b,f,g,hk,j,q):=h;cases c;let(u,rfl,m):=d.one;let(t,rfl):=m;let(z,a,n,r,hl,e):=I.FJ b;let(w,o,p):=r.get j
 refine call_meets F.slot_list_pop {_,e,rfl} F.entry_list_pop (F.args_list_pop_2 _ _)
  (MeetsSeq.list_pop_at l a.toArray n i t k w (fitsIndex_both f g) (by rw [a0,<-hl];exact hk) (by rw [<-Array.getElem?_toList];exact o) (by rw [a0];lia)) {e,?_}
 refine{y,_,I.FI (its':=a.eraseIdx k) b e ?_ (r.eraseIdx k) ?_,p,q}
 .show a.toArray.eraseIdxIfInBounds k=(a.eraseIdx k).toArray;rw [List.eraseIdxIfInBounds_toArray]
 .have:=kW xs k;lia
def len_rep{a:Type}(xs:List a)(k:Nat):(kq k xs).flatten.length=k*xs.length:=by
 induction k with
 |zero=>simp|succ k b=>rw [List.replicate_succ,List.flatten_cons,c7,b,Nat.succ_mul,Nat.add_comm]
end
end L2
namespace Att
open PySem.W PySem.Calls PyProof.Rows
def mn{P:Params}:∀(ns:List Int) (vs:List hV),WellAll P h vs (ns.map WData.int)->IntsAre vs ns:=by
 intro ns
 induction ns with
 |nil=>intro vs w;rw [List.map_nil] at w;cases w;exact .nil
 |cons n ns c=>
  intro vs w;rw [a9] at w;cases w with
  |cons a b=>cases a;exact .cons _ _ (c _ b)
def As{l:OpenLaw}{n:Nat}(j:l.most=hG n){P:Params}{args:List WData}{vals:List hV}
 (g:l.row.toRowW.claim.pre args=hQ) (k:WellAll P h vals args):
 ∃a vs ns,vals=[hV.ref a]/\args=[WData.list (ns.map WData.int)]/\h.get? a=hG {cls:=.type "list",data:=.seq vs.toArray}/\IntsAre vs ns/\ns.length<=n:=by
 have m:WShape.hasAll [] args [.list .int]=hQ:=(pre_splitW g).1;have i:l.pre.holds [] {args:=args}=hQ:=(pre_splitW g).2;let(d,r,rfl,o,p):=hasAllW_cons m;obtain rfl:=hasAllW_nil p;let(xs,rfl,s):=hasW_list o;let(ns,rfl):=items_int s
 have b:ns.length<=n:=by
  unfold OpenLaw.pre at i;have e:(WTm.not (.lt (.lit (.int (n:Int))) (.len (.arg 0)))).holds [] {args:=[.list (ns.map .int)]}=hQ:=by have e:=(holds_andW i).1;rw [j] at e;exact e
  have f:=condW_of e (w_not (w_lt w_lit (w_len_list (w_arg rfl))));rw [zzl] at f;refine Nat.le_of_not_lt λq=>?_;have t:(n:Int)<((ns.length:Nat):Int):=by omega
  first
   |(rw [zzh t] at f;exact absurd f (by decide))
   |(simp at f;omega)
 cases k with
 |cons w1 u=>
  cases u;cases w1 with
  |list w c=>exact{_,_,ns,rfl,rfl,w,mn ns _ c,b}
theorem Am(l:OpenLaw)(args:List WData):l.row.toRowW.claim.post args (.bool hQ) args=hQ:=
 postW_of (r:=l.row.toRowW) (X:=(hQ==hQ))
  (show WShape.has [] (.bool hQ) .bool=hQ by first|rfl|decide|simp [WShape.has,WShape.arms,WShape.armsAll])
  (show(WTm.eq .res (.lit (.bool hQ))).value [] {args:=args,res:=hG (.bool hQ),after:=args}=hG (.bool (hQ==hQ)) from w_eq_bool (w_res rfl) w_lit) rfl
def sV{l:OpenLaw}{n:Nat}{q:ig}{c:List Str}{p:(Str->Option hV)->i1->Prop}{s:ij->i1->Prop}{d:DefRec}
 (y:l.most=hG n) (z:d.params.defaults=[])
 (call:∀(w:ij) (s₀ b:hW) (mg mb:Str->Option hV) (h:h9) (o:Obj) (k cd e:hV) (a:h9) (vs:List hV) (ns:List Int),
  Ground q c [] p w s₀ mg mb b.heap->s w b.heap->
  b.heap.get? h=hG o->o.data=.func (docDef d.name d.params d.body d.scope k cd e)->b.heap.CodeRec cd d.name->mg d.name=hG (.ref h)->
  b.heap.get? a=hG {cls:=.type "list",data:=.seq vs.toArray}->IntsAre vs ns->ns.length<=n->b.gens=#[]->
  codeAny (ik l.prog w) callerA (.call (.ref h) {[.ref a],[]}) (λr s'=>r=.ok (.ret (.bool hQ))/\OldK b.heap s'.heap/\s'.os=b.os/\AllBare s'.gens) b):
 WalkO q c p s l.row.toRowW d [] (λf vs=>PySem.call f vs):=by
 intro w s₀ b mg mb G Y h o k cd e A kV B hd C t m D args vals as E u F H I;obtain rfl:A=.none:=Dflts.none t z;obtain rfl:kV=.none:=Dflts.noKw t;let(a,vs,ns,rfl,rfl,i,g,j):=As y E H;refine enter_call (codeAny_mono (call w s₀ b mg mb h o k cd e a vs ns G Y B (fd_plain hd) C m i g j D) λr s' K=>?_);let(rfl,L,M,N):=K;exact{.inl {.bool hQ,.bool hQ,[],rfl,λZ=>rfl,.bool hQ,Am l _,λZ=>{List.Pairwise.nil,λZ hm=>(nomatch hm)}},L,M,N}
abbrev ledger(h:i1)(L d:h9):kv:=(List.range h.objs.size).filterMap λa=>if a=L\/a=d then hI else(h.get? a).map λo=>(a,o)
end Att
namespace L2
open PySem.Spec PyProof.Rows
def AA{vs:List hV}{ns:List Int}(r:IntsAre vs ns):Vals (ns.map V.int) vs:=by
 induction r with
 |nil=>exact .nil|cons n t _ a=>exact .cons ⟨t,rfl⟩ a
abbrev cy(s:je):Arguments:=match s with
 |.FunctionDef _ a _ _ _ _ _ _ _ _=>a|_=>{posonlyargs:=[],args:=[],vararg:=hI,kwonlyargs:=[],kw_defaults:=[],kwarg:=hI,defaults:=[]}
abbrev bC(s:je):List Stmt:=match s with
 |.FunctionDef _ _ b _ _ _ _ _ _ _=>b|_=>[]
abbrev az(s:je):Scope:=match s with
 |.FunctionDef _ _ _ _ _ _ sc _ _ _=>sc|_=>{kind:=.function,names:=[],isGenerator:=hU,isCoroutine:=hU}
structure MK(K:zz8)(x qual:Str)(st:je)(f:h9)(fd:FuncData):Prop where
 ex:∃(oc:hV) (od:Option h9) (kV doc pm:hV) (an:Option h9) (dD ct:hV) (oZ:Array (Option hV)),
  fd=PySem.W.fnOf x qual (cy st) (bC st) (az st) .none kV doc pm an dD ct/\K.lookup f=hG {oc,od,.func fd,oZ}/\PySem.W.codeIn K dD qual=hQ
 kp:PySem.W.keepIn K (.ref f)=hQ
section
variable{K:zz8}
def MK.binds{f:h9}{fd:FuncData}{ps:List Str}(F:MK K x qual st f fd)
 (h:∀(kV a b:hV) (c:Option h9) (dD ct:hV) (us:List hV),us.length=ps.length->bindArgs (PySem.W.fnOf x qual (cy st) (bC st) (az st) .none kV a b c dD ct) {us,[]}=pure (ps.zip us)):Binds K fd ps []:=by
 let(oc,d,kV,a,b,c,dD,ct,e,rfl,g,i):=F.ex;exact .all (h kV a b c dD ct)
def q8{f:h9}{oc:hV}{e b:Option h9}{g:Array (Option hV)}{kV a d dD ct:hV}(l:K.lookup f=hG {oc,e,.func (PySem.W.fnOf x qual (cy st) (bC st) (az st) .none kV a d b dD ct),g})
 (c:PySem.W.codeIn K dD qual=hQ) (k:PySem.W.keepIn K (.ref f)=hQ):MK K x qual st f (PySem.W.fnOf x qual (cy st) (bC st) (az st) .none kV a d b dD ct):={⟨oc,e,kV,a,d,b,dD,ct,g,rfl,l,c⟩,k}
end
def Su{A B:Prop}(h:B):if hU=hQ then A else B:=by rw [if_neg zzf];exact h
def Sw{A B:Prop}(h:A):if hQ=hQ then A else B:=by rw [if_pos rfl];exact h
def ax(H H':Hp):Prop:=∀b o,H b=hG o->H' b=hG o
def ax.refl(H:Hp):ax H H:=λZ Z h=>h
def ax.trans{d e:Hp}(a:ax H d)(b:ax d e):ax H e:=λc o h=>b c o (a c o h)
def ax.free(e:ax H H'){l:h9}(h:H' l=Option.none):H l=Option.none:=by
 cases q:H l with
 |none=>rfl|some o=>rw [e l o q] at h;cases h
end L2
set_option maxHeartbeats 8000000
namespace L2
open PySem.Spec PyProof.Rows
abbrev bG(env:Env)(ys:List Str):List (Str×h9):=ys.map λy=>(y,(env.cells.lookup y).getD 0)
abbrev AL(a:St)(is:List Nat):St:=is.map λi=>(a[i]?).join
abbrev iV(a:iv)(x:Str):Bool:=a.names.lookup x==hG .cell
theorem vI{c:h9}:∀(names:List (Str×NameKind)) (n:Nat) (a:List (Str×h9)),(x,c)∈kd n names a->(x,c)∈a\/(x,NameKind.cell)∈names/\n<=c
 |[],n,a,h=>by rw [kd.eq_def] at h;exact .inl h
 | (y,k)::r,n,a,h=>by
  rw [kd.eq_def] at h;dsimp only at h;split at h
  .rename_i hk;cases eq_of_beq hk;rcases vI r (n+1) _ h with z|⟨b,d⟩
   .rcases e9.mp z with z|z
    .cases z;exact .inr {dB ..,a8 _}
    .exact .inl z
   .exact .inr {b0 _ b,Nat.le_of_succ_le d}
  .rcases vI r n _ h with z|⟨b,d⟩
   .exact .inl z
   .exact .inr {b0 _ b,d}
theorem qN{c:h9}:∀(names:List (Str×NameKind)) (n:Nat) (a:List (Str×h9)),(kd n names a).lookup x=hG c->a.lookup x=hG c\/(x,NameKind.cell)∈names/\n<=c
 |[],n,a,h=>by rw [kd.eq_def] at h;exact .inl h
 | (y,k)::r,n,a,h=>by
  rw [kd.eq_def] at h;dsimp only at h;split at h
  .rename_i hk;cases eq_of_beq hk;rcases qN r (n+1) _ h with z|⟨b,d⟩
   .rw [hB] at z;cases e:x==y with
    |true=>rw [e] at z;cases z;cases eq_of_beq e;exact .inr {dB ..,a8 _}
    |false=>rw [e] at z;exact .inl z
   .exact .inr {b0 _ b,Nat.le_of_succ_le d}
  .rcases qN r n _ h with z|⟨b,d⟩
   .exact .inl z
   .exact .inr {b0 _ b,d}
theorem qM:∀(names:List (Str×NameKind)) (n:Nat) (a:List (Str×h9)),(x,NameKind.cell)∉names->(kd n names a).lookup x=a.lookup x
 |[],n,a,_=>by rw [kd.eq_def]|(y,k)::r,n,a,h=>by
  rw [kd.eq_def];dsimp only;have b:(x,NameKind.cell)∉r:=λz=>h (b0 _ z);split
  .rename_i hk;cases eq_of_beq hk;rw [qM r (n+1) _ b,hB];cases e:x==y with
   |true=>cases eq_of_beq e;exact absurd (dB ..) h
   |false=>rfl
  .exact qM r n a b
theorem Ju{c:h9}:∀(names:List (Str×NameKind)) (n:Nat) (a:List (Str×h9)),(x,c)∈kd n names a->(∀p∈a,p.2≠c)->(x,c)∈kd n names []
 |names,n,a,h,d=>by
  have key:∀(names:List (Str×NameKind)) (n:Nat) (a b:List (Str×h9)),(x,c)∈kd n names (b++a)->(∀p∈a,p.2≠c)->(x,c)∈kd n names b:=by
   intro names
   induction names with
   |nil=>
    intro n a b h d;rw [kd.eq_def] at h⊢;rcases List.mem_append.mp h with z|z
    .exact z
    .exact absurd rfl (d _ z)
   |cons y r e=>
    intro n a b h d;let(y,k):=y;rw [kd.eq_def] at h⊢;dsimp only at h⊢;split at h
    .rename_i hk;rw [if_pos hk];exact e (n+1) a ((y,n)::b) h d
    .rename_i hk;rw [if_neg hk];exact e n a b h d
  exact key names n a [] h d
theorem qO{y:Str}{c:h9}:∀(names:List (Str×NameKind)) (n:Nat) (a:List (Str×h9)),(∀p∈a,p.2<n)->n<=c->(x,c)∈kd n names a->(y,c)∈kd n names a->x=y
 |[],n,a,e,f,b,d=>by rw [kd.eq_def] at b;exact absurd (e _ b) (Nat.not_lt.mpr f)
 | (z,k)::r,n,a,e,f,b,d=>by
  rw [kd.eq_def] at b d;dsimp only at b d;split at b
  .rename_i hk;rw [if_pos hk] at d;have i:∀p∈(z,n)::a,p.2<n+1:=λp j=>by
    rcases e9.mp j with q|q
    .rw [q];exact Nat.lt_succ_self _
    .exact Nat.lt_succ_of_lt (e p q)
   by_cases g:n+1<=c
   .exact qO r (n+1) _ i g b d
   .have one:∀{w:Str},(w,c)∈kd (n+1) r ((z,n)::a)->w=z:=λ{w} h=>by
     rcases vI r (n+1) _ h with q|q
     .rcases e9.mp q with q|q
      .cases q;rfl
      .exact absurd (e _ q) (Nat.not_lt.mpr f)
     .exact absurd q.2 g
    rw [one b,one d]
  .rename_i hk;rw [if_neg hk] at d;exact qO r n a e f b d
def w9{M:Model}{E:ku}{s:hW}{a:iv}{g:h9}{cl:List (Str×h9)}{c:Env}{Q:Env->hW->Prop}
 (h:Q (newEnv a (zz9 s) g (kd ((zz9 s)+1) a.names cl) qual hI .none (hG c) builtinsNs) {s with heap:=pushCells (s.heap.push {cls:=.type "dict",data:=.dict #[]}) a.names}):
 ie M A (newFunctionEnv a g cl [] qual hI .none (hG c)) Q E s:=by
 unfold newFunctionEnv;refine ak (wpAny_alloc ?_);refine ak (wpAny_forIn_list _ (λrest b f=>f={s with heap:=f.heap}/\pushCells f.heap rest=pushCells (s.heap.push {cls:=.type "dict",data:=.dict #[]}) a.names/\kd (zz9 f) rest b=kd ((zz9 s)+1) a.names cl) _ (λx rest b f j=>?_) (λb f j=>?_) a.names cl {rfl,rfl,by rw [i1.size_push]})
 .let(i,d,e):=j;let(m,k):=x;rw [pushCells.eq_def] at d;rw [kd.eq_def] at e;dsimp only at d e⊢;split
  .rename_i hk;rw [if_pos hk] at d e;refine ak (wpAny_alloc (bc {by rw [i],d,?_}));dsimp only;rw [i1.size_push];exact e
  .rename_i hk;rw [if_neg hk] at d e;exact bc ⟨i,d,e⟩
 .let(i,d,e):=j;rw [pushCells.eq_def] at d;rw [kd.eq_def] at e;dsimp only at d e;subst e;rw [i,d];exact ak (bc (bc h))
noncomputable def bP(X:Cx)(d:List Str)(a:iv)(cl:List (Str×h9))(fp:List h9)(b:hW)(c:Hp)(C:h9):Cx where
 prog:=X.prog
 w:=X.w
 K:=X.K
 mg:=X.mg
 base:=X.base
 A:=X.A
 N:=d
 s₀:=b
 H₀:=c
 env:=compEnvC a (kd (C+1) a.names cl) C X.env
 outer:=X.stack
 stack:=X.stack
 ex:=fp
 fn:=iV a
 calm:=hQ
 pn:=[]
 xe:=λZ Z=>False
theorem fF{env:Env}:∀{ys:List Str},(ys.all λy=>(env.cells.lookup y).isSome)=hQ->∀(x:Str) (c:h9),(bG env ys).lookup x=hG c->env.cells.lookup x=hG c
 |[],_,_,_,h=>by simp [bG] at h|y::ys,a,x,c,h=>by
  rw [List.all_cons,zza] at a;have b:=fF (env:=env) a.2 x c
  unfold bG at h b;rw [a9,hB] at h;cases e:x==y with
  |true=>rw [e] at h;have d:x=y:=zzy.mp e;subst d;let(g,f):=fx.mp a.1;rw [f] at h⊢;exact h|false=>rw [e] at h;exact b h
theorem jW{env:Env}:∀{ys:List Str} {x:Str},x∈ys->∃c,(bG env ys).lookup x=hG c
 |[],_,h=>nomatch h|y::ys,x,h=>by
  unfold bG;rw [a9,hB];cases e:x==y with
  |true=>exact{_,rfl}|false=>
   have a:x∈ys:=by
    rcases e9.mp h with z|z
    .rw [z] at e;simp at e
    .exact z
   exact jW (env:=env) a
def lX{a:iv}{env:Env}{k:NameKind}(h:(relabel a env).names.lookup x=hG k)(hk:k=.cell\/k=.free):∃b,(x,b)∈a.names/\(b=.cell\/b=.free):=by
 have hm:=PySem.mem_of_lookup h;unfold relabel at hm;let((n,f),c,e):=gI.mp hm;dsimp only at e;split at e
 .rename_i d;cases e;refine{f,c,.inr ?_};rw [zza,zza] at d;exact zzy.mp d.1.1
 .cases e;exact⟨k,c,hk⟩
structure fK(X:Cx)(scope:iv)(xs ys:List Str)(is:List Nat):Prop where
 kind:scope.kind=.function
 Rv:closureFor scope X.env=pure (bG X.env ys)
 cells:(ys.all λy=>(X.env.cells.lookup y).isSome)=hQ
 JB:(scope.names.all λy=>(decide (y.2≠.cell)||!ys.contains y.1)&&(decide (y.2≠.free)||ys.contains y.1))=hQ
 own:(scope.names.all λy=>decide (y.2≠.cell)||decide (scope.names.lookup y.1=hG .cell))=hQ
 names:(scope.names.all λy=>decide (y.2≠.local)||decide (scope.names.lookup y.1=hG .local))=hQ
 slots:is.map (λi=>X.N[i]?)=ys.map hG
 kX:(ys.all λy=>decide (X.env.kindOf y=hG .cell))=hQ
 kY:(ys.all λy=>decide ((relabel scope X.env).names.lookup y=hG .cell))=hQ
section
variable{ae:kv}{s:hW}{scope:iv}{xs ys:List Str}{is:List Nat}
def fK.LM(S:fK X scope xs ys is)(h:(x,NameKind.cell)∈scope.names):scope.names.lookup x=hG .cell/\x∉ys:=by
 have q:=ed.mp S.own _ h;have c:=ed.mp S.JB _ h;rw [zza,gd] at c;rw [gd] at q;refine{zzY (q.resolve_left λz=>zzY z rfl),λa=>?_}
 rcases c.1 with z|z
 .exact zzY z rfl
 .rw [fb.mpr a] at z;cases z
def ip(I:zv2 s)(S:fK X scope xs ys is){C:h9}(hC:(zz9 s)<=C){c:h9}(h:(kd (C+1) scope.names (bG X.env ys)).lookup x=hG c):
 (X.env.cells.lookup x=hG c/\c<(zz9 s)/\x∈ys)\/((x,NameKind.cell)∈scope.names/\C+1<=c):=by
 rcases qN _ _ _ h with z|z
 .have e:=fF S.cells x c z;let(v,q):=I.cell x c e;refine .inl {e,q.lt,?_};have hm:=PySem.mem_of_lookup z;unfold bG at hm;let(y,a,b):=gI.mp hm;cases b;exact a
 .exact .inr z
def zr(I:zv2 s)(w:X.calm=hQ)(S:fK X scope xs ys is){A:List Str}{fp:List h9}{C:h9}(hC:(zz9 s)<=C)(d:∀b∈fp,gV X ae H b)(j:∀b∈fp,b<(zz9 s)):
 (bP X A scope (bG X.env ys) fp s H C).Ok where
 mod:=I.ok.mod
 kind:=S.kind
 glob:=I.ok.glob
 blt:=I.ok.blt
 above:=hC
 inj:=λx y c k m=>by
  rcases ip I S hC k with f|f
  .rcases ip I S hC m with i|i
   .exact I.ok.inj x y c f.1 i.1
   .exact absurd f.2.1 (Nat.not_lt.mpr (ee hC (Nat.le_of_succ_le i.2)))
  .refine qO scope.names (C+1) (bG X.env ys) (λp r=>?_) f.2 (PySem.mem_of_lookup k) (PySem.mem_of_lookup m);unfold bG at r;let(y,B,rfl):=gI.mp r;let(D,t):=fx.mp (ed.mp S.cells y B);let(v,q):=I.cell y D t;dsimp only;rw [t];exact Nat.lt_succ_of_le (ee (Nat.le_of_lt q.lt) hC)
 has:=λx E=>by
  have F:(relabel scope X.env).names.lookup x=hG .cell\/(relabel scope X.env).names.lookup x=hG .free:=E
  have:∃g,(x,g)∈scope.names/\(g=.cell\/g=.free):=by
   rcases F with z|z
   .exact lX z (.inl rfl)
   .exact lX z (.inr rfl)
  let(g,hm,hk):=this;have u:=ed.mp S.JB _ hm
  rw [zza,gd,gd] at u;rcases hk with z|z
  .subst z;exact fx.mp (PySem.W.cellsFrom_some _ _ _ (.inl (S.LM hm).1))
  .rcases u.2 with q|q
   .exact absurd z (zzY q)
   .refine fx.mp (PySem.W.cellsFrom_some _ _ _ (.inr ?_));let(c,e):=jW (env:=X.env) (fb.mp q);rw [e];rfl
 MO:=λx c h e=>by
  have hm:(x,NameKind.cell)∈scope.names:=PySem.mem_of_lookup (eq_of_beq h)
  rcases ip I S hC e with z|z
  .exact absurd z.2.2 (S.LM hm).2
  .exact ee hC (Nat.le_of_succ_le z.2)
 hd:=λZ=>I.ok.hd w
 frames:=I.ok.frames
 Pr:=.inl rfl
 exf:=λb a=>{et (el (j b a) hC),λx c h=>(ip I S hC h).elim (λz=>(d b a).2.2.2.2.1 x c z.1) λz q=>absurd (j b a) (Nat.not_lt.mpr (q▸ee hC (Nat.le_of_succ_le z.2)))}
 bs:=λb o e=>I.bs b o e
 xl:=ee I.ok.xl I.sz
 FU:=λb o e a=>by
  rcases(d b a).2.2.2.1 with z|z
  .exact I.ok.FU b o e z
  .exact absurd (el (c8 e) (ee I.ok.xl z)) (Nat.lt_irrefl _)
 JS:=λb a hs=>(e9.mp (I.ju b hs)).elim (d b a).2.1 (d b a).2.2.1
 gZ:=I.stack
 xG:=λb a=>I.mL b a
theorem xW:∀{is:List Nat} {ys:List Str},is.map (λi=>N[i]?)=ys.map hG->∀(j:Nat) (y:Str) (v:V),ys[j]?=hG y->(AL σ is)[j]?=hG (hG v)->∃i:Nat,N[i]?=hG y/\σ[i]?=hG (hG v)
 |[],[],_,_,_,_,h,_=>by simp at h|[],_::_,h,_,_,_,_,_=>by simp at h|_::_,[],h,_,_,_,_,_=>by simp at h|i::is,c::ys,h,0,y,v,b,a=>by rw [a9,a9] at h;have d:=(List.cons.inj h).1;simp! [List.getElem?_cons_zero,Option.some.injEq] at b;subst b;refine{i,d,?_};unfold AL at a;simp! [a9,List.getElem?_cons_zero,Option.some.injEq] at a;exact Option.join_eq_some_iff.mp a|i::is,c::ys,h,j+1,y,v,b,a=>by rw [a9,a9] at h;refine xW (is:=is) (ys:=ys) (List.cons.inj h).2 j y v (zx6 b) ?_;unfold AL at a⊢;simpa using a
noncomputable abbrev lobj(a:List hV)(n:Nat):Obj:={cls:=.type "list",data:=.seq a.toArray n}
def zZ(a:List hV)(n:Nat)(v:Option hV):(lobj a n).data≠.cell v:=λz=>by cases z
noncomputable abbrev tests(a:List ia)(env:Env):Sem Bool:=forIn a hQ λc r=>if r=hQ then do let ok<-isTrue c env (eval c env);pure (ForInStep.yield ok) else pure (ForInStep.yield r)
theorem qQ{R:Result->hW->Prop}{s:hW}{q a g:ia}{t:List ia}{scope:iv}{it:hV}{env:Env}(I:Nat->hW->Prop)
 (turn:∀n s,I n s->ie (ik prog w) A (pyNext it) (λr b=>match r with
  |none=>R (.ok .next) b|some v=>ie (ik prog w) A (letOwnedTupleGo a it v) (λZ c=>ie (ik prog w) A (assign a env v) (λZ i=>
   ie (ik prog w) A (tests t env) (λok d=>if ok=hQ then ie (ik prog w) A (eval q env) (λx j=>
    ie (ik prog w) A (call (.builtin "list.append") [u,x]) (λZ k=>∃m,m<n/\I m k) (notedBy (ik prog w) A env λe s'=>R (.error e) s') j) (notedBy (ik prog w) A env λe s'=>R (.error e) s') d
    else∃m,m<n/\I m d) (notedBy (ik prog w) A env λe s'=>R (.error e) s') i)
   (notedBy (ik prog w) A env λe s'=>R (.error e) s') c) (notedBy (ik prog w) A env λe s'=>R (.error e) s') b) (notedBy (ik prog w) A env λe s'=>R (.error e) s') s)
 (n:Nat) (h:I n s):
 codeAny (ik prog w) A (.compLoop (.ListComp q [{a,g,t,0}] scope pos) 0 it u env) R s:=by
 refine codeAny_loop rfl I (λn s D=>?_) n h;show ie _ A ((compTurn (.ListComp q [{a,g,t,0}] scope pos) 0 it u env).onRaise (λx=>do noteFrame x env;theTreesLotGoes x)) _ _ s;refine wpAny_noted ?_;rw [compTurn_list];refine ak (wpAny_standAt (ak (wpAny_mono (turn n s D) (λr b o=>?_) λZ Z f=>f)))
 cases r with
 |none=>exact bc o|some v=>
  refine ak (wpAny_mono o (λZ c y=>?_) λZ Z f=>f);refine ak (wpAny_mono y (λZ i z=>ak (wpAny_mono z (λok d p=>?_) λZ Z f=>f)) λZ Z f=>f)
  cases ok with
  |false=>exact bc ⟨rfl,p⟩|true=>exact ak (ak (wpAny_mono p (λx j B=>ak (wpAny_mono B (λZ k C=>bc (bc ⟨rfl,C⟩)) λZ Z f=>f)) λZ Z f=>f))
def Rc(X:Cx)(a:List ia)(t:TT):Prop:=
 ∀(ae:kv) (s:hW) (σ:St) (H:Hp) (Q:Bool->Hp->Prop),Inv X ae σ H s->t σ H Q->zx7 X (tests a X.env) (TP X ae σ Q) X.xe s
def yn:Rc X [] (λZ H q=>q hQ H):=λZ Z Z H Z I h=>wpAny_tests_nil ⟨H,I,h⟩
def yo{t:TT}(h:PT X e t):Rc X [e] t:=λae s σ H Q I z=>wpAny_tests_one (h ae s σ H Q I z)
def Nh(J:It)(k:Nat)(g:TG)(te:TE)(fs:St)(Q:VK)(e:Hp):Prop:=∃(n:Nat) (W:Nat->List V->St->Hp->Prop),W 0 [] (kq k hI++fs) e/\
 ∀i ys b a,W i ys b a->ys.length<i2/\((J.stop i a/\∀p,a p=hI->Q (.ref p) (upd a p (.lst ys)))\/
  (J.go i a/\i<n/\∀x d,J.Nc i a x d->g x b d λc f=>te c f λy h=>W (i+1) (ys++[y]) c h))
abbrev yL(a:TI)(k:Nat)(g:TG)(te:TE)(is:List Nat):TE:=λσ H Q=>a σ H λJ b=>Nh J k g te (AL σ is) Q b
def Eg(J:It)(k:Nat)(g:TG)(tt:TT)(te:TE)(fs:St)(Q:VK)(h:Hp):Prop:=∃(n:Nat) (W:Nat->List V->St->Hp->Prop),W 0 [] (kq k hI++fs) h/\
 ∀i ys d c,W i ys d c->ys.length<i2/\((J.stop i c/\∀p,c p=hI->Q (.ref p) (upd c p (.lst ys)))\/
  (J.go i c/\i<n/\∀x e,J.Nc i c x e->g x d e λa j=>tt a j λb f=>if b=hQ then te a f (λy m=>W (i+1) (ys++[y]) a m) else W (i+1) ys a f))
abbrev mM(a:TI)(k:Nat)(g:TG)(tt:TT)(te:TE)(is:List Nat):TE:=λσ H Q=>a σ H λJ b=>Eg J k g tt te (AL σ is) Q b
def iL{elt tg E:ia}{ifs:List ia}{pp:Pos}{wi:TI}{g:TG}{tt:TT}{use:Option (hV->Sem Unit)}{QQ:ku}{Q:VK}(hc:X.calm=hQ)(S:fK X scope xs ys is)(hi:PI X tg E wi)
 (hg:∀fp a G C,PG (bP X (xs++ys) scope (bG X.env ys) fp a G C) tg g) (ht:∀fp a G C,Rc (bP X (xs++ys) scope (bG X.env ys) fp a G C) ifs tt) (he:∀fp a G C,PE (bP X (xs++ys) scope (bG X.env ys) fp a G C) elt te)
 (hs:∀x,foldedSetIterable E X.env x=pure x) (I:zv2 s) (h:mM wi xs.length g tt te is σ H Q)
 (fin:∀(D C:h9) (V:hW) (H4:Hp) (m:Str->Option hV),Inv X ae σ H4 V->V.heap.Ns C m->gV X ae H4 C->Q (.ref D) H4->compPost (ik X.prog X.w) X.A X.xe use QQ (.ref D) C (.ok .next) V):
 zx7 X (comprehension (.ListComp elt [{tg,E,ifs,0}] scope pos) scope X.env pp (newList []) hU (eval E X.env) use) QQ X.xe s:=by
 have KO:∀x∈scope.names,x.2=.local->scope.names.lookup x.1=hG .local:=λx hx hl=>by
  have q:=ed.mp S.names x hx
  rw [gd] at q;rcases q with q|q
  .exact absurd hl (zzY q)
  .exact zzY q
 refine wpAny_comprehension_free (use:=use) (Q:=QQ) (g:={tg,E,ifs,0}) (gs:=[]) rfl hs S.Rv S.kind KO (bM (hi ae s σ H _ I h) λxv s0 h0=>bM h0 λSx a h1=>?_);let(it,fp,tn,J,G,rfl,L,T,qp,f1,n,W,w0,turn):=h1;refine wpAny_newObj_type (w9 ?_);dsimp only;generalize hH2:a.heap.push {cls:=.type "list",dict:=hI,data:=.seq ([]:List hV).toArray}=G2;generalize Z:pushCells (G2.push {cls:=.type "dict",data:=.dict #[]}) scope.names=t;have Sa:∀b o,(G2.push {cls:=.type "dict",data:=.dict #[]}).get? b=hG o->t.get? b=hG o:=λb o e=>by rw [<-Z];exact pushCells_keeps _ _ b o e
 have hns₁:t.Ns G2.objs.size λ_=>hI:=(i1.Ns.new G2 (.type "dict")).keeps Sa;have UO:G2.objs.size=(zz9 a)+1:=by rw [<-hH2,i1.size_push]
 have oR:(zz9 a)<=G2.objs.size:=by rw [UO];exact Nat.le_succ _
 have Qn:(zz9 a)≠G2.objs.size:=by rw [UO];exact et (Nat.lt_succ_self _)
 have P:∀b o,a.heap.get? b=hG o->t.get? b=hG o:=λb o e=>Sa b o (ar _ (hH2▸ar _ e));have RO:t.get? (zz9 a)=hG (lobj [] 0):=Sa _ _ (ar _ (hH2▸en _ rfl));have Fm:∀b∈fp,b<(zz9 a):=λb j=>by let(o,e,_):=T.obj _ _ qp b j;exact c8 e
 generalize hY:bP X (xs++ys) scope (bG X.env ys) fp a G G2.objs.size=Y;have Xc:Y.Ok:=by rw [<-hY];exact zr L hc S oR f1 Fm
 have UP:∀b∈fp,(zz9 a)≠b:=λb j=>Ne.symm (et (Fm b j));have RG:∀b,b∈Y.fs->b=X.env.locals\/b∈X.fs:=λb j=>by rw [<-hY] at j;exact e9.mp (L.ju b j)
 have RF:∀b∈Y.fs,b<(zz9 a):=λb j=>by rw [<-hY] at j;let(_,o,ho,_):=L.stack.mem j;exact c8 ho
 have RJ:(zz9 a)∉Y.fs:=λz=>Nat.lt_irrefl _ (RF _ z);have Kx:Y.env.locals=G2.objs.size:=by rw [<-hY];rfl
 have Qo:∀x c,Y.env.cells.lookup x=hG c->(X.env.cells.lookup x=hG c/\c<(zz9 a)/\x∈ys)\/((x,NameKind.cell)∈scope.names/\G2.objs.size+1<=c):=λx c e=>by rw [<-hY] at e;exact ip L S oR e
 have Wq:∀x c,Y.env.cells.lookup x=hG c->G2.objs.size+1<=c->t.IsCell c hI:=λx c e hle=>by
  rw [<-hY] at e;have hm:(x,c)∈kd (G2.objs.size+1) scope.names []:=Ju scope.names _ _ (PySem.mem_of_lookup e) λp R=>by unfold bG at R;let(y,hy,rfl):=gI.mp R;let(c',iu):=fx.mp (ed.mp S.cells y hy);let(v,q):=L.cell y c' iu;dsimp only;rw [iu];exact et (el q.lt (ee oR (Nat.le_of_succ_le hle)))
  have ck:=cellsFrom_ok scope.names (G2.push {cls:=.type "dict",data:=.dict #[]}) 0 [] {(λ_ _ z=>nomatch z),.nil} (Nat.zero_le _);rw [i1.size_push,Z] at ck;exact(ck.empty x c hm).1
 have V8:∀x c,Y.env.cells.lookup x=hG c->c≠(zz9 a):=λx c e=>(Qo x c e).elim (λz=>et z.2.1) λz=>Ne.symm (et (ef oR z.2));have BQ:Y.pn=[]:=by rw [<-hY];rfl
 have Of:Y.ex=fp:=by rw [<-hY];rfl
 have Oh:Y.s₀=a:=by rw [<-hY];rfl
 have UR:Y.H₀=G:=by rw [<-hY];rfl
 have Og:Y.prog=X.prog:=by rw [<-hY];rfl
 have Oj:Y.w=X.w:=by rw [<-hY];rfl
 have US:Y.K=X.K:=by rw [<-hY];rfl
 have RN:Y.A=X.A:=by rw [<-hY];rfl
 have Wo:compEnvC scope (kd (G2.objs.size+1) scope.names (bG X.env ys)) G2.objs.size X.env=Y.env:=by rw [<-hY];rfl
 have Od:Y.calm=hQ:=by rw [<-hY];rfl
 have Ky:Y.xe=λ_ _=>False:=by rw [<-hY];rfl
 have Oi:Y.fs=fQ X.stack:=by rw [<-hY];rfl
 have O6:∀{B:Hp} {s':hW} {F:List hV} {k:Nat},s'.heap.get? (zz9 a)=hG (lobj F k)->B (zz9 a)=hI->∀p∈[((zz9 a),lobj F k)],s'.heap.get? p.1=hG p.2/\B p.1=hI/\p.1≠Y.env.locals/\p.1∉Y.fs/\∀v,p.2.data≠.cell v:=
  λ{B s' F k} e hn p R=>by obtain rfl:=eM.mp R;exact{e,hn,by rw [Kx];exact Qn,RJ,λv=>zZ F k v}
 have RD:∀{B:Hp} {F:List hV} {k:Nat},(∀b∈fp,B b=hI)->∀b∈fp,gV Y [((zz9 a),lobj F k)] B b:=λ{B F k} hn b j=>
  {hn b j,by rw [Kx];exact et (el (Fm b j) oR),λz=>(RG b z).elim (f1 b j).2.1 (f1 b j).2.2.1,.inl (by rw [Of];exact j),
   λx c e=>(Qo x c e).elim (λz=>(f1 b j).2.2.2.2.1 x c z.1) (λz q=>absurd (Fm b j) (Nat.not_lt.mpr (q▸ee oR (Nat.le_of_succ_le z.2)))),λp R=>by rw [BQ,List.nil_append] at R;obtain rfl:=eM.mp R;exact UP b j}
 have Oa:G (zz9 a)=hI:=L.aR.fresh (a8 _)
 have I2:∀tk,Inv Y [((zz9 a),lobj [] 0)] (kq xs.length hI++AL σ is) G {a with heap:=t,toks:=tk}:=λtk=>by
  refine{Xc,by rw [Oh],L.bare,by rw [Oh,UR];exact Un.kept P,{_,by rw [Kx];exact hns₁,λi x v e1 e2 e3=>?_},λx c e=>?_,?_,λx c e=>(Qo x c e).elim (λz=>L.i6 x c z.1) (λz=>L.aR.fresh (ee oR (Nat.le_of_succ_le z.2))),λp R=>?_,by rw [Og,Oj];exact L.aR.kept P,?_}
  .
   have RK:Y.N=xs++ys:=by rw [<-hY];rfl
   rw [RK] at e1;by_cases cu:i<xs.length
   .rw [fP (by rw [List.length_replicate];exact cu),List.getElem?_replicate,if_pos cu] at e2;cases e2
   .have KL:xs.length<=i:=Nat.not_lt.mp cu;rw [fS (by rw [List.length_replicate];exact KL),List.length_replicate] at e2;rw [fS KL] at e1;let(i0,h0,h1):=xW S.slots _ x v e1 e2;have hm:x∈ys:=a7 e1;have kx:X.env.kindOf x=hG .cell:=zzY (ed.mp S.kX x hm);have ky:(relabel scope X.env).names.lookup x=hG .cell:=zzY (ed.mp S.kY x hm);let(m,_,hl):=L.loc;let(u,ru,lk):=hl i0 x v h0 h1 (.inr (.inl kx))
    refine{u,ru,.inr {.inl (by rw [<-hY];exact ky),?_}};rcases lk with⟨z,_⟩|⟨_,c,Kz,lJ⟩
    .rw [kx] at z;cases z
    .let(c',iu):=jW (env:=X.env) hm;have Oq:=fF S.cells x c' iu;rw [Kz] at Oq;cases Oq;refine{c,by rw [<-hY];exact(qM _ _ _ λz=>(S.LM z).2 hm).trans iu,?_};let(o,ho,hd):=lJ;exact{o,P _ _ ho,hd}
  .rcases Qo x c e with z|z
   .let(v,o,ho,hd):=L.cell x c z.1;exact{v,o,P _ _ ho,hd}
   .exact{hI,Wq x c e z.2}
  .rw [Kx];exact L.aR.fresh oR
  .rw [BQ,List.nil_append] at R;exact O6 (s':={a with heap:=t,toks:=tk}) RO Oa p R
  .have RK:Y.N=xs++ys:=by rw [<-hY];rfl
   have hl:=congrArg List.length S.slots;rw [zzl,zzl] at hl;rw [RK,c7,c7,List.length_replicate];unfold AL;rw [zzl,hl]
 have loop:∀s₃:hW,s₃={a with heap:=t}->
  codeAny (ik X.prog X.w) X.A (.compLoop (.ListComp elt [{tg,E,ifs,0}] scope pos) 0 (.ref it) (.ref (zz9 a)) (compEnvC scope (kd (G2.objs.size+1) scope.names (bG X.env ys)) G2.objs.size X.env))
   (compPost (ik X.prog X.w) X.A X.xe use QQ (.ref (zz9 a)) G2.objs.size) s₃:=by
  rintro s₃ rfl
  rw [Wo];refine qQ (λk s'=>∃i made M B F c,Inv Y [((zz9 a),lobj F c)] M B s'/\tn i s'.heap/\(∀b∈fp,B b=hI)/\Vals made F/\k=n-i/\W i made M B) ?_ n
   {0,[],_,G,[],0,I2 _,T.keep _ _ _ qp λb _ o e=>P b o e,λb j=>(f1 b j).1,.nil,rfl,w0}
  rintro k s' ⟨i,made,M,B,F,c,I3,st3,fr3,rv,rfl,w3⟩
  let(hz,tw):=turn i made M B w3;have pD:=I3.pin ((zz9 a),lobj F c) (by rw [BQ];exact eM.mpr rfl)
  rcases tw with⟨stop,hq⟩|⟨go,U9,step⟩
  .rw [<-RN];refine bM (T.done Y Og Oj US Od i _ s' M B _ I3 (RD fr3) st3 stop) λr V ⟨hr,I4⟩=>?_;subst hr;let(m,hn4,_):=I4.loc;rw [Kx] at hn4;have S9:=I4.pin ((zz9 a),lobj F c) (by rw [BQ];exact eM.mpr rfl);have kp:∀b o,b≠G2.objs.size->V.heap.get? b=hG o->V.heap.get? b=hG o:=λb o j e=>e;have SG:∀{b o},a.heap.get? b=hG o->b≠G2.objs.size:=λ{b o} e=>et (el (c8 e) oR);have gP:=I4.base;rw [Oh,UR,Of,Oi] at gP;have SH:∀{b o},G b=hG o->b≠(zz9 a):=λ{b o} e=>et (L.aR.lt e)
   have u:Un (fQ X.stack) fp G (upd B (zz9 a) (.lst made)) a.heap V.heap:=by
    refine{λb o e n j hx=>kp b o (SG e) (gP.keep b o e n j hx),λb o e n j hx=>?_,λb o e n hx=>?_,λb o e hx=>?_,λb xs e=>?_,λb o u e=>?_,λb ps e=>?_}
    .let(sl,q):=gP.slot b o e n j hx;exact{sl,kp b _ (SG e) q}
    .rw [af (et (c8 e))];exact gP.free b o e n hx
    .let(o',q):=gP.there b o e hx;exact{o',kp b _ (SG e) q}
    .rw [af (SH e)];exact gP.iY b xs e
    .rw [af (SH e)];exact gP.gC b o u e
    .let(more,q):=gP.iI b ps e;exact{more,by rw [af (SH e)];exact q}
   have UN:B G2.objs.size=hI:=by rw [<-Kx];exact I4.free
   have Fp:eY X.prog X.w (upd B (zz9 a) (.lst made)) V.heap:=λb o e=>by
    by_cases j:b=(zz9 a)
    .subst j;rw [aq] at e;cases e;exact{Nat.le_of_lt hz,F,c,rv,kp _ _ Qn S9.1}
    .rw [af j] at e;have x4:=I4.aR b o e;rw [Og,Oj] at x4;have Li:∀O u,B O=hG u->O≠G2.objs.size:=λO u q z=>by rw [z,UN] at q;cases q
     have Vm:∀O u,B O=hG u->O≠(zz9 a):=λO u q z=>by rw [z,S9.2.1] at q;cases q
     refine x4.fU (λO u oT q=>kp O u ?_ q) (λO q=>?_) λO xs q=>?_
     .rcases oT with z|z
      .rw [z];exact Li b o e
      .exact Li O _ z
     .rw [af (Vm O _ q)];exact q
     .rw [af (Vm O _ q)];exact q
   have I5:Inv X ae σ (upd B (zz9 a) (.lst made)) V:=L.NI (by show V.os=a.os;rw [I4.os,Oh]) u Fp I4.bare λb j=>{(f1 b j).2.2.2.1,(f1 b j).2.1,(f1 b j).2.2.2.2.1,(f1 b j).2.2.2.2.2};dsimp only;rw [RN];exact fin (zz9 a) G2.objs.size V _ m I5 hn4 (L.oK oR (by rw [af (Ne.symm Qn)];exact UN)) (hq _ S9.2.1)
  .rw [<-RN];refine bM (T.item Y Og Oj US Od i _ s' M B _ I3 (RD fr3) st3 go) λr V ⟨u,hr,h4⟩=>?_;subst hr;dsimp only;refine bM h4 λ_ s5 yq0=>?_;let(x,H5,I5,r5,y5,st5,fr5):=yq0;have QX:=I5.pinned (RD fr5) (T.obj _ _ st5);have U8:=hg fp a G G2.objs.size;have UW:=he fp a G G2.objs.size;have Vc:=ht fp a G G2.objs.size;rw [hY] at U8 UW Vc;rw [<-Og,<-Oj];refine wpAny_mono (U8 _ s5 M H5 x u _ QX r5 (step x H5 y5)) (λ_ s6 ⟨U,H6,I6,q6⟩=>?_) (λ_ _ f=>by rw [Ky] at f;exact f.elim);refine wpAny_mono (Vc _ s6 U H6 _ I6 q6) (λokb sT ⟨HT,IT,qT⟩=>?_) (λ_ _ f=>by rw [Ky] at f;exact f.elim);have XU:=IT.pin ((zz9 a),lobj F c) (d0 _ (eu _ (eM.mpr rfl)));have Xv:tn (i+1) sT.heap:=T.keep _ _ _ st5 λb j o e=>(IT.pin (b,o) (d0 _ (d0 _ (dW j e)))).1
   cases okb with
   |false=>refine{n-(i+1),by omega,i+1,made,U,HT,F,c,IT.kD,Xv,λb j=>?_,rv,rfl,qT};let(o,e,d):=T.obj _ _ st5 b j;exact(IT.pin (b,o) (d0 _ (d0 _ (dW j e)))).2.1|true=>
   refine wpAny_mono (UW _ sT U HT _ IT qT) (λv s7 ⟨y,H7,I7,r7,q7⟩=>?_) (λ_ _ f=>by rw [Ky] at f;exact f.elim);have Ta:=I7.pin ((zz9 a),lobj F c) (d0 _ (eu _ (eM.mpr rfl)));have e7:s7.heap.get? (zz9 a)=hG {cls:=.type "list",data:=.seq F.toArray c}:=Ta.1;refine append_at (hsz:=by rw [a0,<-rv.length];exact Nat.le_of_lt hz) e7 λh' zP Wi=>?_;have I8:Inv Y [] U H7 s7:=I7.iO λ_ z=>nomatch z
   have I9:Inv Y [] U H7 {s7 with heap:=h'}:=I8.turned (t':=s7.toks) (it:=(zz9 a)) (λb o j e=>zP.extBut b o j e) Ta.2.1 (by rw [Kx];exact Qn) (.inr (by rw [Oh];exact a8 _))
    (λx c' e=>V8 x c' e) (λp R=>by rw [BQ] at R;cases R)
   have eD:h'.get? (zz9 a)=hG (lobj (F++[v]) (c+1)):=by rw [Wi,List.push_toArray]
   have Xu:tn (i+1) s7.heap:=T.keep _ _ _ st5 λb j o e=>(I7.pin (b,o) (d0 _ (d0 _ (dW j e)))).1;refine{n-(i+1),by omega,i+1,made++[y],U,H7,F++[v],c+1,I9.iO (O6 (s':={s7 with heap:=h'}) eD Ta.2.1),T.keep _ _ _ Xu λb j o e=>zP.extBut b o (Ne.symm (UP b j)) e,λb j=>?_,rv.append (.cons r7 .nil),rfl,q7};let(o,e,d):=T.obj _ _ st5 b j;exact(I7.pin (b,o) (d0 _ (d0 _ (dW j e)))).2.1
 exact codeAny_compStart_list (loop _ rfl) (T.self _ 0 _ _ _ (T.keep _ _ _ qp λb _ o e=>P b o e) (loop _ rfl))
def yl{c a:ia}{j:TI}{g:TG}(k:X.calm=hQ)(S:fK X scope xs ys is)(p:PI X d a j)
 (r:∀fp f i C,PG (bP X (xs++ys) scope (bG X.env ys) fp f i C) d g) (he:∀fp f i C,PE (bP X (xs++ys) scope (bG X.env ys) fp f i C) c te)
 (hs:∀x,foldedSetIterable a X.env x=pure x:=by intro _;rfl):
 PE X (.ListComp c [{d,a,[],0}] scope pos) (yL j xs.length g te is):=by
 intro ae s σ H Q I h;rw [eval_ListComp];exact iL (use:=hI) (Q:=Q) k S p r (λZ Z Z Z=>yn) he hs I h (λD C t u m w y ⟨z,g1,_,g3,A,B⟩ q=>{m,y,λG E=>{.ref D,u,w.turned (t':=t.toks) (it:=C) (λb o F e=>E.extBut b o F e) z g1 g3 A B,rfl,q}})
def Aj{f i a j:ia}{k:TI}{g:TG}{tt:TT}(p:X.calm=hQ)(S:fK X scope xs ys is)(r:PI X i a k)
 (t:∀fp c d C,PG (bP X (xs++ys) scope (bG X.env ys) fp c d C) i g) (u:∀fp c d C,PT (bP X (xs++ys) scope (bG X.env ys) fp c d C) j tt) (he:∀fp c d C,PE (bP X (xs++ys) scope (bG X.env ys) fp c d C) f te)
 (hs:∀x,foldedSetIterable a X.env x=pure x:=by intro _;rfl):
 PE X (.ListComp f [{i,a,[j],0}] scope pos) (mM k xs.length g tt te is):=by
 intro ae s σ H Q I h;rw [eval_ListComp];exact iL (use:=hI) (Q:=Q) p S r t (λfp c d C=>yo (u fp c d C)) he hs I h (λD C w y m z A ⟨B,g1,_,g3,E,F⟩ q=>{m,A,λL G=>{.ref D,y,z.turned (t':=w.toks) (it:=C) (λb o K e=>G.extBut b o K e) B g1 g3 E F,rfl,q}})
end
def cj{p:h9}{o:HO}(h:H p=hI):ax H (upd H p o):=λb u e=>by rw [af (dX e h)];exact e
def Te:V->Option Int->Option Int->Hp->VK->Prop:=λx a b H Q=>∃z,x=.str z/\z.length<=i2/\Q (.str (Txt.slice z a b)) H
def Mt:A1 X Te:=by
 intro e s f H x v p r g m w Q I o hs pl pu h;let(z,rfl,a,q):=h;let(t,rfl):=o;refine{"str",_,F.slot_str_getitem.lookup,typeIs_str _ _ _,?_};have fin:∀b k,EP X e f Q (.str (Txt.slice z g m) b) {s with toks:=k}:=λb k=>{.str _,H,I.tok k,⟨b,rfl⟩,q}
 cases pl with
 |none=>
  cases pu with
  |none=>exact wpAny_getItem_str_slice (l:=hI) (u:=hI) (st:=hI) hs rfl (post_val_or_str {ee (Txt.slice_le z _ _) a,fin})|int j c=>exact wpAny_getItem_str_slice (l:=hI) (u:=hG (j,c)) (st:=hI) hs rfl (post_val_or_str {ee (Txt.slice_le z _ _) a,fin})
 |int i d=>
  cases pu with
  |none=>exact wpAny_getItem_str_slice (l:=hG (i,d)) (u:=hI) (st:=hI) hs rfl (post_val_or_str {ee (Txt.slice_le z _ _) a,fin})|int j c=>exact wpAny_getItem_str_slice (l:=hG (i,d)) (u:=hG (j,c)) (st:=hI) hs rfl (post_val_or_str {ee (Txt.slice_le z _ _) a,fin})
end L2
namespace HT
open PyProof.Rows
def iT{s:hW}{E:ku}{t e:h9}{a:Array hV}{i j:hV}{b d:Option Int}{Q:ku}(c:IsTup s.heap t a)(hs:s.heap.IsSliceOf e i j .none)(pl:IsPart i b)(pu:IsPart j d)
 (hw:cX a.size 0 b=0/\cX a.size a.size d=a.size) (h:Q (.ref t) s):ie (ik prog w) A (getItem (.ref t) (.ref e)) Q E s:=by
 let(os,f,g,k):=id hs;have m:s.TypeIs (.ref e) "slice":=⟨os,f,g⟩;unfold getItem
 try with_reducible refine wpAny_holding ?_
 first|refine ak (bc ?_)|skip
 refine ak (wpAny_sequenceKey c.typeIs (by decide) ?_);refine ak (wpAny_callSpecial?_slot (name:=Str.ofString "__getitem__") c.typeIs PyProof.Rows.slot_tuple_getitem
  (wpAny_call_entry PyProof.Rows.slot_tuple_getitem c.typeIs entry_tuple_getitem ?_ (args_tuple_getitem _ _)))
 show ie _ _ (jj.Tuple.tupleItemsOf (.ref t)>>=_) _ _ s;refine ak (tupleItemsOf_ c ?_);refine ak (wpAny_typeOf m ?_);rw [if_pos (by decide)];refine ak (gu hs pl pu ?_);have o:(((cX a.size 0 b:Nat):Int)==0&&(1:Int)==1&&(cX a.size a.size d-cX a.size 0 b)==a.size)=hQ:=by rw [hw.1,hw.2];simp
 show ie _ _ (if(((cX a.size 0 b:Nat):Int)==0&&(1:Int)==1&&(cX a.size a.size d-cX a.size 0 b)==a.size)=hQ then _ else _) _ _ s;rw [if_pos o];refine ak (ak (wpAny_typeOf c.typeIs ?_));refine bc ?_;rw [if_pos (by decide)]
 first
  |exact ak (wpAny_rule (bc ⟨_,rfl,bc h⟩))
  |exact wpAny_rule (bc ⟨_,rfl,bc h⟩)
  |exact ak (wpAny_rule (ak (bc ⟨_,rfl,bc h⟩)))
end HT
namespace L2
open PySem.Spec PyProof.Rows
def GZ:A1 X (λx c d H Q=>∃a xs,x=.ref a/\fC X.K H a xs/\(HT.cX xs.length 0 c=0/\HT.cX xs.length xs.length d=xs.length)/\Q x H):=by
 intro k s m H x v o p c d t Q I f hs pl pu h;let(a,xs,rfl,g,i,q):=h;cases f;let(j,r,e,u):=I.tuple g;have b:j.toArray.size=xs.length:=by rw [a0];exact r.length.symm
 refine{"tuple",_,PyProof.Rows.slot_tuple_getitem.lookup,e.typeIs,?_};exact HT.iT e hs pl pu (by rw [b];exact i) {.ref a,H,I,rfl,q}
section
variable{a b:ia}
end
section
variable{κ:Type}[DecidableEq κ]
abbrev iZ(a:List (κ×V))(k:κ):Option V:=(a.find? λb=>decide (b.1=k)).map (·.2)
abbrev putK(b:List (κ×V))(k:κ)(v:V):List (κ×V):=
 if(b.any λa=>decide (a.1=k))=hQ then b.map (λa=>if a.1=k then(a.1,v) else a) else b++[(k,v)]
abbrev gO(a:List (κ×V))(k:κ):List (κ×V):=a.filter λb=>decide (b.1≠k)
def iK{p:κ×V}{r:List (κ×V)}{k:κ}(e:p.1=k):iZ (p::r) k=hG p.2:=by simp [iZ,List.find?_cons,e]
def iJ{p:κ×V}{r:List (κ×V)}{k:κ}(e:¬p.1=k):iZ (p::r) k=iZ r k:=by simp [iZ,List.find?_cons,e]
theorem om(k:κ):∀a:List (κ×V),(a.any λb=>decide (b.1=k))=(iZ a k).isSome
 |[]=>rfl|p::r=>by
  rw [List.any_cons];by_cases e:p.1=k
  .simp! [iK e,zzh e,Bool.true_or,Option.isSome_some]
  .rw [iJ e,zz0 e,Bool.false_or];exact om k r
def lO(a:List (κ×V))(k:κ)(v:V):(putK a k v).length<=a.length+1:=by
 unfold putK;split
 .rw [zzl];lia
 .rw [c7,cS,List.length_nil];lia
def gX.gb{o:Option V}{u:Option hV}(r:gX o u):o.isSome=u.isSome:=by
 cases o with
 |none=>cases u with
  |none=>rfl|some _=>exact(show False from r).elim
 |some _=>cases u with
  |none=>exact(show False from r).elim|some _=>rfl
def KV.val{c:List (κ×V)}{vs:List (κ×hV)}(r:KV c vs)(k:κ):gX (iZ c k) (valueAt vs k):=by
 unfold KV at r
 induction r with
 |nil=>exact True.intro|@cons p q i qs h t f=>
  let(d,g):=h;by_cases e:p.1=k
  .have a:q.1=k:=d.symm.trans e;have b:valueAt (q::qs) k=hG q.2:=by simp [valueAt,List.find?_cons,a]
   rw [iK e,b];exact g
  .have a:¬q.1=k:=λz=>e (d.trans z);have b:valueAt (q::qs) k=valueAt qs k:=by simp [valueAt,List.find?_cons,a]
   rw [iJ e,b];exact f
def KV.any{b:List (κ×V)}{vs:List (κ×hV)}(r:KV b vs)(k:κ):(b.any λa=>decide (a.1=k))=vs.any λa=>decide (a.1=k):=by
 unfold KV at r
 induction r with
 |nil=>rfl|cons h t c=>rw [List.any_cons,List.any_cons,c,h.1]
def KV.Me{c:List (κ×V)}{vs:List (κ×hV)}(r:KV c vs)(k:κ){y:V}(d:RelV y u):
 KV (c.map λa=>if a.1=k then(a.1,y) else a) (vs.map λa=>if a.1=k then(a.1,u) else a):=by
 unfold KV at r⊢
 induction r with
 |nil=>exact .nil|@cons p q i qs h t f=>
  rw [a9,a9];refine .cons ?_ f;let(b,g):=h;by_cases e:p.1=k
  .rw [if_pos e,if_pos (b.symm.trans e)];exact⟨b,d⟩
  .rw [if_neg e,if_neg (λz=>e (b.trans z))];exact⟨b,g⟩
def KV.put{a:List (κ×V)}{vs:List (κ×hV)}(r:KV a vs)(k:κ){y:V}(b:RelV y u):KV (putK a k y) (stored vs k u):=by
 unfold putK stored;rw [r.any k];by_cases e:(vs.any λc=>decide (c.1=k))=hQ
 .rw [if_pos e,if_pos e];exact r.Me k b
 .rw [if_neg e,if_neg e];exact Paired.snoc r ⟨rfl,b⟩
def KV.length{a:List (κ×V)}{vs:List (κ×hV)}(r:KV a vs):a.length=vs.length:=Paired.length r
def Bl(a:List (κ×V))(k:κ):(gO a k).length<=a.length:=List.length_filter_le _ _
end
def uw{k:Key}(r:RelV (kV k) u):(cG P w).is k u=hQ:=by
 cases k with
 |inl i=>let(t,e):=(show∃t,u=hV.int i t from r);subst e;exact uB P w i t|inr x=>let(t,e):=(show∃t,u=hV.str x t from r);subst e;exact uC P w x t
theorem qe:∀{ks:List Key} {us:List hV},Vals (ks.map kV) us->ItemsAre (cG P w) ks us
 |[],_,r=>by rw [List.map_nil] at r;cases r;exact .nil
 |k::ks,_,r=>by
  rw [a9] at r;cases r with
  |cons h t=>exact .cons (uw h) (qe t)
noncomputable abbrev KT(H:Hp):List (List Key×V)->List (List Key×h9×hV)->Prop:=Paired λp q=>p.1=q.1/\H q.2.1=hG (.tup (p.1.map kV))/\RelV p.2 q.2.2
def KT.val{c:List (List Key×V)}{xs:List (List Key×h9×hV)}(r:KT H c xs)(k:List Key):gX (iZ c k) ((atKey xs k).map (·.2)):=by
 induction r with
 |nil=>exact True.intro|@cons p q i qs h t f=>
  let(d,_,g):=h;by_cases e:p.1=k
  .have a:q.1=k:=d.symm.trans e;have b:atKey (q::qs) k=hG q.2:=by simp [atKey,List.find?_cons,a]
   rw [iK e,b];exact g
  .have a:¬q.1=k:=λz=>e (d.trans z);have b:atKey (q::qs) k=atKey qs k:=by simp [atKey,List.find?_cons,a]
   rw [iJ e,b];exact f
def KT.Me{c:List (List Key×V)}{xs:List (List Key×h9×hV)}(r:KT H c xs)(k:List Key){y:V}(f:RelV y u):
 KT H (c.map λb=>if b.1=k then(b.1,y) else b) (xs.map (putAt k u)):=by
 induction r with
 |nil=>exact .nil|@cons p q j qs h t g=>
  rw [a9,a9];refine .cons ?_ g;let(a,d,i):=h;unfold putAt;by_cases e:p.1=k
  .rw [if_pos e,if_pos (a.symm.trans e)];exact⟨a,d,f⟩
  .rw [if_neg e,if_neg (λz=>e (a.trans z))];exact⟨a,d,i⟩
def KT.put{a:List (List Key×V)}{xs:List (List Key×h9×hV)}(r:KT H a xs)(k:List Key){b:h9}{y:V}(d:H b=hG (.tup (k.map kV)))(c:RelV y u):
 KT H (putK a k y) (storedH xs k b u):=by
 have e:(a.any λf=>decide (f.1=k))=(atKey xs k).isSome:=by rw [om,(r.val k).gb,Option.isSome_map]
 unfold putK storedH;rw [e];by_cases q:(atKey xs k).isSome=hQ
 .rw [if_pos q,if_pos q];exact r.Me k c
 .rw [if_neg q,if_neg q];exact Paired.snoc r ⟨rfl,d,c⟩
def KT.keeps{a:List (List Key×V)}{xs:List (List Key×h9×hV)}(r:KT H a xs)(c:∀b ys,H b=hG (.tup ys)->H' b=hG (.tup ys)):KT H' a xs:=
 Paired.OL r λZ Z z=>{z.1,c _ _ z.2.1,z.2.2}
def IC{u:HO}(ok:eY P w H h)(e:Rd H a u):bZ P w H h a u:=e.ok ok
def pU{b:List (Key×V)}(ok:eY P w H h)(e:Rd H a (.dK b)):b.length<=i2/\(a==sysModules)=hU/\∃vs,KV b vs/\h.DictOf (cG P w) a vs:=
 show bZ P w H h a (.dK b) from IC ok e
def NZ{b:List (Key×V)}(ok:eY P w H h)(e:H a=hG (.dK b)):b.length<=i2/\(a==sysModules)=hU/\∃vs,KV b vs/\h.DictOf (cG P w) a vs:=pU ok (.inl e)
def ji{ks:List Key}(ok:eY P w H h)(e:H a=hG (.tup (ks.map kV))):(tupleKind (cG P w)).is h ks a:=by let(_,b,r,o,c,d,n,f):=(show bZ P w H h a (.tup (ks.map kV)) from ok a _ e);exact{o,b.toArray,n,c,d,f,by simpa using qe r}
def lG{c:List (List Key×V)}(ok:eY P w H h)(e:Rd H a (.dT c)):c.length<=i2/\(a==sysModules)=hU/\
 ∃xs,KT H c xs/\h.DictOfH (tupleKind (cG P w)) a xs:=by
 let(z,y,xs,r,o,f,g,i,j,k,s,u):=(show bZ P w H h a (.dT c) from IC ok e);refine{z,y,xs,r,o,f,g,i,j,k,s,λx b=>?_,u}
 have all:∀{l:List (List Key×V)} {m:List (List Key×h9×hV)},KT H l m->∀x∈m,(tupleKind (cG P w)).is h x.1 x.2.1:=by
  intro l m q
  induction q with
  |nil=>intro x b;exact nomatch b|@cons p q B qs d t A=>
   intro x b;rcases e9.mp b with e|b
   .subst e;exact ji ok (by rw [<-d.1];exact d.2.1)
   .exact A x b
 exact all r x b
def HW{b:List (List Key×V)}(ok:eY P w H h)(e:H a=hG (.dT b)):b.length<=i2/\(a==sysModules)=hU/\
 ∃xs,KT H b xs/\h.DictOfH (tupleKind (cG P w)) a xs:=lG ok (.inl e)
def AS(H:Hp)(a:h9)(y:V)(r:Option V):Prop:=
 (∃c k,Rd H a (.dK c)/\y=kV k/\r=iZ c k)\/∃c k b,Rd H a (.dT c)/\y=.ref b/\H b=hG (.tup (k.map kV))/\r=iZ c k
def yT(H:Hp)(a:h9)(y v:V)(H':Hp):Prop:=
 (∃c k,H a=hG (.dK c)/\y=kV k/\c.length<i2/\H'=upd H a (.dK (putK c k v)))\/
 ∃c k b,H a=hG (.dT c)/\y=.ref b/\H b=hG (.tup (k.map kV))/\c.length<i2/\H'=upd H a (.dT (putK c k v))
def yT.t{b:h9}{c:List (List Key×V)}{k:List Key}(e:H a=hG (.dT c))(d:H b=hG (.tup (k.map kV)))(hl:c.length<i2):
 yT H a (.ref b) v (upd H a (.dT (putK c k v))):=.inr ⟨c,k,b,e,rfl,d,hl,rfl⟩
section
variable{ae:kv}{s:hW}{y:V}{r:hV}{o:Option V}{E:ku}
def Inv.big(I:zv2 s):sysModules<(zz9 s):=by have h:jf<(zz9 s):=(I.mod.glob.keeps I.bk).lt;exact Nat.lt_trans (by decide) h
def zu{Q:ku}(B:A.units+1<cLine)(I:zv2 s)(g:AS H a y (hG v))(t:RelV y u)(h:∀d s',Inv X ae σ H s'->RelV v d->Q d s'):
 ie (ik X.prog X.w) A (getItem (.ref a) u) Q E s:=by
 rcases g with⟨C,k,e,f,l⟩|⟨C,k,b,e,f,D,l⟩
 .subst f;let(z,hd,F,c,i):=pU I.aR e;let(d,j,m):=gX.some_of (v:=v) (o:=valueAt F k) (by rw [l];exact c.val k);exact wpAny_getItem_of (uw t) i.mapOf j (h d _ (I.tok _) m)
 .subst f;cases(show u=hV.ref b from t);let(z,hd,xs,c,i):=lG I.aR e;let(d,j,m):=gX.some_of (v:=v) (o:=(atKey xs k).map (·.2)) (by rw [l];exact c.val k);let(p,G,q):=b4.mp j;refine wpAny_getItem_heap (tupleKind_room_in1 B) (ji I.aR D) i G ?_;rw [q];exact h d _ (I.tok _) m
def Rx{Q:ku}(j:A.units+1<cLine)(I:zv2 s)(g:AS H a y o)(i:RelV y u)(h:∀s',Inv X ae σ H s'->Q (.bool o.isSome) s'):
 ie (ik X.prog X.w) A (compareOp .In u (.ref a)) Q E s:=by
 rcases g with⟨m,k,e,d,l⟩|⟨m,k,b,e,d,p,l⟩
 .subst d;let(z,hd,t,c,f):=pU I.aR e;refine wpAny_in_of (uw i) hd f.mapOf ?_;rw [<-(c.val k).gb,<-l];exact h _ (I.tok _)
 .subst d;cases(show u=hV.ref b from i);let(z,hd,xs,c,f):=lG I.aR e;refine wpAny_in_heap (tupleKind_room_in1 j) (ji I.aR p) hd f ?_;have q:=(c.val k).gb;rw [Option.isSome_map] at q;rw [<-q,<-l];exact h _ (I.tok _)
def EO{Q:ku}(j:A.units+1<cLine)(I:zv2 s)(g:AS H a y o)(i:RelV y u)(h:∀s',Inv X ae σ H s'->Q (.bool (!o.isSome)) s'):
 ie (ik X.prog X.w) A (compareOp .NotIn u (.ref a)) Q E s:=by
 rcases g with⟨m,k,e,d,l⟩|⟨m,k,b,e,d,p,l⟩
 .subst d;let(z,hd,t,c,f):=pU I.aR e;refine wpAny_notIn_of (uw i) hd f.mapOf ?_;rw [<-(c.val k).gb,<-l];exact h _ (I.tok _)
 .subst d;cases(show u=hV.ref b from i);let(z,hd,xs,c,f):=lG I.aR e;refine wpAny_notIn_heap (tupleKind_room_in1 j) (ji I.aR p) hd f ?_;have q:=(c.val k).gb;rw [Option.isSome_map] at q;rw [<-q,<-l];exact h _ (I.tok _)
theorem jZ{h':i1}{t':Nat}{ob:HO}(I:zv2 s)(c:Nm (H a))(hs:i1.SameBut a s.heap h')(he:∃q,h'.get? a=hG q)(new:bZ X.prog X.w (upd H a ob) h' a ob):
 Inv X ae σ (upd H a ob) {s with heap:=h',toks:=t'}:=
 I.write (x:=a) (e:=a) c (.inl rfl) (λb q d z=>(hs.2 b d).trans z) he new
def JO{h':i1}{b:List (Key×V)}{vs:List (Key×hV)}(z:b.length<=i2)(hd:(a==sysModules)=hU)(c:KV b vs)(dd:h'.DictOf (cG P w) a vs):
 bZ P w H' h' a (.dK b):=⟨z,hd,vs,c,dd⟩
def zv{Q:Unit->hW->Prop}(L:A.units+1<cLine)(I:zv2 s)(g:yT H a y v H')(C:RelV y u)(D:RelV v r)(h:∀s',Inv X ae σ H' s'->Q () s'):
 ie (ik X.prog X.w) A (setItem (.ref a) u r) Q E s:=by
 rcases g with⟨f,k,e,m,l,p⟩|⟨f,k,b,e,m,F,l,p⟩
 .subst m p;let(z,hd,M,d,t):=NZ I.aR e;have B:M.length<=sizeLine:=by rw [<-d.length];exact z
  have hl:(putK f k v).length<=sizeLine:=by have:=lO f k v;lia
  refine wpAny_setItem_pairs (hsz:=B) (uw C) t λG i hs=>h _ ?_;have N:∃q,G.get? a=hG q:=let⟨q,_,_,j,_⟩:=i;⟨q,j⟩;exact jZ I (by rw [e];exact True.intro) hs N (JO hl hd (d.put k D) i)
 .subst m p;cases(show u=hV.ref b from C);let(z,hd,xs,d,t):=HW I.aR e;have B:xs.length<=sizeLine:=by rw [<-Paired.length d];exact z
  have hl:(putK f k v).length<=sizeLine:=by have:=lO f k v;lia
  refine wpAny_setItem_heap (hsz:=B) (tupleKind_room_in1 L) (ji I.aR F) t λG i hs=>h _ ?_;let(q,O,P,j,R,S,T,_,U):=i;refine jZ I (by rw [e];exact True.intro) hs ⟨q,j⟩ {hl,hd,_,(d.put k F D).keeps λc V K=>?_,q,O,P,j,R,S,T,U};rw [af (kc K e nofun)];exact K
end
def Np(i:ia):Prop:=∀a b,subscripted i hU a b=operate [a,b] (getItem a b)
def Hj{E:ku}{s:hW}{env:Env}{a slice:ia}{T id:String}{Q:ku}
 (hl:typeLookup (.type T) "__getitem__"=pure (hG (.builtin id))) (hs:Np slice)
 (h:ie (ik prog w) A (eval a env) (λo d=>ie (ik prog w) A (eval slice env) (λi b=>b.TypeIs o T/\ie (ik prog w) A (getItem o i) Q E b) E d) E s):
 ie (ik prog w) A (eval (.Subscript a slice pos) env) Q E s:=by
 refine Subscript_ (wpAny_mono h (λo d f=>wpAny_mono f (λi b c=>?_) λZ Z x=>x) λZ Z x=>x);let(j,c):=c;unfold subscriptTail;refine ak ?_;rw [getitemInPython_of_ne j.not_modules];refine ak (wpAny_specialOf j hl ?_);have fin:ie (ik prog w) A (subscripted slice hU o i) (λr e=>ie (ik prog w) A (letTemporaryGo a o r>>=λZ=>pure r) Q E e) E b:=by rw [hs o i];exact wpAny_operating (wpAny_mono c (λr e g=>ak (wpAny_letTemporaryGo (bc g))) λZ Z x=>x)
 first
  |exact bc (ak fin)
  |exact ak (bc (ak fin))
  |exact ak fin
def tO{d:kv}{f:St}{s:hW}{y:V}{o:Option V}(I:Inv X d f H s)(g:AS H a y o):s.TypeIs (.ref a) "dict":=by
 rcases g with⟨h,k,e,_,_⟩|⟨h,k,b,e,_,_,_⟩
 .let(_,_,i,_,c):=pU I.aR e;exact c.typeIs
 .let(_,_,xs,_,c):=lG I.aR e;exact c.typeIs
abbrev IQ(d ty:TE):TE:=λb H Q=>d b H λx e=>ty b e λy c=>∃a v,x=.ref a/\AS c a y (hG v)/\Q v c
section
variable{o i:ia}{td ty:TE}
def Gu(f:X.A.units+1<cLine)(j:PE X o td)(k:PE X i ty)(hs:Np i):PE X (.Subscript o i pos) (IQ td ty):=by intro c s d H Q I h;refine Hj PySem.F.slot_dict_getitem.lookup hs (bM (j c s d H _ I h) λu m ⟨x,H1,p,q,r⟩=>bM (k c m d H1 _ p r) λD E b=>?_);let(y,t,e,w,a,v,ex,g,z):=b;subst ex;obtain rfl:u=hV.ref a:=q;exact{tO e g,zu f e g w λG K B C=>⟨v,t,B,C,z⟩}
end
theorem Bm(h:i1)(a:sysModules<h.objs.size):bZ P w H (h.push {cls:=.type "dict",data:=.dict #[]}) h.objs.size (.dT []):=
 {Nat.zero_le _,beq_eq_false_iff_ne.mpr (Ne.symm (et a)),[],.nil,_,#[],0,en _ rfl,⟨rfl,rfl,rfl⟩,rfl,rfl,List.nodup_nil}
abbrev MA:TE:=λZ H Q=>∀p,H p=hI->Q (.ref p) (upd H p (.dT []))
theorem CO:PE X (.Dict [] [] pos) MA:=λb s c H Q I h=>wpAny_Dict_empty {.ref (zz9 s),_,I.laid (a:=(zz9 s)) (o:=.dT []) (t':=s.toks) (λZ Z q=>ar _ q) (a8 _) (Bm s.heap I.big),rfl,h _ (I.aR.fresh (a8 _))}
structure M1(X:Cx)(o:ia)(m:Str)(apos:Pos)(e:ia)(bL:Pos):Prop where
 base:attributeBase o m X.env (eval o X.env)=eval o X.env
 Qk:((backTo bL (starEach [e] X.env)).all (λx=>!x.1)&&(backToKw bL (keywordEach [] X.env)).all (λx=>x.1.isSome)
  &&decide (([e]:List ia).length+([]:List Keyword).length+(if([]:List Keyword).isEmpty then 0 else 1)<30))=hQ
 line:(apos.endLine==bL.line)=hQ
 trees:backTo bL (starEach [e] X.env)=[(hU,eval e X.env)]
structure M2(X:Cx)(o:ia)(m:Str)(apos:Pos)(e f:ia)(bL:Pos):Prop where
 base:attributeBase o m X.env (eval o X.env)=eval o X.env
 Qk:((backTo bL (starEach [e,f] X.env)).all (λx=>!x.1)&&(backToKw bL (keywordEach [] X.env)).all (λx=>x.1.isSome)
  &&decide (([e,f]:List ia).length+([]:List Keyword).length+(if([]:List Keyword).isEmpty then 0 else 1)<30))=hQ
 line:(apos.endLine==bL.line)=hQ
 trees:backTo bL (starEach [e,f] X.env)=[(hU,eval e X.env),(hU,eval f X.env)]
def HB(H:Hp)(a:h9):Prop:=(∃b,Rd H a (.dK b))\/∃b,Rd H a (.dT b)
def K1{h:kv}{i:St}{s:hW}(I:Inv X h i H s)(d:HB H a):
 s.TypeIs (.ref a) "dict"/\(∀b,hV.ref a=.ref b->∃ob,s.heap.get? b=hG ob/\ob.dict=hI)/\(a==sysModules)=hU:=by
 rcases d with⟨j,e⟩|⟨j,e⟩
 .let(_,hd,k,_,c):=pU I.aR e;refine{c.typeIs,λb q=>?_,hd};cases q;let(ob,_,_,f,g,_):=c;exact⟨ob,f,g.2.1⟩
 .let(_,hd,xs,_,c):=lG I.aR e;refine{c.typeIs,λb q=>?_,hd};cases q;let(ob,_,_,f,g,_):=c;exact⟨ob,f,g.2.1⟩
end L2
namespace Att
open PySem.W PySem.Calls PyProof.Rows
end Att
namespace L2
open PySem.Spec PyProof.Rows
section
variable{κ:Type}[DecidableEq κ]
def zA{p:κ×V}{r:List (κ×V)}{k:κ}(e:p.1=k):gO (p::r) k=gO r k:=by unfold gO;rw [g6,if_neg (by simp [e])]
def zy{p:κ×V}{r:List (κ×V)}{k:κ}(e:¬p.1=k):gO (p::r) k=p::gO r k:=by unfold gO;rw [g6,if_pos (by simp [e])]
end
section
variable{κ:Type}[DecidableEq κ]{knd:HeapKind prog w κ}{E:ku}{s:hW}{d:h9}{xs:List (κ×h9×hV)}{k:κ}
theorem rb(d:h9)(c:(d==sysModules)=hU):MeetsIn prog w (jj.«dict.__len__» {[.ref d],[]}) (λZ R s=>∃xs,s.heap.DictOfH knd d xs/\R (.ok (.ret (.int xs.length s.toks))) {s with toks:=s.toks+1}):=
 .of_wp λA R s b=>by let(xs,(o,i,j,e,_,f,g,_),h):=b;show ie _ _ (dictSize d>>=λn=>_) _ _ s;unfold dictSize;refine ak (ak (wpAny_dictEntries e f (bc (ak (wpAny_pendingCount_other c (wpAny_ret_mkInt ?_))))));rw [Nat.add_zero,size_of_entries g];exact h
def KC{Q:ku}(b:(d==sysModules)=hU)(hm:s.heap.DictOfH knd d xs)(c:(xs.length:Int)<2^63)(h:Q (.int xs.length (s.toks+1)) {s with toks:=s.toks+1+1}):ie (ik prog w) A (call (.builtin "len") [.ref d]) Q E s:=by
 refine Calls.call_function_entry kind_len plain_len entry_len (args_len1 _) ?_;unfold jj.«len»;refine ak (m:=oneArg "len" _) (bc (ak (m:=callSpecial? (.ref d) (Str.ofString "__len__")) (wpAny_callSpecial?_slot (name:=Str.ofString "__len__") hm.typeIs F.slot_dict_len
  (call_meetsIn F.slot_dict_len hm.typeIs F.entry_dict_len (F.args_dict_len_1 _) (rb (knd:=knd) d b) {xs,hm,?_}))))
 show ie _ _ (holding _ _>>=λz=>_) _ _ {s with toks:=s.toks+1};refine ak (wpAny_holding (bc (ak (wpAny_letGo ?_))));show ie _ _ (if((xs.length:Nat):Int)<0 then _ else(if((xs.length:Nat):Int)>=2^63 then _ else _)) _ _ _;rw [if_neg (by lia),if_neg (by lia)];exact ak (wpAny_mkInt (bc {_,rfl,h}))
def Bt{l:List (κ×h9×hV)}:∀{j:Nat} {p:h9×hV},(l.map (·.1)).Nodup->l[j]?=hG (k,p)->l.eraseIdx j=l.filter λx=>decide (x.1≠k):=by
 induction l with
 |nil=>intro j p _ h;simp at h|cons x r b=>
  intro j p nd h;rw [a9,List.nodup_cons] at nd;cases j with
  |zero=>simp! [List.getElem?_cons_zero,Option.some.injEq] at h;subst h;simp! [List.eraseIdx_cons_zero,ne_eq,g6,not_true,decide_false,eH,if_false];refine(List.filter_eq_self.mpr λy c=>?_).symm;exact zzh λe=>nd.1 (e▸List.mem_map_of_mem (f:=(·.1)) c)|succ j=>simp! [List.getElem?_cons_succ] at h;have g:¬x.1=k:=λe=>nd.1 (e▸gI.mpr {(k,p),a7 h,rfl});rw [List.eraseIdx_cons_succ,g6,if_pos (zx6 g),b nd.2 h]
theorem qi{b c:Type}(f:b->c):∀(l:List b) (j:Nat),(l.eraseIdx j).map f=(l.map f).eraseIdx j
 |[],_=>by simp|x::r,0=>by simp|x::r,j+1=>by simp [qi f r j]
def vT{p:h9×hV}{Q:Option DictEntry->hW->Prop}(m:knd.room A)(hk:knd.is s.heap k a)(hm:s.heap.DictOfH knd d xs)(g:atKey xs k=hG p)(hz:xs.length<=i2)
 (r:∀h' e,e.val=p.2->h'.DictOfH knd d (xs.filter λx=>decide (x.1≠k))->i1.SameBut d s.heap h'->Q (hG e) {s with heap:=h',toks:=s.toks+knd.draws k}):ie (ik prog w) A (jj.Dict.takeOut d (.ref a)) Q E s:=by
 let(o,t,u,c,y,b,h,f,nd):=hm;unfold jj.Dict.takeOut
 try with_reducible refine wpAny_holding ?_
 refine ak (knd.pyHash m hk (ak (wpAny_dictFind_heap (s:={s with toks:=s.toks+knd.draws k}) m hk c b h f nd (λno=>?_) λj q i=>?_)))
 .rw [atKey_none_of_get no] at g;cases g
 .rw [atKey_of_get nd i] at g;cases g;refine ak (wpAny_dictEntries (s:={s with toks:=s.toks+knd.draws k}) c b ?_);rw [entry_at h j,i];refine ak (wpAny_updateDictKeys (hz:=by have e:=size_of_entries h;lia) (s:={s with toks:=s.toks+knd.draws k}) c b (bc (r _ _ rfl {_,_,u+1,i1.get?_update_self _ c (Obj.isFreed_of_dict (Obj.data_mapDictKeys b _)),
   y.mapDictKeys _,Obj.data_mapDictKeys b _,?_,λx z=>knd.keeps (f x (List.mem_filter.mp z).1) c b (gq ..),nd.sublist (List.filter_sublist.map _)} (gq ..))))
  rw [<-Bt nd i,qi,<-h];obtain⟨l⟩:=t;simp [Array.eraseIdxIfInBounds];split
  .simp
  .rename_i B;rw [List.eraseIdx_of_length_le (zx6 B)]
def rf(d a:h9):MeetsIn prog w (jj.«dict.pop» {[.ref d,.ref a],[]}) (λA R s=>knd.room A.in1/\∃k xs p,knd.is s.heap k a/\s.heap.DictOfH knd d xs/\xs.length<=i2/\atKey xs k=hG p/\
 ∀h',h'.DictOfH knd d (xs.filter λx=>decide (x.1≠k))->i1.SameBut d s.heap h'->R (.ok (.ret p.2)) {s with heap:=h',toks:=s.toks+knd.draws k}):=
 .of_wp λA R s b=>by
  let(g,k,xs,p,hk,hm,i,c,h):=b;let(o,f,y,j,_,m,q,_):=id hm
  have ne:f.isEmpty=hU:=by
   cases xs with
   |nil=>cases c
   |cons x r=>have:=size_of_entries q;rw [cS] at this;rw [Array.isEmpty_eq_false_iff_exists_mem];exact{f[0]'(by lia),Array.getElem_mem _}
  unfold jj.«dict.pop»;refine ak ?_;unfold jj.Dict.keyAndDefault;refine ak (wpAny_notOrdered_dict hm.typeIs ?_);show ie _ _ (pure (d,hV.ref a,Option.none)) _ _ s;refine bc ?_;have kp:(keyPart (hV.ref a)).isSome=hU:=rfl;simp! [kp,eH,if_false];refine ak (wpAny_dictEntries j m (ak (bc ?_)));rw [ne];simp! [eH,if_false];refine ak (vT g hk hm c i λh' e t u hs=>?_);simp! [Option.isNone_some,eH,if_false];exact ak (wpAny_letGo (bc {e.val,rfl,by rw [t];exact h h' u hs}))
def xT{c:Array DictEntry}{e:Nat}{Q:ku}(g:(d==sysModules)=hU)(b:s.heap.get? d=hG o)(h:o.ExactDict)(f:o.data=.dict c e)
 (i:Q (.ref (zz9 s)) {s with heap:=s.heap.push {cls:=.type (zu 10),data:=.fields #[.ref d,.int 0 0,.int c.size 0,.int e 0]}}):ie (ik prog w) A (pyIter (.ref d)) Q E s:=by
 have T:s.TypeIs (.ref d) "dict":=⟨o,b,h.1⟩;refine wpAny_pyIter_slot T F.slot_dict_iter (wpAny_call_entry F.slot_dict_iter T F.entry_dict_iter ?_ (F.args_dict_iter_1 _));unfold jj.«dict.__iter__» jj.Dict.dictSlotNone;refine ak (ak (wpAny_notOrdered_dict T ?_));show ie _ _ (pure (hV.ref d):Sem hV) _ _ s;refine bc ?_;show ie _ _ (jj.Dict.showsAll d>>=λZ=>_) _ _ s;unfold jj.Dict.showsAll;rw [if_neg (by rw [g];exact zzf)];refine ak (bc (ak (wpAny_dictEntries b f (ak (wpAny_dictEpoch b f ?_)))));refine ak (wpAny_newObj_type (bc {_,rfl,zu 10,_,{_,en _ rfl,rfl},F.slot_dict_keyiterator_next.lookup,?_}));simpa [rawInt] using i
def rg{it:h9}{i e:Nat}{b:Array DictEntry}{Q:Option hV->hW->Prop}(st:s.heap.IsKeyIter it d i b.size e)(g:s.heap.get? d=hG o)(h:o.data=.dict b e)(m:i<b.size)
 (p:∀h',h'.IsKeyIter it d (i+1) b.size e->i1.SameBut it s.heap h'->Q (hG b[i].key) {s with heap:=h'}):ie (ik prog w) A (pyNext (.ref it)) Q E s:=by
 let(r,f,q,c):=id st;have own:jj.Dict_items.ownsTuple (zu 10)=hU:=by decide
 unfold pyNext;refine ak (wpAny_attempt (wpAny_callSpecial?_slot (name:=Str.ofString "__next__") st.typeIs F.slot_dict_keyiterator_next (wpAny_call_entry F.slot_dict_keyiterator_next st.typeIs F.entry_dict_keyiterator_next ?_ (F.args_dict_keyiterator_next_1 _))));refine ak (bc (ak (ak ?_)))
 first|refine ak (wpAny_typeNameOfWhole_keyiter st.typeIs (bc (ak (wpAny_fieldsOf f c ?_))))|refine ak (wpAny_typeNameOf_keyiter st.typeIs (bc (ak (wpAny_fieldsOf f c ?_))))
 simp! [own,eH,if_false];show ie _ _ (if(hV.ref d==hV.none)=hQ then _ else _:Sem _) _ _ s;rw [if_neg (show¬((hV.ref d==hV.none)=hQ) from zzf)];refine ak (bc (ak (wpAny_dictEntries g h ?_)));rw [if_neg (by simp)];refine ak (bc (ak (wpAny_dictEpoch g h ?_)));rw [if_neg (by simp)];refine bc ?_;simp! [show¬((i:Int)<0) from by lia,if_false,g7,Array.getElem?_eq_getElem m];refine ak ?_
 first|refine ak (wpAny_typeNameOfWhole_keyiter st.typeIs (bc (ak (wpAny_isOneOf_keyiter st.typeIs ?_))))|refine ak (wpAny_typeNameOf_keyiter st.typeIs (bc (ak (wpAny_isOneOf_keyiter st.typeIs ?_))))
 show ie _ _ (setField (.ref it) 1 (rawInt ((i:Int)+1))>>=λZ=>_) _ _ s
 have j:(s.heap.update it (Obj.mapFields (·.setIfInBounds 1 (rawInt ((i:Int)+1))))).IsKeyIter it d (i+1) b.size e:=
  {_,i1.get?_update_self _ f (Obj.isFreed_of_fields (Obj.data_mapFields c _)),(Obj.cls_mapFields ..).trans q,by rw [Obj.data_mapFields c];simp [rawInt]}
 refine ak (wpAny_setField f c (by simp) (ak (wpAny_holding (ak (wpAny_isOneOf_keyiter (s:={s with heap:=s.heap.update it (Obj.mapFields (·.setIfInBounds 1 (rawInt ((i:Int)+1))))}) j.typeIs ?_)))));show ie _ _ (pure b[i].key:Sem hV) _ _ _;exact bc (bc {_,rfl,bc (p _ j (gq ..))})
def BR{it:h9}{i g:Nat}{c:Array DictEntry}{Q:Option hV->hW->Prop}(p:A.handled=hI)(st:s.heap.IsKeyIter it d i c.size g)(h:s.heap.get? d=hG o)(j:o.data=.dict c g)(q:c.size<=i)
 (r:∀h',i1.ExtBut it s.heap h'->Q hI {s with heap:=h'}):ie (ik prog w) A (pyNext (.ref it)) Q E s:=by
 let(t,e,u,f):=id st;have own:jj.Dict_items.ownsTuple (zu 10)=hU:=by decide
 unfold pyNext;refine ak (wpAny_attempt (wpAny_callSpecial?_slot (name:=Str.ofString "__next__") st.typeIs F.slot_dict_keyiterator_next (wpAny_call_entry F.slot_dict_keyiterator_next st.typeIs F.entry_dict_keyiterator_next ?_ (F.args_dict_keyiterator_next_1 _))));refine ak (bc (ak (ak ?_)))
 first|refine ak (wpAny_typeNameOfWhole_keyiter st.typeIs (bc (ak (wpAny_fieldsOf e f ?_))))|refine ak (wpAny_typeNameOf_keyiter st.typeIs (bc (ak (wpAny_fieldsOf e f ?_))))
 simp! [own,eH,if_false];show ie _ _ (if(hV.ref d==hV.none)=hQ then _ else _:Sem _) _ _ s;rw [if_neg (show¬((hV.ref d==hV.none)=hQ) from zzf)];refine ak (bc (ak (wpAny_dictEntries h j ?_)));rw [if_neg (by simp)];refine ak (bc (ak (wpAny_dictEpoch h j ?_)));rw [if_neg (by simp)];refine bc ?_;simp! [show¬((i:Int)<0) from by lia,if_false,g7,Array.getElem?_eq_none q];refine ak ?_
 first|refine ak (wpAny_typeNameOfWhole_keyiter st.typeIs (bc ?_))|refine ak (wpAny_typeNameOf_keyiter st.typeIs (bc ?_))
 show ie _ _ (setField (.ref it) 0 .none>>=λZ=>_) _ _ s;refine ak (wpAny_setField e f (by simp) ?_);show ie _ _ (newExc (.type "StopIteration") []>>=λZ=>_) _ _ _;refine ak ?_;simp! [newExc,newTuple];refine ak (wpAny_newObj_type (ak (m:=firstArgMember _ _) (wpAny_of_eq (a:=hV.none) (by first|rfl|(simp! [firstArgMember];rfl)) (wpAny_newObj_type ?_ (by size_fits)))) (by size_fits));simp! [raiseNew];refine ak (wpAny_handled ?_);rw [show A.in1.handled=hI from p];refine ak (bc (wpAny_throw ?_));refine ak (wpAny_isInstance (T:="StopIteration") (b:=hQ) {_,en _ rfl,rfl} isSubtype_stop ?_);exact bc (r _ (((gq ..).extBut.push _).push _))
end
end L2
namespace Cw
open L2
abbrev sgn(c:Nat):Bool:=c==35||(48<=c&&c<=57)
abbrev Xj:V->Bool
 |.str z=>decide (1<=z.cps.toList.length)&&decide (z.cps.toList.length<=12)&&z.cps.toList.all sgn|_=>hU
abbrev OJ:V->Nat
 |.str z=>z.cps.toList.length|_=>0
section
variable{K:zz8}
noncomputable abbrev D9(K:zz8)(t n:String)(b:Bool):Prop:=PySem.W.kitOne K (.type t) (.type n)=hG b
def B4{K:zz8}(t:String):D9 K t t hQ:=by unfold D9 PySem.W.kitOne;rw [if_pos (by simp)]
def B3{t n:String}{b:Bool}(a:(hV.type t==hV.type n)=hU)(c:PySem.W.kitMeta n=hQ)(d:(fastBuiltinMro t).map (·.contains (hV.type n))=hG b):D9 K t n b:=by unfold D9 PySem.W.kitOne;rw [if_neg (by rw [a];exact zzf)];show(if PySem.W.kitMeta n=hQ then PySem.W.subIn K (.type t) (.type n) else hI)=hG b;rw [if_pos c];exact d
end
noncomputable abbrev Uo:Str:=(zu 16)
end Cw
namespace L2
open PySem.Spec PyProof.Rows
def KT.drop{a:List (List Key×V)}{xs:List (List Key×h9×hV)}(r:KT H a xs)(k:List Key):KT H (gO a k) (xs.filter λx=>decide (x.1≠k)):=by
 unfold gO
 induction r with
 |nil=>exact .nil|@cons p q c qs h t b=>
  rw [g6,g6,<-h.1];split
  .exact .cons h b
  .exact b
def KT.len{a:List (List Key×V)}{xs:List (List Key×h9×hV)}(r:KT H a xs):a.length=xs.length:=Paired.length r
section
variable{ae:kv}{s:hW}{b:h9}{aw:List (List Key×V)}{k:List Key}{E:ku}
def JP{Q:ku}(I:zv2 s)(e:Rd H a (.dT aw))(h:∀t s',Inv X ae σ H s'->Q (.int aw.length t) s'):ie (ik X.prog X.w) A (call (.builtin "len") [.ref a]) Q E s:=by let(z,d,xs,c,f):=lG I.aR e;refine KC d f (by rw [<-c.len];rw [sizeLine_eq] at z;lia) ?_;rw [<-c.len];exact h _ _ (I.tok _)
def JQ{v:V}{Q:ku}(r:A.units+1<cLine)(I:zv2 s)(e:H a=hG (.dT aw))(t:H b=hG (.tup (k.map kV)))(l:iZ aw k=hG v)
 (h:∀f s',Inv X ae σ (upd H a (.dT (gO aw k))) s'->RelV v f->Q f s'):ie (ik X.prog X.w) A (call (.builtin "dict.pop") [.ref a,.ref b]) Q E s:=by
 let(z,u,xs,d,i):=HW I.aR e;let(f,y,B):=gX.some_of (v:=v) (o:=(atKey xs k).map (·.2)) (by rw [<-l];exact d.val k);let(p,C,g):=b4.mp y;refine call_meetsIn PySem.F.slot_dict_pop i.typeIs PySem.F.entry_dict_pop (PySem.F.args_dict_pop_2 _ _) (rf (knd:=tupleKind (cG X.prog X.w)) a b) {tupleKind_room_in1 r,k,xs,p,ji I.aR t,i,by rw [<-d.len];exact z,C,λP D hs=>?_};rw [g];let(q,G,K,j,L,M,N,_,O):=D;refine h f _ (jZ I (by rw [e];exact True.intro) hs ⟨q,j⟩ {ee (Bl aw k) z,u,_,(d.drop k).keeps λc R m=>?_,q,G,K,j,L,M,N,O}) B;rw [af (kc m e nofun)];exact m
def Inv.freeze(I:zv2 s)(e:H a=hG (.dT aw)):∃o,Inv X ae σ (upd H a (.bw o (.dT aw))) s:=by let(z,h,xs,d,o,i,j,f,m,p,q,r):=(show bZ X.prog X.w H s.heap a (.dT aw) from I.aR a _ e);refine{o,jZ (h':=s.heap) (t':=s.toks) I (by rw [e];exact True.intro) {rfl,λZ Z=>rfl} ⟨o,f⟩ {f,z,h,xs,?_,o,i,j,f,m,p,q,r}};exact KT.keeps (H:=H) d λc t g=>by rw [af (kc g e nofun)];exact g
end
abbrev QY(a:h9)(o:Obj)(c:List (List Key×V)):It:=
 {λi H=>H a=hG (.bw o (.dT c))/\i<c.length,λi H x d=>d=H/\∃b k v,x=.ref b/\c[i]?=hG (k,v)/\H b=hG (.tup (k.map kV)),λi H=>H a=hG (.bw o (.dT c))/\c.length<=i}
def wt{c d:Type}{R:c->d->Prop}{l:List c}{m:List d}(r:Paired R l m):∀{i:Nat} {p:c} {q:d},l[i]?=hG p->m[i]?=hG q->R p q:=by
 induction r with
 |nil=>intro i p q h;simp at h|cons h t e=>
  intro i p q a b;cases i with
  |zero=>simp at a b;subst a b;exact h|succ i=>simp at a b;exact e a b
def HX{d:List (List Key×V)}(x:bZ P w H h a (.dT d)):(a==sysModules)=hU/\(d.map (·.1)).Nodup/\∃o c f,h.get? a=hG o/\o.ExactDict/\o.data=.dict c f/\c.size=d.length/\∀(i:Nat) (j:i<c.size),∃b k v,c[i].key=.ref b/\d[i]?=hG (k,v)/\H b=hG (.tup (k.map kV))/\RelV v c[i].val:=by
 let(z,r,xs,e,o,c,f,s,u,y,g,m):=x;have hl:c.size=xs.length:=size_of_entries g;have p:d.length=xs.length:=Paired.length e
 have ks:d.map (·.1)=xs.map (·.1):=by
  clear hl p g m z
  induction e with
  |nil=>rfl|cons h t A=>rw [a9,a9,h.1,A]
 refine{r,ks▸m,o,c,f,s,u,y,hl.trans p.symm,λi j=>?_};have e1:c[i]?=(xs[i]?).map (entryOfKey (tupleKind (cG P w))):=entry_at g i;rw [zzg (show i<xs.length by lia),Array.getElem?_eq_getElem j] at e1;have q:=wt e (zzg (show i<d.length by lia)) (zzg (show i<xs.length by lia));rw [zzq e1];exact{_,_,_,rfl,zzg (show i<d.length by lia),q.2.1,q.2.2}
def nc{m:kv}{p:St}{s:hW}{d:List (List Key×V)}(I:Inv X m p H s)(e:H a=hG (.bw o (.dT d))):
 (a==sysModules)=hU/\s.heap.get? a=hG o/\o.ExactDict/\∃c f,o.data=.dict c f/\c.size=d.length/\∀(i:Nat) (h:i<c.size),∃b k v,c[i].key=.ref b/\d[i]?=hG (k,v)/\H b=hG (.tup (k.map kV)):=by
 let(g,ok):=(show bZ X.prog X.w H s.heap a (.bw o (.dT d)) from I.aR a _ e);let(q,_,A,c,f,j,r,t,hl,hk):=HX ok;rw [g] at j;cases j;exact{q,g,r,c,f,t,hl,λi u=>let⟨b,k,v,e1,y,z,_⟩:=hk i u;⟨b,k,v,e1,y,z⟩}
def Ay{K:zz8}{Y:ia}{it:h9}{j:Array DictEntry}{N:Nat}{O:List (List Key×V)}(hd:o.data=.dict j N)(hl:j.size=O.length):
 Turn P w K Y (QY a o O) [it] it (λi h=>h.IsKeyIter it a i j.size N) where
 mem:=by simp
 obj:=λi h st b f=>by have e:b=it:=zx6 f;subst e;let(q,e,c,d):=st;exact{q,e,λv z=>by rw [d] at z;cases z}
 keep:=λi h m st k=>st.at λo e=>k it (by simp) o e
 item:=by
  intro X r t hK Q i R s S H E I p st u;subst r t hK;let(y,Z):=u;let(lo,A,hx,B,C,g,sE,T):=nc I y;rw [hd] at g;cases g;let(D,F,f2,G,L,M):=p it (by simp);have U:i<j.size:=by lia
  refine rg st A hd U λm W sb=>?_;let(b,k,v,e1,e2,e3):=T i U;have I1:Inv X R S H {s with heap:=m}:=I.turned (t':=s.toks) (λb o f e=>(sb.2 b f).trans e) D F G L M;let(q,e,c,d):=id W;refine{_,rfl,xO (s:={s with heap:=m}) e c d (by decide) {.ref b,H,I1,?_,⟨rfl,b,k,v,rfl,e2,e3⟩,W,λb f=>(p b f).1}};rw [e1];exact rfl
 done:=by intro X r t hK Q i R s S H E I p st u;subst r t hK;let(y,Z):=u;let(lo,A,hx,B,C,g,sE,T):=nc I y;rw [hd] at g;cases g;let(D,F,f2,G,L,M):=p it (by simp);exact BR (I.ok.hd Q) st A hd (by lia) λm eb=>{rfl,I.turned (t':=s.toks) (λb o f e=>eb b o f e) D F G L M}
 self:=λ_ _ _ _ _ st h=>wpAny_pyIter_keyiter st h
abbrev Sj(d:TE):TI:=λe H R=>d e H λx b=>∃a o c,x=.ref a/\b a=hG (.bw o (.dT c))/\R (QY a o c) b
section
variable{o:ia}{apos bL:Pos}{td ty:TE}
def LZ{j l:ia}{g:TE}(hl:PE X l g):PI X j l (Sj g):=by intro k s m H R I h;refine bM (hl k s m H _ I h) λv c f=>?_;let(x,p,d,r,t):=f;let(a,o,C,e,u,q):=t;subst e;cases r;let(w,y,z,D,E,i,A,F):=nc d u;refine xT w y z i ?_;refine{(zz9 c),[(zz9 c)],_,_,p,rfl,d.kept (t':=c.toks) λb o e=>ar _ e,Ay i A,{_,en _ rfl,rfl,rfl},λb B=>?_,q};have e:b=(zz9 c):=zx6 B;subst e;exact d.oK (a8 _) (d.aR.fresh (a8 _))
abbrev PH(td ty:TE):TE:=λf H Q=>td f H λx g=>∃a,x=.ref a/\HB g a/\ty f g λy c=>∃d k b v,c a=hG (.dT d)/\y=.ref b/\c b=hG (.tup (k.map kV))/\iZ d k=hG v/\Q v (upd c a (.dT (gO d k)))
def Gw(j:X.A.units+1<cLine)(p:PE X o td)(he:PE X e ty)(m:M1 X o "pop" apos e bL):PE X (.Call (.Attribute o "pop" apos) [e] [] bL) (PH td ty):=by intro f s g H Q I h;refine wpAny_Call_method m.base m.Qk m.line PySem.F.plainAttrs_dict PySem.F.slot_dict_pop PySem.F.type_dict_pop (bM (p f s g H _ I h) λu q c=>?_);let(x,r,i,t,a,ex,d,w):=c;subst ex;obtain rfl:u=hV.ref a:=t;let(z,t2,_):=K1 i d;refine{z,t2,?_};rw [m.trees];refine Calls.callWith_builtin rfl (Calls.evalArgs_plain (Calls.spliced_cons (bM (he f q g r _ i w) λB O ⟨y,P,C,D,R,k,b,v,E,G,K,l,L⟩=>Calls.spliced_nil ?_)));subst G;cases(show B=hV.ref b from D);exact JQ j C E K l λS T M N=>{v,_,M,N,L}
end
end L2
namespace L2
open PySem.Spec PyProof.Rows PySem.W
section
variable{n:Nat}(h0:0<n)
include h0
end
end L2
namespace L2
open PySem.Spec PyProof.Rows
section
variable{d:h9}
def fC.qW{K:zz8}{xs:List V}(h:fC K H a xs)(e:∀b,b≠d->H' b=H b){c:List (List Key×V)}(hd:H d=hG (.dT c)):fC K H' a xs:=by
 rcases h with(h|⟨o,h⟩)|h
 .exact .inl (.inl (by rw [e a (kc h hd nofun)];exact h))
 .exact .inl (.inr {o,by rw [e a (kc h hd nofun)];exact h})
 .exact .inr h
end
open PySem.W (hideAll hideAll_get of_hideAll funFrames_hide)
structure AW(P:ig)(w:ij)(outer:List Env)(H:Hp)(s:hW)(E:XK)(a C t:h9)(vs:List hV)(H':Hp)(B:i1)(s':hW):Prop where
 os:s'.os=s.os
 bare:AllBare s'.gens
 aR:eY P w H' B
 D0:i1.FlyingW B outer a (.ref C) (.ref t) s'.heap
 tn:B.get? t=hI
 tup:s'.heap.TupAt t vs
 fj:∀b o,s.heap.get? b=hG o->H b=hI->b∉fQ outer->B.get? b=hG o
 dP:∀b o,s.heap.get? b=hG o->b∉fQ outer->∃o',B.get? b=hG o'
 un:Un (fQ outer) [] H H' s.heap s'.heap
 ends:E (.ref C) (hG a) H'
abbrev dQ(P:ig)(w:ij):yS:=λouter H s E e b=>∃a C t c d B,e=.ref a/\AW P w outer H s E a C t c d B b
section
variable{K:zz8}{scope:iv}{f:h9}{cd:hV}{outer:List Env}{s0:hW}{E:XK}
def cZ{a:kv}{c:St}{s:hW}(I:Inv X a c H s){b:h9}(hl:X.env.locals=X.s₀.heap.objs.size)(q:X.s₀.heap.get? b=hG o)(d:b∉X.fs):b∉fQ X.stack:=λz=>by
 rcases e9.mp (I.ju b z) with e|e
 .rw [hl] at e;exact absurd (c8 q) (by rw [e];exact Nat.lt_irrefl _)
 .exact d e
def O0:Passes (dQ P w) (zv0 E) E:=by
 rintro S σ H s e T I ⟨a,C,t,r,y,B,rfl,F⟩
 have nx:∀b:h9,b∉(zv0 E).ex:=λb z=>nomatch (show b∈([]:List h9) from z);have fj:∀b o,s0.heap.get? b=hG o->H0 b=hI->b∉fQ outer->B.get? b=hG o:=λb o q n c=>F.fj b o (I.base.keep b o q n c (nx b)) (I.base.free b o q n (nx b)) (cZ I rfl q c);have dP:∀b o,s0.heap.get? b=hG o->b∉fQ outer->∃g,B.get? b=hG g:=λb o q c=>by let(D,d):=I.base.there b o q (nx b);exact F.dP b D d (cZ I rfl q c)
 refine wpAny_leaves_onW I.ok.frames rfl F.D0 λG j m=>{a,C,t,r,y,B,rfl,?_};have slot:∀b o,s0.heap.get? b=hG o->H0 b=hI->b∈fQ outer->∃h,G.get? b=hG {o with slots:=h}:=λb o q n c=>by let(h,d):=I.base.slot b o q n c (nx b);let(L,i):=F.un.any d (I.base.free b o q n (nx b)) nofun;let(_,g,p,hd):=F.D0.2.2.1.mem (b:=b) (gS.mpr (let⟨v,M,O⟩:=gS.mp c;{v,.tail _ M,O}));rw [i] at p;cases p;let(k,Q):=m b _ i hd;exact⟨k,Q⟩
 refine{F.os.trans I.os,F.bare,F.aR,j,F.tn,F.tup.of_slots m,fj,dP,{λb o q n c Z=>j.1 _ _ (fj b o q n c),λb o q n c Z=>slot b o q n c,λb o q n Z=>?_,λb o q Z=>?_,λb xs q=>F.un.iY _ _ (I.base.iY _ _ q),λb o u q=>F.un.gC _ _ _ (I.base.gC _ _ _ q),λb R q=>?_},F.ends}
 .let(h,d):=I.base.any q n (nx b);exact F.un.free b _ d (I.base.free b o q n (nx b)) nofun
 .by_cases c:b∈fQ outer
  .let(h,d):=slot b o q (I.ok.xG b c) c;exact{_,d}
  .let(g,d):=dP b o q c;exact{g,j.1 _ _ d}
 .let(m1,d):=I.base.iI b R q;let(m2,i):=F.un.iI b _ d;exact{m1++m2,by rw [<-Array.append_assoc];exact i}
def Md{D:kv}{F:St}{s:hW}{g:i1}{e C:h9}(I:Inv (zv0 E) D F H s)
 (y:i1.MadeExcOf s.heap g e (.ref C) us) (G:E (.ref C) (hG e) H):(zv0 E).xe (.ref e) {s with heap:=g}:=by
 have nx:∀b:h9,b∉(zv0 E).ex:=λb z=>nomatch (show b∈([]:List h9) from z);have L:∀env∈(zv0 E).stack,∀b,env.frame=hG b->b∈fQ (zv0 E).stack:=λenv M b a=>gS.mpr ⟨env,M,a⟩;refine wpAny_leaves_madeW (h:=s.heap) I.ok.frames rfl (λb o q=>of_hideAll _ q) (funFrames_hide I.stack L) y λO t k Q R S=>{e,C,t,us,H,hideAll s.heap (fQ (zv0 E).stack),rfl,?_};have fj:∀b o,s0.heap.get? b=hG o->H0 b=hI->b∉fQ outer->(hideAll s.heap (fQ (zv0 E).stack)).get? b=hG o:=λb o q n a=>hideAll_get _ (I.base.keep b o q n a (nx b)) (cZ I rfl q a);have dP:∀b o,s0.heap.get? b=hG o->b∉fQ outer->∃i,(hideAll s.heap (fQ (zv0 E).stack)).get? b=hG i:=λb o q a=>by let(T,d):=I.base.there b o q (nx b);exact{T,hideAll_get _ d (cZ I rfl q a)}
 have slot:∀b o,s0.heap.get? b=hG o->H0 b=hI->b∈fQ outer->∃m,O.get? b=hG {o with slots:=m}:=λb o q n a=>by let(m,d):=I.base.slot b o q n a (nx b);let(_,i,B,hd):=I.stack.mem (b:=b) (gS.mpr (let⟨v,g,U⟩:=gS.mp a;{v,.tail _ g,U}));rw [d] at B;cases B;let(p,V):=S b _ (y.keeps _ _ d) hd;exact⟨p,V⟩
 refine{I.os,I.bare,λb o q=>?_,k,R,Q,fj,dP,{λb o q n a Z=>k.1 _ _ (fj b o q n a),λb o q n a Z=>slot b o q n a,λb o q n Z=>I.base.free b o q n (nx b),λb o q Z=>?_,I.base.iY,I.base.gC,I.base.iI},G}
 .refine(I.aR b o q).fU (λc v u r=>hideAll_get _ r λz=>?_) (λZ q=>q) λZ Z q=>q;have j:=I.mL c z
  rcases u with rfl|u
  .rw [q] at j;cases j
  .rw [u] at j;cases j
 .by_cases a:b∈fQ outer
  .let(m,d):=slot b o q (I.ok.xG b a) a;exact{_,d}
  .let(i,d):=dP b o q a;exact{i,k.1 _ _ d}
end
def lR{o:HO}(x:bZ P w H h a o):∃b,h.get? a=hG b:=by
 cases o with
 |lst xs=>let(_,_,_,_,e):=x;exact{_,e}|tup xs=>let(_,_,_,o,e,_):=x;exact{_,e}|dK c=>let(_,_,_,_,o,_,_,e,_):=x;exact{_,e}|dT c=>let(_,_,_,_,o,_,_,e,_):=x;exact{_,e}|set S n=>let(o,_,_,_,e,_):=x;exact{_,e}|ins C dx fs=>let(_,_,_,e,_):=x;exact{_,e}|own y=>exact x|xd fs=>let(_,(_,_,_,e,_),_):=x;exact{_,e}|mv lo d=>let(_,_,_,e):=x;exact{_,e}|bw ob u=>let(e,_):=x;exact{_,e}|hJ g=>exact{_,x}|met f y=>exact{_,x}|ext i=>exact x.2.1
abbrev MC(C:h9)(E:XK)(b:TA):TS:=λZ c H=>b c H λd a=>d.length<=i2/\∀e,a e=hI->E (.ref C) (hG e) a
section
variable{K:zz8}{scope:iv}{f:h9}{cd:hV}{outer:List Env}{s0:hW}{E:XK}
theorem Df{C:h9}{u b B:String}{bm:List hV}{a:ia}{rest:List ia}{d:Pos}{j:TA}(F:Gl (zv0 E) x)(O:OwnCls x C bm b mg base)(k:ExcBaseFacts u b B bm)
 (G:PA (zv0 E) (a::rest) j)
 (he:starEach (a::rest) (zv0 E).env=(hU,eval a (zv0 E).env)::starEach rest (zv0 E).env:=by rfl)
 (L:(backTo d (starEach rest (zv0 E).env)).any (·.1)=hU:=by rfl) (hd:(x==(zu 25:Str))=hU:=by decide) (M:A.handled.isNone=hQ):
 PS (zv0 E) (.Raise (hG (.Call (.Name x np) (a::rest) [] d)) hI pos) (MC C E j):=by
 intro Q s R H D I h;let(S,U,nm,q,bs,hdct,sn,sub,ab,col,dd,k0,k1,k2,k3,k5,mN,hC,hN,g,T):=O.obj
 refine wpAny_Raise_call_subT (C:=C) (nm:=nm) (q:=q) (N:=U) (bs:=bs) (bm:=S) (hdct:=hdct) (sn:=sn) (sub:=sub) (ab:=ab) (col:=col) (dd:=dd) (k0:=k0) (k1:=k1) (k2:=k2) (k3:=k3) (k5:=k5)
  k (mN:=mN) (T.hasType k.hasBase) (I.ok.hd M) (by rw [he];show(hU||(backTo d (starEach rest (zv0 E).env)).any (·.1))=hU;rw [L];rfl) g (fH I F O.bound {rfl,?_} hd)
 have m:=G d Q s R H _ I h;rw [he] at m⊢;refine Calls.evalArgs_plain (wpAny_mono m (λZ V i=>?_) λ_ _ y=>y);let(vs,W,c,X,hl,Y):=i;refine{rfl,by rw [<-X.length];exact hl,c.bk _ _ hC,hN.keeps c.bk,T.keeps c.bk,λh1 e p=>Md c p (Y e ?_)}
 cases z:W e with
 |none=>rfl|some o=>
  obtain⟨r,t⟩:∃r,V.heap.get? e=hG r:=by exact lR (c.aR _ _ z)
  rw [p.new] at t;cases t
end
noncomputable abbrev bO:HO:=.ext λZ=>True
def mS(e:h.get? a=hG o):bZ P w H h a (.bw o bO):={e,trivial,⟨o,e⟩,λZ Z Z Z=>trivial}
abbrev aQ(Z:kv)(H:Hp):Hp:=λb=>match Z.lookup b with
 |some o=>hG (.bw o bO)|none=>H b
abbrev aS(Z:kv)(H:Hp):Hp:=λb=>match Z.lookup b with
 |some _=>hI|none=>H b
section
variable{Z:kv}{b:h9}
def bg(e:Z.lookup b=hG o):aQ Z H b=hG (.bw o bO):=by unfold aQ;rw [e]
def ai(e:Z.lookup b=hI):aQ Z H b=H b:=by unfold aQ;rw [e]
def gf(e:Z.lookup b=hG o):aS Z H b=hI:=by unfold aS;rw [e]
def av(e:Z.lookup b=hI):aS Z H b=H b:=by unfold aS;rw [e]
def fq{u:HO}(e:aS Z H b=hG u):Z.lookup b=hI/\H b=hG u:=by
 cases q:Z.lookup b with
 |none=>rw [av q] at e;exact⟨rfl,e⟩|some o=>rw [gf q] at e;cases e
def gE(h:H b=hI):aS Z H b=hI:=by
 cases q:Z.lookup b with
 |none=>rw [av q];exact h|some o=>exact gf q
structure vA(Z:kv)(H:Hp)(fs:List h9)(h:i1):Prop where
 at_:∀b o,Z.lookup b=hG o->h.get? b=hG o
 no:∀b o,Z.lookup b=hG o->H b=hI
 fr:∀b o,Z.lookup b=hG o->b∉fs
variable{fs:List h9}{h':i1}
theorem vA.aR(z:vA Z H fs h)(k:eY P w H h):eY P w (aQ Z H) h:=λb u e=>by
 cases q:Z.lookup b with
 |some o=>rw [bg q] at e;cases e;exact mS (z.at_ b o q)
 |none=>
  rw [ai q] at e;have a:∀c v,H c=hG v->Z.lookup c=hI:=λc v d=>by
   cases y:Z.lookup c with
   |none=>rfl|some o=>rw [z.no c o y] at d;cases d
  exact(k b u e).fU (λc v Y r=>r) (λc r=>by rw [ai (a c _ r)];exact r) λc xs r=>by rw [ai (a c _ r)];exact r
def vA.yP(z:vA Z H fs h)(u:Un fs [] (aQ Z H) H' h h')(k:eY P w H' h'):Un fs [] H (aS Z H') h h'/\eY P w (aS Z H') h':=by
 have i:∀b o,Z.lookup b=hG o->H' b=hG (.bw o bO):=λb o q=>u.gC b o _ (bg q);have p:∀b o,Z.lookup b=hG o->h'.get? b=hG o:=λb o q=>(k b _ (i b o q)).1
 have d:∀c v,H c=hG v->Z.lookup c=hI:=λc v j=>by
  cases y:Z.lookup c with
  |none=>rfl|some o=>rw [z.no c o y] at j;cases j
 refine{{λb o e n f a=>?_,λb o e n f a=>?_,λb o e n a=>?_,λb o e a=>u.there b o e a,λb xs e=>?_,λb o v e=>?_,λb s e=>?_},λb v e=>?_}
 .cases q:Z.lookup b with
  |some g=>have m:=z.at_ b g q;rw [e] at m;cases m;exact p b o q
  |none=>exact u.keep b o e (by rw [ai q];exact n) f a
 .cases q:Z.lookup b with
  |some g=>exact absurd f (z.fr b g q)|none=>exact u.slot b o e (by rw [ai q];exact n) f a
 .cases q:Z.lookup b with
  |some g=>exact gf q|none=>rw [av q];exact u.free b o e (by rw [ai q];exact n) a
 .rw [av (d b _ e)];exact u.iY b xs (by rw [ai (d b _ e)];exact e)
 .rw [av (d b _ e)];exact u.gC b o v (by rw [ai (d b _ e)];exact e)
 .rw [av (d b _ e)];exact u.iI b s (by rw [ai (d b _ e)];exact e)
 .let(q,e1):=fq e;refine(k b v e1).fU (λc y Y r=>r) (λc r=>?_) λc xs r=>?_
  .cases y:Z.lookup c with
   |none=>rw [av y];exact r|some o=>rw [i c o y] at r;cases r
  .cases y:Z.lookup c with
   |none=>rw [av y];exact r|some o=>rw [i c o y] at r;cases r
def vA.yQ(z:vA Z H fs h)(u:Un fs [] H H' h h')(k:eY P w H' h'):Un fs [] (aQ Z H) (aQ Z H') h h'/\eY P w (aQ Z H') h':=by
 have i:∀b o,Z.lookup b=hG o->h'.get? b=hG o:=λb o q=>u.keep b o (z.at_ b o q) (z.no b o q) (z.fr b o q) nofun;have j:∀b o,Z.lookup b=hG o->H' b=hI:=λb o q=>u.free b o (z.at_ b o q) (z.no b o q) nofun
 have f:∀c v,H' c=hG v->Z.lookup c=hI:=λc v g=>by
  cases y:Z.lookup c with
  |none=>rfl|some o=>rw [j c o y] at g;cases g
 have nw:∀b,aQ Z H b=hI->Z.lookup b=hI/\H b=hI:=λb e=>by
  cases q:Z.lookup b with
  |some o=>rw [bg q] at e;cases e
  |none=>rw [ai q] at e;exact⟨rfl,e⟩
 refine{{λb o e n d a=>u.keep b o e (nw b n).2 d a,λb o e n d a=>u.slot b o e (nw b n).2 d a,λb o e n a=>?_,λb o e a=>u.there b o e a,λb xs e=>?_,λb o v e=>?_,λb m e=>?_},λb v e=>?_}
 .rw [ai (nw b n).1];exact u.free b o e (nw b n).2 a
 .cases q:Z.lookup b with
  |some o=>rw [bg q] at e;cases e
  |none=>rw [ai q] at e⊢;exact u.iY b xs e
 .cases q:Z.lookup b with
  |some p=>rw [bg q] at e⊢;exact e|none=>rw [ai q] at e⊢;exact u.gC b o v e
 .cases q:Z.lookup b with
  |some o=>rw [bg q] at e;cases e
  |none=>rw [ai q] at e⊢;exact u.iI b m e
 .cases q:Z.lookup b with
  |some o=>rw [bg q] at e;cases e;exact mS (i b o q)
  |none=>rw [ai q] at e;exact(k b v e).fU (λc y Y r=>r) (λc r=>by rw [ai (f c _ r)];exact r) λc xs r=>by rw [ai (f c _ r)];exact r
variable{K:zz8}{outer:List Env}{s s':hW}
theorem hX.aQ(e:hX P w K mg base A outer s H)(z:vA Z H (fQ outer) s.heap)(d:∀b o,Z.lookup b=hG o->base.get? b=hI):hX P w K mg base A outer s (aQ Z H) where
 frames:=e.frames
 mod:=e.mod
 bs:=λb o q=>{(e.bs b o q).1,by
  cases y:Z.lookup b with
  |some a=>rw [d b a y] at q;cases q
  |none=>rw [ai y];exact(e.bs b o q).2}
 xl:=e.xl
 gZ:=e.gZ
 xG:=λb c=>by
  cases y:Z.lookup b with
  |some a=>exact absurd c (z.fr b a y)|none=>rw [ai y];exact e.xG b c
 aR:=z.aR e.aR
 bare:=e.bare
def CE.less(z:vA Z H (fQ outer) s.heap)(h:CE outer P w (aQ Z H) s (λv H'=>Q v (aS Z H')) u s'):CE outer P w H s Q u s':=by let(v,H',os,bare,un,aR,r,q):=h;let(a,c):=z.yP un aR;exact{v,_,os,bare,a,c,r,q}
def CE.more(z:vA Z H (fQ outer) s.heap)(h:CE outer P w H s (λv H'=>(∀b o,Z.lookup b=hG o->H' b=hI)->Q v (aQ Z H')) u s'):CE outer P w (aQ Z H) s Q u s':=by let(v,H',os,bare,un,aR,r,q):=h;let(a,c):=z.yQ un aR;exact{v,_,os,bare,a,c,r,q λb o y=>un.free b o (z.at_ b o y) (z.no b o y) nofun}
def dQ.less{E:XK}{e:hV}(z:vA Z H (fQ outer) s.heap)(h:dQ P w outer (aQ Z H) s (λC a H'=>E C a (aS Z H')) e s'):dQ P w outer H s E e s':=by
 let(a,C,t,g,H',B,rfl,F):=h;have d:∀b o,Z.lookup b=hG o->H' b=hG (.bw o bO):=λb o q=>F.un.gC b o _ (bg q)
 have i:∀b o,s.heap.get? b=hG o->H b=hI->b∉fQ outer->B.get? b=hG o:=λb o e n j=>by
  cases q:Z.lookup b with
  |some k=>have f:=z.at_ b k q;rw [e] at f;cases f;exact(F.aR b _ (d b o q)).1
  |none=>exact F.fj b o e (by rw [ai q];exact n) j
 have m:eY P w (aS Z H') B:=λb v e=>by
  let(q,e1):=fq e;refine(F.aR b v e1).fU (λc y Y r=>r) (λc r=>?_) λc xs r=>?_
  .cases y:Z.lookup c with
   |none=>rw [av y];exact r|some o=>rw [d c o y] at r;cases r
  .cases y:Z.lookup c with
   |none=>rw [av y];exact r|some o=>rw [d c o y] at r;cases r
 have hs:eY P w H' s'.heap:=λb v e=>(F.aR b v e).fU (λc y Y r=>F.D0.1 _ _ r) (λY r=>r) λY Y r=>r;let(p,_):=z.yP (P:=P) (w:=w) F.un hs;exact{a,C,t,g,_,B,rfl,⟨F.os,F.bare,m,F.D0,F.tn,F.tup,i,F.dP,p,F.ends⟩}
def dQ.more{E:XK}{e:hV}(z:vA Z H (fQ outer) s.heap)(h:dQ P w outer H s (λC a H'=>(∀b o,Z.lookup b=hG o->H' b=hI)->E C a (aQ Z H')) e s'):dQ P w outer (aQ Z H) s E e s':=by
 let(a,C,t,i,H',B,rfl,F):=h;have j:∀b o,Z.lookup b=hG o->B.get? b=hG o:=λb o q=>F.fj b o (z.at_ b o q) (z.no b o q) (z.fr b o q);have d:∀b o,Z.lookup b=hG o->H' b=hI:=λb o q=>F.un.free b o (z.at_ b o q) (z.no b o q) nofun
 have f:∀c v,H' c=hG v->Z.lookup c=hI:=λc v g=>by
  cases y:Z.lookup c with
  |none=>rfl|some o=>rw [d c o y] at g;cases g
 have k:eY P w (aQ Z H') B:=λb v e=>by
  cases q:Z.lookup b with
  |some o=>rw [bg q] at e;cases e;exact mS (j b o q)
  |none=>rw [ai q] at e;exact(F.aR b v e).fU (λc y Y r=>r) (λc r=>by rw [ai (f c _ r)];exact r) λc xs r=>by rw [ai (f c _ r)];exact r
 have hs:eY P w H' s'.heap:=λb v e=>(F.aR b v e).fU (λc y Y r=>F.D0.1 _ _ r) (λY r=>r) λY Y r=>r;let(m,_):=z.yQ (P:=P) (w:=w) F.un hs;refine{a,C,t,i,_,B,rfl,{F.os,F.bare,k,F.D0,F.tn,F.tup,λb o e n p=>F.fj b o e ?_ p,F.dP,m,F.ends d}}
 cases q:Z.lookup b with
 |some o=>rw [bg q] at n;cases n
 |none=>rw [ai q] at n;exact n
end
structure sP(ps ys:List Str)(scope:iv):Prop where
 kind:scope.kind=.function
 co:scope.isCoroutine=hU
 gen:scope.isGenerator=hU
 nd:(ps++ys).Nodup
 Cs:∀x∈scope.names,x.2≠.cell
 par:∀x∈ps,scope.names.lookup x=hG .local
 RE:∀y∈ys,scope.names.lookup y=hG .free
 JB:∀x,scope.names.lookup x=hG .free->x∈ys
noncomputable def HS(P:ig)(w:ij)(K:zz8)(mg:Str->Option hV)(base:i1)(N:List Str)(qual:Str)(a:iv)(f:h9)(cd:hV)(cl:List (Str×h9))(A:il)(outer:List Env)(s:hW)(H:Hp)(E:XK):Cx where
 prog:=P
 w:=w
 K:=K
 mg:=mg
 base:=base
 A:=A.deeper (PySem.W.envX qual a (zz9 s) f cd cl)
 N:=N
 s₀:=s
 H₀:=H
 env:=PySem.W.envX qual a (zz9 s) f cd cl
 outer:=outer
 stack:=PySem.W.envX qual a (zz9 s) f cd cl::outer
 ex:=[]
 calm:=A.handled.isNone
 fn:=λZ=>hU
 pn:=[]
 xe:=λe c=>ie (ik P w) (A.deeper (PySem.W.envX qual a (zz9 s) f cd cl)) (leaving (PySem.W.envX qual a (zz9 s) f cd cl) e) (λZ b=>dQ P w outer H s E e b) (λd b=>dQ P w outer H s E d b) c
theorem qg{a:Type}:∀{l:List (Str×a)} {x:Str} {v:a},(l.map (·.1)).Nodup->(x,v)∈l->l.lookup x=hG v
 |(y,u)::r,x,v,nd,h=>by
  rw [a9,List.nodup_cons] at nd;rw [hB];rcases e9.mp h with e|e
  .cases e;simp
  .have b:(x==y)=hU:=beq_eq_false_iff_ne.mpr λz=>nd.1 (by subst z;exact List.mem_map_of_mem (f:=(·.1)) e);rw [b];exact qg nd.2 e
def ou{ps:List Str}{i:Nat}(nd:ps.Nodup)(a:ps[i]?=hG x)(b:us[i]?=hG u):(ps.zip us).reverse.lookup x=hG u:=by
 have hs:∀{ps:List Str} {us:List hV},List.Sublist ((ps.zip us).map (·.1)) ps:=λ{ps us}=>by
  induction ps generalizing us with
  |nil=>simp|cons p ps c=>
   cases us with
   |nil=>simp|cons q us=>simpa using c
 refine qg ?_ ?_
 .rw [List.map_reverse];exact List.pairwise_reverse.mpr ((nd.sublist hs).imp λh=>Ne.symm h)
 .rw [List.mem_reverse];refine a7 (i:=i) ?_;rw [List.getElem?_zip_eq_some];exact⟨a,b⟩
section
variable{K:zz8}{ps ys:List Str}{scope:iv}{f:h9}{cd:hV}{cl:List (Str×h9)}{outer:List Env}{s:hW}{E:XK}
def vY{ws:List V}{h':i1}{tk:Nat}(S:sP ps ys scope)(g:hX P w K mg base A outer s H)(C:∀y∈ys,∃c,cl.lookup y=hG c)(inj:∀x y c,cl.lookup x=hG c->cl.lookup y=hG c->x=y)
 (r:Vals vs us) (hl:vs.length=ps.length) (I:ws.length=ys.length) (cells:∀(i:Nat) y c,ys[i]?=hG y->cl.lookup y=hG c->∀v,ws[i]?=hG v->∃u,RelV v u/\s.heap.IsCell c (hG u)) (L:∀x c,cl.lookup x=hG c->∃v,s.heap.IsCell c v)
 (M:∀x c,cl.lookup x=hG c->H c=hI) (ns:h'.Ns (zz9 s) (λx=>(ps.zip us).reverse.lookup x)) (hk:∀b o,s.heap.get? b=hG o->h'.get? b=hG o):
 Inv (HS P w K mg base (ps++ys) qual scope f cd cl A outer s H E) [] (vs.map hG++ws.map hG) H {s with heap:=h',toks:=tk}:=by
 have q:∀b:h9,b∉(HS P w K mg base (ps++ys) qual scope f cd cl A outer s H E).ex:=λb z=>absurd (show b∈([]:List h9) from z) (by simp);have D:∀c v,s.heap.IsCell c v->h'.IsCell c v:=λc v ⟨o,N,hd⟩=>{o,hk c o N,hd}
 refine{{g.mod,S.kind,rfl,rfl,a8 _,inj,λx k=>?_,(λx c z=>nomatch z),λz=>Option.isNone_iff_eq_none.mp z,il.frames_deeper g.frames,.inr ⟨rfl,rfl⟩,λb z=>absurd z (q b),g.bs,g.xl,λb Z Z=>q b,λb z=>absurd z (q b),g.gZ,g.xG},
  rfl,g.bare,Un.kept hk,{_,ns,λi x v j d Q=>?_},λx c h=>let⟨v,z⟩:=L x c h;{v,D c v z},g.aR.fresh (a8 _),M,λp m=>absurd (show p∈([]:kv) from m) (by simp),g.aR.kept hk,?_}
 .have k:scope.names.lookup x=hG .cell\/scope.names.lookup x=hG .free:=k
  rcases k with k|k
  .exact absurd rfl (S.Cs _ (PySem.mem_of_lookup k))
  .exact C x (S.JB x k)
 .have j:(ps++ys)[i]?=hG x:=j;by_cases F:i<vs.length
  .rw [fP (zx6 F),dV] at d;have t:vs[i]?=hG v:=by
    cases e:vs[i]? with
    |none=>rw [e] at d;cases d
    |some a=>rw [e] at d;cases d;rfl
   let(u,O,B):=r.get t;have m:ps[i]?=hG x:=by rw [fP (by lia)] at j;exact j
   exact{u,B,.inl {S.par x (a7 m),ou (S.nd.sublist (List.sublist_append_left _ _)) m O}}
  .rw [fS (zx6 F),dV,zzl] at d;rw [fS (by lia)] at j;have t:ws[i-vs.length]?=hG v:=by
    cases e:ws[i-vs.length]? with
    |none=>rw [e] at d;cases d
    |some a=>rw [e] at d;cases d;rfl
   rw [<-hl] at j;let(c,G):=C x (a7 j);let(u,B,z):=cells _ x c j G v t;exact{u,B,.inr {.inr (S.RE x (a7 j)),c,G,D c _ z}}
 .show _=(ps++ys).length;rw [c7,c7,zzl,zzl,hl,I]
def O1:Passes (dQ P w) (HS P w K mg base N qual scope f cd cl A outer s H E) E:=by
 rintro R σ H1 s1 e S I ⟨a,C,t,r,y,B,rfl,F⟩
 have nx:∀b:h9,b∉(HS P w K mg base N qual scope f cd cl A outer s H E).ex:=λb z=>nomatch (show b∈([]:List h9) from z);have fj:∀b o,s.heap.get? b=hG o->H b=hI->b∉fQ outer->B.get? b=hG o:=λb o q n c=>F.fj b o (I.base.keep b o q n c (nx b)) (I.base.free b o q n (nx b)) (cZ I rfl q c);have dP:∀b o,s.heap.get? b=hG o->b∉fQ outer->∃g,B.get? b=hG g:=λb o q c=>by let(D,d):=I.base.there b o q (nx b);exact F.dP b D d (cZ I rfl q c)
 refine wpAny_leaves_onW I.ok.frames rfl F.D0 λG j m=>{a,C,t,r,y,B,rfl,?_};have slot:∀b o,s.heap.get? b=hG o->H b=hI->b∈fQ outer->∃h,G.get? b=hG {o with slots:=h}:=λb o q n c=>by let(h,d):=I.base.slot b o q n c (nx b);let(L,i):=F.un.any d (I.base.free b o q n (nx b)) nofun;let(_,g,p,hd):=F.D0.2.2.1.mem (b:=b) (gS.mpr (let⟨v,M,O⟩:=gS.mp c;{v,.tail _ M,O}));rw [i] at p;cases p;let(k,Q):=m b _ i hd;exact⟨k,Q⟩
 refine{F.os.trans I.os,F.bare,F.aR,j,F.tn,F.tup.of_slots m,fj,dP,{λb o q n c Z=>j.1 _ _ (fj b o q n c),λb o q n c Z=>slot b o q n c,λb o q n Z=>?_,λb o q Z=>?_,λb xs q=>F.un.iY _ _ (I.base.iY _ _ q),λb o u q=>F.un.gC _ _ _ (I.base.gC _ _ _ q),λb ps q=>?_},F.ends}
 .let(h,d):=I.base.any q n (nx b);exact F.un.free b _ d (I.base.free b o q n (nx b)) nofun
 .by_cases c:b∈fQ outer
  .let(h,d):=slot b o q (I.ok.xG b c) c;exact{_,d}
  .let(g,d):=dP b o q c;exact{g,j.1 _ _ d}
 .let(m1,d):=I.base.iI b ps q;let(m2,i):=F.un.iI b _ d;exact{m1++m2,by rw [<-Array.append_assoc];exact i}
def yc{d:jm}{L M:hV}{j:h9}{oc:Obj}{p:Array hV}{ct:Tok}{ws:List V}{Z:kv}{t:TE}
 (S:sP ps ys scope) (O:cN k A) (B:hX P w K mg base A outer s H) (z:vA Z H (fQ outer) s.heap) (zb:∀b o,Z.lookup b=hG o->base.get? b=hI)
 (R:s.heap.get? f=hG (PySem.W.kla_obj (zu 4) qual d body scope cl L j M)) (T:s.heap.get? j=hG oc) (U:oc.data=.fields p) (X:p[1]?=hG (.str qual ct))
 (Y:bindArgs (PySem.W.kla_fn (zu 4) qual d body scope cl L (.ref j) M) {us,[]}=pure (ps.zip us)) (r:Vals vs us) (hl:vs.length=ps.length) (hw:ws.length=ys.length)
 (M6:∀y∈ys,∃c,cl.lookup y=hG c) (inj:∀x y c,cl.lookup x=hG c->cl.lookup y=hG c->x=y)
 (cz:∀x c,cl.lookup x=hG c->∃o v,Z.lookup c=hG o/\o.data=.cell v)
 (cells:∀(i:Nat) y c,ys[i]?=hG y->cl.lookup y=hG c->∀v,ws[i]?=hG v->∃u,RelV v u/\s.heap.IsCell c (hG u))
 (ht:PE (HS P w K mg base (ps++ys) qual scope f (.ref j) cl A outer s H (λC a H'=>(∀b o,Z.lookup b=hG o->H' b=hI)->E C a (aQ Z H'))) body t)
 (hq:t (vs.map hG++ws.map hG) H λv H'=>(∀b o,Z.lookup b=hG o->H' b=hI)->Q v (aQ Z H')):
 codeAny (ik P w) A (.call (.ref f) {us,[]}) (CR (dQ P w) outer P w (aQ Z H) s Q E) s:=by
 have D:s.heap.NoLimit:=B.mod.nolimit.keeps λb o e=>(B.bs b o e).1;refine PySem.W.kla_callFunE O.depth R rfl S.co S.gen rfl ⟨j,oc,p,ct,rfl,T,U,X⟩ ?_;rw [Y];refine bc (wpAny_newFunctionEnv S.Cs (λy hy=>S.par y.1 (List.of_mem_zip hy).1) (λm Qs F=>?_) S.kind);have g:∀b o,s.heap.get? b=hG o->m.get? b=hG o:=λb o e=>F.extBut b o (et (c8 e)) (ar _ e)
 refine{D.keeps g,?_};show codeAny _ _ (.expr body (PySem.W.envX qual scope (zz9 s) f (.ref j) cl)) _ _;have I:=vY (E:=λC a H'=>(∀b o,Z.lookup b=hG o->H' b=hI)->E C a (aQ Z H')) (cd:=.ref j) (f:=f) (qual:=qual) (tk:=s.toks+(ps.zip us).length) S B M6 inj r hl hw cells (λx c h=>by
  let(o,v,G,N):=cz x c h;exact{v,o,z.at_ c o G,N}) (λx c h=>by
  let(o,v,G,N):=cz x c h;exact z.no c o G) Qs g
 refine PySem.W.kla_codeExpr (wpAny_mono (ht [] _ _ H _ I hq) (λu s' hs=>?_) λe s' hs=>?_)
 .let(v,H',J,rv,q):=hs;exact CE.more z ⟨v,H',J.os,J.bare,J.base,J.aR,rv,q⟩
 .exact wpAny_mono hs (λ_ GR y=>dQ.more z y) λe' GR y=>dQ.more z y
end
def vD{p:Pos}{a b:Int}{c d:hV}:∀(l:List hV),TriplesOk l->codeAmong p (l++[rawInt a,rawInt b,c])=hG d->codeAmong p l=hG d\/d=c:=by
 intro l h e
 fun_induction TriplesOk l with
 |case1=>
  simp! [List.nil_append,codeAmong,rawInt] at e;split at e
  .cases e;exact .inr rfl
  .cases e
 |case2 i t j u x rest g=>
  simp! [List.cons_append,codeAmong] at e⊢;split at e
  .rename_i f;rw [if_pos f];exact .inl e
  .rename_i f;rw [if_neg f];exact g h e
 |case3 l k m=>exact h.elim
def AQ(mg:Str->Option hV)(base:i1):Prop:=∃bm o,mg "__builtins__"=hG (.ref bm)/\bm≠builtinsNs/\bm≠jf/\base.get? bm=hG o/\o.cls=.type "module"/\o.dict=hG builtinsNs/\o.data=.plain
abbrev iA(H:Hp)(P:h9)(a:Array hV)(b:h9)(oc:Obj)(f:h9)(fo:Obj):Hp:=upd (upd (upd H P (.hJ a)) b (.bw oc bO)) f (.bw fo bO)
section
variable{ae:kv}{s:hW}{c P c' f:h9}{ps rL:Array hV}{oc fo:Obj}
def Inv.lam{h':i1}{tk:Nat}(I:zv2 s)(g:H P=hG (.hJ ps))(i:∀b o,b≠P->s.heap.get? b=hG o->h'.get? b=hG o)(p:h'.get? P=hG (PySem.W.tabObj rL))(more:∃m,rL=ps++m)
 (h:H c'=hI/\(zz9 s)<=c'\/H c'=hG (.bw oc bO)) (C:h'.get? c'=hG oc) (r:(zz9 s)<=f) (D:h'.get? f=hG fo) (L:c'≠f):
 Inv X ae σ (iA H P rL c' oc f fo) {s with heap:=h',toks:=tk}:=by
 have fr:H f=hI:=I.aR.fresh r;have t:∀b u,H b=hG u->(∀q,u≠.hJ q)->b≠P:=λb u e n z=>by subst z;rw [g] at e;cases e;exact n _ rfl
 have w:∀b u,H b=hG u->b≠f:=λb u e z=>by subst z;rw [fr] at e;cases e
 have E:c'≠P:=λz=>by
  subst z;rcases h with⟨e,_⟩|e
  .rw [g] at e;cases e
  .rw [g] at e;cases e
 have F:f≠P:=λz=>by subst z;rw [g] at fr;cases fr
 have at_:∀b u,H b=hG u->(∀q,u≠.hJ q)->iA H P rL c' oc f fo b=hG u:=λb u e n=>by
  unfold iA;rw [af (w b u e)];by_cases a:b=c'
  .subst a;rw [aq];rcases h with⟨z,_⟩|z
   .rw [z] at e;cases e
   .rw [z] at e;exact e
  .rw [af a,af (t b u e n)];exact e
 have no:∀b o,s.heap.get? b=hG o->H b=hI->iA H P rL c' oc f fo b=hI:=λb o e n=>by
  have G:b≠f:=λz=>absurd (c8 e) (by rw [z];exact Nat.not_lt.mpr r);have K:b≠P:=λz=>by subst z;rw [g] at n;cases n
  have j:b≠c':=λz=>by
   rcases h with⟨_,y⟩|y
   .exact absurd (c8 e) (by rw [z];exact Nat.not_lt.mpr y)
   .rw [z,y] at n;cases n
  unfold iA;rw [af G,af j,af K];exact n
 have kp:∀b o,s.heap.get? b=hG o->H b=hI->h'.get? b=hG o:=λb o e n=>i b o (λz=>by subst z;rw [g] at n;cases n) e;refine I.un {λb o e n Z Z=>kp b o e n,λb o e n Z Z=>{o.slots,kp b o e n},λb o e n Z=>no b o e n,λb o e Z=>?_,λb xs e=>at_ b _ e (λZ z=>nomatch z),λb o u e=>at_ b _ e (λZ z=>nomatch z),λb qs e=>?_} λb u e=>?_
 .by_cases a:b=P
  .exact{_,by rw [a];exact p}
  .exact{o,i b o a e}
 .by_cases a:b=P
  .subst a;rw [g] at e;cases e;let(m,rfl):=more;exact{m,by unfold iA;rw [af (Ne.symm F),af (Ne.symm E),aq]}
  .have j:b≠c':=λz=>by
    subst z;rcases h with⟨y,_⟩|y
    .rw [y] at e;cases e
    .rw [y] at e;cases e
   exact{#[],by unfold iA;rw [af (w b _ e),af j,af a,e];simp}
 .unfold iA at e;by_cases A:b=f
  .subst A;rw [aq] at e;cases e;exact mS D
  .rw [af A] at e;by_cases B:b=c'
   .subst B;rw [aq] at e;cases e;exact mS C
   .rw [af B] at e;by_cases k:b=P
    .subst k;rw [aq] at e;cases e;exact p
    .rw [af k] at e;refine(I.aR b u e).fU (λd v hd q=>i d v ?_ q) (λd q=>at_ d _ q (λZ z=>nomatch z)) λd xs q=>at_ d _ q (λZ z=>nomatch z)
     rcases hd with hd|hd
     .rw [hd];exact k
     .exact t d _ hd (λZ z=>nomatch z)
def B9{R:h9->Obj->Prop}{a:jm}{d:iv}{cl:List (Str×h9)}{Q:ku}{E:ku}(I:zv2 s)(j:H P=hG (.hJ ps))(y:TriplesOk ps.toList)(N:X.env.code=.ref c)(C:PySem.W.CodeHd X.base c P)
 (Wv:AQ X.mg X.base) (O:closureFor d X.env=pure cl) (KD:defaultsOf a X.env=([],[]))
 (hit:∀i,codeAmong pos ps.toList=hG i->∃c' oc r t,i=.ref c'/\H c'=hG (.bw oc bO)/\R c' oc/\oc.data=.fields r/\r[1]?=hG (.str (X.env.qual++(zu 4)) t))
 (h:∀(f c':h9) (oc:Obj) (r:Array hV) (t:Tok) (B:hV) (rL:Array hV) (h':i1) (tk:Nat),H f=hI->(H c'=hI\/H c'=hG (.bw oc bO)/\R c' oc)->c'≠f->f≠P->c'≠P->oc.data=.fields r->r[1]?=hG (.str (X.env.qual++(zu 4)) t)->TriplesOk rL.toList->
  (∀p i,codeAmong p rL.toList=hG i->codeAmong p ps.toList=hG i\/i=.ref c')->(∃m,rL=ps++m)->
  Inv X ae σ (iA H P rL c' oc f (PySem.W.kla_obj (zu 4) (X.env.qual++(zu 4)) a body d cl ((X.mg (zu 35)).getD .none) c' B)) {s with heap:=h',toks:=tk}->Q (.ref f) {s with heap:=h',toks:=tk}):
 zx7 X (eval (.Lambda a body d pos) X.env) Q E s:=by
 have F:s.heap.get? P=hG (PySem.W.tabObj ps):=I.aR P _ j;have S:=I.ok.mod.glob.keeps I.bk;have WG:jf≠P:=λq=>by let(o,es,ep,e,_):=I.ok.mod.glob;have:=(I.bs _ _ e).2;rw [q,j] at this;cases this
 let(bm,ob,b1,b2,b3,T,b5,b6,b7):=Wv;have U:s.heap.BuiltinsAt X.mg P:={bm,ob,b1,b2,b3,(λq=>by have:=(I.bs _ _ T).2;rw [q,j] at this;cases this),I.bk _ _ T,b5,b6,b7}
 refine PySem.W.kla_eval KD ?_;cases hm:codeAmong pos ps.toList with
 |none=>
  refine PySem.W.kla_makeFunction (mg:=X.mg) O I.ok.glob S N (C.keeps I.bk) F y hm WG U λc' B h' tk hx G K Sf WZ=>?_;let(V,oc,vs,t,e2,L,hd,M):=Sf;cases e2;have D:H c'=hI:=I.aR.fresh G;have g:(zz9 s)<=h'.objs.size:=ee G (Nat.le_of_lt K);have k:H h'.objs.size=hI:=I.aR.fresh g
  refine h h'.objs.size c' oc vs t B _ _ tk k (.inl D) (et K) (λz=>by rw [z,j] at k;cases k) (λz=>by rw [z,j] at D;cases D) hd M ?_ ?_ {_,rfl}
   (I.lam j (λb o Y e=>ar _ (hx b o Y e)) (ar _ WZ) {_,rfl} (.inl ⟨D,G⟩) (ar _ L) g (en _ rfl) (et K))
  .rw [Array.toList_append];exact TriplesOk_snoc _ _ _ _ y
  .intro p i e;rw [Array.toList_append] at e;exact vD _ y e
 |some i=>
  let(c',oc,r,t,rfl,u,hR,hd,M):=hit i hm;refine PySem.W.kla_makeFunctionHit (mg:=X.mg) O I.ok.glob S N (C.keeps I.bk) F y hm U λB h' tk hk g=>?_;have k:H h'.objs.size=hI:=I.aR.fresh g;have AI:s.heap.get? c'=hG oc:=(I.aR c' _ u).1;have Z:c'≠h'.objs.size:=λz=>by rw [z,k] at u;cases u
  refine h h'.objs.size c' oc r t B ps _ tk k (.inr ⟨u,hR⟩) Z (λz=>by rw [z,j] at k;cases k) (λz=>by rw [z,j] at u;cases u) hd M y (λp i e=>.inl e) {#[],by simp}
   (I.lam j (λb o Y e=>ar _ (hk b o e)) (ar _ (hk _ _ F)) {#[],by simp} (.inr u) (ar _ (hk _ _ AI)) g (en _ rfl) Z)
end
structure A2(H Hw:Hp)(d:h9)(o:Obj)(aw:List (List Key×V)):Prop where
 at_:Hw d=hG (.bw o (.dT aw))
 dt:H d=hG (.dT aw)
 same:∀b u,H b=hG u->b≠d->Hw b=hG u
 new:∀b u,Hw b=hG u->H b=hI->∃ob,u=.bw ob bO
section
variable{Hw:Hp}{d:h9}{aw:List (List Key×V)}{fs:List h9}{h':i1}
def A2.back(z:A2 H Hw d o aw)(u:Un fs [] Hw Hw h h')(k:eY P w Hw h)(g:eY P w Hw h'):Un fs [] H H h h'/\eY P w H h'/\h'.get? d=hG o:=by
 have fz:∀b ob,Hw b=hG (.bw ob bO)->∀o,h.get? b=hG o->h'.get? b=hG o:=λb ob e o q=>by have m:h.get? b=hG ob:=(k b _ e).1;have p:h'.get? b=hG ob:=(g b _ e).1;rw [m] at q;cases q;exact p
 have st:∀c v,Hw c=hG v->(∀ob u,v≠.bw ob u)->H c=hG v:=λc v e n=>by
  cases q:H c with
  |none=>let(ob,rfl):=z.new c v e q;exact absurd rfl (n ob _)|some u=>
   by_cases j:c=d
   .subst j;rw [z.at_] at e;cases e;exact absurd rfl (n _ _)
   .rw [z.same c u q j] at e;exact e
 refine{{λb ob e n a f=>?_,λb ob e n a f=>?_,λb ob e n f=>n,λb ob e f=>u.there b ob e f,λZ Z e=>e,λZ Z Z e=>e,λb s e=>{#[],zx6 e}},λb v e=>?_,(g d _ z.at_).1}
 .cases q:Hw b with
  |none=>exact u.keep b ob e q a f|some v=>let(i,rfl):=z.new b v q n;exact fz b i q ob e
 .cases q:Hw b with
  |none=>exact u.slot b ob e q a f|some v=>let(i,rfl):=z.new b v q n;exact{ob.slots,fz b i q ob e}
 .have go:∀v,bZ P w Hw h' b v->bZ P w H h' b v:=λv y=>y.fU (λZ Z Z r=>r) (λc r=>st c _ r (λZ Z z=>nomatch z)) λc xs r=>st c _ r (λZ Z z=>nomatch z);by_cases a:b=d
  .subst a;rw [z.dt] at e;cases e;exact go _ (g b _ z.at_).2
  .exact go v (g b v (z.same b v e a))
end
structure vp(p y:Str)(params:jm)(body:ia)(scope:iv):Prop where
 body:∃q1 q2 q3 q4 q5 j,body=.Subscript (.Subscript (.Name y q1) (.Name p q2) q3) (.Constant (.int 0) j q4) q5
 sc:sP [p] [y] scope
 d1:(p==(zu 25:Str))=hU
 d2:(p==("__classdict__":Str))=hU
 d3:(y==(zu 25:Str))=hU
 d4:(y==("__classdict__":Str))=hU
section
variable{ae:kv}{s:hW}{d f c c' b:h9}{oc:Obj}{aw:List (List Key×V)}{p y:Str}{params:jm}{scope:iv}{pm fW:hV}{dc:Array hV}{ct:Tok}{k:List Key}{q:h9}{n:Int}{r:List V}{E:ku}
def B2(hA:A=X.A.in1)(L:vp p y params body scope)(hr:cN (kk+1) X.A)(I:zv2 s)(hd:H d=hG (.dT aw))(N:s.heap.get? d=hG o)
 (fg:X.env.cells.lookup y=hG c) (Ol:X.s₀.heap.objs.size<=c) (WA:s.heap.IsCell c (hG (.ref d)))
 (hf:H f=hG (.bw (PySem.W.kla_obj (zu 4) qual params body scope [(y,c)] pm c' fW) bO)) (iu:H c'=hG (.bw oc bO)) (vR:oc.data=.fields dc) (Ig:dc[1]?=hG (.str qual ct))
 (M:∀u,bindArgs (PySem.W.kla_fn (zu 4) qual params body scope [(y,c)] pm (.ref c') fW) {[u],[]}=pure ([p].zip [u]))
 (Fn:H b=hG (.tup (k.map kV))) (hv:iZ aw k=hG (.ref q)) (S:fC X.K H q (.int n::r)):
 ie (ik X.prog X.w) A (call (.ref f) [.ref b]) (λu s'=>(∃t,u=.int n t)/\Inv X ae σ H s'/\s'.heap.get? d=hG o) E s:=by
 subst hA;let(q1,q2,q3,q4,q5,j,rfl):=L.body;let(h,g1,g2):=id WA;have O:H c=hI:=I.i6 y c fg;let(z0,lo,xs,T,U,es,ep,h1,h2,h3,V,h5):=(show bZ X.prog X.w H s.heap d (.dT aw) from I.aR d _ hd);rw [N] at h1;cases h1;have P:Inv X ae σ (upd H d (.bw o (.dT aw))) s:=by refine jZ (h':=s.heap) (t':=s.toks) I (by rw [hd];exact True.intro) {rfl,λ_ _=>rfl} ⟨o,N⟩ {N,z0,lo,xs,?_,o,es,ep,N,h2,h3,V,h5};exact KT.keeps (H:=H) T λc ys ec=>by rw [af (kc ec hd nofun)];exact ec
 have W9:c≠d:=λz=>by rw [z,hd] at O;cases O
 have Xb:f≠d:=kc hf hd nofun;have SN:c'≠d:=kc iu hd nofun
 have Hy:vA [(c,h)] (upd H d (.bw o (.dT aw))) (fQ X.stack) s.heap:=by
  have Y:∀b o,List.lookup b [(c,h)]=hG o->b=c/\o=h:=λb o e=>by
   rw [hB] at e;cases D:b==c with
   |true=>rw [D] at e;cases e;exact{zzy.mp D,rfl}
   |false=>rw [D] at e;cases e
  refine{λb o e=>?_,λb o e=>?_,λb o e=>?_}
  .let(rfl,rfl):=Y b o e;exact g1
  .let(rfl,rfl):=Y b o e;rw [af W9];exact O
  .let(rfl,rfl):=Y b o e
   intro RQ;rcases e9.mp (I.ju b RQ) with z|z
   .exact I.Eu y b fg z
   .let(_,U,V,_):=I.ok.gZ.mem z;exact absurd (c8 V) (Nat.not_lt.mpr Ol)
 have zc:List.lookup c [(c,h)]=hG h:=by simp
 have R:∀x m,List.lookup x [(y,c)]=hG m->x=y/\m=c:=λx m e=>by
  rw [hB] at e;cases hx:x==y with
  |true=>rw [hx] at e;cases e;exact{zzy.mp hx,rfl}
  |false=>rw [hx] at e;cases e
 have zb:∀b o,List.lookup b [(c,h)]=hG o->X.base.get? b=hI:=λb o e=>by
  rw [hB] at e;cases D:b==c with
  |true=>
   have:=zzy.mp D;subst this
   cases G:X.base.get? b with
   |none=>rfl|some U=>exact absurd (c8 (I.ok.bs b U G).1) (Nat.not_lt.mpr Ol)
  |false=>rw [D] at e;cases e
 have WT:fC X.K (upd H d (.bw o (.dT aw))) q (.int n::r):=fC.qW S (λb M=>af M) hd;have WK:upd H d (.bw o (.dT aw)) b=hG (.tup (k.map kV)):=by rw [af (kc Fn hd nofun)];exact Fn
 have wd:A2 H (aQ [(c,h)] (upd H d (.bw o (.dT aw)))) d o aw:=by
  have nz:∀b u,H b=hG u->List.lookup b [(c,h)]=hI:=λb u e=>by
   rw [hB];cases D:b==c with
   |true=>have:=zzy.mp D;subst this;rw [O] at e;cases e
   |false=>rfl
  refine{by rw [ai (nz d _ hd),aq],hd,λb u e M=>by rw [ai (nz b u e),af M];exact e,λb u e n=>?_}
  cases hz:List.lookup b [(c,h)] with
  |some ob=>rw [bg hz] at e;cases e;exact{_,rfl}
  |none=>
   rw [ai hz] at e;have Wu:b≠d:=λz=>by rw [z,hd] at n;cases n
   rw [af Wu,n] at e;cases e
 refine wpAny_call (codeAny_mono (yc (k:=kk) (E:=λ_ _ _=>False) (Q:=λv H'=>v=.int n/\H'=aQ [(c,h)] (upd H d (.bw o (.dT aw)))) (Z:=[(c,h)]) (ws:=[.ref d]) (vs:=[.ref b]) (us:=[.ref b])
  (t:=MB (O9 X.K) (IQ (Hm 1) (Hm 0)) (tC (.int 0))) L.sc hr.in1 P.qS.in1 Hy zb ?fo ?co vR Ig (M _) (.cons rfl .nil) rfl rfl ?M6 ?inj ?cz ?cells ?ht ?S) λrr s' Ii=>?_)
 case fo=>have z:upd H d (.bw o (.dT aw)) f=H f:=af Xb;exact(P.aR f _ (z.trans hf)).1
 case co=>
  have z:upd H d (.bw o (.dT aw)) c'=hG (.bw oc bO):=by rw [af SN];exact iu
  exact(P.aR c' _ z).1
 case M6=>intro G KR;exact{c,by rw [eM.mp KR];simp}
 case inj=>intro x G m e1 e2;rw [(R x m e1).1,(R G m e2).1]
 case cz=>intro x m e;let(rfl,rfl):=R x m e;exact{h,_,zc,g2}
 case cells=>
  intro i G m e1 e2 v e3;let(rfl,rfl):=R G m e2
  cases i with
  |zero=>cases e3;exact{.ref d,rfl,h,g1,g2}
  |succ i=>cases e3
 case ht=>refine Iz B0 (Gu ?_ (iE (i:=1) rfl (.inr (.inr (L.sc.RE y (by simp)))) L.d3 L.d4) (iE (i:=0) rfl (.inl (L.sc.par p (by simp))) L.d1 L.d2) λ_ _=>rfl) rH λ_ _=>rfl;have:=hr.un;show X.A.units+1+3+1<cLine;lia
 case S=>
  refine{_,rfl,_,rfl,d,.ref q,rfl,?_,?_}
  .exact .inr {aw,k,b,.inr ⟨o,aq⟩,rfl,WK,hv.symm}
  .exact{q,.int n::r,0,.int n,rfl,rfl,WT,by simp [vF,K4],λ_=>⟨rfl,rfl⟩}
 .cases rr with
  |error e=>let(a,C,t,vs,H',B,e1,F):=Ii;exact(F.ends).elim|ok fl=>
   cases fl with
   |ret u=>let(v,H',os,bare,un,aR,rv,rfl,rfl):=Ii;let(t,rfl):=rv;let(u1,k1,Jl):=wd.back un (Hy.aR P.aR) aR;let(hh,g,dr,tk,os'):=s';obtain rfl:os'=s.os:=os;exact{⟨t,rfl⟩,I.call (h':=hh) (g':=g) (d':=dr) (t':=tk) (ch:=[]) u1 k1 bare (λb z=>absurd z (by simp)),Jl}|_=>exact Ii.elim
end
structure KM(X:Cx)(σ:St)(H:Hp)(kk:Nat)(d f:h9)(aw:List (List Key×V))(cf:Nat->Int):Prop where
 room:cN (kk+1) X.A
 hd:X.A.handled=hI
 dt:H d=hG (.dT aw)
 lam:∃(p y:Str) (params:jm) (body:ia) (scope:iv) (qual:Str) (c c':h9) (oc:Obj) (dc:Array hV) (ct:Tok) (pm fW:hV) (iy:Nat),vp p y params body scope/\X.env.cells.lookup y=hG c/\X.s₀.heap.objs.size<=c/\H f=hG (.bw (PySem.W.kla_obj (zu 4) qual params body scope [(y,c)] pm c' fW) bO)/\
  H c'=hG (.bw oc bO)/\oc.data=.fields dc/\dc[1]?=hG (.str qual ct)/\(∀u,bindArgs (PySem.W.kla_fn (zu 4) qual params body scope [(y,c)] pm (.ref c') fW) {[u],[]}=pure ([p].zip [u]))/\
  X.N[iy]?=hG y/\σ[iy]?=hG (hG (V.ref d))/\X.env.scope.names.lookup y=hG .cell
 cost:∀(i:Nat) k v,aw[i]?=hG (k,v)->∃q r,v=V.ref q/\fC X.K H q (.int (cf i)::r)
def Hv{a:List (List Key×V)}:∀{i:Nat} {k:List Key} {v:V},(a.map (·.1)).Nodup->a[i]?=hG (k,v)->iZ a k=hG v:=by
 induction a with
 |nil=>intro i k v _ h;simp at h|cons x r b=>
  intro i k v nd h;rw [a9,List.nodup_cons] at nd;cases i with
  |zero=>simp at h;subst h;exact iK rfl|succ i=>simp at h;rw [iJ λe=>nd.1 (e▸gI.mpr {(k,v),a7 h,rfl})];exact b nd.2 h
section
variable{ae:kv}{s:hW}{d f it S:h9}{es:Array DictEntry}{ep:Nat}{aw:List (List Key×V)}{cf:Nat->Int}{R:Result->hW->Prop}
def ES(I:zv2 s)(e:H d=hG (.dT aw)):(d==sysModules)=hU/\(aw.map (·.1)).Nodup/\∃o es ep,s.heap.get? d=hG o/\o.ExactDict/\o.data=.dict es ep/\es.size=aw.length/\∀(i:Nat) (h:i<es.size),∃b k v,es[i].key=.ref b/\aw[i]?=hG (k,v)/\H b=hG (.tup (k.map kV)):=by let(a,nd,o,es,ep,c,g,j,hl,hk):=HX (I.aR d _ e);exact{a,nd,o,es,ep,c,g,j,hl,λi m=>let⟨b,k,v,e1,p,q,_⟩:=hk i m;⟨b,k,v,e1,p,q⟩}
def gV.pin{b:h9}{ob:Obj}(h:gV X ae H b)(e:s.heap.get? b=hG ob)(n:∀v,ob.data≠.cell v):s.heap.get? b=hG ob/\H b=hI/\b≠X.env.locals/\b∉X.fs/\∀v,ob.data≠.cell v:=⟨e,h.1,h.2.1,h.2.2.1,n⟩
def B6(M:KM X σ H kk d f aw cf)(I:zv2 s)(N:gV X ae H it)(O:gV X ae H S)(P:s.heap.get? d=hG o){e g:Obj}(T:s.heap.get? it=hG e)(U:∀v,e.data≠.cell v)(W:s.heap.get? S=hG g)(Y:∀v,g.data≠.cell v)
 (nd:(aw.map (·.1)).Nodup) {i:Nat} {k:List Key}  {b:h9} (hk:aw[i]?=hG (k,v)) (Z:H b=hG (.tup (k.map kV))) {E:ku} {Q:ku}
 (h:∀t s',Inv X ae σ H s'->s'.heap.get? d=hG o->s'.heap.get? it=hG e->s'.heap.get? S=hG g->Q (.int (cf i) t) s'):ie (ik X.prog X.w) X.A.in1 (call (.ref f) [.ref b]) Q E s:=by
 let(p,y,C,body,D,F,c,c',oc,dc,ct,pm,fW,iy,L,G,l2,l3,l4,l5,l6,l7,l8,l9,j):=M.lam;let(q,r,rfl,hq):=M.cost i k v hk
 have I1:Inv X ((it,e)::(S,g)::ae) σ H s:=by
  refine I.iO λp a=>?_
  rcases e9.mp a with rfl|a
  .exact N.pin T U
  .rcases e9.mp a with rfl|a
   .exact O.pin W Y
   .exact I.pin p (d0 _ a)
 have cell:s.heap.IsCell c (hG (.ref d)):=by
  let(m,_,B):=I.loc;let(u,ru,lk):=B iy y (.ref d) l8 l9 (.inr (.inl j))
  cases(show u=hV.ref d from ru);rcases lk with⟨z,_⟩|⟨_,c2,lJ,z⟩
  .have K:X.env.scope.names.lookup y=hG .local:=z;rw [j] at K;cases K
  .rw [G] at lJ;cases lJ;exact z
 refine wpAny_mono (B2 (kk:=kk) rfl L M.room I1 M.dt P G l2 cell l3 l4 l5 l6 l7 Z (Hv nd hk) hq) (λu s' hu=>?_) λ_ _ z=>z;let((t,rfl),J,hd):=hu;refine h t s' (J.iO λp a=>J.pin p (d0 _ (.tail _ (.tail _ a)))) hd (J.pin (it,e) (d0 _ (.head _))).1 (J.pin (S,g) (d0 _ (.tail _ (.head _)))).1
def yD{c:Nat}{xs ys:Array hV}(e:h.get? S=hG (seqObj "list" xs c)):∃a,(h.update S (Obj.mapSeq λZ=>ys)).get? S=hG (seqObj "list" ys a):={_,get?_update_seq e λZ=>ys}
def nO{xs:Array hV}{c:Nat}:∀v,(seqObj "list" xs c).data≠.cell v:=λv z=>nomatch z
def Cn(M:KM X σ H kk d f aw cf)(hh:X.A.handled=hI)(hd:o.data=.dict es ep)(hl:es.size=aw.length)(Fo:∀(i:Nat) (h:i<es.size),∃b k v,es[i].key=.ref b/\aw[i]?=hG (k,v)/\H b=hG (.tup (k.map kV)))(nd:(aw.map (·.1)).Nodup)
 (g:gV X ae H it) (m:gV X ae H S) (nS:S≠it) (hR:∀(i:Nat) (h:i<es.size) s',(∀j,j<es.size->cf i<=cf j/\(j<i->cf i<cf j))->Inv X ae σ H s'->R (.ok (.ret es[i].key)) s'):
 ∀(r j i:Nat) (s:hW) (t:Tok) (c:Nat) (D:i<es.size),es.size-(j+1)=r->j+1<=es.size->zv2 s->s.heap.get? d=hG o->s.heap.IsKeyIter it d (j+1) es.size ep->s.heap.get? S=hG (seqObj "list" #[es[i].key,.int (cf i) t] c)->i<=j->(∀p,p<=j->cf i<=cf p/\(p<i->cf i<cf p))->
  codeAny (ik X.prog X.w) X.A (.builtin "min.loop" {[.ref it,.ref f,.ref S],[]}) R s:=by
 have q:(toString "min"++toString ".loop":String)="min.loop":=by decide
 have SO:S≠d:=λz=>by have:=m.1;rw [z,M.dt] at this;cases this
 have SQ:it≠d:=λz=>by have:=g.1;rw [z,M.dt] at this;cases this
 intro r
 induction r with
 |zero=>intro j i s t c D hr hj I E st B G a;refine codeAny_builtin PySem.F.entry_min_loop ?_;rw [hF PySem.F.plain_min_loop _];show ie _ X.A.in1 (seqItems? (.ref S)>>=λz=>_) _ _ _;refine ak (wpAny_seqItems B rfl ?_);show ie _ X.A.in1 (tryCatch (pyNext (.ref it)) _>>=λz=>_) _ _ _;refine ak (wpAny_tryCatch (BR hh st E hd (by lia) λh' U=>?_));have K:=U S _ nS B;have L:=I.turned (h':=h') (t':=s.toks) (λb o u e=>U b o u e) g.1 g.2.1 g.2.2.2.1 g.2.2.2.2.1 g.2.2.2.2.2;show ie _ X.A.in1 (updateSeq S (λ_=>#[])>>=λz=>_) _ _ _;refine ak (wpAny_updateSeq K rfl (ak (wpAny_letGo (bc ?_))));have y:=gq h' S (Obj.mapSeq λ_=>(#[]:Array hV));exact hR i D _ (λp V=>a p (by lia)) (L.turned (t':=s.toks) (λb o u e=>(y.2 b u).trans e) m.1 m.2.1 m.2.2.2.1 m.2.2.2.2.1 m.2.2.2.2.2)|succ r W=>
  intro j i s t c D hr hj I E st B G a;have C:j+1<es.size:=by lia
  refine codeAny_builtin PySem.F.entry_min_loop ?_;rw [hF PySem.F.plain_min_loop _];show ie _ X.A.in1 (seqItems? (.ref S)>>=λz=>_) _ _ _;refine ak (wpAny_seqItems B rfl ?_);show ie _ X.A.in1 (tryCatch (pyNext (.ref it)) _>>=λz=>_) _ _ _;refine ak (wpAny_tryCatch (rg st E hd C λh' qo N=>?_));have K:=(N.2 S nS).trans B;have kF:=(N.2 d (Ne.symm SQ)).trans E;have L:=I.turned (h':=h') (t':=s.toks) (λb o u e=>(N.2 b u).trans e) g.1 g.2.1 g.2.2.2.1 g.2.2.2.2.1 g.2.2.2.2.2;let(Y,gi,Z,O):=id qo;let(b,k,v,e1,e2,e3):=Fo (j+1) C;rw [e1];show ie _ X.A.in1 (tryCatch (holding [hV.ref b] (call (.ref f) [hV.ref b])) _>>=λz=>_) _ _ _;refine ak (wpAny_tryCatch (wpAny_holding (B6 M L g m kF gi (λv z=>by rw [O] at z;cases z) K nO nd e2 e3 λt2 Q I2 xU M0 T=>?_)));have Ef:Q.heap.IsKeyIter it d (j+1+1) es.size ep:=⟨Y,M0,Z,O⟩;show ie _ X.A.in1 (tryCatch (holding [hV.ref b,.int (cf (j+1)) t2] (richCompare .Lt (.int (cf (j+1)) t2) (.int (cf i) t)>>=λz=>_)) _>>=λz=>_) _ _ _;refine ak (wpAny_tryCatch (wpAny_holding (ak (CmpOf.ints_lt (prog:=X.prog) (w:=X.w) (A:=X.A.in1) (P:=λi v=>∃t,v=.int (cf i) t) cf (λi v h=>h) (j+1) i _ _ _ _ _ ⟨t2,rfl⟩ ⟨t,rfl⟩ ?_))));refine ak (wpAny_holding (wpAny_truthy_bool (ak (wpAny_letGo (bc ?_)))));by_cases oT:cf (j+1)<cf i
  .let(c2,lJ):=yD (ys:=#[hV.ref b,.int (cf (j+1)) t2]) T;have y:=gq Q.heap S (Obj.mapSeq λ_=>#[hV.ref b,.int (cf (j+1)) t2]);simp! [oT,decide_true,if_true];refine ak (wpAny_updateSeq T rfl (ak (wpAny_letGo ?_)));rw [q];rw [<-e1] at lJ y⊢;refine bc {plainId_quiet PySem.F.plain_min_loop _,W (j+1) (j+1) _ t2 c2 C (by lia) C (I2.turned (t':=Q.toks) (λb o u e=>(y.2 b u).trans e) m.1 m.2.1 m.2.2.2.1 m.2.2.2.2.1 m.2.2.2.2.2) ?_ ?_ ?_ (a8 _) λp V=>?_}
   .exact(y.2 d (Ne.symm SO)).trans xU
   .exact{Y,(y.2 it (Ne.symm nS)).trans M0,Z,O}
   .exact lJ
   .by_cases e:p=j+1
    .subst e;exact{by lia,λ_=>by lia}
    .have:=a p (by lia);exact{by lia,λ_=>by lia}
  .simp! [oT,decide_false,eH,if_false];refine ak (wpAny_letGo ?_);rw [q];refine bc {plainId_quiet PySem.F.plain_min_loop _,W (j+1) i _ t c D (by lia) C I2 xU Ef T (by lia) λp V=>?_};by_cases e:p=j+1
   .subst e;exact{by lia,λ_=>by lia}
   .exact a p (by lia)
def zg(M:KM X σ H kk d f aw cf)(fw:0<aw.length)(I:zv2 s)
 (q:∀i k v b,aw[i]?=hG (k,v)->H b=hG (.tup (k.map kV))->(∀j,j<aw.length->cf i<=cf j/\(j<i->cf i<cf j))->Q (.ref b) H):zx7 X (call (.builtin "min") [.ref d] [(Str.ofString "key",.ref f)]) (EP X ae σ Q) X.xe s:=by
 have c:(toString "min"++toString ".loop":String)="min.loop":=by decide
 have T:X.A.handled=hI:=M.hd;let(U,nd,o,es,ep,u,V,hd,hl,y):=ES I M.dt;have fin:∀(i:Nat) (h:i<es.size) B,(∀j,j<es.size->cf i<=cf j/\(j<i->cf i<cf j))->Inv X ae σ H B->EP X ae σ Q es[i].key B:=λi h B b J=>by let(a,k,v,e1,C,D):=y i h;rw [e1];exact{.ref a,H,J,rfl,q i k v a C D λj hj=>b j (by lia)}
 refine kmk_tree PySem.F.kind_min PySem.F.plain_min PySem.F.entry_min (kmk_min_key _ _) ?_;show ie _ X.A.in1 (jj.Builtins.bindParams "min" ["key","default"] 0 {[],[(Str.ofString "key",.ref f)]}>>=λz=>_) _ _ s;refine ak (wpAny_of_eq (show jj.Builtins.bindParams "min" ["key","default"] 0 {[],[(Str.ofString "key",.ref f)]}=pure [hG (.ref f),hI] from rfl) (ak (bc ?_)));refine ak (xT U u V hd (ak (wpAny_newList ?_ (Nat.zero_le _))));rw [c];generalize hit:(zz9 s)=it;generalize p:(s.heap.push {cls:=.type (zu 10),data:=.fields #[.ref d,.int 0 0,.int es.size 0,.int ep 0]}).objs.size=S;have eS:S=it+1:=by rw [<-p,<-hit];exact size_push' ..
 have nS:S≠it:=by lia
 have K:(zz9 s)<=S:=by lia
 have g:gV X ae H it:=by rw [<-hit];exact I.oK (a8 _) (I.aR.fresh (a8 _))
 have m:gV X ae H S:=I.oK K (I.aR.fresh K);have keep:∀b ob,s.heap.get? b=hG ob->((s.heap.push {cls:=.type (zu 10),data:=.fields #[.ref d,.int 0 0,.int es.size 0,.int ep 0]}).push (seqObj "list" #[] 0)).get? b=hG ob:=λb ob e=>ar _ (ar _ e);have W:=I.kept (t':=s.toks) keep;have Y:((s.heap.push {cls:=.type (zu 10),data:=.fields #[.ref d,.int 0 0,.int es.size 0,.int ep 0]}).push (seqObj "list" #[] 0)).get? it=hG {cls:=.type (zu 10),data:=.fields #[.ref d,.int 0 0,.int es.size 0,.int ep 0]}:=by rw [<-hit];exact ar _ (en _ rfl)
 have L:((s.heap.push {cls:=.type (zu 10),data:=.fields #[.ref d,.int 0 0,.int es.size 0,.int ep 0]}).push (seqObj "list" #[] 0)).get? S=hG (seqObj "list" #[] 0):=by rw [<-p];exact en _ rfl
 have Z:S≠d:=λz=>by have:=m.1;rw [z,M.dt] at this;cases this
 have SQ:it≠d:=λz=>by have:=g.1;rw [z,M.dt] at this;cases this
 refine bc {plainId_quiet PySem.F.plain_min_loop _,codeAny_builtin PySem.F.entry_min_loop ?_};rw [hF PySem.F.plain_min_loop _];show ie _ X.A.in1 (seqItems? (.ref S)>>=λz=>_) _ _ _;refine ak (wpAny_seqItems L rfl ?_);show ie _ X.A.in1 (tryCatch (pyNext (.ref it)) _>>=λz=>_) _ _ _;have r:0<es.size:=by lia
 refine ak (wpAny_tryCatch (rg (i:=0) {_,Y,rfl,rfl} (keep _ _ u) hd r λh' qo E=>?_));have Fg:=(E.2 S nS).trans L;have kF:=(E.2 d (Ne.symm SQ)).trans (keep _ _ u);have I2:=W.turned (h':=h') (t':=s.toks) (λb o G e=>(E.2 b G).trans e) g.1 g.2.1 g.2.2.2.1 g.2.2.2.2.1 g.2.2.2.2.2;let(oi,gi,gc,N):=id qo;let(b,k,v,e1,C,D):=y 0 r;rw [e1];show ie _ X.A.in1 (tryCatch (holding [hV.ref b] (call (.ref f) [hV.ref b])) _>>=λz=>_) _ _ _;refine ak (wpAny_tryCatch (wpAny_holding (B6 M I2 g m kF gi (λv z=>by rw [N] at z;cases z) Fg nO nd C D λt2 O I3 xU M0 P=>?_)));let(c2,lJ):=yD (ys:=#[hV.ref b,.int (cf 0) t2]) P;have t:=gq O.heap S (Obj.mapSeq λ_=>#[hV.ref b,.int (cf 0) t2]);show ie _ X.A.in1 (updateSeq S (λ_=>#[hV.ref b,.int (cf 0) t2])>>=λz=>_) _ _ _;refine ak (wpAny_updateSeq P rfl ?_);rw [c];rw [<-e1] at lJ t⊢;refine bc {plainId_quiet PySem.F.plain_min_loop _,Cn M T hd hl y nd g m nS fin _ 0 0 _ t2 c2 r rfl r (I3.turned (t':=O.toks) (λb o G e=>(t.2 b G).trans e) m.1 m.2.1 m.2.2.2.1 m.2.2.2.2.1 m.2.2.2.2.2) ((t.2 d (Ne.symm Z)).trans xU) {oi,(t.2 it (Ne.symm nS)).trans M0,gc,N} lJ (a8 _) λj' RZ=>?_};have e:j'=0:=by lia
 subst e;exact{by lia,λh=>absurd h (Nat.lt_irrefl _)}
end
end L2
namespace L2
open PySem.Spec PyProof.Rows PySem.W
end L2
namespace L2
open PySem.Spec PyProof.Rows
open PySem.AutoSeq1 (wpAny_loadPart')
theorem gh:fillsNumberSlot (.type "tuple") "mul"=pure hU:=
 PySem.fillsNumberSlot_seq (id:="tuple.__mul__") (r:=hG (.builtin "tuple.__rmul__")) PySem.F.slot_tuple_mul.lookup (by decide+kernel) PySem.F.slot_tuple_rmul.lookup (by decide+kernel)
def ko:seqRepeat? (.type "tuple")=pure (hG (.builtin "tuple.__mul__")):=by unfold seqRepeat?;rw [PySem.seqSlot_of (T:="tuple") (name:="__mul__") (id:="tuple.__mul__") PySem.F.slot_tuple_mul.lookup (by decide+kernel),PySem.seqSlot_of (T:="tuple") (name:="__rmul__") (id:="tuple.__rmul__") PySem.F.slot_tuple_rmul.lookup (by decide+kernel)];rfl
theorem iw(a:Int)(t:Tok)(l:h9)(b:Array hV)(n:Nat)(dd:Option h9)(c:Array (Option hV)):
 Meets (jj.«int.__rmul__» {[.int a t,.ref l],[]}) (λZ R s=>s.heap.get? l=hG {cls:=.type "tuple",dict:=dd,data:=.seq b n,slots:=c}/\R (.ok (.ret hV.notImplemented)) s):=
 .of_wp λprog w A R s h=>by let(e,g,d,f,os):=s;let(hl,h):=h;wp_walk;exact{_,rfl,h}
def wQ(l:h9)(a:Array hV)(n:Nat)(dd:Option h9)(i:Array (Option hV))(x:Int)(u:Tok)(b:1<x)(c:x<1000)(j:0<a.size)(o:a.size<1000):
 Meets (jj.«tuple.__mul__» {[.ref l,.int x u],[]}) (λZ R s=>s.heap.get? l=hG {cls:=.type "tuple",dict:=dd,data:=.seq a n,slots:=i}/\
  R (.ok (.ret (hV.ref (zz9 s)))) {s with heap:=s.heap.push {cls:=hV.type "tuple",data:=Data.seq (List.foldl (λb c=>b++c) #[] (kq x.toNat a))},toks:=s.toks}):=
 .of_wp λprog w A R s h=>by
  let(p,g,d,q,os):=s;let(hl,h):=h;have r:=PySem.AutoSeq1.idx_int;have t:=PySem.AutoSeq1.sub_tuple_tuple
  have f:a.isEmpty=hU:=by
   cases h:a.isEmpty with
   |false=>rfl|true=>have:=Array.isEmpty_iff.mp h;subst this;exact absurd j (by simp)
  wp_walk using wpAny_loadPart' hl
  refine wpAny_ite_false (zz0 (by rw [gd,zzN,zzN];lia)) ?_;dsimp only
  wp_walk using wpAny_loadPart' hl
  refine wpAny_ite_false (zz0 (by rw [f,Bool.false_or,zzy];lia)) ?_;refine wpAny_ite_false (zz0 (by rw [f,Bool.or_false,zzN];lia)) ?_;have hm:(a.size:Int)*x<=1000*1000:=by have e1:(a.size:Int)*x<=1000*x:=Int.mul_le_mul_of_nonneg_right (by lia) (by lia);lia
  have y:a.size*x.toNat<=1000*1000:=Nat.mul_le_mul (by lia) (by lia);have z:(1000000:Nat)<=sizeLine:=by decide
  have uh:(List.foldl (λb c=>b++c) #[] (kq x.toNat a)).size<=sizeLine:=by
   have e:=foldl_rep a.toList x.toNat [];have k:(a.toList).toArray=a:=by simp
   rw [k,List.nil_append] at e;have m:(List.foldl (λb c=>b++c) #[] (kq x.toNat a))=(kq x.toNat a.toList).flatten.toArray:=e;rw [m,a0,len_rep,ey,Nat.mul_comm];lia
  refine wpAny_ite_false (zz0 (by lia)) ?_;refine wpAny_ite_false (zz0 (by unfold jj.Tuple.tupleTooMany;simp;lia)) ?_
  wp_walk
  exact{_,rfl,h}
def Gj:gB X (binaryOp .Mult) (λx y H Q=>∃a n xs,x=.ref a/\y=.int n/\fC X.K H a xs/\1<n/\n<1000/\0<xs.length/\xs.length<1000/\∀p,H p=hI->Q (.ref p) (upd H p (.tup (kq n.toNat xs).flatten))):=by
 intro M s N H x y v u Q I j m h;let(a,n,xs,rfl,rfl,w,z,A,O,P,q):=h;cases j;let(t,rfl):=m;let(c,r,B,_):=I.tuple w;have hl:=r.length;let((cls,e,f,g),d,i,k,hd):=id B;simp only at i hd;subst i hd;have C:List.foldl (λD E=>D++E) #[] (kq n.toNat c.toArray)=(kq n.toNat c).flatten.toArray:=by have:=foldl_rep c n.toNat [];rw [List.nil_append] at this;exact this
 refine wpAny_binaryOp_repeat_ref (T:="tuple") (U:="int") (by decide) {_,d,rfl} (λG=>typeIs_int G n t) gh PySem.F.fills_int_mul PySem.F.slot_int_rmul ko PySem.F.slot_int_index.lookup
  (call_meets PySem.F.slot_int_rmul (typeIs_int s n t) PySem.F.entry_int_rmul (PySem.F.args_int_rmul_2 _ _) (iw n t a c.toArray k e g)
   {d,rfl,{_,d,rfl},call_meets PySem.F.slot_tuple_mul {_,d,rfl} PySem.F.entry_tuple_mul (PySem.F.args_tuple_mul_2 _ _) (wQ a c.toArray k e g n t z A (by rw [a0];lia) (by rw [a0];lia)) {d,?_}})
 rw [C];have L:(kq n.toNat xs).flatten.length<=sizeLine:=by
  rw [len_rep];have:n.toNat*xs.length<=1000*1000:=Nat.mul_le_mul (by lia) (by lia);have R:(1000000:Nat)<=sizeLine:=by decide
  lia
 refine{.ref (zz9 s),_,I.laid (t':=s.toks) (o:=.tup (kq n.toNat xs).flatten) (λb ob q=>ar _ q) (a8 _) ?_,rfl,q _ (I.aR.fresh (a8 _))};exact{L,_,r.rep n.toNat,IsTup.new _ _}
end L2
namespace Cw
open L2
theorem nU(xs:List Nat)(k:Nat):∀n,(List.range n).filterMap (λm=>xs[k+m]?)=(xs.drop k).take n
 |0=>by simp|n+1=>by rw [List.range_succ,List.filterMap_append,nU xs k n,List.take_add_one,List.getElem?_drop];cases h:xs[k+n]?<;>simp [h]
def KU(k n:Nat)(h:k<=n):jj.Str.strSliceIndices (hG (k:Int)) hI 1 n=(List.range (n-k)).map λm=>k+m:=by
 unfold jj.Str.strSliceIndices sliceRange;simp! [show(1:Int)>0 by decide,if_true];have a:¬((k:Int)<0):=by lia
 rw [if_neg a];have e1:max 0 (min (k:Int) (n:Int))=k:=by lia
 rw [e1];have b:(if(k:Int)<(n:Int) then((n:Int)-k+1-1)/1 else 0).toNat=n-k:=by
  split
  .rw [Int.ediv_one];lia
  .lia
 rw [b];apply List.map_congr_left;intro m _;lia
def KW(k n:Nat)(h:k<=n):jj.Str.strSliceIndices hI (hG (k:Int)) 1 n=(List.range k).map λm=>0+m:=by
 unfold jj.Str.strSliceIndices sliceRange;simp! [show(1:Int)>0 by decide,if_true];have a:¬((k:Int)<0):=by lia
 rw [if_neg a];have e1:max 0 (min (k:Int) (n:Int))=k:=by lia
 rw [e1];have b:(if(0:Int)<(k:Int) then((k:Int)-0+1-1)/1 else 0).toNat=k:=by
  split
  .rw [Int.ediv_one];lia
  .lia
 rw [b];apply List.map_congr_left;intro m _;lia
def Dv(x:Str)(k:Nat)(h:k<=x.length):(PySem.Txt.slice x (hG (k:Int)) hI).cps.toList=x.cps.toList.drop k:=by
 have hl:x.cps.toList.length=x.length:=by simp [Str.length]
 unfold PySem.Txt.slice;rw [KU k _ h];split
 .rename_i a;simp at a;have:k=0:=by lia
  subst this;simp
 .show((List.range (x.length-k)).map (λm=>k+m)).filterMap (x.cps[·]?)=_;rw [List.filterMap_map];have:((x.cps[·]?)∘λm=>k+m)=λm=>x.cps.toList[k+m]?:=by funext m;simp
  rw [this,nU,List.take_of_length_le (by rw [List.length_drop,hl];exact a8 _)]
def Dw(x:Str)(k:Nat)(h:k<=x.length):(PySem.Txt.slice x hI (hG (k:Int))).cps.toList=x.cps.toList.take k:=by
 have hl:x.cps.toList.length=x.length:=by simp [Str.length]
 unfold PySem.Txt.slice;rw [KW k _ h];split
 .rename_i a;simp at a;rw [a,<-hl,List.take_length]
 .show((List.range k).map (λm=>0+m)).filterMap (x.cps[·]?)=_;rw [List.filterMap_map];have:((x.cps[·]?)∘λm=>0+m)=λm=>x.cps.toList[0+m]?:=by funext m;simp
  rw [this,nU,List.drop_zero]
end Cw
namespace L2
open PySem.Spec PyProof.Rows
def qJ:eC X (.type "int") (λxs H Q=>∃z n,xs=[.str z]/\PySem.intText? z=hG n/\z.length<=640/\Q (.int n) H):=by intro c s d H xs e Q I r h;let(z,n,rfl,a,b,q):=h;let(u,rfl,t,rfl):=vals1 r;exact PySem.W.KIN.call_text a b {.int n,H,I.tok _,{_,rfl},q}
end L2
namespace Cw
open L2
end Cw
namespace L2
open PySem.Spec PyProof.Rows PySem.W
section
variable{E:ku}{s:hW}{it:h9}
theorem fld{fs:Array hV}{z:hV}{Q:Unit->hW->Prop}(e:s.heap.get? it=hG {cls:=.type "dict_itemiterator",data:=.fields fs})(a:j<fs.size)(b:∀h',h'.get? it=hG {cls:=.type "dict_itemiterator",data:=.fields (fs.setIfInBounds j z)}->i1.SameBut it s.heap h'->Q () {s with heap:=h'}):ie (ik prog w) A (setField (.ref it) j z) Q E s:=
 wpAny_setField e rfl a (b _ (i1.get?_update_self _ e rfl) (gq ..))
end
def lookup_mem{L:List (h9×HO)}{b:h9}{o:HO}(h:L.lookup b=hG o):(b,o)∈L:=by
 induction L with
 |nil=>cases h
 |cons p L c=>
  let(a,x):=p;rw [hB] at h;by_cases e:b==a
  .rw [e] at h;cases h;rw [zzy.1 e];exact dB
  .rw [Bool.eq_false_iff.2 e] at h;exact b0 _ (c h)
noncomputable abbrev V7(a:List (Int×Int)):List (Key×V):=a.map λq=>(.inl q.1,V.int q.2)
end L2
namespace L2
open PySem.Spec PyProof.Rows
abbrev N1(a C:h9):HO:=.ext λh=>∃ob b,h.get? a=hG ob/\ob.cls=.ref C/\ob.data=.fields b
def AW.fresh{outer:List Env}{s s':hW}{E:XK}{C t:h9}{vs:List hV}{B:i1}(F:AW P w outer H s E a C t vs H' B s'):H' a=hI:=by
 cases z:H' a with
 |none=>rfl|some o=>let(c,b):=lR (F.aR _ _ z);rw [F.D0.2.1] at b;cases b
structure Jj(K:zz8)(C:h9):Prop where
 ga:PySem.W.findIn K (.ref C) "__getattribute__"=hG (hG (.builtin "BaseException.__getattribute__"))
 hk:PySem.W.findIn K (.ref C) "__getattr__"=hG hI
 cl:PySem.W.findIn K (.ref C) "__class__"=hG (hG (.builtin "object.__class__"))
 mo:PySem.W.mroIn K C (.type "object")=hG hQ
 mb:PySem.W.mroIn K C (.type (zu 42))=hG hQ
 is:(PySem.W.clsIn K C).isSome=hQ
def Ai{a b:Type}{R:a->b->Prop}{xs:List a}{ys:List b}(r:Paired R xs ys):∀{i:Nat} {x:a},xs[i]?=hG x->∃y,ys[i]?=hG y/\R x y:=by
 induction r with
 |nil=>intro i x h;simp at h|cons r t c=>
  intro i x h;cases i with
  |zero=>simp at h;subst h;exact{_,rfl,r}|succ i=>simp at h;simpa using c h
def wu{a b:Type}{R:a->b->Prop}{xs:List a}{ys:List b}(r:Paired R xs ys):xs.length=ys.length:=by
 induction r with
 |nil=>rfl|cons _ _ c=>simp [c]
def DR{a:List hV}(r:Vals vs a)(h:j<a.toArray.size):∃v,vs[j]?=hG v/\RelV v a.toArray[j]:=by
 have hl:=r.length;rw [a0] at h;have b:j<vs.length:=by lia
 let(u,c,d):=r.get (i:=j) (x:=vs[j]) (zzg b);rw [zzg h] at c;cases c;exact{_,zzg b,zx6 d}
end L2
namespace Ci
open L2
def aN{p:Prop}(h:hU=hQ):p:=absurd h zzf
inductive PV where
 |aL|bl (b:Bool)|int (i:Int)|str (z:Str)
 |tup (xs:List PV)|lst (xs:List PV)
 |exc (c:Str)
 |bE (ks:kB) (vs:List PV)
 |obj (n:Nat)
 deriving Inhabited
structure Ob where
 a:h9
 dx:h9
 C:h9
 c:Str
 fs:List (Str×PV)
structure Wd where
 K:zz8
 mg:Str->Option hV
 xs:List Str
 ts:List (h9×Str):=[]
 ob:List Ob:=[]
def su(K:zz8)(H:Hp)(a:h9)(vs:List V):Prop:=
 Rd H a (.lst vs)\/∃(b:Array hV) (n:Nat),K.lookup a=hG {cls:=.type "list",data:=.seq b n}/\b.size<=i2/\Vals vs b.toList
def MN(K:zz8)(G:Hp)(a:h9)(vs:List V):Prop:=G a=hG (.tup vs)\/fC K G a vs/\∃z,V.str z∈vs
theorem MN.sq{K:zz8}:MN K G a vs->fC K G a vs
 |.inl h=>.inl (.inl h)|.inr h=>h.1
abbrev kz(ks:kB)(us:List V):List (List Key×V):=(ks.map λk=>k.map Sum.inl).zip us
mutual
def Rep(W:Wd)(G:Hp):PV->V->Prop
 |.aL,v=>v=.aL|.bl b,v=>v=.bl b|.int i,v=>v=.int i|.str z,v=>v=.str z|.tup xs,v=>∃a vs,v=.ref a/\MN W.K G a vs/\ag W G xs vs|.lst xs,v=>∃a vs,v=.ref a/\su W.K G a vs/\ag W G xs vs|.exc c,v=>∃a C,v=.ref a/\c∈W.xs/\W.mg c=hG (.ref C)/\G a=hG (N1 a C)|.bE ks vs,v=>∃a o us,v=.ref a/\ks.length=us.length/\G a=hG (.bw o (.dT (kz ks us)))/\ag W G vs us|.obj n,v=>∃o,W.ob[n]?=hG o/\v=.ref o.a
def ag(W:Wd)(G:Hp):List PV->List V->Prop
 |[],vs=>vs=[]|p::ps,vs=>∃v r,vs=v::r/\Rep W G p v/\ag W G ps r
end
def ax.tup{K:zz8}{xs:List V}(e:ax H H')(h:fC K H a xs):fC K H' a xs:=by
 rcases h with(h|⟨o,h⟩)|h
 .exact .inl (.inl (e _ _ h))
 .exact .inl (.inr {o,e _ _ h})
 .exact .inr h
def ax.tp{K:zz8}{xs:List V}(e:ax H H')(h:MN K H a xs):MN K H' a xs:=h.elim (λz=>.inl (e _ _ z)) λz=>.inr {ax.tup e z.1,z.2}
def ax.rd{u:HO}(e:ax H H')(h:Rd H a u):Rd H' a u:=by
 rcases h with h|⟨o,h⟩
 .exact .inl (e _ _ h)
 .exact .inr {o,e _ _ h}
def ax.ls{K:zz8}(e:ax H H')(h:su K H a vs):su K H' a vs:=h.elim (λz=>.inl (ax.rd e z)) .inr
section
variable{W:Wd}{G':Hp}
mutual
theorem Rep.same(s:ax G G'):∀(p:PV) {v:V},Rep W G p v->Rep W G' p v
 |.aL,_,h=>by simpa only [Rep] using h|.bl b,_,h=>by simpa only [Rep] using h|.int i,_,h=>by simpa only [Rep] using h|.str z,_,h=>by simpa only [Rep] using h|.tup xs,_,h=>by simp! [Rep] at h⊢;let(a,vs,e,q,l):=h;exact{a,vs,e,ax.tp s q,ag.same s xs l}|.lst xs,_,h=>by simp! [Rep] at h⊢;let(a,vs,e,q,l):=h;exact{a,vs,e,ax.ls s q,ag.same s xs l}|.exc c,_,h=>by simp! [Rep] at h⊢;let(a,C,e,x,m,q):=h;exact{a,C,e,x,m,s _ _ q}|.bE ks vs,_,h=>by simp! [Rep] at h⊢;let(a,o,d,e,n,m,l):=h;exact{a,o,d,e,n,s _ _ m,ag.same s vs l}|.obj n,_,h=>by simpa only [Rep] using h
theorem ag.same(s:ax G G'):∀(ps:List PV) {vs:List V},ag W G ps vs->ag W G' ps vs
 |[],_,h=>by simpa only [ag] using h|p::ps,_,h=>by simp! [ag] at h⊢;let(v,r,e,a,b):=h;exact{v,r,e,Rep.same s p a,ag.same s ps b}
end
theorem ag.paired:∀{ps:List PV} {vs:List V},ag W G ps vs->Paired (λv p=>Rep W G p v) vs ps
 |[],_,h=>by simp! [ag] at h;subst h;exact .nil|p::ps,_,h=>by simp! [ag] at h;let(v,r,rfl,a,b):=h;exact .cons a (ag.paired b)
def ag.length{ps:List PV}(h:ag W G ps vs):vs.length=ps.length:=wu h.paired
def ag.nil:ag W G [] []:=by simp! [ag]
def ag.cons{p:PV}{v:V}{ps:List PV}{vs:List V}(h:Rep W G p v)(t:ag W G ps vs):ag W G (p::ps) (v::vs):=by simp! [ag];exact{_,_,rfl,h,t}
def ag.cx{p:PV}{ps:List PV}(h:ag W G (p::ps) vs):∃v r,vs=v::r/\Rep W G p v/\ag W G ps r:=by simpa only [ag] using h
theorem ag.append:∀{ps qs:List PV} {vs us:List V},ag W G ps vs->ag W G qs us->ag W G (ps++qs) (vs++us)
 |[],_,_,_,h,k=>by simp! [ag] at h;subst h;exact k|p::ps,_,_,_,h,k=>by let(v,r,rfl,a,b):=h.cx;exact .cons a (b.append k)
def ag.get:∀{ps:List PV} {vs:List V} {i:Nat} {v:V},ag W G ps vs->vs[i]?=hG v->∃p,ps[i]?=hG p/\Rep W G p v:=λh e=>Ai h.paired e
theorem ag.oN:∀{ps:List PV} {vs:List V} {i:Nat} {p:PV},ag W G ps vs->ps[i]?=hG p->∃v,vs[i]?=hG v/\Rep W G p v
 |[],_,_,_,_,e=>by simp at e|p::ps,_,0,q,h,e=>by let(v,r,rfl,a,b):=h.cx;simp at e;subst e;exact⟨v,rfl,a⟩|p::ps,_,i+1,q,h,e=>by let(v,r,rfl,a,b):=h.cx;let(u,e1,k):=b.oN (i:=i) (zx6 e);exact{u,zx6 e1,k}
theorem ag.drop:∀{ps:List PV} {vs:List V} (n:Nat),ag W G ps vs->ag W G (ps.drop n) (vs.drop n)
 |_,_,0,h=>zx6 h|[],_,n+1,h=>by simp! [ag] at h;subst h;simp! [List.drop_nil];exact .nil|p::ps,_,n+1,h=>by let(v,r,rfl,b,a):=h.cx;simpa using a.drop n
theorem ag.take:∀{ps:List PV} {vs:List V} (n:Nat),ag W G ps vs->ag W G (ps.take n) (vs.take n)
 |_,_,0,h=>by simp! [List.take_zero];exact .nil|[],_,n+1,h=>by simp! [ag] at h;subst h;simp! [List.take_nil];exact .nil|p::ps,_,n+1,h=>by let(v,r,rfl,a,b):=h.cx;simp! [List.take_succ_cons];exact .cons a (b.take n)
end
def ib(H H':Hp):Prop:=∀b o,H b=hG o->(∀a,o≠.hJ a)/\H' b=hG o\/∃a m,o=.hJ a/\H' b=hG (.hJ (a++m))
def ib.refl(H:Hp):ib H H:=λb o h=>by
 cases o with
 |hJ a=>exact .inr {a,#[],rfl,zx6 h}|_=>exact .inl {(λZ z=>nomatch z),h}
def ib.trans{f g:Hp}(a:ib H f)(b:ib f g):ib H g:=λc o h=>by
 rcases a c o h with⟨n,e⟩|⟨d,m,rfl,e⟩
 .rcases b c o e with y|⟨d,m,rfl,i⟩
  .exact .inl y
  .exact absurd rfl (n d)
 .rcases b c _ e with⟨n,_⟩|⟨p,j,i,k⟩
  .exact absurd rfl (n _)
  .cases i;exact .inr {d,m++j,rfl,by rw [k,Array.append_assoc]}
def ib.free(e:ib H H'){l:h9}(h:H' l=Option.none):H l=Option.none:=by
 cases q:H l with
 |none=>rfl|some o=>
  rcases e l o q with⟨_,z⟩|⟨_,_,_,z⟩
  .rw [h] at z;cases z
  .rw [h] at z;cases z
def ib.at(e:ib H H'){b:h9}{o:HO}(h:H b=hG o)(n:∀ps,o≠.hJ ps):H' b=hG o:=by
 rcases e b o h with⟨_,z⟩|⟨ps,_,rfl,_⟩
 .exact z
 .exact absurd rfl (n ps)
def ib.iD(e:ib H H'){b:h9}(h:H b≠hI)(n:∀vs,H b≠hG (.tup vs)):∀vs,H' b≠hG (.tup vs):=λvs z=>by
 cases q:H b with
 |none=>exact h q|some o=>
  rcases e b o q with⟨_,y⟩|⟨_,_,_,y⟩
  .rw [z] at y;cases y;exact n vs q
  .rw [z] at y;cases y
def ib.of(e:ax H H'):ib H H':=λb o h=>by
 cases o with
 |hJ a=>exact .inr {a,#[],rfl,by simpa using e _ _ h}|_=>exact .inl {(λZ z=>nomatch z),e _ _ h}
def ib.tup{K:zz8}{xs:List V}(e:ib H H')(h:fC K H a xs):fC K H' a xs:=by
 rcases h with(h|⟨o,h⟩)|h
 .exact .inl (.inl (e.at h (λZ z=>nomatch z)))
 .exact .inl (.inr {o,e.at h (λZ z=>nomatch z)})
 .exact .inr h
def ib.ls{K:zz8}(e:ib H H')(h:su K H a vs):su K H' a vs:=by
 rcases h with(h|⟨o,h⟩)|h
 .exact .inl (.inl (e.at h (λZ z=>nomatch z)))
 .exact .inl (.inr {o,e.at h (λZ z=>nomatch z)})
 .exact .inr h
def Eh:HO->Prop
 |.hJ _=>True|.ins _ _ _=>True|_=>False
def xa(W:Wd)(G H:Hp):Prop:=∀(n:Nat) (o:Ob),W.ob[n]?=hG o->G o.a=hI/\∃b,H o.a=hG (.ins o.C o.dx ((o.fs.map (·.1)).zip b))/\ag W G (o.fs.map (·.2)) b
def md(W:Wd)(G H:Hp):Prop:=∀P q,(P,q)∈W.ts->G P=hI/\∃a,H P=hG (.hJ a)/\TriplesOk a.toList/\
 ∀b c,codeAmong b a.toList=hG c->∃d oc e t,c=.ref d/\G d=hG (.bw oc bO)/\oc.data=.fields e/\e[1]?=hG (.str q t)
structure bH(W:Wd)(G H:Hp):Prop where
 t:md W G H
 o:xa W G H
theorem xa.same{W:Wd}{b:Hp}(t:xa W G H)(g:ax G b)(own:∀a,H a≠hI->(∀vs,H a≠hG (.tup vs))->G a=hI->b a=hI)(h:∀P C dx fs,H P=hG (.ins C dx fs)->H' P=hG (.ins C dx fs)):xa W b H':=λn o m=>by let(e1,vs,c,l):=t n o m;exact{own o.a (by rw [c];exact nofun) (by rw [c];exact λZ z=>nomatch z) e1,vs,h _ _ _ _ c,ag.same g _ l}
theorem md.same{W:Wd}{b:Hp}(t:md W G H)(g:ax G b)(own:∀a,H a≠hI->(∀vs,H a≠hG (.tup vs))->G a=hI->b a=hI)(h:∀P o,Eh o->H P=hG o->H' P=hG o):md W b H':=λP q m=>by let(n,d,e,f,i):=t P q m;refine{own P (by rw [e];exact nofun) (by rw [e];exact λZ z=>nomatch z) n,d,h P (.hJ d) trivial e,f,λc j y=>?_};let(k,oc,p,t,e1,r,s,u):=i c j y;exact{k,oc,p,t,e1,g _ _ r,s,u}
def bH.same{W:Wd}{b:Hp}(t:bH W G H)(g:ax G b)(own:∀a,H a≠hI->(∀vs,H a≠hG (.tup vs))->G a=hI->b a=hI)(h:∀P o,Eh o->H P=hG o->H' P=hG o):bH W b H':=
 {t.t.same g own h,t.o.same g own λP C dx fs e=>h P (.ins C dx fs) trivial e}
structure aD(W:Wd)(G H G' H':Hp):Prop where
 g:ax G G'
 h:ib H H'
 sub:ax G' H'
 own:∀a,H a≠hI->(∀vs,H a≠hG (.tup vs))->G a=hI->G' a=hI
 tb:md W G H->md W G' H'
def aD.tab{W:Wd}{a:Hp}(g:aD W G H a H')(t:bH W G H):bH W a H':={g.tb t.t,t.o.same g.g g.own λZ Z Z Z e=>g.h.at e (λZ z=>nomatch z)}
section
variable{W:Wd}
def aD.refl(s:ax G H):aD W G H G H:={ax.refl _,ib.refl _,s,λZ Z Z h=>h,id}
def aD.trans{G1 d G2 e:Hp}(a:aD W G H G1 d)(b:aD W G1 d G2 e):aD W G H G2 e:=
 {a.g.trans b.g,a.h.trans b.h,b.sub,λx c f i=>b.own x (λz=>c (a.h.free z)) (a.h.iD c f) (a.own x c f i),λt=>b.tb (a.tb t)}
def mO{p:h9}{o:HO}(h:∀u,Eh u->H p≠hG u)(P:h9)(u:HO)(k:Eh u)(e:H P=hG u):upd H p o P=hG u:=by rw [af (λz=>by subst z;exact h u k e)];exact e
theorem aD.new{p:h9}{o:HO}(s:ax G H)(h:H p=hI):aD W G H (upd G p o) (upd H p o) where
 g:=cj (s.free h)
 h:=.of (cj h)
 sub:=λb u e=>by
  by_cases f:b=p
  .subst f;rw [aq] at e⊢;exact e
  .rw [af f] at e⊢;exact s _ _ e
 own:=λa c Z d=>by
  have:a≠p:=λz=>by subst z;exact c h
  rw [af this];exact d
 tb:=λt=>t.same (cj (s.free h)) (λa c Z d=>by
  have:a≠p:=λz=>by subst z;exact c h
  rw [af this];exact d) (mO (λu Z z=>by rw [h] at z;cases z))
def aD.adopt{b:h9}(s:ax G H)(h:H b=hG (.tup vs)):aD W G H (upd G b (.tup vs)) H:=by
 have f:ax G (upd G b (.tup vs)):=λc u e=>by
  by_cases d:c=b
  .subst d;rw [aq];have:=s _ _ e;rw [h] at this;exact this
  .rw [af d];exact e
 have g:∀a,H a≠hI->(∀vs,H a≠hG (.tup vs))->G a=hI->upd G b (.tup vs) a=hI:=λa Z n e=>by
  have:a≠b:=λz=>by subst z;exact n vs h
  rw [af this];exact e
 exact{f,ib.refl _,λc u e=>by
  by_cases d:c=b
  .subst d;rw [aq] at e;cases e;exact h
  .rw [af d] at e;exact s _ _ e,g,λt=>t.same f g λZ Z Z e=>e}
def aD.SK{p:h9}{o:HO}(s:ax G H)(h:H p=hI):aD W G H G (upd H p o):=
 {ax.refl _,.of (cj h),s.trans (cj h),λZ Z Z a=>a,λt=>t.same (ax.refl _) (λZ Z Z h=>h) (mO (λu Z z=>by rw [h] at z;cases z))}
end
abbrev bo(a:iv):List Str:=((a.names.filter λp=>p.2==.free).map (·.1)).reverse
abbrev okN(x:Str):Bool:=!(x==(zu 25))&&!(x=="__classdict__")&&!(x==(zu 35))
abbrev dZ(x:Str):Bool:=x.cps.toList.contains 64
def jl{b:Type}{a:b}{p:Prop}(h:(hI:Option b)=hG a):p:=nomatch h
def CB{a:Type}{o:Option a}{f:a->Bool}(h:o.any f=hQ):∃x,o=hG x/\f x=hQ:=by
 cases o with
 |none=>cases h
 |some x=>exact⟨x,rfl,h⟩
abbrev fB:ia->Option Str
 |.Name x _=>hG x|_=>hI
def bT(h:fB e=hG x):∃p,e=.Name x p:=by
 cases e with
 |Name y p=>cases h;exact{_,rfl}
 |_=>exact jl h
abbrev HM:ia->Option (ia×List ia×List Keyword×Pos)
 |.Call f a k p=>hG (f,a,k,p)|_=>hI
def kL{q:ia×List ia×List Keyword×Pos}(h:HM e=hG q):e=.Call q.1 q.2.1 q.2.2.1 q.2.2.2:=by
 cases e with
 |Call f a k p=>cases h;rfl
 |_=>exact jl h
abbrev RC:List Arg->Option (List Str)
 |[]=>hG []|[a]=>hG [a.arg]|_=>hI
abbrev qF(p:jm):Option (List Str):=if(p.posonlyargs.isEmpty&&p.vararg.isNone&&p.kwonlyargs.isEmpty&&p.kw_defaults.isEmpty&&p.kwarg.isNone&&p.defaults.isEmpty)=hQ then RC p.args else hI
def xf{p:jm}{ps:List Str}(h:qF p=hG ps):(p={[],[],hI,[],[],hI,[]}/\ps=[])\/∃a,p={[],[a],hI,[],[],hI,[]}/\ps=[a.arg]:=by
 let(a,b,c,d,e,f,g):=p;unfold qF at h;split at h
 .rename_i q;simp! [zza,List.isEmpty_iff,Option.isNone_iff_eq_none] at q;let(((((i,j),k),m),o),r):=q
  subst i j k m o r;cases b with
  |nil=>cases h;exact .inl ⟨rfl,rfl⟩
  |cons a b=>
   cases b with
   |nil=>cases h;exact .inr ⟨a,rfl,rfl⟩
   |cons _ _=>exact jl h
 .exact jl h
abbrev HR(i:Nat):Nat:=(i-10000)/1000
abbrev NQ(i:Nat):Str:={(kq ((i-10000)%1000/10) (48+i%10)).toArray}
abbrev Qi:ia->Option Str
 |.Tuple [.Constant (.str z) _ _] _ _=>hG z|_=>hI
def vL(h:Qi e=hG z):∃a b c d,e=.Tuple [.Constant (.str z) a b] c d:=by
 unfold Qi at h;split at h
 .cases h;exact{_,_,_,_,rfl}
 .cases h
abbrev Jx:ia->Option (Str×Int)
 |.BinOp a .Mult (.Constant (.int k) _ _) _=>(Qi a).map λz=>(z,k)|_=>hI
def xt{q:Str×Int}(h:Jx e=hG q):∃a b c d f g i,e=.BinOp (.Tuple [.Constant (.str q.1) a b] c d) .Mult (.Constant (.int q.2) f g) i:=by
 unfold Jx at h;split at h
 .let(z,j,rfl):=b4.mp h;let(a,b,c,d,rfl):=vL j;exact{_,_,_,_,_,_,_,rfl}
 .cases h
abbrev MR(i:Nat)(e:ia):Bool:=if HR i=1 then Qi e==hG (NQ i) else decide (2<=HR i)&&decide (HR i<1000)&&Jx e==hG (NQ i,(HR i:Int))
abbrev A6(N:List Str)(i:Nat)(a:ia):Bool:=if i<10000 then(fB a).any λx=>N[i]?==hG x&&okN x else MR i a
abbrev i4(N:List Str):List ia->List Nat->Bool
 |[],[]=>hQ|a::r,i::t=>A6 N i a&&i4 N r t|_,_=>hU
abbrev QG(ps:List Str)(a:iv):Bool:=
 a.kind==.function&&!a.isCoroutine&&!a.isGenerator&&decide ((ps++bo a).Nodup)&&(a.names.all λy=>decide (y.2≠.cell))&&(ps.all λx=>decide (a.names.lookup x=hG .local))&&((bo a).all λx=>decide (a.names.lookup x=hG .free))
abbrev FD(g:Str)(idx:List Nat)(b:jm)(body:ia)(a:iv):Bool:=(qF b).any λc=>(HM body).any λq=>fB q.1==hG g&&q.2.2.1.isEmpty&&!q.2.1.isEmpty&&decide (idx.head?=hG c.length)&&a.names.lookup g==hG .globalImplicit&&okN g&&!dZ g&&i4 (c++bo a) q.2.1 idx.tail&&QG c a
structure QS(W:Wd)(G:Hp)(g:Str)(idx:List Nat)(cA:List PV)(f c':h9)(oc:Obj)(dc:Array hV)(t:Tok)(fW pm:hV)(params:jm)(body:ia)(scope:iv)(qual:Str)(cl:List (Str×h9))(Z:kv)(ws:List V):Prop where
 lg:FD g idx params body scope=hQ
 fo:G f=hG (.bw (PySem.W.kla_obj (zu 4) qual params body scope cl pm c' fW) bO)
 co:G c'=hG (.bw oc bO)
 cd:oc.data=.fields dc
 cn:dc[1]?=hG (.str qual t)
 fz:Z.lookup f=hI
 cz:Z.lookup c'=hI
 inj:∀x y c,cl.lookup x=hG c->cl.lookup y=hG c->x=y
 has:∀y∈bo scope,∃c,cl.lookup y=hG c
 cells:∀x c,cl.lookup x=hG c->∃o v,Z.lookup c=hG o/\o.data=.cell v
 zs:∀b o,Z.lookup b=hG o->G b=hG (.bw o bO)
 zc:∀b o,Z.lookup b=hG o->∃v,o.data=.cell v
 vals:∀(i:Nat) y c,(bo scope)[i]?=hG y->cl.lookup y=hG c->∀v,ws[i]?=hG v->∃u o,RelV v u/\Z.lookup c=hG o/\o.data=.cell (hG u)
 len:ws.length=(bo scope).length
 rep:ag W (aS Z G) cA ws
def ma(W:Wd)(G:Hp)(g:Str)(idx:List Nat)(d:List PV)(v:V):Prop:=∃f e oc h t i j a body b c cl Z k,v=.ref f/\QS W G g idx d f e oc h t i j a body b c cl Z k
theorem qm{Z:kv}{a:Hp}(s:ax G a):ax (aS Z G) (aS Z a):=λb u e=>by let(q,e1):=fq e;rw [av q];exact s _ _ e1
def ma.same{W:Wd}{k:Hp}{j:List PV}(s:ax G k)(h:ma W G g idx j v):ma W k g idx j v:=by let(f,m,oc,p,t,r,u,a,body,c,i,cl,Z,w,e,d):=h;exact{f,m,oc,p,t,r,u,a,body,c,i,cl,Z,w,e,{d.lg,s _ _ d.fo,s _ _ d.co,d.cd,d.cn,d.fz,d.cz,d.inj,d.has,d.cells,λb o q=>s _ _ (d.zs b o q),d.zc,d.vals,d.len,ag.same (qm s) j d.rep}}
inductive Slot where
 |no|val (p:PV)|own (p:PV)|fn (g:Str) (idx:List Nat) (cA:List PV)|DZ (aw:List (Int×Int))
 deriving Inhabited
noncomputable abbrev Sl:=List Slot
def Own(W:Wd)(H0 G H:Hp):PV->V->Prop
 |.lst xs,v=>∃a vs,v=.ref a/\H a=hG (.lst vs)/\G a=hI/\H0 a=hI/\ag W G xs vs|.bE ks ps,v=>∃a us,v=.ref a/\ks.length=us.length/\H a=hG (.dT (kz ks us))/\G a=hI/\H0 a=hI/\ag W G ps us|_,_=>False
def Top(W:Wd)(H0 G H:Hp)(p:PV)(v:V):Prop:=Rep W G p v\/Own W H0 G H p v
def A1(W:Wd)(H0 G H:Hp):Slot->Option V->Prop
 |.no,_=>True|.val p,o=>∃v,o=hG v/\Rep W G p v|.own p,o=>∃v,o=hG v/\Own W H0 G H p v|.fn g idx c,o=>∃v,o=hG v/\ma W G g idx c v|.DZ b,o=>∃a,o=hG (.ref a)/\H a=hG (.dK (V7 b))/\G a=hI/\H0 a=hI/\(b.map (·.1)).Nodup
structure SR(W:Wd)(H0:Hp)(env:Sl)(σ:St)(G H:Hp):Prop where
 len:env.length=σ.length
 sub:ax G H
 base:ib H0 H
 slot:∀(i:Nat) (s:Slot),env[i]?=hG s->∃o,σ[i]?=hG o/\A1 W H0 G H s o
 apart:∀(i j:Nat) (p q:PV) (a:h9),env[i]?=hG (.own p)->env[j]?=hG (.own q)->σ[i]?=hG (hG (.ref a))->σ[j]?=hG (hG (.ref a))->i=j
 tab:bH W G H
 iX:bH W G H0
section
variable{W:Wd}{G':Hp}{env:Sl}
theorem Own.grow(g:aD W G H G' H'):∀{p:PV} {v:V},Own W H0 G H p v->Own W H0 G' H' p v
 |.lst xs,_,h=>by let(a,vs,e,b,c,d,l):=h;exact{a,vs,e,g.h.at b (λZ z=>nomatch z),g.own a (by rw [b];exact λz=>by cases z) (by rw [b];exact λZ z=>by cases z) c,d,ag.same g.g xs l}
 |.bE ks f,_,h=>by let(a,vs,e,n,b,c,d,l):=h;exact{a,vs,e,n,g.h.at b (λZ z=>nomatch z),g.own a (by rw [b];exact λz=>by cases z) (by rw [b];exact λZ z=>by cases z) c,d,ag.same g.g f l}
 |.aL,_,h=>h|.bl _,_,h=>h|.int _,_,h=>h|.str _,_,h=>h|.tup _,_,h=>h|.exc _,_,h=>h|.obj _,_,h=>h
theorem A1.grow(g:aD W G H G' H'):∀{s:Slot} {o:Option V},A1 W H0 G H s o->A1 W H0 G' H' s o
 |.no,_,_=>trivial|.val p,_,h=>by let(v,e,r):=h;exact{v,e,Rep.same g.g p r}|.own p,_,h=>by let(v,e,r):=h;exact{v,e,r.grow g}|.fn _ _ _,_,h=>by let(v,e,r):=h;exact{v,e,r.same g.g}|.DZ _,_,h=>by let(a,e,b,c,d,n):=h;exact{a,e,g.h.at b (λZ z=>nomatch z),g.own a (by rw [b];exact nofun) (by rw [b];exact λZ z=>nomatch z) c,d,n}
theorem SR.grow(r:SR W H0 env σ G H)(g:aD W G H G' H'):SR W H0 env σ G' H':=
 {r.len,g.sub,r.base.trans g.h,λi s e=>by let(o,b,c):=r.slot i s e;exact{o,b,c.grow g},r.apart,g.tab r.tab,r.iX.same g.g (λa b d c=>g.own a (λz=>b (r.base.free z)) (r.base.iD b d) c) λZ Z Z h=>h}
def Top.grow{p:PV}(g:aD W G H G' H')(h:Top W H0 G H p v):Top W H0 G' H' p v:=h.elim (λz=>.inl (Rep.same g.g p z)) λz=>.inr (z.grow g)
def Top.lst{xs:List PV}(s:ax G H)(h:Top W H0 G H (.lst xs) v):∃a vs,v=.ref a/\su W.K H a vs/\ag W G xs vs:=by
 rcases h with h|h
 .simp! [Rep] at h;let(a,vs,e,q,l):=h;exact{a,vs,e,ax.ls s q,l}
 .let(a,vs,e,b,_,_,l):=h;exact{a,vs,e,.inl (.inl b),l}
def Top.tup{xs:List PV}(s:ax G H)(h:Top W H0 G H (.tup xs) v):∃a vs,v=.ref a/\fC W.K H a vs/\ag W G xs vs:=by
 rcases h with h|h
 .simp! [Rep] at h;let(a,vs,e,q,l):=h;exact{a,vs,e,ax.tup s q.sq,l}
 .exact h.elim
def Top.tupI{xs:List PV}{ns:List Int}(s:ax G H)(d:xs=ns.map .int)(h:Top W H0 G H (.tup xs) v):∃a,v=.ref a/\G a=hG (.tup (ns.map V.int)):=by
 rcases h with h|h
 .simp! [Rep] at h;let(a,b,e,q,l):=h
  have f:b=ns.map V.int:=by
   subst d;clear q e
   induction ns generalizing b with
   |nil=>simp! [List.map_nil,ag] at l;exact l|cons n ns g=>let(u,r,rfl,c,i):=l.cx;simp! [Rep] at c;rw [c,g r i];rfl
  subst f;rcases q with q|⟨_,z,j⟩
  .exact⟨a,e,q⟩
  .let(n,_,k):=gI.mp j;cases k
 .exact h.elim
def Top.bE{ks:kB}{ps:List PV}(s:ax G H)(h:Top W H0 G H (.bE ks ps) v):∃a us,v=.ref a/\ks.length=us.length/\Rd H a (.dT (kz ks us))/\ag W G ps us:=by
 rcases h with h|h
 .simp! [Rep] at h;let(a,o,us,e,n,q,l):=h;exact{a,us,e,n,.inr {o,s _ _ q},l}
 .let(a,b,e,n,q,_,_,l):=h;exact{a,b,e,n,.inl q,l}
def Top.int{i:Int}(h:Top W H0 G H (.int i) v):v=.int i:=h.elim (λz=>by simpa only [Rep] using z) λz=>z.elim
def Top.bl{b:Bool}(h:Top W H0 G H (.bl b) v):v=.bl b:=h.elim (λz=>by simpa only [Rep] using z) λz=>z.elim
def Top.str{b:Str}(h:Top W H0 G H (.str b) v):v=.str b:=h.elim (λz=>by simpa only [Rep] using z) λz=>z.elim
def Top.aL(h:Top W H0 G H .aL v):v=.aL:=h.elim (λz=>by simpa only [Rep] using z) λz=>z.elim
def Rep.i{i:Int}:Rep W G (.int i) (.int i):=by simp! [Rep]
def Rep.b{i:Bool}:Rep W G (.bl i) (.bl i):=by simp! [Rep]
def Rep.s{i:Str}:Rep W G (.str i) (.str i):=by simp! [Rep]
def Rep.n:Rep W G .aL .aL:=by simp! [Rep]
def Rep.l{xs:List PV}(h:su W.K G a vs)(l:ag W G xs vs):Rep W G (.lst xs) (.ref a):=by simp! [Rep];exact⟨a,vs,rfl,h,l⟩
def Rep.t{xs:List PV}(h:MN W.K G a vs)(l:ag W G xs vs):Rep W G (.tup xs) (.ref a):=by simp! [Rep];exact⟨a,vs,rfl,h,l⟩
end
end Ci
variable{xs ys ps cp:List Ci.PV}{p q:Ci.PV}{env:Ci.Sl}
namespace L2
open PySem.Spec PyProof.Rows
end L2
namespace HT
open PySem.Spec PyProof.Rows
section
variable{E:ku}{s:hW}
def sU{d:h9}{c:hV}{n:Nat}{Q:Int×Int×Nat->hW->Prop}(hs:s.heap.IsSliceOf d .none .none c)(f:IsPart c (hG (-1)))
 (h:Q ((n:Int)-1, -1,n) s):ie (ik prog w) A (jj.Slice.sliceApplied (.ref d) (pure (n:Int))) Q E s:=by
 let(os,a,g,b):=id hs
 unfold jj.Slice.sliceApplied jj.Slice.sliceFields;refine ak (ak (wpAny_field a b (x:=.none) rfl (ak (wpAny_field a b (x:=.none) rfl (ak (wpAny_field a b (x:=c) rfl (bc ?_)))))));refine ak (jo f ?_);show ie _ _ (if((-1:Int)==0)=hQ then _ else _) _ _ s;rw [if_neg (by decide)];refine ak (slicePart_none (ak (slicePart_none (ak (bc ?_)))));show ie _ _ (pure ((n:Int)-1,(-1:Int),jj.Slice.slicePlaces ((n:Int)-1) (-1) (-1))) _ _ s;have e:jj.Slice.slicePlaces ((n:Int)-1) (-1) (-1)=n:=by
  unfold jj.Slice.slicePlaces;rw [if_neg (by decide)];split
  .have:((n:Int)-1 - -1-1)/(- -1)+1=n:=by rw [show(- -1:Int)=1 from rfl,Int.ediv_one];lia
   rw [this];lia
  .lia
 rw [e];exact bc h
theorem tX{b c:Type}{f g:b->Option c}:∀(l:List b),(∀m∈l,f m=g m)->l.filterMap f=l.filterMap g
 |[],_=>rfl|a::l,h=>by rw [List.filterMap_cons,List.filterMap_cons,h a (dB ..),tX l λm hm=>h m (b0 _ hm)]
def C8(xs:Array hV):((List.range xs.size).filterMap λ(m:Nat)=>xs[((xs.size:Int)-1+(m:Int)*(-1)).toNat]?).toArray=xs.toList.reverse.toArray:=by
 congr 1
 refine List.ext_getElem? λi=>?_
 have a:∀k,k<=xs.size->(List.range k).filterMap (λ(m:Nat)=>xs[((xs.size:Int)-1+(m:Int)*(-1)).toNat]?)=(List.range k).filterMap λm=>xs.toList.reverse[m]?:=λk hk=>by
  refine tX _ λm hm=>?_;have:=List.mem_range.1 hm;rw [List.getElem?_reverse (by simpa using (by omega:m<xs.size)),Array.getElem?_toList,ey]
  congr 1
  omega
 rw [a _ (a8 _)];have:∀l:List hV,(List.range l.length).filterMap (λm=>l[m]?)=l:=λl=>by have:=PySem.W.krv_all l.toArray;simpa using this
 have:=this xs.toList.reverse;rw [List.length_reverse,ey] at this;rw [this]
def j6{t c:h9}{a:Array hV}{f:hV}{Q:ku}(b:IsTup s.heap t a)(hs:s.heap.IsSliceOf c .none .none f)(i:IsPart f (hG (-1)))
 (h:Q (.ref (zz9 s)) {s with heap:=s.heap.push {cls:=.type "tuple",data:=.seq a.toList.reverse.toArray}})
 (hsz:a.size<=i2):ie (ik prog w) A (getItem (.ref t) (.ref c)) Q E s:=by
 have g:sizeOk (.seq a.toList.reverse.toArray):=by show a.toList.reverse.toArray.size<=i2;rw [a0,List.length_reverse,ey];exact hsz
 let(os,d,e,j):=id hs;have k:s.TypeIs (.ref c) "slice":=⟨os,d,e⟩;unfold getItem
 try with_reducible refine wpAny_holding ?_
 first|refine ak (bc ?_)|skip
 refine ak (wpAny_sequenceKey b.typeIs (by decide) ?_);refine ak (wpAny_callSpecial?_slot (name:=Str.ofString "__getitem__") b.typeIs PyProof.Rows.slot_tuple_getitem
  (wpAny_call_entry PyProof.Rows.slot_tuple_getitem b.typeIs entry_tuple_getitem ?_ (args_tuple_getitem _ _)))
 show ie _ _ (jj.Tuple.tupleItemsOf (.ref t)>>=_) _ _ s;refine ak (tupleItemsOf_ b ?_);refine ak (wpAny_typeOf k ?_);rw [if_pos (by decide)];refine ak (sU hs i ?_);have o:¬((((a.size:Int)-1)==0&&(-1:Int)==1&&a.size==a.size)=hQ):=by intro q;rw [zza,zza] at q;exact absurd q.1.2 (by decide)
 show ie _ _ (if(((a.size:Int)-1)==0&&(-1:Int)==1&&a.size==a.size)=hQ then _ else _) _ _ s;rw [if_neg o,C8]
 first
  |exact ak (m:=jj.Tuple.tupleExact _) (wpAny_newObj_type (bc ⟨_,rfl,bc h⟩) g)
  |exact ak (m:=jj.Tuple.tupleExact _) (wpAny_newObj_type (ak (bc (bc ⟨_,rfl,bc h⟩))) g)
end
end HT
namespace L2
open PySem.Spec PyProof.Rows
abbrev rO(z:Str):Str:=⟨z.cps.toList.reverse.toArray⟩
def GP(n:Nat):jj.Str.strSliceIndices hI hI (-1) n=(List.range n).map λk=>n-1-k:=by show sliceRange ((n:Int)-1) (-1) (-1)=_;exact PySem.W.krv_sliceRange n
def qu(r:Vals vs us):Vals vs.reverse us.reverse:=by
 induction r with
 |nil=>exact .nil|cons h t a=>rw [List.reverse_cons,List.reverse_cons];exact a.append (.cons h .nil)
section
variable{st:ia}{ts:TE}{p2:Pos}
def DX(X:Cx)(r:V->Hp->VK->Prop):Prop:=
 ∀(a:kv) (s:hW) (b:St) (H:Hp) (x:V) (v c:hV) (d:h9) (Q:VK),Inv X a b H s->RelV x v->s.heap.IsSliceOf d .none .none c->IsPart c (hG (-1))->r x H Q->
  ∃T f,typeLookup (.type T) "__getitem__"=pure (hG (.builtin f))/\s.TypeIs v T/\zx7 X (getItem v (.ref d)) (EP X a b Q) X.xe s
def DX.or{r a:V->Hp->VK->Prop}(h:DX X r)(h':DX X a):DX X (λx H Q=>r x H Q\/a x H Q):=by
 intro b s c H x v d f Q I g hs i q;rcases q with q|q
 .exact h b s c H x v d f Q I g hs i q
 .exact h' b s c H x v d f Q I g hs i q
def Ml:DX X (λx H Q=>∃a xs,x=.ref a/\fC X.K H a xs/\∀p,H p=hI->Q (.ref p) (upd H p (.tup xs.reverse))):=by
 intro m s t H x v u w Q I g hs i h;let(a,xs,rfl,j,q):=h;cases g;let(k,r,d,f):=I.tuple j;have c:k.toArray.size=xs.length:=by rw [a0];exact r.length.symm
 refine{"tuple",_,PyProof.Rows.slot_tuple_getitem.lookup,d.typeIs,HT.j6 d hs i ?_ (by rw [c];exact f)};refine{.ref (zz9 s),_,I.laid (t':=s.toks) (o:=.tup xs.reverse) (λb ob q=>ar _ q) (a8 _) ?_,rfl,q _ (I.aR.fresh (a8 _))};exact{by rw [List.length_reverse];exact f,_,qu r,IsTup.new _ _}
def Mi:DX X (λx H Q=>∃a xs,x=.ref a/\kJ X.K H a xs/\∀p,H p=hI->Q (.ref p) (upd H p (.lst xs.reverse))):=by intro j s k H x v m t Q I f hs g h;let(a,xs,rfl,i,q):=h;cases f;let(u,r,c,d):=I.list i;refine{"list",_,PySem.F.slot_list_getitem.lookup,{_,c.isList.choose_spec.1,c.isList.choose_spec.2.1},?_};refine wpAny_getItem_list_slice c.isList hs .none .none g (by decide) ?_ (by rw [a0,<-r.length];exact d);rw [PySem.W.krv_pick];refine{.ref (zz9 s),_,I.laid (t':=s.toks) (o:=.lst xs.reverse) (λb ob q=>ar _ q) (a8 _) ?_,rfl,q _ (I.aR.fresh (a8 _))};exact{by rw [List.length_reverse];exact d,_,0,qu r,en _ rfl}
def Mj:DX X (λx H Q=>∃z,x=.str z/\z.length<=i2/\Q (.str (rO z)) H):=by
 intro f s g H x v j k Q I b hs c h;let(z,rfl,d,q):=h;let(t,rfl):=b
 refine{"str",_,F.slot_str_getitem.lookup,typeIs_str _ _ _,?_};cases c with
 |int i a=>
  refine wpAny_getItem_str_slice (l:=hI) (u:=hI) (st:=hG (-1,a)) hs rfl ?_;have e:sliceMade z t hI hI (hG (-1,a))=.str (rO z):=by
   unfold sliceMade;rw [if_neg (λq=>by rw [zza] at q;exact absurd q.1 (show¬((-1:Int)==1)=hQ by decide))];unfold slicePicked rO
   congr 2
   show((jj.Str.strSliceIndices hI hI (-1) z.length).filterMap (z.cps[·]?)).toArray=_;rw [GP,PySem.W.krv_range,List.filterMap_reverse]
   congr 2
   have:=PySem.W.krv_all z.cps;exact this
  rw [e];refine{?_,{.str _,H,I.tok _,{_,rfl},q}};show(rO z).cps.size<=i2;have:(rO z).cps.size=z.length:=by simp [rO,Str.length]
  rw [this];exact d
abbrev XC(r:V->Hp->VK->Prop)(te ts:TE):TE:=λa H Q=>te a H λx b=>ts a b λk c=>k=.int (-1)/\r x c Q
def LW{r:V->Hp->VK->Prop}(j:DX X r)(he:PE X e te)(hs:PE X st ts):PE X (.Subscript e (.Slice hI hI (hG st) p2) pos) (XC r te ts):=by
 intro c s d H Q I h;refine Subscript_ (bM (he c s d H _ I h) λv m f=>?_);let(x,o,p,y,z):=f;refine wpAny_Slice ?_;rw [evalPart_none];refine bc (bc ?_);rw [evalPart_some];refine bM (hs c m d o _ p z) λu a ⟨k,i,B,C,g⟩=>?_;let(rfl,g):=g;let(t,rfl):=C
 have D:Inv X c d i {a with heap:=a.heap.push {cls:=.type "slice",data:=.fields #[.none,.none,.int (-1) t]}}:=B.kept (t':=a.toks) λb ob q=>ar _ q
 let(T,K,E,F,G):=j c {a with heap:=a.heap.push {cls:=.type "slice",data:=.fields #[.none,.none,.int (-1) t]}} d i x v (.int (-1) t) (zz9 a) Q D y (i1.IsSliceOf.new ..) (.int _ _) g
 show zx7 X (subscriptTail e (.Slice hI hI (hG st) p2) v (.ref (zz9 a))) (EP X c d Q) X.xe {a with heap:=a.heap.push {cls:=.type "slice",data:=.fields #[.none,.none,.int (-1) t]}};exact tail_any (ops:=[v,.ref (zz9 a)]) F E G (by with_unfolding_all rfl)
end
end L2
namespace Ci
open L2
inductive Res(α:Type) where
 |ok (a:α)|exc (c:Str)|bad
abbrev Res.bind{b d:Type}:Res b->(b->Res d)->Res d
 |.ok a,f=>f a|.exc c,_=>.exc c|.bad,_=>.bad
noncomputable instance:Monad Res where
 pure:=.ok
 bind:=Res.bind
def Res.aJ{d e:Type}{r:Res d}{f:d->Res e}{b:e}(h:r.bind f=.ok b):∃a,r=.ok a/\f a=.ok b:=by
 cases r with
 |ok a=>exact⟨a,rfl,h⟩|exc c=>cases h
 |bad=>cases h
def Res.d6{b d:Type}{r:Res b}{f:b->Res d}{c:Str}(h:r.bind f=.exc c):r=.exc c\/∃a,r=.ok a/\f a=.exc c:=by
 cases r with
 |ok a=>exact .inr ⟨a,rfl,h⟩|exc e=>cases h;exact .inl rfl
 |bad=>cases h
abbrev Res.of{b:Type}:Option b->Res b
 |some a=>.ok a|none=>.bad
abbrev Res.well{b:Type}:Res b->Res b
 |.ok a=>.ok a|_=>.bad
noncomputable abbrev cV:Nat:=1000000
abbrev eqs(f:PV->PV->Bool):List PV->List PV->Bool
 |[],[]=>hQ|x::xs,y::ys=>f x y&&eqs f xs ys|_,_=>hU
abbrev kQ:Nat->PV->PV->Bool
 |_,.aL,.aL=>hQ|_,.bl a,.bl b=>a==b|_,.bl a,.int i=>(if a then 1 else 0)==i
 |_,.int i,.bl a=>i==(if a then 1 else 0)
 |_,.int i,.int j=>i==j|_,.str x,.str y=>x==y|n+1,.tup xs,.tup ys=>eqs (kQ n) xs ys|n+1,.lst xs,.lst ys=>eqs (kQ n) xs ys|_,_,_=>hU
abbrev plain:Nat->PV->Bool
 |_,.aL=>hQ|_,.bl _=>hQ|_,.int _=>hQ|_,.str _=>hQ|n+1,.tup xs=>xs.all (plain n)|n+1,.lst xs=>xs.all (plain n)|_,_=>hU
noncomputable abbrev DP:Nat:=9
noncomputable abbrev eqv:PV->PV->Bool:=kQ DP
noncomputable abbrev kh:PV->Bool:=plain DP
inductive IW where|add|sub|mul|mod|fdiv
inductive sN where|eq|ne|lt|le|gt|is|K3|D8|sJ
abbrev aK(i:Int):Bool:=decide (-(2^64)<i)&&decide (i<2^64)
abbrev binOp:IW->PV->PV->Res PV
 |.add,.int i,.int j=>.ok (.int (i+j))|.add,.str x,.str y=>if x.length+y.length<=cV then .ok (.str (x++y)) else .bad
 |.add,.lst x,.lst y=>if x.length+y.length<=cV then .ok (.lst (x++y)) else .bad
 |.add,.tup x,.tup y=>if x.length+y.length<=cV then .ok (.tup (x++y)) else .bad
 |.sub,.int i,.int j=>.ok (.int (i-j))|.mul,.int i,.int j=>if aK i||aK j then .ok (.int (i*j)) else .bad
 |.mul,.tup x,.int j=>if 1<=j/\j<1000/\0<x.length/\x.length<1000 then .ok (.tup (kq j.toNat x).flatten) else .bad
 |.mod,.int i,.int j=>if 0<j then .ok (.int (i%j)) else .bad
 |.fdiv,.int i,.int j=>if 0<j/\j<1073741824 then .ok (.int (i/j)) else .bad
 |_,_,_=>.bad
abbrev intsOf:List PV->Option (List Int)
 |[]=>hG []|.int i::r=>(intsOf r).map (i::·)|_=>hI
abbrev ay{a:Type}:List (List Int)->List a->List Int->Option a
 |b::ks,v::vs,k=>if b=k then hG v else ay ks vs k
 |_,_,_=>hI
abbrev cq(ks:kB)(k:List Int):Bool:=ks.any λa=>decide (a=k)
abbrev bS(ks:kB)(k:List Int):kB:=if cq ks k then ks else ks++[k]
abbrev bK{a:Type}(ks:kB)(vs:List a)(k:List Int)(p:a):List a:=if cq ks k then List.zipWith (λb v=>if b=k then p else v) ks vs else vs++[p]
abbrev cm(ks:kB)(k:List Int):kB:=ks.filter λa=>decide (a≠k)
abbrev aW{a:Type}:List (List Int)->List a->List Int->List a
 |b::ks,v::vs,k=>if b=k then aW ks vs k else v::aW ks vs k
 |_,_,_=>[]
abbrev cg(k:List Int):PV:=.tup (k.map .int)
abbrev nF:PV->Option (List Int)
 |.tup xs=>intsOf xs|_=>hI
abbrev OM(x:PV)(ys:List PV):Bool:=ys.any λy=>eqv y x
abbrev gH(a b:PV):Res PV:=if kh a&&kh b then .ok (.bl (eqv a b)) else .bad
abbrev iU(a b:PV):Res PV:=if kh a&&kh b then .ok (.bl (!eqv a b)) else .bad
abbrev uO:PV->PV->Res PV
 |.int i,.int j=>.ok (.bl (decide (i<j)))|_,_=>.bad
abbrev uN:PV->PV->Res PV
 |.int i,.int j=>.ok (.bl (decide (i<=j)))|_,_=>.bad
abbrev wm:PV->PV->Res PV
 |.int i,.int j=>.ok (.bl (decide (j<i)))|.str i,.str j=>.ok (.bl (decide (j.cps.toList<i.cps.toList)))|_,_=>.bad
abbrev nC:PV->Bool
 |.aL=>hQ|_=>hU
abbrev uM:PV->PV->Res PV
 |a,.aL=>.ok (.bl (nC a))|_,_=>.bad
abbrev lU:PV->PV->Res PV
 |a,.aL=>.ok (.bl (!nC a))|_,_=>.bad
abbrev uL:PV->PV->Res PV
 |a,.lst ys=>if kh a&&ys.all kh then .ok (.bl (OM a ys)) else .bad
 |.str i,.str j=>.ok (.bl (!(jj.Str.occurrences j i 0 j.length 1).isEmpty))|a,.bE ks _=>(Res.of (nF a)).bind λk=>.ok (.bl (cq ks k))|_,_=>.bad
abbrev lV:PV->PV->Res PV
 |a,.lst ys=>if kh a&&ys.all kh then .ok (.bl (!OM a ys)) else .bad
 |a,.bE ks _=>(Res.of (nF a)).bind λk=>.ok (.bl (!cq ks k))|_,_=>.bad
abbrev cW:sN->PV->PV->Res PV
 |.eq=>gH|.ne=>iU|.lt=>uO|.le=>uN|.gt=>wm|.is=>uM|.K3=>lU|.D8=>uL|.sJ=>lV
abbrev aZ:PV->PV->Res PV
 |.lst xs,.int i=>Res.of (vF xs i)|.tup xs,.int i=>Res.of (vF xs i)|.str z,.int i=>if z.length<=cV then(Res.of (vF z.cps.toList i)).bind λc=>.ok (.str {#[c]}) else .bad
 |.bE ks vs,y=>(Res.of (nF y)).bind λk=>Res.of (ay ks vs k)|_,_=>.bad
abbrev jY{a:Type}(xs:List a)(b c:Option Int):List a:=(xs.drop (HT.cX xs.length 0 b)).take (HT.cX xs.length xs.length c-HT.cX xs.length 0 b)
abbrev fJ:PV->Option Int->Option Int->Res PV
 |.lst xs,lo,a=>.ok (.lst (jY xs lo a))|.tup xs,lo,a=>.ok (.tup (jY xs lo a))|.str z,lo,a=>if z.length<=cV then .ok (.str (Txt.slice z lo a)) else .bad
 |_,_,_=>.bad
inductive B where|len|abs|max2|int|str|tuple
abbrev chars(z:Str):List PV:=z.cps.toList.map λc=>.str {#[c]}
abbrev vH:List PV->Res PV
 |[.lst xs]=>.ok (.int xs.length)|[.tup xs]=>.ok (.int xs.length)|[.str z]=>if z.length<=cV then .ok (.int z.length) else .bad
 |[.bE ks _]=>.ok (.int ks.length)|_=>.bad
abbrev A8:List PV->Res PV
 |[.int i]=>.ok (.int (if i<0 then -i else i))
 |_=>.bad
abbrev Ba:List PV->Res PV
 |[.int i,.int j]=>.ok (.int (if j>i then j else i))
 |_=>.bad
abbrev A9:List PV->Res PV
 |[.str z]=>if z.length<=640 then(Res.of (PySem.intText? z)).bind λn=>.ok (.int n) else .bad
 |_=>.bad
abbrev Bb:List PV->Res PV
 |[.int i]=>if i.natAbs.log2<1920 then .ok (.str (toString i)) else .bad
 |_=>.bad
abbrev mV:List PV->Res PV
 |[.lst xs]=>.ok (.tup xs)|_=>.bad
abbrev eE:B->List PV->Res PV
 |.len=>vH|.abs=>A8|.max2=>Ba|.int=>A9|.str=>Bb|.tuple=>mV
inductive Ty where|int|bool|str|tuple
abbrev jg:Ty->PV->Bool
 |.int,.int _=>hQ|.int,.bl _=>hQ|.bool,.bl _=>hQ|.str,.str _=>hQ|.tuple,.tup _=>hQ|_,_=>hU
abbrev mB(t:Ty):PV->Res PV
 |.exc _=>.bad|.bE _ _=>.bad|.obj _=>.bad|p=>.ok (.bl (jg t p))
inductive Tg where
 |one (i:Nat)|two (i j:Nat)
mutual
inductive E where
 |var (i:Nat)|fY (i:Nat)
 |cst (p:PV)
 |glob (g:Str) (p:PV)
 |call (f:Str) (as:Es)
 |lC (i:Nat) (as:Es)
 |sY (f:Str) (as:Es) (g:Str) (idx:List Nat) (aM:List Nat)
 |blt (b:B) (as:Es)
 |ty (t:Ty) (a:E)
 |bin (o:IW) (a b:E)
 |cmp (o:sN) (a b:E)
 |ch (o1 o2:sN) (a b c:E)
 |not (a:E)
 |neg (a:E)
 |and (a b:E)|or (a b:E)
 |ite (c a b:E)
 |tup (as:Es)|lst (as:Es)
 |sub (a b:E)
 |slice (a:E) (lo hi:Oe)
 |comp (k:Nat) (aM:List Nat) (tg:Tg) (it:I) (elt:E)
 |dN (k:Nat) (aM:List Nat) (tg:Tg) (it:I) (c elt:E)
 |rev (a:E)
 |fld (i:Nat) (f:Str)
inductive Es where
 |nil|cons (e:E) (es:Es)
inductive Oe where
 |no|some (e:E)
inductive I where
 |seq (e:E)|mv (e:E)|rP (a b:E)|enum (e:E)
end
mutual
inductive S where
 |expr (e:E)
 |set (i:Nat) (e:E)
 |own (i:Nat) (e:E)
 |bw (i:Nat)
 |app (i:Nat) (e:E)
 |qV (i:Nat) (e:E)
 |put (i:Nat) (k e:E)
 |ret (e:E)
 |ite (c:E) (a b:Ss)
 |cL (tg:Tg) (it:I) (b:Ss)
 |IU (c:E) (b:Ss)
 |raise (c:Str) (m:Str)
 |ng (i:Nat)
 |fR (i j n:Nat)
 |oX (m i:Nat)
 |Dk (i:Nat) (e:E)
 |iF (j i:Nat) (e:E)
inductive Ss where
 |nil|cons (s:S) (ss:Ss)
end
abbrev fN:List Int->Nat->Nat->Int->Nat
 |[],_,b,_=>b|c::cs,j,b,m=>if c<m then fN cs (j+1) j c else fN cs (j+1) b m
abbrev A4:List Int->Option Nat
 |[]=>hI|c::cs=>hG (fN cs 1 0 c)
abbrev jc:List PV->Option (List Int)
 |[]=>hG []|.tup (.int c::_)::r=>(jc r).map (c::·)|_=>hI
noncomputable abbrev aF:=Str->List PV->Res PV
def bW(f:Str):Str:="@"++f
abbrev gU:Option Slot->Res PV
 |some (.val p)=>.ok p|_=>.bad
abbrev Dx:Option Slot->Res PV
 |some (.val p)=>.ok p|some (.own p)=>.ok p|_=>.bad
abbrev Tg.put:Tg->PV->Sl->Res Sl
 |.one i,p,env=>.ok (env.set i (.val p))|.two i j,.tup [a,b],env=>.ok ((env.set i (.val a)).set j (.val b))|_,_,_=>.bad
abbrev mf(env:Sl):List Nat->Res (List PV)
 |[]=>.ok []|i::r=>(gU env[i]?).bind λp=>(mf env r).bind λps=>.ok (p::ps)
abbrev JA(i:Nat):PV:=.tup (kq (HR i) (.str (NQ i)))
abbrev atC(l:List PV)(i:Nat):Res PV:=if i<10000 then Res.of l[i]? else .ok (JA i)
abbrev fE(l:List PV):List Nat->Res (List PV)
 |[]=>.ok []|i::r=>(atC l i).bind λp=>(fE l r).bind λps=>.ok (p::ps)
abbrev eK(env:Sl)(a:List Nat):Sl:=a.map λi=>env.getD i .no
abbrev itemsOf:PV->Res (List PV)
 |.lst xs=>.ok xs|.tup xs=>.ok xs|.str z=>.ok (chars z)|_=>.bad
abbrev Dr(e:E)(p:PV):Res (List PV):=match p,e with
 |.bE _ _,.fY _=>.bad|.bE ks _,_=>.ok (ks.map cg)|.lst xs,_=>.ok xs|.tup xs,_=>.ok xs|_,_=>.bad
abbrev dF(a:Int)(n:Nat):List PV:=(List.range n).map λi=>.int (a+(i:Nat))
abbrev aU(i:Int):Bool:=decide (-(2^62)<=i)&&decide (i<2^62)
abbrev bR(n:Nat):List PV->List PV
 |[]=>[]|x::xs=>.tup [.int (n:Nat),x]::bR (n+1) xs
abbrev oc:Option PV->List PV->List PV
 |some y,ys=>y::ys|none,ys=>ys
abbrev aY(f:PV->Res (Option PV)):List PV->Res (List PV)
 |[]=>.ok []|x::xs=>(f x).well.bind λo=>(aY f xs).bind λys=>.ok (oc o ys)
abbrev sC{a:Type}(p:PV)(f:Bool->Res a):Res a:=match p with
 |.bl b=>f b|_=>.bad
section
variable(F:aF)
mutual
noncomputable def aE:E->Sl->Res PV
 |.var i,env=>gU env[i]?|.fY i,env=>Dx env[i]?|.cst p,_=>.ok p|.glob _ p,_=>.ok p|.call f as,env=>(bf as env).bind λps=>F f ps|.lC i as,env=>match env[i]? with
  |some (.fn g idx m)=>(bf as env).bind λps=>if idx.head?=hG ps.length then(fE (ps++m) idx.tail).bind λqs=>F g qs else .bad
  |_=>.bad
 |.sY f as _ _ d,env=>(bf as env).bind λps=>(mf env d).bind λcs=>F f (ps++cs)|.blt b as,env=>(bf as env).bind λps=>eE b ps|.ty t a,env=>(aE a env).bind λp=>mB t p|.bin o a b,env=>(aE a env).bind λx=>(aE b env).bind λy=>binOp o x y|.cmp o a b,env=>(aE a env).bind λx=>(aE b env).bind λy=>cW o x y|.ch q r a b c,env=>(aE a env).bind λx=>(aE b env).bind λy=>(cW q x y).bind λt=>sC t λt=>if t then(aE c env).bind λz=>cW r y z else .ok (.bl hU)
 |.not a,env=>(aE a env).bind λx=>sC x λb=>.ok (.bl (!b))|.neg a,env=>(aE a env).bind λx=>match x with|.int i=>.ok (.int (-i))|_=>.bad
 |.and a b,env=>(aE a env).bind λx=>sC x λt=>if t then aE b env else .ok (.bl hU)
 |.or a b,env=>(aE a env).bind λx=>sC x λt=>if t then .ok (.bl hQ) else aE b env
 |.ite c a b,env=>(aE c env).bind λx=>sC x λt=>if t then aE a env else aE b env
 |.tup as,env=>(bf as env).bind λps=>.ok (.tup ps)|.lst as,env=>(bf as env).bind λps=>.ok (.lst ps)|.sub a b,env=>(aE a env).bind λx=>(aE b env).bind λy=>aZ x y|.slice a lo s,env=>(aE a env).bind λx=>(xF lo env).bind λl=>(xF s env).bind λh=>fJ x l h|.comp k d j it elt,env=>(kR it env).bind λxs=>if xs.length<cV then(aY (λx=>(j.put x (kq k .no++eK env d)).bind λe=>(aE elt e).bind λy=>.ok (hG y)) xs).bind λys=>.ok (.lst ys) else .bad
 |.dN k d j it c elt,env=>(kR it env).bind λxs=>if xs.length<cV then(aY (λx=>(j.put x (kq k .no++eK env d)).bind λe=>(aE c e).bind λt=>sC t λt=>if t then(aE elt e).bind λy=>.ok (hG y) else .ok hI) xs).bind λys=>.ok (.lst ys) else .bad
 |.rev a,env=>(aE a env).bind λp=>match p with|.str z=>(if z.length<=cV then .ok (.str (rO z)) else .bad)|.tup xs=>.ok (.tup xs.reverse)|.lst xs=>.ok (.lst xs.reverse)|_=>.bad
 |.fld i f,env=>(gU env[i]?).bind λp=>F (bW f) [p]
noncomputable def bf:Es->Sl->Res (List PV)
 |.nil,_=>.ok []|.cons e a,env=>(aE e env).bind λp=>(bf a env).bind λps=>.ok (p::ps)
noncomputable def xF:Oe->Sl->Res (Option Int)
 |.no,_=>.ok hI|.some e,env=>(aE e env).bind λp=>match p with|.int i=>.ok (hG i)|_=>.bad
noncomputable def kR:I->Sl->Res (List PV)
 |.seq e,env=>(aE e env).bind (Dr e)|.mv e,env=>(aE e env).bind λp=>match p with|.int j=>if aU j then .ok (dF 0 j.toNat) else .bad|_=>.bad
 |.rP a b,env=>(aE a env).bind λp=>(aE b env).bind λq=>match p,q with|.int i,.int j=>if aU i&&aU j then .ok (dF i (j-i).toNat) else .bad|_,_=>.bad
 |.enum e,env=>(aE e env).bind λp=>(itemsOf p).bind λxs=>.ok (bR 0 xs)
end
end
inductive Fl where
 |nx (env:Sl)|bk (env:Sl)|ct (env:Sl)|rt (p:PV)
abbrev Fl.seq(f:Fl)(k:Sl->Res Fl):Res Fl:=match f with
 |.nx env=>k env|f=>.ok f
abbrev forL(body:PV->Sl->Res Fl):List PV->Sl->Res Fl
 |[],env=>.ok (.nx env)|x::xs,env=>(body x env).bind λf=>match f with
  |.nx a=>forL body xs a|.ct a=>forL body xs a|.bk a=>.ok (.nx a)|.rt p=>.ok (.rt p)
abbrev fv(c:Sl->Res PV)(body:Sl->Res Fl):Nat->Sl->Res Fl
 |0,_=>.bad|n+1,env=>(c env).bind λt=>sC t λt=>if t then(body env).bind λf=>(match f with
  |.nx a=>fv c body n a|.ct a=>fv c body n a|.bk a=>.ok (.nx a)|.rt p=>.ok (.rt p)) else .ok (.nx env)
noncomputable abbrev WN:Nat:=1000000
abbrev oM:Slot->Slot
 |.own p=>.val p|s=>s
section
variable(F:aF)
mutual
noncomputable def dj:S->Sl->Res Fl
 |.expr e,env=>(aE F e env).bind λZ=>.ok (.nx env)|.set i e,env=>(aE F e env).bind λp=>.ok (.nx (env.set i (.val p)))|.own i e,env=>(aE F e env).bind λp=>.ok (.nx (env.set i (.own p)))|.bw i,env=>.ok (.nx (env.modify i oM))|.app i e,env=>match env[i]? with
  |some (.own (.lst xs))=>(aE F e env).bind λp=>if xs.length<cV then .ok (.nx (env.set i (.own (.lst (xs++[p]))))) else .bad
  |_=>.bad
 |.qV i e,env=>match env[i]? with
  |some (.own (.lst xs))=>(aE F e env).bind λp=>match p with
   |.lst ys=>if xs.length+ys.length<=cV then .ok (.nx (env.set i (.own (.lst (xs++ys))))) else .bad
   |_=>.bad
  |_=>.bad
 |.put i k e,env=>(aE F e env).bind λp=>match env[i]? with
  |some (.own (.bE ks vs))=>(aE F k env).bind λkp=>match nF kp with
   |some kk=>if ks.length<cV then .ok (.nx (env.set i (.own (.bE (bS ks kk) (bK ks vs kk p))))) else .bad
   |none=>.bad
  |_=>.bad
 |.ret e,env=>(aE F e env).bind λp=>.ok (.rt p)|.ite c a b,env=>(aE F c env).bind λp=>sC p λt=>if t then bj a env else bj b env
 |.cL f it b,env=>(kR F it env).bind λxs=>forL (λx env=>(f.put x env).bind λg=>bj b g) xs env|.IU c b,env=>fv (aE F c) (bj b) WN env|.raise c _,_=>.exc c|.ng i,env=>.ok (.nx (env.set i (.own (.bE [] []))))|.fR i j n,env=>match env[j]?,env[i]?,env[n]? with
  |some (.own (.bE ks vs)),hG (.own (.bE d h)),hG (.val kp)=>match nF kp with
   |some kk=>match ay ks vs kk with
    |some p=>if d.length<cV/\i≠j then .ok (.nx ((env.set j (.own (.bE (cm ks kk) (aW ks vs kk)))).set i (.own (.bE (bS d kk) (bK d h kk p))))) else .bad
    |none=>.bad
   |none=>.bad
  |_,_,_=>.bad
 |.oX m i,env=>match env[i]? with
  |some (.own (.bE ks vs))=>match jc vs with
   |some cs=>match(A4 cs).bind λx=>ks[x]? with
    |some k=>.ok (.nx (env.set m (.val (cg k))))|none=>.bad
   |none=>.bad
  |_=>.bad
 |.Dk i e,env=>match env[i]? with
  |some (.own (.lst xs))=>(aE F e env).bind λp=>if kh p&&xs.all kh then(match xs.findIdx? λy=>eqv y p with
   |some j=>.ok (.nx (env.set i (.own (.lst (xs.eraseIdx j)))))|none=>.bad) else .bad
  |_=>.bad
 |.iF j i e,env=>match env[i]? with
  |some (.own (.lst ys))=>(aE F e env).bind λp=>match p with
   |.int n=>if 0<=n/\n<ys.length/\ys.length<cV then(Res.of ys[n.toNat]?).bind λq=>.ok (.nx ((env.set i (.own (.lst (ys.eraseIdx n.toNat)))).set j (.val q))) else .bad
   |_=>.bad
  |_=>.bad
noncomputable def bj:Ss->Sl->Res Fl
 |.nil,env=>.ok (.nx env)|.cons s ss,env=>(dj s env).bind λf=>f.seq (bj ss)
end
end
structure Def where
 N:List Str
 np:Nat
 body:Ss
 i5:Option (Str×List Nat):=hI
abbrev dO(d:Def)(as:List PV):Sl:=match d.i5 with
 |none=>as.map .val++kq (d.N.length-as.length) .no|some q=>(as.take (d.np-1)).map .val++.fn q.1 q.2 (as.drop (d.np-1))::kq (d.N.length-d.np) .no
abbrev dI(d:Def)(as:List PV):Bool:=match d.i5 with
 |none=>as.length==d.np|some _=>decide (0<d.np)&&decide (d.np-1<=as.length)
abbrev aH(F:aF)(d:Def)(as:List PV):Res PV:=
 if dI d as then(bj F d.body (dO d as)).bind λf=>match f with
  |.nx _=>.ok .aL|.rt p=>.ok p|_=>.bad
 else .bad
abbrev aA(B:aF):List (Str×Def)->aF
 |[],f,as=>B f as|(n,d)::r,f,as=>if f==n then aH (aA B r) d as else aA B r f as
noncomputable abbrev SW:aF:=λZ Z=>.bad
noncomputable abbrev den:List (Str×Def)->aF:=aA SW
abbrev Qd(x:Str):Bool:=x.cps[0]?==hG 64
noncomputable abbrev ki(k:List Int):List Key:=k.map Sum.inl
def v5{a b:List Int}(h:ki a=ki b):a=b:=by
 induction a generalizing b with
 |nil=>cases b with|nil=>rfl|cons=>cases h
 |cons x a c=>cases b with
  |nil=>cases h
  |cons y b=>simp! [ki,a9,List.cons.injEq,Sum.inl.injEq] at h;rw [h.1,c h.2]
def ux(k:List Int):(ki k).map kV=k.map V.int:=by unfold ki;rw [List.map_map];rfl
theorem kb{k:List Int}{ks:kB}{u:V}{us:List V}:kz (k::ks) (u::us)=(ki k,u)::kz ks us:=rfl
def iz{ks:kB}{us:List V}(h:ks.length=us.length):(kz ks us).length=ks.length:=by unfold kz;rw [List.length_zip,zzl];lia
def ya{ks:kB}{us:List V}(h:ks.length=us.length):(kz ks us).map (·.1)=ks.map ki:=by unfold kz;exact List.map_fst_zip (by rw [zzl];lia)
theorem kU(k:List Int):∀(ks:kB) (us:List V),iZ (kz ks us) (ki k)=ay ks us k
 |[],us=>by unfold ay;rfl|a::ks,[]=>by unfold ay;rfl|a::ks,u::us=>by
  rw [kb];unfold ay;by_cases h:a=k
  .subst h;rw [if_pos rfl];exact iK rfl
  .rw [if_neg h,iJ (λz=>h (v5 z))];exact kU k ks us
theorem mG{b:Type}(k:List Int):∀(ks:kB) (us:List b),ks.length=us.length->(ay ks us k).isSome=cq ks k
 |[],[],_=>rfl|a::ks,u::us,h=>by
  unfold ay cq;rw [List.any_cons];by_cases e:a=k
  .simp [e]
  .rw [if_neg e];have:=mG k ks us (zx6 h);unfold cq at this;rw [this];simp [e]
 |[],_::_,h=>by simp at h|_::_,[],h=>by simp at h
def Jk(k:List Int):∀(ks:kB) (us:List V),ks.length=us.length->((kz ks us).any λa=>decide (a.1=ki k))=cq ks k:=λks us h=>by rw [om,kU,mG k ks us h]
def B7{ks:kB}{us:List V}(h:ks.length=us.length)(k:List Int)(v:V):putK (kz ks us) (ki k) v=kz (bS ks k) (bK ks us k v):=by
 unfold putK bS bK;rw [Jk k ks us h];split
 .have go:∀(ks:kB) (us:List V),(kz ks us).map (λb=>if b.1=ki k then(b.1,v) else b)=kz ks (List.zipWith (λc u=>if c=k then v else u) ks us):=by
   intro ks
   induction ks with
   |nil=>intro us;simp [kz]|cons a ks d=>
    intro us;cases us with
    |nil=>simp [kz]|cons u us=>
     rw [kb,a9,List.zipWith_cons_cons,kb,d];by_cases e:a=k
     .simp [e]
     .rw [if_neg (λz=>e (v5 z)),if_neg e]
  exact go ks us
 .unfold kz;rw [List.map_append,List.zip_append (by rw [zzl];exact h)];rfl
def uT{a:Type}{ks:kB}{us:List a}(h:ks.length=us.length)(k:List Int)(v:a):(bS ks k).length=(bK ks us k v).length:=by
 unfold bS bK;split
 .rw [List.length_zipWith];lia
 .simp [h]
theorem x9(k:List Int):∀{ks:kB} {us:List V},ks.length=us.length->gO (kz ks us) (ki k)=kz (cm ks k) (aW ks us k)
 |[],[],_=>rfl|a::ks,u::us,h=>by
  have b:=x9 k (ks:=ks) (us:=us) (zx6 h);unfold cm aW;rw [kb,g6];by_cases e:a=k
  .subst e;rw [zA rfl,b];simp [cm]
  .rw [zy (λz=>e (v5 z)),b,if_neg e,if_pos (zx6 e),kb];rfl
 |[],_::_,h=>by simp at h|_::_,[],h=>by simp at h
theorem tQ{c:Type}(k:List Int):∀{ks:kB} {us:List c},ks.length=us.length->(cm ks k).length=(aW ks us k).length
 |[],[],_=>by unfold aW;rfl|a::ks,u::us,h=>by
  have b:=tQ k (ks:=ks) (us:=us) (zx6 h);unfold cm aW;rw [g6];by_cases e:a=k
  .subst e;rw [if_neg (by simp),if_pos rfl];exact b
  .rw [if_neg e,if_pos (zx6 e),cS,cS];exact congrArg (·+1) b
 |[],_::_,h=>by simp at h|_::_,[],h=>by simp at h
section
variable{W:Wd}
theorem sj{k:List Int}:∀{ks:kB} {ps:List PV} {us:List V},ag W G ps us->ay ks ps k=hG p->∃v,ay ks us k=hG v/\Rep W G p v
 |[],_,_,_,e=>by unfold ay at e;cases e
 |a::ks,[],_,_,e=>by unfold ay at e;cases e
 |a::ks,q::ps,_,l,e=>by
  let(v,r,rfl,b,c):=l.cx;unfold ay at e⊢;by_cases h:a=k
  .rw [if_pos h] at e⊢;cases e;exact⟨v,rfl,b⟩
  .rw [if_neg h] at e⊢;exact sj c e
theorem DU{k:List Int}(c:Rep W G p v):∀{ks:kB} {ps:List PV} {us:List V},ag W G ps us->ag W G (List.zipWith (λb v=>if b=k then p else v) ks ps) (List.zipWith (λb u=>if b=k then v else u) ks us)
 |[],_,_,_=>by simp! [List.zipWith_nil_left];exact .nil|a::ks,[],_,l=>by simp! [ag] at l;subst l;simp! [List.zipWith_nil_right];exact .nil|a::ks,q::ps,_,l=>by
  let(u,r,rfl,d,e):=l.cx;rw [List.zipWith_cons_cons,List.zipWith_cons_cons];refine .cons ?_ (DU c e);split
  .exact c
  .exact d
def yv{ks:kB}{us:List V}{k:List Int}(l:ag W G ps us)(a:Rep W G p v):ag W G (bK ks ps k p) (bK ks us k v):=by
 unfold bK;split
 .exact DU a l
 .exact l.append (.cons a .nil)
theorem nh{k:List Int}:∀{ks:kB} {ps:List PV} {us:List V},ag W G ps us->ag W G (aW ks ps k) (aW ks us k)
 |[],_,_,_=>by unfold aW;exact .nil|a::ks,[],_,l=>by simp! [ag] at l;subst l;unfold aW;exact .nil|a::ks,q::ps,_,l=>by
  let(u,r,rfl,c,b):=l.cx;unfold aW;split
  .exact nh b
  .exact .cons c (nh b)
end
theorem qc:∀{xs:List PV} {ns:List Int},intsOf xs=hG ns->xs=ns.map .int
 |[],_,e=>by cases e;rfl
 |.int i::r,_,e=>by unfold intsOf at e;let(ns,a,rfl):=b4.mp e;rw [qc a];rfl|.aL::_,_,e=>by cases e
 |.bl _::_,_,e=>by cases e
 |.str _::_,_,e=>by cases e
 |.tup _::_,_,e=>by cases e
 |.lst _::_,_,e=>by cases e
 |.exc _::_,_,e=>by cases e
 |.bE _ _::_,_,e=>by cases e
def j9{k:List Int}(h:nF p=hG k):p=cg k:=by
 unfold nF at h;split at h
 .rw [qc h];rfl
 .cases h
end Ci
variable{it:Ci.I}
namespace L2
open PySem.Spec PyProof.Rows
end L2
namespace Ci
open L2
def iB{n:Nat}(h:n<=cV):n<=sizeLine:=ee h (by decide)
section
variable{W:Wd}
def dm(W:Wd)(G H:Hp)(r:PV)(Q:VK):Prop:=∀v a b,aD W G H a b->Rep W a r v->Q v b
def dm.at{r:PV}(h:dm W G H r Q)(s:ax G H)(k:Rep W G r v):Q v H:=h v G H (.refl s) k
def dm.tup{p:h9}(h:dm W G H (.tup xs) Q)(s:ax G H)(k:ag W G xs vs)(a:H p=hI):Q (.ref p) (upd H p (.tup vs)):=
 h _ _ _ (.new s a) (.t (.inl aq) (ag.same (cj (s.free a)) xs k))
def dm.lst{p:h9}(h:dm W G H (.lst xs) Q)(s:ax G H)(k:ag W G xs vs)(a:H p=hI):Q (.ref p) (upd H p (.lst vs)):=
 h _ _ _ (.new s a) (.l (.inl (.inl aq)) (ag.same (cj (s.free a)) xs k))
theorem mF{f:PV->PV->Bool}:∀{xs ys:List PV},xs.length≠ys.length->eqs f xs ys=hU
 |[],[],h=>absurd rfl h|_::xs,_::ys,h=>by simp! [eqs];rw [mF (xs:=xs) (ys:=ys) (λz=>h (by simp [z]))];simp|[],_::_,_=>rfl|_::_,[],_=>rfl
theorem mE{f:PV->PV->Bool}:∀{xs ys:List PV},xs.length=ys.length->eqs f xs ys=(List.range xs.length).all λj=>f (xs.getD j .aL) (ys.getD j .aL)
 |[],[],_=>rfl|x::xs,y::ys,h=>by simp! [eqs];rw [mE (xs:=xs) (ys:=ys) (zx6 h),cS,List.range_succ_eq_map,List.all_cons,List.all_map];rfl|[],_::_,h=>by simp at h|_::_,[],h=>by simp at h
def pW{f:PV->PV->Bool}:∀{xs ys:List PV},((List.range (min xs.length ys.length)).all (λj=>f (xs.getD j .aL) (ys.getD j .aL))&&xs.length==ys.length)=eqs f xs ys:=λ{xs ys}=>by
 by_cases h:xs.length=ys.length
 .rw [mE h,h,Nat.min_self,beq_self_eq_true,Bool.and_true]
 .rw [mF h,beq_eq_false_iff_ne.mpr h,Bool.and_false]
theorem tU{f:PV->PV->Bool}:∀{xs ys:List PV},xs.length=ys.length->(∀(j:Nat) x y,xs[j]?=hG x->ys[j]?=hG y->f x y=hQ)->eqs f xs ys=hQ
 |[],[],_,_=>rfl|x::xs,y::ys,h,k=>by simp! [eqs];rw [k 0 x y rfl rfl,tU (xs:=xs) (ys:=ys) (zx6 h) λj a b c d=>k (j+1) a b (zx6 c) (zx6 d)];rfl|[],_::_,h,_=>by simp at h|_::_,[],h,_=>by simp at h
def u9(hK:W.K=X.K){a:h9}{vs:List V}(h:su W.K H a vs):kJ X.K H a vs:=by
 rw [hK] at h;rcases h with h|⟨b,n,c,d,e⟩
 .exact .inl h
 .exact .inr {_,b,n,c,rfl,rfl,rfl,d,e}
def uH{c:kv}{d:St}{s:hW}(I:Inv X c d H s){us:List V}(f:fC X.K H a vs)(g:kJ X.K H a us):False:=by let(i,_,(o,e,h,_),_):=I.tuple f;let(j,_,(k,n,b,lJ,_),_):=I.list g;rw [e] at b;cases b;rw [h] at lJ;exact absurd lJ (by decide)
theorem kZ{c:Type}:∀{xs ys:List c},xs.length=ys.length->(∀(j:Nat) x y,xs[j]?=hG x->ys[j]?=hG y->x=y)->xs=ys
 |[],[],_,_=>rfl|x::xs,y::ys,h,k=>by rw [k 0 x y rfl rfl,kZ (xs:=xs) (ys:=ys) (zx6 h) λj a b d e=>k (j+1) a b (zx6 d) (zx6 e)]|[],_::_,h,_=>by simp at h|_::_,[],h,_=>by simp at h
def V0(X:Cx)(W:Wd)(G H:Hp):PV->V->Prop
 |.aL,v=>v=.aL|.bl b,v=>v=.bl b|.int i,v=>v=.int i|.str z,v=>v=.str z|.tup xs,v=>∃a,v=.ref a/\∃vs,fC X.K H a vs/\ag W G xs vs|.lst xs,v=>∃a,v=.ref a/\∃vs,kJ X.K H a vs/\ag W G xs vs|_,_=>False
def QO(hK:W.K=X.K)(g:ax G H){n:Nat}(d:plain n p=hQ)(h:Top W H0 G H p v):V0 X W G H p v:=by
 cases p with
 |aL=>exact h.aL|bl b=>exact h.bl|int i=>exact h.int|str z=>exact h.str|tup xs=>let(a,f,e,sq,l):=h.tup g;rw [hK] at sq;exact⟨a,e,f,sq,l⟩|lst xs=>let(a,f,e,sq,l):=h.lst g;exact{a,e,f,u9 hK sq,l}|exc c=>cases n<;>exact aN d
 |obj c=>cases n<;>exact aN d
 |bE a b=>cases n<;>exact aN d
def yz{B:kv}{C:St}{s:hW}(I:Inv X B C H s)(hK:W.K=X.K)(h:ax G H):∀(n:Nat) {p q:PV} {v:V},plain n p=hQ->plain n q=hQ->Top W H0 G H p v->Top W H0 G H q v->p=q:=by
 intro n
 induction n with
 |zero=>
  intro p q v c d r t;have a:=QO hK h c r;have b:=QO hK h d t;cases p<;>cases q<;>first|exact aN c|exact aN d|(cases a;cases b;rfl)|(cases a;cases b)
 |succ n D=>
  intro p q v c d r t;have a:=QO hK h c r;have b:=QO hK h d t
  have z:∀{xs i:List PV} {k:List V},xs.all (plain n)=hQ->i.all (plain n)=hQ->ag W G xs k->ag W G i k->xs=i:=λ{xs i k} a1 a2 e f=>kZ (by rw [<-e.length,f.length]) λj x y ex A=>by let(u,E,F):=e.oN ex;let(M,g,L):=f.get E;rw [A] at g;cases g;exact D (ed.mp a1 _ (a7 ex)) (ed.mp a2 _ (a7 A)) (.inl F) (.inl L)
  cases p<;>cases q<;>first|exact aN c|exact aN d|(cases a;cases b;done)|(cases a;cases b;rfl)|(let(_,e1,_):=a;cases b;cases e1;done)|(let(_,w,_):=b;cases a;cases w;done)|(let(x,rfl,k,m,e):=a;let(y,w,N,o,f):=b;cases w;first|exact(uH I m o).elim|exact(uH I o m).elim|(cases I.qr m o;rw [z c d e f])|(cases I.uA m o;rw [z c d e f]))
def j1:∀{n:Nat} {p:PV},plain n p=hQ->kQ n p p=hQ:=by
 intro n
 induction n with
 |zero=>intro p h;cases p<;>first|exact aN h|rfl|exact beq_self_eq_true _
 |succ n b=>
  intro p h;cases p<;>first|exact aN h|rfl|exact beq_self_eq_true _|exact tU rfl λj x y e1 a=>by rw [e1] at a;cases a;exact b (ed.mp h _ (a7 e1))
def xB{b:kv}{c:St}{s:hW}(I:Inv X b c H s)(hK:W.K=X.K)(d:ax G H):∀(n:Nat) {p q:PV} {v:V},plain n p=hQ->plain n q=hQ->Top W H0 G H p v->Top W H0 G H q v->kQ n p q=hQ:=λn {p q v} a e f g=>by cases yz I hK d n a e f g;exact j1 a
def mK{x:V}(r:RelV x (.ref a)):x=.ref a:=by
 cases x<;>first|(cases r;rfl)|(let(_,h):=r;cases h)|cases r
def VZ(W:Wd)(G:Hp)(h:i1):PV->hV->Prop
 |.aL,v=>∃_t:Nat,v=.none/\True|.bl b,v=>∃_t:Nat,v=.bool b/\True|.int i,v=>∃t,v=.int i t/\True|.str z,v=>∃t,v=.str z t/\True|.tup xs,v=>∃a,v=.ref a/\∃c vs,ag W G xs vs/\Vals vs c/\h.IsTuple a c.toArray|.lst xs,v=>∃a,v=.ref a/\∃c vs,ag W G xs vs/\Vals vs c/\h.IsList a c.toArray|_,_=>False
def IE{k:kv}{m:St}{s:hW}(I:Inv X k m H s)(hK:W.K=X.K)(g:ax G H){n:Nat}{j:hV}(d:plain n p=hQ)(h:Top W H0 G H p v)(r:RelV v j):VZ W G s.heap p j:=by
 cases p with
 |aL=>cases h.aL;cases r;exact{0,rfl,trivial}
 |bl b=>cases h.bl;cases r;exact{0,rfl,trivial}
 |int i=>cases h.int;let(t,rfl):=r;exact⟨t,rfl,trivial⟩
 |str z=>cases h.str;let(t,rfl):=r;exact⟨t,rfl,trivial⟩
 |tup xs=>let(a,e,rfl,sq,l):=h.tup g;rw [hK] at sq;cases r;let(f,q,z,_):=I.tuple sq;exact⟨a,rfl,f,e,l,q,z⟩
 |lst xs=>let(a,e,rfl,sq,l):=h.lst g;cases r;let(f,q,z,_):=I.list (u9 hK sq);exact⟨a,rfl,f,e,l,q,z.isList⟩
 |exc c=>cases n<;>exact aN d
 |obj c=>cases n<;>exact aN d
 |bE a b=>cases n<;>exact aN d
def sO(W:Wd)(G:Hp)(s:hW)(n:Nat)(A:il)(xs ys:List PV):Prop:=∀{c d:List V} {a b:List hV},ag W G xs c->ag W G ys d->Vals c a->Vals d b->∀j (e:j<a.toArray.size) (f:j<b.toArray.size),SeqAt.EqAt A s a.toArray[j] b.toArray[j] (kQ n (xs.getD j .aL) (ys.getD j .aL))
theorem Bq{s:hW}{n:Nat}(h:∀{p q:PV} {v u:V} {a b:hV},plain n p=hQ->plain n q=hQ->Rep W G p v->Rep W G q u->RelV v a->RelV u b->SeqAt.EqAt A s a b (kQ n p q))(d:xs.all (plain n)=hQ)(a2:ys.all (plain n)=hQ):sO W G s n A xs ys:=λ{z us B C} e f g i j g1 g2=>by let(x,k,m):=DR g g1;let(y,o,r):=DR i g2;let(D,ex,t):=e.get k;let(E,c,w):=f.get o;rw [cP,cP,ex,c];exact h (ed.mp d _ (a7 ex)) (ed.mp a2 _ (a7 c)) t w m r
def yx{s:hW}{n:Nat}{b:h9}(h:A.units<cLine)(i:sO W G s n A.in1 xs ys)(k1:∃c vs,ag W G xs vs/\Vals vs c/\s.heap.IsTuple a c.toArray)(k2:∃c vs,ag W G ys vs/\Vals vs c/\s.heap.IsTuple b c.toArray):SeqAt.RcAt A s (.ref a) (.ref b) (eqs (kQ n) xs ys):=by
 let(c,vs,l,d,k):=k1;let(m,p,f,g,o):=k2;have m1:c.length=xs.length:=by rw [<-d.length,l.length]
 have m2:m.length=ys.length:=by rw [<-g.length,f.length]
 have:=SeqAt.RcAt.tuples (e:=λj=>kQ n (xs.getD j .aL) (ys.getD j .aL)) k o h (i l f d g);rw [a0,a0,m1,m2,pW] at this;exact this
def yw{s:hW}{n:Nat}{b:h9}(d:A.units<cLine)(m:sO W G s n A.in1 xs ys)(k1:∃c vs,ag W G xs vs/\Vals vs c/\s.heap.IsList a c.toArray)(k2:∃c vs,ag W G ys vs/\Vals vs c/\s.heap.IsList b c.toArray):SeqAt.RcAt A s (.ref a) (.ref b) (eqs (kQ n) xs ys):=by
 let(c,vs,l,f,g):=k1;let(o,p,h,i,k):=k2;have m1:c.length=xs.length:=by rw [<-f.length,l.length]
 have m2:o.length=ys.length:=by rw [<-i.length,h.length]
 by_cases hl:xs.length=ys.length
 .have:=SeqAt.RcAt.lists (e:=λj=>kQ n (xs.getD j .aL) (ys.getD j .aL)) g k (by rw [a0,a0];lia) d (m l h f i);rw [a0,m1,<-mE hl] at this;exact this
 .have:=SeqAt.RcAt.lists_lengths g k (by rw [a0,a0,m1,m2];simp [hl]) d;rw [mF hl];exact this
open SeqAt.EqAt in
def Br{C:kv}{D:St}{s:hW}(I:Inv X C D H s)(hK:W.K=X.K)(m:ax G H):∀(n:Nat) {A:il} {p q:PV} {v u:V} {r t:hV},A.units+(n+1)<cLine->plain n p=hQ->plain n q=hQ->Top W H0 G H p v->Top W H0 G H q u->RelV v r->RelV u t->
 SeqAt.EqAt A s r t (kQ n p q):=by
 intro n
 induction n with
 |zero=>
  intro A p q v u r t E d e h i j k;have a:=IE I hK m d h j;have b:=IE I hK m e i k;cases p<;>cases q<;>first|exact aN d|exact aN e|(let(w,rfl,_):=a;let(t2,rfl,_):=b)
  exact same _;exact none_bool _;exact none_int _ _;exact none_str _ _;exact bool_none _;exact bool_bool _ _;exact bool_int _ _ _;exact bool_str _ _ _;exact int_none _ _;exact int_bool _ _ _;exact int_int _ _ _ _;exact int_str _ _ _ _;exact str_none _ _;exact str_bool _ _ _;exact str_int _ _ _ _;exact str_str _ _ _ _
 |succ n F=>
  intro A p q v u r t E d e h i j k;have c:A.units<cLine:=by lia
  have a:=IE I hK m d h j;have b:=IE I hK m e i k;have z:∀{xs B:List PV},xs.all (plain n)=hQ->B.all (plain n)=hQ->sO W G s n A.in1 xs B:=λL a2=>Bq (λd e h i j k=>F (by show A.units+1+(n+1)<_;lia) d e (.inl h) (.inl i) j k) L a2;cases p<;>cases q<;>first|exact aN d|exact aN e|(let(w,rfl,y):=a;let(t2,rfl,k2):=b;try let(_,_,_,_,f):=id y;try let(_,_,_,_,g):=id k2)
  exact same _;exact none_bool _;exact none_int _ _;exact none_str _ _;exact none_tuple g c;exact none_list g c;exact bool_none _;exact bool_bool _ _;exact bool_int _ _ _;exact bool_str _ _ _;exact bool_tuple _ g c;exact bool_list _ g c;exact int_none _ _;exact int_bool _ _ _;exact int_int _ _ _ _;exact int_str _ _ _ _;exact int_tuple _ _ g c;exact int_list _ _ g c;exact str_none _ _;exact str_bool _ _ _;exact str_int _ _ _ _;exact str_str _ _ _ _;exact str_tuple _ _ g c;exact str_list _ _ g c;exact tuple_none f c;exact tuple_bool _ f c;exact tuple_int _ _ f c;exact tuple_str _ _ f c;by_cases o:w=t2
  .subst o;cases mK j;cases mK k;rw [xB I hK m (n+1) d e h i];exact same _
  .exact of_refs o (yx c (z d e) y k2)
  exact tuple_list f g c;exact list_none f c;exact list_bool _ f c;exact list_int _ _ f c;exact list_str _ _ f c;exact list_tuple f g c;by_cases o:w=t2
  .subst o;cases mK j;cases mK k;rw [xB I hK m (n+1) d e h i];exact same _
  .exact of_refs o (yw c (z d e) y k2)
end
section
variable{W:Wd}
open SeqAt.RcAt in
def Pc{z:kv}{B:St}{s:hW}(I:Inv X z B H s)(hK:W.K=X.K)(h:ax G H)(n:Nat){u:V}{r t:hV}(D:A.units+(n+2)<cLine)(f:plain (n+1) p=hQ)(g:plain (n+1) q=hQ)(i:Top W H0 G H p v)(j:Top W H0 G H q u)(k:RelV v r)(m:RelV u t):
 SeqAt.RcAt A s r t (kQ (n+1) p q):=by
 have c:A.units<cLine:=by lia
 have a:=IE I hK h f i k;have b:=IE I hK h g j m;have w:∀{xs y:List PV},xs.all (plain n)=hQ->y.all (plain n)=hQ->sO W G s n A.in1 xs y:=λC a2=>Bq (λf g i j k m=>Br (H0:=H0) I hK h n (by show A.units+1+(n+1)<_;lia) f g (.inl i) (.inl j) k m) C a2;cases p<;>cases q<;>first|exact aN f|exact aN g|(let(E,rfl,o):=a;let(t2,rfl,k2):=b;try let(_,_,_,_,d):=id o;try let(_,_,_,_,e):=id k2)
 exact none_none;exact none_bool _;exact none_int _ _;exact none_str _ _;exact none_tuple e c;exact none_list e c;exact bool_none _;exact bool_bool _ _;exact bool_int _ _ _;exact bool_str _ _ _;exact bool_tuple _ e c;exact bool_list _ e c;exact int_none _ _;exact int_bool _ _ _;exact int_int _ _ _ _;exact int_str _ _ _ _;exact int_tuple _ _ e c;exact int_list _ _ e c;exact str_none _ _;exact str_bool _ _ _;exact str_int _ _ _ _;exact str_str _ _ _ _;exact str_tuple _ _ e c;exact str_list _ _ e c;exact tuple_none d c;exact tuple_bool _ d c;exact tuple_int _ _ d c;exact tuple_str _ _ d c;exact yx c (w f g) o k2;exact tuple_list d e c;exact list_none d c;exact list_bool _ d c;exact list_int _ _ d c;exact list_str _ _ d c;exact list_tuple d e c;exact yw c (w f g) o k2
def Ao{s:hW}{n:Nat}{b:h9}(h:A.units<cLine)(i:sO W G s n A.in1 xs ys)(k1:∃c vs,ag W G xs vs/\Vals vs c/\s.heap.IsTuple a c.toArray)(k2:∃c vs,ag W G ys vs/\Vals vs c/\s.heap.IsTuple b c.toArray):SeqAt.RcNeAt A s (.ref a) (.ref b) (!eqs (kQ n) xs ys):=by
 let(c,vs,l,d,k):=k1;let(m,p,f,g,o):=k2;have m1:c.length=xs.length:=by rw [<-d.length,l.length]
 have m2:m.length=ys.length:=by rw [<-g.length,f.length]
 have:=SeqAt.RcNeAt.tuples (e:=λj=>kQ n (xs.getD j .aL) (ys.getD j .aL)) k o h (i l f d g);rw [a0,a0,m1,m2,pW] at this;exact this
def An{s:hW}{n:Nat}{b:h9}(d:A.units<cLine)(m:sO W G s n A.in1 xs ys)(k1:∃c vs,ag W G xs vs/\Vals vs c/\s.heap.IsList a c.toArray)(k2:∃c vs,ag W G ys vs/\Vals vs c/\s.heap.IsList b c.toArray):SeqAt.RcNeAt A s (.ref a) (.ref b) (!eqs (kQ n) xs ys):=by
 let(c,vs,l,f,g):=k1;let(o,p,h,i,k):=k2;have m1:c.length=xs.length:=by rw [<-f.length,l.length]
 have m2:o.length=ys.length:=by rw [<-i.length,h.length]
 by_cases hl:xs.length=ys.length
 .have:=SeqAt.RcNeAt.lists (e:=λj=>kQ n (xs.getD j .aL) (ys.getD j .aL)) g k (by rw [a0,a0];lia) d (m l h f i);rw [a0,m1,<-mE hl] at this;exact this
 .have:=SeqAt.RcNeAt.lists_lengths g k (by rw [a0,a0,m1,m2];simp [hl]) d;rw [mF hl];exact this
open SeqAt.RcNeAt in
def GL{z:kv}{B:St}{s:hW}(I:Inv X z B H s)(hK:W.K=X.K)(h:ax G H)(n:Nat){u:V}{r t:hV}(D:A.units+(n+2)<cLine)(f:plain (n+1) p=hQ)(g:plain (n+1) q=hQ)(i:Top W H0 G H p v)(j:Top W H0 G H q u)(k:RelV v r)(m:RelV u t):
 SeqAt.RcNeAt A s r t (!kQ (n+1) p q):=by
 have c:A.units<cLine:=by lia
 have a:=IE I hK h f i k;have b:=IE I hK h g j m;have w:∀{xs y:List PV},xs.all (plain n)=hQ->y.all (plain n)=hQ->sO W G s n A.in1 xs y:=λC a2=>Bq (λf g i j k m=>Br (H0:=H0) I hK h n (by show A.units+1+(n+1)<_;lia) f g (.inl i) (.inl j) k m) C a2;cases p<;>cases q<;>first|exact aN f|exact aN g|(let(E,rfl,o):=a;let(t2,rfl,k2):=b;try let(_,_,_,_,d):=id o;try let(_,_,_,_,e):=id k2)
 exact none_none;exact none_bool _;exact none_int _ _;exact none_str _ _;exact none_tuple e c;exact none_list e c;exact bool_none _;exact bool_bool _ _;exact bool_int _ _ _;exact bool_str _ _ _;exact bool_tuple _ e c;exact bool_list _ e c;exact int_none _ _;exact int_bool _ _ _;exact int_int _ _ _ _;exact int_str _ _ _ _;exact int_tuple _ _ e c;exact int_list _ _ e c;exact str_none _ _;exact str_bool _ _ _;exact str_int _ _ _ _;exact str_str _ _ _ _;exact str_tuple _ _ e c;exact str_list _ _ e c;exact tuple_none d c;exact tuple_bool _ d c;exact tuple_int _ _ d c;exact tuple_str _ _ d c;exact Ao c (w f g) o k2;exact tuple_list d e c;exact list_none d c;exact list_bool _ d c;exact list_int _ _ d c;exact list_str _ _ d c;exact list_tuple d e c;exact An c (w f g) o k2
end
end Ci
namespace L2
open PySem.Spec PyProof.Rows
open PySem.AutoSeq1 (wpAny_loadPart')
theorem wO(l:h9)(a:Array hV)(n:Nat)(dd:Option h9)(b:Array (Option hV))(u:Tok):
 Meets (jj.«tuple.__mul__» {[.ref l,.int 1 u],[]}) (λZ R s=>s.heap.get? l=hG {cls:=.type "tuple",dict:=dd,data:=.seq a n,slots:=b}/\R (.ok (.ret (hV.ref l))) s):=
 .of_wp λprog w A R s h=>by
  let(c,g,d,e,os):=s;let(hl,h):=h;have f:=PySem.AutoSeq1.idx_int;have i:=PySem.AutoSeq1.sub_tuple_tuple
  wp_walk using wpAny_loadPart' hl
  exact{_,rfl,h}
def CD:gB X (binaryOp .Mult) (λx y H Q=>∃a xs,x=.ref a/\y=.int 1/\fC X.K H a xs/\Q (.ref a) H):=by
 intro w s z H x y v u Q I i j h;let(a,xs,rfl,rfl,m,q):=h;cases i;let(t,rfl):=j;let(c,r,o,_):=I.tuple m;let((cls,d,e,f),b,g,k,hd):=id o
 simp only at g hd;subst g hd;refine wpAny_binaryOp_repeat_ref (T:="tuple") (U:="int") (by decide) {_,b,rfl} (λp=>typeIs_int p 1 t) gh PySem.F.fills_int_mul PySem.F.slot_int_rmul ko PySem.F.slot_int_index.lookup
  (call_meets PySem.F.slot_int_rmul (typeIs_int s 1 t) PySem.F.entry_int_rmul (PySem.F.args_int_rmul_2 _ _) (iw 1 t a c.toArray k d f)
   {b,rfl,{_,b,rfl},call_meets PySem.F.slot_tuple_mul {_,b,rfl} PySem.F.entry_tuple_mul (PySem.F.args_tuple_mul_2 _ _) (wO a c.toArray k d f t) {b,?_}})
 exact{.ref a,H,I,rfl,q}
end L2
namespace Ci
open L2
section
variable{W:Wd}
def FL(hK:W.K=X.K){d:kv}{f:St}{s:hW}{xs:List V}(I:Inv X d f H s)(h:su W.K H a xs):∃(b:List hV) (n:Nat),Vals xs b/\xs.length=b.length/\xs.length<=i2/\s.heap.get? a=hG {cls:=.type "list",data:=.seq b.toArray n}:=by
 rw [hK] at h;rcases h with h|⟨b,n,g,i,c⟩
 .let(z,b,n,r,e):=h.ok I.aR;exact⟨b,n,r,r.length,z,e⟩
 .refine{b.toList,n,c,c.length,?_,by simpa using I.kS a _ g};rw [c.length,ey];exact i
def Gd(hK:W.K=X.K):gB X (binaryOp .Add) (λx y H Q=>∃l b xs zs,x=.ref l/\y=.ref b/\su W.K H l xs/\su W.K H b zs/\xs.length+zs.length<=i2/\∀p,H p=hI->Q (.ref p) (upd H p (.lst (xs++zs)))):=by
 intro o s t H x y v u Q I d f h;let(l,b,xs,zs,rfl,rfl,g,i,w,q):=h;cases d;cases f;let(a,n,r,hl,_,e):=FL hK I g;let(c,z,j,A,_,k):=FL hK I i;refine PySem.P.add_list e k ?_ (by rw [a0,a0];lia);have m:a.toArray++c.toArray=(a++c).toArray:=by simp
 rw [m];exact{.ref _,_,I.SF (t':=s.toks) (r.append j) (by rw [c7];lia),rfl,q _ I.fresh}
theorem ag.rep(h:ag W G ps vs):∀k:Nat,ag W G (kq k ps).flatten (kq k vs).flatten
 |0=>.nil|k+1=>by rw [List.replicate_succ,List.replicate_succ,List.flatten_cons,List.flatten_cons];exact h.append (h.rep k)
def Gf:gB X (binaryOp .Add) (λx y H Q=>∃a b xs ys,x=.ref a/\y=.ref b/\fC X.K H a xs/\fC X.K H b ys/\xs.length+ys.length<=i2/\(xs=[]->Q (.ref b) H)/\(ys=[]->Q (.ref a) H)/\∀p,H p=hI->Q (.ref p) (upd H p (.tup (xs++ys)))):=by
 intro w s z H x y v u Q I A B h;let(a,b,xs,ys,rfl,rfl,i,j,C,D,E,G):=h;cases A;cases B;by_cases k:xs=[]
 .subst k;let(L,M,N,_):=I.tuple i;let(O,V,P,_):=I.tuple j;have e1:L=[]:=M.mH.mpr rfl;subst e1;let((cls,R,m,S),o,q,n,hd):=id N;let((r,d,f,g),t,lJ,T,c):=id P
  simp only at q hd lJ c;subst q hd lJ c;exact PySem.concat_meets {_,o,rfl} {_,t,rfl} PySem.noFill_tuple_add PySem.seq_tuple_add PySem.F.slot_tuple_add PySem.F.entry_tuple_add (PySem.F.args_tuple_add_2 _ _)
   (PyProof.Rows.tuple_addW0 a b ([]:List hV).toArray O.toArray n T R d S g (by simp)) {o,t,{.ref b,H,I,rfl,D rfl}}
 .refine Gg w s z H (.ref a) (.ref b) (.ref a) (.ref b) Q I rfl rfl {a,b,xs,ys,rfl,rfl,i,j,k,C,λe=>E e,λZ p U=>G p U}
abbrev QD:IW->Operator
 |.add=>.Add|.sub=>.Sub|.mul=>.Mult|.mod=>.Mod|.fdiv=>.FloorDiv
abbrev vi(W:Wd)(f:PV->PV->Res PV):R2:=λx y H Q=>∃a G p q r,ax G H/\Top W a G H p x/\Top W a G H q y/\f p q=.ok r/\dm W G H r Q
set_option tactic.hygienic true in
def Lx(hK:W.K=X.K)(o:IW):gB X (binaryOp (QD o)) (vi W (binOp o)):=by
 intro j s k H x y v u Q I m t h;let(R,G,p,q,r,c,g,t2,e,d):=h;unfold binOp at e;split at e
 .cases e;exact Lw j s k H x y v u Q I m t {_,_,g.int,t2.int,d.at c .i}
 .split at e
  .rename_i hl;cases e;exact wo j s k H x y v u Q I m t {_,_,g.str,t2.str,iB hl,d.at c .s}
  .cases e
 .split at e
  .rename_i hl;cases e;let(a,B,rfl,w,A):=g.lst c;let(b,F,rfl,E,C):=t2.lst c;exact Gd hK j s k H _ _ v u Q I m t {a,b,B,F,rfl,rfl,w,E,by rw [A.length,C.length];exact iB hl,λp D=>d.lst c (A.append C) D}
  .cases e
 .split at e
  .rename_i hl;cases e;have L:=g;have N:=t2;let(a,B,rfl,w,A):=g.tup c;let(b,F,rfl,E,C):=t2.tup c;rw [hK] at w E;have m1:=A.length;have m2:=C.length;refine Gf j s k H _ _ v u Q I m t {a,b,B,F,rfl,rfl,w,E,by rw [m1,m2];exact iB hl,λz=>?_,λz=>?_,λp D=>d.tup c (A.append C) D}
   .subst z;rename_i xs M;have:xs=[]:=List.length_eq_zero_iff.mp m1.symm;subst this;exact d.at c (N.elim id λz=>z.elim)
   .subst z;rename_i xs M;have:M=[]:=List.length_eq_zero_iff.mp m2.symm;subst this;rw [hD] at d;exact d.at c (L.elim id λz=>z.elim)
  .cases e
 .cases e;exact LK j s k H x y v u Q I m t {_,_,g.int,t2.int,d.at c .i}
 .split at e
  .rename_i f;cases e;refine LH j s k H x y v u Q I m t {_,_,g.int,t2.int,?_,d.at c .i};rw [gd] at f;unfold aK at f;simp! [zza,zzN] at f;exact f
  .cases e
 .split at e
  .rename_i f;cases e;have L:=g;let(a,B,rfl,w,A):=g.tup c;rw [hK] at w;have m1:=A.length;rename_i xs O;by_cases P:O=1
   .subst P;refine CD j s k H _ _ v u Q I m t {a,B,rfl,t2.int,w,?_};have ex:(kq (1:Int).toNat xs).flatten=xs:=by
     show(kq 1 xs).flatten=xs;simp
    rw [ex] at d;exact d.at c (L.elim id λz=>z.elim)
   .exact Gj j s k H _ _ v u Q I m t {a,_,B,rfl,t2.int,w,by lia,f.2.1,by rw [m1];exact f.2.2.1,by rw [m1];exact f.2.2.2,λp D=>d.tup c (A.rep _) D}
  .cases e
 .split at e
  .rename_i f;cases e;exact LG j s k H x y v u Q I m t {_,_,g.int,t2.int,f,d.at c .i}
  .cases e
 .split at e
  .rename_i f;cases e;exact Gh j s k H x y v u Q I m t {_,_,g.int,t2.int,f,d.at c .i}
  .cases e
 .cases e
def Hu:Qa X (unaryOp .USub) (λx H Q=>∃(H0 G:Hp) (i:Int),ax G H/\Top W H0 G H (.int i) x/\dm W G H (.int (-i)) Q):=by intro a s b H x v Q I c h;let(H0,G,i,d,t,e):=h;exact MI a s b H x v Q I c {i,t.int,e.at d .i}
abbrev mr:sN->CmpOp
 |.eq=>.Eq|.ne=>.NotEq|.lt=>.Lt|.le=>.LtE|.gt=>.Gt|.is=>.Is|.K3=>.IsNot|.D8=>.In|.sJ=>.NotIn
def pX{a:kv}{c:St}{s:hW}{k:Bool}(I:Inv X a c H s)(d:ax G H)(e:dm W G H (.bl k) Q):EP X a c Q (.bool k) s:={.bl k,H,I,rfl,e.at d .b}
def Ly(hK:W.K=X.K)(i:X.A.units+64<cLine):gB X (compareOp .Eq) (vi W gH):=by
 intro j s k H x y v u Q I c d h;let(m,G,p,q,r,b,f,t2,e,g):=h;unfold gH at e;split at e
 .rename_i a;rw [zza] at a;cases e;exact Pc I hK b 8 (by lia) a.1 a.2 f t2 c d _ _ _ _ (pX I b g)
 .cases e
def LI(hK:W.K=X.K)(i:X.A.units+64<cLine):gB X (compareOp .NotEq) (vi W iU):=by
 intro j s k H x y v u Q I c d h;let(m,G,p,q,r,b,f,t2,e,g):=h;unfold iU at e;split at e
 .rename_i a;rw [zza] at a;cases e;exact GL I hK b 8 (by lia) a.1 a.2 f t2 c d _ _ _ _ (pX I b g)
 .cases e
def Res.of_ok{c:Type}{o:Option c}{a:c}(h:Res.of o=.ok a):o=hG a:=by
 cases o with
 |none=>cases h
 |some b=>cases h;rfl
def LF(hK:W.K=X.K)(k:X.A.units+64<cLine):gB X (compareOp .Lt) (vi W uO):=by
 intro a s c H x y v u Q I d f h;let(m,G,p,q,r,g,i,t2,e,j):=h;unfold uO at e;split at e
 .cases e;exact OZ a s c H x y v u Q I d f {_,_,i.int,t2.int,j.at g .b}
 .cases e
def LD:gB X (compareOp .LtE) (vi W uN):=by
 intro a s c H x y v u Q I d f h;let(k,G,p,q,r,g,i,t2,e,j):=h;unfold uN at e;split at e
 .cases e;exact OY a s c H x y v u Q I d f {_,_,i.int,t2.int,j.at g .b}
 .cases e
def Lz:gB X (compareOp .Gt) (vi W wm):=by
 intro i s j H x y v u Q I a c h;let(k,G,p,q,r,d,f,t2,e,g):=h;unfold wm at e;split at e
 .cases e;exact OX i s j H x y v u Q I a c {_,_,f.int,t2.int,g.at d .b}
 .cases e;let(t,rfl):=(f.str▸a:RelV (.str _) v);let(m,rfl):=(t2.str▸c:RelV (.str _) u);exact PySem.P.gt_str (qX I (g.at d .b) rfl)
 .cases e
def qd{x:V}(d:ax G H)(t:Top W H0 G H p x):decide (x=.aL)=nC p:=by
 cases p with
 |aL=>cases t.aL;rfl
 |bl b=>cases t.bl;rfl
 |int b=>cases t.int;rfl
 |str b=>cases t.str;rfl
 |tup b=>let(a,e,rfl,_):=t.tup d;rfl|lst b=>let(a,e,rfl,_):=t.lst d;rfl|bE b c=>let(a,e,rfl,_):=t.bE d;rfl|exc c=>
  rcases t with t|t
  .simp! [Rep] at t;let(a,C,rfl,_):=t;rfl
  .exact t.elim
 |obj n=>
  rcases t with t|t
  .simp! [Rep] at t;let(o,_,rfl):=t;rfl
  .exact t.elim
def LC:gB X (compareOp .Is) (vi W uM):=by
 intro c s d H x y v u Q I f g h;let(k,G,p,q,r,a,i,t2,e,j):=h;unfold uM at e;split at e
 .cases e;refine LB c s d H x y v u Q I f g {t2.aL,?_};rw [qd a i];exact j.at a .b
 .cases e
def Gi:gB X (compareOp .IsNot) (vi W lU):=by
 intro c s d H x y v u Q I f g h;let(k,G,p,q,r,a,i,t2,e,j):=h;unfold lU at e;split at e
 .cases e;refine Gm c s d H x y v u Q I f g {t2.aL,?_};rw [qd a i];exact j.at a .b
 .cases e
def rA{N:kv}{O:St}{s:hW}(I:Inv X N O H s)(hK:W.K=X.K)(t:ax G H){a:PV}{x:V}{w:hV}{us:List V}{d:List hV}(hu:A.units+32<cLine)(P:kh a=hQ)(Q:ys.all kh=hQ)(R:Top W H0 G H a x)(S:RelV x w)(l:ag W G ys us)(r:Vals us d):
 ∃e:hV->Bool,(∀y∈d,SeqAt.EqAt A s y w (e y))/\∀(j:Nat) (y:hV) (p:PV),d[j]?=hG y->ys[j]?=hG p->e y=eqv p a:=by
 classical
 have c:∀(j:Nat) (y:hV),d[j]?=hG y->∃p u,ys[j]?=hG p/\us[j]?=hG u/\Rep W G p u/\RelV u y/\kh p=hQ:=λj y e=>by have z:=(bV.mp e).1;have hl:=r.length;let(u,B,T):=r.get (i:=j) (x:=us[j]'(by omega)) (zzg (by omega));rw [e] at B;cases B;let(p,C,kp):=l.get (zzg (show j<us.length by omega));exact{p,_,C,zzg (by omega),kp,T,ed.mp Q p (a7 C)}
 refine{λy=>if h:∃(j:Nat) (p:PV),d[j]?=hG y/\ys[j]?=hG p then eqv h.choose_spec.choose a else hU,λy U=>?_,λj y p e1 D=>?_}
 .let(j,z,e):=List.getElem_of_mem U;have E:d[j]?=hG y:=by rw [zzg z,e]
  let(p,u,Y,h2,h3,h4,h5):=c j y E;have b:∃(j:Nat) (p:PV),d[j]?=hG y/\ys[j]?=hG p:=⟨j,p,E,Y⟩;dsimp only;rw [dif_pos b];have sp:=b.choose_spec.choose_spec;let(f,F,g,Z,k,m,o):=c _ y sp.1;have q:b.choose_spec.choose=f:=zzq (sp.2.symm.trans g);rw [q];exact Br (H0:=H0) I hK t 9 (by omega) o P (.inl k) R m S
 .have b:∃(j:Nat) (p:PV),d[j]?=hG y/\ys[j]?=hG p:=⟨j,p,e1,D⟩;dsimp only;rw [dif_pos b];let(p1,L,M,f2,f3,f4,f5):=c j y e1;rw [D] at M;cases M;have sp:=b.choose_spec.choose_spec;let(f,F,g,Z,k,m,o):=c _ y sp.1;have q:b.choose_spec.choose=f:=zzq (sp.2.symm.trans g);have e4:L=F:=f4.inj m;subst e4;rw [q,yz I hK t DP o f5 (.inl k:Top W H0 G H f L) (.inl f3)]
def A5{c:List hV}{e:hV->Bool}{f:PV->Bool}:c.length=ys.length->(∀(j:Nat) (y:hV) (p:PV),c[j]?=hG y->ys[j]?=hG p->e y=f p)->c.any e=ys.any f:=by
 intro hl h;have:c.map e=ys.map f:=kZ (zx6 hl) λj x y d g=>by rw [dV] at d g;let(a,i,rfl):=b4.mp d;let(b,k,rfl):=b4.mp g;exact h j a b i k
 calc c.any e=(c.map e).any id:=by rw [List.any_map];rfl
  _=(ys.map f).any id:=by rw [this]
  _=ys.any f:=by rw [List.any_map];rfl
def LA(hK:W.K=X.K)(O:X.A.units+64<cLine):gB X (compareOp .In) (vi W uL):=by
 intro w s B H x y v u Q I d f h;let(H0,G,p,q,r,c,g,t2,e,i):=h;have C:X.A.in1.units+32<cLine:=by show X.A.units+1+32<_;lia
 unfold uL at e;split at e
 .split at e
  .rename_i j;rw [zza] at j;cases e;let(b,m,rfl,D,o):=t2.lst c;cases f;let(P,t,z,_):=I.list (u9 hK D);let(e,E,F):=rA I hK c C j.1 j.2 g d o t;refine SeqAt.in_listAt e z.isList (λy L=>E y (zx6 L)) ?_;have:=A5 (by rw [<-t.length,o.length]) F;rw [List.any_toArray,this];exact pX I c i
  .cases e
 .cases e;exact Ah w s B H x y v u Q I d f {_,_,g.str,t2.str,i.at c .b}
 .let(k,hk,e):=Res.aJ e;cases e;have hk:=j9 (Res.of_ok hk);subst hk;let(b,rfl,M):=g.tupI (ns:=k) c rfl;let(a,m,rfl,n,hd,l):=t2.bE c;cases f;refine Rx (show X.A.units+1<cLine by lia) I (.inr {_,ki k,b,hd,rfl,(by rw [ux];exact c _ _ M),rfl}) d λR N=>?_;rw [kU,mG k _ m n];exact pX N c i
 .cases e
def Gk(hK:W.K=X.K)(M:X.A.units+64<cLine):gB X (compareOp .NotIn) (vi W lV):=by
 intro N s O H x y v u Q I f g h;let(H0,G,p,q,r,c,i,t2,e,j):=h;have w:X.A.in1.units+32<cLine:=by show X.A.units+1+32<_;lia
 unfold lV at e;split at e
 .split at e
  .rename_i d;rw [zza] at d;cases e;let(b,m,rfl,B,o):=t2.lst c;cases g;let(P,t,z,_):=I.list (u9 hK B);let(e,C,D):=rA I hK c w d.1 d.2 i f o t;refine SeqAt.notIn_listAt e z.isList (λy E=>C y (zx6 E)) ?_;have:=A5 (by rw [<-t.length,o.length]) D;rw [List.any_toArray,this];exact pX I c j
  .cases e
 .let(k,hk,e):=Res.aJ e;cases e;have hk:=j9 (Res.of_ok hk);subst hk;let(b,rfl,F):=i.tupI (ns:=k) c rfl;let(a,m,rfl,n,hd,l):=t2.bE c;cases g;refine EO (show X.A.units+1<cLine by lia) I (.inr {_,ki k,b,hd,rfl,(by rw [ux];exact c _ _ F),rfl}) f λR L=>?_;rw [kU,mG k _ m n];exact pX L c j
 .cases e
theorem gJ(hK:W.K=X.K)(a:X.A.units+64<cLine):∀o:sN,gB X (compareOp (mr o)) (vi W (cW o))
 |.eq=>Ly hK a|.ne=>LI hK a|.lt=>LF hK a|.le=>LD|.gt=>Lz|.is=>LC|.K3=>Gi|.D8=>LA hK a|.sJ=>Gk hK a
def xi{i:Int}(l:ag W G ps vs)(h:vF ps i=hG p):∃v,vF vs i=hG v/\Rep W G p v:=by
 unfold vF at h⊢;rw [l.length];cases e:K4 ps.length i with
 |none=>rw [e] at h;cases h
 |some j=>rw [e] at h;exact l.oN h
def K5(j:X.A.units+1<cLine):ML X (λx y H Q=>∃a d k b v,x=.ref a/\Rd H a (.dT d)/\y=.ref b/\H b=hG (.tup (k.map kV))/\iZ d k=hG v/\Q v H):=by intro e slice m s t H x y v u Q I w B h hs;let(a,d,k,b,z,rfl,hd,rfl,C,D,q):=h;cases w;cases B;let(_,_,xs,f,g):=lG I.aR hd;let(i,E,K):=gX.some_of (v:=z) (o:=(atKey xs k).map (·.2)) (by rw [<-D];exact f.val k);let(p,L,c):=b4.mp E;exact PyProof.Rows.subscriptTail_builtinR (x:=i) g.typeIs PySem.F.slot_dict_getitem.lookup (wpAny_getItem_heap (Q:=λr M=>r=i/\EP X m t Q r M) (tupleKind_room_in1 j) (ji I.aR C) g L {c,by rw [c];exact{z,H,I.tok _,K,q}}) hs
def Sy(hK:W.K=X.K)(N:X.A.units+64<cLine):ML X (vi W aZ):=by
 intro d slice j s m H x y v u Q I o t h hs;let(H0,G,p,q,r,f,z,t2,e,B):=h;unfold aZ at e;split at e
 .let(a,D,rfl,C,E):=z.lst f;let(w,g,i):=xi E (Res.of_ok e);exact Fz d slice j s m H _ y v u Q I o t {a,D,_,w,rfl,t2.int,u9 hK C,g,B.at f i} hs
 .let(a,D,rfl,C,E):=z.tup f;rw [hK] at C;let(w,g,i):=xi E (Res.of_ok e);exact B0 d slice j s m H _ y v u Q I o t {a,D,_,w,rfl,t2.int,C,g,B.at f i} hs
 .split at e
  .rename_i hl;let(c,F,e):=Res.aJ e;cases e;exact K6 d slice j s m H x y v u Q I o t {_,_,c,z.str,t2.int,iB hl,Res.of_ok F,B.at f .s} hs
  .cases e
 .let(k,hk,L):=Res.aJ e;have hk:=j9 (Res.of_ok hk);subst hk;let(b,rfl,M):=t2.tupI (ns:=k) f rfl;let(a,O,rfl,n,hd,l):=z.bE f;let(w,g,i):=sj l (Res.of_ok L);exact K5 (by lia) d slice j s m H _ _ v u Q I o t {a,_,ki k,b,w,rfl,hd,rfl,(by rw [ux];exact f _ _ M),(by rw [kU];exact g),B.at f i} hs
 .cases e
def xx(a b:Option Int)(l:ag W G ps vs):ag W G (jY ps a b) (tJ vs a b):=by unfold jY tJ;rw [l.length];exact(l.drop _).take _
def Ts(hK:W.K=X.K):L2.A1 X (λx g i H Q=>∃H0 G p r,ax G H/\Top W H0 G H p x/\fJ p g i=.ok r/\dm W G H r Q):=by
 intro j s k H x v m o g i q Q I t hs pl pu h;let(H0,G,p,r,c,u,e,d):=h;unfold fJ at e;split at e
 .cases e;let(a,b,rfl,f,w):=u.lst c;exact GY j s k H _ v m o _ _ q Q I t hs pl pu {a,b,rfl,u9 hK f,λp A=>d.lst c (xx _ _ w) A}
 .cases e;have C:=u.elim id λz=>z.elim;let(a,b,rfl,f,w):=u.tup c;rw [hK] at f;by_cases hw:HT.cX b.length 0 g=0/\HT.cX b.length b.length i=b.length
  .have D:∀y:List PV,y.length=b.length->jY y g i=y:=λy B=>by
    unfold jY;rw [B,hw.1,hw.2,<-B];simp
   rw [D _ w.length.symm] at d;exact GZ j s k H _ v m o _ _ q Q I t hs pl pu {a,b,rfl,f,hw,d.at c C}
  .exact Mu j s k H _ v m o _ _ q Q I t hs pl pu {a,b,rfl,f,hw,λp A=>d.tup c (xx _ _ w) A}
 .split at e
  .rename_i hl;cases e;exact Mt j s k H _ v m o _ _ q Q I t hs pl pu {_,u.str,iB hl,d.at c .s}
  .cases e
 .cases e
def HA(W:Wd)(f:List PV->Res PV):List V->Hp->VK->Prop:=λb H Q=>∃H0 G a r,ax G H/\Paired (λv p=>Top W H0 G H p v) b a/\f a=.ok r/\dm W G H r Q
def lZ(h:Paired (λv p=>Top W H0 G H p v) vs [p]):∃v,vs=[v]/\Top W H0 G H p v:=by
 cases h with
 |cons h t=>cases t;exact{_,rfl,h}
def PL(h:Paired (λv p=>Top W H0 G H p v) vs [p,q]):∃v u,vs=[v,u]/\Top W H0 G H p v/\Top W H0 G H q u:=by
 cases h with
 |cons h t=>
  cases t with
  |cons a t2=>cases t2;exact{_,_,rfl,h,a}
def zd(hK:W.K=X.K):eC X (.builtin "len") (HA W vH):=by
 intro f s g H xs j Q I r h;let(H0,G,w,y,b,tp,e,c):=h;unfold vH at e;split at e
 .cases e;let(v,rfl,t):=lZ tp;let(a,k,rfl,d,m):=t.lst b;exact jz f s g H _ j Q I r {a,k,rfl,.inl (u9 hK d),by rw [m.length];exact c.at b .i}
 .cases e;let(v,rfl,t):=lZ tp;let(a,k,rfl,d,m):=t.tup b;rw [hK] at d;exact jz f s g H _ j Q I r {a,k,rfl,.inr d,by rw [m.length];exact c.at b .i}
 .split at e
  .rename_i hl;cases e;let(v,rfl,t):=lZ tp;exact qK f s g H _ j Q I r {_,by rw [t.str],iB hl,c.at b .i}
  .cases e
 .cases e;let(v,rfl,t):=lZ tp;let(a,o,rfl,n,hd,l):=t.bE b;let(u,rfl,p):=vals1 r;cases p;exact JP I hd λt z q=>{.int _,H,q,⟨t,rfl⟩,by rw [iz n];exact c.at b .i}
 .cases e
def y9:eC X (.builtin "abs") (HA W A8):=by
 intro a s b H xs c Q I r h;let(H0,G,g,j,d,tp,e,f):=h;unfold A8 at e;split at e
 .cases e;let(v,rfl,t):=lZ tp;exact Be a s b H _ c Q I r {_,by rw [t.int],f.at d .i}
 .cases e
def zf(a:X.calm=hQ):eC X (.builtin "max") (HA W Ba):=by
 intro b s c H xs d Q I r h;let(H0,G,j,k,f,tp,e,g):=h;unfold Ba at e;split at e
 .cases e;let(v,u,rfl,t,t2):=PL tp;exact ze a b s c H _ d Q I r {_,_,by rw [t.int,t2.int],g.at f .i}
 .cases e
def za:eC X (.type "int") (HA W A9):=by
 intro a s b H xs c Q I r h;let(H0,G,j,k,d,tp,e,f):=h;unfold A9 at e;split at e
 .split at e
  .rename_i hl;let(n,g,e):=Res.aJ e;cases e;let(v,rfl,t):=lZ tp;exact qJ a s b H _ c Q I r {_,n,by rw [t.str],Res.of_ok g,hl,f.at d .i}
  .cases e
 .cases e
def zi:eC X (.type "str") (HA W Bb):=by
 intro a s b H xs c Q I r h;let(H0,G,g,i,d,tp,e,f):=h;unfold Bb at e;split at e
 .split at e
  .rename_i hl;cases e;let(v,rfl,t):=lZ tp;exact qL a s b H _ c Q I r {_,by rw [t.int],hl,f.at d .s}
  .cases e
 .cases e
def sZ(hK:W.K=X.K):eC X (.type "tuple") (HA W mV):=by
 intro c s d H xs f Q I r h;let(H0,G,o,q,b,tp,e,g):=h;unfold mV at e;split at e
 .cases e;let(v,rfl,t):=lZ tp;let(a,i,rfl,j,k):=t.lst b;exact oG c s d H _ f Q I r {a,i,rfl,.inl {u9 hK j,λp m=>g.tup b k m}}
 .cases e
abbrev wZ:Ty->String
 |.int=>"int"|.bool=>"bool"|.str=>"str"|.tuple=>"tuple"
def OF{K:zz8}(t:Ty):Cw.D9 K "NoneType" (wZ t) hU/\(∀b,Cw.D9 K "bool" (wZ t) (jg t (.bl b)))/\(∀i,Cw.D9 K "int" (wZ t) (jg t (.int i)))/\(∀z,Cw.D9 K "str" (wZ t) (jg t (.str z)))/\(∀z,Cw.D9 K "tuple" (wZ t) (jg t (.tup z)))/\(∀z,Cw.D9 K "list" (wZ t) (jg t (.lst z))):=by
 cases t
 all_goals refine{?_,λb=>?_,λb=>?_,λb=>?_,λb=>?_,λb=>?_}
 all_goals first
  |exact Cw.B4 _
  |exact Cw.B3 (b:=hU) (by decide+kernel) (by decide+kernel) (by decide+kernel)
  |exact Cw.B3 (b:=hQ) (by decide+kernel) (by decide+kernel) (by decide+kernel)
def Bf(hK:W.K=X.K)(t:Ty):eC X (.builtin "isinstance") (λxs H Q=>∃v H0 G p r,xs=[v,.ty (wZ t)]/\ax G H/\Top W H0 G H p v/\mB t p=.ok r/\dm W G H r Q):=by
 intro M s N H xs O Q I m h;let(v,H0,G,p,r,rfl,f,tp,e,g):=h;let(u,P,rfl,i,k):=Vals.two m;cases k;let(q,k2,w,y,A,B):=OF (K:=X.K) t
 cases p with
 |exc c=>cases e
 |obj c=>cases e
 |bE a b=>cases e
 |aL=>cases e;cases tp.aL;cases i;cases t<;>exact PySem.W.kia_one PySem.W.kitx_none I.kS True.intro q nofun λd=>⟨.bl _,H,I.tok d,rfl,g.at f .b⟩
 |bl b=>cases e;cases tp.bl;cases i;exact PySem.W.kia_one PySem.W.kitx_bool I.kS True.intro (k2 b) nofun λd=>⟨.bl _,H,I.tok d,rfl,g.at f .b⟩
 |int b=>cases e;cases tp.int;let(C,rfl):=i;exact PySem.W.kia_one PySem.W.kitx_int I.kS True.intro (w b) nofun λd=>⟨.bl _,H,I.tok d,rfl,g.at f .b⟩
 |str b=>cases e;cases tp.str;let(C,rfl):=i;exact PySem.W.kia_one PySem.W.kitx_str I.kS True.intro (y b) nofun λd=>⟨.bl _,H,I.tok d,rfl,g.at f .b⟩
 |tup b=>cases e;let(a,D,rfl,j,E):=tp.tup f;rw [hK] at j;cases i;let(F,_,(o,e1,L,_),_):=I.tuple j;exact PySem.W.kia_one PySem.W.kitx_tuple I.kS ⟨o,e1,L⟩ (A b) nofun λd=>{.bl _,H,I.tok d,rfl,g.at f .b}
 |lst b=>cases e;let(a,D,rfl,j,E):=tp.lst f;cases i;let(F,n,_,_,_,e1):=FL hK I j;exact PySem.W.kia_one PySem.W.kitx_list I.kS {_,e1,rfl} (B b) nofun λd=>{.bl _,H,I.tok d,rfl,g.at f .b}
theorem GO{k:List Int}(h:Rep W G (cg k) v):∃b,v=.ref b/\G b=hG (.tup (k.map V.int)):=Top.tupI (H0:=G) (ax.refl G) rfl (.inl h)
def pC{nss:kB}(d:ax G H)(r:Paired (λv ns=>∃b,v=V.ref b/\H b=hG (.tup (ns.map V.int))) vs nss):∃a,aD W G H a H/\ag W a (nss.map cg) vs:=by
 have all:∀(a:Hp) (l:List Int),ag W a (l.map .int) (l.map V.int):=λa l=>by
  induction l with
  |nil=>exact .nil|cons x l c=>exact .cons .i c
 induction r generalizing G with
 |nil=>exact{G,.refl d,.nil}|cons h t c=>let(b,rfl,j):=h;have e:=aD.adopt (W:=W) d j;let(G2,f,l):=c e.sub;exact{G2,e.trans f,.cons (Rep.same f.g _ (.t (.inl aq) (all _ _))) l}
end
end Ci
namespace L2
open PySem.Spec PyProof.Rows
section
variable{scope:iv}{xs ys:List Str}{is:List Nat}
theorem rN{d:Nat}{a:Str}{f K:Pos}{i y c E:ia}{L:TI}{g:TG}{tt:TT}(k:X.N.Nodup)(p:X.N[d]?=hG a)(r:Loc X.env.scope a)(T:X.calm=hQ)(S:fK X scope xs ys is)(U:PI X y c L)
 (V:∀fp t u C,PG (bP X (xs++ys) scope (bG X.env ys) fp t u C) y g) (W:∀fp t u C,PT (bP X (xs++ys) scope (bG X.env ys) fp t u C) E tt) (he:∀fp t u C,PE (bP X (xs++ys) scope (bG X.env ys) fp t u C) i te)
 (Y:swapsWith (.ListComp i [{y,c,[E],0}] scope pos) (hG (.Name a f)) K.line X.env=pure hQ:=by rfl)
 (hs:∀x,foldedSetIterable c X.env x=pure x:=by intro _;rfl) (w:X.fn a=hQ\/X.env.scope.names.lookup a=hG .local:=by first|exact .inl rfl|exact .inr rfl|assumption):
 PS X (.Assign [.Name a f] (.ListComp i [{y,c,[E],0}] scope pos) K) (Hk (mM L xs.length g tt te is) (ir d)):=by
 intro Z s σ H j I h;rw [exec_Assign_Name_used _ _ _ _ Y];refine ak (wpAny_standAt (ak ?_));show ie _ X.A (do let _<-comprehension (.ListComp i [⟨y,c,[E],0⟩] scope pos) scope X.env _ (newList []) hU (eval c X.env) (hG (assign (.Name a f) X.env))) _ _ s;refine ak (wpAny_mono (iL (QQ:=λ_ M=>∃B O,Inv X Z B O M/\j.nx B O) (Q:=λv P=>ir d v σ P j.nx) T S U V (λfp t u C=>yo (W fp t u C)) he hs I h λD C s4 P m I5 hn ⟨g0,g1,_,g3,R,g5⟩ q=>?_) (λ_ M hq=>bc (bc hq)) λ_ _ e=>e)
 refine wpAny_assign_Name (lx I5 k p r (show RelV (.ref D) (.ref D) from rfl) (λs6 I6 ⟨a6,F,G⟩=>?_) w);have Cq:C≠a6:=by
  rcases G with z|z
  .rw [z];exact g1
  .exact λz2=>R _ _ z z2.symm
 exact{m,hn.sameBut F Cq,λh' zP=>{_,_,I6.turned (t':=s6.toks) (it:=C) (λb o hb e=>zP.extBut b o hb e) g0 g1 g3 R g5,q}}
end
open PySem.AutoSeq1 (wpAny_loadPart')
section
variable{E:ku}{s:hW}{jt tu:h9}{i:Nat}{au:Array hV}{Q:ku}
def mq{x:hV}(b:s.heap.IsTupleIter jt tu i)(c:s.heap.IsTuple tu au)(d:au[i]?=hG x)
 (k:∀g,g.IsTupleIter jt tu (i+1)->i1.SameBut jt s.heap g->Q x {s with heap:=g}):ie (ik prog w) A (jj.SmallTypes.nextOf (.ref jt)) Q E s:=by
 let(ob,e1,e,a):=id b;let(j,f,_,m,h):=c;unfold jj.SmallTypes.nextOf;refine ak (wpAny_callSpecial?_slot (name:=Str.ofString "__next__") b.typeIs F.slot_tuple_iterator_next (wpAny_call_entry F.slot_tuple_iterator_next b.typeIs F.entry_tuple_iterator_next ?_ (F.args_tuple_iterator_next_1 _)));show ie _ _ (field (.ref jt) 0>>=_) _ _ s;refine ak (wpAny_field e1 a (x:=.ref tu) rfl ?_);show ie _ _ (if(hV.ref tu==hV.none)=hQ then _ else _) _ _ s;rw [if_neg (show¬((hV.ref tu==hV.none)=hQ) from zzf)];show ie _ _ (field (.ref jt) 1>>=_) _ _ s;refine ak (wpAny_field e1 a (x:=.int i 0) rfl ?_);show ie _ _ (seqItems? (.ref tu)>>=_) _ _ s;refine ak (wpAny_seqItems f h ?_);simp! [g7,d];refine ak (wpAny_setField e1 a (by simp) (bc {x,rfl,bc (k _ ?_ (gq ..))}));exact{_,i1.get?_update_self _ e1 (Obj.isFreed_of_fields (Obj.data_mapFields a _)),(Obj.cls_mapFields ..).trans e,by rw [Obj.data_mapFields a];simp [rawInt]}
def nL(d:A.handled=hI)(b:s.heap.IsTupleIter jt tu i)(f:s.heap.IsTuple tu au)(h:au[i]?=hI)
 (k:∀g e,i1.ExtBut jt s.heap g->(∃o,g.get? e=hG o/\o.cls=.type "StopIteration")->E (.ref e) {s with heap:=g}):ie (ik prog w) A (jj.SmallTypes.nextOf (.ref jt)) Q E s:=by
 let(ob,e1,q,c):=id b;let(r,j,_,t,p):=f;unfold jj.SmallTypes.nextOf;refine ak (wpAny_callSpecial?_slot (name:=Str.ofString "__next__") b.typeIs F.slot_tuple_iterator_next (wpAny_call_entry F.slot_tuple_iterator_next b.typeIs F.entry_tuple_iterator_next ?_ (F.args_tuple_iterator_next_1 _)));show ie _ _ (field (.ref jt) 0>>=_) _ _ s;refine ak (wpAny_field e1 c (x:=.ref tu) rfl ?_);show ie _ _ (if(hV.ref tu==hV.none)=hQ then _ else _) _ _ s;rw [if_neg (show¬((hV.ref tu==hV.none)=hQ) from zzf)];show ie _ _ (field (.ref jt) 1>>=_) _ _ s;refine ak (wpAny_field e1 c (x:=.int i 0) rfl ?_);show ie _ _ (seqItems? (.ref tu)>>=_) _ _ s;refine ak (wpAny_seqItems j p ?_);simp! [g7,h];refine ak (wpAny_rule (ak (wpAny_setField e1 c (by simp) ?_)));show ie _ _ (newExc (.type "StopIteration") []>>=_) _ _ _;refine ak ?_;simp! [newExc,newTuple];refine ak (wpAny_newObj_type ?_ (by size_fits));refine ak (m:=firstArgMember _ _) (wpAny_of_eq (a:=hV.none) (by first|rfl|(simp! [firstArgMember];rfl)) ?_);refine wpAny_newObj_type ?_ (by size_fits);simp! [raiseNew];refine ak (wpAny_handled ?_)
 first|rw [show A.in1.handled=hI from d]|rw [d]
 refine ak (bc (wpAny_throw ?_));exact k _ _ (((gq ..).extBut.push _).push _) {_,en _ rfl,rfl}
end
theorem pV(j:A.handled=hI)(a b:h9)(k:b≠a)(c:Array hV):
 Draws prog w A a [a,b] c.size (λi v=>c[i]?=hG v) (λi h=>h.IsTupleIter a b i/\h.IsTuple b c) where
 live:=λZ Z st=>let⟨o,m,_⟩:=st.1;⟨o,m⟩
 frame:=λZ Z Z st hk=>{st.1.at λo e=>hk a (by simp) o e,by let(o,e,r):=st.2;exact{o,hk b (by simp) o e,r}}
 item:=λi s Q E d st p=>mq st.1 st.2 (x:=c[i]) (by simp [d]) λg q f=>p _ g s.toks (by simp [d]) {q,by let(o,e,r):=st.2;exact{o,f.extBut _ _ k e,r}} f
 done:=λs Q E st t=>nL j st.1 st.2 (by simp) t
set_option tactic.hygienic true in
theorem zC(l:h9)(a:Array hV)(n:Nat)(bE:Option h9)(e:Array (Option hV)):
 Meets (jj.«enumerate.__new__» {[.type (zu 2),.ref l],[]}) (λZ R s=>s.heap.get? l=hG {cls:=.type "tuple",dict:=bE,data:=.seq a n,slots:=e}/\
  R (.ok (.ret (.ref (s.heap.push {cls:=.type (zu 46),data:=.fields #[.ref l,.int 0 0]}).objs.size)))
   {s with heap:=(s.heap.push {cls:=.type (zu 46),data:=.fields #[.ref l,.int 0 0]}).push {cls:=.type (zu 2),data:=.fields #[.none,.bool hU,.ref (zz9 s),rawInt 0,.none,.none]}}):=
 .of_wp λprog w A R s h=>by
  let(f,g,d,i,os):=s;let(hl,h):=h;have j:=sub_enumerate;have b:i1.IsTuple (hW.heap ⟨f,g,d,i,os⟩) l a:={_,hl,rfl,n,rfl}
  wp_walk using wpAny_loadPart' hl
  refine wpAny_stack_any λst=>bc ?_;split
  .rename_i c _ _ _ _ _;cases(c==hV.type (zu 2))<;>(wp_walk using wpAny_loadPart' hl,wpAny_pyIter_tuple b;exact{_,rfl,h})
  .wp_walk using wpAny_loadPart' hl,wpAny_pyIter_tuple b
   exact{_,rfl,h}
def gF{b:h9}{c d:Obj}(f:h.get? a=hG c)(e:h.get? b=hG d)(g:c.cls≠d.cls):a≠b:=λz=>by subst z;rw [f] at e;cases e;exact g rfl
def fV(z:Str):strIterType z="str_ascii_iterator"\/strIterType z="str_iterator":=by
 unfold strIterType;split
 .exact .inl rfl
 .exact .inr rfl
def kP{k:kv}{y:St}{s:hW}{E:ku}{e it:h9}{L:List h9}{n i:Nat}{M:Nat->hV->Prop}{B:Nat->i1->Prop}{C:hV}{Gx:V->Prop}{h:List ia}{Z:Nat}
 (I:Inv X k y H s) (D:Draws X.prog X.w X.A.in1 it L n M B) (he:IsEnum s.heap e it i C) (N:B i s.heap) (cu:i<n) (fw:e≠it) (O:e∉L) (P:∀b∈[e,it],gV X k H b) (hP:∀u,M i u->∃x,RelV x u/\Gx x):
 zx7 X (pyNext (.ref e)) (λr s1=>∃u,r=hG u/\zx7 X (letOwnedTupleGo (.Tuple h Z pos) (.ref e) u) (λ_ F=>∃x p,u=.ref p/\Gx x/\H p=hI/\e≠p/\it≠p/\
  Inv X k y (upd H p (.tup [.int i,x])) F/\(∃S5,IsEnum F.heap e it ((i:Int)+1) S5)/\B (i+1) F.heap) E s1) E s:=by
 refine wpAny_pyNext_enum_itemD D he N cu fw O λu h' t pu ho qo ht hz j=>?_;let(x,rx,gx):=hP u pu;let(Q,G,f2,R,S,T):=P e (by simp);let(g0,U,g2,g3,g4,g5):=P it (by simp);have vW:H (zz9 s)=hI:=I.aR.fresh (a8 _);let(oi,K):=D.live _ _ N;have W:e≠(zz9 s):=et (c8 he);have WI:it≠(zz9 s):=et (c8 K);have d:∀b o,H b=hG o->b≠e/\b≠it/\b≠(zz9 s):=λb o q=>{(λz=>(by rw [z,Q] at q;cases q)),(λz=>(by rw [z,g0] at q;cases q)),et (I.aR.lt q)}
 have I1:Inv X k y (upd H (zz9 s) (.tup [.int i,x])) {s with heap:=h',toks:=t+1}:=by
  refine I.step (g':=s.gens) (d':=s.drawn) (ch:=[e,it]) (λb f=>?_) (λb o _ _ a q _=>j b o (λz=>a (by simp [z])) (λz=>a (by simp [z])) q)
   (λb o _ _ a q _=>{o.slots,j b o (λz=>a (by simp [z])) (λz=>a (by simp [z])) q}) (λb o _ q nb=>by rw [af (et (c8 q))];exact nb)
   (λb o a q=>{o,j b o (λz=>a (by simp [z])) (λz=>a (by simp [z])) q}) (λb xs q=>by rw [af (d b _ q).2.2];exact q) (λb o u q=>by rw [af (d b _ q).2.2];exact q)
   (λb ps q=>{#[],by rw [af (d b _ q).2.2,q];simp}) (λm hm=>?_) (λb o q=>?_) I.bare
  .rcases e9.mp f with z|z
   .subst z;exact⟨R,G,S,T⟩
   .rw [eM.mp z];exact⟨g3,U,g4,g5⟩
  .let(o,es,ep,q,r):=hm;exact{o,es,ep,j _ o (Ne.symm G) (Ne.symm U) q,r}
  .by_cases f:b=(zz9 s)
   .subst f;rw [aq] at q;cases q;exact{(show 2<=i2 by decide),[.int i t,u],.cons ⟨t,rfl⟩ (.cons rx .nil),{_,ht,rfl,_,rfl}}
   .rw [af f] at q;refine(I.aR b o q).fU (λc v a z=>j c v ?_ ?_ z) (λc z=>by rw [af (d c _ z).2.2];exact z) λc xs z=>by rw [af (d c _ z).2.2];exact z
    .rcases a with g|g
     .rw [g];exact(d b o q).1
     .exact(d c _ g).1
    .rcases a with g|g
     .rw [g];exact(d b o q).2.1
     .exact(d c _ g).2.1
 refine{_,rfl,wpAny_letOwnedTupleGo_enum ho λh2 KH Y=>?_};refine{x,(zz9 s),rfl,gx,vW,W,WI,I1.turned (t':=t+1) (it:=e) (λb o f q=>Y.extBut b o f q) (by rw [af W];exact Q) G R S T,{_,KH},D.frame _ _ _ qo λb f o q=>Y.extBut b o (λz=>O (z▸f)) q}
abbrev QZ(K:zz8)(a:h9)(xs:List V):It:=
 {λi H=>fC K H a xs/\i<xs.length,λi H v b=>∃p x,v=.ref p/\H p=hI/\b=upd H p (.tup [.int (i:Nat),x])/\xs[i]?=hG x,λi H=>fC K H a xs/\i=xs.length}
abbrev P7(z:Str):It:=
 {λi Z=>i<z.cps.size,λi H v a=>∃p c,v=.ref p/\H p=hI/\a=upd H p (.tup [.int (i:Nat),.str {#[c]}])/\z.cps[i]?=hG c,λi Z=>i=z.cps.size}
def wV{K:zz8}{g:List ia}{W:Nat}(a e it:h9)(xs:List V):Turn P w K (.Tuple g W pos) (QZ K a xs) [e,it] e (λi h=>(∃c,IsEnum h e it i c)/\h.IsTupleIter it a i) where
 mem:=by simp
 obj:=λi h st b j=>by
  let((c,d),o,Y,_,hd):=st
  rcases e9.mp j with z|z
  .subst z;exact{_,d,λv q=>by cases q}
  .rw [eM.mp z];exact{o,Y,λv q=>by rw [hd] at q;cases q}
 keep:=λi h Z st k=>{by let(c,d):=st.1;exact{c,k e (by simp) _ d},st.2.at λo q=>k it (by simp) o q}
 item:=by
  intro X D F hK G i ae s σ H E I m st L;subst D F hK;let(M,cu):=L;let((c,d),f):=st;let(t,y,p,hz):=I.tuple M;have hl:=y.length;have N:=f;let(oi,e1,B,_):=f;let(oa,C,a2,_):=id p;have O:a≠it:=gF C e1 (by rw [a2,B];decide+kernel);have S:e≠it:=gF d e1 (by rw [B];show hV.type (zu 2)≠_;decide+kernel);have Lj:e≠a:=gF d C (by rw [a2];show hV.type (zu 2)≠_;decide+kernel);refine bM (kP (Gx:=λx=>xs[i]?=hG x) I (pV (A:=X.A.in1) (I.ok.hd G) it a O t.toArray) d ⟨N,p⟩ (by rw [a0];lia) S (by simp [S,Lj]) m (λu hu=>?_)) λr s1 ⟨u,hr,k⟩=>{u,hr,bM k λ_ s2 ⟨x,q,z1,z2,z3,z4,z5,z6,z7,z8⟩=>?_}
  .have T:xs[i]?=hG xs[i]:=zzg cu;let(u',Q,R):=y.get T;have:t.toArray[i]?=hG u':=zx6 Q;have U:t.toArray[i]?=hG u:=hu;rw [this] at U;cases U;exact{xs[i],R,T}
  .exact{.ref q,_,z6,z1.symm▸rfl,⟨q,x,rfl,z3,rfl,z2⟩,⟨z7,z8.1⟩,λb j=>by
    rcases e9.mp j with w|w
    .rw [w,af z4];exact(m e (by simp)).1
    .rw [eM.mp w,af z5];exact(m it (by simp)).1}
 done:=by intro X D F hK G i ae s σ H E I m st L;subst D F hK;let(M,rfl):=L;let((c,d),f):=st;let(t,y,p,hz):=I.tuple M;have hl:=y.length;have N:=f;let(oi,e1,B,_):=f;let(oa,C,a2,_):=id p;have O:a≠it:=gF C e1 (by rw [a2,B];decide+kernel);let(g0,g1,g2,g3,g4,g5):=m it (by simp);refine wpAny_pyNext_enum_endD (pV (A:=X.A.in1) (I.ok.hd G) it a O t.toArray) d {by rw [a0,<-hl];exact N,p} λZ eb=>{rfl,I.turned (t':=s.toks) (λb o j q=>eb b o j q) g0 g1 g3 g4 g5}
 self:=λ_ _ _ _ _ st h=>by let((c,d),_):=st;exact wpAny_pyIter_enum d h
def oF{E:ku}{s:hW}{l:h9}{a:Array hV}{Q:ku}(f:IsTup s.heap l a)
 (h:∀g,IsEnum g ((zz9 s)+1) (zz9 s) 0 .none->g.IsTupleIter (zz9 s) l 0->(∀b o,s.heap.get? b=hG o->g.get? b=hG o)->Q (.ref ((zz9 s)+1)) {s with heap:=g}):
 ie (ik prog w) A (call (.type (zu 2)) [.ref l]) Q E s:=by
 let((cls,i,data,j),k,c,n,hd):=id f;simp only at c hd;subst c hd;have d:(s.heap.push {cls:=.type (zu 46),data:=.fields #[.ref l,.int 0 0]}).objs.size=(zz9 s)+1:=i1.size_push ..;refine callType_new F.called_enumerate (by decide) (F.typeCall_enumerate_1 _) (F.newCall_enumerate_1 _) (λobj=>F.args_object_init_2 obj _) F.entry_enumerate_new (zC l a n i j) {k,?_};show _/\_;rw [d];have e:IsEnum ((s.heap.push {cls:=.type (zu 46),data:=.fields #[.ref l,.int 0 0]}).push {cls:=.type (zu 2),data:=.fields #[.none,.bool hU,.ref (zz9 s),rawInt 0,.none,.none]}) ((zz9 s)+1) (zz9 s) 0 .none:=by have q:=en (s.heap.push {cls:=.type (zu 46),data:=.fields #[.ref l,.int 0 0]}) (o:={cls:=.type (zu 2),data:=.fields #[.none,.bool hU,.ref (zz9 s),rawInt 0,.none,.none]}) rfl;rw [d] at q;exact q
 exact{{_,e,rfl},h _ e {_,ar _ (en _ rfl),rfl,rfl} λb o x=>ar _ (ar _ x)}
section
variable{elts:List ia}{x1:Nat}{wN:Pos}
abbrev Sn(K:zz8)(c:TA):TI:=λd H R=>c d H λe b=>∃a xs,e=[.ref a]/\fC K b a xs/\R (QZ K a xs) b
theorem C6{a:ia}{i:TA}{p:Pos}(t:Gl X (zu 2))(hm:X.mg (zu 2)=hI)(w:PA X [a] i)(hs:starEach [a] X.env=[(hU,eval a X.env)]:=by rfl):PI X (.Tuple elts x1 wN) (.Call (.Name (zu 2) p) [a] [] pos) (Sn X.K i):=by
 intro j s k H R I h;refine Call_ (gD I t hm boot_enumerate (PyProof.Rows.callWith_type1 (bM (w pos j s k H _ I h) λG c f=>?_) hs rfl));let(L,m,d,y,A):=f;let(a,xs,e,B,q):=A;subst e;let(u,rfl,C):=vals1 y;cases C;let(M,N,pt,O):=d.tuple B;refine oF pt λg o D kp=>wpAny_pyIter_enum o ?_;have E:Inv X j k m {c with heap:=g}:=d.kept (t':=c.toks) kp;refine{(zz9 c)+1,[(zz9 c)+1,(zz9 c)],_,_,m,rfl,E,wV a _ (zz9 c) xs,{{_,o},D},λb F=>?_,q}
 have r:(zz9 c)<=b:=by
  rcases e9.mp F with z|z
  .rw [z];exact Nat.le_succ _
  .rw [eM.mp z];exact a8 _
 exact d.oK r (d.aR.fresh r)
end
def wU{K:zz8}{g:List ia}{R:Nat}(z:Str)(t:Tok)(e it:h9):Turn P w K (.Tuple g R pos) (P7 z) [e,it] e (λi h=>(∃a,IsEnum h e it i a)/\h.IsStrIter it (strIterType z) z t i) where
 mem:=by simp
 obj:=λi h st b j=>by
  let((a,f),o,ho,_,hd):=st
  rcases e9.mp j with q|q
  .subst q;exact{_,f,λv q=>by cases q}
  .rw [eM.mp q];exact{o,ho,λv q=>by rw [hd] at q;cases q}
 keep:=λi h S st k=>{by let(a,f):=st.1;exact{a,k e (by simp) _ f},by let(o,q,r):=st.2;exact{o,k it (by simp) o q,r}}
 item:=by
  intro X F G hK m i T s U H E I p st L;subst F G hK;have cu:i<z.cps.size:=L;let((a,f),d):=st;have y:=d;let(oi,e1,e2,_):=d
  have V:e≠it:=gF f e1 (by rw [e2];show hV.type (zu 2)≠_;rcases fV z with q|q<;>rw [q]<;>decide+kernel)
  have fin:∀{B:Nat->i1->Prop},Draws X.prog X.w X.A.in1 it [it] z.cps.size (λi v=>∃c u,z.cps[i]?=hG c/\v=.str {#[c]} u) B->B i s.heap->(∀h,B (i+1) h->h.IsStrIter it (strIterType z) z t (i+1))->
   zx7 X (pyNext (.ref e)) (λr W=>∃u,r=hG u/\zx7 X (letOwnedTupleGo (.Tuple g R pos) (.ref e) u) (λ_ C=>∃x M,Inv X T U M C/\RelV x u/\(P7 z).Nc i H x M/\((∃a,IsEnum C.heap e it (((i+1:Nat)):Int) a)/\C.heap.IsStrIter it (strIterType z) z t (i+1))/\∀b∈[e,it],M b=hI) E W) E s:=by
   intro B D dR back;refine bM (kP (Gx:=λx=>∃c,x=.str {#[c]}/\z.cps[i]?=hG c) I D f dR cu V (by simp [V]) p (λu ⟨c,tk,m,hu⟩=>{.str {#[c]},⟨tk,hu⟩,c,rfl,m})) λr W ⟨u,hr,k⟩=>{u,hr,bM k λ_ C N=>?_};let(x,q,z1,(c,z2,O),z3,z4,z5,z6,z7,z8):=N
   subst z2;exact{.ref q,_,z6,z1.symm▸rfl,⟨q,c,rfl,z3,rfl,O⟩,{z7,back _ z8},λb j=>by
    rcases e9.mp j with w|w
    .rw [w,af z4];exact(p e (by simp)).1
    .rw [eM.mp w,af z5];exact(p it (by simp)).1}
  rcases fV z with q|q
  .rw [q] at y⊢;rw [q] at fin;exact fin (Draws.strAscii (A:=X.A.in1) (I.ok.hd m) it z t) y λh st=>st
  .rw [q] at y⊢;rw [q] at fin;exact fin (Draws.strWide (A:=X.A.in1) (I.ok.hd m) it z t) y λh st=>st
 done:=by
  intro X F G hK m i T s U H E I p st L;subst F G hK;have hi:i=z.cps.size:=L;subst hi;let((a,f),d):=st;let(Y,Z,g2,g3,g4,g5):=p it (by simp)
  rcases fV z with q|q
  .rw [q] at d;exact wpAny_pyNext_enum_endD (Draws.strAscii (A:=X.A.in1) (I.ok.hd m) it z t) f d λS Q=>{rfl,I.turned (t':=s.toks) (λb o j q=>Q b o j q) Y Z g3 g4 g5}
  .rw [q] at d;exact wpAny_pyNext_enum_endD (Draws.strWide (A:=X.A.in1) (I.ok.hd m) it z t) f d λS Q=>{rfl,I.turned (t':=s.toks) (λb o j q=>Q b o j q) Y Z g3 g4 g5}
 self:=λ_ _ _ _ _ st h=>by let((a,f),_):=st;exact wpAny_pyIter_enum f h
section
variable{elts:List ia}{x1:Nat}{wN:Pos}
abbrev Sm(a:TA):TI:=λb H R=>a b H λc d=>∃z,c=[.str z]/\R (P7 z) d
theorem C5{a:ia}{i:TA}{p:Pos}(w:Gl X (zu 2))(hm:X.mg (zu 2)=hI)(y:PA X [a] i)(hs:starEach [a] X.env=[(hU,eval a X.env)]:=by rfl):PI X (.Tuple elts x1 wN) (.Call (.Name (zu 2) p) [a] [] pos) (Sm i):=by
 intro j s k H R I h;refine Call_ (gD I w hm boot_enumerate (PyProof.Rows.callWith_type1 (bM (y pos j s k H _ I h) λF c d=>?_) hs rfl));let(G,m,f,A,B):=d;let(z,e,q):=B;subst e;let(u,rfl,t,rfl):=vals1 A;refine call_enumerate_str λg o C K kp=>wpAny_pyIter_enum o ?_;have D:Inv X j k m {c with heap:=g}:=f.kept (t':=c.toks) kp;refine{(zz9 c)+1,[(zz9 c)+1,(zz9 c)],_,_,m,rfl,D,wU z t _ (zz9 c),{{_,o},C},λb E=>?_,q}
 have r:(zz9 c)<=b:=by
  rcases e9.mp E with z|z
  .rw [z];exact Nat.le_succ _
  .rw [eM.mp z];exact a8 _
 exact f.oK r (f.aR.fresh r)
end
abbrev Jb(K:zz8)(a:h9)(xs:List V):It:=
 {λi H=>kJ K H a xs/\i<xs.length,λi H v b=>∃p x,v=.ref p/\H p=hI/\b=upd H p (.tup [.int (i:Nat),x])/\xs[i]?=hG x,λi H=>kJ K H a xs/\i=xs.length}
def wR{K:zz8}{g:List ia}{W:Nat}(a e it:h9)(xs:List V):Turn P w K (.Tuple g W pos) (Jb K a xs) [e,it] e (λi h=>(∃c,IsEnum h e it i c)/\h.IsListIter it a i) where
 mem:=by simp
 obj:=λi h st b j=>by
  let((c,d),o,Y,_,hd):=st
  rcases e9.mp j with z|z
  .subst z;exact{_,d,λv q=>by cases q}
  .rw [eM.mp z];exact{o,Y,λv q=>by rw [hd] at q;cases q}
 keep:=λi h Z st k=>{by let(c,d):=st.1;exact{c,k e (by simp) _ d},st.2.at λo q=>k it (by simp) o q}
 item:=by
  intro X D F hK G i ae s σ H E I m st L;subst D F hK;let(M,cu):=L;let((c,d),f):=st;let(t,y,p,hz):=I.list M;have hl:=y.length;have N:=f;let(oi,e1,B,_):=f;let(oa,C,a2,_):=p.isList;have O:a≠it:=gF C e1 (by rw [a2,B];decide+kernel);have S:e≠it:=gF d e1 (by rw [B];show hV.type (zu 2)≠_;decide+kernel);have Lj:e≠a:=gF d C (by rw [a2];show hV.type (zu 2)≠_;decide+kernel);refine bM (kP (Gx:=λx=>xs[i]?=hG x) I (Draws.list (A:=X.A.in1) (I.ok.hd G) it a O t.toArray) d ⟨N,p.isList⟩ (by rw [a0];lia) S (by simp [S,Lj]) m (λu hu=>?_)) λr s1 ⟨u,hr,k⟩=>{u,hr,bM k λ_ s2 ⟨x,q,z1,z2,z3,z4,z5,z6,z7,z8⟩=>?_}
  .have T:xs[i]?=hG xs[i]:=zzg cu;let(u',Q,R):=y.get T;have:t.toArray[i]?=hG u':=zx6 Q;have U:t.toArray[i]?=hG u:=hu;rw [this] at U;cases U;exact{xs[i],R,T}
  .exact{.ref q,_,z6,z1.symm▸rfl,⟨q,x,rfl,z3,rfl,z2⟩,⟨z7,z8.1⟩,λb j=>by
    rcases e9.mp j with w|w
    .rw [w,af z4];exact(m e (by simp)).1
    .rw [eM.mp w,af z5];exact(m it (by simp)).1}
 done:=by intro X D F hK G i ae s σ H E I m st L;subst D F hK;let(M,rfl):=L;let((c,d),f):=st;let(t,y,p,hz):=I.list M;have hl:=y.length;have N:=f;let(oi,e1,B,_):=f;let(oa,C,a2,_):=p.isList;have O:a≠it:=gF C e1 (by rw [a2,B];decide+kernel);let(g0,g1,g2,g3,g4,g5):=m it (by simp);refine wpAny_pyNext_enum_endD (Draws.list (A:=X.A.in1) (I.ok.hd G) it a O t.toArray) d {by rw [a0,<-hl];exact N,p.isList} λZ eb=>{rfl,I.turned (t':=s.toks) (λb o j q=>eb b o j q) g0 g1 g3 g4 g5}
 self:=λ_ _ _ _ _ st h=>by let((c,d),_):=st;exact wpAny_pyIter_enum d h
section
variable{elts:List ia}{x1:Nat}{wN:Pos}
abbrev Sk(K:zz8)(c:TA):TI:=λd H R=>c d H λe b=>∃a xs,e=[.ref a]/\kJ K b a xs/\R (Jb K a xs) b
theorem uR{a:ia}{i:TA}{p:Pos}(t:Gl X (zu 2))(hm:X.mg (zu 2)=hI)(w:PA X [a] i)(hs:starEach [a] X.env=[(hU,eval a X.env)]:=by rfl):PI X (.Tuple elts x1 wN) (.Call (.Name (zu 2) p) [a] [] pos) (Sk X.K i):=by
 intro j s k H R I h;refine Call_ (gD I t hm boot_enumerate (PyProof.Rows.callWith_type1 (bM (w pos j s k H _ I h) λG c f=>?_) hs rfl));let(L,m,d,y,A):=f;let(a,xs,e,B,q):=A;subst e;let(u,rfl,C):=vals1 y;cases C;let(M,N,pt,O):=d.list B;refine call_enumerate_list pt.isList λg o D Z kp=>wpAny_pyIter_enum o ?_;have E:Inv X j k m {c with heap:=g}:=d.kept (t':=c.toks) kp;refine{(zz9 c)+1,[(zz9 c)+1,(zz9 c)],_,_,m,rfl,E,wR a _ (zz9 c) xs,{{_,o},D},λb F=>?_,q}
 have r:(zz9 c)<=b:=by
  rcases e9.mp F with z|z
  .rw [z];exact Nat.le_succ _
  .rw [eM.mp z];exact a8 _
 exact d.oK r (d.aR.fresh r)
end
structure Zd where
 it:h9
 fp:List h9
 n:Nat
 P:Nat->hV->Prop
 St:Nat->i1->Prop
end L2
namespace Ci
open L2
set_option backward.match.sparseCases false
structure Hs where
 f:Str
 h:Str
 g:Str
 idx:List Nat
 np:Nat
structure Pg where
 gs:List (Str×PV)
 bs:List Str
 cs:List Str
 fs:List Str
 rs:List Str
 hs:List Hs:=[]
 hl:Bool:=hU
 qt:Bool:=hU
 qs:List Str:=[]
abbrev nq(Γ:Pg)(b:Bool):Bool:=b&&!Γ.qt
def uJ{Γ:Pg}{b:Bool}(h:nq Γ b=hQ):Γ.qt=hU/\b=hQ:=by unfold nq at h;rw [zza,Bool.not_eq_true'] at h;exact⟨h.2,h.1⟩
abbrev ft(sc:iv)(x:Str):Bool:=sc.names.lookup x==hG .local||sc.names.lookup x==hG .cell
abbrev dG(sc:iv)(x:Str):Bool:=ft sc x||sc.names.lookup x==hG .free
abbrev jd(sc:iv)(x:Str):Bool:=sc.names.lookup x==hG .globalImplicit
abbrev litS:List PV->List PV->Bool
 |[],[]=>hQ|.str x::xs,.str y::ys=>x==y&&litS xs ys|_,_=>hU
abbrev yd:PV->PV->Bool
 |.int i,.int j=>i==j|.str x,.str y=>x==y|.tup xs,.tup ys=>litS xs ys|_,_=>hU
def litS_eq(h:litS xs ys=hQ):xs=ys:=by
 induction xs generalizing ys with
 |nil=>
  cases ys with
  |nil=>rfl|cons _ _=>exact aN h
 |cons x xs a=>
  cases ys with
  |nil=>cases x<;>exact aN h
  |cons y ys=>
   cases x<;>cases y<;>first|exact aN h|skip
   replace h:(_&&litS xs ys)=hQ:=h;rw [zza] at h;rw [zzy.mp h.1,a h.2]
def Cc(h:yd p q=hQ):p=q:=by
 unfold yd at h;split at h
 .rw [zzy.mp h]
 .rw [zzy.mp h]
 .rw [litS_eq h]
 .cases h
abbrev bN:B->Str
 |.len=>"len"|.abs=>"abs"|.max2=>"max"|.int=>"int"|.str=>"str"|.tuple=>"tuple"
abbrev gA:E->Bool
 |.fY _=>hU|_=>hQ
abbrev eO:Es->Bool
 |.nil=>hQ|.cons e a=>gA e&&eO a
abbrev oH:I->Bool
 |.seq e=>gA e|.mv _=>hQ|.rP _ _=>hQ|.enum e=>gA e
abbrev isNil:Es->Bool
 |.nil=>hQ|_=>hU
abbrev gQ:Es->Nat
 |.nil=>0|.cons _ a=>gQ a+1
abbrev Ho:ia->Option (List ia)
 |.Tuple a _ _=>hG a|_=>hI
def se{a:List ia}(h:Ho e=hG a):∃k p,e=.Tuple a k p:=by
 cases e with
 |Tuple a k p=>cases h;exact{_,_,rfl}
 |_=>exact jl h
abbrev wY{c:Type}:List c->Option (c×c)
 |[a,b]=>hG (a,b)|_=>hI
def Hr{c:Type}{ts:List c}{q:c×c}(h:wY ts=hG q):ts=[q.1,q.2]:=by
 cases ts with
 |nil=>exact jl h|cons a ts=>
  cases ts with
  |nil=>exact jl h|cons b ts=>
   cases ts with
   |cons _ _=>exact jl h|nil=>cases h;rfl
abbrev SV(N:List Str)(sc:iv)(fn:Str->Bool)(i:Nat)(p:ia):Bool:=(fB p).any λx=>N[i]?==hG x&&ft sc x&&(fn x||sc.names.lookup x==hG .local)
abbrev Lm(N:List Str)(sc:iv)(fn:Str->Bool):List Nat->List ia->Bool
 |i::is,a::as=>SV N sc fn i a&&Lm N sc fn is as|[],[]=>hQ|_,_=>hU
abbrev eZ(N:List Str)(sc:iv)(fn:Str->Bool):Tg->ia->Bool
 |.one i,p=>SV N sc fn i p|.two i j,p=>(Ho p).any (Lm N sc fn [i,j])
abbrev aC:ia->List Str
 |.Name x _=>[x]|.Tuple [.Name x _,.Name y _] _ _=>[x,y]|.Tuple [.Name x _,.Name y _,.Name z _] _ _=>[x,y,z]|.Tuple [.Name x _,.Tuple [.Name y _,.Name z _] _ _] _ _=>[x,y,z]|_=>[]
abbrev cB(a sc:iv):Scope:=
 {a with names:=a.names.map λ(n,k)=>if(k==.free&&sc.kind==.function&&sc.names.lookup n==hG .cell) then(n,.cell) else(n,k)}
abbrev freeOf(a:iv):List Str:=((a.names.filter λp=>p.2==.free).map (·.1)).reverse
abbrev tD(N:List Str)(sc a:iv)(k:Nat)(b:List Nat)(xs:List Str):Bool:=
 a.kind==.function&&xs.length==k&&decide ((xs++freeOf a).Nodup)
 &&(a.names.all λy=>(decide (y.2≠.cell)||!(freeOf a).contains y.1)&&(decide (y.2≠.free)||(freeOf a).contains y.1))
 &&(a.names.all λy=>decide (y.2≠.cell)||decide (a.names.lookup y.1=hG .cell))
 &&(a.names.all λy=>decide (y.2≠.local)||decide (a.names.lookup y.1=hG .local))
 &&decide (b.map (λi=>N[i]?)=(freeOf a).map hG)
 &&((freeOf a).all λy=>decide (sc.names.lookup y=hG .cell))
 &&((freeOf a).all λy=>decide ((cB a sc).names.lookup y=hG .cell))
abbrev jv(k:Nat):Tg->Bool
 |.one i=>decide (i<k)|.two i j=>decide (i<k)&&decide (j<k)
abbrev f9:E->Bool
 |.ite _ _ _=>hU|.not a=>f9 a|.and a b=>f9 a&&f9 b|.or a b=>f9 a&&f9 b|_=>hQ
abbrev isTup:ia->Bool
 |.Tuple .. =>hQ|_=>hU
noncomputable abbrev Pg.yf(Γ:Pg):Pg:={Γ with hl:=hU}
def oA{c d:Type}{o:Option c}{f:c->Option d}{b:d}(h:o.bind f=hG b):∃a,o=hG a/\f a=hG b:=eo.1 h
def if1{d:Type}{c:Bool}{a b:d}(h:(if c=hQ then hG a else hI)=hG b):c=hQ/\a=b:=by
 cases c with
 |true=>cases h;exact⟨rfl,rfl⟩
 |false=>exact jl h
abbrev eR{a:Type}:List a->Option a
 |[t]=>hG t|_=>hI
def d5{b:Type}{ts:List b}{t:b}(h:eR ts=hG t):ts=[t]:=by
 cases ts with
 |nil=>exact jl h|cons a ts=>
  cases ts with
  |cons _ _=>exact jl h|nil=>cases h;rfl
abbrev Jl:ia->Option (ia×Str×Pos)
 |.Attribute o m p=>hG (o,m,p)|_=>hI
def qG{q:ia×Str×Pos}(h:Jl e=hG q):e=.Attribute q.1 q.2.1 q.2.2:=by
 cases e with
 |Attribute o m p=>cases h;rfl
 |_=>exact jl h
abbrev SE:ia->Option (jm×ia×iv)
 |.Lambda p b s _=>hG (p,b,s)|_=>hI
def rB{q:jm×ia×iv}(h:SE e=hG q):∃p,e=.Lambda q.1 q.2.1 q.2.2 p:=by
 cases e with
 |Lambda p b s x=>cases h;exact{_,rfl}
 |_=>exact jl h
abbrev IK:ia->Option (ia×ia)
 |.Subscript a b _=>hG (a,b)|_=>hI
def sd{q:ia×ia}(h:IK e=hG q):∃p,e=.Subscript q.1 q.2 p:=by
 cases e with
 |Subscript a b p=>cases h;exact{_,rfl}
 |_=>exact jl h
abbrev MQ:ia->Option Const
 |.Constant c _ _=>hG c|_=>hI
def vJ{c:Const}(h:MQ e=hG c):∃p q,e=.Constant c p q:=by
 cases e with
 |Constant c p q=>cases h;exact{_,_,rfl}
 |_=>exact jl h
abbrev qp:Const->Option Str
 |.str z=>hG z|_=>hI
def DE{c:Const}(h:qp c=hG z):c=.str z:=by
 cases c with
 |str y=>cases h;rfl
 |_=>exact jl h
abbrev Qw:Const->Option Int
 |.int n=>hG n|_=>hI
def v3{c:Const}{n:Int}(h:Qw c=hG n):c=.int n:=by
 cases c with
 |int y=>cases h;rfl
 |_=>exact jl h
def wc{a:Type}{l:List a}(h:l.isEmpty=hQ):l=[]:=by
 cases l with
 |nil=>rfl|cons _ _=>exact aN h
def Lp{a:Type}{o:Option a}(h:o.isNone=hQ):o=hI:=by
 cases o with
 |none=>rfl|some _=>exact aN h
abbrev Uw:Const->Option Bool
 |.bool b=>hG b|_=>hI
def Jq{c:Const}{b:Bool}(h:Uw c=hG b):c=.bool b:=by
 cases c with
 |bool y=>cases h;rfl
 |_=>exact jl h
abbrev Vp:Const->Bool
 |.none=>hQ|_=>hU
def Ln{c:Const}(h:Vp c=hQ):c=.none:=by
 cases c with
 |none=>rfl|_=>exact aN h
abbrev Uu:ia->Option (ia×Operator×ia)
 |.BinOp a o b _=>hG (a,o,b)|_=>hI
def Jo{q:ia×Operator×ia}(h:Uu e=hG q):∃p,e=.BinOp q.1 q.2.1 q.2.2 p:=by
 cases e with
 |BinOp a o b p=>cases h;exact{_,rfl}
 |_=>exact jl h
abbrev NN:ia->Option (ia×List CmpOp×List ia)
 |.Compare a o b _=>hG (a,o,b)|_=>hI
def Jy{q:ia×List CmpOp×List ia}(h:NN e=hG q):∃p,e=.Compare q.1 q.2.1 q.2.2 p:=by
 cases e with
 |Compare a o b p=>cases h;exact{_,rfl}
 |_=>exact jl h
abbrev PR:ia->Option (UnaryOp×ia)
 |.UnaryOp o a _=>hG (o,a)|_=>hI
def MH{q:UnaryOp×ia}(h:PR e=hG q):∃p,e=.UnaryOp q.1 q.2 p:=by
 cases e with
 |UnaryOp o a p=>cases h;exact{_,rfl}
 |_=>exact jl h
abbrev Ip:UnaryOp->Bool
 |.Not=>hQ|_=>hU
def BX{o:UnaryOp}(h:Ip o=hQ):o=.Not:=by
 cases o with
 |Not=>rfl|_=>exact aN h
abbrev isNeg:UnaryOp->Bool
 |.USub=>hQ|_=>hU
def uq{o:UnaryOp}(h:isNeg o=hQ):o=.USub:=by
 cases o with
 |USub=>rfl|_=>exact aN h
abbrev um:BoolOp->Bool
 |.And=>hQ|.Or=>hU
def BW{o:BoolOp}(h:um o=hQ):o=.And:=by
 cases o with
 |And=>rfl|Or=>exact aN h
def xZ{o:BoolOp}(h:(!um o)=hQ):o=.Or:=by
 cases o with
 |Or=>rfl|And=>exact aN h
abbrev NC:ia->Option (BoolOp×List ia×Pos)
 |.BoolOp o vs p=>hG (o,vs,p)|_=>hI
def Jr{q:BoolOp×List ia×Pos}(h:NC e=hG q):e=.BoolOp q.1 q.2.1 q.2.2:=by
 cases e with
 |BoolOp o a p=>cases h;rfl
 |_=>exact jl h
abbrev Rr(o:BoolOp)(pos:Pos):List ia->Option (ia×ia)
 |a::b::[]=>hG (a,b)|a::b::c::r=>hG (a,.BoolOp o (b::c::r) pos)|_=>hI
def Bd{o:BoolOp}{vs:List ia}{q:ia×ia}(h:Rr o pos vs=hG q):vs=[q.1,q.2]\/∃b c r,vs=q.1::b::c::r/\q.2=.BoolOp o (b::c::r) pos:=by
 cases vs with
 |nil=>exact jl h|cons a vs=>
  cases vs with
  |nil=>exact jl h|cons b vs=>
   cases vs with
   |nil=>cases h;exact .inl rfl
   |cons c r=>cases h;exact .inr ⟨b,c,r,rfl,rfl⟩
abbrev Vg:ia->Option (ia×ia×ia)
 |.IfExp c a b _=>hG (c,a,b)|_=>hI
def KY{q:ia×ia×ia}(h:Vg e=hG q):∃p,e=.IfExp q.1 q.2.1 q.2.2 p:=by
 cases e with
 |IfExp c a b p=>cases h;exact{_,rfl}
 |_=>exact jl h
abbrev Vi:ia->Option (List ia)
 |.List a _=>hG a|_=>hI
def Cb{a:List ia}(h:Vi e=hG a):∃p,e=.List a p:=by
 cases e with
 |List a p=>cases h;exact{_,rfl}
 |_=>exact jl h
abbrev Mr:ia->Option (Option ia×Option ia×Option ia)
 |.Slice a b c _=>hG (a,b,c)|_=>hI
def Ms{q:Option ia×Option ia×Option ia}(h:Mr e=hG q):∃p,e=.Slice q.1 q.2.1 q.2.2 p:=by
 cases e with
 |Slice a b c p=>cases h;exact{_,rfl}
 |_=>exact jl h
abbrev OI:ia->Option (ia×List Comprehension×iv)
 |.ListComp e gs s _=>hG (e,gs,s)|_=>hI
def Ld{q:ia×List Comprehension×iv}(h:OI e=hG q):∃p,e=.ListComp q.1 q.2.1 q.2.2 p:=by
 cases e with
 |ListComp e gs s p=>cases h;exact{_,rfl}
 |_=>exact jl h
abbrev AG(e:ia):Option (Str×List ia):=(HM e).bind λq=>(fB q.1).bind λg=>if q.2.2.1.isEmpty=hQ then hG (g,q.2.1) else hI
def Jv{q:Str×List ia}(h:AG e=hG q):∃np p,e=.Call (.Name q.1 np) q.2 [] p:=by let((f,a,k,p),c,h):=oA h;let(g,d,h):=oA h;let(i,rfl):=if1 h;let(np,z):=bT d;have b:=wc i;dsimp only at z b;subst z b;exact{np,p,kL c}
abbrev NR:PV->Const->Bool
 |.aL,c=>Vp c|.bl b,c=>(Uw c).any λx=>b==x|.int i,c=>(Qw c).any λx=>i==x|.str z,c=>(qp c).any λx=>z==x|_,_=>hU
abbrev M7:List Keyword->Option (Str×ia)
 |[⟨hG n,v,_⟩]=>hG (n,v)|_=>hI
def Lc{ks:List Keyword}{q:Str×ia}(h:M7 ks=hG q):∃p,ks=[{hG q.1,q.2,p}]:=by
 cases ks with
 |nil=>exact jl h|cons k ks=>
  let(a,b,kp):=k
  cases a with
  |none=>exact jl h|some n=>
   cases ks with
   |cons _ _=>exact jl h|nil=>cases h;exact{_,rfl}
abbrev rG(p:ia):Bool:=(HM p).isNone
def aj{a b:Bool}(h:(a&&b)=hQ):a=hQ/\b=hQ:=Bool.and_eq_true_iff.mp h
def ah{a:Type}{o:Option a}{f:a->Bool}(h:o.any f=hQ):∃x,o=hG x/\f x=hQ:=by
 cases o with
 |none=>cases h
 |some x=>exact⟨x,rfl,h⟩
theorem gj{b:Type}{l:List b}{f:b->Bool}(h:(eR l).any f=hQ):∃a,l=[a]/\f a=hQ:=let⟨a,e,c⟩:=ah h;{a,d5 e,c}
theorem DO{c:Type}{l:List c}{f:c×c->Bool}(h:(wY l).any f=hQ):∃a b,l=[a,b]/\f (a,b)=hQ:=let⟨q,e,d⟩:=ah h;{q.1,q.2,Hr e,d}
theorem QA{p:ia}{f:Str->Bool}(h:(fB p).any f=hQ):∃x np,p=.Name x np/\f x=hQ:=let⟨x,e,a⟩:=ah h;let⟨np,z⟩:=bT e;⟨x,np,z,a⟩
theorem UG{p:ia}{f:Const->Bool}(h:(MQ p).any f=hQ):∃x a b,p=.Constant x a b/\f x=hQ:=let⟨x,e,c⟩:=ah h;let⟨a,b,z⟩:=vJ e;⟨x,a,b,z,c⟩
theorem DY{p:ia}{f:Str×List ia->Bool}(h:(AG p).any f=hQ):∃g as np pos,p=.Call (.Name g np) as [] pos/\f (g,as)=hQ:=let⟨q,e,c⟩:=ah h;let⟨a,b,z⟩:=Jv e;⟨q.1,q.2,a,b,z,c⟩
theorem Tv{p:ia}{f:ia×ia->Bool}(h:(IK p).any f=hQ):∃a b pos,p=.Subscript a b pos/\f (a,b)=hQ:=let⟨q,e,c⟩:=ah h;let⟨x,z⟩:=sd e;⟨q.1,q.2,x,z,c⟩
theorem VB{p:ia}{f:Option ia×Option ia×Option ia->Bool}(h:(Mr p).any f=hQ):∃a b c pos,p=.Slice a b c pos/\f (a,b,c)=hQ:=let⟨q,e,d⟩:=ah h;let⟨x,z⟩:=Ms e;⟨q.1,q.2.1,q.2.2,x,z,d⟩
theorem TQ{p:ia}{f:UnaryOp×ia->Bool}(h:(PR p).any f=hQ):∃o a pos,p=.UnaryOp o a pos/\f (o,a)=hQ:=let⟨q,e,b⟩:=ah h;let⟨x,z⟩:=MH e;⟨q.1,q.2,x,z,b⟩
theorem Qh{p:ia}{f:ia×List CmpOp×List ia->Bool}(h:(NN p).any f=hQ):∃a o b pos,p=.Compare a o b pos/\f (a,o,b)=hQ:=let⟨q,e,c⟩:=ah h;let⟨x,z⟩:=Jy e;⟨q.1,q.2.1,q.2.2,x,z,c⟩
theorem M8{p:ia}{f:ia×List Comprehension×iv->Bool}(h:(OI p).any f=hQ):∃a g s pos,p=.ListComp a g s pos/\f (a,g,s)=hQ:=let⟨q,e,b⟩:=ah h;let⟨x,z⟩:=Ld e;⟨q.1,q.2.1,q.2.2,x,z,b⟩
theorem Rq{p:ia}{f:BoolOp×List ia×Pos->Bool}(h:(NC p).any f=hQ):∃o vs pos,p=.BoolOp o vs pos/\f (o,vs,pos)=hQ:=let⟨q,e,a⟩:=ah h;{q.1,q.2.1,q.2.2,Jr e,a}
mutual
noncomputable def aV(Γ:Pg)(N:List Str)(sc:iv):E->ia->Bool
 |.var i,p=>(fB p).any λx=>N[i]?==hG x&&dG sc x&&okN x|.fY i,p=>(fB p).any λx=>N[i]?==hG x&&dG sc x&&okN x|.cst q,p=>(MQ p).any (NR q)|.glob g p,e=>(fB e).any λx=>g==x&&jd sc x&&okN x&&Γ.gs.any λq=>q.1==g&&yd q.2 p|.call f as,p=>(AG p).any λq=>f==q.1&&Γ.fs.contains q.1&&jd sc q.1&&okN q.1&&eO as&&eF Γ N sc as q.2|.lC i as,p=>(AG p).any λq=>N[i]?==hG q.1&&dG sc q.1&&okN q.1&&eO as&&eF Γ N sc as q.2|.sY f as g idx d,p=>(AG p).any λr=>Γ.hl&&jd sc r.1&&okN r.1&&eO as&&(Γ.hs.any λq=>q.f==f&&q.h==r.1&&q.g==g&&q.idx==idx&&decide (q.np=gQ as+1))&&xm Γ N sc g idx d as r.2|.blt b as,p=>nq Γ ((AG p).any λq=>bN b==q.1&&jd sc q.1&&Γ.bs.contains q.1&&!isNil as&&eF Γ N sc as q.2)|.ty t a,p=>(AG p).any λq=>(wY q.2).any λr=>(fB r.2).any λtn=>q.1==("isinstance":Str)&&jd sc q.1&&Γ.bs.contains q.1&&tn==Str.ofString (wZ t)&&jd sc tn&&Γ.bs.contains tn&&aV Γ N sc a r.1|.bin o a b,p=>(Uu p).any λq=>decide (QD o=q.2.1)&&aV Γ N sc a q.1&&aV Γ N sc b q.2.2|.cmp o a b,p=>(NN p).any λq=>(eR q.2.1).any λop=>(eR q.2.2).any λm=>decide (mr o=op)&&aV Γ N sc a q.1&&aV Γ N sc b m|.ch s w a b c,p=>(NN p).any λq=>(wY q.2.1).any λop=>(wY q.2.2).any λm=>decide (mr s=op.1)&&decide (mr w=op.2)&&aV Γ N sc a q.1&&aV Γ N sc b m.1&&aV Γ N sc c m.2|.not a,p=>(PR p).any λq=>Ip q.1&&aV Γ N sc a q.2|.neg a,p=>(PR p).any λq=>isNeg q.1&&aV Γ N sc a q.2|.and a b,p=>(NC p).any λq=>(Rr q.1 q.2.2 q.2.1).any λr=>um q.1&&gA b&&aV Γ N sc a r.1&&aV Γ N sc b r.2|.or a b,p=>(NC p).any λq=>(Rr q.1 q.2.2 q.2.1).any λr=>!um q.1&&gA b&&aV Γ N sc a r.1&&aV Γ N sc b r.2|.ite c a b,p=>(Vg p).any λq=>f9 c&&gA a&&gA b&&aV Γ N sc c q.1&&aV Γ N sc a q.2.1&&aV Γ N sc b q.2.2|.tup as,p=>(Ho p).any λps=>eO as&&decide (gQ as<1000)&&eF Γ N sc as ps|.lst as,p=>(Vi p).any λps=>eO as&&decide (gQ as<1000)&&eF Γ N sc as ps|.sub a b,p=>(IK p).any λq=>aV Γ N sc a q.1&&aV Γ N sc b q.2|.slice a lo y,p=>(IK p).any λq=>(Mr q.2).any λr=>r.2.2.isNone&&aV Γ N sc a q.1&&Jw Γ N sc lo r.1&&Jw Γ N sc y r.2.1|.comp k d j it elt,p=>nq Γ ((OI p).any λq=>(eR q.2.1).any λg=>g.ifs.isEmpty&&(tD N sc q.2.2 k d (aC g.target)&&jv k j&&gA elt&&m5 Γ N sc g.target it g.iter&&eZ (aC g.target++freeOf q.2.2) (cB q.2.2 sc) (iV q.2.2) j g.target&&aV Γ.yf (aC g.target++freeOf q.2.2) (cB q.2.2 sc) elt q.1&&decide (g.is_async=0)))|.dN k d j it c elt,p=>nq Γ ((OI p).any λq=>(eR q.2.1).any λg=>(eR g.ifs).any λz=>f9 c&&tD N sc q.2.2 k d (aC g.target)&&jv k j&&gA elt&&m5 Γ N sc g.target it g.iter&&eZ (aC g.target++freeOf q.2.2) (cB q.2.2 sc) (iV q.2.2) j g.target&&aV Γ.yf (aC g.target++freeOf q.2.2) (cB q.2.2 sc) c z&&aV Γ.yf (aC g.target++freeOf q.2.2) (cB q.2.2 sc) elt q.1&&decide (g.is_async=0))|.rev a,p=>(IK p).any λq=>(Mr q.2).any λr=>(r.2.2).any λst=>(PR st).any λu=>(MQ u.2).any λc=>r.1.isNone&&r.2.1.isNone&&isNeg u.1&&Qw c==hG 1&&aV Γ N sc a q.1|.fld i f,p=>(Jl p).any λq=>(fB q.1).any λx=>q.2.1==f&&N[i]?==hG x&&dG sc x&&okN x
noncomputable def eF(Γ:Pg)(N:List Str)(sc:iv):Es->List ia->Bool
 |.nil,[]=>hQ|.cons e a,p::ps=>aV Γ N sc e p&&eF Γ N sc a ps|_,_=>hU
noncomputable def xm(Γ:Pg)(N:List Str)(sc:iv)(g:Str)(idx a:List Nat):Es->List ia->Bool
 |.nil,ps=>(eR ps).any λp=>(SE p).any λl=>FD g idx l.1 l.2.1 l.2.2&&decide (a.map (λi=>N[i]?)=(bo l.2.2).map hG)&&((bo l.2.2).all λy=>decide (sc.names.lookup y=hG .cell))|.cons e b,p::ps=>aV Γ N sc e p&&xm Γ N sc g idx a b ps|_,_=>hU
noncomputable def Jw(Γ:Pg)(N:List Str)(sc:iv):Oe->Option ia->Bool
 |.no,hI=>hQ|.some e,hG p=>aV Γ N sc e p|_,_=>hU
noncomputable def m5(Γ:Pg)(N:List Str)(sc:iv)(c:ia):I->ia->Bool
 |.seq e,p=>aV Γ N sc e p|.mv e,p=>(AG p).any λq=>(eR q.2).any λr=>q.1==("range":Str)&&jd sc q.1&&Γ.bs.contains q.1&&aV Γ N sc e r|.rP a b,p=>(AG p).any λq=>(wY q.2).any λr=>q.1==("range":Str)&&jd sc q.1&&Γ.bs.contains q.1&&aV Γ N sc a r.1&&aV Γ N sc b r.2|.enum e,p=>(AG p).any λq=>(eR q.2).any λr=>isTup c&&q.1==(zu 2:Str)&&jd sc q.1&&Γ.bs.contains q.1&&aV Γ N sc e r
end
set_option backward.match.sparseCases true
abbrev XE(W:Wd)(c:Str)(G1 b:Hp):XK:=λd e f=>∃C a g,d=.ref C/\e=hG a/\c∈W.xs/\W.mg c=hG (.ref C)/\aD W G1 b g f
def sQ(X:Cx)(W:Wd)(f:St)(c:Str)(G H:Hp):Prop:=∀(g:kv) (G1 a:Hp) (b:hW) (e:hV) (d:hW),Inv X g f a b->aD W G H G1 a->dQ X.prog X.w X.stack a b (XE W c G1 a) e d->X.xe e d
def Out{b:Type}(X:Cx)(W:Wd)(r:Res b)(d:St)(G H:Hp)(k:b->Prop):Prop:=match r with
 |.ok a=>k a|.exc c=>sQ X W d c G H|.bad=>False
section
variable{W:Wd}{F:aF}{G1 H1:Hp}{α β:Type}
def sQ.grow{c:Str}(h:sQ X W σ c G H)(g:aD W G H G1 H1):sQ X W σ c G1 H1:=λa G2 b d e f I i x=>h a G2 b d e f I (g.trans i) x
def Out.grow{r:Res α}{k:α->Prop}(h:Out X W r σ G H k)(g:aD W G H G1 H1):Out X W r σ G1 H1 k:=by
 cases r with
 |ok a=>exact h|exc c=>exact sQ.grow h g|bad=>exact h
def Out.imp{r:Res α}{k b:α->Prop}(h:Out X W r σ G H k)(i:∀a,k a->b a):Out X W r σ G H b:=by
 cases r with
 |ok a=>exact i a h|exc c=>exact h|bad=>exact h
def Out.bind{r:Res α}{f:α->Res β}{k:β->Prop}(h:Out X W (r.bind f) σ G H k):Out X W r σ G H λa=>Out X W (f a) σ G H k:=by
 cases r with
 |ok a=>exact h|exc c=>exact h|bad=>exact h
def Out.val{r:Res α}{k:α->Prop}(h:Out X W r σ G H k)(n:∀c,r≠.exc c):∃a,r=.ok a/\k a:=by
 cases r with
 |ok a=>exact⟨a,rfl,h⟩|exc c=>exact absurd rfl (n c)|bad=>exact h.elim
structure Got(W:Wd)(H0 G H:Hp)(e:E)(p:PV)(v:V):Prop where
 top:Top W H0 G H p v
 rep:gA e=hQ->Rep W G p v
def Got.of{e:E}(h:Rep W G p v):Got W H0 G H e p v:={.inl h,λZ=>h}
abbrev tE(X:Cx)(W:Wd)(F:aF)(e:E):TE:=λσ H Q=>∃b G env,SR W b env σ G H/\Out X W (aE F e env) σ G H λp=>∀v c a,aD W G H c a->Got W b c a e p v->Q v a
abbrev tT(X:Cx)(W:Wd)(F:aF)(e:E):TT:=λσ H Q=>∃c G env,SR W c env σ G H/\Out X W (aE F e env) σ G H λp=>∃b,p=.bl b/\∀d a,aD W G H d a->Q b a
structure Nk(W:Wd)(H0 G H:Hp)(es:Es)(ps:List PV)(vs:List V):Prop where
 top:Paired (λv p=>Top W H0 G H p v) vs ps
 rep:eO es=hQ->ag W G ps vs
abbrev tA(X:Cx)(W:Wd)(F:aF)(b:Es):TA:=λσ H Q=>∃c G env,SR W c env σ G H/\Out X W (bf F b env) σ G H λf=>∀d e a,aD W G H e a->Nk W c e a b f d->Q d a
abbrev DK(X:Cx)(W:Wd)(F:aF)(o:Oe):TO:=λσ H Q=>∃b G env,SR W b env σ G H/\Out X W (xF F o env) σ G H λi=>∀c a,aD W G H c a->Q i a
def one{e:E}{f:PV->Res β}{k:β->Prop}(sr:SR W H0 env σ G H)(o:Out X W ((aE F e env).bind f) σ G H k)
 (h:∀p v G1 H1,aD W G H G1 H1->Got W H0 G1 H1 e p v->SR W H0 env σ G1 H1->Out X W (f p) σ G1 H1 k->Q v H1):tE X W F e σ H Q:=
 {H0,G,env,sr,o.bind.imp λp a v G1 H1 g t=>h p v G1 H1 g t (sr.grow g) (a.grow g)}
def Gb{e:E}{f:Bool->Res β}{k:β->Prop}{Q:Bool->Hp->Prop}(sr:SR W H0 env σ G H)(o:Out X W ((aE F e env).bind λp=>sC p f) σ G H k)
 (h:∀b G1 H1,aD W G H G1 H1->SR W H0 env σ G1 H1->Out X W (f b) σ G1 H1 k->Q b H1):tT X W F e σ H Q:=by
 refine{H0,G,env,sr,o.bind.imp λp a=>?_}
 cases p with
 |bl b=>exact{b,rfl,λG1 H1 g=>h b G1 H1 g (sr.grow g) (Out.grow a g)}|aL=>exact e6 a|int _=>exact e6 a|str _=>exact e6 a|tup _=>exact e6 a|lst _=>exact e6 a|exc _=>exact e6 a|obj _=>exact e6 a|bE _ _=>exact e6 a
def args{a:Es}{f:List PV->Res β}{k:β->Prop}{Q:List V->Hp->Prop}(sr:SR W H0 env σ G H)(o:Out X W ((bf F a env).bind f) σ G H k)
 (h:∀ps vs G1 H1,aD W G H G1 H1->Nk W H0 G1 H1 a ps vs->SR W H0 env σ G1 H1->Out X W (f ps) σ G1 H1 k->Q vs H1):tA X W F a σ H Q:=
 {H0,G,env,sr,o.bind.imp λp b v G1 H1 g t=>h p v G1 H1 g t (sr.grow g) (b.grow g)}
def Got.grow{G2 a:Hp}{e:E}(h:Got W H0 G H e p v)(g:aD W G H G2 a):Got W H0 G2 a e p v:={h.top.grow g,λz=>Rep.same g.g p (h.rep z)}
def AO(W:Wd)(G:Hp):Option (Str×List Nat)->List PV->List V->Prop
 |none,as,vs=>ag W G as vs|some q,as,vs=>∃xg a b v,as=xg++a/\vs=b++[v]/\ag W G xg b/\ma W G q.1 q.2 a v
abbrev AN(W:Wd)(F:aF)(f:Str)(n:Nat)(q:Option (Str×List Nat)):Sp:=λb H Q E=>b.length=n/\∃G as,ax G H/\bH W G H/\AO W G q as b/\(match F f as with
 |.ok p=>∀v d a,aD W G H d a->Rep W d p v->Q v a|.exc c=>∀e g a,XE W c G H e g a->E e g a|.bad=>False)
structure AR(X:Cx)(W:Wd)(F:aF)(k:Nat)(f:Str):Prop where
 ex:∃fa fd ps,fL X.prog X.w X.K X.mg X.base (dQ X.prog X.w) k fa fd ps (AN W F f ps.length hI)/\X.mg f=hG (.ref fa)/\PySem.W.keepIn X.K (.ref fa)=hQ/\Binds X.K fd ps []/\∀as,F f as≠.bad->as.length=ps.length
structure Nf(X:Cx)(W:Wd)(F:aF)(k:Nat)(q:Hs):Prop where
 ex:∃fa fd ps,fL X.prog X.w X.K X.mg X.base (dQ X.prog X.w) k fa fd ps (AN W F q.f ps.length (hG (q.g,q.idx)))/\X.mg q.h=hG (.ref fa)/\PySem.W.keepIn X.K (.ref fa)=hQ/\Binds X.K fd ps []/\ps.length=q.np
structure eh(Γ:Pg)(F:aF)(W:Wd)(N:List Str)(sc:iv)(k:Nat)(X:Cx):Prop where
 hN:X.N=N
 eP:X.env.scope=sc
 calm:Γ.qt=hU->X.calm=hQ
 nd:N.Nodup
 K:W.K=X.K
 mg:W.mg=X.mg
 gs:∀q∈Γ.gs,∃u v,X.mg q.1=hG u/\RelV v u/\∀G,Rep W G q.2 v
 bs:∀g∈Γ.bs,X.mg g=hI
 room:cN (k+1) X.A
 fns:∀f,Γ.fs.contains f=hQ->AR X W F k f
 QB:Γ.cs.contains (zu 22)=hU
 cls:∀c∈Γ.cs,∃C,X.mg c=hG (.ref C)
 xc:∀d∈W.xs,∀D,X.mg d=hG (.ref D)->Jj X.K D/\(∀c∈Γ.cs,∀C,X.mg c=hG (.ref C)->PySem.W.kitOne X.K (.ref D) (.ref C)=hG (c==d||c==(zu 23)))/\PySem.W.kitOne X.K (.ref D) (.type (zu 22))=hG hQ
 uh:∀q∈Γ.hs,Nf X W F k q
 Vv:∀f,Γ.qs.contains f=hQ->2<=k/\AR X W F 2 f
 any:∀g as,F g as≠.bad->Γ.fs.contains g=hQ\/dZ g=hQ
 fld:∀f q,F (bW f) [q]≠.bad->∃n o p,q=.obj n/\W.ob[n]?=hG o/\o.fs.lookup f=hG p/\F (bW f) [q]=.ok p/\qv X.K o.C/\cC X.K o.C f
 tb:Γ.hl=hQ->∃c P,X.env.code=.ref c/\PySem.W.CodeHd X.base c P/\(P,X.env.qual++(zu 4))∈W.ts/\∀q',(P,q')∈W.ts->q'=X.env.qual++(zu 4)
 bm:Γ.hl=hQ->AQ X.mg X.base
 fl:Γ.hl=hQ->∀x,X.fn x=hQ
variable{Γ:Pg}{sc:iv}
def oo(C:zv3 X)(h:dG sc x=hQ):Nv X.env.scope x:=by
 rw [C.eP];unfold dG ft at h;simp! [gd,zzy] at h;rcases h with(h|h)|h
 .exact .inl h
 .exact .inr (.inl h)
 .exact .inr (.inr h)
def f6(C:zv3 X){x:Str}(h:jd sc x=hQ):Gl X x:=by show X.env.scope.names.lookup x=_;rw [C.eP];exact zzy.mp h
def dC(h:okN x=hQ):(x==(zu 25:Str))=hU/\(x==("__classdict__":Str))=hU/\x≠(zu 35):=by unfold okN at h;simp! [zza,Bool.not_eq_true',beq_eq_false_iff_ne] at h;exact{beq_eq_false_iff_ne.mpr h.1.1,beq_eq_false_iff_ne.mpr h.1.2,h.2}
noncomputable abbrev GE(X:Cx)(W:Wd)(F:aF)(e:E)(p:ia):Prop:=PE X p (tE X W F e)
noncomputable abbrev GT(X:Cx)(W:Wd)(F:aF)(e:E)(p:ia):Prop:=PT X p (tT X W F e)
noncomputable abbrev GW(X:Cx)(W:Wd)(F:aF)(e:E)(p:ia):Prop:=PW X p (tT X W F e)
def _root_.L2.PE.imp{p:ia}{t t':TE}(h:PE X p t)(i:∀σ H Q,t' σ H Q->t σ H Q):PE X p t':=λa s σ H Q I b=>h a s σ H Q I (i σ H Q b)
def _root_.L2.PT.imp{p:ia}{t t':TT}(h:PT X p t)(i:∀σ H Q,t' σ H Q->t σ H Q):PT X p t':=λa s σ H Q I b=>h a s σ H Q I (i σ H Q b)
def _root_.L2.PW.imp{p:ia}{t t':TT}(h:PW X p t)(i:∀σ H Q,t' σ H Q->t σ H Q):PW X p t':=λw a s σ H Q I b=>h w a s σ H Q I (i σ H Q b)
def _root_.L2.PA.imp{p:List ia}{t t':TA}(h:PA X p t)(i:∀σ H Q,t' σ H Q->t σ H Q):PA X p t':=λa b s σ H Q I c=>h a b s σ H Q I (i σ H Q c)
def IP{e:E}(σ:St)(H:Hp)(Q:Bool->Hp->Prop)(h:tT X W F e σ H Q):tB (tE X W F e) σ H Q:=by let(a,G,env,sr,o):=h;refine{a,G,env,sr,o.imp λp c v d f g t=>?_};let(b,rfl,q):=c;exact{b,t.top.bl,q d f g}
def ve{e:E}(σ:St)(H:Hp)(Q:Bool->Hp->Prop)(h:tT X W F e σ H Q):DL (tE X W F e) σ H Q:=IP σ H Q h
def xM{i:Nat}(a:X.N[i]?=hG x)(b:Nv X.env.scope x)(h:okN x=hQ):GE X W F (.var i) (.Name x pos):=by
 let(c,d,j):=dC h;refine(iE (i:=i) a b c d).imp λσ H Q f=>?_;let(m,G,env,sr,o):=f
 cases e:env[i]? with
 |none=>unfold aE at o;rw [e] at o;exact o.elim|some g=>
  cases g with
  |no=>unfold aE at o;rw [e] at o;exact o.elim|fn _ _ _=>unfold aE at o;rw [e] at o;exact o.elim|DZ _=>unfold aE at o;rw [e] at o;exact o.elim|own p=>unfold aE at o;rw [e] at o;exact o.elim|val p=>unfold aE at o;rw [e] at o;let(q,hs,v,rfl,r):=sr.slot i _ e;exact{v,hs,o v G H (.refl sr.sub) (.of r)}
def vO(C:zv3 X){i:Nat}(h:(N[i]?==hG x&&dG sc x&&okN x)=hQ):GE X W F (.var i) (.Name x pos):=by simp! [zza,zzy] at h;exact xM (by rw [C.hN];exact h.1.1) (oo C h.1.2) h.2
def Kd(C:zv3 X){i:Nat}(h:(N[i]?==hG x&&dG sc x&&okN x)=hQ):GE X W F (.fY i) (.Name x pos):=by
 simp! [zza,zzy] at h;let(a,b,g):=dC h.2;refine(iE (i:=i) (by rw [C.hN];exact h.1.1) (oo C h.1.2) a b).imp λσ H Q c=>?_;let(j,G,env,sr,o):=c
 cases e:env[i]? with
 |none=>unfold aE at o;rw [e] at o;exact o.elim|some d=>
  cases d with
  |no=>unfold aE at o;rw [e] at o;exact o.elim|fn _ _ _=>unfold aE at o;rw [e] at o;exact o.elim|DZ _=>unfold aE at o;rw [e] at o;exact o.elim|own p=>unfold aE at o;rw [e] at o;let(f,hs,v,rfl,r):=sr.slot i _ e;exact{v,hs,o v G H (.refl sr.sub) {.inr r,nofun}}|val p=>unfold aE at o;rw [e] at o;let(f,hs,v,rfl,r):=sr.slot i _ e;exact{v,hs,o v G H (.refl sr.sub) (.of r)}
def d7(h:PE X e (tC v))(r:∀G,Rep W G p v):GE X W F (.cst p) e:=by refine L2.PE.imp h λσ H Q a=>?_;let(b,G,env,sr,o):=a;exact o v G H (.refl sr.sub) (.of (r G))
def EY(C:zv3 X)(h:(g==x&&jd sc x&&okN x&&Γ.gs.any λq=>q.1==g&&yd q.2 p)=hQ):GE X W F (.glob g p) (.Name x pos):=by simp! [zza,zzy,eQ] at h;let(((rfl,b),c),q,a,e1,d):=h;let(u,v,hm,e,f):=C.gs q a;rw [e1] at hm;cases Cc d;refine(Gv (f6 C b) hm e (dC c).1).imp λσ H Q a=>?_;let(i,G,env,sr,o):=a;exact o v G H (.refl sr.sub) (.of (f G))
def Res.bq{α:Type}{o:Option α}(c:Str):Res.of o≠.exc c:=by cases o<;>exact nofun
def uF{α β:Type}{o:Option α}{f:α->Res β}{c:Str}(h:∀a,f a≠.exc c):(Res.of o).bind f≠.exc c:=by
 cases o with
 |none=>exact nofun|some a=>exact h a
def o7{o:IW}(c:Str):binOp o p q≠.exc c:=by
 unfold binOp
 repeat' split
 all_goals exact nofun
local macro_rules|`(tactic|ac_rfl)=>`(tactic|repeat' first|split|refine uF fun _=>?_|exact Res.bq _|exact nofun)
def F3(c:Str):gH p q≠.exc c:=by
 unfold gH
 ac_rfl
def F9(c:Str):iU p q≠.exc c:=by
 unfold iU
 ac_rfl
def F8(c:Str):uO p q≠.exc c:=by
 unfold uO
 ac_rfl
def F7(c:Str):uN p q≠.exc c:=by
 unfold uN
 ac_rfl
def F4(c:Str):wm p q≠.exc c:=by
 unfold wm
 ac_rfl
def F6(c:Str):uM p q≠.exc c:=by
 unfold uM
 ac_rfl
def Cz(c:Str):lU p q≠.exc c:=by
 unfold lU
 ac_rfl
def F5(c:Str):uL p q≠.exc c:=by
 unfold uL
 ac_rfl
def CA(c:Str):lV p q≠.exc c:=by
 unfold lV
 ac_rfl
def di{o:sN}(c:Str):cW o p q≠.exc c:=match o with
 |.eq=>F3 c|.ne=>F9 c|.lt=>F8 c|.le=>F7 c|.gt=>F4 c|.is=>F6 c|.K3=>Cz c|.D8=>F5 c|.sJ=>CA c
def two{op:PV->PV->Res PV}{a b:E}{e:E}(f:∀p q c,op p q≠.exc c)(he:∀env,aE F e env=(aE F a env).bind λx=>(aE F b env).bind λy=>op x y)
 (h:tE X W F e σ H Q):MB (vi W op) (tE X W F a) (tE X W F b) σ H Q:=by
 let(g,G,env,sr,o):=h;rw [he] at o;refine one sr o λp v G1 H1 i j m s=>one m s λq u G2 L d t2 t z=>?_;let(r,A,B):=z.val (f p q);exact{g,G2,p,q,r,t.sub,j.top.grow d,t2.top,A,λw C D I K=>B w C D ((i.trans d).trans I) (.of K)}
def xK(hK:W.K=X.K){o:IW}{a b:E}(f:GE X W F a d)(g:GE X W F b e):GE X W F (.bin o a b) (.BinOp d (QD o) e pos):=
 (O3 (Lx hK o) f g).imp λσ H Q h=>two (λp q c=>o7 c) (λenv=>by rw [aE]) h
def J5(C:zv3 X){o:IW}{a b:E}{c:ia}(e:GE X W F a c)(f:GE X W F b d):GE X W F (.bin o a b) (.BinOp c (QD o) d pos):=xK C.K e f
def J7(C:zv3 X){o:sN}{a b:E}(f:GE X W F a e)(g:GE X W F b d)(hm:behindInMarks (mr o) d=hU):GE X W F (.cmp o a b) (.Compare e [mr o] [d] pos):=
 (yk (gJ C.K C.room.units o) f g hm).imp λσ H Q h=>two (λp q c=>di c) (λenv=>by rw [aE]) h
theorem Kt(C:zv3 X){o:sN}{a b:E}(f:GE X W F a e)(g:GE X W F b d)(hm:behindInMarks (mr o) d=hU):GT X W F (.cmp o a b) (.Compare e [mr o] [d] pos):=
 (yt (gJ C.K C.room.units o) f g hm).imp λσ H Q h=>by have i:=ve σ H Q h;exact two (λp q c=>di c) (λenv=>by rw [aE]) i
def HQ{s f:sN}{a b c:E}(σ:St)(H:Hp)(Q:VK)(h:tE X W F (.ch s f a b c) σ H Q):wM (vi W (cW s)) (vi W (cW f)) (tE X W F a) (tE X W F b) (tE X W F c) σ H Q:=by
 let(A,G,env,sr,o):=h;rw [aE] at o;refine one sr o λp v G1 H1 B L M O=>one M O λq u G2 C g t2 D P=>?_;let(r,R,d):=P.bind.val (di);refine{A,G2,p,q,r,D.sub,L.top.grow g,t2.top,R,λw S T e I=>?_}
 cases r with
 |bl t=>
  simp! [Rep] at I;subst I;refine{t,rfl,?_};cases t with
  |false=>rw [if_neg zzf];have i:Out X W (Res.ok (PV.bl hU)) σ G2 C _:=d;exact i _ S T ((B.trans g).trans e) (.of .b)|true=>rw [if_pos rfl];have i:Out X W ((aE F c env).bind λz=>cW f q z) σ G2 C _:=d;refine one (D.grow e) (i.grow e) λz y U H4 K V Y Z=>?_;let(r4,j,m):=Z.val (di);exact{A,U,q,z,r4,Y.sub,t2.top.grow (e.trans K),V.top,j,λw G5 H5 g5 Xk=>m w G5 H5 ((((B.trans g).trans e).trans K).trans g5) (.of Xk)}
 |aL=>exact e6 d|int _=>exact e6 d|str _=>exact e6 d|tup _=>exact e6 d|lst _=>exact e6 d|exc _=>exact e6 d|obj _=>exact e6 d|bE _ _=>exact e6 d
def N5(C:zv3 X){d e:sN}{a b c:E}{h f g:ia}(i:GE X W F a h)(j:GE X W F b f)(m:GE X W F c g)(hm:lastMarks [mr d,mr e] [f,g]=hU):GE X W F (.ch d e a b c) (.Compare h [mr d,mr e] [f,g] pos):=
 (CN (gJ C.K C.room.units d) (gJ C.K C.room.units e) i j m hm).imp HQ
def N9(C:zv3 X){d e:sN}{a b c:E}{i f g:ia}(j:GE X W F a i)(m:GE X W F b f)(o:GE X W F c g)(hm:lastMarks [mr d,mr e] [f,g]=hU):GT X W F (.ch d e a b c) (.Compare i [mr d,mr e] [f,g] pos):=
 (Di (gJ C.K C.room.units d) (gJ C.K C.room.units e) j m o hm).imp λσ H Q h=>HQ σ H _ (ve σ H Q h)
theorem BE{a:E}{c:ia}(d:GE X W F a c):GE X W F (.neg a) (.UnaryOp .USub c pos):=
 (O5 (Hu (W:=W)) d).imp λσ H Q h=>by
  let(e,G,env,sr,o):=h;rw [aE] at o;refine one sr o λp v G1 H1 f g j b=>?_
  cases p with
  |int i=>exact{e,G1,i,j.sub,g.top,λw m q r s=>b w m q (f.trans r) (.of s)}|bl _=>exact e6 b|aL=>exact e6 b|str _=>exact e6 b|tup _=>exact e6 b|lst _=>exact e6 b|exc _=>exact e6 b|obj _=>exact e6 b|bE _ _=>exact e6 b
theorem Ka{a:E}(e:GE X W F a d):GE X W F (.not a) (.UnaryOp .Not d pos):=
 (LV e).imp λσ H Q h=>by
  let(i,G,env,sr,o):=h;rw [aE] at o;refine one sr o λp v G1 H1 f g j c=>?_
  cases p with
  |bl b=>exact{b,g.top.bl,c _ G1 H1 f (.of .b)}|int _=>exact e6 c|aL=>exact e6 c|str _=>exact e6 c|tup _=>exact e6 c|lst _=>exact e6 c|exc _=>exact e6 c|obj _=>exact e6 c|bE _ _=>exact e6 c
theorem Ku{a:E}{c:ia}(d:GT X W F a c):GT X W F (.not a) (.UnaryOp .Not c pos):=
 (L7 d).imp λσ H Q h=>by let(i,G,env,sr,o):=h;rw [aE] at o;refine Gb sr o λb G1 H1 f j g=>?_;let(m,e,q):=g;cases e;exact q G1 H1 f
theorem BB{a b:E}{f:ia}{r:List ia}(he:gA b=hQ)(i:GE X W F a e)(j:GE X W F b (.BoolOp .And (f::r) pos)):GE X W F (.and a b) (.BoolOp .And (e::f::r) pos):=
 (LO i j).imp λσ H Q h=>by
  let(m,G,env,sr,o):=h;rw [aE] at o;refine one sr o λp v G1 H1 g q s c=>?_
  cases p with
  |bl t=>
   refine{t,q.top.bl,?_};cases t with
   |true=>rw [if_pos rfl];have d:Out X W (aE F b env) σ G1 H1 _:=c;exact{m,G1,env,s,d.imp λp u v w y z A=>u v w y (g.trans z) (.of (A.rep he))}|false=>rw [if_neg zzf];have d:Out X W (Res.ok (PV.bl hU)) σ G1 H1 _:=c;exact d _ G1 H1 g (.of .b)
  |int _=>exact e6 c|aL=>exact e6 c|str _=>exact e6 c|tup _=>exact e6 c|lst _=>exact e6 c|exc _=>exact e6 c|obj _=>exact e6 c|bE _ _=>exact e6 c
theorem Ic{a b:E}{f:ia}{r:List ia}(he:gA b=hQ)(i:GE X W F a e)(j:GE X W F b (.BoolOp .Or (f::r) pos)):GE X W F (.or a b) (.BoolOp .Or (e::f::r) pos):=
 (O4 i j).imp λσ H Q h=>by
  let(m,G,env,sr,o):=h;rw [aE] at o;refine one sr o λp v G1 H1 g q s c=>?_
  cases p with
  |bl t=>
   refine{t,q.top.bl,?_};cases t with
   |false=>rw [if_neg zzf];have d:Out X W (aE F b env) σ G1 H1 _:=c;exact{m,G1,env,s,d.imp λp u v w y z A=>u v w y (g.trans z) (.of (A.rep he))}|true=>rw [if_pos rfl];have d:Out X W (Res.ok (PV.bl hQ)) σ G1 H1 _:=c;exact d _ G1 H1 g (.of .b)
  |int _=>exact e6 c|aL=>exact e6 c|str _=>exact e6 c|tup _=>exact e6 c|lst _=>exact e6 c|exc _=>exact e6 c|obj _=>exact e6 c|bE _ _=>exact e6 c
theorem BP{a b:E}{f:ia}{r:List ia}(j:GT X W F a d)(m:GW X W F b (.BoolOp .And (f::r) pos)):GW X W F (.and a b) (.BoolOp .And (d::f::r) pos):=
 (pw_and j m).imp λσ H Q h=>by
  let(s,G,env,sr,o):=h;rw [aE] at o;refine Gb sr o λt G1 H1 g u i=>?_
  cases t with
  |true=>rw [if_pos rfl];have w:Out X W (aE F b env) σ G1 H1 _:=i;exact{s,G1,env,u,w.imp λp y=>by let(c,rfl,q):=y;exact{c,rfl,λz A B=>q z A (g.trans B)}}|false=>rw [if_neg zzf];let(c,e,q):=(show Out X W (Res.ok (PV.bl hU)) σ G1 H1 _ from i);cases e;exact q G1 H1 g
theorem Ie{a b:E}{f:ia}{r:List ia}(j:GT X W F a d)(m:GW X W F b (.BoolOp .Or (f::r) pos)):GW X W F (.or a b) (.BoolOp .Or (d::f::r) pos):=
 (pw_or j m).imp λσ H Q h=>by
  let(s,G,env,sr,o):=h;rw [aE] at o;refine Gb sr o λt G1 H1 g u i=>?_
  cases t with
  |false=>rw [if_neg zzf];have w:Out X W (aE F b env) σ G1 H1 _:=i;exact{s,G1,env,u,w.imp λp y=>by let(c,rfl,q):=y;exact{c,rfl,λz A B=>q z A (g.trans B)}}|true=>rw [if_pos rfl];let(c,e,q):=(show Out X W (Res.ok (PV.bl hQ)) σ G1 H1 _ from i);cases e;exact q G1 H1 g
theorem J9{c a b:E}{m q r:ia}(z:gA a=hQ)(A:gA b=hQ)(B:GT X W F c m)(C:GE X W F a q)(D:GE X W F b r):GE X W F (.ite c a b) (.IfExp m q r pos):=
 (CP B C D).imp λσ H Q h=>by
  let(s,G,env,sr,o):=h;rw [aE] at o;refine Gb sr o λt G1 H1 u w y=>?_
  cases t with
  |true=>rw [if_pos rfl];have d:Out X W (aE F a env) σ G1 H1 _:=y;exact{s,G1,env,w,d.imp λp e v f g i j=>e v f g (u.trans i) (.of (j.rep z))}|false=>rw [if_neg zzf];have d:Out X W (aE F b env) σ G1 H1 _:=y;exact{s,G1,env,w,d.imp λp e v f g i j=>e v f g (u.trans i) (.of (j.rep A))}
abbrev tF(X:Cx)(W:Wd)(F:aF)(e:E):TE:=λσ H Q=>∃f G env,SR W f env σ G H/\Out X W (aE F e env) σ G H λp=>∃xs,p=.lst xs/\∀a c d b,aD W G H d b->b a=hI->ag W d xs c->Q (.ref a) (upd b a (.lst c))
noncomputable abbrev GF(X:Cx)(W:Wd)(F:aF)(e:E)(p:ia):Prop:=PE X p (tF X W F e)
theorem GF.ge{e:E}{p:ia}(h:GF X W F e p)(hl:∀env q,aE F e env=.ok q->∃xs,q=.lst xs):GE X W F e p:=
 L2.PE.imp h λσ H Q d=>by
  let(f,G,env,sr,o):=d
  refine{f,G,env,sr,?_};cases r:aE F e env with
  |bad=>rw [r] at o;exact o|exc c=>rw [r] at o;exact o|ok q=>rw [r] at o;let(xs,rfl):=hl env q r;exact{xs,rfl,λa i j m g b l=>o _ _ _ (g.trans (.new g.sub b)) (.of (.l (.inl (.inl aq)) (ag.same (cj (g.sub.free b)) xs l)))}
def notStar{e:E}{p:ia}(h:aV Γ N sc e p=hQ):∀env ps,starEach (p::ps) env=(hU,eval p env)::starEach ps env:=by
 intro env ps;cases p<;>first|rfl|(cases e<;>first|(exact aN h)|(rename_i q;cases q<;>exact aN h))
theorem dk:∀{a:Es} {ps:List ia},eF Γ N sc a ps=hQ->∀env pos,(backTo pos (starEach ps env)).any (·.1)=hU
 |.nil,[],_,_,_=>rfl|.cons e a,p::ps,h,env,pos=>by replace h:=aj h;rw [notStar h.1];show(hU||(backTo pos (starEach ps env)).any (·.1))=hU;rw [dk h.2];rfl
 |.nil,_::_,h,_,_=>aN h|.cons _ _,[],h,_,_=>aN h
noncomputable abbrev GA(X:Cx)(W:Wd)(F:aF)(a:Es)(ps:List ia):Prop:=PA X ps (tA X W F a)
theorem ra:GA X W F .nil []:=L2.PA.imp eB λσ H Q h=>by let(a,G,env,sr,o):=h;rw [bf] at o;exact o [] G H (.refl sr.sub) {.nil,λZ=>.nil}
theorem j4{e:E}{b:Es}{p:ia}{ps:List ia}(he:GE X W F e p)(hs:GA X W F b ps)(d:starEach (p::ps) X.env=(hU,eval p X.env)::starEach ps X.env):GA X W F (.cons e b) (p::ps):=
 L2.PA.imp (cH he hs d) λσ H Q h=>by let(t,G,env,sr,o):=h;rw [bf] at o;refine one sr o λq v G1 H1 f c i j=>args i j λqs m G2 r a t2 u s=>?_;refine s (v::m) G2 r (f.trans a) {.cons (c.top.grow a) t2.top,λz=>?_};unfold eO at z;rw [zza] at z;exact .cons (Rep.same a.g q (c.rep z.1)) (t2.rep z.2)
theorem j2:∀{a:Es} {env:Sl} {ps:List PV},bf F a env=.ok ps->ps.length=gQ a
 |.nil,env,ps,h=>by rw [bf] at h;cases h;rfl
 |.cons e a,env,ps,h=>by rw [bf] at h;let(p,_,h):=Res.aJ h;let(qs,b,h):=Res.aJ h;cases h;rw [cS,j2 b];rfl
theorem vN{a:Es}{ps:List ia}{f:Nat}(g:eO a=hQ)(hl:gQ a<1000)(h:GA X W F a ps):GE X W F (.tup a) (.Tuple ps f pos):=
 L2.PE.imp (CV h) λσ H Q i=>by
  let(j,G,env,sr,o):=i;rw [aE] at o;have m:=o
  refine{j,G,env,sr,?_};cases r:bf F a env with
  |bad=>rw [r] at o;exact o|exc c=>rw [r] at o;exact o|ok qs=>rw [r] at o;have b:=j2 r;intro q G1 H1 d t;have l:=t.rep g;refine{by rw [l.length,b];exact Nat.le_of_lt (Nat.lt_trans hl (by decide)),λp e=>?_};exact o _ _ _ (d.trans (.new d.sub e)) (.of (.t (.inl aq) (ag.same (cj (d.sub.free e)) qs l)))
theorem BH{a:Es}{ps:List ia}(d:eO a=hQ)(hl:gQ a<1000)(h:GA X W F a ps):GF X W F (.lst a) (.List ps pos):=
 L2.PE.imp (LS h) λσ H Q f=>by
  let(g,G,env,sr,o):=f
  rw [aE] at o;refine{g,G,env,sr,?_};cases r:bf F a env with
  |bad=>rw [r] at o;exact o|exc c=>rw [r] at o;exact o|ok qs=>rw [r] at o;have b:=j2 r;let(xs,e,o):=o;cases e;intro i G1 H1 j t;have l:=t.rep d;exact{by rw [l.length,b];exact Nat.le_of_lt (Nat.lt_trans hl (by decide)),λp m=>o p i G1 H1 j m l}
theorem lst_is{a:Es}:∀env q,aE F (.lst a) env=.ok q->∃xs,q=.lst xs:=λenv q h=>by rw [aE] at h;let(b,_,h):=Res.aJ h;cases h;exact{_,rfl}
def Ae(c:Str):aZ p q≠.exc c:=by
 unfold aZ
 ac_rfl
def Kc(C:zv3 X){a b:E}(f:GE X W F a e)(g:GE X W F b d)(hs:qA d):GE X W F (.sub a b) (.Subscript e d pos):=
 (Iz (Sy C.K C.room.units) f g hs).imp λσ H Q h=>two (λp q c=>Ae c) (λenv=>by rw [aE]) h
def C9{e:E}{p:ia}(h:aV Γ N sc e p=hQ):qA p:=by
 intro o i;cases p<;>first|rfl|(cases e<;>first|(exact aN h)|(rename_i q;cases q<;>exact aN h))
def rF{e:E}{p:ia}(h:aV Γ N sc e p=hQ)(op:CmpOp):behindInMarks op p=hU:=by
 cases p<;>first|rfl|(cases e<;>first|(exact aN h)|(rename_i q;cases q<;>exact aN h))
theorem E2:PO X hI (DK X W F .no):=λa s σ H Q I h=>GD a s σ H Q I (by let(b,G,env,sr,o):=h;rw [xF] at o;exact o G H (.refl sr.sub))
theorem E3{e:E}{p:ia}(h:GE X W F e p):PO X (hG p) (DK X W F (.some e)):=λb s σ H Q I c=>GG h b s σ H Q I (by
 let(g,G,env,sr,o):=c;rw [xF] at o;refine one sr o λq v G1 H1 d f j a=>?_
 cases q with
 |int i=>exact{i,f.top.int,a G1 H1 d}|bl _=>exact e6 a|aL=>exact e6 a|str _=>exact e6 a|tup _=>exact e6 a|lst _=>exact e6 a|exc _=>exact e6 a|obj _=>exact e6 a|bE _ _=>exact e6 a)
def uG{a b:Option Int}(c:Str):fJ p a b≠.exc c:=by
 unfold fJ
 ac_rfl
theorem BF(C:zv3 X){a:E}{g i:Oe}{j:ia}{pl m:Option ia}{q:Pos}(s:GE X W F a j)(hl:PO X pl (DK X W F g))(t:PO X m (DK X W F i)):GE X W F (.slice a g i) (.Subscript j (.Slice pl m hI q) pos):=
 (CU (Ts C.K) s hl t).imp λσ H Q h=>by let(e,G,env,sr,o):=h;rw [aE] at o;refine one sr o λp v G1 H1 u y f z=>?_;refine{e,G1,env,f,z.bind.imp λl A G2 S b=>?_};refine{e,G2,env,f.grow b,(A.grow b).bind.imp λT B D U d=>?_};let(r,I,L):=(B.grow d).val (λc=>uG c);exact{e,D,p,r,((f.grow b).grow d).sub,y.top.grow (b.trans d),I,λw M O P R=>L w M O (((u.trans b).trans d).trans P) (.of R)}
def yB{CX:yS}{f:h9}{fd:FuncData}{ps:List Str}{sp:Sp}{E:XK}{b:kv}{s:hW}(c:fL X.prog X.w X.K X.mg X.base CX k f fd ps sp)(g:cN k X.A)(i:Binds X.K fd ps [])
 (j:∀e s',CX X.stack H s E e s'->X.xe e s') (I:Inv X b σ H s) (r:Vals vs us) (h:sp vs H Q E):zx7 X (call (.ref f) us) (EP X b σ Q) X.xe s:=by
 have hl:us.length=ps.length:=by rw [<-r.length];exact c.len _ _ _ _ h
 have d:=i s us I.kS (by rw [hD];exact hl);rw [hD] at d;refine wpAny_call (codeAny_mono (c.run X.A X.stack s H {us,[]} us vs Q E g I.qS d r h) λr s' a=>?_)
 cases r with
 |error e=>exact j e s' a|ok fl=>
  cases fl with
  |ret u=>exact I.after a|next=>exact e6 a|brk=>exact e6 a|cont=>exact e6 a
def AW.imp{outer:List Env}{s s':hW}{E b:XK}{e:hV}(h:dQ P w outer H s E e s')(i:∀C a H',E C a H'->b C a H'):dQ P w outer H s b e s':=by let(a,C,t,c,H',B,rfl,F):=h;exact{a,C,t,c,H',B,rfl,{F.os,F.bare,F.aR,F.D0,F.tn,F.tup,F.fj,F.dP,F.un,i _ _ _ F.ends}}
def mY(C:cN k X.A){i:h9}{fd:FuncData}{pn:List Str}{q:Option (Str×List Nat)}{g:kv}{s:hW}{as:List PV}
 (D:fL X.prog X.w X.K X.mg X.base (dQ X.prog X.w) k i fd pn (AN W F f pn.length q)) (L:Binds X.K fd pn []) (d:F f as≠.bad->vs.length=pn.length)
 (I:Inv X g σ H s) (j:ax G H) (tb:bH W G H) (l:AO W G q as vs) (r:Vals vs us) (o:Out X W (F f as) σ G H λp=>dm W G H p Q):zx7 X (call (.ref i) us) (EP X g σ Q) X.xe s:=by
 have h:F f as≠.bad:=λz=>by rw [z] at o;exact o
 refine yB (E:=λm u b=>∃c,F f as=.exc c/\XE W c G H m u b) D C L (λe M x=>?_) I r {d h,G,as,j,tb,l,?_}
 .cases z:F f as with
  |ok q=>let(a,S,t,vs,b,B,rfl,Fl):=x;let(c,e1,_):=Fl.ends;rw [z] at e1;cases e1
  |exc c=>rw [z] at o;refine o g G H s e M I (.refl j) (AW.imp x λT a b y=>?_);let(U,e1,y):=y;rw [z] at e1;cases e1;exact y
  |bad=>exact absurd z h
 .cases z:F f as with
  |ok q=>rw [z] at o;exact λv O b P R=>o v O b P R|exc c=>exact λm u b x=>⟨c,rfl,x⟩|bad=>exact absurd z h
def eh.rm(C:zv3 X):cN k X.A:=C.room.mono (Nat.le_succ k)
def EX(C:zv3 X){e:E}{b:Es}{p:ia}{ps:List ia}(j:Γ.fs.contains f=hQ)(m:jd sc f=hQ)(u:okN f=hQ)(w:eO (.cons e b)=hQ)(y:GA X W F (.cons e b) (p::ps))
 (A:starEach (p::ps) X.env=(hU,eval p X.env)::starEach ps X.env) (hpl:(backTo pos (starEach ps X.env)).any (·.1)=hU):GE X W F (.call f (.cons e b)) (.Call (.Name f np) (p::ps) [] pos):=by
 intro B s σ H Q I h;let(U,G,env,sr,o):=h;rw [aE] at o;let(V,fd,pn,D,hm,hk,K,a):=(C.fns f j).ex;refine wpAny_Call_Name_kw (fH I (f6 C m) hm ?_ (dC u).1);refine PySem.W.callWith_K (h₀:=X.base) I.ok.mod.Iq hk (bM (y pos B s σ H (λc H1=>∃G1 as,ax G1 H1/\bH W G1 H1/\ag W G1 as c/\Out X W (F f as) σ G1 H1 λp=>dm W G1 H1 p Q) I ?_) λY Z ⟨c,H1,g,r,q⟩=>{g.kS,?_}) A hpl
 .refine args sr o λas c G1 H1 L t i d=>{G1,as,i.sub,i.tab,t.rep w,d.imp λp M v O P R S=>M v O P (L.trans R) (.of S)}
 .let(G1,as,T,tb,l,d):=q;exact mY C.rm D K (λz=>by rw [l.length];exact a as z) g T tb l r d
def BC(C:zv3 X)(d:Γ.fs.contains f=hQ)(e:jd sc f=hQ)(g:okN f=hQ):GE X W F (.call f .nil) (.Call (.Name f np) [] [] pos):=by intro y s σ H Q I h;let(i,G,env,sr,o):=h;rw [aE,bf] at o;let(A,fd,pn,j,hm,hk,m,a):=(C.fns f d).ex;refine wpAny_Call_Name_kw (fH I (f6 C e) hm ?_ (dC g).1);refine PySem.W.callWith_K0 I.kS hk ?_;have r:Out X W (F f []) σ G H λp=>∀v c b,aD W G H c b->Got W i c b (.call f .nil) p v->Q v b:=o;exact mY (us:=[]) (vs:=[]) (as:=[]) (q:=hI) C.rm j m (λz=>a [] z) I sr.sub sr.tab (show ag W G [] [] from .nil) .nil (r.imp λp t v c b u w=>t v c b u (.of w))
def FY(c:Str):vH ps≠.exc c:=by
 unfold vH
 ac_rfl
def FV(c:Str):A8 ps≠.exc c:=by
 unfold A8
 ac_rfl
def FZ(c:Str):Ba ps≠.exc c:=by
 unfold Ba
 ac_rfl
def FW(c:Str):A9 ps≠.exc c:=by
 unfold A9
 ac_rfl
def F0(c:Str):Bb ps≠.exc c:=by
 unfold Bb
 ac_rfl
def Af(c:Str):mV ps≠.exc c:=by
 unfold mV
 ac_rfl
def Ad{b:B}(c:Str):eE b ps≠.exc c:=match b with
 |.len=>FY c|.abs=>FV c|.max2=>FZ c|.int=>FW c|.str=>F0 c|.tuple=>Af c
def LQ(C:zv3 X)(g:Γ.qt=hU)(b:B){f:List ia}{t:TA}(h:jd sc (bN b)=hQ)(hm:Γ.bs.contains (bN b)=hQ)(a:PA X (e::f) t)
 (he:starEach (e::f) X.env=(hU,eval e X.env)::starEach f X.env) (hpl:(backTo pos (starEach f X.env)).any (·.1)=hU):PE X (.Call (.Name (bN b) np) (e::f) [] pos) (QL (HA W (eE b)) t):=by
 have c:=C.bs _ (fb.mp hm);have d:=f6 C h;cases b
 case len=>exact kg (zd C.K) d c PySem.boot_len a (he:=he) (hpl:=hpl)
 case abs=>exact kg y9 d c (by decide+kernel) a (he:=he) (hpl:=hpl)
 case max2=>exact kg (zf (C.calm g)) d c (by decide+kernel) a (he:=he) (hpl:=hpl)
 case int=>exact k8 za d c (by decide+kernel) a (he:=he) (hpl:=hpl)
 case str=>exact k8 zi d c (by decide+kernel) a (he:=he) (hpl:=hpl)
 case tuple=>exact k8 (sZ C.K) d c (by decide+kernel) a (he:=he) (hpl:=hpl)
def Js{op:List PV->Res PV}{a:Es}{e:E}(b:∀ps c,op ps≠.exc c)(he:∀env,aE F e env=(bf F a env).bind λps=>op ps)(h:tE X W F e σ H Q):QL (HA W op) (tA X W F a) σ H Q:=by let(d,G,env,sr,o):=h;rw [he] at o;refine args sr o λps y G1 H1 f t g i=>?_;let(r,j,m):=i.val (b ps);exact{d,G1,ps,r,g.sub,t.top,j,λw p q s u=>m w p q (f.trans s) (.of u)}
def J6(C:zv3 X)(d:Γ.qt=hU)(b:B){a:Es}{ps:List ia}(f:jd sc (bN b)=hQ)(hm:Γ.bs.contains (bN b)=hQ)(g:GA X W F a (e::ps))
 (he:starEach (e::ps) X.env=(hU,eval e X.env)::starEach ps X.env) (hpl:(backTo pos (starEach ps X.env)).any (·.1)=hU):GE X W F (.blt b a) (.Call (.Name (bN b) np) (e::ps) [] pos):=
 (LQ C d b f hm g he hpl).imp λσ H Q h=>Js (λps c=>Ad c) (λenv=>by rw [aE]) h
def Ct{t:Ty}(c:Str):mB t p≠.exc c:=by cases p<;>exact nofun
def LX(C:zv3 X)(t:Ty)(a:jd sc (Str.ofString (wZ t))=hQ)(hm:Γ.bs.contains (Str.ofString (wZ t))=hQ):PE X (.Name (Str.ofString (wZ t)) pos) (tC (.ty (wZ t))):=by
 have b:=C.bs _ (fb.mp hm);have c:=f6 C a;cases t
 all_goals exact Gr c b (u:=.type _) (by decide+kernel) rfl (by decide+kernel) (by decide+kernel)
def N7(C:zv3 X){t:Ty}{a:E}{b:ia}{tp:Pos}(e:jd sc "isinstance"=hQ)(f:Γ.bs.contains "isinstance"=hQ)(g:jd sc (Str.ofString (wZ t))=hQ)(hm:Γ.bs.contains (Str.ofString (wZ t))=hQ)(i:GE X W F a b)
 (d:∀env ps,starEach (b::ps) env=(hU,eval b env)::starEach ps env):GE X W F (.ty t a) (.Call (.Name "isinstance" np) [b,.Name (Str.ofString (wZ t)) tp] [] pos):=by
 refine(kg (Bf C.K t) (f6 C e) (C.bs _ (fb.mp f)) (by decide+kernel) (cH i (cH (LX C t g hm) eB) (d _ _)) (he:=d _ _)).imp λσ H Q h=>?_;let(j,G,env,sr,o):=h;rw [aE] at o;refine one sr o λp v G1 H1 m q s u=>?_;let(r,y,z):=u.val (λc=>Ct c);exact{v,j,G1,p,r,rfl,s.sub,q.top,y,λw A B D I=>z w A B (m.trans D) (.of I)}
def SR.set(i:Nat)(r:SR W H0 env σ G H)(h:Rep W G p v):SR W H0 (env.set i (.val p)) (σ.set i (hG v)) G H where
 len:=zx6 r.len
 sub:=r.sub
 tab:=r.tab
 iX:=r.iX
 base:=r.base
 slot:=λj s e=>by
  by_cases f:i=j
  .subst f;have d:i<env.length:=by
    have:=(bV.mp e).1;simpa using this
   rw [fi d] at e;cases e;exact{hG v,fi (by rw [<-r.len];exact d),v,rfl,h}
  .rw [ea f] at e;let(o,u,w):=r.slot j s e;exact{o,by rw [ea f];exact u,w}
 apart:=λa b q y A e1 g m t=>by
  have ne:∀{c:Nat} {q:PV},(env.set i (.val p))[c]?=hG (.own q)->i≠c:=λ{c q} e z=>by
   subst z;have d:i<env.length:=by have:=(bV.mp e).1;simpa using this
   rw [fi d] at e;cases e
  have B:=ne e1;have C:=ne g;rw [ea B] at e1 m;rw [ea C] at g t;exact r.apart a b q y A e1 g m t
abbrev gT(K:zz8):Tg->TG
 |.one i=>ir i|.two i j=>N4 K 2 (xI (ir i) (xI (ir j) J4))
def nt{K:zz8}(hK:W.K=K){c:Tg}{d:Sl}{Q:St->Hp->Prop}(e:Tg.put c p env=.ok d)(r:SR W H0 env σ G H)(h:Rep W G p v)(f:∀b,SR W H0 d b G H->Q b H):gT K c v σ H Q:=by
 unfold Tg.put at e;split at e
 .cases e;exact f _ (r.set _ h)
 .cases e;simp! [Rep] at h;let(a,j,rfl,sq,l):=h;let(m,o,rfl,g,l):=l.cx;let(q,s,rfl,i,l):=l.cx;simp! [ag] at l;subst l;rw [hK] at sq;exact{a,_,rfl,ax.tup r.sub sq.sq,rfl,_,_,rfl,_,_,rfl,rfl,f _ ((r.set _ g).set _ i)}
 .cases e
def Cd(eP:X.env.scope=sc)(h:ft sc x=hQ):Loc X.env.scope x:=by rw [eP];unfold ft at h;simp! [gd,zzy] at h;exact h
def IA{fn:Str->Bool}{i:Nat}{p:ia}(hN:X.N=N)(nd:N.Nodup)(eP:X.env.scope=sc)(b:∀x,fn x=hQ->X.fn x=hQ)(h:SV N sc fn i p=hQ):PG X p (ir i)/\∃x q,p=.Name x q:=by
 let(x,c,a):=ah h;let(q,rfl):=bT c
 simp! [zza,zzy,gd] at a;refine{Gy (by rw [hN];exact nd) (by rw [hN];exact a.1.1) (Cd eP a.1.2) ?_,x,q,rfl};rcases a.2 with z|z
 .exact .inl (b x z)
 .exact .inr (by rw [eP];exact z)
abbrev UM:List Nat->HE
 |[]=>J4|i::is=>xI (ir i) (UM is)
theorem CZ{fn:Str->Bool}(hN:X.N=N)(nd:N.Nodup)(eP:X.env.scope=sc)(c:∀x,fn x=hQ->X.fn x=hQ):∀(is:List Nat) (b:List ia),Lm N sc fn is b=hQ->Nq X b (UM is)/\(assignEach b X.env).length=is.length/\(assignEach b X.env).findIdx? (·.1)=hI
 |[],[],_=>⟨Gz,rfl,rfl⟩|i::is,a::as,h=>by have h:=aj h;let(d,x,p,rfl):=IA hN nd eP c h.1;let(g,l,f):=CZ hN nd eP c is as h.2;have e:assignEach (.Name x p::as) X.env=(hU,assign (.Name x p) X.env)::assignEach as X.env:=rfl;refine{C3 d g,by rw [e,cS,l,cS],?_};rw [e,List.findIdx?_cons,f];rfl|[],_::_,h=>aN h|_::_,[],h=>aN h
def uQ{fn:Str->Bool}{a:Tg}{p:ia}(hN:X.N=N)(nd:N.Nodup)(eP:X.env.scope=sc)(c:X.calm=hQ)(b:∀x,fn x=hQ->X.fn x=hQ)(h:eZ N sc fn a p=hQ):PG X p (gT X.K a):=by
 cases a with
 |one i=>exact(IA hN nd eP b h).1|two i j=>let(m,d,e):=ah h;let(k,q,rfl):=se d;let(g,l,f):=CZ hN nd eP b _ _ e;exact LY c g l f
def qx(W:Wd)(J:It)(G B:Hp)(ps:List PV):Prop:=∀(i:Nat) (b a:Hp),ax G b->ib B a->ax b a->
 (i=ps.length->J.stop i a)/\∀p,ps[i]?=hG p->J.go i a/\∀x c,J.Nc i a x c->∃d,aD W b a d c/\Rep W d p x
structure Nj(W:Wd)(G H:Hp)(it:I)(J:It)(ps:List PV):Prop where
 any:qx W J G H ps
 bw:oH it=hQ->qx W J G G ps
abbrev tI(X:Cx)(W:Wd)(F:aF)(it:I):TI:=λσ H R=>∃c G env,SR W c env σ G H/\Out X W (kR F it env) σ G H λd=>∀J b a,aD W G H b a->Nj W b a it J d->R J a
noncomputable abbrev GI(X:Cx)(W:Wd)(F:aF)(a:ia)(it:I)(p:ia):Prop:=PI X a p (tI X W F it)
theorem x5(hK:W.K=X.K){B:Hp}(h:su W.K B a vs)(l:ag W G ps vs):qx W (Q8 X.K a) G B ps:=λi e f g j sub=>by have b:kJ X.K f a vs:=u9 hK (ib.ls j h);refine{λq=>{vs,b,by rw [l.length];lia},λp m=>?_};let(v,d,o):=l.oN m;refine{⟨vs,v,b,d⟩,λx r c=>?_};let(rfl,c):=c;have:=c vs b;rw [d] at this;cases this;exact{e,.refl sub,Rep.same g p o}
theorem BZ{K:zz8}{B:Hp}(h:fC K B a vs)(l:ag W G ps vs):qx W (Q9 K a) G B ps:=λi e f g j sub=>by have b:fC K f a vs:=ib.tup j h;refine{λq=>{vs,b,by rw [l.length];lia},λp m=>?_};let(v,d,o):=l.oN m;refine{⟨vs,v,b,d⟩,λx r c=>?_};let(rfl,c):=c;have:=c vs b;rw [d] at this;cases this;exact{e,.refl sub,Rep.same g p o}
def BY{B:Hp}{ks:kB}{us:List V}(n:ks.length=us.length)(h:B a=hG (.bw o (.dT (kz ks us)))):qx W (QY a o (kz ks us)) G B (ks.map cg):=λi D g E j sub=>by
 have d:g a=hG (.bw o (.dT (kz ks us))):=j.at h (λZ z=>nomatch z);refine{λc=>{d,by rw [iz n];rw [zzl] at c;lia},λp e=>?_};rw [dV] at e;let(k,hk,rfl):=b4.mp e;have c:i<ks.length:=(bV.mp hk).1;refine{{d,by rw [iz n];exact c},λx I m=>?_};let(rfl,b,q,v,rfl,s,f):=m;have t:q=ki k:=by have:=congrArg (λl=>l[i]?) (ya (us:=us) n);simp! [dV,s,hk,Option.map_some] at this;exact zzq this
 rw [t,ux] at f;let(G2,u,y):=pC (W:=W) (vs:=[.ref b]) (nss:=[k]) sub (.cons ⟨b,rfl,f⟩ .nil);let(w,r,A,C,_):=y.cx;cases A;exact⟨G2,u,C⟩
def zl{i:Nat}(h:(chars z)[i]?=hG p):∃c,z.cps[i]?=hG c/\p=.str {#[c]}:=by unfold chars at h;rw [dV] at h;let(c,a,rfl):=b4.mp h;rw [Array.getElem?_toList] at a;exact⟨c,a,rfl⟩
def zm(z:Str):(chars z).length=z.cps.size:=by unfold chars;rw [zzl,ey]
theorem rn{B:Hp}(a:Int)(n:Nat):qx W (Nl a n) G B (dF a n):=λi g m o q sub=>by unfold dF;refine{λb=>by rw [zzl,List.length_range] at b;exact Nat.le_of_eq b.symm,λp d=>?_};rw [dV] at d;let(c,h,rfl):=b4.mp d;let(e,f):=bV.mp h;rw [List.length_range] at e;rw [List.getElem_range] at f;subst f;refine{e,λx r j=>?_};let(rfl,rfl):=j;exact{g,.refl sub,.i}
def nT{u:V}(sub:ax G H)(b:H a=hI)(d:Rep W G p v)(e:Rep W G q u):∃c,aD W G H c (upd H a (.tup [v,u]))/\Rep W c (.tup [p,q]) (.ref a):=
 {_,.new sub b,.t (.inl aq) (ag.same (cj (sub.free b)) _ (.cons d (.cons e .nil)))}
theorem j0:∀{xs:List PV} {n i:Nat} {p:PV},(bR n xs)[i]?=hG p->∃x,xs[i]?=hG x/\p=.tup [.int ((n+i:Nat):Int),x]
 |[],_,_,_,h=>by simp [bR] at h|x::xs,n,0,p,h=>by simp [bR] at h;exact{x,rfl,by rw [<-h];simp}|x::xs,n,i+1,p,h=>by simp! [bR,List.getElem?_cons_succ] at h;let(y,a,b):=j0 h;exact{y,zx6 a,by rw [b,show n+1+i=n+(i+1) by lia]}
theorem cI:∀(xs:List PV) (n:Nat),(bR n xs).length=xs.length
 |[],_=>rfl|_::xs,n=>by simp! [bR,cS,cI xs]
theorem uv{K:zz8}{B:Hp}(h:fC K B a vs)(l:ag W G ps vs):qx W (QZ K a vs) G B (bR 0 ps):=λi u g j m sub=>by have c:fC K g a vs:=ib.tup m h;refine{λd=>{c,by rw [cI] at d;rw [l.length];exact d},λp o=>?_};let(x,q,rfl):=j0 o;let(v,e,r):=l.oN q;refine{{c,(bV.mp e).1},λy w s=>?_};let(b,z,rfl,t,rfl,f):=s;rw [e] at f;cases f;rw [Nat.zero_add];exact nT sub t .i (Rep.same j x r)
theorem nD(hK:W.K=X.K){B:Hp}(h:su W.K B a vs)(l:ag W G ps vs):qx W (Jb X.K a vs) G B (bR 0 ps):=λi u g j m sub=>by have c:kJ X.K g a vs:=u9 hK (ib.ls m h);refine{λd=>{c,by rw [cI] at d;rw [l.length];exact d},λp o=>?_};let(x,q,rfl):=j0 o;let(v,e,r):=l.oN q;refine{{c,(bV.mp e).1},λy w s=>?_};let(b,z,rfl,t,rfl,f):=s;rw [e] at f;cases f;rw [Nat.zero_add];exact nT sub t .i (Rep.same j x r)
theorem uu{B:Hp}(z:Str):qx W (P7 z) G B (bR 0 (chars z)):=λi m o q r sub=>by refine{λa=>by rw [cI,zm] at a;exact a,λp f=>?_};let(x,g,rfl):=j0 f;let(c,d,rfl):=zl g;refine{(Array.getElem?_eq_some_iff.mp d).1,λy t h=>?_};let(b,u,rfl,j,rfl,e):=h;rw [d] at e;cases e;rw [Nat.zero_add];exact nT sub j .i .s
def gv{e:E}(sr:SR W H0 env σ G H)(e1:aE F e env=.ok p)(h:∀v G1 H1,aD W G H G1 H1->Got W H0 G1 H1 e p v->Q v H1):tE X W F e σ H Q:={H0,G,env,sr,by rw [e1];exact h}
def DI{e:E}{c:Str}(sr:SR W H0 env σ G H)(e1:aE F e env=.exc c)(h:sQ X W σ c G H):tE X W F e σ H Q:={H0,G,env,sr,by rw [e1];exact h}
def Kf(C:zv3 X){M p:ia}{e:E}(he:GE X W F e p):GI X W F M (.seq e) p:=by
 intro g s σ H R I h;let(T,G,env,sr,o):=h
 rw [kR] at o;cases r:aE F e env with
 |bad=>rw [r] at o;exact o.elim|exc c=>rw [r] at o;exact ym he g s σ H R I (DI sr r o)|ok q=>
  rw [r] at o;cases q with
  |lst xs=>refine ym he g s σ H R I (gv sr r λv G1 H1 d t=>?_);have u:=t;let(a,w,rfl,b,j):=t.top.lst d.sub;refine{a,rfl,{w,u9 C.K b},o _ G1 H1 d {x5 C.K b j,λz=>?_}};have f:=u.rep z;simp! [Rep] at f;let(O,P,e1,m,y):=f;cases e1;exact x5 C.K m y
  |tup xs=>refine L3 he g s σ H R I (gv sr r λv G1 H1 d t=>?_);have u:=t;let(a,w,rfl,b,j):=t.top.tup d.sub;rw [C.K] at b;refine{a,rfl,⟨w,b⟩,o _ G1 H1 d {BZ b j,λz=>?_}};have f:=u.rep z;simp! [Rep] at f;let(O,P,e1,m,y):=f;cases e1;rw [C.K] at m;exact BZ m.sq y
  |str z=>exact e6 o|int _=>exact e6 o|bl _=>exact e6 o|aL=>exact e6 o|exc _=>exact e6 o|obj _=>exact e6 o|bE ks qs=>
   by_cases A:gA e=hQ
   .have Q:Dr e (.bE ks qs)=.ok (ks.map cg):=by
     cases e<;>first|rfl|exact aN A
    have D:Out X W (Dr e (.bE ks qs)) σ G H λS=>∀(J:It) (L B:Hp),aD W G H L B->Nj W L B (Ci.I.seq e) J S->R J B:=o;rw [Q] at D;refine LZ he g s σ H R I (gv sr r λv G1 H1 d t=>?_);have f:=t.rep A;simp! [Rep] at f;let(a,ob,U,rfl,n,b,j):=f;exact{a,ob,_,rfl,d.sub _ _ b,D _ G1 H1 d {BY n (d.sub _ _ b),λZ=>BY n b}}
   .have:∃i,e=.fY i:=by
     cases e<;>first|exact⟨_,rfl⟩|exact absurd rfl A
    let(i,rfl):=this;exact e6 o
def dY{i:Int}(h:aU i=hQ): -(2^62)<=i/\i<2^62:=by unfold aU at h;simpa using h
def Ke(C:zv3 X){f p:ia}{e:E}(g:jd sc "range"=hQ)(i:Γ.bs.contains "range"=hQ)(d:∀env ps,starEach (p::ps) env=(hU,eval p env)::starEach ps env)(he:GE X W F e p):GI X W F f (.mv e) (.Call (.Name "range" np) [p] [] pos):=by
 intro m s σ H R I h;refine Ak (f6 C g) (C.bs _ (fb.mp i)) (cH he eB (d _ _)) (d _ _) m s σ H R I ?_;let(u,G,env,sr,o):=h;rw [kR] at o;refine one sr o λq v G1 H1 r t w a=>?_
 cases q with
 |int j=>
  by_cases c:aU j=hQ
  .have b:Out X W (if aU j=hQ then Res.ok (dF 0 j.toNat) else .bad) σ G1 H1 _:=a;rw [if_pos c] at b;exact{j,by rw [t.top.int],(dY c).1,(dY c).2,b _ G1 H1 r {rn _ _,λZ=>rn _ _}}
  .have b:Out X W (if aU j=hQ then Res.ok (dF 0 j.toNat) else .bad) σ G1 H1 _:=a;rw [if_neg c] at b;exact b.elim
 |bl _=>exact e6 a|aL=>exact e6 a|str _=>exact e6 a|tup _=>exact e6 a|lst _=>exact e6 a|exc _=>exact e6 a|obj _=>exact e6 a|bE _ _=>exact e6 a
set_option tactic.hygienic true in
def E0(C:zv3 X){r p q:ia}{a b:E}(w:jd sc "range"=hQ)(z:Γ.bs.contains "range"=hQ)(m:∀env ps,starEach (p::ps) env=(hU,eval p env)::starEach ps env)(e:∀env ps,starEach (q::ps) env=(hU,eval q env)::starEach ps env)
 (A:GE X W F a p) (B:GE X W F b q):GI X W F r (.rP a b) (.Call (.Name "range" np) [p,q] [] pos):=by
 intro D s σ H R I h;refine Al (f6 C w) (C.bs _ (fb.mp z)) (cH A (cH B eB (e _ _)) (m _ _)) (by rw [m,e];rfl) (e _ _) D s σ H R I ?_;let(P,G,env,sr,o):=h;rw [kR] at o;refine one sr o λx v G1 H1 K t L M=>one L M λy u G2 f O t2 Q g=>?_
 cases x<;>cases y<;>first
  |(exact e6 g)
  | (rename_i i j
     by_cases c:(aU i&&aU j)=hQ
     .have d:Out X W (if(aU i&&aU j)=hQ then Res.ok (dF i (j-i).toNat) else .bad) σ G2 f _:=g;rw [if_pos c] at d;rw [zza] at c;exact⟨i,j,by rw [t.top.int,t2.top.int],⟨(dY c.1).1,(dY c.1).2,(dY c.2).1,(dY c.2).2⟩,d _ G2 f (K.trans O) ⟨rn _ _,λZ=>rn _ _⟩⟩
     .have d:Out X W (if(aU i&&aU j)=hQ then Res.ok (dF i (j-i).toNat) else .bad) σ G2 f _:=g;rw [if_neg c] at d;exact d.elim)
def EZ(C:zv3 X){f:List ia}{L:Nat}{M:Pos}{p:ia}{e:E}(O:jd sc (zu 2)=hQ)(P:Γ.bs.contains (zu 2)=hQ)(g:∀env ps,starEach (p::ps) env=(hU,eval p env)::starEach ps env)(he:GE X W F e p):
 GI X W F (.Tuple f L M) (.enum e) (.Call (.Name (zu 2) np) [p] [] pos):=by
 intro u s σ H R I h;have w:=f6 C O;have y:=C.bs _ (fb.mp P);have A:=cH he eB (g _ _);let(T,G,env,sr,o):=h
 rw [kR] at o;cases r:aE F e env with
 |bad=>rw [r] at o;exact o.elim|exc c=>rw [r] at o;exact uR w y A (g _ _) u s σ H R I (DI sr r o)|ok q=>
  rw [r] at o;cases q with
  |lst xs=>
   refine uR w y A (g _ _) u s σ H R I (gv sr r λv G1 H1 b t=>?_);by_cases B:gA e=hQ
   .have i:=t.rep B;simp! [Rep] at i;let(a,j,rfl,d,m):=i;exact{a,j,rfl,u9 C.K (ax.ls b.sub d),o _ G1 H1 b {nD C.K (ax.ls b.sub d) m,λZ=>nD C.K d m}}
   .let(a,j,rfl,D,Q):=t.top.lst b.sub;exact{a,j,rfl,u9 C.K D,o _ G1 H1 b {nD C.K D Q,λz=>absurd z B}}
  |tup xs=>
   refine C6 w y A (g _ _) u s σ H R I (gv sr r λv G1 H1 b t=>?_);have S:=t.top
   rcases S with i|z
   .simp! [Rep] at i;let(a,j,rfl,d,m):=i;rw [C.K] at d;exact{a,j,rfl,ax.tup b.sub d.sq,o _ G1 H1 b {uv (ax.tup b.sub d.sq) m,λz=>uv d.sq m}}
   .exact z.elim
  |str z=>exact C5 w y A (g _ _) u s σ H R I (gv sr r λv G1 H1 b t=>{z,by rw [t.top.str],o _ G1 H1 b {uu z,λZ=>uu z}})|int _=>exact e6 o|bl _=>exact e6 o|aL=>exact e6 o|exc _=>exact e6 o|obj _=>exact e6 o|bE _ _=>exact e6 o
end
def zj{env:Env}{c:h9}(h:env.cells.lookup x=hG c):cellOf env x=pure c:=by unfold cellOf;rw [h]
abbrev frees(names:List (Str×NameKind)):List Str:=((names.filter λp=>p.2==.free).map (·.1)).reverse
def ja{a:iv}{env:Env}(h:∀y∈a.names,y.2=.free->∃c,env.cells.lookup y.1=hG c):closureFor a env=pure (bG env (freeOf a)):=by
 simp! [closureFor];have f:∀(names:List (Str×NameKind)) (b:List (Str×h9)),(∀y∈names,y.2=.free->∃c,env.cells.lookup y.1=hG c)->
  (forIn (m:=Sem) names b λx r=>if(x.2==NameKind.free)=hQ then do
   let c<-cellOf env x.1
   pure (ForInStep.yield ((x.1,c)::r))
   else pure (ForInStep.yield r))=pure (bG env (frees names)++b):=by
  intro names
  induction names with
  |nil=>intro b _;rfl|cons p r j=>
   intro b g;let(n,d):=p;rw [List.forIn_cons];by_cases hk:(d==NameKind.free)=hQ
   .let(c,k):=g (n,d) (by simp) (zzy.mp hk);simp! [hk,if_true,zj k,pure_bind];rw [j ((n,c)::b) λy i=>g y (b0 _ i)];have e:frees ((n,d)::r)=frees r++[n]:=by unfold frees;rw [g6,if_pos hk,a9,List.reverse_cons]
    rw [e];unfold bG;rw [List.map_append,a9,List.map_nil,List.append_assoc];show _=pure (_++([(n,(env.cells.lookup n).getD 0)]++b));rw [show env.cells.lookup n=hG c from k];rfl
   .simp! [hk,eH,if_false,pure_bind];rw [j b λy i=>g y (b0 _ i)];have e:frees ((n,d)::r)=frees r:=by unfold frees;rw [g6,if_neg hk]
    rw [e]
 have:=f a.names [] h;rw [hD] at this;simp! [bind_pure_comp,map_pure,id_map',bind_pure];exact this
section
variable{W:Wd}{sc:iv}
def eg{a:iv}(h:X.env.scope=sc):relabel a X.env=cB a sc:=by subst h;rfl
structure i3(N:List Str)(sc scope:iv)(kk:Nat)(aM:List Nat)(xs:List Str):Prop where
 kind:scope.kind=.function
 len:xs.length=kk
 nd:(xs++freeOf scope).Nodup
 JB:(scope.names.all λy=>(decide (y.2≠.cell)||!(freeOf scope).contains y.1)&&(decide (y.2≠.free)||(freeOf scope).contains y.1))=hQ
 own:(scope.names.all λy=>decide (y.2≠.cell)||decide (scope.names.lookup y.1=hG .cell))=hQ
 names:(scope.names.all λy=>decide (y.2≠.local)||decide (scope.names.lookup y.1=hG .local))=hQ
 slots:aM.map (λi=>N[i]?)=(freeOf scope).map hG
 kX:((freeOf scope).all λy=>decide (sc.names.lookup y=hG .cell))=hQ
 kY:((freeOf scope).all λy=>decide ((cB scope sc).names.lookup y=hG .cell))=hQ
def fZ{a:iv}{b:List Nat}{xs:List Str}(h:tD N sc a kk b xs=hQ):i3 N sc a kk b xs:=by unfold tD at h;simp! [zza] at h;let((((((((c,d),e),f),g),i),j),k),m):=h;exact{zzy.mp c,zzy.mp d,zzY e,f,g,i,zzY j,k,m}
def kO(hN:X.N=N)(eP:X.env.scope=sc)(ok:X.Ok){a:iv}{d:List Nat}{xs:List Str}(h:i3 N sc a kk d xs):fK X a xs (freeOf a) d:=by
 have e:∀y∈freeOf a,∃c,X.env.cells.lookup y=hG c:=λy b=>ok.has y (.inl (by have:=zzY (ed.mp h.kX y b);show X.env.scope.names.lookup y=_;rw [eP];exact this));refine{h.kind,ja λy b f=>?_,ed.mpr λy b=>?_,h.JB,h.own,h.names,by rw [hN];exact h.slots,ed.mpr λy b=>?_,?_}
 .have c:=ed.mp h.JB y b
  rw [zza,gd,gd] at c;rcases c.2 with z|z
  .exact absurd f (zzY z)
  .exact e _ (fb.mp z)
 .let(c,g):=e y b;rw [g];rfl
 .have:=zzY (ed.mp h.kX y b);refine zzh ?_;show X.env.scope.names.lookup y=_;rw [eP];exact this
 .rw [eg eP];exact h.kY
theorem jb{f:PV->Res (Option PV)}{x:PV}:∀{xs:List PV},aY f (xs++[x])=(aY f xs).bind λys=>(f x).well.bind λo=>.ok (ys++o.toList)
 |[]=>by
  simp! [List.nil_append,aY,Res.bind];cases(f x).well with
  |ok o=>cases o<;>rfl
  |exc c=>rfl|bad=>rfl
 |y::xs=>by
  rw [List.cons_append];simp! [aY];rw [jb (xs:=xs)];cases(f y).well with
  |exc c=>rfl|bad=>rfl|ok o=>
   show(((aY f xs).bind λys=>(f x).well.bind λo=>.ok (ys++o.toList)).bind λys=>.ok (oc o ys))=((aY f xs).bind λys=>.ok (oc o ys)).bind λys=>(f x).well.bind λo=>.ok (ys++o.toList)
   cases aY f xs with
   |exc c=>rfl|bad=>rfl|ok zs=>
    show(((f x).well.bind λo=>.ok (zs++o.toList)).bind λys=>.ok (oc o ys))=(f x).well.bind λa=>.ok ((oc o zs)++a.toList)
    cases(f x).well with
    |exc c=>rfl|bad=>rfl|ok a=>cases o<;>rfl
theorem m7{f:PV->Res (Option PV)}:∀{xs ys:List PV},aY f xs=.ok ys->∀i,∃zs,aY f (xs.take i)=.ok zs/\zs.length<=i
 |_,_,_,0=>{[],by simp [aY],a8 _}|[],ys,h,i+1=>{[],by simp [aY],Nat.zero_le _}|x::xs,ys,h,i+1=>by
  simp! [aY] at h;let(o,a,h):=Res.aJ h;let(zs,b,h):=Res.aJ h;let(c,d,hl):=m7 b i;refine{oc o c,?_,?_}
  .rw [List.take_succ_cons];simp! [aY];rw [a];show((aY f (xs.take i)).bind λys=>.ok (oc o ys))=_;rw [d];rfl
  .cases o with
   |none=>exact Nat.le_succ_of_le hl|some y=>exact Nat.succ_le_succ hl
def mP{d:Type}{r:Res d}{a:d}(h:r.well=.ok a):r=.ok a:=by
 cases r with
 |ok b=>cases h;rfl
 |exc c=>cases h
 |bad=>cases h
def tG{f:PV->Res (Option PV)}{zs:List PV}{i:Nat}{x:PV}(h:aY f xs=.ok ys)(c:xs[i]?=hG x)(hz:aY f (xs.take i)=.ok zs):∃o,f x=.ok o/\aY f (xs.take (i+1))=.ok (zs++o.toList):=by
 have e:xs.take (i+1)=xs.take i++[x]:=by rw [List.take_add_one,c];rfl
 let(d,a,_):=m7 h (i+1);rw [e,jb,hz] at a;let(o,b,a):=Res.aJ (show((f x).well.bind λo=>Res.ok (zs++o.toList))=.ok d from a);refine{o,mP b,?_};rw [e,jb,hz];show((f x).well.bind λo=>Res.ok (zs++o.toList))=_;rw [b];rfl
def n5{g:St}{f:List Nat}{ys:List Str}(kk:Nat)(sr:SR W H0 env g G H)(hs:f.map (λi=>N[i]?)=ys.map hG)(nd:ys.Nodup):SR W H0 (kq kk .no++eK env f) (kq kk hI++AL g f) G H:=by
 have E:∀(i j:Nat) (a:Nat),f[i]?=hG a->f[j]?=hG a->i=j:=λi j a t u=>by
  have e1:(ys.map hG)[i]?=hG (N[a]?):=by rw [<-hs,dV,t];rfl
  have r:(ys.map hG)[j]?=hG (N[a]?):=by rw [<-hs,dV,u];rfl
  rw [dV] at e1 r;let(F,w,I):=b4.mp e1;let(K,y,L):=b4.mp r;have:F=K:=zzq (I.trans L.symm);subst this;exact nR nd w y
 have inner:∀(j:Nat) (s:Slot),(kq kk Slot.no++eK env f)[j]?=hG s->(j<kk/\s=.no)\/∃a,kk<=j/\f[j-kk]?=hG a/\s=env.getD a .no:=λj s e=>by
  by_cases d:j<kk
  .rw [fP (zx6 d),List.getElem?_replicate,if_pos d] at e;cases e;exact .inl ⟨d,rfl⟩
  .rw [fS (zx6 d),List.length_replicate] at e;unfold eK at e;rw [dV] at e;let(a,h,rfl):=b4.mp e;exact .inr {a,by lia,h,rfl}
 have val:∀(j a:Nat),kk<=j->f[j-kk]?=hG a->(kq kk hI++AL g f)[j]?=hG ((g[a]?).join):=λj a d h=>by rw [fS (zx6 d),List.length_replicate];unfold AL;rw [dV,h];rfl
 refine{by unfold eK AL;simp,sr.sub,sr.base,λj s e=>?_,λi j p q a e1 r A B=>?_,sr.tab,sr.iX}
 .rcases inner j s e with⟨d,rfl⟩|⟨a,d,h,rfl⟩
  .exact{hI,by rw [fP (zx6 d),List.getElem?_replicate,if_pos d],trivial}
  .refine{_,val j a d h,?_};rw [cP];cases e1:env[a]? with
   |none=>exact trivial|some s=>let(o,t,u):=sr.slot a s e1;rw [t];exact u
 .rcases inner i _ e1 with⟨_,z⟩|⟨b,M,C,k⟩
  .cases z
  rcases inner j _ r with⟨_,z⟩|⟨c,d,D,m⟩
  .cases z
  rw [val i b M C] at A;rw [val j c d D] at B;have O:env[b]?=hG (.own p):=by
   rw [cP] at k;cases e:env[b]? with
   |none=>rw [e] at k;cases k
   |some s=>rw [e] at k;exact congrArg hG k.symm
  have P:env[c]?=hG (.own q):=by
   rw [cP] at m;cases e:env[c]? with
   |none=>rw [e] at m;cases m
   |some s=>rw [e] at m;exact congrArg hG m.symm
  have w:g[b]?=hG (hG (.ref a)):=Option.join_eq_some_iff.mp (zzq A);have y:g[c]?=hG (hG (.ref a)):=Option.join_eq_some_iff.mp (zzq B);have Q:=sr.apart b c p q a O P w y;subst Q;have:=E _ _ b C D;lia
def iP{rest g:Sl}{d:St}{k:Tg}(f:jv kk k=hQ)(e:Tg.put k p (kq kk .no++rest)=.ok g)(r:SR W H0 g d G H):SR W H0 (kq kk .no++rest) d G H:=by
 have c:∀(j:Nat) (s:Slot),(kq kk Slot.no++rest)[j]?=hG s->s≠.no->g[j]?=hG s:=λj s h hs=>by
  have u:¬j<kk:=λz=>by rw [fP (zx6 z),List.getElem?_replicate,if_pos z] at h;cases h;exact hs rfl
  unfold Tg.put at e;split at e
  .cases e;unfold jv at f;simp! [zzN] at f;rw [ea (by lia)];exact h
  .cases e;unfold jv at f;simp! [zza,zzN] at f;rw [ea (by lia),ea (by lia)];exact h
  .cases e
 have b:(kq kk Slot.no++rest).length=d.length:=by
  rw [<-r.len];unfold Tg.put at e;split at e<;>first|(cases e;simp;done)|(cases e;done)
 refine{b,r.sub,r.base,λj s h=>?_,λi j p q a e1 m o t=>r.apart i j p q a (c i _ e1 nofun) (c j _ m nofun) o t,r.tab,r.iX};by_cases hs:s=.no
 .subst hs;have:j<d.length:=by rw [<-b];exact(bV.mp h).1
  exact{d[j],zzg this,trivial}
 .exact r.slot j s (c j s h hs)
variable{Γ:Pg}{F:aF}
abbrev tN(W:Wd)(F:aF)(e:E):TE:=λd H Q=>∃b G env,SR W b env d G H/\∃p,aE F e env=.ok p/\∀v c a,aD W G H c a->Got W b c a e p v->Q v a
abbrev QM(W:Wd)(F:aF)(e:E):TT:=λc H Q=>∃d G env,SR W d env c G H/\∃b,aE F e env=.ok (.bl b)/\∀f a,aD W G H f a->Q b a
def yM{e:E}(a:St)(H:Hp)(Q:VK)(h:tN W F e a H Q):tE X W F e a H Q:=by let(b,G,env,sr,p,e1,q):=h;exact{b,G,env,sr,by rw [e1];exact q}
def DJ{e:E}(a:St)(H:Hp)(Q:Bool->Hp->Prop)(h:QM W F e a H Q):tT X W F e a H Q:=by let(b,G,env,sr,p,e1,q):=h;exact{b,G,env,sr,by rw [e1];exact⟨p,rfl,q⟩}
def fc(C:zv3 X){a:iv}{c:List Nat}{xs:List Str}(h:i3 N sc a kk c xs)(fp:List h9)(d:hW)(e:Hp)(A:h9):eh Γ.yf F W (xs++freeOf a) (cB a sc) k (bP X (xs++freeOf a) a (bG X.env (freeOf a)) fp d e A):=
 {rfl,eg C.eP,λZ=>rfl,h.nd,C.K,C.mg,C.gs,C.bs,C.room,λf b=>{(C.fns f b).ex},C.QB,C.cls,C.xc,λq g=>{(C.uh q g).ex},λf b=>{(C.Vv f b).1,{(C.Vv f b).2.ex}},C.any,C.fld,nofun,nofun,nofun}
def JW{e:E}{p:ia}(h:aV Γ N sc e p=hQ)(env:Env):∀x,foldedSetIterable p env x=pure x:=by
 intro x;cases p<;>first|rfl|(cases e<;>first|(exact aN h)|(rename_i q;cases q<;>exact aN h))
def fG{c:ia}{p:ia}(h:m5 Γ N sc c it p=hQ)(env:Env):∀x,foldedSetIterable p env x=pure x:=by
 intro x;cases it with
 |seq e=>exact JW h env x|mv e=>cases p<;>first|rfl|(exact aN h)
 |rP a b=>cases p<;>first|rfl|(exact aN h)
 |enum e=>cases p<;>first|rfl|(exact aN h)
def CW(W:Wd)(H0 G1 c:Hp)(qS:Sl)(f:PV->Res (Option PV))(ps:List PV)(i:Nat)(ys:List V)(a:St)(H':Hp):Prop:=
 i<=ps.length/\∃b,aD W G1 c b H'/\SR W H0 qS a b H'/\∃zs,aY f (ps.take i)=.ok zs/\zs.length<=i/\ag W b zs ys
def xw(hK:W.K=X.K){s:List Nat}{C:Tg}{d:E}{ys:List Str}(cu:jv kk C=hQ)(dg:gA d=hQ)(hs:s.map (λi=>N[i]?)=ys.map hG)(nd:ys.Nodup)(Z:St)(H:Hp)(Q:VK)(h:tF X W F (.comp kk s C it d) Z H Q):
 yL (tI X W F it) kk (gT X.K C) (tN W F d) s Z H Q:=by
 let(L,G,env,sr,o):=h;rw [aE] at o;refine{L,G,env,sr,o.bind.imp λm j J G1 H1 M gi=>?_};by_cases sE:¬m.length<cV
 .rw [if_neg sE] at j;exact j.elim
 have hl:=Decidable.not_not.mp sE;rw [if_pos hl] at j;generalize hf:(λx=>(C.put x (kq kk .no++eK env s)).bind λO=>(aE F d O).bind λy=>Res.ok (hG y))=f at j
 cases u:aY f m with
 |bad=>rw [u] at j;exact j.elim|exc c=>
  exfalso
  have:∀(l:List PV) (c:Str),aY f l≠.exc c:=λl=>by
   induction l with
   |nil=>intro c z;cases z
   |cons a l ih=>
    intro c z;simp! [aY] at z;rcases Res.d6 z with z|⟨o1,_,z⟩
    .cases e:f a with
     |ok _=>rw [e] at z;cases z
     |exc _=>rw [e] at z;cases z
     |bad=>rw [e] at z;cases z
    .rcases Res.d6 z with z|⟨o2,_,z⟩
     .exact ih c z
     .cases z
  exact this _ _ u
 |ok all=>
  rw [u] at j;let(xs,e1,fin):=j;cases e1;have bU:=sr.grow M;refine{m.length,CW W L G1 H1 (kq kk .no++eK env s) f m,{Nat.zero_le _,G1,.refl M.sub,n5 kk bU hs nd,[],rfl,a8 _,.nil},?_}
  rintro i made σ' H' ⟨hi,G',w,P,zs,R,Il,l⟩
  refine{by rw [l.length];exact ef (ee Il hi) (el hl (by decide)),?_};let(S,T):=gi.any i G' H' w.g w.h w.sub;by_cases b:i=m.length
  .refine .inl {S b,λp hp=>?_};rw [b,List.take_length,u] at R;cases R;exact fin p made G' H' (M.trans w) hp l
  .have D:i<m.length:=by lia
   let(U,A):=T m[i] (zzg D);refine .inr {U,D,λx kI hy=>?_};let(oy,V,rx):=A x kI hy;let(o1,r,q):=tG u (zzg D) R;rw [<-hf] at r;let(O,B,r):=Res.aJ r;let(y,KR,r):=Res.aJ r;cases r;refine nt hK B (P.grow V) rx λσ2 gM=>{L,oy,O,gM,y,KR,λv G3 H3 Y t=>?_};refine{D,G3,w.trans (V.trans Y),(iP cu B gM).grow Y,_,q,?_,?_}
   .rw [c7];show zs.length+1<=i+1;lia
   .exact(ag.same (V.trans Y).g zs l).append (.cons (t.rep dg) .nil)
def pP(hK:W.K=X.K){D:List Nat}{R:Tg}{c d:E}{ys:List Str}(cu:jv kk R=hQ)(dg:gA d=hQ)(hs:D.map (λi=>N[i]?)=ys.map hG)(nd:ys.Nodup)(σ:St)(H:Hp)(Q:VK)(h:tF X W F (.dN kk D R it c d) σ H Q):
 mM (tI X W F it) kk (gT X.K R) (QM W F c) (tN W F d) D σ H Q:=by
 let(S,G,env,sr,o):=h;rw [aE] at o;refine{S,G,env,sr,o.bind.imp λr q J G1 H1 U gi=>?_};by_cases sE:¬r.length<cV
 .rw [if_neg sE] at q;exact q.elim
 have hl:=Decidable.not_not.mp sE;rw [if_pos hl] at q;generalize hf:(λx=>(R.put x (kq kk .no++eK env D)).bind λA=>(aE F c A).bind λt=>sC t λt=>if t then(aE F d A).bind λy=>Res.ok (hG y) else .ok hI)=f at q
 cases L:aY f r with
 |bad=>rw [L] at q;exact q.elim|exc c=>
  exfalso
  have:∀(l:List PV) (c:Str),aY f l≠.exc c:=λl=>by
   induction l with
   |nil=>intro c z;cases z
   |cons a l ih=>
    intro c z;simp! [aY] at z;rcases Res.d6 z with z|⟨o1,_,z⟩
    .cases e:f a with
     |ok _=>rw [e] at z;cases z
     |exc _=>rw [e] at z;cases z
     |bad=>rw [e] at z;cases z
    .rcases Res.d6 z with z|⟨o2,_,z⟩
     .exact ih c z
     .cases z
  exact this _ _ L
 |ok all=>
  rw [L] at q;let(xs,e1,fin):=q;cases e1;have bU:=sr.grow U;refine{r.length,CW W S G1 H1 (kq kk .no++eK env D) f r,{Nat.zero_le _,G1,.refl U.sub,n5 kk bU hs nd,[],rfl,a8 _,.nil},?_}
  rintro i made σ' H' ⟨hi,G',B,V,zs,Y,Il,l⟩
  refine{by rw [l.length];exact ef (ee Il hi) (el hl (by decide)),?_};let(Z,igo):=gi.any i G' H' B.g B.h B.sub;by_cases j:i=r.length
  .refine .inl {Z j,λp hp=>?_};rw [j,List.take_length,L] at Y;cases Y;exact fin p made G' H' (U.trans B) hp l
  .have M:i<r.length:=by lia
   let(hgo,O):=igo r[i] (zzg M);refine .inr {hgo,M,λx kI hy=>?_};let(oy,P,rx):=O x kI hy;let(o1,s,m):=tG L (zzg M) Y;rw [<-hf] at s;let(A,u,s):=Res.aJ s;let(t,ht,s):=Res.aJ s
   obtain⟨b,rfl⟩:∃b,t=.bl b:=by
    cases t<;>first|exact⟨_,rfl⟩|(cases s)
   refine nt hK u (V.grow P) rx λσ2 T=>{S,oy,A,T,b,ht,λG3 H3 w=>?_};have C:(if b=hQ then(aE F d A).bind λy=>Res.ok (hG y) else .ok hI)=Res.ok o1:=s
   cases b with
   |true=>
    rw [if_pos rfl] at C;refine Sw ?_;let(y,KR,C):=Res.aJ C;cases C;refine{S,G3,A,T.grow w,y,KR,λv G4 H4 g4 t4=>?_};refine{M,G4,B.trans (P.trans (w.trans g4)),(iP cu u T).grow (w.trans g4),_,m,?_,?_}
    .rw [c7];show zs.length+1<=i+1;lia
    .exact(ag.same (P.trans (w.trans g4)).g zs l).append (.cons (t4.rep dg) .nil)
   |false=>
    rw [if_neg zzf] at C;refine Su ?_;cases C;refine{M,G3,B.trans (P.trans w),(iP cu u T).grow w,_,m,?_,?_}
    .rw [c7];show zs.length+0<=i+1;lia
    .show ag W G3 (zs++[]) made;rw [hD];exact ag.same (P.trans w).g zs l
def xN(C:zv3 X)(q:Γ.qt=hU){f:List Nat}{d:Tg}{b:E}{c i p:ia}{a:iv}{pos:Pos}(h:i3 N sc a kk f (aC c))(r:jv kk d=hQ)(t:gA b=hQ)(u:GI X W F c it i)(uh:∀x,foldedSetIterable i X.env x=pure x)
 (w:eZ (aC c++freeOf a) (cB a sc) (iV a) d c=hQ) (he:∀Y,eh Γ.yf F W (aC c++freeOf a) (cB a sc) k Y->GE Y W F b p):GF X W F (.comp kk f d it b) (.ListComp p [{c,i,[],0}] a pos):=by
 intro y s e H Q I j;have B:(freeOf a).Nodup:=(List.nodup_append.mp h.nd).2.1;have rd:=xw (N:=N) C.K r t h.slots B e H Q j
 have:=yl (g:=gT X.K d) (te:=tN W F b) (xs:=aC c) (ys:=freeOf a) (is:=f) (pos:=pos) (C.calm q) (kO C.hN C.eP I.ok h) u
  (λfp m o A=>uQ (fn:=iV a) (X:=bP X (aC c++freeOf a) a (bG X.env (freeOf a)) fp m o A) rfl h.nd (eg C.eP) rfl (λZ z=>z) w)
  (λfp m o A=>L2.PE.imp (he _ (fc C h fp m o A)) λe H Q z=>yM e H Q z) uh y s e H Q I
 rw [h.len] at this;exact this rd
def qb(C:zv3 X)(t:Γ.qt=hU){m:List Nat}{j:Tg}{c b:E}{o q r:ia}{a:iv}{pos:Pos}(h:i3 N sc a kk m (aC d))(u:jv kk j=hQ)(w:gA b=hQ)(y:GI X W F d it o)(uh:∀x,foldedSetIterable o X.env x=pure x)
 (B:eZ (aC d++freeOf a) (cB a sc) (iV a) j d=hQ) (D:∀Y,eh Γ.yf F W (aC d++freeOf a) (cB a sc) k Y->GT Y W F c q) (he:∀Y,eh Γ.yf F W (aC d++freeOf a) (cB a sc) k Y->GE Y W F b r):
 GF X W F (.dN kk m j it c b) (.ListComp r [{d,o,[q],0}] a pos):=by
 intro G s e H Q I p;have L:(freeOf a).Nodup:=(List.nodup_append.mp h.nd).2.1;have rd:=pP (N:=N) C.K u w h.slots L e H Q p
 have:=Aj (g:=gT X.K j) (tt:=QM W F c) (te:=tN W F b) (xs:=aC d) (ys:=freeOf a) (is:=m) (pos:=pos) (C.calm t) (kO C.hN C.eP I.ok h) y
  (λfp f i A=>uQ (fn:=iV a) (X:=bP X (aC d++freeOf a) a (bG X.env (freeOf a)) fp f i A) rfl h.nd (eg C.eP) rfl (λZ z=>z) B)
  (λfp f i A=>L2.PT.imp (D _ (fc C h fp f i A)) λe H Q z=>DJ e H Q z)
  (λfp f i A=>L2.PE.imp (he _ (fc C h fp f i A)) λe H Q z=>yM e H Q z) uh G s e H Q I
 rw [h.len] at this;exact this rd
variable{Z:kv}
mutual
theorem Rep.less(zs:∀b o,Z.lookup b=hG o->G b=hG (.bw o bO)):∀(p:PV) {v:V},Rep W G p v->Rep W (aS Z G) p v
 |.aL,_,h=>by simpa only [Rep] using h|.bl b,_,h=>by simpa only [Rep] using h|.int i,_,h=>by simpa only [Rep] using h|.str z,_,h=>by simpa only [Rep] using h|.tup xs,_,h=>by
  simp! [Rep] at h⊢;let(a,vs,e,q,l):=h
  refine{a,vs,e,?_,ag.less zs xs l};rcases q with q|⟨(q|⟨o,q⟩)|q,z⟩
  .cases y:Z.lookup a with
   |none=>exact .inl (by rw [av y];exact q)|some d=>rw [zs a d y] at q;cases q
  .cases y:Z.lookup a with
   |none=>exact .inl (by rw [av y];exact q)|some d=>rw [zs a d y] at q;cases q
  .cases y:Z.lookup a with
   |none=>exact .inr {.inl (.inr {o,by rw [av y];exact q}),z}|some d=>rw [zs a d y] at q;cases q
  .exact .inr {.inr q,z}
 |.lst xs,_,h=>by
  simp! [Rep] at h⊢;let(a,vs,e,q,l):=h
  refine{a,vs,e,?_,ag.less zs xs l};rcases q with(q|⟨o,q⟩)|q
  .cases y:Z.lookup a with
   |none=>exact .inl (.inl (by rw [av y];exact q))|some d=>rw [zs a d y] at q;cases q
  .cases y:Z.lookup a with
   |none=>exact .inl (.inr {o,by rw [av y];exact q})|some d=>rw [zs a d y] at q;cases q
  .exact .inr q
 |.exc c,_,h=>by
  simp! [Rep] at h⊢;let(a,C,e,x,m,q):=h
  cases y:Z.lookup a with
  |none=>exact{a,C,e,x,m,by rw [av y];exact q}|some d=>rw [zs a d y] at q;unfold N1 at q;cases q
 |.bE ks vs,_,h=>by
  simp! [Rep] at h⊢;let(a,o,f,e,n,m,l):=h
  refine{a,o,f,e,n,?_,ag.less zs vs l};cases y:Z.lookup a with
  |none=>rw [av y];exact m|some d=>rw [zs a d y] at m;cases m
 |.obj n,_,h=>by simpa only [Rep] using h
theorem ag.less(zs:∀b o,Z.lookup b=hG o->G b=hG (.bw o bO)):∀(ps:List PV) {vs:List V},ag W G ps vs->ag W (aS Z G) ps vs
 |[],_,h=>by simpa only [ag] using h|p::ps,_,h=>by simp! [ag] at h⊢;let(v,r,e,a,c):=h;exact{v,r,e,Rep.less zs p a,ag.less zs ps c}
end
theorem GU(a:ax G H)(c:∀b o,Z.lookup b=hG o->H b=hI):ax G (aQ Z G):=λb u e=>by
 cases y:Z.lookup b with
 |none=>rw [ai y];exact e|some o=>have:=a _ _ e;rw [c b o y] at this;cases this
theorem ly(t:md W G H)(h:ax G H)(zs:∀b o,Z.lookup b=hG o->G b=hG (.bw o bO))(zc:∀b o,Z.lookup b=hG o->∃v,o.data=.cell v):md W (aS Z G) (aS Z H):=λP q m=>by
 let(n,i,e,j,p):=t P q m;refine{gE n,i,?_,j,λc r y=>?_}
 .cases y:Z.lookup P with
  |none=>rw [av y];exact e|some o=>rw [h _ _ (zs P o y)] at e;cases e
 .let(a,oc,s,u,e1,d,f,w):=p c r y
  refine{a,oc,s,u,e1,?_,f,w};cases y:Z.lookup a with
  |none=>rw [av y];exact d|some o=>rw [zs a o y] at d;cases d;let(v,g):=zc a _ y;rw [f] at g;cases g
theorem vg(t:bH W G H)(c:ax G H)(zs:∀b o,Z.lookup b=hG o->G b=hG (.bw o bO))(zc:∀b o,Z.lookup b=hG o->∃v,o.data=.cell v):bH W (aS Z G) (aS Z H):={ly t.t c zs zc,λi o m=>by
 let(d,f,e,l):=t.o i o m
 refine{gE d,f,?_,ag.less zs _ l};cases y:Z.lookup o.a with
 |none=>rw [av y];exact e|some u=>rw [c _ _ (zs _ u y)] at e;cases e}
theorem aD.wz{p c:Hp}(g:aD W (aS Z G) (aS Z H) p c)(r:ax G H)(zs:∀b o,Z.lookup b=hG o->G b=hG (.bw o bO))(zc:∀b o,Z.lookup b=hG o->∃v,o.data=.cell v)(d:∀b o,Z.lookup b=hG o->c b=hI):aD W G H (aQ Z p) (aQ Z c) where
 g:=λb u e=>by
  cases y:Z.lookup b with
  |none=>rw [ai y];exact g.g _ _ (by rw [av y];exact e)|some o=>rw [bg y];rw [zs b o y] at e;exact e
 h:=λb u e=>by
  cases y:Z.lookup b with
  |none=>rw [ai y];exact g.h _ _ (by rw [av y];exact e)|some o=>rw [r _ _ (zs b o y)] at e;cases e;exact .inl {(λY z=>nomatch z),bg y}
 sub:=λb u e=>by
  cases y:Z.lookup b with
  |none=>rw [ai y] at e⊢;exact g.sub _ _ e|some o=>rw [bg y] at e⊢;exact e
 own:=λa w A f=>by
  cases y:Z.lookup a with
  |none=>rw [ai y];exact g.own a (by rw [av y];exact w) (by rw [av y];exact A) (by rw [av y];exact f)|some o=>rw [zs a o y] at f;cases f
 tb:=λt P q m=>by
  let(n,B,e,C,D):=g.tb (ly t r zs zc) P q m;refine{?_,B,?_,C,λi E y=>?_}
  .cases y:Z.lookup P with
   |none=>rw [ai y];exact n|some o=>rw [d P o y] at e;cases e
  .cases y:Z.lookup P with
   |none=>rw [ai y];exact e|some o=>rw [d P o y] at e;cases e
  .let(j,oc,I,K,e1,s,L,M):=D i E y
   refine{j,oc,I,K,e1,?_,L,M};cases y:Z.lookup j with
   |none=>rw [ai y];exact s|some o=>have:=g.sub _ _ s;rw [d j o y] at this;cases this
theorem qq(t:md W G H)(g:ax G H)(a:∀b o,Z.lookup b=hG o->H b=hI):md W (aQ Z G) (aQ Z H):=λP q m=>by
 let(n,h,e,i,j):=t P q m;refine{?_,h,?_,i,λc p y=>?_}
 .cases y:Z.lookup P with
  |none=>rw [ai y];exact n|some o=>rw [a P o y] at e;cases e
 .cases y:Z.lookup P with
  |none=>rw [ai y];exact e|some o=>rw [a P o y] at e;cases e
 .let(d,oc,r,s,e1,f,u,w):=j c p y
  refine{d,oc,r,s,e1,?_,u,w};cases y:Z.lookup d with
  |none=>rw [ai y];exact f|some o=>have:=g _ _ f;rw [a d o y] at this;cases this
def DM(t:bH W G H)(d:ax G H)(c:∀b o,Z.lookup b=hG o->H b=hI):bH W (aQ Z G) (aQ Z H):={qq t.t d c,λi o m=>by
 let(f,g,e,l):=t.o i o m
 have y:Z.lookup o.a=hI:=by
  cases y:Z.lookup o.a with
  |none=>rfl|some u=>rw [c _ u y] at e;cases e
 exact{by rw [ai y];exact f,g,by rw [ai y];exact e,ag.same (GU d c) _ l}}
theorem aD.lz{d:Hp}(g:aD W (aQ Z G) (aQ Z H) d H')(f:ax G H)(zc:∀b o,Z.lookup b=hG o->∃v,o.data=.cell v)(c:∀b o,Z.lookup b=hG o->H b=hI):aD W G H (aS Z d) (aS Z H') where
 g:=λb u e=>by
  cases y:Z.lookup b with
  |none=>rw [av y];exact g.g _ _ (by rw [ai y];exact e)|some o=>have:=f _ _ e;rw [c b o y] at this;cases this
 h:=λb u e=>by
  cases y:Z.lookup b with
  |none=>rw [av y];exact g.h _ _ (by rw [ai y];exact e)|some o=>rw [c b o y] at e;cases e
 sub:=λb u e=>by let(q,e1):=fq e;rw [av q];exact g.sub _ _ e1
 own:=λa i j m=>by
  cases y:Z.lookup a with
  |none=>rw [av y];exact g.own a (by rw [ai y];exact i) (by rw [ai y];exact j) (by rw [ai y];exact m)|some o=>exact gf y
 tb:=λt=>ly (g.tb (qq t f c)) g.sub (λb o q=>g.g _ _ (bg q)) zc
def Ar(a:ax G H):ax (aQ Z G) (aQ Z H):=λb u e=>by
 cases y:Z.lookup b with
 |none=>rw [ai y] at e⊢;exact a _ _ e|some o=>rw [bg y] at e⊢;exact e
theorem wD{a c:Hp}(s:ax a c)(d:∀b o,Z.lookup b=hG o->c b=hI):ax a (aQ Z a):=λb u e=>by
 cases y:Z.lookup b with
 |none=>rw [ai y];exact e|some o=>have:=s _ _ e;rw [d b o y] at this;cases this
def vh(zs:∀b o,Z.lookup b=hG o->H b=hG (.bw o bO)):aQ Z (aS Z H)=H:=by
 funext b
 cases y:Z.lookup b with
 |none=>rw [ai y,av y]|some o=>rw [bg y,zs b o y]
def uz(zs:∀b o,Z.lookup b=hG o->H b=hI):aS Z (aQ Z H)=H:=by
 funext b
 cases y:Z.lookup b with
 |none=>rw [av y,ai y]|some o=>rw [gf y,zs b o y]
theorem BU(k:eY P w H h)(zs:∀b o,Z.lookup b=hG o->H b=hG (.bw o bO)):eY P w (aS Z H) h:=λb v e=>by
 let(q,e1):=fq e;refine(k b v e1).fU (λc y Y r=>r) (λc r=>?_) λc xs r=>?_
 .cases y:Z.lookup c with
  |none=>rw [av y];exact r|some o=>rw [zs c o y] at r;cases r
 .cases y:Z.lookup c with
  |none=>rw [av y];exact r|some o=>rw [zs c o y] at r;cases r
def zD{K:zz8}{outer:List Env}{s:hW}(e:hX P w K mg base A outer s H)(zs:∀b o,Z.lookup b=hG o->H b=hG (.bw o bO)):hX P w K mg base A outer s (aS Z H):=
 {e.frames,e.mod,λb o q=>{(e.bs b o q).1,gE (e.bs b o q).2},e.xl,e.gZ,λb a=>gE (e.xG b a),BU e.aR zs,e.bare}
def Dq{ps:List Str}{a:iv}(h:QG ps a=hQ):sP ps (bo a) a:=by unfold QG at h;simp! [zza,zzy,Bool.not_eq_true',zzN,ed] at h;let((((((b,c),d),e),f),g),i):=h;refine{b,c,d,e,f,g,i,λx j=>?_};unfold bo;rw [List.mem_reverse,gI];exact{(x,.free),List.mem_filter.mpr {PySem.mem_of_lookup j,rfl},rfl}
def xk{b:jm}{ps:List Str}{c:iv}{cl:List (Str×h9)}{d dD ct:hV}(h:qF b=hG ps)(us:List hV)(hl:us.length=ps.length):bindArgs (PySem.W.kla_fn (zu 4) qual b body c cl d dD ct) {us,[]}=pure (ps.zip us):=by
 rcases xf h with⟨rfl,rfl⟩|⟨a,rfl,rfl⟩
 .cases us with
  |nil=>rfl|cons _ _=>cases hl
 .cases us with
  |nil=>cases hl
  |cons u r=>
   cases r with
   |cons _ _=>cases hl
   |nil=>simp [bindArgs,seqItems?,PySem.W.kla_fn];rfl
def ER{b:jm}{ps:List Str}{env:Env}(h:qF b=hG ps):defaultsOf b env=([],[]):=by
 rcases xf h with⟨rfl,rfl⟩|⟨a,rfl,rfl⟩
 .rfl
 .rfl
theorem ic{l:List PV}(c:Str):∀{idx:List Nat},fE l idx≠.exc c
 |[]=>nofun|i::idx=>λz=>by
  unfold fE at z;rcases Res.d6 z with z|⟨p,_,z⟩
  .unfold atC at z;split at z;exact Res.bq c z;cases z
  .rcases Res.d6 z with z|⟨ps,_,z⟩
   .exact ic c z
   .cases z
end
abbrev MS(i:Nat):E:=if HR i=1 then .tup (.cons (.cst (.str (NQ i))) .nil) else .bin .mul (.tup (.cons (.cst (.str (NQ i))) .nil)) (.cst (.int (HR i)))
abbrev yZ(i:Nat):E:=if i<10000 then .var i else MS i
abbrev qU:List Nat->Es
 |[]=>.nil|i::r=>.cons (yZ i) (qU r)
def EV(i:Nat):gA (yZ i)=hQ:=by
 unfold yZ MS;split
 .rfl
 .split<;>rfl
theorem xD:∀idx:List Nat,eO (qU idx)=hQ
 |[]=>rfl|i::r=>by unfold qU eO;rw [EV,xD r];rfl
theorem tW{b:Type}{a:b}:∀n:Nat,(kq n [a]).flatten=kq n a
 |0=>rfl|n+1=>by rw [List.replicate_succ,List.flatten_cons,tW n];rfl
def Jz{F:aF}{i:Nat}(h:MR i e=hQ):aE F (MS i) env=.ok (JA i):=by
 unfold MR at h;unfold MS JA;by_cases a:HR i=1
 .rw [if_pos a,a];simp! [aE,bf,Res.bind];rfl
 .rw [if_neg a] at h⊢;simp! [zza,zzN] at h;simp! [aE,bf,Res.bind,binOp];rw [if_pos {by omega,by omega,by simp,by simp},g7,tW]
theorem xE{F:aF}{l:List PV}:∀{as:List ia} {idx:List Nat} {qs:List PV},i4 N as idx=hQ->fE l idx=.ok qs->bf F (qU idx) (l.map .val)=.ok qs
 |[],[],qs,_,h=>by cases h;unfold qU;rw [bf]
 |a::as,i::idx,qs,c,h=>by
  unfold i4 at c;rw [zza] at c;unfold fE at h;let(p,b,h):=Res.aJ h;let(g,f,h):=Res.aJ h
  cases h;unfold qU;rw [bf];have e1:aE F (yZ i) (l.map .val)=.ok p:=by
   unfold yZ;have d:=c.1;unfold A6 at d;unfold atC at b;by_cases e:i<10000
   .rw [if_pos e] at b⊢;have:=Res.of_ok b;rw [aE,dV,this];rfl
   .rw [if_neg e] at b d⊢;cases b;exact Jz d
  rw [e1];show(bf F (qU idx) (l.map .val)).bind _=_;rw [xE c.2 f];rfl
 |[],_::_,_,h,_=>aN h|_::_,[],_,h,_=>aN h
def mT{a:ia}{i:Nat}(h:A6 N i a=hQ)(as:List ia)(env:Env):starEach (a::as) env=(hU,eval a env)::starEach as env:=by
 unfold A6 at h;split at h
 .let(x,e,_):=ah h;let(p,rfl):=bT e;rfl
 .unfold MR at h;split at h
  .let(_,_,_,_,rfl):=vL (zzy.mp h);rfl
  .rw [zza] at h;let(_,_,_,_,_,_,_,rfl):=xt (zzy.mp h.2);rfl
theorem pE{env:Env}:∀{as:List ia} {idx:List Nat} {pos:Pos},i4 N as idx=hQ->(backTo pos (starEach as env)).any (·.1)=hU
 |[],_,_,_=>rfl|a::as,[],_,h=>aN h|a::as,i::idx,pos,h=>by unfold i4 at h;rw [zza] at h;rw [mT h.1];show(hU||(backTo pos (starEach as env)).any (·.1))=hU;rw [pE h.2];rfl
def N6{W:Wd}{F:aF}(hK:W.K=X.K){i:Nat}{a:ia}(h:MR i a=hQ):GE X W F (MS i) a:=by
 unfold MR at h;unfold MS;split at h
 .rename_i b;rw [if_pos b];let(_,_,_,_,rfl):=vL (zzy.mp h);exact vN rfl (show 1<1000 by decide) (j4 (d7 rJ λG=>.s) ra rfl)
 .rename_i b;rw [if_neg b];rw [zza] at h;let(_,_,_,_,_,_,_,rfl):=xt (zzy.mp h.2);exact xK (o:=.mul) hK (vN rfl (show 1<1000 by decide) (j4 (d7 rJ λG=>.s) ra rfl)) (d7 rH λG=>.i)
theorem q9{W:Wd}{F:aF}(hK:W.K=X.K)(d:∀(i:Nat) (x:Str),X.N[i]?=hG x->Nv X.env.scope x):∀{as:List ia} {idx:List Nat},i4 X.N as idx=hQ->GA X W F (qU idx) as
 |[],[],_=>ra|a::as,i::idx,h=>by
  unfold i4 at h;rw [zza] at h;have hs:=mT h.1 as X.env;have b:=h.1;unfold A6 at b;unfold qU yZ;by_cases f:i<10000
  .rw [if_pos f] at b⊢;let(x,e,c):=ah b;let(p,rfl):=bT e;rw [zza,zzy] at c;exact j4 (xM c.1 (d i x c.1) c.2) (q9 hK d h.2) hs
  .rw [if_neg f] at b⊢;exact j4 (N6 hK b) (q9 hK d h.2) hs
 |[],_::_,h=>aN h|_::_,[],h=>aN h
def Hc{W:Wd}{as:List PV}(c:ax G H)(tb:bH W G H)(l:ag W G as vs):SR W H (as.map .val) (vs.map hG) G H:=by
 refine{by rw [zzl,zzl];exact l.length.symm,c,ib.refl _,λi s e=>?_,λi j p q a e1 Z Z Z=>?_,tb,tb}
 .rw [dV] at e;let(p,b,rfl):=b4.mp e;let(v,d,f):=l.oN b;exact{hG v,by rw [dV,d];rfl,v,rfl,f}
 .rw [dV] at e1;let(p,b,e):=b4.mp e1;cases e
section
variable{Γ:Pg}{W:Wd}{F:aF}{sc:iv}
def yb{c:jm}{b:iv}(h:FD g idx c body b=hQ):∃ps a as np pos,qF c=hG ps/\idx.head?=hG ps.length/\body=.Call (.Name g np) (a::as) [] pos/\b.names.lookup g=hG .globalImplicit/\okN g=hQ/\dZ g=hU/\i4 (ps++bo b) (a::as) idx.tail=hQ/\sP ps (bo b) b:=by
 let(ps,e1,h):=CB h;let((f,args,i,pos),j,h):=CB h;simp! [zza,zzy,Bool.not_eq_true',zzN] at h;let((((((((m,o),p),q),r),s),t),u),w):=h;let(np,d):=bT m;have e:=List.isEmpty_iff.1 o
 try dsimp only at d e
 subst d e;cases args with
 |nil=>cases p
 |cons a as=>exact{ps,a,as,np,pos,e1,q,kL j,r,s,t,u,Dq w}
def xr(C:zv3 X){cA as qs:List PV}{f:h9}{ae:kv}{G:Hp}{s:hW}{Q:VK}{vs:List V}
 (I:zv2 s) (m:ax G H) (tb:bH W G H) (cr:ma W G g idx cA (.ref f)) (l:ag W G as vs) (r:Vals vs us) (hn:idx.head?=hG as.length) (hq:fE (as++cA) idx.tail=.ok qs)
 (o:Out X W (F g qs) σ G H λp=>dm W G H p Q):zx7 X (call (.ref f) us) (EP X ae σ Q) X.xe s:=by
 let(f',c',oc,dc,t,fW,pm,params,body,h,j,cl,Z,ws,e,d):=cr;cases e;let(ps,a,as',np,pos,e1,e0,rfl,e2,e3,e4,e5,S):=yb d.lg;have oU:F g qs≠.bad:=λz=>by rw [z] at o;exact o
 have L:as.length=ps.length:=zzq (hn.symm.trans e0);have T:∀b o,Z.lookup b=hG o->H b=hG (.bw o bO):=λb o q=>m _ _ (d.zs b o q);have Wa:aQ Z (aS Z H)=H:=vh T;have Hy:vA Z (aS Z H) (fQ X.stack) s.heap:={λb o q=>(I.aR b _ (T b o q)).1,λb o q=>gf q,λb o q hb=>by have:=I.mL b hb;rw [T b o q] at this;cases this};have rl:ag W (aS Z G) (as++cA) (vs++ws):=(ag.less d.zs as l).append d.rep
 have uh:Γ.fs.contains g=hQ:=by
  rcases C.any g qs oU with z|z
  .exact z
  .rw [e4] at z;cases z
 let(fa,fd,pn,FO,hm,hk,hb,hal):=(C.fns g uh).ex;have Xn:ax (aS Z G) (aS Z H):=qm m
 refine wpAny_call (codeAny_mono (L2.yc (E:=λCv ao M=>∃c,F g qs=.exc c/\XE W c G H Cv ao M) (Q:=Q) (Z:=Z) (ws:=ws) (vs:=vs) (t:=λU H1 Q1=>H1=aS Z H/\U=vs.map hG++ws.map hG/\∀u Y,(match F g qs with
  |.ok p=>∃G3,aD W (aS Z G) (aS Z H) G3 Y/\Rep W G3 p u|_=>False)->Q1 u Y) S C.room (zD I.qS T) Hy ?zb (I.aR _ _ (m _ _ d.fo)).1 (I.aR _ _ (m _ _ d.co)).1 d.cd d.cn (xk e1 us (by rw [<-r.length,l.length,L])) r (by rw [l.length,L]) d.len d.has d.inj d.cells ?cells ?ht ?hq) λrr s' D=>?end_)
 case zb=>
  intro b o q;cases y:X.base.get? b with
  |none=>rfl|some o'=>have:=(I.bs b o' y).2;rw [T b o q] at this;cases this
 case cells=>intro i y c h1 h2 v R;let(u,o',q1,q2,q3):=d.vals i y c h1 h2 v R;exact{u,q1,o',Hy.at_ c o' q2,q3}
 case hq=>
  refine{rfl,rfl,λu Y R zn=>?_}
  .cases z:F g qs with
   |ok p=>rw [z] at R o;let(G3,g3,r3):=R;exact o u _ _ (g3.wz m d.zs d.zc zn) (Rep.same (wD g3.sub zn) p r3)|exc c=>rw [z] at R;exact R.elim|bad=>exact absurd z oU
 case ht=>
  intro yq s1 U H1 Q1 I1 h1;let(rfl,rfl,q2):=h1;have Xs:=Hc Xn (vg tb m d.zs d.zc) rl;have O:=e5
  cases hi:idx.tail with
  |nil=>rw [hi] at O;exact aN O|cons i0 idx'=>
  rw [hi] at O;unfold i4 at O;rw [zza] at O;refine wpAny_Call_Name_kw (fH (X:=HS X.prog X.w X.K X.mg X.base (ps++bo h) j h f (.ref c') cl X.A X.stack s (aS Z H) _) I1 e2 hm ?_ (dC e3).1);refine PySem.W.callWith_K (h₀:=X.base) I.ok.mod.Iq hk (bM (q9 (F:=F) (X:=HS X.prog X.w X.K X.mg X.base (ps++bo h) j h f (.ref c') cl X.A X.stack s (aS Z H) _) C.K (λi x hx=>?_) e5 pos yq s1 _ (aS Z H) (λPU H2=>∃G2,aD W (aS Z G) (aS Z H) G2 H2/\ag W G2 qs PU) I1 {aS Z H,aS Z G,(as++cA).map .val,(by rw [<-List.map_append];exact Xs),?_}) λus2 s2 ⟨PU,H2,I2,r2,G2,g2,ry⟩=>{I2.kS,?_}) (mT O.1 _ _) (pE O.2)
  .rcases List.mem_append.mp (a7 hx) with z|z
   .exact .inl (S.par x z)
   .exact .inr (.inr (S.RE x z))
  .rw [xE e5 hq];exact λPU G1 H1 g1 t1=>{G1,g1,t1.rep (xD _)}
  .refine mY (X:=HS X.prog X.w X.K X.mg X.base (ps++bo h) j h f (.ref c') cl X.A X.stack s (aS Z H) _) (q:=hI) (as:=qs) (G:=G2) (C.room.deeper _) FO hb (λz=>by rw [ry.length];exact hal qs z) I2 g2.sub (g2.tab (vg tb m d.zs d.zc)) ry r2 ?_;cases z:F g qs with
   |ok p=>rw [z] at q2;exact λv G' M g' rp=>q2 v M {G',g2.trans g',rp}|exc c=>intro P G3 Y s3 e s' I3 g3 x3;refine O1 P _ Y s3 e s' I3 (AW.imp x3 λCv ao M y zn=>?_);let(C4,a4,G4,y1,y2,y3,y4,y5):=y;exact{c,rfl,C4,a4,_,y1,y2,y3,y4,((g2.trans g3).trans y5).wz m d.zs d.zc zn}|bad=>exact absurd z oU
 case end_=>
  rw [Wa] at D;cases rr with
  |error e=>
   have D:dQ X.prog X.w X.stack H s (λCv ao M=>∃c,F g qs=.exc c/\XE W c G H Cv ao M) e s':=D
   cases z:F g qs with
   |ok q=>let(a,C',t,vs,M,B,rfl,Fl):=D;let(c,e1,_):=Fl.ends;rw [z] at e1;cases e1
   |exc c=>rw [z] at o;refine o ae G H s e s' I (.refl m) (AW.imp D λC1 a M y=>?_);let(c',e1,y):=y;rw [z] at e1;cases e1;exact y
   |bad=>exact absurd z oU
  |ok fl=>
   cases fl with
   |ret u=>exact I.after D|next=>exact e6 D|brk=>exact e6 D|cont=>exact e6 D
def BD(C:zv3 X){i:Nat}{e:E}{B:Es}{p:ia}{ps:List ia}(h:(N[i]?==hG x&&dG sc x&&okN x)=hQ)(ug:eO (.cons e B)=hQ)(ha:GA X W F (.cons e B) (p::ps))
 (dR:starEach (p::ps) X.env=(hU,eval p X.env)::starEach ps X.env) (hpl:(backTo pos (starEach ps X.env)).any (·.1)=hU):GE X W F (.lC i (.cons e B)) (.Call (.Name x np) (p::ps) [] pos):=by
 simp! [zza,zzy] at h;let(h1,h2,h3):=dC h.2;intro T s A H Q I m;let(H0,G,env,sr,o):=m
 rw [aE] at o;cases e1:env[i]? with
 |none=>rw [e1] at o;exact o.elim|some sl=>
  cases sl with
  |no=>rw [e1] at o;exact o.elim|val _=>rw [e1] at o;exact o.elim|own _=>rw [e1] at o;exact o.elim|DZ _=>rw [e1] at o;exact o.elim|fn g idx D=>
   rw [e1] at o;let(U,hs,v,rfl,V):=sr.slot i _ e1;have Rw:=V;let(f,c',oc,dc,t,fW,pm,a,body,b,z,cl,Z,ws,e2,d):=Rw;subst e2;refine wpAny_Call_Name_kw (wpAny_mono (iE (i:=i) (by rw [C.hN];exact h.1.1) (oo C h.1.2) h1 h2 T s A H (λY K=>Y=.ref f/\K=H) I {_,hs,rfl,rfl}) (λu s1 hu=>?_) λ_ _ y=>y);let(Y,K,I1,ru,rfl,rfl):=hu;cases ru;refine PySem.W.callWith_F {_,_,_,_,(I1.aR _ _ (sr.sub _ _ d.fo)).1} (bM (ha pos T s1 A K (λL j=>∃G2 as qs,ax G2 j/\bH W G2 j/\ag W G2 as L/\ma W G2 g idx D (.ref f)/\G2 f=hG (.bw (PySem.W.kla_obj (zu 4) z a body b cl pm c' fW) bO)/\idx.head?=hG as.length/\fE (as++D) idx.tail=.ok qs/\Out X W (F g qs) A G2 j λp=>dm W G2 j p Q) I1 ?_) λus s2 ⟨L,j,I2,r,q⟩=>?_) dR hpl
   .refine args sr o λas L G1 j M t1 bU w=>?_;split at w
    .rename_i O;cases m:fE (as++D) idx.tail with
     |ok qs=>rw [m] at w;have uK:Out X W (F g qs) A G1 j _:=w;exact{G1,as,qs,bU.sub,bU.tab,t1.rep ug,V.same M.g,M.g _ _ d.fo,O,m,uK.imp λp hp v G' H' g' rp=>hp v G' H' (M.trans g') (.of rp)}|exc c=>exact absurd m (ic c)|bad=>rw [m] at w;exact w.elim
    .exact w.elim
   .let(G2,as,qs,sg,tb,l,P,R,O,S,U):=q;exact{{_,_,_,_,(I2.aR _ _ (sg _ _ R)).1},xr C I2 sg tb P l r O S U}
def zG(C:zv3 X){i:Nat}(h:(N[i]?==hG x&&dG sc x&&okN x)=hQ):GE X W F (.lC i .nil) (.Call (.Name x np) [] [] pos):=by
 simp! [zza,zzy] at h;let(B,D,h3):=dC h.2;intro E s j H Q I a;let(H0,G,env,sr,o):=a
 rw [aE] at o;cases e1:env[i]? with
 |none=>rw [e1] at o;exact o.elim|some K=>
  cases K with
  |no=>rw [e1] at o;exact o.elim|val _=>rw [e1] at o;exact o.elim|own _=>rw [e1] at o;exact o.elim|DZ _=>rw [e1] at o;exact o.elim|fn g idx q=>
   rw [e1] at o;let(o2,hs,v,rfl,r):=sr.slot i _ e1;have L:=r;let(f,c',oc,dc,t,fW,pm,b,body,m,w,cl,Z,ws,M,d):=L;subst M;refine wpAny_Call_Name_kw (wpAny_mono (iE (i:=i) (by rw [C.hN];exact h.1.1) (oo C h.1.2) B D E s j H (λz e=>z=.ref f/\e=H) I {_,hs,rfl,rfl}) (λu s1 O=>?_) λ_ _ y=>y);let(z,e,A,P,rfl,rfl):=O;cases P;refine PySem.W.callWith_F0 {_,_,_,_,(A.aR _ _ (sr.sub _ _ d.fo)).1} ?_;rw [bf] at o;have o:Out X W (if idx.head?=hG 0 then(fE ([]++q) idx.tail).bind λqs=>F g qs else .bad) j G e _:=o;split at o
   .rename_i R;cases a:fE ([]++q) idx.tail with
    |ok qs=>rw [a] at o;have S:Out X W (F g qs) j G e _:=o;exact xr C A sr.sub sr.tab r (show ag W G [] [] from .nil) .nil R a (S.imp λp T v U V Y rp=>T v U V Y (.of rp))|exc c=>exact absurd a (ic c)|bad=>rw [a] at o;exact o.elim
   .exact o.elim
def qy(X:Cx)(W:Wd)(a:jm)(body:ia)(b:iv)(cl:List (Str×h9))(G1 e G2 g:Hp)(f:h9):Prop:=aD W G1 e G2 g/\∃c oc d t h i,G2 f=hG (.bw (PySem.W.kla_obj (zu 4) (X.env.qual++(zu 4)) a body b cl i c h) bO)/\G2 c=hG (.bw oc bO)/\oc.data=.fields d/\d[1]?=hG (.str (X.env.qual++(zu 4)) t)
def CQ(C:zv3 X)(hl:Γ.hl=hQ){d:jm}{ps:List Str}{g:iv}{cl:List (Str×h9)}(hp:qF d=hG ps)(vS:closureFor g X.env=pure cl):
 PE X (.Lambda d body g pos) (λσ H Q=>∃G,ax G H/\bH W G H/\∀f G2 H2,qy X W d body g cl G H G2 H2 f->Q (.ref f) H2):=by
 intro ae s σ H Q I h;let(G,O,tb,q):=h;let(c,P,xS,CH,Z,huq):=C.tb hl;let(nG,oj,hP,tr,al):=tb.t P _ Z;refine L2.B9 (R:=λi oc=>G i=hG (.bw oc bO)) I hP tr xS CH (C.bm hl) vS (ER hp) (λD e=>?_) λf i oc S t fW rL h' tk T U D5 WD Wx hd hv XH V5 more I'=>?_
 .let(i,oc,S,t,e1,r,E,K):=al pos D e;exact{i,oc,S,t,e1,O _ _ r,r,E,K}
 .have Wl:G f=hI:=O.free T
  have Wj:G i=hI\/G i=hG (.bw oc bO):=by
   rcases U with z|z
   .exact .inl (O.free z)
   .exact .inr z.2
  have fo:∀fo,iA H P rL i oc f fo f=hG (.bw fo bO):=λfo=>by unfold iA;rw [aq]
  have sG:∀fo,ax G (upd (upd G i (.bw oc bO)) f (.bw fo bO)):=λfo b u e=>by
   have A:b≠f:=λz=>by rw [z,Wl] at e;cases e
   rw [af A];by_cases w:b=i
   .subst w;rw [aq];rcases Wj with z|z
    .rw [z] at e;cases e
    .rw [z] at e;exact e
   .rw [af w];exact e
  have S8:∀fo a,H a≠hI->(∀vs,H a≠hG (.tup vs))->G a=hI->(upd (upd G i (.bw oc bO)) f (.bw fo bO)) a=hI:=λfo a h1 _ h2=>by
   have Wr:a≠f:=λz=>h1 (by rw [z];exact T);rw [af Wr];by_cases ha:a=i
   .subst ha;rcases U with z|z
    .exact absurd z h1
    .rw [z.2] at h2;cases h2
   .rw [af ha];exact h2
  refine{.ref f,_,I',rfl,q f (upd (upd G i (.bw oc bO)) f (.bw _ bO)) _ {{sG _,λb u e=>?_,λb u e=>?_,S8 _,λ_ V q' m=>?_},i,oc,S,t,fW,(X.mg (zu 35)).getD .none,aq,by rw [af D5,aq],hd,hv}}
  .have A:b≠f:=λz=>by rw [z,T] at e;cases e
   by_cases Y:b=P
   .subst Y;rw [hP] at e;cases e;let(m,rfl):=more;exact .inr {oj,m,rfl,by unfold iA;rw [af (Ne.symm WD),af (Ne.symm Wx),aq]}
   .have r:iA H P rL i oc f (PySem.W.kla_obj (zu 4) (X.env.qual++(zu 4)) d body g cl ((X.mg (zu 35)).getD .none) i fW) b=H b:=by
     unfold iA;rw [af A];by_cases w:b=i
     .subst w;rw [aq];rcases U with z|z
      .rw [z] at e;cases e
      .rw [z.1]
     .rw [af w,af Y]
    rw [r];exact ib.refl H b u e
  .by_cases A:b=f
   .subst A;rw [aq] at e;rw [fo];exact e
   .rw [af A] at e;unfold iA;rw [af A];by_cases w:b=i
    .subst w;rw [aq] at e⊢;exact e
    .rw [af w] at e⊢;have Y:b≠P:=λz=>by rw [z,nG] at e;cases e
     rw [af Y];exact O _ _ e
  .let(n1,qs,p,tr1,L):=tb.t V q' m;have RU:V≠f:=λz=>by rw [z,T] at p;cases p
   have iu:V≠i:=λz=>by
    rcases U with y|y
    .rw [z,y] at p;cases p
    .rw [z,y.1] at p;cases p
   refine{by rw [af RU,af iu];exact n1,?_};by_cases M:V=P
   .subst M;rw [hP] at p;cases p;refine{rL,by unfold iA;rw [af RU,af iu,aq],XH,λj D y=>?_}
    rcases V5 j D y with y|y
    .let(c2,B,o,t2,e1,r,E,K):=L j D y;exact{c2,B,o,t2,e1,sG _ _ _ r,E,K}
    .exact{i,oc,S,t,y,by rw [af D5,aq],hd,by rw [huq q' m];exact hv}
   .refine{qs,by unfold iA;rw [af RU,af iu,af M];exact p,tr1,λj D y=>?_};let(c2,B,o,t2,e1,r,E,K):=L j D y;exact{c2,B,o,t2,e1,sG _ _ _ r,E,K}
structure AZ(N:List Str)(sc:iv)(g:Str)(idx aM:List Nat)(params:jm)(body:ia)(scope:iv):Prop where
 lb:FD g idx params body scope=hQ
 cn:aM.map (λi=>N[i]?)=(bo scope).map hG
 cc:∀y∈bo scope,sc.names.lookup y=hG .cell
abbrev Pw(X:Cx)(W:Wd)(F:aF)(N:List Str)(sc:iv)(g:Str)(idx i:List Nat)(j:Es):TA:=λc H Q=>∃m G env,SR W m env c G H/\Out X W (bf F j env) c G H λas=>∀d G1 e,aD W G H G1 e->ag W G1 as d->∀b body a f G2 h,AZ N sc g idx i b body a->qy X W b body a (bG X.env (bo a)) G1 e G2 h f->Q (d++[.ref f]) h
def B8(C:zv3 X)(ok:X.Ok){d:List Nat}{c:jm}{b:iv}(a:AZ N sc g idx d c body b):closureFor b X.env=pure (bG X.env (bo b)):=by refine ja λy e f=>ok.has y.1 (.inl ?_);show X.env.scope.names.lookup y.1=_;rw [C.eP];refine a.cc y.1 ?_;unfold bo;rw [List.mem_reverse,gI];exact{y,List.mem_filter.mpr {e,by rw [f];rfl},rfl}
def Gq(C:zv3 X)(hl:Γ.hl=hQ){e:List Nat}{b:jm}{c:iv}(a:AZ N sc g idx e b body c):PA X [.Lambda b body c pos] (Pw X W F N sc g idx e .nil):=by let(q,_,_,_,_,e1,_):=yb a.lb;intro d i s j H Q I h;refine cH (CQ C hl e1 (B8 C I.ok a)) eB rfl d i s j H Q I ?_;let(r,G,env,sr,o):=h;rw [bf] at o;refine{G,sr.sub,sr.tab,λf G2 p m=>?_};exact o [] G H (.refl sr.sub) .nil b body c f G2 p a m
theorem CM{i:List Nat}{e:E}{c:Es}{p:ia}{ps:List ia}(d:eO (.cons e c)=hQ)(he:GE X W F e p)(hs:PA X ps (Pw X W F N sc g idx i c))(m:starEach (p::ps) X.env=(hU,eval p X.env)::starEach ps X.env):PA X (p::ps) (Pw X W F N sc g idx i (.cons e c)):=
 L2.PA.imp (cH he hs m) λK H Q h=>by let(r,G,env,sr,o):=h;rw [bf] at o;unfold eO at d;rw [zza] at d;refine one sr o λq v G1 L s t u w=>{r,G1,env,u,w.bind.imp λas y z G2 A j l=>?_};intro a body b f B C D I;have:=y (v::z) G2 A (s.trans j) (.cons (Rep.same j.g q (t.rep d.1)) l) a body b f B C D I;simpa using this
def lookup_all{Z:kv}(a:∀q∈Z,h.get? q.1=hG q.2):∀{c:h9} {o:Obj},(c,o)∈Z->Z.lookup c=hG o:=by
 induction Z with
 |nil=>intro c o m;cases m
 |cons q Z d=>
  intro c o m;let(f,g):=q
  rw [hB];cases e:c==f with
  |true=>have i:=zzy.mp e;subst i;have j:=a (c,g) dB;have b:h.get? c=hG o:=a (c,o) m;rw [j] at b;exact b|false=>
   rcases e9.mp m with z|z
   .cases z;simp at e
   .exact d (λq p=>a q (b0 _ p)) z
theorem tj{c:St}(sr:SR W H0 env c G H):∀{a:List Nat} {cs:List PV},mf env a=.ok cs->∃ws:List V,ag W G cs ws/\ws.length=a.length/\∀(j:Nat) (i:Nat),a[j]?=hG i->∃v,ws[j]?=hG v/\c[i]?=hG (hG v)
 |[],cs,h=>by unfold mf at h;cases h;exact{[],.nil,rfl,λj i e=>by simp at e}
 |i::a,cs,h=>by
  unfold mf at h;let(p,b,h):=Res.aJ h;let(t,d,h):=Res.aJ h
  cases h;have hs:env[i]?=hG (.val p):=by
   cases e:env[i]? with
   |none=>rw [e] at b;cases b
   |some s=>rw [e] at b;cases s<;>cases b;rfl
  let(o,f,v,rfl,g):=sr.slot i _ hs;let(ws,m,q,r):=tj sr d;refine{v::ws,.cons g m,by simp [q],λj k e=>?_}
  cases j with
  |zero=>simp at e;subst e;exact⟨v,rfl,f⟩|succ j=>simpa using r j k (zx6 e)
theorem mZ(c:Str):∀{a:List Nat},mf env a≠.exc c
 |[]=>nofun|i::a=>λz=>by
  unfold mf at z;rcases Res.d6 z with z|⟨p,_,z⟩
  .cases e:env[i]? with
   |none=>rw [e] at z;cases z
   |some s=>rw [e] at z;cases s<;>cases z
  .rcases Res.d6 z with z|⟨ps,_,z⟩
   .exact mZ c z
   .cases z
def y8(C:zv3 X)(hl:Γ.hl=hQ){q:Hs}{P:List Nat}{fa:h9}{fd:FuncData}{pn:List Str}(FO:fL X.prog X.w X.K X.mg X.base (dQ X.prog X.w) k fa fd pn (AN W F q.f pn.length (hG (q.g,q.idx))))(hb:Binds X.K fd pn []){ae:kv}{s:hW}{as cs:List PV}{j:jm}{d:iv}{f S:h9}{oc:Obj}{dc:Array hV}{t:Tok}{fW pm:hV}
 (I:zv2 s) (sr:SR W H0 env σ G H) (a:AZ N sc q.g q.idx P j body d) (RR:mf env P=.ok cs) (l:ag W G as vs) (fo:G f=hG (.bw (PySem.W.kla_obj (zu 4) (X.env.qual++(zu 4)) j body d (bG X.env (bo d)) pm S fW) bO)) (co:G S=hG (.bw oc bO)) (cd:oc.data=.fields dc) (cn:dc[1]?=hG (.str (X.env.qual++(zu 4)) t))
 (hlen:(vs++[V.ref f]).length=pn.length) (r:Vals (vs++[.ref f]) us) (o:Out X W (F q.f (as++cs)) σ G H λp=>dm W G H p Q):zx7 X (call (.ref fa) us) (EP X ae σ Q) X.xe s:=by
 have oU:F q.f (as++cs)≠.bad:=λz=>by rw [z] at o;exact o
 let(ws,rws,T,pws):=tj sr RR;have fg:∀y∈bo d,∃c,X.env.cells.lookup y=hG c:=λy L=>I.ok.has y (.inl (by show X.env.scope.names.lookup y=_;rw [C.eP];exact a.cc y L));have call:((bo d).all λy=>(X.env.cells.lookup y).isSome)=hQ:=ed.mpr λy L=>by let(c,e):=fg y L;rw [e];rfl
 let Z:kv:=(bo d).filterMap λy=>(X.env.cells.lookup y).bind λc=>(s.heap.get? c).map λo=>(c,o);have P4:∀q∈Z,∃y,y∈bo d/\X.env.cells.lookup y=hG q.1/\s.heap.get? q.1=hG q.2:=λq hq=>by let(y,L,e):=gS.mp hq;let(c,hc,e):=eo.mp e;let(o,U,rfl):=b4.mp e;exact⟨y,L,hc,U⟩
 have TR:∀q∈Z,s.heap.get? q.1=hG q.2:=λq hq=>let⟨_,_,_,h⟩:=P4 q hq;h;have VV:∀y c o,y∈bo d->X.env.cells.lookup y=hG c->s.heap.get? c=hG o->Z.lookup c=hG o:=λy c o L hc U=>lookup_all TR (gS.mpr {y,L,by rw [hc];show(s.heap.get? c).map _=_;rw [U];rfl});have Y:∀b o,Z.lookup b=hG o->∃y,y∈bo d/\X.env.cells.lookup y=hG b/\s.heap.get? b=hG o:=λb o e=>by let(y,M,D,R):=P4 (b,o) (PySem.W.mem_of_lookupK e);exact⟨y,M,D,R⟩
 have zc:∀b o,Z.lookup b=hG o->∃v,o.data=.cell v:=λb o e=>by let(y,_,D,R):=Y b o e;let(v,o',h4,h5):=I.cell y b D;rw [R] at h4;cases h4;exact⟨v,h5⟩
 have P5:∀b o,Z.lookup b=hG o->H b=hI:=λb o e=>by let(y,_,D,_):=Y b o e;exact I.i6 y b D
 have VW:∀b o,Z.lookup b=hG o->G b=hI:=λb o e=>sr.sub.free (P5 b o e)
 have uI:∀b u,G b=hG u->Z.lookup b=hI:=λb u e=>by
  cases y:Z.lookup b with
  |none=>rfl|some o=>rw [VW b o y] at e;cases e
 have NL:∀x c,(bG X.env (bo d)).lookup x=hG c->X.env.cells.lookup x=hG c:=fF call;have Ru:∀x c,(bG X.env (bo d)).lookup x=hG c->x∈bo d:=λx c e=>by have:=PySem.mem_of_lookup e;unfold bG at this;let(y,L,e2):=gI.mp this;cases e2;exact L
 have VU:∀b o,Z.lookup b=hG o->X.s₀.heap.objs.size<=b:=λb o e=>by let(y,_,D,_):=Y b o e;exact I.ok.MO y b (C.fl hl y) D
 have Hy:vA Z H (fQ X.stack) s.heap:={λb o e=>let⟨_,_,_,h⟩:=Y b o e;h,P5,λb o e RQ=>by
  let(y,_,D,R):=Y b o e
  rcases e9.mp (I.ju b RQ) with z|z
  .exact I.Eu y b D z
  .let(_,o',h4,_):=I.ok.gZ.mem z;exact absurd (c8 h4) (Nat.not_lt.mpr (VU b o e))}
 have zb:∀b o,Z.lookup b=hG o->X.base.get? b=hI:=λb o e=>by
  cases y:X.base.get? b with
  |none=>rfl|some o'=>exact absurd (c8 (I.ok.bs b o' y).1) (Nat.not_lt.mpr (VU b o e))
 have WM:(bo d).length=P.length:=by have:=congrArg List.length a.cn;simpa using this.symm
 have cr:ma W (aQ Z G) q.g q.idx cs (.ref f):=by
  refine{f,S,oc,dc,t,fW,pm,j,body,d,_,bG X.env (bo d),Z,ws,rfl,{a.lb,by rw [ai (uI f _ fo)];exact fo,by rw [ai (uI S _ co)];exact co,cd,cn,uI f _ fo,uI S _ co,λx y c M D=>I.ok.inj x y c (NL x c M) (NL y c D),λy L=>jW L,λx c h=>?_,λb o e=>bg e,zc,λi y c M D v R=>?_,by rw [T,WM],by rw [uz VW];exact rws}}
  .let(v,o,M,D):=I.cell x c (NL x c h);exact{o,v,VV x c o (Ru x c h) (NL x c h) M,D}
  .have hi:i<P.length:=by rw [<-T];exact(bV.mp R).1
   let(v',q1,q2):=pws i P[i] (zzg hi);rw [R] at q1;cases q1;have Wn:X.N[P[i]]?=hG y:=by rw [C.hN];have:=congrArg (λl=>l[i]?) a.cn;simp! [dV,M,zzg hi,Option.map_some] at this;exact zzq this
   let(m,_,hloc):=I.loc;let(u,ru,lk):=hloc P[i] y v Wn q2 (.inr (.inl (by rw [C.eP];exact a.cc y (a7 M))));have UT:=NL y c D
   rcases lk with⟨z,_⟩|⟨_,c2,lJ,o,U,hd⟩
   .have z2:X.env.scope.names.lookup y=hG .local:=z;rw [C.eP,a.cc y (a7 M)] at z2;cases z2
   .rw [UT] at lJ;cases lJ;exact{u,o,ru,VV y c o (a7 M) UT U,hd}
 have Sb:us.length=pn.length:=by rw [<-r.length];exact hlen
 have oT:=hb s us I.kS (by rw [hD];exact Sb);rw [hD] at oT;have Xh:ag W (aQ Z G) as vs:=ag.same (λb u e=>by rw [ai (uI b u e)];exact e) as l;have XO:∀G' E,aD W (aQ Z G) (aQ Z H) G' E->∀b o,Z.lookup b=hG o->G' b=hG (.bw o bO):=λG' E g b o e=>g.g _ _ (bg e);refine wpAny_call (codeAny_mono (FO.run X.A X.stack s (aQ Z H) {us,[]} us _ (λv E=>Q v (aS Z E)) (λCv ao E=>∃c,F q.f (as++cs)=.exc c/\XE W c G H Cv ao (aS Z E)) C.rm (I.qS.aQ Hy zb) oT r {hlen,aQ Z G,as++cs,Ar sr.sub,DM sr.tab sr.sub P5,{as,cs,vs,.ref f,rfl,rfl,Xh,cr},?_}) λrr s' O=>?_)
 .cases z:F q.f (as++cs) with
  |ok p=>rw [z] at o;exact λv G' E g' rp=>o v _ _ (g'.lz sr.sub zc P5) (Rep.less (XO G' E g') p rp)|exc c=>intro Cv ao E y;let(C4,a4,G4,y1,y2,y3,y4,y5):=y;exact{c,rfl,C4,a4,_,y1,y2,y3,y4,y5.lz sr.sub zc P5}|bad=>exact absurd z oU
 .cases rr with
  |error e=>
   have O:dQ X.prog X.w X.stack H s (λCv ao E=>∃c,F q.f (as++cs)=.exc c/\XE W c G H Cv ao E) e s':=dQ.less Hy O
   cases z:F q.f (as++cs) with
   |ok q=>let(a,C',t,vs,E,B,rfl,Fl):=O;let(c,e1,_):=Fl.ends;rw [z] at e1;cases e1
   |exc c=>rw [z] at o;refine o ae G H s e s' I (.refl sr.sub) (AW.imp O λC1 a E y=>?_);let(S,e1,y):=y;rw [z] at e1;cases e1;exact y
   |bad=>exact absurd z oU
  |ok fl=>
   cases fl with
   |ret u=>exact I.after (CE.less Hy O)|next=>exact e6 O|brk=>exact e6 O|cont=>exact e6 O
def uc(C:zv3 X)(hl:Γ.hl=hQ){q:Hs}(T:q∈Γ.hs){d:List Nat}{e:Es}{p:ia}{ps:List ia}(U:jd sc q.h=hQ)(V:okN q.h=hQ)(Y:q.np=gQ e+1)(Z:PA X (p::ps) (Pw X W F N sc q.g q.idx d e))
 (dR:starEach (p::ps) X.env=(hU,eval p X.env)::starEach ps X.env) (hpl:(backTo pos (starEach ps X.env)).any (·.1)=hU):GE X W F (.sY q.f e q.g q.idx d) (.Call (.Name q.h np) (p::ps) [] pos):=by
 intro ae s i H Q I h;let(R,G,env,sr,o):=h;rw [aE] at o;let(fa,fd,pn,FO,hm,hk,hb,D):=(C.uh q T).ex;refine wpAny_Call_Name_kw (fH I (f6 C U) hm ?_ (dC V).1);refine PySem.W.callWith_K (h₀:=X.base) I.ok.mod.Iq hk (bM (Z pos ae s i H (λu w=>∃G2 as cs E a body b f j oc m t z A,u=E++[.ref f]/\as.length=gQ e/\SR W R env i G2 w/\AZ N sc q.g q.idx d a body b/\mf env d=.ok cs/\ag W G2 as E/\G2 f=hG (.bw (PySem.W.kla_obj (zu 4) (X.env.qual++(zu 4)) a body b (bG X.env (bo b)) A j z) bO)/\G2 j=hG (.bw oc bO)/\oc.data=.fields m/\m[1]?=hG (.str (X.env.qual++(zu 4)) t)/\Out X W (F q.f (as++cs)) i G2 w λp=>dm W G2 w p Q) I ?_) λus s1 ⟨u,H1,S,r,y⟩=>{S.kS,?_}) dR hpl
 .refine{R,G,env,sr,?_};cases e1:bf F e env with
  |bad=>rw [e1] at o;exact o|exc c=>rw [e1] at o;exact o|ok as=>
   rw [e1] at o;have o:Out X W ((mf env d).bind λcs=>F q.f (as++cs)) i G H _:=o
   cases K:mf env d with
   |bad=>rw [K] at o;exact o.elim|exc c=>exact absurd K (mZ c)|ok cs=>rw [K] at o;have o:Out X W (F q.f (as++cs)) i G H _:=o;intro u G1 H1 L l a body b f G2 w M lm;let(B,j,oc,m,t,z,A,m1,m2,m3,m4):=lm;exact{G2,as,cs,u,a,body,b,f,j,oc,m,t,z,A,rfl,j2 e1,(sr.grow L).grow B,M,rfl,ag.same B.g as l,m1,m2,m3,m4,(o.grow (L.trans B)).imp λp hp v G' H' g' rp=>hp v G' H' ((L.trans B).trans g') (.of rp)}
 .let(G2,as,cs,E,a,body,b,f,j,oc,m,t,z,A,rfl,O,gM,M,P,l,m1,m2,m3,m4,o2):=y;exact y8 C hl FO hb S gM M P l m1 m2 m3 m4 (by rw [c7,l.length,O,D,Y];rfl) r o2
def Ap(h:Rep W G p v):∀{ps:List PV} {vs:List V},ag W G ps vs->ag W G (ps++[p]) (vs++[v]):=by
 intro ps
 induction ps with
 |nil=>
  intro vs t;have:=t.length
  cases vs with
  |nil=>exact .cons h .nil|cons _ _=>cases this
 |cons q ps a=>intro vs t;let(u,r,rfl,b,t):=t.cx;exact .cons b (a t)
def uW:∀{ps:List PV} {vs:List V},ag W G ps vs->ag W G ps.reverse vs.reverse:=by
 intro ps
 induction ps with
 |nil=>
  intro vs t;have:=t.length
  cases vs with
  |nil=>exact .nil|cons _ _=>cases this
 |cons q ps a=>intro vs t;let(u,r,rfl,b,t):=t.cx;rw [List.reverse_cons,List.reverse_cons];exact Ap b (a t)
def Kb(C:zv3 X){a:E}{D st:ia}{M:Pos}(O:GE X W F a D)(hs:GE X W F (.neg (.cst (.int 1))) st):GE X W F (.rev a) (.Subscript D (.Slice hI hI (hG st) M) pos):=
 (LW (DX.or (DX.or Ml Mi) Mj) O hs).imp λI H Q h=>by
  let(P,G,env,sr,o):=h;rw [aE] at o;refine one sr o λp v G1 L g t R c=>{P,G1,env,R,?_};have e:aE F (.neg (.cst (.int 1))) env=.ok (.int (-1)):=by rw [aE,aE];rfl
  rw [e];intro S G2 i b t2;refine{t2.top.int,?_};have j:=t.grow b
  cases p with
  |str z=>
   by_cases hl:z.length<=cV
   .have d:Out X W (if z.length<=cV then Res.ok (PV.str (rO z)) else .bad) I G1 L _:=c;rw [if_pos hl] at d;exact .inr {z,j.top.str,iB hl,d _ G2 i (g.trans b) (.of .s)}
   .have d:Out X W (if z.length<=cV then Res.ok (PV.str (rO z)) else .bad) I G1 L _:=c;rw [if_neg hl] at d;exact d.elim
  |tup xs=>let(l,m,rfl,f,q):=j.top.tup b.sub;rw [C.K] at f;exact .inl (.inl {l,m,rfl,f,λp r=>dm.tup (W:=W) (G:=G2) (H:=i) (xs:=xs.reverse) (λw u y A B=>c w u y ((g.trans b).trans A) (.of B)) b.sub (uW q) r})|lst xs=>let(l,m,rfl,f,q):=j.top.lst b.sub;exact .inl (.inr {l,m,rfl,u9 C.K f,λp r=>dm.lst (W:=W) (G:=G2) (H:=i) (xs:=xs.reverse) (λw u y A B=>c w u y ((g.trans b).trans A) (.of B)) b.sub (uW q) r})|_=>exact e6 c
end
end Ci
namespace L2
open PySem.Spec PyProof.Rows
end L2
namespace Ci
open L2
theorem pZ{W:Wd}:∀{fs:List (Str×PV)} {vs:List V},fs.lookup f=hG q->ag W G (fs.map (·.2)) vs->∃v,((fs.map (·.1)).zip vs).lookup f=hG v/\Rep W G q v
 |[],_,h,_=>by cases h
 |(g,p)::fs,vs,h,l=>by
  let(v,r,rfl,b,c):=ag.cx (p:=p) (ps:=fs.map (·.2)) l;rw [hB] at h;show∃a,List.lookup f ((g,v)::((fs.map (·.1)).zip r))=hG a/\Rep W G q a
  rw [hB];cases e:f==g with
  |true=>rw [e] at h;cases h;exact⟨v,rfl,b⟩
  |false=>rw [e] at h;exact pZ h c
section
variable{Γ:Pg}{W:Wd}{F:aF}{sc:iv}
def J8(C:zv3 X){i:Nat}(h:(N[i]?==hG x&&dG sc x&&okN x)=hQ):GE X W F (.fld i f) (.Attribute (.Name x np) f pos):=by
 refine(LR (vO C h) rfl).imp λm H Q r=>?_;let(s,G,env,sr,o):=r
 have o:Out X W ((aE F (.var i) env).bind λp=>F (bW f) [p]) m G H λp=>∀v e d,aD W G H e d->Got W s e d (.fld i f) p v->Q v d:=by
  have t:aE F (.var i) env=gU env[i]?:=by unfold aE;rfl
  rw [t];unfold aE at o;exact o
 refine one sr o λp v G1 u w y A c=>?_;have B:F (bW f) [p]≠.bad:=λz=>by rw [z] at c;exact c
 let(n,ob,q,rfl,e1,D,E,I,K):=C.fld f p B;rw [E] at c;have g:=y.rep rfl;simp! [Rep] at g;let(P,b,rfl):=g;rw [e1] at b;cases b;let(_,R,L,l):=A.tab.o n ob e1;let(j,M,O):=pZ D l;exact{ob.a,ob.C,ob.dx,_,j,rfl,L,I,K,M,c j G1 u w (.of O)}
set_option backward.match.sparseCases false
def Kv{e:E}{p:ia}(h:GE X W F e p)(he:∀a,isTrue p X.env a=(do let v<-a;standAt p.pos;holding [v] (truthy v))):GT X W F e p:=
 L2.PT.imp (L8 h he) λb H Q c=>IP b H Q c
theorem Bv{sc:iv}:∀{a:Es} {ps:List ia},eF Γ N sc a ps=hQ->∀env pos,(backTo pos (starEach ps env)).all (λx=>!x.1)=hQ
 |.nil,[],_,_,_=>rfl|.cons e a,p::ps,h,env,pos=>by replace h:=aj h;rw [notStar h.1];show(hQ&&(backTo pos (starEach ps env)).all (λx=>!x.1))=hQ;rw [Bv h.2];rfl|.nil,_::_,h,_,_=>aN h|.cons _ _,[],h,_,_=>aN h
theorem Ca{sc:iv}:∀{a:Es} {ps:List ia},eF Γ N sc a ps=hQ->ps.length=gQ a
 |.nil,[],_=>rfl|.cons e a,p::ps,h=>by replace h:=aj h;rw [cS,Ca h.2];rfl|.nil,_::_,h=>aN h|.cons _ _,[],h=>aN h
structure Uq(X:Cx)(W:Wd)(F:aF)(e:E)(p:ia):Prop where
 ge:GE X W F e p
 gt:f9 e=hQ->GT X W F e p
 gw:f9 e=hQ->∀op vs pos,p=.BoolOp op vs pos->GW X W F e p
def bp{e:E}{p:ia}(h:GE X W F e p)(he:∀a,isTrue p X.env a=(do let v<-a;standAt p.pos;holding [v] (truthy v)))(b:∀op vs pos,p≠.BoolOp op vs pos):Uq X W F e p:=
 {h,λZ=>Kv h he,λZ op vs pos e=>absurd e (b op vs pos)}
def isTrue_plain{p:ia}{env:Env}(h:(match p with|.UnaryOp .Not _ _=>hU|.BoolOp .. =>hU|.IfExp .. =>hU|.Compare .. =>hU|_=>hQ)=hQ):∀b,isTrue p env b=(do let v<-b;standAt p.pos;holding [v] (truthy v)):=by
 intro b;cases p with
 |UnaryOp op a pos=>cases op<;>first|rfl|(exact aN h)
 |BoolOp _ _ _=>exact aN h|IfExp _ _ _ _=>exact aN h|Compare _ _ _ _=>exact aN h|_=>rfl
def vG{po:ia}{env:Env}(h:rG po=hQ):attributeBase po m env (eval po env)=eval po env:=by
 cases po<;>first|rfl|(exact aN h)
theorem lY{sc:iv}{b:List Nat}:∀{a:Es} {ps:List ia},xm Γ N sc g idx b a ps=hQ->∀env pos,(backTo pos (starEach ps env)).any (·.1)=hU
 |.cons e a,p::ps,h,env,pos=>by replace h:=aj h;rw [notStar h.1];show(hU||(backTo pos (starEach ps env)).any (·.1))=hU;rw [lY h.2];rfl
 |.nil,ps,h,env,pos=>by let(p,e1,h):=ah h;let(l,c,_):=ah h;rw [d5 e1];let(_,rfl):=rB c;rfl|.cons _ _,[],h,_,_=>aN h
def JC{c:Const}(h:NR q c=hQ):GE X W F (.cst q) (.Constant c kk pos):=by
 cases q with
 |aL=>cases Ln h;exact d7 LU λG=>.n
 |bl b=>let(x,e,h):=ah h;cases Jq e;cases eq_of_beq h;exact d7 O2 λG=>.b
 |int i=>let(x,e,h):=ah h;cases v3 e;cases eq_of_beq h;exact d7 rH λG=>.i
 |str z=>let(x,e,h):=ah h;cases DE e;cases eq_of_beq h;exact d7 rJ λG=>.s
 |_=>exact aN h
def Cf{b:Type}{r:Res b}{c:b->Prop} [∀a,Decidable (c a)]{f:b->Res (List PV)}(e:(r.bind λa=>if c a then(f a).bind λys=>.ok (.lst ys) else .bad)=.ok q):∃ys,q=.lst ys:=by
 let(d,_,e):=Res.aJ e;split at e
 .let(ys,_,e):=Res.aJ e;cases e;exact{_,rfl}
 .cases e
def xu{b:List Nat}{c:Tg}{a:E}(env:Sl)(q:PV)(e:aE F (.comp kk b c it a) env=.ok q):∃ys,q=.lst ys:=by rw [aE] at e;exact Cf e
def pO{b:List Nat}{d:Tg}{c a:E}(env:Sl)(q:PV)(e:aE F (.dN kk b d it c a) env=.ok q):∃ys,q=.lst ys:=by rw [aE] at e;exact Cf e
mutual
theorem br:∀(e:E) {Γ:Pg} {N:List Str} {sc:iv} {X:Cx} (C:zv3 X) (p:ia),aV Γ N sc e p=hQ->Uq X W F e p
 |.var i,Γ,N,sc,X,C,p,h=>by let(x,_,rfl,A):=QA h;clear h;have h:=A;clear A;exact bp (vO C h) (λ_=>rfl) nofun|.fY i,Γ,N,sc,X,C,p,h=>by let(x,_,rfl,A):=QA h;clear h;have h:=A;clear A;exact bp (Kd C h) (λ_=>rfl) nofun|.cst q,Γ,N,sc,X,C,p,h=>by let(c,_,_,rfl,A):=UG h;clear h;have h:=A;clear A;refine bp (JC h) (λ_=>rfl) nofun|.glob g q,Γ,N,sc,X,C,p,h=>by let(x,_,rfl,A):=QA h;clear h;have h:=A;clear A;exact bp (EY C h) (λ_=>rfl) nofun|.call f as,Γ,N,sc,X,C,p,h=>by
  let(g,args,_,_,rfl,A):=DY h;clear h;have h:=A;clear A;replace h:=aj h
  try simp! [zza,zzy] at h
  let(((((rfl,d),j),u),I),y):=h;have ga:=i7 as C args y
  cases as with
  |nil=>
   cases args with
   |nil=>exact bp (BC C d j u) (λ_=>rfl) nofun|cons _ _=>exact aN y
  |cons e es=>
   cases args with
   |nil=>exact aN y|cons q qs=>have L:=aj y;exact bp (EX C d j u I ga (notStar L.1 _ _) (dk L.2 _ _)) (λ_=>rfl) nofun
 |.lC i as,Γ,N,sc,X,C,p,h=>by
  let(g,args,_,_,rfl,A):=DY h;clear h;have h:=A;clear A;replace h:=aj h;simp! [zza] at h;let((((d,j),u),I),y):=h;have ga:=i7 as C args y
  cases as with
  |nil=>
   cases args with
   |nil=>exact bp (zG C (by rw [d,j,u];rfl)) (λ_=>rfl) nofun|cons _ _=>exact aN y
  |cons e es=>
   cases args with
   |nil=>exact aN y|cons q qs=>have L:=aj y;exact bp (BD C (by rw [d,j,u];rfl) I ga (notStar L.1 _ _) (dk L.2 _ _)) (λ_=>rfl) nofun
 |.sY f as g idx aM,Γ,N,sc,X,C,p,h=>by
  let(hN,args,_,_,rfl,A):=DY h;clear h;have h:=A;clear A;replace h:=aj h;simp! [zza,eQ,zzy] at h;let(((((d,j),u),I),q,Q,(((rfl,rfl),rfl),rfl),hd),y):=h;have Qr:=zzY hd;have ga:=IF as C d q.g q.idx aM args I y
  cases as with
  |nil=>have h7:((eR args).any _)=hQ:=y;let(pl,e7,h8):=gj h7;subst e7;let(l,e8,_):=ah h8;let(_,rfl):=rB e8;exact bp (uc C d Q j u Qr ga rfl rfl) (λ_=>rfl) nofun|cons e es=>
   cases args with
   |nil=>exact aN y|cons p qs=>have L:=aj y;exact bp (uc C d Q j u Qr ga (notStar L.1 _ _) (lY L.2 _ _)) (λ_=>rfl) nofun
 |.blt b as,Γ,N,sc,X,C,p,h=>by
  let(Q,h):=uJ h;let(g,args,_,_,rfl,A):=DY h;clear h;have h:=A;clear A;replace h:=aj h
  try simp! [zza,zzy] at h
  let((((rfl,d),j),u),y):=h;have ga:=i7 as C args y
  cases as with
  |nil=>exact aN u|cons e es=>
   cases args with
   |nil=>exact aN y|cons q qs=>have L:=aj y;exact bp (J6 C Q b d j ga (notStar L.1 _ _) (dk L.2 _ _)) (λ_=>rfl) nofun
 |.ty t a,Γ,N,sc,X,C,p,h=>by
  let(g,args,_,_,rfl,A):=DY h;clear h;have h:=A;clear A;let(D,O,B,j):=DO h;let(tn,_,K,u):=QA j;dsimp only at B K;subst B K;clear h j;have h:=u;clear u;replace h:=aj h
  try simp! [zza,zzy] at h
  let((((((rfl,d),j),rfl),u),I),y):=h;exact bp (N7 C d j u I (br a C D y).ge (notStar y)) (λ_=>rfl) nofun
 |.bin o a b,Γ,N,sc,X,C,p,h=>by let(q,e,d):=ah h;let(_,rfl):=Jo e;clear h;have h:=aj d;have H:=aj h.1;rw [<-zzY H.1];exact bp (J5 C (br a C _ H.2).ge (br b C _ h.2).ge) (λ_=>rfl) nofun|.cmp o a b,Γ,N,sc,X,C,p,h=>by let(D,ops,cs,_,rfl,d):=Qh h;let(op,B,j):=gj d;let(O,K,u):=gj j;dsimp only at B K;subst B K;clear h d j;have h:=u;clear u;replace h:=aj h;have H:=aj h.1;cases zzY H.1;have d:=H.2;have j:=h.2;exact{J7 C (br a C _ d).ge (br b C _ j).ge (rF j _),λ_=>Kt C (br a C _ d).ge (br b C _ j).ge (rF j _),(λ_ _ _ _ z=>nomatch z)}
 |.ch o1 o2 a b c,Γ,N,sc,X,C,p,h=>by
  let(D,ops,cs,_,rfl,d):=Qh h;let(op1,op2,B,j):=DO d;let(O,pc,K,u):=DO j;dsimp only at B K;subst B K;clear h d j;have h:=u;clear u;replace h:=aj h
  try simp! [zza,zzN] at h
  let((((rfl,rfl),d),j),u):=h;have hm:lastMarks [mr o1,mr o2] [O,pc]=hU:=rF u _;exact{N5 C (br a C _ d).ge (br b C _ j).ge (br c C _ u).ge hm,λ_=>N9 C (br a C _ d).ge (br b C _ j).ge (br c C _ u).ge hm,(λ_ _ _ _ z=>nomatch z)}
 |.not a,Γ,N,sc,X,C,p,h=>by let(o,D,_,rfl,d):=TQ h;clear h;have h:=aj d;cases BX h.1;have s:=br a C D h.2;exact{Ka s.ge,λz=>Ku (s.gt (by simpa only [f9] using z)),(λ_ _ _ _ z=>nomatch z)}
 |.fld i f,Γ,N,sc,X,C,p,h=>by let((o,m,ap),e1,d):=ah h;let(x,T,j):=ah d;let(np,z):=bT T;dsimp only at z j;subst z;have e3:=qG e1;dsimp only at e3;subst e3;rw [Bool.and_assoc,Bool.and_assoc,zza,zzy] at j;let(rfl,u):=j;exact bp (J8 C (by rw [Bool.and_assoc];exact u)) (λ_=>rfl) nofun|.neg a,Γ,N,sc,X,C,p,h=>by let(o,D,_,rfl,d):=TQ h;clear h;have h:=aj d;cases uq h.1;exact bp (BE (br a C D h.2).ge) (λ_=>rfl) nofun
 |.and a b,Γ,N,sc,X,C,p,h=>by
  let(o,vs,M,rfl,d):=Rq h;let((D,O),T,j):=ah d;clear h d;have h:=aj j;clear j
  try simp! [zza] at h
  let(((H,U),d),j):=h;cases BW H;have sa:=br a C D d;have P:=br b C O j
  rcases Bd T with z|⟨q,c,r,z,B⟩
  .dsimp only at z;subst z;have gw:f9 (.and a b)=hQ->GW X W F (.and a b) (.BoolOp .And [D,O] M):=λz=>by
    have z:=aj z;exact BP (sa.gt z.1) (pw_and1 (P.gt z.2))
   exact{BB U sa.ge (CT P.ge),λz=>(gw z).pt,λz _ _ _ _=>gw z}
  .dsimp only at z B;subst z B;have gw:f9 (.and a b)=hQ->GW X W F (.and a b) (.BoolOp .And (D::q::c::r) M):=λz=>by
    have z:=aj z;exact BP (sa.gt z.1) (P.gw z.2 _ _ _ rfl)
   exact{BB U sa.ge P.ge,λz=>(gw z).pt,λz _ _ _ _=>gw z}
 |.or a b,Γ,N,sc,X,C,p,h=>by
  let(o,vs,M,rfl,d):=Rq h;let((D,O),T,j):=ah d;clear h d;have h:=aj j;clear j
  try simp! [zza] at h
  let(((H,U),d),j):=h;cases xZ H;have sa:=br a C D d;have P:=br b C O j
  rcases Bd T with z|⟨q,c,r,z,B⟩
  .dsimp only at z;subst z;have gw:f9 (.or a b)=hQ->GW X W F (.or a b) (.BoolOp .Or [D,O] M):=λz=>by
    have z:=aj z;exact Ie (sa.gt z.1) (pw_or1 (P.gt z.2))
   exact{Ic U sa.ge (CT P.ge),λz=>(gw z).pt,λz _ _ _ _=>gw z}
  .dsimp only at z B;subst z B;have gw:f9 (.or a b)=hQ->GW X W F (.or a b) (.BoolOp .Or (D::q::c::r) M):=λz=>by
    have z:=aj z;exact Ie (sa.gt z.1) (P.gw z.2 _ _ _ rfl)
   exact{Ic U sa.ge P.ge,λz=>(gw z).pt,λz _ _ _ _=>gw z}
 |.ite c a b,Γ,N,sc,X,C,p,h=>by
  let(q,e,d):=ah h;let(_,rfl):=KY e;clear h;have h:=aj d;clear d
  try simp! [zza] at h
  let(((((H,d),j),u),I),y):=h;exact{J9 d j ((br c C _ u).gt H) (br a C _ I).ge (br b C _ y).ge,nofun,(λ_ _ _ _ z=>nomatch z)}
 |.tup as,Γ,N,sc,X,C,p,h=>by let(ps,e,d):=ah h;let(_,_,rfl):=se e;clear h;have h:=aj d;have H:=aj h.1;exact bp (vN H.1 (zzY H.2) (i7 as C _ h.2)) (λ_=>rfl) nofun|.lst as,Γ,N,sc,X,C,p,h=>by let(ps,e,d):=ah h;let(_,rfl):=Cb e;clear h;have h:=aj d;have H:=aj h.1;exact bp ((BH H.1 (zzY H.2) (i7 as C _ h.2)).ge lst_is) (λ_=>rfl) nofun|.sub a b,Γ,N,sc,X,C,p,h=>by let(D,O,_,rfl,A):=Tv h;clear h;have h:=A;clear A;replace h:=aj h;exact bp (Kc C (br a C _ h.1).ge (br b C _ h.2).ge (C9 h.2)) (λ_=>rfl) nofun|.rev a,Γ,N,sc,X,C,p,h=>by let(D,ps,_,rfl,d):=Tv h;let(pl,ph,pst,_,B,j):=VB d;let(st,K,u):=ah j;let(uo,ue,_,z4,I):=TQ u;let(cc,_,_,z5,y):=UG I;clear h d j u I;have h:=aj y;clear y;simp! [zza] at h;let((((y1,y2),y3),y4),y5):=h;have w1:=Lp y1;have w2:=Lp y2;have w3:=uq y3;have w4:=v3 (eq_of_beq y4);dsimp only at B K z4 z5 w1 w2 w3 w4;subst B K z4 z5 w1 w2 w3 w4;exact bp (Kb C (br a C D y5).ge (BE (d7 rH λG=>.i))) (λ_=>rfl) nofun|.slice a lo hi,Γ,N,sc,X,C,p,h=>by let(D,ps,_,rfl,d):=Tv h;let(pl,ph,pst,_,B,j):=VB d;clear h d;have h:=aj j;simp! [zza] at h;have w:=Lp h.1.1.1;dsimp only at B w;subst B w;exact bp (BF C (br a C _ h.1.1.2).ge (Pj lo C pl h.1.2) (Pj hi C ph h.2)) (λ_=>rfl) nofun|.comp kk aM tg it elt,Γ,N,sc,X,C,p,h=>by let(Q,h):=uJ h;let(dh,V,R,_,rfl,d):=M8 h;let((bX,d9,ifs,asy),B,j):=gj d;have u:=aj j;have K:=wc u.1;dsimp only at B K;subst B K;clear h d j;have h:=aj u.2;clear u;simp! [zza] at h;let((((((d,j),u),I),y),L),S):=h;have S:=zzY S;subst S;exact bp ((xN C Q (fZ d) j u (uZ it C bX d9 I) (fG I _) y λY Z=>(br elt Z dh L).ge).ge xu) (λ_=>rfl) nofun|.dN kk aM tg it c elt,Γ,N,sc,X,C,p,h=>by let(Q,h):=uJ h;let(dh,V,R,_,rfl,d):=M8 h;let((bX,d9,ifs,asy),B,j):=gj d;let(pc,K,u):=gj j;dsimp only at B K;subst B K;clear h d j;have h:=aj u;clear u;simp! [zza] at h;let((((((((H,d),j),u),I),y),L),h7),S):=h;have S:=zzY S;subst S;exact bp ((qb C Q (fZ d) j u (uZ it C bX d9 I) (fG I _) y (λY Z=>(br c Z pc L).gt H) λY Z=>(br elt Z dh h7).ge).ge pO) (λ_=>rfl) nofun
theorem i7:∀(a:Es) {Γ:Pg} {N:List Str} {sc:iv} {X:Cx} (C:zv3 X) (ps:List ia),eF Γ N sc a ps=hQ->GA X W F a ps
 |.nil,Γ,N,sc,X,C,ps,h=>by
  cases ps with
  |nil=>exact ra|cons _ _=>exact aN h
 |.cons e a,Γ,N,sc,X,C,ps,h=>by
  cases ps with
  |nil=>exact aN h|cons p ps=>replace h:=aj h;exact j4 (br e C p h.1).ge (i7 a C ps h.2) (notStar h.1 _ _)
theorem IF:∀(a:Es) {Γ:Pg} {N:List Str} {sc:iv} {X:Cx} (C:zv3 X) (hl:Γ.hl=hQ) (g:Str) (idx b:List Nat) (ps:List ia),eO a=hQ->xm Γ N sc g idx b a ps=hQ->PA X ps (Pw X W F N sc g idx b a)
 |.nil,Γ,N,sc,X,C,hl,g,idx,b,ps,he,h=>by let(p,e1,h):=ah h;let(l,d,h):=ah h;rw [d5 e1];let(_,rfl):=rB d;replace h:=aj h;have c:=aj h.1;exact Gq C hl {c.1,zzY c.2,λy f=>zzY (ed.mp h.2 y f)}|.cons e a,Γ,N,sc,X,C,hl,g,idx,b,ps,he,h=>by
  cases ps with
  |nil=>exact aN h|cons p ps=>replace h:=aj h;have i:=aj (show(gA e&&eO a)=hQ from he);exact CM he (br e C p h.1).ge (IF a C hl g idx b ps i.2 h.2) (notStar h.1 _ _)
theorem Pj:∀(o:Oe) {Γ:Pg} {N:List Str} {sc:iv} {X:Cx} (C:zv3 X) (p:Option ia),Jw Γ N sc o p=hQ->PO X p (DK X W F o)
 |.no,Γ,N,sc,X,C,p,h=>by
  cases p with
  |none=>exact E2|some _=>exact aN h
 |.some e,Γ,N,sc,X,C,p,h=>by
  cases p with
  |none=>exact aN h|some p=>exact E3 (br e C p h).ge
theorem uZ:∀(it:I) {Γ:Pg} {N:List Str} {sc:iv} {X:Cx} (C:zv3 X) (j p:ia),m5 Γ N sc j it p=hQ->GI X W F j it p
 |.seq e,Γ,N,sc,X,C,j,p,h=>by exact Kf C (br e C p h).ge|.mv e,Γ,N,sc,X,C,j,p,h=>by let(g,args,_,_,rfl,d):=DY h;clear h;have h:=d;clear d;let(q,f,c):=gj h;dsimp only at f;subst f;clear h;have h:=aj c;clear c;simp! [zza] at h;let(((e1,m),c),i):=h;cases zzy.mp e1;exact Ke C m c (notStar i) (br e C q i).ge
 |.rP a b,Γ,N,sc,X,C,j,p,h=>by let(g,args,_,_,rfl,d):=DY h;clear h;have h:=d;clear d;let(q,r,f,c):=DO h;dsimp only at f;subst f;clear h;have h:=aj c;clear c;simp! [zza] at h;let((((e1,m),c),i),o):=h;cases zzy.mp e1;exact E0 C m c (notStar i) (notStar o) (br a C q i).ge (br b C r o).ge
 |.enum e,Γ,N,sc,X,C,j,p,h=>by
  let(g,args,_,_,rfl,d):=DY h;clear h;have h:=d;clear d;let(q,f,c):=gj h;dsimp only at f;subst f;clear h;have h:=aj c;clear c;simp! [zza] at h;let((((s,e1),m),c),i):=h;cases zzy.mp e1;cases j<;>first|(exact aN s)|skip
  exact EZ C m c (notStar i) (br e C q i).ge
end
set_option backward.match.sparseCases true
end
end Ci
namespace L2
open PySem.Spec PyProof.Rows
section
variable{scope:iv}{xs ys:List Str}{is:List Nat}
theorem nV{d:Nat}{a:Str}{f G:Pos}{i u c:ia}{K:TI}{g:TG}(k:X.N.Nodup)(p:X.N[d]?=hG a)(r:Loc X.env.scope a)(R:X.calm=hQ)(S:fK X scope xs ys is)(T:PI X u c K)
 (U:∀fp y B C,PG (bP X (xs++ys) scope (bG X.env ys) fp y B C) u g) (he:∀fp y B C,PE (bP X (xs++ys) scope (bG X.env ys) fp y B C) i te)
 (V:swapsWith (.ListComp i [{u,c,[],0}] scope pos) (hG (.Name a f)) G.line X.env=pure hQ:=by rfl)
 (hs:∀x,foldedSetIterable c X.env x=pure x:=by intro _;rfl) (t:X.fn a=hQ\/X.env.scope.names.lookup a=hG .local:=by first|exact .inl rfl|exact .inr rfl|assumption):
 PS X (.Assign [.Name a f] (.ListComp i [{u,c,[],0}] scope pos) G) (Hk (yL K xs.length g te is) (ir d)):=by
 intro W s Y H j I h;rw [exec_Assign_Name_used _ _ _ _ V];refine ak (wpAny_standAt (ak ?_));show ie _ X.A (do let _<-comprehension (.ListComp i [⟨u,c,[],0⟩] scope pos) scope X.env _ (newList []) hU (eval c X.env) (hG (assign (.Name a f) X.env))) _ _ s;refine ak (wpAny_mono (iL (QQ:=λ_ L=>∃w M,Inv X W w M L/\j.nx w M) (Q:=λv O=>ir d v Y O j.nx) R S T U (λ_ _ _ _=>yn) he hs I h λD C s4 O m Z hn ⟨g0,g1,_,g3,P,g5⟩ q=>?_) (λ_ L hq=>bc (bc hq)) λ_ _ e=>e)
 refine wpAny_assign_Name (lx Z k p r (show RelV (.ref D) (.ref D) from rfl) (λs6 I6 ⟨a6,E,F⟩=>?_) t);have Cq:C≠a6:=by
  rcases F with z|z
  .rw [z];exact g1
  .exact λz2=>P _ _ z z2.symm
 exact{m,hn.sameBut E Cq,λh' zP=>{_,_,I6.turned (t':=s6.toks) (it:=C) (λb o hb e=>zP.extBut b o hb e) g0 g1 g3 P g5,q}}
end
end L2
namespace Ci
open L2
section
variable{W:Wd}{G0:Hp}
def Own.IS(h:Own W H0 G H p v):∃a o,v=.ref a/\H a=hG o/\G a=hI/\H0 a=hI/\((∀b,ax G b->b a=hG o->Rep W b p (.ref a))\/∃g,o=.dT g/\∀ob b,ax G b->b a=hG (.bw ob (.dT g))->Rep W b p (.ref a)):=by
 cases p with
 |lst xs=>let(a,k,rfl,c,d,f,l):=h;exact{a,_,rfl,c,d,f,.inl λb s e=>.l (.inl (.inl e)) (ag.same s xs l)}|bE ks i=>let(a,j,rfl,n,c,d,f,l):=h;exact{a,_,rfl,c,d,f,.inr {_,rfl,λob b s e=>by simp! [Rep];exact{a,ob,j,rfl,n,e,ag.same s i l}}}|aL=>exact h.elim|bl _=>exact h.elim|int _=>exact h.elim|str _=>exact h.elim|tup _=>exact h.elim|exc _=>exact h.elim|obj _=>exact h.elim
theorem Own.Cy(h:Own W H0 G H p (.ref a))(u:HO)(k:Eh u):H a≠hG u:=λz=>by
 cases p with
 |lst xs=>let(b,d,e,c,_):=h;cases e;rw [z] at c;cases c;exact k
 |bE ks qs=>let(b,f,e,_,c,_):=h;cases e;rw [z] at c;cases c;exact k
 |_=>exact h.elim
theorem Own.OQ{b:h9}{f:List (Key×V)}(h:Own W H0 G H p (.ref a))(d:H b=hG (.dK f)):b≠a:=λz=>by
 subst z;cases p with
 |lst xs=>let(b,g,e,c,_):=h;cases e;rw [d] at c;cases c
 |bE ks qs=>let(b,i,e,_,c,_):=h;cases e;rw [d] at c;cases c
 |aL=>exact h.elim|bl _=>exact h.elim|int _=>exact h.elim|str _=>exact h.elim|tup _=>exact h.elim|exc _=>exact h.elim|obj _=>exact h.elim
theorem vf{ob:HO}(t:md W G H)(f:G a=hI)(n:∀u,Eh u->H a≠hG u)(g:∀b,b≠a->H' b=H b):md W (upd G a ob) H':=λP q m=>by
 let(h,i,e,j,k):=t P q m;have d:P≠a:=λz=>by subst z;exact n (.hJ _) trivial e
 refine{by rw [af d];exact h,i,by rw [g P d];exact e,j,λc o y=>?_};let(p,oc,r,s,e1,w,A,B):=k c o y;exact{p,oc,r,s,e1,cj f _ _ w,A,B}
theorem yN{ob:HO}(t:bH W G H)(c:G a=hI)(n:∀u,Eh u->H a≠hG u)(d:∀b,b≠a->H' b=H b):bH W (upd G a ob) H':={vf t.t c n d,λi o m=>by
 let(g,h,e,l):=t.o i o m;have f:o.a≠a:=λz=>by rw [z] at e;exact n (.ins _ _ _) trivial e
 exact{by rw [af f];exact g,h,by rw [d _ f];exact e,ag.same (cj c) _ l}}
def Own.fU{d:Hp}(h:Own W H0 G H p v)(i:v≠.ref a)(j:ax G d)(k:∀b,b≠a->d b=G b)(m:∀b,b≠a->H' b=H b):Own W H0 d H' p v:=by
 cases p with
 |lst xs=>let(b,o,rfl,e,f,g,l):=h;have c:b≠a:=λz=>i (by rw [z]);exact{b,o,rfl,by rw [m b c];exact e,by rw [k b c];exact f,g,ag.same j xs l}|bE ks q=>let(b,r,rfl,n,e,f,g,l):=h;have c:b≠a:=λz=>i (by rw [z]);exact{b,r,rfl,n,by rw [m b c];exact e,by rw [k b c];exact f,g,ag.same j q l}|aL=>exact h.elim|bl _=>exact h.elim|int _=>exact h.elim|str _=>exact h.elim|tup _=>exact h.elim|exc _=>exact h.elim|obj _=>exact h.elim
def getElem?_modify{a:Type}(l:List a)(i j:Nat)(f:a->a):(l.modify i f)[j]?=if i=j then(l[j]?).map f else l[j]?:=by rw [List.getElem?_modify];split<;>simp_all
def tZ(r:SR W H0 env σ G H)(g:aD W G0 H0 G H){i:Nat}{a:h9}{ob f:HO}(C:env[i]?=hG (.own p))(I:σ[i]?=hG (hG (.ref a)))(D:Own W H0 G H p (.ref a))(hH:H a=hG ob)(y:G a=hI)(A:H0 a=hI)
 (O:∀E,ax G E->E a=hG f->Rep W E p (.ref a)) (P:H' a=hG f) (m:∀b,b≠a->H' b=H b):SR W H0 (env.modify i oM) σ (upd G a f) H'/\aD W G0 H0 (upd G a f) H':=by
 have o:ax G (upd G a f):=cj y
 have sub:ax (upd G a f) H':=λb u e=>by
  by_cases d:b=a
  .subst d;rw [aq] at e;cases e;exact P
  .rw [af d] at e;rw [m b d];exact r.sub _ _ e
 have base:∀{B:Hp},B a=hI->ib B H->ib B H':=λQ k b u e=>by
  have d:b≠a:=λz=>by rw [z,Q] at e;cases e
  rw [m b d];exact k b u e
 refine{{by rw [List.length_modify];exact r.len,sub,base A r.base,λj s e=>?_,λj l q R c e1 K S T=>?_,yN r.tab y D.Cy m,yN r.iX y (λu _ z=>by rw [A] at z;cases z) λ_ _=>rfl},{g.g.trans o,base A g.h,sub,λb L U V=>?_,λt=>vf (g.tb t) y D.Cy m}}
 .rw [getElem?_modify] at e;split at e
  .rename_i z;subst z;rw [C] at e;cases e;exact{_,I,_,rfl,O _ o aq}
  .rename_i z;let(X,M,k2):=r.slot j s e
   refine{X,M,?_};cases s with
   |no=>exact trivial|val q=>let(w,rfl,F):=k2;exact{w,rfl,Rep.same o q F}|fn _ _ _=>let(w,rfl,F):=k2;exact{w,rfl,F.same o}|DZ aw=>let(b,e1,N,Y,Z,n):=k2;have d:=D.OQ N;exact{b,e1,by rw [m b d];exact N,by rw [af d];exact Y,Z,n}|own q=>let(w,rfl,ov):=k2;refine{w,rfl,ov.fU (a:=a) (λzz=>?_) o (λb d=>af d) m};subst zz;exact z (r.apart i j p q a C e I M)
 .rw [getElem?_modify] at e1 K;have ne:∀{j:Nat} {q:PV},(if i=j then(env[j]?).map oM else env[j]?)=hG (.own q)->i≠j/\env[j]?=hG (.own q):=λ{j q} e=>by
   split at e
   .rename_i z;subst z;rw [C] at e;cases e
   .rename_i z;exact⟨z,e⟩
  exact r.apart j l q R c (ne e1).2 (ne K).2 S T
 .have d:b≠a:=λz=>L (by rw [z];exact A);rw [af d];exact g.own b L U V
def Bz(r:SR W H0 env σ G H)(g:aD W G0 H0 G H)(i:Nat):(∃c,SR W H0 (env.modify i oM) σ c H/\aD W G0 H0 c H)\/∃a d,H a=hG (.dT d)/\∀o,∃c,SR W H0 (env.modify i oM) σ c (upd H a (.bw o (.dT d)))/\aD W G0 H0 c (upd H a (.bw o (.dT d))):=by
 have same:(∀p,env[i]?≠hG (.own p))->env.modify i oM=env:=λh=>by
  refine List.ext_getElem? λj=>?_;rw [getElem?_modify];split
  .rename_i e;subst e;cases q:env[i]? with
   |none=>rfl|some s=>
    cases s with
    |own p=>exact absurd q (h p)|no=>rfl|val p=>rfl|fn _ _ _=>rfl|DZ _=>rfl
  .rfl
 by_cases u:∃p,env[i]?=hG (.own p)
 .let(p,k):=u;let(o,w,v,rfl,y):=r.slot i _ k;have A:=y;obtain⟨a,ob,rfl,f,B,C,m|⟨d,rfl,m⟩⟩:=y.IS
  .let(t,k2):=tZ r g k w A f B C m f λZ Z=>rfl;exact .inl {_,t,k2}
  .refine .inr {a,d,f,λo=>?_};let(t,k2):=tZ r g k w A f B C (m o) aq λb D=>af D;exact{_,t,k2}
 .exact .inl {G,by rw [same λp z=>u ⟨p,z⟩];exact r,g}
def jk(r:SR W H0 env σ G H)(g:aD W G0 H0 G H){i:Nat}{p':PV}{a:h9}{ob:HO}(k:env[i]?=hG (.own p))(hs:σ[i]?=hG (hG (.ref a)))(E:G a=hI)(F:H0 a=hI)(L:Own W H0 G (upd H a ob) p' (.ref a)):
 SR W H0 (env.set i (.own p')) σ G (upd H a ob)/\aD W G0 H0 G (upd H a ob):=by
 have M:i<env.length:=(bV.mp k).1;have N:Own W H0 G H p (.ref a):=by let(y,d,A,rfl,B):=r.slot i _ k;rw [hs] at d;cases d;exact B
 have I:∀u,Eh u->H a≠hG u:=by let(y,d,A,rfl,B):=r.slot i _ k;rw [hs] at d;cases d;exact B.Cy
 have tab:∀{G1:Hp},bH W G1 H->bH W G1 (upd H a ob):=λt=>t.same (ax.refl _) (λZ Z Z h=>h) (mO I);refine{{by rw [List.length_set];exact r.len,λb u e=>?_,λb u e=>?_,λj s e=>?_,λj l q V c e1 O P Q=>?_,tab r.tab,r.iX},{g.g,λb u e=>?_,λb u e=>?_,g.own,λt=>(g.tb t).same (ax.refl _) (λZ Z Z h=>h) (mO I)}}
 .rw [af (λz=>by subst z;rw [E] at e;cases e)];exact r.sub _ _ e
 .rw [af (λz=>by subst z;rw [F] at e;cases e)];exact r.base _ _ e
 .by_cases f:i=j
  .subst f;rw [fi M] at e;cases e;exact{_,hs,_,rfl,L}
  .rw [ea f] at e;let(y,d,m):=r.slot j s e
   refine{y,d,?_};cases s with
   |no=>exact trivial|val q=>exact m|fn _ _ _=>exact m|DZ X=>let(b,e1,o,C,R,n):=m;have w:=N.OQ o;exact{b,e1,by rw [af w];exact o,C,R,n}|own q=>let(A,rfl,S):=m;refine{A,rfl,S.fU (a:=a) (λT=>?_) (ax.refl _) (λb w=>rfl) λb w=>af w};subst T;exact f (r.apart i j p q a k e hs d)
 .have K:∀{j:Nat} {q:PV},(env.set i (.own p'))[j]?=hG (.own q)->∃D,env[j]?=hG (.own D):=λ{j q} e=>by
   by_cases f:i=j
   .subst f;exact⟨p,k⟩
   .rw [ea f] at e;exact⟨q,e⟩
  let(D,o):=K e1;let(U,C):=K O;exact r.apart j l D U c o C P Q
 .rw [af (λz=>by subst z;rw [F] at e;cases e)];exact g.h _ _ e
 .rw [af (λz=>by subst z;rw [E] at e;cases e)];exact g.sub _ _ e
def CJ(r:SR W H0 env σ G H)(g:aD W G0 H0 G H){i:Nat}{ob:HO}(o:i<env.length)(u:H a=hI)(A:Own W H0 G (upd H a ob) p (.ref a)):
 SR W H0 (env.set i (.own p)) (σ.set i (hG (.ref a))) G (upd H a ob)/\aD W G0 H0 G (upd H a ob):=by
 have w:aD W G H G (upd H a ob):=.SK r.sub u;have k:=r.grow w;have m:∀{j:Nat} {q:PV},env[j]?=hG (.own q)->σ[j]?=hG (hG (.ref a))->False:=λ{j q} e1 f=>by let(y,t,E,rfl,B):=r.slot j _ e1;rw [f] at t;cases t;let(F,I,b,z,_):=B.IS;cases b;rw [u] at z;cases z
 refine{{by rw [List.length_set,List.length_set];exact r.len,k.sub,k.base,λj s e=>?_,λj l q C c e1 f b h=>?_,k.tab,k.iX},g.trans w}
 .by_cases d:i=j
  .subst d;rw [fi o] at e;cases e;exact{_,fi (by rw [<-r.len];exact o),_,rfl,A}
  .rw [ea d] at e;let(y,t,D):=k.slot j s e;exact{y,by rw [ea d];exact t,D}
 .by_cases d:i=j
  .by_cases hl:i=l
   .exact d.symm.trans hl
   .exfalso;subst d;rw [fi (by rw [<-r.len];exact o)] at b;rw [ea hl] at f h;cases b;exact m f h
  .by_cases hl:i=l
   .exfalso;subst hl;rw [fi (by rw [<-r.len];exact o)] at h;rw [ea d] at e1 b;cases h;exact m e1 b
   .rw [ea d] at e1 b;rw [ea hl] at f h;exact r.apart j l q C c e1 f b h
end
abbrev j8:E->Bool
 |.lst _=>hQ|.comp _ _ _ _ _=>hQ|.dN _ _ _ _ _ _=>hQ|_=>hU
abbrev gG:ia->Bool
 |.ListComp .. =>hU|.SetComp .. =>hU|.DictComp .. =>hU|_=>hQ
abbrev QJ(sc:iv)(x:Str)(a:Pos):ia->Bool
 |.ListComp _ _ s p=>sc.names.lookup x==hG .local&&a.line==p.line&&!(s.names.any λ(n,k)=>n==x&&(k==.local||k==.cell))
 |_=>hU
abbrev Ll(ts:List ia):Option Str:=(eR ts).bind fB
abbrev M9(e:ia):Option (Str×Str×List ia):=(HM e).bind λq=>(Jl q.1).bind λr=>(fB r.1).bind λx=>if(q.2.2.1.isEmpty&&r.2.2.endLine==q.2.2.2.line)=hQ then hG (x,r.2.1,q.2.1) else hI
abbrev Vj(e:ia):Option (Str×jm×ia×iv):=(HM e).bind λq=>(fB q.1).bind λf=>(eR q.2.1).bind λa=>(fB a).bind λx=>(M7 q.2.2.1).bind λr=>(SE r.2).bind λl=>if(f=="min"&&r.1=="key")=hQ then hG (x,l.1,l.2.1,l.2.2) else hI
def Lh{c:Str×jm×ia×iv}(h:Vj e=hG c):∃s t u w y,e=.Call (.Name "min" s) [.Name c.1 t] [{hG "key",.Lambda c.2.1 c.2.2.1 c.2.2.2 u,w}] y:=by let((f,a,k,p),z,h):=oA h;let(g,A,h):=oA h;let(b,B,h):=oA h;let(x,C,h):=oA h;let((n,v),D,h):=oA h;let((F,G,H),E,h):=oA h;let(d,rfl):=if1 h;rw [zza,zzy,zzy] at d;let(rfl,i):=d;let(I,j):=bT A;let(p4,m):=bT C;let(K,o):=Lc D;let(L,q):=rB E;have r:=d5 B;dsimp only at j r m o q i;subst j r m o q i;exact{_,_,_,_,_,kL z}
abbrev FC(x p:Str)(e:ia):Bool:=(IK e).any λq=>(IK q.1).any λr=>fB r.1==hG x&&fB r.2==hG p&&(MQ q.2).bind Qw==hG 0
abbrev x8(x:Str)(b:jm)(body:ia)(a:iv):Bool:=match qF b with
 |some [p]=>FC x p body&&decide (bo a=[x])&&QG [p] a&&okN p&&okN x|_=>hU
set_option tactic.hygienic true in
def B1{f:jm}{g:iv}(h:x8 x f body g=hQ):∃p,qF f=hG [p]/\vp p x f body g/\bo g=[x]/\okN x=hQ:=by
 unfold x8 at h;split at h
 .rename_i p e;simp! [zza,zzN] at h;let((((t,k),u),m),j):=h;refine{p,e,{?_,by rw [<-k];exact Dq u,(dC m).1,(dC m).2.1,(dC j).1,(dC j).2.1},k,j};let((a,b),e1,w):=ah t;let((c,d),y,i):=ah w;simp! [zza,zzy] at i;let(B,rfl):=sd e1;let(C,o):=sd y;let(D,q):=bT i.1.1;let(p4,r):=bT i.1.2;let(E,z,A):=oA i.2;let(F,G,s):=vJ z;cases v3 A;dsimp only at o q r s;subst q r s o;exact{_,_,_,_,_,_,rfl}
 .cases h
abbrev Tq(ts:List ia):Option (Str×ia):=(eR ts).bind λt=>(IK t).bind λq=>(fB q.1).bind λx=>hG (x,q.2)
abbrev Vz(o:Option ia):Option (Str×Str):=o.bind λe=>(HM e).bind λq=>(fB q.1).bind λx=>(eR q.2.1).bind λa=>(MQ a).bind λc=>(qp c).bind λz=>if q.2.2.1.isEmpty=hQ then hG (x,z) else hI
abbrev xg:je->Option (List ia×ia×Pos)
 |.Assign ts v p=>hG (ts,v,p)|_=>hI
def k7{ts:List ia}(h:Ll ts=hG x):∃a,ts=[.Name x a]:=by let(t,b,c):=oA h;let(p,rfl):=bT c;exact{p,d5 b}
def nK{p:ia}{args:List ia}(h:M9 p=hG (x,m,args)):∃np b d,p=.Call (.Attribute (.Name x np) m b) args [] d/\(b.endLine==d.line)=hQ:=by let((f,a,k,s),j,h):=oA h;let((o,t,u),q,h):=oA h;let(y,r,h):=oA h;let(c,h):=if1 h;cases h;rw [zza] at c;let(w,e):=bT r;have g:=qG q;have i:=List.isEmpty_iff.1 c.1;dsimp only at g e i;subst e g i;exact{_,_,_,kL j,c.2}
def Dp{ts:List ia}{c:ia}(h:Tq ts=hG (x,c)):∃np sp,ts=[.Subscript (.Name x np) c sp]:=by let(t,e,h):=oA h;let((a,b),f,h):=oA h;let(y,g,h):=oA h;cases h;let(j,d):=bT g;let(k,i):=sd f;dsimp only at d;subst d i;exact{_,_,d5 e}
def Mm{o:Option ia}(h:Vz o=hG (x,z)):∃np j i cp,o=hG (.Call (.Name x np) [.Constant (.str z) j i] [] cp):=by let(e,m,h):=oA h;let((f,a,k,cp),p,h):=oA h;let(y,q,h):=oA h;let(t,r,h):=oA h;let(c,s,h):=oA h;let(w,u,h):=oA h;let(A,h):=if1 h;cases h;let(D,b):=bT q;let(p4,E,B):=vJ s;have d:=d5 r;have C:=DE u;have g:=List.isEmpty_iff.1 A;dsimp only at b d g;subst b C B d g;exact{_,_,_,_,m.trans (congrArg hG (kL p))}
mutual
noncomputable def eN(Γ:Pg)(N:List Str)(sc:iv):S->je->Bool
 |.expr e,.Expr p _=>gG p&&aV Γ N sc e p|.set i e,.Assign ts p _=>(Ll ts).any λx=>N[i]?==hG x&&ft sc x&&gA e&&aV Γ N sc e p|.own i e,.Assign ts p _=>(Ll ts).any λx=>N[i]?==hG x&&ft sc x&&j8 e&&aV Γ N sc e p|.app i e,.Expr v _=>(M9 v).any λc=>N[i]?==hG c.1&&dG sc c.1&&okN c.1&&c.2.1==("append":Str)&&gA e&&(eR c.2.2).any λp=>aV Γ N sc e p|.qV i e,.Expr v _=>(M9 v).any λc=>N[i]?==hG c.1&&dG sc c.1&&okN c.1&&c.2.1==("extend":Str)&&(eR c.2.2).any λp=>aV Γ N sc e p|.put i kk e,.Assign ts p _=>(Tq ts).any λc=>N[i]?==hG c.1&&dG sc c.1&&okN c.1&&gA e&&aV Γ N sc kk c.2&&aV Γ N sc e p|.Dk i e,.Expr v _=>(M9 v).any λc=>(eR c.2.2).any λq=>N[i]?==hG c.1&&dG sc c.1&&okN c.1&&c.2.1==("remove":Str)&&aV Γ N sc e q|.iF j i e,.Assign ts v _=>(Ll ts).any λy=>(M9 v).any λc=>(eR c.2.2).any λq=>N[i]?==hG c.1&&dG sc c.1&&okN c.1&&c.2.1==("pop":Str)&&N[j]?==hG y&&ft sc y&&aV Γ N sc e q|.ret e,.Return (hG p) _=>gA e&&aV Γ N sc e p|.ite c a b,.If p k g _=>f9 c&&aV Γ N sc c p&&dM Γ N sc a k&&dM Γ N sc b g|.cL o it b,.For h r g f _=>f.isEmpty&&eZ N sc (λZ=>hQ) o h&&oH it&&m5 Γ N sc h it r&&dM Γ N sc b g|.IU c b,.While p g f _=>f.isEmpty&&f9 c&&aV Γ N sc c p&&dM Γ N sc b g|.raise c m,.Raise ex fr _=>fr.isNone&&(Vz ex).any λq=>c==q.1&&m==q.2&&Γ.rs.contains c&&jd sc c&&okN c|.ng i,.Assign ts (.Dict [] [] _) _=>(Ll ts).any λx=>N[i]?==hG x&&ft sc x|.fR i j n,.Assign ts v _=>(Tq ts).any λc=>(fB c.2).any λz=>N[i]?==hG c.1&&dG sc c.1&&okN c.1&&N[n]?==hG z&&dG sc z&&okN z&&(M9 v).any λd=>d.2.1==("pop":Str)&&(eR d.2.2).any λe=>(fB e).any λs=>z==s&&N[j]?==hG d.1&&dG sc d.1&&okN d.1|.oX m i,.Assign ts v _=>(Ll ts).any λy=>(Vj v).any λc=>N[m]?==hG y&&ft sc y&&N[i]?==hG c.1&&sc.names.lookup c.1==hG .cell&&jd sc "min"&&Γ.bs.contains "min"&&Γ.hl&&x8 c.1 c.2.1 c.2.2.1 c.2.2.2|_,_=>hU
noncomputable def dM(Γ:Pg)(N:List Str)(sc:iv):Ss->List je->Bool
 |.nil,[]=>hQ|.cons (.bw _) ss,ps=>dM Γ N sc ss ps|.cons s ss,p::ps=>eN Γ N sc s p&&dM Γ N sc ss ps|_,_=>hU
end
section
variable{Γ:Pg}{W:Wd}{F:aF}{sc:iv}{E:XK}
def SR.go{a:St}(r:SR W H0 env a G H):aD W G H0 G H:={ax.refl _,r.base,r.sub,λZ Z Z h=>h,λZ=>r.tab.t}
def aD.then{G1 f G2 c:Hp}(a:aD W G H0 G1 f)(b:aD W G1 H0 G2 c):aD W G H0 G2 c:={a.g.trans b.g,b.h,b.sub,λx d e i=>b.own x d e (a.own x d e i),λt=>b.tb (t.same a.g a.own λZ Z Z h=>h)}
def SR.on{c:St}{G1 a:Hp}(r:SR W H0 env c G H)(g:aD W G H G1 a):aD W G H0 G1 a:={g.g,r.base.trans g.h,g.sub,λx b d e=>g.own x (λz=>b (r.base.free z)) (r.base.iD b d) e,λZ=>g.tb r.tab.t}
def Dn(W:Wd)(H0 G:Hp)(D:Ends):Fl->Prop
 |.nx env=>∀b a H',SR W H0 env b a H'->aD W G H0 a H'->D.nx b H'|.bk env=>∀b a H',SR W H0 env b a H'->aD W G H0 a H'->D.bk b H'|.ct env=>∀b a H',SR W H0 env b a H'->aD W G H0 a H'->D.ct b H'|.rt p=>∀v a H',Rep W a p v->aD W G H0 a H'->D.rt v H'
def cK(W:Wd)(H0 G:Hp)(E:XK)(r:Res Fl)(D:Ends):Prop:=match r with
 |.ok f=>Dn W H0 G D f|.exc c=>∀a b d,XE W c G H0 a b d->E a b d|.bad=>False
def Dn.on{G1 e:Hp}{D:Ends}{f:Fl}(h:Dn W H0 G D f)(g:aD W G H0 G1 e):Dn W H0 G1 D f:=by
 cases f with
 |nx env=>exact λd a b r c=>h d a b r (g.then c)|bk env=>exact λd a b r c=>h d a b r (g.then c)|ct env=>exact λd a b r c=>h d a b r (g.then c)|rt p=>exact λv a b r c=>h v a b r (g.then c)
def cK.on{G1 b:Hp}{D:Ends}{r:Res Fl}(h:cK W H0 G E r D)(g:aD W G H0 G1 b):cK W H0 G1 E r D:=by
 cases r with
 |ok f=>exact Dn.on h g|exc c=>intro d e i x;let(C,a,j,e1,m,o,p,q):=x;exact h d e i {C,a,j,e1,m,o,p,g.then q}|bad=>exact h
abbrev tS(W:Wd)(F:aF)(H0:Hp)(E:XK)(s:S):TS:=λD a H=>∃G env,SR W H0 env a G H/\cK W H0 G E (dj F s env) D
abbrev VL(W:Wd)(F:aF)(H0:Hp)(E:XK)(a:Ss):TS:=λD b H=>∃G env,SR W H0 env b G H/\cK W H0 G E (bj F a env) D
noncomputable abbrev GS(X:Cx)(W:Wd)(F:aF)(H0:Hp)(E:XK)(s:S)(p:je):Prop:=PS X p (tS W F H0 E s)
noncomputable abbrev AX(X:Cx)(W:Wd)(F:aF)(H0:Hp)(E:XK)(s:Ss)(p:List je):Prop:=sy X p (VL W F H0 E s)
def _root_.L2.PS.imp{p:je}{t t':TS}(h:PS X p t)(i:∀D a H,t' D a H->t D a H):PS X p t':=λb s a H D I c=>h b s a H D I (i D a H c)
def _root_.L2.sy.imp{p:List je}{t t':TS}(h:sy X p t)(i:∀D a H,t' D a H->t D a H):sy X p t':=λb s a H D I c=>h b s a H D I (i D a H c)
structure er(Γ:Pg)(F:aF)(W:Wd)(N:List Str)(sc:iv)(k:Nat)(E:XK)(X:Cx):Prop where
 C:zv3 X
 fn:∀x,X.fn x=hQ
 own:PassesOwn (ik X.prog X.w) X.A X.env X.xe
 pass:Passes (dQ X.prog X.w) X E
 kind:sc.kind=.function
 Pr:X.stack=X.env::X.outer
 frame:X.env.frame=hG X.env.locals
 xs:∀c,Γ.rs.contains c=hQ->c∈W.xs
 rm:∀c,Γ.rs.contains c=hQ->∃C,X.mg c=hG (.ref C)
 rz:Γ.qt=hU->∀(c z:Str) (j:Nat) (np zp cp pos:Pos),Γ.rs.contains c=hQ->jd sc c=hQ->okN c=hQ->PS X (.Raise (hG (.Call (.Name c np) [.Constant (.str z) j zp] [] cp)) hI pos) (λ_ _ H=>∀C e,X.mg c=hG (.ref C)->H e=hI->E (.ref C) (hG e) H)
 Qj:Γ.cs.contains (zu 23)=hQ->∀c D,c∈W.xs->X.mg c=hG (.ref D)->∀T,X.mg (zu 23)=hG (.ref T)->PySem.W.exmOne X.K (.ref D) (.ref T)=hG hQ
theorem GK(S:zv1 X){c:Str}{i:St}{j:Hp}(g:aD W j H0 G H)(h:∀d m H',XE W c j H0 d m H'->E d m H'):sQ X W i c G H:=λp G1 q r e s I u x=>S.pass p i q r e s I (AW.imp x λd a H' y=>h d a H' (by let(C,w,A,e1,B,D,K,L):=y;have b:=u.trans L;exact{C,w,A,e1,B,D,K,g.g.trans b.g,g.h.trans b.h,b.sub,λx f o M=>b.own x (λz=>f (g.h.free z)) (g.h.iD f o) (g.own x f o M),λt=>b.tb (g.tb t)}))
def cK.bind{b:Type}(S:zv1 X){r:Res b}{f:b->Res Fl}{D:Ends}{d:St}(sr:SR W H0 env d G H)(h:cK W H0 G E (r.bind f) D):Out X W r d G H λa=>cK W H0 G E (f a) D:=by
 cases r with
 |ok a=>exact h|exc c=>exact GK S sr.go h|bad=>exact h
def oY(S:zv1 X){b:St}{e:Ci.E}{f:PV->Res Fl}{D:Ends}(sr:SR W H0 env b G H)(o:cK W H0 G E ((aE F e env).bind f) D)
 (h:∀p v G1 a,aD W G H G1 a->Got W H0 G1 a e p v->SR W H0 env b G1 a->cK W H0 G1 E (f p) D->Q v a):tE X W F e b H Q:=
 {H0,G,env,sr,(o.bind S sr).imp λp d v G1 a c t=>h p v G1 a c t (sr.grow c) (d.on (sr.on c))}
def Iv(S:zv1 X){d:St}{e:Ci.E}{f:Bool->Res Fl}{D:Ends}{Q:Bool->Hp->Prop}(sr:SR W H0 env d G H)(o:cK W H0 G E ((aE F e env).bind λp=>sC p f) D)
 (h:∀b G1 c,aD W G H G1 c->SR W H0 env d G1 c->cK W H0 G1 E (f b) D->Q b c):tT X W F e d H Q:=by
 refine{H0,G,env,sr,(o.bind S sr).imp λp a=>?_}
 cases p with
 |bl b=>exact{b,rfl,λG1 c g=>h b G1 c g (sr.grow g) (cK.on a (sr.on g))}|aL=>exact e6 a|int _=>exact e6 a|str _=>exact e6 a|tup _=>exact e6 a|lst _=>exact e6 a|exc _=>exact e6 a|obj _=>exact e6 a|bE _ _=>exact e6 a
def OU(S:zv1 X){i:St}{e:Ci.E}{f:PV->Res Fl}{D:Ends}(hl:∀env q,aE F e env=.ok q->∃xs,q=.lst xs)(sr:SR W H0 env i G H)(o:cK W H0 G E ((aE F e env).bind f) D)
 (h:∀xs a vs G1 d,aD W G H G1 d->d a=hI->ag W G1 xs vs->SR W H0 env i G1 d->cK W H0 G1 E (f (.lst xs)) D->Q (.ref a) (upd d a (.lst vs))):tF X W F e i H Q:=by
 refine{H0,G,env,sr,?_};have b:=o.bind S sr
 cases r:aE F e env with
 |bad=>rw [r] at b;exact b|exc c=>rw [r] at b;exact b|ok q=>rw [r] at b;let(xs,rfl):=hl env q r;exact{xs,rfl,λa vs j m g p l=>h xs a vs j m g p l (sr.grow g) (cK.on b (sr.on g))}
def iR{p:ia}{t:Option ia}{l:Nat}{env:Env}(h:gG p=hQ):swapsWith p t l env=pure hU:=by
 cases p<;>first|rfl|(exact aN h)
def iQ{a:ia}{gens:List Comprehension}{s:iv}{p:Pos}{b:Pos}{l:Nat}(eP:X.env.scope=sc)(hk:sc.kind=.function):swapsWith (.ListComp a gens s p) (hG (.Name x b)) l X.env=pure (QJ sc x b (.ListComp a gens s p)):=by
 have c:X.env.blockKind=.function:=by unfold Env.blockKind;rw [eP,hk];rfl
 show(pure (X.env.blockKind==.function&&X.env.kindOf x==hG .local&&b.line==p.line&&!(s.names.any λ(n,k)=>n==x&&(k==.local||k==.cell))):Sem Bool)=_;rw [c];show(pure (hQ&&X.env.scope.names.lookup x==hG .local&&_&&_):Sem Bool)=_;rw [eP];rfl
theorem E8(S:zv1 X){e:Ci.E}{p:ia}(he:GE X W F e p)(b:gG p=hQ):GS X W F H0 E (.expr e) (.Expr p pos):=
 L2.PS.imp (kj he (iR b)) λD c H h=>by let(G,env,sr,o):=h;rw [dj] at o;exact oY S sr o λq v G1 d g t a f=>f c G1 d a a.go
theorem Kk(S:zv1 X){e:Ci.E}{p:ia}(a:gA e=hQ)(he:GE X W F e p):GS X W F H0 E (.ret e) (.Return (hG p) pos):=
 L2.PS.imp (Dg he) λD f H h=>by let(G,env,sr,o):=h;rw [dj] at o;exact oY S sr o λq v G1 b g t c d=>d v G1 b (t.rep a) c.go
theorem BM(S:zv1 X)(d:Γ.qt=hU){c:Str}{a cp:Pos}(b:Γ.rs.contains c=hQ)(f:jd sc c=hQ)(g:okN c=hQ):GS X W F H0 E (.raise c m) (.Raise (hG (.Call (.Name c np) [.Constant (.str m) j a] [] cp)) hI pos):=
 L2.PS.imp (S.rz d c m j np a cp pos b f g) λD i H h C e hC p=>by let(G,env,sr,o):=h;rw [dj] at o;exact o _ _ _ {C,e,G,rfl,rfl,S.xs c b,by rw [S.C.mg];exact hC,sr.go}
def dJ(S:zv1 X){i:Nat}(h:N[i]?=hG x)(hl:ft sc x=hQ):X.N.Nodup/\X.N[i]?=hG x/\Loc X.env.scope x:=by refine{by rw [S.C.hN];exact S.C.nd,by rw [S.C.hN];exact h,Cd S.C.eP hl}
def Km(S:zv1 X){i:Nat}{e:Ci.E}{p:ia}{a:Pos}(h:N[i]?=hG x)(hl:ft sc x=hQ)(c:gA e=hQ)(he:GE X W F e p)(hs:swapsWith p (hG (.Name x a)) pos.line X.env=pure hU):GS X W F H0 E (.set i e) (.Assign [.Name x a] p pos):=by let(d,a2,f):=dJ S h hl;refine L2.PS.imp (k9 d a2 f he hs (.inl (S.fn x))) λD r H h=>?_;let(G,env,sr,o):=h;rw [dj] at o;exact oY S sr o λq v G1 j g t b m=>m _ G1 j (b.set i (t.rep c)) b.go
abbrev Nb(X:Cx)(W:Wd)(F:aF)(i:Nat)(e:Ci.E):TS:=λD a H=>tF X W F e a H λv b=>D.nx (a.set i (hG v)) b
def PB{e:Ci.E}(hl:∀env q,aE F e env=.ok q->∃xs,q=.lst xs)(b:St)(H:Hp)(Q:VK)(h:tE X W F e b H Q):tF X W F e b H Q:=by
 let(H0,G,env,sr,o):=h
 refine{H0,G,env,sr,?_};cases r:aE F e env with
 |bad=>rw [r] at o;exact o|exc c=>rw [r] at o;exact o|ok q=>rw [r] at o;let(xs,rfl):=hl env q r;exact{xs,rfl,λa f i j g d l=>o _ _ _ (g.trans (.new g.sub d)) (.of (.l (.inl (.inl aq)) (ag.same (cj (g.sub.free d)) xs l)))}
theorem Fd(S:zv1 X){i:Nat}{e:Ci.E}{p:je}(hl:∀env q,aE F e env=.ok q->∃xs,q=.lst xs)(b:gA e=hQ)(h:PS X p (Nb X W F i e)):GS X W F H0 E (.set i e) p:=
 L2.PS.imp h λD c H d=>by let(G,env,sr,o):=d;rw [dj] at o;refine PB hl c H _ (oY S sr o λq v G1 f g t a j=>?_);exact j _ G1 f (a.set i (t.rep b)) a.go
def Fc(S:zv1 X){i:Nat}{e:Ci.E}{p:je}(j:N[i]?=hG x)(hl:∀env q,aE F e env=.ok q->∃xs,q=.lst xs)(h:PS X p (Nb X W F i e)):GS X W F H0 E (.own i e) p:=by
 intro m s d H D I r;have t:i<d.length:=by rw [I.len,S.C.hN];exact(bV.mp j).1
 refine h m s d H D I ?_;let(G,env,sr,o):=r;rw [dj] at o;refine OU S hl sr o λxs a f G1 u g c l b w=>?_;have y:Own W H0 G1 (upd u a (.lst f)) (.lst xs) (.ref a):={a,f,rfl,aq,b.sub.free c,b.base.free c,l};let(z,A):=CJ b b.go (i:=i) (by rw [b.len];exact t) c y;exact w _ G1 _ z A
def rM{i:Nat}{e:Ci.E}{p:ia}{a:Pos}(S:zv1 X)(h:N[i]?=hG x)(hl:ft sc x=hQ)(he:GF X W F e p)(hs:swapsWith p (hG (.Name x a)) pos.line X.env=pure hU):PS X (.Assign [.Name x a] p pos) (Nb X W F i e):=by let(b,a2,c):=dJ S h hl;exact k9 b a2 c he hs (.inl (S.fn x))
def A7(S:zv1 X)(q:Γ.qt=hU){i:Nat}{r t:Pos}(u:N[i]?=hG x)(w:ft sc x=hQ){j:List Nat}{d:Tg}{b:Ci.E}{c m:ia}{a:iv}{pos:Pos}(h:i3 N sc a kk j (aC c))(y:jv kk d=hQ)(B:gA b=hQ)(G:GI X W F c it e)(uh:∀x,foldedSetIterable e X.env x=pure x)
 (L:eZ (aC c++freeOf a) (cB a sc) (iV a) d c=hQ) (he:∀Y,eh Γ.yf F W (aC c++freeOf a) (cB a sc) k Y->GE Y W F b m):PS X (.Assign [.Name x r] (.ListComp m [{c,e,[],0}] a pos) t) (Nb X W F i (.comp kk j d it b)):=by
 let(O,a2,P):=dJ S u w
 cases M:QJ sc x r (.ListComp m [⟨c,e,[],0⟩] a pos) with
 |false=>exact rM S u w (xN S.C q h y B G uh L he) (by rw [iQ S.C.eP S.kind,M])|true=>
  intro R s f H D I T;have U:(freeOf a).Nodup:=(List.nodup_append.mp h.nd).2.1;have rd:=xw (N:=N) S.C.K y B h.slots U f H _ T
  have:=nV (g:=gT X.K d) (te:=tN W F b) (xs:=aC c) (ys:=freeOf a) (is:=j) (pos:=pos) O a2 P (S.C.calm q) (kO S.C.hN S.C.eP I.ok h) G
   (λfp o p A=>uQ (fn:=iV a) (X:=bP X (aC c++freeOf a) a (bG X.env (freeOf a)) fp o p A) rfl h.nd (eg S.C.eP) rfl (λZ z=>z) L)
   (λfp o p A=>L2.PE.imp (he _ (fc S.C h fp o p A)) λf H Q z=>yM f H Q z) (by rw [iQ (l:=t.line) S.C.eP S.kind,M]) uh (.inl (S.fn x)) R s f H D I
  rw [h.len] at this;exact this rd
def vE(S:zv1 X)(t:Γ.qt=hU){i:Nat}{u w:Pos}(y:N[i]?=hG x)(B:ft sc x=hQ){p:List Nat}{m:Tg}{c d:Ci.E}{b o q r:ia}{a:iv}{pos:Pos}(h:i3 N sc a kk p (aC b))(G:jv kk m=hQ)(L:gA d=hQ)(M:GI X W F b it o)(uh:∀x,foldedSetIterable o X.env x=pure x)
 (O:eZ (aC b++freeOf a) (cB a sc) (iV a) m b=hQ) (P:∀Y,eh Γ.yf F W (aC b++freeOf a) (cB a sc) k Y->GT Y W F c q) (he:∀Y,eh Γ.yf F W (aC b++freeOf a) (cB a sc) k Y->GE Y W F d r):PS X (.Assign [.Name x u] (.ListComp r [{b,o,[q],0}] a pos) w) (Nb X W F i (.dN kk p m it c d)):=by
 let(T,a2,U):=dJ S y B
 cases R:QJ sc x u (.ListComp r [⟨b,o,[q],0⟩] a pos) with
 |false=>exact rM S y B (qb S.C t h G L M uh O P he) (by rw [iQ S.C.eP S.kind,R])|true=>
  intro V s e H D I Z;have Cp:(freeOf a).Nodup:=(List.nodup_append.mp h.nd).2.1;have rd:=pP (N:=N) S.C.K G L h.slots Cp e H _ Z
  have:=rN (g:=gT X.K m) (tt:=QM W F c) (te:=tN W F d) (xs:=aC b) (ys:=freeOf a) (is:=p) (pos:=pos) T a2 U (S.C.calm t) (kO S.C.hN S.C.eP I.ok h) M
   (λfp f j A=>uQ (fn:=iV a) (X:=bP X (aC b++freeOf a) a (bG X.env (freeOf a)) fp f j A) rfl h.nd (eg S.C.eP) rfl (λ_ z=>z) O)
   (λfp f j A=>L2.PT.imp (P _ (fc S.C h fp f j A)) λe H Q z=>DJ e H Q z)
   (λfp f j A=>L2.PE.imp (he _ (fc S.C h fp f j A)) λe H Q z=>yM e H Q z) (by rw [iQ (l:=w.line) S.C.eP S.kind,R]) uh (.inl (S.fn x)) V s e H D I
  rw [h.len] at this;exact this rd
def qj{a:Tg}(c:Str):Tg.put a p env≠.exc c:=by unfold Tg.put;split<;>exact nofun
theorem BK(S:zv1 X){c:Ci.E}{a b:Ss}{p:ia}{e f:List je}(j:GT X W F c p)(m:AX X W F H0 E a e)(q:AX X W F H0 E b f):GS X W F H0 E (.ite c a b) (.If p e f pos):=
 L2.PS.imp (IB j m q) λD r H h=>by
  let(G,env,sr,o):=h;rw [dj] at o;refine Iv S sr o λt G1 s g i d=>?_
  cases t with
  |true=>rw [if_pos rfl] at d⊢;exact⟨G1,env,i,d⟩|false=>rw [if_neg zzf] at d⊢;exact⟨G1,env,i,d⟩
theorem Ko(S:zv1 X){c:Ci.E}{b:Ss}{p:ia}{C:List je}(K:GT X W F c p)(L:AX X W F H0 E b C):GS X W F H0 E (.IU c b) (.While p C [] pos):=
 L2.PS.imp (Dh S.own K L) λD T H h=>by
  let(G,env,sr,o):=h;rw [dj] at o;refine{λm j z=>∃y s,SR W H0 s j y z/\aD W G H0 y z/\cK W H0 y E (fv (aE F c) (bj F b) m s) D,{_,G,env,sr,sr.go,o},?_}
  rintro m j z ⟨y,s,u,M,A⟩
  cases m with
  |zero=>exact A.elim|succ m=>
   unfold fv at A;refine Iv S u A λt G1 O P B d=>?_
   cases t with
   |false=>rw [if_neg zzf] at d⊢;exact d j G1 O B B.go|true=>
    rw [if_pos rfl] at d⊢;refine{λa e=>∃G2 g,SR W H0 g a G2 e/\aD W G H0 G2 e/\cK W H0 G2 E (fv (aE F c) (bj F b) m g) D,λa e Q=>{m,Nat.lt_succ_self _,Q},G1,s,B,?_};have I:=M.then (u.on P)
    cases r:bj F b s with
    |bad=>rw [r] at d;exact d.elim|exc cc=>rw [r] at d;exact d|ok f=>
     rw [r] at d;cases f with
     |nx g=>exact λa G2 e w i=>{G2,g,w,I.then i,cK.on (show cK W H0 G1 E (fv (aE F c) (bj F b) m g) D from d) i}|ct g=>exact λa G2 e w i=>{G2,g,w,I.then i,cK.on (show cK W H0 G1 E (fv (aE F c) (bj F b) m g) D from d) i}|bk g=>exact λa G2 e w i=>d a G2 e w i|rt q=>exact λv G2 e R i=>d v G2 e R i
def Ki(S:zv1 X)(AK:Γ.qt=hU){O:Tg}{b:Ss}{Y Z:ia}{pb:List je}(sH:eZ N sc (λ_=>hQ) O Y=hQ)(hit:oH it=hQ)(hi:GI X W F Y it Z)(uh:∀x,foldedSetIterable Z X.env x=pure x)(hb:AX X W F H0 E b pb):GS X W F H0 E (.cL O it b) (.For Y Z pb [] pos):=
 L2.PS.imp (De S.own (S.C.calm AK) hi (uQ (fn:=λ_=>hQ) S.C.hN S.C.nd S.C.eP (S.C.calm AK) (λx _=>S.fn x) sH) hb uh) λD σ H h=>by
  let(G,env,sr,o):=h;rw [dj] at o;refine{H0,G,env,sr,(o.bind S sr).imp λd g9 J G1 H1 g1 gi=>?_};have bw:=gi.bw hit;generalize hf:(λ(x:PV) (env:Sl)=>(O.put x env).bind λe=>bj F b e)=f at g9;have bU:=sr.grow g1;refine{λi m y P=>i<=d.length/\m=d.length-i/\∃L e,SR W H0 e y L P/\aD W G1 H0 L P/\cK W H0 L E (forL f (d.drop i) e) D,{_,Nat.zero_le _,rfl,G1,env,bU,bU.go,by rw [List.drop_zero];exact cK.on g9 (sr.on g1)},?_}
  rintro i m y P ⟨M0,hm,L,e,j,g',t⟩
  let(ist,igo):=bw i L P g'.g (.of (g'.g.trans j.sub)) j.sub;by_cases s:i=d.length
  .refine .inl {ist s,?_};rw [s,List.drop_length] at t;exact t y L P j j.go
  .have U:i<d.length:=by lia
   let(hgo,Q):=igo d[i] (zzg U);refine .inr {hgo,λz H2=>i+1<=d.length/\∃G2 M,SR W H0 M z G2 H2/\aD W G1 H0 G2 H2/\cK W H0 G2 E (forL f (d.drop (i+1)) M) D,λz H2 h2=>{d.length-(i+1),by lia,h2.1,rfl,h2.2},λx kI hy=>?_};let(V,p7,rx):=Q x kI hy;rw [List.drop_eq_getElem_cons U] at t;unfold forL at t;have RV:f d[i] e=(O.put d[i] e).bind λe=>bj F b e:=by rw [<-hf]
   rw [RV] at t;have gM:=j.grow p7;have g2:=g'.then (j.on p7)
   cases r:O.put d[i] e with
   |bad=>rw [r] at t;exact t.elim|exc c=>exact absurd r (qj c)|ok M=>
    rw [r] at t;refine nt S.C.K r gM rx λz sr3=>{V,M,sr3,?_}
    have u:cK W H0 V E ((bj F b M).bind λfl=>match fl with
     |.nx e=>forL f (d.drop (i+1)) e|.ct e=>forL f (d.drop (i+1)) e|.bk e=>.ok (.nx e)|.rt p=>.ok (.rt p)) D:=cK.on t (j.on p7)
    cases r2:bj F b M with
    |bad=>rw [r2] at u;exact u.elim|exc cc=>rw [r2] at u;exact u|ok fl=>
     rw [r2] at u;cases fl with
     |nx a=>exact λA B R T w=>{U,B,a,T,g2.then w,cK.on (show cK W H0 V E (forL f (d.drop (i+1)) a) D from u) w}|ct a=>exact λA B R T w=>{U,B,a,T,g2.then w,cK.on (show cK W H0 V E (forL f (d.drop (i+1)) a) D from u) w}|bk a=>exact λA B R T w=>u A B R T w|rt q=>exact λv B R rv w=>u v B R rv w
theorem xR:AX X W F H0 E .nil []:=L2.sy.imp yr λD a H h=>by let(G,env,sr,o):=h;rw [bj] at o;exact o a G H sr sr.go
theorem uf{s:Ci.S}{b:Ss}{p:je}{ps:List je}(d:GS X W F H0 E s p)(e:AX X W F H0 E b ps):AX X W F H0 E (.cons s b) (p::ps):=
 L2.sy.imp (uS d e) λD m H h=>by
  let(G,env,sr,o):=h
  rw [bj] at o;refine{G,env,sr,?_};cases r:dj F s env with
  |bad=>rw [r] at o;exact o|exc c=>rw [r] at o;exact o|ok f=>
   rw [r] at o;cases f with
   |nx a=>exact λg G2 t i j=>{G2,a,i,cK.on (show cK W H0 G E (bj F b a) D from o) j}|bk a=>exact o|ct a=>exact o|rt q=>exact o
def Fe{i:Nat}{c:Ss}{ps:List je}(h:AX X W F H0 E c ps):AX X W F H0 E (.cons (.bw i) c) ps:=by
 intro f s g H D I j;let(G,env,sr,o):=j
 rw [bj,dj] at o;rcases Bz sr sr.go i with⟨d,b,e⟩|⟨a,p,m,k⟩
 .exact h f s g H D I {d,_,b,cK.on (show cK W H0 G E (bj F c (env.modify i oM)) D from o) e}
 .let(ob,J):=I.freeze m;let(d,b,e):=k ob;exact h f s g _ D J {d,_,b,cK.on (show cK W H0 G E (bj F c (env.modify i oM)) D from o) e}
def wa(hK:W.K=X.K):TU X "list.extend" (λx vs H Q=>∃l b xs zs,x=.ref l/\vs=[.ref b]/\H l=hG (.lst xs)/\su W.K H b zs/\xs.length+zs.length<=i2/\Q .aL (upd H l (.lst (xs++zs)))):=by
 intro y s A H x vs v B Q I g i h;let(l,b,xs,zs,rfl,rfl,f,j,C,q):=h;cases g;let(u,rfl,m):=Vals.one i;cases m;let(z,a,n,r,hl,e):=I.FJ f;let(c,o,p,D,G,t):=FL hK I j;have d:a.toArray.size+c.toArray.size<=sizeLine:=by rw [a0,a0];lia
 have w:¬(!a.toArray.isEmpty&&jj.List.listTooLong (a.toArray.size+c.toArray.size))=hQ:=by rw [Cu d,Bool.and_false];exact zzf
 refine PySem.call_meets PySem.F.slot_list_extend {_,e,rfl} PySem.F.entry_list_extend (PySem.F.args_list_extend_2 _ _)
  (PySem.AutoSeq1.list_extend_list_list_0 l a.toArray n b c.toArray o w (by rw [a0];lia) (by lia)) {e,t,?_}
 refine{.aL,_,I.FI (its':=a++c) f e (by simp) (r.append p) ?_,rfl,q};rw [c7];lia
def gK(S:zv1 X){i:Nat}(h:N[i]?=hG x)(b:dG sc x=hQ)(a:okN x=hQ):PE X (.Name x pos) (Hm i):=
 iE (by rw [S.C.hN];exact h) (oo S.C b) (dC a).1 (dC a).2.1
def mJ{b:St}{i:Nat}(sr:SR W H0 env b G H)(h:env[i]?=hG (.own (.lst xs))):∃a vs,b[i]?=hG (hG (.ref a))/\H a=hG (.lst vs)/\G a=hI/\H0 a=hI/\ag W G xs vs:=by let(o,c,v,rfl,a,vs,rfl,d,e,f,l):=sr.slot i _ h;exact⟨a,vs,c,d,e,f,l⟩
set_option tactic.hygienic true in
def Kh(S:zv1 X){i:Nat}{e:Ci.E}{p:ia}{b j:Pos}(h:N[i]?=hG x)(y:dG sc x=hQ)(A:okN x=hQ)(B:(b.endLine==j.line)=hQ)(C:gA e=hQ)(he:GE X W F e p)
 (d:∀env ps,starEach (p::ps) env=(hU,eval p env)::starEach ps env):GS X W F H0 E (.app i e) (.Expr (.Call (.Attribute (.Name x np) "append" b) [p] [] j) pos):=by
 refine L2.PS.imp (kj (yj PySem.F.plainAttrs_list PySem.F.slot_list_append PySem.F.type_list_append Aa (gK S h y A) (cH he eB (d _ _)) rfl (by rw [d];rfl) B (d _ _) rfl) rfl) λD Q H I=>?_;let(G,env,sr,o):=I;rw [dj] at o;split at o
 .rename_i xs m;let(a,r,hs,c,K,s,l):=mJ sr m;refine{.ref a,hs,.inl {rfl,_,kJ.of c},oY S sr o λq v G1 R g t u f=>?_};split at f
  .rename_i hl;have L:=g.h.at c (λZ z=>nomatch z);have w:=g.own a (by rw [c];exact nofun) (by rw [c];exact λZ z=>nomatch z) K;have M:=ag.same g.g xs l;refine{a,r,v,rfl,rfl,L,by rw [l.length];exact el hl (by decide),?_};let(O,P):=jk (p':=.lst (xs++[q])) (ob:=.lst (r++[v])) u u.go m hs w s {a,_,rfl,aq,w,s,M.append (.cons (t.rep C) .nil)};exact f _ G1 _ O P
  .exact f.elim
 .exact o.elim
set_option tactic.hygienic true in
def E9(S:zv1 X){i:Nat}{e:Ci.E}{p:ia}{c r:Pos}(h:N[i]?=hG x)(B:dG sc x=hQ)(I:okN x=hQ)(L:(c.endLine==r.line)=hQ)(he:GE X W F e p)
 (j:∀env ps,starEach (p::ps) env=(hU,eval p env)::starEach ps env):GS X W F H0 E (.qV i e) (.Expr (.Call (.Attribute (.Name x np) "extend" c) [p] [] r) pos):=by
 refine L2.PS.imp (kj (yj PySem.F.plainAttrs_list PySem.F.slot_list_extend PySem.F.type_list_extend (wa S.C.K) (gK S h B I) (cH he eB (j _ _)) rfl (by rw [j];rfl) L (j _ _) rfl) rfl) λD Y H M=>?_;let(G,env,sr,o):=M;rw [dj] at o;split at o
 .rename_i xs s;let(a,u,hs,f,O,w,l):=mJ sr s;refine{.ref a,hs,.inl {rfl,_,kJ.of f},oY S sr o λq v G1 Z g t m d=>?_};split at d
  .rename_i P;split at d
   .rename_i hl;have Q:=g.h.at f (λ_ z=>nomatch z);have y:=g.own a (by rw [f];exact nofun) (by rw [f];exact λ_ z=>nomatch z) O;have R:=ag.same g.g xs l;let(b,A,rfl,T,lb):=t.top.lst m.sub;refine{a,b,u,A,rfl,rfl,Q,T,by rw [l.length,lb.length];exact iB hl,?_};let(U,V):=jk (p':=.lst (xs++P)) (ob:=.lst (u++A)) m m.go s hs y w {a,_,rfl,aq,y,w,R.append lb};exact d _ G1 _ U V
   .exact d.elim
  .exact d.elim
 .exact o.elim
def Pa:V->V->V->Hp->(Hp->Prop)->Prop:=λo i v H Q=>∃a b,o=.ref a/\yT H a i v b/\Q b
def yE(b:X.A.units+1<cLine):Nr X Pa:=by intro m s p H o i v r t u Q I c d e h;let(a,f,rfl,g,q):=h;cases c;exact zv b I g d e λw j=>⟨f,j,q⟩
def kf{b:St}{i:Nat}{ks:kB}(sr:SR W H0 env b G H)(h:env[i]?=hG (.own (.bE ks ps))):∃a us,b[i]?=hG (hG (.ref a))/\ks.length=us.length/\H a=hG (.dT (kz ks us))/\G a=hI/\H0 a=hI/\ag W G ps us:=by let(o,c,v,rfl,a,us,rfl,n,d,e,f,l):=sr.slot i _ h;exact⟨a,us,c,n,d,e,f,l⟩
set_option tactic.hygienic true in
def Kj(S:zv1 X){i:Nat}{kk e:Ci.E}{c p:ia}{f:Pos}(h:N[i]?=hG x)(P:dG sc x=hQ)(Q:okN x=hQ)(R:gA e=hQ)(A:aV Γ N sc kk c=hQ)(hk:GE X W F kk c)(he:GE X W F e p):GS X W F H0 E (.put i kk e) (.Assign [.Subscript (.Name x np) c f] p pos):=by
 have T:swappedStores [.Subscript (.Name x np) c f] p X.env=pure hI:=by cases p<;>rfl
 have U:∀v,assign (.Subscript (.Name x np) c f) X.env v=(do
  let j<-holding [v] (eval (.Name x np) X.env);let s<-holding [v,j] (eval c X.env)
  standAt f
  holding [v,j,s] (setItem j s v)
  release [v,j,s] []):=by
  intro v;cases c<;>first|rfl|(cases kk<;>first|(exact aN A)|(rename_i q;cases q<;>exact aN A))
 refine L2.PS.imp (Dd he (C0 (gK S h P Q) hk (yE (by have:=S.C.room.un;lia)) U) (by cases p<;>rfl) T) λD σ H V=>?_;let(G,env,sr,o):=V;rw [dj] at o;refine oY S sr o λq v G1 H1 g t B u=>?_;split at u
 .rename_i ks I K;let(a,L,hs,n,w,Y,M,l):=kf B K;refine{.ref a,hs,oY S B u λq2 v2 G2 Z m t2 r d=>?_};split at d
  .rename_i kk y;split at d
   .rename_i vV;have e2:=j9 y;subst e2;let(b,rfl,hb):=t2.top.tupI (ns:=kk) r.sub rfl;have Kw:=m.h.at w (λ_ z=>nomatch z);have O:=m.own a (by rw [w];exact nofun) (by rw [w];exact λ_ z=>nomatch z) Y;have l':=ag.same m.g I l;refine{a,upd Z a (.dT (putK (kz ks L) (ki kk) v)),rfl,yT.t Kw (by rw [ux];exact r.sub _ _ hb) (by rw [iz n];exact el vV (by decide)),?_};rw [B7 n];let(r2,gg):=jk (p':=.bE (bS ks kk) (bK ks I kk q)) (ob:=.dT (kz (bS ks kk) (bK ks L kk v))) r r.go K hs O M {a,_,rfl,uT n kk v,aq,O,M,yv l' (Rep.same m.g q (t.rep R))};exact d _ G2 _ r2 gg
   .exact d.elim
  .exact d.elim
 .exact u.elim
def E7(S:zv1 X){i:Nat}{dp:Pos}(h:N[i]?=hG x)(hl:ft sc x=hQ):GS X W F H0 E (.ng i) (.Assign [.Name x np] (.Dict [] [] dp) pos):=by
 let(c,a2,d):=dJ S h hl;intro e s b H D I f;have g:i<b.length:=by rw [I.len,S.C.hN];exact(bV.mp h).1
 refine k9 c a2 d CO rfl (.inl (S.fn x)) e s b H D I ?_;let(G,env,sr,o):=f;rw [dj] at o;intro p a;let(j,m):=CJ (i:=i) (p:=.bE [] []) (ob:=.dT []) sr sr.go (by rw [sr.len];exact g) a {p,[],rfl,rfl,aq,sr.sub.free a,sr.base.free a,.nil};exact o _ G _ j m
set_option tactic.hygienic true in
def zH(S:zv1 X){i n:Nat}{y:Str}{Z fT yp e VX u:Pos}(h:N[i]?=hG x)(hv:dG sc x=hQ)(ho:okN x=hQ)(hz:N[n]?=hG z)(B:dG sc z=hQ)(I:okN z=hQ)(hy:N[j]?=hG y)(W3:dG sc y=hQ)(W2:okN y=hQ)
 (fh:(e.endLine==u.line)=hQ):GS X W F H0 E (.fR i j n) (.Assign [.Subscript (.Name x np) (.Name z Z) fT] (.Call (.Attribute (.Name y yp) "pop" e) [.Name z VX] [] u) pos):=by
 have K:X.A.units+1<cLine:=by have:=S.C.room.un;lia
 refine L2.PS.imp (Dd (Gw K (gK S hy W3 W2) (gK S hz B I) ⟨rfl,rfl,fh,rfl⟩) (C0 (gK S h hv ho) (gK S hz B I) (yE K) λ_=>rfl) (by unfold swapsWithSole;exact iR rfl) rfl) λD σ H hq=>?_;let(G,env,sr,o):=hq;rw [dj] at o;split at o
 .rename_i ks L d f kp e1 e2 e3;split at o
  .rename_i c m;split at o
   .rename_i p hp;split at o
    .rename_i M;have ek:=j9 m;subst ek;let(a,us,hs,O,P,Q,R,l):=kf sr e1;let(ok,g,v,rfl,rv):=sr.slot n _ e3;let(b,rfl,T):=GO rv;let(w,hw,kw):=sj l hp;refine{.ref a,hs,a,rfl,.inr {_,.inl P},.ref b,g,_,ki c,b,w,P,rfl,(by rw [ux];exact sr.sub _ _ T),(by rw [kU];exact hw),?_};rw [x9 c O];let(q,g1):=jk (p':=.bE (cm ks c) (aW ks L c)) (ob:=.dT (kz (cm ks c) (aW ks us c))) sr sr.go e1 hs Q R {a,_,rfl,tQ c O,aq,Q,R,nh l};have U:(env.set j (.own (.bE (cm ks c) (aW ks L c))))[i]?=hG (.own (.bE d f)):=by rw [ea (Ne.symm M.2)];exact e2
     let(a2,r,V,s,k1,k2,Y,l2):=kf q U;refine{.ref a2,V,.ref b,g,a2,_,rfl,yT.t k1 (by rw [ux];exact q.sub _ _ T) (by rw [iz s];exact el M.1 (by decide)),?_};rw [B7 s];let(r2,g2):=jk (p':=.bE (bS d c) (bK d f c p)) (ob:=.dT (kz (bS d c) (bK d r c w))) q g1 U V k2 Y {a2,_,rfl,uT s c w,aq,k2,Y,yv l2 kw};exact o _ G _ r2 g2
    .exact o.elim
   .exact o.elim
  .exact o.elim
 .exact o.elim
end
end Ci
namespace L2
open PySem.Spec PyProof.Rows
end L2
namespace Ci
open L2
theorem qE:∀(cs:List Int) (all:List Int) (j b:Nat) (m:Int),all.drop j=cs->all[b]?=hG m->b<j->(∀i c,all[i]?=hG c->i<j->m<=c/\(i<b->m<c))->
 ∃a,all[fN cs j b m]?=hG a/\∀i c,all[i]?=hG c->a<=c/\(i<fN cs j b m->a<c)
 |[],all,j,b,m,hd,d,_,best=>by unfold fN;have hl:all.length<=j:=List.drop_eq_nil_iff.mp hd;exact{m,d,λi c e=>best i c e (el (bV.mp e).1 hl)}|x::cs,all,j,b,m,hd,d,k,best=>by
  have f:all[j]?=hG x:=by rw [<-List.head?_drop,hd];rfl
  have g:all.drop (j+1)=cs:=by rw [<-List.drop_drop,hd];rfl
  unfold fN;split
  .rename_i o;refine qE cs all (j+1) j x g f (by lia) λi c e p=>?_;by_cases h:i=j
   .subst h;rw [f] at e;cases e;exact{Int.le_refl _,λz=>absurd z (Nat.lt_irrefl _)}
   .have:=best i c e (by lia);exact{by lia,λZ=>by lia}
  .rename_i o;refine qE cs all (j+1) b m g d (by lia) λi c e p=>?_;by_cases h:i=j
   .subst h;rw [f] at e;cases e;exact{by lia,λz=>by lia}
   .exact best i c e (by lia)
def Ek{cs:List Int}{x:Nat}(h:A4 cs=hG x):∃m,cs[x]?=hG m/\∀i c,cs[i]?=hG c->m<=c/\(i<x->m<c):=by
 cases cs with
 |nil=>cases h
 |cons c cs=>
  cases h;refine qE cs (c::cs) 1 0 c rfl rfl (by lia) λi d e a=>?_;have:i=0:=by lia
  subst this;cases e;exact{Int.le_refl _,λz=>absurd z (Nat.not_lt_zero _)}
theorem pT{W:Wd}{K:zz8}(hK:W.K=K)(b:ax G H):∀{ps:List PV} {us:List V} {cs:List Int},jc ps=hG cs->ag W G ps us->cs.length=ps.length/\∀(i:Nat) v,us[i]?=hG v->∃q r,v=V.ref q/\fC K H q (.int (cs.getD i 0)::r)
 |[],_,_,e,l=>by cases e;simp! [ag] at l;subst l;exact{rfl,λi v h=>by simp at h}
 |p::ps,us,cs,e,l=>by
  let(u,t,rfl,c,j):=l.cx;unfold jc at e;split at e
  .rename_i a;cases a
  .rename_i a;cases a;let(r,k,rfl):=b4.mp e;let(m,o):=pT hK b k j;refine{by simp [m],λi v d=>?_}
   cases i with
   |zero=>cases d;simp! [Rep] at c;let(q,y,rfl,s,f):=c;let(w,wr,rfl,g,f):=f.cx;simp! [Rep] at g;subst g;exact{q,wr,rfl,by rw [<-hK];simpa using ax.tup b s.sq}
   |succ i=>simpa using o i v (zx6 d)
  .cases e
section
variable{Γ:Pg}{W:Wd}{F:aF}{sc:iv}{E:XK}
set_option tactic.hygienic true in
def Fb(S:zv1 X)(AK:Γ.qt=hU){m i:Nat}{y:Str}{h:jm}{g:iv}{yp q1 q2 q3 q4 q5:Pos}(h1:N[m]?=hG y)(h2:ft sc y=hQ)(h3:N[i]?=hG x)(h4:sc.names.lookup x=hG .cell)(h5:jd sc "min"=hQ)(h6:Γ.bs.contains "min"=hQ)(h7:Γ.hl=hQ)
 (h8:x8 x h body g=hQ):GS X W F H0 E (.oX m i) (.Assign [.Name y yp] (.Call (.Name "min" q1) [.Name x q2] [{hG "key",.Lambda h body g q3,q4}] q5) pos):=by
 let(a1,a2,a3):=dJ S h1 h2;let(p,ep,L,T,U):=B1 h8
 have pe:PE X (.Call (.Name "min" q1) [.Name x q2] [{hG "key",.Lambda h body g q3,q4}] q5) (λR H Q=>∃G env ks V cs A O,SR W H0 env R G H/\env[i]?=hG (.own (.bE ks V))/\jc V=hG cs/\A4 cs=hG A/\ks[A]?=hG O/\∀v G' H',aD W G H G' H'->Rep W G' (cg O) v->Q v H'):=by
  intro ae s R H Q I hq;let(G,env,ks,V,cs,A,O,sr,e1,e2,e3,e4,q):=hq;let(d,us,hs,n,k1,k2,k3,l):=kf sr e1;let(c,fg):=I.ok.has x (.inl (by show X.env.scope.names.lookup x=_;rw [S.C.eP];exact h4))
  have vS:closureFor g X.env=pure [(x,c)]:=by
   rw [ja λy hy hf=>?_]
   .show pure (bG X.env (bo g))=_;rw [T];simp [bG,fg]
   .have:y.1∈bo g:=by
     unfold bo;rw [List.mem_reverse,gI];exact{y,List.mem_filter.mpr {hy,by rw [hf];rfl},rfl}
    rw [T] at this;rw [eM.mp this];exact⟨c,fg⟩
  refine wpAny_Call_Name_kw (gD I (f6 S.C h5) (S.C.bs _ (fb.mp h6)) (u:=.builtin "min") (by decide+kernel) ?_);refine PyProof.Rows.callWith_kw ?_;refine Calls.spliced_cons (bM (iE (i:=i) (by rw [S.C.hN];exact h3) (.inr (.inl (by show X.env.scope.names.lookup x=_;rw [S.C.eP];exact h4))) (dC U).1 (dC U).2.1 ae s R H (λv' H1=>v'=.ref d/\H1=H) I {_,hs,rfl,rfl}) λu s1 hu=>Calls.spliced_nil ?_);let(v',H1,I1,ru,rfl,rfl):=hu;cases ru;refine PyProof.Rows.kws_cons (bM (CQ S.C h7 ep vS ae s1 R H1 (λv2 H2=>∃f G2,v2=.ref f/\qy X W h body g [(x,c)] G H1 G2 H2 f) I1 {G,sr.sub,sr.tab,λf G2 H2 lm=>⟨f,G2,rfl,lm⟩}) λu s2 hu=>PyProof.Rows.kws_nil ?_);let(v2,H2,I2,ru,f,G2,rfl,g2,c',oc,dc,t,fW,pm,fo,co,cd,cn):=hu;cases ru;have Y:=sr.grow g2;let(d',P,zP,Z,k1',k2',k3',l'):=kf Y e1;rw [hs] at zP;cases zP;let(cl1,cl2):=pT (K:=X.K) S.C.K Y.sub e2 l'
  have M:KM X R H2 k d f (kz ks P) (λi=>cs.getD i 0):=by
   refine{S.C.room,I.ok.hd (S.C.calm AK),k1',{p,x,h,body,g,_,c,c',oc,dc,t,pm,fW,i,L,fg,I.ok.MO x c (S.C.fl h7 x) fg,Y.sub _ _ fo,Y.sub _ _ co,cd,cn,λu=>xk ep [u] rfl,by rw [S.C.hN];exact h3,hs,by rw [S.C.eP];exact h4},λj kx v e=>?_};have:P[j]?=hG v:=by unfold kz at e;rw [List.getElem?_zip_eq_some] at e;exact e.2
   exact cl2 j v this
  let(mm,hm1,M3):=Ek e3;have RY:A<ks.length:=(bV.mp e4).1;have Wy:cs.length=ks.length:=by rw [cl1,<-l'.length,Z]
  refine zg M (by rw [iz Z];lia) I2 λj kx v b e hb B=>?_;rw [iz Z] at B;have hj:j<ks.length:=by have:=(bV.mp e).1;rw [iz Z] at this;exact this
  have ej:j=A:=by
   have ca:∀a,a<cs.length->cs[a]?=hG (cs.getD a 0):=λa ha=>by simp [ha]
   have b1:=B A RY;have b2:=M3 j _ (ca j (by lia));have em:mm=cs.getD A 0:=by rw [ca A (by lia)] at hm1;exact(zzq hm1).symm
   rw [em] at b2;rcases Nat.lt_trichotomy j A with z|z|z
   .have:=b2.2 z;have:=b1.1;lia
   .exact z
   .have:=b1.2 z;have:=b2.1;lia
  subst ej;have ek:kx=ki O:=by have:=congrArg (λl=>l[j]?) (ya (us:=P) Z);simp! [dV,e,e4,Option.map_some] at this;exact zzq this
  rw [ek,ux] at hb;let(G3,g3,l3):=pC (W:=W) (vs:=[.ref b]) (nss:=[O]) Y.sub (.cons ⟨b,rfl,hb⟩ .nil);let(w,r,ew,hw,_):=l3.cx;cases ew;exact q _ _ _ (g2.trans g3) hw
 refine L2.PS.imp (k9 a1 a2 a3 pe rfl (.inl (S.fn y))) λD R H hq=>?_;let(G,env,sr,o):=hq;rw [dj] at o;split at o
 .rename_i ks V hx;split at o
  .rename_i cs hcs;split at o
   .rename_i O hkk;let(A,Ih,hk2):=eo.mp hkk;exact{G,env,ks,V,cs,A,O,sr,hx,hcs,Ih,hk2,λv G' H' g' rp=>o _ G' _ ((sr.grow g').set m rp) (sr.on g')}
   .exact o.elim
  .exact o.elim
 .exact o.elim
theorem ag.erase:∀{ps:List PV} {vs:List V} (n:Nat),ag W G ps vs->ag W G (ps.eraseIdx n) (vs.eraseIdx n)
 |[],_,n,h=>by simp! [ag] at h;subst h;simp! [List.eraseIdx_nil];exact .nil|p::ps,_,0,h=>by let(v,r,rfl,b,a):=h.cx;exact a|p::ps,_,n+1,h=>by let(v,r,rfl,b,a):=h.cx;exact .cons b (ag.erase n a)
end
end Ci
namespace L2
open PySem.Spec PyProof.Rows PyProof
def o6(l:h9)(a:Array hV)(n:Nat)(x:hV)(e:hV->Bool)(j:Nat)(r:j<a.size)(c:e a[j]=hQ)(k:Nat)(t:a.size<=i2):
 ∀i:Nat,j-i=k->i<=j->(∀m (hm:m<a.size),i<=m->m<j->e a[m]=hU)->Meets (jj.«list.remove.loop» {[.ref l,x,rawInt i],[]})
  (λA R s=>s.heap.get? l=hG {cls:=.type "list",dict:=hI,data:=.seq a n,slots:=#[]}/\(∀y,y∈a->SeqAt.EqAt A.in1 s y x (e y))/\R (.ok (.ret .none)) {s with heap:=s.heap.update l (Obj.mapSeq λxs=>xs.eraseIdxIfInBounds j)}):=by
 induction k with
 |zero=>
  intro i hk f o prog w A R s h;let(u,g,d,z,os):=s;let(hl,b,h):=h;have B:i=j:=by lia
  subst B
  wp_walk using wpAny_loadPart' hl
  have p:a[((i:Nat):Int).toNat]?=hG a[i]:=by simp [r]
  rw [p];refine ak (b _ (Array.getElem_mem r) prog w _ _ ?_);rw [c];have C:(a.eraseIdxIfInBounds i).size<=i2+1:=ee (MeetsSeq.size_erased a _) (Nat.le_succ_of_le t)
  wp_walk using (wpAny_updateSeq hl rfl (hz:=t) (_hz':=C)),wpAny_loadPart' hl
  simpa using h
 |succ k D=>
  intro i hk f o prog w A R s h;let(u,g,d,z,os):=s;let(hl,b,h):=h;have q:i<a.size:=by lia
  wp_walk using wpAny_loadPart' hl
  have p:a[((i:Nat):Int).toNat]?=hG a[i]:=by simp [q]
  have E:((i:Int)+1)=((i+1:Nat):Int):=by push_cast;rfl
  rw [p];refine ak (b _ (Array.getElem_mem q) prog w _ _ ?_);rw [o i q (a8 _) (by lia)]
  wp_walk
  rw [E];exact{plainId_quiet MeetsSeq.plain_remove_loop _,codeAny_builtin MeetsSeq.entry_remove_loop (by rw [hF MeetsSeq.plain_remove_loop _];exact D (i+1) (by lia) (by lia) (λm hm G F=>o m hm (by lia) F) prog w A R _ ⟨hl,b,h⟩)}
def oW(l:h9)(a:Array hV)(n:Nat)(x:hV)(e:hV->Bool)(j:Nat)(c:j<a.size)(b:e a[j]=hQ)(f:∀m (hm:m<a.size),m<j->e a[m]=hU)(i:a.size<=i2):
 Meets (jj.«list.remove» {[.ref l,x],[]})
  (λA R s=>s.heap.get? l=hG {cls:=.type "list",dict:=hI,data:=.seq a n,slots:=#[]}/\(∀y,y∈a->SeqAt.EqAt A.in1 s y x (e y))/\R (.ok (.ret .none)) {s with heap:=s.heap.update l (Obj.mapSeq λxs=>xs.eraseIdxIfInBounds j)}):=by
 intro prog w A R s h;let(p,g,d,q,os):=s;let(hl,k,h):=h
 wp_walk using wpAny_loadPart' hl
 exact{plainId_quiet MeetsSeq.plain_remove_loop _,codeAny_builtin MeetsSeq.entry_remove_loop (by rw [hF MeetsSeq.plain_remove_loop _];exact o6 l a n x e j c b _ i 0 rfl (Nat.zero_le _) (λm hm Z o=>f m hm o) prog w A R _ ⟨hl,k,h⟩)}
def uD:Ra X "list.remove" (λx vs H Q=>∃(l:h9) (xs:List V) (y:V) (j:Nat),x=.ref l/\vs=[y]/\H l=hG (.lst xs)/\j<xs.length/\
 (∀(b:kv) (c:St) (s:hW) (a:List hV) (u:hV),Inv X b c H s->Vals xs a->RelV y u->∃e:hV->Bool,(∀z∈a,SeqAt.EqAt X.A.in1 s z u (e z))/\(∀z,a[j]?=hG z->e z=hQ)/\∀(m:Nat) z,m<j->a[m]?=hG z->e z=hU)/\
 Q .aL (upd H l (.lst (xs.eraseIdx j)))):=by
 intro b s c H x vs v E Q I i k h;let(l,xs,y,j,rfl,rfl,d,G,o,q):=h;cases i;let(u,rfl,p):=k.one;let(z,a,n,r,hl,e):=I.FJ d;let(f,t,w,B):=o b c s a u I r p;have g:j<a.length:=by lia
 refine call_meets F.slot_list_remove {_,e,rfl} F.entry_list_remove (F.args_list_remove_2 _ _)
  (oW l a.toArray n u f j (by rw [a0];exact g) (w _ (by simp [g])) (λm hm C=>B m _ C (by have:m<a.length:=zx6 hm;simp [this])) (by rw [a0,<-hl];exact z)) {e,λy D=>t y (zx6 D),?_}
 refine{.aL,_,I.FI (its':=a.eraseIdx j) d e ?_ (r.eraseIdx j) ?_,rfl,q}
 .show a.toArray.eraseIdxIfInBounds j=(a.eraseIdx j).toArray;rw [List.eraseIdxIfInBounds_toArray]
 .have:=kW xs j;lia
end L2
namespace Ci
open L2
section
variable{Γ:Pg}{W:Wd}{F:aF}{sc:iv}{E:XK}
set_option tactic.hygienic true in
def Kl(S:zv1 X){i:Nat}{e:Ci.E}{p:ia}{b Q:Pos}(h:N[i]?=hG x)(hv:dG sc x=hQ)(ho:okN x=hQ)(fh:(b.endLine==Q.line)=hQ)(he:GE X W F e p)
 (w:∀env ps,starEach (p::ps) env=(hU,eval p env)::starEach ps env):GS X W F H0 E (.Dk i e) (.Expr (.Call (.Attribute (.Name x np) "remove" b) [p] [] Q) pos):=by
 refine L2.PS.imp (kj (yj PySem.F.plainAttrs_list PySem.F.slot_list_remove PySem.F.type_list_remove uD (gK S h hv ho) (cH he eB (w _ _)) rfl (by rw [w];rfl) fh (w _ _) rfl) rfl) λD σ H hq=>?_;let(G,env,sr,o):=hq;rw [dj] at o;split at o
 .rename_i xs R;let(a,T,hs,d,h2,U,l):=mJ sr R;refine{.ref a,hs,.inl {rfl,_,kJ.of d},oY S sr o λq v G1 H1 g t y c=>?_};split at c
  .rename_i B;rw [zza] at B;split at c
   .rename_i j L;have XR:=L;rw [List.findIdx?_eq_some_iff_getElem] at L;let(V,KS,zO):=L;have k1:=g.h.at d (λ_ z=>nomatch z);have k2:=g.own a (by rw [d];exact nofun) (by rw [d];exact λ_ z=>nomatch z) h2;have M:=ag.same g.g xs l;let(r1,g1):=jk (p':=.lst (xs.eraseIdx j)) (ob:=.lst (T.eraseIdx j)) y y.go R hs k2 U {a,_,rfl,aq,k2,U,ag.erase j M};refine{a,T,v,j,rfl,rfl,k1,by rw [l.length];exact V,λae σ s au u I r ru=>?_,c _ G1 _ r1 g1};have Y:au.length=xs.length:=by rw [<-r.length,M.length]
    let(f,O,Z):=rA (A:=X.A.in1) I S.C.K y.sub (by have:=S.C.room.units;show X.A.units+1+32<_;lia) B.1 B.2 t.top ru M r;refine{f,O,λz P=>?_,λm z hm P=>?_}
    .rw [Z j z xs[j] P (zzg V)];exact KS
    .have M3:m<xs.length:=by lia
     rw [Z m z xs[m] P (zzg M3)];have z:=zO m hm;simpa using z
   .exact c.elim
  .exact c.elim
 .exact o.elim
set_option tactic.hygienic true in
def BL(S:zv1 X){i:Nat}{y:Str}{e:Ci.E}{p:ia}{K b A:Pos}(h:N[i]?=hG x)(L:dG sc x=hQ)(M:okN x=hQ)(O:(b.endLine==A.line)=hQ)(P:N[j]?=hG y)(hl:ft sc y=hQ)(he:GE X W F e p)
 (s:∀env ps,starEach (p::ps) env=(hU,eval p env)::starEach ps env):GS X W F H0 E (.iF j i e) (.Assign [.Name y K] (.Call (.Attribute (.Name x np) "pop" b) [p] [] A) pos):=by
 let(Q,a2,R):=dJ S P hl;refine L2.PS.imp (k9 Q a2 R (yj PySem.F.plainAttrs_list PySem.F.slot_list_pop PySem.F.type_list_pop Co (gK S h L M) (cH he eB (s _ _)) rfl (by rw [s];rfl) O (s _ _) rfl) rfl (.inl (S.fn y))) λD σ H f=>?_;let(G,env,sr,o):=f;rw [dj] at o;split at o
 .rename_i c B;let(a,u,hs,r,T,C,l):=mJ sr B;refine{.ref a,hs,.inl {rfl,_,kJ.of r},oY S sr o λq v G1 H1 g t I d=>?_};split at d
  .rename_i n;split at d
   .rename_i U;let(V,c2,c5):=U;let(m,rfl):=gz V;have hm:m<c.length:=by lia
    have f:c[m]?=hG c[m]:=zzg hm;have Y:(Res.of c[(m:Int).toNat]?)=.ok c[m]:=by rw [g7,f];rfl
    rw [Y] at d;let(w,Z,gR):=l.oN f;have k1:=g.h.at r (λ_ z=>nomatch z);have k2:=g.own a (by rw [r];exact nofun) (by rw [r];exact λ_ z=>nomatch z) T;have k3:=ag.same g.g c l;have XS:m<u.length:=by rw [l.length];exact hm
    have vV:cV=1000000:=rfl;obtain rfl:v=.int (m:Int):=t.top.int;let(r1,g1):=jk (p':=.lst (c.eraseIdx m)) (ob:=.lst (u.eraseIdx m)) I I.go B hs k2 C {a,_,rfl,aq,k2,C,ag.erase m k3};refine{a,u,(m:Int),m,w,rfl,rfl,k1,by lia,by lia,?_,Z,d _ G1 _ (r1.set j (Rep.same g.g _ gR)) g1};unfold seqIndex?;have:¬(m:Int)<0:=by lia
    simp! [this,if_false];rw [if_pos (by rw [zza];exact{zzh (by lia),zzh (by lia)})];rfl
   .exact d.elim
  .exact d.elim
 .exact o.elim
def tY{e:Ci.E}(h:j8 e=hQ):∀env q,aE F e env=.ok q->∃xs,q=.lst xs:=by
 cases e<;>first|(exact aN h)|exact lst_is|exact xu|exact pO
def pF(S:zv1 X){i:Nat}{I:Pos}(t:N[i]?=hG x)(u:ft sc x=hQ)(e:Ci.E)(p:ia)(K:j8 e=hQ)(h:aV Γ N sc e p=hQ):PS X (.Assign [.Name x I] p pos) (Nb X W F i e):=by
 cases e with
 |lst as=>let(R,e,b):=ah h;let(_,rfl):=Cb e;have a:=aj b;have s:=aj a.1;exact rM S t u (BH s.1 (zzY s.2) (i7 as S.C _ a.2)) rfl|comp L M O it elt=>let(w,h):=uJ h;let(y,j,f,_,rfl,b):=M8 h;let((z,A,B,D),m,a):=gj b;have d:=aj a;have o:=wc d.1;dsimp only at m o;subst m o;clear h b a;have h:=aj d.2;clear d;simp! [zza] at h;let((((((b,a),d),q),G),H),g):=h;have g:=zzY g;subst g;exact A7 S w t u (fZ b) a d (uZ it S.C z A q) (fG q _) G λY r=>(br elt r y H).ge|dN L M O it c elt=>let(w,h):=uJ h;let(y,j,f,_,rfl,b):=M8 h;let((z,A,B,D),m,a):=gj b;let(P,o,d):=gj a;dsimp only at m o;subst m o;clear h b a;have h:=aj d;clear d;simp! [zza] at h;let((((((((s,b),a),d),q),G),H),Q),g):=h;have g:=zzY g;subst g;exact vE S w t u (fZ b) a d (uZ it S.C z A q) (fG q _) G (λY r=>(br c r P H).gt s) λY r=>(br elt r y Q).ge|_=>exact aN K
def Ac{e:Ci.E}{p:ia}(h:aV Γ N sc e p=hQ)(a:j8 e=hU):gG p=hQ:=by
 cases p<;>first|rfl|(cases e<;>first|(exact aN h)|(rename_i q;cases q<;>exact aN h)|(cases a;done))
def zI(S:zv1 X){i:Nat}{e:Ci.E}{p:ia}{c:Pos}(h:N[i]?=hG x)(hl:ft sc x=hQ)(b:gA e=hQ)(a:aV Γ N sc e p=hQ):GS X W F H0 E (.set i e) (.Assign [.Name x c] p pos):=by
 cases hf:j8 e with
 |true=>exact Fd S (tY hf) b (pF S h hl e p hf a)|false=>exact Km S h hl b (br e S.C p a).ge (iR (Ac a hf))
def Dz(S:zv1 X)(e:Ci.E)(p:je)(h:eN Γ N sc (.expr e) p=hQ):GS X W F H0 E (.expr e) p:=by
 cases p<;>first|(exact aN h)|skip
 replace h:=aj h
 try simp! [zza] at h
 exact E8 S (br e S.C _ h.2).ge h.1
def yJ(S:zv1 X)(i:Nat)(e:Ci.E)(p:je)(h:eN Γ N sc (.set i e) p=hQ):GS X W F H0 E (.set i e) p:=by
 cases p<;>first|(exact aN h)|skip
 replace h:=ah h;simp! [Option.any_eq_true,zza,zzy] at h;let(x,b,a):=h;let(c,rfl):=k7 b;exact zI S a.1.1.1 a.1.1.2 a.1.2 a.2
def G8(S:zv1 X)(i:Nat)(e:Ci.E)(p:je)(h:eN Γ N sc (.own i e) p=hQ):GS X W F H0 E (.own i e) p:=by
 cases p<;>first|(exact aN h)|skip
 replace h:=ah h;simp! [Option.any_eq_true,zza,zzy] at h;let(x,a,h):=h;let(b,rfl):=k7 a;exact Fc S h.1.1.1 (tY h.1.2) (pF S h.1.1.1 h.1.1.2 e _ h.1.2 h.2)
def G7(S:zv1 X)(i:Nat)(p:je)(h:eN Γ N sc (.bw i) p=hQ):GS X W F H0 E (.bw i) p:=by cases p<;>exact aN h
def G6(S:zv1 X)(i:Nat)(e:Ci.E)(p:je)(h:eN Γ N sc (.app i e) p=hQ):GS X W F H0 E (.app i e) p:=by
 cases p<;>first|(exact aN h)|skip
 replace h:=ah h;simp! [Option.any_eq_true,zza,zzy] at h;let((x,m,args),c,((((d,f),g),j),o),q,r,a):=h;let(np,b,s,rfl,hl):=nK c;cases d5 r;cases j;exact Kh S d f g hl o (br e S.C q a).ge (notStar a)
def DA(S:zv1 X)(i:Nat)(e:Ci.E)(p:je)(h:eN Γ N sc (.qV i e) p=hQ):GS X W F H0 E (.qV i e) p:=by
 cases p<;>first|(exact aN h)|skip
 replace h:=ah h;simp! [Option.any_eq_true,zza,zzy] at h;let((x,m,args),c,(((d,f),g),j),q,o,a):=h;let(np,b,r,rfl,hl):=nK c;cases d5 o;cases j;exact E9 S d f g hl (br e S.C q a).ge (notStar a)
def G9(S:zv1 X)(i:Nat)(kk e:Ci.E)(p:je)(h:eN Γ N sc (.put i kk e) p=hQ):GS X W F H0 E (.put i kk e) p:=by
 cases p<;>first|(exact aN h)|skip
 replace h:=ah h;simp! [Option.any_eq_true,zza,zzy] at h;let((x,b),c,((((d,f),g),j),a),m):=h;let(np,sp,rfl):=Dp c;exact Kj S d f g j a (br kk S.C b a).ge (br e S.C _ m).ge
set_option tactic.hygienic true in
def Dy(S:zv1 X)(i:Nat)(p:je)(h:eN Γ N sc (.ng i) p=hQ):GS X W F H0 E (.ng i) p:=by
 cases p<;>first|(exact aN h)|skip
 rename_i ts v a;cases v<;>first|(exact aN h)|skip
 rename_i ks b dp;cases ks<;>first|(exact aN h)|skip
 cases b<;>first|(exact aN h)|skip
 replace h:=ah h;simp! [Option.any_eq_true,zza,zzy] at h;let(x,c,d,e):=h;let(f,rfl):=k7 c;exact E7 S d e
def wG(S:zv1 X)(i j n:Nat)(p:je)(h:eN Γ N sc (.fR i j n) p=hQ):GS X W F H0 E (.fR i j n) p:=by
 cases p<;>first|(exact aN h)|skip
 replace h:=ah h;simp! [Option.any_eq_true,zza,zzy] at h;let((x,G),g,z,o,(((((q,r),s),t),u),w),(y,m,args),A,B,e,C,H,a,((D,b),c),d):=h;let(np,sp,rfl):=Dp g;let(I,rfl):=bT o;let(K,f,L,rfl,hl):=nK A;cases B;cases d5 C;let(M,rfl):=bT a;subst D;exact zH S q r s t u w b c d hl
def DB(S:zv1 X)(a:Γ.qt=hU)(m i:Nat)(p:je)(h:eN Γ N sc (.oX m i) p=hQ):GS X W F H0 E (.oX m i) p:=by
 cases p<;>first|(exact aN h)|skip
 replace h:=ah h;simp! [Option.any_eq_true,zza,zzy] at h;let(y,b,c,d,((((((e,f),g),j),o),q),r),s):=h;let(t,rfl):=k7 b;let(u,w,z,A,B,rfl):=Lh d;exact Fb S a e f g j o q r s
def Ha(S:zv1 X)(i:Nat)(e:Ci.E)(p:je)(h:eN Γ N sc (.Dk i e) p=hQ):GS X W F H0 E (.Dk i e) p:=by
 cases p<;>first|(exact aN h)|skip
 let((x,m,args),e1,f):=ah h;let(q,a,j):=gj f;have g:=aj j;simp! [zza,zzy] at g;let((((o,r),s),b),c):=g;dsimp only at a b;subst a b;let(np,d,t,rfl,hl):=nK e1;exact Kl S o r s hl (br e S.C q c).ge (notStar c)
def Au(S:zv1 X)(j i:Nat)(e:Ci.E)(p:je)(h:eN Γ N sc (.iF j i e) p=hQ):GS X W F H0 E (.iF j i e) p:=by
 cases p<;>first|(exact aN h)|skip
 let(y,f,o):=ah h;let(B,rfl):=k7 f;let((x,m,args),e1,r):=ah o;let(q,a,s):=gj r;have g:=aj s;simp! [zza,zzy] at g;let((((((t,u),w),b),z),A),c):=g;dsimp only at a b;subst a b;let(np,d,D,rfl,hl):=nK e1;exact BL S t u w hl z A (br e S.C q c).ge (notStar c)
set_option tactic.hygienic true in
def yI(S:zv1 X)(e:Ci.E)(p:je)(h:eN Γ N sc (.ret e) p=hQ):GS X W F H0 E (.ret e) p:=by
 cases p<;>first|(exact aN h)|skip
 rename_i v a;cases v with
 |none=>exact aN h|some v=>
  replace h:=aj h
  try simp! [zza] at h
  exact Kk S h.1 (br e S.C v h.2).ge
set_option tactic.hygienic true in
def Av(S:zv1 X)(a:Γ.qt=hU)(c m:Str)(p:je)(h:eN Γ N sc (.raise c m) p=hQ):GS X W F H0 E (.raise c m) p:=by
 cases p<;>first|(exact aN h)|skip
 replace h:=aj h;simp! [Option.any_eq_true,zza,zzy] at h;let(b,(x,z),d,(((e,f),g),i),o):=h;let(np,j,r,s,rfl):=Mm d;cases e;cases f;rename_i fr q;cases Option.isNone_iff_eq_none.mp b;exact BM S a g i o
def xX{c:Ci.E}{a b:Ss}{p:je}(h:eN Γ N sc (.ite c a b) p=hQ):∃q d e pos,p=.If q d e pos/\f9 c=hQ/\aV Γ N sc c q=hQ/\dM Γ N sc a d=hQ/\dM Γ N sc b e=hQ:=by
 cases p<;>first|(exact aN h)|skip
 replace h:=aj h
 try simp! [zza] at h
 exact{_,_,_,_,rfl,h.1.1.1,h.1.1.2,h.1.2,h.2}
def Fw{c:Tg}{b:Ss}{p:je}(h:eN Γ N sc (.cL c it b) p=hQ):∃a d e pos,p=.For a d e [] pos/\eZ N sc (λZ=>hQ) c a=hQ/\oH it=hQ/\m5 Γ N sc a it d=hQ/\dM Γ N sc b e=hQ:=by
 cases p<;>first|(exact aN h)|skip
 replace h:=aj h
 try simp! [zza] at h
 cases List.isEmpty_iff.mp h.1.1.1.1;exact{_,_,_,_,rfl,h.1.1.1.2,h.1.1.2,h.1.2,h.2}
def Fx{c:Ci.E}{b:Ss}{p:je}(h:eN Γ N sc (.IU c b) p=hQ):∃q a pos,p=.While q a [] pos/\f9 c=hQ/\aV Γ N sc c q=hQ/\dM Γ N sc b a=hQ:=by
 cases p<;>first|(exact aN h)|skip
 replace h:=aj h
 try simp! [zza] at h
 cases List.isEmpty_iff.mp h.1.1.1;exact{_,_,_,rfl,h.1.1.2,h.1.2,h.2}
def xY{ps:List je}(h:dM Γ N sc .nil ps=hQ):ps=[]:=by
 cases ps with
 |nil=>rfl|cons _ _=>exact aN h
def uk{s:Ci.S}{a:Ss}{ps:List je}(h:dM Γ N sc (.cons s a) ps=hQ):(∃i,s=.bw i/\dM Γ N sc a ps=hQ)\/∃q qs,ps=q::qs/\eN Γ N sc s q=hQ/\dM Γ N sc a qs=hQ:=by
 by_cases b:∃i,s=.bw i
 .let(i,rfl):=b;exact .inl ⟨i,rfl,h⟩
 .cases ps with
  |nil=>cases s<;>first|(exact absurd ⟨_,rfl⟩ b)|(exact aN h)
  |cons p ps=>
   have c:(eN Γ N sc s p&&dM Γ N sc a ps)=hQ:=by
    cases s<;>first|(exact absurd ⟨_,rfl⟩ b)|(exact h)
   rw [zza] at c;exact .inr ⟨p,ps,rfl,c.1,c.2⟩
mutual
theorem Pk(S:zv1 X)(d:Γ.qt=hU):∀(s:Ci.S) (p:je),eN Γ N sc s p=hQ->GS X W F H0 E s p
 |.expr e,p,h=>Dz S e p h|.set i e,p,h=>yJ S i e p h|.own i e,p,h=>G8 S i e p h|.bw i,p,h=>G7 S i p h|.app i e,p,h=>G6 S i e p h|.qV i e,p,h=>DA S i e p h|.put i kk e,p,h=>G9 S i kk e p h|.Dk i e,p,h=>Ha S i e p h|.iF j i e,p,h=>Au S j i e p h|.ng i,p,h=>Dy S i p h|.fR i j n,p,h=>wG S i j n p h|.oX m i,p,h=>DB S d m i p h|.ret e,p,h=>yI S e p h|.ite c a b,p,h=>by let(q,y,t,pos,rfl,g,o,f,r):=xX h;exact BK S ((br c S.C _ o).gt g) (nZ S d a _ f) (nZ S d b _ r)|.cL z it b,p,h=>by let(u,w,t,pos,rfl,g,o,f,r):=Fw h;exact Ki S d g o (uZ it S.C u w f) (fG f _) (nZ S d b _ r)|.IU c b,p,h=>by let(q,t,pos,rfl,g,o,f):=Fx h;exact Ko S ((br c S.C _ o).gt g) (nZ S d b _ f)|.raise c m,p,h=>Av S d c m p h
theorem nZ(S:zv1 X)(b:Γ.qt=hU):∀(a:Ss) (ps:List je),dM Γ N sc a ps=hQ->AX X W F H0 E a ps
 |.nil,ps,h=>by cases xY h;exact xR
 |.cons s a,ps,h=>by
  rcases uk h with⟨i,e,c⟩|⟨q,qs,e,d,c⟩
  .have:=Fe (i:=i) (nZ S b a ps c);rw [<-e] at this;exact this
  .rw [e];exact uf (Pk S b s q d) (nZ S b a qs c)
end
mutual
noncomputable def Ma:Ci.S->Bool
 |.set _ _=>hQ|.ret _=>hQ|.ite _ a b=>nW a&&nW b|_=>hU
noncomputable def nW:Ss->Bool
 |.nil=>hQ|.cons s ss=>Ma s&&nW ss
end
mutual
theorem Tt(S:zv1 X):∀(s:Ci.S) (p:je),Ma s=hQ->eN Γ N sc s p=hQ->GS X W F H0 E s p
 |.set i e,p,_,h=>yJ S i e p h|.ret e,p,_,h=>yI S e p h|.ite c a b,p,hz,h=>by unfold Ma at hz;rw [zza] at hz;let(q,m,o,pos,rfl,d,f,g,j):=xX h;exact BK S ((br c S.C _ f).gt d) (yH S a _ hz.1 g) (yH S b _ hz.2 j)|.expr _,_,h,_=>aN h|.own _ _,_,h,_=>aN h|.bw _,_,h,_=>aN h|.app _ _,_,h,_=>aN h|.qV _ _,_,h,_=>aN h|.put _ _ _,_,h,_=>aN h|.Dk _ _,_,h,_=>aN h|.iF _ _ _,_,h,_=>aN h|.ng _,_,h,_=>aN h|.fR _ _ _,_,h,_=>aN h|.oX _ _,_,h,_=>aN h|.cL _ _ _,_,h,_=>aN h|.IU _ _,_,h,_=>aN h|.raise _ _,_,h,_=>aN h
theorem yH(S:zv1 X):∀(a:Ss) (ps:List je),nW a=hQ->dM Γ N sc a ps=hQ->AX X W F H0 E a ps
 |.nil,ps,_,h=>by cases xY h;exact xR
 |.cons s a,ps,hz,h=>by
  unfold nW at hz;rw [zza] at hz;rcases uk h with⟨i,e,b⟩|⟨q,qs,e,c,b⟩
  .rw [e] at hz;exact aN hz.1
  .rw [e];exact uf (Tt S s q hz.1 c) (yH S a qs hz.2 b)
end
end
end Ci
namespace L2
open PySem.Spec PyProof.Rows
def B5{K:zz8}{C:h9}{T:String}{b:Bool}(a:PySem.W.kitMeta T=hQ)(c:PySem.W.subIn K (.ref C) (.type T)=hG b):PySem.W.kitOne K (.ref C) (.type T)=hG b:=by
 unfold PySem.W.kitOne;split
 .rename_i e;cases zzy.mp e
 .show(if PySem.W.kitMeta T=hQ then PySem.W.subIn K (.ref C) (.type T) else hI)=hG b;rw [if_pos a];exact c
set_option tactic.hygienic true in
def LN{K:zz8}{C:h9}{i:List hV}{a:String}(X:K.In h)(hm:mg x=hG (.ref C))(q:PySem.W.excIn K C i a=hQ):OwnCls x C i a mg h:=by
 constructor
 .exact hm
 .unfold PySem.W.excIn at q;split at q
  .rename_i r cd s t;split at q
   .rename_i u b j k k2 m w o c y;simp! [zza,zzy,Bool.not_eq_true'] at q;let(((((z,A),B),D),E),F):=q;subst z A;let(G,bs,d,ns,H,hd,I,sub,L,e,f):=cd;have M:d=.ref u::b:=c;have g:f=hU:=B;have p:PySem.W.nsOkIn K ns=hQ:=E;have N:PySem.W.nsIn K ns (zu 13)=hG hI:=F;subst M g;obtain⟨ls⟩:=s;have O:ls=[j,k,k2,m,hG (.builtin w),o]:=y;subst O;exact{b,ns,G,H,bs,hd,I,sub,L,e,r,j,k,k2,m,o,_,X _ _ t,.of_isNs (PySem.W.isNs_of_in X p),PySem.W.nsMap_none_of_in X p N,PySem.W.tail_of_in X D}
   .cases q
  .cases q
end L2
namespace Ci
open L2
noncomputable abbrev Bu:List Value:=[.type (zu 22),.type "Exception",.type (zu 42),.type "object"]
structure oC(K:zz8)(mg:Str->Option hV)(Γ:Pg)(W:Wd):Prop where
 hK:W.K=K
 hm:W.mg=mg
 gs:∀q∈Γ.gs,∃u v,mg q.1=hG u/\RelV v u/\∀G,Rep W G q.2 v
 bs:∀g∈Γ.bs,mg g=hI
 QB:Γ.cs.contains (zu 22)=hU
 cls:∀c∈Γ.cs,∃C,mg c=hG (.ref C)
 xc:∀d∈W.xs,∀D,mg d=hG (.ref D)->Jj K D/\(∀c∈Γ.cs,∀C,mg c=hG (.ref C)->PySem.W.kitOne K (.ref D) (.ref C)=hG (c==d||c==(zu 23)))/\PySem.W.kitOne K (.ref D) (.type (zu 22))=hG hQ
 xs:∀c,Γ.rs.contains c=hQ->c∈W.xs
 rm:∀c,Γ.rs.contains c=hQ->∃C,mg c=hG (.ref C)/\PySem.W.excIn K C Bu (zu 19)=hQ
 Qj:Γ.cs.contains (zu 23)=hQ->∀c D,c∈W.xs->mg c=hG (.ref D)->∀T,mg (zu 23)=hG (.ref T)->PySem.W.exmOne K (.ref D) (.ref T)=hG hQ
 bm:W.ts≠[]->∃bm o,mg "__builtins__"=hG (.ref bm)/\bm≠builtinsNs/\bm≠jf/\K.lookup bm=hG o/\o.cls=.type "module"/\o.dict=hG builtinsNs/\o.data=.plain
structure Row where
 f:Str
 h:Str
 d:Def
 st:je
 hl:Bool:=hU
noncomputable abbrev fM:Type:=List Row
abbrev mi(l:fM):List Str:=l.filterMap λr=>if r.d.i5.isNone then hG r.f else hI
abbrev zQ(l:fM):List Hs:=l.filterMap λr=>r.d.i5.map λq=>⟨r.f,r.h,q.1,q.2,r.d.np⟩
abbrev tab(l:fM):List (Str×Def):=l.map λq=>(q.f,q.d)
abbrev nH(l:fM):List Str:=match l.getLast? with|some r=>if r.d.i5.isNone then [r.f] else []|none=>[]
abbrev Pg.at(Γ:Pg)(l:fM)(hl:Bool):Pg:={Γ with fs:=mi l,hs:=zQ l,hl:=hl,qt:=l.isEmpty,qs:=nH l}
structure dH(Γ:Pg)(n:Str)(d:Def)(st:je):Prop where
 sc:jx d.N (d.N.take d.np) (az st)
 np:d.np<=d.N.length
 bind:∀(kV doc pm:hV) (an:Option h9) (dD ct:hV) (us:List hV),us.length=(d.N.take d.np).length->bindArgs (PySem.W.fnOf n n (cy st) (bC st) (az st) .none kV doc pm an dD ct) {us,[]}=pure ((d.N.take d.np).zip us)
 Qg:dM Γ d.N (az st) d.body (bC st)=hQ
 Xg:(!Γ.qt||nW d.body)=hQ
theorem stM{Γ:Pg}{n:Str}{d:Def}(b:∀(kV a c:hV) (e:Option h9) (dD ct:hV) (us:List hV),us.length=(d.N.take d.np).length->bindArgs (PySem.W.fnOf n n (cy st) (bC st) (az st) .none kV a c e dD ct) {us,[]}=pure ((d.N.take d.np).zip us))
 (a1:(az st).kind=.function:=by rfl) (a2:(az st).isCoroutine=hU:=by rfl) (f:(az st).isGenerator=hU:=by rfl) (g:d.N.Nodup:=by decide+kernel) (h:d.N.take (d.N.take d.np).length=d.N.take d.np:=by rfl)
 (i:∀x∈d.N.take d.np,(az st).names.lookup x=hG .local\/(az st).names.lookup x=hG .cell:=by decide+kernel) (j:∀y∈(az st).names,y.2≠.free:=by decide+kernel) (k:d.np<=d.N.length:=by decide+kernel) (m:dM Γ d.N (az st) d.body (bC st)=hQ:=by decide+kernel) (o:(!Γ.qt||nW d.body)=hQ:=by decide+kernel):dH Γ n d st:={⟨a1,a2,f,g,h,i,j⟩,k,b,m,o}
def gN(K:zz8)(c P:h9):Prop:=∃o a d f b g h e i,K.lookup c=hG o/\o.cls=.type "code"/\o.data=.fields a/\a[11]?=hG (.ref P)/\a.getD 11 .none=.ref P/\a.getD 18 .none=.str d f/\
 a.getD 7 .none=.int b g/\a.getD 9 .none=.bool h/\a.getD 10 .none=.int e i/\c≠P
abbrev oV(n:Str):Str:=(n++".<locals>.")++(zu 4)
def yU(K:zz8)(ts:List (h9×Str))(hl:Bool)(n:Str)(st:je):Prop:=∃(f:h9) (oc:hV) (d:Option h9) (kV a e:hV) (g:Option h9) (dD ct:hV) (h:Array (Option hV)),
 PySem.W.nsIn K jf n=hG (hG (.ref f))/\K.lookup f=hG {oc,d,.func (PySem.W.fnOf n n (cy st) (bC st) (az st) .none kV a e g dD ct),h}/\PySem.W.codeIn K dD n=hQ/\PySem.W.keepIn K (.ref f)=hQ/\
 (hl=hQ->∃c P,dD=.ref c/\gN K c P/\(P,oV n)∈ts/\∀b,(P,b)∈ts->b=oV n)
def Rz{K:zz8}{ts:List (h9×Str)}{n:Str}{f:h9}{oc:hV}{d:Option h9}{kV b e:hV}{g:Option h9}{dD ct:hV}{h:Array (Option hV)}(a:PySem.W.nsIn K jf n=hG (hG (.ref f)))
 (l:K.lookup f=hG {oc,d,.func (PySem.W.fnOf n n (cy st) (bC st) (az st) .none kV b e g dD ct),h}) (c:PySem.W.codeIn K dD n=hQ) (k:PySem.W.keepIn K (.ref f)=hQ):yU K ts hU n st:={f,oc,d,kV,b,e,g,dD,ct,h,a,l,c,k,nofun}
structure AV(K:zz8)(W:Wd)(B:aF):Prop where
 any:∀g as,B g as≠.bad->dZ g=hQ
 fld:∀f q,B (bW f) [q]≠.bad->∃n o p,q=.obj n/\W.ob[n]?=hG o/\o.fs.lookup f=hG p/\B (bW f) [q]=.ok p/\qv K o.C/\cC K o.C f
structure i8(P:ig)(w:ij)(K:zz8)(mg:Str->Option hV)(base:i1)(W:Wd)(F:aF)(k:Nat)(f:Str):Prop where
 ex:∃fa fd ps,fL P w K mg base (dQ P w) k fa fd ps (AN W F f ps.length hI)/\mg f=hG (.ref fa)/\PySem.W.keepIn K (.ref fa)=hQ/\Binds K fd ps []/\∀as,F f as≠.bad->as.length=ps.length
structure AY(P:ig)(w:ij)(K:zz8)(mg:Str->Option hV)(base:i1)(W:Wd)(F:aF)(k:Nat)(q:Hs):Prop where
 ex:∃fa fd ps,fL P w K mg base (dQ P w) k fa fd ps (AN W F q.f ps.length (hG (q.g,q.idx)))/\mg q.h=hG (.ref fa)/\PySem.W.keepIn K (.ref fa)=hQ/\Binds K fd ps []/\ps.length=q.np
section
variable{K:zz8}{Γ:Pg}{W:Wd}
def zq{c p:h9}(f:K.In base)(h:gN K c p):PySem.W.CodeHd base c p:=by let(o,g,b,i,a,j,k,d,m,e,r):=h;exact{o,g,b,i,a,j,k,d,m,f _ _ e,r}
theorem Bk(M:oC K mg Γ W)(b:K.In base){F:aF}{ps:List Str}{sc:iv}(S:jx N ps sc)(L:∀f,Γ.fs.contains f=hQ->i8 P w K mg base W F k f)(O:∀q∈Γ.hs,AY P w K mg base W F k q)(r:∀f,Γ.qs.contains f=hQ->2<=k/\i8 P w K mg base W F 2 f)(hk:Γ.qt=hU->2<=k)(Q:∀g as,F g as≠.bad->Γ.fs.contains g=hQ\/dZ g=hQ)(R:∀f q,F (bW f) [q]≠.bad->∃n o p,q=.obj n/\W.ob[n]?=hG o/\o.fs.lookup f=hG p/\F (bW f) [q]=.ok p/\qv K o.C/\cC K o.C f){f:h9}{cd:hV}
 (t:Γ.hl=hQ->∃c p,cd=.ref c/\gN K c p/\(p,oV qual)∈W.ts/\∀u,(p,u)∈W.ts->u=oV qual)  {outer:List Env} {s:hW}  {E:XK} (d:cN (k+1) (A.deeper (PyProof.Rows.envOfC qual sc (zz9 s) f cd))):
 er Γ F W N sc k E (dS (dQ P w) P w K mg base N qual sc f cd A outer s H E) where
 C:={rfl,rfl,λz=>Option.isNone_iff_eq_none.mpr (d.hd (by have:=hk z;lia)),S.nd,M.hK,M.hm,M.gs,M.bs,d,λg i=>{(L g i).ex},M.QB,M.cls,M.xc,λq m=>{(O q m).ex},λf B=>{(r f B).1,{(r f B).2.ex}},Q,R,λz=>by
  let(c,p,e1,G,a,I):=t z;exact{c,p,e1,zq b G,a,I},λz=>by
  let(c,p,e1,G,a,I):=t z;let(bm,o,T,U,V,X,Y):=M.bm (λy=>by rw [y] at a;cases a);exact{bm,o,T,U,V,b _ _ X,Y},λ_ _=>rfl}
 fn:=λ_=>rfl
 own:=PassesOwn.leaving
 pass:=O0
 kind:=S.kind
 Pr:=rfl
 frame:=rfl
 xs:=M.xs
 rm:=λc Z=>let⟨C,h,_⟩:=M.rm c Z;⟨C,h⟩
 rz:=λm c z j np zp cp pos h1 h2 h3=>by let(C,hC,hx):=M.rm c h1;have i:Gl (dS (dQ P w) P w K mg base N qual sc f cd A outer s H E) c:=zzy.mp h2;refine L2.PS.imp (Df i (LN b hC hx) PySem.F.excBase_ValueError (cH rJ eB) rfl rfl (dC h3).1 (Option.isNone_iff_eq_none.mpr (d.hd (by have:=hk m;lia)))) λD σ H1 h=>{(show 1<=i2 by decide),λe he=>h C e hC he}
 Qj:=M.Qj
def n6{as:List PV}(d:ax G H)(tb:bH W G H)(l:ag W G as vs)(k:as.length<=N.length):SR W H (as.map .val++kq (N.length-as.length) .no) (start N vs) G H:=by
 have hl:=l.length;unfold L2.start;refine{by simp;lia,d,ib.refl _,λi s e=>?_,λi j p q a e1 Z Z Z=>?_,tb,tb}
 .by_cases b:i<as.length
  .rw [fP (zx6 b),dV] at e;let(p,c,rfl):=b4.mp e;let(v,f,g):=l.oN c;exact{hG v,by rw [fP (by simpa using (show i<vs.length by lia)),dV,f];rfl,v,rfl,g}
  .rw [fS (zx6 b),List.getElem?_replicate] at e;split at e
   .rename_i h;cases e;rw [zzl] at h;exact{hI,by rw [fS (by simp;lia),List.getElem?_replicate,if_pos (by rw [zzl];lia)],trivial}
   .cases e
 .exfalso;by_cases b:i<as.length
  .rw [fP (zx6 b),dV] at e1;let(p,c,e):=b4.mp e1;cases e
  .rw [fS (zx6 b),List.getElem?_replicate] at e1;split at e1<;>cases e1
def SR.O7{p:St}{f:List PV}(i:Nat)(r:SR W H0 env p G H)(h:ma W G g idx f v):SR W H0 (env.set i (.fn g idx f)) (p.set i (hG v)) G H where
 len:=zx6 r.len
 sub:=r.sub
 base:=r.base
 tab:=r.tab
 iX:=r.iX
 slot:=λj s e=>by
  by_cases k:i=j
  .subst k;have d:i<env.length:=by
    have:=(bV.mp e).1;simpa using this
   rw [fi d] at e;cases e;exact{hG v,fi (by rw [<-r.len];exact d),v,rfl,h}
  .rw [ea k] at e;let(o,y,A):=r.slot j s e;exact{o,by rw [ea k];exact y,A}
 apart:=λa b q B C e1 m t u=>by
  have ne:∀{c:Nat} {q:PV},(env.set i (.fn g idx f))[c]?=hG (.own q)->i≠c:=λ{c q} e z=>by
   subst z;have d:i<env.length:=by have:=(bV.mp e).1;simpa using this
   rw [fi d] at e;cases e
  have D:=ne e1;have E:=ne m;rw [ea D] at e1 t;rw [ea E] at m u;exact r.apart a b q B C e1 m t u
def yF{c:Type}{l r:List c}{a b:c}:(l++a::r).set l.length b=l++b::r:=by rw [List.set_append_right _ _ (a8 _),Nat.sub_self];rfl
def Ax{d:Def}{as:List PV}(k:d.np<=d.N.length)(g:ax G H)(tb:bH W G H)(l:AO W G d.i5 as vs)(e:vs.length=d.np):dI d as=hQ/\SR W H (dO d as) (start d.N vs) G H:=by
 unfold dI dO;cases h:d.i5 with
 |none=>rw [h] at l;have l:ag W G as vs:=l;exact{by rw [<-l.length,e];simp,n6 g tb l (by rw [<-l.length,e];exact k)}|some q=>
  rw [h] at l;let(xg,f,c,v,rfl,rfl,i,m):=l;have o:=i.length;have u:c.length=d.np-1/\0<d.np:=by rw [c7] at e;simp at e;lia
  have p:xg.length=d.np-1:=by lia
  refine{by simp;lia,?_};have s:=n6 (N:=d.N) g tb i (by lia);have j:=s.O7 xg.length m
  have e1:(xg.map Slot.val++kq (d.N.length-xg.length) Slot.no).set xg.length (.fn q.1 q.2 f)=((xg++f).take (d.np-1)).map .val++.fn q.1 q.2 ((xg++f).drop (d.np-1))::kq (d.N.length-d.np) Slot.no:=by
   rw [<-p,List.take_left',List.drop_left',show d.N.length-xg.length=(d.N.length-d.np)+1 by lia,List.replicate_succ]
   .have:=yF (l:=xg.map Slot.val) (r:=kq (d.N.length-d.np) Slot.no) (a:=Slot.no) (b:=.fn q.1 q.2 f);rw [zzl] at this;exact this
   .rfl
   .rfl
  have t:(start d.N c).set xg.length (hG v)=start d.N (c++[v]):=by unfold L2.start;rw [c7,List.length_singleton,show d.N.length-c.length=(d.N.length-(c.length+1))+1 by lia,List.replicate_succ,<-o];have:=yF (l:=c.map hG) (r:=kq (d.N.length-(c.length+1)) hI) (a:=hI) (b:=hG v);rw [zzl] at this;rw [this];simp
  rw [e1,t] at j;exact j
def Ib(M:oC K mg Γ W)(u:K.In base){F:aF}{n nf:Str}{d:Def}{i:h9}{fd:FuncData}(St:dH Γ n d st)(y:MK K n n st i fd)(z:∀f,Γ.fs.contains f=hQ->i8 P w K mg base W F k f)(B:∀q∈Γ.hs,AY P w K mg base W F k q)(D:∀f,Γ.qs.contains f=hQ->2<=k/\i8 P w K mg base W F 2 f)(hk:Γ.qt=hU->2<=k)(I:∀g as,F g as≠.bad->Γ.fs.contains g=hQ\/dZ g=hQ)(L:∀f q,F (bW f) [q]≠.bad->∃n o p,q=.obj n/\W.ob[n]?=hG o/\o.fs.lookup f=hG p/\F (bW f) [q]=.ok p/\qv K o.C/\cC K o.C f)
 (O:Γ.hl=hQ->∃c p,fd.code=.ref c/\gN K c p/\(p,oV n)∈W.ts/\∀j,(p,j)∈W.ts->j=oV n):
 fL P w K mg base (dQ P w) (k+2) i fd (d.N.take d.np) (AN W (λ_ as=>aH F d as) nf (d.N.take d.np).length d.i5):=by
 have a:(d.N.take d.np).length=d.np:=by rw [List.length_take];have:=St.np;lia
 let(oc,od,kV,R,pm,an,dD,ct,oZ,rfl,S,T):=y.ex;refine Ia S T St.sc (λU H Q E h=>h.1) λA outer s H U Q E V h=>?_;let(hl,G,as,X,tb,l,o):=h;rw [a] at hl;let(Y,sr):=Ax St.np X tb l hl;have m:=Bk (outer:=outer) (s:=s) (H:=H) (E:=E) M u St.sc z B D hk I L O V
 refine{VL W F H E d.body,(by
  cases t:Γ.qt with
  |false=>exact nZ m t d.body _ St.Qg|true=>exact yH m d.body _ (by have:=St.Xg;rw [t] at this;exact this) St.Qg),G,dO d as,sr,?_}
 dsimp only at o;unfold aH at o;rw [if_pos Y] at o;cases r:bj F d.body (dO d as) with
 |bad=>rw [r] at o;exact o|exc c=>rw [r] at o;exact o|ok fl=>
  rw [r] at o;cases fl with
  |nx env=>exact λZ b e sr g=>o .aL b e g .n|rt p=>exact λv b e rv g=>o v b e g rv|bk env=>exact o.elim|ct env=>exact o.elim
def AllK(K:zz8)(ts:List (h9×Str))(Γ:Pg):fM->Prop
 |[]=>True|r::l=>yU K ts r.hl r.h r.st/\dH (Γ.at l r.hl) r.h r.d r.st/\((l.map (·.f)).contains r.f=hU/\(r.d.i5.isNone==!dZ r.f)=hQ/\(r.d.i5.isNone=hQ->r.f=r.h)/\Qd r.f=hU)/\AllK K ts Γ l
def rD(M:oC K mg Γ W)(l:fM)(hl:Bool):oC K mg (Γ.at l hl) W:=⟨M.hK,M.hm,M.gs,M.bs,M.QB,M.cls,M.xc,M.xs,M.rm,M.Qj,M.bm⟩
def i8.mono{F:aF}(h:i8 P w K mg base W F j f)(hk:j<=k):i8 P w K mg base W F k f:=by let(a,fd,b,c,d):=h.ex;exact{a,fd,b,c.mono hk,d}
def n4{F a:aF}{b:Str}{n:Nat}{q:Option (Str×List Nat)}(e:∀as,a b as=F f as):AN W a b n q=AN W F f n q:=by
 funext c H Q E
 unfold AN;simp! [e]
def i8.swap{F a:aF}(h:i8 P w K mg base W F k f)(e:∀as,a f as=F f as):i8 P w K mg base W a k f:=by let(b,fd,c,d,g,i,j,m):=h.ex;refine{b,fd,c,?_,g,i,j,λas o=>m as (by rw [<-e];exact o)};rw [n4 e];exact d
def AY.swap{F a:aF}{q:Hs}(h:AY P w K mg base W F j q)(hk:j<=k)(e:∀as,a q.f as=F q.f as):AY P w K mg base W a k q:=by let(b,fd,c,d,g,i,m,o):=h.ex;refine{b,fd,c,?_,g,i,m,o};rw [n4 e];exact d.mono hk
variable{B:aF}
def iq{r:Row}{l:fM}(h:(g==r.f)=hU)(as:List PV):aA B (tab (r::l)) g as=aA B (tab l) g as:=by show(if(g==r.f)=hQ then _ else _)=_;rw [h];rfl
def tM{r:Row}{l:fM}(as:List PV):aA B (tab (r::l)) r.f as=aH (aA B (tab l)) r.d as:=by show(if(r.f==r.f)=hQ then _ else _)=_;rw [beq_self_eq_true];rfl
theorem mC(a:∀g as,B g as≠.bad->dZ g=hQ):∀(l:fM) {ts:List (h9×Str)},AllK K ts Γ l->∀g as,aA B (tab l) g as≠.bad->(mi l).contains g=hQ\/dZ g=hQ
 |[],_,_,g,as,h=>.inr (a g as h)|r::l,ts,⟨_,_,⟨_,b,_,_⟩,i⟩,g,as,h=>by
  by_cases e:(g==r.f)=hQ
  .have j:=zzy.mp e
   subst j;cases c:r.d.i5 with
   |none=>left;unfold mi;rw [List.filterMap_cons,c];simp|some q=>right;rw [c] at b;simpa using b
  .rw [iq (zx6 e)] at h;rcases mC a l i g as h with z|z
   .left;unfold mi at z⊢;rw [List.filterMap_cons];split
    .exact z
    .rw [List.contains_cons,z,Bool.or_true]
   .exact .inr z
def iN:∀{l:fM} {f:Str},(nH l).contains f=hQ->l≠[]/\(mi l).contains f=hQ:=by
 intro l f h;unfold nH at h;cases e:l.getLast? with
 |none=>rw [e] at h;cases h
 |some r=>
  rw [e] at h;have hm:=List.mem_of_getLast? e;refine{λz=>(by rw [z] at hm;cases hm),?_};dsimp only at h;split at h
  .rename_i a;have b:f=r.f:=zx6 h;rw [fb,b];exact gS.mpr {r,hm,if_pos a}
  .cases h
def En(f:Str):Qd (bW f)=hQ:=by unfold Qd bW;show((("@":Str)++f).cps[0]?==hG 64)=hQ;have e:(("@":Str)++f).cps=("@":Str).cps++f.cps:=rfl;rw [e];simp [Array.getElem?_append];rfl
theorem mD(a:AV K W B):∀(l:fM) {ts:List (h9×Str)},AllK K ts Γ l->∀f q,aA B (tab l) (bW f) [q]≠.bad->∃n o p,q=.obj n/\W.ob[n]?=hG o/\o.fs.lookup f=hG p/\aA B (tab l) (bW f) [q]=.ok p/\qv K o.C/\cC K o.C f
 |[],_,_,f,q,h=>a.fld f q h|r::l,ts,⟨_,_,⟨_,_,_,h0⟩,b⟩,f,q,h=>by
  have e:(bW f==r.f)=hU:=by
   cases z:bW f==r.f with
   |false=>rfl|true=>rw [<-zzy.mp z,En] at h0;cases h0
  rw [iq e] at h⊢;exact mD a l b f q h
set_option tactic.hygienic true in
theorem vC(D:AV K W B)(M:oC K mg Γ W)(t:K.In base)(G:base.Ns jf mg):∀(l:fM),AllK K W.ts Γ l->(∀f,(mi l).contains f=hQ->i8 P w K mg base W (aA B (tab l)) (2*l.length) f)/\(∀q∈zQ l,AY P w K mg base W (aA B (tab l)) (2*l.length) q)/\∀f,(nH l).contains f=hQ->i8 P w K mg base W (aA B (tab l)) 2 f
 |[],_=>{λf a=>by simp [mi] at a,λq b=>by simp [zQ] at b,λf a=>absurd rfl (iN a).1}|r::l,j=>by
  let(he,hs,(E,hnm,F,_),H):=j;let(T,m,o):=vC D M t G l H;have p:l≠[]->2<=2*l.length:=λz=>by have:=List.length_pos_iff.mpr z;lia
  let(U,oc,od,kV,doc,pm,an,dD,ct,oZ,e1,e2,e3,I,e5):=he;have L:=q8 (st:=r.st) e2 e3 I;have ok:=Ib (P:=P) (w:=w) (nf:=r.f) (rD M l r.hl) t (k:=2*l.length) hs L (λg u=>T g u) (λq b=>m q b) (λf a=>{p (iN a).1,o f a}) (λz=>p λy=>by subst y;cases z) (mC D.any l H) (mD D l H) e5
  have O:∀g,(l.map (·.f)).contains g=hQ->(g==r.f)=hU:=λg u=>by
   cases z:g==r.f with
   |false=>rfl|true=>rw [zzy.mp z,E] at u;cases u
  have sp:AN W (λ_ as=>aH (aA B (tab l)) r.d as) r.f (r.d.N.take r.d.np).length r.d.i5=AN W (aA B (tab (r::l))) r.f (r.d.N.take r.d.np).length r.d.i5:=n4 λas=>(tM as).symm;rw [sp] at ok;have c:(r.d.N.take r.d.np).length=r.d.np:=by rw [List.length_take];have:=hs.np;lia
  have V:∀f,(mi l).contains f=hQ->(l.map (·.f)).contains f=hQ:=λf a=>by
   rw [fb] at a⊢;unfold mi at a;let(x,Q,e):=gS.mp a;split at e
   .cases e;exact List.mem_map_of_mem (f:=(·.f)) Q
   .cases e
  have h:∀f,(mi (r::l)).contains f=hQ->i8 P w K mg base W (aA B (tab (r::l))) (2*(r::l).length) f:=λf a=>by
   by_cases X:(f==r.f)=hQ/\r.d.i5=hI
   .let(h1,R):=X;have e:=zzy.mp h1;subst e;refine{U,_,r.d.N.take r.d.np,by rw [R] at ok;exact ok,?_,I,L.binds hs.bind,λas A=>?_}
    .rw [F (by rw [R];rfl)];exact PySem.W.mg_of t G e1
    .rw [tM] at A;unfold aH at A;by_cases C:dI r.d as=hQ
     .unfold dI at C;rw [R] at C;rw [c];exact zzy.mp C
     .rw [if_neg C] at A;exact absurd rfl A
   .have Y:(mi l).contains f=hQ:=by
     unfold mi at a⊢;rw [List.filterMap_cons] at a;split at a
     .exact a
     .rename_i y S;split at S
      .rename_i s;cases S;rw [List.contains_cons,gd] at a;rcases a with z|z
       .exact absurd {z,Option.isNone_iff_eq_none.mp s} X
       .exact z
      .cases S
    exact((T f Y).mono (by rw [cS];lia)).swap λas=>iq (O f (V f Y)) as
  refine{h,λq b=>?_,λf a=>?_}
  rotate_left
  .cases l with
   |nil=>exact h f (iN a).2|cons x Z=>
    have e:nH (r::x::Z)=nH (x::Z):=by unfold nH;rw [List.getLast?_cons_cons]
    rw [e] at a;exact(o f a).swap λas=>iq (O f (V f (iN a).2)) as
  .unfold zQ at b;rw [List.filterMap_cons] at b;have i:q∈zQ l->AY P w K mg base W (aA B (tab (r::l))) (2*(r::l).length) q:=λb=>by
    refine(m q b).swap (by rw [cS];lia) λas=>iq (O q.f ?_) as;unfold zQ at b;let(x,Q,e):=gS.mp b;let(y,_,rfl):=b4.mp e;rw [fb];exact List.mem_map_of_mem (f:=(·.f)) Q
   cases s:r.d.i5 with
   |none=>rw [s] at b;exact i b|some y=>
    rw [s] at b;rcases e9.mp b with z|z
    .subst z;rw [s] at ok;exact{U,_,r.d.N.take r.d.np,ok,PySem.W.mg_of t G e1,I,L.binds hs.bind,c}
    .exact i z
end
structure OS where
 c:Str
 fs:List (Str×PV)
noncomputable abbrev Sg:=List OS
abbrev oJ(s:Sg):aF:=λg as=>match as with
 |[.obj n]=>(match s[n]? with
  |some o=>(match o.fs.find? λq=>bW q.1==g with
   |some q=>.ok q.2|none=>.bad)
  |none=>.bad)
 |_=>.bad
inductive Rs(α:Type) where
 |ok (a:α) (s:Sg)|exc (c:Str) (s:Sg)|bad
abbrev Rs.bind{b d:Type}:Rs b->(b->Sg->Rs d)->Rs d
 |.ok a s,f=>f a s|.exc c s,_=>.exc c s|.bad,_=>.bad
abbrev Rs.of{b:Type}(r:Res b)(s:Sg):Rs b:=match r with
 |.ok a=>.ok a s|.exc c=>.exc c s|.bad=>.bad
abbrev Rs.well{b:Type}:Rs b->Rs b
 |.ok a s=>.ok a s|_=>.bad
noncomputable abbrev eT:=Str->List PV->Sg->Rs PV
abbrev jw(c m:Str):Str:=(c++".")++m
mutual
inductive X2 where
 |pu (e:E)
 |sD (f:Str) (as:Es)
 |met (o:E) (c m:Str) (as:Es)
 |new (c:Str) (as:Es)
 |tup (as:A3)
 |cmp (o:sN) (a b:X2)
 |comp (k:Nat) (aM:List Nat) (tg:Tg) (it:I) (elt:X2)
inductive A3 where
 |nil|cons (x:X2) (xs:A3)
end
abbrev bD(f:PV->Sg->Rs PV):List PV->Sg->Rs (List PV)
 |[],s=>.ok [] s|x::xs,s=>(f x s).well.bind λy a=>(bD f xs a).bind λys b=>.ok (y::ys) b
section
variable(F1:Sg->aF)(F2:eT)
abbrev gY(s:Sg)(n:Nat)(c:Str):Bool:=match s[n]? with
 |some o=>o.c==c|none=>hU
abbrev wb(c:Str)(ps:List PV)(s:Sg):Rs PV:=(F2 (jw c (zu 13)) (.obj s.length::ps) (s++[{c,[]}])).bind λp a=>if nC p then .ok (.obj s.length) a else .bad
mutual
noncomputable def eV:X2->Sl->Sg->Rs PV
 |.pu e,env,s=>.of (aE (F1 s) e env) s|.sD f as,env,s=>(Rs.of (bf (F1 s) as env) s).bind λps s=>F2 f ps s|.met o c m as,env,s=>(Rs.of (aE (F1 s) o env) s).bind λp s=>(match p with
  |.obj n=>if gY s n c then(Rs.of (bf (F1 s) as env) s).bind λps s=>F2 (jw c m) (.obj n::ps) s else .bad
  |_=>.bad)
 |.new c as,env,s=>(Rs.of (bf (F1 s) as env) s).bind λps s=>wb F2 c ps s|.tup as,env,s=>(iS as env s).bind λps s=>.ok (.tup ps) s|.cmp o a b,env,s=>(eV a env s).bind λp s=>(eV b env s).bind λq s=>.of (cW o p q) s|.comp k d g it elt,env,s=>(Rs.of (kR (F1 s) it env) s).bind λxs s=>if xs.length<cV then(bD (λx s=>(Rs.of (g.put x (kq k .no++eK env d)) s).bind λh s=>eV elt h s) xs s).bind λys s=>.ok (.lst ys) s else .bad
noncomputable def iS:A3->Sl->Sg->Rs (List PV)
 |.nil,_,s=>.ok [] s|.cons x xs,env,s=>(eV x env s).bind λp s=>(iS xs env s).bind λps s=>.ok (p::ps) s
end
end
inductive T2 where
 |pu (e:E)|cmp (o:sN) (a b:X2)|or (a b:T2)
abbrev Qe(p:PV)(s:Sg):Rs Bool:=match p with
 |.bl b=>.ok b s|_=>.bad
section
variable(F1:Sg->aF)(F2:eT)
abbrev vM:T2->Sl->Sg->Rs Bool
 |.pu e,env,s=>(Rs.of (aE (F1 s) e env) s).bind Qe|.cmp o a b,env,s=>(eV F1 F2 (.cmp o a b) env s).bind Qe|.or a b,env,s=>(vM a env s).bind λt s=>if t then .ok hQ s else vM b env s
end
mutual
inductive S2 where
 |p (s:S)
 |set (i:Nat) (x:X2)
 |ex (x:X2)
 |ret (x:X2)
 |kA (c:Str) (i:Nat) (f:Str) (e:E)
 |ite (c:T2) (a b:oz)
 |cL (tg:Tg) (it:I) (b:oz)
inductive oz where
 |nil|cons (s:S2) (ss:oz)
end
abbrev gk(f:Str)(p:PV):List (Str×PV)->List (Str×PV)
 |[]=>[(f,p)]|(g,q)::r=>if g=f then(g,p)::r else(g,q)::gk f p r
abbrev my(s:Sg)(n:Nat)(f:Str)(p:PV):Rs Unit:=match s[n]? with
 |some o=>if o.fs.length<1000 then .ok () (s.set n {o.c,gk f p o.fs}) else .bad
 |none=>.bad
abbrev df(body:PV->Sl->Sg->Rs Fl):List PV->Sl->Sg->Rs Fl
 |[],env,s=>.ok (.nx env) s|x::xs,env,s=>(body x env s).bind λf s=>match f with
  |.nx a=>df body xs a s|.ct a=>df body xs a s|.bk a=>.ok (.nx a) s|.rt p=>.ok (.rt p) s
abbrev Mp(f:Fl)(s:Sg)(k:Sl->Sg->Rs Fl):Rs Fl:=match f with
 |.nx env=>k env s|f=>.ok f s
section
variable(F1:Sg->aF)(F2:eT)
mutual
noncomputable def fO:S2->Sl->Sg->Rs Fl
 |.p st,env,s=>.of (dj (F1 s) st env) s|.set i x,env,s=>(eV F1 F2 x env s).bind λp s=>.ok (.nx (env.set i (.val p))) s|.ex x,env,s=>(eV F1 F2 x env s).bind λZ s=>.ok (.nx env) s|.ret x,env,s=>(eV F1 F2 x env s).bind λp s=>.ok (.rt p) s|.kA c i f e,env,s=>(Rs.of (aE (F1 s) e env) s).bind λp s=>(match env[i]? with
  |some (.val (.obj n))=>if gY s n c then(my s n f p).bind λZ s=>.ok (.nx env) s else .bad
  |_=>.bad)
 |.ite c a b,env,s=>(vM F1 F2 c env s).bind λt s=>if t then aP a env s else aP b env s
 |.cL d it b,env,s=>(Rs.of (kR (F1 s) it env) s).bind λxs s=>df (λx env s=>(Rs.of (d.put x env) s).bind λg s=>aP b g s) xs env s
noncomputable def aP:oz->Sl->Sg->Rs Fl
 |.nil,env,s=>.ok (.nx env) s|.cons st ss,env,s=>(fO st env s).bind λf s=>Mp f s (aP ss)
end
end
structure D2 where
 N:List Str
 np:Nat
 body:oz
abbrev og(d:D2)(as:List PV):Sl:=as.map .val++kq (d.N.length-as.length) .no
abbrev fu(F1:Sg->aF)(a:eT)(d:D2)(as:List PV)(s:Sg):Rs PV:=
 if as.length==d.np then(aP F1 a d.body (og d as) s).bind λf s=>(match f with
  |.nx _=>.ok .aL s|.rt p=>.ok p s|_=>.bad)
 else .bad
abbrev dE(F1:Sg->aF):List (Str×D2)->eT
 |[],_,_,_=>.bad|(n,d)::r,f,as,s=>if f==n then fu F1 (dE F1 r) d as s else dE F1 r f as s
noncomputable abbrev Wd.at(W:Wd)(ob:List Ob):Wd:={W with ob:=ob}
abbrev aX(l:List Ob):Sg:=l.map λo=>⟨o.c,o.fs⟩
def yW(ob d:List Ob):Prop:=∀(n:Nat) (o:Ob),ob[n]?=hG o->∃b,d[n]?=hG b/\b.a=o.a/\b.dx=o.dx/\b.C=o.C/\b.c=o.c
def yW.refl(ob:List Ob):yW ob ob:=λZ o h=>⟨o,h,rfl,rfl,rfl,rfl⟩
theorem yW.trans{a b c:List Ob}(h:yW a b)(k:yW b c):yW a c:=λn o e=>by let(d,e1,f,g,i,j):=h n o e;let(m,p,q,k2,r,s):=k n d e1;exact{m,p,q.trans f,k2.trans g,r.trans i,s.trans j}
section
variable{W:Wd}{ob aO:List Ob}
mutual
theorem Rep.at(i:yW ob aO):∀(p:PV) {v:V},Rep (W.at ob) G p v->Rep (W.at aO) G p v
 |.aL,_,h=>by simpa only [Rep] using h|.bl b,_,h=>by simpa only [Rep] using h|.int _,_,h=>by simpa only [Rep] using h|.str z,_,h=>by simpa only [Rep] using h|.tup xs,_,h=>by simp! [Rep] at h⊢;let(a,vs,e,q,l):=h;exact{a,vs,e,q,ag.at i xs l}|.lst xs,_,h=>by simp! [Rep] at h⊢;let(a,vs,e,q,l):=h;exact{a,vs,e,q,ag.at i xs l}|.exc c,_,h=>by simpa only [Rep] using h|.bE ks vs,_,h=>by simp! [Rep] at h⊢;let(a,o,d,e,n,m,l):=h;exact{a,o,d,e,n,m,ag.at i vs l}|.obj n,_,h=>by simp! [Rep] at h⊢;let(o,e,rfl):=h;let(f,g,j,_):=i n o e;exact{f,g,by rw [j]}
theorem ag.at(i:yW ob aO):∀(ps:List PV) {vs:List V},ag (W.at ob) G ps vs->ag (W.at aO) G ps vs
 |[],_,h=>by simpa only [ag] using h|p::ps,_,h=>by simp! [ag] at h⊢;let(v,r,e,a,b):=h;exact{v,r,e,Rep.at i p a,ag.at i ps b}
end
end
def IY(o b:HO):Prop:=(∃C dx fs c,o=.ins C dx fs/\b=.ins C dx c)\/((∀a,o≠.hJ a)/\b=o)\/∃a m,o=.hJ a/\b=.hJ (a++m)
def IY.refl(o:HO):IY o o:=by
 cases o with
 |hJ a=>exact .inr (.inr {a,#[],rfl,by simp})|_=>exact .inr (.inl {(λZ z=>nomatch z),rfl})
def IY.trans{a b c:HO}(h:IY a b)(k:IY b c):IY a c:=by
 rcases h with⟨C,dx,fs,j,rfl,rfl⟩|⟨n,rfl⟩|⟨d,m,rfl,rfl⟩
 .rcases k with⟨o,f,gs,g,e,rfl⟩|⟨_,rfl⟩|⟨_,_,e,_⟩
  .cases e;exact .inl {_,_,_,_,rfl,rfl}
  .exact .inl {_,_,_,_,rfl,rfl}
  .cases e
 .exact k
 .rcases k with⟨_,_,_,_,e,_⟩|⟨n,_⟩|⟨p,i,e,rfl⟩
  .cases e
  .exact absurd rfl (n _)
  .cases e;exact .inr (.inr {d,m++i,rfl,by rw [Array.append_assoc]})
def vx(H H':Hp):Prop:=∀b o,H b=hG o->∃a,H' b=hG a/\IY o a
def vx.refl(H:Hp):vx H H:=λZ o h=>{o,h,.refl o}
theorem vx.trans{d e:Hp}(a:vx H d)(b:vx d e):vx H e:=λc o h=>by let(f,e1,g):=a c o h;let(i,j,k2):=b c f e1;exact{i,j,g.trans k2}
def ib.Ph(h:ib H H'):vx H H':=λb o e=>by
 rcases h b o e with⟨n,e1⟩|⟨a,m,rfl,e1⟩
 .exact{o,e1,.inr (.inl ⟨n,rfl⟩)}
 .exact{_,e1,.inr (.inr ⟨a,m,rfl,rfl⟩)}
def vx.has(h:vx H H')(z:H a≠hI):H' a≠hI:=by
 cases e:H a with
 |none=>exact absurd e z|some o=>let(c,b,_):=h a o e;rw [b];exact nofun
theorem vx.iD(h:vx H H')(z:H a≠hI)(n:∀vs,H a≠hG (.tup vs)):∀vs,H' a≠hG (.tup vs):=λvs y=>by
 cases e:H a with
 |none=>exact absurd e z|some o=>
  let(c,b,k):=h a o e
  rw [y] at b;cases b;rcases k with⟨_,_,_,_,_,q⟩|⟨_,q⟩|⟨_,_,_,q⟩
  .cases q
  .exact n vs (by rw [e,q])
  .cases q
def vx.at(h:vx H H'){o:HO}(e:H a=hG o)(n:¬Eh o):H' a=hG o:=by
 let(c,b,k):=h a o e
 rcases k with⟨_,_,_,_,rfl,_⟩|⟨_,rfl⟩|⟨_,_,rfl,_⟩
 .exact absurd trivial n
 .exact b
 .exact absurd trivial n
structure gW(W:Wd)(ob:List Ob)(G H:Hp)(aO:List Ob)(G' H':Hp):Prop where
 ids:yW ob aO
 g:ax G G'
 h:vx H H'
 sub:ax G' H'
 own:∀a,H a≠hI->(∀vs,H a≠hG (.tup vs))->G a=hI->G' a=hI
 tab:bH (W.at ob) G H->bH (W.at aO) G' H'
section
variable{W:Wd}{ob aO fX qk:List Ob}{G' G1 H1 G2 H2:Hp}
def gW.refl(s:ax G H):gW W ob G H ob G H:={.refl _,.refl _,.refl _,s,λZ Z Z h=>h,id}
def gW.trans(a:gW W ob G H fX G1 H1)(b:gW W fX G1 H1 qk G2 H2):gW W ob G H qk G2 H2:=
 {a.ids.trans b.ids,a.g.trans b.g,a.h.trans b.h,b.sub,λx c d e=>b.own x (a.h.has c) (a.h.iD c d) (a.own x c d e),λt=>b.tab (a.tab t)}
def aD.oQ(g:aD (W.at ob) G H G' H'):gW W ob G H ob G' H':={.refl _,g.g,g.h.Ph,g.sub,g.own,g.tab}
def gW.rep(g:gW W ob G H aO G' H')(h:Rep (W.at ob) G p v):Rep (W.at aO) G' p v:=Rep.same g.g p (Rep.at g.ids p h)
def gW.GN{p:List PV}{v:List V}(g:gW W ob G H aO G' H')(h:ag (W.at ob) G p v):ag (W.at aO) G' p v:=ag.same g.g p (ag.at g.ids p h)
abbrev Ec(H0 H':Hp):Hp:=λb=>match H' b with
 |some (.ins C dx fs)=>hG (.ins C dx fs)|_=>H0 b
def yy{b C dx:h9}{fs:List (Str×V)}(e:H' b=hG (.ins C dx fs)):Ec H0 H' b=hG (.ins C dx fs):=by unfold Ec;rw [e]
set_option tactic.hygienic true in
def km{b:h9}(e:∀C dx fs,H' b≠hG (.ins C dx fs)):Ec H0 H' b=H0 b:=by
 unfold Ec;split
 .rename_i C dx fs z;exact absurd z (e C dx fs)
 .rfl
def Dj(b:h9):(∃C dx fs,H' b=hG (.ins C dx fs)/\Ec H0 H' b=hG (.ins C dx fs))\/((∀C dx fs,H' b≠hG (.ins C dx fs))/\Ec H0 H' b=H0 b):=by
 by_cases h:∃C dx fs,H' b=hG (.ins C dx fs)
 .let(C,dx,fs,e):=h;exact .inl {C,dx,fs,e,yy e}
 .have n:∀C dx fs,H' b≠hG (.ins C dx fs):=λC dx fs z=>h ⟨C,dx,fs,z⟩;exact .inr {n,km n}
def ma.at{j:List PV}(i:yW ob aO)(h:ma (W.at ob) G g idx j v):ma (W.at aO) G g idx j v:=by let(f,k,oc,m,t,o,p,a,body,b,c,cl,Z,q,e,d):=h;exact{f,k,oc,m,t,o,p,a,body,b,c,cl,Z,q,e,{d.lg,d.fo,d.co,d.cd,d.cn,d.fz,d.cz,d.inj,d.has,d.cells,d.zs,d.zc,d.vals,d.len,ag.at i j d.rep}}
def S7(h:Own (W.at ob) H0 G H p v)(g:gW W ob G H aO G' H'):Own (W.at aO) (Ec H0 H') G' H' p v:=by
 cases p with
 |lst xs=>let(a,c,e,b,d,f,l):=h;have k:=g.h.at b (λz=>z);exact{a,c,e,k,g.own a (by rw [b];exact nofun) (by rw [b];exact λZ z=>nomatch z) d,by rw [km (by rw [k];exact λZ Z Z z=>nomatch z)];exact f,g.GN l}|bE ks i=>let(a,c,e,n,b,d,f,l):=h;have k:=g.h.at b (λz=>z);exact{a,c,e,n,k,g.own a (by rw [b];exact nofun) (by rw [b];exact λZ z=>nomatch z) d,by rw [km (by rw [k];exact λZ Z Z z=>nomatch z)];exact f,g.GN l}|_=>exact h.elim
theorem SR.oQ(r:SR (W.at ob) H0 env σ G H)(g:gW W ob G H aO G' H'):SR (W.at aO) (Ec H0 H') env σ G' H' where
 len:=r.len
 sub:=g.sub
 base:=λb o e=>by
  rcases Dj (H0:=H0) (H':=H') b with⟨C,dx,fs,e1,j⟩|⟨n,j⟩
  .rw [j] at e;cases e;exact .inl {(λZ z=>nomatch z),e1}
  .rw [j] at e;rcases r.base b o e with⟨k,u⟩|⟨w,m,rfl,u⟩
   .let(E,d,c):=g.h b o u
    rcases c with⟨_,_,_,_,_,rfl⟩|⟨_,rfl⟩|⟨w,_,rfl,_⟩
    .exact absurd d (n _ _ _)
    .exact .inl ⟨k,d⟩
    .exact absurd rfl (k w)
   .let(E,d,c):=g.h b _ u
    rcases c with⟨_,_,_,_,z,_⟩|⟨k,_⟩|⟨T,F,z,rfl⟩
    .cases z
    .exact absurd rfl (k _)
    .cases z;exact .inr {w,m++F,rfl,by rw [d,Array.append_assoc]}
 slot:=λi s e=>by
  let(o,A,f):=r.slot i s e
  refine{o,A,?_};cases s with
  |no=>exact trivial|val p=>let(v,e,q):=f;exact{v,e,g.rep q}|own p=>let(v,e,q):=f;exact{v,e,S7 q g}|fn _ _ _=>let(v,e,q):=f;exact{v,e,(q.at g.ids).same g.g}|DZ U=>let(a,e,A,f,I,n):=f;have k:=g.h.at A (λz=>z);exact{a,e,k,g.own a (by rw [A];exact nofun) (by rw [A];exact λZ z=>nomatch z) f,by rw [km (by rw [k];exact λZ Z Z z=>nomatch z)];exact I,n}
 apart:=r.apart
 tab:=g.tab r.tab
 iX:=by
  have t:=g.tab r.tab;refine{λP q m=>?_,λn o e=>?_}
  .let(B,K,e1,_):=t.t P q m;let(V,w,L,M,N):=r.iX.t P q m;refine{B,w,by rw [km (by rw [e1];exact λZ Z Z z=>nomatch z)];exact L,M,λD O y=>?_};let(Q,oc,R,t,e1,j,u,d):=N D O y;exact{Q,oc,R,t,e1,g.g _ _ j,u,d}
  .let(B,S,e1,l):=t.o n o e;exact{B,S,yy e1,l}
structure Ent(ob:List Ob)(G H:Hp)(aO:List Ob)(G' H0:Hp):Prop where
 ids:yW ob aO
 g:ax G G'
 h:vx H H0
 own:∀a,H a≠hI->(∀vs,H a≠hG (.tup vs))->G a=hI->G' a=hI
variable{aG:List Ob}{Ge He:Hp}
def Ent.refl:Ent ob G H ob G H:={.refl _,.refl _,.refl _,λZ Z Z h=>h}
def Ent.oQ(n:Ent aG Ge He ob G H0)(r:SR (W.at ob) H0 env σ G H):gW W aG Ge He ob G H:={n.ids,n.g,n.h.trans r.base.Ph,r.sub,n.own,λZ=>r.tab}
theorem Ent.on(n:Ent aG Ge He ob G H0)(r:SR (W.at ob) H0 env σ G H)(g:gW W ob G H aO G' H'):Ent aG Ge He aO G' (Ec H0 H') where
 ids:=n.ids.trans g.ids
 g:=n.g.trans g.g
 h:=λb o e=>by
  let(f,e1,i):=n.h b o e
  rcases Dj (H0:=H0) (H':=H') b with⟨C,dx,fs,p,c⟩|⟨_,c⟩
  .let(q,s,t):=r.base.Ph b f e1;let(y,j,u):=g.h b q s;rw [p] at j;cases j;exact{_,c,i.trans (t.trans u)}
  .exact{f,by rw [c];exact e1,i}
 own:=λa d m w=>by have k:=n.h.trans r.base.Ph;exact g.own a (k.has d) (k.iD d m) (n.own a d m w)
def Ent.step(n:Ent aG Ge He ob G H0)(g:aD (W.at ob) G H0 G' H'):Ent aG Ge He ob G' H0:={n.ids,n.g.trans g.g,n.h,λa b c d=>g.own a (n.h.has b) (n.h.iD b c) (n.own a b c d)}
def Ent.fin(n:Ent aG Ge He ob G H0)(t:bH (W.at ob) G H0)(g:aD (W.at ob) G H0 G' H'):gW W aG Ge He ob G' H':={n.ids,n.g.trans g.g,n.h.trans g.h.Ph,g.sub,λa b c d=>g.own a (n.h.has b) (n.h.iD b c) (n.own a b c d),λZ=>g.tab t}
end
structure oE(K:zz8)(mg:Str->Option hV)(ob:List Ob):Prop where
 inj:∀(n m:Nat) (o o':Ob),ob[n]?=hG o->ob[m]?=hG o'->o.a=o'.a->n=m
 cls:∀(n:Nat) (o:Ob),ob[n]?=hG o->mg o.c=hG (.ref o.C)/\qv K o.C/\∀f p,o.fs.lookup f=hG p->cC K o.C f
def Bw(h:bW f=bW g):f=g:=by unfold bW at h;have e:∀x:Str,(("@":Str)++x).cps=("@":Str).cps++x.cps:=λZ=>rfl;have a:=congrArg Str.cps h;rw [e,e] at a;have b:=Array.append_inj_right a rfl;cases f;cases g;exact congrArg Str.mk b
def wH(f:Str):dZ (bW f)=hQ:=by unfold dZ bW;have e:(("@":Str)++f).cps=("@":Str).cps++f.cps:=rfl;rw [e,Array.toList_append,List.contains_eq_mem];exact zzh (eu _ (by decide))
theorem lH{q:Str×PV}:∀{fs:List (Str×PV)},(fs.find? λq=>bW q.1==bW f)=hG q->fs.lookup f=hG q.2
 |[],h=>by cases h
 | (g,p)::fs,h=>by
  rw [List.find?_cons] at h;rw [hB];cases e:bW g==bW f with
  |true=>rw [e] at h;cases h;rw [Bw (zzy.mp e),beq_self_eq_true]
  |false=>
   rw [e] at h;have n:(f==g)=hU:=by
    cases z:f==g with
    |false=>rfl|true=>rw [zzy.mp z,beq_self_eq_true] at e;cases e
   rw [n];exact lH h
set_option tactic.hygienic true in
theorem qY{K:zz8}{W:Wd}{ob:List Ob}(u:oE K mg ob):AV K (W.at ob) (oJ (aX ob)) where
 any:=λg as h=>by
  unfold oJ at h;split at h
  .split at h
   .rename_i o e;split at h
    .rename_i q a;have:=List.find?_some a;rw [<-zzy.mp this];exact wH _
    .exact absurd rfl h
   .exact absurd rfl h
  .exact absurd rfl h
 fld:=λf q h=>by
  cases q with
  |obj n=>
   cases e:(aX ob)[n]? with
   |none=>refine absurd ?_ h;show(match(aX ob)[n]? with|some o=>_|none=>Res.bad)=_;rw [e]
   |some o=>
    have c:=e;unfold aX at c;rw [dV] at c;let(b,d,rfl):=b4.mp c
    have i:oJ (aX ob) (bW f) [.obj n]=(match b.fs.find? (λ(q:Str×PV)=>bW q.1==bW f) with|some q=>.ok q.2|none=>.bad):=by
     show(match(aX ob)[n]? with|some o=>(match o.fs.find? (λ(q:Str×PV)=>bW q.1==bW f) with|some q=>Res.ok q.2|none=>.bad)|none=>Res.bad)=_;rw [e]
    cases a:b.fs.find? (λ(q:Str×PV)=>bW q.1==bW f) with
    |none=>rw [i,a] at h;exact absurd rfl h|some j=>have hl:b.fs.lookup f=hG j.2:=lH a;let(_,k,m):=u.cls n b d;exact{n,b,j.2,rfl,d,hl,by rw [i,a],k,m f _ hl}
  |_=>exact absurd rfl h
end Ci
namespace L2
open PySem.Spec PyProof.Rows
def Ck{env:Env}{o:ia}{name:Str}{a:Pos}{args:List ia}{Q:ku}{E:ku}{s:hW}
 (j:attributeBase o name env (eval o env)=eval o env)
 (k:((backTo pos (starEach args env)).all (λx=>!x.1)&&(backToKw pos (keywordEach [] env)).all (λx=>x.1.isSome)
  &&decide (args.length+([]:List Keyword).length+(if([]:List Keyword).isEmpty then 0 else 1)<30))=hQ)
 (m:(a.endLine==pos.line)=hQ)
 (h:ie (ik prog w) A (eval o env) (λi b=>ie (ik prog w) A (getMethod i name (do return (<-importBound o env).getD hQ)) (λg c=>ie (ik prog w) A (callWith pos g.1 g.2 (backTo pos (starEach args env)) (backToKw pos (keywordEach [] env))) Q E c) E b) E s):
 ie (ik prog w) A (eval (.Call (.Attribute o name a) args [] pos) env) Q E s:=by
 rw [arm_eval_Call,j];refine ak (wpAny_mono h (λi b d=>?_) λZ Z e=>e);refine ak (wpAny_standAt ?_);have p:methodCallForm (args.length+([]:List Keyword).length) (backTo pos (starEach args env)) (backToKw pos (keywordEach [] env))=hQ:=k;have q:methodCallPos hQ o env a pos=pure pos:=by unfold methodCallPos;simp [m]
 unfold methodCall;rw [p,q];refine ak (wpAny_holding (wpAny_mono d (λg c f=>?_) λZ Z e=>e));exact ak (bc f)
end L2
namespace Ci
open L2
abbrev HG(W:Wd)(c:Str)(s:Sg)(ob:List Ob)(G H:Hp):XK:=λd e f=>∃C a b g,d=.ref C/\e=hG a/\c∈W.xs/\W.mg c=hG (.ref C)/\gW W ob G H b g f/\oE W.K W.mg b/\aX b=s
abbrev Na(W:Wd)(i:eT)(f:Str)(n:Nat):Sp:=λd H Q E=>d.length=n/\∃ob G as,ax G H/\bH (W.at ob) G H/\oE W.K W.mg ob/\ag (W.at ob) G as d/\(match i f as (aX ob) with
 |.ok p s=>∀v b e a,gW W ob G H b e a->oE W.K W.mg b->aX b=s->Rep (W.at b) e p v->Q v a|.exc c s=>∀g h a,HG W c s ob G H g h a->E g h a|.bad=>False)
structure sA where
 cs:List Str
 ms:List (Str×Str)
 ns:List Str
 fl:List (Str×Str)
structure fA(W:Wd)(aG:List Ob)(Ge He:Hp)(env:Sl)(σ:St)(s:Sg)(ob:List Ob)(H0 G H:Hp):Prop where
 sr:SR (W.at ob) H0 env σ G H
 u:oE W.K W.mg ob
 n:Ent aG Ge He ob G H0
 s:aX ob=s
structure Ng(X:Cx)(W:Wd)(F2:eT)(k:Nat)(f:Str)(fa:h9):Prop where
 ex:∃fd ps,fL X.prog X.w X.K X.mg X.base (dQ X.prog X.w) k fa fd ps (Na W F2 f ps.length)/\Binds X.K fd ps []/\∀as s,F2 f as s≠.bad->as.length=ps.length
structure ox(Γ:Pg)(Δ:sA)(F1:Sg->aF)(F2:eT)(W:Wd)(N:List Str)(sc:iv)(k:Nat)(E:XK)(X:Cx):Prop where
 C:∀ob,oE W.K W.mg ob->eh Γ (F1 (aX ob)) (W.at ob) N sc k X
 pass:Passes (dQ X.prog X.w) X E
 qt:Γ.qt=hU
 K:W.K=X.K
 mg:W.mg=X.mg
 sD:∀f,Δ.cs.contains f=hQ->∃fa,X.mg f=hG (.ref fa)/\PySem.W.keepIn X.K (.ref fa)=hQ/\Ng X W F2 k f fa
 met:∀c m,Δ.ms.contains (c,m)=hQ->∃C fa,X.mg c=hG (.ref C)/\Meth X.K C m fa/\Ng X W F2 k (jw c m) fa
 new:∀c,Δ.ns.contains c=hQ->∃C fa j,X.mg c=hG (.ref C)/\qv X.K C/\Mk X.K C fa/\j+1<=k/\Ng X W F2 j (jw c (zu 13)) fa
 fl:∀c f,Δ.fl.contains (c,f)=hQ->∀C,X.mg c=hG (.ref C)->cC X.K C f
section
variable{Γ:Pg}{Δ:sA}{W:Wd}{F1:Sg->aF}{F2:eT}{sc:iv}{E:XK}{aG ob aO:List Ob}{Ge He G':Hp}{s:Sg}
def fA.grow(t:fA W aG Ge He env σ s ob H0 G H)(g:aD (W.at ob) G H G' H'):fA W aG Ge He env σ s ob H0 G' H':={t.sr.grow g,t.u,t.n.step (t.sr.on g),t.s}
def fA.on{s':Sg}(t:fA W aG Ge He env σ s ob H0 G H)(g:gW W ob G H aO G' H')(u:oE W.K W.mg aO)(e:aX aO=s'):fA W aG Ge He env σ s' aO (Ec H0 H') G' H':={t.sr.oQ g,u,t.n.on t.sr g,e}
def cY{b:Type}(W:Wd)(aG:List Ob)(Ge He:Hp)(E:XK)(r:Rs b)(k:b->Sg->Prop):Prop:=match r with
 |.ok a s=>k a s|.exc c s=>∀d e H',HG W c s aG Ge He d e H'->E d e H'|.bad=>False
def cY.bind{b d:Type}{r:Rs b}{f:b->Sg->Rs d}{k:d->Sg->Prop}(h:cY W aG Ge He E (r.bind f) k):cY W aG Ge He E r λa s=>cY W aG Ge He E (f a s) k:=by
 cases r with
 |ok a s=>exact h|exc c s=>exact h|bad=>exact h
def cY.imp{b:Type}{r:Rs b}{k d:b->Sg->Prop}(h:cY W aG Ge He E r k)(i:∀a s,k a s->d a s):cY W aG Ge He E r d:=by
 cases r with
 |ok a s=>exact i a s h|exc c s=>exact h|bad=>exact h
theorem Pb(f:Passes (dQ X.prog X.w) X E){c:Str}(t:fA W aG Ge He env σ s ob H0 G H)(h:∀b d H',HG W c s aG Ge He b d H'->E b d H'):sQ X (W.at ob) σ c G H:=λg G1 i j e m I o x=>f g σ i j e m I (AW.imp x λb a H' y=>h b a H' (by let(C,p,G2,e1,q,r,z,A):=y;exact{C,p,ob,G2,e1,q,r,z,t.n.fin t.sr.iX (t.sr.on (o.trans A)),t.u,t.s}))
def cZ{b:Type}(d:Passes (dQ X.prog X.w) X E)(t:fA W aG Ge He env σ s ob H0 G H){r:Res b}{kk:b->Sg->Prop}(h:cY W aG Ge He E (Rs.of r s) kk):Out X (W.at ob) r σ G H λa=>kk a s:=by
 cases r with
 |ok a=>exact h|exc c=>exact Pb d t h|bad=>exact h
abbrev t2(W:Wd)(F1:Sg->aF)(F2:eT)(aG:List Ob)(Ge He:Hp)(E:XK)(x:X2):TE:=λσ H Q=>∃ob H0 G env s,fA W aG Ge He env σ s ob H0 G H/\
 cY W aG Ge He E (eV F1 F2 x env s) λp a=>∀v aO b G' H',fA W aG Ge He env σ a aO b G' H'->gW W ob G H aO G' H'->Rep (W.at aO) G' p v->Q v H'
abbrev Xy(W:Wd)(F1:Sg->aF)(F2:eT)(aG:List Ob)(Ge He:Hp)(E:XK)(x:A3):TA:=λσ H Q=>∃ob H0 G env s,fA W aG Ge He env σ s ob H0 G H/\
 cY W aG Ge He E (iS F1 F2 x env s) λb c=>∀a aO d G' H',fA W aG Ge He env σ c aO d G' H'->gW W ob G H aO G' H'->ag (W.at aO) G' b a->Q a H'
noncomputable abbrev G2(X:Cx)(W:Wd)(F1:Sg->aF)(F2:eT)(aG:List Ob)(Ge He:Hp)(E:XK)(x:X2)(p:ia):Prop:=PE X p (t2 W F1 F2 aG Ge He E x)
noncomputable abbrev Ni(X:Cx)(W:Wd)(F1:Sg->aF)(F2:eT)(aG:List Ob)(Ge He:Hp)(E:XK)(x:A3)(p:List ia):Prop:=PA X p (Xy W F1 F2 aG Ge He E x)
def N3(S:zv4 X){e:Ci.E}{p:ia}(a:gA e=hQ)(h:aV Γ N sc e p=hQ):G2 X W F1 F2 aG Ge He E (.pu e) p:=by intro b s σ H Q I c;let(ob,H0,G,env,j,st,o):=c;have d:=st.s;subst d;have f:=S.C ob st.u;refine(br e f p h).ge b s σ H Q I {H0,G,env,st.sr,?_};unfold eV at o;exact(cZ S.pass st o).imp λp i v G' H' g t=>i v ob H0 G' H' (st.grow g) g.oQ (t.rep a)
def pK(S:zv4 X)(K:cN j X.A){m:h9}(cl:Ng X W F2 j f m){d:kv}{h:hW}{as:List PV}
 (I:Inv X d σ H h) (st:fA W aG Ge He env σ s ob H0 G H) (l:ag (W.at ob) G as vs) (r:Vals vs us)
 (o:cY W aG Ge He E (F2 f as s) λp s'=>∀v aO L G' H',fA W aG Ge He env σ s' aO L G' H'->gW W ob G H aO G' H'->Rep (W.at aO) G' p v->Q v H'):zx7 X (call (.ref m) us) (EP X d σ Q) X.xe h:=by
 let(fd,pn,M,O,b):=cl.ex;have P:=st.s;subst P;have i:F2 f as (aX ob)≠.bad:=λz=>by rw [z] at o;exact o
 refine yB (E:=λD F H'=>∃c s',F2 f as (aX ob)=.exc c s'/\HG W c s' ob G H D F H') M K O (λe s' x=>?_) I r {by rw [l.length];exact b as _ i,ob,G,as,st.sr.sub,st.sr.tab,st.u,l,?_}
 .cases z:F2 f as (aX ob) with
  |ok q s1=>let(a,C',t,vs,H',B,rfl,Fl):=x;let(c,_,e1,_):=Fl.ends;rw [z] at e1;cases e1
  |exc c s1=>rw [z] at o;refine S.pass d σ H h e s' I (AW.imp x λR a H' y=>o R a H' ?_);let(c',s2,e1,C,T,U,G2,Y,Z,h3,h4,g,u,e2):=y;rw [z] at e1;cases e1;exact{C,T,U,G2,Y,Z,h3,h4,(st.n.oQ st.sr).trans g,u,e2}
  |bad=>exact absurd z i
 .cases z:F2 f as (aX ob) with
  |ok q s1=>rw [z] at o;exact λv aO G' H' g u e rp=>o v aO _ G' H' (st.on g u e) g rp|exc c s1=>exact λD F H' x=>⟨c,s1,rfl,x⟩|bad=>exact absurd z i
def JY(S:zv4 X){a:Es}{p:ia}{ps:List ia}(A:Δ.cs.contains f=hQ)(B:jd sc f=hQ)(D:okN f=hQ)(F:eO a=hQ)(b:eF Γ N sc a (p::ps)=hQ):G2 X W F1 F2 aG Ge He E (.sD f a) (.Call (.Name f np) (p::ps) [] pos):=by
 intro K L σ H Q I h;let(ob,H0,G,env,s,st,o):=h;have M:=st.s;subst M;have c:=S.C ob st.u;unfold eV at o;let(T,hm,hk,cl):=S.sD f A
 refine wpAny_Call_Name_kw (fH I (f6 c B) hm ?_ (dC D).1);cases a with
 |nil=>exact aN b|cons e a=>
 have w:=aj b;refine PySem.W.callWith_K (h₀:=X.base) I.ok.mod.Iq hk (bM (i7 (.cons e a) c _ b pos K L σ H (λd i=>∃G1 as,aD (W.at ob) G H G1 i/\ag (W.at ob) G1 as d/\cY W aG Ge He E (F2 f as (aX ob)) λp y=>∀v aO j G' H',fA W aG Ge He env σ y aO j G' H'->gW W ob G H aO G' H'->Rep (W.at aO) G' p v->Q v H') I ?_) λU V ⟨d,i,z,r,q⟩=>{z.kS,?_}) (notStar w.1 _ _) (dk w.2 _ _)
 .exact{H0,G,env,st.sr,(cZ S.pass st o.bind).imp λas m d G1 i g t=>{G1,as,g,t.rep F,m}}
 .let(G1,as,g,l,O):=q;exact pK S c.rm cl z (st.grow g) l r (O.imp λp y m v aO j G' H' t P R=>m v aO j G' H' t (g.oQ.trans P) R)
theorem oq{w:V}:∀{fs:List (Str×PV)} {vs:List V},((fs.map (·.1)).zip vs).lookup m=hG w->∃p,fs.lookup m=hG p
 |[],_,h=>by cases h
 |(g,p)::fs,[],h=>by cases h
 |(g,p)::fs,v::vs,h=>by
  have h:List.lookup m ((g,v)::((fs.map (·.1)).zip vs))=hG w:=h
  rw [hB] at h⊢;cases e:m==g with
  |true=>exact⟨p,rfl⟩|false=>rw [e] at h;exact oq h
def J0(S:zv4 X){e:Ci.E}{c:Str}{f:Es}{po:ia}{ps:List ia}{i:Pos}(hf:Δ.ms.contains (c,m)=hQ)(dg:gA e=hQ)(he:aV Γ N sc e po=hQ)(WQ:rG po=hQ)(fh:(i.endLine==pos.line)=hQ)(ug:eO f=hQ)(B:eF Γ N sc f ps=hQ)(hl:gQ f<30):
 G2 X W F1 F2 aG Ge He E (.met e c m f) (.Call (.Attribute po m i) ps [] pos):=by
 intro M sh σ H Q I h;let(ob,H0,G,env,s,st,o):=h;have e0:=st.s;subst e0;have SC:=S.C ob st.u;unfold eV at o;let(C,fa,hm,O,cl):=S.met c m hf;have Qk:((backTo pos (starEach ps X.env)).all (λx=>!x.1)&&(backToKw pos (keywordEach [] X.env)).all (λx=>x.1.isSome)&&decide (ps.length+([]:List Keyword).length+(if([]:List Keyword).isEmpty then 0 else 1)<30))=hQ:=by rw [Bv B];refine Bool.and_eq_true_iff.mpr {rfl,zzh ?_};rw [Ca B];exact hl
 refine Ck (vG WQ) Qk fh (bM ((br e SC po he).ge M sh σ H (λv D=>∃n G1,aD (W.at ob) G H G1 D/\Rep (W.at ob) G1 (.obj n) v/\gY (aX ob) n c=hQ/\cY W aG Ge He E ((Rs.of (bf (F1 (aX ob)) f env) (aX ob)).bind λps s=>F2 (jw c m) (.obj n::ps) s) λp F=>∀v aO j G' H',fA W aG Ge He env σ F aO j G' H'->gW W ob G H aO G' H'->Rep (W.at aO) G' p v->Q v H') I ?_) λu s1 ⟨v,D,P,rv,q⟩=>?_)
 .refine{H0,G,env,st.sr,(cZ S.pass st o.bind).imp λp d v G1 D g t=>?_}
  cases p with
  |obj n=>
   cases hc:gY (aX ob) n c with
   |true=>dsimp only at d;rw [hc,if_pos rfl] at d;exact{n,G1,g,t.rep dg,hc,d}|false=>dsimp only at d;rw [hc,if_neg nofun] at d;exact d.elim
  |_=>exact d.elim
 .let(n,G1,g,R,vS,o1):=q;have qp:=st.grow g;simp! [Rep] at R;let(b,T,rfl):=R;obtain rfl:u=hV.ref b.a:=rv;let(h1,h2,h3):=st.u.cls n b T;let(_,L,hH,l0):=qp.sr.tab.o n b T;have hs:(aX ob)[n]?=hG ⟨b.c,b.fs⟩:=by unfold aX;rw [dV,T];rfl
  have iu:b.c=c:=by unfold gY at vS;rw [hs] at vS;exact zzy.mp vS
  have hC:b.C=C:=by rw [iu,S.mg,hm] at h1;cases h1;rfl
  rw [S.K] at h2 h3;have zO:((b.fs.map (·.1)).zip L).lookup m=hI:=by
   cases z:((b.fs.map (·.1)).zip L).lookup m with
   |none=>rfl|some w=>let(p',Qt):=oq z;have:=h3 m p' Qt;rw [cC,hC,O.at_] at this;cases this
  refine vQ P hH h2 (by rw [hC];exact O) zO ?_;have run:∀{y:Hp} {U:hW} {us:List hV} {vs:List V} {as:List PV} {G2:Hp},Inv X M σ y U->aD (W.at ob) G1 D G2 y->ag (W.at ob) G2 as vs->Vals vs us->(cY W aG Ge He E (F2 (jw c m) (.obj n::as) (aX ob)) λp F=>∀v aO j G' H',fA W aG Ge He env σ F aO j G' H'->gW W ob G H aO G' H'->Rep (W.at aO) G' p v->Q v H')->zx7 X (call (.ref fa) (hV.ref b.a::us)) (EP X M σ Q) X.xe U:=λ{y U us vs as G2} Y Z l r o2=>by refine pK (vs:=V.ref b.a::vs) (as:=.obj n::as) S SC.rm cl Y (qp.grow Z) (.cons ?_ l) (.cons rfl r) (o2.imp λp F d v aO j G' H' t g' R=>d v aO j G' H' t ((g.trans Z).oQ.trans g') R);simp! [Rep];exact⟨b,T,rfl⟩
  cases f with
  |nil=>
   cases ps with
   |cons _ _=>exact aN B|nil=>refine PySem.W.callWith_K0 (first:=[.ref b.a]) P.kS O.kp ?_;exact run (us:=[]) (vs:=[]) (as:=[]) P (.refl qp.sr.sub) .nil .nil o1
  |cons e1 f=>
   cases ps with
   |nil=>exact aN B|cons p ps=>
    have h7:=aj B;refine PySem.W.callWith_K (first:=[.ref b.a]) (h₀:=X.base) I.ok.mod.Iq O.kp (bM (i7 (.cons e1 f) SC _ B pos M s1 σ D (λvs y=>∃G2 as,aD (W.at ob) G1 D G2 y/\ag (W.at ob) G2 as vs/\cY W aG Ge He E (F2 (jw c m) (.obj n::as) (aX ob)) λp F=>∀v aO j G' H',fA W aG Ge He env σ F aO j G' H'->gW W ob G H aO G' H'->Rep (W.at aO) G' p v->Q v H') P ?_) λus U ⟨vs,y,Y,r,q⟩=>{Y.kS,?_}) (notStar h7.1 _ _) (dk h7.2 _ _)
    .exact{H0,G1,env,qp.sr,(cZ S.pass qp o1.bind).imp λas d vs G2 y g t=>{G2,as,g,t.rep ug,d}}
    .let(G2,as,Z,l,o2):=q;exact run Y Z l r o2
def Dt:(aX ob).length=ob.length:=by unfold aX;rw [zzl]
def j7{o a:Ob}{n:Nat}(h:(ob++[a])[n]?=hG o):ob[n]?=hG o\/n=ob.length/\o=a:=by
 by_cases z:n<ob.length
 .rw [fP z] at h;exact .inl h
 .rw [fS (by lia)] at h;cases e:n-ob.length with
  |zero=>rw [e] at h;cases h;exact .inr {by lia,rfl}
  |succ m=>rw [e] at h;cases h
theorem Lk{x dx C:h9}{c:Str}(f:ax G H)(d:H x=hI)(hd:H dx=hI)(q:dx≠x):gW W ob G H (ob++[{x,dx,C,c,[]}]) G (upd (upd H dx (.own x)) x (.ins C dx [])) where
 ids:=λn o e=>{o,by rw [fP (bV.mp e).1];exact e,rfl,rfl,rfl,rfl}
 g:=.refl _
 h:=λb o e=>{o,by rw [af (λz=>by rw [z,d] at e;cases e),af (λz=>by rw [z,hd] at e;cases e)];exact e,.refl _}
 sub:=λb o e=>by have e:=f _ _ e;rw [af (λz=>by rw [z,d] at e;cases e),af (λz=>by rw [z,hd] at e;cases e)];exact e
 own:=λZ Z Z h=>h
 tab:=λt=>by
  have a:∀b o,H b=hG o->upd (upd H dx (.own x)) x (.ins C dx []) b=hG o:=λb o e=>by rw [af (λz=>by rw [z,d] at e;cases e),af (λz=>by rw [z,hd] at e;cases e)];exact e
  refine{t.t.same (.refl _) (λZ Z Z h=>h) λP o Z e=>a P o e,λn o e=>?_};have i:yW ob (ob++[{x,dx,C,c,[]}]):=λn o e=>{o,by rw [fP (bV.mp e).1];exact e,rfl,rfl,rfl,rfl}
  rcases j7 e with z|⟨_,rfl⟩
  .let(j,m,p,l):=t.o n o z;exact{j,m,a _ _ p,ag.at i _ l}
  .exact{f.free d,[],aq,.nil}
theorem OO{x dx C:h9}{c:Str}(u:oE W.K W.mg ob)(t:bH (W.at ob) G H)(w:H x=hI)(hm:W.mg c=hG (.ref C))(y:qv W.K C):oE W.K W.mg (ob++[{x,dx,C,c,[]}]) where
 inj:=λn m o j e1 q d=>by
  have no:∀(i:Nat) (p:Ob),ob[i]?=hG p->p.a≠x:=λi p e z=>by let(_,A,r,_):=t.o i p e;rw [z,w] at r;cases r
  rcases j7 e1 with g|⟨g,rfl⟩
  .rcases j7 q with b|⟨b,rfl⟩
   .exact u.inj n m o j g b d
   .exact absurd d (no n o g)
  .rcases j7 q with b|⟨b,rfl⟩
   .exact absurd d.symm (no m j b)
   .lia
 cls:=λn o e=>by
  rcases j7 e with z|⟨_,rfl⟩
  .exact u.cls n o z
  .exact{hm,y,λf p h=>nomatch h}
def qh(S:zv4 X){c:Str}{C i:h9}(L:cN (j+1) X.A)(M:Mk X.K C i)(hm:X.mg c=hG (.ref C))(O:qv X.K C)(cl:Ng X W F2 j (jw c (zu 13)) i){m:kv}{t:hW}{as:List PV}
 (I:Inv X m σ H t) (st:fA W aG Ge He env σ s ob H0 G H) (l:ag (W.at ob) G as vs) (r:Vals vs us)
 (o:cY W aG Ge He E (wb F2 c as s) λp s'=>∀v aO P G' H',fA W aG Ge He env σ s' aO P G' H'->gW W ob G H aO G' H'->Rep (W.at aO) G' p v->Q v H'):zx7 X (call (.ref C) us) (EP X m σ Q) X.xe t:=by
 let(fd,pn,R,T,b):=cl.ex;have U:=st.s;subst U;refine Dm (dvs:=[]) M R L T .nil S.pass I r λx dx B hd Y=>?_;have a:=Lk (W:=W) (ob:=ob) (C:=C) (c:=c) st.sr.sub B hd Y;have Z:=OO (dx:=dx) st.u st.sr.tab B (by rw [S.mg];exact hm) (by rw [S.K];exact O);have es:aX (ob++[{x,dx,C,c,[]}])=aX ob++[{c,[]}]:=by unfold aX;rw [List.map_append];rfl
 unfold wb at o;have d:F2 (jw c (zu 13)) (.obj (aX ob).length::as) (aX ob++[{c,[]}])≠.bad:=λz=>by rw [z] at o;exact o
 have D:(ob++[{x,dx,C,c,[]}])[ob.length]?=hG {x,dx,C,c,[]}:=by rw [fS (a8 _),Nat.sub_self];rfl
 rw [hD];refine{?_,ob++[{x,dx,C,c,[]}],G,.obj ob.length::as,a.sub,a.tab st.sr.tab,Z,.cons (by simp! [Rep];exact{_,D,rfl}) (a.GN l),?_}
 .have:=b _ _ d;rw [cS] at this⊢;rw [l.length];exact this
 .rw [es];rw [Dt] at o;cases z:F2 (jw c (zu 13)) (.obj ob.length::as) (aX ob++[⟨c,[]⟩]) with
  |ok q s1=>
   rw [z] at o;intro v aO G' H' g u e F;have o:cY W aG Ge He E (if nC q then Rs.ok (PV.obj ob.length) s1 else .bad) _:=o
   cases q with
   |aL=>simp! [Rep] at F;refine{F,o (.ref x) aO _ G' H' (st.on (a.trans g) u e) (a.trans g) ?_};let(o',f,h,_):=g.ids _ _ D;simp! [Rep];exact{o',f,by rw [h]}|_=>exact o.elim
  |exc c1 s1=>rw [z] at o;intro Cv ao H' y;let(C2,a',qk,G2,f,h,h3,h4,g,u,e2):=y;exact o Cv ao H' {C2,a',qk,G2,f,h,h3,h4,(st.n.oQ st.sr).trans (a.trans g),u,e2}|bad=>rw [Dt] at d;exact absurd z d
def J1(S:zv4 X){c:Str}{a:Es}{ps:List ia}(K:Δ.ns.contains c=hQ)(L:jd sc c=hQ)(O:okN c=hQ)(P:eO a=hQ)(b:eF Γ N sc a ps=hQ):G2 X W F1 F2 aG Ge He E (.new c a) (.Call (.Name c np) ps [] pos):=by
 intro R T σ H Q I h;let(ob,H0,G,env,s,st,o):=h;have U:=st.s;subst U;have d:=S.C ob st.u;unfold eV at o;let(C,fa,j,hm,y,M,V,cl):=S.new c K;have z:cN (j+1) X.A:=d.rm.mono V
 refine wpAny_Call_Name_kw (fH I (f6 d L) hm ?_ (dC O).1);cases a with
 |nil=>
  cases ps with
  |cons _ _=>exact aN b|nil=>refine PySem.W.callWith_K0 I.kS M.kp ?_;have f:cY W aG Ge He E (wb F2 c [] (aX ob)) _:=o;exact qh (us:=[]) (vs:=[]) (as:=[]) S z M hm y cl I st .nil .nil f
 |cons e a=>
  cases ps with
  |nil=>exact aN b|cons p ps=>
   have B:=aj b;refine PySem.W.callWith_K (h₀:=X.base) I.ok.mod.Iq M.kp (bM (i7 (.cons e a) d _ b pos R T σ H (λvs i=>∃G1 as,aD (W.at ob) G H G1 i/\ag (W.at ob) G1 as vs/\cY W aG Ge He E (wb F2 c as (aX ob)) λp D=>∀v aO m G' H',fA W aG Ge He env σ D aO m G' H'->gW W ob G H aO G' H'->Rep (W.at aO) G' p v->Q v H') I ?_) λus s1 ⟨vs,i,F,r,q⟩=>{F.kS,?_}) (notStar B.1 _ _) (dk B.2 _ _)
   .exact{H0,G,env,st.sr,(cZ S.pass st o.bind).imp λas w vs G1 i g t=>{G1,as,g,t.rep P,w}}
   .let(G1,as,g,l,f):=q;exact qh S z M hm y cl F (st.grow g) l r (f.imp λp D w v aO m G' H' t Y Z=>w v aO m G' H' t (g.oQ.trans Y) Z)
abbrev FG:A3->Nat
 |.nil=>0|.cons _ xs=>FG xs+1
theorem tV:∀{xs:A3} {env:Sl} {s s':Sg} {ps:List PV},iS F1 F2 xs env s=.ok ps s'->ps.length=FG xs
 |.nil,env,s,s',ps,h=>by unfold iS at h;cases h;rfl
 |.cons x xs,env,s,s',ps,h=>by
  unfold iS at h;cases e1:eV F1 F2 x env s with
  |bad=>rw [e1] at h;cases h
  |exc c z=>rw [e1] at h;cases h
  |ok p s1=>
   rw [e1] at h;have h:(iS F1 F2 xs env s1).bind (λps s=>Rs.ok (p::ps) s)=.ok ps s':=h
   cases a:iS F1 F2 xs env s1 with
   |bad=>rw [a] at h;cases h
   |exc c z=>rw [a] at h;cases h
   |ok qs s2=>rw [a] at h;cases h;rw [cS,tV a];rfl
theorem EW:Ni X W F1 F2 aG Ge He E .nil []:=L2.PA.imp eB λσ H Q h=>by let(ob,H0,G,env,s,st,o):=h;unfold iS at o;exact o [] ob H0 G H st (.refl st.sr.sub) .nil
def wj{e:Type}{x:X2}{f:PV->Sg->Rs e}{kk:e->Sg->Prop}(st:fA W aG Ge He env σ s ob H0 G H)(o:cY W aG Ge He E ((eV F1 F2 x env s).bind f) kk)
 (h:∀p v c a d G1 b,fA W aG Ge He env σ c a d G1 b->gW W ob G H a G1 b->Rep (W.at a) G1 p v->cY W aG Ge He E (f p c) kk->Q v b):t2 W F1 F2 aG Ge He E x σ H Q:=
 {ob,H0,G,env,s,st,o.bind.imp λp c i v a d G1 b t g j=>h p v c a d G1 b t g j i}
theorem BA{x:X2}{xs:A3}{p:ia}{ps:List ia}(he:G2 X W F1 F2 aG Ge He E x p)(hs:Ni X W F1 F2 aG Ge He E xs ps)(b:starEach (p::ps) X.env=(hU,eval p X.env)::starEach ps X.env):Ni X W F1 F2 aG Ge He E (.cons x xs) (p::ps):=
 L2.PA.imp (cH he hs b) λσ H Q h=>by let(ob,H0,G,env,s,st,o):=h;unfold iS at o;refine wj st o λp v c d e G1 w f g i j=>{d,e,G1,env,c,f,j.bind.imp λqs y m q r t G2 u t2 a l=>?_};exact m (v::q) r t G2 u t2 (g.trans a) (.cons (a.rep i) l)
theorem J3{xs:A3}{ps:List ia}{i:Nat}(hl:FG xs<1000)(h:Ni X W F1 F2 aG Ge He E xs ps):G2 X W F1 F2 aG Ge He E (.tup xs) (.Tuple ps i pos):=
 L2.PE.imp (CV h) λσ H Q j=>by
  let(ob,H0,G,env,s,st,o):=j
  unfold eV at o;refine{ob,H0,G,env,s,st,?_};cases r:iS F1 F2 xs env s with
  |bad=>rw [r] at o;exact o|exc c s1=>rw [r] at o;exact o|ok qs s1=>
   rw [r] at o;have a:=tV r;intro b e m G1 f t g l;have q:b.length<=sizeLine:=by rw [l.length,a,sizeLine_eq];lia
   refine{q,λp u=>?_};have d:aD (W.at e) G1 f (upd G1 p (.tup b)) (upd f p (.tup b)):=.new t.sr.sub u;exact o (.ref p) e m _ _ (t.grow d) (g.trans d.oQ) (.t (.inl aq) (ag.same d.g _ l))
abbrev Nd(W:Wd)(f:PV->PV->Res PV):R2:=λx y H Q=>∃ob,vi (W.at ob) f x y H Q
theorem yh(hK:W.K=X.K)(a:X.A.units+64<cLine)(o:sN):gB X (compareOp (mr o)) (Nd W (cW o)):=λb s σ H x y v u Q I c d ⟨ob,h⟩=>gJ (W:=W.at ob) hK a o b s σ H x y v u Q I c d h
def cY.val{b:Type}{r:Res b}{kk:b->Sg->Prop}(h:cY W aG Ge He E (Rs.of r s) kk)(n:∀c,r≠.exc c):∃a,r=.ok a/\kk a s:=by
 cases r with
 |ok a=>exact⟨a,rfl,h⟩|exc c=>exact absurd rfl (n c)|bad=>exact h.elim
def PQ{o:sN}{a b:X2}(h:t2 W F1 F2 aG Ge He E (.cmp o a b) σ H Q):MB (Nd W (cW o)) (t2 W F1 F2 aG Ge He E a) (t2 W F1 F2 aG Ge He E b) σ H Q:=by let(ob,H0,G,env,s,st,d):=h;unfold eV at d;refine wj st d λp v F I K G1 L j m t y=>wj j y λq u M e f G2 O t2 g z A=>?_;let(r,B,C):=A.val (λc=>di c);refine{e,f,G2,p,q,r,t2.sr.sub,.inl (g.rep t),.inl z,B,λw G' H' i D=>?_};exact C w e f G' H' (t2.grow i) ((m.trans g).trans i.oQ) D
def ox.units(S:zv4 X):X.A.units+64<cLine:=(S.C [] {(λZ Z Z Z h=>nomatch h),(λZ Z h=>nomatch h)}).room.units
def JZ(S:zv4 X){o:sN}{a b:X2}{c:ia}(e:G2 X W F1 F2 aG Ge He E a d)(f:G2 X W F1 F2 aG Ge He E b c)(hm:behindInMarks (mr o) c=hU):G2 X W F1 F2 aG Ge He E (.cmp o a b) (.Compare d [mr o] [c] pos):=
 (yk (yh S.K S.units o) e f hm).imp λσ H Q h=>PQ h
abbrev XI(W:Wd)(F1:Sg->aF)(F2:eT)(aG:List Ob)(Ge He:Hp)(E:XK)(x:T2):TT:=λσ H Q=>∃ob H0 G env s,fA W aG Ge He env σ s ob H0 G H/\
 cY W aG Ge He E (vM F1 F2 x env s) λb a=>∀aO c G' H',fA W aG Ge He env σ a aO c G' H'->Q b H'
noncomputable abbrev Ja(X:Cx)(W:Wd)(F1:Sg->aF)(F2:eT)(aG:List Ob)(Ge He:Hp)(E:XK)(x:T2)(p:ia):Prop:=PT X p (XI W F1 F2 aG Ge He E x)
def Kr(S:zv4 X){e:Ci.E}{p:ia}(c:f9 e=hQ)(h:aV Γ N sc e p=hQ):Ja X W F1 F2 aG Ge He E (.pu e) p:=by
 intro d s σ H Q I f;let(ob,H0,G,env,m,st,o):=f;have i:=st.s;subst i;have j:=S.C ob st.u;refine(br e j p h).gt c d s σ H Q I {H0,G,env,st.sr,?_};unfold vM at o;refine(cZ S.pass st o.bind).imp λp a=>?_
 cases p with
 |bl b=>exact{b,rfl,λG' H' g=>a ob H0 G' H' (st.grow g)}|_=>exact a.elim
def PK{x:X2}{Q:Bool->Hp->Prop}(h:∃ob H0 G env s,fA W aG Ge He env σ s ob H0 G H/\cY W aG Ge He E ((eV F1 F2 x env s).bind Qe) λb s'=>∀aO d G' H',fA W aG Ge He env σ s' aO d G' H'->Q b H'):tB (t2 W F1 F2 aG Ge He E x) σ H Q:=by
 let(ob,H0,G,env,s,st,o):=h;refine wj st o λp v j e f G1 g i m a c=>?_
 cases p with
 |bl b=>simp! [Rep] at a;exact{b,a,c e f G1 g i}|_=>exact c.elim
theorem Ff(S:zv4 X){o:sN}{a b:X2}{c:ia}(f:G2 X W F1 F2 aG Ge He E a d)(g:G2 X W F1 F2 aG Ge He E b c)(hm:behindInMarks (mr o) c=hU):Ja X W F1 F2 aG Ge He E (.cmp o a b) (.Compare d [mr o] [c] pos):=
 (yt (yh S.K S.units o) f g hm).imp λσ H Q h=>by let(ob,H0,G,env,s,st,e):=h;unfold vM at e;exact PQ (PK ⟨ob,H0,G,env,s,st,e⟩)
def Kq{a b:T2}{c:ia}{pos:Pos}(i:Ja X W F1 F2 aG Ge He E a c)(j:Ja X W F1 F2 aG Ge He E b d):Ja X W F1 F2 aG Ge He E (.or a b) (.BoolOp .Or [c,d] pos):=by
 have h:=pw_or (pos:=pos) i (pw_or1 j);intro m s σ H Q I p;refine h _ m s σ H Q I ?_;let(ob,H0,G,env,s,st,o):=p;unfold vM at o;refine{ob,H0,G,env,s,st,o.bind.imp λt q e aO f G' H' g=>?_}
 cases t with
 |true=>rw [if_pos rfl];exact e aO f G' H' g|false=>rw [if_neg zzf];exact⟨aO,f,G',env,q,g,e⟩
noncomputable abbrev FX:XK:=λZ Z Z=>False
def Rs.aJ{e g:Type}{r:Rs e}{f:e->Sg->Rs g}{b:g}{s':Sg}(h:r.bind f=.ok b s'):∃a d,r=.ok a d/\f a d=.ok b s':=by
 cases r with
 |ok a d=>exact⟨a,d,rfl,h⟩|exc c d=>cases h
 |bad=>cases h
def Rs.mP{d:Type}{r:Rs d}{b:d}{s':Sg}(h:r.well=.ok b s'):r=.ok b s':=by
 cases r with
 |ok a s1=>exact h|exc c s1=>cases h
 |bad=>cases h
def Rs.of_ok{d:Type}{r:Res d}{b:d}{s s':Sg}(h:Rs.of r s=.ok b s'):r=.ok b/\s'=s:=by
 cases r with
 |ok a=>cases h;exact⟨rfl,rfl⟩
 |exc c=>cases h
 |bad=>cases h
theorem jX{f:PV->Sg->Rs PV}:∀(l:List PV) (s:Sg) (c:Str) (s':Sg),bD f l s≠.exc c s'
 |[],s,c,s',h=>by cases h
 |x::l,s,c,s',h=>by
  unfold bD at h;cases e:f x s with
  |ok y s1=>
   rw [e] at h;have h:(bD f l s1).bind (λys a=>Rs.ok (y::ys) a)=.exc c s':=h
   cases b:bD f l s1 with
   |ok ys a=>rw [b] at h;cases h
   |exc d a=>exact jX l s1 d a b|bad=>rw [b] at h;cases h
  |exc _ _=>rw [e] at h;cases h
  |bad=>rw [e] at h;cases h
theorem pQ{f:PV->Sg->Rs PV}:∀{ps:List PV} {s j s':Sg} {all zs:List PV} {i:Nat} {x:PV},bD f ps s=.ok all j->bD f (ps.take i) s=.ok zs s'->ps[i]?=hG x->∃y a,f x s'=.ok y a/\bD f (ps.take (i+1)) s=.ok (zs++[y]) a
 |[],_,_,_,_,_,_,_,_,_,h=>by simp at h|p::ps,s,j,s',all,zs,0,x,c,b,g=>by simp at g;subst g;unfold bD at c;let(y,a,e1,c):=Rs.aJ c;have e1:=Rs.mP e1;have b:Rs.ok [] s=Rs.ok zs s':=b;cases b;refine{y,a,e1,?_};show(f p s).well.bind _=_;rw [e1];rfl
 |p::ps,s,j,s',all,zs,i+1,x,c,b,g=>by unfold bD at c;let(y,a,e1,c):=Rs.aJ c;have e1:=Rs.mP e1;let(d,e,m,_):=Rs.aJ c;have b:(f p s).well.bind (λy a=>(bD f (ps.take i) a).bind λd e=>Rs.ok (y::d) e)=.ok zs s':=b;rw [e1] at b;let(o,z,q,b):=Rs.aJ (show(bD f (ps.take i) a).bind (λd e=>Rs.ok (y::d) e)=.ok zs s' from b);cases b;let(r,t,u,w):=pQ m q (zx6 g);refine{r,t,u,?_};show(f p s).well.bind (λy a=>(bD f (ps.take (i+1)) a).bind λd e=>Rs.ok (y::d) e)=_;rw [e1];show(bD f (ps.take (i+1)) a).bind (λd e=>Rs.ok (y::d) e)=_;rw [w];rfl
theorem m6{f:PV->Sg->Rs PV}:∀{ps:List PV} {s s':Sg} {zs:List PV},bD f ps s=.ok zs s'->zs.length=ps.length
 |[],s,s',zs,h=>by cases h;rfl
 |p::ps,s,s',zs,h=>by unfold bD at h;let(y,b,e1,h):=Rs.aJ h;let(c,d,a,h):=Rs.aJ h;cases h;rw [cS,cS,m6 a]
structure VY(W:Wd)(aG:List Ob)(Ge He:Hp)(env:Sl)(σ:St)(s:Sg)(ob:List Ob)(G H:Hp)(qS:Sl)(f:PV->Sg->Rs PV)(ps:List PV)(i:Nat)(ys:List V)(σ':St)(H':Hp):Prop where
 le:i<=ps.length
 ex:∃aO G' QW QV zs s',fA W aG Ge He env σ s' aO QW G' H'/\fA W aG Ge He qS σ' s' aO QV G' H'/\gW W ob G H aO G' H'/\bD f (ps.take i) s=.ok zs s'/\ag (W.at aO) G' zs ys
def tH(S:zv4 X){e:List Nat}{C:Tg}{j:X2}{ys:List Str}(cu:jv kk C=hQ)(MY:oH it=hQ)(hs:e.map (λi=>N[i]?)=ys.map hG)(nd:ys.Nodup)
 (st:fA W aG Ge He env σ s ob H0 G H) (o:cY W aG Ge He E (eV F1 F2 (.comp kk e C it j) env s) λp s'=>∀v aO P G' H',fA W aG Ge He env σ s' aO P G' H'->gW W ob G H aO G' H'->Rep (W.at aO) G' p v->Q v H'):
 yL (tI X (W.at ob) (F1 s) it) kk (gT X.K C) (t2 W F1 F2 aG Ge He FX j) e σ H Q:=by
 unfold eV at o;refine{H0,G,env,st.sr,(cZ S.pass st o.bind).imp λb d J G1 H1 g1 gi=>?_};by_cases sE:¬b.length<cV
 .rw [if_neg sE] at d;exact d.elim
 have hl:=Decidable.not_not.mp sE;rw [if_pos hl] at d;generalize hf:(λ(x:PV) (s:Sg)=>(Rs.of (C.put x (kq kk .no++eK env e)) s).bind λR s=>eV F1 F2 j R s)=f at d
 cases r:bD f b s with
 |bad=>rw [r] at d;exact d.elim|exc c s1=>exact absurd r (jX _ _ _ _)|ok all sf=>
  rw [r] at d;have fin:∀v aO P G' H',fA W aG Ge He env σ sf aO P G' H'->gW W ob G H aO G' H'->Rep (W.at aO) G' (.lst all) v->Q v H':=d;have qp:=st.grow g1;have Xw:fA W aG Ge He (kq kk .no++eK env e) (kq kk hI++AL σ e) s ob H0 G1 H1:={n5 kk qp.sr hs nd,qp.u,qp.n,qp.s};refine{b.length,VY W aG Ge He env σ s ob G1 H1 (kq kk .no++eK env e) f b,{Nat.zero_le _,ob,G1,H0,H0,[],s,qp,Xw,.refl qp.sr.sub,rfl,.nil},?_}
  rintro i made σ' H' ⟨hi,aO,G',QW,QV,zs,s',t,si,D,F,l⟩
  have Il:zs.length=i:=by rw [m6 F,List.length_take];lia
  refine{by rw [l.length,Il];exact ef hi (el hl (by decide)),?_};have VA:ax G1 G':=D.g;let(T,U):=gi.bw MY i G' H' VA (ib.of (VA.trans t.sr.sub)) t.sr.sub;by_cases a:i=b.length
  .refine .inl {T a,λp hp=>?_};rw [a,List.take_length,r] at F;cases F;have V:aD (W.at aO) G' H' (upd G' p (.lst made)) (upd H' p (.lst made)):=.new t.sr.sub hp;exact fin (.ref p) aO QW _ _ (t.grow V) (g1.oQ.trans (D.trans V.oQ)) (.l (.inl (.inl aq)) (ag.same V.g _ l))
  .have L:i<b.length:=by lia
   let(Y,w):=U b[i] (zzg L);refine .inr {Y,L,λx kI hy=>?_};let(Z,A,rx):=w x kI hy;have M:aD (W.at aO) G' H' Z kI:=⟨A.g,A.h,A.sub,A.own,A.tb⟩;have Th:Rep (W.at aO) Z b[i] x:=Rep.at D.ids _ rx;let(y,s1,ho,m):=pQ r F (zzg L);rw [<-hf] at ho;let(R,s2,he0,ho1):=Rs.aJ ho;let(B,z):=Rs.of_ok he0;subst z;have Xr:=t.grow M;have O:=si.grow M;refine nt (W:=W.at aO) S.K B O.sr Th λσ2 gM=>?_;refine{aO,QV,Z,R,s2,⟨gM,O.u,O.n,O.s⟩,?_};rw [ho1];intro v qk yV G2 H2 q oQ rv;refine{L,qk,G2,_,yV,_,s1,Xr.on oQ q.u q.s,{iP cu B q.sr,q.u,q.n,q.s},D.trans (M.oQ.trans oQ),m,?_};exact((M.oQ.trans oQ).GN l).append (.cons rv .nil)
end
def I0(W:Wd)(b:List Ob)(c d:Hp)(D:Ends):Fl->Sg->Prop
 |.nx env,s=>∀a ob H0 G H,fA W b c d env a s ob H0 G H->D.nx a H|.bk env,s=>∀a ob H0 G H,fA W b c d env a s ob H0 G H->D.bk a H|.ct env,s=>∀a ob H0 G H,fA W b c d env a s ob H0 G H->D.ct a H|.rt p,s=>∀v ob G H,Rep (W.at ob) G p v->gW W b c d ob G H->oE W.K W.mg ob->aX ob=s->D.rt v H
abbrev XD(W:Wd)(F1:Sg->aF)(d:eT)(a:List Ob)(b c:Hp)(E:XK)(st:S2):TS:=λD e H=>∃ob f G env s,fA W a b c env e s ob f G H/\cY W a b c E (fO F1 d st env s) (I0 W a b c D)
abbrev MD(W:Wd)(F1:Sg->aF)(d:eT)(a:List Ob)(b c:Hp)(E:XK)(st:oz):TS:=λD e H=>∃ob f G env s,fA W a b c env e s ob f G H/\cY W a b c E (aP F1 d st env s) (I0 W a b c D)
noncomputable abbrev DW(X:Cx)(W:Wd)(F1:Sg->aF)(a:eT)(b:List Ob)(c d:Hp)(E:XK)(x:S2)(p:je):Prop:=PS X p (XD W F1 a b c d E x)
noncomputable abbrev qw(X:Cx)(W:Wd)(F1:Sg->aF)(a:eT)(b:List Ob)(c d:Hp)(E:XK)(x:oz)(p:List je):Prop:=sy X p (MD W F1 a b c d E x)
section
variable{Γ:Pg}{Δ:sA}{W:Wd}{F1:Sg->aF}{F2:eT}{sc:iv}{E:XK}{aG ob aO:List Ob}{Ge He G':Hp}{s:Sg}
theorem ox.block(S:zv4 X){b:iv}{r:List Nat}{xs:List Str}(h:i3 N sc b kk r xs)(fp:List h9)(p:hW)(q:Hp)(A:h9):ox Γ.yf Δ F1 F2 W (xs++freeOf b) (cB b sc) k FX (bP X (xs++freeOf b) b (bG X.env (freeOf b)) fp p q A) where
 C:=λob u=>fc (S.C ob u) h fp p q A
 pass:=λz σ H s e D I x=>by let(a,C,t,L,H',B,rfl,F):=x;exact F.ends.elim
 qt:=S.qt
 K:=S.K
 mg:=S.mg
 sD:=λf h=>by let(d,g,i,o):=S.sD f h;exact{d,g,i,⟨o.ex⟩}
 met:=λc m h=>by let(C,d,g,i,o):=S.met c m h;exact{C,d,g,i,⟨o.ex⟩}
 new:=λc h=>by let(C,d,j,g,i,o,w,y):=S.new c h;exact{C,d,j,g,i,o,w,⟨y.ex⟩}
 fl:=S.fl
def xH(S:zv4 X){f:List Nat}{e:Tg}{c:X2}{b i p:ia}{a:iv}{pos:Pos}(h:i3 N sc a kk f (aC b))(r:jv kk e=hQ)(t:oH it=hQ)(q:m5 Γ N sc b it i=hQ)
 (w:eZ (aC b++freeOf a) (cB a sc) (iV a) e b=hQ) (he:∀Y,ox Γ.yf Δ F1 F2 W (aC b++freeOf a) (cB a sc) k FX Y->G2 Y W F1 F2 aG Ge He FX c p):G2 X W F1 F2 aG Ge He E (.comp kk f e it c) (.ListComp p [{b,i,[],0}] a pos):=by
 intro y B σ H Q I D;let(ob,H0,G,env,s,st,o):=D;have F:=st.s;subst F;have d:=S.C ob st.u;have L:(freeOf a).Nodup:=(List.nodup_append.mp h.nd).2.1;have rd:=tH (N:=N) S r t h.slots L st o
 have:=yl (g:=gT X.K e) (te:=t2 W F1 F2 aG Ge He FX c) (xs:=aC b) (ys:=freeOf a) (is:=f) (pos:=pos) (d.calm S.qt) (kO d.hN d.eP I.ok h) (uZ it d b i q)
  (λfp j m A=>uQ (fn:=iV a) (X:=bP X (aC b++freeOf a) a (bG X.env (freeOf a)) fp j m A) rfl h.nd (eg d.eP) rfl (λZ z=>z) w)
  (λfp j m A=>he _ (S.block h fp j m A)) (fG q _) y B σ H Q I
 rw [h.len] at this;exact this rd
structure DV(Γ:Pg)(Δ:sA)(F1:Sg->aF)(F2:eT)(W:Wd)(N:List Str)(sc:iv)(k:Nat)(E:XK)(X:Cx):Prop where
 C:zv4 X
 S:∀ob,oE W.K W.mg ob->er Γ (F1 (aX ob)) (W.at ob) N sc k E X
def wg{K:zz8}:oE K mg []:={(λZ Z Z Z h=>nomatch h),(λZ Z h=>nomatch h)}
def DV.s0(S:DV Γ Δ F1 F2 W N sc k E X):er Γ (F1 (aX [])) (W.at []) N sc k E X:=S.S [] wg
def N8(S:DV Γ Δ F1 F2 W N sc k E X){st:Ci.S}{p:je}(h:eN Γ N sc st p=hQ):DW X W F1 F2 aG Ge He E (.p st) p:=by
 intro e i σ H D I j;let(ob,H0,G,env,s,t,o):=j;have m:=t.s
 subst m;refine Pk (H0:=H0) (S.S ob t.u) S.C.qt st p h e i σ H D I {G,env,t.sr,?_};unfold fO at o;cases r:dj (F1 (aX ob)) st env with
 |bad=>rw [r] at o;exact o|exc c=>rw [r] at o;intro w y H' x;let(C,a,G',e1,z,A,B,g):=x;exact o w y H' {C,a,ob,G',e1,z,A,B,t.n.fin t.sr.iX g,t.u,rfl}|ok f=>
  rw [r] at o;cases f with
  |nx d=>exact λb G' H' sr g=>o b ob H0 G' H' {sr,t.u,t.n.step g,rfl}|bk d=>exact λb G' H' sr g=>o b ob H0 G' H' {sr,t.u,t.n.step g,rfl}|ct d=>exact λb G' H' sr g=>o b ob H0 G' H' {sr,t.u,t.n.step g,rfl}|rt q=>exact λv G' H' F g=>o v ob G' H' F (t.n.fin t.sr.iX g) t.u rfl
def Ds(i:Nat)(t:fA W aG Ge He env σ s ob H0 G H)(h:Rep (W.at ob) G p v):fA W aG Ge He (env.set i (.val p)) (σ.set i (hG v)) s ob H0 G H:={t.sr.set i h,t.u,t.n,t.s}
def xQ(S:DV Γ Δ F1 F2 W N sc k E X){i:Nat}{e:X2}{p:ia}{a:Pos}(h:N[i]?=hG x)(hl:ft sc x=hQ)(he:G2 X W F1 F2 aG Ge He E e p)(hs:swapsWith p (hG (.Name x a)) pos.line X.env=pure hU):DW X W F1 F2 aG Ge He E (.set i e) (.Assign [.Name x a] p pos):=by let(b,a2,c):=dJ S.s0 h hl;refine L2.PS.imp (k9 b a2 c he hs (.inl (S.s0.fn x))) λD σ H h=>?_;let(ob,H0,G,env,s,t,o):=h;unfold fO at o;exact wj t o λp v r d f G1 g j u m q=>q _ d f G1 g (Ds i j m)
theorem Kg{e:X2}{p:ia}(he:G2 X W F1 F2 aG Ge He E e p)(a:gG p=hQ):DW X W F1 F2 aG Ge He E (.ex e) (.Expr p pos):=
 L2.PS.imp (kj he (iR a)) λD σ H h=>by let(ob,H0,G,env,s,t,o):=h;unfold fO at o;exact wj t o λp v i b c G1 d f j m g=>g σ b c G1 d f
theorem E6{e:X2}{p:ia}(he:G2 X W F1 F2 aG Ge He E e p):DW X W F1 F2 aG Ge He E (.ret e) (.Return (hG p) pos):=
 L2.PS.imp (Dg he) λD σ H h=>by let(ob,H0,G,env,s,t,o):=h;unfold fO at o;exact wj t o λp v g b i G1 c a j d f=>f v b G1 c d (a.n.oQ a.sr) a.u a.s
theorem E5{c:T2}{a b:oz}{p:ia}{e f:List je}(m:Ja X W F1 F2 aG Ge He E c p)(q:qw X W F1 F2 aG Ge He E a e)(r:qw X W F1 F2 aG Ge He E b f):DW X W F1 F2 aG Ge He E (.ite c a b) (.If p e f pos):=
 L2.PS.imp (IB m q r) λD σ H h=>by
  let(ob,H0,G,env,s,t,o):=h;unfold fO at o;refine{ob,H0,G,env,s,t,o.bind.imp λb g d aO i G' H' j=>?_}
  cases b with
  |true=>rw [if_pos rfl] at d⊢;exact⟨aO,i,G',env,g,j,d⟩|false=>rw [if_neg zzf] at d⊢;exact⟨aO,i,G',env,g,j,d⟩
theorem BO:qw X W F1 F2 aG Ge He E .nil []:=L2.sy.imp yr λD σ H h=>by let(ob,H0,G,env,s,t,o):=h;unfold aP at o;exact o σ ob H0 G H t
theorem zJ{x:S2}{xs:oz}{p:je}{ps:List je}(c:DW X W F1 F2 aG Ge He E x p)(d:qw X W F1 F2 aG Ge He E xs ps):qw X W F1 F2 aG Ge He E (.cons x xs) (p::ps):=
 L2.sy.imp (uS c d) λD σ H h=>by
  let(ob,H0,G,env,s,t,o):=h;unfold aP at o;refine{ob,H0,G,env,s,t,o.bind.imp λf e a=>?_}
  cases f with
  |nx b=>exact λg i j G2 m t2=>⟨i,j,G2,b,e,t2,a⟩|bk b=>exact a|ct b=>exact a|rt q=>exact a
def BN{i:Nat}{xs:oz}{ps:List je}(h:qw X W F1 F2 aG Ge He E xs ps):qw X W F1 F2 aG Ge He E (.cons (.p (.bw i)) xs) ps:=by
 intro d e σ H D I f;let(ob,H0,G,env,s,t,o):=f;unfold aP fO at o;have o:cY W aG Ge He E (aP F1 F2 xs (env.modify i oM) s) (I0 W aG Ge He D):=by rw [dj] at o;exact o
 rcases Bz t.sr t.sr.go i with⟨G',b,c⟩|⟨a,m,g,k⟩
 .exact h d e σ H D I {ob,H0,G',_,s,{b,t.u,t.n.step c,t.s},o}
 .let(j,J):=I.freeze g;let(G',b,c):=k j;exact h d e σ _ D J {ob,H0,G',_,s,{b,t.u,t.n.step c,t.s},o}
theorem uU{p:PV}:∀{fs:List (Str×PV)} {vs:List V},ag (W.at ob) G (fs.map (·.2)) vs->Rep (W.at ob) G p v->∃a,gL f v ((fs.map (·.1)).zip vs)=((gk f p fs).map (·.1)).zip a/\ag (W.at ob) G ((gk f p fs).map (·.2)) a
 |[],vs,l,h=>by simp! [List.map_nil,ag] at l;subst l;exact{[v],rfl,.cons h .nil}|(g,q)::fs,vs,l,h=>by
  let(u,r,rfl,d,c):=ag.cx (p:=q) (ps:=fs.map (·.2)) l;show∃a,(if g=f then(g,v)::((fs.map (·.1)).zip r) else(g,u)::gL f v ((fs.map (·.1)).zip r))=((if g=f then(g,p)::fs else(g,q)::gk f p fs).map (·.1)).zip a/\ag (W.at ob) G ((if g=f then(g,p)::fs else(g,q)::gk f p fs).map (·.2)) a;by_cases b:g=f
  .rw [if_pos b,if_pos b];exact{v::r,rfl,.cons h c}
  .rw [if_neg b,if_neg b];let(a,e1,e):=uU c h;exact{u::a,by rw [e1];rfl,.cons d e}
theorem lW:∀{fs:List (Str×PV)},(gk f p fs).lookup g=hG q->g=f\/fs.lookup g=hG q
 |[],h=>by
  have h:List.lookup g [(f,p)]=hG q:=h
  rw [hB] at h;cases e:g==f with
  |true=>exact .inl (zzy.mp e)|false=>rw [e] at h;cases h
 |(a,b)::fs,h=>by
  unfold gk at h;by_cases c:a=f
  .rw [if_pos c,hB] at h;rw [hB];cases e:g==a with
   |true=>exact .inl ((zzy.mp e).trans c)|false=>rw [e] at h;exact .inr h
  .rw [if_neg c,hB] at h;rw [hB];cases e:g==a with
   |true=>rw [e] at h;exact .inr h|false=>rw [e] at h;exact lW h
def Hx{a b:Type}{xs:List a}{ys:List b}:(xs.zip ys).length<=xs.length:=by rw [List.length_zip];exact Nat.min_le_left _ _
def GX{n:Nat}{o:Ob}{f:Str}(t:bH (W.at ob) G H)(I:ax G H)(u:oE W.K W.mg ob)(e:ob[n]?=hG o)(y:H o.a=hG (.ins o.C o.dx ((o.fs.map (·.1)).zip vs)))(l:ag (W.at ob) G (o.fs.map (·.2)) vs)(L:Rep (W.at ob) G p v)(M:cC W.K o.C f):
 gW W ob G H (ob.set n {o with fs:=gk f p o.fs}) G (upd H o.a (.ins o.C o.dx (gL f v ((o.fs.map (·.1)).zip vs))))/\oE W.K W.mg (ob.set n {o with fs:=gk f p o.fs}):=by
 have A:n<ob.length:=(bV.mp e).1
 have at_:∀(m:Nat) (c:Ob),(ob.set n {o with fs:=gk f p o.fs})[m]?=hG c->(m=n/\c={o with fs:=gk f p o.fs})\/(m≠n/\ob[m]?=hG c):=λm c h=>by
  by_cases hm:n=m
  .subst hm;rw [fi A] at h;cases h;exact .inl ⟨rfl,rfl⟩
  .rw [ea hm] at h;exact .inr {λz=>hm z.symm,h}
 have B:G o.a=hI:=(t.o n o e).1
 have ids:yW ob (ob.set n {o with fs:=gk f p o.fs}):=λm c h=>by
  by_cases hm:n=m
  .subst hm;rw [e] at h;cases h;exact{_,fi A,rfl,rfl,rfl,rfl}
  .exact{c,by rw [ea hm];exact h,rfl,rfl,rfl,rfl}
 have ne:∀{b:h9} {x:HO},H b=hG x->(∀C dx fs,x≠.ins C dx fs)->b≠o.a:=λh z w=>by rw [w,y] at h;cases h;exact z _ _ _ rfl
 refine{{ids,.refl _,λb x h=>?_,λb x h=>?_,λ_ _ _ h=>h,λ_=>{λP q m=>?_,λm c h=>?_}},{λm1 m2 o1 i j r O=>?_,λm c h=>?_}}
 .by_cases D:b=o.a
  .subst D;rw [y] at h;cases h;exact{_,aq,.inl {_,_,_,_,rfl,rfl}}
  .exact{x,by rw [af D];exact h,.refl _}
 .rw [af (λz=>by rw [z,B] at h;cases h)];exact I _ _ h
 .let(Q,R,F,S,T):=t.t P q m;exact{Q,R,by rw [af (ne F nofun)];exact F,S,T}
 .rcases at_ m c h with⟨rfl,rfl⟩|⟨hm,d⟩
  .let(U,e1,Y):=uU (f:=f) l L;exact{B,U,by rw [aq,e1],ag.at ids _ Y}
  .let(j,Z,r,l2):=t.o m c d;have:c.a≠o.a:=λz=>hm (u.inj m n c o d e z);exact{j,Z,by rw [af this];exact r,ag.at ids _ l2}
 .have back:∀(m:Nat) (c:Ob),(ob.set n {o with fs:=gk f p o.fs})[m]?=hG c->∃i,ob[m]?=hG i/\i.a=c.a:=λm c h=>by
   rcases at_ m c h with⟨rfl,rfl⟩|⟨_,d⟩
   .exact⟨o,e,rfl⟩
   .exact⟨c,d,rfl⟩
  let(p1,q1,r1):=back _ _ j;let(p2,q2,r2):=back _ _ r;exact u.inj m1 m2 p1 p2 q1 q2 (by rw [r1,r2];exact O)
 .rcases at_ m c h with⟨rfl,rfl⟩|⟨_,d⟩
  .let(c1,c2,c3):=u.cls _ o e;refine{c1,c2,λg q hg=>?_}
   rcases lW hg with rfl|z
   .exact M
   .exact c3 g q z
  .exact u.cls m c d
def Mq{n:Nat}{o:Ob}{l:List (Str×PV)}:aX (ob.set n {o with fs:=l})=(aX ob).set n ⟨o.c,l⟩:=by unfold aX;rw [List.map_set]
def BJ(S:DV Γ Δ F1 F2 W N sc k E X){c f:Str}{i:Nat}{e:Ci.E}{p:ia}{O:Pos}(P:(N[i]?==hG x&&dG sc x&&okN x)=hQ)(Q:Δ.fl.contains (c,f)=hQ)(R:gA e=hQ)(he:aV Γ N sc e p=hQ)(T:gG p=hQ):
 DW X W F1 F2 aG Ge He E (.kA c i f e) (.Assign [.Attribute (.Name x np) f O] p pos):=by
 intro U V σ H D I h;let(ob,H0,G,env,s,t,o):=h;have Y:=t.s;subst Y;have z:=S.C.C ob t.u;unfold fO at o;refine L5 (vO z P) (br e z p he).ge (iR T) U V σ H D I {H0,G,env,t.sr,(cZ S.C.pass t o.bind).imp λp d y G1 H1 Z ty=>?_};have A:=t.grow Z
 have w:∃n,env[i]?=hG (.val (.obj n))/\gY (aX ob) n c=hQ/\cY W aG Ge He E ((my (aX ob) n f p).bind λ_ s=>.ok (.nx env) s) (I0 W aG Ge He D):=by
  cases e1:env[i]? with
  |none=>rw [e1] at d;exact d.elim|some sl=>
   rw [e1] at d;cases sl with
   |val q=>
    cases q with
    |obj n=>
     dsimp only at d;cases j:gY (aX ob) n c with
     |true=>rw [j,if_pos rfl] at d;exact⟨n,rfl,j,d⟩|false=>rw [j,if_neg zzf] at d;exact d.elim
    |_=>exact d.elim
   |_=>exact d.elim
 let(n,e1,j,m):=w
 refine{H0,G1,env,A.sr,?_};have ev:aE (F1 (aX ob)) (.var i) env=.ok (.obj n):=by
  have:aE (F1 (aX ob)) (.var i) env=gU env[i]?:=by unfold aE;rfl
  rw [this,e1];rfl
 rw [ev];intro v G2 H2 B tv;have t2:=A.grow B;have F:=tv.rep rfl;simp! [Rep] at F;let(b,r,rfl):=F;let(_,vs,L,l):=t2.sr.tab.o n b r;let(c1,c2,_):=t.u.cls n b r;have hs:(aX ob)[n]?=hG ⟨b.c,b.fs⟩:=by unfold aX;rw [dV,r];rfl
 have iu:b.c=c:=by unfold gY at j;rw [hs] at j;exact zzy.mp j
 have M:cC X.K b.C f:=S.C.fl c f Q b.C (by rw [<-S.C.mg,<-iu];exact c1);unfold my at m;rw [hs] at m;dsimp only at m;by_cases hl:b.fs.length<1000
 .rw [if_pos hl] at m;have rp:Rep (W.at ob) G2 p y:=Rep.same B.g _ (ty.rep R);let(gr,u2):=GX (f:=f) t2.sr.tab t2.sr.sub t.u r L l rp (by rw [S.C.K];exact M);refine{b.a,b.C,b.dx,_,rfl,L,by rw [<-S.C.K];exact c2,M,?_,?_}
  .refine ef Hx ?_;rw [zzl];exact hl
  .exact m σ _ _ G2 _ (t2.on gr u2 Mq)
 .rw [if_neg hl] at m;exact m.elim
def Ent.trans{c:List Ob}{G1 d:Hp}(n:Ent aG Ge He ob G H0)(m:Ent ob G H0 c G1 d):Ent aG Ge He c G1 d:={n.ids.trans m.ids,n.g.trans m.g,n.h.trans m.h,λa b e f=>m.own a (n.h.has b) (n.h.iD b e) (n.own a b e f)}
def Ent.comp(n:Ent aG Ge He ob G H0)(t:bH (W.at ob) G H0)(g:gW W ob G H0 aO G' H'):gW W aG Ge He aO G' H':={n.ids.trans g.ids,n.g.trans g.g,n.h.trans g.h,g.sub,λa b c d=>g.own a (n.h.has b) (n.h.iD b c) (n.own a b c d),λZ=>g.tab t}
def HG.comp{c:Str}{b:hV}{d:Option h9}(n:Ent aG Ge He ob G H0)(t:bH (W.at ob) G H0)(x:HG W c s ob G H0 b d H'):HG W c s aG Ge He b d H':=by let(C,a,aO,G',e1,e,f,h,g,u,i):=x;exact{C,a,aO,G',e1,e,f,h,n.comp t g,u,i}
def E4(S:DV Γ Δ F1 F2 W N sc k E X){V:Tg}{b:oz}{bX d9:ia}{pb:List je}(sH:eZ N sc (λ_=>hQ) V bX=hQ)(hit:oH it=hQ)(hi:m5 Γ N sc bX it d9=hQ)(hb:∀aG Ge He,qw X W F1 F2 aG Ge He E b pb):DW X W F1 F2 aG Ge He E (.cL V it b) (.For bX d9 pb [] pos):=by
 intro ae sh σ H D I h;let(ob,H0,G,env,s,t,o):=h;have e0:=t.s;subst e0;have T:=S.C.C ob t.u;unfold fO at o;have Ws:sy X pb (λD σ H=>∃aG Ge He,MD W F1 F2 aG Ge He E b D σ H):=λae s σ H D I ⟨aG,Ge,He,q⟩=>hb aG Ge He ae s σ H D I q;refine De S.s0.own (T.calm S.C.qt) (uZ it T bX d9 hi) (uQ (fn:=λ_=>hQ) T.hN T.nd T.eP (T.calm S.C.qt) (λx _=>S.s0.fn x) sH) Ws (fG hi _) ae sh σ H D I {H0,G,env,t.sr,(cZ S.C.pass t o.bind).imp λd g9 J G1 H1 g1 gi=>?_};have bw:=gi.bw hit;generalize hf:(λ(x:PV) (env:Sl) (s:Sg)=>(Rs.of (V.put x env) s).bind λa s=>aP F1 F2 b a s)=f at g9;have U:=t.grow g1;have tr:fA W ob G1 H0 env σ (aX ob) ob H0 G1 H1:={U.sr,U.u,.refl,rfl};have VM:=U.sr.iX;refine{λi m L H'=>i<=d.length/\m=d.length-i/\∃aO fy G' a F,fA W ob G1 H0 a L F aO fy G' H'/\cY W aG Ge He E (df f (d.drop i) a F) (I0 W aG Ge He D),{_,Nat.zero_le _,rfl,ob,H0,G1,env,_,tr,by rw [List.drop_zero];exact g9},?_}
 rintro i m L H' ⟨M0,hm,aO,fy,G',a,F,M,z⟩
 have up:∀{A:Sl} {j:St} {Y:Sg} {qk:List Ob} {yV G2 Z:Hp},fA W ob G1 H0 A j Y qk yV G2 Z->fA W aG Ge He A j Y qk yV G2 Z:=λq=>{q.sr,q.u,U.n.trans q.n,q.s};let(ist,igo):=bw i G' H' M.n.g (.of (M.n.g.trans M.sr.sub)) M.sr.sub;by_cases w:i=d.length
 .refine .inl {ist w,?_};rw [w,List.drop_length] at z;exact z L aO fy G' H' (up M)
 .have cu:i<d.length:=by lia
  let(hgo,hyld):=igo d[i] (zzg cu);refine .inr {hgo,λj Z=>i+1<=d.length/\∃qk yV G2 A Y,fA W ob G1 H0 A j Y qk yV G2 Z/\cY W aG Ge He E (df f (d.drop (i+1)) A Y) (I0 W aG Ge He D),λj Z h2=>{d.length-(i+1),by lia,h2.1,rfl,h2.2},λx kI hy=>?_};let(oy,g0,rx):=hyld x kI hy;have p7:aD (W.at aO) G' H' oy kI:=⟨g0.g,g0.h,g0.sub,g0.own,g0.tb⟩;have Th:Rep (W.at aO) oy d[i] x:=Rep.at M.n.ids _ rx;rw [List.drop_eq_getElem_cons cu] at z;unfold df at z;have RV:f d[i] a F=(Rs.of (V.put d[i] a) F).bind λa s=>aP F1 F2 b a s:=by rw [<-hf]
  rw [RV] at z;have t2:=M.grow p7
  cases r:V.put d[i] a with
  |bad=>rw [r] at z;exact z.elim|exc c=>exact absurd r (qj c)|ok A=>
   rw [r] at z;refine nt (W:=W.at aO) S.C.K r t2.sr Th λj sr3=>{ob,G1,H0,aO,fy,oy,A,F,⟨sr3,t2.u,t2.n,t2.s⟩,?_}
   have B:cY W aG Ge He E ((aP F1 F2 b A F).bind λfl s=>match fl with
    |.nx a=>df f (d.drop (i+1)) a s|.ct a=>df f (d.drop (i+1)) a s|.bk a=>.ok (.nx a) s|.rt p=>.ok (.rt p) s) (I0 W aG Ge He D):=z
   cases r2:aP F1 F2 b A F with
   |bad=>rw [r2] at B;exact B.elim|exc cc s3=>rw [r2] at B;exact λCv ao O x=>B Cv ao O (HG.comp U.n VM x)|ok fl s3=>
    rw [r2] at B;cases fl with
    |nx e=>exact λP Q y R O t3=>⟨cu,Q,y,R,e,s3,t3,B⟩|ct e=>exact λP Q y R O t3=>⟨cu,Q,y,R,e,s3,t3,B⟩|bk e=>exact λP Q y R O t3=>B P Q y R O (up t3)|rt q=>exact λv Q R O rv g3 u3 e3=>B v Q R O rv (U.n.comp VM g3) u3 e3
def BI(S:DV Γ Δ F1 F2 W N sc k E X){i:Nat}{y B:Pos}(F:N[i]?=hG x)(L:ft sc x=hQ){m:List Nat}{f:Tg}{c:X2}{b j q:ia}{a:iv}{pos:Pos}(h:i3 N sc a kk m (aC b))(M:jv kk f=hQ)(O:oH it=hQ)(r:m5 Γ N sc b it j=hQ)
 (P:eZ (aC b++freeOf a) (cB a sc) (iV a) f b=hQ) (he:∀Y,ox Γ.yf Δ F1 F2 W (aC b++freeOf a) (cB a sc) k FX Y->G2 Y W F1 F2 aG Ge He FX c q):DW X W F1 F2 aG Ge He E (.set i (.comp kk m f it c)) (.Assign [.Name x y] (.ListComp q [{b,j,[],0}] a pos) B):=by
 let(T,a2,U):=dJ S.s0 F L
 cases R:QJ sc x y (.ListComp q [⟨b,j,[],0⟩] a pos) with
 |false=>exact xQ S F L (xH S.C h M O r P he) (by rw [iQ S.s0.C.eP S.s0.kind,R])|true=>
  intro V Z σ H D I hq;let(ob,H0,G,env,s,t,o):=hq;have e0:=t.s;subst e0;have d:=S.C.C ob t.u;unfold fO at o;have Cp:(freeOf a).Nodup:=(List.nodup_append.mp h.nd).2.1;have rd:=tH (N:=N) (Q:=λv e=>D.nx (σ.set i (hG v)) e) S.C M O h.slots Cp t (o.bind.imp λp s' hp v aO fy G' H' t' g' rp=>hp _ aO fy G' H' (Ds i t' rp))
  have:=nV (g:=gT X.K f) (te:=t2 W F1 F2 aG Ge He FX c) (xs:=aC b) (ys:=freeOf a) (is:=m) (pos:=pos) T a2 U (d.calm S.C.qt) (kO d.hN d.eP I.ok h) (uZ it d b j r)
   (λfp w e A=>uQ (fn:=iV a) (X:=bP X (aC b++freeOf a) a (bG X.env (freeOf a)) fp w e A) rfl h.nd (eg d.eP) rfl (λ_ z=>z) P)
   (λfp w e A=>he _ (S.C.block h fp w e A)) (by rw [iQ (l:=B.line) d.eP S.s0.kind,R]) (fG r _) (.inl (S.s0.fn x)) V Z σ H D I
  rw [h.len] at this;exact this rd
end
abbrev OP:ia->Bool
 |.Starred .. =>hU|_=>hQ
def FT{p:ia}(h:OP p=hQ)(env:Env)(ps:List ia):starEach (p::ps) env=(hU,eval p env)::starEach ps env:=by
 cases p<;>first|rfl|exact aN h
mutual
noncomputable def qP(Γ:Pg)(d:sA)(N:List Str)(sc:iv):X2->ia->Bool
 |.pu e,p=>gA e&&aV Γ N sc e p|.sD f as,p=>(AG p).any λq=>f==q.1&&(d.cs.contains q.1&&jd sc q.1&&okN q.1&&eO as&&!q.2.isEmpty&&eF Γ N sc as q.2)|.met o c m as,p=>(HM p).any λq=>(Jl q.1).any λr=>q.2.2.1.isEmpty&&(m==r.2.1&&(d.ms.contains (c,m)&&gA o&&aV Γ N sc o r.1&&rG r.1&&r.2.2.endLine==q.2.2.2.line&&eO as&&eF Γ N sc as q.2.1&&decide (gQ as<30)))|.new c as,p=>(AG p).any λq=>c==q.1&&(d.ns.contains q.1&&jd sc q.1&&okN q.1&&eO as&&eF Γ N sc as q.2)|.tup as,p=>(Ho p).any λps=>decide (FG as<1000)&&Bg Γ d N sc as ps|.cmp o a b,p=>(NN p).any λq=>(eR q.2.1).any λop=>(eR q.2.2).any λh=>decide (mr o=op)&&(qP Γ d N sc a q.1&&qP Γ d N sc b h&&!behindInMarks (mr o) h)|.comp k j i it elt,p=>(OI p).any λq=>(eR q.2.1).any λg=>g.ifs.isEmpty&&(tD N sc q.2.2 k j (aC g.target)&&jv k i&&oH it&&m5 Γ N sc g.target it g.iter&&eZ (aC g.target++freeOf q.2.2) (cB q.2.2 sc) (iV q.2.2) i g.target&&qP Γ.yf d (aC g.target++freeOf q.2.2) (cB q.2.2 sc) elt q.1&&decide (g.is_async=0))
noncomputable def Bg(Γ:Pg)(a:sA)(N:List Str)(sc:iv):A3->List ia->Bool
 |.nil,[]=>hQ|.cons x xs,p::ps=>OP p&&(qP Γ a N sc x p&&Bg Γ a N sc xs ps)|_,_=>hU
end
abbrev xo(Γ:Pg)(c:sA)(N:List Str)(sc:iv):T2->ia->Bool
 |.pu e,p=>f9 e&&aV Γ N sc e p|.cmp o a b,p=>qP Γ c N sc (.cmp o a b) p|.or a b,p=>(NC p).any λq=>!um q.1&&((wY q.2.1).any λr=>xo Γ c N sc a r.1&&xo Γ c N sc b r.2)
abbrev OE:X2->Bool
 |.comp _ _ _ _ _=>hQ|_=>hU
mutual
noncomputable def xn(Γ:Pg)(d:sA)(N:List Str)(sc:iv):S2->je->Bool
 |.p st,p=>eN Γ N sc st p|.set i x,.Assign ts p _=>(Ll ts).any λy=>N[i]?==hG y&&(ft sc y&&(OE x||gG p)&&qP Γ d N sc x p)
 |.ex x,.Expr p _=>gG p&&qP Γ d N sc x p|.ret x,.Return (hG p) _=>qP Γ d N sc x p|.kA c i f e,.Assign ts p _=>(eR ts).any λt=>(Jl t).any λr=>(fB r.1).any λx=>r.2.1==f&&((N[i]?==hG x&&dG sc x&&okN x)&&d.fl.contains (c,f)&&gA e&&gG p&&aV Γ N sc e p)|.ite c a b,.If p k g _=>xo Γ d N sc c p&&(ez Γ d N sc a k&&ez Γ d N sc b g)|.cL m it b,.For j o g h _=>h.isEmpty&&(eZ N sc (λZ=>hQ) m j&&oH it&&m5 Γ N sc j it o&&ez Γ d N sc b g)|_,_=>hU
noncomputable def ez(Γ:Pg)(a:sA)(N:List Str)(sc:iv):oz->List je->Bool
 |.nil,[]=>hQ|.cons (.p (.bw _)) ss,ps=>ez Γ a N sc ss ps|.cons s ss,p::ps=>xn Γ a N sc s p&&ez Γ a N sc ss ps|_,_=>hU
end
section
variable{Δ:sA}{W:Wd}{F1:Sg->aF}{F2:eT}{aG:List Ob}{Ge He:Hp}
mutual
theorem pd:∀(x:X2) {Γ:Pg} {N:List Str} {sc:iv} {E:XK} {X:Cx},ox Γ Δ F1 F2 W N sc k E X->∀p,qP Γ Δ N sc x p=hQ->G2 X W F1 F2 aG Ge He E x p
 |.pu e,Γ,N,sc,E,X,S,p,h=>by have h:=aj h;exact N3 S h.1 h.2|.sD f as,Γ,N,sc,E,X,S,p,h=>by
  let(g,args,np,t,rfl,j):=DY h;have d:=aj j;cases zzy.mp d.1;have i:=d.2;simp! [zza] at i;let(((((u,a2),w),y),A),C):=i
  cases args with
  |nil=>exact aN A|cons q qs=>exact JY S u a2 w y C
 |.met o c m as,Γ,N,sc,E,X,S,p,h=>by let((f,args,O,t),e,j):=ah h;have z:=kL e;let((po,I,K),P,d):=ah j;have r:=qG P;have i:=aj d;have D:=wc i.1;dsimp only at z r D;subst z r D;have s:=aj i.2;have G:=zzy.mp s.1;dsimp only at G;subst G;have B:=s.2;simp! [zza] at B;let(((((((u,a2),w),y),A),C),F),Q):=B;exact J0 S u a2 w y A C F (zzY Q)|.new c as,Γ,N,sc,E,X,S,p,h=>by let(g,args,np,t,rfl,j):=DY h;have d:=aj j;cases zzy.mp d.1;have i:=d.2;simp! [zza] at i;let((((u,a2),w),y),A):=i;exact J1 S u a2 w y A
 |.tup as,Γ,N,sc,E,X,S,p,h=>by let(R,e,j):=ah h;let(_,_,rfl):=se e;have d:=aj j;exact J3 (zzY d.1) (IG as S R d.2)|.cmp o a b,Γ,N,sc,E,X,S,p,h=>by let(pa,T,bs,t,rfl,j):=Qh h;let(op,L,d):=gj j;let(pb,r,i):=gj d;dsimp only at L r;subst L r;have s:=aj i;have G:=zzY s.1;subst G;have B:=s.2;rw [zza,zza,Bool.not_eq_true'] at B;exact JZ S (pd a S _ B.1.1) (pd b S _ B.1.2) B.2|.comp kk aM tg it elt,Γ,N,sc,E,X,S,p,h=>by let(U,M,H,_,rfl,j):=M8 h;let((bX,d9,V,Z),r,d):=gj j;have i:=aj d;have D:=wc i.1;dsimp only at r D;subst r D;have s:=i.2;simp! [zza] at s;let((((((u,a2),w),y),A),C),F):=s;have F:=zzY F;subst F;exact xH S (fZ u) a2 w y A λY CY=>pd elt CY U C
theorem IG:∀(xs:A3) {Γ:Pg} {N:List Str} {sc:iv} {E:XK} {X:Cx},ox Γ Δ F1 F2 W N sc k E X->∀ps,Bg Γ Δ N sc xs ps=hQ->Ni X W F1 F2 aG Ge He E xs ps
 |.nil,Γ,N,sc,E,X,S,ps,h=>by
  cases ps with
  |nil=>exact EW|cons _ _=>exact aN h
 |.cons x xs,Γ,N,sc,E,X,S,ps,h=>by
  cases ps with
  |nil=>exact aN h|cons p ps=>have a:=aj h;have b:=aj a.2;exact BA (pd x S p b.1) (IG xs S ps b.2) (FT a.1 _ _)
end
theorem Mv:∀(x:T2) {Γ:Pg} {N:List Str} {sc:iv} {E:XK} {X:Cx},ox Γ Δ F1 F2 W N sc k E X->∀p,xo Γ Δ N sc x p=hQ->Ja X W F1 F2 aG Ge He E x p
 |.pu e,Γ,N,sc,E,X,S,p,h=>by have h:=aj h;exact Kr S h.1 h.2|.cmp o a b,Γ,N,sc,E,X,S,p,h=>by let(q,t,bs,i,rfl,j):=Qh h;let(op,c,f):=gj j;let(r,s,m):=gj f;dsimp only at c s;subst c s;have d:=aj m;have u:=zzY d.1;subst u;have g:=d.2;rw [zza,zza,Bool.not_eq_true'] at g;exact Ff S (pd a S _ g.1.1) (pd b S _ g.1.2) g.2|.or a b,Γ,N,sc,E,X,S,p,h=>by let(o,w,i,rfl,j):=Rq h;have f:=aj j;let(q,r,z,m):=DO f.2;have c:=xZ f.1;dsimp only at z c;subst z c;have d:=aj m;exact Kq (Mv a S q d.1) (Mv b S r d.2)
variable{Γ:Pg}{sc:iv}{E:XK}
def zS{s:S2}{a:oz}{ps:List je}(h:ez Γ Δ N sc (.cons s a) ps=hQ):(∃i,s=.p (.bw i)/\ez Γ Δ N sc a ps=hQ)\/∃q qs,ps=q::qs/\xn Γ Δ N sc s q=hQ/\ez Γ Δ N sc a qs=hQ:=by
 by_cases b:∃i,s=.p (.bw i)
 .let(i,rfl):=b;exact .inl ⟨i,rfl,h⟩
 .cases ps with
  |nil=>
   cases s with
   |p st=>cases st<;>first|(exact aN h)|(exact absurd ⟨_,rfl⟩ b)
   |_=>exact aN h
  |cons q qs=>
   refine .inr {q,qs,rfl,?_};have c:(xn Γ Δ N sc s q&&ez Γ Δ N sc a qs)=hQ:=by
    cases s with
    |p st=>cases st<;>first|(exact h)|(exact absurd ⟨_,rfl⟩ b)
    |_=>exact h
   exact{(aj c).1,(aj c).2}
set_option tactic.hygienic true
mutual
theorem Pl(S:DV Γ Δ F1 F2 W N sc k E X):∀(x:S2) (p:je) {aG:List Ob} {Ge He:Hp},xn Γ Δ N sc x p=hQ->DW X W F1 F2 aG Ge He E x p
 |.p st,p,_,_,_,h=>N8 S h|.set i x,p,_,_,_,h=>by
  cases p<;>first|(exact aN h)|skip
  let(y,M,d):=ah h;let(xp,rfl):=k7 M;have g:=aj d;have hN:=zzy.mp g.1;have s:=g.2;rw [zza,zza,gd] at s;let((j,a2),r):=s
  cases x with
  |comp kk aM O it elt=>let(P,F,A,_,rfl,Q):=M8 r;let((bX,d9,R,T),u,U):=gj Q;have G:=aj U;have w:=wc G.1;dsimp only at u w;subst u w;have H:=G.2;simp! [zza] at H;let((((((V,Z),c3),c4),c5),c6),B):=H;have B:=zzY B;subst B;exact BI S hN j (fZ V) Z c3 c4 c5 λY CY=>pd elt CY P c6|_=>exact xQ S hN j (pd _ S.C _ r) (iR (a2.elim (λz=>aN z) id))
 |.ex x,p,_,_,_,h=>by
  cases p<;>first|(exact aN h)|skip
  have d:=aj h;exact Kg (pd x S.C _ d.2) d.1
 |.ret x,p,_,_,_,h=>by
  cases p<;>first|(exact aN h)|skip
  rename_i v pos;cases v with
  |none=>exact aN h|some q=>exact E6 (pd x S.C q h)
 |.kA c i f e,p,_,_,_,h=>by
  cases p<;>first|(exact aN h)|skip
  let(t,I,d):=gj h;let((o,m,ap),e1,g):=ah d;let(x,e2,s):=ah g;have u:=qG e1;let(np,w):=bT e2;dsimp only at I u w s;subst I u w;have K:=aj s;have z4:=zzy.mp K.1;subst z4;have L:=K.2;rw [zza,zza,zza,zza] at L;let((((j,a2),r),D),a5):=L;exact BJ S j a2 r a5 D
 |.ite c a b,p,_,_,_,h=>by
  cases p<;>first|(exact aN h)|skip
  have d:=aj h;have g:=aj d.2;exact E5 (Mv c S.C _ d.1) (lp S a _ g.1) (lp S b _ g.2)
 |.cL O it b,p,_,_,_,h=>by
  cases p<;>first|(exact aN h)|skip
  have d:=aj h;have z:=wc d.1;subst z;have g:=d.2;rw [zza,zza,zza] at g;let(((j,a2),r),D):=g;exact E4 S j a2 r λaG Ge He=>lp S b _ D
theorem lp(S:DV Γ Δ F1 F2 W N sc k E X):∀(xs:oz) (ps:List je) {aG:List Ob} {Ge He:Hp},ez Γ Δ N sc xs ps=hQ->qw X W F1 F2 aG Ge He E xs ps
 |.nil,ps,_,_,_,h=>by
  cases ps with
  |nil=>exact BO|cons _ _=>exact aN h
 |.cons x xs,ps,_,_,_,h=>by
  rcases zS h with⟨i,e,a⟩|⟨q,qs,e,b,a⟩
  .rw [e];exact BN (lp S xs ps a)
  .rw [e];exact zJ (Pl S x q b) (lp S xs qs a)
end
set_option tactic.hygienic false
end
structure mR where
 f:Str
 c:Option Str
 m:Str
 d:D2
 st:je
noncomputable abbrev hZ:Type:=List mR
abbrev oh(l:hZ):List (Str×D2):=l.map λr=>(r.f,r.d)
abbrev mh(fl:List (Str×Str))(l:hZ):sA:={l.filterMap λr=>if r.c.isNone then hG r.f else hI,l.filterMap λr=>r.c.map λc=>(c,r.m),l.filterMap λr=>if r.m==(zu 13:Str) then r.c else hI,fl}
structure fD(Γ:Pg)(Δ:sA)(n q:Str)(d:D2)(st:je):Prop where
 sc:jx d.N (d.N.take d.np) (az st)
 np:d.np<=d.N.length
 bind:∀(kV doc pm:hV) (an:Option h9) (dD ct:hV) (us:List hV),us.length=(d.N.take d.np).length->bindArgs (PySem.W.fnOf n q (cy st) (bC st) (az st) .none kV doc pm an dD ct) {us,[]}=pure ((d.N.take d.np).zip us)
 Qg:ez Γ Δ d.N (az st) d.body (bC st)=hQ
theorem va{Γ:Pg}{c:sA}{n q:Str}{d:D2}(b:∀(kV a e:hV) (f:Option h9) (dD ct:hV) (us:List hV),us.length=(d.N.take d.np).length->bindArgs (PySem.W.fnOf n q (cy st) (bC st) (az st) .none kV a e f dD ct) {us,[]}=pure ((d.N.take d.np).zip us))
 (a1:(az st).kind=.function:=by rfl) (a2:(az st).isCoroutine=hU:=by rfl) (g:(az st).isGenerator=hU:=by rfl) (h:d.N.Nodup:=by decide+kernel) (i:d.N.take (d.N.take d.np).length=d.N.take d.np:=by rfl)
 (j:∀x∈d.N.take d.np,(az st).names.lookup x=hG .local\/(az st).names.lookup x=hG .cell:=by decide+kernel) (k:∀y∈(az st).names,y.2≠.free:=by decide+kernel) (m:d.np<=d.N.length:=by decide+kernel) (o:ez Γ c d.N (az st) d.body (bC st)=hQ:=by decide+kernel):fD Γ c n q d st:={⟨a1,a2,g,h,i,j,k⟩,m,b,o}
def AU(K:zz8)(n q:Str)(c:Option Str)(st:je):Prop:=∃(f:h9) (oc:hV) (b:Option h9) (kV a d:hV) (e:Option h9) (dD ct:hV) (g:Array (Option hV)),
 (match c with
  |none=>PySem.W.nsIn K jf n=hG (hG (.ref f))/\q=n|some c=>q=jw c n/\∃C,PySem.W.nsIn K jf c=hG (hG (.ref C))/\PySem.W.findIn K (.ref C) n=hG (hG (.ref f))/\PySem.W.isFn K (.ref f)=hQ)/\
 K.lookup f=hG {oc,b,.func (PySem.W.fnOf n q (cy st) (bC st) (az st) .none kV a d e dD ct),g}/\PySem.W.codeIn K dD q=hQ/\PySem.W.keepIn K (.ref f)=hQ
structure vn(K:zz8)(fl:List (Str×Str))(c:Str):Prop where
 ex:∃C,PySem.W.nsIn K jf c=hG (hG (.ref C))/\qv K C/\PySem.W.makesIn K C=hQ/\PySem.W.keepIn K (.ref C)=hQ/\∀f,fl.contains (c,f)=hQ->cC K C f
structure kH(P:ig)(w:ij)(K:zz8)(mg:Str->Option hV)(base:i1)(W:Wd)(F2:eT)(k:Nat)(f:Str)(fa:h9):Prop where
 ex:∃fd ps,fL P w K mg base (dQ P w) k fa fd ps (Na W F2 f ps.length)/\Binds K fd ps []/\∀as s,F2 f as s≠.bad->as.length=ps.length
structure T1(P:ig)(w:ij)(K:zz8)(mg:Str->Option hV)(base:i1)(W:Wd)(F1:Sg->aF)(Γ:Pg)(k:Nat):Prop where
 M:∀ob,oC K mg Γ (W.at ob)
 F:∀ob,oE W.K W.mg ob->∀f,Γ.fs.contains f=hQ->i8 P w K mg base (W.at ob) (F1 (aX ob)) k f
 H:∀ob,oE W.K W.mg ob->∀q∈Γ.hs,AY P w K mg base (W.at ob) (F1 (aX ob)) k q
 Q:∀ob,oE W.K W.mg ob->∀f,Γ.qs.contains f=hQ->i8 P w K mg base (W.at ob) (F1 (aX ob)) 2 f
 A:∀ob,oE W.K W.mg ob->∀g as,F1 (aX ob) g as≠.bad->Γ.fs.contains g=hQ\/dZ g=hQ
 D:∀ob,oE W.K W.mg ob->∀f q,F1 (aX ob) (bW f) [q]≠.bad->∃n o p,q=.obj n/\ob[n]?=hG o/\o.fs.lookup f=hG p/\F1 (aX ob) (bW f) [q]=.ok p/\qv K o.C/\cC K o.C f
 qt:Γ.qt=hU
 hl:Γ.hl=hU
 k2:2<=k
structure Rm(P:ig)(w:ij)(K:zz8)(mg:Str->Option hV)(base:i1)(W:Wd)(F2:eT)(Δ:sA)(k:Nat):Prop where
 sD:∀f,Δ.cs.contains f=hQ->∃fa,mg f=hG (.ref fa)/\PySem.W.keepIn K (.ref fa)=hQ/\kH P w K mg base W F2 k f fa
 met:∀c m,Δ.ms.contains (c,m)=hQ->∃C fa,mg c=hG (.ref C)/\Meth K C m fa/\kH P w K mg base W F2 k (jw c m) fa
 new:∀c,Δ.ns.contains c=hQ->∃C fa j,mg c=hG (.ref C)/\qv K C/\Mk K C fa/\j+1<=k/\kH P w K mg base W F2 j (jw c (zu 13)) fa
 fl:∀c f,Δ.fl.contains (c,f)=hQ->∀C,mg c=hG (.ref C)->cC K C f
section
variable{K:zz8}{Γ:Pg}{Δ:sA}{W:Wd}{F1:Sg->aF}{F2:eT}
def AY.mono{F:aF}{W:Wd}{q:Hs}(h:AY P w K mg base W F j q)(hk:j<=k):AY P w K mg base W F k q:=by let(a,fd,b,c,d):=h.ex;exact{a,fd,b,c.mono hk,d}
def T1.mono(t:T1 P w K mg base W F1 Γ j)(h:j<=k):T1 P w K mg base W F1 Γ k:=
 {t.M,λob u f a=>(t.F ob u f a).mono h,λob u q b=>(t.H ob u q b).mono h,t.Q,t.A,t.D,t.qt,t.hl,ee t.k2 h}
def kH.mono(c:kH P w K mg base W F2 j f a)(h:j<=k):kH P w K mg base W F2 k f a:=by let(fd,b,d,e):=c.ex;exact{fd,b,d.mono h,e}
def DC{F a:eT}{b:Str}{n:Nat}(e:∀as s,a b as s=F f as s):Na W a b n=Na W F f n:=by
 funext c H Q E
 unfold Na;simp! [e]
def kH.swap{F a:eT}{b:Str}{d:h9}(c:kH P w K mg base W F k f d)(e:∀as s,a b as s=F f as s):kH P w K mg base W a k b d:=by let(fd,g,h,i,j):=c.ex;refine{fd,g,?_,i,λas s m=>j as s (by rw [<-e];exact m)};rw [DC e];exact h
def Bx(X:K.In base){n q nf:Str}{d:D2}{fd:FuncData}(T:T1 P w K mg base W F1 Γ k)(U:Rm P w K mg base W F2 Δ k)(St:fD Γ Δ n q d st)(Y:MK K n q st a fd):
 fL P w K mg base (dQ P w) (k+2) a fd (d.N.take d.np) (Na W (λ_ as s=>fu F1 F2 d as s) nf (d.N.take d.np).length):=by
 have i:(d.N.take d.np).length=d.np:=by rw [List.length_take];have:=St.np;lia
 let(oc,od,kV,Z,pm,an,dD,ct,oZ,rfl,lk,vR):=Y.ex;have hK:W.K=K:=(T.M []).hK;have hM:W.mg=mg:=(T.M []).hm;refine Ia lk vR St.sc (λV H Q E h=>h.1) λA outer s H V Q E hr h=>?_;let(hl,ob,G,as,sg,tb,u,l,o):=h;rw [i] at hl;have L:∀ob,oE W.K W.mg ob->er Γ (F1 (aX ob)) (W.at ob) d.N (az st) k E (dS (dQ P w) P w K mg base d.N q (az st) a dD A outer s H E):=λob u=>Bk (outer:=outer) (s:=s) (H:=H) (E:=E) (T.M ob) X St.sc (T.F ob u) (T.H ob u) (λf b=>{T.k2,T.Q ob u f b}) (λ_=>T.k2) (T.A ob u) (T.D ob u) (λz=>by rw [T.hl] at z;cases z) hr
 have CY:DV Γ Δ F1 F2 W d.N (az st) k E (dS (dQ P w) P w K mg base d.N q (az st) a dD A outer s H E):={{λob u=>(L ob u).C,(L [] wg).pass,T.qt,hK,hM,λf b=>by
  let(a,y,B,I):=U.sD f b;exact{a,y,B,⟨I.ex⟩},λc m b=>by
  let(C,a,y,B,I):=U.met c m b;exact{C,a,y,B,⟨I.ex⟩},λc b=>by
  let(C,a,j,y,B,I,h4,h5):=U.new c b;exact{C,a,j,y,B,I,h4,⟨h5.ex⟩},U.fl},L}
 have sr:SR (W.at ob) H (og d as) (start d.N V) G H:=n6 sg tb l (by rw [<-l.length,hl];exact St.np)
 refine{MD W F1 F2 ob G H E d.body,lp CY d.body _ St.Qg,ob,H,G,_,aX ob,{sr,u,.refl,rfl},?_};dsimp only at o;unfold fu at o;rw [if_pos (by rw [<-l.length,hl];exact beq_self_eq_true _)] at o;cases r:aP F1 F2 d.body (og d as) (aX ob) with
 |bad=>rw [r] at o;exact o|exc c s1=>rw [r] at o;exact o|ok fl s1=>
  rw [r] at o;cases fl with
  |nx env=>exact λσ' O fy R S t=>o .aL O R S (t.n.oQ t.sr) t.u t.s .n|rt p=>exact λv O R S rv g u e=>o v O R S g u e rv|bk env=>exact o.elim|ct env=>exact o.elim
def JV(g:K.In base){n q nf:Str}{d:D2}{c:h9}{fd:FuncData}(T:T1 P w K mg base W F1 Γ k)(U:Rm P w K mg base W F2 Δ k)(St:fD Γ Δ n q d st)(e:MK K n q st c fd):
 kH P w K mg base W (λZ as s=>fu F1 F2 d as s) (k+2) nf c:=by
 refine{_,d.N.take d.np,Bx g T U St e,e.binds St.bind,λas s a=>?_};have b:(d.N.take d.np).length=d.np:=by rw [List.length_take];have:=St.np;lia
 have a:fu F1 F2 d as s≠.bad:=a;unfold fu at a;by_cases f:(as.length==d.np)=hQ
 .rw [b];exact zzy.mp f
 .rw [if_neg f] at a;exact absurd rfl a
def mQ(K:zz8)(Γ:Pg)(fl:List (Str×Str)):hZ->Prop
 |[]=>True|r::l=>AU K r.m r.f r.c r.st/\fD Γ (mh fl l) r.m r.f r.d r.st/\(l.map (·.f)).contains r.f=hU/\mQ K Γ fl l
def zw{r:mR}{l:hZ}(h:(g==r.f)=hU)(as:List PV)(s:Sg):dE F1 (oh (r::l)) g as s=dE F1 (oh l) g as s:=by show(if(g==r.f)=hQ then _ else _)=_;rw [h];rfl
def zx{r:mR}{l:hZ}(as:List PV)(s:Sg):dE F1 (oh (r::l)) r.f as s=fu F1 (dE F1 (oh l)) r.d as s:=by show(if(r.f==r.f)=hQ then _ else _)=_;rw [beq_self_eq_true];rfl
theorem nX{fl:List (Str×Str)}:∀{l:hZ},mQ K Γ fl l->∀{x:mR} {c:Str},x∈l->x.c=hG c->x.f=jw c x.m
 |[],_,_,_,h,_=>nomatch h|r::l,⟨he,_,_,a⟩,x,c,h,e=>by
  rcases e9.mp h with z|z
  .subst z;let(d,oc,g,kV,b,i,j,dD,ct,k,e1,o,p,q):=he;rw [e] at e1;exact e1.1
  .exact nX a z e
set_option tactic.hygienic true in
theorem xb(i:K.In base)(G:base.Ns jf mg){fl:List (Str×Str)}{k1:Nat}(T:T1 P w K mg base W F1 Γ k1)(N:∀c f,fl.contains (c,f)=hQ->vn K fl c):∀(l:hZ),mQ K Γ fl l->(∀r∈l,∀c,r.c=hG c->vn K fl c)->Rm P w K mg base W (dE F1 (oh l)) (mh fl l) (k1+3*l.length)
 |[],_,_=>{(λf h=>nomatch h),(λc m h=>nomatch h),(λc h=>nomatch h),λc f h C hC=>by let(B,e,_,_,_,V):=(N c f h).ex;have:=PySem.W.mg_of i G e;rw [hC] at this;cases this;exact V f h}
 |r::l,k,O=>by
  let(he,hs,D,E):=k;have o:=xb i G T N l E λX Y=>O X (b0 _ Y);let(b,oc,od,kV,Z,pm,an,dD,ct,oZ,e1,e2,e3,F):=he;have Fu:=q8 (st:=r.st) e2 e3 F;have ok:=JV (nf:=r.f) i (T.mono (Nat.le_add_right _ (3*l.length))) o hs Fu;have H:kH P w K mg base W (dE F1 (oh (r::l))) (k1+3*l.length+2) r.f b:=ok.swap λas s=>zx as s;have up:k1+3*l.length<=k1+3*(r::l).length:=by rw [cS];lia
  have Q:k1+3*l.length+2<=k1+3*(r::l).length:=by rw [cS];lia
  have d:∀{g:Str} {b:h9} {j:Nat},(l.map (·.f)).contains g=hQ->kH P w K mg base W (dE F1 (oh l)) j g b->kH P w K mg base W (dE F1 (oh (r::l))) j g b:=λ{g b j} R c=>c.swap λas s=>zw (by
   cases z:g==r.f with
   |false=>rfl|true=>rw [zzy.mp z,D] at R;cases R) as s
  refine{λf a=>?_,λc m a=>?_,λc a=>?_,o.fl}
  .have a:(List.filterMap (λr:mR=>if r.c.isNone then hG r.f else hI) (r::l)).contains f=hQ:=a;rw [fb,gS] at a;let(x,p,e):=a;split at e
   .rename_i S;cases e;rcases e9.mp p with z|z
    .subst z;rw [Option.isNone_iff_eq_none.mp S] at e1;exact{b,by rw [e1.2];exact PySem.W.mg_of i G e1.1,F,H.mono Q}
    .let(q,t,u,y):=o.sD x.f (by
      show(List.filterMap (λr:mR=>if r.c.isNone then hG r.f else hI) l).contains x.f=hQ;rw [fb,gS];exact{x,z,if_pos S})
     exact{q,t,u,(d (by rw [fb];exact List.mem_map_of_mem z) y).mono up}
   .cases e
  .have a:(List.filterMap (λr:mR=>r.c.map λc=>(c,r.m)) (r::l)).contains (c,m)=hQ:=a;rw [fb,gS] at a;let(x,p,e):=a;let(c',I,e):=b4.mp e
   cases e;rcases e9.mp p with z|z
   .subst z;rw [I] at e1;let(eq,C,A,L,M):=e1;refine{C,b,PySem.W.mg_of i G A,⟨L,M,F⟩,?_};rw [<-eq];exact H.mono Q
   .let(C,q,t,u,y):=o.met c x.m (by
     show(List.filterMap (λr:mR=>r.c.map λc=>(c,r.m)) l).contains (c,x.m)=hQ;rw [fb,gS];exact{x,z,by rw [I];rfl})
    refine{C,q,t,u,(d ?_ y).mono up};have:=nX E z I;rw [fb,<-this];exact List.mem_map_of_mem z
  .have a:(List.filterMap (λr:mR=>if r.m==(zu 13:Str) then r.c else hI) (r::l)).contains c=hQ:=a;rw [fb,gS] at a;let(x,p,e):=a;split at e
   .rename_i hm;rcases e9.mp p with z|z
    .subst z;rw [e] at e1;let(eq,C,A,L,M):=e1;let(B,m1,m2,m3,m4,_):=(O x dB c e).ex;have Wh:B=C:=by rw [A] at m1;cases m1;rfl
     subst Wh;have U:=zzy.mp hm;refine{B,b,k1+3*l.length+2,PySem.W.mg_of i G A,m2,{m3,by rw [<-U];exact L,M,m4},by rw [cS];lia,?_};rw [<-U,<-eq];exact H
    .let(C,q,j,t,u,y,h4,h5):=o.new c (by
      show(List.filterMap (λr:mR=>if r.m==(zu 13:Str) then r.c else hI) l).contains c=hQ;rw [fb,gS];exact{x,z,by rw [if_pos hm];exact e})
     refine{C,q,j,t,u,y,ee h4 up,d ?_ h5};have:=nX E z e;rw [zzy.mp hm] at this;rw [fb,<-this];exact List.mem_map_of_mem z
   .cases e
end
end Ci
namespace L2
open PySem.Spec PyProof.Rows
def zX{K:zz8}{mb:Str->Option hV}{CX:yS}{M:h9}{fd:FuncData}{sp:Sp}{f:hW}{vs:List hV}{ns:List Int}(i:List h9)
 (N:K.In f.heap) (Q:f.heap.Ns jf mg) (g:f.heap.Ns builtinsNs mb) (Wt:∀x:Str,x≠(zu 35)->mb x=bootBuiltins x) (vV:f.heap.NoLimit) (hg:f.gens=#[])
 (A:∀p∈i,f.heap.get? p=hG (PySem.W.tabObj #[])) (hC:∀p∈i,∃c,Ci.gN K c p) (Wm:∀p∈i,K.lookup p=hI)
 (B:f.heap.get? a=hG {cls:=.type "list",data:=.seq vs.toArray}) (R:IntsAre vs ns) (hl:ns.length<=i2) (hr:cN k callerA)
 (F:∀base:i1,K.In base->base.Ns jf mg->fL P w K mg base CX k M fd [x] sp) (Om:∀(s:hW) (u:hV),BindsTo s fd {[u],[]} [(x,u)])
 (M4:∀H:Hp,(∀p∈i,H p=hG (.hJ #[]))->Ci.su K H a (ns.map V.int)->sp [.ref a] H (λv _=>v=.bl hQ) λ_ _ _=>False)
 (RI:∀H e s',CX [] H f (λ_ _ _=>False) e s'->False):
 codeAny (ik P w) callerA (.call (.ref M) {[.ref a],[]}) (λr s'=>r=.ok (.ret (.bool hQ))/\OldK f.heap s'.heap/\s'.os=f.os/\AllBare s'.gens) f:=by
 have S:=AA R;have OJ:=R.length;have aT:a∉i:=λz=>by have:=A a z;rw [B] at this;cases this
 have t:∀H:Hp,(∀p∈i,H p=hG (.hJ #[]))->Ci.su K H a (ns.map V.int)->eY P w H f.heap->(∀b,H b≠hI->b∈i\/b=a/\∃o xs,H b=hG (.bw o xs))->(H a≠hI->K.lookup a=hI)->
  codeAny (ik P w) callerA (.call (.ref M) {[.ref a],[]}) (λr s'=>r=.ok (.ret (.bool hQ))/\OldK f.heap s'.heap/\s'.os=f.os/\AllBare s'.gens) f:=by
  intro H T hS aR O hK;have U:∀{b:h9} {o:Obj},f.heap.get? b=hG o->H b=hI->(rh f.heap H).get? b=hG o:=λe n=>BS e n
  have FR:∀{b:h9} {o:Obj} {C:Array DictEntry} {D:Nat},f.heap.get? b=hG o->o.data=.dict C D->H b=hI:=λ{b o C D} e d=>by
   cases q:H b with
   |none=>rfl|some u=>
    rcases O b (by rw [q];simp) with z|⟨z,_⟩
    .rw [A b z] at e;cases e;cases d
    .subst z;rw [B] at e;cases e;have d':Data.seq vs.toArray _=Data.dict C D:=d;cases d'
  have G:∀{b:h9} {m:Str->Option hV},f.heap.Ns b m->(rh f.heap H).Ns b m:=λ{b m} ⟨o,C,D,e,d,r⟩=>{o,C,D,U e (FR e d),d,r}
  have X:K.In (rh f.heap H):=λb o e=>U (N b o e) (by
   cases q:H b with
   |none=>rfl|some u=>
    rcases O b (by rw [q];simp) with z|⟨z,_⟩
    .rw [Wm b z] at e;cases e
    .subst z;rw [hK (by rw [q];simp)] at e;cases e)
  have hM:Mod K mg (rh f.heap H):={X,G Q,{mb,G g,Wt},let⟨mc,h1,h2⟩:=vV;{mc,G h1,h2}};have e0:hX P w K mg (rh f.heap H) callerA [] f H:={rfl,hM,λb o e=>Ga e,Nat.le_of_eq (zN _ _),trivial,λb g=>absurd (show b∈([]:List h9) from g) (by simp),aR,.of_eq hg};refine codeAny_mono ((F _ X (G Q)).run callerA [] f H {[.ref a],[]} [.ref a] [.ref a] _ _ hr e0 (Om f (.ref a)) (.cons rfl .nil) (M4 H T hS)) λr s' h=>?_
  cases r with
  |error e=>exact(RI H e s' h).elim|ok fl=>
   cases fl with
   |next=>exact e6 h|brk=>exact e6 h|cont=>exact e6 h|ret u=>
    let(v,H',os,bare,un,Y,r',q):=h;have q':v=.bl hQ:=q;subst q';obtain rfl:u=hV.bool hQ:=r'
    have E:∀b o,f.heap.get? b=hG o->s'.heap.get? b=hG o\/b∈i/\∃m,s'.heap.get? b=hG (PySem.W.tabObj m):=λb o e=>by
     cases q:H b with
     |none=>exact .inl (un.keep b o e q (by intro z;exact absurd (show b∈([]:List h9) from z) (by simp)) (by simp))|some u=>
      rcases O b (by rw [q];simp) with z|⟨z,ob,xs,I⟩
      .right;let(m,hm):=un.iI b _ (T b z);exact{z,_,Y b _ hm}
      .left;have z3:=un.gC b ob _ I;let(e1,_):=aR b _ I;let(e2,_):=Y b _ z3;rw [e] at e1;cases e1;exact e2
    refine{rfl,{λb o e=>?_,λb o e=>?_},os,bare}
    .rcases E b o e with z|⟨z,m,I⟩
     .exact .inl z
     .have Z:=A b z;rw [e] at Z;cases Z;let(c,o',AB,_,_,_,_,_,_,_,k1,k2,k3,k4,_):=hC b z;have tb:f.heap.TableAt c b #[]:={{o',AB,N _ _ k1,k2,k3,k4},e};exact .inr (.inl {tb.isCodeTable,rfl,#[],m,rfl,by rw [I];simp})
    .rcases E b o e with z|⟨_,m,z⟩
     .exact{_,z}
     .exact{_,z}
 cases hk:K.lookup a with
 |some o=>
  have e:=N a o hk;rw [B] at e;cases e;refine t (λb=>if b∈i then hG (.hJ #[]) else hI) (λp L=>if_pos L) (.inr {vs.toArray,_,hk,by rw [a0,OJ];exact hl,zx6 S}) (λb u z=>?_) (λb z=>?_) λz=>absurd (if_neg aT) z
  .by_cases g:b∈i
   .have j:=(if_pos g).symm.trans z;cases j;exact A b g
   .have j:=(if_neg g).symm.trans z;cases j
  .by_cases g:b∈i
   .exact .inl g
   .exact absurd (if_neg g) z
 |none=>
  refine t (λb=>if b=a then hG (.bw {cls:=.type "list",data:=.seq vs.toArray} (.lst (ns.map V.int))) else if b∈i then hG (.hJ #[]) else hI) (λp L=>?_) (.inl (.inr {{cls:=.type "list",data:=.seq vs.toArray},if_pos rfl})) (λb u z=>?_) (λb z=>?_) λ_=>hk
  .show(if p=a then _ else _)=_;rw [if_neg (show¬p=a from λz=>aT (by rw [<-z];exact L)),if_pos L]
  .by_cases g:b=a
   .have j:=(if_pos g).symm.trans z;cases j;subst g;exact{B,by rw [zzl];exact hl,vs,_,S,B}
   .replace z:=(if_neg g).symm.trans z;by_cases y:b∈i
    .have j:=(if_pos y).symm.trans z;cases j;exact A b y
    .have j:=(if_neg y).symm.trans z;cases j
  .by_cases g:b=a
   .exact .inr {g,_,_,if_pos g}
   .by_cases y:b∈i
    .exact .inl y
    .exact absurd ((if_neg g).trans (if_neg y)) z
def DS{l:PySem.W.OpenLaw}{n:Nat}{q:ig}{j:List Str}{E:(Str->Option hV)->i1->Prop}{C:ij->i1->Prop}{d:DefRec}{K:Params->zz8}{CX:ij->yS}{sp:ij->Sp}(y:List h9)
 (I:l.most=hG n) (L:n<=i2) (M:d.params.defaults=[]) (N:cN k callerA)
 (hY:∀(w:ij) (h:i1),C w h->(K w.params).In h/\∀p∈y,h.get? p=hG (PySem.W.tabObj #[])) (hC:∀(w:ij),∀p∈y,(∃c,Ci.gN (K w.params) c p)/\(K w.params).lookup p=hI)
 (F:∀(w:ij) (mg:Str->Option hV) (z:h9) (h:i1),(K w.params).In h->h.Ns jf mg->mg d.name=hG (.ref z)->
  ∃fd:FuncData,(∀(s:hW) (u:hV),BindsTo s fd {[u],[]} [(x,u)])/\
   ∀base:i1,(K w.params).In base->base.Ns jf mg->fL l.prog w (K w.params) mg base (CX w) k z fd [x] (sp w))
 (O:∀(w:ij) (H:Hp) (a:h9) (ns:List Int),ns.length<=n->(∀p∈y,H p=hG (.hJ #[]))->Ci.su (K w.params) H a (ns.map V.int)->sp w [.ref a] H (λv _=>v=.bl hQ) λ_ _ _=>False)
 (P:∀(w:ij) (H:Hp) (s:hW) (e:hV) (s':hW),CX w [] H s (λ_ _ _=>False) e s'->False):
 PySem.W.WalkO q j E C l.row.toRowW d [] (λf vs=>PySem.call f vs):=by
 refine Att.sV I M λw s₀ r mg mb z o pm cd Q a vs ns G Y ho hd vR A t m i R=>?_;let(D,S):=hY w _ Y;let(fd,U,X):=F w mg z _ D G.T.g A;exact zX y D G.T.g G.T.b G.T.builtins G.T.nolimit R S (λp B=>(hC w p B).1) (λp B=>(hC w p B).2) t m (ee i L) N X U (λH Z hS=>O w H a ns i Z hS) λH e s'=>P w H r e s'
end L2
namespace Ci
open L2
theorem jn{W:Wd}:∀(ns:List Int),ag W G (ns.map PV.int) (ns.map V.int)
 |[]=>.nil|n::ns=>.cons .i (jn ns)
abbrev lQ(H:Hp):Hp:=λb=>match H b with
 |some (.hJ _)=>hI|o=>o
def nN(H:Hp):ax (lQ H) H:=λb o e=>by
 unfold lQ at e;split at e
 .cases e
 .exact e
def ke{b:h9}{o:HO}(h:H b=hG o)(n:∀ps,o≠.hJ ps):lQ H b=hG o:=by
 unfold lQ;rw [h];cases o with
 |hJ ps=>exact absurd rfl (n ps)|_=>rfl
abbrev IH(K:zz8)(b:List h9):Sp:=λc H Q Z=>∃(a:h9) (ns:List Int),c=[.ref a]/\(∀p∈b,H p=hG (.hJ #[]))/\su K H a (ns.map V.int)/\ns.length<=63/\∀d,Q (.bl hQ) d
def walk{l:PySem.W.OpenLaw}{q:ig}{i:List Str}{XP:(Str->Option hV)->i1->Prop}{R:ij->i1->Prop}{d:DefRec}{K:Params->zz8}(rest:fM)(Γ:Pg)(x:Str)(j:Def)(xs:List Str)(ts:List (h9×Str))(st:je)(D:Bool)
 (S:j.N.take j.np=[x]) (vS:j.i5=hI) (RT:d.name="law") (hn:l.most=hG 63) (KG:d.params.defaults=[]) (hr:cN (2*rest.length+2) callerA) (hY:∀(w:ij) (h:i1),R w h->(K w.params).In h/\∀p∈ts.map (·.1),h.get? p=hG (PySem.W.tabObj #[]))
 (hC:∀(w:ij),∀p∈ts.map (·.1),(∃c,gN (K w.params) c p)/\(K w.params).lookup p=hI)
 (hM:∀(w:ij) (mg:Str->Option hV) (h:i1),(K w.params).In h->h.Ns jf mg->oC (K w.params) mg Γ {K w.params,mg,xs,ts,[]})
 (hE:∀w:ij,yU (K w.params) ts D "law" st) (T:dH (Γ.at rest D) "law" j st) (fw:rest≠[])
 (I:∀w:ij,AllK (K w.params) ts Γ rest)
 (KN:∀ns:List Int,ns.length<=63->aH (den (tab rest)) j [.lst (ns.map .int)]=.ok (.bl hQ)):
 PySem.W.WalkO q i XP R l.row.toRowW d [] (λf vs=>PySem.call f vs):=by
 refine L2.DS (n:=63) (k:=2*rest.length+2) (x:=x) (CX:=λw=>dQ l.prog w) (sp:=λw=>IH (K w.params) (ts.map (·.1))) (ts.map (·.1)) hn (by decide) KG hr hY hC ?_ ?_ ?_
 .intro w mg fa h KX G r;rw [RT] at r;let(f,oc,od,kV,y,U,V,dD,ct,oZ,e1,e2,e3,e4,e5):=hE w;have L:fa=f:=by have z:=r.symm.trans (PySem.W.mg_of KX G e1);cases z;rfl
  subst L;refine{PySem.W.fnOf "law" "law" (cy st) (bC st) (az st) .none kV y U V dD ct,λs u=>?_,λbase O X=>?_}
  .have Y:=T.bind kV y U V dD ct [u];rw [S] at Y;exact .of_eq (Y rfl)
  .have M:=hM w mg base O X;have A:2<=2*rest.length:=by have:=List.length_pos_iff.mpr fw;lia
   let(a1,a2,a3):=vC (P:=l.prog) (w:=w) (B:=SW) {λ_ _ z=>absurd rfl z,λ_ _ z=>absurd rfl z} M O X rest (I w);have ok:=Ib (P:=l.prog) (w:=w) (nf:="law") (rD M rest D) O (k:=2*rest.length) T (q8 (st:=st) e2 e3 e4) (λg hg=>a1 g hg) (λq hq=>a2 q hq) (λf L=>{A,a3 f L}) (λ_=>A) (mC (λ_ _ z=>absurd rfl z) rest (I w)) (λf q z=>mD (B:=SW) {λ_ _ z=>absurd rfl z,λ_ _ z=>absurd rfl z} rest (I w) f q z) e5;rw [S] at ok;refine ok.imp λvs H Q E h=>?_;let(a,ns,rfl,ht,hl,b,q):=h;refine{rfl,lQ H,[.lst (ns.map .int)],nN H,{λP q m=>?_,λn o e=>nomatch e},?_,?_}
   .have Z:=ht P (List.mem_map_of_mem (f:=(·.1)) m);refine{by unfold lQ;rw [Z],#[],Z,trivial,λpos cv e=>nomatch e}
   .rw [vS];refine ag.cons (.l ?_ (jn ns)) .nil;rcases hl with(h|⟨o,h⟩)|h
    .exact .inl (.inl (ke h (λ_ z=>nomatch z)))
    .exact .inl (.inr {o,ke h (λ_ z=>nomatch z)})
    .exact .inr h
   .dsimp only;rw [KN ns b];intro v G' H' _ rv;simp! [Rep] at rv;subst rv;exact q H'
 .intro w H a ns b hO Fg;exact{a,ns,rfl,hO,Fg,b,λ_=>rfl}
 .intro w H s e s' h;let(a,C,t,vs,H',B,rfl,F):=h;exact F.ends
noncomputable abbrev JU(l:fM):Sg->aF:=λs=>aA (oJ s) (tab l)
def Pu{P:ig}{w:ij}{K:zz8}{mg:Str->Option hV}{Γ:Pg}{W:Wd}(g:K.In base)(G:base.Ns jf mg)(rest:fM)(e:rest≠[])(M:∀ob,oC K mg Γ (W.at ob))(b:AllK K W.ts Γ rest):T1 P w K mg base W (JU rest) (Γ.at rest hU) (2*rest.length):=by
 have hK:W.K=K:=(M []).hK;have hm:W.mg=mg:=(M []).hm;have c:2<=2*rest.length:=by have:=List.length_pos_iff.mpr e;lia
 have a:∀ob,oE W.K W.mg ob->_:=λob u=>vC (P:=P) (w:=w) (W:=W.at ob) (B:=oJ (aX ob)) (qY (W:=W) (by rw [<-hK];exact u)) (M ob) g G rest b;refine{λob=>rD (M ob) rest hU,λob u f d=>(a ob u).1 f d,λob u q h=>(a ob u).2.1 q h,λob u f d=>(a ob u).2.2 f d,λob u=>?_,λob u=>?_,?_,rfl,c}
 .exact mC (qY (K:=K) (mg:=W.mg) (W:=W) (by rw [<-hK];exact u)).any rest b
 .exact mD (W:=W.at ob) (qY (K:=K) (mg:=W.mg) (W:=W) (by rw [<-hK];exact u)) rest b
 .show rest.isEmpty=hU
  cases rest with
  |nil=>exact absurd rfl e|cons _ _=>rfl
def walk2{l:PySem.W.OpenLaw}{q:ig}{i:List Str}{XP:(Str->Option hV)->i1->Prop}{L:ij->i1->Prop}{d:DefRec}{K:Params->zz8}(rest:fM)(g:hZ)(Γ:Pg)(fl:List (Str×Str))(x:Str)(j:D2)(xs:List Str)(ts:List (h9×Str))(st:je)
 (M:j.N.take j.np=[x]) (RT:d.name="law") (hn:l.most=hG 63) (KG:d.params.defaults=[]) (hr:cN (2*rest.length+3*g.length+2) callerA) (hY:∀(w:ij) (h:i1),L w h->(K w.params).In h/\∀p∈ts.map (·.1),h.get? p=hG (PySem.W.tabObj #[]))
 (hC:∀(w:ij),∀p∈ts.map (·.1),(∃c,gN (K w.params) c p)/\(K w.params).lookup p=hI)
 (hM:∀(w:ij) (mg:Str->Option hV) (h:i1),(K w.params).In h->h.Ns jf mg->∀ob,oC (K w.params) mg Γ {K w.params,mg,xs,ts,ob})
 (hE:∀w:ij,AU (K w.params) "law" "law" hI st) (O:fD (Γ.at rest hU) (mh fl g) "law" "law" j st) (fw:rest≠[])
 (hA:∀w:ij,AllK (K w.params) ts Γ rest) (Wg:∀w:ij,mQ (K w.params) (Γ.at rest hU) fl g)
 (Kz:∀w:ij,∀c f,fl.contains (c,f)=hQ->vn (K w.params) fl c) (lJ:∀w:ij,∀r∈g,∀c,r.c=hG c->vn (K w.params) fl c)
 (KN:∀ns:List Int,ns.length<=63->∃s,fu (JU rest) (dE (JU rest) (oh g)) j [.lst (ns.map .int)] []=.ok (.bl hQ) s):
 PySem.W.WalkO q i XP L l.row.toRowW d [] (λf vs=>PySem.call f vs):=by
 refine L2.DS (n:=63) (k:=2*rest.length+3*g.length+2) (x:=x) (CX:=λw=>dQ l.prog w) (sp:=λw=>IH (K w.params) (ts.map (·.1))) (ts.map (·.1)) hn (by decide) KG hr hY hC ?_ ?_ ?_
 .intro w mg fa h KX G y;rw [RT] at y;let(f,oc,od,kV,A,R,S,dD,ct,oZ,e1,e2,e3,e4):=hE w;have hf:fa=f:=by have z:=y.symm.trans (PySem.W.mg_of KX G e1.1);cases z;rfl
  subst hf;refine{PySem.W.fnOf "law" "law" (cy st) (bC st) (az st) .none kV A R S dD ct,λs u=>?_,λbase D I=>?_}
  .have V:=O.bind kV A R S dD ct [u];rw [M] at V;exact .of_eq (V rfl)
  .have T:=Pu (P:=l.prog) (w:=w) (W:={K w.params,mg,xs,ts,[]}) D I rest fw (hM w mg base D I) (hA w);have U:=xb D I T (Kz w) g (Wg w) (lJ w);have ok:=Bx (nf:="law") D (T.mono (Nat.le_add_right _ (3*g.length))) U O (q8 (st:=st) e2 e3 e4);rw [M] at ok;refine ok.imp λvs H Q E h=>?_;let(a,ns,rfl,ht,hl,b,q):=h;refine{rfl,[],lQ H,[.lst (ns.map .int)],nN H,{λP q m=>?_,λn o e=>nomatch e},wg,?_,?_}
   .have X:=ht P (List.mem_map_of_mem (f:=(·.1)) m);refine{by unfold lQ;rw [X],#[],X,trivial,λpos cv e=>nomatch e}
   .refine ag.cons (.l ?_ (jn ns)) .nil;rcases hl with(h|⟨o,h⟩)|h
    .exact .inl (.inl (ke h (λ_ z=>nomatch z)))
    .exact .inl (.inr {o,ke h (λ_ z=>nomatch z)})
    .exact .inr h
   .let(Y,e):=KN ns b;have e:fu (JU rest) (dE (JU rest) (oh g)) j [.lst (ns.map .int)] (aX [])=.ok (.bl hQ) Y:=e;dsimp only;rw [e];intro v aO G' Z _ _ _ rv;simp! [Rep] at rv;subst rv;exact q Z
 .intro w H a ns b hO Fg;exact{a,ns,rfl,hO,Fg,b,λ_=>rfl}
 .intro w H s e Y h;let(a,C,t,vs,Z,B,rfl,F):=h;exact F.ends
end Ci
namespace Hd
open PySem.W PySem.Calls
abbrev Mh(st:SharedT->Thread->Option (SharedT×Thread))(ok:Thread->Bool)(n:Nat):SharedT->Thread->Option SharedT:=
 @Nat.rec (λZ=>SharedT->Thread->Option SharedT) (λZ Z=>hI) (λZ a s t=>match through t with
  |true=>hG s|false=>match ok t with
   |false=>hI|true=>match st s t with
    |some (b,c)=>a b c|none=>hI) n
theorem ql{tb:String->Option jj}{p:ig}{a:Nat}{ann:Option hV}:∀{n:Nat} {s s':SharedT} {t:Thread},Mh (stepT (denote tb) p w) (stepOk a ann) n s t=hG s'->topRun tb p w a ann n s.abs t=hG s'.abs
 |0,_,_,_,h=>by cases h
 |n+1,s,s',t,h=>by
  have h:(match through t with
   |true=>hG s|false=>match stepOk a ann t with
    |false=>hI|true=>match stepT (denote tb) p w s t with
     |some (s',t')=>Mh (stepT (denote tb) p w) (stepOk a ann) n s' t'|none=>hI)=hG s':=h
  unfold topRun;cases b:through t with
  |true=>rw [b] at h;cases h;rfl
  |false=>
   rw [b] at h;cases hk:stepOk a ann t with
   |false=>rw [hk] at h;cases h
   |true=>
    rw [hk] at h;cases hs:stepT (denote tb) p w s t with
    |none=>rw [hs] at h;cases h
    |some r=>let(c,d):=r;rw [hs] at h;rw [stepT_spec hs];exact ql h
abbrev treeOf(l:List Obj):BT:=(l.foldl (λ(T,i) o=>(BT.ins T i o,i+1)) (BT.nil,0)).1
def FE{p q:ig}{a:List Str}{b:hW->Bool}{c:Type}{g:hW->c}{i:ij->c}{N:Nat}{j:Bool}{T₀:Params->BT}{life:Life}{m₀:Nat}{ann:Option hV}{M:Nat}
 (e:opening p=plainProg p.main.scope.names) (hN:Nat.ble 600 N=hQ) (f:∀s,fenceModules? p s=hG s)
 (m:∀P:Params,absHeap (T₀ P) m₀ life=boot_heap P)
 (size:∀w:ij,((boot_heap w.params).isNs jf,(boot_heap w.params).nsMap jf "__annotations__")=(hQ,ann))
 (le:Nat.ble M N=hQ)
 (run:∀(w:ij) (os:OsState),(Mh (stepT (denote treeTable) p w) (stepOk m₀ ann) M {T₀ w.params,m₀,life,Array.mk [],boot_drawn,boot_toks,os} (topStub p)).map (λs=>
  ((staticsOk (importedModules p.main.body) (boot_heap w.params) s.abs.heap&&namesBound p s.abs.heap&&gensDone s.abs&&laidKept (boot_heap w.params) s.abs.heap),openSeen q a (importedModules p.main.body) b j s.abs,g s.abs))
  =hG (hQ,openGood q a,i w)):LeftO p q a b g i N j:=λw=>by
 let((h,gs,d,k,os),e1,o):=b4.mp (boot_open e hN f w);obtain⟨rfl,rfl,rfl,rfl⟩:h=boot_heap w.params/\gs=Array.mk []/\d=boot_drawn/\k=boot_toks:=zx6 o;obtain⟨u,y⟩:_/\_:=by simpa only [Prod.mk.injEq] using size w
 let(s,r,l):=b4.mp (run w os);obtain⟨z,A,B⟩:_/\_/\_:=by simpa only [Prod.mk.injEq] using l
 have r:=ql r;have r:=topRun_mono (N-M) _ _ _ _ r;rw [show M+(N-M)=N by have:=Nat.le_of_ble_eq_true le;lia] at r;have hs:(boot_heap w.params).objs.size=m₀:=by rw [<-m w.params];exact absHeap_size _ _ _
 have r:topRun treeTable p w m₀ ann N {boot_heap w.params,Array.mk [],boot_drawn,boot_toks,os} (topStub p)=hG s.abs:=by
  have:({T₀ w.params,m₀,life,Array.mk [],boot_drawn,boot_toks,os}:SharedT).abs={boot_heap w.params,Array.mk [],boot_drawn,boot_toks,os}:=by show hW.mk _ _ _ _ _=_;rw [show absHeap (T₀ w.params) m₀ life=boot_heap w.params from m w.params]
  rw [<-this];exact r
 have t:topFrom treeTable p w N {boot_heap w.params,Array.mk [],boot_drawn,boot_toks,os}=hG s.abs:=by
  unfold topFrom;dsimp only;rw [u,y,hs,r];show(match staticsOk (importedModules p.main.body) (boot_heap w.params) s.abs.heap&&namesBound p s.abs.heap&&gensDone s.abs&&laidKept (boot_heap w.params) s.abs.heap with|true=>_|false=>_)=_;rw [z]
 unfold openEnds;rw [e1];show(topFrom treeTable p w N _).map _=_;rw [t];exact congrArg hG (Prod.ext A B)
end Hd
namespace Hd
open PySem.W
def ND:∀P:Params,absHeap (treeOf (boot_heap P).objs.toList) 11 {}=boot_heap P:=λP=>by kernel_rfl
def NF:∀w:ij,((boot_heap w.params).isNs jf,(boot_heap w.params).nsMap jf "__annotations__")=(hQ,hG (.ref 6)):=λw=>by kernel_rfl
noncomputable abbrev de(P:Params)(x:Str)(t:Tok)(v:hV):DictEntry:={hash:=PyData.keyHash P x,key:=.str x t,val:=v}
theorem holds{l:OpenLaw}{keep:List Nat}{K:Params->Frag}{as:List h9}{d:DefRec}{N:Nat}(a:l.wellSaid=hQ)
 (ka:∀P,as=(K P).map (·.1))
 (left:LeftO l.row.prog (view l.row.prog keep) [] (λs=>xlAt (view l.row.prog keep) [] s&&recOk l.row.toRowW.records s) (kHook K as ka).obs (kHook K as ka).val N)
 (b:defOf (view l.row.prog keep) l.row.name=hG (d,[])) (c:l.row.prog.theDef l.row.name=hG (d.params,d.body,d.scope)) (hk:kwWritten? d.params.kwonlyargs d.params.kw_defaults=hG [])
 (ok:(chainsOk (view l.row.prog keep)&&opensWell l.row.prog&&(frees l.row.toRowW&&l.row.within.isEmpty))=hQ) (g:l.row.prog.bare) (i:l.row.toRowW.promised)
 (call:WalkO (view l.row.prog keep) [] (XL (view l.row.prog keep) []) (kHook K as ka).says l.row.toRowW d [] λf vs=>PySem.call f vs):l.Holds:=
 holds_law a λj=>holds_open (N:=N) left (Hook.of (kHook K as ka)) (Hook.keeps (kHook K as ka)) (λs e=>xl_of s (Bool.and_eq_true_iff.mp e).1) XL.keeps b c hk (λs e=>recFacts_of (Bool.and_eq_true_iff.mp e).2) (by cases h:l.row.writes<;>rfl) j ok g i call
def Qb{n:Nat}{P:List hV->Prop}(h:∀a us,us.length=n->P (a::us))(us:List hV)(e:us.length=n+1):P us:=by
 cases us with
 |nil=>cases e
 |cons a r=>exact h a r (Nat.succ.inj e)
def AE{P:List hV->Prop}(h:∀b,P [b]):∀us:List hV,us.length=1->P us:=Qb λa us e=>by
 cases us with
 |nil=>exact h a|cons _ _=>cases e
theorem AF{P:List hV->Prop}(h:∀b c,P [b,c]):∀us:List hV,us.length=2->P us:=Qb λa=>AE (P:=λus=>P (a::us)) (h a)
theorem Em{P:List hV->Prop}(h:∀b c a2,P [b,c,a2]):∀us:List hV,us.length=3->P us:=Qb λa=>AF (P:=λus=>P (a::us)) (h a)
theorem Ut{P:List hV->Prop}(h:∀b c a2 d,P [b,c,a2,d]):∀us:List hV,us.length=4->P us:=Qb λa=>Em (P:=λus=>P (a::us)) (h a)
end Hd
namespace KJ
open L2 Ci
theorem Bc{b c:Type}{a:b}{f:b->Res c}:(Res.ok a).bind f=f a:=rfl
theorem PY{b:Type}{a:b}:(Res.ok a).well=.ok a:=rfl
theorem Vx{b:Type}{a:b}:Res.of (hG a)=.ok a:=rfl
theorem VG{env:Sl}{k:Sl->Res Fl}:(Fl.nx env).seq k=k env:=rfl
theorem VH{p:PV}{k:Sl->Res Fl}:(Fl.rt p).seq k=.ok (.rt p):=rfl
theorem VF{env:Sl}{k:Sl->Res Fl}:(Fl.bk env).seq k=.ok (.bk env):=rfl
theorem sv{p:PV}:gU (hG (.val p))=.ok p:=rfl
theorem VJ{p:PV}:Dx (hG (.val p))=.ok p:=rfl
theorem VI{p:PV}:Dx (hG (.own p))=.ok p:=rfl
theorem Qc{a:Type}{b:Bool}{f:Bool->Res a}:sC (.bl b) f=f b:=rfl
theorem HH{i j:Int}:binOp .add (.int i) (.int j)=.ok (.int (i+j)):=rfl
theorem HJ{i j:Str}:binOp .add (.str i) (.str j)=if i.length+j.length<=cV then .ok (.str (i++j)) else .bad:=rfl
theorem HI{i j:List PV}:binOp .add (.lst i) (.lst j)=if i.length+j.length<=cV then .ok (.lst (i++j)) else .bad:=rfl
theorem Nz{i j:Int}:binOp .sub (.int i) (.int j)=.ok (.int (i-j)):=rfl
theorem Ny{i j:Int}:binOp .mul (.int i) (.int j)=if aK i||aK j then .ok (.int (i*j)) else .bad:=rfl
theorem Nx{i j:Int}:binOp .mod (.int i) (.int j)=if 0<j then .ok (.int (i%j)) else .bad:=rfl
theorem Jm{i j:Int}:binOp .fdiv (.int i) (.int j)=if 0<j/\j<1073741824 then .ok (.int (i/j)) else .bad:=rfl
theorem Uy:cW .eq=gH:=rfl
theorem UE:cW .ne=iU:=rfl
theorem UD:cW .lt=uO:=rfl
theorem UC:cW .le=uN:=rfl
theorem UA:cW .D8=uL:=rfl
theorem NH:cW .sJ=lV:=rfl
theorem oLt{i j:Int}:uO (.int i) (.int j)=.ok (.bl (decide (i<j))):=rfl
theorem oLe{i j:Int}:uN (.int i) (.int j)=.ok (.bl (decide (i<=j))):=rfl
theorem lL{xs:List PV}:eE .len [.lst xs]=.ok (.int xs.length):=rfl
theorem lT{xs:List PV}:eE .len [.tup xs]=.ok (.int xs.length):=rfl
theorem lS{z:Str}:eE .len [.str z]=if z.length<=cV then .ok (.int z.length) else .bad:=rfl
theorem tL{xs:List PV}:eE .tuple [.lst xs]=.ok (.tup xs):=rfl
theorem VO{i:Nat}{p:PV}{env:Sl}:(Tg.one i).put p env=.ok (env.set i (.val p)):=rfl
theorem VN{i j:Nat}{a b:PV}{env:Sl}:(Tg.two i j).put (.tup [a,b]) env=.ok ((env.set i (.val a)).set j (.val b)):=rfl
theorem JX{p:PV}:oM (.own p)=.val p:=rfl
theorem jA{b:Type}{a:b}{as:List b}:(a::as).length=as.length+1:=rfl
theorem jB{a:Type}:([]:List a).length=0:=rfl
theorem jC{b c:Type}{f:b->c}{a:b}{l:List b}:(a::l).map f=f a::l.map f:=rfl
theorem jD{a b:Type}{f:a->b}:([]:List a).map f=[]:=rfl
theorem jE{b:Type}{a:b}{as bs:List b}:a::as++bs=a::(as++bs):=rfl
theorem jF{a:Type}{as:List a}:[]++as=as:=rfl
theorem jG{b:Type}{a:b}{l:List b}:(a::l)[0]?=hG a:=rfl
theorem jH{b:Type}{a:b}{l:List b}{i:Nat}:(a::l)[i+1]?=l[i]?:=rfl
theorem jI{c:Type}{a b:c}{l:List c}:(a::l).set 0 b=b::l:=rfl
theorem jJ{c:Type}{a b:c}{l:List c}{i:Nat}:(a::l).set (i+1) b=a::l.set i b:=rfl
theorem jK{b:Type}{a d:b}{l:List b}:(a::l).getD 0 d=a:=rfl
theorem jL{b:Type}{a d:b}{l:List b}{i:Nat}:(a::l).getD (i+1) d=l.getD i d:=rfl
def jM{n:Nat}:0+n=n:=Nat.zero_add _
theorem jN:(!true)=hU:=rfl
theorem jO:(!false)=hQ:=rfl
def jP:(hU=hQ)=False:=eH
theorem u9{e:E}{xs:List PV}:Dr e (.lst xs)=.ok xs:=rfl
theorem VE{e:E}{xs:List PV}:Dr e (.tup xs)=.ok xs:=rfl
theorem Qy{xs:List PV}:itemsOf (.tup xs)=.ok xs:=rfl
theorem Sr{xs:List PV}:itemsOf (.lst xs)=.ok xs:=rfl
theorem Qx{z:Str}:itemsOf (.str z)=.ok (chars z):=rfl
theorem HK{i j:List PV}:binOp .add (.tup i) (.tup j)=if i.length+j.length<=cV then .ok (.tup (i++j)) else .bad:=rfl
theorem jQ{b:Type}{f:b->b}{a:b}{l:List b}:(a::l).modify 0 f=f a::l:=rfl
def jR{b:Type}{f:b->b}{a:b}{l:List b}{i:Nat}:(a::l).modify (i+1) f=a::l.modify i f:=by simp
theorem jS{b:Type}{a:b}:kq 0 a=[]:=id rfl
theorem jT{b:Type}{a:b}{n:Nat}:kq (n+1) a=a::kq n a:=id rfl
def jU{n:Nat}:(n==n)=hQ:=beq_self_eq_true n
abbrev J:=kn @jS (kn @jT (kn @jU (kn @Bc (kn @PY (kn @Vx (kn @VG (kn @VH (kn @VF (kn @sv (kn @VJ (kn @VI (kn @Qc (kn @HH (kn @HJ (kn @HI (kn @Nz (kn @Ny (kn @Nx (kn @Jm (kn @Uy (kn @UE (kn @UD (kn @UC (kn @UA (kn @NH (kn @oLt (kn @oLe (kn @lL (kn @lT (kn @lS (kn @tL (kn @VO (kn @VN (kn @JX (kn @jA (kn @jB (kn @jC (kn @jD (kn @jE (kn @jF (kn @jG (kn @jH (kn @jI (kn @jJ (kn @jK (kn @jL (kn @jM (kn @jN (kn @jO (kn @jP (kn @u9 (kn @VE (kn @Qy (kn @Sr (kn @Qx (kn @HK (kn @jQ (@jR))))))))))))))))))))))))))))))))))))))))))))))))))))))))))
def JM{B:aF}{n:Str}{d:Def}{r:List (Str×Def)}:aA B ((n,d)::r) n=aH (aA B r) d:=by funext as;simp [aA]
def JN{B:aF}{n:Str}{d:Def}{r:List (Str×Def)}(h:(f==n)=hU):aA B ((n,d)::r) f=aA B r f:=by funext as;simp [aA,h]
theorem m9{B:aF}:∀(n:Nat) {T:List (Str×Def)},((T.take n).all λx=>!(f==x.1))=hQ->aA B T f=aA B (T.drop n) f
 |0,_,_=>rfl|n+1,[],_=>rfl|n+1,(m,d)::r,h=>by rw [List.take_succ_cons,List.all_cons,zza,Bool.not_eq_true'] at h;exact(JN h.1).trans (m9 n h.2)
def iM{B:aF}{d:Def}{r T:List (Str×Def)}(k:Nat)(h:((T.take k).all λx=>!(f==x.1))=hQ:=by decide+kernel)(e:T.drop k=(f,d)::r:=by rfl):aA B T f=aH (aA B r) d:=by rw [m9 k h,e];exact JM
end KJ
local macro_rules | `(#v[]) => `(.nil) | `(#v[$x]) => `(.cons $x .nil) | `(#v[$x, $xs,*]) => `(.cons $x #v[$xs,*]) | `(!$n:num) => `(.var $n) | `(¬$n:num) => `(.cst (.int $n))
namespace K41
open L2 Ci KJ
abbrev fe:Def:={["thing"],1,#v[.ret (.and (.ty .int (!0)) (.not (.ty .bool (!0))))],hI}
abbrev du:Def:={["thing"],1,#v[.ret (.and (.ty .tuple (!0)) (.and (.cmp .eq (.blt .len #v[!0]) (¬2)) (.and (.call (zu 45) #v[.sub (!0) (¬0)]) (.call (zu 45) #v[.sub (!0) (¬1)]))))],hI}
abbrev bI:Def:={["floor","spot"],2,#v[.ret (.and (.ch .le .lt (¬0) (.sub (!1) (¬0)) (.blt .len #v[!0])) (.ch .le .lt (¬0) (.sub (!1) (¬1)) (.blt .len #v[.sub (!0) (.sub (!1) (¬0))])))],hI}
abbrev cR:Def:={["floor","thing"],2,#v[.ret (.and (.call (zu 40) #v[!1]) (.and (.call (zu 7) #v[!0,!1]) (.cmp .ne (.sub (.sub (!0) (.sub (!1) (¬0))) (.sub (!1) (¬1))) (.glob "WALL" (.str "#")))))],hI}
abbrev bJ:Def:={["floor","spot"],2,#v[.ite (.not (.call (zu 27) #v[!0,!1])) #v[.raise "NoSpot" "the spot is not on the floor or a wall"] .nil],hI}
abbrev bY:Def:={["floor","spot"],2,#v[.ite (.not (.and (.call (zu 40) #v[!1]) (.call (zu 7) #v[!0,!1]))) #v[.raise "NoSpot" "the spot is not on the floor"] .nil],hI}
abbrev eU:Def:={["thing"],1,#v[.ret (.and (.ty .str (!0)) (.and (.cmp .eq (.blt .len #v[!0]) (¬1)) (.cmp .D8 (!0) (.glob "SIGNS" (.str (zu 16))))))],hI}
abbrev dw:Def:={["sign"],1,#v[.ite (.not (.call "is_sign" #v[!0])) #v[.raise "NoSign" "this is no sign of a floor"] .nil],hI}
abbrev dz:Def:={["floor","spot","sign","signs","changed"],3,#v[.set 3 (.sub (!0) (.sub (!1) (¬0))),.set 4 (.bin .add (.bin .add (.slice (!3) .no (.some (.sub (!1) (¬1)))) (!2)) (.slice (!3) (.some (.bin .add (.sub (!1) (¬1)) (¬1))) .no)),.ret (.bin .add (.bin .add (.slice (!0) .no (.some (.sub (!1) (¬0)))) (.tup #v[!4])) (.slice (!0) (.some (.bin .add (.sub (!1) (¬0)) (¬1))) .no))],hI}
abbrev dn:Def:={["_law_script","_law_k"],2,#v[.ite (.cmp .lt (!1) (.blt .len #v[!0])) #v[.ret (.sub (!0) (!1))] .nil,.ite (.cmp .eq (!0) (.lst .nil)) #v[.ret (¬0)] .nil,.ret (.bin .add (.bin .mul (.sub (!0) (.bin .mod (!1) (.blt .len #v[!0]))) (¬31)) (!1))],hI}
abbrev b9:Def:={["_law_script","_law_k","_law_many","_law_drawn"],3,#v[.set 3 (.bin .mod (.bin .mul (.bin .add (.call (zu 43) #v[!0,!1]) (.bin .mul (¬6151) (.bin .add (!1) (¬1)))) (¬40692)) (¬2147483399)),.ret (.bin .mod (.bin .mod (.bin .add (.bin .mul (!3) (!3)) (.bin .fdiv (!3) (¬31))) (¬2147483629)) (!2))],hI}
abbrev cF:Def:={["_law_script","_law_at","_law_most","_law_rows","_law_columns","_law_shuts","_law_top","_law_made","_law_row","_law_signs","_law_column","_law_drawn"],3,#v[.set 3 (.bin .add (¬1) (.call (zu 1) #v[!0,!1,!2])),.set 4 (.bin .add (¬1) (.call (zu 1) #v[!0,.bin .add (!1) (¬1),!2])),.set 5 (.sub (.lst #v[¬0,¬2,¬4,¬6]) (.call (zu 1) #v[!0,.bin .add (!1) (¬2),¬4])),.set 6 (.sub (.lst #v[¬1,¬2,¬3,¬10]) (.call (zu 1) #v[!0,.bin .add (!1) (¬3),¬4])),.own 7 (.lst .nil),.cL (.one 8) (.mv (!3)) #v[.set 9 (.cst (.str "")),.cL (.one 10) (.mv (!4)) #v[.set 11 (.call (zu 1) #v[!0,.bin .add (.bin .add (.bin .add (!1) (¬4)) (.bin .mul (!2) (!8))) (!10),.bin .mul (¬12) (!6)]),.set 9 (.bin .add (!9) (.ite (.cmp .lt (.bin .mod (!11) (¬12)) (!5)) (.cst (.str "#")) (.blt .str #v[.bin .fdiv (!11) (¬12)])))],.app 7 (!9)],.ret (.blt .tuple #v[.fY 7])],hI}
abbrev cJ:Def:={["_law_script","_law_at"],2,#v[.ret (.tup #v[.cmp .eq (.call (zu 1) #v[!0,!1,¬2]) (¬0),.sub (.lst #v[¬0,¬1,¬2,¬9]) (.call (zu 1) #v[!0,.bin .add (!1) (¬1),¬4]),.call (zu 1) #v[!0,.bin .add (!1) (¬2),¬4]])],hI}
abbrev cO:Def:={["_law_floor_here","_law_made","_law_row","_law_signs"],1,#v[.own 1 (.lst .nil),.cL (.two 2 3) (.enum (!0)) #v[.qV 1 (.dN 2 [2] (.two 0 1) (.enum (!3)) (.cmp .ne (!1) (.cst (.str "#"))) (.tup #v[!2,!0]))],.bw 1,.ret (!1)],hI}
abbrev cQ:Def:={["one","other"],2,#v[.ret (.and (.cmp .ne (!0) (!1)) (.and (.cmp .le (.blt .abs #v[.bin .sub (.sub (!0) (¬0)) (.sub (!1) (¬0))]) (¬1)) (.cmp .le (.blt .abs #v[.bin .sub (.sub (!0) (¬1)) (.sub (!1) (¬1))]) (¬1))))],hI}
abbrev dq:Def:={["floor","spot"],2,#v[.expr (.call (zu 5) #v[!0,!1]),.ret (.blt .int #v[.sub (.sub (!0) (.sub (!1) (¬0))) (.sub (!1) (¬1))])],hI}
abbrev bu:Def:={["floor","one","other"],3,#v[.ret (.and (.call (zu 27) #v[!0,.tup #v[.sub (!1) (¬0),.sub (!2) (¬1)]]) (.call (zu 27) #v[!0,.tup #v[.sub (!2) (¬0),.sub (!1) (¬1)]]))],hI}
abbrev bz:Def:={["floor",zu 24,"one","other","is_slanting","rise","flat_cost"],4,#v[.ite (.not (.call (zu 34) #v[!2,!3])) #v[.ret (.cst .aL)] .nil,.set 4 (.and (.cmp .ne (.sub (!2) (¬0)) (.sub (!3) (¬0))) (.cmp .ne (.sub (!2) (¬1)) (.sub (!3) (¬1)))),.ite (.and (!4) (.not (.and (.sub (!1) (¬0)) (.call (zu 9) #v[!0,!2,!3])))) #v[.ret (.cst .aL)] .nil,.set 5 (.bin .sub (.call (zu 37) #v[!0,!3]) (.call (zu 37) #v[!0,!2])),.ite (.cmp .gt (.blt .abs #v[!5]) (.sub (!1) (¬1))) #v[.ret (.cst .aL)] .nil,.set 6 (.ite (!4) (.glob "SLANTING_COST" (.int 3)) (.glob "STRAIGHT_COST" (.int 2))),.ret (.bin .add (!6) (.bin .mul (.sub (!1) (¬2)) (.blt .max2 #v[!5,¬0])))],hI}
abbrev bh:Def:={["floor","spot","beside","row","column"],2,#v[.own 2 (.lst .nil),.cL (.one 3) (.rP (.bin .sub (.sub (!1) (¬0)) (¬1)) (.bin .add (.sub (!1) (¬0)) (¬2))) #v[.cL (.one 4) (.rP (.bin .sub (.sub (!1) (¬1)) (¬1)) (.bin .add (.sub (!1) (¬1)) (¬2))) #v[.ite (.and (.cmp .ne (.tup #v[!3,!4]) (!1)) (.call (zu 27) #v[!0,.tup #v[!3,!4]])) #v[.app 2 (.tup #v[!3,!4])] .nil]],.bw 2,.ret (!2)],hI}
abbrev cU:Def:={["floor",zu 24,"spot","steps","other","cost"],3,#v[.expr (.call (zu 5) #v[!0,!2]),.own 3 (.lst .nil),.cL (.one 4) (.seq (.call (zu 8) #v[!0,!2])) #v[.set 5 (.call (zu 17) #v[!0,!1,!2,!4]),.ite (.cmp .K3 (!5) (.cst .aL)) #v[.app 3 (.tup #v[!4,!5])] .nil],.bw 3,.ret (!3)],hI}
abbrev dU:Def:={["floor",zu 24,"spot"],3,#v[.ret (.comp 1 [1,2,0] (.one 0) (.seq (.call (zu 33) #v[!0,!1,!2])) (.tup #v[.sub (!0) (¬0),.call (zu 17) #v[!3,!1,.sub (!0) (¬0),!2]]))],hI}
abbrev bx:Def:={["starts","steps",zu 14,"waiting","start","spot","other","cost","together"],2,#v[.ng 2,.ng 3,.cL (.one 4) (.seq (!0)) #v[.put 3 (!4) (.tup #v[¬0,.cst .aL])],.IU (.cmp .gt (.blt .len #v[.fY 3]) (¬0)) #v[.oX 5 3,.fR 2 3 5,.cL (.two 6 7) (.seq (.lC 1 #v[!5])) #v[.set 8 (.bin .add (.sub (.sub (.fY 2) (!5)) (¬0)) (!7)),.ite (.and (.cmp .sJ (!6) (.fY 2)) (.or (.cmp .sJ (!6) (.fY 3)) (.cmp .lt (!8) (.sub (.sub (.fY 3) (!6)) (¬0))))) #v[.put 3 (!6) (.tup #v[!8,!5])] .nil]],.bw 2,.ret (!2)],hG (zu 41,[1,2,1,0])}
abbrev dy:Def:={["floor",zu 24,"goals","goal"],3,#v[.cL (.one 3) (.seq (!2)) #v[.expr (.call (zu 5) #v[!0,!3])],.ret (.sY (zu 44) #v[!2] (zu 41) [1,2,1,0] [1,0])],hI}
abbrev cT:Def:={["floor","spots","row","signs","column","sign"],1,#v[.own 1 (.lst .nil),.cL (.two 2 3) (.enum (!0)) #v[.cL (.two 4 5) (.enum (!3)) #v[.ite (.cmp .ne (!5) (.glob "WALL" (.str "#"))) #v[.app 1 (.tup #v[!2,!4])] .nil]],.bw 1,.ret (!1)],hI}
abbrev cD:D2:={["self"],1,(.cons (.p (.ret (.fld 0 "floor")))
 .nil)}
abbrev bQ:D2:={["self"],1,(.cons (.ite (.pu (.cmp .is (.fld 0 (zu 14)) (.cst .aL)))
 (.cons (.kA (zu 0) 0 (zu 14) (.call (zu 30) (.cons (.fld 0 "floor") (.cons (.fld 0 (zu 24)) (.cons (.lst (.cons (.fld 0 "goal") .nil)) .nil)))))
 .nil)
 .nil)
 (.cons (.p (.ret (.fld 0 (zu 14))))
 .nil))}
abbrev bt:D2:={["self",zu 14],1,(.cons (.set 1 (.met (.var 0) (zu 0) "found" .nil))
 (.cons (.p (.ret (.dN 1 [1] (.one 0) (.seq (.call (zu 18) (.cons (.fld 0 "floor") .nil))) (.cmp .sJ (.var 0) (.var 1)) (.var 0))))
 .nil))}
abbrev bb:D2:={["self","spot",zu 14],2,(.cons (.p (.expr (.call (zu 5) (.cons (.fld 0 "floor") (.cons (.var 1) .nil)))))
 (.cons (.set 2 (.met (.var 0) (zu 0) "found" .nil))
 (.cons (.p (.ret (.ite (.cmp .D8 (.var 1) (.var 2)) (.sub (.sub (.var 2) (.var 1)) (.cst (.int 0))) (.cst .aL))))
 .nil)))}
abbrev cM:D2:={["_law_keeper","_law_floor_here"],1,(.cons (.set 1 (.met (.var 0) (zu 0) "now" .nil))
 (.cons (.ret (.tup (.cons (.pu (.var 1)) (.cons (.comp 1 [0] (.one 0) (.seq (.call (zu 6) (.cons (.var 1) .nil))) (.met (.var 1) (zu 0) (zu 20) (.cons (.var 0) .nil))) (.cons (.met (.var 0) (zu 0) (zu 28) .nil) .nil)))))
 .nil))}
abbrev ba:D2:={["self","floor",zu 24,"goal"],4,(.cons (.p (.expr (.call (zu 5) (.cons (.var 1) (.cons (.var 3) .nil)))))
 (.cons (.kA (zu 0) 0 "floor" (.var 1))
 (.cons (.kA (zu 0) 0 (zu 24) (.var 2))
 (.cons (.kA (zu 0) 0 "goal" (.var 3))
 (.cons (.kA (zu 0) 0 (zu 14) (.cst .aL))
 .nil)))))}
abbrev cE:D2:={["self","spot","sign"],3,(.cons (.p (.expr (.call (zu 12) (.cons (.fld 0 "floor") (.cons (.var 1) .nil)))))
 (.cons (.p (.expr (.call (zu 36) (.cons (.var 2) .nil))))
 (.cons (.p (.ite (.and (.cmp .eq (.var 2) (.glob "WALL" (.str "#"))) (.cmp .eq (.var 1) (.fld 0 "goal")))
  (.cons (.raise "NoSign" "the goal can't be a wall")
  .nil)
  .nil))
 (.cons (.kA (zu 0) 0 "floor" (.call (zu 29) (.cons (.fld 0 "floor") (.cons (.var 1) (.cons (.var 2) .nil)))))
 (.cons (.kA (zu 0) 0 (zu 14) (.cst .aL))
 .nil)))))}
abbrev xA:D2:={["_law_script","_law_floor_here","_law_walker_here","_law_spots_here","_law_goal","_law_left","_law_puts","_law_k","_law_spot","_law_keepers","_law_first","_law_turn","_law_row","_law_sign"],1,(.cons (.p (.set 1 (.call (zu 21) (.cons (.var 0) (.cons (.cst (.int 0)) (.cons (.cst (.int 5)) .nil))))))
 (.cons (.p (.set 2 (.call (zu 15) (.cons (.var 0) (.cons (.cst (.int 40)) .nil)))))
 (.cons (.p (.set 3 (.call (zu 6) (.cons (.var 1) .nil))))
 (.cons (.p (.ite (.cmp .eq (.var 3) (.lst .nil))
  (.cons (.ret (.cst (.bl hQ)))
  .nil)
  .nil))
 (.cons (.p (.set 4 (.sub (.var 3) (.call (zu 1) (.cons (.var 0) (.cons (.cst (.int 44)) (.cons (.blt .len (.cons (.var 3) .nil)) .nil)))))))
 (.cons (.p (.own 5 (.comp 1 [1] (.one 0) (.mv (.bin .mul (.blt .len (.cons (.var 1) .nil)) (.blt .len (.cons (.sub (.var 1) (.cst (.int 0))) .nil)))) (.tup (.cons (.bin .fdiv (.var 0) (.blt .len (.cons (.sub (.var 1) (.cst (.int 0))) .nil))) (.cons (.bin .mod (.var 0) (.blt .len (.cons (.sub (.var 1) (.cst (.int 0))) .nil))) .nil))))))
 (.cons (.p (.Dk 5 (.var 4)))
 (.cons (.p (.own 6 (.lst .nil)))
 (.cons (.p (.cL (.one 7) (.mv (.call (zu 1) (.cons (.var 0) (.cons (.cst (.int 45)) (.cons (.cst (.int 6)) .nil)))))
  (.cons (.ite (.cmp .ne (.fY 5) (.lst .nil))
   (.cons (.iF 8 5 (.call (zu 1) (.cons (.var 0) (.cons (.bin .add (.cst (.int 46)) (.bin .mul (.cst (.int 2)) (.var 7))) (.cons (.blt .len (.cons (.fY 5) .nil)) .nil)))))
   (.cons (.app 6 (.tup (.cons (.var 8) (.cons (.sub (.cst (.str "##012359")) (.call (zu 1) (.cons (.var 0) (.cons (.bin .add (.cst (.int 47)) (.bin .mul (.cst (.int 2)) (.var 7))) (.cons (.cst (.int 8)) .nil))))) .nil))))
   .nil))
   .nil)
  .nil)))
 (.cons (.set 9 (.comp 1 [2,4,1] (.one 0) (.mv (.cst (.int 3))) (.new (zu 0) (.cons (.var 3) (.cons (.var 1) (.cons (.var 2) .nil))))))
 (.cons (.set 10 (.sD (zu 11) (.cons (.sub (.var 9) (.cst (.int 2))) .nil)))
 (.cons (.p (.set 11 (.call (zu 1) (.cons (.var 0) (.cons (.cst (.int 60)) (.cons (.bin .add (.blt .len (.cons (.fY 6) .nil)) (.cst (.int 1))) .nil))))))
 (.cons (.p (.bw 6))
 (.cons (.cL (.two 7 12) (.enum (.tup (.cons (.var 6) (.cons (.bin .add (.slice (.fY 6) (.some (.var 11)) .no) (.slice (.fY 6) .no (.some (.var 11)))) (.cons (.var 6) .nil)))))
  (.cons (.cL (.two 8 13) (.seq (.var 12))
   (.cons (.ex (.met (.sub (.var 9) (.var 7)) (zu 0) "put" (.cons (.var 8) (.cons (.var 13) .nil))))
   (.cons (.ite (.pu (.cmp .eq (.call (zu 1) (.cons (.var 0) (.cons (.bin .add (.cst (.int 61)) (.var 7)) (.cons (.cst (.int 2)) .nil)))) (.cst (.int 0))))
    (.cons (.ex (.met (.sub (.var 9) (.var 7)) (zu 0) (zu 28) .nil))
    .nil)
    .nil)
   .nil)))
  .nil))
 (.cons (.ite (.or (.cmp .ne (.sD (zu 11) (.cons (.sub (.var 9) (.cst (.int 0))) .nil)) (.sD (zu 11) (.cons (.sub (.var 9) (.cst (.int 1))) .nil))) (.cmp .ne (.sD (zu 11) (.cons (.sub (.var 9) (.cst (.int 0))) .nil)) (.sD (zu 11) (.cons (.sub (.var 9) (.cst (.int 2))) .nil))))
  (.cons (.p (.ret (.cst (.bl hU))))
  .nil)
  .nil)
 (.cons (.cL (.two 8 13) (.seq (.rev (.fY 6)))
  (.cons (.ex (.met (.sub (.var 9) (.cst (.int 2))) (zu 0) "put" (.cons (.var 8) (.cons (.sub (.sub (.var 1) (.sub (.var 8) (.cst (.int 0)))) (.sub (.var 8) (.cst (.int 1)))) .nil))))
  .nil))
 (.cons (.ret (.cmp .eq (.sD (zu 11) (.cons (.sub (.var 9) (.cst (.int 2))) .nil)) (.pu (.var 10))))
 .nil)))))))))))))))))}
def T0:List (Str×Def):=[]
abbrev T1:List (Str×Def):=((zu 45:Str),fe)::T0
abbrev T2:List (Str×Def):=((zu 40:Str),du)::T1
abbrev T3:List (Str×Def):=((zu 7:Str),bI)::T2
abbrev T4:List (Str×Def):=((zu 27:Str),cR)::T3
abbrev T5:List (Str×Def):=((zu 5:Str),bJ)::T4
abbrev T6:List (Str×Def):=((zu 12:Str),bY)::T5
abbrev T7:List (Str×Def):=(("is_sign":Str),eU)::T6
abbrev T8:List (Str×Def):=((zu 36:Str),dw)::T7
abbrev T9:List (Str×Def):=((zu 29:Str),dz)::T8
abbrev Je:List (Str×Def):=((zu 43:Str),dn)::T9
abbrev Rf:List (Str×Def):=((zu 1:Str),b9)::Je
abbrev Rg:List (Str×Def):=((zu 21:Str),cF)::Rf
abbrev Rh:List (Str×Def):=((zu 15:Str),cJ)::Rg
abbrev Us:List (Str×Def):=((zu 6:Str),cO)::Rh
abbrev Ri:List (Str×Def):=((zu 34:Str),cQ)::Us
abbrev Rj:List (Str×Def):=((zu 37:Str),dq)::Ri
abbrev Jf:List (Str×Def):=((zu 9:Str),bu)::Rj
abbrev Rk:List (Str×Def):=((zu 17:Str),bz)::Jf
abbrev MM:List (Str×Def):=((zu 8:Str),bh)::Rk
abbrev Nt:List (Str×Def):=((zu 33:Str),cU)::MM
abbrev P9:List (Str×Def):=((zu 41:Str),dU)::Nt
abbrev Nu:List (Str×Def):=((zu 44:Str),bx)::P9
abbrev Rl:List (Str×Def):=((zu 30:Str),dy)::Nu
abbrev vz:List (Str×Def):=((zu 18:Str),cT)::Rl
def NS{B:aF}:aA B T1 (zu 45)=aH (aA B T0) fe:=iM 0
def NT{B:aF}:aA B T3 (zu 40)=aH (aA B T1) du:=iM 1
def NU{B:aF}:aA B T3 (zu 7)=aH (aA B T2) bI:=iM 0
def NV{B:aF}:aA B T4 (zu 27)=aH (aA B T3) cR:=iM 0
def NW{B:aF}:aA B T5 (zu 40)=aH (aA B T1) du:=iM 3
def NX{B:aF}:aA B T5 (zu 7)=aH (aA B T2) bI:=iM 2
def NY{B:aF}:aA B T7 "is_sign"=aH (aA B T6) eU:=iM 0
def Ew{B:aF}:aA B Je (zu 43)=aH (aA B T9) dn:=iM 0
def Ex{B:aF}:aA B Rf (zu 1)=aH (aA B Je) b9:=iM 0
def Ey{B:aF}:aA B Rg (zu 1)=aH (aA B Je) b9:=iM 1
def JD{B:aF}:aA B Ri (zu 5)=aH (aA B T4) bJ:=iM 10
def JE{B:aF}:aA B Rj (zu 27)=aH (aA B T3) cR:=iM 12
def Ez{B:aF}:aA B Jf (zu 34)=aH (aA B Us) cQ:=iM 2
def EB{B:aF}:aA B Jf (zu 9)=aH (aA B Rj) bu:=iM 0
def EA{B:aF}:aA B Jf (zu 37)=aH (aA B Ri) dq:=iM 1
def JF{B:aF}:aA B Rk (zu 27)=aH (aA B T3) cR:=iM 14
def JG{B:aF}:aA B MM (zu 5)=aH (aA B T4) bJ:=iM 14
def ED{B:aF}:aA B MM (zu 8)=aH (aA B Rk) bh:=iM 0
def EC{B:aF}:aA B MM (zu 17)=aH (aA B Jf) bz:=iM 1
def EF{B:aF}:aA B Nt (zu 33)=aH (aA B MM) cU:=iM 0
def EE{B:aF}:aA B Nt (zu 17)=aH (aA B Jf) bz:=iM 2
def EG{B:aF}:aA B P9 (zu 41)=aH (aA B Nt) dU:=iM 0
def JH{B:aF}:aA B Nu (zu 5)=aH (aA B T4) bJ:=iM 17
def EH{B:aF}:aA B Nu (zu 44)=aH (aA B P9) bx:=iM 0
def EM{B:aF}:aA B vz (zu 30)=aH (aA B Nu) dy:=iM 1
def EN{B:aF}:aA B vz (zu 18)=aH (aA B Rl) cT:=iM 0
def JI{B:aF}:aA B vz (zu 5)=aH (aA B T4) bJ:=iM 19
def EL{B:aF}:aA B vz (zu 6)=aH (aA B Rh) cO:=iM 10
def JJ{B:aF}:aA B vz (zu 12)=aH (aA B T5) bY:=iM 18
def JK{B:aF}:aA B vz (zu 36)=aH (aA B T7) dw:=iM 16
def JL{B:aF}:aA B vz (zu 29)=aH (aA B T8) dz:=iM 15
def EJ{B:aF}:aA B vz (zu 21)=aH (aA B Rf) cF:=iM 12
def EK{B:aF}:aA B vz (zu 15)=aH (aA B Rg) cJ:=iM 11
def EI{B:aF}:aA B vz (zu 1)=aH (aA B Je) b9:=iM 13
def U0:List (Str×D2):=[]
abbrev U1:List (Str×D2):=(("Keeper.now":Str),cD)::U0
abbrev U2:List (Str×D2):=((zu 38:Str),bQ)::U1
abbrev U3:List (Str×D2):=((zu 26:Str),bt)::U2
abbrev U4:List (Str×D2):=((zu 31:Str),bb)::U3
abbrev U5:List (Str×D2):=((zu 11:Str),cM)::U4
abbrev U6:List (Str×D2):=((zu 32:Str),ba)::U5
abbrev U7:List (Str×D2):=(("Keeper.put":Str),cE)::U6
end K41
namespace L2
open PySem.Spec PyProof.Rows PySem.W
noncomputable abbrev gp(p:Array Nat)(i:Nat):Nat:=p.getD i 0
def Sg(lt:Nat->Nat->Bool)(p:Array Nat)(r:Nat):Prop:=∀i j,i<j->j<r->lt (gp p i) (gp p j)=hQ
end L2
namespace K41
open L2 Ci KJ
noncomputable abbrev sp(r c:Int):PV:=.tup [.int r,.int c]
noncomputable abbrev eG(ns:List Int):PV:=.lst (ns.map .int)
theorem aI{i:Int}:eE .abs [.int i]=.ok (.int (if i<0 then -i else i)):=rfl
theorem mX{i j:Int}:eE .max2 [.int i,.int j]=.ok (.int (if j>i then j else i)):=rfl
theorem Uz:cW .gt=wm:=rfl
theorem Vt{i j:Int}:wm (.int i) (.int j)=.ok (.bl (decide (j<i))):=rfl
theorem NG:cW .K3=lU:=rfl
noncomputable abbrev wk(a:Bool)(cl b:Int):PV:=.tup [.bl a,.int cl,.int b]
theorem Pm{r c:Int}:aZ (sp r c) (.int 0)=.ok (.int r):=rfl
theorem Pn{r c:Int}:aZ (sp r c) (.int 1)=.ok (.int c):=rfl
theorem VR{a:Bool}{cl b:Int}:aZ (wk a cl b) (.int 0)=.ok (.bl a):=rfl
theorem VS{a:Bool}{cl b:Int}:aZ (wk a cl b) (.int 1)=.ok (.int cl):=rfl
theorem VT{b:Bool}{cl a:Int}:aZ (wk b cl a) (.int 2)=.ok (.int a):=rfl
theorem nI{i j:Int}:iU (.int i) (.int j)=.ok (.bl (!(i==j))):=rfl
theorem eI{i j:Int}:gH (.int i) (.int j)=.ok (.bl (i==j)):=rfl
theorem nS{r c a b:Int}:iU (sp r c) (sp a b)=.ok (.bl (!((r==a)&&((c==b)&&hQ)))):=rfl
theorem eS{r c a b:Int}:gH (sp r c) (sp a b)=.ok (.bl ((r==a)&&((c==b)&&hQ))):=rfl
theorem UB:cW .is=uM:=rfl
theorem NB{a b:Type}{c:Str}{f:a->Res b}:(Res.exc c:Res a).bind f=.exc c:=rfl
abbrev J2:=kn @Pm (kn @Pn (kn @VR (kn @VS (kn @VT (kn @aI (kn @mX (kn @Uz (kn @Vt (kn @nI (kn @eI (kn @nS (kn @eS (kn @NG (kn @UB (kn @NB (kn @Sr (kn @Qy (@Qx))))))))))))))))))
set_option hygiene false
local macro_rules|`(tactic|simp! only [$x,*] $[$l:location]?)=>do let q<-("aH dO dI bj dj aE bf xF kR eK mB jg kq Nat.reduceAdd Nat.reduceSub reduceIte ite_true ite_false BEq.rfl beq_self_eq_true Bc PY Vx VG VH VF sv VJ VI Qc HH HJ HI Nz Ny Nx Jm Uy UE UD UC UA NH oLt oLe lL lT lS tL VO VN JX jA jB jC jD jE jF jG jH jI jJ jK jL jM jN jO jP KJ.u9 VE Qy Sr Qx HK jQ jR Pm Pn VR VS VT aI mX Uz Vt nI eI nS eS NG UB NB".splitOn " ").toArray.mapM fun n=>`(Lean.Parser.Tactic.simpLemma|$(Lean.mkIdent n.toName):ident);`(tactic|simp only [$[$q:simpLemma],*,$x,*] $[$l]?)
local macro_rules|`(tactic|dsimp! only [$x,*] $[$l:location]?)=>do let q<-("aH dO dI bj dj aE bf xF kR eK mB jg kq Nat.reduceAdd Nat.reduceSub reduceIte ite_true ite_false BEq.rfl beq_self_eq_true J J2".splitOn " ").toArray.mapM fun n=>`(Lean.Parser.Tactic.simpLemma|$(Lean.mkIdent n.toName):ident);`(tactic|simp only [$[$q:simpLemma],*,$x,*] $[$l]?)
set_option hygiene true
theorem rk(F:aF)(i:Int):aH F fe [.int i]=.ok (.bl hQ):=by rfl
def mU{a:Type}{xs:List a}(h:k<xs.length):vF xs (k:Int)=hG xs[k]:=by
 unfold vF K4;have:((k:Nat):Int)<(xs.length:Int):=by lia
 simp [this,h]
def xh{ns:List Int}{k:Int}(a:0<=k)(h:k<ns.length):∃m,vF (ns.map PV.int) k=hG (.int m):=by let(j,rfl):=gz a;refine{ns[j]'(by lia),?_};rw [mU (k:=j) (by simp;lia)];simp
def Dc(ns:List Int)(n:Nat):Ci.plain (n+1) (.lst (ns.map .int))=hQ:=by
 simp! [Ci.plain,ed,gI]
 rintro x ⟨i,_,rfl⟩
 cases n<;>rfl
def eq_nil(ns:List Int):gH (eG ns) (.lst [])=.ok (.bl (decide (ns=[]))):=by have e:kh (eG ns)=hQ:=Dc ns 8;unfold gH;rw [e];cases ns<;>rfl
def Er(F:aF)(ns:List Int)(k:Int)(hk:0<=k):∃m,aH F dn [eG ns,.int k]=.ok (.int m):=by
 simp! only [dn,zzl,eq_nil];by_cases h:k<(ns.length:Int)
 .let(m,e):=xh hk h;refine{m,?_};simp! only [h,decide_true,aZ,e]
 .simp! only [h,decide_false,eq_nil];cases ns with
  |nil=>exact{0,rfl}|cons n ns=>
   have hl:(0:Int)<((n::ns).length:Int):=by simp! [cS];lia
   let(m,e):=xh (ns:=n::ns) (k:=k%((n::ns).length:Int)) (Int.emod_nonneg _ (by lia)) (Int.emod_lt_of_pos _ hl);refine{m*31+k,?_};have b:(aK m||aK 31)=hQ:=by rw [gd];exact .inr (by decide)
   have a:aZ (eG (n::ns)) (.int (k%((n::ns).length:Int)))=.ok (.int m):=by simp! [aZ,e];rfl
   have c:decide ((n::ns)=[])=hU:=rfl;simp! [cS] at hl a;simp! only [c,zzl,hl,a,b]
def GC(F:aF)(f:∀ns k,0<=k->∃m,F (zu 43) [eG ns,.int k]=.ok (.int m))(ns:List Int)(k q:Int)(hk:0<=k)(a:0<q):∃m,aH F b9 [eG ns,.int k,.int q]=.ok (.int m)/\0<=m/\m<q:=by
 let(m,e):=f ns k hk;have g:(aK 6151||aK (k+1))=hQ:=by rw [gd];exact .inl (by decide)
 have h:(aK (m+6151*(k+1))||aK 40692)=hQ:=by rw [gd];exact .inr (by decide)
 have c:(0:Int)<2147483399:=by decide
 have i:(0:Int)<2147483629:=by decide
 have j:(0:Int)<31/\(31:Int)<1073741824:=by decide
 have o:=Int.emod_nonneg ((m+6151*(k+1))*40692) (b:=2147483399) (by decide);have p:=Int.emod_lt_of_pos ((m+6151*(k+1))*40692) c;refine{((((m+6151*(k+1))*40692%2147483399)*((m+6151*(k+1))*40692%2147483399)+((m+6151*(k+1))*40692%2147483399)/31)%2147483629)%q,?_,Int.emod_nonneg _ (by lia),Int.emod_lt_of_pos _ a};generalize hd:(m+6151*(k+1))*40692%2147483399=d at o p
 have r:(aK d||aK d)=hQ:=by
  have:aK d=hQ:=by simp! [aK,zza,zzN];lia
  rw [this];rfl
 simp! only [b9,eG] at e⊢;simp! only [e,g,h,c,i,j,hd,r,a,and_self]
def pB(a:List Str):Prop:=a.length<=6/\∀z∈a,z.length<=6
noncomputable abbrev fl(a:List Str):PV:=.tup (a.map .str)
abbrev cd(a:List Str)(r c:Nat):Option Nat:=(a[r]?).bind λz=>z.cps.toList[c]?
abbrev uP(a:List Str)(r c:Nat):Bool:=match cd a r c with|some x=>x !=35|none=>hU
abbrev da(a:List Str)(r c:Int):Bool:=decide (0<=r)&&decide (0<=c)&&uP a r.toNat c.toNat
def vZ(F:aF)(h:∀i,F (zu 45) [.int i]=.ok (.bl hQ))(r c:Int):aH F du [sp r c]=.ok (.bl hQ):=by have a:aZ (sp r c) (.int 0)=.ok (.int r):=rfl;have e1:aZ (sp r c) (.int 1)=.ok (.int c):=rfl;have b:gH (.int ((2:Nat):Int)) (.int 2)=.ok (.bl hQ):=rfl;simp! only [du,vH,h,a,e1,b]
def OT(F:aF)(a:List Str)(R:pB a)(r c:Int):aH F bI [fl a,sp r c]=.ok (.bl (decide (0<=r)&&decide (0<=c)&&(cd a r.toNat c.toNat).isSome)):=by
 have f:aZ (sp r c) (.int 0)=.ok (.int r):=rfl;have e1:aZ (sp r c) (.int 1)=.ok (.int c):=rfl;simp! only [bI,vH,f,e1,uN,uO,zzl];by_cases h0:0<=r
 .by_cases e:r<(a.length:Int)
  .let(j,rfl):=gz h0;have b:j<a.length:=by lia
   have g:aZ (fl a) (.int (j:Int))=.ok (.str a[j]):=by simp! [aZ,fl];rw [mU (k:=j) (zx6 b)];simp [Res.of]
   have h:(a[j]).length<=cV:=ee (R.2 _ (List.getElem_mem b)) (by decide);have m:(a[j]).cps.size=(a[j]).length:=rfl;simp! only [h0,e,decide_true,g,h];by_cases d:0<=c
   .let(i,rfl):=gz d;simp! only [d,decide_true,cd,g7,zzg b,Option.bind_some,Bool.and_self,Bool.true_and,Res.ok.injEq,PV.bl.injEq];rw [Bool.eq_iff_iff];simp [m]
   .simp [aH,dO,dI,bj,dj,aE,bf,xF,kR,eK,mB,jg,kq,Nat.reduceAdd,Nat.reduceSub,reduceIte,ite_true,ite_false,BEq.rfl,beq_self_eq_true,J,d]
  .have:cd a r.toNat c.toNat=hI:=by
    unfold cd;rw [List.getElem?_eq_none (by lia)];rfl
   simp [aH,dO,dI,bj,dj,aE,bf,xF,kR,eK,mB,jg,kq,Nat.reduceAdd,Nat.reduceSub,reduceIte,ite_true,ite_false,BEq.rfl,beq_self_eq_true,J,h0,e,this]
 .simp [aH,dO,dI,bj,dj,aE,bf,xF,kR,eK,mB,jg,kq,Nat.reduceAdd,Nat.reduceSub,reduceIte,ite_true,ite_false,BEq.rfl,beq_self_eq_true,J,h0]
def rQ{a:List Str}(h:a[j]?=hG z):aZ (fl a) (.int (j:Int))=.ok (.str z):=by let(b,rfl):=bV.1 h;simp! [aZ,fl];rw [mU (k:=j) (zx6 b)];simp [Res.of]
def yG{i x:Nat}(hz:z.length<=cV)(h:z.cps.toList[i]?=hG x):aZ (.str z) (.int (i:Int))=.ok (.str {#[x]}):=by let(a,rfl):=bV.1 h;simp! [aZ,hz,if_true];rw [mU (k:=i) a];rfl
def HN{a:List Str}(R:pB a){i x:Nat}(h:cd a j i=hG x):∃z,a[j]?=hG z/\aZ (fl a) (.int (j:Int))=.ok (.str z)/\aZ (.str z) (.int (i:Int))=.ok (.str {#[x]}):=by
 unfold cd at h;cases b:a[j]? with
 |none=>rw [b] at h;cases h
 |some z=>rw [b] at h;exact{z,rfl,rQ b,yG (ee (R.2 _ (a7 b)) (by decide)) h}
def Du(x:Nat):iU (.str {#[x]}) (.str "#")=.ok (.bl (x !=35)):=by
 have:(("#":Str))={#[35]}:=by decide+kernel
 rw [this];show Res.ok (PV.bl (!(({#[x]}:Str)=={#[35]})))=_
 congr 2
 rw [bne,Bool.eq_iff_iff];simp
def Gn(F:aF)(hs:∀r c,F (zu 40) [sp r c]=.ok (.bl hQ))(d:∀a,pB a->∀r c,F (zu 7) [fl a,sp r c]=.ok (.bl (decide (0<=r)&&decide (0<=c)&&(cd a r.toNat c.toNat).isSome)))
 (a:List Str) (R:pB a) (r c:Int):aH F cR [fl a,sp r c]=.ok (.bl (da a r c)):=by
 have e:aZ (sp r c) (.int 0)=.ok (.int r):=rfl;have e1:aZ (sp r c) (.int 1)=.ok (.int c):=rfl;simp! only [cR,hs,d a R,e,e1];unfold da uP;by_cases h0:0<=r
 .by_cases b:0<=c
  .let(j,rfl):=gz h0;let(i,rfl):=gz b
   simp! [h0,b,decide_true,Bool.true_and,Bool.and_self,g7];cases f:cd a j i with
   |none=>simp [aH,dO,dI,bj,dj,aE,bf,xF,kR,eK,mB,jg,kq,Nat.reduceAdd,Nat.reduceSub,reduceIte,ite_true,ite_false,BEq.rfl,beq_self_eq_true,J]|some x=>let(z,_,g,h):=HN R f;simp! only [Option.isSome_some,g,h,Du]
  .simp [aH,dO,dI,bj,dj,aE,bf,xF,kR,eK,mB,jg,kq,Nat.reduceAdd,Nat.reduceSub,reduceIte,ite_true,ite_false,BEq.rfl,beq_self_eq_true,J,b]
 .simp [aH,dO,dI,bj,dj,aE,bf,xF,kR,eK,mB,jg,kq,Nat.reduceAdd,Nat.reduceSub,reduceIte,ite_true,ite_false,BEq.rfl,beq_self_eq_true,J,h0]
def rE(F:aF)(b:∀a,pB a->∀r c,F (zu 27) [fl a,sp r c]=.ok (.bl (da a r c)))(a:List Str)(R:pB a)(r c:Int)(h:da a r c=hQ):aH F bJ [fl a,sp r c]=.ok .aL:=by simp! only [bJ,b a R,h]
noncomputable abbrev II(p:Int×Int):PV:=sp p.1 p.2
theorem kM{a:Type}{f:PV->Res (Option PV)}{p:a->PV}{g:a->PV}:∀{xs:List a},(∀x∈xs,f (p x)=.ok (hG (g x)))->aY f (xs.map p)=.ok (xs.map g)
 |[],_=>rfl|x::xs,h=>by simp! [a9,aY,h x (dB ..),Res.well,Res.bind,kM (xs:=xs) λy b=>h y (b0 _ b),oc]
def Gp{a:List Str}:da a r c=hQ↔0<=r/\0<=c/\uP a r.toNat c.toNat=hQ:=by simp! [da,zza,zzN,and_assoc]
theorem eW{body:PV->Sl->Res Fl}{P:Nat->Sl->Prop}:∀(xs:List PV) (k:Nat) (env:Sl),P k env->(∀i x env,xs[i]?=hG x->P (k+i) env->∃a,body x env=.ok (.nx a)/\P (k+i+1) a)->∃a,forL body xs env=.ok (.nx a)/\P (k+xs.length) a
 |[],k,env,h,_=>⟨env,rfl,h⟩|x::xs,k,env,h,g=>by
  let(e1,b,c):=g 0 x env rfl h;let(d,e,f):=eW xs (k+1) e1 c λi y env j m=>by let(o,p,q):=g (i+1) y env j (by rw [show k+(i+1)=k+1+i by lia];exact m);exact{o,p,by rw [show k+1+i+1=k+(i+1)+1 by lia];exact q}
  refine{d,?_,by rw [cS,show k+(xs.length+1)=k+1+xs.length by lia];exact f};simp! [forL,b,Bc,e]
def Dl{n i:Nat}{x:PV}(h:(dF 0 n)[i]?=hG x):i<n/\x=.int (i:Int):=by simp! [dF,dV,b4] at h;let(j,c,rfl):=h;let(a,b):=bV.1 c;simp! [List.getElem_range] at b;subst b;simp! [List.length_range] at a;exact{a,by simp}
def i9(F:aF):Prop:=∀(ns:List Int) (k q:Int),0<=k->0<q->∃m,F (zu 1) [eG ns,.int k,.int q]=.ok (.int m)/\0<=m/\m<q
def qZ{a b d m:Int}(e:0<=m)(f:m<4):∃v,aZ (.lst [.int a,.int b,.int c,.int d]) (.int m)=.ok (.int v)/\(v=a\/v=b\/v=c\/v=d):=by
 have:m=0\/m=1\/m=2\/m=3:=by lia
 rcases this with rfl|rfl|rfl|rfl
 .exact{a,rfl,.inl rfl}
 .exact{b,rfl,.inr (.inl rfl)}
 .exact{c,rfl,.inr (.inr (.inl rfl))}
 .exact{d,rfl,.inr (.inr (.inr rfl))}
abbrev H8:Ss:=#v[.set 11 (.call (zu 1) #v[!0,.bin .add (.bin .add (.bin .add (!1) (¬4)) (.bin .mul (!2) (!8))) (!10),.bin .mul (¬12) (!6)]),.set 9 (.bin .add (!9) (.ite (.cmp .lt (.bin .mod (!11) (¬12)) (!5)) (.cst (.str "#")) (.blt .str #v[.bin .fdiv (!11) (¬12)])))]
abbrev JT:Ss:=#v[.set 9 (.cst (.str "")),.cL (.one 10) (.mv (!4)) H8,.app 7 (!9)]
structure Fl(aa:List Str)(w:Nat):Prop where
 o8:pB aa
 ne:0<aa.length
 w1:1<=w
 o5:∀z∈aa,z.length=w
 dig:∀z∈aa,∀x∈z.cps.toList,x=35\/(48<=x/\x<=57)
def Hi{v:Int}(b:0<=v)(c:v<10):eE .str [.int v]=.ok (.str {#[48+v.toNat]}):=by
 let(n,rfl):=gz b;have a:∀k:Fin 10,(((k.1:Nat):Int).natAbs.log2<1920)/\((toString ((k.1:Nat):Int)):Str)={#[48+k.1]}:=by decide+kernel
 have k:=a {n,Int.ofNat_lt.1 c};show(if _ then Res.ok (PV.str _) else _)=_;rw [if_pos k.1,g7,k.2]
def Fv{x:Nat}(c:48<=x)(d:x<=57):eE .int [.str {#[x]}]=.ok (.int ((x:Int)-48)):=by
 have b:∀k:Fin 10,PySem.intText? ({#[48+k.1]}:Str)=hG (((48+k.1:Nat):Int)-48):=by decide+kernel
 let(k,rfl):=Nat.exists_eq_add_of_le c;have e:=b {k,Nat.lt_succ_of_le (Nat.le_of_add_le_add_left (a:=48) d)};show(if({#[48+k]}:Str).length<=640 then(Res.of (PySem.intText? ({#[48+k]}:Str))).bind λn=>Res.ok (PV.int n) else .bad)=_;rw [if_pos (show({#[48+k]}:Str).length<=640 from(by show 1<=640;decide)),e];rfl
def KZ(F:aF)(A:i9 F)(ns:List Int)(q a b d tp:Int)(B:0<=q)(E:q<=6)(G:1<=tp)(H:tp<=10)(own:PV)(i n:Nat)(I:n<=6)(o p:Ci.Slot):
 ∃(z:Str) (f g:Ci.Slot),z.length=n/\(∀x∈z.cps.toList,x=35\/(48<=x/\x<=57))/\forL (λx env=>((Tg.one 10).put x env).bind λh=>bj F H8 h) (dF 0 n) [.val (eG ns),.val (.int 0),.val (.int q),.val (.int a),.val (.int b),.val (.int d),.val (.int tp),.own own,.val (.int i),.val (.str ""),o,p]=
  .ok (.nx [.val (eG ns),.val (.int 0),.val (.int q),.val (.int a),.val (.int b),.val (.int d),.val (.int tp),.own own,.val (.int i),.val (.str z),f,g]):=by
 let(h,e,z,f,g,r,hd,rfl):=eW (body:=λx env=>((Tg.one 10).put x env).bind λh=>bj F H8 h) (P:=λj env=>∃(z:Str) (f g:Ci.Slot),z.length=j/\(∀x∈z.cps.toList,x=35\/(48<=x/\x<=57))/\env=[.val (eG ns),.val (.int 0),.val (.int q),.val (.int a),.val (.int b),.val (.int d),.val (.int tp),.own own,.val (.int i),.val (.str z),f,g]) (dF 0 n) 0 [.val (eG ns),.val (.int 0),.val (.int q),.val (.int a),.val (.int b),.val (.int d),.val (.int tp),.own own,.val (.int i),.val (.str ""),o,p] {_,_,_,by decide+kernel,by decide+kernel,rfl} (by
  intro j x env c C;let(K,rfl):=Dl c;let(z,f,g,r,hd,rfl):=C;let(m,s,L,m1):=A ns (0+4+q*(i:Int)+(j:Int)) (12*tp) (by have:=Int.mul_nonneg B (Int.natCast_nonneg i);lia) (by lia)
  have t:(aK q||aK (i:Int))=hQ:=by
   have:aK q=hQ:=by simp! [aK,zza,zzN];lia
   rw [this];rfl
  have u:(aK 12||aK tp)=hQ:=by rw [gd];exact .inl (by decide)
  have w:(0:Int)<12:=by decide
  have y:(0:Int)<12/\(12:Int)<1073741824:=by decide
  have D:=Hi (v:=m/12) (by lia) (by lia);have k:(("#":Str))={#[35]}:=by decide+kernel
  by_cases hm:m%12<d
  .refine{[.val (eG ns),.val (.int 0),.val (.int q),.val (.int a),.val (.int b),.val (.int d),.val (.int tp),.own own,.val (.int i),.val (.str (z++"#")),.val (.int j),.val (.int m)],?_,_,_,_,?_,?_,rfl}
   .have l:z.length+(("#":Str)).length<=cV:=ee (show _<=8 by rw [k];show z.length+1<=8;lia) (by decide);simp! only [H8,t,u,w,y,s,hm,decide_true,l,and_self]
   .rw [Str.length_append,k];show z.length+1=_;lia
   .rw [k];show∀x∈(z.cps++#[35]).toList,_;intro x c;simp! [Array.toList_append,List.mem_append,eM] at c;rcases c with c|c
    .exact hd x c
    .exact .inl c
  .refine{[.val (eG ns),.val (.int 0),.val (.int q),.val (.int a),.val (.int b),.val (.int d),.val (.int tp),.own own,.val (.int i),.val (.str (z++{#[48+(m/12).toNat]})),.val (.int j),.val (.int m)],?_,_,_,_,?_,?_,rfl}
   .have l:z.length+({#[48+(m/12).toNat]}:Str).length<=cV:=ee (show z.length+1<=8 by lia) (by decide);simp! only [H8,t,u,w,y,s,hm,decide_false,l,and_self,D]
   .rw [Str.length_append];show z.length+1=_;lia
   .show∀x∈(z.cps++#[48+(m/12).toNat]).toList,_
    intro x c;simp! [Array.toList_append,List.mem_append,eM] at c;rcases c with c|c
    .exact hd x c
    .exact .inr (by lia))
 refine{z,f,g,?_,hd,e};simpa [dF] using r
def zE(F:aF)(j:i9 F)(ns:List Int)(q:Int)(U:1<=q)(C:q<=6):∃f w,Fl f w/\aH F cF [eG ns,.int 0,.int q]=.ok (fl f):=by
 let(a,D,V,W):=j ns 0 q (by decide) (by lia);let(b,E,X,Y):=j ns (0+1) q (by decide) (by lia);let(c,G,c0,H):=j ns (0+2) 4 (by decide) (by decide);let(d,I,K,d4):=j ns (0+3) 4 (by decide) (by decide);let(k,L,hs):=qZ (a:=0) (b:=2) (c:=4) (d:=6) c0 H;let(tp,M,Z):=qZ (a:=1) (b:=2) (c:=3) (d:=10) K d4;have N:1<=tp:=by lia
 have t2:tp<=10:=by lia
 have sa:aU (1+a)=hQ:=by simp! [aU,zza,zzN];lia
 have O:aU (1+b)=hQ:=by simp! [aU,zza,zzN];lia
 let(A,e,f,s,t,o,p,hl,r,hd,rfl):=eW (body:=λx env=>((Tg.one 8).put x env).bind λA=>bj F JT A)
  (P:=λi env=>∃(f:List Str) (s t o p:Ci.Slot),f.length=i/\(∀z∈f,z.length=(1+b).toNat)/\(∀z∈f,∀x∈z.cps.toList,x=35\/(48<=x/\x<=57))/\env=[.val (eG ns),.val (.int 0),.val (.int q),.val (.int (1+a)),.val (.int (1+b)),.val (.int k),.val (.int tp),.own (.lst (f.map .str)),s,t,o,p])
  (dF 0 (1+a).toNat) 0 [.val (eG ns),.val (.int 0),.val (.int q),.val (.int (1+a)),.val (.int (1+b)),.val (.int k),.val (.int tp),.own (.lst []),.no,.no,.no,.no] {[],_,_,_,_,rfl,(λz h=>by cases h),(λz h=>by cases h),rfl} (by
  intro i x env Q R;let(hi,rfl):=Dl Q;let(f,s,t,o,p,hl,r,hd,rfl):=R;let(z,S,T,h,u,e):=KZ F j ns q (1+a) (1+b) k tp (by lia) C N t2 (.lst (f.map .str)) i (1+b).toNat (by lia) o p;have l:(f.map PV.str).length<cV:=ef (m:=6) (by simp! [zzl];lia) (by decide);refine{[.val (eG ns),.val (.int 0),.val (.int q),.val (.int (1+a)),.val (.int (1+b)),.val (.int k),.val (.int tp),.own (.lst ((f++[z]).map .str)),.val (.int i),.val (.str z),S,T],?_,f++[z],_,_,_,_,by simp;lia,?_,?_,rfl}
  .have B:=e;simp! only [H8] at B;simp! [zzl] at l;simp! only [JT,H8,O,B,zzl,l,List.map_append]
  .intro y g;simp! [List.mem_append,eM] at g;rcases g with g|rfl
   .exact r y g
   .exact h
  .intro y g;simp! [List.mem_append,eM] at g;rcases g with g|rfl
   .exact hd y g
   .exact u)
 have sE:f.length=(1+a).toNat:=by simpa [dF] using hl
 refine{f,(1+b).toNat,{{by lia,λz h=>by rw [r z h];lia},by lia,by lia,r,hd},?_};simp! only [JT,H8] at e;simp! only [cF,cF,D,E,G,I,L,M,sa,e]
abbrev d8(a:List Str)(r c:Int):Int:=match cd a r.toNat c.toNat with
 |some x=>(x:Int)-48|none=>0
def CI{b:List Str}(h:da b r c=hQ):∃(i j x:Nat),r=i/\c=j/\cd b i j=hG x/\x≠35:=by
 let(e,f,a):=Gp.1 h;let(i,rfl):=gz e;let(j,rfl):=gz f
 simp! [g7,uP] at a;cases d:cd b i j with
 |none=>rw [d] at a;cases a
 |some x=>rw [d] at a;exact{i,j,x,rfl,rfl,d,zx6 a}
def Jt{a:List Str}{w:Nat}(L:Fl a w){i x:Nat}(h:cd a i j=hG x):x=35\/(48<=x/\x<=57):=by
 unfold cd at h;cases b:a[i]? with
 |none=>rw [b] at h;cases h
 |some z=>rw [b] at h;exact L.dig z (a7 b) x (a7 h)
def vU{a:List Str}{w:Nat}(L:Fl a w)(h:da a r c=hQ):∃z x,aZ (fl a) (.int r)=.ok (.str z)/\aZ (.str z) (.int c)=.ok (.str {#[x]})/\eE .int [.str {#[x]}]=.ok (.int (d8 a r c))/\0<=d8 a r c/\d8 a r c<=9:=by
 let(i,j,x,rfl,rfl,b,e):=CI h;let(z,_,e1,f):=HN L.o8 b;have hd:=(Jt L b).resolve_left e;have d:d8 a i j=(x:Int)-48:=by simp! [d8,g7,b]
 refine{z,x,e1,f,?_,?_}
 .rw [d];exact Fv hd.1 hd.2
 .rw [d];lia
abbrev eJ(a:List Str)(e:Bool)(cl f:Int)(r c b d:Int):Option Int:=
 if(r=b/\c=d)\/1<r-b\/1<b-r\/1<c-d\/1<d-c then hI
 else if(r≠b/\c≠d)/\¬(e=hQ/\da a r d=hQ/\da a b c=hQ) then hI
 else if cl<d8 a b d-d8 a r c\/cl<d8 a r c-d8 a b d then hI
 else hG ((if r≠b/\c≠d then 3 else 2)+f*(if d8 a b d-d8 a r c>0 then d8 a b d-d8 a r c else 0))
abbrev oP:Option Int->PV
 |none=>.aL|some i=>.int i
def qW(r c a b:Int):Prop:=(r=a/\c=b)\/1<r-a\/1<a-r\/1<c-b\/1<b-c
noncomputable instance(r c a b:Int):Decidable (qW r c a b):=by unfold qW;infer_instance
def y7(F:aF)(r c e f:Int):aH F cQ [sp r c,sp e f]=.ok (.bl (!decide (qW r c e f))):=by
 simp! only [cQ,Pm,Pn,aI,nS];have k:∀(a b d:Bool),(Res.ok (PV.bl a)).bind (λx=>sC x λt=>if t then(Res.ok (PV.bl b)).bind (λx=>sC x λt=>if t then Res.ok (PV.bl d) else Res.ok (PV.bl hU)) else Res.ok (PV.bl hU))=Res.ok (PV.bl (a&&(b&&d))):=by intro a b d;cases a<;>cases b<;>cases d<;>rfl
 by_cases j:r=e/\c=f
 .let(rfl,rfl):=j;have:qW r c r c:=.inl ⟨rfl,rfl⟩;simp [aH,dO,dI,bj,dj,aE,bf,xF,kR,eK,mB,jg,kq,Nat.reduceAdd,Nat.reduceSub,reduceIte,ite_true,ite_false,BEq.rfl,beq_self_eq_true,J,this]
 .have m:(!((r==e)&&((c==f)&&hQ)))=hQ:=by
   cases o:((r==e)&&((c==f)&&hQ)) with
   |false=>rfl|true=>exact absurd (zx6 o) j
  simp! only [m];by_cases g:(if r-e<0 then -(r-e) else r-e)<=1
  .by_cases i:(if c-f<0 then -(c-f) else c-f)<=1
   .have:¬qW r c e f:=by
     rintro (h|h|h|h|h)
     .exact j h
     all_goals (split at g<;>split at i<;>lia)
    simp! only [g,i,this,decide_true,decide_false]
   .have:qW r c e f:=by
     unfold qW;split at i<;>lia
    simp! only [g,i,this,decide_true,decide_false]
  .have:qW r c e f:=by
    unfold qW;split at g<;>lia
   simp! only [g,this,decide_true,decide_false]
def vv(F:aF):Prop:=∀a,pB a->∀r c,F (zu 27) [fl a,sp r c]=.ok (.bl (da a r c))
def zL(F:aF)(b:∀a,pB a->∀r c,da a r c=hQ->F (zu 5) [fl a,sp r c]=.ok .aL){a:List Str}{w:Nat}(L:Fl a w)(h:da a r c=hQ):aH F dq [fl a,sp r c]=.ok (.int (d8 a r c)):=by let(z,x,e1,d,e,_):=vU L h;simp! only [dq,b a L.o8 r c h,Pm,Pn,e1,d,e]
def vK(F:aF)(e:vv F){a:List Str}(R:pB a)(r c d b:Int):aH F bu [fl a,sp r c,sp d b]=.ok (.bl (da a r b&&da a d c)):=by simp! only [bu,Pm,Pn,e a R];cases da a r b<;>simp! only [Bool.false_and,Bool.true_and]
def Ab{i j:Int}(a:0<=i)(b:i<4):(aK i||aK j)=hQ:=by
 have:aK i=hQ:=by simp! [aK,zza,zzN];lia
 rw [this];rfl
structure Wk(cl pr:Int):Prop where
 c0:0<=cl
 p0:0<=pr
 p4:pr<4
 c9:cl<=9
def Hg(F:aF)(G:∀r c b d,F (zu 34) [sp r c,sp b d]=.ok (.bl (!decide (qW r c b d))))(hk:∀a,pB a->∀r c b d,F (zu 9) [fl a,sp r c,sp b d]=.ok (.bl (da a r d&&da a b c)))
 (D:∀a w,Fl a w->∀r c,da a r c=hQ->F (zu 37) [fl a,sp r c]=.ok (.int (d8 a r c))) {a:List Str} {w:Nat} (L:Fl a w) {f:Bool} {i:Int} (V:Wk cl i) {b d:Int} (h:da a r c=hQ) (h':da a b d=hQ):
 aH F bz [fl a,wk f cl i,sp r c,sp b d]=.ok (oP (eJ a f cl i r c b d)):=by
 have e1:=D a w L r c h;have E:=D a w L b d h';have B:=hk a L.o8 r c b d;have k:=G r c b d;by_cases g:qW r c b d
 .have:eJ a f cl i r c b d=hI:=if_pos g;simp! only [bz,k,g,decide_true,this,oP]
 .have H:eJ a f cl i r c b d=_:=if_neg g;rw [H];have ms:=λj=>Ab (j:=j) V.p0 V.p4;obtain⟨s,hs⟩:∃s,((!(r==b))&&!(c==d))=s:={_,rfl};have m:s=hQ↔r≠b/\c≠d:=by rw [<-hs];simp
  have o:∀{t u:Bool},(if t=hQ then Res.ok (PV.bl u) else Res.ok (PV.bl hU))=Res.ok (PV.bl (t&&u)):=λ{t u}=>by cases t<;>rfl
  have I:(if s=hQ then Res.ok (PV.int 3) else Res.ok (PV.int 2))=Res.ok (PV.int (if r≠b/\c≠d then 3 else 2)):=by
   by_cases p:r≠b/\c≠d
   .rw [if_pos (m.2 p),if_pos p]
   .rw [if_neg (λz=>p (m.1 z)),if_neg p]
  have K:(if(0:Int)>d8 a b d-d8 a r c then 0 else d8 a b d-d8 a r c)=(if d8 a b d-d8 a r c>0 then d8 a b d-d8 a r c else 0):=by split<;>split<;>lia
  have cc:(if f=hQ then Res.ok (PV.bl (da a r d&&da a b c)) else Res.ok (PV.bl hU))=Res.ok (PV.bl (f&&(da a r d&&da a b c))):=o;by_cases e:(r≠b/\c≠d)/\¬(f=hQ/\da a r d=hQ/\da a b c=hQ)
  .rw [if_pos e];have q:(!(f&&(da a r d&&da a b c)))=hQ:=by
    rw [Bool.not_eq_true',Bool.eq_false_iff];intro z;rw [zza,zza] at z;exact e.2 z
   simp! only [bz,k,B,g,decide_false,o,hs,m.2 e.1,q,Bool.and_self,oP]
  .rw [if_neg e];have q:(s&&!(f&&(da a r d&&da a b c)))=hU:=by
    rw [Bool.eq_false_iff];intro z;rw [zza,Bool.not_eq_true',Bool.eq_false_iff] at z;exact e {m.1 z.1,λy=>z.2 (by rw [zza,zza];exact y)}
   by_cases A:cl<(if d8 a b d-d8 a r c<0 then -(d8 a b d-d8 a r c) else d8 a b d-d8 a r c)
   .have C:cl<d8 a b d-d8 a r c\/cl<d8 a r c-d8 a b d:=by split at A<;>lia
    simp! only [bz,k,B,e1,E,g,decide_false,o,hs,q,oP,A,decide_true,if_pos C]
   .have C:¬(cl<d8 a b d-d8 a r c\/cl<d8 a r c-d8 a b d):=by split at A<;>lia
    simp! only [bz,k,B,e1,E,g,decide_false,o,hs,q,oP,A,if_neg C,I,ms,K]
def Im{a:List Str}{w:Nat}(L:Fl a w){i:Nat}(d:i<a.length)(b:j<w):∃x,cd a i j=hG x:=by have c:a[i]?=hG a[i]:=zzg d;have hl:=L.o5 _ (a7 c);refine{(a[i]).cps.toList[j]'(by simp! [ey];rw [<-hl] at b;exact b),?_};unfold cd;rw [c];exact zzg _
def LL{b:List Str}{w:Nat}(L:Fl b w)(h:da b r c=hQ):0<=r/\r<b.length/\0<=c/\c<w:=by
 let(i,j,x,rfl,rfl,a,_):=CI h
 unfold cd at a;cases d:b[i]? with
 |none=>rw [d] at a;cases a
 |some z=>rw [d] at a;have f:=(bV.1 d).1;have e:=(bV.1 a).1;have hl:=L.o5 _ (a7 d);simp! [ey] at e;have:z.cps.size=z.length:=rfl;lia
noncomputable abbrev kN(p:Nat×Nat):List Int:=[(p.1:Int),(p.2:Int)]
noncomputable abbrev Up(L:List (Nat×Nat)):Prop:=L.Pairwise λp q=>HT.lexLt (kN p) (kN q)=hQ
def w8:Up []:=.nil
def SI{p q:Nat×Nat}(h:p.1<q.1\/p.1=q.1/\p.2<q.2):HT.lexLt (kN p) (kN q)=hQ:=by
 simp! [HT.lexLt];rcases h with h|⟨a,b⟩
 .rw [if_neg (by lia)];exact zzh (by lia)
 .rw [if_pos (by lia),if_neg (by lia)];exact zzh (by lia)
noncomputable abbrev bA(p:Nat×Nat):PV:=sp p.1 p.2
theorem qR:∀{xs:List PV} {k i:Nat} {x:PV},(bR k xs)[i]?=hG x->∃y,xs[i]?=hG y/\x=.tup [.int ((k+i:Nat):Int),y]
 |[],_,_,_,h=>by cases h
 |y::ys,k,0,x,h=>by simp! [bR,List.getElem?_cons_zero,Option.some.injEq] at h;exact⟨y,rfl,h.symm⟩|y::ys,k,i+1,x,h=>by simp! [bR,List.getElem?_cons_succ] at h;let(w,a,b):=qR h;refine{w,a,?_};rw [b,show k+1+i=k+(i+1) by lia]
theorem cI:∀(xs:List PV) (k:Nat),(bR k xs).length=xs.length
 |[],_=>rfl|x::xs,k=>by simp! [bR,cS,cI xs]
theorem m8{f:PV->Res (Option PV)}{r:Nat}(j:∀c x:Nat,f (.tup [.int c,.str {#[x]}])=.ok (if x !=35 then hG (sp r c) else hI)):∀(xs:List Nat) (k:Nat),∃L:List (Nat×Nat),aY f (bR k (xs.map λx=>.str {#[x]}))=.ok (L.map bA)/\Up L/\L.length<=xs.length/\∀a b,(a,b)∈L↔a=r/\k<=b/\∃x,xs[b-k]?=hG x/\x≠35
 |[],k=>{[],rfl,w8,a8 _,λa b=>by simp}|x::xs,k=>by
  let(L,e,nd,l,h):=m8 j xs (k+1);by_cases m:x=35
  .refine{L,?_,nd,Nat.le_succ_of_le l,λa b=>?_}
   .have:(x !=35)=hU:=by simp [m]
    simp! [a9,bR,aY,j,this,PY,Bc,e,oc];rfl
   .rw [h];constructor
    .rintro ⟨d,o,y,g,i⟩
     refine{d,by lia,y,?_,i};rw [show b-k=(b-(k+1))+1 by lia];exact g
    .rintro ⟨d,o,y,g,i⟩
     have:b≠k:=by
      rintro rfl
      simp at g;lia
     refine{d,by lia,y,?_,i};rw [show b-k=(b-(k+1))+1 by lia] at g;exact g
  .refine{(r,k)::L,?_,List.pairwise_cons.2 {(λp q=>SI (by have:=(h p.1 p.2).1 q;lia)),nd},Nat.succ_le_succ l,λa b=>?_}
   .have:(x !=35)=hQ:=by simp [m]
    simp! [a9,bR,aY,j,this,PY,Bc,e,oc,if_true]
   .rw [e9,h];constructor
    .rintro (d|⟨d,o,y,g,i⟩)
     .cases d;exact{rfl,a8 _,x,by simp,m}
     .refine{d,by lia,y,?_,i};rw [show b-k=(b-(k+1))+1 by lia];exact g
    .rintro ⟨d,o,y,g,i⟩
     by_cases s:b=k
     .subst s;subst d;exact .inl rfl
     .refine .inr {d,by lia,y,?_,i};rw [show b-k=(b-(k+1))+1 by lia] at g;exact g
def mI{a:List Str}{r c:Nat}:uP a r c=hQ↔∃z,a[r]?=hG z/\∃x,z.cps.toList[c]?=hG x/\x≠35:=by
 unfold uP cd;cases f:a[r]? with
 |none=>simp|some z=>
  simp! [Option.bind_some];cases b:z.cps.toList[c]? with
  |none=>
   refine{(λh=>by cases h),?_}
   rintro ⟨w,hw,x,d,_⟩
   cases hw;rw [b] at d;cases d
  |some x=>
   refine{λh=>{z,rfl,x,b,zx6 h},?_}
   rintro ⟨w,hw,y,e,h⟩
   cases hw;rw [b] at e;cases e;simpa using h
abbrev CL:Ss:=#v[.qV 1 (.dN 2 [2] (.two 0 1) (.enum (!3)) (.cmp .ne (!1) (.cst (.str "#"))) (.tup #v[!2,!0]))]
def DD(F:aF)(d:List Str)(R:pB d):∃L:List (Nat×Nat),aH F cO [fl d]=.ok (.lst (L.map bA))/\Up L/\L.length<=36/\∀r c,(r,c)∈L↔uP d r c=hQ:=by
 have T:=R.1
 let(g,e,L,s,u,nd,hl,hm,rfl):=eW (body:=λx env=>((Tg.two 2 3).put x env).bind λg=>bj F CL g) (P:=λi env=>∃(L:List (Nat×Nat)) (s u:Slot),Up L/\L.length<=6*i/\(∀r c,(r,c)∈L↔r<i/\uP d r c=hQ)/\env=[.val (fl d),.own (.lst (L.map bA)),s,u])
  (bR 0 (d.map .str)) 0 [.val (fl d),.own (.lst []),.no,.no] {[],_,_,w8,a8 _,(λr c=>by simp),rfl} (by
  intro i x env E G;let(y,B,rfl):=qR E;let(L,s,u,nd,hl,hm,rfl):=G;simp! [dV,b4] at B;let(z,j,rfl):=B;have H:=R.2 z (a7 j);have U:i<d.length:=(bV.1 j).1;let(M,I,K,lM,C):=m8 (f:=λx=>((Tg.two 0 1).put x [.no,.no,.val (.int i)]).bind λg=>((gU g[1]?).bind λx=>iU x (.str "#")).bind λt=>sC t λt=>if t then(((gU g[2]?).bind λp=>((gU g[0]?).bind λp=>.ok [p]).bind λA=>.ok (p::A)).bind λA=>.ok (.tup A)).bind λy=>.ok (hG y) else .ok hI) (r:=i) (λc x=>by simp! only [Du];cases(x !=35)<;>rfl) z.cps.toList 0;have lz:(bR 0 (chars z)).length<cV:=by rw [cI];refine ef (m:=6) ?_ (by decide);simpa [chars,Str.length] using H
  have N:(L.map bA).length+(M.map bA).length<=cV:=by
   refine ee (m:=100) ?_ (by decide);simp! [zzl];have:z.cps.toList.length=z.length:=by simp [Str.length]
   lia
  refine{[.val (fl d),.own (.lst ((L++M).map bA)),.val (.int i),.val (.str z)],?_,L++M,_,_,List.pairwise_append.2 {nd,K,λa O b Q=>SI (.inl (by have D:=((hm a.1 a.2).1 O).1;have k:=((C b.1 b.2).1 Q).1;lia))},?_,?_,rfl}
  .simp! only [CL,Qx,Nat.zero_add,lz];rw [show chars z=z.cps.toList.map λx=>PV.str {#[x]} from rfl,I];simp! only [N,List.map_append]
  .have:z.cps.toList.length=z.length:=by simp [Str.length]
   simp! [c7];lia
  .intro r c;rw [List.mem_append,hm,C,mI];constructor
   .rintro (⟨D,k⟩|⟨rfl,_,x,o,q⟩)
    .exact{by lia,k}
    .exact{by lia,z,j,x,o,q}
   .rintro ⟨D,w,k,x,o,q⟩
    by_cases S:r=i
    .subst S;rw [j] at k;cases k;exact .inr {rfl,Nat.zero_le _,x,o,q}
    .exact .inl {by lia,w,k,x,o,q})
 refine{L,?_,nd,(by rw [cI,zzl] at hl;lia),λr c=>?_}
 .simp! only [CL] at e;simp! only [cO,Qy,e,List.modify_succ_cons,List.modify_zero_cons,JX]
 .rw [hm];refine{λh=>h.2,λh=>{?_,h}};let(z,j,_):=mI.1 h;have:=(bV.1 j).1;rw [cI,zzl];lia
def AD(F:aF)(e:i9 F)(ns:List Int)(k:Int)(hk:0<=k):∃g cl f,Wk cl f/\aH F cJ [eG ns,.int k]=.ok (wk g cl f):=by let(a,h,r,a2):=e ns k 2 hk (by decide);let(b,i,j,m):=e ns (k+1) 4 (by lia) (by decide);let(c,o,c0,p):=e ns (k+2) 4 (by lia) (by decide);let(v,q,s):=qZ (a:=0) (b:=1) (c:=2) (d:=9) j m;refine{(a==0),v,c,{by lia,c0,p,by lia},?_};simp! only [cJ,h,i,o,q]
theorem j3{d f:Type}{body:PV->Sl->Res Ci.Fl}{g:d->PV}{mk:List PV->f->Sl}{app:d->List PV}{m M:Nat}:∀(l:List d) (c:List PV) (s:f),(∀a∈l,(app a).length<=m)->(∀a∈l,∀c s,c.length+m<=M->∃s',body (g a) (mk c s)=.ok (.nx (mk (c++app a) s')))->c.length+m*l.length<=M->∃s',forL body (l.map g) (mk c s)=.ok (.nx (mk (c++l.flatMap app) s'))
 |[],c,s,_,_,_=>{s,by simp [forL]}|a::l,c,s,h,i,j=>by have q:=h a (dB ..);rw [cS,Nat.mul_succ] at j;let(k,e1):=i a (dB ..) c s (by lia);let(o,p):=j3 l (c++app a) k (λb e=>h b (b0 _ e)) (λb e=>i b (b0 _ e)) (by rw [c7];lia);refine{o,?_};simp! [a9,forL,e1,Bc,p,List.flatMap_cons,List.append_assoc]
abbrev iC(x:Int):List Int:=[x-1+(0:Nat),x-1+(1:Nat),x-1+(2:Nat)]
def Pd(x:Int):dF (x-1) (x+2-(x-1)).toNat=(iC x).map .int:=by rw [show(x+2-(x-1)).toNat=3 by lia];rfl
abbrev oI:Ss:=#v[.ite (.and (.cmp .ne (.tup #v[!3,!4]) (!1)) (.call (zu 27) #v[!0,.tup #v[!3,!4]])) #v[.app 2 (.tup #v[!3,!4])] .nil]
abbrev oO:Ss:=#v[.cL (.one 4) (.rP (.bin .sub (.sub (!1) (¬1)) (¬1)) (.bin .add (.sub (!1) (¬1)) (¬2))) oI]
abbrev Eb(d:List Str)(r c a b:Int):Bool:=!((a==r)&&((b==c)&&hQ))&&da d a b
abbrev sW(d:List Str)(r c a:Int):List (Int×Int):=(iC c).flatMap λb=>if Eb d r c a b then [(a,b)] else []
abbrev qI(a:List Str)(r c:Int):List (Int×Int):=(iC r).flatMap (sW a r c)
def jy(d:List Str)(r c a:Int):(sW d r c a).length<=3:=by
 have:∀b,(if Eb d r c a b then [(a,b)] else []).length<=1:=λb=>by split<;>simp
 simp! [sW,iC,List.flatMap_cons,List.flatMap_nil,c7,List.length_nil];have e:=this (c-1+(0:Nat));have f:=this (c-1+(1:Nat));have g:=this (c-1+(2:Nat));lia
def sX(a:List Str)(r c:Int):(qI a r c).length<=9:=by simp! [qI,iC,List.flatMap_cons,List.flatMap_nil,c7,List.length_nil];have b:=jy a r c (r-1+(0:Nat));have d:=jy a r c (r-1+(1:Nat));have e:=jy a r c (r-1+(2:Nat));lia
set_option tactic.hygienic true in
def mW{f:List Str}{d e:Int}:(d,e)∈qI f r c↔¬qW r c d e/\da f d e=hQ:=by
 have i:∀x y:Int,y∈iC x↔¬1<x-y/\¬1<y-x:=by intro x y;simp! [iC,e9,List.not_mem_nil,or_false];lia
 simp! [qI,sW,List.mem_flatMap,i];constructor
 .rintro ⟨a,k,b,m,h⟩
  split at h
  .rename_i hk;simp! [eM,Prod.mk.injEq] at h;let(rfl,rfl):=h;simp! [Eb,zza,Bool.not_eq_true',Bool.and_true] at hk;refine{?_,hk.2};unfold qW;have g:=hk.1;rw [Bool.and_eq_false_iff] at g;simp! [beq_eq_false_iff_ne,ne_eq] at g;lia
  .cases h
 .rintro ⟨hf,j⟩
  unfold qW at hf;refine{d,by lia,e,by lia,?_};have:Eb f r c d e=hQ:=by simp! [Eb,j,Bool.and_true,Bool.not_eq_true',Bool.and_eq_false_iff,beq_eq_false_iff_ne,ne_eq];lia
  rw [if_pos this];exact eM.2 rfl
def nY(a:0<=r)(b:r<6):(aU (r-1)&&aU (r+2))=hQ:=by simp! [aU,zza,zzN];lia
def Jn(F:aF)(p:vv F){d:List Str}(R:pB d)(u:0<=r)(w:r<6)(y:0<=c)(z:c<6):
 aH F bh [fl d,sp r c]=.ok (.lst ((qI d r c).map II)):=by
 have inner:∀(b:Int) (a:List PV) (i:Ci.Slot),a.length+3<=50->∃j,forL (λx env=>((Tg.one 4).put x env).bind λh=>bj F oI h) ((iC c).map .int) [.val (fl d),.val (sp r c),.own (.lst a),.val (.int b),i]=.ok (.nx [.val (fl d),.val (sp r c),.own (.lst (a++(sW d r c b).map II)),.val (.int b),j]):=by
  intro b a i hl;let(q,e):=j3 (body:=λx env=>((Tg.one 4).put x env).bind λh=>bj F oI h) (g:=PV.int) (mk:=λa (s:Ci.Slot)=>[.val (fl d),.val (sp r c),.own (.lst a),.val (.int b),s]) (app:=λf=>if Eb d r c b f then [sp b f] else []) (m:=1) (M:=60) (iC c) a i (λf Z=>by split<;>simp) (λf Z a s hl=>by
   have l:a.length<cV:=ef (m:=60) (by lia) (by decide)
   refine{.val (.int f),?_};cases o:(!((b==r)&&((f==c)&&hQ))) with
   |false=>simp! only [oI,o,Eb,Bool.false_and,hD]|true=>
    cases t:da d b f with
    |false=>simp! only [oI,o,t,Eb,p d R,Bool.and_false,hD]|true=>simp! only [oI,o,t,Eb,p d R,Bool.and_self,l]) (by show a.length+1*3<=60;lia)
  have k:(iC c).flatMap (λf=>if Eb d r c b f then [sp b f] else [])=(sW d r c b).map II:=by
   simp! [sW,List.map_flatMap]
   congr 1
   funext f
   split<;>rfl
  exact{q,by rw [e,k]}
 let(q,e):=j3 (body:=λx env=>((Tg.one 3).put x env).bind λh=>bj F oO h) (g:=PV.int) (mk:=λa (s:Ci.Slot×Ci.Slot)=>[.val (fl d),.val (sp r c),.own (.lst a),s.1,s.2]) (app:=λb=>(sW d r c b).map II) (m:=3) (M:=50) (iC r) [] (.no,.no) (λb Z=>by rw [zzl];exact jy ..) (λb Z a s hl=>by let(j,e):=inner b a s.2 hl;refine{(.val (.int b),j),?_};simp! only [oI] at e;simp! only [oO,oI,nY y z,Pd,e]) (by show 0+3*3<=50;lia);simp! only [oO,oI] at e;simp! only [bh,nY u w,Pd,e,JX,qI,List.map_flatMap]
def E1(a:List Str)(f:Bool)(cl g:Int)(u v:List Int)(e:Int):Prop:=∃r c b d,u=[r,c]/\v=[b,d]/\da a r c=hQ/\da a b d=hQ/\eJ a f cl g r c b d=hG e
noncomputable abbrev tK(t:List Int×Int):PV:=.tup [cg t.1,.int t.2]
def vy(F:aF):Prop:=∀a w,Fl a w->∀f cl b,Wk cl b->∀r c d e,da a r c=hQ->da a d e=hQ->F (zu 17) [fl a,wk f cl b,sp r c,sp d e]=.ok (oP (eJ a f cl b r c d e))
def Hz(F:aF):Prop:=∀a,pB a->∀r c,0<=r->r<6->0<=c->c<6->F (zu 8) [fl a,sp r c]=.ok (.lst ((qI a r c).map II))
def qz(F:aF):Prop:=∀a,pB a->∀r c,da a r c=hQ->F (zu 5) [fl a,sp r c]=.ok .aL
def sR(f:List PV->Res PV):Prop:=∀a w,Fl a w->∀d cl b,Wk cl b->∀r c,da a r c=hQ->∃T:List (List Int×Int),f [fl a,wk d cl b,cg [r,c]]=.ok (.lst (T.map tK))/\T.length<=9/\∀v e,(v,e)∈T↔E1 a d cl b [r,c] v e
def qC(F:aF):Prop:=sR (F (zu 33))
abbrev QI:Ss:=#v[.set 5 (.call (zu 17) #v[!0,!1,!2,!4]),.ite (.cmp .K3 (!5) (.cst .aL)) #v[.app 3 (.tup #v[!4,!5])] .nil]
def Iw{a:List Str}{w:Nat}(L:Fl a w)(h:da a r c=hQ):0<=r/\r<6/\0<=c/\c<6:=by have d:=LL L h;have e:=L.o8.1;have b:=L.o8.2 _ (List.getElem_mem L.ne);rw [L.o5 _ (List.getElem_mem L.ne)] at b;lia
def DG(F:aF)(A:qz F)(B:Hz F)(hs:vy F):sR (aH F cU):=by
 intro d w L f cl i V r c h;let(C,D,c0,E):=Iw L h;have Mr:∀p:Int×Int,((eJ d f cl i r c p.1 p.2).toList.map λe=>(([p.1,p.2]:List Int),e)).length<=1:=λp=>by cases eJ d f cl i r c p.1 p.2<;>simp
 refine{(qI d r c).flatMap λp=>(eJ d f cl i r c p.1 p.2).toList.map λe=>([p.1,p.2],e),?_,?_,?_}
 .let(N,e):=j3 (body:=λx env=>((Tg.one 4).put x env).bind λG=>bj F QI G) (g:=II) (mk:=λj (s:Ci.Slot×Ci.Slot)=>[.val (fl d),.val (wk f cl i),.val (sp r c),.own (.lst j),s.1,s.2]) (app:=λp=>((eJ d f cl i r c p.1 p.2).toList.map λe=>(([p.1,p.2]:List Int),e)).map tK) (m:=1) (M:=50) (qI d r c) [] (.no,.no) (λp Z=>by rw [zzl];exact Mr p) (λp o j s hl=>by
   have l:j.length<cV:=ef (m:=50) (by lia) (by decide);have e:=hs d w L f cl i V r c p.1 p.2 h (mW.1 o).2
   cases u:eJ d f cl i r c p.1 p.2 with
   |none=>rw [u] at e;have q:lU .aL .aL=.ok (.bl hU):=rfl;simp! [oP] at e;exact{(.val (II p),.val .aL),by simp! only [QI,e,q,Option.toList_none,hD]}|some v=>
    rw [u] at e;have q:lU (.int v) .aL=.ok (.bl hQ):=rfl;simp! [oP] at e;exact{(.val (II p),.val (.int v)),by simp! only [QI,e,q,Option.toList_some,l];rfl}) (by
   have:=sX d r c;show 0+1*_<=50;lia)
  have k:cg [r,c]=sp r c:=rfl;simp! only [QI] at e;simp! only [k,cU,A d L.o8 r c h,B d L.o8 r c C D c0 E,e,JX,List.map_flatMap]
 .have:=sX d r c
  have t:∀l:List (Int×Int),(l.flatMap λp=>(eJ d f cl i r c p.1 p.2).toList.map λe=>(([p.1,p.2]:List Int),e)).length<=l.length:=by
   intro l
   induction l with
   |nil=>exact a8 _|cons p l O=>have:=Mr p;simp! [List.flatMap_cons,c7,cS];lia
  exact ee (t _) this
 .intro v e;simp! [List.mem_flatMap,gI,Option.mem_toList,Option.mem_def,Prod.mk.injEq];constructor
  .rintro ⟨p,o,P,he,rfl,rfl⟩
   exact{r,c,p.1,p.2,rfl,rfl,h,(mW.1 o).2,he}
  .rintro ⟨a,b,y,z,H,rfl,_,I,he⟩
   cases H;refine{(y,z),mW.2 {λK=>?_,I},e,he,rfl,rfl};rw [show eJ d f cl i r c y z=hI from if_pos K] at he;cases he
theorem nA:∀k:List Int,intsOf (k.map .int)=hG k
 |[]=>rfl|i::k=>by simp! [a9,intsOf,nA k,Option.map_some]
def jh(k:List Int):nF (cg k)=hG k:=nA k
theorem dA{b:Type}:∀{ks:kB} {vs:List b} (k:List Int),ks.length=vs.length->cq ks k=(ay ks vs k).isSome
 |[],[],_,_=>rfl|c::ks,v::vs,k,h=>by
  have a:=dA (ks:=ks) (vs:=vs) k (zx6 h);by_cases e:c=k
  .simp [cq,ay,e]
  .simp! [cq] at a;simp [cq,ay,e,a]
theorem nu{a b:Type}(f:a->b):∀(ks:kB) (vs:List a) (k:List Int),ay ks (vs.map f) k=(ay ks vs k).map f
 |[],_,_=>by simp [ay]|_::_,[],_=>by simp [ay]|c::ks,v::vs,k=>by simp! [a9,ay,nu f ks vs k];split<;>rfl
theorem nj{a b:Type}(f:a->b):∀(ks:kB) (vs:List a) (k:List Int),aW ks (vs.map f) k=(aW ks vs k).map f
 |[],_,_=>by simp [aW]|_::_,[],_=>by simp [aW]|c::ks,v::vs,k=>by simp! [a9,aW,nj f ks vs k];split<;>rfl
def p9{c d:Type}(f:c->d)(ks:kB)(vs:List c)(k:List Int)(p:c):bK ks (vs.map f) k (f p)=(bK ks vs k p).map f:=by
 unfold bK;split
 .rw [List.zipWith_map_right,List.map_zipWith]
  congr 1
  funext a b
  split<;>rfl
 .simp
theorem ub{b:Type}(k:List Int)(p:b):∀(ks:kB) (vs:List b) (x:List Int),ay ks (List.zipWith (λa v=>if a=k then p else v) ks vs) x=(ay ks vs x).map λv=>if x=k then p else v
 |[],_,_=>by simp [ay]|_::_,[],_=>by simp [ay]|a::ks,v::vs,x=>by
  simp! [List.zipWith_cons_cons,ay,ub k p ks vs x];by_cases e:a=x
  .subst e;simp
  .simp [e]
theorem qa{a:Type}(k:List Int)(p:a):∀(ks:kB) (vs:List a) (x:List Int),ks.length=vs.length->ay (ks++[k]) (vs++[p]) x=(ay ks vs x).or (if k=x then hG p else hI)
 |[],[],x,_=>by simp [ay]|b::ks,v::vs,x,h=>by simp! [List.cons_append,ay,qa k p ks vs x (zx6 h)];split<;>simp
def bF{b:Type}{ks:kB}{vs:List b}(h:ks.length=vs.length)(k:List Int)(p:b)(x:List Int):ay (bS ks k) (bK ks vs k p) x=if k=x then hG p else ay ks vs x:=by
 have a:=dA (vs:=vs) k h
 unfold bS bK;cases hk:cq ks k with
 |true=>
  rw [hk] at a;simp! [if_true,ub];by_cases e:k=x
  .subst e;let(v,c):=fx.1 a.symm;simp [c]
  .rw [if_neg e];have d:¬x=k:=λz=>e z.symm;cases ay ks vs x<;>simp [d]
 |false=>
  rw [hk] at a;simp! [eH,if_false,qa k p ks vs x h];by_cases e:k=x
  .subst e;have:ay ks vs k=hI:=zx6 a.symm;simp [this]
  .simp [e]
def t9{a:Type}{ks:kB}{vs:List a}(h:ks.length=vs.length)(k:List Int)(p:a):(bS ks k).length=(bK ks vs k p).length:=by unfold bS bK;split<;>simp [h]
def zF(ks:kB)(k:List Int):(bS ks k).length<=ks.length+1:=by unfold bS;split<;>simp
def nk{ks:kB}{k:List Int}:cq ks k=hQ↔k∈ks:=by simp [cq]
set_option tactic.hygienic true in
def lI{ks:kB}(h:ks.Nodup)(k:List Int):(bS ks k).Nodup:=by
 unfold bS;split
 .exact h
 .rename_i hk;rw [nk] at hk;refine List.nodup_append.2 {h,by simp,?_};intro a d b c e;rw [eM] at c;exact hk (c▸e▸d)
theorem eX{d:Type}(k:List Int):∀(ks:kB) (vs:List d) (x:List Int),ks.length=vs.length->ay (cm ks k) (aW ks vs k) x=if k=x then hI else ay ks vs x
 |[],[],x,_=>by simp [cm,aW,ay]|a::ks,v::vs,x,h=>by
  have b:=eX k ks vs x (zx6 h);simp! [cm] at b;by_cases e:a=k
  .subst e;simp! [cm,aW,ay,g6,ne_eq,not_true_eq_false,decide_false,eH,if_false,if_true,b];split<;>simp_all
  .simp! [cm,aW,ay,g6,ne_eq,e,not_false_eq_true,decide_true,if_true,if_false];by_cases c:a=x
   .subst c;have:¬k=a:=λz=>e z.symm;simp [ay,this]
   .simp! [ay,c,if_false];exact b
theorem p8{b:Type}(k:List Int):∀(ks:kB) (vs:List b),ks.length=vs.length->(cm ks k).length=(aW ks vs k).length
 |[],[],_=>rfl|c::ks,v::vs,h=>by
  have a:=p8 k ks vs (zx6 h);simp! [cm] at a;by_cases e:c=k
  .simpa [cm,aW,e] using a
  .simpa [cm,aW,e] using a
theorem xJ{c:Type}:∀{ks:kB} {vs:List c} {i:Nat} {k:List Int} {q:c},ks.Nodup->ks[i]?=hG k->vs[i]?=hG q->ay ks vs k=hG q
 |[],_,_,_,_,_,h,_=>by simp at h|_::_,[],_,_,_,_,_,h=>by simp at h|d::ks,v::vs,0,k,q,_,a,b=>by simp! [List.getElem?_cons_zero,Option.some.injEq] at a b;simp [ay,a,b]|d::ks,v::vs,i+1,k,q,nd,a,b=>by simp! [List.getElem?_cons_succ] at a b;have e:=List.nodup_cons.1 nd;have:¬d=k:=λz=>e.1 (z▸a7 a);simp! [ay,this,if_false];exact xJ e.2 a b
theorem ua{a:Type}:∀{ks:kB} {vs:List a} {k:List Int} {q:a},ay ks vs k=hG q->q∈vs
 |[],_,_,_,h=>by simp [ay] at h|_::_,[],_,_,h=>by simp [ay] at h|b::ks,v::vs,k,q,h=>by
  simp! [ay] at h;split at h
  .cases h;exact dB ..
  .exact b0 _ (ua h)
set_option tactic.hygienic true in
theorem kK:∀(cs:List Int) (b:Nat) (m:Int) (pre:List Int),pre[b]?=hG m->(∀x∈pre,m<=x)->∃y,(pre++cs)[fN cs pre.length b m]?=hG y/\∀x∈pre++cs,y<=x
 |[],b,m,pre,d,e=>{m,by simpa [fN] using d,zx6 e}|c::cs,b,m,pre,d,e=>by
  have f:=(bV.1 d).1;simp! [fN];have hl:pre.length+1=(pre++[c]).length:=by simp
  split
  .rename_i g;have:=kK cs pre.length c (pre++[c]) (by simp) (λx a=>by
    simp! [List.mem_append,eM] at a;rcases a with a|a
    .have:=e x a;lia
    .lia)
   rw [<-hl] at this;simpa using this
  .rename_i g;have:=kK cs b m (pre++[c]) (by rw [fP f];exact d) (λx a=>by
    simp! [List.mem_append,eM] at a;rcases a with a|a
    .exact e x a
    .lia)
   rw [<-hl] at this;simpa using this
def El{cs:List Int}(h:cs≠[]):∃i y,A4 cs=hG i/\cs[i]?=hG y/\∀x∈cs,y<=x:=by
 cases cs with
 |nil=>exact absurd rfl h|cons c cs=>let(y,a,b):=kK cs 0 c [c] rfl (by simp);exact{_,y,rfl,a,b}
noncomputable abbrev val(q:Int×PV):PV:=.tup [.int q.1,q.2]
theorem pS:∀V:List (Int×PV),jc (V.map val)=hG (V.map (·.1))
 |[]=>rfl|q::V=>by simp! [a9,jc,pS V,Option.map_some]
def zY{ks:kB}{V:List (Int×PV)}(h:ks.length=V.length)(nd:ks.Nodup)(d:ks≠[]):∃k q,((A4 (V.map (·.1))).bind λx=>ks[x]?)=hG k/\ay ks V k=hG q/\∀x a,ay ks V x=hG a->q.1<=a.1:=by
 have e:V.map (·.1)≠[]:=by intro z;rw [List.map_eq_nil_iff] at z;rw [z] at h;exact d (List.eq_nil_of_length_eq_zero h)
 let(i,y,f,b,g):=El e;rw [dV,b4] at b;let(q,c,rfl):=b;have m:=(bV.1 c).1;have hk:ks[i]?=hG (ks[i]'(by lia)):=zzg _;refine{_,q,by rw [f];exact hk,xJ nd hk c,λx a j=>g _ (gI.2 {a,ua j,rfl})}
inductive Ji(E:k6)(s:List Int):List Int->Int->Prop
 |here:Ji E s s 0
 |go {u v:List Int} {d e:Int}:Ji E s u d->E u v e->Ji E s v (d+e)
noncomputable abbrev Ks:=List (List Int)
noncomputable abbrev Vs:=List (Int×PV)
def Kn(a:Ks)(b:Vs)(d:Ks)(e:Vs)(k:List Int)(c:Int):Prop:=(∃q,ay a b k=hG q/\q.1<=c)\/∃q,ay d e k=hG q/\q.1<=c
structure sx(E:k6)(O:List Int->Prop)(s:List Int)(kr:Ks)(Vr:Vs)(kw:Ks)(Vw:Vs)(X:k6)(n:Nat)(b:Int):Prop where
 lr:kr.length=Vr.length
 lw:kw.length=Vw.length
 nw:kw.Nodup
 HV:∀k q q',ay kr Vr k=hG q->ay kw Vw k=hG q'->False
 wr:∀k q,ay kr Vr k=hG q->O k/\Ji E s k q.1
 ww:∀k q,ay kw Vw k=hG q->O k/\Ji E s k q.1
 mono:∀k q k' q',ay kr Vr k=hG q->ay kw Vw k'=hG q'->q.1<=q'.1
 i5:∀u q,ay kr Vr u=hG q->∀v e,X u v e->Kn kr Vr kw Vw v (q.1+e)
 st:Kn kr Vr kw Vw s 0
 cw:kw.length<=n
 pre:∀k q,ay kr Vr k=hG q\/ay kw Vw k=hG q->(q.2=.aL/\k=s/\q.1=0)\/∃y q' e,q.2=cg y/\ay kr Vr y=hG q'/\E y k e/\q.1=q'.1+e
 bd:∀k q,ay kr Vr k=hG q\/ay kw Vw k=hG q->0<=q.1/\q.1<=b
 nr:kr.Nodup
def Kn.put{d:Ks}{f:Vs}{a:Ks}{b:Vs}(h:a.length=b.length){v:List Int}(j:∀q,ay a b v=hG q->c<=q.1){k:List Int}{x:Int}(H:Kn d f a b k x):Kn d f (bS a v) (bK a b v (c,p)) k x:=by
 rcases H with H|⟨q,g,i⟩
 .exact .inl H
 .refine .inr ?_;rw [bF h];by_cases e:v=k
  .subst e;exact{(c,p),if_pos rfl,Int.le_trans (j q g) i}
  .exact{q,by rw [if_neg e];exact g,i}
set_option tactic.hygienic true in
def sx.put{E:k6}{O:List Int->Prop}{s:List Int}{i:Ks}{j:Vs}{m:Ks}{p:Vs}{X:k6}{n:Nat}{b:Int}(M:sx E O s i j m p X n b){u v:List Int}{d e:Int}{p0:PV}(o:ay i j u=hG (d,p0))(hd:∀k q,ay i j k=hG q->q.1<=d)(he:E u v e)(D:0<e)(y:d+e<=b)(A:O v)
 (B:ay i j v=hI) (w:∀q,ay m p v=hG q->d+e<=q.1):sx E O s i j (bS m v) (bK m p v (d+e,cg u)) (λa b c=>X a b c\/a=u/\b=v/\c=e) (n+1) b where
 lr:=M.lr
 lw:=t9 M.lw _ _
 nw:=lI M.nw _
 HV:=λk q r f g=>by
  rw [bF M.lw] at g;split at g
  .rename_i z;subst z;rw [B] at f;cases f
  .exact M.HV k q r f g
 wr:=M.wr
 ww:=λk q h=>by
  rw [bF M.lw] at h;split at h
  .rename_i z;subst z;cases h;exact{A,.go (M.wr u _ o).2 he}
  .exact M.ww k q h
 mono:=λk q C r f g=>by
  rw [bF M.lw] at g;split at g
  .cases g;have:=hd k q f;show q.1<=d+e;lia
  .exact M.mono k q C r f g
 i5:=λa q f b c t=>by
  rcases t with t|⟨rfl,rfl,rfl⟩
  .exact(M.i5 a q f b c t).put M.lw w
  .rw [o] at f;cases f;exact .inr {(d+c,cg a),by rw [bF M.lw,if_pos rfl],Int.le_refl _}
 st:=M.st.put M.lw w
 cw:=by have:=zF m v;have:=M.cw;lia
 pre:=λk q h=>by
  rcases h with h|h
  .exact M.pre k q (.inl h)
  .rw [bF M.lw] at h;split at h
   .rename_i z;subst z;cases h;exact .inr {u,(d,p0),e,rfl,o,he,rfl}
   .exact M.pre k q (.inr h)
 bd:=λk q h=>by
  rcases h with h|h
  .exact M.bd k q (.inl h)
  .rw [bF M.lw] at h;split at h
   .cases h;have:=(M.bd u _ (.inl o)).1;exact{by show 0<=d+e;lia,y}
   .exact M.bd k q (.inr h)
 nr:=M.nr
def sx.keep{E:k6}{O:List Int->Prop}{s:List Int}{a:Ks}{c:Vs}{d:Ks}{f:Vs}{X Y:k6}{n m:Nat}{b g:Int}(M:sx E O s a c d f X n b)(hm:n<=m)(i:b<=g)(h:∀u q,ay a c u=hG q->∀v e,Y u v e->Kn a c d f v (q.1+e)):sx E O s a c d f Y m g:=
 {M.lr,M.lw,M.nw,M.HV,M.wr,M.ww,M.mono,h,M.st,ee M.cw hm,M.pre,λk q z=>{(M.bd k q z).1,Int.le_trans (M.bd k q z).2 i},M.nr}
def Kn.move{b:Ks}{g:Vs}{a:Ks}{d:Vs}(i:b.length=g.length)(j:a.length=d.length){k:List Int}{h:Int×PV}(m:ay a d k=hG h)(hk:ay b g k=hI){x:List Int}(H:Kn b g a d x c):Kn (bS b k) (bK b g k h) (cm a k) (aW a d k) x c:=by
 unfold Kn;rw [bF i,eX k a d x j];by_cases e:k=x
 .subst e;rcases H with⟨q,f,_⟩|⟨q,f,o⟩
  .rw [hk] at f;cases f
  .rw [m] at f;cases f;exact .inl {h,if_pos rfl,o}
 .simp! [e,if_false];exact H
set_option tactic.hygienic true in
def sx.move{E:k6}{O:List Int->Prop}{s:List Int}{f:Ks}{p:Vs}{d:Ks}{g:Vs}{n:Nat}{b:Int}(M:sx E O s f p d g E n b){k:List Int}{j:Int×PV}(r:ay d g k=hG j)(hl:∀x o,ay d g x=hG o->j.1<=o.1):
 sx E O s (bS f k) (bK f p k j) (cm d k) (aW d g k) (λa b c=>E a b c/\a≠k) n b/\ay (bS f k) (bK f p k j) k=hG j/\∀x q,ay (bS f k) (bK f p k j) x=hG q->q.1<=j.1:=by
 have hk:ay f p k=hI:=by
  cases h:ay f p k with
  |none=>rfl|some q=>exact(M.HV k q j h r).elim
 have t:∀x q,ay (bS f k) (bK f p k j) x=hG q\/ay (cm d k) (aW d g k) x=hG q->ay f p x=hG q\/ay d g x=hG q:=λx q h=>by
  rcases h with h|h
  .rw [bF M.lr] at h;split at h
   .rename_i z;subst z;cases h;exact .inr r
   .exact .inl h
  .rw [eX k d g x M.lw] at h;split at h
   .cases h
   .exact .inr h
 refine{?_,by rw [bF M.lr,if_pos rfl],λx q h=>?_}
 .refine{t9 M.lr _ _,p8 k d g M.lw,M.nw.filter _,λx q o i m=>?_,λx q h=>?_,λx q h=>?_,λx q w o i m=>?_,λu q i v e B=>?_,M.st.move M.lr M.lw r hk,ee (List.length_filter_le ..) M.cw,λx q h=>?_,λx q h=>M.bd x q (t x q h),lI M.nr _}
  .rw [bF M.lr] at i;rw [eX k d g x M.lw] at m;split at m
   .cases m
   .rename_i z;rw [if_neg z] at i;exact M.HV x q o i m
  .rw [bF M.lr] at h;split at h
   .rename_i z;subst z;cases h;exact M.ww k _ r
   .exact M.wr x q h
  .rw [eX k d g x M.lw] at h;split at h
   .cases h
   .exact M.ww x q h
  .rw [bF M.lr] at i;rw [eX k d g w M.lw] at m;split at m
   .cases m
   .split at i
    .cases i;exact hl w o m
    .exact M.mono x q w o i m
  .rw [bF M.lr,if_neg (λz=>B.2 z.symm)] at i;exact(M.i5 u q i v e B.1).move M.lr M.lw r hk
  .rcases M.pre x q (t x q h) with z|⟨y,o,e,C,A,D⟩
   .exact .inl z
   .refine .inr {y,o,e,C,?_,D};rw [bF M.lr,if_neg (λz=>by rw [<-z,hk] at A;cases A)];exact A
 .rw [bF M.lr] at h;split at h
  .cases h;exact Int.le_refl _
  .exact M.mono x q k j h r
def Mz{ks:Ks}{V:Vs}{k:List Int}{q:Int×PV}(h:ay ks V k=hG q):aZ (.bE ks (V.map val)) (cg k)=.ok (val q):=by show(Res.of (nF (cg k))).bind (λk=>Res.of (ay ks (V.map val) k))=_;rw [jh];show Res.of (ay ks (V.map val) k)=_;rw [nu,h];rfl
theorem DH{q:Int×PV}:aZ (val q) (.int 0)=.ok (.int q.1):=rfl
def Cr{ks:Ks}{vs:List PV}{k:List Int}:lV (cg k) (.bE ks vs)=.ok (.bl (!cq ks k)):=by show(Res.of (nF (cg k))).bind (λk=>Res.ok (PV.bl (!cq ks k)))=_;rw [jh];rfl
theorem SA{ks:Ks}{vs:List PV}:eE .len [.bE ks vs]=.ok (.int ks.length):=rfl
abbrev wS:Ss:=#v[.set 8 (.bin .add (.sub (.sub (.fY 2) (!5)) (¬0)) (!7)),.ite (.and (.cmp .sJ (!6) (.fY 2)) (.or (.cmp .sJ (!6) (.fY 3)) (.cmp .lt (!8) (.sub (.sub (.fY 3) (!6)) (¬0))))) #v[.put 3 (!6) (.tup #v[!8,!5])] .nil]
noncomputable abbrev u0(gn:Str)(ix:List Nat)(cp:List PV)(z:PV)(a:Ks)(b:Vs)(c:Ks)(d:Vs)(e f g h i:Ci.Slot):Sl:=[.val z,.fn gn ix cp,.own (.bE a (b.map val)),.own (.bE c (d.map val)),e,f,g,h,i]
def yu(a:Ks)(b:Vs)(v:List Int)(c:Int)(p:PV):bK a (b.map val) v (.tup [.int c,p])=(bK a b v (c,p)).map val:=p9 val a b v (c,p)
def PZ(F:aF){gn:Str}{z:PV}{E:k6}{O:List Int->Prop}{s:List Int}{f:Ks}{g:Vs}{i:Ks}{m:Vs}{X:k6}{n:Nat}{b:Int}(M:sx E O s f g i m X n b)(P:n<=3000){u v:List Int}{d e:Int}{p0:PV}(p:ay f g u=hG (d,p0))(hd:∀k q,ay f g k=hG q->q.1<=d)(he:E u v e)(C:0<e)(D:d+e<=b)(G:O v)(H Q R S:Ci.Slot):
 ∃I K T U V,(((Tg.two 6 7).put (tK (v,e)) (u0 gn ix cp z f g i m H (.val (cg u)) Q R S)).bind λW=>bj F wS W)=.ok (.nx (u0 gn ix cp z f g I K H (.val (cg u)) T U V))/\sx E O s f g I K (λa b c=>X a b c\/a=u/\b=v/\c=e) (n+1) b:=by
 have e1:=Mz p;have l:i.length<cV:=ef (ee M.cw P) (by decide);have t:=dA (vs:=g) v M.lr;have w:=dA (vs:=m) v M.lw
 cases o:ay f g v with
 |some q=>
  rw [o] at t;have r:cq f v=hQ:=t;refine{i,m,.val (cg v),.val (.int e),.val (.int (d+e)),by simp! only [wS,u0,e1,DH,Cr,r],M.keep (Nat.le_succ n) (Int.le_refl _) ?_}
  rintro a y j b c (B|⟨rfl,rfl,rfl⟩)
  .exact M.i5 a y j b c B
  .rw [p] at j;cases j;refine .inl {q,o,?_};have:=hd _ q o;show q.1<=d+c;lia
 |none=>
  rw [o] at t;have r:cq f v=hU:=t
  cases hw:ay i m v with
  |none=>rw [hw] at w;have A:cq i v=hU:=w;refine{_,_,.val (cg v),.val (.int e),.val (.int (d+e)),?_,M.put p hd he C D G o (λq h=>by rw [hw] at h;cases h)};simp! only [wS,u0,e1,DH,Cr,r,A,jh,l,yu]
  |some q=>
   rw [hw] at w;have A:cq i v=hQ:=w;have L:=Mz hw;by_cases N:d+e<q.1
   .refine{_,_,.val (cg v),.val (.int e),.val (.int (d+e)),?_,M.put p hd he C D G o (λy h=>by rw [hw] at h;cases h;lia)};simp! only [wS,u0,e1,L,DH,Cr,r,A,N,decide_true,jh,l,yu]
   .refine{i,m,.val (cg v),.val (.int e),.val (.int (d+e)),by simp! only [wS,u0,e1,L,DH,Cr,r,A,N,decide_false],M.keep (Nat.le_succ n) (Int.le_refl _) ?_}
    rintro a y j b c (B|⟨rfl,rfl,rfl⟩)
    .exact M.i5 a y j b c B
    .rw [p] at j;cases j;exact .inr {q,hw,by show q.1<=d+c;lia}
theorem IV(F:aF){gn:Str}{ix:List Nat}{cp:List PV}{z:PV}{E:k6}{O:List Int->Prop}{s:List Int}{b:Int}(w:∀u v e,E u v e->0<e/\e<=30/\O v){g:Ks}{h:Vs}{u:List Int}{d:Int}{p0:PV}(H:ay g h u=hG (d,p0))(hd:∀k q,ay g h k=hG q->q.1<=d)(P:d+30<=b)(y:Ci.Slot):
 ∀(T:List (List Int×Int)) (j:Ks) (m:Vs) (X:k6) (n:Nat) (o p r:Ci.Slot),(∀t∈T,E u t.1 t.2)->sx E O s g h j m X n b->n+T.length<=3000->∃I K Q R S,forL (λx env=>((Tg.two 6 7).put x env).bind λU=>bj F wS U) (T.map tK) (u0 gn ix cp z g h j m y (.val (cg u)) o p r)=.ok (.nx (u0 gn ix cp z g h I K y (.val (cg u)) Q R S))/\sx E O s g h I K (λa b c=>X a b c\/a=u/\(b,c)∈T) (n+T.length) b
 |[],j,m,X,n,o,p,r,_,M,_=>{j,m,o,p,r,rfl,M.keep (a8 _) (Int.le_refl _) (λa q B b c f=>M.i5 a q B b c (f.resolve_right λz=>by cases z.2))}
 |t::T,j,m,X,n,o,p,r,L,M,V=>by
  have A:=L t (dB ..);rw [cS] at V;let(M7,C,W,Y,Z,e1,M1):=PZ F (gn:=gn) (ix:=ix) (cp:=cp) (z:=z) M (by lia) H hd A (w _ _ _ A).1 (by have:=(w _ _ _ A).2.1;lia) (w _ _ _ A).2.2 y o p r;let(D,G,b6,b7,b8,e2,M2):=IV F w H hd P y T M7 C _ (n+1) W Y Z (λx f=>L x (b0 _ f)) M1 (by lia);refine{D,G,b6,b7,b8,?_,M2.keep (by rw [cS];lia) (Int.le_refl _) λa q B b c f=>M2.i5 a q B b c ?_}
  .rw [a9,forL,e1,Bc];exact e2
  .rcases f with f|⟨N,i⟩
   .exact .inl (.inl f)
   .rcases e9.1 i with i|i
    .exact .inl (.inr {N,by rw [<-i],by rw [<-i]})
    .exact .inr ⟨N,i⟩
abbrev Ea(U a:Ks):Nat:=(U.filter λx=>!cq a x).length
def FH{U a:Ks}{k:List Int}(hk:k∈U)(b:cq a k=hU):Ea U (bS a k)<Ea U a:=by
 have c:∀x,cq (bS a k) x=(cq a x||decide (x=k)):=by intro x;rw [Bool.eq_iff_iff,gd,nk,nk,zzN];unfold bS;rw [b];simp
 unfold Ea;simp! [c]
 induction U with
 |nil=>cases hk
 |cons y U d=>
  have mono:(U.filter λx=>!(cq a x||decide (x=k))).length<=(U.filter λx=>!cq a x).length:=by rw [<-List.countP_eq_length_filter,<-List.countP_eq_length_filter];refine List.countP_mono_left λx Z h=>?_;simp! [Bool.not_or,zza] at h;exact h.1
  rw [g6,g6];by_cases e:y=k
  .subst e;simp! [b,decide_true,Bool.or_true,Bool.not_true,eH,if_false,Bool.not_false,if_true,cS];lia
  .have:=d ((e9.1 hk).resolve_left λz=>e z.symm);simp! [e,decide_false,Bool.or_false];cases cq a y<;>simp! [Bool.not_true,Bool.not_false,eH,if_true,if_false,cS]<;>lia
abbrev wC:E:=.cmp .gt (.blt .len #v[.fY 3]) (¬0)
abbrev wB:Ss:=#v[.oX 5 3,.fR 2 3 5,.cL (.two 6 7) (.seq (.lC 1 #v[!5])) wS]
def Hq(F:aF){gn:Str}{ix:List Nat}{cp:List PV}{z:PV}{as:List Int->List PV}(Q:ix.head?=hG 1)(R:∀u,fE (cg u::cp) ix.tail=.ok (as u)){E:k6}{O:List Int->Prop}{s:List Int}{U:Ks}(S:∀u,O u->u∈U)(D3:U.length<=36)(V:∀u v e,E u v e->0<e/\e<=30/\O v)(W:∀u,O u->∃T:List (List Int×Int),F gn (as u)=.ok (.lst (T.map tK))/\T.length<=60/\∀v e,(v,e)∈T↔E u v e)
 {f:Ks} {g:Vs} {p:Ks} {r:Vs} (M:sx E O s f g p r E (1+60*f.length) (30*f.length)) (hc:f.length+Ea U f<=U.length) (X:p≠[]) (w Y C D G:Ci.Slot):
 ∃i H I K Z Mn Aq mw,bj F wB (u0 gn ix cp z f g p r w Y C D G)=.ok (.nx (u0 gn ix cp z i H I K w Z Mn Aq mw))/\sx E O s i H I K E (1+60*i.length) (30*i.length)/\i.length+Ea U i<=U.length/\Ea U i<Ea U f:=by
 let(k,q,h1,j,h3):=zY M.lw M.nw X;let(M1,h4,h5):=M.move j h3;let(L,_):=M.ww k q j
 have hk:cq f k=hU:=by
  rw [dA (vs:=g) k M.lr];cases h:ay f g k with
  |none=>rfl|some q'=>exact(M.HV k q' q h j).elim
 have hl:(bS f k).length=f.length+1:=by unfold bS;rw [hk];simp
 have cu:=FH (S k L) hk;let(T,e1,hT,o):=W k L;let(d,p0):=q;let(y,A,b6,b7,b8,N,M2):=IV F (gn:=gn) (ix:=ix) (cp:=cp) (z:=z) (b:=30*f.length+30) V h4 h5 (by have:=(M.bd k (d,p0) (.inr j)).2;show d+30<=_;lia) w T _ _ _ _ C D G (λt ht=>(o t.1 t.2).1 ht) (M1.keep (a8 _) (by lia) M1.i5) (by lia);refine{_,_,y,A,.val (cg k),b6,b7,b8,?_,M2.keep (by lia) (by lia) (λa q B b c P=>M2.i5 a q B b c ?_),by lia,cu}
 .have l:f.length<cV/\2≠3:={ef (m:=36) (by lia) (by decide),by decide};have gm:ay p (r.map val) k=hG (val (d,p0)):=by rw [nu,j];rfl
  have gp:bK f (g.map val) k (val (d,p0))=(bK f g k (d,p0)).map val:=p9 val f g k (d,p0);have B:=R k;simp! only [wS,u0] at N;simp! only [wB,wS,u0,pS,h1,jh,gm,l,and_self,nj,gp,Q,B,e1,N,ne_eq,not_false_eq_true]
 .by_cases e:a=k
  .subst e;exact .inr {rfl,(o b c).2 P}
  .exact .inl ⟨P,e⟩
theorem ye(F:aF){gn:Str}{z:PV}{as:List Int->List PV}(A:ix.head?=hG 1)(B:∀u,fE (cg u::cp) ix.tail=.ok (as u)){E:k6}{O:List Int->Prop}{s:List Int}{U:Ks}(C:∀u,O u->u∈U)(D:U.length<=36)(G:∀u v e,E u v e->0<e/\e<=30/\O v)(H:∀u,O u->∃T:List (List Int×Int),F gn (as u)=.ok (.lst (T.map tK))/\T.length<=60/\∀v e,(v,e)∈T↔E u v e)(c:Ci.Slot):
 ∀(n:Nat) (a:Ks) (d:Vs) (b:Ks) (f:Vs) (g i j k:Ci.Slot),sx E O s a d b f E (1+60*a.length) (30*a.length)->a.length+Ea U a<=U.length->Ea U a<n->∃p I K L N P Q,fv (aE F wC) (bj F wB) n (u0 gn ix cp z a d b f c g i j k)=.ok (.nx [.val z,.fn gn ix cp,.own (.bE p (I.map val)),K,c,L,N,P,Q])/\p.length<=36/\∃m,sx E O s p I [] [] E m 1080
 |0,_,_,_,_,_,_,_,_,_,_,h=>absurd h (Nat.not_lt_zero _)|n+1,a,d,b,f,g,i,j,k,M,R,hn=>by
  have o:aE F wC (u0 gn ix cp z a d b f c g i j k)=.ok (.bl (decide ((0:Int)<b.length))):=by simp! only [wC,u0,SA]
  by_cases hk:b=[]
  .subst hk;have S:f=[]:=List.eq_nil_of_length_eq_zero M.lw.symm;subst S;refine{a,d,.own (.bE [] []),g,i,j,k,?_,by lia,_,M.keep (a8 _) (by lia) M.i5};have:decide ((0:Int)<(([]:Ks).length:Nat))=hU:=rfl;rw [this] at o;simp! [fv,o,Bc,Qc,eH,if_false,u0];rfl
  .let(q,r,M7,t,V,W,X,Y,e1,M1,Kz,cu):=Hq F (gn:=gn) (z:=z) A B C D G H M R hk c g i j k;let(w,y,Z,u5,u6,u7,u8,e2,h2):=ye F (gn:=gn) (z:=z) A B C D G H c n q r M7 t V W X Y M1 Kz (by lia);refine{w,y,Z,u5,u6,u7,u8,?_,h2};have:decide ((0:Int)<(b.length:Nat))=hQ:=by have:=List.length_pos_iff.2 hk;simp;lia
   rw [this] at o;simp! [fv,o,Bc,Qc,if_true,e1,e2]
structure qB(E:k6)(s:List Int)(kr:Ks)(Vr:Vs):Prop where
 len:kr.length=Vr.length
 le:kr.length<=36
 PX:∀k q,ay kr Vr k=hG q->k.length=2/\Ji E s k q.1
 i5:∀u q,ay kr Vr u=hG q->∀v e,E u v e->∃q',ay kr Vr v=hG q'/\q'.1<=q.1+e
 st:∃q,ay kr Vr s=hG q/\q.1<=0
 pre:∀k q,ay kr Vr k=hG q->(q.2=.aL/\k=s/\q.1=0)\/∃y q' e,q.2=cg y/\ay kr Vr y=hG q'/\E y k e/\q.1=q'.1+e
 bd:∀k q,ay kr Vr k=hG q->0<=q.1/\q.1<=1080
 nr:kr.Nodup
abbrev HU(gn:Str)(ix:List Nat):Def:={["starts","steps",zu 14,"waiting","start","spot","other","cost","together"],2,(.cons (.ng 2)
 (.cons (.ng 3)
 (.cons (.cL (.one 4) (.seq (.var 0))
  (.cons (.put 3 (.var 4) (.tup (.cons (.cst (.int 0)) (.cons (.cst .aL) .nil))))
  .nil))
 (.cons (.IU (.cmp .gt (.blt .len (.cons (.fY 3) .nil)) (.cst (.int 0)))
  (.cons (.oX 5 3)
  (.cons (.fR 2 3 5)
  (.cons (.cL (.two 6 7) (.seq (.lC 1 (.cons (.var 5) .nil)))
   (.cons (.set 8 (.bin .add (.sub (.sub (.fY 2) (.var 5)) (.cst (.int 0))) (.var 7)))
   (.cons (.ite (.and (.cmp .sJ (.var 6) (.fY 2)) (.or (.cmp .sJ (.var 6) (.fY 3)) (.cmp .lt (.var 8) (.sub (.sub (.fY 3) (.var 6)) (.cst (.int 0))))))
    (.cons (.put 3 (.var 6) (.tup (.cons (.var 8) (.cons (.var 5) .nil))))
    .nil)
    .nil)
   .nil)))
  .nil))))
 (.cons (.bw 2)
 (.cons (.ret (.var 2))
 .nil)))))),hG (gn,ix)}
set_option tactic.hygienic true in
def Aw(F:aF)(gn:Str){as:List Int->List PV}(j:ix.head?=hG 1)(o:∀u,fE (cg u::cp) ix.tail=.ok (as u)){E:k6}{O:List Int->Prop}{s:List Int}{U:Ks}(r:∀u,O u->u∈U)(i:U.length<=36)(t:∀u,O u->u.length=2)(w:∀u v e,E u v e->0<e/\e<=30/\O v)(y:∀u,O u->∃T:List (List Int×Int),F gn (as u)=.ok (.lst (T.map tK))/\T.length<=60/\∀v e,(v,e)∈T↔E u v e)(hs:O s):
 ∃b d,aH F (HU gn ix) (.lst [cg s]::cp)=.ok (.bE b (d.map val))/\qB E s b d:=by
 have g:∀x q,ay [s] [((0:Int),PV.aL)] x=hG q->s=x/\q=(0,.aL):=λx q h=>by
  simp! [ay] at h;split at h
  .rename_i z;cases h;exact⟨z,rfl⟩
  .cases h
 have M:sx E O s [] [] [s] [(0,.aL)] E (1+60*([]:Ks).length) (30*(([]:Ks).length:Nat)):={rfl,rfl,by simp,(λk q f h=>by simp [ay] at h),(λk q h=>by simp [ay] at h),(λk q h=>by let(rfl,rfl):=g k q h;exact{hs,.here}),(λk q H f h=>by simp [ay] at h),(λu q h=>by simp [ay] at h),.inr {(0,.aL),by simp [ay],Int.le_refl _},by simp,(λk q h=>h.elim (λh=>by simp [ay] at h) λh=>by let(z,rfl):=g k q h;exact .inl ⟨rfl,z.symm,rfl⟩),(λk q h=>h.elim (λh=>by simp [ay] at h) λh=>by let(_,rfl):=g k q h;exact{Int.le_refl _,Int.le_refl _}),List.nodup_nil};have hl:Ea U []<=U.length:=List.length_filter_le ..;let(b,d,I,K,L,N,P,e,A,m,a):=ye F (gn:=gn) (z:=.lst [cg s]) j o r i w y (.val (cg s)) WN [] [] [s] [(0,.aL)] .no .no .no .no M (zx6 hl) (ef (ee hl i) (by decide));refine{b,d,?_,a.lr,A,λk q h=>{t k (a.wr k q h).1,(a.wr k q h).2},λu q h v c B=>?_,?_,?_,?_,?_}
 .have l:(0:Nat)<cV:=by decide
  have C:bS [] s=[s]:=rfl;have D:∀p:PV,bK ([]:Ks) [] s p=[p]:=λp=>rfl;have a2:List.take 1 (PV.lst [cg s]::cp)=[.lst [cg s]]:=rfl;have G:List.drop 1 (PV.lst [cg s]::cp)=cp:=rfl;simp! only [wC,wB,wS,u0] at e;simp! only [HU,a2,G,forL,jh,l,C,D,e,JX];exact if_pos rfl
 .rcases a.i5 u q h v c B with h|⟨f,h,_⟩
  .exact h
  .simp [ay] at h
 .rcases a.st with h|⟨f,h,_⟩
  .exact h
  .simp [ay] at h
 .exact λk q h=>a.pre k q (.inl h)
 .exact λk q h=>a.bd k q (.inl h)
 .exact a.nr
theorem rC:∀{a b:List Int},HT.lexLt a b=hQ->HT.lexLt b a=hU
 |[],[],h=>by cases h
 |[],_::_,_=>rfl|_::_,[],h=>by cases h
 |x::a,y::b,h=>by
  simp! [HT.lexLt] at h⊢;split at h
  .subst x;rw [if_pos rfl];exact rC h
  .have h:=zzY h;rw [if_neg (by lia)];exact zz0 (by lia)
def Cg(a:List Int):HT.lexLt a a=hU:=by
 cases h:HT.lexLt a a with
 |false=>rfl|true=>have:=rC h;rw [h] at this;exact this
noncomputable abbrev Ur(L:Ks):Prop:=L.Pairwise λa b=>HT.lexLt a b=hQ
theorem yK:∀{L M:Ks},Ur L->Ur M->(∀x,x∈L↔x∈M)->L=M
 |[],[],_,_,_=>rfl|[],y::M,_,_,h=>absurd ((h y).2 (dB ..)) (by simp)|x::L,[],_,_,h=>absurd ((h x).1 (dB ..)) (by simp)|x::L,y::M,d,f,h=>by
  have b:=List.pairwise_cons.1 d;have c:=List.pairwise_cons.1 f
  have e:x=y:=by
   rcases e9.1 ((h x).1 (dB ..)) with z|z
   .exact z
   .rcases e9.1 ((h y).2 (dB ..)) with w|w
    .exact w.symm
    .have:=rC (c.1 x z);rw [b.1 y w] at this;cases this
  subst e;rw [yK b.2 c.2 λz=>?_];constructor
  .intro a;rcases e9.1 ((h z).1 (b0 _ a)) with w|w
   .subst w;have:=b.1 z a;rw [Cg] at this;cases this
   .exact w
  .intro a;rcases e9.1 ((h z).2 (b0 _ a)) with w|w
   .subst w;have:=c.1 z a;rw [Cg] at this;cases this
   .exact w
def Rb(a:List Str)(u:List Int):Prop:=∃r c,u=[r,c]/\da a r c=hQ
abbrev Rn:Ks:=(List.range 6).flatMap λ(r:Nat)=>(List.range 6).map λ(c:Nat)=>[(r:Int),(c:Int)]
def Ht:Rn.length=36:=by decide
def XJ{f:List Str}{w:Nat}(L:Fl f w){u:List Int}(h:Rb f u):u∈Rn:=by let(r,c,rfl,h):=h;let(a,b,d,e):=Iw L h;refine List.mem_flatMap.2 {r.toNat,List.mem_range.2 (by lia),gI.2 {c.toNat,List.mem_range.2 (by lia),?_}};rw [Int.toNat_of_nonneg a,Int.toNat_of_nonneg d]
def js{g:List Str}{i:Bool}{k d f e:Int}:eJ g i cl k r c d f=hG e↔¬qW r c d f/\(r≠d/\c≠f->i=hQ/\da g r f=hQ/\da g d c=hQ)/\d8 g d f-d8 g r c<=cl/\d8 g r c-d8 g d f<=cl/\e=(if r≠d/\c≠f then 3 else 2)+k*(if d8 g d f-d8 g r c>0 then d8 g d f-d8 g r c else 0):=by
 unfold eJ;by_cases j:qW r c d f
 .rw [if_pos (show(r=d/\c=f)\/1<r-d\/1<d-r\/1<c-f\/1<f-c from j)];exact{(λz=>by cases z),λz=>absurd j z.1}
 .have o:¬((r=d/\c=f)\/1<r-d\/1<d-r\/1<c-f\/1<f-c):=j;rw [if_neg o];by_cases h:(r≠d/\c≠f)/\¬(i=hQ/\da g r f=hQ/\da g d c=hQ)
  .rw [if_pos h];exact{(λz=>by cases z),λz=>absurd (z.2.1 h.1) h.2}
  .rw [if_neg h];have p:r≠d/\c≠f->i=hQ/\da g r f=hQ/\da g d c=hQ:=λa=>Classical.byContradiction λb=>h ⟨a,b⟩;by_cases m:cl<d8 g d f-d8 g r c\/cl<d8 g r c-d8 g d f
   .rw [if_pos m];exact{(λz=>by cases z),λz=>by lia}
   .rw [if_neg m];refine{λz=>{j,p,by lia,by lia,by cases z;rfl},λz=>by rw [z.2.2.2.2]}
def Bp{g:List Str}{i:Bool}{j:Int}{u v:List Int}{e:Int}(h:E1 g i cl j u v e):∃k,E1 g i cl j v u k:=by
 let(r,c,m,o,p,q,s,t,f):=h;rw [js] at f;refine{_,m,o,r,c,q,p,t,s,js.2 {?_,λz=>?_,f.2.2.2.1,f.2.2.1,rfl}}
 .have:=f.1;unfold qW at this⊢;lia
 .let(a,b,d):=f.2.1 {λx=>z.1 x.symm,λx=>z.2 x.symm};exact⟨a,d,b⟩
def HY{a:List Str}{w:Nat}(L:Fl a w){p:Bool}{g:Int}(V:Wk cl g){u v:List Int}{e:Int}(h:E1 a p cl g u v e):0<e/\e<=30/\Rb a v:=by
 let(r,c,b,d,t,q,s,j,k):=h;rw [js] at k;let(_,_,_,_,_,y,z):=vU L s;let(_,_,_,_,_,m1,m2):=vU L j;have p0:=V.p0;have p4:=V.p4;have o:=k.2.2.2.2;generalize hm:(if d8 a b d-d8 a r c>0 then d8 a b d-d8 a r c else 0)=m at o;have i:0<=m/\m<=9:=by rw [<-hm];split<;>lia
 generalize hf:(if r≠b/\c≠d then(3:Int) else 2)=f at o;have A:2<=f/\f<=3:=by rw [<-hf];split<;>lia
 have B:=Int.mul_nonneg p0 i.1;have a2:g*m<=3*9:=Int.mul_le_mul (by lia) i.2 i.1 (by lia);exact{by lia,by lia,b,d,q,j}
def Et(a:List Str)(b:Bool)(cl c:Int)(u v:List Int)(e:Int):Prop:=E1 a b cl c v u e
def sS(f:List PV->Res PV):Prop:=∀a w,Fl a w->∀d cl b,Wk cl b->∀r c,da a r c=hQ->∃T:List (List Int×Int),f [fl a,wk d cl b,cg [r,c]]=.ok (.lst (T.map tK))/\T.length<=9/\∀v e,(v,e)∈T↔Et a d cl b [r,c] v e
def qD(F:aF):Prop:=sS (F (zu 41))
def HC(f:List PV->Res PV):Prop:=∀a w,Fl a w->∀d cl b,Wk cl b->∀r c,da a r c=hQ->∃e g,f [.lst [sp r c],wk d cl b,fl a]=.ok (.bE e (g.map val))/\qB (Et a d cl b) [r,c] e g
def Jd(F:aF):Prop:=HC (F (zu 44))
def wL(F:aF)(hs:qC F)(y:vy F):sS (aH F dU):=by
 intro f w L i cl j V r c h;let(T,e1,hl,u):=hs f w L i cl j V r c h;have k:∀t∈T,∃e,Et f i cl j [r,c] t.1 e/\F (zu 17) [fl f,wk i cl j,cg t.1,cg [r,c]]=.ok (.int e):=λt m=>by let(o,d):=Bp ((u t.1 t.2).1 m);refine{o,d,?_};let(a,b,A,B,C,D,E,G,H):=d;cases D;have:=y f w L i cl j V a b r c E G;rw [H] at this;rw [C];exact this
 let q:List Int->Int:=λv=>match v with
  |[a,b]=>(eJ f i cl j a b r c).getD 0|_=>0
 have s:∀v e,Et f i cl j [r,c] v e->q v=e:=by
  rintro v e ⟨a,b,A,B,rfl,I,_,_,g⟩
  cases I;show(eJ f i cl j a b r c).getD 0=e;rw [g];rfl
 refine{T.map λt=>(t.1,q t.1),?_,zx6 hl,λv e=>?_}
 .have l:T.length<cV:=ef hl (by decide);have K:∀t:List Int×Int,aZ (tK t) (.int 0)=.ok (cg t.1):=λt=>rfl;simp! only [dU,e1,zzl,l];rw [kM (p:=tK) (g:=λt=>tK (t.1,q t.1)) (λt m=>by let(e,d,M):=k t m;simp! only [K,M,s _ _ d])];simp! only [List.map_map];rfl
 .rw [gI];constructor
  .rintro ⟨t,m,z⟩
   cases z;let(e,d,_):=k t m;rw [s _ _ d];exact d
  .intro d;let(o,N):=Bp d;exact{(v,o),(u v o).2 N,by rw [s _ _ d]}
theorem Hb(F:aF)(hs:qD F):HC (aH F bx):=λd w L g cl i V r c h=>
 Aw F (zu 41) (ix:=[1,2,1,0]) (cp:=[wk g cl i,fl d]) (as:=λu=>[fl d,wk g cl i,cg u]) rfl (λZ=>rfl) (E:=Et d g cl i) (O:=Rb d) (s:=[r,c]) (U:=Rn) (λu f=>XJ L f) (Nat.le_of_eq Ht) (λu f=>by let(_,_,rfl,_):=f;rfl) (λu v e j=>{(HY L V j).1,(HY L V j).2.1,by let(a,b,_,_,k,_,m,_):=j;exact⟨a,b,k,m⟩})
  (λu f=>by let(a,b,rfl,o):=f;let(T,e,hl,p):=hs d w L g cl i V a b o;exact{T,e,by lia,p}) ⟨r,c,rfl,h⟩
def u4(F:aF)(i:qz F)(hs:Jd F){a:List Str}{w:Nat}(L:Fl a w){g:Bool}{b:Int}(V:Wk cl b)(h:da a r c=hQ):∃d f,aH F dy [fl a,wk g cl b,.lst [sp r c]]=.ok (.bE d (f.map val))/\qB (Et a g cl b) [r,c] d f:=by let(d,f,e,R):=hs a w L g cl b V r c h;exact{d,f,by simp! only [dy,forL,i a L.o8 r c h,mf,e],R}
def wy{E:k6}{s:List Int}{a:Ks}{b:Vs}(R:qB E s a b){k:List Int}(h:Ji E s k c):∃q,ay a b k=hG q/\q.1<=c:=by
 induction h with
 |here=>exact R.st|go _ he d=>let(q,e,i):=d;let(f,g,j):=R.i5 _ q e _ _ he;exact{f,g,by lia}
abbrev Hf(z:Str)(j x:Nat):Str:={(z.cps.toList.set j x).toArray}
abbrev kG(a:List Str)(i j x:Nat):List Str:=a.set i (Hf (a.getD i "") j x)
def vw(x:Nat):Prop:=x=35\/(48<=x/\x<=57)
def oe(a:List Str)(i j x:Nat):(kG a i j x).length=a.length:=List.length_set
def Pp{b:List Str}{w:Nat}(L:Fl b w)(i j:Nat){x:Nat}(k:vw x):Fl (kG b i j x) w:=by
 have c:∀z∈kG b i j x,z.length=w/\∀y∈z.cps.toList,y=35\/(48<=y/\y<=57):=λz a=>by
  by_cases d:i<b.length
  .have e:b.getD i ""=b[i]:=by simp [cP,zzg d]
   have hm:=List.getElem_mem d
   unfold kG at a;rw [e] at a;rcases List.mem_or_eq_of_mem_set a with h|h
   .exact{L.o5 z h,L.dig z h}
   .subst h;refine{?_,λy m=>?_}
    .rw [<-L.o5 _ hm];show((b[i]).cps.toList.set j x).toArray.size=(b[i]).cps.size;simp
    .rcases List.mem_or_eq_of_mem_set (show y∈(b[i]).cps.toList.set j x from by simpa [Hf] using m) with g|g
     .exact L.dig _ hm y g
     .rw [g];exact k
  .unfold kG at a;rw [List.set_eq_of_length_le (by lia)] at a;exact{L.o5 z a,L.dig z a}
 have o:w<=6:=by have f:=L.o8.2 _ (List.getElem_mem L.ne);rw [L.o5 _ (List.getElem_mem L.ne)] at f;exact f
 refine{{by rw [oe];exact L.o8.1,λz a=>by rw [(c z a).1];exact o},by rw [oe];exact L.ne,L.w1,λz a=>(c z a).1,λz a=>(c z a).2}
def HP(c:List Str)(i j x a b:Nat):cd (kG c i j x) a b=if a=i/\b=j then(cd c a b).map (λZ=>x) else cd c a b:=by
 unfold cd kG;rw [List.getElem?_set];by_cases f:i=a
 .subst f;by_cases d:i<c.length
  .have e:c.getD i ""=c[i]:=by simp [cP,zzg d]
   rw [if_pos rfl,if_pos d,e,zzg d];show(Hf c[i] j x).cps.toList[b]?=_;unfold Hf;show((c[i]).cps.toList.set j x)[b]?=_;rw [List.getElem?_set];by_cases g:j=b
   .subst g;rw [if_pos (show i=i/\j=j from⟨rfl,rfl⟩),if_pos (show j=j from rfl)];show _=((c[i]).cps.toList[j]?).map _;by_cases h:j<(c[i]).cps.toList.length
    .rw [if_pos h,zzg h];rfl
    .rw [if_neg h,List.getElem?_eq_none (by lia)];rfl
   .rw [if_neg g,if_neg (λz=>g z.2.symm)];rfl
  .rw [if_pos rfl,if_neg d,List.getElem?_eq_none (by lia)];split<;>rfl
 .rw [if_neg f,if_neg (λz=>f z.1.symm)]
def uX{c d:List Str}(hl:c.length=d.length)(h:∀a b,cd c a b=cd d a b):c=d:=by
 refine List.ext_getElem? λa=>?_;by_cases f:a<c.length
 .have g:a<d.length:=by lia
  rw [zzg f,zzg g];have e:∀b,(c[a]).cps.toList[b]?=(d[a]).cps.toList[b]?:=λb=>by have:=h a b;unfold cd at this;rw [zzg f,zzg g] at this;exact this
  have j:=List.ext_getElem? e;have i:(c[a]).cps=(d[a]).cps:=Array.toList_inj.1 j
  congr 1
  cases k:c[a] with
  |mk x=>
   cases m:d[a] with
   |mk y=>rw [k,m] at i;exact congrArg Str.mk i
 .rw [List.getElem?_eq_none (by lia),List.getElem?_eq_none (by lia)]
noncomputable abbrev Pt:=(Nat×Nat)×Nat
abbrev pt(a:List Str)(P:List Pt):List Str:=P.foldl (λR q=>kG R q.1.1 q.1.2 q.2) a
theorem lh:∀(P:List Pt) (a:List Str),(pt a P).length=a.length
 |[],_=>rfl|q::P,a=>(lh P _).trans (oe _ _ _ _)
theorem tm(a b:Nat):∀(P:List Pt) (c:List Str),(P.map (·.1)).Nodup->cd (pt c P) a b=(cd c a b).map λv=>(P.lookup (a,b)).getD v
 |[],c,_=>by show cd c a b=_;cases cd c a b<;>rfl
 |q::P,c,nd=>by
  rw [a9,List.nodup_cons] at nd;show cd (pt (kG c q.1.1 q.1.2 q.2) P) a b=_;rw [tm a b P _ nd.2,HP,hB];by_cases h:a=q.1.1/\b=q.1.2
  .have e:(a,b)=q.1:=by rw [h.1,h.2]
   rw [if_pos h,e,beq_self_eq_true];have no:P.lookup q.1=hI:=by rw [List.lookup_eq_none_iff];intro y d;exact bne_iff_ne.mpr λz=>nd.1 (by rw [z];exact List.mem_map_of_mem d)
   rw [no];cases cd c a b<;>rfl
  .have e:((a,b)==q.1)=hU:=beq_eq_false_iff_ne.mpr λz=>h {by rw [<-z],by rw [<-z]};rw [if_neg h,e]
def lookup_mem{P:List Pt}(nd:(P.map (·.1)).Nodup){k:Nat×Nat}{x:Nat}:P.lookup k=hG x↔(k,x)∈P:=by
 induction P with
 |nil=>simp|cons q P a=>
  rw [a9,List.nodup_cons] at nd;rw [hB];by_cases h:k=q.1
  .subst h;rw [beq_self_eq_true];constructor
   .intro z;cases z;exact dB
   .intro z;rcases e9.mp z with y|y
    .rw [<-y]
    .exact absurd (List.mem_map_of_mem (f:=(·.1)) y) nd.1
  .rw [beq_eq_false_iff_ne.mpr h];show P.lookup k=hG x↔_;rw [a nd.2];constructor
   .exact λz=>b0 _ z
   .intro z;rcases e9.mp z with y|y
    .exact absurd (by rw [<-y]) h
    .exact y
def v7{P Q:List Pt}(a:(P.map (·.1)).Nodup)(b:(Q.map (·.1)).Nodup)(h:∀x,x∈P↔x∈Q)(k:Nat×Nat):P.lookup k=Q.lookup k:=by refine Option.ext λx=>?_;rw [lookup_mem a,lookup_mem b];exact h _
def L6{P Q:List Pt}(d:(P.map (·.1)).Nodup)(e:(Q.map (·.1)).Nodup)(h:∀x,x∈P↔x∈Q)(c:List Str):pt c P=pt c Q:=
 uX (by rw [lh,lh]) λa b=>by rw [tm a b P c d,tm a b Q c e,v7 d e h]
theorem GH{P B:List Pt}{c:List Str}(g:(P.map (·.1)).Nodup)(d:(B.map (·.1)).Nodup)(h:∀k x,(k,x)∈B->cd c k.1 k.2=hG x)(i:∀k,k∈P.map (·.1)->k∈B.map (·.1)):pt (pt c P) B=c:=
 uX (by rw [lh,lh]) λa b=>by
  rw [tm a b B _ d,tm a b P c g];cases e:B.lookup (a,b) with
  |some x=>have:=h _ _ ((lookup_mem d).1 e);dsimp only at this;rw [this];rfl|none=>
   have no:P.lookup (a,b)=hI:=by
    cases j:P.lookup (a,b) with
    |none=>rfl|some y=>have m:=i (a,b) (List.mem_map_of_mem (f:=(·.1)) ((lookup_mem g).1 j));let(q,o,p):=gI.mp m;have:=(lookup_mem d (k:=(a,b)) (x:=q.2)).2 (by rw [<-p];exact o);rw [e] at this;cases this
   rw [no];cases cd c a b<;>rfl
def Bj{a:Type}(xs:List a)(h:k<=xs.length):jY xs hI (hG (k:Int))=xs.take k:=by unfold jY;rw [HT.yC,HT.uY,List.drop_zero,Nat.min_eq_left h,Nat.sub_zero]
def Bi{a:Type}(xs:List a)(h:k<=xs.length):jY xs (hG (k:Int)) hI=xs.drop k:=by unfold jY;rw [HT.yC,HT.uY,Nat.min_eq_left h];exact List.take_of_length_le (by simp)
def Mg(x:Nat)(h:j<z.length):Txt.slice z hI (hG (j:Int))++({#[x]}:Str)++Txt.slice z (hG ((j:Int)+1)) hI=Hf z j x:=by
 have e1:=Cw.Dw z j (by lia);have a:=Cw.Dv z (j+1) (by lia);have hl:j<z.cps.toList.length:=by rw [ey];exact h
 show Str.mk ((Txt.slice z hI (hG (j:Int))).cps++#[x]++(Txt.slice z (hG ((j:Int)+1)) hI).cps)=Hf z j x;unfold Hf
 congr 1
 apply Array.toList_inj.1;rw [List.set_eq_take_append_cons_drop,if_pos hl];simp! [Array.toList_append,e1,List.append_assoc,List.cons_append,List.nil_append]
 congr 2
theorem Xp{a b:Option Int}:fJ (.str z) a b=if z.length<=cV then .ok (.str (Txt.slice z a b)) else .bad:=rfl
theorem Xq{a b:Option Int}:fJ (.tup xs) a b=.ok (.tup (jY xs a b)):=rfl
theorem V3{y:Str}:binOp .add (.str x) (.str y)=if x.length+y.length<=cV then .ok (.str (x++y)) else .bad:=rfl
theorem V4{x y:List PV}:binOp .add (.tup x) (.tup y)=if x.length+y.length<=cV then .ok (.tup (x++y)) else .bad:=rfl
def DT(F:aF){c:List Str}{w:Nat}(L:Fl c w){i:Nat}(x:Nat)(d:i<c.length)(q:j<w):aH F dz [fl c,sp i j,.str {#[x]}]=.ok (fl (kG c i j x)):=by
 have r:(c[i]).length=w:=L.o5 _ (List.getElem_mem d);have s:(c[i]).length<=6:=L.o8.2 _ (List.getElem_mem d);have e1:aZ (fl c) (.int (i:Int))=.ok (.str c[i]):=rQ (zzg d);have a:=Txt.slice_le c[i] hI (hG (j:Int));have b:=Txt.slice_le c[i] (hG ((j:Int)+1)) hI;have t:cV=1000000:=rfl;have u:({#[x]}:Str).length=1:=rfl;have e:(c[i]).length<=cV:=by lia
 have f:(Txt.slice c[i] hI (hG (j:Int))).length+({#[x]}:Str).length<=cV:=by lia
 have g:(Txt.slice c[i] hI (hG (j:Int))++({#[x]}:Str)).length+(Txt.slice c[i] (hG ((j:Int)+1)) hI).length<=cV:=by rw [Str.length_append];lia
 have y:=L.o8.1;have hm:(c.map PV.str).length=c.length:=zzl _;have h:jY (c.map PV.str) hI (hG (i:Int))=(c.map .str).take i:=Bj _ (by lia);have t2:jY (c.map PV.str) (hG ((i:Int)+1)) hI=(c.map .str).drop (i+1):=by have:=Bi (c.map PV.str) (k:=i+1) (by lia);rw [Int.natCast_add,Int.natCast_one] at this;exact this
 have m:((c.map PV.str).take i).length+1<=cV:=by rw [List.length_take];lia
 have o:((c.map PV.str).take i++[PV.str (Hf c[i] j x)]).length+((c.map PV.str).drop (i+1)).length<=cV:=by simp;lia
 have p:fl (kG c i j x)=.tup (((c.map .str).take i++[.str (Hf c[i] j x)])++(c.map .str).drop (i+1)):=by unfold kG fl;rw [List.set_eq_take_append_cons_drop,if_pos d];simp [cP,zzg d,List.map_take,List.map_drop]
 rw [p];simp! only [dz,e1,Xp,Xq,V3,V4,if_pos e,if_pos f,if_pos g,Mg x (show j<(c[i]).length by lia),h,t2,if_pos m,if_pos o]
def Ls(F:aF)(hs:∀r c,F (zu 40) [sp r c]=.ok (.bl hQ))(b:∀a,pB a->∀r c,F (zu 7) [fl a,sp r c]=.ok (.bl (decide (0<=r)&&decide (0<=c)&&(cd a r.toNat c.toNat).isSome))){a:List Str}{w:Nat}(L:Fl a w){i:Nat}(d:i<a.length)(f:j<w):aH F bY [fl a,sp i j]=.ok .aL:=by let(x,g):=Im L d f;have e:=b a L.o8 i j;rw [g7,g7,g,zzh (Int.natCast_nonneg i),zzh (Int.natCast_nonneg j)] at e;have e:F (zu 7) [fl a,sp i j]=.ok (.bl hQ):=e;simp! only [bY,hs,e,Bool.not_true]
def zU(F:aF){x:Nat}(h:vw x):aH F eU [.str {#[x]}]=.ok (.bl hQ):=by
 have a:∀k:Fin 60,(k.1=35\/(48<=k.1/\k.1<=57))->(!(jj.Str.occurrences (zu 16:Str) ({#[k.1]}:Str) 0 (zu 16:Str).length 1).isEmpty)=hQ:=by decide+kernel
 have b:x<60:=by rcases h with z|z<;>lia
 have e:uL (.str {#[x]}) (.str (zu 16))=.ok (.bl hQ):=by show Res.ok (PV.bl (!(jj.Str.occurrences (zu 16:Str) ({#[x]}:Str) 0 (zu 16:Str).length 1).isEmpty))=_;rw [a ⟨x,b⟩ h]
 have c:eE .len [.str {#[x]}]=.ok (.int 1):=rfl;simp! only [eU,c,eI,e]
def uE(F:aF){x:Nat}(h:F "is_sign" [.str {#[x]}]=.ok (.bl hQ)):aH F dw [.str {#[x]}]=.ok .aL:=by simp! only [dw,h,Bool.not_true]
theorem pY{b:Type}{f:PV->Res (Option PV)}{body:PV->Sl->Res Ci.Fl}{mk:List PV->b->Sl}{M:Nat}:∀(xs ys a:List PV) (s:b),aY f xs=.ok ys->(∀x∈xs,∀o,f x=.ok o->∀a s,a.length+1<=M->∃s',body x (mk a s)=.ok (.nx (mk (a++o.toList) s')))->a.length+xs.length<=M->∃s',forL body xs (mk a s)=.ok (.nx (mk (a++ys) s'))
 |[],ys,a,s,h,_,_=>by cases h;exact{s,by simp [forL]}
 |x::xs,ys,a,s,h,d,hl=>by
  rw [cS] at hl;simp! [aY] at h;cases hf:f x with
  |bad=>rw [hf] at h;cases h
  |exc c=>rw [hf] at h;cases h
  |ok o=>
   rw [hf,PY,Bc] at h;let(zs,hz,h):=Res.aJ h;cases h;let(e,e1):=d x (dB ..) o hf a s (by lia);have k:o.toList.length<=1:=by cases o<;>simp
   let(g,i):=pY xs zs (a++o.toList) e hz (λy j=>d y (b0 _ j)) (by rw [c7];lia);refine{g,?_};simp! [forL,e1,Bc,i];cases o<;>simp [oc]
abbrev CC:Ss:=#v[.ite (.cmp .ne (!5) (.glob "WALL" (.str "#"))) #v[.app 1 (.tup #v[!2,!4])] .nil]
abbrev S6:Ss:=#v[.cL (.two 4 5) (.enum (!3)) CC]
theorem tR:∀{xs:List PV} {k:Nat} {x:PV},x∈bR k xs->∃(i:Nat) (y:PV),y∈xs/\x=.tup [.int (i:Int),y]
 |[],_,_,h=>by cases h
 |y::ys,k,x,h=>by
  simp! [bR,e9] at h;rcases h with h|h
  .exact{k,y,dB ..,h}
  .let(i,z,hz,e):=tR h;exact{i,z,b0 _ hz,e}
def CG(F:aF)(d:List Str)(R:pB d):∃L:List (Nat×Nat),aH F cT [fl d]=.ok (.lst (L.map bA))/\Up L/\L.length<=36/\∀r c,(r,c)∈L↔uP d r c=hQ:=by
 have Y:=R.1
 let(p,e,L,G,H,q,t,nd,hl,hm,rfl):=eW (body:=λx env=>((Tg.two 2 3).put x env).bind λp=>bj F S6 p) (P:=λi env=>∃(L:List (Nat×Nat)) (G H q t:Ci.Slot),Up L/\L.length<=6*i/\(∀r c,(r,c)∈L↔r<i/\uP d r c=hQ)/\env=[.val (fl d),.own (.lst (L.map bA)),G,H,q,t])
  (bR 0 (d.map .str)) 0 [.val (fl d),.own (.lst []),.no,.no,.no,.no] {[],_,_,_,_,w8,a8 _,(λr c=>by simp),rfl} (by
  intro i x env I Q;let(y,u,rfl):=qR I;let(L,G,H,q,t,nd,hl,hm,rfl):=Q;simp! [dV,b4] at u;let(z,j,rfl):=u;have Z:=R.2 z (a7 j);have hi:i<d.length:=(bV.1 j).1;have zc:z.cps.toList.length=z.length:=by simp [Str.length]
  let(M,S,T,lM,K):=m8 (f:=λx=>match x with|.tup [.int c,.str y]=>.ok (if y !="#" then hG (sp i c) else hI)|_=>.bad) (r:=i) (λc x=>by
   have:(({#[x]}:Str) !="#")=(x !=35):=by
    have U:(("#":Str))={#[35]}:=by decide+kernel
    rw [U,bne,bne,Bool.eq_iff_iff];simp
   simp! [this]) z.cps.toList 0
  let(N,e):=pY (body:=λx env=>((Tg.two 4 5).put x env).bind λp=>bj F CC p) (mk:=λg (s:Ci.Slot×Ci.Slot)=>[.val (fl d),.own (.lst g),.val (.int i),.val (.str z),s.1,s.2]) (M:=100) _ _ (L.map bA) (q,t) S (λx I o A g s hl=>by
   let(c,y,u,rfl):=tR I;let(v,_,rfl):=gI.1 u;have l:g.length<cV:=ef (m:=100) (by lia) (by decide);refine{(.val (.int c),.val (.str {#[v]})),?_};have B:iU (.str {#[v]}) (.str "#")=.ok (.bl (({#[v]}:Str) !="#")):=rfl
   cases C:((⟨#[v]⟩:Str) !="#") with
   |true=>rw [C] at B;simp! [C,if_true] at A;cases A;simp! only [CC,B,l,Option.toList_some]
   |false=>rw [C] at B;simp! [C,eH,if_false] at A;cases A;simp! only [CC,B,Option.toList_none,hD]) (by rw [cI,zzl,zzl];lia)
  refine{[.val (fl d),.own (.lst ((L++M).map bA)),.val (.int i),.val (.str z),N.1,N.2],?_,L++M,_,_,_,_,List.pairwise_append.2 {nd,T,λa V b W=>SI (.inl (by have O:=((hm a.1 a.2).1 V).1;have k:=((K b.1 b.2).1 W).1;lia))},?_,?_,rfl}
  .rw [show(z.cps.toList.map λx=>PV.str {#[x]})=chars z from rfl] at e;simp! only [CC] at e;simp! only [S6,CC,Nat.zero_add,e,List.map_append]
  .simp! [c7];lia
  .intro r c;rw [List.mem_append,hm,K,mI];constructor
   .rintro (⟨O,k⟩|⟨rfl,_,x,D,E⟩)
    .exact{by lia,k}
    .exact{by lia,z,j,x,D,E}
   .rintro ⟨O,w,k,x,D,E⟩
    by_cases X:r=i
    .subst X;rw [j] at k;cases k;exact .inr {rfl,Nat.zero_le _,x,D,E}
    .exact .inl {by lia,w,k,x,D,E})
 refine{L,?_,nd,(by rw [cI,zzl] at hl;lia),λr c=>?_}
 .simp! only [S6,CC] at e;simp! only [cT,e,JX]
 .rw [hm];refine{λh=>h.2,λh=>{?_,h}};let(z,j,_):=mI.1 h;have:=(bV.1 j).1;rw [cI,zzl];lia
def MJ{L M:List (Nat×Nat)}(b:Up L)(c:Up M)(h:∀x,x∈L↔x∈M):L=M:=by
 have inj:∀{p q:Nat×Nat},kN p=kN q->p=q:=λ{p q} e=>by simp! [kN,List.cons.injEq,and_true] at e;exact Prod.ext (by lia) (by lia)
 have e:L.map kN=M.map kN:=yK (List.pairwise_map.mpr b) (List.pairwise_map.mpr c) λx=>by
  rw [gI,gI];constructor
  .rintro ⟨p,a,rfl⟩;exact{p,(h p).1 a,rfl}
  .rintro ⟨p,a,rfl⟩;exact{p,(h p).2 a,rfl}
 exact(List.map_inj_right λp q z=>inj z).1 e
abbrev dv(a:Ks)(b:Vs)(k:List Int):PV:=match ay a b k with
 |some q=>.int q.1|none=>.aL
def Bo{E:k6}{s:List Int}{b c:Ks}{e f:Vs}(R:qB E s b e)(d:qB E s c f)(k:List Int):dv b e k=dv c f k/\cq b k=cq c k:=by
 rw [dA k R.len,dA k d.len];unfold dv;cases h:ay b e k with
 |some q=>let(g,a,m):=wy d (R.PX k q h).2;let(o,i,p):=wy R (d.PX k g a).2;rw [h] at i;cases i;rw [a];exact{congrArg PV.int (by lia),rfl}
 |none=>
  cases j:ay c f k with
  |none=>exact⟨rfl,rfl⟩|some g=>let(q,a,_):=wy R (d.PX k g j).2;rw [h] at a;cases a
abbrev cut(L:List (Nat×Nat))(a:Ks):PV:=.lst ((L.filter λp=>!cq a (kN p)).map bA)
abbrev tv(b:List Str)(L:List (Nat×Nat))(a:Ks)(c:Vs):PV:=.tup [fl b,.lst (L.map λp=>dv a c (kN p)),cut L a]
structure HD(aa:List Str)(L:List (Nat×Nat)):Prop where
 up:Up L
 le:L.length<=36
 mem:∀r c,(r,c)∈L↔uP aa r c=hQ
def HD.eq{d:List Str}{L M:List (Nat×Nat)}(a:HD d L)(b:HD d M):L=M:=MJ a.up b.up λ⟨r,c⟩=>(a.mem r c).trans (b.mem r c).symm
def Bh{E:k6}{s:List Int}{a b:Ks}{c d:Vs}(R:qB E s a c)(e:qB E s b d)(L:List (Nat×Nat)):cut L a=cut L b:=by
 unfold cut;have:(λp:Nat×Nat=>!cq a (kN p))=λp=>!cq b (kN p):=funext λp=>by rw [(Bo R e (kN p)).2]
 rw [this]
noncomputable abbrev ks(a:List Str)(W b R:PV):OS:={zu 0,[("floor",fl a),(zu 24,W),("goal",b),(zu 14,R)]}
structure FF(F:aF):Prop where
 need:qz F
 VD:∀aa w,Fl aa w->∀sl cl pr,Wk cl pr->∀r c,da aa r c=hQ->∃kr Vr,F (zu 30) [fl aa,wk sl cl pr,.lst [sp r c]]=.ok (.bE kr (Vr.map val))/\qB (Et aa sl cl pr) [r,c] kr Vr
 IJ:∀aa,pB aa->∃L:List (Nat×Nat),F (zu 6) [fl aa]=.ok (.lst (L.map bA))/\HD aa L
 opens:∀aa,pB aa->∃L:List (Nat×Nat),F (zu 18) [fl aa]=.ok (.lst (L.map bA))/\HD aa L
 Xd:∀aa w,Fl aa w->∀i j:Nat,i<aa.length->j<w->F (zu 12) [fl aa,sp i j]=.ok .aL
 sgn:∀x,vw x->F (zu 36) [.str {#[x]}]=.ok .aL
 XN:∀aa w,Fl aa w->∀i j x:Nat,i<aa.length->j<w->F (zu 29) [fl aa,sp i j,.str {#[x]}]=.ok (fl (kG aa i j x))
 pick:i9 F
structure FK(F1:Sg->aF):Prop where
 f:∀s,FF (F1 s)
 g:∀s (n:Nat) aa W gl R,s[n]?=hG (ks aa W gl R)->F1 s (bW "floor") [.obj n]=.ok (fl aa)/\F1 s (bW (zu 24)) [.obj n]=.ok W/\F1 s (bW "goal") [.obj n]=.ok gl/\F1 s (bW (zu 14)) [.obj n]=.ok R
structure Kp(sl:Bool)(cl pr:Int)(a b w:Nat)(s:Sg)(n:Nat)(aa:List Str):Prop where
 L:Fl aa w
 V:Wk cl pr
 op:da aa a b=hQ
 at_:∃R,s[n]?=hG (ks aa (wk sl cl pr) (sp a b) R)/\(R=.aL\/∃kr Vr,R=.bE kr (Vr.map val)/\qB (Et aa sl cl pr) [(a:Int),(b:Int)] kr Vr)
section
variable{F1:Sg->aF}{F2:eT}{sl:Bool}{pr:Int}{a b w:Nat}{s:Sg}{n:Nat}{aa:List Str}
def zo{W c R:PV}(h:s[n]?=hG (ks aa W c R)):gY s n (zu 0)=hQ:=by unfold gY;rw [h];rfl
def Pf{W c R:PV}(h:s[n]?=hG (ks aa W c R)):my s n (zu 14) p=.ok () (s.set n (ks aa W c p)):=by unfold my;rw [h];rfl
def Pe{W c R:PV}{d:List Str}(h:s[n]?=hG (ks aa W c R)):my s n "floor" (fl d)=.ok () (s.set n (ks d W c R)):=by unfold my;rw [h];rfl
theorem iG{c d:Type}{x:c}{s:Sg}{f:c->Sg->Rs d}:(Rs.ok x s).bind f=f x s:=rfl
theorem yA{c:Type}{x:c}{s:Sg}:Rs.of (.ok x:Res c) s=.ok x s:=rfl
theorem QF{b:Bool}{s:Sg}:Qe (.bl b) s=.ok b s:=rfl
theorem sM{s:Sg}{k:Sl->Sg->Rs Ci.Fl}:Mp (.nx env) s k=k env s:=rfl
theorem Vy{s:Sg}{k:Sl->Sg->Rs Ci.Fl}:Mp (.rt p) s k=.ok (.rt p) s:=rfl
theorem W6{c:Ks}{vs:List PV}:uM (.bE c vs) .aL=.ok (.bl hU):=rfl
theorem W7:uM .aL .aL=.ok (.bl hQ):=rfl
set_option tactic.hygienic true in
def By(A:FK F1)(k:Kp sl cl pr a b w s n aa):∃c d,fu F1 F2 bQ [.obj n] s=.ok (.bE c (d.map val)) (s.set n (ks aa (wk sl cl pr) (sp a b) (.bE c (d.map val))))/\qB (Et aa sl cl pr) [(a:Int),(b:Int)] c d:=by
 let(R,h,i):=k.at_;let(p,q,r,o):=A.g s n aa _ _ R h
 rcases i with rfl|⟨c,d,rfl,i⟩
 .let(c,d,e,i):=(A.f s).VD aa w k.L sl cl pr k.V a b k.op;refine{c,d,?_,i};have j:(s.set n (ks aa (wk sl cl pr) (sp a b) (.bE c (d.map val))))[n]?=hG (ks aa (wk sl cl pr) (sp a b) (.bE c (d.map val))):=fi (bV.1 h).1;let(_,_,_,t):=A.g _ n aa _ _ _ j;dsimp! only [bQ,fu,og,aP,fO,vM,iG,yA,QF,sM,Vy,a9,List.map_nil,cS,List.length_nil,Nat.zero_add,p,q,r,o,W7,e,zo h,Pf h,t]
 .refine{c,d,?_,i};have j:s.set n (ks aa (wk sl cl pr) (sp a b) (.bE c (d.map val)))=s:=by
   refine List.ext_getElem? λm=>?_;rw [List.getElem?_set];split
   .rename_i z;subst z;rw [if_pos (bV.1 h).1];exact h.symm
   .rfl
  dsimp! only [bQ,fu,og,aP,fO,vM,iG,yA,QF,sM,Vy,a9,List.map_nil,cS,List.length_nil,Nat.zero_add,o,W6,j]
end
def Vd(e:Bool)(cl f:Int)(a b:Nat)(g:List Str)(R:PV):Prop:=R=.aL\/∃c d,R=.bE c (d.map val)/\qB (Et g e cl f) [(a:Int),(b:Int)] c d
def vj(c:Bool)(cl d:Int)(a b:Nat)(s:Sg)(n:Nat)(e:List Str)(s':Sg):Prop:=∃R,s'=s.set n (ks e (wk c cl d) (sp a b) R)/\Vd c cl d a b e R
section
variable{F1:Sg->aF}{F2:eT}{sl:Bool}{pr:Int}{a b w:Nat}{s:Sg}{n:Nat}{aa:List Str}
set_option tactic.hygienic true in
def set_same{x:OS}(h:s[n]?=hG x):s.set n x=s:=by
 refine List.ext_getElem? λm=>?_;rw [List.getElem?_set];split
 .rename_i z;subst z;rw [if_pos (bV.1 h).1];exact h.symm
 .rfl
def Kp.refl(k:Kp sl cl pr a b w s n aa):vj sl cl pr a b s n aa s:=by let(R,h,v):=k.at_;exact{R,(set_same h).symm,v}
def Kp.MP{s':Sg}(k:Kp sl cl pr a b w s n aa)(u:vj sl cl pr a b s n aa s'):Kp sl cl pr a b w s' n aa:=by let(R,rfl,v):=u;let(R0,h,_):=k.at_;exact{k.L,k.V,k.op,R,fi (bV.1 h).1,v}
def vj.trans{f c:List Str}{d e:Sg}(u:vj sl cl pr a b s n f d)(v:vj sl cl pr a b d n c e):vj sl cl pr a b s n c e:=by let(R,rfl,_):=u;let(R2,rfl,g):=v;exact{R2,by rw [List.set_set],g}
def QU(F2:eT)(sl:Bool)(cl pr:Int)(a b w:Nat):Prop:=∀s n aa,Kp sl cl pr a b w s n aa->∃c d,F2 (jw (zu 0) "found") [.obj n] s=.ok (.bE c (d.map val)) (s.set n (ks aa (wk sl cl pr) (sp a b) (.bE c (d.map val))))/\qB (Et aa sl cl pr) [(a:Int),(b:Int)] c d
theorem pR{f:PV->Res (Option PV)}{c:Nat×Nat->Bool}:∀{L:List (Nat×Nat)},(∀p∈L,f (bA p)=.ok (if c p then hG (bA p) else hI))->aY f (L.map bA)=.ok ((L.filter c).map bA)
 |[],_=>rfl|p::L,h=>by have e:=h p dB;have d:=pR (L:=L) λq g=>h q (b0 _ g);rw [a9];unfold aY;rw [e,d,g6];cases c p<;>rfl
def yi{aa:List Str}{r c:Nat}:da aa r c=uP aa r c:=by unfold da;rw [zzh (Int.natCast_nonneg r),zzh (Int.natCast_nonneg c),g7,g7];rfl
def FN{i:Nat}{W d R r:PV}{c:Sg}(h:s[n]?=hG (ks aa W d R))(he:env[i]?=hG (.val (.obj n)))(e:F2 (jw (zu 0) m) [.obj n] s=.ok r c):eV F1 F2 (.met (.var i) (zu 0) m .nil) env s=.ok r c:=by
 have e1:aE (F1 s) (.var i) env=.ok (.obj n):=by
  have:aE (F1 s) (.var i) env=gU env[i]?:=by unfold aE;rfl
  rw [this,he];rfl
 have f:bf (F1 s) .nil env=.ok []:=by unfold bf;rfl
 rw [eV,e1];show(if gY s n (zu 0)=hQ then(Rs.of (bf (F1 s) .nil env) s).bind (λg s=>F2 (jw (zu 0) m) (.obj n::g) s) else Rs.bad)=_;rw [if_pos (zo h),f];exact e
def zt(A:FK F1)(D:QU F2 sl cl pr a b w)(k:Kp sl cl pr a b w s n aa):∃L c d s',fu F1 F2 bt [.obj n] s=.ok (cut L c) s'/\HD aa L/\qB (Et aa sl cl pr) [(a:Int),(b:Int)] c d/\vj sl cl pr a b s n aa s':=by
 let(R,h,O):=k.at_;let(c,d,e,o):=D s n aa k;have u:vj sl cl pr a b s n aa (s.set n (ks aa (wk sl cl pr) (sp a b) (.bE c (d.map val)))):={_,rfl,.inr ⟨c,d,rfl,o⟩};have q:(s.set n (ks aa (wk sl cl pr) (sp a b) (.bE c (d.map val))))[n]?=hG (ks aa (wk sl cl pr) (sp a b) (.bE c (d.map val))):=fi (bV.1 h).1;generalize s.set n (ks aa (wk sl cl pr) (sp a b) (.bE c (d.map val)))=s1 at e u q;generalize r:F1 s1=G;let(z,_,_,_):=A.g _ n aa _ _ _ q;let(L,B,C):=(A.f s1).opens aa k.L.o8;rw [r] at z B;refine{L,c,d,_,?_,C,o,u};have hl:(L.map bA).length<cV:=by rw [zzl];have:=C.le;exact ef this (by decide)
 have E:aY (λx=>((Tg.one 0).put x ([.no]++[.val (.bE c (d.map val))])).bind λj=>(aE G (.cmp .sJ (.var 0) (.var 1)) j).bind λt=>sC t λt=>if t then(aE G (.var 0) j).bind λy=>Res.ok (hG y) else .ok hI) (L.map bA)=.ok ((L.filter λp=>!cq c (kN p)).map bA):=pR λp Z=>by
  have e1:lV (bA p) (.bE c (d.map val))=.ok (.bl (!cq c (kN p))):=Cr (k:=kN p);have F:aE G (.cmp .sJ (.var 0) (.var 1)) [.val (bA p),.val (.bE c (d.map val))]=.ok (.bl (!cq c (kN p))):=by dsimp! only [e1]
  have H:aE G (.var 0) [.val (bA p),.val (.bE c (d.map val))]=.ok (bA p):=by dsimp! only [J]
  show((aE G (.cmp .sJ (.var 0) (.var 1)) [.val (bA p),.val (.bE c (d.map val))]).bind λt=>sC t λt=>if t then(aE G (.var 0) [.val (bA p),.val (.bE c (d.map val))]).bind λy=>Res.ok (hG y) else .ok hI)=_;rw [F,H];cases cq c (kN p)<;>rfl
 have I:kR G (.seq (.call (zu 18) (.cons (.fld 0 "floor") .nil))) [.val (.obj n),.val (.bE c (d.map val))]=.ok (L.map bA):=by dsimp! only [z,B]
 have K:aE G (.dN 1 [1] (.one 0) (.seq (.call (zu 18) (.cons (.fld 0 "floor") .nil))) (.cmp .sJ (.var 0) (.var 1)) (.var 0)) [.val (.obj n),.val (.bE c (d.map val))]=.ok (cut L c):=by rw [aE,I];show(if(L.map bA).length<cV then(aY (λx=>((Tg.one 0).put x ([.no]++[.val (.bE c (d.map val))])).bind λj=>(aE G (.cmp .sJ (.var 0) (.var 1)) j).bind λt=>sC t λt=>if t then(aE G (.var 0) j).bind λy=>Res.ok (hG y) else .ok hI) (L.map bA)).bind λM=>Res.ok (PV.lst M) else .bad)=_;rw [if_pos hl,E];rfl
 have N:=FN (F1:=F1) (m:="found") (env:=[.val (.obj n),.no]) (i:=0) h rfl e;show(aP F1 F2 bt.body [.val (.obj n),.no] s).bind _=_;rw [bt,aP,fO,N];show((aP F1 F2 (.cons (.p (.ret (.dN 1 [1] (.one 0) (.seq (.call (zu 18) (.cons (.fld 0 "floor") .nil))) (.cmp .sJ (.var 0) (.var 1)) (.var 0)))) .nil) [.val (.obj n),.val (.bE c (d.map val))] s1).bind _)=_;rw [aP,fO,dj,r,K];rfl
def ET(A:FK F1)(t:QU F2 sl cl pr a b w)(k:Kp sl cl pr a b w s n aa){p:Nat×Nat}(y:uP aa p.1 p.2=hQ):∃c d s',fu F1 F2 bb [.obj n,bA p] s=.ok (dv c d (kN p)) s'/\qB (Et aa sl cl pr) [(a:Int),(b:Int)] c d/\vj sl cl pr a b s n aa s':=by
 let(R,h,F):=k.at_;let(c,d,e,r):=t s n aa k;have u:vj sl cl pr a b s n aa (s.set n (ks aa (wk sl cl pr) (sp a b) (.bE c (d.map val)))):={_,rfl,.inr ⟨c,d,rfl,r⟩};generalize s.set n (ks aa (wk sl cl pr) (sp a b) (.bE c (d.map val)))=s1 at e u;let(z,_,_,_):=A.g s n aa _ _ _ h;have nd:=(A.f s).need aa k.L.o8 p.1 p.2 (by rw [yi];exact y);refine{c,d,s1,?_,r,u};have B:dj (F1 s) (.expr (.call (zu 5) (.cons (.fld 0 "floor") (.cons (.var 1) .nil)))) [.val (.obj n),.val (bA p),.no]=.ok (.nx [.val (.obj n),.val (bA p),.no]):=by dsimp! only [z,nd]
 have e1:uL (bA p) (.bE c (d.map val))=.ok (.bl (cq c (kN p))):=by show((Res.of (nF (cg (kN p)))).bind λk=>Res.ok (PV.bl (cq c k)))=_;rw [jh];rfl
 have C:aE (F1 s1) (.ite (.cmp .D8 (.var 1) (.var 2)) (.sub (.sub (.var 2) (.var 1)) (.cst (.int 0))) (.cst .aL)) [.val (.obj n),.val (bA p),.val (.bE c (d.map val))]=.ok (dv c d (kN p)):=by
  have j:=dA (kN p) r.len
  cases o:ay c d (kN p) with
  |none=>
   rw [o] at j;have j:cq c (kN p)=hU:=j;have:dv c d (kN p)=.aL:=by unfold dv;rw [o]
   rw [this];dsimp! only [e1,j]
  |some q=>
   rw [o] at j;have j:cq c (kN p)=hQ:=j;have D:aZ (.bE c (d.map val)) (bA p)=.ok (val q):=Mz o;have:dv c d (kN p)=.int q.1:=by unfold dv;rw [o]
   rw [this];dsimp! only [e1,j,D,DH]
 have E:=FN (F1:=F1) (m:="found") (env:=[.val (.obj n),.val (bA p),.no]) (i:=0) h rfl e;show(aP F1 F2 bb.body [.val (.obj n),.val (bA p),.no] s).bind _=_;rw [bb,aP,fO,B];show((aP F1 F2 (.cons (.set 2 (.met (.var 0) (zu 0) "found" .nil)) (.cons (.p (.ret (.ite (.cmp .D8 (.var 1) (.var 2)) (.sub (.sub (.var 2) (.var 1)) (.cst (.int 0))) (.cst .aL)))) .nil)) [.val (.obj n),.val (bA p),.no] s).bind _)=_;rw [aP,fO,E];show((aP F1 F2 (.cons (.p (.ret (.ite (.cmp .D8 (.var 1) (.var 2)) (.sub (.sub (.var 2) (.var 1)) (.cst (.int 0))) (.cst .aL)))) .nil) [.val (.obj n),.val (bA p),.val (.bE c (d.map val))] s1).bind _)=_;rw [aP,fO,dj,C];rfl
def Lq(A:FK F1){W c R:PV}(h:s[n]?=hG (ks aa W c R)):fu F1 F2 cD [.obj n] s=.ok (fl aa) s:=by
 let(d,_,_,_):=A.g s n aa _ _ _ h;have e:dj (F1 s) (.ret (.fld 0 "floor")) [.val (.obj n)]=.ok (.rt (fl aa)):=by dsimp! only [d]
 show(aP F1 F2 cD.body [.val (.obj n)] s).bind _=_;rw [cD,aP,fO,e];rfl
def TV(F2:eT):Prop:=∀s (n:Nat) aa W gl R,s[n]?=hG (ks aa W gl R)->F2 (jw (zu 0) "now") [.obj n] s=.ok (fl aa) s
def QT(F2:eT)(sl:Bool)(cl pr:Int)(a b w:Nat):Prop:=∀s n aa,Kp sl cl pr a b w s n aa->∀p:Nat×Nat,uP aa p.1 p.2=hQ->∃c d e,F2 (jw (zu 0) (zu 20)) [.obj n,bA p] s=.ok (dv c d (kN p)) e/\qB (Et aa sl cl pr) [(a:Int),(b:Int)] c d/\vj sl cl pr a b s n aa e
def Cut(F2:eT)(sl:Bool)(cl pr:Int)(a b w:Nat):Prop:=∀s n aa,Kp sl cl pr a b w s n aa->∃L c e d,F2 (jw (zu 0) (zu 28)) [.obj n] s=.ok (cut L c) d/\HD aa L/\qB (Et aa sl cl pr) [(a:Int),(b:Int)] c e/\vj sl cl pr a b s n aa d
def SJ{i:Nat}{W d R r:PV}{c:Sg}(h:s[n]?=hG (ks aa W d R))(he:env[i]?=hG (.val (.obj n)))(f:env[j]?=hG (.val q))(e:F2 (jw (zu 0) m) [.obj n,q] s=.ok r c):eV F1 F2 (.met (.var i) (zu 0) m (.cons (.var j) .nil)) env s=.ok r c:=by
 have v:∀{i:Nat} {p:PV},env[i]?=hG (.val p)->aE (F1 s) (.var i) env=.ok p:=λ{i p} h=>by
  have:aE (F1 s) (.var i) env=gU env[i]?:=by unfold aE;rfl
  rw [this,h];rfl
 have g:bf (F1 s) (.cons (.var j) .nil) env=.ok [q]:=by rw [bf,v f,bf];rfl
 rw [eV,v he];show(if gY s n (zu 0)=hQ then(Rs.of (bf (F1 s) (.cons (.var j) .nil) env) s).bind (λk s=>F2 (jw (zu 0) m) (.obj n::k) s) else Rs.bad)=_;rw [if_pos (zo h),g];exact e
theorem tP(hd:QT F2 sl cl pr a b w){c:Ks}{d:Vs}(f:qB (Et aa sl cl pr) [(a:Int),(b:Int)] c d):∀(L:List (Nat×Nat)) {s:Sg},Kp sl cl pr a b w s n aa->(∀p∈L,uP aa p.1 p.2=hQ)->
 ∃s',bD (λx s=>(Rs.of ((Tg.one 0).put x ([.no]++[.val (.obj n)])) s).bind λj s=>eV F1 F2 (.met (.var 1) (zu 0) (zu 20) (.cons (.var 0) .nil)) j s) (L.map bA) s=.ok (L.map λp=>dv c d (kN p)) s'/\vj sl cl pr a b s n aa s'
 |[],s,k,_=>⟨s,rfl,k.refl⟩|p::L,s,k,g=>by let(R,h,_):=k.at_;let(m,o,i,e,r,u):=hd s n aa k p (g p dB);let(t,y,z):=tP hd f L (k.MP u) λq A=>g q (b0 _ A);have B:eV F1 F2 (.met (.var 1) (zu 0) (zu 20) (.cons (.var 0) .nil)) [.val (bA p),.val (.obj n)] s=.ok (dv m o (kN p)) i:=SJ h rfl rfl e;refine{t,?_,u.trans z};rw [a9,a9,bD];show((eV F1 F2 (.met (.var 1) (zu 0) (zu 20) (.cons (.var 0) .nil)) [.val (bA p),.val (.obj n)] s).well.bind _)=_;rw [B,(Bo r f (kN p)).1];show((bD _ (L.map bA) i).bind _)=_;rw [y];rfl
def Ei(sl:Bool)(cl pr:Int)(a b:Nat)(aa:List Str)(v:PV):Prop:=∃L c d,v=tv aa L c d/\HD aa L/\qB (Et aa sl cl pr) [(a:Int),(b:Int)] c d
def Ei.eq{v d:PV}(h:Ei sl cl pr a b aa v)(h':Ei sl cl pr a b aa d):v=d:=by let(L,g,i,rfl,j,e):=h;let(o,k,m,rfl,c,f):=h';have:=j.eq c;subst this;unfold tv;rw [Bh e f L,show(λp:Nat×Nat=>dv g i (kN p))=λp=>dv k m (kN p) from funext λp=>(Bo e f (kN p)).1]
def Hn(A:FK F1)(hN:TV F2)(hd:QT F2 sl cl pr a b w)(u:Cut F2 sl cl pr a b w)(k:Kp sl cl pr a b w s n aa):∃v s',fu F1 F2 cM [.obj n] s=.ok v s'/\Ei sl cl pr a b aa v/\vj sl cl pr a b s n aa s':=by
 let(R,h,P):=k.at_;let(L,y,c):=(A.f s).IJ aa k.L.o8;let(d,e,_,g):=(A.f s).VD aa w k.L sl cl pr k.V a b k.op;let(j,e1,q):=tP (F1:=F1) hd g L k λp z=>(c.mem p.1 p.2).1 z;have r:=k.MP q;let(R1,B,_):=r.at_;let(L2,Q,S,t,C,o,D,E):=u j n aa r;have eq:=o.eq c;subst eq;refine{tv aa L2 d e,t,?_,⟨L2,d,e,rfl,c,g⟩,q.trans E};have F:=FN (F1:=F1) (m:="now") (env:=[.val (.obj n),.no]) (i:=0) h rfl (hN s n aa _ _ _ h);have hl:(L2.map bA).length<cV:=by rw [zzl];have:=c.le;exact ef this (by decide)
 have G:kR (F1 s) (.seq (.call (zu 6) (.cons (.var 1) .nil))) [.val (.obj n),.val (fl aa)]=.ok (L2.map bA):=by dsimp! only [y]
 have H:eV F1 F2 (.comp 1 [0] (.one 0) (.seq (.call (zu 6) (.cons (.var 1) .nil))) (.met (.var 1) (zu 0) (zu 20) (.cons (.var 0) .nil))) [.val (.obj n),.val (fl aa)] s=.ok (.lst (L2.map λp=>dv d e (kN p))) j:=by rw [eV,G];show(if(L2.map bA).length<cV then(bD (λx s=>(Rs.of ((Tg.one 0).put x ([.no]++[.val (.obj n)])) s).bind λI s=>eV F1 F2 (.met (.var 1) (zu 0) (zu 20) (.cons (.var 0) .nil)) I s) (L2.map bA) s).bind (λK s=>Rs.ok (PV.lst K) s) else .bad)=_;rw [if_pos hl,e1];rfl
 have M:=FN (F1:=F1) (m:=(zu 28)) (env:=[.val (.obj n),.val (fl aa)]) (i:=0) B rfl C
 have N:eV F1 F2 (.pu (.var 1)) [.val (.obj n),.val (fl aa)] s=.ok (fl aa) s:=by
  rw [eV];have:aE (F1 s) (.var 1) [.val (.obj n),.val (fl aa)]=.ok (fl aa):=by dsimp! only [J]
  rw [this];rfl
 have O:eV F1 F2 (.tup (.cons (.pu (.var 1)) (.cons (.comp 1 [0] (.one 0) (.seq (.call (zu 6) (.cons (.var 1) .nil))) (.met (.var 1) (zu 0) (zu 20) (.cons (.var 0) .nil))) (.cons (.met (.var 0) (zu 0) (zu 28) .nil) .nil)))) [.val (.obj n),.val (fl aa)] s=.ok (tv aa L2 d e) t:=by rw [eV,iS,N];show(((iS F1 F2 (.cons (.comp 1 [0] (.one 0) (.seq (.call (zu 6) (.cons (.var 1) .nil))) (.met (.var 1) (zu 0) (zu 20) (.cons (.var 0) .nil))) (.cons (.met (.var 0) (zu 0) (zu 28) .nil) .nil)) [.val (.obj n),.val (fl aa)] s).bind _).bind _)=_;rw [iS,H];show((((iS F1 F2 (.cons (.met (.var 0) (zu 0) (zu 28) .nil) .nil) [.val (.obj n),.val (fl aa)] j).bind _).bind _).bind _)=_;rw [iS,M];unfold tv;rw [Bh g D L2];rfl
 show(aP F1 F2 cM.body [.val (.obj n),.no] s).bind _=_;rw [cM,aP,fO,F];show((aP F1 F2 (.cons (.ret (.tup (.cons (.pu (.var 1)) (.cons (.comp 1 [0] (.one 0) (.seq (.call (zu 6) (.cons (.var 1) .nil))) (.met (.var 1) (zu 0) (zu 20) (.cons (.var 0) .nil))) (.cons (.met (.var 0) (zu 0) (zu 28) .nil) .nil))))) .nil) [.val (.obj n),.val (fl aa)] s).bind _)=_;rw [aP,fO,O];rfl
def RB{i a b:Nat}:gH (sp i j) (sp a b)=.ok (.bl ((((i:Int)==(a:Int))&&(((j:Int)==(b:Int))&&hQ)))):=eS
def L9(A:FK F1)(k:Kp sl cl pr a b w s n aa){i x:Nat}(d:i<aa.length)(e:j<w)(p:vw x)(q:¬(i=a/\j=b)):fu F1 F2 cE [.obj n,sp i j,.str {#[x]}] s=.ok .aL (s.set n (ks (kG aa i j x) (wk sl cl pr) (sp a b) .aL)):=by
 let(R,h,I):=k.at_;let(m,_,r,_):=A.g s n aa _ _ _ h;have e1:=(A.f s).Xd aa w k.L i j d e;have u:=(A.f s).sgn x p;have y:=(A.f s).XN aa w k.L i j x d e
 have B:(((i:Int)==(a:Int))&&(((j:Int)==(b:Int))&&hQ))=hU:=by
  cases z:(((i:Int)==(a:Int))&&(((j:Int)==(b:Int))&&hQ)) with
  |false=>rfl|true=>rw [Bool.and_true,zza,zzy,zzy] at z;exact absurd {by lia,by lia} q
 have C:gH (sp i j) (sp a b)=.ok (.bl hU):=by rw [RB,B]
 have c:∃t,gH (.str {#[x]}) (.str "#")=.ok (.bl t):={_,rfl};let(t,c):=c;have D:dj (F1 s) (.expr (.call (zu 12) (.cons (.fld 0 "floor") (.cons (.var 1) .nil)))) [.val (.obj n),.val (sp i j),.val (.str {#[x]})]=.ok (.nx [.val (.obj n),.val (sp i j),.val (.str {#[x]})]):=by dsimp! only [m,e1]
 have a2:dj (F1 s) (.expr (.call (zu 36) (.cons (.var 2) .nil))) [.val (.obj n),.val (sp i j),.val (.str {#[x]})]=.ok (.nx [.val (.obj n),.val (sp i j),.val (.str {#[x]})]):=by dsimp! only [u]
 have E:dj (F1 s) (.ite (.and (.cmp .eq (.var 2) (.glob "WALL" (.str "#"))) (.cmp .eq (.var 1) (.fld 0 "goal"))) (.cons (.raise "NoSign" "the goal can't be a wall") .nil) .nil) [.val (.obj n),.val (sp i j),.val (.str {#[x]})]=.ok (.nx [.val (.obj n),.val (sp i j),.val (.str {#[x]})]):=by cases t<;>dsimp! only [c,r,C]
 have F:aE (F1 s) (.call (zu 29) (.cons (.fld 0 "floor") (.cons (.var 1) (.cons (.var 2) .nil)))) [.val (.obj n),.val (sp i j),.val (.str {#[x]})]=.ok (fl (kG aa i j x)):=by dsimp! only [m,y]
 have o:(s.set n (ks (kG aa i j x) (wk sl cl pr) (sp a b) R))[n]?=hG (ks (kG aa i j x) (wk sl cl pr) (sp a b) R):=fi (bV.1 h).1;have G:fO F1 F2 (.kA (zu 0) 0 "floor" (.call (zu 29) (.cons (.fld 0 "floor") (.cons (.var 1) (.cons (.var 2) .nil))))) [.val (.obj n),.val (sp i j),.val (.str {#[x]})] s=.ok (.nx [.val (.obj n),.val (sp i j),.val (.str {#[x]})]) (s.set n (ks (kG aa i j x) (wk sl cl pr) (sp a b) R)):=by rw [fO,F];show(if gY s n (zu 0)=hQ then(my s n "floor" (fl (kG aa i j x))).bind _ else Rs.bad)=_;rw [if_pos (zo h),Pe h];rfl
 have H:fO F1 F2 (.kA (zu 0) 0 (zu 14) (.cst .aL)) [.val (.obj n),.val (sp i j),.val (.str {#[x]})] (s.set n (ks (kG aa i j x) (wk sl cl pr) (sp a b) R))=.ok (.nx [.val (.obj n),.val (sp i j),.val (.str {#[x]})]) (s.set n (ks (kG aa i j x) (wk sl cl pr) (sp a b) .aL)):=by rw [fO];show(if gY (s.set n (ks (kG aa i j x) (wk sl cl pr) (sp a b) R)) n (zu 0)=hQ then(my (s.set n (ks (kG aa i j x) (wk sl cl pr) (sp a b) R)) n (zu 14) .aL).bind _ else Rs.bad)=_;rw [if_pos (zo o),Pf o,List.set_set];rfl
 show(aP F1 F2 cE.body [.val (.obj n),.val (sp i j),.val (.str {#[x]})] s).bind _=_;rw [cE];simp! [aP];rw [fO,D,yA,iG,sM,fO,a2,yA,iG,sM,fO,E,yA,iG,sM,G,iG,sM,H];rfl
def Ft(A:FK F1)(L:Fl aa w)(op:da aa a b=hQ)(h:s[n]?=hG {zu 0,[]}):fu F1 F2 ba [.obj n,fl aa,wk sl cl pr,sp a b] s=.ok .aL (s.set n (ks aa (wk sl cl pr) (sp a b) .aL)):=by
 have nd:=(A.f s).need aa L.o8 a b op;have j:=(bV.1 h).1;have t:dj (F1 s) (.expr (.call (zu 5) (.cons (.var 1) (.cons (.var 3) .nil)))) [.val (.obj n),.val (fl aa),.val (wk sl cl pr),.val (sp a b)]=.ok (.nx [.val (.obj n),.val (fl aa),.val (wk sl cl pr),.val (sp a b)]):=by dsimp! only [nd]
 have st:∀(f:Str) (e:Ci.E) (v:PV) (g:Sg) (fs:List (Str×PV)),g[n]?=hG {zu 0,fs}->fs.length<1000->aE (F1 g) e [.val (.obj n),.val (fl aa),.val (wk sl cl pr),.val (sp a b)]=.ok v->fO F1 F2 (.kA (zu 0) 0 f e) [.val (.obj n),.val (fl aa),.val (wk sl cl pr),.val (sp a b)] g=.ok (.nx [.val (.obj n),.val (fl aa),.val (wk sl cl pr),.val (sp a b)]) (g.set n {zu 0,gk f v fs}):=λf e v g fs m hl u=>by
  rw [fO,u];show(if gY g n (zu 0)=hQ then(my g n f v).bind _ else Rs.bad)=_;have c:gY g n (zu 0)=hQ:=by unfold gY;rw [m];rfl
  have d:my g n f v=.ok () (g.set n {zu 0,gk f v fs}):=by unfold my;rw [m];exact if_pos hl
  rw [if_pos c,d];rfl
 have k:∀(g:Sg) (i:Nat) (v:PV),[Slot.val (.obj n),.val (fl aa),.val (wk sl cl pr),.val (sp a b)][i]?=hG (.val v)->aE (F1 g) (.var i) [.val (.obj n),.val (fl aa),.val (wk sl cl pr),.val (sp a b)]=.ok v:=λg i v y=>by
  have:aE (F1 g) (.var i) [.val (.obj n),.val (fl aa),.val (wk sl cl pr),.val (sp a b)]=gU ([Slot.val (.obj n),.val (fl aa),.val (wk sl cl pr),.val (sp a b)][i]?):=by unfold aE;rfl
  rw [this,y];rfl
 have z:gk "floor" (fl aa) []=[(("floor":Str),fl aa)]:=rfl;have B:gk (zu 24) (wk sl cl pr) [("floor",fl aa)]=[(("floor":Str),fl aa),(zu 24,wk sl cl pr)]:=rfl;have C:gk "goal" (sp a b) [("floor",fl aa),(zu 24,wk sl cl pr)]=[(("floor":Str),fl aa),(zu 24,wk sl cl pr),("goal",sp a b)]:=rfl;have p4:gk (zu 14) .aL [("floor",fl aa),(zu 24,wk sl cl pr),("goal",sp a b)]=[(("floor":Str),fl aa),(zu 24,wk sl cl pr),("goal",sp a b),(zu 14,.aL)]:=rfl;have o:=st "floor" (.var 1) (fl aa) s [] h (by decide) (k s 1 _ rfl);rw [z] at o;have p:=st (zu 24) (.var 2) (wk sl cl pr) (s.set n {zu 0,[("floor",fl aa)]}) [("floor",fl aa)] (fi j) (show 1<1000 by decide) (k _ 2 _ rfl);rw [B,List.set_set] at p;have q:=st "goal" (.var 3) (sp a b) (s.set n {zu 0,[("floor",fl aa),(zu 24,wk sl cl pr)]}) [("floor",fl aa),(zu 24,wk sl cl pr)] (fi j) (show 2<1000 by decide) (k _ 3 _ rfl);rw [C,List.set_set] at q;have r:=st (zu 14) (.cst .aL) .aL (s.set n {zu 0,[("floor",fl aa),(zu 24,wk sl cl pr),("goal",sp a b)]}) [("floor",fl aa),(zu 24,wk sl cl pr),("goal",sp a b)] (fi j) (show 3<1000 by decide) (by rw [aE]);rw [p4,List.set_set] at r;show(aP F1 F2 ba.body [.val (.obj n),.val (fl aa),.val (wk sl cl pr),.val (sp a b)] s).bind _=_;rw [ba];simp! [aP];rw [fO,t,yA,iG,sM,o,iG,sM,p,iG,sM,q,iG,sM,r];rfl
end
def j1:∀(n:Nat) (p:PV),Ci.plain n p=hQ->kQ n p p=hQ:=by
 have c:∀(n:Nat),(∀p,Ci.plain n p=hQ->kQ n p p=hQ)->∀l:List PV,l.all (Ci.plain n)=hQ->eqs (kQ n) l l=hQ:=λn b l=>by
  induction l with
  |nil=>exact λZ=>rfl|cons a l d=>intro h;rw [List.all_cons,zza] at h;show(kQ n a a&&eqs (kQ n) l l)=hQ;rw [b a h.1,d h.2];rfl
 intro n
 induction n with
 |zero=>
  intro p h;cases p<;>first|(exact aN h)|(simp [kQ])
 |succ n b=>
  intro p h;cases p with
  |tup xs=>exact c n b xs h|lst xs=>exact c n b xs h|bE _ _=>exact aN h|exc _=>exact aN h|obj _=>exact aN h|_=>simp [kQ]
def Xa(h:kh p=hQ):iU p p=.ok (.bl hU):=by show(if(kh p&&kh p)=hQ then Res.ok (PV.bl (!eqv p p)) else .bad)=_;rw [h];show Res.ok (PV.bl (!kQ DP p p))=_;rw [j1 DP p h];rfl
def Wb(h:kh p=hQ):gH p p=.ok (.bl hQ):=by show(if(kh p&&kh p)=hQ then Res.ok (PV.bl (eqv p p)) else .bad)=_;rw [h];show Res.ok (PV.bl (kQ DP p p))=_;rw [j1 DP p h]
section
variable{F1:Sg->aF}{F2:eT}{sl:Bool}{pr:Int}{a b w:Nat}{s:Sg}{n:Nat}{aa:List Str}
def KA(sl:Bool)(cl pr:Int)(a b w:Nat)(s:Sg)(rs:Nat->List Str):Prop:=∀n,n<3->Kp sl cl pr a b w s n (rs n)
abbrev w5(rs:Nat->List Str)(n:Nat)(r:List Str):Nat->List Str:=λm=>if m=n then r else rs m
def gy(rs:Nat->List Str)(n:Nat)(r:List Str):w5 rs n r n=r:=if_pos rfl
set_option tactic.hygienic true in
def kE(rs:Nat->List Str)(n:Nat):w5 rs n (rs n)=rs:=funext λm=>by
 unfold w5;split
 .rename_i z;rw [z]
 .rfl
def DQ(rs:Nat->List Str)(n:Nat)(r c:List Str):w5 (w5 rs n r) n c=w5 rs n c:=funext λm=>by unfold w5;split<;>rfl
theorem KA.MP{c:List Str}{s':Sg}(k:KA sl cl pr a b w s rs)(g:n<3)(L:Fl c w)(op:da c a b=hQ)(u:vj sl cl pr a b s n c s'):KA sl cl pr a b w s' (w5 rs n c):=λm hm=>by
 let(R,rfl,v):=u;by_cases h:m=n
 .subst h;rw [gy];let(R0,d,_):=(k m hm).at_
  exact{L,(k m hm).V,op,R,fi (bV.1 d).1,v}
 .have e:w5 rs n c m=rs m:=if_neg h;rw [e];let(R0,d,f):=(k m hm).at_
  exact{(k m hm).L,(k m hm).V,(k m hm).op,R0,by rw [ea (λz=>h z.symm)];exact d,f}
noncomputable abbrev kl:PV:=.lst [.obj 0,.obj 1,.obj 2]
def uy(c:n<3):aZ kl (.int (n:Int))=.ok (.obj n):=by
 match n,c with
 |0,_=>rfl|1,_=>rfl|2,_=>rfl
def Le{o:Ci.E}{c:Es}{r:PV}{d:Sg}(k:Kp sl cl pr a b w s n aa)(f:aE (F1 s) o env=.ok (.obj n))(he:bf (F1 s) c env=.ok ps)(e:F2 (jw (zu 0) m) (.obj n::ps) s=.ok r d):eV F1 F2 (.met o (zu 0) m c) env s=.ok r d:=by let(R,h,_):=k.at_;rw [eV,f];show(if gY s n (zu 0)=hQ then(Rs.of (bf (F1 s) c env) s).bind (λps s=>F2 (jw (zu 0) m) (.obj n::ps) s) else Rs.bad)=_;rw [if_pos (zo h),he];exact e
def A0(F2:eT)(sl:Bool)(cl pr:Int)(a b w:Nat):Prop:=∀s n aa,Kp sl cl pr a b w s n aa->∀i j x:Nat,i<aa.length->j<w->vw x->¬(i=a/\j=b)->F2 (jw (zu 0) "put") [.obj n,sp i j,.str {#[x]}] s=.ok .aL (s.set n (ks (kG aa i j x) (wk sl cl pr) (sp a b) .aL))
def Pq{i x:Nat}(c:da aa a b=hQ)(d:¬(i=a/\j=b)):da (kG aa i j x) a b=hQ:=by rw [yi] at c⊢;unfold uP at c⊢;rw [HP,if_neg (λz=>d ⟨z.1.symm,z.2.symm⟩)];exact c
def A0.ka(f:A0 F2 sl cl pr a b w)(k:KA sl cl pr a b w s rs)(c:n<3){i x:Nat}(g:i<(rs n).length)(h:j<w)(d:vw x)(e:¬(i=a/\j=b)):∃s',F2 (jw (zu 0) "put") [.obj n,sp i j,.str {#[x]}] s=.ok .aL s'/\KA sl cl pr a b w s' (w5 rs n (kG (rs n) i j x)):=
 {_,f s n (rs n) (k n c) i j x g h d e,k.MP c (Pp (k n c).L i j d) (Pq (k n c).op e) {.aL,rfl,.inl rfl}}
structure Jc(a b w h:Nat)(P:List Pt):Prop where
 Io:∀q∈P,q.1.1<h/\q.1.2<w/\vw q.2/\¬(q.1.1=a/\q.1.2=b)
 nd:(P.map (·.1)).Nodup
noncomputable abbrev fI(q:Pt):PV:=.tup [bA q.1,.str {#[q.2]}]
noncomputable abbrev ni(c d e f g:PV)(h:Slot)(i j:PV)(k:Slot)(m o:PV)(p q:Slot):Sl:=[.val c,.val d,.val e,.val f,.val g,h,.val i,.val j,k,.val kl,.val m,.val o,p,q]
abbrev lB:oz:=(.cons (.ex (.met (.sub (.var 9) (.var 7)) (zu 0) "put" (.cons (.var 8) (.cons (.var 13) .nil))))
 (.cons (.ite (.pu (.cmp .eq (.call (zu 1) (.cons (.var 0) (.cons (.bin .add (.cst (.int 61)) (.var 7)) (.cons (.cst (.int 2)) .nil)))) (.cst (.int 0))))
  (.cons (.ex (.met (.sub (.var 9) (.var 7)) (zu 0) (zu 28) .nil))
  .nil)
  .nil)
 .nil))
def PM(A:FK F1)(E:A0 F2 sl cl pr a b w)(F:Cut F2 sl cl pr a b w)(k:KA sl cl pr a b w s rs)(e:n<3){q:Pt}(G:q.1.1<(rs n).length)(H:q.1.2<w)(I:vw q.2)(K:¬(q.1.1=a/\q.1.2=b))(ns:List Int)(i j o p:PV)(r:Slot)(t u y:PV)(z:Slot):
 ∃s',aP F1 F2 lB (ni (eG ns) i j o p r t (.int n) (.val (bA q.1)) u y z (.val (.str {#[q.2]}))) s=.ok (.nx (ni (eG ns) i j o p r t (.int n) (.val (bA q.1)) u y z (.val (.str {#[q.2]})))) s'/\KA sl cl pr a b w s' (w5 rs n (kG (rs n) q.1.1 q.1.2 q.2)):=by
 generalize c:ni (eG ns) i j o p r t (.int n) (.val (bA q.1)) u y z (.val (.str {#[q.2]}))=env;let(d,e1,B):=E.ka k e G H I K;have C:∀s,aE (F1 s) (.sub (.var 9) (.var 7)) env=.ok (.obj n):=λs=>by subst c;dsimp! only [uy e]
 have M:bf (F1 s) (.cons (.var 8) (.cons (.var 13) .nil)) env=.ok [bA q.1,.str {#[q.2]}]:=by subst c;dsimp! only [J]
 have D:=Le (F1:=F1) (m:="put") (k n e) (C s) M e1;let(m,N,_,_):=(A.f d).pick ns (61+n) 2 (by lia) (by decide);have g:aE (F1 d) (.cmp .eq (.call (zu 1) (.cons (.var 0) (.cons (.bin .add (.cst (.int 61)) (.var 7)) (.cons (.cst (.int 2)) .nil)))) (.cst (.int 0))) env=.ok (.bl (m==0)):=by subst c;dsimp! only [N,eI]
 have h:=B n e;let(L,T,U,O,P,_,_,Q):=F d n _ h;have R:bf (F1 d) .nil env=.ok []:=by unfold bf;rfl
 have S:=Le (F1:=F1) (m:=(zu 28)) h (C d) R P;have k2:=B.MP e h.L h.op Q
 rw [kE] at k2;rw [lB];cases hm:(m==0) with
 |false=>rw [hm] at g;refine{d,?_,B};simp! [aP,fO,vM];rw [D,iG,iG,sM,g];rfl|true=>rw [hm] at g;refine{O,?_,k2};simp! [aP,fO,vM];rw [D,iG,iG,sM,g];simp! [iG,yA,QF,if_true];rw [S];rfl
noncomputable abbrev Vh(F1:Sg->aF)(F2:eT):PV->Sl->Sg->Rs Ci.Fl:=λx env s=>(Rs.of ((Tg.two 8 13).put x env) s).bind λc s=>aP F1 F2 lB c s
theorem inner(A:FK F1)(u:A0 F2 sl cl pr a b w)(y:Cut F2 sl cl pr a b w)(z:n<3)(ns:List Int)(c d e f:PV)(g:Slot)(i j m:PV)(o:Slot):∀(Q:List Pt) {s:Sg} {rs:Nat->List Str} (p r:Slot),KA sl cl pr a b w s rs->(∀q∈Q,q.1.1<(rs n).length/\q.1.2<w/\vw q.2/\¬(q.1.1=a/\q.1.2=b))->
 ∃s' B C,df (Vh F1 F2) (Q.map fI) (ni (eG ns) c d e f g i (.int n) p j m o r) s=.ok (.nx (ni (eG ns) c d e f g i (.int n) B j m o C)) s'/\KA sl cl pr a b w s' (w5 rs n (pt (rs n) Q))
 |[],s,rs,p,r,k,_=>{s,p,r,rfl,by rw [show pt (rs n) []=rs n from rfl,kE];exact k}|q::Q,s,rs,p,r,k,h=>by
  let(D,E,F,G):=h q dB;let(O,e1,H):=PM A u y k z D E F G ns c d e f g i j m o;let(I,K,t,L,k2):=inner A u y z ns c d e f g i j m o Q (.val (bA q.1)) (.val (.str {#[q.2]})) H λM N=>by rw [gy,oe];exact h M (b0 _ N)
  refine{I,K,t,?_,?_}
  .rw [a9,df];show((aP F1 F2 lB (ni (eG ns) c d e f g i (.int n) (.val (bA q.1)) j m o (.val (.str {#[q.2]}))) s).bind _)=_;rw [e1];exact L
  .rw [gy,DQ] at k2;exact k2
abbrev oB:oz:=.cons (.cL (.two 8 13) (.seq (.var 12)) lB) .nil
def DN(A:FK F1)(u:A0 F2 sl cl pr a b w)(y:Cut F2 sl cl pr a b w)(z:n<3)(ns:List Int)(c d f g:PV)(i:Slot)(j m o:PV)(Q:List Pt)(p r:Slot)(k:KA sl cl pr a b w s rs)(h:∀q∈Q,q.1.1<(rs n).length/\q.1.2<w/\vw q.2/\¬(q.1.1=a/\q.1.2=b)):
 ∃s' B C,aP F1 F2 oB (ni (eG ns) c d f g i j (.int n) p m o (.val (.lst (Q.map fI))) r) s=.ok (.nx (ni (eG ns) c d f g i j (.int n) B m o (.val (.lst (Q.map fI))) C)) s'/\KA sl cl pr a b w s' (w5 rs n (pt (rs n) Q)):=by
 let(s',D,t,e,E):=inner A u y z ns c d f g i j m o (.val (.lst (Q.map fI))) Q p r k h;have F:kR (F1 s) (.seq (.var 12)) (ni (eG ns) c d f g i j (.int n) p m o (.val (.lst (Q.map fI))) r)=.ok (Q.map fI):=by dsimp! only [J]
 refine{s',D,t,?_,E};rw [oB,aP,fO,F];show((df (Vh F1 F2) (Q.map fI) (ni (eG ns) c d f g i j (.int n) p m o (.val (.lst (Q.map fI))) r) s).bind _)=_;rw [e];rfl
noncomputable abbrev QE(F1:Sg->aF)(F2:eT):PV->Sl->Sg->Rs Ci.Fl:=λx env s=>(Rs.of ((Tg.two 7 12).put x env) s).bind λc s=>aP F1 F2 oB c s
def outer(A:FK F1)(q:A0 F2 sl cl pr a b w)(r:Cut F2 sl cl pr a b w)(ns:List Int)(c d e f:PV)(g:Slot)(h i j:PV){P Q:List Pt}(B:Jc a b w aa.length P)(G:Jc a b w aa.length Q)(H:pt aa Q=pt aa P)(I u K y:Slot)(k:KA sl cl pr a b w s λZ=>aa):
 ∃s' L M N,df (QE F1 F2) (bR 0 [.lst (P.map fI),.lst (Q.map fI),.lst (P.map fI)]) [.val (eG ns),.val c,.val d,.val e,.val f,g,.val h,I,u,.val kl,.val i,.val j,K,y] s=.ok (.nx (ni (eG ns) c d e f g h (.int 2) L i j M N)) s'/\KA sl cl pr a b w s' λZ=>pt aa P:=by
 let(C,D,o,e1,O):=DN (n:=0) A q r (by decide) ns c d e f g h i j P u y k B.Io;let(E,F,p,R,k2):=DN (n:=1) A q r (by decide) ns c d e f g h i j Q D o O G.Io;let(S,T,z,U,V):=DN (n:=2) A q r (by decide) ns c d e f g h i j P F p k2 B.Io;refine{S,T,.val (.lst (P.map fI)),z,?_,?_}
 .rw [bR,df];show((aP F1 F2 oB (ni (eG ns) c d e f g h (.int ((0:Nat):Int)) u i j (.val (.lst (P.map fI))) y) s).bind _)=_;rw [e1,iG];show df (QE F1 F2) (bR 1 [.lst (Q.map fI),.lst (P.map fI)]) _ C=_;rw [bR,df];show((aP F1 F2 oB (ni (eG ns) c d e f g h (.int ((1:Nat):Int)) D i j (.val (.lst (Q.map fI))) o) C).bind _)=_;rw [R,iG];show df (QE F1 F2) (bR 2 [.lst (P.map fI)]) _ E=_;rw [bR,df];show((aP F1 F2 oB (ni (eG ns) c d e f g h (.int ((2:Nat):Int)) F i j (.val (.lst (P.map fI))) p) E).bind _)=_;rw [U];rfl
 .intro m hm;have:=V m hm
  match m,hm,this with
  |0,_,t=>exact t|1,_,t=>rw [<-H];exact t|2,_,t=>exact t
def Told(F2:eT)(sl:Bool)(cl pr:Int)(a b w:Nat):Prop:=∀s n aa,Kp sl cl pr a b w s n aa->∃v c,F2 (zu 11) [.obj n] s=.ok v c/\Ei sl cl pr a b aa v/\vj sl cl pr a b s n aa c
noncomputable abbrev tE(n:Int):X2:=.sD (zu 11) (.cons (.sub (.var 9) (.cst (.int n))) .nil)
def yO(d:Told F2 sl cl pr a b w)(k:KA sl cl pr a b w s rs)(c:n<3)(f:aE (F1 s) (.sub (.var 9) (.cst (.int n))) env=.ok (.obj n)):∃v s',eV F1 F2 (tE n) env s=.ok v s'/\Ei sl cl pr a b (rs n) v/\KA sl cl pr a b w s' rs:=by
 let(v,s',e,t,u):=d s n _ (k n c);have k2:=k.MP c (k n c).L (k n c).op u;rw [kE] at k2;refine{v,s',?_,t,k2};have g:bf (F1 s) (.cons (.sub (.var 9) (.cst (.int n))) .nil) env=.ok [.obj n]:=by rw [bf,f,bf];rfl
 rw [eV,g];exact e
def Ei.pl{v:PV}(h:Ei sl cl pr a b aa v):kh v=hQ:=by
 let(L,c,d,rfl,_,_):=h;show [fl aa,.lst (L.map λp=>dv c d (kN p)),cut L c].all (Ci.plain 8)=hQ;have e:Ci.plain 8 (fl aa)=hQ:=by show(aa.map PV.str).all (Ci.plain 7)=hQ;rw [List.all_map];exact ed.2 λZ Z=>rfl
 have f:Ci.plain 8 (.lst (L.map λp=>dv c d (kN p)))=hQ:=by show(L.map λp=>dv c d (kN p)).all (Ci.plain 7)=hQ;rw [List.all_map];refine ed.2 λp Z=>?_;show Ci.plain 7 (dv c d (kN p))=hQ;unfold dv;split<;>rfl
 have g:Ci.plain 8 (cut L c)=hQ:=by show((L.filter λp=>!cq c (kN p)).map bA).all (Ci.plain 7)=hQ;rw [List.all_map];exact ed.2 λZ Z=>rfl
 simp! [List.all_cons,List.all_nil,e,f,g,Bool.and_true]
theorem NP(p q:PV):cW .ne p q=iU p q:=rfl
theorem NO(p q:PV):cW .eq p q=gH p q:=rfl
def ID(c:Told F2 sl cl pr a b w)(k:KA sl cl pr a b w s λZ=>aa){n m:Nat}(d:n<3)(hm:m<3)(e:∀s (n:Nat),n<3->aE (F1 s) (.sub (.var 9) (.cst (.int n))) env=.ok (.obj n)):∃s',vM F1 F2 (.cmp .ne (tE n) (tE m)) env s=.ok hU s'/\KA sl cl pr a b w s' λZ=>aa:=by let(v,g,e1,f,h):=yO (F1:=F1) c k d (e s n d);let(o,i,j,t2,k2):=yO (F1:=F1) c h hm (e g m hm);have:=f.eq t2;subst this;refine{i,?_,k2};rw [vM,eV,e1,iG,j,iG,NP,Xa f.pl,yA,iG,QF]
noncomputable abbrev bB:oz:=.cons (.ex (.met (.sub (.var 9) (.cst (.int 2))) (zu 0) "put" (.cons (.var 8) (.cons (.sub (.sub (.var 1) (.sub (.var 8) (.cst (.int 0)))) (.sub (.var 8) (.cst (.int 1)))) .nil)))) .nil
noncomputable abbrev Uv(F1:Sg->aF)(F2:eT):PV->Sl->Sg->Rs Ci.Fl:=λx env s=>(Rs.of ((Tg.two 8 13).put x env) s).bind λc s=>aP F1 F2 bB c s
abbrev dD(aa:List Str)(p:Nat×Nat):Nat:=(cd aa p.1 p.2).getD 0
def NA(F:A0 F2 sl cl pr a b w)(k:KA sl cl pr a b w s rs)(g:Fl aa w)(d:(rs 2).length=aa.length){q:Pt}(e:q.1.1<aa.length)(C:q.1.2<w)(G:¬(q.1.1=a/\q.1.2=b))(h o p r:PV)(t:Slot)(u y z A:PV)(B:Slot):
 ∃s',aP F1 F2 bB (ni h (fl aa) o p r t u y (.val (bA q.1)) z A B (.val (.str {#[q.2]}))) s=.ok (.nx (ni h (fl aa) o p r t u y (.val (bA q.1)) z A B (.val (.str {#[q.2]})))) s'/\KA sl cl pr a b w s' (w5 rs 2 (kG (rs 2) q.1.1 q.1.2 (dD aa q.1)))/\cd aa q.1.1 q.1.2=hG (dD aa q.1):=by
 let(x,f):=Im g e C;have ex:dD aa q.1=x:=by unfold dD;rw [f];rfl
 have D:aa[q.1.1]?=hG aa[q.1.1]:=zzg e;have E:(aa[q.1.1]).cps.toList[q.1.2]?=hG x:=by unfold cd at f;rw [D] at f;exact f
 have H:vw x:=g.dig _ (List.getElem_mem e) x (a7 E);have I:=rQ D;have K:=yG (ee (g.o8.2 _ (List.getElem_mem e)) (by decide)) E;let(L,e1,M):=F.ka (i:=q.1.1) (j:=q.1.2) k (n:=2) (by decide) (by rw [d];exact e) C H G;refine{L,?_,by rw [ex];exact M,by rw [ex];exact f};generalize c:ni h (fl aa) o p r t u y (.val (bA q.1)) z A B (.val (.str {#[q.2]}))=env;have N:aE (F1 s) (.sub (.var 9) (.cst (.int 2))) env=.ok (.obj 2):=by subst c;dsimp! only [uy (n:=2) (by decide)];rfl
 have O:bf (F1 s) (.cons (.var 8) (.cons (.sub (.sub (.var 1) (.sub (.var 8) (.cst (.int 0)))) (.sub (.var 8) (.cst (.int 1)))) .nil)) env=.ok [bA q.1,.str {#[x]}]:=by subst c;dsimp! only [I,K]
 have P:=Le (F1:=F1) (m:="put") (k 2 (by decide)) N O e1;simp! [aP,fO];rw [P];rfl
theorem HL(A:A0 F2 sl cl pr a b w)(B:Fl aa w)(c d e f:PV)(g:Slot)(i j m o:PV)(p:Slot):∀(Q:List Pt) {s:Sg} {rs:Nat->List Str} (t u:Slot),KA sl cl pr a b w s rs->(rs 2).length=aa.length->(∀q∈Q,q.1.1<aa.length/\q.1.2<w/\vw q.2/\¬(q.1.1=a/\q.1.2=b))->
 ∃s' C D,df (Uv F1 F2) (Q.map fI) (ni c (fl aa) d e f g i j t m o p u) s=.ok (.nx (ni c (fl aa) d e f g i j C m o p D)) s'/\KA sl cl pr a b w s' (w5 rs 2 (pt (rs 2) (Q.map λq=>(q.1,dD aa q.1))))/\∀q∈Q,cd aa q.1.1 q.1.2=hG (dD aa q.1)
 |[],s,rs,t,u,k,_,_=>{s,t,u,rfl,by rw [List.map_nil,show pt (rs 2) []=rs 2 from rfl,kE];exact k,λq h=>nomatch h}|q::Q,s,rs,t,u,k,hl,h=>by
  let(E,F,O,G):=h q dB;let(P,e1,H,I):=NA (F1:=F1) A k B hl E F G c d e f g i j m o p;let(K,L,y,M,k2,N):=HL A B c d e f g i j m o p Q (.val (bA q.1)) (.val (.str {#[q.2]})) H (by rw [gy,oe];exact hl) λz r=>h z (b0 _ r);refine{K,L,y,?_,?_,?_}
  .rw [a9,df];show((aP F1 F2 bB (ni c (fl aa) d e f g i j (.val (bA q.1)) m o p (.val (.str {#[q.2]}))) s).bind _)=_;rw [e1];exact M
  .rw [gy,DQ] at k2;exact k2
  .intro z r;rcases e9.1 r with rfl|r
   .exact I
   .exact N z r
abbrev lE:oz:=(.cons (.ite (.or (.cmp .ne (tE 0) (tE 1)) (.cmp .ne (tE 0) (tE 2)))
 (.cons (.p (.ret (.cst (.bl hU))))
 .nil)
 .nil)
 (.cons (.cL (.two 8 13) (.seq (.rev (.fY 6))) bB)
 (.cons (.ret (.cmp .eq (tE 2) (.pu (.var 10))))
 .nil)))
def JR(z:Told F2 sl cl pr a b w)(M:A0 F2 sl cl pr a b w)(N:Fl aa w){P:List Pt}(A:Jc a b w aa.length P){f:PV}(O:Ei sl cl pr a b aa f)(g i j o:PV)(p:Slot)(t u:PV)(B y C:Slot)(k:KA sl cl pr a b w s λ_=>pt aa P)(G:P.length<cV):∃s',aP F1 F2 lE (ni g (fl aa) i j o p (.lst (P.map fI)) t B f u y C) s=.ok (.rt (.bl hQ)) s':=by
 generalize c:ni g (fl aa) i j o p (.lst (P.map fI)) t B f u y C=env;have H:∀s (n:Nat),n<3->aE (F1 s) (.sub (.var 9) (.cst (.int n))) env=.ok (.obj n):=λs n Q=>by subst c;dsimp! only [uy Q]
 let(s1,e1,R):=ID (F1:=F1) (n:=0) (m:=1) z k (by decide) (by decide) H;let(D,S,k2):=ID (F1:=F1) (n:=0) (m:=2) z R (by decide) (by decide) H
 have T:vM F1 F2 (.or (.cmp .ne (tE 0) (tE 1)) (.cmp .ne (tE 0) (tE 2))) env s=.ok hU D:=by
  rw [vM]
  erw [e1]
  exact S
 let(U,V,E,I,W,X):=HL (F1:=F1) M N g i j o p (.lst (P.map fI)) t f u y P.reverse B C k2 (lh _ _) λq Y=>A.Io q (List.mem_reverse.1 Y)
 have bk:pt (pt aa P) (P.reverse.map λq=>(q.1,dD aa q.1))=aa:=by
  refine GH A.nd ?_ ?_ ?_
  .rw [List.map_map];show(P.reverse.map (·.1)).Nodup;rw [List.map_reverse];exact List.pairwise_reverse.2 (A.nd.imp λh=>h.symm)
  .intro q x h;let(r,Z,e):=gI.1 h;cases e;exact X r Z
  .intro q h;rw [List.map_map];show q∈P.reverse.map (·.1);rw [List.map_reverse];exact List.mem_reverse.2 h
 have ei:kR (F1 D) (.seq (.rev (.fY 6))) env=.ok (P.reverse.map fI):=by subst c;dsimp! only [List.map_reverse]
 generalize d:ni g (fl aa) i j o p (.lst (P.map fI)) t V f u y E=K at I;have xU:aE (F1 U) (.sub (.var 9) (.cst (.int (2:Nat)))) K=.ok (.obj 2):=by subst d;dsimp! only [uy (n:=2) (by decide)]
 let(v,L,e4,F,k4):=yO (F1:=F1) (n:=2) z W (by decide) xU;rw [gy,bk] at F;have:=F.eq O;subst this;have ev:aE (F1 L) (.var 10) K=.ok v:=by subst d;dsimp! only [J]
 refine{L,?_};have Wc:∀s,aP F1 F2 .nil env s=.ok (.nx env) s:=λs=>by rw [aP]
 rw [lE,aP,fO,T,iG,if_neg (by decide),Wc,iG,sM,aP,fO,ei,yA,iG];show((df (Uv F1 F2) (P.reverse.map fI) env D).bind _)=_;rw [<-c,I,iG,sM,aP,fO,eV]
 erw [e4]
 rw [iG,eV,ev,yA,iG,NO,Wb F.pl];rfl
def P8(F2:eT)(sl:Bool)(cl pr:Int)(a b w:Nat):Prop:=∀s (n:Nat) aa,Fl aa w->da aa a b=hQ->s[n]?=hG {zu 0,[]}->F2 (jw (zu 0) (zu 13)) [.obj n,fl aa,wk sl cl pr,sp a b] s=.ok .aL (s.set n (ks aa (wk sl cl pr) (sp a b) .aL))
def SU(c:P8 F2 sl cl pr a b w)(L:Fl aa w)(op:da aa a b=hQ)(s:Sg):wb F2 (zu 0) [fl aa,wk sl cl pr,sp a b] s=.ok (.obj s.length) (s++[ks aa (wk sl cl pr) (sp a b) .aL]):=by
 have h:(s++[({zu 0,[]}:OS)])[s.length]?=hG {zu 0,[]}:=by rw [fS (a8 _),Nat.sub_self];rfl
 have e:=c (s++[{zu 0,[]}]) s.length aa L op h;unfold wb;rw [e];show(if nC .aL=hQ then Rs.ok (PV.obj s.length) _ else .bad)=_;rw [if_pos (show nC .aL=hQ from rfl),List.set_append_right _ _ (a8 _),Nat.sub_self];rfl
noncomputable abbrev nE:X2:=.comp 1 [2,4,1] (.one 0) (.mv (.cst (.int 3))) (.new (zu 0) (.cons (.var 3) (.cons (.var 1) (.cons (.var 2) .nil))))
def made(q:P8 F2 sl cl pr a b w)(L:Fl aa w)(V:Wk cl pr)(op:da aa a b=hQ)(d:PV)(e:PV)(f g h i j k m o p:Slot):∃s',eV F1 F2 nE [.val d,.val (fl aa),.val (wk sl cl pr),.val e,.val (sp a b),f,g,h,i,j,k,m,o,p] []=.ok kl s'/\KA sl cl pr a b w s' λZ=>aa:=by
 let K:OS:=ks aa (wk sl cl pr) (sp a b) .aL
 have one:∀(x:PV) (s:Sg),(Rs.of ((Tg.one 0).put x (kq 1 .no++[.val (wk sl cl pr),.val (sp a b),.val (fl aa)])) s).bind (λc s=>eV F1 F2 (.new (zu 0) (.cons (.var 3) (.cons (.var 1) (.cons (.var 2) .nil)))) c s)=.ok (.obj s.length) (s++[K]):=λx s=>by
  show eV F1 F2 (.new (zu 0) (.cons (.var 3) (.cons (.var 1) (.cons (.var 2) .nil)))) [.val x,.val (wk sl cl pr),.val (sp a b),.val (fl aa)] s=_;have r:bf (F1 s) (.cons (.var 3) (.cons (.var 1) (.cons (.var 2) .nil))) [.val x,.val (wk sl cl pr),.val (sp a b),.val (fl aa)]=.ok [fl aa,wk sl cl pr,sp a b]:=by dsimp! only [J]
  rw [eV,r,yA,iG];exact SU q L op s
 have t:kR (F1 []) (.mv (.cst (.int 3))) [.val d,.val (fl aa),.val (wk sl cl pr),.val e,.val (sp a b),f,g,h,i,j,k,m,o,p]=.ok [.int 0,.int 1,.int 2]:=by dsimp! only [J];rfl
 refine{[K,K,K],?_,λn u=>{L,V,op,.aL,?_,.inl rfl}}
 .rw [eV,t,yA,iG,if_pos (show [PV.int 0,PV.int 1,PV.int 2].length<cV from(by decide:3<cV))];show((bD (λx s=>(Rs.of ((Tg.one 0).put x (kq 1 .no++[.val (wk sl cl pr),.val (sp a b),.val (fl aa)])) s).bind (λc s=>eV F1 F2 (.new (zu 0) (.cons (.var 3) (.cons (.var 1) (.cons (.var 2) .nil)))) c s)) [.int 0,.int 1,.int 2] []).bind _)=_;simp! [bD,one];rfl
 .match n,u with
  |0,_=>rfl|1,_=>rfl|2,_=>rfl
abbrev lM:oz:=(.cons (.set 9 nE)
 (.cons (.set 10 (tE 2))
 (.cons (.p (.set 11 (.call (zu 1) (.cons (.var 0) (.cons (.cst (.int 60)) (.cons (.bin .add (.blt .len (.cons (.fY 6) .nil)) (.cst (.int 1))) .nil))))))
 (.cons (.p (.bw 6))
 (.cons (.cL (.two 7 12) (.enum (.tup (.cons (.var 6) (.cons (.bin .add (.slice (.fY 6) (.some (.var 11)) .no) (.slice (.fY 6) .no (.some (.var 11)))) (.cons (.var 6) .nil))))) oB)
 lE)))))
def GQ{P:List Pt}{h:Nat}(c:Jc a b w h P)(m:Nat):Jc a b w h (P.drop m++P.take m):=by
 have d:(P.drop m++P.take m).Perm P:=by have:=List.perm_append_comm (l₁:=P.drop m) (l₂:=P.take m);rw [List.take_append_drop] at this;exact this
 exact{λq e=>c.Io q (d.mem_iff.1 e),(d.map _).nodup_iff.2 c.nd}
theorem Xo{c d:Option Int}:fJ (.lst xs) c d=.ok (.lst (jY xs c d)):=rfl
theorem V2{x y:List PV}:binOp .add (.lst x) (.lst y)=if x.length+y.length<=cV then .ok (.lst (x++y)) else .bad:=rfl
def DF{st:S}{c:oz}{d:Sl}(h:dj (F1 s) st env=.ok (.nx d)):aP F1 F2 (.cons (.p st) c) env s=aP F1 F2 c d s:=by rw [aP,fO,h,yA,iG,sM]
def Lg(A:FK F1)(u:P8 F2 sl cl pr a b w)(p:Told F2 sl cl pr a b w)(q:A0 F2 sl cl pr a b w)(y:Cut F2 sl cl pr a b w)(L:Fl aa w)(V:Wk cl pr)(op:da aa a b=hQ){P:List Pt}(j:Jc a b w aa.length P)(hl:P.length<=6)(ns:List Int)(c:PV)(d e g:Slot):
 ∃s',aP F1 F2 lM [.val (eG ns),.val (fl aa),.val (wk sl cl pr),.val c,.val (sp a b),d,.own (.lst (P.map fI)),e,g,.no,.no,.no,.no,.no] []=.ok (.rt (.bl hQ)) s':=by
 let(r,e1,z):=made (F1:=F1) u L V op (eG ns) c d (.own (.lst (P.map fI))) e g .no .no .no .no .no;have B:aE (F1 r) (.sub (.var 9) (.cst (.int (2:Nat)))) [.val (eG ns),.val (fl aa),.val (wk sl cl pr),.val c,.val (sp a b),d,.own (.lst (P.map fI)),e,g,.val kl,.no,.no,.no,.no]=.ok (.obj 2):=by dsimp! only [uy (n:=2) (by decide)]
 let(h,i,C,t2,k2):=yO (F1:=F1) (n:=2) p z (by decide) B;let(m,D,E,m1):=(A.f i).pick ns 60 ((P.length:Int)+1) (by decide) (by lia);let(m,rfl):=gz E;have hm:m<=(P.map fI).length:=by rw [zzl];lia
 have S:cV=1000000:=rfl;have F:dj (F1 i) (.set 11 (.call (zu 1) (.cons (.var 0) (.cons (.cst (.int 60)) (.cons (.bin .add (.blt .len (.cons (.fY 6) .nil)) (.cst (.int 1))) .nil))))) [.val (eG ns),.val (fl aa),.val (wk sl cl pr),.val c,.val (sp a b),d,.own (.lst (P.map fI)),e,g,.val kl,.val h,.no,.no,.no]=.ok (.nx [.val (eG ns),.val (fl aa),.val (wk sl cl pr),.val c,.val (sp a b),d,.own (.lst (P.map fI)),e,g,.val kl,.val h,.val (.int m),.no,.no]):=by dsimp! only [zzl,D]
 have G:dj (F1 i) (.bw 6) [.val (eG ns),.val (fl aa),.val (wk sl cl pr),.val c,.val (sp a b),d,.own (.lst (P.map fI)),e,g,.val kl,.val h,.val (.int m),.no,.no]=.ok (.nx [.val (eG ns),.val (fl aa),.val (wk sl cl pr),.val c,.val (sp a b),d,.val (.lst (P.map fI)),e,g,.val kl,.val h,.val (.int m),.no,.no]):=by dsimp! only [J]
 have t:=GQ j m;have H:pt aa (P.drop m++P.take m)=pt aa P:=L6 t.nd j.nd (λx=>by rw [List.mem_append,Or.comm,<-List.mem_append,List.take_append_drop]) aa;let(T,I,k,o,K,M):=outer A q y ns (fl aa) (wk sl cl pr) c (sp a b) d (.lst (P.map fI)) h (.int m) j t H e g .no .no k2;have N:((P.map fI).drop m).length+((P.map fI).take m).length<=cV:=by rw [List.length_drop,List.length_take,zzl];lia
 have O:kR (F1 i) (.enum (.tup (.cons (.var 6) (.cons (.bin .add (.slice (.fY 6) (.some (.var 11)) .no) (.slice (.fY 6) .no (.some (.var 11)))) (.cons (.var 6) .nil))))) [.val (eG ns),.val (fl aa),.val (wk sl cl pr),.val c,.val (sp a b),d,.val (.lst (P.map fI)),e,g,.val kl,.val h,.val (.int m),.no,.no]=.ok (bR 0 [.lst (P.map fI),.lst ((P.drop m++P.take m).map fI),.lst (P.map fI)]):=by dsimp! only [Xo,Bj _ hm,Bi _ hm,V2,if_pos N,List.map_append,List.map_drop,List.map_take]
 let(Q,R):=JR (F1:=F1) p q L j t2 (eG ns) (wk sl cl pr) c (sp a b) d (.int 2) (.int m) I k o M (by lia);refine{Q,?_};rw [lM,aP,fO,e1,iG,iG,sM];show aP F1 F2 _ [.val (eG ns),.val (fl aa),.val (wk sl cl pr),.val c,.val (sp a b),d,.own (.lst (P.map fI)),e,g,.val kl,.no,.no,.no,.no] r=_;rw [aP,fO]
 erw [C]
 rw [iG,iG,sM];show aP F1 F2 _ [.val (eG ns),.val (fl aa),.val (wk sl cl pr),.val c,.val (sp a b),d,.own (.lst (P.map fI)),e,g,.val kl,.val h,.no,.no,.no] i=_;rw [DF F,DF G,aP,fO,O,yA,iG];show((df (QE F1 F2) _ _ i).bind _)=_;rw [K,iG,sM];exact R
variable{F:aF}
theorem xC{c:Type}:∀{l:List c} {m:Nat} {p:c},l[m]?=hG p->(p::l.eraseIdx m).Perm l
 |[],m,p,h=>by simp at h|x::l,0,p,h=>by cases h;exact .refl _
 |x::l,m+1,p,h=>by have:=xC (l:=l) (m:=m) (p:=p) (zx6 h);exact(List.Perm.swap x p _).trans (this.cons x)
def Bs{c d:Type}(f:c->d)(l:List c)(m:Nat):(l.map f).eraseIdx m=(l.eraseIdx m).map f:=by rw [List.eraseIdx_eq_take_drop_succ,List.eraseIdx_eq_take_drop_succ,List.map_append,List.map_take,List.map_drop]
def Mf{i:Nat}{e:Ci.E}(h:env[i]?=hG (.own (.lst xs)))(he:aE F e env=.ok p)(c:kh p=hQ)(d:xs.all kh=hQ)(f:xs.findIdx? (λy=>eqv y p)=hG j):dj F (.Dk i e) env=.ok (.nx (env.set i (.own (.lst (xs.eraseIdx j))))):=by unfold dj;rw [h];simp! [he,Res.bind,c,d,Bool.and_self,if_true,f]
def L4{i:Nat}{e:Ci.E}{m:Nat}(h:env[i]?=hG (.own (.lst xs)))(he:aE F e env=.ok (.int m))(c:xs[m]?=hG q)(hl:xs.length<cV):dj F (.iF j i e) env=.ok (.nx ((env.set i (.own (.lst (xs.eraseIdx m)))).set j (.val q))):=by have hm:=(bV.1 c).1;unfold dj;rw [h];simp! [he,Res.bind];rw [if_pos {by lia,by lia,hl},g7,c];rfl
structure Lf(a b w h:Nat)(lf:List (Nat×Nat))(P:List Pt):Prop where
 nd:(lf++P.map (·.1)).Nodup
 Io:∀q∈lf,q.1<h/\q.2<w/\¬(q.1=a/\q.2=b)
 pin:∀q∈P,q.1.1<h/\q.1.2<w/\vw q.2/\¬(q.1.1=a/\q.1.2=b)
 le:lf.length<=36
def Lf.Xe{h:Nat}{c:List (Nat×Nat)}{P:List Pt}(L:Lf a b w h c P):Jc a b w h P:={L.pin,(List.nodup_append.1 L.nd).2.1}
def Lf.pop{h m x:Nat}{c:List (Nat×Nat)}{P:List Pt}{p:Nat×Nat}(L:Lf a b w h c P)(hm:c[m]?=hG p)(f:vw x):Lf a b w h (c.eraseIdx m) (P++[(p,x)]):=by
 have g:=xC hm;have e:=L.Io p (a7 hm);refine{?_,λq d=>L.Io q (List.mem_of_mem_eraseIdx d),λq d=>?_,ee (List.eraseIdx_sublist ..).length_le L.le}
 .have i:(c.eraseIdx m++(P++[(p,x)]).map (·.1)).Perm (c++P.map (·.1)):=by
   rw [List.map_append,<-List.append_assoc];show((c.eraseIdx m++P.map (·.1))++[p]).Perm _;refine List.perm_append_comm.trans ?_;show(p::(c.eraseIdx m++P.map (·.1))).Perm _;rw [<-List.cons_append];exact g.append_right _
  exact i.nodup_iff.2 L.nd
 .rcases List.mem_append.1 d with d|d
  .exact L.pin q d
  .rw [eM.1 d];exact⟨e.1,e.2.1,f,e.2.2⟩
def Tr{m:Int}(c:0<=m)(d:m<8):∃x,vw x/\aZ (.str "##012359") (.int m)=.ok (.str {#[x]}):=by
 have:m=0\/m=1\/m=2\/m=3\/m=4\/m=5\/m=6\/m=7:=by lia
 rcases this with rfl|rfl|rfl|rfl|rfl|rfl|rfl|rfl
 .exact{35,.inl rfl,rfl}
 .exact{35,.inl rfl,rfl}
 .exact{48,.inr (by decide),rfl}
 .exact{49,.inr (by decide),rfl}
 .exact{50,.inr (by decide),rfl}
 .exact{51,.inr (by decide),rfl}
 .exact{53,.inr (by decide),rfl}
 .exact{57,.inr (by decide),rfl}
abbrev aB:Ss:=#v[.ite (.cmp .ne (.fY 5) (.lst .nil)) #v[.iF 8 5 (.call (zu 1) #v[!0,.bin .add (¬46) (.bin .mul (¬2) (!7)),.blt .len #v[.fY 5]]),.app 6 (.tup #v[!8,.sub (.cst (.str "##012359")) (.call (zu 1) #v[!0,.bin .add (¬47) (.bin .mul (¬2) (!7)),¬8])])] .nil]
noncomputable abbrev eA(ns:List Int)(c d e f:PV)(g:List (Nat×Nat))(P:List Pt)(h i:Slot):Sl:=[.val (eG ns),.val c,.val d,.val e,.val f,.own (.lst (g.map bA)),.own (.lst (P.map fI)),h,i,.no,.no,.no,.no,.no]
def SS(c:List (Nat×Nat)):iU (.lst (c.map bA)) (.lst [])=.ok (.bl (!c.isEmpty)):=by
 have h:Ci.plain 9 (.lst (c.map bA))=hQ:=by show(c.map bA).all (Ci.plain 8)=hQ;rw [List.all_map];exact ed.2 λZ Z=>rfl
 show(if(kh (.lst (c.map bA))&&kh (.lst []))=hQ then Res.ok (PV.bl (!eqv (.lst (c.map bA)) (.lst []))) else .bad)=_;rw [show kh (.lst (c.map bA))=hQ from h];cases c<;>rfl
def PN(hk:i9 F)(ns:List Int)(f g o q:PV){h:Nat}{d:List (Nat×Nat)}{P:List Pt}(L:Lf a b w h d P)(Z:P.length<=5)(k:Nat)(r:Slot):∃z u G,bj F aB (eA ns f g o q d P (.val (.int k)) r)=.ok (.nx (eA ns f g o q z u (.val (.int k)) G))/\Lf a b w h z u/\u.length<=P.length+1:=by
 have hL:cV=1000000:=rfl;have ne:=SS d;have C:aK 2=hQ:=by decide
 cases d with
 |nil=>refine{[],P,r,?_,L,by lia};have ne:iU (.lst []) (.lst [])=.ok (.bl hU):=rfl;dsimp! only [aB,ne]|cons p0 e=>
  let(m,H,I,m1):=hk ns (46+2*k) (((p0::e).length:Nat):Int) (by lia) (by simp);let(m,rfl):=gz I;let(t,K,M,N):=hk ns (47+2*k) 8 (by lia) (by decide);let(x,O,ex):=Tr M N;have hm:m<(p0::e).length:=by lia
  obtain⟨p,D⟩:∃p,(p0::e)[m]?=hG p:={_,zzg hm};have ne:iU (.lst ((p0::e).map bA)) (.lst [])=.ok (.bl hQ):=ne;generalize p0::e=d at *
  have Q:(d.map bA)[m]?=hG (bA p):=by rw [dV,D];rfl
  have R:aE F (.call (zu 1) (.cons (.var 0) (.cons (.bin .add (.cst (.int 46)) (.bin .mul (.cst (.int 2)) (.var 7))) (.cons (.blt .len (.cons (.fY 5) .nil)) .nil)))) (eA ns f g o q d P (.val (.int k)) r)=.ok (.int m):=by dsimp! only [zzl,C,Bool.true_or,if_true,H]
  have S:=L4 (j:=8) (env:=eA ns f g o q d P (.val (.int k)) r) (i:=5) rfl R Q (by rw [zzl];have:=L.le;lia);refine{d.eraseIdx m,P++[(p,x)],.val (bA p),?_,L.pop D O,by simp};have c:(P.map fI).length<cV:=by rw [zzl];lia
  have T:dj F (.iF 8 5 (.call (zu 1) (.cons (.var 0) (.cons (.bin .add (.cst (.int 46)) (.bin .mul (.cst (.int 2)) (.var 7))) (.cons (.blt .len (.cons (.fY 5) .nil)) .nil))))) (eA ns f g o q d P (.val (.int k)) r)=.ok (.nx (eA ns f g o q (d.eraseIdx m) P (.val (.int k)) (.val (bA p)))):=by rw [S,Bs];rfl
  have U:dj F (.app 6 (.tup (.cons (.var 8) (.cons (.sub (.cst (.str "##012359")) (.call (zu 1) (.cons (.var 0) (.cons (.bin .add (.cst (.int 47)) (.bin .mul (.cst (.int 2)) (.var 7))) (.cons (.cst (.int 8)) .nil))))) .nil)))) (eA ns f g o q (d.eraseIdx m) P (.val (.int k)) (.val (bA p)))=.ok (.nx (eA ns f g o q (d.eraseIdx m) (P++[(p,x)]) (.val (.int k)) (.val (bA p)))):=by dsimp! only [C,Bool.true_or,if_true,K,ex,zzl,if_pos (show P.length<cV by lia)];unfold eA;rw [List.map_append];rfl
  have V:aE F (.cmp .ne (.fY 5) (.lst .nil)) (eA ns f g o q d P (.val (.int k)) r)=.ok (.bl hQ):=by dsimp! only [ne]
  have W:∀(c:Ci.E) (A B:Ss) (env y:Sl),aE F c env=.ok (.bl hQ)->bj F A env=.ok (.nx y)->bj F (.cons (.ite c A B) .nil) env=.ok (.nx y):=λc A B env y X Y=>by rw [bj,dj,X];show((bj F A env).bind _)=_;rw [Y];simp! [Res.bind,Fl.seq,bj]
  refine W _ _ _ _ _ V ?_;rw [bj,T];show bj F _ _=_;rw [bj,U];simp! [Res.bind,Fl.seq,bj]
noncomputable abbrev aT(F:aF):PV->Sl->Res Ci.Fl:=λx env=>((Tg.one 7).put x env).bind λc=>bj F aB c
def OK(hk:i9 F)(ns:List Int)(g k m o:PV){h:Nat}{q:List (Nat×Nat)}(L:Lf a b w h q [])(n:Nat)(G:n<=5):∃d c p f,forL (aT F) (dF 0 n) (eA ns g k m o q [] .no .no)=.ok (.nx (eA ns g k m o d c p f))/\Lf a b w h d c/\c.length<=n:=by
 let(H,e,d,c,p,f,rfl,z,hl):=eW (body:=aT F) (P:=λj env=>∃d c p f,env=eA ns g k m o d c p f/\Lf a b w h d c/\c.length<=j) (dF 0 n) 0 (eA ns g k m o q [] .no .no) {q,[],.no,.no,rfl,L,a8 _} (by
  rintro i x env r ⟨t,A,I,y,rfl,B,K⟩
  have C:i<n:=by have:=(bV.1 r).1;simpa [dF] using this
  have ex:x=.int (i:Int):=by rw [dF,dV,List.getElem?_range C] at r;cases r;exact congrArg PV.int (Int.zero_add _)
  subst ex;let(u,D,f,E,L2,M):=PN (F:=F) hk ns g k m o B (by lia) i y;refine{_,?_,u,D,.val (.int i),f,rfl,L2,by lia};show bj F aB (eA ns g k m o t A (.val (.int i)) y)=_;exact E)
 refine{d,c,p,f,e,z,?_};have:(dF 0 n).length=n:=by simp [dF]
 lia
abbrev f7(h w:Nat):List (Nat×Nat):=(List.range (h*w)).map λk=>(k/w,k%w)
def ud{h w r c:Nat}(d:0<w):(r,c)∈f7 h w↔r<h/\c<w:=by
 unfold f7;rw [gI];constructor
 .rintro ⟨k,hk,e⟩
  cases e;have:=List.mem_range.1 hk;exact{(Nat.div_lt_iff_lt_mul d).2 this,Nat.mod_lt _ d}
 .rintro ⟨g,f⟩
  refine{w*r+c,List.mem_range.2 ?_,?_}
  .have:w*(r+1)<=w*h:=Nat.mul_le_mul_left w g;rw [Nat.mul_succ] at this;rw [Nat.mul_comm h w];lia
  .rw [Nat.mul_add_div d,Nat.div_eq_of_lt f,Nat.mul_add_mod,Nat.mod_eq_of_lt f];rfl
def xP(h w:Nat):(f7 h w).Nodup:=by unfold f7;refine List.pairwise_map.2 (List.nodup_range.imp λ{k l} ne e=>ne ?_);have e1:k/w=l/w:=congrArg Prod.fst e;have c:k%w=l%w:=congrArg Prod.snd e;rw [<-Nat.div_add_mod k w,<-Nat.div_add_mod l w,e1,c]
def HZ(q:Nat×Nat):eqv (bA q) (sp a b)=decide (q=(a,b)):=by
 show((q.1:Int)==(a:Int)&&((q.2:Int)==(b:Int)&&hQ))=_;rw [Bool.eq_iff_iff,Bool.and_true,zza,zzy,zzy,zzN];constructor
 .rintro ⟨c,d⟩;exact Prod.ext (by lia) (by lia)
 .rintro rfl;exact⟨rfl,rfl⟩
def Xi{h w:Nat}(m:a<h)(o:b<w)(p:h*w<=36):∃j,((f7 h w).map bA).findIdx? (λy=>eqv y (sp a b))=hG j/\Lf a b w h ((f7 h w).eraseIdx j) []:=by
 have hm:(a,b)∈f7 h w:=(ud (by lia)).2 ⟨m,o⟩;have hs:(((f7 h w).map bA).findIdx? (λy=>eqv y (sp a b))).isSome=hQ:=by rw [List.findIdx?_isSome,eQ];exact{bA (a,b),gI.2 {_,hm,rfl},(HZ (a,b)).trans (zzh rfl)}
 let(j,f):=fx.1 hs;refine{j,f,?_,?_,(λq d=>nomatch d),?_}
 .rw [List.map_nil,hD];exact List.Pairwise.sublist (List.eraseIdx_sublist ..) (xP h w)
 .intro q d;have:=(ud (r:=q.1) (c:=q.2) (h:=h) (w:=w) (by lia)).1 (List.mem_of_mem_eraseIdx d);refine{this.1,this.2,λz=>?_};let(i,t,e):=List.mem_eraseIdx_iff_getElem?.1 d;let(hl,g,_):=List.findIdx?_eq_some_iff_getElem.1 f;rw [List.getElem_map,HZ,zzN] at g;have k:j<(f7 h w).length:=zx6 hl;have u:(f7 h w)[j]?=hG (a,b):=by rw [zzg k,g]
  have A:q=(a,b):=Prod.ext z.1 z.2;rw [A,<-u] at e;exact t (((List.getElem?_inj k (xP h w)).1 e.symm).symm)
 .refine ee (List.eraseIdx_sublist ..).length_le ?_;unfold f7;rw [zzl,List.length_range];exact p
structure FA(F:aF):Prop where
 Wf:∀ns,∃aa w,Fl aa w/\F (zu 21) [eG ns,.int 0,.int 5]=.ok (fl aa)
 PX:∀ns,∃sl cl pr,Wk cl pr/\F (zu 15) [eG ns,.int 40]=.ok (wk sl cl pr)
structure FM(F2:eT):Prop where
 W5:∀sl cl pr a b w,P8 F2 sl cl pr a b w
 told:∀sl cl pr a b w,Told F2 sl cl pr a b w
 put:∀sl cl pr a b w,A0 F2 sl cl pr a b w
 cut:∀sl cl pr a b w,Cut F2 sl cl pr a b w
noncomputable abbrev e1(ns:List Int)(c d e f g h:Slot):Sl:=[.val (eG ns),c,d,e,f,g,h,.no,.no,.no,.no,.no,.no,.no]
abbrev lA:oz:=(.cons (.p (.own 5 (.comp 1 [1] (.one 0) (.mv (.bin .mul (.blt .len (.cons (.var 1) .nil)) (.blt .len (.cons (.sub (.var 1) (.cst (.int 0))) .nil)))) (.tup (.cons (.bin .fdiv (.var 0) (.blt .len (.cons (.sub (.var 1) (.cst (.int 0))) .nil))) (.cons (.bin .mod (.var 0) (.blt .len (.cons (.sub (.var 1) (.cst (.int 0))) .nil))) .nil))))))
 (.cons (.p (.Dk 5 (.var 4)))
 (.cons (.p (.own 6 (.lst .nil)))
 (.cons (.p (.cL (.one 7) (.mv (.call (zu 1) (.cons (.var 0) (.cons (.cst (.int 45)) (.cons (.cst (.int 6)) .nil))))) aB))
 lM))))
abbrev lS:oz:=(.cons (.p (.set 1 (.call (zu 21) (.cons (.var 0) (.cons (.cst (.int 0)) (.cons (.cst (.int 5)) .nil))))))
 (.cons (.p (.set 2 (.call (zu 15) (.cons (.var 0) (.cons (.cst (.int 40)) .nil)))))
 (.cons (.p (.set 3 (.call (zu 6) (.cons (.var 1) .nil))))
 (.cons (.p (.ite (.cmp .eq (.var 3) (.lst .nil))
  (.cons (.ret (.cst (.bl hQ)))
  .nil)
  .nil))
 (.cons (.p (.set 4 (.sub (.var 3) (.call (zu 1) (.cons (.var 0) (.cons (.cst (.int 44)) (.cons (.blt .len (.cons (.var 3) .nil)) .nil)))))))
 lA)))))
def RA(c:List (Nat×Nat)):gH (.lst (c.map bA)) (.lst [])=.ok (.bl c.isEmpty):=by
 have h:Ci.plain 9 (.lst (c.map bA))=hQ:=by show(c.map bA).all (Ci.plain 8)=hQ;rw [List.all_map];exact ed.2 λZ Z=>rfl
 show(if(kh (.lst (c.map bA))&&kh (.lst []))=hQ then Res.ok (PV.bl (eqv (.lst (c.map bA)) (.lst []))) else .bad)=_;rw [show kh (.lst (c.map bA))=hQ from h];cases c<;>rfl
def OG(A:FK F1)(M:FM F2){aa:List Str}{w:Nat}(L:Fl aa w){sl:Bool}{pr:Int}(V:Wk cl pr){a b:Nat}(op:da aa a b=hQ)(ns:List Int)(c:PV):∃s',aP F1 F2 lA (e1 ns (.val (fl aa)) (.val (wk sl cl pr)) (.val c) (.val (sp a b)) .no .no) []=.ok (.rt (.bl hQ)) s':=by
 have d:0<aa.length:=L.ne;have E:aa.length<=6:=L.o8.1;have H:aa[0]?=hG aa[0]:=zzg d;have q:(aa[0]).length=w:=L.o5 _ (List.getElem_mem d);have r:w<=6:=by rw [<-q];exact L.o8.2 _ (List.getElem_mem d)
 have w1:=L.w1;have t:aZ (fl aa) (.int 0)=.ok (.str aa[0]):=rQ H;have u:eE .len [.str aa[0]]=.ok (.int w):=by show(if(aa[0]).length<=cV then Res.ok (PV.int ((aa[0]).length:Int)) else .bad)=_;rw [q,if_pos (ee r (by decide))]
 have I:eE .len [fl aa]=.ok (.int aa.length):=by show Res.ok (PV.int (aa.map PV.str).length)=_;rw [zzl]
 have hL:cV=1000000:=rfl;have K:aa.length*w<=36:=Nat.mul_le_mul E r
 have mul:binOp .mul (.int aa.length) (.int w)=.ok (.int ((aa.length*w:Nat):Int)):=by
  show(if(aK aa.length||aK w)=hQ then Res.ok (PV.int ((aa.length:Int)*(w:Int))) else .bad)=_;have:aK w=hQ:=by unfold aK;rw [zza,zzN,zzN];lia
  rw [this,Bool.or_true,if_pos rfl,Int.natCast_mul]
 have N:aU ((aa.length*w:Nat):Int)=hQ:=by unfold aU;rw [zza,zzN,zzN];lia
 have O:dj (F1 []) (.own 5 (.comp 1 [1] (.one 0) (.mv (.bin .mul (.blt .len (.cons (.var 1) .nil)) (.blt .len (.cons (.sub (.var 1) (.cst (.int 0))) .nil)))) (.tup (.cons (.bin .fdiv (.var 0) (.blt .len (.cons (.sub (.var 1) (.cst (.int 0))) .nil))) (.cons (.bin .mod (.var 0) (.blt .len (.cons (.sub (.var 1) (.cst (.int 0))) .nil))) .nil))))) (e1 ns (.val (fl aa)) (.val (wk sl cl pr)) (.val c) (.val (sp a b)) .no .no)=.ok (.nx (e1 ns (.val (fl aa)) (.val (wk sl cl pr)) (.val c) (.val (sp a b)) (.own (.lst ((f7 aa.length w).map bA))) .no)):=by
  have e:aY (λx=>((Tg.one 0).put x (kq 1 .no++eK (e1 ns (.val (fl aa)) (.val (wk sl cl pr)) (.val c) (.val (sp a b)) .no .no) [1])).bind λQ=>(aE (F1 []) (.tup (.cons (.bin .fdiv (.var 0) (.blt .len (.cons (.sub (.var 1) (.cst (.int 0))) .nil))) (.cons (.bin .mod (.var 0) (.blt .len (.cons (.sub (.var 1) (.cst (.int 0))) .nil))) .nil))) Q).bind λp=>.ok (hG p)) (dF 0 (aa.length*w))=.ok ((f7 aa.length w).map bA):=by
   unfold dF f7;rw [List.map_map];refine kM (p:=λi:Nat=>PV.int (0+(i:Int))) (g:=bA∘λk=>(k/w,k%w)) λk hk=>?_;show((aE (F1 []) _ [.val (.int (0+(k:Int))),.val (fl aa)]).bind _)=_;have d1:binOp .fdiv (.int (0+(k:Int))) (.int w)=.ok (.int ((k/w:Nat):Int)):=by rw [Jm,if_pos {by lia,by lia},Int.zero_add,Int.natCast_ediv]
   have d2:binOp .mod (.int (0+(k:Int))) (.int w)=.ok (.int ((k%w:Nat):Int)):=by show(if 0<(w:Int) then Res.ok (PV.int ((0+(k:Int))%(w:Int))) else .bad)=_;rw [if_pos (by lia),Int.zero_add,Int.natCast_emod]
   dsimp! only [t,u,d1,d2];rfl
  have h:kR (F1 []) (.mv (.bin .mul (.blt .len (.cons (.var 1) .nil)) (.blt .len (.cons (.sub (.var 1) (.cst (.int 0))) .nil)))) (e1 ns (.val (fl aa)) (.val (wk sl cl pr)) (.val c) (.val (sp a b)) .no .no)=.ok (dF 0 (aa.length*w)):=by dsimp! only [t,u,I,mul,N,if_true,g7]
  have R:(dF 0 (aa.length*w)).length<cV:=by unfold dF;rw [zzl,List.length_range];lia
  rw [dj,aE,h];show((if(dF 0 (aa.length*w)).length<cV then(aY _ (dF 0 (aa.length*w))).bind _ else Res.bad).bind _)=_;rw [if_pos R,e];rfl
 have y:a<aa.length/\b<w:=by
  rw [yi] at op;have:(cd aa a b).isSome=hQ:=by
   cases S:cd aa a b with
   |some _=>rfl|none=>unfold uP at op;rw [S] at op;exact op
  unfold cd at this;by_cases o:a<aa.length
  .rw [zzg o] at this;have hl:=L.o5 _ (List.getElem_mem o);let(x,T):=fx.1 this;have:=(bV.1 T).1;rw [ey] at this;refine{o,?_};rw [<-hl];exact this
  .rw [List.getElem?_eq_none (by lia)] at this;cases this
 let(j,U,z):=Xi (a:=a) (b:=b) y.1 y.2 K
 have B:dj (F1 []) (.Dk 5 (.var 4)) (e1 ns (.val (fl aa)) (.val (wk sl cl pr)) (.val c) (.val (sp a b)) (.own (.lst ((f7 aa.length w).map bA))) .no)=.ok (.nx (e1 ns (.val (fl aa)) (.val (wk sl cl pr)) (.val c) (.val (sp a b)) (.own (.lst (((f7 aa.length w).eraseIdx j).map bA))) .no)):=by
  have W:aE (F1 []) (.var 4) (e1 ns (.val (fl aa)) (.val (wk sl cl pr)) (.val c) (.val (sp a b)) (.own (.lst ((f7 aa.length w).map bA))) .no)=.ok (sp a b):=by dsimp! only [J]
  have:=Mf (F:=F1 []) (i:=5) (env:=e1 ns (.val (fl aa)) (.val (wk sl cl pr)) (.val c) (.val (sp a b)) (.own (.lst ((f7 aa.length w).map bA))) .no) (xs:=(f7 aa.length w).map bA) rfl W rfl (by rw [List.all_map];exact ed.2 λ_ _=>rfl) U;rw [this,Bs];rfl
 generalize (f7 aa.length w).eraseIdx j=G at z B;have X:dj (F1 []) (.own 6 (.lst .nil)) (e1 ns (.val (fl aa)) (.val (wk sl cl pr)) (.val c) (.val (sp a b)) (.own (.lst (G.map bA))) .no)=.ok (.nx (eA ns (fl aa) (wk sl cl pr) c (sp a b) G [] .no .no)):=by dsimp! only [J];rfl
 let(m,Y,Z,m1):=(A.f []).pick ns 45 6 (by decide) (by decide);let(m,rfl):=gz Z;let(AM,P,C,D,eL,LP,hP):=OK (F:=F1 []) (A.f []).pick ns (fl aa) (wk sl cl pr) c (sp a b) z m (by lia);have sm:aU (m:Int)=hQ:=by unfold aU;rw [zza,zzN,zzN];lia
 have f4:dj (F1 []) (.cL (.one 7) (.mv (.call (zu 1) (.cons (.var 0) (.cons (.cst (.int 45)) (.cons (.cst (.int 6)) .nil))))) aB) (eA ns (fl aa) (wk sl cl pr) c (sp a b) G [] .no .no)=.ok (.nx (eA ns (fl aa) (wk sl cl pr) c (sp a b) AM P C D)):=by
  have h:kR (F1 []) (.mv (.call (zu 1) (.cons (.var 0) (.cons (.cst (.int 45)) (.cons (.cst (.int 6)) .nil))))) (eA ns (fl aa) (wk sl cl pr) c (sp a b) G [] .no .no)=.ok (dF 0 m):=by dsimp! only [Y,sm,if_true,g7]
  rw [dj,h];exact eL
 rw [lA,DF O,DF B,DF X,DF f4];exact Lg A (M.W5 _ _ _ _ _ _) (M.told _ _ _ _ _ _) (M.put _ _ _ _ _ _) (M.cut _ _ _ _ _ _) L V op LP.Xe (by lia) ns c _ C D
def OH(A:FK F1)(B:∀s,FA (F1 s))(M:FM F2)(ns:List Int):∃s',aP F1 F2 lS (e1 ns .no .no .no .no .no .no) []=.ok (.rt (.bl hQ)) s':=by
 let(aa,w,L,h):=(B []).Wf ns;let(sl,cl,pr,V,i):=(B []).PX ns;let(S,j,o):=(A.f []).IJ aa L.o8;have q:dj (F1 []) (.set 1 (.call (zu 21) (.cons (.var 0) (.cons (.cst (.int 0)) (.cons (.cst (.int 5)) .nil))))) (e1 ns .no .no .no .no .no .no)=.ok (.nx (e1 ns (.val (fl aa)) .no .no .no .no .no)):=by dsimp! only [h]
 have r:dj (F1 []) (.set 2 (.call (zu 15) (.cons (.var 0) (.cons (.cst (.int 40)) .nil)))) (e1 ns (.val (fl aa)) .no .no .no .no .no)=.ok (.nx (e1 ns (.val (fl aa)) (.val (wk sl cl pr)) .no .no .no .no)):=by dsimp! only [i]
 have t:dj (F1 []) (.set 3 (.call (zu 6) (.cons (.var 1) .nil))) (e1 ns (.val (fl aa)) (.val (wk sl cl pr)) .no .no .no .no)=.ok (.nx (e1 ns (.val (fl aa)) (.val (wk sl cl pr)) (.val (.lst (S.map bA))) .no .no .no)):=by dsimp! only [j]
 rw [lS,DF q,DF r,DF t];cases u:S with
 |nil=>
  refine{[],?_};have d:gH (.lst []) (.lst [])=.ok (.bl hQ):=rfl;have e:dj (F1 []) (.ite (.cmp .eq (.var 3) (.lst .nil)) (.cons (.ret (.cst (.bl hQ))) .nil) .nil) (e1 ns (.val (fl aa)) (.val (wk sl cl pr)) (.val (.lst (([]:List (Nat×Nat)).map bA))) .no .no .no)=.ok (.rt (.bl hQ)):=by dsimp! only [d]
  rw [aP,fO,e];rfl
 |cons p0 c=>
  have d:gH (.lst ((p0::c).map bA)) (.lst [])=.ok (.bl hU):=RA (p0::c);have hl:0<(p0::c).length:=by simp
  generalize p0::c=H at *
  subst u;let(m,y,z,m1):=(A.f []).pick ns 44 (S.length:Int) (by decide) (by lia);let(m,rfl):=gz z;obtain⟨p,g⟩:∃p,S[m]?=hG p:={_,zzg (by lia)};have C:da aa p.1 p.2=hQ:=yi.trans ((o.mem p.1 p.2).1 (a7 g));have D:aZ (.lst (S.map bA)) (.int m)=.ok (bA p):=by let(E,rfl):=bV.1 g;simp! [aZ];rw [mU (k:=m) (zx6 E)];simp [Res.of]
  have e:dj (F1 []) (.ite (.cmp .eq (.var 3) (.lst .nil)) (.cons (.ret (.cst (.bl hQ))) .nil) .nil) (e1 ns (.val (fl aa)) (.val (wk sl cl pr)) (.val (.lst (S.map bA))) .no .no .no)=.ok (.nx (e1 ns (.val (fl aa)) (.val (wk sl cl pr)) (.val (.lst (S.map bA))) .no .no .no)):=by dsimp! only [d]
  have G:dj (F1 []) (.set 4 (.sub (.var 3) (.call (zu 1) (.cons (.var 0) (.cons (.cst (.int 44)) (.cons (.blt .len (.cons (.var 3) .nil)) .nil)))))) (e1 ns (.val (fl aa)) (.val (wk sl cl pr)) (.val (.lst (S.map bA))) .no .no .no)=.ok (.nx (e1 ns (.val (fl aa)) (.val (wk sl cl pr)) (.val (.lst (S.map bA))) (.val (bA p)) .no .no)):=by dsimp! only [zzl,y,D]
  rw [DF e,DF G];exact OG A M L V C ns _
end
theorem xy{F1:Sg->aF}:∀(n:Nat) {U:List (Str×D2)},((U.take n).all λx=>!(f==x.1))=hQ->dE F1 U f=dE F1 (U.drop n) f
 |0,_,_=>rfl|n+1,[],_=>rfl|n+1,(m,d)::r,h=>by
  rw [List.take_succ_cons,List.all_cons,zza,Bool.not_eq_true'] at h;refine Eq.trans ?_ (xy n h.2)
  funext as s
  simp [dE,h.1]
def EU{F1:Sg->aF}{d:D2}{r U:List (Str×D2)}(k:Nat)(a:f=g:=by decide+kernel)(h:((U.take k).all λx=>!(g==x.1))=hQ:=by decide+kernel)(e:U.drop k=(g,d)::r:=by rfl):dE F1 U f=fu F1 (dE F1 r) d:=by
 subst a;rw [xy k h,e]
 funext as s
 simp [dE]
def H9(B:aF):FF (aA B vz)/\FA (aA B vz):=by
 have pick:∀F:aF,F (zu 1)=aH (aA B Je) b9->i9 F:=λF g ns k q hk E=>by rw [g];exact GC (aA B Je) (λns k hk=>by rw [Ew];exact Er _ ns k hk) ns k q hk E
 have C:∀F:aF,F (zu 40)=aH (aA B T1) du->∀r c,F (zu 40) [sp r c]=.ok (.bl hQ):=λF g r c=>by rw [g];exact vZ _ (λi=>by rw [NS];exact rk _ i) r c
 have D:∀F:aF,F (zu 7)=aH (aA B T2) bI->∀f,pB f->∀r c,F (zu 7) [fl f,sp r c]=.ok (.bl (decide (0<=r)&&decide (0<=c)&&(cd f r.toNat c.toNat).isSome)):=λF g f R r c=>by rw [g];exact OT _ f R r c
 have y:∀F:aF,F (zu 27)=aH (aA B T3) cR->vv F:=λF g f R r c=>by rw [g];exact Gn _ (C _ NT) (D _ NU) f R r c
 have p:∀F:aF,F (zu 5)=aH (aA B T4) bJ->qz F:=λF g f R r c h=>by rw [g];exact rE _ (y _ NV) f R r c h
 have step:∀F:aF,F (zu 17)=aH (aA B Jf) bz->vy F:=λF g f w L G cl H V r c s t h I=>by rw [g];exact Hg _ (λr c s t=>by rw [Ez];exact y7 _ r c s t) (λf R r c s t=>by rw [EB];exact vK _ (y _ JE) R r c s t) (λf w L r c h=>by rw [EA];exact zL _ (p _ JD) L h) L V h I
 have K:Hz (aA B MM):=λf R r c a b d e=>by rw [ED];exact Jn _ (y _ JF) R a b d e
 have o:qC (aA B Nt):=by unfold qC;rw [EF];exact DG _ (p _ JG) K (step _ EC)
 have M:qD (aA B P9):=by unfold qD;rw [EG];exact wL _ o (step _ EE)
 have N:Jd (aA B Nu):=by unfold Jd;rw [EH];exact Hb _ M
 refine{{p _ JI,λf w L G cl H V r c h=>?_,λf R=>?_,λf R=>?_,λf w L i j z A=>?_,λx O=>?_,λf w L i j x z A=>?_,pick _ EI},{λns=>?_,λns=>?_}}
 .rw [EM];exact u4 _ (p _ JH) N L V h
 .rw [EL];let(L,e,u,l,m):=DD (aA B Rh) f R;exact⟨L,e,u,l,m⟩
 .rw [EN];let(L,e,u,l,m):=CG (aA B Rl) f R;exact⟨L,e,u,l,m⟩
 .rw [JJ];exact Ls _ (C _ NW) (D _ NX) L z A
 .rw [JK];exact uE _ (by rw [NY];exact zU _ O)
 .rw [JL];exact DT _ L x z A
 .rw [EJ];exact zE _ (pick _ Ex) ns 5 (by decide) (by decide)
 .rw [EK];exact AD _ (pick _ Ey) ns 40 (by decide)
noncomputable abbrev G1:Sg->aF:=λs=>aA (oJ s) vz
theorem fk:FK G1:={λs=>(H9 _).1,λs n d W e R h=>by
 have a:∀f,((vz.take 24).all λx=>!(bW f==x.1))=hQ->∀v,oJ s (bW f) [.obj n]=.ok v->G1 s (bW f) [.obj n]=.ok v:=λf i v c=>by show aA (oJ s) vz (bW f) [.obj n]=_;rw [m9 24 i];exact c
 have b:∀g v,(ks d W e R).fs.find? (λq=>bW q.1==g)=hG v->oJ s g [.obj n]=.ok v.2:=λg v c=>by unfold oJ;simp! [h,c]
 refine{a _ (by decide+kernel) _ (b _ ("floor",fl d) ?_),a _ (by decide+kernel) _ (b _ (zu 24,W) ?_),a _ (by decide+kernel) _ (b _ ("goal",e) ?_),a _ (by decide+kernel) _ (b _ (zu 14,R) ?_)}
 .rfl
 .rfl
 .rfl
 .rfl}
def fm:FM (dE G1 U7):=by
 have m:TV (dE G1 U4):=λs n f W B R h=>by rw [EU (U:=U4) (d:=cD) (r:=U0) (g:="Keeper.now") 3];exact Lq fk h
 have q:∀c cl e a b w,∀U:List (Str×D2),dE G1 U (jw (zu 0) "found")=fu G1 (dE G1 U1) bQ->QU (dE G1 U) c cl e a b w:=λc cl e a b w U o s n f k=>by rw [o];exact By fk k
 have cut:∀c cl e a b w,∀U:List (Str×D2),dE G1 U (jw (zu 0) (zu 28))=fu G1 (dE G1 U2) bt->Cut (dE G1 U) c cl e a b w:=λc cl e a b w U o s n f k=>by rw [o];exact zt fk (q _ _ _ _ _ _ _ (EU (g:=(zu 38)) 0)) k
 have HV:∀c cl e a b w,QT (dE G1 U4) c cl e a b w:=λc cl e a b w s n f k p t=>by rw [EU (U:=U4) (d:=bb) (r:=U3) (g:=(zu 31)) 0];exact ET fk (q _ _ _ _ _ _ _ (EU (g:=(zu 38)) 1)) k t
 refine{λc cl e a b w s n f L op h=>?_,λc cl e a b w s n f k=>?_,λc cl e a b w s n f k i j x u y z A=>?_,λc cl e a b w=>cut _ _ _ _ _ _ _ (EU (g:=(zu 26)) 4)}
 .rw [EU (U:=U7) (d:=ba) (r:=U5) (g:=(zu 32)) 1];exact Ft fk L op h
 .rw [EU (U:=U7) (d:=cM) (r:=U4) (g:=(zu 11)) 2];exact Hn fk m (HV _ _ _ _ _ _) (cut _ _ _ _ _ _ _ (EU (g:=(zu 26)) 1)) k
 .rw [EU (U:=U7) (d:=cE) (r:=U6) (g:="Keeper.put") 0];exact L9 fk k u y z A
def Ow(ns:List Int)(hl:ns.length<=63):∃s,fu G1 (dE G1 U7) xA [eG ns] []=.ok (.bl hQ) s:=by let(s,e):=OH fk (λs=>(H9 _).2) fm ns;refine{s,?_};show((aP G1 (dE G1 U7) lS (e1 ns .no .no .no .no .no .no) []).bind _)=_;rw [e];rfl
end K41
namespace Hd
open PySem.W L2
noncomputable abbrev fo(n:Str)(st:je)(a:hV)(c:h9):Obj:={.type "function",hI,.func (fnOf n n (cy st) (bC st) (az st) .none .none .none a hI (.ref c) .none),#[]}
noncomputable abbrev fm(n q:Str)(st:je)(a:hV)(c:h9):Obj:={.type "function",hI,.func (fnOf n q (cy st) (bC st) (az st) .none .none .none a hI (.ref c) .none),#[]}
noncomputable abbrev co(n:Str)(a:Nat)(L A:Int)(r:Nat)(x y:hV)(q z:Nat):Obj:={cls:=.type "code",data:=.fields #[.str n a,.str n (a+1),.str (zu 3) (a+2),.int L 0,.int A 0,.int 0 0,.int 0 0,.int 3 0,.ref r,.bool Bool.true,.int 181 0,.ref (r+1),.none,x,y,.ref q,.int z 0,.int L 0,.str (zu 3) (z+1)]}
abbrev Ry(s:je):Pos:=match s with
 |.FunctionDef _ _ _ _ _ _ _ _ _ p=>p|_=>{0,0,0,0}
def ent{K:Frag}{ts:List (h9×Str)}{n:Str}(f c:h9)(b:hV)(a:nsIn K jf n=hG (hG (.ref f)):=by kernel_rfl)(l:K.lookup f=hG (fo n st b c):=by kernel_rfl)(d:codeIn K (.ref c) n=hQ:=by kernel_rfl)(k:keepIn K (.ref f)=hQ:=by kernel_rfl):Ci.yU K ts hU n st:=Ci.Rz a l d k
def N0{K:Frag}{ts:List (h9×Str)}{n:Str}(f c p:h9)(b:hV)(e:Ci.gN K c p)(m:(p,Ci.oV n)∈ts)(u:∀q∈ts,q.1=p->q.2=Ci.oV n)(a:nsIn K jf n=hG (hG (.ref f)):=by kernel_rfl)(l:K.lookup f=hG (fo n st b c):=by kernel_rfl)(d:codeIn K (.ref c) n=hQ:=by kernel_rfl)(k:keepIn K (.ref f)=hQ:=by kernel_rfl):Ci.yU K ts hQ n st:={f,_,_,_,_,_,_,_,_,_,a,l,d,k,λZ=>{c,p,rfl,e,m,λg h=>u _ h rfl}}
def UI{K:Frag}{n:Str}(f c:h9)(b:hV)(a:nsIn K jf n=hG (hG (.ref f)):=by kernel_rfl)(l:K.lookup f=hG (fo n st b c):=by kernel_rfl)(d:codeIn K (.ref c) n=hQ:=by kernel_rfl)(k:keepIn K (.ref f)=hQ:=by kernel_rfl):Ci.AU K n n hI st:={f,_,_,_,_,_,_,_,_,_,⟨a,rfl⟩,l,d,k}
def MU{K:Frag}{n q cl:Str}(C f c:h9)(b:hV)(g:nsIn K jf cl=hG (hG (.ref C)))(e:q=Ci.jw cl n:=by decide+kernel)(a:findIn K (.ref C) n=hG (hG (.ref f)):=by kernel_rfl)(i:isFn K (.ref f)=hQ:=by kernel_rfl)(l:K.lookup f=hG (fm n q st b c):=by kernel_rfl)(d:codeIn K (.ref c) q=hQ:=by kernel_rfl)(k:keepIn K (.ref f)=hQ:=by kernel_rfl):Ci.AU K n q (hG cl) st:={f,_,_,_,_,_,_,_,_,_,⟨e,C,g,a,i⟩,l,d,k}
def a2{K:Frag}{Γ:Ci.Pg}{fl:List (Str×Str)}{r:Ci.mR}{l:Ci.hZ}(e:Ci.AU K r.m r.f r.c r.st)(s:Ci.fD Γ (Ci.mh fl l) r.m r.f r.d r.st)(t:Ci.mQ K Γ fl l)(a:(l.map (·.f)).contains r.f=hU:=by decide+kernel):Ci.mQ K Γ fl (r::l):=⟨e,s,a,t⟩
def ac{K:Frag}{ts:List (h9×Str)}{Γ:Ci.Pg}{r:Ci.Row}{l:Ci.fM}(e:Ci.yU K ts r.hl r.h r.st)(s:Ci.dH (Γ.at l r.hl) r.h r.d r.st)(t:Ci.AllK K ts Γ l)(a:(l.map (·.f)).contains r.f=hU:=by decide+kernel)(b:(r.d.i5.isNone==!Ci.dZ r.f)=hQ:=by decide+kernel)(c:r.d.i5.isNone=hQ->r.f=r.h:=by first|exact λZ=>rfl|exact λz=>absurd z (by decide))(d:Ci.Qd r.f=hU:=by decide+kernel):Ci.AllK K ts Γ (r::l):={e,s,⟨a,b,c,d⟩,t}
def Ce{K L:Frag}{b:h9}(e:K.lookup b=hG o):(K++L).lookup b=hG o:=by rw [List.lookup_append,e];rfl
end Hd
namespace K41
open L2 Ci
noncomputable abbrev lw:=PySem.Challenge.rw_cellways_k41_whole_either_order
abbrev top(i:Nat):Stmt:=PySem.Challenge.pw_cellways_k41_whole_either_order.main.body.getD i (.Pass {0,0,0,0})
abbrev NJ:je->List je
 |.ClassDef _ _ _ b _ _ _ _ _ _ _=>b|_=>[]
abbrev sI(i j:Nat):Stmt:=(NJ (top i)).getD j (.Pass {0,0,0,0})
noncomputable abbrev m1:Value:=.str "cellways.floors" 246
noncomputable abbrev m2:Value:=.str "cellways.ways" 406
noncomputable abbrev m3:Value:=.str "cellways.kept" 435
noncomputable abbrev m4:Value:=.str "law_cellways_k41_whole_either_order" 517
abbrev K(P:Params):zz8:=[(2,{cls:=.none,data:=.dict #[]}),
 (3,{cls:=.type "dict",data:=.dict #[Hd.de P (zu 35) 165 (.str "law_cellways_k41_whole_either_order" 517),Hd.de P "__doc__" 166 (.none),Hd.de P "__package__" 167 (.none),Hd.de P "__loader__" 168 (.builtin "__main__.__loader__#opaque"),Hd.de P "__spec__" 169 (.none),Hd.de P "__annotations__" 170 (.ref 6),Hd.de P "__builtins__" 171 (.ref 4),Hd.de P "__file__" 173 (.str (zu 3) 172),Hd.de P "__cached__" 174 (.none),Hd.de P "_wall" 193 (.ref 21),Hd.de P (zu 23) 213 (.ref 31),Hd.de P "NoSpot" 229 (.ref 44),Hd.de P "NoSign" 245 (.ref 56),Hd.de P "WALL" 249 (.str "#" 248),Hd.de P "SIGNS" 251 (.str (zu 16) 250),Hd.de P "STRAIGHT_COST" 253 (.int 2 252),Hd.de P "SLANTING_COST" 255 (.int 3 254),Hd.de P (zu 45) 262 (.ref 65),Hd.de P "is_sign" 269 (.ref 72),Hd.de P (zu 40) 276 (.ref 79),Hd.de P (zu 7) 284 (.ref 86),Hd.de P (zu 27) 292 (.ref 93),Hd.de P (zu 5) 300 (.ref 100),Hd.de P (zu 12) 308 (.ref 107),Hd.de P (zu 36) 315 (.ref 114),Hd.de P (zu 29) 326 (.ref 121),Hd.de P (zu 18) 338 (.ref 128),Hd.de P (zu 37) 346 (.ref 135),Hd.de P (zu 8) 357 (.ref 142),Hd.de P (zu 34) 365 (.ref 149),Hd.de P (zu 9) 374 (.ref 156),Hd.de P (zu 17) 387 (.ref 163),Hd.de P (zu 33) 399 (.ref 170),Hd.de P (zu 41) 405 (.ref 175),Hd.de P "spread" 422 (.ref 182),Hd.de P (zu 30) 434 (.ref 189),Hd.de P (zu 0) 516 (.ref 246),Hd.de P (zu 43) 526 (.ref 257),Hd.de P (zu 1) 536 (.ref 264),Hd.de P (zu 21) 554 (.ref 271),Hd.de P (zu 15) 562 (.ref 278),Hd.de P (zu 6) 568 (.ref 283),Hd.de P (zu 11) 574 (.ref 288),Hd.de P "law" 580 (.ref 293)] 44}),
 (4,{cls:=.type "module",dict:=hG builtinsNs,data:=.plain}),
 (30,{cls:=.type "dict",data:=.dict #[Hd.de P "__module__" 203 (.str "cellways.errors" 194),Hd.de P "__firstlineno__" 207 (.int 5 206),Hd.de P (zu 39) 208 (.ref 29),Hd.de P "__weakref__" 210 (.ref 32),Hd.de P "__doc__" 211 (.none)] 3}),
 (31,{cls:=.type "type",data:=.cls {name:=(zu 23),bases:=[.type (zu 22)],mro:=[.ref 31,.type (zu 22),.type "Exception",.type (zu 42),.type "object"],ns:=30,qualname:=(zu 23),subclasses:=[.ref 44,.ref 56]},slots:=#[hG (.ref 22),hI,hG (.str (zu 23) 196),hG (.str (zu 23) 204),hG (.builtin (zu 19)),hG (.bool Bool.true)]}),
 (43,{cls:=.type "dict",data:=.dict #[Hd.de P "__module__" 221 (.str "cellways.errors" 194),Hd.de P "__firstlineno__" 225 (.int 7 224),Hd.de P (zu 39) 226 (.ref 42),Hd.de P "__doc__" 227 (.none)] 2}),
 (44,{cls:=.type "type",data:=.cls {name:="NoSpot",bases:=[.ref 31],mro:=[.ref 44,.ref 31,.type (zu 22),.type "Exception",.type (zu 42),.type "object"],ns:=43,qualname:="NoSpot"},slots:=#[hG (.ref 35),hI,hG (.str "NoSpot" 214),hG (.str "NoSpot" 222),hG (.builtin (zu 19)),hG (.bool Bool.true)]}),
 (55,{cls:=.type "dict",data:=.dict #[Hd.de P "__module__" 237 (.str "cellways.errors" 194),Hd.de P "__firstlineno__" 241 (.int 9 240),Hd.de P (zu 39) 242 (.ref 54),Hd.de P "__doc__" 243 (.none)] 2}),
 (56,{cls:=.type "type",data:=.cls {name:="NoSign",bases:=[.ref 31],mro:=[.ref 56,.ref 31,.type (zu 22),.type "Exception",.type (zu 42),.type "object"],ns:=55,qualname:="NoSign"},slots:=#[hG (.ref 47),hI,hG (.str "NoSign" 230),hG (.str "NoSign" 238),hG (.builtin (zu 19)),hG (.bool Bool.true)]}),
 zx5 64 (zu 45) 256 16 1 59 260,
 zx3 65 (zu 45) 10 m1,
 zx5 71 "is_sign" 263 18 1 66 267,
 zx3 72 "is_sign" 11 m1,
 zx5 78 (zu 40) 270 20 1 73 274,
 zx3 79 (zu 40) 12 m1,
 zx5 85 (zu 7) 277 22 2 80 282,
 zx3 86 (zu 7) 13 m1,
 zx5 92 (zu 27) 285 24 2 87 290,
 zx3 93 (zu 27) 14 m1,
 zx5 99 (zu 5) 293 26 2 94 298,
 zx3 100 (zu 5) 15 m1,
 zx5 106 (zu 12) 301 29 2 101 306,
 zx3 107 (zu 12) 16 m1,
 zx5 113 (zu 36) 309 32 1 108 313,
 zx3 114 (zu 36) 17 m1,
 zx5 120 (zu 29) 316 35 3 115 324,
 zx3 121 (zu 29) 18 m1,
 zx5 127 (zu 18) 327 39 1 122 336,
 zx3 128 (zu 18) 19 m1,
 zx5 134 (zu 37) 339 46 2 129 344,
 zx3 135 (zu 37) 20 m1,
 zx5 141 (zu 8) 347 49 2 136 355,
 zx3 142 (zu 8) 21 m1,
 zx5 148 (zu 34) 358 56 2 143 363,
 zx3 149 (zu 34) 22 m1,
 zx5 155 (zu 9) 366 58 3 150 372,
 zx3 156 (zu 9) 23 m1,
 zx5 162 (zu 17) 375 60 4 157 385,
 zx3 163 (zu 17) 24 m1,
 zx5 169 (zu 33) 388 71 3 164 397,
 zx3 170 (zu 33) 25 m1,
 (174,Hd.co (zu 41) 400 79 3 171 .none .none 173 403),
 zx3 175 (zu 41) 26 m1,
 zx5 181 "spread" 408 82 2 176 420,
 zx3 182 "spread" 28 m2,
 zx5 188 (zu 30) 423 95 3 183 432,
 zx3 189 (zu 30) 29 m2,
 (202,{cls:=.type "code",data:=.fields #[.str (zu 13) 449,.str (zu 32) 450,.str (zu 3) 451,.int 102 0,.int 4 0,.int 0 0,.int 0 0,.int 3 0,.ref 197,.bool Bool.true,.int 181 0,.ref 198,.none,.ref 199,.ref 200,.ref 201,.int 456 0,.int 102 0,.str (zu 3) 457]}),
 (203,Hd.fm (zu 13) (zu 32) (sI 31 0) m3 202),
 (209,{cls:=.type "code",data:=.fields #[.str "put" 459,.str "Keeper.put" 460,.str (zu 3) 461,.int 109 0,.int 3 0,.int 0 0,.int 0 0,.int 3 0,.ref 204,.bool Bool.true,.int 181 0,.ref 205,.none,.ref 206,.ref 207,.ref 208,.int 465 0,.int 109 0,.str (zu 3) 466]}),
 (210,Hd.fm "put" "Keeper.put" (sI 31 1) m3 209),
 (216,{cls:=.type "code",data:=.fields #[.str "now" 468,.str "Keeper.now" 469,.str (zu 3) 470,.int 117 0,.int 1 0,.int 0 0,.int 0 0,.int 3 0,.ref 211,.bool Bool.true,.int 181 0,.ref 212,.none,.ref 213,.ref 214,.ref 215,.int 472 0,.int 117 0,.str (zu 3) 473]}),
 (217,Hd.fm "now" "Keeper.now" (sI 31 2) m3 216),
 (223,{cls:=.type "code",data:=.fields #[.str "found" 475,.str (zu 38) 476,.str (zu 3) 477,.int 120 0,.int 1 0,.int 0 0,.int 0 0,.int 3 0,.ref 218,.bool Bool.true,.int 181 0,.ref 219,.none,.ref 220,.ref 221,.ref 222,.int 479 0,.int 120 0,.str (zu 3) 480]}),
 (224,Hd.fm "found" (zu 38) (sI 31 3) m3 223),
 (230,{cls:=.type "code",data:=.fields #[.str (zu 20) 482,.str (zu 31) 483,.str (zu 3) 484,.int 125 0,.int 2 0,.int 0 0,.int 0 0,.int 3 0,.ref 225,.bool Bool.true,.int 181 0,.ref 226,.none,.ref 227,.ref 228,.ref 229,.int 488 0,.int 125 0,.str (zu 3) 489]}),
 (231,Hd.fm (zu 20) (zu 31) (sI 31 4) m3 230),
 (242,{cls:=.type "code",data:=.fields #[.str (zu 28) 499,.str (zu 26) 500,.str (zu 3) 501,.int 133 0,.int 1 0,.int 0 0,.int 0 0,.int 3 0,.ref 239,.bool Bool.true,.int 181 0,.ref 240,.none,.none,.none,.ref 241,.int 502 0,.int 133 0,.str (zu 3) 503]}),
 (243,Hd.fm (zu 28) (zu 26) (sI 31 6) m3 242),
 (245,{cls:=.type "dict",data:=.dict #[Hd.de P "__module__" 444 (.str "cellways.kept" 435),Hd.de P "__firstlineno__" 448 (.int 100 447),Hd.de P (zu 13) 458 (.ref 203),Hd.de P "put" 467 (.ref 210),Hd.de P "now" 474 (.ref 217),Hd.de P "found" 481 (.ref 224),Hd.de P (zu 20) 490 (.ref 231),Hd.de P "way_from" 498 (.ref 238),Hd.de P (zu 28) 504 (.ref 243),Hd.de P (zu 39) 509 (.ref 244),Hd.de P "__dict__" 511 (.ref 247),Hd.de P "__weakref__" 513 (.ref 248),Hd.de P "__doc__" 514 (.none)] 4}),
 (246,{cls:=.type "type",data:=.cls {name:=(zu 0),bases:=[.type "object"],mro:=[.ref 246,.type "object"],ns:=245,qualname:=(zu 0)},slots:=#[hI,hI,hG (.str (zu 0) 437),hG (.str (zu 0) 445),hG (.builtin "object.__new__"),hG (.bool Bool.true)]}),
 zx5 256 (zu 43) 519 137 2 251 524,
 zx3 257 (zu 43) 33 m4,
 zx5 263 (zu 1) 527 143 3 258 534,
 zx3 264 (zu 1) 34 m4,
 zx5 270 (zu 21) 537 146 3 265 552,
 zx3 271 (zu 21) 35 m4,
 zx5 277 (zu 15) 555 159 2 272 560,
 zx3 278 (zu 15) 36 m4,
 (282,Hd.co (zu 6) 563 161 1 279 .none .none 281 566),
 zx3 283 (zu 6) 37 m4,
 (287,Hd.co (zu 11) 569 166 1 284 .none .none 286 572),
 zx3 288 (zu 11) 38 m4,
 (292,Hd.co "law" 575 169 1 289 .none .none 291 578),
 zx3 293 "law" 39 m4]
abbrev ts:List (h9×Str):=[(177,oV "spread"),(184,oV (zu 30))]
abbrev K2(P:Params):zz8:=K P++[(177,PySem.W.tabObj #[]),(184,PySem.W.tabObj #[])]
abbrev as:List Addr:=[2,3,4,30,31,43,44,55,56,64,65,71,72,78,79,85,86,92,93,99,100,106,107,113,114,120,121,127,128,134,135,141,142,148,149,155,156,162,163,169,170,174,175,181,182,188,189,202,203,209,210,216,217,223,224,230,231,242,243,245,246,256,257,263,264,270,271,277,278,282,283,287,288,292,293,177,184]
abbrev Γ:Pg:={[("WALL",(.str "#")),("SIGNS",(.str (zu 16))),("STRAIGHT_COST",(.int 2)),("SLANTING_COST",(.int 3))],["len","abs","max","min","int","str","tuple","isinstance","bool","range",zu 2],[],[],["NoSign","NoSpot"],[],hU,hU,[]}
def R0:fM:=[]
def vb:dH (Γ.at R0 hU) (zu 45) fe (top 10):=stM λZ Z Z Z Z Z=>Hd.AE λZ=>rfl
abbrev R1:fM:=zx2 (zu 45) fe 10 hU::R0
def wK:dH (Γ.at R1 hU) (zu 40) du (top 12):=stM λZ Z Z Z Z Z=>Hd.AE λZ=>rfl
abbrev R2:fM:=zx2 (zu 40) du 12 hU::R1
def n9:dH (Γ.at R2 hU) (zu 7) bI (top 13):=stM λZ Z Z Z Z Z=>Hd.AF λZ Z=>rfl
abbrev R3:fM:=zx2 (zu 7) bI 13 hU::R2
def wI:dH (Γ.at R3 hU) (zu 27) cR (top 14):=stM λZ Z Z Z Z Z=>Hd.AF λZ Z=>rfl
abbrev R4:fM:=zx2 (zu 27) cR 14 hU::R3
def rX:dH (Γ.at R4 hU) (zu 5) bJ (top 15):=stM λZ Z Z Z Z Z=>Hd.AF λZ Z=>rfl
abbrev R5:fM:=zx2 (zu 5) bJ 15 hU::R4
def lu:dH (Γ.at R5 hU) (zu 12) bY (top 16):=stM λZ Z Z Z Z Z=>Hd.AF λZ Z=>rfl
abbrev R6:fM:=zx2 (zu 12) bY 16 hU::R5
def wJ:dH (Γ.at R6 hU) "is_sign" eU (top 11):=stM λZ Z Z Z Z Z=>Hd.AE λZ=>rfl
abbrev R7:fM:=zx2 "is_sign" eU 11 hU::R6
def rY:dH (Γ.at R7 hU) (zu 36) dw (top 17):=stM λZ Z Z Z Z Z=>Hd.AE λZ=>rfl
abbrev R8:fM:=zx2 (zu 36) dw 17 hU::R7
def r9:dH (Γ.at R8 hU) (zu 29) dz (top 18):=stM λZ Z Z Z Z Z=>Hd.Em λZ Z Z=>rfl
abbrev R9:fM:=zx2 (zu 29) dz 18 hU::R8
def rS:dH (Γ.at R9 hU) (zu 43) dn (top 33):=stM λZ Z Z Z Z Z=>Hd.AF λZ Z=>rfl
abbrev TY:fM:=zx2 (zu 43) dn 33 hU::R9
def rT:dH (Γ.at TY hU) (zu 1) b9 (top 34):=stM λZ Z Z Z Z Z=>Hd.Em λZ Z Z=>rfl
abbrev TZ:fM:=zx2 (zu 1) b9 34 hU::TY
def pq:dH (Γ.at TZ hU) (zu 21) cF (top 35):=stM λZ Z Z Z Z Z=>Hd.Em λZ Z Z=>rfl
abbrev Ua:fM:=zx2 (zu 21) cF 35 hU::TZ
def n8:dH (Γ.at Ua hU) (zu 15) cJ (top 36):=stM λZ Z Z Z Z Z=>Hd.AF λZ Z=>rfl
abbrev Ub:fM:=zx2 (zu 15) cJ 36 hU::Ua
def pv:dH (Γ.at Ub hU) (zu 6) cO (top 37):=stM λZ Z Z Z Z Z=>Hd.AE λZ=>rfl
abbrev Uc:fM:=zx2 (zu 6) cO 37 hU::Ub
def pw:dH (Γ.at Uc hU) (zu 34) cQ (top 22):=stM λZ Z Z Z Z Z=>Hd.AF λZ Z=>rfl
abbrev Ud:fM:=zx2 (zu 34) cQ 22 hU::Uc
def rW:dH (Γ.at Ud hU) (zu 37) dq (top 20):=stM λZ Z Z Z Z Z=>Hd.AF λZ Z=>rfl
abbrev Ue:fM:=zx2 (zu 37) dq 20 hU::Ud
def iW:dH (Γ.at Ue hU) (zu 9) bu (top 23):=stM λZ Z Z Z Z Z=>Hd.Em λZ Z Z=>rfl
abbrev Ug:fM:=zx2 (zu 9) bu 23 hU::Ue
def r8:dH (Γ.at Ug hU) (zu 17) bz (top 24):=stM λZ Z Z Z Z Z=>Hd.Ut λZ Z Z Z=>rfl
abbrev Uh:fM:=zx2 (zu 17) bz 24 hU::Ug
def iH:dH (Γ.at Uh hU) (zu 8) bh (top 21):=stM λZ Z Z Z Z Z=>Hd.AF λZ Z=>rfl
abbrev Ui:fM:=zx2 (zu 8) bh 21 hU::Uh
def pA:dH (Γ.at Ui hU) (zu 33) cU (top 25):=stM λZ Z Z Z Z Z=>Hd.Em λZ Z Z=>rfl
abbrev Uj:fM:=zx2 (zu 33) cU 25 hU::Ui
def vc:dH (Γ.at Uj hU) (zu 41) dU (top 26):=stM λZ Z Z Z Z Z=>Hd.Em λZ Z Z=>rfl
abbrev Uk:fM:=zx2 (zu 41) dU 26 hU::Uj
def g8:dH (Γ.at Uk hQ) "spread" bx (top 28):=stM λZ Z Z Z Z Z=>Hd.AF λZ Z=>rfl
abbrev Ul:fM:={zu 44,"spread",bx,top 28,hQ}::Uk
def rZ:dH (Γ.at Ul hQ) (zu 30) dy (top 29):=stM λZ Z Z Z Z Z=>Hd.Em λZ Z Z=>rfl
abbrev Um:fM:=zx2 (zu 30) dy 29 hQ::Ul
def pz:dH (Γ.at Um hU) (zu 18) cT (top 19):=stM λZ Z Z Z Z Z=>Hd.AE λZ=>rfl
abbrev yX:fM:=zx2 (zu 18) cT 19 hU::Um
abbrev vm:List (Str×Str):=[(zu 0,"floor"),(zu 0,zu 24),(zu 0,"goal"),(zu 0,zu 14)]
def Q0:hZ:=[]
def pf:fD (Γ.at yX hU) (mh vm Q0) "now" "Keeper.now" cD (sI 31 2):=va λZ Z Z Z Z Z=>Hd.AE λZ=>rfl
abbrev Q1:hZ:={"Keeper.now",(hG (zu 0)),"now",cD,sI 31 2}::Q0
def mz:fD (Γ.at yX hU) (mh vm Q1) "found" (zu 38) bQ (sI 31 3):=va λZ Z Z Z Z Z=>Hd.AE λZ=>rfl
abbrev Q2:hZ:={zu 38,(hG (zu 0)),"found",bQ,sI 31 3}::Q1
def kC:fD (Γ.at yX hU) (mh vm Q2) (zu 28) (zu 26) bt (sI 31 6):=va λZ Z Z Z Z Z=>Hd.AE λZ=>rfl
abbrev Q3:hZ:={zu 26,(hG (zu 0)),zu 28,bt,sI 31 6}::Q2
def jr:fD (Γ.at yX hU) (mh vm Q3) (zu 20) (zu 31) bb (sI 31 4):=va λZ Z Z Z Z Z=>Hd.AF λZ Z=>rfl
abbrev Q4:hZ:={zu 31,(hG (zu 0)),zu 20,bb,sI 31 4}::Q3
def rV:fD (Γ.at yX hU) (mh vm Q4) (zu 11) (zu 11) cM (top 38):=va λZ Z Z Z Z Z=>Hd.AE λZ=>rfl
abbrev Q5:hZ:={zu 11,hI,zu 11,cM,top 38}::Q4
def jq:fD (Γ.at yX hU) (mh vm Q5) (zu 13) (zu 32) ba (sI 31 0):=va λZ Z Z Z Z Z=>Hd.Ut λZ Z Z Z=>rfl
abbrev Q6:hZ:={zu 32,(hG (zu 0)),zu 13,ba,sI 31 0}::Q5
def pj:fD (Γ.at yX hU) (mh vm Q6) "put" "Keeper.put" cE (sI 31 1):=va λZ Z Z Z Z Z=>Hd.Em λZ Z Z=>rfl
abbrev Q7:hZ:={"Keeper.put",(hG (zu 0)),"put",cE,sI 31 1}::Q6
def Mx:fD (Γ.at yX hU) (mh vm Q7) "law" "law" xA (top 39):=va λZ Z Z Z Z Z=>Hd.AE λZ=>rfl
def pN(P:Params):gN (K P) 181 177:={Hd.co "spread" 408 82 2 176 (.ref 178) (.ref 179) 180 420,_,_,_,_,_,_,_,_,by kernel_rfl,rfl,rfl,rfl,rfl,rfl,rfl,rfl,rfl,by decide}
def jV(P:Params):gN (K P) 188 184:={Hd.co (zu 30) 423 95 3 183 (.ref 185) (.ref 186) 187 432,_,_,_,_,_,_,_,_,by kernel_rfl,rfl,rfl,rfl,rfl,rfl,rfl,rfl,rfl,by decide}
def Ox(ns:List Int)(hl:ns.length<=63):∃s,fu (JU yX) (dE (JU yX) (oh Q7)) xA [.lst (ns.map .int)] []=.ok (.bl hQ) s:=Ow ns hl
def Rp(P:Params):AllK (K P) ts Γ yX:=
 Hd.ac (Hd.ent 128 127 m1) pz <| Hd.ac (Hd.N0 189 188 184 m2 (jV P) (by decide+kernel) (by decide+kernel)) rZ <| Hd.ac (Hd.N0 182 181 177 m2 (pN P) (by decide+kernel) (by decide+kernel)) g8 <| Hd.ac (Hd.ent 175 174 m1) vc <| Hd.ac (Hd.ent 170 169 m1) pA <| Hd.ac (Hd.ent 142 141 m1) iH <| Hd.ac (Hd.ent 163 162 m1) r8 <| Hd.ac (Hd.ent 156 155 m1) iW <| Hd.ac (Hd.ent 135 134 m1) rW <| Hd.ac (Hd.ent 149 148 m1) pw <| Hd.ac (Hd.ent 283 282 m4) pv <| Hd.ac (Hd.ent 278 277 m4) n8 <| Hd.ac (Hd.ent 271 270 m4) pq <| Hd.ac (Hd.ent 264 263 m4) rT <| Hd.ac (Hd.ent 257 256 m4) rS <| Hd.ac (Hd.ent 121 120 m1) r9 <| Hd.ac (Hd.ent 114 113 m1) rY <| Hd.ac (Hd.ent 72 71 m1) wJ <| Hd.ac (Hd.ent 107 106 m1) lu <| Hd.ac (Hd.ent 100 99 m1) rX <| Hd.ac (Hd.ent 93 92 m1) wI <| Hd.ac (Hd.ent 86 85 m1) n9 <| Hd.ac (Hd.ent 79 78 m1) wK <| Hd.ac (Hd.ent 65 64 m1) vb trivial
def ff(P:Params):PySem.W.nsIn (K P) jf (zu 0)=hG (hG (.ref 246)):=by kernel_rfl
def Nw(P:Params):mQ (K P) (Γ.at yX hU) vm Q7:=
 Hd.a2 (Hd.MU 246 210 209 m3 (ff P)) pj <| Hd.a2 (Hd.MU 246 203 202 m3 (ff P)) jq <| Hd.a2 (Hd.UI 288 287 m4) rV <| Hd.a2 (Hd.MU 246 231 230 m3 (ff P)) jr <| Hd.a2 (Hd.MU 246 243 242 m3 (ff P)) kC <| Hd.a2 (Hd.MU 246 224 223 m3 (ff P)) mz <| Hd.a2 (Hd.MU 246 217 216 m3 (ff P)) pf trivial
def lD(P:Params):vn (K P) vm (zu 0):={246,ff P,{by kernel_rfl,by kernel_rfl,by kernel_rfl,by kernel_rfl},by kernel_rfl,by kernel_rfl,λf a=>by
 have:f="floor"\/f=(zu 24)\/f="goal"\/f=(zu 14):=by simpa [vm] using a
 rcases this with rfl|rfl|rfl|rfl
 .show PySem.W.findIn (K P) (.ref 246) "floor"=hG hI;kernel_rfl
 .show PySem.W.findIn (K P) (.ref 246) (zu 24)=hG hI;kernel_rfl
 .show PySem.W.findIn (K P) (.ref 246) "goal"=hG hI;kernel_rfl
 .show PySem.W.findIn (K P) (.ref 246) (zu 14)=hG hI;kernel_rfl}
def Kz(P:Params):∀c f,vm.contains (c,f)=hQ->vn (K P) vm c:=λc f h=>by
 have:c=(zu 0):=by
  simp [vm] at h
  first|exact h.1|(rcases h with h|h|h|h<;>simp [h])
 rcases this with rfl
 .exact lD P
def lJ(P:Params):∀r∈Q7,∀c,r.c=hG c->vn (K P) vm c:=λr h c e=>by
 have:(Q7.all λr=>match r.c with|some c=>[(zu 0:Str)].contains c|none=>hQ)=hQ:=by decide+kernel
 have:=ed.1 this r h
 rw [e] at this;simp! [fb,e9,List.not_mem_nil,or_false] at this;rcases this with rfl
 .exact lD P
structure IZ(K:zz8)(d:Str)(D:h9):Prop where
 e:PySem.W.nsIn K jf d=hG (hG (.ref D))
 xc:Jj K D
 vt:PySem.W.kitOne K (.ref D) (.type (zu 22))=hG hQ
 ex:PySem.W.excIn K D Bu (zu 19)=hQ
def NM{K:zz8}{d:Str}{D:h9}(e:PySem.W.nsIn K jf d=hG (hG (.ref D)):=by kernel_rfl)(i:PySem.W.isClsIn K D=hQ:=by kernel_rfl)(v:PySem.W.subIn K (.ref D) (.type (zu 22))=hG hQ:=by kernel_rfl)(ga:PySem.W.findIn K (.ref D) "__getattribute__"=hG (hG (.builtin "BaseException.__getattribute__")):=by kernel_rfl)(hk:PySem.W.findIn K (.ref D) "__getattr__"=hG hI:=by kernel_rfl)
 (cl:PySem.W.findIn K (.ref D) "__class__"=hG (hG (.builtin "object.__class__")):=by kernel_rfl) (mo:PySem.W.mroIn K D (.type "object")=hG hQ:=by kernel_rfl) (mb:PySem.W.mroIn K D (.type (zu 42))=hG hQ:=by kernel_rfl) (ex:PySem.W.excIn K D Bu (zu 19)=hQ:=by kernel_rfl):IZ K d D:=
 {e,⟨ga,hk,cl,mo,mb,i⟩,B5 (by decide+kernel) v,ex}
def SM(P:Params)(X:(K P).In h)(G:h.Ns jf mg)(ob:List Ob):oC (K P) mg Γ {K P,mg,["NoSign","NoSpot"],ts,ob}:=by
 have j:∀{x:Str} {u:hV},PySem.W.nsIn (K P) jf x=hG (hG u)->mg x=hG u:=λa=>PySem.W.mg_of X G a;have b:∀{x:Str},PySem.W.nsIn (K P) jf x=hG hI->mg x=hI:=λa=>PySem.W.mg_none_of X G a;have k:IZ (K P) "NoSign" 56:=NM;have m:IZ (K P) "NoSpot" 44:=NM;refine{rfl,rfl,λq o=>?_,λg p=>?_,by decide+kernel,λc f=>?_,λd hd D r=>?_,λc f=>?_,λc f=>?_,λz=>absurd z (by decide+kernel),λZ=>{4,{.type "module",hG builtinsNs,.plain,#[]},j (by kernel_rfl),by decide,by decide,by kernel_rfl,rfl,rfl,rfl}}
 .simp! [Γ,e9,List.not_mem_nil,or_false] at o;rcases o with rfl|rfl|rfl|rfl
  .exact{.str "#" 248,.str "#",j (by kernel_rfl),{_,rfl},λG=>.s}
  .exact{.str (zu 16) 250,.str (zu 16),j (by kernel_rfl),{_,rfl},λG=>.s}
  .exact{.int 2 252,.int 2,j (by kernel_rfl),{_,rfl},λG=>.i}
  .exact{.int 3 254,.int 3,j (by kernel_rfl),{_,rfl},λG=>.i}
 .simp! [Γ,e9,List.not_mem_nil,or_false] at p;rcases p with rfl|rfl|rfl|rfl|rfl|rfl|rfl|rfl|rfl|rfl|rfl<;>exact b (by kernel_rfl)
 .simp! [Γ,e9,List.not_mem_nil,or_false] at f
 .simp! [e9,List.not_mem_nil,or_false] at hd;rcases hd with rfl|rfl
  .cases(j k.e).symm.trans r;refine{k.xc,λc f C hC=>?_,k.vt};simp! [Γ,e9,List.not_mem_nil,or_false] at f
  .cases(j m.e).symm.trans r;refine{m.xc,λc f C hC=>?_,m.vt};simp! [Γ,e9,List.not_mem_nil,or_false] at f
 .simp! [Γ,fb,e9,List.not_mem_nil,or_false] at f⊢;exact f
 .simp! [Γ,fb,e9,List.not_mem_nil,or_false] at f;rcases f with rfl|rfl
  .exact{_,j k.e,k.ex}
  .exact{_,j m.e,m.ex}
def hY{P:Params}(X:(K2 P).In h):(K P).In h/\∀p∈ts.map (·.1),h.get? p=hG (PySem.W.tabObj #[]):={λb o e=>X b o (Hd.Ce e),λp a=>by
 simp! [ts,a9,List.map_nil,e9,List.not_mem_nil,or_false] at a;rcases a with rfl|rfl
 .exact X _ _ (by kernel_rfl)
 .exact X _ _ (by kernel_rfl)
}
def hC(P:Params):∀p∈ts.map (·.1),(∃c,gN (K P) c p)/\(K P).lookup p=hI:=λp a=>by
 simp! [ts,a9,List.map_nil,e9,List.not_mem_nil,or_false] at a;rcases a with rfl|rfl
 .exact{{_,pN P},by kernel_rfl}
 .exact{{_,jV P},by kernel_rfl}
abbrev keep:List Nat:=[0,2,3,4,6,7,8,9,10,11,12,13,14,15,16,17,18,19,20,21,22,23,24,25,26,28,29,31,33,34,35,36,37,38,39]
def ka:∀P,as=(K2 P).map (·.1):=λZ=>by kernel_rfl
def left:PySem.W.LeftO lw.row.prog (PySem.W.view lw.row.prog keep) [] (λs=>PySem.W.xlAt (PySem.W.view lw.row.prog keep) [] s&&PySem.W.recOk lw.row.toRowW.records s) (PySem.W.kHook K2 as ka).obs (PySem.W.kHook K2 as ka).val 4006:=by refine Hd.FE (T₀:=λP=>Hd.treeOf (PySem.W.boot_heap P).objs.toList) (m₀:=11) (life:={}) (ann:=hG (.ref 6)) (M:=3956) (by kernel_rfl) (by kernel_rfl) (λs=>by kernel_rfl) Hd.ND Hd.NF (by kernel_rfl) λw os=>?_;rw [PySem.W.Fast.te10156331382660048174,PySem.W.Fast.te11892475500146522536,PySem.W.Fast.te14364793385576792824,PySem.W.Fast.te6613529449190102663,PySem.W.Fast.te4187177175401517315,PySem.W.Fast.te5923862056798008813];kernel_rfl
end K41
open PySem.W PyProof.Rows
set_option maxRecDepth 100000 in
set_option maxHeartbeats 0 in
theorem PySem.Challenge.cw_cellways_k41_whole_either_order_holds : PySem.Challenge.rw_cellways_k41_whole_either_order.Holds := by
 refine Hd.holds (d:={"law",L2.cy (K41.top 39),L2.bC (K41.top 39),L2.az (K41.top 39),Hd.Ry (K41.top 39)}) (by kernel_rfl) K41.ka K41.left (by kernel_rfl) (by kernel_rfl) (by kernel_rfl) (by kernel_rfl) {rfl,rfl,rfl,rfl,rfl,by decide+kernel} ?hw ?a
 case hw=>w_witness2
 case a=>exact Ci.walk2 (l:=PySem.Challenge.rw_cellways_k41_whole_either_order) K41.yX K41.Q7 K41.Γ K41.vm "_law_script" K41.xA ["NoSign","NoSpot"] K41.ts (K41.top 39) rfl rfl rfl rfl {λZ=>rfl,by decide,by decide} (λw h Y=>K41.hY (PySem.W.kIn_of Y)) (λw=>K41.hC w.params) (λw mg h b G=>K41.SM _ b G) (λw=>Hd.UI 293 292 K41.m4) K41.Mx (List.cons_ne_nil _ _) (λw=>K41.Rp _) (λw=>K41.Nw _) (λw=>K41.Kz _) (λw=>K41.lJ _) K41.Ox
#print axioms PySem.Challenge.cw_cellways_k41_whole_either_order_holds
