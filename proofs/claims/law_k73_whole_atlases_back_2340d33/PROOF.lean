import PyProof.Rows.All
import Wide.All
import OpenK.AllK
import Wide.FinOn
import Lean
import PyProof.EqAt
import PyProof.EqKinds
import PyProof.TupleCall
import PySem.Challenge.RW_cellways_k73_whole_atlases_back
set_option Elab.async false
set_option tactic.hygienic false
set_option linter.all false
set_option genSizeOf false
set_option genInjectivity false
set_option genSizeOfSpec false
set_option bootstrap.genMatcherCode false
set_option compiler.extract_closed false
set_option compiler.reuse false
set_option maxRecDepth 100000
abbrev zz8:=PySem.W.Frag
local macro_rules | `(zz9 $x) => `(($x).heap.objs.size)
local macro_rules | `(tactic| simp! [$x,*] $[$l:location]?) => `(tactic| simp only [$x,*] $[$l]?)
theorem zzf:¬false=true:=Bool.false_ne_true
theorem zza(a b:Bool):((a&&b)=true)=(a=true/\b=true):=Bool.and_eq_true a b
theorem zzg.{u}{a:Type u}{l:List a}{i:Nat}(h:i<l.length):l[i]?=some l[i]:=List.getElem?_eq_getElem h
theorem zzl.{u,v}{a:Type u}{b:Type v}{l:List a}(f:a->b):(l.map f).length=l.length:=List.length_map f
def zzN:=@decide_eq_true_eq
def zzY:=@of_decide_eq_true
def zzh:=@decide_eq_true
def zzq:=@Option.some.inj
def zzy:=@beq_iff_eq
def zz0:=@decide_eq_false
open PySem renaming wpAny_bind→ar,wpAny_pure→bc,Value→fP,Shared→gC,Addr→g5,Expr→hB,wpAny→hD,Program→hF,World→hG,model→hI,Around→hT,Scope→hX,Heap→hZ,sizeLine→h9,Stmt→ig,mainGlobals→iv,Builtin→ix,cellsFrom→i1
open PySem.Heap renaming get?_push_of_some→aT,lt_size→bX,get?_push_size→c8
open List renaming size_toArray→a5,mem_of_getElem?→a6,map_cons→a8,getElem?_eq_some_iff→bD,mem_cons_of_mem→bI,getD_eq_getElem?_getD→bU,length_cons→bV,length_append→bW,mem_cons_self→b4,getElem?_map→cz,mem_append_right→cJ,getElem?_set_ne→cP,all_eq_true→cZ,mem_append_left→d0,mem_singleton→d3,any_eq_true→d4,mem_cons→d8,contains_iff_mem→d9,getElem?_set_self→ed,getElem?_append_left→eg,getElem?_append_right→ei,mem_map→er,mem_filterMap→et,filter_cons→ew,lookup_cons→ez,append_nil→eA,replicate→jZ
open Nat renaming le_refl→a7,le_trans→c4,lt_of_le_of_lt→c5,lt_of_lt_of_le→c6,ne_of_lt→dV
open Option renaming map_eq_some_iff→bM,bind_eq_some_iff→dr,isSome_iff_exists→ef,some→eW,none→eX
open Array renaming length_toList→d1,getElem?_eq_getElem→eu
open Bool renaming false_eq_true→d2,or_eq_true→ej,true→e6,false→fx
open False renaming elim→d6
open PySem.Heap.SameBut renaming update→ek
open Int renaming eq_ofNat_of_zero_le→el,toNat_natCast→ey
open PySem.Around renaming under_plainId→eH
open And renaming intro→i2
open PyProof.Rows renaming seqObj→j0
abbrev kd:=PySem.Value->PySem.Shared->Prop
abbrev kr:=List (PySem.Addr×PySem.Obj)
abbrev ku:=List (List Int)
abbrev kv:=List Int->List Int->Int->Prop
local macro_rules|`(zx6 $x)=>`(by simpa using $x)
def zy0:Nat->Lean.Syntax->Lean.MacroM (Lean.TSyntax `rcasesPat)
 |n+1,t=>do match t with
  |`(($a,$b,*))=>let q<-(#[a]++b.getElems).mapM fun x=>do`(Lean.Parser.Tactic.rcasesPatLo|$(<-zy0 n x):rcasesPat)
                 `(rcasesPat|⟨$q,*⟩)
  |`($x:ident)=>`(rcasesPat|$x:ident)
  |`(_)=>`(rcasesPat|_)
  |_=>Lean.Macro.throwUnsupported
 |_,_=>Lean.Macro.throwUnsupported
local macro_rules|`(tactic|let $p:term:=$e)=>do let q<-zy0 19 p;let k:=Lean.mkIdent (.mkSimple s!"K{hash (toString p.raw)%997}");if q.raw[1].getNumArgs<4 then`(tactic|obtain $q:rcasesPat:=$e)else`(tactic|first|(refine Classical.byContradiction fun $k=>?_;obtain $q:rcasesPat:=$e;refine $k ?_;clear $k)|obtain $q:rcasesPat:=$e)
local macro_rules(kind:=«term{_}»)|`({$x,*})=>`(⟨$x,*⟩)
open PySem
variable{us:List fP}{a:g5}{o:Obj}{u:fP}{w t' j:Nat}{h base h':hZ}{x c f m qual z:Str}{e d p body po:hB}{N R ks:List Str}{A:hT}{aa:kr}{pos np:Pos}{ns:List Int}{prog:hF}{mg:Str->Option fP}{outer:List Env}{items:Array fP}{st:ig}{cl:List (Str×g5)}
local macro_rules|`(zx7 $x $y*)=>`(PySem.wpAny (PySem.model ($x).prog ($x).w) ($x).A $y*)
local macro_rules|`(abbrev $i:declId $s:optDeclSig:=$v)=>`(noncomputable def $i $s:optDeclSig:=$v)|`(abbrev $i:declId $s:optDeclSig $v:declValEqns)=>`(noncomputable def $i $s:optDeclSig $v:declValEqns)
local macro_rules|`(∅)=>`(by kernel_rfl)|`(↑1)=>`(by decide+kernel)|`(↑2)=>`(by decide)
set_option hygiene false
local macro_rules|`(zv0 $x)=>`(dG (dC P w) P w K mg base N qual scope f cd A outer s0 H0 $x)
local macro_rules|`(zv1 $x)=>`(Inv X aa σ H $x)
local macro_rules|`(zv2 $x)=>`(ib Γ Δ F1 F2 W N sc k E $x)
local macro_rules|`(zv3 $x)=>`(fF Γ F W N sc k E $x)
local macro_rules|`(zv4 $x)=>`(fq Γ F W N sc k $x)
local macro_rules|`(zv5 $x)=>`(eG W obe Ge He env σ s ob H0 G $x)
set_option hygiene true
open PySem
set_option hygiene false
local macro_rules|`(zx2 $a $b $c $d)=>`(⟨$a,$a,$b,K73.top $c,$d⟩)
local macro_rules|`(zx5 $a $n $b $c $d $e $f)=>do let k:=(⟨e.raw⟩:Lean.NumLit).getNat;`(($a,Hd.co $n $b $c $d $e (.ref $(Lean.quote (k+2))) (.ref $(Lean.quote (k+3))) $(Lean.quote (k+4)) $f))|`(zx3 $a $n $c $m)=>do let k:=(⟨a.raw⟩:Lean.NumLit).getNat;`(($a,Hd.fo $n (K73.top $c) $m $(Lean.quote (k-1))))
set_option hygiene true
local macro_rules|`(zu $n)=>return Lean.Syntax.mkStrLit (("/claim/cut.py|ValueError|ValueError.__new__|__static_attributes__|BaseException.__getattribute__|BaseException|FloorError|_law_pick|reversed|_law_class|__firstlineno__|__init__|cellways.errors|mirrored_floor|is_on_floor|abcdefghijklmnopqrstuvwxyz|<lambda>|need_on_floor|turned_floor|_law_all_of|isinstance|mirror|_law_made|__debug__|_law_behind|#0123456789|_law_did|__module__|StopIteration|_law_told|Atlas.floor_of|floor_of|object.__class__|set_beside|reversed.__length_hint__|need_name|Exception|is_sign|_law_floor|Atlas.forth|__name__|_law_deed_here|with_sign|set_below|need_sign|Atlas.back|floors|_law_deed|_law_cell|object|is_whole|is_floor|__next__|Atlas.mirror|no name|__doc__|NoFloor|Atlas.__init__".splitOn "|")[(⟨n.raw⟩:Lean.NumLit).getNat]!)
namespace L2
open PySem.Spec PyProof.Rows
noncomputable abbrev Key:=Sum Int Str
abbrev qO:Key->fP->Bool
 |.inl k,v=>fP.isInt k v|.inr x,v=>fP.isStrOf x v
abbrev VO(w:hG):Key->Int
 |.inl k=>hashInt k|.inr x=>hashStr w x
theorem bB:∀{k:Key} {v:fP},qO k v=e6->(∃i t,k=Sum.inl i/\v=fP.int i t)\/(∃x t,k=Sum.inr x/\v=fP.str x t)
 |.inl i,v,h=>by let(t,e):=fP.isInt_shape (k:=i) (v:=v) h;exact .inl ⟨i,t,rfl,e⟩|.inr x,v,h=>by let(t,e):=fP.isStrOf_shape (x:=x) (v:=v) h;exact .inr ⟨x,t,rfl,e⟩
def A1(i:Int)(t:Tok):qO (.inl i) (.int i t)=e6:=by simp [qO,fP.isInt]
def A2(x:Str)(t:Tok):qO (.inr x) (.str x t)=e6:=by simp [qO,fP.isStrOf]
def M4(a b:Int):decide ((Sum.inl a:Key)=Sum.inl b)=(a==b):=by
 by_cases e:a=b
 .subst e;simp
 .have h:¬(Sum.inl a:Key)=Sum.inl b:=λq=>e (Sum.inl.inj q);rw [zz0 h];exact(beq_eq_false_iff_ne.mpr e).symm
def M7(a b:Str):decide ((Sum.inr a:Key)=Sum.inr b)=decide (a=b):=by
 by_cases e:a=b
 .subst e;simp
 .have h:¬(Sum.inr a:Key)=Sum.inr b:=λq=>e (Sum.inr.inj q);rw [zz0 h,zz0 e]
def M5(a:Int)(b:Str):decide ((Sum.inl a:Key)=Sum.inr b)=fx:=zz0 nofun
def M6(a:Str)(b:Int):decide ((Sum.inr a:Key)=Sum.inl b)=fx:=zz0 nofun
noncomputable def br(prog:hF)(w:hG):PySem.KeyKind prog w Key where
 is:=qO
 hash:=VO w
 inj:=λv a b g f=>by
  rcases bB g with⟨i,t,rfl,rfl⟩|⟨x,t,rfl,rfl⟩
  .rcases bB f with⟨j,u,rfl,e⟩|⟨y,u,rfl,e⟩
   .injection e with c _;rw [c]
   .exact nomatch e
  .rcases bB f with⟨j,u,rfl,e⟩|⟨y,u,rfl,e⟩
   .exact nomatch e
   .injection e with c _;rw [c]
 byValue:=λk v h=>by rcases bB h with⟨i,t,rfl,rfl⟩|⟨x,t,rfl,rfl⟩<;>rfl
 pyHash:=λd h=>by
  rcases bB d with⟨i,t,rfl,rfl⟩|⟨x,t,rfl,rfl⟩
  .exact wpAny_pyHash_int h
  .exact wpAny_pyHash_str h
 eqBool:=λm d h=>by
  rcases bB m with⟨i,t,rfl,rfl⟩|⟨x,t,rfl,rfl⟩
  .rcases bB d with⟨j,u,rfl,rfl⟩|⟨y,u,rfl,rfl⟩
   .rw [M4] at h;exact wpAny_eqBool_int h
   .rw [M5] at h;exact SeqAt.EqAt.int_str i t y u _ _ _ _ h
  .rcases bB d with⟨j,u,rfl,rfl⟩|⟨y,u,rfl,rfl⟩
   .rw [M6] at h;exact SeqAt.EqAt.str_int x t j u _ _ _ _ h
   .rw [M7] at h;exact wpAny_eqBool_str h
 «strs»:=λk x t v h=>by
  rcases bB h with⟨i,u,rfl,e⟩|⟨y,u,rfl,e⟩
  .exact nomatch e
  .injection e with c _
   subst c;cases v<;>rfl
def vb(prog:hF)(w:hG)(i:Int)(t:Tok):(br prog w).is (.inl i) (.int i t)=e6:=A1 i t
def vc(prog:hF)(w:hG)(x:Str)(t:Tok):(br prog w).is (.inr x) (.str x t)=e6:=A2 x t
inductive V where
 |aP|bl (b:Bool)|int (i:Int)|str (x:Str)|S7 (b:Array UInt8)|Td (b:UInt64)|ref (a:g5)|ty (n:String)
 deriving DecidableEq
variable{v:V}{vs:List V}
def RelV:V->fP->Prop
 |.aP,u=>u=fP.none|.bl b,u=>u=fP.bool b|.int i,u=>∃t,u=fP.int i t|.str x,u=>∃t,u=fP.str x t|.S7 b,u=>∃t,u=fP.bytes b t|.Td b,u=>∃t,u=fP.float b t|.ref a,u=>u=fP.ref a|.ty n,u=>u=fP.type n
noncomputable abbrev Vals:List V->List fP->Prop:=Paired RelV
def Vals.length{xs:List V}(r:Vals xs us):xs.length=us.length:=Paired.length r
theorem Vals.get:∀{xs:List V} {us:List fP} {i:Nat} {x:V},Vals xs us->xs[i]?=eW x->∃u,us[i]?=eW u/\RelV x u
 |_,_,_,_,.nil,e=>by simp at e|_,_,0,_,.cons r _,e=>by simp at e;subst e;exact{_,rfl,r}|_,_,i+1,x,.cons _ t,e=>by let(u,a,b):=Vals.get (i:=i) (x:=x) t (zx6 e);exact{u,zx6 a,b}
def Vals.append{xs ys:List V}{ws:List fP}(r:Vals xs us)(s:Vals ys ws):Vals (xs++ys) (us++ws):=by
 induction r with
 |nil=>exact s|cons r _ a=>exact .cons r a
theorem Vals.take:∀{xs:List V} {us:List fP} (n:Nat),Vals xs us->Vals (xs.take n) (us.take n)
 |_,_,0,_=>.nil|_,_,_+1,.nil=>.nil|_,_,n+1,.cons r t=>.cons r (Vals.take n t)
theorem Vals.drop:∀{xs:List V} {us:List fP} (n:Nat),Vals xs us->Vals (xs.drop n) (us.drop n)
 |_,_,0,r=>r|_,_,_+1,.nil=>.nil|_,_,n+1,.cons _ t=>Vals.drop n t
def g7:Option V->Option fP->Prop
 |some v,eW u=>RelV v u|none,eX=>True|_,_=>False
def KV{a:Type}:List (a×V)->List (a×fP)->Prop:=Paired λ(p:a×V) (q:a×fP)=>p.1=q.1/\RelV p.2 q.2
abbrev kV:Key->V
 |.inl i=>.int i|.inr x=>.str x
inductive HO where
 |lst (xs:List V)
 |tup (xs:List V)
 |dK (aB:List (Key×V))|dT (aB:List (List Key×V))
 |set (S:Int->Bool) (n:Nat)
 |ins (C dx:g5) (fs:List (Str×V))
 |own (x:g5)
 |xd (fs:List (Str×V))
 |met (f x:g5)
 |sX (lo hi:Int)
 |bR (o:Obj) (u:HO)
 |gA (ps:Array fP)
 |ext (φ:hZ->Prop)
noncomputable abbrev Hp:=g5->Option HO
variable{H G H1 H0:Hp}
abbrev upd(H:Hp)(a:g5)(o:HO):Hp:=λb=>if b=a then eW o else H b
def aq{o:HO}:upd H a o a=eW o:=by unfold upd;rw [if_pos rfl]
def ai{b:g5}{o:HO}(h:b≠a):upd H a o b=H b:=by unfold upd;rw [if_neg h]
def zT{o u:HO}:upd (upd H a o) a u=upd H a u:=by funext b;unfold upd;split<;>rfl
def ve{b:g5}{o u:HO}(h:H a=eW o)(h':H b=eW u)(d:o≠u):a≠b:=by intro e;subst e;rw [h] at h';exact d (zzq h')
def bH{b:g5}{o:HO}(h:H a=eW o)(h':H b=eX):a≠b:=by intro e;subst e;rw [h] at h';cases h'
section
variable(P:hF)(w:hG)
def bT(H:Hp)(h:hZ)(a:g5):HO->Prop
 |.lst xs=>xs.length<=h9/\∃(c:List fP) (n:Nat),Vals xs c/\h.get? a=eW {cls:=.type "list",data:=.seq c.toArray n}|.tup xs=>xs.length<=h9/\∃c:List fP,Vals xs c/\IsTup h a c.toArray|.dK d=>d.length<=h9/\(a==sysModules)=fx/\∃vs,KV d vs/\h.DictOf (br P w) a vs|.dT d=>d.length<=h9/\(a==sysModules)=fx/\∃xs:List (List Key×g5×fP),
  Paired (λ(p:List Key×V) (q:List Key×g5×fP)=>p.1=q.1/\H q.2.1=eW (.tup (p.1.map kV))/\RelV p.2 q.2.2) d xs/\
  ∃o g k,h.get? a=eW o/\o.ExactDict/\o.data=.dict g k/\g.toList=xs.map (entryOfKey (tupleKind (br P w)))/\(xs.map (·.1)).Nodup
 |.set S n=>h.SetOf (intKind P w) a S n|.ins C dx fs=>H dx=eW (.own a)/\fs.length<=1000/\dx≠a/\h.get? a=eW (PySem.W.instObj C dx)/\
  ∃b,h.Ns1 dx b/\(∀f,g7 (fs.lookup f) (b f))/\PySem.Within b (fs.map (·.1))
 |.own _=>∃o,h.get? a=eW o|.xd fs=>∃b,h.Ns1 a b/\∀f,g7 (fs.lookup f) (b f)|.sX lo m=>∃t u v,h.get? a=eW {cls:=.type "range",data:=.fields #[.int lo t,.int m u,.int 1 v]}|.bR o u=>h.get? a=eW o/\bT H h a u|.gA ps=>h.get? a=eW {cls:=.none,data:=.fields ps}|.met f x=>h.get? a=eW (PySem.W.methodObj (.ref f) (.ref x))|.ext e=>e h/\(∃o,h.get? a=eW o)/\∀i j:hZ,e i->(∀o,i.get? a=eW o->j.get? a=eW o)->e j
def ft(H:Hp)(h:hZ):Prop:=∀a o,H a=eW o->bT P w H h a o
end
section
variable{P:hF}{w:hG}{H':Hp}{o:HO}
def bT.lt(x:bT P w H h a o):a<h.objs.size:=by
 cases o with
 |lst xs=>let(_,_,_,_,e):=x;exact bX e|tup xs=>let(_,_,_,p):=x;exact p.lt|dK b=>let(_,_,_,_,o,_,_,e,_):=x;exact bX e|dT b=>let(_,_,_,_,o,_,_,e,_):=x;exact bX e|set S n=>let(o,_,_,_,e,_):=x;exact bX e|ins C dx fs=>let(_,_,_,e,_):=x;exact bX e|own y=>let(_,e):=x;exact bX e|xd fs=>let(_,(_,_,_,e,_),_):=x;exact bX e|sX lo c=>let(_,_,_,e):=x;exact bX e|bR ob u=>let(e,_):=x;exact bX e|gA d=>exact bX (show h.get? a=eW _ from x)|met f y=>exact bX (show h.get? a=eW _ from x)|ext g=>let(_,(_,e),_):=x;exact bX e
def Paired.Io{e g:Type}{F G:e->g->Prop}{c:List e}{d:List g}(r:Paired F c d)(f:∀a b,F a b->G a b):Paired G c d:=by
 induction r with
 |nil=>exact .nil|cons r _ i=>exact .cons (f _ _ r) i
def bT.fT(x:bT P w H h a o)(k:∀b u,(b=a\/H b=eW (.own a))->h.get? b=eW u->h'.get? b=eW u)
 (B:∀b,H b=eW (.own a)->H' b=eW (.own a)) (D:∀b xs,H b=eW (.tup xs)->H' b=eW (.tup xs)):bT P w H' h' a o:=by
 induction o with
 |lst xs=>let(z,j,n,r,e):=x;exact{z,j,n,r,k _ _ (.inl rfl) e}|tup xs=>let(z,j,r,ob,e,c):=x;exact{z,j,r,ob,k _ _ (.inl rfl) e,c}|dK E=>let(z,y,F,r,ob,g,i,e,c):=x;exact{z,y,F,r,ob,g,i,k _ _ (.inl rfl) e,c}|dT E=>let(z,y,xs,r,ob,g,i,e,c):=x;exact{z,y,xs,Paired.Io r λp q z=>{z.1,D _ _ z.2.1,z.2.2},ob,g,i,k _ _ (.inl rfl) e,c}|set S n=>let(ob,g,i,t,e,c):=x;exact{ob,g,i,t,k _ _ (.inl rfl) e,c}|ins C dx fs=>let(d,z,ne,e,m,(s,g,i,G,c),r):=x;exact{B _ d,z,ne,k _ _ (.inl rfl) e,m,{s,g,i,k _ _ (.inr d) G,c},r}|own y=>let(ob,e):=x;exact{ob,k _ _ (.inl rfl) e}|xd fs=>let(m,(s,g,i,e,c),r):=x;exact{m,{s,g,i,k _ _ (.inl rfl) e,c},r}|sX lo K=>let(t,u,v,e):=x;exact{t,u,v,k _ _ (.inl rfl) e}|bR ob u I=>let(e,q):=x;exact{k _ _ (.inl rfl) e,I q}|gA A=>have e:h.get? a=eW {cls:=.none,data:=.fields A}:=x;show h'.get? a=eW {cls:=.none,data:=.fields A};exact k a _ (.inl rfl) e|met f y=>have e:h.get? a=eW (PySem.W.methodObj (.ref f) (.ref y)):=x;show h'.get? a=eW (PySem.W.methodObj (.ref f) (.ref y));exact k a _ (.inl rfl) e|ext L=>let(p,(o,e),st):=x;exact{st _ _ p λo q=>k _ _ (.inl rfl) q,{o,k _ _ (.inl rfl) e},st}
def ft.lt(x:ft P w H h)(e:H a=eW o):a<h.objs.size:=(x a o e).lt
def ft.fresh(x:ft P w H h)(e:h.objs.size<=a):H a=eX:=by
 cases q:H a with
 |none=>rfl|some u=>exact absurd (c6 (x.lt q) e) (Nat.lt_irrefl _)
def ft.kept(x:ft P w H h)(k:∀b u,h.get? b=eW u->h'.get? b=eW u):ft P w H h':=λa o e=>(x a o e).fT (λb u Z q=>k b u q) (λZ q=>q) λZ Z q=>q
theorem ft.laid(x:ft P w H h)(k:∀b u,h.get? b=eW u->h'.get? b=eW u)(g:h.objs.size<=a)(new:bT P w (upd H a o) h' a o):ft P w (upd H a o) h':=λb u e=>by
 have d:=x.fresh g;by_cases f:b=a
 .subst f;rw [aq] at e;cases e;exact new
 .rw [ai f] at e;exact(x b u e).fT (λc v Z q=>k c v q) (λc q=>by rw [ai (bH q d)];exact q) λc xs q=>by rw [ai (bH q d)];exact q
end
def Rd(H:Hp)(a:g5)(u:HO):Prop:=H a=eW u\/∃o,H a=eW (.bR o u)
def Rd.ok{P:hF}{w:hG}{u:HO}(r:Rd H a u)(x:ft P w H h):bT P w H h a u:=by
 rcases r with r|⟨o,r⟩
 .exact x a u r
 .let(_,q):=x a _ r;exact q
def PN:Option HO->Prop
 |some (.lst _)=>True|some (.dK _)=>True|some (.dT _)=>True|some (.set _ _)=>True|some (.ins _ _ _)=>True|some (.ext _)=>True|_=>False
section
variable{P:hF}{w:hG}{x e:g5}{o':HO}
def ft.write(ok:ft P w H h)(d:PN (H x))(he:e=x\/H e=eW (.own x))(k:∀b u,b≠e->h.get? b=eW u->h'.get? b=eW u)(m:∃u,h'.get? e=eW u)
 (new:bT P w (upd H x o') h' x o'):ft P w (upd H x o') h':=λb u q=>by
 have i:∀c y,H c=eW (.own y)->c≠x:=λc y r z=>by subst z;rw [r] at d;exact d
 have o:∀c xs,H c=eW (.tup xs)->c≠x:=λc xs r z=>by subst z;rw [r] at d;exact d
 by_cases f:b=x
 .subst f;rw [aq] at q;cases q;exact new
 .rw [ai f] at q;by_cases a:b=e
  .have j:H b=eW (.own x):=by
    rcases he with z|z
    .exact absurd (a.trans z) f
    .rw [a];exact z
   rw [q] at j;cases j;let(v,p):=m;exact{v,by rw [a];exact p}
  .refine(ok b u q).fT (λc v g r=>k c v ?_ r) (λc r=>by rw [ai (i c b r)];exact r) λc xs r=>by rw [ai (o c xs r)];exact r
   rcases g with rfl|g
   .exact a
   .rintro rfl
    rcases he with z|z
    .exact i c b g z
    .rw [g] at z;cases z;exact f rfl
end
structure Un(fs ex:List g5)(H H':Hp)(h h':hZ):Prop where
 keep:∀b o,h.get? b=eW o->H b=eX->b∉fs->b∉ex->h'.get? b=eW o
 slot:∀b o,h.get? b=eW o->H b=eX->b∈fs->b∉ex->∃sl,h'.get? b=eW {o with slots:=sl}
 free:∀b o,h.get? b=eW o->H b=eX->b∉ex->H' b=eX
 there:∀b o,h.get? b=eW o->b∉ex->∃o',h'.get? b=eW o'
 hV:∀b xs,H b=eW (.tup xs)->H' b=eW (.tup xs)
 gf:∀b o u,H b=eW (.bR o u)->H' b=eW (.bR o u)
 gS:∀b ps,H b=eW (.gA ps)->∃more,H' b=eW (.gA (ps++more))
section
variable{fs ex:List g5}{h1:hZ}{x e:g5}{o:HO}
def Un.any(u:Un fs ex H H1 h h1){b:g5}{ob:Obj}(q:h.get? b=eW ob)(n:H b=eX)(c:b∉ex):∃f,h1.get? b=eW {ob with slots:=f}:=by
 by_cases d:b∈fs
 .exact u.slot b ob q n d c
 .exact{ob.slots,u.keep b ob q n d c}
def Un.kept(k:∀b u,h.get? b=eW u->h'.get? b=eW u):Un fs ex H H h h':=
 {λb ob q Z Z Z=>k b ob q,λb ob q Z Z Z=>{ob.slots,k b ob q},λZ Z Z n Z=>n,λb ob q Z=>{ob,k b ob q},λZ Z q=>q,λZ Z Z q=>q,λZ c q=>{#[],by rw [q];simp}}
def Un.refl:Un fs ex H H h h:=Un.kept λZ Z q=>q
theorem Un.laid(k:∀b u,h.get? b=eW u->h'.get? b=eW u)(c:h.objs.size<=a)(hn:H a=eX):Un fs ex H (upd H a o) h h' where
 keep:=λb u q Z Z Z=>k b u q
 slot:=λb u q Z Z Z=>{u.slots,k b u q}
 free:=λb u q n Z=>by rw [ai (dV (c6 (bX q) c))];exact n
 there:=λb u q Z=>{u,k b u q}
 hV:=λb xs q=>by rw [ai (bH q hn)];exact q
 gf:=λb u xs q=>by rw [ai (bH q hn)];exact q
 gS:=λb d q=>{#[],by rw [ai (bH q hn),q];simp}
def Un.write(d:PN (H x))(he:e=x\/H e=eW (.own x))(k:∀b u,b≠e->h.get? b=eW u->h'.get? b=eW u)(i:∃u,h'.get? e=eW u):Un fs ex H (upd H x o) h h':=by
 have f:∀b,H b=eX->b≠x:=λb n z=>by subst z;rw [n] at d;exact d
 have g:∀b,H b=eX->b≠e:=λb n z=>by
  subst z;rcases he with r|r
  .exact f b n r
  .rw [n] at r;cases r
 have hm:∀b u,H b=eW u->¬PN (eW u)->b≠x:=λb u q nm z=>by subst z;rw [q] at d;exact nm d
 refine{λb u q n Z Z=>k b u (g b n) q,λb u q n Z Z=>{u.slots,k b u (g b n) q},λb u q n Z=>by rw [ai (f b n)];exact n,λb u q Z=>?_,
  λb xs q=>by rw [ai (hm b _ q λz=>z)];exact q,λb u xs q=>by rw [ai (hm b _ q λz=>z)];exact q,λb j q=>{#[],by rw [ai (hm b _ q λz=>z),q];simp}}
 by_cases c:b=e
 .subst c;exact i
 .exact{u,k b u c q}
end
abbrev TB(h:hZ)(H:Hp):List Addr:=(List.range h.objs.size).filter λa=>(H a).isSome
abbrev r6(h:hZ)(H:Hp):Heap:=PySem.W.hideAll h (TB h H)
def AU(h:hZ)(H:Hp):(r6 h H).objs.size=h.objs.size:=PySem.W.hideAll_size _ _
theorem DH{b:g5}(e:h.get? b=eW o)(n:H b=eX):(r6 h H).get? b=eW o:=
 PySem.W.hideAll_get _ e λhm=>by have q:(H b).isSome=e6:=(List.mem_filter.mp hm).2;rw [n] at q;simp at q
def IL{b:g5}(e:(r6 h H).get? b=eW o):h.get? b=eW o/\H b=eX:=by
 have a:h.get? b=eW o:=PySem.W.of_hideAll (TB h H) e
 refine{a,?_};cases q:H b with
 |none=>rfl|some x=>have hm:b∈TB h H:=List.mem_filter.mpr {List.mem_range.mpr (bX a),by simp [q]};have z:(r6 h H).get? b=eX:=PySem.W.hideAll_none (TB h H) hm;rw [z] at e;cases e
abbrev GP(g h:hZ)(L:g5):kr:=(List.range h.objs.size).filterMap λa=>if a=L\/(g.get? a).isSome=e6 then eX else(h.get? a).map λo=>(a,o)
abbrev rest(g h:hZ)(L d:g5):kr:=(GP g h L).filter λp=>decide (p.1≠d)
structure Mod(K:zz8)(mg:Str->Option fP)(base:hZ):Prop where
 Ii:K.In base
 glob:base.Ns iv mg
 blt:∃mb,base.Ns builtinsNs mb/\∀x:Str,x≠(zu 40)->mb x=bootBuiltins x
 nolimit:base.NoLimit
structure Cx where
 prog:hF
 w:hG
 K:zz8
 mg:Str->Option fP
 base:hZ
 A:hT
 N:List Str
 s₀:gC
 H₀:Hp
 env:Env
 outer:List Env
 stack:List Env
 ex:List g5
 fn:Str->Bool
 calm:Bool
 pn:kr
 xe:kd
variable{X:Cx}
abbrev fv(l:List Env):List Addr:=l.filterMap (·.frame)
noncomputable abbrev Cx.fs(X:Cx):List Addr:=fv X.outer
def P0(sc:hX)(x:Str):Prop:=sc.names.lookup x=eW .local\/sc.names.lookup x=eW .cell\/sc.names.lookup x=eW .free
def Loc(sc:hX)(x:Str):Prop:=sc.names.lookup x=eW .local\/sc.names.lookup x=eW .cell
def Look(env:Env)(h:hZ)(m:Str->Option fP)(x:Str)(u:fP):Prop:=
 (env.kindOf x=eW .local/\m x=eW u)\/((env.kindOf x=eW .cell\/env.kindOf x=eW .free)/\∃c,env.cells.lookup x=eW c/\h.IsCell c (eW u))
structure Cx.Ok(X:Cx):Prop where
 mod:Mod X.K X.mg X.base
 kind:X.env.scope.kind=.function
 glob:X.env.globals=iv
 blt:X.env.builtins=builtinsNs
 above:X.s₀.heap.objs.size<=X.env.locals
 inj:∀x y c,X.env.cells.lookup x=eW c->X.env.cells.lookup y=eW c->x=y
 has:∀x,(X.env.kindOf x=eW .cell\/X.env.kindOf x=eW .free)->∃c,X.env.cells.lookup x=eW c
 Ld:∀x c,X.fn x=e6->X.env.cells.lookup x=eW c->X.s₀.heap.objs.size<=c
 hd:X.calm=e6->X.A.handled=eX
 frames:X.A.frames=eW X.stack
 OJ:X.stack=X.outer\/(X.stack=X.env::X.outer/\X.env.frame=eW X.env.locals)
 UE:∀b∈X.ex,b≠X.env.locals/\∀x c,X.env.cells.lookup x=eW c->c≠b
 bs:∀b o,X.base.get? b=eW o->X.s₀.heap.get? b=eW o/\X.H₀ b=eX
 wF:X.base.objs.size<=X.s₀.heap.objs.size
 Bd:∀b o,X.base.get? b=eW o->b∉X.ex
 CO:∀b∈X.ex,b∉X.fs
 hJ:X.s₀.heap.FunFrames X.base X.outer
 wW:∀b∈X.fs,X.H₀ b=eX
structure Inv(X:Cx)(aa:kr)(σ:List (Option V))(H:Hp)(s:gC):Prop where
 ok:X.Ok
 os:s.os=X.s₀.os
 bare:AllBare s.gens
 base:Un X.fs X.ex X.H₀ H X.s₀.heap s.heap
 loc:∃m,s.heap.Ns X.env.locals m/\∀(i:Nat) (x:Str) (v:V),X.N[i]?=eW x->σ[i]?=eW (eW v)->P0 X.env.scope x->∃u,RelV v u/\Look X.env s.heap m x u
 cell:∀x c,X.env.cells.lookup x=eW c->∃v,s.heap.IsCell c v
 free:H X.env.locals=eX
 fz:∀x c,X.env.cells.lookup x=eW c->H c=eX
 pin:∀p∈X.pn++aa,s.heap.get? p.1=eW p.2/\H p.1=eX/\p.1≠X.env.locals/\p.1∉X.fs/\∀v,p.2.data≠.cell v
 aM:ft X.prog X.w H s.heap
 len:σ.length=X.N.length
section
variable{σ:List (Option V)}{H':Hp}{s:gC}
theorem Cx.Ok.V6(ok:X.Ok){b:g5}(e:X.base.get? b=eW o):b∉X.fs:=λa=>by have:=(ok.hJ.mem a).1;rw [e] at this;cases this
def Inv.bs(I:zv1 s):∀b o,X.base.get? b=eW o->s.heap.get? b=eW o/\H b=eX:=λb o e=>{I.base.keep b o (I.ok.bs b o e).1 (I.ok.bs b o e).2 (I.ok.V6 e) (I.ok.Bd b o e),I.base.free b o (I.ok.bs b o e).1 (I.ok.bs b o e).2 (I.ok.Bd b o e)}
def Inv.bk(I:zv1 s):∀b o,X.base.get? b=eW o->s.heap.get? b=eW o:=λb o e=>(I.bs b o e).1
def Inv.mod(I:zv1 s):Mod X.K X.mg X.base:=I.ok.mod
def Inv.j2(I:zv1 s):X.K.In s.heap:=I.ok.mod.Ii.keeps I.bk
theorem Inv.fr(I:zv1 s):∃m,Fr X.base X.env.locals s.heap m:=
 let⟨m,a,_⟩:=I.loc
 {m,a,I.bk,c4 I.ok.wF I.ok.above}
theorem Inv.lt(I:zv1 s):X.env.locals<(zz9 s):=let⟨_,a,_⟩:=I.loc;a.lt
def Inv.sz(I:zv1 s):X.s₀.heap.objs.size<=(zz9 s):=c4 I.ok.above (Nat.le_of_lt I.lt)
theorem Inv.V7(I:zv1 s)(h:(zz9 s)<=a):a∉X.fs:=λb=>by let(_,o,c,_):=I.ok.hJ.mem b;exact absurd (c6 (bX c) (c4 I.sz h)) (Nat.lt_irrefl _)
theorem Inv.BQ(I:zv1 s):∀x c,X.env.cells.lookup x=eW c->c≠X.env.locals:=λx c e z=>by let(v,o,b,hd):=I.cell x c e;let(m,(f,g,h,d,a,_),_):=I.loc;rw [z,d] at b;cases b;rw [a] at hd;cases hd
def Inv.hJ(I:zv1 s):s.heap.FunFrames X.base X.outer:=by
 have all:∀(l:List Env),(∀b∈fv l,b∈X.fs)->X.s₀.heap.FunFrames X.base l->s.heap.FunFrames X.base l:=by
  intro l
  induction l with
  |nil=>intro _ _;trivial|cons env r f=>intro hs hl;let(hk,(L,o,a,g,h,hd),i):=hl;have c:L∈X.fs:=hs L (by unfold fv;rw [List.filterMap_cons,a];exact b4);let(j,e):=I.base.slot L o h (I.ok.wW L c) c λz=>I.ok.CO L z c;exact{hk,{L,_,a,g,e,hd},f (λb d=>hs b (by unfold fv;rw [List.filterMap_cons,a];exact bI _ d)) i}
 exact all X.outer (λZ d=>d) I.ok.hJ
def Inv.stack(I:zv1 s):s.heap.FunFrames X.base X.stack:=by
 rcases I.ok.OJ with e|⟨e,hf⟩
 .rw [e];exact I.hJ
 .rw [e];let(m,a,_):=I.loc;refine .cons (by rw [I.ok.kind];decide) hf a ?_ I.hJ;exact hZ.get?_none_of_le (c4 I.ok.wF I.ok.above)
def Inv.mi(I:zv1 s):∀b∈fv X.stack,b∈X.env.locals::X.fs:=λb a=>by
 rcases I.ok.OJ with e|⟨e,hf⟩
 .rw [e] at a;exact bI _ a
 .rw [e] at a;unfold fv at a;rw [List.filterMap_cons,hf] at a;exact a
theorem Inv.nE(I:zv1 s):∀b∈fv X.stack,H b=eX:=λb a=>by
 rcases d8.mp (I.mi b a) with e|a
 .rw [e];exact I.free
 .let(_,o,c,_):=I.ok.hJ.mem a;exact I.base.free b o c (I.ok.wW b a) λz=>I.ok.CO b z a
def Inv.step{g':Array GenState}{t':Nat}{d':Drawn}{ch:List g5}(I:zv1 s)
 (t:∀b∈ch,(b∈X.ex\/X.s₀.heap.objs.size<=b)/\b≠X.env.locals/\(∀x c,X.env.cells.lookup x=eW c->c≠b)/\∀p∈X.pn++aa,p.1≠b)
 (keep:∀b o,b≠X.env.locals->b∉X.fs->b∉ch->s.heap.get? b=eW o->H b=eX->h'.get? b=eW o)
 (slot:∀b o,b≠X.env.locals->b∈X.fs->b∉ch->s.heap.get? b=eW o->H b=eX->∃D,h'.get? b=eW {o with slots:=D}) (free:∀b o,b∉ch->s.heap.get? b=eW o->H b=eX->H' b=eX)
 (there:∀b o,b∉ch->s.heap.get? b=eW o->∃y,h'.get? b=eW y)
 (hV:∀b xs,H b=eW (.tup xs)->H' b=eW (.tup xs)) (gf:∀b o u,H b=eW (.bR o u)->H' b=eW (.bR o u)) (gS:∀b ps,H b=eW (.gA ps)->∃more,H' b=eW (.gA (ps++more)))
 (ns:∀m,s.heap.Ns X.env.locals m->h'.Ns X.env.locals m) (aM:ft X.prog X.w H' h') (M:AllBare g'):
 Inv X aa σ H' {s with heap:=h',gens:=g',drawn:=d',toks:=t'}:=by
 have Ts:∀b o,X.s₀.heap.get? b=eW o->b≠X.env.locals:=λb o e=>dV (c6 (bX e) I.ok.above)
 have C:∀b o,X.s₀.heap.get? b=eW o->b∉X.ex->b∉ch:=λb o e a h=>by
  rcases(t b h).1 with z|z
  .exact a z
  .exact absurd (c6 (bX e) z) (Nat.lt_irrefl _)
 have f:∀x c,X.env.cells.lookup x=eW c->∀v,s.heap.IsCell c v->h'.IsCell c v:=λx c e v E=>by
  let(o,j,hd):=E;have A:c∉ch:=λz=>(t c z).2.2.1 x c e rfl;by_cases G:c∈X.fs
  .let(D,q):=slot c o (I.BQ x c e) G A j (I.fz x c e);exact{_,q,hd}
  .exact{o,keep c o (I.BQ x c e) G A j (I.fz x c e),hd}
 refine{I.ok,I.os,M,{λb o e n h a=>?_,λb o e n h a=>?_,λb o e n a=>?_,λb o e a=>?_,λb xs e=>hV b xs (I.base.hV b xs e),λb o xs e=>gf b o xs (I.base.gf b o xs e),λb ps e=>?_},?_,λx c e=>?_,?_,λx c e=>?_,λp K=>?_,aM,I.len}
 .exact keep b o (Ts b o e) h (C b o e a) (I.base.keep b o e n h a) (I.base.free b o e n a)
 .let(D,g):=I.base.slot b o e n h a;let(F,B):=slot b _ (Ts b o e) h (C b o e a) g (I.base.free b o e n a);exact⟨F,B⟩
 .let(y,g):=I.base.there b o e a;exact free b y (C b o e a) g (I.base.free b o e n a)
 .let(y,g):=I.base.there b o e a;exact there b y (C b o e a) g
 .let(m1,g):=I.base.gS b ps e;let(m2,B):=gS b _ g;exact{m1++m2,by rw [B,Array.append_assoc]}
 .let(m,N,hl):=I.loc;refine{m,ns m N,λi x v g B e3=>?_};let(u,r,l):=hl i x v g B e3
  refine{u,r,?_};rcases l with l|⟨k,c,e,z⟩
  .exact .inl l
  .exact .inr {k,c,e,f x c e _ z}
 .let(v,z):=I.cell x c e;exact{v,f x c e v z}
 .let(m,(o,_,_,j,_),_):=I.loc;exact free _ o (λz=>(t _ z).2.1 rfl) j I.free
 .let(v,o,j,hd):=I.cell x c e;exact free c o (λz=>(t c z).2.2.1 x c e rfl) j (I.fz x c e)
 .let(e,n,ne,L,d):=I.pin p K;have A:p.1∉ch:=λz=>(t p.1 z).2.2.2 p K rfl;exact{keep p.1 p.2 ne L A e n,free p.1 p.2 A e n,ne,L,d}
def Inv.un{t':Nat}(I:zv1 s)(u:Un X.fs [] H H' s.heap h')(aM:ft X.prog X.w H' h'):Inv X aa σ H' {s with heap:=h',toks:=t'}:=by let(m,(o,j,k,f,r),_):=id I.loc;let(p,h):=u.any f I.free (by simp);exact I.step (g':=s.gens) (d':=s.drawn) (ch:=[]) (λZ z=>nomatch z) (λb o Z a Z e n=>u.keep b o e n a (by simp)) (λb o Z a Z e n=>u.slot b o e n a (by simp)) (λb o Z e n=>u.free b o e n (by simp)) (λb o Z e=>u.there b o e (by simp)) u.hV u.gf u.gS (λq hm=>by let(t,c,d,g,i):=hm;rw [f] at g;cases g;exact{_,c,d,h,i}) aM I.bare
def Inv.call{g':Array GenState}{t':Nat}{d':Drawn}{ch:List g5}(I:zv1 s)(u:Un (fv X.stack) ch H H' s.heap h')(aM:ft X.prog X.w H' h')(k:AllBare g')
 (h:∀b∈ch,(b∈X.ex\/X.s₀.heap.objs.size<=b)/\b≠X.env.locals/\(∀x c,X.env.cells.lookup x=eW c->c≠b)/\∀p∈X.pn++aa,p.1≠b):
 Inv X aa σ H' {s with heap:=h',gens:=g',drawn:=d',toks:=t'}:=by
 let(m,(o,y,A,i,r),_):=id I.loc;let(B,d):=u.any i I.free λz=>(h _ z).2.1 rfl;exact I.step (ch:=ch) h (λb o d q a e n=>u.keep b o e n (λz=>(d8.mp (I.mi b z)).elim d q) a) (λb o Z Z a e n=>u.any e n a) (λb o a e n=>u.free b o e n a) (λb o a e=>u.there b o e a) u.hV u.gf u.gS (λC hm=>by let(D,f,g,j,t):=hm;rw [i] at j;cases j;exact{_,f,g,d,t}) aM k
def Inv.turned{t':Nat}{it:g5}(I:zv1 s)(k:∀b o,b≠it->s.heap.get? b=eW o->h'.get? b=eW o)(hn:H it=eX)(d:it≠X.env.locals)
 (g:it∈X.ex\/X.s₀.heap.objs.size<=it) (h:∀x c,X.env.cells.lookup x=eW c->c≠it) (i:∀p∈X.pn++aa,p.1≠it):Inv X aa σ H {s with heap:=h',toks:=t'}:=by
 have f:∀b u,H b=eW u->b≠it:=λb u e z=>by rw [z,hn] at e;cases e
 refine I.step (g':=s.gens) (d':=s.drawn) (ch:=[it]) (λb j=>?_) (λb o Z Z a e Z=>k b o (λz=>a (by simp [z])) e) (λb o Z Z a e Z=>{o.slots,k b o (λz=>a (by simp [z])) e}) (λZ Z Z Z n=>n)
  (λb o a e=>{o,k b o (λz=>a (by simp [z])) e}) (λZ Z e=>e) (λZ Z Z e=>e) (λb A e=>{#[],by rw [e];simp}) (λm hm=>?_) (λb u e=>?_) I.bare
 .have e:b=it:=zx6 j;subst e;exact⟨g,d,h,i⟩
 .let(o,t,w,y,r):=hm;exact{o,t,w,k _ o (Ne.symm d) y,r}
 .refine(I.aM b u e).fT (λc v a q=>k c v ?_ q) (λZ q=>q) λZ Z q=>q
  rcases a with z|z
  .rw [z];exact f b u e
  .exact f c _ z
theorem Inv.tok(I:zv1 s)(t:Nat):Inv X aa σ H {s with toks:=t}:=I.un (h':=s.heap) (t':=t) Un.refl I.aM
theorem Inv.kept{t':Nat}(I:zv1 s)(k:∀b u,s.heap.get? b=eW u->h'.get? b=eW u):Inv X aa σ H {s with heap:=h',toks:=t'}:=I.un (Un.kept k) (I.aM.kept k)
theorem Inv.laid{o:HO}{t':Nat}(I:zv1 s)(k:∀b u,s.heap.get? b=eW u->h'.get? b=eW u)(c:(zz9 s)<=a)(new:bT X.prog X.w (upd H a o) h' a o):
 Inv X aa σ (upd H a o) {s with heap:=h',toks:=t'}:=I.un (Un.laid k c (I.aM.fresh c)) (I.aM.laid k c new)
theorem Inv.write{x e:g5}{o:HO}{t':Nat}(I:zv1 s)(a:PN (H x))(he:e=x\/H e=eW (.own x))(k:∀b u,b≠e->s.heap.get? b=eW u->h'.get? b=eW u)(c:∃u,h'.get? e=eW u)
 (new:bT X.prog X.w (upd H x o) h' x o):Inv X aa σ (upd H x o) {s with heap:=h',toks:=t'}:=I.un (Un.write a he k c) (I.aM.write a he k c new)
def Inv.nA{a:kr}(I:zv1 s)(h:∀p∈a,s.heap.get? p.1=eW p.2/\H p.1=eX/\p.1≠X.env.locals/\p.1∉X.fs/\∀v,p.2.data≠.cell v):Inv X a σ H s:=
 {I.ok,I.os,I.bare,I.base,I.loc,I.cell,I.free,I.fz,λp b=>(List.mem_append.mp b).elim (λz=>I.pin p (d0 _ z)) (h p),I.aM,I.len}
def k8(hN:N.Nodup){i:Nat}(a:N[i]?=eW x)(b:N[j]?=eW x):i=j:=by let(e,c):=bD.mp a;let(f,d):=bD.mp b;exact(List.getElem_inj hN).mp (c.trans d.symm)
def BD{M:Model}{E:kd}{i:Nat}{Q:Unit->gC->Prop}(I:zv1 s)(hN:X.N.Nodup)(L:X.N[i]?=eW x)(B:Loc X.env.scope x)(r:RelV v u)
 (h:∀s',Inv X aa (σ.set i (eW v)) H s'->(∃a,hZ.SameBut a s.heap s'.heap/\(a=X.env.locals\/X.env.cells.lookup x=eW a))->Q () s') (hf:X.fn x=e6\/X.env.scope.names.lookup x=eW .local:=by first|exact .inl rfl|exact .inr rfl|assumption):hD M A (storeName X.env x u) Q E s:=by
 let(m,T,hl):=id I.loc;have MD:(X.env.scope.kind==.class||(X.env.scope.kind==.module&&X.env.locals !=X.env.globals))=fx:=by rw [I.ok.kind];rfl
 have F:i<σ.length:=by rw [I.len];exact(bD.mp L).1
 have BQ:=I.BQ
 have f:∀{a:g5} {h':hZ},(∃o,s.heap.get? a=eW o/\H a=eX)->hZ.SameBut a s.heap h'->ft X.prog X.w H h':=λ{a h'} ha hs b ob e=>by
  let(_,_,C):=ha;refine(I.aM b ob e).fT (λc R t q=>(hs.2 c ?_).trans q) (λ_ q=>q) λ_ _ q=>q
  rintro rfl
  rcases t with rfl|t
  .rw [C] at e;cases e
  .rw [C] at t;cases t
 rcases B with hk|hk
 .refine wpAny_storeName_local hk T (λh' Pk hs=>?_) MD;let(oL,_,_,Pl,_):=id T;refine h _ {I.ok,I.os,I.bare,{λb o e n G B=>?_,λb o e n G B=>?_,I.base.free,λb o e B=>?_,I.base.hV,I.base.gf,I.base.gS},{_,Pk,λj y U g D e3=>?_},λy c e=>?_,I.free,I.fz,λp W=>?_,f ⟨oL,Pl,I.free⟩ hs,zx6 I.len} {_,hs,.inl rfl}
  .exact(hs.2 b (dV (c6 (bX e) I.ok.above))).trans (I.base.keep b o e n G B)
  .let(Y,g):=I.base.slot b o e n G B;exact{Y,(hs.2 b (dV (c6 (bX e) I.ok.above))).trans g}
  .let(Z,g):=I.base.there b o e B;exact{Z,(hs.2 b (dV (c6 (bX e) I.ok.above))).trans g}
  .by_cases K:j=i
   .subst K;rw [L] at g;cases g;rw [ed F] at D;cases D;exact{u,r,.inl {hk,by simp}}
   .rw [cP (Ne.symm K)] at D;let(u',r',q):=hl j y U g D e3
    refine{u',r',?_};rcases q with⟨k,e⟩|⟨k,c,e,z⟩
    .refine .inl {k,?_};have:y≠x:=λe=>K (k8 hN g (e▸L));simp [this,e]
    .exact .inr {k,c,e,z.sameBut hs (BQ y c e)}
  .let(R,z):=I.cell y c e;exact{R,z.sameBut hs (BQ y c e)}
  .let(e,n,ne,nf,d):=I.pin p W;exact{(hs.2 p.1 ne).trans e,n,ne,nf,d}
 .have nr:X.fn x=e6:=by
   rcases hf with z|z
   .exact z
   .rw [z] at hk;cases hk
  let(c,t):=I.ok.has x (.inl hk);let(R,z):=I.cell x c t;refine wpAny_storeName_cell I.ok.kind hk t z (λh' iU hs=>?_);let(oc,O,P):=id z;refine h {s with heap:=h'} {I.ok,I.os,I.bare,{λb o e n G B=>?_,λb o e n G B=>?_,I.base.free,λb o e B=>?_,I.base.hV,I.base.gf,I.base.gS},{m,T.sameBut hs (Ne.symm (BQ x c t)),λj y U g D e3=>?_},λy S e=>?_,I.free,I.fz,λp W=>?_,f {oc,O,I.fz x c t} hs,zx6 I.len} {c,hs,.inr t}
  .exact(hs.2 b (dV (c6 (bX e) (I.ok.Ld x c nr t)))).trans (I.base.keep b o e n G B)
  .let(Y,g):=I.base.slot b o e n G B;exact{Y,(hs.2 b (dV (c6 (bX e) (I.ok.Ld x c nr t)))).trans g}
  .let(Z,g):=I.base.there b o e B;exact{Z,(hs.2 b (dV (c6 (bX e) (I.ok.Ld x c nr t)))).trans g}
  .by_cases K:j=i
   .subst K;rw [L] at g;cases g;rw [ed F] at D;cases D;exact{u,r,.inr {.inl hk,c,t,iU}}
   .rw [cP (Ne.symm K)] at D;let(u',r',q):=hl j y U g D e3
    refine{u',r',?_};rcases q with q|⟨k,S,e,z'⟩
    .exact .inl q
    .refine .inr {k,S,e,z'.sameBut hs ?_}
     rintro rfl
     exact K (k8 hN g (I.ok.inj _ _ _ e t▸L))
  .by_cases mV:S=c
   .subst mV;exact{_,iU}
   .let(w2,z2):=I.cell y S e;exact{w2,z2.sameBut hs mV}
  .let(e,n,ne,nf,d):=I.pin p W;refine{(hs.2 p.1 ?_).trans e,n,ne,nf,d};intro q;rw [q,O] at e;have q':oc=p.2:=zzq e;exact d R (by rw [<-q'];exact P)
def iL{M:Model}{E:kd}{i:Nat}{Q:Unit->gC->Prop}(I:zv1 s)(hN:X.N.Nodup)(a:X.N[i]?=eW x)(b:Loc X.env.scope x)(r:RelV v u)
 (h:∀s',Inv X aa (σ.set i (eW v)) H s'->Q () s') (c:X.fn x=e6\/X.env.scope.names.lookup x=eW .local:=by first|exact .inl rfl|exact .inr rfl|assumption):hD M A (storeName X.env x u) Q E s:=
 BD I hN a b r (λs' d Z=>h s' d) c
def Inv.Qk{s':gC}{ch:List g5}(I:zv1 s)(a:s'.os=s.os)(u:Un (fv X.stack) ch H H' s.heap s'.heap)(aM:ft X.prog X.w H' s'.heap)(d:AllBare s'.gens)
 (f:∀b∈ch,(b∈X.ex\/X.s₀.heap.objs.size<=b)/\b≠X.env.locals/\(∀x c,X.env.cells.lookup x=eW c->c≠b)/\∀p∈X.pn++aa,p.1≠b):Inv X aa σ H' s':=by
 let(h',g',d',t',g):=s';have e:g=s.os:=a;subst e;exact I.call (g':=g') (t':=t') (d':=d') u aM d f
end
noncomputable abbrev XK:=fP->Option g5->Hp->Prop
noncomputable abbrev St:=List (Option V)
variable{σ:St}
noncomputable abbrev VK:=V->Hp->Prop
variable{Q:VK}
noncomputable abbrev TE:=St->Hp->VK->Prop
noncomputable abbrev TT:=St->Hp->(Bool->Hp->Prop)->Prop
noncomputable abbrev TA:=St->Hp->(List V->Hp->Prop)->Prop
structure Ends where
 nx:St->Hp->Prop
 rt:VK
 bk:St->Hp->Prop:=λ_ _=>False
 ct:St->Hp->Prop:=λ_ _=>False
noncomputable abbrev TS:=Ends->St->Hp->Prop
def EP(X:Cx)(aa:kr)(b:St)(Q:VK)(u:fP)(s':gC):Prop:=∃v a,Inv X aa b a s'/\RelV v u/\Q v a
def TP(X:Cx)(aa:kr)(c:St)(Q:Bool->Hp->Prop)(b:Bool)(s':gC):Prop:=∃a,Inv X aa c a s'/\Q b a
def AP(X:Cx)(aa:kr)(c:St)(Q:List V->Hp->Prop)(us:List fP)(s':gC):Prop:=∃a b,Inv X aa c b s'/\Vals a us/\Q a b
def SP(X:Cx)(aa:kr)(D:Ends)(f:Flow)(s':gC):Prop:=
 match f with
 |.next=>∃a b,Inv X aa a b s'/\D.nx a b|.brk=>∃a b,Inv X aa a b s'/\D.bk a b|.cont=>∃a b,Inv X aa a b s'/\D.ct a b|.ret u=>∃v a b,Inv X aa a b s'/\RelV v u/\D.rt v b
def PE(X:Cx)(e:hB)(t:TE):Prop:=
 ∀(b:kr) (s:gC) (a:St) (H:Hp) (Q:VK),Inv X b a H s->t a H Q->zx7 X (eval e X.env) (EP X b a Q) X.xe s
def PT(X:Cx)(e:hB)(t:TT):Prop:=
 ∀(b:kr) (s:gC) (a:St) (H:Hp) (Q:Bool->Hp->Prop),Inv X b a H s->t a H Q->zx7 X (isTrue e X.env (eval e X.env)) (TP X b a Q) X.xe s
def PW(X:Cx)(e:hB)(t:TT):Prop:=
 ∀(a:Sem fP) (c:kr) (s:gC) (b:St) (H:Hp) (Q:Bool->Hp->Prop),Inv X c b H s->t b H Q->zx7 X (isTrue e X.env a) (TP X c b Q) X.xe s
def PW.pt{t:TT}(h:PW X e t):PT X e t:=h _
def PA(X:Cx)(d:List hB)(t:TA):Prop:=
 ∀(a:Pos) (c:kr) (s:gC) (b:St) (H:Hp) (Q:List V->Hp->Prop),Inv X c b H s->t b H Q->zx7 X (spliced (backTo a (starEach d X.env))) (AP X c b Q) X.xe s
def PS(X:Cx)(st:ig)(t:TS):Prop:=
 ∀(a:kr) (s:gC) (b:St) (H:Hp) (D:Ends),Inv X a b H s->t D b H->zx7 X (exec st X.env) (SP X a D) X.xe s
def qi(X:Cx)(st:List ig)(t:TS):Prop:=
 ∀(a:kr) (s:gC) (b:St) (H:Hp) (D:Ends),Inv X a b H s->t D b H->zx7 X (execs st X.env) (SP X a D) X.xe s
def bL{b:Type}{t:Sem b}{Q c:b->gC->Prop}{M:Model}{E:kd}{s:gC}(h:hD M A t Q E s)(d:∀a s,Q a s->c a s):hD M A t c E s:=wpAny_mono h d λZ Z x=>x
section
def bin{a b:hB}{k tb:TE}(o:PE X a k)(p:PE X b tb){s:gC}{d:St}{R:V->V->Hp->Prop}(I:Inv X aa d H s)(h:k d H λx H1=>tb d H1 λy e=>R x y e)
 {m:Type} {Q:m->gC->Prop} {f:fP->fP->Sem m}
 (hf:∀v u j x y e,Inv X aa d e j->RelV x v->RelV y u->R x y e->zx7 X (f v u) Q X.xe j):
 zx7 X (eval a X.env) (λv g=>zx7 X (eval b X.env) (λu i=>zx7 X (f v u) Q X.xe i) X.xe g) X.xe s:=by
 refine bL (o aa s d H _ I h) λv q c=>?_;let(x,H1,r,t,z):=c;refine bL (p aa q d H1 _ r z) λu j c=>?_;let(y,e,B,C,D):=c;exact hf v u j x y e B t C D
abbrev OW(i:Nat):TE:=λa H Q=>∃v,a[i]?=eW (eW v)/\Q v H
abbrev tC(v:V):TE:=λZ H Q=>Q v H
def ma{i:Nat}(hN:X.N[i]?=eW x)(d:P0 X.env.scope x)(hd:(x==(zu 23:Str))=fx:=by decide)(f:(x==("__classdict__":Str))=fx:=by decide):PE X (.Name x pos) (OW i):=by
 intro g s j H Q I h;let(v,e,h):=h;let(m,k,hl):=I.loc;let(u,r,l):=hl i x v hN e d;have fin:EP X g j Q u s:=⟨v,H,I,r,h⟩
 rcases l with⟨hk,hm⟩|⟨hk,c,a,b⟩
 .exact wpAny_Name (wpAny_loadName_local I.ok.kind hk k hm fin) hd
 .rcases hk with hk|hk
  .exact wpAny_Name (wpAny_loadName_cell I.ok.kind hk a b fin) hd
  .exact wpAny_Name (wpAny_loadName_free I.ok.kind hk a b fin f) hd
def ET{i j pos}:PE X (.Constant (.int i) j pos) (tC (.int i)):=λZ Z Z H Z I h=>wpAny_Constant_int {.int i,H,I.tok _,{_,rfl},h}
def RT{b j pos}:PE X (.Constant (.bool b) j pos) (tC (.bl b)):=λZ Z Z H Z I h=>Constant_bool {.bl b,H,I,rfl,h}
def NV{j pos}:PE X (.Constant .none j pos) (tC .aP):=λZ Z Z H Z I h=>Constant_none {.aP,H,I,rfl,h}
def EY{x j pos}:PE X (.Constant (.str x) j pos) (tC (.str x)):=λZ Z Z H Z I h=>Calls.Constant_str {.str x,H,I.tok _,{_,rfl},h}
def Gl(X:Cx)(x:Str):Prop:=X.env.kindOf x=eW .globalImplicit
def dX{E:kd}{s:gC}{a:St}{Q:kd}(I:Inv X aa a H s)(b:Gl X x)(hm:X.mg x=eW u)(h:Q u s)
 (hd:(x==(zu 23:Str))=fx:=by decide):zx7 X (eval (.Name x pos) X.env) Q E s:=
 Calls.Name_function_global I.ok.kind b (Calls.loadGlobal_global (by rw [I.ok.glob];exact I.mod.glob.keeps I.bk) hm h) hd
def j4{E:kd}{s:gC}{a:St}{Q:kd}(I:Inv X aa a H s)(b:Gl X x)(hm:X.mg x=eX)(c:bootBuiltins x=eW u)(h:Q u s)
 (hn:x≠(zu 40):=by decide) (hd:(x==(zu 23:Str))=fx:=by decide):zx7 X (eval (.Name x pos) X.env) Q E s:=by
 let(mb,d,e):=I.mod.blt;exact Calls.Name_function_global I.ok.kind b (Calls.loadGlobal_builtin (by rw [I.ok.glob];exact I.mod.glob.keeps I.bk) hm (by rw [I.ok.blt];exact d.keeps I.bk) ((e x hn).trans c) h) hd
def zv(a:Gl X x)(hm:X.mg x=eW u)(r:RelV v u)(hd:(x==(zu 23:Str))=fx:=by decide):PE X (.Name x pos) (tC v):=
 λZ Z Z H Z I h=>dX I a hm ⟨v,H,I,r,h⟩ hd
def zq(a:Gl X x)(hm:X.mg x=eX)(b:bootBuiltins x=eW u)(r:RelV v u)(hn:x≠(zu 40):=by decide)(hd:(x==(zu 23:Str))=fx:=by decide):PE X (.Name x pos) (tC v):=
 λZ Z Z H Z I h=>j4 I a hm b ⟨v,H,I,r,h⟩ hn hd
variable{a b:hB}{ta tb:TE}
abbrev tB(t:TE):TT:=λd H Q=>t d H λx e=>∃c,x=.bl c/\Q c e
def N7{t:TE}(h:PE X e t)(he:∀c,isTrue e X.env c=(do let v<-c;standAt e.pos;holding [v] (truthy v)):=by intro _;rfl):PT X e (tB t):=by intro g s i H Q I j;refine isTrue_plain (bL (h g s i H _ I j) λv r f=>?_) (he _);let(x,k,m,o,p):=f;let(d,rfl,q):=p;cases o;exact wpAny_truthy_bool ⟨k,m,q⟩
variable{tA Tx:TT}{rest:List hB}
abbrev Wz(t u:TT):TT:=λd H Q=>t d H λc e=>if c=e6 then u d e Q else Q fx e
abbrev tOr(t u:TT):TT:=λd H Q=>t d H λc e=>if c=e6 then Q e6 e else u d e Q
abbrev WI(t:TT):TT:=λd H Q=>t d H λc e=>Q (!c) e
def pw_and1(d:PT X a tA):PW X (.BoolOp .And [a] pos) tA:=by
 intro i f s g H Q I h;refine isTrue_and (bL (d f s g H Q I h) λc j e=>?_)
 cases c with
 |true=>exact isTrue_and_nil e|false=>exact e
def pw_or1(d:PT X a tA):PW X (.BoolOp .Or [a] pos) tA:=by
 intro i f s g H Q I h;refine isTrue_or (bL (d f s g H Q I h) λc j e=>?_)
 cases c with
 |false=>exact isTrue_or_nil e|true=>exact e
def pw_and(k:PT X a tA)(m:PW X (.BoolOp .And (b::rest) pos) Tx):PW X (.BoolOp .And (a::b::rest) pos) (Wz tA Tx):=by
 intro o e s f H Q I h;refine isTrue_and (bL (k e s f H _ I h) λc p d=>?_);let(g,i,j):=d
 cases c with
 |true=>exact m o e p f g Q i j|false=>exact⟨g,i,j⟩
def pw_or(k:PT X a tA)(m:PW X (.BoolOp .Or (b::rest) pos) Tx):PW X (.BoolOp .Or (a::b::rest) pos) (tOr tA Tx):=by
 intro o e s f H Q I h;refine isTrue_or (bL (k e s f H _ I h) λc p d=>?_);let(g,i,j):=d
 cases c with
 |true=>exact⟨g,i,j⟩|false=>exact m o e p f g Q i j
def N6(d:PT X a tA):PT X (.UnaryOp .Not a pos) (WI tA):=by intro e s f H Q I h;exact isTrue_not (d e s f H (λc g=>Q (!c) g) I h)
abbrev Su(ta tb:TE):TE:=λd H Q=>ta d H λx e=>∃c,x=.bl c/\if c=e6 then tb d e Q else Q (.bl fx) e
abbrev WJ(ta tb:TE):TE:=λd H Q=>ta d H λx e=>∃c,x=.bl c/\if c=e6 then Q (.bl e6) e else tb d e Q
abbrev SA(ta:TE):TE:=λd H Q=>ta d H λx e=>∃c,x=.bl c/\Q (.bl (!c)) e
def EV{op}{t:TE}(h:PE X a t):PE X (.BoolOp op [a] pos) t:=λc s d H Q I e=>BoolOp_one (h c s d H Q I e)
def NQ(k:PE X a ta)(m:PE X (.BoolOp .And (b::rest) pos) tb):PE X (.BoolOp .And (a::b::rest) pos) (Su ta tb):=by
 intro f s g H Q I h;refine BoolOp_and (bL (k f s g H _ I h) λv o e=>?_);let(x,i,j,p,d):=e;let(c,rfl,d):=d
 cases p;refine wpAny_truthy_bool ?_;cases c with
 |true=>exact m f o g i Q j d|false=>exact{.bl fx,i,j,rfl,d}
def RW(k:PE X a ta)(m:PE X (.BoolOp .Or (b::rest) pos) tb):PE X (.BoolOp .Or (a::b::rest) pos) (WJ ta tb):=by
 intro f s g H Q I h;refine BoolOp_or (bL (k f s g H _ I h) λv o e=>?_);let(x,i,j,p,d):=e;let(c,rfl,d):=d
 cases p;refine wpAny_truthy_bool ?_;cases c with
 |false=>exact m f o g i Q j d|true=>exact{.bl e6,i,j,rfl,d}
def NW(f:PE X a ta):PE X (.UnaryOp .Not a pos) (SA ta):=by intro g s i H Q I h;refine UnaryOp_ (bL (f g s i H _ I h) λv o d=>?_);let(x,j,k,m,e):=d;let(c,rfl,e):=e;cases m;exact not_of (wpAny_truthy_bool {.bl (!c),j,k,rfl,e})
abbrev tIf(t:TT)(ta tb:TE):TE:=λd H Q=>t d H λc e=>if c=e6 then ta d e Q else tb d e Q
def vx{c:hB}(o:PT X c tA)(p:PE X a ta)(q:PE X b tb):PE X (.IfExp c a b pos) (tIf tA ta tb):=by
 intro e s f H Q I h;refine wpAny_IfExp (bL (o e s f H _ I h) λd i g=>?_);let(j,k,m):=g
 cases d with
 |true=>exact p e i f j Q k m|false=>exact q e i f j Q k m
end
def hW(K:zz8)(H:Hp)(a:g5)(xs:List V):Prop:=
 Rd H a (.lst xs)\/
  ∃(o:Obj) (b:Array fP) (n:Nat),K.lookup a=eW o/\o.cls=.type "list"/\o.dict=eX/\o.data=.seq b n/\b.size<=h9/\Vals xs b.toList
def gz(K:zz8)(H:Hp)(a:g5)(xs:List V):Prop:=
 Rd H a (.tup xs)\/
  ∃(o:Obj) (b:Array fP) (n:Nat),K.lookup a=eW o/\o.cls=.type "tuple"/\o.data=.seq b n/\b.size<=h9/\Vals xs b.toList
abbrev Ul:fP->Option V
 |.none=>eW .aP|.bool b=>eW (.bl b)|.int i _=>eW (.int i)|.str x _=>eW (.str x)|.bytes b _=>eW (.S7 b)|.float b _=>eW (.Td b)|.ref a=>eW (.ref a)|.type n=>eW (.ty n)|_=>eX
def RelV.abs{x:V}(r:RelV x u):Ul u=eW x:=by
 cases x with
 |aP=>cases r;rfl
 |bl _=>cases r;rfl
 |int _=>let(t,rfl):=r;rfl|str _=>let(t,rfl):=r;rfl|S7 _=>let(t,rfl):=r;rfl|Td _=>let(t,rfl):=r;rfl|ref _=>cases r;rfl
 |ty _=>cases r;rfl
def RelV.inj{x y:V}(r:RelV x u)(q:RelV y u):x=y:=zzq (r.abs.symm.trans q.abs)
def Vals.inj{xs ys:List V}(r:Vals xs us)(q:Vals ys us):xs=ys:=by
 induction r generalizing ys with
 |nil=>cases q;rfl
 |cons r _ a=>
  cases q with
  |cons b c=>rw [r.inj b,a c]
section
variable{s:gC}{xs ys:List V}
def hW.of{K:zz8}(h:H a=eW (.lst xs)):hW K H a xs:=.inl (.inl h)
def Inv.list(I:zv1 s)(h:hW X.K H a xs):∃b:List fP,Vals xs b/\PlainL s.heap a b.toArray/\xs.length<=sizeLine:=by
 rcases h with h|⟨o,b,n,hk,c,hd,hs,d,r⟩
 .let(z,b,n,r,e):=h.ok I.aM;exact{b,r,{_,n,e,rfl,rfl,rfl},z}
 .refine{b.toList,r,{o,n,I.j2 a o hk,c,hd,zx6 hs},?_};have e:=r.length;simp! [d1] at e;lia
def Inv.tuple(I:zv1 s)(h:gz X.K H a xs):∃b:List fP,Vals xs b/\IsTup s.heap a b.toArray/\xs.length<=sizeLine:=by
 rcases h with h|⟨o,b,n,hk,c,hs,d,r⟩
 .let(z,b,r,p):=h.ok I.aM;exact⟨b,r,p,z⟩
 .refine{b.toList,r,{o,I.j2 a o hk,c,n,zx6 hs},?_};have e:=r.length;simp! [d1] at e;lia
def Inv.u4(I:zv1 s)(h:hW X.K H a xs)(h':hW X.K H a ys):xs=ys:=by
 let(g,r,(o,n,e,_,_,d),_):=I.list h;let(b,i,(k,m,c,_,_,f),_):=I.list h';rw [e] at c;cases c;rw [d] at f
 injection f with j _
 have:g=b:=by simpa using congrArg Array.toList j
 subst this;exact r.inj i
def Inv.q0(I:zv1 s)(h:gz X.K H a xs)(h':gz X.K H a ys):xs=ys:=by
 let(g,r,(o,e,_,n,d),_):=I.tuple h;let(b,i,(k,c,_,m,f),_):=I.tuple h';rw [e] at c;cases c;rw [d] at f
 injection f with j _
 have:g=b:=by simpa using congrArg Array.toList j
 subst this;exact r.inj i
variable{rest:List ig}{t u:TS}{te:TE}
def Sz:TS:=λD σ H=>D.nx σ H
abbrev WL(t u:TS):TS:=λD σ H=>t {D with nx:=u D} σ H
def sR:qi X [] Sz:=λZ Z σ H Z I h=>wpAny_execs_nil ⟨σ,H,I,h⟩
def vz(c:PS X st t)(d:qi X rest u):qi X (st::rest) (WL t u):=by
 intro aa s σ H D I h;refine wpAny_execs_cons (bL (c aa s σ H {D with nx:=u D} I h) λf g q=>?_)
 cases f with
 |next=>let(b,i,j,q):=q;exact d aa g b i D j q|ret v=>exact q|brk=>exact q|cont=>exact q
def sS(b:PS X st t):qi X [st] t:=by
 intro aa s σ H D I h;refine wpAny_execs_cons (bL (b aa s σ H D I h) λf c q=>?_)
 cases f with
 |next=>exact wpAny_execs_nil q|ret v=>exact q|brk=>exact q|cont=>exact q
def Inv.quiet{s:gC}(I:zv1 s):interactive X.env=fx:=by simp [interactive,I.ok.kind]
abbrev Sx(te:TE):TS:=λD σ H=>te σ H λZ b=>D.nx σ b
theorem sO(he:PE X e te)(hs:swapsWith e eX pos.line X.env=pure fx:=by rfl):PS X (.Expr e pos) (Sx te):=by intro aa s σ H D I h;exact wpAny_Expr_any (bL (he aa s σ H _ I h) λv d ⟨x,H1,b,f,c⟩=>⟨σ,H1,b,c⟩) I.quiet hs
abbrev OU(te:TE):TS:=λD σ H=>te σ H D.rt
def sP(he:PE X e te):PS X (.Return (eW e) pos) (OU te):=by intro aa s σ H D I h;exact wpAny_Return_some (bL (he aa s σ H _ I h) λv f ⟨x,H1,b,c,d⟩=>⟨x,σ,H1,b,c,d⟩)
abbrev WD(c:TT)(t u:TS):TS:=λD σ H=>c σ H λb d=>if b=e6 then t D σ d else u D σ d
def Ku{c:hB}{a b:List ig}{g:TT}(o:PT X c g)(p:qi X a t)(q:qi X b u):PS X (.If c a b pos) (WD g t u):=by
 intro aa s σ H D I h;refine wpAny_If (bL (o aa s σ H _ I h) λd i f=>?_);let(j,k,m):=f
 cases d with
 |true=>exact p aa i σ j D k m|false=>exact q aa i σ j D k m
end
noncomputable abbrev TG:=V->St->Hp->(St->Hp->Prop)->Prop
noncomputable abbrev JW:=List V->St->Hp->(St->Hp->Prop)->Prop
def PG(X:Cx)(a:hB)(t:TG):Prop:=
 ∀(c:kr) (s:gC) (d:St) (H:Hp) (v:V) (u:fP) (Q:St->Hp->Prop),Inv X c d H s->RelV v u->t v d H Q->
  zx7 X (assign a X.env u) (λZ f=>∃b e,Inv X c b e f/\Q b e) X.xe s
def PQ(X:Cx)(ts:List hB)(t:JW):Prop:=
 ∀(b:kr) (s:gC) (c:St) (H:Hp) (d:List V) (e:List fP) (Q:St->Hp->Prop),Inv X b c H s->Vals d e->t d c H Q->
  zx7 X (assignInOrder ((assignEach ts X.env).map (·.2)) e) (λZ g=>∃a f,Inv X b a f g/\Q a f) X.xe s
noncomputable abbrev KW:=V->V->V->Hp->(Hp->Prop)->Prop
def PR(X:Cx)(t:KW):Prop:=
 ∀(a:kr) (s:gC) (b:St) (H:Hp) (o i v:V) (c d u:fP) (Q:Hp->Prop),Inv X a b H s->RelV o c->RelV i d->RelV v u->t o i v H Q->
  zx7 X (setItem c d u) (λZ f=>∃e,Inv X a b e f/\Q e) X.xe s
abbrev iw(i:Nat):TG:=λv a H Q=>Q (a.set i (eW v)) H
def Ja{i:Nat}(hN:X.N.Nodup)(a:X.N[i]?=eW x)(b:Loc X.env.scope x)(c:X.fn x=e6\/X.env.scope.names.lookup x=eW .local:=by first|exact .inl rfl|exact .inr rfl|assumption):PG X (.Name x pos) (iw i):=by intro e s f H v u Q I r h;exact wpAny_assign_Name (iL I hN a b r (λg d=>{_,H,d,h}) c)
abbrev Hu:JW:=λa b H Q=>a=[]/\Q b H
abbrev mx(t:TG)(u:JW):JW:=λb c H Q=>∃v r,b=v::r/\t v c H λa d=>u r a d Q
def Jb:PQ X [] Hu:=by intro b s a H c d Q I r h;let(e,h):=h;subst e;cases r;exact assignInOrder_nil ⟨a,H,I,h⟩
theorem E1{a:List hB}{t:TG}{u:JW}(f:PG X e t)(g:PQ X a u)
 (hs:(assignEach (e::a) X.env).map (·.2)=assign e X.env::(assignEach a X.env).map (·.2):=by rfl):PQ X (e::a) (mx t u):=by
 intro d s i H w y Q I r h;let(v,z,j,h):=h
 subst j;cases r with
 |cons r k=>rw [hs];refine assignInOrder_cons (bL (f d s i H _ _ _ I r h) λZ m b=>?_);let(c,o,p,q):=b;exact g d m c o _ _ Q p k q
abbrev L0(K:zz8)(n:Nat)(t:JW):TG:=λv b H Q=>∃a xs,v=.ref a/\gz K H a xs/\xs.length=n/\t xs b H Q
theorem E0{c:List hB}{k:Nat}{t:JW}{n:Nat}(i:X.calm=e6)(h:PQ X c t)
 (hn:(assignEach c X.env).length=n:=by rfl) (j:(assignEach c X.env).findIdx? (·.1)=eX:=by rfl):PG X (.Tuple c k pos) (L0 X.K n t):=by
 intro f s g H v u Q I r d;let(a,xs,m,p,hl,d):=d;subst m;cases r;let(A,rv,q,B):=I.tuple p;refine assign_Tuple_tuple (I.ok.hd i) q (by simp [hn,<-hl,rv.length]) j λw y=>?_;have z:Inv X f g H {s with heap:=w}:=I.kept (t':=s.toks) λb o e=>y b o (dV (bX e)) e;exact h f _ g H xs _ Q z (zx6 rv) d
abbrev UO(b c:TE)(t:KW):TG:=λv a H Q=>b a H λo d=>c a d λi e=>t o i v e λf=>Q a f
def N0{o i:hB}{f g:TE}{t:KW}(j:PE X o f)(k:PE X i g)(hs:PR X t)
 (m:∀v,assign (.Subscript o i pos) X.env v=(do
  let b<-holding [v] (eval o X.env);let c<-holding [v,b] (eval i X.env)
  standAt pos
  holding [v,b,c] (setItem b c v)
  release [v,b,c] []):=by intro _;rfl):PG X (.Subscript o i pos) (UO f g t):=by
 intro e s d H v u Q I r h;rw [m];refine ar (wpAny_holding (bL (j e s d H _ I h) λb p a=>?_));let(x,q,w,z,A):=a;refine ar (wpAny_holding (bL (k e p d q _ w A) λc B a=>?_));let(y,C,D,E,F):=a;refine ar (wpAny_standAt (ar (wpAny_holding (bL (hs e B d C x y v b c u _ D z E r F) λZ M a=>?_))));let(G,K,L):=a;exact wpAny_release ⟨d,G,K,L⟩
abbrev Sv(te:TE)(g:TG):TS:=λD a H=>te a H λx b=>g x a b D.nx
theorem xI{a:hB}{te:TE}{g:TG}(he:PE X e te)(f:PG X a g)(hs:swapsWithSole [a] e pos.line X.env=pure fx:=by rfl)(i:swappedStores [a] e X.env=pure eX:=by rfl)
 (j:(assignEach [a] X.env).map (·.2)=[assign a X.env]:=by rfl):PS X (.Assign [a] e pos) (Sv te g):=by
 intro c s d H D I h;refine wpAny_Assign_stores (bL (he c s d H _ I h) λv k b=>?_) hs i;let(x,m,o,p,r):=b;rw [j];exact bL (f c k d m x v _ o p r) λZ t q=>q
theorem sQ{i:Nat}{te:TE}{a:Pos}(hN:X.N.Nodup)(c:X.N[i]?=eW x)(d:Loc X.env.scope x)(he:PE X e te)(hs:swapsWith e (eW (.Name x a)) pos.line X.env=pure fx:=by rfl)(f:X.fn x=e6\/X.env.scope.names.lookup x=eW .local:=by first|exact .inl rfl|exact .inr rfl|assumption):
 PS X (.Assign [.Name x a] e pos) (Sv te (iw i)):=by
 intro g s j H D I h;refine wpAny_Assign_Name (bL (he g s j H _ I h) λv r b=>?_) hs;let(y,k,m,o,p):=b;exact iL m hN c d o (λt q=>{_,k,q,p}) f
abbrev WK(i j:Nat)(b:TA):TS:=λD a H=>b a H λc d=>∃v w,c=[v,w]/\D.nx ((a.set i (eW v)).set j (eW w)) d
theorem N4{i:Nat}{y:Str}{a b:hB}{t:TA}{g k pt:Pos}{kt k2 m}(F:X.calm=e6)(hN:X.N.Nodup)(G:X.N[i]?=eW x)(K:X.N[j]?=eW y)(L:i≠j)
 (u:X.env.scope.names.lookup x=eW .local) (z:X.env.scope.names.lookup y=eW .local) (M:PA X [a,b] t)
 (hw:swappedStores [.Tuple [.Name x g,.Name y k] kt pt] (.Tuple [a,b] k2 m) X.env=pure (eW [x,y]))
 (hs:swapsWithSole [.Tuple [.Name x g,.Name y k] kt pt] (.Tuple [a,b] k2 m) pos.line X.env=pure fx:=by rfl):
 PS X (.Assign [.Tuple [.Name x g,.Name y k] kt pt] (.Tuple [a,b] k2 m) pos) (WK i j t):=by
 intro B s C H D I h;rw [exec_Assign_arm];refine ar (wpAny_standAt ?_);rw [hs];refine ar (bc ?_);rw [if_neg ↑2];refine ar (Tuple_ (bL (M _ B s C H _ I h) λO c ⟨vs,H1,P,Q,r⟩=>?_));let(v,w,R,r):=r
 subst R;obtain⟨d,f,rfl,rv,S⟩:∃d f,O=[d,f]/\RelV v d/\RelV w f:=by
  cases Q with
  |cons p q=>
   cases q with
   |cons T U=>cases U;exact{_,_,rfl,p,T}
 refine wpAny_newObj_type ?_ (by show 2<=h9;decide);have V:Inv X B C H1 {c with heap:=c.heap.push {cls:=.type "tuple",data:=.seq [d,f].toArray}}:=P.kept (t':=c.toks) λb o e=>aT _ e;rw [hw];refine ar (bc ?_);show zx7 X (do rule "assign.swapped-stores";let items<-unpackItems (.ref (zz9 c)) 2 eX;assignInOrder [λv=>bindName X.env y v,λv=>bindName X.env x v] items.reverse;pure Flow.next) _ _ _;refine ar (wpAny_rule (ar (unpackItems_tuple (items:=#[d,f]) (I.ok.hd F) (IsTup.new c.heap _) λh' W=>?_)));have Y:=V.kept (h':=h') (t':=c.toks) λb o e=>W b o (dV (bX e)) e;show hD _ _ (assignInOrder [λv=>bindName X.env y v,λv=>bindName X.env x v] [f,d]>>=λ_=>pure Flow.next) _ _ _;refine ar (assignInOrder_cons (wpAny_bindName (iL Y hN K (.inl z) S (λs2 Z=>?_) (.inr z))));refine assignInOrder_cons (wpAny_bindName (iL Z hN G (.inl u) rv (λs3 E=>assignInOrder_nil (bc ?_)) (.inr u)));rw [List.set_comm _ _ (Ne.symm L)] at E;exact{_,H1,E,r}
structure It where
 go:Nat->Hp->Prop
 PD:Nat->Hp->V->Hp->Prop
 stop:Nat->Hp->Prop
def jq(X:Cx)(aa:kr)(H:Hp)(b:g5):Prop:=
 H b=eX/\b≠X.env.locals/\b∉X.fs/\(b∈X.ex\/X.s₀.heap.objs.size<=b)/\(∀x c,X.env.cells.lookup x=eW c->c≠b)/\∀p∈X.pn++aa,p.1≠b
def Inv.uN{f:St}{d:Hp}{s:gC}{b:g5}(I:Inv X aa f H s)(a:(zz9 s)<=b)(hn:d b=eX):jq X aa d b:=by
 refine{hn,Nat.ne_of_gt (c6 I.lt a),I.V7 a,.inr (c4 I.sz a),λx c e z=>?_,λp g z=>?_}
 .let(v,q):=I.cell x c e;exact absurd (c6 q.lt (by rw [z];exact a)) (Nat.lt_irrefl _)
 .exact absurd (c6 (bX (I.pin p g).1) (by rw [z];exact a)) (Nat.lt_irrefl _)
structure Turn(P:hF)(w:hG)(K:zz8)(tg:hB)(J:It)(fp:List g5)(it:g5)(tn:Nat->hZ->Prop):Prop where
 mem:it∈fp
 obj:∀i h,tn i h->∀b∈fp,∃o,h.get? b=eW o/\∀v,o.data≠.cell v
 keep:∀i h h',tn i h->(∀b∈fp,∀o,h.get? b=eW o->h'.get? b=eW o)->tn i h'
 item:∀(X:Cx),X.prog=P->X.w=w->X.K=K->X.calm=e6->∀(i:Nat) (aa:kr) (s:gC) (σ:St) (H:Hp) (E:kd),Inv X aa σ H s->(∀b∈fp,jq X aa H b)->tn i s.heap->J.go i H->
  hD (hI P w) X.A (pyNext (.ref it)) (λr s1=>∃u,r=eW u/\
   hD (hI P w) X.A (letOwnedTupleGo tg (.ref it) u) (λ_ s2=>∃x H',Inv X aa σ H' s2/\RelV x u/\J.PD i H x H'/\tn (i+1) s2.heap/\∀b∈fp,H' b=eX) E s1) E s
 done:∀(X:Cx),X.prog=P->X.w=w->X.K=K->X.calm=e6->∀(i:Nat) (aa:kr) (s:gC) (σ:St) (H:Hp) (E:kd),Inv X aa σ H s->(∀b∈fp,jq X aa H b)->tn i s.heap->J.stop i H->
  hD (hI P w) X.A (pyNext (.ref it)) (λr s1=>r=eX/\Inv X aa σ H s1) E s
 self:∀(A:hT) (i:Nat) (s:gC) (Q:kd) (E:kd),tn i s.heap->Q (.ref it) s->hD (hI P w) A (pyIter (.ref it)) Q E s
noncomputable abbrev TI:=St->Hp->(It->Hp->Prop)->Prop
def TX(X:Cx)(aa:kr)(d:St)(e:hB)(R:It->Hp->Prop)(f:fP)(c:gC):Prop:=
 ∃(it:g5) (fp:List g5) (tn:Nat->hZ->Prop) (J:It) (a:Hp),f=.ref it/\Inv X aa d a c/\Turn X.prog X.w X.K e J fp it tn/\tn 0 c.heap/\(∀b∈fp,jq X aa a b)/\R J a
def PI(X:Cx)(c iter:hB)(d:TI):Prop:=
 ∀(b:kr) (s:gC) (a:St) (H:Hp) (R:It->Hp->Prop),Inv X b a H s->d a H R->
  zx7 X (eval iter X.env) (λv e=>zx7 X (pyIter v) (TX X b a c R) X.xe e) X.xe s
def uQ{M:Model}{E:kd}{s:gC}{b:hB}{it:g5}{n:String}{vs:Array fP}{Q:Unit->gC->Prop}(c:s.heap.get? it=eW o)(d:o.cls=.type n)(hd:o.data=.fields vs)
 (hn:["enumerate","zip","dict_itemiterator","dict_reverseitemiterator","odict_iterator","itertools.zip_longest","itertools.pairwise"].contains n=fx) (a:Q () s):hD M A (letOwnedTupleGo b (.ref it) u) Q E s:=by
 unfold letOwnedTupleGo;cases b<;>first
  |exact bc a
  |(cases u<;>first
   |exact bc a
   | (refine ar (wpAny_load c ?_)
      rw [d,hd];show hD M A (if(["enumerate","zip","dict_itemiterator","dict_reverseitemiterator","odict_iterator","itertools.zip_longest","itertools.pairwise"].contains n&&vs[0]?==eW (rawInt _))=e6 then _ else _) Q E s;rw [if_neg (by intro h;rw [hn,Bool.false_and] at h;cases h)];exact bc a))
abbrev TU(K:zz8)(a:g5):It:=
 {λi H=>∃xs x,hW K H a xs/\xs[i]?=eW x,λi H x b=>b=H/\∀xs,hW K H a xs->xs[i]?=eW x,λi H=>∃xs,hW K H a xs/\xs.length<=i}
abbrev TV(K:zz8)(a:g5):It:=
 {λi H=>∃xs x,gz K H a xs/\xs[i]?=eW x,λi H x b=>b=H/\∀xs,gz K H a xs->xs[i]?=eW x,λi H=>∃xs,gz K H a xs/\xs.length<=i}
abbrev SU(a:Int)(n:Nat):It:={λi Z=>i<n,λi H x b=>b=H/\x=.int (a+i),λi Z=>n<=i}
def BI{P:hF}{w:hG}{K:zz8}{O:hB}(a it:g5):Turn P w K O (TU K a) [it] it (λi h=>h.IsListIter it a i) where
 mem:=by simp
 obj:=λi h st b f=>by have e:b=it:=zx6 f;subst e;let(o,e,c,d):=st;exact{o,e,λv z=>by rw [d] at z;cases z}
 keep:=λi h g st k=>st.at λo e=>k it (by simp) o e
 item:=by intro X q r hK G i L s M H E I j st t;subst q r hK;let(xs,x,m,y):=t;let(Q,rv,p,R):=I.list m;let(u,S,T):=rv.get y;let(A,B,U,C,D,F):=j it (by simp);refine wpAny_pyNext_list_item st p.isList (x:=u) (zx6 S) λg N V=>?_;have W:Inv X L M H {s with heap:=g}:=I.turned (t':=s.toks) (λb o f e=>(V.2 b f).trans e) A B C D F;let(o,e,c,d):=id N;exact{u,rfl,uQ (s:={s with heap:=g}) e c d ↑2 {x,H,W,T,{rfl,λys Y=>by rw [I.u4 Y m];exact y},N,λb f=>(j b f).1}}
 done:=by intro X q r hK G i L s M H E I j st t;subst q r hK;let(xs,m,y):=t;let(Q,rv,p,R):=I.list m;let(A,B,U,C,D,F):=j it (by simp);have hl:=rv.length;exact wpAny_pyNext_list_end (I.ok.hd G) st p.isList (by simp;lia) λg Z=>{rfl,I.turned (t':=s.toks) (λb o f e=>Z b o f e) A B C D F}
 self:=λ_ _ _ _ _ st h=>wpAny_pyIter_listiter st h
def ya{P:hF}{w:hG}{K:zz8}{Q:hB}(a it:g5):Turn P w K Q (TV K a) [it] it (λi h=>h.IsTupleIter it a i) where
 mem:=by simp
 obj:=λi h st b f=>by have e:b=it:=zx6 f;subst e;let(o,e,c,d):=st;exact{o,e,λv z=>by rw [d] at z;cases z}
 keep:=λi h g st k=>st.at λo e=>k it (by simp) o e
 item:=by intro X q r hK L i M s N H E I j st t;subst q r hK;let(xs,x,m,y):=t;let(A,rv,p,R):=I.tuple m;let(u,S,T):=rv.get y;let(B,C,U,D,F,G):=j it (by simp);refine wpAny_pyNext_tuple_item st (show s.heap.IsTuple a A.toArray from p) (x:=u) (zx6 S) λg O V=>?_;have W:Inv X M N H {s with heap:=g}:=I.turned (t':=s.toks) (λb o f e=>(V.2 b f).trans e) B C D F G;let(o,e,c,d):=id O;exact{u,rfl,uQ (s:={s with heap:=g}) e c d ↑2 {x,H,W,T,{rfl,λys Y=>by rw [I.q0 Y m];exact y},O,λb f=>(j b f).1}}
 done:=by intro X q r hK L i M s N H E I j st t;subst q r hK;let(xs,m,y):=t;let(A,rv,p,R):=I.tuple m;let(B,C,U,D,F,G):=j it (by simp);have hl:=rv.length;exact wpAny_pyNext_tuple_end (I.ok.hd L) st (show s.heap.IsTuple a A.toArray from p) (by simp;lia) λg Z=>{rfl,I.turned (t':=s.toks) (λb o f e=>Z b o f e) B C D F G}
 self:=λ_ _ _ _ _ st h=>wpAny_pyIter_tupleiter st h
def x9{P:hF}{w:hG}{K:zz8}{G:hB}(it:g5)(c:Int)(n:Nat):Turn P w K G (SU c n) [it] it (λi h=>IsRangeIter h it (c+(i:Nat)*1) ((n:Int)-(i:Nat)) 1) where
 mem:=by simp
 obj:=λi h st b a=>by have e:b=it:=zx6 a;subst e;exact{_,st,λv z=>by have L:Data.fields _=Data.cell v:=z;cases L}
 keep:=λi h d st k=>k it (by simp) _ st
 item:=by intro X g j hK m i B s C H E I f st p;subst g j hK;let(q,r,M,u,y,A):=f it (by simp);have W:=Walks.range (prog:=X.prog) (w:=X.w) (I.ok.hd m) it c 1 n;refine W.item i s _ _ p st λv d D N F O=>?_;let(t,rfl):=N;have Q:Inv X B C H {s with heap:=d,toks:=D}:=I.turned (λb o a e=>O b o (zx6 a) e) q r u y A;refine{_,rfl,uQ (s:={s with heap:=d,toks:=D}) (n:="range_iterator") F rfl rfl ↑2 {.int (c+i),H,Q,{t,?_},⟨rfl,rfl⟩,F,λb a=>(f b a).1}};rw [Int.mul_one]
 done:=by intro X g j hK m i B s C H E I f st p;subst g j hK;let(q,r,M,u,y,A):=f it (by simp);exact wpAny_pyNext_range_end (I.ok.hd m) st (by have:n<=i:=p;lia) λd R=>{rfl,I.turned (t':=s.toks) (λb o a e=>R b o a e) q r u y A}
 self:=λZ Z Z Z Z st h=>wpAny_pyIter_rangeiter st h
section
variable{tg:hB}
abbrev Ki(K:zz8)(c:TE):TI:=λd H R=>c d H λx b=>∃a,x=.ref a/\(∃xs,hW K b a xs)/\R (TU K a) b
abbrev VD(K:zz8)(c:TE):TI:=λd H R=>c d H λx b=>∃a,x=.ref a/\(∃xs,gz K b a xs)/\R (TV K a) b
def sM{l:hB}{g:TE}(hl:PE X l g):PI X tg l (Ki X.K g):=by intro i s j H R I h;refine bL (hl i s j H _ I h) λv c f=>?_;let(x,k,d,m,r):=f;let(a,e,(xs,t),q):=r;subst e;cases m;let(w,rv,p,y):=d.list t;refine wpAny_pyIter_list p.isList ?_;refine{(zz9 c),[(zz9 c)],_,_,k,rfl,d.kept (t':=c.toks) λb o e=>aT _ e,BI a _,{_,c8 _ rfl,rfl,rfl},λb u=>?_,q};have e:b=(zz9 c):=zx6 u;subst e;exact d.uN (a7 _) (d.aM.fresh (a7 _))
def N2{l:hB}{g:TE}(hl:PE X l g):PI X tg l (VD X.K g):=by intro i s j H R I h;refine bL (hl i s j H _ I h) λv c f=>?_;let(x,k,d,m,r):=f;let(a,e,(xs,t),q):=r;subst e;cases m;let(u,rv,p,y):=d.tuple t;refine wpAny_pyIter_tuple (show c.heap.IsTuple a u.toArray from p) ?_;refine{(zz9 c),[(zz9 c)],_,_,k,rfl,d.kept (t':=c.toks) λb o e=>aT _ e,ya a _,{_,c8 _ rfl,rfl,rfl},λb w=>?_,q};have e:b=(zz9 c):=zx6 w;subst e;exact d.uN (a7 _) (d.aM.fresh (a7 _))
def Fj{d:St}{s:gC}{R:It->Hp->Prop}{E:kd}{a c:Int}{t u v:Tok}{tk:Nat}(I:Inv X aa d H s)(g: -(2^62)<=a)(h:a<2^62)(i: -(2^62)<=c)(j:c<2^62)
 (q:R (SU a (c-a).toNat) H):zx7 X (pyIter (.ref (zz9 s))) (TX X aa d tg R) E {s with heap:=s.heap.push {cls:=.type "range",data:=.fields #[.int a t,.int c u,.int 1 v]},toks:=tk}:=by
 refine wpAny_pyIter_range (IsRange.new ..) (small_one g h i j) ?_;have f:Inv X aa d H {s with heap:=s.heap.push {cls:=.type "range",data:=.fields #[.int a t,.int c u,.int 1 v]},toks:=tk}:=I.kept λb o e=>aT _ e
 refine{(s.heap.push {cls:=.type "range",data:=.fields #[.int a t,.int c u,.int 1 v]}).objs.size,[(s.heap.push {cls:=.type "range",data:=.fields #[.int a t,.int c u,.int 1 v]}).objs.size],_,_,H,rfl,
  f.kept (t':=tk) λb o e=>aT _ e,x9 _ a (c-a).toNat,?_,λb k=>?_,q}
 .have m:a+((0:Nat):Int)*1=a:=by simp
  have p:(((c-a).toNat:Nat):Int)-((0:Nat):Int)=ix.Range.rangeSize a c 1:=by rw [rangeSize_one];split<;>lia
  show IsRangeIter _ _ (a+((0:Nat):Int)*1) ((((c-a).toNat:Nat):Int)-((0:Nat):Int)) 1;rw [m,p];exact c8 _ rfl
 .have e:b=(s.heap.push {cls:=.type "range",data:=.fields #[.int a t,.int c u,.int 1 v]}).objs.size:=zx6 k;subst e;exact f.uN (a7 _) (f.aM.fresh (a7 _))
abbrev Rh(a:TA):TI:=λb H R=>a b H λc d=>∃j:Int,c=[.int j]/\ -(2^62)<=j/\j<2^62/\R (SU 0 j.toNat) d
theorem Bq{a:hB}{d:TA}{p:Pos}(f:Gl X "range")(hm:X.mg "range"=eX)(g:PA X [a] d)(hs:starEach [a] X.env=[(fx,eval a X.env)]:=by rfl):PI X tg (.Call (.Name "range" p) [a] [] pos) (Rh d):=by
 intro i s k H R I h;refine Call_ (j4 I f hm boot_range (PyProof.Rows.callWith_type1 (bL (g pos i s k H _ I h) λy z b=>?_) hs rfl));let(A,B,m,o,c):=b;let(j,e,c,u,q):=c
 subst e;cases o with
 |cons r w=>cases w;let(t,rfl):=r;exact call_range_1 (Fj m (by lia) (by lia) c u (zx6 q))
abbrev WC(f:TI)(g:TG)(tb:TS):TS:=λD a H=>f a H λJ h=>∃W:Nat->Nat->St->Hp->Prop,(∃m,W 0 m a h)/\∀i m a H,W i m a H->
 (J.stop i H/\D.nx a H)\/(J.go i H/\∃N:St->Hp->Prop,(∀b c,N b c->∃e,e<m/\W (i+1) e b c)/\∀x c,J.PD i H x c->g x a c λd j=>tb {D with nx:=N,ct:=N,bk:=D.nx} d j)
abbrev sN(fp:List g5)(h:hZ):kr:=fp.filterMap λb=>(h.get? b).map λo=>(b,o)
def dR{fp:List g5}{b:g5}(a:b∈fp)(e:h.get? b=eW o):(b,o)∈sN fp h:=et.mpr {b,a,by rw [e];rfl}
def Bj{fp:List g5}{p:g5×Obj}(a:p∈sN fp h):p.1∈fp/\h.get? p.1=eW p.2:=by
 let(b,c,e):=et.mp a
 cases q:h.get? b with
 |none=>rw [q] at e;cases e
 |some o=>rw [q] at e;have d:(b,o)=p:=zzq e;subst d;exact⟨c,q⟩
theorem Inv.pinned{a:St}{s:gC}{fp:List g5}(I:Inv X aa a H s)(g:∀b∈fp,jq X aa H b)(h:∀b∈fp,∃o,s.heap.get? b=eW o/\∀v,o.data≠.cell v):Inv X (aa++sN fp s.heap) a H s:=
 I.nA λp i=>(List.mem_append.mp i).elim (λz=>I.pin p (cJ _ z)) λz=>by let(c,e):=Bj z;let(j,k,m,_):=g p.1 c;let(o,f,d):=h p.1 c;rw [e] at f;cases f;exact⟨e,j,k,m,d⟩
def Inv.lK{b:kr}{a:St}{s:gC}(I:Inv X (aa++b) a H s):Inv X aa a H s:=I.nA λp c=>I.pin p (cJ _ (d0 _ c))
def Fe{iter:hB}{body:List ig}{U:TI}{g:TG}{tb:TS}(F:PassesOwn (hI X.prog X.w) X.A X.env X.xe)(V:X.calm=e6)(hi:PI X tg iter U)(hg:PG X tg g)(c:qi X body tb)
 (hs:∀x,foldedSetIterable iter X.env x=pure x:=by intro _;rfl):PS X (.For tg iter body [] pos) (WC U g tb):=by
 intro B s Y H D I h;refine wpAny_For (bL (hi B s Y H _ I h) λv s1 h1=>bL h1 λTq s2 h2=>?_) hs;let(it,fp,tn,J,H2,e,I2,T,GD,Z,W,(m0,w0),turn):=h2;subst e;have O:∀{y:Hp},(∀b∈fp,y b=eX)->∀b∈fp,jq X B y b:=λhn b c=>{hn b c,(Z b c).2};refine codeAny_forLoop_any (λn s'=>∃i j y,Inv X B j y s'/\tn i s'.heap/\(∀b∈fp,y b=eX)/\W i n j y) ?_ m0 {0,Y,H2,I2,GD,λb c=>(Z b c).1,w0}
 rintro n s3 ⟨i,k,M,I3,G,K,w3⟩
 rcases turn i n k M w3 with⟨stop,qn⟩|⟨go,N,hN,step⟩
 .refine wpAny_passesOwn F (bL (T.done X rfl rfl rfl V i B s3 k M X.xe I3 (O K) G stop) λr s4 ⟨P,I4⟩=>?_);subst P;exact wpAny_execs_nil ⟨k,M,I4,qn⟩
 .refine wpAny_passesOwn F (bL (T.item X rfl rfl rfl V i B s3 k M X.xe I3 (O K) G go) λr s4 ⟨u,P,h4⟩=>?_);subst P;refine wpAny_passesOwn F (bL h4 λ_ s5 C=>?_);let(x,H5,I5,r5,y5,E,Q):=C;have TN:=I5.pinned (O Q) (T.obj _ _ E);refine wpAny_passesOwn F (bL (hg _ s5 k H5 x u _ TN r5 (step x H5 y5)) λ_ s6 C=>?_);let(R,H6,I6,q6):=C;refine wpAny_passesOwn F (bL (c _ s6 R H6 _ I6 q6) λf S z=>?_);have p:∀{a:St} {q:Hp},Inv X (B++sN fp s5.heap) a q S->N a q->∃m,m<n/\∃i j y,Inv X B j y S/\tn i S.heap/\(∀b∈fp,y b=eX)/\W i m j y:=λ{a q} t L=>by let(m',hm,w7):=hN a q L;refine{m',hm,i+1,a,q,t.lK,T.keep _ _ _ E λb c o e=>(t.pin (b,o) (cJ _ (cJ _ (dR c e)))).1,λb c=>?_,w7};let(o,e,d):=T.obj _ _ E b c;exact(t.pin (b,o) (cJ _ (cJ _ (dR c e)))).2.1
  cases f with
  |next=>let(a,q,t,L):=z;exact p t L|cont=>let(a,q,t,L):=z;exact p t L|brk=>let(a,q,t,z):=z;exact⟨a,q,t.lK,z⟩|ret v=>let(x7,a,q,t,r7,z):=z;exact⟨x7,a,q,t.lK,r7,z⟩
end
noncomputable abbrev R2:=V->V->Hp->VK->Prop
def gU(X:Cx)(f:fP->fP->Sem fP)(r:R2):Prop:=
 ∀(a:kr) (s:gC) (b:St) (H:Hp) (x y:V) (v u:fP) (Q:VK),Inv X a b H s->RelV x v->RelV y u->r x y H Q->
  zx7 X (f v u) (EP X a b Q) X.xe s
def S0(X:Cx)(f:fP->Sem fP)(r:V->Hp->VK->Prop):Prop:=
 ∀(a:kr) (s:gC) (b:St) (H:Hp) (x:V) (v:fP) (Q:VK),Inv X a b H s->RelV x v->r x H Q->
  zx7 X (f v) (EP X a b Q) X.xe s
def cK(X:Cx)(f:fP)(r:List V->Hp->VK->Prop):Prop:=
 ∀(a:kr) (s:gC) (b:St) (H:Hp) (xs:List V) (c:List fP) (Q:VK),Inv X a b H s->Vals xs c->r xs H Q->
  zx7 X (call f c) (EP X a b Q) X.xe s
abbrev PB(r:R2)(b tb:TE):TE:=λa H Q=>b a H λx c=>tb a c λy d=>r x y d Q
abbrev tUn(r:V->Hp->VK->Prop)(a:TE):TE:=λb H Q=>a b H λx c=>r x c Q
abbrev rI(C:Int->Int->Prop)(g:Int->Int->V):R2:=λx y H Q=>∃i j,x=.int i/\y=.int j/\C i j/\Q (g i j) H
abbrev Kv(g:Int->Int->V):R2:=λx y H Q=>∃i j,x=.int i/\y=.int j/\Q (g i j) H
def rU(g:Int->V):V->Hp->VK->Prop:=λx H Q=>∃i,x=.int i/\Q (g i) H
section
variable{a b:hB}{ta tb:TE}
def K9(k:PE X a ta)(m:PE X b tb){s:gC}{d:St}{R:V->V->Hp->Prop}(I:Inv X aa d H s)
 (h:ta d H λx H1=>tb d H1 λy e=>R x y e) {Q:kd} {f:fP->fP->Sem fP}
 (hf:∀v u j x y e,Inv X aa d e j->RelV x v->RelV y u->R x y e->zx7 X (f v u) Q X.xe j):
 zx7 X (eval a X.env) (λv g=>zx7 X (eval b X.env) (λu i=>zx7 X (f v u) Q X.xe i) X.xe g) X.xe s:=by
 refine bL (k aa s d H _ I h) λv o c=>?_;let(x,H1,p,q,r):=c;refine bL (m aa o d H1 _ p r) λu j c=>?_;let(y,e,t,z,B):=c;exact hf v u j x y e t q z B
def RV{c:Operator}{r:R2}(d:gU X (binaryOp c) r)(e:PE X a ta)(f:PE X b tb):PE X (.BinOp a c b pos) (PB r ta tb):=by intro g s i H Q I h;exact wpAny_BinOp (K9 e f I h λv u j x y k m o p q=>d g j i k x y v u Q m o p q)
def RX{c:UnaryOp}{r:V->Hp->VK->Prop}(f:S0 X (unaryOp c) r)(g:PE X a ta):PE X (.UnaryOp c a pos) (tUn r ta):=by intro d s e H Q I h;exact UnaryOp_ (bL (g d s e H _ I h) λv i ⟨x,H1,j,k,m⟩=>f d i e H1 x v Q j k m)
def Wc{f:fP->fP->Sem fP}{C:Int->Int->Prop}{g:Int->Int->Int}
 (rule:∀(i j:Int) (t u:Tok) (s:gC) (Q:kd) (E:kd),C i j->Q (.int (g i j) s.toks) {s with toks:=s.toks+1}->zx7 X (f (.int i t) (.int j u)) Q E s):
 gU X f (rI C λi j=>.int (g i j)):=by
 intro m s o H x y v u Q I c d h;let(i,j,rfl,rfl,e,q):=h;let(t,rfl):=c;let(k,rfl):=d;exact rule i j t k s _ _ e {.int (g i j),H,I.tok _,{_,rfl},q}
def RM{f:fP->fP->Sem fP}{g:Int->Int->Int}
 (rule:∀(i j:Int) (t u:Tok) (s:gC) (Q:kd) (E:kd),Q (.int (g i j) s.toks) {s with toks:=s.toks+1}->zx7 X (f (.int i t) (.int j u)) Q E s):
 gU X f (Kv λi j=>.int (g i j)):=by
 intro k s m H x y v u Q I c d h;let(i,j,rfl,rfl,q):=h;let(t,rfl):=c;let(e,rfl):=d;exact rule i j t e s _ _ {.int (g i j),H,I.tok _,{_,rfl},q}
def IQ{f:fP->fP->Sem fP}{g:Int->Int->Bool}
 (rule:∀(i j:Int) (t u:Tok) (s:gC) (Q:kd) (E:kd),Q (.bool (g i j)) s->zx7 X (f (.int i t) (.int j u)) Q E s):
 gU X f (Kv λi j=>.bl (g i j)):=by
 intro k s m H x y v u Q I c d h;let(i,j,rfl,rfl,q):=h;let(t,rfl):=c;let(e,rfl):=d;exact rule i j t e s _ _ {.bl (g i j),H,I,rfl,q}
def TJ(i j:Int):Prop:=0<j/\j<1073741824
def KO(i j:Int):Prop:=(-(2^64)<i/\i<2^64)\/(-(2^64)<j/\j<2^64)
def KO.ok{i j:Int}(h:KO i j):IntMulOk i j:=by
 rcases h with⟨c,d⟩|⟨c,d⟩
 .exact .of_left (intBits_le_64 c d)
 .exact .of_right (intBits_le_64 c d)
def Nw:gU X (binaryOp .Add) (Kv λi j=>.int (i+j)):=RM λZ Z Z Z Z Z Z q=>add_int q
def NL:gU X (binaryOp .Sub) (Kv λi j=>.int (i-j)):=RM λZ Z Z Z Z Z Z q=>sub_int q
def NI:gU X (binaryOp .Mult) (rI KO λi j=>.int (i*j)):=Wc λZ Z Z Z Z Z Z c q=>mul_int q c.ok
theorem IW:gU X (binaryOp .FloorDiv) (rI TJ λi j=>.int (i/j)):=Wc λi j Z Z Z Z Z c q=>by have d:(0:Int)<j:=c.1;have e:j<1073741824:=c.2;exact floordiv_int (by lia) (by rw [Int.fdiv_eq_ediv_of_nonneg i (by lia)];exact q) (.inl (PyProof.noPylong_small (by lia)))
theorem NH:gU X (binaryOp .Mod) (rI (λZ j=>0<j) λi j=>.int (i%j)):=Wc λi j Z Z Z Z Z c q=>by have d:(0:Int)<j:=c;exact mod_int' (by lia) (by rw [Int.fmod_eq_emod_of_nonneg i (by lia)];exact q)
def unI{f:fP->Sem fP}{g:Int->Int}
 (rule:∀(i:Int) (t:Tok) (s:gC) (Q:kd) (E:kd),Q (.int (g i) s.toks) {s with toks:=s.toks+1}->zx7 X (f (.int i t)) Q E s):
 S0 X f (rU λi=>.int (g i)):=by
 intro d s e H x v Q I c h;let(i,rfl,q):=h;let(t,rfl):=c;exact rule i t s _ _ {.int (g i),H,I.tok _,{_,rfl},q}
def OZ:S0 X (unaryOp .USub) (rU λi=>.int (-i)):=unI λZ Z Z Z Z q=>neg_int q
variable{c:hB}{tc:TE}
def CZ{d:St}{s:gC}{k f:Bool}(I:Inv X aa d H s)(q:Q (.bl k) H)(e:k=f):EP X aa d Q (.bool f) s:=by subst e;exact{.bl k,H,I,rfl,q}
def RQ:gU X (compareOp .Lt) (Kv λi j=>.bl (decide (i<j))):=IQ λZ Z Z Z Z Z Z q=>lt_int q
def RP:gU X (compareOp .LtE) (Kv λi j=>.bl (decide (i<=j))):=IQ λZ Z Z Z Z Z Z q=>le_int q
def RO:gU X (compareOp .Gt) (Kv λi j=>.bl (decide (j<i))):=IQ λZ Z Z Z Z Z Z q=>gt_int q
def RN:gU X (compareOp .GtE) (Kv λi j=>.bl (decide (j<=i))):=IQ λZ Z Z Z Z Z Z q=>ge_int q
def Bl:gU X (compareOp .In) (λx y H Q=>∃i j,x=.str i/\y=.str j/\Q (.bl (!(ix.Str.occurrences j i 0 j.length 1).isEmpty)) H):=by intro f s g H x y v u Q I d e h;let(i,j,rfl,rfl,q):=h;let(t,rfl):=d;let(k,rfl):=e;exact in_str (CZ I q rfl)
def NC:gU X (compareOp .Is) (λx y H Q=>y=.aP/\Q (.bl (decide (x=.aP))) H):=by
 intro f s g H x y v u Q I d e h;let(rfl,q):=h
 cases e;refine is_none_gen (CZ I q ?_);cases x<;>first
  |(cases d;rfl)
  |(let(t,rfl):=d;rfl)
def V8(b:hB){d:CmpOp}(h:d≠.In:=by decide)(e:d≠.NotIn:=by decide):behindInMarks d b=fx:=by
 have f:(d==CmpOp.In)=fx:=by cases d<;>first|rfl|exact absurd rfl h
 have g:(d==CmpOp.NotIn)=fx:=by cases d<;>first|rfl|exact absurd rfl e
 cases b<;>simp [behindInMarks,f,g]
def zr{d:CmpOp}{r:R2}(e:gU X (compareOp d) r)(f:PE X a ta)(g:PE X b tb)(hm:behindInMarks d b=fx):PE X (.Compare a [d] [b] pos) (PB r ta tb):=by intro i s j H Q I h;exact wpAny_Compare1 (K9 f g I h λv u k x y m o p t q=>e i k j m x y v u Q o p t q) hm
abbrev FL(t:TE):TT:=λd H Q=>t d H λx e=>∃k,x=.bl k/\Q k e
def zx{d:CmpOp}{r:R2}(i:gU X (compareOp d) r)(j:PE X a ta)(m:PE X b tb)(hm:behindInMarks d b=fx):PT X (.Compare a [d] [b] pos) (FL (PB r ta tb)):=by intro f s g H Q I h;refine wpAny_isTrue_Compare1 (bL (j f s g H _ I h) λv o ⟨x,H1,p,q,t⟩=>bL (m f o g H1 _ p t) λu w ⟨y,A,B,C,D⟩=>bL (i f w g A x y v u _ B q C D) λc L ⟨z,E,F,G,k,e,K⟩=>?_) hm;subst e;cases G;exact wpAny_truthy_bool ⟨E,F,K⟩
abbrev xZ(r f:R2)(ta tb tc:TE):TE:=λd H Q=>ta d H λx g=>tb d g λy h=>r x y h λz e=>∃k,z=.bl k/\
 (if k=e6 then tc d e λi j=>f y i j Q else Q (.bl fx) e)
def EN{i j:CmpOp}{r m:R2}(w:gU X (compareOp i) r)(A:gU X (compareOp j) m)(B:PE X a ta)(C:PE X b tb)(D:PE X c tc)
 (hm:lastMarks [i,j] [b,c]=fx:=by with_unfolding_all rfl):PE X (.Compare a [i,j] [b,c] pos) (xZ r m ta tb tc):=by
 intro f s g H Q I h;refine Compare_chain (bL (B f s g H _ I h) λv E ⟨x,H1,F,G,K⟩=>chain_link (bL (C f E g H1 _ F K) λu L ⟨y,M,N,o,O⟩=>bL (w f L g M x y v u _ N G o O) λd P ⟨z,p,q,R,k,e,t⟩=>?_)) hm
 subst e;cases R;refine wpAny_truthy_bool ?_;cases k with
 |false=>exact ite_ff {.bl fx,p,q,rfl,t}|true=>exact ite_tt (chain_last (bL (D f P g p _ q t) λS T ⟨U,V,W,Y,Z⟩=>A f T g V y U u S Q W o Y Z))
def Fg{i j:CmpOp}{r o:R2}(A:gU X (compareOp i) r)(B:gU X (compareOp j) o)(C:PE X a ta)(D:PE X b tb)(E:PE X c tc)
 (hm:lastMarks [i,j] [b,c]=fx:=by with_unfolding_all rfl):PT X (.Compare a [i,j] [b,c] pos) (FL (xZ r o ta tb tc)):=by
 intro f s g H Q I h;refine isTrue_chain (bL (C f s g H _ I h) λv F ⟨x,H1,G,K,L⟩=>test_link (bL (D f F g H1 _ G L) λu M ⟨y,N,O,p,P⟩=>bL (A f M g N x y v u _ O K p P) λd R ⟨z,q,t,S,k,e,w⟩=>?_)) hm
 subst e;cases S;refine wpAny_truthy_bool ?_;cases k with
 |false=>let(k',T,U):=w;cases T;exact ite_ff ⟨q,t,U⟩
 |true=>refine ite_tt (test_last (bL (E f R g q _ t w) λV W ⟨Y,Z,I4,r4,q4⟩=>bL (B f W g Z y Y u V _ I4 p r4 q4) λd' s5 m=>?_));let(z2,H5,I5,r5,k2,e2,q5):=m;subst e2;cases r5;exact wpAny_truthy_bool ⟨H5,I5,q5⟩
def oG:(h9:Nat)<2^63:=by rw [sizeLine_eq];decide
def xy:gU X (binaryOp .Add) (λx y H Q=>∃i j,x=.str i/\y=.str j/\i.length+j.length<=h9/\Q (.str (i++j)) H):=by intro k s m H x y v u Q I d e h;let(i,j,rfl,rfl,f,q):=h;let(t,rfl):=d;let(g,rfl):=e;exact add_str (λg o=>{.str (i++j),H,I.tok _,{_,rfl},q}) f
def vals1{x:V}(r:Vals [x] us):∃u,us=[u]/\RelV x u:=by
 cases r with
 |cons d e=>cases e;exact{_,rfl,d}
def vals2{x y:V}(r:Vals [x,y] us):∃u d,us=[u,d]/\RelV x u/\RelV y d:=by
 cases r with
 |cons e f=>
  cases f with
  |cons g h=>cases h;exact{_,_,rfl,e,g}
def Ai(e:X.calm=e6):cK X (.builtin "max") (λxs H Q=>∃i j,xs=[.int i,.int j]/\Q (.int (if j>i then j else i)) H):=by
 intro f s g H xs m Q I r h;let(i,j,rfl,q):=h;let(u,o,rfl,(t,rfl),(p,rfl)):=vals2 r;refine max_two_ints (I.ok.hd e) λw y k=>{_,H,I.kept k,?_,q};by_cases d:j>i
 .rw [if_pos d,if_pos d];exact{_,rfl}
 .rw [if_neg d,if_neg d];exact{_,rfl}
def Ak(e:X.calm=e6):cK X (.builtin "min") (λxs H Q=>∃i j,xs=[.int i,.int j]/\Q (.int (if j<i then j else i)) H):=by
 intro f s g H xs m Q I r h;let(i,j,rfl,q):=h;let(u,o,rfl,(t,rfl),(p,rfl)):=vals2 r;refine min_two_ints (I.ok.hd e) λw y k=>{_,H,I.kept k,?_,q};by_cases d:j<i
 .rw [if_pos d,if_pos d];exact{_,rfl}
 .rw [if_neg d,if_neg d];exact{_,rfl}
def rF:cK X (.type "str") (λxs H Q=>∃i,xs=[.int i]/\i.natAbs.log2<1920/\Q (.str (toString i)) H):=by intro e s f H xs g Q I r h;let(i,rfl,d,q):=h;let(u,rfl,t,rfl):=vals1 r;exact PySem.P.str_of_int d {.str _,H,I.tok _,{_,rfl},q}
end
structure wk(h:hZ)(x dx C:g5)(mA:Str->Option fP):Prop where
 obj:h.get? x=eW (PySem.W.instObj C dx)
 ns:h.Ns1 dx mA
 ne:dx≠x
def A6{dx:g5}{c:Str->Option fP}(n:h.Ns1 dx c):∃d,h.get? dx=eW d/\∀name,PySem.W.lookIn name d=eW (c name):=by
 let(o,f,k,g,hd,hk,_,hm):=n;refine{o,g,λname=>?_};have e:=hm name;unfold nsFind findBy at e;rw [<-Array.find?_toList] at e;unfold PySem.W.lookIn;rw [hd];dsimp only;split
 .rename_i y q;rw [q] at e;exact congrArg eW e
 .rename_i q;rw [q] at e;have a:f.toList.any (·.refKey)=fx:=by
   rw [List.any_eq_false];intro y i;let(z,t,b):=hk y (Array.mem_toList_iff.mp i);simp [DictEntry.refKey,b]
  have j:¬f.toList.any (·.refKey)=e6:=by rw [a];exact zzf
  rw [if_neg j];exact congrArg eW e
theorem wk.look{x dx C:g5}{b:Str->Option fP}(I:wk h x dx C b):∃a,PySem.W.InstAt h x (PySem.W.instObj C dx) C (eW a)/\∀name,PySem.W.lookIn name a=eW (b name):=
 let⟨a,c,hl⟩:=A6 I.ns
 {a,⟨I.obj,rfl,rfl,c⟩,hl}
section
variable{w:hG}{E:kd}{s:gC}{K:zz8}{x dx C f:g5}{mA:Str->Option fP}{name:Str}{v:fP}
def get_map{expr:Bool}{Q:kd}(X:K.In s.heap)(I:wk s.heap x dx C mA)(a:PySem.W.plainGet K C name=e6)(b:PySem.W.hasDictIn K C=e6)
 (c:PySem.W.findIn K (.ref C) name=eW eX) (d:mA name=eW v) (e:PySem.W.handedIn v=e6) (h:Q v {s with toks:=s.toks+1}):
 hD (hI prog w) A (getAttr (.ref x) name expr) Q E s:=by
 let(g,J,hl):=I.look;exact PySem.W.get_value X J (PySem.W.plainGet_of a).1 (PySem.W.findObj_own b c rfl (by rw [hl,d])) e h
def Dp{b:Sem Bool}{Q:fP×List fP->gC->Prop}(X:K.In s.heap)(I:wk s.heap x dx C mA)(a:PySem.W.plainGet K C name=e6)
 (hf:PySem.W.findIn K (.ref C) name=eW (eW (.ref f))) (c:PySem.W.isFn K (.ref f)=e6) (d:mA name=eX) (h:Q (.ref f,[.ref x]) s):
 hD (hI prog w) A (getMethod (.ref x) name b) Q E s:=by
 let(e,J,hl):=I.look;exact PySem.W.method_fn X J (PySem.W.plainGet_of a).1 (PySem.W.plainGet_of a).2 hf (zzy.mp c) (by show(PySem.W.lookIn name e).map (·.isSome)=eW fx;rw [hl,d];rfl) h
def Js{ns:List Str}{Q:Unit->gC->Prop}(X:K.In s.heap)(I:wk s.heap x dx C mA)
 (hs:PySem.W.findIn K (.ref C) "__setattr__"=eW (eW (.builtin "object.__setattr__"))) (k:PySem.W.plainOver K C=e6) (m:PySem.W.takerIn K C name=eW eX) (o:PySem.W.hasDictIn K C=e6)
 (hw:PySem.Within mA ns) (hsz:ns.length<=h9)
 (h:∀h',wk h' x dx C (λy=>if y=name then eW v else mA y)->hZ.SameBut dx s.heap h'->Q () {s with heap:=h',toks:=s.toks+2}):
 hD (hI prog w) A (setAttr (.ref x) name v) Q E s:=by
 let(z,J,hl):=I.look;refine PySem.W.set_plain X J hs (PySem.W.osa_open (s:={s with toks:=s.toks+1}) (r:=eX) X J k m λb=>?_);let(cd,p,c):=PySem.W.any_some o;have q:s.heap.get? x=eW {.ref C,eW dx,.plain,#[]}:=I.obj;refine ar (bc (ar (ar (wpAny_loadPart q (ar (PySem.W.Looks.here (s:={s with toks:=s.toks+1}) (PySem.W.looks_clsIn X p) ?_))))));rw [c];refine bc (a:=eW dx) (ar (bc (ar ?_)));refine wpAny_nsSet1 (s:={s with toks:=s.toks+1}) I.ns λh' i j=>?_;let(B,t,u,d,e,g):=i.count (PySem.Within.cons name v hw);refine ar (wpAny_lookBehind d (by rw [e];exact pastItsLine_dict (c4 g (by rw [bV];lia))) ?_);exact bc (h _ {(j.2 _ (Ne.symm I.ne)).trans I.obj,i,I.ne} j)
def El{R:Result->gC->Prop}{vs:List fP}{a:List (Str×fP)}(X:K.In s.heap)(hm:PySem.W.makesIn K C=e6)
 (b:PySem.W.findIn K (.ref C) (zu 11)=eW (eW (.ref f))) (c:PySem.W.typeIn K (.ref f)=eW (.type "function"))
 (h:codeAny (hI prog w) (A.under (.builtin "type.__call__" {.ref C::vs,a})) (.call (.ref f) {.ref ((zz9 s)+1)::vs,a}) (PySem.W.InitBack ((zz9 s)+1) R)
  {s with heap:=(s.heap.push PySem.W.emptyDict).push (PySem.W.instObj C (zz9 s))}):
 codeAny (hI prog w) A (.call (.ref C) ⟨vs,a⟩) R s:=by
 let(e,g,d,t,os):=s;exact PySem.W.make_core (PySem.W.makes_of X hm) (PySem.W.looks_findIn X b) (λself=>PySem.W.bind_fn X self c) (.inl rfl) h
end
abbrev gQ(f:Str)(v:V):List (Str×V)->List (Str×V)
 |[]=>[(f,v)]|(g,x)::r=>if g=f then(g,v)::r else(g,x)::gQ f v r
theorem mC(f g:Str)(v:V):∀fs:List (Str×V),(gQ f v fs).lookup g=if g=f then eW v else fs.lookup g
 |[]=>by
  show List.lookup g [(f,v)]=_;by_cases h:g=f
  .have a:(g==f)=e6:=zzy.mpr h;simp! [List.lookup,a,if_pos h]
  .have a:(g==f)=fx:=beq_eq_false_iff_ne.mpr h;simp! [List.lookup,a,if_neg h]
 | (k,x)::r=>by
  have b:=mC f g v r;rw [show gQ f v ((k,x)::r)=(if k=f then(k,v)::r else(k,x)::gQ f v r) from rfl];by_cases hk:k=f
  .rw [if_pos hk];by_cases h:g=k
   .have a:(g==k)=e6:=zzy.mpr h;simp! [List.lookup,a,if_pos (h.trans hk)]
   .have a:(g==k)=fx:=beq_eq_false_iff_ne.mpr h;simp! [List.lookup,a,if_neg (λe:g=f=>h (e.trans hk.symm))]
  .rw [if_neg hk];by_cases h:g=k
   .have a:(g==k)=e6:=zzy.mpr h;simp! [List.lookup,a,if_neg (λe:g=f=>hk (h.symm.trans e))]
   .have a:(g==k)=fx:=beq_eq_false_iff_ne.mpr h;simp! [List.lookup,a];exact b
theorem l6(f:Str)(v:V):∀fs:List (Str×V),f∈(gQ f v fs).map (·.1)/\∀g,g∈fs.map (·.1)->g∈(gQ f v fs).map (·.1)
 |[]=>{by simp [gQ],λg h=>by simp at h}
 | (k,x)::r=>by
  let(a,b):=l6 f v r;rw [show gQ f v ((k,x)::r)=(if k=f then(k,v)::r else(k,x)::gQ f v r) from rfl];by_cases hk:k=f
  .rw [if_pos hk];subst hk;exact{by simp,λg h=>zx6 h}
  .rw [if_neg hk];refine{?_,λg h=>?_}
   .rw [a8];exact bI _ a
   .rw [a8] at h⊢;rcases d8.mp h with e|e
    .exact d8.mpr (.inl e)
    .exact bI _ (b g e)
theorem mz(f:Str)(v:V):∀fs:List (Str×V),(gQ f v fs).length<=fs.length+1
 |[]=>by simp [gQ]|(k,x)::r=>by
  have a:=mz f v r;rw [show gQ f v ((k,x)::r)=(if k=f then(k,v)::r else(k,x)::gQ f v r) from rfl];by_cases hk:k=f
  .rw [if_pos hk,bV,bV];lia
  .rw [if_neg hk,bV,bV];lia
def g7.some_of{o:Option fP}(r:g7 (eW v) o):∃u,o=eW u/\RelV v u:=by
 cases o with
 |none=>exact(show False from r).elim|some u=>exact⟨u,rfl,r⟩
def g7.none_of{o:Option fP}(r:g7 eX o):o=eX:=by
 cases o with
 |none=>rfl|some u=>exact(show False from r).elim
def AQ(r:RelV v u):PySem.W.handedIn u=e6:=by
 cases v with
 |aP=>cases(show u=fP.none from r);rfl
 |bl b=>cases(show u=fP.bool b from r);rfl
 |int i=>let(t,e):=(show∃t,u=fP.int i t from r);cases e;rfl
 |str x=>let(t,e):=(show∃t,u=fP.str x t from r);cases e;rfl
 |S7 b=>let(t,e):=(show∃t,u=fP.bytes b t from r);cases e;rfl
 |Td b=>let(t,e):=(show∃t,u=fP.float b t from r);cases e;rfl
 |ref a=>cases(show u=fP.ref a from r);rfl
 |ty n=>cases(show u=fP.type n from r);rfl
section
variable{P:hF}{w:hG}{C dx:g5}{fs:List (Str×V)}
def r9(aM:ft P w H h)(e:H a=eW (.ins C dx fs)):∃b,wk h a dx C b/\(∀f,g7 (fs.lookup f) (b f))/\PySem.Within b (fs.map (·.1))/\fs.length<=1000/\H dx=eW (.own a):=by let(d,z,ne,ob,b,n,r,q):=(show bT P w H h a (.ins C dx fs) from aM a _ e);exact{b,⟨ob,n,ne⟩,r,q,z,d}
end
structure vX(K:zz8)(C:g5):Prop where
 pg:PySem.W.plainGet K C Str.empty=e6
 hd:PySem.W.hasDictIn K C=e6
 po:PySem.W.plainOver K C=e6
 sa:PySem.W.findIn K (.ref C) "__setattr__"=eW (eW (.builtin "object.__setattr__"))
def vX.get{K:zz8}{C:g5}(c:vX K C)(f:Str):PySem.W.plainGet K C f=e6:=c.pg
def cN(K:zz8)(C:g5)(f:Str):Prop:=PySem.W.findIn K (.ref C) f=eW eX
def cN.SE{K:zz8}{C:g5}(n:cN K C f):PySem.W.takerIn K C f=eW eX:=by unfold PySem.W.takerIn;rw [show PySem.W.findIn K (.ref C) f=eW eX from n];rfl
structure Meth(K:zz8)(C:g5)(m:Str)(f:g5):Prop where
 at_:PySem.W.findIn K (.ref C) m=eW (eW (.ref f))
 fn:PySem.W.isFn K (.ref f)=e6
 kp:PySem.W.keepIn K (.ref f)=e6
section
variable{s:gC}{C dx:g5}{fs:List (Str×V)}{E:kd}
def wX{b:Bool}{Q:kd}(I:zv1 s)(e:H a=eW (.ins C dx fs))(c:vX X.K C)(n:cN X.K C f)(l:fs.lookup f=eW v)
 (h:∀u s',Inv X aa σ H s'->RelV v u->Q u s'):hD (hI X.prog X.w) A (getAttr (.ref a) f b) Q E s:=by
 let(g,O,r,_,_,_):=r9 I.aM e;let(u,i,d):=g7.some_of (v:=v) (o:=g f) (by rw [<-l];exact r f);exact get_map I.j2 O (c.get f) c.hd n i (AQ d) (h u _ (I.tok _) d)
def wY{g:g5}{b:Sem Bool}{Q:fP×List fP->gC->Prop}(I:zv1 s)(e:H a=eW (.ins C dx fs))(c:vX X.K C)(k:Meth X.K C m g)(l:fs.lookup m=eX)
 (h:Q (.ref g,[.ref a]) s):hD (hI X.prog X.w) A (getMethod (.ref a) m b) Q E s:=by
 let(d,O,r,_,_,_):=r9 I.aM e;have i:d m=eX:=g7.none_of (by rw [<-l];exact r m);exact Dp I.j2 O (c.get m) k.at_ k.fn i h
def xP{y:V}{Q:Unit->gC->Prop}(I:zv1 s)(e:H a=eW (.ins C dx fs))(c:vX X.K C)(n:cN X.K C f)(hl:fs.length<1000)(m:RelV y u)
 (h:∀s',Inv X aa σ (upd H a (.ins C dx (gQ f y fs))) s'->Q () s'):hD (hI X.prog X.w) A (setAttr (.ref a) f u) Q E s:=by
 let(i,O,r,j,_,k):=r9 I.aM e;have p:(fs.map (·.1)).length<=sizeLine:=by rw [zzl,sizeLine_eq];lia
 refine Js I.j2 O c.sa c.po n.SE c.hd j p λt d B=>h _ ?_;have hd:∃o,t.get? dx=eW o:=let⟨o,_,_,D,_⟩:=d.ns;⟨o,D⟩;refine I.write (x:=a) (e:=dx) (by rw [e];exact True.intro) (.inr k) (λb q F z=>(B.2 b F).trans z) hd ?_;refine{by rw [ai O.ne];exact k,?_,O.ne,d.obj,_,d.ns,λg=>?_,λg G=>?_}
 .have:=mz f y fs;lia
 .show g7 ((gQ f y fs).lookup g) (if g=f then eW u else i g);rw [mC];by_cases q:g=f
  .rw [if_pos q,if_pos q];exact m
  .rw [if_neg q,if_neg q];exact r g
 .by_cases q:g=f
  .rw [q];exact(l6 f y fs).1
  .refine(l6 f y fs).2 g (j g λz=>G ?_);show(if g=f then eW u else i g)=eX;rw [if_neg q];exact z
def Inv.made(I:zv1 s):Inv X aa σ (upd (upd H (zz9 s) (.own ((zz9 s)+1))) ((zz9 s)+1) (.ins C (zz9 s) []))
 {s with heap:=(s.heap.push PySem.W.emptyDict).push (PySem.W.instObj C (zz9 s))}:=by
 have c:(s.heap.push PySem.W.emptyDict).get? (zz9 s)=eW PySem.W.emptyDict:=c8 s.heap rfl
 have d:((s.heap.push PySem.W.emptyDict).push (PySem.W.instObj C (zz9 s))).get? ((zz9 s)+1)=eW (PySem.W.instObj C (zz9 s)):=by
  have:=c8 (s.heap.push PySem.W.emptyDict) (o:=PySem.W.instObj C (zz9 s)) rfl
  rwa [hZ.size_push] at this
 have e3:(s.heap.push PySem.W.emptyDict).Ns (zz9 s) (λZ=>eX):={PySem.W.emptyDict,#[],_,c,rfl,(λe g=>absurd g (by simp)),λZ=>rfl};have h:=I.laid (a:=(zz9 s)) (o:=.own ((zz9 s)+1)) (h':=s.heap.push PySem.W.emptyDict) (t':=s.toks) (λb u q=>aT _ q) (a7 _) {_,c};refine h.laid (a:=(zz9 s)+1) (o:=.ins C (zz9 s) []) (t':=s.toks) (λb u q=>aT _ q) (Nat.le_of_eq (hZ.size_push _ _)) ?_;have ne:(zz9 s)≠(zz9 s)+1:=dV (Nat.lt_succ_self _);refine{by rw [ai ne,aq],Nat.zero_le _,ne,d,λZ=>eX,(hZ.Ns1.of_empty e3).at λo q=>aT _ q,λZ=>True.intro,λy i=>absurd rfl i}
def GQ{w:hG}{env:Env}{s:gC}{Q:kd}(c:attributeBase e f env (eval e env)=eval e env)
 (h:hD (hI prog w) A (eval e env) (λo b=>hD (hI prog w) A (getAttr o f e6) Q E b) E s):hD (hI prog w) A (eval (.Attribute e f pos) env) Q E s:=
 Attribute_any_ h (by rw [arm_eval_Attribute,c])
end
abbrev WB(K:zz8)(c:TE)(f:Str):TE:=λd H Q=>c d H λx b=>∃a C dx fs v,x=.ref a/\b a=eW (.ins C dx fs)/\vX K C/\cN K C f/\fs.lookup f=eW v/\Q v b
abbrev Ws(K:zz8)(d e:TE)(f:Str):TS:=λD b H=>e b H λy g=>d b g λx c=>∃a C dx fs,x=.ref a/\c a=eW (.ins C dx fs)/\vX K C/\cN K C f/\fs.length<1000/\
 D.nx b (upd c a (.ins C dx (gQ f y fs)))
section
variable{o value:hB}{pos':Pos}{ta tv:TE}
def NT(he:PE X e ta)(d:attributeBase e f X.env (eval e X.env)=eval e X.env):PE X (.Attribute e f pos) (WB X.K ta f):=by intro g s i H Q I h;refine GQ d (bL (he g s i H _ I h) λu w b=>?_);let(x,j,k,m,a,C,dx,fs,v,ex,p,c,n,l,q):=b;subst ex;obtain rfl:u=fP.ref a:=m;exact wX k p c n l λy z r t=>⟨v,j,r,t,q⟩
def N3(i:PE X o ta)(j:PE X value tv)(hs:swapsWith value (eW (.Attribute o f pos')) pos.line X.env=pure fx):PS X (.Assign [.Attribute o f pos'] value pos) (Ws X.K ta tv f):=by intro g s b H D I h;refine plainObj_wpAny_Assign_Attribute (bL (j g s b H _ I h) λu k ⟨y,H1,m,p,q⟩=>bL (i g k b H1 _ m q) λr E d=>?_) hs;let(x,F,t,w,a,C,dx,fs,ex,z,c,n,l,A):=d;subst ex;obtain rfl:r=fP.ref a:=w;exact xP t z c n l p λG B=>{b,_,B,A}
end
structure dt(k:Nat)(A:hT):Prop where
 hd:3<=k->A.handled=eX
 dp:A.depth+3*k+5<recursionLimit
 un:A.units+16*k+200<cLine
theorem dt.mono{k:Nat}(r:dt k A)(h:j<=k):dt j A:={λz=>r.hd (by lia),by have:=r.dp;lia,by have:=r.un;lia}
theorem dt.deeper{k:Nat}(r:dt (k+1) A)(env:Env):dt k (A.deeper env):=
 {λz=>r.hd (by lia),by have:=r.dp;show A.depth+1+3*k+5<_;lia,by have:=r.un;show A.units+3+16*k+200<_;lia}
def xn{C:g5}{a:List (Str×fP)}:(A.under (.builtin "type.__call__" {.ref C::us,a})).depth=A.depth+1:=by
 first|rfl|simp [hT.under,Code.weight,Code.isCreation,Code.isGuard,Code.isCaller,Code.frames,Code.isFrame,guardIds]
def xo{C:g5}{a:List (Str×fP)}:(A.under (.builtin "type.__call__" {.ref C::us,a})).units=A.units+1:=by
 first|rfl|simp [hT.under,Code.cUnits,Code.frames,Code.isFrame]
theorem dt.make{k:Nat}(r:dt (k+1) A)(C:g5)(us:List fP)(a:List (Str×fP)):dt k (A.under (.builtin "type.__call__" {.ref C::us,a})):=
 {λz=>r.hd (by lia),by have:=r.dp;rw [xn];lia,by have:=r.un;rw [xo];lia}
def dt.depth{k:Nat}(r:dt k A):A.depth<recursionLimit:=by have:=r.dp;lia
def dt.units{k:Nat}(r:dt k A):A.units+64<cLine:=by have:=r.un;lia
abbrev WH:TA:=λZ H Q=>Q [] H
abbrev Sw(b:TE)(c:TA):TA:=λa H Q=>b a H λx d=>c a d λxs e=>Q (x::xs) e
section
variable{es:List hB}{te:TE}{t:TA}
def dA:PA X [] WH:=λZ Z Z Z H Q I h=>Calls.spliced_nil {[],H,I,.nil,h}
theorem bQ(d:PE X e te)(f:PA X es t)(hs:starEach (e::es) X.env=(fx,eval e X.env)::starEach es X.env:=by rfl):PA X (e::es) (Sw te t):=by intro pos b s c H Q I h;rw [hs];show hD _ _ (spliced ((fx,eval e X.env)::backTo pos (starEach es X.env))) _ _ s;refine Calls.spliced_cons (bL (d b s c H _ I h) λu g a=>?_);let(x,i,j,k,m):=a;exact bL (f pos b g c i _ j m) λw y ⟨xs,o,p,q,r⟩=>{x::xs,o,p,.cons k q,r}
abbrev WN(t:TA):TE:=λb H Q=>t b H λxs a=>xs.length<=h9/\∀p,a p=eX->Q (.ref p) (upd a p (.tup xs))
abbrev WE(t:TA):TE:=λb H Q=>t b H λxs a=>xs.length<=h9/\∀p,a p=eX->Q (.ref p) (upd a p (.lst xs))
def EZ{x1}(h:PA X es t):PE X (.Tuple es x1 pos) (WN t):=by intro d s f H Q I g;refine wpAny_Tuple_spliced (bL (h pos d s f H _ I g) λi a ⟨xs,H1,c,r,z,q⟩=>{by rw [<-r.length];exact z,?_});have j:H1 (zz9 a)=eX:=c.aM.fresh (a7 _);refine{.ref (zz9 a),upd H1 (zz9 a) (.tup xs),c.laid (t':=a.toks) (λb u e=>aT _ e) (a7 _) ?_,rfl,q _ j};exact{z,i,r,{_,c8 _ rfl,rfl,_,rfl}}
def EU(h:PA X es t):PE X (.List es pos) (WE t):=by intro d s f H Q I g;refine wpAny_List_spliced (bL (h pos d s f H _ I g) λi a ⟨xs,H1,c,r,z,q⟩=>{by rw [<-r.length];exact z,?_});have j:H1 (zz9 a)=eX:=c.aM.fresh (a7 _);refine{.ref (zz9 a),upd H1 (zz9 a) (.lst xs),c.laid (t':=a.toks) (λb u e=>aT _ e) (a7 _) ?_,rfl,q _ j};exact{z,i,0,r,c8 _ rfl}
end
noncomputable abbrev Sp:=List V->Hp->VK->XK->Prop
noncomputable abbrev zX:=List Env->Hp->gC->XK->fP->gC->Prop
structure jm(P:hF)(w:hG)(K:zz8)(mg:Str->Option fP)(base:hZ)(A:hT)(outer:List Env)(s:gC)(H:Hp):Prop where
 frames:A.frames=eW outer
 mod:Mod K mg base
 bs:∀b o,base.get? b=eW o->s.heap.get? b=eW o/\H b=eX
 wF:base.objs.size<=(zz9 s)
 hJ:s.heap.FunFrames base outer
 wW:∀b∈fv outer,H b=eX
 aM:ft P w H s.heap
 bare:AllBare s.gens
def CE(outer:List Env)(P:hF)(w:hG)(H:Hp)(s:gC)(Q:VK)(u:fP)(s':gC):Prop:=
 ∃v a,s'.os=s.os/\AllBare s'.gens/\Un (fv outer) [] H a s.heap s'.heap/\ft P w a s'.heap/\RelV v u/\Q v a
def CR(CX:zX)(outer:List Env)(P:hF)(w:hG)(H:Hp)(s:gC)(Q:VK)(E:XK)(r:Result)(s':gC):Prop:=
 match r with
 |.ok (.ret u)=>CE outer P w H s Q u s'|.ok _=>False|.error e=>CX outer H s E e s'
structure fu(P:hF)(w:hG)(K:zz8)(mg:Str->Option fP)(base:hZ)(CX:zX)(k:Nat)(f:g5)(fd:FuncData)(ps:List Str)(sp:Sp):Prop where
 len:∀vs H Q E,sp vs H Q E->vs.length=ps.length
 run:∀(A:hT) (outer:List Env) (s:gC) (H:Hp) (args:Args) (us:List fP) (vs:List V) (Q:VK) (E:XK),dt k A->jm P w K mg base A outer s H->BindsTo s fd args (ps.zip us)->Vals vs us->sp vs H Q E->
  codeAny (hI P w) A (.call (.ref f) args) (CR CX outer P w H s Q E) s
def fu.mono{P:hF}{w:hG}{K:zz8}{CX:zX}{k:Nat}{f:g5}{fd:FuncData}{ps:List Str}{sp:Sp}(F:fu P w K mg base CX j f fd ps sp)(h:j<=k):
 fu P w K mg base CX k f fd ps sp:={F.len,λA outer s H args a b Q E c=>F.run A outer s H args a b Q E (c.mono h)}
def fu.imp{P:hF}{w:hG}{K:zz8}{CX:zX}{k:Nat}{f:g5}{fd:FuncData}{ps:List Str}{sp a:Sp}(F:fu P w K mg base CX k f fd ps sp)
 (h:∀vs H Q E,a vs H Q E->sp vs H Q E):fu P w K mg base CX k f fd ps a:=
 {λvs H Q E q=>F.len vs H Q E (h _ _ _ _ q),λA outer s H args b vs Q E c d e g hs=>F.run A outer s H args b vs Q E c d e g (h _ _ _ _ hs)}
def jm.make{P:hF}{w:hG}{K:zz8}{s:gC}(e:jm P w K mg base A outer s H)(C:g5)(us:List fP)(a:List (Str×fP)):
 jm P w K mg base (A.under (.builtin "type.__call__" {.ref C::us,a})) outer s H:={by first|exact e.frames|(simpa [hT.under,Code.envs,Code.isFrame,pushEnvs] using e.frames),e.mod,e.bs,e.wF,e.hJ,e.wW,e.aM,e.bare}
section
variable{s s':gC}
def Inv.uJ(I:zv1 s):jm X.prog X.w X.K X.mg X.base X.A X.stack s H:=
 {I.ok.frames,I.ok.mod,I.bs,c4 I.ok.wF I.sz,I.stack,I.nE,I.aM,I.bare}
def Inv.after(I:zv1 s)(h:CE X.stack X.prog X.w H s Q u s'):EP X aa σ Q u s':=by let(v,c,os,bare,un,aM,r,q):=h;let(e,g,d,t,a):=s';obtain rfl:a=s.os:=os;exact{v,c,I.call (h':=e) (g':=g) (d':=d) (t':=t) (ch:=[]) un aM bare (λb z=>absurd z (by simp)),r,q}
end
def Binds(K:zz8)(fd:FuncData)(ps:List Str)(b:List fP):Prop:=
 ∀(s:gC) (a:List fP),K.In s.heap->(a++b).length=ps.length->BindsTo s fd {a,[]} (ps.zip (a++b))
def Binds.all{K:zz8}{fd:FuncData}{ps:List Str}(h:∀us:List fP,us.length=ps.length->bindArgs fd {us,[]}=pure (ps.zip us)):Binds K fd ps []:=λs us Z hl=>by rw [eA] at hl⊢;exact .of_eq (h us hl)
def Passes(CX:zX)(X:Cx)(E:XK):Prop:=∀(b:kr) (c:St) (H:Hp) (s:gC) (e:fP) (a:gC),Inv X b c H s->CX X.stack H s E e a->X.xe e a
section
variable{CX:zX}{k:Nat}{f C:g5}{fd:FuncData}{ps:List Str}{sp:Sp}{dvs:List V}{ds:List fP}{E:XK}
structure Mk(K:zz8)(C f:g5):Prop where
 makes:PySem.W.makesIn K C=e6
 init:PySem.W.findIn K (.ref C) (zu 11)=eW (eW (.ref f))
 fn:PySem.W.isFn K (.ref f)=e6
 kp:PySem.W.keepIn K (.ref C)=e6
def Fo{c:St}{s:gC}(M:Mk X.K C f)(F:fu X.prog X.w X.K X.mg X.base CX k f fd ps sp)(i:dt (k+1) X.A)(j:Binds X.K fd ps ds)(hd:Vals dvs ds)
 (m:Passes CX X E) (I:Inv X aa c H s) (r:Vals vs us)
 (h:∀x dx,H x=eX->H dx=eX->dx≠x->sp (.ref x::(vs++dvs)) (upd (upd H dx (.own x)) x (.ins C dx [])) (λv o=>v=.aP/\Q (.ref x) o) E):
 zx7 X (call (.ref C) us) (EP X aa c Q) X.xe s:=by
 have d:=h ((zz9 s)+1) (zz9 s) (I.aM.fresh (Nat.le_succ _)) (I.aM.fresh (a7 _)) (dV (Nat.lt_succ_self _));have b:=Inv.made (C:=C) I;have g:Vals (V.ref ((zz9 s)+1)::(vs++dvs)) (fP.ref ((zz9 s)+1)::(us++ds)):=.cons rfl (r.append hd);have hl:(fP.ref ((zz9 s)+1)::us++ds).length=ps.length:=by have e:=g.length;rw [F.len _ _ _ _ d] at e;exact e.symm
 refine wpAny_call (El (f:=f) I.j2 M.makes M.init (zzy.mp M.fn) (codeAny_mono (F.run _ X.stack _ _ {fP.ref ((zz9 s)+1)::us,[]} (fP.ref ((zz9 s)+1)::(us++ds)) _ _ E (i.make C us [])
  (b.uJ.make C us []) (j _ (fP.ref ((zz9 s)+1)::us) b.j2 hl) g d) λr p a=>?_))
 cases r with
 |error e=>exact m aa c _ _ e p b a|ok fl=>
  cases fl with
  |ret u=>let(v,q,t,rv,y,z):=b.after a;subst y;exact{rv,{V.ref ((zz9 s)+1),q,t,rfl,z}}|next=>exact d6 a|brk=>exact d6 a|cont=>exact d6 a
end
structure iO(N P:List Str)(sc:hX):Prop where
 kind:sc.kind=.function
 co:sc.isCoroutine=fx
 gen:sc.isGenerator=fx
 nd:N.Nodup
 pre:N.take P.length=P
 par:∀x∈P,sc.names.lookup x=eW .local\/sc.names.lookup x=eW .cell
 Nm:∀y∈sc.names,y.2≠.free
theorem qx{a:Str->Option NameKind}:∀{binds:List (Str×fP)} {m:Str->Option fP},(∀v,(x,v)∉binds)->bindL a binds m x=m x
 |[],_,_=>rfl|(n,v)::r,m,h=>by
  unfold bindL;rw [qx λw b=>h w (bI _ b)];split
  .have:x≠n:=by rintro rfl;exact h v b4
   simp [this]
  .rfl
theorem qu{a:Str->Option NameKind}:∀{binds:List (Str×fP)} {m:Str->Option fP},(∀v,(x,v)∉binds)->bindC a binds m x=m x
 |[],_,_=>rfl|(n,v)::r,m,h=>by
  unfold bindC;rw [qu λw b=>h w (bI _ b)];split
  .rfl
  .have:x≠n:=by rintro rfl;exact h v b4
   simp [this]
theorem qw{a:Str->Option NameKind}{v:fP}:∀{P:List Str} {vs:List fP} {i:Nat} {m:Str->Option fP},P.Nodup->P[i]?=eW x->vs[i]?=eW v->a x=eW .local->
 bindL a (P.zip vs) m x=eW v
 |[],_,_,_,_,h,_,_=>by simp at h|_::_,[],_,_,_,_,h,_=>by simp at h|p::P,w::vs,0,m,nd,b,c,hk=>by simp at b c;subst b;subst c;show bindL a ((p,w)::P.zip vs) m p=_;unfold bindL;rw [qx λv d=>(List.nodup_cons.mp nd).1 (List.of_mem_zip d).1,if_pos hk];simp|p::P,w::vs,i+1,m,nd,b,c,hk=>by show bindL a ((p,w)::P.zip vs) m x=_;unfold bindL;exact qw (i:=i) (List.nodup_cons.mp nd).2 (zx6 b) (zx6 c) hk
theorem qr{a:Str->Option NameKind}{v:fP}:∀{P:List Str} {vs:List fP} {i:Nat} {m:Str->Option fP},P.Nodup->P[i]?=eW x->vs[i]?=eW v->a x≠eW .local->
 bindC a (P.zip vs) m x=eW v
 |[],_,_,_,_,h,_,_=>by simp at h|_::_,[],_,_,_,_,h,_=>by simp at h|p::P,w::vs,0,m,nd,b,c,hk=>by simp at b c;subst b;subst c;show bindC a ((p,w)::P.zip vs) m p=_;unfold bindC;rw [qu λv d=>(List.nodup_cons.mp nd).1 (List.of_mem_zip d).1,if_neg hk];simp|p::P,w::vs,i+1,m,nd,b,c,hk=>by show bindC a ((p,w)::P.zip vs) m x=_;unfold bindC;exact qr (i:=i) (List.nodup_cons.mp nd).2 (zx6 b) (zx6 c) hk
abbrev start(N:List Str)(vs:List V):St:=vs.map eW++jZ (N.length-vs.length) eX
noncomputable def dG(CX:zX)(P:hF)(w:hG)(K:zz8)(mg:Str->Option fP)(base:hZ)(N:List Str)(qual:Str)(a:hX)(f:g5)(cd:fP)(A:hT)(outer:List Env)(s:gC)(H:Hp)(E:XK):Cx where
 prog:=P
 w:=w
 K:=K
 mg:=mg
 base:=base
 A:=A.deeper (envOfC qual a (zz9 s) f cd)
 N:=N
 s₀:=s
 H₀:=H
 env:=envOfC qual a (zz9 s) f cd
 outer:=outer
 stack:=envOfC qual a (zz9 s) f cd::outer
 ex:=[]
 calm:=A.handled.isNone
 fn:=λZ=>e6
 pn:=[]
 xe:=λe c=>hD (hI P w) (A.deeper (envOfC qual a (zz9 s) f cd)) (leaving (envOfC qual a (zz9 s) f cd) e) (λZ b=>CX outer H s E e b) (λd b=>CX outer H s E d b) c
def uv{sc:hX}{n:Nat}(h:sc.names.lookup x=eW .cell):∃c,(i1 n sc.names []).lookup x=eW c:=by have q:=PySem.W.cellsFrom_some sc.names n [] (.inl h);exact ef.mp q
def AZ{CX:zX}{P:hF}{w:hG}{K:zz8}{ps:List Str}{d:hX}{f:g5}{cd:fP}{s s1:gC}{E:XK}
 (S:iO N ps d) (j:jm P w K mg base A outer s H) (hl:vs.length=ps.length) (r:Vals vs us)
 (x:InCallC s (zz9 s) (bindL (envOfC qual d (zz9 s) f cd).kindOf (ps.zip us) λZ=>eX) (i1 ((zz9 s)+1) d.names []) (bindC (envOfC qual d (zz9 s) f cd).kindOf (ps.zip us) λZ=>eX) s1):
 Inv (dG CX P w K mg base N qual d f cd A outer s H E) [] (start N vs) H s1:=by
 have G:ps.length<=N.length:=by have:=congrArg List.length S.pre;rw [List.length_take] at this;lia
 let(t,L,rfl,hk):=x.done;have C:∀b:g5,b∉(dG CX P w K mg base N qual d f cd A outer s H E).ex:=λb z=>absurd (show b∈([]:List g5) from z) (by simp)
 refine{{j.mod,S.kind,rfl,rfl,a7 _,λy z c t g=>?_,λy m=>?_,λy c Z h=>?_,λz=>Option.isNone_iff_eq_none.mp z,hT.frames_deeper j.frames,.inr ⟨rfl,rfl⟩,λb z=>absurd z (C b),j.bs,j.wF,λb Z Z=>C b,λb z=>absurd z (C b),j.hJ,j.wW},
  rfl,j.bare,Un.kept hk,{_,x.toInCall.ns,λi y v t g M=>?_},λy c h=>{_,x.cell y c h},j.aM.fresh (a7 _),λy c h=>?_,λp o=>absurd (show p∈([]:kr) from o) (by simp),j.aM.kept hk,?_}
 .exact name_of_addr x.apart (PySem.mem_of_lookup t) (PySem.mem_of_lookup g)
 .have m:d.names.lookup y=eW .cell\/d.names.lookup y=eW .free:=m
  rcases m with m|m
  .exact uv m
  .exact absurd rfl (S.Nm _ (PySem.mem_of_lookup m))
 .exact Nat.le_of_lt (x.above y c (PySem.mem_of_lookup h))
 .have B:i<vs.length:=by
   unfold start at g;by_cases B:i<vs.length
   .exact B
   .rw [ei (zx6 B)] at g;rw [List.getElem?_replicate] at g;split at g<;>cases g
  have I:vs[i]?=eW v:=by
   unfold start at g;rw [eg (zx6 B),cz] at g;cases e:vs[i]? with
   |none=>rw [e] at g;cases g
   |some a=>rw [e] at g;cases g;rfl
  let(u,D,rv):=r.get I;have o:ps[i]?=eW y:=by rw [<-S.pre,List.getElem?_take_of_lt (by lia)];exact t
  have F:ps.Nodup:=by rw [<-S.pre];exact S.nd.sublist (List.take_sublist _ _)
  refine{u,rv,?_};rcases S.par y (a6 o) with k|k
  .exact .inl {k,qw F o D k}
  .let(c,e):=uv (n:=(zz9 s)+1) k;refine .inr {.inl k,c,e,?_};have q:=x.cell y c e;rw [qr F o D (by show d.names.lookup y≠_;rw [k];decide)] at q;exact q
 .exact j.aM.fresh (Nat.le_of_lt (x.above y c (PySem.mem_of_lookup h)))
 .unfold start;show _=N.length;rw [bW,zzl,List.length_replicate];lia
def C8{CX:zX}{P:hF}{w:hG}{K:zz8}{k:Nat}{f:g5}{name:Str}{c:Arguments}{body:List ig}{a:hX}{B kV i C h ct oc:fP}{D O:Option g5}
 {R:Array (Option fP)} {ps:List Str} {sp:Sp} (T:K.lookup f=eW {oc,O,.func (PySem.W.fnOf name qual c body a B kV i C D h ct),R}) (U:PySem.W.codeIn K h qual=e6) (S:iO N ps a)
 (len:∀vs H Q E,sp vs H Q E->vs.length=ps.length)
 (X:∀(A:hT) (outer:List Env) (s:gC) (H:Hp) (vs:List V) (Q:VK) (E:XK),dt k (A.deeper (envOfC qual a (zz9 s) f h))->sp vs H Q E->
  ∃t,qi (dG CX P w K mg base N qual a f h A outer s H E) body t/\t {nx:=λ_ g=>Q .aP g,rt:=Q} (start N vs) H):
 fu P w K mg base CX (k+1) f (PySem.W.fnOf name qual c body a B kV i C D h ct) ps sp:=by
 refine{len,λA outer s H args Y vs Q E F j Z r G=>?_};have hl:=len _ _ _ _ G;have L:K.In s.heap:=j.mod.Ii.keeps λb o e=>(j.bs b o e).1;have m:s.heap.NoLimit:=j.mod.nolimit.keeps λb o e=>(j.bs b o e).1
 have Ra:∀y∈ps.zip Y,a.names.lookup y.1=eW .local\/(a.names.lookup y.1=eW .cell/\((i1 ((zz9 s)+1) a.names []).lookup y.1).isSome=e6):=λp hy=>by
  let(n,v):=p
  rcases S.par n (List.of_mem_zip hy).1 with q|q
  .exact .inl q
  .exact .inr {q,PySem.W.cellsFrom_some _ _ _ (.inl q)}
 refine codeAny_call_function F.depth (L _ _ T) rfl S.co S.gen rfl (PySem.W.codeRec_of L U) (Z _ _ _ _ ?_);refine wpAny_newFunctionEnv_cells S.kind Ra λenv he M x=>?_;subst he;refine{m.keeps x.toInCall.keep,codeAny_func ?_};let(t,ht,hq):=X A outer s H vs Q E (F.deeper _) G;have I:Inv (dG CX P w K mg base N qual a f h A outer s H E) [] (start N vs) H M:=AZ S j hl r x;refine wpAny_mono (ht [] M (start N vs) H _ I hq) (λfl z hs=>?_) λe z hs=>hs
 have fin:∀{d:St} {g:Hp} {v:V} {u:fP},Inv (dG CX P w K mg base N qual a f h A outer s H E) [] d g z->RelV v u->Q v g->CE outer P w H s Q u z:=
  λ{d g v u} J rv q=>⟨v,g,J.os,J.bare,J.base,J.aM,rv,q⟩
 cases fl with
 |ret u=>let(v,d,g,J,rv,q):=hs;exact fin J rv q|next=>let(d,g,J,q):=hs;exact fin (v:=V.aP) (u:=fP.none) J rfl q|brk=>let(_,_,_,q):=hs;exact d6 q|cont=>let(_,_,_,q):=hs;exact d6 q
section
variable{p:Pos}{es:List hB}{t:TA}{id T:String}{r:List V->Hp->VK->Prop}
abbrev Tz(r:List V->Hp->VK->Prop)(t:TA):TE:=λa H Q=>t a H λb c=>r b c Q
def eF(c:cK X (.builtin id) r)(d:Gl X x)(hm:X.mg x=eX)(f:bootBuiltins x=eW (.builtin id))(g:PA X (e::es) t)(hn:x≠(zu 40):=by decide)(i:(x==(zu 23:Str))=fx:=by decide)
 (he:starEach (e::es) X.env=(fx,eval e X.env)::starEach es X.env:=by rfl) (hpl:(backTo pos (starEach es X.env)).any (·.1)=fx:=by rfl):PE X (.Call (.Name x p) (e::es) [] pos) (Tz r t):=by
 intro a s b H Q I h;refine wpAny_Call_Name_kw (j4 I d hm f ?_ hn i);exact PyProof.Rows.callWith_builtin1 (bL (g pos a s b H _ I h) λj k ⟨m,H1,o,q,u⟩=>c a k b H1 m j Q o q u) he hpl
def i5(c:cK X (.type T) r)(d:Gl X x)(hm:X.mg x=eX)(f:bootBuiltins x=eW (.type T))(g:PA X (e::es) t)(hn:x≠(zu 40):=by decide)(i:(x==(zu 23:Str))=fx:=by decide)
 (he:starEach (e::es) X.env=(fx,eval e X.env)::starEach es X.env:=by rfl) (hpl:(backTo pos (starEach es X.env)).any (·.1)=fx:=by rfl):PE X (.Call (.Name x p) (e::es) [] pos) (Tz r t):=by
 intro a s b H Q I h;refine wpAny_Call_Name_kw (j4 I d hm f ?_ hn i);exact PyProof.Rows.callWith_type1 (bL (g pos a s b H _ I h) λj k ⟨m,H1,o,q,u⟩=>c a k b H1 m j Q o q u) he hpl
end
end L2
variable{H G H1 H0:L2.Hp}{v:L2.V}{X:L2.Cx}{Q:L2.VK}{σ:L2.St}{vs:List L2.V}
namespace HT
open PyProof.Rows
abbrev lexLt:List Int->List Int->Bool
 |[],[]=>fx|[],_::_=>e6|_::_,[]=>fx|x::xs,y::ys=>if x=y then lexLt xs ys else decide (x<y)
theorem xk(x y:Int)(xs ys:List Int):lexLt (x::xs) (y::ys)=if x=y then lexLt xs ys else decide (x<y):=rfl
theorem pW:lexLt [] []=fx:=rfl
section
variable{w:hG}{E:kd}{s:gC}
def G6{t b:g5}{vs ws:List fP}{Q:kd}(q:IsTup s.heap t vs.toArray)(r:IsTup s.heap b ws.toArray)(i:vs≠[])
 (u:ws=[]->Q (.ref t) s) (y:ws≠[]->Q (.ref (zz9 s)) {s with heap:=s.heap.push {cls:=.type "tuple",data:=.seq (vs++ws).toArray}})
 (hsz:vs.length+ws.length<=h9):hD (hI prog w) A (binaryOp .Add (.ref t) (.ref b)) Q E s:=by
 let((cls,j,data,k),f,m,n,hd):=id q;let((o,a,h,c),g,pT,p,d):=id r;simp only at m hd pT d;subst m hd pT d;have e:vs.toArray++ws.toArray=(vs++ws).toArray:=by simp
 by_cases hw:ws=[]
 .exact concat_meets {_,f,rfl} {_,g,rfl} noFill_tuple_add seq_tuple_add PySem.F.slot_tuple_add PySem.F.entry_tuple_add (PySem.F.args_tuple_add_2 _ _)
   (tuple_addW1 t b vs.toArray ws.toArray n p j a k c (zx6 i) (by simp [hw])) {f,g,u hw}
 .refine concat_meets {_,f,rfl} {_,g,rfl} noFill_tuple_add seq_tuple_add PySem.F.slot_tuple_add PySem.F.entry_tuple_add (PySem.F.args_tuple_add_2 _ _)
   (tuple_addW2 t b vs.toArray ws.toArray n p j a k c (zx6 i) (zx6 hw) (by rw [a5,a5];exact hsz)) {f,g,?_}
  rw [e];exact y hw
abbrev cL(n d:Nat):Option Int->Nat
 |none=>d|some v=>if v<0 then(v+(n:Int)).toNat else min v.toNat n
theorem vG(n d:Nat):cL n d eX=d:=rfl
def zG(n d k:Nat):cL n d (eW (k:Int))=min k n:=by show(if(k:Int)<0 then((k:Int)+(n:Int)).toNat else min (k:Int).toNat n)=min k n;rw [if_neg (by lia),ey]
def Ot(n d:Nat)(hd:d<=n)(o:Option Int):cL n d o<=n:=by
 cases o with
 |none=>exact hd|some v=>
  show(if v<0 then(v+(n:Int)).toNat else min v.toNat n)<=n;by_cases a:v<0
  .rw [if_pos a];lia
  .rw [if_neg a];exact Nat.min_le_right _ _
def yz(v:Int)(n d:Nat):(if v<0 then max (v+(n:Int)) 0 else min v (n:Int))=((cL n d (eW v):Nat):Int):=by
 show(if v<0 then max (v+(n:Int)) 0 else min v (n:Int))=(((if v<0 then(v+(n:Int)).toNat else min v.toNat n):Nat):Int);by_cases a:v<0
 .simp! [if_pos a];lia
 .simp! [if_neg a];lia
def wt(a b:Option Int)(n:Nat):ix.Slice.sliceAdjust a b 1 (n:Int)=(((cL n 0 a:Nat):Int),((cL n n b:Nat):Int)):=by
 have c:¬((1:Int)<0):=by lia
 unfold ix.Slice.sliceAdjust;simp! [c,if_false];refine Prod.ext ?_ ?_
 .cases a with
  |none=>rfl|some v=>exact yz v n 0
 .cases b with
  |none=>rfl|some v=>exact yz v n n
def xE(i j:Nat):ix.Slice.slicePlaces (i:Int) (j:Int) 1=j-i:=by
 unfold ix.Slice.slicePlaces;have a:(1:Int)>0:=by lia
 simp! [a,if_true,Int.ediv_one];split<;>lia
def kf{v:fP}{o:Option Int}{Q:Option Int->gC->Prop}(p:IsPart v o)(h:Q o s):hD (hI prog w) A (ix.Slice.slicePartIndex v) Q E s:=by
 cases p with
 |none=>exact slicePart_none h|int i t=>exact slicePart_int h
def gy{g:g5}{e f:fP}{a b:Option Int}{n:Nat}{Q:Int×Int×Nat->gC->Prop}(hs:s.heap.IsSliceOf g e f .none)(i:IsPart e a)(pu:IsPart f b)
 (h:Q (((cL n 0 a:Nat):Int),1,cL n n b-cL n 0 a) s):hD (hI prog w) A (ix.Slice.sliceApplied (.ref g) (pure (n:Int))) Q E s:=by
 let(os,c,j,d):=id hs
 unfold ix.Slice.sliceApplied ix.Slice.sliceFields;refine ar (ar (wpAny_field c d (x:=e) rfl (ar (wpAny_field c d (x:=f) rfl (ar (wpAny_field c d (x:=.none) rfl (bc ?_)))))));refine ar (slicePart_none ?_);show hD _ _ (if((1:Int)==0)=e6 then _ else _) _ _ s;rw [if_neg ↑2];refine ar (kf i (ar (kf pu (ar (bc ?_)))));show hD _ _ (match ix.Slice.sliceAdjust a b 1 (n:Int) with|(a,b)=>pure (a,(1:Int),ix.Slice.slicePlaces a b 1)) _ _ s;rw [wt a b n];show hD _ _ (pure (((cL n 0 a:Nat):Int),(1:Int),ix.Slice.slicePlaces ((cL n 0 a:Nat):Int) ((cL n n b:Nat):Int) 1)) _ _ s;rw [xE];exact bc h
def E3(xs:Array fP)(i k:Nat):((List.range k).filterMap λ(m:Nat)=>xs[((i:Int)+(m:Int)*1).toNat]?).toArray=((xs.toList.drop i).take k).toArray:=by
 have e:(λ(m:Nat)=>xs[((i:Int)+(m:Int)*1).toNat]?)=λm=>xs[i+m]?:=by
  funext m
  have:((i:Int)+(m:Int)*1).toNat=i+m:=by lia
  rw [this]
 rw [e];have:=pick_run xs i k;rw [List.filterMap_map] at this;have a:((λx=>xs[x]?)∘λx=>i+x)=λm=>xs[i+m]?:=rfl;rw [a] at this;rw [this]
def kR{t e:g5}{g i:fP}{a b:Option Int}{Q:kd}(c:IsTup s.heap t items)(hs:s.heap.IsSliceOf e g i .none)(j:IsPart g a)(pu:IsPart i b)
 (hw:¬(cL items.size 0 a=0/\cL items.size items.size b=items.size))
 (h:Q (.ref (zz9 s)) {s with heap:=s.heap.push {cls:=.type "tuple",data:=.seq ((items.toList.drop (cL items.size 0 a)).take (cL items.size items.size b-cL items.size 0 a)).toArray}})
 (hsz:items.size<=h9):hD (hI prog w) A (getItem (.ref t) (.ref e)) Q E s:=by
 have d:sizeOk (.seq ((items.toList.drop (cL items.size 0 a)).take (cL items.size items.size b-cL items.size 0 a)).toArray):=by show((items.toList.drop (cL items.size 0 a)).take (cL items.size items.size b-cL items.size 0 a)).toArray.size<=h9;rw [a5,List.length_take,List.length_drop,d1];omega
 have u:cL items.size items.size b<=items.size:=Ot _ _ (a7 _) b;let(os,f,k,o):=id hs;have p:s.TypeIs (.ref e) "slice":=⟨os,f,k⟩;unfold getItem
 try with_reducible refine wpAny_holding ?_
 first|refine ar (bc ?_)|skip
 refine ar (wpAny_sequenceKey c.typeIs ↑2 ?_);refine ar (wpAny_callSpecial?_slot (name:=Str.ofString "__getitem__") c.typeIs PyProof.Rows.slot_tuple_getitem
  (wpAny_call_entry PyProof.Rows.slot_tuple_getitem c.typeIs entry_tuple_getitem ?_ (args_tuple_getitem _ _)))
 show hD _ _ (ix.Tuple.tupleItemsOf (.ref t)>>=_) _ _ s;refine ar (tupleItemsOf_ c ?_);refine ar (wpAny_typeOf p ?_);rw [if_pos ↑2];refine ar (gy hs j pu ?_);have r:¬((((cL items.size 0 a:Nat):Int)==0&&(1:Int)==1&&(cL items.size items.size b-cL items.size 0 a)==items.size)=e6):=by intro q;rw [zza,zza] at q;have y:((cL items.size 0 a:Nat):Int)=0:=eq_of_beq q.1.1;have z:cL items.size items.size b-cL items.size 0 a=items.size:=eq_of_beq q.2;exact hw {by omega,by omega}
 show hD _ _ (if(((cL items.size 0 a:Nat):Int)==0&&(1:Int)==1&&(cL items.size items.size b-cL items.size 0 a)==items.size)=e6 then _ else _) _ _ s;rw [if_neg r,E3]
 first
  |exact ar (m:=ix.Tuple.tupleExact _) (wpAny_newObj_type (bc ⟨_,rfl,bc h⟩) d)
  |exact ar (m:=ix.Tuple.tupleExact _) (wpAny_newObj_type (ar (bc (bc ⟨_,rfl,bc h⟩))) d)
  |exact ar (ar (m:=ix.Tuple.tupleExact _) (wpAny_newObj_type (bc (bc ⟨_,rfl,bc h⟩)) d))
  |exact ar (ar (m:=ix.Tuple.tupleExact _) (wpAny_newObj_type (bc ⟨_,rfl,bc h⟩) d))
end
end HT
namespace L2
open PySem.Spec PyProof.Rows
noncomputable abbrev TO:=St->Hp->(Option Int->Hp->Prop)->Prop
def PO(X:Cx)(e:Option hB)(t:TO):Prop:=
 ∀(b:kr) (s:gC) (a:St) (H:Hp) (Q:Option Int->Hp->Prop),Inv X b a H s->t a H Q->
  zx7 X (evalPart e X.env) (λu d=>∃o c,Inv X b a c d/\IsPart u o/\Q o c) X.xe s
abbrev JH:TO:=λZ H Q=>Q eX H
abbrev SD(t:TE):TO:=λa H Q=>t a H λx b=>∃i,x=.int i/\Q (eW i) b
section
variable{te:TE}{lo hi:Option hB}{tl th:TO}{p2:Pos}
def Jg:PO X eX JH:=by intro a s b H Q I h;rw [evalPart_none];exact bc {eX,H,I,.none,h}
def Jh(h:PE X e te):PO X (eW e) (SD te):=by intro b s c H Q I d;rw [evalPart_some];refine bL (h b s c H _ I d) λu m a=>?_;let(x,f,g,j,k):=a;let(i,rfl,q):=k;let(t,rfl):=j;exact{eW i,f,g,.int i t,q}
def B7(X:Cx)(r:V->Option Int->Option Int->Hp->VK->Prop):Prop:=
 ∀(a:kr) (s:gC) (b:St) (H:Hp) (x:V) (v c d:fP) (lo hi:Option Int) (f:g5) (Q:VK),Inv X a b H s->RelV x v->s.heap.IsSliceOf f c d .none->IsPart c lo->IsPart d hi->r x lo hi H Q->
  ∃T g,typeLookup (.type T) "__getitem__"=pure (eW (.builtin g))/\s.TypeIs v T/\zx7 X (getItem v (.ref f)) (EP X a b Q) X.xe s
abbrev tSl(r:V->Option Int->Option Int->Hp->VK->Prop)(te:TE)(tl th:TO):TE:=λa H Q=>te a H λx b=>tl a b λl c=>th a c λu d=>r x l u d Q
def EX{r:V->Option Int->Option Int->Hp->VK->Prop}(k:B7 X r)(he:PE X e te)(hl:PO X lo tl)(m:PO X hi th):PE X (.Subscript e (.Slice lo hi eX p2) pos) (tSl r te tl th):=by
 intro d s f H Q I h;refine Subscript_ (bL (he d s f H _ I h) λv o c=>?_);let(x,p,t,y,z):=c;refine wpAny_Slice (bL (hl d o f p _ t z) λg B ⟨l,C,D,E,F⟩=>bL (m d B f C _ D F) λi a c=>?_);let(u,j,G,pu,K):=c
 rw [evalPart_none];refine bc ?_;have L:Inv X d f j {a with heap:=a.heap.push {cls:=.type "slice",data:=.fields #[g,i,.none]}}:=G.kept (t':=a.toks) λb ob q=>aT _ q
 let(T,P,M,N,O):=k d {a with heap:=a.heap.push {cls:=.type "slice",data:=.fields #[g,i,.none]}} f j x v g i l u (zz9 a) Q L y (hZ.IsSliceOf.new ..) E pu K
 show zx7 X (subscriptTail e (.Slice lo hi eX p2) v (.ref (zz9 a))) (EP X d f Q) X.xe {a with heap:=a.heap.push {cls:=.type "slice",data:=.fields #[g,i,.none]}};exact tail_any (ops:=[.ref (zz9 a),v]) N M O (by with_unfolding_all rfl)
abbrev uC(xs:List V)(lo hi:Option Int):List V:=(xs.drop (HT.cL xs.length 0 lo)).take (HT.cL xs.length xs.length hi-HT.cL xs.length 0 lo)
def mn(xs:List V)(lo hi:Option Int):(uC xs lo hi).length<=xs.length:=by unfold uC;rw [List.length_take,List.length_drop];lia
def Wq(K:zz8):V->Option Int->Option Int->Hp->VK->Prop:=λx lo hi H Q=>∃a xs,x=.ref a/\gz K H a xs/\
 ¬(HT.cL xs.length 0 lo=0/\HT.cL xs.length xs.length hi=xs.length)/\∀p,H p=eX->Q (.ref p) (upd H p (.tup (uC xs lo hi)))
def OC:B7 X (Wq X.K):=by
 intro p s t H x v u w lo hi y Q I g hs i pu h;let(a,xs,rfl,j,k,q):=h;cases g;let(m,r,d,f):=I.tuple j;have c:m.toArray.size=xs.length:=by rw [a5];exact r.length.symm
 refine{"tuple",_,PyProof.Rows.slot_tuple_getitem.lookup,d.typeIs,?_};refine HT.kR d hs i pu (by rw [c];exact k) ?_ (by rw [c];exact f);rw [c];refine{.ref (zz9 s),_,I.laid (t':=s.toks) (o:=.tup (uC xs lo hi)) (λb ob q=>aT _ q) (a7 _) ?_,rfl,q _ (I.aM.fresh (a7 _))};exact{c4 (mn xs lo hi) f,_,(r.drop (HT.cL xs.length 0 lo)).take (HT.cL xs.length xs.length hi-HT.cL xs.length 0 lo),IsTup.new _ _}
abbrev Sb(K:zz8):R2:=λx y H Q=>∃a b xs c,x=.ref a/\y=.ref b/\gz K H a xs/\gz K H b c/\xs≠[]/\xs.length+c.length<=h9/\
 (c=[]->Q (.ref a) H)/\(c≠[]->∀p,H p=eX->Q (.ref p) (upd H p (.tup (xs++c))))
def Vals.nv{xs:List V}(r:Vals xs us):us=[]↔xs=[]:=by
 cases r with
 |nil=>simp|cons _ _=>simp
def IV:gU X (binaryOp .Add) (Sb X.K):=by intro B s C H x y v u Q I g i h;let(a,b,xs,j,rfl,rfl,k,m,p,f,r,t):=h;cases g;cases i;let(D,d,A,_):=I.tuple k;let(E,c,p2,_):=I.tuple m;refine HT.G6 A p2 (λz=>p (d.nv.mp z)) (λz=>{.ref a,H,I,rfl,r (c.nv.mp z)}) (λz=>?_) (by rw [<-d.length,<-c.length];exact f);refine{.ref (zz9 s),_,I.laid (t':=s.toks) (o:=.tup (xs++j)) (λb ob q=>aT _ q) (a7 _) ?_,rfl,t (λw=>z (c.nv.mpr w)) _ (I.aM.fresh (a7 _))};exact{by rw [bW];exact f,_,d.append c,IsTup.new _ _}
end
abbrev Pq(n:Nat)(i:Int):Option Nat:=if 0<=i then(if i<n then eW i.toNat else eX) else if -(n:Int)<=i then eW (i+n).toNat else eX
abbrev wy{a:Type}(xs:List a)(i:Int):Option a:=(Pq xs.length i).bind λj=>xs[j]?
def Ig{n:Nat}{i:Int}(h:Pq n i=eW j):seqIndex? i n=eW j/\j<n/\ -(n:Int)<=i/\i<n:=by
 unfold Pq at h;by_cases h0:0<=i
 .rw [if_pos h0] at h;by_cases a:i<n
  .rw [if_pos a] at h;have e:i.toNat=j:=zzq h;exact{by rw [seqIndex_of h0 a,e],by lia,by lia,a}
  .rw [if_neg a] at h;cases h
 .rw [if_neg h0] at h;by_cases a: -(n:Int)<=i
  .rw [if_pos a] at h;have e:(i+n).toNat=j:=zzq h;exact{by rw [seqIndex_neg (by lia) a,e],by lia,a,by lia}
  .rw [if_neg a] at h;cases h
def rB{a:Type}{xs:List a}{i:Int}{v:a}(h:wy xs i=eW v):∃j,seqIndex? i xs.length=eW j/\xs[j]?=eW v/\j<xs.length/\ -(xs.length:Int)<=i/\i<xs.length:=by
 unfold wy at h;cases e:Pq xs.length i with
 |none=>rw [e] at h;cases h
 |some j=>rw [e] at h;let(b,c,d,f):=Ig e;exact⟨j,b,h,c,d,f⟩
def rj(b:hB):Prop:=∀o i,subscripted b fx o i=operate [o,i] (getItem o i)
def O4(X:Cx)(r:R2):Prop:=
 ∀(a slice:hB) (b:kr) (s:gC) (c:St) (H:Hp) (x y:V) (v u:fP) (Q:VK),Inv X b c H s->RelV x v->RelV y u->r x y H Q->
  subscripted slice fx v u=operate [v,u] (getItem v u)->zx7 X (subscriptTail a slice v u) (EP X b c Q) X.xe s
def PM(X:Cx)(id:String)(r:V->List V->Hp->VK->Prop):Prop:=
 ∀(a:kr) (s:gC) (b:St) (H:Hp) (x:V) (xs:List V) (v:fP) (c:List fP) (Q:VK),Inv X a b H s->RelV x v->Vals xs c->r x xs H Q->
  zx7 X (call (.builtin id) (v::c)) (EP X a b Q) X.xe s
section
variable{a b:hB}{ta tb:TE}
def RU{r:R2}(c:O4 X r)(d:PE X a ta)(e:PE X b tb)(hs:rj b):PE X (.Subscript a b pos) (PB r ta tb):=by intro f s g H Q I h;exact Subscript_ (K9 d e I h λv u i x y j k m o q=>c a b f i g j x y v u Q k m o q (hs _ _))
abbrev Wj(K:zz8):R2:=λx y H Q=>∃p xs i v,x=.ref p/\y=.int i/\hW K H p xs/\wy xs i=eW v/\Q v H
abbrev Wl(K:zz8):R2:=λx y H Q=>∃p xs i v,x=.ref p/\y=.int i/\gz K H p xs/\wy xs i=eW v/\Q v H
abbrev Wk:R2:=λx y H Q=>∃z i c,x=.str z/\y=.int i/\z.length<=h9/\wy z.cps.toList i=eW c/\Q (.str {#[c]}) H
def Ih:O4 X (Wj X.K):=by
 intro d slice g s k H x y v u Q I o A h hs;let(p,xs,i,z,rfl,rfl,B,C,q):=h;cases o;let(t,rfl):=A;let(D,r,e,N):=I.list B;let(j,c,E,O,F,G):=rB C;let(w,m,L):=r.get E;have hl:=r.length;have P:=oG;have fin:EP X g k Q w s:=⟨z,H,I,L,q⟩;by_cases h0:0<=i
 .have f:i.toNat=j:=by
   rw [seqIndex_of h0 G] at c;exact zzq c
  exact item_listR e.isList h0 (by lia) (by rw [f];simpa using m) fin hs
 .have f:(i+(D.toArray.size:Int)).toNat=j:=by
   rw [seqIndex_neg (by lia) F] at c;rw [a5,<-hl];exact zzq c
  exact subscriptTail_builtinR (x:=w) e.isList.typeIs slot_list_getitem.lookup
   (wpAny_getItem_list_neg (Q:=λr M=>r=w/\EP X g k Q r M) e.isList (by lia) (by rw [a5]<;>lia) (by lia) (by rw [f];simpa using m) ⟨rfl,fin⟩) hs
def M0:O4 X (Wl X.K):=by
 intro c slice d s e H x y v u Q I g k h hs;let(p,xs,i,z,rfl,rfl,m,o,q):=h;cases g;let(t,rfl):=k;let(F,r,f,G):=I.tuple m;let(j,A,B,L,M,N):=rB o;let(w,C,D):=r.get B;have hl:=r.length;have O:=oG;have fin:EP X d e Q w s:=⟨z,H,I,D,q⟩
 exact subscriptTail_builtinR (x:=w) f.typeIs slot_tuple_getitem.lookup
  (getItem_tuple (j:=j) (Q:=λr E=>r=w/\EP X d e Q r E) f (by lia) (by lia) (by rw [a5,<-hl];exact A) (zx6 C) ⟨rfl,fin⟩) hs
def MZ:O4 X Wk:=by
 intro d slice A s B H x y v u Q I f g h hs;let(z,i,c,rfl,rfl,C,k,q):=h;let(t,rfl):=f;let(D,rfl):=g;let(j,e,m,E,o,p):=rB k;have hl:z.cps.toList.length=z.length:=by simp [Str.length]
 rw [hl] at e o p;have F:=oG;exact tail_any (typeIs_str s z t) slot_str_getitem.lookup (getItem_str (c:=c) (by have r:decide (i< -(2^63:Int))=fx:=zz0 (by lia);have w:decide (i>=2^63)=fx:=zz0 (by lia);rw [r,w,Bool.or_false]) (by rw [e];simpa using m) {.str {#[c]},H,I.tok _,{_,rfl},q}) hs
def tj(c d:Option Int)(n:Nat):(sliceBounds c d eX n).1=((HT.cL n 0 c:Nat):Int)/\(sliceBounds c d eX n).2.1=((HT.cL n n d:Nat):Int)/\(sliceBounds c d eX n).2.2=1:=by
 refine{?_,?_,rfl}
 .cases c with
  |none=>simp [sliceBounds,HT.cL]|some i=>
   simp! [sliceBounds,HT.cL,Option.getD_none,show(1:Int)>0 by decide,if_true];by_cases h:i<0
   .simp! [h,if_true]<;>lia
   .simp! [h,if_false]<;>lia
 .cases d with
  |none=>simp [sliceBounds,HT.cL]|some i=>
   simp! [sliceBounds,HT.cL,Option.getD_none,show(1:Int)>0 by decide,if_true];by_cases h:i<0
   .simp! [h,if_true]<;>lia
   .simp! [h,if_false]<;>lia
def p6(c:List fP)(d e:Option Int):slicePick c.toArray d e eX=((c.drop (HT.cL c.length 0 d)).take (HT.cL c.length c.length e-HT.cL c.length 0 d)).toArray:=by let(f,g,h):=tj d e c.toArray.size;unfold slicePick;rw [f,g,h];simp! [sliceRange_one,pick_run,a5]<;>rfl
def Wn(K:zz8):V->Option Int->Option Int->Hp->VK->Prop:=λx c d H Q=>∃a xs,x=.ref a/\hW K H a xs/\∀p,H p=eX->Q (.ref p) (upd H p (.lst (uC xs c d)))
def Jt:B7 X (Wn X.K):=by intro m s p H x v t u d e w Q I g hs i pu h;let(a,xs,rfl,j,q):=h;cases g;let(y,r,f,k):=I.list j;have c:=r.length;refine{"list",_,slot_list_getitem.lookup,f.isList.typeIs,?_};refine wpAny_getItem_list_slice f.isList hs i pu .none (by simp) ?_ (by rw [a5]<;>lia);rw [p6,<-c];refine{.ref (zz9 s),_,I.laid (t':=s.toks) (o:=.lst (uC xs d e)) (λb ob q=>aT _ q) (a7 _) ?_,rfl,q _ (I.aM.fresh (a7 _))};exact{c4 (mn xs d e) k,_,0,(r.drop (HT.cL xs.length 0 d)).take (HT.cL xs.length xs.length e-HT.cL xs.length 0 d),c8 _ rfl}
def kD:cK X (.builtin "len") (λxs H Q=>∃p ys,xs=[.ref p]/\(hW X.K H p ys\/gz X.K H p ys)/\Q (.int ys.length) H):=by
 intro k s m H xs o Q I r h;let(p,ys,rfl,d,q):=h;let(u,rfl,g):=vals1 r;cases g;have t:=oG
 rcases d with d|d
 .let(i,e,f,j):=I.list d;have c:=e.length;exact Calls.call_len_list f.isList (by simp! [a5]<;>lia) {.int ys.length,H,I.tok _,{s.toks+1,by rw [a5,c]},q}
 .let(i,e,f,j):=I.tuple d;have c:=e.length;exact len_tuple f (by simp! [a5]<;>lia) {.int ys.length,H,I.tok _,{s.toks+1,by rw [a5,c]},q}
def rC:cK X (.builtin "len") (λxs H Q=>∃z,xs=[.str z]/\z.length<=h9/\Q (.int z.length) H):=by intro c s d H xs e Q I r h;let(z,rfl,f,q):=h;let(u,rfl,t,rfl):=vals1 r;have g:=oG;exact len_str (by lia) {.int z.length,H,I.tok _,{_,rfl},q}
def pP:cK X (.type "tuple") (λxs H Q=>∃p ys,xs=[.ref p]/\((hW X.K H p ys/\∀l,H l=eX->Q (.ref l) (upd H l (.tup ys)))\/(gz X.K H p ys/\Q (.ref p) H))):=by
 intro j s k H xs B Q I r h;let(p,ys,rfl,h):=h;let(u,rfl,z):=vals1 r
 cases z;rcases h with⟨d,q⟩|⟨d,q⟩
 .let(f,g,i,m):=I.list d;have t:=g.length;refine call_tuple_list i.isList (λc kp=>?_) (by simp! [a5]<;>lia);have y:Inv X j k H {s with heap:=c}:=I.kept (t':=s.toks) kp
  have A:Inv X j k (upd H c.objs.size (.tup ys)) {s with heap:=c.push {cls:=.type "tuple",data:=.seq f.toArray}}:=
   y.laid (t':=s.toks) (λb o e=>aT _ e) (a7 _) (show bT X.prog X.w _ _ _ (.tup ys) from{m,f,g,IsTup.new _ _})
  exact{.ref c.objs.size,_,A,rfl,q _ (y.aM.fresh (a7 _))}
 .let(f,g,i,m):=I.tuple d;exact call_tuple_same i {.ref p,H,I,rfl,q}
def TC(K:zz8)(T:String)(x:V)(H:Hp):Prop:=match x with
 |.str _=>T="str"|.int _=>T="int"|.ref p=>(T="list"/\∃xs,hW K H p xs)\/(T="tuple"/\∃o,K.lookup p=eW o/\o.cls=.type "tuple"/\o.dict=eX)\/
  (T="dict"/\((∃c,H p=eW (.dK c))\/∃c,H p=eW (.dT c)))\/(T="set"/\∃S n,H p=eW (.set S n))
 |_=>False
def FZ{g:St}{s:gC}{T:String}{x:V}{v:fP}(I:Inv X aa g H s)(r:RelV x v)(ty:TC X.K T x H):
 s.TypeIs v T/\∀a,v=.ref a->∃ob,s.heap.get? a=eW ob/\ob.dict=eX:=by
 cases x with
 |str z=>let(t,rfl):=r;cases(show T="str" from ty);exact{typeIs_str s z t,λZ e=>nomatch e}
 |int i=>let(t,rfl):=r;cases(show T="int" from ty);exact{typeIs_int s i t,λZ e=>nomatch e}
 |ref p=>
  cases r;rcases ty with⟨rfl,xs,h⟩|⟨rfl,o,hk,j,hd⟩|⟨rfl,hk⟩|⟨rfl,S,n,hk⟩
  .let(m,_,f,_):=I.list h;refine{f.isList.typeIs,λa e=>?_};cases e;let(o,n,e,c,hd,_):=f;exact⟨o,e,hd⟩
  .refine{{o,I.j2 p o hk,j},λa e=>?_};cases e;exact{o,I.j2 _ o hk,hd}
  .have z:∃o,s.heap.get? p=eW o/\o.ExactDict:=by
    rcases hk with⟨k,hk⟩|⟨k,hk⟩
    .let(_,_,_,_,o,_,_,e,ex,_):=I.aM p _ hk;exact⟨o,e,ex⟩
    .let(_,_,_,_,o,_,_,e,ex,_):=I.aM p _ hk;exact⟨o,e,ex⟩
   let(o,e,ex):=z;refine{⟨o,e,ex.1⟩,λa d=>?_};cases d;exact⟨o,e,ex.2.1⟩
  .let(o,_,_,_,e,ex,_):=I.aM p _ hk;refine{⟨o,e,ex.1⟩,λa d=>?_};cases d;exact⟨o,e,ex.2.1⟩
 |_=>exact d6 ty
abbrev WA(K:zz8)(T:String)(r:V->List V->Hp->VK->Prop)(d:TE):TE:=λe H Q=>d e H λx c=>TC K T x c/\r x [] c Q
abbrev YQ(K:zz8)(T:String)(r:V->List V->Hp->VK->Prop)(e:TE)(t:TA):TE:=λc H Q=>e c H λx d=>TC K T x d/\t c d λxs f=>r x xs f Q
variable{o:hB}{es:List hB}{to:TE}{t:TA}{name:Str}{apos bx:Pos}{T id:String}{r:V->List V->Hp->VK->Prop}
theorem NS(j:PlainAttrs T)(slot:Slot T name id)(k:typeOf (.builtin id)=pure (.type "method_descriptor"))(hm:PM X id r)(m:PE X o to)
 (p:attributeBase o name X.env (eval o X.env)=eval o X.env:=by rfl) (q:(apos.endLine==bx.line)=e6:=by rfl):PE X (.Call (.Attribute o name apos) [] [] bx) (WA X.K T r to):=by
 intro d s f H Q I h;refine wpAny_Call_method0_late p q (bL (m d s f H _ I h) λv u c=>?_);let(x,w,g,i,ty,y):=c;let(z,A):=FZ g i ty;exact{T,id,j,slot,k,z,A,Calls.callWith_builtin rfl (PySem.evalArgs_none (hm d u f w x [] v [] Q g i .nil y))}
theorem vv(k:PlainAttrs T)(slot:Slot T name id)(m:typeOf (.builtin id)=pure (.type "method_descriptor"))(hm:PM X id r)(p:PE X o to)(q:PA X (e::es) t)
 (u:attributeBase o name X.env (eval o X.env)=eval o X.env:=by rfl)
 (w:((backTo bx (starEach (e::es) X.env)).all (λx=>!x.1)&&(backToKw bx (keywordEach [] X.env)).all (λx=>x.1.isSome)
  &&decide ((e::es).length+([]:List Keyword).length+(if([]:List Keyword).isEmpty then 0 else 1)<30))=e6:=by rfl)
 (y:(apos.endLine==bx.line)=e6:=by rfl) (hs:starEach (e::es) X.env=(fx,eval e X.env)::starEach es X.env:=by rfl) (z:(backTo bx (starEach es X.env)).any (·.1)=fx:=by rfl):
 PE X (.Call (.Attribute o name apos) (e::es) [] bx) (YQ X.K T r to t):=by
 intro c s d H Q I h;refine wpAny_Call_method_late u w y rfl (bL (p c s d H _ I h) λv A f=>?_);let(x,B,g,i,ty,C):=f;let(D,E):=FZ g i ty;refine{T,id,k,slot,m,D,E,?_};have j:=q bx c A d B _ g C;rw [hs] at j⊢;refine Calls.callWith_builtin (by show(fx||(backTo bx (starEach es X.env)).any (·.1))=fx;rw [z]<;>rfl) (Calls.evalArgs_plain ?_);exact bL j λF G ⟨L,M,N,O,P⟩=>hm c G d M x L v F Q N i O P
end
def WW(X:Cx)(id:String)(r:V->List V->Hp->VK->Prop):Prop:=
 ∀(a:kr) (s:gC) (b:St) (H:Hp) (x:V) (xs:List V) (v:fP) (c:List fP) (Q:VK),Inv X a b H s->RelV x v->Vals xs c->r x xs H Q->
  zx7 X (call (.builtin id) (v::c)) (EP X a b Q) X.xe s
def Vals.one{x:V}(h:Vals [x] us):∃u,us=[u]/\RelV x u:=by
 cases h with
 |cons r q=>cases q;exact{_,rfl,r}
def Vals.two{x y:V}(h:Vals [x,y] us):∃u v,us=[u,v]/\RelV x u/\RelV y v:=by
 cases h with
 |cons r q=>
  cases q with
  |cons q n=>cases n;exact{_,_,rfl,r,q}
theorem Vals.zero:∀{us:List fP},Vals [] us->us=[]
 |_,.nil=>rfl
def Vals.dropLast{xs:List V}(h:Vals xs us):Vals xs.dropLast us.dropLast:=by
 induction h with
 |nil=>exact .nil|cons r t a=>
  cases t with
  |nil=>exact .nil|cons q b=>exact .cons r a
def wM{c:Type}(l:List c):l.eraseIdx (l.length-1)=l.dropLast:=by
 induction l with
 |nil=>rfl|cons a r d=>
  cases r with
  |nil=>rfl|cons b r=>
   have e:(a::b::r).length-1=((b::r).length-1)+1:=by have f:(a::b::r).length=r.length+2:=rfl;have g:(b::r).length=r.length+1:=rfl;lia
   rw [e,List.eraseIdx_cons_succ,d]
   all_goals rfl
section
variable{s:gC}{l:g5}{xs ys:List V}
def Inv.Rw{a its':List fP}{n:Nat}{f:Array fP->Array fP}{t':Nat}(I:zv1 s)(b:H l=eW (.lst xs))
 (e:s.heap.get? l=eW {cls:=.type "list",data:=.seq a.toArray n}) (c:f a.toArray=its'.toArray) (d:Vals ys its') (hz:ys.length<=h9):
 Inv X aa σ (upd H l (.lst ys)) {s with heap:=s.heap.update l (Obj.mapSeq f),toks:=t'}:=by
 have q:=PySem.IsL.update e f;rw [c] at q;refine I.write (x:=l) (e:=l) (by rw [b];exact trivial) (.inl rfl) (λi u g h=>(hZ.get?_update_other s.heap (Obj.mapSeq f) (Ne.symm g)).trans h) {_,q} ?_;exact{hz,its',_,d,q}
theorem Inv.VT{a:List fP}{t':Nat}(I:zv1 s)(b:Vals ys a)(hz:ys.length<=h9):
 Inv X aa σ (upd H (zz9 s) (.lst ys)) {s with heap:=s.heap.push {cls:=.type "list",data:=.seq a.toArray},toks:=t'}:=
 I.laid (λZ Z q=>aT _ q) (a7 _) {hz,a,0,b,c8 _ rfl}
def Inv.fresh(I:zv1 s):H (zz9 s)=eX:=I.aM.fresh (a7 _)
def Inv.Rx(I:zv1 s)(b:H l=eW (.lst xs)):xs.length<=h9/\∃(a:List fP) (n:Nat),Vals xs a/\xs.length=a.length/\s.heap.get? l=eW {cls:=.type "list",data:=.seq a.toArray n}:=by let(z,a,n,r,e):=I.aM l _ b;exact⟨z,a,n,r,r.length,e⟩
def Jk:V->List V->Hp->VK->Prop:=λx a H Q=>∃l xs y,x=.ref l/\a=[y]/\H l=eW (.lst xs)/\xs.length<h9/\Q .aP (upd H l (.lst (xs++[y])))
def qS:WW X "list.append" Jk:=by intro aa s σ H x f v g Q I c rv h;let(l,xs,y,rfl,rfl,a,i,q):=h;cases c;let(u,rfl,d):=rv.one;let(z,b,n,r,hl,e):=I.Rx a;refine call_meets F.slot_list_append {_,e,rfl} F.entry_list_append (F.args_list_append_2 _ _) (PySem.list_append l b.toArray n u (by rw [a5];lia)) {e,?_};refine{.aP,_,I.Rw (its':=b++[u]) a e (by simp) (r.append (.cons d .nil)) ?_,rfl,q};rw [bW,List.length_singleton];lia
def Wm:V->List V->Hp->VK->Prop:=λx a H Q=>∃l xs y,x=.ref l/\a=[]/\H l=eW (.lst xs)/\xs[xs.length-1]?=eW y/\Q y (upd H l (.lst xs.dropLast))
def Nd:WW X "list.pop" Wm:=by
 intro aa s σ H x k v m Q I c rv h;let(l,xs,y,rfl,rfl,b,d,q):=h;cases c;have f:=rv.zero;subst f;let(z,a,n,r,hl,e):=I.Rx b;let(u,g,i):=r.get d;have j:a.toArray[a.toArray.size-1]?=eW u:=by show a.toArray[a.length-1]?=eW u;rw [<-Array.getElem?_toList,<-hl];exact g
 refine call_meets F.slot_list_pop {_,e,rfl} F.entry_list_pop (F.args_list_pop_1 _) (MeetsSeq.list_pop_last l a.toArray n u j (by rw [a5];lia)) {e,?_};refine{y,_,I.Rw (its':=a.dropLast) b e ?_ r.dropLast ?_,i,q}
 .show a.toArray.eraseIdxIfInBounds (a.toArray.size-1)=a.dropLast.toArray;rw [a5,List.eraseIdxIfInBounds_toArray,wM]
 .rw [List.length_dropLast];lia
end
end L2
namespace Att
open PySem.W PySem.Calls PyProof.Rows
def mX{P:Params}:∀(ns:List Int) (vs:List fP),WellAll P h vs (ns.map WData.int)->IntsAre vs ns:=by
 intro ns
 induction ns with
 |nil=>intro vs w;rw [List.map_nil] at w;cases w;exact .nil
 |cons n ns c=>
  intro vs w;rw [a8] at w;cases w with
  |cons a b=>cases a;exact .cons _ _ (c _ b)
def Bx{l:OpenLaw}{n:Nat}(hn:l.most=eW n){P:Params}{args:List WData}{b:List fP}
 (i:l.row.toRowW.claim.pre args=e6) (k:WellAll P h b args):
 ∃a vs ns,b=[fP.ref a]/\args=[WData.list (ns.map WData.int)]/\h.get? a=eW {cls:=.type "list",data:=.seq vs.toArray}/\IntsAre vs ns/\ns.length<=n:=by
 have m:WShape.hasAll [] args [.list .int]=e6:=(pre_splitW i).1;have j:l.pre.holds [] {args:=args}=e6:=(pre_splitW i).2;let(d,r,rfl,o,p):=hasAllW_cons m;obtain rfl:=hasAllW_nil p;let(xs,rfl,s):=hasW_list o;let(ns,rfl):=items_int s
 have c:ns.length<=n:=by
  unfold OpenLaw.pre at j;have f:(WTm.not (.lt (.lit (.int (n:Int))) (.len (.arg 0)))).holds [] {args:=[.list (ns.map .int)]}=e6:=by have f:=(holds_andW j).1;rw [hn] at f;exact f
  have g:=condW_of f (w_not (w_lt w_lit (w_len_list (w_arg rfl))));rw [zzl] at g;refine Nat.le_of_not_lt λq=>?_;have t:(n:Int)<((ns.length:Nat):Int):=by omega
  first
   |(rw [zzh t] at g;exact absurd g ↑2)
   |(simp at g;omega)
 cases k with
 |cons w1 u=>
  cases u;cases w1 with
  |list w e=>exact{_,_,ns,rfl,rfl,w,mX ns _ e,c}
theorem Br(l:OpenLaw)(args:List WData):l.row.toRowW.claim.post args (.bool e6) args=e6:=
 postW_of (r:=l.row.toRowW) (X:=(e6==e6))
  (show WShape.has [] (.bool e6) .bool=e6 by first|rfl|decide|simp [WShape.has,WShape.arms,WShape.armsAll])
  (show(WTm.eq .res (.lit (.bool e6))).value [] {args:=args,res:=eW (.bool e6),after:=args}=eW (.bool (e6==e6)) from w_eq_bool (w_res rfl) w_lit) rfl
def um{l:OpenLaw}{n:Nat}{q:hF}{c:List Str}{p:(Str->Option fP)->hZ->Prop}{s:hG->hZ->Prop}{d:DefRec}
 (hn:l.most=eW n) (z:d.params.defaults=[])
 (call:∀(w:hG) (s₀ b:gC) (mg mb:Str->Option fP) (h:g5) (o:Obj) (k cd e:fP) (a:g5) (vs:List fP) (ns:List Int),
  Ground q c [] p w s₀ mg mb b.heap->s w b.heap->
  b.heap.get? h=eW o->o.data=.func (docDef d.name d.params d.body d.scope k cd e)->b.heap.CodeRec cd d.name->mg d.name=eW (.ref h)->
  b.heap.get? a=eW {cls:=.type "list",data:=.seq vs.toArray}->IntsAre vs ns->ns.length<=n->b.gens=#[]->
  codeAny (hI l.prog w) callerA (.call (.ref h) {[.ref a],[]}) (λr s'=>r=.ok (.ret (.bool e6))/\OldK b.heap s'.heap/\s'.os=b.os/\AllBare s'.gens) b):
 WalkO q c p s l.row.toRowW d [] (λf vs=>PySem.call f vs):=by
 intro w s₀ b mg mb G Y h o k cd e A kV B hd C t m D args u as E y F H I;obtain rfl:A=.none:=Dflts.none t z;obtain rfl:kV=.none:=Dflts.noKw t;let(a,vs,ns,rfl,rfl,i,g,j):=Bx hn E H;refine enter_call (codeAny_mono (call w s₀ b mg mb h o k cd e a vs ns G Y B (fd_plain hd) C m i g j D) λr s' K=>?_);let(rfl,L,M,N):=K;exact{.inl {.bool e6,.bool e6,[],rfl,λZ=>rfl,.bool e6,Br l _,λZ=>{List.Pairwise.nil,λZ hm=>(nomatch hm)}},L,M,N}
abbrev ledger(h:hZ)(L d:g5):kr:=(List.range h.objs.size).filterMap λa=>if a=L\/a=d then eX else(h.get? a).map λo=>(a,o)
end Att
namespace L2
open PySem.Spec PyProof.Rows
def BM{vs:List fP}(r:IntsAre vs ns):Vals (ns.map V.int) vs:=by
 induction r with
 |nil=>exact .nil|cons n t _ a=>exact .cons ⟨t,rfl⟩ a
abbrev bP(s:ig):Arguments:=match s with
 |.FunctionDef _ a _ _ _ _ _ _ _ _=>a|_=>{posonlyargs:=[],args:=[],vararg:=eX,kwonlyargs:=[],kw_defaults:=[],kwarg:=eX,defaults:=[]}
abbrev bb(s:ig):List Stmt:=match s with
 |.FunctionDef _ _ b _ _ _ _ _ _ _=>b|_=>[]
abbrev aw(s:ig):Scope:=match s with
 |.FunctionDef _ _ _ _ _ _ sc _ _ _=>sc|_=>{kind:=.function,names:=[],isGenerator:=fx,isCoroutine:=fx}
structure KQ(K:zz8)(x qual:Str)(st:ig)(f:g5)(fd:FuncData):Prop where
 ex:∃(oc:fP) (od:Option g5) (kV doc pm:fP) (an:Option g5) (dD ct:fP) (pJ:Array (Option fP)),
  fd=PySem.W.fnOf x qual (bP st) (bb st) (aw st) .none kV doc pm an dD ct/\K.lookup f=eW {oc,od,.func fd,pJ}/\PySem.W.codeIn K dD qual=e6
 kp:PySem.W.keepIn K (.ref f)=e6
section
variable{K:zz8}
def KQ.binds{f:g5}{fd:FuncData}{ps:List Str}(F:KQ K x qual st f fd)
 (h:∀(kV a b:fP) (c:Option g5) (d ct:fP) (us:List fP),us.length=ps.length->bindArgs (PySem.W.fnOf x qual (bP st) (bb st) (aw st) .none kV a b c d ct) {us,[]}=pure (ps.zip us)):Binds K fd ps []:=by
 let(oc,e,kV,a,b,c,d,ct,g,rfl,i,j):=F.ex;exact .all (h kV a b c d ct)
def rT{f:g5}{oc:fP}{g d:Option g5}{h:Array (Option fP)}{kV a e b ct:fP}(l:K.lookup f=eW {oc,g,.func (PySem.W.fnOf x qual (bP st) (bb st) (aw st) .none kV a e d b ct),h})
 (c:PySem.W.codeIn K b qual=e6) (k:PySem.W.keepIn K (.ref f)=e6):KQ K x qual st f (PySem.W.fnOf x qual (bP st) (bb st) (aw st) .none kV a e d b ct):={⟨oc,g,kV,a,e,d,b,ct,h,rfl,l,c⟩,k}
theorem pv(i:Nat)(hN:X.N[i]?=eW x:=by rfl)(a:P0 X.env.scope x:=by first|exact Or.inl rfl|exact Or.inr (Or.inl rfl)|exact Or.inr (Or.inr rfl))(hd:(x==(zu 23:Str))=fx:=by decide)
 (b:(x==("__classdict__":Str))=fx:=by decide):PE X (.Name x pos) (OW i):=ma hN a hd b
end
def MX{A B:Prop}(h:B):if fx=e6 then A else B:=by rw [if_neg zzf];exact h
def Ie{A B:Prop}(h:A):if e6=e6 then A else B:=by rw [if_pos rfl];exact h
def aA(H a:Hp):Prop:=∀b o,H b=eW o->a b=eW o
def aA.refl(H:Hp):aA H H:=λZ Z h=>h
def aA.trans{d:Hp}(a:aA H H1)(b:aA H1 d):aA H d:=λc o h=>b c o (a c o h)
def aA.free{a:Hp}(e:aA H a){l:g5}(h:a l=Option.none):H l=Option.none:=by
 cases q:H l with
 |none=>rfl|some o=>rw [e l o q] at h;cases h
def aA.seq{K:zz8}{b:Hp}{xs:List V}(e:aA H b)(h:hW K H a xs):hW K b a xs:=by
 rcases h with(h|⟨o,h⟩)|h
 .exact .inl (.inl (e _ _ h))
 .exact .inl (.inr {o,e _ _ h})
 .exact .inr h
end L2
set_option maxHeartbeats 8000000
namespace L2
open PySem.Spec PyProof.Rows
abbrev cA(env:Env)(ys:List Str):List (Str×g5):=ys.map λy=>(y,(env.cells.lookup y).getD 0)
abbrev AY(a:St)(is:List Nat):St:=is.map λi=>(a[i]?).join
abbrev pZ(a:hX)(x:Str):Bool:=a.names.lookup x==eW .cell
theorem wH{c:g5}:∀(names:List (Str×NameKind)) (n:Nat) (a:List (Str×g5)),(x,c)∈i1 n names a->(x,c)∈a\/(x,NameKind.cell)∈names/\n<=c
 |[],n,a,h=>by rw [i1.eq_def] at h;exact .inl h
 | (y,k)::r,n,a,h=>by
  rw [i1.eq_def] at h;dsimp only at h;split at h
  .rename_i hk;cases eq_of_beq hk;rcases wH r (n+1) _ h with z|⟨b,d⟩
   .rcases d8.mp z with z|z
    .cases z;exact .inr {b4 ..,a7 _}
    .exact .inl z
   .exact .inr {bI _ b,Nat.le_of_succ_le d}
  .rcases wH r n _ h with z|⟨b,d⟩
   .exact .inl z
   .exact .inr {bI _ b,d}
theorem rK{c:g5}:∀(names:List (Str×NameKind)) (n:Nat) (a:List (Str×g5)),(i1 n names a).lookup x=eW c->a.lookup x=eW c\/(x,NameKind.cell)∈names/\n<=c
 |[],n,a,h=>by rw [i1.eq_def] at h;exact .inl h
 | (y,k)::r,n,a,h=>by
  rw [i1.eq_def] at h;dsimp only at h;split at h
  .rename_i hk;cases eq_of_beq hk;rcases rK r (n+1) _ h with z|⟨b,d⟩
   .rw [ez] at z;cases e:x==y with
    |true=>rw [e] at z;cases z;cases eq_of_beq e;exact .inr {b4 ..,a7 _}
    |false=>rw [e] at z;exact .inl z
   .exact .inr {bI _ b,Nat.le_of_succ_le d}
  .rcases rK r n _ h with z|⟨b,d⟩
   .exact .inl z
   .exact .inr {bI _ b,d}
theorem rJ:∀(names:List (Str×NameKind)) (n:Nat) (a:List (Str×g5)),(x,NameKind.cell)∉names->(i1 n names a).lookup x=a.lookup x
 |[],n,a,_=>by rw [i1.eq_def]|(y,k)::r,n,a,h=>by
  rw [i1.eq_def];dsimp only;have b:(x,NameKind.cell)∉r:=λz=>h (bI _ z);split
  .rename_i hk;cases eq_of_beq hk;rw [rJ r (n+1) _ b,ez];cases e:x==y with
   |true=>cases eq_of_beq e;exact absurd (b4 ..) h
   |false=>rfl
  .exact rJ r n a b
theorem Lf{c:g5}:∀(names:List (Str×NameKind)) (n:Nat) (a:List (Str×g5)),(x,c)∈i1 n names a->(∀p∈a,p.2≠c)->(x,c)∈i1 n names []
 |names,n,a,h,d=>by
  have key:∀(names:List (Str×NameKind)) (n:Nat) (a b:List (Str×g5)),(x,c)∈i1 n names (b++a)->(∀p∈a,p.2≠c)->(x,c)∈i1 n names b:=by
   intro names
   induction names with
   |nil=>
    intro n a b h d;rw [i1.eq_def] at h⊢;rcases List.mem_append.mp h with z|z
    .exact z
    .exact absurd rfl (d _ z)
   |cons y r e=>
    intro n a b h d;let(y,k):=y;rw [i1.eq_def] at h⊢;dsimp only at h⊢;split at h
    .rename_i hk;rw [if_pos hk];exact e (n+1) a ((y,n)::b) h d
    .rename_i hk;rw [if_neg hk];exact e n a b h d
  exact key names n a [] h d
theorem rL{y:Str}{c:g5}:∀(names:List (Str×NameKind)) (n:Nat) (a:List (Str×g5)),(∀p∈a,p.2<n)->n<=c->(x,c)∈i1 n names a->(y,c)∈i1 n names a->x=y
 |[],n,a,e,f,b,d=>by rw [i1.eq_def] at b;exact absurd (e _ b) (Nat.not_lt.mpr f)
 | (z,k)::r,n,a,e,f,b,d=>by
  rw [i1.eq_def] at b d;dsimp only at b d;split at b
  .rename_i hk;rw [if_pos hk] at d;have i:∀p∈(z,n)::a,p.2<n+1:=λp j=>by
    rcases d8.mp j with q|q
    .rw [q];exact Nat.lt_succ_self _
    .exact Nat.lt_succ_of_lt (e p q)
   by_cases g:n+1<=c
   .exact rL r (n+1) _ i g b d
   .have one:∀{w:Str},(w,c)∈i1 (n+1) r ((z,n)::a)->w=z:=λ{w} h=>by
     rcases wH r (n+1) _ h with q|q
     .rcases d8.mp q with q|q
      .cases q;rfl
      .exact absurd (e _ q) (Nat.not_lt.mpr f)
     .exact absurd q.2 g
    rw [one b,one d]
  .rename_i hk;rw [if_neg hk] at d;exact rL r n a e f b d
def yd{M:Model}{E:kd}{s:gC}{a:hX}{g:g5}{c:Env}{Q:Env->gC->Prop}
 (h:Q (newEnv a (zz9 s) g (i1 ((zz9 s)+1) a.names cl) qual eX .none (eW c) builtinsNs) {s with heap:=pushCells (s.heap.push {cls:=.type "dict",data:=.dict #[]}) a.names}):
 hD M A (newFunctionEnv a g cl [] qual eX .none (eW c)) Q E s:=by
 unfold newFunctionEnv;refine ar (wpAny_alloc ?_);refine ar (wpAny_forIn_list _ (λrest b f=>f={s with heap:=f.heap}/\pushCells f.heap rest=pushCells (s.heap.push {cls:=.type "dict",data:=.dict #[]}) a.names/\i1 (zz9 f) rest b=i1 ((zz9 s)+1) a.names cl) _ (λx rest b f j=>?_) (λb f j=>?_) a.names cl {rfl,rfl,by rw [hZ.size_push]})
 .let(i,d,e):=j;let(nm,k):=x;rw [pushCells.eq_def] at d;rw [i1.eq_def] at e;dsimp only at d e⊢;split
  .rename_i hk;rw [if_pos hk] at d e;refine ar (wpAny_alloc (bc {by rw [i],d,?_}));dsimp only;rw [hZ.size_push];exact e
  .rename_i hk;rw [if_neg hk] at d e;exact bc ⟨i,d,e⟩
 .let(i,d,e):=j;rw [pushCells.eq_def] at d;rw [i1.eq_def] at e;dsimp only at d e;subst e;rw [i,d];exact ar (bc (bc h))
noncomputable def cY(X:Cx)(d:List Str)(a:hX)(cl:List (Str×g5))(fp:List g5)(b:gC)(c:Hp)(C:g5):Cx where
 prog:=X.prog
 w:=X.w
 K:=X.K
 mg:=X.mg
 base:=X.base
 A:=X.A
 N:=d
 s₀:=b
 H₀:=c
 env:=compEnvC a (i1 (C+1) a.names cl) C X.env
 outer:=X.stack
 stack:=X.stack
 ex:=fp
 fn:=pZ a
 calm:=e6
 pn:=[]
 xe:=λZ Z=>False
theorem fy{env:Env}:∀{ys:List Str},(ys.all λy=>(env.cells.lookup y).isSome)=e6->∀(x:Str) (c:g5),(cA env ys).lookup x=eW c->env.cells.lookup x=eW c
 |[],_,_,_,h=>by simp [cA] at h|y::ys,a,x,c,h=>by
  rw [List.all_cons,zza] at a;have b:=fy (env:=env) a.2 x c
  unfold cA at h b;rw [a8,ez] at h;cases e:x==y with
  |true=>rw [e] at h;have d:x=y:=zzy.mp e;subst d;let(g,f):=ef.mp a.1;rw [f] at h⊢;exact h|false=>rw [e] at h;exact b h
theorem kG{env:Env}:∀{ys:List Str} {x:Str},x∈ys->∃c,(cA env ys).lookup x=eW c
 |[],_,h=>nomatch h|y::ys,x,h=>by
  unfold cA;rw [a8,ez];cases e:x==y with
  |true=>exact{_,rfl}|false=>
   have a:x∈ys:=by
    rcases d8.mp h with z|z
    .rw [z] at e;simp at e
    .exact z
   exact kG (env:=env) a
def mM{a:hX}{env:Env}{k:NameKind}(h:(relabel a env).names.lookup x=eW k)(hk:k=.cell\/k=.free):∃b,(x,b)∈a.names/\(b=.cell\/b=.free):=by
 have hm:=PySem.mem_of_lookup h;unfold relabel at hm;let((n,f),c,e):=er.mp hm;dsimp only at e;split at e
 .rename_i d;cases e;refine{f,c,.inr ?_};rw [zza,zza] at d;exact zzy.mp d.1.1
 .cases e;exact⟨k,c,hk⟩
structure ia(X:Cx)(scope:hX)(xs ys:List Str)(is:List Nat):Prop where
 kind:scope.kind=.function
 Uy:closureFor scope X.env=pure (cA X.env ys)
 cells:(ys.all λy=>(X.env.cells.lookup y).isSome)=e6
 Lm:(scope.names.all λy=>(decide (y.2≠.cell)||!ys.contains y.1)&&(decide (y.2≠.free)||ys.contains y.1))=e6
 own:(scope.names.all λy=>decide (y.2≠.cell)||decide (scope.names.lookup y.1=eW .cell))=e6
 names:(scope.names.all λy=>decide (y.2≠.local)||decide (scope.names.lookup y.1=eW .local))=e6
 slots:is.map (λi=>X.N[i]?)=ys.map eW
 kX:(ys.all λy=>decide (X.env.kindOf y=eW .cell))=e6
 kY:(ys.all λy=>decide ((relabel scope X.env).names.lookup y=eW .cell))=e6
section
variable{s:gC}{scope:hX}{xs ys:List Str}{is:List Nat}
def ia.NM(S:ia X scope xs ys is)(h:(x,NameKind.cell)∈scope.names):scope.names.lookup x=eW .cell/\x∉ys:=by
 have q:=cZ.mp S.own _ h;have c:=cZ.mp S.Lm _ h;rw [zza,ej] at c;rw [ej] at q;refine{zzY (q.resolve_left λz=>zzY z rfl),λa=>?_}
 rcases c.1 with z|z
 .exact zzY z rfl
 .rw [d9.mpr a] at z;cases z
def ie(I:zv1 s)(S:ia X scope xs ys is){C:g5}(hC:(zz9 s)<=C){c:g5}(h:(i1 (C+1) scope.names (cA X.env ys)).lookup x=eW c):
 (X.env.cells.lookup x=eW c/\c<(zz9 s)/\x∈ys)\/((x,NameKind.cell)∈scope.names/\C+1<=c):=by
 rcases rK _ _ _ h with z|z
 .have e:=fy S.cells x c z;let(v,q):=I.cell x c e;refine .inl {e,q.lt,?_};have hm:=PySem.mem_of_lookup z;unfold cA at hm;let(y,a,b):=er.mp hm;cases b;exact a
 .exact .inr z
def Au(I:zv1 s)(w:X.calm=e6)(S:ia X scope xs ys is){A:List Str}{fp:List g5}{C:g5}(hC:(zz9 s)<=C)(d:∀b∈fp,jq X aa H b)(j:∀b∈fp,b<(zz9 s)):
 (cY X A scope (cA X.env ys) fp s H C).Ok where
 mod:=I.ok.mod
 kind:=S.kind
 glob:=I.ok.glob
 blt:=I.ok.blt
 above:=hC
 inj:=λx y c k m=>by
  rcases ie I S hC k with f|f
  .rcases ie I S hC m with i|i
   .exact I.ok.inj x y c f.1 i.1
   .exact absurd f.2.1 (Nat.not_lt.mpr (c4 hC (Nat.le_of_succ_le i.2)))
  .refine rL scope.names (C+1) (cA X.env ys) (λp r=>?_) f.2 (PySem.mem_of_lookup k) (PySem.mem_of_lookup m);unfold cA at r;let(y,B,rfl):=er.mp r;let(D,t):=ef.mp (cZ.mp S.cells y B);let(v,q):=I.cell y D t;dsimp only;rw [t];exact Nat.lt_succ_of_le (c4 (Nat.le_of_lt q.lt) hC)
 has:=λx E=>by
  have F:(relabel scope X.env).names.lookup x=eW .cell\/(relabel scope X.env).names.lookup x=eW .free:=E
  have:∃g,(x,g)∈scope.names/\(g=.cell\/g=.free):=by
   rcases F with z|z
   .exact mM z (.inl rfl)
   .exact mM z (.inr rfl)
  let(g,hm,hk):=this;have u:=cZ.mp S.Lm _ hm
  rw [zza,ej,ej] at u;rcases hk with z|z
  .subst z;exact ef.mp (PySem.W.cellsFrom_some _ _ _ (.inl (S.NM hm).1))
  .rcases u.2 with q|q
   .exact absurd z (zzY q)
   .refine ef.mp (PySem.W.cellsFrom_some _ _ _ (.inr ?_));let(c,e):=kG (env:=X.env) (d9.mp q);rw [e];rfl
 Ld:=λx c h e=>by
  have hm:(x,NameKind.cell)∈scope.names:=PySem.mem_of_lookup (eq_of_beq h)
  rcases ie I S hC e with z|z
  .exact absurd z.2.2 (S.NM hm).2
  .exact c4 hC (Nat.le_of_succ_le z.2)
 hd:=λZ=>I.ok.hd w
 frames:=I.ok.frames
 OJ:=.inl rfl
 UE:=λb a=>{dV (c6 (j b a) hC),λx c h=>(ie I S hC h).elim (λz=>(d b a).2.2.2.2.1 x c z.1) λz q=>absurd (j b a) (Nat.not_lt.mpr (q▸c4 hC (Nat.le_of_succ_le z.2)))}
 bs:=λb o e=>I.bs b o e
 wF:=c4 I.ok.wF I.sz
 Bd:=λb o e a=>by
  rcases(d b a).2.2.2.1 with z|z
  .exact I.ok.Bd b o e z
  .exact absurd (c6 (bX e) (c4 I.ok.wF z)) (Nat.lt_irrefl _)
 CO:=λb a hs=>(d8.mp (I.mi b hs)).elim (d b a).2.1 (d b a).2.2.1
 hJ:=I.stack
 wW:=λb a=>I.nE b a
theorem yJ:∀{is:List Nat} {ys:List Str},is.map (λi=>N[i]?)=ys.map eW->∀(j:Nat) (y:Str) (v:V),ys[j]?=eW y->(AY σ is)[j]?=eW (eW v)->∃i:Nat,N[i]?=eW y/\σ[i]?=eW (eW v)
 |[],[],_,_,_,_,h,_=>by simp at h|[],_::_,h,_,_,_,_,_=>by simp at h|_::_,[],h,_,_,_,_,_=>by simp at h|i::is,c::ys,h,0,y,v,b,a=>by rw [a8,a8] at h;have d:=(List.cons.inj h).1;simp! [List.getElem?_cons_zero,Option.some.injEq] at b;subst b;refine{i,d,?_};unfold AY at a;simp! [a8,List.getElem?_cons_zero,Option.some.injEq] at a;exact Option.join_eq_some_iff.mp a|i::is,c::ys,h,j+1,y,v,b,a=>by rw [a8,a8] at h;refine yJ (is:=is) (ys:=ys) (List.cons.inj h).2 j y v (zx6 b) ?_;unfold AY at a⊢;simpa using a
noncomputable abbrev lobj(a:List fP)(n:Nat):Obj:={cls:=.type "list",data:=.seq a.toArray n}
def A5(a:List fP)(n:Nat)(v:Option fP):(lobj a n).data≠.cell v:=λz=>by cases z
noncomputable abbrev tests(a:List hB)(env:Env):Sem Bool:=forIn a e6 λc r=>if r=e6 then do let ok<-isTrue c env (eval c env);pure (ForInStep.yield ok) else pure (ForInStep.yield r)
theorem rM{w:hG}{R:Result->gC->Prop}{s:gC}{a iter:hB}{q:List hB}{scope:hX}{it t:fP}{env:Env}(I:Nat->gC->Prop)
 (turn:∀n s,I n s->hD (hI prog w) A (pyNext it) (λr b=>match r with
  |none=>R (.ok .next) b|some v=>hD (hI prog w) A (letOwnedTupleGo a it v) (λZ c=>hD (hI prog w) A (assign a env v) (λZ g=>
   hD (hI prog w) A (tests q env) (λok d=>if ok=e6 then hD (hI prog w) A (eval p env) (λx i=>
    hD (hI prog w) A (call (.builtin "list.append") [t,x]) (λZ j=>∃m,m<n/\I m j) (notedBy (hI prog w) A env λe s'=>R (.error e) s') i) (notedBy (hI prog w) A env λe s'=>R (.error e) s') d
    else∃m,m<n/\I m d) (notedBy (hI prog w) A env λe s'=>R (.error e) s') g)
   (notedBy (hI prog w) A env λe s'=>R (.error e) s') c) (notedBy (hI prog w) A env λe s'=>R (.error e) s') b) (notedBy (hI prog w) A env λe s'=>R (.error e) s') s)
 (n:Nat) (h:I n s):
 codeAny (hI prog w) A (.compLoop (.ListComp p [{a,iter,q,0}] scope pos) 0 it t env) R s:=by
 refine codeAny_loop rfl I (λn s C=>?_) n h;show hD _ A ((compTurn (.ListComp p [{a,iter,q,0}] scope pos) 0 it t env).onRaise (λx=>do noteFrame x env;theTreesLotGoes x)) _ _ s;refine wpAny_noted ?_;rw [compTurn_list];refine ar (wpAny_standAt (ar (wpAny_mono (turn n s C) (λr b k=>?_) λZ Z f=>f)))
 cases r with
 |none=>exact bc k|some v=>
  refine ar (wpAny_mono k (λZ c u=>?_) λZ Z f=>f);refine ar (wpAny_mono u (λZ g y=>ar (wpAny_mono y (λok d o=>?_) λZ Z f=>f)) λZ Z f=>f)
  cases ok with
  |false=>exact bc ⟨rfl,o⟩|true=>exact ar (ar (wpAny_mono o (λx i z=>ar (wpAny_mono z (λZ j B=>bc (bc ⟨rfl,B⟩)) λZ Z f=>f)) λZ Z f=>f))
def TY(X:Cx)(a:List hB)(t:TT):Prop:=
 ∀(aa:kr) (s:gC) (σ:St) (H:Hp) (Q:Bool->Hp->Prop),Inv X aa σ H s->t σ H Q->zx7 X (tests a X.env) (TP X aa σ Q) X.xe s
def Je:TY X [] (λZ H q=>q e6 H):=λZ Z Z H Z I h=>wpAny_tests_nil ⟨H,I,h⟩
def Jf{t:TT}(h:PT X e t):TY X [e] t:=λaa s σ H Q I z=>wpAny_tests_one (h aa s σ H Q I z)
def JT(J:It)(k:Nat)(g:TG)(te:TE)(fs:St)(Q:VK)(H1:Hp):Prop:=∃(n:Nat) (W:Nat->List V->St->Hp->Prop),W 0 [] (jZ k eX++fs) H1/\
 ∀i ys b a,W i ys b a->ys.length<h9/\((J.stop i a/\∀p,a p=eX->Q (.ref p) (upd a p (.lst ys)))\/
  (J.go i a/\i<n/\∀x d,J.PD i a x d->g x b d λc e=>te c e λy f=>W (i+1) (ys++[y]) c f))
abbrev FJ(a:TI)(k:Nat)(g:TG)(te:TE)(is:List Nat):TE:=λσ H Q=>a σ H λJ b=>JT J k g te (AY σ is) Q b
def GH(J:It)(k:Nat)(g:TG)(tt:TT)(te:TE)(fs:St)(Q:VK)(H1:Hp):Prop:=∃(n:Nat) (W:Nat->List V->St->Hp->Prop),W 0 [] (jZ k eX++fs) H1/\
 ∀i ys d c,W i ys d c->ys.length<h9/\((J.stop i c/\∀p,c p=eX->Q (.ref p) (upd c p (.lst ys)))\/
  (J.go i c/\i<n/\∀x e,J.PD i c x e->g x d e λa h=>tt a h λb f=>if b=e6 then te a f (λy j=>W (i+1) (ys++[y]) a j) else W (i+1) ys a f))
abbrev tR(a:TI)(k:Nat)(g:TG)(tt:TT)(te:TE)(is:List Nat):TE:=λσ H Q=>a σ H λJ b=>GH J k g tt te (AY σ is) Q b
def qB{elt tg iter:hB}{ifs:List hB}{pp:Pos}{wi:TI}{g:TG}{te:TE}{tt:TT}{use:Option (fP->Sem Unit)}{QQ:kd}{Q:VK}(hc:X.calm=e6)(S:ia X scope xs ys is)(hi:PI X tg iter wi)
 (hg:∀fp s1 H1 C,PG (cY X (xs++ys) scope (cA X.env ys) fp s1 H1 C) tg g) (ht:∀fp s1 H1 C,TY (cY X (xs++ys) scope (cA X.env ys) fp s1 H1 C) ifs tt) (he:∀fp s1 H1 C,PE (cY X (xs++ys) scope (cA X.env ys) fp s1 H1 C) elt te)
 (hs:∀x,foldedSetIterable iter X.env x=pure x) (I:zv1 s) (h:tR wi xs.length g tt te is σ H Q)
 (fin:∀(D C:g5) (P:gC) (H4:Hp) (m:Str->Option fP),Inv X aa σ H4 P->P.heap.Ns C m->jq X aa H4 C->Q (.ref D) H4->compPost (hI X.prog X.w) X.A X.xe use QQ (.ref D) C (.ok .next) P):
 zx7 X (comprehension (.ListComp elt [{tg,iter,ifs,0}] scope pos) scope X.env pp (newList []) fx (eval iter X.env) use) QQ X.xe s:=by
 have MK:∀x∈scope.names,x.2=.local->scope.names.lookup x.1=eW .local:=λx hx hl=>by
  have q:=cZ.mp S.names x hx
  rw [ej] at q;rcases q with q|q
  .exact absurd hl (zzY q)
  .exact zzY q
 refine wpAny_comprehension_free (use:=use) (Q:=QQ) (g:={tg,iter,ifs,0}) (gs:=[]) rfl hs S.Uy S.kind MK (bL (hi aa s σ H _ I h) λxv s0 h0=>bL h0 λTq s1 h1=>?_);let(it,fp,tn,J,H1,rfl,E,T,pK,f1,n,W,w0,turn):=h1;refine wpAny_newObj_type (yd ?_);dsimp only;generalize hH2:s1.heap.push {cls:=.type "list",dict:=eX,data:=.seq ([]:List fP).toArray}=G2;generalize R:pushCells (G2.push {cls:=.type "dict",data:=.dict #[]}) scope.names=j;have Vo:∀b o,(G2.push {cls:=.type "dict",data:=.dict #[]}).get? b=eW o->j.get? b=eW o:=λb o e=>by rw [<-R];exact pushCells_keeps _ _ b o e
 have hns₁:j.Ns G2.objs.size λ_=>eX:=(hZ.Ns.new G2 (.type "dict")).keeps Vo;have XX:G2.objs.size=(zz9 s1)+1:=by rw [<-hH2,hZ.size_push]
 have Z:(zz9 s1)<=G2.objs.size:=by rw [XX];exact Nat.le_succ _
 have Te:(zz9 s1)≠G2.objs.size:=by rw [XX];exact dV (Nat.lt_succ_self _)
 have L:∀b o,s1.heap.get? b=eW o->j.get? b=eW o:=λb o e=>Vo b o (aT _ (hH2▸aT _ e));have rZ:j.get? (zz9 s1)=eW (lobj [] 0):=Vo _ _ (aT _ (hH2▸c8 _ rfl));have BX:∀b∈fp,b<(zz9 s1):=λb a=>by let(o,e,_):=T.obj _ _ pK b a;exact bX e
 generalize hY:cY X (xs++ys) scope (cA X.env ys) fp s1 H1 G2.objs.size=Y;have okY:Y.Ok:=by rw [<-hY];exact Au E hc S Z f1 BX
 have XY:∀b∈fp,(zz9 s1)≠b:=λb a=>Ne.symm (dV (BX b a));have UM:∀b,b∈Y.fs->b=X.env.locals\/b∈X.fs:=λb a=>by rw [<-hY] at a;exact d8.mp (E.mi b a)
 have UL:∀b∈Y.fs,b<(zz9 s1):=λb a=>by rw [<-hY] at a;let(_,o,ho,_):=E.stack.mem a;exact bX ho
 have UR:(zz9 s1)∉Y.fs:=λz=>Nat.lt_irrefl _ (UL _ z);have MB:Y.env.locals=G2.objs.size:=by rw [<-hY];rfl
 have Tf:∀x c,Y.env.cells.lookup x=eW c->(X.env.cells.lookup x=eW c/\c<(zz9 s1)/\x∈ys)\/((x,NameKind.cell)∈scope.names/\G2.objs.size+1<=c):=λx c e=>by rw [<-hY] at e;exact ie E S Z e
 have ZH:∀x c,Y.env.cells.lookup x=eW c->G2.objs.size+1<=c->j.IsCell c eX:=λx c e hle=>by
  rw [<-hY] at e;have hm:(x,c)∈i1 (G2.objs.size+1) scope.names []:=Lf scope.names _ _ (PySem.mem_of_lookup e) λp M=>by unfold cA at M;let(y,hy,rfl):=er.mp M;let(c',iU):=ef.mp (cZ.mp S.cells y hy);let(v,q):=E.cell y c' iU;dsimp only;rw [iU];exact dV (c6 q.lt (c4 Z (Nat.le_of_succ_le hle)))
  have ck:=cellsFrom_ok scope.names (G2.push {cls:=.type "dict",data:=.dict #[]}) 0 [] {(λ_ _ z=>nomatch z),.nil} (Nat.zero_le _);rw [hZ.size_push,R] at ck;exact(ck.empty x c hm).1
 have Zj:∀x c,Y.env.cells.lookup x=eW c->c≠(zz9 s1):=λx c e=>(Tf x c e).elim (λz=>dV z.2.1) λz=>Ne.symm (dV (c5 Z z.2));have Dz:Y.pn=[]:=by rw [<-hY];rfl
 have QJ:Y.ex=fp:=by rw [<-hY];rfl
 have QL:Y.s₀=s1:=by rw [<-hY];rfl
 have X3:Y.H₀=H1:=by rw [<-hY];rfl
 have QK:Y.prog=X.prog:=by rw [<-hY];rfl
 have QN:Y.w=X.w:=by rw [<-hY];rfl
 have X4:Y.K=X.K:=by rw [<-hY];rfl
 have UW:Y.A=X.A:=by rw [<-hY];rfl
 have ZG:compEnvC scope (i1 (G2.objs.size+1) scope.names (cA X.env ys)) G2.objs.size X.env=Y.env:=by rw [<-hY];rfl
 have QI:Y.calm=e6:=by rw [<-hY];rfl
 have MC:Y.xe=λ_ _=>False:=by rw [<-hY];rfl
 have QM:Y.fs=fv X.stack:=by rw [<-hY];rfl
 have RZ:∀{t:Hp} {s':gC} {B:List fP} {k:Nat},s'.heap.get? (zz9 s1)=eW (lobj B k)->t (zz9 s1)=eX->∀p∈[((zz9 s1),lobj B k)],s'.heap.get? p.1=eW p.2/\t p.1=eX/\p.1≠Y.env.locals/\p.1∉Y.fs/\∀v,p.2.data≠.cell v:=
  λ{t s' B k} e hn p M=>by obtain rfl:=d3.mp M;exact{e,hn,by rw [MB];exact Te,UR,λv=>A5 B k v}
 have UK:∀{t:Hp} {B:List fP} {k:Nat},(∀b∈fp,t b=eX)->∀b∈fp,jq Y [((zz9 s1),lobj B k)] t b:=λ{t B k} hn b a=>
  {hn b a,by rw [MB];exact dV (c6 (BX b a) Z),λz=>(UM b z).elim (f1 b a).2.1 (f1 b a).2.2.1,.inl (by rw [QJ];exact a),
   λx c e=>(Tf x c e).elim (λz=>(f1 b a).2.2.2.2.1 x c z.1) (λz q=>absurd (BX b a) (Nat.not_lt.mpr (q▸c4 Z (Nat.le_of_succ_le z.2)))),λp M=>by rw [Dz,List.nil_append] at M;obtain rfl:=d3.mp M;exact XY b a}
 have QG:H1 (zz9 s1)=eX:=E.aM.fresh (a7 _)
 have I2:∀tk,Inv Y [((zz9 s1),lobj [] 0)] (jZ xs.length eX++AY σ is) H1 {s1 with heap:=j,toks:=tk}:=λtk=>by
  refine{okY,by rw [QL],E.bare,by rw [QL,X3];exact Un.kept L,{_,by rw [MB];exact hns₁,λi x v e1 e2 e3=>?_},λx c e=>?_,?_,λx c e=>(Tf x c e).elim (λz=>E.fz x c z.1) (λz=>E.aM.fresh (c4 Z (Nat.le_of_succ_le z.2))),λp M=>?_,by rw [QK,QN];exact E.aM.kept L,?_}
  .
   have US:Y.N=xs++ys:=by rw [<-hY];rfl
   rw [US] at e1;by_cases eC:i<xs.length
   .rw [eg (by rw [List.length_replicate];exact eC),List.getElem?_replicate,if_pos eC] at e2;cases e2
   .have MH:xs.length<=i:=Nat.not_lt.mp eC;rw [ei (by rw [List.length_replicate];exact MH),List.length_replicate] at e2;rw [ei MH] at e1;let(i0,h0,h1):=yJ S.slots _ x v e1 e2;have hm:x∈ys:=a6 e1;have kx:X.env.kindOf x=eW .cell:=zzY (cZ.mp S.kX x hm);have ky:(relabel scope X.env).names.lookup x=eW .cell:=zzY (cZ.mp S.kY x hm);let(m,_,hl):=E.loc;let(u,ru,lk):=hl i0 x v h0 h1 (.inr (.inl kx))
    refine{u,ru,.inr {.inl (by rw [<-hY];exact ky),?_}};rcases lk with⟨z,_⟩|⟨_,c,QT,pT⟩
    .rw [kx] at z;cases z
    .let(c',iU):=kG (env:=X.env) hm;have QS:=fy S.cells x c' iU;rw [QT] at QS;cases QS;refine{c,by rw [<-hY];exact(rJ _ _ _ λz=>(S.NM z).2 hm).trans iU,?_};let(o,ho,hd):=pT;exact{o,L _ _ ho,hd}
  .rcases Tf x c e with z|z
   .let(v,o,ho,hd):=E.cell x c z.1;exact{v,o,L _ _ ho,hd}
   .exact{eX,ZH x c e z.2}
  .rw [MB];exact E.aM.fresh Z
  .rw [Dz,List.nil_append] at M;exact RZ (s':={s1 with heap:=j,toks:=tk}) rZ QG p M
  .have US:Y.N=xs++ys:=by rw [<-hY];rfl
   have hl:=congrArg List.length S.slots;rw [zzl,zzl] at hl;rw [US,bW,bW,List.length_replicate];unfold AY;rw [zzl,hl]
 have loop:∀U:gC,U={s1 with heap:=j}->
  codeAny (hI X.prog X.w) X.A (.compLoop (.ListComp elt [{tg,iter,ifs,0}] scope pos) 0 (.ref it) (.ref (zz9 s1)) (compEnvC scope (i1 (G2.objs.size+1) scope.names (cA X.env ys)) G2.objs.size X.env))
   (compPost (hI X.prog X.w) X.A X.xe use QQ (.ref (zz9 s1)) G2.objs.size) U:=by
  rintro U rfl
  rw [ZG];refine rM (λk s'=>∃i made F t B c,Inv Y [((zz9 s1),lobj B c)] F t s'/\tn i s'.heap/\(∀b∈fp,t b=eX)/\Vals made B/\k=n-i/\W i made F t) ?_ n
   {0,[],_,H1,[],0,I2 _,T.keep _ _ _ pK λb _ o e=>L b o e,λb a=>(f1 b a).1,.nil,rfl,w0}
  rintro k s' ⟨i,made,F,t,B,c,I3,st3,fr3,rv,rfl,w3⟩
  let(hz,tw):=turn i made F t w3;have pD:=I3.pin ((zz9 s1),lobj B c) (by rw [Dz];exact d3.mpr rfl)
  rcases tw with⟨stop,hq⟩|⟨go,Yc,step⟩
  .rw [<-UW];refine bL (T.done Y QK QN X4 QI i _ s' F t _ I3 (UK fr3) st3 stop) λr P ⟨hr,I4⟩=>?_;subst hr;let(m,hn4,_):=I4.loc;rw [MB] at hn4;have Wg:=I4.pin ((zz9 s1),lobj B c) (by rw [Dz];exact d3.mpr rfl);have kp:∀b o,b≠G2.objs.size->P.heap.get? b=eW o->P.heap.get? b=eW o:=λb o a e=>e;have VU:∀{b o},s1.heap.get? b=eW o->b≠G2.objs.size:=λ{b o} e=>dV (c6 (bX e) Z);have dq:=I4.base;rw [QL,X3,QJ,QM] at dq;have VV:∀{b o},H1 b=eW o->b≠(zz9 s1):=λ{b o} e=>dV (E.aM.lt e)
   have u:Un (fv X.stack) fp H1 (upd t (zz9 s1) (.lst made)) s1.heap P.heap:=by
    refine{λb o e n a hx=>kp b o (VU e) (dq.keep b o e n a hx),λb o e n a hx=>?_,λb o e n hx=>?_,λb o e hx=>?_,λb xs e=>?_,λb o u e=>?_,λb ps e=>?_}
    .let(sl,q):=dq.slot b o e n a hx;exact{sl,kp b _ (VU e) q}
    .rw [ai (dV (bX e))];exact dq.free b o e n hx
    .let(o',q):=dq.there b o e hx;exact{o',kp b _ (VU e) q}
    .rw [ai (VV e)];exact dq.hV b xs e
    .rw [ai (VV e)];exact dq.gf b o u e
    .let(more,q):=dq.gS b ps e;exact{more,by rw [ai (VV e)];exact q}
   have XW:t G2.objs.size=eX:=by rw [<-MB];exact I4.free
   have HX:ft X.prog X.w (upd t (zz9 s1) (.lst made)) P.heap:=λb o e=>by
    by_cases a:b=(zz9 s1)
    .subst a;rw [aq] at e;cases e;exact{Nat.le_of_lt hz,B,c,rv,kp _ _ Te Wg.1}
    .rw [ai a] at e;have x4:=I4.aM b o e;rw [QK,QN] at x4;have Nf:∀G u,t G=eW u->G≠G2.objs.size:=λG u q z=>by rw [z,XW] at q;cases q
     have Kl:∀G u,t G=eW u->G≠(zz9 s1):=λG u q z=>by rw [z,Wg.2.1] at q;cases q
     refine x4.fT (λG u AR q=>kp G u ?_ q) (λG q=>?_) λG xs q=>?_
     .rcases AR with z|z
      .rw [z];exact Nf b o e
      .exact Nf G _ z
     .rw [ai (Kl G _ q)];exact q
     .rw [ai (Kl G _ q)];exact q
   have I5:Inv X aa σ (upd t (zz9 s1) (.lst made)) P:=E.Qk (by show P.os=s1.os;rw [I4.os,QL]) u HX I4.bare λb a=>{(f1 b a).2.2.2.1,(f1 b a).2.1,(f1 b a).2.2.2.2.1,(f1 b a).2.2.2.2.2};dsimp only;rw [UW];exact fin (zz9 s1) G2.objs.size P _ m I5 hn4 (E.uN Z (by rw [ai (Ne.symm Te)];exact XW)) (hq _ Wg.2.1)
  .rw [<-UW];refine bL (T.item Y QK QN X4 QI i _ s' F t _ I3 (UK fr3) st3 go) λr P ⟨u,hr,h4⟩=>?_;subst hr;dsimp only;refine bL h4 λ_ s5 yq0=>?_;let(x,H5,I5,r5,y5,V,fr5):=yq0;have TN:=I5.pinned (UK fr5) (T.obj _ _ V);have X9:=hg fp s1 H1 G2.objs.size;have X7:=he fp s1 H1 G2.objs.size;have Yj:=ht fp s1 H1 G2.objs.size;rw [hY] at X9 X7 Yj;rw [<-QK,<-QN];refine wpAny_mono (X9 _ s5 F H5 x u _ TN r5 (step x H5 y5)) (λ_ s6 ⟨O,H6,I6,q6⟩=>?_) (λ_ _ f=>by rw [MC] at f;exact f.elim);refine wpAny_mono (Yj _ s6 O H6 _ I6 q6) (λokb sT ⟨HT,IT,qT⟩=>?_) (λ_ _ f=>by rw [MC] at f;exact f.elim);have pDT:=IT.pin ((zz9 s1),lobj B c) (cJ _ (d0 _ (d3.mpr rfl)));have stT:tn (i+1) sT.heap:=T.keep _ _ _ V λb a o e=>(IT.pin (b,o) (cJ _ (cJ _ (dR a e)))).1
   cases okb with
   |false=>refine{n-(i+1),by omega,i+1,made,O,HT,B,c,IT.lK,stT,λb a=>?_,rv,rfl,qT};let(o,e,d):=T.obj _ _ V b a;exact(IT.pin (b,o) (cJ _ (cJ _ (dR a e)))).2.1|true=>
   refine wpAny_mono (X7 _ sT O HT _ IT qT) (λv s7 ⟨y,H7,I7,r7,q7⟩=>?_) (λ_ _ f=>by rw [MC] at f;exact f.elim);have Wh:=I7.pin ((zz9 s1),lobj B c) (cJ _ (d0 _ (d3.mpr rfl)));have e7:s7.heap.get? (zz9 s1)=eW {cls:=.type "list",data:=.seq B.toArray c}:=Wh.1;refine append_at (hsz:=by rw [a5,<-rv.length];exact Nat.le_of_lt hz) e7 λh' HZ Zw=>?_;have I8:Inv Y [] O H7 s7:=I7.nA λ_ z=>nomatch z
   have I9:Inv Y [] O H7 {s7 with heap:=h'}:=I8.turned (t':=s7.toks) (it:=(zz9 s1)) (λb o a e=>HZ.extBut b o a e) Wh.2.1 (by rw [MB];exact Te) (.inr (by rw [QL];exact a7 _))
    (λx c' e=>Zj x c' e) (λp M=>by rw [Dz] at M;cases M)
   have eD:h'.get? (zz9 s1)=eW (lobj (B++[v]) (c+1)):=by rw [Zw,List.push_toArray]
   have st7:tn (i+1) s7.heap:=T.keep _ _ _ V λb a o e=>(I7.pin (b,o) (cJ _ (cJ _ (dR a e)))).1;refine{n-(i+1),by omega,i+1,made++[y],O,H7,B++[v],c+1,I9.nA (RZ (s':={s7 with heap:=h'}) eD Wh.2.1),T.keep _ _ _ st7 λb a o e=>HZ.extBut b o (Ne.symm (XY b a)) e,λb a=>?_,rv.append (.cons r7 .nil),rfl,q7};let(o,e,d):=T.obj _ _ V b a;exact(I7.pin (b,o) (cJ _ (cJ _ (dR a e)))).2.1
 exact codeAny_compStart_list (loop _ rfl) (T.self _ 0 _ _ _ (T.keep _ _ _ pK λb _ o e=>L b o e) (loop _ rfl))
def zt{a c iter:hB}{d:TI}{g:TG}{te:TE}(f:X.calm=e6)(S:ia X scope xs ys is)(i:PI X c iter d)
 (j:∀fp s1 H1 C,PG (cY X (xs++ys) scope (cA X.env ys) fp s1 H1 C) c g) (he:∀fp s1 H1 C,PE (cY X (xs++ys) scope (cA X.env ys) fp s1 H1 C) a te)
 (hs:∀x,foldedSetIterable iter X.env x=pure x:=by intro _;rfl):
 PE X (.ListComp a [{c,iter,[],0}] scope pos) (FJ d xs.length g te is):=by
 intro aa s σ H Q I h;rw [eval_ListComp];exact qB (use:=eX) (Q:=Q) f S i j (λZ Z Z Z=>Je) he hs I h (λD C k p m r t ⟨u,g1,_,g3,w,y⟩ q=>{m,t,λB z=>{.ref D,p,r.turned (t':=k.toks) (it:=C) (λb o A e=>z.extBut b o A e) u g1 g3 w y,rfl,q}})
def Bo{a c iter:hB}{f:TI}{g:TG}{te:TE}{tt:TT}(i:X.calm=e6)(S:ia X scope xs ys is)(j:PI X c iter f)
 (k:∀fp s1 H1 C,PG (cY X (xs++ys) scope (cA X.env ys) fp s1 H1 C) c g) (p:∀fp s1 H1 C,PT (cY X (xs++ys) scope (cA X.env ys) fp s1 H1 C) d tt) (he:∀fp s1 H1 C,PE (cY X (xs++ys) scope (cA X.env ys) fp s1 H1 C) a te)
 (hs:∀x,foldedSetIterable iter X.env x=pure x:=by intro _;rfl):
 PE X (.ListComp a [{c,iter,[d],0}] scope pos) (tR f xs.length g tt te is):=by
 intro aa s σ H Q I h;rw [eval_ListComp];exact qB (use:=eX) (Q:=Q) i S j k (λfp s1 H1 C=>Jf (p fp s1 H1 C)) he hs I h (λD C r t m u w ⟨y,g1,_,g3,z,A⟩ q=>{m,w,λF B=>{.ref D,t,u.turned (t':=r.toks) (it:=C) (λb o E e=>B.extBut b o E e) y g1 g3 z A,rfl,q}})
end
def bo{p:g5}{o:HO}(h:H p=eX):aA H (upd H p o):=λb u e=>by rw [ai (bH e h)];exact e
def range_all(bs:List Bool):(List.range bs.length).all (λi=>(bs[i]?).getD e6)=bs.all id:=by
 rw [Bool.eq_iff_iff,cZ,cZ];constructor
 .intro h b d;let(i,a,e):=List.getElem_of_mem d;have q:=h i (List.mem_range.mpr a);rw [zzg a,Option.getD_some,e] at q;exact q
 .intro h i a;have c:=List.mem_range.mp a;rw [zzg c,Option.getD_some];exact h _ (List.getElem_mem c)
def Cm(t:X.calm=e6):cK X (.builtin "all") (λxs H Q=>∃(p:g5) (bs:List Bool),xs=[.ref p]/\hW X.K H p (bs.map V.bl)/\Q (.bl (bs.all id)) H):=by
 intro D s E H xs F Q I r h;let(p,bs,rfl,w,q):=h;let(u,rfl,d):=vals1 r;cases d;let(c,rv,f,G):=I.list w;have y:p<(zz9 s):=by let(_,e,_):=f.isList;exact bX e
 have a:c.length=bs.length:=by rw [<-rv.length,zzl]
 refine call_all_walk (wpAny_pyIter_list f.isList ?_);refine{(zz9 s),_,_,c.toArray.size,_,_,λi=>(bs[i]?).getD e6,rfl,Walks.list (A:=X.A.in1) (I.ok.hd t) (zz9 s) p (dV y) c.toArray,{{_,c8 _ rfl,rfl,rfl},f.isList.push _},λi v z Q2 L B C=>?_,λM N hk=>?_}
 .have g:c[i]?=eW v:=zx6 B;have j:i<bs.length:=by rw [<-a];exact(bD.mp g).1
  let(u,k,d):=rv.get (i:=i) (x:=V.bl bs[i]) (by rw [cz,zzg j];rfl);rw [g] at k;cases k;have e:v=fP.bool bs[i]:=d;rw [e];have m:Q2 ((bs[i]?).getD e6) z:=C;rw [zzg j,Option.getD_some] at m;exact wpAny_truthy_bool m
 .rw [a5,a,range_all];exact{.bl (bs.all id),H,I.kept λb o e=>hk b o (by simp;exact dV (bX e)) (aT _ e),rfl,q}
abbrev SV(z:Str):It:={λi Z=>i<z.cps.size,λi H x a=>a=H/\∃c,z.cps[i]?=eW c/\x=.str {#[c]},λi Z=>z.cps.size<=i}
def FV{P:hF}{w:hG}{K:zz8}{V:hB}(z:Str)(t:Tok)(it:g5)(ty:String)(B:ty="str_ascii_iterator"\/ty="str_iterator"):Turn P w K V (SV z) [it] it (λi h=>h.IsStrIter it ty z t i/\i<=z.cps.size) where
 mem:=by simp
 obj:=λi h st b g=>by have e:b=it:=zx6 g;subst e;let((o,e,c,d),_):=st;exact{o,e,λv z=>by rw [d] at z;cases z}
 keep:=λi h a st k=>{by let((o,e,r),_):=st;exact{o,k it (by simp) o e,r},st.2}
 item:=by
  intro X N O hK m i R s S H E I C st T;subst N O hK;let(D,F,Y,G,L,M):=C it (by simp);have q:i<z.cps.size:=T
  have fin:∀(v:fP) (a:hZ) (f:Nat),SignAt z i v->a.IsStrIter it ty z t (i+1)->(∀b o,b∉[it]->s.heap.get? b=eW o->a.get? b=eW o)->
   ∃u,(eW v:Option fP)=eW u/\zx7 X (letOwnedTupleGo V (.ref it) u) (λ_ W=>∃x U,Inv X R S U W/\RelV x u/\(SV z).PD i H x U/\(W.heap.IsStrIter it ty z t (i+1)/\i+1<=z.cps.size)/\∀b∈[it],U b=eX) E {s with heap:=a,toks:=f}:=by
   intro v a f y p j;let(c,u,m,rfl):=y;have Z:Inv X R S H {s with heap:=a,toks:=f}:=I.turned (λb o g e=>j b o (zx6 g) e) D F G L M;let(o,e,c',d):=id p
   exact{_,rfl,uQ (s:={s with heap:=a,toks:=f}) e c' d (by rcases B with rfl|rfl<;>decide) {.str {#[c]},H,Z,⟨u,rfl⟩,⟨rfl,c,m,rfl⟩,⟨p,q⟩,λb g=>(C b g).1}}
  rcases B with rfl|rfl
  .exact(Walks.strAscii (prog:=X.prog) (w:=X.w) (I.ok.hd m) it z t).item i s _ _ q st.1 λv a f y p j=>fin v a f y p j
  .exact(Walks.strWide (prog:=X.prog) (w:=X.w) (I.ok.hd m) it z t).item i s _ _ q st.1 λv a f y p j=>fin v a f y p j
 done:=by
  intro X N O hK m i R s S H E I C st T;subst N O hK;let(D,F,Y,G,L,M):=C it (by simp);have q:i=z.cps.size:=Nat.le_antisymm st.2 T
  subst q;rcases B with rfl|rfl
  .exact(Walks.strAscii (prog:=X.prog) (w:=X.w) (I.ok.hd m) it z t).done s _ _ st.1 λa f j=>{rfl,I.turned (λb o g e=>j b o (zx6 g) e) D F G L M}
  .exact(Walks.strWide (prog:=X.prog) (w:=X.w) (I.ok.hd m) it z t).done s _ _ st.1 λa f j=>{rfl,I.turned (λb o g e=>j b o (zx6 g) e) D F G L M}
 self:=λA i s Q E st h=>by
  rcases B with rfl|rfl
  .exact wpAny_pyIter_striter_ascii st.1 h
  .exact wpAny_pyIter_striter_wide st.1 h
abbrev VC(a:TE):TI:=λb H R=>a b H λx c=>∃z,x=.str z/\R (SV z) c
def N1{f l:hB}{g:TE}(hl:PE X l g):PI X f l (VC g):=by
 intro i s j H R I h;refine bL (hl i s j H _ I h) λv a c=>?_;let(x,m,d,p,r):=c;let(z,e,q):=r;subst e;let(t,rfl):=p
 have fin:∀ty:String,(ty="str_ascii_iterator"\/ty="str_iterator")->TX X i j f R (.ref (zz9 a)) {a with heap:=a.heap.push {cls:=.type ty,data:=.fields #[.str z t,.int 0 0]}}:=λty u=>by refine{(zz9 a),[(zz9 a)],_,_,m,rfl,d.kept (t':=a.toks) λb o e=>aT _ e,FV z t _ ty u,{{_,c8 _ rfl,rfl,rfl},Nat.zero_le _},λb w=>?_,q};have e:b=(zz9 a):=zx6 w;subst e;exact d.uN (a7 _) (d.aM.fresh (a7 _))
 cases k:z.cps.all (·<128)
 .exact wpAny_pyIter_wide k (fin _ (.inr rfl))
 .exact wpAny_pyIter_ascii k (fin _ (.inl rfl))
def Wo:V->Option Int->Option Int->Hp->VK->Prop:=λx a b H Q=>∃z,x=.str z/\z.length<=h9/\Q (.str (Txt.slice z a b)) H
def OB:B7 X Wo:=by
 intro e s f H x v r w g m y Q I o hs p pu h;let(z,rfl,a,q):=h;let(t,rfl):=o;refine{"str",_,F.slot_str_getitem.lookup,typeIs_str _ _ _,?_};have fin:∀b k,EP X e f Q (.str (Txt.slice z g m) b) {s with toks:=k}:=λb k=>{.str _,H,I.tok k,⟨b,rfl⟩,q}
 cases p with
 |none=>
  cases pu with
  |none=>exact wpAny_getItem_str_slice (l:=eX) (u:=eX) (st:=eX) hs rfl (post_val_or_str {c4 (Txt.slice_le z _ _) a,fin})|int j c=>exact wpAny_getItem_str_slice (l:=eX) (u:=eW (j,c)) (st:=eX) hs rfl (post_val_or_str {c4 (Txt.slice_le z _ _) a,fin})
 |int i d=>
  cases pu with
  |none=>exact wpAny_getItem_str_slice (l:=eW (i,d)) (u:=eX) (st:=eX) hs rfl (post_val_or_str {c4 (Txt.slice_le z _ _) a,fin})|int j c=>exact wpAny_getItem_str_slice (l:=eW (i,d)) (u:=eW (j,c)) (st:=eX) hs rfl (post_val_or_str {c4 (Txt.slice_le z _ _) a,fin})
end L2
namespace HT
open PyProof.Rows
def jc{w:hG}{s:gC}{E:kd}{t d:g5}{f g:fP}{a c:Option Int}{Q:kd}(b:IsTup s.heap t items)(hs:s.heap.IsSliceOf d f g .none)(i:IsPart f a)(pu:IsPart g c)
 (hw:cL items.size 0 a=0/\cL items.size items.size c=items.size) (h:Q (.ref t) s):hD (hI prog w) A (getItem (.ref t) (.ref d)) Q E s:=by
 let(os,e,j,k):=id hs;have m:s.TypeIs (.ref d) "slice":=⟨os,e,j⟩;unfold getItem
 try with_reducible refine wpAny_holding ?_
 first|refine ar (bc ?_)|skip
 refine ar (wpAny_sequenceKey b.typeIs ↑2 ?_);refine ar (wpAny_callSpecial?_slot (name:=Str.ofString "__getitem__") b.typeIs PyProof.Rows.slot_tuple_getitem
  (wpAny_call_entry PyProof.Rows.slot_tuple_getitem b.typeIs entry_tuple_getitem ?_ (args_tuple_getitem _ _)))
 show hD _ _ (ix.Tuple.tupleItemsOf (.ref t)>>=_) _ _ s;refine ar (tupleItemsOf_ b ?_);refine ar (wpAny_typeOf m ?_);rw [if_pos ↑2];refine ar (gy hs i pu ?_);have o:(((cL items.size 0 a:Nat):Int)==0&&(1:Int)==1&&(cL items.size items.size c-cL items.size 0 a)==items.size)=e6:=by rw [hw.1,hw.2];simp
 show hD _ _ (if(((cL items.size 0 a:Nat):Int)==0&&(1:Int)==1&&(cL items.size items.size c-cL items.size 0 a)==items.size)=e6 then _ else _) _ _ s;rw [if_pos o];refine ar (ar (wpAny_typeOf b.typeIs ?_));refine bc ?_;rw [if_pos ↑2]
 first
  |exact ar (wpAny_rule (bc ⟨_,rfl,bc h⟩))
  |exact wpAny_rule (bc ⟨_,rfl,bc h⟩)
  |exact ar (wpAny_rule (ar (bc ⟨_,rfl,bc h⟩)))
end HT
namespace L2
open PySem.Spec PyProof.Rows
def Ju:B7 X (λx c d H Q=>∃a xs,x=.ref a/\gz X.K H a xs/\(HT.cL xs.length 0 c=0/\HT.cL xs.length xs.length d=xs.length)/\Q x H):=by
 intro m s o H x v p t c d u Q I f hs g pu h;let(a,xs,rfl,i,j,q):=h;cases f;let(k,r,e,w):=I.tuple i;have b:k.toArray.size=xs.length:=by rw [a5];exact r.length.symm
 refine{"tuple",_,PyProof.Rows.slot_tuple_getitem.lookup,e.typeIs,?_};exact HT.jc e hs g pu (by rw [b];exact j) {.ref a,H,I,rfl,q}
section
variable{a b:hB}
end
section
variable{κ:Type}[DecidableEq κ]
abbrev lN(a:List (κ×V))(k:κ):Option V:=(a.find? λb=>decide (b.1=k)).map (·.2)
abbrev putK(b:List (κ×V))(k:κ)(v:V):List (κ×V):=
 if(b.any λa=>decide (a.1=k))=e6 then b.map (λa=>if a.1=k then(a.1,v) else a) else b++[(k,v)]
abbrev gc(a:List (κ×V))(k:κ):List (κ×V):=a.filter λb=>decide (b.1≠k)
def lQ{p:κ×V}{r:List (κ×V)}{k:κ}(e:p.1=k):lN (p::r) k=eW p.2:=by simp [lN,List.find?_cons,e]
def lP{p:κ×V}{r:List (κ×V)}{k:κ}(e:¬p.1=k):lN (p::r) k=lN r k:=by simp [lN,List.find?_cons,e]
theorem pE(k:κ):∀a:List (κ×V),(a.any λb=>decide (b.1=k))=(lN a k).isSome
 |[]=>rfl|p::r=>by
  rw [List.any_cons];by_cases e:p.1=k
  .simp! [lQ e,zzh e,Bool.true_or,Option.isSome_some]
  .rw [lP e,zz0 e,Bool.false_or];exact pE k r
def fC(a:List (κ×V))(k:κ)(v:V):(putK a k v).length<=a.length+1:=by
 unfold putK;split
 .rw [zzl];lia
 .rw [bW,bV,List.length_nil];lia
def g7.gu{o:Option V}{u:Option fP}(r:g7 o u):o.isSome=u.isSome:=by
 cases o with
 |none=>cases u with
  |none=>rfl|some _=>exact(show False from r).elim
 |some _=>cases u with
  |none=>exact(show False from r).elim|some _=>rfl
def g7.getD{o:Option V}{u:Option fP}{d:V}{d':fP}(r:g7 o u)(rd:RelV d d'):RelV (o.getD d) (u.getD d'):=by
 cases o with
 |none=>cases u with
  |none=>exact rd|some _=>exact(show False from r).elim
 |some _=>cases u with
  |none=>exact(show False from r).elim|some _=>exact r
def KV.val{c:List (κ×V)}{vs:List (κ×fP)}(r:KV c vs)(k:κ):g7 (lN c k) (valueAt vs k):=by
 unfold KV at r
 induction r with
 |nil=>exact True.intro|@cons p q i qs h t f=>
  let(d,g):=h;by_cases e:p.1=k
  .have a:q.1=k:=d.symm.trans e;have b:valueAt (q::qs) k=eW q.2:=by simp [valueAt,List.find?_cons,a]
   rw [lQ e,b];exact g
  .have a:¬q.1=k:=λz=>e (d.trans z);have b:valueAt (q::qs) k=valueAt qs k:=by simp [valueAt,List.find?_cons,a]
   rw [lP e,b];exact f
def KV.any{b:List (κ×V)}{vs:List (κ×fP)}(r:KV b vs)(k:κ):(b.any λa=>decide (a.1=k))=vs.any λa=>decide (a.1=k):=by
 unfold KV at r
 induction r with
 |nil=>rfl|cons h t c=>rw [List.any_cons,List.any_cons,c,h.1]
def KV.Oc{c:List (κ×V)}{vs:List (κ×fP)}(r:KV c vs)(k:κ){y:V}(d:RelV y u):
 KV (c.map λa=>if a.1=k then(a.1,y) else a) (vs.map λa=>if a.1=k then(a.1,u) else a):=by
 unfold KV at r⊢
 induction r with
 |nil=>exact .nil|@cons p q i qs h t f=>
  rw [a8,a8];refine .cons ?_ f;let(b,g):=h;by_cases e:p.1=k
  .rw [if_pos e,if_pos (b.symm.trans e)];exact⟨b,d⟩
  .rw [if_neg e,if_neg (λz=>e (b.trans z))];exact⟨b,g⟩
def KV.put{a:List (κ×V)}{vs:List (κ×fP)}(r:KV a vs)(k:κ){y:V}(b:RelV y u):KV (putK a k y) (stored vs k u):=by
 unfold putK stored;rw [r.any k];by_cases e:(vs.any λc=>decide (c.1=k))=e6
 .rw [if_pos e,if_pos e];exact r.Oc k b
 .rw [if_neg e,if_neg e];exact Paired.snoc r ⟨rfl,b⟩
def KV.drop{d:List (κ×V)}{vs:List (κ×fP)}(r:KV d vs)(k:κ):KV (gc d k) (without vs k):=by
 unfold KV at r⊢;unfold gc without
 induction r with
 |nil=>exact .nil|@cons p q j qs h t f=>
  let(c,g):=h;rw [ew,ew];by_cases e:p.1=k
  .have a:¬decide (p.1≠k)=e6:=by simp [e]
   have b:¬decide (q.1≠k)=e6:=by simp [c.symm.trans e]
   rw [if_neg a,if_neg b];exact f
  .have i:¬q.1=k:=λz=>e (c.trans z);have a:decide (p.1≠k)=e6:=by simp [e]
   have b:decide (q.1≠k)=e6:=by simp [i]
   rw [if_pos a,if_pos b];exact .cons ⟨c,g⟩ f
def KV.keys{a:List (κ×V)}{vs:List (κ×fP)}(r:KV a vs):a.map (·.1)=vs.map (·.1):=by
 unfold KV at r
 induction r with
 |nil=>rfl|cons h t b=>rw [a8,a8,b,h.1]
def KV.length{a:List (κ×V)}{vs:List (κ×fP)}(r:KV a vs):a.length=vs.length:=Paired.length r
def CG(a:List (κ×V))(k:κ):(gc a k).length<=a.length:=List.length_filter_le _ _
end
def my{P:hF}{w:hG}{k:Key}(r:RelV (kV k) u):(br P w).is k u=e6:=by
 cases k with
 |inl i=>let(t,e):=(show∃t,u=fP.int i t from r);subst e;exact vb P w i t|inr x=>let(t,e):=(show∃t,u=fP.str x t from r);subst e;exact vc P w x t
theorem qM{P:hF}{w:hG}:∀{ks:List Key} {us:List fP},Vals (ks.map kV) us->ItemsAre (br P w) ks us
 |[],_,r=>by rw [List.map_nil] at r;cases r;exact .nil
 |k::ks,_,r=>by
  rw [a8] at r;cases r with
  |cons h t=>exact .cons (my h) (qM t)
noncomputable abbrev KT(H:Hp):List (List Key×V)->List (List Key×g5×fP)->Prop:=Paired λp q=>p.1=q.1/\H q.2.1=eW (.tup (p.1.map kV))/\RelV p.2 q.2.2
def KT.val{c:List (List Key×V)}{xs:List (List Key×g5×fP)}(r:KT H c xs)(k:List Key):g7 (lN c k) ((atKey xs k).map (·.2)):=by
 induction r with
 |nil=>exact True.intro|@cons p q i qs h t f=>
  let(d,_,g):=h;by_cases e:p.1=k
  .have a:q.1=k:=d.symm.trans e;have b:atKey (q::qs) k=eW q.2:=by simp [atKey,List.find?_cons,a]
   rw [lQ e,b];exact g
  .have a:¬q.1=k:=λz=>e (d.trans z);have b:atKey (q::qs) k=atKey qs k:=by simp [atKey,List.find?_cons,a]
   rw [lP e,b];exact f
def KT.Oc{c:List (List Key×V)}{xs:List (List Key×g5×fP)}(r:KT H c xs)(k:List Key){y:V}(f:RelV y u):
 KT H (c.map λb=>if b.1=k then(b.1,y) else b) (xs.map (putAt k u)):=by
 induction r with
 |nil=>exact .nil|@cons p q j qs h t g=>
  rw [a8,a8];refine .cons ?_ g;let(a,d,i):=h;unfold putAt;by_cases e:p.1=k
  .rw [if_pos e,if_pos (a.symm.trans e)];exact⟨a,d,f⟩
  .rw [if_neg e,if_neg (λz=>e (a.trans z))];exact⟨a,d,i⟩
def KT.put{a:List (List Key×V)}{xs:List (List Key×g5×fP)}(r:KT H a xs)(k:List Key){b:g5}{y:V}(d:H b=eW (.tup (k.map kV)))(c:RelV y u):
 KT H (putK a k y) (storedH xs k b u):=by
 have e:(a.any λf=>decide (f.1=k))=(atKey xs k).isSome:=by rw [pE,(r.val k).gu,Option.isSome_map]
 unfold putK storedH;rw [e];by_cases q:(atKey xs k).isSome=e6
 .rw [if_pos q,if_pos q];exact r.Oc k c
 .rw [if_neg q,if_neg q];exact Paired.snoc r ⟨rfl,d,c⟩
def KT.keeps{a:Hp}{c:List (List Key×V)}{xs:List (List Key×g5×fP)}(r:KT H c xs)(d:∀b ys,H b=eW (.tup ys)->a b=eW (.tup ys)):KT a c xs:=
 Paired.Io r λZ Z z=>{z.1,d _ _ z.2.1,z.2.2}
section
variable{P:hF}{w:hG}
def Kw{u:HO}(ok:ft P w H h)(e:Rd H a u):bT P w H h a u:=e.ok ok
def kN{b:List (Key×V)}(ok:ft P w H h)(e:Rd H a (.dK b)):b.length<=h9/\(a==sysModules)=fx/\∃vs,KV b vs/\h.DictOf (br P w) a vs:=
 show bT P w H h a (.dK b) from Kw ok e
def CA{b:List (Key×V)}(ok:ft P w H h)(e:H a=eW (.dK b)):b.length<=h9/\(a==sysModules)=fx/\∃vs,KV b vs/\h.DictOf (br P w) a vs:=kN ok (.inl e)
def oC{ks:List Key}(ok:ft P w H h)(e:H a=eW (.tup (ks.map kV))):(tupleKind (br P w)).is h ks a:=by let(_,b,r,o,c,d,n,f):=(show bT P w H h a (.tup (ks.map kV)) from ok a _ e);exact{o,b.toArray,n,c,d,f,by simpa using qM r}
def uI{c:List (List Key×V)}(ok:ft P w H h)(e:Rd H a (.dT c)):c.length<=h9/\(a==sysModules)=fx/\
 ∃xs,KT H c xs/\h.DictOfH (tupleKind (br P w)) a xs:=by
 let(z,y,xs,r,o,f,g,i,j,k,s,u):=(show bT P w H h a (.dT c) from Kw ok e);refine{z,y,xs,r,o,f,g,i,j,k,s,λx b=>?_,u}
 have all:∀{l:List (List Key×V)} {m:List (List Key×g5×fP)},KT H l m->∀x∈m,(tupleKind (br P w)).is h x.1 x.2.1:=by
  intro l m q
  induction q with
  |nil=>intro x b;exact nomatch b|@cons p q B qs d t A=>
   intro x b;rcases d8.mp b with e|b
   .subst e;exact oC ok (by rw [<-d.1];exact d.2.1)
   .exact A x b
 exact all r x b
def Qx{b:List (List Key×V)}(ok:ft P w H h)(e:H a=eW (.dT b)):b.length<=h9/\(a==sysModules)=fx/\
 ∃xs,KT H b xs/\h.DictOfH (tupleKind (br P w)) a xs:=uI ok (.inl e)
end
def GJ(H:Hp)(a:g5)(y:V)(r:Option V):Prop:=
 (∃c k,Rd H a (.dK c)/\y=kV k/\r=lN c k)\/∃c k b,Rd H a (.dT c)/\y=.ref b/\H b=eW (.tup (k.map kV))/\r=lN c k
def wg(H:Hp)(a:g5)(y v:V)(d:Hp):Prop:=
 (∃c k,H a=eW (.dK c)/\y=kV k/\c.length<h9/\d=upd H a (.dK (putK c k v)))\/
 ∃c k b,H a=eW (.dT c)/\y=.ref b/\H b=eW (.tup (k.map kV))/\c.length<h9/\d=upd H a (.dT (putK c k v))
def wg.k{b:List (Key×V)}{k:Key}(e:H a=eW (.dK b))(hl:b.length<h9):wg H a (kV k) v (upd H a (.dK (putK b k v))):=.inl ⟨b,k,e,rfl,hl,rfl⟩
section
variable{s:gC}{y:V}{r:fP}{o:Option V}{E:kd}
def Inv.big(I:zv1 s):sysModules<(zz9 s):=by have h:iv<(zz9 s):=(I.mod.glob.keeps I.bk).lt;exact Nat.lt_trans ↑2 h
def UA{Q:kd}(j:A.units+1<cLine)(I:zv1 s)(g:GJ H a y o)(i:RelV y u)(h:∀s',Inv X aa σ H s'->Q (.bool o.isSome) s'):
 hD (hI X.prog X.w) A (compareOp .In u (.ref a)) Q E s:=by
 rcases g with⟨m,k,e,d,l⟩|⟨m,k,b,e,d,p,l⟩
 .subst d;let(z,hd,t,c,f):=kN I.aM e;refine wpAny_in_of (my i) hd f.mapOf ?_;rw [<-(c.val k).gu,<-l];exact h _ (I.tok _)
 .subst d;cases(show u=fP.ref b from i);let(z,hd,xs,c,f):=uI I.aM e;refine wpAny_in_heap (tupleKind_room_in1 j) (oC I.aM p) hd f ?_;have q:=(c.val k).gu;rw [Option.isSome_map] at q;rw [<-q,<-l];exact h _ (I.tok _)
def Hf{Q:kd}(j:A.units+1<cLine)(I:zv1 s)(g:GJ H a y o)(i:RelV y u)(h:∀s',Inv X aa σ H s'->Q (.bool (!o.isSome)) s'):
 hD (hI X.prog X.w) A (compareOp .NotIn u (.ref a)) Q E s:=by
 rcases g with⟨m,k,e,d,l⟩|⟨m,k,b,e,d,p,l⟩
 .subst d;let(z,hd,t,c,f):=kN I.aM e;refine wpAny_notIn_of (my i) hd f.mapOf ?_;rw [<-(c.val k).gu,<-l];exact h _ (I.tok _)
 .subst d;cases(show u=fP.ref b from i);let(z,hd,xs,c,f):=uI I.aM e;refine wpAny_notIn_heap (tupleKind_room_in1 j) (oC I.aM p) hd f ?_;have q:=(c.val k).gu;rw [Option.isSome_map] at q;rw [<-q,<-l];exact h _ (I.tok _)
theorem kL{t':Nat}{ob:HO}(I:zv1 s)(c:PN (H a))(hs:hZ.SameBut a s.heap h')(he:∃q,h'.get? a=eW q)(new:bT X.prog X.w (upd H a ob) h' a ob):
 Inv X aa σ (upd H a ob) {s with heap:=h',toks:=t'}:=
 I.write (x:=a) (e:=a) c (.inl rfl) (λb q d z=>(hs.2 b d).trans z) he new
def Cz{P:hF}{w:hG}{d:Hp}{b:List (Key×V)}{vs:List (Key×fP)}(z:b.length<=h9)(hd:(a==sysModules)=fx)(c:KV b vs)(dd:h'.DictOf (br P w) a vs):
 bT P w d h' a (.dK b):=⟨z,hd,vs,c,dd⟩
def qD{C:Hp}{Q:Unit->gC->Prop}(L:A.units+1<cLine)(I:zv1 s)(g:wg H a y v C)(D:RelV y u)(rv:RelV v r)(h:∀s',Inv X aa σ C s'->Q () s'):
 hD (hI X.prog X.w) A (setItem (.ref a) u r) Q E s:=by
 rcases g with⟨f,k,e,m,l,p⟩|⟨f,k,b,e,m,F,l,p⟩
 .subst m p;let(z,hd,M,d,t):=CA I.aM e;have B:M.length<=sizeLine:=by rw [<-d.length];exact z
  have hl:(putK f k v).length<=sizeLine:=by have:=fC f k v;lia
  refine wpAny_setItem_pairs (hsz:=B) (my D) t λG i hs=>h _ ?_;have N:∃q,G.get? a=eW q:=let⟨q,_,_,j,_⟩:=i;⟨q,j⟩;exact kL I (by rw [e];exact True.intro) hs N (Cz hl hd (d.put k rv) i)
 .subst m p;cases(show u=fP.ref b from D);let(z,hd,xs,d,t):=Qx I.aM e;have B:xs.length<=sizeLine:=by rw [<-Paired.length d];exact z
  have hl:(putK f k v).length<=sizeLine:=by have:=fC f k v;lia
  refine wpAny_setItem_heap (hsz:=B) (tupleKind_room_in1 L) (oC I.aM F) t λG i hs=>h _ ?_;let(q,O,P,j,R,S,T,_,U):=i;refine kL I (by rw [e];exact True.intro) hs ⟨q,j⟩ {hl,hd,_,(d.put k F rv).keeps λc V K=>?_,q,O,P,j,R,S,T,U};rw [ai (ve K e nofun)];exact K
variable{aB:List (Key×V)}{k:Key}
def Qw{v:V}{more:List fP}{Q:kd}(I:zv1 s)(e:H a=eW (.dK aB))(d:RelV (kV k) u)(l:lN aB k=eW v)(hm:more=[]\/∃x,more=[x])
 (h:∀c s',Inv X aa σ (upd H a (.dK (gc aB k))) s'->RelV v c->Q c s'):hD (hI X.prog X.w) A (call (.builtin "dict.pop") (.ref a::u::more)) Q E s:=by
 let(z,hd,f,b,g):=CA I.aM e;let(c,m,p):=g7.some_of (v:=v) (o:=valueAt f k) (by rw [<-l];exact b.val k)
 have B:(keyPart u).isSome=e6:=by
  cases k with
  |inl i=>let(t,q):=(show∃t,u=fP.int i t from d);subst q;rfl|inr x=>let(t,q):=(show∃t,u=fP.str x t from d);subst q;rfl
 have C:argsOk "dict.pop" {.ref a::u::more,[]}:=by
  rcases hm with q|⟨x,q⟩
  .subst q;exact PySem.F.args_dict_pop_2 _ _
  .subst q;exact PySem.F.args_dict_pop_3 _ _ _
 refine call_meetsIn PySem.F.slot_dict_pop g.typeIs PySem.F.entry_dict_pop C (meets_dict_pop_there (br X.prog X.w) a (my d) more hm B)
  {f,c,g,by rw [<-b.length];exact z,m,λD j hs=>h c _ ?_ p}
 have G:∃q,D.get? a=eW q:=let⟨q,_,_,K,_⟩:=j;⟨q,K⟩;exact kL I (by rw [e];exact True.intro) hs G (Cz (c4 (CG aB k) z) hd (b.drop k) j)
def Qv{Q:kd}(I:zv1 s)(e:Rd H a (.dK aB))(h:∀t s',Inv X aa σ H s'->Q (.int aB.length t) s'):hD (hI X.prog X.w) A (call (.builtin "len") [.ref a]) Q E s:=by let(z,hd,d,b,c):=kN I.aM e;refine call_len_dict hd c (by rw [<-b.length];rw [sizeLine_eq] at z;lia) ?_;rw [<-b.length];exact h _ _ (I.tok _)
end
abbrev Si(td ty d:TE):TS:=λD b H=>d b H λv e=>td b e λx f=>ty b f λy g=>∃a c,x=.ref a/\wg g a y v c/\D.nx b c
section
variable{o i value:hB}{pos':Pos}{td ty tv:TE}
def Jj(e:X.A.units+1<cLine)(f:PE X o td)(j:PE X i ty)(k:PE X value tv)(hs:swapsWith value (eW (.Subscript o i pos')) pos.line X.env=pure fx):
 PS X (.Assign [.Subscript o i pos'] value pos) (Si td ty tv):=by
 intro c s b H D I h;refine wpAny_Assign_Subscript (bL (k c s b H _ I h) λr m ⟨v,H1,p,rv,q⟩=>bL (f c m b H1 _ p q) λu t ⟨x,w,z,B,C⟩=>bL (j c t b w _ z C) λM N d=>?_) hs;let(y,O,E,F,a,G,ex,g,K):=d;subst ex;obtain rfl:u=fP.ref a:=B;exact qD e E g F rv λP L=>⟨b,G,L,K⟩
end
theorem uF{P:hF}{w:hG}(h:hZ)(a:sysModules<h.objs.size):bT P w H (h.push {cls:=.type "dict",data:=.dict #[]}) h.objs.size (.dK []):=
 {Nat.zero_le _,beq_eq_false_iff_ne.mpr (Ne.symm (dV a)),[],.nil,hZ.DictOf.new h}
abbrev OO:TE:=λZ H Q=>∀p,H p=eX->Q (.ref p) (upd H p (.dK []))
theorem vw:PE X (.Dict [] [] pos) OO:=λb s c H Q I h=>wpAny_Dict_empty {.ref (zz9 s),_,I.laid (a:=(zz9 s)) (o:=.dK []) (t':=s.toks) (λZ Z q=>aT _ q) (a7 _) (uF s.heap I.big),rfl,h _ (I.aM.fresh (a7 _))}
abbrev iE(c more:List (Key×V)):List (Key×V):=more.foldl (λa b=>putK a b.1 b.2) c
structure M1(X:Cx)(o:hB)(m:Str)(apos:Pos)(e:hB)(bx:Pos):Prop where
 base:attributeBase o m X.env (eval o X.env)=eval o X.env
 Tc:((backTo bx (starEach [e] X.env)).all (λx=>!x.1)&&(backToKw bx (keywordEach [] X.env)).all (λx=>x.1.isSome)
  &&decide (([e]:List hB).length+([]:List Keyword).length+(if([]:List Keyword).isEmpty then 0 else 1)<30))=e6
 line:(apos.endLine==bx.line)=e6
 trees:backTo bx (starEach [e] X.env)=[(fx,eval e X.env)]
def B6(H:Hp)(a:g5):Prop:=(∃b,Rd H a (.dK b))\/∃b,Rd H a (.dT b)
def DU{h:St}{s:gC}(I:Inv X aa h H s)(d:B6 H a):
 s.TypeIs (.ref a) "dict"/\(∀b,fP.ref a=.ref b->∃ob,s.heap.get? b=eW ob/\ob.dict=eX)/\(a==sysModules)=fx:=by
 rcases d with⟨i,e⟩|⟨i,e⟩
 .let(_,hd,j,_,c):=kN I.aM e;refine{c.typeIs,λb q=>?_,hd};cases q;let(ob,_,_,f,g,_):=c;exact⟨ob,f,g.2.1⟩
 .let(_,hd,xs,_,c):=uI I.aM e;refine{c.typeIs,λb q=>?_,hd};cases q;let(ob,_,_,f,g,_):=c;exact⟨ob,f,g.2.1⟩
section
variable{s:gC}{y:V}{o:Option V}{E:kd}
def Lp{Q:kd}(m:A.units+1<cLine)(I:zv1 s)(g:GJ H a y o)(i:RelV y u)(h:∀j s',Inv X aa σ H s'->RelV (o.getD .aP) j->Q j s'):
 hD (hI X.prog X.w) A (call (.builtin "dict.get") [.ref a,u]) Q E s:=by
 rcases g with⟨p,k,e,f,l⟩|⟨p,k,b,e,f,q,l⟩
 .subst f;let(z,hd,r,c,d):=kN I.aM e;refine call_meetsIn PySem.F.slot_dict_get d.typeIs PySem.F.entry_dict_get (PySem.F.args_dict_get_2 _ _) (meets_dict_get (br X.prog X.w) a (my i) hd) {_,d.mapOf,h _ _ (I.tok _) ?_};rw [l];exact(c.val k).getD rfl
 .subst f;cases(show u=fP.ref b from i);let(z,hd,xs,c,d):=uI I.aM e;refine call_meetsIn PySem.F.slot_dict_get d.typeIs PySem.F.entry_dict_get (PySem.F.args_dict_get_2 _ _) (meetsH_dict_get (tupleKind (br X.prog X.w)) a b hd) {tupleKind_room_in1 m,k,xs,oC I.aM q,d,h _ _ (I.tok _) ?_};rw [l];exact(c.val k).getD rfl
end
abbrev ON(td ty:TE):TE:=λb H Q=>td b H λx c=>∃a,x=.ref a/\B6 c a/\ty b c λy d=>∃o,GJ d a y o/\Q (o.getD .aP) d
abbrev OP(td ty:TE):TE:=λc H Q=>td c H λx d=>∃a,x=.ref a/\B6 d a/\ty c d λy e=>∃b k v,e a=eW (.dK b)/\y=kV k/\lN b k=eW v/\Q v (upd e a (.dK (gc b k)))
section
variable{o:hB}{apos bx:Pos}{td ty:TE}
def EO(j:X.A.units+1<cLine)(k:PE X o td)(he:PE X e ty)(m:M1 X o "get" apos e bx):PE X (.Call (.Attribute o "get" apos) [e] [] bx) (ON td ty):=by intro c s f H Q I h;refine wpAny_Call_method m.base m.Tc m.line PySem.F.plainAttrs_dict PySem.F.slot_dict_get PySem.F.type_dict_get (bL (k c s f H _ I h) λu p b=>?_);let(x,q,i,r,a,ex,d,t):=b;subst ex;obtain rfl:u=fP.ref a:=r;let(w,t2,_):=DU i d;refine{w,t2,?_};rw [m.trees];refine Calls.callWith_builtin rfl (Calls.evalArgs_plain (Calls.spliced_cons (bL (he c p f q _ i t) λK L ⟨y,z,B,C,M,g,D⟩=>Calls.spliced_nil ?_)));exact Lp j B g C λN O E G=>{_,z,E,G,D}
def ER(i:PE X o td)(he:PE X e ty)(m:M1 X o "pop" apos e bx):PE X (.Call (.Attribute o "pop" apos) [e] [] bx) (OP td ty):=by intro c s f H Q I h;refine wpAny_Call_method m.base m.Tc m.line PySem.F.plainAttrs_dict PySem.F.slot_dict_pop PySem.F.type_dict_pop (bL (i c s f H _ I h) λu j b=>?_);let(x,p,g,q,a,ex,d,r):=b;subst ex;obtain rfl:u=fP.ref a:=q;let(t,t2,_):=DU g d;refine{t,t2,?_};rw [m.trees];refine Calls.callWith_builtin rfl (Calls.evalArgs_plain (Calls.spliced_cons (bL (he c j f p _ g r) λG K ⟨y,L,w,z,M,k,v,A,B,l,C⟩=>Calls.spliced_nil ?_)));subst B;exact Qw w A z l (.inl rfl) λN O D E=>{v,_,D,E,C}
end
end L2
namespace Att
open PySem.W PySem.Calls PyProof.Rows
end Att
namespace L2
open PySem.Spec PyProof.Rows
section
variable{κ:Type}[DecidableEq κ]
def AG{p:κ×V}{r:List (κ×V)}{k:κ}(e:p.1=k):gc (p::r) k=gc r k:=by unfold gc;rw [ew,if_neg (by simp [e])]
def AE{p:κ×V}{r:List (κ×V)}{k:κ}(e:¬p.1=k):gc (p::r) k=p::gc r k:=by unfold gc;rw [ew,if_pos (by simp [e])]
end
open PySem.W (hideAll hideAll_get of_hideAll funFrames_hide)
structure GN(P:hF)(w:hG)(outer:List Env)(H:Hp)(s:gC)(E:XK)(a C t:g5)(vs:List fP)(H':Hp)(B:hZ)(s':gC):Prop where
 os:s'.os=s.os
 bare:AllBare s'.gens
 aM:ft P w H' B
 C6:hZ.FlyingW B outer a (.ref C) (.ref t) s'.heap
 tn:B.get? t=eX
 tup:s'.heap.TupAt t vs
 ff:∀b o,s.heap.get? b=eW o->H b=eX->b∉fv outer->B.get? b=eW o
 c9:∀b o,s.heap.get? b=eW o->b∉fv outer->∃o',B.get? b=eW o'
 un:Un (fv outer) [] H H' s.heap s'.heap
 ends:E (.ref C) (eW a) H'
abbrev dC(P:hF)(w:hG):zX:=λouter H s E e b=>∃a C t c d B,e=.ref a/\GN P w outer H s E a C t c d B b
section
variable{P:hF}{w:hG}{K:zz8}{scope:hX}{f:g5}{cd:fP}{s0:gC}{E:XK}
def cR{a:St}{s:gC}(I:Inv X aa a H s){b:g5}(hl:X.env.locals=X.s₀.heap.objs.size)(q:X.s₀.heap.get? b=eW o)(c:b∉X.fs):b∉fv X.stack:=λz=>by
 rcases d8.mp (I.mi b z) with e|e
 .rw [hl] at e;exact absurd (bX q) (by rw [e];exact Nat.lt_irrefl _)
 .exact c e
def RR:Passes (dC P w) (zv0 E) E:=by
 rintro R σ H s e S I ⟨a,C,t,r,y,B,rfl,F⟩
 have nx:∀b:g5,b∉(zv0 E).ex:=λb z=>nomatch (show b∈([]:List g5) from z);have ff:∀b o,s0.heap.get? b=eW o->H0 b=eX->b∉fv outer->B.get? b=eW o:=λb o q n c=>F.ff b o (I.base.keep b o q n c (nx b)) (I.base.free b o q n (nx b)) (cR I rfl q c);have c9:∀b o,s0.heap.get? b=eW o->b∉fv outer->∃g,B.get? b=eW g:=λb o q c=>by let(o1,d):=I.base.there b o q (nx b);exact F.c9 b o1 d (cR I rfl q c)
 refine wpAny_leaves_onW I.ok.frames rfl F.C6 λD j m=>{a,C,t,r,y,B,rfl,?_};have slot:∀b o,s0.heap.get? b=eW o->H0 b=eX->b∈fv outer->∃h,D.get? b=eW {o with slots:=h}:=λb o q n c=>by let(h,d):=I.base.slot b o q n c (nx b);let(G,i):=F.un.any d (I.base.free b o q n (nx b)) nofun;let(_,g,p,hd):=F.C6.2.2.1.mem (b:=b) (et.mpr (let⟨v,L,M⟩:=et.mp c;{v,.tail _ L,M}));rw [i] at p;cases p;let(k,O):=m b _ i hd;exact⟨k,O⟩
 refine{F.os.trans I.os,F.bare,F.aM,j,F.tn,F.tup.of_slots m,ff,c9,{λb o q n c Z=>j.1 _ _ (ff b o q n c),λb o q n c Z=>slot b o q n c,λb o q n Z=>?_,λb o q Z=>?_,λb xs q=>F.un.hV _ _ (I.base.hV _ _ q),λb o u q=>F.un.gf _ _ _ (I.base.gf _ _ _ q),λb Q q=>?_},F.ends}
 .let(h,d):=I.base.any q n (nx b);exact F.un.free b _ d (I.base.free b o q n (nx b)) nofun
 .by_cases c:b∈fv outer
  .let(h,d):=slot b o q (I.ok.wW b c) c;exact{_,d}
  .let(g,d):=c9 b o q c;exact{g,j.1 _ _ d}
 .let(m1,d):=I.base.gS b Q q;let(m2,i):=F.un.gS b _ d;exact{m1++m2,by rw [<-Array.append_assoc];exact i}
def Oa{D:St}{s:gC}{g:hZ}{e C:g5}(I:Inv (zv0 E) aa D H s)
 (y:hZ.MadeExcOf s.heap g e (.ref C) us) (F:E (.ref C) (eW e) H):(zv0 E).xe (.ref e) {s with heap:=g}:=by
 have nx:∀b:g5,b∉(zv0 E).ex:=λb z=>nomatch (show b∈([]:List g5) from z);have G:∀env∈(zv0 E).stack,∀b,env.frame=eW b->b∈fv (zv0 E).stack:=λenv L b a=>et.mpr ⟨env,L,a⟩;refine wpAny_leaves_madeW (h:=s.heap) I.ok.frames rfl (λb o q=>of_hideAll _ q) (funFrames_hide I.stack G) y λM t k O Q R=>{e,C,t,us,H,hideAll s.heap (fv (zv0 E).stack),rfl,?_};have ff:∀b o,s0.heap.get? b=eW o->H0 b=eX->b∉fv outer->(hideAll s.heap (fv (zv0 E).stack)).get? b=eW o:=λb o q n a=>hideAll_get _ (I.base.keep b o q n a (nx b)) (cR I rfl q a);have c9:∀b o,s0.heap.get? b=eW o->b∉fv outer->∃i,(hideAll s.heap (fv (zv0 E).stack)).get? b=eW i:=λb o q a=>by let(o1,d):=I.base.there b o q (nx b);exact{o1,hideAll_get _ d (cR I rfl q a)}
 have slot:∀b o,s0.heap.get? b=eW o->H0 b=eX->b∈fv outer->∃m,M.get? b=eW {o with slots:=m}:=λb o q n a=>by let(m,d):=I.base.slot b o q n a (nx b);let(_,i,B,hd):=I.stack.mem (b:=b) (et.mpr (let⟨v,g,S⟩:=et.mp a;{v,.tail _ g,S}));rw [d] at B;cases B;let(p,T):=R b _ (y.keeps _ _ d) hd;exact⟨p,T⟩
 refine{I.os,I.bare,λb o q=>?_,k,Q,O,ff,c9,{λb o q n a Z=>k.1 _ _ (ff b o q n a),λb o q n a Z=>slot b o q n a,λb o q n Z=>I.base.free b o q n (nx b),λb o q Z=>?_,I.base.hV,I.base.gf,I.base.gS},F}
 .refine(I.aM b o q).fT (λc v u r=>hideAll_get _ r λz=>?_) (λZ q=>q) λZ Z q=>q;have j:=I.nE c z
  rcases u with rfl|u
  .rw [q] at j;cases j
  .rw [u] at j;cases j
 .by_cases a:b∈fv outer
  .let(m,d):=slot b o q (I.ok.wW b a) a;exact{_,d}
  .let(i,d):=c9 b o q a;exact{i,k.1 _ _ d}
end
def mH{P:hF}{w:hG}{o:HO}(x:bT P w H h a o):∃b,h.get? a=eW b:=by
 cases o with
 |lst xs=>let(_,_,_,_,e):=x;exact{_,e}|tup xs=>let(_,_,_,o,e,_):=x;exact{_,e}|dK c=>let(_,_,_,_,o,_,_,e,_):=x;exact{_,e}|dT c=>let(_,_,_,_,o,_,_,e,_):=x;exact{_,e}|set S n=>let(o,_,_,_,e,_):=x;exact{_,e}|ins C dx fs=>let(_,_,_,e,_):=x;exact{_,e}|own y=>exact x|xd fs=>let(_,(_,_,_,e,_),_):=x;exact{_,e}|sX lo d=>let(_,_,_,e):=x;exact{_,e}|bR ob u=>let(e,_):=x;exact{_,e}|gA g=>exact{_,x}|met f y=>exact{_,x}|ext i=>exact x.2.1
abbrev OT(C:g5)(E:XK)(b:TA):TS:=λZ c H=>b c H λd a=>d.length<=h9/\∀e,a e=eX->E (.ref C) (eW e) a
section
variable{P:hF}{w:hG}{K:zz8}{scope:hX}{f:g5}{cd:fP}{s0:gC}{E:XK}
theorem Ff{C:g5}{u b B:String}{bm:List fP}{a:hB}{rest:List hB}{d:Pos}{j:TA}(F:Gl (zv0 E) x)(O:OwnCls x C bm b mg base)(k:ExcBaseFacts u b B bm)
 (G:PA (zv0 E) (a::rest) j)
 (he:starEach (a::rest) (zv0 E).env=(fx,eval a (zv0 E).env)::starEach rest (zv0 E).env:=by rfl)
 (L:(backTo d (starEach rest (zv0 E).env)).any (·.1)=fx:=by rfl) (hd:(x==(zu 23:Str))=fx:=by decide) (M:A.handled.isNone=e6):
 PS (zv0 E) (.Raise (eW (.Call (.Name x np) (a::rest) [] d)) eX pos) (OT C E j):=by
 intro Q s R H D I h;let(S,U,nm,q,bs,hdct,sn,sub,ab,col,dd,k0,k1,k2,k3,k5,mN,hC,hN,g,T):=O.obj
 refine wpAny_Raise_call_subT (C:=C) (nm:=nm) (q:=q) (N:=U) (bs:=bs) (bm:=S) (hdct:=hdct) (sn:=sn) (sub:=sub) (ab:=ab) (col:=col) (dd:=dd) (k0:=k0) (k1:=k1) (k2:=k2) (k3:=k3) (k5:=k5)
  k (mN:=mN) (T.hasType k.hasBase) (I.ok.hd M) (by rw [he];show(fx||(backTo d (starEach rest (zv0 E).env)).any (·.1))=fx;rw [L];rfl) g (dX I F O.bound {rfl,?_} hd)
 have m:=G d Q s R H _ I h;rw [he] at m⊢;refine Calls.evalArgs_plain (wpAny_mono m (λY V i=>?_) λ_ _ y=>y);let(Z,W,c,rv,hl,X):=i;refine{rfl,by rw [<-rv.length];exact hl,c.bk _ _ hC,hN.keeps c.bk,T.keeps c.bk,λh1 e p=>Oa c p (X e ?_)}
 cases z:W e with
 |none=>rfl|some o=>
  obtain⟨r,t⟩:∃r,V.heap.get? e=eW r:=by exact mH (c.aM _ _ z)
  rw [p.new] at t;cases t
end
abbrev mQ(a C:g5):HO:=.ext λh=>∃ob b,h.get? a=eW ob/\ob.cls=.ref C/\ob.data=.fields b
section
variable{P:hF}{w:hG}
def GN.fresh{s s':gC}{E:XK}{C t:g5}{vs:List fP}{b:Hp}{B:hZ}(F:GN P w outer H s E a C t vs b B s'):b a=eX:=by
 cases z:b a with
 |none=>rfl|some o=>let(d,c):=mH (F.aM _ _ z);rw [F.C6.2.1] at c;cases c
def Inv.Co{K:St}{s s':gC}{E:XK}{C t:g5}{vs:List fP}{y:Hp}{B:hZ}{tk:Nat}(I:Inv X aa K H s)(F:GN X.prog X.w X.stack H s E a C t vs y B s')
 (hf:hZ.FlyingW B X.stack a (.ref C) (.ref t) h) (hs:s'.heap.UpToSlots h):Inv X aa K (upd y a (mQ a C)) {s' with heap:=h,toks:=tk}:=by
 have p:=F.fresh;let(L,Q,A,R,M,_):=hf.first;have frame:∀b,b∈fv X.stack->∃o,h.get? b=eW o/\∀vs,o.data≠.fields vs:=λb e=>(hf.2.2.1.mem e).2
 have ne:∀b o,s.heap.get? b=eW o->b≠a:=λb o q z=>by
  subst z;by_cases e:b∈fv X.stack
  .let(j,i,hd):=frame b e;rw [A] at i;cases i;exact hd _ M
  .let(j,i):=F.c9 b o q e;rw [F.C6.2.1] at i;cases i
 have slot:∀b o,s.heap.get? b=eW o->H b=eX->b∈fv X.stack->∃S,h.get? b=eW {o with slots:=S}:=λb o q n e=>by let(T,N):=F.un.any q n nofun;let(_,j,O,hd):=F.C6.2.2.1.mem (b:=b) e;rw [N] at O;cases O;let(D,U):=hs b _ N hd;exact⟨D,U⟩
 have un:Un (fv X.stack) [] H (upd y a (mQ a C)) s.heap h:=by
  refine{λb o q n e _=>hf.1 _ _ (F.ff b o q n e),λb o q n e _=>slot b o q n e,λb o q n _=>?_,λb o q _=>?_,λb xs q=>?_,λb o u q=>?_,λb V q=>?_}
  .rw [ai (ne b o q)];exact F.un.free b o q n nofun
  .by_cases e:b∈fv X.stack
   .let(j,i,_):=frame b e;exact⟨j,i⟩
   .let(j,f):=F.c9 b o q e;exact{j,hf.1 _ _ f}
  .have f:=F.un.hV b xs q;rw [ai (bH f p)];exact f
  .have f:=F.un.gf b o u q;rw [ai (bH f p)];exact f
  .let(m,f):=F.un.gS b V q;exact{m,by rw [ai (bH f p)];exact f}
 have aM:ft X.prog X.w (upd y a (mQ a C)) h:=λb o q=>by
  by_cases e:b=a
  .subst e;rw [aq] at q;cases q;exact{⟨L,Q,A,R,M⟩,⟨L,A⟩,λZ h2 ⟨ob,vs,W,Y,e3⟩ k=>{ob,vs,k _ W,Y,e3}}
  .rw [ai e] at q;exact(F.aM b o q).fT (λc v hc r=>hf.1 _ _ r) (λc r=>by rw [ai (bH r p)];exact r) λc xs r=>by rw [ai (bH r p)];exact r
 let(hh,g,d,tt,G):=s';obtain rfl:G=s.os:=F.os;have fin:=I.call (h':=h) (g':=g) (d':=d) (t':=tk) (ch:=[]) un aM F.bare (λb z=>absurd z (by simp));exact fin
end
end L2
namespace Cw
open L2
abbrev sgn(c:Nat):Bool:=c==35||(48<=c&&c<=57)
abbrev aam:V->Bool
 |.str z=>decide (1<=z.cps.toList.length)&&decide (z.cps.toList.length<=12)&&z.cps.toList.all sgn|_=>fx
abbrev Rt:V->Nat
 |.str z=>z.cps.toList.length|_=>0
section
variable{K:zz8}
noncomputable abbrev Gy(K:zz8)(t n:String)(b:Bool):Prop:=PySem.W.kitOne K (.type t) (.type n)=eW b
def D9{K:zz8}(t:String):Gy K t t e6:=by unfold Gy PySem.W.kitOne;rw [if_pos (by simp)]
def D8{t n:String}{b:Bool}(a:(fP.type t==fP.type n)=fx)(c:PySem.W.kitMeta n=e6)(d:(fastBuiltinMro t).map (·.contains (fP.type n))=eW b):Gy K t n b:=by unfold Gy PySem.W.kitOne;rw [if_neg (by rw [a];exact zzf)];show(if PySem.W.kitMeta n=e6 then PySem.W.subIn K (.type t) (.type n) else eX)=eW b;rw [if_pos c];exact d
end
noncomputable abbrev Xg:Str:=(zu 25)
end Cw
namespace L2
open PySem.Spec PyProof.Rows
structure nN(K:zz8)(C:g5):Prop where
 ga:PySem.W.findIn K (.ref C) "__getattribute__"=eW (eW (.builtin (zu 4)))
 hk:PySem.W.findIn K (.ref C) "__getattr__"=eW eX
 cl:PySem.W.findIn K (.ref C) "__class__"=eW (eW (.builtin (zu 32)))
 mo:PySem.W.mroIn K C (.type (zu 49))=eW e6
 mb:PySem.W.mroIn K C (.type (zu 5))=eW e6
 is:(PySem.W.clsIn K C).isSome=e6
section
variable{w:hG}{E:kd}{g:Array GenState}{d:Drawn}{t:Nat}{os:OsState}{x C:g5}{K:zz8}
def O1{R:Result->gC->Prop}(X:K.In h)(Z:nN K C)(a:h.get? x=eW o)(b:o.cls=.ref C)(e:R (.ok (.ret (.ref C))) ⟨h,g,d,t,os⟩):
 codeAny (hI prog w) A (.call (.builtin "getset_descriptor.__get__") {[.builtin (zu 32),.ref x,.ref C],[]}) R ⟨h,g,d,t,os⟩:=by
 have hY:(⟨h,g,d,t,os⟩:gC).TypeIs (.builtin (zu 32)) "getset_descriptor":=F.typeOf_object_class;have c:PySem.W.Looks (hI prog w) h (isSubtype (.ref C) (.type (".".intercalate ((zu 32).cutAt '.').dropLast))) e6:=by rw [F.owner_object_class];exact PySem.W.looks_mroIn X Z.mo
 refine codeAny_call_builtin F.slot_gs_get.plain F.entry_gs_get (F.slot_gs_get.check _ _ _ _ _ _ _ _ hY (F.args_gs_get _ _ _) ?_)
 repeat (any_goals (first|assumption|(with_reducible refine wpAny_loadPart_at a ?_;rw [b])|(with_reducible refine c.at ?_)|wp_step))
 refine{Code.quiet_builtin _ (show _ by decide+kernel),codeAny_builtin F.entry_object_class ?_}
 repeat (any_goals (first|assumption|(with_reducible refine wpAny_loadPart_at a ?_;rw [b])|wp_step))
def F8{tk:Tok}{Q:Fin->gC->Prop}(X:K.In h)(Z:nN K C)(a:h.get? x=eW o)(b:o.cls=.ref C)(e:Q (.done (.ret (.ref C))) ⟨h,g,d,t,os⟩):
 hD (hI prog w) A (ix.«object.__getattribute__» {[.ref x,.str "__class__" tk],[]}) Q E ⟨h,g,d,t,os⟩:=by
 have hY:(⟨h,g,d,t,os⟩:gC).TypeIs (.builtin (zu 32)) "getset_descriptor":=F.typeOf_object_class;have f:=F.typeOf_object_class;have i:=F.slot_gs_get.lookup;have j:=F.slot_gs_set.lookup;have c:=PySem.W.looks_findIn (M:=hI prog w) X Z.cl
 repeat (any_goals (first|assumption|(with_reducible refine wpAny_loadPart_at a ?_;rw [b])|(with_reducible refine c.at ?_)|wp_step))
 refine O1 X Z a b ?_
 repeat (any_goals (first|assumption|wp_step))
def F7{M:Model}{a:fP}{Q:Unit->gC->Prop}(X:K.In h)(Z:nN K C)(b:h.get? x=eW o)(c:o.cls=.ref C)(e:Q () ⟨h,g,d,t,os⟩):
 hD M A (checkBuiltinCall (zu 4) {[.ref x,a],[]}) Q E ⟨h,g,d,t,os⟩:=by
 have f:builtinKind (zu 4)=eW .slot:=↑1
 have i:splitId (zu 4)=eW (zu 5,"__getattribute__"):=↑1
 have j:=PySem.W.looks_mroIn (M:=M) X Z.mb;have k:=F.args_bexc_ga (.ref x) a;simp! [checkBuiltinCall,f,i];refine ar ?_;unfold isInstance
 repeat (first|(with_reducible refine wpAny_loadPart_at b ?_;rw [c])|(with_reducible refine j.at ?_)|wp_step)
 exact e
def SM{tk:Tok}{Q:kd}(X:K.In h)(Z:nN K C)(a:h.get? x=eW o)(b:o.cls=.ref C)(i:Q (.ref C) ⟨h,g,d,t,os⟩):
 hD (hI prog w) A (getAttrBy (.ref x) (.str "__class__" tk) fx) Q E ⟨h,g,d,t,os⟩:=by
 have j:=F.excAttr_ValueError.ga.bind (.ref x);have c:(fP.builtin (zu 4)==fP.builtin "object.__getattribute__")=fx:=↑1
 have k:(onTheHeap (fP.ref C)&&fP.builtin (zu 4)==fP.builtin "object.__getattribute__")=fx:=by rw [c];rfl
 have e:=PySem.W.looks_findIn (M:=hI prog w) X Z.ga;have f:=PySem.W.looks_findIn (M:=hI prog w) X Z.hk
 repeat (any_goals (first|assumption|(with_reducible refine wpAny_loadPart_at a ?_;rw [b])|(with_reducible refine e.at ?_)|(with_reducible refine f.at ?_)|wp_step))
 refine codeAny_call_builtin F.excAttr_ValueError.ga.plain F.entry_bexc_ga (F7 X Z a b (F8 X Z a b ?_))
 repeat (any_goals (first|assumption|wp_step))
def JR{Q:Option fP->gC->Prop}(X:K.In h)(Z:nN K C)(a:h.get? x=eW o)(b:o.cls=.ref C)(c:Q (eW (.ref C)) {h,g,d,t+1,os}):
 hD (hI prog w) A (getAttr? (.ref x) "__class__") Q E ⟨h,g,d,t,os⟩:=by
 unfold getAttr? getAttrBy?
 repeat (any_goals (first|assumption|with_reducible apply SM X Z a b|wp_step))
end
set_option tactic.hygienic true in
theorem u0{K:zz8}{x C:g5}(Z:nN K C):PySem.W.KitX K (.ref x) (.ref C) (λh=>∃ob,h.get? x=eW ob/\ob.cls=.ref C) where
 ty:=λM h Y p=>by let(ob,b,c):=p;exact c▸(PySem.W.Looks.ld b).andThen .now
 it:=λM h X Y=>by
  let(cd,a):=ef.mp Z.is;unfold PySem.W.clsIn at a;split at a
  .rename_i c1 g d Py f;intro m o r t k q;unfold isType loadHead;exact ar (wpAny_loadPart (k _ _ (X _ _ f)) (bc q))
  .cases a
 ne:=λh tp i u n y X j=>by
  let(cd,a):=ef.mp Z.is;refine Bool.eq_false_iff.mpr λq=>?_;have e:C=tp:=fP.ref.inj (zzy.mp q);subst e;unfold PySem.W.clsIn at a;split at a
  .rename_i c1 g d Py f;have z:=(X _ _ f).symm.trans j;cases z
  .cases a
 ca:=λ{prog w A E Q s} X p k=>by let(ob,b,c):=p;let(B,D,i,F,G):=s;exact JR X Z b c k
section
def Af:cK X (.builtin (zu 20)) (λxs H Q=>∃(a C D:g5) (b:Bool),xs=[.ref a,.ref D]/\H a=eW (mQ a C)/\nN X.K C/\PySem.W.kitOne X.K (.ref C) (.ref D)=eW b/\Q (.bl b) H):=by intro k s m H xs o Q I r h;let(a,C,D,b,rfl,d,Z,e,q):=h;let(u,p,rfl,f,c):=vals2 r;cases f;cases c;let((ob,t,g,i,_),_):=I.aM _ _ d;exact PySem.W.kia_one (u0 Z) I.j2 ⟨ob,g,i⟩ e nofun λj=>{.bl b,H,I.tok j,rfl,q}
def Ag:cK X (.builtin (zu 20)) (λxs H Q=>∃(a C:g5) (n:String) (b:Bool),xs=[.ref a,.ty n]/\H a=eW (mQ a C)/\nN X.K C/\PySem.W.kitOne X.K (.ref C) (.type n)=eW b/\Q (.bl b) H):=by intro k s m H xs o Q I r h;let(a,C,n,b,rfl,d,Z,e,q):=h;let(u,p,rfl,f,c):=vals2 r;cases f;cases c;let((ob,t,g,i,_),_):=I.aM _ _ d;exact PySem.W.kia_one (u0 Z) I.j2 ⟨ob,g,i⟩ e nofun λj=>{.bl b,H,I.tok j,rfl,q}
def ES(b:Gl X x)(hm:X.mg x=eW (.ref a))(hd:(x==(zu 23:Str))=fx:=by decide):PE X (.Name x pos) (tC (.ref a)):=zv b hm rfl hd
theorem m5(a:Gl X (zu 1))(hm:X.mg (zu 1)=eX):PE X (.Name (zu 1) pos) (tC (.ty (zu 1))):=zq a hm (u:=.type (zu 1)) ↑1 rfl
variable{s:gC}
def nk{M:Model}{E:kd}{i:Nat}{Q:Unit->gC->Prop}(I:zv1 s)(hN:X.N.Nodup)(K:X.N[i]?=eW x)(hk:X.env.scope.names.lookup x=eW .local)
 (h:∀s',Inv X aa (σ.set i eX) H s'->Q () s'):hD M A (do bindName X.env x .none;unbindBehindTheSuite X.env x pos) Q E s:=by
 let(m,L,hl):=id I.loc;have P:(X.env.scope.kind==.class||(X.env.scope.kind==.module&&X.env.locals !=X.env.globals))=fx:=by rw [I.ok.kind];rfl
 have t:i<σ.length:=by rw [I.len];exact(bD.mp K).1
 have BQ:=I.BQ
 have f:∀{a:g5} {B:hZ},(∃o,s.heap.get? a=eW o/\H a=eX)->hZ.SameBut a s.heap B->ft X.prog X.w H B:=λ{a B} R hs b ob e=>by
  let(_,_,g):=R;refine(I.aM b ob e).fT (λc O C q=>(hs.2 c ?_).trans q) (λ_ q=>q) λ_ _ q=>q
  rintro rfl
  rcases C with rfl|C
  .rw [g] at e;cases e
  .rw [g] at C;cases C
 refine wpAny_nameGoes_keeps hk L P λB v0 S hs=>?_;let(T,_,_,U,_):=id L;refine h _ {I.ok,I.os,I.bare,{λb o e n F u=>?_,λb o e n F u=>?_,I.base.free,λb o e u=>?_,I.base.hV,I.base.gf,I.base.gS},{_,S,λj y V r D e3=>?_},λy c e=>?_,I.free,I.fz,λp W=>?_,f ⟨T,U,I.free⟩ hs,zx6 I.len}
 .exact(hs.2 b (dV (c6 (bX e) I.ok.above))).trans (I.base.keep b o e n F u)
 .let(Y,r):=I.base.slot b o e n F u;exact{Y,(hs.2 b (dV (c6 (bX e) I.ok.above))).trans r}
 .let(Z,r):=I.base.there b o e u;exact{Z,(hs.2 b (dV (c6 (bX e) I.ok.above))).trans r}
 .by_cases G:j=i
  .subst G;rw [ed t] at D;cases D
  .rw [cP (Ne.symm G)] at D;let(u',r',q):=hl j y V r D e3
   refine{u',r',?_};rcases q with⟨k,e⟩|⟨k,c,e,z⟩
   .refine .inl {k,?_};have:y≠x:=λe=>G (k8 hN r (e▸K));simp [this,e]
   .exact .inr {k,c,e,z.sameBut hs (BQ y c e)}
 .let(O,z):=I.cell y c e;exact{O,z.sameBut hs (BQ y c e)}
 .let(e,n,ne,nf,d):=I.pin p W;exact{(hs.2 p.1 ne).trans e,n,ne,nf,d}
noncomputable abbrev Cx.with1(X:Cx)(pn:kr)(xe:kd):Cx:={X with pn:=pn,xe:=xe}
noncomputable abbrev Cx.marked(X:Cx)(a:g5)(pn:kr):Cx:={X with A:=X.A.mark (eW (.ref a)),calm:=fx,pn:=pn,xe:=λZ Z=>False}
def EI{pn:kr}{xe:kd}(o:X.Ok):(X.with1 pn xe).Ok:=⟨o.mod,o.kind,o.glob,o.blt,o.above,o.inj,o.has,o.Ld,o.hd,o.frames,o.OJ,o.UE,o.bs,o.wF,o.Bd,o.CO,o.hJ,o.wW⟩
def Bk{pn:kr}(o:X.Ok):(X.marked a pn).Ok:={o.mod,o.kind,o.glob,o.blt,o.above,o.inj,o.has,o.Ld,nofun,o.frames,o.OJ,o.UE,o.bs,o.wF,o.Bd,o.CO,o.hJ,o.wW}
def Inv.with1{xe:kd}(I:zv1 s):Inv (X.with1 (X.pn++aa) xe) [] σ H s:={EI I.ok,I.os,I.bare,I.base,I.loc,I.cell,I.free,I.fz,λp a=>I.pin p (by rwa [eA] at a),I.aM,I.len}
def Inv.lM{xe:kd}(o:X.Ok){a:kr}(I:Inv (X.with1 (X.pn++aa) xe) a σ H s):zv1 s:={o,I.os,I.bare,I.base,I.loc,I.cell,I.free,I.fz,λp b=>I.pin p (d0 _ b),I.aM,I.len}
def Inv.mark(I:zv1 s):Inv (X.marked a (X.pn++aa)) [] σ H s:={Bk I.ok,I.os,I.bare,I.base,I.loc,I.cell,I.free,I.fz,λp b=>I.pin p (by rwa [eA] at b),I.aM,I.len}
def Inv.unmark(o:X.Ok){b:kr}(I:Inv (X.marked a (X.pn++aa)) b σ H s):zv1 s:={o,I.os,I.bare,I.base,I.loc,I.cell,I.free,I.fz,λp c=>I.pin p (d0 _ c),I.aM,I.len}
end
abbrev rH(K:zz8)(N:List Str)(Dc:g5)(i:Nat)(ts:TS)(D:Ends):XK:=λc f g=>∃a C,c=.ref C/\f=eW a/\PySem.W.exmOne K (.ref C) (.ref Dc)=eW e6/\
 ∀e:St,e.length=N.length->ts {nx:=λb d=>D.nx (b.set i eX) d,rt:=λv d=>D.rt v d,bk:=λb d=>D.bk (b.set i eX) d,ct:=λb d=>D.ct (b.set i eX) d} (e.set i (eW (.ref a))) (upd g a (mQ a C))
abbrev WM(K:zz8)(N:List Str)(Dc:g5)(i:Nat)(tb:XK->TS)(ts:TS):TS:=λD a H=>tb (rH K N Dc i ts D) D a H
def N5{body:List ig}{n:Str}{AV:Pos}{j:ig}{U:List ig}{Dc:g5}{i:Nat}{tb:XK->TS}{ts:TS}(hN:X.N.Nodup)(M:X.N[i]?=eW n)(hn:X.env.scope.names.lookup n=eW .local)(P:X.stack=X.env::X.outer)(MJ:X.env.frame=eW X.env.locals)
 (hg:Gl X x) (hm:X.mg x=eW (.ref Dc)) (hb:∀(pn:kr) (xe:kd) (V:XK),Passes (dC X.prog X.w) (X.with1 pn xe) V->qi (X.with1 pn xe) body (tb V))
 (hs:∀a pn,qi (X.marked a pn) (j::U) ts) (hd:(x==(zu 23:Str))=fx:=by decide):
 PS X (.Try body [.ExceptHandler (eW (.Name x np)) (eW n) (j::U) AV] [] [] pos) (WM X.K X.N Dc i tb ts):=by
 intro m s σ H D I h;let xe:kd:=λe Y=>∃b O d,Inv X m b O d/\dC X.prog X.w X.stack O d (rH X.K X.N Dc i ts D) e Y;have hP:Passes (dC X.prog X.w) (X.with1 (X.pn++m) xe) (rH X.K X.N Dc i ts D):=λoR b O d e Y L c=>{b,O,d,L.lM I.ok,c};refine wpAny_Try_except (wpAny_mono (hb (X.pn++m) xe _ hP [] s σ H D I.with1 h) (λf d g=>?_) λe d Q=>?_)
 .cases f with
  |next=>let(b,k,o,q):=g;exact sR m d b k D (o.lM I.ok) q|brk=>let(b,k,o,q):=g;exact{b,k,o.lM I.ok,q}|cont=>let(b,k,o,q):=g;exact{b,k,o.lM I.ok,q}|ret u=>let(v,b,k,o,r,q):=g;exact{v,b,k,o.lM I.ok,r,q}
 .let(b,O,s2,L,a,C,t,vs,k,B,rfl,F):=Q;have Z:=F.C6;rw [P] at Z;refine wpAny_looks_onW (by rw [<-P];exact L.ok.frames) MJ Z λh4 QW YE=>?_;refine wpAny_landsW QW λh5 Kg YF=>?_;have R:=Kg;rw [<-P] at R;have I5:=L.Co (tk:=d.toks) F R (YE.trans YF);let(oa,va,ea,ca,da,_):=R.first;let(a',C',e1,e2,Q,hq):=F.ends;cases e1;cases e2;refine wpAny_handleBy_cons (codeAny_handlers_test (dX (X:=X.marked a (X.pn++m)) I5.mark hg hm ?_ hd)) (by intro q;cases q);have LT:PySem.W.Looks (hI X.prog X.w) h5 (typeOf (.ref a)) (.ref C):=by rw [<-ca];exact(PySem.W.Looks.ld ea).andThen .now
  refine PySem.W.exm_one (K:=X.K) I5.j2 LT Q _ _ _ _ (λ_ _ e=>e) ?_;refine codeAny_handlers_suite_as ?_;refine lands_againW Kg λh6 XQ S=>?_;rw [<-P] at XQ;have I6:=L.Co (tk:=d.toks) F XQ ((YE.trans YF).trans S);refine iL (X:=X.marked a (X.pn++m)) (i:=i) (v:=.ref a) I6.mark hN M (.inl hn) rfl (λs7 I7=>?_) (.inr hn);refine wpAny_mono (hs a (X.pn++m) [] s7 _ _ _ I7 (hq b L.len)) (λf s8 g=>?_) λ_ _ z=>z.elim
  cases f with
  |next=>let(p,y,A,E):=g;exact nk (A.unmark I.ok) hN M hn λT G=>{_,y,G,E}|brk=>let(p,y,A,E):=g;exact nk (A.unmark I.ok) hN M hn λT G=>{_,y,G,E}|cont=>let(p,y,A,E):=g;exact nk (A.unmark I.ok) hN M hn λT G=>{_,y,G,E}|ret u=>let(v,p,y,A,r8,E):=g;exact nk (A.unmark I.ok) hN M hn λT G=>{v,_,y,G,r8,E}
open PySem.AutoSeq1 (wpAny_loadPart')
end L2
namespace Cw
open L2
theorem oQ(xs:List Nat)(k:Nat):∀n,(List.range n).filterMap (λm=>xs[k+m]?)=(xs.drop k).take n
 |0=>by simp|n+1=>by rw [List.range_succ,List.filterMap_append,oQ xs k n,List.take_add_one,List.getElem?_drop];cases h:xs[k+n]?<;>simp [h]
def MT(k n:Nat)(h:k<=n):ix.Str.strSliceIndices (eW (k:Int)) eX 1 n=(List.range (n-k)).map λm=>k+m:=by
 unfold ix.Str.strSliceIndices sliceRange;simp! [show(1:Int)>0 by decide,if_true];have a:¬((k:Int)<0):=by lia
 rw [if_neg a];have b:max 0 (min (k:Int) (n:Int))=k:=by lia
 rw [b];have c:(if(k:Int)<(n:Int) then((n:Int)-k+1-1)/1 else 0).toNat=n-k:=by
  split
  .rw [Int.ediv_one];lia
  .lia
 rw [c];apply List.map_congr_left;intro m _;lia
def MU(k n:Nat)(h:k<=n):ix.Str.strSliceIndices eX (eW (k:Int)) 1 n=(List.range k).map λm=>0+m:=by
 unfold ix.Str.strSliceIndices sliceRange;simp! [show(1:Int)>0 by decide,if_true];have a:¬((k:Int)<0):=by lia
 rw [if_neg a];have b:max 0 (min (k:Int) (n:Int))=k:=by lia
 rw [b];have c:(if(0:Int)<(k:Int) then((k:Int)-0+1-1)/1 else 0).toNat=k:=by
  split
  .rw [Int.ediv_one];lia
  .lia
 rw [c];apply List.map_congr_left;intro m _;lia
def Fs(x:Str)(k:Nat)(h:k<=x.length):(PySem.Txt.slice x (eW (k:Int)) eX).cps.toList=x.cps.toList.drop k:=by
 have hl:x.cps.toList.length=x.length:=by simp [Str.length]
 unfold PySem.Txt.slice;rw [MT k _ h];split
 .rename_i a;simp at a;have:k=0:=by lia
  subst this;simp
 .show((List.range (x.length-k)).map (λm=>k+m)).filterMap (x.cps[·]?)=_;rw [List.filterMap_map];have:((x.cps[·]?)∘λm=>k+m)=λm=>x.cps.toList[k+m]?:=by funext m;simp
  rw [this,oQ,List.take_of_length_le (by rw [List.length_drop,hl];exact a7 _)]
def Ft(x:Str)(k:Nat)(h:k<=x.length):(PySem.Txt.slice x eX (eW (k:Int))).cps.toList=x.cps.toList.take k:=by
 have hl:x.cps.toList.length=x.length:=by simp [Str.length]
 unfold PySem.Txt.slice;rw [MU k _ h];split
 .rename_i a;simp at a;rw [a,<-hl,List.take_length]
 .show((List.range k).map (λm=>0+m)).filterMap (x.cps[·]?)=_;rw [List.filterMap_map];have:((x.cps[·]?)∘λm=>0+m)=λm=>x.cps.toList[0+m]?:=by funext m;simp
  rw [this,oQ,List.drop_zero]
end Cw
namespace L2
open PySem.Spec PyProof.Rows
end L2
namespace Cw
open L2
end Cw
namespace L2
open PySem.Spec PyProof.Rows
def Bm{a b:Type}{R:a->b->Prop}{xs:List a}{ys:List b}(r:Paired R xs ys):∀{i:Nat} {x:a},xs[i]?=eW x->∃y,ys[i]?=eW y/\R x y:=by
 induction r with
 |nil=>intro i x h;simp at h|cons r t c=>
  intro i x h;cases i with
  |zero=>simp at h;subst h;exact{_,rfl,r}|succ i=>simp at h;simpa using c h
def xB{a b:Type}{R:a->b->Prop}{xs:List a}{ys:List b}(r:Paired R xs ys):xs.length=ys.length:=by
 induction r with
 |nil=>rfl|cons _ _ c=>simp [c]
def F0{a:List fP}(r:Vals vs a)(h:j<a.toArray.size):∃v,vs[j]?=eW v/\RelV v a.toArray[j]:=by
 have hl:=r.length;rw [a5] at h;have b:j<vs.length:=by lia
 let(u,c,d):=r.get (i:=j) (x:=vs[j]) (zzg b);rw [zzg h] at c;cases c;exact{_,zzg b,zx6 d}
noncomputable abbrev cX:HO:=.ext λZ=>True
def nQ{P:hF}{w:hG}(e:h.get? a=eW o):bT P w H h a (.bR o cX):={e,trivial,⟨o,e⟩,λZ Z Z Z=>trivial}
abbrev aQ(Z:kr)(H:Hp):Hp:=λb=>match Z.lookup b with
 |some o=>eW (.bR o cX)|none=>H b
abbrev cD(Z:kr)(H:Hp):Hp:=λb=>match Z.lookup b with
 |some _=>eX|none=>H b
section
variable{Z:kr}{H':Hp}{b:g5}
def bw(e:Z.lookup b=eW o):aQ Z H b=eW (.bR o cX):=by unfold aQ;rw [e]
def ax(e:Z.lookup b=eX):aQ Z H b=H b:=by unfold aQ;rw [e]
def iD(e:Z.lookup b=eW o):cD Z H b=eX:=by unfold cD;rw [e]
def aH(e:Z.lookup b=eX):cD Z H b=H b:=by unfold cD;rw [e]
def j6{u:HO}(e:cD Z H b=eW u):Z.lookup b=eX/\H b=eW u:=by
 cases q:Z.lookup b with
 |none=>rw [aH q] at e;exact⟨rfl,e⟩|some o=>rw [iD q] at e;cases e
def j5(h:H b=eX):cD Z H b=eX:=by
 cases q:Z.lookup b with
 |none=>rw [aH q];exact h|some o=>exact iD q
structure z8(Z:kr)(H:Hp)(fs:List g5)(h:hZ):Prop where
 at_:∀b o,Z.lookup b=eW o->h.get? b=eW o
 no:∀b o,Z.lookup b=eW o->H b=eX
 fr:∀b o,Z.lookup b=eW o->b∉fs
variable{P:hF}{w:hG}{fs:List g5}
theorem z8.aM(z:z8 Z H fs h)(k:ft P w H h):ft P w (aQ Z H) h:=λb u e=>by
 cases q:Z.lookup b with
 |some o=>rw [bw q] at e;cases e;exact nQ (z.at_ b o q)
 |none=>
  rw [ax q] at e;have a:∀c v,H c=eW v->Z.lookup c=eX:=λc v d=>by
   cases y:Z.lookup c with
   |none=>rfl|some o=>rw [z.no c o y] at d;cases d
  exact(k b u e).fT (λc v Y r=>r) (λc r=>by rw [ax (a c _ r)];exact r) λc xs r=>by rw [ax (a c _ r)];exact r
def z8.JN(z:z8 Z H fs h)(u:Un fs [] (aQ Z H) H' h h')(k:ft P w H' h'):Un fs [] H (cD Z H') h h'/\ft P w (cD Z H') h':=by
 have i:∀b o,Z.lookup b=eW o->H' b=eW (.bR o cX):=λb o q=>u.gf b o _ (bw q);have p:∀b o,Z.lookup b=eW o->h'.get? b=eW o:=λb o q=>(k b _ (i b o q)).1
 have d:∀c v,H c=eW v->Z.lookup c=eX:=λc v j=>by
  cases y:Z.lookup c with
  |none=>rfl|some o=>rw [z.no c o y] at j;cases j
 refine{{λb o e n f a=>?_,λb o e n f a=>?_,λb o e n a=>?_,λb o e a=>u.there b o e a,λb xs e=>?_,λb o v e=>?_,λb s e=>?_},λb v e=>?_}
 .cases q:Z.lookup b with
  |some g=>have m:=z.at_ b g q;rw [e] at m;cases m;exact p b o q
  |none=>exact u.keep b o e (by rw [ax q];exact n) f a
 .cases q:Z.lookup b with
  |some g=>exact absurd f (z.fr b g q)|none=>exact u.slot b o e (by rw [ax q];exact n) f a
 .cases q:Z.lookup b with
  |some g=>exact iD q|none=>rw [aH q];exact u.free b o e (by rw [ax q];exact n) a
 .rw [aH (d b _ e)];exact u.hV b xs (by rw [ax (d b _ e)];exact e)
 .rw [aH (d b _ e)];exact u.gf b o v (by rw [ax (d b _ e)];exact e)
 .rw [aH (d b _ e)];exact u.gS b s (by rw [ax (d b _ e)];exact e)
 .let(q,t):=j6 e;refine(k b v t).fT (λc y Y r=>r) (λc r=>?_) λc xs r=>?_
  .cases y:Z.lookup c with
   |none=>rw [aH y];exact r|some o=>rw [i c o y] at r;cases r
  .cases y:Z.lookup c with
   |none=>rw [aH y];exact r|some o=>rw [i c o y] at r;cases r
def z8.zS(z:z8 Z H fs h)(u:Un fs [] H H' h h')(k:ft P w H' h'):Un fs [] (aQ Z H) (aQ Z H') h h'/\ft P w (aQ Z H') h':=by
 have j:∀b o,Z.lookup b=eW o->h'.get? b=eW o:=λb o q=>u.keep b o (z.at_ b o q) (z.no b o q) (z.fr b o q) nofun;have m:∀b o,Z.lookup b=eW o->H' b=eX:=λb o q=>u.free b o (z.at_ b o q) (z.no b o q) nofun
 have g:∀c v,H' c=eW v->Z.lookup c=eX:=λc v i=>by
  cases y:Z.lookup c with
  |none=>rfl|some o=>rw [m c o y] at i;cases i
 have d:∀b,aQ Z H b=eX->Z.lookup b=eX/\H b=eX:=λb e=>by
  cases q:Z.lookup b with
  |some o=>rw [bw q] at e;cases e
  |none=>rw [ax q] at e;exact⟨rfl,e⟩
 refine{{λb o e n f a=>u.keep b o e (d b n).2 f a,λb o e n f a=>u.slot b o e (d b n).2 f a,λb o e n a=>?_,λb o e a=>u.there b o e a,λb xs e=>?_,λb o v e=>?_,λb p e=>?_},λb v e=>?_}
 .rw [ax (d b n).1];exact u.free b o e (d b n).2 a
 .cases q:Z.lookup b with
  |some o=>rw [bw q] at e;cases e
  |none=>rw [ax q] at e⊢;exact u.hV b xs e
 .cases q:Z.lookup b with
  |some s=>rw [bw q] at e⊢;exact e|none=>rw [ax q] at e⊢;exact u.gf b o v e
 .cases q:Z.lookup b with
  |some o=>rw [bw q] at e;cases e
  |none=>rw [ax q] at e⊢;exact u.gS b p e
 .cases q:Z.lookup b with
  |some o=>rw [bw q] at e;cases e;exact nQ (j b o q)
  |none=>rw [ax q] at e;exact(k b v e).fT (λc y Y r=>r) (λc r=>by rw [ax (g c _ r)];exact r) λc xs r=>by rw [ax (g c _ r)];exact r
variable{K:zz8}{s s':gC}
theorem jm.aQ(e:jm P w K mg base A outer s H)(z:z8 Z H (fv outer) s.heap)(d:∀b o,Z.lookup b=eW o->base.get? b=eX):jm P w K mg base A outer s (aQ Z H) where
 frames:=e.frames
 mod:=e.mod
 bs:=λb o q=>{(e.bs b o q).1,by
  cases y:Z.lookup b with
  |some a=>rw [d b a y] at q;cases q
  |none=>rw [ax y];exact(e.bs b o q).2}
 wF:=e.wF
 hJ:=e.hJ
 wW:=λb c=>by
  cases y:Z.lookup b with
  |some a=>exact absurd c (z.fr b a y)|none=>rw [ax y];exact e.wW b c
 aM:=z.aM e.aM
 bare:=e.bare
def CE.less(z:z8 Z H (fv outer) s.heap)(h:CE outer P w (aQ Z H) s (λv H'=>Q v (cD Z H')) u s'):CE outer P w H s Q u s':=by let(v,H',os,bare,un,aM,r,q):=h;let(a,c):=z.JN un aM;exact{v,_,os,bare,a,c,r,q}
def CE.more(z:z8 Z H (fv outer) s.heap)(h:CE outer P w H s (λv H'=>(∀b o,Z.lookup b=eW o->H' b=eX)->Q v (aQ Z H')) u s'):CE outer P w (aQ Z H) s Q u s':=by let(v,H',os,bare,un,aM,r,q):=h;let(a,c):=z.zS un aM;exact{v,_,os,bare,a,c,r,q λb o y=>un.free b o (z.at_ b o y) (z.no b o y) nofun}
def dC.more{E:XK}{e:fP}(z:z8 Z H (fv outer) s.heap)(h:dC P w outer H s (λC a H'=>(∀b o,Z.lookup b=eW o->H' b=eX)->E C a (aQ Z H')) e s'):dC P w outer (aQ Z H) s E e s':=by
 let(a,C,t,i,H',B,rfl,F):=h;have j:∀b o,Z.lookup b=eW o->B.get? b=eW o:=λb o q=>F.ff b o (z.at_ b o q) (z.no b o q) (z.fr b o q);have d:∀b o,Z.lookup b=eW o->H' b=eX:=λb o q=>F.un.free b o (z.at_ b o q) (z.no b o q) nofun
 have f:∀c v,H' c=eW v->Z.lookup c=eX:=λc v g=>by
  cases y:Z.lookup c with
  |none=>rfl|some o=>rw [d c o y] at g;cases g
 have k:ft P w (aQ Z H') B:=λb v e=>by
  cases q:Z.lookup b with
  |some o=>rw [bw q] at e;cases e;exact nQ (j b o q)
  |none=>rw [ax q] at e;exact(F.aM b v e).fT (λc y Y r=>r) (λc r=>by rw [ax (f c _ r)];exact r) λc xs r=>by rw [ax (f c _ r)];exact r
 have hs:ft P w H' s'.heap:=λb v e=>(F.aM b v e).fT (λc y Y r=>F.C6.1 _ _ r) (λY r=>r) λY Y r=>r;let(m,_):=z.zS (P:=P) (w:=w) F.un hs;refine{a,C,t,i,_,B,rfl,{F.os,F.bare,k,F.C6,F.tn,F.tup,λb o e n p=>F.ff b o e ?_ p,F.c9,m,F.ends d}}
 cases q:Z.lookup b with
 |some o=>rw [bw q] at n;cases n
 |none=>rw [ax q] at n;exact n
end
structure ua(ps ys:List Str)(scope:hX):Prop where
 kind:scope.kind=.function
 co:scope.isCoroutine=fx
 gen:scope.isGenerator=fx
 nd:(ps++ys).Nodup
 EA:∀x∈scope.names,x.2≠.cell
 par:∀x∈ps,scope.names.lookup x=eW .local
 Zr:∀y∈ys,scope.names.lookup y=eW .free
 Lm:∀x,scope.names.lookup x=eW .free->x∈ys
noncomputable def Pb(P:hF)(w:hG)(K:zz8)(mg:Str->Option fP)(base:hZ)(N:List Str)(qual:Str)(a:hX)(f:g5)(cd:fP)(cl:List (Str×g5))(A:hT)(outer:List Env)(s:gC)(H:Hp)(E:XK):Cx where
 prog:=P
 w:=w
 K:=K
 mg:=mg
 base:=base
 A:=A.deeper (PySem.W.envX qual a (zz9 s) f cd cl)
 N:=N
 s₀:=s
 H₀:=H
 env:=PySem.W.envX qual a (zz9 s) f cd cl
 outer:=outer
 stack:=PySem.W.envX qual a (zz9 s) f cd cl::outer
 ex:=[]
 calm:=A.handled.isNone
 fn:=λZ=>fx
 pn:=[]
 xe:=λe c=>hD (hI P w) (A.deeper (PySem.W.envX qual a (zz9 s) f cd cl)) (leaving (PySem.W.envX qual a (zz9 s) f cd cl) e) (λZ b=>dC P w outer H s E e b) (λd b=>dC P w outer H s E d b) c
theorem qP{a:Type}:∀{l:List (Str×a)} {x:Str} {v:a},(l.map (·.1)).Nodup->(x,v)∈l->l.lookup x=eW v
 |(y,u)::r,x,v,nd,h=>by
  rw [a8,List.nodup_cons] at nd;rw [ez];rcases d8.mp h with e|e
  .cases e;simp
  .have b:(x==y)=fx:=beq_eq_false_iff_ne.mpr λz=>nd.1 (by subst z;exact List.mem_map_of_mem (f:=(·.1)) e);rw [b];exact qP nd.2 e
def pG{ps:List Str}{i:Nat}(nd:ps.Nodup)(a:ps[i]?=eW x)(b:us[i]?=eW u):(ps.zip us).reverse.lookup x=eW u:=by
 have hs:∀{ps:List Str} {us:List fP},List.Sublist ((ps.zip us).map (·.1)) ps:=λ{ps us}=>by
  induction ps generalizing us with
  |nil=>simp|cons p ps c=>
   cases us with
   |nil=>simp|cons q us=>simpa using c
 refine qP ?_ ?_
 .rw [List.map_reverse];exact List.pairwise_reverse.mpr ((nd.sublist hs).imp λh=>Ne.symm h)
 .rw [List.mem_reverse];refine a6 (i:=i) ?_;rw [List.getElem?_zip_eq_some];exact⟨a,b⟩
section
variable{P:hF}{w:hG}{K:zz8}{ps ys:List Str}{scope:hX}{f:g5}{cd:fP}{s:gC}{E:XK}
def xa{ws:List V}{tk:Nat}(S:ua ps ys scope)(g:jm P w K mg base A outer s H)(B:∀y∈ys,∃c,cl.lookup y=eW c)(inj:∀x y c,cl.lookup x=eW c->cl.lookup y=eW c->x=y)
 (r:Vals vs us) (hl:vs.length=ps.length) (G:ws.length=ys.length) (cells:∀(i:Nat) y c,ys[i]?=eW y->cl.lookup y=eW c->∀v,ws[i]?=eW v->∃u,RelV v u/\s.heap.IsCell c (eW u)) (I:∀x c,cl.lookup x=eW c->∃v,s.heap.IsCell c v)
 (L:∀x c,cl.lookup x=eW c->H c=eX) (ns:h'.Ns (zz9 s) (λx=>(ps.zip us).reverse.lookup x)) (hk:∀b o,s.heap.get? b=eW o->h'.get? b=eW o):
 Inv (Pb P w K mg base (ps++ys) qual scope f cd cl A outer s H E) [] (vs.map eW++ws.map eW) H {s with heap:=h',toks:=tk}:=by
 have q:∀b:g5,b∉(Pb P w K mg base (ps++ys) qual scope f cd cl A outer s H E).ex:=λb z=>absurd (show b∈([]:List g5) from z) (by simp);have C:∀c v,s.heap.IsCell c v->h'.IsCell c v:=λc v ⟨o,M,hd⟩=>{o,hk c o M,hd}
 refine{{g.mod,S.kind,rfl,rfl,a7 _,inj,λx k=>?_,(λx c z=>nomatch z),λz=>Option.isNone_iff_eq_none.mp z,hT.frames_deeper g.frames,.inr ⟨rfl,rfl⟩,λb z=>absurd z (q b),g.bs,g.wF,λb Z Z=>q b,λb z=>absurd z (q b),g.hJ,g.wW},
  rfl,g.bare,Un.kept hk,{_,ns,λi x v j d O=>?_},λx c h=>let⟨v,z⟩:=I x c h;{v,C c v z},g.aM.fresh (a7 _),L,λp m=>absurd (show p∈([]:kr) from m) (by simp),g.aM.kept hk,?_}
 .have k:scope.names.lookup x=eW .cell\/scope.names.lookup x=eW .free:=k
  rcases k with k|k
  .exact absurd rfl (S.EA _ (PySem.mem_of_lookup k))
  .exact B x (S.Lm x k)
 .have j:(ps++ys)[i]?=eW x:=j;by_cases D:i<vs.length
  .rw [eg (zx6 D),cz] at d;have t:vs[i]?=eW v:=by
    cases e:vs[i]? with
    |none=>rw [e] at d;cases d
    |some a=>rw [e] at d;cases d;rfl
   let(u,N,rv):=r.get t;have m:ps[i]?=eW x:=by rw [eg (by lia)] at j;exact j
   exact{u,rv,.inl {S.par x (a6 m),pG (S.nd.sublist (List.sublist_append_left _ _)) m N}}
  .rw [ei (zx6 D),cz,zzl] at d;rw [ei (by lia)] at j;have t:ws[i-vs.length]?=eW v:=by
    cases e:ws[i-vs.length]? with
    |none=>rw [e] at d;cases d
    |some a=>rw [e] at d;cases d;rfl
   rw [<-hl] at j;let(c,F):=B x (a6 j);let(u,rv,z):=cells _ x c j F v t;exact{u,rv,.inr {.inr (S.Zr x (a6 j)),c,F,C c _ z}}
 .show _=(ps++ys).length;rw [bW,bW,zzl,zzl,hl,G]
def RS:Passes (dC P w) (Pb P w K mg base N qual scope f cd cl A outer s H E) E:=by
 rintro Q σ H1 s1 e R I ⟨a,C,t,r,y,B,rfl,F⟩
 have nx:∀b:g5,b∉(Pb P w K mg base N qual scope f cd cl A outer s H E).ex:=λb z=>nomatch (show b∈([]:List g5) from z);have ff:∀b o,s.heap.get? b=eW o->H b=eX->b∉fv outer->B.get? b=eW o:=λb o q n c=>F.ff b o (I.base.keep b o q n c (nx b)) (I.base.free b o q n (nx b)) (cR I rfl q c);have c9:∀b o,s.heap.get? b=eW o->b∉fv outer->∃g,B.get? b=eW g:=λb o q c=>by let(o1,d):=I.base.there b o q (nx b);exact F.c9 b o1 d (cR I rfl q c)
 refine wpAny_leaves_onW I.ok.frames rfl F.C6 λD j m=>{a,C,t,r,y,B,rfl,?_};have slot:∀b o,s.heap.get? b=eW o->H b=eX->b∈fv outer->∃h,D.get? b=eW {o with slots:=h}:=λb o q n c=>by let(h,d):=I.base.slot b o q n c (nx b);let(G,i):=F.un.any d (I.base.free b o q n (nx b)) nofun;let(_,g,p,hd):=F.C6.2.2.1.mem (b:=b) (et.mpr (let⟨v,L,M⟩:=et.mp c;{v,.tail _ L,M}));rw [i] at p;cases p;let(k,O):=m b _ i hd;exact⟨k,O⟩
 refine{F.os.trans I.os,F.bare,F.aM,j,F.tn,F.tup.of_slots m,ff,c9,{λb o q n c Z=>j.1 _ _ (ff b o q n c),λb o q n c Z=>slot b o q n c,λb o q n Z=>?_,λb o q Z=>?_,λb xs q=>F.un.hV _ _ (I.base.hV _ _ q),λb o u q=>F.un.gf _ _ _ (I.base.gf _ _ _ q),λb ps q=>?_},F.ends}
 .let(h,d):=I.base.any q n (nx b);exact F.un.free b _ d (I.base.free b o q n (nx b)) nofun
 .by_cases c:b∈fv outer
  .let(h,d):=slot b o q (I.ok.wW b c) c;exact{_,d}
  .let(g,d):=c9 b o q c;exact{g,j.1 _ _ d}
 .let(m1,d):=I.base.gS b ps q;let(m2,i):=F.un.gS b _ d;exact{m1++m2,by rw [<-Array.append_assoc];exact i}
def Ij{k:Nat}{d:Arguments}{M N:fP}{m:g5}{oc:Obj}{B:Array fP}{ct:Tok}{ws:List V}{Z:kr}{t:TE}
 (S:ua ps ys scope) (T:dt k A) (D:jm P w K mg base A outer s H) (z:z8 Z H (fv outer) s.heap) (zb:∀b o,Z.lookup b=eW o->base.get? b=eX)
 (U:s.heap.get? f=eW (PySem.W.kla_obj (zu 16) qual d body scope cl M m N)) (X:s.heap.get? m=eW oc) (Y:oc.data=.fields B) (HS:B[1]?=eW (.str qual ct))
 (hb:bindArgs (PySem.W.kla_fn (zu 16) qual d body scope cl M (.ref m) N) {us,[]}=pure (ps.zip us)) (r:Vals vs us) (hl:vs.length=ps.length) (hw:ws.length=ys.length)
 (Tj:∀y∈ys,∃c,cl.lookup y=eW c) (inj:∀x y c,cl.lookup x=eW c->cl.lookup y=eW c->x=y)
 (O:∀x c,cl.lookup x=eW c->∃o v,Z.lookup c=eW o/\o.data=.cell v)
 (cells:∀(i:Nat) y c,ys[i]?=eW y->cl.lookup y=eW c->∀v,ws[i]?=eW v->∃u,RelV v u/\s.heap.IsCell c (eW u))
 (ht:PE (Pb P w K mg base (ps++ys) qual scope f (.ref m) cl A outer s H (λC a j=>(∀b o,Z.lookup b=eW o->j b=eX)->E C a (aQ Z j))) body t)
 (hq:t (vs.map eW++ws.map eW) H λv j=>(∀b o,Z.lookup b=eW o->j b=eX)->Q v (aQ Z j)):
 codeAny (hI P w) A (.call (.ref f) {us,[]}) (CR (dC P w) outer P w (aQ Z H) s Q E) s:=by
 have F:s.heap.NoLimit:=D.mod.nolimit.keeps λb o e=>(D.bs b o e).1;refine PySem.W.kla_callFunE T.depth U rfl S.co S.gen rfl ⟨m,oc,B,ct,rfl,X,Y,HS⟩ ?_;rw [hb];refine bc (wpAny_newFunctionEnv S.EA (λy hy=>S.par y.1 (List.of_mem_zip hy).1) (λp Th G=>?_) S.kind);have g:∀b o,s.heap.get? b=eW o->p.get? b=eW o:=λb o e=>G.extBut b o (dV (bX e)) (aT _ e)
 refine{F.keeps g,?_};show codeAny _ _ (.expr body (PySem.W.envX qual scope (zz9 s) f (.ref m) cl)) _ _;have I:=xa (E:=λC a j=>(∀b o,Z.lookup b=eW o->j b=eX)->E C a (aQ Z j)) (cd:=.ref m) (f:=f) (qual:=qual) (tk:=s.toks+(ps.zip us).length) S D Tj inj r hl hw cells (λx c h=>by
  let(o,v,L,R):=O x c h;exact{v,o,z.at_ c o L,R}) (λx c h=>by
  let(o,v,L,R):=O x c h;exact z.no c o L) Th g
 refine PySem.W.kla_codeExpr (wpAny_mono (ht [] _ _ H _ I hq) (λu s' hs=>?_) λe s' hs=>?_)
 .let(v,j,J,rv,q):=hs;exact CE.more z ⟨v,j,J.os,J.bare,J.base,J.aM,rv,q⟩
 .exact wpAny_mono hs (λ_ Jp y=>dC.more z y) λe' Jp y=>dC.more z y
end
def wu{p:Pos}{a b:Int}{c d:fP}:∀(l:List fP),TriplesOk l->codeAmong p (l++[rawInt a,rawInt b,c])=eW d->codeAmong p l=eW d\/d=c:=by
 intro l h e
 fun_induction TriplesOk l with
 |case1=>
  simp! [List.nil_append,codeAmong,rawInt] at e;split at e
  .cases e;exact .inr rfl
  .cases e
 |case2 i t j u x rest g=>
  simp! [List.cons_append,codeAmong] at e⊢;split at e
  .rename_i f;rw [if_pos f];exact .inl e
  .rename_i f;rw [if_neg f];exact g h e
 |case3 l k m=>exact h.elim
def B0(mg:Str->Option fP)(base:hZ):Prop:=∃bm o,mg "__builtins__"=eW (.ref bm)/\bm≠builtinsNs/\bm≠iv/\base.get? bm=eW o/\o.cls=.type "module"/\o.dict=eW builtinsNs/\o.data=.plain
abbrev iC(H:Hp)(P:g5)(a:Array fP)(b:g5)(oc:Obj)(f:g5)(fo:Obj):Hp:=upd (upd (upd H P (.gA a)) b (.bR oc cX)) f (.bR fo cX)
section
variable{s:gC}{c P c' f:g5}{ps tY:Array fP}{oc fo:Obj}
def Inv.lam{tk:Nat}(I:zv1 s)(g:H P=eW (.gA ps))(i:∀b o,b≠P->s.heap.get? b=eW o->h'.get? b=eW o)(p:h'.get? P=eW (PySem.W.tabObj tY))(more:∃m,tY=ps++m)
 (h:H c'=eX/\(zz9 s)<=c'\/H c'=eW (.bR oc cX)) (C:h'.get? c'=eW oc) (r:(zz9 s)<=f) (D:h'.get? f=eW fo) (L:c'≠f):
 Inv X aa σ (iC H P tY c' oc f fo) {s with heap:=h',toks:=tk}:=by
 have fr:H f=eX:=I.aM.fresh r;have t:∀b u,H b=eW u->(∀q,u≠.gA q)->b≠P:=λb u e n z=>by subst z;rw [g] at e;cases e;exact n _ rfl
 have w:∀b u,H b=eW u->b≠f:=λb u e z=>by subst z;rw [fr] at e;cases e
 have E:c'≠P:=λz=>by
  subst z;rcases h with⟨e,_⟩|e
  .rw [g] at e;cases e
  .rw [g] at e;cases e
 have F:f≠P:=λz=>by subst z;rw [g] at fr;cases fr
 have at_:∀b u,H b=eW u->(∀q,u≠.gA q)->iC H P tY c' oc f fo b=eW u:=λb u e n=>by
  unfold iC;rw [ai (w b u e)];by_cases a:b=c'
  .subst a;rw [aq];rcases h with⟨z,_⟩|z
   .rw [z] at e;cases e
   .rw [z] at e;exact e
  .rw [ai a,ai (t b u e n)];exact e
 have no:∀b o,s.heap.get? b=eW o->H b=eX->iC H P tY c' oc f fo b=eX:=λb o e n=>by
  have G:b≠f:=λz=>absurd (bX e) (by rw [z];exact Nat.not_lt.mpr r);have K:b≠P:=λz=>by subst z;rw [g] at n;cases n
  have j:b≠c':=λz=>by
   rcases h with⟨_,y⟩|y
   .exact absurd (bX e) (by rw [z];exact Nat.not_lt.mpr y)
   .rw [z,y] at n;cases n
  unfold iC;rw [ai G,ai j,ai K];exact n
 have kp:∀b o,s.heap.get? b=eW o->H b=eX->h'.get? b=eW o:=λb o e n=>i b o (λz=>by subst z;rw [g] at n;cases n) e;refine I.un {λb o e n Z Z=>kp b o e n,λb o e n Z Z=>{o.slots,kp b o e n},λb o e n Z=>no b o e n,λb o e Z=>?_,λb xs e=>at_ b _ e (λZ z=>nomatch z),λb o u e=>at_ b _ e (λZ z=>nomatch z),λb qs e=>?_} λb u e=>?_
 .by_cases a:b=P
  .exact{_,by rw [a];exact p}
  .exact{o,i b o a e}
 .by_cases a:b=P
  .subst a;rw [g] at e;cases e;let(m,rfl):=more;exact{m,by unfold iC;rw [ai (Ne.symm F),ai (Ne.symm E),aq]}
  .have j:b≠c':=λz=>by
    subst z;rcases h with⟨y,_⟩|y
    .rw [y] at e;cases e
    .rw [y] at e;cases e
   exact{#[],by unfold iC;rw [ai (w b _ e),ai j,ai a,e];simp}
 .unfold iC at e;by_cases A:b=f
  .subst A;rw [aq] at e;cases e;exact nQ D
  .rw [ai A] at e;by_cases B:b=c'
   .subst B;rw [aq] at e;cases e;exact nQ C
   .rw [ai B] at e;by_cases k:b=P
    .subst k;rw [aq] at e;cases e;exact p
    .rw [ai k] at e;refine(I.aM b u e).fT (λd v hd q=>i d v ?_ q) (λd q=>at_ d _ q (λZ z=>nomatch z)) λd xs q=>at_ d _ q (λZ z=>nomatch z)
     rcases hd with hd|hd
     .rw [hd];exact k
     .exact t d _ hd (λZ z=>nomatch z)
def Eb{R:g5->Obj->Prop}{a:Arguments}{d:hX}{Q:kd}{E:kd}(I:zv1 s)(j:H P=eW (.gA ps))(y:TriplesOk ps.toList)(N:X.env.code=.ref c)(C:PySem.W.CodeHd X.base c P)
 (ZL:B0 X.mg X.base) (O:closureFor d X.env=pure cl) (ME:defaultsOf a X.env=([],[]))
 (hit:∀i,codeAmong pos ps.toList=eW i->∃c' oc r t,i=.ref c'/\H c'=eW (.bR oc cX)/\R c' oc/\oc.data=.fields r/\r[1]?=eW (.str (X.env.qual++(zu 16)) t))
 (h:∀(f c':g5) (oc:Obj) (r:Array fP) (t:Tok) (B:fP) (tY:Array fP) (h':hZ) (tk:Nat),H f=eX->(H c'=eX\/H c'=eW (.bR oc cX)/\R c' oc)->c'≠f->f≠P->c'≠P->oc.data=.fields r->r[1]?=eW (.str (X.env.qual++(zu 16)) t)->TriplesOk tY.toList->
  (∀p i,codeAmong p tY.toList=eW i->codeAmong p ps.toList=eW i\/i=.ref c')->(∃m,tY=ps++m)->
  Inv X aa σ (iC H P tY c' oc f (PySem.W.kla_obj (zu 16) (X.env.qual++(zu 16)) a body d cl ((X.mg (zu 40)).getD .none) c' B)) {s with heap:=h',toks:=tk}->Q (.ref f) {s with heap:=h',toks:=tk}):
 zx7 X (eval (.Lambda a body d pos) X.env) Q E s:=by
 have F:s.heap.get? P=eW (PySem.W.tabObj ps):=I.aM P _ j;have S:=I.ok.mod.glob.keeps I.bk;have ZT:iv≠P:=λq=>by let(o,es,ep,e,_):=I.ok.mod.glob;have:=(I.bs _ _ e).2;rw [q,j] at this;cases this
 let(bm,ob,b1,b2,b3,T,b5,b6,b7):=ZL;have U:s.heap.BuiltinsAt X.mg P:={bm,ob,b1,b2,b3,(λq=>by have:=(I.bs _ _ T).2;rw [q,j] at this;cases this),I.bk _ _ T,b5,b6,b7}
 refine PySem.W.kla_eval ME ?_;cases hm:codeAmong pos ps.toList with
 |none=>
  refine PySem.W.kla_makeFunction (mg:=X.mg) O I.ok.glob S N (C.keeps I.bk) F y hm ZT U λc' B h' tk hx G K Vr Z5=>?_;let(V,oc,vs,t,e2,L,hd,M):=Vr;cases e2;have D:H c'=eX:=I.aM.fresh G;have g:(zz9 s)<=h'.objs.size:=c4 G (Nat.le_of_lt K);have k:H h'.objs.size=eX:=I.aM.fresh g
  refine h h'.objs.size c' oc vs t B _ _ tk k (.inl D) (dV K) (λz=>by rw [z,j] at k;cases k) (λz=>by rw [z,j] at D;cases D) hd M ?_ ?_ {_,rfl}
   (I.lam j (λb o Y e=>aT _ (hx b o Y e)) (aT _ Z5) {_,rfl} (.inl ⟨D,G⟩) (aT _ L) g (c8 _ rfl) (dV K))
  .rw [Array.toList_append];exact TriplesOk_snoc _ _ _ _ y
  .intro p i e;rw [Array.toList_append] at e;exact wu _ y e
 |some i=>
  let(c',oc,r,t,rfl,u,hR,hd,M):=hit i hm;refine PySem.W.kla_makeFunctionHit (mg:=X.mg) O I.ok.glob S N (C.keeps I.bk) F y hm U λB h' tk hk g=>?_;have k:H h'.objs.size=eX:=I.aM.fresh g;have BU:s.heap.get? c'=eW oc:=(I.aM c' _ u).1;have Z:c'≠h'.objs.size:=λz=>by rw [z,k] at u;cases u
  refine h h'.objs.size c' oc r t B ps _ tk k (.inr ⟨u,hR⟩) Z (λz=>by rw [z,j] at k;cases k) (λz=>by rw [z,j] at u;cases u) hd M y (λp i e=>.inl e) {#[],by simp}
   (I.lam j (λb o Y e=>aT _ (hk b o e)) (aT _ (hk _ _ F)) {#[],by simp} (.inr u) (aT _ (hk _ _ BU)) g (c8 _ rfl) Z)
end
section
variable{w:hG}{κ:Type}[DecidableEq κ]{E:kd}{s:gC}{d:g5}
def yH{c:Array DictEntry}{e:Nat}{Q:kd}(g:(d==sysModules)=fx)(b:s.heap.get? d=eW o)(h:o.ExactDict)(f:o.data=.dict c e)
 (i:Q (.ref (zz9 s)) {s with heap:=s.heap.push {cls:=.type "dict_keyiterator",data:=.fields #[.ref d,.int 0 0,.int c.size 0,.int e 0]}}):hD (hI prog w) A (pyIter (.ref d)) Q E s:=by
 have T:s.TypeIs (.ref d) "dict":=⟨o,b,h.1⟩;refine wpAny_pyIter_slot T F.slot_dict_iter (wpAny_call_entry F.slot_dict_iter T F.entry_dict_iter ?_ (F.args_dict_iter_1 _));unfold ix.«dict.__iter__» ix.Dict.dictSlotNone;refine ar (ar (wpAny_notOrdered_dict T ?_));show hD _ _ (pure (fP.ref d):Sem fP) _ _ s;refine bc ?_;show hD _ _ (ix.Dict.showsAll d>>=λZ=>_) _ _ s;unfold ix.Dict.showsAll;rw [if_neg (by rw [g];exact zzf)];refine ar (bc (ar (wpAny_dictEntries b f (ar (wpAny_dictEpoch b f ?_)))));refine ar (wpAny_newObj_type (bc {_,rfl,"dict_keyiterator",_,{_,c8 _ rfl,rfl},F.slot_dict_keyiterator_next.lookup,?_}));simpa [rawInt] using i
def yI{it:g5}{i e:Nat}{b:Array DictEntry}{Q:Option fP->gC->Prop}(st:s.heap.IsKeyIter it d i b.size e)(f:s.heap.get? d=eW o)(g:o.data=.dict b e)(j:i<b.size)
 (k:∀h',h'.IsKeyIter it d (i+1) b.size e->hZ.SameBut it s.heap h'->Q (eW b[i].key) {s with heap:=h'}):hD (hI prog w) A (pyNext (.ref it)) Q E s:=by
 let(m,g1,g2,c):=id st;have own:ix.Dict_items.ownsTuple "dict_keyiterator"=fx:=↑2
 unfold pyNext;refine ar (wpAny_attempt (wpAny_callSpecial?_slot (name:=Str.ofString (zu 52)) st.typeIs F.slot_dict_keyiterator_next (wpAny_call_entry F.slot_dict_keyiterator_next st.typeIs F.entry_dict_keyiterator_next ?_ (F.args_dict_keyiterator_next_1 _))));refine ar (bc (ar (ar ?_)))
 first|refine ar (wpAny_typeNameOfWhole_keyiter st.typeIs (bc (ar (wpAny_fieldsOf g1 c ?_))))|refine ar (wpAny_typeNameOf_keyiter st.typeIs (bc (ar (wpAny_fieldsOf g1 c ?_))))
 simp! [own,d2,if_false];show hD _ _ (if(fP.ref d==fP.none)=e6 then _ else _:Sem _) _ _ s;rw [if_neg (show¬((fP.ref d==fP.none)=e6) from zzf)];refine ar (bc (ar (wpAny_dictEntries f g ?_)));rw [if_neg (by simp)];refine ar (bc (ar (wpAny_dictEpoch f g ?_)));rw [if_neg (by simp)];refine bc ?_;simp! [show¬((i:Int)<0) from by lia,if_false,ey,eu j];refine ar ?_
 first|refine ar (wpAny_typeNameOfWhole_keyiter st.typeIs (bc (ar (wpAny_isOneOf_keyiter st.typeIs ?_))))|refine ar (wpAny_typeNameOf_keyiter st.typeIs (bc (ar (wpAny_isOneOf_keyiter st.typeIs ?_))))
 show hD _ _ (setField (.ref it) 1 (rawInt ((i:Int)+1))>>=λZ=>_) _ _ s
 have h:(s.heap.update it (Obj.mapFields (·.setIfInBounds 1 (rawInt ((i:Int)+1))))).IsKeyIter it d (i+1) b.size e:=
  {_,hZ.get?_update_self _ g1 (Obj.isFreed_of_fields (Obj.data_mapFields c _)),(Obj.cls_mapFields ..).trans g2,by rw [Obj.data_mapFields c];simp [rawInt]}
 refine ar (wpAny_setField g1 c (by simp) (ar (wpAny_holding (ar (wpAny_isOneOf_keyiter (s:={s with heap:=s.heap.update it (Obj.mapFields (·.setIfInBounds 1 (rawInt ((i:Int)+1))))}) h.typeIs ?_)))));show hD _ _ (pure b[i].key:Sem fP) _ _ _;exact bc (bc {_,rfl,bc (k _ h (ek ..))})
def DC{it:g5}{i f:Nat}{c:Array DictEntry}{Q:Option fP->gC->Prop}(j:A.handled=eX)(st:s.heap.IsKeyIter it d i c.size f)(g:s.heap.get? d=eW o)(h:o.data=.dict c f)(k:c.size<=i)
 (p:∀h',hZ.ExtBut it s.heap h'->Q eX {s with heap:=h'}):hD (hI prog w) A (pyNext (.ref it)) Q E s:=by
 let(q,g1,g2,e):=id st;have own:ix.Dict_items.ownsTuple "dict_keyiterator"=fx:=↑2
 unfold pyNext;refine ar (wpAny_attempt (wpAny_callSpecial?_slot (name:=Str.ofString (zu 52)) st.typeIs F.slot_dict_keyiterator_next (wpAny_call_entry F.slot_dict_keyiterator_next st.typeIs F.entry_dict_keyiterator_next ?_ (F.args_dict_keyiterator_next_1 _))));refine ar (bc (ar (ar ?_)))
 first|refine ar (wpAny_typeNameOfWhole_keyiter st.typeIs (bc (ar (wpAny_fieldsOf g1 e ?_))))|refine ar (wpAny_typeNameOf_keyiter st.typeIs (bc (ar (wpAny_fieldsOf g1 e ?_))))
 simp! [own,d2,if_false];show hD _ _ (if(fP.ref d==fP.none)=e6 then _ else _:Sem _) _ _ s;rw [if_neg (show¬((fP.ref d==fP.none)=e6) from zzf)];refine ar (bc (ar (wpAny_dictEntries g h ?_)));rw [if_neg (by simp)];refine ar (bc (ar (wpAny_dictEpoch g h ?_)));rw [if_neg (by simp)];refine bc ?_;simp! [show¬((i:Int)<0) from by lia,if_false,ey,Array.getElem?_eq_none k];refine ar ?_
 first|refine ar (wpAny_typeNameOfWhole_keyiter st.typeIs (bc ?_))|refine ar (wpAny_typeNameOf_keyiter st.typeIs (bc ?_))
 show hD _ _ (setField (.ref it) 0 .none>>=λZ=>_) _ _ s;refine ar (wpAny_setField g1 e (by simp) ?_);show hD _ _ (newExc (.type (zu 28)) []>>=λZ=>_) _ _ _;refine ar ?_;simp! [newExc,newTuple];refine ar (wpAny_newObj_type (ar (m:=firstArgMember _ _) (wpAny_of_eq (a:=fP.none) (by first|rfl|(simp! [firstArgMember];rfl)) (wpAny_newObj_type ?_ (by size_fits)))) (by size_fits));simp! [raiseNew];refine ar (wpAny_handled ?_);rw [show A.in1.handled=eX from j];refine ar (bc (wpAny_throw ?_));refine ar (wpAny_isInstance (T:=(zu 28)) (b:=e6) {_,c8 _ rfl,rfl} isSubtype_stop ?_);exact bc (p _ (((ek ..).extBut.push _).push _))
end
def xA{c d:Type}{R:c->d->Prop}{l:List c}{m:List d}(r:Paired R l m):∀{i:Nat} {p:c} {q:d},l[i]?=eW p->m[i]?=eW q->R p q:=by
 induction r with
 |nil=>intro i p q h;simp at h|cons h t e=>
  intro i p q a b;cases i with
  |zero=>simp at a b;subst a b;exact h|succ i=>simp at a b;exact e a b
end L2
namespace L2
open PySem.Spec PyProof.Rows PySem.W
abbrev j3{b:Type}(lt:Nat->Nat->Bool):KasT b->b
 |.ret a=>a|.ask i j k=>j3 lt (k (lt i j))
def eO{c:Type}(n:Nat)(R:c->Prop):KasT c->Prop
 |.ret a=>R a|.ask i j k=>i<n/\j<n/\∀b,eO n R (k b)
theorem eO.bind{c d:Type}{n:Nat}{R:c->Prop}{e:d->Prop}{f:c->KasT d}(g:∀a,R a->eO n e (f a)):∀(t:KasT c),eO n R t->eO n e (t.bind f)
 |.ret a,h=>g a h|.ask i j k,h=>{h.1,h.2.1,λb=>eO.bind g (k b) (h.2.2 b)}
theorem eO.run{b:Type}{n:Nat}{R:b->Prop}(lt:Nat->Nat->Bool):∀(t:KasT b),eO n R t->R (j3 lt t)
 |.ret a,h=>h|.ask i j k,h=>eO.run lt (k (lt i j)) (h.2.2 _)
theorem D7{b:Type}{n:Nat}{R:b->Prop}{cmp:Nat->Nat->(Bool->gC->Prop)->gC->Prop}{lt:Nat->Nat->Bool}{Q:b->gC->Prop}{s:gC}
 (c:∀i j C,i<n->j<n->C (lt i j) s->cmp i j C s):∀(t:KasT b),eO n R t->Q (j3 lt t) s->t.kasWp cmp Q s
 |.ret a,_,h=>h|.ask i j k,a,h=>c i j _ a.1 a.2.1 (D7 c (k (lt i j)) (a.2.2 _) h)
noncomputable abbrev Pm(n:Nat)(p:Array Nat):Prop:=p.toList.Perm (List.range n)
def Pm.lt{n:Nat}{p:Array Nat}(h:Pm n p)(a:0<n)(i:Nat):p.getD i 0<n:=by
 rw [Array.getD_eq_getD_getElem?];cases e:p[i]? with
 |none=>exact a|some x=>
  have:x∈p.toList:=by rw [Array.mem_toList_iff];exact Array.mem_of_getElem? e
  exact List.mem_range.mp (h.mem_iff.mp this)
def Pm.rev{n:Nat}{p:Array Nat}(h:Pm n p)(i j:Nat):Pm n (kas_rev p i j):=(mirror_perm p i j _).toList.trans h
def Pm.Zh{n:Nat}{p:Array Nat}(h:Pm n p)(i j:Nat):Pm n (bubble p i j):=(bubble_perm p i j).toList.trans h
section
variable{n:Nat}(h0:0<n)
include h0
theorem nR{p:Array Nat}(h:Pm n p):∀f m,eO n (λZ=>True) (kas_asc p f m)
 |0,m=>trivial|f+1,m=>{h.lt h0 _,h.lt h0 _,λb=>by dsimp only;split;exact trivial;exact nR h f (m+1)}
theorem iP:∀f (p:Array Nat) m q,Pm n p->eO n (λr=>Pm n r.1) (kas_desc f p m q)
 |0,p,m,q,h=>h|f+1,p,m,q,h=>{h.lt h0 _,h.lt h0 _,λb=>by
  cases b with
  |true=>
   dsimp only;rw [if_pos rfl];split
   .exact iP f _ _ _ (h.rev _ _)
   .exact iP f _ _ _ h
  |false=>dsimp only;rw [if_neg (by simp)];exact{h.lt h0 _,h.lt h0 _,λb=>by dsimp only;split;exact h;exact iP f _ _ _ h}}
def qq{p:Array Nat}(h:Pm n p)(m r:Nat):eO n (λr=>Pm n r.2) (kas_tail3 m r p):=by unfold kas_tail3;refine eO.bind (R:=λZ=>True) (λa Z=>?_) _ (nR h0 (h.rev _ _) _ _);exact h.rev 0 m
def qo{p:Array Nat}(h:Pm n p)(m r:Nat):eO n (λr=>Pm n r.2) (kas_descPart m r p):=eO.bind (λa b=>by
 split
 .exact qq h0 (Pm.rev b _ _) _ _
 .exact qq h0 b _ _) _ (iP h0 _ _ _ _ h)
def wx{p:Array Nat}(h:Pm n p)(r:Nat):eO n (λr=>Pm n r.2) (kas_count r p):=eO.bind (λa Z=>by
 split
 .exact h
 .split
  .exact{h.lt h0 _,h.lt h0 _,λb=>by dsimp only;split;exact h;exact qo h0 (h.rev _ _) _ _}
  .exact qo h0 h _ _) _ (nR h0 h _ _)
theorem jv{p:Array Nat}(h:Pm n p)(k:Nat):∀f l r,eO n (λZ=>True) (kas_place p k f l r)
 |0,l,r=>trivial|f+1,l,r=>by
  unfold kas_place;split
  .exact trivial
  .exact{h.lt h0 _,h.lt h0 _,λb=>by dsimp only;split;exact jv h k f _ _;exact jv h k f _ _}
theorem uk:∀f (p:Array Nat) k,Pm n p->eO n (Pm n) (kas_bin f p k)
 |0,p,k,h=>h|f+1,p,k,h=>eO.bind (λl Z=>uk f _ _ (h.Zh _ _)) _ (jv h0 h k _ _ _)
def qp:eO n (Pm n) (kas_sort n):=eO.bind (λa b=>by
 split
 .exact uk h0 _ _ _ b
 .exact b) _ (wx h0 (List.Perm.refl _) n)
end
abbrev xR(n:Nat)(lt:Nat->Nat->Bool):List Nat:=(j3 lt (kas_sort n)).toList
def vI{n:Nat}(h:0<n)(lt:Nat->Nat->Bool):(xR n lt).Perm (List.range n):=eO.run lt _ (qp h)
section
variable{w:hG}{E:kd}{s:gC}{vs:List fP}
def oX{S:g5}{c:Nat}{xs ys:Array fP}(e:h.get? S=eW (j0 "list" xs c)):∃b,(h.update S (Obj.mapSeq λZ=>ys)).get? S=eW (j0 "list" ys b):={_,get?_update_seq e λZ=>ys}
def SX(prog:hF)(w:hG)(A:hT)(E:kd)(vs:List fP)(lt:Nat->Nat->Bool)(s:gC):Prop:=∃b:SortKind,(∀Q:SortKind->gC->Prop,Q b s->hD (hI prog w) A (keyKind' vs.toArray) Q E s)/\∀i j (C:Bool->gC->Prop),i<vs.length->j<vs.length->C (lt i j) s->kas_ask prog w A b vs i j C s
def Bz{n:Nat}{P:PySem.Fin->gC->Prop}{lt:Nat->Nat->Bool}(k:s.heap.get? a=eW (j0 "list" vs.toArray n))(B:2<=vs.length)(C:vs.length<64)(rd:∀h',(∀b o,b≠a->s.heap.get? b=eW o->h'.get? b=eW o)->SX prog w A E vs lt {s with heap:=h'})
 (h:∀h' c,(∀b o,b≠a->s.heap.get? b=eW o->h'.get? b=eW o)->h'.get? a=eW (j0 "list" ((xR vs.length lt).map λi=>vs.getD i fP.none).toArray c)->P (.done (.ret .none)) {s with heap:=h'}):
 hD (hI prog w) A (ix.«list.sort» {[.ref a],[]}) P E s:=by
 have D:=ek s.heap a (Obj.mapSeq λZ=>(#[]:Array fP));obtain⟨m,d⟩:∃m,(s.heap.update a (Obj.mapSeq λZ=>(#[]:Array fP))).get? a=eW (j0 "list" #[] m):={_,get?_update_seq k λZ=>#[]};generalize q:(((s.heap.update a (Obj.mapSeq λZ=>(#[]:Array fP))).push (j0 "tuple" vs.toArray 0)).push (j0 "list" #[] 0))=H1;have y:∀b o,b≠a->s.heap.get? b=eW o->H1.get? b=eW o:=λb o g e=>by rw [<-q];exact aT _ (aT _ ((D.2 b g).trans e))
 have f:H1.get? a=eW (j0 "list" #[] m):=by rw [<-q];exact aT _ (aT _ d)
 let(O,F,r):=rd H1 y;rw [list_sort_plain];refine ar (listItems_at k rfl (ar (listUpdate_at k rfl ?_ (by rw [a5,sizeLine_eq];lia) (Nat.zero_le _))));refine ar (seqEpoch_at d rfl (ar (wpAny_newTuple ?_ (by show vs.length<=_;rw [sizeLine_eq];lia))));refine ar (wpAny_newList ?_ (Nat.zero_le _));refine wpAny_holding ?_;show hD (hI prog w) A _ P E {s with heap:=((s.heap.update a (Obj.mapSeq λZ=>(#[]:Array fP))).push (j0 "tuple" vs.toArray 0)).push (j0 "list" #[] 0)};rw [q];dsimp only;have z:¬vs.toArray.size<2:=by rw [a5];lia
 rw [if_neg z,if_neg z];refine ar (F _ ?_);refine ar (wpAny_mono (kat_run (Q:=λj t=>∃p:Array Nat,p.size=vs.length/\arrOf j=p.map (kas_item (vs.toArray.zip vs.toArray))/\failedOf j=eX/\p=j3 lt (kas_sort vs.length)/\t={s with heap:=H1})
  rfl B C (λG j t f a2 H I=>⟨G,f,a2,H,I⟩) (D7 r _ (qp (by lia)) ⟨rfl,rfl⟩)) ?_ λZ Z e=>e)
 rintro ⟨⟨⟩,j⟩ t ⟨p,K,u,hf,rfl,rfl⟩
 dsimp only;have L:=kat_snds rfl u;rw [L];have M:=ek H1 a (Obj.mapSeq λZ=>List.toArray ((j3 lt (kas_sort vs.length)).toList.map λi=>vs.getD i fP.none));let(N,pT):=oX (ys:=List.toArray ((j3 lt (kas_sort vs.length)).toList.map λi=>vs.getD i fP.none)) f;refine ar (seqEpoch_at f rfl (ar (listUpdate_at f rfl ?_ (Nat.zero_le _) (by show(List.toArray _).size<=_;rw [a5,zzl,d1,K,sizeLine_eq];lia))));rw [hf];simp! [bne_self_eq_false,d2,if_false];exact bc (h _ N (λb o g e=>(M.2 b g).trans (y b o g e)) pT)
end
end L2
namespace L2
open PySem.Spec PyProof.Rows
def AB:typeLookup (.type "list") "keys"=pure eX:=by rw [typeLookup_type,builtinLookup_eq_fast];kernel_rfl
def uG:entryFor table "dict.update.loop"=eW ix.«dict.update.loop»:=entryFor_of_tree ∅
def kO:plainId "dict.update.loop"=e6:=↑1
section
variable{w:hG}{E:kd}{s:gC}{xs:Array fP}{k:Nat}
def Hi{Q:Option fP->gC->Prop}(i:s.heap.get? a=eW o)(j:o.cls=.type "list")(m:o.data=.seq xs k)(hd:o.dict=eX)(r:A.handled=eX)
 (h:∀h' tk,(∀b o,s.heap.get? b=eW o->h'.get? b=eW o)->Q eX {s with heap:=h',toks:=tk}):hD (hI prog w) A (getAttr? (.ref a) "keys") Q E s:=by
 let(c,cy,t,u):=o;simp only at j m hd;subst j m hd;let(y,g,d,tk,os):=s;have p:∀f,(⟨y,g,d,f,os⟩:gC).TypeIs (.ref a) "list":=λZ=>{_,i,rfl};have z:=sub_AttributeError;have B:=F.slot_list_getattribute.lookup;have C:=F.slot_list_getattribute.bind (.ref a);have D:=am_list_getattr_none;unfold getAttr? getAttrBy? getAttrBy
 repeat (any_goals (first|assumption|exact p _|((with_reducible show hD _ _ (call (fP.builtin "list.__getattribute__") _ _) _ _ _);refine call_meets F.slot_list_getattribute (p _) am_entry_list_getattribute (F.args_list_getattribute_2 _ _) (meets_getattribute_miss_list a xs k u "keys" _ AB ↑2 (by size_fits)) ⟨i,r,λh' f e q=>?_⟩)|wp_step))
 let(G,H,I):=q.there;show hD _ _ (getattributeRaised _ _ _ _ _ _ _) _ _ _;unfold getattributeRaised
 repeat (any_goals (first|assumption|wp_step))
 exact h h' f q.keeps
end
end L2
namespace L2
open PySem.Spec PyProof.Rows PySem.W
abbrev tZ{b:Type}(a:b)(l:List b)(c:ku):List b:=if l.length<2 then l else(xR l.length λi j=>HT.lexLt (c.getD i []) (c.getD j [])).map λi=>l.getD i a
section
variable{w:hG}{E:kd}{s:gC}{vs:List fP}{vi:ku}
def Fy{n:Nat}{P:PySem.Fin->gC->Prop}(g:s.heap.get? a=eW (j0 "list" vs.toArray n))(y:vs.length<2)
 (h:∀h' c,(∀b o,b≠a->s.heap.get? b=eW o->h'.get? b=eW o)->h'.get? a=eW (j0 "list" vs.toArray c)->P (.done (.ret .none)) {s with heap:=h'}):hD (hI prog w) A (ix.«list.sort» {[.ref a],[]}) P E s:=by
 have m:=ek s.heap a (Obj.mapSeq λZ=>(#[]:Array fP));let(p,d):=oX (ys:=(#[]:Array fP)) g;generalize i:(((s.heap.update a (Obj.mapSeq λZ=>(#[]:Array fP))).push (j0 "tuple" vs.toArray 0)).push (j0 "list" #[] 0))=H1;have q:∀b o,b≠a->s.heap.get? b=eW o->H1.get? b=eW o:=λb o f e=>by rw [<-i];exact aT _ (aT _ ((m.2 b f).trans e))
 have j:H1.get? a=eW (j0 "list" #[] p):=by rw [<-i];exact aT _ (aT _ d)
 rw [list_sort_plain];refine ar (listItems_at g rfl (ar (listUpdate_at g rfl ?_ (by rw [a5,sizeLine_eq];lia) (Nat.zero_le _))));refine ar (seqEpoch_at d rfl (ar (wpAny_newTuple ?_ (by show vs.length<=_;rw [sizeLine_eq];lia))));refine ar (wpAny_newList ?_ (Nat.zero_le _));refine wpAny_holding ?_;show hD (hI prog w) A _ P E {s with heap:=((s.heap.update a (Obj.mapSeq λZ=>(#[]:Array fP))).push (j0 "tuple" vs.toArray 0)).push (j0 "list" #[] 0)};rw [i];dsimp only;have k:vs.toArray.size<2:=by rw [a5];lia
 rw [if_pos k,if_pos k];refine ar (bc (ar ?_));show hD (hI prog w) A (pure ((),SortSt.mk' general' (vs.toArray.zip vs.toArray) #[] 7 eX)) _ E _;refine bc ?_;dsimp only;have r:(arrOf (SortSt.mk' general' (vs.toArray.zip vs.toArray) #[] 7 eX)).map (·.2)=vs.toArray:=by show(vs.toArray.zip vs.toArray).map (·.2)=vs.toArray;apply Array.toList_inj.mp;simp! [Array.toList_map,Array.toList_zip];exact List.map_snd_zip (a7 _)
 rw [r];have t:=ek H1 a (Obj.mapSeq λZ=>vs.toArray);let(u,pT):=oX (ys:=vs.toArray) j;refine ar (seqEpoch_at j rfl (ar (listUpdate_at j rfl ?_ (Nat.zero_le _) (by rw [a5,sizeLine_eq];lia))));simp! [bne_self_eq_false,d2,if_false];exact bc (h _ u (λb o f e=>(t.2 b f).trans (q b o f e)) pT)
def Fx{n:Nat}{P:PySem.Fin->gC->Prop}(f:s.heap.get? a=eW (j0 "list" vs.toArray n))(g:vs.length<64)(rd:2<=vs.length->∀h',(∀b o,b≠a->s.heap.get? b=eW o->h'.get? b=eW o)->SX prog w A E vs (λi j=>HT.lexLt (vi.getD i []) (vi.getD j [])) {s with heap:=h'})
 (h:∀h' c,(∀b o,b≠a->s.heap.get? b=eW o->h'.get? b=eW o)->h'.get? a=eW (j0 "list" (tZ fP.none vs vi).toArray c)->P (.done (.ret .none)) {s with heap:=h'}):hD (hI prog w) A (ix.«list.sort» {[.ref a],[]}) P E s:=by
 by_cases d:vs.length<2
 .exact Fy f d λh' c k e=>h h' c k (by unfold tZ;rw [if_pos d];exact e)
 .exact Bz f (by lia) g (rd (by lia)) λh' c k e=>h h' c k (by unfold tZ;rw [if_neg d];exact e)
def FC{d:g5}{f:Array DictEntry}{r:Nat}(B:(d==sysModules)=fx)(m:o.ExactDict)(hd:o.data=.dict f r):KdlSrc prog w "dict" d d f.size (λi v=>∃h:i<f.size,v=f[i].key) (λh=>h.get? d=eW o) where
 type:=λs e=>⟨o,e,m.1⟩
 there:=λh e=>{bX e,bX e}
 keep:=λh j e k=>k d (.inl rfl) o e
 notList:=↑2
 notTuple:=↑2
 hint:=λA E s Q e q=>kdl_hint_dict ⟨o,e,m.1⟩ q
 iter:=λA s C e=>{_,λi h=>h.IsKeyIter (zz9 s) d i f.size r/\h.get? d=eW o,(λE Q q=>yH B e m hd q),{
  sub:=λb c=>by simp at c;simp [c]
  frame:=λZ Z Z st hk=>{st.1.at λo e=>hk _ (by simp) o e,hk d (by simp) o st.2}
  item:=λi p Q E t st g=>yI st.1 st.2 hd t λj D u=>g _ j p.toks ⟨t,rfl⟩ {D,(u.2 d (dV (bX e))).trans st.2} λb o c z=>(u.2 b (λy=>c (by simp [y]))).trans z
  done:=λp Q E st g=>DC C st.1 st.2 hd (a7 _) λj F=>g j p.toks λb o c z=>F b o (λy=>c (by simp [y])) z
  self:=λZ Z Z Z st g=>wpAny_pyIter_keyiter st.1 g},{{_,c8 _ rfl,rfl,rfl},aT _ e}}
def uy{Q:List fP->gC->Prop}{T:String}{r d:g5}{n:Nat}{P:Nat->fP->Prop}{j:hZ->Prop}(K:KdlSrc prog w T r d n P j)(m:A.handled=eX)(aM:j s.heap)(hn:n<=h9)
 (p:∀h' tk (acc:Array fP),(∀b o,s.heap.get? b=eW o->h'.get? b=eW o)->ItemsOf P acc n->Q acc.toList {s with heap:=h',toks:=tk}):hD (hI prog w) A (collect (.ref r)) Q E s:=by
 have q:(s.heap.push (j0 "list" #[] 0)).get? (zz9 s)=eW {cls:=.type "list",data:=.seq #[] 0}:=c8 _ rfl;have k:=K.there _ aM
 have h:codeAny (hI prog w) A (.builtin "proto.collect" {[.ref r],[]}) (λc i=>∃h' tk f g,c=.ok (.ret (.ref (zz9 s)))/\i={s with heap:=h',toks:=tk}/\(∀b o,s.heap.get? b=eW o->h'.get? b=eW o)/\h'.get? (zz9 s)=eW {cls:=.type "list",dict:=eX,data:=.seq f g,slots:=#[]}/\ItemsOf P f n) s:=by
  refine codeAny_builtin F.entry_proto_collect ?_;rw [eH F.plain_proto_collect _];show hD _ A.in1 (newList []>>=λl=>again (.builtin "list.__iadd__" {[l,.ref r],[]})) _ _ s
  refine ar (wpAny_newList (bc {plainId_quiet F.plain_list_iadd _,codeAny_builtin F.entry_list_iadd ?_}) (Nat.zero_le _));rw [eH F.plain_list_iadd _];exact kdl_extend (R:=λc i=>∃h' tk f g,c=.ok (.ret (.ref (zz9 s)))/\i={s with heap:=h',toks:=tk}/\(∀b o,s.heap.get? b=eW o->h'.get? b=eW o)/\h'.get? (zz9 s)=eW {cls:=.type "list",dict:=eX,data:=.seq f g,slots:=#[]}/\ItemsOf P f n)
   (s:={s with heap:=s.heap.push (j0 "list" #[] 0)}) (A:=A) K m (K.keep _ _ aM λb Z o e=>aT _ e) _ (Nat.ne_of_gt k.1) (Nat.ne_of_gt k.2) (.ref (zz9 s)) 0 q (λh' tk f g hk t u=>{h',tk,f,g,rfl,rfl,λb o e=>hk b o (dV (bX e)) (aT _ e),t,u}) hn
 unfold collect;refine ar (wpAny_runValue (codeAny_mono h λc i y=>?_));let(h',tk,f,g,rfl,rfl,B,k2,C):=y;show hD _ A (load (zz9 s)>>=λz=>_) _ _ _;exact ar (wpAny_load k2 (bc (p h' tk f B C)))
end
section
variable{s:gC}{vi:ku}{E:kd}
def F4(r:Vals vs us):Vals (tZ V.aP vs vi) (tZ fP.none us vi):=by
 have hl:=r.length;unfold tZ;rw [hl];split
 .exact r
 .have go:∀l:List Nat,Vals (l.map λi=>vs.getD i V.aP) (l.map λi=>us.getD i fP.none):=by
   intro l
   induction l with
   |nil=>exact .nil|cons i l d=>
    refine .cons ?_ d;dsimp only;by_cases a:i<vs.length
    .let(u,e,f):=r.get (zzg a);have b:vs.getD i V.aP=vs[i]:=by simp [a]
     have c:us.getD i fP.none=u:=by simp [e]
     rw [b,c];exact f
    .have b:vs.getD i V.aP=.aP:=by simp [Nat.le_of_not_lt a]
     have c:us.getD i fP.none=.none:=by simp [Nat.le_of_not_lt (hl▸a)]
     rw [b,c];exact rfl
  exact go _
def JE{a:Type}{d:a}{l:List a}:(tZ d l vi).length=l.length:=by
 unfold tZ;split
 .rfl
 .rename_i h;rw [zzl,(vI (by omega) _).length_eq,List.length_range]
def xS(I:zv1 s)(r:Vals vs us)(rd:2<=us.length->∀h',(∀b o,s.heap.get? b=eW o->h'.get? b=eW o)->SX X.prog X.w A.in1 E us (λi j=>HT.lexLt (vi.getD i []) (vi.getD j [])) {s with heap:=h'})(g:vs.length<64)(q:∀p,H p=eX->Q (.ref p) (upd H p (.lst (tZ V.aP vs vi)))):
 hD (hI X.prog X.w) A (newList us>>=λl=>holding [l] (call (.builtin "list.sort") [l] [])>>=λZ=>ret l) (λfin s'=>∃v,fin=.done (.ret v)/\EP X aa σ Q v s') E s:=by
 have hl:=r.length;refine ar (wpAny_newList ?_ (by rw [sizeLine_eq];lia));have d:(s.heap.push (j0 "list" us.toArray 0)).get? (zz9 s)=eW (j0 "list" us.toArray 0):=c8 _ rfl;have kp:∀b o,s.heap.get? b=eW o->(s.heap.push (j0 "list" us.toArray 0)).get? b=eW o:=λb o e=>aT _ e;refine ar (wpAny_holding (wpAny_call_entry slot_list_sort {_,d,rfl} entry_list_sort ?_ (args_list_sort _)));refine Fx (s:={s with heap:=s.heap.push (j0 "list" us.toArray 0)}) d (by lia) (λf h' k=>rd f h' λb o e=>k b o (dV (bX e)) (kp b o e)) λh' c k e=>{_,rfl,bc {_,rfl,.ref (zz9 s),upd H (zz9 s) (.lst (tZ V.aP vs vi)),?_,rfl,q _ (I.aM.fresh (a7 _))}};exact I.laid (a:=(zz9 s)) (t':=s.toks) (λb o z=>k b o (dV (bX z)) (kp b o z)) (a7 _) {by rw [JE,sizeLine_eq];lia,_,c,F4 r,e}
end
end L2
namespace L2
open PySem.Spec PyProof.Rows
end L2
namespace Ci
open L2
def aO{p:Prop}(h:fx=e6):p:=absurd h zzf
inductive PV where
 |aP|bl (b:Bool)|int (i:Int)|str (z:Str)
 |tup (xs:List PV)|lst (xs:List PV)
 |exc (c:Str)
 |cy (ks:List Str) (vs:List PV)
 |obj (n:Nat)
 deriving Inhabited
structure Ob where
 a:g5
 dx:g5
 C:g5
 c:Str
 fs:List (Str×PV)
structure Wd where
 K:zz8
 mg:Str->Option fP
 xs:List Str
 ts:List (g5×Str):=[]
 ob:List Ob:=[]
def ub(K:zz8)(H:Hp)(a:g5)(vs:List V):Prop:=
 Rd H a (.lst vs)\/∃(b:Array fP) (n:Nat),K.lookup a=eW {cls:=.type "list",data:=.seq b n}/\b.size<=h9/\Vals vs b.toList
def KY(K:zz8)(G:Hp)(a:g5)(vs:List V):Prop:=G a=eW (.tup vs)\/gz K G a vs/\∃z,V.str z∈vs
theorem KY.sq{K:zz8}:KY K G a vs->gz K G a vs
 |.inl h=>.inl (.inl h)|.inr h=>h.1
abbrev kz(ks:List Str)(us:List V):List (Key×V):=(ks.map Sum.inr).zip us
mutual
def Rep(W:Wd)(G:Hp):PV->V->Prop
 |.aP,v=>v=.aP|.bl b,v=>v=.bl b|.int i,v=>v=.int i|.str z,v=>v=.str z|.tup xs,v=>∃a vs,v=.ref a/\KY W.K G a vs/\ah W G xs vs|.lst xs,v=>∃a vs,v=.ref a/\ub W.K G a vs/\ah W G xs vs|.exc c,v=>∃a C,v=.ref a/\c∈W.xs/\W.mg c=eW (.ref C)/\G a=eW (mQ a C)|.cy ks vs,v=>∃a o us,v=.ref a/\ks.length=us.length/\G a=eW (.bR o (.dK (kz ks us)))/\ah W G vs us|.obj n,v=>∃o,W.ob[n]?=eW o/\v=.ref o.a
def ah(W:Wd)(G:Hp):List PV->List V->Prop
 |[],vs=>vs=[]|p::ps,vs=>∃v r,vs=v::r/\Rep W G p v/\ah W G ps r
end
def aA.tup{K:zz8}{b:Hp}{xs:List V}(e:aA H b)(h:gz K H a xs):gz K b a xs:=by
 rcases h with(h|⟨o,h⟩)|h
 .exact .inl (.inl (e _ _ h))
 .exact .inl (.inr {o,e _ _ h})
 .exact .inr h
def aA.tp{K:zz8}{b:Hp}{xs:List V}(e:aA H b)(h:KY K H a xs):KY K b a xs:=h.elim (λz=>.inl (e _ _ z)) λz=>.inr {aA.tup e z.1,z.2}
def aA.rd{b:Hp}{u:HO}(e:aA H b)(h:Rd H a u):Rd b a u:=by
 rcases h with h|⟨o,h⟩
 .exact .inl (e _ _ h)
 .exact .inr {o,e _ _ h}
def aA.ls{K:zz8}{b:Hp}(e:aA H b)(h:ub K H a vs):ub K b a vs:=h.elim (λz=>.inl (aA.rd e z)) .inr
section
variable{W:Wd}{G':Hp}
mutual
theorem Rep.same(s:aA G G'):∀(p:PV) {v:V},Rep W G p v->Rep W G' p v
 |.aP,_,h=>by simpa only [Rep] using h|.bl b,_,h=>by simpa only [Rep] using h|.int i,_,h=>by simpa only [Rep] using h|.str z,_,h=>by simpa only [Rep] using h|.tup xs,_,h=>by simp! [Rep] at h⊢;let(a,vs,e,q,l):=h;exact{a,vs,e,aA.tp s q,ah.same s xs l}|.lst xs,_,h=>by simp! [Rep] at h⊢;let(a,vs,e,q,l):=h;exact{a,vs,e,aA.ls s q,ah.same s xs l}|.exc c,_,h=>by simp! [Rep] at h⊢;let(a,C,e,x,m,q):=h;exact{a,C,e,x,m,s _ _ q}|.cy f vs,_,h=>by simp! [Rep] at h⊢;let(a,o,d,e,n,m,l):=h;exact{a,o,d,e,n,s _ _ m,ah.same s vs l}|.obj n,_,h=>by simpa only [Rep] using h
theorem ah.same(s:aA G G'):∀(ps:List PV) {vs:List V},ah W G ps vs->ah W G' ps vs
 |[],_,h=>by simpa only [ah] using h|p::ps,_,h=>by simp! [ah] at h⊢;let(v,r,e,a,b):=h;exact{v,r,e,Rep.same s p a,ah.same s ps b}
end
theorem ah.paired:∀{ps:List PV} {vs:List V},ah W G ps vs->Paired (λv p=>Rep W G p v) vs ps
 |[],_,h=>by simp! [ah] at h;subst h;exact .nil|p::ps,_,h=>by simp! [ah] at h;let(v,r,rfl,a,b):=h;exact .cons a (ah.paired b)
def ah.length{ps:List PV}(h:ah W G ps vs):vs.length=ps.length:=xB h.paired
def ah.nil:ah W G [] []:=by simp! [ah]
def ah.cons{p:PV}{v:V}{ps:List PV}{vs:List V}(h:Rep W G p v)(t:ah W G ps vs):ah W G (p::ps) (v::vs):=by simp! [ah];exact{_,_,rfl,h,t}
def ah.aZ{p:PV}{ps:List PV}(h:ah W G (p::ps) vs):∃v r,vs=v::r/\Rep W G p v/\ah W G ps r:=by simpa only [ah] using h
theorem ah.append:∀{ps qs:List PV} {vs us:List V},ah W G ps vs->ah W G qs us->ah W G (ps++qs) (vs++us)
 |[],_,_,_,h,k=>by simp! [ah] at h;subst h;exact k|p::ps,_,_,_,h,k=>by let(v,r,rfl,a,b):=h.aZ;exact .cons a (b.append k)
def ah.get:∀{ps:List PV} {vs:List V} {i:Nat} {v:V},ah W G ps vs->vs[i]?=eW v->∃p,ps[i]?=eW p/\Rep W G p v:=λh e=>Bm h.paired e
theorem ah.rV:∀{ps:List PV} {vs:List V} {i:Nat} {p:PV},ah W G ps vs->ps[i]?=eW p->∃v,vs[i]?=eW v/\Rep W G p v
 |[],_,_,_,_,e=>by simp at e|p::ps,_,0,q,h,e=>by let(v,r,rfl,a,b):=h.aZ;simp at e;subst e;exact⟨v,rfl,a⟩|p::ps,_,i+1,q,h,e=>by let(v,r,rfl,a,b):=h.aZ;let(u,c,k):=b.rV (i:=i) (zx6 e);exact{u,zx6 c,k}
theorem ah.drop:∀{ps:List PV} {vs:List V} (n:Nat),ah W G ps vs->ah W G (ps.drop n) (vs.drop n)
 |_,_,0,h=>zx6 h|[],_,n+1,h=>by simp! [ah] at h;subst h;simp! [List.drop_nil];exact .nil|p::ps,_,n+1,h=>by let(v,r,rfl,b,a):=h.aZ;simpa using a.drop n
theorem ah.take:∀{ps:List PV} {vs:List V} (n:Nat),ah W G ps vs->ah W G (ps.take n) (vs.take n)
 |_,_,0,h=>by simp! [List.take_zero];exact .nil|[],_,n+1,h=>by simp! [ah] at h;subst h;simp! [List.take_nil];exact .nil|p::ps,_,n+1,h=>by let(v,r,rfl,a,b):=h.aZ;simp! [List.take_succ_cons];exact .cons a (b.take n)
end
def jb(H c:Hp):Prop:=∀b o,H b=eW o->(∀a,o≠.gA a)/\c b=eW o\/∃a m,o=.gA a/\c b=eW (.gA (a++m))
def jb.refl(H:Hp):jb H H:=λb o h=>by
 cases o with
 |gA a=>exact .inr {a,#[],rfl,zx6 h}|_=>exact .inl {(λZ z=>nomatch z),h}
def jb.trans{f:Hp}(a:jb H H1)(b:jb H1 f):jb H f:=λc o h=>by
 rcases a c o h with⟨n,e⟩|⟨d,m,rfl,e⟩
 .rcases b c o e with y|⟨d,m,rfl,g⟩
  .exact .inl y
  .exact absurd rfl (n d)
 .rcases b c _ e with⟨n,_⟩|⟨j,i,g,e3⟩
  .exact absurd rfl (n _)
  .cases g;exact .inr {d,m++i,rfl,by rw [e3,Array.append_assoc]}
def jb.free{a:Hp}(e:jb H a){l:g5}(h:a l=Option.none):H l=Option.none:=by
 cases q:H l with
 |none=>rfl|some o=>
  rcases e l o q with⟨_,z⟩|⟨_,_,_,z⟩
  .rw [h] at z;cases z
  .rw [h] at z;cases z
def jb.at{a:Hp}(e:jb H a){b:g5}{o:HO}(h:H b=eW o)(n:∀ps,o≠.gA ps):a b=eW o:=by
 rcases e b o h with⟨_,z⟩|⟨ps,_,rfl,_⟩
 .exact z
 .exact absurd rfl (n ps)
def jb.jj{a:Hp}(e:jb H a){b:g5}(h:H b≠eX)(n:∀vs,H b≠eW (.tup vs)):∀vs,a b≠eW (.tup vs):=λvs z=>by
 cases q:H b with
 |none=>exact h q|some o=>
  rcases e b o q with⟨_,y⟩|⟨_,_,_,y⟩
  .rw [z] at y;cases y;exact n vs q
  .rw [z] at y;cases y
def jb.of{a:Hp}(e:aA H a):jb H a:=λb o h=>by
 cases o with
 |gA c=>exact .inr {c,#[],rfl,by simpa using e _ _ h}|_=>exact .inl {(λZ z=>nomatch z),e _ _ h}
def jb.tup{K:zz8}{b:Hp}{xs:List V}(e:jb H b)(h:gz K H a xs):gz K b a xs:=by
 rcases h with(h|⟨o,h⟩)|h
 .exact .inl (.inl (e.at h (λZ z=>nomatch z)))
 .exact .inl (.inr {o,e.at h (λZ z=>nomatch z)})
 .exact .inr h
def jb.ls{K:zz8}{b:Hp}(e:jb H b)(h:ub K H a vs):ub K b a vs:=by
 rcases h with(h|⟨o,h⟩)|h
 .exact .inl (.inl (e.at h (λZ z=>nomatch z)))
 .exact .inl (.inr {o,e.at h (λZ z=>nomatch z)})
 .exact .inr h
def PY:HO->Prop
 |.gA _=>True|.ins _ _ _=>True|.dK _=>True|.lst _=>True|_=>False
def DT(c:Str):Bool:=c=="#d"
def DV(c:Str):Bool:=c=="#l"
def bA(c:Str):Bool:=DT c||DV c
abbrev mG(o:Ob)(vs:List V):HO:=if DT o.c then .dK (kz (o.fs.map (·.1)) vs) else if DV o.c then .lst vs else .ins o.C o.dx ((o.fs.map (·.1)).zip vs)
def ny{o:Ob}(h:bA o.c=fx):mG o vs=.ins o.C o.dx ((o.fs.map (·.1)).zip vs):=by unfold bA at h;rw [Bool.or_eq_false_iff] at h;unfold mG;rw [h.1,h.2];rfl
def IK(o:Ob)(vs:List V):PY (mG o vs):=by
 unfold mG;split
 .exact trivial
 .split
  .exact trivial
  .exact trivial
def sD(o:Ob)(vs us:List V):mG o vs≠.tup us:=by
 unfold mG;split
 .exact nofun
 .split
  .exact nofun
  .exact nofun
def zm(o:Ob)(vs:List V)(ps:Array fP):mG o vs≠.gA ps:=by
 unfold mG;split
 .exact nofun
 .split
  .exact nofun
  .exact nofun
def uc(W:Wd)(G H:Hp):Prop:=∀(n:Nat) (o:Ob),W.ob[n]?=eW o->G o.a=eX/\∃b,H o.a=eW (mG o b)/\ah W G (o.fs.map (·.2)) b
def ko(W:Wd)(G H:Hp):Prop:=∀P q,(P,q)∈W.ts->G P=eX/\∃a,H P=eW (.gA a)/\TriplesOk a.toList/\
 ∀b c,codeAmong b a.toList=eW c->∃d oc e t,c=.ref d/\G d=eW (.bR oc cX)/\oc.data=.fields e/\e[1]?=eW (.str q t)
structure bu(W:Wd)(G H:Hp):Prop where
 t:ko W G H
 o:uc W G H
theorem uc.same{W:Wd}{b d:Hp}(t:uc W G H)(g:aA G b)(own:∀a,H a≠eX->(∀vs,H a≠eW (.tup vs))->G a=eX->b a=eX)(h:∀P o,PY o->H P=eW o->d P=eW o):uc W b d:=λn o m=>by let(e,vs,c,l):=t n o m;exact{own o.a (by rw [c];exact nofun) (by rw [c];exact λf z=>sD o vs f (zzq z)) e,vs,h _ _ (IK o vs) c,ah.same g _ l}
theorem ko.same{W:Wd}{b d:Hp}(t:ko W G H)(g:aA G b)(own:∀a,H a≠eX->(∀vs,H a≠eW (.tup vs))->G a=eX->b a=eX)(h:∀P ps,H P=eW (.gA ps)->d P=eW (.gA ps)):ko W b d:=λP q m=>by let(n,ps,e,f,i):=t P q m;refine{own P (by rw [e];exact nofun) (by rw [e];exact λZ z=>nomatch z) n,ps,h P ps e,f,λc j y=>?_};let(k,oc,o,t,p,r,e3,s):=i c j y;exact{k,oc,o,t,p,g _ _ r,e3,s}
def bu.same{W:Wd}{b c:Hp}(t:bu W G H)(g:aA G b)(own:∀a,H a≠eX->(∀vs,H a≠eW (.tup vs))->G a=eX->b a=eX)(h:∀P o,PY o->H P=eW o->c P=eW o):bu W b c:=
 {t.t.same g own λP d e=>h P (.gA d) trivial e,t.o.same g own h}
structure aE(W:Wd)(G H G' H':Hp):Prop where
 g:aA G G'
 h:jb H H'
 sub:aA G' H'
 own:∀a,H a≠eX->(∀vs,H a≠eW (.tup vs))->G a=eX->G' a=eX
 tb:ko W G H->ko W G' H'
theorem aE.tab{W:Wd}{d e:Hp}(g:aE W G H d e)(t:bu W G H):bu W d e:={g.tb t.t,λn o m=>by let(f,b,c,l):=t.o n o m;exact{g.own o.a (by rw [c];exact nofun) (by rw [c];exact λi z=>sD o b i (zzq z)) f,b,g.h.at c (zm o b),ah.same g.g _ l}}
section
variable{W:Wd}
def aE.refl(s:aA G H):aE W G H G H:={aA.refl _,jb.refl _,s,λZ Z Z h=>h,id}
def aE.trans{d G2 e:Hp}(a:aE W G H d H1)(b:aE W d H1 G2 e):aE W G H G2 e:=
 {a.g.trans b.g,a.h.trans b.h,b.sub,λx c f i=>b.own x (λz=>c (a.h.free z)) (a.h.jj c f) (a.own x c f i),λt=>b.tb (a.tb t)}
def zR{p:g5}{o:HO}(h:∀u,PY u->H p≠eW u)(P:g5)(u:HO)(k:PY u)(e:H P=eW u):upd H p o P=eW u:=by rw [ai (λz=>by subst z;exact h u k e)];exact e
theorem aE.new{p:g5}{o:HO}(s:aA G H)(h:H p=eX):aE W G H (upd G p o) (upd H p o) where
 g:=bo (s.free h)
 h:=.of (bo h)
 sub:=λb u e=>by
  by_cases f:b=p
  .subst f;rw [aq] at e⊢;exact e
  .rw [ai f] at e⊢;exact s _ _ e
 own:=λa c Z d=>by
  have:a≠p:=λz=>by subst z;exact c h
  rw [ai this];exact d
 tb:=λt=>t.same (bo (s.free h)) (λa c Z d=>by
  have:a≠p:=λz=>by subst z;exact c h
  rw [ai this];exact d) (λP i e=>zR (λu Z z=>by rw [h] at z;cases z) P (.gA i) trivial e)
def aE.VZ{p:g5}{o:HO}(s:aA G H)(h:H p=eX):aE W G H G (upd H p o):=
 {aA.refl _,.of (bo h),s.trans (bo h),λZ Z Z a=>a,λt=>t.same (aA.refl _) (λZ Z Z h=>h) (λP b e=>zR (λu Z z=>by rw [h] at z;cases z) P (.gA b) trivial e)}
end
abbrev bz(a:hX):List Str:=((a.names.filter λp=>p.2==.free).map (·.1)).reverse
abbrev okN(x:Str):Bool:=!(x==(zu 23))&&!(x=="__classdict__")&&!(x==(zu 40))
abbrev fi(x:Str):Bool:=x.cps.toList.contains 64
def lW{b:Type}{a:b}{p:Prop}(h:(eX:Option b)=eW a):p:=nomatch h
abbrev j8:hB->Option Str
 |.Name x _=>eW x|_=>eX
def eS(h:j8 e=eW x):∃p,e=.Name x p:=by
 cases e with
 |Name y p=>cases h;exact{_,rfl}
 |_=>exact lW h
abbrev BP:hB->Option (hB×List hB×List Keyword×Pos)
 |.Call f a k p=>eW (f,a,k,p)|_=>eX
def gE{q:hB×List hB×List Keyword×Pos}(h:BP e=eW q):e=.Call q.1 q.2.1 q.2.2.1 q.2.2.2:=by
 cases e with
 |Call f a k p=>cases h;rfl
 |_=>exact lW h
abbrev UH:List Arg->Option (List Str)
 |[]=>eW []|[a]=>eW [a.arg]|_=>eX
abbrev uh(p:Arguments):Option (List Str):=if(p.posonlyargs.isEmpty&&p.vararg.isNone&&p.kwonlyargs.isEmpty&&p.kw_defaults.isEmpty&&p.kwarg.isNone&&p.defaults.isEmpty)=e6 then UH p.args else eX
def yj{p:Arguments}{ps:List Str}(h:uh p=eW ps):(p={[],[],eX,[],[],eX,[]}/\ps=[])\/∃a,p={[],[a],eX,[],[],eX,[]}/\ps=[a.arg]:=by
 let(a,b,c,d,e,f,g):=p;unfold uh at h;split at h
 .rename_i q;simp! [zza,List.isEmpty_iff,Option.isNone_iff_eq_none] at q;let(((((i,j),k),m),o),r):=q
  subst i j k m o r;cases b with
  |nil=>cases h;exact .inl ⟨rfl,rfl⟩
  |cons a b=>
   cases b with
   |nil=>cases h;exact .inr ⟨a,rfl,rfl⟩
   |cons _ _=>exact lW h
 .exact lW h
abbrev Wu(ps:List Str)(a:hX):Bool:=
 a.kind==.function&&!a.isCoroutine&&!a.isGenerator&&decide ((ps++bz a).Nodup)&&(a.names.all λy=>decide (y.2≠.cell))&&(ps.all λx=>decide (a.names.lookup x=eW .local))&&((bz a).all λx=>decide (a.names.lookup x=eW .free))
inductive Slot where
 |no|val (p:PV)|own (p:PV)
 deriving Inhabited
noncomputable abbrev Sl:=List Slot
def Own(W:Wd)(H0 G H:Hp):PV->V->Prop
 |.lst xs,v=>∃a vs,v=.ref a/\H a=eW (.lst vs)/\G a=eX/\H0 a=eX/\ah W G xs vs|.cy ks ps,v=>∃a us,v=.ref a/\ks.length=us.length/\H a=eW (.dK (kz ks us))/\G a=eX/\H0 a=eX/\ah W G ps us|_,_=>False
noncomputable abbrev BY:Hp:=λZ=>eX
theorem Own.any{W:Wd}:∀{p:PV} {v:V},Own W H0 G H p v->Own W BY G H p v
 |.lst xs,_,h=>by let(a,vs,e,b,c,d,l):=h;exact⟨a,vs,e,b,c,rfl,l⟩|.cy f g,_,h=>by let(a,vs,e,n,b,c,d,l):=h;exact⟨a,vs,e,n,b,c,rfl,l⟩|.aP,_,h=>h|.bl _,_,h=>h|.int _,_,h=>h|.str _,_,h=>h|.tup _,_,h=>h|.exc _,_,h=>h|.obj _,_,h=>h
abbrev Ax(o:Ob):PV:=if DT o.c then .cy (o.fs.map (·.1)) (o.fs.map (·.2)) else .lst (o.fs.map (·.2))
def Hc{W:Wd}{n:Nat}{o:Ob}(t:uc W G H)(e:W.ob[n]?=eW o)(d:bA o.c=e6):Own W BY G H (Ax o) (.ref o.a):=by
 let(f,g,b,l):=t n o e;unfold mG at b;unfold Ax;by_cases hd:DT o.c=e6
 .rw [if_pos hd] at b⊢;exact{o.a,g,rfl,by have:=l.length;rw [zzl] at this⊢;lia,b,f,rfl,l}
 .rw [if_neg hd] at b⊢;have hl:DV o.c=e6:=by
   unfold bA at d;rw [ej] at d;exact d.resolve_left hd
  rw [if_pos hl] at b;exact⟨o.a,g,rfl,b,f,rfl,l⟩
def Top(W:Wd)(H0 G H:Hp)(p:PV)(v:V):Prop:=Rep W G p v\/Own W H0 G H p v
def B7(W:Wd)(H0 G H:Hp):Slot->Option V->Prop
 |.no,_=>True|.val p,o=>∃v,o=eW v/\Rep W G p v|.own p,o=>∃v,o=eW v/\Own W H0 G H p v
structure SR(W:Wd)(H0:Hp)(env:Sl)(σ:St)(G H:Hp):Prop where
 len:env.length=σ.length
 sub:aA G H
 base:jb H0 H
 slot:∀(i:Nat) (s:Slot),env[i]?=eW s->∃o,σ[i]?=eW o/\B7 W H0 G H s o
 apart:∀(i j:Nat) (p q:PV) (a:g5),env[i]?=eW (.own p)->env[j]?=eW (.own q)->σ[i]?=eW (eW (.ref a))->σ[j]?=eW (eW (.ref a))->i=j
 tab:bu W G H
 jf:bu W G H0
section
variable{W:Wd}{G' H':Hp}{env:Sl}
theorem Own.grow(g:aE W G H G' H'):∀{p:PV} {v:V},Own W H0 G H p v->Own W H0 G' H' p v
 |.lst xs,_,h=>by let(a,vs,e,b,c,d,l):=h;exact{a,vs,e,g.h.at b (λZ z=>nomatch z),g.own a (by rw [b];exact λz=>by cases z) (by rw [b];exact λZ z=>by cases z) c,d,ah.same g.g xs l}
 |.cy i f,_,h=>by let(a,vs,e,n,b,c,d,l):=h;exact{a,vs,e,n,g.h.at b (λZ z=>nomatch z),g.own a (by rw [b];exact λz=>by cases z) (by rw [b];exact λZ z=>by cases z) c,d,ah.same g.g f l}
 |.aP,_,h=>h|.bl _,_,h=>h|.int _,_,h=>h|.str _,_,h=>h|.tup _,_,h=>h|.exc _,_,h=>h|.obj _,_,h=>h
theorem B7.grow(g:aE W G H G' H'):∀{s:Slot} {o:Option V},B7 W H0 G H s o->B7 W H0 G' H' s o
 |.no,_,_=>trivial|.val p,_,h=>by let(v,e,r):=h;exact{v,e,Rep.same g.g p r}|.own p,_,h=>by let(v,e,r):=h;exact{v,e,r.grow g}
theorem SR.grow(r:SR W H0 env σ G H)(g:aE W G H G' H'):SR W H0 env σ G' H':=
 {r.len,g.sub,r.base.trans g.h,λi s e=>by let(o,b,c):=r.slot i s e;exact{o,b,c.grow g},r.apart,g.tab r.tab,r.jf.same g.g (λa b d c=>g.own a (λz=>b (r.base.free z)) (r.base.jj b d) c) λZ Z Z h=>h}
def Top.grow{p:PV}(g:aE W G H G' H')(h:Top W H0 G H p v):Top W H0 G' H' p v:=h.elim (λz=>.inl (Rep.same g.g p z)) λz=>.inr (z.grow g)
def Top.lst{xs:List PV}(s:aA G H)(h:Top W H0 G H (.lst xs) v):∃a vs,v=.ref a/\ub W.K H a vs/\ah W G xs vs:=by
 rcases h with h|h
 .simp! [Rep] at h;let(a,vs,e,q,l):=h;exact{a,vs,e,aA.ls s q,l}
 .let(a,vs,e,b,_,_,l):=h;exact{a,vs,e,.inl (.inl b),l}
def Top.tup{xs:List PV}(s:aA G H)(h:Top W H0 G H (.tup xs) v):∃a vs,v=.ref a/\gz W.K H a vs/\ah W G xs vs:=by
 rcases h with h|h
 .simp! [Rep] at h;let(a,vs,e,q,l):=h;exact{a,vs,e,aA.tup s q.sq,l}
 .exact h.elim
def Top.cy{ps:List PV}(s:aA G H)(h:Top W H0 G H (.cy ks ps) v):∃a us,v=.ref a/\ks.length=us.length/\Rd H a (.dK (kz ks us))/\ah W G ps us:=by
 rcases h with h|h
 .simp! [Rep] at h;let(a,o,us,e,n,q,l):=h;exact{a,us,e,n,.inr {o,s _ _ q},l}
 .let(a,b,e,n,q,_,_,l):=h;exact{a,b,e,n,.inl q,l}
def Top.int{i:Int}(h:Top W H0 G H (.int i) v):v=.int i:=h.elim (λz=>by simpa only [Rep] using z) λz=>z.elim
def Top.bl{b:Bool}(h:Top W H0 G H (.bl b) v):v=.bl b:=h.elim (λz=>by simpa only [Rep] using z) λz=>z.elim
def Top.str{b:Str}(h:Top W H0 G H (.str b) v):v=.str b:=h.elim (λz=>by simpa only [Rep] using z) λz=>z.elim
def Top.aP(h:Top W H0 G H .aP v):v=.aP:=h.elim (λz=>by simpa only [Rep] using z) λz=>z.elim
def Rep.i{i:Int}:Rep W G (.int i) (.int i):=by simp! [Rep]
def Rep.b{i:Bool}:Rep W G (.bl i) (.bl i):=by simp! [Rep]
def Rep.s{i:Str}:Rep W G (.str i) (.str i):=by simp! [Rep]
def Rep.n:Rep W G .aP .aP:=by simp! [Rep]
def Rep.l{xs:List PV}(h:ub W.K G a vs)(l:ah W G xs vs):Rep W G (.lst xs) (.ref a):=by simp! [Rep];exact⟨a,vs,rfl,h,l⟩
def Rep.t{xs:List PV}(h:KY W.K G a vs)(l:ah W G xs vs):Rep W G (.tup xs) (.ref a):=by simp! [Rep];exact⟨a,vs,rfl,h,l⟩
end
end Ci
variable{xs ys ps:List Ci.PV}{env:Ci.Sl}{q:Ci.PV}
namespace L2
open PySem.Spec PyProof.Rows
end L2
namespace HT
open PySem.Spec PyProof.Rows
section
variable{w:hG}{E:kd}{s:gC}
def ug{d:g5}{c:fP}{n:Nat}{Q:Int×Int×Nat->gC->Prop}(hs:s.heap.IsSliceOf d .none .none c)(f:IsPart c (eW (-1)))
 (h:Q ((n:Int)-1, -1,n) s):hD (hI prog w) A (ix.Slice.sliceApplied (.ref d) (pure (n:Int))) Q E s:=by
 let(os,a,g,b):=id hs
 unfold ix.Slice.sliceApplied ix.Slice.sliceFields;refine ar (ar (wpAny_field a b (x:=.none) rfl (ar (wpAny_field a b (x:=.none) rfl (ar (wpAny_field a b (x:=c) rfl (bc ?_)))))));refine ar (kf f ?_);show hD _ _ (if((-1:Int)==0)=e6 then _ else _) _ _ s;rw [if_neg ↑2];refine ar (slicePart_none (ar (slicePart_none (ar (bc ?_)))));show hD _ _ (pure ((n:Int)-1,(-1:Int),ix.Slice.slicePlaces ((n:Int)-1) (-1) (-1))) _ _ s;have e:ix.Slice.slicePlaces ((n:Int)-1) (-1) (-1)=n:=by
  unfold ix.Slice.slicePlaces;rw [if_neg ↑2];split
  .have:((n:Int)-1 - -1-1)/(- -1)+1=n:=by rw [show(- -1:Int)=1 from rfl,Int.ediv_one];lia
   rw [this];lia
  .lia
 rw [e];exact bc h
theorem uM{b c:Type}{f g:b->Option c}:∀(l:List b),(∀m∈l,f m=g m)->l.filterMap f=l.filterMap g
 |[],_=>rfl|a::l,h=>by rw [List.filterMap_cons,List.filterMap_cons,h a (b4 ..),uM l λm hm=>h m (bI _ hm)]
def E4(xs:Array fP):((List.range xs.size).filterMap λ(m:Nat)=>xs[((xs.size:Int)-1+(m:Int)*(-1)).toNat]?).toArray=xs.toList.reverse.toArray:=by
 congr 1
 refine List.ext_getElem? λi=>?_
 have a:∀k,k<=xs.size->(List.range k).filterMap (λ(m:Nat)=>xs[((xs.size:Int)-1+(m:Int)*(-1)).toNat]?)=(List.range k).filterMap λm=>xs.toList.reverse[m]?:=λk hk=>by
  refine uM _ λm hm=>?_;have:=List.mem_range.1 hm;rw [List.getElem?_reverse (by simpa using (by omega:m<xs.size)),Array.getElem?_toList,d1]
  congr 1
  omega
 rw [a _ (a7 _)];have:∀l:List fP,(List.range l.length).filterMap (λm=>l[m]?)=l:=λl=>by have:=PySem.W.krv_all l.toArray;simpa using this
 have:=this xs.toList.reverse;rw [List.length_reverse,d1] at this;rw [this]
def kS{t b:g5}{d:fP}{Q:kd}(a:IsTup s.heap t items)(hs:s.heap.IsSliceOf b .none .none d)(f:IsPart d (eW (-1)))
 (h:Q (.ref (zz9 s)) {s with heap:=s.heap.push {cls:=.type "tuple",data:=.seq items.toList.reverse.toArray}})
 (hsz:items.size<=h9):hD (hI prog w) A (getItem (.ref t) (.ref b)) Q E s:=by
 have e:sizeOk (.seq items.toList.reverse.toArray):=by show items.toList.reverse.toArray.size<=h9;rw [a5,List.length_reverse,d1];exact hsz
 let(os,c,g,i):=id hs;have j:s.TypeIs (.ref b) "slice":=⟨os,c,g⟩;unfold getItem
 try with_reducible refine wpAny_holding ?_
 first|refine ar (bc ?_)|skip
 refine ar (wpAny_sequenceKey a.typeIs ↑2 ?_);refine ar (wpAny_callSpecial?_slot (name:=Str.ofString "__getitem__") a.typeIs PyProof.Rows.slot_tuple_getitem
  (wpAny_call_entry PyProof.Rows.slot_tuple_getitem a.typeIs entry_tuple_getitem ?_ (args_tuple_getitem _ _)))
 show hD _ _ (ix.Tuple.tupleItemsOf (.ref t)>>=_) _ _ s;refine ar (tupleItemsOf_ a ?_);refine ar (wpAny_typeOf j ?_);rw [if_pos ↑2];refine ar (ug hs f ?_);have k:¬((((items.size:Int)-1)==0&&(-1:Int)==1&&items.size==items.size)=e6):=by intro q;rw [zza,zza] at q;exact absurd q.1.2 ↑2
 show hD _ _ (if(((items.size:Int)-1)==0&&(-1:Int)==1&&items.size==items.size)=e6 then _ else _) _ _ s;rw [if_neg k,E4]
 first
  |exact ar (m:=ix.Tuple.tupleExact _) (wpAny_newObj_type (bc ⟨_,rfl,bc h⟩) e)
  |exact ar (m:=ix.Tuple.tupleExact _) (wpAny_newObj_type (ar (bc (bc ⟨_,rfl,bc h⟩))) e)
end
end HT
namespace L2
open PySem.Spec PyProof.Rows
abbrev md(z:Str):Str:=⟨z.cps.toList.reverse.toArray⟩
def Jn(n:Nat):ix.Str.strSliceIndices eX eX (-1) n=(List.range n).map λk=>n-1-k:=by show sliceRange ((n:Int)-1) (-1) (-1)=_;exact PySem.W.krv_sliceRange n
def rf(r:Vals vs us):Vals vs.reverse us.reverse:=by
 induction r with
 |nil=>exact .nil|cons h t a=>rw [List.reverse_cons,List.reverse_cons];exact a.append (.cons h .nil)
section
variable{st:hB}{te ts:TE}{p2:Pos}
def Gk(X:Cx)(r:V->Hp->VK->Prop):Prop:=
 ∀(a:kr) (s:gC) (b:St) (H:Hp) (x:V) (v c:fP) (d:g5) (Q:VK),Inv X a b H s->RelV x v->s.heap.IsSliceOf d .none .none c->IsPart c (eW (-1))->r x H Q->
  ∃T f,typeLookup (.type T) "__getitem__"=pure (eW (.builtin f))/\s.TypeIs v T/\zx7 X (getItem v (.ref d)) (EP X a b Q) X.xe s
def Gk.or{r a:V->Hp->VK->Prop}(h:Gk X r)(h':Gk X a):Gk X (λx H Q=>r x H Q\/a x H Q):=by
 intro b s c H x v d f Q I g hs i q;rcases q with q|q
 .exact h b s c H x v d f Q I g hs i q
 .exact h' b s c H x v d f Q I g hs i q
def Oj:Gk X (λx H Q=>∃a xs,x=.ref a/\gz X.K H a xs/\∀p,H p=eX->Q (.ref p) (upd H p (.tup xs.reverse))):=by
 intro m s t H x v u w Q I g hs i h;let(a,xs,rfl,j,q):=h;cases g;let(k,r,d,f):=I.tuple j;have c:k.toArray.size=xs.length:=by rw [a5];exact r.length.symm
 refine{"tuple",_,PyProof.Rows.slot_tuple_getitem.lookup,d.typeIs,HT.kS d hs i ?_ (by rw [c];exact f)};refine{.ref (zz9 s),_,I.laid (t':=s.toks) (o:=.tup xs.reverse) (λb ob q=>aT _ q) (a7 _) ?_,rfl,q _ (I.aM.fresh (a7 _))};exact{by rw [List.length_reverse];exact f,_,rf r,IsTup.new _ _}
def Oh:Gk X (λx H Q=>∃a xs,x=.ref a/\hW X.K H a xs/\∀p,H p=eX->Q (.ref p) (upd H p (.lst xs.reverse))):=by intro j s k H x v m t Q I f hs g h;let(a,xs,rfl,i,q):=h;cases f;let(u,r,c,d):=I.list i;refine{"list",_,PySem.F.slot_list_getitem.lookup,{_,c.isList.choose_spec.1,c.isList.choose_spec.2.1},?_};refine wpAny_getItem_list_slice c.isList hs .none .none g ↑2 ?_ (by rw [a5,<-r.length];exact d);rw [PySem.W.krv_pick];refine{.ref (zz9 s),_,I.laid (t':=s.toks) (o:=.lst xs.reverse) (λb ob q=>aT _ q) (a7 _) ?_,rfl,q _ (I.aM.fresh (a7 _))};exact{by rw [List.length_reverse];exact d,_,0,rf r,c8 _ rfl}
def Oi:Gk X (λx H Q=>∃z,x=.str z/\z.length<=h9/\Q (.str (md z)) H):=by
 intro f s g H x v j k Q I b hs c h;let(z,rfl,d,q):=h;let(t,rfl):=b
 refine{"str",_,F.slot_str_getitem.lookup,typeIs_str _ _ _,?_};cases c with
 |int i a=>
  refine wpAny_getItem_str_slice (l:=eX) (u:=eX) (st:=eW (-1,a)) hs rfl ?_;have e:sliceMade z t eX eX (eW (-1,a))=.str (md z):=by
   unfold sliceMade;rw [if_neg (λq=>by rw [zza] at q;exact absurd q.1 (show¬((-1:Int)==1)=e6 by decide))];unfold slicePicked md
   congr 2
   show((ix.Str.strSliceIndices eX eX (-1) z.length).filterMap (z.cps[·]?)).toArray=_;rw [Jn,PySem.W.krv_range,List.filterMap_reverse]
   congr 2
   have:=PySem.W.krv_all z.cps;exact this
  rw [e];refine{?_,{.str _,H,I.tok _,{_,rfl},q}};show(md z).cps.size<=h9;have:(md z).cps.size=z.length:=by simp [md,Str.length]
  rw [this];exact d
abbrev tRv(r:V->Hp->VK->Prop)(te ts:TE):TE:=λa H Q=>te a H λx b=>ts a b λk c=>k=.int (-1)/\r x c Q
def NY{r:V->Hp->VK->Prop}(j:Gk X r)(he:PE X e te)(hs:PE X st ts):PE X (.Subscript e (.Slice eX eX (eW st) p2) pos) (tRv r te ts):=by
 intro c s d H Q I h;refine Subscript_ (bL (he c s d H _ I h) λv m f=>?_);let(x,o,p,y,z):=f;refine wpAny_Slice ?_;rw [evalPart_none];refine bc (bc ?_);rw [evalPart_some];refine bL (hs c m d o _ p z) λu a ⟨k,i,B,C,g⟩=>?_;let(rfl,g):=g;let(t,rfl):=C
 have D:Inv X c d i {a with heap:=a.heap.push {cls:=.type "slice",data:=.fields #[.none,.none,.int (-1) t]}}:=B.kept (t':=a.toks) λb ob q=>aT _ q
 let(T,K,E,F,G):=j c {a with heap:=a.heap.push {cls:=.type "slice",data:=.fields #[.none,.none,.int (-1) t]}} d i x v (.int (-1) t) (zz9 a) Q D y (hZ.IsSliceOf.new ..) (.int _ _) g
 show zx7 X (subscriptTail e (.Slice eX eX (eW st) p2) v (.ref (zz9 a))) (EP X c d Q) X.xe {a with heap:=a.heap.push {cls:=.type "slice",data:=.fields #[.none,.none,.int (-1) t]}};exact tail_any (ops:=[v,.ref (zz9 a)]) F E G (by with_unfolding_all rfl)
end
end L2
namespace L2
open PySem.Spec PyProof.Rows PySem.W
end L2
namespace Ci
open L2
inductive Res(α:Type) where
 |ok (a:α)|exc (c:Str)|bad
abbrev Res.bind{b d:Type}:Res b->(b->Res d)->Res d
 |.ok a,f=>f a|.exc c,_=>.exc c|.bad,_=>.bad
noncomputable instance:Monad Res where
 pure:=.ok
 bind:=Res.bind
def Res.aJ{d e:Type}{r:Res d}{f:d->Res e}{b:e}(h:r.bind f=.ok b):∃a,r=.ok a/\f a=.ok b:=by
 cases r with
 |ok a=>exact⟨a,rfl,h⟩|exc c=>cases h
 |bad=>cases h
def Res.ee{b d:Type}{r:Res b}{f:b->Res d}(h:r.bind f=.exc c):r=.exc c\/∃a,r=.ok a/\f a=.exc c:=by
 cases r with
 |ok a=>exact .inr ⟨a,rfl,h⟩|exc e=>cases h;exact .inl rfl
 |bad=>cases h
abbrev Res.of{b:Type}:Option b->Res b
 |some a=>.ok a|none=>.bad
abbrev Res.well{b:Type}:Res b->Res b
 |.ok a=>.ok a|_=>.bad
noncomputable abbrev cb:Nat:=1000000
abbrev eqs(f:PV->PV->Bool):List PV->List PV->Bool
 |[],[]=>e6|x::xs,y::ys=>f x y&&eqs f xs ys|_,_=>fx
abbrev pQ:Nat->PV->PV->Bool
 |_,.aP,.aP=>e6|_,.bl a,.bl b=>a==b|_,.bl a,.int i=>(if a then 1 else 0)==i
 |_,.int i,.bl a=>i==(if a then 1 else 0)
 |_,.int i,.int j=>i==j|_,.str x,.str y=>x==y|n+1,.tup xs,.tup ys=>eqs (pQ n) xs ys|n+1,.lst xs,.lst ys=>eqs (pQ n) xs ys|_,_,_=>fx
abbrev plain:Nat->PV->Bool
 |_,.aP=>e6|_,.bl _=>e6|_,.int _=>e6|_,.str _=>e6|n+1,.tup xs=>xs.all (plain n)|n+1,.lst xs=>xs.all (plain n)|_,_=>fx
noncomputable abbrev DP:Nat:=9
noncomputable abbrev eqv:PV->PV->Bool:=pQ DP
noncomputable abbrev m6:PV->Bool:=plain DP
inductive KN where|add|sub|mul|mod|fdiv
inductive tV where|eq|ne|lt|le|gt|ge|is|Gx|Ey|Kl
abbrev bg(i:Int):Bool:=decide (-(2^64)<i)&&decide (i<2^64)
abbrev binOp:KN->PV->PV->Res PV
 |.add,.int i,.int j=>.ok (.int (i+j))|.add,.str x,.str y=>if x.length+y.length<=cb then .ok (.str (x++y)) else .bad
 |.add,.lst x,.lst y=>if x.length+y.length<=cb then .ok (.lst (x++y)) else .bad
 |.add,.tup x,.tup y=>if x.length+y.length<=cb then .ok (.tup (x++y)) else .bad
 |.sub,.int i,.int j=>.ok (.int (i-j))|.mul,.int i,.int j=>if bg i||bg j then .ok (.int (i*j)) else .bad
 |.mod,.int i,.int j=>if 0<j then .ok (.int (i%j)) else .bad
 |.fdiv,.int i,.int j=>if 0<j/\j<1073741824 then .ok (.int (i/j)) else .bad
 |_,_,_=>.bad
abbrev bS{a:Type}:List Str->List a->Str->Option a
 |b::ks,v::vs,k=>if b=k then eW v else bS ks vs k
 |_,_,_=>eX
abbrev gh(ks:List Str)(k:Str):Bool:=ks.any λa=>decide (a=k)
abbrev eN(ks:List Str)(k:Str):List Str:=if gh ks k then ks else ks++[k]
abbrev cS{a:Type}(ks:List Str)(vs:List a)(k:Str)(p:a):List a:=if gh ks k then List.zipWith (λb v=>if b=k then p else v) ks vs else vs++[p]
abbrev fM(ks:List Str)(k:Str):List Str:=ks.filter λa=>decide (a≠k)
abbrev bK{a:Type}:List Str->List a->Str->List a
 |b::ks,v::vs,k=>if b=k then bK ks vs k else v::bK ks vs k
 |_,_,_=>[]
def gM(k:Str):PV:=.str k
abbrev fg:PV->Option Str
 |.str z=>eW z|_=>eX
abbrev vy:List PV->Option (List (Str×PV))
 |[]=>eW []|.tup [x,y]::r=>(fg x).bind λk=>(vy r).map ((k,y)::·)|_=>eX
abbrev cC{a:Type}:List (Str×a)->List Str->List a->List Str×List a
 |[],ks,vs=>(ks,vs)|p::r,ks,vs=>cC r (eN ks p.1) (cS ks vs p.1 p.2)
abbrev VX(x:PV)(ys:List PV):Bool:=ys.any λy=>eqv y x
abbrev gO(a b:PV):Res PV:=if m6 a&&m6 b then .ok (.bl (eqv a b)) else .bad
abbrev iF(a b:PV):Res PV:=if m6 a&&m6 b then .ok (.bl (!eqv a b)) else .bad
abbrev vo:PV->PV->Res PV
 |.int i,.int j=>.ok (.bl (decide (i<j)))|_,_=>.bad
abbrev vn:PV->PV->Res PV
 |.int i,.int j=>.ok (.bl (decide (i<=j)))|_,_=>.bad
abbrev xx:PV->PV->Res PV
 |.int i,.int j=>.ok (.bl (decide (j<i)))|_,_=>.bad
abbrev xw:PV->PV->Res PV
 |.int i,.int j=>.ok (.bl (decide (j<=i)))|_,_=>.bad
abbrev yR:PV->Bool
 |.aP=>e6|_=>fx
abbrev EJ:PV->PV->Res PV
 |a,.aP=>.ok (.bl (yR a))|_,_=>.bad
abbrev pY:PV->PV->Res PV
 |a,.tup ys=>if m6 a&&ys.all m6 then .ok (.bl (VX a ys)) else .bad
 |.str i,.str j=>.ok (.bl (!(ix.Str.occurrences j i 0 j.length 1).isEmpty))|a,.cy ks _=>(Res.of (fg a)).bind λk=>.ok (.bl (gh ks k))|_,_=>.bad
abbrev oP:PV->PV->Res PV
 |a,.cy ks _=>(Res.of (fg a)).bind λk=>.ok (.bl (!gh ks k))|_,_=>.bad
abbrev pU(a:List Str)(vs':List PV):List Str->List PV->Bool
 |k::ks,n::ns=>match bS a vs' k with
  |some m=>eqv n m&&pU a vs' ks ns|none=>fx
 |_,_=>e6
abbrev qU:PV->PV->Res PV
 |.cy ks vs,.cy a vs'=>if vs.all m6&&vs'.all m6 then .ok (.bl (!(ks.length==a.length&&pU a vs' ks vs))) else .bad
 |_,_=>.bad
abbrev cG:tV->PV->PV->Res PV
 |.eq=>gO|.ne=>iF|.lt=>vo|.le=>vn|.gt=>xx|.ge=>xw|.is=>EJ|.Gx=>pY|.Ey=>oP|.Kl=>qU
abbrev ay:PV->PV->Res PV
 |.lst xs,.int i=>Res.of (wy xs i)|.tup xs,.int i=>Res.of (wy xs i)|.str z,.int i=>if z.length<=cb then(Res.of (wy z.cps.toList i)).bind λc=>.ok (.str {#[c]}) else .bad
 |.cy ks vs,y=>(Res.of (fg y)).bind λk=>Res.of (bS ks vs k)|_,_=>.bad
abbrev jV{a:Type}(xs:List a)(b c:Option Int):List a:=(xs.drop (HT.cL xs.length 0 b)).take (HT.cL xs.length xs.length c-HT.cL xs.length 0 b)
abbrev d5:PV->Option Int->Option Int->Res PV
 |.lst xs,lo,a=>.ok (.lst (jV xs lo a))|.tup xs,lo,a=>.ok (.tup (jV xs lo a))|.str z,lo,a=>if z.length<=cb then .ok (.str (Txt.slice z lo a)) else .bad
 |_,_,_=>.bad
inductive B where|len|max2|min2|str|tuple|all|sorted
abbrev boolsOf:List PV->Option (List Bool)
 |[]=>eW []|.bl b::r=>(boolsOf r).map (b::·)|_=>eX
abbrev chars(z:Str):List PV:=z.cps.toList.map λc=>.str {#[c]}
abbrev wz:List PV->Res PV
 |[.lst xs]=>.ok (.int xs.length)|[.tup xs]=>.ok (.int xs.length)|[.str z]=>if z.length<=cb then .ok (.int z.length) else .bad
 |[.cy ks _]=>.ok (.int ks.length)|_=>.bad
abbrev Cd:List PV->Res PV
 |[.int i,.int j]=>.ok (.int (if j>i then j else i))
 |_=>.bad
abbrev Ce:List PV->Res PV
 |[.int i,.int j]=>.ok (.int (if j<i then j else i))
 |_=>.bad
abbrev Cf:List PV->Res PV
 |[.int i]=>if i.natAbs.log2<1920 then .ok (.str (toString i)) else .bad
 |_=>.bad
abbrev nT:List PV->Res PV
 |[.lst xs]=>.ok (.tup xs)|_=>.bad
abbrev Cb:List PV->Res PV
 |[.lst xs]=>(Res.of (boolsOf xs)).bind λbs=>.ok (.bl (bs.all id))|_=>.bad
abbrev codes(z:Str):List Int:=z.cps.toList.map λ(c:Nat)=>(c:Int)
abbrev kC:List PV->Res PV
 |[.cy ks _]=>if ks.length<64 then .ok (.lst (tZ .aP (ks.map gM) (ks.map codes))) else .bad
 |_=>.bad
abbrev gW:List PV->Res PV
 |[.lst xs]=>(Res.of (vy xs)).bind λps=>.ok (.cy (cC ps [] []).1 (cC ps [] []).2)|_=>.bad
abbrev dv:B->List PV->Res PV
 |.len=>wz|.max2=>Cd|.min2=>Ce|.str=>Cf|.tuple=>nT|.all=>Cb|.sorted=>kC
inductive Ty where|int|bool|str|tuple
abbrev oB:Ty->PV->Bool
 |.int,.int _=>e6|.int,.bl _=>e6|.bool,.bl _=>e6|.str,.str _=>e6|.tuple,.tup _=>e6|_,_=>fx
abbrev nc(t:Ty):PV->Res PV
 |.exc _=>.bad|.cy _ _=>.bad|.obj _=>.bad|p=>.ok (.bl (oB t p))
abbrev strsOf:List PV->Option (List Str)
 |[]=>eW []|.str z::r=>(strsOf r).map (z::·)|_=>eX
inductive M where|jz|index|join
abbrev u5:List PV->Res PV
 |[.str z,.lst xs]=>(Res.of (strsOf xs)).bind λys=>if z.length<=16/\(ys.map (·.length)).sum+ys.length<=cb then .ok (.str (Txt.join z ys)) else .bad
 |_=>.bad
abbrev kW:List PV->Res PV
 |[.lst xs,v]=>if m6 v&&xs.all m6 then .ok (.int ((xs.countP λy=>eqv y v:Nat):Int)) else .bad
 |_=>.bad
abbrev oH:List PV->Res PV
 |[.lst xs,v]=>if m6 v&&xs.all m6&&decide (xs.length<1000) then(match xs.findIdx? λy=>eqv y v with|some j=>.ok (.int (j:Nat))|none=>.bad) else .bad
 |_=>.bad
abbrev ze:M->List PV->Res PV
 |.join=>u5|.jz=>kW|.index=>oH
abbrev yZ:M->PV->Bool
 |.join,.str _=>e6|.jz,.lst _=>e6|.index,.lst _=>e6|_,_=>fx
inductive Tg where
 |one (i:Nat)|two (i j:Nat)
 |four (i j k l:Nat)
mutual
inductive E where
 |var (i:Nat)|JI (i:Nat)
 |cst (p:PV)
 |glob (g:Str) (p:PV)
 |call (f:Str) (as:Es)
 |blt (b:B) (as:Es)
 |ty (t:Ty) (a:E)
 |yT (c:Str) (a:E)
 |dY (m:M) (o:E) (as:Es)
 |bin (o:KN) (a b:E)
 |cmp (o:tV) (a b:E)
 |ch (o1 o2:tV) (a b c:E)
 |not (a:E)
 |neg (a:E)
 |and (a b:E)|or (a b:E)
 |ite (c a b:E)
 |tup (as:Es)|lst (as:Es)
 |sub (a b:E)
 |slice (a:E) (lo hi:Oe)
 |comp (k:Nat) (bf:List Nat) (tg:Tg) (it:I) (elt:E)
 |fH (k:Nat) (bf:List Nat) (tg:Tg) (it:I) (c elt:E)
 |get (a k:E)
 |rev (a:E)
 |Eh (a:E)
 |fld (i:Nat) (f:Str)
 |con (a:E)
 |Pc
inductive Es where
 |nil|cons (e:E) (es:Es)
inductive Oe where
 |no|some (e:E)
inductive I where
 |seq (e:E)|sX (e:E)|zip (as:Es)
end
mutual
inductive S where
 |expr (e:E)
 |set (i:Nat) (e:E)
 |vT (tg:Tg) (e:E)
 |own (i:Nat) (e:E)
 |bR (i:Nat)
 |app (i:Nat) (e:E)
 |put (i:Nat) (k e:E)
 |ret (e:E)
 |ite (c:E) (a b:Ss)
 |g9 (tg:Tg) (it:I) (b:Ss)
 |raise (c:Str) (m:Str)
 |vp (i:Nat) (e:E)
 |par (i j:Nat) (as:Es)
inductive Ss where
 |nil|cons (s:S) (ss:Ss)
end
noncomputable abbrev aN:=Str->List PV->Res PV
def cQ(f:Str):Str:="@"++f
noncomputable abbrev dJ:Str:="@@"
abbrev mO:Option Slot->Res PV
 |some (.val p)=>.ok p|_=>.bad
abbrev zH:Option Slot->Res PV
 |some (.val p)=>.ok p|some (.own p)=>.ok p|_=>.bad
abbrev Tg.put:Tg->PV->Sl->Res Sl
 |.one i,p,env=>.ok (env.set i (.val p))|.two i j,.tup [a,b],env=>.ok ((env.set i (.val a)).set j (.val b))|.four i j k l,.tup [a,b,c,d],env=>.ok ((((env.set i (.val a)).set j (.val b)).set k (.val c)).set l (.val d))|_,_,_=>.bad
abbrev eQ(env:Sl)(a:List Nat):Sl:=a.map λi=>env.getD i .no
abbrev itemsOf:PV->Res (List PV)
 |.lst xs=>.ok xs|.tup xs=>.ok xs|.str z=>.ok (chars z)|_=>.bad
abbrev xO(e:E)(p:PV):Res (List PV):=match p,e with
 |.cy _ _,.JI _=>.bad|.cy _ _,.con _=>.bad|.cy a _,_=>.ok (a.map gM)|p,_=>itemsOf p
abbrev fO(a:Int)(n:Nat):List PV:=(List.range n).map λi=>.int (a+(i:Nat))
abbrev cE(i:Int):Bool:=decide (-(2^62)<=i)&&decide (i<2^62)
abbrev Sj:PV->Option (List PV)
 |.lst xs=>eW xs|.tup xs=>eW xs|_=>eX
abbrev oY:List PV->Option (List (List PV))
 |[]=>eW []|p::r=>(Sj p).bind λxs=>(oY r).map (xs::·)
abbrev oJ:List (List PV)->Nat
 |[]=>0|[xs]=>xs.length|xs::r=>min xs.length (oJ r)
abbrev qh(xss:List (List PV)):List PV:=(List.range (oJ xss)).map λi=>.tup (xss.map λxs=>xs.getD i .aP)
abbrev oc:Option PV->List PV->List PV
 |some y,ys=>y::ys|none,ys=>ys
abbrev aW(f:PV->Res (Option PV)):List PV->Res (List PV)
 |[]=>.ok []|x::xs=>(f x).well.bind λo=>(aW f xs).bind λys=>.ok (oc o ys)
abbrev yk{a:Type}(p:PV)(f:Bool->Res a):Res a:=match p with
 |.bl b=>f b|_=>.bad
section
variable(F:aN)
mutual
noncomputable def az:E->Sl->Res PV
 |.var i,env=>mO env[i]?|.JI i,env=>zH env[i]?|.cst p,_=>.ok p|.glob _ p,_=>.ok p|.call f as,env=>(bJ as env).bind λps=>F f ps|.blt b as,env=>(bJ as env).bind λps=>dv b ps|.ty t a,env=>(az a env).bind λp=>nc t p|.yT c a,env=>(az a env).bind λp=>match p with
  |.exc d=>.ok (.bl (if c==(zu 1) then e6 else(c==d||c==(zu 6))))
  |_=>.bad
 |.dY m o as,env=>(az o env).bind λp=>if yZ m p then(bJ as env).bind λps=>ze m (p::ps) else .bad
 |.bin o a b,env=>(az a env).bind λx=>(az b env).bind λy=>binOp o x y|.cmp o a b,env=>(az a env).bind λx=>(az b env).bind λy=>cG o x y|.ch o1 o2 a b c,env=>(az a env).bind λx=>(az b env).bind λy=>(cG o1 x y).bind λt=>yk t λt=>if t then(az c env).bind λz=>cG o2 y z else .ok (.bl fx)
 |.not a,env=>(az a env).bind λx=>yk x λb=>.ok (.bl (!b))|.neg a,env=>(az a env).bind λx=>match x with|.int i=>.ok (.int (-i))|_=>.bad
 |.and a b,env=>(az a env).bind λx=>yk x λt=>if t then az b env else .ok (.bl fx)
 |.or a b,env=>(az a env).bind λx=>yk x λt=>if t then .ok (.bl e6) else az b env
 |.ite c a b,env=>(az c env).bind λx=>yk x λt=>if t then az a env else az b env
 |.tup as,env=>(bJ as env).bind λps=>.ok (.tup ps)|.lst as,env=>(bJ as env).bind λps=>.ok (.lst ps)|.sub a b,env=>(az a env).bind λx=>(az b env).bind λy=>ay x y|.slice a lo r,env=>(az a env).bind λx=>(Gq lo env).bind λl=>(Gq r env).bind λh=>d5 x l h|.comp k g j it elt,env=>(wN it env).bind λxs=>if xs.length<cb then(aW (λx=>(j.put x (jZ k .no++eQ env g)).bind λe=>(az elt e).bind λy=>.ok (eW y)) xs).bind λys=>.ok (.lst ys) else .bad
 |.fH k g j it c elt,env=>(wN it env).bind λxs=>if xs.length<cb then(aW (λx=>(j.put x (jZ k .no++eQ env g)).bind λe=>(az c e).bind λt=>yk t λt=>if t then(az elt e).bind λy=>.ok (eW y) else .ok eX) xs).bind λys=>.ok (.lst ys) else .bad
 |.get a k,env=>(az a env).bind λp=>match p with|.cy ks vs=>(az k env).bind λq=>(Res.of (fg q)).bind λz=>.ok ((bS ks vs z).getD .aP)|_=>.bad
 |.rev a,env=>(az a env).bind λp=>match p with|.str z=>(if z.length<=cb then .ok (.str (md z)) else .bad)|.tup xs=>.ok (.tup xs.reverse)|.lst xs=>.ok (.lst xs.reverse)|_=>.bad
 |.fld i f,env=>(mO env[i]?).bind λp=>F (cQ f) [p]|.con a,env=>(az a env).bind λp=>F dJ [p]|.Pc,_=>.ok (.cy [] [])|.Eh a,env=>(az a env).bind λp=>match p with|.tup xs=>.ok (.lst xs.reverse)|_=>.bad
noncomputable def bJ:Es->Sl->Res (List PV)
 |.nil,_=>.ok []|.cons e a,env=>(az e env).bind λp=>(bJ a env).bind λps=>.ok (p::ps)
noncomputable def Gq:Oe->Sl->Res (Option Int)
 |.no,_=>.ok eX|.some e,env=>(az e env).bind λp=>match p with|.int i=>.ok (eW i)|_=>.bad
noncomputable def wN:I->Sl->Res (List PV)
 |.seq e,env=>(az e env).bind (xO e)|.sX e,env=>(az e env).bind λp=>match p with|.int j=>if cE j then .ok (fO 0 j.toNat) else .bad|_=>.bad
 |.zip as,env=>(bJ as env).bind λps=>(Res.of (oY ps)).bind λxss=>.ok (qh xss)
end
end
inductive Fl where
 |nx (env:Sl)|bk (env:Sl)|ct (env:Sl)|rt (p:PV)
abbrev Fl.seq(f:Fl)(k:Sl->Res Fl):Res Fl:=match f with
 |.nx env=>k env|f=>.ok f
abbrev forL(body:PV->Sl->Res Fl):List PV->Sl->Res Fl
 |[],env=>.ok (.nx env)|x::xs,env=>(body x env).bind λf=>match f with
  |.nx a=>forL body xs a|.ct a=>forL body xs a|.bk a=>.ok (.nx a)|.rt p=>.ok (.rt p)
abbrev Slot.cg:Slot->Bool
 |.own _=>e6|_=>fx
abbrev rS:Slot->Slot
 |.own p=>.val p|s=>s
section
variable(F:aN)
mutual
noncomputable def du:S->Sl->Res Fl
 |.expr e,env=>(az F e env).bind λZ=>.ok (.nx env)|.set i e,env=>(az F e env).bind λp=>.ok (.nx (env.set i (.val p)))|.vT d e,env=>(az F e env).bind λp=>(d.put p env).bind λf=>.ok (.nx f)|.own i e,env=>(az F e env).bind λp=>.ok (.nx (env.set i (.own p)))|.bR i,env=>.ok (.nx (env.modify i rS))|.app i e,env=>match env[i]? with
  |some (.own (.lst xs))=>(az F e env).bind λp=>if xs.length<cb then .ok (.nx (env.set i (.own (.lst (xs++[p]))))) else .bad
  |_=>.bad
 |.put i k e,env=>(az F e env).bind λp=>match env[i]? with
  |some (.own (.cy ks vs))=>(az F k env).bind λkp=>match fg kp with
   |some g=>if ks.length<cb then .ok (.nx (env.set i (.own (.cy (eN ks g) (cS ks vs g p))))) else .bad
   |none=>.bad
  |_=>.bad
 |.ret e,env=>(az F e env).bind λp=>.ok (.rt p)|.ite c a b,env=>(az F c env).bind λp=>yk p λt=>if t then bj a env else bj b env
 |.g9 d it b,env=>(wN F it env).bind λxs=>forL (λx env=>(d.put x env).bind λf=>bj b f) xs env|.raise c _,_=>.exc c|.vp i e,env=>(az F e env).bind λp=>(gW [p]).bind λq=>.ok (.nx (env.set i (.own q)))|.par i j as,env=>(bJ F as env).bind λps=>match ps with
  |[p,q]=>.ok (.nx ((env.set i (.val p)).set j (.val q)))|_=>.bad
noncomputable def bj:Ss->Sl->Res Fl
 |.nil,env=>.ok (.nx env)|.cons s ss,env=>(du s env).bind λf=>f.seq (bj ss)
end
end
structure Def where
 N:List Str
 np:Nat
 body:Ss
 ux:Option (Str×List Nat):=eX
abbrev fj(d:Def)(as:List PV):Sl:=as.map .val++jZ (d.N.length-as.length) .no
abbrev eY(d:Def)(as:List PV):Bool:=match d.ux with
 |none=>as.length==d.np|some _=>fx
abbrev aV(F:aN)(d:Def)(as:List PV):Res PV:=
 if eY d as then(bj F d.body (fj d as)).bind λf=>match f with
  |.nx _=>.ok .aP|.rt p=>.ok p|_=>.bad
 else .bad
abbrev aG(B:aN):List (Str×Def)->aN
 |[],f,as=>B f as|(n,d)::r,f,as=>if f==n then aV (aG B r) d as else aG B r f as
noncomputable abbrev V4:aN:=λZ Z=>.bad
noncomputable abbrev den:List (Str×Def)->aN:=aG V4
abbrev P8(x:Str):Bool:=x.cps[0]?==eW 64
end Ci
variable{it:Ci.I}
namespace L2
open PySem.Spec PyProof.Rows PySem.W
section
variable{s:gC}{d:g5}{aB:List (Key×V)}
def CB{P:hF}{w:hG}(x:bT P w H h d (.dK aB)):(d==sysModules)=fx/\(aB.map (·.1)).Nodup/\∃o b f,h.get? d=eW o/\o.ExactDict/\o.data=.dict b f/\b.size=aB.length/\∀(i:Nat) (h:i<b.size),∃k v,aB[i]?=eW (k,v)/\(br P w).is k b[i].key=e6/\RelV v b[i].val:=by
 let(D,j,xs,c,o,b,f,m,p,r,E,g,t):=x;have hl:b.size=xs.length:=by rw [<-d1];exact g.length
 have u:aB.length=xs.length:=Paired.length c;have y:aB.map (·.1)=xs.map (·.1):=c.keys;refine{j,y▸t,o,b,f,m,p,r,hl.trans u.symm,λi A=>?_};have q:=xA c (zzg (show i<aB.length by lia)) (zzg (show i<xs.length by lia));let(B,C):=g.get? (i:=i) (e:=b[i]) (k:=xs[i].1) (v:=xs[i].2) (by rw [Array.getElem?_toList];exact eu A) (by rw [zzg (show i<xs.length by lia)]);exact{_,_,zzg (show i<aB.length by lia),(congrArg (λz=>(br P w).is z b[i].key) q.1).trans B,by rw [C];exact q.2}
def CC(I:zv1 s)(e:Rd H d (.dK aB)):(d==sysModules)=fx/\(aB.map (·.1)).Nodup/\∃o b c,s.heap.get? d=eW o/\o.ExactDict/\o.data=.dict b c/\b.size=aB.length/\∀(i:Nat) (h:i<b.size),∃k v,aB[i]?=eW (k,v)/\(br X.prog X.w).is k b[i].key=e6/\RelV v b[i].val:=CB (e.ok I.aM)
def vC{P:hF}{w:hG}{k:Key}{v:fP}(h:(br P w).is k v=e6):RelV (kV k) v:=by
 rcases bB (k:=k) h with⟨i,t,rfl,rfl⟩|⟨x,t,rfl,rfl⟩
 .exact⟨t,rfl⟩
 .exact⟨t,rfl⟩
def Inv.rR(I:zv1 s)(e:H a=eW (.dK aB)):∃o,Inv X aa σ (upd H a (.bR o (.dK aB))) s:=by let(z,f,xs,b,o,g,h,c,i):=(show bT X.prog X.w H s.heap a (.dK aB) from I.aM a _ e);exact{o,kL (h':=s.heap) (t':=s.toks) I (by rw [e];exact True.intro) {rfl,λZ Z=>rfl} ⟨o,c⟩ ⟨c,z,f,xs,b,o,g,h,c,i⟩}
end
abbrev TQ(a:g5)(o:Obj)(b:List (Key×V)):It:=
 {λi H=>H a=eW (.bR o (.dK b))/\i<b.length,λi H x c=>c=H/\∃k v,x=kV k/\b[i]?=eW (k,v),λi H=>H a=eW (.bR o (.dK b))/\b.length<=i}
def wL{j:St}{s:gC}{c:List (Key×V)}(I:Inv X aa j H s)(e:H a=eW (.bR o (.dK c))):
 (a==sysModules)=fx/\s.heap.get? a=eW o/\o.ExactDict/\∃b d,o.data=.dict b d/\b.size=c.length/\∀(i:Nat) (h:i<b.size),∃k v,RelV (kV k) b[i].key/\c[i]?=eW (k,v):=by
 let(f,ok):=(show bT X.prog X.w H s.heap a (.bR o (.dK c)) from I.aM a _ e);let(m,_,y,b,d,g,p,q,hl,hk):=CB ok;rw [f] at g;cases g;exact{m,f,p,b,d,q,hl,λi r=>let⟨k,v,t,u,_⟩:=hk i r;{k,v,vC u,t}}
def x8{P:hF}{w:hG}{K:zz8}{W:hB}{it:g5}{m:Array DictEntry}{N:Nat}{O:List (Key×V)}(hd:o.data=.dict m N)(hl:m.size=O.length):
 Turn P w K W (TQ a o O) [it] it (λi h=>h.IsKeyIter it a i m.size N) where
 mem:=by simp
 obj:=λi h st b f=>by have e:b=it:=zx6 f;subst e;let(q,e,c,d):=st;exact{q,e,λv z=>by rw [d] at z;cases z}
 keep:=λi h p st k=>st.at λo e=>k it (by simp) o e
 item:=by
  intro X t u hK Q i R s S H E I r st y;subst t u hK;let(g1,g2):=y;let(Y,A,Z,B,C,g,v8,j):=wL I g1;rw [hd] at g;cases g;let(D,F,f2,G,L,M):=r it (by simp);have T:i<m.size:=by lia
  refine yI st A hd T λp U sb=>?_;let(k,v,e1,e2):=j i T;have I1:Inv X R S H {s with heap:=p}:=I.turned (t':=s.toks) (λb o f e=>(sb.2 b f).trans e) D F G L M;let(q,e,c,d):=id U;exact{_,rfl,uQ (s:={s with heap:=p}) e c d ↑2 {kV k,H,I1,e1,⟨rfl,k,v,rfl,e2⟩,U,λb f=>(r b f).1}}
 done:=by intro X t u hK Q i R s S H E I r st y;subst t u hK;let(g1,g2):=y;let(Y,A,Z,B,C,g,v8,j):=wL I g1;rw [hd] at g;cases g;let(D,F,f2,G,L,M):=r it (by simp);exact DC (I.ok.hd Q) st A hd (by lia) λp eb=>{rfl,I.turned (t':=s.toks) (λb o f e=>eb b o f e) D F G L M}
 self:=λ_ _ _ _ _ st h=>wpAny_pyIter_keyiter st h
abbrev iDk(d:TE):TI:=λe H R=>d e H λx b=>∃a o c,x=.ref a/\b a=eW (.bR o (.dK c))/\R (TQ a o c) b
def RY{j l:hB}{g:TE}(hl:PE X l g):PI X j l (iDk g):=by intro k s m H R I h;refine bL (hl k s m H _ I h) λv c f=>?_;let(x,p,d,r,t):=f;let(a,o,D,e,u,q):=t;subst e;cases r;let(w,y,z,E,F,i,A,B):=wL d u;refine yH w y z i ?_;refine{(zz9 c),[(zz9 c)],_,_,p,rfl,d.kept (t':=c.toks) λb o e=>aT _ e,x8 i A,{_,c8 _ rfl,rfl,rfl},λb C=>?_,q};have e:b=(zz9 c):=zx6 C;subst e;exact d.uN (a7 _) (d.aM.fresh (a7 _))
noncomputable abbrev z7(K:zz8)(H:Hp)(vs:List V)(b:List (Key×V)):Prop:=Paired (λv a=>∃q,v=V.ref q/\gz K H q [kV a.1,a.2]) vs b
def gz.LJ{K:zz8}{f:Hp}{d:g5}{xs:List V}(h:gz K H a xs)(e:∀b,b≠d->f b=H b){c:List (Key×V)}(hd:H d=eW (.dK c)):gz K f a xs:=by
 rcases h with(h|⟨o,h⟩)|h
 .exact .inl (.inl (by rw [e a (ve h hd nofun)];exact h))
 .exact .inl (.inr {o,by rw [e a (ve h hd nofun)];exact h})
 .exact .inr h
def hW.LJ{K:zz8}{f:Hp}{d:g5}{xs:List V}(h:hW K H a xs)(e:∀b,b≠d->f b=H b){c:List (Key×V)}(hd:H d=eW (.dK c)):hW K f a xs:=by
 rcases h with(h|⟨o,h⟩)|h
 .exact .inl (.inl (by rw [e a (ve h hd nofun)];exact h))
 .exact .inl (.inr {o,by rw [e a (ve h hd nofun)];exact h})
 .exact .inr h
section
variable{l d it:g5}{E:kd}{R:Result->gC->Prop}
def Lu{s:gC}{b:List (Key×V)}{k:Key}{r:fP}{Q:Unit->gC->Prop}(q:A.units<cLine)(I:zv1 s)(e:H a=eW (.dK b))(g:RelV (kV k) u)(l:b.length<h9)(rv:RelV v r)
 (h:∀h' t,hZ.SameBut a s.heap h'->Inv X aa σ (upd H a (.dK (putK b k v))) {s with heap:=h',toks:=t}->Q () {s with heap:=h',toks:=t}):hD (hI X.prog X.w) A (dictSet a u r) Q E s:=by
 let(z,i,xs,c,j):=CA I.aM e;have m:xs.length<=sizeLine:=by rw [<-c.length];exact z
 have hl:(putK b k v).length<=sizeLine:=by have:=fC b k v;lia
 refine wpAny_dictSet_pairs (hsz:=m) (my g) j λh' f hs=>h h' _ hs ?_;let(o,_,_,p,_):=id f;exact kL I (by rw [e];exact True.intro) hs ⟨o,p⟩ {hl,i,_,c.put k rv,f}
def CF(hu:A.units+1<cLine)(hh:A.handled=eX):∀(rest:List (Key×V)) (i:Nat) (j:Int) (a:List (Key×V)) (H:Hp) (s:gC),Inv X aa σ H s->jq X aa H it->s.heap.IsListIter it l i->hW X.K H l vs->z7 X.K H (vs.drop i) rest->H d=eW (.dK a)->a.length+rest.length<=h9->
 (∀s' t,Inv X aa σ t s'->t d=eW (.dK (iE a rest))->(∀b,b≠d->t b=H b)->R (.ok (.ret .none)) s')->codeAny (hI X.prog X.w) A (.builtin "dict.update.loop" {[.ref d,.ref it,rawInt j,.none],[]}) R s:=by
 intro rest
 induction rest with
 |nil=>
  intro i j a H s I Q st hl g hd S k;let(av,rv,p,_):=I.list hl;let(m,C,f2,D,F,G):=Q
  have hi:vs.length<=i:=List.drop_eq_nil_iff.mp (by cases h:vs.drop i with|nil=>rfl|cons x r=>rw [h] at g;cases g);have hle:=rv.length;refine codeAny_builtin uG ?_;rw [eH kO _];show hD _ A.in1 (pyNext (.ref it)>>=λz=>_) _ _ s;refine ar (wpAny_pyNext_list_end hh st p.isList (by simp;lia) λL eb=>?_);show hD _ _ (ix.Dict.addKeywords d []>>=λ_=>_) _ _ _;exact ar (bc (bc (k _ H (I.turned (t':=s.toks) (λb o T e=>eb b o T e) m C D F G) hd λ_ _=>rfl)))
 |cons f rest ih=>
  intro i j a H s I Q st hl g hd S k;let(av,rv,p,_):=I.list hl;let(m,C,f2,D,F,G):=id Q
  obtain⟨v,M,hv,⟨q,rfl,hq⟩,U⟩:∃v M,vs.drop i=v::M/\(∃q,v=V.ref q/\gz X.K H q [kV f.1,f.2])/\z7 X.K H M rest:=by
   cases h:vs.drop i with
   |nil=>rw [h] at g;cases g
   |cons x r=>rw [h] at g;cases g with|cons W N=>exact⟨x,r,rfl,W,N⟩
  have Z9:vs[i]?=eW (.ref q):=by rw [<-List.head?_drop,hv];rfl
  have Y:vs.drop (i+1)=M:=by rw [<-List.drop_drop,hv];rfl
  let(u,MQ,ru):=rv.get Z9;cases(show u=fP.ref q from ru);refine codeAny_builtin uG ?_;rw [eH kO _];show hD _ A.in1 (pyNext (.ref it)>>=λz=>_) _ _ s;refine ar (wpAny_pyNext_list_item st p.isList (x:=fP.ref q) (zx6 MQ) λL kj sb=>?_);have I1:Inv X aa σ H {s with heap:=L}:=I.turned (t':=s.toks) (λb o T e=>(sb.2 b T).trans e) m C D F G;let(fN,Z,p2,_):=I1.tuple hq;let(o2,g1,g2,n2,g3):=id p2
  obtain⟨y,B,rfl,ru1,ru2⟩:∃y B,fN=[y,B]/\RelV (kV f.1) y/\RelV f.2 B:=by cases Z with|cons W N=>cases N with|cons h3 h4=>cases h4;exact{_,_,rfl,W,h3}
  show hD _ A.in1 (holding [fP.ref q] _>>=λz=>_) _ _ {s with heap:=L};refine ar (wpAny_holding (ar (wpAny_tryCatch ?_)));unfold ix.Dict.pairItems;refine ar (wpAny_typeOf (s:={s with heap:=L}) ⟨o2,g1,g2⟩ ?_);rw [if_pos ↑2];refine ar (wpAny_seqItems g1 g3 (bc ?_));show hD _ A.in1 (holding [y,B] (dictSet d y B)) _ _ _;refine wpAny_holding (Lu hu I1 hd ru1 (by rw [bV] at S;lia) ru2 λN t2 sb2 I2=>?_);have O:∀c,c≠d->upd H d (.dK (putK a f.1 f.2)) c=H c:=λc P=>ai P;have nd:it≠d:=λz=>by rw [z,hd] at m;cases m
  refine bc {plainId_quiet kO _,ih (i+1) (j+1) _ _ _ I2 {by rw [O _ nd];exact m,C,f2,D,F,G} (kj.at λo e=>(sb2.2 it nd).trans e) (hW.LJ hl O hd) (by rw [Y];exact Paired.Io U λ_ _ ⟨q,e1,e2⟩=>{q,e1,gz.LJ e2 O hd}) aq ?_ λs' t J1 J2 J3=>k s' t J1 J2 λc P=>(J3 c P).trans (O c P)};have:=fC a f.1 f.2;rw [bV] at S;lia
def nU(D:X.calm=e6)(Z:X.A.units+3<cLine):cK X (.type "dict") (λxs H Q=>∃l vs g,xs=[V.ref l]/\hW X.K H l vs/\z7 X.K H vs g/\∀p,H p=eX->Q (.ref p) (upd H p (.dK (iE [] g)))):=by
 intro aa s σ H xs us Q I r h;let(l,vs,g,rfl,hl,m,q):=h;let(u,rfl,G):=vals1 r;cases G;have t:X.A.handled=eX:=I.ok.hd D
 refine callType_codes (Q₁:=λobj c=>obj=.ref (zz9 s)/\c={s with heap:=s.heap.push {cls:=.type "dict",data:=.dict #[]}}) F.kt_called_dict (F.kt_typeCall_dict_1 _) F.entry_dict_init (kt_code_dict_new _ ⟨rfl,rfl⟩) ?_
 rintro obj c ⟨rfl,rfl⟩
 have w:H (zz9 s)=eX:=I.aM.fresh (a7 _);have y:=I.laid (a:=(zz9 s)) (o:=.dK []) (t':=s.toks) (λ_ _ q=>aT _ q) (a7 _) (uF s.heap I.big);have T:({s.heap.push {cls:=.type "dict",data:=.dict #[]},s.gens,s.drawn,s.toks,s.os}:gC).TypeIs (.ref (zz9 s)) "dict":={_,c8 _ rfl,rfl};have same:aA H (upd H (zz9 s) (.dK [])):=bo w;have k:hW X.K (upd H (zz9 s) (.dK [])) l vs:=same.seq hl;let(av,rv,p,hz):=y.list k;let(o,n,g1,g2,L,M):=id p;refine{T,F.args_dict_init_2 _ _,?_};unfold ix.«dict.__init__» ix.Dict.selfAndRest;refine ar (ar (wpAny_notOrdered_dict T ?_));show hD _ _ (pure ((zz9 s),[fP.ref l]):Sem _) _ _ _;refine bc ?_;show hD _ _ (ix.Dict.updateFrom "dict.__init__" (zz9 s) (.ref l) [] .none) _ _ _;unfold ix.Dict.updateFrom;refine ar (wpAny_typeOf ⟨o,g1,g2⟩ ?_);rw [if_pos ↑2];refine ar (Hi g1 g2 M L t λh' z hk=>?_);rw [if_pos ↑2];refine ar (wpAny_rule ?_);have i:=y.kept (h':=h') (t':=z) hk;let(B,N,O,_):=i.list k;refine ar (wpAny_pyIter_list O.isList ?_);have P:=i.kept (h':=h'.push {cls:=.type "list_iterator",data:=.fields #[.ref l,.int 0 0]}) (t':=z) λb o e=>aT _ e;have FD:(h'.push {cls:=.type "list_iterator",data:=.fields #[.ref l,.int 0 0]}).IsListIter h'.objs.size l 0:={_,c8 _ rfl,rfl,rfl};have S:jq X aa (upd H (zz9 s) (.dK [])) h'.objs.size:=i.uN (a7 _) (i.aM.fresh (a7 _));refine bc {plainId_quiet kO _,CF (X:=X) (A:=X.A.in1) (aa:=aa) (σ:=σ) (l:=l) (d:=(zz9 s)) (it:=h'.objs.size) (vs:=vs) (by show X.A.units+1+1<cLine;lia) (show X.A.in1.handled=eX from t) g 0 0 [] _ _ P S FD k ?_ aq ?_ λs' U C J2 W=>{rfl,?_}}
 .exact Paired.Io m λ_ _ ⟨q,Y,f⟩=>{q,Y,(show gz X.K _ q _ from by
   rcases f with(f|⟨o,f⟩)|f
   .exact .inl (.inl (same _ _ f))
   .exact .inl (.inr {o,same _ _ f})
   .exact .inr f)}
 .have:=Paired.length m;rw [List.length_nil];lia
 .have e:U=upd H (zz9 s) (.dK (iE [] g)):=by
   funext b
   by_cases j:b=(zz9 s)
   .rw [j,aq];exact J2
   .rw [ai j,W b j,ai j]
  rw [e] at C;exact{.ref (zz9 s),_,C,rfl,q _ w}
def uq(e:X.calm=e6)(f:X.A.units+3<cLine):cK X (.type "dict") (λxs H Q=>∃l vs a,xs=[V.ref l]/\hW X.K H l vs/\z7 X.K H vs a/\∀p o,H p=eX->Q (.ref p) (upd H p (.bR o (.dK (iE [] a))))):=by
 intro aa s σ H xs g Q I r h;let(l,vs,a,rfl,hl,i,q):=h;refine wpAny_mono (nU e f aa s σ H _ g (λv c=>∃p,v=.ref p/\H p=eX/\c=upd H p (.dK (iE [] a))) I r {l,vs,a,rfl,hl,i,λp b=>⟨p,rfl,b,rfl⟩}) ?_ λZ Z z=>z
 rintro u k ⟨v,c,j,rv,p,rfl,b,rfl⟩
 let(o,J):=j.rR aq;rw [zT] at J;exact{_,_,J,rv,q p o b}
end
noncomputable abbrev jx(z:Str):List Int:=z.cps.toList.map λ(c:Nat)=>(c:Int)
theorem yY:∀(a b:List Nat),decide (a<b)=HT.lexLt (a.map λ(c:Nat)=>(c:Int)) (b.map λ(c:Nat)=>(c:Int))
 |[],[]=>by simp [HT.pW]|[],_::_=>by simp [HT.lexLt]|_::_,[]=>by simp [HT.lexLt]|x::a,y::b=>by
  rw [a8,a8,HT.xk,<-yY a b];by_cases e:x=y
  .subst e;rw [if_pos rfl];simp [List.cons_lt_cons_iff]
  .rw [if_neg (by lia)];simp [List.cons_lt_cons_iff,e]
section
variable{E:kd}{s:gC}
def Fm{w:hG}:∀{us:List fP} {c:List Str},Vals (c.map V.str) us->2<=us.length->SX prog w A E us (λi j=>HT.lexLt ((c.map jx).getD i []) ((c.map jx).getD j [])) s:=λ{us c} r d=>by
 have hl:c.length=us.length:=by have:=r.length;simpa using this
 have sa:StrsAre us c:=by
  clear d hl
  induction c generalizing us with
  |nil=>cases r;exact .nil
  |cons z c g=>
   cases r with
   |cons h t=>let(D,rfl):=h;exact .cons _ _ (g t)
 have at_:∀(i:Nat) (f:i<us.length),∃t,us.getD i fP.none=.str (c[i]'(by lia)) t:=λi f=>by let(u,k,d):=r.get (i:=i) (x:=V.str (c[i]'(by lia))) (by rw [cz,zzg (show i<c.length by lia)];rfl);let(t,rfl):=d;exact{t,by simp [k]}
 refine{oneType',λQ q=>?_,λi j C f m hC=>?_}
 .obtain⟨a,b,e,rfl⟩:∃a b e,us=a::b::e:=by
   match us,d with
   |a::b::e,_=>exact⟨a,b,e,rfl⟩
  rw [keyKind_strs sa];exact bc q
 .let(F,o):=at_ i f
  let(t2,p):=at_ j m
  unfold kas_ask;rw [o,p];refine kas_lt_str ?_;have y:(c.map jx).getD i []=jx (c[i]'(by lia)):=by simp [show i<c.length by lia]
  have B:(c.map jx).getD j []=jx (c[j]'(by lia)):=by simp [show j<c.length by lia]
  dsimp only at hC;rw [y,B] at hC;rw [yY];exact hC
def rD(y:X.calm=e6):cK X (.builtin "sorted") (λxs H Q=>∃a e,∃b:List Str,xs=[V.ref a]/\Rd H a (.dK e)/\e.map (·.1)=b.map Sum.inr/\e.length<64/\
 ∀p,H p=eX->Q (.ref p) (upd H p (.lst (tZ V.aP (b.map V.str) (b.map jx))))):=by
 intro S s T H xs d Q I r h;let(a,e,b,rfl,hl,hk,U,q):=h;let(u,rfl,B):=vals1 r;cases B;let(C,_,o,W,Y,D,F,G,Z,f):=CC I hl;refine Calls.call_function_entry kind_sorted plain_sorted entry_sorted (args_sorted1 _) ?_;unfold ix.«sorted»;refine ar (m:=checkCount "sorted" 1 1 _) (bc (ar (uy (FC C F G) (show X.A.in1.handled=eX from I.ok.hd y) D (by rw [sizeLine_eq];lia) λh' K c kp it=>?_)));have w:=I.kept (t':=K) (h':=h') kp;have L:b.length=e.length:=by have:=congrArg List.length hk;simpa using this.symm
 have hs:c.toList.length=b.length:=by rw [d1,it.1];lia
 have g:∀(i:Nat) v z,c.toList[i]?=eW v->b[i]?=eW z->RelV (V.str z) v:=λi v z j t=>by
  let(M,g):=it.2 i v (by rw [<-Array.getElem?_toList];exact j);let(k,x,g1,g2,_):=f i M;have N:k=.inr z:=by have:=congrArg (λl=>l[i]?) hk;simp! [cz,g1,t,Option.map_some] at this;exact zzq this
  subst N;rw [g];exact vC g2
 have rv:Vals (b.map V.str) c.toList:=by
  clear it f hk I w q L;generalize c.toList=d at hs g
  induction b generalizing d with
  |nil=>cases d with
   |nil=>exact .nil|cons u d=>simp at hs
  |cons z b O=>
   cases d with
   |nil=>simp at hs|cons u d=>exact .cons (g 0 u z rfl rfl) (O d (zx6 hs) λi v ns j t=>g (i+1) v ns (zx6 j) (zx6 t))
 exact xS w rv (λP h' k=>Fm rv P) (by rw [zzl];lia) λp R=>q p R
end
end L2
namespace Ci
open L2
noncomputable abbrev ki(k:Str):Key:=Sum.inr k
def xf{a b:Str}(h:ki a=ki b):a=b:=Sum.inr.inj h
theorem iW{k:Str}{u:V}{us:List V}:kz (k::ks) (u::us)=(ki k,u)::kz ks us:=rfl
theorem M9{us:List V}:kz [] us=[]:=rfl
def iA{us:List V}(h:ks.length=us.length):(kz ks us).length=ks.length:=by unfold kz;rw [List.length_zip,zzl];lia
def yX{us:List V}(h:ks.length=us.length):(kz ks us).map (·.1)=ks.map ki:=by unfold kz;exact List.map_fst_zip (by rw [zzl];lia)
theorem iB(k:Str):∀(ks:List Str) (us:List V),lN (kz ks us) (ki k)=bS ks us k
 |[],us=>by unfold bS;rfl|a::ks,[]=>by unfold bS;rfl|a::ks,u::us=>by
  rw [iW];unfold bS;by_cases h:a=k
  .subst h;rw [if_pos rfl];exact lQ rfl
  .rw [if_neg h,lP (λz=>h (xf z))];exact iB k ks us
theorem iT{b:Type}(k:Str):∀(ks:List Str) (us:List b),ks.length=us.length->(bS ks us k).isSome=gh ks k
 |[],[],_=>rfl|a::ks,u::us,h=>by
  unfold bS gh;rw [List.any_cons];by_cases e:a=k
  .simp [e]
  .rw [if_neg e];have:=iT k ks us (zx6 h);unfold gh at this;rw [this];simp [e]
 |[],_::_,h=>by simp at h|_::_,[],h=>by simp at h
def K4(k:Str):∀(ks:List Str) (us:List V),ks.length=us.length->((kz ks us).any λa=>decide (a.1=ki k))=gh ks k:=λks us h=>by rw [pE,iB,iT k ks us h]
def xg{us:List V}(h:ks.length=us.length)(k:Str)(v:V):putK (kz ks us) (ki k) v=kz (eN ks k) (cS ks us k v):=by
 unfold putK eN cS;rw [K4 k ks us h];split
 .have go:∀(ks:List Str) (us:List V),(kz ks us).map (λb=>if b.1=ki k then(b.1,v) else b)=kz ks (List.zipWith (λc u=>if c=k then v else u) ks us):=by
   intro ks
   induction ks with
   |nil=>intro us;simp [kz]|cons a ks d=>
    intro us;cases us with
    |nil=>simp [kz]|cons u us=>
     rw [iW,a8,List.zipWith_cons_cons,iW,d];by_cases e:a=k
     .simp [e]
     .rw [if_neg (λz=>e (xf z)),if_neg e]
  exact go ks us
 .unfold kz;rw [List.map_append,List.zip_append (by rw [zzl];exact h)];rfl
def oS{a:Type}{us:List a}(h:ks.length=us.length)(k:Str)(v:a):(eN ks k).length=(cS ks us k v).length:=by
 unfold eN cS;split
 .rw [List.length_zipWith];lia
 .simp [h]
theorem yW(k:Str):∀{ks:List Str} {us:List V},ks.length=us.length->gc (kz ks us) (ki k)=kz (fM ks k) (bK ks us k)
 |[],[],_=>rfl|a::ks,u::us,h=>by
  have b:=yW k (ks:=ks) (us:=us) (zx6 h);unfold fM bK;rw [iW,ew];by_cases e:a=k
  .subst e;rw [AG rfl,b];simp [fM]
  .rw [AE (λz=>e (xf z)),b,if_neg e,if_pos (zx6 e),iW];rfl
 |[],_::_,h=>by simp at h|_::_,[],h=>by simp at h
theorem uH{c:Type}(k:Str):∀{ks:List Str} {us:List c},ks.length=us.length->(fM ks k).length=(bK ks us k).length
 |[],[],_=>by unfold bK;rfl|a::ks,u::us,h=>by
  have b:=uH k (ks:=ks) (us:=us) (zx6 h);unfold fM bK;rw [ew];by_cases e:a=k
  .subst e;rw [if_neg (by simp),if_pos rfl];exact b
  .rw [if_neg e,if_pos (zx6 e),bV,bV];exact congrArg (·+1) b
 |[],_::_,h=>by simp at h|_::_,[],h=>by simp at h
section
variable{W:Wd}
theorem lR{k:Str}{p:PV}:∀{ks:List Str} {ps:List PV} {us:List V},ah W G ps us->bS ks ps k=eW p->∃v,bS ks us k=eW v/\Rep W G p v
 |[],_,_,_,e=>by unfold bS at e;cases e
 |a::ks,[],_,_,e=>by unfold bS at e;cases e
 |a::ks,q::ps,_,l,e=>by
  let(v,r,rfl,b,c):=l.aZ;unfold bS at e⊢;by_cases h:a=k
  .rw [if_pos h] at e⊢;cases e;exact⟨v,rfl,b⟩
  .rw [if_neg h] at e⊢;exact lR c e
theorem Gh{k:Str}{p:PV}(c:Rep W G p v):∀{ks:List Str} {ps:List PV} {us:List V},ah W G ps us->ah W G (List.zipWith (λb v=>if b=k then p else v) ks ps) (List.zipWith (λb u=>if b=k then v else u) ks us)
 |[],_,_,_=>by simp! [List.zipWith_nil_left];exact .nil|a::ks,[],_,l=>by simp! [ah] at l;subst l;simp! [List.zipWith_nil_right];exact .nil|a::ks,q::ps,_,l=>by
  let(u,r,rfl,d,e):=l.aZ;rw [List.zipWith_cons_cons,List.zipWith_cons_cons];refine .cons ?_ (Gh c e);split
  .exact c
  .exact d
def sV{us:List V}{k:Str}{p:PV}(l:ah W G ps us)(a:Rep W G p v):ah W G (cS ks ps k p) (cS ks us k v):=by
 unfold cS;split
 .exact Gh a l
 .exact l.append (.cons a .nil)
theorem og{k:Str}:∀{ks:List Str} {ps:List PV} {us:List V},ah W G ps us->ah W G (bK ks ps k) (bK ks us k)
 |[],_,_,_=>by unfold bK;exact .nil|a::ks,[],_,l=>by simp! [ah] at l;subst l;unfold bK;exact .nil|a::ks,q::ps,_,l=>by
  let(u,r,rfl,c,b):=l.aZ;unfold bK;split
  .exact og b
  .exact .cons c (og b)
end
def fA{p:PV}{k:Str}(h:fg p=eW k):p=gM k:=by
 unfold fg at h;split at h
 .cases h;rfl
 .cases h
end Ci
namespace L2
open PySem.Spec PyProof.Rows
end L2
namespace Ci
open L2
def j7{n:Nat}(h:n<=cb):n<=sizeLine:=c4 h ↑2
section
variable{W:Wd}
def d7(W:Wd)(G H:Hp)(r:PV)(Q:VK):Prop:=∀v a b,aE W G H a b->Rep W a r v->Q v b
def d7.at{r:PV}(h:d7 W G H r Q)(s:aA G H)(k:Rep W G r v):Q v H:=h v G H (.refl s) k
def d7.tup{p:g5}(h:d7 W G H (.tup xs) Q)(s:aA G H)(k:ah W G xs vs)(a:H p=eX):Q (.ref p) (upd H p (.tup vs)):=
 h _ _ _ (.new s a) (.t (.inl aq) (ah.same (bo (s.free a)) xs k))
def d7.lst{p:g5}(h:d7 W G H (.lst xs) Q)(s:aA G H)(k:ah W G xs vs)(a:H p=eX):Q (.ref p) (upd H p (.lst vs)):=
 h _ _ _ (.new s a) (.l (.inl (.inl aq)) (ah.same (bo (s.free a)) xs k))
theorem ni{f:PV->PV->Bool}:∀{xs ys:List PV},xs.length≠ys.length->eqs f xs ys=fx
 |[],[],h=>absurd rfl h|_::xs,_::ys,h=>by simp! [eqs];rw [ni (xs:=xs) (ys:=ys) (λz=>h (by simp [z]))];simp|[],_::_,_=>rfl|_::_,[],_=>rfl
theorem nh{f:PV->PV->Bool}:∀{xs ys:List PV},xs.length=ys.length->eqs f xs ys=(List.range xs.length).all λj=>f (xs.getD j .aP) (ys.getD j .aP)
 |[],[],_=>rfl|x::xs,y::ys,h=>by simp! [eqs];rw [nh (xs:=xs) (ys:=ys) (zx6 h),bV,List.range_succ_eq_map,List.all_cons,List.all_map];rfl|[],_::_,h=>by simp at h|_::_,[],h=>by simp at h
def qG{f:PV->PV->Bool}:∀{xs ys:List PV},((List.range (min xs.length ys.length)).all (λj=>f (xs.getD j .aP) (ys.getD j .aP))&&xs.length==ys.length)=eqs f xs ys:=λ{xs ys}=>by
 by_cases h:xs.length=ys.length
 .rw [nh h,h,Nat.min_self,beq_self_eq_true,Bool.and_true]
 .rw [ni h,beq_eq_false_iff_ne.mpr h,Bool.and_false]
theorem uK{f:PV->PV->Bool}:∀{xs ys:List PV},xs.length=ys.length->(∀(j:Nat) x y,xs[j]?=eW x->ys[j]?=eW y->f x y=e6)->eqs f xs ys=e6
 |[],[],_,_=>rfl|x::xs,y::ys,h,k=>by simp! [eqs];rw [k 0 x y rfl rfl,uK (xs:=xs) (ys:=ys) (zx6 h) λj a b c d=>k (j+1) a b (zx6 c) (zx6 d)];rfl|[],_::_,h,_=>by simp at h|_::_,[],h,_=>by simp at h
def tm(hK:W.K=X.K){a:g5}{vs:List V}(h:ub W.K H a vs):hW X.K H a vs:=by
 rw [hK] at h;rcases h with h|⟨b,n,c,d,e⟩
 .exact .inl h
 .exact .inr {_,b,n,c,rfl,rfl,rfl,d,e}
def vh{c:St}{s:gC}(I:Inv X aa c H s){us:List V}(d:gz X.K H a vs)(f:hW X.K H a us):False:=by let(h,_,(o,e,g,_),_):=I.tuple d;let(i,_,(o2,n,b,pT,_),_):=I.list f;rw [e] at b;cases b;rw [g] at pT;exact absurd pT ↑2
theorem iY{c:Type}:∀{xs ys:List c},xs.length=ys.length->(∀(j:Nat) x y,xs[j]?=eW x->ys[j]?=eW y->x=y)->xs=ys
 |[],[],_,_=>rfl|x::xs,y::ys,h,k=>by rw [k 0 x y rfl rfl,iY (xs:=xs) (ys:=ys) (zx6 h) λj a b d e=>k (j+1) a b (zx6 d) (zx6 e)]|[],_::_,h,_=>by simp at h|_::_,[],h,_=>by simp at h
def Zb(X:Cx)(W:Wd)(G H:Hp):PV->V->Prop
 |.aP,v=>v=.aP|.bl b,v=>v=.bl b|.int i,v=>v=.int i|.str z,v=>v=.str z|.tup xs,v=>∃a,v=.ref a/\∃vs,gz X.K H a vs/\ah W G xs vs|.lst xs,v=>∃a,v=.ref a/\∃vs,hW X.K H a vs/\ah W G xs vs|_,_=>False
def TF(hK:W.K=X.K)(g:aA G H){n:Nat}{p:PV}(d:plain n p=e6)(h:Top W H0 G H p v):Zb X W G H p v:=by
 cases p with
 |aP=>exact h.aP|bl b=>exact h.bl|int i=>exact h.int|str z=>exact h.str|tup xs=>let(a,f,e,sq,l):=h.tup g;rw [hK] at sq;exact⟨a,e,f,sq,l⟩|lst xs=>let(a,f,e,sq,l):=h.lst g;exact{a,e,f,tm hK sq,l}|exc c=>cases n<;>exact aO d
 |obj c=>cases n<;>exact aO d
 |cy a b=>cases n<;>exact aO d
def zC{B:St}{s:gC}(I:Inv X aa B H s)(hK:W.K=X.K)(h:aA G H):∀(n:Nat) {p q:PV} {v:V},plain n p=e6->plain n q=e6->Top W H0 G H p v->Top W H0 G H q v->p=q:=by
 intro n
 induction n with
 |zero=>
  intro p q v c d r t;have a:=TF hK h c r;have b:=TF hK h d t;cases p<;>cases q<;>first|exact aO c|exact aO d|(cases a;cases b;rfl)|(cases a;cases b)
 |succ n C=>
  intro p q v c d r t;have a:=TF hK h c r;have b:=TF hK h d t
  have z:∀{xs i:List PV} {k:List V},xs.all (plain n)=e6->i.all (plain n)=e6->ah W G xs k->ah W G i k->xs=i:=λ{xs i k} a1 a2 e f=>iY (by rw [<-e.length,f.length]) λj x y ex A=>by let(u,D,E):=e.rV ex;let(M,g,F):=f.get D;rw [A] at g;cases g;exact C (cZ.mp a1 _ (a6 ex)) (cZ.mp a2 _ (a6 A)) (.inl E) (.inl F)
  cases p<;>cases q<;>first|exact aO c|exact aO d|(cases a;cases b;done)|(cases a;cases b;rfl)|(let(_,L,_):=a;cases b;cases L;done)|(let(_,w,_):=b;cases a;cases w;done)|(let(x,rfl,k,m,e):=a;let(y,w,N,o,f):=b;cases w;first|exact(vh I m o).elim|exact(vh I o m).elim|(cases I.q0 m o;rw [z c d e f])|(cases I.u4 m o;rw [z c d e f]))
def CJ:∀{n:Nat} {p:PV},plain n p=e6->pQ n p p=e6:=by
 intro n
 induction n with
 |zero=>intro p h;cases p<;>first|exact aO h|rfl|exact beq_self_eq_true _
 |succ n c=>
  intro p h;cases p<;>first|exact aO h|rfl|exact beq_self_eq_true _|exact uK rfl λj x y a b=>by rw [a] at b;cases b;exact c (cZ.mp h _ (a6 a))
def yD{b:St}{s:gC}(I:Inv X aa b H s)(hK:W.K=X.K)(c:aA G H):∀(n:Nat) {p q:PV} {v:V},plain n p=e6->plain n q=e6->Top W H0 G H p v->Top W H0 G H q v->pQ n p q=e6:=λn {p q v} a d e f=>by cases zC I hK c n a d e f;exact CJ a
def nB{x:V}(r:RelV x (.ref a)):x=.ref a:=by
 cases x<;>first|(cases r;rfl)|(let(_,h):=r;cases h)|cases r
def Y4(W:Wd)(G:Hp)(h:hZ):PV->fP->Prop
 |.aP,v=>∃_t:Nat,v=.none/\True|.bl b,v=>∃_t:Nat,v=.bool b/\True|.int i,v=>∃t,v=.int i t/\True|.str z,v=>∃t,v=.str z t/\True|.tup xs,v=>∃a,v=.ref a/\∃c vs,ah W G xs vs/\Vals vs c/\h.IsTuple a c.toArray|.lst xs,v=>∃a,v=.ref a/\∃c vs,ah W G xs vs/\Vals vs c/\h.IsList a c.toArray|_,_=>False
def Kx{k:St}{s:gC}(I:Inv X aa k H s)(hK:W.K=X.K)(g:aA G H){n:Nat}{p:PV}{j:fP}(d:plain n p=e6)(h:Top W H0 G H p v)(r:RelV v j):Y4 W G s.heap p j:=by
 cases p with
 |aP=>cases h.aP;cases r;exact{0,rfl,trivial}
 |bl b=>cases h.bl;cases r;exact{0,rfl,trivial}
 |int i=>cases h.int;let(t,rfl):=r;exact⟨t,rfl,trivial⟩
 |str z=>cases h.str;let(t,rfl):=r;exact⟨t,rfl,trivial⟩
 |tup xs=>let(a,e,rfl,sq,l):=h.tup g;rw [hK] at sq;cases r;let(f,q,z,_):=I.tuple sq;exact⟨a,rfl,f,e,l,q,z⟩
 |lst xs=>let(a,e,rfl,sq,l):=h.lst g;cases r;let(f,q,z,_):=I.list (tm hK sq);exact⟨a,rfl,f,e,l,q,z.isList⟩
 |exc c=>cases n<;>exact aO d
 |obj c=>cases n<;>exact aO d
 |cy a b=>cases n<;>exact aO d
def t8(W:Wd)(G:Hp)(s:gC)(n:Nat)(A:hT)(xs ys:List PV):Prop:=∀{c d:List V} {a b:List fP},ah W G xs c->ah W G ys d->Vals c a->Vals d b->∀j (e:j<a.toArray.size) (f:j<b.toArray.size),SeqAt.EqAt A s a.toArray[j] b.toArray[j] (pQ n (xs.getD j .aP) (ys.getD j .aP))
theorem CI{s:gC}{n:Nat}(h:∀{p q:PV} {v u:V} {a b:fP},plain n p=e6->plain n q=e6->Rep W G p v->Rep W G q u->RelV v a->RelV u b->SeqAt.EqAt A s a b (pQ n p q))(d:xs.all (plain n)=e6)(a2:ys.all (plain n)=e6):t8 W G s n A xs ys:=λ{z us B C} e f g i j g1 g2=>by let(x,k,m):=F0 g g1;let(y,o,r):=F0 i g2;let(D,ex,t):=e.get k;let(E,c,w):=f.get o;rw [bU,bU,ex,c];exact h (cZ.mp d _ (a6 ex)) (cZ.mp a2 _ (a6 c)) t w m r
def zA{s:gC}{n:Nat}{b:g5}(h:A.units<cLine)(i:t8 W G s n A.in1 xs ys)(k1:∃c vs,ah W G xs vs/\Vals vs c/\s.heap.IsTuple a c.toArray)(k2:∃c vs,ah W G ys vs/\Vals vs c/\s.heap.IsTuple b c.toArray):SeqAt.RcAt A s (.ref a) (.ref b) (eqs (pQ n) xs ys):=by
 let(c,vs,l,d,k):=k1;let(m,p,f,g,o):=k2;have m1:c.length=xs.length:=by rw [<-d.length,l.length]
 have m2:m.length=ys.length:=by rw [<-g.length,f.length]
 have:=SeqAt.RcAt.tuples (e:=λj=>pQ n (xs.getD j .aP) (ys.getD j .aP)) k o h (i l f d g);rw [a5,a5,m1,m2,qG] at this;exact this
def zy{s:gC}{n:Nat}{b:g5}(d:A.units<cLine)(m:t8 W G s n A.in1 xs ys)(k1:∃c vs,ah W G xs vs/\Vals vs c/\s.heap.IsList a c.toArray)(k2:∃c vs,ah W G ys vs/\Vals vs c/\s.heap.IsList b c.toArray):SeqAt.RcAt A s (.ref a) (.ref b) (eqs (pQ n) xs ys):=by
 let(c,vs,l,f,g):=k1;let(o,p,h,i,k):=k2;have m1:c.length=xs.length:=by rw [<-f.length,l.length]
 have m2:o.length=ys.length:=by rw [<-i.length,h.length]
 by_cases hl:xs.length=ys.length
 .have:=SeqAt.RcAt.lists (e:=λj=>pQ n (xs.getD j .aP) (ys.getD j .aP)) g k (by rw [a5,a5];lia) d (m l h f i);rw [a5,m1,<-nh hl] at this;exact this
 .have:=SeqAt.RcAt.lists_lengths g k (by rw [a5,a5,m1,m2];simp [hl]) d;rw [ni hl];exact this
open SeqAt.EqAt in
def yC{C:St}{s:gC}(I:Inv X aa C H s)(hK:W.K=X.K)(m:aA G H):∀(n:Nat) {A:hT} {p q:PV} {v u:V} {r t:fP},A.units+(n+1)<cLine->plain n p=e6->plain n q=e6->Top W H0 G H p v->Top W H0 G H q u->RelV v r->RelV u t->
 SeqAt.EqAt A s r t (pQ n p q):=by
 intro n
 induction n with
 |zero=>
  intro A p q v u r t D d e h i j k;have a:=Kx I hK m d h j;have b:=Kx I hK m e i k;cases p<;>cases q<;>first|exact aO d|exact aO e|(let(w,rfl,_):=a;let(t2,rfl,_):=b)
  exact same _;exact none_bool _;exact none_int _ _;exact none_str _ _;exact bool_none _;exact bool_bool _ _;exact bool_int _ _ _;exact bool_str _ _ _;exact int_none _ _;exact int_bool _ _ _;exact int_int _ _ _ _;exact int_str _ _ _ _;exact str_none _ _;exact str_bool _ _ _;exact str_int _ _ _ _;exact str_str _ _ _ _
 |succ n E=>
  intro A p q v u r t D d e h i j k;have c:A.units<cLine:=by lia
  have a:=Kx I hK m d h j;have b:=Kx I hK m e i k;have z:∀{xs B:List PV},xs.all (plain n)=e6->B.all (plain n)=e6->t8 W G s n A.in1 xs B:=λF a2=>CI (λd e h i j k=>E (by show A.units+1+(n+1)<_;lia) d e (.inl h) (.inl i) j k) F a2;cases p<;>cases q<;>first|exact aO d|exact aO e|(let(w,rfl,y):=a;let(t2,rfl,k2):=b;try let(_,_,_,_,f):=id y;try let(_,_,_,_,g):=id k2)
  exact same _;exact none_bool _;exact none_int _ _;exact none_str _ _;exact none_tuple g c;exact none_list g c;exact bool_none _;exact bool_bool _ _;exact bool_int _ _ _;exact bool_str _ _ _;exact bool_tuple _ g c;exact bool_list _ g c;exact int_none _ _;exact int_bool _ _ _;exact int_int _ _ _ _;exact int_str _ _ _ _;exact int_tuple _ _ g c;exact int_list _ _ g c;exact str_none _ _;exact str_bool _ _ _;exact str_int _ _ _ _;exact str_str _ _ _ _;exact str_tuple _ _ g c;exact str_list _ _ g c;exact tuple_none f c;exact tuple_bool _ f c;exact tuple_int _ _ f c;exact tuple_str _ _ f c;by_cases o:w=t2
  .subst o;cases nB j;cases nB k;rw [yD I hK m (n+1) d e h i];exact same _
  .exact of_refs o (zA c (z d e) y k2)
  exact tuple_list f g c;exact list_none f c;exact list_bool _ f c;exact list_int _ _ f c;exact list_str _ _ f c;exact list_tuple f g c;by_cases o:w=t2
  .subst o;cases nB j;cases nB k;rw [yD I hK m (n+1) d e h i];exact same _
  .exact of_refs o (zy c (z d e) y k2)
end
section
variable{W:Wd}
open SeqAt.RcAt in
def Sf{z:St}{s:gC}(I:Inv X aa z H s)(hK:W.K=X.K)(h:aA G H)(n:Nat){p:PV}{u:V}{r t:fP}(C:A.units+(n+2)<cLine)(f:plain (n+1) p=e6)(g:plain (n+1) q=e6)(i:Top W H0 G H p v)(j:Top W H0 G H q u)(k:RelV v r)(m:RelV u t):
 SeqAt.RcAt A s r t (pQ (n+1) p q):=by
 have c:A.units<cLine:=by lia
 have a:=Kx I hK h f i k;have b:=Kx I hK h g j m;have w:∀{xs y:List PV},xs.all (plain n)=e6->y.all (plain n)=e6->t8 W G s n A.in1 xs y:=λB a2=>CI (λf g i j k m=>yC (H0:=H0) I hK h n (by show A.units+1+(n+1)<_;lia) f g (.inl i) (.inl j) k m) B a2;cases p<;>cases q<;>first|exact aO f|exact aO g|(let(D,rfl,o):=a;let(t2,rfl,k2):=b;try let(_,_,_,_,d):=id o;try let(_,_,_,_,e):=id k2)
 exact none_none;exact none_bool _;exact none_int _ _;exact none_str _ _;exact none_tuple e c;exact none_list e c;exact bool_none _;exact bool_bool _ _;exact bool_int _ _ _;exact bool_str _ _ _;exact bool_tuple _ e c;exact bool_list _ e c;exact int_none _ _;exact int_bool _ _ _;exact int_int _ _ _ _;exact int_str _ _ _ _;exact int_tuple _ _ e c;exact int_list _ _ e c;exact str_none _ _;exact str_bool _ _ _;exact str_int _ _ _ _;exact str_str _ _ _ _;exact str_tuple _ _ e c;exact str_list _ _ e c;exact tuple_none d c;exact tuple_bool _ d c;exact tuple_int _ _ d c;exact tuple_str _ _ d c;exact zA c (w f g) o k2;exact tuple_list d e c;exact list_none d c;exact list_bool _ d c;exact list_int _ _ d c;exact list_str _ _ d c;exact list_tuple d e c;exact zy c (w f g) o k2
def Bu{s:gC}{n:Nat}{b:g5}(h:A.units<cLine)(i:t8 W G s n A.in1 xs ys)(k1:∃c vs,ah W G xs vs/\Vals vs c/\s.heap.IsTuple a c.toArray)(k2:∃c vs,ah W G ys vs/\Vals vs c/\s.heap.IsTuple b c.toArray):SeqAt.RcNeAt A s (.ref a) (.ref b) (!eqs (pQ n) xs ys):=by
 let(c,vs,l,d,k):=k1;let(m,p,f,g,o):=k2;have m1:c.length=xs.length:=by rw [<-d.length,l.length]
 have m2:m.length=ys.length:=by rw [<-g.length,f.length]
 have:=SeqAt.RcNeAt.tuples (e:=λj=>pQ n (xs.getD j .aP) (ys.getD j .aP)) k o h (i l f d g);rw [a5,a5,m1,m2,qG] at this;exact this
def Bt{s:gC}{n:Nat}{b:g5}(d:A.units<cLine)(m:t8 W G s n A.in1 xs ys)(k1:∃c vs,ah W G xs vs/\Vals vs c/\s.heap.IsList a c.toArray)(k2:∃c vs,ah W G ys vs/\Vals vs c/\s.heap.IsList b c.toArray):SeqAt.RcNeAt A s (.ref a) (.ref b) (!eqs (pQ n) xs ys):=by
 let(c,vs,l,f,g):=k1;let(o,p,h,i,k):=k2;have m1:c.length=xs.length:=by rw [<-f.length,l.length]
 have m2:o.length=ys.length:=by rw [<-i.length,h.length]
 by_cases hl:xs.length=ys.length
 .have:=SeqAt.RcNeAt.lists (e:=λj=>pQ n (xs.getD j .aP) (ys.getD j .aP)) g k (by rw [a5,a5];lia) d (m l h f i);rw [a5,m1,<-nh hl] at this;exact this
 .have:=SeqAt.RcNeAt.lists_lengths g k (by rw [a5,a5,m1,m2];simp [hl]) d;rw [ni hl];exact this
open SeqAt.RcNeAt in
def Jm{z:St}{s:gC}(I:Inv X aa z H s)(hK:W.K=X.K)(h:aA G H)(n:Nat){p:PV}{u:V}{r t:fP}(C:A.units+(n+2)<cLine)(f:plain (n+1) p=e6)(g:plain (n+1) q=e6)(i:Top W H0 G H p v)(j:Top W H0 G H q u)(k:RelV v r)(m:RelV u t):
 SeqAt.RcNeAt A s r t (!pQ (n+1) p q):=by
 have c:A.units<cLine:=by lia
 have a:=Kx I hK h f i k;have b:=Kx I hK h g j m;have w:∀{xs y:List PV},xs.all (plain n)=e6->y.all (plain n)=e6->t8 W G s n A.in1 xs y:=λB a2=>CI (λf g i j k m=>yC (H0:=H0) I hK h n (by show A.units+1+(n+1)<_;lia) f g (.inl i) (.inl j) k m) B a2;cases p<;>cases q<;>first|exact aO f|exact aO g|(let(D,rfl,o):=a;let(t2,rfl,k2):=b;try let(_,_,_,_,d):=id o;try let(_,_,_,_,e):=id k2)
 exact none_none;exact none_bool _;exact none_int _ _;exact none_str _ _;exact none_tuple e c;exact none_list e c;exact bool_none _;exact bool_bool _ _;exact bool_int _ _ _;exact bool_str _ _ _;exact bool_tuple _ e c;exact bool_list _ e c;exact int_none _ _;exact int_bool _ _ _;exact int_int _ _ _ _;exact int_str _ _ _ _;exact int_tuple _ _ e c;exact int_list _ _ e c;exact str_none _ _;exact str_bool _ _ _;exact str_int _ _ _ _;exact str_str _ _ _ _;exact str_tuple _ _ e c;exact str_list _ _ e c;exact tuple_none d c;exact tuple_bool _ d c;exact tuple_int _ _ d c;exact tuple_str _ _ d c;exact Bu c (w f g) o k2;exact tuple_list d e c;exact list_none d c;exact list_bool _ d c;exact list_int _ _ d c;exact list_str _ _ d c;exact list_tuple d e c;exact Bt c (w f g) o k2
end
end Ci
namespace L2
open PySem.Spec PyProof.Rows
open PySem.AutoSeq1 (wpAny_loadPart')
end L2
namespace Ci
open L2
section
variable{W:Wd}
def Ei(hK:W.K=X.K){d:St}{s:gC}{xs:List V}(I:Inv X aa d H s)(h:ub W.K H a xs):∃(b:List fP) (n:Nat),Vals xs b/\xs.length=b.length/\xs.length<=h9/\s.heap.get? a=eW {cls:=.type "list",data:=.seq b.toArray n}:=by
 rw [hK] at h;rcases h with h|⟨b,n,f,g,c⟩
 .let(z,b,n,r,e):=h.ok I.aM;exact⟨b,n,r,r.length,z,e⟩
 .refine{b.toList,n,c,c.length,?_,by simpa using I.j2 a _ f};rw [c.length,d1];exact g
def IS(hK:W.K=X.K):gU X (binaryOp .Add) (λx y H Q=>∃l b xs a,x=.ref l/\y=.ref b/\ub W.K H l xs/\ub W.K H b a/\xs.length+a.length<=h9/\∀p,H p=eX->Q (.ref p) (upd H p (.lst (xs++a)))):=by
 intro w s z H x y v u Q I f g h;let(l,b,xs,a,rfl,rfl,i,j,A,q):=h;cases f;cases g;let(c,n,r,hl,_,e):=Ei hK I i;let(d,B,k,m,_,o):=Ei hK I j;refine PySem.P.add_list e o ?_ (by rw [a5,a5];lia);have t:c.toArray++d.toArray=(c++d).toArray:=by simp
 rw [t];exact{.ref _,_,I.VT (t':=s.toks) (r.append k) (by rw [bW];lia),rfl,q _ I.fresh}
def IU:gU X (binaryOp .Add) (λx y H Q=>∃a b xs ys,x=.ref a/\y=.ref b/\gz X.K H a xs/\gz X.K H b ys/\xs.length+ys.length<=h9/\(xs=[]->Q (.ref b) H)/\(ys=[]->Q (.ref a) H)/\∀p,H p=eX->Q (.ref p) (upd H p (.tup (xs++ys)))):=by
 intro w s z H x y v u Q I A B h;let(a,b,xs,ys,rfl,rfl,i,j,C,D,E,G):=h;cases A;cases B;by_cases k:xs=[]
 .subst k;let(L,M,N,_):=I.tuple i;let(O,Y,P,_):=I.tuple j;have R:L=[]:=M.nv.mpr rfl;subst R;let((cls,S,m,T),o,q,n,hd):=id N;let((r,d,f,g),t,pT,U,c):=id P
  simp only at q hd pT c;subst q hd pT c;exact PySem.concat_meets {_,o,rfl} {_,t,rfl} PySem.noFill_tuple_add PySem.seq_tuple_add PySem.F.slot_tuple_add PySem.F.entry_tuple_add (PySem.F.args_tuple_add_2 _ _)
   (PyProof.Rows.tuple_addW0 a b ([]:List fP).toArray O.toArray n U S d T g (by simp)) {o,t,{.ref b,H,I,rfl,D rfl}}
 .refine IV w s z H (.ref a) (.ref b) (.ref a) (.ref b) Q I rfl rfl {a,b,xs,ys,rfl,rfl,i,j,k,C,λe=>E e,λZ p V=>G p V}
abbrev Tu:KN->Operator
 |.add=>.Add|.sub=>.Sub|.mul=>.Mult|.mod=>.Mod|.fdiv=>.FloorDiv
abbrev t7(W:Wd)(f:PV->PV->Res PV):R2:=λx y H Q=>∃a G p q r,aA G H/\Top W a G H p x/\Top W a G H q y/\f p q=.ok r/\d7 W G H r Q
set_option tactic.hygienic true in
def Nx(hK:W.K=X.K)(o:KN):gU X (binaryOp (Tu o)) (t7 W (binOp o)):=by
 intro g s j H x y v u Q I k m h;let(O,G,p,q,r,c,f,t2,e,d):=h;unfold binOp at e;split at e
 .cases e;exact Nw g s j H x y v u Q I k m {_,_,f.int,t2.int,d.at c .i}
 .split at e
  .rename_i hl;cases e;exact xy g s j H x y v u Q I k m {_,_,f.str,t2.str,j7 hl,d.at c .s}
  .cases e
 .split at e
  .rename_i hl;cases e;let(a,D,rfl,B,w):=f.lst c;let(b,E,rfl,C,A):=t2.lst c;exact IS hK g s j H _ _ v u Q I k m {a,b,D,E,rfl,rfl,B,C,by rw [w.length,A.length];exact j7 hl,λp F=>d.lst c (w.append A) F}
  .cases e
 .split at e
  .rename_i hl;cases e;have L:=f;have M:=t2;let(a,D,rfl,B,w):=f.tup c;let(b,E,rfl,C,A):=t2.tup c;rw [hK] at B C;have m1:=w.length;have m2:=A.length;refine IU g s j H _ _ v u Q I k m {a,b,D,E,rfl,rfl,B,C,by rw [m1,m2];exact j7 hl,λz=>?_,λz=>?_,λp F=>d.tup c (w.append A) F}
   .subst z;rename_i xs N;have:xs=[]:=List.length_eq_zero_iff.mp m1.symm;subst this;exact d.at c (M.elim id λz=>z.elim)
   .subst z;rename_i xs N;have:N=[]:=List.length_eq_zero_iff.mp m2.symm;subst this;rw [eA] at d;exact d.at c (L.elim id λz=>z.elim)
  .cases e
 .cases e;exact NL g s j H x y v u Q I k m {_,_,f.int,t2.int,d.at c .i}
 .split at e
  .rename_i t;cases e;refine NI g s j H x y v u Q I k m {_,_,f.int,t2.int,?_,d.at c .i};rw [ej] at t;unfold bg at t;simp! [zza,zzN] at t;exact t
  .cases e
 .split at e
  .rename_i t;cases e;exact NH g s j H x y v u Q I k m {_,_,f.int,t2.int,t,d.at c .i}
  .cases e
 .split at e
  .rename_i t;cases e;exact IW g s j H x y v u Q I k m {_,_,f.int,t2.int,t,d.at c .i}
  .cases e
 .cases e
def JO:S0 X (unaryOp .USub) (λx H Q=>∃(H0 G:Hp) (i:Int),aA G H/\Top W H0 G H (.int i) x/\d7 W G H (.int (-i)) Q):=by intro a s b H x v Q I c h;let(H0,G,i,d,t,e):=h;exact OZ a s b H x v Q I c {i,t.int,e.at d .i}
abbrev mZ:tV->CmpOp
 |.eq=>.Eq|.ne=>.NotEq|.lt=>.Lt|.le=>.LtE|.gt=>.Gt|.ge=>.GtE|.is=>.Is|.Gx=>.In|.Ey=>.NotIn|.Kl=>.NotEq
def qH{a:St}{s:gC}{k:Bool}(I:Inv X aa a H s)(c:aA G H)(d:d7 W G H (.bl k) Q):EP X aa a Q (.bool k) s:={.bl k,H,I,rfl,d.at c .b}
def Ny(hK:W.K=X.K)(i:X.A.units+64<cLine):gU X (compareOp .Eq) (t7 W gO):=by
 intro j s k H x y v u Q I c d h;let(m,G,p,q,r,b,f,t2,e,g):=h;unfold gO at e;split at e
 .rename_i a;rw [zza] at a;cases e;exact Sf I hK b 8 (by lia) a.1 a.2 f t2 c d _ _ _ _ (qH I b g)
 .cases e
def NK(hK:W.K=X.K)(i:X.A.units+64<cLine):gU X (compareOp .NotEq) (t7 W iF):=by
 intro j s k H x y v u Q I c d h;let(m,G,p,q,r,b,f,t2,e,g):=h;unfold iF at e;split at e
 .rename_i a;rw [zza] at a;cases e;exact Jm I hK b 8 (by lia) a.1 a.2 f t2 c d _ _ _ _ (qH I b g)
 .cases e
theorem mj:∀{xs:List PV} {vs:List V} {ns:List Bool},ah W G xs vs->boolsOf xs=eW ns->vs=ns.map V.bl
 |[],vs,ns,h,e=>by simp! [ah] at h;subst h;cases e;rfl
 |.bl i::r,vs,ns,h,e=>by let(v,t,rfl,a,b):=h.aZ;simp! [Rep] at a;subst a;unfold boolsOf at e;let(m,hm,rfl):=bM.mp e;rw [mj b hm];rfl|.aP::_,_,_,_,e=>by cases e
 |.int _::_,_,_,_,e=>by cases e
 |.str _::_,_,_,_,e=>by cases e
 |.tup _::_,_,_,_,e=>by cases e
 |.lst _::_,_,_,_,e=>by cases e
 |.exc _::_,_,_,_,e=>by cases e
 |.cy _ _::_,_,_,_,e=>by cases e
theorem pA:∀{xs:List PV} {vs:List V} {ns:List Str},ah W G xs vs->strsOf xs=eW ns->vs=ns.map V.str
 |[],vs,ns,h,e=>by simp! [ah] at h;subst h;cases e;rfl
 |.str i::r,vs,ns,h,e=>by let(v,t,rfl,a,b):=h.aZ;simp! [Rep] at a;subst a;unfold strsOf at e;let(m,hm,rfl):=bM.mp e;rw [pA b hm];rfl|.aP::_,_,_,_,e=>by cases e
 |.int _::_,_,_,_,e=>by cases e
 |.bl _::_,_,_,_,e=>by cases e
 |.tup _::_,_,_,_,e=>by cases e
 |.lst _::_,_,_,_,e=>by cases e
 |.exc _::_,_,_,_,e=>by cases e
 |.cy _ _::_,_,_,_,e=>by cases e
def Res.of_ok{c:Type}{o:Option c}{a:c}(h:Res.of o=.ok a):o=eW a:=by
 cases o with
 |none=>cases h
 |some b=>cases h;rfl
def NG(hK:W.K=X.K)(k:X.A.units+64<cLine):gU X (compareOp .Lt) (t7 W vo):=by
 intro a s c H x y v u Q I d f h;let(m,G,p,q,r,g,i,t2,e,j):=h;unfold vo at e;split at e
 .cases e;exact RQ a s c H x y v u Q I d f {_,_,i.int,t2.int,j.at g .b}
 .cases e
def NF:gU X (compareOp .LtE) (t7 W vn):=by
 intro a s c H x y v u Q I d f h;let(k,G,p,q,r,g,i,t2,e,j):=h;unfold vn at e;split at e
 .cases e;exact RP a s c H x y v u Q I d f {_,_,i.int,t2.int,j.at g .b}
 .cases e
def NA:gU X (compareOp .Gt) (t7 W xx):=by
 intro a s c H x y v u Q I d f h;let(k,G,p,q,r,g,i,t2,e,j):=h;unfold xx at e;split at e
 .cases e;exact RO a s c H x y v u Q I d f {_,_,i.int,t2.int,j.at g .b}
 .cases e
def Nz:gU X (compareOp .GtE) (t7 W xw):=by
 intro a s c H x y v u Q I d f h;let(k,G,p,q,r,g,i,t2,e,j):=h;unfold xw at e;split at e
 .cases e;exact RN a s c H x y v u Q I d f {_,_,i.int,t2.int,j.at g .b}
 .cases e
def A0{p:PV}{x:V}(d:aA G H)(t:Top W H0 G H p x):decide (x=.aP)=yR p:=by
 cases p with
 |aP=>cases t.aP;rfl
 |bl b=>cases t.bl;rfl
 |int b=>cases t.int;rfl
 |str b=>cases t.str;rfl
 |tup b=>let(a,e,rfl,_):=t.tup d;rfl|lst b=>let(a,e,rfl,_):=t.lst d;rfl|cy b c=>let(a,e,rfl,_):=t.cy d;rfl|exc c=>
  rcases t with t|t
  .simp! [Rep] at t;let(a,C,rfl,_):=t;rfl
  .exact t.elim
 |obj n=>
  rcases t with t|t
  .simp! [Rep] at t;let(o,_,rfl):=t;rfl
  .exact t.elim
def ND:gU X (compareOp .Is) (t7 W EJ):=by
 intro c s d H x y v u Q I f g h;let(k,G,p,q,r,a,i,t2,e,j):=h;unfold EJ at e;split at e
 .cases e;refine NC c s d H x y v u Q I f g {t2.aP,?_};rw [A0 a i];exact j.at a .b
 .cases e
end
end Ci
namespace Ci
open L2 PySem.W
section
variable{W:Wd}
theorem zU{b:Type}{k:Str}{p:b}:∀{ks:List Str} {vs:List b},bS ks vs k=eW p->p∈vs
 |[],_,h=>nomatch h|_::_,[],h=>nomatch h|a::ks,v::vs,h=>by
  unfold bS at h;split at h
  .cases h;exact b4
  .exact bI _ (zU h)
def HU{F:St}{s:gC}(I:Inv X aa F H s)(hK:W.K=X.K)(L:aA G H)(Y:A.units+32<cLine){b:List Str}{vs':List PV}{c:List V}{g:List (Key×fP)}(D:ah W G vs' c)(j:vs'.all m6=e6)(M:KV (kz b c) g):
 ∀{ks:List Str} {vs:List PV} {us:List V} {xs:List (Key×fP)},ks.length=us.length->ah W G vs us->vs.all m6=e6->KV (kz ks us) xs->KeqHits A s g xs (pU b vs' ks vs):=by
 intro ks
 induction ks with
 |nil=>intro vs us xs hl l i r;rw [M9] at r;cases r;exact .nil
 |cons k ks o=>
  intro vs us xs hl l i r;cases us with
  |nil=>cases hl
  |cons u us=>
   cases vs with
   |nil=>simp! [ah] at l;cases l
   |cons n vs=>
    let(_,_,e,N,O):=l.aZ
    cases e;rw [iW] at r;cases r with
    |@cons p q Z qs h t=>
     let(E,rv):=h;let(qk,qv):=q;dsimp only at E rv;subst E;rw [List.all_cons,zza] at i;have rest:=o (zx6 hl) O i.2 t;have d:=M.val (ki k)
     rw [iB] at d;unfold pU;cases B:bS b vs' k with
     |none=>
      have P:bS b c k=eX:=by
       cases z:bS b c k with
       |none=>rfl|some w=>
        exfalso
        have C:∀(b:List Str) (vs':List PV) (c:List V),ah W G vs' c->bS b vs' k=eX->bS b c k≠eW w:=λb=>by
         induction b with
         |nil=>intro vs' c _ _ z;cases z
         |cons a b o=>
          intro vs' c l e z;cases c with
          |nil=>cases z
          |cons u c=>
           cases vs' with
           |nil=>simp! [ah] at l;cases l
           |cons v vs'=>
            let(_,_,Q,_,R):=l.aZ;cases Q;unfold bS at e z;split at e
            .cases e
            .rename_i S;rw [if_neg S] at z;exact o _ _ R e z
        exact C b vs' c D B z
      rw [P] at d;cases f:valueAt g (ki k) with
      |none=>exact .miss f|some y=>rw [f] at d;exact d.elim
     |some m=>
      let(w,T,U):=lR D B
      rw [T] at d;cases f:valueAt g (ki k) with
      |none=>rw [f] at d;exact d.elim|some y=>rw [f] at d;exact .hit (y:=y) f (yC I hK L DP (by show A.units+(9+1)<_;lia) i.1 (cZ.mp j _ (zU B)) (.inl N:Top W H G H n u) (.inl U) rv d) rest
def NJ(hK:W.K=X.K)(P:X.A.units+64<cLine):gU X (compareOp .NotEq) (t7 W qU):=by
 intro R s S H x y v u Q I t w h;let(T,G,p,q,r,c,z,t2,e,B):=h;unfold qU at e;split at e
 .split at e
  .rename_i d;rw [zza] at d;cases e;let(a,U,rfl,k,f,C):=z.cy c;let(b,V,rfl,D,g,E):=t2.cy c;cases t;cases w;let(_,i,xs,m,F):=kN I.aM f;let(_,j,L,o,M):=kN I.aM g;have N:xs.length=_:=(m.length).symm.trans (iA k);have O:L.length=_:=(o.length).symm.trans (iA D);refine keq_ne i j F M (by lia) (λZ=>HU I hK c (by show X.A.units+1+32<_;lia) E d.2 o k C d.1 m) ?_;rw [N,O];exact qH I c B
  .cases e
 .cases e
end
end Ci
namespace Ci
open L2
section
variable{W:Wd}
def sm{N:St}{s:gC}(I:Inv X aa N H s)(hK:W.K=X.K)(q:aA G H){a:PV}{x:V}{t:fP}{us:List V}{d:List fP}(hu:A.units+32<cLine)(O:m6 a=e6)(P:ys.all m6=e6)(Q:Top W H0 G H a x)(R:RelV x t)(l:ah W G ys us)(r:Vals us d):
 ∃e:fP->Bool,(∀y∈d,SeqAt.EqAt A s y t (e y))/\∀(j:Nat) (y:fP) (p:PV),d[j]?=eW y->ys[j]?=eW p->e y=eqv p a:=by
 classical
 have c:∀(j:Nat) (y:fP),d[j]?=eW y->∃p u,ys[j]?=eW p/\us[j]?=eW u/\Rep W G p u/\RelV u y/\m6 p=e6:=λj y e=>by have w:=(bD.mp e).1;have hl:=r.length;let(u,z,g):=r.get (i:=j) (x:=us[j]'(by omega)) (zzg (by omega));rw [e] at z;cases z;let(p,B,kp):=l.get (zzg (show j<us.length by omega));exact{p,_,B,zzg (by omega),kp,g,cZ.mp P p (a6 B)}
 refine{λy=>if h:∃(j:Nat) (p:PV),d[j]?=eW y/\ys[j]?=eW p then eqv h.choose_spec.choose a else fx,λy S=>?_,λj y p C D=>?_}
 .let(j,w,e):=List.getElem_of_mem S;have E:d[j]?=eW y:=by rw [zzg w,e]
  let(p,u,T,h2,h3,h4,h5):=c j y E;have b:∃(j:Nat) (p:PV),d[j]?=eW y/\ys[j]?=eW p:=⟨j,p,E,T⟩;dsimp only;rw [dif_pos b];have sp:=b.choose_spec.choose_spec;let(f,F,g1,g2,k,m,o):=c _ y sp.1;have e3:b.choose_spec.choose=f:=zzq (sp.2.symm.trans g1);rw [e3];exact yC (H0:=H0) I hK q 9 (by omega) o O (.inl k) Q m R
 .have b:∃(j:Nat) (p:PV),d[j]?=eW y/\ys[j]?=eW p:=⟨j,p,C,D⟩;dsimp only;rw [dif_pos b];let(p1,L,M,f2,U,Y,Z):=c j y C;rw [D] at M;cases M;have sp:=b.choose_spec.choose_spec;let(f,F,g1,g2,k,m,o):=c _ y sp.1;have e3:b.choose_spec.choose=f:=zzq (sp.2.symm.trans g1);have e4:L=F:=Y.inj m;subst e4;rw [e3,zC I hK q DP o Z (.inl k:Top W H0 G H f L) (.inl U)]
def K5{c:List fP}{e:fP->Bool}{f:PV->Bool}:c.length=ys.length->(∀(j:Nat) (y:fP) (p:PV),c[j]?=eW y->ys[j]?=eW p->e y=f p)->c.any e=ys.any f:=by
 intro hl h;have:c.map e=ys.map f:=iY (zx6 hl) λj x y d g=>by rw [cz] at d g;let(a,i,rfl):=bM.mp d;let(b,k,rfl):=bM.mp g;exact h j a b i k
 calc c.any e=(c.map e).any id:=by rw [List.any_map];rfl
  _=(ys.map f).any id:=by rw [this]
  _=ys.any f:=by rw [List.any_map];rfl
def Cu{c:List fP}{e:fP->Bool}{f:PV->Bool}:c.length=ys.length->(∀(j:Nat) (y:fP) (p:PV),c[j]?=eW y->ys[j]?=eW p->e y=f p)->c.countP e=ys.countP f:=by
 intro hl h;have:c.map e=ys.map f:=iY (zx6 hl) λj x y d g=>by rw [cz] at d g;let(a,i,rfl):=bM.mp d;let(b,k,rfl):=bM.mp g;exact h j a b i k
 calc c.countP e=(c.map e).countP id:=by rw [List.countP_map];rfl
  _=(ys.map f).countP id:=by rw [this]
  _=ys.countP f:=by rw [List.countP_map];rfl
def NB(hK:W.K=X.K)(N:X.A.units+64<cLine):gU X (compareOp .In) (t7 W pY):=by
 intro w s B H x y v u Q I d f h;let(H0,G,p,q,r,c,g,t2,e,i):=h;have C:X.A.in1.units+32<cLine:=by show X.A.units+1+32<_;lia
 unfold pY at e;split at e
 .split at e
  .rename_i j;rw [zza] at j;cases e;let(b,m,rfl,o,t):=t2.tup c;rw [hK] at o;cases f;let(D,rv,z,_):=I.tuple o;let(e,E,F):=sm I hK c C j.1 j.2 g d t rv;refine SeqAt.in_tupleAt e (show s.heap.IsTuple b D.toArray from z) (λy L=>E y (zx6 L)) ?_;have:=K5 (by rw [<-rv.length,t.length]) F;rw [List.any_toArray,this];exact qH I c i
  .cases e
 .cases e;exact Bl w s B H x y v u Q I d f {_,_,g.str,t2.str,i.at c .b}
 .let(k,hk,e):=Res.aJ e;cases e;have hk:=fA (Res.of_ok hk);subst hk;obtain rfl:=g.str;let(a,m,rfl,n,hd,l):=t2.cy c;cases f;refine UA (show X.A.units+1<cLine by lia) I (.inl {_,ki k,hd,rfl,rfl}) d λO M=>?_;rw [iB,iT k _ m n];exact qH M c i
 .cases e
def IX(hK:W.K=X.K)(m:X.A.units+64<cLine):gU X (compareOp .NotIn) (t7 W oP):=by
 intro o s t H x y v u Q I c d h;let(H0,G,p,q,r,b,f,t2,e,g):=h;have w:X.A.in1.units+32<cLine:=by show X.A.units+1+32<_;lia
 unfold oP at e;split at e
 .let(k,hk,e):=Res.aJ e;cases e;have hk:=fA (Res.of_ok hk);subst hk;obtain rfl:=f.str;let(a,i,rfl,n,hd,l):=t2.cy b;cases d;refine Hf (show X.A.units+1<cLine by lia) I (.inl {_,ki k,hd,rfl,rfl}) c λz j=>?_;rw [iB,iT k _ i n];exact qH j b g
 .cases e
theorem gP(hK:W.K=X.K)(a:X.A.units+64<cLine):∀o:tV,gU X (compareOp (mZ o)) (t7 W (cG o))
 |.eq=>Ny hK a|.ne=>NK hK a|.lt=>NG hK a|.le=>NF|.gt=>NA|.ge=>Nz|.is=>ND|.Gx=>NB hK a|.Ey=>IX hK a|.Kl=>NJ hK a
def yn{i:Int}{p:PV}(l:ah W G ps vs)(h:wy ps i=eW p):∃v,wy vs i=eW v/\Rep W G p v:=by
 unfold wy at h⊢;rw [l.length];cases e:Pq ps.length i with
 |none=>rw [e] at h;cases h
 |some j=>rw [e] at h;exact l.rV h
def MY(D:X.A.units+1<cLine):O4 X (λx y H Q=>∃a b k v,x=.ref a/\Rd H a (.dK b)/\y=kV k/\lN b k=eW v/\Q v H):=by intro c slice g s i H x y v u Q I j m h hs;let(a,b,k,z,rfl,hd,rfl,p,q):=h;cases j;let(_,_,t,d,e):=kN I.aM hd;let(f,w,B):=g7.some_of (v:=z) (o:=valueAt t k) (by rw [<-p];exact d.val k);exact PyProof.Rows.subscriptTail_builtinR (x:=f) e.typeIs PySem.F.slot_dict_getitem.lookup (wpAny_getItem_of (Q:=λr C=>r=f/\EP X g i Q r C) (my m) e.mapOf w {rfl,{z,H,I.tok _,B,q}}) hs
def VN(hK:W.K=X.K)(L:X.A.units+64<cLine):O4 X (t7 W ay):=by
 intro b slice i s j H x y v u Q I m o h hs;let(H0,G,p,q,r,d,t,t2,e,z):=h;unfold ay at e;split at e
 .let(a,C,rfl,B,D):=t.lst d;let(w,f,g):=yn D (Res.of_ok e);exact Ih b slice i s j H _ y v u Q I m o {a,C,_,w,rfl,t2.int,tm hK B,f,z.at d g} hs
 .let(a,C,rfl,B,D):=t.tup d;rw [hK] at B;let(w,f,g):=yn D (Res.of_ok e);exact M0 b slice i s j H _ y v u Q I m o {a,C,_,w,rfl,t2.int,B,f,z.at d g} hs
 .split at e
  .rename_i hl;let(c,E,e):=Res.aJ e;cases e;exact MZ b slice i s j H x y v u Q I m o {_,_,c,t.str,t2.int,j7 hl,Res.of_ok E,z.at d .s} hs
  .cases e
 .let(k,hk,F):=Res.aJ e;have hk:=fA (Res.of_ok hk);subst hk;obtain rfl:=t2.str;let(a,M,rfl,n,hd,l):=t.cy d;let(w,f,g):=lR l (Res.of_ok F);exact MY (by lia) b slice i s j H _ _ v u Q I m o {a,_,ki k,w,rfl,hd,rfl,(by rw [iB];exact f),z.at d g} hs
 .cases e
def yA(a b:Option Int)(l:ah W G ps vs):ah W G (jV ps a b) (uC vs a b):=by unfold jV uC;rw [l.length];exact(l.drop _).take _
def Ww(hK:W.K=X.K):L2.B7 X (λx g i H Q=>∃H0 G p r,aA G H/\Top W H0 G H p x/\d5 p g i=.ok r/\d7 W G H r Q):=by
 intro j s k H x v m o g i q Q I t hs u pu h;let(H0,G,p,r,c,w,e,d):=h;unfold d5 at e;split at e
 .cases e;let(a,b,rfl,f,y):=w.lst c;exact Jt j s k H _ v m o _ _ q Q I t hs u pu {a,b,rfl,tm hK f,λp B=>d.lst c (yA _ _ y) B}
 .cases e;have D:=w.elim id λz=>z.elim;let(a,b,rfl,f,y):=w.tup c;rw [hK] at f;by_cases hw:HT.cL b.length 0 g=0/\HT.cL b.length b.length i=b.length
  .have E:∀A:List PV,A.length=b.length->jV A g i=A:=λA C=>by
    unfold jV;rw [C,hw.1,hw.2,<-C];simp
   rw [E _ y.length.symm] at d;exact Ju j s k H _ v m o _ _ q Q I t hs u pu {a,b,rfl,f,hw,d.at c D}
  .exact OC j s k H _ v m o _ _ q Q I t hs u pu {a,b,rfl,f,hw,λp B=>d.tup c (yA _ _ y) B}
 .split at e
  .rename_i hl;cases e;exact OB j s k H _ v m o _ _ q Q I t hs u pu {_,w.str,j7 hl,d.at c .s}
  .cases e
 .cases e
def Gi(W:Wd)(f:List PV->Res PV):List V->Hp->VK->Prop:=λb H Q=>∃H0 G a r,aA G H/\Paired (λv p=>Top W H0 G H p v) b a/\f a=.ok r/\d7 W G H r Q
def lJ{p:PV}(h:Paired (λv p=>Top W H0 G H p v) vs [p]):∃v,vs=[v]/\Top W H0 G H p v:=by
 cases h with
 |cons h t=>cases t;exact{_,rfl,h}
def vR{p:PV}(h:Paired (λv p=>Top W H0 G H p v) vs [p,q]):∃v u,vs=[v,u]/\Top W H0 G H p v/\Top W H0 G H q u:=by
 cases h with
 |cons h t=>
  cases t with
  |cons a t2=>cases t2;exact{_,_,rfl,h,a}
def Ah(hK:W.K=X.K):cK X (.builtin "len") (Gi W wz):=by
 intro f s g H xs j Q I r h;let(H0,G,q,w,b,tp,e,c):=h;unfold wz at e;split at e
 .cases e;let(v,rfl,t):=lJ tp;let(a,k,rfl,d,m):=t.lst b;exact kD f s g H _ j Q I r {a,k,rfl,.inl (tm hK d),by rw [m.length];exact c.at b .i}
 .cases e;let(v,rfl,t):=lJ tp;let(a,k,rfl,d,m):=t.tup b;rw [hK] at d;exact kD f s g H _ j Q I r {a,k,rfl,.inr d,by rw [m.length];exact c.at b .i}
 .split at e
  .rename_i hl;cases e;let(v,rfl,t):=lJ tp;exact rC f s g H _ j Q I r {_,by rw [t.str],j7 hl,c.at b .i}
  .cases e
 .cases e;let(v,rfl,t):=lJ tp;let(a,y,rfl,n,hd,l):=t.cy b;let(u,rfl,o):=vals1 r;cases o;exact Qv I hd λt z p=>{.int _,H,p,⟨t,rfl⟩,by rw [iA n];exact c.at b .i}
 .cases e
def Aj(a:X.calm=e6):cK X (.builtin "max") (Gi W Cd):=by
 intro b s c H xs d Q I r h;let(H0,G,j,k,f,tp,e,g):=h;unfold Cd at e;split at e
 .cases e;let(v,u,rfl,t,t2):=vR tp;exact Ai a b s c H _ d Q I r {_,_,by rw [t.int,t2.int],g.at f .i}
 .cases e
def Al(a:X.calm=e6):cK X (.builtin "min") (Gi W Ce):=by
 intro b s c H xs d Q I r h;let(H0,G,j,k,f,tp,e,g):=h;unfold Ce at e;split at e
 .cases e;let(v,u,rfl,t,t2):=vR tp;exact Ak a b s c H _ d Q I r {_,_,by rw [t.int,t2.int],g.at f .i}
 .cases e
def Am:cK X (.type "str") (Gi W Cf):=by
 intro a s b H xs c Q I r h;let(H0,G,g,i,d,tp,e,f):=h;unfold Cf at e;split at e
 .split at e
  .rename_i hl;cases e;let(v,rfl,t):=lJ tp;exact rF a s b H _ c Q I r {_,by rw [t.int],hl,f.at d .s}
  .cases e
 .cases e
def uu(hK:W.K=X.K):cK X (.type "tuple") (Gi W nT):=by
 intro c s d H xs f Q I r h;let(H0,G,o,q,b,tp,e,g):=h;unfold nT at e;split at e
 .cases e;let(v,rfl,t):=lJ tp;let(a,i,rfl,j,k):=t.lst b;exact pP c s d H _ f Q I r {a,i,rfl,.inl {tm hK j,λp m=>g.tup b k m}}
 .cases e
def Ae(d:X.calm=e6)(hK:W.K=X.K):cK X (.builtin "all") (Gi W Cb):=by
 intro f s g H xs i Q I r h;let(H0,G,p,q,c,tp,e,j):=h;unfold Cb at e;split at e
 .let(bs,k,e):=Res.aJ e;cases e;let(v,rfl,t):=lJ tp;let(a,u,rfl,m,o):=t.lst c;cases mj o (Res.of_ok k);exact Cm d f s g H _ i Q I r {a,bs,rfl,tm hK m,j.at c .b}
 .cases e
def SW(W:Wd)(f:List PV->Res PV):V->List V->Hp->VK->Prop:=λx a H Q=>Gi W f (x::a) H Q
theorem zN:∀{ys:List Str} {a:List fP},Vals (ys.map V.str) a->PyProof.Rows.StrsAre a ys
 |[],_,.nil=>.nil|y::ys,_,.cons r t=>by let(tk,rfl):=r;exact .cons y tk (zN t)
def Er(hK:W.K=X.K):PM X "str.join" (SW W u5):=by
 intro p s q H x xs v w Q I d r h;let(H0,G,y,A,b,tp,e,f):=h;unfold u5 at e;split at e
 .let(B,g,e):=Res.aJ e;split at e
  .rename_i c;cases e;let(C,D,i,t,t2):=vR tp;cases i;cases t.str;let(E,rfl):=d;let(a,F,rfl,j,m):=t2.lst b;let(u,rfl,o):=Vals.one r;cases o;cases pA m (Res.of_ok g);let(L,rv,z,_):=I.list (tm hK j);refine PyProof.Rows.join_listW z.isList (by simpa using zN rv) c.1 (c4 c.2 ↑2) λM k=>{.str _,H,I.tok _,{_,rfl},f.at b .s}
  .cases e
 .cases e
def xq(hK:W.K=X.K)(B:X.A.units+64<cLine):PM X "list.count" (SW W kW):=by
 intro C s D H x xs v E Q I g r h;let(H0,G,L,M,b,tp,e,j):=h;unfold kW at e;split at e
 .split at e
  .rename_i c;rw [zza] at c;cases e;let(N,O,k,t,t2):=vR tp;cases k;let(a,P,rfl,m,d):=t.lst b;cases g;let(u,rfl,o):=Vals.one r;let(p,n,rv,hl,_,e):=Ei hK I m;let(f,q,w):=sm (A:=X.A.in1) I hK b (by show X.A.units+1+32<_;lia) c.1 c.2 t2 o d rv;refine PySem.call_meets PySem.F.slot_list_count {_,e,rfl} PySem.F.entry_list_count (PySem.F.args_list_count_2 _ _) (SeqAt.list_countAt a p.toArray n eX #[] u f) {e,λy z=>q y (zx6 z),?_};refine{.int _,H,I.tok _,{_,rfl},?_};rw [Cu (by rw [<-hl,d.length]) w];exact j.at b .i
  .cases e
 .cases e
set_option tactic.hygienic true in
def Ba(hK:W.K=X.K)(T:X.A.units+64<cLine):PM X "list.index" (SW W oH):=by
 intro U s V H x xs v Y Q I B r h;let(H0,G,Z,rr,g,tp,e,C):=h;unfold oH at e;split at e
 .rename_i b w;split at e
  .rename_i d;rw [zza,zza] at d;split at e
   .rename_i j k;cases e;let(v1,u1,D,t,t2):=vR tp;cases D;let(a,vs,rfl,E,o):=t.lst g;cases B;let(u,rfl,L):=Vals.one r;let(c,n,rv,hl,_,e):=Ei hK I E;have p:c.length=b.length:=by rw [<-hl,o.length]
    have XU:b.length<1000:=zzY d.2;let(f,M,q):=sm (A:=X.A.in1) I hK g (by show X.A.units+1+32<_;lia) d.1.1 d.1.2 t2 L o rv;rw [List.findIdx?_eq_some_iff_getElem] at k;let(N,O,P):=k;refine PySem.call_meets PySem.F.slot_list_index {_,e,rfl} PySem.F.entry_list_index (PySem.F.args_list_index_2 _ _) (SeqAt.list_indexAt a c.toArray n eX #[] u f j (by simpa using (by lia:j<c.length)) (by lia) ?_ λm Ye R=>?_) {e,λy S=>M y (zx6 S),{.int _,H,I.tok _,{_,rfl},C.at g .i}}
    .have:=q j (c[j]'(by lia)) b[j] (zzg (by lia)) (zzg N);simpa using this.trans O
    .have hm:m<b.length:=by lia
     have:=q m (c[m]'(by lia)) b[m] (zzg (by lia)) (zzg hm);have z:=P m R;simp! [Bool.not_eq_true] at z;simpa using this.trans z
   .cases e
  .cases e
 .cases e
abbrev yb:Ty->String
 |.int=>"int"|.bool=>"bool"|.str=>"str"|.tuple=>"tuple"
def Rq{K:zz8}(t:Ty):Cw.Gy K "NoneType" (yb t) fx/\(∀b,Cw.Gy K "bool" (yb t) (oB t (.bl b)))/\(∀i,Cw.Gy K "int" (yb t) (oB t (.int i)))/\(∀z,Cw.Gy K "str" (yb t) (oB t (.str z)))/\(∀z,Cw.Gy K "tuple" (yb t) (oB t (.tup z)))/\(∀z,Cw.Gy K "list" (yb t) (oB t (.lst z))):=by
 cases t
 all_goals refine{?_,λb=>?_,λb=>?_,λb=>?_,λb=>?_,λb=>?_}
 all_goals first
  |exact Cw.D9 _
  |exact Cw.D8 (b:=fx) ↑1 ↑1 ↑1
  |exact Cw.D8 (b:=e6) ↑1 ↑1 ↑1
def Cn(hK:W.K=X.K)(t:Ty):cK X (.builtin (zu 20)) (λxs H Q=>∃v H0 G p r,xs=[v,.ty (yb t)]/\aA G H/\Top W H0 G H p v/\nc t p=.ok r/\d7 W G H r Q):=by
 intro N s O H xs P Q I q h;let(v,H0,G,p,r,rfl,f,tp,e,g):=h;let(u,R,rfl,i,k):=Vals.two q;cases k;let(w,k2,y,A,B,C):=Rq (K:=X.K) t
 cases p with
 |exc c=>cases e
 |obj c=>cases e
 |cy a b=>cases e
 |aP=>cases e;cases tp.aP;cases i;cases t<;>exact PySem.W.kia_one PySem.W.kitx_none I.j2 True.intro w nofun λd=>⟨.bl _,H,I.tok d,rfl,g.at f .b⟩
 |bl b=>cases e;cases tp.bl;cases i;exact PySem.W.kia_one PySem.W.kitx_bool I.j2 True.intro (k2 b) nofun λd=>⟨.bl _,H,I.tok d,rfl,g.at f .b⟩
 |int b=>cases e;cases tp.int;let(D,rfl):=i;exact PySem.W.kia_one PySem.W.kitx_int I.j2 True.intro (y b) nofun λd=>⟨.bl _,H,I.tok d,rfl,g.at f .b⟩
 |str b=>cases e;cases tp.str;let(D,rfl):=i;exact PySem.W.kia_one PySem.W.kitx_str I.j2 True.intro (A b) nofun λd=>⟨.bl _,H,I.tok d,rfl,g.at f .b⟩
 |tup b=>cases e;let(a,E,rfl,j,F):=tp.tup f;rw [hK] at j;cases i;let(L,_,(o,m,M,_),_):=I.tuple j;exact PySem.W.kia_one PySem.W.kitx_tuple I.j2 ⟨o,m,M⟩ (B b) nofun λd=>{.bl _,H,I.tok d,rfl,g.at f .b}
 |lst b=>cases e;let(a,E,rfl,j,F):=tp.lst f;cases i;let(L,n,_,_,_,m):=Ei hK I j;exact PySem.W.kia_one PySem.W.kitx_list I.j2 {_,m,rfl} (C b) nofun λd=>{.bl _,H,I.tok d,rfl,g.at f .b}
def JF{e:ku}(l:ah W G ps vs):ah W G (tZ .aP ps e) (tZ V.aP vs e):=by
 unfold tZ;rw [l.length];split
 .exact l
 .have go:∀a:List Nat,ah W G (a.map λi=>ps.getD i .aP) (a.map λi=>vs.getD i V.aP):=by
   intro a
   induction a with
   |nil=>exact .nil|cons i a f=>
    refine .cons ?_ f;dsimp only;by_cases b:i<ps.length
    .let(v,g,rv):=l.rV (zzg b);have c:ps.getD i .aP=ps[i]:=by simp [b]
     have d:vs.getD i V.aP=v:=by simp [g]
     rw [c,d];exact rv
    .have c:ps.getD i .aP=.aP:=by simp [Nat.le_of_not_lt b]
     have d:vs.getD i V.aP=.aP:=by simp [Nat.le_of_not_lt (l.length▸b)]
     rw [c,d];exact .n
  exact go _
theorem uZ:∀ks:List Str,ah W G (ks.map gM) (ks.map V.str)
 |[]=>.nil|k::ks=>.cons .s (uZ ks)
set_option tactic.hygienic true in
def rE(hK:W.K=X.K)(f:X.calm=e6):cK X (.builtin "sorted") (Gi W kC):=by
 intro g s i H xs j Q I r h;let(H0,G,o,q,b,tp,e,k):=h;unfold kC at e;split at e
 .rename_i c u;split at e
  .rename_i m;cases e;let(v,rfl,t):=lJ tp;let(a,w,rfl,n,hd,l):=t.cy b;exact rD f g s i H _ j Q I r {a,_,c,rfl,hd,yX n,by rw [iA n];exact m,λp d=>k _ _ _ (.new b d) (.l (.inl (.inl aq)) (ah.same (bo (b.free d)) _ (JF (uZ c))))}
  .cases e
 .cases e
theorem Fd{K:zz8}(hK:W.K=K)(d:aA G H):∀{xs:List PV} {ps:List (Str×PV)} {vs:List V},vy xs=eW ps->ah W G xs vs->∃us,ah W G (ps.map (·.2)) us/\z7 K H vs ((ps.map λp=>ki p.1).zip us)
 |[],_,_,e,l=>by cases e;simp! [ah] at l;subst l;exact{[],.nil,.nil}
 |x::xs,ps,vs,e,l=>by
  let(v,t,rfl,f,g):=l.aZ;unfold vy at e;split at e
  .rename_i a;cases a
  .rename_i a;cases a;let(k,hk,e):=dr.mp e;let(r,h,rfl):=bM.mp e;let(us,i,j):=Fd hK d h g;simp! [Rep] at f;let(q,u,rfl,m,b):=f;let(w1,w,rfl,c,b):=b.aZ;let(o,s,rfl,k2,b):=b.aZ;simp! [ah] at b;subst b;rw [fA hk] at c;simp! [gM,Rep] at c;subst c;refine{o::us,.cons k2 i,.cons {q,rfl,?_} j};rw [<-hK];exact aA.tup d m.sq
  .cases e
theorem qR:∀(ps:List (Str×PV)) {us:List V} {ks:List Str} {qs:List PV} {ws:List V},ah W G (ps.map (·.2)) us->ks.length=ws.length->ah W G qs ws->∃a,(cC ps ks qs).1.length=a.length/\ah W G (cC ps ks qs).2 a/\iE (kz ks ws) ((ps.map λp=>ki p.1).zip us)=kz (cC ps ks qs).1 a
 |[],us,ks,qs,ws,_,n,l=>⟨ws,n,l,rfl⟩|p::ps,us,ks,qs,ws,b,n,l=>by let(u,h,rfl,c,d):=b.aZ;let(a,e,f,g):=qR ps d (oS n p.1 u) (sV (ks:=ks) (k:=p.1) l c);refine{a,e,f,?_};show iE (putK (kz ks ws) (ki p.1) u) _=_;rw [xg n];exact g
def uE(hK:W.K=X.K){xs:List V}(c:aA G H)(tp:Paired (λv p=>Top W H0 G H p v) xs ps)(e:gW ps=.ok q):∃ks qs,q=.cy ks qs/\∃a vs d,xs=[V.ref a]/\hW X.K H a vs/\z7 X.K H vs d/\∃b,ks.length=b.length/\ah W G qs b/\iE [] d=kz ks b:=by
 unfold gW at e;split at e
 .let(ps,f,e):=Res.aJ e;cases e;let(v,rfl,t):=lJ tp;let(a,vs,rfl,g,h):=t.lst c;let(ws,lw,pw):=Fd hK c (Res.of_ok f) h;let(b,i,j,k):=qR ps (ks:=[]) (qs:=[]) (ws:=[]) lw rfl .nil;exact{_,_,rfl,a,vs,_,rfl,tm hK g,pw,b,i,j,k}
 .cases e
end
end Ci
namespace L2
open PySem.Spec PyProof.Rows
open PySem.AutoSeq1 (wpAny_loadPart')
section
variable{w:hG}{E:kd}{s:gC}{jt tu:g5}{i:Nat}{av:Array fP}{Q:kd}
def mY{x:fP}(b:s.heap.IsTupleIter jt tu i)(c:s.heap.IsTuple tu av)(d:av[i]?=eW x)
 (k:∀g,g.IsTupleIter jt tu (i+1)->hZ.SameBut jt s.heap g->Q x {s with heap:=g}):hD (hI prog w) A (ix.SmallTypes.nextOf (.ref jt)) Q E s:=by
 let(ob,a,e,e3):=id b;let(j,f,_,m,h):=c;unfold ix.SmallTypes.nextOf;refine ar (wpAny_callSpecial?_slot (name:=Str.ofString (zu 52)) b.typeIs F.slot_tuple_iterator_next (wpAny_call_entry F.slot_tuple_iterator_next b.typeIs F.entry_tuple_iterator_next ?_ (F.args_tuple_iterator_next_1 _)));show hD _ _ (field (.ref jt) 0>>=_) _ _ s;refine ar (wpAny_field a e3 (x:=.ref tu) rfl ?_);show hD _ _ (if(fP.ref tu==fP.none)=e6 then _ else _) _ _ s;rw [if_neg (show¬((fP.ref tu==fP.none)=e6) from zzf)];show hD _ _ (field (.ref jt) 1>>=_) _ _ s;refine ar (wpAny_field a e3 (x:=.int i 0) rfl ?_);show hD _ _ (seqItems? (.ref tu)>>=_) _ _ s;refine ar (wpAny_seqItems f h ?_);simp! [ey,d];refine ar (wpAny_setField a e3 (by simp) (bc {x,rfl,bc (k _ ?_ (ek ..))}));exact{_,hZ.get?_update_self _ a (Obj.isFreed_of_fields (Obj.data_mapFields e3 _)),(Obj.cls_mapFields ..).trans e,by rw [Obj.data_mapFields e3];simp [rawInt]}
def oK(d:A.handled=eX)(b:s.heap.IsTupleIter jt tu i)(f:s.heap.IsTuple tu av)(h:av[i]?=eX)
 (k:∀g e,hZ.ExtBut jt s.heap g->(∃o,g.get? e=eW o/\o.cls=.type (zu 28))->E (.ref e) {s with heap:=g}):hD (hI prog w) A (ix.SmallTypes.nextOf (.ref jt)) Q E s:=by
 let(ob,c,q,e3):=id b;let(r,j,_,t,p):=f;unfold ix.SmallTypes.nextOf;refine ar (wpAny_callSpecial?_slot (name:=Str.ofString (zu 52)) b.typeIs F.slot_tuple_iterator_next (wpAny_call_entry F.slot_tuple_iterator_next b.typeIs F.entry_tuple_iterator_next ?_ (F.args_tuple_iterator_next_1 _)));show hD _ _ (field (.ref jt) 0>>=_) _ _ s;refine ar (wpAny_field c e3 (x:=.ref tu) rfl ?_);show hD _ _ (if(fP.ref tu==fP.none)=e6 then _ else _) _ _ s;rw [if_neg (show¬((fP.ref tu==fP.none)=e6) from zzf)];show hD _ _ (field (.ref jt) 1>>=_) _ _ s;refine ar (wpAny_field c e3 (x:=.int i 0) rfl ?_);show hD _ _ (seqItems? (.ref tu)>>=_) _ _ s;refine ar (wpAny_seqItems j p ?_);simp! [ey,h];refine ar (wpAny_rule (ar (wpAny_setField c e3 (by simp) ?_)));show hD _ _ (newExc (.type (zu 28)) []>>=_) _ _ _;refine ar ?_;simp! [newExc,newTuple];refine ar (wpAny_newObj_type ?_ (by size_fits));refine ar (m:=firstArgMember _ _) (wpAny_of_eq (a:=fP.none) (by first|rfl|(simp! [firstArgMember];rfl)) ?_);refine wpAny_newObj_type ?_ (by size_fits);simp! [raiseNew];refine ar (wpAny_handled ?_)
 first|rw [show A.in1.handled=eX from d]|rw [d]
 refine ar (bc (wpAny_throw ?_));exact k _ _ (((ek ..).extBut.push _).push _) {_,c8 _ rfl,rfl}
end
theorem AD{w:hG}(j:A.handled=eX)(a b:g5)(k:b≠a)(c:Array fP):
 Draws prog w A a [a,b] c.size (λi v=>c[i]?=eW v) (λi h=>h.IsTupleIter a b i/\h.IsTuple b c) where
 live:=λZ Z st=>let⟨o,m,_⟩:=st.1;⟨o,m⟩
 frame:=λZ Z Z st hk=>{st.1.at λo e=>hk a (by simp) o e,by let(o,e,r):=st.2;exact{o,hk b (by simp) o e,r}}
 item:=λi s Q E d st p=>mY st.1 st.2 (x:=c[i]) (by simp [d]) λg q f=>p _ g s.toks (by simp [d]) {q,by let(o,e,r):=st.2;exact{o,f.extBut _ _ k e,r}} f
 done:=λs Q E st t=>oK j st.1 st.2 (by simp) t
section
variable{s:gC}{ch:List g5}
def Inv.moved{tk:Nat}(I:zv1 s)(e:∀b∈ch,jq X aa H b)(d:∀b o,b∉ch->s.heap.get? b=eW o->h'.get? b=eW o):Inv X aa σ H {s with heap:=h',toks:=tk}:=by
 have g:∀b o,H b=eW o->b∉ch:=λb o q z=>by rw [(e b z).1] at q;cases q
 refine I.step (g':=s.gens) (d':=s.drawn) (ch:=ch) (λb h=>?_) (λb o Z Z a q Z=>d b o a q) (λb o Z Z a q Z=>{o.slots,d b o a q}) (λZ Z Z Z n=>n)
  (λb o a q=>{o,d b o a q}) (λb xs q=>q) (λb o u q=>q) (λb y q=>{#[],by rw [q];simp}) (λm hm=>?_) (λb o q=>?_) I.bare
 .let(A,i,B,j,k,p):=e b h;exact⟨j,i,k,p⟩
 .let(o,t,w,q,r):=hm;exact{o,t,w,d _ o (λz=>(e _ z).2.1 rfl) q,r}
 .refine(I.aM b o q).fT (λc v a z=>d c v ?_ z) (λc z=>z) λc xs z=>z
  rcases a with f|f
  .rw [f];exact g b o q
  .exact g c _ f
end
structure Zd where
 it:g5
 fp:List g5
 n:Nat
 P:Nat->fP->Prop
 St:Nat->hZ->Prop
structure P1(prog:hF)(w:hG)(A:hT)(z TI TO:g5)(ds:List Zd):Prop where
 D:∀d∈ds,Draws prog w A d.it d.fp d.n d.P d.St
 zf:∀d∈ds,z∉d.fp/\TO∉d.fp/\d.it≠z/\d.it≠TO/\d.it≠TI
 ap:ds.Pairwise λa b=>a.it∉b.fp/\b.it∉a.fp
 tz:TI≠z/\TO≠z/\TI≠TO
noncomputable abbrev js(h:hZ)(T:g5)(xs:Array fP):Prop:=h.get? T=eW {cls:=.type "tuple",data:=.seq xs}
section
variable{w:hG}{E:kd}{s:gC}{z TI TO:g5}{ds:List Zd}{k:Nat}
def Ui(z TI TO:g5)(k:Nat)(e:hZ)(ds:List Zd)(rest:List (fP×Nat))(h:hZ):Prop:=
 ∃a b xs f,ds=a++b/\rest=(b.map λd=>fP.ref d.it).zipIdx a.length/\Paired (λd x=>d.P k x) a xs/\f.length=b.length/\IsZip h z TI TO .ellipsis/\js h TO (xs++f).toArray/\
  (∀d∈a,d.St (k+1) h)/\(∀d∈b,d.St k h)/\h.objs.size=e.objs.size/\∀c o,c≠z->c≠TO->(∀d∈ds,c≠d.it)->e.get? c=eW o->h.get? c=eW o
def vW{Q:Fin->gC->Prop}(Z:P1 prog w A z TI TO ds)(hl:ds.length<=9)(gq:ds≠[])(hz:IsZip s.heap z TI TO .none)(ZE:js s.heap TI (ds.map λd=>fP.ref d.it).toArray)(ZF:∃c,js s.heap TO c/\c.size=ds.length)(hs:∀d∈ds,d.St k s.heap/\k<=d.n)
 (hQ:∀h' tk xs,Paired (λd x=>d.P k x) ds xs->IsZip h' z TI TO (rawInt (zz9 s))->(∃c,js h' TO c/\c.size=ds.length)->(∀d∈ds,d.St (k+1) h')->js h' (zz9 s) xs.toArray->h'.objs.size=(zz9 s)+1->
  (∀c o,c≠z->c≠TO->(∀d∈ds,c≠d.it)->s.heap.get? c=eW o->h'.get? c=eW o)->Q (.done (.ret (.ref (zz9 s)))) {s with heap:=h',toks:=tk})
 (hE:∀h' tk e,(∃d∈ds,d.n<=k)->(∀c o,c≠z->c≠TO->(∀d∈ds,c≠d.it)->s.heap.get? c=eW o->h'.get? c=eW o)->(∃o,h'.get? e=eW o/\o.cls=.type (zu 28))->E (.ref e) {s with heap:=h',toks:=tk}):
 hD (hI prog w) A (ix.«zip.__next__» {[.ref z],[]}) Q E s:=by
 let(t1,t2,t3):=Z.tz;show hD _ _ (field (.ref z) 2>>=_) _ _ _;refine ar (wpAny_field hz rfl (x:=.bool fx) rfl ?_);show hD _ _ (field (.ref z) 3>>=_) _ _ _;refine ar (wpAny_field hz rfl (x:=.ref TI) rfl ?_);refine ar (wpAny_seqItems ZE rfl ?_);have Vf:(ds.map λd=>fP.ref d.it).toArray.isEmpty=fx:=by cases ds<;>simp_all
 simp! [Vf,d2,if_false];show hD _ _ (ix.SmallTypes.ownedTupleIsFree (.ref z)>>=_) _ _ _;refine ar ?_;unfold ix.SmallTypes.ownedTupleIsFree;refine ar (wpAny_field hz rfl (x:=.none) rfl (bc ?_));simp! [if_true];refine ar (wpAny_rule ?_);refine ar (wpAny_field hz rfl (x:=.ref TO) rfl ?_);refine ar (wpAny_setField_rec hz (by simp) λt p f=>?_);replace p:IsZip t z TI TO .ellipsis:=p;refine ar ?_;let(c,hc,qL):=ZF;have Rp:∀{h h':hZ},hZ.SameBut z h h'->∀d∈ds,∀{i},d.St i h->d.St i h':=λH d hd i q=>(Z.D d hd).frame _ _ _ q λb u o e=>H.extBut b o (λx=>(Z.zf d hd).1 (x▸u)) e;refine wpAny_forIn_list _ (λrest b X=>b=⟨eX,PUnit.unit⟩/\∃h tk,X={s with heap:=h,toks:=tk}/\Ui z TI TO k s.heap ds rest h) _ ?_ ?_ _ _ {rfl,t,s.toks,rfl,[],ds,[],c.toList,rfl,rfl,.nil,zx6 qL,p,?_,(λd hd=>nomatch hd),(λd hd=>Rp f d hd (hs d hd).1),f.1,λc o h1 _ _ e=>f.extBut _ _ h1 e}
 .rintro ⟨Tq,j⟩ rest b X ⟨rfl,h,tk,rfl,I,lf,xs,R,rfl,S,pr,B,C,F,Y,V,G,T⟩
  cases lf with
  |nil=>cases S
  |cons d lf=>
   simp! [a8,List.zipIdx_cons,List.cons.injEq,Prod.mk.injEq] at S;let((rfl,rfl),rfl):=S;have hd:d∈I++d::lf:=by simp
   have D:=Z.D d hd;let(f1,f2,f3,f4,f5):=Z.zf d hd
   refine ar (wpAny_onRaise ?_);show hD _ _ (ix.SmallTypes.nextOf (.ref d.it)>>=_) _ _ _;have XJ:∀a∈I++lf,d.it∉a.fp/\a.it∉d.fp:=λa g=>by
    have q:=List.pairwise_append.1 Z.ap
    rcases List.mem_append.1 g with g|g
    .exact(q.2.2 a g d (b4 ..)).symm
    .exact(List.pairwise_cons.1 q.2.1).1 a g
   by_cases hk:k<d.n
   .refine ar (D.item k _ _ _ hk (V d (b4 ..)) λx M tk2 px GD H=>bc ?_);have MP:js M TO (xs++R).toArray:=H.extBut _ _ (Ne.symm f4) F;refine ar (wpAny_seqItems MP rfl ?_);have lx:=Paired.length pr
    obtain⟨y,r,rfl⟩:∃y r,R=y::r:=by cases R with|nil=>cases B|cons y r=>exact⟨y,r,rfl⟩
    have Rg:(xs++y::r).toArray.size<=sizeLine:=by
     have:(xs++y::r).toArray.size<=9:=by simp! [a5,bW,bV] at B hl⊢;lia
     exact c4 this ↑2
    refine ar (wpAny_updateSeq MP rfl ?_ Rg (by rw [Array.size_setIfInBounds];exact Nat.le_succ_of_le Rg));refine ar (wpAny_letGo (bc ?_));have N:hZ.SameBut TO M (M.update TO (Obj.mapSeq λv=>v.setIfInBounds I.length x)):=ek ..
    have Vv:js (M.update TO (Obj.mapSeq λv=>v.setIfInBounds I.length x)) TO (xs++[x]++r).toArray:=by
     show hZ.get? _ TO=_;rw [hZ.get?_update_self _ MP rfl];have:(xs++y::r).toArray.setIfInBounds I.length x=(xs++[x]++r).toArray:=by rw [List.setIfInBounds_toArray,lx,List.set_append_right _ _ (a7 _),Nat.sub_self,List.set_cons_zero];simp
     have ls:((xs++[x]++r).toArray.size==(xs++y::r).toArray.size)=e6:=by simp
     simp! [Obj.mapSeq,this,ls,if_true]
    refine{rfl,_,tk2,rfl,I++[d],lf,xs++[x],r,by simp,by simp,Paired.snoc pr px,zx6 B,?_,Vv,λa g=>?_,λa g=>?_,?_,λc o c1 O K e=>?_}
    .exact N.extBut _ _ (Ne.symm t2) (H.extBut _ _ (Ne.symm f3) C)
    .rcases List.mem_append.1 g with g|g
     .refine(Z.D a (by simp [g])).frame _ _ _ (Y a g) λb u o e=>N.extBut _ _ (λq=>(Z.zf a (by simp [g])).2.1 (q▸u)) (H.extBut _ _ (λq=>(XJ a (by simp [g])).1 (q▸u)) e)
     .rw [d3.1 g];exact D.frame _ _ _ GD λb u o e=>N.extBut _ _ (λq=>f2 (q▸u)) e
    .refine(Z.D a (by simp [g])).frame _ _ _ (V a (bI _ g)) λb u o e=>N.extBut _ _ (λq=>(Z.zf a (by simp [g])).2.1 (q▸u)) (H.extBut _ _ (λq=>(XJ a (by simp [g])).1 (q▸u)) e)
    .rw [N.1,H.1,G]
    .exact N.extBut _ _ O (H.extBut _ _ (K d hd) (T c o c1 O K e))
   .have hn:d.n=k:=Nat.le_antisymm (Nat.le_of_not_lt hk) (hs d hd).2;refine ar (D.done _ _ _ (by rw [hn];exact V d (b4 ..)) λM e eb he=>?_);let(oe,L,QU):=he;have Gw:IsZip M z TI TO .ellipsis:=eb _ _ (Ne.symm f3) C;have ZP:e≠z:=λq=>by subst q;rw [Gw] at L;cases L;simp at QU
    exact wpAny_setField_rec Gw (by simp) λh3 _ Yi=>hE h3 tk e {d,hd,Nat.le_of_eq hn} (λc o c1 O K q=>Yi.extBut _ _ c1 (eb _ _ (K d hd) (T c o c1 O K q))) {oe,Yi.extBut _ _ ZP L,QU}
 .rintro b X ⟨rfl,h,tk,rfl,I,lf,xs,R,rfl,S,pr,B,C,F,Y,V,G,T⟩
  obtain rfl:lf=[]:=by cases lf with|nil=>rfl|cons d lf=>cases S
  obtain rfl:R=[]:=List.eq_nil_of_length_eq_zero B;simp! [eA] at F hQ Z T hl;have lx:=Paired.length pr;refine ar (wpAny_seqItems F rfl ?_);refine ar (wpAny_newTuple ?_ (c4 (m:=9) (by show xs.length<=9;lia) ↑2));show hD _ _ (ix.SmallTypes.ownedTupleHandOut (.ref z) (.ref h.objs.size)>>=_) _ _ _;refine ar ?_;unfold ix.SmallTypes.ownedTupleHandOut;have Y1:z<h.objs.size:=bX C;have VA:IsZip (h.push {cls:=.type "tuple",data:=.seq xs.toArray}) z TI TO .ellipsis:=aT _ C;refine ar (wpAny_setField_rec VA (by simp) λh7 VB Vt=>?_);replace VB:IsZip h7 z TI TO (rawInt h.objs.size):=VB;refine wpAny_setField_rec VB (by simp) λU W Vu=>?_;replace W:IsZip U z TI TO (rawInt h.objs.size):=W;have up:∀c o,c≠z->h.get? c=eW o->U.get? c=eW o:=λc o c1 e=>Vu.extBut _ _ c1 (Vt.extBut _ _ c1 (aT _ e));have X1:js U h.objs.size xs.toArray:=Vu.extBut _ _ (Nat.ne_of_gt Y1) (Vt.extBut _ _ (Nat.ne_of_gt Y1) (c8 _ rfl));have Yg:U.objs.size=h.objs.size+1:=by rw [Vu.1,Vt.1,hZ.size_push]
  rw [G] at W X1 Yg;refine bc ?_;show Q (.done (.ret (.ref h.objs.size))) _;rw [G];exact hQ U tk xs pr W {_,up _ _ t2 F,by simp [lx]} (λd hd=>(Z.D d hd).frame _ _ _ (Y d hd) λb u o e=>up b o (λq=>(Z.zf d hd).1 (q▸u)) e) X1 Yg λc o c1 O K e=>up c o c1 (T c o c1 O K e)
 .show js t TO _;exact f.extBut _ _ t2 (zx6 hc)
variable{ch:List g5}
def Inv.Ep{tk:Nat}{xs:List V}{ob:Obj}{n:Nat}(I:zv1 s)(g:∀b∈ch,jq X aa H b)(e:∀b o,b∉ch->s.heap.get? b=eW o->h'.get? b=eW o)
 (i:h'.get? (zz9 s)=eW ob) (a:ob.cls=.type "tuple") (hd:ob.data=.seq us.toArray n) (j:Vals xs us) (hl:xs.length<=h9):Inv X aa σ (upd H (zz9 s) (.tup xs)) {s with heap:=h',toks:=tk}:=by
 have d:∀b o,H b=eW o->b∉ch/\b≠(zz9 s):=λb o q=>{(λz=>(by rw [(g b z).1] at q;cases q)),dV (I.aM.lt q)}
 refine I.step (g':=s.gens) (d':=s.drawn) (ch:=ch) (λb f=>?_) (λb o Z Z a q Z=>e b o a q) (λb o Z Z a q Z=>{o.slots,e b o a q}) (λb o Z q p=>by rw [ai (dV (bX q))];exact p)
  (λb o a q=>{o,e b o a q}) (λb xs q=>by rw [ai (d b _ q).2];exact q) (λb o u q=>by rw [ai (d b _ q).2];exact q) (λb G q=>{#[],by rw [ai (d b _ q).2,q];simp}) (λm hm=>?_) (λb o q=>?_) I.bare
 .let(K,t,L,y,B,C):=g b f;exact⟨y,t,B,C⟩
 .let(o,D,F,q,r):=hm;exact{o,D,F,e _ o (λz=>(g _ z).2.1 rfl) q,r}
 .by_cases f:b=(zz9 s)
  .subst f;rw [aq] at q;cases q;exact{hl,us,j,{_,i,a,_,hd}}
  .rw [ai f] at q;refine(I.aM b o q).fT (λc v a z=>e c v ?_ z) (λc z=>by rw [ai (d c _ z).2];exact z) λc xs z=>by rw [ai (d c _ z).2];exact z
   rcases a with h|h
   .rw [h];exact(d b o q).1
   .exact(d c _ h).1
end
structure Zs where
 it:g5
 b:Bool
 a:g5
 xs:List V
def Zs.iter(q:Zs)(i:Nat)(h:hZ):Prop:=if q.b=e6 then h.IsListIter q.it q.a i else h.IsTupleIter q.it q.a i
noncomputable abbrev Zt:=Bool×g5×List V
abbrev Zs.t(q:Zs):Zt:=(q.b,q.a,q.xs)
def Zq(K:zz8)(H:Hp)(q:Zt):Prop:=if q.1=e6 then hW K H q.2.1 q.2.2 else gz K H q.2.1 q.2.2
def Zs.sq(K:zz8)(H:Hp)(q:Zs):Prop:=if q.b=e6 then hW K H q.a q.xs else gz K H q.a q.xs
def Zs.yU{q:Zs}{i:Nat}(st:q.iter i h)(k:∀o,h.get? q.it=eW o->h'.get? q.it=eW o):q.iter i h':=by
 unfold Zs.iter at st⊢;split
 .rename_i e;rw [if_pos e] at st;exact st.at k
 .rename_i e;rw [if_neg e] at st;exact st.at k
def Zs.uX{q:Zs}{i:Nat}(st:q.iter i h):∃o,h.get? q.it=eW o/\∀v,o.data≠.cell v:=by
 unfold Zs.iter at st;split at st
 .let(o,a,_,hd):=st;exact{o,a,λv z=>by rw [hd] at z;cases z}
 .let(o,a,_,hd):=st;exact{o,a,λv z=>by rw [hd] at z;cases z}
abbrev TR(K:zz8)(ts:List Zt):It:=
 {λi H=>∀q∈ts,Zq K H q/\i<q.2.2.length,λi H v b=>∃p a,v=.ref p/\H p=eX/\b=upd H p (.tup a)/\Paired (λ(q:Zt) y=>q.2.2[i]?=eW y) ts a,
  λi H=>(∀q∈ts,Zq K H q/\i<=q.2.2.length)/\∃q∈ts,q.2.2.length=i}
structure B8(prog:hF)(w:hG)(A:hT)(i:Nat)(h:hZ)(q:Zs)(d:Zd):Prop where
 it:d.it=q.it
 fp:d.fp=[q.it,q.a]
 n:d.n=q.xs.length
 D:Draws prog w A d.it d.fp d.n d.P d.St
 st:d.St i h
 back:∀j g,d.St j g->q.iter j g
 val:∀j u,d.P j u->∃x,RelV x u/\q.xs[j]?=eW x
section
variable{s:gC}
def F9{xs:List V}{c:List fP}(rv:Vals xs c)(j:Nat)(u:fP)(b:c.toArray[j]?=eW u):∃x,RelV x u/\xs[j]?=eW x:=by
 have b:c[j]?=eW u:=zx6 b;have e:j<xs.length:=by rw [rv.length];exact(bD.mp b).1
 let(f,a,d):=rv.get (zzg e);rw [b] at a;cases a;exact{_,d,zzg e}
def SN(f:X.calm=e6)(I:zv1 s){q:Zs}{i:Nat}(k:q.a≠q.it)(h:q.sq X.K H)(st:q.iter i s.heap):∃d,B8 X.prog X.w X.A.in1 i s.heap q d:=by
 unfold Zs.sq at h;unfold Zs.iter at st;cases e:q.b with
 |true=>
  rw [if_pos e] at h st;let(c,rv,p,_):=I.list h;refine{{q.it,[q.it,q.a],c.toArray.size,_,_},rfl,rfl,?_,Draws.list (A:=X.A.in1) (I.ok.hd f) q.it q.a k c.toArray,⟨st,p.isList⟩,λj g z=>?_,F9 rv}
  .rw [a5,<-rv.length]
  .unfold Zs.iter;rw [if_pos e];exact z.1
 |false=>
  have m:¬q.b=e6:=by rw [e];exact zzf
  rw [if_neg m] at h st;let(c,rv,p,_):=I.tuple h;refine{{q.it,[q.it,q.a],c.toArray.size,_,_},rfl,rfl,?_,AD (A:=X.A.in1) (I.ok.hd f) q.it q.a k c.toArray,⟨st,p⟩,λj g z=>?_,F9 rv}
  .rw [a5,<-rv.length]
  .unfold Zs.iter;rw [if_neg m];exact z.1
theorem ye(e:X.calm=e6)(I:zv1 s){i:Nat}:∀{qs:List Zs},(∀q∈qs,q.a≠q.it/\q.sq X.K H/\q.iter i s.heap)->∃b,Paired (B8 X.prog X.w X.A.in1 i s.heap) qs b
 |[],_=>{[],.nil}|q::qs,h=>by let(f,g,j):=h q (b4 ..);let(d,hd):=SN e I f g j;let(b,c):=ye e I (qs:=qs) λr k=>h r (bI _ k);exact{d::b,.cons hd c}
variable{α β:Type}{R:α->β->Prop}
theorem cH:∀{l:List α} {m:List β},Paired R l m->∀b∈m,∃a∈l,R a b
 |_,_,.cons h t,b,c=>by
  rcases d8.1 c with rfl|c
  .exact{_,b4 ..,h}
  .let(a,d,e):=cH t b c;exact{a,bI _ d,e}
theorem gx:∀{l:List α} {m:List β},Paired R l m->∀a∈l,∃b∈m,R a b
 |_,_,.cons h t,b,c=>by
  rcases d8.1 c with rfl|c
  .exact{_,b4 ..,h}
  .let(a,d,e):=gx t b c;exact{a,bI _ d,e}
theorem qV{S:α->α->Prop}{T:β->β->Prop}(h:∀a c b d,R a b->R c d->S a c->T b d):∀{l:List α} {m:List β},Paired R l m->l.Pairwise S->m.Pairwise T
 |_,_,.nil,_=>.nil|_,_,.cons r t,p=>by let(e,f):=List.pairwise_cons.1 p;refine List.pairwise_cons.2 {λb g=>?_,qV h t f};let(a,i,j):=cH t b g;exact h _ _ _ _ r j (e a i)
end
structure Uh(z TI TO:g5)(qs:List Zs):Prop where
 tz:TI≠z/\TO≠z/\TI≠TO
 ne:qs≠[]
 len:qs.length<=9
 it:∀q∈qs,q.it≠z/\q.it≠TO/\q.it≠TI
 a:∀q∈qs,q.a≠z/\q.a≠TO/\∀r∈qs,q.a≠r.it
 pw:qs.Pairwise λa b=>a.it≠b.it
def Zc(z TI TO:g5)(qs:List Zs)(i:Nat)(h:hZ):Prop:=IsZip h z TI TO .none/\js h TI (qs.map λq=>fP.ref q.it).toArray/\(∃c,js h TO c/\c.size=qs.length)/\∀q∈qs,q.iter i h
def Gf{w:hG}{i:Nat}{z TI TO:g5}{qs:List Zs}{e:List Zd}(Z:Uh z TI TO qs)(p:Paired (B8 prog w A i h) qs e):P1 prog w A z TI TO e where
 D:=λd hd=>by let(q,_,r):=cH p d hd;exact r.D
 zf:=λd hd=>by let(q,f,r):=cH p d hd;let(g,a2,s):=Z.it q f;let(t,u,_):=Z.a q f;rw [r.fp,r.it];simp! [d8,List.not_mem_nil,or_false,not_or];exact{{Ne.symm g,Ne.symm t},{Ne.symm a2,Ne.symm u},g,a2,s}
 ap:=by
  have q:qs.Pairwise λa b=>a.it≠b.it/\a.it≠b.a/\b.it≠a.a:=by refine List.Pairwise.imp_of_mem (λ{a b} j k h=>{h,λz=>(Z.a b k).2.2 a j z.symm,λz=>(Z.a a j).2.2 b k z.symm}) Z.pw
  refine qV (λa C b E r m c=>?_) p q;let(o,y,B):=c;rw [r.fp,m.fp,r.it,m.it];simp! [d8,List.not_mem_nil,or_false,not_or];exact{⟨o,y⟩,Ne.symm o,B}
 tz:=Z.tz
theorem j9{w:hG}{i:Nat}:∀{qs:List Zs} {a:List Zd},Paired (B8 prog w A i h) qs a->(qs.map λq=>fP.ref q.it)=a.map λd=>fP.ref d.it
 |_,_,.nil=>rfl|_,_,.cons r t=>by rw [a8,a8,r.it,j9 t]
theorem pH{w:hG}{i:Nat}:∀{qs:List Zs} {a:List Zd} {us:List fP},Paired (B8 prog w A i h) qs a->Paired (λd x=>d.P i x) a us->∃ys,Vals ys us/\Paired (λ(q:Zt) y=>q.2.2[i]?=eW y) (qs.map Zs.t) ys
 |_,_,_,.nil,.nil=>{[],.nil,.nil}|_,_,_,.cons r t,.cons u v=>by let(x,b,c):=r.val i _ u;let(ys,e,f):=pH t v;exact{x::ys,.cons b e,.cons c f}
def BJ{P:hF}{w:hG}{K:zz8}{elts:List hB}{x1:Nat}{z TI TO:g5}{qs:List Zs}(Z:Uh z TI TO qs):
 Turn P w K (.Tuple elts x1 pos) (TR K (qs.map Zs.t)) (z::TI::TO::qs.map (·.it)) z (Zc z TI TO qs) where
 mem:=by simp
 obj:=λi h st c D=>by
  let(u,A,(_,B,_),C):=st
  simp! [d8,er] at D;rcases D with rfl|rfl|rfl|⟨q,f,rfl⟩
  .exact{_,u,λv q=>by cases q}
  .exact{_,A,λv q=>by cases q}
  .exact{_,B,λv q=>by cases q}
  .exact Zs.uX (C q f)
 keep:=λi h Q st k=>by let(u,A,(c,B,G),C):=st;exact{k z (by simp) _ u,k TI (by simp) _ A,{c,k TO (by simp) _ B,G},λq f=>Zs.yU (C q f) λo e=>k q.it (by simp;exact .inr (.inr (.inr ⟨q,f,rfl⟩))) o e}
 item:=by
  intro X U V hK D i W s σ H E I L st p;subst U V hK;replace p:∀q∈qs,q.sq X.K H/\i<q.xs.length:=λq f=>p q.t (List.mem_map_of_mem f);let(u,A,(c,B,G),C):=st;let(ds,j):=ye D I λq f=>{(Z.a q f).2.2 q f,(p q f).1,C q f};have M:s.TypeIs (.ref z) "zip":={_,u,rfl};have len:=Paired.length j;have DJ:H (zz9 s)=eX:=I.aM.fresh (a7 _)
  have lt:∀b∈z::TI::TO::qs.map (·.it),b<(zz9 s):=λb g=>by
   simp! [d8,er] at g;rcases g with rfl|rfl|rfl|⟨q,f,rfl⟩
   .exact bX u
   .exact bX A
   .exact bX B
   .let(o,Y,_):=Zs.uX (C q f);exact bX Y
  unfold pyNext;refine ar (wpAny_attempt (wpAny_callSpecial?_slot (name:=Str.ofString (zu 52)) M PySem.F.slot_zip_next (wpAny_call_entry PySem.F.slot_zip_next M PySem.F.entry_zip_next
   (vW (k:=i) (Gf Z j) (by rw [<-len];exact Z.len) (by have:=Z.ne;intro e;subst e;cases j;exact this rfl) u (by rw [<-j9 j];exact A) {c,B,by rw [<-len];exact G} (λd hd=>by let(q,f,r):=cH j d hd;exact{r.st,by rw [r.n];exact Nat.le_of_lt (p q f).2})
    (λQ tk us pu z1 z2 z3 z4 z5 N=>{_,rfl,bc ?_}) λQ tk e O _ _=>?_) (PySem.F.args_zip_next_1 _))))
  .let(ys,rv,R):=pH j pu
   have Vi:∀b∈z::TO::qs.map (·.it),jq X W H b:=λb g=>L b (by simp! [d8] at g⊢;rcases g with h|h|h<;>simp [h]);have I1:=Inv.Ep (tk:=tk) (xs:=ys) I Vi (λb o g e=>N b o (λq=>g (by simp [q])) (λq=>g (by simp [q])) (λd hd q=>g (by let(q',oz,r):=cH j d hd;simp! [d8,er];exact .inr (.inr {q',oz,by rw [q,r.it]}))) e) z4 rfl rfl rv (c4 (m:=9) (by have h1:=Paired.length R;have:=Z.len;rw [zzl] at h1;lia) ↑2);refine{_,rfl,wpAny_letOwnedTupleGo_zip z1 λh2 Gw S=>?_};let(f0,f1,f2,f3,f4,f5):=L z (by simp);have nz:z≠(zz9 s):=dV (lt z (by simp));refine{.ref (zz9 s),_,I1.turned (t':=tk) (it:=z) (λb o g q=>S.extBut b o g q) (by rw [ai nz];exact f0) f1 f3 f4 f5,rfl,{_,_,rfl,DJ,rfl,R},{Gw,?_,?_,λq f=>?_},λb g=>?_}
   .exact S.extBut _ _ Z.tz.1 (N _ _ Z.tz.1 Z.tz.2.2 (λd hd=>by let(q,f,r):=cH j d hd;rw [r.it];exact Ne.symm (Z.it q f).2.2) A)
   .let(c',e1,e2):=z2;exact{c',S.extBut _ _ Z.tz.2.1 e1,by rw [e2,len]}
   .let(d,hd,r):=gx j q f;exact Zs.yU (r.back _ _ (z3 d hd)) λo e=>S.extBut _ _ (Z.it q f).1 e
   .rw [ai (dV (lt b g))];exact(L b g).1
  .let(d,hd,hn):=O;let(q,f,r):=cH j d hd;have:=(p q f).2;rw [r.n] at hn;lia
 done:=by
  intro X U V hK D i W s σ H E I L st p;subst U V hK;let(p,t0,ht0,hn0):=p;replace p:∀q∈qs,q.sq X.K H/\i<=q.xs.length:=λq f=>p q.t (List.mem_map_of_mem f);let(u,A,(c,B,G),C):=st;let(ds,j):=ye D I λq f=>{(Z.a q f).2.2 q f,(p q f).1,C q f};have M:s.TypeIs (.ref z) "zip":={_,u,rfl};have len:=Paired.length j
  unfold pyNext;refine ar (wpAny_attempt (wpAny_callSpecial?_slot (name:=Str.ofString (zu 52)) M PySem.F.slot_zip_next (wpAny_call_entry PySem.F.slot_zip_next M PySem.F.entry_zip_next
   (vW (k:=i) (Gf Z j) (by rw [<-len];exact Z.len) (by have:=Z.ne;intro e;subst e;cases j;exact this rfl) u (by rw [<-j9 j];exact A) {c,B,by rw [<-len];exact G} (λd hd=>by let(q,f,r):=cH j d hd;exact{r.st,by rw [r.n];exact(p q f).2})
    (λQ tk us pu z1 z2 z3 z4 z5 N=>?_) λQ tk e O N he=>?_) (PySem.F.args_zip_next_1 _))))
  .let(ys,rv,R):=pH j pu;let(y,_,hy):=gx R t0 ht0;have:=(bD.1 hy).1;lia
  .let(o,Y,iU):=he
   refine ar (wpAny_isInstance (T:=(zu 28)) (b:=e6) ⟨o,Y,iU⟩ isSubtype_stop ?_);have Vi:∀b∈z::TO::qs.map (·.it),jq X W H b:=λb g=>L b (by simp! [d8] at g⊢;rcases g with h|h|h<;>simp [h]);exact bc {rfl,Inv.moved (tk:=tk) I Vi λb o g e=>N b o (λq=>g (by simp [q])) (λq=>g (by simp [q])) (λd hd q=>g (by let(q',oz,r):=cH j d hd;simp! [d8,er];exact .inr (.inr {q',oz,by rw [q,r.it]}))) e}
 self:=λ_ _ _ _ _ st h=>wpAny_pyIter_zip st.1 h
def pC(a b c:fP):checkTypeCall "zip" {[a,b,c],[]}=pure ():=∅
def pX(a b c:fP):checkBuiltinCall "zip.__new__" {[.type "zip",a,b,c],[]}=pure ():=∅
def ju(a b c d:fP):argsOk "object.__init__" {[a,b,c,d],[]}:=by unfold argsOk;rw [signature?_of (n:=['_','_','t','i','n','i','_','_']) ∅ PySem.F.owner_object];kernel_rfl
def Src(h:hZ)(b:Bool)(a:g5):Prop:=if b=e6 then∃c,h.IsList a c else∃c,h.IsTuple a c
abbrev itN(b:Bool):String:=if b=e6 then "list_iterator" else "tuple_iterator"
def Src.push{b:Bool}(q:Src h b a)(o:Obj):Src (h.push o) b a:=by
 unfold Src at q⊢;split
 .rename_i e;rw [if_pos e] at q;let(c,q):=q;exact{c,q.push o}
 .rename_i e;rw [if_neg e] at q;let(c,d,f,r):=q;exact{c,d,aT _ f,r}
abbrev Rn(b:Bool)(a:g5):Obj:={cls:=.type (itN b),data:=.fields #[.ref a,.int 0 0]}
section
variable{w:hG}{E:kd}{s:gC}
def xK{b:Bool}{Q:kd}(h:Src s.heap b a)(q:Q (.ref (zz9 s)) {s with heap:=s.heap.push (Rn b a)}):hD (hI prog w) A (pyIter (.ref a)) Q E s:=by
 cases b with
 |true=>let(c,h):=h;exact wpAny_pyIter_list h q|false=>let(c,h):=h;exact wpAny_pyIter_tuple h q
end
abbrev iz(h:hZ)(qs:List (Bool×g5)):Heap:=qs.foldl (λg q=>g.push (Rn q.1 q.2)) h
def j1(qs:List (Bool×g5)):∀h:hZ,(iz h qs).objs.size=h.objs.size+qs.length:=by
 induction qs with
 |nil=>exact λh=>rfl|cons q qs a=>intro h;rw [iz,List.foldl_cons,<-iz,a,hZ.size_push,bV];lia
section
variable{w:hG}{E:kd}{s:gC}
def uW{Q:List fP->gC->Prop}:∀(qs:List (Bool×g5)),(∀q∈qs,Src s.heap q.1 q.2)->Q ((List.range qs.length).map λi=>fP.ref ((zz9 s)+i)) {s with heap:=iz s.heap qs}->
 hD (hI prog w) A (ix.SmallTypes.iterAll (qs.map λq=>fP.ref q.2)) Q E s:=by
 intro qs j h;unfold ix.SmallTypes.iterAll;refine ar ?_;refine wpAny_forIn_list _ (λrest (b:Array fP) e=>∃c a,qs=c++a/\rest=a.map (λq=>fP.ref q.2)/\b.toList=(List.range c.length).map (λi=>fP.ref ((zz9 s)+i))/\e={s with heap:=iz s.heap c}) _ ?_ ?_ _ _ {[],qs,rfl,rfl,rfl,rfl}
 .rintro x rest b e ⟨c,a,rfl,d,f,rfl⟩
  cases a with
  |nil=>cases d
  |cons q a=>
   simp! [a8,List.cons.injEq] at d;let(rfl,rfl):=d
   have hs:∀(l:List (Bool×g5)) (g:hZ),Src g q.1 q.2->Src (iz g l) q.1 q.2:=λl=>by
    induction l with
    |nil=>exact λg h=>h|cons r l k=>exact λg h=>k _ (h.push _)
   refine ar (wpAny_holding (xK (hs c _ (j q (by simp))) ?_));refine bc {c++[q],a,by simp,rfl,?_,?_}
   .rw [Array.toList_push,f,bW,List.length_singleton,List.range_succ,List.map_append];simp [j1]
   .simp [iz,List.foldl_append]
 .rintro b e ⟨c,a,rfl,d,f,rfl⟩
  obtain rfl:a=[]:=by cases a with|nil=>rfl|cons q a=>cases d
  refine bc ?_;rw [f];simpa using h
end
theorem sU{n:g5}(e:h.objs.size=n)(f:o.isFreed=fx:=by rfl):(h.push o).get? n=eW o:=e▸c8 h f
abbrev g6(h:hZ)(qs:List (Bool×g5)):Heap:=
 (((iz h qs).push {cls:=.type "tuple",data:=.seq ((List.range qs.length).map λi=>fP.ref (h.objs.size+i)).toArray}).push {cls:=.type "tuple",data:=.seq (((List.range qs.length).map λi=>fP.ref (h.objs.size+i)).map λZ=>fP.none).toArray}).push
   {cls:=.type "zip",data:=.fields #[.none,.bool fx,.bool fx,.ref (h.objs.size+qs.length),.ref (h.objs.size+qs.length+1)]}
theorem Gb(qs:List (Bool×g5))(hl:qs.length<=9):
 Meets (ix.«zip.__new__» {.type "zip"::qs.map (λq=>fP.ref q.2),[]}) (λZ R s=>(∀q∈qs,Src s.heap q.1 q.2)/\R (.ok (.ret (.ref ((zz9 s)+qs.length+2)))) {s with heap:=g6 s.heap qs}):=
 .of_wp λprog w A R s h=>by
  let(hs,h):=h;have b:=sub_zip;have a:∀l:List fP,l.length=qs.length->l.length<=sizeLine:=λl e=>c4 (m:=9) (by lia) ↑2;show hD _ _ (ix.SmallTypes.newClass "zip" _>>=_) _ _ s;unfold ix.SmallTypes.newClass
  wp_walk using uW qs hs
  rw [if_neg (by rw [a5];exact Nat.not_lt.2 (a _ (by simp)))]
  wp_walk
  rw [if_neg (by rw [a5];exact Nat.not_lt.2 (a _ (by simp)))]
  wp_walk
  refine{_,rfl,?_};simp! [hZ.size_push,j1];exact h
def qN(qs:List (Bool×g5)):∀(h:hZ) (c:g5) (o:Obj),h.get? c=eW o->(iz h qs).get? c=eW o:=by
 induction qs with
 |nil=>exact λh c o e=>e|cons q qs a=>exact λh c o e=>a _ c o (aT _ e)
theorem uY:∀(qs:List (Bool×g5)) (h:hZ) (i:Nat) (q:Bool×g5),qs[i]?=eW q->(iz h qs).get? (h.objs.size+i)=eW (Rn q.1 q.2)
 |q::qs,h,0,r,e=>by cases e;exact qN qs _ _ _ (c8 _ rfl)
 |q::qs,h,i+1,r,e=>by have:=uY qs (h.push (Rn q.1 q.2)) i r (zx6 e);rw [hZ.size_push] at this;rw [show h.objs.size+(i+1)=h.objs.size+1+i by lia];exact this
section
variable{w:hG}{E:kd}{s:gC}
def An{qs:List (Bool×g5)}{Q:kd}(hl:qs.length<=9)(hs:∀q∈qs,Src s.heap q.1 q.2)(f:checkTypeCall "zip" {qs.map (λq=>fP.ref q.2),[]}=pure ())(g:checkBuiltinCall "zip.__new__" {.type "zip"::qs.map (λq=>fP.ref q.2),[]}=pure ())(j:∀obj,argsOk "object.__init__" {obj::qs.map (λq=>fP.ref q.2),[]})
 (h:IsZip (g6 s.heap qs) ((zz9 s)+qs.length+2) ((zz9 s)+qs.length) ((zz9 s)+qs.length+1) .none->js (g6 s.heap qs) ((zz9 s)+qs.length) ((List.range qs.length).map λi=>fP.ref ((zz9 s)+i)).toArray->(∃c,js (g6 s.heap qs) ((zz9 s)+qs.length+1) c/\c.size=qs.length)->
  (∀i q,qs[i]?=eW q->(g6 s.heap qs).get? ((zz9 s)+i)=eW (Rn q.1 q.2))->(∀c o,s.heap.get? c=eW o->(g6 s.heap qs).get? c=eW o)->Q (.ref ((zz9 s)+qs.length+2)) {s with heap:=g6 s.heap qs}):
 hD (hI prog w) A (call (.type "zip") (qs.map λq=>fP.ref q.2)) Q E s:=by
 have a:=j1 qs s.heap;have b:∀c o,(iz s.heap qs).get? c=eW o->(g6 s.heap qs).get? c=eW o:=λc o e=>aT _ (aT _ (aT _ e));have d:IsZip (g6 s.heap qs) ((zz9 s)+qs.length+2) ((zz9 s)+qs.length) ((zz9 s)+qs.length+1) .none:=sU (by rw [hZ.size_push,hZ.size_push,a]);have k:js (g6 s.heap qs) ((zz9 s)+qs.length) ((List.range qs.length).map λi=>fP.ref ((zz9 s)+i)).toArray:=aT _ (aT _ (sU a));have m:js (g6 s.heap qs) ((zz9 s)+qs.length+1) (((List.range qs.length).map λi=>fP.ref ((zz9 s)+i)).map λZ=>fP.none).toArray:=aT _ (sU (by rw [hZ.size_push,a]));exact callType_new PySem.F.called_zip ↑2 f g j PySem.F.entry_zip_new (Gb qs hl) {hs,{_,d,rfl},h d k {_,m,by simp} (λi q e=>b _ _ (uY qs _ i q e)) λc o e=>b _ _ (qN qs _ c o e)}
end
theorem q9:∀{ts:List Zt} {us:List fP},Vals (ts.map λt=>V.ref t.2.1) us->us=ts.map λt=>fP.ref t.2.1
 |[],_,.nil=>rfl|t::ts,_,.cons h r=>by cases h;rw [q9 r];rfl
section
variable{elts:List hB}{x1:Nat}{JK:Pos}
abbrev Ri(K:zz8)(b:TA):TI:=λc H R=>b c H λd a=>∃ts:List Zt,d=ts.map (λt=>.ref t.2.1)/\(ts.length=2\/ts.length=3)/\(∀t∈ts,Zq K a t)/\R (TR K ts) a
def Jc{u:List hB}{M:TA}{p pos:Pos}(Y:Gl X "zip")(hm:X.mg "zip"=eX)(ha:PA X (e::u) M)(he:starEach (e::u) X.env=(fx,eval e X.env)::starEach u X.env)(hp:(backTo pos (starEach u X.env)).any (·.1)=fx):
 PI X (.Tuple elts x1 JK) (.Call (.Name "zip" p) (e::u) [] pos) (Ri X.K M):=by
 intro N s O H R I h;refine Call_ (j4 I Y hm (show bootBuiltins "zip"=eW (.type "zip") by decide+kernel) (PyProof.Rows.callWith_type1 (bL (ha pos N s O H _ I h) λus d ⟨vs,H1,y,r1,q1⟩=>?_) he hp));let(ts,rfl,hn,hq,q):=q1;obtain rfl:=q9 r1;have Q:ts.length<=9:=by lia
 have D:(ts.map λt=>(t.1,t.2.1)).length=ts.length:=zzl ..;have em:(ts.map λt=>fP.ref t.2.1)=(ts.map λt=>(t.1,t.2.1)).map λq=>fP.ref q.2:=by rw [List.map_map];rfl
 have A:∀t∈ts,Src d.heap t.1 t.2.1/\t.2.1<(zz9 d):=λt E=>by
  have:=hq t E
  unfold Zq at this;unfold Src;cases g:t.1 with
  |true=>rw [if_pos g] at this;let(av,_,B,_):=y.list this;exact{{_,B.isList},by let(_,e,_):=B.isList;exact bX e}|false=>rw [if_neg (by rw [g];exact zzf)] at this;let(av,_,B,_):=y.tuple this;exact{{_,B},by let(_,e,_):=B;exact bX e}
 have go:∀l,(l=2\/l=3)->ts.length=l->checkTypeCall "zip" {ts.map (λt=>fP.ref t.2.1),[]}=pure ()/\checkBuiltinCall "zip.__new__" {.type "zip"::ts.map (λt=>fP.ref t.2.1),[]}=pure ()/\∀obj,argsOk "object.__init__" {obj::ts.map (λt=>fP.ref t.2.1),[]}:=λl hl e=>by
  rcases hl with rfl|rfl
  .match ts,e with
   |[a,b],_=>exact{PySem.F.typeCall_zip_2 _ _,PySem.F.newCall_zip_2 _ _,λobj=>PySem.F.args_object_init_3 obj _ _}
  .match ts,e with
   |[a,b,c],_=>exact{pC _ _ _,pX _ _ _,λobj=>ju obj _ _ _}
 let(c1,S,U):=go _ hn rfl;rw [em] at c1 S U⊢;refine An (by rw [D];exact Q) (λq f=>by let(t,E,rfl):=er.1 f;exact(A t E).1) c1 S U λG a2 V a4 kk=>wpAny_pyIter_zip G ?_;rw [D] at G a2 V;have I2:Inv X N O H1 {d with heap:=g6 d.heap (ts.map λt=>(t.1,t.2.1))}:=y.kept (t':=d.toks) kk;have eqs:(ts.zipIdx.map λp=>({(zz9 d)+p.2,p.1.1,p.1.2.1,p.1.2.2}:Zs)).map Zs.t=ts:=by rw [List.map_map];refine List.ext_getElem (by simp) λi m k=>?_;simp [Zs.t]
 have C:∀q∈ts.zipIdx.map λp=>(⟨(zz9 d)+p.2,p.1.1,p.1.2.1,p.1.2.2⟩:Zs),∃i,i<ts.length/\ts[i]?=eW q.t/\q.it=(zz9 d)+i:=λq f=>by let((t,i),Kh,rfl):=er.1 f;have:=List.mem_zipIdx_iff_getElem?.1 Kh;exact{i,(bD.1 this).1,this,rfl}
 have Z:Uh ((zz9 d)+ts.length+2) ((zz9 d)+ts.length) ((zz9 d)+ts.length+1) (ts.zipIdx.map λp=>({(zz9 d)+p.2,p.1.1,p.1.2.1,p.1.2.2}:Zs)):=by
  refine{{dV (by show _<_;lia),dV (by show _<_;lia),dV (by show _<_;lia)},λz=>?_,zx6 Q,λq f=>?_,λq f=>?_,?_}
  .have:=congrArg List.length z;simp! [zzl,List.length_zipIdx,List.length_nil] at this;lia
  .let(i,m,_,o):=C q f;rw [o];exact{dV (by show _<_;lia),dV (by show _<_;lia),dV (by show _<_;lia)}
  .let(i,m,k,o):=C q f;have L:q.a<(zz9 d):=(A q.t (a6 k)).2;refine{dV (c6 L (by show _<=_;lia)),dV (c6 L (by show _<=_;lia)),λr hr=>?_};let(j,_,_,h5):=C r hr;rw [h5];exact dV (c6 L (by show _<=_;lia))
  .refine List.pairwise_map.2 ?_;refine List.pairwise_iff_getElem.2 λi j hi hj Yb=>?_;simp! [List.getElem_zipIdx];exact dV (by show _<_;lia)
 have T:=BJ (P:=X.prog) (w:=X.w) (K:=X.K) (elts:=elts) (x1:=x1) (pos:=JK) Z;rw [eqs] at T;refine{_,_,_,_,H1,by rw [D],I2,T,{G,?_,?_,λq f=>?_},λb g=>?_,q}
 .have:(ts.zipIdx.map λp=>({(zz9 d)+p.2,p.1.1,p.1.2.1,p.1.2.2}:Zs)).map (λq=>fP.ref q.it)=(List.range ts.length).map λi=>fP.ref ((zz9 d)+i):=by
   refine List.ext_getElem (by simp) λi m k=>?_;simp
  rw [this];exact a2
 .let(c,m,k):=V;exact{c,m,zx6 k}
 .let(i,m,k,o):=C q f;have:=a4 i (q.b,q.a) (by rw [cz,k];rfl)
  unfold Zs.iter;rw [o];cases g:q.b with
  |true=>rw [g] at this;exact{_,this,rfl,rfl}|false=>rw [g] at this;exact{_,this,rfl,rfl}
 .have W:(zz9 d)<=b:=by
   simp! [d8,er] at g;rcases g with e|e|e|⟨q,f,e⟩
   .rw [e];exact c4 (Nat.le_add_right _ _) (Nat.le_add_right _ _)
   .rw [e];exact Nat.le_add_right _ _
   .rw [e];exact c4 (Nat.le_add_right _ _) (Nat.le_add_right _ _)
   .let(i,_,_,o):=C q (er.2 f);rw [<-e,o];exact Nat.le_add_right _ _
  exact y.uN W (y.aM.fresh W)
end
def RL(xs:List V)(P:V->Prop):Prop:=match xs with
 |[x]=>P x|_=>False
def IP{xs:List V}{P:V->Prop}(h:RL xs P):∃x,xs=[x]/\P x:=by
 cases xs with
 |nil=>exact h.elim|cons x r=>
  cases r with
  |nil=>exact⟨x,rfl,h⟩|cons _ _=>exact h.elim
def F3(r:Vals vs us):Vals vs.reverse us.reverse:=by
 induction r with
 |nil=>exact .nil|cons h t a=>rw [List.reverse_cons,List.reverse_cons];exact a.append (.cons h .nil)
end L2
namespace Ci
open L2
set_option backward.match.sparseCases false
structure Hs where
 f:Str
 h:Str
 g:Str
 idx:List Nat
 np:Nat
structure Pg where
 gs:List (Str×PV)
 bs:List Str
 cs:List Str
 fs:List Str
 rs:List Str
 hs:List Hs:=[]
 hl:Bool:=fx
 qt:Bool:=fx
 qs:List Str:=[]
abbrev nq(Γ:Pg)(b:Bool):Bool:=b&&!Γ.qt
def zj{Γ:Pg}{b:Bool}(h:nq Γ b=e6):Γ.qt=fx/\b=e6:=by unfold nq at h;rw [zza,Bool.not_eq_true'] at h;exact⟨h.2,h.1⟩
abbrev je(sc:hX)(x:Str):Bool:=sc.names.lookup x==eW .local||sc.names.lookup x==eW .cell
abbrev kg(sc:hX)(x:Str):Bool:=je sc x||sc.names.lookup x==eW .free
abbrev gj(sc:hX)(x:Str):Bool:=sc.names.lookup x==eW .globalImplicit
abbrev litS:List PV->List PV->Bool
 |[],[]=>e6|.str x::xs,.str y::ys=>x==y&&litS xs ys|_,_=>fx
abbrev Ed:PV->PV->Bool
 |.int i,.int j=>i==j|.str x,.str y=>x==y|.tup xs,.tup ys=>litS xs ys|_,_=>fx
theorem litS_eq:∀{xs ys:List PV},litS xs ys=e6->xs=ys
 |[],[],_=>rfl|.str x::xs,.str y::ys,h=>by unfold litS at h;rw [zza] at h;rw [zzy.mp h.1,litS_eq h.2]
def Ee{p:PV}(h:Ed p q=e6):p=q:=by
 cases p<;>first|exact aO h|skip
 all_goals cases q<;>first|exact aO h|skip
 .rw [zzy.mp h]
 .rw [zzy.mp h]
 .rw [litS_eq h]
abbrev bN:B->Str
 |.len=>"len"|.max2=>"max"|.min2=>"min"|.str=>"str"|.tuple=>"tuple"|.all=>"all"|.sorted=>"sorted"
abbrev mN:M->Str
 |.jz=>"count"|.index=>"index"|.join=>"join"
abbrev VH:E->Bool
 |.var _=>e6|.fld _ _=>e6|_=>fx
abbrev Ic:hB->Bool
 |.Dict [] [] _=>e6|_=>fx
def yP(h:Ic p=e6):∃pos,p=.Dict [] [] pos:=by
 unfold Ic at h;split at h
 .exact{_,rfl}
 .cases h
abbrev eR:E->Bool
 |.JI _=>fx|.con _=>fx|_=>e6
abbrev g8:Es->Bool
 |.nil=>e6|.cons e a=>eR e&&g8 a
abbrev AI:I->Bool
 |.seq e=>eR e|.sX _=>e6|.zip _=>e6
abbrev isNil:Es->Bool
 |.nil=>e6|_=>fx
abbrev fB:Es->Nat
 |.nil=>0|.cons _ a=>fB a+1
abbrev BH:hB->Option (List hB)
 |.Tuple a _ _=>eW a|_=>eX
def nF{a:List hB}(h:BH e=eW a):∃k p,e=.Tuple a k p:=by
 cases e with
 |Tuple a k p=>cases h;exact{_,_,rfl}
 |_=>exact lW h
abbrev BL{c:Type}:List c->Option (c×c)
 |[a,b]=>eW (a,b)|_=>eX
def JL{c:Type}{ts:List c}{q:c×c}(h:BL ts=eW q):ts=[q.1,q.2]:=by
 cases ts with
 |nil=>exact lW h|cons a ts=>
  cases ts with
  |nil=>exact lW h|cons b ts=>
   cases ts with
   |cons _ _=>exact lW h|nil=>cases h;rfl
abbrev V2(N:List Str)(sc:hX)(fn:Str->Bool)(i:Nat)(p:hB):Bool:=(j8 p).any λx=>N[i]?==eW x&&je sc x&&(fn x||sc.names.lookup x==eW .local)
abbrev Ir(N:List Str)(sc:hX)(fn:Str->Bool):List Nat->List hB->Bool
 |i::is,a::as=>V2 N sc fn i a&&Ir N sc fn is as|[],[]=>e6|_,_=>fx
abbrev eK(N:List Str)(sc:hX)(fn:Str->Bool):Tg->hB->Bool
 |.one i,p=>V2 N sc fn i p|.two i j,p=>(BH p).any (Ir N sc fn [i,j])|.four i j k l,p=>(BH p).any (Ir N sc fn [i,j,k,l])
abbrev aS:hB->List Str
 |.Name x _=>[x]|.Tuple [.Name x _,.Name y _] _ _=>[x,y]|.Tuple [.Name x _,.Name y _,.Name z _] _ _=>[x,y,z]|.Tuple [.Name x _,.Tuple [.Name y _,.Name z _] _ _] _ _=>[x,y,z]|_=>[]
abbrev dB(a sc:hX):Scope:=
 {a with names:=a.names.map λ(n,k)=>if(k==.free&&sc.kind==.function&&sc.names.lookup n==eW .cell) then(n,.cell) else(n,k)}
abbrev freeOf(a:hX):List Str:=((a.names.filter λp=>p.2==.free).map (·.1)).reverse
abbrev uz(N:List Str)(sc a:hX)(k:Nat)(b:List Nat)(xs:List Str):Bool:=
 a.kind==.function&&xs.length==k&&decide ((xs++freeOf a).Nodup)
 &&(a.names.all λy=>(decide (y.2≠.cell)||!(freeOf a).contains y.1)&&(decide (y.2≠.free)||(freeOf a).contains y.1))
 &&(a.names.all λy=>decide (y.2≠.cell)||decide (a.names.lookup y.1=eW .cell))
 &&(a.names.all λy=>decide (y.2≠.local)||decide (a.names.lookup y.1=eW .local))
 &&decide (b.map (λi=>N[i]?)=(freeOf a).map eW)
 &&((freeOf a).all λy=>decide (sc.names.lookup y=eW .cell))
 &&((freeOf a).all λy=>decide ((dB a sc).names.lookup y=eW .cell))
abbrev lI(k:Nat):Tg->Bool
 |.one i=>decide (i<k)|.two i j=>decide (i<k)&&decide (j<k)|.four i j l m=>decide (i<k)&&decide (j<k)&&decide (l<k)&&decide (m<k)
abbrev gk:E->Bool
 |.con _=>fx|.ite _ _ _=>fx|.not a=>gk a|.and a b=>gk a&&gk b|.or a b=>gk a&&gk b|_=>e6
abbrev isTup:hB->Bool
 |.Tuple .. =>e6|_=>fx
noncomputable abbrev Pg.zi(Γ:Pg):Pg:={Γ with hl:=fx}
def wA{c d:Type}{o:Option c}{f:c->Option d}{b:d}(h:o.bind f=eW b):∃a,o=eW a/\f a=eW b:=dr.1 h
def if1{d:Type}{c:Bool}{a b:d}(h:(if c=e6 then eW a else eX)=eW b):c=e6/\a=b:=by
 cases c with
 |true=>cases h;exact⟨rfl,rfl⟩
 |false=>exact lW h
abbrev dS{a:Type}:List a->Option a
 |[t]=>eW t|_=>eX
def i4{b:Type}{ts:List b}{t:b}(h:dS ts=eW t):ts=[t]:=by
 cases ts with
 |nil=>exact lW h|cons a ts=>
  cases ts with
  |cons _ _=>exact lW h|nil=>cases h;rfl
abbrev Gn:hB->Option (hB×Str×Pos)
 |.Attribute o m p=>eW (o,m,p)|_=>eX
def gD{q:hB×Str×Pos}(h:Gn e=eW q):e=.Attribute q.1 q.2.1 q.2.2:=by
 cases e with
 |Attribute o m p=>cases h;rfl
 |_=>exact lW h
abbrev Yn:hB->Option (Arguments×hB×hX)
 |.Lambda p b s _=>eW (p,b,s)|_=>eX
def Nb{q:Arguments×hB×hX}(h:Yn e=eW q):∃p,e=.Lambda q.1 q.2.1 q.2.2 p:=by
 cases e with
 |Lambda p b s x=>cases h;exact{_,rfl}
 |_=>exact lW h
abbrev OL:hB->Option (hB×hB)
 |.Subscript a b _=>eW (a,b)|_=>eX
def FH{q:hB×hB}(h:OL e=eW q):∃p,e=.Subscript q.1 q.2 p:=by
 cases e with
 |Subscript a b p=>cases h;exact{_,rfl}
 |_=>exact lW h
abbrev Qr:hB->Option Const
 |.Constant c _ _=>eW c|_=>eX
def Cq{c:Const}(h:Qr e=eW c):∃p q,e=.Constant c p q:=by
 cases e with
 |Constant c p q=>cases h;exact{_,_,rfl}
 |_=>exact lW h
abbrev pK:Const->Option Str
 |.str z=>eW z|_=>eX
def FE{c:Const}(h:pK c=eW z):c=.str z:=by
 cases c with
 |str y=>cases h;rfl
 |_=>exact lW h
abbrev VI:Const->Option Int
 |.int n=>eW n|_=>eX
def DY{c:Const}{n:Int}(h:VI c=eW n):c=.int n:=by
 cases c with
 |int y=>cases h;rfl
 |_=>exact lW h
def dH{a:Type}{l:List a}(h:l.isEmpty=e6):l=[]:=by
 cases l with
 |nil=>rfl|cons _ _=>exact aO h
def Nq{a:Type}{o:Option a}(h:o.isNone=e6):o=eX:=by
 cases o with
 |none=>rfl|some _=>exact aO h
abbrev Xw:Const->Option Bool
 |.bool b=>eW b|_=>eX
def La{c:Const}{b:Bool}(h:Xw c=eW b):c=.bool b:=by
 cases c with
 |bool y=>cases h;rfl
 |_=>exact lW h
abbrev Ys:Const->Bool
 |.none=>e6|_=>fx
def Nk{c:Const}(h:Ys c=e6):c=.none:=by
 cases c with
 |none=>rfl|_=>exact aO h
abbrev Xu:hB->Option (hB×Operator×hB)
 |.BinOp a o b _=>eW (a,o,b)|_=>eX
def K8{q:hB×Operator×hB}(h:Xu e=eW q):∃p,e=.BinOp q.1 q.2.1 q.2.2 p:=by
 cases e with
 |BinOp a o b p=>cases h;exact{_,rfl}
 |_=>exact lW h
abbrev Qq:hB->Option (hB×List CmpOp×List hB)
 |.Compare a o b _=>eW (a,o,b)|_=>eX
def Lj{q:hB×List CmpOp×List hB}(h:Qq e=eW q):∃p,e=.Compare q.1 q.2.1 q.2.2 p:=by
 cases e with
 |Compare a o b p=>cases h;exact{_,rfl}
 |_=>exact lW h
abbrev SJ:hB->Option (UnaryOp×hB)
 |.UnaryOp o a _=>eW (o,a)|_=>eX
def OY{q:UnaryOp×hB}(h:SJ e=eW q):∃p,e=.UnaryOp q.1 q.2 p:=by
 cases e with
 |UnaryOp o a p=>cases h;exact{_,rfl}
 |_=>exact lW h
abbrev Kj:UnaryOp->Bool
 |.Not=>e6|_=>fx
def DW{o:UnaryOp}(h:Kj o=e6):o=.Not:=by
 cases o with
 |Not=>rfl|_=>exact aO h
abbrev isNeg:UnaryOp->Bool
 |.USub=>e6|_=>fx
def uV{o:UnaryOp}(h:isNeg o=e6):o=.USub:=by
 cases o with
 |USub=>rfl|_=>exact aO h
abbrev uU:BoolOp->Bool
 |.And=>e6|.Or=>fx
def DS{o:BoolOp}(h:uU o=e6):o=.And:=by
 cases o with
 |And=>rfl|Or=>exact aO h
def yS{o:BoolOp}(h:(!uU o)=e6):o=.Or:=by
 cases o with
 |Or=>rfl|And=>exact aO h
abbrev Qg:hB->Option (BoolOp×List hB×Pos)
 |.BoolOp o vs p=>eW (o,vs,p)|_=>eX
def Lc{q:BoolOp×List hB×Pos}(h:Qg e=eW q):e=.BoolOp q.1 q.2.1 q.2.2:=by
 cases e with
 |BoolOp o a p=>cases h;rfl
 |_=>exact lW h
abbrev S6(o:BoolOp)(pos:Pos):List hB->Option (hB×hB)
 |a::b::[]=>eW (a,b)|a::b::c::r=>eW (a,.BoolOp o (b::c::r) pos)|_=>eX
def wD{o:BoolOp}{vs:List hB}{q:hB×hB}(h:S6 o pos vs=eW q):vs=[q.1,q.2]\/∃b c r,vs=q.1::b::c::r/\q.2=.BoolOp o (b::c::r) pos:=by
 cases vs with
 |nil=>exact lW h|cons a vs=>
  cases vs with
  |nil=>exact lW h|cons b vs=>
   cases vs with
   |nil=>cases h;exact .inl rfl
   |cons c r=>cases h;exact .inr ⟨b,c,r,rfl,rfl⟩
abbrev VE:hB->Option (hB×hB×hB)
 |.IfExp c a b _=>eW (c,a,b)|_=>eX
def DO{q:hB×hB×hB}(h:VE e=eW q):∃p,e=.IfExp q.1 q.2.1 q.2.2 p:=by
 cases e with
 |IfExp c a b p=>cases h;exact{_,rfl}
 |_=>exact lW h
abbrev VS:hB->Option (List hB)
 |.List a _=>eW a|_=>eX
def xl{a:List hB}(h:VS e=eW a):∃p,e=.List a p:=by
 cases e with
 |List a p=>cases h;exact{_,rfl}
 |_=>exact lW h
abbrev Py:hB->Option (Option hB×Option hB×Option hB)
 |.Slice a b c _=>eW (a,b,c)|_=>eX
def OA{q:Option hB×Option hB×Option hB}(h:Py e=eW q):∃p,e=.Slice q.1 q.2.1 q.2.2 p:=by
 cases e with
 |Slice a b c p=>cases h;exact{_,rfl}
 |_=>exact lW h
abbrev Rr:hB->Option (hB×List Comprehension×hX)
 |.ListComp e gs s _=>eW (e,gs,s)|_=>eX
def Na{q:hB×List Comprehension×hX}(h:Rr e=eW q):∃p,e=.ListComp q.1 q.2.1 q.2.2 p:=by
 cases e with
 |ListComp e gs s p=>cases h;exact{_,rfl}
 |_=>exact lW h
abbrev v5(e:hB):Option (Str×List hB):=(BP e).bind λq=>(j8 q.1).bind λg=>if q.2.2.1.isEmpty=e6 then eW (g,q.2.1) else eX
def Lg{q:Str×List hB}(h:v5 e=eW q):∃np p,e=.Call (.Name q.1 np) q.2 [] p:=by let((f,a,k,p),c,h):=wA h;let(g,d,h):=wA h;let(i,rfl):=if1 h;let(np,z):=eS d;have b:=dH i;dsimp only at z b;subst z b;exact{np,p,gE c}
abbrev Qu:PV->Const->Bool
 |.aP,c=>Ys c|.bl b,c=>(Xw c).any λx=>b==x|.int i,c=>(VI c).any λx=>i==x|.str z,c=>(pK c).any λx=>z==x|_,_=>fx
abbrev Kp(p:hB):Bool:=(BP p).all λq=>!q.2.1.isEmpty
abbrev dZ(p:hB):Bool:=(BP p).isNone
def aj{a b:Bool}(h:(a&&b)=e6):a=e6/\b=e6:=Bool.and_eq_true_iff.mp h
def af{a:Type}{o:Option a}{f:a->Bool}(h:o.any f=e6):∃x,o=eW x/\f x=e6:=by
 cases o with
 |none=>cases h
 |some x=>exact⟨x,rfl,h⟩
theorem fw{b:Type}{l:List b}{f:b->Bool}(h:(dS l).any f=e6):∃a,l=[a]/\f a=e6:=let⟨a,e,c⟩:=af h;{a,i4 e,c}
theorem JM{c:Type}{l:List c}{f:c×c->Bool}(h:(BL l).any f=e6):∃a b,l=[a,b]/\f (a,b)=e6:=let⟨q,e,d⟩:=af h;{q.1,q.2,JL e,d}
theorem RD{f:Str->Bool}(h:(j8 p).any f=e6):∃x np,p=.Name x np/\f x=e6:=let⟨x,e,a⟩:=af h;let⟨np,z⟩:=eS e;⟨x,np,z,a⟩
theorem XH{f:Const->Bool}(h:(Qr p).any f=e6):∃x a b,p=.Constant x a b/\f x=e6:=let⟨x,e,c⟩:=af h;let⟨a,b,z⟩:=Cq e;⟨x,a,b,z,c⟩
theorem yx{f:Str×List hB->Bool}(h:(v5 p).any f=e6):∃g as np pos,p=.Call (.Name g np) as [] pos/\f (g,as)=e6:=let⟨q,e,c⟩:=af h;let⟨a,b,z⟩:=Lg e;⟨q.1,q.2,a,b,z,c⟩
theorem Tv{f:hB×hB->Bool}(h:(OL p).any f=e6):∃a b pos,p=.Subscript a b pos/\f (a,b)=e6:=let⟨q,e,c⟩:=af h;let⟨x,z⟩:=FH e;⟨q.1,q.2,x,z,c⟩
theorem YB{f:Option hB×Option hB×Option hB->Bool}(h:(Py p).any f=e6):∃a b c pos,p=.Slice a b c pos/\f (a,b,c)=e6:=let⟨q,e,d⟩:=af h;let⟨x,z⟩:=OA e;⟨q.1,q.2.1,q.2.2,x,z,d⟩
theorem WS{f:UnaryOp×hB->Bool}(h:(SJ p).any f=e6):∃o a pos,p=.UnaryOp o a pos/\f (o,a)=e6:=let⟨q,e,b⟩:=af h;let⟨x,z⟩:=OY e;⟨q.1,q.2,x,z,b⟩
theorem S9{f:hB×List CmpOp×List hB->Bool}(h:(Qq p).any f=e6):∃a o b pos,p=.Compare a o b pos/\f (a,o,b)=e6:=let⟨q,e,c⟩:=af h;let⟨x,z⟩:=Lj e;⟨q.1,q.2.1,q.2.2,x,z,c⟩
theorem VQ{f:hB×List Comprehension×hX->Bool}(h:(Rr p).any f=e6):∃a g s pos,p=.ListComp a g s pos/\f (a,g,s)=e6:=let⟨q,e,b⟩:=af h;let⟨x,z⟩:=Na e;⟨q.1,q.2.1,q.2.2,x,z,b⟩
theorem Uu{f:BoolOp×List hB×Pos->Bool}(h:(Qg p).any f=e6):∃o vs pos,p=.BoolOp o vs pos/\f (o,vs,pos)=e6:=let⟨q,e,a⟩:=af h;{q.1,q.2.1,q.2.2,Lc e,a}
mutual
noncomputable def aI(Γ:Pg)(N:List Str)(sc:hX):E->hB->Bool
 |.var i,p=>(j8 p).any λx=>N[i]?==eW x&&kg sc x&&okN x|.JI i,p=>(j8 p).any λx=>N[i]?==eW x&&kg sc x&&okN x|.cst q,p=>(Qr p).any (Qu q)|.glob g p,e=>(j8 e).any λx=>g==x&&gj sc x&&okN x&&Γ.gs.any λq=>q.1==g&&Ed q.2 p|.call f as,p=>(v5 p).any λq=>f==q.1&&Γ.fs.contains q.1&&gj sc q.1&&okN q.1&&g8 as&&dw Γ N sc as q.2|.blt b as,p=>nq Γ ((v5 p).any λq=>bN b==q.1&&gj sc q.1&&Γ.bs.contains q.1&&!isNil as&&dw Γ N sc as q.2)|.ty t a,p=>(v5 p).any λq=>(BL q.2).any λr=>(j8 r.2).any λtn=>q.1==(zu 20:Str)&&gj sc q.1&&Γ.bs.contains q.1&&tn==Str.ofString (yb t)&&gj sc tn&&Γ.bs.contains tn&&aI Γ N sc a r.1|.yT c a,p=>(v5 p).any λq=>(BL q.2).any λr=>(j8 r.2).any λcn=>q.1==(zu 20:Str)&&gj sc q.1&&Γ.bs.contains q.1&&cn==c&&gj sc cn&&okN cn&&(Γ.cs.contains c||(c==(zu 1)&&Γ.bs.contains c))&&aI Γ N sc a r.1
 |.dY m o as,p=>(BP p).any λq=>(Gn q.1).any λr=>q.2.2.1.isEmpty&&(mN m==r.2.1&&!isNil as&&decide (fB as<30)&&r.2.2.endLine==q.2.2.2.line&&aI Γ N sc o r.1&&dw Γ N sc as q.2.1&&dZ r.1)|.bin o a b,p=>(Xu p).any λq=>decide (Tu o=q.2.1)&&aI Γ N sc a q.1&&aI Γ N sc b q.2.2|.cmp o a b,p=>(Qq p).any λq=>(dS q.2.1).any λh=>(dS q.2.2).any λj=>decide (mZ o=h)&&aI Γ N sc a q.1&&aI Γ N sc b j|.ch o1 o2 a b c,p=>(Qq p).any λq=>(BL q.2.1).any λh=>(BL q.2.2).any λj=>decide (mZ o1=h.1)&&decide (mZ o2=h.2)&&aI Γ N sc a q.1&&aI Γ N sc b j.1&&aI Γ N sc c j.2|.not a,p=>(SJ p).any λq=>Kj q.1&&aI Γ N sc a q.2|.neg a,p=>(SJ p).any λq=>isNeg q.1&&aI Γ N sc a q.2|.and a b,p=>(Qg p).any λq=>(S6 q.1 q.2.2 q.2.1).any λr=>uU q.1&&eR b&&aI Γ N sc a r.1&&aI Γ N sc b r.2|.or a b,p=>(Qg p).any λq=>(S6 q.1 q.2.2 q.2.1).any λr=>!uU q.1&&eR b&&aI Γ N sc a r.1&&aI Γ N sc b r.2|.ite c a b,p=>(VE p).any λq=>gk c&&eR a&&eR b&&aI Γ N sc c q.1&&aI Γ N sc a q.2.1&&aI Γ N sc b q.2.2|.tup as,p=>(BH p).any λps=>g8 as&&decide (fB as<1000)&&dw Γ N sc as ps|.lst as,p=>(VS p).any λps=>g8 as&&decide (fB as<1000)&&dw Γ N sc as ps|.sub a b,p=>(OL p).any λq=>aI Γ N sc a q.1&&aI Γ N sc b q.2|.slice a lo w,p=>(OL p).any λq=>(Py q.2).any λr=>r.2.2.isNone&&aI Γ N sc a q.1&&Lh Γ N sc lo r.1&&Lh Γ N sc w r.2.1|.comp k s d it elt,p=>nq Γ ((Rr p).any λq=>(dS q.2.1).any λg=>g.ifs.isEmpty&&(uz N sc q.2.2 k s (aS g.target)&&lI k d&&eR elt&&uw Γ N sc g.target it g.iter&&eK (aS g.target++freeOf q.2.2) (dB q.2.2 sc) (pZ q.2.2) d g.target&&aI Γ.zi (aS g.target++freeOf q.2.2) (dB q.2.2 sc) elt q.1&&decide (g.is_async=0)))|.fH k s d it c elt,p=>nq Γ ((Rr p).any λq=>(dS q.2.1).any λg=>(dS g.ifs).any λy=>gk c&&uz N sc q.2.2 k s (aS g.target)&&lI k d&&eR elt&&uw Γ N sc g.target it g.iter&&eK (aS g.target++freeOf q.2.2) (dB q.2.2 sc) (pZ q.2.2) d g.target&&aI Γ.zi (aS g.target++freeOf q.2.2) (dB q.2.2 sc) c y&&aI Γ.zi (aS g.target++freeOf q.2.2) (dB q.2.2 sc) elt q.1&&decide (g.is_async=0))|.rev a,p=>(OL p).any λq=>(Py q.2).any λr=>(r.2.2).any λst=>(SJ st).any λu=>(Qr u.2).any λc=>r.1.isNone&&r.2.1.isNone&&isNeg u.1&&VI c==eW 1&&aI Γ N sc a q.1|.get a k,p=>(BP p).any λq=>(Gn q.1).any λr=>(dS q.2.1).any λA=>q.2.2.1.isEmpty&&r.2.1==("get":Str)&&r.2.2.endLine==q.2.2.2.line&&Kp r.1&&aI Γ N sc a r.1&&aI Γ N sc k A|.con a,p=>VH a&&aI Γ N sc a p|.Pc,p=>Ic p|.fld i f,p=>(Gn p).any λq=>(j8 q.1).any λx=>q.2.1==f&&(N[i]?==eW x&&kg sc x&&okN x)&&decide (cQ f≠dJ)|.Eh a,p=>nq Γ ((v5 p).any λq=>(dS q.2).any λz=>(v5 z).any λr=>(dS r.2).any λB=>q.1==("list":Str)&&gj sc q.1&&Γ.bs.contains q.1&&r.1==(zu 8:Str)&&gj sc r.1&&Γ.bs.contains r.1&&aI Γ N sc a B)
noncomputable def dw(Γ:Pg)(N:List Str)(sc:hX):Es->List hB->Bool
 |.nil,[]=>e6|.cons e a,p::ps=>aI Γ N sc e p&&dw Γ N sc a ps|_,_=>fx
noncomputable def Lh(Γ:Pg)(N:List Str)(sc:hX):Oe->Option hB->Bool
 |.no,eX=>e6|.some e,eW p=>aI Γ N sc e p|_,_=>fx
noncomputable def uw(Γ:Pg)(N:List Str)(sc:hX)(a:hB):I->hB->Bool
 |.seq e,p=>aI Γ N sc e p|.sX e,p=>(v5 p).any λq=>(dS q.2).any λr=>q.1==("range":Str)&&gj sc q.1&&Γ.bs.contains q.1&&aI Γ N sc e r|.zip as,p=>(v5 p).any λq=>isTup a&&q.1==("zip":Str)&&gj sc q.1&&Γ.bs.contains q.1&&g8 as&&(fB as==2||fB as==3)&&dw Γ N sc as q.2
end
set_option backward.match.sparseCases true
abbrev XE(W:Wd)(c:Str)(b H1:Hp):XK:=λd e f=>∃C a g,d=.ref C/\e=eW a/\c∈W.xs/\W.mg c=eW (.ref C)/\aE W b H1 g f
def ud(X:Cx)(W:Wd)(g:St)(c:Str)(G H:Hp):Prop:=∀(h:kr) (b a:Hp) (d:gC) (e:fP) (f:gC),Inv X h g a d->aE W G H b a->dC X.prog X.w X.stack a d (XE W c b a) e f->X.xe e f
def Out{b:Type}(X:Cx)(W:Wd)(r:Res b)(d:St)(G H:Hp)(k:b->Prop):Prop:=match r with
 |.ok a=>k a|.exc c=>ud X W d c G H|.bad=>False
section
variable{W:Wd}{F:aN}{G1:Hp}{α β:Type}
def ud.grow(h:ud X W σ c G H)(g:aE W G H G1 H1):ud X W σ c G1 H1:=λa G2 b d e f I g2 x=>h a G2 b d e f I (g.trans g2) x
def Out.grow{r:Res α}{k:α->Prop}(h:Out X W r σ G H k)(g:aE W G H G1 H1):Out X W r σ G1 H1 k:=by
 cases r with
 |ok a=>exact h|exc c=>exact ud.grow h g|bad=>exact h
def Out.imp{r:Res α}{k b:α->Prop}(h:Out X W r σ G H k)(i:∀a,k a->b a):Out X W r σ G H b:=by
 cases r with
 |ok a=>exact i a h|exc c=>exact h|bad=>exact h
def Out.bind{r:Res α}{f:α->Res β}{k:β->Prop}(h:Out X W (r.bind f) σ G H k):Out X W r σ G H λa=>Out X W (f a) σ G H k:=by
 cases r with
 |ok a=>exact h|exc c=>exact h|bad=>exact h
def Out.val{r:Res α}{k:α->Prop}(h:Out X W r σ G H k)(n:∀c,r≠.exc c):∃a,r=.ok a/\k a:=by
 cases r with
 |ok a=>exact⟨a,rfl,h⟩|exc c=>exact absurd rfl (n c)|bad=>exact h.elim
structure Got(W:Wd)(H0 G H:Hp)(e:E)(p:PV)(v:V):Prop where
 top:Top W BY G H p v
 rep:eR e=e6->Rep W G p v
def Got.of{e:E}{p:PV}(h:Rep W G p v):Got W H0 G H e p v:={.inl h,λZ=>h}
abbrev tE(X:Cx)(W:Wd)(F:aN)(e:E):TE:=λσ H Q=>∃b G env,SR W b env σ G H/\Out X W (az F e env) σ G H λp=>∀v c a,aE W G H c a->Got W b c a e p v->Q v a
abbrev tT(X:Cx)(W:Wd)(F:aN)(e:E):TT:=λσ H Q=>∃c G env,SR W c env σ G H/\Out X W (az F e env) σ G H λp=>∃b,p=.bl b/\∀d a,aE W G H d a->Q b a
structure KU(W:Wd)(H0 G H:Hp)(es:Es)(ps:List PV)(vs:List V):Prop where
 top:Paired (λv p=>Top W BY G H p v) vs ps
 rep:g8 es=e6->ah W G ps vs
abbrev tA(X:Cx)(W:Wd)(F:aN)(b:Es):TA:=λσ H Q=>∃c G env,SR W c env σ G H/\Out X W (bJ F b env) σ G H λf=>∀d e a,aE W G H e a->KU W c e a b f d->Q d a
abbrev FK(X:Cx)(W:Wd)(F:aN)(o:Oe):TO:=λσ H Q=>∃b G env,SR W b env σ G H/\Out X W (Gq F o env) σ G H λi=>∀c a,aE W G H c a->Q i a
def one{e:E}{f:PV->Res β}{k:β->Prop}(sr:SR W H0 env σ G H)(o:Out X W ((az F e env).bind f) σ G H k)
 (h:∀p v G1 H1,aE W G H G1 H1->Got W H0 G1 H1 e p v->SR W H0 env σ G1 H1->Out X W (f p) σ G1 H1 k->Q v H1):tE X W F e σ H Q:=
 {H0,G,env,sr,o.bind.imp λp a v G1 H1 g t=>h p v G1 H1 g t (sr.grow g) (a.grow g)}
def IM{e:E}{f:Bool->Res β}{k:β->Prop}{Q:Bool->Hp->Prop}(sr:SR W H0 env σ G H)(o:Out X W ((az F e env).bind λp=>yk p f) σ G H k)
 (h:∀b G1 H1,aE W G H G1 H1->SR W H0 env σ G1 H1->Out X W (f b) σ G1 H1 k->Q b H1):tT X W F e σ H Q:=by
 refine{H0,G,env,sr,o.bind.imp λp a=>?_}
 cases p with
 |bl b=>exact{b,rfl,λG1 H1 g=>h b G1 H1 g (sr.grow g) (Out.grow a g)}|aP=>exact d6 a|int _=>exact d6 a|str _=>exact d6 a|tup _=>exact d6 a|lst _=>exact d6 a|exc _=>exact d6 a|obj _=>exact d6 a|cy _ _=>exact d6 a
def args{a:Es}{f:List PV->Res β}{k:β->Prop}{Q:List V->Hp->Prop}(sr:SR W H0 env σ G H)(o:Out X W ((bJ F a env).bind f) σ G H k)
 (h:∀ps vs G1 H1,aE W G H G1 H1->KU W H0 G1 H1 a ps vs->SR W H0 env σ G1 H1->Out X W (f ps) σ G1 H1 k->Q vs H1):tA X W F a σ H Q:=
 {H0,G,env,sr,o.bind.imp λp b v G1 H1 g t=>h p v G1 H1 g t (sr.grow g) (b.grow g)}
def Got.grow{G2 a:Hp}{e:E}{p:PV}(h:Got W H0 G H e p v)(g:aE W G H G2 a):Got W H0 G2 a e p v:={h.top.grow g,λz=>Rep.same g.g p (h.rep z)}
def BZ(W:Wd)(G:Hp):Option (Str×List Nat)->List PV->List V->Prop
 |none,as,vs=>ah W G as vs|some _,_,_=>False
abbrev FA(W:Wd)(F:aN)(f:Str)(n:Nat)(q:Option (Str×List Nat)):Sp:=λb H Q E=>b.length=n/\∃G as,aA G H/\bu W G H/\BZ W G q as b/\(match F f as with
 |.ok p=>∀v d a,aE W G H d a->Rep W d p v->Q v a|.exc c=>∀e g a,XE W c G H e g a->E e g a|.bad=>False)
structure B1(X:Cx)(W:Wd)(F:aN)(k:Nat)(f:Str):Prop where
 ex:∃fa fd ps,fu X.prog X.w X.K X.mg X.base (dC X.prog X.w) k fa fd ps (FA W F f ps.length eX)/\X.mg f=eW (.ref fa)/\PySem.W.keepIn X.K (.ref fa)=e6/\Binds X.K fd ps []/\∀as,F f as≠.bad->as.length=ps.length
structure PH(X:Cx)(W:Wd)(F:aN)(k:Nat)(q:Hs):Prop where
 ex:∃fa fd ps,fu X.prog X.w X.K X.mg X.base (dC X.prog X.w) k fa fd ps (FA W F q.f ps.length (eW (q.g,q.idx)))/\X.mg q.h=eW (.ref fa)/\PySem.W.keepIn X.K (.ref fa)=e6/\Binds X.K fd ps []/\ps.length=q.np
structure fq(Γ:Pg)(F:aN)(W:Wd)(N:List Str)(sc:hX)(k:Nat)(X:Cx):Prop where
 hN:X.N=N
 fX:X.env.scope=sc
 calm:Γ.qt=fx->X.calm=e6
 nd:N.Nodup
 K:W.K=X.K
 mg:W.mg=X.mg
 gs:∀q∈Γ.gs,∃u v,X.mg q.1=eW u/\RelV v u/\∀G,Rep W G q.2 v
 bs:∀g∈Γ.bs,X.mg g=eX
 room:dt (k+1) X.A
 fns:∀f,Γ.fs.contains f=e6->B1 X W F k f
 Nr:Γ.cs.contains (zu 1)=fx
 cls:∀c∈Γ.cs,∃C,X.mg c=eW (.ref C)
 xc:∀d∈W.xs,∀D,X.mg d=eW (.ref D)->nN X.K D/\(∀c∈Γ.cs,∀C,X.mg c=eW (.ref C)->PySem.W.kitOne X.K (.ref D) (.ref C)=eW (c==d||c==(zu 6)))/\PySem.W.kitOne X.K (.ref D) (.type (zu 1))=eW e6
 MG:∀q∈Γ.hs,PH X W F k q
 Wi:∀f,Γ.qs.contains f=e6->2<=k/\B1 X W F 2 f
 any:∀g as,F g as≠.bad->Γ.fs.contains g=e6\/fi g=e6
 fld:∀f q,cQ f≠dJ->F (cQ f) [q]≠.bad->∃n o p,q=.obj n/\W.ob[n]?=eW o/\bA o.c=fx/\o.fs.lookup f=eW p/\F (cQ f) [q]=.ok p/\vX X.K o.C/\cN X.K o.C f
 con:∀q,F dJ [q]≠.bad->∃n o,q=.obj n/\W.ob[n]?=eW o/\bA o.c=e6/\F dJ [q]=.ok (Ax o)
 tb:Γ.hl=e6->∃c P,X.env.code=.ref c/\PySem.W.CodeHd X.base c P/\(P,X.env.qual++(zu 16))∈W.ts/\∀q',(P,q')∈W.ts->q'=X.env.qual++(zu 16)
 bm:Γ.hl=e6->B0 X.mg X.base
 fl:Γ.hl=e6->∀x,X.fn x=e6
variable{Γ:Pg}{sc:hX}{k:Nat}
def yc(C:zv4 X)(h:kg sc x=e6):P0 X.env.scope x:=by
 rw [C.fX];unfold kg je at h;simp! [ej,zzy] at h;rcases h with(h|h)|h
 .exact .inl h
 .exact .inr (.inl h)
 .exact .inr (.inr h)
def dm(C:zv4 X){x:Str}(h:gj sc x=e6):Gl X x:=by show X.env.scope.names.lookup x=_;rw [C.fX];exact zzy.mp h
def eE(h:okN x=e6):(x==(zu 23:Str))=fx/\(x==("__classdict__":Str))=fx/\x≠(zu 40):=by unfold okN at h;simp! [zza,Bool.not_eq_true',beq_eq_false_iff_ne] at h;exact{beq_eq_false_iff_ne.mpr h.1.1,beq_eq_false_iff_ne.mpr h.1.2,h.2}
noncomputable abbrev GE(X:Cx)(W:Wd)(F:aN)(e:E)(p:hB):Prop:=PE X p (tE X W F e)
noncomputable abbrev GT(X:Cx)(W:Wd)(F:aN)(e:E)(p:hB):Prop:=PT X p (tT X W F e)
noncomputable abbrev GW(X:Cx)(W:Wd)(F:aN)(e:E)(p:hB):Prop:=PW X p (tT X W F e)
def _root_.L2.PE.imp{t t':TE}(h:PE X p t)(i:∀σ H Q,t' σ H Q->t σ H Q):PE X p t':=λa s σ H Q I b=>h a s σ H Q I (i σ H Q b)
def _root_.L2.PT.imp{t t':TT}(h:PT X p t)(i:∀σ H Q,t' σ H Q->t σ H Q):PT X p t':=λa s σ H Q I b=>h a s σ H Q I (i σ H Q b)
def _root_.L2.PW.imp{t t':TT}(h:PW X p t)(i:∀σ H Q,t' σ H Q->t σ H Q):PW X p t':=λw a s σ H Q I b=>h w a s σ H Q I (i σ H Q b)
def _root_.L2.PA.imp{p:List hB}{t t':TA}(h:PA X p t)(i:∀σ H Q,t' σ H Q->t σ H Q):PA X p t':=λa b s σ H Q I c=>h a b s σ H Q I (i σ H Q c)
def KG{e:E}(σ:St)(H:Hp)(Q:Bool->Hp->Prop)(h:tT X W F e σ H Q):tB (tE X W F e) σ H Q:=by let(a,G,env,sr,o):=h;refine{a,G,env,sr,o.imp λp c v d f g t=>?_};let(b,rfl,q):=c;exact{b,t.top.bl,q d f g}
def vP{e:E}(σ:St)(H:Hp)(Q:Bool->Hp->Prop)(h:tT X W F e σ H Q):FL (tE X W F e) σ H Q:=KG σ H Q h
def HA{i:Nat}(hn:X.N[i]?=eW x)(a:P0 X.env.scope x)(h:okN x=e6):GE X W F (.var i) (.Name x pos):=by
 let(b,c,g):=eE h;refine(ma (i:=i) hn a b c).imp λσ H Q d=>?_;let(j,G,env,sr,o):=d;replace o:Out X W (mO env[i]?) σ G H _:=o
 cases e:env[i]? with
 |none=>rw [e] at o;exact o.elim|some f=>
  cases f with
  |no=>rw [e] at o;exact o.elim|own p=>rw [e] at o;exact o.elim|val p=>rw [e] at o;let(o2,hs,v,rfl,r):=sr.slot i _ e;exact{v,hs,o v G H (.refl sr.sub) (.of r)}
def Dm(C:zv4 X){i:Nat}(h:(N[i]?==eW x&&kg sc x&&okN x)=e6):GE X W F (.var i) (.Name x pos):=by simp! [zza,zzy] at h;exact HA (by rw [C.hN];exact h.1.1) (yc C h.1.2) h.2
def Mh(C:zv4 X){i:Nat}(h:(N[i]?==eW x&&kg sc x&&okN x)=e6):GE X W F (.JI i) (.Name x pos):=by
 simp! [zza,zzy] at h;let(a,b,f):=eE h.2;refine(ma (i:=i) (by rw [C.hN];exact h.1.1) (yc C h.1.2) a b).imp λσ H Q c=>?_;let(g,G,env,sr,o):=c;replace o:Out X W (zH env[i]?) σ G H _:=o
 cases e:env[i]? with
 |none=>rw [e] at o;exact o.elim|some d=>
  cases d with
  |no=>rw [e] at o;exact o.elim|own p=>rw [e] at o;let(o2,hs,v,rfl,r):=sr.slot i _ e;exact{v,hs,o v G H (.refl sr.sub) {.inr r.any,nofun}}|val p=>rw [e] at o;let(o2,hs,v,rfl,r):=sr.slot i _ e;exact{v,hs,o v G H (.refl sr.sub) (.of r)}
def iy{p:PV}(h:PE X e (tC v))(r:∀G,Rep W G p v):GE X W F (.cst p) e:=by refine L2.PE.imp h λσ H Q a=>?_;let(b,G,env,sr,o):=a;exact o v G H (.refl sr.sub) (.of (r G))
def Hy(C:zv4 X){g:Str}{p:PV}(h:(g==x&&gj sc x&&okN x&&Γ.gs.any λq=>q.1==g&&Ed q.2 p)=e6):GE X W F (.glob g p) (.Name x pos):=by simp! [zza,zzy,d4] at h;let(((rfl,b),c),q,a,d,e):=h;let(u,v,hm,rv,f):=C.gs q a;rw [d] at hm;cases Ee e;refine(zv (dm C b) hm rv (eE c).1).imp λσ H Q a=>?_;let(i,G,env,sr,o):=a;exact o v G H (.refl sr.sub) (.of (f G))
def Res.aK{α:Type}{o:Option α}(c:Str):Res.of o≠.exc c:=by cases o<;>exact nofun
def pI{α β:Type}{o:Option α}{f:α->Res β}(h:∀a,f a≠.exc c):(Res.of o).bind f≠.exc c:=by
 cases o with
 |none=>exact nofun|some a=>exact h a
def p5{o:KN}{p:PV}(c:Str):binOp o p q≠.exc c:=by
 unfold binOp
 repeat' split
 all_goals exact nofun
local macro_rules|`(tactic|ac_rfl)=>`(tactic|repeat' first|split|refine pI fun _=>?_|exact Res.aK _|exact nofun)
def IC{p:PV}(c:Str):gO p q≠.exc c:=by
 unfold gO
 ac_rfl
def IJ{p:PV}(c:Str):iF p q≠.exc c:=by
 unfold iF
 ac_rfl
def II{p:PV}(c:Str):vo p q≠.exc c:=by
 unfold vo
 ac_rfl
def IH{p:PV}(c:Str):vn p q≠.exc c:=by
 unfold vn
 ac_rfl
def IE{p:PV}(c:Str):xx p q≠.exc c:=by
 unfold xx
 ac_rfl
def ID{p:PV}(c:Str):xw p q≠.exc c:=by
 unfold xw
 ac_rfl
def IG{p:PV}(c:Str):EJ p q≠.exc c:=by
 unfold EJ
 ac_rfl
def IF{p:PV}(c:Str):pY p q≠.exc c:=by
 unfold pY
 ac_rfl
def EG{p:PV}(c:Str):oP p q≠.exc c:=by
 unfold oP
 ac_rfl
def EF{p:PV}(c:Str):qU p q≠.exc c:=by
 unfold qU
 ac_rfl
def cV{o:tV}{p:PV}(c:Str):cG o p q≠.exc c:=match o with
 |.eq=>IC c|.ne=>IJ c|.lt=>II c|.le=>IH c|.gt=>IE c|.ge=>ID c|.is=>IG c|.Gx=>IF c|.Ey=>EG c|.Kl=>EF c
def two{a:PV->PV->Res PV}{b d:E}{e:E}(hn:∀p q c,a p q≠.exc c)(he:∀env,az F e env=(az F b env).bind λx=>(az F d env).bind λy=>a x y)
 (h:tE X W F e σ H Q):PB (t7 W a) (tE X W F b) (tE X W F d) σ H Q:=by
 let(B,G,env,sr,o):=h;rw [he] at o;refine one sr o λp v G1 H1 g1 f g o1=>one g o1 λq u G2 C g2 t2 i o2=>?_;let(r,j,m):=o2.val (hn p q);exact{BY,G2,p,q,r,i.sub,f.top.grow g2,t2.top,j,λw s t z A=>m w s t ((g1.trans g2).trans z) (.of A)}
def Hw(hK:W.K=X.K){o:KN}{a b:E}(f:GE X W F a d)(g:GE X W F b e):GE X W F (.bin o a b) (.BinOp d (Tu o) e pos):=
 (RV (Nx hK o) f g).imp λσ H Q h=>two (λp q c=>p5 c) (λenv=>by rw [az]) h
def L4(C:zv4 X){o:KN}{a b:E}{c:hB}(e:GE X W F a c)(f:GE X W F b d):GE X W F (.bin o a b) (.BinOp c (Tu o) d pos):=Hw C.K e f
def L6(C:zv4 X){o:tV}{a b:E}(f:GE X W F a e)(g:GE X W F b d)(hm:behindInMarks (mZ o) d=fx):GE X W F (.cmp o a b) (.Compare e [mZ o] [d] pos):=
 (zr (gP C.K C.room.units o) f g hm).imp λσ H Q h=>two (λp q c=>cV c) (λenv=>by rw [az]) h
theorem Mw(C:zv4 X){o:tV}{a b:E}(f:GE X W F a e)(g:GE X W F b d)(hm:behindInMarks (mZ o) d=fx):GT X W F (.cmp o a b) (.Compare e [mZ o] [d] pos):=
 (zx (gP C.K C.room.units o) f g hm).imp λσ H Q h=>by have i:=vP σ H Q h;exact two (λp q c=>cV c) (λenv=>by rw [az]) i
def J6{c1 f:tV}{a b c:E}(σ:St)(H:Hp)(Q:VK)(h:tE X W F (.ch c1 f a b c) σ H Q):xZ (t7 W (cG c1)) (t7 W (cG f)) (tE X W F a) (tE X W F b) (tE X W F c) σ H Q:=by
 let(Z,G,env,sr,o):=h;rw [az] at o;refine one sr o λp v G1 H1 g1 D I o1=>one I o1 λq u G2 s g2 t2 A o2=>?_;let(r,K,d):=o2.bind.val (cV);refine{BY,G2,p,q,r,A.sub,D.top.grow g2,t2.top,K,λw L M e B=>?_}
 cases r with
 |bl t=>
  simp! [Rep] at B;subst B;refine{t,rfl,?_};cases t with
  |false=>rw [if_neg zzf];have g:Out X W (Res.ok (PV.bl fx)) σ G2 s _:=d;exact g _ L M ((g1.trans g2).trans e) (.of .b)|true=>rw [if_pos rfl];have g:Out X W ((az F c env).bind λz=>cG f q z) σ G2 s _:=d;refine one (A.grow e) (g.grow e) λz y O H4 C P R S=>?_;let(T,i,j):=S.val (cV);exact{BY,O,q,z,T,R.sub,t2.top.grow (e.trans C),P.top,i,λw U V Y m=>j w U V ((((g1.trans g2).trans e).trans C).trans Y) (.of m)}
 |aP=>exact d6 d|int _=>exact d6 d|str _=>exact d6 d|tup _=>exact d6 d|lst _=>exact d6 d|exc _=>exact d6 d|obj _=>exact d6 d|cy _ _=>exact d6 d
def QB(C:zv4 X){o1 o2:tV}{a b c:E}{f:hB}(g:GE X W F a f)(h:GE X W F b d)(i:GE X W F c e)(hm:lastMarks [mZ o1,mZ o2] [d,e]=fx):GE X W F (.ch o1 o2 a b c) (.Compare f [mZ o1,mZ o2] [d,e] pos):=
 (EN (gP C.K C.room.units o1) (gP C.K C.room.units o2) g h i hm).imp J6
def QE(C:zv4 X){o1 o2:tV}{a b c:E}{f:hB}(g:GE X W F a f)(i:GE X W F b d)(j:GE X W F c e)(hm:lastMarks [mZ o1,mZ o2] [d,e]=fx):GT X W F (.ch o1 o2 a b c) (.Compare f [mZ o1,mZ o2] [d,e] pos):=
 (Fg (gP C.K C.room.units o1) (gP C.K C.room.units o2) g i j hm).imp λσ H Q h=>J6 σ H _ (vP σ H Q h)
theorem Dk{a:E}{b:hB}(c:GE X W F a b):GE X W F (.neg a) (.UnaryOp .USub b pos):=
 (RX (JO (W:=W)) c).imp λσ H Q h=>by
  let(q,G,env,sr,o):=h;rw [az] at o;refine one sr o λp v G1 H1 g1 d e o1=>?_
  cases p with
  |int i=>exact{BY,G1,i,e.sub,d.top,λw f g j m=>o1 w f g (g1.trans j) (.of m)}|bl _=>exact d6 o1|aP=>exact d6 o1|str _=>exact d6 o1|tup _=>exact d6 o1|lst _=>exact d6 o1|exc _=>exact d6 o1|obj _=>exact d6 o1|cy _ _=>exact d6 o1
theorem Me{a:E}{c:hB}(d:GE X W F a c):GE X W F (.not a) (.UnaryOp .Not c pos):=
 (NW d).imp λσ H Q h=>by
  let(f,G,env,sr,o):=h;rw [az] at o;refine one sr o λp v G1 H1 g1 e g o1=>?_
  cases p with
  |bl b=>exact{b,e.top.bl,o1 _ G1 H1 g1 (.of .b)}|int _=>exact d6 o1|aP=>exact d6 o1|str _=>exact d6 o1|tup _=>exact d6 o1|lst _=>exact d6 o1|exc _=>exact d6 o1|obj _=>exact d6 o1|cy _ _=>exact d6 o1
theorem Mx{a:E}{c:hB}(d:GT X W F a c):GT X W F (.not a) (.UnaryOp .Not c pos):=
 (N6 d).imp λσ H Q h=>by let(f,G,env,sr,o):=h;rw [az] at o;refine IM sr o λb G1 H1 g1 g o1=>?_;let(i,e,q):=o1;cases e;exact q G1 H1 g1
theorem Di{a b:E}{r:List hB}(he:eR b=e6)(f:GE X W F a d)(g:GE X W F b (.BoolOp .And (e::r) pos)):GE X W F (.and a b) (.BoolOp .And (d::e::r) pos):=
 (NQ f g).imp λσ H Q h=>by
  let(i,G,env,sr,o):=h;rw [az] at o;refine one sr o λp v G1 H1 g1 j m o1=>?_
  cases p with
  |bl t=>
   refine{t,j.top.bl,?_};cases t with
   |true=>rw [if_pos rfl];have c:Out X W (az F b env) σ G1 H1 _:=o1;exact{i,G1,env,m,c.imp λp q v s u w y=>q v s u (g1.trans w) (.of (y.rep he))}|false=>rw [if_neg zzf];have c:Out X W (Res.ok (PV.bl fx)) σ G1 H1 _:=o1;exact c _ G1 H1 g1 (.of .b)
  |int _=>exact d6 o1|aP=>exact d6 o1|str _=>exact d6 o1|tup _=>exact d6 o1|lst _=>exact d6 o1|exc _=>exact d6 o1|obj _=>exact d6 o1|cy _ _=>exact d6 o1
theorem Kd{a b:E}{r:List hB}(he:eR b=e6)(f:GE X W F a d)(g:GE X W F b (.BoolOp .Or (e::r) pos)):GE X W F (.or a b) (.BoolOp .Or (d::e::r) pos):=
 (RW f g).imp λσ H Q h=>by
  let(i,G,env,sr,o):=h;rw [az] at o;refine one sr o λp v G1 H1 g1 j m o1=>?_
  cases p with
  |bl t=>
   refine{t,j.top.bl,?_};cases t with
   |false=>rw [if_neg zzf];have c:Out X W (az F b env) σ G1 H1 _:=o1;exact{i,G1,env,m,c.imp λp q v s u w y=>q v s u (g1.trans w) (.of (y.rep he))}|true=>rw [if_pos rfl];have c:Out X W (Res.ok (PV.bl e6)) σ G1 H1 _:=o1;exact c _ G1 H1 g1 (.of .b)
  |int _=>exact d6 o1|aP=>exact d6 o1|str _=>exact d6 o1|tup _=>exact d6 o1|lst _=>exact d6 o1|exc _=>exact d6 o1|obj _=>exact d6 o1|cy _ _=>exact d6 o1
theorem Dy{a b:E}{f:hB}{r:List hB}(g:GT X W F a d)(i:GW X W F b (.BoolOp .And (f::r) pos)):GW X W F (.and a b) (.BoolOp .And (d::f::r) pos):=
 (pw_and g i).imp λσ H Q h=>by
  let(j,G,env,sr,o):=h;rw [az] at o;refine IM sr o λt G1 H1 g1 m o1=>?_
  cases t with
  |true=>rw [if_pos rfl];have s:Out X W (az F b env) σ G1 H1 _:=o1;exact{j,G1,env,m,s.imp λp u=>by let(c,rfl,q):=u;exact{c,rfl,λw y z=>q w y (g1.trans z)}}|false=>rw [if_neg zzf];let(c,e,q):=(show Out X W (Res.ok (PV.bl fx)) σ G1 H1 _ from o1);cases e;exact q G1 H1 g1
theorem Kf{a b:E}{f:hB}{r:List hB}(g:GT X W F a d)(i:GW X W F b (.BoolOp .Or (f::r) pos)):GW X W F (.or a b) (.BoolOp .Or (d::f::r) pos):=
 (pw_or g i).imp λσ H Q h=>by
  let(j,G,env,sr,o):=h;rw [az] at o;refine IM sr o λt G1 H1 g1 m o1=>?_
  cases t with
  |false=>rw [if_neg zzf];have s:Out X W (az F b env) σ G1 H1 _:=o1;exact{j,G1,env,m,s.imp λp u=>by let(c,rfl,q):=u;exact{c,rfl,λw y z=>q w y (g1.trans z)}}|true=>rw [if_pos rfl];let(c,e,q):=(show Out X W (Res.ok (PV.bl e6)) σ G1 H1 _ from o1);cases e;exact q G1 H1 g1
theorem Mc{c a b:E}{m q r:hB}(w:eR a=e6)(y:eR b=e6)(z:GT X W F c m)(A:GE X W F a q)(B:GE X W F b r):GE X W F (.ite c a b) (.IfExp m q r pos):=
 (vx z A B).imp λσ H Q h=>by
  let(s,G,env,sr,o):=h;rw [az] at o;refine IM sr o λt G1 H1 g1 u o1=>?_
  cases t with
  |true=>rw [if_pos rfl];have d:Out X W (az F a env) σ G1 H1 _:=o1;exact{s,G1,env,u,d.imp λp e v f g i j=>e v f g (g1.trans i) (.of (j.rep w))}|false=>rw [if_neg zzf];have d:Out X W (az F b env) σ G1 H1 _:=o1;exact{s,G1,env,u,d.imp λp e v f g i j=>e v f g (g1.trans i) (.of (j.rep y))}
abbrev tF(X:Cx)(W:Wd)(F:aN)(e:E):TE:=λσ H Q=>∃f G env,SR W f env σ G H/\Out X W (az F e env) σ G H λp=>∃xs,p=.lst xs/\∀a c d b,aE W G H d b->b a=eX->ah W d xs c->Q (.ref a) (upd b a (.lst c))
noncomputable abbrev GF(X:Cx)(W:Wd)(F:aN)(e:E)(p:hB):Prop:=PE X p (tF X W F e)
theorem GF.ge{e:E}(h:GF X W F e p)(hl:∀env q,az F e env=.ok q->∃xs,q=.lst xs):GE X W F e p:=
 L2.PE.imp h λσ H Q d=>by
  let(f,G,env,sr,o):=d
  refine{f,G,env,sr,?_};cases r:az F e env with
  |bad=>rw [r] at o;exact o|exc c=>rw [r] at o;exact o|ok q=>rw [r] at o;let(xs,rfl):=hl env q r;exact{xs,rfl,λa i j m g b l=>o _ _ _ (g.trans (.new g.sub b)) (.of (.l (.inl (.inl aq)) (ah.same (bo (g.sub.free b)) xs l)))}
set_option tactic.hygienic true in
def notStar{e:E}(h:aI Γ N sc e p=e6):∀env ps,starEach (p::ps) env=(fx,eval p env)::starEach ps env:=by
 intro env ps;cases p<;>first|rfl|(cases e<;>first|(exact aO h)|(rename_i q;cases q<;>exact aO h))
theorem cI:∀{a:Es} {ps:List hB},dw Γ N sc a ps=e6->∀env pos,(backTo pos (starEach ps env)).any (·.1)=fx
 |.nil,[],_,_,_=>rfl|.cons e a,p::ps,h,env,pos=>by replace h:=aj h;rw [notStar h.1];show(fx||(backTo pos (starEach ps env)).any (·.1))=fx;rw [cI h.2];rfl
 |.nil,_::_,h,_,_=>aO h|.cons _ _,[],h,_,_=>aO h
noncomputable abbrev GA(X:Cx)(W:Wd)(F:aN)(a:Es)(ps:List hB):Prop:=PA X ps (tA X W F a)
theorem L3:GA X W F .nil []:=L2.PA.imp dA λσ H Q h=>by let(a,G,env,sr,o):=h;rw [bJ] at o;exact o [] G H (.refl sr.sub) {.nil,λZ=>.nil}
theorem Hv{e:E}{a:Es}{ps:List hB}(he:GE X W F e p)(hs:GA X W F a ps)(c:starEach (p::ps) X.env=(fx,eval p X.env)::starEach ps X.env):GA X W F (.cons e a) (p::ps):=
 L2.PA.imp (bQ he hs c) λσ H Q h=>by let(j,G,env,sr,o):=h;rw [bJ] at o;refine one sr o λq v G1 H1 g1 b d o1=>args d o1 λqs f G2 i g2 t2 m o2=>?_;refine o2 (v::f) G2 i (g1.trans g2) {.cons (b.top.grow g2) t2.top,λz=>?_};unfold g8 at z;rw [zza] at z;exact .cons (Rep.same g2.g q (b.rep z.1)) (t2.rep z.2)
theorem kP:∀{a:Es} {env:Sl} {ps:List PV},bJ F a env=.ok ps->ps.length=fB a
 |.nil,env,ps,h=>by rw [bJ] at h;cases h;rfl
 |.cons e a,env,ps,h=>by rw [bJ] at h;let(p,_,h):=Res.aJ h;let(qs,b,h):=Res.aJ h;cases h;rw [bV,kP b];rfl
theorem Mi{a:Es}{ps:List hB}{x1:Nat}(e:g8 a=e6)(hl:fB a<1000)(h:GA X W F a ps):GE X W F (.tup a) (.Tuple ps x1 pos):=
 L2.PE.imp (EZ h) λσ H Q f=>by
  let(g,G,env,sr,o):=f;rw [az] at o;have i:=o
  refine{g,G,env,sr,?_};cases r:bJ F a env with
  |bad=>rw [r] at o;exact o|exc c=>rw [r] at o;exact o|ok qs=>rw [r] at o;have b:=kP r;intro j G1 H1 g1 t;have l:=t.rep e;refine{by rw [l.length,b];exact Nat.le_of_lt (Nat.lt_trans hl ↑2),λp d=>?_};exact o _ _ _ (g1.trans (.new g1.sub d)) (.of (.t (.inl aq) (ah.same (bo (g1.sub.free d)) qs l)))
theorem Dq{a:Es}{ps:List hB}(d:g8 a=e6)(hl:fB a<1000)(h:GA X W F a ps):GF X W F (.lst a) (.List ps pos):=
 L2.PE.imp (EU h) λσ H Q f=>by
  let(g,G,env,sr,o):=f
  rw [az] at o;refine{g,G,env,sr,?_};cases r:bJ F a env with
  |bad=>rw [r] at o;exact o|exc c=>rw [r] at o;exact o|ok qs=>rw [r] at o;have b:=kP r;let(xs,e,o):=o;cases e;intro i G1 H1 g1 t;have l:=t.rep d;exact{by rw [l.length,b];exact Nat.le_of_lt (Nat.lt_trans hl ↑2),λp j=>o p i G1 H1 g1 j l}
theorem lst_is{a:Es}:∀env q,az F (.lst a) env=.ok q->∃xs,q=.lst xs:=λenv q h=>by rw [az] at h;let(b,_,h):=Res.aJ h;cases h;exact{_,rfl}
def Bg{p:PV}(c:Str):ay p q≠.exc c:=by
 unfold ay
 ac_rfl
def Mg(C:zv4 X){a b:E}(f:GE X W F a e)(g:GE X W F b d)(hs:rj d):GE X W F (.sub a b) (.Subscript e d pos):=
 (RU (VN C.K C.room.units) f g hs).imp λσ H Q h=>two (λp q c=>Bg c) (λenv=>by rw [az]) h
set_option tactic.hygienic true in
def E5{e:E}(h:aI Γ N sc e p=e6):rj p:=by
 intro o i;cases p<;>first|rfl|(cases e<;>first|(exact aO h)|(rename_i q;cases q<;>exact aO h))
set_option tactic.hygienic true in
def sC{e:E}(h:aI Γ N sc e p=e6)(a:CmpOp):behindInMarks a p=fx:=by
 cases p<;>first|rfl|(cases e<;>first|(exact aO h)|(rename_i q;cases q<;>exact aO h))
theorem HC:PO X eX (FK X W F .no):=λa s σ H Q I h=>Jg a s σ H Q I (by let(b,G,env,sr,o):=h;rw [Gq] at o;exact o G H (.refl sr.sub))
theorem HD{e:E}(h:GE X W F e p):PO X (eW p) (FK X W F (.some e)):=λa s σ H Q I b=>Jh h a s σ H Q I (by
 let(d,G,env,sr,o):=b;rw [Gq] at o;refine one sr o λq v G1 H1 g1 c f o1=>?_
 cases q with
 |int i=>exact{i,c.top.int,o1 G1 H1 g1}|bl _=>exact d6 o1|aP=>exact d6 o1|str _=>exact d6 o1|tup _=>exact d6 o1|lst _=>exact d6 o1|exc _=>exact d6 o1|obj _=>exact d6 o1|cy _ _=>exact d6 o1)
def vg{p:PV}{a b:Option Int}(c:Str):d5 p a b≠.exc c:=by
 unfold d5
 ac_rfl
theorem Dl(C:zv4 X){a:E}{e f:Oe}{g:hB}{i j:Option hB}{q:Pos}(s:GE X W F a g)(hl:PO X i (FK X W F e))(t:PO X j (FK X W F f)):GE X W F (.slice a e f) (.Subscript g (.Slice i j eX q) pos):=
 (EX (Ww C.K) s hl t).imp λσ H Q h=>by let(m,G,env,sr,o):=h;rw [az] at o;refine one sr o λp v G1 H1 g1 u d o1=>?_;refine{m,G1,env,d,o1.bind.imp λl y G2 P g2=>?_};refine{m,G2,env,d.grow g2,(y.grow g2).bind.imp λR z A S b=>?_};let(r,B,D):=(z.grow b).val (λc=>vg c);exact{BY,A,p,r,((d.grow g2).grow b).sub,u.top.grow (g2.trans b),B,λw I L M O=>D w I L (((g1.trans g2).trans b).trans M) (.of O)}
def zF{CX:zX}{f:g5}{fd:FuncData}{ps:List Str}{sp:Sp}{E:XK}{s:gC}(b:fu X.prog X.w X.K X.mg X.base CX k f fd ps sp)(d:dt k X.A)(g:Binds X.K fd ps [])
 (i:∀e s',CX X.stack H s E e s'->X.xe e s') (I:zv1 s) (r:Vals vs us) (h:sp vs H Q E):zx7 X (call (.ref f) us) (EP X aa σ Q) X.xe s:=by
 have hl:us.length=ps.length:=by rw [<-r.length];exact b.len _ _ _ _ h
 have c:=g s us I.j2 (by rw [eA];exact hl);rw [eA] at c;refine wpAny_call (codeAny_mono (b.run X.A X.stack s H {us,[]} us vs Q E d I.uJ c r h) λr s' a=>?_)
 cases r with
 |error e=>exact i e s' a|ok fl=>
  cases fl with
  |ret u=>exact I.after a|next=>exact d6 a|brk=>exact d6 a|cont=>exact d6 a
def GN.imp{P:hF}{w:hG}{s s':gC}{E c:XK}{e:fP}(h:dC P w outer H s E e s')(i:∀C a b,E C a b->c C a b):dC P w outer H s c e s':=by let(a,C,t,d,b,B,rfl,F):=h;exact{a,C,t,d,b,B,rfl,{F.os,F.bare,F.aM,F.C6,F.tn,F.tup,F.ff,F.c9,F.un,i _ _ _ F.ends}}
def kF(C:dt k X.A){i:g5}{fd:FuncData}{pn:List Str}{q:Option (Str×List Nat)}{s:gC}{as:List PV}
 (D:fu X.prog X.w X.K X.mg X.base (dC X.prog X.w) k i fd pn (FA W F f pn.length q)) (L:Binds X.K fd pn []) (d:F f as≠.bad->vs.length=pn.length)
 (I:zv1 s) (j:aA G H) (tb:bu W G H) (l:BZ W G q as vs) (r:Vals vs us) (o:Out X W (F f as) σ G H λp=>d7 W G H p Q):zx7 X (call (.ref i) us) (EP X aa σ Q) X.xe s:=by
 have h:F f as≠.bad:=λz=>by rw [z] at o;exact o
 refine zF (E:=λm u b=>∃c,F f as=.exc c/\XE W c G H m u b) D C L (λe M x=>?_) I r {d h,G,as,j,tb,l,?_}
 .cases z:F f as with
  |ok q=>let(a,S,t,vs,b,B,rfl,Fl):=x;let(c,g,_):=Fl.ends;rw [z] at g;cases g
  |exc c=>rw [z] at o;refine o aa G H s e M I (.refl j) (GN.imp x λT a b y=>?_);let(U,g,y):=y;rw [z] at g;cases g;exact y
  |bad=>exact absurd z h
 .cases z:F f as with
  |ok q=>rw [z] at o;exact λv O b P R=>o v O b P R|exc c=>exact λm u b x=>⟨c,rfl,x⟩|bad=>exact absurd z h
def fq.rm(C:zv4 X):dt k X.A:=C.room.mono (Nat.le_succ k)
def Hx(C:zv4 X){e:E}{b:Es}{ps:List hB}(i:Γ.fs.contains f=e6)(j:gj sc f=e6)(m:okN f=e6)(u:g8 (.cons e b)=e6)(w:GA X W F (.cons e b) (p::ps))
 (y:starEach (p::ps) X.env=(fx,eval p X.env)::starEach ps X.env) (hpl:(backTo pos (starEach ps X.env)).any (·.1)=fx):GE X W F (.call f (.cons e b)) (.Call (.Name f np) (p::ps) [] pos):=by
 intro A s σ H Q I h;let(S,G,env,sr,o):=h;rw [az] at o;let(T,fd,pn,B,hm,hk,D,a):=(C.fns f i).ex;refine wpAny_Call_Name_kw (dX I (dm C j) hm ?_ (eE m).1);refine PySem.W.callWith_K (h₀:=X.base) I.ok.mod.Ii hk (bL (w pos A s σ H (λc H1=>∃G1 as,aA G1 H1/\bu W G1 H1/\ah W G1 as c/\Out X W (F f as) σ G1 H1 λp=>d7 W G1 H1 p Q) I ?_) λU V ⟨c,H1,d,r,q⟩=>{d.j2,?_}) y hpl
 .refine args sr o λas c G1 H1 g1 t g o1=>{G1,as,g.sub,g.tab,t.rep u,o1.imp λp K v L M O P=>K v L M (g1.trans O) (.of P)}
 .let(G1,as,R,tb,l,o1):=q;exact kF C.rm B D (λz=>by rw [l.length];exact a as z) d R tb l r o1
def Dj(C:zv4 X)(d:Γ.fs.contains f=e6)(e:gj sc f=e6)(g:okN f=e6):GE X W F (.call f .nil) (.Call (.Name f np) [] [] pos):=by intro y s σ H Q I h;let(i,G,env,sr,o):=h;rw [az,bJ] at o;let(A,fd,pn,j,hm,hk,m,a):=(C.fns f d).ex;refine wpAny_Call_Name_kw (dX I (dm C e) hm ?_ (eE g).1);refine PySem.W.callWith_K0 I.j2 hk ?_;have r:Out X W (F f []) σ G H λp=>∀v c b,aE W G H c b->Got W i c b (.call f .nil) p v->Q v b:=o;exact kF (us:=[]) (vs:=[]) (as:=[]) (q:=eX) C.rm j m (λz=>a [] z) I sr.sub sr.tab (show ah W G [] [] from .nil) .nil (r.imp λp t v c b u w=>t v c b u (.of w))
def Iy(c:Str):wz ps≠.exc c:=by
 unfold wz
 ac_rfl
def Iz(c:Str):Cd ps≠.exc c:=by
 unfold Cd
 ac_rfl
def IA(c:Str):Ce ps≠.exc c:=by
 unfold Ce
 ac_rfl
def IB(c:Str):Cf ps≠.exc c:=by
 unfold Cf
 ac_rfl
def Bh(c:Str):nT ps≠.exc c:=by
 unfold nT
 ac_rfl
def Iw(c:Str):Cb ps≠.exc c:=by
 unfold Cb
 ac_rfl
def xr(c:Str):kC ps≠.exc c:=by
 unfold kC
 ac_rfl
def xt(c:Str):kW ps≠.exc c:=by
 unfold kW
 ac_rfl
def Bi(c:Str):oH ps≠.exc c:=by
 unfold oH
 ac_rfl
def EE(c:Str):u5 ps≠.exc c:=by
 unfold u5
 ac_rfl
def Be{b:B}(c:Str):dv b ps≠.exc c:=match b with
 |.len=>Iy c|.max2=>Iz c|.min2=>IA c|.str=>IB c|.tuple=>Bh c|.all=>Iw c|.sorted=>xr c
def Bf{m:M}(c:Str):ze m ps≠.exc c:=match m with
 |.jz=>xt c|.index=>Bi c|.join=>EE c
def NR(C:zv4 X)(g:Γ.qt=fx)(b:B){f:List hB}{t:TA}(h:gj sc (bN b)=e6)(hm:Γ.bs.contains (bN b)=e6)(a:PA X (e::f) t)
 (he:starEach (e::f) X.env=(fx,eval e X.env)::starEach f X.env) (hpl:(backTo pos (starEach f X.env)).any (·.1)=fx):PE X (.Call (.Name (bN b) np) (e::f) [] pos) (Tz (Gi W (dv b)) t):=by
 have c:=C.bs _ (d9.mp hm);have d:=dm C h;cases b
 case len=>exact eF (Ah C.K) d c PySem.boot_len a (he:=he) (hpl:=hpl)
 case max2=>exact eF (Aj (C.calm g)) d c ↑1 a (he:=he) (hpl:=hpl)
 case min2=>exact eF (Al (C.calm g)) d c ↑1 a (he:=he) (hpl:=hpl)
 case str=>exact i5 Am d c ↑1 a (he:=he) (hpl:=hpl)
 case tuple=>exact i5 (uu C.K) d c ↑1 a (he:=he) (hpl:=hpl)
 case all=>exact eF (Ae (C.calm g) C.K) d c ↑1 a (he:=he) (hpl:=hpl)
 case sorted=>exact eF (rE C.K (C.calm g)) d c ↑1 a (he:=he) (hpl:=hpl)
def Le{a:List PV->Res PV}{b:Es}{e:E}(hn:∀ps c,a ps≠.exc c)(he:∀env,az F e env=(bJ F b env).bind λps=>a ps)(h:tE X W F e σ H Q):Tz (Gi W a) (tA X W F b) σ H Q:=by let(q,G,env,sr,o):=h;rw [he] at o;refine args sr o λps s G1 H1 g1 t d o1=>?_;let(r,f,g):=o1.val (hn ps);exact{BY,G1,ps,r,d.sub,t.top,f,λw i j m p=>g w i j (g1.trans m) (.of p)}
def L5(C:zv4 X)(d:Γ.qt=fx)(b:B){a:Es}{ps:List hB}(f:gj sc (bN b)=e6)(hm:Γ.bs.contains (bN b)=e6)(g:GA X W F a (e::ps))
 (he:starEach (e::ps) X.env=(fx,eval e X.env)::starEach ps X.env) (hpl:(backTo pos (starEach ps X.env)).any (·.1)=fx):GE X W F (.blt b a) (.Call (.Name (bN b) np) (e::ps) [] pos):=
 (NR C d b f hm g he hpl).imp λσ H Q h=>Le (λps c=>Be c) (λenv=>by rw [az]) h
def EB{t:Ty}{p:PV}(c:Str):nc t p≠.exc c:=by cases p<;>exact nofun
def NZ(C:zv4 X)(t:Ty)(a:gj sc (Str.ofString (yb t))=e6)(hm:Γ.bs.contains (Str.ofString (yb t))=e6):PE X (.Name (Str.ofString (yb t)) pos) (tC (.ty (yb t))):=by
 have b:=C.bs _ (d9.mp hm);have c:=dm C a;cases t
 all_goals exact zq c b (u:=.type _) ↑1 rfl ↑1 ↑1
def QC(C:zv4 X){t:Ty}{a:E}{b:hB}{tp:Pos}(e:gj sc (zu 20)=e6)(f:Γ.bs.contains (zu 20)=e6)(g:gj sc (Str.ofString (yb t))=e6)(hm:Γ.bs.contains (Str.ofString (yb t))=e6)(i:GE X W F a b)
 (d:∀env ps,starEach (b::ps) env=(fx,eval b env)::starEach ps env):GE X W F (.ty t a) (.Call (.Name (zu 20) np) [b,.Name (Str.ofString (yb t)) tp] [] pos):=by
 refine(eF (Cn C.K t) (dm C e) (C.bs _ (d9.mp f)) ↑1 (bQ i (bQ (NZ C t g hm) dA) (d _ _)) (he:=d _ _)).imp λσ H Q h=>?_;let(B,G,env,sr,o):=h;rw [az] at o;refine one sr o λp v G1 H1 g1 j m o1=>?_;let(r,q,s):=o1.val (λc=>EB c);exact{v,BY,G1,p,r,rfl,m.sub,j.top,q,λw u y z A=>s w u y (g1.trans z) (.of A)}
def Mb(C:zv4 X){a:E}{j:hB}{tp:Pos}(A:gj sc (zu 20)=e6)(B:Γ.bs.contains (zu 20)=e6)(I:gj sc c=e6)(aM:okN c=e6)(hm:(Γ.cs.contains c||(c==(zu 1)&&Γ.bs.contains c))=e6)(m:GE X W F a j)
 (q:∀env ps,starEach (j::ps) env=(fx,eval j env)::starEach ps env) (P:Γ.cs.contains (zu 1)=fx):GE X W F (.yT c a) (.Call (.Name (zu 20) np) [j,.Name c tp] [] pos):=by
 have f:∀{p:PV} {r G H:Hp} {v:V} {σ:St} {K:PV->Prop} {env:Sl},Top W r G H p v->aA G H->Out X W (match p with|.exc d=>Res.ok (PV.bl (if c==(zu 1) then e6 else(c==d||c==(zu 6))))|_=>.bad) σ G H K->∃a d D,p=.exc d/\v=.ref a/\d∈W.xs/\X.mg d=eW (.ref D)/\H a=eW (mQ a D):=λ{p r G H v σ K env} t R o=>by
  cases p with
  |exc d=>
   rcases t with t|t
   .simp! [Rep] at t;let(a,D,rfl,g,hm,m):=t;exact{a,d,D,rfl,rfl,g,by rw [<-C.mg];exact hm,R _ _ m}
   .exact t.elim
  |int _=>exact d6 o|bl _=>exact d6 o|aP=>exact d6 o|str _=>exact d6 o|tup _=>exact d6 o|lst _=>exact d6 o|cy _ _=>exact d6 o|obj _=>exact d6 o
 by_cases s:(c==(zu 1:Str))=e6
 .have L:c=(zu 1):=zzy.mp s
  have S:Γ.bs.contains c=e6:=by
   rw [ej,zza] at hm;rcases hm with h|h
   .rw [L,P] at h;cases h
   .exact h.2
  subst L;refine(eF Ag (dm C A) (C.bs _ (d9.mp B)) ↑1 (bQ m (bQ (m5 (dm C I) (C.bs _ (d9.mp S))) dA) (q _ _)) (he:=q _ _)).imp λσ H Q h=>?_;let(r,G,env,sr,o):=h;rw [az] at o;refine one sr o λp v G1 H1 g1 u w o1=>?_;let(y,d,D,rfl,rfl,g,e,z):=f (env:=env) u.top w.sub o1;let(xc,_,hk):=C.xc d g D e;exact{y,D,zu 1,e6,rfl,z,xc,hk,o1 _ G1 H1 g1 (.of .b)}
 .have M:Γ.cs.contains c=e6:=by
   rw [ej,zza] at hm;rcases hm with h|h
   .exact h
   .exact absurd h.1 s
  let(O,i):=C.cls c (d9.mp M);refine(eF Af (dm C A) (C.bs _ (d9.mp B)) ↑1 (bQ m (bQ (ES (dm C I) i (eE aM).1) dA) (q _ _)) (he:=q _ _)).imp λσ H Q h=>?_;let(r,G,env,sr,o):=h;rw [az] at o;refine one sr o λp v G1 H1 g1 u w o1=>?_;let(y,d,D,rfl,rfl,g,e,z):=f (env:=env) u.top w.sub o1;let(xc,hk,_):=C.xc d g D e;have o2:Out X W (Res.ok (PV.bl (if c==(zu 1) then e6 else(c==d||c==(zu 6))))) σ G1 H1 _:=o1;rw [if_neg s] at o2;exact{y,D,O,_,rfl,z,xc,hk c (d9.mp M) O i,o2 _ G1 H1 g1 (.of .b)}
abbrev mT:M->String
 |.join=>"str"|.jz=>"list"|.index=>"list"
def WR(C:zv4 X){m:M}{p:PV}(b:aA G H)(h:yZ m p=e6)(t:Top W H0 G H p v):TC X.K (mT m) v H:=by
 cases m<;>cases p<;>first|(exact aO h)|(cases t.str;rfl)|(let(a,d,rfl,c,_):=t.lst b;exact .inl ⟨rfl,_,tm C.K c⟩)
def Md(C:zv4 X){m:M}{o:E}{e:Es}{ps:List hB}{a b:Pos}(f:GE X W F o po)(g:GA X W F e (p::ps))(i:attributeBase po (mN m) X.env (eval po X.env)=eval po X.env)
 (j:((backTo b (starEach (p::ps) X.env)).all (λx=>!x.1)&&(backToKw b (keywordEach [] X.env)).all (λx=>x.1.isSome)&&decide ((p::ps).length+([]:List Keyword).length+(if([]:List Keyword).isEmpty then 0 else 1)<30))=e6)
 (q:(a.endLine==b.line)=e6) (hs:starEach (p::ps) X.env=(fx,eval p X.env)::starEach ps X.env) (s:(backTo b (starEach ps X.env)).any (·.1)=fx):GE X W F (.dY m o e) (.Call (.Attribute po (mN m) a) (p::ps) [] b):=by
 have rd:∀σ H Q,tE X W F (.dY m o e) σ H Q->YQ X.K (mT m) (SW W (ze m)) (tE X W F o) (tA X W F e) σ H Q:=λσ H Q h=>by
  let(O,G,env,sr,d):=h;rw [az] at d;refine one sr d λp v G1 H1 g1 t u o1=>?_;by_cases hk:yZ m p=e6
  .rw [if_pos hk] at o1;refine{WR C u.sub hk t.top,args u o1 λps P G2 R g2 t2 y o2=>?_};let(r,z,A):=o2.val (λc=>Bf c);exact{BY,G2,p::ps,r,y.sub,.cons (t.top.grow g2) t2.top,z,λw B D I L=>A w B D ((g1.trans g2).trans I) (.of L)}
  .rw [if_neg hk] at o1;exact o1.elim
 cases m
 case join=>exact(vv PySem.F.plainAttrs_str PySem.F.slot_str_join PySem.F.type_str_join (Er C.K) f g i j q hs s).imp rd
 case jz=>exact(vv PySem.F.plainAttrs_list PySem.F.slot_list_count PySem.F.type_list_count (xq C.K C.room.units) f g i j q hs s).imp rd
 case index=>exact(vv PySem.F.plainAttrs_list PySem.F.slot_list_index PySem.F.type_list_index (Ba C.K C.room.units) f g i j q hs s).imp rd
def SR.set{p:PV}(i:Nat)(r:SR W H0 env σ G H)(h:Rep W G p v):SR W H0 (env.set i (.val p)) (σ.set i (eW v)) G H where
 len:=zx6 r.len
 sub:=r.sub
 tab:=r.tab
 jf:=r.jf
 base:=r.base
 slot:=λj s e=>by
  by_cases f:i=j
  .subst f;have d:i<env.length:=by
    have:=(bD.mp e).1;simpa using this
   rw [ed d] at e;cases e;exact{eW v,ed (by rw [<-r.len];exact d),v,rfl,h}
  .rw [cP f] at e;let(o,u,w):=r.slot j s e;exact{o,by rw [cP f];exact u,w}
 apart:=λa b q y A g m e3 t=>by
  have ne:∀{c:Nat} {q:PV},(env.set i (.val p))[c]?=eW (.own q)->i≠c:=λ{c q} e z=>by
   subst z;have d:i<env.length:=by have:=(bD.mp e).1;simpa using this
   rw [ed d] at e;cases e
  have B:=ne g;have C:=ne m;rw [cP B] at g e3;rw [cP C] at m t;exact r.apart a b q y A g m e3 t
abbrev gT(K:zz8):Tg->TG
 |.one i=>iw i|.two i j=>L0 K 2 (mx (iw i) (mx (iw j) Hu))|.four i j l m=>L0 K 4 (mx (iw i) (mx (iw j) (mx (iw l) (mx (iw m) Hu))))
def jX{K:zz8}(hK:W.K=K){g:Tg}{i:Sl}{p:PV}{Q:St->Hp->Prop}(e:Tg.put g p env=.ok i)(r:SR W H0 env σ G H)(h:Rep W G p v)(c:∀b,SR W H0 i b G H->Q b H):gT K g v σ H Q:=by
 unfold Tg.put at e;split at e
 .cases e;exact c _ (r.set _ h)
 .cases e;simp! [Rep] at h;let(a,j,rfl,sq,l):=h;let(m,o,rfl,d,l):=l.aZ;let(q,s,rfl,f,l):=l.aZ;simp! [ah] at l;subst l;rw [hK] at sq;exact{a,_,rfl,aA.tup r.sub sq.sq,rfl,_,_,rfl,_,_,rfl,rfl,c _ ((r.set _ d).set _ f)}
 .cases e;simp! [Rep] at h;let(a,j,rfl,sq,l):=h;let(m,o,rfl,d,l):=l.aZ;let(q,s,rfl,f,l):=l.aZ;let(w,y,rfl,t,l):=l.aZ;let(z,A,rfl,u,l):=l.aZ;simp! [ah] at l;subst l;rw [hK] at sq;exact{a,_,rfl,aA.tup r.sub sq.sq,rfl,_,_,rfl,_,_,rfl,_,_,rfl,_,_,rfl,rfl,c _ ((((r.set _ d).set _ f).set _ t).set _ u)}
 .cases e
def Ef(fX:X.env.scope=sc)(h:je sc x=e6):Loc X.env.scope x:=by rw [fX];unfold je at h;simp! [ej,zzy] at h;exact h
def Kt{fn:Str->Bool}{i:Nat}(hN:X.N=N)(nd:N.Nodup)(fX:X.env.scope=sc)(b:∀x,fn x=e6->X.fn x=e6)(h:V2 N sc fn i p=e6):PG X p (iw i)/\∃x q,p=.Name x q:=by
 let(x,c,a):=af h;let(q,rfl):=eS c
 simp! [zza,zzy,ej] at a;refine{Ja (by rw [hN];exact nd) (by rw [hN];exact a.1.1) (Ef fX a.1.2) ?_,x,q,rfl};rcases a.2 with z|z
 .exact .inl (b x z)
 .exact .inr (by rw [fX];exact z)
abbrev XT:List Nat->JW
 |[]=>Hu|i::is=>mx (iw i) (XT is)
theorem xD{fn:Str->Bool}(hN:X.N=N)(nd:N.Nodup)(fX:X.env.scope=sc)(c:∀x,fn x=e6->X.fn x=e6):∀(is:List Nat) (b:List hB),Ir N sc fn is b=e6->PQ X b (XT is)/\(assignEach b X.env).length=is.length/\(assignEach b X.env).findIdx? (·.1)=eX
 |[],[],_=>⟨Jb,rfl,rfl⟩|i::is,a::as,h=>by have h:=aj h;let(g1,x,p,rfl):=Kt hN nd fX c h.1;let(g,l,f):=xD hN nd fX c is as h.2;have e:assignEach (.Name x p::as) X.env=(fx,assign (.Name x p) X.env)::assignEach as X.env:=rfl;refine{E1 g1 g,by rw [e,bV,l,bV],?_};rw [e,List.findIdx?_cons,f];rfl|[],_::_,h=>aO h|_::_,[],h=>aO h
def xC{fn:Str->Bool}{a:Tg}(hN:X.N=N)(nd:N.Nodup)(fX:X.env.scope=sc)(e:X.calm=e6)(b:∀x,fn x=e6->X.fn x=e6)(h:eK N sc fn a p=e6):PG X p (gT X.K a):=by
 cases a with
 |one i=>exact(Kt hN nd fX b h).1|two i j=>let(o,c,d):=af h;let(k,q,rfl):=nF c;let(g,l,f):=xD hN nd fX b _ _ d;exact E0 e g l f|four i j l m=>let(o,c,d):=af h;let(k,q,rfl):=nF c;let(g,l,f):=xD hN nd fX b _ _ d;exact E0 e g l f
def rh(W:Wd)(J:It)(G B:Hp)(ps:List PV):Prop:=∀(i:Nat) (b a:Hp),aA G b->jb B a->aA b a->
 (i=ps.length->J.stop i a)/\∀p,ps[i]?=eW p->J.go i a/\∀x c,J.PD i a x c->∃d,aE W b a d c/\Rep W d p x
structure KS(W:Wd)(G H:Hp)(it:I)(J:It)(ps:List PV):Prop where
 any:rh W J G H ps
 bR:AI it=e6->rh W J G G ps
abbrev tI(X:Cx)(W:Wd)(F:aN)(it:I):TI:=λσ H R=>∃c G env,SR W c env σ G H/\Out X W (wN F it env) σ G H λd=>∀J b a,aE W G H b a->KS W b a it J d->R J a
noncomputable abbrev GI(X:Cx)(W:Wd)(F:aN)(a:hB)(it:I)(p:hB):Prop:=PI X a p (tI X W F it)
theorem sj(hK:W.K=X.K){B:Hp}(h:ub W.K B a vs)(l:ah W G ps vs):rh W (TU X.K a) G B ps:=λi e f g j sub=>by have b:hW X.K f a vs:=tm hK (jb.ls j h);refine{λo=>{vs,b,by rw [l.length];lia},λp m=>?_};let(v,d,rv):=l.rV m;refine{⟨vs,v,b,d⟩,λx q c=>?_};let(rfl,c):=c;have:=c vs b;rw [d] at this;cases this;exact{e,.refl sub,Rep.same g p rv}
theorem D4{K:zz8}{B:Hp}(h:gz K B a vs)(l:ah W G ps vs):rh W (TV K a) G B ps:=λi e f g j sub=>by have b:gz K f a vs:=jb.tup j h;refine{λo=>{vs,b,by rw [l.length];lia},λp m=>?_};let(v,d,rv):=l.rV m;refine{⟨vs,v,b,d⟩,λx q c=>?_};let(rfl,c):=c;have:=c vs b;rw [d] at this;cases this;exact{e,.refl sub,Rep.same g p rv}
def D0{B:Hp}{us:List V}(n:ks.length=us.length)(h:B a=eW (.bR o (.dK (kz ks us)))):rh W (TQ a o (kz ks us)) G B (ks.map gM):=λi e f t g sub=>by
 have c:f a=eW (.bR o (.dK (kz ks us))):=g.at h (λZ z=>nomatch z);refine{λb=>{c,by rw [iA n];rw [zzl] at b;lia},λp d=>?_};rw [cz] at d;let(k,hk,rfl):=bM.mp d;have b:i<ks.length:=(bD.mp hk).1;refine{{c,by rw [iA n];exact b},λx u j=>?_};let(rfl,m,v,rfl,q):=j;have r:m=ki k:=by have:=congrArg (λl=>l[i]?) (yX (us:=us) n);simp! [cz,q,hk,Option.map_some] at this;exact zzq this
 rw [r];exact{e,.refl sub,.s}
def Ap{i:Nat}{p:PV}(h:(chars z)[i]?=eW p):∃c,z.cps[i]?=eW c/\p=.str {#[c]}:=by unfold chars at h;rw [cz] at h;let(c,a,rfl):=bM.mp h;rw [Array.getElem?_toList] at a;exact⟨c,a,rfl⟩
def Aq(z:Str):(chars z).length=z.cps.size:=by unfold chars;rw [zzl,d1]
theorem D3{B:Hp}(z:Str):rh W (SV z) G B (chars z):=λi e h j m sub=>by refine{λa=>by rw [Aq] at a;exact Nat.le_of_eq a.symm,λp f=>?_};let(c,b,rfl):=Ap f;refine{(Array.getElem?_eq_some_iff.mp b).1,λx o g=>?_};let(rfl,q,d,rfl):=g;rw [b] at d;cases d;exact{e,.refl sub,.s}
theorem D1{B:Hp}(a:Int)(n:Nat):rh W (SU a n) G B (fO a n):=λi g m o q sub=>by unfold fO;refine{λb=>by rw [zzl,List.length_range] at b;exact Nat.le_of_eq b.symm,λp d=>?_};rw [cz] at d;let(c,h,rfl):=bM.mp d;let(e,f):=bD.mp h;rw [List.length_range] at e;rw [List.getElem_range] at f;subst f;refine{e,λx r j=>?_};let(rfl,rfl):=j;exact{g,.refl sub,.i}
def Uj(W:Wd)(G:Hp)(t:Zt)(xs:List PV):Prop:=(if t.1=e6 then ub W.K G t.2.1 t.2.2 else KY W.K G t.2.1 t.2.2)/\ah W G xs t.2.2
theorem Gg:∀{ps:List PV} {vs:List V} {xss:List (List PV)},ah W G ps vs->oY ps=eW xss->∃ts:List Zt,vs=ts.map (λt=>V.ref t.2.1)/\Paired (Uj W G) ts xss
 |[],vs,xss,l,h=>by simp! [ah] at l;subst l;cases h;exact{[],rfl,.nil}
 |p::ps,vs,xss,l,h=>by
  let(v,r,rfl,b,f):=l.aZ;let(xs,c,h):=dr.1 (show(Sj p).bind (λxs=>(oY ps).map (xs::·))=eW xss from h);let(g,i,rfl):=bM.1 h;let(ts,rfl,e):=Gg f i
  cases p with
  |lst j=>cases c;simp! [Rep] at b;let(a,d,rfl,k,m):=b;exact{(e6,a,d)::ts,rfl,.cons ⟨k,m⟩ e}
  |tup j=>cases c;simp! [Rep] at b;let(a,d,rfl,k,m):=b;exact{(fx,a,d)::ts,rfl,.cons ⟨k,m⟩ e}
  |_=>cases c
theorem za:∀{xss:List (List PV)},∀xs∈xss,oJ xss<=xs.length
 |[xs],ys,h=>by rw [d3.1 h];exact a7 _|xs::y::r,ys,h=>by
  show min xs.length (oJ (y::r))<=_
  rcases d8.1 h with rfl|h
  .exact Nat.min_le_left ..
  .exact c4 (Nat.min_le_right ..) (za ys h)
theorem y9:∀{xss:List (List PV)},xss≠[]->∃xs∈xss,xs.length=oJ xss
 |[xs],_=>{xs,d3.2 rfl,rfl}|xs::y::r,_=>by
  show∃a∈xs::y::r,a.length=min xs.length (oJ (y::r))
  rcases Nat.le_total xs.length (oJ (y::r)) with h|h
  .exact{xs,b4 ..,(Nat.min_eq_left h).symm}
  .let(a,b,c):=y9 (xss:=y::r) (List.cons_ne_nil _ _);exact{a,bI _ b,by rw [c,Nat.min_eq_right h]}
theorem zW{i:Nat}:∀{ts:List Zt} {xss:List (List PV)} {ys:List V},Paired (Uj W G) ts xss->Paired (λ(q:Zt) y=>q.2.2[i]?=eW y) ts ys->ah W G (xss.map λxs=>xs.getD i .aP) ys
 |_,_,_,.nil,.nil=>.nil|_,_,_,.cons r t,.cons u v=>by let(p,a,b):=r.2.get u;refine .cons ?_ (zW t v);dsimp only;rw [bU,a];exact b
def D5(hK:W.K=X.K){B:Hp}{ts:List Zt}{xss:List (List PV)}(hn:ts≠[])(h:Paired (Uj W G) ts xss)(C:aA G B):rh W (TR X.K ts) G B (qh xss):=λi D q f E sub=>by
 have sq:∀t∈ts,Zq X.K q t:=λt b=>by
  let(xs,_,r):=gx h t b;have:=r.1;unfold Zq;split
  .rename_i e;rw [if_pos e] at this;exact tm hK (aA.ls (λa o z=>sub a o (f a o z)) this)
  .rename_i e;rw [if_neg e] at this;exact hK▸aA.tup (λa o z=>sub a o (f a o z)) this.sq
 have len:∀t∈ts,oJ xss<=t.2.2.length:=λt b=>by let(xs,g,r):=gx h t b;rw [r.2.length];exact za xs g
 have j:(qh xss).length=oJ xss:=by simp [qh]
 refine{λc=>?_,λp d=>?_}
 .rw [j] at c;subst c;refine{λt b=>{sq t b,len t b},?_};have s:xss≠[]:=λz=>by subst z;cases h;exact hn rfl
  let(xs,g,u):=y9 s;let(t,b,r):=cH h xs g;exact{t,b,by rw [r.2.length,u]}
 .have c:i<oJ xss:=by rw [<-j];exact(bD.1 d).1
  have w:p=.tup (xss.map λxs=>xs.getD i .aP):=by unfold qh at d;rw [cz,List.getElem?_range c] at d;exact(zzq d).symm
  refine{λt b=>{sq t b,c6 c (len t b)},λx I y=>?_};let(a,L,rfl,m,rfl,A):=y;subst w;refine{_,.new sub m,.t (.inl aq) (ah.same (bo (sub.free m)) _ (ah.same f _ (zW h A)))}
def lH{e:E}{p:PV}(sr:SR W H0 env σ G H)(e1:az F e env=.ok p)(h:∀v G1 H1,aE W G H G1 H1->Got W H0 G1 H1 e p v->Q v H1):tE X W F e σ H Q:={H0,G,env,sr,by rw [e1];exact h}
def OQ{e:E}(sr:SR W H0 env σ G H)(e1:az F e env=.exc c)(h:ud X W σ c G H):tE X W F e σ H Q:={H0,G,env,sr,by rw [e1];exact h}
def Ml(C:zv4 X){O:hB}{e:E}(he:GE X W F e p):GI X W F O (.seq e) p:=by
 intro g s σ H R I h;let(T,G,env,sr,o):=h
 rw [wN] at o;cases r:az F e env with
 |bad=>rw [r] at o;exact o.elim|exc c=>rw [r] at o;exact sM he g s σ H R I (OQ sr r o)|ok q=>
  rw [r] at o;cases q with
  |lst xs=>refine sM he g s σ H R I (lH sr r λv G1 H1 g1 t=>?_);have u:=t;let(a,w,rfl,b,j):=t.top.lst g1.sub;refine{a,rfl,{w,tm C.K b},o _ G1 H1 g1 {sj C.K b j,λz=>?_}};have d:=u.rep z;simp! [Rep] at d;let(P,y,A,m,B):=d;cases A;exact sj C.K m B
  |tup xs=>refine N2 he g s σ H R I (lH sr r λv G1 H1 g1 t=>?_);have u:=t;let(a,w,rfl,b,j):=t.top.tup g1.sub;rw [C.K] at b;refine{a,rfl,⟨w,b⟩,o _ G1 H1 g1 {D4 b j,λz=>?_}};have d:=u.rep z;simp! [Rep] at d;let(P,y,A,m,B):=d;cases A;rw [C.K] at m;exact D4 m.sq B
  |str z=>exact N1 he g s σ H R I (lH sr r λv G1 H1 g1 t=>{z,t.top.str,o _ G1 H1 g1 {D3 z,λZ=>D3 z}})|int _=>exact d6 o|bl _=>exact d6 o|aP=>exact d6 o|exc _=>exact d6 o|obj _=>exact d6 o|cy D qs=>
   by_cases f:eR e=e6
   .have Q:xO e (.cy D qs)=.ok (D.map gM):=by
     cases e<;>first|rfl|exact aO f
    have o2:Out X W (xO e (.cy D qs)) σ G H λS=>∀(J:It) (M L:Hp),aE W G H M L->KS W M L (Ci.I.seq e) J S->R J L:=o;rw [Q] at o2;refine RY he g s σ H R I (lH sr r λv G1 H1 g1 t=>?_);have d:=t.rep f;simp! [Rep] at d;let(a,ob,U,rfl,n,b,j):=d;exact{a,ob,_,rfl,g1.sub _ _ b,o2 _ G1 H1 g1 {D0 n (g1.sub _ _ b),λZ=>D0 n b}}
   .have:(∃i,e=.JI i)\/∃a,e=.con a:=by
     cases e<;>first|exact .inl ⟨_,rfl⟩|exact .inr ⟨_,rfl⟩|exact absurd rfl f
    rcases this with⟨i,rfl⟩|⟨i,rfl⟩
    .exact d6 o
    .exact d6 o
def o5{i:Int}(h:cE i=e6): -(2^62)<=i/\i<2^62:=by unfold cE at h;simpa using h
def Mj(C:zv4 X){c:hB}{e:E}(d:gj sc "range"=e6)(f:Γ.bs.contains "range"=e6)(b:∀env ps,starEach (p::ps) env=(fx,eval p env)::starEach ps env)(he:GE X W F e p):GI X W F c (.sX e) (.Call (.Name "range" np) [p] [] pos):=by
 intro g s σ H R I h;refine Bq (dm C d) (C.bs _ (d9.mp f)) (bQ he dA (b _ _)) (b _ _) g s σ H R I ?_;let(i,G,env,sr,o):=h;rw [wN] at o;refine one sr o λq v G1 H1 g1 t m o1=>?_
 cases q with
 |int j=>
  by_cases a:cE j=e6
  .have o2:Out X W (if cE j=e6 then Res.ok (fO 0 j.toNat) else .bad) σ G1 H1 _:=o1;rw [if_pos a] at o2;exact{j,by rw [t.top.int],(o5 a).1,(o5 a).2,o2 _ G1 H1 g1 {D1 _ _,λZ=>D1 _ _}}
  .have o2:Out X W (if cE j=e6 then Res.ok (fO 0 j.toNat) else .bad) σ G1 H1 _:=o1;rw [if_neg a] at o2;exact o2.elim
 |bl _=>exact d6 o1|aP=>exact d6 o1|str _=>exact d6 o1|tup _=>exact d6 o1|lst _=>exact d6 o1|exc _=>exact d6 o1|obj _=>exact d6 o1|cy _ _=>exact d6 o1
def Mm(C:zv4 X){elts:List hB}{x1:Nat}{j:Pos}{ps:List hB}{as:Es}(m:gj sc "zip"=e6)(u:Γ.bs.contains "zip"=e6)(w:g8 as=e6)(hn:fB as=2\/fB as=3)(y:GA X W F as (p::ps))
 (A:starEach (p::ps) X.env=(fx,eval p X.env)::starEach ps X.env) (hpl:(backTo pos (starEach ps X.env)).any (·.1)=fx):GI X W F (.Tuple elts x1 j) (.zip as) (.Call (.Name "zip" np) (p::ps) [] pos):=by
 intro B s σ H R I h;refine Jc (dm C m) (C.bs _ (d9.mp u)) y A hpl B s σ H R I ?_;let(D,G,env,sr,o):=h
 rw [wN] at o;refine{D,G,env,sr,?_};cases r:bJ F as env with
 |bad=>rw [r] at o;exact o|exc c=>rw [r] at o;exact o|ok qs=>
  rw [r] at o;have f:=kP r;intro L G1 H1 g1 t;have l:=t.rep w;have o:Out X W ((Res.of (oY qs)).bind λa=>.ok (qh a)) σ G H λps=>∀J g b,aE W G H g b->KS W g b (.zip as) J ps->R J b:=o
  cases e:oY qs with
  |none=>rw [e] at o;exact d6 o|some a=>
   rw [e] at o;let(ts,rfl,d):=Gg l e;have lt:ts.length=qs.length:=by have:=l.length;rwa [zzl] at this
   have i:ts≠[]:=λz=>by subst z;simp at lt;lia
   refine{ts,rfl,by lia,λq E=>?_,o _ G1 H1 g1 {D5 C.K i d g1.sub,λZ=>D5 C.K i d (aA.refl _)}};let(xs,_,r):=gx d q E;have:=r.1;unfold Zq;split
   .rename_i e;rw [if_pos e] at this;exact tm C.K (aA.ls g1.sub this)
   .rename_i e;rw [if_neg e] at this;exact C.K▸aA.tup g1.sub this.sq
end
def Ao{env:Env}{c:g5}(h:env.cells.lookup x=eW c):cellOf env x=pure c:=by unfold cellOf;rw [h]
abbrev frees(names:List (Str×NameKind)):List Str:=((names.filter λp=>p.2==.free).map (·.1)).reverse
def nW{a:hX}{env:Env}(h:∀y∈a.names,y.2=.free->∃c,env.cells.lookup y.1=eW c):closureFor a env=pure (cA env (freeOf a)):=by
 simp! [closureFor];have f:∀(names:List (Str×NameKind)) (b:List (Str×g5)),(∀y∈names,y.2=.free->∃c,env.cells.lookup y.1=eW c)->
  (forIn (m:=Sem) names b λx r=>if(x.2==NameKind.free)=e6 then do
   let c<-cellOf env x.1
   pure (ForInStep.yield ((x.1,c)::r))
   else pure (ForInStep.yield r))=pure (cA env (frees names)++b):=by
  intro names
  induction names with
  |nil=>intro b _;rfl|cons p r j=>
   intro b g;let(n,d):=p;rw [List.forIn_cons];by_cases hk:(d==NameKind.free)=e6
   .let(c,k):=g (n,d) (by simp) (zzy.mp hk);simp! [hk,if_true,Ao k,pure_bind];rw [j ((n,c)::b) λy i=>g y (bI _ i)];have e:frees ((n,d)::r)=frees r++[n]:=by unfold frees;rw [ew,if_pos hk,a8,List.reverse_cons]
    rw [e];unfold cA;rw [List.map_append,a8,List.map_nil,List.append_assoc];show _=pure (_++([(n,(env.cells.lookup n).getD 0)]++b));rw [show env.cells.lookup n=eW c from k];rfl
   .simp! [hk,d2,if_false,pure_bind];rw [j b λy i=>g y (bI _ i)];have e:frees ((n,d)::r)=frees r:=by unfold frees;rw [ew,if_neg hk]
    rw [e]
 have:=f a.names [] h;rw [eA] at this;simp! [bind_pure_comp,map_pure,id_map',bind_pure];exact this
section
variable{W:Wd}{sc:hX}
def iH{a:hX}(h:X.env.scope=sc):relabel a X.env=dB a sc:=by subst h;rfl
structure nK(N:List Str)(sc scope:hX)(kk:Nat)(bf:List Nat)(xs:List Str):Prop where
 kind:scope.kind=.function
 len:xs.length=kk
 nd:(xs++freeOf scope).Nodup
 Lm:(scope.names.all λy=>(decide (y.2≠.cell)||!(freeOf scope).contains y.1)&&(decide (y.2≠.free)||(freeOf scope).contains y.1))=e6
 own:(scope.names.all λy=>decide (y.2≠.cell)||decide (scope.names.lookup y.1=eW .cell))=e6
 names:(scope.names.all λy=>decide (y.2≠.local)||decide (scope.names.lookup y.1=eW .local))=e6
 slots:bf.map (λi=>N[i]?)=(freeOf scope).map eW
 kX:((freeOf scope).all λy=>decide (sc.names.lookup y=eW .cell))=e6
 kY:((freeOf scope).all λy=>decide ((dB scope sc).names.lookup y=eW .cell))=e6
def nY{a:hX}{b:Nat}{c:List Nat}{xs:List Str}(h:uz N sc a b c xs=e6):nK N sc a b c xs:=by unfold uz at h;simp! [zza] at h;let((((((((d,e),f),g),i),j),k),m),o):=h;exact{zzy.mp d,zzy.mp e,zzY f,g,i,j,zzY k,m,o}
def wJ(hN:X.N=N)(fX:X.env.scope=sc)(ok:X.Ok){a:hX}{f:Nat}{d:List Nat}{xs:List Str}(h:nK N sc a f d xs):ia X a xs (freeOf a) d:=by
 have e:∀y∈freeOf a,∃c,X.env.cells.lookup y=eW c:=λy b=>ok.has y (.inl (by have:=zzY (cZ.mp h.kX y b);show X.env.scope.names.lookup y=_;rw [fX];exact this));refine{h.kind,nW λy b g=>?_,cZ.mpr λy b=>?_,h.Lm,h.own,h.names,by rw [hN];exact h.slots,cZ.mpr λy b=>?_,?_}
 .have c:=cZ.mp h.Lm y b
  rw [zza,ej,ej] at c;rcases c.2 with z|z
  .exact absurd g (zzY z)
  .exact e _ (d9.mp z)
 .let(c,i):=e y b;rw [i];rfl
 .have:=zzY (cZ.mp h.kX y b);refine zzh ?_;show X.env.scope.names.lookup y=_;rw [fX];exact this
 .rw [iH fX];exact h.kY
theorem jy{f:PV->Res (Option PV)}{x:PV}:∀{xs:List PV},aW f (xs++[x])=(aW f xs).bind λys=>(f x).well.bind λo=>.ok (ys++o.toList)
 |[]=>by
  simp! [List.nil_append,aW,Res.bind];cases(f x).well with
  |ok o=>cases o<;>rfl
  |exc c=>rfl|bad=>rfl
 |y::xs=>by
  rw [List.cons_append];simp! [aW];rw [jy (xs:=xs)];cases(f y).well with
  |exc c=>rfl|bad=>rfl|ok o=>
   show(((aW f xs).bind λys=>(f x).well.bind λo=>.ok (ys++o.toList)).bind λys=>.ok (oc o ys))=((aW f xs).bind λys=>.ok (oc o ys)).bind λys=>(f x).well.bind λo=>.ok (ys++o.toList)
   cases aW f xs with
   |exc c=>rfl|bad=>rfl|ok zs=>
    show(((f x).well.bind λo=>.ok (zs++o.toList)).bind λys=>.ok (oc o ys))=(f x).well.bind λo2=>.ok ((oc o zs)++o2.toList)
    cases(f x).well with
    |exc c=>rfl|bad=>rfl|ok o2=>cases o<;>rfl
theorem n0{f:PV->Res (Option PV)}:∀{xs ys:List PV},aW f xs=.ok ys->∀i,∃a,aW f (xs.take i)=.ok a/\a.length<=i
 |_,_,_,0=>{[],by simp [aW],a7 _}|[],ys,h,i+1=>{[],by simp [aW],Nat.zero_le _}|x::xs,ys,h,i+1=>by
  simp! [aW] at h;let(o,b,h):=Res.aJ h;let(a,c,h):=Res.aJ h;let(d,e,hl):=n0 c i;refine{oc o d,?_,?_}
  .rw [List.take_succ_cons];simp! [aW];rw [b];show((aW f (xs.take i)).bind λys=>.ok (oc o ys))=_;rw [e];rfl
  .cases o with
   |none=>exact Nat.le_succ_of_le hl|some y=>exact Nat.succ_le_succ hl
def nH{d:Type}{r:Res d}{a:d}(h:r.well=.ok a):r=.ok a:=by
 cases r with
 |ok b=>cases h;rfl
 |exc c=>cases h
 |bad=>cases h
def uA{f:PV->Res (Option PV)}{a:List PV}{i:Nat}{x:PV}(h:aW f xs=.ok ys)(d:xs[i]?=eW x)(hz:aW f (xs.take i)=.ok a):∃o,f x=.ok o/\aW f (xs.take (i+1))=.ok (a++o.toList):=by
 have e:xs.take (i+1)=xs.take i++[x]:=by rw [List.take_add_one,d];rfl
 let(g,b,_):=n0 h (i+1);rw [e,jy,hz] at b;let(o,c,b):=Res.aJ (show((f x).well.bind λo=>Res.ok (a++o.toList))=.ok g from b);refine{o,nH c,?_};rw [e,jy,hz];show((f x).well.bind λo=>Res.ok (a++o.toList))=_;rw [c];rfl
def o8{k:St}{h:List Nat}{ys:List Str}(g:Nat)(sr:SR W H0 env k G H)(hs:h.map (λi=>N[i]?)=ys.map eW)(nd:ys.Nodup):SR W H0 (jZ g .no++eQ env h) (jZ g eX++AY k h) G H:=by
 have E:∀(i j:Nat) (a:Nat),h[i]?=eW a->h[j]?=eW a->i=j:=λi j a y A=>by
  have m:(ys.map eW)[i]?=eW (N[a]?):=by rw [<-hs,cz,y];rfl
  have w:(ys.map eW)[j]?=eW (N[a]?):=by rw [<-hs,cz,A];rfl
  rw [cz] at m w;let(F,g1,I):=bM.mp m;let(K,g2,L):=bM.mp w;have:F=K:=zzq (I.trans L.symm);subst this;exact k8 nd g1 g2
 have d:∀(j:Nat) (s:Slot),(jZ g Slot.no++eQ env h)[j]?=eW s->(j<g/\s=.no)\/∃a,g<=j/\h[j-g]?=eW a/\s=env.getD a .no:=λj s e=>by
  by_cases f:j<g
  .rw [eg (zx6 f),List.getElem?_replicate,if_pos f] at e;cases e;exact .inl ⟨f,rfl⟩
  .rw [ei (zx6 f),List.length_replicate] at e;unfold eQ at e;rw [cz] at e;let(a,r,rfl):=bM.mp e;exact .inr {a,by lia,r,rfl}
 have val:∀(j a:Nat),g<=j->h[j-g]?=eW a->(jZ g eX++AY k h)[j]?=eW ((k[a]?).join):=λj a f r=>by rw [ei (zx6 f),List.length_replicate];unfold AY;rw [cz,r];rfl
 refine{by unfold eQ AY;simp,sr.sub,sr.base,λj s e=>?_,λi j p q a m w e3 B=>?_,sr.tab,sr.jf}
 .rcases d j s e with⟨f,rfl⟩|⟨a,f,r,rfl⟩
  .exact{eX,by rw [eg (zx6 f),List.getElem?_replicate,if_pos f],trivial}
  .refine{_,val j a f r,?_};rw [bU];cases m:env[a]? with
   |none=>exact trivial|some s=>let(o,y,A):=sr.slot a s m;rw [y];exact A
 .rcases d i _ m with⟨_,z⟩|⟨b,M,C,t⟩
  .cases z
  rcases d j _ w with⟨_,z⟩|⟨c,f,D,u⟩
  .cases z
  rw [val i b M C] at e3;rw [val j c f D] at B;have O:env[b]?=eW (.own p):=by
   rw [bU] at t;cases e:env[b]? with
   |none=>rw [e] at t;cases t
   |some s=>rw [e] at t;exact congrArg eW t.symm
  have P:env[c]?=eW (.own q):=by
   rw [bU] at u;cases e:env[c]? with
   |none=>rw [e] at u;cases u
   |some s=>rw [e] at u;exact congrArg eW u.symm
  have g1:k[b]?=eW (eW (.ref a)):=Option.join_eq_some_iff.mp (zzq e3);have g2:k[c]?=eW (eW (.ref a)):=Option.join_eq_some_iff.mp (zzq B);have Q:=sr.apart b c p q a O P g1 g2;subst Q;have:=E _ _ b C D;lia
def i8{d:Nat}{rest k:Sl}{g:St}{m:Tg}{p:PV}(f:lI d m=e6)(e:Tg.put m p (jZ d .no++rest)=.ok k)(r:SR W H0 k g G H):SR W H0 (jZ d .no++rest) g G H:=by
 have c:∀(j:Nat) (s:Slot),(jZ d Slot.no++rest)[j]?=eW s->s≠.no->k[j]?=eW s:=λj s h hs=>by
  have w:¬j<d:=λz=>by rw [eg (zx6 z),List.getElem?_replicate,if_pos z] at h;cases h;exact hs rfl
  unfold Tg.put at e;split at e
  .cases e;unfold lI at f;simp! [zzN] at f;rw [cP (by lia)];exact h
  .cases e;unfold lI at f;simp! [zza,zzN] at f;rw [cP (by lia),cP (by lia)];exact h
  .cases e;unfold lI at f;simp! [zza,zzN] at f;rw [cP (by lia),cP (by lia),cP (by lia),cP (by lia)];exact h
  .cases e
 have b:(jZ d Slot.no++rest).length=g.length:=by
  rw [<-r.len];unfold Tg.put at e;split at e<;>first|(cases e;simp;done)|(cases e;done)
 refine{b,r.sub,r.base,λj s h=>?_,λi j p q a o t e3 u=>r.apart i j p q a (c i _ o nofun) (c j _ t nofun) e3 u,r.tab,r.jf};by_cases hs:s=.no
 .subst hs;have:j<g.length:=by rw [<-b];exact(bD.mp h).1
  exact{g[j],zzg this,trivial}
 .exact r.slot j s (c j s h hs)
variable{Γ:Pg}{F:aN}{k:Nat}
abbrev tN(W:Wd)(F:aN)(e:E):TE:=λd H Q=>∃b G env,SR W b env d G H/\∃p,az F e env=.ok p/\∀v c a,aE W G H c a->Got W b c a e p v->Q v a
abbrev WG(W:Wd)(F:aN)(e:E):TT:=λc H Q=>∃d G env,SR W d env c G H/\∃b,az F e env=.ok (.bl b)/\∀f a,aE W G H f a->Q b a
def KH{e:E}(a:St)(H:Hp)(Q:VK)(h:tN W F e a H Q):tE X W F e a H Q:=by let(b,G,env,sr,p,c,q):=h;exact{b,G,env,sr,by rw [c];exact q}
def OR{e:E}(a:St)(H:Hp)(Q:Bool->Hp->Prop)(h:WG W F e a H Q):tT X W F e a H Q:=by let(b,G,env,sr,p,c,q):=h;exact{b,G,env,sr,by rw [c];exact⟨p,rfl,q⟩}
def kK(C:zv4 X){a:hX}{c:Nat}{d:List Nat}{xs:List Str}(h:nK N sc a c d xs)(fp:List g5)(s1:gC)(H1:Hp)(A:g5):fq Γ.zi F W (xs++freeOf a) (dB a sc) k (cY X (xs++freeOf a) a (cA X.env (freeOf a)) fp s1 H1 A):=
 {rfl,iH C.fX,λZ=>rfl,h.nd,C.K,C.mg,C.gs,C.bs,C.room,λf b=>{(C.fns f b).ex},C.Nr,C.cls,C.xc,λq e=>{(C.MG q e).ex},λf b=>{(C.Wi f b).1,{(C.Wi f b).2.ex}},C.any,C.fld,C.con,nofun,nofun,nofun}
set_option tactic.hygienic true in
def LQ{e:E}(h:aI Γ N sc e p=e6)(env:Env):∀x,foldedSetIterable p env x=pure x:=by
 intro x;cases p<;>first|rfl|(cases e<;>first|(exact aO h)|(rename_i q;cases q<;>exact aO h))
def nj{a:hB}(h:uw Γ N sc a it p=e6)(env:Env):∀x,foldedSetIterable p env x=pure x:=by
 intro x;cases it with
 |seq e=>exact LQ h env x|sX e=>cases p<;>first|rfl|(exact aO h)
 |zip as=>cases p<;>first|rfl|(exact aO h)
def CW(W:Wd)(H0 e H1:Hp)(uJ:Sl)(f:PV->Res (Option PV))(ps:List PV)(i:Nat)(ys:List V)(a:St)(d:Hp):Prop:=
 i<=ps.length/\∃b,aE W e H1 b d/\SR W H0 uJ a b d/\∃c,aW f (ps.take i)=.ok c/\c.length<=i/\ah W b c ys
def Hb(hK:W.K=X.K){r:Nat}{u:List Nat}{C:Tg}{d:E}{ys:List Str}(eC:lI r C=e6)(cU:eR d=e6)(hs:u.map (λi=>N[i]?)=ys.map eW)(nd:ys.Nodup)(V:St)(H:Hp)(Q:VK)(h:tF X W F (.comp r u C it d) V H Q):
 FJ (tI X W F it) r (gT X.K C) (tN W F d) u V H Q:=by
 let(L,G,env,sr,o):=h;rw [az] at o;refine{L,G,env,sr,o.bind.imp λm j J Y H1 g1 gi=>?_};by_cases Z:¬m.length<cb
 .rw [if_neg Z] at j;exact j.elim
 have hl:=Decidable.not_not.mp Z;rw [if_pos hl] at j;generalize hf:(λx=>(C.put x (jZ r .no++eQ env u)).bind λM=>(az F d M).bind λy=>Res.ok (eW y))=f at j
 cases w:aW f m with
 |bad=>rw [w] at j;exact j.elim|exc c=>
  exfalso
  have:∀(l:List PV) (c:Str),aW f l≠.exc c:=λl=>by
   induction l with
   |nil=>intro c z;cases z
   |cons a l ih=>
    intro c z;simp! [aW] at z;rcases Res.ee z with z|⟨o1,_,z⟩
    .cases e:f a with
     |ok _=>rw [e] at z;cases z
     |exc _=>rw [e] at z;cases z
     |bad=>rw [e] at z;cases z
    .rcases Res.ee z with z|⟨o2,_,z⟩
     .exact ih c z
     .cases z
  exact this _ _ w
 |ok all=>
  rw [w] at j;let(xs,e1,fin):=j;cases e1;have bC:=sr.grow g1;refine{m.length,CW W L Y H1 (jZ r .no++eQ env u) f m,{Nat.zero_le _,Y,.refl g1.sub,o8 r bC hs nd,[],rfl,a7 _,.nil},?_}
  rintro i made σ' H' ⟨hi,G',A,O,zs,P,Pp,l⟩
  refine{by rw [l.length];exact c5 (c4 Pp hi) (c6 hl ↑2),?_};let(R,S):=gi.any i G' H' A.g A.h A.sub;by_cases b:i=m.length
  .refine .inl {R b,λp hp=>?_};rw [b,List.take_length,w] at P;cases P;exact fin p made G' H' (g1.trans A) hp l
  .have D:i<m.length:=by lia
   let(DF,B):=S m[i] (zzg D);refine .inr {DF,D,λx jr hy=>?_};let(rg,T,rx):=B x jr hy;let(o1,s,q):=uA w (zzg D) P;rw [<-hf] at s;let(M,BW,s):=Res.aJ s;let(y,MR,s):=Res.aJ s;cases s;refine jX hK BW (O.grow T) rx λσ2 kh=>{L,rg,M,kh,y,MR,λv G3 H3 U t=>?_};refine{D,G3,A.trans (T.trans U),(i8 eC BW kh).grow U,_,q,?_,?_}
   .rw [bW];show zs.length+1<=i+1;lia
   .exact(ah.same (T.trans U).g zs l).append (.cons (t.rep cU) .nil)
def Aw(hK:W.K=X.K){D:List Nat}{R:Tg}{c d:E}{ys:List Str}(eC:lI w R=e6)(cU:eR d=e6)(hs:D.map (λi=>N[i]?)=ys.map eW)(nd:ys.Nodup)(σ:St)(H:Hp)(Q:VK)(h:tF X W F (.fH w D R it c d) σ H Q):
 tR (tI X W F it) w (gT X.K R) (WG W F c) (tN W F d) D σ H Q:=by
 let(S,G,env,sr,o):=h;rw [az] at o;refine{S,G,env,sr,o.bind.imp λr q J G1 H1 g1 gi=>?_};by_cases v8:¬r.length<cb
 .rw [if_neg v8] at q;exact q.elim
 have hl:=Decidable.not_not.mp v8;rw [if_pos hl] at q;generalize hf:(λx=>(R.put x (jZ w .no++eQ env D)).bind λA=>(az F c A).bind λt=>yk t λt=>if t then(az F d A).bind λy=>Res.ok (eW y) else .ok eX)=f at q
 cases L:aW f r with
 |bad=>rw [L] at q;exact q.elim|exc c=>
  exfalso
  have:∀(l:List PV) (c:Str),aW f l≠.exc c:=λl=>by
   induction l with
   |nil=>intro c z;cases z
   |cons a l ih=>
    intro c z;simp! [aW] at z;rcases Res.ee z with z|⟨o1,_,z⟩
    .cases e:f a with
     |ok _=>rw [e] at z;cases z
     |exc _=>rw [e] at z;cases z
     |bad=>rw [e] at z;cases z
    .rcases Res.ee z with z|⟨o2,_,z⟩
     .exact ih c z
     .cases z
  exact this _ _ L
 |ok all=>
  rw [L] at q;let(xs,e1,fin):=q;cases e1;have bC:=sr.grow g1;refine{r.length,CW W S G1 H1 (jZ w .no++eQ env D) f r,{Nat.zero_le _,G1,.refl g1.sub,o8 w bC hs nd,[],rfl,a7 _,.nil},?_}
  rintro i made σ' H' ⟨hi,G',B,U,zs,V,Pp,l⟩
  refine{by rw [l.length];exact c5 (c4 Pp hi) (c6 hl ↑2),?_};let(Y,Z):=gi.any i G' H' B.g B.h B.sub;by_cases j:i=r.length
  .refine .inl {Y j,λp hp=>?_};rw [j,List.take_length,L] at V;cases V;exact fin p made G' H' (g1.trans B) hp l
  .have M:i<r.length:=by lia
   let(DF,O):=Z r[i] (zzg M);refine .inr {DF,M,λx jr hy=>?_};let(rg,P,rx):=O x jr hy;let(o1,s,m):=uA L (zzg M) V;rw [<-hf] at s;let(A,BW,s):=Res.aJ s;let(t,ht,s):=Res.aJ s
   obtain⟨b,rfl⟩:∃b,t=.bl b:=by
    cases t<;>first|exact⟨_,rfl⟩|(cases s)
   refine jX hK BW (U.grow P) rx λσ2 T=>{S,rg,A,T,b,ht,λG3 H3 u=>?_};have C:(if b=e6 then(az F d A).bind λy=>Res.ok (eW y) else .ok eX)=Res.ok o1:=s
   cases b with
   |true=>
    rw [if_pos rfl] at C;refine Ie ?_;let(y,MR,C):=Res.aJ C;cases C;refine{S,G3,A,T.grow u,y,MR,λv G4 H4 g4 t4=>?_};refine{M,G4,B.trans (P.trans (u.trans g4)),(i8 eC BW T).grow (u.trans g4),_,m,?_,?_}
    .rw [bW];show zs.length+1<=i+1;lia
    .exact(ah.same (P.trans (u.trans g4)).g zs l).append (.cons (t4.rep cU) .nil)
   |false=>
    rw [if_neg zzf] at C;refine MX ?_;cases C;refine{M,G3,B.trans (P.trans u),(i8 eC BW T).grow u,_,m,?_,?_}
    .rw [bW];show zs.length+0<=i+1;lia
    .show ah W G3 (zs++[]) made;rw [eA];exact ah.same (P.trans u).g zs l
def HB(C:zv4 X)(r:Γ.qt=fx){f:Nat}{i:List Nat}{d:Tg}{b:E}{c j q:hB}{a:hX}{pos:Pos}(h:nK N sc a f i (aS c))(t:lI f d=e6)(u:eR b=e6)(w:GI X W F c it j)(MG:∀x,foldedSetIterable j X.env x=pure x)
 (y:eK (aS c++freeOf a) (dB a sc) (pZ a) d c=e6) (he:∀Y,fq Γ.zi F W (aS c++freeOf a) (dB a sc) k Y->GE Y W F b q):GF X W F (.comp f i d it b) (.ListComp q [{c,j,[],0}] a pos):=by
 intro B s e H Q I m;have D:(freeOf a).Nodup:=(List.nodup_append.mp h.nd).2.1;have rd:=Hb (N:=N) C.K t u h.slots D e H Q m
 have:=zt (g:=gT X.K d) (te:=tN W F b) (xs:=aS c) (ys:=freeOf a) (is:=i) (pos:=pos) (C.calm r) (wJ C.hN C.fX I.ok h) w
  (λfp o p A=>xC (fn:=pZ a) (X:=cY X (aS c++freeOf a) a (cA X.env (freeOf a)) fp o p A) rfl h.nd (iH C.fX) rfl (λZ z=>z) y)
  (λfp o p A=>L2.PE.imp (he _ (kK C h fp o p A)) λe H Q z=>KH e H Q z) MG B s e H Q I
 rw [h.len] at this;exact this rd
def AL(C:zv4 X)(u:Γ.qt=fx){m:Nat}{o:List Nat}{j:Tg}{c b:E}{r t:hB}{a:hX}{pos:Pos}(h:nK N sc a m o (aS d))(w:lI m j=e6)(y:eR b=e6)(B:GI X W F d it p)(MG:∀x,foldedSetIterable p X.env x=pure x)
 (D:eK (aS d++freeOf a) (dB a sc) (pZ a) j d=e6) (G:∀Y,fq Γ.zi F W (aS d++freeOf a) (dB a sc) k Y->GT Y W F c r) (he:∀Y,fq Γ.zi F W (aS d++freeOf a) (dB a sc) k Y->GE Y W F b t):
 GF X W F (.fH m o j it c b) (.ListComp t [{d,p,[r],0}] a pos):=by
 intro L s e H Q I q;have M:(freeOf a).Nodup:=(List.nodup_append.mp h.nd).2.1;have rd:=Aw (N:=N) C.K w y h.slots M e H Q q
 have:=Bo (g:=gT X.K j) (tt:=WG W F c) (te:=tN W F b) (xs:=aS d) (ys:=freeOf a) (is:=o) (pos:=pos) (C.calm u) (wJ C.hN C.fX I.ok h) B
  (λfp f i A=>xC (fn:=pZ a) (X:=cY X (aS d++freeOf a) a (cA X.env (freeOf a)) fp f i A) rfl h.nd (iH C.fX) rfl (λZ z=>z) D)
  (λfp f i A=>L2.PT.imp (G _ (kK C h fp f i A)) λe H Q z=>OR e H Q z)
  (λfp f i A=>L2.PE.imp (he _ (kK C h fp f i A)) λe H Q z=>KH e H Q z) MG L s e H Q I
 rw [h.len] at this;exact this rd
end
end Ci
namespace L2
open PySem.Spec PyProof.Rows PySem.W
section
variable{w:hG}{E:kd}{s:gC}{it:g5}
theorem fld{fs:Array fP}{z:fP}{Q:Unit->gC->Prop}(e:s.heap.get? it=eW {cls:=.type "dict_itemiterator",data:=.fields fs})(a:j<fs.size)(b:∀h',h'.get? it=eW {cls:=.type "dict_itemiterator",data:=.fields (fs.setIfInBounds j z)}->hZ.SameBut it s.heap h'->Q () {s with heap:=h'}):hD (hI prog w) A (setField (.ref it) j z) Q E s:=
 wpAny_setField e rfl a (b _ (hZ.get?_update_self _ e rfl) (ek ..))
end
noncomputable abbrev lO(a:Array fP)(c:Nat):Obj:={cls:=.type "list",dict:=eX,data:=.seq a c,slots:=#[]}
end L2
namespace L2
open PySem.Spec PyProof.Rows
def l8:Manifest.owners.lookup (String.ofList ['d','e','s','r','e','v','e','r'].reverse)=eW Manifest.sig_reversed:=∅
theorem cW:Slot (zu 8) (zu 52) "reversed.__next__":=
 .of (owner:=(zu 8)) (n:=(zu 52)) (by rw [typeLookup_type,builtinLookup_eq_fast];kernel_rfl) ↑1 ↑1 ↑1
  (by first|exact .inl ↑1|exact .inr ↑1) (by rw [isSubtype_type];kernel_rfl)
def ir:entryFor table "reversed.__next__"=eW ix.«reversed.__next__»:=entryFor_of_tree ∅
def jg(a:fP):argsOk "reversed.__next__" {[a],[]}:=by unfold argsOk;rw [signature?_of (id:="reversed.__next__") (n:=['_','_','t','x','e','n','_','_']) (o:=['d','e','s','r','e','v','e','r']) ∅ l8];kernel_rfl
theorem jl:Slot (zu 8) "__iter__" "reversed.__iter__":=
 .of (owner:=(zu 8)) (n:="__iter__") (by rw [typeLookup_type,builtinLookup_eq_fast];kernel_rfl) ↑1 ↑1 ↑1
  (by first|exact .inl ↑1|exact .inr ↑1) (by rw [isSubtype_type];kernel_rfl)
def pN(a:fP):argsOk "reversed.__iter__" {[a],[]}:=by unfold argsOk;rw [signature?_of (id:="reversed.__iter__") (n:=['_','_','r','e','t','i','_','_']) (o:=['d','e','s','r','e','v','e','r']) ∅ l8];kernel_rfl
theorem oj:entryFor table "reversed.__iter__"=eW ix.«dict_keyiterator.__iter__»:=
 entryFor_alias (id':="dict_keyiterator.__iter__") ∅ (by first|rfl|decide+kernel|(unfold String.splitOn;simp+decide [String.splitOnAux])) ↑1 ∅
theorem fS:Slot (zu 8) "__length_hint__" (zu 34):=
 .of (owner:=(zu 8)) (n:="__length_hint__") (by rw [typeLookup_type,builtinLookup_eq_fast];kernel_rfl) ↑1 ↑1 ↑1
  (by first|exact .inl ↑1|exact .inr ↑1) (by rw [isSubtype_type];kernel_rfl)
def oh:entryFor table (zu 34)=eW ix.«reversed.__length_hint__»:=entryFor_of_tree ∅
def pM(a:fP):argsOk (zu 34) {[a],[]}:=by unfold argsOk;rw [signature?_of (id:=(zu 34)) (n:="__length_hint__".toList.reverse) (o:=['d','e','s','r','e','v','e','r']) ∅ l8];kernel_rfl
def xN:typeLookup (.type (zu 8)) "__len__"=pure eX:=by rw [typeLookup_type,builtinLookup_eq_fast];kernel_rfl
def x5:typeLookup (.type "tuple") "__reversed__"=pure eX:=by rw [typeLookup_type,builtinLookup_eq_fast];kernel_rfl
abbrev Ol(t:g5)(i:Int):Obj:={cls:=.type (zu 8),data:=.fields #[.ref t,rawInt i]}
section
variable{w:hG}{E:kd}{s:gC}
def wG:TypeCalled (zu 8) "reversed.__new__" "object.__init__" where
 notType:=↑1
 canCreate:=F.create_reversed
 mro:={_,_,F.mro_reversed}
 made:=F.made_reversed
 plain:=F.plain_reversed_new
 sub:=F.sub_reversed_self
 init:=.of (owner:=(zu 49)) (n:=(zu 11)) (by rw [typeLookup_type,builtinLookup_eq_fast];kernel_rfl) ↑1 ↑1 ↑1
  (by first|exact .inl ↑1|exact .inr ↑1) (by rw [isSubtype_type];kernel_rfl)
theorem A9(l:g5)(items:Array fP):MeetsIn prog w (ix.«reversed.__new__» {[.type (zu 8),.ref l],[]}) (λZ R s=>IsTup s.heap l items/\items.size<=h9/\∀tk,R (.ok (.ret (.ref (zz9 s)))) {s with heap:=s.heap.push (Ol l ((items.size:Int)-1)),toks:=tk}):=
 .of_wp λA R s c=>by
  let(hl,d,h):=c;unfold ix.«reversed.__new__»;refine ar (wpAny_of_eq (newClass_reversed _) ?_)
  try dsimp only
  refine ar (wpAny_of_eq (a:=()) (by first|rfl|kernel_rfl) ?_);refine ar (wpAny_of_eq (a:=()) (by first|rfl|kernel_rfl) ?_)
  try dsimp only
  refine ar (wpAny_specialOf hl.typeIs x5 ?_)
  try dsimp only
  refine ar ?_
  wp_delta
  refine ar (wpAny_isInstance (T:="tuple") (v:=.ref l) (b:=fx) hl.typeIs (by rw [isSubtype_type];kernel_rfl) ?_);simp! [d2,if_false];refine ar (wpAny_specialOf hl.typeIs PyProof.Rows.slot_tuple_getitem.lookup ?_)
  try dsimp only
  rw [if_pos ↑1];refine bc ?_;simp! [Bool.not_true,d2,if_false];refine ar (len_tuple hl (by rw [sizeLine_eq] at d;lia) ?_);refine ar (wpAny_of_eq (a:=eW (items.size:Int)) rfl ?_)
  try dsimp only
  unfold ix.SmallTypes.newRecord;exact ar (wpAny_newObj_type (bc {_,rfl,h _}) (by size_fits))
theorem kE{l:g5}{Q:kd}(hl:IsTup s.heap l items)(hn:items.size<=h9)
 (h:∀tk,Q (.ref (zz9 s)) {s with heap:=s.heap.push (Ol l ((items.size:Int)-1)),toks:=tk}):hD (hI prog w) A (call (.type (zu 8)) [.ref l]) Q E s:=
 callType_newIn wG ↑2 (F.typeCall_reversed_1 _) (F.newCall_reversed_1 _) (λobj=>F.args_object_init_2 obj _) F.entry_reversed_new (A9 l items) {hl,hn,λtk=>{{_,c8 _ rfl,rfl},h tk}}
def f6(h:hZ)(a l:g5)(i:Int):Prop:=∃o,h.get? a=eW o/\o.cls=.type (zu 8)/\o.data=.fields #[.ref l,rawInt i]
theorem f6.typeIs{l:g5}{i:Int}(x:f6 s.heap a l i):s.TypeIs (.ref a) (zu 8):=let⟨o,b,c,_⟩:=x;⟨o,b,c⟩
theorem f6.at{l:g5}{i:Int}(x:f6 h a l i)(e:∀o,h.get? a=eW o->h'.get? a=eW o):f6 h' a l i:=let⟨o,b,r⟩:=x;{o,e _ b,r}
def Fq{it l:g5}{i:Nat}{x:fP}{Q:Option fP->gC->Prop}(b:f6 s.heap it l (i:Int))(hl:IsTup s.heap l items)(hn:items.size<=h9)(d:items[i]?=eW x)
 (e:∀h' tk,f6 h' it l ((i:Int)-1)->hZ.SameBut it s.heap h'->Q (eW x) {s with heap:=h',toks:=tk}):hD (hI prog w) A (pyNext (.ref it)) Q E s:=by
 let(o,c,f,hd):=id b;have g:i<items.size:=(Array.getElem?_eq_some_iff.mp d).1
 unfold pyNext;refine ar (wpAny_attempt (wpAny_callSpecial?_slot (name:=Str.ofString (zu 52)) b.typeIs cW
  (wpAny_call_entry cW b.typeIs ir ?_ (jg _))))
 unfold ix.«reversed.__next__»;refine ar (wpAny_of_eq (a:=(fP.ref it,[])) rfl ?_)
 try dsimp only
 refine ar (wpAny_field c hd (x:=.ref l) rfl ?_);refine ar (wpAny_field c hd (x:=rawInt (i:Int)) rfl ?_);show hD _ _ (if(i:Int)<0 then _ else _) _ _ s;rw [if_neg (by lia)];show hD _ _ (specialOf (.ref l) (Str.ofString "__getitem__")>>=_) _ _ s;refine ar (wpAny_specialOf hl.typeIs PyProof.Rows.slot_tuple_getitem.lookup ?_);rw [if_neg (by simp)];refine ar (wpAny_mkInt ?_);refine ar (wpAny_attempt (PyProof.Rows.getItem_tuple (j:=i) hl (by lia) (by rw [sizeLine_eq] at hn;lia) ?_ d ?_))
 .simp! [seqIndex?,show¬((i:Int)<0) from by lia,if_false];rw [if_pos (by rw [zza,zzN,zzN];constructor<;>lia),ey]
 try dsimp only
 refine ar (wpAny_field (s:={s with toks:=s.toks+1}) c hd (x:=rawInt (i:Int)) rfl ?_);show hD _ _ (setField (.ref it) 1 (rawInt ((i:Int)-1))>>=_) _ _ _;refine ar (wpAny_setField c hd (by simp) ?_);refine bc {x,rfl,bc (e _ _ ?_ (ek ..))};exact{_,hZ.get?_update_self _ c (Obj.isFreed_of_fields (Obj.data_mapFields hd _)),(Obj.cls_mapFields ..).trans f,by rw [Obj.data_mapFields hd];simp}
def Jo{it l:g5}{Q:Option fP->gC->Prop}(f:A.handled=eX)(c:f6 s.heap it l (-1))
 (h:∀h',hZ.ExtBut it s.heap h'->Q eX {s with heap:=h'}):hD (hI prog w) A (pyNext (.ref it)) Q E s:=by
 let(o,d,p,hd):=id c
 unfold pyNext;refine ar (wpAny_attempt (wpAny_callSpecial?_slot (name:=Str.ofString (zu 52)) c.typeIs cW
  (wpAny_call_entry cW c.typeIs ir ?_ (jg _))))
 unfold ix.«reversed.__next__»;refine ar (wpAny_of_eq (a:=(fP.ref it,[])) rfl ?_)
 try dsimp only
 refine ar (wpAny_field d hd (x:=.ref l) rfl ?_);refine ar (wpAny_field d hd (x:=rawInt (-1)) rfl ?_);show hD _ _ (if(-1:Int)<0 then _ else _) _ _ s;rw [if_pos ↑2];refine ar (wpAny_rule ?_);refine ar ?_
 wp_delta
 refine ar (wpAny_setField d hd (by simp) ?_);have i:=hZ.get?_update_self (Obj.mapFields (·.setIfInBounds 1 (rawInt (-1)))) d (Obj.isFreed_of_fields (Obj.data_mapFields hd _));refine wpAny_setField i (Obj.data_mapFields hd _) (by simp) ?_;refine ar ?_;show hD _ _ (newExc (.type (zu 28)) []>>=_) _ _ _;refine ar ?_;simp! [newExc,newTuple];refine ar (wpAny_newObj_type ?_ (by size_fits));refine ar (m:=firstArgMember _ _) (wpAny_of_eq (a:=fP.none) (by first|rfl|(simp! [firstArgMember];rfl)) ?_);refine wpAny_newObj_type ?_ (by size_fits);simp! [raiseNew];refine ar (wpAny_handled ?_)
 first|rw [show A.in1.handled=eX from f]|rw [f]
 refine ar (bc (wpAny_throw ?_));refine ar (wpAny_isInstance (T:=(zu 28)) (b:=e6) {_,c8 _ rfl,rfl} isSubtype_stop ?_);refine bc (h _ ?_);have j:hZ.ExtBut it s.heap (s.heap.update it (Obj.mapFields (·.setIfInBounds 1 (rawInt (-1))))):=(ek ..).extBut;have k:hZ.ExtBut it (s.heap.update it (Obj.mapFields (·.setIfInBounds 1 (rawInt (-1))))) ((s.heap.update it (Obj.mapFields (·.setIfInBounds 1 (rawInt (-1))))).update it (Obj.mapFields (·.setIfInBounds 0 .none))):=(ek ..).extBut;exact((show hZ.ExtBut it s.heap _ from λb o g e=>k b o g (j b o g e)).push _).push _
def vF{it l:g5}{i:Int}{Q:kd}(a:f6 s.heap it l i)(h:Q (.ref it) s):hD (hI prog w) A (pyIter (.ref it)) Q E s:=by refine wpAny_pyIter_slot a.typeIs jl (wpAny_call_entry jl a.typeIs oj ?_ (pN _));show hD _ _ (ret (.ref it)) _ _ s;exact bc {_,rfl,zu 8,_,a.typeIs,cW.lookup,h}
theorem IsTup.mv{t:g5}(x:IsTup h t items)(e:∀o,h.get? t=eW o->h'.get? t=eW o):IsTup h' t items:=let⟨o,a,r⟩:=x;{o,e _ a,r}
def BN(p:A.handled=eX)(I l:g5)(q:l≠I)(items:Array fP)(hn:items.size<=h9):
 Walks prog w A I [I,l] [I] items.size (λi v=>items[items.size-1-i]?=eW v) (λi h=>i<=items.size/\f6 h I l ((items.size:Int)-1-(i:Int))/\IsTup h l items) where
 sub:=λb c=>by simp at c;simp [c]
 frame:=λZ Z Z x hk=>{x.1,x.2.1.at λo e=>hk I (by simp) o e,IsTup.mv x.2.2 λo e=>hk l (by simp) o e}
 item:=λi s Q E r x d=>by
  have e:(items.size:Int)-1-(i:Int)=((items.size-1-i:Nat):Int):=by lia
  have a:=x.2.1;rw [e] at a;have j:items[items.size-1-i]?=eW (items[items.size-1-i]'(by lia)):=eu (by lia);refine Fq a x.2.2 hn j λg t k m=>?_;have u:((items.size-1-i:Nat):Int)-1=(items.size:Int)-1-((i+1:Nat):Int):=by lia
  rw [u] at k;exact d _ g t j {r,k,IsTup.mv x.2.2 λo f=>(m.2 l q).trans f} λb o c f=>m.extBut b o (λh=>c (by simp [h])) f
 done:=λs Q E x d=>by
  have e:(items.size:Int)-1-(items.size:Int)= -1:=by lia
  have a:=x.2.1;rw [e] at a;exact Jo p a λg y=>d g s.toks λb o c f=>y b o (λh=>c (by simp [h])) f
 self:=λZ Z Z Z x d=>vF x.2.1 d
def Fp{I l:g5}{Q:Bool->gC->Prop}(c:f6 s.heap I l ((items.size:Int)-1))(hl:IsTup s.heap l items)(hn:items.size<=h9)(h:∀b tk,Q b {s with toks:=tk}):hD (hI prog w) A (ix.List.listLengthHint (.ref I)) Q E s:=by
 let(o,d,g,hd):=id c;unfold ix.List.listLengthHint;refine ar (wpAny_specialOf c.typeIs xN ?_);show hD _ _ (specialOf (fP.ref I) (Str.ofString "__length_hint__")>>=_) _ _ _;refine ar (wpAny_specialOf c.typeIs fS.lookup ?_)
 wp_delta
 refine ar (wpAny_isInstance (T:=(zu 8)) (v:=.ref I) (b:=e6) c.typeIs F.sub_reversed_self ?_);rw [if_neg ↑2];show hD _ _ (if _ then _ else _) _ _ _;rw [if_neg ↑1];refine ar (wpAny_rule ?_);refine ar (wpAny_of_eq (fS.bind _) ?_)
 try dsimp only
 refine ar (wpAny_attempt (wpAny_call_entry fS c.typeIs oh ?_ (pM _)));unfold ix.«reversed.__length_hint__»;refine ar (wpAny_of_eq (a:=fP.ref I) rfl ?_);refine ar (wpAny_field d hd (x:=.ref l) rfl ?_);rw [if_neg (show¬((fP.ref l==fP.none)=e6) from zzf)];refine ar (len_tuple hl (by rw [sizeLine_eq] at hn;lia) ?_);refine ar (wpAny_of_eq (a:=eW (items.size:Int)) rfl ?_)
 try dsimp only
 refine ar (wpAny_field (s:={s with toks:=s.toks+1+1}) d hd (x:=rawInt ((items.size:Int)-1)) rfl ?_);show hD _ _ (if(items.size:Int)<(items.size:Int)-1+1 then _ else _) _ _ _;rw [if_neg (by lia)];unfold retInt;refine ar (wpAny_mkInt (bc {_,rfl,?_}));show hD _ _ (asInt? (fP.int ((items.size:Int)-1+1) _)>>=_) _ _ _;refine ar (wpAny_of_eq (a:=eW ((items.size:Int)-1+1)) rfl ?_);rw [sizeLine_eq] at hn;have e:ix.List.listFitsIndex ((items.size:Int)-1+1)=e6:=by unfold ix.List.listFitsIndex;rw [zza,zzN,zzN];lia
 have f:ix.List.listTooLong ((items.size:Int)-1+1).toNat=fx:=by unfold ix.List.listTooLong;rw [decide_eq_false_iff_not,sizeLine_eq];lia
 simp! [e,f,Bool.not_true,d2,if_false];rw [if_neg (by lia)];exact bc (h _ _)
def Hk{R:Result->gC->Prop}(y:A.handled=eX){I l:g5}(z:l≠I)(c:f6 s.heap I l ((items.size:Int)-1))(hl:IsTup s.heap l items)(S:g5)(p:S≠I)(t:S≠l)(res:fP)(d:Nat)(r:s.heap.get? S=eW (lO #[] d))
 (B:∀h' tk m g,(∀b o,b≠S->b≠I->s.heap.get? b=eW o->h'.get? b=eW o)->h'.get? S=eW (lO m g)->
  ItemsOf (λi v=>items[items.size-1-i]?=eW v) m items.size->R (.ok (.ret res)) {s with heap:=h',toks:=tk}) (hn:items.size<=h9):
 hD (hI prog w) A.in1 (ix.List.listExtendWith (.ref S) (.ref I) res)
  (λfin s'=>match fin with|.done f=>R (.ok f) s'|.again g=>g.quiet=e6/\codeAny (hI prog w) A g R s') (λe s'=>R (.error e) s') s:=by
 have C:S∉[I,l]:=λhm=>by
  rcases d8.mp hm with e|hm
  .exact p e
  .exact t (d3.mp hm)
 have j:∀(h:hZ) (c1 tk:Nat),(∀b x,b≠S->s.heap.get? b=eW x->h.get? b=eW x)->h.get? S=eW (lO #[] c1)->codeAny (hI prog w) A (.builtin "list.extend.loop" {[.ref S,.ref I,res],[]}) R {s with heap:=h,toks:=tk}:=λh c1 tk hk D=>
  codeAny_extend_loopS (BN (prog:=prog) (w:=w) (A:=A.in1) y I l z items hn).toS hn _ C _ items.size 0 {s with heap:=h,toks:=tk} _ _ rfl (Nat.zero_le _) {Nat.zero_le _,by simpa using c.at λo e=>hk _ _ (Ne.symm p) e,IsTup.mv hl λo e=>hk _ _ (Ne.symm t) e} D (ItemsOf.nil _) λs' m g hm G H=>by
   rw [Moved.eq_with hm];refine B s'.heap s'.toks m g (λb ob k K e=>hm.heap b ob (λa=>?_) (hk b ob k e)) G H
   rcases d8.mp a with L|a
   .exact k L
   .exact K (d3.mp a)
 unfold ix.List.listExtendWith;refine ar (wpAny_typeOf c.typeIs ?_);have M:ix.List.listSameRef (.ref S) (.ref I)=fx:=by simp [ix.List.listSameRef,p]
 have N:(fP.type (zu 8)==fP.type "list")=fx:=↑2
 have O:(fP.type (zu 8)==fP.type "tuple")=fx:=↑2
 simp! [M,N,O,Bool.or_false,d2,if_false];refine ar (vF c ?_);refine ar (wpAny_holding (Fp c hl hn λb tk=>?_));refine wpAny_ite_split (λZ=>?_) (λZ=>bc {plainId_quiet F.plain_extend_loop _,j _ d _ (λb x Z q=>q) r});refine ar (wpAny_rule (ar ?_));show hD _ _ (updateSeq S (·.push .none)>>=λZ=>updateSeq S (·.pop)) _ _ _;refine ar (wpAny_updateSeq (s:={s with toks:=tk}) r rfl ?_);have u:=hZ.get?_update_self (Obj.mapSeq (·.push fP.none)) r rfl;refine wpAny_updateSeq (hz:=by seq_fits) u rfl ?_;have P:=hZ.get?_update_self (Obj.mapSeq (·.pop)) u rfl;exact bc {plainId_quiet F.plain_extend_loop _,j _ _ _ (λb x k q=>(hZ.get?_update_other _ _ (Ne.symm k)).trans ((hZ.get?_update_other _ _ (Ne.symm k)).trans q)) P}
def pO{Q:kd}(t:A.handled=eX){I l:g5}(u:l≠I)(d:f6 s.heap I l ((items.size:Int)-1))(hl:IsTup s.heap l items)
 (y:∀h' tk g j,(∀b o,b≠I->s.heap.get? b=eW o->h'.get? b=eW o)->
  h'.get? (zz9 s)=eW (lO g j)->ItemsOf (λi v=>items[items.size-1-i]?=eW v) g items.size->Q (.ref (zz9 s)) {s with heap:=h',toks:=tk}) (hn:items.size<=h9):
 hD (hI prog w) A (call (.type "list") [.ref I]) Q E s:=by
 refine callType_codes (Q₁:=λobj a=>obj=.ref (zz9 s)/\a={s with heap:=s.heap.push {cls:=.type "list",data:=.seq #[]}}) F.called_list (F.typeCall_list_1 _) F.entry_list_init
  (code_list_new _ ⟨rfl,rfl⟩) λobj a f=>?_
 let(rfl,rfl):=f;have h:(s.heap.push {cls:=.type "list",data:=.seq #[]}).get? (zz9 s)=eW {cls:=.type "list",data:=.seq #[]}:=c8 _ rfl;have q:(zz9 s)≠I:=λe=>let⟨o,k,_⟩:=d;absurd (bX k) (by rw [e];exact Nat.lt_irrefl _);have r:(zz9 s)≠l:=λe=>let⟨o,k,_⟩:=hl;absurd (bX k) (by rw [e];exact Nat.lt_irrefl _);refine{{_,h,rfl},F.args_list_init_2 _ _,?_};show hD _ _ (do let old<-ix.List.listItems (.ref (zz9 s));ix.List.listUpdate (.ref (zz9 s)) (λZ=>#[]);letGo old.toList.reverse;ix.List.listExtendWith (.ref (zz9 s)) (.ref I) .none) _ _ _;refine ar ?_;unfold ix.List.listItems;refine ar (wpAny_seqItems h rfl (bc ?_));show hD _ _ (updateSeq (zz9 s) (λZ=>#[])>>=λZ=>letGo (#[]:Array fP).toList.reverse>>=λZ=>ix.List.listExtendWith (.ref (zz9 s)) (.ref I) .none) _ _ _;refine ar (wpAny_updateSeq h rfl ?_);have c:=hZ.get?_update_self (Obj.mapSeq (λZ=>(#[]:Array fP))) h rfl
 have m:∀b o,b≠(zz9 s)->s.heap.get? b=eW o->((s.heap.push {cls:=.type "list",data:=.seq #[]}).update (zz9 s) (Obj.mapSeq (λZ=>(#[]:Array fP)))).get? b=eW o:=
  λb o p e=>(hZ.get?_update_other _ _ (Ne.symm p)).trans (aT _ e)
 refine ar (wpAny_letGo ?_);refine Hk (A:=A.in1) (hn:=hn) t u (d.at λo e=>m _ _ (Ne.symm q) e) (IsTup.mv hl λo e=>m _ _ (Ne.symm r) e) _ q r .none _ c λh' tk g j hk z B=>?_;exact{rfl,y h' tk g j (λb o p e=>hk b o (dV (bX e)) p (m b o (dV (bX e)) e)) z B}
variable{te:TE}{p1 p2 Fb:Pos}
def Bp(L:X.calm=e6)(M:Gl X "list")(hm:X.mg "list"=eX)(N:Gl X (zu 8))(O:X.mg (zu 8)=eX)(h:PE X e te)(he:starEach [e] X.env=(fx,eval e X.env)::starEach [] X.env):
 PE X (.Call (.Name "list" p1) [.Call (.Name (zu 8) p2) [e] [] Fb] [] pos) (λj H Q=>te j H λx H1=>∃l vs,x=.ref l/\gz X.K H1 l vs/\∀p,H1 p=eX->Q (.ref p) (upd H1 p (.lst vs.reverse))):=by
 intro P s j H Q I q;refine wpAny_Call_Name_kw (j4 I M hm (u:=.type "list") ↑1 ?_);refine PyProof.Rows.callWith_type1 ?_ rfl rfl;show hD _ _ (spliced ((fx,eval (.Call (.Name (zu 8) p2) [e] [] Fb) X.env)::backTo pos (starEach [] X.env))) _ _ s;refine Calls.spliced_cons ?_;refine wpAny_Call_Name_kw (j4 I N O (u:=.type (zu 8)) ↑1 ?_);refine PyProof.Rows.callWith_type1 (bL (bQ h dA he Fb P s j H (λxs H1=>RL xs λx=>∃l vs,x=.ref l/\gz X.K H1 l vs/\∀p,H1 p=eX->Q (.ref p) (upd H1 p (.lst vs.reverse))) I q) λus d ⟨xs,H1,g,R,k⟩=>?_) he rfl
 .let(x,rfl,l,vs,rfl,S,k):=IP k;let(u,rfl,T):=vals1 R;cases T;let(f,B,m,U):=g.tuple S;have C:=B.length;have D:f.toArray.size<=sizeLine:=by simp! [a5]<;>lia
  refine kE m D λr=>?_;refine Calls.spliced_nil ?_;let(ol,t,_):=id m;have V:l≠(zz9 d):=λz=>absurd (bX t) (by rw [z];exact Nat.lt_irrefl _)
  refine pO (s:={d with heap:=d.heap.push (Ol l ((f.toArray.size:Int)-1)),toks:=r}) (g.ok.hd L) V {_,c8 _ rfl,rfl,rfl} (IsTup.mv m λo z=>aT _ z) (λW Y c Z kp e y=>?_) D;have rZ:c.toList=f.reverse:=by
   refine List.ext_getElem? λi=>?_;by_cases F:i<f.length
   .rw [List.getElem?_reverse F];have hs:c.size=f.length:=by rw [y.1];simp
    have G:i<c.size:=by lia
    have:=y.2 i c[i] (eu G);rw [Array.getElem?_toList,eu G,<-this];simp
   .rw [List.getElem?_eq_none (by rw [d1,y.1];simpa using F),List.getElem?_eq_none (by rw [List.length_reverse];lia)]
  have rv:Vals vs.reverse c.toList:=by rw [rZ];exact F3 B
  exact{.ref ((zz9 d)+1),_,g.laid (t':=Y) (a:=(zz9 d)+1) (λb o z=>kp b o (dV (bX z)) (aT _ z)) (Nat.le_succ _) (show bT X.prog X.w _ W _ (.lst _) from{by rw [List.length_reverse];exact U,c.toList,Z,rv,zx6 e}),by rw [hZ.size_push];rfl,k _ (g.aM.fresh (Nat.le_succ _))}
end
end L2
namespace Ci
open L2
section
variable{Γ:Pg}{W:Wd}{F:aN}{sc:hX}{k:Nat}
def Bv{p:PV}(h:Rep W G p v):∀{ps:List PV} {vs:List V},ah W G ps vs->ah W G (ps++[p]) (vs++[v]):=by
 intro ps
 induction ps with
 |nil=>
  intro vs t;have:=t.length
  cases vs with
  |nil=>exact .cons h .nil|cons _ _=>cases this
 |cons q ps a=>intro vs t;let(u,r,rfl,b,t):=t.aZ;exact .cons b (a t)
def oV:∀{ps:List PV} {vs:List V},ah W G ps vs->ah W G ps.reverse vs.reverse:=by
 intro ps
 induction ps with
 |nil=>
  intro vs t;have:=t.length
  cases vs with
  |nil=>exact .nil|cons _ _=>cases this
 |cons q ps a=>intro vs t;let(u,r,rfl,b,t):=t.aZ;rw [List.reverse_cons,List.reverse_cons];exact Bv b (a t)
theorem Hz(C:zv4 X)(e:Γ.qt=fx){a:E}{b:hB}{f i j:Pos}(m:gj sc "list"=e6)(hm:Γ.bs.contains "list"=e6)(q:gj sc (zu 8)=e6)(r:Γ.bs.contains (zu 8)=e6)(s:GE X W F a b)(he:starEach [b] X.env=(fx,eval b X.env)::starEach [] X.env):
 GE X W F (.Eh a) (.Call (.Name "list" f) [.Call (.Name (zu 8) i) [b] [] j] [] pos):=
 (Bp (C.calm e) (dm C m) (C.bs _ (d9.mp hm)) (dm C q) (C.bs _ (d9.mp r)) s he).imp λO H Q h=>by
  let(P,G,env,sr,o):=h;rw [az] at o;refine one sr o λp v u y g t c o1=>?_
  cases p with
  |tup xs=>let(l,z,rfl,d,A):=t.top.tup c.sub;rw [C.K] at d;exact{l,z,rfl,d,λp B=>d7.lst (W:=W) (G:=u) (H:=y) (xs:=xs.reverse) (λw D I L M=>o1 w D I (g.trans L) (.of M)) c.sub (oV A) B}|_=>exact d6 o1
def Mf(C:zv4 X){a:E}{A st:hB}{I:Pos}(L:GE X W F a A)(hs:GE X W F (.neg (.cst (.int 1))) st):GE X W F (.rev a) (.Subscript A (.Slice eX eX (eW st) I) pos):=
 (NY (Gk.or (Gk.or Oj Oh) Oi) L hs).imp λB H Q h=>by
  let(M,G,env,sr,o):=h;rw [az] at o;refine one sr o λp v c D g t O o1=>{M,c,env,O,?_};have e:az F (.neg (.cst (.int 1))) env=.ok (.int (-1)):=by rw [az,az];rfl
  rw [e];intro P G2 d g2 t2;refine{t2.top.int,?_};have f:=t.grow g2
  cases p with
  |str z=>
   by_cases hl:z.length<=cb
   .have o2:Out X W (if z.length<=cb then Res.ok (PV.str (md z)) else .bad) B c D _:=o1;rw [if_pos hl] at o2;exact .inr {z,f.top.str,j7 hl,o2 _ G2 d (g.trans g2) (.of .s)}
   .have o2:Out X W (if z.length<=cb then Res.ok (PV.str (md z)) else .bad) B c D _:=o1;rw [if_neg hl] at o2;exact o2.elim
  |tup xs=>let(l,i,rfl,b,j):=f.top.tup g2.sub;rw [C.K] at b;exact .inl (.inl {l,i,rfl,b,λp m=>d7.tup (W:=W) (G:=G2) (H:=d) (xs:=xs.reverse) (λw q r u y=>o1 w q r ((g.trans g2).trans u) (.of y)) g2.sub (oV j) m})|lst xs=>let(l,i,rfl,b,j):=f.top.lst g2.sub;exact .inl (.inr {l,i,rfl,tm C.K b,λp m=>d7.lst (W:=W) (G:=G2) (H:=d) (xs:=xs.reverse) (λw q r u y=>o1 w q r ((g.trans g2).trans u) (.of y)) g2.sub (oV j) m})|_=>exact d6 o1
end
end Ci
namespace L2
open PySem.Spec PyProof.Rows PySem.W
end L2
namespace Ci
open L2
section
variable{Γ:Pg}{W:Wd}{F:aN}{sc:hX}{k:Nat}
theorem Ma(C:zv4 X){a b:E}{r w:hB}{c L:Pos}(S:GE X W F a r)(hk:GE X W F b w)(T:attributeBase r "get" X.env (eval r X.env)=eval r X.env)(hl:(c.endLine==L.line)=e6)(hs:starEach [w] X.env=(fx,eval w X.env)::starEach [] X.env):
 GE X W F (.get a b) (.Call (.Attribute r "get" c) [w] [] L):=
 (EO (by have:=C.room.un;lia) S hk {T,by rw [hs];rfl,hl,by rw [hs];rfl}).imp λy H Q h=>by
  let(H0,G,env,sr,o):=h;rw [az] at o;refine one sr o λp v G1 H1 g t M o1=>?_
  cases p with
  |cy i z=>
   let(d,us,rfl,n,hd,l):=t.top.cy M.sub;refine{d,rfl,.inl {_,hd},?_};refine one M o1 λq u G2 j g2 t2 U o2=>?_;let(d',B,e,D,I,O):=(t.grow g2).top.cy U.sub
   cases e;cases K:fg q with
   |none=>have m:Out X W ((Res.of (fg q)).bind _) y G2 j _:=o2;rw [K] at m;exact d6 m|some f=>
    have m:Out X W ((Res.of (fg q)).bind _) y G2 j _:=o2;rw [K] at m;have V:=fA K;subst V;obtain rfl:=t2.top.str;refine{_,.inl {_,ki f,I,rfl,rfl},?_}
    .rw [iB f i B];cases A:bS i z f with
     |some pv=>let(Y,Z,fY):=lR O A;rw [Z];have s:Out X W (Res.ok ((bS i z f).getD .aP)) y G2 j _:=m;rw [A] at s;exact s Y G2 j (g.trans g2) (.of fY)|none=>
      have:bS i B f=eX:=by have P:=iT f i B D;have R:=iT f i z (by rw [O.length] at D;exact D);rw [A] at R;rw [<-R] at P;exact Option.isSome_eq_false_iff.mp P |> Option.isNone_iff_eq_none.mp
      rw [this];have s:Out X W (Res.ok ((bS i z f).getD .aP)) y G2 j _:=m;rw [A] at s;exact s .aP G2 j (g.trans g2) (.of .n)
  |_=>exact d6 o1
end
theorem qI{W:Wd}:∀{fs:List (Str×PV)} {vs:List V},fs.lookup f=eW q->ah W G (fs.map (·.2)) vs->∃v,((fs.map (·.1)).zip vs).lookup f=eW v/\Rep W G q v
 |[],_,h,_=>by cases h
 |(g,p)::fs,vs,h,l=>by
  let(v,r,rfl,b,c):=ah.aZ (p:=p) (ps:=fs.map (·.2)) l;rw [ez] at h;show∃a,List.lookup f ((g,v)::((fs.map (·.1)).zip r))=eW a/\Rep W G q a
  rw [ez];cases e:f==g with
  |true=>rw [e] at h;cases h;exact⟨v,rfl,b⟩
  |false=>rw [e] at h;exact qI h c
section
variable{Γ:Pg}{W:Wd}{F:aN}{sc:hX}{k:Nat}
def L9(C:zv4 X){i:Nat}(h:(N[i]?==eW x&&kg sc x&&okN x)=e6)(s:cQ f≠dJ):GE X W F (.fld i f) (.Attribute (.Name x np) f pos):=by
 refine(NT (Dm C h) rfl).imp λt H Q u=>?_;let(w,G,env,sr,o):=u
 have o:Out X W ((az F (.var i) env).bind λp=>F (cQ f) [p]) t G H λp=>∀v e c,aE W G H e c->Got W w e c (.fld i f) p v->Q v c:=by
  have d:az F (.var i) env=mO env[i]?:=by unfold az;rfl
  rw [d];unfold az at o;exact o
 refine one sr o λp v y A g1 B D o1=>?_;have E:F (cQ f) [p]≠.bad:=λz=>by rw [z] at o1;exact o1
 let(n,ob,q,rfl,g,d,I,e3,K,L):=C.fld f p s E;rw [e3] at o1;have j:=B.rep rfl;simp! [Rep] at j;let(O,b,rfl):=j;rw [g] at b;cases b;let(_,P,m,l):=D.tab.o n ob g;rw [ny d] at m;let(r,M,rv):=qI I l;exact{ob.a,ob.C,ob.dx,_,r,rfl,m,K,L,M,o1 r y A g1 (.of rv)}
def L7(C:zv4 X){a:E}(g:GE X W F a p)(he:eR a=e6):GE X W F (.con a) p:=by
 refine L2.PE.imp g λi H Q h=>?_;let(j,G,env,sr,o):=h;have o:Out X W ((az F a env).bind λp=>F dJ [p]) i G H λp=>∀v d c,aE W G H d c->Got W j d c (.con a) p v->Q v c:=by unfold az at o;exact o
 refine one sr o λq v m r g1 s t o1=>?_;have u:F dJ [q]≠.bad:=λz=>by rw [z] at o1;exact o1
 let(n,ob,rfl,e,w,e3):=C.con q u;rw [e3] at o1;have f:=s.rep he;simp! [Rep] at f;let(y,b,rfl):=f;rw [e] at b;cases b;exact o1 (.ref ob.a) m r g1 {.inr (Hc t.tab.o e w),nofun}
def L8(C:zv4 X):GE X W F .Pc (.Dict [] [] pos):=by
 intro e s c H Q I h;let(f,G,env,sr,o):=h;have o:Out X W (Res.ok (PV.cy [] [])) c G H λp=>∀v d a,aE W G H d a->Got W f d a .Pc p v->Q v a:=by unfold az at o;exact o
 refine wpAny_mono (vw e s c H (λv a=>∃p,v=.ref p/\H p=eX/\a=upd H p (.dK [])) I λp b=>⟨p,rfl,b,rfl⟩) ?_ λZ Z z=>z
 rintro u j ⟨v,a,i,rv,p,rfl,b,rfl⟩
 let(ob,J):=i.rR aq;rw [zT] at J;refine{_,_,J,rv,?_};have g:aE W G H (upd G p (.bR ob (.dK []))) (upd H p (.bR ob (.dK []))):=.new sr.sub b;refine o (.ref p) _ _ g (.of ?_);simp! [Rep];exact{p,ob,[],rfl,rfl,aq,.nil}
set_option backward.match.sparseCases false
def My{e:E}(h:GE X W F e p)(he:∀a,isTrue p X.env a=(do let v<-a;standAt p.pos;holding [v] (truthy v))):GT X W F e p:=
 L2.PT.imp (N7 h he) λb H Q c=>KG b H Q c
theorem wU{sc:hX}:∀{a:Es} {ps:List hB},dw Γ N sc a ps=e6->∀env pos,(backTo pos (starEach ps env)).all (λx=>!x.1)=e6
 |.nil,[],_,_,_=>rfl|.cons e a,p::ps,h,env,pos=>by replace h:=aj h;rw [notStar h.1];show(e6&&(backTo pos (starEach ps env)).all (λx=>!x.1))=e6;rw [wU h.2];rfl|.nil,_::_,h,_,_=>aO h|.cons _ _,[],h,_,_=>aO h
theorem xi{sc:hX}:∀{a:Es} {ps:List hB},dw Γ N sc a ps=e6->ps.length=fB a
 |.nil,[],_=>rfl|.cons e a,p::ps,h=>by replace h:=aj h;rw [bV,xi h.2];rfl|.nil,_::_,h=>aO h|.cons _ _,[],h=>aO h
structure Xi(X:Cx)(W:Wd)(F:aN)(e:E)(p:hB):Prop where
 ge:GE X W F e p
 gt:gk e=e6->GT X W F e p
 gw:gk e=e6->∀op vs pos,p=.BoolOp op vs pos->GW X W F e p
def aY{e:E}(h:GE X W F e p)(he:∀a,isTrue p X.env a=(do let v<-a;standAt p.pos;holding [v] (truthy v)))(c:∀b vs pos,p≠.BoolOp b vs pos):Xi X W F e p:=
 {h,λZ=>My h he,λZ b vs pos e=>absurd e (c b vs pos)}
def isTrue_plain{env:Env}(h:(match p with|.UnaryOp .Not _ _=>fx|.BoolOp .. =>fx|.IfExp .. =>fx|.Compare .. =>fx|_=>e6)=e6):∀b,isTrue p env b=(do let v<-b;standAt p.pos;holding [v] (truthy v)):=by
 intro b;cases p with
 |UnaryOp op a pos=>cases op<;>first|rfl|(exact aO h)
 |BoolOp _ _ _=>exact aO h|IfExp _ _ _ _=>exact aO h|Compare _ _ _ _=>exact aO h|_=>rfl
def eZ{env:Env}(h:dZ po=e6):attributeBase po m env (eval po env)=eval po env:=by
 cases po<;>first|rfl|(exact aO h)
def Ca{env:Env}(h:Kp po=e6):attributeBase po m env (eval po env)=eval po env:=by
 cases po with
 |Call f as b p=>
  cases as with
  |nil=>exact aO h|cons a as=>cases f<;>rfl
 |_=>rfl
def Ln{c:Const}{a:Nat}(h:Qu q c=e6):GE X W F (.cst q) (.Constant c a pos):=by
 cases q with
 |aP=>cases Nk h;exact iy NV λG=>.n
 |bl b=>let(x,e,h):=af h;cases La e;cases eq_of_beq h;exact iy RT λG=>.b
 |int i=>let(x,e,h):=af h;cases DY e;cases eq_of_beq h;exact iy ET λG=>.i
 |str z=>let(x,e,h):=af h;cases FE e;cases eq_of_beq h;exact iy EY λG=>.s
 |_=>exact aO h
def Ej{b:Type}{r:Res b}{c:b->Prop} [∀a,Decidable (c a)]{f:b->Res (List PV)}(e:(r.bind λa=>if c a then(f a).bind λys=>.ok (.lst ys) else .bad)=.ok q):∃ys,q=.lst ys:=by
 let(d,_,e):=Res.aJ e;split at e
 .let(ys,_,e):=Res.aJ e;cases e;exact{_,rfl}
 .cases e
def Ha{b:Nat}{c:List Nat}{d:Tg}{a:E}(env:Sl)(q:PV)(e:az F (.comp b c d it a) env=.ok q):∃ys,q=.lst ys:=by rw [az] at e;exact Ej e
def Av{b:Nat}{d:List Nat}{f:Tg}{c a:E}(env:Sl)(q:PV)(e:az F (.fH b d f it c a) env=.ok q):∃ys,q=.lst ys:=by rw [az] at e;exact Ej e
mutual
theorem bp:∀(e:E) {Γ:Pg} {N:List Str} {sc:hX} {X:Cx} (C:zv4 X) (p:hB),aI Γ N sc e p=e6->Xi X W F e p
 |.var i,Γ,N,sc,X,C,p,h=>by let(x,_,rfl,B):=RD h;clear h;have h:=B;clear B;exact aY (Dm C h) (λ_=>rfl) nofun|.JI i,Γ,N,sc,X,C,p,h=>by let(x,_,rfl,B):=RD h;clear h;have h:=B;clear B;exact aY (Mh C h) (λ_=>rfl) nofun|.cst q,Γ,N,sc,X,C,p,h=>by let(c,_,_,rfl,B):=XH h;clear h;have h:=B;clear B;refine aY (Ln h) (λ_=>rfl) nofun|.glob g q,Γ,N,sc,X,C,p,h=>by let(x,_,rfl,B):=RD h;clear h;have h:=B;clear B;exact aY (Hy C h) (λ_=>rfl) nofun|.call f as,Γ,N,sc,X,C,p,h=>by
  let(g,args,_,_,rfl,B):=yx h;clear h;have h:=B;clear B;replace h:=aj h
  try simp! [zza,zzy] at h
  let(((((rfl,d),j),u),H),A):=h;have ga:=gZ as C args A
  cases as with
  |nil=>
   cases args with
   |nil=>exact aY (Dj C d j u) (λ_=>rfl) nofun|cons _ _=>exact aO A
  |cons e es=>
   cases args with
   |nil=>exact aO A|cons q qs=>have M:=aj A;exact aY (Hx C d j u H ga (notStar M.1 _ _) (cI M.2 _ _)) (λ_=>rfl) nofun
 |.blt b as,Γ,N,sc,X,C,p,h=>by
  let(T,h):=zj h;let(g,args,_,_,rfl,B):=yx h;clear h;have h:=B;clear B;replace h:=aj h
  try simp! [zza,zzy] at h
  let((((rfl,d),j),u),A):=h;have ga:=gZ as C args A
  cases as with
  |nil=>exact aO u|cons e es=>
   cases args with
   |nil=>exact aO A|cons q qs=>have M:=aj A;exact aY (L5 C T b d j ga (notStar M.1 _ _) (cI M.2 _ _)) (λ_=>rfl) nofun
 |.ty t a,Γ,N,sc,X,C,p,h=>by
  let(g,args,_,_,rfl,B):=yx h;clear h;have h:=B;clear B;let(I,O,y,j):=JM h;let(tn,_,D,u):=RD j;dsimp only at y D;subst y D;clear h j;have h:=u;clear u;replace h:=aj h
  try simp! [zza,zzy] at h
  let((((((rfl,d),j),rfl),u),H),A):=h;exact aY (QC C d j u H (bp a C I A).ge (notStar A)) (λ_=>rfl) nofun
 |.yT c a,Γ,N,sc,X,C,p,h=>by
  let(g,args,_,_,rfl,B):=yx h;clear h;have h:=B;clear B;let(I,O,y,j):=JM h;let(tn,_,D,u):=RD j;dsimp only at y D;subst y D;clear h j;have h:=u;clear u;replace h:=aj h
  try simp! [zza] at h
  let(((((((Q,d),j),P),u),H),A),M):=h;cases zzy.mp Q;cases zzy.mp P;exact aY (Mb C d j u H A (bp a C I M).ge (notStar M) C.Nr) (λ_=>rfl) nofun
 |.dY m o as,Γ,N,sc,X,C,p,h=>by
  let((f,args,kws,L),e,d):=af h;have z:=gE e;let((po,attr,apos),P,j):=af d;have y:=gD P;have u:=aj j;have D:=dH u.1;dsimp only at z y D;subst z y D;clear h d j;have h:=aj u.2;clear u;simp! [zza] at h;let((((((Q,d),j),u),H),A),M):=h;cases zzy.mp Q;have ga:=gZ as C args A
  cases as with
  |nil=>exact aO d|cons e es=>
   cases args with
   |nil=>exact aO A|cons q qs=>have Z:=aj A;have hl:=xi A;refine aY (Md C (bp o C po H).ge ga (eZ M) ?_ u (notStar Z.1 _ _) (cI Z.2 _ _)) (λ_=>rfl) nofun;rw [wU A];have MA:=zzY j;refine Bool.and_eq_true_iff.mpr {rfl,zzh ?_};rw [hl];exact MA
 |.bin o a b,Γ,N,sc,X,C,p,h=>by let(q,e,d):=af h;let(_,rfl):=K8 e;clear h;have h:=aj d;have K:=aj h.1;rw [<-zzY K.1];exact aY (L4 C (bp a C _ K.2).ge (bp b C _ h.2).ge) (λ_=>rfl) nofun|.cmp o a b,Γ,N,sc,X,C,p,h=>by let(I,ops,cs,_,rfl,d):=S9 h;let(op,y,j):=fw d;let(O,D,u):=fw j;dsimp only at y D;subst y D;clear h d j;have h:=u;clear u;replace h:=aj h;have K:=aj h.1;cases zzY K.1;have d:=K.2;have j:=h.2;exact{L6 C (bp a C _ d).ge (bp b C _ j).ge (sC j _),λ_=>Mw C (bp a C _ d).ge (bp b C _ j).ge (sC j _),(λ_ _ _ _ z=>nomatch z)}
 |.ch o1 o2 a b c,Γ,N,sc,X,C,p,h=>by
  let(I,ops,cs,_,rfl,d):=S9 h;let(op1,op2,y,j):=JM d;let(O,pc,D,u):=JM j;dsimp only at y D;subst y D;clear h d j;have h:=u;clear u;replace h:=aj h
  try simp! [zza,zzN] at h
  let((((rfl,rfl),d),j),u):=h;have hm:lastMarks [mZ o1,mZ o2] [O,pc]=fx:=sC u _;exact{QB C (bp a C _ d).ge (bp b C _ j).ge (bp c C _ u).ge hm,λ_=>QE C (bp a C _ d).ge (bp b C _ j).ge (bp c C _ u).ge hm,(λ_ _ _ _ z=>nomatch z)}
 |.not a,Γ,N,sc,X,C,p,h=>by let(o,I,_,rfl,d):=WS h;clear h;have h:=aj d;cases DW h.1;have s:=bp a C I h.2;exact{Me s.ge,λz=>Mx (s.gt z),(λ_ _ _ _ z=>nomatch z)}
 |.fld i f,Γ,N,sc,X,C,p,h=>by let((o,m,ap),Q,d):=af h;let(x,P,j):=af d;let(np,z):=eS P;dsimp only at z j;subst z;have e3:=gD Q;dsimp only at e3;subst e3;rw [zza,zza,zzy,zzN] at j;let((rfl,u),H):=j;exact aY (L9 C u H) (λ_=>rfl) nofun|.con a,Γ,N,sc,X,C,p,h=>by
  have d:=aj h;exact{L7 C (bp a C p d.2).ge (by cases a<;>first|rfl|exact aO d.1),nofun,nofun}
 |.Pc,Γ,N,sc,X,C,p,h=>by let(L,rfl):=yP h;exact aY (L8 C) (λ_=>rfl) nofun|.neg a,Γ,N,sc,X,C,p,h=>by let(o,I,_,rfl,d):=WS h;clear h;have h:=aj d;cases uV h.1;exact aY (Dk (bp a C I h.2).ge) (λ_=>rfl) nofun
 |.and a b,Γ,N,sc,X,C,p,h=>by
  let(o,vs,L,rfl,d):=Uu h;let((I,O),P,j):=af d;clear h d;have h:=aj j;clear j
  try simp! [zza] at h
  let(((K,he),d),j):=h;cases DS K;have sa:=bp a C I d;have R:=bp b C O j
  rcases wD P with z|⟨q,c,r,z,y⟩
  .dsimp only at z;subst z;have gw:gk (.and a b)=e6->GW X W F (.and a b) (.BoolOp .And [I,O] L):=λz=>by
    have z:=aj z;exact Dy (sa.gt z.1) (pw_and1 (R.gt z.2))
   exact{Di he sa.ge (EV R.ge),λz=>(gw z).pt,λz _ _ _ _=>gw z}
  .dsimp only at z y;subst z y;have gw:gk (.and a b)=e6->GW X W F (.and a b) (.BoolOp .And (I::q::c::r) L):=λz=>by
    have z:=aj z;exact Dy (sa.gt z.1) (R.gw z.2 _ _ _ rfl)
   exact{Di he sa.ge R.ge,λz=>(gw z).pt,λz _ _ _ _=>gw z}
 |.or a b,Γ,N,sc,X,C,p,h=>by
  let(o,vs,L,rfl,d):=Uu h;let((I,O),P,j):=af d;clear h d;have h:=aj j;clear j
  try simp! [zza] at h
  let(((K,he),d),j):=h;cases yS K;have sa:=bp a C I d;have R:=bp b C O j
  rcases wD P with z|⟨q,c,r,z,y⟩
  .dsimp only at z;subst z;have gw:gk (.or a b)=e6->GW X W F (.or a b) (.BoolOp .Or [I,O] L):=λz=>by
    have z:=aj z;exact Kf (sa.gt z.1) (pw_or1 (R.gt z.2))
   exact{Kd he sa.ge (EV R.ge),λz=>(gw z).pt,λz _ _ _ _=>gw z}
  .dsimp only at z y;subst z y;have gw:gk (.or a b)=e6->GW X W F (.or a b) (.BoolOp .Or (I::q::c::r) L):=λz=>by
    have z:=aj z;exact Kf (sa.gt z.1) (R.gw z.2 _ _ _ rfl)
   exact{Kd he sa.ge R.ge,λz=>(gw z).pt,λz _ _ _ _=>gw z}
 |.ite c a b,Γ,N,sc,X,C,p,h=>by
  let(q,e,d):=af h;let(_,rfl):=DO e;clear h;have h:=aj d;clear d
  try simp! [zza] at h
  let(((((K,d),j),u),H),A):=h;exact{Mc d j ((bp c C _ u).gt K) (bp a C _ H).ge (bp b C _ A).ge,nofun,(λ_ _ _ _ z=>nomatch z)}
 |.tup as,Γ,N,sc,X,C,p,h=>by let(ps,e,d):=af h;let(_,_,rfl):=nF e;clear h;have h:=aj d;have K:=aj h.1;exact aY (Mi K.1 (zzY K.2) (gZ as C _ h.2)) (λ_=>rfl) nofun|.lst as,Γ,N,sc,X,C,p,h=>by let(ps,e,d):=af h;let(_,rfl):=xl e;clear h;have h:=aj d;have K:=aj h.1;exact aY ((Dq K.1 (zzY K.2) (gZ as C _ h.2)).ge lst_is) (λ_=>rfl) nofun|.sub a b,Γ,N,sc,X,C,p,h=>by let(I,O,_,rfl,B):=Tv h;clear h;have h:=B;clear B;replace h:=aj h;exact aY (Mg C (bp a C _ h.1).ge (bp b C _ h.2).ge (E5 h.2)) (λ_=>rfl) nofun|.rev a,Γ,N,sc,X,C,p,h=>by let(I,ps,_,rfl,d):=Tv h;let(pl,ph,pst,_,y,j):=YB d;let(st,D,u):=af j;let(uo,ue,_,S,H):=WS u;let(cc,_,_,z5,A):=XH H;clear h d j u H;have h:=aj A;clear A;simp! [zza] at h;let((((y1,y2),y3),y4),y5):=h;have w1:=Nq y1;have w2:=Nq y2;have w3:=uV y3;have w4:=DY (eq_of_beq y4);dsimp only at y D S z5 w1 w2 w3 w4;subst y D S z5 w1 w2 w3 w4;exact aY (Mf C (bp a C I y5).ge (Dk (iy ET λG=>.i))) (λ_=>rfl) nofun|.get a k,Γ,N,sc,X,C,p,h=>by let((f,as,kws,L),e3,u):=af h;have D:=gE e3;let((po,attr,apos),e4,H):=af u;have S:=gD e4;let(pk,z5,A):=fw H;have g:=aj A;simp! [zza] at g;let(((((n1,Q),M),Z),h8),B):=g;have z6:=dH n1;cases zzy.mp Q;dsimp only at D S z5 z6;subst D S z5 z6;exact aY (Ma C (bp a C po h8).ge (bp k C pk B).ge (Ca Z) M (notStar B _ _)) (λ_=>rfl) nofun
 |.Eh a,Γ,N,sc,X,C,p,h=>by let(T,h):=zj h;let(g,args,_,_,rfl,B):=yx h;clear h;have h:=B;clear B;let(z,y,j):=fw h;let(g2,a2,_,_,D,u):=yx j;let(I,S,H):=fw u;dsimp only at y D S;subst y D S;clear h j u;have h:=aj H;clear H;simp! [zza] at h;let((((((Q,d),j),P),u),H),A):=h;cases zzy.mp Q;cases zzy.mp P;exact aY (Hz C T d j u H (bp a C I A).ge (notStar A _ _)) (λ_=>rfl) nofun
 |.slice a lo hi,Γ,N,sc,X,C,p,h=>by let(I,ps,_,rfl,d):=Tv h;let(pl,ph,pst,_,y,j):=YB d;clear h d;have h:=aj j;simp! [zza] at h;have w:=Nq h.1.1.1;dsimp only at y w;subst y w;exact aY (Dl C (bp a C _ h.1.1.2).ge (Sm lo C pl h.1.2) (Sm hi C ph h.2)) (λ_=>rfl) nofun|.comp kk bf tg it elt,Γ,N,sc,X,C,p,h=>by let(T,h):=zj h;let(lp,gens,U,_,rfl,d):=VQ h;let((b9,i6,ifs,asy),y,j):=fw d;have u:=aj j;have D:=dH u.1;dsimp only at y D;subst y D;clear h d j;have h:=aj u.2;clear u;simp! [zza] at h;let((((((d,j),u),H),A),M),V):=h;have V:=zzY V;subst V;exact aY ((HB C T (nY d) j u (Jv it C b9 i6 H) (nj H _) A λY CY=>(bp elt CY lp M).ge).ge Ha) (λ_=>rfl) nofun|.fH kk bf tg it c elt,Γ,N,sc,X,C,p,h=>by let(T,h):=zj h;let(lp,gens,U,_,rfl,d):=VQ h;let((b9,i6,ifs,asy),y,j):=fw d;let(pc,D,u):=fw j;dsimp only at y D;subst y D;clear h d j;have h:=aj u;clear u;simp! [zza] at h;let((((((((K,d),j),u),H),A),M),Z),V):=h;have V:=zzY V;subst V;exact aY ((AL C T (nY d) j u (Jv it C b9 i6 H) (nj H _) A (λY CY=>(bp c CY pc M).gt K) λY CY=>(bp elt CY lp Z).ge).ge Av) (λ_=>rfl) nofun
theorem gZ:∀(a:Es) {Γ:Pg} {N:List Str} {sc:hX} {X:Cx} (C:zv4 X) (ps:List hB),dw Γ N sc a ps=e6->GA X W F a ps
 |.nil,Γ,N,sc,X,C,ps,h=>by
  cases ps with
  |nil=>exact L3|cons _ _=>exact aO h
 |.cons e a,Γ,N,sc,X,C,ps,h=>by
  cases ps with
  |nil=>exact aO h|cons p ps=>replace h:=aj h;exact Hv (bp e C p h.1).ge (gZ a C ps h.2) (notStar h.1 _ _)
theorem Sm:∀(o:Oe) {Γ:Pg} {N:List Str} {sc:hX} {X:Cx} (C:zv4 X) (p:Option hB),Lh Γ N sc o p=e6->PO X p (FK X W F o)
 |.no,Γ,N,sc,X,C,p,h=>by
  cases p with
  |none=>exact HC|some _=>exact aO h
 |.some e,Γ,N,sc,X,C,p,h=>by
  cases p with
  |none=>exact aO h|some p=>exact HD (bp e C p h).ge
theorem Jv:∀(it:I) {Γ:Pg} {N:List Str} {sc:hX} {X:Cx} (C:zv4 X) (b p:hB),uw Γ N sc b it p=e6->GI X W F b it p
 |.seq e,Γ,N,sc,X,C,b,p,h=>by exact Ml C (bp e C p h).ge|.sX e,Γ,N,sc,X,C,b,p,h=>by let(g,args,_,_,rfl,d):=yx h;clear h;have h:=d;clear d;let(q,r,c):=fw h;dsimp only at r;subst r;clear h;have h:=aj c;clear c;simp! [zza] at h;let(((i,j),c),f):=h;cases zzy.mp i;exact Mj C j c (notStar f) (bp e C q f).ge
 |.zip as,Γ,N,sc,X,C,b,p,h=>by
  let(g,args,_,_,rfl,d):=yx h;clear h;replace h:=aj d;clear d;simp! [zza] at h;let((((((t,i),j),c),f),m),o):=h;cases zzy.mp i;cases b<;>first|(exact aO t)|skip
  rw [ej,zzy,zzy] at m;cases as with
  |nil=>exact absurd m (by show¬(0=2\/0=3);lia)|cons a as=>
   cases args with
   |nil=>exact aO o|cons q qs=>have s:=aj (show(aI Γ N sc a q&&dw Γ N sc as qs)=e6 from o);exact Mm C j c f m (gZ (.cons a as) C (q::qs) o) (notStar s.1 _ _) (cI s.2 _ _)
end
set_option backward.match.sparseCases true
end
end Ci
namespace L2
open PySem.Spec PyProof.Rows
end L2
namespace Ci
open L2
section
variable{W:Wd}{G0:Hp}
def Own.KL{p:PV}(h:Own W H0 G H p v):∃a o,v=.ref a/\H a=eW o/\G a=eX/\H0 a=eX/\((∀b,aA G b->b a=eW o->Rep W b p (.ref a))\/∃g,o=.dK g/\∀ob b,aA G b->b a=eW (.bR ob (.dK g))->Rep W b p (.ref a)):=by
 cases p with
 |lst xs=>let(a,k,rfl,c,d,f,l):=h;exact{a,_,rfl,c,d,f,.inl λb s e=>.l (.inl (.inl e)) (ah.same s xs l)}|cy m i=>let(a,j,rfl,n,c,d,f,l):=h;exact{a,_,rfl,c,d,f,.inr {_,rfl,λob b s e=>by simp! [Rep];exact{a,ob,j,rfl,n,e,ah.same s i l}}}|aP=>exact h.elim|bl _=>exact h.elim|int _=>exact h.elim|str _=>exact h.elim|tup _=>exact h.elim|exc _=>exact h.elim|obj _=>exact h.elim
theorem Own.EC{p:PV}(h:Own W H0 G H p (.ref a))(ps:Array fP):H a≠eW (.gA ps):=λz=>by
 cases p with
 |lst xs=>let(b,d,e,c,_):=h;cases e;rw [z] at c;cases c
 |cy f qs=>let(b,g,e,_,c,_):=h;cases e;rw [z] at c;cases c
 |_=>exact h.elim
theorem LF(t:bu W G H0)(h:H0 a=eX)(n:Nat)(o:Ob)(e:W.ob[n]?=eW o):o.a≠a:=λz=>by let(_,c,b,_):=t.o n o e;rw [z,h] at b;cases b
theorem vQ{ob:HO}{d:Hp}(t:ko W G H)(g:G a=eX)(n:∀ps,H a≠eW (.gA ps))(h:∀b,b≠a->d b=H b):ko W (upd G a ob) d:=λP q m=>by
 let(i,ps,e,j,k):=t P q m;have f:P≠a:=λz=>by subst z;exact n _ e
 refine{by rw [ai f];exact i,ps,by rw [h P f];exact e,j,λc o y=>?_};let(p,oc,r,s,u,w,e3,A):=k c o y;exact{p,oc,r,s,u,bo g _ _ w,e3,A}
theorem zQ{ob:HO}{c:Hp}(t:bu W G H)(d:G a=eX)(n:∀ps,H a≠eW (.gA ps))(nf:∀(n:Nat) (o:Ob),W.ob[n]?=eW o->o.a≠a)(f:∀b,b≠a->c b=H b):bu W (upd G a ob) c:={vQ t.t d n f,λi o m=>by let(h,j,e,l):=t.o i o m;have g:o.a≠a:=nf i o m;exact{by rw [ai g];exact h,j,by rw [f _ g];exact e,ah.same (bo d) _ l}}
def Own.fT{p:PV}{d i:Hp}(h:Own W H0 G H p v)(j:v≠.ref a)(k:aA G d)(m:∀b,b≠a->d b=G b)(o:∀b,b≠a->i b=H b):Own W H0 d i p v:=by
 cases p with
 |lst xs=>let(b,q,rfl,e,f,g,l):=h;have c:b≠a:=λz=>j (by rw [z]);exact{b,q,rfl,by rw [o b c];exact e,by rw [m b c];exact f,g,ah.same k xs l}|cy t r=>let(b,s,rfl,n,e,f,g,l):=h;have c:b≠a:=λz=>j (by rw [z]);exact{b,s,rfl,n,by rw [o b c];exact e,by rw [m b c];exact f,g,ah.same k r l}|aP=>exact h.elim|bl _=>exact h.elim|int _=>exact h.elim|str _=>exact h.elim|tup _=>exact h.elim|exc _=>exact h.elim|obj _=>exact h.elim
def getElem?_modify{a:Type}(l:List a)(i j:Nat)(f:a->a):(l.modify i f)[j]?=if i=j then(l[j]?).map f else l[j]?:=by rw [List.getElem?_modify];split<;>simp_all
def uP(r:SR W H0 env σ G H)(g:aE W G0 H0 G H){i:Nat}{p:PV}{a:g5}{ob f:HO}{m:Hp}(C:env[i]?=eW (.own p))(F:σ[i]?=eW (eW (.ref a)))(I:Own W H0 G H p (.ref a))(Y:H a=eW ob)(y:G a=eX)(o:H0 a=eX)
 (O:∀D,aA G D->D a=eW f->Rep W D p (.ref a)) (P:m a=eW f) (w:∀b,b≠a->m b=H b):SR W H0 (env.modify i rS) σ (upd G a f) m/\aE W G0 H0 (upd G a f) m:=by
 have A:aA G (upd G a f):=bo y
 have sub:aA (upd G a f) m:=λb u e=>by
  by_cases d:b=a
  .subst d;rw [aq] at e;cases e;exact P
  .rw [ai d] at e;rw [w b d];exact r.sub _ _ e
 have base:∀{B:Hp},B a=eX->jb B H->jb B m:=λQ k b u e=>by
  have d:b≠a:=λz=>by rw [z,Q] at e;cases e
  rw [w b d];exact k b u e
 refine{{by rw [List.length_modify];exact r.len,sub,base o r.base,λj s e=>?_,λj l q R c K L e3 S=>?_,zQ r.tab y I.EC (LF r.jf o) w,zQ r.jf y (λZ z=>by rw [o] at z;cases z) (LF r.jf o) λZ Z=>rfl},{g.g.trans A,base o g.h,sub,λb M T U=>?_,λt=>vQ (g.tb t) y I.EC w}}
 .rw [getElem?_modify] at e;split at e
  .rename_i z;subst z;rw [C] at e;cases e;exact{_,F,_,rfl,O _ A aq}
  .rename_i z;let(o2,N,k2):=r.slot j s e
   refine{o2,N,?_};cases s with
   |no=>exact trivial|val q=>let(E,rfl,rv):=k2;exact{E,rfl,Rep.same A q rv}|own q=>let(E,rfl,V):=k2;refine{E,rfl,V.fT (a:=a) (λX=>?_) A (λb d=>ai d) w};subst X;exact z (r.apart i j p q a C e F N)
 .rw [getElem?_modify] at K L;have ne:∀{j:Nat} {q:PV},(if i=j then(env[j]?).map rS else env[j]?)=eW (.own q)->i≠j/\env[j]?=eW (.own q):=λ{j q} e=>by
   split at e
   .rename_i z;subst z;rw [C] at e;cases e
   .rename_i z;exact⟨z,e⟩
  exact r.apart j l q R c (ne K).2 (ne L).2 e3 S
 .have d:b≠a:=λz=>M (by rw [z];exact o);rw [ai d];exact g.own b M T U
def ou(r:SR W H0 env σ G H)(g:aE W G0 H0 G H)(i:Nat):(∃c,SR W H0 (env.modify i rS) σ c H/\aE W G0 H0 c H)\/∃a d,H a=eW (.dK d)/\∀o,∃c,SR W H0 (env.modify i rS) σ c (upd H a (.bR o (.dK d)))/\aE W G0 H0 c (upd H a (.bR o (.dK d))):=by
 have same:(∀p,env[i]?≠eW (.own p))->env.modify i rS=env:=λh=>by
  refine List.ext_getElem? λj=>?_;rw [getElem?_modify];split
  .rename_i e;subst e;cases q:env[i]? with
   |none=>rfl|some s=>
    cases s with
    |own p=>exact absurd q (h p)|no=>rfl|val p=>rfl
  .rfl
 by_cases u:∃p,env[i]?=eW (.own p)
 .let(p,k):=u;let(o,w,v,rfl,y):=r.slot i _ k;have A:=y;obtain⟨a,ob,rfl,f,B,C,m|⟨d,rfl,m⟩⟩:=y.KL
  .let(t,k2):=uP r g k w A f B C m f λZ Z=>rfl;exact .inl {_,t,k2}
  .refine .inr {a,d,f,λo=>?_};let(t,k2):=uP r g k w A f B C (m o) aq λb D=>ai D;exact{_,t,k2}
 .exact .inl {G,by rw [same λp z=>u ⟨p,z⟩];exact r,g}
def Et(r:SR W H0 env σ G H)(g:aE W G0 H0 G H){i:Nat}{p p':PV}{a:g5}{ob:HO}(k:env[i]?=eW (.own p))(hs:σ[i]?=eW (eW (.ref a)))(E:G a=eX)(w:H0 a=eX)(hn:Own W H0 G (upd H a ob) p' (.ref a)):
 SR W H0 (env.set i (.own p')) σ G (upd H a ob)/\aE W G0 H0 G (upd H a ob):=by
 have N:i<env.length:=(bD.mp k).1;have Pr:Own W H0 G H p (.ref a):=by let(o2,d,y,rfl,A):=r.slot i _ k;rw [hs] at d;cases d;exact A
 have B:∀C,H a≠eW (.gA C):=by let(o2,d,y,rfl,A):=r.slot i _ k;rw [hs] at d;cases d;exact A.EC
 have F:∀{I:Hp},ko W I H->ko W I (upd H a ob):=λt=>t.same (aA.refl _) (λ_ _ _ h=>h) λP C e=>by rw [ai (λz=>by subst z;exact B C e)];exact e
 have tab:bu W G H->bu W G (upd H a ob):=λt=>{F t.t,λn o m=>by let(O,Q,e,l):=t.o n o m;exact{O,Q,by rw [ai (LF r.jf w n o m)];exact e,l}};refine{{by rw [List.length_set];exact r.len,λb u e=>?_,λb u e=>?_,λj s e=>?_,λj l q q' c R S e3 T=>?_,tab r.tab,r.jf},{g.g,λb u e=>?_,λb u e=>?_,g.own,λt=>F (g.tb t)}}
 .rw [ai (λz=>by subst z;rw [E] at e;cases e)];exact r.sub _ _ e
 .rw [ai (λz=>by subst z;rw [w] at e;cases e)];exact r.base _ _ e
 .by_cases f:i=j
  .subst f;rw [ed N] at e;cases e;exact{_,hs,_,rfl,hn}
  .rw [cP f] at e;let(o2,d,K):=r.slot j s e
   refine{o2,d,?_};cases s with
   |no=>exact trivial|val q=>exact K|own q=>let(y,rfl,U):=K;refine{y,rfl,U.fT (a:=a) (λV=>?_) (aA.refl _) (λb L=>rfl) λb L=>ai L};subst V;exact f (r.apart i j p q a k e hs d)
 .have M:∀{j:Nat} {q:PV},(env.set i (.own p'))[j]?=eW (.own q)->∃D,env[j]?=eW (.own D):=λ{j q} e=>by
   by_cases f:i=j
   .subst f;exact⟨p,k⟩
   .rw [cP f] at e;exact⟨q,e⟩
  let(D,X):=M R;let(Y,Z):=M S;exact r.apart j l D Y c X Z e3 T
 .rw [ai (λz=>by subst z;rw [w] at e;cases e)];exact g.h _ _ e
 .rw [ai (λz=>by subst z;rw [E] at e;cases e)];exact g.sub _ _ e
def EK(r:SR W H0 env σ G H)(g:aE W G0 H0 G H){i:Nat}{p:PV}{ob:HO}(o:i<env.length)(u:H a=eX)(hn:Own W H0 G (upd H a ob) p (.ref a)):
 SR W H0 (env.set i (.own p)) (σ.set i (eW (.ref a))) G (upd H a ob)/\aE W G0 H0 G (upd H a ob):=by
 have w:aE W G H G (upd H a ob):=.VZ r.sub u;have k:=r.grow w;have m:∀{j:Nat} {q:PV},env[j]?=eW (.own q)->σ[j]?=eW (eW (.ref a))->False:=λ{j q} d f=>by let(o2,t,C,rfl,z):=r.slot j _ d;rw [f] at t;cases t;let(D,E,e3,y,_):=z.KL;cases e3;rw [u] at y;cases y
 refine{{by rw [List.length_set,List.length_set];exact r.len,k.sub,k.base,λj s e=>?_,λj l q A c d f e3 h=>?_,k.tab,k.jf},g.trans w}
 .by_cases b:i=j
  .subst b;rw [ed o] at e;cases e;exact{_,ed (by rw [<-r.len];exact o),_,rfl,hn}
  .rw [cP b] at e;let(o2,t,B):=k.slot j s e;exact{o2,by rw [cP b];exact t,B}
 .by_cases b:i=j
  .by_cases hl:i=l
   .exact b.symm.trans hl
   .exfalso;subst b;rw [ed (by rw [<-r.len];exact o)] at e3;rw [cP hl] at f h;cases e3;exact m f h
  .by_cases hl:i=l
   .exfalso;subst hl;rw [ed (by rw [<-r.len];exact o)] at h;rw [cP b] at d e3;cases h;exact m d e3
   .rw [cP b] at d e3;rw [cP hl] at f h;exact r.apart j l q A c d f e3 h
end
abbrev nu:E->Bool
 |.lst _=>e6|_=>fx
abbrev V5:E->Bool
 |.comp _ _ _ _ _=>fx|.fH _ _ _ _ _ _=>fx|_=>e6
abbrev c7:hB->Bool
 |.ListComp .. =>fx|.SetComp .. =>fx|.DictComp .. =>fx|_=>e6
abbrev RG:hB->Bool
 |.Tuple a _ _=>decide (3<a.length)|_=>e6
abbrev Ru(sc:hX):hB->Bool
 |.Name x _=>sc.names.lookup x==eW .local|_=>fx
abbrev JP(sc:hX)(t p:hB):Bool:=RG p||(BH t).any λts=>ts.any λe=>!Ru sc e
abbrev RC(ts:List hB):Option Str:=(dS ts).bind j8
abbrev Yo(e:hB):Option (Str×Str×List hB):=(BP e).bind λq=>(Gn q.1).bind λr=>(j8 r.1).bind λx=>if(q.2.2.1.isEmpty&&r.2.2.endLine==q.2.2.2.line)=e6 then eW (x,r.2.1,q.2.1) else eX
abbrev YA(ts:List hB):Option (Str×hB):=(dS ts).bind λt=>(OL t).bind λq=>(j8 q.1).bind λx=>eW (x,q.2)
abbrev Yy(o:Option hB):Option (Str×Str):=o.bind λe=>(BP e).bind λq=>(j8 q.1).bind λx=>(dS q.2.1).bind λa=>(Qr a).bind λc=>(pK c).bind λz=>if q.2.2.1.isEmpty=e6 then eW (x,z) else eX
def sA{ts:List hB}(h:RC ts=eW x):∃a,ts=[.Name x a]:=by let(t,b,c):=wA h;let(p,rfl):=eS c;exact{p,i4 b}
def Nc{args:List hB}(h:Yo p=eW (x,m,args)):∃np b d,p=.Call (.Attribute (.Name x np) m b) args [] d/\(b.endLine==d.line)=e6:=by let((f,a,k,s),j,h):=wA h;let((o,t,ap),q,h):=wA h;let(y,r,h):=wA h;let(c,h):=if1 h;cases h;rw [zza] at c;let(u,e):=eS r;have g:=gD q;have i:=List.isEmpty_iff.1 c.1;dsimp only at g e i;subst e g i;exact{_,_,_,gE j,c.2}
def Ou{ts:List hB}{c:hB}(h:YA ts=eW (x,c)):∃np sp,ts=[.Subscript (.Name x np) c sp]:=by let(t,e,h):=wA h;let((a,b),f,h):=wA h;let(y,g,h):=wA h;cases h;let(j,d):=eS g;let(k,i):=FH f;dsimp only at d;subst d i;exact{_,_,i4 e}
def Om{o:Option hB}(h:Yy o=eW (x,z)):∃np j m b,o=eW (.Call (.Name x np) [.Constant (.str z) j m] [] b):=by let(e,p,h):=wA h;let((f,a,k,b),q,h):=wA h;let(y,r,h):=wA h;let(t,s,h):=wA h;let(c,u,h):=wA h;let(w,A,h):=wA h;let(B,h):=if1 h;cases h;let(E,d):=eS r;let(F,G,C):=Cq u;have g:=i4 s;have D:=FE A;have i:=List.isEmpty_iff.1 B;dsimp only at d g i;subst d D C g i;exact{_,_,_,_,p.trans (congrArg eW (gE q))}
abbrev NO:List hB->Option (Str×Pos×Str×Pos)
 |[.Tuple [.Name x a,.Name y py] _ _]=>eW (x,a,y,py)|_=>eX
def I0{ts:List hB}{q:Str×Pos×Str×Pos}(h:NO ts=eW q):∃a pt,ts=[.Tuple [.Name q.1 q.2.1,.Name q.2.2.1 q.2.2.2] a pt]:=by
 unfold NO at h;split at h
 .cases h;exact{_,_,rfl}
 .cases h
abbrev isStar:hB->Bool
 |.Starred .. =>e6|_=>fx
abbrev NP(a b:hB):Bool:=!isStar a&&!isStar b&&!(foldedForSure 8 a&&foldedForSure 8 b)&&!(constantsAlone 8 a&&constantsAlone 8 b)
mutual
noncomputable def f7(Γ:Pg)(N:List Str)(sc:hX):S->ig->Bool
 |.expr e,.Expr p _=>c7 p&&aI Γ N sc e p|.set i e,.Assign ts p _=>(RC ts).any λx=>N[i]?==eW x&&je sc x&&eR e&&aI Γ N sc e p&&V5 e|.own i e,.Assign ts p _=>(RC ts).any λx=>N[i]?==eW x&&je sc x&&nu e&&aI Γ N sc e p|.vT f e,.Assign ts p _=>(dS ts).any λd=>isTup d&&eK N sc (λZ=>e6) f d&&c7 p&&JP sc d p&&eR e&&aI Γ N sc e p|.app i e,.Expr v _=>(Yo v).any λc=>N[i]?==eW c.1&&kg sc c.1&&okN c.1&&c.2.1==("append":Str)&&eR e&&(dS c.2.2).any λp=>aI Γ N sc e p|.put i k e,.Assign ts p _=>(YA ts).any λc=>N[i]?==eW c.1&&kg sc c.1&&okN c.1&&eR e&&aI Γ N sc k c.2&&aI Γ N sc e p|.ret e,.Return (eW p) _=>eR e&&aI Γ N sc e p|.ite c a b,.If p o g _=>gk c&&aI Γ N sc c p&&eh Γ N sc a o&&eh Γ N sc b g|.g9 f it b,.For d s g h _=>h.isEmpty&&eK N sc (λZ=>e6) f d&&AI it&&uw Γ N sc d it s&&eh Γ N sc b g|.raise c m,.Raise ex fr _=>fr.isNone&&(Yy ex).any λq=>c==q.1&&m==q.2&&Γ.rs.contains c&&gj sc c&&okN c|.par i j as,.Assign ts (.Tuple [a,b] _ _) _=>(NO ts).any λq=>N[i]?==eW q.1&&N[j]?==eW q.2.2.1&&decide (i≠j)&&q.1 !=q.2.2.1&&q.2.2.2.line==q.2.1.line&&sc.names.lookup q.1==eW .local&&sc.names.lookup q.2.2.1==eW .local&&NP a b&&g8 as&&dw Γ N sc as [a,b]|.vp i e,.Assign ts v _=>(RC ts).any λx=>(v5 v).any λq=>(dS q.2).any λr=>q.1==("dict":Str)&&gj sc q.1&&Γ.bs.contains q.1&&N[i]?==eW x&&je sc x&&aI Γ N sc e r|_,_=>fx
noncomputable def eh(Γ:Pg)(N:List Str)(sc:hX):Ss->List ig->Bool
 |.nil,[]=>e6|.cons (.bR _) ss,ps=>eh Γ N sc ss ps|.cons s ss,p::ps=>f7 Γ N sc s p&&eh Γ N sc ss ps|_,_=>fx
end
section
variable{Γ:Pg}{W:Wd}{F:aN}{sc:hX}{k:Nat}{E:XK}
def SR.go{a:St}(r:SR W H0 env a G H):aE W G H0 G H:={aA.refl _,r.base,r.sub,λZ Z Z h=>h,λZ=>r.tab.t}
def aE.then{c G2 d:Hp}(a:aE W G H0 c H1)(b:aE W c H0 G2 d):aE W G H0 G2 d:={a.g.trans b.g,b.h,b.sub,λx e f i=>b.own x e f (a.own x e f i),λt=>b.tb (t.same a.g a.own λZ Z h=>h)}
def SR.on{c:St}{a:Hp}(r:SR W H0 env c G H)(g:aE W G H a H1):aE W G H0 a H1:={g.g,r.base.trans g.h,g.sub,λx b d e=>g.own x (λz=>b (r.base.free z)) (r.base.jj b d) e,λZ=>g.tb r.tab.t}
def Dn(W:Wd)(H0 G:Hp)(D:Ends):Fl->Prop
 |.nx env=>∀c b a,SR W H0 env c b a->aE W G H0 b a->D.nx c a|.bk env=>∀c b a,SR W H0 env c b a->aE W G H0 b a->D.bk c a|.ct env=>∀c b a,SR W H0 env c b a->aE W G H0 b a->D.ct c a|.rt p=>∀v b a,Rep W b p v->aE W G H0 b a->D.rt v a
def cO(W:Wd)(H0 G:Hp)(E:XK)(r:Res Fl)(D:Ends):Prop:=match r with
 |.ok f=>Dn W H0 G D f|.exc c=>∀a b d,XE W c G H0 a b d->E a b d|.bad=>False
def Dn.on{e:Hp}{D:Ends}{f:Fl}(h:Dn W H0 G D f)(g:aE W G H0 e H1):Dn W H0 e D f:=by
 cases f with
 |nx env=>exact λd a b r c=>h d a b r (g.then c)|bk env=>exact λd a b r c=>h d a b r (g.then c)|ct env=>exact λd a b r c=>h d a b r (g.then c)|rt p=>exact λv a b r c=>h v a b r (g.then c)
def cO.on{b:Hp}{D:Ends}{r:Res Fl}(h:cO W H0 G E r D)(g:aE W G H0 b H1):cO W H0 b E r D:=by
 cases r with
 |ok f=>exact Dn.on h g|exc c=>intro d e i x;let(C,a,j,m,o,e3,p,g2):=x;exact h d e i {C,a,j,m,o,e3,p,g.then g2}|bad=>exact h
abbrev tS(W:Wd)(F:aN)(H0:Hp)(E:XK)(s:S):TS:=λD a H=>∃G env,SR W H0 env a G H/\cO W H0 G E (du F s env) D
abbrev YR(W:Wd)(F:aN)(H0:Hp)(E:XK)(a:Ss):TS:=λD b H=>∃G env,SR W H0 env b G H/\cO W H0 G E (bj F a env) D
noncomputable abbrev GS(X:Cx)(W:Wd)(F:aN)(H0:Hp)(E:XK)(s:S)(p:ig):Prop:=PS X p (tS W F H0 E s)
noncomputable abbrev Gj(X:Cx)(W:Wd)(F:aN)(H0:Hp)(E:XK)(s:Ss)(p:List ig):Prop:=qi X p (YR W F H0 E s)
def _root_.L2.PS.imp{p:ig}{t t':TS}(h:PS X p t)(i:∀D a H,t' D a H->t D a H):PS X p t':=λb s a H D I c=>h b s a H D I (i D a H c)
def _root_.L2.qi.imp{p:List ig}{t t':TS}(h:qi X p t)(i:∀D a H,t' D a H->t D a H):qi X p t':=λb s a H D I c=>h b s a H D I (i D a H c)
structure fF(Γ:Pg)(F:aN)(W:Wd)(N:List Str)(sc:hX)(k:Nat)(E:XK)(X:Cx):Prop where
 C:zv4 X
 fn:∀x,X.fn x=e6
 own:PassesOwn (hI X.prog X.w) X.A X.env X.xe
 pass:Passes (dC X.prog X.w) X E
 kind:sc.kind=.function
 OJ:X.stack=X.env::X.outer
 frame:X.env.frame=eW X.env.locals
 xs:∀c,Γ.rs.contains c=e6->c∈W.xs
 rm:∀c,Γ.rs.contains c=e6->∃C,X.mg c=eW (.ref C)
 rz:Γ.qt=fx->∀(c z:Str) (j:Nat) (np zp cp pos:Pos),Γ.rs.contains c=e6->gj sc c=e6->okN c=e6->PS X (.Raise (eW (.Call (.Name c np) [.Constant (.str z) j zp] [] cp)) eX pos) (λ_ _ H=>∀C e,X.mg c=eW (.ref C)->H e=eX->E (.ref C) (eW e) H)
 Pe:Γ.cs.contains (zu 6)=e6->∀c D,c∈W.xs->X.mg c=eW (.ref D)->∀T,X.mg (zu 6)=eW (.ref T)->PySem.W.exmOne X.K (.ref D) (.ref T)=eW e6
theorem Jl(S:zv3 X){j:St}{m:Hp}(g:aE W m H0 G H)(h:∀d o f,XE W c m H0 d o f->E d o f):ud X W j c G H:=λq M r s e u I g1 x=>S.pass q j r s e u I (GN.imp x λd a f y=>h d a f (by let(C,w,A,B,D,e3,K,g2):=y;have b:=g1.trans g2;exact{C,w,A,B,D,e3,K,g.g.trans b.g,g.h.trans b.h,b.sub,λx i p L=>b.own x (λz=>i (g.h.free z)) (g.h.jj i p) (g.own x i p L),λt=>b.tb (g.tb t)}))
def cO.bind{b:Type}(S:zv3 X){r:Res b}{f:b->Res Fl}{D:Ends}{d:St}(sr:SR W H0 env d G H)(h:cO W H0 G E (r.bind f) D):Out X W r d G H λa=>cO W H0 G E (f a) D:=by
 cases r with
 |ok a=>exact h|exc c=>exact Jl S sr.go h|bad=>exact h
def sF(S:zv3 X){b:St}{e:Ci.E}{f:PV->Res Fl}{D:Ends}(sr:SR W H0 env b G H)(o:cO W H0 G E ((az F e env).bind f) D)
 (h:∀p v a H1,aE W G H a H1->Got W H0 a H1 e p v->SR W H0 env b a H1->cO W H0 a E (f p) D->Q v H1):tE X W F e b H Q:=
 {H0,G,env,sr,(o.bind S sr).imp λp c v a H1 g1 t=>h p v a H1 g1 t (sr.grow g1) (c.on (sr.on g1))}
def RK(S:zv3 X){d:St}{e:Ci.E}{f:Bool->Res Fl}{D:Ends}{Q:Bool->Hp->Prop}(sr:SR W H0 env d G H)(o:cO W H0 G E ((az F e env).bind λp=>yk p f) D)
 (h:∀b c H1,aE W G H c H1->SR W H0 env d c H1->cO W H0 c E (f b) D->Q b H1):tT X W F e d H Q:=by
 refine{H0,G,env,sr,(o.bind S sr).imp λp a=>?_}
 cases p with
 |bl b=>exact{b,rfl,λc H1 g1=>h b c H1 g1 (sr.grow g1) (cO.on a (sr.on g1))}|aP=>exact d6 a|int _=>exact d6 a|str _=>exact d6 a|tup _=>exact d6 a|lst _=>exact d6 a|exc _=>exact d6 a|obj _=>exact d6 a|cy _ _=>exact d6 a
def RJ(S:zv3 X){d:St}{e:Ci.E}{f:PV->Res Fl}{D:Ends}(hl:∀env q,az F e env=.ok q->∃xs,q=.lst xs)(sr:SR W H0 env d G H)(o:cO W H0 G E ((az F e env).bind f) D)
 (h:∀xs a vs b H1,aE W G H b H1->H1 a=eX->ah W b xs vs->SR W H0 env d b H1->cO W H0 b E (f (.lst xs)) D->Q (.ref a) (upd H1 a (.lst vs))):tF X W F e d H Q:=by
 refine{H0,G,env,sr,?_};have o2:=o.bind S sr
 cases r:az F e env with
 |bad=>rw [r] at o2;exact o2|exc c=>rw [r] at o2;exact o2|ok q=>rw [r] at o2;let(xs,rfl):=hl env q r;exact{xs,rfl,λa vs i j g m l=>h xs a vs i j g m l (sr.grow g) (cO.on o2 (sr.on g))}
def fE{t:Option hB}{l:Nat}{env:Env}(h:c7 p=e6):swapsWith p t l env=pure fx:=by
 cases p<;>first|rfl|(exact aO h)
theorem HJ(S:zv3 X){e:Ci.E}(he:GE X W F e p)(hn:c7 p=e6):GS X W F H0 E (.expr e) (.Expr p pos):=
 L2.PS.imp (sO he (fE hn)) λD b H h=>by let(G,env,sr,o):=h;rw [du] at o;exact sF S sr o λq v c d g t a o1=>o1 b c d a a.go
theorem Mr(S:zv3 X){e:Ci.E}(a:eR e=e6)(he:GE X W F e p):GS X W F H0 E (.ret e) (.Return (eW p) pos):=
 L2.PS.imp (sP he) λD f H h=>by let(G,env,sr,o):=h;rw [du] at o;exact sF S sr o λq v b c g t d o1=>o1 v b c (t.rep a) d.go
theorem Du(S:zv3 X)(f:Γ.qt=fx){a b:Pos}(d:Γ.rs.contains c=e6)(g:gj sc c=e6)(i:okN c=e6):GS X W F H0 E (.raise c m) (.Raise (eW (.Call (.Name c np) [.Constant (.str m) j a] [] b)) eX pos):=
 L2.PS.imp (S.rz f c m j np a b pos d g i) λD p H h C e hC q=>by let(G,env,sr,o):=h;rw [du] at o;exact o _ _ _ {C,e,G,rfl,rfl,S.xs c d,by rw [S.C.mg];exact hC,sr.go}
def kq(S:zv3 X){i:Nat}(h:N[i]?=eW x)(hl:je sc x=e6):X.N.Nodup/\X.N[i]?=eW x/\Loc X.env.scope x:=by refine{by rw [S.C.hN];exact S.C.nd,by rw [S.C.hN];exact h,Ef S.C.fX hl}
def Ms(S:zv3 X){i:Nat}{e:Ci.E}{a:Pos}(h:N[i]?=eW x)(hl:je sc x=e6)(c:eR e=e6)(he:GE X W F e p)(hs:swapsWith p (eW (.Name x a)) pos.line X.env=pure fx):GS X W F H0 E (.set i e) (.Assign [.Name x a] p pos):=by let(d,a2,f):=kq S h hl;refine L2.PS.imp (sQ d a2 f he hs (.inl (S.fn x))) λD r H h=>?_;let(G,env,sr,o):=h;rw [du] at o;exact sF S sr o λq v j m g t b o1=>o1 _ j m (b.set i (t.rep c)) b.go
abbrev Tw(X:Cx)(W:Wd)(F:aN)(i:Nat)(e:Ci.E):TS:=λD a H=>tF X W F e a H λv b=>D.nx (a.set i (eW v)) b
def Sy{e:Ci.E}(hl:∀env q,az F e env=.ok q->∃xs,q=.lst xs)(b:St)(H:Hp)(Q:VK)(h:tE X W F e b H Q):tF X W F e b H Q:=by
 let(H0,G,env,sr,o):=h
 refine{H0,G,env,sr,?_};cases r:az F e env with
 |bad=>rw [r] at o;exact o|exc c=>rw [r] at o;exact o|ok q=>rw [r] at o;let(xs,rfl):=hl env q r;exact{xs,rfl,λa f i j g d l=>o _ _ _ (g.trans (.new g.sub d)) (.of (.l (.inl (.inl aq)) (ah.same (bo (g.sub.free d)) xs l)))}
theorem HM(S:zv3 X){i:Nat}{e:Ci.E}{p:ig}(hl:∀env q,az F e env=.ok q->∃xs,q=.lst xs)(b:eR e=e6)(h:PS X p (Tw X W F i e)):GS X W F H0 E (.set i e) p:=
 L2.PS.imp h λD c H d=>by let(G,env,sr,o):=d;rw [du] at o;refine Sy hl c H _ (sF S sr o λq v f j g t a o1=>?_);exact o1 _ f j (a.set i (t.rep b)) a.go
def HL(S:zv3 X){i:Nat}{e:Ci.E}{p:ig}(m:N[i]?=eW x)(hl:∀env q,az F e env=.ok q->∃xs,q=.lst xs)(h:PS X p (Tw X W F i e)):GS X W F H0 E (.own i e) p:=by
 intro r s d H D I t;have u:i<d.length:=by rw [I.len,S.C.hN];exact(bD.mp m).1
 refine h r s d H D I ?_;let(G,env,sr,o):=t;rw [du] at o;refine RJ S hl sr o λxs a f j w g c l b o1=>?_;have y:Own W H0 j (upd w a (.lst f)) (.lst xs) (.ref a):={a,f,rfl,aq,b.sub.free c,b.base.free c,l};let(z,g2):=EK b b.go (i:=i) (by rw [b.len];exact u) c y;exact o1 _ j _ z g2
def Ji{i:Nat}{e:Ci.E}{a:Pos}(S:zv3 X)(h:N[i]?=eW x)(hl:je sc x=e6)(he:GF X W F e p)(hs:swapsWith p (eW (.Name x a)) pos.line X.env=pure fx):PS X (.Assign [.Name x a] p pos) (Tw X W F i e):=by let(b,a2,c):=kq S h hl;exact sQ b a2 c he hs (.inl (S.fn x))
def iZ{a:Tg}{p:PV}(c:Str):Tg.put a p env≠.exc c:=by unfold Tg.put;split<;>exact nofun
def FI{ts vs:List hB}{k1 k2:Nat}{d e:Pos}{env:Env}(h:3<vs.length):swappedStores [.Tuple ts k1 d] (.Tuple vs k2 e) env=pure eX:=by
 have c:(!(ts.length==2||ts.length==3)||vs.length !=ts.length||env.blockKind !=.function)=e6:=by
  by_cases f:ts.length=vs.length
  .have a:(ts.length==2)=fx:=beq_eq_false_iff_ne.mpr (by lia);have b:(ts.length==3)=fx:=beq_eq_false_iff_ne.mpr (by lia);rw [a,b];rfl
  .have a:(vs.length !=ts.length)=e6:=bne_iff_ne.mpr λz=>f z.symm;rw [a,Bool.or_true,Bool.true_or]
 unfold swappedStores;simp! [pure_bind];rw [if_pos c]
def zP{ts vs:List hB}{k1 k2:Nat}{a b:Pos}{env:Env}(h:(ts.any λe=>!Ru env.scope e)=e6):swappedStores [.Tuple ts k1 a] (.Tuple vs k2 b) env=pure eX:=by
 let(e,c,d):=d4.1 h;unfold swappedStores;simp! [pure_bind];split
 .rfl
 .split
  .rfl
  .rw [if_pos];refine Bool.or_eq_true_iff.mpr (.inl (bne_iff_ne.mpr λz=>?_));have:=List.filterMap_length_eq_length.1 z e c
   cases e with
   |Name x p=>
    have q:(env.kindOf x==eW .local)=fx:=by
     have f:(!(env.scope.names.lookup x==eW .local))=e6:=d
     rwa [Bool.not_eq_true'] at f
    simp! [q,Bool.false_and,d2,if_false] at this;cases this
   |_=>cases this
def Mt(S:zv3 X)(m:Γ.qt=fx){d:Tg}{e:Ci.E}{a:hB}(i:isTup a=e6)(s:eK N sc (λZ=>e6) d a=e6)(hn:c7 p=e6)(b:JP sc a p=e6)(u:eR e=e6)(he:GE X W F e p):GS X W F H0 E (.vT d e) (.Assign [a] p pos):=by
 have w:swappedStores [a] p X.env=pure eX:=by
  cases a<;>first|(exact aO i)|skip
  cases p<;>first|rfl|skip
  rcases Bool.or_eq_true_iff.mp b with b|b
  .exact FI (zzY b)
  .exact zP (by rw [S.C.fX];exact b)
 have y:(assignEach [a] X.env).map (·.2)=[assign a X.env]:=by
  cases a<;>first|rfl|(exact aO i)
 refine L2.PS.imp (xI he (xC (fn:=λZ=>e6) S.C.hN S.C.nd S.C.fX (S.C.calm m) (λx Z=>S.fn x) s) (fE hn) w y) λD I H h=>?_;let(G,env,sr,o):=h;rw [du] at o;refine sF S sr o λq v z A g t j o1=>?_
 cases r:d.put q env with
 |bad=>rw [r] at o1;exact o1.elim|exc c=>exact absurd r (iZ c)|ok L=>rw [r] at o1;exact jX S.C.K r j (t.rep u) λf B=>o1 f z A B j.go
theorem Dt(S:zv3 X){c:Ci.E}{a b:Ss}{d e:List ig}(j:GT X W F c p)(m:Gj X W F H0 E a d)(q:Gj X W F H0 E b e):GS X W F H0 E (.ite c a b) (.If p d e pos):=
 L2.PS.imp (Ku j m q) λD r H h=>by
  let(G,env,sr,o):=h;rw [du] at o;refine RK S sr o λt f s g i o1=>?_
  cases t with
  |true=>rw [if_pos rfl] at o1⊢;exact⟨f,env,i,o1⟩|false=>rw [if_neg zzf] at o1⊢;exact⟨f,env,i,o1⟩
def Mp(S:zv3 X)(Gv:Γ.qt=fx){M:Tg}{b:Ss}{V Y:hB}{pb:List ig}(AX:eK N sc (λ_=>e6) M V=e6)(Z:AI it=e6)(hi:GI X W F V it Y)(MG:∀x,foldedSetIterable Y X.env x=pure x)(hb:Gj X W F H0 E b pb):GS X W F H0 E (.g9 M it b) (.For V Y pb [] pos):=
 L2.PS.imp (Fe S.own (S.C.calm Gv) hi (xC (fn:=λ_=>e6) S.C.hN S.C.nd S.C.fX (S.C.calm Gv) (λx _=>S.fn x) AX) hb MG) λD σ H h=>by
  let(G,env,sr,o):=h;rw [du] at o;refine{H0,G,env,sr,(o.bind S sr).imp λd iV J G1 H1 g1 gi=>?_};have bR:=gi.bR Z;generalize hf:(λ(x:PV) (env:Sl)=>(M.put x env).bind λe=>bj F b e)=f at iV;have bC:=sr.grow g1;refine{λi m w O=>i<=d.length/\m=d.length-i/\∃B e,SR W H0 e w B O/\aE W G1 H0 B O/\cO W H0 B E (forL f (d.drop i) e) D,{_,Nat.zero_le _,rfl,G1,env,bC,bC.go,by rw [List.drop_zero];exact cO.on iV (sr.on g1)},?_}
  rintro i m w O ⟨DG,hm,B,e,j,g',t⟩
  let(ist,igo):=bR i B O g'.g (.of (g'.g.trans j.sub)) j.sub;by_cases s:i=d.length
  .refine .inl {ist s,?_};rw [s,List.drop_length] at t;exact t w B O j j.go
  .have T:i<d.length:=by lia
   let(DF,P):=igo d[i] (zzg T);refine .inr {DF,λy H2=>i+1<=d.length/\∃G2 L,SR W H0 L y G2 H2/\aE W G1 H0 G2 H2/\cO W H0 G2 E (forL f (d.drop (i+1)) L) D,λy H2 h2=>{d.length-(i+1),by lia,h2.1,rfl,h2.2},λx jr hy=>?_};let(U,qJ,rx):=P x jr hy;rw [List.drop_eq_getElem_cons T] at t;unfold forL at t;have Vj:f d[i] e=(M.put d[i] e).bind λe=>bj F b e:=by rw [<-hf]
   rw [Vj] at t;have kh:=j.grow qJ;have g2:=g'.then (j.on qJ)
   cases r:M.put d[i] e with
   |bad=>rw [r] at t;exact t.elim|exc c=>exact absurd r (iZ c)|ok L=>
    rw [r] at t;refine jX S.C.K r kh rx λy sr3=>{U,L,sr3,?_}
    have o2:cO W H0 U E ((bj F b L).bind λfl=>match fl with
     |.nx e=>forL f (d.drop (i+1)) e|.ct e=>forL f (d.drop (i+1)) e|.bk e=>.ok (.nx e)|.rt p=>.ok (.rt p)) D:=cO.on t (j.on qJ)
    cases r2:bj F b L with
    |bad=>rw [r2] at o2;exact o2.elim|exc cc=>rw [r2] at o2;exact o2|ok fl=>
     rw [r2] at o2;cases fl with
     |nx a=>exact λz A Q R u=>{T,A,a,R,g2.then u,cO.on (show cO W H0 U E (forL f (d.drop (i+1)) a) D from o2) u}|ct a=>exact λz A Q R u=>{T,A,a,R,g2.then u,cO.on (show cO W H0 U E (forL f (d.drop (i+1)) a) D from o2) u}|bk a=>exact λz A Q R u=>o2 z A Q R u|rt q=>exact λv A Q rv u=>o2 v A Q rv u
theorem yF:Gj X W F H0 E .nil []:=L2.qi.imp sR λD a H h=>by let(G,env,sr,o):=h;rw [bj] at o;exact o a G H sr sr.go
theorem uR{s:Ci.S}{b:Ss}{p:ig}{ps:List ig}(d:GS X W F H0 E s p)(e:Gj X W F H0 E b ps):Gj X W F H0 E (.cons s b) (p::ps):=
 L2.qi.imp (vz d e) λD j H h=>by
  let(G,env,sr,o):=h
  rw [bj] at o;refine{G,env,sr,?_};cases r:du F s env with
  |bad=>rw [r] at o;exact o|exc c=>rw [r] at o;exact o|ok f=>
   rw [r] at o;cases f with
   |nx a=>exact λg G2 m i g2=>{G2,a,i,cO.on (show cO W H0 G E (bj F b a) D from o) g2}|bk a=>exact o|ct a=>exact o|rt q=>exact o
def HN{i:Nat}{c:Ss}{ps:List ig}(h:Gj X W F H0 E c ps):Gj X W F H0 E (.cons (.bR i) c) ps:=by
 intro f s g H D I j;let(G,env,sr,o):=j
 rw [bj,du] at o;rcases ou sr sr.go i with⟨d,b,e⟩|⟨a,p,m,k⟩
 .exact h f s g H D I {d,_,b,cO.on (show cO W H0 G E (bj F c (env.modify i rS)) D from o) e}
 .let(ob,J):=I.rR m;let(d,b,e):=k ob;exact h f s g _ D J {d,_,b,cO.on (show cO W H0 G E (bj F c (env.modify i rS)) D from o) e}
end
end Ci
namespace L2
open PySem.Spec PyProof.Rows
end L2
namespace Ci
open L2
section
variable{Γ:Pg}{W:Wd}{F:aN}{sc:hX}{k:Nat}{E:XK}
def EW(S:zv3 X){i:Nat}(h:N[i]?=eW x)(b:kg sc x=e6)(a:okN x=e6):PE X (.Name x pos) (OW i):=
 ma (by rw [S.C.hN];exact h) (yc S.C b) (eE a).1 (eE a).2.1
def IZ{b:St}{i:Nat}(sr:SR W H0 env b G H)(h:env[i]?=eW (.own (.lst xs))):∃a vs,b[i]?=eW (eW (.ref a))/\H a=eW (.lst vs)/\G a=eX/\H0 a=eX/\ah W G xs vs:=by let(o,c,v,rfl,a,vs,rfl,d,e,f,l):=sr.slot i _ h;exact⟨a,vs,c,d,e,f,l⟩
set_option tactic.hygienic true in
def Mo(S:zv3 X){i:Nat}{e:Ci.E}{b f:Pos}(h:N[i]?=eW x)(w:kg sc x=e6)(y:okN x=e6)(A:(b.endLine==f.line)=e6)(B:eR e=e6)(he:GE X W F e p)
 (d:∀env ps,starEach (p::ps) env=(fx,eval p env)::starEach ps env):GS X W F H0 E (.app i e) (.Expr (.Call (.Attribute (.Name x np) "append" b) [p] [] f) pos):=by
 refine L2.PS.imp (sO (vv PySem.F.plainAttrs_list PySem.F.slot_list_append PySem.F.type_list_append qS (EW S h w y) (bQ he dA (d _ _)) rfl (by rw [d];rfl) A (d _ _) rfl) rfl) λD P H C=>?_;let(G,env,sr,o):=C;rw [du] at o;split at o
 .rename_i xs j;let(a,m,hs,c,I,r,l):=IZ sr j;refine{.ref a,hs,.inl {rfl,_,hW.of c},sF S sr o λq v K Q g t s o1=>?_};split at o1
  .rename_i hl;have L:=g.h.at c (λZ z=>nomatch z);have u:=g.own a (by rw [c];exact nofun) (by rw [c];exact λZ z=>nomatch z) I;have M:=ah.same g.g xs l;refine{a,m,v,rfl,rfl,L,by rw [l.length];exact c6 hl ↑2,?_};let(O,g2):=Et (p':=.lst (xs++[q])) (ob:=.lst (m++[v])) s s.go j hs u r {a,_,rfl,aq,u,r,M.append (.cons (t.rep B) .nil)};exact o1 _ K _ O g2
  .exact o1.elim
 .exact o.elim
def Sd:V->V->V->Hp->(Hp->Prop)->Prop:=λo i v H Q=>∃a b,o=.ref a/\wg H a i v b/\Q b
def Jr(b:X.A.units+1<cLine):PR X Sd:=by intro j s m H o i v p r u Q I c d rv h;let(a,e,rfl,g,q):=h;cases c;exact qD b I g d rv λt f=>⟨e,f,q⟩
def IY{b:St}{i:Nat}(sr:SR W H0 env b G H)(h:env[i]?=eW (.own (.cy ks ps))):∃a us,b[i]?=eW (eW (.ref a))/\ks.length=us.length/\H a=eW (.dK (kz ks us))/\G a=eX/\H0 a=eX/\ah W G ps us:=by let(o,c,v,rfl,a,us,rfl,n,d,e,f,l):=sr.slot i _ h;exact⟨a,us,c,n,d,e,f,l⟩
set_option tactic.hygienic true in
def Mq(S:zv3 X){i:Nat}{b e:Ci.E}{c:hB}{f:Pos}(h:N[i]?=eW x)(L:kg sc x=e6)(M:okN x=e6)(O:eR e=e6)(s:aI Γ N sc b c=e6)(hk:GE X W F b c)(he:GE X W F e p):GS X W F H0 E (.put i b e) (.Assign [.Subscript (.Name x np) c f] p pos):=by
 have P:swappedStores [.Subscript (.Name x np) c f] p X.env=pure eX:=by cases p<;>rfl
 have Q:∀v,assign (.Subscript (.Name x np) c f) X.env v=(do
  let j<-holding [v] (eval (.Name x np) X.env);let m<-holding [v,j] (eval c X.env)
  standAt f
  holding [v,j,m] (setItem j m v)
  release [v,j,m] []):=by
  intro v;cases c<;>first|rfl|(cases b<;>first|(exact aO s)|(rename_i q;cases q<;>exact aO s))
 refine L2.PS.imp (xI he (N0 (EW S h L M) hk (Jr (by have:=S.C.room.un;lia)) Q) (by cases p<;>rfl) P) λD σ H R=>?_;let(G,env,sr,o):=R;rw [du] at o;refine sF S sr o λq v G1 H1 g t u o1=>?_;split at o1
 .rename_i d w y;let(a,A,hs,n,r,T,B,l):=IY u y;refine{.ref a,hs,sF S u o1 λq2 v2 G2 U g2 t2 I o2=>?_};split at o2
  .rename_i b V;split at o2
   .rename_i Y;have Z:=fA V;subst Z;obtain rfl:=t2.top.str;have UP:=g2.h.at r (λ_ z=>nomatch z);have K:=g2.own a (by rw [r];exact nofun) (by rw [r];exact λ_ z=>nomatch z) T;have l':=ah.same g2.g w l;refine{a,upd U a (.dK (putK (kz d A) (ki b) v)),rfl,wg.k (k:=ki b) UP (by rw [iA n];exact c6 Y ↑2),?_};rw [xg n];let(r2,gg):=Et (p':=.cy (eN d b) (cS d w b q)) (ob:=.dK (kz (eN d b) (cS d A b v))) I I.go y hs K B {a,_,rfl,oS n b v,aq,K,B,sV l' (Rep.same g2.g q (t.rep O))};exact o2 _ G2 _ r2 gg
   .exact o2.elim
  .exact o2.elim
 .exact o1.elim
def ED(c:Str):gW ps≠.exc c:=by
 unfold gW;split
 .intro z;rcases Res.ee z with z|⟨a,_,z⟩
  .exact Res.aK c z
  .cases z
 .exact nofun
def HK(S:zv3 X)(y:Γ.qt=fx){i:Nat}{e:Ci.E}{p:hB}{z A:Pos}(h:N[i]?=eW x)(hl:je sc x=e6)(B:gj sc "dict"=e6)(hm:Γ.bs.contains "dict"=e6)(he:GE X W F e p)
 (j:∀env ps,starEach (p::ps) env=(fx,eval p env)::starEach ps env):GS X W F H0 E (.vp i e) (.Assign [.Name x np] (.Call (.Name "dict" z) [p] [] A) pos):=by
 let(L,a2,M):=kq S h hl;intro O s m H D I P;have Q:i<m.length:=by rw [I.len,S.C.hN];exact(bD.mp h).1
 refine sQ L a2 M (i5 (nU (S.C.calm y) (by have:=S.C.room.un;lia)) (dm S.C B) (S.C.bs _ (d9.mp hm)) ↑1 (bQ he dA (j _ _)) (he:=j _ _) (hpl:=rfl)) rfl (.inl (S.fn x)) O s m H D I ?_;let(G,env,sr,o):=P;rw [du] at o;refine sF S sr o λq v R H1 g t b o1=>?_
 cases d:gW [q] with
 |exc c=>exact absurd d (ED c)|bad=>rw [d] at o1;exact o1.elim|ok r=>rw [d] at o1;let(u,qs,rfl,a,T,U,V,Y,pw,w,Z,z2,z3):=uE (X:=X) S.C.K b.sub (.cons t.top .nil) d;refine{a,T,U,V,Y,pw,λad f=>?_};rw [z3];let(r2,g2):=EK (i:=i) (p:=.cy u qs) (ob:=.dK (kz u w)) b b.go (by rw [b.len];exact Q) f {ad,w,rfl,Z,aq,b.sub.free f,b.base.free f,z2};exact o1 _ R _ r2 g2
end
end Ci
namespace L2
open PySem.Spec PyProof.Rows
end L2
namespace Ci
open L2
section
variable{Γ:Pg}{W:Wd}{F:aN}{sc:hX}{k:Nat}{E:XK}
def OM{env:Env}{y:Str}{d e pt i:Pos}{kt k2}{a b:hB}(hk:env.scope.kind=.function)(j:env.scope.names.lookup x=eW .local)(m:env.scope.names.lookup y=eW .local)(hl:e.line=d.line)(f:x≠y)(c:NP a b=e6):
 swappedStores [.Tuple [.Name x d,.Name y e] kt pt] (.Tuple [a,b] k2 i) env=pure (eW [x,y]):=by
 unfold NP at c;simp! [zza] at c;let(((o,p),g),h):=c;have q:isStar a=fx:=zx6 o;have r:isStar b=fx:=zx6 p;have s:env.blockKind=.function:=by unfold Env.blockKind;rw [hk];rfl
 have t:env.kindOf x=eW .local:=j;have k2:env.kindOf y=eW .local:=m;simp! [Bool.not_eq_true'] at g h;have u:(y==x)=fx:=beq_eq_false_iff_ne.mpr (Ne.symm f);have C:(x==y)=fx:=beq_eq_false_iff_ne.mpr f;have w:[x,y].eraseDups=[x,y]:=by simp [List.eraseDups_cons,u]
 have A:[a,b].all (foldedForSure 8)=fx:=zx6 g;have B:[a,b].all (constantsAlone 8)=fx:=zx6 h
 unfold swappedStores;simp! [List.any_cons,List.any_nil,Bool.or_false,pure_bind,List.filterMap_cons,List.filterMap_nil,t,k2,hB.pos,hl,List.head?_cons,Option.map_some,Option.getD_some,BEq.rfl,Bool.and_self,if_true,w,A,B,s];refine(if_neg zzf).trans ((if_neg λz=>?_).trans rfl);rcases Bool.or_eq_true_iff.mp z with z|z
 .split at z
  .cases q
  .cases z
 .split at z
  .cases r
  .cases z
def P7(S:zv3 X){b:St}{c:Es}{f:List PV->Res Fl}{D:Ends}{Q:List V->Hp->Prop}(sr:SR W H0 env b G H)(o:cO W H0 G E ((bJ F c env).bind f) D)
 (h:∀ps vs a H1,aE W G H a H1->KU W H0 a H1 c ps vs->SR W H0 env b a H1->cO W H0 a E (f ps) D->Q vs H1):tA X W F c b H Q:=
 {H0,G,env,sr,(o.bind S sr).imp λp d v a H1 g1 t=>h p v a H1 g1 t (sr.grow g1) (d.on (sr.on g1))}
set_option tactic.hygienic true in
def Jz(S:zv3 X)(K:Γ.qt=fx)(i j:Nat)(as:Es)(p:ig)(h:f7 Γ N sc (.par i j as) p=e6):GS X W F H0 E (.par i j as) p:=by
 cases p<;>first|(exact aO h)|skip
 rename_i ts v L;cases v<;>first|(exact aO h)|skip
 rename_i M O Pu
 match M,h with
 |[],h=>exact aO h|[_],h=>exact aO h|_::_::_::_,h=>exact aO h|[a,b],h=>
 replace h:=af h;simp! [zza,zzy,bne_iff_ne,ne_eq] at h;let((x,px,y,py),P,((((((((m,u),Q),z),A),d),e),R),T),f):=h;let(kt,pt,rfl):=I0 P;dsimp only at m u z A d e;have ga:=gZ as S.C [a,b] f;intro U s V H D I Y;refine N4 (S.C.calm K) (by rw [S.C.hN];exact S.C.nd) (by rw [S.C.hN];exact m) (by rw [S.C.hN];exact u) (zzY Q) (by rw [S.C.fX];exact d) (by rw [S.C.fX];exact e) ga (OM I.ok.kind (by rw [S.C.fX];exact d) (by rw [S.C.fX];exact e) A z R) rfl U s V H D I ?_;let(G,env,sr,o):=Y;rw [du] at o;refine P7 S sr o λZ vs G1 H1 g t B o1=>?_;have c:=t.rep T
 match Z,c,o1 with
 |[],_,o1=>exact o1.elim|[_],_,o1=>exact o1.elim|_::_::_::_,_,o1=>exact o1.elim|[p,q],c,o1=>
  let(v,r,rfl,hv,c):=c.aZ;let(w,r2,rfl,hw,c):=c.aZ;have:=c.length
  cases r2 with
  |cons _ _=>cases this
  |nil=>exact{v,w,rfl,o1 _ G1 H1 ((B.set i hv).set j hw) B.go}
def uO{e:Ci.E}(h:nu e=e6):∀env q,az F e env=.ok q->∃xs,q=.lst xs:=by
 cases e<;>first|(exact aO h)|exact lst_is
def qm(S:zv3 X){i:Nat}{c:Pos}(d:N[i]?=eW x)(f:je sc x=e6)(e:Ci.E)(p:hB)(g:nu e=e6)(h:aI Γ N sc e p=e6):PS X (.Assign [.Name x c] p pos) (Tw X W F i e):=by
 cases e with
 |lst as=>let(m,e,j):=af h;let(_,rfl):=xl e;have a:=aj j;have b:=aj a.1;exact Ji S d f (Dq b.1 (zzY b.2) (gZ as S.C _ a.2)) rfl|_=>exact aO g
set_option tactic.hygienic true in
def Bc{e:Ci.E}(h:aI Γ N sc e p=e6)(a:V5 e=e6):c7 p=e6:=by
 cases p<;>first|rfl|(cases e<;>first|(exact aO h)|(rename_i q;cases q<;>exact aO h)|(exact aO a))
def AM(S:zv3 X){i:Nat}{e:Ci.E}{c:Pos}(h:N[i]?=eW x)(hl:je sc x=e6)(b:eR e=e6)(a:aI Γ N sc e p=e6)(hk:V5 e=e6):GS X W F H0 E (.set i e) (.Assign [.Name x c] p pos):=by
 cases hf:nu e with
 |true=>exact HM S (uO hf) b (qm S h hl e p hf a)|false=>exact Ms S h hl b (bp e S.C p a).ge (fE (Bc a hk))
def Fv(S:zv3 X)(e:Ci.E)(p:ig)(h:f7 Γ N sc (.expr e) p=e6):GS X W F H0 E (.expr e) p:=by
 cases p<;>first|(exact aO h)|skip
 replace h:=aj h
 try simp! [zza] at h
 exact HJ S (bp e S.C _ h.2).ge h.1
def zL(S:zv3 X)(i:Nat)(e:Ci.E)(p:ig)(h:f7 Γ N sc (.set i e) p=e6):GS X W F H0 E (.set i e) p:=by
 cases p<;>first|(exact aO h)|skip
 replace h:=af h;simp! [Option.any_eq_true,zza,zzy] at h;let(x,b,a):=h;let(c,rfl):=sA b;exact AM S a.1.1.1.1 a.1.1.1.2 a.1.1.2 a.1.2 a.2
def Jy(S:zv3 X)(i:Nat)(e:Ci.E)(p:ig)(h:f7 Γ N sc (.own i e) p=e6):GS X W F H0 E (.own i e) p:=by
 cases p<;>first|(exact aO h)|skip
 replace h:=af h;simp! [Option.any_eq_true,zza,zzy] at h;let(x,a,h):=h;let(b,rfl):=sA a;exact HL S h.1.1.1 (uO h.1.2) (qm S h.1.1.1 h.1.1.2 e _ h.1.2 h.2)
def JB(S:zv3 X)(b:Γ.qt=fx)(a:Tg)(e:Ci.E)(p:ig)(h:f7 Γ N sc (.vT a e) p=e6):GS X W F H0 E (.vT a e) p:=by
 cases p<;>first|(exact aO h)|skip
 replace h:=af h;simp! [Option.any_eq_true,zza] at h;let(t,c,((((d,f),g),i),j),m):=h;cases i4 c;exact Mt S b d f g i j (bp e S.C _ m).ge
def Jx(S:zv3 X)(i:Nat)(p:ig)(h:f7 Γ N sc (.bR i) p=e6):GS X W F H0 E (.bR i) p:=by cases p<;>exact aO h
def Jw(S:zv3 X)(i:Nat)(e:Ci.E)(p:ig)(h:f7 Γ N sc (.app i e) p=e6):GS X W F H0 E (.app i e) p:=by
 cases p<;>first|(exact aO h)|skip
 replace h:=af h;simp! [Option.any_eq_true,zza,zzy] at h;let((x,m,args),c,((((d,f),g),j),o),q,r,a):=h;let(np,b,s,rfl,hl):=Nc c;cases i4 r;cases j;exact Mo S d f g hl o (bp e S.C q a).ge (notStar a)
def JA(S:zv3 X)(i:Nat)(a e:Ci.E)(p:ig)(h:f7 Γ N sc (.put i a e) p=e6):GS X W F H0 E (.put i a e) p:=by
 cases p<;>first|(exact aO h)|skip
 replace h:=af h;simp! [Option.any_eq_true,zza,zzy] at h;let((x,c),d,((((f,g),j),m),b),o):=h;let(np,sp,rfl):=Ou d;exact Mq S f g j m b (bp a S.C c b).ge (bp e S.C _ o).ge
def Fw(S:zv3 X)(c:Γ.qt=fx)(i:Nat)(e:Ci.E)(p:ig)(h:f7 Γ N sc (.vp i e) p=e6):GS X W F H0 E (.vp i e) p:=by
 cases p<;>first|(exact aO h)|skip
 let(x,d,f):=af h;let(g,as,_,_,rfl,j):=yx f;let(q,rfl,a):=fw j;let(t,rfl):=sA d;simp! [zza,zzy] at a;let(((((rfl,m),o),r),s),b):=a;exact HK S c r s m o (bp e S.C q b).ge (notStar b)
set_option tactic.hygienic true in
def zK(S:zv3 X)(e:Ci.E)(p:ig)(h:f7 Γ N sc (.ret e) p=e6):GS X W F H0 E (.ret e) p:=by
 cases p<;>first|(exact aO h)|skip
 rename_i v a;cases v with
 |none=>exact aO h|some v=>
  replace h:=aj h
  try simp! [zza] at h
  exact Mr S h.1 (bp e S.C v h.2).ge
set_option tactic.hygienic true in
def By(S:zv3 X)(a:Γ.qt=fx)(c m:Str)(p:ig)(h:f7 Γ N sc (.raise c m) p=e6):GS X W F H0 E (.raise c m) p:=by
 cases p<;>first|(exact aO h)|skip
 replace h:=aj h;simp! [Option.any_eq_true,zza,zzy] at h;let(b,(x,z),d,(((e,f),g),i),o):=h;let(np,j,r,s,rfl):=Om d;cases e;cases f;rename_i fr q;cases Option.isNone_iff_eq_none.mp b;exact Du S a g i o
def yL{c:Ci.E}{a b:Ss}{p:ig}(h:f7 Γ N sc (.ite c a b) p=e6):∃q d e pos,p=.If q d e pos/\gk c=e6/\aI Γ N sc c q=e6/\eh Γ N sc a d=e6/\eh Γ N sc b e=e6:=by
 cases p<;>first|(exact aO h)|skip
 replace h:=aj h
 try simp! [zza] at h
 exact{_,_,_,_,rfl,h.1.1.1,h.1.1.2,h.1.2,h.2}
def Ib{c:Tg}{b:Ss}{p:ig}(h:f7 Γ N sc (.g9 c it b) p=e6):∃a d e pos,p=.For a d e [] pos/\eK N sc (λZ=>e6) c a=e6/\AI it=e6/\uw Γ N sc a it d=e6/\eh Γ N sc b e=e6:=by
 cases p<;>first|(exact aO h)|skip
 replace h:=aj h
 try simp! [zza] at h
 cases List.isEmpty_iff.mp h.1.1.1.1;exact{_,_,_,_,rfl,h.1.1.1.2,h.1.1.2,h.1.2,h.2}
def yM{ps:List ig}(h:eh Γ N sc .nil ps=e6):ps=[]:=by
 cases ps with
 |nil=>rfl|cons _ _=>exact aO h
def uT{s:Ci.S}{a:Ss}{ps:List ig}(h:eh Γ N sc (.cons s a) ps=e6):(∃i,s=.bR i/\eh Γ N sc a ps=e6)\/∃q qs,ps=q::qs/\f7 Γ N sc s q=e6/\eh Γ N sc a qs=e6:=by
 by_cases b:∃i,s=.bR i
 .let(i,rfl):=b;exact .inl ⟨i,rfl,h⟩
 .cases ps with
  |nil=>cases s<;>first|(exact absurd ⟨_,rfl⟩ b)|(exact aO h)
  |cons p ps=>
   have c:(f7 Γ N sc s p&&eh Γ N sc a ps)=e6:=by
    cases s<;>first|(exact absurd ⟨_,rfl⟩ b)|(exact h)
   rw [zza] at c;exact .inr ⟨p,ps,rfl,c.1,c.2⟩
mutual
theorem Sn(S:zv3 X)(d:Γ.qt=fx):∀(s:Ci.S) (p:ig),f7 Γ N sc s p=e6->GS X W F H0 E s p
 |.expr e,p,h=>Fv S e p h|.set i e,p,h=>zL S i e p h|.own i e,p,h=>Jy S i e p h|.vT t e,p,h=>JB S d t e p h|.bR i,p,h=>Jx S i p h|.app i e,p,h=>Jw S i e p h|.put i u e,p,h=>JA S i u e p h|.vp i e,p,h=>Fw S d i e p h|.par i j as,p,h=>Jz S d i j as p h|.ret e,p,h=>zK S e p h|.ite c a b,p,h=>by let(q,A,w,pos,rfl,g,o,f,r):=yL h;exact Dt S ((bp c S.C _ o).gt g) (qY S d a _ f) (qY S d b _ r)|.g9 t it b,p,h=>by let(y,z,w,pos,rfl,g,o,f,r):=Ib h;exact Mp S d g o (Jv it S.C y z f) (nj f _) (qY S d b _ r)|.raise c m,p,h=>By S d c m p h
theorem qY(S:zv3 X)(b:Γ.qt=fx):∀(a:Ss) (ps:List ig),eh Γ N sc a ps=e6->Gj X W F H0 E a ps
 |.nil,ps,h=>by cases yM h;exact yF
 |.cons s a,ps,h=>by
  rcases uT h with⟨i,e,c⟩|⟨q,qs,e,d,c⟩
  .have:=HN (i:=i) (qY S b a ps c);rw [<-e] at this;exact this
  .rw [e];exact uR (Sn S b s q d) (qY S b a qs c)
end
mutual
noncomputable def N9:Ci.S->Bool
 |.set _ _=>e6|.ret _=>e6|.ite _ a b=>oU a&&oU b|_=>fx
noncomputable def oU:Ss->Bool
 |.nil=>e6|.cons s ss=>N9 s&&oU ss
end
mutual
theorem Wy(S:zv3 X):∀(s:Ci.S) (p:ig),N9 s=e6->f7 Γ N sc s p=e6->GS X W F H0 E s p
 |.set i e,p,_,h=>zL S i e p h|.ret e,p,_,h=>zK S e p h|.ite c a b,p,hz,h=>by unfold N9 at hz;rw [zza] at hz;let(q,m,o,pos,rfl,d,f,g,j):=yL h;exact Dt S ((bp c S.C _ f).gt d) (zI S a _ hz.1 g) (zI S b _ hz.2 j)|.expr _,_,h,_=>aO h|.own _ _,_,h,_=>aO h|.vT _ _,_,h,_=>aO h|.bR _,_,h,_=>aO h|.app _ _,_,h,_=>aO h|.put _ _ _,_,h,_=>aO h|.vp _ _,_,h,_=>aO h|.par _ _ _,_,h,_=>aO h|.g9 _ _ _,_,h,_=>aO h|.raise _ _,_,h,_=>aO h
theorem zI(S:zv3 X):∀(a:Ss) (ps:List ig),oU a=e6->eh Γ N sc a ps=e6->Gj X W F H0 E a ps
 |.nil,ps,_,h=>by cases yM h;exact yF
 |.cons s a,ps,hz,h=>by
  unfold oU at hz;rw [zza] at hz;rcases uT h with⟨i,e,b⟩|⟨q,qs,e,c,b⟩
  .rw [e] at hz;exact aO hz.1
  .rw [e];exact uR (Wy S s q hz.1 c) (zI S a qs hz.2 b)
end
end
end Ci
namespace L2
open PySem.Spec PyProof.Rows
def ak{K:zz8}{C c:g5}{b:Bool}(d:PySem.W.isClsIn K c=e6)(f:PySem.W.typeIn K (.ref c)=eW (.type "type"))(g:PySem.W.subIn K (.ref C) (.ref c)=eW b)(a:b=e6\/(C==c)=fx):PySem.W.kitOne K (.ref C) (.ref c)=eW b:=by
 have k:PySem.W.kitCls K (.ref C) (.ref c)=eW b:=by show(if((PySem.W.clsIn K c).isSome&&PySem.W.typeIn K (.ref c)==eW (.type "type"))=e6 then PySem.W.subIn K (.ref C) (.ref c) else eX)=eW b;rw [show(PySem.W.clsIn K c).isSome=e6 from d,f,g];rfl
 unfold PySem.W.kitOne;split
 .rename_i e;rcases a with rfl|a
  .rfl
  .have h:C=c:=fP.ref.inj (zzy.mp e);rw [h,beq_self_eq_true] at a;cases a
 .exact k
def Ea{K:zz8}{C:g5}{T:String}{b:Bool}(a:PySem.W.kitMeta T=e6)(c:PySem.W.subIn K (.ref C) (.type T)=eW b):PySem.W.kitOne K (.ref C) (.type T)=eW b:=by
 unfold PySem.W.kitOne;split
 .rename_i e;cases zzy.mp e
 .show(if PySem.W.kitMeta T=e6 then PySem.W.subIn K (.ref C) (.type T) else eX)=eW b;rw [if_pos a];exact c
def gd{K:zz8}{C c:g5}{b:Bool}(a:PySem.W.subIn K (.ref c) (.type (zu 5))=eW e6)(d:PySem.W.isClsIn K c=e6)(e:PySem.W.typeIn K (.ref c)=eW (.type "type"))(f:PySem.W.subIn K (.ref C) (.ref c)=eW b):PySem.W.exmOne K (.ref C) (.ref c)=eW b:=by unfold PySem.W.exmOne;rw [a];show PySem.W.kitCls K (.ref C) (.ref c)=eW b;show(if((PySem.W.clsIn K c).isSome&&PySem.W.typeIn K (.ref c)==eW (.type "type"))=e6 then PySem.W.subIn K (.ref C) (.ref c) else eX)=eW b;rw [show(PySem.W.clsIn K c).isSome=e6 from d,e,f];rfl
set_option tactic.hygienic true in
def NN{K:zz8}{C:g5}{i:List fP}{a:String}(X:K.In h)(hm:mg x=eW (.ref C))(q:PySem.W.excIn K C i a=e6):OwnCls x C i a mg h:=by
 constructor
 .exact hm
 .unfold PySem.W.excIn at q;split at q
  .rename_i r cd s t;split at q
   .rename_i u b j k k2 m w o y z;simp! [zza,zzy,Bool.not_eq_true'] at q;let(((((A,B),D),E),F),G):=q;subst A B;let(nm,bs,c,ns,H,hd,I,sub,L,d,e):=cd;have M:c=.ref u::b:=y;have f:e=fx:=D;have p:PySem.W.nsOkIn K ns=e6:=F;have g:PySem.W.nsIn K ns (zu 11)=eW eX:=G;subst M f;obtain⟨ls⟩:=s;have N:ls=[j,k,k2,m,eW (.builtin w),o]:=z;subst N;exact{b,ns,nm,H,bs,hd,I,sub,L,d,r,j,k,k2,m,o,_,X _ _ t,.of_isNs (PySem.W.isNs_of_in X p),PySem.W.nsMap_none_of_in X p g,PySem.W.tail_of_in X E}
   .cases q
  .cases q
end L2
namespace Ci
open L2
noncomputable abbrev CN:List Value:=[.type (zu 1),.type (zu 36),.type (zu 5),.type (zu 49)]
structure mP(K:zz8)(mg:Str->Option fP)(Γ:Pg)(W:Wd):Prop where
 hK:W.K=K
 hm:W.mg=mg
 gs:∀q∈Γ.gs,∃u v,mg q.1=eW u/\RelV v u/\∀G,Rep W G q.2 v
 bs:∀g∈Γ.bs,mg g=eX
 Nr:Γ.cs.contains (zu 1)=fx
 cls:∀c∈Γ.cs,∃C,mg c=eW (.ref C)
 xc:∀d∈W.xs,∀D,mg d=eW (.ref D)->nN K D/\(∀c∈Γ.cs,∀C,mg c=eW (.ref C)->PySem.W.kitOne K (.ref D) (.ref C)=eW (c==d||c==(zu 6)))/\PySem.W.kitOne K (.ref D) (.type (zu 1))=eW e6
 xs:∀c,Γ.rs.contains c=e6->c∈W.xs
 rm:∀c,Γ.rs.contains c=e6->∃C,mg c=eW (.ref C)/\PySem.W.excIn K C CN (zu 2)=e6
 Pe:Γ.cs.contains (zu 6)=e6->∀c D,c∈W.xs->mg c=eW (.ref D)->∀T,mg (zu 6)=eW (.ref T)->PySem.W.exmOne K (.ref D) (.ref T)=eW e6
 bm:W.ts≠[]->∃bm o,mg "__builtins__"=eW (.ref bm)/\bm≠builtinsNs/\bm≠iv/\K.lookup bm=eW o/\o.cls=.type "module"/\o.dict=eW builtinsNs/\o.data=.plain
structure Row where
 f:Str
 h:Str
 d:Def
 st:ig
 hl:Bool:=fx
noncomputable abbrev fV:Type:=List Row
abbrev mU(l:fV):List Str:=l.filterMap λr=>if r.d.ux.isNone then eW r.f else eX
abbrev AW(l:fV):List Hs:=l.filterMap λr=>r.d.ux.map λq=>⟨r.f,r.h,q.1,q.2,r.d.np⟩
abbrev tab(l:fV):List (Str×Def):=l.map λq=>(q.f,q.d)
abbrev oE(l:fV):List Str:=match l.getLast? with|some r=>if r.d.ux.isNone then [r.f] else []|none=>[]
abbrev Pg.at(Γ:Pg)(l:fV)(hl:Bool):Pg:={Γ with fs:=mU l,hs:=AW l,hl:=hl,qt:=l.isEmpty,qs:=oE l}
structure dI(Γ:Pg)(n:Str)(d:Def)(st:ig):Prop where
 sc:iO d.N (d.N.take d.np) (aw st)
 np:d.np<=d.N.length
 bind:∀(kV doc pm:fP) (an:Option g5) (dD ct:fP) (us:List fP),us.length=(d.N.take d.np).length->bindArgs (PySem.W.fnOf n n (bP st) (bb st) (aw st) .none kV doc pm an dD ct) {us,[]}=pure ((d.N.take d.np).zip us)
 S8:eh Γ d.N (aw st) d.body (bb st)=e6
 qui:(!Γ.qt||oU d.body)=e6
theorem stM{Γ:Pg}{n:Str}{d:Def}(b:∀(kV a c:fP) (e:Option g5) (f ct:fP) (us:List fP),us.length=(d.N.take d.np).length->bindArgs (PySem.W.fnOf n n (bP st) (bb st) (aw st) .none kV a c e f ct) {us,[]}=pure ((d.N.take d.np).zip us))
 (a1:(aw st).kind=.function:=by rfl) (a2:(aw st).isCoroutine=fx:=by rfl) (g:(aw st).isGenerator=fx:=by rfl) (h:d.N.Nodup:=by decide+kernel) (i:d.N.take (d.N.take d.np).length=d.N.take d.np:=by rfl)
 (j:∀x∈d.N.take d.np,(aw st).names.lookup x=eW .local\/(aw st).names.lookup x=eW .cell:=by decide+kernel) (k:∀y∈(aw st).names,y.2≠.free:=by decide+kernel) (m:d.np<=d.N.length:=by decide+kernel) (o:eh Γ d.N (aw st) d.body (bb st)=e6:=by decide+kernel) (p:(!Γ.qt||oU d.body)=e6:=by decide+kernel):dI Γ n d st:={⟨a1,a2,g,h,i,j,k⟩,m,b,o,p}
def eV(K:zz8)(c P:g5):Prop:=∃o a d f b g h e i,K.lookup c=eW o/\o.cls=.type "code"/\o.data=.fields a/\a[11]?=eW (.ref P)/\a.getD 11 .none=.ref P/\a.getD 18 .none=.str d f/\
 a.getD 7 .none=.int b g/\a.getD 9 .none=.bool h/\a.getD 10 .none=.int e i/\c≠P
abbrev jd(n:Str):Str:=(n++".<locals>.")++(zu 16)
def B3(K:zz8)(ts:List (g5×Str))(hl:Bool)(n:Str)(st:ig):Prop:=∃(f:g5) (oc:fP) (e:Option g5) (kV a g:fP) (h:Option g5) (b ct:fP) (i:Array (Option fP)),
 PySem.W.nsIn K iv n=eW (eW (.ref f))/\K.lookup f=eW {oc,e,.func (PySem.W.fnOf n n (bP st) (bb st) (aw st) .none kV a g h b ct),i}/\PySem.W.codeIn K b n=e6/\PySem.W.keepIn K (.ref f)=e6/\
 (hl=e6->∃c P,b=.ref c/\eV K c P/\(P,jd n)∈ts/\∀d,(P,d)∈ts->d=jd n)
def UD{K:zz8}{ts:List (g5×Str)}{n:Str}{f:g5}{oc:fP}{e:Option g5}{kV b g:fP}{h:Option g5}{d ct:fP}{i:Array (Option fP)}(a:PySem.W.nsIn K iv n=eW (eW (.ref f)))
 (l:K.lookup f=eW {oc,e,.func (PySem.W.fnOf n n (bP st) (bb st) (aw st) .none kV b g h d ct),i}) (c:PySem.W.codeIn K d n=e6) (k:PySem.W.keepIn K (.ref f)=e6):B3 K ts fx n st:={f,oc,e,kV,b,g,h,d,ct,i,a,l,c,k,nofun}
structure B4(K:zz8)(W:Wd)(B:aN):Prop where
 any:∀g as,B g as≠.bad->fi g=e6
 fld:∀f q,cQ f≠dJ->B (cQ f) [q]≠.bad->∃n o p,q=.obj n/\W.ob[n]?=eW o/\bA o.c=fx/\o.fs.lookup f=eW p/\B (cQ f) [q]=.ok p/\vX K o.C/\cN K o.C f
 con:∀q,B dJ [q]≠.bad->∃n o,q=.obj n/\W.ob[n]?=eW o/\bA o.c=e6/\B dJ [q]=.ok (Ax o)
structure GK(K:zz8)(W:Wd)(B:aN):Prop where
 fld:∀f q,cQ f≠dJ->B (cQ f) [q]≠.bad->∃n o p,q=.obj n/\W.ob[n]?=eW o/\bA o.c=fx/\o.fs.lookup f=eW p/\B (cQ f) [q]=.ok p/\vX K o.C/\cN K o.C f
 con:∀q,B dJ [q]≠.bad->∃n o,q=.obj n/\W.ob[n]?=eW o/\bA o.c=e6/\B dJ [q]=.ok (Ax o)
structure jo(P:hF)(w:hG)(K:zz8)(mg:Str->Option fP)(base:hZ)(W:Wd)(F:aN)(k:Nat)(f:Str):Prop where
 ex:∃fa fd ps,fu P w K mg base (dC P w) k fa fd ps (FA W F f ps.length eX)/\mg f=eW (.ref fa)/\PySem.W.keepIn K (.ref fa)=e6/\Binds K fd ps []/\∀as,F f as≠.bad->as.length=ps.length
structure JU(P:hF)(w:hG)(K:zz8)(mg:Str->Option fP)(base:hZ)(W:Wd)(F:aN)(k:Nat)(q:Hs):Prop where
 ex:∃fa fd ps,fu P w K mg base (dC P w) k fa fd ps (FA W F q.f ps.length (eW (q.g,q.idx)))/\mg q.h=eW (.ref fa)/\PySem.W.keepIn K (.ref fa)=e6/\Binds K fd ps []/\ps.length=q.np
section
variable{P:hF}{w:hG}{K:zz8}{Γ:Pg}{W:Wd}
def As{c p:g5}(f:K.In base)(h:eV K c p):PySem.W.CodeHd base c p:=by let(o,g,b,i,a,j,k,d,m,e,r):=h;exact{o,g,b,i,a,j,k,d,m,f _ _ e,r}
theorem wK(M:mP K mg Γ W)(a:K.In base){F:aN}{k:Nat}{ps:List Str}{sc:hX}(S:iO N ps sc)(O:∀f,Γ.fs.contains f=e6->jo P w K mg base W F k f)(Q:∀q∈Γ.hs,JU P w K mg base W F k q)(m:∀f,Γ.qs.contains f=e6->2<=k/\jo P w K mg base W F 2 f)(hk:Γ.qt=fx->2<=k)(R:∀g as,F g as≠.bad->Γ.fs.contains g=e6\/fi g=e6)(r:GK K W F){f:g5}{cd:fP}
 (t:Γ.hl=e6->∃c p,cd=.ref c/\eV K c p/\(p,jd qual)∈W.ts/\∀u,(p,u)∈W.ts->u=jd qual)   {s:gC}  {E:XK} (b:dt (k+1) (A.deeper (PyProof.Rows.envOfC qual sc (zz9 s) f cd))):
 fF Γ F W N sc k E (dG (dC P w) P w K mg base N qual sc f cd A outer s H E) where
 C:={rfl,rfl,λz=>Option.isNone_iff_eq_none.mpr (b.hd (by have:=hk z;lia)),S.nd,M.hK,M.hm,M.gs,M.bs,b,λg d=>{(O g d).ex},M.Nr,M.cls,M.xc,λq i=>{(Q q i).ex},λf B=>{(m f B).1,{(m f B).2.ex}},R,r.fld,r.con,λz=>by
  let(c,p,G,I,e3,L):=t z;exact{c,p,G,As a I,e3,L},λz=>by
  let(c,p,G,I,e3,L):=t z;let(bm,o,T,U,V,X,Y):=M.bm (λy=>by rw [y] at e3;cases e3);exact{bm,o,T,U,V,a _ _ X,Y},λ_ _=>rfl}
 fn:=λ_=>rfl
 own:=PassesOwn.leaving
 pass:=RR
 kind:=S.kind
 OJ:=rfl
 frame:=rfl
 xs:=M.xs
 rm:=λc Z=>let⟨C,h,_⟩:=M.rm c Z;⟨C,h⟩
 rz:=λi c z j np zp cp pos h1 h2 h3=>by let(C,hC,hx):=M.rm c h1;have d:Gl (dG (dC P w) P w K mg base N qual sc f cd A outer s H E) c:=zzy.mp h2;refine L2.PS.imp (Ff d (NN a hC hx) PySem.F.excBase_ValueError (bQ EY dA) rfl rfl (eE h3).1 (Option.isNone_iff_eq_none.mpr (b.hd (by have:=hk i;lia)))) λD σ H1 h=>{(show 1<=h9 by decide),λe he=>h C e hC he}
 Pe:=M.Pe
def vJ{as:List PV}(f:aA G H)(tb:bu W G H)(l:ah W G as vs)(hn:as.length<=N.length):SR W H (as.map .val++jZ (N.length-as.length) .no) (start N vs) G H:=by
 have hl:=l.length;unfold L2.start;refine{by simp;lia,f,jb.refl _,λi s e=>?_,λi j p q a b Z Z Z=>?_,tb,tb}
 .by_cases c:i<as.length
  .rw [eg (zx6 c),cz] at e;let(p,d,rfl):=bM.mp e;let(v,g,rv):=l.rV d;exact{eW v,by rw [eg (by simpa using (show i<vs.length by lia)),cz,g];rfl,v,rfl,rv}
  .rw [ei (zx6 c),List.getElem?_replicate] at e;split at e
   .rename_i h;cases e;rw [zzl] at h;exact{eX,by rw [ei (by simp;lia),List.getElem?_replicate,if_pos (by rw [zzl];lia)],trivial}
   .cases e
 .exfalso;by_cases c:i<as.length
  .rw [eg (zx6 c),cz] at b;let(p,d,e):=bM.mp b;cases e
  .rw [ei (zx6 c),List.getElem?_replicate] at b;split at b<;>cases b
def BB{d:Def}{as:List PV}(c:d.np<=d.N.length)(e:aA G H)(tb:bu W G H)(l:BZ W G d.ux as vs)(a:vs.length=d.np):eY d as=e6/\SR W H (fj d as) (start d.N vs) G H:=by
 unfold eY fj;cases b:d.ux with
 |none=>rw [b] at l;have l:ah W G as vs:=l;exact{by rw [<-l.length,a];simp,vJ e tb l (by rw [<-l.length,a];exact c)}|some q=>rw [b] at l;exact l.elim
def Kc(M:mP K mg Γ W)(u:K.In base){F:aN}{k:Nat}{n nf:Str}{d:Def}{i:g5}{fd:FuncData}(St:dI Γ n d st)(y:KQ K n n st i fd)(z:∀f,Γ.fs.contains f=e6->jo P w K mg base W F k f)(B:∀q∈Γ.hs,JU P w K mg base W F k q)(C:∀f,Γ.qs.contains f=e6->2<=k/\jo P w K mg base W F 2 f)(hk:Γ.qt=fx->2<=k)(D:∀g as,F g as≠.bad->Γ.fs.contains g=e6\/fi g=e6)(I:GK K W F)
 (L:Γ.hl=e6->∃c p,fd.code=.ref c/\eV K c p/\(p,jd n)∈W.ts/\∀j,(p,j)∈W.ts->j=jd n):
 fu P w K mg base (dC P w) (k+2) i fd (d.N.take d.np) (FA W (λ_ as=>aV F d as) nf (d.N.take d.np).length d.ux):=by
 have a:(d.N.take d.np).length=d.np:=by rw [List.length_take];have:=St.np;lia
 let(oc,Z,kV,O,pm,an,dD,ct,pJ,rfl,R,S):=y.ex;refine C8 R S St.sc (λT H Q E h=>h.1) λA outer s H T Q E U h=>?_;let(hl,G,as,V,tb,l,o):=h;rw [a] at hl;let(X,sr):=BB St.np V tb l hl;have m:=wK (outer:=outer) (s:=s) (H:=H) (E:=E) M u St.sc z B C hk D I L U
 refine{YR W F H E d.body,(by
  cases t:Γ.qt with
  |false=>exact qY m t d.body _ St.S8|true=>exact zI m d.body _ (by have:=St.qui;rw [t] at this;exact this) St.S8),G,fj d as,sr,?_}
 dsimp only at o;unfold aV at o;rw [if_pos X] at o;cases r:bj F d.body (fj d as) with
 |bad=>rw [r] at o;exact o|exc c=>rw [r] at o;exact o|ok fl=>
  rw [r] at o;cases fl with
  |nx env=>exact λY b e sr g=>o .aP b e g .n|rt p=>exact λv b e rv g=>o v b e g rv|bk env=>exact o.elim|ct env=>exact o.elim
def AllK(K:zz8)(ts:List (g5×Str))(Γ:Pg):fV->Prop
 |[]=>True|r::l=>B3 K ts r.hl r.h r.st/\dI (Γ.at l r.hl) r.h r.d r.st/\((l.map (·.f)).contains r.f=fx/\(r.d.ux.isNone==!fi r.f)=e6/\(r.d.ux.isNone=e6->r.f=r.h)/\P8 r.f=fx)/\AllK K ts Γ l
def sy(M:mP K mg Γ W)(l:fV)(hl:Bool):mP K mg (Γ.at l hl) W:=⟨M.hK,M.hm,M.gs,M.bs,M.Nr,M.cls,M.xc,M.xs,M.rm,M.Pe,M.bm⟩
def jo.mono{F:aN}{k:Nat}(h:jo P w K mg base W F j f)(hk:j<=k):jo P w K mg base W F k f:=by let(a,fd,b,c,d):=h.ex;exact{a,fd,b,c.mono hk,d}
def o7{F a:aN}{b:Str}{n:Nat}{q:Option (Str×List Nat)}(e:∀as,a b as=F f as):FA W a b n q=FA W F f n q:=by
 funext c H Q E
 unfold FA;simp! [e]
def jo.swap{F a:aN}{k:Nat}(h:jo P w K mg base W F k f)(e:∀as,a f as=F f as):jo P w K mg base W a k f:=by let(b,fd,c,d,g,i,j,m):=h.ex;refine{b,fd,c,?_,g,i,j,λas o=>m as (by rw [<-e];exact o)};rw [o7 e];exact d
def JU.swap{F a:aN}{k:Nat}{q:Hs}(h:JU P w K mg base W F j q)(hk:j<=k)(e:∀as,a q.f as=F q.f as):JU P w K mg base W a k q:=by let(b,fd,c,d,g,i,m,o):=h.ex;refine{b,fd,c,?_,g,i,m,o};rw [o7 e];exact d.mono hk
variable{B:aN}
def ip{r:Row}{l:fV}{g:Str}(h:(g==r.f)=fx)(as:List PV):aG B (tab (r::l)) g as=aG B (tab l) g as:=by show(if(g==r.f)=e6 then _ else _)=_;rw [h];rfl
def uD{r:Row}{l:fV}(as:List PV):aG B (tab (r::l)) r.f as=aV (aG B (tab l)) r.d as:=by show(if(r.f==r.f)=e6 then _ else _)=_;rw [beq_self_eq_true];rfl
theorem ng(a:∀g as,B g as≠.bad->fi g=e6):∀(l:fV) {ts:List (g5×Str)},AllK K ts Γ l->∀g as,aG B (tab l) g as≠.bad->(mU l).contains g=e6\/fi g=e6
 |[],_,_,g,as,h=>.inr (a g as h)|r::l,ts,⟨_,_,⟨_,hn,_,_⟩,c⟩,g,as,h=>by
  by_cases e:(g==r.f)=e6
  .have i:=zzy.mp e
   subst i;cases b:r.d.ux with
   |none=>left;unfold mU;rw [List.filterMap_cons,b];simp|some q=>right;rw [b] at hn;simpa using hn
  .rw [ip (zx6 e)] at h;rcases ng a l c g as h with z|z
   .left;unfold mU at z⊢;rw [List.filterMap_cons];split
    .exact z
    .rw [List.contains_cons,z,Bool.or_true]
   .exact .inr z
def iX:∀{l:fV} {f:Str},(oE l).contains f=e6->l≠[]/\(mU l).contains f=e6:=by
 intro l f h;unfold oE at h;cases e:l.getLast? with
 |none=>rw [e] at h;cases h
 |some r=>
  rw [e] at h;have hm:=List.mem_of_getLast? e;refine{λz=>(by rw [z] at hm;cases hm),?_};dsimp only at h;split at h
  .rename_i a;have b:f=r.f:=zx6 h;rw [d9,b];exact et.mpr {r,hm,if_pos a}
  .cases h
def yl(f:Str):P8 (cQ f)=e6:=by unfold P8 cQ;show((("@":Str)++f).cps[0]?==eW 64)=e6;have e:(("@":Str)++f).cps=("@":Str).cps++f.cps:=rfl;rw [e];simp [Array.getElem?_append];rfl
theorem iq:∀(l:fV) {ts:List (g5×Str)},AllK K ts Γ l->∀g as,P8 g=e6->aG B (tab l) g as=B g as
 |[],_,_,_,_,_=>rfl|r::l,ts,⟨_,_,⟨_,_,_,h0⟩,b⟩,g,as,a=>by
  have e:(g==r.f)=fx:=by
   cases z:g==r.f with
   |false=>rfl|true=>rw [zzy.mp z,h0] at a;cases a
  rw [ip e];exact iq l b g as a
theorem rO(c:B4 K W B)(l:fV){ts:List (g5×Str)}(h:AllK K ts Γ l):GK K W (aG B (tab l)) where
 fld:=λf q d a=>by rw [iq l h _ _ (yl f)] at a;let(n,o,p,b):=c.fld f q d a;exact{n,o,p,by rw [iq l h _ _ (yl f)];exact b}
 con:=λq a=>by rw [iq l h _ _ (by rfl)] at a;let(n,o,b):=c.con q a;exact{n,o,by rw [iq l h _ _ (by rfl)];exact b}
set_option tactic.hygienic true in
theorem nO(D:B4 K W B)(M:mP K mg Γ W)(t:K.In base)(G:base.Ns iv mg):∀(l:fV),AllK K W.ts Γ l->(∀f,(mU l).contains f=e6->jo P w K mg base W (aG B (tab l)) (2*l.length) f)/\(∀q∈AW l,JU P w K mg base W (aG B (tab l)) (2*l.length) q)/\∀f,(oE l).contains f=e6->jo P w K mg base W (aG B (tab l)) 2 f
 |[],_=>{λf a=>by simp [mU] at a,λq b=>by simp [AW] at b,λf a=>absurd rfl (iX a).1}|r::l,j=>by
  let(he,hs,(Gr,hnm,E,_),F):=j;let(S,m,o):=nO D M t G l F;have p:l≠[]->2<=2*l.length:=λz=>by have:=List.length_pos_iff.mpr z;lia
  let(T,oc,od,kV,doc,pm,an,dD,ct,pJ,U,e2,e3,H,e5):=he;have I:=rT (st:=r.st) e2 e3 H;have ok:=Kc (P:=P) (w:=w) (nf:=r.f) (sy M l r.hl) t (k:=2*l.length) hs I (λg u=>S g u) (λq b=>m q b) (λf a=>{p (iX a).1,o f a}) (λz=>p λy=>by subst y;cases z) (ng D.any l F) (rO D l F) e5
  have L:∀g,(l.map (·.f)).contains g=e6->(g==r.f)=fx:=λg u=>by
   cases z:g==r.f with
   |false=>rfl|true=>rw [zzy.mp z,Gr] at u;cases u
  have sp:FA W (λ_ as=>aV (aG B (tab l)) r.d as) r.f (r.d.N.take r.d.np).length r.d.ux=FA W (aG B (tab (r::l))) r.f (r.d.N.take r.d.np).length r.d.ux:=o7 λas=>(uD as).symm;rw [sp] at ok;have c:(r.d.N.take r.d.np).length=r.d.np:=by rw [List.length_take];have:=hs.np;lia
  have V:∀f,(mU l).contains f=e6->(l.map (·.f)).contains f=e6:=λf a=>by
   rw [d9] at a⊢;unfold mU at a;let(x,O,e):=et.mp a;split at e
   .cases e;exact List.mem_map_of_mem (f:=(·.f)) O
   .cases e
  have h:∀f,(mU (r::l)).contains f=e6->jo P w K mg base W (aG B (tab (r::l))) (2*(r::l).length) f:=λf a=>by
   by_cases X:(f==r.f)=e6/\r.d.ux=eX
   .let(h1,Q):=X;have e:=zzy.mp h1;subst e;refine{T,_,r.d.N.take r.d.np,by rw [Q] at ok;exact ok,?_,H,I.binds hs.bind,λas A=>?_}
    .rw [E (by rw [Q];rfl)];exact PySem.W.mg_of t G U
    .rw [uD] at A;unfold aV at A;by_cases C:eY r.d as=e6
     .unfold eY at C;rw [Q] at C;rw [c];exact zzy.mp C
     .rw [if_neg C] at A;exact absurd rfl A
   .have Y:(mU l).contains f=e6:=by
     unfold mU at a⊢;rw [List.filterMap_cons] at a;split at a
     .exact a
     .rename_i y R;split at R
      .rename_i s;cases R;rw [List.contains_cons,ej] at a;rcases a with z|z
       .exact absurd {z,Option.isNone_iff_eq_none.mp s} X
       .exact z
      .cases R
    exact((S f Y).mono (by rw [bV];lia)).swap λas=>ip (L f (V f Y)) as
  refine{h,λq b=>?_,λf a=>?_}
  rotate_left
  .cases l with
   |nil=>exact h f (iX a).2|cons x Z=>
    have e:oE (r::x::Z)=oE (x::Z):=by unfold oE;rw [List.getLast?_cons_cons]
    rw [e] at a;exact(o f a).swap λas=>ip (L f (V f (iX a).2)) as
  .unfold AW at b;rw [List.filterMap_cons] at b;have i:q∈AW l->JU P w K mg base W (aG B (tab (r::l))) (2*(r::l).length) q:=λb=>by
    refine(m q b).swap (by rw [bV];lia) λas=>ip (L q.f ?_) as;unfold AW at b;let(x,O,e):=et.mp b;let(y,_,rfl):=bM.mp e;rw [d9];exact List.mem_map_of_mem (f:=(·.f)) O
   cases s:r.d.ux with
   |none=>rw [s] at b;exact i b|some y=>
    rw [s] at b;rcases d8.mp b with z|z
    .subst z;rw [s] at ok;exact{T,_,r.d.N.take r.d.np,ok,PySem.W.mg_of t G U,H,I.binds hs.bind,c}
    .exact i z
end
structure OS where
 c:Str
 fs:List (Str×PV)
noncomputable abbrev Sg:=List OS
abbrev Qt(o:OS):PV:=if DT o.c then .cy (o.fs.map (·.1)) (o.fs.map (·.2)) else .lst (o.fs.map (·.2))
abbrev C5(o:OS)(g:Str):Res PV:=match o.fs.find? λq=>cQ q.1==g with
 |some q=>.ok q.2|none=>.bad
abbrev aU(s:Sg):aN:=λg as=>match as with
 |[.obj n]=>(match s[n]? with
  |some o=>if bA o.c then(if g==dJ then .ok (Qt o) else .bad) else if g==dJ then .bad else C5 o g
  |none=>.bad)
 |_=>.bad
inductive Rs(α:Type) where
 |ok (a:α) (s:Sg)|exc (c:Str) (s:Sg)|bad
abbrev Rs.bind{b d:Type}:Rs b->(b->Sg->Rs d)->Rs d
 |.ok a s,f=>f a s|.exc c s,_=>.exc c s|.bad,_=>.bad
abbrev Rs.of{b:Type}(r:Res b)(s:Sg):Rs b:=match r with
 |.ok a=>.ok a s|.exc c=>.exc c s|.bad=>.bad
abbrev Rs.well{b:Type}:Rs b->Rs b
 |.ok a s=>.ok a s|_=>.bad
noncomputable abbrev gB:=Str->List PV->Sg->Rs PV
abbrev mD(c m:Str):Str:=(c++".")++m
mutual
inductive X2 where
 |pu (e:E)
 |vZ (f:Str) (as:Es)
 |c1 (f:Str) (as:vY)
 |met (o:E) (c m:Str) (as:Es)
 |new (c:Str) (as:Es)
 |tup (as:vY)
 |cmp (o:tV) (a b:X2)
 |n5 (k:Nat) (bf:List Nat) (tg:Tg) (it elt:X2)
 |CD
 |xm (as:vY)
 |dict (x:X2)
 |uf (a:E) (x:X2)
 |xG (a:E)
 |qF (a k:E)
 |ite (c:E) (a b:X2)
 |FQ (f:Str) (bf:List Nat) (x:X2)
inductive vY where
 |nil|cons (x:X2) (xs:vY)
end
abbrev bG(f:PV->Sg->Rs PV):List PV->Sg->Rs (List PV)
 |[],s=>.ok [] s|x::xs,s=>(f x s).well.bind λy s1=>(bG f xs s1).bind λys a=>.ok (y::ys) a
abbrev S5(p:PV)(s:Sg):Rs Bool:=match p with
 |.bl b=>.ok b s|_=>.bad
abbrev kJ{a:Type}(s:Sg)(k:Str->Bool)(p:PV)(f:Nat->OS->Rs a):Rs a:=match p with
 |.obj n=>(match s[n]? with
  |some o=>if k o.c then f n o else .bad
  |none=>.bad)
 |_=>.bad
abbrev Nh(c:Str)(fs:List (Str×PV))(s:Sg):Rs PV:=.ok (.obj s.length) (s++[⟨c,fs⟩])
abbrev putD(z:Str)(p:PV)(fs:List (Str×PV)):List (Str×PV):=(eN (fs.map (·.1)) z).zip (cS (fs.map (·.1)) (fs.map (·.2)) z p)
abbrev fe(z:Str)(fs:List (Str×PV)):List (Str×PV):=(fM (fs.map (·.1)) z).zip (bK (fs.map (·.1)) (fs.map (·.2)) z)
abbrev rG:List Nat->Sl->Res Sl
 |[],_=>.ok []|i::r,env=>(mO env[i]?).bind λp=>(rG r env).bind λps=>.ok (.val p::ps)
section
variable(F1:Sg->aN)(F2:gB)
abbrev kH(s:Sg)(n:Nat)(c:Str):Bool:=match s[n]? with
 |some o=>o.c==c&&!bA c|none=>fx
abbrev Ew(c:Str)(ps:List PV)(s:Sg):Rs PV:=if bA c then .bad else(F2 (mD c (zu 11)) (.obj s.length::ps) (s++[{c,[]}])).bind λp a=>if yR p then .ok (.obj s.length) a else .bad
mutual
noncomputable def bF:X2->Sl->Sg->Rs PV
 |.pu e,env,s=>.of (az (F1 s) e env) s|.vZ f as,env,s=>(Rs.of (bJ (F1 s) as env) s).bind λps s=>F2 f ps s|.c1 f as,env,s=>(eJ as env s).bind λps s=>.of (F1 s f ps) s|.met o c m as,env,s=>(Rs.of (az (F1 s) o env) s).bind λp s=>(match p with
  |.obj n=>if kH s n c then(Rs.of (bJ (F1 s) as env) s).bind λps s=>F2 (mD c m) (.obj n::ps) s else .bad
  |_=>.bad)
 |.new c as,env,s=>(Rs.of (bJ (F1 s) as env) s).bind λps s=>Ew F2 c ps s|.tup as,env,s=>(eJ as env s).bind λps s=>.ok (.tup ps) s|.cmp o a b,env,s=>(bF a env s).bind λp s=>(bF b env s).bind λq s=>.of (cG o p q) s|.n5 k g i it elt,env,s=>(bF it env s).bind λp s=>(match p with
  |.lst xs=>if xs.length<cb then(bG (λx s=>(Rs.of (i.put x (jZ k .no++eQ env g)) s).bind λh s=>bF elt h s) xs s).bind λys s=>.ok (.lst ys) s else .bad
  |_=>.bad)
 |.CD,_,s=>Nh "#d" [] s|.xm as,env,s=>(eJ as env s).bind λps s=>Nh "#l" (ps.map λp=>(("":Str),p)) s|.dict x,env,s=>(bF x env s).bind λp s=>.of (gW [p]) s|.uf a x,env,s=>(Rs.of (az (F1 s) a env) s).bind λq s=>kJ s DV q λZ Z=>(bF x env s).bind λp s=>kJ s DV q λn o=>if o.fs.length<cb then .ok PV.aP (s.set n {o.c,o.fs++[(("":Str),p)]}) else .bad
 |.xG a,env,s=>(Rs.of (az (F1 s) a env) s).bind λq s=>kJ s DV q λn o=>match o.fs[o.fs.length-1]? with
  |some p=>.ok p.2 (s.set n ⟨o.c,o.fs.dropLast⟩)|none=>.bad
 |.qF a k,env,s=>(Rs.of (az (F1 s) a env) s).bind λq s=>kJ s DT q λZ Z=>(Rs.of (az (F1 s) k env) s).bind λz s=>kJ s DT q λn o=>match fg z with
  |some z=>(match bS (o.fs.map (·.1)) (o.fs.map (·.2)) z with
   |some p=>.ok p (s.set n {o.c,fe z o.fs})|none=>.bad)
  |none=>.bad
 |.ite c a b,env,s=>(Rs.of (az (F1 s) c env) s).bind λp s=>(S5 p s).bind λt s=>if t then bF a env s else bF b env s
 |.FQ _ g x,env,s=>(Rs.of (rG g env) s).bind λh s=>match bF x h s with
  |.exc d s'=>.of (F1 s' (zu 9) [.exc d]).well s'|r=>r
noncomputable def eJ:vY->Sl->Sg->Rs (List PV)
 |.nil,_,s=>.ok [] s|.cons x xs,env,s=>(bF x env s).bind λp s=>(eJ xs env s).bind λps s=>.ok (p::ps) s
end
end
inductive T2 where
 |pu (e:E)|cmp (o:tV) (a b:X2)|or (a b:T2)
section
variable(F1:Sg->aN)(F2:gB)
abbrev v7:T2->Sl->Sg->Rs Bool
 |.pu e,env,s=>(Rs.of (az (F1 s) e env) s).bind S5|.cmp o a b,env,s=>(bF F1 F2 (.cmp o a b) env s).bind S5|.or a b,env,s=>(v7 a env s).bind λt s=>if t then .ok e6 s else v7 b env s
end
mutual
inductive S2 where
 |p (s:S)
 |set (i:Nat) (x:X2)
 |vT (tg:Tg) (x:X2)
 |ex (x:X2)
 |ret (x:X2)
 |vH (c:Str) (i:Nat) (f:Str) (x:X2)
 |Bs (a k e:E)
 |ite (c:T2) (a b:nM)
 |g9 (tg:Tg) (it:I) (b:nM)
inductive nM where
 |nil|cons (s:S2) (ss:nM)
end
abbrev oT(f:Str)(p:PV):List (Str×PV)->List (Str×PV)
 |[]=>[(f,p)]|(g,q)::r=>if g=f then(g,p)::r else(g,q)::oT f p r
abbrev Ow(s:Sg)(n:Nat)(f:Str)(p:PV):Rs Unit:=match s[n]? with
 |some o=>if o.fs.length<1000 then .ok () (s.set n {o.c,oT f p o.fs}) else .bad
 |none=>.bad
abbrev ji(body:PV->Sl->Sg->Rs Fl):List PV->Sl->Sg->Rs Fl
 |[],env,s=>.ok (.nx env) s|x::xs,env,s=>(body x env s).bind λf s=>match f with
  |.nx a=>ji body xs a s|.ct a=>ji body xs a s|.bk a=>.ok (.nx a) s|.rt p=>.ok (.rt p) s
abbrev Wv(f:Fl)(s:Sg)(k:Sl->Sg->Rs Fl):Rs Fl:=match f with
 |.nx env=>k env s|f=>.ok f s
abbrev clean(f:Fl):Res Fl:=match f with
 |.nx env=>if env.any Slot.cg then .bad else .ok (.nx env)
 |.rt p=>.ok (.rt p)|_=>.bad
section
variable(F1:Sg->aN)(F2:gB)
mutual
noncomputable def eM:S2->Sl->Sg->Rs Fl
 |.p st,env,s=>.of ((du (F1 s) st env).bind clean) s|.set i x,env,s=>(bF F1 F2 x env s).bind λp s=>.ok (.nx (env.set i (.val p))) s|.vT d x,env,s=>(bF F1 F2 x env s).bind λp s=>(Rs.of (d.put p env) s).bind λg s=>.ok (.nx g) s|.ex x,env,s=>(bF F1 F2 x env s).bind λZ s=>.ok (.nx env) s|.ret x,env,s=>(bF F1 F2 x env s).bind λp s=>.ok (.rt p) s|.vH c i f x,env,s=>(bF F1 F2 x env s).bind λp s=>(match env[i]? with
  |some (.val (.obj n))=>if kH s n c then(Ow s n f p).bind λZ s=>.ok (.nx env) s else .bad
  |_=>.bad)
 |.Bs a k e,env,s=>(Rs.of (az (F1 s) e env) s).bind λp s=>(Rs.of (az (F1 s) a env) s).bind λq s=>(Rs.of (az (F1 s) k env) s).bind λz s=>(kJ s DT q λn o=>match fg z with
  |some z=>if o.fs.length<cb then .ok PV.aP (s.set n {o.c,putD z p o.fs}) else .bad
  |none=>.bad).bind λZ s=>.ok (.nx env) s
 |.ite c a b,env,s=>(v7 F1 F2 c env s).bind λt s=>if t then cB a env s else cB b env s
 |.g9 d it b,env,s=>(Rs.of (wN (F1 s) it env) s).bind λxs s=>ji (λx env s=>(Rs.of (d.put x env) s).bind λg s=>cB b g s) xs env s
noncomputable def cB:nM->Sl->Sg->Rs Fl
 |.nil,env,s=>.ok (.nx env) s|.cons st ss,env,s=>(eM st env s).bind λf s=>Wv f s (cB ss)
end
end
structure D2 where
 N:List Str
 np:Nat
 body:nM
abbrev gR(d:D2)(as:List PV):Sl:=as.map .val++jZ (d.N.length-as.length) .no
abbrev mf(F1:Sg->aN)(F2:gB)(d:D2)(as:List PV)(s:Sg):Rs PV:=
 if as.length==d.np then(cB F1 F2 d.body (gR d as) s).bind λf s=>(match f with
  |.nx _=>.ok .aP s|.rt p=>.ok p s|_=>.bad)
 else .bad
abbrev b8(F1:Sg->aN):List (Str×D2)->gB
 |[],_,_,_=>.bad|(n,d)::r,f,as,s=>if f==n then mf F1 (b8 F1 r) d as s else b8 F1 r f as s
noncomputable abbrev Wd.at(W:Wd)(ob:List Ob):Wd:={W with ob:=ob}
abbrev aC(l:List Ob):Sg:=l.map λo=>⟨o.c,o.fs⟩
def zZ(ob d:List Ob):Prop:=∀(n:Nat) (o:Ob),ob[n]?=eW o->∃b,d[n]?=eW b/\b.a=o.a/\b.dx=o.dx/\b.C=o.C/\b.c=o.c
def zZ.refl(ob:List Ob):zZ ob ob:=λZ o h=>⟨o,h,rfl,rfl,rfl,rfl⟩
theorem zZ.trans{a b c:List Ob}(h:zZ a b)(k:zZ b c):zZ a c:=λn o e=>by let(o1,d,f,g,i,j):=h n o e;let(o2,m,p,k2,q,r):=k n o1 d;exact{o2,m,p.trans f,k2.trans g,q.trans i,r.trans j}
section
variable{W:Wd}{ob aF:List Ob}
mutual
theorem Rep.at(i:zZ ob aF):∀(p:PV) {v:V},Rep (W.at ob) G p v->Rep (W.at aF) G p v
 |.aP,_,h=>by simpa only [Rep] using h|.bl b,_,h=>by simpa only [Rep] using h|.int _,_,h=>by simpa only [Rep] using h|.str z,_,h=>by simpa only [Rep] using h|.tup xs,_,h=>by simp! [Rep] at h⊢;let(a,vs,e,q,l):=h;exact{a,vs,e,q,ah.at i xs l}|.lst xs,_,h=>by simp! [Rep] at h⊢;let(a,vs,e,q,l):=h;exact{a,vs,e,q,ah.at i xs l}|.exc c,_,h=>by simpa only [Rep] using h|.cy k vs,_,h=>by simp! [Rep] at h⊢;let(a,o,d,e,n,m,l):=h;exact{a,o,d,e,n,m,ah.at i vs l}|.obj n,_,h=>by simp! [Rep] at h⊢;let(o,e,rfl):=h;let(f,g,j,_):=i n o e;exact{f,g,by rw [j]}
theorem ah.at(i:zZ ob aF):∀(ps:List PV) {vs:List V},ah (W.at ob) G ps vs->ah (W.at aF) G ps vs
 |[],_,h=>by simpa only [ah] using h|p::ps,_,h=>by simp! [ah] at h⊢;let(v,r,e,a,b):=h;exact{v,r,e,Rep.at i p a,ah.at i ps b}
end
end
def wm(H d:Hp):Prop:=∀b o,H b=eW o->∃c,d b=eW c/\((∀a,o≠.tup a)->∀a,c≠.tup a)
def wm.refl(H:Hp):wm H H:=λZ o h=>⟨o,h,id⟩
theorem wm.trans{d:Hp}(a:wm H H1)(b:wm H1 d):wm H d:=λc o h=>by let(o1,e,f):=a c o h;let(o2,g,k2):=b c o1 e;exact{o2,g,λn=>k2 (f n)}
def jb.Wx{c:Hp}(h:jb H c):wm H c:=λb o e=>by
 rcases h b o e with⟨n,a⟩|⟨d,m,rfl,a⟩
 .exact⟨o,a,id⟩
 .exact{_,a,λZ Z z=>nomatch z}
def wm.of{a:Hp}(h:aA H a):wm H a:=λb o e=>{o,h b o e,id}
def wm.has{b:Hp}(h:wm H b)(z:H a≠eX):b a≠eX:=by
 cases e:H a with
 |none=>exact absurd e z|some o=>let(d,c,_):=h a o e;rw [c];exact nofun
theorem wm.jj{b:Hp}(h:wm H b)(z:H a≠eX)(n:∀vs,H a≠eW (.tup vs)):∀vs,b a≠eW (.tup vs):=λvs y=>by
 cases e:H a with
 |none=>exact absurd e z|some o=>let(f,c,k):=h a o e;rw [y] at c;cases c;exact k (λd q=>n d (by rw [e,q])) vs rfl
structure fZ(W:Wd)(ob:List Ob)(G H:Hp)(aF:List Ob)(G' H':Hp):Prop where
 ids:zZ ob aF
 g:aA G G'
 h:wm H H'
 sub:aA G' H'
 own:∀a,H a≠eX->(∀vs,H a≠eW (.tup vs))->G a=eX->G' a=eX
 tab:bu (W.at ob) G H->bu (W.at aF) G' H'
section
variable{W:Wd}{ob aF cw i3:List Ob}{G' H' G1 G2 H2:Hp}
def fZ.refl(s:aA G H):fZ W ob G H ob G H:={.refl _,.refl _,.refl _,s,λZ Z Z h=>h,id}
def fZ.trans(a:fZ W ob G H cw G1 H1)(b:fZ W cw G1 H1 i3 G2 H2):fZ W ob G H i3 G2 H2:=
 {a.ids.trans b.ids,a.g.trans b.g,a.h.trans b.h,b.sub,λx c d e=>b.own x (a.h.has c) (a.h.jj c d) (a.own x c d e),λt=>b.tab (a.tab t)}
def aE.lU(g:aE (W.at ob) G H G' H'):fZ W ob G H ob G' H':={.refl _,g.g,g.h.Wx,g.sub,g.own,g.tab}
def fZ.rep{p:PV}(g:fZ W ob G H aF G' H')(h:Rep (W.at ob) G p v):Rep (W.at aF) G' p v:=Rep.same g.g p (Rep.at g.ids p h)
def fZ.Sh{p:List PV}{v:List V}(g:fZ W ob G H aF G' H')(h:ah (W.at ob) G p v):ah (W.at aF) G' p v:=ah.same g.g p (ah.at g.ids p h)
theorem Nl(h:env.any Slot.cg=fx)(i:Nat)(p:PV):env[i]?≠eW (.own p):=λe=>by have:env.any Slot.cg=e6:=d4.mpr {_,a6 e,rfl};rw [this] at h;cases h
theorem SR.lU(r:SR (W.at ob) H0 env σ G H)(no:env.any Slot.cg=fx)(g:fZ W ob G H aF G' H'):SR (W.at aF) H' env σ G' H' where
 len:=r.len
 sub:=g.sub
 base:=.refl _
 slot:=λi s e=>by
  let(o,a,b):=r.slot i s e
  refine{o,a,?_};cases s with
  |no=>exact trivial|val p=>let(v,e,q):=b;exact{v,e,g.rep q}|own p=>exact absurd e (Nl no i p)
 apart:=r.apart
 tab:=g.tab r.tab
 jf:=g.tab r.tab
structure Ent(ob:List Ob)(G H:Hp)(aF:List Ob)(G' H0:Hp):Prop where
 ids:zZ ob aF
 g:aA G G'
 h:wm H H0
 own:∀a,H a≠eX->(∀vs,H a≠eW (.tup vs))->G a=eX->G' a=eX
variable{obe:List Ob}{Ge He:Hp}
def Ent.refl:Ent ob G H ob G H:={.refl _,.refl _,.refl _,λZ Z Z h=>h}
def Ent.lU(n:Ent obe Ge He ob G H0)(r:SR (W.at ob) H0 env σ G H):fZ W obe Ge He ob G H:={n.ids,n.g,n.h.trans r.base.Wx,r.sub,n.own,λZ=>r.tab}
def Ent.on(n:Ent obe Ge He ob G H0)(r:SR (W.at ob) H0 env σ G H)(g:fZ W ob G H aF G' H'):Ent obe Ge He aF G' H':=by have k:=(n.lU r).trans g;exact⟨k.ids,k.g,k.h,k.own⟩
def Ent.step(n:Ent obe Ge He ob G H0)(g:aE (W.at ob) G H0 G' H'):Ent obe Ge He ob G' H0:={n.ids,n.g.trans g.g,n.h,λa b c d=>g.own a (n.h.has b) (n.h.jj b c) (n.own a b c d)}
def Ent.fin(n:Ent obe Ge He ob G H0)(t:bu (W.at ob) G H0)(g:aE (W.at ob) G H0 G' H'):fZ W obe Ge He ob G' H':={n.ids,n.g.trans g.g,n.h.trans g.h.Wx,g.sub,λa b c d=>g.own a (n.h.has b) (n.h.jj b c) (n.own a b c d),λZ=>g.tab t}
end
structure lX(K:zz8)(mg:Str->Option fP)(ob:List Ob):Prop where
 inj:∀(n m:Nat) (o o':Ob),ob[n]?=eW o->ob[m]?=eW o'->o.a=o'.a->n=m
 cls:∀(n:Nat) (o:Ob),ob[n]?=eW o->bA o.c=fx->mg o.c=eW (.ref o.C)/\vX K o.C/\∀f p,o.fs.lookup f=eW p->cN K o.C f
def C4{g:Str}(h:cQ f=cQ g):f=g:=by unfold cQ at h;have e:∀x:Str,(("@":Str)++x).cps=("@":Str).cps++x.cps:=λZ=>rfl;have a:=congrArg Str.cps h;rw [e,e] at a;have b:=Array.append_inj_right a rfl;cases f;cases g;exact congrArg Str.mk b
def xU(f:Str):fi (cQ f)=e6:=by unfold fi cQ;have e:(("@":Str)++f).cps=("@":Str).cps++f.cps:=rfl;rw [e,Array.toList_append,List.contains_eq_mem];exact zzh (d0 _ ↑2)
theorem mw{q:Str×PV}:∀{fs:List (Str×PV)},(fs.find? λq=>cQ q.1==cQ f)=eW q->fs.lookup f=eW q.2
 |[],h=>by cases h
 | (g,p)::fs,h=>by
  rw [List.find?_cons] at h;rw [ez];cases e:cQ g==cQ f with
  |true=>rw [e] at h;cases h;rw [C4 (zzy.mp e),beq_self_eq_true]
  |false=>
   rw [e] at h;have n:(f==g)=fx:=by
    cases z:f==g with
    |false=>rfl|true=>rw [zzy.mp z,beq_self_eq_true] at e;cases e
   rw [n];exact mw h
def rP{ob:List Ob}{g:Str}(h:aU (aC ob) g [q]≠.bad):∃n o,q=.obj n/\ob[n]?=eW o/\aU (aC ob) g [q]=(if bA o.c then(if g==dJ then .ok (Ax o) else .bad) else if g==dJ then .bad else C5 ⟨o.c,o.fs⟩ g):=by
 cases q with
 |obj n=>
  cases e:ob[n]? with
  |none=>
   refine absurd ?_ h;show(match(aC ob)[n]? with|some o=>_|none=>Res.bad)=_;unfold aC;rw [cz,e];rfl
  |some o=>
   refine{n,o,rfl,e,?_};show(match(aC ob)[n]? with|some o=>(if bA o.c then(if g==dJ then Res.ok (Qt o) else .bad) else if g==dJ then .bad else C5 o g)|none=>Res.bad)=_;unfold aC;rw [cz,e];rfl
 |_=>exact absurd rfl h
set_option tactic.hygienic true in
theorem rQ{K:zz8}{W:Wd}{ob:List Ob}(u:lX K mg ob):B4 K (W.at ob) (aU (aC ob)) where
 any:=λg as h=>by
  cases as with
  |nil=>exact absurd rfl h|cons q r=>
   cases r with
   |cons _ _=>refine absurd ?_ h;cases q<;>rfl
   |nil=>
    let(n,o,rfl,e,a):=rP h;rw [a] at h;split at h
    .split at h
     .rename_i z;rw [zzy.mp z];rfl
     .exact absurd rfl h
    .split at h
     .exact absurd rfl h
     .unfold C5 at h;split at h
      .rename_i d e3;have:=List.find?_some e3;rw [<-zzy.mp this];exact xU _
      .exact absurd rfl h
 fld:=λf q j h=>by
  let(n,o,rfl,e,a):=rP h
  have k:(cQ f==dJ)=fx:=by
   cases z:cQ f==dJ with
   |false=>rfl|true=>exact absurd (zzy.mp z) j
  rw [k] at a;cases b:bA o.c with
  |true=>rw [b,if_pos rfl] at a;exact absurd a h|false=>
   rw [b,if_neg zzf,if_neg zzf] at a;have e3:C5 ⟨o.c,o.fs⟩ (cQ f)=(match o.fs.find? (λ(q:Str×PV)=>cQ q.1==cQ f) with|some q=>.ok q.2|none=>.bad):=rfl
   cases i:o.fs.find? (λ(q:Str×PV)=>cQ q.1==cQ f) with
   |none=>rw [e3,i] at a;exact absurd a h|some d=>have hl:o.fs.lookup f=eW d.2:=mw i;rw [e3,i] at a;let(_,m,p):=u.cls n o e b;exact{n,o,d.2,rfl,e,b,hl,a,m,p f _ hl}
 con:=λq h=>by
  let(n,o,rfl,e,a):=rP h
  cases b:bA o.c with
  |true=>rw [b,if_pos rfl] at a;exact⟨n,o,rfl,e,b,a⟩|false=>rw [b,if_neg zzf] at a;exact absurd a h
end Ci
namespace L2
open PySem.Spec PyProof.Rows
def En{w:hG}{env:Env}{o:hB}{name:Str}{a:Pos}{args:List hB}{Q:kd}{E:kd}{s:gC}
 (j:attributeBase o name env (eval o env)=eval o env)
 (k:((backTo pos (starEach args env)).all (λx=>!x.1)&&(backToKw pos (keywordEach [] env)).all (λx=>x.1.isSome)
  &&decide (args.length+([]:List Keyword).length+(if([]:List Keyword).isEmpty then 0 else 1)<30))=e6)
 (m:(a.endLine==pos.line)=e6)
 (h:hD (hI prog w) A (eval o env) (λi b=>hD (hI prog w) A (getMethod i name (do return (<-importBound o env).getD e6)) (λg c=>hD (hI prog w) A (callWith pos g.1 g.2 (backTo pos (starEach args env)) (backToKw pos (keywordEach [] env))) Q E c) E b) E s):
 hD (hI prog w) A (eval (.Call (.Attribute o name a) args [] pos) env) Q E s:=by
 rw [arm_eval_Call,j];refine ar (wpAny_mono h (λi b d=>?_) λZ Z e=>e);refine ar (wpAny_standAt ?_);have p:methodCallForm (args.length+([]:List Keyword).length) (backTo pos (starEach args env)) (backToKw pos (keywordEach [] env))=e6:=k;have q:methodCallPos e6 o env a pos=pure pos:=by unfold methodCallPos;simp [m]
 unfold methodCall;rw [p,q];refine ar (wpAny_holding (wpAny_mono d (λg c f=>?_) λZ Z e=>e));exact ar (bc f)
end L2
namespace Ci
open L2
abbrev Gm(W:Wd)(c:Str)(s:Sg)(ob:List Ob)(G H:Hp):XK:=λd e f=>∃C a b g,d=.ref C/\e=eW a/\c∈W.xs/\W.mg c=eW (.ref C)/\fZ W ob G H b g f/\lX W.K W.mg b/\aC b=s
abbrev Pz(W:Wd)(F2:gB)(f:Str)(n:Nat):Sp:=λd H Q E=>d.length=n/\∃ob G as,aA G H/\bu (W.at ob) G H/\lX W.K W.mg ob/\ah (W.at ob) G as d/\(match F2 f as (aC ob) with
 |.ok p s=>∀v b e a,fZ W ob G H b e a->lX W.K W.mg b->aC b=s->Rep (W.at b) e p v->Q v a|.exc c s=>∀g h a,Gm W c s ob G H g h a->E g h a|.bad=>False)
structure kn where
 cs:List Str
 ms:List (Str×Str)
 ns:List Str
 fl:List (Str×Str)
 td:List Str:=[]
noncomputable abbrev kn.Rj(a:kn):kn:={a with cs:=[],td:=[]}
structure km(P:hF)(w:hG)(K:zz8)(mg:Str->Option fP)(base:hZ)(W:Wd)(F2:gB)(k:Nat)(f:Str)(fa:g5):Prop where
 ex:∃fd ps,fu P w K mg base (dC P w) k fa fd ps (Pz W F2 f ps.length)/\Binds K fd ps []/\∀as s,F2 f as s≠.bad->as.length=ps.length
structure T1(P:hF)(w:hG)(K:zz8)(mg:Str->Option fP)(base:hZ)(W:Wd)(F1:Sg->aN)(Γ:Pg)(k:Nat):Prop where
 M:∀ob,mP K mg Γ (W.at ob)
 F:∀ob,lX W.K W.mg ob->∀f,Γ.fs.contains f=e6->jo P w K mg base (W.at ob) (F1 (aC ob)) k f
 H:∀ob,lX W.K W.mg ob->∀q∈Γ.hs,JU P w K mg base (W.at ob) (F1 (aC ob)) k q
 Q:∀ob,lX W.K W.mg ob->∀f,Γ.qs.contains f=e6->jo P w K mg base (W.at ob) (F1 (aC ob)) 2 f
 A:∀ob,lX W.K W.mg ob->∀g as,F1 (aC ob) g as≠.bad->Γ.fs.contains g=e6\/fi g=e6
 D:∀ob,lX W.K W.mg ob->GK K (W.at ob) (F1 (aC ob))
 qt:Γ.qt=fx
 hl:Γ.hl=fx
 k2:2<=k
structure JV(P:hF)(w:hG)(K:zz8)(mg:Str->Option fP)(base:hZ)(W:Wd)(F2:gB)(Δ:kn)(k:Nat):Prop where
 met:∀c m,Δ.ms.contains (c,m)=e6->∃C fa,mg c=eW (.ref C)/\Meth K C m fa/\km P w K mg base W F2 k (mD c m) fa
 new:∀c,Δ.ns.contains c=e6->∃C fa j,mg c=eW (.ref C)/\vX K C/\Mk K C fa/\j+1<=k/\km P w K mg base W F2 j (mD c (zu 11)) fa
 fl:∀c f,Δ.fl.contains (c,f)=e6->∀C,mg c=eW (.ref C)->cN K C f
def GG(P:hF)(w:hG)(K:zz8)(mg:Str->Option fP)(base:hZ)(k:Nat)(f:g5)(H:Hp)(R:VK)(g:XK):Prop:=
 ∀(X:Cx) (a:kr) (b:St) (s:gC) (Q:VK),X.prog=P->X.w=w->X.K=K->X.mg=mg->X.base=base->dt k X.A->Inv X a b H s->(∀v c,R v c->Q v c)->(∀e d,dC X.prog X.w X.stack H s g e d->X.xe e d)->zx7 X (call (.ref f) []) (EP X a b Q) X.xe s
abbrev spT(P:hF)(w:hG)(K:zz8)(mg:Str->Option fP)(base:hZ)(k:Nat)(W:Wd)(F1:Sg->aN):Sp:=λc H Q Z=>c.length=1/\∃f e,c=[.ref f]/\(∀h,ft P w H h->PySem.W.FnAt f h)/\GG P w K mg base k f H Q e/\
 ∀g i b,e g i b->∃d C a ob G,g=.ref C/\i=eW a/\d∈W.xs/\W.mg d=eW (.ref C)/\aA G b/\bu (W.at ob) G b/\lX W.K W.mg ob/\(match F1 (aC ob) (zu 9) [.exc d] with
  |.ok p=>∀v j m,aE (W.at ob) G b j m->Rep (W.at ob) j p v->Q v m|_=>False)
def Ue(P:hF)(w:hG)(K:zz8)(mg:Str->Option fP)(base:hZ)(W:Wd)(F1:Sg->aN)(F2:gB)(Γ:Pg)(b:kn)(k:Nat)(f:Str):Prop:=
 ∃a j fd x,mg f=eW (.ref a)/\PySem.W.keepIn K (.ref a)=e6/\j+3<=k/\fu P w K mg base (dC P w) (j+3) a fd [x] (spT P w K mg base (j+2) W F1)/\Binds K fd [x] []/\T1 P w K mg base W F1 Γ j/\JV P w K mg base W F2 b j
structure eG(W:Wd)(obe:List Ob)(Ge He:Hp)(env:Sl)(σ:St)(s:Sg)(ob:List Ob)(H0 G H:Hp):Prop where
 sr:SR (W.at ob) H0 env σ G H
 u:lX W.K W.mg ob
 n:Ent obe Ge He ob G H0
 s:aC ob=s
 no:env.any Slot.cg=fx
structure PJ(X:Cx)(W:Wd)(F2:gB)(k:Nat)(f:Str)(fa:g5):Prop where
 ex:∃fd ps,fu X.prog X.w X.K X.mg X.base (dC X.prog X.w) k fa fd ps (Pz W F2 f ps.length)/\Binds X.K fd ps []/\∀as s,F2 f as s≠.bad->as.length=ps.length
structure ib(Γ:Pg)(Δ:kn)(F1:Sg->aN)(F2:gB)(W:Wd)(N:List Str)(sc:hX)(k:Nat)(E:XK)(X:Cx):Prop where
 C:∀ob,lX W.K W.mg ob->fq Γ (F1 (aC ob)) (W.at ob) N sc k X
 pass:Passes (dC X.prog X.w) X E
 qt:Γ.qt=fx
 K:W.K=X.K
 mg:W.mg=X.mg
 vZ:∀f,Δ.cs.contains f=e6->∃fa,X.mg f=eW (.ref fa)/\PySem.W.keepIn X.K (.ref fa)=e6/\PJ X W F2 k f fa
 met:∀c m,Δ.ms.contains (c,m)=e6->∃C fa,X.mg c=eW (.ref C)/\Meth X.K C m fa/\PJ X W F2 k (mD c m) fa
 new:∀c,Δ.ns.contains c=e6->∃C fa j,X.mg c=eW (.ref C)/\vX X.K C/\Mk X.K C fa/\j+1<=k/\PJ X W F2 j (mD c (zu 11)) fa
 fl:∀c f,Δ.fl.contains (c,f)=e6->∀C,X.mg c=eW (.ref C)->cN X.K C f
 td:∀f,Δ.td.contains f=e6->Γ.hl=e6->Ue X.prog X.w X.K X.mg X.base W F1 F2 Γ.zi Δ.Rj k f
section
variable{Γ:Pg}{Δ:kn}{W:Wd}{F1:Sg->aN}{F2:gB}{sc:hX}{k:Nat}{E:XK}{obe ob aF:List Ob}{Ge He G' H':Hp}{s:Sg}
def eG.grow(t:zv5 H)(g:aE (W.at ob) G H G' H'):eG W obe Ge He env σ s ob H0 G' H':={t.sr.grow g,t.u,t.n.step (t.sr.on g),t.s,t.no}
def eG.on{s':Sg}(t:zv5 H)(g:fZ W ob G H aF G' H')(u:lX W.K W.mg aF)(e:aC aF=s'):eG W obe Ge He env σ s' aF H' G' H':={t.sr.lU t.no g,u,t.n.on t.sr g,e,t.no}
def bq{b:Type}(W:Wd)(obe:List Ob)(Ge He:Hp)(E:XK)(r:Rs b)(k:b->Sg->Prop):Prop:=match r with
 |.ok a s=>k a s|.exc c s=>∀d e H',Gm W c s obe Ge He d e H'->E d e H'|.bad=>False
def bq.bind{b d:Type}{r:Rs b}{f:b->Sg->Rs d}{k:d->Sg->Prop}(h:bq W obe Ge He E (r.bind f) k):bq W obe Ge He E r λa s=>bq W obe Ge He E (f a s) k:=by
 cases r with
 |ok a s=>exact h|exc c s=>exact h|bad=>exact h
def bq.imp{b:Type}{r:Rs b}{k d:b->Sg->Prop}(h:bq W obe Ge He E r k)(i:∀a s,k a s->d a s):bq W obe Ge He E r d:=by
 cases r with
 |ok a s=>exact i a s h|exc c s=>exact h|bad=>exact h
theorem Se(f:Passes (dC X.prog X.w) X E)(t:zv5 H)(h:∀b d H',Gm W c s obe Ge He b d H'->E b d H'):ud X (W.at ob) σ c G H:=λg z i j e m I g1 x=>f g σ i j e m I (GN.imp x λb a H' y=>h b a H' (by let(C,o,G2,p,q,e3,r,g2):=y;exact{C,o,ob,G2,p,q,e3,r,t.n.fin t.sr.jf (t.sr.on (g1.trans g2)),t.u,t.s}))
def cR{b:Type}(e:Passes (dC X.prog X.w) X E)(t:zv5 H){r:Res b}{d:b->Sg->Prop}(h:bq W obe Ge He E (Rs.of r s) d):Out X (W.at ob) r σ G H λa=>d a s:=by
 cases r with
 |ok a=>exact h|exc c=>exact Se e t h|bad=>exact h
abbrev t2(W:Wd)(F1:Sg->aN)(F2:gB)(obe:List Ob)(Ge He:Hp)(E:XK)(x:X2):TE:=λσ H Q=>∃ob H0 G env s,eG W obe Ge He env σ s ob H0 G H/\
 bq W obe Ge He E (bF F1 F2 x env s) λp a=>∀v aF b G' H',eG W obe Ge He env σ a aF b G' H'->fZ W ob G H aF G' H'->Rep (W.at aF) G' p v->Q v H'
abbrev t2s(W:Wd)(F1:Sg->aN)(F2:gB)(obe:List Ob)(Ge He:Hp)(E:XK)(x:vY):TA:=λσ H Q=>∃ob H0 G env s,eG W obe Ge He env σ s ob H0 G H/\
 bq W obe Ge He E (eJ F1 F2 x env s) λb c=>∀a aF d G' H',eG W obe Ge He env σ c aF d G' H'->fZ W ob G H aF G' H'->ah (W.at aF) G' b a->Q a H'
noncomputable abbrev G2(X:Cx)(W:Wd)(F1:Sg->aN)(F2:gB)(obe:List Ob)(Ge He:Hp)(E:XK)(x:X2)(p:hB):Prop:=PE X p (t2 W F1 F2 obe Ge He E x)
noncomputable abbrev KR(X:Cx)(W:Wd)(F1:Sg->aN)(F2:gB)(obe:List Ob)(Ge He:Hp)(E:XK)(x:vY)(p:List hB):Prop:=PA X p (t2s W F1 F2 obe Ge He E x)
def kQ(S:zv2 X){e:Ci.E}(a:eR e=e6)(h:aI Γ N sc e p=e6):G2 X W F1 F2 obe Ge He E (.pu e) p:=by intro b s σ H Q I c;let(ob,H0,G,env,j,st,o):=c;have d:=st.s;subst d;have f:=S.C ob st.u;refine(bp e f p h).ge b s σ H Q I {H0,G,env,st.sr,?_};unfold bF at o;exact(cR S.pass st o).imp λp i v G' H' g t=>i v ob H0 G' H' (st.grow g) g.lU (t.rep a)
def qy(S:zv2 X)(K:dt j X.A){m:g5}(cl:PJ X W F2 j f m){h:gC}{as:List PV}
 (I:Inv X aa σ H h) (st:zv5 H) (l:ah (W.at ob) G as vs) (r:Vals vs us)
 (o:bq W obe Ge He E (F2 f as s) λp s'=>∀v aF L G' H',eG W obe Ge He env σ s' aF L G' H'->fZ W ob G H aF G' H'->Rep (W.at aF) G' p v->Q v H'):zx7 X (call (.ref m) us) (EP X aa σ Q) X.xe h:=by
 let(fd,pn,M,O,b):=cl.ex;have P:=st.s;subst P;have i:F2 f as (aC ob)≠.bad:=λz=>by rw [z] at o;exact o
 refine zF (E:=λD F H'=>∃c s',F2 f as (aC ob)=.exc c s'/\Gm W c s' ob G H D F H') M K O (λe s' x=>?_) I r {by rw [l.length];exact b as _ i,ob,G,as,st.sr.sub,st.sr.tab,st.u,l,?_}
 .cases z:F2 f as (aC ob) with
  |ok q s1=>let(a,C',t,vs,H',B,rfl,Fl):=x;let(c,_,d,_):=Fl.ends;rw [z] at d;cases d
  |exc c s1=>rw [z] at o;refine S.pass aa σ H h e s' I (GN.imp x λR a H' y=>o R a H' ?_);let(c',s2,d,C,T,U,G2,Y,Z,h3,h4,g,u,e2):=y;rw [z] at d;cases d;exact{C,T,U,G2,Y,Z,h3,h4,(st.n.lU st.sr).trans g,u,e2}
  |bad=>exact absurd z i
 .cases z:F2 f as (aC ob) with
  |ok q s1=>rw [z] at o;exact λv aF G' H' g u e rp=>o v aF _ G' H' (st.on g u e) g rp|exc c s1=>exact λD F H' x=>⟨c,s1,rfl,x⟩|bad=>exact absurd z i
def LS(S:zv2 X){a:Es}{ps:List hB}(B:Δ.cs.contains f=e6)(D:gj sc f=e6)(F:okN f=e6)(K:g8 a=e6)(c:dw Γ N sc a (p::ps)=e6):G2 X W F1 F2 obe Ge He E (.vZ f a) (.Call (.Name f np) (p::ps) [] pos):=by
 intro L M σ H Q I h;let(ob,H0,G,env,s,st,o):=h;have O:=st.s;subst O;have d:=S.C ob st.u;unfold bF at o;let(T,hm,hk,cl):=S.vZ f B
 refine wpAny_Call_Name_kw (dX I (dm d D) hm ?_ (eE F).1);cases a with
 |nil=>exact aO c|cons e a=>
 have y:=aj c;refine PySem.W.callWith_K (h₀:=X.base) I.ok.mod.Ii hk (bL (gZ (.cons e a) d _ c pos L M σ H (λi j=>∃b as,aE (W.at ob) G H b j/\ah (W.at ob) b as i/\bq W obe Ge He E (F2 f as (aC ob)) λp z=>∀v aF m G' H',eG W obe Ge He env σ z aF m G' H'->fZ W ob G H aF G' H'->Rep (W.at aF) G' p v->Q v H') I ?_) λU V ⟨i,j,A,r,q⟩=>{A.j2,?_}) (notStar y.1 _ _) (cI y.2 _ _)
 .exact{H0,G,env,st.sr,(cR S.pass st o.bind).imp λas w i b j g t=>{b,as,g,t.rep K,w}}
 .let(b,as,g,l,o1):=q;exact qy S d.rm cl A (st.grow g) l r (o1.imp λp z w v aF m G' H' t P R=>w v aF m G' H' t (g.lU.trans P) R)
theorem pF{w:V}:∀{fs:List (Str×PV)} {vs:List V},((fs.map (·.1)).zip vs).lookup m=eW w->∃p,fs.lookup m=eW p
 |[],_,h=>by cases h
 |(g,p)::fs,[],h=>by cases h
 |(g,p)::fs,v::vs,h=>by
  have h:List.lookup m ((g,v)::((fs.map (·.1)).zip vs))=eW w:=h
  rw [ez] at h⊢;cases e:m==g with
  |true=>exact⟨p,rfl⟩|false=>rw [e] at h;exact pF h
def LW(S:zv2 X){e:Ci.E}{f:Es}{ps:List hB}{i:Pos}(hf:Δ.ms.contains (c,m)=e6)(cU:eR e=e6)(he:aI Γ N sc e po=e6)(ML:dZ po=e6)(dz:(i.endLine==pos.line)=e6)(AS:g8 f=e6)(D:dw Γ N sc f ps=e6)(hl:fB f<30):
 G2 X W F1 F2 obe Ge He E (.met e c m f) (.Call (.Attribute po m i) ps [] pos):=by
 intro O sh σ H Q I h;let(ob,H0,G,env,s,st,o):=h;have e0:=st.s;subst e0;have SC:=S.C ob st.u;unfold bF at o;let(C,fa,hm,P,cl):=S.met c m hf;have Tc:((backTo pos (starEach ps X.env)).all (λx=>!x.1)&&(backToKw pos (keywordEach [] X.env)).all (λx=>x.1.isSome)&&decide (ps.length+([]:List Keyword).length+(if([]:List Keyword).isEmpty then 0 else 1)<30))=e6:=by rw [wU D];refine Bool.and_eq_true_iff.mpr {rfl,zzh ?_};rw [xi D];exact hl
 refine En (eZ ML) Tc dz (bL ((bp e SC po he).ge O sh σ H (λv F=>∃n j,aE (W.at ob) G H j F/\Rep (W.at ob) j (.obj n) v/\kH (aC ob) n c=e6/\bq W obe Ge He E ((Rs.of (bJ (F1 (aC ob)) f env) (aC ob)).bind λps s=>F2 (mD c m) (.obj n::ps) s) λp L=>∀v aF y G' H',eG W obe Ge He env σ L aF y G' H'->fZ W ob G H aF G' H'->Rep (W.at aF) G' p v->Q v H') I ?_) λu s1 ⟨v,F,R,rv,q⟩=>?_)
 .refine{H0,G,env,st.sr,(cR S.pass st o.bind).imp λp d v j F g t=>?_}
  cases p with
  |obj n=>
   cases hc:kH (aC ob) n c with
   |true=>dsimp only at d;rw [hc,if_pos rfl] at d;exact{n,j,g,t.rep cU,hc,d}|false=>dsimp only at d;rw [hc,if_neg nofun] at d;exact d.elim
  |_=>exact d.elim
 .let(n,j,g,T,qL,o1):=q;have pK:=st.grow g;simp! [Rep] at T;let(b,U,rfl):=T;obtain rfl:u=fP.ref b.a:=rv;let(_,M,hH,l0):=pK.sr.tab.o n b U;have hs:(aC ob)[n]?=eW ⟨b.c,b.fs⟩:=by unfold aC;rw [cz,U];rfl
  have mV:b.c=c/\bA c=fx:=by unfold kH at qL;rw [hs] at qL;have z:=aj qL;exact{zzy.mp z.1,zx6 z.2}
  have iU:=mV.1;let(h1,h2,h3):=st.u.cls n b U (by rw [iU];exact mV.2);rw [ny (by rw [iU];exact mV.2)] at hH;have hC:b.C=C:=by rw [iU,S.mg,hm] at h1;cases h1;rfl
  rw [S.K] at h2 h3;have MM:((b.fs.map (·.1)).zip M).lookup m=eX:=by
   cases z:((b.fs.map (·.1)).zip M).lookup m with
   |none=>rfl|some w=>let(p',Kh):=pF z;have:=h3 m p' Kh;rw [cN,hC,P.at_] at this;cases this
  refine wY R hH h2 (by rw [hC];exact P) MM ?_;have run:∀{B:Hp} {Y:gC} {us:List fP} {vs:List V} {as:List PV} {G2:Hp},Inv X O σ B Y->aE (W.at ob) j F G2 B->ah (W.at ob) G2 as vs->Vals vs us->(bq W obe Ge He E (F2 (mD c m) (.obj n::as) (aC ob)) λp L=>∀v aF y G' H',eG W obe Ge He env σ L aF y G' H'->fZ W ob G H aF G' H'->Rep (W.at aF) G' p v->Q v H')->zx7 X (call (.ref fa) (fP.ref b.a::us)) (EP X O σ Q) X.xe Y:=λ{B Y us vs as G2} Z g2 l r o2=>by refine qy (vs:=V.ref b.a::vs) (as:=.obj n::as) S SC.rm cl Z (pK.grow g2) (.cons ?_ l) (.cons rfl r) (o2.imp λp L d v aF y G' H' t g' T=>d v aF y G' H' t ((g.trans g2).lU.trans g') T);simp! [Rep];exact⟨b,U,rfl⟩
  cases f with
  |nil=>
   cases ps with
   |cons _ _=>exact aO D|nil=>refine PySem.W.callWith_K0 (first:=[.ref b.a]) R.j2 P.kp ?_;exact run (us:=[]) (vs:=[]) (as:=[]) R (.refl pK.sr.sub) .nil .nil o1
  |cons e1 f=>
   cases ps with
   |nil=>exact aO D|cons p ps=>
    have h7:=aj D;refine PySem.W.callWith_K (first:=[.ref b.a]) (h₀:=X.base) I.ok.mod.Ii P.kp (bL (gZ (.cons e1 f) SC _ D pos O s1 σ F (λvs B=>∃G2 as,aE (W.at ob) j F G2 B/\ah (W.at ob) G2 as vs/\bq W obe Ge He E (F2 (mD c m) (.obj n::as) (aC ob)) λp L=>∀v aF y G' H',eG W obe Ge He env σ L aF y G' H'->fZ W ob G H aF G' H'->Rep (W.at aF) G' p v->Q v H') R ?_) λus Y ⟨vs,B,Z,r,q⟩=>{Z.j2,?_}) (notStar h7.1 _ _) (cI h7.2 _ _)
    .exact{H0,j,env,pK.sr,(cR S.pass pK o1.bind).imp λas d vs G2 B g t=>{G2,as,g,t.rep AS,d}}
    .let(G2,as,g2,l,o2):=q;exact run Z g2 l r o2
def xQ:(aC ob).length=ob.length:=by unfold aC;rw [zzl]
def kT{o o1:Ob}{n:Nat}(h:(ob++[o1])[n]?=eW o):ob[n]?=eW o\/n=ob.length/\o=o1:=by
 by_cases z:n<ob.length
 .rw [eg z] at h;exact .inl h
 .rw [ei (by lia)] at h;cases e:n-ob.length with
  |zero=>rw [e] at h;cases h;exact .inr {by lia,rfl}
  |succ m=>rw [e] at h;cases h
def Ex{x:g5}{o1:Ob}(c:aA G H)(f:H x=eX)(d:o1.a=x)(l:ah (W.at ob) G (o1.fs.map (·.2)) vs)(hs:aA H H1)(b:H1 x=eW (mG o1 vs)):fZ W ob G H (ob++[o1]) G H1:=by
 have i:zZ ob (ob++[o1]):=λn o e=>{o,by rw [eg (bD.mp e).1];exact e,rfl,rfl,rfl,rfl};refine{i,.refl _,.of hs,c.trans hs,λZ Z Z h=>h,λt=>{t.t.same (.refl _) (λZ Z Z h=>h) λP j e=>hs P _ e,λn o e=>?_}}
 rcases kT e with z|⟨_,rfl⟩
 .let(b,vs,g,l):=t.o n o z;exact{b,vs,hs _ _ g,ah.at i _ l}
 .exact{by rw [d];exact c.free f,vs,by rw [d];exact b,ah.at i _ l}
theorem Kn{o1:Ob}(u:lX W.K W.mg ob)(t:bu (W.at ob) G H)(w:H o1.a=eX)(hm:bA o1.c=fx->W.mg o1.c=eW (.ref o1.C)/\vX W.K o1.C/\o1.fs=[]):lX W.K W.mg (ob++[o1]) where
 inj:=λn m o j y q e3=>by
  have no:∀(i:Nat) (p:Ob),ob[i]?=eW p->p.a≠o1.a:=λi p e z=>by let(_,D,d,_):=t.o i p e;rw [z,w] at d;cases d
  rcases kT y with g|⟨g,rfl⟩
  .rcases kT q with b|⟨b,rfl⟩
   .exact u.inj n m o j g b e3
   .exact absurd e3 (no n o g)
  .rcases kT q with b|⟨b,rfl⟩
   .exact absurd e3.symm (no m j b)
   .lia
 cls:=λn o e r=>by
  rcases kT e with z|⟨_,rfl⟩
  .exact u.cls n o z r
  .let(A,d,B):=hm r;exact{A,d,λf p h=>by rw [B] at h;cases h}
def qQ(S:zv2 X){C t:g5}(L:dt (j+1) X.A)(M:Mk X.K C t)(hm:X.mg c=eW (.ref C))(O:vX X.K C)(cl:PJ X W F2 j (mD c (zu 11)) t){B:gC}{vs:List V}{as:List PV}
 (I:Inv X aa σ H B) (st:zv5 H) (l:ah (W.at ob) G as vs) (r:Vals vs us)
 (o:bq W obe Ge He E (Ew F2 c as s) λp s'=>∀v aF P G' H',eG W obe Ge He env σ s' aF P G' H'->fZ W ob G H aF G' H'->Rep (W.at aF) G' p v->Q v H'):zx7 X (call (.ref C) us) (EP X aa σ Q) X.xe B:=by
 let(fd,pn,R,T,a):=cl.ex;have U:=st.s;subst U;refine Fo (dvs:=[]) M R L T .nil S.pass I r λx dx d hd gq=>?_
 unfold Ew at o;cases f:bA c with
 |true=>rw [f,if_pos rfl] at o;exact o.elim|false=>
 rw [f,if_neg zzf] at o;have g1:=Ex (W:=W) (ob:=ob) (o1:={x,dx,C,c,[]}) (vs:=[]) (H1:=upd (upd H dx (.own x)) x (.ins C dx [])) st.sr.sub d rfl .nil (λb o e=>by rw [ai (λz=>by rw [z,d] at e;cases e),ai (λz=>by rw [z,hd] at e;cases e)];exact e) (by rw [ny f];exact aq);have Y:=Kn (o1:={x,dx,C,c,[]}) st.u st.sr.tab d λ_=>{by rw [S.mg];exact hm,by rw [S.K];exact O,rfl};have Z:aC (ob++[{x,dx,C,c,[]}])=aC ob++[{c,[]}]:=by unfold aC;rw [List.map_append];rfl
 have h:F2 (mD c (zu 11)) (.obj (aC ob).length::as) (aC ob++[{c,[]}])≠.bad:=λz=>by rw [z] at o;exact o
 have D:(ob++[{x,dx,C,c,[]}])[ob.length]?=eW {x,dx,C,c,[]}:=by rw [ei (a7 _),Nat.sub_self];rfl
 rw [eA];refine{?_,ob++[{x,dx,C,c,[]}],G,.obj ob.length::as,g1.sub,g1.tab st.sr.tab,Y,.cons (by simp! [Rep];exact{_,D,rfl}) (g1.Sh l),?_}
 .have:=a _ _ h;rw [bV] at this⊢;rw [l.length];exact this
 .rw [Z];rw [xQ] at o;cases z:F2 (mD c (zu 11)) (.obj ob.length::as) (aC ob++[⟨c,[]⟩]) with
  |ok q s1=>
   rw [z] at o;intro v aF G' H' g u e F;have o:bq W obe Ge He E (if yR q then Rs.ok (PV.obj ob.length) s1 else .bad) _:=o
   cases q with
   |aP=>simp! [Rep] at F;refine{F,o (.ref x) aF _ G' H' (st.on (g1.trans g) u e) (g1.trans g) ?_};let(o',i,m,_):=g.ids _ _ D;simp! [Rep];exact{o',i,by rw [m]}|_=>exact o.elim
  |exc c1 s1=>rw [z] at o;intro Cv ao H' y;let(C2,a',i3,G2,i,m,h3,h4,g,u,e2):=y;exact o Cv ao H' {C2,a',i3,G2,i,m,h3,h4,(st.n.lU st.sr).trans (g1.trans g),u,e2}|bad=>rw [xQ] at h;exact absurd z h
def LX(S:zv2 X){a:Es}{ps:List hB}(K:Δ.ns.contains c=e6)(L:gj sc c=e6)(O:okN c=e6)(P:g8 a=e6)(d:dw Γ N sc a ps=e6):G2 X W F1 F2 obe Ge He E (.new c a) (.Call (.Name c np) ps [] pos):=by
 intro R T σ H Q I h;let(ob,H0,G,env,s,st,o):=h;have U:=st.s;subst U;have f:=S.C ob st.u;unfold bF at o;let(C,fa,j,hm,y,M,V,cl):=S.new c K;have z:dt (j+1) X.A:=f.rm.mono V
 refine wpAny_Call_Name_kw (dX I (dm f L) hm ?_ (eE O).1);cases a with
 |nil=>
  cases ps with
  |cons _ _=>exact aO d|nil=>refine PySem.W.callWith_K0 I.j2 M.kp ?_;have o1:bq W obe Ge He E (Ew F2 c [] (aC ob)) _:=o;exact qQ (us:=[]) (vs:=[]) (as:=[]) S z M hm y cl I st .nil .nil o1
 |cons e a=>
  cases ps with
  |nil=>exact aO d|cons p ps=>
   have B:=aj d;refine PySem.W.callWith_K (h₀:=X.base) I.ok.mod.Ii M.kp (bL (gZ (.cons e a) f _ d pos R T σ H (λvs i=>∃b as,aE (W.at ob) G H b i/\ah (W.at ob) b as vs/\bq W obe Ge He E (Ew F2 c as (aC ob)) λp D=>∀v aF m G' H',eG W obe Ge He env σ D aF m G' H'->fZ W ob G H aF G' H'->Rep (W.at aF) G' p v->Q v H') I ?_) λus s1 ⟨vs,i,F,r,q⟩=>{F.j2,?_}) (notStar B.1 _ _) (cI B.2 _ _)
   .exact{H0,G,env,st.sr,(cR S.pass st o.bind).imp λas w vs b i g t=>{b,as,g,t.rep P,w}}
   .let(b,as,g,l,o1):=q;exact qQ S z M hm y cl F (st.grow g) l r (o1.imp λp D w v aF m G' H' t Y Z=>w v aF m G' H' t (g.lU.trans Y) Z)
abbrev A4:vY->Nat
 |.nil=>0|.cons _ xs=>A4 xs+1
theorem om:∀{xs:vY} {env:Sl} {s s':Sg} {ps:List PV},eJ F1 F2 xs env s=.ok ps s'->ps.length=A4 xs
 |.nil,env,s,s',ps,h=>by unfold eJ at h;cases h;rfl
 |.cons x xs,env,s,s',ps,h=>by
  unfold eJ at h;cases e1:bF F1 F2 x env s with
  |bad=>rw [e1] at h;cases h
  |exc c z=>rw [e1] at h;cases h
  |ok p s1=>
   rw [e1] at h;have h:(eJ F1 F2 xs env s1).bind (λps s=>Rs.ok (p::ps) s)=.ok ps s':=h
   cases a:eJ F1 F2 xs env s1 with
   |bad=>rw [a] at h;cases h
   |exc c z=>rw [a] at h;cases h
   |ok qs s2=>rw [a] at h;cases h;rw [bV,om a];rfl
theorem Ht:KR X W F1 F2 obe Ge He E .nil []:=L2.PA.imp dA λσ H Q h=>by let(ob,H0,G,env,s,st,o):=h;unfold eJ at o;exact o [] ob H0 G H st (.refl st.sr.sub) .nil
def hU{d:Type}{x:X2}{f:PV->Sg->Rs d}{e:d->Sg->Prop}(st:zv5 H)(o:bq W obe Ge He E ((bF F1 F2 x env s).bind f) e)
 (h:∀p v s1 a c b H1,eG W obe Ge He env σ s1 a c b H1->fZ W ob G H a b H1->Rep (W.at a) b p v->bq W obe Ge He E (f p s1) e->Q v H1):t2 W F1 F2 obe Ge He E x σ H Q:=
 {ob,H0,G,env,s,st,o.bind.imp λp s1 i v a c b H1 t g j=>h p v s1 a c b H1 t g j i}
theorem Dh{x:X2}{xs:vY}{ps:List hB}(he:G2 X W F1 F2 obe Ge He E x p)(hs:KR X W F1 F2 obe Ge He E xs ps)(a:starEach (p::ps) X.env=(fx,eval p X.env)::starEach ps X.env):KR X W F1 F2 obe Ge He E (.cons x xs) (p::ps):=
 L2.PA.imp (bQ he hs a) λσ H Q h=>by let(ob,H0,G,env,s,st,o):=h;unfold eJ at o;refine hU st o λp v b c d e t f g1 g o1=>{c,d,e,env,b,f,o1.bind.imp λqs u i j m q G2 r t2 g2 l=>?_};exact i (v::j) m q G2 r t2 (g1.trans g2) (.cons (g2.rep g) l)
theorem LZ{xs:vY}{ps:List hB}{x1:Nat}(hl:A4 xs<1000)(h:KR X W F1 F2 obe Ge He E xs ps):G2 X W F1 F2 obe Ge He E (.tup xs) (.Tuple ps x1 pos):=
 L2.PE.imp (EZ h) λσ H Q j=>by
  let(ob,H0,G,env,s,st,o):=j
  unfold bF at o;refine{ob,H0,G,env,s,st,?_};cases r:eJ F1 F2 xs env s with
  |bad=>rw [r] at o;exact o|exc c s1=>rw [r] at o;exact o|ok qs s1=>
   rw [r] at o;have a:=om r;intro b e m f i t g l;have q:b.length<=sizeLine:=by rw [l.length,a,sizeLine_eq];lia
   refine{q,λp u=>?_};have d:aE (W.at e) f i (upd f p (.tup b)) (upd i p (.tup b)):=.new t.sr.sub u;exact o (.ref p) e m _ _ (t.grow d) (g.trans d.lU) (.t (.inl aq) (ah.same d.g _ l))
abbrev PF(W:Wd)(f:PV->PV->Res PV):R2:=λx y H Q=>∃ob,t7 (W.at ob) f x y H Q
theorem zo(hK:W.K=X.K)(a:X.A.units+64<cLine)(o:tV):gU X (compareOp (mZ o)) (PF W (cG o)):=λb s σ H x y v u Q I c d ⟨ob,h⟩=>gP (W:=W.at ob) hK a o b s σ H x y v u Q I c d h
def bq.val{b:Type}{r:Res b}{d:b->Sg->Prop}(h:bq W obe Ge He E (Rs.of r s) d)(n:∀c,r≠.exc c):∃a,r=.ok a/\d a s:=by
 cases r with
 |ok a=>exact⟨a,rfl,h⟩|exc c=>exact absurd rfl (n c)|bad=>exact h.elim
def SI{o:tV}{a b:X2}(h:t2 W F1 F2 obe Ge He E (.cmp o a b) σ H Q):PB (PF W (cG o)) (t2 W F1 F2 obe Ge He E a) (t2 W F1 F2 obe Ge He E b) σ H Q:=by let(ob,H0,G,env,s,st,d):=h;unfold bF at d;refine hU st d λp v A B C D F i g1 j o1=>hU i o1 λq u I e f G2 K t2 g2 m o2=>?_;let(r,t,y):=o2.val (λc=>cV c);refine{e,f,G2,p,q,r,t2.sr.sub,.inl (g2.rep j),.inl m,t,λw G' H' g z=>?_};exact y w e f G' H' (t2.grow g) ((g1.trans g2).trans g.lU) z
def ib.units(S:zv2 X):X.A.units+64<cLine:=(S.C [] {(λZ Z Z Z h=>nomatch h),(λZ Z h=>nomatch h)}).room.units
def LU(S:zv2 X){o:tV}{a b:X2}{c:hB}(e:G2 X W F1 F2 obe Ge He E a d)(f:G2 X W F1 F2 obe Ge He E b c)(hm:behindInMarks (mZ o) c=fx):G2 X W F1 F2 obe Ge He E (.cmp o a b) (.Compare d [mZ o] [c] pos):=
 (zr (zo S.K S.units o) e f hm).imp λσ H Q h=>SI h
abbrev SG(W:Wd)(F1:Sg->aN)(F2:gB)(obe:List Ob)(Ge He:Hp)(E:XK)(x:T2):TT:=λσ H Q=>∃ob H0 G env s,eG W obe Ge He env σ s ob H0 G H/\
 bq W obe Ge He E (v7 F1 F2 x env s) λb a=>∀aF c G' H',eG W obe Ge He env σ a aF c G' H'->Q b H'
noncomputable abbrev PL(X:Cx)(W:Wd)(F1:Sg->aN)(F2:gB)(obe:List Ob)(Ge He:Hp)(E:XK)(x:T2)(p:hB):Prop:=PT X p (SG W F1 F2 obe Ge He E x)
def Mv(S:zv2 X){e:Ci.E}(c:gk e=e6)(h:aI Γ N sc e p=e6):PL X W F1 F2 obe Ge He E (.pu e) p:=by
 intro d s σ H Q I f;let(ob,H0,G,env,m,st,o):=f;have i:=st.s;subst i;have j:=S.C ob st.u;refine(bp e j p h).gt c d s σ H Q I {H0,G,env,st.sr,?_};unfold v7 at o;refine(cR S.pass st o.bind).imp λp a=>?_
 cases p with
 |bl b=>exact{b,rfl,λG' H' g=>a ob H0 G' H' (st.grow g)}|_=>exact a.elim
def SF{x:X2}{Q:Bool->Hp->Prop}(h:∃ob H0 G env s,eG W obe Ge He env σ s ob H0 G H/\bq W obe Ge He E ((bF F1 F2 x env s).bind S5) λb s'=>∀aF c G' H',eG W obe Ge He env σ s' aF c G' H'->Q b H'):tB (t2 W F1 F2 obe Ge He E x) σ H Q:=by
 let(ob,H0,G,env,s,st,o):=h;refine hU st o λp v j d e f g i g1 a o1=>?_
 cases p with
 |bl b=>simp! [Rep] at a;exact{b,a,o1 d e f g i}|_=>exact o1.elim
theorem HP(S:zv2 X){o:tV}{a b:X2}{c:hB}(f:G2 X W F1 F2 obe Ge He E a d)(g:G2 X W F1 F2 obe Ge He E b c)(hm:behindInMarks (mZ o) c=fx):PL X W F1 F2 obe Ge He E (.cmp o a b) (.Compare d [mZ o] [c] pos):=
 (zx (zo S.K S.units o) f g hm).imp λσ H Q h=>by let(ob,H0,G,env,s,st,e):=h;unfold v7 at e;exact SI (SF ⟨ob,H0,G,env,s,st,e⟩)
noncomputable abbrev FX:XK:=λZ Z Z=>False
def Rs.aJ{d e:Type}{r:Rs d}{f:d->Sg->Rs e}{b:e}{s':Sg}(h:r.bind f=.ok b s'):∃a s1,r=.ok a s1/\f a s1=.ok b s':=by
 cases r with
 |ok a s1=>exact⟨a,s1,rfl,h⟩|exc c s1=>cases h
 |bad=>cases h
def Rs.nH{d:Type}{r:Rs d}{b:d}{s':Sg}(h:r.well=.ok b s'):r=.ok b s':=by
 cases r with
 |ok a s1=>exact h|exc c s1=>cases h
 |bad=>cases h
def Rs.of_ok{d:Type}{r:Res d}{b:d}{s s':Sg}(h:Rs.of r s=.ok b s'):r=.ok b/\s'=s:=by
 cases r with
 |ok a=>cases h;exact⟨rfl,rfl⟩
 |exc c=>cases h
 |bad=>cases h
theorem kI{f:PV->Sg->Rs PV}:∀(l:List PV) (s:Sg) (c:Str) (s':Sg),bG f l s≠.exc c s'
 |[],s,c,s',h=>by cases h
 |x::l,s,c,s',h=>by
  unfold bG at h;cases e:f x s with
  |ok y s1=>
   rw [e] at h;have h:(bG f l s1).bind (λys a=>Rs.ok (y::ys) a)=.exc c s':=h
   cases b:bG f l s1 with
   |ok ys a=>rw [b] at h;cases h
   |exc d a=>exact kI l s1 d a b|bad=>rw [b] at h;cases h
  |exc _ _=>rw [e] at h;cases h
  |bad=>rw [e] at h;cases h
theorem qA{f:PV->Sg->Rs PV}:∀{ps:List PV} {s j s':Sg} {all e:List PV} {i:Nat} {x:PV},bG f ps s=.ok all j->bG f (ps.take i) s=.ok e s'->ps[i]?=eW x->∃y s1,f x s'=.ok y s1/\bG f (ps.take (i+1)) s=.ok (e++[y]) s1
 |[],_,_,_,_,_,_,_,_,_,h=>by simp at h|p::ps,s,j,s',all,e,0,x,b,a,g=>by simp at g;subst g;unfold bG at b;let(y,s1,e1,b):=Rs.aJ b;have e1:=Rs.nH e1;have a:Rs.ok [] s=Rs.ok e s':=a;cases a;refine{y,s1,e1,?_};show(f p s).well.bind _=_;rw [e1];rfl
 |p::ps,s,j,s',all,e,i+1,x,b,a,g=>by unfold bG at b;let(y,s1,e1,b):=Rs.aJ b;have e1:=Rs.nH e1;let(c,d,m,_):=Rs.aJ b;have a:(f p s).well.bind (λy s1=>(bG f (ps.take i) s1).bind λc d=>Rs.ok (y::c) d)=.ok e s':=a;rw [e1] at a;let(o,w,e3,a):=Rs.aJ (show(bG f (ps.take i) s1).bind (λc d=>Rs.ok (y::c) d)=.ok e s' from a);cases a;let(q,r,t,u):=qA m e3 (zx6 g);refine{q,r,t,?_};show(f p s).well.bind (λy s1=>(bG f (ps.take (i+1)) s1).bind λc d=>Rs.ok (y::c) d)=_;rw [e1];show(bG f (ps.take (i+1)) s1).bind (λc d=>Rs.ok (y::c) d)=_;rw [u];rfl
theorem nZ{f:PV->Sg->Rs PV}:∀{ps:List PV} {s s':Sg} {a:List PV},bG f ps s=.ok a s'->a.length=ps.length
 |[],s,s',a,h=>by cases h;rfl
 |p::ps,s,s',a,h=>by unfold bG at h;let(y,s1,e1,h):=Rs.aJ h;let(c,d,b,h):=Rs.aJ h;cases h;rw [bV,bV,nZ b]
def rn(h:∀s∈env,s.cg=fx):env.any Slot.cg=fx:=by rw [List.any_eq_false];exact λs m z=>by rw [h s m] at z;cases z
def Ez(h:env.any Slot.cg=fx)(s:Slot)(m:s∈env):s.cg=fx:=by
 rw [List.any_eq_false] at h;cases z:s.cg with
 |false=>rfl|true=>exact absurd z (h s m)
def iI(h:env.any Slot.cg=fx)(i:Nat)(p:PV):(env.set i (.val p)).any Slot.cg=fx:=rn λs m=>by
 rcases List.mem_or_eq_of_mem_set m with z|rfl
 .exact Ez h s z
 .rfl
def xJ{a:Sl}{b:Tg}{p:PV}(h:env.any Slot.cg=fx)(e:b.put p env=.ok a):a.any Slot.cg=fx:=by
 unfold Tg.put at e;split at e
 .cases e;exact iI h _ _
 .cases e;exact iI (iI h _ _) _ _
 .cases e;exact iI (iI (iI (iI h _ _) _ _) _ _) _ _
 .cases e
theorem yw(h:env.any Slot.cg=fx)(k:Nat)(a:List Nat):(jZ k Slot.no++eQ env a).any Slot.cg=fx:=rn λs m=>by
 rcases List.mem_append.mp m with z|z
 .rw [List.eq_of_mem_replicate z];rfl
 .unfold eQ at z;let(i,_,rfl):=er.mp z
  rw [bU];cases e:env[i]? with
  |none=>rfl|some s=>exact Ez h s (a6 e)
structure Y2(W:Wd)(obe:List Ob)(Ge He:Hp)(env:Sl)(σ:St)(s:Sg)(ob:List Ob)(G H:Hp)(uJ:Sl)(f:PV->Sg->Rs PV)(ps:List PV)(i:Nat)(ys:List V)(σ':St)(H':Hp):Prop where
 le:i<=ps.length
 ex:∃aF G' TM TL zs s',eG W obe Ge He env σ s' aF TM G' H'/\eG W obe Ge He uJ σ' s' aF TL G' H'/\fZ W ob G H aF G' H'/\bG f (ps.take i) s=.ok zs s'/\ah (W.at aF) G' zs ys
def Cs(S:zv2 X){b:Nat}{d:List Nat}{D:Tg}{m:X2}{ys:List Str}(eC:lI b D=e6)(hs:d.map (λi=>N[i]?)=ys.map eW)(nd:ys.Nodup){J:It}{e:Hp}
 (pK:eG W obe Ge He env σ s ob H0 e H1) (bR:rh (W.at ob) J e e ps) (j:bq W obe Ge He E (if ps.length<cb then(bG (λx s=>(Rs.of (D.put x (jZ b .no++eQ env d)) s).bind λr s=>bF F1 F2 m r s) ps s).bind λys s=>.ok (.lst ys) s else .bad) λp s'=>∀v aF O G' H',eG W obe Ge He env σ s' aF O G' H'->fZ W ob e H1 aF G' H'->Rep (W.at aF) G' p v->Q v H'):
 JT J b (gT X.K D) (t2 W F1 F2 obe Ge He FX m) (AY σ d) Q H1:=by
 by_cases v8:¬ps.length<cb
 .rw [if_neg v8] at j;exact j.elim
 have hl:=Decidable.not_not.mp v8;rw [if_pos hl] at j;generalize hf:(λ(x:PV) (s:Sg)=>(Rs.of (D.put x (jZ b .no++eQ env d)) s).bind λr s=>bF F1 F2 m r s)=f at j
 cases t:bG f ps s with
 |bad=>rw [t] at j;exact j.elim|exc c s1=>exact absurd t (kI _ _ _ _)|ok all sf=>
  rw [t] at j;have fin:∀v aF O G' H',eG W obe Ge He env σ sf aF O G' H'->fZ W ob e H1 aF G' H'->Rep (W.at aF) G' (.lst all) v->Q v H':=j;have P:eG W obe Ge He (jZ b .no++eQ env d) (jZ b eX++AY σ d) s ob H0 e H1:={o8 b pK.sr hs nd,pK.u,pK.n,pK.s,yw pK.no b d};refine{ps.length,Y2 W obe Ge He env σ s ob e H1 (jZ b .no++eQ env d) f ps,{Nat.zero_le _,ob,e,H0,H0,[],s,pK,P,.refl pK.sr.sub,rfl,.nil},?_}
  rintro i made σ' H' ⟨hi,aF,G',TM,TL,zs,s',w,si,F,I,l⟩
  have Pp:zs.length=i:=by rw [nZ I,List.length_take];lia
  refine{by rw [l.length,Pp];exact c5 hi (c6 hl ↑2),?_};have Yz:aA e G':=F.g;let(R,T):=bR i G' H' Yz (jb.of (Yz.trans w.sr.sub)) w.sr.sub;by_cases a:i=ps.length
  .refine .inl {R a,λp hp=>?_};rw [a,List.take_length,t] at I;cases I;have U:aE (W.at aF) G' H' (upd G' p (.lst made)) (upd H' p (.lst made)):=.new w.sr.sub hp;exact fin (.ref p) aF TM _ _ (w.grow U) (F.trans U.lU) (.l (.inl (.inl aq)) (ah.same U.g _ l))
  .have L:i<ps.length:=by lia
   let(DF,A):=T ps[i] (zzg L);refine .inr {DF,L,λx jr hy=>?_};let(V,B,rx):=A x jr hy;have M:aE (W.at aF) G' H' V jr:=⟨B.g,B.h,B.sub,B.own,B.tb⟩;have Wr:Rep (W.at aF) V ps[i] x:=Rep.at F.ids _ rx;let(y,s1,ho,o):=qA t I (zzg L);rw [<-hf] at ho;let(r,s2,Y,Z):=Rs.aJ ho;let(BW,z):=Rs.of_ok Y;subst z;have so2:=w.grow M;have C:=si.grow M;refine jX (W:=W.at aF) S.K BW C.sr Wr λσ2 kh=>?_;refine{aF,TL,V,r,s2,{kh,C.u,C.n,C.s,xJ C.no BW},?_};rw [Z];intro v i3 t9 G2 H2 q lU rv;refine{L,i3,G2,_,t9,_,s1,so2.on lU q.u q.s,{i8 eC BW q.sr,q.u,q.n,q.s,yw pK.no b d},F.trans (M.lU.trans lU),o,?_};exact((M.lU.trans lU).Sh l).append (.cons rv .nil)
def Ct(S:zv2 X){c:Nat}{d:List Nat}{e:Tg}{it b:X2}{ys:List Str}(r:lI c e=e6)(hs:d.map (λi=>N[i]?)=ys.map eW)(nd:ys.Nodup)
 (st:zv5 H) (o:bq W obe Ge He E (bF F1 F2 (.n5 c d e it b) env s) λp s'=>∀v aF f G' H',eG W obe Ge He env σ s' aF f G' H'->fZ W ob G H aF G' H'->Rep (W.at aF) G' p v->Q v H'):
 FJ (Ki X.K (t2 W F1 F2 obe Ge He E it)) c (gT X.K e) (t2 W F1 F2 obe Ge He FX b) d σ H Q:=by
 unfold bF at o;refine{ob,H0,G,env,s,st,o.bind.imp λp A h v u B C D j g1 m=>?_}
 cases p with
 |lst xs=>simp! [Rep] at m;let(a,w,rfl,q,y):=m;exact{a,rfl,{w,tm S.K (jb.ls (.of j.sr.sub) q)},Cs S r hs nd j (sj (W:=W.at u) S.K q y) (bq.imp h λp s' z v aF f G' H' t g rv=>z v aF f G' H' t (g1.trans g) rv)}|_=>exact h.elim
def lg{n:Nat}{o:Ob}{fs':List (Str×PV)}{vs':List V}(t:bu (W.at ob) G H)(I:aA G H)(u:lX W.K W.mg ob)(e:ob[n]?=eW o)(l:ah (W.at ob) G (fs'.map (·.2)) vs')(L:bA o.c=e6\/∀f p,fs'.lookup f=eW p->cN W.K o.C f):
 fZ W ob G H (ob.set n {o with fs:=fs'}) G (upd H o.a (mG {o with fs:=fs'} vs'))/\lX W.K W.mg (ob.set n {o with fs:=fs'}):=by
 have A:n<ob.length:=(bD.mp e).1;let(B,i,M,_):=t.o n o e
 have at_:∀(m:Nat) (d:Ob),(ob.set n {o with fs:=fs'})[m]?=eW d->(m=n/\d={o with fs:=fs'})\/(m≠n/\ob[m]?=eW d):=λm d h=>by
  by_cases hm:n=m
  .subst hm;rw [ed A] at h;cases h;exact .inl ⟨rfl,rfl⟩
  .rw [cP hm] at h;exact .inr {λz=>hm z.symm,h}
 have ids:zZ ob (ob.set n {o with fs:=fs'}):=λm d h=>by
  by_cases hm:n=m
  .subst hm;rw [e] at h;cases h;exact{_,ed A,rfl,rfl,rfl,rfl}
  .exact{d,by rw [cP hm];exact h,rfl,rfl,rfl,rfl}
 refine{{ids,.refl _,λb x h=>?_,λb x h=>?_,λ_ _ _ h=>h,λ_=>{λP q m=>?_,λm d h=>?_}},{λm1 m2 o1 o2 j r O=>?_,λm d h w=>?_}}
 .by_cases D:b=o.a
  .subst D;exact{_,aq,λ_ Q=>sD _ _ Q}
  .exact{x,by rw [ai D];exact h,id}
 .rw [ai (λz=>by rw [z,B] at h;cases h)];exact I _ _ h
 .let(R,F,y,S,T):=t.t P q m;exact{R,F,by rw [ai (λz=>by rw [z,M] at y;exact zm o i F (zzq y))];exact y,S,T}
 .rcases at_ m d h with⟨rfl,rfl⟩|⟨hm,g⟩
  .exact{B,vs',aq,ah.at ids _ l}
  .let(j,i,r,U):=t.o m d g;have:d.a≠o.a:=λz=>hm (u.inj m n d o g e z);exact{j,i,by rw [ai this];exact r,ah.at ids _ U}
 .have back:∀(m:Nat) (d:Ob),(ob.set n {o with fs:=fs'})[m]?=eW d->∃o2,ob[m]?=eW o2/\o2.a=d.a:=λm d h=>by
   rcases at_ m d h with⟨rfl,rfl⟩|⟨_,g⟩
   .exact⟨o,e,rfl⟩
   .exact⟨d,g,rfl⟩
  let(Y,Z,r1):=back _ _ j;let(p2,q2,r2):=back _ _ r;exact u.inj m1 m2 Y p2 Z q2 (by rw [r1,r2];exact O)
 .rcases at_ m d h with⟨rfl,rfl⟩|⟨_,g⟩
  .let(c1,c2,c3):=u.cls _ o e w;exact{c1,c2,L.resolve_left λz=>by rw [show bA o.c=fx from w] at z;cases z}
  .exact u.cls m d g w
def oZ{n:Nat}{o:Ob}{l:List (Str×PV)}:aC (ob.set n {o with fs:=l})=(aC ob).set n ⟨o.c,l⟩:=by unfold aC;rw [List.map_set]
def yQ(h:DV c=e6):bA c=e6:=by unfold bA;rw [h,Bool.or_true]
def yO(h:DT c=e6):bA c=e6:=by unfold bA;rw [h,Bool.true_or]
def Rl(h:DV c=e6):DT c=fx:=by unfold DV at h;rw [zzy.mp h];rfl
def vm{o:Ob}(h:DV o.c=e6):mG o vs=.lst vs:=by unfold mG;rw [Rl h,h];rfl
def vj{o:Ob}(h:DT o.c=e6):mG o vs=.dK (kz (o.fs.map (·.1)) vs):=by unfold mG;rw [h];rfl
def l4{d:Type}{q:Str->Bool}{p:PV}{f:Nat->OS->Rs d}{a:d->Sg->Prop}(h:bq W obe Ge He E (kJ (aC ob) q p f) a):∃n o,p=.obj n/\ob[n]?=eW o/\q o.c=e6/\bq W obe Ge He E (f n ⟨o.c,o.fs⟩) a:=by
 cases p with
 |obj n=>
  have h:bq W obe Ge He E (match(aC ob)[n]? with|some o=>(if q o.c then f n o else .bad)|none=>.bad) a:=h
  cases e:ob[n]? with
  |none=>
   have:(aC ob)[n]?=eX:=by unfold aC;rw [cz,e];rfl
   rw [this] at h;exact h.elim
  |some o=>
   have:(aC ob)[n]?=eW ⟨o.c,o.fs⟩:=by unfold aC;rw [cz,e];rfl
   rw [this] at h;cases b:q o.c with
   |true=>have h:bq W obe Ge He E (if q o.c then f n ⟨o.c,o.fs⟩ else .bad) a:=h;rw [b,if_pos rfl] at h;exact⟨n,o,rfl,e,b,h⟩
   |false=>have h:bq W obe Ge He E (if q o.c then f n ⟨o.c,o.fs⟩ else .bad) a:=h;rw [b,if_neg zzf] at h;exact h.elim
 |_=>exact h.elim
def nC{n:Nat}{o:Ob}(h:Rep (W.at ob) G (.obj n) v)(e:ob[n]?=eW o):v=.ref o.a:=by simp! [Rep] at h;let(c,b,rfl):=h;have b:ob[n]?=eW c:=b;rw [e] at b;cases b;rfl
def DN{n:Nat}{o o2:Ob}(i:zZ ob aF)(e:ob[n]?=eW o)(d:aF[n]?=eW o2):o2.a=o.a/\o2.c=o.c:=by let(h,b,f,_,_,g):=i n o e;rw [d] at b;cases b;exact⟨f,g⟩
def iu{e:Ci.E}:bF F1 F2 (.pu e) env s=Rs.of (az (F1 s) e env) s:=by unfold bF;rfl
def Hm(S:zv2 X){a:Ci.E}{x:X2}{b z:Pos}(C:eR a=e6)(D:aI Γ N sc a po=e6)(I:G2 X W F1 F2 obe Ge He E x p)(K:dZ po=e6)(L:(b.endLine==z.line)=e6)(j:∀env ps,starEach (p::ps) env=(fx,eval p env)::starEach ps env):
 G2 X W F1 F2 obe Ge He E (.uf a x) (.Call (.Attribute po "append" b) [p] [] z):=
 L2.PE.imp (vv PySem.F.plainAttrs_list PySem.F.slot_list_append PySem.F.type_list_append qS (kQ S C D) (bQ I dA (j _ _)) (eZ K) (by rw [j];rfl) L (j _ _) rfl) λσ H Q h=>by
  let(ob,H0,G,env,s,st,o):=h;unfold bF at o;rw [<-iu (F2:=F2)] at o;refine hU st o λp v Z cw ja G1 H1 m g1 M o1=>?_;have O:=m.s;subst O;let(n,o,rfl,r,hk,o2):=l4 o1;cases nC M r;let(_,vs,A,_):=m.sr.tab.o n o r;rw [vm hk] at A;refine{.inl {rfl,_,hW.of A},hU m o2 λq u s2 i3 t9 G2 H2 t2 g2 P R=>?_};have T:=t2.s;subst T;let(n',f,e,c,d,t):=l4 R;cases e;let(U,ec):=DN g2.ids r c;let(_,g,i,B):=t2.sr.tab.o n f c;rw [vm d] at i;split at t
  .rename_i hl;have w:g.length=f.fs.length:=by rw [B.length,zzl]
   let(y,V):=lg (fs':=f.fs++[(("":Str),q)]) (vs':=g++[u]) t2.sr.tab t2.sr.sub t2.u c (by rw [List.map_append];exact B.append (.cons P .nil)) (.inl (yQ d));refine{f.a,g,u,by rw [U],rfl,i,by rw [w];exact c6 hl ↑2,?_};have Y:mG {f with fs:=f.fs++[(("":Str),q)]} (g++[u])=.lst (g++[u]):=vm d;rw [Y] at y;exact t .aP _ _ G2 _ (t2.on y V oZ) ((g1.trans g2).trans y) .n
  .exact t.elim
theorem Hr(S:zv2 X){a:Ci.E}{b t:Pos}(y:eR a=e6)(z:aI Γ N sc a po=e6)(A:dZ po=e6)(B:(b.endLine==t.line)=e6):
 G2 X W F1 F2 obe Ge He E (.xG a) (.Call (.Attribute po "pop" b) [] [] t):=
 L2.PE.imp (NS PySem.F.plainAttrs_list PySem.F.slot_list_pop PySem.F.type_list_pop Nd (kQ (obe:=obe) (Ge:=Ge) (He:=He) S y z) (eZ A) B) λσ H Q h=>by
  let(ob,H0,G,env,s,st,o):=h;unfold bF at o;rw [<-iu (F2:=F2)] at o;refine hU st o λp v P g R w T e g1 C o1=>?_;have D:=e.s;subst D;let(n,o,rfl,j,hk,o2):=l4 o1;cases nC C j;let(_,d,m,l):=e.sr.tab.o n o j
  rw [vm hk] at m;refine{.inl {rfl,_,hW.of m},?_};cases r:o.fs[o.fs.length-1]? with
  |none=>
   have o2:bq W obe Ge He E (match o.fs[o.fs.length-1]? with|some p=>Rs.ok p.2 ((aC g).set n ⟨o.c,o.fs.dropLast⟩)|none=>.bad) _:=o2;rw [r] at o2;exact o2.elim
  |some q=>
   have o2:bq W obe Ge He E (match o.fs[o.fs.length-1]? with|some p=>Rs.ok p.2 ((aC g).set n ⟨o.c,o.fs.dropLast⟩)|none=>.bad) _:=o2;rw [r] at o2;have I:d.length=o.fs.length:=by rw [l.length,zzl]
   let(u,K,L):=l.rV (i:=d.length-1) (p:=q.2) (by rw [I,cz,r];rfl);have ld:ah (W.at g) w (o.fs.dropLast.map (·.2)) d.dropLast:=by rw [List.map_dropLast,List.dropLast_eq_take,List.dropLast_eq_take,l.length];exact l.take _
   let(f,M):=lg (fs':=o.fs.dropLast) (vs':=d.dropLast) e.sr.tab e.sr.sub e.u j ld (.inl (yQ hk));have O:mG {o with fs:=o.fs.dropLast} d.dropLast=.lst d.dropLast:=vm hk;rw [O] at f;exact{o.a,d,u,rfl,rfl,m,K,o2 u _ _ w _ (e.on f M oZ) (g1.trans f) (f.rep L)}
def n9{fs:List (Str×PV)}:(fe z fs).map (·.1)=fM (fs.map (·.1)) z/\(fe z fs).map (·.2)=bK (fs.map (·.1)) (fs.map (·.2)) z:=by have h:=uH z (ks:=fs.map (·.1)) (us:=fs.map (·.2)) (by simp);unfold fe;exact{List.map_fst_zip (Nat.le_of_eq h),List.map_snd_zip (Nat.le_of_eq h.symm)}
def qW{p:PV}{fs:List (Str×PV)}:(putD z p fs).map (·.1)=eN (fs.map (·.1)) z/\(putD z p fs).map (·.2)=cS (fs.map (·.1)) (fs.map (·.2)) z p:=by have h:=oS (ks:=fs.map (·.1)) (us:=fs.map (·.2)) (by simp) z p;unfold putD;exact{List.map_fst_zip (Nat.le_of_eq h),List.map_snd_zip (Nat.le_of_eq h.symm)}
def Dg(S:zv2 X){a y:Ci.E}{K:hB}{f L:Pos}(O:eR a=e6)(P:aI Γ N sc a po=e6)(R:eR y=e6)(hk:aI Γ N sc y K=e6)(T:dZ po=e6)(U:(f.endLine==L.line)=e6):
 G2 X W F1 F2 obe Ge He E (.qF a y) (.Call (.Attribute po "pop" f) [K] [] L):=
 L2.PE.imp (ER (kQ (obe:=obe) (Ge:=Ge) (He:=He) S O P) (kQ (obe:=obe) (Ge:=Ge) (He:=He) S R hk) {eZ T,by rw [notStar hk];rfl,U,by rw [notStar hk];rfl}) λσ H Q h=>by
  let(ob,H0,G,env,s,st,o):=h;unfold bF at o;rw [<-iu (F2:=F2)] at o;refine hU st o λp v s1 cw ja G1 H1 A g1 V o1=>?_;have Y:=A.s;subst Y;let(n,o,rfl,B,hk,o2):=l4 o1;cases nC V B;let(_,vs,M,_):=A.sr.tab.o n o B;rw [vj hk] at M;rw [<-iu (F2:=F2)] at o2;refine{o.a,rfl,.inl {_,.inl M},hU A o2 λq u s2 m t9 G2 H2 t2 g2 C Z=>?_};have e2:=t2.s;subst e2;let(n',b,e,g,i,d):=l4 Z;cases e;let(ea,ec):=DN g2.ids B g;let(_,r,j,D):=t2.sr.tab.o n b g;rw [vj i] at j;have hl:(b.fs.map (·.1)).length=r.length:=by rw [D.length,zzl,zzl]
  cases F:fg q with
  |none=>
   have d:bq W obe Ge He E (match fg q with|some z=>(match bS (b.fs.map (·.1)) (b.fs.map (·.2)) z with|some p=>Rs.ok p ((aC m).set n {b.c,fe z b.fs})|none=>.bad)|none=>.bad) _:=d;rw [F] at d;exact d.elim
  |some z=>
   have d:bq W obe Ge He E (match fg q with|some z=>(match bS (b.fs.map (·.1)) (b.fs.map (·.2)) z with|some p=>Rs.ok p ((aC m).set n {b.c,fe z b.fs})|none=>.bad)|none=>.bad) _:=d
   rw [F] at d;rw [fA F] at C;simp! [gM,Rep] at C;subst C;cases I:bS (b.fs.map (·.1)) (b.fs.map (·.2)) z with
   |none=>
    have d:bq W obe Ge He E (match bS (b.fs.map (·.1)) (b.fs.map (·.2)) z with|some p=>Rs.ok p ((aC m).set n {b.c,fe z b.fs})|none=>.bad) _:=d;rw [I] at d;exact d.elim
   |some p=>
    have d:bq W obe Ge He E (match bS (b.fs.map (·.1)) (b.fs.map (·.2)) z with|some p=>Rs.ok p ((aC m).set n {b.c,fe z b.fs})|none=>.bad) _:=d;rw [I] at d;let(w,hw,fY):=lR D I;let(t,u2):=lg (fs':=fe z b.fs) (vs':=bK (b.fs.map (·.1)) r z) t2.sr.tab t2.sr.sub t2.u g (by rw [n9.2];exact og D) (.inl (yO i));have ho:mG {b with fs:=fe z b.fs} (bK (b.fs.map (·.1)) r z)=.dK (gc (kz (b.fs.map (·.1)) r) (ki z)):=by rw [vj (o:={b with fs:=fe z b.fs}) i,yW z hl];show HO.dK (kz ((fe z b.fs).map (·.1)) _)=_;rw [n9.1]
    rw [ho] at t;rw [<-ea];exact{_,ki z,w,j,rfl,by rw [iB];exact hw,d w _ _ G2 _ (t2.on t u2 oZ) ((g1.trans g2).trans t) (t.rep fY)}
def zg{b:Prop}(st:zv5 H){fs:List (Str×PV)}{vs:List V}{p:g5}{d:PV->Sg->Prop}(a:H p=eX)(e:bA c=e6)(l:ah (W.at ob) G (fs.map (·.2)) vs)(o:bq W obe Ge He E (Nh c fs s) d)
 (h:∀aF,eG W obe Ge He env σ (s++[⟨c,fs⟩]) aF (upd H p (mG {p,0,0,c,fs} vs)) G (upd H p (mG {p,0,0,c,fs} vs))->fZ W ob G H aF G (upd H p (mG {p,0,0,c,fs} vs))->Rep (W.at aF) G (.obj s.length) (.ref p)->d (.obj s.length) (s++[⟨c,fs⟩])->b):b:=by
 have f:=st.s;subst f;have g1:=Ex (W:=W) (ob:=ob) (o1:={p,0,0,c,fs}) (vs:=vs) (H1:=upd H p (mG {p,0,0,c,fs} vs)) st.sr.sub a rfl l (bo a) aq;have g:=Kn (o1:={p,0,0,c,fs}) st.u st.sr.tab a λz=>by rw [show bA c=fx from z] at e;cases e
 refine h (ob++[{p,0,0,c,fs}]) (st.on g1 g (by unfold aC;rw [List.map_append];rfl)) g1 ?_ o;simp! [Rep];refine{{p,0,0,c,fs},?_,rfl};show(ob++[_])[(aC ob).length]?=_;rw [xQ,ei (a7 _),Nat.sub_self];rfl
theorem Ho(S:zv2 X):G2 X W F1 F2 obe Ge He E .CD (.Dict [] [] pos):=
 L2.PE.imp vw λσ H Q h=>by let(ob,H0,G,env,s,st,o):=h;unfold bF at o;intro p a;exact zg st a (c:="#d") (fs:=[]) (vs:=[]) (by rfl) .nil o λaF t g r q=>q _ _ _ _ _ t g r
theorem Hq(S:zv2 X){xs:vY}{ps:List hB}(hl:A4 xs<1000)(h:KR X W F1 F2 obe Ge He E xs ps):G2 X W F1 F2 obe Ge He E (.xm xs) (.List ps pos):=
 L2.PE.imp (EU h) λσ H Q b=>by
  let(ob,H0,G,env,s,st,o):=b
  unfold bF at o;refine{ob,H0,G,env,s,st,?_};cases r:eJ F1 F2 xs env s with
  |bad=>rw [r] at o;exact o|exc c s1=>rw [r] at o;exact o|ok qs s1=>rw [r] at o;have a:=om r;intro vs i j m u t g l;refine{by rw [l.length,a,sizeLine_eq];lia,λp d=>?_};exact zg t d (c:="#l") (fs:=qs.map λp=>(("":Str),p)) (vs:=vs) (by rfl) (by rw [List.map_map];exact(List.map_id qs).symm▸l) o λaF e f r q=>q _ _ _ _ _ e (g.trans f) r
def QA(S:zv2 X){xs:vY}{ps:List hB}(A:Γ.fs.contains f=e6)(L:gj sc f=e6)(M:okN f=e6)(w:KR X W F1 F2 obe Ge He E xs (p::ps))
 (O:starEach (p::ps) X.env=(fx,eval p X.env)::starEach ps X.env) (hpl:(backTo pos (starEach ps X.env)).any (·.1)=fx):G2 X W F1 F2 obe Ge He E (.c1 f xs) (.Call (.Name f np) (p::ps) [] pos):=by
 intro P R σ H Q I h;let(ob,H0,G,env,s,st,o):=h;unfold bF at o;obtain⟨e,hm,hk⟩:∃e,X.mg f=eW (.ref e)/\PySem.W.keepIn X.K (.ref e)=e6:=by let(e,_,_,_,hm,hk,_):=((S.C ob st.u).fns f A).ex;exact⟨e,hm,hk⟩
 refine wpAny_Call_Name_kw (dX I (dm (S.C ob st.u) L) hm ?_ (eE M).1);refine PySem.W.callWith_K (h₀:=X.base) I.ok.mod.Ii hk (bL (w pos P R σ H (λy m=>∃a i b c as,eG W obe Ge He env σ c a i b m/\fZ W ob G H a b m/\ah (W.at a) b as y/\bq W obe Ge He E (Rs.of (F1 c f as) c) λp T=>∀v aF U G' H',eG W obe Ge He env σ T aF U G' H'->fZ W ob G H aF G' H'->Rep (W.at aF) G' p v->Q v H') I {ob,H0,G,env,s,st,?_}) λus c ⟨y,m,B,r,q⟩=>{B.j2,?_}) O hpl
 .exact o.bind.imp λas c w y a i b m t g l=>⟨a,i,b,c,as,t,g,l,w⟩
 .let(a,i,b,V,as,d,g1,l,o1):=q;have Y:=d.s;subst Y;have D:=S.C a d.u;let(Z,fd,pn,FO,F,hk',hb,j):=(D.fns f A).ex;rw [hm] at F;cases F;have o2:=cR S.pass d o1;exact kF (W:=W.at a) D.rm FO hb (λz=>by rw [l.length];exact j as z) B d.sr.sub d.sr.tab l r (o2.imp λp hp v G' H' g rv=>hp v a i G' H' (d.grow g) (g1.trans g.lU) rv)
def Hn(S:zv2 X){x:X2}(B:gj sc "dict"=e6)(hm:Γ.bs.contains "dict"=e6)(D:G2 X W F1 F2 obe Ge He E x p)(w:∀env ps,starEach (p::ps) env=(fx,eval p env)::starEach ps env):G2 X W F1 F2 obe Ge He E (.dict x) (.Call (.Name "dict" np) [p] [] pos):=by
 have e:=S.C [] {(λZ Z Z Z h=>nomatch h),(λZ Z h=>nomatch h)};refine L2.PE.imp (i5 (uq (e.calm S.qt) (by have:=S.units;lia)) (dm e B) (e.bs _ (d9.mp hm)) ↑1 (bQ D dA (w _ _)) (he:=w _ _) (hpl:=rfl)) λσ H Q h=>?_;let(ob,H0,G,env,s,st,o):=h;unfold bF at o;refine hU st o λq v Y f F y i j g1 I o1=>?_
 cases b:gW [q] with
 |exc c=>
  exfalso;unfold gW at b;split at b
  .rcases Res.ee b with z|⟨_,_,z⟩
   .exact Res.aK c z
   .cases z
  .cases b
 |bad=>rw [b] at o1;exact o1.elim|ok r=>rw [b] at o1;let(A,qs,rfl,a,L,M,O,P,pw,m,R,T,U):=uE (W:=W.at f) (X:=X) (H0:=i) S.K j.sr.sub (.cons (.inl I) .nil) b;refine{a,L,M,O,P,pw,λd t V=>?_};rw [U];have u:aE (W.at f) y i (upd y d (.bR t (.dK (kz A m)))) (upd i d (.bR t (.dK (kz A m)))):=.new j.sr.sub V;refine o1 (.ref d) f F _ _ (j.grow u) (g1.trans u.lU) ?_;simp! [Rep];exact{d,t,m,rfl,R,aq,ah.same u.g _ T}
abbrev tt1(W:Wd)(F1:Sg->aN)(obe:List Ob)(Ge He:Hp)(E:XK)(c:Ci.E):TT:=λσ H Q=>∃ob H0 G env s,eG W obe Ge He env σ s ob H0 G H/\
 bq W obe Ge He E (Rs.of (az (F1 s) c env) s) λp Z=>∃b,p=.bl b/\∀G' H',aE (W.at ob) G H G' H'->Q b H'
def Mu(S:zv2 X){e:Ci.E}(a:gk e=e6)(h:aI Γ N sc e p=e6):PT X p (tt1 W F1 obe Ge He E e):=by intro b s σ H Q I c;let(ob,H0,G,env,i,st,o):=c;have d:=st.s;subst d;have f:=S.C ob st.u;refine(bp e f p h).gt a b s σ H Q I {H0,G,env,st.sr,?_};exact(cR S.pass st o).imp λp g=>g
theorem LV(S:zv2 X){c:Ci.E}{a b:X2}{i j m:hB}(y:gk c=e6)(z:aI Γ N sc c i=e6)(A:G2 X W F1 F2 obe Ge He E a j)(B:G2 X W F1 F2 obe Ge He E b m):G2 X W F1 F2 obe Ge He E (.ite c a b) (.IfExp i j m pos):=
 L2.PE.imp (vx (Mu (obe:=obe) (Ge:=Ge) (He:=He) S y z) A B) λσ H Q h=>by
  let(ob,H0,G,env,s,st,o):=h
  unfold bF at o;refine{ob,H0,G,env,s,st,?_};cases r:az (F1 s) c env with
  |bad=>rw [r] at o;exact o.elim|exc d=>rw [r] at o;exact o|ok q=>
   rw [r] at o;cases q with
   |bl t=>
    refine{t,rfl,λu w g1=>?_};have o:bq W obe Ge He E (if t then bF F1 F2 a env s else bF F1 F2 b env s) _:=o
    cases t with
    |true=>rw [if_pos rfl] at o;show t2 W F1 F2 obe Ge He E a σ w Q;exact{ob,H0,u,env,s,st.grow g1,o.imp λp C e v aF f G' H' t g rv=>e v aF f G' H' t (g1.lU.trans g) rv}|false=>rw [if_neg zzf] at o;show t2 W F1 F2 obe Ge He E b σ w Q;exact{ob,H0,u,env,s,st.grow g1,o.imp λp C e v aF f G' H' t g rv=>e v aF f G' H' t (g1.lU.trans g) rv}
   |_=>exact o.elim
end
def KP(W:Wd)(obe:List Ob)(Ge He:Hp)(D:Ends):Fl->Sg->Prop
 |.nx env,s=>∀a ob H0 G H,eG W obe Ge He env a s ob H0 G H->D.nx a H|.bk env,s=>∀a ob H0 G H,eG W obe Ge He env a s ob H0 G H->D.bk a H|.ct env,s=>∀a ob H0 G H,eG W obe Ge He env a s ob H0 G H->D.ct a H|.rt p,s=>∀v ob G H,Rep (W.at ob) G p v->fZ W obe Ge He ob G H->lX W.K W.mg ob->aC ob=s->D.rt v H
abbrev tS2(W:Wd)(F1:Sg->aN)(F2:gB)(obe:List Ob)(Ge He:Hp)(E:XK)(st:S2):TS:=λD a H=>∃ob b G env s,eG W obe Ge He env a s ob b G H/\bq W obe Ge He E (eM F1 F2 st env s) (KP W obe Ge He D)
abbrev OV(W:Wd)(F1:Sg->aN)(F2:gB)(obe:List Ob)(Ge He:Hp)(E:XK)(st:nM):TS:=λD a H=>∃ob b G env s,eG W obe Ge He env a s ob b G H/\bq W obe Ge He E (cB F1 F2 st env s) (KP W obe Ge He D)
noncomputable abbrev B5(X:Cx)(W:Wd)(F1:Sg->aN)(F2:gB)(obe:List Ob)(Ge He:Hp)(E:XK)(x:S2)(p:ig):Prop:=PS X p (tS2 W F1 F2 obe Ge He E x)
noncomputable abbrev wj(X:Cx)(W:Wd)(F1:Sg->aN)(F2:gB)(obe:List Ob)(Ge He:Hp)(E:XK)(x:nM)(p:List ig):Prop:=qi X p (OV W F1 F2 obe Ge He E x)
section
variable{Γ:Pg}{Δ:kn}{W:Wd}{F1:Sg->aN}{F2:gB}{sc:hX}{k:Nat}{E:XK}{obe ob aF:List Ob}{Ge He G' H':Hp}{s:Sg}
theorem ib.block(S:zv2 X){b:hX}{p:Nat}{q:List Nat}{xs:List Str}(h:nK N sc b p q xs)(fp:List g5)(s1:gC)(H1:Hp)(A:g5):ib Γ.zi Δ F1 F2 W (xs++freeOf b) (dB b sc) k FX (cY X (xs++freeOf b) b (cA X.env (freeOf b)) fp s1 H1 A) where
 C:=λob u=>kK (S.C ob u) h fp s1 H1 A
 pass:=λy σ H s e D I x=>by let(a,C,t,L,H',B,rfl,F):=x;exact F.ends.elim
 qt:=S.qt
 K:=S.K
 mg:=S.mg
 vZ:=λf h=>by let(d,g,i,o):=S.vZ f h;exact{d,g,i,⟨o.ex⟩}
 met:=λc m h=>by let(C,d,g,i,o):=S.met c m h;exact{C,d,g,i,⟨o.ex⟩}
 new:=λc h=>by let(C,d,j,g,i,o,r,w):=S.new c h;exact{C,d,j,g,i,o,r,⟨w.ex⟩}
 fl:=S.fl
 td:=λf Z z=>nomatch z
abbrev LK:hB->Bool
 |.Call .. =>e6|_=>fx
def Qz(h:LK p=e6)(env:Env):∀x,foldedSetIterable p env x=pure x:=by
 intro x;cases p<;>first|rfl|(exact aO h)
def Df(S:zv2 X){f:Nat}{i:List Nat}{d:Tg}{it b:X2}{c j q:hB}{a:hX}{pos:Pos}(h:nK N sc a f i (aS c))(r:lI f d=e6)(t:LK j=e6)(w:G2 X W F1 F2 obe Ge He E it j)
 (y:eK (aS c++freeOf a) (dB a sc) (pZ a) d c=e6) (he:∀Y,ib Γ.zi Δ F1 F2 W (aS c++freeOf a) (dB a sc) k FX Y->G2 Y W F1 F2 obe Ge He FX b q):G2 X W F1 F2 obe Ge He E (.n5 f i d it b) (.ListComp q [{c,j,[],0}] a pos):=by
 intro B D σ H Q I F;let(ob,H0,G,env,s,st,o):=F;have L:=st.s;subst L;have e:=S.C ob st.u;have M:(freeOf a).Nodup:=(List.nodup_append.mp h.nd).2.1;have rd:=Ct (N:=N) S r h.slots M st o
 have:=zt (g:=gT X.K d) (te:=t2 W F1 F2 obe Ge He FX b) (xs:=aS c) (ys:=freeOf a) (is:=i) (pos:=pos) (e.calm S.qt) (wJ e.hN e.fX I.ok h) (sM w)
  (λfp m p A=>xC (fn:=pZ a) (X:=cY X (aS c++freeOf a) a (cA X.env (freeOf a)) fp m p A) rfl h.nd (iH e.fX) rfl (λZ z=>z) y)
  (λfp m p A=>he _ (S.block h fp m p A)) (Qz t _) B D σ H Q I
 rw [h.len] at this;exact this rd
structure B2(Γ:Pg)(Δ:kn)(F1:Sg->aN)(F2:gB)(W:Wd)(N:List Str)(sc:hX)(k:Nat)(E:XK)(X:Cx):Prop where
 C:zv2 X
 S:∀ob,lX W.K W.mg ob->fF Γ (F1 (aC ob)) (W.at ob) N sc k E X
def sE{K:zz8}:lX K mg []:={(λZ Z Z Z h=>nomatch h),(λZ Z h=>nomatch h)}
def B2.s0(S:B2 Γ Δ F1 F2 W N sc k E X):fF Γ (F1 (aC [])) (W.at []) N sc k E X:=S.S [] sE
def QD(S:B2 Γ Δ F1 F2 W N sc k E X){st:Ci.S}{p:ig}(h:f7 Γ N sc st p=e6):B5 X W F1 F2 obe Ge He E (.p st) p:=by
 intro i j σ H D I m;let(ob,H0,G,env,s,t,o):=m;have w:=t.s
 subst w;refine Sn (H0:=H0) (S.S ob t.u) S.C.qt st p h i j σ H D I {G,env,t.sr,?_};unfold eM at o;cases r:du (F1 (aC ob)) st env with
 |bad=>rw [r] at o;exact o|exc c=>rw [r] at o;intro y z H' x;let(C,a,G',A,B,e3,F,g):=x;exact o y z H' {C,a,ob,G',A,B,e3,F,t.n.fin t.sr.jf g,t.u,rfl}|ok f=>
  rw [r] at o;cases f with
  |nx b=>
   have o:bq W obe Ge He E (Rs.of (if b.any Slot.cg then Res.bad else .ok (.nx b)) (aC ob)) (KP W obe Ge He D):=o
   cases d:b.any Slot.cg with
   |true=>rw [d,if_pos rfl] at o;exact o.elim|false=>rw [d,if_neg zzf] at o;exact λe G' H' sr g=>o e ob H0 G' H' {sr,t.u,t.n.step g,rfl,d}
  |bk b=>exact o.elim|ct b=>exact o.elim|rt q=>exact λv G' H' rv g=>o v ob G' H' rv (t.n.fin t.sr.jf g) t.u rfl
def Oy{p:PV}(i:Nat)(t:zv5 H)(h:Rep (W.at ob) G p v):eG W obe Ge He (env.set i (.val p)) (σ.set i (eW v)) s ob H0 G H:={t.sr.set i h,t.u,t.n,t.s,iI t.no i p}
def HH(S:B2 Γ Δ F1 F2 W N sc k E X){i:Nat}{e:X2}{a:Pos}(h:N[i]?=eW x)(hl:je sc x=e6)(he:G2 X W F1 F2 obe Ge He E e p)(hs:swapsWith p (eW (.Name x a)) pos.line X.env=pure fx):B5 X W F1 F2 obe Ge He E (.set i e) (.Assign [.Name x a] p pos):=by let(b,a2,c):=kq S.s0 h hl;refine L2.PS.imp (sQ b a2 c he hs (.inl (S.s0.fn x))) λD σ H h=>?_;let(ob,H0,G,env,s,t,o):=h;unfold eM at o;exact hU t o λp v r d f g j m g1 q o1=>o1 _ d f g j (Oy i m q)
theorem Mn{e:X2}(he:G2 X W F1 F2 obe Ge He E e p)(hn:c7 p=e6):B5 X W F1 F2 obe Ge He E (.ex e) (.Expr p pos):=
 L2.PS.imp (sO he (fE hn)) λD σ H h=>by let(ob,H0,G,env,s,t,o):=h;unfold eM at o;exact hU t o λp v g a b c d f g1 i o1=>o1 σ a b c d f
theorem HG{e:X2}(he:G2 X W F1 F2 obe Ge He E e p):B5 X W F1 F2 obe Ge He E (.ret e) (.Return (eW p) pos):=
 L2.PS.imp (sP he) λD σ H h=>by let(ob,H0,G,env,s,t,o):=h;unfold eM at o;exact hU t o λp v g b i c d a g1 f o1=>o1 v b c d f (a.n.lU a.sr) a.u a.s
theorem HF{c:T2}{a b:nM}{e f:List ig}(m:PL X W F1 F2 obe Ge He E c p)(q:wj X W F1 F2 obe Ge He E a e)(r:wj X W F1 F2 obe Ge He E b f):B5 X W F1 F2 obe Ge He E (.ite c a b) (.If p e f pos):=
 L2.PS.imp (Ku m q r) λD σ H h=>by
  let(ob,H0,G,env,s,t,o):=h;unfold eM at o;refine{ob,H0,G,env,s,t,o.bind.imp λb g d aF i G' H' j=>?_}
  cases b with
  |true=>rw [if_pos rfl] at d⊢;exact⟨aF,i,G',env,g,j,d⟩|false=>rw [if_neg zzf] at d⊢;exact⟨aF,i,G',env,g,j,d⟩
theorem Dv:wj X W F1 F2 obe Ge He E .nil []:=L2.qi.imp sR λD σ H h=>by let(ob,H0,G,env,s,t,o):=h;unfold cB at o;exact o σ ob H0 G H t
theorem AN{x:S2}{xs:nM}{p:ig}{ps:List ig}(c:B5 X W F1 F2 obe Ge He E x p)(d:wj X W F1 F2 obe Ge He E xs ps):wj X W F1 F2 obe Ge He E (.cons x xs) (p::ps):=
 L2.qi.imp (vz c d) λD σ H h=>by
  let(ob,H0,G,env,s,t,o):=h;unfold cB at o;refine{ob,H0,G,env,s,t,o.bind.imp λf e a=>?_}
  cases f with
  |nx b=>exact λg i j G2 m t2=>⟨i,j,G2,b,e,t2,a⟩|bk b=>exact a|ct b=>exact a|rt q=>exact a
def HI(S:B2 Γ Δ F1 F2 W N sc k E X){g:Tg}{e:X2}{a:hB}(j:isTup a=e6)(w:eK N sc (λZ=>e6) g a=e6)(hn:c7 p=e6)(b:JP sc a p=e6)(he:G2 X W F1 F2 obe Ge He E e p):B5 X W F1 F2 obe Ge He E (.vT g e) (.Assign [a] p pos):=by
 have d:=S.s0.C
 have y:swappedStores [a] p X.env=pure eX:=by
  cases a<;>first|(exact aO j)|skip
  cases p<;>first|rfl|skip
  rcases Bool.or_eq_true_iff.mp b with b|b
  .exact FI (zzY b)
  .exact zP (by rw [d.fX];exact b)
 have z:(assignEach [a] X.env).map (·.2)=[assign a X.env]:=by
  cases a<;>first|rfl|(exact aO j)
 refine L2.PS.imp (xI he (xC (fn:=λZ=>e6) d.hN d.nd d.fX (d.calm S.C.qt) (λx Z=>S.s0.fn x) w) (fE hn) y z) λD σ H h=>?_;let(ob,H0,G,env,s,t,o):=h;unfold eM at o;refine hU t o λq v M m A B F f g1 I o1=>?_
 cases r:g.put q env with
 |bad=>rw [r] at o1;exact o1.elim|exc c=>exact absurd r (iZ c)|ok O=>rw [r] at o1;exact jX (W:=W.at m) S.C.K r f.sr I λi L=>o1 i m A B F {L,f.u,f.n,f.s,xJ f.no r}
theorem vB{p:PV}:∀{fs:List (Str×PV)} {vs:List V},ah (W.at ob) G (fs.map (·.2)) vs->Rep (W.at ob) G p v->∃vs',gQ f v ((fs.map (·.1)).zip vs)=((oT f p fs).map (·.1)).zip vs'/\ah (W.at ob) G ((oT f p fs).map (·.2)) vs'
 |[],vs,l,h=>by simp! [List.map_nil,ah] at l;subst l;exact{[v],rfl,.cons h .nil}|(g,q)::fs,vs,l,h=>by
  let(u,r,rfl,c,b):=ah.aZ (p:=q) (ps:=fs.map (·.2)) l;show∃vs',(if g=f then(g,v)::((fs.map (·.1)).zip r) else(g,u)::gQ f v ((fs.map (·.1)).zip r))=((if g=f then(g,p)::fs else(g,q)::oT f p fs).map (·.1)).zip vs'/\ah (W.at ob) G ((if g=f then(g,p)::fs else(g,q)::oT f p fs).map (·.2)) vs';by_cases a:g=f
  .rw [if_pos a,if_pos a];exact{v::r,rfl,.cons h b}
  .rw [if_neg a,if_neg a];let(vs',d,e):=vB b h;exact{u::vs',by rw [d];rfl,.cons c e}
theorem mI{g:Str}{p:PV}:∀{fs:List (Str×PV)},(oT f p fs).lookup g=eW q->g=f\/fs.lookup g=eW q
 |[],h=>by
  have h:List.lookup g [(f,p)]=eW q:=h
  rw [ez] at h;cases e:g==f with
  |true=>exact .inl (zzy.mp e)|false=>rw [e] at h;cases h
 |(a,b)::fs,h=>by
  unfold oT at h;by_cases c:a=f
  .rw [if_pos c,ez] at h;rw [ez];cases e:g==a with
   |true=>exact .inl ((zzy.mp e).trans c)|false=>rw [e] at h;exact .inr h
  .rw [if_neg c,ez] at h;rw [ez];cases e:g==a with
   |true=>rw [e] at h;exact .inr h|false=>rw [e] at h;exact mI h
def JS{a b:Type}{xs:List a}{ys:List b}:(xs.zip ys).length<=xs.length:=by rw [List.length_zip];exact Nat.min_le_left _ _
def Kq{o:Ob}(h:bA o.c=fx):mG o vs=.ins o.C o.dx ((o.fs.map (·.1)).zip vs):=ny h
def Li{n:Nat}(h:kH (aC ob) n c=e6):∃o,ob[n]?=eW o/\o.c=c/\bA o.c=fx:=by
 unfold kH at h;cases e:ob[n]? with
 |none=>
  have:(aC ob)[n]?=eX:=by unfold aC;rw [cz,e];rfl
  rw [this] at h;cases h
 |some o=>
  have:(aC ob)[n]?=eW ⟨o.c,o.fs⟩:=by unfold aC;rw [cz,e];rfl
  rw [this] at h;have b:=aj h;have a:=zzy.mp b.1;dsimp only at a;exact{o,rfl,a,by rw [a];simpa using b.2}
def Ds(S:B2 Γ Δ F1 F2 W N sc k E X){f:Str}{i:Nat}{e:X2}{p:hB}{ap:Pos}(T:(N[i]?==eW x&&kg sc x&&okN x)=e6)(U:Δ.fl.contains (c,f)=e6)(he:G2 X W F1 F2 obe Ge He E e p)(hn:c7 p=e6):
 B5 X W F1 F2 obe Ge He E (.vH c i f e) (.Assign [.Attribute (.Name x np) f ap] p pos):=by
 refine L2.PS.imp (N3 (kQ (F2:=F2) (obe:=obe) (Ge:=Ge) (He:=He) (e:=.var i) (p:=.Name x np) S.C rfl ?_) he (fE hn)) λD σ H h=>?_
 .unfold aI;exact T
 let(ob,H0,G,env,s,t,o):=h;unfold eM at o;refine hU t o λq y s1 d V Y H1 L g1 Z o1=>?_;have j:=L.s
 subst j;have B:∃n,env[i]?=eW (.val (.obj n))/\kH (aC d) n c=e6/\bq W obe Ge He E ((Ow (aC d) n f q).bind λ_ s=>.ok (.nx env) s) (KP W obe Ge He D):=by
  cases j:env[i]? with
  |none=>rw [j] at o1;exact o1.elim|some sl=>
   rw [j] at o1;cases sl with
   |val r=>
    cases r with
    |obj n=>
     dsimp only at o1;cases w:kH (aC d) n c with
     |true=>rw [w,if_pos rfl] at o1;exact⟨n,rfl,w,o1⟩|false=>rw [w,if_neg zzf] at o1;exact o1.elim
    |_=>exact o1.elim
   |_=>exact o1.elim
 let(n,j,w,o2):=B;let(F,eo,rfl,A):=Li w
 have ev:bF F1 F2 (.pu (.var i)) env (aC d)=.ok (.obj n) (aC d):=by
  rw [iu];have:az (F1 (aC d)) (.var i) env=mO env[i]?:=by unfold az;rfl
  rw [this,j];rfl
 refine{d,V,Y,env,aC d,L,?_};rw [ev];intro v M t9 G2 H2 t2 g2 rv;simp! [Rep] at rv;let(b,m,rfl):=rv;have m:M[n]?=eW b:=m;have hs:(aC M)[n]?=eW ⟨b.c,b.fs⟩:=by unfold aC;rw [cz,m];rfl
 have Vs:(aC d)[n]?=eW ⟨F.c,F.fs⟩:=by unfold aC;rw [cz,eo];rfl
 have O:b.c=F.c:=by rw [t2.s,Vs] at hs;exact(congrArg OS.c (zzq hs)).symm
 have I:bA b.c=fx:=by rw [O];exact A
 let(_,vs,P,l):=t2.sr.tab.o n b m;rw [Kq I] at P;let(c1,c2,c3):=t2.u.cls n b m I;have Q:cN X.K b.C f:=S.C.fl _ f U b.C (by rw [<-S.C.mg,<-O];exact c1);rw [<-t2.s] at o2;unfold Ow at o2;rw [hs] at o2;dsimp only at o2;by_cases hl:b.fs.length<1000
 .rw [if_pos hl] at o2;let(vs',e5,l'):=vB (f:=f) l (g2.rep Z)
  let(R,u2):=lg (fs':=oT f q b.fs) (vs':=vs') t2.sr.tab t2.sr.sub t2.u m l' (.inr λg p hg=>by
   rcases mI hg with rfl|z
   .rw [S.C.K];exact Q
   .exact c3 g p z)
  have ho:mG {b with fs:=oT f q b.fs} vs'=.ins b.C b.dx (gQ f y ((b.fs.map (·.1)).zip vs)):=by rw [Kq (o:={b with fs:=oT f q b.fs}) I,e5]
  rw [ho] at R;refine{b.a,b.C,b.dx,_,rfl,P,by rw [<-S.C.K];exact c2,Q,?_,?_}
  .refine c5 JS ?_;rw [zzl];exact hl
  .exact o2 σ _ _ G2 _ (t2.on R u2 oZ)
 .rw [if_neg hl] at o2;exact o2.elim
def Dr(S:B2 Γ Δ F1 F2 W N sc k E X){a j e:Ci.E}{K:hB}{sp:Pos}(Q:eR a=e6)(R:aI Γ N sc a po=e6)(T:eR j=e6)(hk:aI Γ N sc j K=e6)(U:eR e=e6)(he:aI Γ N sc e p=e6)(hn:c7 p=e6):
 B5 X W F1 F2 obe Ge He E (.Bs a j e) (.Assign [.Subscript po K sp] p pos):=by
 refine L2.PS.imp (Jj (by have:=S.C.units;lia) (kQ (F2:=F2) (obe:=obe) (Ge:=Ge) (He:=He) S.C Q R) (kQ (F2:=F2) (obe:=obe) (Ge:=Ge) (He:=He) S.C T hk) (kQ (F2:=F2) (obe:=obe) (Ge:=Ge) (He:=He) S.C U he) (fE hn)) λD σ H h=>?_;let(ob,H0,G,env,s,t,o):=h;unfold eM at o;rw [<-iu (F2:=F2)] at o;refine hU t o λq v s1 cw ja G1 H1 V g1 Y o1=>?_;rw [<-iu (F2:=F2)] at o1;refine hU V o1 λr u s2 i3 t9 G2 H2 t2 g2 Z o2=>?_;rw [<-iu (F2:=F2)] at o2;refine hU t2 o2 λz w s3 m O3 L H3 g M rz o3=>?_;have e3:=g.s;subst e3;let(n,b,rfl,y,A,f):=l4 o3.bind;cases nC (M.rep Z) y;let(_,i,O,l):=g.sr.tab.o n b y;rw [vj A] at O;have hl:(b.fs.map (·.1)).length=i.length:=by rw [l.length,zzl,zzl]
 cases B:fg z with
 |none=>
  have f:bq W obe Ge He E (match fg z with|some z=>(if b.fs.length<cb then Rs.ok PV.aP ((aC m).set n {b.c,putD z q b.fs}) else .bad)|none=>.bad) _:=f;rw [B] at f;exact f.elim
 |some d=>
  have f:bq W obe Ge He E (match fg z with|some z=>(if b.fs.length<cb then Rs.ok PV.aP ((aC m).set n {b.c,putD z q b.fs}) else .bad)|none=>.bad) _:=f;rw [B] at f;dsimp only at f;rw [fA B] at rz;simp! [gM,Rep] at rz;subst rz;by_cases F:b.fs.length<cb
  .rw [if_pos F] at f;have I:Rep (W.at m) L q v:=M.rep (g2.rep Y);let(P,u2):=lg (fs':=putD d q b.fs) (vs':=cS (b.fs.map (·.1)) i d v) g.sr.tab g.sr.sub g.u y (by rw [qW.2];exact sV l I) (.inl (yO A));have ho:mG {b with fs:=putD d q b.fs} (cS (b.fs.map (·.1)) i d v)=.dK (putK (kz (b.fs.map (·.1)) i) (ki d) v):=by rw [vj (o:={b with fs:=putD d q b.fs}) A,xg hl];show HO.dK (kz ((putD d q b.fs).map (·.1)) _)=_;rw [qW.1]
   rw [ho] at P;refine{b.a,_,rfl,wg.k (k:=ki d) O (by rw [iA hl,zzl];exact c6 F ↑2),?_};exact f σ _ _ L _ (g.on P u2 oZ)
  .rw [if_neg F] at f;exact f.elim
def Ent.trans{c:List Ob}{d:Hp}(n:Ent obe Ge He ob G H0)(m:Ent ob G H0 c d H1):Ent obe Ge He c d H1:={n.ids.trans m.ids,n.g.trans m.g,n.h.trans m.h,λa b e f=>m.own a (n.h.has b) (n.h.jj b e) (n.own a b e f)}
def Ent.comp(n:Ent obe Ge He ob G H0)(t:bu (W.at ob) G H0)(g:fZ W ob G H0 aF G' H'):fZ W obe Ge He aF G' H':={n.ids.trans g.ids,n.g.trans g.g,n.h.trans g.h,g.sub,λa b c d=>g.own a (n.h.has b) (n.h.jj b c) (n.own a b c d),λZ=>g.tab t}
def Gm.comp{b:fP}{d:Option g5}(n:Ent obe Ge He ob G H0)(t:bu (W.at ob) G H0)(x:Gm W c s ob G H0 b d H'):Gm W c s obe Ge He b d H':=by let(C,a,aF,G',e,f,e3,h,g,u,i):=x;exact{C,a,aF,G',e,f,e3,h,n.comp t g,u,i}
def HE(S:B2 Γ Δ F1 F2 W N sc k E X){U:Tg}{b:nM}{b9 i6:hB}{pb:List ig}(AX:eK N sc (λ_=>e6) U b9=e6)(hit:AI it=e6)(hi:uw Γ N sc b9 it i6=e6)(hb:∀obe Ge He,wj X W F1 F2 obe Ge He E b pb):B5 X W F1 F2 obe Ge He E (.g9 U it b) (.For b9 i6 pb [] pos):=by
 intro aa sh σ H D I h;let(ob,H0,G,env,s,t,o):=h;have e0:=t.s;subst e0;have T:=S.C.C ob t.u;unfold eM at o;have QO:qi X pb (λD σ H=>∃obe Ge He,OV W F1 F2 obe Ge He E b D σ H):=λaa s σ H D I ⟨obe,Ge,He,q⟩=>hb obe Ge He aa s σ H D I q;refine Fe S.s0.own (T.calm S.C.qt) (Jv it T b9 i6 hi) (xC (fn:=λ_=>e6) T.hN T.nd T.fX (T.calm S.C.qt) (λx _=>S.s0.fn x) AX) QO (nj hi _) aa sh σ H D I {H0,G,env,t.sr,(cR S.C.pass t o.bind).imp λd iV J B H1 g1 gi=>?_};have bR:=gi.bR hit;generalize hf:(λ(x:PV) (env:Sl) (s:Sg)=>(Rs.of (U.put x env) s).bind λa s=>cB F1 F2 b a s)=f at iV;have F:=t.grow g1;have tr:eG W ob B H0 env σ (aC ob) ob H0 B H1:={F.sr,F.u,.refl,rfl,F.no};have YS:=F.sr.jf;refine{λi m L H'=>i<=d.length/\m=d.length-i/\∃aF dE G' a A,eG W ob B H0 a L A aF dE G' H'/\bq W obe Ge He E (ji f (d.drop i) a A) (KP W obe Ge He D),{_,Nat.zero_le _,rfl,ob,H0,B,env,_,tr,by rw [List.drop_zero];exact iV},?_}
 rintro i m L H' ⟨DG,hm,aF,dE,G',a,A,M,y⟩
 have up:∀{z:Sl} {j:St} {V:Sg} {i3:List Ob} {t9 G2 Y:Hp},eG W ob B H0 z j V i3 t9 G2 Y->eG W obe Ge He z j V i3 t9 G2 Y:=λq=>{q.sr,q.u,F.n.trans q.n,q.s,q.no};let(ist,igo):=bR i G' H' M.n.g (.of (M.n.g.trans M.sr.sub)) M.sr.sub;by_cases w:i=d.length
 .refine .inl {ist w,?_};rw [w,List.drop_length] at y;exact y L aF dE G' H' (up M)
 .have eC:i<d.length:=by lia
  let(DF,Z):=igo d[i] (zzg eC);refine .inr {DF,λj Y=>i+1<=d.length/\∃i3 t9 G2 z V,eG W ob B H0 z j V i3 t9 G2 Y/\bq W obe Ge He E (ji f (d.drop (i+1)) z V) (KP W obe Ge He D),λj Y h2=>{d.length-(i+1),by lia,h2.1,rfl,h2.2},λx jr hy=>?_};let(rg,g0,rx):=Z x jr hy;have qJ:aE (W.at aF) G' H' rg jr:=⟨g0.g,g0.h,g0.sub,g0.own,g0.tb⟩;have Wr:Rep (W.at aF) rg d[i] x:=Rep.at M.n.ids _ rx;rw [List.drop_eq_getElem_cons eC] at y;unfold ji at y;have Vj:f d[i] a A=(Rs.of (U.put d[i] a) A).bind λa s=>cB F1 F2 b a s:=by rw [<-hf]
  rw [Vj] at y;have t2:=M.grow qJ
  cases r:U.put d[i] a with
  |bad=>rw [r] at y;exact y.elim|exc c=>exact absurd r (iZ c)|ok z=>
   rw [r] at y;refine jX (W:=W.at aF) S.C.K r t2.sr Wr λj sr3=>{ob,B,H0,aF,dE,rg,z,A,{sr3,t2.u,t2.n,t2.s,xJ t2.no r},?_}
   have o2:bq W obe Ge He E ((cB F1 F2 b z A).bind λfl s=>match fl with
    |.nx a=>ji f (d.drop (i+1)) a s|.ct a=>ji f (d.drop (i+1)) a s|.bk a=>.ok (.nx a) s|.rt p=>.ok (.rt p) s) (KP W obe Ge He D):=y
   cases r2:cB F1 F2 b z A with
   |bad=>rw [r2] at o2;exact o2.elim|exc cc s3=>rw [r2] at o2;exact λCv ao O x=>o2 Cv ao O (Gm.comp F.n YS x)|ok fl s3=>
    rw [r2] at o2;cases fl with
    |nx e=>exact λP Q O3 R O t3=>⟨eC,Q,O3,R,e,s3,t3,o2⟩|ct e=>exact λP Q O3 R O t3=>⟨eC,Q,O3,R,e,s3,t3,o2⟩|bk e=>exact λP Q O3 R O t3=>o2 P Q O3 R O (up t3)|rt q=>exact λv Q R O rv g3 u3 e3=>o2 v Q R O rv (F.n.comp YS g3) u3 e3
end
structure Xo(n dn en:Str)(st:ig):Prop where
 sc:iO [dn,en] [dn] (aw st)
 bind:∀(kV doc pm:fP) (an:Option g5) (dD ct:fP) (us:List fP),us.length=[dn].length->bindArgs (PySem.W.fnOf n n (bP st) (bb st) (aw st) .none kV doc pm an dD ct) {us,[]}=pure ([dn].zip us)
 body:∃np cp rp xp gp Yp Uz Yx AV pos,bb st=[.Try [.Return (eW (.Call (.Name dn np) [] [] cp)) rp] [.ExceptHandler (eW (.Name (zu 6) xp)) (eW en) [.Return (eW (.Call (.Name (zu 9) gp) [.Name en Yp] [] Uz)) Yx] AV] [] [] pos]
 ld:(aw st).names.lookup dn=eW .local
 le:(aw st).names.lookup en=eW .local
 g1:(aw st).names.lookup (zu 6:Str)=eW .globalImplicit
 g2:(aw st).names.lookup (zu 9:Str)=eW .globalImplicit
 o1:okN dn=e6
 o2:okN en=e6
section
variable{P:hF}{w:hG}{K:zz8}{Γ:Pg}{W:Wd}{F1:Sg->aN}
theorem T1.mono{k:Nat}(t:T1 P w K mg base W F1 Γ j)(h:j<=k):T1 P w K mg base W F1 Γ k:=
 {t.M,λob u f a=>(t.F ob u f a).mono h,λob u q b=>by let(c,fd,d,e,g):=(t.H ob u q b).ex;exact{c,fd,d,e.mono h,g},t.Q,t.A,t.D,t.qt,t.hl,c4 t.k2 h}
abbrev teC(P:hF)(w:hG)(K:zz8)(mg:Str->Option fP)(base:hZ)(k:Nat)(g:XK):TE:=λi H Q=>∃f d,i[0]?=eW (eW (V.ref f))/\(∀h,ft P w H h->PySem.W.FnAt f h)/\GG P w K mg base k f H Q d/\∀e b c,d e b c->(∀a,b=eW a->c a=eX)->g e b c
abbrev teH(W:Wd)(F1:Sg->aN):TE:=λe H Q=>∃a d pv ob G,e[1]?=eW (eW (V.ref a))/\aA G H/\bu (W.at ob) G H/\lX W.K W.mg ob/\Rep (W.at ob) G (.exc d) (.ref a)/\F1 (aC ob) (zu 9) [.exc d]=.ok pv/\∀v b c,aE (W.at ob) G H b c->Rep (W.at ob) b pv v->Q v c
def JJ(KB:K.In base){n dn en:Str}{fa:g5}{fd:FuncData}(T:T1 P w K mg base W F1 Γ j)(c:Γ.qs.contains (zu 9)=e6)(BV:Γ.cs.contains (zu 6)=e6)(St:Xo n dn en st)(Fu:KQ K n n st fa fd):
 fu P w K mg base (dC P w) (j+3) fa fd [dn] (spT P w K mg base (j+2) W F1):=by
 let(oc,od,kV,doc,pm,an,dD,ct,pJ,rfl,lk,mW):=Fu.ex;have hK:W.K=K:=(T.M []).hK;have hM:W.mg=mg:=(T.M []).hm;have m:=T.mono (Nat.le_succ j);refine C8 lk mW St.sc (λp H Q E h=>h.1) λA outer s H p Q E hr h=>?_;let(_,f,RE,rfl,N,hC,hE):=h;have CS:∀ob,lX W.K W.mg ob->fF Γ (F1 (aC ob)) (W.at ob) [dn,en] (aw st) (j+1) E (dG (dC P w) P w K mg base [dn,en] n (aw st) fa dD A outer s H E):=λob u=>wK (outer:=outer) (s:=s) (H:=H) (E:=E) (T.M ob) KB St.sc (m.F ob u) (m.H ob u) (λf N=>{m.k2,m.Q ob u f N}) (λ_=>m.k2) (m.A ob u) (m.D ob u) (λz=>by rw [T.hl] at z;cases z) hr;have C0:=CS [] sE;let(np,cp,rp,xp,gp,Yp,Uz,Yx,AV,pos,eb):=St.body;let(Dc,hm):=C0.C.cls _ (d9.mp BV);rw [eb];refine{_,sS (N5 (Dc:=Dc) (i:=1) (tb:=λE'=>OU (teC P w K mg base (j+2) E')) (ts:=OU (teH W F1)) C0.C.nd rfl St.le rfl rfl St.g1 hm (λpn xe E' hP=>sS (sP ?call)) (λa pn=>sS (sP ?tell))),?fin}
 case call=>intro aa s1 b O Q1 R S;let(f,RE,h0,N,hC,hE):=S;refine wpAny_Call_Name_kw (wpAny_mono (ma (i:=0) rfl (.inl St.ld) (eE St.o1).1 (eE St.o1).2.1 aa s1 b O (λv' U=>v'=.ref f/\U=O) R {_,h0,rfl,rfl}) (λu s2 hu=>?_) λ_ _ y=>y);let(v',U,I,ru,rfl,rfl):=hu;cases ru;refine PySem.W.callWith_F0 (N _ I.aM) ?_;refine hC _ aa b s2 Q1 rfl rfl rfl rfl rfl hr I (λ_ _ z=>z) λe s' x=>?_;let(a,C,t,p,X,B,rfl,F):=x;exact hP aa b _ s2 _ s' I {a,C,t,p,X,B,rfl,{F with ends:=hE _ _ _ F.ends λa' e=>by cases e;exact F.fresh}}
 case tell=>intro o s1 b O Q1 R S;let(ad,d,pv,ob,G,S,sg,tb,u,rp,L,h3):=S;have C1:=CS ob u;let(k2,(fb,fd2,pn2,FO,HV,hk2,QO,hal)):=C1.C.Wi _ c;refine wpAny_Call_Name_kw (dX R St.g2 HV ?_ ↑1);refine PySem.W.callWith_K (h₀:=base) R.ok.mod.Ii hk2 (bL ((bQ (ma (i:=1) rfl (.inl St.le) (eE St.o2).1 (eE St.o2).2.1) dA rfl) Uz o s1 b O (λp U=>p=[.ref ad]/\U=O) R {.ref ad,S,rfl,rfl}) λus s2 ⟨p,U,I,r,q1,q2⟩=>{I.j2,?_}) rfl rfl;subst q1 q2;refine kF (W:=W.at ob) (k:=2) (q:=eX) (as:=[.exc d]) (G:=G) {λz=>absurd z ↑2,(hr.mono (Nat.le_succ_of_le k2)).dp,(hr.mono (Nat.le_succ_of_le k2)).un} FO QO (λz=>hal _ z) I sg tb (show ah (W.at ob) _ [.exc d] [V.ref ad] from .cons rp .nil) r ?_;rw [L];exact h3
 case fin=>
  refine{f,RE,rfl,N,hC,λCv ao X y fr=>?_};let(d,C,a,ob,G,rfl,rfl,Y,Z,sg,tb,u,c):=hE _ _ _ y;have ha:X a=eX:=fr a rfl;refine{a,C,rfl,rfl,C0.Pe BV d C Y (by rw [<-hM];exact Z) Dc hm,λσ' hl=>?_};have gn:aE (W.at ob) G X (upd G a (mQ a C)) (upd X a (mQ a C)):=.new sg ha
  cases L:F1 (aC ob) (zu 9) [.exc d] with
  |exc _=>rw [L] at c;exact c.elim|bad=>rw [L] at c;exact c.elim|ok pv=>
   rw [L] at c;refine{a,d,pv,ob,upd G a (mQ a C),?_,gn.sub,gn.tab tb,u,?_,L,λv G' jr g r=>c v G' jr (gn.trans g) r}
   .exact ed (by rw [hl];exact(by decide:1<2))
   .simp! [Rep];exact⟨a,C,rfl,Y,Z,aq⟩
variable{Z:kr}
mutual
theorem Rep.less(f:∀b o,Z.lookup b=eW o->G b=eW (.bR o cX)):∀(p:PV) {v:V},Rep W G p v->Rep W (cD Z G) p v
 |.aP,_,h=>by simpa only [Rep] using h|.bl b,_,h=>by simpa only [Rep] using h|.int i,_,h=>by simpa only [Rep] using h|.str z,_,h=>by simpa only [Rep] using h|.tup xs,_,h=>by
  simp! [Rep] at h⊢;let(a,vs,e,q,l):=h
  refine{a,vs,e,?_,ah.less f xs l};rcases q with q|⟨(q|⟨o,q⟩)|q,z⟩
  .cases y:Z.lookup a with
   |none=>exact .inl (by rw [aH y];exact q)|some d=>rw [f a d y] at q;cases q
  .cases y:Z.lookup a with
   |none=>exact .inl (by rw [aH y];exact q)|some d=>rw [f a d y] at q;cases q
  .cases y:Z.lookup a with
   |none=>exact .inr {.inl (.inr {o,by rw [aH y];exact q}),z}|some d=>rw [f a d y] at q;cases q
  .exact .inr {.inr q,z}
 |.lst xs,_,h=>by
  simp! [Rep] at h⊢;let(a,vs,e,q,l):=h
  refine{a,vs,e,?_,ah.less f xs l};rcases q with(q|⟨o,q⟩)|q
  .cases y:Z.lookup a with
   |none=>exact .inl (.inl (by rw [aH y];exact q))|some d=>rw [f a d y] at q;cases q
  .cases y:Z.lookup a with
   |none=>exact .inl (.inr {o,by rw [aH y];exact q})|some d=>rw [f a d y] at q;cases q
  .exact .inr q
 |.exc c,_,h=>by
  simp! [Rep] at h⊢;let(a,C,e,x,m,q):=h
  cases y:Z.lookup a with
  |none=>exact{a,C,e,x,m,by rw [aH y];exact q}|some d=>rw [f a d y] at q;unfold mQ at q;cases q
 |.cy j vs,_,h=>by
  simp! [Rep] at h⊢;let(a,o,g,e,n,m,l):=h
  refine{a,o,g,e,n,?_,ah.less f vs l};cases y:Z.lookup a with
  |none=>rw [aH y];exact m|some d=>rw [f a d y] at m;cases m
 |.obj n,_,h=>by simpa only [Rep] using h
theorem ah.less(a:∀b o,Z.lookup b=eW o->G b=eW (.bR o cX)):∀(ps:List PV) {vs:List V},ah W G ps vs->ah W (cD Z G) ps vs
 |[],_,h=>by simpa only [ah] using h|p::ps,_,h=>by simp! [ah] at h⊢;let(v,r,e,c,d):=h;exact{v,r,e,Rep.less a p c,ah.less a ps d}
end
theorem Jq(a:aA G H)(c:∀b o,Z.lookup b=eW o->H b=eX):aA G (aQ Z G):=λb u e=>by
 cases y:Z.lookup b with
 |none=>rw [ax y];exact e|some o=>have:=a _ _ e;rw [c b o y] at this;cases this
theorem BF(t:ko W G H)(h:aA G H)(f:∀b o,Z.lookup b=eW o->G b=eW (.bR o cX))(i:∀b o,Z.lookup b=eW o->∃v,o.data=.cell v):ko W (cD Z G) (cD Z H):=λP q m=>by
 let(n,j,e,k,p):=t P q m;refine{j5 n,j,?_,k,λc r y=>?_}
 .cases y:Z.lookup P with
  |none=>rw [aH y];exact e|some o=>rw [h _ _ (f P o y)] at e;cases e
 .let(a,oc,s,u,z,d,e3,A):=p c r y
  refine{a,oc,s,u,z,?_,e3,A};cases y:Z.lookup a with
  |none=>rw [aH y];exact d|some o=>rw [f a o y] at d;cases d;let(v,g):=i a _ y;rw [e3] at g;cases g
theorem qZ(t:ko W G H)(g:aA G H)(a:∀b o,Z.lookup b=eW o->H b=eX):ko W (aQ Z G) (aQ Z H):=λP q m=>by
 let(n,h,e,i,j):=t P q m;refine{?_,h,?_,i,λc k y=>?_}
 .cases y:Z.lookup P with
  |none=>rw [ax y];exact n|some o=>rw [a P o y] at e;cases e
 .cases y:Z.lookup P with
  |none=>rw [ax y];exact e|some o=>rw [a P o y] at e;cases e
 .let(d,oc,p,r,s,f,e3,u):=j c k y
  refine{d,oc,p,r,s,?_,e3,u};cases y:Z.lookup d with
  |none=>rw [ax y];exact f|some o=>have:=g _ _ f;rw [a d o y] at this;cases this
def FN(t:bu W G H)(d:aA G H)(c:∀b o,Z.lookup b=eW o->H b=eX):bu W (aQ Z G) (aQ Z H):={qZ t.t d c,λi o m=>by
 let(f,g,e,l):=t.o i o m
 have y:Z.lookup o.a=eX:=by
  cases y:Z.lookup o.a with
  |none=>rfl|some u=>rw [c _ u y] at e;cases e
 exact{by rw [ax y];exact f,g,by rw [ax y];exact e,ah.same (Jq d c) _ l}}
theorem aE.lz{d f:Hp}(g:aE W (aQ Z G) (aQ Z H) d f)(i:aA G H)(j:∀b o,Z.lookup b=eW o->∃v,o.data=.cell v)(c:∀b o,Z.lookup b=eW o->H b=eX):aE W G H (cD Z d) (cD Z f) where
 g:=λb u e=>by
  cases y:Z.lookup b with
  |none=>rw [aH y];exact g.g _ _ (by rw [ax y];exact e)|some o=>have:=i _ _ e;rw [c b o y] at this;cases this
 h:=λb u e=>by
  cases y:Z.lookup b with
  |none=>rw [aH y];exact g.h _ _ (by rw [ax y];exact e)|some o=>rw [c b o y] at e;cases e
 sub:=λb u e=>by let(q,k):=j6 e;rw [aH q];exact g.sub _ _ k
 own:=λa m p r=>by
  cases y:Z.lookup a with
  |none=>rw [aH y];exact g.own a (by rw [ax y];exact m) (by rw [ax y];exact p) (by rw [ax y];exact r)|some o=>exact iD y
 tb:=λt=>BF (g.tb (qZ t i c)) g.sub (λb o q=>g.g _ _ (bw q)) j
def Bw(a:aA G H):aA (aQ Z G) (aQ Z H):=λb u e=>by
 cases y:Z.lookup b with
 |none=>rw [ax y] at e⊢;exact a _ _ e|some o=>rw [bw y] at e⊢;exact e
def mB(a:∀b o,Z.lookup b=eW o->H b=eX):cD Z (aQ Z H)=H:=by
 funext b
 cases y:Z.lookup b with
 |none=>rw [aH y,ax y]|some o=>rw [iD y,a b o y]
theorem DK{P:hF}{w:hG}(k:ft P w H h)(a:∀b o,Z.lookup b=eW o->H b=eW (.bR o cX)):ft P w (cD Z H) h:=λb v e=>by
 let(q,d):=j6 e;refine(k b v d).fT (λc y Y r=>r) (λc r=>?_) λc xs r=>?_
 .cases y:Z.lookup c with
  |none=>rw [aH y];exact r|some o=>rw [a c o y] at r;cases r
 .cases y:Z.lookup c with
  |none=>rw [aH y];exact r|some o=>rw [a c o y] at r;cases r
def AH{P:hF}{w:hG}{K:zz8}{s:gC}(e:jm P w K mg base A outer s H)(a:∀b o,Z.lookup b=eW o->H b=eW (.bR o cX)):jm P w K mg base A outer s (cD Z H):=
 {e.frames,e.mod,λb o q=>{(e.bs b o q).1,j5 (e.bs b o q).2},e.wF,e.hJ,λb c=>j5 (e.wW b c),DK e.aM a,e.bare}
def Ov{ps:List Str}{a:hX}(h:Wu ps a=e6):ua ps (bz a) a:=by unfold Wu at h;simp! [zza,zzy,Bool.not_eq_true',zzN,cZ] at h;let((((((b,c),d),e),f),g),i):=h;refine{b,c,d,e,f,g,i,λx j=>?_};unfold bz;rw [List.mem_reverse,er];exact{(x,.free),List.mem_filter.mpr {PySem.mem_of_lookup j,rfl},rfl}
def GZ{b:Arguments}{ps:List Str}{c:hX}{d e ct:fP}(h:uh b=eW ps)(us:List fP)(hl:us.length=ps.length):bindArgs (PySem.W.kla_fn (zu 16) qual b body c cl d e ct) {us,[]}=pure (ps.zip us):=by
 rcases yj h with⟨rfl,rfl⟩|⟨a,rfl,rfl⟩
 .match us,hl with
  |[],_=>rfl
 .match us,hl with
  |[u],_=>simp [bindArgs,seqItems?,PySem.W.kla_fn];rfl
def Hh{b:Arguments}{ps:List Str}{env:Env}(h:uh b=eW ps):defaultsOf b env=([],[]):=by
 rcases yj h with⟨rfl,rfl⟩|⟨a,rfl,rfl⟩
 .rfl
 .rfl
end
def JD{W:Wd}{as:List PV}(d:aA G H)(tb:bu W G H)(l:ah W G as vs):SR W H (as.map .val) (vs.map eW) G H:=by
 refine{by rw [zzl,zzl];exact l.length.symm,d,jb.refl _,λi s e=>?_,λi j p q a b Z Z Z=>?_,tb,tb}
 .rw [cz] at e;let(p,c,rfl):=bM.mp e;let(v,f,rv):=l.rV c;exact{eW v,by rw [cz,f];rfl,v,rfl,rv}
 .rw [cz] at b;let(p,c,e):=bM.mp b;cases e
section
variable{Γ:Pg}{W:Wd}{F:aN}{sc:hX}{k:Nat}
def yf(X:Cx)(W:Wd)(a:Arguments)(body:hB)(b:hX)(cl:List (Str×g5))(e H1 G2 g:Hp)(f:g5):Prop:=aE W e H1 G2 g/\∃c oc d t h i,G2 f=eW (.bR (PySem.W.kla_obj (zu 16) (X.env.qual++(zu 16)) a body b cl i c h) cX)/\G2 c=eW (.bR oc cX)/\oc.data=.fields d/\d[1]?=eW (.str (X.env.qual++(zu 16)) t)
def NU(C:zv4 X)(hl:Γ.hl=e6){d:Arguments}{ps:List Str}{g:hX}(hp:uh d=eW ps)(qL:closureFor g X.env=pure cl):
 PE X (.Lambda d body g pos) (λσ H Q=>∃G,aA G H/\bu W G H/\∀f G2 H2,yf X W d body g cl G H G2 H2 f->Q (.ref f) H2):=by
 intro aa s σ H Q I h;let(G,O,tb,q):=h;let(c,P,yG,CH,Z,huq):=C.tb hl;let(nG,pB,hP,tr,al):=tb.t P _ Z;refine L2.Eb (R:=λi oc=>G i=eW (.bR oc cX)) I hP tr yG CH (C.bm hl) qL (Hh hp) (λD e=>?_) λf i oc S t tW tY h' tk T U Ph ZQ ZM hd hv tr' Zf more I'=>?_
 .let(i,oc,S,t,E,r,e3,K):=al pos D e;exact{i,oc,S,t,E,O _ _ r,r,e3,K}
 .have Zy:G f=eX:=O.free T
  have Zx:G i=eX\/G i=eW (.bR oc cX):=by
   rcases U with z|z
   .exact .inl (O.free z)
   .exact .inr z.2
  have fo:∀fo,iC H P tY i oc f fo f=eW (.bR fo cX):=λfo=>by unfold iC;rw [aq]
  have sG:∀fo,aA G (upd (upd G i (.bR oc cX)) f (.bR fo cX)):=λfo b u e=>by
   have A:b≠f:=λz=>by rw [z,Zy] at e;cases e
   rw [ai A];by_cases w:b=i
   .subst w;rw [aq];rcases Zx with z|z
    .rw [z] at e;cases e
    .rw [z] at e;exact e
   .rw [ai w];exact e
  have Wf:∀fo a,H a≠eX->(∀vs,H a≠eW (.tup vs))->G a=eX->(upd (upd G i (.bR oc cX)) f (.bR fo cX)) a=eX:=λfo a h1 _ h2=>by
   have ZJ:a≠f:=λz=>h1 (by rw [z];exact T);rw [ai ZJ];by_cases ha:a=i
   .subst ha;rcases U with z|z
    .exact absurd z h1
    .rw [z.2] at h2;cases h2
   .rw [ai ha];exact h2
  refine{.ref f,_,I',rfl,q f (upd (upd G i (.bR oc cX)) f (.bR _ cX)) _ {{sG _,λb u e=>?_,λb u e=>?_,Wf _,λ_ V q' m=>?_},i,oc,S,t,tW,(X.mg (zu 40)).getD .none,aq,by rw [ai Ph,aq],hd,hv}}
  .have A:b≠f:=λz=>by rw [z,T] at e;cases e
   by_cases Y:b=P
   .subst Y;rw [hP] at e;cases e;let(m,rfl):=more;exact .inr {pB,m,rfl,by unfold iC;rw [ai (Ne.symm ZQ),ai (Ne.symm ZM),aq]}
   .have r:iC H P tY i oc f (PySem.W.kla_obj (zu 16) (X.env.qual++(zu 16)) d body g cl ((X.mg (zu 40)).getD .none) i tW) b=H b:=by
     unfold iC;rw [ai A];by_cases w:b=i
     .subst w;rw [aq];rcases U with z|z
      .rw [z] at e;cases e
      .rw [z.1]
     .rw [ai w,ai Y]
    rw [r];exact jb.refl H b u e
  .by_cases A:b=f
   .subst A;rw [aq] at e;rw [fo];exact e
   .rw [ai A] at e;unfold iC;rw [ai A];by_cases w:b=i
    .subst w;rw [aq] at e⊢;exact e
    .rw [ai w] at e⊢;have Y:b≠P:=λz=>by rw [z,nG] at e;cases e
     rw [ai Y];exact O _ _ e
  .let(n1,qs,p,tr1,L):=tb.t V q' m;have Vh:V≠f:=λz=>by rw [z,T] at p;cases p
   have iU:V≠i:=λz=>by
    rcases U with y|y
    .rw [z,y] at p;cases p
    .rw [z,y.1] at p;cases p
   refine{by rw [ai Vh,ai iU];exact n1,?_};by_cases M:V=P
   .subst M;rw [hP] at p;cases p;refine{tY,by unfold iC;rw [ai Vh,ai iU,aq],tr',λj D y=>?_}
    rcases Zf j D y with y|y
    .let(c2,B,o,t2,E,r,e3,K):=L j D y;exact{c2,B,o,t2,E,sG _ _ _ r,e3,K}
    .exact{i,oc,S,t,y,by rw [ai Ph,aq],hd,by rw [huq q' m];exact hv}
   .refine{qs,by unfold iC;rw [ai Vh,ai iU,ai M];exact p,tr1,λj D y=>?_};let(c2,B,o,t2,E,r,e3,K):=L j D y;exact{c2,B,o,t2,E,sG _ _ _ r,e3,K}
end
def lookup_all{Z:kr}(a:∀q∈Z,h.get? q.1=eW q.2):∀{c:g5} {o:Obj},(c,o)∈Z->Z.lookup c=eW o:=by
 induction Z with
 |nil=>intro c o m;cases m
 |cons q Z d=>
  intro c o m;let(c1,o1):=q
  rw [ez];cases e:c==c1 with
  |true=>have f:=zzy.mp e;subst f;have g:=a (c,o1) b4;have b:h.get? c=eW o:=a (c,o) m;rw [g] at b;exact b|false=>
   rcases d8.mp m with z|z
   .cases z;simp at e
   .exact d (λq i=>a q (bI _ i)) z
section
variable{W:Wd}{F1:Sg->aN}{F2:gB}{Γ:Pg}{Δ:kn}
theorem yv{d:St}(sr:SR W H0 env d G H):∀{a:List Nat} {b:Sl},rG a env=.ok b->∃(cs:List PV) (ws:List V),b=cs.map .val/\ah W G cs ws/\ws.length=a.length/\∀(j:Nat) (i:Nat),a[j]?=eW i->∃v,ws[j]?=eW v/\d[i]?=eW (eW v)
 |[],b,h=>by unfold rG at h;cases h;exact{[],[],rfl,.nil,rfl,λj i e=>by simp at e}
 |i::a,b,h=>by
  unfold rG at h;let(p,c,h):=Res.aJ h;let(t,f,h):=Res.aJ h
  cases h;have hs:env[i]?=eW (.val p):=by
   cases e:env[i]? with
   |none=>rw [e] at c;cases c
   |some s=>rw [e] at c;cases s<;>cases c;rfl
  let(o,g,v,rfl,rv):=sr.slot i _ hs;let(cs,ws,rfl,m,q,r):=yv sr f;refine{p::cs,v::ws,rfl,.cons rv m,by simp [q],λj k e=>?_}
  cases j with
  |zero=>simp at e;subst e;exact⟨v,rfl,g⟩|succ j=>simpa using r j k (zx6 e)
theorem nV(c:Str):∀{a:List Nat},rG a env≠.exc c
 |[]=>nofun|i::a=>λz=>by
  unfold rG at z;rcases Res.ee z with z|⟨p,_,z⟩
  .cases e:env[i]? with
   |none=>rw [e] at z;cases z
   |some s=>rw [e] at z;cases s<;>cases z
  .rcases Res.ee z with z|⟨ps,_,z⟩
   .exact nV c z
   .cases z
theorem JQ(cs:List PV):(cs.map Slot.val).any Slot.cg=fx:=rn λs m=>by let(p,_,rfl):=er.mp m;rfl
def G9{P:hF}{w:hG}{K:zz8}{x:X2}{B:Arguments}{k:hX}{pm tW:fP}{g O:g5}{oc:Obj}{iQ:Array fP}{t:Tok}{Z:kr}{ob:List Ob}{cs:List PV}{ws:List V}{Qo:VK}{RE:XK}
 (T:T1 P w K mg base W F1 Γ j) (M:JV P w K mg base W F2 Δ j) (U:Δ.cs=[]/\Δ.td=[]) (hp:uh B=eW []) (S:ua [] (bz k) k) (u:lX W.K W.mg ob) (sg:aA G H) (tb:bu (W.at ob) G H) (rws:ah (W.at ob) G cs ws) (Tr:ws.length=(bz k).length)
 (fo:H g=eW (.bR (PySem.W.kla_obj (zu 16) qual B body k cl pm O tW) cX)) (co:H O=eW (.bR oc cX)) (cd:oc.data=.fields iQ) (cn:iQ[1]?=eW (.str qual t)) (O2:∀b o,Z.lookup b=eW o->H b=eX) (inj:∀x y c,cl.lookup x=eW c->cl.lookup y=eW c->x=y) (has:∀y∈bz k,∃c,cl.lookup y=eW c)
 (cells:∀x c,cl.lookup x=eW c->∃o v,Z.lookup c=eW o/\o.data=.cell v) (vals:∀(i:Nat) y c,(bz k)[i]?=eW y->cl.lookup y=eW c->∀v,ws[i]?=eW v->∃u o,RelV v u/\Z.lookup c=eW o/\o.data=.cell (eW u))
 (he:∀(N:XK) (Y:Cx),ib Γ Δ F1 F2 W (bz k) k j N Y->G2 Y W F1 F2 ob G H N x body)
 (uS:bF F1 F2 x (cs.map .val) (aC ob)≠.bad) (aM:∀p s',bF F1 F2 x (cs.map .val) (aC ob)=.ok p s'->∀v R G' L,fZ W ob G H R G' L->lX W.K W.mg R->aC R=s'->Rep (W.at R) G' p v->Qo v L)
 (ZC:∀d s',bF F1 F2 x (cs.map .val) (aC ob)=.exc d s'->∀Cv ao L,(∀b o,Z.lookup b=eW o->L b=eX)->Gm W d s' ob G H Cv ao L->RE Cv ao (aQ Z L)):GG P w K mg base (j+2) g (aQ Z H) (λv L=>Qo v (cD Z L)) RE:=by
 intro X aa σ s Q hP hw hKK hmg dq hr I hQ hx;subst hP hw hKK hmg dq;have nz:∀b v,H b=eW v->Z.lookup b=eX:=λb v e=>by
  cases y:Z.lookup b with
  |none=>rfl|some o=>rw [O2 b o y] at e;cases e
 have Zm:cD Z (aQ Z H)=H:=mB O2;have SS:z8 Z H (fv X.stack) s.heap:={λb o q=>(I.aM b _ (bw q)).1,O2,λb o q hb=>by have:=I.nE b hb;rw [bw q] at this;cases this};have e0:jm X.prog X.w X.K X.mg X.base X.A X.stack s H:=by have:=AH (Z:=Z) I.uJ (λb o q=>bw q);rw [Zm] at this;exact this
 let N:XK:=λC a L=>(∀b o,Z.lookup b=eW o->L b=eX)->RE C a (aQ Z L);have hK:W.K=X.K:=(T.M []).hK;have hM:W.mg=X.mg:=(T.M []).hm
 have CL:ib Γ Δ F1 F2 W (bz k) k j N (Pb X.prog X.w X.K X.mg X.base ([]++bz k) qual k g (.ref O) cl X.A X.stack s H N):={
  C:=λob u=>{rfl,rfl,λz=>Option.isNone_iff_eq_none.mpr (hr.hd (by have:=T.k2;lia)),S.nd,(T.M ob).hK,(T.M ob).hm,(T.M ob).gs,(T.M ob).bs,hr.deeper _,λg hg=>{(T.F ob u g hg).ex},(T.M ob).Nr,(T.M ob).cls,(T.M ob).xc,λq hq=>{(T.H ob u q hq).ex},λf hf=>{T.k2,{(T.Q ob u f hf).ex}},T.A ob u,(T.D ob u).fld,(T.D ob u).con,(λz=>by rw [T.hl] at z;cases z),(λz=>by rw [T.hl] at z;cases z),(λz=>by rw [T.hl] at z;cases z)}
  pass:=RS
  qt:=T.qt
  K:=hK
  mg:=hM
  vZ:=λf h=>by rw [U.1] at h;cases h
  met:=λc m h=>by let(C,fa,h1,h2,h3):=M.met c m h;exact{C,fa,h1,h2,⟨h3.ex⟩}
  new:=λc h=>by let(C,fa,j,h1,h2,h3,h4,h5):=M.new c h;exact{C,fa,j,h1,h2,h3,h4,⟨h5.ex⟩}
  fl:=M.fl
  td:=λf h=>by rw [U.2] at h;cases h}
 have DF:=(I.aM g _ (show aQ Z H g=eW (.bR (PySem.W.kla_obj (zu 16) qual B body k cl pm O tW) cX) by rw [ax (nz _ _ fo)];exact fo)).1;have Va:=(I.aM O _ (show aQ Z H O=eW (.bR oc cX) by rw [ax (nz _ _ co)];exact co)).1;refine wpAny_call (codeAny_mono (L2.Ij (us:=[]) (E:=RE) (Q:=Q) (Z:=Z) (ws:=ws) (vs:=[]) (t:=t2 W F1 F2 ob G H N x) S hr e0 SS ?zb DF Va cd cn (GZ hp [] rfl) .nil rfl Tr has inj cells ?cells (he N _ CL) ?hq) λrr s' MO=>?end_)
 case zb=>
  intro b o q;cases y:X.base.get? b with
  |none=>rfl|some o'=>have:=(I.bs b o' y).2;rw [bw q] at this;cases this
 case cells=>intro i y c h1 h2 v h3;let(u,o',q1,q2,q3):=vals i y c h1 h2 v h3;exact{u,q1,o',SS.at_ c o' q2,q3}
 case hq=>
  refine{ob,H,G,cs.map .val,aC ob,{JD sg tb rws,u,.refl,rfl,JQ cs},?_};cases r:bF F1 F2 x (cs.map .val) (aC ob) with
  |bad=>exact absurd r uS|exc d s1=>exact λCv ao L y zn=>ZC d s1 r Cv ao L zn y|ok p s1=>intro v R dE G' L t' g' rp zn;refine hQ _ _ ?_;show Qo v (cD Z (aQ Z L));rw [mB zn];exact aM p s1 r v R G' L g' t'.u t'.s rp
 case end_=>
  cases rr with
  |error e=>exact hx e s' MO|ok fl=>
   cases fl with
   |ret u=>exact I.after MO|next=>exact d6 MO|brk=>exact d6 MO|cont=>exact d6 MO
variable{sc:hX}{k:Nat}{E:XK}{obe:List Ob}{Ge He:Hp}
def LY(S:zv2 X){bf:List Nat}{x:X2}{F:Arguments}{D:hX}{Rv:Pos}(hf:Δ.td.contains f=e6)(hl:Γ.hl=e6)(hg:gj sc f=e6)(ho:okN f=e6)(hp:uh F=eW [])(HS:bf.map (λi=>N[i]?)=(bz D).map eW)(mV:∀y∈bz D,sc.names.lookup y=eW .cell)(fX:ua [] (bz D) D)
 (he:∀(j:Nat) (obe:List Ob) (Ge He:Hp) (E':XK) (Y:Cx),ib Γ.zi Δ.Rj F1 F2 W (bz D) D j E' Y->G2 Y W F1 F2 obe Ge He E' x body):G2 X W F1 F2 obe Ge He E (.FQ f bf x) (.Call (.Name f np) [.Lambda F body D Rv] [] pos):=by
 intro aa sh σ dE Q I h;let(ob0,H0,G0,env,s0,FD,o):=h;have e0:=FD.s;subst e0;have SC:=S.C ob0 FD.u;let(fa,j,fd,y0,hm,hk,hj,FO,hb,T,M):=S.td f hf hl;have qL:closureFor D X.env=pure (cA X.env (bz D)):=nW λy R Gr=>I.ok.has y.1 (.inl (by show X.env.scope.names.lookup y.1=_;rw [SC.fX];refine mV y.1 ?_;unfold bz;rw [List.mem_reverse,er];exact{y,List.mem_filter.mpr {R,by rw [Gr];rfl},rfl}));refine wpAny_Call_Name_kw (dX I (dm SC hg) hm ?_ (eE ho).1);refine PySem.W.callWith_K (h₀:=X.base) I.ok.mod.Ii hk (bL ((bQ (NU SC hl hp qL) dA rfl) pos aa sh σ dE (λvs H2=>∃G2 g,vs=[.ref g]/\yf X (W.at ob0) F body D (cA X.env (bz D)) G0 dE G2 H2 g) I {G0,FD.sr.sub,FD.sr.tab,λg G2 H2 m=>⟨G2,g,rfl,m⟩}) λus s ⟨vs,H,I,r,q⟩=>{I.j2,?_}) rfl rfl;let(G,g,rfl,gm,c',oc,iQ,t,tW,pm,fo,co,cd,cn):=q;have st:=FD.grow gm;generalize ob0=ob at *
 have sr:=st.sr
 unfold bF at o;cases P:rG bf env with
 |bad=>rw [P] at o;exact o.elim|exc c=>exact absurd P (nV c)|ok au=>
 rw [P] at o;let(cs,ws,rfl,rws,Tr,pws):=yv sr P;simp! [Rs.of,Rs.bind] at o;have oy:∀y∈bz D,∃c,X.env.cells.lookup y=eW c:=λy R=>I.ok.has y (.inl (by show X.env.scope.names.lookup y=_;rw [SC.fX];exact mV y R));have call:((bz D).all λy=>(X.env.cells.lookup y).isSome)=e6:=cZ.mpr λy R=>by let(c,e):=oy y R;rw [e];rfl
 let Z:kr:=(bz D).filterMap λy=>(X.env.cells.lookup y).bind λc=>(s.heap.get? c).map λo=>(c,o);have SQ:∀q∈Z,∃y,y∈bz D/\X.env.cells.lookup y=eW q.1/\s.heap.get? q.1=eW q.2:=λq hq=>by let(y,R,e):=et.mp hq;let(c,hc,e):=dr.mp e;let(o,ho,rfl):=bM.mp e;exact⟨y,R,hc,ho⟩
 have WT:∀q∈Z,s.heap.get? q.1=eW q.2:=λq hq=>let⟨_,_,_,h⟩:=SQ q hq;h;have Y0:∀y c o,y∈bz D->X.env.cells.lookup y=eW c->s.heap.get? c=eW o->Z.lookup c=eW o:=λy c o R hc ho=>lookup_all WT (et.mpr {y,R,by rw [hc];show(s.heap.get? c).map _=_;rw [ho];rfl});have SO:∀b o,Z.lookup b=eW o->∃y,y∈bz D/\X.env.cells.lookup y=eW b/\s.heap.get? b=eW o:=λb o e=>by let(y,U,O,h3):=SQ (b,o) (PySem.W.mem_of_lookupK e);exact⟨y,U,O,h3⟩
 have zc:∀b o,Z.lookup b=eW o->∃v,o.data=.cell v:=λb o e=>by let(y,_,O,h3):=SO b o e;let(v,o',h4,h5):=I.cell y b O;rw [h3] at h4;cases h4;exact⟨v,h5⟩
 have O2:∀b o,Z.lookup b=eW o->H b=eX:=λb o e=>by let(y,_,O,_):=SO b o e;exact I.fz y b O
 have Qp:∀x c,(cA X.env (bz D)).lookup x=eW c->X.env.cells.lookup x=eW c:=fy call;have Ux:∀x c,(cA X.env (bz D)).lookup x=eW c->x∈bz D:=λx c e=>by have:=PySem.mem_of_lookup e;unfold cA at this;let(y,R,e2):=er.mp this;cases e2;exact R
 have YZ:∀b o,Z.lookup b=eW o->X.s₀.heap.objs.size<=b:=λb o e=>by let(y,_,O,_):=SO b o e;exact I.ok.Ld y b (SC.fl hl y) O
 have SS:z8 Z H (fv X.stack) s.heap:={λb o e=>let⟨_,_,_,h⟩:=SO b o e;h,O2,λb o e UY=>by
  let(y,_,O,h3):=SO b o e
  rcases d8.mp (I.mi b UY) with z|z
  .exact I.BQ y b O z
  .let(_,o',h4,_):=I.ok.hJ.mem z;exact absurd (bX h4) (Nat.not_lt.mpr (YZ b o e))}
 have zb:∀b o,Z.lookup b=eW o->X.base.get? b=eX:=λb o e=>by
  cases y:X.base.get? b with
  |none=>rfl|some o'=>exact absurd (bX (I.ok.bs b o' y).1) (Nat.not_lt.mpr (YZ b o e))
 have ZW:(bz D).length=bf.length:=by have:=congrArg List.length HS;simpa using this.symm
 have nz:∀b v,H b=eW v->Z.lookup b=eX:=λb v e=>by
  cases y:Z.lookup b with
  |none=>rfl|some o=>rw [O2 b o y] at e;cases e
 have UJ:=sr.sub _ _ fo;have Zk:=sr.sub _ _ co;have AR:=hb s us I.j2 (by rw [eA];exact r.length.symm);rw [eA] at AR;let RE:XK:=λCv ao L=>∃d s' H1,bF F1 F2 x (cs.map .val) (aC ob)=.exc d s'/\L=aQ Z H1/\(∀b o,Z.lookup b=eW o->H1 b=eX)/\Gm W d s' ob G H Cv ao H1
 have UZ:GG X.prog X.w X.K X.mg X.base (j+2) g (aQ Z H) (λv L=>Q v (cD Z L)) RE:=by
  refine G9 T M ⟨rfl,rfl⟩ hp fX st.u sr.sub sr.tab rws (by rw [Tr,ZW]) UJ Zk cd cn O2 (λx y c U O=>I.ok.inj x y c (Qp x c U) (Qp y c O)) (λy R=>kG R) (λx c h=>?_) (λi y c U O v h3=>?_) (λE' Y CY=>he j ob G H E' Y CY) (λz=>by rw [z] at o;exact o) (λp s' e v V G' L g' u' es rp=>?_) λd s' e Cv ao L zn y=>⟨d,s',L,e,rfl,zn,y⟩
  .let(v,o,U,O):=I.cell x c (Qp x c h);exact{o,v,Y0 x c o (Ux x c h) (Qp x c h) U,O}
  .have hi:i<bf.length:=by rw [<-Tr];exact(bD.mp h3).1
   let(v',q1,q2):=pws i bf[i] (zzg hi);rw [h3] at q1;cases q1;have ZA:X.N[bf[i]]?=eW y:=by rw [SC.hN];have:=congrArg (λl=>l[i]?) HS;simp! [cz,U,zzg hi,Option.map_some] at this;exact zzq this
   let(m,_,MJ):=I.loc;let(u,ru,lk):=MJ bf[i] y v ZA q2 (.inr (.inl (by rw [SC.fX];exact mV y (a6 U))));have QU:=Qp y c O
   rcases lk with⟨z,_⟩|⟨_,c2,pT,o,ho,hd⟩
   .have z2:X.env.scope.names.lookup y=eW .local:=z;rw [SC.fX,mV y (a6 U)] at z2;cases z2
   .rw [QU] at pT;cases pT;exact{u,o,ru,Y0 y c o (a6 U) QU ho,hd}
  .rw [e] at o;exact o v V L G' L (st.on g' u' es) (gm.lU.trans g') rp
 have Vg:∀Cv ao L,RE Cv ao L->∃d C a V G',Cv=.ref C/\ao=eW a/\d∈W.xs/\W.mg d=eW (.ref C)/\aA G' L/\bu (W.at V) G' L/\lX W.K W.mg V/\(match F1 (aC V) (zu 9) [.exc d] with
  |.ok p=>∀v G3 H3,aE (W.at V) G' L G3 H3->Rep (W.at V) G3 p v->Q v (cD Z H3)|_=>False):=by
  rintro Cv ao L ⟨d,s',H1,e,rfl,zn,C,a,V,G1,rfl,rfl,hd1,hd2,gr,u',es⟩
  refine{d,C,a,V,aQ Z G1,rfl,rfl,hd1,hd2,Bw gr.sub,FN (gr.tab sr.tab) gr.sub zn,u',?_};rw [e] at o;dsimp only at o;rw [es];cases hv:F1 s' (zu 9) [.exc d] with
  |exc _=>rw [hv] at o;exact o.elim|bad=>rw [hv] at o;exact o.elim|ok p=>rw [hv] at o;intro v G3 H3 g3 rp;have gl:=g3.lz gr.sub zc zn;have g4:=gr.trans gl.lU;exact o v V _ _ _ (st.on g4 u' es) (gm.lU.trans g4) (Rep.less (λb o q=>g3.g _ _ (bw q)) p rp)
 refine wpAny_call (codeAny_mono (FO.run X.A X.stack s (aQ Z H) {us,[]} us [.ref g] (λv L=>Q v (cD Z L)) (λ_ _ _=>False) (SC.room.mono (by lia)) (I.uJ.aQ SS zb) AR r {rfl,g,RE,rfl,λh k=>?_,UZ,Vg}) λrr s' hr=>?_)
 .have:=(k g _ (show aQ Z H g=eW (.bR (PySem.W.kla_obj (zu 16) (X.env.qual++(zu 16)) F body D (cA X.env (bz D)) pm c' tW) cX) by rw [ax (nz _ _ UJ)];exact UJ)).1;exact{_,_,_,_,this}
 .cases rr with
  |error e=>have hr:dC X.prog X.w X.stack (aQ Z H) s (λ_ _ _=>False) e s':=hr;let(a,C',t,vs,L,B,rfl,Fl):=hr;exact Fl.ends.elim|ok fl=>
   cases fl with
   |ret u=>exact I.after (CE.less SS hr)|next=>exact d6 hr|brk=>exact d6 hr|cont=>exact d6 hr
end
abbrev Iv:hB->Bool
 |.Starred .. =>fx|_=>e6
def kZ(h:Iv p=e6)(env:Env)(ps:List hB):starEach (p::ps) env=(fx,eval p env)::starEach ps env:=by
 cases p<;>first|rfl|exact aO h
mutual
noncomputable def ij(Γ:Pg)(d:kn)(N:List Str)(sc:hX):X2->hB->Bool
 |.pu e,p=>eR e&&aI Γ N sc e p|.vZ f as,p=>(v5 p).any λq=>f==q.1&&(d.cs.contains q.1&&gj sc q.1&&okN q.1&&g8 as&&!q.2.isEmpty&&dw Γ N sc as q.2)|.met o c m as,p=>(BP p).any λq=>(Gn q.1).any λr=>q.2.2.1.isEmpty&&(m==r.2.1&&(d.ms.contains (c,m)&&eR o&&aI Γ N sc o r.1&&dZ r.1&&r.2.2.endLine==q.2.2.2.line&&g8 as&&dw Γ N sc as q.2.1&&decide (fB as<30)))|.new c as,p=>(v5 p).any λq=>c==q.1&&(d.ns.contains q.1&&gj sc q.1&&okN q.1&&g8 as&&dw Γ N sc as q.2)|.c1 f as,p=>(v5 p).any λq=>f==q.1&&(Γ.fs.contains q.1&&gj sc q.1&&okN q.1&&!q.2.isEmpty&&qz Γ d N sc as q.2)|.tup as,p=>(BH p).any λps=>decide (A4 as<1000)&&qz Γ d N sc as ps|.n5 k h j it elt,p=>(Rr p).any λq=>(dS q.2.1).any λg=>g.ifs.isEmpty&&(uz N sc q.2.2 k h (aS g.target)&&lI k j&&LK g.iter&&ij Γ d N sc it g.iter&&eK (aS g.target++freeOf q.2.2) (dB q.2.2 sc) (pZ q.2.2) j g.target&&ij Γ.zi d (aS g.target++freeOf q.2.2) (dB q.2.2 sc) elt q.1&&decide (g.is_async=0))|.CD,p=>Ic p|.xm as,p=>(VS p).any λps=>decide (A4 as<1000)&&qz Γ d N sc as ps|.dict x,p=>(v5 p).any λq=>(dS q.2).any λa=>q.1==("dict":Str)&&(gj sc q.1&&Γ.bs.contains q.1&&Iv a&&ij Γ d N sc x a)|.uf a x,p=>(BP p).any λq=>(Gn q.1).any λr=>(dS q.2.1).any λe=>q.2.2.1.isEmpty&&(r.2.1==("append":Str)&&(eR a&&aI Γ N sc a r.1&&dZ r.1&&r.2.2.endLine==q.2.2.2.line&&Iv e&&ij Γ d N sc x e))|.xG a,p=>(BP p).any λq=>(Gn q.1).any λr=>q.2.1.isEmpty&&(q.2.2.1.isEmpty&&(r.2.1==("pop":Str)&&(eR a&&aI Γ N sc a r.1&&dZ r.1&&r.2.2.endLine==q.2.2.2.line)))|.qF a k,p=>(BP p).any λq=>(Gn q.1).any λr=>(dS q.2.1).any λe=>q.2.2.1.isEmpty&&(r.2.1==("pop":Str)&&(eR a&&aI Γ N sc a r.1&&dZ r.1&&r.2.2.endLine==q.2.2.2.line&&eR k&&aI Γ N sc k e))|.ite c a b,p=>(VE p).any λq=>gk c&&(aI Γ N sc c q.1&&(ij Γ d N sc a q.2.1&&ij Γ d N sc b q.2.2))|.FQ f h x,p=>(v5 p).any λq=>(dS q.2).any λl=>(Yn l).any λr=>f==q.1&&(d.td.contains q.1&&Γ.hl&&gj sc q.1&&okN q.1&&uh r.1==eW []&&decide (h.map (λi=>N[i]?)=(bz r.2.2).map eW)&&((bz r.2.2).all λy=>decide (sc.names.lookup y=eW .cell))&&Wu [] r.2.2&&ij Γ.zi d.Rj (bz r.2.2) r.2.2 x r.2.1)|.cmp o a b,p=>(Qq p).any λq=>(dS q.2.1).any λt=>(dS q.2.2).any λs=>decide (mZ o=t)&&(ij Γ d N sc a q.1&&ij Γ d N sc b s&&!behindInMarks (mZ o) s)
noncomputable def qz(Γ:Pg)(a:kn)(N:List Str)(sc:hX):vY->List hB->Bool
 |.nil,[]=>e6|.cons x xs,p::ps=>Iv p&&(ij Γ a N sc x p&&qz Γ a N sc xs ps)|_,_=>fx
end
abbrev DX:T2->Bool
 |.or _ _=>e6|_=>fx
abbrev yy(Γ:Pg)(c:kn)(N:List Str)(sc:hX):T2->hB->Bool
 |.pu e,p=>gk e&&aI Γ N sc e p|.cmp o a b,p=>ij Γ c N sc (.cmp o a b) p|.or a b,p=>(Qg p).any λq=>!uU q.1&&((S6 q.1 q.2.2 q.2.1).any λr=>(DX b||decide (q.2.1.length=2))&&(yy Γ c N sc a r.1&&yy Γ c N sc b r.2))
def Rk:X2->Bool
 |_=>fx
mutual
noncomputable def J7(Γ:Pg)(d:kn)(N:List Str)(sc:hX):S2->ig->Bool
 |.p st,p=>f7 Γ N sc st p|.set i x,.Assign ts p _=>(RC ts).any λy=>N[i]?==eW y&&(je sc y&&(Rk x||c7 p)&&ij Γ d N sc x p)
 |.ex x,.Expr p _=>c7 p&&ij Γ d N sc x p|.ret x,.Return (eW p) _=>ij Γ d N sc x p|.vT h x,.Assign ts p _=>(dS ts).any λg=>isTup g&&(eK N sc (λZ=>e6) h g&&c7 p&&JP sc g p&&ij Γ d N sc x p)|.vH c i f e,.Assign ts p _=>(dS ts).any λt=>(Gn t).any λr=>(j8 r.1).any λx=>r.2.1==f&&((N[i]?==eW x&&kg sc x&&okN x)&&d.fl.contains (c,f)&&c7 p&&ij Γ d N sc e p)|.Bs a k e,.Assign ts p _=>(dS ts).any λt=>(OL t).any λr=>eR a&&(aI Γ N sc a r.1&&eR k&&aI Γ N sc k r.2&&eR e&&aI Γ N sc e p&&c7 p)|.ite c a b,.If p o j _=>yy Γ d N sc c p&&(jw Γ d N sc a o&&jw Γ d N sc b j)|.g9 h it b,.For g q j m _=>m.isEmpty&&(eK N sc (λZ=>e6) h g&&AI it&&uw Γ N sc g it q&&jw Γ d N sc b j)|_,_=>fx
noncomputable def jw(Γ:Pg)(a:kn)(N:List Str)(sc:hX):nM->List ig->Bool
 |.nil,[]=>e6|.cons s ss,p::ps=>J7 Γ a N sc s p&&jw Γ a N sc ss ps|_,_=>fx
end
section
theorem vV{Γ:Pg}{b:kn}{sc:hX}{env:Env}:∀{xs:vY} {ps:List hB},qz Γ b N sc xs ps=e6->(backTo pos (starEach ps env)).any (·.1)=fx
 |.nil,[],_=>rfl|.cons x xs,p::ps,h=>by have a:=aj h;have c:=aj a.2;rw [kZ a.1];show(fx||(backTo pos (starEach ps env)).any (·.1))=fx;rw [vV c.2];rfl
 |.nil,_::_,h=>aO h|.cons _ _,[],h=>aO h
variable{W:Wd}{F1:Sg->aN}{F2:gB}
mutual
theorem iJ:∀(x:X2) {F:kn} {k:Nat} {obe:List Ob} {Ge He:Hp} {Γ:Pg} {N:List Str} {sc:hX} {E:XK} {X:Cx},ib Γ F F1 F2 W N sc k E X->∀p,ij Γ F N sc x p=e6->G2 X W F1 F2 obe Ge He E x p
 |.pu e,F,k,obe,Ge,He,Γ,N,sc,E,X,S,p,h=>by have h:=aj h;exact kQ S h.1 h.2|.vZ f as,F,k,obe,Ge,He,Γ,N,sc,E,X,S,p,h=>by
  let(g,args,np,t,rfl,r):=yx h;have i:=aj r;cases zzy.mp i.1;have d:=i.2;simp! [zza] at d;let(((((A,a2),B),C),G),I):=d
  cases args with
  |nil=>exact aO G|cons q qs=>exact LS S A a2 B C I
 |.met o c m as,F,k,obe,Ge,He,Γ,N,sc,E,X,S,p,h=>by let((f,args,O,t),e,r):=af h;have z:=gE e;let((po,K,L),P,i):=af r;have u:=gD P;have d:=aj i;have w:=dH d.1;dsimp only at z u w;subst z u w;have s:=aj d.2;have H:=zzy.mp s.1;dsimp only at H;subst H;have D:=s.2;simp! [zza] at D;let(((((((A,a2),B),C),G),I),Q),U):=D;exact LW S A a2 B C G I Q (zzY U)|.new c as,F,k,obe,Ge,He,Γ,N,sc,E,X,S,p,h=>by let(g,args,np,t,rfl,r):=yx h;have i:=aj r;cases zzy.mp i.1;have d:=i.2;simp! [zza] at d;let((((A,a2),B),C),G):=d;exact LX S A a2 B C G
 |.tup as,F,k,obe,Ge,He,Γ,N,sc,E,X,S,p,h=>by let(V,e,r):=af h;let(_,_,rfl):=nF e;have i:=aj r;exact LZ (zzY i.1) (zJ as S V i.2)|.cmp o a b,F,k,obe,Ge,He,Γ,N,sc,E,X,S,p,h=>by let(pa,ops,bs,t,rfl,r):=S9 h;let(op,z1,i):=fw r;let(pb,u,d):=fw i;dsimp only at z1 u;subst z1 u;have s:=aj d;have H:=zzY s.1;subst H;have D:=s.2;rw [zza,zza,Bool.not_eq_true'] at D;exact LU S (iJ a S _ D.1.1) (iJ b S _ D.1.2) D.2|.c1 f as,F,k,obe,Ge,He,Γ,N,sc,E,X,S,p,h=>by
  let(g,args,np,t,rfl,r):=yx h;have i:=aj r;cases zzy.mp i.1;have d:=i.2;simp! [zza] at d;let((((A,a2),B),C),G):=d
  cases args with
  |nil=>exact aO C|cons q qs=>
   cases as with
   |nil=>exact aO G|cons y ys=>have b:=aj G;exact QA S A a2 B (zJ _ S _ G) (kZ b.1 _ _) (vV (aj b.2).2)
 |.n5 kk bf tg it elt,F,k,obe,Ge,He,Γ,N,sc,E,X,S,p,h=>by let(lp,gens,R,_,rfl,r):=VQ h;let((b9,i6,ifs,asy),u,i):=fw r;have d:=aj i;have w:=dH d.1;dsimp only at u w;subst u w;have s:=d.2;simp! [zza] at s;let((((((A,a2),B),C),G),I),Q):=s;have Q:=zzY Q;subst Q;exact Df S (nY A) a2 B (iJ it S i6 C) G λY Z=>iJ elt Z lp I|.CD,F,k,obe,Ge,He,Γ,N,sc,E,X,S,p,h=>by let(t,rfl):=yP h;exact Ho S|.xm as,F,k,obe,Ge,He,Γ,N,sc,E,X,S,p,h=>by let(V,e,r):=af h;let(_,rfl):=xl e;have i:=aj r;exact Hq S (zzY i.1) (zJ as S V i.2)|.dict x,F,k,obe,Ge,He,Γ,N,sc,E,X,S,p,h=>by let(g,args,np,t,rfl,r):=yx h;let(q,z,i):=fw r;have d:=aj i;have w:=zzy.mp d.1;dsimp only at z w;subst z w;have s:=d.2;simp! [zza] at s;let(((A,a2),B),C):=s;exact Hn S A a2 (iJ x S _ C) (kZ B)|.uf a x,F,k,obe,Ge,He,Γ,N,sc,E,X,S,p,h=>by let((f,args,O,t),e,r):=af h;have z:=gE e;let((po,K,L),P,i):=af r;have u:=gD P;let(q,M,d):=fw i;have d:=aj d;have w:=dH d.1;have s:=aj d.2;have H:=zzy.mp s.1;dsimp only at z u w H M;subst z u w H M;have D:=s.2;simp! [zza] at D;let(((((A,a2),B),C),G),I):=D;exact Hm S A a2 (iJ x S _ I) B C (kZ G)|.xG a,F,k,obe,Ge,He,Γ,N,sc,E,X,S,p,h=>by let((f,args,O,t),e,r):=af h;have z:=gE e;let((po,K,L),P,i):=af r;have u:=gD P;have d:=aj i;have M:=dH d.1;have d:=aj d.2;have w:=dH d.1;have s:=aj d.2;have H:=zzy.mp s.1;dsimp only at z u w H M;subst z u w H M;have D:=s.2;simp! [zza] at D;let(((A,a2),B),C):=D;exact Hr S A a2 B C|.qF a kk,F,k,obe,Ge,He,Γ,N,sc,E,X,S,p,h=>by let((f,args,O,t),e,r):=af h;have z:=gE e;let((po,K,L),P,i):=af r;have u:=gD P;let(q,M,d):=fw i;have d:=aj d;have w:=dH d.1;have s:=aj d.2;have H:=zzy.mp s.1;dsimp only at z u w H M;subst z u w H M;have D:=s.2;simp! [zza] at D;let(((((A,a2),B),C),G),I):=D;exact Dg S A a2 G I B C|.ite c a b,F,k,obe,Ge,He,Γ,N,sc,E,X,S,p,h=>by let(q,e,r):=af h;let(t,rfl):=DO e;have i:=aj r;have d:=aj i.2;have s:=aj d.2;exact LV S i.1 d.1 (iJ a S _ s.1) (iJ b S _ s.2)|.FQ f bf x,F,k,obe,Ge,He,Γ,N,sc,E,X,S,p,h=>by let(g,args,np,t,rfl,r):=yx h;let(l,z,i):=fw r;let((T,body,R),e,d):=af i;let(Rv,u):=Nb e;have s:=aj d;have w:=zzy.mp s.1;dsimp only at z u w;subst z u w;have D:=s.2;simp! [zza,cZ,zzN] at D;let((((((((A,a2),B),C),G),I),Q),U),a9):=D;exact LY S A a2 B C (eq_of_beq G) I Q (Ov U) λj obe Ge He E' Y Z=>iJ x Z body a9
theorem zJ:∀(xs:vY) {a:kn} {k:Nat} {obe:List Ob} {Ge He:Hp} {Γ:Pg} {N:List Str} {sc:hX} {E:XK} {X:Cx},ib Γ a F1 F2 W N sc k E X->∀ps,qz Γ a N sc xs ps=e6->KR X W F1 F2 obe Ge He E xs ps
 |.nil,a,k,obe,Ge,He,Γ,N,sc,E,X,S,ps,h=>by
  cases ps with
  |nil=>exact Ht|cons _ _=>exact aO h
 |.cons x xs,a,k,obe,Ge,He,Γ,N,sc,E,X,S,ps,h=>by
  cases ps with
  |nil=>exact aO h|cons p ps=>have b:=aj h;have c:=aj b.2;exact Dh (iJ x S p c.1) (zJ xs S ps c.2) (kZ b.1 _ _)
end
variable{Δ:kn}{k:Nat}{obe:List Ob}{Ge He:Hp}
def Dx{E:XK}{a b:T2}{c:hB}{rest:List hB}{pos:Pos}(m:PL X W F1 F2 obe Ge He E a c)(p:PW X (.BoolOp .Or (d::rest) pos) (SG W F1 F2 obe Ge He E b)):PW X (.BoolOp .Or (c::d::rest) pos) (SG W F1 F2 obe Ge He E (.or a b)):=by
 have h:=pw_or (pos:=pos) m p;intro q r s u H Q I w;refine h q r s u H Q I ?_;let(ob,y,G,env,s,st,o):=w;unfold v7 at o;refine{ob,y,G,env,s,st,o.bind.imp λt z e f g i A j=>?_}
 cases t with
 |true=>rw [if_pos rfl];exact e f g i A j|false=>rw [if_neg zzf];exact⟨f,g,i,env,z,j,e⟩
theorem OD:∀(x:T2) {Γ:Pg} {N:List Str} {sc:hX} {E:XK} {X:Cx},ib Γ Δ F1 F2 W N sc k E X->∀p,yy Γ Δ N sc x p=e6->PL X W F1 F2 obe Ge He E x p/\(DX x=e6->PW X p (SG W F1 F2 obe Ge He E x))
 |.pu e,Γ,N,sc,E,X,S,p,h=>by have h:=aj h;exact{Mv S h.1 h.2,λz=>aO z}|.cmp o a b,Γ,N,sc,E,X,S,p,h=>by let(w,C,bs,f,rfl,t):=S9 h;let(I,g,s):=fw t;let(A,i,u):=fw s;dsimp only at g i;subst g i;have j:=aj u;have D:=zzY j.1;subst D;have d:=j.2;rw [zza,zza,Bool.not_eq_true'] at d;exact{HP S (iJ a S _ d.1.1) (iJ b S _ d.1.2) d.2,λz=>aO z}|.or a b,Γ,N,sc,E,X,S,p,h=>by
  let(o,F,f,rfl,t):=Uu h;have s:=aj t;have g:=yS s.1;dsimp only at g;subst g;let((w,A),G,u):=af s.2;have j:=aj u;have d:=aj j.2;have sa:=OD a S w d.1;have B:=OD b S A d.2
  have m:PW X (.BoolOp .Or F f) (SG W F1 F2 obe Ge He E (.or a b)):=by
   rcases wD G with z|⟨q,c,r,z,i⟩
   .dsimp only at z;subst z;exact Dx sa.1 (pw_or1 B.1)
   .dsimp only at z i;subst z i;have H:DX b=e6:=by
     rcases Bool.or_eq_true_iff.mp j.1 with y|y
     .exact y
     .have:=zzY y;simp at this
    exact Dx sa.1 (B.2 H)
  exact{m.pt,λZ=>m}
variable{Γ:Pg}{sc:hX}{E:XK}
set_option tactic.hygienic true
mutual
theorem So(S:B2 Γ Δ F1 F2 W N sc k E X):∀(x:S2) (p:ig) {obe:List Ob} {Ge He:Hp},J7 Γ Δ N sc x p=e6->B5 X W F1 F2 obe Ge He E x p
 |.p st,p,_,_,_,h=>QD S h|.set i x,p,_,_,_,h=>by
  cases p<;>first|(exact aO h)|skip
  let(y,H,d):=af h;let(Q,rfl):=sA H;have g:=aj d;have hN:=zzy.mp g.1;have j:=g.2;rw [zza,zza,ej] at j;let((r,a2),s):=j
  cases x with
  |_=>exact HH S hN r (iJ _ S.C _ s) (fE (a2.elim (λz=>aO z) id))
 |.ex x,p,_,_,_,h=>by
  cases p<;>first|(exact aO h)|skip
  have d:=aj h;exact Mn (iJ x S.C _ d.2) d.1
 |.ret x,p,_,_,_,h=>by
  cases p<;>first|(exact aO h)|skip
  rename_i v I;cases v with
  |none=>exact aO h|some q=>exact HG (iJ x S.C q h)
 |.vT K x,p,_,_,_,h=>by
  cases p<;>first|(exact aO h)|skip
  let(R,z,d):=fw h;subst z;have g:=aj d;have j:=g.2;rw [zza,zza,zza] at j;let(((r,a2),s),u):=j;exact HI S g.1 r a2 s (iJ x S.C _ u)
 |.Bs a T e,p,_,_,_,h=>by
  cases p<;>first|(exact aO h)|skip
  let(t,z,d):=fw h;let(po,U,sp,A,g):=Tv d;subst z A;have j:=aj g;have w:=j.2;simp! [zza] at w;let(((((r,a2),s),u),B),L):=w;exact Dr S j.1 r a2 s u B L
 |.vH c i f e,p,_,_,_,h=>by
  cases p<;>first|(exact aO h)|skip
  let(t,D,d):=fw h;let((o,m,ap),M,g):=af d;let(x,O,j):=af g;have A:=gD M;let(np,F):=eS O;dsimp only at D A F j;subst D A F;have w:=aj j;have P:=zzy.mp w.1;subst P;have G:=w.2;rw [zza,zza,zza] at G;let(((r,a2),u),B):=G;exact Ds S r a2 (iJ e S.C _ B) u
 |.ite c a b,p,_,_,_,h=>by
  cases p<;>first|(exact aO h)|skip
  have d:=aj h;have g:=aj d.2;exact HF (OD c S.C _ d.1).1 (o6 S a _ g.1) (o6 S b _ g.2)
 |.g9 K it b,p,_,_,_,h=>by
  cases p<;>first|(exact aO h)|skip
  have d:=aj h;have z:=dH d.1;subst z;have g:=d.2;rw [zza,zza,zza] at g;let(((r,a2),s),u):=g;exact HE S r a2 s λobe Ge He=>o6 S b _ u
theorem o6(S:B2 Γ Δ F1 F2 W N sc k E X):∀(xs:nM) (ps:List ig) {obe:List Ob} {Ge He:Hp},jw Γ Δ N sc xs ps=e6->wj X W F1 F2 obe Ge He E xs ps
 |.nil,ps,_,_,_,h=>by
  cases ps with
  |nil=>exact Dv|cons _ _=>exact aO h
 |.cons x xs,ps,_,_,_,h=>by
  cases ps with
  |nil=>exact aO h|cons q qs=>have a:=aj h;exact AN (So S x q a.1) (o6 S xs qs a.2)
end
set_option tactic.hygienic false
end
structure fG where
 f:Str
 c:Option Str
 m:Str
 d:D2
 st:ig
 hl:Bool:=fx
 td:Option (Str×Str):=eX
noncomputable abbrev dF:Type:=List fG
abbrev iM(l:dF):List (Str×D2):=l.map λr=>(r.f,r.d)
abbrev bY(fl:List (Str×Str))(l:dF):kn:={l.filterMap λr=>if r.c.isNone&&r.td.isNone then eW r.f else eX,l.filterMap λr=>r.c.map λc=>(c,r.m),l.filterMap λr=>if r.m==(zu 11:Str) then r.c else eX,fl,l.filterMap λr=>if r.td.isSome then eW r.f else eX}
structure cF(Γ:Pg)(Δ:kn)(n q:Str)(d:D2)(st:ig):Prop where
 sc:iO d.N (d.N.take d.np) (aw st)
 np:d.np<=d.N.length
 bind:∀(kV doc pm:fP) (an:Option g5) (dD ct:fP) (us:List fP),us.length=(d.N.take d.np).length->bindArgs (PySem.W.fnOf n q (bP st) (bb st) (aw st) .none kV doc pm an dD ct) {us,[]}=pure ((d.N.take d.np).zip us)
 S8:jw Γ Δ d.N (aw st) d.body (bb st)=e6
theorem iK{Γ:Pg}{c:kn}{n q:Str}{d:D2}(b:∀(kV a e:fP) (f:Option g5) (g ct:fP) (us:List fP),us.length=(d.N.take d.np).length->bindArgs (PySem.W.fnOf n q (bP st) (bb st) (aw st) .none kV a e f g ct) {us,[]}=pure ((d.N.take d.np).zip us))
 (a1:(aw st).kind=.function:=by rfl) (a2:(aw st).isCoroutine=fx:=by rfl) (h:(aw st).isGenerator=fx:=by rfl) (i:d.N.Nodup:=by decide+kernel) (j:d.N.take (d.N.take d.np).length=d.N.take d.np:=by rfl)
 (k:∀x∈d.N.take d.np,(aw st).names.lookup x=eW .local\/(aw st).names.lookup x=eW .cell:=by decide+kernel) (m:∀y∈(aw st).names,y.2≠.free:=by decide+kernel) (o:d.np<=d.N.length:=by decide+kernel) (p:jw Γ c d.N (aw st) d.body (bb st)=e6:=by decide+kernel):cF Γ c n q d st:={⟨a1,a2,h,i,j,k,m⟩,o,b,p}
def zY(K:zz8)(ts:List (g5×Str))(hl:Bool)(n q:Str)(c:Option Str)(st:ig):Prop:=∃(f:g5) (oc:fP) (e:Option g5) (kV a g:fP) (h:Option g5) (b ct:fP) (i:Array (Option fP)),
 (match c with
  |none=>PySem.W.nsIn K iv n=eW (eW (.ref f))/\q=n|some c=>q=mD c n/\∃C,PySem.W.nsIn K iv c=eW (eW (.ref C))/\PySem.W.findIn K (.ref C) n=eW (eW (.ref f))/\PySem.W.isFn K (.ref f)=e6)/\
 K.lookup f=eW {oc,e,.func (PySem.W.fnOf n q (bP st) (bb st) (aw st) .none kV a g h b ct),i}/\PySem.W.codeIn K b q=e6/\PySem.W.keepIn K (.ref f)=e6/\(hl=e6->∃c P,b=.ref c/\eV K c P/\(P,jd q)∈ts/\∀d,(P,d)∈ts->d=jd q)
structure wc(K:zz8)(fl:List (Str×Str))(c:Str):Prop where
 ex:∃C,PySem.W.nsIn K iv c=eW (eW (.ref C))/\vX K C/\PySem.W.makesIn K C=e6/\PySem.W.keepIn K (.ref C)=e6/\∀f,fl.contains (c,f)=e6->cN K C f
structure Ud(P:hF)(w:hG)(K:zz8)(mg:Str->Option fP)(base:hZ)(W:Wd)(F1:Sg->aN)(F2:gB)(Γ:Pg)(Δ:kn)(k:Nat):Prop where
 vZ:∀f,Δ.cs.contains f=e6->∃fa,mg f=eW (.ref fa)/\PySem.W.keepIn K (.ref fa)=e6/\km P w K mg base W F2 k f fa
 m:JV P w K mg base W F2 Δ k
 td:∀f,Δ.td.contains f=e6->Ue P w K mg base W F1 F2 Γ Δ.Rj k f
def Np{Γ:Pg}(h:Γ.hl=fx):Γ.zi=Γ:=by cases Γ;cases h;rfl
theorem Iq{K:zz8}{Γ:Pg}{W:Wd}(M:mP K mg Γ W)(hl:Bool):mP K mg {Γ with hl:=hl} W:=⟨M.hK,M.hm,M.gs,M.bs,M.Nr,M.cls,M.xc,M.xs,M.rm,M.Pe,M.bm⟩
section
variable{P:hF}{w:hG}{K:zz8}{Γ:Pg}{Δ:kn}{W:Wd}{F1:Sg->aN}{F2:gB}
def km.mono{k:Nat}(c:km P w K mg base W F2 j f a)(h:j<=k):km P w K mg base W F2 k f a:=by let(fd,b,d,e):=c.ex;exact{fd,b,d.mono h,e}
def Fz{F a:gB}{b:Str}{n:Nat}(e:∀as s,a b as s=F f as s):Pz W a b n=Pz W F f n:=by
 funext c H Q E
 unfold Pz;simp! [e]
def km.swap{F a:gB}{k:Nat}{b:Str}{d:g5}(c:km P w K mg base W F k f d)(e:∀as s,a b as s=F f as s):km P w K mg base W a k b d:=by let(fd,g,h,i,j):=c.ex;refine{fd,g,?_,i,λas s m=>j as s (by rw [<-e];exact m)};rw [Fz e];exact h
theorem FG(d:D2)(as:List PV):(gR d as).any Slot.cg=fx:=rn λs m=>by
 unfold gR at m;rcases List.mem_append.mp m with z|z
 .let(p,_,rfl):=er.mp z;rfl
 .rw [List.eq_of_mem_replicate z];rfl
def C7(Z:K.In base){k:Nat}{n q nf:Str}{d:D2}{fd:FuncData}{hl:Bool}(T:T1 P w K mg base W F1 Γ k)(U:Ud P w K mg base W F1 F2 Γ Δ k)(St:cF {Γ with hl:=hl} Δ n q d st)(Fu:KQ K n q st a fd)(hL:hl=e6->∃c p,fd.code=.ref c/\eV K c p/\(p,jd q)∈W.ts/\∀V,(p,V)∈W.ts->V=jd q):
 fu P w K mg base (dC P w) (k+2) a fd (d.N.take d.np) (Pz W (λ_ as s=>mf F1 F2 d as s) nf (d.N.take d.np).length):=by
 have y:(d.N.take d.np).length=d.np:=by rw [List.length_take];have:=St.np;lia
 let(oc,od,kV,doc,pm,an,X,ct,pJ,rfl,lk,mW):=Fu.ex;have hK:W.K=K:=(T.M []).hK;have hM:W.mg=mg:=(T.M []).hm;refine C8 lk mW St.sc (λY H Q E h=>h.1) λA outer s H Y Q E hr h=>?_;let(i,ob,G,as,sg,tb,u,l,o):=h;rw [y] at i;have L:∀ob,lX W.K W.mg ob->fF {Γ with hl:=hl} (F1 (aC ob)) (W.at ob) d.N (aw st) k E (dG (dC P w) P w K mg base d.N q (aw st) a X A outer s H E):=λob u=>wK (outer:=outer) (s:=s) (H:=H) (E:=E) (Iq (T.M ob) hl) Z St.sc (T.F ob u) (T.H ob u) (λf b=>{T.k2,T.Q ob u f b}) (λ_=>T.k2) (T.A ob u) (T.D ob u) hL hr
 have CY:B2 {Γ with hl:=hl} Δ F1 F2 W d.N (aw st) k E (dG (dC P w) P w K mg base d.N q (aw st) a X A outer s H E):={{λob u=>(L ob u).C,(L [] sE).pass,T.qt,hK,hM,λf b=>by
  let(a,z,B,I):=U.vZ f b;exact{a,z,B,⟨I.ex⟩},λc m b=>by
  let(C,a,z,B,I):=U.m.met c m b;exact{C,a,z,B,⟨I.ex⟩},λc b=>by
  let(C,a,j,z,B,I,h4,h5):=U.m.new c b;exact{C,a,j,z,B,I,h4,⟨h5.ex⟩},U.m.fl,λf b _=>by
  have:=U.td f b;rw [<-Np T.hl] at this;exact this},L}
 have sr:SR (W.at ob) H (gR d as) (start d.N Y) G H:=vJ sg tb l (by rw [<-l.length,i];exact St.np)
 refine{OV W F1 F2 ob G H E d.body,o6 CY d.body _ St.S8,ob,H,G,_,aC ob,{sr,u,.refl,rfl,FG d as},?_};dsimp only at o;unfold mf at o;rw [if_pos (by rw [<-l.length,i];exact beq_self_eq_true _)] at o;cases r:cB F1 F2 d.body (gR d as) (aC ob) with
 |bad=>rw [r] at o;exact o|exc c s1=>rw [r] at o;exact o|ok fl s1=>
  rw [r] at o;cases fl with
  |nx env=>exact λσ' O dE R S t=>o .aP O R S (t.n.lU t.sr) t.u t.s .n|rt p=>exact λv O R S rv g u e=>o v O R S g u e rv|bk env=>exact o.elim|ct env=>exact o.elim
def LP(i:K.In base){k:Nat}{n q nf:Str}{d:D2}{e:g5}{fd:FuncData}{hl:Bool}(T:T1 P w K mg base W F1 Γ k)(U:Ud P w K mg base W F1 F2 Γ Δ k)(St:cF {Γ with hl:=hl} Δ n q d st)(f:KQ K n q st e fd)(j:hl=e6->∃c p,fd.code=.ref c/\eV K c p/\(p,jd q)∈W.ts/\∀g,(p,g)∈W.ts->g=jd q):
 km P w K mg base W (λZ as s=>mf F1 F2 d as s) (k+2) nf e:=by
 refine{_,d.N.take d.np,C7 i T U St f j,f.binds St.bind,λas s a=>?_};have b:(d.N.take d.np).length=d.np:=by rw [List.length_take];have:=St.np;lia
 have a:mf F1 F2 d as s≠.bad:=a;unfold mf at a;by_cases h:(as.length==d.np)=e6
 .rw [b];exact zzy.mp h
 .rw [if_neg h] at a;exact absurd rfl a
structure Ug(Γ:Pg)(r:fG)(q:Str×Str):Prop where
 s:Xo r.m q.1 q.2 r.st
 q:Γ.qs.contains (zu 9)=e6
 cs:Γ.cs.contains (zu 6)=e6
 c:r.c=eX
 f:r.f=r.m
 m:(r.m==(zu 11:Str))=fx
def yg(Γ:Pg)(fl:List (Str×Str))(r:fG)(l:dF):Prop:=match r.td with
 |none=>cF {Γ with hl:=r.hl} (bY fl l) r.m r.f r.d r.st
 |some q=>Ug Γ r q
def nJ(K:zz8)(ts:List (g5×Str))(Γ:Pg)(fl:List (Str×Str)):dF->Prop
 |[]=>True|r::l=>zY K ts r.hl r.m r.f r.c r.st/\yg Γ fl r l/\((l.map (·.f)).contains r.f=fx/\(r.c.isSome=e6->(bY fl l).td=[]))/\nJ K ts Γ fl l
def Az{r:fG}{l:dF}{g:Str}(h:(g==r.f)=fx)(as:List PV)(s:Sg):b8 F1 (iM (r::l)) g as s=b8 F1 (iM l) g as s:=by show(if(g==r.f)=e6 then _ else _)=_;rw [h];rfl
def AA{r:fG}{l:dF}(as:List PV)(s:Sg):b8 F1 (iM (r::l)) r.f as s=mf F1 (b8 F1 (iM l)) r.d as s:=by show(if(r.f==r.f)=e6 then _ else _)=_;rw [beq_self_eq_true];rfl
theorem oW{ts:List (g5×Str)}{fl:List (Str×Str)}:∀{l:dF},nJ K ts Γ fl l->∀{x:fG} {c:Str},x∈l->x.c=eW c->x.f=mD c x.m
 |[],_,_,_,h,_=>nomatch h|r::l,⟨he,_,_,a⟩,x,c,h,e=>by
  rcases d8.mp h with z|z
  .subst z;let(d,oc,g,kV,b,i,j,k,ct,o,e1,p,e3,q,_):=he;rw [e] at e1;exact e1.1
  .exact oW a z e
theorem JV.swap{F b:gB}{Δ:kn}(m:JV P w K mg base W F Δ j)(h:∀c n,Δ.ms.contains (c,n)=e6->∀as s,b (mD c n) as s=F (mD c n) as s)(k:∀c,Δ.ns.contains c=e6->∀as s,b (mD c (zu 11)) as s=F (mD c (zu 11)) as s):JV P w K mg base W b Δ j where
 met:=λc n a=>by let(C,d,e,f,g):=m.met c n a;exact{C,d,e,f,g.swap (h c n a)}
 new:=λc a=>by let(C,d,i,e,f,g,o,p):=m.new c a;exact{C,d,i,e,f,g,o,p.swap (k c a)}
 fl:=m.fl
set_option tactic.hygienic true in
theorem yh(E:K.In base)(G:base.Ns iv mg){fl:List (Str×Str)}{k1:Nat}(T:T1 P w K mg base W F1 Γ k1)(CK:∀c f,fl.contains (c,f)=e6->wc K fl c):∀(l:dF),nJ K W.ts Γ fl l->(∀r∈l,∀c,r.c=eW c->wc K fl c)->Ud P w K mg base W F1 (b8 F1 (iM l)) Γ (bY fl l) (k1+3*l.length)
 |[],_,_=>{(λf h=>nomatch h),{(λc m h=>nomatch h),(λc h=>nomatch h),λc f h C hC=>by let(S,e,_,_,_,na):=(CK c f h).ex;have:=PySem.W.mg_of E G e;rw [hC] at this;cases this;exact na f h},(λf h=>nomatch h)}
 |r::l,M,qL=>by
  let(he,hs,(Gr,U),V):=M;have y:=yh E G T CK l V λr' MO=>qL r' (bI _ MO);let(b,oc,od,kV,doc,pm,an,dD,ct,pJ,B,e2,e3,N,e5):=he;have X:=rT (st:=r.st) e2 e3 N;have Y:=T.mono (Nat.le_add_right _ (3*l.length));have L:k1+3*l.length<=k1+3*(r::l).length:=by rw [bV];lia
  have YX:k1+3*l.length+2<=k1+3*(r::l).length:=by rw [bV];lia
  have same:∀{g:Str},(l.map (·.f)).contains g=e6->∀as s,b8 F1 (iM (r::l)) g as s=b8 F1 (iM l) g as s:=λ{g} O as s=>Az (by
   cases z:g==r.f with
   |false=>rfl|true=>rw [zzy.mp z,Gr] at O;cases O) as s
  have Z:∀{g:Str} {b:g5} {j:Nat},(l.map (·.f)).contains g=e6->km P w K mg base W (b8 F1 (iM l)) j g b->km P w K mg base W (b8 F1 (iM (r::l))) j g b:=λ{g b j} O c=>c.swap λas s=>same O as s;have inM:∀c m,(bY fl l).ms.contains (c,m)=e6->(l.map (·.f)).contains (mD c m)=e6:=λc m a=>by have a:(List.filterMap (λr:fG=>r.c.map λc=>(c,r.m)) l).contains (c,m)=e6:=a;rw [d9,et] at a;let(x,i,e):=a;let(c',Q,e):=bM.mp e;cases e;have:=oW V i Q;rw [d9,<-this];exact List.mem_map_of_mem i
  have inN:∀c,(bY fl l).ns.contains c=e6->(l.map (·.f)).contains (mD c (zu 11))=e6:=λc a=>by
   have a:(List.filterMap (λr:fG=>if r.m==(zu 11:Str) then r.c else eX) l).contains c=e6:=a;rw [d9,et] at a;let(x,i,e):=a;split at e
   .rename_i hm;have:=oW V i e;rw [zzy.mp hm] at this;rw [d9,<-this];exact List.mem_map_of_mem i
   .cases e
  have F:∀{j:Nat},JV P w K mg base W (b8 F1 (iM l)) (bY fl l) j->JV P w K mg base W (b8 F1 (iM (r::l))) (bY fl l) j:=λm=>m.swap (λc n k as s=>same (inM c n k) as s) λc k as s=>same (inN c k) as s;have KI:∀f,(bY fl l).td.contains f=e6->Ue P w K mg base W F1 (b8 F1 (iM (r::l))) Γ (bY fl l).Rj (k1+3*(r::l).length) f:=λf a=>by let(o,j,fd,x,p,t,u,H,I,h6,A):=y.td f a;exact{o,j,fd,x,p,t,c4 u L,H,I,h6,(F (j:=j) ⟨A.met,A.new,A.fl⟩).met,(F (j:=j) ⟨A.met,A.new,A.fl⟩).new,A.fl}
  have Ck:∀f,(bY fl l).cs.contains f=e6->∃b,mg f=eW (.ref b)/\PySem.W.keepIn K (.ref b)=e6/\km P w K mg base W (b8 F1 (iM (r::l))) (k1+3*(r::l).length) f b:=λf a=>by
   let(o,p,t,u):=y.vZ f a;refine{o,p,t,(Z ?_ u).mono L};have a:(List.filterMap (λr:fG=>if r.c.isNone&&r.td.isNone then eW r.f else eX) l).contains f=e6:=a;rw [d9,et] at a;let(x,i,e):=a;split at e
   .cases e;rw [d9];exact List.mem_map_of_mem i
   .cases e
  cases D:r.td with
  |some q=>
   unfold yg at hs;rw [D] at hs;have hs:Ug Γ r q:=hs;have e0:bY fl (r::l)={bY fl l with td:=r.f::(bY fl l).td}:=by unfold bY;simp! [List.filterMap_cons,D,hs.c,Option.isNone_none,Option.isNone_some,Option.isSome_some,Bool.and_false,Option.map_none,hs.m,if_true,if_false,d2]
   have ok:=JJ E Y hs.q hs.cs hs.s (by have:=X;rw [hs.f] at this;exact this);rw [e0];refine{Ck,{?_,?_,y.m.fl},λf a=>?_}
   .intro c m k;let(C,o,p,t,u):=(F y.m).met c m k;exact{C,o,p,t,u.mono L}
   .intro c k;let(C,o,j,p,t,u,H,I):=(F y.m).new c k;exact{C,o,j,p,t,u,c4 H L,I}
   .have a:(r.f::(bY fl l).td).contains f=e6:=a
    rw [List.contains_cons,ej] at a;rcases a with z|z
    .have z:=zzy.mp z;subst z;rw [hs.c] at B;exact{b,k1+3*l.length,_,q.1,by rw [hs.f];exact PySem.W.mg_of E G B.1,N,by rw [bV];lia,ok,(by have:=X;rw [hs.f] at this;exact this.binds hs.s.bind),Y,(F y.m).met,(F y.m).new,y.m.fl}
    .exact KI f z
  |none=>
  unfold yg at hs;rw [D] at hs;have hs:cF {Γ with hl:=r.hl} (bY fl l) r.m r.f r.d r.st:=hs;have ok:=LP (nf:=r.f) E Y y hs X e5;have Wb:km P w K mg base W (b8 F1 (iM (r::l))) (k1+3*l.length+2) r.f b:=ok.swap λas s=>AA as s;refine{λf a=>?_,{λc m a=>?_,λc a=>?_,y.m.fl},λf a=>?_}
  .have a:(List.filterMap (λr:fG=>if r.c.isNone&&r.td.isNone then eW r.f else eX) (r::l)).contains f=e6:=a;rw [d9,et] at a;let(x,i,e):=a;split at e
   .rename_i k;cases e;rcases d8.mp i with z|z
    .subst z;rw [Option.isNone_iff_eq_none.mp (aj k).1] at B;exact{b,by rw [B.2];exact PySem.W.mg_of E G B.1,N,Wb.mono YX}
    .exact Ck x.f (by show(List.filterMap (λr:fG=>if r.c.isNone&&r.td.isNone then eW r.f else eX) l).contains x.f=e6;rw [d9,et];exact{x,z,if_pos k})
   .cases e
  .have a:(List.filterMap (λr:fG=>r.c.map λc=>(c,r.m)) (r::l)).contains (c,m)=e6:=a;rw [d9,et] at a;let(x,i,e):=a;let(c',Q,e):=bM.mp e
   cases e;rcases d8.mp i with z|z
   .subst z;rw [Q] at B;let(eq,C,R,n2,n3):=B;refine{C,b,PySem.W.mg_of E G R,⟨n2,n3,N⟩,?_};rw [<-eq];exact Wb.mono YX
   .let(C,o,p,t,u):=(F y.m).met c x.m (by
     show(List.filterMap (λr:fG=>r.c.map λc=>(c,r.m)) l).contains (c,x.m)=e6;rw [d9,et];exact{x,z,by rw [Q];rfl})
    exact{C,o,p,t,u.mono L}
  .have a:(List.filterMap (λr:fG=>if r.m==(zu 11:Str) then r.c else eX) (r::l)).contains c=e6:=a;rw [d9,et] at a;let(x,i,e):=a;split at e
   .rename_i hm;rcases d8.mp i with z|z
    .subst z;rw [e] at B;let(eq,C,R,n2,n3):=B;let(S,m1,m2,m3,m4,_):=(qL x b4 c e).ex;have Zv:S=C:=by rw [R] at m1;cases m1;rfl
     subst Zv;have w9:=zzy.mp hm;refine{S,b,k1+3*l.length+2,PySem.W.mg_of E G R,m2,{m3,by rw [<-w9];exact n2,n3,m4},by rw [bV];lia,?_};rw [<-w9,<-eq];exact Wb
    .let(C,o,j,p,t,u,H,I):=(F y.m).new c (by
      show(List.filterMap (λr:fG=>if r.m==(zu 11:Str) then r.c else eX) l).contains c=e6;rw [d9,et];exact{x,z,by rw [if_pos hm];exact e})
     exact{C,o,j,p,t,u,c4 H L,I}
   .cases e
  .have e0:(bY fl (r::l)).td=(bY fl l).td:=by
    show List.filterMap (λr:fG=>if r.td.isSome then eW r.f else eX) (r::l)=List.filterMap (λr:fG=>if r.td.isSome then eW r.f else eX) l;rw [List.filterMap_cons,D];rfl
   rw [e0] at a;have k:r.c=eX:=by
    cases z:r.c with
    |none=>rfl|some c=>rw [U (by rw [z];rfl)] at a;cases a
   let(o,j,fd,x,p,t,u,H,I,h6,A):=KI f a
   have hN:(List.filterMap (λr:fG=>if r.m==(zu 11:Str) then r.c else eX) (r::l))=(bY fl l).ns:=by
    rw [List.filterMap_cons,k];split<;>rename_i q
    .rfl
    .split at q<;>cases q
   have hM:(List.filterMap (λr:fG=>r.c.map λc=>(c,r.m)) (r::l))=(bY fl l).ms:=by rw [List.filterMap_cons,k];rfl
   refine{o,j,fd,x,p,t,u,H,I,h6,λc m a=>A.met c m ?_,λc a=>A.new c ?_,A.fl}
   .show(bY fl l).ms.contains (c,m)=e6;rw [<-hM];exact a
   .show(bY fl l).ns.contains c=e6;rw [<-hN];exact a
end
end Ci
namespace L2
open PySem.Spec PyProof.Rows
def A3{P:hF}{w:hG}{K:zz8}{mb:Str->Option fP}{CX:zX}{k:Nat}{M:g5}{fd:FuncData}{sp:Sp}{f:gC}{vs:List fP}(i:List g5)
 (N:K.In f.heap) (R:f.heap.Ns iv mg) (g:f.heap.Ns builtinsNs mb) (ZK:∀x:Str,x≠(zu 40)->mb x=bootBuiltins x) (w8:f.heap.NoLimit) (hg:f.gens=#[])
 (A:∀p∈i,f.heap.get? p=eW (PySem.W.tabObj #[])) (hC:∀p∈i,∃c,Ci.eV K c p) (Zz:∀p∈i,K.lookup p=eX)
 (B:f.heap.get? a=eW {cls:=.type "list",data:=.seq vs.toArray}) (S:IntsAre vs ns) (hl:ns.length<=h9) (hr:dt k callerA)
 (F:∀base:hZ,K.In base->base.Ns iv mg->fu P w K mg base CX k M fd [x] sp) (QP:∀(s:gC) (u:fP),BindsTo s fd {[u],[]} [(x,u)])
 (Pn:∀H:Hp,(∀p∈i,H p=eW (.gA #[]))->Ci.ub K H a (ns.map V.int)->sp [.ref a] H (λv _=>v=.bl e6) λ_ _ _=>False)
 (UQ:∀H e s',CX [] H f (λ_ _ _=>False) e s'->False):
 codeAny (hI P w) callerA (.call (.ref M) {[.ref a],[]}) (λr s'=>r=.ok (.ret (.bool e6))/\OldK f.heap s'.heap/\s'.os=f.os/\AllBare s'.gens) f:=by
 have rv:=BM S;have Rt:=S.length;have T:a∉i:=λz=>by have:=A a z;rw [B] at this;cases this
 have t:∀H:Hp,(∀p∈i,H p=eW (.gA #[]))->Ci.ub K H a (ns.map V.int)->ft P w H f.heap->(∀b,H b≠eX->b∈i\/b=a/\∃o xs,H b=eW (.bR o xs))->(H a≠eX->K.lookup a=eX)->
  codeAny (hI P w) callerA (.call (.ref M) {[.ref a],[]}) (λr s'=>r=.ok (.ret (.bool e6))/\OldK f.heap s'.heap/\s'.os=f.os/\AllBare s'.gens) f:=by
  intro H U hS aM O hK;have X:∀{b:g5} {o:Obj},f.heap.get? b=eW o->H b=eX->(r6 f.heap H).get? b=eW o:=λe n=>DH e n
  have Iu:∀{b:g5} {o:Obj} {C:Array DictEntry} {D:Nat},f.heap.get? b=eW o->o.data=.dict C D->H b=eX:=λ{b o C D} e d=>by
   cases q:H b with
   |none=>rfl|some u=>
    rcases O b (by rw [q];simp) with z|⟨z,_⟩
    .rw [A b z] at e;cases e;cases d
    .subst z;rw [B] at e;cases e;have d':Data.seq vs.toArray _=Data.dict C D:=d;cases d'
  have G:∀{b:g5} {m:Str->Option fP},f.heap.Ns b m->(r6 f.heap H).Ns b m:=λ{b m} ⟨o,C,D,e,d,r⟩=>{o,C,D,X e (Iu e d),d,r}
  have Y:K.In (r6 f.heap H):=λb o e=>X (N b o e) (by
   cases q:H b with
   |none=>rfl|some u=>
    rcases O b (by rw [q];simp) with z|⟨z,_⟩
    .rw [Zz b z] at e;cases e
    .subst z;rw [hK (by rw [q];simp)] at e;cases e)
  have hM:Mod K mg (r6 f.heap H):={Y,G R,{mb,G g,ZK},let⟨mc,h1,h2⟩:=w8;{mc,G h1,h2}};have e0:jm P w K mg (r6 f.heap H) callerA [] f H:={rfl,hM,λb o e=>IL e,Nat.le_of_eq (AU _ _),trivial,λb g=>absurd (show b∈([]:List g5) from g) (by simp),aM,.of_eq hg};refine codeAny_mono ((F _ Y (G R)).run callerA [] f H {[.ref a],[]} [.ref a] [.ref a] _ _ hr e0 (QP f (.ref a)) (.cons rfl .nil) (Pn H U hS)) λr s' h=>?_
  cases r with
  |error e=>exact(UQ H e s' h).elim|ok fl=>
   cases fl with
   |next=>exact d6 h|brk=>exact d6 h|cont=>exact d6 h|ret u=>
    let(v,H',os,bare,un,Z,r',q):=h;have q':v=.bl e6:=q;subst q';obtain rfl:u=fP.bool e6:=r'
    have E:∀b o,f.heap.get? b=eW o->s'.heap.get? b=eW o\/b∈i/\∃m,s'.heap.get? b=eW (PySem.W.tabObj m):=λb o e=>by
     cases q:H b with
     |none=>exact .inl (un.keep b o e q (by intro z;exact absurd (show b∈([]:List g5) from z) (by simp)) (by simp))|some u=>
      rcases O b (by rw [q];simp) with z|⟨z,ob,xs,I⟩
      .right;let(m,hm):=un.gS b _ (U b z);exact{z,_,Z b _ hm}
      .left;have z3:=un.gf b ob _ I;let(e1,_):=aM b _ I;let(e2,_):=Z b _ z3;rw [e] at e1;cases e1;exact e2
    refine{rfl,{λb o e=>?_,λb o e=>?_},os,bare}
    .rcases E b o e with z|⟨z,m,I⟩
     .exact .inl z
     .have e':=A b z;rw [e] at e';cases e';let(c,o',Q,_,_,_,_,_,_,_,k1,k2,k3,k4,_):=hC b z;have tb:f.heap.TableAt c b #[]:={{o',Q,N _ _ k1,k2,k3,k4},e};exact .inr (.inl {tb.isCodeTable,rfl,#[],m,rfl,by rw [I];simp})
    .rcases E b o e with z|⟨_,m,z⟩
     .exact{_,z}
     .exact{_,z}
 cases hk:K.lookup a with
 |some o=>
  have e:=N a o hk;rw [B] at e;cases e;refine t (λb=>if b∈i then eW (.gA #[]) else eX) (λp L=>if_pos L) (.inr {vs.toArray,_,hk,by rw [a5,Rt];exact hl,zx6 rv}) (λb u z=>?_) (λb z=>?_) λz=>absurd (if_neg T) z
  .by_cases g:b∈i
   .have j:=(if_pos g).symm.trans z;cases j;exact A b g
   .have j:=(if_neg g).symm.trans z;cases j
  .by_cases g:b∈i
   .exact .inl g
   .exact absurd (if_neg g) z
 |none=>
  refine t (λb=>if b=a then eW (.bR {cls:=.type "list",data:=.seq vs.toArray} (.lst (ns.map V.int))) else if b∈i then eW (.gA #[]) else eX) (λp L=>?_) (.inl (.inr {{cls:=.type "list",data:=.seq vs.toArray},if_pos rfl})) (λb u z=>?_) (λb z=>?_) λ_=>hk
  .show(if p=a then _ else _)=_;rw [if_neg (show¬p=a from λz=>T (by rw [<-z];exact L)),if_pos L]
  .by_cases g:b=a
   .have j:=(if_pos g).symm.trans z;cases j;subst g;exact{B,by rw [zzl];exact hl,vs,_,rv,B}
   .replace z:=(if_neg g).symm.trans z;by_cases y:b∈i
    .have j:=(if_pos y).symm.trans z;cases j;exact A b y
    .have j:=(if_neg y).symm.trans z;cases j
  .by_cases g:b=a
   .exact .inr {g,_,_,if_pos g}
   .by_cases y:b∈i
    .exact .inl y
    .exact absurd ((if_neg g).trans (if_neg y)) z
def F5{l:PySem.W.OpenLaw}{n k:Nat}{q:hF}{j:List Str}{E:(Str->Option fP)->hZ->Prop}{C:hG->hZ->Prop}{d:DefRec}{K:Params->zz8}{CX:hG->zX}{sp:hG->Sp}(y:List g5)
 (hn:l.most=eW n) (I:n<=h9) (L:d.params.defaults=[]) (M:dt k callerA)
 (hY:∀(w:hG) (h:hZ),C w h->(K w.params).In h/\∀p∈y,h.get? p=eW (PySem.W.tabObj #[])) (hC:∀(w:hG),∀p∈y,(∃c,Ci.eV (K w.params) c p)/\(K w.params).lookup p=eX)
 (F:∀(w:hG) (mg:Str->Option fP) (z:g5) (h:hZ),(K w.params).In h->h.Ns iv mg->mg d.name=eW (.ref z)->
  ∃fd:FuncData,(∀(s:gC) (u:fP),BindsTo s fd {[u],[]} [(x,u)])/\
   ∀base:hZ,(K w.params).In base->base.Ns iv mg->fu l.prog w (K w.params) mg base (CX w) k z fd [x] (sp w))
 (N:∀(w:hG) (H:Hp) (a:g5) (ns:List Int),ns.length<=n->(∀p∈y,H p=eW (.gA #[]))->Ci.ub (K w.params) H a (ns.map V.int)->sp w [.ref a] H (λv _=>v=.bl e6) λ_ _ _=>False)
 (O:∀(w:hG) (H:Hp) (s:gC) (e:fP) (s':gC),CX w [] H s (λ_ _ _=>False) e s'->False):
 PySem.W.WalkO q j E C l.row.toRowW d [] (λf vs=>PySem.call f vs):=by
 refine Att.um hn L λw s₀ r mg mb z o pm cd P a vs ns G Y ho hd mW A t m i Q=>?_;let(D,R):=hY w _ Y;let(fd,S,U):=F w mg z _ D G.T.g A;exact A3 y D G.T.g G.T.b G.T.builtins G.T.nolimit Q R (λp B=>(hC w p B).1) (λp B=>(hC w p B).2) t m (c4 i I) M U S (λH X Z=>N w H a ns i X Z) λH e s'=>O w H r e s'
end L2
namespace Ci
open L2
theorem ke{W:Wd}:∀(ns:List Int),ah W G (ns.map PV.int) (ns.map V.int)
 |[]=>.nil|n::ns=>.cons .i (ke ns)
abbrev mF(H:Hp):Hp:=λb=>match H b with
 |some (.gA _)=>eX|o=>o
def oM(H:Hp):aA (mF H) H:=λb o e=>by
 unfold mF at e;split at e
 .cases e
 .exact e
def k7{b:g5}{o:HO}(h:H b=eW o)(n:∀ps,o≠.gA ps):mF H b=eW o:=by
 unfold mF;rw [h];cases o with
 |gA ps=>exact absurd rfl (n ps)|_=>rfl
abbrev Ky(K:zz8)(b:List g5):Sp:=λc H Q Z=>∃(a:g5) (ns:List Int),c=[.ref a]/\(∀p∈b,H p=eW (.gA #[]))/\ub K H a (ns.map V.int)/\ns.length<=63/\∀d,Q (.bl e6) d
def walk{l:PySem.W.OpenLaw}{q:hF}{i:List Str}{XP:(Str->Option fP)->hZ->Prop}{R:hG->hZ->Prop}{d:DefRec}{K:Params->zz8}(rest:fV)(Γ:Pg)(x:Str)(j:Def)(xs:List Str)(ts:List (g5×Str))(st:ig)(D:Bool)
 (S:j.N.take j.np=[x]) (qL:j.ux=eX) (Vc:d.name="law") (hn:l.most=eW 63) (MF:d.params.defaults=[]) (hr:dt (2*rest.length+2) callerA) (hY:∀(w:hG) (h:hZ),R w h->(K w.params).In h/\∀p∈ts.map (·.1),h.get? p=eW (PySem.W.tabObj #[]))
 (hC:∀(w:hG),∀p∈ts.map (·.1),(∃c,eV (K w.params) c p)/\(K w.params).lookup p=eX)
 (hM:∀(w:hG) (mg:Str->Option fP) (h:hZ),(K w.params).In h->h.Ns iv mg->mP (K w.params) mg Γ {K w.params,mg,xs,ts,[]})
 (hE:∀w:hG,B3 (K w.params) ts D "law" st) (T:dI (Γ.at rest D) "law" j st) (gq:rest≠[])
 (I:∀w:hG,AllK (K w.params) ts Γ rest)
 (MI:∀ns:List Int,ns.length<=63->aV (den (tab rest)) j [.lst (ns.map .int)]=.ok (.bl e6)):
 PySem.W.WalkO q i XP R l.row.toRowW d [] (λf vs=>PySem.call f vs):=by
 refine L2.F5 (n:=63) (k:=2*rest.length+2) (x:=x) (CX:=λw=>dC l.prog w) (sp:=λw=>Ky (K w.params) (ts.map (·.1))) (ts.map (·.1)) hn ↑2 MF hr hY hC ?_ ?_ ?_
 .intro w mg fa h KX G r;rw [Vc] at r;let(f,oc,od,kV,y,U,V,X,ct,pJ,e1,e2,e3,e4,e5):=hE w;have L:fa=f:=by have z:=r.symm.trans (PySem.W.mg_of KX G e1);cases z;rfl
  subst L;refine{PySem.W.fnOf "law" "law" (bP st) (bb st) (aw st) .none kV y U V X ct,λs u=>?_,λbase O Y=>?_}
  .have Z:=T.bind kV y U V X ct [u];rw [S] at Z;exact .of_eq (Z rfl)
  .have M:=hM w mg base O Y;have A:2<=2*rest.length:=by have:=List.length_pos_iff.mpr gq;lia
   let(a1,a2,a3):=nO (P:=l.prog) (w:=w) (B:=V4) {λ_ _ z=>absurd rfl z,λ_ _ _ z=>absurd rfl z,λ_ z=>absurd rfl z} M O Y rest (I w);have ok:=Kc (P:=l.prog) (w:=w) (nf:="law") (sy M rest D) O (k:=2*rest.length) T (rT (st:=st) e2 e3 e4) (λg hg=>a1 g hg) (λq hq=>a2 q hq) (λf L=>{A,a3 f L}) (λ_=>A) (ng (λ_ _ z=>absurd rfl z) rest (I w)) (rO (B:=V4) {λ_ _ z=>absurd rfl z,λ_ _ _ z=>absurd rfl z,λ_ z=>absurd rfl z} rest (I w)) e5;rw [S] at ok;refine ok.imp λvs H Q E h=>?_;let(a,ns,rfl,ht,hl,b,q):=h;refine{rfl,mF H,[.lst (ns.map .int)],oM H,{λP q m=>?_,λn o e=>nomatch e},?_,?_}
   .have hP:=ht P (List.mem_map_of_mem (f:=(·.1)) m);refine{by unfold mF;rw [hP],#[],hP,trivial,λpos cv e=>nomatch e}
   .rw [qL];refine ah.cons (.l ?_ (ke ns)) .nil;rcases hl with(h|⟨o,h⟩)|h
    .exact .inl (.inl (k7 h (λ_ z=>nomatch z)))
    .exact .inl (.inr {o,k7 h (λ_ z=>nomatch z)})
    .exact .inr h
   .dsimp only;rw [MI ns b];intro v G' H' _ rv;simp! [Rep] at rv;subst rv;exact q H'
 .intro w H a ns b hO HQ;exact{a,ns,rfl,hO,HQ,b,λ_=>rfl}
 .intro w H s e s' h;let(a,C,t,vs,H',B,rfl,F):=h;exact F.ends
noncomputable abbrev LO(l:fV):Sg->aN:=λs=>aG (aU s) (tab l)
def Sr{P:hF}{w:hG}{K:zz8}{mg:Str->Option fP}{Γ:Pg}{W:Wd}(g:K.In base)(G:base.Ns iv mg)(rest:fV)(e:rest≠[])(M:∀ob,mP K mg Γ (W.at ob))(b:AllK K W.ts Γ rest):T1 P w K mg base W (LO rest) (Γ.at rest fx) (2*rest.length):=by
 have hK:W.K=K:=(M []).hK;have hm:W.mg=mg:=(M []).hm;have c:2<=2*rest.length:=by have:=List.length_pos_iff.mpr e;lia
 have a:∀ob,lX W.K W.mg ob->_:=λob u=>nO (P:=P) (w:=w) (W:=W.at ob) (B:=aU (aC ob)) (rQ (W:=W) (by rw [<-hK];exact u)) (M ob) g G rest b;refine{λob=>sy (M ob) rest fx,λob u f d=>(a ob u).1 f d,λob u q h=>(a ob u).2.1 q h,λob u f d=>(a ob u).2.2 f d,λob u=>?_,λob u=>?_,?_,rfl,c}
 .exact ng (rQ (K:=K) (mg:=W.mg) (W:=W) (by rw [<-hK];exact u)).any rest b
 .exact rO (W:=W.at ob) (rQ (K:=K) (mg:=W.mg) (W:=W) (by rw [<-hK];exact u)) rest b
 .show rest.isEmpty=fx
  cases rest with
  |nil=>exact absurd rfl e|cons _ _=>rfl
def walk2{l:PySem.W.OpenLaw}{q:hF}{i:List Str}{XP:(Str->Option fP)->hZ->Prop}{L:hG->hZ->Prop}{d:DefRec}{K:Params->zz8}(rest:fV)(g:dF)(Γ:Pg)(fl:List (Str×Str))(x:Str)(j:D2)(xs:List Str)(ts:List (g5×Str))(st:ig)
 (M:j.N.take j.np=[x]) (Vc:d.name="law") (hn:l.most=eW 63) (MF:d.params.defaults=[]) (hr:dt (2*rest.length+3*g.length+2) callerA) (hY:∀(w:hG) (h:hZ),L w h->(K w.params).In h/\∀p∈ts.map (·.1),h.get? p=eW (PySem.W.tabObj #[]))
 (hC:∀(w:hG),∀p∈ts.map (·.1),(∃c,eV (K w.params) c p)/\(K w.params).lookup p=eX)
 (hM:∀(w:hG) (mg:Str->Option fP) (h:hZ),(K w.params).In h->h.Ns iv mg->∀ob,mP (K w.params) mg Γ {K w.params,mg,xs,ts,ob})
 (O:Bool) (hE:∀w:hG,zY (K w.params) ts O "law" "law" eX st) (R:cF {Γ.at rest fx with hl:=O} (bY fl g) "law" "law" j st) (gq:rest≠[])
 (hA:∀w:hG,AllK (K w.params) ts Γ rest) (Zu:∀w:hG,nJ (K w.params) ts (Γ.at rest fx) fl g)
 (QT:∀w:hG,∀c f,fl.contains (c,f)=e6->wc (K w.params) fl c) (pT:∀w:hG,∀r∈g,∀c,r.c=eW c->wc (K w.params) fl c)
 (MI:∀ns:List Int,ns.length<=63->∃s,mf (LO rest) (b8 (LO rest) (iM g)) j [.lst (ns.map .int)] []=.ok (.bl e6) s):
 PySem.W.WalkO q i XP L l.row.toRowW d [] (λf vs=>PySem.call f vs):=by
 refine L2.F5 (n:=63) (k:=2*rest.length+3*g.length+2) (x:=x) (CX:=λw=>dC l.prog w) (sp:=λw=>Ky (K w.params) (ts.map (·.1))) (ts.map (·.1)) hn ↑2 MF hr hY hC ?_ ?_ ?_
 .intro w mg fa h KX G y;rw [Vc] at y;let(f,oc,od,kV,A,S,V,X,ct,pJ,e1,e2,e3,e4,e5):=hE w;have hf:fa=f:=by have z:=y.symm.trans (PySem.W.mg_of KX G e1.1);cases z;rfl
  subst hf;refine{PySem.W.fnOf "law" "law" (bP st) (bb st) (aw st) .none kV A S V X ct,λs u=>?_,λbase D I=>?_}
  .have Y:=R.bind kV A S V X ct [u];rw [M] at Y;exact .of_eq (Y rfl)
  .have T:=Sr (P:=l.prog) (w:=w) (W:={K w.params,mg,xs,ts,[]}) D I rest gq (hM w mg base D I) (hA w);have U:=yh D I T (QT w) g (Zu w) (pT w);have ok:=C7 (nf:="law") D (T.mono (Nat.le_add_right _ (3*g.length))) U R (rT (st:=st) e2 e3 e4) e5;rw [M] at ok;refine ok.imp λvs H Q E h=>?_;let(a,ns,rfl,ht,hl,b,q):=h;refine{rfl,[],mF H,[.lst (ns.map .int)],oM H,{λP q m=>?_,λn o e=>nomatch e},sE,?_,?_}
   .have Z:=ht P (List.mem_map_of_mem (f:=(·.1)) m);refine{by unfold mF;rw [Z],#[],Z,trivial,λpos cv e=>nomatch e}
   .refine ah.cons (.l ?_ (ke ns)) .nil;rcases hl with(h|⟨o,h⟩)|h
    .exact .inl (.inl (k7 h (λ_ z=>nomatch z)))
    .exact .inl (.inr {o,k7 h (λ_ z=>nomatch z)})
    .exact .inr h
   .let(s',e):=MI ns b;have e:mf (LO rest) (b8 (LO rest) (iM g)) j [.lst (ns.map .int)] (aC [])=.ok (.bl e6) s':=e;dsimp only;rw [e];intro v aF G' H' _ _ _ rv;simp! [Rep] at rv;subst rv;exact q H'
 .intro w H a ns b hO HQ;exact{a,ns,rfl,hO,HQ,b,λ_=>rfl}
 .intro w H s e s' h;let(a,C,t,vs,H',B,rfl,F):=h;exact F.ends
end Ci
namespace Hd
open PySem.W PySem.Calls
abbrev Og(st:SharedT->Thread->Option (SharedT×Thread))(ok:Thread->Bool)(n:Nat):SharedT->Thread->Option SharedT:=
 @Nat.rec (λZ=>SharedT->Thread->Option SharedT) (λZ Z=>eX) (λZ a s t=>match through t with
  |true=>eW s|false=>match ok t with
   |false=>eX|true=>match st s t with
    |some (b,c)=>a b c|none=>eX) n
theorem qX{tb:String->Option ix}{p:hF}{w:hG}{a:Nat}{ann:Option fP}:∀{n:Nat} {s s':SharedT} {t:Thread},Og (stepT (denote tb) p w) (stepOk a ann) n s t=eW s'->topRun tb p w a ann n s.abs t=eW s'.abs
 |0,_,_,_,h=>by cases h
 |n+1,s,s',t,h=>by
  have h:(match through t with
   |true=>eW s|false=>match stepOk a ann t with
    |false=>eX|true=>match stepT (denote tb) p w s t with
     |some (s',t')=>Og (stepT (denote tb) p w) (stepOk a ann) n s' t'|none=>eX)=eW s':=h
  unfold topRun;cases b:through t with
  |true=>rw [b] at h;cases h;rfl
  |false=>
   rw [b] at h;cases hk:stepOk a ann t with
   |false=>rw [hk] at h;cases h
   |true=>
    rw [hk] at h;cases hs:stepT (denote tb) p w s t with
    |none=>rw [hs] at h;cases h
    |some r=>let(c,d):=r;rw [hs] at h;rw [stepT_spec hs];exact qX h
abbrev treeOf(l:List Obj):BT:=(l.foldl (λ(T,i) o=>(BT.ins T i o,i+1)) (BT.nil,0)).1
def Il{p q:hF}{a:List Str}{b:gC->Bool}{c:Type}{g:gC->c}{i:hG->c}{N:Nat}{j:Bool}{T₀:Params->BT}{life:Life}{m₀:Nat}{ann:Option fP}{M:Nat}
 (e:opening p=plainProg p.main.scope.names) (hN:Nat.ble 600 N=e6) (f:∀s,fenceModules? p s=eW s)
 (m:∀P:Params,absHeap (T₀ P) m₀ life=boot_heap P)
 (size:∀w:hG,((boot_heap w.params).isNs iv,(boot_heap w.params).nsMap iv "__annotations__")=(e6,ann))
 (le:Nat.ble M N=e6)
 (run:∀(w:hG) (os:OsState),(Og (stepT (denote treeTable) p w) (stepOk m₀ ann) M {T₀ w.params,m₀,life,Array.mk [],boot_drawn,boot_toks,os} (topStub p)).map (λs=>
  ((staticsOk (importedModules p.main.body) (boot_heap w.params) s.abs.heap&&namesBound p s.abs.heap&&gensDone s.abs&&laidKept (boot_heap w.params) s.abs.heap),openSeen q a (importedModules p.main.body) b j s.abs,g s.abs))
  =eW (e6,openGood q a,i w)):LeftO p q a b g i N j:=λw=>by
 let((h,gs,d,k,os),o,u):=bM.mp (boot_open e hN f w);obtain⟨rfl,rfl,rfl,rfl⟩:h=boot_heap w.params/\gs=Array.mk []/\d=boot_drawn/\k=boot_toks:=zx6 u;obtain⟨y,z⟩:_/\_:=by simpa only [Prod.mk.injEq] using size w
 let(s,r,l):=bM.mp (run w os);obtain⟨A,B,C⟩:_/\_/\_:=by simpa only [Prod.mk.injEq] using l
 have r:=qX r;have r:=topRun_mono (N-M) _ _ _ _ r;rw [show M+(N-M)=N by have:=Nat.le_of_ble_eq_true le;lia] at r;have hs:(boot_heap w.params).objs.size=m₀:=by rw [<-m w.params];exact absHeap_size _ _ _
 have r:topRun treeTable p w m₀ ann N {boot_heap w.params,Array.mk [],boot_drawn,boot_toks,os} (topStub p)=eW s.abs:=by
  have:({T₀ w.params,m₀,life,Array.mk [],boot_drawn,boot_toks,os}:SharedT).abs={boot_heap w.params,Array.mk [],boot_drawn,boot_toks,os}:=by show gC.mk _ _ _ _ _=_;rw [show absHeap (T₀ w.params) m₀ life=boot_heap w.params from m w.params]
  rw [<-this];exact r
 have t:topFrom treeTable p w N {boot_heap w.params,Array.mk [],boot_drawn,boot_toks,os}=eW s.abs:=by
  unfold topFrom;dsimp only;rw [y,z,hs,r];show(match staticsOk (importedModules p.main.body) (boot_heap w.params) s.abs.heap&&namesBound p s.abs.heap&&gensDone s.abs&&laidKept (boot_heap w.params) s.abs.heap with|true=>_|false=>_)=_;rw [A]
 unfold openEnds;rw [o];show(topFrom treeTable p w N _).map _=_;rw [t];exact congrArg eW (Prod.ext B C)
end Hd
namespace Hd
open PySem.W
def Qh:∀P:Params,absHeap (treeOf (boot_heap P).objs.toList) 11 {}=boot_heap P:=λP=>∅
def Qi:∀w:hG,((boot_heap w.params).isNs iv,(boot_heap w.params).nsMap iv "__annotations__")=(e6,eW (.ref 6)):=λw=>∅
noncomputable abbrev de(P:Params)(x:Str)(t:Tok)(v:fP):DictEntry:={hash:=PyData.keyHash P x,key:=.str x t,val:=v}
theorem holds{l:OpenLaw}{keep:List Nat}{K:Params->Frag}{as:List g5}{d:DefRec}{N:Nat}(a:l.wellSaid=e6)
 (ka:∀P,as=(K P).map (·.1))
 (left:LeftO l.row.prog (view l.row.prog keep) [] (λs=>xlAt (view l.row.prog keep) [] s&&recOk l.row.toRowW.records s) (kHook K as ka).obs (kHook K as ka).val N)
 (b:defOf (view l.row.prog keep) l.row.name=eW (d,[])) (c:l.row.prog.theDef l.row.name=eW (d.params,d.body,d.scope)) (hk:kwWritten? d.params.kwonlyargs d.params.kw_defaults=eW [])
 (ok:(chainsOk (view l.row.prog keep)&&opensWell l.row.prog&&(frees l.row.toRowW&&l.row.within.isEmpty))=e6) (g:l.row.prog.bare) (i:l.row.toRowW.promised)
 (call:WalkO (view l.row.prog keep) [] (XL (view l.row.prog keep) []) (kHook K as ka).says l.row.toRowW d [] λf vs=>PySem.call f vs):l.Holds:=
 holds_law a λj=>holds_open (N:=N) left (Hook.of (kHook K as ka)) (Hook.keeps (kHook K as ka)) (λs e=>xl_of s (Bool.and_eq_true_iff.mp e).1) XL.keeps b c hk (λs e=>recFacts_of (Bool.and_eq_true_iff.mp e).2) (by cases h:l.row.writes<;>rfl) j ok g i call
def P6{n:Nat}{P:List fP->Prop}(h:∀a us,us.length=n->P (a::us))(us:List fP)(e:us.length=n+1):P us:=by
 cases us with
 |nil=>cases e
 |cons a r=>exact h a r (Nat.succ.inj e)
def ql{P:List fP->Prop}(h:∀b,P [b]):∀us:List fP,us.length=1->P us:=P6 λa us e=>by
 cases us with
 |nil=>exact h a|cons _ _=>cases e
theorem yi{P:List fP->Prop}(h:∀b c,P [b,c]):∀us:List fP,us.length=2->P us:=P6 λa=>ql (P:=λus=>P (a::us)) (h a)
theorem O9{P:List fP->Prop}(h:∀b c a2,P [b,c,a2]):∀us:List fP,us.length=3->P us:=P6 λa=>yi (P:=λus=>P (a::us)) (h a)
theorem Up{P:List fP->Prop}(h:∀b c a2 d,P [b,c,a2,d]):∀us:List fP,us.length=4->P us:=P6 λa=>O9 (P:=λus=>P (a::us)) (h a)
theorem Zg{P:List fP->Prop}(h:∀b c a2 d e,P [b,c,a2,d,e]):∀us:List fP,us.length=5->P us:=P6 λa=>Up (P:=λus=>P (a::us)) (h a)
end Hd
namespace KJ
open L2 Ci
theorem Uv{b c:Type}{a:b}{f:b->Res c}:(Res.ok a).bind f=f a:=rfl
theorem YY{b:Type}{a:b}:(Res.ok a).well=.ok a:=rfl
theorem Yw{b:Type}{a:b}:Res.of (eW a)=.ok a:=rfl
theorem YL{env:Sl}{k:Sl->Res Fl}:(Fl.nx env).seq k=k env:=rfl
theorem YM{p:PV}{k:Sl->Res Fl}:(Fl.rt p).seq k=.ok (.rt p):=rfl
theorem YK{env:Sl}{k:Sl->Res Fl}:(Fl.bk env).seq k=.ok (.bk env):=rfl
theorem sv{p:PV}:mO (eW (.val p))=.ok p:=rfl
theorem YO{p:PV}:zH (eW (.val p))=.ok p:=rfl
theorem YN{p:PV}:zH (eW (.own p))=.ok p:=rfl
theorem Xr{a:Type}{b:Bool}{f:Bool->Res a}:yk (.bl b) f=f b:=rfl
theorem JY{i j:Int}:binOp .add (.int i) (.int j)=.ok (.int (i+j)):=rfl
theorem J0{i j:Str}:binOp .add (.str i) (.str j)=if i.length+j.length<=cb then .ok (.str (i++j)) else .bad:=rfl
theorem JZ{i j:List PV}:binOp .add (.lst i) (.lst j)=if i.length+j.length<=cb then .ok (.lst (i++j)) else .bad:=rfl
theorem Qd{i j:Int}:binOp .sub (.int i) (.int j)=.ok (.int (i-j)):=rfl
theorem Qc{i j:Int}:binOp .mul (.int i) (.int j)=if bg i||bg j then .ok (.int (i*j)) else .bad:=rfl
theorem Qb{i j:Int}:binOp .mod (.int i) (.int j)=if 0<j then .ok (.int (i%j)) else .bad:=rfl
theorem Qa{i j:Int}:binOp .fdiv (.int i) (.int j)=if 0<j/\j<1073741824 then .ok (.int (i/j)) else .bad:=rfl
theorem Xy:cG .eq=gO:=rfl
theorem XF:cG .ne=iF:=rfl
theorem XD:cG .lt=vo:=rfl
theorem XC:cG .le=vn:=rfl
theorem Xz:cG .ge=xw:=rfl
theorem XB:cG .Gx=pY:=rfl
theorem Qj:cG .Ey=oP:=rfl
theorem oLt{i j:Int}:vo (.int i) (.int j)=.ok (.bl (decide (i<j))):=rfl
theorem oLe{i j:Int}:vn (.int i) (.int j)=.ok (.bl (decide (i<=j))):=rfl
theorem Yt{i j:Int}:xw (.int i) (.int j)=.ok (.bl (decide (j<=i))):=rfl
theorem lL{xs:List PV}:dv .len [.lst xs]=.ok (.int xs.length):=rfl
theorem lT{xs:List PV}:dv .len [.tup xs]=.ok (.int xs.length):=rfl
theorem lS{z:Str}:dv .len [.str z]=if z.length<=cb then .ok (.int z.length) else .bad:=rfl
theorem tL{xs:List PV}:dv .tuple [.lst xs]=.ok (.tup xs):=rfl
theorem aL{xs:List PV}:dv .all [.lst xs]=(Res.of (boolsOf xs)).bind λbs=>.ok (.bl (bs.all id)):=rfl
theorem YV{i:Nat}{p:PV}{env:Sl}:(Tg.one i).put p env=.ok (env.set i (.val p)):=rfl
theorem YU{i j:Nat}{a b:PV}{env:Sl}:(Tg.two i j).put (.tup [a,b]) env=.ok ((env.set i (.val a)).set j (.val b)):=rfl
theorem XS{p:PV}:rS (.own p)=.val p:=rfl
theorem jA{b:Type}{a:b}{as:List b}:(a::as).length=as.length+1:=rfl
theorem jB{a:Type}:([]:List a).length=0:=rfl
theorem jC{b c:Type}{f:b->c}{a:b}{l:List b}:(a::l).map f=f a::l.map f:=rfl
theorem jD{a b:Type}{f:a->b}:([]:List a).map f=[]:=rfl
theorem jE{b:Type}{a:b}{as bs:List b}:a::as++bs=a::(as++bs):=rfl
theorem jF{a:Type}{as:List a}:[]++as=as:=rfl
theorem jG{b:Type}{a:b}{l:List b}:(a::l)[0]?=eW a:=rfl
theorem jH{b:Type}{a:b}{l:List b}{i:Nat}:(a::l)[i+1]?=l[i]?:=rfl
theorem jI{c:Type}{a b:c}{l:List c}:(a::l).set 0 b=b::l:=rfl
theorem jJ{c:Type}{a b:c}{l:List c}{i:Nat}:(a::l).set (i+1) b=a::l.set i b:=rfl
theorem jK{b:Type}{a d:b}{l:List b}:(a::l).getD 0 d=a:=rfl
theorem jL{b:Type}{a d:b}{l:List b}{i:Nat}:(a::l).getD (i+1) d=l.getD i d:=rfl
def jM{n:Nat}:0+n=n:=Nat.zero_add _
theorem jN:(!true)=fx:=rfl
theorem jO:(!false)=e6:=rfl
def jP:(fx=e6)=False:=d2
theorem tm{e:E}{xs:List PV}:xO e (.lst xs)=.ok xs:=rfl
theorem YJ{e:E}{xs:List PV}:xO e (.tup xs)=.ok xs:=rfl
theorem DZ{xs:List PV}:itemsOf (.tup xs)=.ok xs:=rfl
theorem VJ{xs:List PV}:itemsOf (.lst xs)=.ok xs:=rfl
theorem VL{z:Str}:itemsOf (.str z)=.ok (chars z):=rfl
theorem J4{i j:List PV}:binOp .add (.tup i) (.tup j)=if i.length+j.length<=cb then .ok (.tup (i++j)) else .bad:=rfl
theorem jQ{b:Type}{f:b->b}{a:b}{l:List b}:(a::l).modify 0 f=f a::l:=rfl
def jR{b:Type}{f:b->b}{a:b}{l:List b}{i:Nat}:(a::l).modify (i+1) f=a::l.modify i f:=by simp
theorem jS{b:Type}{a:b}:jZ 0 a=[]:=id rfl
theorem jT{b:Type}{a:b}{n:Nat}:jZ (n+1) a=a::jZ n a:=id rfl
def jU{n:Nat}:(n==n)=e6:=beq_self_eq_true n
abbrev J:=i2 @jS (i2 @jT (i2 @jU (i2 @Uv (i2 @YY (i2 @Yw (i2 @YL (i2 @YM (i2 @YK (i2 @sv (i2 @YO (i2 @YN (i2 @Xr (i2 @JY (i2 @J0 (i2 @JZ (i2 @Qd (i2 @Qc (i2 @Qb (i2 @Qa (i2 @Xy (i2 @XF (i2 @XD (i2 @XC (i2 @Xz (i2 @XB (i2 @Qj (i2 @oLt (i2 @oLe (i2 @Yt (i2 @lL (i2 @lT (i2 @lS (i2 @tL (i2 @aL (i2 @YV (i2 @YU (i2 @XS (i2 @jA (i2 @jB (i2 @jC (i2 @jD (i2 @jE (i2 @jF (i2 @jG (i2 @jH (i2 @jI (i2 @jJ (i2 @jK (i2 @jL (i2 @jM (i2 @jN (i2 @jO (i2 @jP (i2 @tm (i2 @YJ (i2 @DZ (i2 @VJ (i2 @VL (i2 @J4 (i2 @jQ (@jR)))))))))))))))))))))))))))))))))))))))))))))))))))))))))))))
def Lq{B:aN}{n:Str}{d:Def}{r:List (Str×Def)}:aG B ((n,d)::r) n=aV (aG B r) d:=by funext as;simp [aG]
def Lr{B:aN}{n:Str}{d:Def}{r:List (Str×Def)}(h:(f==n)=fx):aG B ((n,d)::r) f=aG B r f:=by funext as;simp [aG,h]
theorem n6{B:aN}:∀(n:Nat) {T:List (Str×Def)},((T.take n).all λx=>!(f==x.1))=e6->aG B T f=aG B (T.drop n) f
 |0,_,_=>rfl|n+1,[],_=>rfl|n+1,(m,d)::r,h=>by rw [List.take_succ_cons,List.all_cons,zza,Bool.not_eq_true'] at h;exact(Lr h.1).trans (n6 n h.2)
def n8{B:aN}{d:Def}{r T:List (Str×Def)}(k:Nat)(h:((T.take k).all λx=>!(f==x.1))=e6:=by decide+kernel)(e:T.drop k=(f,d)::r:=by rfl):aG B T f=aV (aG B r) d:=by rw [n6 k h,e];exact Lq
end KJ
local macro_rules | `(#v[]) => `(.nil) | `(#v[$x]) => `(.cons $x .nil) | `(#v[$x, $xs,*]) => `(.cons $x #v[$xs,*]) | `(!$n:num) => `(.var $n) | `(¬$n:num) => `(.cst (.int $n))
namespace K73
open L2 Ci
abbrev dy:Def:={["_law_kept","_law_kinds","_law_some"],1,#v[.set 1 (.lst #v[.yT "NoBack" (!0),.yT "NoFit" (!0),.yT (zu 56) (!0),.yT "NoName" (!0)]),.set 1 (.bin .add (!1) (.lst #v[.yT "NoSign" (!0),.yT "NoSize" (!0),.yT "NoSpot" (!0)])),.set 1 (.bin .add (!1) (.lst #v[.yT "NoText" (!0),.yT "NoWay" (!0)])),.ite (.or (.cmp .ne (.dY .jz (!1) #v[.cst (.bl e6)]) (¬1)) (.not (.yT (zu 1) (!0)))) #v[.ret (.cst (.str "wrong"))] .nil,.set 2 (.lst #v[.cst (.str "no back"),.cst (.str "no fit"),.cst (.str "no floor"),.cst (.str (zu 54)),.cst (.str "no sign"),.cst (.str "no size"),.cst (.str "no spot"),.cst (.str "no text"),.cst (.str "no way")]),.ret (.sub (!2) (.dY .index (!1) #v[.cst (.bl e6)]))],eX}
abbrev fc:Def:={["thing"],1,#v[.ret (.and (.ty .int (!0)) (.not (.ty .bool (!0))))],eX}
abbrev l5:Def:={["thing"],1,#v[.ite (.or (.not (.ty .str (!0))) (.not (.ch .le .le (¬1) (.blt .len #v[!0]) (.glob "LONGEST_NAME" (.int 6))))) #v[.ret (.cst (.bl fx))] .nil,.ret (.blt .all #v[.comp 1 [] (.one 0) (.seq (!0)) (.cmp .Gx (!0) (.glob "LETTERS" (.str (zu 15))))])],eX}
abbrev il:Def:={["thing"],1,#v[.ite (.not (.call "is_name" #v[!0])) #v[.raise "NoName" "a name has 1 to 6 letters a to z"] .nil],eX}
abbrev bZ:Def:={["floor","upwards","rows","column"],1,#v[.set 1 (.Eh (!0)),.own 2 (.lst .nil),.g9 (.one 3) (.sX (.blt .len #v[.sub (!0) (¬0)])) #v[.app 2 (.dY .join (.cst (.str "")) #v[.comp 1 [3] (.one 0) (.seq (!1)) (.sub (!0) (!1))])],.ret (.blt .tuple #v[.JI 2])],eX}
abbrev bE:Def:={["floor"],1,#v[.ret (.blt .tuple #v[.comp 1 [] (.one 0) (.seq (!0)) (.rev (!0))])],eX}
abbrev eU:Def:={["thing"],1,#v[.ret (.and (.ty .tuple (!0)) (.and (.cmp .eq (.blt .len #v[!0]) (¬2)) (.and (.call (zu 50) #v[.sub (!0) (¬0)]) (.call (zu 50) #v[.sub (!0) (¬1)]))))],eX}
abbrev cx:Def:={["floor","spot"],2,#v[.ret (.and (.ch .le .lt (¬0) (.sub (!1) (¬0)) (.blt .len #v[!0])) (.ch .le .lt (¬0) (.sub (!1) (¬1)) (.blt .len #v[.sub (!0) (.sub (!1) (¬0))])))],eX}
abbrev ba:Def:={["floor","spot"],2,#v[.ite (.not (.and (.call "is_spot" #v[!1]) (.call (zu 14) #v[!0,!1]))) #v[.raise "NoSpot" "the spot is not on the floor"] .nil],eX}
abbrev di:Def:={["thing"],1,#v[.ret (.and (.ty .str (!0)) (.and (.cmp .eq (.blt .len #v[!0]) (¬1)) (.cmp .Gx (!0) (.glob "SIGNS" (.str (zu 25))))))],eX}
abbrev dj:Def:={["sign"],1,#v[.ite (.not (.call (zu 37) #v[!0])) #v[.raise "NoSign" "this is no sign of a floor"] .nil],eX}
abbrev gb:Def:={["thing"],1,#v[.ite (.or (.not (.ty .str (!0))) (.not (.ch .le .le (¬1) (.blt .len #v[!0]) (.glob "LONGEST" (.int 12))))) #v[.ret (.cst (.bl fx))] .nil,.ret (.blt .all #v[.comp 1 [] (.one 0) (.seq (!0)) (.call (zu 37) #v[!0])])],eX}
abbrev dP:Def:={["thing"],1,#v[.ite (.or (.not (.ty .tuple (!0))) (.not (.ch .le .le (¬1) (.blt .len #v[!0]) (.glob "LONGEST" (.int 12))))) #v[.ret (.cst (.bl fx))] .nil,.ite (.not (.blt .all #v[.comp 1 [] (.one 0) (.seq (!0)) (.call "is_row" #v[!0])])) #v[.ret (.cst (.bl fx))] .nil,.ret (.blt .all #v[.comp 1 [0] (.one 0) (.seq (!0)) (.cmp .eq (.blt .len #v[!0]) (.blt .len #v[.sub (!1) (¬0)]))])],eX}
abbrev bO:Def:={["one","other"],2,#v[.ite (.cmp .ne (.blt .len #v[!0]) (.blt .len #v[!1])) #v[.raise "NoFit" "the floors have not as many rows"] .nil,.ite (.cmp .gt (.bin .add (.blt .len #v[.sub (!0) (¬0)]) (.blt .len #v[.sub (!1) (¬0)])) (.glob "LONGEST" (.int 12))) #v[.raise "NoFit" "there were more than 12 columns"] .nil,.ret (.blt .tuple #v[.comp 2 [] (.two 0 1) (.zip #v[!0,!1]) (.bin .add (!0) (!1))])],eX}
abbrev cf:Def:={["one","other"],2,#v[.ite (.cmp .ne (.blt .len #v[.sub (!0) (¬0)]) (.blt .len #v[.sub (!1) (¬0)])) #v[.raise "NoFit" "the floors have not as many columns"] .nil,.ite (.cmp .gt (.bin .add (.blt .len #v[!0]) (.blt .len #v[!1])) (.glob "LONGEST" (.int 12))) #v[.raise "NoFit" "there were more than 12 rows"] .nil,.ret (.bin .add (!0) (!1))],eX}
abbrev dk:Def:={["floor","spot","sign","signs","changed"],3,#v[.set 3 (.sub (!0) (.sub (!1) (¬0))),.set 4 (.bin .add (.bin .add (.slice (!3) .no (.some (.sub (!1) (¬1)))) (!2)) (.slice (!3) (.some (.bin .add (.sub (!1) (¬1)) (¬1))) .no)),.ret (.bin .add (.bin .add (.slice (!0) .no (.some (.sub (!1) (¬0)))) (.tup #v[!4])) (.slice (!0) (.some (.bin .add (.sub (!1) (¬0)) (¬1))) .no))],eX}
abbrev dg:Def:={["_law_script","_law_k"],2,#v[.ite (.cmp .lt (!1) (.blt .len #v[!0])) #v[.ret (.sub (!0) (!1))] .nil,.ite (.cmp .eq (!0) (.lst .nil)) #v[.ret (¬0)] .nil,.ret (.bin .add (.bin .mul (.sub (!0) (.bin .mod (!1) (.blt .len #v[!0]))) (¬31)) (!1))],eX}
abbrev dh:Def:={["_law_script","_law_k","_law_many","_law_drawn"],3,#v[.set 3 (.bin .mod (.bin .mul (.bin .add (.call (zu 48) #v[!0,!1]) (.bin .mul (¬6151) (.bin .add (!1) (¬1)))) (¬40692)) (¬2147483399)),.ret (.bin .mod (.bin .mod (.bin .add (.bin .mul (!3) (!3)) (.bin .fdiv (!3) (¬31))) (¬2147483629)) (!2))],eX}
abbrev cj:Def:={["_law_script","_law_at","_law_most","_law_rows","_law_columns","_law_shuts","_law_top","_law_made_here","_law_row","_law_signs","_law_column","_law_drawn"],3,#v[.set 3 (.bin .add (¬1) (.call (zu 7) #v[!0,!1,!2])),.set 4 (.bin .add (¬1) (.call (zu 7) #v[!0,.bin .add (!1) (¬1),!2])),.set 5 (.sub (.lst #v[¬0,¬2,¬4,¬6]) (.call (zu 7) #v[!0,.bin .add (!1) (¬2),¬4])),.set 6 (.sub (.lst #v[¬1,¬2,¬3,¬10]) (.call (zu 7) #v[!0,.bin .add (!1) (¬3),¬4])),.own 7 (.lst .nil),.g9 (.one 8) (.sX (!3)) #v[.set 9 (.cst (.str "")),.g9 (.one 10) (.sX (!4)) #v[.set 11 (.call (zu 7) #v[!0,.bin .add (.bin .add (.bin .add (!1) (¬4)) (.bin .mul (!2) (!8))) (!10),.bin .mul (¬12) (!6)]),.set 9 (.bin .add (!9) (.ite (.cmp .lt (.bin .mod (!11) (¬12)) (!5)) (.cst (.str "#")) (.blt .str #v[.bin .fdiv (!11) (¬12)])))],.app 7 (!9)],.ret (.blt .tuple #v[.JI 7])],eX}
abbrev bh:Def:={["_law_script","_law_at","_law_names","_law_name","_law_way","_law_spot","_law_one","_law_other"],2,#v[.set 2 (.lst #v[.cst (.str "a"),.cst (.str "tu"),.cst (.str "bcdefg"),.cst (.str "vwxyz")]),.par 3 4 #v[.sub (!2) (.call (zu 7) #v[!0,!1,¬4]),.call (zu 7) #v[!0,.bin .add (!1) (¬1),¬10]],.ite (.cmp .lt (!4) (¬3)) #v[.ret (.tup #v[.cst (.str "lay"),!3,.call (zu 38) #v[!0,.bin .add (!1) (¬10),¬3]])] .nil,.ite (.cmp .lt (!4) (¬6)) #v[.ret (.tup #v[.sub (.lst #v[.cst (.str "take"),.cst (.str "turn"),.cst (.str (zu 21))]) (.bin .sub (!4) (¬3)),!3])] .nil,.ite (.cmp .lt (!4) (¬8)) #v[.set 5 (.tup #v[.call (zu 7) #v[!0,.bin .add (!1) (¬2),¬4],.call (zu 7) #v[!0,.bin .add (!1) (¬3),¬4]]),.ret (.tup #v[.cst (.str "sign"),!3,!5,.sub (.cst (.str "#0359x")) (.call (zu 7) #v[!0,.bin .add (!1) (¬4),¬6])])] .nil,.par 6 7 #v[.sub (!2) (.call (zu 7) #v[!0,.bin .add (!1) (¬5),¬4]),.sub (!2) (.call (zu 7) #v[!0,.bin .add (!1) (¬6),¬4])],.ret (.tup #v[.cst (.str "join"),!3,.cmp .eq (.call (zu 7) #v[!0,.bin .add (!1) (¬7),¬2]) (¬0),!6,!7])],eX}
abbrev aR:Def:={["_law_floor_here",zu 41,"_law_made_here","_law_row","_law_column","_law_line"],2,#v[.ite (.cmp .eq (.sub (!1) (¬0)) (.cst (.str "turn"))) #v[.set 2 (.blt .tuple #v[.comp 1 [0] (.one 0) (.sX (.blt .len #v[.sub (!0) (¬0)])) (.dY .join (.cst (.str "")) #v[.comp 1 [0] (.one 0) (.seq (.rev (!1))) (.sub (!0) (!1))])]),.ret (.tup #v[!2,!2])] .nil,.ite (.cmp .eq (.sub (!1) (¬0)) (.cst (.str (zu 21)))) #v[.set 2 (.blt .tuple #v[.comp 1 [] (.one 0) (.seq (!0)) (.rev (!0))]),.ret (.tup #v[!2,!2])] .nil,.vT (.two 3 4) (.sub (!1) (¬2)),.ite (.or (.cmp .ge (!3) (.blt .len #v[!0])) (.cmp .ge (!4) (.blt .len #v[.sub (!0) (¬0)]))) #v[.ret (.tup #v[!0,.cst (.str "no spot")])] .nil,.ite (.cmp .eq (.sub (!1) (¬3)) (.cst (.str "x"))) #v[.ret (.tup #v[!0,.cst (.str "no sign")])] .nil,.set 5 (.sub (!0) (!3)),.set 5 (.bin .add (.bin .add (.slice (!5) .no (.some (!4))) (.sub (!1) (¬3))) (.slice (!5) (.some (.bin .add (!4) (¬1))) .no)),.ret (.tup #v[.bin .add (.bin .add (.slice (!0) .no (.some (!3))) (.tup #v[!5])) (.slice (!0) (.some (.bin .add (!3) (¬1))) .no),.tup #v[.sub (.sub (!0) (!3)) (!4)]])],eX}
abbrev ag:Def:={["_law_known",zu 41,"_law_rest","_law_needed","_law_one","_law_other","_law_made_here","_law_told_here"],2,#v[.vp 2 (.fH 1 [0,1] (.one 0) (.seq (!0)) (.cmp .ne (!0) (.sub (!2) (¬1))) (.tup #v[!0,.sub (!1) (!0)])),.ite (.cmp .eq (.sub (!1) (¬0)) (.cst (.str "lay"))) #v[.put 2 (.sub (!1) (¬1)) (.sub (!1) (¬2)),.bR 2,.ret (.tup #v[!2,.cmp .Gx (.sub (!1) (¬1)) (!0)])] .nil,.set 3 (.ite (.cmp .ne (.sub (!1) (¬0)) (.cst (.str "join"))) (.lst #v[.sub (!1) (¬1)]) (.lst #v[.sub (!1) (¬3),.sub (!1) (¬4)])),.ite (.cmp .ne (.fH 1 [0] (.one 0) (.seq (!3)) (.cmp .Ey (!0) (!1)) (!0)) (.lst .nil)) #v[.ret (.tup #v[!0,.cst (.str (zu 54))])] .nil,.ite (.cmp .eq (.sub (!1) (¬0)) (.cst (.str "take"))) #v[.bR 2,.ret (.tup #v[!2,.sub (!0) (.sub (!1) (¬1))])] .nil,.ite (.cmp .eq (.sub (!1) (¬0)) (.cst (.str "join"))) #v[.par 4 5 #v[.sub (!0) (.sub (!1) (¬3)),.sub (!0) (.sub (!1) (¬4))],.set 6 (.ite (.and (.not (.sub (!1) (¬2))) (.cmp .eq (.blt .len #v[.sub (!4) (¬0)]) (.blt .len #v[.sub (!5) (¬0)]))) (.bin .add (!4) (!5)) (.cst .aP)),.ite (.and (.sub (!1) (¬2)) (.cmp .eq (.blt .len #v[!4]) (.blt .len #v[!5]))) #v[.set 6 (.blt .tuple #v[.comp 2 [] (.two 0 1) (.zip #v[!4,!5]) (.bin .add (!0) (!1))])] .nil,.ite (.or (.cmp .is (!6) (.cst .aP)) (.or (.cmp .gt (.blt .len #v[!6]) (¬12)) (.cmp .gt (.blt .len #v[.sub (!6) (¬0)]) (¬12)))) #v[.ret (.tup #v[!0,.cst (.str "no fit")])] .nil,.set 7 (!6)] #v[.vT (.two 6 7) (.call (zu 22) #v[.sub (!0) (.sub (!1) (¬1)),!1]),.ite (.ty .str (!7)) #v[.ret (.tup #v[!0,!7])] .nil],.put 2 (.sub (!1) (¬1)) (!6),.bR 2,.ret (.tup #v[!2,!7])],eX}
abbrev dN:D2:={["self"],1,(.cons (.vH "Atlas" 0 (zu 46) .CD)
 (.cons (.vH "Atlas" 0 "done" (.xm .nil))
 (.cons (.vH "Atlas" 0 "undone" (.xm .nil))
 .nil)))}
abbrev dO:D2:={["self","name"],2,(.cons (.p (.expr (.call (zu 35) #v[!1])))
 (.cons (.p (.ite (.cmp .Ey (!1) (.con (.fld 0 (zu 46))))
  (.cons (.raise "NoName" "no floor has this name")
  .nil)
  .nil))
 (.cons (.p (.ret (.sub (.con (.fld 0 (zu 46))) (!1))))
 .nil)))}
abbrev gG:D2:={["self","name","floor"],3,(.cons (.ite (.pu (.cmp .is (!2) (.cst .aP)))
 (.cons (.ex (.qF (.fld 0 (zu 46)) (!1)))
 .nil)
 (.cons (.Bs (.fld 0 (zu 46)) (!1) (!2))
 .nil))
 .nil)}
abbrev gJ:D2:={["self","word","name","floor"],4,(.cons (.ex (.uf (.fld 0 "done") (.pu (.tup #v[!1,!2,.get (.con (.fld 0 (zu 46))) (!2),!3]))))
 (.cons (.vH "Atlas" 0 "undone" (.xm .nil))
 (.cons (.ex (.met (!0) "Atlas" "give" #v[!2,!3]))
 .nil)))}
abbrev gH:D2:={["self","name","is_east","one","other","first","second","joined"],5,(.cons (.p (.expr (.call (zu 35) #v[!1])))
 (.cons (.set 5 (.met (!0) "Atlas" (zu 31) #v[!3]))
 (.cons (.set 6 (.met (!0) "Atlas" (zu 31) #v[!4]))
 (.cons (.p (.set 7 (.ite (!2) (.call (zu 33) #v[!5,!6]) (.call (zu 43) #v[!5,!6]))))
 (.cons (.ex (.met (!0) "Atlas" "step" #v[.cst (.str "join"),!1,!7]))
 (.cons (.p (.ret (!7)))
 .nil))))))}
abbrev gL:D2:={["self","name","turned"],2,(.cons (.set 2 (.c1 (zu 18) #v[.met (!0) "Atlas" (zu 31) #v[!1]]))
 (.cons (.ex (.met (!0) "Atlas" "step" #v[.cst (.str "turn"),!1,!2]))
 (.cons (.p (.ret (!2)))
 .nil)))}
abbrev e9:D2:={["self","name","mirrored"],2,(.cons (.set 2 (.c1 (zu 13) #v[.met (!0) "Atlas" (zu 31) #v[!1]]))
 (.cons (.ex (.met (!0) "Atlas" "step" #v[.cst (.str (zu 21)),!1,!2]))
 (.cons (.p (.ret (!2)))
 .nil)))}
abbrev ik:D2:={["self","name","floor","had_one"],3,(.cons (.p (.ite (.not (.call (zu 51) #v[!2]))
 (.cons (.raise (zu 56) "this is no floor")
 .nil)
 .nil))
 (.cons (.p (.expr (.call (zu 35) #v[!1])))
 (.cons (.p (.set 3 (.cmp .Gx (!1) (.con (.fld 0 (zu 46))))))
 (.cons (.ex (.met (!0) "Atlas" "step" #v[.cst (.str "lay"),!1,!2]))
 (.cons (.p (.ret (!3)))
 .nil)))))}
abbrev gK:D2:={["self","name","floor"],2,(.cons (.set 2 (.met (!0) "Atlas" (zu 31) #v[!1]))
 (.cons (.ex (.met (!0) "Atlas" "step" #v[.cst (.str "take"),!1,.cst .aP]))
 (.cons (.p (.ret (!2)))
 .nil)))}
abbrev gI:D2:={["self","name","spot","sign","floor"],4,(.cons (.set 4 (.met (!0) "Atlas" (zu 31) #v[!1]))
 (.cons (.p (.expr (.call (zu 17) #v[!4,!2])))
 (.cons (.p (.expr (.call (zu 44) #v[!3])))
 (.cons (.ex (.met (!0) "Atlas" "step" #v[.cst (.str "sign"),!1,.call (zu 42) #v[!4,!2,!3]]))
 (.cons (.p (.ret (.sub (.sub (!4) (.sub (!2) (¬0))) (.sub (!2) (¬1)))))
 .nil)))))}
abbrev fK:D2:={["self"],1,(.cons (.p (.ret (.blt .sorted #v[.con (.fld 0 (zu 46))])))
 .nil)}
abbrev fJ:D2:={["self"],1,(.cons (.p (.ret (.tup #v[.blt .len #v[.con (.fld 0 "done")],.blt .len #v[.con (.fld 0 "undone")]])))
 .nil)}
abbrev gF:D2:={["self","step"],1,(.cons (.p (.ite (.cmp .eq (.blt .len #v[.con (.fld 0 "done")]) (¬0))
 (.cons (.raise "NoBack" "there is nothing to take back")
 .nil)
 .nil))
 (.cons (.set 1 (.xG (.fld 0 "done")))
 (.cons (.ex (.uf (.fld 0 "undone") (.pu (!1))))
 (.cons (.ex (.met (!0) "Atlas" "give" #v[.sub (!1) (¬1),.sub (!1) (¬2)]))
 (.cons (.p (.ret (.sub (!1) (¬0))))
 .nil)))))}
abbrev fI:D2:={["self","step"],1,(.cons (.p (.ite (.cmp .eq (.blt .len #v[.con (.fld 0 "undone")]) (¬0))
 (.cons (.raise "NoBack" "there is nothing to do again")
 .nil)
 .nil))
 (.cons (.set 1 (.xG (.fld 0 "undone")))
 (.cons (.ex (.uf (.fld 0 "done") (.pu (!1))))
 (.cons (.ex (.met (!0) "Atlas" "give" #v[.sub (!1) (¬1),.sub (!1) (¬3)]))
 (.cons (.p (.ret (.sub (!1) (¬0))))
 .nil)))))}
def mr:D2:={[],1000,.nil}
abbrev jW:D2:={["_law_atlas",zu 41],2,(.cons (.ite (.pu (.cmp .Gx (.sub (!1) (¬0)) (.tup #v[.cst (.str "lay"),.cst (.str "take")])))
 (.cons (.ret (.FQ (zu 29) [1,0] (.ite (.cmp .eq (.sub (!0) (¬0)) (.cst (.str "lay"))) (.met (!1) "Atlas" "lay" #v[.sub (!0) (¬1),.sub (!0) (¬2)]) (.met (!1) "Atlas" "take" #v[.sub (!0) (¬1)]))))
 .nil)
 .nil)
 (.cons (.ite (.pu (.cmp .eq (.sub (!1) (¬0)) (.cst (.str "sign"))))
  (.cons (.ret (.FQ (zu 29) [1,0] (.tup #v[.met (!1) "Atlas" "sign" #v[.sub (!0) (¬1),.sub (!0) (¬2),.sub (!0) (¬3)]])))
  .nil)
  .nil)
 (.cons (.ite (.pu (.cmp .eq (.sub (!1) (¬0)) (.cst (.str "join"))))
  (.cons (.ret (.FQ (zu 29) [1,0] (.met (!1) "Atlas" "join" #v[.sub (!0) (¬1),.sub (!0) (¬2),.sub (!0) (¬3),.sub (!0) (¬4)])))
  .nil)
  .nil)
 (.cons (.ret (.FQ (zu 29) [1,0] (.ite (.cmp .eq (.sub (!0) (¬0)) (.cst (.str "turn"))) (.met (!1) "Atlas" "turn" #v[.sub (!0) (¬1)]) (.met (!1) "Atlas" (zu 21) #v[.sub (!0) (¬1)]))))
 .nil))))}
abbrev fL:D2:={["_law_atlas"],1,(.cons (.ret (.dict (.n5 1 [0] (.one 0) (.met (!0) "Atlas" "names" .nil) (.tup #v[.pu (!0),.met (!1) "Atlas" (zu 31) #v[!0]]))))
 .nil)}
abbrev jh:D2:={["_law_script","_law_atlas","_law_rows","_law_words","_law_at","_law_k","_law_way",zu 41,"_law_known","_law_due"],1,(.cons (.vT (.four 1 2 3 4) (.tup #v[.new "Atlas" .nil,.pu (.lst #v[.Pc]),.pu (.lst .nil),.pu (¬0)]))
 (.cons (.g9 (.one 5) (.sX (¬18))
  (.cons (.p (.set 6 (.call (zu 7) #v[!0,.bin .add (¬900) (!5),¬7])))
  (.cons (.ite (.pu (.cmp .lt (!6) (¬4)))
   (.cons (.p (.set 7 (.call (zu 47) #v[!0,.bin .add (¬1000) (.bin .mul (¬60) (!5))])))
   (.cons (.p (.vT (.two 8 9) (.call (zu 24) #v[.sub (!2) (!4),!7])))
   (.cons (.ite (.cmp .ne (.vZ (zu 26) #v[!1,!7]) (.pu (!9)))
    (.cons (.p (.ret (.cst (.bl fx))))
    .nil)
    .nil)
   (.cons (.p (.ite (.not (.ty .str (!9)))
    (.cons (.set 2 (.bin .add (.slice (!2) .no (.some (.bin .add (!4) (¬1)))) (.lst #v[!8])))
    (.cons (.set 3 (.bin .add (.slice (!3) .no (.some (!4))) (.lst #v[.sub (!7) (¬0)])))
    (.cons (.set 4 (.bin .add (!4) (¬1)))
    .nil)))
    .nil))
   .nil))))
   (.cons (.ite (.pu (.cmp .lt (!6) (¬6)))
    (.cons (.ite (.cmp .ne (.FQ (zu 29) [1] (.met (!0) "Atlas" "back" .nil)) (.pu (.ite (.cmp .gt (!4) (¬0)) (.sub (!3) (.bin .sub (!4) (¬1))) (.cst (.str "no back")))))
     (.cons (.p (.ret (.cst (.bl fx))))
     .nil)
     .nil)
    (.cons (.p (.set 4 (.blt .max2 #v[¬0,.bin .sub (!4) (¬1)])))
    .nil))
    (.cons (.ite (.cmp .ne (.FQ (zu 29) [1] (.met (!0) "Atlas" "forth" .nil)) (.pu (.ite (.cmp .lt (!4) (.blt .len #v[!3])) (.sub (!3) (!4)) (.cst (.str "no back")))))
     (.cons (.p (.ret (.cst (.bl fx))))
     .nil)
     .nil)
    (.cons (.p (.set 4 (.blt .min2 #v[.blt .len #v[!3],.bin .add (!4) (¬1)])))
    .nil)))
   .nil))
  (.cons (.ite (.or (.cmp .Kl (.vZ (zu 19) #v[!1]) (.pu (.sub (!2) (!4)))) (.cmp .ne (.met (!1) "Atlas" "marks" .nil) (.pu (.tup #v[!4,.bin .sub (.blt .len #v[!3]) (!4)]))))
   (.cons (.p (.ret (.cst (.bl fx))))
   .nil)
   .nil)
  .nil))))
 (.cons (.p (.ret (.cst (.bl e6))))
 .nil)))}
def T0:List (Str×Def):=[]
abbrev T1:List (Str×Def):=((zu 9:Str),dy)::T0
abbrev T2:List (Str×Def):=((zu 50:Str),fc)::T1
abbrev T3:List (Str×Def):=(("is_name":Str),l5)::T2
abbrev T4:List (Str×Def):=((zu 35:Str),il)::T3
abbrev T5:List (Str×Def):=((zu 18:Str),bZ)::T4
abbrev T6:List (Str×Def):=((zu 13:Str),bE)::T5
abbrev T7:List (Str×Def):=(("is_spot":Str),eU)::T6
abbrev T8:List (Str×Def):=((zu 14:Str),cx)::T7
abbrev T9:List (Str×Def):=((zu 17:Str),ba)::T8
abbrev O7:List (Str×Def):=((zu 37:Str),di)::T9
abbrev TZ:List (Str×Def):=((zu 44:Str),dj)::O7
abbrev Ua:List (Str×Def):=(("is_row":Str),gb)::TZ
abbrev Xj:List (Str×Def):=((zu 51:Str),dP)::Ua
abbrev Xk:List (Str×Def):=((zu 33:Str),bO)::Xj
abbrev Xl:List (Str×Def):=((zu 43:Str),cf)::Xk
abbrev Xm:List (Str×Def):=((zu 42:Str),dk)::Xl
abbrev Ub:List (Str×Def):=((zu 48:Str),dg)::Xm
abbrev SY:List (Str×Def):=((zu 7:Str),dh)::Ub
abbrev PZ:List (Str×Def):=((zu 38:Str),cj)::SY
abbrev Xn:List (Str×Def):=((zu 47:Str),bh)::PZ
abbrev Uc:List (Str×Def):=((zu 22:Str),aR)::Xn
abbrev qj:List (Str×Def):=((zu 24:Str),ag)::Uc
def U0:List (Str×D2):=[]
abbrev U1:List (Str×D2):=((zu 57:Str),dN)::U0
abbrev U2:List (Str×D2):=((zu 30:Str),dO)::U1
abbrev U3:List (Str×D2):=(("Atlas.give":Str),gG)::U2
abbrev U4:List (Str×D2):=(("Atlas.step":Str),gJ)::U3
abbrev U5:List (Str×D2):=(("Atlas.join":Str),gH)::U4
abbrev U6:List (Str×D2):=(("Atlas.turn":Str),gL)::U5
abbrev U7:List (Str×D2):=((zu 53:Str),e9)::U6
abbrev U8:List (Str×D2):=(("Atlas.lay":Str),ik)::U7
abbrev U9:List (Str×D2):=(("Atlas.take":Str),gK)::U8
abbrev Y5:List (Str×D2):=(("Atlas.sign":Str),gI)::U9
abbrev Y6:List (Str×D2):=(("Atlas.names":Str),fK)::Y5
abbrev Y7:List (Str×D2):=(("Atlas.marks":Str),fJ)::Y6
abbrev Y8:List (Str×D2):=((zu 45:Str),gF)::Y7
abbrev Y9:List (Str×D2):=((zu 39:Str),fI)::Y8
abbrev Za:List (Str×D2):=((zu 29:Str),mr)::Y9
abbrev O8:List (Str×D2):=((zu 26:Str),jW)::Za
abbrev BO:List (Str×D2):=((zu 19:Str),fL)::O8
noncomputable abbrev F1:Sg->aN:=λs=>aG (aU s) qj
noncomputable abbrev F2:gB:=b8 F1 BO
end K73
namespace K73
open L2 Ci KJ
noncomputable abbrev sp(r c:Int):PV:=.tup [.int r,.int c]
noncomputable abbrev m7(ns:List Int):PV:=.lst (ns.map .int)
theorem XA:cG .gt=xx:=rfl
theorem Yu{i j:Int}:xx (.int i) (.int j)=.ok (.bl (decide (j<i))):=rfl
theorem YH{r c:Int}:ay (sp r c) (.int 0)=.ok (.int r):=rfl
theorem YI{r c:Int}:ay (sp r c) (.int 1)=.ok (.int c):=rfl
theorem nI{i j:Int}:iF (.int i) (.int j)=.ok (.bl (!(i==j))):=rfl
theorem eI{i j:Int}:gO (.int i) (.int j)=.ok (.bl (i==j)):=rfl
abbrev J2:=i2 @YH (i2 @YI (i2 @XA (i2 @Yu (i2 @nI (i2 @eI (i2 @VJ (i2 @DZ (@VL))))))))
set_option hygiene false
local macro_rules|`(tactic|simp! only [$x,*] $[$l:location]?)=>do let q<-("aV fj eY bj du az bJ Gq wN eQ nc oB jZ Nat.reduceAdd Nat.reduceSub reduceIte ite_true ite_false BEq.rfl beq_self_eq_true jS jT jU Uv YY Yw YL YM YK sv YO YN Xr JY J0 JZ Qd Qc Qb Qa Xy XF XD XC Xz XB Qj oLt oLe Yt lL lT lS tL aL YV YU XS jA jB jC jD jE jF jG jH jI jJ jK jL jM jN jO jP KJ.tm YJ DZ VJ VL J4 jQ jR YH YI XA Yu nI eI".splitOn " ").toArray.mapM fun n=>`(Lean.Parser.Tactic.simpLemma|$(Lean.mkIdent n.toName):ident);`(tactic|simp only [$[$q:simpLemma],*,$x,*] $[$l]?)
local macro_rules|`(tactic|dsimp! only [$x,*] $[$l:location]?)=>do let q<-("aV fj eY bj du az bJ Gq wN eQ nc oB jZ Nat.reduceAdd Nat.reduceSub reduceIte ite_true ite_false BEq.rfl beq_self_eq_true J J2".splitOn " ").toArray.mapM fun n=>`(Lean.Parser.Tactic.simpLemma|$(Lean.mkIdent n.toName):ident);`(tactic|simp only [$[$q:simpLemma],*,$x,*] $[$l]?)
set_option hygiene true
theorem se(F:aN)(i:Int):aV F fc [.int i]=.ok (.bl e6):=by rfl
def nS{a:Type}{xs:List a}{k:Nat}(h:k<xs.length):wy xs (k:Int)=eW xs[k]:=by
 unfold wy Pq;have:((k:Nat):Int)<(xs.length:Int):=by lia
 simp [this,h]
def ym{k:Int}(a:0<=k)(h:k<ns.length):∃m,wy (ns.map PV.int) k=eW (.int m):=by let(j,rfl):=el a;refine{ns[j]'(by lia),?_};rw [nS (k:=j) (by simp;lia)];simp
def E7(ns:List Int)(n:Nat):Ci.plain (n+1) (.lst (ns.map .int))=e6:=by
 simp! [Ci.plain,cZ,er]
 rintro x ⟨i,_,rfl⟩
 cases n<;>rfl
def eq_nil(ns:List Int):gO (m7 ns) (.lst [])=.ok (.bl (decide (ns=[]))):=by have e:m6 (m7 ns)=e6:=E7 ns 8;unfold gO;rw [e];cases ns<;>rfl
def G7(F:aN)(ns:List Int)(k:Int)(hk:0<=k):∃m,aV F dg [m7 ns,.int k]=.ok (.int m):=by
 simp! only [dg,zzl,eq_nil];by_cases h:k<(ns.length:Int)
 .let(m,e):=ym hk h;refine{m,?_};simp! only [h,decide_true,ay,e]
 .simp! only [h,decide_false,eq_nil];cases ns with
  |nil=>exact{0,rfl}|cons n ns=>
   have hl:(0:Int)<((n::ns).length:Int):=by simp! [bV];lia
   let(m,e):=ym (ns:=n::ns) (k:=k%((n::ns).length:Int)) (Int.emod_nonneg _ (by lia)) (Int.emod_lt_of_pos _ hl);refine{m*31+k,?_};have e3:(bg m||bg 31)=e6:=by rw [ej];exact .inr ↑2
   have a:ay (m7 (n::ns)) (.int (k%((n::ns).length:Int)))=.ok (.int m):=by simp! [ay,e];rfl
   have b:decide ((n::ns)=[])=fx:=rfl;simp! [bV] at hl a;simp! only [b,zzl,hl,a,e3]
def Jd(F:aN)(f:∀ns k,0<=k->∃m,F (zu 48) [m7 ns,.int k]=.ok (.int m))(ns:List Int)(k q:Int)(hk:0<=k)(a:0<q):∃m,aV F dh [m7 ns,.int k,.int q]=.ok (.int m)/\0<=m/\m<q:=by
 let(m,e):=f ns k hk;have g:(bg 6151||bg (k+1))=e6:=by rw [ej];exact .inl ↑2
 have h:(bg (m+6151*(k+1))||bg 40692)=e6:=by rw [ej];exact .inr ↑2
 have c:(0:Int)<2147483399:=↑2
 have i:(0:Int)<2147483629:=↑2
 have j:(0:Int)<31/\(31:Int)<1073741824:=↑2
 have o:=Int.emod_nonneg ((m+6151*(k+1))*40692) (b:=2147483399) ↑2;have p:=Int.emod_lt_of_pos ((m+6151*(k+1))*40692) c;refine{((((m+6151*(k+1))*40692%2147483399)*((m+6151*(k+1))*40692%2147483399)+((m+6151*(k+1))*40692%2147483399)/31)%2147483629)%q,?_,Int.emod_nonneg _ (by lia),Int.emod_lt_of_pos _ a};generalize hd:(m+6151*(k+1))*40692%2147483399=d at o p
 have r:(bg d||bg d)=e6:=by
  have:bg d=e6:=by simp! [bg,zza,zzN];lia
  rw [this];rfl
 simp! only [dh,m7] at e⊢;simp! only [e,g,h,c,i,j,hd,r,a,and_self]
def PX(a:List Str):Prop:=a.length<=12/\∀z∈a,z.length<=12
noncomputable abbrev fl(a:List Str):PV:=.tup (a.map .str)
abbrev cd(a:List Str)(r c:Nat):Option Nat:=(a[r]?).bind λz=>z.cps.toList[c]?
def xb(F:aN)(h:∀i,F (zu 50) [.int i]=.ok (.bl e6))(r c:Int):aV F eU [sp r c]=.ok (.bl e6):=by have a:ay (sp r c) (.int 0)=.ok (.int r):=rfl;have b:ay (sp r c) (.int 1)=.ok (.int c):=rfl;have d:gO (.int ((2:Nat):Int)) (.int 2)=.ok (.bl e6):=rfl;simp! only [eU,wz,h,a,b,d]
def RI(F:aN)(a:List Str)(R:PX a)(r c:Int):aV F cx [fl a,sp r c]=.ok (.bl (decide (0<=r)&&decide (0<=c)&&(cd a r.toNat c.toNat).isSome)):=by
 have g:ay (sp r c) (.int 0)=.ok (.int r):=rfl;have h:ay (sp r c) (.int 1)=.ok (.int c):=rfl;simp! only [cx,wz,g,h,vn,vo,zzl];by_cases h0:0<=r
 .by_cases f:r<(a.length:Int)
  .let(j,rfl):=el h0;have d:j<a.length:=by lia
   have m:ay (fl a) (.int (j:Int))=.ok (.str a[j]):=by simp! [ay,fl];rw [nS (k:=j) (zx6 d)];simp [Res.of]
   have e3:(a[j]).length<=cb:=c4 (R.2 _ (List.getElem_mem d)) ↑2;have o:(a[j]).cps.size=(a[j]).length:=rfl;simp! only [h0,f,decide_true,m,e3];by_cases e:0<=c
   .let(i,rfl):=el e;simp! only [e,decide_true,cd,ey,zzg d,Option.bind_some,Bool.and_self,Bool.true_and];refine congrArg (λb=>Res.ok (PV.bl b)) ?_;rw [Bool.eq_iff_iff];simp [o]
   .simp [aV,fj,eY,bj,du,az,bJ,Gq,wN,eQ,nc,oB,jZ,Nat.reduceAdd,Nat.reduceSub,reduceIte,ite_true,ite_false,BEq.rfl,beq_self_eq_true,J,e]
  .have:cd a r.toNat c.toNat=eX:=by
    unfold cd;rw [List.getElem?_eq_none (by lia)];rfl
   simp [aV,fj,eY,bj,du,az,bJ,Gq,wN,eQ,nc,oB,jZ,Nat.reduceAdd,Nat.reduceSub,reduceIte,ite_true,ite_false,BEq.rfl,beq_self_eq_true,J,h0,f,this]
 .simp [aV,fj,eY,bj,du,az,bJ,Gq,wN,eQ,nc,oB,jZ,Nat.reduceAdd,Nat.reduceSub,reduceIte,ite_true,ite_false,BEq.rfl,beq_self_eq_true,J,h0]
def kc{a:List Str}(h:a[j]?=eW z):ay (fl a) (.int (j:Int))=.ok (.str z):=by let(b,rfl):=bD.1 h;simp! [ay,fl];rw [nS (k:=j) (zx6 b)];simp [Res.of]
def sZ{i x:Nat}(hz:z.length<=cb)(h:z.cps.toList[i]?=eW x):ay (.str z) (.int (i:Int))=.ok (.str {#[x]}):=by let(a,rfl):=bD.1 h;simp! [ay,hz,if_true];rw [nS (k:=i) a];rfl
theorem df{a:Type}{f:PV->Res (Option PV)}{p:a->PV}{g:a->PV}:∀{xs:List a},(∀x∈xs,f (p x)=.ok (eW (g x)))->aW f (xs.map p)=.ok (xs.map g)
 |[],_=>rfl|x::xs,h=>by simp! [a8,aW,h x (b4 ..),Res.well,Res.bind,df (xs:=xs) λy b=>h y (bI _ b),oc]
theorem iR{body:PV->Sl->Res Fl}{P:Nat->Sl->Prop}:∀(xs:List PV) (k:Nat) (env:Sl),P k env->(∀i x env,xs[i]?=eW x->P (k+i) env->∃a,body x env=.ok (.nx a)/\P (k+i+1) a)->∃a,forL body xs env=.ok (.nx a)/\P (k+xs.length) a
 |[],k,env,h,_=>⟨env,rfl,h⟩|x::xs,k,env,h,g=>by
  let(e1,b,c):=g 0 x env rfl h;let(d,e,f):=iR xs (k+1) e1 c λi y env j m=>by let(e3,o,p):=g (i+1) y env j (by rw [show k+(i+1)=k+1+i by lia];exact m);exact{e3,o,by rw [show k+1+i+1=k+(i+1)+1 by lia];exact p}
  refine{d,?_,by rw [bV,show k+(xs.length+1)=k+1+xs.length by lia];exact f};simp! [forL,b,Uv,e]
def sY{n i:Nat}{x:PV}(h:(fO 0 n)[i]?=eW x):i<n/\x=.int (i:Int):=by simp! [fO,cz,bM] at h;let(j,c,rfl):=h;let(a,b):=bD.1 c;simp! [List.getElem_range] at b;subst b;simp! [List.length_range] at a;exact{a,by simp}
def lY(F:aN):Prop:=∀(ns:List Int) (k q:Int),0<=k->0<q->∃m,F (zu 7) [m7 ns,.int k,.int q]=.ok (.int m)/\0<=m/\m<q
def yE{a b c d m:Int}(e:0<=m)(f:m<4):∃v,ay (.lst [.int a,.int b,.int c,.int d]) (.int m)=.ok (.int v)/\(v=a\/v=b\/v=c\/v=d):=by
 have:m=0\/m=1\/m=2\/m=3:=by lia
 rcases this with rfl|rfl|rfl|rfl
 .exact{a,rfl,.inl rfl}
 .exact{b,rfl,.inr (.inl rfl)}
 .exact{c,rfl,.inr (.inr (.inl rfl))}
 .exact{d,rfl,.inr (.inr (.inr rfl))}
abbrev Ka:Ss:=#v[.set 11 (.call (zu 7) #v[!0,.bin .add (.bin .add (.bin .add (!1) (¬4)) (.bin .mul (!2) (!8))) (!10),.bin .mul (¬12) (!6)]),.set 9 (.bin .add (!9) (.ite (.cmp .lt (.bin .mod (!11) (¬12)) (!5)) (.cst (.str "#")) (.blt .str #v[.bin .fdiv (!11) (¬12)])))]
abbrev Ly:Ss:=#v[.set 9 (.cst (.str "")),.g9 (.one 10) (.sX (!4)) Ka,.app 7 (!9)]
structure Fl(ae:List Str)(w:Nat):Prop where
 jk:PX ae
 ne:0<ae.length
 w1:1<=w
 dU:∀z∈ae,z.length=w
 dig:∀z∈ae,∀x∈z.cps.toList,x=35\/(48<=x/\x<=57)
def JG{v:Int}(b:0<=v)(c:v<10):dv .str [.int v]=.ok (.str {#[48+v.toNat]}):=by
 let(n,rfl):=el b;have a:∀k:Fin 10,(((k.1:Nat):Int).natAbs.log2<1920)/\((toString ((k.1:Nat):Int)):Str)={#[48+k.1]}:=↑1
 have k:=a {n,Int.ofNat_lt.1 c};show(if _ then Res.ok (PV.str _) else _)=_;rw [if_pos k.1,ey,k.2]
def MV(F:aN)(A:lY F)(ns:List Int)(k0:Int)(E:0<=k0)(q a b d tp:Int)(B:0<=q)(G:q<=6)(H:1<=tp)(I:tp<=10)(own:PV)(i n:Nat)(hn:n<=6)(o p:Ci.Slot):
 ∃(z:Str) (f g:Ci.Slot),z.length=n/\(∀x∈z.cps.toList,x=35\/(48<=x/\x<=57))/\forL (λx env=>((Tg.one 10).put x env).bind λh=>bj F Ka h) (fO 0 n) [.val (m7 ns),.val (.int k0),.val (.int q),.val (.int a),.val (.int b),.val (.int d),.val (.int tp),.own own,.val (.int i),.val (.str ""),o,p]=
  .ok (.nx [.val (m7 ns),.val (.int k0),.val (.int q),.val (.int a),.val (.int b),.val (.int d),.val (.int tp),.own own,.val (.int i),.val (.str z),f,g]):=by
 let(h,e,z,f,g,r,hd,rfl):=iR (body:=λx env=>((Tg.one 10).put x env).bind λh=>bj F Ka h) (P:=λj env=>∃(z:Str) (f g:Ci.Slot),z.length=j/\(∀x∈z.cps.toList,x=35\/(48<=x/\x<=57))/\env=[.val (m7 ns),.val (.int k0),.val (.int q),.val (.int a),.val (.int b),.val (.int d),.val (.int tp),.own own,.val (.int i),.val (.str z),f,g]) (fO 0 n) 0 [.val (m7 ns),.val (.int k0),.val (.int q),.val (.int a),.val (.int b),.val (.int d),.val (.int tp),.own own,.val (.int i),.val (.str ""),o,p] {_,_,_,by decide+kernel,by decide+kernel,rfl} (by
  intro j x env c C;let(K,rfl):=sY c;let(z,f,g,r,hd,rfl):=C;let(m,s,L,m1):=A ns (k0+4+q*(i:Int)+(j:Int)) (12*tp) (by have:=Int.mul_nonneg B (Int.natCast_nonneg i);lia) (by lia)
  have t:(bg q||bg (i:Int))=e6:=by
   have:bg q=e6:=by simp! [bg,zza,zzN];lia
   rw [this];rfl
  have u:(bg 12||bg tp)=e6:=by rw [ej];exact .inl ↑2
  have w:(0:Int)<12:=↑2
  have y:(0:Int)<12/\(12:Int)<1073741824:=↑2
  have D:=JG (v:=m/12) (by lia) (by lia);have k:(("#":Str))={#[35]}:=↑1
  by_cases hm:m%12<d
  .refine{[.val (m7 ns),.val (.int k0),.val (.int q),.val (.int a),.val (.int b),.val (.int d),.val (.int tp),.own own,.val (.int i),.val (.str (z++"#")),.val (.int j),.val (.int m)],?_,_,_,_,?_,?_,rfl}
   .have l:z.length+(("#":Str)).length<=cb:=c4 (show _<=8 by rw [k];show z.length+1<=8;lia) ↑2;simp! only [Ka,t,u,w,y,s,hm,decide_true,l,and_self]
   .rw [Str.length_append,k];show z.length+1=_;lia
   .rw [k];show∀x∈(z.cps++#[35]).toList,_;intro x c;simp! [Array.toList_append,List.mem_append,d3] at c;rcases c with c|c
    .exact hd x c
    .exact .inl c
  .refine{[.val (m7 ns),.val (.int k0),.val (.int q),.val (.int a),.val (.int b),.val (.int d),.val (.int tp),.own own,.val (.int i),.val (.str (z++{#[48+(m/12).toNat]})),.val (.int j),.val (.int m)],?_,_,_,_,?_,?_,rfl}
   .have l:z.length+({#[48+(m/12).toNat]}:Str).length<=cb:=c4 (show z.length+1<=8 by lia) ↑2;simp! only [Ka,t,u,w,y,s,hm,decide_false,l,and_self,D]
   .rw [Str.length_append];show z.length+1=_;lia
   .show∀x∈(z.cps++#[48+(m/12).toNat]).toList,_
    intro x c;simp! [Array.toList_append,List.mem_append,d3] at c;rcases c with c|c
    .exact hd x c
    .exact .inr (by lia))
 refine{z,f,g,?_,hd,e};simpa [fO] using r
def AK(F:aN)(j:lY F)(ns:List Int)(k0:Int)(A:0<=k0)(q:Int)(X:1<=q)(D:q<=6):∃f w,Fl f w/\aV F cj [m7 ns,.int k0,.int q]=.ok (fl f):=by
 let(a,E,Y,Z):=j ns k0 q A (by lia);let(b,G,b0,b6):=j ns (k0+1) q (by lia) (by lia);let(c,H,I,K):=j ns (k0+2) 4 (by lia) ↑2;let(d,L,M,N):=j ns (k0+3) 4 (by lia) ↑2;let(k,O,hs):=yE (a:=0) (b:=2) (c:=4) (d:=6) I K;let(tp,Q,ht):=yE (a:=1) (b:=2) (c:=3) (d:=10) M N;have R:1<=tp:=by lia
 have t2:tp<=10:=by lia
 have sa:cE (1+a)=e6:=by simp! [cE,zza,zzN];lia
 have S:cE (1+b)=e6:=by simp! [cE,zza,zzN];lia
 let(B,e,f,s,t,o,p,hl,r,hd,rfl):=iR (body:=λx env=>((Tg.one 8).put x env).bind λB=>bj F Ly B)
  (P:=λi env=>∃(f:List Str) (s t o p:Ci.Slot),f.length=i/\(∀z∈f,z.length=(1+b).toNat)/\(∀z∈f,∀x∈z.cps.toList,x=35\/(48<=x/\x<=57))/\env=[.val (m7 ns),.val (.int k0),.val (.int q),.val (.int (1+a)),.val (.int (1+b)),.val (.int k),.val (.int tp),.own (.lst (f.map .str)),s,t,o,p])
  (fO 0 (1+a).toNat) 0 [.val (m7 ns),.val (.int k0),.val (.int q),.val (.int (1+a)),.val (.int (1+b)),.val (.int k),.val (.int tp),.own (.lst []),.no,.no,.no,.no] {[],_,_,_,_,rfl,(λz h=>by cases h),(λz h=>by cases h),rfl} (by
  intro i x env T U;let(hi,rfl):=sY T;let(f,s,t,o,p,hl,r,hd,rfl):=U;let(z,V,W,h,u,e):=MV F j ns k0 A q (1+a) (1+b) k tp (by lia) D R t2 (.lst (f.map .str)) i (1+b).toNat (by lia) o p;have l:(f.map PV.str).length<cb:=c5 (m:=6) (by simp! [zzl];lia) ↑2;refine{[.val (m7 ns),.val (.int k0),.val (.int q),.val (.int (1+a)),.val (.int (1+b)),.val (.int k),.val (.int tp),.own (.lst ((f++[z]).map .str)),.val (.int i),.val (.str z),V,W],?_,f++[z],_,_,_,_,by simp;lia,?_,?_,rfl}
  .have C:=e;simp! only [Ka] at C;simp! [zzl] at l;simp! only [Ly,Ka,S,C,zzl,l,List.map_append]
  .intro y g;simp! [List.mem_append,d3] at g;rcases g with g|rfl
   .exact r y g
   .exact h
  .intro y g;simp! [List.mem_append,d3] at g;rcases g with g|rfl
   .exact hd y g
   .exact u)
 have v8:f.length=(1+a).toNat:=by simpa [fO] using hl
 refine{f,(1+b).toNat,{{by lia,λz h=>by rw [r z h];lia},by lia,by lia,r,hd},?_};simp! only [Ly,Ka] at e;simp! only [cj,cj,E,G,H,L,O,Q,sa,e]
def DQ{a:List Str}(L:Fl a w){i:Nat}(d:i<a.length)(b:j<w):∃x,cd a i j=eW x:=by have c:a[i]?=eW a[i]:=zzg d;have hl:=L.dU _ (a6 c);refine{(a[i]).cps.toList[j]'(by simp! [d1];rw [<-hl] at b;exact b),?_};unfold cd;rw [c];exact zzg _
theorem join_one:∀xs:List Nat,Str.join ({#[]}:Str) (xs.map λx=>({#[x]}:Str))=⟨xs.toArray⟩
 |[]=>rfl|[x]=>rfl|x::y::r=>by have a:=join_one (y::r);show({#[x]}:Str)++{#[]}++Str.join {#[]} ((y::r).map λx=>({#[x]}:Str))=_;rw [a];show({#[x]++#[]++(y::r).toArray}:Str)=_;simp
def qK(xs:List Nat):Txt.join "" (xs.map λx=>({#[x]}:Str))=⟨xs.toArray⟩:=by unfold Txt.join;rw [StrLaws.glued_eq_join,show(("":Str))={#[]} by decide+kernel];exact join_one xs
theorem mJ:ze .join [.str z,.lst xs]=(Res.of (strsOf xs)).bind λys=>if z.length<=16/\(ys.map (·.length)).sum+ys.length<=cb then .ok (.str (Txt.join z ys)) else .bad:=rfl
theorem mK:yZ .join (.str z)=e6:=rfl
theorem strs_map:∀a:List Str,strsOf (a.map .str)=eW a
 |[]=>rfl|z::a=>by simp! [a8,strsOf,strs_map a,Option.map_some]
theorem zO:∀xs:List Nat,((xs.map λx=>({#[x]}:Str)).map (·.length)).sum=xs.length
 |[]=>rfl|x::xs=>by have:=zO xs;simp! [a8,List.sum_cons,bV,this];show 1+xs.length=_;lia
def DR(z:Str)(c:Nat):pY (.str {#[c]}) (.str z)=.ok (.bl (decide (c∈z.cps.toList))):=by show Res.ok (PV.bl (!(ix.Str.occurrences z {#[c]} 0 z.length 1).isEmpty))=_;rw [StrLaws.found_one]
abbrev BG(a:List Str)(c:Nat):List Nat:=a.reverse.map λz=>z.cps.toList.getD c 0
abbrev pL(a:List Str)(w:Nat):List Str:=(List.range w).map λc=>{(BG a c).toArray}
abbrev lV(a:List Str):List Str:=a.map md
def tU(a:List Str)(w:Nat):(pL a w).length=w:=by simp [pL]
theorem vS(a:List Str)(w:Nat):∀z∈pL a w,z.length=a.length:=λz b=>by let(c,_,rfl):=er.1 b;show(BG a c).toArray.size=_;simp [BG]
def vD(z:Str):(md z).length=z.length:=by show z.cps.toList.reverse.toArray.size=z.cps.size;simp
def zd(a:List Str):(lV a).length=a.length:=by simp [lV]
abbrev tB:Ss:=#v[.app 2 (.dY .join (.cst (.str "")) #v[.comp 1 [3] (.one 0) (.seq (!1)) (.sub (!0) (!1))])]
def FT(F:aN){a:List Str}(b:a.length<=12)(c:∀z∈a,z.length=w)(h:w<=12){i:Nat}(j:i<w):aW (λx=>((Tg.one 0).put x [.no,.val (.int i)]).bind λd=>(az F (.sub (!0) (!1)) d).bind λy=>.ok (eW y)) (a.reverse.map .str)=.ok (((BG a i).map λx=>({#[x]}:Str)).map .str)/\(a.reverse.map PV.str).length<cb/\("":Str).length<=16/\(((BG a i).map λx=>({#[x]}:Str)).map (·.length)).sum+((BG a i).map λx=>({#[x]}:Str)).length<=cb:=by
 refine{?_,c5 (m:=12) (zx6 b) ↑2,by decide,?_}
 .unfold BG;rw [List.map_map,List.map_map];refine(df (p:=PV.str) (g:=λz=>.str {#[z.cps.toList.getD i 0]}) λz e=>?_);have k:=c z (List.mem_reverse.1 e);have f:i<z.cps.toList.length:=by rw [d1];show i<z.length;lia
  have:=sZ (z:=z) (i:=i) (x:=z.cps.toList.getD i 0) (c4 (m:=12) (by lia) ↑2) (by rw [bU,zzg f];rfl);dsimp! only [this]
 .rw [zO,zzl];refine c4 (m:=24) ?_ ↑2;simp! [BG,zzl,List.length_reverse];lia
def BK(F:aN){a:List Str}(hn:0<a.length)(h:a.length<=12)(c:∀z∈a,z.length=w)(k:w<=12):aV F bZ [fl a]=.ok (fl (pL a w)):=by
 have o:a[0]?=eW a[0]:=zzg hn;have p:ay (fl a) (.int 0)=.ok (.str a[0]):=kc (j:=0) o;have d:a[0].length=w:=c _ (List.getElem_mem hn);have lw:a[0].length<=cb:=c4 (m:=12) (by lia) ↑2;have q:cE (a[0].length:Int)=e6:=by rw [d];simp! [cE,zza,zzN];lia
 have r:(a.map PV.str).reverse=a.reverse.map .str:=by rw [List.map_reverse]
 let(f,e,b,rfl):=iR (body:=λx env=>((Tg.one 3).put x env).bind λf=>bj F tB f) (P:=λi env=>∃b:Ci.Slot,env=[.val (fl a),.val (.lst (a.reverse.map .str)),.own (.lst ((pL a i).map .str)),b])
  (fO 0 w) 0 [.val (fl a),.val (.lst (a.reverse.map .str)),.own (.lst []),.no] {_,rfl} (by
  intro i x env s t;let(u,rfl):=sY s;let(b,rfl):=t;let(g,y,A):=FT F h c k u;have B:((pL a i).map PV.str).length<cb:=c5 (m:=12) (by rw [zzl,tU];lia) ↑2;refine{[.val (fl a),.val (.lst (a.reverse.map .str)),.own (.lst ((pL a (i+1)).map .str)),.val (.int i)],?_,_,by rw [Nat.zero_add]};have ts:(pL a (i+1)).map PV.str=(pL a i).map .str++[.str {(BG a i).toArray}]:=by unfold pL;rw [List.range_succ,List.map_append,List.map_append];rfl
  rw [ts];dsimp! only [J] at g;rw [Nat.zero_add] at *;dsimp! only [tB,y,g,mK,mJ,strs_map,A,qK,B,and_self])
 have C:(fO 0 w).length=w:=by simp [fO]
 rw [C,Nat.zero_add] at e;have tn:(a[0].length:Int).toNat=w:=by rw [d];rfl
 dsimp! only [tB] at e;dsimp! only [bZ,r,p,lw,q,tn,e]
def Eo(F:aN){a:List Str}(b:a.length<=12)(c:∀z∈a,z.length<=12):aW (λx=>((Tg.one 0).put x [.no]).bind λd=>(az F (.rev (!0)) d).bind λy=>.ok (eW y)) (a.map .str)=.ok ((lV a).map .str)/\(a.map PV.str).length<cb:=by refine{?_,c5 (m:=12) (zx6 b) ↑2};unfold lV;rw [List.map_map];refine df (p:=PV.str) (g:=λz=>.str (md z)) λz e=>?_;have f:z.length<=cb:=c4 (c z e) ↑2;simp! only [f]
def u9(F:aN){a:List Str}(c:a.length<=12)(d:∀z∈a,z.length<=12):aV F bE [fl a]=.ok (fl (lV a)):=by let(b,e):=Eo F c d;simp! only [] at b;simp! only [bE,e,b]
theorem lZ:∀bs:List Bool,boolsOf (bs.map .bl)=eW bs
 |[]=>rfl|b::bs=>by simp! [a8,boolsOf,lZ bs,Option.map_some]
def Oz(F:aN){x:Nat}(h:x=35\/(48<=x/\x<=57)):aV F di [.str {#[x]}]=.ok (.bl e6):=by
 have a:pY (.str {#[x]}) (.str (zu 25))=.ok (.bl e6):=by
  rw [DR];have:((zu 25:Str)).cps.toList=[35,48,49,50,51,52,53,54,55,56,57]:=↑1
  rw [this];have:x∈[35,48,49,50,51,52,53,54,55,56,57]:=by simp! [d8,List.not_mem_nil,or_false];lia
  simp! [this,decide_true]
 have b:({#[x]}:Str).length=1:=rfl;have c:1<=cb:=↑2
 simp! only [di,b,c,a];rfl
def Od(F:aN)(hs:∀x,x=35\/(48<=x/\x<=57)->F (zu 37) [.str {#[x]}]=.ok (.bl e6))(k:1<=z.length)(a:z.length<=12)(hd:∀x∈z.cps.toList,x=35\/(48<=x/\x<=57)):aV F gb [.str z]=.ok (.bl e6):=by
 have b:aW (λx=>((Tg.one 0).put x [.no]).bind λd=>(az F (.call (zu 37) #v[!0]) d).bind λy=>.ok (eW y)) (chars z)=.ok ((z.cps.toList.map λZ=>e6).map .bl):=by rw [List.map_map];refine df (p:=λc=>PV.str {#[c]}) (g:=λZ=>.bl e6) λx e=>?_;simp! only [hs x (hd x e)]
 have lz:z.length<=cb:=c4 a ↑2;have f:(chars z).length<cb:=c5 (m:=12) (by show(z.cps.toList.map _).length<=12;rw [zzl,d1];exact a) ↑2;have h:decide ((1:Int)<=(z.length:Int))=e6:=by rw [zzN];lia
 have i:decide ((z.length:Int)<=12)=e6:=by rw [zzN];lia
 have j:(z.cps.toList.map λZ=>e6).all id=e6:=by rw [List.all_map,cZ];exact λZ Z=>rfl
 have sq:xO (!0) (.str z)=.ok (chars z):=rfl;simp! only [] at b;simp! only [gb,lz,h,i,sq,f,b,lZ,j]
def Hl(F:aN)(hs:∀z:Str,1<=z.length->z.length<=12->(∀x∈z.cps.toList,x=35\/(48<=x/\x<=57))->F "is_row" [.str z]=.ok (.bl e6)){a:List Str}(L:Fl a w):aV F dP [fl a]=.ok (.bl e6):=by
 have c:=L.ne;have A:=L.jk.1;have w1:=L.w1;have B:w<=12:=by have:=L.jk.2 _ (List.getElem_mem c);have:=L.dU _ (List.getElem_mem c);lia
 have h:a[0]?=eW a[0]:=zzg c;have i:ay (fl a) (.int 0)=.ok (.str a[0]):=kc (j:=0) h;have k:=L.dU _ (List.getElem_mem c);have lw:a[0].length<=cb:=c4 (m:=12) (by lia) ↑2;have e:aW (λx=>((Tg.one 0).put x [.no]).bind λd=>(az F (.call "is_row" #v[!0]) d).bind λy=>.ok (eW y)) (a.map .str)=.ok ((a.map λZ=>e6).map .bl):=by rw [List.map_map];refine df (p:=PV.str) (g:=λZ=>.bl e6) λz b=>?_;have:=hs z (by rw [L.dU z b];exact w1) (by rw [L.dU z b];lia) (L.dig z b);simp! only [this]
 have f:aW (λx=>((Tg.one 0).put x [.no,.val (fl a)]).bind λd=>(az F (.cmp .eq (.blt .len #v[!0]) (.blt .len #v[.sub (!1) (¬0)])) d).bind λy=>.ok (eW y)) (a.map .str)=.ok ((a.map λZ=>e6).map .bl):=by
  rw [List.map_map];refine df (p:=PV.str) (g:=λZ=>.bl e6) λz b=>?_;have o:=L.dU z b;have q:z.length<=cb:=c4 (m:=12) (by lia) ↑2;have e3:((z.length:Int)==(a[0].length:Int))=e6:=by rw [o,k,beq_self_eq_true]
  simp! only [q,i,lw,e3]
 have r:(a.map PV.str).length<cb:=c5 (m:=12) (by rw [zzl];lia) ↑2;have s:decide ((1:Int)<=((a.map PV.str).length:Int))=e6:=by rw [zzN,zzl];lia
 have t:decide (((a.map PV.str).length:Int)<=12)=e6:=by rw [zzN,zzl];lia
 have u:(a.map λZ=>e6).all id=e6:=by rw [List.all_map,cZ];exact λZ Z=>rfl
 simp! only [] at e f;simp! only [dP,s,t,r,e,lZ,u,f]
def Ip{a:List Str}(h:z∈pL a w):∃c,c<w/\z={(BG a c).toArray}:=by let(c,b,rfl):=er.1 h;exact{c,List.mem_range.1 b,rfl}
def LN{a:List Str}(L:Fl a w):Fl (pL a w) a.length:=by
 have e:=L.ne;have h:w<=12:=by have:=L.jk.2 _ (List.getElem_mem e);have:=L.dU _ (List.getElem_mem e);lia
 refine{{by rw [tU];exact h,λz f=>by rw [vS _ _ z f];exact L.jk.1},by rw [tU];exact L.w1,e,vS _ _,λz f x b=>?_};let(c,i,rfl):=Ip f;have b:x∈BG a c:=zx6 b;unfold BG at b;let(y,d,rfl):=er.1 b;have d:=List.mem_reverse.1 d;have hl:=L.dU y d;have g:c<y.cps.toList.length:=by rw [d1];show c<y.length;lia
 rw [bU,zzg g];exact L.dig y d _ (List.getElem_mem g)
def LL{c:List Str}(L:Fl c w):Fl (lV c) w:=by
 have hm:∀z∈lV c,∃y∈c,z=md y:=λz a=>by let(y,b,rfl):=er.1 a;exact⟨y,b,rfl⟩
 refine{{by rw [zd];exact L.jk.1,λz a=>?_},by rw [zd];exact L.ne,L.w1,λz a=>?_,λz a x d=>?_}
 .let(y,b,rfl):=hm z a;rw [vD];exact L.jk.2 y b
 .let(y,b,rfl):=hm z a;rw [vD];exact L.dU y b
 .let(y,b,rfl):=hm z a;have d:x∈y.cps.toList:=by have:x∈(y.cps.toList.reverse.toArray).toList:=d;simpa using this
  exact L.dig y b x d
def B9{A B:List Str}(b:A.length<=12)(c:B.length<=12):binOp .add (fl A) (fl B)=.ok (fl (A++B)):=by have a:(A.map PV.str).length+(B.map PV.str).length<=cb:=c4 (m:=24) (by rw [zzl,zzl];lia) ↑2;show(if _ then _ else _)=_;rw [if_pos a];show _=Res.ok (PV.tup ((A++B).map .str));rw [List.map_append]
def Ga{A B:List Str}(a:A.length<=12):oY [fl A,fl B]=eW [A.map .str,B.map .str]/\(qh [A.map PV.str,B.map PV.str]).length<cb:=by refine{rfl,c5 (m:=12) ?_ ↑2};show((List.range (min (A.map PV.str).length (B.map PV.str).length)).map _).length<=12;rw [zzl,List.length_range,zzl];lia
def zV(F:aN){a b:List Str}{w:Nat}(hl:a.length=b.length)(e:∀z∈a,z.length<=12)(f:∀z∈b,z.length<=12):aW (λx=>((Tg.two 0 1).put x [.no,.no]).bind λh=>(az F (.bin .add (!0) (!1)) h).bind λy=>.ok (eW y)) (qh [a.map .str,b.map .str])=.ok ((List.zipWith (·++·) a b).map .str):=by
 have j:qh [a.map .str,b.map .str]=(List.range a.length).map λi=>.tup [.str (a.getD i {#[]}),.str (b.getD i {#[]})]:=by
  unfold qh;have:oJ [a.map PV.str,b.map PV.str]=a.length:=by show min (a.map PV.str).length (b.map PV.str).length=_;rw [zzl,zzl,hl,Nat.min_self]
  rw [this];refine List.map_congr_left λi c=>?_;have c:=List.mem_range.1 c;have d:i<b.length:=by lia
  simp! [a8,List.map_nil,bU,cz,zzg c,zzg d,Option.map_some,Option.getD_some]
 rw [j,df (p:=λi=>.tup [.str (a.getD i {#[]}),.str (b.getD i {#[]})]) (g:=λi=>.str (a.getD i {#[]}++b.getD i {#[]})) λi c=>?_]
 .congr 1
  refine List.ext_getElem? λi=>?_;rw [cz,cz,List.getElem?_zipWith];by_cases c:i<a.length
  .have d:i<b.length:=by lia
   rw [List.getElem?_range c,zzg c,zzg d];simp! [Option.map_some,bU,zzg c,zzg d,Option.getD_some]
  .rw [List.getElem?_eq_none (by rw [List.length_range];lia),List.getElem?_eq_none (l:=a) (by lia)];rfl
 .have c:=List.mem_range.1 c;have d:i<b.length:=by lia
  have g1:a.getD i {#[]}=a[i]:=by rw [bU,zzg c];rfl
  have g2:b.getD i {#[]}=b[i]:=by rw [bU,zzg d];rfl
  rw [g1,g2];have o:=e _ (List.getElem_mem c);have q:=f _ (List.getElem_mem d);have k:a[i].length+b[i].length<=cb:=c4 (m:=24) (by lia) ↑2;simp! only [k]
abbrev Kz(z:Str)(j x:Nat):Str:={(z.cps.toList.set j x).toArray}
abbrev xV(a:List Str)(i j x:Nat):List Str:=a.set i (Kz (a.getD i "") j x)
def Xh(x:Nat):Prop:=x=35\/(48<=x/\x<=57)
def FF(a:List Str)(i j x:Nat):(xV a i j x).length=a.length:=List.length_set
def Sq{b:List Str}(L:Fl b w)(i j:Nat){x:Nat}(k:Xh x):Fl (xV b i j x) w:=by
 have c:∀z∈xV b i j x,z.length=w/\∀y∈z.cps.toList,y=35\/(48<=y/\y<=57):=λz a=>by
  by_cases d:i<b.length
  .have e:b.getD i ""=b[i]:=by simp [bU,zzg d]
   have hm:=List.getElem_mem d
   unfold xV at a;rw [e] at a;rcases List.mem_or_eq_of_mem_set a with h|h
   .exact{L.dU z h,L.dig z h}
   .subst h;refine{?_,λy m=>?_}
    .rw [<-L.dU _ hm];show((b[i]).cps.toList.set j x).toArray.size=(b[i]).cps.size;simp
    .rcases List.mem_or_eq_of_mem_set (show y∈(b[i]).cps.toList.set j x from by simpa [Kz] using m) with g|g
     .exact L.dig _ hm y g
     .rw [g];exact k
  .unfold xV at a;rw [List.set_eq_of_length_le (by lia)] at a;exact{L.dU z a,L.dig z a}
 have o:w<=12:=by have f:=L.jk.2 _ (List.getElem_mem L.ne);rw [L.dU _ (List.getElem_mem L.ne)] at f;exact f
 refine{{by rw [FF];exact L.jk.1,λz a=>by rw [(c z a).1];exact o},by rw [FF];exact L.ne,L.w1,λz a=>(c z a).1,λz a=>(c z a).2}
def Cy{a:Type}(xs:List a){k:Nat}(h:k<=xs.length):jV xs eX (eW (k:Int))=xs.take k:=by unfold jV;rw [HT.zG,HT.vG,List.drop_zero,Nat.min_eq_left h,Nat.sub_zero]
def Lo{a:Type}(xs:List a){k:Nat}(h:k<=xs.length):jV xs (eW (k:Int)) eX=xs.drop k:=by unfold jV;rw [HT.zG,HT.vG,Nat.min_eq_left h];exact List.take_of_length_le (by simp)
def Of(x:Nat)(h:j<z.length):Txt.slice z eX (eW (j:Int))++({#[x]}:Str)++Txt.slice z (eW ((j:Int)+1)) eX=Kz z j x:=by
 have a:=Cw.Ft z j (by lia);have b:=Cw.Fs z (j+1) (by lia);have hl:j<z.cps.toList.length:=by rw [d1];exact h
 show Str.mk ((Txt.slice z eX (eW (j:Int))).cps++#[x]++(Txt.slice z (eW ((j:Int)+1)) eX).cps)=Kz z j x;unfold Kz
 congr 1
 apply Array.toList_inj.1;rw [List.set_eq_take_append_cons_drop,if_pos hl];simp! [Array.toList_append,a,List.append_assoc,List.cons_append,List.nil_append]
 congr 2
theorem YC{a b:Option Int}:d5 (.str z) a b=if z.length<=cb then .ok (.str (Txt.slice z a b)) else .bad:=rfl
theorem YD{a b:Option Int}:d5 (.tup xs) a b=.ok (.tup (jV xs a b)):=rfl
theorem Xp{y:Str}:binOp .add (.str x) (.str y)=if x.length+y.length<=cb then .ok (.str (x++y)) else .bad:=rfl
theorem Xq{x y:List PV}:binOp .add (.tup x) (.tup y)=if x.length+y.length<=cb then .ok (.tup (x++y)) else .bad:=rfl
def Fh{c:List Str}(L:Fl c w){i:Nat}(x:Nat)(d:i<c.length)(f:j<w):ay (fl c) (.int (i:Int))=.ok (.str c[i])/\(c[i]).length<=cb/\(Txt.slice c[i] eX (eW (j:Int))).length+({#[x]}:Str).length<=cb/\(Txt.slice c[i] eX (eW (j:Int))++({#[x]}:Str)).length+(Txt.slice c[i] (eW ((j:Int)+1)) eX).length<=cb/\jV (c.map PV.str) eX (eW (i:Int))=(c.map .str).take i/\jV (c.map PV.str) (eW ((i:Int)+1)) eX=(c.map .str).drop (i+1)/\((c.map PV.str).take i).length+1<=cb/\((c.map PV.str).take i++[PV.str (Kz c[i] j x)]).length+((c.map PV.str).drop (i+1)).length<=cb/\Txt.slice c[i] eX (eW (j:Int))++({#[x]}:Str)++Txt.slice c[i] (eW ((j:Int)+1)) eX=Kz c[i] j x/\fl (xV c i j x)=.tup (((c.map .str).take i++[.str (Kz c[i] j x)])++(c.map .str).drop (i+1)):=by
 have g:=L.dU _ (List.getElem_mem d);have h:=L.jk.2 _ (List.getElem_mem d);have a:=Txt.slice_le c[i] eX (eW (j:Int));have b:=Txt.slice_le c[i] (eW ((j:Int)+1)) eX;have m:cb=1000000:=rfl;have e:({#[x]}:Str).length=1:=rfl;have o:=L.jk.1;have hm:(c.map PV.str).length=c.length:=zzl _;refine{kc (zzg d),by lia,by lia,by rw [Str.length_append];lia,Cy _ (by lia),?_,by rw [List.length_take];lia,by simp;lia,Of x (show j<(c[i]).length by lia),?_}
 .have:=Lo (c.map PV.str) (k:=i+1) (by lia);rw [Int.natCast_add,Int.natCast_one] at this;exact this
 .unfold xV fl;rw [List.set_eq_take_append_cons_drop,if_pos d];simp [bU,zzg d,List.map_take,List.map_drop]
def F6(F:aN){a:List Str}(L:Fl a w){i:Nat}(x:Nat)(b:i<a.length)(c:j<w):aV F dk [fl a,sp i j,.str {#[x]}]=.ok (fl (xV a i j x)):=by let(d,c1,e,f,g,t2,h,k,q,m):=Fh L x b c;rw [m];simp! only [dk,d,YC,YD,Xp,Xq,if_pos c1,if_pos e,if_pos f,q,g,t2,if_pos h,if_pos k]
def Nu(F:aN)(hs:∀r c,F "is_spot" [sp r c]=.ok (.bl e6))(b:∀a,PX a->∀r c,F (zu 14) [fl a,sp r c]=.ok (.bl (decide (0<=r)&&decide (0<=c)&&(cd a r.toNat c.toNat).isSome))){a:List Str}(L:Fl a w){i:Nat}(d:i<a.length)(f:j<w):aV F ba [fl a,sp i j]=.ok .aP:=by let(x,g):=DQ L d f;have e:=b a L.jk i j;rw [ey,ey,g,zzh (Int.natCast_nonneg i),zzh (Int.natCast_nonneg j)] at e;have e:F (zu 14) [fl a,sp i j]=.ok (.bl e6):=e;simp! only [ba,hs,e,Bool.not_true]
abbrev mE:List Str:=["a","tu","bcdefg","vwxyz"]
inductive Dd where
 |lay (z:Str) (R:List Str)|take (z:Str)|turn (z:Str)|lV (z:Str)
 |sign (z:Str) (a b x:Nat)|join (z:Str) (e:Bool) (y1 y2:Str)
abbrev Px:List Nat:=[35,48,51,53,57,120]
abbrev Dd.P:Dd->PV
 |.lay z R=>.tup [.str "lay",.str z,fl R]|.take z=>.tup [.str "take",.str z]|.turn z=>.tup [.str "turn",.str z]|.lV z=>.tup [.str (zu 21),.str z]|.sign z a b x=>.tup [.str "sign",.str z,sp a b,.str {#[x]}]|.join z e c d=>.tup [.str "join",.str z,.bl e,.str c,.str d]
def Dd.Ok:Dd->Prop
 |.lay z R=>z∈mE/\∃w,Fl R w|.take z=>z∈mE|.turn z=>z∈mE|.lV z=>z∈mE|.sign z _ _ x=>z∈mE/\x∈Px|.join z _ a b=>z∈mE/\a∈mE/\b∈mE
def V1{m:Int}(a:0<=m)(b:m<4):∃z,z∈mE/\ay (.lst [.str "a",.str "tu",.str "bcdefg",.str "vwxyz"]) (.int m)=.ok (.str z):=by
 have:m=0\/m=1\/m=2\/m=3:=by lia
 rcases this with rfl|rfl|rfl|rfl
 .exact{"a",.head _,rfl}
 .exact{"tu",.tail _ (.head _),rfl}
 .exact{"bcdefg",.tail _ (.tail _ (.head _)),rfl}
 .exact{"vwxyz",.tail _ (.tail _ (.tail _ (.head _))),rfl}
def sg6{m:Int}(a:0<=m)(b:m<6):∃x,x∈Px/\ay (.str "#0359x") (.int m)=.ok (.str {#[x]}):=by
 have:m=0\/m=1\/m=2\/m=3\/m=4\/m=5:=by lia
 rcases this with rfl|rfl|rfl|rfl|rfl|rfl
 .exact{35,by decide,by kernel_rfl}
 .exact{48,by decide,by kernel_rfl}
 .exact{51,by decide,by kernel_rfl}
 .exact{53,by decide,by kernel_rfl}
 .exact{57,by decide,by kernel_rfl}
 .exact{120,by decide,by kernel_rfl}
def GL(F:aN):Prop:=∀(ns:List Int) (k:Int),0<=k->∃a w,Fl a w/\F (zu 38) [m7 ns,.int k,.int 3]=.ok (fl a)
def Hg(F:aN)(f:lY F)(H:GL F)(ns:List Int)(k:Int)(hk:0<=k):∃d:Dd,d.Ok/\aV F bh [m7 ns,.int k]=.ok d.P:=by
 let(a,i,I,K):=f ns k 4 hk ↑2;let(b,j,W,X):=f ns (k+1) 10 (by lia) ↑2;let(z,m,o):=V1 I K;by_cases B:b<3
 .let(R,w,L,M):=H ns (k+10) (by lia);refine{.lay z R,⟨m,w,L⟩,?_};have h:decide (b<3)=e6:=zzh B;simp! only [bh,i,j,o,h,M];rfl
 .have h:decide (b<3)=fx:=zz0 B;by_cases C:b<6
  .have p:decide (b<6)=e6:=zzh C;have:b=3\/b=4\/b=5:=by lia
   rcases this with rfl|rfl|rfl
   .refine{.take z,m,?_};have e:ay (.lst [.str "take",.str "turn",.str (zu 21)]) (.int (3-3))=.ok (.str "take"):=rfl;simp! only [bh,i,j,o,h,p,e];rfl
   .refine{.turn z,m,?_};have e:ay (.lst [.str "take",.str "turn",.str (zu 21)]) (.int (4-3))=.ok (.str "turn"):=rfl;simp! only [bh,i,j,o,h,p,e];rfl
   .refine{.lV z,m,?_};have e:ay (.lst [.str "take",.str "turn",.str (zu 21)]) (.int (5-3))=.ok (.str (zu 21)):=rfl;simp! only [bh,i,j,o,h,p,e];rfl
  .have p:decide (b<6)=fx:=zz0 C;by_cases D:b<8
   .have q:decide (b<8)=e6:=zzh D;let(r,s,t,E):=f ns (k+2) 4 (by lia) ↑2;let(c,u,y,c1):=f ns (k+3) 4 (by lia) ↑2;let(g,A,G,g1):=f ns (k+4) 6 (by lia) ↑2;let(x,N,ex):=sg6 G g1;let(r,rfl):=el t;let(c,rfl):=el y;refine{.sign z r c x,⟨m,N⟩,?_};simp! only [bh,i,j,o,h,p,q,s,u,A,ex];rfl
   .have q:decide (b<8)=fx:=zz0 D;let(r,s,t,E):=f ns (k+5) 4 (by lia) ↑2;let(c,u,y,c1):=f ns (k+6) 4 (by lia) ↑2;let(g,A,G,g1):=f ns (k+7) 2 (by lia) ↑2;let(O,Q,S):=V1 t E;let(T,U,V):=V1 y c1;refine{.join z (g==0) O T,⟨m,Q,U⟩,?_};simp! only [bh,i,j,o,h,p,q,s,u,A,S,V];rfl
abbrev wd(R:List Str):Nat:=(R.getD 0 "").length
def fk(L:Fl R w):wd R=w:=by have a:=L.ne;unfold wd;rw [bU,zzg a];exact L.dU _ (List.getElem_mem a)
def pR(L:Fl R w):w<=12:=by have h:=L.jk.2 _ (List.getElem_mem L.ne);rw [L.dU _ (List.getElem_mem L.ne)] at h;exact h
def vE(L:Fl R w):∃y,ay (fl R) (.int 0)=.ok (.str y)/\y.length=w/\dv .len [.str y]=.ok (.int w):=by have a:=L.ne;have b:=L.dU _ (List.getElem_mem a);have c:=pR L;refine{R[0],kc (j:=0) (zzg a),b,?_};show(if(R[0]).length<=cb then Res.ok (PV.int ((R[0]).length:Int)) else .bad)=_;rw [b,if_pos (c4 c ↑2)]
def gN(R:List Str):dv .len [fl R]=.ok (.int R.length):=by show Res.ok (PV.int (R.map PV.str).length)=_;rw [zzl]
theorem sH{i j:Int}:cG .ge (.int i) (.int j)=.ok (.bl (decide (j<=i))):=rfl
def A8(F:aN)(L:Fl R w)(z:Str):aV F aR [fl R,.tup [.str "turn",.str z]]=.ok (.tup [fl (pL R w),fl (pL R w)]):=by
 have d:=L.jk.1;have b:=pR L;let(s,e,_,lw):=vE L;have f:cE (w:Int)=e6:=by simp! [cE,zza,zzN];lia
 have h:(R.map PV.str).reverse=R.reverse.map .str:=by rw [List.map_reverse]
 have co:aW (λx=>((Tg.one 0).put x [.no,.val (fl R)]).bind λj=>(az F (.dY .join (.cst (.str "")) #v[.comp 1 [0] (.one 0) (.seq (.rev (!1))) (.sub (!0) (!1))]) j).bind λy=>.ok (eW y)) (fO 0 w)=.ok ((pL R w).map .str):=by unfold fO pL;rw [List.map_map];refine df (p:=λi:Nat=>PV.int (0+(i:Int))) (g:=λc:Nat=>.str {(BG R c).toArray}) λi a=>?_;have a:=List.mem_range.1 a;let(c,k,o):=FT F d L.dU b a;rw [Int.zero_add];dsimp! only [J] at c;dsimp! only [h,k,c,mK,mJ,strs_map,o,qK,and_self]
 have q:(fO 0 w).length<cb:=c5 (m:=12) (by simpa [fO] using b) ↑2;have s0:ay (.tup [.str "turn",.str z]) (.int 0)=.ok (.str "turn"):=rfl;have r:gO (.str "turn") (.str "turn")=.ok (.bl e6):=∅
 dsimp! only [J] at co;dsimp! only [aR,s0,r,e,lw,f,ey,q,co]
def Ek(F:aN)(L:Fl R w)(z:Str):aV F aR [fl R,.tup [.str (zu 21),.str z]]=.ok (.tup [fl (lV R),fl (lV R)]):=by
 let(a,b):=Eo F L.jk.1 L.jk.2;have s0:ay (.tup [.str (zu 21),.str z]) (.int 0)=.ok (.str (zu 21)):=rfl;have c:gO (.str (zu 21)) (.str "turn")=.ok (.bl fx):=∅
 have t2:gO (.str (zu 21)) (.str (zu 21))=.ok (.bl e6):=∅
 simp! only [] at a;simp! only [aR,s0,c,t2,b,a]
def SK{x:Nat}:gO (.str {#[x]}) (.str "x")=.ok (.bl (x==120)):=by
 have:(("x":Str))={#[120]}:=↑1
 rw [this];show Res.ok (PV.bl (({#[x]}:Str)=={#[120]}))=_
 congr 2
 rw [Bool.eq_iff_iff];simp
def A7(F:aN)(L:Fl R w)(z:Str)(a b x:Nat):aV F aR [fl R,.tup [.str "sign",.str z,sp a b,.str {#[x]}]]=
 .ok (if a<R.length/\b<w then(if x=120 then .tup [fl R,.str "no sign"] else .tup [fl (xV R a b x),.tup [.str {#[(cd R a b).getD 0]}]]) else .tup [fl R,.str "no spot"]):=by
 have H:=L.jk.1;have I:=pR L;let(K,e,_,lw):=vE L;have s0:ay (.tup [.str "sign",.str z,sp a b,.str {#[x]}]) (.int 0)=.ok (.str "sign"):=rfl;have f:ay (.tup [.str "sign",.str z,sp a b,.str {#[x]}]) (.int 2)=.ok (sp a b):=rfl;have g:ay (.tup [.str "sign",.str z,sp a b,.str {#[x]}]) (.int 3)=.ok (.str {#[x]}):=rfl;have i:gO (.str "sign") (.str "turn")=.ok (.bl fx):=∅
 have t2:gO (.str "sign") (.str (zu 21))=.ok (.bl fx):=∅
 have j:=gN R;by_cases c:a<R.length
 .have d:decide ((R.length:Int)<=(a:Int))=fx:=by rw [decide_eq_false_iff_not];lia
  by_cases k:b<w
  .have m:decide ((w:Int)<=(b:Int))=fx:=by rw [decide_eq_false_iff_not];lia
   rw [if_pos ⟨c,k⟩];by_cases o:x=120
   .have r:gO (.str {#[x]}) (.str "x")=.ok (.bl e6):=by rw [SK,o];rfl
    rw [if_pos o];dsimp! only [aR,s0,f,g,i,t2,e,lw,j,sH,d,m,r]
   .have r:gO (.str {#[x]}) (.str "x")=.ok (.bl fx):=by rw [SK,beq_eq_false_iff_ne.2 o]
    rw [if_neg o];let(s,c1,t,u,y,A,B,C,q,D):=Fh L x c k;let(v,p):=DQ L c k;have E:(R[a]).cps.toList[b]?=eW v:=by unfold cd at p;rw [zzg c] at p;exact p
    have G:=sZ c1 E;rw [D,p];dsimp! only [aR,s0,f,g,i,t2,e,lw,j,sH,d,m,r,s,YC,YD,Xp,Xq,if_pos c1,if_pos t,if_pos u,q,y,A,if_pos B,if_pos C,G,Option.getD_some]
  .have m:decide ((w:Int)<=(b:Int))=e6:=by rw [zzN];lia
   rw [if_neg (λh=>k h.2)];dsimp! only [aR,s0,f,g,i,t2,e,lw,j,sH,d,m]
 .have d:decide ((R.length:Int)<=(a:Int))=e6:=by rw [zzN];lia
  rw [if_neg (λh=>c h.1)];dsimp! only [aR,s0,f,g,i,t2,e,lw,j,sH,d]
noncomputable abbrev DD:=List (Str×List Str)
variable{D:DD}
abbrev gv(z:Str):DD->Option (List Str)
 |[]=>eX|q::D=>if q.1=z then eW q.2 else gv z D
noncomputable abbrev Lk(D:DD):Str->Option (List Str):=λz=>gv z D
noncomputable abbrev cu(D:DD):List Str:=D.map (·.1)
noncomputable abbrev kl(D:DD):List PV:=D.map λq=>fl q.2
noncomputable abbrev dc(D:DD):PV:=.cy (cu D) (kl D)
abbrev rest(z:Str)(D:DD):DD:=D.filter λq=>decide (q.1≠z)
theorem ox(z:Str):∀D:DD,bS (cu D) (kl D) z=(gv z D).map fl
 |[]=>by unfold bS;rfl|q::D=>by
  show bS (q.1::cu D) (fl q.2::kl D) z=_;unfold bS gv;by_cases e:q.1=z
  .rw [if_pos e,if_pos e];rfl
  .rw [if_neg e,if_neg e];exact ox z D
theorem jY(z:Str):∀D:DD,gh (cu D) z=(gv z D).isSome
 |[]=>rfl|q::D=>by
  show gh (q.1::cu D) z=_;unfold gh gv;rw [List.any_cons];by_cases e:q.1=z
  .rw [if_pos e,zzh e];rfl
  .rw [if_neg e,zz0 e];exact jY z D
theorem rY:∀{D:DD},gv z D=eX↔z∉cu D
 |[]=>by simp [gv]|q::D=>by
  unfold gv;by_cases e:q.1=z
  .rw [if_pos e];simp [e]
  .rw [if_neg e,rY (D:=D)];simp [Ne.symm e]
def Mz(nd:(cu D).Nodup){q:Str×List Str}(h:q∈D):gv q.1 D=eW q.2:=by
 induction D with
 |nil=>cases h
 |cons p D b=>
  have a:=List.nodup_cons.1 nd
  unfold gv;rcases d8.1 h with rfl|h
  .rw [if_pos rfl]
  .have:p.1≠q.1:=λe=>a.1 (by show p.1∈_;rw [e];exact List.mem_map_of_mem h);rw [if_neg this];exact b a.2 h
def Ke(h:gv z D=eW R):(z,R)∈D:=by
 induction D with
 |nil=>cases h
 |cons p D a=>
  unfold gv at h;by_cases e:p.1=z
  .rw [if_pos e] at h;cases h;rw [<-e];exact .head _
  .rw [if_neg e] at h;exact .tail _ (a h)
theorem zE(z:Str)(D:DD):z∉cu (rest z D):=λh=>by let(q,a,e):=er.1 h;have:=(List.mem_filter.1 a).2;rw [zzN] at this;exact this e
def zD(nd:(cu D).Nodup):(cu (rest z D)).Nodup:=(List.filter_sublist.map _).nodup nd
def Fn(z:Str)(D:DD):(rest z D).length<=D.length:=List.length_filter_le ..
def iS(z y:Str)(D:DD):gv y (rest z D)=if y=z then eX else gv y D:=by
 induction D with
 |nil=>unfold rest gv;simp|cons p D a=>
  unfold rest at a⊢;rw [ew];by_cases e:p.1=z
  .rw [if_neg (by simp [e]),a];by_cases h:y=z
   .rw [if_pos h,if_pos h]
   .rw [if_neg h,if_neg h]
    conv=>rhs;unfold gv
    rw [if_neg (λq=>h (q.symm.trans e))]
  .rw [if_pos (by simp [e])]
   conv=>lhs;unfold gv
   by_cases h:p.1=y
   .rw [if_pos h,if_neg (λq=>e (h.trans q))];unfold gv;rw [if_pos h]
   .rw [if_neg h,a];by_cases k:y=z
    .rw [if_pos k,if_pos k]
    .rw [if_neg k,if_neg k]
     conv=>rhs;unfold gv
     rw [if_neg h]
theorem rX(y:Str)(q:Str×List Str):∀D:DD,gv y (D++[q])=match gv y D with|some R=>eW R|none=>if q.1=y then eW q.2 else eX
 |[]=>by simp! [List.nil_append,gv]|p::D=>by
  rw [List.cons_append];unfold gv;by_cases e:p.1=y
  .rw [if_pos e,if_pos e]
  .rw [if_neg e,if_neg e];exact rX y q D
abbrev yV(e:Bool)(A B:List Str):Option (List Str):=if e=e6 then(if A.length=B.length/\wd A+wd B<=12 then eW (List.zipWith (·++·) A B) else eX) else(if wd A=wd B/\A.length+B.length<=12 then eW (A++B) else eX)
noncomputable abbrev GC:PV×Option (Option (List Str)):=(.str (zu 54),eX)
abbrev Dd.nm:Dd->Str
 |.lay z _=>z|.take z=>z|.turn z=>z|.lV z=>z|.sign z _ _ _=>z|.join z _ _ _=>z
abbrev act(D:Str->Option (List Str)):Dd->PV×Option (Option (List Str))
 |.lay z R=>(.bl (D z).isSome,eW (eW R))|.take z=>match D z with
  |some R=>(fl R,eW eX)|none=>GC
 |.turn z=>match D z with
  |some R=>(fl (pL R (wd R)),eW (eW (pL R (wd R))))|none=>GC
 |.lV z=>match D z with
  |some R=>(fl (lV R),eW (eW (lV R)))|none=>GC
 |.sign z a b x=>match D z with
  |some R=>if a<R.length/\b<wd R then(if x=120 then(.str "no sign",eX) else(.tup [.str {#[(cd R a b).getD 0]}],eW (eW (xV R a b x)))) else(.str "no spot",eX)
  |none=>GC
 |.join _ e c d=>match D c with
  |none=>GC|some A=>match D d with
   |none=>GC|some B=>match yV e A B with
    |some C=>(fl C,eW (eW C))|none=>(.str "no fit",eX)
abbrev vU(z:Str)(D:DD):Option (Option (List Str))->DD
 |none=>D|some eX=>rest z D|some (eW R)=>rest z D++[(z,R)]
def e8{F:aN}{s:Ci.S}{a:Ss}{e1:Sl}(h:du F s env=.ok (.nx e1)):bj F (.cons s a) env=bj F a e1:=by rw [bj,h];rfl
def sW{F:aN}{s:Ci.S}{a:Ss}{p:PV}(h:du F s env=.ok (.rt p)):bj F (.cons s a) env=.ok (.rt p):=by rw [bj,h];rfl
def nD{F:aN}{d:Def}{as:List PV}{p:PV}(a:eY d as=e6)(h:bj F d.body (fj d as)=.ok (.rt p)):aV F d as=.ok p:=by unfold aV;rw [if_pos a,h];rfl
theorem Rz{a b:Str}:iF (.str a) (.str b)=.ok (.bl (!(a==b))):=rfl
theorem BS{a b:Str}:gO (.str a) (.str b)=.ok (.bl (a==b)):=rfl
theorem qC(F:aN)(D:DD)(z:Str)(dp:PV)(a:ay dp (.int 1)=.ok (.str z)):∀E:DD,(∀q∈E,gv q.1 D=eW q.2)->aW (λx=>((Tg.one 0).put x [.no,.val (dc D),.val dp]).bind λc=>(az F (.cmp .ne (!0) (.sub (!2) (¬1))) c).bind λt=>yk t λt=>if t then(az F (.tup #v[!0,.sub (!1) (!0)]) c).bind λy=>.ok (eW y) else .ok eX) ((cu E).map gM)=.ok ((rest z E).map λq=>.tup [.str q.1,fl q.2])
 |[],_=>rfl|q::E,h=>by
  have d:=qC F D z dp a E λp f=>h p (.tail _ f);have g:ay (dc D) (.str q.1)=.ok (fl q.2):=by show(Res.of (fg (.str q.1))).bind (λk=>Res.of (bS (cu D) (kl D) k))=_;show Res.of (bS (cu D) (kl D) q.1)=_;rw [ox,h q (.head _)];rfl
  unfold rest at d⊢;rw [ew];show aW _ (gM q.1::(cu E).map gM)=_;rw [aW,d];by_cases e:q.1=z
  .have b:(q.1==z)=e6:=zzy.2 e;rw [if_neg (by simp [e])];simp! only [gM,a,Rz,b];rfl
  .have b:(q.1==z)=fx:=beq_eq_false_iff_ne.2 e;rw [if_pos (by simp [e])];simp! only [gM,a,Rz,b,g];rfl
theorem Fc:∀D:DD,vy (D.map λq=>.tup [.str q.1,fl q.2])=eW (D.map λq=>(q.1,fl q.2))
 |[]=>rfl|q::D=>by rw [a8,vy,Fc D];rfl
def DA(h:z∉ks):gh ks z=fx:=by unfold gh;rw [List.any_eq_false];intro y a;rw [zzN];exact λe=>h (by rw [<-e];exact a)
theorem sx:∀(E:DD) (ks:List Str) (vs:List PV),(∀q∈E,q.1∉ks)->(cu E).Nodup->cC (E.map λq=>(q.1,fl q.2)) ks vs=(ks++cu E,vs++kl E)
 |[],ks,vs,_,_=>by simp [cC]|q::E,ks,vs,h,nd=>by
  have a:=List.nodup_cons.1 nd;have c:=DA (h q (.head _));rw [a8,cC];show cC _ (eN ks q.1) (cS ks vs q.1 (fl q.2))=_;unfold eN cS;rw [c];rw [if_neg zzf,if_neg zzf,sx E _ _ (λp b=>?_) a.2]
  .simp
  .rw [List.mem_append,d3]
   rintro (k|k)
   .exact h p (.tail _ b) k
   .exact a.1 (by show q.1∈_;rw [<-k];exact List.mem_map_of_mem b)
abbrev eT:Nat->Ss->Ci.S
 |0,.cons s _=>s|n+1,.cons _ ss=>eT n ss|_,.nil=>.expr (.cst .aP)
abbrev Uq:Ci.S:=eT 0 ag.body
abbrev S3:Ci.S:=eT 1 ag.body
abbrev Pa:Ci.S:=eT 2 ag.body
abbrev Xs:Ci.S:=eT 3 ag.body
abbrev S4:Ci.S:=eT 4 ag.body
abbrev Ad:Ci.S:=eT 5 ag.body
abbrev Ur:Ci.S:=eT 6 ag.body
abbrev Us:Ci.S:=eT 7 ag.body
abbrev Qe:Ci.S:=eT 8 ag.body
theorem yu:ag.body=.cons Uq #v[S3,Pa,Xs,S4,Ad,Ur,Us,Qe]:=rfl
noncomputable abbrev eB(D:DD)(dp:PV)(E:DD)(a b c d e:Ci.Slot):Sl:=[.val (dc D),.val dp,.own (dc E),a,b,c,d,e]
section
variable(F:aN)(nd:(cu D).Nodup)(hl:D.length<=4)(z:Str)(dp:PV)
include nd hl in
def Cg(c:ay dp (.int 1)=.ok (.str z)):du F Uq [.val (dc D),.val dp,.no,.no,.no,.no,.no,.no]=.ok (.nx (eB D dp (rest z D) .no .no .no .no .no)):=by
 have a:=qC F D z dp c D λq d=>Mz nd d;have e:((cu D).map gM).length<cb:=c5 (m:=4) (zx6 hl) ↑2;have sq:xO (!0) (dc D)=.ok ((cu D).map gM):=rfl;have f:gW [.lst ((rest z D).map λq=>.tup [.str q.1,fl q.2])]=.ok (dc (rest z D)):=by show(Res.of (vy _)).bind (λb=>Res.ok (PV.cy (cC b [] []).1 (cC b [] []).2))=_;rw [Fc];show Res.ok (PV.cy (cC _ [] []).1 (cC _ [] []).2)=_;rw [sx _ _ _ (λZ Z h=>by cases h) (zD nd)];rfl
 simp! only [] at a;simp! only [Uq,eT,ag,sq,e,a,f]
def K6{w:Str}(a:ay dp (.int 0)=.ok (.str w))(b:(w=="lay")=fx)(env:Sl):du F S3 (.val (dc D)::.val dp::env)=.ok (.nx (.val (dc D)::.val dp::env)):=by simp! only [S3,eT,ag,a,BS,b]
def vO(h:gv z D=eW R):ay (dc D) (.str z)=.ok (fl R):=by show(Res.of (fg (.str z))).bind (λk=>Res.of (bS (cu D) (kl D) k))=_;show Res.of (bS (cu D) (kl D) z)=_;rw [ox,h];rfl
def VG:pY (.str z) (dc D)=.ok (.bl (gv z D).isSome):=by show(Res.of (fg (.str z))).bind (λk=>Res.ok (PV.bl (gh (cu D) k)))=_;show Res.ok (PV.bl (gh (cu D) z))=_;rw [jY]
def Ko:oP (.str z) (dc D)=.ok (.bl (!(gv z D).isSome)):=by show(Res.of (fg (.str z))).bind (λk=>Res.ok (PV.bl (!gh (cu D) k)))=_;show Res.ok (PV.bl (!gh (cu D) z))=_;rw [jY]
def Sa(R:List Str):(PV.cy (eN (cu (rest z D)) z) (cS (cu (rest z D)) (kl (rest z D)) z (fl R)))=dc (rest z D++[(z,R)]):=by unfold eN cS;rw [DA (zE z D),if_neg zzf,if_neg zzf];unfold dc cu kl;rw [List.map_append,List.map_append];rfl
include hl in
def Fi(k e:Ci.E)(R:List Str)(a b c d f:Ci.Slot)(hk:az F k (eB D dp (rest z D) a b c d f)=.ok (.str z))(he:az F e (eB D dp (rest z D) a b c d f)=.ok (fl R)):du F (.put 2 k e) (eB D dp (rest z D) a b c d f)=.ok (.nx (eB D dp (rest z D++[(z,R)]) a b c d f)):=by have l:(cu (rest z D)).length<cb:=c5 (m:=4) (by rw [zzl];exact c4 (Fn z D) hl) ↑2;rw [du,he];show(az F k (eB D dp (rest z D) a b c d f)).bind _=_;rw [hk];show(if(cu (rest z D)).length<cb then Res.ok (Fl.nx ((eB D dp (rest z D) a b c d f).set 2 (.own (PV.cy (eN (cu (rest z D)) z) (cS (cu (rest z D)) (kl (rest z D)) z (fl R)))))) else Res.bad)=_;rw [if_pos l,Sa];rfl
theorem ou(E:DD)(a b c d e:Ci.Slot):du F (.bR 2) (eB D dp E a b c d e)=.ok (.nx [.val (dc D),.val dp,.val (dc E),a,b,c,d,e]):=rfl
include hl in
def C3(d:ay dp (.int 1)=.ok (.str z))(R:List Str)(q:PV)(a b c:Ci.Slot):bj F #v[Ur,Us,Qe] (eB D dp (rest z D) a b c (.val (fl R)) (.val q))=.ok (.rt (.tup [dc (rest z D++[(z,R)]),q])):=by show bj F #v[.put 2 (.sub (!1) (¬1)) (!6),.bR 2,Qe] _=_;rw [e8 (Fi F hl z dp _ _ R a b c _ _ (by simp! only [d]) (by simp! only [])),e8 (ou F dp _ _ _ _ _ _)];refine sW ?_;simp! only [Qe,eT,ag]
include nd hl in
def Ik(R:List Str):aV F ag [dc D,.tup [.str "lay",.str z,fl R]]=.ok (.tup [dc (rest z D++[(z,R)]),.bl (gv z D).isSome]):=by
 have b:ay (.tup [.str "lay",.str z,fl R]) (.int 0)=.ok (.str "lay"):=rfl;have a:ay (.tup [.str "lay",.str z,fl R]) (.int 1)=.ok (.str z):=rfl;have c:ay (.tup [.str "lay",.str z,fl R]) (.int 2)=.ok (fl R):=rfl;have d:(("lay":Str)=="lay")=e6:=↑1
 have e:du F S3 (eB D (.tup [.str "lay",.str z,fl R]) (rest z D) .no .no .no .no .no)=.ok (.rt (.tup [dc (rest z D++[(z,R)]),.bl (gv z D).isSome])):=by
  have f:az F (.cmp .eq (.sub (!1) (¬0)) (.cst (.str "lay"))) (eB D (.tup [.str "lay",.str z,fl R]) (rest z D) .no .no .no .no .no)=.ok (.bl e6):=by simp! only [b,BS,d]
  show du F (.ite _ _ _) _=_;rw [du,f];show bj F #v[.put 2 _ _,.bR 2,_] _=_;rw [e8 (Fi F hl z _ _ _ R _ _ _ _ _ (by simp! only [a]) (by simp! only [c])),e8 (ou F _ _ _ _ _ _ _)];refine sW ?_;simp! only [a,VG]
 refine nD rfl ?_;rw [yu];show bj F _ [.val (dc D),.val _,.no,.no,.no,.no,.no,.no]=_;rw [e8 (Cg F nd hl z _ a),sW e]
theorem J9:∀ys:List Str,aW (λx=>((Tg.one 0).put x [.no,.val (dc D)]).bind λa=>(az F (.cmp .Ey (!0) (!1)) a).bind λt=>yk t λt=>if t then(az F (!0) a).bind λy=>.ok (eW y) else .ok eX) (ys.map .str)=.ok ((ys.filter λy=>!(gv y D).isSome).map .str)
 |[]=>rfl|y::ys=>by
  have b:=J9 ys;rw [a8,aW,b,ew];cases h:(gv y D).isSome
  .simp! only [Ko,h];rfl
  .simp! only [Ko,h];rfl
def Ts(ys:List Str):iF (.lst (ys.map .str)) (.lst [])=.ok (.bl (!ys.isEmpty)):=by
 have h:Ci.plain 9 (.lst (ys.map .str))=e6:=by show(ys.map PV.str).all (Ci.plain 8)=e6;rw [List.all_map];exact cZ.2 λZ Z=>rfl
 show(if(m6 (.lst (ys.map .str))&&m6 (.lst []))=e6 then Res.ok (PV.bl (!eqv (.lst (ys.map .str)) (.lst []))) else .bad)=_;rw [show m6 (.lst (ys.map .str))=e6 from h];cases ys<;>rfl
def K7(ys:List Str)(f:ys.length<=2)(E:DD)(a b c d:Ci.Slot):du F Xs (eB D dp E (.val (.lst (ys.map .str))) a b c d)=.ok (if(ys.filter λy=>!(gv y D).isSome).isEmpty then .nx (eB D dp E (.val (.lst (ys.map .str))) a b c d) else .rt (.tup [dc D,.str (zu 54)])):=by
 have e:=J9 F (D:=D) ys;have g:(ys.map PV.str).length<cb:=c5 (m:=2) (zx6 f) ↑2;simp! only [] at e;have h:az F (.cmp .ne (.fH 1 [0] (.one 0) (.seq (!3)) (.cmp .Ey (!0) (!1)) (!0)) (.lst .nil)) (eB D dp E (.val (.lst (ys.map .str))) a b c d)=.ok (.bl (!(ys.filter λy=>!(gv y D).isSome).isEmpty)):=by have:=Ts (ys.filter λy=>!(gv y D).isSome);simp! only [g,e,this]
 show du F (.ite _ _ _) _=_;rw [du,h];cases(ys.filter λy=>!(gv y D).isSome).isEmpty
 .show bj F _ _=_;refine sW ?_;simp! only []
 .rfl
noncomputable abbrev WQ:Ss:=.cons S4 #v[Ad,Ur,Us,Qe]
noncomputable abbrev FD(D:DD)(dp:PV):Sl:=[.val (dc D),.val dp,.no,.no,.no,.no,.no,.no]
def yt{w:Str}(a:ay dp (.int 0)=.ok (.str w))(b:ay dp (.int 1)=.ok (.str z))(c:(w=="join")=fx)(E:DD):du F Pa (eB D dp E .no .no .no .no .no)=.ok (.nx (eB D dp E (.val (.lst ([z].map .str))) .no .no .no .no)):=by simp! only [Pa,eT,ag,a,b,Rz,c,a8,List.map_nil]
def GV{a b:Str}(c:ay dp (.int 0)=.ok (.str "join"))(d:ay dp (.int 3)=.ok (.str a))(e:ay dp (.int 4)=.ok (.str b))(E:DD):du F Pa (eB D dp E .no .no .no .no .no)=.ok (.nx (eB D dp E (.val (.lst ([a,b].map .str))) .no .no .no .no)):=by
 have f:(("join":Str)=="join")=e6:=↑1
 simp! only [Pa,eT,ag,c,d,e,Rz,f,a8,List.map_nil]
include nd hl in
def xH{w:Str}(ys:List Str)(c:ys.length<=2)(d:ay dp (.int 0)=.ok (.str w))(e:ay dp (.int 1)=.ok (.str z))(f:(w=="lay")=fx)(g:∀E,du F Pa (eB D dp E .no .no .no .no .no)=.ok (.nx (eB D dp E (.val (.lst (ys.map .str))) .no .no .no .no))):
 bj F ag.body (FD D dp)=if(ys.filter λy=>!(gv y D).isSome).isEmpty then bj F WQ (eB D dp (rest z D) (.val (.lst (ys.map .str))) .no .no .no .no) else .ok (.rt (.tup [dc D,.str (zu 54)])):=by
 rw [yu,e8 (Cg F nd hl z dp e),e8 (K6 F dp d f _),e8 (g _)];have a:=K7 F (D:=D) dp ys c (rest z D) .no .no .no .no;cases b:(ys.filter λy=>!(gv y D).isSome).isEmpty
 .rw [b] at a;exact sW a
 .rw [b] at a;exact e8 a
include nd hl in
def lh{w:Str}(a:ay dp (.int 0)=.ok (.str w))(b:ay dp (.int 1)=.ok (.str z))(c:(w=="lay")=fx)(d:(w=="join")=fx)(hn:gv z D=eX):aV F ag [dc D,dp]=.ok (.tup [dc D,.str (zu 54)]):=by refine nD rfl ?_;show bj F ag.body (FD D dp)=_;rw [xH F nd hl z dp [z] (Nat.le_succ 1) a b c (yt F z dp a b d),ew,hn];rfl
include nd hl in
def oO{w:Str}(a:ay dp (.int 0)=.ok (.str w))(b:ay dp (.int 1)=.ok (.str z))(c:(w=="lay")=fx)(d:(w=="join")=fx)(hn:gv z D=eW R)
 (h:bj F WQ (eB D dp (rest z D) (.val (.lst [.str z])) .no .no .no .no)=.ok (.rt q)):aV F ag [dc D,dp]=.ok q:=by
 refine nD rfl ?_;show bj F ag.body (FD D dp)=_;rw [xH F nd hl z dp [z] (Nat.le_succ 1) a b c (yt F z dp a b d),ew,hn];exact h
def wC{w:Str}(f:ay dp (.int 0)=.ok (.str w))(g:(w=="take")=fx)(E:DD)(a b c d e:Ci.Slot):du F S4 (eB D dp E a b c d e)=.ok (.nx (eB D dp E a b c d e)):=by simp! only [S4,eT,ag,f,BS,g]
include nd hl in
def FP(hn:gv z D=eW R):aV F ag [dc D,.tup [.str "take",.str z]]=.ok (.tup [dc (rest z D),fl R]):=by
 have a:ay (.tup [.str "take",.str z]) (.int 0)=.ok (.str "take"):=rfl;have b:ay (.tup [.str "take",.str z]) (.int 1)=.ok (.str z):=rfl;refine oO F nd hl z _ a b ↑1 ↑1 hn ?_;have c:(("take":Str)=="take")=e6:=↑1
 have d:az F (.cmp .eq (.sub (!1) (¬0)) (.cst (.str "take"))) (eB D (.tup [.str "take",.str z]) (rest z D) (.val (.lst [.str z])) .no .no .no .no)=.ok (.bl e6):=by simp! only [a,BS,c]
 refine sW ?_;show du F (.ite _ _ _) _=_;rw [du,d];show bj F #v[.bR 2,_] _=_;rw [e8 (ou F _ _ _ _ _ _ _)];refine sW ?_;have:=vO z hn;simp! only [b,this]
def GX{w:Str}{a:PV}(c:ay dp (.int 0)=.ok (.str w))(d:ay dp (.int 1)=.ok (.str z))(e:(w=="join")=fx)(hn:gv z D=eW R)(f:F (zu 22) [fl R,dp]=.ok (.tup [a,.tup xs]))(E:DD)(b:Ci.Slot):
 du F Ad (eB D dp E b .no .no .no .no)=.ok (.nx (eB D dp E b .no .no (.val a) (.val (.tup xs)))):=by
 have hd:=vO z hn;simp! only [Ad,eT,ag,c,d,BS,e,hd,f]
def GY{w:Str}{a:PV}(b:ay dp (.int 0)=.ok (.str w))(d:ay dp (.int 1)=.ok (.str z))(e:(w=="join")=fx)(hn:gv z D=eW R)(f:F (zu 22) [fl R,dp]=.ok (.tup [a,.str c]))(E:DD)(g:Ci.Slot):
 du F Ad (eB D dp E g .no .no .no .no)=.ok (.rt (.tup [dc D,.str c])):=by
 have hd:=vO z hn;simp! only [Ad,eT,ag,b,d,BS,e,hd,f]
include nd hl in
def oI{w:Str}{a:List Str}{q:List PV}(b:ay dp (.int 0)=.ok (.str w))(c:ay dp (.int 1)=.ok (.str z))(f:(w=="lay")=fx)(g:(w=="take")=fx)(d:(w=="join")=fx)(hn:gv z D=eW R)(h:F (zu 22) [fl R,dp]=.ok (.tup [fl a,.tup q])):aV F ag [dc D,dp]=.ok (.tup [dc (rest z D++[(z,a)]),.tup q]):=by refine oO F nd hl z dp b c f d hn ?_;have e:=GX F z dp b c d hn h (rest z D) (.val (.lst [.str z]));rw [e8 (wC F dp b g _ _ _ _ _ _),e8 e];exact C3 F hl z dp c a (.tup q) _ _ _
include nd hl in
def y8{w:Str}{a:PV}{q:Str}(b:ay dp (.int 0)=.ok (.str w))(c:ay dp (.int 1)=.ok (.str z))(f:(w=="lay")=fx)(g:(w=="take")=fx)(d:(w=="join")=fx)(hn:gv z D=eW R)(h:F (zu 22) [fl R,dp]=.ok (.tup [a,.str q])):aV F ag [dc D,dp]=.ok (.tup [dc D,.str q]):=by refine oO F nd hl z dp b c f d hn ?_;have e:=GY F z dp b c d hn h (rest z D) (.val (.lst [.str z]));rw [e8 (wC F dp b g _ _ _ _ _ _)];exact sW e
end
def WU{A B:List Str}{a:Nat}(L:Fl A w)(b:Fl B a):∃y,ay (fl (List.zipWith (·++·) A B)) (.int 0)=.ok (.str y)/\dv .len [.str y]=.ok (.int ((w+a:Nat):Int))/\wd (List.zipWith (·++·) A B)=w+a:=by
 have c:=L.ne;have d:=b.ne;have e:(List.zipWith (·++·) A B)[0]?=eW (A[0]++B[0]):=by rw [List.getElem?_zipWith,zzg c,zzg d]
 have l:(A[0]++B[0]:Str).length=w+a:=by rw [Str.length_append,L.dU _ (List.getElem_mem c),b.dU _ (List.getElem_mem d)]
 have f:=pR L;have g:=pR b;refine{A[0]++B[0],kc (j:=0) e,?_,?_}
 .show(if(A[0]++B[0]:Str).length<=cb then Res.ok (PV.int ((A[0]++B[0]:Str).length:Int)) else .bad)=_;rw [l,if_pos (c4 (m:=24) (by lia) ↑2)]
 .unfold wd;rw [bU,e];exact l
def Uo{A:List Str}(B:List Str)(L:Fl A w):∃y,ay (fl (A++B)) (.int 0)=.ok (.str y)/\dv .len [.str y]=.ok (.int (w:Int))/\wd (A++B)=w:=by
 have a:=L.ne;have e:(A++B)[0]?=eW A[0]:=by rw [eg a,zzg a]
 have l:=L.dU _ (List.getElem_mem a);have b:=pR L;refine{A[0],kc (j:=0) e,?_,?_}
 .show(if(A[0]).length<=cb then Res.ok (PV.int ((A[0]).length:Int)) else .bad)=_;rw [l,if_pos (c4 (m:=24) (by lia) ↑2)]
 .unfold wd;rw [bU,e];exact l
theorem To{C:List Str}:cG .is (fl C) .aP=.ok (.bl fx):=rfl
theorem Yl:cG .is .aP .aP=.ok (.bl e6):=rfl
def BR{a b:Nat}:(((a:Int)==(b:Int)))=decide (a=b):=by rw [Bool.eq_iff_iff,zzy,zzN];lia
def M3(F:aN)(z b c:Str)(e:Bool){A B:List Str}{w g:Nat}(L:Fl A w)(m:Fl B g)(T:gv b D=eW A)(U:gv c D=eW B)(E:DD)(P:Ci.Slot):∃V W,du F Ad (eB D (.tup [.str "join",.str z,.bl e,.str b,.str c]) E P .no .no .no .no)=
 .ok (match yV e A B with|some C=>.nx (eB D (.tup [.str "join",.str z,.bl e,.str b,.str c]) E P V W (.val (fl C)) (.val (fl C)))|none=>.rt (.tup [dc D,.str "no fit"])):=by
 refine{.val (fl A),.val (fl B),?_};have h:ay (.tup [.str "join",.str z,.bl e,.str b,.str c]) (.int 0)=.ok (.str "join"):=rfl;have i:ay (.tup [.str "join",.str z,.bl e,.str b,.str c]) (.int 2)=.ok (.bl e):=rfl;have j:ay (.tup [.str "join",.str z,.bl e,.str b,.str c]) (.int 3)=.ok (.str b):=rfl;have k:ay (.tup [.str "join",.str z,.bl e,.str b,.str c]) (.int 4)=.ok (.str c):=rfl;have o:(("join":Str)=="join")=e6:=↑1
 have p:=vO b T;have r:=vO c U;have G:=gN A;have H:=gN B;have Q:=L.jk.1;have X:=m.jk.1;have PC:=pR L;have Y:=pR m;let(a0,I,_,K):=vE L;let(b0,M,_,N):=vE m;generalize Z:(PV.tup [.str "join",.str z,.bl e,.str b,.str c])=dp at h i j k⊢;unfold yV;rw [fk L,fk m];cases e
 .rw [if_neg zzf];by_cases d:w=g
  .have f:decide (w=g)=e6:=zzh d;have R:=B9 Q X;let(c0,u,y,_):=Uo B L;have s:=gN (A++B);have g2:decide ((12:Int)<(w:Int))=fx:=by rw [decide_eq_false_iff_not];lia
   by_cases a:A.length+B.length<=12
   .have g1:decide ((12:Int)<((A++B).length:Int))=fx:=by rw [decide_eq_false_iff_not,bW];lia
    rw [if_pos ⟨d,a⟩];simp! only [Ad,eT,ag,h,i,j,k,BS,o,p,r,I,M,K,N,BR,f,R,To,s,g1,u,y,g2]
   .have g1:decide ((12:Int)<((A++B).length:Int))=e6:=by rw [zzN,bW];lia
    rw [if_neg (λq=>a q.2)];simp! only [Ad,eT,ag,h,i,j,k,BS,o,p,r,I,M,K,N,BR,f,R,To,s,g1]
  .have f:decide (w=g)=fx:=zz0 d;rw [if_neg (λq=>d q.1)];simp! only [Ad,eT,ag,h,i,j,k,BS,o,p,r,I,M,K,N,BR,f,Yl]
 .rw [if_pos rfl];by_cases d:A.length=B.length
  .have f:decide (A.length=B.length)=e6:=zzh d;have O:=zV F (w:=w) d L.jk.2 m.jk.2;let(t,S):=Ga (B:=B) Q;let(c0,u,y,_):=WU L m;have s:=gN (List.zipWith (·++·) A B);have g1:decide ((12:Int)<((List.zipWith (·++·) A B).length:Int))=fx:=by rw [decide_eq_false_iff_not,List.length_zipWith];lia
   simp! only [] at O;by_cases a:w+g<=12
   .have g2:decide ((12:Int)<((w+g:Nat):Int))=fx:=by rw [decide_eq_false_iff_not];lia
    rw [if_pos ⟨d,a⟩];simp! only [Ad,eT,ag,h,i,j,k,BS,o,p,r,G,H,BR,f,t,S,O,To,s,g1,u,y,g2]
   .have g2:decide ((12:Int)<((w+g:Nat):Int))=e6:=by rw [zzN];lia
    rw [if_neg (λq=>a q.2)];simp! only [Ad,eT,ag,h,i,j,k,BS,o,p,r,G,H,BR,f,t,S,O,To,s,g1,u,y,g2]
  .have f:decide (A.length=B.length)=fx:=zz0 d;rw [if_neg (λq=>d q.1)];simp! only [Ad,eT,ag,h,i,j,k,BS,o,p,r,G,H,BR,f,Yl]
def Gd(D:DD):Prop:=∀q∈D,∃w,Fl q.2 w
def Gd.at(g:Gd D)(h:gv z D=eW R):∃w,Fl R w:=g _ (Ke h)
def Aa(F m:aN)(q:∀as,F (zu 22) as=aV m aR as)(nd:(cu D).Nodup)(hl:D.length<=4)(g:Gd D)(d:Dd):aV F ag [dc D,d.P]=.ok (.tup [dc (vU d.nm D (act (Lk D) d).2),(act (Lk D) d).1]):=by
 cases d with
 |lay z R=>exact Ik F nd hl z R|take z=>
  have c:ay (.tup [.str "take",.str z]) (.int 0)=.ok (.str "take"):=rfl
  cases h:gv z D with
  |none=>refine(lh F nd hl z _ c rfl ↑1 ↑1 h).trans ?_;simp! [act,h,GC,vU]|some R=>refine(FP F nd hl z h).trans ?_;simp! [act,h,vU,Dd.nm]
 |turn z=>
  have c:ay (.tup [.str "turn",.str z]) (.int 0)=.ok (.str "turn"):=rfl
  cases h:gv z D with
  |none=>refine(lh F nd hl z _ c rfl ↑1 ↑1 h).trans ?_;simp! [act,h,GC,vU]|some R=>let(w,L):=g.at h;refine(oI F nd hl z _ c rfl ↑1 ↑1 ↑1 h ((q _).trans (A8 m L z))).trans ?_;simp! [act,h,vU,Dd.nm,fk L]
 |lV z=>
  have c:ay (.tup [.str (zu 21),.str z]) (.int 0)=.ok (.str (zu 21)):=rfl
  cases h:gv z D with
  |none=>refine(lh F nd hl z _ c rfl ↑1 ↑1 h).trans ?_;simp! [act,h,GC,vU]|some R=>let(w,L):=g.at h;refine(oI F nd hl z _ c rfl ↑1 ↑1 ↑1 h ((q _).trans (Ek m L z))).trans ?_;simp! [act,h,vU,Dd.nm]
 |sign z a b x=>
  have c:ay (.tup [.str "sign",.str z,sp a b,.str {#[x]}]) (.int 0)=.ok (.str "sign"):=rfl
  cases h:gv z D with
  |none=>refine(lh F nd hl z _ c rfl ↑1 ↑1 h).trans ?_;simp! [act,h,GC,vU]|some R=>
   let(w,L):=g.at h;have hm:=(q _).trans (A7 m L z a b x);have e:act (Lk D) (.sign z a b x)=if a<R.length/\b<w then(if x=120 then(.str "no sign",eX) else(.tup [.str {#[(cd R a b).getD 0]}],eW (eW (xV R a b x)))) else(.str "no spot",eX):=by simp! [act,h,fk L]
   rw [e];by_cases j:a<R.length/\b<w
   .rw [if_pos j] at hm⊢;by_cases r:x=120
    .rw [if_pos r] at hm⊢;exact y8 F nd hl z _ c rfl ↑1 ↑1 ↑1 h hm
    .rw [if_neg r] at hm⊢;exact oI F nd hl z _ c rfl ↑1 ↑1 ↑1 h hm
   .rw [if_neg j] at hm⊢;exact y8 F nd hl z _ c rfl ↑1 ↑1 ↑1 h hm
 |join z e f i=>
  have c:ay (.tup [.str "join",.str z,.bl e,.str f,.str i]) (.int 0)=.ok (.str "join"):=rfl;have pre:=xH F nd hl z (.tup [.str "join",.str z,.bl e,.str f,.str i]) [f,i] (a7 2) c rfl ↑1 (GV F _ c rfl rfl)
  refine nD rfl ?_;refine pre.trans ?_;rw [ew,ew];cases k:gv f D with
  |none=>simp! [act,k];rfl|some A=>
   cases o:gv i D with
   |none=>simp! [act,k,o];rfl|some B=>
    let(w,L):=g.at k;let(u,t):=g.at o;let(y,E,p):=M3 F z f i e L t k o (rest z D) (.val (.lst ([f,i].map .str)));simp! [act,k,o];show bj F WQ _=_
    rw [e8 (wC F _ c ↑1 _ _ _ _ _ _)];cases s:yV e A B with
    |none=>rw [s] at p;exact sW p|some C=>rw [s] at p;rw [e8 p];exact C3 F hl z _ rfl C _ _ _ _
theorem Ac{a b:Type}{f:a->Res b}:(Res.exc c:Res a).bind f=.exc c:=rfl
def Ab(F:aN){A B:List Str}{b:Nat}(L:Fl A w)(e:Fl B b):aV F cf [fl A,fl B]=match yV fx A B with|some C=>.ok (fl C)|none=>.exc "NoFit":=by
 let(r,f,_,g):=vE L;let(s,h,_,i):=vE e;have j:=gN A;have k:=gN B;have m:=L.jk.1;have o:=e.jk.1;unfold yV;rw [fk L,fk e,if_neg zzf];by_cases c:w=b
 .have d:decide (w=b)=e6:=zzh c;have p:=B9 m o;by_cases a:A.length+B.length<=12
  .have g1:decide ((12:Int)<(A.length:Int)+(B.length:Int))=fx:=by rw [decide_eq_false_iff_not];lia
   rw [if_pos ⟨c,a⟩];simp! only [cf,f,h,g,i,BR,d,j,k,g1,p]
  .have g1:decide ((12:Int)<(A.length:Int)+(B.length:Int))=e6:=by rw [zzN];lia
   rw [if_neg (λq=>a q.2)];simp! only [cf,f,h,g,i,BR,d,j,k,g1,Ac]
 .have d:decide (w=b)=fx:=zz0 c;rw [if_neg (λq=>c q.1)];simp! only [cf,f,h,g,i,BR,d,Ac]
def wB(F:aN){A B:List Str}{w c:Nat}(L:Fl A w)(d:Fl B c):aV F bO [fl A,fl B]=match yV e6 A B with|some C=>.ok (fl C)|none=>.exc "NoFit":=by
 let(s,i,_,j):=vE L;let(t,k,_,m):=vE d;have f:=gN A;have g:=gN B;have p:=L.jk.1;have u:=d.jk.1;unfold yV;rw [fk L,fk d,if_pos rfl];by_cases a:A.length=B.length
 .have e:decide (A.length=B.length)=e6:=zzh a;have o:=zV F (w:=w) a L.jk.2 d.jk.2;let(h,r):=Ga (B:=B) p;simp! only [] at o;by_cases b:w+c<=12
  .have g2:decide ((12:Int)<(w:Int)+(c:Int))=fx:=by rw [decide_eq_false_iff_not];lia
   rw [if_pos ⟨a,b⟩];simp! only [bO,i,k,j,m,BR,e,f,g,g2,h,r,o]
  .have g2:decide ((12:Int)<(w:Int)+(c:Int))=e6:=by rw [zzN];lia
   rw [if_neg (λq=>b q.2)];simp! only [bO,i,k,j,m,BR,e,f,g,g2,Ac]
 .have e:decide (A.length=B.length)=fx:=zz0 a;rw [if_neg (λq=>a q.1)];simp! only [bO,f,g,BR,e,Ac]
def Nt(F:aN)(hs:∀r c,F "is_spot" [sp r c]=.ok (.bl e6))(d:∀a,PX a->∀r c,F (zu 14) [fl a,sp r c]=.ok (.bl (decide (0<=r)&&decide (0<=c)&&(cd a r.toNat c.toNat).isSome))){a:List Str}(L:Fl a w){i:Nat}(h:¬(i<a.length/\j<w)):aV F ba [fl a,sp i j]=.exc "NoSpot":=by
 have f:cd a i j=eX:=by
  unfold cd;by_cases b:i<a.length
  .rw [zzg b];have:=L.dU _ (List.getElem_mem b);show(a[i]).cps.toList[j]?=eX;refine List.getElem?_eq_none ?_;rw [d1];show(a[i]).length<=j;lia
  .rw [List.getElem?_eq_none (by lia)];rfl
 have e:=d a L.jk i j;rw [ey,ey,f,zzh (Int.natCast_nonneg i),zzh (Int.natCast_nonneg j)] at e;have e:F (zu 14) [fl a,sp i j]=.ok (.bl fx):=e;simp! only [ba,hs,e,Bool.not_false,Ac]
section
variable(s:Sg)
def AJ(L:Fl R w):F1 s (zu 51) [fl R]=.ok (.bl e6):=by have a:aG (aU s) qj (zu 51)=aV (aG (aU s) Ua) dP:=n8 9;have b:aG (aU s) Ua "is_row"=aV (aG (aU s) TZ) gb:=n8 0;have e3:aG (aU s) TZ (zu 37)=aV (aG (aU s) T9) di:=n8 1;show aG (aU s) qj (zu 51) _=_;rw [a];exact Hl _ (λz c d hd=>by rw [b];exact Od _ (λx e=>by rw [e3];exact Oz _ e) c d hd) L
def CV(L:Fl R w):F1 s (zu 18) [fl R]=.ok (fl (pL R w)):=by have a:aG (aU s) qj (zu 18)=aV (aG (aU s) T4) bZ:=n8 17;show aG (aU s) qj (zu 18) _=_;rw [a];exact BK _ L.ne L.jk.1 L.dU (pR L)
def wQ(L:Fl R w):F1 s (zu 13) [fl R]=.ok (fl (lV R)):=by have a:aG (aU s) qj (zu 13)=aV (aG (aU s) T5) bE:=n8 16;show aG (aU s) qj (zu 13) _=_;rw [a];exact u9 _ L.jk.1 L.jk.2
def CU(r c:Int):aG (aU s) T8 "is_spot" [sp r c]=.ok (.bl e6):=by have a:aG (aU s) T8 "is_spot"=aV (aG (aU s) T6) eU:=n8 1;have b:aG (aU s) T6 (zu 50)=aV (aG (aU s) T1) fc:=n8 4;rw [a];exact xb _ (λi=>by rw [b];exact se _ i) r c
def Kb(a:List Str)(R:PX a)(r c:Int):aG (aU s) T8 (zu 14) [fl a,sp r c]=.ok (.bl (decide (0<=r)&&decide (0<=c)&&(cd a r.toNat c.toNat).isSome)):=by have b:aG (aU s) T8 (zu 14)=aV (aG (aU s) T7) cx:=n8 0;rw [b];exact RI _ a R r c
def LA(L:Fl R w)(a b:Nat):F1 s (zu 17) [fl R,sp a b]=if a<R.length/\b<w then .ok .aP else .exc "NoSpot":=by
 have c:aG (aU s) qj (zu 17)=aV (aG (aU s) T8) ba:=n8 13;show aG (aU s) qj (zu 17) _=_;rw [c];by_cases h:a<R.length/\b<w
 .rw [if_pos h];exact Nu _ (CU s) (Kb s) L h.1 h.2
 .rw [if_neg h];exact Nt _ (CU s) (Kb s) L h
def CQ(x:Nat):aG (aU s) O7 (zu 37) [.str {#[x]}]=.ok (.bl (decide (x∈[35,48,49,50,51,52,53,54,55,56,57]))):=by
 have a:aG (aU s) O7 (zu 37)=aV (aG (aU s) T9) di:=n8 0
 have b:pY (.str {#[x]}) (.str (zu 25))=.ok (.bl (decide (x∈[35,48,49,50,51,52,53,54,55,56,57]))):=by
  rw [DR];have:((zu 25:Str)).cps.toList=[35,48,49,50,51,52,53,54,55,56,57]:=↑1
  rw [this]
 have c:({#[x]}:Str).length=1:=rfl;have d:1<=cb:=↑2
 rw [a];simp! only [di,c,d,b];rfl
def CT{x:Nat}(a:x∈Px):F1 s (zu 44) [.str {#[x]}]=if x=120 then .exc "NoSign" else .ok .aP:=by
 have b:aG (aU s) qj (zu 44)=aV (aG (aU s) O7) dj:=n8 11;have h:=CQ s x;show aG (aU s) qj (zu 44) _=_;rw [b];simp! [Px,d8,List.not_mem_nil,or_false] at a;by_cases e:x=120
 .subst e;have h:aG (aU s) O7 (zu 37) [.str {#[120]}]=.ok (.bl fx):=h;rw [if_pos rfl];simp! only [dj,h,Bool.not_false,Ac]
 .have h:aG (aU s) O7 (zu 37) [.str {#[x]}]=.ok (.bl e6):=by rw [h,zzh];simp! [d8,List.not_mem_nil,or_false];lia
  rw [if_neg e];simp! only [dj,h,Bool.not_true]
def LD(L:Fl R w){a b:Nat}(x:Nat)(c:a<R.length)(d:b<w):F1 s (zu 42) [fl R,sp a b,.str {#[x]}]=.ok (fl (xV R a b x)):=by have e:aG (aU s) qj (zu 42)=aV (aG (aU s) Xl) dk:=n8 6;show aG (aU s) qj (zu 42) _=_;rw [e];exact F6 _ L x c d
abbrev jn(F:aN)(e:Bool)(A B:List Str):Res PV:=if e=e6 then F (zu 33) [fl A,fl B] else F (zu 43) [fl A,fl B]
def UG(e:Bool){A B:List Str}{b:Nat}(L:Fl A w)(a:Fl B b):jn (F1 s) e A B=match yV e A B with|some C=>.ok (fl C)|none=>.exc "NoFit":=by
 have c:aG (aU s) qj (zu 33)=aV (aG (aU s) Xj) bO:=n8 8;have d:aG (aU s) qj (zu 43)=aV (aG (aU s) Xk) cf:=n8 7;unfold jn;cases e
 .rw [if_neg zzf];exact(congrFun d _).trans (Ab _ L a)
 .rw [if_pos rfl];exact(congrFun c _).trans (wB _ L a)
end
abbrev fD(D:DD):List (Str×PV):=D.map λq=>(q.1,fl q.2)
def wO(D:DD):(fD D).map (·.1)=cu D:=by unfold fD;rw [List.map_map];rfl
def Lx(D:DD):(fD D).map (·.2)=kl D:=by unfold fD;rw [List.map_map];rfl
abbrev gY(z:Str)(R:List Str)(D:DD):DD:=if(gv z D).isSome=e6 then D.map (λq=>if q.1=z then(q.1,R) else q) else D++[(z,R)]
def N8(z:Str)(R:List Str)(D:DD):putD z (fl R) (fD D)=fD (gY z R D):=by
 unfold putD gY;rw [wO,Lx];unfold eN cS;rw [jY];cases h:(gv z D).isSome
 .rw [if_neg zzf,if_neg zzf,if_neg zzf,List.zip_append (by simp)];unfold fD;rw [List.map_append]
  congr 1
  clear h
  induction D with
  |nil=>rfl|cons q D a=>show(q.1,fl q.2)::(cu D).zip (kl D)=_;rw [a,a8]
 .rw [if_pos rfl,if_pos rfl,if_pos rfl];clear h;unfold fD;rw [List.map_map]
  induction D with
  |nil=>rfl|cons q D a=>
   show(q.1,if q.1=z then fl R else fl q.2)::(cu D).zip (List.zipWith (λb v=>if b=z then fl R else v) (cu D) (kl D))=_;rw [a,a8]
   congr 1
   show(q.1,if q.1=z then fl R else fl q.2)=((if q.1=z then(q.1,R) else q).1,fl (if q.1=z then(q.1,R) else q).2);by_cases e:q.1=z
   .rw [if_pos e,if_pos e]
   .rw [if_neg e,if_neg e]
def Hj(z:Str)(D:DD):fe z (fD D)=fD (rest z D):=by
 unfold fe;rw [wO,Lx]
 induction D with
 |nil=>unfold bK fM;rfl|cons q D a=>
  show(fM (q.1::cu D) z).zip (bK (q.1::cu D) (fl q.2::kl D) z)=_;have b:bK (q.1::cu D) (fl q.2::kl D) z=if q.1=z then bK (cu D) (kl D) z else fl q.2::bK (cu D) (kl D) z:=by rw [bK]
  rw [b];unfold fM rest at a⊢;rw [ew,ew];by_cases e:q.1=z
  .rw [if_neg (by simp [e]),if_pos e,if_neg (by simp [e])];exact a
  .rw [if_pos (by simp [e]),if_neg e,if_pos (by simp [e]),List.zip_cons_cons,a];rfl
def Dw(z y:Str)(R:List Str)(D:DD):gv y (gY z R D)=if y=z then eW R else gv y D:=by
 unfold gY;cases h:(gv z D).isSome
 .rw [if_neg zzf,rX];by_cases e:y=z
  .subst e;have d:gv y D=eX:=Option.not_isSome_iff_eq_none.1 (by rw [h];exact zzf);rw [d,if_pos rfl]
  .rw [if_neg e];cases gv y D with
   |some _=>rfl|none=>exact if_neg (Ne.symm e)
 .rw [if_pos rfl]
  induction D with
  |nil=>cases h
  |cons q D c=>
   rw [a8];unfold gv;by_cases e:q.1=z
   .rw [if_pos e];show(if q.1=y then eW R else gv y (D.map _))=_;by_cases k:q.1=y
    .rw [if_pos k,if_pos (k.symm.trans e)]
    .rw [if_neg k,if_neg (λj=>k (e.trans j.symm)),if_neg k];clear c h
     induction D with
     |nil=>rfl|cons p D a=>
      rw [a8];unfold gv;by_cases b:p.1=z
      .rw [if_pos b];show(if p.1=y then eW R else _)=_;rw [if_neg (λj=>k (e.trans (b.symm.trans j))),if_neg (λj=>k (e.trans (b.symm.trans j)))];exact a
      .rw [if_neg b];by_cases k2:p.1=y
       .rw [if_pos k2,if_pos k2]
       .rw [if_neg k2,if_neg k2];exact a
   .rw [if_neg e];have f:(gv z D).isSome=e6:=by
     unfold gv at h;rw [if_neg e] at h;exact h
    by_cases k:q.1=y
    .rw [if_pos k,if_pos k,if_neg (λj=>e (k.trans j))]
    .rw [if_neg k,if_neg k];exact c f
def M8(z:Str)(R:List Str)(D:DD):cu (gY z R D)=if(gv z D).isSome=e6 then cu D else cu D++[z]:=by
 unfold gY;split
 .unfold cu;rw [List.map_map];refine List.map_congr_left λq Z=>?_;show(if q.1=z then(q.1,R) else q).1=q.1;split<;>rfl
 .simp
structure Inv(D:DD):Prop where
 nd:(cu D).Nodup
 nm:∀k∈cu D,k∈mE
 g:Gd D
theorem l7:∀{l m:List Str},l.Nodup->(∀x∈l,x∈m)->l.length<=m.length
 |[],_,_,_=>Nat.zero_le _|x::l,m,nd,h=>by have a:=List.nodup_cons.1 nd;have b:=h x (.head _);have:=l7 (l:=l) (m:=m.erase x) a.2 λy c=>(List.mem_erase_of_ne (λe=>a.1 (by rw [<-e];exact c))).2 (h y (.tail _ c));rw [List.length_erase_of_mem b] at this;have d:0<m.length:=List.length_pos_of_mem b;rw [bV];lia
def Inv.len(I:Inv D):D.length<=4:=by have:=l7 I.nd I.nm;rw [zzl] at this;exact this
section
variable{U:gB}{st:S2}{ss:nM}{e1:Sl}{s s1:Sg}{p:PV}{t:Ci.S}{e:Ci.E}{i:Nat}{x y:X2}{a b:nM}
set_option backward.match.sparseCases false
def dH:cB F1 U .nil env s=.ok (.nx env) s:=by rw [cB]
set_option backward.match.sparseCases true
def cT{z:Rs Ci.Fl}(h:eM F1 U st env s=.ok (.nx e1) s1)(g:cB F1 U ss e1 s1=z):cB F1 U (.cons st ss) env s=z:=by rw [cB,h];exact g
def mR(h:eM F1 U st env s=.exc c s1):cB F1 U (.cons st ss) env s=.exc c s1:=by rw [cB,h];rfl
def fh(h:eM F1 U st env s=.ok (.rt p) s1):cB F1 U (.cons st ss) env s=.ok (.rt p) s1:=by rw [cB,h];rfl
def EL{z:Res Ci.Fl}(h:du (F1 s) t env=z):eM F1 U (.p t) env s=Rs.of (z.bind clean) s:=by rw [eM,h]
def sJ(h:du (F1 s) t env=.ok (.nx e1))(n:e1.any Slot.cg=fx):eM F1 U (.p t) env s=.ok (.nx e1) s:=by refine(EL h).trans ?_;show Rs.of (if e1.any Slot.cg then Res.bad else Res.ok (Fl.nx e1)) s=_;rw [n];rfl
def sI(h:az (F1 s) e env=.ok q)(n:env.any Slot.cg=fx):eM F1 U (.p (.expr e)) env s=.ok (.nx env) s:=sJ (by rw [du,h];rfl) n
def iG(h:az (F1 s) e env=.ok q)(n:(env.set i (.val q)).any Slot.cg=fx):eM F1 U (.p (.set i e)) env s=.ok (.nx (env.set i (.val q))) s:=sJ (by rw [du,h];rfl) n
theorem vq(h:az (F1 s) e env=.ok q):eM F1 U (.p (.ret e)) env s=.ok (.rt q) s:=EL (z:=.ok (.rt q)) (by rw [du,h];rfl)
theorem Ks(h:az (F1 s) e env=.exc c):eM F1 U (.p (.expr e)) env s=.exc c s:=EL (z:=.exc c) (by rw [du,h];rfl)
theorem EM(h:az (F1 s) e env=.exc c):eM F1 U (.p (.set i e)) env s=.exc c s:=EL (z:=.exc c) (by rw [du,h];rfl)
theorem sL(h:az (F1 s) e env=.ok (.bl e6)):eM F1 U (.p (.ite e #v[.raise c m] .nil)) env s=.exc c s:=EL (z:=.exc c) (by rw [du,h];show bj (F1 s) #v[.raise c m] env=_;rw [bj,du];rfl)
def ite_ff{F:aN}{a:Ss}(h:az F e env=.ok (.bl fx)):du F (.ite e a .nil) env=.ok (.nx env):=by rw [du,h];show bj F .nil env=_;rw [bj]
def ic{F:aN}{as:Es}{r:Res PV}(d:bJ F as env=.ok ps)(h:F f ps=r):az F (.call f as) env=r:=by rw [az,d];exact h
def dW(h:bF F1 U x env s=.ok p s1):eM F1 U (.set i x) env s=.ok (.nx (env.set i (.val p))) s1:=by rw [eM,h];rfl
def i7(h:bF F1 U x env s=.exc c s1):eM F1 U (.set i x) env s=.exc c s1:=by rw [eM,h];rfl
def gX(h:bF F1 U x env s=.ok p s1):eM F1 U (.ex x) env s=.ok (.nx env) s1:=by rw [eM,h];rfl
def kb(h:bF F1 U x env s=.ok p s1):eM F1 U (.ret x) env s=.ok (.rt p) s1:=by rw [eM,h];rfl
def J5(h:bF F1 U x env s=.ok p s1)(g:F1 s1 f [p]=.ok q):bF F1 U (.c1 f #v[x]) env s=.ok q s1:=by rw [bF,eJ,h];show(((eJ F1 U .nil env s1).bind λd s=>Rs.ok (p::d) s)).bind (λd s=>Rs.of (F1 s f d) s)=_;rw [eJ];show Rs.of (F1 s1 f [p]) s1=_;rw [g];rfl
def Cj(h:bF F1 U x env s=.exc c s1):bF F1 U (.c1 f #v[x]) env s=.exc c s1:=by rw [bF,eJ,h];rfl
def DZ{z:Rs Ci.Fl}(h:az (F1 s) e env=.ok (.bl e6))(g:cB F1 U a env s=z):eM F1 U (.ite (.pu e) a b) env s=z:=by rw [eM,v7,h];exact g
def Tp{z:Rs Ci.Fl}(h:az (F1 s) e env=.ok (.bl fx))(g:cB F1 U b env s=z):eM F1 U (.ite (.pu e) a b) env s=z:=by rw [eM,v7,h];exact g
def xT{z:Rs PV}(h:az (F1 s) e env=.ok (.bl e6))(g:bF F1 U x env s=z):bF F1 U (.ite e x y) env s=z:=by rw [bF,h];exact g
def xF{z:Rs PV}(h:az (F1 s) e env=.ok (.bl fx))(g:bF F1 U y env s=z):bF F1 U (.ite e x y) env s=z:=by rw [bF,h];exact g
def sk{z:Rs Ci.Fl}(h:az (F1 s) e env=.ok (.bl fx))(g:cB F1 U ss env s=z):cB F1 U (.cons (.ite (.pu e) a .nil) ss) env s=z:=cT (Tp h dH) g
def OX{z:Rs PV}(h:bF F1 U x env s=z):bF F1 U (.tup #v[x]) env s=z.bind λq s=>.ok (.tup [q]) s:=by
 rw [bF,eJ,h];cases z with
 |ok q s1=>show(((eJ F1 U .nil env s1).bind λd s=>Rs.ok (q::d) s)).bind (λd s=>Rs.ok (PV.tup d) s)=_;rw [eJ];rfl|exc c s1=>rfl|bad=>rfl
abbrev told(r:Rs PV):Rs PV:=match r with
 |.exc d s=>Rs.of (F1 s (zu 9) [.exc d]).well s|r=>r
def fU{d:List Nat}{z w:Rs PV}(j:rG d env=.ok e1)(g:told z=w)(h:bF F1 U x e1 s=z):bF F1 U (.FQ f d x) env s=w:=by rw [bF,j,<-g,<-h];simp! [Rs.of,Rs.bind];cases bF F1 U x e1 s<;>rfl
def FR{r:Rs PV}(h:r=.ok p s):told r=.ok p s:=by rw [h];rfl
def iN{r:Rs PV}{w:Str}(h:r=.exc c s)(k:aV (aG (aU s) T0) dy [.exc c]=.ok (.str w)):told r=.ok (.str w) s:=by rw [h];show Rs.of (F1 s (zu 9) [.exc c]).well s=_;rw [show F1 s (zu 9)=aV (aG (aU s) T0) dy from n8 21,k];rfl
theorem rN:∀(n:Nat) {T:List (Str×D2)},((T.take n).all λx=>!(f==x.1))=e6->b8 F1 T f=b8 F1 (T.drop n) f
 |0,_,_=>rfl|n+1,[],_=>rfl|n+1,(m,d)::r,h=>by rw [List.take_succ_cons,List.all_cons,zza,Bool.not_eq_true'] at h;exact(show b8 F1 ((m,d)::r) f=b8 F1 r f by funext as s;simp [b8,h.1]).trans (rN n h.2)
variable{d:D2}{T:List (Str×D2)}{as:List PV}
theorem run_eq(k:Nat)(e:BO.drop k=(f,d)::T)(hk:(((BO.take k).all λx=>!(f==x.1)),as.length==d.np)=(e6,e6))(s:Sg):F2 f as s=(cB F1 (b8 F1 T) d.body (gR d as) s).bind λf s=>(match f with
 |.nx _=>.ok .aP s|.rt p=>.ok p s|_=>.bad):=by
 have h:F2 f as s=mf F1 (b8 F1 T) d as s:=by rw [show F2 f=b8 F1 (BO.drop k) f from rN k (congrArg Prod.fst hk),e];simp [b8]
 exact h.trans (if_pos (congrArg Prod.snd hk))
abbrev Zo:Rs PV->Rs Ci.Fl
 |.ok p s=>.ok (.rt p) s|.exc c s=>.exc c s|.bad=>.bad
def aX{z:Rs PV}(k:Nat)(e:BO.drop k=(f,d)::T)(h:cB F1 (b8 F1 T) d.body (gR d as) s=Zo z)(hk:(((BO.take k).all λx=>!(f==x.1)),as.length==d.np)=(e6,e6)):F2 f as s=z:=by rw [run_eq k e hk,h];cases z<;>rfl
def xM(k:Nat)(e:BO.drop k=(f,d)::T)(h:cB F1 (b8 F1 T) d.body (gR d as) s=.ok (.nx e1) s1)(hk:(((BO.take k).all λx=>!(f==x.1)),as.length==d.np)=(e6,e6)):F2 f as s=.ok .aP s1:=by rw [run_eq k e hk,h];rfl
def cM{as:Es}{z:Rs PV}(h:F2 (mD "Atlas" m) (.obj 0::ps) s=z)(g:(BO.drop (17-T.length),(BO.take (17-T.length)).all λx=>!(mD "Atlas" m==x.1))=(T,e6))(j:(env[i]?,kH s 0 "Atlas")=(eW (.val (.obj 0)),e6))(k:bJ (F1 s) as env=.ok ps):bF F1 (b8 F1 T) (.met (.var i) "Atlas" m as) env s=z:=by
 let(g,o):=Prod.mk.inj g;let(j,r):=Prod.mk.inj j;have e:az (F1 s) (.var i) env=.ok (.obj 0):=by rw [az,j];rfl
 rw [bF,e];show(if kH s 0 "Atlas"=e6 then(Rs.of (bJ (F1 s) as env) s).bind λps s=>b8 F1 T (mD "Atlas" m) (.obj 0::ps) s else .bad)=_;rw [if_pos r,k,<-g];exact(congrFun (congrFun (rN _ o) _) _).symm.trans h
def cm{as:Es}{z:Rs PV}(h:F2 (mD "Atlas" m) (.obj 0::ps) s=z)(j:(BO.drop (17-T.length),(BO.take (17-T.length)).all λx=>!(mD "Atlas" m==x.1))=(T,e6))(g:((env[i]?,kH s 0 "Atlas"),bJ (F1 s) as env)=((eW (.val (.obj 0)),e6),.ok ps)):bF F1 (b8 F1 T) (.met (.var i) "Atlas" m as) env s=z:=cM h j (congrArg Prod.fst g) (congrArg Prod.snd g)
def Rm:DV "#l"=e6:=↑1
def zw{n:Nat}{fs:List (Str×PV)}{x:Str×PV}(g:az (F1 s) e env=.ok (.obj n))(hs:s[n]?=eW {"#l",fs++[x]}):bF F1 U (.xG e) env s=.ok x.2 (s.set n {"#l",fs}):=by
 have e:(fs++[x])[(fs++[x]).length-1]?=eW x:=by simp
 rw [bF,g];simp! [Rs.of,Rs.bind,kJ,hs,e,List.dropLast_concat,if_pos Rm]
def vA(h:az (F1 s) e env=.ok p):bF F1 U (.pu e) env s=.ok p s:=by rw [bF,h];rfl
def rA{a:Ci.E}{n:Nat}{fs:List (Str×PV)}(g:az (F1 s) a env=.ok (.obj n))(hs:s[n]?=eW {"#l",fs})(h:az (F1 s) e env=.ok p)(hl:fs.length<cb):bF F1 U (.uf a (.pu e)) env s=.ok .aP (s.set n {"#l",fs++[(("":Str),p)]}):=by rw [bF,g];simp! [Rs.of,Rs.bind,kJ,hs,vA h,if_pos Rm,if_pos hl]
end
abbrev O0(z:Str)(D:DD):Option (Option (List Str))->DD
 |none=>D|some eX=>rest z D|some (eW R)=>gY z R D
abbrev oF:Option (List Str)->PV
 |none=>.aP|some R=>fl R
noncomputable abbrev zM(w z:Str)(h c:Option (List Str)):Str×PV:=("",.tup [.str w,.str z,oF h,oF c])
abbrev AF(fs dn:List (Str×PV))(r:Sg)(u:Nat):Sg:={"Atlas",[(zu 46,.obj 1),("done",.obj 2),("undone",.obj (u+3))]}::{"#d",fs}::{"#l",dn}::r
noncomputable abbrev AT(D:DD)(dn:List (Str×PV))(r:Sg)(u:Nat):Sg:=AF (fD D) dn r u
noncomputable abbrev NX(w z:Str)(c:Option (List Str))(D:DD)(dn:List (Str×PV))(r:Sg):Sg:=AT (O0 z D (eW c)) (dn++[zM w z (gv z D) c]) (r++[{"#l",[]}]) r.length
noncomputable abbrev gV(z:Str)(fs:List (Str×PV)):Option PV:=bS (fs.map (·.1)) (fs.map (·.2)) z
def L1:gV z (fD D)=(gv z D).map fl:=by rw [gV,wO,Lx,ox]
def Qn{fs dn:List (Str×PV)}{r:Sg}{u:Nat}:kH (AF fs dn r u) 0 "Atlas"=e6:=∅
section
variable(I:Inv D){w:Str}{c:Option (List Str)}{dn:List (Str×PV)}{r:Sg}{u:Nat}{s:Sg}{U:gB}
include I in
def rW(hn:c=eX->(gv z D).isSome=e6):F2 "Atlas.give" [.obj 0,.str z,oF c] (AT D dn r u)=.ok .aP (AT (O0 z D (eW c)) dn r u):=by
 cases c with
 |none=>
  let(R,h):=ef.1 (hn rfl)
  have e:eM F1 (b8 F1 U2) (.ex (.qF (.fld 0 (zu 46)) (!1))) [.val (.obj 0),.val (.str z),.val .aP] (AT D dn r u)=(match gV z (fD D) with|some p=>Rs.ok p (AF (fe z (fD D)) dn r u)|none=>.bad).bind λZ s=>.ok (.nx [.val (.obj 0),.val (.str z),.val .aP]) s:=∅
  rw [L1,h,Hj] at e;exact xM 14 rfl (cT (DZ ∅ (cT e dH)) dH) ∅
 |some R=>
  have e:eM F1 (b8 F1 U2) (.Bs (.fld 0 (zu 46)) (!1) (!2)) [.val (.obj 0),.val (.str z),.val (fl R)] (AT D dn r u)=(if(fD D).length<cb then Rs.ok PV.aP (AF (putD z (fl R) (fD D)) dn r u) else .bad).bind λZ s=>.ok (.nx [.val (.obj 0),.val (.str z),.val (fl R)]) s:=∅
  rw [if_pos (c5 (m:=4) (by unfold fD;rw [zzl];exact I.len) ↑2),N8] at e;exact xM 14 rfl (cT (Tp ∅ (cT e dH)) dH) ∅
def UN:(gV z (fD D)).getD .aP=oF (gv z D):=by rw [L1];cases gv z D<;>rfl
include I in
theorem i9(w z:Str)(c:Option (List Str))(hd:dn.length<cb)(hn:c=eX->(gv z D).isSome=e6):F2 "Atlas.step" [.obj 0,.str w,.str z,oF c] (AT D dn r u)=.ok .aP (NX w z c D dn r):=
 xM 13 rfl (cT (gX (rA (n:=2) (p:=(zM w z (gv z D) c).2) ∅ rfl (Eq.trans (b:=.ok (.tup [.str w,.str z,(gV z (fD D)).getD .aP,oF c])) ∅ (by rw [UN])) hd))
  (cT (e1:=[.val (.obj 0),.val (.str w),.val (.str z),.val (oF c)]) (s1:=AT D (dn++[zM w z (gv z D) c]) (r++[{"#l",[]}]) r.length) ∅ (cT (gX (cm (rW I hn) ∅ ∅)) dH))) ∅
def need(hz:z∈mE)(h:env[1]?=eW (.val (.str z)))(n:env.any Slot.cg=fx):eM F1 U (.p (.expr (.call (zu 35) #v[!1]))) env s=.ok (.nx env) s:=by
 have k:F1 s (zu 35) [.str z]=.ok .aP:=by simp! [mE,d8,List.not_mem_nil,or_false] at hz;rcases hz with rfl|rfl|rfl|rfl<;>kernel_rfl
 exact sI (ic (ps:=[.str z]) (by rw [bJ,az,h,bJ];rfl) k) n
def bt(hz:z∈mE)(h:gv z D=eW R):F2 (zu 30) [.obj 0,.str z] (AT D dn r u)=.ok (fl R) (AT D dn r u):=by
 have c:az (F1 (AT D dn r u)) (.cmp .Ey (!1) (.con (.fld 0 (zu 46)))) [.val (.obj 0),.val (.str z)]=.ok (.bl !(gh ((fD D).map (·.1)) z)):=∅
 rw [wO,jY,h] at c;have k:az (F1 (AT D dn r u)) (.sub (.con (.fld 0 (zu 46))) (!1)) [.val (.obj 0),.val (.str z)]=Res.of (gV z (fD D)):=∅
 rw [L1,h] at k;exact aX 15 rfl (cT (need hz rfl rfl) (cT (sJ (ite_ff c) rfl) (fh (vq k)))) ∅
def dQ(hz:z∈mE)(h:gv z D=eX):F2 (zu 30) [.obj 0,.str z] (AT D dn r u)=.exc "NoName" (AT D dn r u):=by
 have c:az (F1 (AT D dn r u)) (.cmp .Ey (!1) (.con (.fld 0 (zu 46)))) [.val (.obj 0),.val (.str z)]=.ok (.bl !(gh ((fD D).map (·.1)) z)):=∅
 rw [wO,jY,h] at c;exact aX 15 rfl (cT (need hz rfl rfl) (mR (sL c))) ∅
end
def OG(L:Fl R w)(i j:Nat){x:Nat}(a:x∈Px)(h:x≠120):Fl (xV R i j x) w:=Sq L i j (by simp! [Px,d8,List.not_mem_nil,or_false] at a;unfold Xh;lia)
def Ro{A B C:List Str}{c:Nat}(L:Fl A w)(b:Fl B c){e:Bool}(h:yV e A B=eW C):∃v,Fl C v:=by
 have p:=L.ne;have r:=b.ne;have w1:=L.w1;unfold yV at h;rw [fk L,fk b] at h;cases e
 .rw [if_neg zzf] at h;by_cases q:w=c/\A.length+B.length<=12
  .rw [if_pos q] at h;cases h;let(rfl,m):=q
   have d:∀z∈A++B,z.length=w:=λz a=>by
    rcases List.mem_append.1 a with k|k
    .exact L.dU z k
    .exact b.dU z k
   refine{w,{by rw [bW];exact m,λz a=>by rw [d z a];exact pR L},by rw [bW];lia,w1,d,λz a=>?_}
   rcases List.mem_append.1 a with k|k
   .exact L.dig z k
   .exact b.dig z k
  .rw [if_neg q] at h;cases h
 .rw [if_pos rfl] at h;by_cases q:A.length=B.length/\w+c<=12
  .rw [if_pos q] at h;cases h;have hm:∀z∈List.zipWith (·++·) A B,∃x∈A,∃y∈B,z=x++y:=λz a=>by
    let(i,o,e):=List.getElem_of_mem a;rw [List.length_zipWith] at o;rw [List.getElem_zipWith] at e;exact{_,List.getElem_mem (by lia),_,List.getElem_mem (by lia),e.symm}
   have d:∀z∈List.zipWith (·++·) A B,z.length=w+c:=λz a=>by let(x,g,y,j,rfl):=hm z a;rw [Str.length_append,L.dU x g,b.dU y j]
   refine{w+c,{by rw [List.length_zipWith];have:=L.jk.1;lia,λz a=>by rw [d z a];exact q.2},by rw [List.length_zipWith];lia,by lia,d,λz a v f=>?_};let(x,g,y,j,rfl):=hm z a;have f:v∈(x.cps++y.cps).toList:=f
   rw [Array.toList_append] at f;rcases List.mem_append.1 f with k|k
   .exact L.dig x g v k
   .exact b.dig y j v k
  .rw [if_neg q] at h;cases h
def K0(g:Gd D)(d:Dd)(hd:d.Ok)(h:(act (Lk D) d).2=eW (eW R)):∃w,Fl R w:=by
 cases d with
 |lay z Q=>cases h;exact hd.2
 |take z=>
  simp! [act] at h;cases e:Lk D z with
  |none=>rw [e] at h;cases h
  |some Q=>rw [e] at h;cases h
 |turn z=>
  simp! [act] at h;cases e:Lk D z with
  |none=>rw [e] at h;cases h
  |some Q=>rw [e] at h;let(w,L):=g.at e;cases h;rw [fk L];exact{_,LN L}
 |lV z=>
  simp! [act] at h;cases e:Lk D z with
  |none=>rw [e] at h;cases h
  |some Q=>rw [e] at h;let(w,L):=g.at e;cases h;exact{_,LL L}
 |sign z a b x=>
  simp! [act] at h;cases e:Lk D z with
  |none=>rw [e] at h;cases h
  |some Q=>
   rw [e] at h;let(w,L):=g.at e;dsimp only at h;by_cases q:a<Q.length/\b<wd Q
   .rw [if_pos q] at h;by_cases k:x=120
    .rw [if_pos k] at h;cases h
    .rw [if_neg k] at h;cases h;exact{_,OG L a b hd.2 k}
   .rw [if_neg q] at h;cases h
 |join z f j m=>
  simp! [act] at h;cases c:Lk D j with
  |none=>rw [c] at h;cases h
  |some A=>
   rw [c] at h;cases eB:Lk D m with
   |none=>rw [eB] at h;cases h
   |some B=>
    rw [eB] at h;let(w,L):=g.at c;let(p,o):=g.at eB
    dsimp only at h;cases i:yV f A B with
    |none=>rw [i] at h;cases h
    |some C=>rw [i] at h;cases h;exact Ro L o i
abbrev Dd.wd:Dd->Str
 |.lay _ _=>"lay"|.take _=>"take"|.turn _=>"turn"|.lV _=>(zu 21)|.sign _ _ _ _=>"sign"|.join _ _ _ _=>"join"
section
variable{d:Dd}{s s1:Sg}{p:PV}{F:aN}
abbrev dM(s:Sg):Dd->Rs PV
 |.lay z R=>F2 "Atlas.lay" [.obj 0,.str z,fl R] s|.take z=>F2 "Atlas.take" [.obj 0,.str z] s|.turn z=>F2 "Atlas.turn" [.obj 0,.str z] s|.lV z=>F2 (zu 53) [.obj 0,.str z] s|.sign z a b x=>(F2 "Atlas.sign" [.obj 0,.str z,sp a b,.str {#[x]}] s).bind λq s=>.ok (.tup [q]) s|.join z e c f=>F2 "Atlas.join" [.obj 0,.str z,.bl e,.str c,.str f] s
def XI(hs:kH s 0 "Atlas"=e6)(h:told (dM s d)=.ok p s1):F2 (zu 26) [.obj 0,d.P] s=.ok p s1:=by
 cases d with
 |lay z R=>exact aX 1 rfl (fh (DZ ∅ (fh (kb (fU rfl h (xT ∅ (cM (ps:=[.str z,fl R]) rfl ∅ (Prod.ext rfl hs) ∅))))))) ∅|take z=>exact aX 1 rfl (fh (DZ ∅ (fh (kb (fU rfl h (xF ∅ (cM (ps:=[.str z]) rfl ∅ (Prod.ext rfl hs) ∅))))))) ∅|turn z=>exact aX 1 rfl (sk ∅ (sk ∅ (sk ∅ (fh (kb (fU rfl h (xT ∅ (cM (ps:=[.str z]) rfl ∅ (Prod.ext rfl hs) ∅)))))))) ∅|lV z=>exact aX 1 rfl (sk ∅ (sk ∅ (sk ∅ (fh (kb (fU rfl h (xF ∅ (cM (ps:=[.str z]) rfl ∅ (Prod.ext rfl hs) ∅)))))))) ∅|sign z a b x=>exact aX 1 rfl (sk ∅ (fh (DZ ∅ (fh (kb (fU rfl h (OX (cM (ps:=[.str z,sp a b,.str {#[x]}]) rfl ∅ (Prod.ext rfl hs) ∅)))))))) ∅|join z e c f=>exact aX 1 rfl (sk ∅ (sk ∅ (fh (DZ ∅ (fh (kb (fU rfl h (cM (ps:=[.str z,.bl e,.str c,.str f]) rfl ∅ (Prod.ext rfl hs) ∅)))))))) ∅
def Lb{r:Rs PV}(h:r=.exc c s):(r.bind λq s=>Rs.ok (PV.tup [q]) s)=.exc c s:=by rw [h];rfl
def f9{e:Ci.E}{a:Es}(h:az F e env=.ok p)(g:bJ F a env=.ok ps):bJ F (.cons e a) env=.ok (p::ps):=by rw [bJ,h,g];rfl
def Bb:bJ F .nil env=.ok []:=by rw [bJ]
def BE{a b:Ci.E}{r:PV}(h:ay p q=.ok r)(c:az F a env=.ok p)(e:az F b env=.ok q):az F (.sub a b) env=.ok r:=by rw [az,c,e];exact h
def RF{e:Ci.E}(h:az F e env=.ok (.bl e6)):az F (.not e) env=.ok (.bl fx):=by rw [az,h];rfl
def V9{e:Ci.E}(h:az F e env=.ok (.bl fx)):az F (.not e) env=.ok (.bl e6):=by rw [az,h];rfl
def Ym{e:Bool}{A B:List Str}{a b c d g:Slot}:az F (.ite (!2) (.call (zu 33) #v[!5,!6]) (.call (zu 43) #v[!5,!6])) [a,b,.val (.bl e),c,d,.val (fl A),.val (fl B),g]=jn F e A B:=by cases e<;>simp! [jn,az,bJ,List.getElem?_cons_zero,List.getElem?_cons_succ,mO,Res.bind,yk,if_true,if_neg zzf]
variable{dn:List (Str×PV)}{r:Sg}{u:Nat}
noncomputable abbrev TK(D:DD)(d:Dd)(dn:List (Str×PV))(r:Sg)(u:Nat)(x:PV×Option (Option (List Str))):Prop:=F2 (zu 26) [.obj 0,d.P] (AT D dn r u)=.ok x.1 (match x.2 with
 |none=>AT D dn r u|some c=>NX d.wd d.nm c D dn r)
def kM(e:act (Lk D) d=(p,eX))(h:told (dM (AT D dn r u) d)=.ok p (AT D dn r u)):TK D d dn r u (act (Lk D) d):=by rw [e];exact XI Qn h
def qE{c:Option (List Str)}(e:act (Lk D) d=(p,eW c))(h:dM (AT D dn r u) d=.ok p (NX d.wd d.nm c D dn r)):TK D d dn r u (act (Lk D) d):=by rw [e];exact XI Qn (FR h)
def Ls(I:Inv D)(hd:d.Ok)(hn:dn.length<cb):TK D d dn r u (act (Lk D) d):=by
 cases d with
 |lay z R=>let(i,w,L):=hd;exact qE rfl (aX 9 rfl (cT (sJ (ite_ff (RF (ic (ps:=[fl R]) ∅ (AJ _ L)))) rfl) (cT (need i rfl rfl) (cT (iG (q:=.bl (gv z D).isSome) (Eq.trans (b:=.ok (.bl (gh ((fD D).map (·.1)) z))) ∅ (by rw [wO,jY])) rfl) (cT (gX (cm (i9 I "lay" z (eW R) hn nofun) ∅ ∅)) (fh ∅))))) ∅)|take z=>
  cases h:gv z D with
  |none=>exact kM (p:=.str (zu 54)) (by simp! [act,Lk,h]) (iN (aX 8 rfl (mR (i7 (cm (dQ hd h) ∅ ∅))) ∅) ∅)|some R=>exact qE (p:=fl R) (c:=eX) (by simp! [act,Lk,h]) (aX 8 rfl (cT (dW (cm (bt hd h) ∅ ∅)) (cT (gX (cm (i9 I "take" z eX hn λZ=>by rw [h];rfl) ∅ ∅)) (fh ∅))) ∅)
 |turn z=>
  cases h:gv z D with
  |none=>exact kM (p:=.str (zu 54)) (by simp! [act,Lk,h]) (iN (aX 11 rfl (mR (i7 (Cj (cm (dQ hd h) ∅ ∅)))) ∅) ∅)|some R=>let(w,L):=I.g.at h;exact qE (p:=fl (pL R w)) (c:=eW (pL R w)) (by simp! [act,Lk,h,fk L]) (aX 11 rfl (cT (dW (J5 (cm (bt hd h) ∅ ∅) (CV _ L))) (cT (gX (cm (i9 I "turn" z (eW (pL R w)) hn nofun) ∅ ∅)) (fh ∅))) ∅)
 |lV z=>
  cases h:gv z D with
  |none=>exact kM (p:=.str (zu 54)) (by simp! [act,Lk,h]) (iN (aX 10 rfl (mR (i7 (Cj (cm (dQ hd h) ∅ ∅)))) ∅) ∅)|some R=>let(w,L):=I.g.at h;exact qE (p:=fl (lV R)) (c:=eW (lV R)) (by simp! [act,Lk,h]) (aX 10 rfl (cT (dW (J5 (cm (bt hd h) ∅ ∅) (wQ _ L))) (cT (gX (cm (i9 I (zu 21) z (eW (lV R)) hn nofun) ∅ ∅)) (fh ∅))) ∅)
 |sign z a b x=>
  let(i,H):=hd
  cases h:gv z D with
  |none=>exact kM (p:=.str (zu 54)) (by simp! [act,Lk,h]) (iN (Lb (aX 7 rfl (mR (i7 (cm (dQ i h) ∅ ∅))) ∅)) ∅)|some R=>
   let(w,L):=I.g.at h;by_cases e:a<R.length/\b<w
   .by_cases k:x=120
    .exact kM (p:=.str "no sign") (by simp! [act,Lk,h,fk L,if_pos e,if_pos k]) (iN (Lb (aX 7 rfl (cT (dW (cm (bt i h) ∅ ∅)) (cT (sI (ic (ps:=[fl R,sp a b]) ∅ ((LA _ L a b).trans (if_pos e))) rfl) (mR (Ks (ic (ps:=[.str {#[x]}]) ∅ ((CT _ H).trans (if_pos k))))))) ∅)) ∅)
    .have K:R[a]?=eW R[a]:=zzg e.1;let(v,o):=DQ L e.1 e.2;have M:(R[a]).cps.toList[b]?=eW v:=by unfold cd at o;rw [K] at o;exact o
     have s1:ay (fl R) (.int (a:Int))=.ok (.str R[a]):=kc K;have N:=sZ (c4 (L.jk.2 _ (List.getElem_mem e.1)) ↑2) M;refine qE (p:=.tup [.str {#[v]}]) (c:=eW (xV R a b x)) (by simp! [act,Lk,h,fk L,if_pos e,if_neg k,o,Option.getD_some]) (congrArg (λr:Rs PV=>r.bind λq s=>Rs.ok (PV.tup [q]) s) (aX (z:=.ok (.str {#[v]}) _) 7 rfl (cT (dW (cm (bt i h) ∅ ∅)) (cT (sI (ic (ps:=[fl R,sp a b]) ∅ ((LA _ L a b).trans (if_pos e))) rfl) (cT (sI (ic (ps:=[.str {#[x]}]) ∅ ((CT _ H).trans (if_neg k))) rfl) (cT (gX (cM (i9 I "sign" z (eW (xV R a b x)) hn nofun) ∅ ∅ (f9 ∅ (f9 ∅ (f9 (ic (ps:=[fl R,sp a b,.str {#[x]}]) ∅ (LD _ L x e.1 e.2)) ∅))))) (fh (vq (BE N (BE s1 ∅ ∅) ∅))))))) ∅))
   .exact kM (p:=.str "no spot") (by simp! [act,Lk,h,fk L,if_neg e]) (iN (Lb (aX 7 rfl (cT (dW (cm (bt i h) ∅ ∅)) (mR (Ks (ic (ps:=[fl R,sp a b]) ∅ ((LA _ L a b).trans (if_neg e)))))) ∅)) ∅)
 |join z f O P=>
  let(i,t,G):=hd
  cases j:gv O D with
  |none=>exact kM (p:=.str (zu 54)) (by simp! [act,Lk,j]) (iN (aX 12 rfl (cT (need i rfl rfl) (mR (i7 (cm (dQ t j) ∅ ∅)))) ∅) ∅)|some A=>
   cases m:gv P D with
   |none=>exact kM (p:=.str (zu 54)) (by simp! [act,Lk,j,m]) (iN (aX 12 rfl (cT (need i rfl rfl) (cT (dW (cm (bt t j) ∅ ∅)) (mR (i7 (cm (dQ G m) ∅ ∅))))) ∅) ∅)|some B=>
    let(w,L):=I.g.at j;let(S,Q):=I.g.at m;have y:=λs=>UG s f L Q
    cases E:yV f A B with
    |none=>rw [E] at y;exact kM (p:=.str "no fit") (by simp! [act,Lk,j,m,E]) (iN (aX 12 rfl (cT (need i rfl rfl) (cT (dW (cm (bt t j) ∅ ∅)) (cT (dW (cm (bt G m) ∅ ∅)) (mR (EM (Ym.trans (y _))))))) ∅) ∅)|some C=>rw [E] at y;exact qE (p:=fl C) (c:=eW C) (by simp! [act,Lk,j,m,E]) (aX 12 rfl (cT (need i rfl rfl) (cT (dW (cm (bt t j) ∅ ∅)) (cT (dW (cm (bt G m) ∅ ∅)) (cT (iG (Ym.trans (y _)) rfl) (cT (gX (cm (i9 I "join" z (eW C) hn nofun) ∅ ∅)) (fh ∅)))))) ∅)
end
abbrev V3:List Str:=["a","bcdefg","tu","vwxyz"]
abbrev cn(ks:List Str):List Str:=V3.filter λz=>ks.contains z
abbrev GO:Nat->List (List Str)
 |0=>[[]]|n+1=>(GO n).flatMap λl=>(mE.filter λz=>!l.contains z).map (·::l)
theorem u7:∀{ks:List Str},ks.Nodup->(∀k∈ks,k∈mE)->ks∈GO ks.length
 |[],_,_=>.head _|x::l,nd,h=>by have a:=List.nodup_cons.1 nd;have b:=u7 a.2 λk hk=>h k (.tail _ hk);show x::l∈(GO l.length).flatMap _;rw [List.mem_flatMap];refine{l,b,er.2 {x,List.mem_filter.2 {h x (.head _),?_},rfl}};rw [Bool.not_eq_true',Bool.eq_false_iff];exact λc=>a.1 (d9.1 c)
abbrev Zi(ks:List Str):Bool:=strsOf (tZ .aP (ks.map gM) (ks.map codes))==eW (cn ks)
def G8:∀n:Fin 5,((GO n.1).all Zi)=e6:=↑1
theorem vN:∀{xs:List PV} {a:List Str},strsOf xs=eW a->xs=a.map .str
 |[],a,h=>by cases h;rfl
 |x::xs,a,h=>by
  cases x with
  |str z=>rw [strsOf] at h;let(ys,b,rfl):=bM.1 h;rw [vN b];rfl|_=>cases h
def OF(nd:ks.Nodup)(h:∀k∈ks,k∈mE):tZ .aP (ks.map gM) (ks.map codes)=(cn ks).map .str:=by have hl:ks.length<=4:=l7 nd h;have:=cZ.1 (G8 {ks.length,by lia}) ks (u7 nd h);exact vN (zzy.1 this)
def Kr{d:Dd}(h:d.Ok):d.nm∈mE:=by
 cases d with
 |lay z R=>exact h.1|take z=>exact h|turn z=>exact h|lV z=>exact h|sign z a b x=>exact h.1|join z e c f=>exact h.1
theorem kU(I:Inv D)(z:Str):Inv (rest z D) where
 nd:=zD I.nd
 nm:=λk hk=>by let(q,a,rfl):=er.1 hk;exact I.nm _ (List.mem_map_of_mem (List.mem_filter.1 a).1)
 g:=λq a=>I.g q (List.mem_filter.1 a).1
def yK(I:Inv D)(hz:z∈mE)(hn:z∉cu D)(f:∃w,Fl R w):Inv (D++[(z,R)]) where
 nd:=by unfold cu;rw [List.map_append,List.nodup_append];refine{I.nd,List.nodup_cons.2 {List.not_mem_nil,.nil},λa i b d e=>?_};rw [a8,List.map_nil,d3] at d;exact hn (by have:z=a:=(e.trans d).symm;rw [this];exact i)
 nm:=λk hk=>by
  let(q,c,rfl):=er.1 hk
  rcases List.mem_append.1 c with h|h
  .exact I.nm _ (List.mem_map_of_mem h)
  .rw [d3.1 h];exact hz
 g:=λq c=>by
  rcases List.mem_append.1 c with h|h
  .exact I.g q h
  .rw [d3.1 h];exact f
def yN(I:Inv D)(hz:z∈mE)(b:∃w,Fl R w):Inv (gY z R D):=by
 have hk:=M8 z R D;cases h:(gv z D).isSome
 .have c:z∉cu D:=rY.1 (Option.not_isSome_iff_eq_none.1 (by rw [h];exact zzf));unfold gY;rw [h,if_neg zzf];exact yK I hz c b
 .rw [h,if_pos rfl] at hk;refine{by rw [hk];exact I.nd,by rw [hk];exact I.nm,λq a=>?_};unfold gY at a;rw [h,if_pos rfl] at a;let(p,d,rfl):=er.1 a;by_cases e:p.1=z
  .rw [if_pos e];exact b
  .rw [if_neg e];exact I.g p d
structure KZ(D K:DD):Prop where
 a:Inv D
 b:Inv K
 e:Lk D=Lk K
def FW{K:DD}(T:KZ D K)(d:Dd)(hd:d.Ok):KZ (O0 d.nm D (act (Lk D) d).2) (vU d.nm K (act (Lk K) d).2):=by
 have f:=Kr hd;have i:=λR=>K0 (R:=R) T.a.g d hd;rw [<-T.e];generalize k:(act (Lk D) d).2=c at i;have e:∀y,gv y D=gv y K:=congrFun T.e
 match c with
 |none=>exact T|some eX=>refine{kU T.a _,kU T.b _,funext λy=>?_};show gv y (rest d.nm D)=gv y (rest d.nm K);rw [iS,iS,e y]|some (eW R)=>
  have j:=i R rfl;refine{yN T.a f j,yK (kU T.b _) f (zE _ _) j,funext λy=>?_};show gv y (gY d.nm R D)=gv y (rest d.nm K++[(d.nm,R)]);rw [Dw,rX,iS];by_cases h:y=d.nm
  .rw [if_pos h,if_pos h];exact(if_pos h.symm).symm
  .rw [if_neg h,if_neg h,e y];cases gv y K with
   |some _=>rfl|none=>exact(if_neg (Ne.symm h)).symm
def su:z∈cu D↔(gv z D).isSome=e6:=by
 cases h:gv z D with
 |none=>simp [rY.1 h]|some R=>simp! [Option.isSome_some,iff_true];exact List.mem_map_of_mem (f:=(·.1)) (Ke h)
def Qs{K:DD}(T:KZ D K):cn (cu D)=cn (cu K):=by unfold cn;refine List.filter_congr λz Z=>?_;rw [Bool.eq_iff_iff,d9,d9,su,su];have:=congrFun T.e z;dsimp only [Lk] at this;rw [this]
def wI(h:z∈cn ks):z∈ks:=by have:=(List.mem_filter.1 h).2;exact d9.1 this
def Nj:V3.Nodup:=↑1
def Ni:∀z∈mE,z∈V3:=↑1
def J8(ks:List Str):(cn ks).Nodup:=Nj.filter _
def Cr(nd:ks.Nodup)(h:∀k∈ks,k∈mE):(cn ks).length=ks.length:=
 Nat.le_antisymm (l7 (J8 ks) λx a=>wI a) (l7 nd λx a=>List.mem_filter.2 {Ni x (h x a),d9.2 a})
theorem uL(n:Nat):∀R:List Str,eqs (pQ n) (R.map .str) (R.map .str)=e6
 |[]=>rfl|y::R=>by show(pQ n (.str y) (.str y)&&eqs (pQ n) (R.map .str) (R.map .str))=e6;rw [uL n R,Bool.and_true];cases n<;>exact beq_self_eq_true y
def E8(n:Nat)(R:List Str):(R.map PV.str).all (Ci.plain n)=e6:=by rw [List.all_map];refine cZ.2 λy Z=>?_;cases n<;>rfl
def E6(R:List Str):m6 (fl R)=e6:=E8 8 R
def CM(R:List Str):eqv (fl R) (fl R)=e6:=uL 8 R
def Km(R:List Str):iF (fl R) (fl R)=.ok (.bl fx):=by unfold iF;rw [E6,CM];rfl
def RA(b:Bool):iF (.bl b) (.bl b)=.ok (.bl fx):=by cases b<;>rfl
def vf(c:Str):iF (.str c) (.str c)=.ok (.bl fx):=by rw [Rz,beq_self_eq_true];rfl
def wo{L:Str->Option (List Str)}{P:PV->Option (Option (List Str))->Prop}(d:Dd)(f:∀c,P (.str c) eX)(i:∀t R,P (.bl t) (eW (eW R)))(j:∀R,L d.nm=eW R->P (fl R) (eW eX))(g:∀Q R,P (fl Q) (eW (eW R))):P (act L d).1 (act L d).2:=by
 cases d with
 |lay z R=>exact i _ _|take z=>
  simp! [act];cases h:L z with
  |none=>exact f _|some R=>exact j _ h
 |sign z a b x=>
  simp! [act];cases L z with
  |none=>exact f _|some R=>
   dsimp only;split
   .split
    .exact f _
    .exact g [_] _
   .exact f _
 |join z e k m=>
  simp! [act];cases L k with
  |none=>exact f _|some A=>
   cases L m with
   |none=>exact f _|some B=>
    dsimp only;cases yV e A B with
    |none=>exact f _|some C=>exact g _ _
 |_ z=>
  simp! [act];cases L z with
  |none=>exact f _|some R=>exact g _ _
theorem K3(L:Str->Option (List Str))(d:Dd):nc .str (act L d).1=.ok (.bl (act L d).2.isNone):=wo (P:=λp c=>nc .str p=.ok (.bl c.isNone)) d (λZ=>rfl) (λZ Z=>rfl) (λZ Z=>rfl) λZ Z=>rfl
theorem K1(L:Str->Option (List Str))(d:Dd):iF (act L d).1 (act L d).1=.ok (.bl fx):=wo (P:=λp Z=>iF p p=.ok (.bl fx)) d vf (λt Z=>RA t) (λR Z=>Km R) λQ Z=>Km Q
def BA{vs:List PV}(nd:ks.Nodup)(h:∀k∈ks,k∈mE):dv .sorted [.cy ks vs]=.ok (.lst ((cn ks).map .str)):=by have hl:ks.length<=4:=l7 nd h;show(if ks.length<64 then Res.ok (PV.lst (tZ .aP (ks.map gM) (ks.map codes))) else .bad)=_;rw [if_pos (by lia),OF nd h]
theorem Eu(I:Inv D){dn:List (Str×PV)}{r:Sg}{u:Nat}:F2 "Atlas.names" [.obj 0] (AT D dn r u)=.ok (.lst ((cn (cu D)).map .str)) (AT D dn r u):=
 aX 6 rfl (fh (vq (Eq.trans (b:=dv .sorted [.cy ((fD D).map (·.1)) ((fD D).map (·.2))]) ∅ (by rw [wO,BA I.nd I.nm])))) ∅
abbrev aD(D:DD):DD:=(cn (cu D)).map λz=>(z,(gv z D).getD [])
def P2(D:DD):cu (aD D)=cn (cu D):=by unfold cu aD;rw [List.map_map];exact List.map_id' _
def Uk{q:Str×List Str}(h:q∈aD D):gv q.1 D=eW q.2:=by
 let(z,a,rfl):=er.1 h;have:=su.1 (wI a)
 cases e:gv z D with
 |none=>rw [e] at this;cases this
 |some R=>rfl
section
variable(I:Inv D){dn:List (Str×PV)}{r:Sg}{u:Nat}
noncomputable abbrev S1:X2:=.tup #v[.pu (!0),.met (!1) "Atlas" (zu 31) #v[!0]]
def Qy(hz:z∈mE)(h:gv z D=eW R):bF F1 (b8 F1 O8) S1 [.val (.str z),.val (.obj 0)] (AT D dn r u)=.ok (.tup [.str z,fl R]) (AT D dn r u):=by rw [bF,eJ,vA (p:=.str z) rfl];show((eJ F1 (b8 F1 O8) #v[_] _ _).bind _).bind _=_;rw [eJ,cm (m:=(zu 31)) (bt hz h) ∅ ∅];simp! [Rs.bind,eJ]
include I in
theorem uB:∀a:List Str,(∀z∈a,z∈cu D)->bG (λx s=>(Rs.of ((Tg.one 0).put x (jZ 1 .no++eQ [.val (.obj 0)] [0])) s).bind λb s=>bF F1 (b8 F1 O8) S1 b s) (a.map .str) (AT D dn r u)=.ok (a.map λz=>.tup [.str z,fl ((gv z D).getD [])]) (AT D dn r u)
 |[],_=>rfl|z::a,h=>by have hz:=h z (.head _);let(R,c):=ef.1 (su.1 hz);rw [a8,bG,show((Rs.of ((Tg.one 0).put (.str z) (jZ 1 .no++eQ [.val (.obj 0)] [0])) (AT D dn r u)).bind λb s=>bF F1 (b8 F1 O8) S1 b s)=.ok (.tup [.str z,fl R]) (AT D dn r u) from Qy (I.nm z hz) c];show(bG _ (a.map .str) (AT D dn r u)).bind _=_;rw [uB a λy d=>h y (.tail _ d),a8,c];rfl
include I in
set_option tactic.hygienic true in
def nO:F2 (zu 19) [.obj 0] (AT D dn r u)=.ok (dc (aD D)) (AT D dn r u):=by
 refine aX 0 rfl (fh (kb ?_)) ∅;show bF F1 (b8 F1 O8) (.dict (.n5 1 [0] (.one 0) (.met (!0) "Atlas" "names" .nil) S1)) [.val (.obj 0)] _=_;have b:((cn (cu D)).map PV.str).length<cb:=by rw [zzl,Cr I.nd I.nm,zzl];exact c5 I.len ↑2
 have c:gW [.lst ((cn (cu D)).map λz=>.tup [.str z,fl ((gv z D).getD [])])]=.ok (dc (aD D)):=by
  have e:((cn (cu D)).map λz=>PV.tup [.str z,fl ((gv z D).getD [])])=(aD D).map λq=>.tup [.str q.1,fl q.2]:=by unfold aD;rw [List.map_map];rfl
  rw [e];show(Res.of (vy _)).bind (λa=>Res.ok (PV.cy (cC a [] []).1 (cC a [] []).2))=_;rw [Fc];show Res.ok (PV.cy (cC _ [] []).1 (cC _ [] []).2)=_;rw [sx _ _ _ (λZ Z h=>by cases h) (by rw [P2];exact J8 _)];rfl
 rw [bF,bF,cm (m:="names") (Eu I) ∅ ∅];show((if((cn (cu D)).map PV.str).length<cb then _ else Rs.bad).bind _)=_;rw [if_pos b];rw [uB I _ λz d=>wI d];show Rs.of (gW [.lst _]) _=_;rw [c];rfl
end
theorem DI{K:DD}:∀A:DD,(∀q∈A,gv q.1 K=eW q.2)->pU (cu K) (kl K) (cu A) (kl A)=e6
 |[],_=>by unfold pU;rfl|q::A,h=>by show pU (cu K) (kl K) (q.1::cu A) (fl q.2::kl A)=e6;rw [pU,ox,h q (.head _)];show(eqv (fl q.2) (fl q.2)&&pU (cu K) (kl K) (cu A) (kl A))=e6;rw [CM,DI A λp a=>h p (.tail _ a)];rfl
def E9(D:DD):(kl D).all m6=e6:=by unfold kl;rw [List.all_map];exact cZ.2 λq Z=>E6 q.2
def Ng{K:DD}(T:KZ D K):qU (dc (aD D)) (dc K)=.ok (.bl fx):=by
 show(if((kl (aD D)).all m6&&(kl K).all m6)=e6 then Res.ok (PV.bl (!((cu (aD D)).length==(cu K).length&&pU (cu K) (kl K) (cu (aD D)) (kl (aD D))))) else .bad)=_;have hl:(cu (aD D)).length=(cu K).length:=by rw [P2,Qs T,Cr T.b.nd T.b.nm]
 rw [E9,E9,if_pos (show(e6&&e6)=e6 from rfl),hl,beq_self_eq_true,DI (aD D) λq a=>by have:=Uk a;have e:=congrFun T.e q.1;dsimp only [Lk] at e;rw [<-e];exact this];rfl
section
variable{dn un:List (Str×PV)}{r:Sg}{u:Nat}{F:aN}{e:Ci.E}
theorem xh:az (F1 (AT D dn r u)) (.blt .len #v[.con (.fld 0 "done")]) (.val (.obj 0)::env)=.ok (.int dn.length):=
 Eq.trans (b:=.ok (.int (dn.map (·.2)).length)) ∅ (by rw [zzl])
def xj(a:r[u]?=eW {"#l",un}):az (F1 (AT D dn r u)) (.blt .len #v[.con (.fld 0 "undone")]) (.val (.obj 0)::env)=.ok (.int un.length):=by
 have e:aG (aU (AT D dn r u)) qj dJ=aG (aU (AT D dn r u)) (qj.drop 22) dJ:=n6 22 ↑1;have c:F1 (AT D dn r u) dJ [.obj (u+3)]=.ok (.lst (un.map (·.2))):=by refine(congrFun e _).trans ?_;show aU (AT D dn r u) dJ [.obj (u+3)]=_;unfold aU;dsimp only;rw [show(AT D dn r u)[u+3]?=_ from a];kernel_rfl
 rw [az,bJ,az,show az (F1 (AT D dn r u)) (.fld 0 "undone") (.val (.obj 0)::env)=.ok (.obj (u+3)) by kernel_rfl];show(((F1 (AT D dn r u) dJ [.obj (u+3)]).bind _).bind _)=_;rw [c,bJ,<-zzl (·.2)];rfl
def SH{a:Es}(h:bJ F a env=.ok ps):az F (.tup a) env=.ok (.tup ps):=by rw [az,h];rfl
def Em(a:r[u]?=eW {"#l",un}):F2 "Atlas.marks" [.obj 0] (AT D dn r u)=.ok (.tup [.int dn.length,.int un.length]) (AT D dn r u):=
 aX 5 rfl (fh (vq (SH (f9 xh (f9 (xj a) Bb))))) ∅
def Ta{a:Type}{l:List a}(h:az F e env=.ok (.int l.length)):az F (.cmp .eq e (¬0)) env=.ok (.bl l.isEmpty):=by rw [az,h,az];cases l<;>exact eI
def Yk{a:Type}{l:List a}{x:a}:(l++[x]).isEmpty=fx:=by cases l<;>rfl
variable(I:Inv D){w:Str}{h c:Option (List Str)}
include I
theorem GU(a:r[u]?=eW {"#l",un})(hn:un.length<cb)(b:h=eX->(gv z D).isSome=e6):F2 (zu 45) [.obj 0] (AT D (dn++[zM w z h c]) r u)=.ok (.str w) (AT (O0 z D (eW h)) dn (r.set u {"#l",un++[zM w z h c]}) u):=
 aX 4 rfl (cT (sJ (ite_ff ((Ta xh).trans (by rw [Yk]))) rfl) (cT (s1:=AT D dn r u) (dW (zw (n:=2) (fs:=dn) (x:=zM w z h c) ∅ rfl)) (cT (s1:=AT D dn (r.set u {"#l",un++[zM w z h c]}) u) (gX (rA (n:=u+3) (p:=(zM w z h c).2) ∅ a ∅ hn)) (cT (gX (cm (rW I b) ∅ ∅)) (fh ∅))))) ∅
theorem De(a:r[u]?=eW {"#l",un++[zM w z h c]})(hn:dn.length<cb)(b:c=eX->(gv z D).isSome=e6):F2 (zu 39) [.obj 0] (AT D dn r u)=.ok (.str w) (AT (O0 z D (eW c)) (dn++[zM w z h c]) (r.set u {"#l",un}) u):=
 aX 3 rfl (cT (sJ (ite_ff ((Ta (xj a)).trans (by rw [Yk]))) rfl) (cT (s1:=AT D dn (r.set u {"#l",un}) u) (dW (zw (n:=u+3) (x:=zM w z h c) ∅ a)) (cT (s1:=AT D (dn++[zM w z h c]) (r.set u {"#l",un}) u) (gX (rA (n:=2) (fs:=dn) (p:=(zM w z h c).2) ∅ rfl ∅ hn)) (cT (gX (cm (rW I b) ∅ ∅)) (fh ∅))))) ∅
omit I
theorem GR:F2 (zu 45) [.obj 0] (AT D [] r u)=.exc "NoBack" (AT D [] r u):=aX 4 rfl (mR (sL (Ta (l:=([]:List (Str×PV))) xh))) ∅
theorem C9(a:r[u]?=eW {"#l",[]}):F2 (zu 39) [.obj 0] (AT D dn r u)=.exc "NoBack" (AT D dn r u):=aX 3 rfl (mR (sL (Ta (l:=([]:List (Str×PV))) (xj a)))) ∅
end
structure O6 where
 w:Str
 z:Str
 h:Option (List Str)
 c:Option (List Str)
noncomputable abbrev Pt:=List (O6×DD)
structure WV(A B:DD)(x:O6):Prop where
 z:x.z∈mE
 h:x.h=gv x.z A
 c:∀y,gv y B=if y=x.z then x.c else gv y A
 ne:x.h=eX->x.c=eX->False
def PU(K:DD):Pt->Prop
 |[]=>True|q::P=>WV q.2 K q.1/\Inv q.2/\PU q.2 P
def PK(K:DD):Pt->Prop
 |[]=>True|q::P=>WV K q.2 q.1/\Inv q.2/\PK q.2 P
abbrev rv{a b:Type}(f:a->b):List a->List b
 |[]=>[]|q::P=>rv f P++[f q]
theorem fQ{a b:Type}{f:a->b}:∀{P:List a},(rv f P).length=P.length
 |[]=>rfl|q::P=>by show(rv f P++[f q]).length=_;rw [bW,fQ];rfl
noncomputable abbrev eP(q:O6×DD):Str×PV:=zM q.1.w q.1.z q.1.h q.1.c
def FY{A B:DD}(T:KZ D A)(I:Inv B)(hz:z∈mE){c:Option (List Str)}(b:∀y,gv y B=if y=z then c else gv y A):KZ (O0 z D (eW c)) B:=by
 have e:∀y,gv y D=gv y A:=congrFun T.e;have d:=b z
 rw [if_pos rfl] at d;cases c with
 |none=>refine{kU T.a _,I,funext λy=>?_};show gv y (rest z D)=gv y B;rw [iS,b,e]|some R=>refine{yN T.a hz (I.g.at d),I,funext λy=>?_};show gv y (gY z R D)=gv y B;rw [Dw,b,e]
set_option backward.match.sparseCases false
structure Hs(D K:DD)(P Q:Pt)(r:Sg)(u:Nat):Prop where
 t:KZ D K
 p:PU K P
 q:PK K Q
 u:r[u]?=eW {"#l",rv eP Q}
set_option backward.match.sparseCases true
section
variable{K A:DD}{P Q:Pt}{r:Sg}{u:Nat}{x:O6}
def Ia(S:Hs D K P Q r u){d:Dd}(hd:d.Ok){c:Option (List Str)}(a:(act (Lk K) d).2=eW c):Hs (O0 d.nm D (eW c)) (vU d.nm K (eW c)) (({d.wd,d.nm,gv d.nm D,c},K)::P) [] (r++[{"#l",[]}]) r.length:=by
 have T:=FW S.t d hd;have e:∀y,gv y D=gv y K:=congrFun S.t.e;rw [S.t.e,a] at T;refine{T,{{Kr hd,e _,λy=>?_,λf g=>?_},S.t.b,S.p},trivial,List.getElem?_concat_length}
 .cases c with
  |none=>exact iS _ _ _|some R=>
   show gv y (rest d.nm K++[(d.nm,R)])=_;rw [rX,iS];by_cases h:y=d.nm
   .rw [if_pos h,if_pos h];exact if_pos h.symm
   .rw [if_neg h,if_neg h];cases gv y K with
    |some _=>rfl|none=>exact if_neg (Ne.symm h)
 .have k:=wo (L:=Lk K) (P:=λZ c=>c=eW eX->Lk K d.nm≠eX) d (λZ=>nofun) (λZ Z=>nofun) (λR h Z k=>by rw [h] at k;cases k) λZ Z=>nofun;exact k (a.trans (congrArg eW g)) ((e _).symm.trans f)
def H9(S:Hs D K ((x,A)::P) Q r u)(hl:Q.length<cb):∃d f,Hs d A P ((x,K)::Q) f u/\F2 (zu 45) [.obj 0] (AT D (rv eP ((x,A)::P)) r u)=.ok (.str x.w) (AT d (rv eP P) f u):=by
 let(L,I,p):=S.p;refine{_,_,{FY S.t I L.z (c:=x.h) λy=>?_,p,⟨L,S.t.b,S.q⟩,?_},GU S.t.a S.u (by rw [fQ];exact hl) λh=>?_}
 .by_cases q:y=x.z
  .rw [if_pos q,L.h,q]
  .rw [if_neg q,L.c,if_neg q]
 .rw [List.getElem?_set_self',S.u];rfl
 .rw [show gv x.z D=x.c from(congrFun S.t.e _).trans ((L.c _).trans (if_pos rfl))];cases q:x.c with
  |none=>exact(L.ne h q).elim|some _=>rfl
def DM(S:Hs D K P ((x,A)::Q) r u)(hl:P.length<cb):∃d f,Hs d A ((x,K)::P) Q f u/\F2 (zu 39) [.obj 0] (AT D (rv eP P) r u)=.ok (.str x.w) (AT d (rv eP ((x,K)::P)) f u):=by
 let(L,I,p):=S.q;refine{_,_,{FY S.t I L.z L.c,⟨L,S.t.b,S.p⟩,p,?_},De S.t.a S.u (by rw [fQ];exact hl) λh=>?_}
 .rw [List.getElem?_set_self',S.u];rfl
 .rw [show gv x.z D=x.h from(congrFun S.t.e _).trans L.h.symm];cases q:x.h with
  |none=>exact(L.ne q h).elim|some _=>rfl
end
abbrev k9:Nat->nM->S2
 |0,.cons s _=>s|n+1,.cons _ ss=>k9 n ss|_,.nil=>.p (.expr (.cst .aP))
abbrev LR:S2->nM
 |.g9 _ _ b=>b|.ite _ a _=>a|_=>.nil
abbrev Lv:S2->nM
 |.ite _ _ b=>b|_=>.nil
abbrev Im:nM:=LR (k9 1 jh.body)
abbrev UB:nM:=LR (k9 1 Im)
abbrev Xv:nM:=LR (k9 0 (Lv (k9 1 Im)))
abbrev XR:nM:=Lv (k9 0 (Lv (k9 1 Im)))
def p0(d:Dd):ay d.P (.int 0)=.ok (.str d.wd):=by cases d<;>rfl
def RB(i j:Int):iF (.tup [.int i,.int j]) (.tup [.int i,.int j])=.ok (.bl fx):=by
 have h:eqv (.tup [.int i,.int j]) (.tup [.int i,.int j])=e6:=by show((i==i)&&((j==j)&&e6))=e6;rw [beq_self_eq_true,beq_self_eq_true];rfl
 show(if e6=e6 then Res.ok (PV.bl (!eqv (.tup [.int i,.int j]) (.tup [.int i,.int j]))) else .bad)=_;rw [h];rfl
section
variable{U:gB}{F:aN}{a b c:Ci.E}{s s1 s2:Sg}{p:PV}{x y:X2}{o:tV}
def D6{t:Ci.T2}{a:nM}(h:v7 F1 U t env s=.ok fx s1):eM F1 U (.ite t a .nil) env s=.ok (.nx env) s1:=by rw [eM,h];show cB F1 U .nil env s1=_;exact dH
def Ll(d:bF F1 U x env s=.ok p s1)(e:bF F1 U y env s1=.ok q s2)(f:cG o p q=.ok (.bl fx)):v7 F1 U (.cmp o x y) env s=.ok fx s2:=by rw [v7,bF,d];simp! [Rs.bind,e,f,Rs.of];rfl
def orF{t w:Ci.T2}(h:v7 F1 U t env s=.ok fx s1)(g:v7 F1 U w env s1=.ok fx s2):v7 F1 U (.or t w) env s=.ok fx s2:=by rw [v7,h];exact g
def same(h:bF F1 U x env s=.ok p s1)(g:az (F1 s1) a env=.ok p)(n:iF p p=.ok (.bl fx)){d:nM}:eM F1 U (.ite (.cmp .ne x (.pu a)) d .nil) env s=.ok (.nx env) s1:=D6 (Ll h (vA g) n)
def Ie{z:Res PV}(h:az F c env=.ok (.bl e6))(g:az F a env=z):az F (.ite c a b) env=z:=by rw [az,h];exact g
def MX{z:Res PV}(h:az F c env=.ok (.bl fx))(g:az F b env=z):az F (.ite c a b) env=z:=by rw [az,h];exact g
def Ut{o:B}(h:az F a env=.ok p){z:Res PV}(g:dv o [p]=z):az F (.blt o #v[a]) env=z:=by rw [az,f9 h Bb];exact g
def Qf{o:B}(h:az F a env=.ok p)(d:az F b env=.ok q){z:Res PV}(g:dv o [p,q]=z):az F (.blt o #v[a,b]) env=z:=by rw [az,f9 h (f9 d Bb)];exact g
end
noncomputable abbrev fR(q:O6×DD):PV:=dc q.2
noncomputable abbrev fW(q:O6×DD):PV:=.str q.1.w
noncomputable abbrev eL(ns:List Int)(K:DD)(P Q:Pt)(a b c d e:Slot):Sl:=[.val (m7 ns),.val (.obj 0),.val (.lst (rv fR P++dc K::Q.map fR)),.val (.lst (rv fW P++Q.map fW)),.val (.int P.length),a,b,c,d,e]
noncomputable abbrev oN(a:List Slot):Prop:=a.any Slot.cg=fx
def LI(ns:List Int)(n:Nat)(env:Sl)(s:Sg):Prop:=∃D K P Q r u d e a b c,Hs D K P Q r u/\env=eL ns K P Q d e a b c/\s=AT D (rv eP P) r u/\P.length+Q.length<=n/\oN [a,b,c]
noncomputable abbrev Go(ns:List Int)(n:Nat)(x:Rs Ci.Fl):Prop:=∃env s,x=.ok (.nx env) s/\LI ns n env s
def yo{a:Type}{f:a->PV}{P:List a}{y:PV}:ay (.lst (rv f P++y::ys)) (.int P.length)=.ok y:=by show Res.of (wy (rv f P++y::ys) (P.length:Int))=_;rw [<-fQ (f:=f),nS (by rw [bW,bV];lia),List.getElem_append_right (a7 _)];simp [Res.of]
def Ec{F:aN}{K:DD}{P Q:Pt}{a b c d e:Slot}:az F (.blt .len #v[!3]) (eL ns K P Q a b c d e)=.ok (.int ((P.length:Int)+(Q.length:Int))):=Ut rfl (by show Res.ok (PV.int ((rv fW P++Q.map fW).length:Int))=_;rw [bW,fQ,zzl,Int.natCast_add])
def Lw{n:Nat}{s:Sg}(h:LI ns n env s):eM F1 F2 (k9 2 Im) env s=.ok (.nx env) s:=by
 let(D,K,P,Q,r,u,b,c,d,e,g,S,rfl,rfl,_):=h;have hm:=Em (D:=D) (dn:=rv eP P) S.u;rw [fQ,fQ] at hm;have c1:bF F1 F2 (.vZ (zu 19) #v[!1]) (eL ns K P Q b c d e g) (AT D (rv eP P) r u)=.ok (dc (aD D)) (AT D (rv eP P) r u):=by rw [bF,f9 (p:=.obj 0) (ps:=[]) rfl Bb];exact nO S.t.a
 exact D6 (orF (Ll c1 (vA (BE (yo (f:=fR) (P:=P) (y:=dc K) (ys:=Q.map fR)) rfl rfl)) (Ng S.t)) (Ll (cm hm ∅ ∅) (vA (SH (f9 rfl (f9 (p:=.int Q.length) (by rw [az,Ec,az];show Res.ok (PV.int ((P.length:Int)+(Q.length:Int)-(P.length:Int)))=_;rw [show(P.length:Int)+(Q.length:Int)-(P.length:Int)=Q.length by lia]) Bb)))) (RB _ _)))
section
variable(s:Sg)
theorem wR(T:List (Str×Def))(h:aG (aU s) T (zu 7)=aV (aG (aU s) Ub) dh):lY (aG (aU s) T):=λns k q hk a=>by have e:aG (aU s) Ub (zu 48)=aV (aG (aU s) Xm) dg:=n8 0;rw [h];exact Jd _ (λns k hk=>by rw [e];exact G7 _ ns k hk) ns k q hk a
def Lz(ns:List Int)(k:Int)(hk:0<=k):∃d:Dd,d.Ok/\F1 s (zu 47) [m7 ns,.int k]=.ok d.P:=by have a:aG (aU s) qj (zu 47)=aV (aG (aU s) PZ) bh:=n8 2;have b:aG (aU s) PZ (zu 38)=aV (aG (aU s) SY) cj:=n8 0;have c:lY (aG (aU s) PZ):=wR s PZ (n8 1);have f:lY (aG (aU s) SY):=wR s SY (n8 0);let(d,g,h):=Hg _ c (λns k hk=>by let(R,w,L,e):=AK _ f ns k hk 3 ↑2 ↑2;exact{R,w,L,(congrFun b _).trans e}) ns k hk;exact{d,g,(congrFun a _).trans h}
def CP{K:DD}(I:Inv K)(d:Dd):F1 s (zu 24) [dc K,d.P]=.ok (.tup [dc (vU d.nm K (act (Lk K) d).2),(act (Lk K) d).1]):=by have a:aG (aU s) qj (zu 24)=aV (aG (aU s) Uc) ag:=n8 0;have b:aG (aU s) Uc (zu 22)=aV (aG (aU s) Xn) aR:=n8 0;exact(congrFun a _).trans (Aa _ _ (λas=>congrFun b as) I.nd I.len I.g d)
end
theorem VW(j:Int):dv .max2 [.int 0,.int j]=.ok (.int (if j>0 then j else 0)):=rfl
theorem VY(i j:Int):dv .min2 [.int i,.int j]=.ok (.int (if j<i then j else i)):=rfl
section
variable{α:Type}{f:α->PV}{F:aN}{e:Ci.E}{z:Res Ci.Fl}
def P4{P:List α}{y:PV}{a:List PV}{n:Int}(hn:n=P.length)(b:a=rv f P++ys)(hl:P.length<cb):((d5 (.lst a) eX (eW n)).bind λp=>binOp .add p (.lst [y]))=.ok (.lst (rv f P++[y])):=by
 rw [hn,b];have e:jV (rv f P++ys) eX (eW (P.length:Int))=rv f P:=by rw [<-fQ (f:=f),Cy _ (by rw [bW];lia)];exact List.take_left
 show binOp .add (.lst (jV (rv f P++ys) eX (eW (P.length:Int)))) (.lst [y])=_;rw [e];exact if_pos (by rw [fQ];exact hl)
def Ox{i:Nat}{a:Ss}(h:az F e env=.ok q)(g:bj F a (env.set i (.val q))=z):bj F (.cons (.set i e) a) env=z:=by rw [bj,du,h];exact g
def VM{a b:Ss}(h:az F e env=.ok (.bl e6))(g:bj F a env=z):du F (.ite e a b) env=z:=by rw [du,h];exact g
variable{K:DD}{P Q:Pt}{r:Sg}{u n:Nat}{k m:Int}{s7 s8 s9:Slot}
noncomputable abbrev e3(ns:List Int)(K:DD)(P Q:Pt)(k m:Int)(s7 s8 s9:Slot):Sl:=eL ns K P Q (.val (.int k)) (.val (.int m)) s7 s8 s9
def Ay(S:Hs D K P Q r u)(hl:P.length+Q.length<=n)(I:n<100)(hk:0<=k)(h:oN [s7,s8,s9]):Go ns (n+1) (cB F1 F2 UB (e3 ns K P Q k m s7 s8 s9) (AT D (rv eP P) r u)):=by
 let(d,hd,E):=Lz (AT D (rv eP P) r u) ns (1000+60*k) (by lia);have s:=CP (AT D (rv eP P) r u) S.t.b d;have g:=Ls S.t.a hd (dn:=rv eP P) (r:=r) (u:=u) (by rw [fQ];lia);have i:=K3 (Lk K) d;have w:=K1 (Lk K) d;rw [S.t.e] at g;generalize G:(act (Lk K) d).1=p at s i w;have g:_=Rs.ok (act (Lk K) d).1 _:=g;rw [G] at g;have A:eM F1 F2 (k9 0 UB) (e3 ns K P Q k m s7 s8 s9) (AT D (rv eP P) r u)=.ok (.nx (e3 ns K P Q k m (.val d.P) s8 s9)) (AT D (rv eP P) r u):=iG (ic (ps:=[m7 ns,.int (1000+60*k)]) rfl E) (Bool.or_eq_false_iff.1 h).2;have B:∀j,(act (Lk K) d).2=j->eM F1 F2 (k9 1 UB) (e3 ns K P Q k m (.val d.P) s8 s9) (AT D (rv eP P) r u)=.ok (.nx (e3 ns K P Q k m (.val d.P) (.val (dc (vU d.nm K j))) (.val p))) (AT D (rv eP P) r u):=λj h=>by rw [h] at s;refine sJ (t:=.vT (.two 8 9) (.call (zu 24) #v[.sub (!2) (!4),!7])) ?_ rfl;rw [du,ic (f9 (BE (yo (f:=fR) (P:=P) (y:=dc K) (ys:=Q.map fR)) rfl rfl) (f9 (p:=d.P) rfl Bb)) s];rfl
 have C:∀j,bF F1 F2 (.vZ (zu 26) #v[!1,!7]) (e3 ns K P Q k m (.val d.P) (.val (dc (vU d.nm K j))) (.val p)) (AT D (rv eP P) r u)=F2 (zu 26) [.obj 0,d.P] (AT D (rv eP P) r u):=λZ=>by rw [bF];rfl
 cases o:(act (Lk K) d).2 with
 |none=>rw [o] at g i;exact{_,_,cT A (cT (B _ o) (cT (same ((C _).trans g) rfl w) (cT (sJ (ite_ff (RF (Eq.trans (b:=nc .str p) rfl i))) rfl) dH))),_,_,_,_,_,_,_,_,_,_,_,S,rfl,rfl,Nat.le_succ_of_le hl,rfl}|some c=>
  rw [o] at g i;have H:=Ia S hd o;refine{_,_,cT A (cT (B _ o) (cT (same ((C _).trans g) rfl w) (cT (sJ (e1:=e3 ns (vU d.nm K (eW c)) (({d.wd,d.nm,gv d.nm D,c},K)::P) [] k m (.val d.P) (.val (dc (vU d.nm K (eW c)))) (.val p)) (VM (V9 (Eq.trans (b:=nc .str p) rfl i)) (Ox (q:=.lst (rv fR (({d.wd,d.nm,gv d.nm D,c},K)::P)++[dc (vU d.nm K (eW c))])) ?_ (Ox (q:=.lst (rv fW (({d.wd,d.nm,gv d.nm D,c},K)::P)++[])) ?_ (Ox (q:=.int (P.length+1:Nat)) rfl (by rw [bj];rfl))))) rfl) dH))),_,_,_,_,_,_,_,_,_,_,_,H,rfl,rfl,by show _+1+0<=_;lia,rfl}
  .exact Eq.trans (b:=(d5 (.lst (rv fR P++dc K::Q.map fR)) eX (eW ((P.length:Int)+1))).bind λp=>binOp .add p (.lst [dc (vU d.nm K (eW c))])) rfl (P4 (P:=({d.wd,d.nm,gv d.nm D,c},K)::P) (Int.natCast_succ _).symm (List.append_assoc (rv fR P) [dc K] _).symm (by show _+1<_;lia))
  .refine Eq.trans (b:=(d5 (.lst (rv fW P++Q.map fW)) eX (eW (P.length:Int))).bind λp=>(((ay d.P (.int 0)).bind λq=>.ok [q]).bind λq=>.ok (.lst q)).bind λq=>binOp .add p q) rfl ?_;rw [p0 d,eA];exact P4 rfl rfl (by lia)
def z9(S:Hs D K P Q r u)(hl:P.length+Q.length<=n)(c:n<100)(h:oN [s7,s8,s9]):Go ns (n+1) (cB F1 F2 Xv (e3 ns K P Q k m s7 s8 s9) (AT D (rv eP P) r u)):=by
 cases P with
 |nil=>refine{_,_,?_,_,_,_,_,_,_,.val (.int k),.val (.int m),_,_,_,S,rfl,rfl,Nat.le_succ_of_le hl,h};exact cT (same (p:=.str "no back") (fU rfl (iN rfl ∅) (cm (m:="back") GR ∅ ∅)) rfl (vf _)) (cT (iG (q:=.int 0) rfl h) dH)|cons q P=>
  have hl:P.length+1+Q.length<=n:=hl;let(d,g,a,e):=H9 S (by lia);have j:((P.length+1:Nat):Int)-1=(P.length:Int):=by lia
  refine{_,_,?_,_,_,_,_,_,_,.val (.int k),.val (.int m),_,_,_,a,rfl,rfl,by show P.length+(Q.length+1)<=_;lia,h};refine cT (same (p:=fW q) (fU rfl (FR rfl) (cm (m:="back") e ∅ ∅)) (Ie (Eq.trans (b:=.ok (.bl (decide ((0:Int)<((P.length+1:Nat):Int))))) rfl (by rw [zzh];lia)) (BE (p:=.lst (rv fW P++fW q::Q.map fW)) yo ?_ (Eq.trans (b:=.ok (.int (((P.length+1:Nat):Int)-1))) rfl (by rw [j])))) (vf _)) (cT (iG (q:=.int P.length) (Qf (p:=.int 0) rfl (Eq.trans (b:=.ok (.int (((P.length+1:Nat):Int)-1))) rfl (by rw [j])) ?_) h) (dH.trans ?_))
  .refine Eq.trans (b:=.ok (.lst (rv fW P++[fW q]++Q.map fW))) rfl ?_;rw [List.append_assoc];rfl
  .rw [VW]
   congr 2
   split<;>lia
  .show Rs.ok (Fl.nx (_::_::.val (.lst (rv fR P++[fR q]++dc K::Q.map fR))::.val (.lst (rv fW P++[fW q]++Q.map fW))::_)) _=_;rw [List.append_assoc,List.append_assoc];rfl
def wV(S:Hs D K P Q r u)(hl:P.length+Q.length<=n)(d:n<100)(h:oN [s7,s8,s9]):Go ns (n+1) (cB F1 F2 XR (e3 ns K P Q k m s7 s8 s9) (AT D (rv eP P) r u)):=by
 have c:∀F,az F (.cmp .lt (!4) (.blt .len #v[!3])) (e3 ns K P Q k m s7 s8 s9)=.ok (.bl (decide ((P.length:Int)<(P.length:Int)+(Q.length:Int)))):=λF=>by rw [az,Ec,az];rfl
 have b:∀F z,(if(P.length:Int)+1<(P.length:Int)+(Q.length:Int) then(P.length:Int)+1 else(P.length:Int)+(Q.length:Int))=z->az F (.blt .min2 #v[.blt .len #v[!3],.bin .add (!4) (¬1)]) (e3 ns K P Q k m s7 s8 s9)=.ok (.int z):=λF z e=>Qf Ec (q:=.int ((P.length:Int)+1)) rfl (by rw [VY,e])
 cases Q with
 |nil=>refine{_,_,?_,_,_,_,_,_,_,.val (.int k),.val (.int m),_,_,_,S,rfl,rfl,Nat.le_succ_of_le hl,h};exact cT (same (p:=.str "no back") (fU rfl (iN rfl ∅) (cm (m:="forth") (C9 S.u) ∅ ∅)) (MX ((c _).trans (by rw [zz0];exact Int.lt_irrefl _)) rfl) (vf _)) (cT (iG (b _ P.length (if_neg (by show¬_<(P.length:Int)+0;lia))) h) dH)|cons q Q=>have hl:P.length+(Q.length+1)<=n:=hl;let(g,i,a,e):=DM S (by lia);refine{_,_,?_,_,_,_,_,_,_,.val (.int k),.val (.int m),_,_,_,a,rfl,rfl,by show P.length+1+Q.length<=_;lia,h};refine cT (same (p:=fW q) (fU rfl (FR rfl) (cm (m:="forth") e ∅ ∅)) (Ie ((c _).trans (by rw [zzh];show _<_+((Q.length+1:Nat):Int);lia)) (BE (yo (f:=fW) (P:=P) (y:=fW q) (ys:=Q.map fW)) rfl rfl)) (vf _)) (cT (iG (b _ (P.length+1:Nat) (by show(if _<_+((Q.length+1:Nat):Int) then _ else _+((Q.length+1:Nat):Int))=_;split<;>lia)) h) (dH.trans ?_));show _=Rs.ok (Fl.nx (_::_::.val (.lst (rv fR P++[fR (q.1,K)]++dc q.2::Q.map fR))::.val (.lst (rv fW P++[fW q]++Q.map fW))::_)) _;rw [List.append_assoc,List.append_assoc];rfl
def FU{s:Sg}(h:LI ns n env s)(c:n<100)(i:Nat):Go ns (n+1) (cB F1 F2 Im (env.set 5 (.val (.int i))) s):=by
 let(D,K,P,Q,r,u,w,o,s7,s8,s9,S,rfl,rfl,hl,h):=h;let(m,p,y,m1):=wR (AT D (rv eP P) r u) qj (n8 4) ns (900+(i:Int)) 7 (by lia) ↑2;have t:eM F1 F2 (k9 0 Im) (eL ns K P Q (.val (.int i)) o s7 s8 s9) (AT D (rv eP P) r u)=.ok (.nx (e3 ns K P Q i m s7 s8 s9)) (AT D (rv eP P) r u):=iG (ic (ps:=[m7 ns,.int (900+(i:Int)),.int 7]) rfl p) h
 have d:Go ns (n+1) (eM F1 F2 (k9 1 Im) (e3 ns K P Q i m s7 s8 s9) (AT D (rv eP P) r u)):=by
  by_cases j:m<4
  .let(e,s,b,L):=Ay (ns:=ns) (k:=i) (m:=m) S hl c (by lia) h;exact{e,s,DZ (Eq.trans (b:=.ok (.bl (decide (m<4)))) rfl (by rw [zzh j])) b,L}
  .have g:Go ns (n+1) (cB F1 F2 (if m<6 then Xv else XR) (e3 ns K P Q i m s7 s8 s9) (AT D (rv eP P) r u)):=by
    split
    .exact z9 S hl c h
    .exact wV S hl c h
   let(e,s,b,L):=g;refine{e,s,Tp (Eq.trans (b:=.ok (.bl (decide (m<4)))) rfl (by rw [zz0 j])) ?_,L};by_cases a:m<6
   .rw [if_pos a] at b;exact cT (DZ (Eq.trans (b:=.ok (.bl (decide (m<6)))) rfl (by rw [zzh a])) b) dH
   .rw [if_neg a] at b;exact cT (Tp (Eq.trans (b:=.ok (.bl (decide (m<6)))) rfl (by rw [zz0 a])) b) dH
 let(e,s,b,L):=d;exact{e,s,cT t (cT b (cT (Lw L) dH)),L}
end
theorem oq{body:PV->Sl->Sg->Rs Ci.Fl}{P:Nat->Sl->Sg->Prop}:∀(xs:List PV) (k:Nat) (env:Sl) (s:Sg),P k env s->(∀i x env s,xs[i]?=eW x->P (k+i) env s->∃a s',body x env s=.ok (.nx a) s'/\P (k+i+1) a s')->∃a s',ji body xs env s=.ok (.nx a) s'/\P (k+xs.length) a s'
 |[],k,env,s,h,_=>⟨env,s,rfl,h⟩|x::xs,k,env,s,h,g=>by
  let(e1,s1,b,c):=g 0 x env s rfl h;let(d,e,f,j):=oq xs (k+1) e1 s1 c λi y env s m o=>by let(e3,p,q,r):=g (i+1) y env s m (by rw [show k+(i+1)=k+1+i by lia];exact o);exact{e3,p,q,by rw [show k+1+i+1=k+(i+1)+1 by lia];exact r}
  refine{d,e,?_,by rw [bV,show k+(xs.length+1)=k+1+xs.length by lia];exact j};rw [ji,b];exact f
def Rb(ns:List Int)(hl:ns.length<=63):∃s,mf F1 F2 jh [.lst (ns.map .int)] []=.ok (.bl e6) s:=by
 have a:Inv []:={.nil,(λZ h=>by cases h),λZ h=>by cases h}
 let(env,s,e,_):=oq (body:=λx env s=>(Rs.of ((Tg.one 5).put x env) s).bind λc s=>cB F1 F2 Im c s) (P:=LI ns) (fO 0 18) 0 (eL ns [] [] [] .no .no .no .no .no) (AT [] [] [{"#l",[]}] 0)
  {[],[],[],[],_,0,_,_,_,_,_,{⟨a,a,rfl⟩,trivial,trivial,rfl},rfl,rfl,a7 _,rfl} (by
  intro i x env s d b;let(k,rfl):=sY d;have g:=FU b (by lia) i;let(D,K,P,Q,r,u,m,o,p,q,t,S,rfl,_):=b;exact g)
 have f:wN (F1 (AT [] [] [{"#l",[]}] 0)) (.sX (¬18)) (eL ns [] [] [] .no .no .no .no .no)=.ok (fO 0 18):=by rw [wN,az];rfl
 have j:eM F1 F2 (k9 0 jh.body) [.val (m7 ns),.no,.no,.no,.no,.no,.no,.no,.no,.no] []=.ok (.nx (eL ns [] [] [] .no .no .no .no .no)) (AT [] [] [{"#l",[]}] 0):=by show eM F1 F2 (k9 0 jh.body) [.val (.lst (ns.map .int)),.no,.no,.no,.no,.no,.no,.no,.no,.no] []=.ok (.nx [.val (.lst (ns.map .int)),.val (.obj 0),.val (.lst [.cy [] []]),.val (.lst []),.val (.int 0),.no,.no,.no,.no,.no]) _;generalize PV.lst (ns.map .int)=x;kernel_rfl
 refine{s,?_};have h:cB F1 F2 jh.body (gR jh [.lst (ns.map .int)]) []=.ok (.rt (.bl e6)) s:=cT j (cT (e1:=env) (s1:=s) (by show eM F1 F2 (.g9 (.one 5) (.sX (¬18)) Im) _ _=_;rw [eM,f];exact e) (fh (vq (by rw [az]))));unfold mf;rw [if_pos (show([PV.lst (ns.map .int)].length==jh.np)=e6 from rfl),h];rfl
end K73
variable{D:K73.DD}
namespace Hd
open PySem.W L2
noncomputable abbrev fo(n:Str)(st:ig)(a:fP)(c:g5):Obj:={.type "function",eX,.func (fnOf n n (bP st) (bb st) (aw st) .none .none .none a eX (.ref c) .none),#[]}
noncomputable abbrev fm(n q:Str)(st:ig)(a:fP)(c:g5):Obj:={.type "function",eX,.func (fnOf n q (bP st) (bb st) (aw st) .none .none .none a eX (.ref c) .none),#[]}
noncomputable abbrev co(n:Str)(a:Nat)(L A:Int)(r:Nat)(x y:fP)(q z:Nat):Obj:={cls:=.type "code",data:=.fields #[.str n a,.str n (a+1),.str (zu 0) (a+2),.int L 0,.int A 0,.int 0 0,.int 0 0,.int 3 0,.ref r,.bool Bool.true,.int 181 0,.ref (r+1),.none,x,y,.ref q,.int z 0,.int L 0,.str (zu 0) (z+1)]}
abbrev UC(s:ig):Pos:=match s with
 |.FunctionDef _ _ _ _ _ _ _ _ _ p=>p|_=>{0,0,0,0}
def ent{K:Frag}{ts:List (g5×Str)}{n:Str}(f c:g5)(b:fP)(a:nsIn K iv n=eW (eW (.ref f)):=by kernel_rfl)(l:K.lookup f=eW (fo n st b c):=by kernel_rfl)(d:codeIn K (.ref c) n=e6:=by kernel_rfl)(k:keepIn K (.ref f)=e6:=by kernel_rfl):Ci.B3 K ts fx n st:=Ci.UD a l d k
def XM{K:Frag}{ts:List (g5×Str)}{n:Str}(f c:g5)(b:fP)(a:nsIn K iv n=eW (eW (.ref f)):=by kernel_rfl)(l:K.lookup f=eW (fo n st b c):=by kernel_rfl)(d:codeIn K (.ref c) n=e6:=by kernel_rfl)(k:keepIn K (.ref f)=e6:=by kernel_rfl):Ci.zY K ts fx n n eX st:={f,_,_,_,_,_,_,_,_,_,⟨a,rfl⟩,l,d,k,nofun}
def XN{K:Frag}{ts:List (g5×Str)}{n:Str}(f c p:g5)(b:fP)(e:Ci.eV K c p)(m:(p,Ci.jd n)∈ts)(u:∀q∈ts,q.1=p->q.2=Ci.jd n)(a:nsIn K iv n=eW (eW (.ref f)):=by kernel_rfl)(l:K.lookup f=eW (fo n st b c):=by kernel_rfl)(d:codeIn K (.ref c) n=e6:=by kernel_rfl)(k:keepIn K (.ref f)=e6:=by kernel_rfl):Ci.zY K ts e6 n n eX st:={f,_,_,_,_,_,_,_,_,_,⟨a,rfl⟩,l,d,k,λZ=>{c,p,rfl,e,m,λg h=>u _ h rfl}}
def yB{K:Frag}{ts:List (g5×Str)}{n q cl:Str}(C f c:g5)(b:fP)(g:nsIn K iv cl=eW (eW (.ref C)))(e:q=Ci.mD cl n:=by decide+kernel)(a:findIn K (.ref C) n=eW (eW (.ref f)):=by kernel_rfl)(i:isFn K (.ref f)=e6:=by kernel_rfl)(l:K.lookup f=eW (fm n q st b c):=by kernel_rfl)(d:codeIn K (.ref c) q=e6:=by kernel_rfl)(k:keepIn K (.ref f)=e6:=by kernel_rfl):Ci.zY K ts fx n q (eW cl) st:={f,_,_,_,_,_,_,_,_,_,⟨e,C,g,a,i⟩,l,d,k,nofun}
def a2{K:Frag}{ts:List (g5×Str)}{Γ:Ci.Pg}{fl:List (Str×Str)}{r:Ci.fG}{l:Ci.dF}(e:Ci.zY K ts r.hl r.m r.f r.c r.st)(s:Ci.yg Γ fl r l)(t:Ci.nJ K ts Γ fl l)(a:(l.map (·.f)).contains r.f=fx:=by decide+kernel)(b:r.c.isSome=e6->(Ci.bY fl l).td=[]:=by first|exact λZ=>rfl|exact λz=>absurd z ↑2):Ci.nJ K ts Γ fl (r::l):={e,s,⟨a,b⟩,t}
def ac{K:Frag}{ts:List (g5×Str)}{Γ:Ci.Pg}{r:Ci.Row}{l:Ci.fV}(e:Ci.B3 K ts r.hl r.h r.st)(s:Ci.dI (Γ.at l r.hl) r.h r.d r.st)(t:Ci.AllK K ts Γ l)(a:(l.map (·.f)).contains r.f=fx:=by decide+kernel)(b:(r.d.ux.isNone==!Ci.fi r.f)=e6:=by decide+kernel)(c:r.d.ux.isNone=e6->r.f=r.h:=by first|exact λZ=>rfl|exact λz=>absurd z ↑2)(d:Ci.P8 r.f=fx:=by decide+kernel):Ci.AllK K ts Γ (r::l):={e,s,⟨a,b,c,d⟩,t}
def Eg{K L:Frag}{b:g5}(e:K.lookup b=eW o):(K++L).lookup b=eW o:=by rw [List.lookup_append,e];rfl
end Hd
namespace K73
open L2 Ci
noncomputable abbrev lw:=PySem.Challenge.rw_cellways_k73_whole_atlases_back
abbrev top(i:Nat):Stmt:=PySem.Challenge.pw_cellways_k73_whole_atlases_back.main.body.getD i (.Pass {0,0,0,0})
abbrev Ql:ig->List ig
 |.ClassDef _ _ _ b _ _ _ _ _ _ _=>b|_=>[]
abbrev dY(i j:Nat):Stmt:=(Ql (top i)).getD j (.Pass {0,0,0,0})
noncomputable abbrev m1:Value:=.str "cellways.floors" 358
noncomputable abbrev m2:Value:=.str "cellways.grounds" 431
noncomputable abbrev m3:Value:=.str "cellways.atlases" 459
noncomputable abbrev m4:Value:=.str "law_cellways_k73_whole_atlases_back" 634
abbrev K(P:Params):zz8:=[(2,{cls:=.none,data:=.dict #[]}),
 (3,{cls:=.type "dict",data:=.dict #[Hd.de P (zu 40) 165 (.str "law_cellways_k73_whole_atlases_back" 634),Hd.de P (zu 55) 166 (.none),Hd.de P "__package__" 167 (.none),Hd.de P "__loader__" 168 (.builtin "__main__.__loader__#opaque"),Hd.de P "__spec__" 169 (.none),Hd.de P "__annotations__" 170 (.ref 6),Hd.de P "__builtins__" 171 (.ref 4),Hd.de P "__file__" 173 (.str (zu 0) 172),Hd.de P "__cached__" 174 (.none),Hd.de P "_wall" 193 (.ref 21),Hd.de P (zu 6) 213 (.ref 31),Hd.de P "NoSpot" 229 (.ref 44),Hd.de P "NoWay" 245 (.ref 56),Hd.de P "NoSign" 261 (.ref 68),Hd.de P "NoSize" 277 (.ref 80),Hd.de P "NoText" 293 (.ref 92),Hd.de P (zu 56) 309 (.ref 104),Hd.de P "NoName" 325 (.ref 116),Hd.de P "NoFit" 341 (.ref 128),Hd.de P "NoBack" 357 (.ref 140),Hd.de P "SIGNS" 361 (.str (zu 25) 360),Hd.de P "LONGEST" 363 (.int 12 362),Hd.de P (zu 50) 370 (.ref 149),Hd.de P (zu 37) 377 (.ref 156),Hd.de P "is_row" 383 (.ref 161),Hd.de P (zu 51) 389 (.ref 166),Hd.de P "is_spot" 396 (.ref 173),Hd.de P (zu 14) 404 (.ref 180),Hd.de P (zu 17) 412 (.ref 187),Hd.de P (zu 44) 419 (.ref 194),Hd.de P (zu 42) 430 (.ref 201),Hd.de P (zu 18) 438 (.ref 206),Hd.de P (zu 13) 444 (.ref 211),Hd.de P (zu 43) 452 (.ref 218),Hd.de P (zu 33) 458 (.ref 223),Hd.de P "LETTERS" 462 (.str (zu 15) 461),Hd.de P "LONGEST_NAME" 464 (.int 6 463),Hd.de P "is_name" 470 (.ref 228),Hd.de P (zu 35) 477 (.ref 235),Hd.de P "Atlas" 633 (.ref 350),Hd.de P (zu 48) 643 (.ref 361),Hd.de P (zu 7) 653 (.ref 368),Hd.de P (zu 38) 671 (.ref 375),Hd.de P (zu 9) 680 (.ref 382),Hd.de P (zu 29) 688 (.ref 389),Hd.de P (zu 47) 702 (.ref 396),Hd.de P (zu 22) 708 (.ref 401),Hd.de P (zu 24) 714 (.ref 406),Hd.de P (zu 26) 724 (.ref 413),Hd.de P (zu 19) 730 (.ref 418),Hd.de P "law" 746 (.ref 425)] 51}),
 (4,{cls:=.type "module",dict:=eW builtinsNs,data:=.plain}),
 (30,{cls:=.type "dict",data:=.dict #[Hd.de P (zu 27) 203 (.str (zu 12) 194),Hd.de P (zu 10) 207 (.int 5 206),Hd.de P (zu 3) 208 (.ref 29),Hd.de P "__weakref__" 210 (.ref 32),Hd.de P (zu 55) 211 (.none)] 3}),
 (31,{cls:=.type "type",data:=.cls {name:=(zu 6),bases:=[.type (zu 1)],mro:=[.ref 31,.type (zu 1),.type (zu 36),.type (zu 5),.type (zu 49)],ns:=30,qualname:=(zu 6),subclasses:=[.ref 44,.ref 56,.ref 68,.ref 80,.ref 92,.ref 104,.ref 116,.ref 128,.ref 140]},slots:=#[eW (.ref 22),eX,eW (.str (zu 6) 196),eW (.str (zu 6) 204),eW (.builtin (zu 2)),eW (.bool Bool.true)]}),
 (43,{cls:=.type "dict",data:=.dict #[Hd.de P (zu 27) 221 (.str (zu 12) 194),Hd.de P (zu 10) 225 (.int 7 224),Hd.de P (zu 3) 226 (.ref 42),Hd.de P (zu 55) 227 (.none)] 2}),
 (44,{cls:=.type "type",data:=.cls {name:="NoSpot",bases:=[.ref 31],mro:=[.ref 44,.ref 31,.type (zu 1),.type (zu 36),.type (zu 5),.type (zu 49)],ns:=43,qualname:="NoSpot"},slots:=#[eW (.ref 35),eX,eW (.str "NoSpot" 214),eW (.str "NoSpot" 222),eW (.builtin (zu 2)),eW (.bool Bool.true)]}),
 (55,{cls:=.type "dict",data:=.dict #[Hd.de P (zu 27) 237 (.str (zu 12) 194),Hd.de P (zu 10) 241 (.int 9 240),Hd.de P (zu 3) 242 (.ref 54),Hd.de P (zu 55) 243 (.none)] 2}),
 (56,{cls:=.type "type",data:=.cls {name:="NoWay",bases:=[.ref 31],mro:=[.ref 56,.ref 31,.type (zu 1),.type (zu 36),.type (zu 5),.type (zu 49)],ns:=55,qualname:="NoWay"},slots:=#[eW (.ref 47),eX,eW (.str "NoWay" 230),eW (.str "NoWay" 238),eW (.builtin (zu 2)),eW (.bool Bool.true)]}),
 (67,{cls:=.type "dict",data:=.dict #[Hd.de P (zu 27) 253 (.str (zu 12) 194),Hd.de P (zu 10) 257 (.int 11 256),Hd.de P (zu 3) 258 (.ref 66),Hd.de P (zu 55) 259 (.none)] 2}),
 (68,{cls:=.type "type",data:=.cls {name:="NoSign",bases:=[.ref 31],mro:=[.ref 68,.ref 31,.type (zu 1),.type (zu 36),.type (zu 5),.type (zu 49)],ns:=67,qualname:="NoSign"},slots:=#[eW (.ref 59),eX,eW (.str "NoSign" 246),eW (.str "NoSign" 254),eW (.builtin (zu 2)),eW (.bool Bool.true)]}),
 (79,{cls:=.type "dict",data:=.dict #[Hd.de P (zu 27) 269 (.str (zu 12) 194),Hd.de P (zu 10) 273 (.int 13 272),Hd.de P (zu 3) 274 (.ref 78),Hd.de P (zu 55) 275 (.none)] 2}),
 (80,{cls:=.type "type",data:=.cls {name:="NoSize",bases:=[.ref 31],mro:=[.ref 80,.ref 31,.type (zu 1),.type (zu 36),.type (zu 5),.type (zu 49)],ns:=79,qualname:="NoSize"},slots:=#[eW (.ref 71),eX,eW (.str "NoSize" 262),eW (.str "NoSize" 270),eW (.builtin (zu 2)),eW (.bool Bool.true)]}),
 (91,{cls:=.type "dict",data:=.dict #[Hd.de P (zu 27) 285 (.str (zu 12) 194),Hd.de P (zu 10) 289 (.int 15 288),Hd.de P (zu 3) 290 (.ref 90),Hd.de P (zu 55) 291 (.none)] 2}),
 (92,{cls:=.type "type",data:=.cls {name:="NoText",bases:=[.ref 31],mro:=[.ref 92,.ref 31,.type (zu 1),.type (zu 36),.type (zu 5),.type (zu 49)],ns:=91,qualname:="NoText"},slots:=#[eW (.ref 83),eX,eW (.str "NoText" 278),eW (.str "NoText" 286),eW (.builtin (zu 2)),eW (.bool Bool.true)]}),
 (103,{cls:=.type "dict",data:=.dict #[Hd.de P (zu 27) 301 (.str (zu 12) 194),Hd.de P (zu 10) 305 (.int 17 304),Hd.de P (zu 3) 306 (.ref 102),Hd.de P (zu 55) 307 (.none)] 2}),
 (104,{cls:=.type "type",data:=.cls {name:=(zu 56),bases:=[.ref 31],mro:=[.ref 104,.ref 31,.type (zu 1),.type (zu 36),.type (zu 5),.type (zu 49)],ns:=103,qualname:=(zu 56)},slots:=#[eW (.ref 95),eX,eW (.str (zu 56) 294),eW (.str (zu 56) 302),eW (.builtin (zu 2)),eW (.bool Bool.true)]}),
 (115,{cls:=.type "dict",data:=.dict #[Hd.de P (zu 27) 317 (.str (zu 12) 194),Hd.de P (zu 10) 321 (.int 19 320),Hd.de P (zu 3) 322 (.ref 114),Hd.de P (zu 55) 323 (.none)] 2}),
 (116,{cls:=.type "type",data:=.cls {name:="NoName",bases:=[.ref 31],mro:=[.ref 116,.ref 31,.type (zu 1),.type (zu 36),.type (zu 5),.type (zu 49)],ns:=115,qualname:="NoName"},slots:=#[eW (.ref 107),eX,eW (.str "NoName" 310),eW (.str "NoName" 318),eW (.builtin (zu 2)),eW (.bool Bool.true)]}),
 (127,{cls:=.type "dict",data:=.dict #[Hd.de P (zu 27) 333 (.str (zu 12) 194),Hd.de P (zu 10) 337 (.int 21 336),Hd.de P (zu 3) 338 (.ref 126),Hd.de P (zu 55) 339 (.none)] 2}),
 (128,{cls:=.type "type",data:=.cls {name:="NoFit",bases:=[.ref 31],mro:=[.ref 128,.ref 31,.type (zu 1),.type (zu 36),.type (zu 5),.type (zu 49)],ns:=127,qualname:="NoFit"},slots:=#[eW (.ref 119),eX,eW (.str "NoFit" 326),eW (.str "NoFit" 334),eW (.builtin (zu 2)),eW (.bool Bool.true)]}),
 (139,{cls:=.type "dict",data:=.dict #[Hd.de P (zu 27) 349 (.str (zu 12) 194),Hd.de P (zu 10) 353 (.int 23 352),Hd.de P (zu 3) 354 (.ref 138),Hd.de P (zu 55) 355 (.none)] 2}),
 (140,{cls:=.type "type",data:=.cls {name:="NoBack",bases:=[.ref 31],mro:=[.ref 140,.ref 31,.type (zu 1),.type (zu 36),.type (zu 5),.type (zu 49)],ns:=139,qualname:="NoBack"},slots:=#[eW (.ref 131),eX,eW (.str "NoBack" 342),eW (.str "NoBack" 350),eW (.builtin (zu 2)),eW (.bool Bool.true)]}),
 zx5 148 (zu 50) 364 28 1 143 368,
 zx3 149 (zu 50) 15 m1,
 zx5 155 (zu 37) 371 30 1 150 375,
 zx3 156 (zu 37) 16 m1,
 (160,Hd.co "is_row" 378 32 1 157 .none .none 159 381),
 zx3 161 "is_row" 17 m1,
 (165,Hd.co (zu 51) 384 36 1 162 .none .none 164 387),
 zx3 166 (zu 51) 18 m1,
 zx5 172 "is_spot" 390 42 1 167 394,
 zx3 173 "is_spot" 19 m1,
 zx5 179 (zu 14) 397 44 2 174 402,
 zx3 180 (zu 14) 20 m1,
 zx5 186 (zu 17) 405 46 2 181 410,
 zx3 187 (zu 17) 21 m1,
 zx5 193 (zu 44) 413 49 1 188 417,
 zx3 194 (zu 44) 22 m1,
 zx5 200 (zu 42) 420 52 3 195 428,
 zx3 201 (zu 42) 23 m1,
 (205,Hd.co (zu 18) 433 57 1 202 .none .none 204 436),
 zx3 206 (zu 18) 25 m2,
 (210,Hd.co (zu 13) 439 63 1 207 .none .none 209 442),
 zx3 211 (zu 13) 26 m2,
 zx5 217 (zu 43) 445 65 2 212 450,
 zx3 218 (zu 43) 27 m2,
 (222,Hd.co (zu 33) 453 71 2 219 .none .none 221 456),
 zx3 223 (zu 33) 28 m2,
 (227,Hd.co "is_name" 465 80 1 224 .none .none 226 468),
 zx3 228 "is_name" 32 m3,
 zx5 234 (zu 35) 471 84 1 229 475,
 zx3 235 (zu 35) 33 m3,
 (248,{cls:=.type "code",data:=.fields #[.str (zu 11) 490,.str (zu 57) 491,.str (zu 0) 492,.int 89 0,.int 1 0,.int 0 0,.int 0 0,.int 3 0,.ref 243,.bool Bool.true,.int 181 0,.ref 244,.none,.ref 245,.ref 246,.ref 247,.int 494 0,.int 89 0,.str (zu 0) 495]}),
 (249,Hd.fm (zu 11) (zu 57) (dY 34 0) m3 248),
 (255,{cls:=.type "code",data:=.fields #[.str "give" 497,.str "Atlas.give" 498,.str (zu 0) 499,.int 94 0,.int 3 0,.int 0 0,.int 0 0,.int 3 0,.ref 250,.bool Bool.true,.int 181 0,.ref 251,.none,.ref 252,.ref 253,.ref 254,.int 503 0,.int 94 0,.str (zu 0) 504]}),
 (256,Hd.fm "give" "Atlas.give" (dY 34 1) m3 255),
 (262,{cls:=.type "code",data:=.fields #[.str "step" 506,.str "Atlas.step" 507,.str (zu 0) 508,.int 100 0,.int 4 0,.int 0 0,.int 0 0,.int 3 0,.ref 257,.bool Bool.true,.int 181 0,.ref 258,.none,.ref 259,.ref 260,.ref 261,.int 513 0,.int 100 0,.str (zu 0) 514]}),
 (263,Hd.fm "step" "Atlas.step" (dY 34 2) m3 262),
 (269,{cls:=.type "code",data:=.fields #[.str "lay" 516,.str "Atlas.lay" 517,.str (zu 0) 518,.int 105 0,.int 3 0,.int 0 0,.int 0 0,.int 3 0,.ref 264,.bool Bool.true,.int 181 0,.ref 265,.none,.ref 266,.ref 267,.ref 268,.int 523 0,.int 105 0,.str (zu 0) 524]}),
 (270,Hd.fm "lay" "Atlas.lay" (dY 34 3) m3 269),
 (276,{cls:=.type "code",data:=.fields #[.str (zu 31) 526,.str (zu 30) 527,.str (zu 0) 528,.int 113 0,.int 2 0,.int 0 0,.int 0 0,.int 3 0,.ref 271,.bool Bool.true,.int 181 0,.ref 272,.none,.ref 273,.ref 274,.ref 275,.int 531 0,.int 113 0,.str (zu 0) 532]}),
 (277,Hd.fm (zu 31) (zu 30) (dY 34 4) m3 276),
 (283,{cls:=.type "code",data:=.fields #[.str "take" 534,.str "Atlas.take" 535,.str (zu 0) 536,.int 119 0,.int 2 0,.int 0 0,.int 0 0,.int 3 0,.ref 278,.bool Bool.true,.int 181 0,.ref 279,.none,.ref 280,.ref 281,.ref 282,.int 540 0,.int 119 0,.str (zu 0) 541]}),
 (284,Hd.fm "take" "Atlas.take" (dY 34 5) m3 283),
 (290,{cls:=.type "code",data:=.fields #[.str "join" 543,.str "Atlas.join" 544,.str (zu 0) 545,.int 124 0,.int 5 0,.int 0 0,.int 0 0,.int 3 0,.ref 285,.bool Bool.true,.int 181 0,.ref 286,.none,.ref 287,.ref 288,.ref 289,.int 554 0,.int 124 0,.str (zu 0) 555]}),
 (291,Hd.fm "join" "Atlas.join" (dY 34 6) m3 290),
 (297,{cls:=.type "code",data:=.fields #[.str "turn" 557,.str "Atlas.turn" 558,.str (zu 0) 559,.int 132 0,.int 2 0,.int 0 0,.int 0 0,.int 3 0,.ref 292,.bool Bool.true,.int 181 0,.ref 293,.none,.ref 294,.ref 295,.ref 296,.int 563 0,.int 132 0,.str (zu 0) 564]}),
 (298,Hd.fm "turn" "Atlas.turn" (dY 34 7) m3 297),
 (304,{cls:=.type "code",data:=.fields #[.str (zu 21) 566,.str (zu 53) 567,.str (zu 0) 568,.int 137 0,.int 2 0,.int 0 0,.int 0 0,.int 3 0,.ref 299,.bool Bool.true,.int 181 0,.ref 300,.none,.ref 301,.ref 302,.ref 303,.int 572 0,.int 137 0,.str (zu 0) 573]}),
 (305,Hd.fm (zu 21) (zu 53) (dY 34 8) m3 304),
 (311,{cls:=.type "code",data:=.fields #[.str "sign" 575,.str "Atlas.sign" 576,.str (zu 0) 577,.int 142 0,.int 4 0,.int 0 0,.int 0 0,.int 3 0,.ref 306,.bool Bool.true,.int 181 0,.ref 307,.none,.ref 308,.ref 309,.ref 310,.int 583 0,.int 142 0,.str (zu 0) 584]}),
 (312,Hd.fm "sign" "Atlas.sign" (dY 34 9) m3 311),
 (318,{cls:=.type "code",data:=.fields #[.str "names" 586,.str "Atlas.names" 587,.str (zu 0) 588,.int 149 0,.int 1 0,.int 0 0,.int 0 0,.int 3 0,.ref 313,.bool Bool.true,.int 181 0,.ref 314,.none,.ref 315,.ref 316,.ref 317,.int 590 0,.int 149 0,.str (zu 0) 591]}),
 (319,Hd.fm "names" "Atlas.names" (dY 34 10) m3 318),
 (325,{cls:=.type "code",data:=.fields #[.str "back" 593,.str (zu 45) 594,.str (zu 0) 595,.int 152 0,.int 1 0,.int 0 0,.int 0 0,.int 3 0,.ref 320,.bool Bool.true,.int 181 0,.ref 321,.none,.ref 322,.ref 323,.ref 324,.int 598 0,.int 152 0,.str (zu 0) 599]}),
 (326,Hd.fm "back" (zu 45) (dY 34 11) m3 325),
 (332,{cls:=.type "code",data:=.fields #[.str "forth" 601,.str (zu 39) 602,.str (zu 0) 603,.int 160 0,.int 1 0,.int 0 0,.int 0 0,.int 3 0,.ref 327,.bool Bool.true,.int 181 0,.ref 328,.none,.ref 329,.ref 330,.ref 331,.int 606 0,.int 160 0,.str (zu 0) 607]}),
 (333,Hd.fm "forth" (zu 39) (dY 34 12) m3 332),
 (339,{cls:=.type "code",data:=.fields #[.str "marks" 609,.str "Atlas.marks" 610,.str (zu 0) 611,.int 168 0,.int 1 0,.int 0 0,.int 0 0,.int 3 0,.ref 334,.bool Bool.true,.int 181 0,.ref 335,.none,.ref 336,.ref 337,.ref 338,.int 613 0,.int 168 0,.str (zu 0) 614]}),
 (340,Hd.fm "marks" "Atlas.marks" (dY 34 13) m3 339),
 (349,{cls:=.type "dict",data:=.dict #[Hd.de P (zu 27) 485 (.str "cellways.atlases" 459),Hd.de P (zu 10) 489 (.int 87 488),Hd.de P (zu 11) 496 (.ref 249),Hd.de P "give" 505 (.ref 256),Hd.de P "step" 515 (.ref 263),Hd.de P "lay" 525 (.ref 270),Hd.de P (zu 31) 533 (.ref 277),Hd.de P "take" 542 (.ref 284),Hd.de P "join" 556 (.ref 291),Hd.de P "turn" 565 (.ref 298),Hd.de P (zu 21) 574 (.ref 305),Hd.de P "sign" 585 (.ref 312),Hd.de P "names" 592 (.ref 319),Hd.de P "back" 600 (.ref 326),Hd.de P "forth" 608 (.ref 333),Hd.de P "marks" 615 (.ref 340),Hd.de P "twin" 622 (.ref 347),Hd.de P (zu 3) 626 (.ref 348),Hd.de P "__dict__" 628 (.ref 351),Hd.de P "__weakref__" 630 (.ref 352),Hd.de P (zu 55) 631 (.none)] 4}),
 (350,{cls:=.type "type",data:=.cls {name:="Atlas",bases:=[.type (zu 49)],mro:=[.ref 350,.type (zu 49)],ns:=349,qualname:="Atlas"},slots:=#[eX,eX,eW (.str "Atlas" 478),eW (.str "Atlas" 486),eW (.builtin "object.__new__"),eW (.bool Bool.true)]}),
 zx5 360 (zu 48) 636 174 2 355 641,
 zx3 361 (zu 48) 36 m4,
 zx5 367 (zu 7) 644 180 3 362 651,
 zx3 368 (zu 7) 37 m4,
 zx5 374 (zu 38) 654 183 3 369 669,
 zx3 375 (zu 38) 38 m4,
 zx5 381 (zu 9) 672 196 1 376 678,
 zx3 382 (zu 9) 39 m4,
 zx5 388 (zu 29) 681 204 1 383 686,
 zx3 389 (zu 29) 40 m4,
 zx5 395 (zu 47) 689 209 2 390 700,
 zx3 396 (zu 47) 41 m4,
 (400,Hd.co (zu 22) 703 221 2 397 .none .none 399 706),
 zx3 401 (zu 22) 42 m4,
 (405,Hd.co (zu 24) 709 236 2 402 .none .none 404 712),
 zx3 406 (zu 24) 43 m4,
 zx5 412 (zu 26) 715 260 2 407 722,
 zx3 413 (zu 26) 44 m4,
 (417,Hd.co (zu 19) 725 268 1 414 .none .none 416 728),
 zx3 418 (zu 19) 45 m4,
 zx5 424 "law" 731 270 1 419 744,
 zx3 425 "law" 46 m4]
abbrev ts:List (g5×Str):=[(408,jd (zu 26)),(420,jd "law")]
abbrev K2(P:Params):zz8:=K P++[(408,PySem.W.tabObj #[]),(420,PySem.W.tabObj #[])]
abbrev as:List Addr:=[2,3,4,30,31,43,44,55,56,67,68,79,80,91,92,103,104,115,116,127,128,139,140,148,149,155,156,160,161,165,166,172,173,179,180,186,187,193,194,200,201,205,206,210,211,217,218,222,223,227,228,234,235,248,249,255,256,262,263,269,270,276,277,283,284,290,291,297,298,304,305,311,312,318,319,325,326,332,333,339,340,349,350,360,361,367,368,374,375,381,382,388,389,395,396,400,401,405,406,412,413,417,418,424,425,408,420]
abbrev Γ:Pg:={[("SIGNS",(.str (zu 25))),("LONGEST",(.int 12)),("LETTERS",(.str (zu 15))),("LONGEST_NAME",(.int 6))],["len","max","min","int","str","list","tuple","all",zu 20,"bool","range","zip",zu 1,"sorted","dict",zu 8],[zu 6,"NoBack","NoFit",zu 56,"NoName","NoSign","NoSize","NoSpot","NoText","NoWay"],[],["NoBack","NoFit",zu 56,"NoName","NoSign","NoSpot"],[],fx,fx,[]}
def R0:fV:=[]
def qe:dI (Γ.at R0 fx) (zu 9) dy (top 39):=stM λZ Z Z Z Z Z=>Hd.ql λZ=>rfl
abbrev R1:fV:=zx2 (zu 9) dy 39 fx::R0
def vM:dI (Γ.at R1 fx) (zu 50) fc (top 15):=stM λZ Z Z Z Z Z=>Hd.ql λZ=>rfl
abbrev R2:fV:=zx2 (zu 50) fc 15 fx::R1
def xW:dI (Γ.at R2 fx) "is_name" l5 (top 32):=stM λZ Z Z Z Z Z=>Hd.ql λZ=>rfl
abbrev R3:fV:=zx2 "is_name" l5 32 fx::R2
def tM:dI (Γ.at R3 fx) (zu 35) il (top 33):=stM λZ Z Z Z Z Z=>Hd.ql λZ=>rfl
abbrev R4:fV:=zx2 (zu 35) il 33 fx::R3
def m9:dI (Γ.at R4 fx) (zu 18) bZ (top 25):=stM λZ Z Z Z Z Z=>Hd.ql λZ=>rfl
abbrev R5:fV:=zx2 (zu 18) bZ 25 fx::R4
def lG:dI (Γ.at R5 fx) (zu 13) bE (top 26):=stM λZ Z Z Z Z Z=>Hd.ql λZ=>rfl
abbrev R6:fV:=zx2 (zu 13) bE 26 fx::R5
def xY:dI (Γ.at R6 fx) "is_spot" eU (top 19):=stM λZ Z Z Z Z Z=>Hd.ql λZ=>rfl
abbrev R7:fV:=zx2 "is_spot" eU 19 fx::R6
def pz:dI (Γ.at R7 fx) (zu 14) cx (top 20):=stM λZ Z Z Z Z Z=>Hd.yi λZ Z=>rfl
abbrev R8:fV:=zx2 (zu 14) cx 20 fx::R7
def mh:dI (Γ.at R8 fx) (zu 17) ba (top 21):=stM λZ Z Z Z Z Z=>Hd.yi λZ Z=>rfl
abbrev R9:fV:=zx2 (zu 17) ba 21 fx::R8
def xX:dI (Γ.at R9 fx) (zu 37) di (top 16):=stM λZ Z Z Z Z Z=>Hd.ql λZ=>rfl
abbrev W4:fV:=zx2 (zu 37) di 16 fx::R9
def tO:dI (Γ.at W4 fx) (zu 44) dj (top 22):=stM λZ Z Z Z Z Z=>Hd.ql λZ=>rfl
abbrev W5:fV:=zx2 (zu 44) dj 22 fx::W4
def BC:dI (Γ.at W5 fx) "is_row" gb (top 17):=stM λZ Z Z Z Z Z=>Hd.ql λZ=>rfl
abbrev W6:fV:=zx2 "is_row" gb 17 fx::W5
def vL:dI (Γ.at W6 fx) (zu 51) dP (top 18):=stM λZ Z Z Z Z Z=>Hd.ql λZ=>rfl
abbrev W7:fV:=zx2 (zu 51) dP 18 fx::W6
def qg:dI (Γ.at W7 fx) (zu 33) bO (top 28):=stM λZ Z Z Z Z Z=>Hd.yi λZ Z=>rfl
abbrev W8:fV:=zx2 (zu 33) bO 28 fx::W7
def tP:dI (Γ.at W8 fx) (zu 43) cf (top 27):=stM λZ Z Z Z Z Z=>Hd.yi λZ Z=>rfl
abbrev W9:fV:=zx2 (zu 43) cf 27 fx::W8
def tQ:dI (Γ.at W9 fx) (zu 42) dk (top 23):=stM λZ Z Z Z Z Z=>Hd.O9 λZ Z Z=>rfl
abbrev Xa:fV:=zx2 (zu 42) dk 23 fx::W9
def tD:dI (Γ.at Xa fx) (zu 48) dg (top 36):=stM λZ Z Z Z Z Z=>Hd.yi λZ Z=>rfl
abbrev Xb:fV:=zx2 (zu 48) dg 36 fx::Xa
def tJ:dI (Γ.at Xb fx) (zu 7) dh (top 37):=stM λZ Z Z Z Z Z=>Hd.O9 λZ Z Z=>rfl
abbrev Xc:fV:=zx2 (zu 7) dh 37 fx::Xb
def qf:dI (Γ.at Xc fx) (zu 38) cj (top 38):=stM λZ Z Z Z Z Z=>Hd.O9 λZ Z Z=>rfl
abbrev Xd:fV:=zx2 (zu 38) cj 38 fx::Xc
def tG:dI (Γ.at Xd fx) (zu 47) bh (top 41):=stM λZ Z Z Z Z Z=>Hd.yi λZ Z=>rfl
abbrev Xe:fV:=zx2 (zu 47) bh 41 fx::Xd
def tH:dI (Γ.at Xe fx) (zu 22) aR (top 42):=stM λZ Z Z Z Z Z=>Hd.yi λZ Z=>rfl
abbrev Xf:fV:=zx2 (zu 22) aR 42 fx::Xe
def pq:dI (Γ.at Xf fx) (zu 24) ag (top 43):=stM λZ Z Z Z Z Z=>Hd.yi λZ Z=>rfl
abbrev nL:fV:=zx2 (zu 24) ag 43 fx::Xf
abbrev mS:List (Str×Str):=[("Atlas",zu 46),("Atlas","done"),("Atlas","undone")]
def Q0:dF:=[]
theorem lE:cF {Γ.at nL fx with hl:=fx} (bY mS Q0) (zu 11) (zu 57) dN (dY 34 0):=iK λZ Z Z Z Z Z=>Hd.ql λZ=>rfl
abbrev Q1:dF:={zu 57,(eW "Atlas"),zu 11,dN,dY 34 0,fx,eX}::Q0
theorem lF:cF {Γ.at nL fx with hl:=fx} (bY mS Q1) (zu 31) (zu 30) dO (dY 34 4):=iK λZ Z Z Z Z Z=>Hd.yi λZ Z=>rfl
abbrev Q2:dF:={zu 30,(eW "Atlas"),zu 31,dO,dY 34 4,fx,eX}::Q1
theorem p8:cF {Γ.at nL fx with hl:=fx} (bY mS Q2) "give" "Atlas.give" gG (dY 34 1):=iK λZ Z Z Z Z Z=>Hd.O9 λZ Z Z=>rfl
abbrev Q3:dF:={"Atlas.give",(eW "Atlas"),"give",gG,dY 34 1,fx,eX}::Q2
theorem qb:cF {Γ.at nL fx with hl:=fx} (bY mS Q3) "step" "Atlas.step" gJ (dY 34 2):=iK λZ Z Z Z Z Z=>Hd.Up λZ Z Z Z=>rfl
abbrev Q4:dF:={"Atlas.step",(eW "Atlas"),"step",gJ,dY 34 2,fx,eX}::Q3
theorem p9:cF {Γ.at nL fx with hl:=fx} (bY mS Q4) "join" "Atlas.join" gH (dY 34 6):=iK λZ Z Z Z Z Z=>Hd.Zg λZ Z Z Z Z=>rfl
abbrev Q5:dF:={"Atlas.join",(eW "Atlas"),"join",gH,dY 34 6,fx,eX}::Q4
theorem qd:cF {Γ.at nL fx with hl:=fx} (bY mS Q5) "turn" "Atlas.turn" gL (dY 34 7):=iK λZ Z Z Z Z Z=>Hd.yi λZ Z=>rfl
abbrev Q6:dF:={"Atlas.turn",(eW "Atlas"),"turn",gL,dY 34 7,fx,eX}::Q5
theorem m8:cF {Γ.at nL fx with hl:=fx} (bY mS Q6) (zu 21) (zu 53) e9 (dY 34 8):=iK λZ Z Z Z Z Z=>Hd.yi λZ Z=>rfl
abbrev Q7:dF:={zu 53,(eW "Atlas"),zu 21,e9,dY 34 8,fx,eX}::Q6
theorem tx:cF {Γ.at nL fx with hl:=fx} (bY mS Q7) "lay" "Atlas.lay" ik (dY 34 3):=iK λZ Z Z Z Z Z=>Hd.O9 λZ Z Z=>rfl
abbrev Q8:dF:={"Atlas.lay",(eW "Atlas"),"lay",ik,dY 34 3,fx,eX}::Q7
theorem qc:cF {Γ.at nL fx with hl:=fx} (bY mS Q8) "take" "Atlas.take" gK (dY 34 5):=iK λZ Z Z Z Z Z=>Hd.yi λZ Z=>rfl
abbrev Q9:dF:={"Atlas.take",(eW "Atlas"),"take",gK,dY 34 5,fx,eX}::Q8
theorem qa:cF {Γ.at nL fx with hl:=fx} (bY mS Q9) "sign" "Atlas.sign" gI (dY 34 9):=iK λZ Z Z Z Z Z=>Hd.Up λZ Z Z Z=>rfl
abbrev WX:dF:={"Atlas.sign",(eW "Atlas"),"sign",gI,dY 34 9,fx,eX}::Q9
theorem pf:cF {Γ.at nL fx with hl:=fx} (bY mS WX) "names" "Atlas.names" fK (dY 34 10):=iK λZ Z Z Z Z Z=>Hd.ql λZ=>rfl
abbrev WY:dF:={"Atlas.names",(eW "Atlas"),"names",fK,dY 34 10,fx,eX}::WX
theorem pe:cF {Γ.at nL fx with hl:=fx} (bY mS WY) "marks" "Atlas.marks" fJ (dY 34 13):=iK λZ Z Z Z Z Z=>Hd.ql λZ=>rfl
abbrev WZ:dF:={"Atlas.marks",(eW "Atlas"),"marks",fJ,dY 34 13,fx,eX}::WY
theorem p7:cF {Γ.at nL fx with hl:=fx} (bY mS WZ) "back" (zu 45) gF (dY 34 11):=iK λZ Z Z Z Z Z=>Hd.ql λZ=>rfl
abbrev W0:dF:={zu 45,(eW "Atlas"),"back",gF,dY 34 11,fx,eX}::WZ
theorem o9:cF {Γ.at nL fx with hl:=fx} (bY mS W0) "forth" (zu 39) fI (dY 34 12):=iK λZ Z Z Z Z Z=>Hd.ql λZ=>rfl
abbrev Y3:dF:={zu 39,(eW "Atlas"),"forth",fI,dY 34 12,fx,eX}::W0
abbrev mL:fG:={zu 29,eX,zu 29,mr,top 40,fx,eW (zu 41,"e")}
def tK:Ug (Γ.at nL fx) mL (zu 41,"e"):={{{rfl,rfl,rfl,by decide+kernel,rfl,by decide+kernel,by decide+kernel},λZ Z Z Z Z Z=>Hd.ql λZ=>rfl,{_,_,_,_,_,_,_,_,_,_,rfl},by decide+kernel,by decide+kernel,by decide+kernel,by decide+kernel,by decide+kernel,by decide+kernel},by decide+kernel,by decide+kernel,rfl,rfl,by decide+kernel}
abbrev W2:dF:=mL::Y3
theorem vK:cF {Γ.at nL fx with hl:=e6} (bY mS W2) (zu 26) (zu 26) jW (top 44):=iK λZ Z Z Z Z Z=>Hd.yi λZ Z=>rfl
abbrev W3:dF:={zu 26,eX,zu 26,jW,top 44,e6,eX}::W2
theorem pj:cF {Γ.at nL fx with hl:=fx} (bY mS W3) (zu 19) (zu 19) fL (top 45):=iK λZ Z Z Z Z Z=>Hd.ql λZ=>rfl
abbrev O5:dF:={zu 19,eX,zu 19,fL,top 45,fx,eX}::W3
theorem OH:cF {Γ.at nL fx with hl:=e6} (bY mS O5) "law" "law" jh (top 46):=iK λZ Z Z Z Z Z=>Hd.ql λZ=>rfl
def mm(P:Params):eV (K P) 412 408:={Hd.co (zu 26) 715 260 2 407 (.ref 409) (.ref 410) 411 722,_,_,_,_,_,_,_,_,by kernel_rfl,rfl,rfl,rfl,rfl,rfl,rfl,rfl,rfl,by decide}
def Cp(P:Params):eV (K P) 424 420:={Hd.co "law" 731 270 1 419 (.ref 421) (.ref 422) 423 744,_,_,_,_,_,_,_,_,by kernel_rfl,rfl,rfl,rfl,rfl,rfl,rfl,rfl,rfl,by decide}
def Rc(ns:List Int)(hl:ns.length<=63):∃s,mf (LO nL) (b8 (LO nL) (iM O5)) jh [.lst (ns.map .int)] []=.ok (.bl e6) s:=Rb ns hl
def Um(P:Params):AllK (K P) ts Γ nL:=
 Hd.ac (Hd.ent 406 405 m4) pq <| Hd.ac (Hd.ent 401 400 m4) tH <| Hd.ac (Hd.ent 396 395 m4) tG <| Hd.ac (Hd.ent 375 374 m4) qf <| Hd.ac (Hd.ent 368 367 m4) tJ <| Hd.ac (Hd.ent 361 360 m4) tD <| Hd.ac (Hd.ent 201 200 m1) tQ <| Hd.ac (Hd.ent 218 217 m2) tP <| Hd.ac (Hd.ent 223 222 m2) qg <| Hd.ac (Hd.ent 166 165 m1) vL <| Hd.ac (Hd.ent 161 160 m1) BC <| Hd.ac (Hd.ent 194 193 m1) tO <| Hd.ac (Hd.ent 156 155 m1) xX <| Hd.ac (Hd.ent 187 186 m1) mh <| Hd.ac (Hd.ent 180 179 m1) pz <| Hd.ac (Hd.ent 173 172 m1) xY <| Hd.ac (Hd.ent 211 210 m2) lG <| Hd.ac (Hd.ent 206 205 m2) m9 <| Hd.ac (Hd.ent 235 234 m3) tM <| Hd.ac (Hd.ent 228 227 m3) xW <| Hd.ac (Hd.ent 149 148 m1) vM <| Hd.ac (Hd.ent 382 381 m4) qe trivial
def cq(P:Params):PySem.W.nsIn (K P) iv "Atlas"=eW (eW (.ref 350)):=∅
def P5(P:Params):nJ (K P) ts (Γ.at nL fx) mS O5:=
 Hd.a2 (Hd.XM 418 417 m4) pj <| Hd.a2 (Hd.XN 413 412 408 m4 (mm P) ↑1 ↑1) vK <| Hd.a2 (Hd.XM 389 388 m4) tK <| Hd.a2 (Hd.yB 350 333 332 m3 (cq P)) o9 <| Hd.a2 (Hd.yB 350 326 325 m3 (cq P)) p7 <| Hd.a2 (Hd.yB 350 340 339 m3 (cq P)) pe <| Hd.a2 (Hd.yB 350 319 318 m3 (cq P)) pf <| Hd.a2 (Hd.yB 350 312 311 m3 (cq P)) qa <| Hd.a2 (Hd.yB 350 284 283 m3 (cq P)) qc <| Hd.a2 (Hd.yB 350 270 269 m3 (cq P)) tx <| Hd.a2 (Hd.yB 350 305 304 m3 (cq P)) m8 <| Hd.a2 (Hd.yB 350 298 297 m3 (cq P)) qd <| Hd.a2 (Hd.yB 350 291 290 m3 (cq P)) p9 <| Hd.a2 (Hd.yB 350 263 262 m3 (cq P)) qb <| Hd.a2 (Hd.yB 350 256 255 m3 (cq P)) p8 <| Hd.a2 (Hd.yB 350 277 276 m3 (cq P)) lF <| Hd.a2 (Hd.yB 350 249 248 m3 (cq P)) lE trivial
def nX(P:Params):wc (K P) mS "Atlas":={350,cq P,{by kernel_rfl,by kernel_rfl,by kernel_rfl,by kernel_rfl},by kernel_rfl,by kernel_rfl,λf a=>by
 have:f=(zu 46)\/f="done"\/f="undone":=by simpa [mS] using a
 rcases this with rfl|rfl|rfl
 .show PySem.W.findIn (K P) (.ref 350) (zu 46)=eW eX;kernel_rfl
 .show PySem.W.findIn (K P) (.ref 350) "done"=eW eX;kernel_rfl
 .show PySem.W.findIn (K P) (.ref 350) "undone"=eW eX;kernel_rfl}
def QT(P:Params):∀c f,mS.contains (c,f)=e6->wc (K P) mS c:=λc f h=>by
 have:c="Atlas":=by
  simp [mS] at h
  first|exact h.1|(rcases h with h|h|h<;>simp [h])
 rcases this with rfl
 .exact nX P
def pT(P:Params):∀r∈O5,∀c,r.c=eW c->wc (K P) mS c:=λr h c e=>by
 have:(O5.all λr=>match r.c with|some c=>[("Atlas":Str)].contains c|none=>e6)=e6:=↑1
 have:=cZ.1 this r h
 rw [e] at this;simp! [d9,d8,List.not_mem_nil,or_false] at this;rcases this with rfl
 .exact nX P
structure wb(K:zz8)(d:Str)(D:g5):Prop where
 e:PySem.W.nsIn K iv d=eW (eW (.ref D))
 xc:nN K D
 vt:PySem.W.kitOne K (.ref D) (.type (zu 1))=eW e6
 ex:PySem.W.excIn K D CN (zu 2)=e6
def Ar{K:zz8}{d:Str}{D:g5}(e:PySem.W.nsIn K iv d=eW (eW (.ref D)):=by kernel_rfl)(i:PySem.W.isClsIn K D=e6:=by kernel_rfl)(v:PySem.W.subIn K (.ref D) (.type (zu 1))=eW e6:=by kernel_rfl)(ga:PySem.W.findIn K (.ref D) "__getattribute__"=eW (eW (.builtin (zu 4))):=by kernel_rfl)(hk:PySem.W.findIn K (.ref D) "__getattr__"=eW eX:=by kernel_rfl)
 (cl:PySem.W.findIn K (.ref D) "__class__"=eW (eW (.builtin (zu 32))):=by kernel_rfl) (mo:PySem.W.mroIn K D (.type (zu 49))=eW e6:=by kernel_rfl) (mb:PySem.W.mroIn K D (.type (zu 5))=eW e6:=by kernel_rfl) (ex:PySem.W.excIn K D CN (zu 2)=e6:=by kernel_rfl):wb K d D:=
 {e,⟨ga,hk,cl,mo,mb,i⟩,Ea ↑1 v,ex}
def V0(P:Params)(X:(K P).In h)(G:h.Ns iv mg)(ob:List Ob):mP (K P) mg Γ {K P,mg,["NoBack","NoFit",zu 56,"NoName","NoSign","NoSpot"],ts,ob}:=by
 have b:∀{x:Str} {u:fP},PySem.W.nsIn (K P) iv x=eW (eW u)->mg x=eW u:=λa=>PySem.W.mg_of X G a;have j:∀{x:Str},PySem.W.nsIn (K P) iv x=eW eX->mg x=eX:=λa=>PySem.W.mg_none_of X G a;have k:wb (K P) "NoBack" 140:=Ar;have m:wb (K P) "NoFit" 128:=Ar;have o:wb (K P) (zu 56) 104:=Ar;have p:wb (K P) "NoName" 116:=Ar;have r:wb (K P) "NoSign" 68:=Ar;have t:wb (K P) "NoSpot" 44:=Ar;have y:PySem.W.nsIn (K P) iv (zu 6)=eW (eW (.ref 31)):=∅
 have z:PySem.W.nsIn (K P) iv "NoSize"=eW (eW (.ref 80)):=∅
 have A:PySem.W.nsIn (K P) iv "NoText"=eW (eW (.ref 92)):=∅
 have B:PySem.W.nsIn (K P) iv "NoWay"=eW (eW (.ref 56)):=∅
 refine{rfl,rfl,λq E=>?_,λg F=>?_,by decide+kernel,λc f=>?_,λd hd D w=>?_,λc f=>?_,λc f=>?_,λZ c D f w T H=>?_,λZ=>{4,{.type "module",eW builtinsNs,.plain,#[]},b ∅,by decide,by decide,by kernel_rfl,rfl,rfl,rfl}}
 .simp! [Γ,d8,List.not_mem_nil,or_false] at E;rcases E with rfl|rfl|rfl|rfl
  .exact{.str (zu 25) 360,.str (zu 25),b ∅,{_,rfl},λG=>.s}
  .exact{.int 12 362,.int 12,b ∅,{_,rfl},λG=>.i}
  .exact{.str (zu 15) 461,.str (zu 15),b ∅,{_,rfl},λG=>.s}
  .exact{.int 6 463,.int 6,b ∅,{_,rfl},λG=>.i}
 .simp! [Γ,d8,List.not_mem_nil,or_false] at F;rcases F with rfl|rfl|rfl|rfl|rfl|rfl|rfl|rfl|rfl|rfl|rfl|rfl|rfl|rfl|rfl|rfl<;>exact j ∅
 .simp! [Γ,d8,List.not_mem_nil,or_false] at f;rcases f with rfl|rfl|rfl|rfl|rfl|rfl|rfl|rfl|rfl|rfl
  .exact{_,b y}
  .exact{_,b k.e}
  .exact{_,b m.e}
  .exact{_,b o.e}
  .exact{_,b p.e}
  .exact{_,b r.e}
  .exact{_,b z}
  .exact{_,b t.e}
  .exact{_,b A}
  .exact{_,b B}
 .simp! [d8,List.not_mem_nil,or_false] at hd;rcases hd with rfl|rfl|rfl|rfl|rfl|rfl
  .cases(b k.e).symm.trans w;refine{k.xc,λc f C hC=>?_,k.vt}
   simp! [Γ,d8,List.not_mem_nil,or_false] at f;rcases f with rfl|rfl|rfl|rfl|rfl|rfl|rfl|rfl|rfl|rfl
   .cases(b y).symm.trans hC;exact ak ∅ ∅ ∅ (.inl rfl)
   .cases(b k.e).symm.trans hC;exact ak ∅ ∅ ∅ (.inl rfl)
   .cases(b m.e).symm.trans hC;exact ak ∅ ∅ ∅ (.inr ↑2)
   .cases(b o.e).symm.trans hC;exact ak ∅ ∅ ∅ (.inr ↑2)
   .cases(b p.e).symm.trans hC;exact ak ∅ ∅ ∅ (.inr ↑2)
   .cases(b r.e).symm.trans hC;exact ak ∅ ∅ ∅ (.inr ↑2)
   .cases(b z).symm.trans hC;exact ak ∅ ∅ ∅ (.inr ↑2)
   .cases(b t.e).symm.trans hC;exact ak ∅ ∅ ∅ (.inr ↑2)
   .cases(b A).symm.trans hC;exact ak ∅ ∅ ∅ (.inr ↑2)
   .cases(b B).symm.trans hC;exact ak ∅ ∅ ∅ (.inr ↑2)
  .cases(b m.e).symm.trans w;refine{m.xc,λc f C hC=>?_,m.vt}
   simp! [Γ,d8,List.not_mem_nil,or_false] at f;rcases f with rfl|rfl|rfl|rfl|rfl|rfl|rfl|rfl|rfl|rfl
   .cases(b y).symm.trans hC;exact ak ∅ ∅ ∅ (.inl rfl)
   .cases(b k.e).symm.trans hC;exact ak ∅ ∅ ∅ (.inr ↑2)
   .cases(b m.e).symm.trans hC;exact ak ∅ ∅ ∅ (.inl rfl)
   .cases(b o.e).symm.trans hC;exact ak ∅ ∅ ∅ (.inr ↑2)
   .cases(b p.e).symm.trans hC;exact ak ∅ ∅ ∅ (.inr ↑2)
   .cases(b r.e).symm.trans hC;exact ak ∅ ∅ ∅ (.inr ↑2)
   .cases(b z).symm.trans hC;exact ak ∅ ∅ ∅ (.inr ↑2)
   .cases(b t.e).symm.trans hC;exact ak ∅ ∅ ∅ (.inr ↑2)
   .cases(b A).symm.trans hC;exact ak ∅ ∅ ∅ (.inr ↑2)
   .cases(b B).symm.trans hC;exact ak ∅ ∅ ∅ (.inr ↑2)
  .cases(b o.e).symm.trans w;refine{o.xc,λc f C hC=>?_,o.vt}
   simp! [Γ,d8,List.not_mem_nil,or_false] at f;rcases f with rfl|rfl|rfl|rfl|rfl|rfl|rfl|rfl|rfl|rfl
   .cases(b y).symm.trans hC;exact ak ∅ ∅ ∅ (.inl rfl)
   .cases(b k.e).symm.trans hC;exact ak ∅ ∅ ∅ (.inr ↑2)
   .cases(b m.e).symm.trans hC;exact ak ∅ ∅ ∅ (.inr ↑2)
   .cases(b o.e).symm.trans hC;exact ak ∅ ∅ ∅ (.inl rfl)
   .cases(b p.e).symm.trans hC;exact ak ∅ ∅ ∅ (.inr ↑2)
   .cases(b r.e).symm.trans hC;exact ak ∅ ∅ ∅ (.inr ↑2)
   .cases(b z).symm.trans hC;exact ak ∅ ∅ ∅ (.inr ↑2)
   .cases(b t.e).symm.trans hC;exact ak ∅ ∅ ∅ (.inr ↑2)
   .cases(b A).symm.trans hC;exact ak ∅ ∅ ∅ (.inr ↑2)
   .cases(b B).symm.trans hC;exact ak ∅ ∅ ∅ (.inr ↑2)
  .cases(b p.e).symm.trans w;refine{p.xc,λc f C hC=>?_,p.vt}
   simp! [Γ,d8,List.not_mem_nil,or_false] at f;rcases f with rfl|rfl|rfl|rfl|rfl|rfl|rfl|rfl|rfl|rfl
   .cases(b y).symm.trans hC;exact ak ∅ ∅ ∅ (.inl rfl)
   .cases(b k.e).symm.trans hC;exact ak ∅ ∅ ∅ (.inr ↑2)
   .cases(b m.e).symm.trans hC;exact ak ∅ ∅ ∅ (.inr ↑2)
   .cases(b o.e).symm.trans hC;exact ak ∅ ∅ ∅ (.inr ↑2)
   .cases(b p.e).symm.trans hC;exact ak ∅ ∅ ∅ (.inl rfl)
   .cases(b r.e).symm.trans hC;exact ak ∅ ∅ ∅ (.inr ↑2)
   .cases(b z).symm.trans hC;exact ak ∅ ∅ ∅ (.inr ↑2)
   .cases(b t.e).symm.trans hC;exact ak ∅ ∅ ∅ (.inr ↑2)
   .cases(b A).symm.trans hC;exact ak ∅ ∅ ∅ (.inr ↑2)
   .cases(b B).symm.trans hC;exact ak ∅ ∅ ∅ (.inr ↑2)
  .cases(b r.e).symm.trans w;refine{r.xc,λc f C hC=>?_,r.vt}
   simp! [Γ,d8,List.not_mem_nil,or_false] at f;rcases f with rfl|rfl|rfl|rfl|rfl|rfl|rfl|rfl|rfl|rfl
   .cases(b y).symm.trans hC;exact ak ∅ ∅ ∅ (.inl rfl)
   .cases(b k.e).symm.trans hC;exact ak ∅ ∅ ∅ (.inr ↑2)
   .cases(b m.e).symm.trans hC;exact ak ∅ ∅ ∅ (.inr ↑2)
   .cases(b o.e).symm.trans hC;exact ak ∅ ∅ ∅ (.inr ↑2)
   .cases(b p.e).symm.trans hC;exact ak ∅ ∅ ∅ (.inr ↑2)
   .cases(b r.e).symm.trans hC;exact ak ∅ ∅ ∅ (.inl rfl)
   .cases(b z).symm.trans hC;exact ak ∅ ∅ ∅ (.inr ↑2)
   .cases(b t.e).symm.trans hC;exact ak ∅ ∅ ∅ (.inr ↑2)
   .cases(b A).symm.trans hC;exact ak ∅ ∅ ∅ (.inr ↑2)
   .cases(b B).symm.trans hC;exact ak ∅ ∅ ∅ (.inr ↑2)
  .cases(b t.e).symm.trans w;refine{t.xc,λc f C hC=>?_,t.vt}
   simp! [Γ,d8,List.not_mem_nil,or_false] at f;rcases f with rfl|rfl|rfl|rfl|rfl|rfl|rfl|rfl|rfl|rfl
   .cases(b y).symm.trans hC;exact ak ∅ ∅ ∅ (.inl rfl)
   .cases(b k.e).symm.trans hC;exact ak ∅ ∅ ∅ (.inr ↑2)
   .cases(b m.e).symm.trans hC;exact ak ∅ ∅ ∅ (.inr ↑2)
   .cases(b o.e).symm.trans hC;exact ak ∅ ∅ ∅ (.inr ↑2)
   .cases(b p.e).symm.trans hC;exact ak ∅ ∅ ∅ (.inr ↑2)
   .cases(b r.e).symm.trans hC;exact ak ∅ ∅ ∅ (.inr ↑2)
   .cases(b z).symm.trans hC;exact ak ∅ ∅ ∅ (.inr ↑2)
   .cases(b t.e).symm.trans hC;exact ak ∅ ∅ ∅ (.inl rfl)
   .cases(b A).symm.trans hC;exact ak ∅ ∅ ∅ (.inr ↑2)
   .cases(b B).symm.trans hC;exact ak ∅ ∅ ∅ (.inr ↑2)
 .simp! [Γ,d9,d8,List.not_mem_nil,or_false] at f⊢;exact f
 .simp! [Γ,d9,d8,List.not_mem_nil,or_false] at f;rcases f with rfl|rfl|rfl|rfl|rfl|rfl
  .exact{_,b k.e,k.ex}
  .exact{_,b m.e,m.ex}
  .exact{_,b o.e,o.ex}
  .exact{_,b p.e,p.ex}
  .exact{_,b r.e,r.ex}
  .exact{_,b t.e,t.ex}
 .simp! [d8,List.not_mem_nil,or_false] at f;cases(b y).symm.trans H;rcases f with rfl|rfl|rfl|rfl|rfl|rfl
  .cases(b k.e).symm.trans w;exact gd ∅ ∅ ∅ ∅
  .cases(b m.e).symm.trans w;exact gd ∅ ∅ ∅ ∅
  .cases(b o.e).symm.trans w;exact gd ∅ ∅ ∅ ∅
  .cases(b p.e).symm.trans w;exact gd ∅ ∅ ∅ ∅
  .cases(b r.e).symm.trans w;exact gd ∅ ∅ ∅ ∅
  .cases(b t.e).symm.trans w;exact gd ∅ ∅ ∅ ∅
def hY{P:Params}(X:(K2 P).In h):(K P).In h/\∀p∈ts.map (·.1),h.get? p=eW (PySem.W.tabObj #[]):={λb o e=>X b o (Hd.Eg e),λp a=>by
 simp! [ts,a8,List.map_nil,d8,List.not_mem_nil,or_false] at a;rcases a with rfl|rfl
 .exact X _ _ ∅
 .exact X _ _ ∅
}
def hC(P:Params):∀p∈ts.map (·.1),(∃c,eV (K P) c p)/\(K P).lookup p=eX:=λp a=>by
 simp! [ts,a8,List.map_nil,d8,List.not_mem_nil,or_false] at a;rcases a with rfl|rfl
 .exact{{_,mm P},by kernel_rfl}
 .exact{{_,Cp P},by kernel_rfl}
abbrev keep:List Nat:=[0,2,3,4,5,6,7,8,9,10,11,13,14,15,16,17,18,19,20,21,22,23,25,26,27,28,30,31,32,33,34,36,37,38,39,40,41,42,43,44,45,46]
def ka:∀P,as=(K2 P).map (·.1):=λZ=>∅
def left:PySem.W.LeftO lw.row.prog (PySem.W.view lw.row.prog keep) [] (λs=>PySem.W.xlAt (PySem.W.view lw.row.prog keep) [] s&&PySem.W.recOk lw.row.toRowW.records s) (PySem.W.kHook K2 as ka).obs (PySem.W.kHook K2 as ka).val 7464:=by refine Hd.Il (T₀:=λP=>Hd.treeOf (PySem.W.boot_heap P).objs.toList) (m₀:=11) (life:={}) (ann:=eW (.ref 6)) (M:=7414) ∅ ∅ (λs=>∅) Hd.Qh Hd.Qi ∅ λw os=>?_;rw [PySem.W.Fast.te10156331382660048174,PySem.W.Fast.te11892475500146522536,PySem.W.Fast.te14364793385576792824,PySem.W.Fast.te6613529449190102663,PySem.W.Fast.te4187177175401517315,PySem.W.Fast.te5923862056798008813];kernel_rfl
end K73
open PySem.W PyProof.Rows
set_option maxRecDepth 100000 in
set_option maxHeartbeats 0 in
theorem PySem.Challenge.cw_cellways_k73_whole_atlases_back_holds : PySem.Challenge.rw_cellways_k73_whole_atlases_back.Holds := by
 refine Hd.holds (d:={"law",L2.bP (K73.top 46),L2.bb (K73.top 46),L2.aw (K73.top 46),Hd.UC (K73.top 46)}) ∅ K73.ka K73.left ∅ ∅ ∅ ∅ {rfl,rfl,rfl,rfl,rfl,by decide+kernel} ?hw ?a
 case hw=>w_witness2
 case a=>exact Ci.walk2 (l:=PySem.Challenge.rw_cellways_k73_whole_atlases_back) K73.nL K73.O5 K73.Γ K73.mS "_law_script" K73.jh ["NoBack","NoFit",zu 56,"NoName","NoSign","NoSpot"] K73.ts (K73.top 46) rfl rfl rfl rfl {λZ=>rfl,by decide,by decide} (λw h Y=>K73.hY (PySem.W.kIn_of Y)) (λw=>K73.hC w.params) (λw mg h b G=>K73.V0 _ b G) e6 (λw=>Hd.XN 425 424 420 K73.m4 (K73.Cp w.params) ↑1 ↑1) K73.OH (List.cons_ne_nil _ _) (λw=>K73.Um _) (λw=>K73.P5 _) (λw=>K73.QT _) (λw=>K73.pT _) K73.Rc
#print axioms PySem.Challenge.cw_cellways_k73_whole_atlases_back_holds
