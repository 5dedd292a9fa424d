import PyProof.Rows.All
import Wide.All
import OpenK.AllK
import Wide.FinOn
import Lean
import PyProof.EqAt
import PyProof.EqKinds
import PyProof.TupleCall
import PyProof.StationsW
import PyProof.InstStore
import PyProof.ExcArgsOwn
import PyProof.ExcAttrAll.ValueError
import PyProof.ListMulRoad
import KE.KRevIter
import PyProof.ZipIter
import PyProof.TupleIter
import PyProof.Rows.SortWalk
import PyProof.Rows.SortStr
import PyProof.Rows.StrWeight2
import PyProof.ConsumeWalk
import PyProof.SliceStr2
import PyProof.ListRange
import PyProof.TupleOfSeq
import PyProof.P3In
import PyProof.AttrMissHeap
import KE.KDictOf
import PyProof.StrBlockI
import PyProof.WalksEnum
import PyProof.EnumMake
import PyProof.DictWalks
import PyProof.SetRoads
import PyProof.SetNew
import PyProof.Rows.SetFrom
import PyProof.CollectWalk
import PyProof.StrWalks
import PyProof.FString5
import PyProof.Rows.SortShell
import PyProof.SeqI3
import PyProof.SliceList
import KE.KSortTup
import PyProof.FactsAll.dict_values
import PyProof.DictItemsLoops
import PyProof.StrBlock
import PyProof.StrBlock2
import PyProof.StrBlockG
import PyProof.StrBlockL
import PyProof.MeetsStr3
import PyProof.Rows.StrNews2
import KE.KIntText
import PyProof.FString
import PyProof.AutoListH
import PyProof.ExcInit
import PyProof.ExcClass3
import PyProof.ExcBaseAll.ValueError
import PyProof.NsDelKeeps
import PyProof.PassesOwn
import Open.Tops
import PyProof.DictDisplay
import PyProof.Rows.TupDisplay
import PySem.Challenge.RW_whens_k22_whole_rows_that_come_are_so
set_option hygiene false
set_option compiler.extract_closed false
open Lean in
def AI(c:Char):Nat:=if c.toNat<127 then c.toNat-33 else if c.toNat<19968 then c.toNat-67 else c.toNat-18707
open Lean in
def AE(T:Array Syntax)(c:Char):Syntax:=let n:=AI c;let t:=T[2*(n/64)]!.getArgs[1]!.getArgs[2*(n%64)]?.getD .missing;if t.isOfKind ``Parser.Term.inaccessible then t[1] else t
open Lean in
def AA(T:Array Syntax)(s:Syntax):Option (Array Syntax):=do
 let t:=AE T (<-s.isCharLit?)
 if t.isOfKind ``Parser.Term.app&&t[0].isOfKind ``Parser.Term.hole then some t[1].getArgs else none
open Lean in
def AS(T:Array Syntax):Nat->Syntax->Syntax
|n+1,.node i k a=>match (Syntax.node i k a).isCharLit? with
 |some c=>AS T n (AE T c)
 |none=>Id.run do
  let a:=a.flatMap λx=>match AA T x with
   |some y=>y
   |none=>
    if x.isOfKind ``Parser.Term.instBinder then match x[2].isCharLit? with
     |some c=>(AE T c)[1].getArgs
     |none=>#[x]
    else if x.isOfKind ``Parser.Tactic.show then match x[1].isCharLit? with
     |some c=>(AE T c)[1][0][0].getArgs
     |none=>#[x]
    else #[x]
  if k==nullKind&&a.any (λx=>(AA T x).isSome||x.isOfKind ``Parser.Term.instBinder&&x[2].isCharLit?.isSome||x.isOfKind ``Parser.Tactic.show&&x[1].isCharLit?.isSome) then return AS T n (.node i k a)
  if k==``Parser.Term.app then match a[0]!.isCharLit? with
   |some c=>
    let t:=AE T c
    if t.isOfKind ``Parser.Term.app then return AS T n (.node i k #[t[0],mkNullNode (t[1].getArgs++a[1]!.getArgs)])
   |none=>pure ()
  .node i k (a.map (AS T n))
|_,s=>s
open Lean in
def AC(s:Syntax):Syntax:=
 if s.isOfKind ``Parser.Command.declaration&&s[0][4].getNumArgs==0&&s[1][1][0].getId != `lw&&(s[1].isOfKind ``Parser.Command.definition||s[1].isOfKind ``Parser.Command.abbrev)then s.setArg 0 (s[0].setArg 4 (mkNullNode #[mkNode ``Parser.Command.noncomputable #[mkAtom "noncomputable"]]))
 else if s.isOfKind ``Parser.Command.section&&s[2].getNumArgs==1&&s[2][0].getId.getRoot==`E then mkNode ``Parser.Command.end #[mkAtom "end",mkNullNode (if s[2][0].getId==`E then #[]else #[mkIdent (s[2][0].getId.replacePrefix `E .anonymous),mkNullNode])]
 else s
open Lean in
def AG(s:Syntax):Array Syntax:=
 if s.isOfKind ``Parser.Command.mutual&&s[1][0].isOfKind ``Parser.Command.section&&s[1][0][2][0].getId==`G then s[1].getArgs.extract 1 s[1].getNumArgs else #[s]
local macro_rules
|`(command|mutual $d* end)=>match d[0]? with
 |some t=>match t.raw.find? (λs=>s.isOfKind `«term#[_,]») with
  |some s=>if t.raw[1].isOfKind ``Lean.Parser.Command.example then pure (Lean.mkNullNode (d[1:].toArray.flatMap λc=>(AG c).map λc=>AC (AS s[1].getArgs 9999 c)))else Lean.Macro.throwUnsupported
  |none=>Lean.Macro.throwUnsupported
 |none=>Lean.Macro.throwUnsupported
mutual
example:=#[#[∀(P:Params),_,
.node,
List Str,
.none,
(')'),
('U'),
0,
List PyData,
by omega,
_ ds m R,
tq [],
_ _ _ _,
List V,
'И' s,
'ʑ' 0,
PyData.keyHash P,
Addr->Prop,
(kk w.params),
⟨_,rfl⟩,
.tuple,
List Value,
List (Addr×Obj),
(aA 0),
(EN R),
Value->'Ĕ',
List ('o'),
(aA 1),
'倧' _,
∀(I:'.'),_,
Cal P w '2' mg base,
List Int,
('佦'),
LE X.K,
(model 'Ϯ'),
('Q'),
.cons,
List Expr,
Int×Int,
some o,
_ d m Q,
(aA 2),
.(by show 'ȷ'),
wpAny '@' A,
sz '&',
(aA 3),
.bool,
_ _ _ _ _,
by rintro rfl,
.(by simp),
_ pins s σ H,
_ Q E s,
Array Value,
by decide,
(aC (.int 0)),
.fields,
x::xs,
_ 'R' Q I h,
_ _ _ s,
.int i,
0,
wpAny 'B' X.A,
by decreasing_trivial,
_ b o e,
(lf oz)],
#[(aU Z D),
Str->'Ƙ',
"/claim/cut.py",
.str 'c',
∀{a:Addr},_,
List Addr,
(aA 4),
.(by exact h.elim),
bR _ _,
by split at h,
_ σ H Q,
(gN 0),
aD aG,
List (κ×V),
Str×Bool,
bS ',',
(ak _),
.type,
f d m,
(aC ('乏')),
aV rfl,
aD bT,
if_pos rfl,
some x,
some v,
(aA 5),
.list,
.(by ·show 'h'),
'"' oz,
_ h1 h2,
Option Int,
Ok '×',
⟨rfl,?_⟩,
∀{K:ad}{Z:'1'}{m:Mu}{H:Hp},_,
.int 1,
.dat 'υ',
rs.ext e1,
Option D,
aB '7',
∀{n:Nat},_,
⟨_,rfl,?_⟩,
List Stmt,
0,
"behind",
_ m' H',
_ X a t,
('垔' bb),
List (Str×V),
X.calm=true,
TmAll ts ps,
(cO _ _),
.int _,
Nm 'Ԯ',
List '恄',
List α,
.str _,
some u,
_ 'R' Z m x y dx dy v u R Q I ok rx ry r1 r2 h k,
_ xs vs,
aD bJ,
List ('侱'),
Nat.zero_le _,
List D,
.(by intro '¼')],
#[.int (-1),
"law_whens_k22_whole_rows_that_come_are_so",
(x=='儿')=false,
('J'),
PE X a '並',
List (aL×V),
.int (-1),
('Ʈ'),
.int 3 0,
Kn m m',
_ 'Ä' 873,
∀(n:Nat),_,
_ σ H1,
.(fun 'Ğ'=>by rw[Fast.te10295753902157049106,Fast.te14364793385576792824];kernel_rfl),
'ʄ' m' H',
'N' true,
.int (1),
.dat p,
.cel a,
.Name,
_ K Z m H,
_ acc d m,
_ X pins,
_ s H Q h,
LS X.K,
_ d' m',
aD bZ,
.(by refine '«'),
(by show '^'),
('ʓ' (by simp)),
'4' xs,
"tuple",
.cel c,
.Call,
RPs '×',
∀(h:Heap),_,
_ xs m1,
Bd 40,
.(by refine '£'),
'å' xs vs,
'r' 'ȣ',
Vals xs us,
.int 181 0,
'N' _,
'Ʊ' _,
"ends",
ae ?_,
Inv X pins σ,
.(by intro 'Y'),
.(by simp only[RD,RP]),
aB ';',
∀{Q:'9'},_,
_ x y H Q,
by kernel_rfl,
'r' "code",
H b=none,
List Env,
('乊'),
'{' _,
I.tok _,
.(by obtain⟨t',rfl⟩:=ry),
g d m1,
OpR X,
['ȩ','Ȣ']],
#['亩' p v,
aS->'Ż',
Option Addr,
if_neg am,
RelV v u,
"things",
(n:Int),
Gl X x,
.(by obtain⟨t,rfl⟩:=rx),
∀{α:Type},_,
_ mask h,
∀{h:Heap},_,
_ rfl ?_,
.(by intro _;rfl),
('Ř'),
'r' 'â',
('処'),
Shared->Prop,
"whens.rows",
(a,k)∈ts,
RelV y u,
.builtin,
"ahead",
.str x,
(k+1),
_ 'R' _ _ v u Q I rx ry,
∀(K:ad)(Z:'1')(m:Mu)(H:Hp),_,
_ K H gd lv,
∀(ok:'¢'),_,
∀(k l:Bool),_,
_ 'ĕ' 646,
aI 2 bU,
_ σ' H',
_ X.xe s,
.(by subst this),
∀ x,foldedSetIterable iter X.env x=pure x,
scope.kind='俕',
X.A.units+100<cLine,
"_law_things_here",
'ɂ' (LE X.K f),
('军'),
('三'),
(aC (.int 2)),
some 'Ʃ',
.dat (TH ts),
"Behinds",
.str z,
(aA 6),
t::ts,
∀{P:Program}{w:World},_,
by simpa using this,
_ K Z m' H',
'咅'='ԋ'::'兩',
'乬' q Ext.refl ok .ofBl,
.(by show 'ұ'),
'˺' iter (LI X.K fi),
(aE (aN 'ɛ') aH),
'('->'Ż',
if_neg '&',
List (κ×Value),
"_law_feed_here",
A.handled=none,
List DictEntry,
some ('ã')],
#[Hp->Prop,
ai _ rfl,
if_neg c,
List Row,
.Assign,
(i:Int),
"point",
"kinds",
some p,
(·.1),
_ pins s1 σ H1,
∀{p:PyData},_,
aB 'M',
upd H,
_ 'ƽ' _,
aW rfl,
_ hx hy,
_ xs ys,
_ E d m,
∀ cl C s2 H2 pins fp,PF 'Ɇ' ifs '侴',
∀ cl C s2 H2 pins fp,PG 'Ɇ' tg '噜',
.ref s.heap.objs.size,
List (κ×PyData),
('ø'),
.inl (.inl cF),
.dat ('ı'),
Ok 'Ķ',
.inl rfl,
List aL,
(e::es),
some i,
p.1=k,
z::zs,
∀(hd:'Å':=by decide),_,
hk ',',
_ E s H h,
Same H,
_ q1 q2,
_ xs H Q,
PSs X,
_ m2 H2,
∀ cl C s2 H2 pins fp,PE 'Ɇ' elt '並',
('嚠' elt ['哞',⟨tg2,iter2,ifs2,0⟩] scope pos),
List ('('×V),
'佖'='G',
(cT 't'),
(Nat.lt_irrefl _),
'Ƨ'='G',
fun p hp=>?_,
'r' 'ɬ',
fun _ _=>rfl,
ts.length<=6,
eF 'O',
by ac_rfl,
.inr rfl,
x='Ʈ',
Mu->Prop,
"turned",
(1:Int),
b=true,
af ?_,
[a,b],
(i+1),
"add"],
#[.(by obtain⟨Z,d,m,R,ok,rs,h,k⟩:=h),
∀(w:World),_,
_ 'l' cR,
_ X e t,
_ ha hb,
_ lo hi,
_ vs H1,
_ p v q,
(.inr ⟨_,_,_,rfl,'ǘ',rfl,by show 4<=sizeLine;show 'ұ','墽'⟩),
('孌'),
List ('('× '凟'),
('р'),
k _ _ 'ʻ' e,
'ȸ' kvs vs,
{s with heap:=h'},
PE X b '侳',
'俰'='G',
'ǂ' x v,
('©' aF),
ts.map 'Ō',
fun b hb=>?_,
Option Value,
'ӎ' H h,
⟨fN,?_⟩,
⟨fX,?_⟩,
⟨fM,?_⟩,
⟨fU,?_⟩,
⟨fR,?_⟩,
⟨fK,?_⟩,
⟨fW,?_⟩,
pure false,
.Attribute,
"reversed",
(.ref it),
"stretch",
x∈ 'ɶ',
h.get? a,
('Ô'),
('Õ'),
('倗'),
if_pos c,
⟨[]⟩,
x.1*y.2,
.ref a,
(·.2),
(aA 7),
.dict,
[x,y],
(0,1),
.(by repeat show 'Ƶ'),
.(by first | show 'é' | show 'Þ' | refine 'ƚ' | refine 'ƛ' | refine 'Ɯ' | refine 'Ɲ' | refine 'ƞ' | refine 'Ɵ' | refine 'Ơ'),
∀{ts:':'}{ps:'('},_,
_ X.K Z m H,
∀{X:Cx}{a:_}{t:_},_,
.(by simp at this;omega),
_ 'R' _ us Q I rv,
sb.extBut _ _,
_ 'ī' X.xe s,
_ 'O' _,
RR '±' p b,
'D' '3',
RKW '×',
CallR X,
RD '×'],
#[_ 'Ļ' aH,
_ '倨' h,
LT X.K,
_ b ob q,
_ D σ H,
_ kvs k,
_ s' H',
('叼').any 'Ō'=false,
absurd (show 'Ѱ' from hs) am,
('匝' (aC (.int 0))),
'嵾'='Ȥ',
by simpa only[RP] using h,
⟨Z,d,m,R,ok,rs,h,k⟩,
List ('ş'×PyData),
['˓','ɯ','ɮ'],
'亥' s',
List (PyData×V),
.(by show '亹'),
List (Str×Addr),
X.N[i]?='x',
'亪' d s,
⟨rfl,rfl⟩,
.dat ('ɩ'),
St->'Ń',
'亴' a xs,
('Ȼ' x),
z∈ 'ȥ',
(.ref f),
H p=none,
('乎'),
(st:Int),
"begins",
"within",
"strike",
(cV st),
y.1*x.2,
('+'),
some y,
some j,
some q,
k=true,
"same",
"both",
(aA 8),
.(by intro 'ǲ'),
.(by obtain⟨zs,rfl,q⟩:=h),
_ '%' '%',
_ 'R' D I h,
_ 'O' ',',
_ acc' d' m',
∀(a:Addr),_,
_ s H Q 'Ǐ',
_ '±' os,
∀(hu:'Ĩ'),_,
_ [] pos,
_ prog w,
∀{e:Expr},_,
.(by refine 'ñ'),
by constructor,
bG cC,
_ x c e,
_ _ _ h,
some ('į'),
(fun z=>'嚈')],
#['Н' (LE X.K fo),
List ('ş'×V),
'å' ps vs,
"_law_kinds_here",
('L'),
'忷'.1,
'ˋ'='x',
(aC (.int 3)),
decide (x=y),
eval o X.env,
(ok.ext sm),
some .cell,
I.tuple hq,
.Subscript,
ae 'Ȝ',
.(nomatch e),
'ӗ' t,
some none,
'ŧ' H',
List Bool,
Array Nat,
(cH P w),
RelV x v,
o='ã',
.ref 198,
('ſ'),
'N' b,
"meets",
"ended",
"holds",
"begun",
"other",
"list",
some c,
WS k l,
.bl b,
.next,
c≠a,
"one",
"row",
.(by intro 'Y';obtain⟨Z,d,m,R,ok,rs,h,k⟩:=h),
∀{fd:FuncData}{ps:'#'},_,
.(by obtain⟨v,rfl,r1⟩:=rd.one),
.(by obtain⟨Z,d,m,R,ok,rs,h,k,_⟩:=h),
_ H2 q2 e2 ok2,
∀(X:Cx)(pins:'6'),_,
codeAny '@' A,
_ x m1 v 'ϫ' r1,
ObjOk 'Ϯ',
_ z TI TO,
∀{s:Shared},_,
'"' 'ǧ',
by decide +kernel,
RKV '×',
FT ts ps,
∀(p:PyData),_,
bI ts ps,
_ '˥' rd,
CallD X,
ta σ H,
∀(he:'Ī'),_,
'Ő' p,
_ a 'ϼ',
PE X e],
#[_ os p b,
fi d m,
∀{b:Bool},_,
(bB X scope cl C NC s2 H2 pins fp),
∀ y∈scope.names,'凨',
'('->'Ą',
('垔' false),
V->'伇',
('垔' true),
kvs.length<=sizeLine,
some ('ѝ'),
xs.length<=sizeLine,
by simpa using hb,
if_neg '%',
(by rw[ay];omega),
.dat ('4' ps),
.dat ('á'),
.dat ('4' ys),
('Ē'),
(xs.drop 'Ɓ'),
List (κ×β),
o.dict=none,
Vals vs us,
Or.inl rfl,
(aC '$'),
(cK src d),
KV kvs vs,
I.list hq,
v='Ʈ',
('們'),
['Ʈ'],
if_pos e,
if_neg e,
(mask+1),
aK a1 b0,
aK a0 b1,
aK a0 b0,
"words",
.int j,
.ref p,
.str a,
"dict",
"long",
"step",
"rows",
p::ps,
.bl _,
"int",
cE hp,
gD h2,
"met",
aQ ts,
_ X hP hw hK hc i 'R' E I hf st hg,
∀{pins:'6'}{σ:St}{H:Hp}{s:Shared},_,
.(by simp only[RPs]at h),
∀(mask:Nat)(h:Int),_,
_ v bb os p b,
_ pos.line X.env,
_ a its.toArray,
_ Y.K 'a',
_ ?_ ?_ 'O',
_ 'R' _ I h,
∀{m:Mu}{R:DK},_,
∀(s':Shared),_],
#[_ 'R' Q I,
Ext '×',
_ K 'a' m,
_ b o hb e,
∀{u:Value},_,
.(by exact h2.elim),
∀{pos:Pos},_,
SqL X.K,
Bd 2000,
∀{xs:'('},_,
.(by rw[ay,<- hl]),
Room k,
Q 'đ',
'Ƣ' o,
.int 0,
t σ H,
cG I q,
aP m a,
∀(f g:DE),_,
∀ a o u,'ԑ'->H' a='伲',
chkS X.N '偌' NC src=true,
('匝' (aC (.int 1))),
('亏' (aC (.int 0))),
List ('ş'× '凟'),
(aU '扡'),
(a==sysModules)=false,
Array ('Ƙ'),
'么'='忨',
some ('Ŝ'),
X.xe='Υ',
.inr '«',
((t.gcd b:Nat):Int),
if_pos '&',
List ('丠'),
⟨v,r,h1,h2,h3⟩,
'冐' e2,
List (Str×Value),
('冏'),
"_law_clock_here",
('Υ'),
"whens.tellings",
(stepI g2 t2 f),
('嗓'),
('凊'),
Ok '偠',
.dat ('ȝ'),
('嗳'),
List (DE×DE),
fun m1 k1=>?_,
"POINT_WORDS",
"whens.words",
[topFrame q0],
('Ò'),
'匮' vs,
gn 'č' k,
'傁' ws,
('Ş'),
some 'Ϣ',
'ʎ' X.A,
"overlaps",
y∈ 'ɶ',
aW 'ď',
'u' ?_,
('剱')],
#[RelV x u,
(xs++ys),
Option V,
if_neg q,
('ɪ'),
('倖'),
(aA 10),
.str y,
xs[i]?,
(ag e),
.inl q,
.Tuple,
.ref c,
aK x y,
"told",
"word",
"talk",
(aA 9),
b≠a,
"zip",
bD ne,
h.2.2,
"law",
"any",
.(by intro 'Ǆ'),
∀(P:Program)(w:World),_,
_ P w K mg base,
iS '&' rfl rfl ly dp,
congrArg List.length,
.(by cases r1.int;cases r2.int),
I.laid (t':=s.toks),
_ Ext.refl ok,
∀(w:World)(os:OsState),_,
_ pins s2 σ H2,
_ e1 ok1,
_ rest acc d m',
wpAny 'B' A,
bindArgs fd,
'倧' A.in1,
_ x m1 v H1,
absurd rfl,
by by_cases e:'Ţ',
_ '7' ';',
'm' ';',
wpAny M A,
∀{h h':Heap},_,
by try dsimp only,
_ 'ʵ' 237,
_ 'ʫ' 559,
.(by cases r1.str),
_ vs H Q E,
_ m1 'ϫ',
aB 'V',
aB 't',
aB 'Ű',
PI X tg,
∀{ps:'('},_,
∀(es:'Ł'),_,
∀(C:Addr),_,
Q 'ˇ',
k 'O',
0,
0,
0],
#[0,
0,
0,
0,
0,
0,
0,
0,
0,
0,
0,
0,
0,
0,
0,
0,
0,
0,
0,
0,
0,
0,
0,
0,
0,
0,
0,
0,
0,
0,
0,
0,
0,
0,
0,
0,
0,
0,
0,
0,
0,
0,
0,
0,
0,
0,
0,
0,
0,
0,
0,
0,
0,
0,
0,
0,
0,
0,
0,
0,
0,
0,
0,
0],
#[0,
0,
0,
0,
0,
0,
0,
0,
0,
0,
0,
0,
0,
0,
0,
0,
0,
0,
0,
0,
0,
0,
0,
0,
0,
0,
0,
0,
0,
0,
0,
0,
0,
0,
0,
0,
0,
0,
0,
0,
0,
0,
0,
0,
0,
upd H3,
LI X.K,
bN kvs,
_ σ H s,
fo d m,
.(by simp (decide:=true) [dZ,bK,List.range_succ,cD,HT.sIx,pick,cA,dR]),
∀ y∈scope.names,'娐',
V->'¡'->'¡'->'凌',
0,
0,
∀ a vs,'佬'->SqT K H' a vs,
List.getElem?_eq_getElem '%',
('存'),
(apos.endLine==cpos.line)=true,
('亍' (aC (.int 0))),
('亏' (aC (.int 1))),
0,
0,
0],
#[0,
'±'.params,
'匟' (LA X.K ga),
('崓'),
[dM k l n,'ı',.str w],
Value->'唺',
{s with toks:='刼'},
'˟' e1,
0,
List.mem_append.mp hp,
0,
chkB '偌'=true,
(aC ('住')),
by simpa using nm.2.1,
kvs.length<sizeLine,
acc.length<sizeLine,
Addr->Env->Sem Unit,
(aC ('嗽')),
.inl '«',
o.data='Ʊ' es ep,
List.mem_cons.mp h,
'ǀ' kvs vs,
PE X i '悮',
Value.type 'â',
kB X scope NC src,
a∈ 'Ɩ',
List ('¡'),
('冖'),
by simp[isK]at h,
"_law_word_here",
hf it 'C',
0,
.dat ('{' ys),
X.1*Y.2-Y.1*X.2,
fun _ _=>False,
('Ȍ'),
⟨_,ho,rfl⟩,
'佱'.2,
RW '×' x v,
('õ' aF),
('亰' aF),
('Б' aF),
.(by rw[e1];simp),
some '҄',
('Ӟ' pos),
NoD.new ',',
IsTup.new _ _,
(ps.map .dat),
(e1.trans eX),
ws.length<=13,
'匮' xs,
(I.ok.hd hc),
List (κ×D),
some (.l xs),
'區' n s,
fun _=>none,
('Ӟ' p),
⟨q1,q2⟩,
'N' false,
(aP m' D c),
(t.1,false),
('Ź'),
ok.g a _ h,
('丸')],
#[Cls X.K C,
.compLoop,
('['),
if_pos q,
('Ϙ'),
('ϙ'),
m a=none,
List Nat,
(lo:Int),
"lapped",
Tp L m a,
.int (0),
"_law_x",
.int 4 0,
(g i j),
(fD st),
(0:Int),
Sem α,
.ref _,
c=true,
ah _ e,
.ref t,
.ref b,
.ref l,
.inr h,
by rfl,
(k&&l),
(bA x),
nm.2.2,
aK t u,
vs=[],
.free,
bF ne,
.func,
"str",
(k,p),
(j+1),
0<x.2,
20000,
.(by intro 'ϳ'),
_ H1 q e1 ok1,
∀{pins:'6'}{σ:L2.St}{H:Hp}{s:Shared},_,
∀(hs:'Ħ':=by show 'Đ'),_,
_ X.prog X.w,
List.mem_append_right _,
upd H s.heap.objs.size,
.(by obtain⟨o,h1,h2⟩:='ρ'),
.(by simp only[RP]at h;subst h),
_ '愐' I ok rv rd h k,
.(by exact List.mem_cons_self),
_ X.K Z m1 H1,
_ '&' '&',
∀{α:Type}(xs:'¹'),_,
_ _ 'µ' _ 'µ',
∀{x:Str}{c:Addr},_,
∀(H:Hp)(a:Addr),_,
∀{A:Around},_,
_ vs h1 h2,
c3.extBut _ _,
∀(s:L2.St)(H:Hp),_,
_ 'ō' _ I1 q1,
c2.extBut _ _,
_ hL '&',
_ cdv '倰' E],
#[∀{α β:Type},_,
.(by rw[List.map_map]),
aD bJ 'z',
∀(lo hi:'¡'),_,
_ s.heap h',
∀{vs:'-'},_,
∀{x:D}{v:V},_,
.(by simp only[RPs]),
_ '倯' c B,
RR w p b,
∀(hh:'ŀ'),_,
by simpa using q,
∀(ha:'Ç'),_,
_ p.1 p.2,
aB 'z',
g x d m,
∀{v:Value},_,
∀(ts:':'),_,
∀(ht:'´'),_,
.(by ·exact 'ϛ'),
∀(e:'Ñ'),_,
'ò' H,
_ σ7 H7,
upd H2,
E.nx d,
_ 'Ø' Q,
PE X o,
∀(k:Bool),_,
kp _ _,
∀ x,'Ӯ'->'卻',
TX ['г'] 'Ƿ' 278,
.(by rw[typeLookup_type,builtinLookup_eq_fast];kernel_rfl),
'嘔'\/'厲',
PySem.W.nsIn X.K mainGlobals N='嶔',
⟨fun _ e=>('Ȓ'),fun _ _ e=>('Ȓ')⟩,
(bB X '扬' NC s₂ H2 pins fp),
'˨' {pos:=l0}=pure (ps.zip l0),
.(by show '圿'),
IsPair s.heap '埱',
kvs.find? ('仹'),
(kvs.any '仸'),
.(by cases 'ԙ';rfl),
'偕' .ofBl,
ZipApart '堮',
.dat '咎',
{s with heap:=h',toks:=tk},
'Ƙ'->'Ĕ',
('ω'/\¬ aU Z D a),
⟨x,'乄','ҕ'⟩,
by simpa using e2.symm,
List ('('×D),
wd 'ϝ' a0 a1 b0 b1,
Result->'Ĕ',
'乷' t items,
⟨x,H1,I1,r1,q1⟩,
'偽' m' H',
.(by show 'ô'),
'Ȑ' o i tpos,
E.m 'Ś',
('养'),
('唹'),
s.heap.objs.size+1,
List (Str×PyData),
('ɒ')],
#['捻' [],
Array (Int×Value),
Array '恄',
⟨_,rfl,rfl,?_⟩,
fun '_'=>'ϗ',
if_pos '%',
'中'='G',
iR X.env.scope x,
hZ X.env.scope x,
List (aL×Value),
List.cons.inj e2,
.dat ('҉'),
[z,TI,TO,i1,i2],
(by intros;rfl),
fun ',' q=>q,
x≠ '侩',
Bool->'Ń',
RC '×' c o,
"whens.behind",
⟨_,h1,h2⟩,
u='侊',
.dat ('ɫ'),
.dat ('ҝ'),
some (.d kvs),
u=Value.ref c,
some (.t kvs),
.dat '剈',
.(by simp at e),
.(by simp at h),
fun x hx=>?_,
Ok 'Ʒ',
('丧'),
'囟'.2.2,
kG ts ps kvs,
('4' ks),
Vals xs its,
('Ә' o),
some .local,
(model P w),
K.In s.heap,
'r' '˖',
js 'č' n,
⟨o,rfl⟩,
Fed.refl hT,
a*n.2-n.1*d,
false=true,
X.pn++pins,
"__init__",
fun _=>rfl,
Or.inr rfl,
(acc++[p]),
(b,l)∈ts,
L<=9000000,
"by_words",
"_law_one",
done++todo,
PE X a ta,
'ɂ' te,
pure none,
r1.ext e2,
"telling",
done++[z],
('乂'),
'4' y],
#[if_neg h,
('y'),
some p.2,
t 'k',
('Ě'),
('Қ'),
'{' xs,
(some 0),
Tbl t es,
('ȥ'),
some ob,
.BoolOp,
('X'),
(k:Int),
ok.l hm,
.inl h1,
some ks,
x.2*y.2,
.ref 60,
.ref 61,
.ref 62,
.inr x,
.inl i,
.inl h,
b∉ch,
some w,
.str b,
(dP x),
some k,
kv.1=k,
.dK [],
.ofInt,
z∈cJ,
some r,
some 2,
2000*i,
.(by intro 'ɷ';subst hP hw hK),
.(by cases o<;>first | show 'h' | exact 'Х'),
_ 'R' x v vl vu lo hi sl Q I rx hs pl pu,
.(by obtain⟨t,rfl⟩:=r),
wpAny_field hos hds,
∀(hg:'Ċ')(hm:'ʞ'),_,
∀{m:Mu}{o:'¨'}{Q:'ļ'},_,
.(by obtain⟨rfl,rfl⟩:='э'),
_ H2 q2 'ē' ok2,
wpAny_passesOwn hp,
.(by rw[sizeLine_eq];decide),
∀(hN:X.N.Nodup),_,
∀(ts:':')(ps:'('),_,
attributeBase o,
_ pins s d H,
_ X.K Z m2 H2,
_ c o q1 q2 q3,
∀(K:ad)(a:Addr),_,
∀{t':Nat}['='],_,
_ X.K Z m3 H3,
bV g t f xs,
_ X.env 'Φ',
aD bJ '7',
_ ?_ ?_ ',',
jA I hg hm,
_ x lo hi H Q,
'}' '`',
∀(x y:'o'),_],
#[_ 'ѕ' 450,
_ L m m' a,
aj 'ˌ',
_ e X.env,
_ 'ʃ' hw,
_ '~' h3,
kI 'Ĝ',
aB 'g',
aB 'ǌ',
bV 'l',
KT '2',
HOk P w,
∀(a b:Int),_,
∀(xs:'-'),_,
∀(ok:'ƙ'),_,
∀(hc:'³'),_,
∀{env:Env},_,
∀(hx:'ʠ'),_,
∀(zs:'#'),_,
∀(l0:'5'),_,
'D' r,
'Ő' a,
_ '_' n,
'Ő' l,
LA X.K,
Q 'Ʃ',
_ hD hkD,
'Ö' x,
_ X e t',
KN K H,
['ę','Ȟ','ʾ','Ǣ','ǣ','ð','Ǭ','ȟ','Ƞ','ȡ','ό','ɵ','®'],
FnOk '乡' cY k fa fd ps (LSp X.K n sp),
⟨ 'ɱ',H,I,rfl,'乬' h4 Ext.refl ok .ofBl⟩,
∀ b xs,H b='佅'->H' b='佅',
⟨_,rfl,_,rfl,'Œ' (aW rfl (hN m Kn.refl))⟩,
('嚠' elt ['哞'] scope pos),
Int.fdiv_eq_ediv_of_nonneg _ '%',
.inl (.inl ('咼')),
'И' {s with heap:=h'},
'ӳ'∈ws,
(gT 2 (aY '倞' (aY '借' cL))),
(gT 2 '屌'),
some ('Ę' "tuple.__hash__"),
'庍'∈scope.names,
(aE (aN '幗') aH),
⟨_,rfl,'Ε'⟩,
'ɉ'.params,
'ɋ'.params,
dB '凚' '嗻',
⟨_,rfl,_,rfl,rfl,rfl,?_⟩,
'Ę' "object.__class__",
(tupleKind ('与')),
List.getElem?_eq_getElem hk,
{s with heap:=h',toks:=t'},
∃ o,s.heap.get? T='G',
(show False from r).elim,
ae (tupleItemsOf_ ht ?_),
⟨rfl,'忧'⟩,
Str.ofString '噞',
s.TypeIs 'Ǡ' '˖',
.(by simp[PyData.eqvAll]),
base.Ns '垹',
(he 'ʀ'),
'偞' p x v r1 rx],
#[('嶵'),
List (PyData×PyData),
ZH s.heap 'ȴ' T b,
'Œ' (hN m Kn.refl),
B / '兺',
Inv 'Ù' 'ģ' s',
('Ȑ' o i pos),
∀ b∈fp,'刘',
(false,'专'),
('帪'),
('ԕ'),
FnScope N ps 'ǥ',
s.heap.get? c='G',
o.cls='Ē',
H a='伲',
('伨'),
Unit->'Ĕ',
('r' "function"),
I.hok.fresh 'q',
z.length<=sizeLine,
(compareOp '义'),
H l='喈',
(show _=[] from h),
x='ɒ',
('啖'),
Option.some.inj h,
by simpa using hk,
'ɂ' (LE X.K g),
En kk P w mg base,
m c='ќ',
⟨ ')',?_⟩,
"whens.fractions",
b≠X.env.locals,
by simpa using h,
wpAny_holding ?_,
('Ę' "len"),
fun ','=>False,
'r' 'ƣ',
['ɯ','乀'],
1+(1+(1+(22+1))),
K.lookup D=none,
decide (x∈zs),
SetTable.bits h,
('Ɩ'),
t.1*u.2-u.1*t.2,
['佟'],
bootBuiltins x,
'匟' t,
eM true rows i,
('ŏ' aF),
('傐' aF),
(hN m Kn.refl),
lI p b 'O',
.(by rw[e];simp),
.(by simp;omega),
⟨_,e,rfl⟩,
vs.map 'Ō',
List (Str×D),
.dat '҇',
cH 'Ϯ',
some (.n kvs),
(rows.map bX),
'俼'.drop,
decide (a=b)],
#[eval 'ӆ',
fun _ _ x=>x,
.(by simp[RPs]),
(ok.z a h).2,
(ok.z a h).1,
(ok.grow sm),
'囟'.2.1,
('Ȼ' y),
FW '偺',
"_law_other",
fs.lookup f,
'么'=none,
⟨us,[]⟩,
Option Expr,
ps.length=n,
xs.length+1,
RowO ts M r,
"_law_some",
kY '傍',
('A' f),
.dat '$',
(t.1,true),
"gathered",
some (I i),
some (I x),
'ϩ'*12^j,
h'.get? b,
pyNext it,
.ellipsis,
(j,q)::xs,
(g,y)::fs,
('Ҕ'),
"by_mays",
.int i t,
y='Ô',
(-1:Int),
('ˊ'),
WB k l z,
"_law_y",
'¥' 0,
.int 2 0,
hf b hb,
(.l ps),
('ɶ'),
(x:Int),
"thing",
todo=[],
X.2*Y.2,
(n2*k2),
.ref 59,
.str i,
some _,
Q v H',
X.mg x,
.NotIn,
.ref C,
.of_wp,
.dat q,
"bool",
.ref z,
.int 1,
Bd n i,
(w4 z),
cU x.1],
#["ways",
(gN 5),
(gN 7),
.(by simp only[RD,RP]at r2;obtain⟨a,vs,rfl,_,h1,h2⟩:=r2),
.(by simp only[RD,RP]at r2;obtain⟨a,vs,rfl,h1,h2⟩:=r2),
.(by obtain⟨f0,f1,f2,f3,f4,f5⟩:='Ρ'),
∀['Ĵ']{K:ad}{mg:'b'}{base:Heap},_,
.(by rcases h with (h | ⟨o,h⟩) | h),
.(by simp only[RP]at h),
.(by first | exact 'ɚ' | exact 'Ѵ'),
.(by first | exact 'Ş' | exact 'Ź'),
by unfold pyHash pyHashByItsType,
R.mono (N1:='Ԫ') '&',
.(by rw[Bool.eq_iff_iff]),
_ 'Ϯ' X.K X.mg X.base,
_ a1 a2 a3 a4 a5,
_ 'R' xs us Q I,
_ H3 q3 e3 ok3,
wpAny_field hz rfl,
_ (pos':=dp) 22 'Ð',
_ cl C s2 H2 pins fp,
∀(ha:'Ç')(hb:'ƒ'),_,
∀(Z:'1')(d:aS)(m:Mu),_,
_ value slice '倨',
∀{ts:':'}(nm:'·'),_,
k _ m _ H,
.(by show 'ċ';show 'ÿ'),
ObjOk P w,
_ (a:='ӭ') '倬',
_ 'Ù' σ Q,
_ it acc env,
∀(k l n:Bool),_,
_ its.toArray n,
.(by rcases q with q | q),
∀['e']{xs:'-'},_,
_ false false,
IsTup s.heap,
_ (a:=()) '倬',
BindsTo s fd,
_ 'ȍ' '丘' ?_,
_ m2 w 'ȯ' r2,
_ '_' n hb hx,
_ ',' H _ I h,
.(by have hl:=rv.length),
c5.extBut _ _,
c1.extBut _,
_ [e] [] cpos,
.(by rw[e]at h;cases h),
∀{x y:'F'},_,
Un fs ex H,
'乮' H h a,
.(by exact True.intro),
by rw['w']at q ⊢,
by rw['Ć']at q ⊢,
∀(src:'¸'),_,
∀['¤']['e'],_,
_ 'Ԍ' 'q',
_ 'ȴ' '丯',
'm' 'M',
.str '®',
'm' 'I',
SqT X.K H,
_ m1 v 'ϫ',
_ Z 'ξ' H'],
#[SoR ts ps,
_ a c1 c2,
RDs '×',
RP.ext e,
_ 'ē' ok2,
Mid 'Ʒ',
_ 'Ԣ' 187,
_ '2' 198,
PGs X es,
_ '乣' r h,
_ k l z hz,
_ ?_ ?_ _ _,
_ 'ҵ' Q I,
k _ m3 _,
by unfold Bd at *,
k _ m _ _,
∀(mask:Nat),_,
∀(x y:'F'),_,
'ò' H',
EP '买',
aM 'ԁ',
_ s1 'й',
RP '×',
RS '×',
_ '˥' r1,
lJ 'Ĝ',
gs 'č',
_ 'ӯ' aH,
aB 'Ϳ',
aB 'I',
tz 'Ă',
_ 'ɉ' os,
_ 'ɋ' os,
SqT K H,
aI 1 jN,
_ m0 m' a,
by split<;>omega,
.(by rw[h2.length]),
.(by simp only[RP]),
.(by show 'Ҫ';rfl),
∀{κ:Type},_,
∀(u:Value),_,
∀{es:'E'},_,
∀{H H':Hp},_,
∀(ry:'ė'),_,
∀(ha:'丂'),_,
∀(ha:'΅'),_,
∀(ho:'ȃ'),_,
∀(zs:'?'),_,
fo d m1,
('塴'&&decide ([e].length+'儉'+'僄'<30))=true,
∀ a vs,'伕'->'ʸ'->('嚗'/\¬ Y a)/\'忛',
starEach 'ƀ' X.env=['咸','嶣'],
.(by show '在';omega),
∀ b o u,H b='伲'->H' b='伲',
some '压',
⟨_,rfl,_,rfl,_,'p',rfl,rows,i,rfl,?_⟩,
(Builtin.Tuple.tupleItemsOf 'χ'>>=_),
∀ p v,'ă'->RP '偰' p v,
starEach [b] X.env=['嶣'],
aP (aP m6 w '倈') w '庸',
'憟' cd,
.dat ('4' (('凛').map .str)),
[.inr x.1,.inl '崟']],
#[('©' (aB (aA 1) (aB (aA 2) aF))),
⟨_,rfl,_,rfl,_,rfl,_,rfl,rfl,?_⟩,
'巩'/\'很',
(x==("__classdict__" : Str))=false,
('ä' 'λ' '匜'),
('1')->Mu->Hp->α->'嚽',
Value.ref 'Ǝ'::us,
(gT 2 (aY 'l' (aY (gN 1) cL))),
'4' '岦',
⟨_,rfl,'ʡ'⟩,
(aJ (aD fL 'M' 'ɛ')),
s.heap.push PySem.W.emptyDict,
('嵛').get?,
('ˮ' (aC (.int 1))),
('ˮ' (aC (.int 0))),
('亏' (aC (.int 2))),
('偪' (aC (.int 1))),
('亍' (aC (.int 1))),
.(by rw['怢'];exact q),
∀ s H Q,t' s H Q->t s H Q,
X.K.lookup s.heap.objs.size,
('呓'),
fun z=>'嶸',
Str.ofString '忐',
(by simp only[ay]<;>omega),
H b=some (.tup (k.map kV)),
.dat ('充'),
('©' (aB (aA 1) aF)),
('˹' aF),
'所' k,
['嘳','惤'],
('峱'),
behindInMarks op b=false,
q _ 'ԍ',
('崏'),
List ('#'×Addr×V),
H s.heap.objs.size=none,
fun kv=>decide ('Ҡ'),
fun kv=>'啸',
'儩' z,
['Ŋ','ȩ','Ȣ'],
∀ v,o.data≠.cell v,
('Ǿ' (aB (aA 2) aF)),
⟨i.toNat,')'⟩,
'˟' e,
Params->'Ł',
fun '乼'=>?_,
fun z=>e (h1.trans z),
'Ԯ'.Nodup,
('˸' aF),
ws.map ('堶' y),
X.base.get? b='G',
'-'->'凌',
'勈' m' H',
List.cons_ne_nil _ _,
(aC (.str '®')),
⟨_,rfl,_,rfl,?_⟩,
of_decide_eq_true hs,
('唚'),
I1.hok.fresh 'q',
(fun _ _ q=>'倓'),
List.mem_cons.mp hx,
0<=i/\i<rows.length,
['ŉ','ƥ']],
#[(aC (.str 'ę')),
'И' s',
('啃'),
RS 'Ķ' d' s',
(model Y.prog Y.w),
List.mem_map.mp hv,
⟨w,r,h1,h2,h3⟩,
('亭' (13+r)),
m' c='ќ',
(dH 't'),
(dH 'ĭ'),
(aC (.str 'ð')),
by simpa using h1,
'噎'='G',
'ǀ' fs vs,
'井' xs vs,
'ȸ' xs vs,
⟨v,r,h1,_,h3⟩,
PT X a '侴',
.dat 'ʷ',
'Н' (LE X.K f),
decide_eq_false c,
[z,TI,TO,i1,i2,S],
b∈ 'Ɩ',
pyNext 'Ƥ',
(iJ s₁.heap H),
KDt '匤' vs,
(Kn.refl.new hc),
('έ'),
"_law_all_signs",
"_law_some_step",
some ('嚼'),
V->'凌',
(binaryOp .Add),
(compareOp .In),
Array DictEntry,
'佫'.In,
h1.symm.trans e,
('D' ry .nil),
y='Ŝ',
X.mg '˖'=none,
RKV 'ő',
(sl zs).toArray,
'忷'.2,
'ƭ'<'Ǧ',
.dat (dM k l n),
'ƭ'+'Ǧ',
"are_two_names",
"_law_all_ends",
p.canLay0=true,
some '俔',
Array GenState,
('Ɨ'),
(ns.map V.int),
kvs.map 'Ō',
Bool->'Ż',
fun i x hx=>?_,
some '俜',
zs.map Sum.inr,
iv='嘠',
.str 'ƥ',
(aB 'ư' aF),
Fed b L m0 m a,
"behind_words"],
#["word_between",
"_law_telling",
some (.own a),
s.heap.get? b,
vs[i]?='y',
('Ę' id),
(gZ xs 'ƈ'),
Nat.le_succ _,
IntsAre vs ns,
(e2.trans e3),
('凬'),
.dat (.str w),
"_law_script",
"forced_ways",
"behind_mays",
"ways_across",
"_law_things",
"_law_lowest",
"_law_saying",
model 'Ǻ',
It->'Ń',
.(by rw[e];rfl),
IntMulOk i j,
(start N vs),
(K w.params),
'亴' a vs,
fun l hl=>?_,
i<=xs.length,
"isinstance",
('Ő' D o1),
(chkB.ok hB),
(.tup 'Ʋ'),
(cM 'ǈ' p),
gQ y='ғ',
Tm p k a0 a1,
Tm q l b0 b1,
2<=ts.length,
sg k l z x y,
oC 'ƽ',
"turned_may",
"forced_way",
"is_gap_met",
"is_may_row",
"may_row_at",
"gap_row_at",
"lie_across",
"turned_row",
"behind_row",
"strike_row",
"_law_words",
"_law_sides",
"_law_kinds",
"_law_added",
"_law_clock",
"_law_order",
Value.ref a,
sp '˵',
KT H kvs xs,
fun a h=>?_,
(q ',' w),
cD xs 'ƈ',
('§'),
H D=some o0,
(fP 'Ǻ')],
#[.str (kd k),
.dat 'Ϟ',
.dat (bX r),
"_law_kind",
T*n.2<n.1*B,
0<=sizeLine,
1<=sizeLine,
2<=sizeLine,
3<=sizeLine,
4<=sizeLine,
5<=sizeLine,
fH '亝',
('刷'),
"forced_by",
"_law_feed",
"_law_draw",
"_law_back",
"_law_sign",
"_law_time",
"_law_word",
isK p=true,
H a='G',
"__name__",
gH X.stack,
'Ö' y py,
⟨e,?_⟩,
Params->ad,
('囊'),
mK '傍',
.(by cases h),
aL×PyData,
ok.g a c h,
('A' g),
('ǅ' t),
.compStart,
zs.idxOf y,
hb.2.2.2.2,
Gl X '˖',
('俹'),
Tm p k x y,
L<=8000000,
w∈WS l n,
iQ a b x y,
some (I y),
some (I t),
y.2.natAbs,
x.2.natAbs,
"is_whole",
"fraction",
"is_below",
"words_of",
"how_ends",
"is_point",
"names_of",
"kinds_of",
"times_of",
"is_fault",
"is_place",
"told_row",
"long_row",
"both_row",
"ends_row",
"_law_may",
"_law_two"],
#["_law_had",
('剑'),
.function,
PT X a tA,
(.lst xs),
ao 'ˌ',
if_pos hk,
(vs++dvs),
('r' T),
(.lst ys),
(.tup ys),
(.dK kvs),
('r' n),
'Ϧ'::xs,
(.lst vs),
cK src σ,
cW kvs ks,
W.r _ hr1,
"ways_by",
"word_of",
"go_with",
"ends_of",
"time_of",
"has_row",
"any_row",
"add_row",
('乄'),
('Җ'),
'4' _,
h.get? b,
.bl true,
Sem Bool,
(k,v)::r,
'ʎ' A,
y='ϙ',
['Õ'],
x='Ô',
m c=none,
aK a1 b1,
.int (3),
"strict",
(dL 0 n),
(a,true),
'Œ' h,
"common",
"way_of",
"is_end",
"row_of",
"range",
XCl K C,
.inr h1,
"index",
.ref tq,
(.d []),
t.2*u.2,
(aR aF),
Kn m m1,
x.1+x.2,
y.1*z.2,
z.1*y.2,
('$'),
.ref 64,
.ref x,
b∉ex],
#[ah _ q,
.int a,
xs[k]?,
.inr z,
.ref D,
z∈zs,
c≠i1,
sub zs,
(bK n),
(12*M),
eN x.2,
(gN 2),
(gN 3),
(gN 6),
u∈us,
gI hr',
"plus",
"less",
∀(hkind:'ħ':=by rfl)(hB:'Ύ':=by rfl)(hS:'ʗ':=by rfl),_,
∀(hkind:'ħ')(hcell:'ɇ')(hnames:'Ͷ')(hfree:'Р')(hsrc:'Λ'),_,
wpAny _,
_ 'R' x y v u Q I rx ry,
.(by rintro acc d m' ⟨rfl,_,done,todo,e1,e2,rfl⟩;have e3:'乁':='д'),
.(by simp only[List.mem_cons,List.not_mem_nil,or_false,not_or]at hb),
.(by rw[List.all_eq_true];intro v hv;obtain⟨z,_,rfl⟩:='优';rfl),
_ (pos':=dp) 1 'Ð',
.(by simp only[RPs]at h;obtain⟨w,r,h1,h2,h3⟩:=h;subst h1),
_ '倏' 0 [] '$' '$' '$' '$' none '$' '$' 0,
_ tb p w n₀ ann,
_ A outer s H,
_ hkind hcell hnames hfree hsrc hs,
.(by intro '亜'),
∀['˜'](K:ad)(mg:'b')(base:Heap),_,
_ src hc hi hg ht,
∀{k n:Nat}{fa:Addr}['Ȭ']{sp:DC},_,
I.laid (a:=s.heap.objs.size),
∀(src:'¸')['剴'](he:'Ŭ'),_,
_ '倰' args us vs Q E,
_ d' m' v' H' h1,
PySem.W.findIn K 'ü',
_ 'ƌ' dp false 'ƌ' dp,
∀(prog:Program)(w:World),_,
∀{prog:Program}{w:World},_,
.(by obtain⟨hr1,hm1⟩:=iC e1),
s.heap.IsSliceOf sl,
.(by obtain⟨o,h1,h2⟩:='侲'),
.(by rcases 'Ό' with hp | hp),
_ 'R' x xs v us Q I rx rs,
∀(X:Cx)(e:Expr),_,
wpAny_field ho hd,
∀(hD:'侑')(mu:mN o0),_,
_ prog w A R s hs,
RPs.ext 'ȍ' _ _,
.(by obtain⟨rfl,_⟩:=rd),
.(by simp only[NKV]at h),
∀{k l:Bool},_,
eR g t fE,
_ scope X.env,
cP 'ʬ' 'ɖ',
gO '϶' 'Ё',
.(by have hs:'Ӫ':='伌'),
_ false true,
_ true true,
_ X.K 'a'],
#[swapsWith e,
topRun '圉',
'乬' h 'ˢ',
k _ m1 _,
_ i h st b hb,
.(by have e:b=it:='ɏ'),
∀(scope:Scope),_,
∀{scope:Scope},_,
∀{x:DL.D}{v:V},_,
_ b o _ _ hc e,
k _ m2 _ H2,
RP.reads I,
_ e2 ok2 rd2,
_ X.K Z '¯',
_ f fd ps sp,
_ nm st a ps,
.(by simp[Obj.mapSeq]),
.(by simp[bP,dW,this]),
∀(l1 l2:Bool),_,
∀['æ']['ǵ'],_,
∀['圆'](k:κ),_,
∀(K:ad)['Ƅ'],_,
'<' '仌',
'm' 'g',
_ '϶' '助',
.str 'İ',
.str 'ŉ',
_ '`' .nil,
_ 'ƽ' st h,
_ K Z' '¯',
_ a vs 'Ũ',
bY X 'ԗ',
.ins C dx,
_ 'ɻ' x x',
_ K Z m1 H1,
_ y m1 v H1,
_ y m2 w H2,
PE X '仗',
Ext X.K Z,
_ k l n z w,
PE X 'ί',
_ v u Q I r,
Ext 'Ʒ',
_ acc 'Ü',
_ hN hi hx,
_ hs pl pu,
.may a b,
_ b o hc e,
_ i H x H',
bM g b E,
∀(xs:'('),_,
_ it tq i,
by by_cases c:j=k,
.(by show '习';simp),
ha 'R',
'ˎ' es,
'慞' CX,
'慞' cY,
_ I.hok e,
_ hD9 mu9,
dJ 'Ù',
aB 'Ĳ',
aB 'Ǯ',
_ eD '伝'],
#[aB 'ˉ',
bV 'ƽ',
_ [] '慲',
hW W.nm,
eW W.tm,
jZ '侟',
fi d m2,
_ K Z' m',
t d1 m1,
fi d m1,
['Į','嗏','ł','ȁ',some '叺','ʟ','岴','岵',none,none,none,none,none,none],
⟨_,_,_,rfl,rfl,rfl,rfl,'婛','娽'⟩,
(wpAny_call_entry PyProof.Rows.slot_tuple_getitem ht.typeIs entry_tuple_getitem ?_ (args_tuple_getitem _ _)),
⟨Z,d,m1,R,ok1,'§',q,fun x2 m2 v2 'ȯ' r2=>k x2 m2 v2 'ү' r2⟩,
fun h' eb=>⟨rfl,'坞' (fun b o hb e=>eb b o hb e) f0 f1 f3 f4 f5⟩,
∀ cl C s2 H2 pins fp,PI 'Ɇ' tg2 iter2 '恍',
'勛' (wpAny_newObj_type (af ⟨_,rfl,af h⟩) htake),
∀ cl C s2 H2 pins fp,PF 'Ɇ' ifs2 '悾',
∀ cl C s2 H2 pins fp,PG 'Ɇ' tg2 '悽',
ae ('乥' (x:=.ref TI) rfl (ae (wpAny_seqItems hTI rfl ?_))),
⟨_,rfl,_,rfl,'u' ⟨_,rfl,_,rfl,aW rfl (aW rfl (hN m Kn.refl))⟩⟩,
⟨Z,d,m,_,ok,rs,hf,'姟'⟩,
∀ cl C x,'坐' (compEnvC scope cl C X.env) x=pure x,
(∀ c o,c≠z->'妝'),
PySem.W.fnOf x qual '圛',
{s with heap:='妸'},
'K' (Builtin.SmallTypes.nextOf (.ref it)) Q E s,
('Ý' (aD aG (aA 0) (aC (.int 0))) (aD aG (aA 1) (aC (.int 1)))),
(aO 3 (aI 2 iL '姸')),
('佁') / '婵',
'扰' (R.bind (mC p b _ _ _ _) R.pure),
aM '儕' '僞',
'哸'='ԋ'::starEach [] X.env,
'K' (getItem (.ref t) (.ref sl)) Q E s,
(A.under ('Ę' '弖' ⟨ '乊'::us,kw⟩)),
⟨Nat.le_of_lt (up '仨'),?_⟩,
tP '%' (fun p hp Q' hq=>?_) fun fits hs fl=>?_,
'嫔'-'Ȉ',
⟨Z,d,m,_,ok,rs,h,fun x '云' rd=>?_⟩,
.(show its.toArray.any 'Ҟ'=its.any 'Ҟ' by simp),
('娰'>>=_),
aj (by simpa using gl) (show 2000<=9000 by decide),
(kvs.map fun kv=>if 'Ҡ' then (kv.1,y) else kv),
⟨_,rfl,_,rfl,_,'ŷ',rfl,rows,j,rfl,?_⟩,
ae (wpAny_sequenceKey ht.typeIs '&' ?_),
(fun w hw=>lH rx fx r fs w '哓'),
'寙'.foldl (·++·) #[],
ae ('乥' (x:=.bool false) rfl ?_),
s.heap.push '叒',
(if '幼'.isEmpty then 0 else 1),
bL ['帒',('ɦ',aK b1 c0)],
PassesOwn 'B' X.A X.env X.xe,
absurd '幇' 'ű',
∀ b u,'口',
{cls:='ë',data:='弛'},
(Builtin.SmallTypes.nextOf '刦'>>=_),
.inl (.inr ⟨o,'咼'⟩),
.(by simp[eJ,PyData.depth,PyData.depthAll]),
∀ o,'Ų'->'列'='G',
.(by show '勸';simp[RPs]),
codeAny_loop rfl I (fun n s hI=>?_) n h,
fun kv=>'孢',
⟨up '仨',?_⟩,
'0' (Str.ofString "point")],
#[(h1.at fun o e=>'亀' o D.i1z e),
⟨ '刃','Ƭ',{},1090,os⟩,
I1.fpOk 'q' ('伎'),
aS->Mu->α->'岘',
Q (.dat ('N' ('Ԭ'))) m,
('ä' ('Ö' '˖' p) 'ƀ' 'ǹ'),
absurd (show 'Ѱ' from fx) am,
('力' xs).flatten,
'扽' (by size_fits),
fun 'ő'=>qZ 'ѐ',
.(by simp[atKey,List.find?_cons,e']),
fun v '亨'=>?_,
.(by rw[isSubtype_type];kernel_rfl),
'仧'=none,
(jB '怖' (cQ A0 B1 C0)),
('Ҏ' .And '急' pos),
'倿' vl vu .none,
List.mem_map.mpr ⟨_,ha,rfl⟩,
List.mem_map.mpr ⟨_,hb,rfl⟩,
('Ҏ' .Or '急' pos),
'挤' (.ref f)=true,
Env0 '˝' '倰',
'偕' .ofInt,
(aJ (aD fL 'g' 'ɛ')),
⟨_,rfl,_,rfl,_,rfl,rfl,?_⟩,
xs.length+ys.length<=sizeLine,
iF '呄',
⟨h1,of_decide_eq_true h2⟩,
'唞'='Ȏ',
('Ҏ' .And (b::rest) pos),
(show u='嘠' from ry),
X.K.lookup s1.heap.objs.size,
(pick vs '唂'),
aK 'ǜ' '业',
('匝' (aC (.int 2))),
('偪' (aC (.int 0))),
(aB '伊' aF),
fun z hz=>fH k l z (hw z hz),
('Ҏ' .Or (b::rest) pos),
(by rw[e];show '了'),
fun Z m H=>'ǔ',
ts['仺'],
(List.length_filter_le _ _),
s.TypeIs '刜' "slice",
Builtin.Tuple.tupleExact _,
by simpa only[RPs] using h,
'匌' .ofBl,
.dat ('4' (x0::x1::xs)),
'4' [.int x.1,.int x.2],
('ŏ' (aB (aA 4) aF)),
('Б' (aB (aA 6) aF)),
isTrue c env (eval c env),
mask=7\/mask=31\/mask=127,
ae (wpAny_typeOf hTs ?_),
'幼'.length,
Value->'('->Prop,
['Ĉ','Ȫ',"x","y"],
(Str.ofString 'ƥ'),
bL ['帒'],
bL [(s00,t00),(s01,t10)],
H a='允',
(tupleKind_room_in1 hu),
'拖' it v,
List ('#'×PyData)],
#[fun y=>'廹',
aj hln 'ȇ',
(ha 'ʀ'),
.ref s1.heap.objs.size,
((sIx n 0 lo:Nat):Int),
⟨ 'ɱ',H,I,rfl,?_⟩,
eval 'λ' X.env,
('堧' 2>>=_),
('堧' 3>>=_),
'偞' _ y u r2 ry,
('Ǿ' (aB (aA 1) aF)),
some ('佀'),
'弉'.Nodup,
I.base.there '_' hx,
('囆' .Not a pos),
fun b hb=>('丼').1,
List.nodup_cons.mp nd,
'垒' 0 lo,
(rel.val k).isSome_eq,
bY X (compareOp op) r,
(F.args_zip_next_1 _),
b / '唩',
'Ԯ'.idxOf,
['Õ','į'],
('˷' aF),
('ˮ' (aA 0)),
this.mono '&',
('4' (.str w::xs)),
(hf4.mono '%'),
(tupleKind 'Ș'),
'忈'='G',
wpAny_truthy_bool ?_,
some (some 'Ǟ'),
Str->Option NameKind,
(.dat ('ν')),
RS '偠' d' s',
⟨_,'ń',rfl⟩,
xs.length<=ys.length,
Calls.spliced_nil ?_,
ps'.length=xs.length,
'4' '嗃',
'拣' M,
decide '怏',
"special-get-raises",
("__debug__" : Str),
'ò' H2 s2,
some ('嗘'),
us.length=ps.length,
sIx '埭' lo,
ys.length<=sizeLine,
'{' '喲',
h.Ns '垹',
'怺'.isSome,
ps.length<=sizeLine,
('Ő' D (.lst zs)),
"reversed.__next__",
"reversed.__iter__",
(zs.map PyData.str),
ZSq l1 s.heap t1 xs,
ZSq l2 s.heap t2 ys,
s.heap.IsList l1 xs,
PairsH H' 'Ŕ' ps',
['ƥ','ŉ'],
List.getElem_mem hk],
#[PyData.strOk z=true,
its.size<=sizeLine,
Option.some.inj h1,
H a=some '俞',
H a=some '刞',
RPd '×' kvs vs,
(d.set i ('x')),
PA X es ('ӛ' g),
H D='佌',
ae (wpAny_rule ?_),
('ˎ' elts j p2),
m2 c='њ',
⟨hk.1,hk.2,r3⟩,
(aC ('嘵')),
(jD '怖'),
decide_eq_false c1,
'举'.eraseIdx i,
by push_cast;omega,
"Behinds.__init__",
"Behinds.gathered",
(1+(16+(1+(1+0)))),
o.data=.seq its n,
starEach es X.env,
(eval iter X.env),
((p,w)::'囉'),
by simpa using h2,
by simpa using hi,
(m a).isSome=true,
ns.map PyData.int,
(aP m' D '丽'),
by simpa using e2,
standAt iter2.pos,
m2 c='θ',
"__annotations__",
by simpa using q3,
['ŉ','ŉ'],
(aC 'ʷ'),
(aC (.str 'Ƃ')),
('Ҁ')++todo,
(Int.gcd T B:Int),
by simpa using e,
'-'->'Ń',
pure '凡',
Binds K fd ps [],
⟨os,hos,hcs⟩,
if_neg 'C',
Rd H a '俞',
m a='θ',
'ʄ' m H',
standAt iter.pos,
α->'Ą',
fun r s5 hq0=>?_,
m c='θ',
hb.get? b='G',
⟨21,0,21,11⟩,
h.get? d='G',
(I.ok.bs '_'),
⟨_,ho2,rfl⟩,
'嚏'<cLine,
"BaseException",
.dat ('{' ps),
'侐'.ext,
assign tg env v,
(fP 'Ϯ')],
#[(pick vs [1,0]),
Fed 20 'ӄ',
List ('F'),
.(by rw[av];omega),
(f:Int)+(1+s)*i,
'Ǧ'<'ƭ',
"Behinds.words",
(neC '_' hx),
EP '买',
⟨H1,I1,q1⟩,
'亐' a xs,
NoAttr X.K C f,
'r' '囋',
some '信',
⟨v,rfl,h2⟩,
.inl ('Ғ'),
X.N[j]?='x',
.dat ('N' x),
env.kindOf y.1,
some (.o N fs),
False.elim hq',
List (Str×DC),
Nat->Nat->Bool,
'举'.map bA,
('ӊ' aF),
Fed b n m0 m a,
some (.cel c'),
bL [(s00,t00)],
"STEP_LENGTHS",
(SP 'Ù' D),
'傏' H b,
((0:Nat):Int),
(nE I.hok eb),
h '匬',
⟨_,rfl,h⟩,
(hJ he iN hs),
.dat (.int x),
some (some a),
.dat ('乏'),
'亓' M r,
[none,'ҥ'],
∃ k:Nat,i=k,
(iP hb ha.px),
(iZ ha hb.px),
ts='Ѻ',
⟨_,_,rfl⟩,
eW ht (fA hx),
(cnt k).toNat,
(cnt l).toNat,
⟨i,j,rfl⟩,
.body bE env0,
PyData->Bool,
isKs ps=true,
α->β->Prop,
(fun _ q=>q),
fun _ _ q=>q,
I.cell 'ǿ',
Hp->VK->Prop,
eval a X.env,
eval b X.env,
IsPart vl lo,
IsPart vu hi,
(2^63-1) / 8,
ns.length<=n],
#[.FunctionDef,
(rs7.ext e8),
⟨mm,hns⟩,
(chkS.ok hS),
fun c hc=>?_,
(ok3.ext sm),
(pick xs is),
('ȹ' a),
BW '偺',
"_law_found",
"END_COUNTS",
kh P 'ŉ',
Addr×Value,
xs.length=n,
(ps.zip us),
i<xs.length,
n<=sizeLine,
⟨h1,h2⟩,
"__class__",
e1.trans e2,
⟨b,e,q⟩,
y.2≠.cell,
('丼').2,
(ac _).lift,
m<zs.length,
zs.map .str,
iY x='ҟ',
jY X n v sp,
nH nm st ps,
Int.gcd t b,
.ends i x y,
(bO 'Ĳ'),
(bO 'ư'),
J i 'Ø',
eL A0 B0 ?_,
eL A0 B1 ?_,
eL A1 B0 ?_,
eL A1 B1 ?_,
(done++[t]),
n.1*B<T*n.2,
6<=sizeLine,
(us.map tr),
hX nm ht ha,
hX nm ht hb,
n1*k2+k1*n2,
(some (-1)),
('ϩ':Int),
(fun w=>?_),
H1 w.params,
('4' k),
Heap->Prop,
H b='»',
I.pin p hp,
(X.wish E),
K.lookup f,
Option Obj,
(x,c)∈cl,
ao '剕',
dR n lo st,
p.getD i 0,
cJ.idxOf z,
(WB l n w),
.str '˚',
"_law_top"],
#[(xs.map f),
u∈WS k n,
(jO k n).2,
'D' _ t,
h'.get? a,
H' b=none,
.Constant,
.bl false,
if_neg hk,
(.ref sl),
fun z=>?_,
(.dT kvs),
I.lstM hH,
(.ref fa),
kP l=true,
m1 a=none,
(isK q c),
sp '*',
items[i]?,
(.ref i1),
(.ref i2),
"__doc__",
sl2 'ƀ',
'è' x.1,
'è' x.2,
'è' y.1,
'è' y.2,
.turned i,
b<=100000,
if_pos c1,
if_neg c1,
if_pos c2,
if_neg c2,
W 'O',
hb.pt rfl,
W.r _ hr2,
fun _=>?_,
(fP P w),
H a=none,
(.own x),
b∉X.fs,
s.toks+1,
(k,x)::r,
(us++ds),
(vs++ws),
¬ q.1=k,
h2.ext e,
ok2.l hm,
'Л' m,
'Ͳ' k,
x=.cel b,
cW 'ǈ',
ins zs z,
(cS k l),
(WS k n),
.any a b,
.int (2),
"number",
jX ha ?_,
jX hb ?_,
iX '~',
p.1=q.1,
.tup xs,
vs=v::r],
#[List β,
k b u q,
(ag ho),
Q () s',
x=.bl c,
[u1,u2],
-(2^62),
1000000,
some [],
(j:Int),
xs≠[],
oQ r fs,
(iH ry),
(v::vs),
some ps,
's' R,
h.get e,
lo+k*st,
x<cnt k,
.long a,
(jI aF),
(aA 11),
(2:Nat),
(2:Int),
(rng _),
aQ done,
(o::d1),
n6 W.nm,
s=false,
"STEPS",
.ref 63,
.(by repeat show '剳'),
.(by first | exact '刴' | refine '前' | refine '剎' | refine '凵' | refine '凶' | refine '凷' | refine '凸' | refine 'ˀ' | refine 'ˁ' | show 'é' | show 'Þ' | refine 'ʡ' | refine '僑' | refine '傶'),
∀(hc:'³')(hi:'ĺ')(hg:'ŗ')(ht:'Ŗ'),_,
.(by rintro ds m R hl ⟨ts,ps,says,rows,M,st,rfl,W,so,⟨i,j,rfl⟩,hN,hR⟩;refine '介';refine '傾'),
.(by rename_i p ys;obtain⟨h1,h2,h3,h4⟩:=h;obtain⟨as,ra⟩:='Ԃ';obtain⟨bs,rb⟩:='儜'),
wpAny_callSpecial?_slot (name:='仪') ht.typeIs PyProof.Rows.slot_tuple_getitem,
.(by rw[List.replicate_succ,List.replicate_succ,List.flatten_cons,List.flatten_cons]),
∀(hg:'侸')(hm:'伻')(ha:'Ç')(hb:'ƒ')(hs:'仇':=by rfl)(hs2:'从':=by rfl),_,
.(by ·show '剻'),
.(by rw[Fast.te10110043849684766642,Fast.te14364793385576792824];kernel_rfl),
∀(hf:'У':=by show '劅'),_,
∀(hfew:'仅':=by rfl)(hline:'ͽ':=by rfl)(hs:'傳':=by rfl),_,
wpAny_call_entry F.slot_zip_next hT F.entry_zip_next,
.(by obtain⟨oc,od,kV,doc,pm,an,cdv,ct,osl,rfl,lk,hcd⟩:=F.ex),
.(by obtain⟨os,hos,hcs,hds⟩:=id hs;have hTs:'僾':='兿'),
.(by subst e3;rw[List.append_nil]at e1;rw[<- e1];exact h),
.(by simp only[RPs]at h ⊢;obtain⟨v,r,h1,h2,h3⟩:=h),
mS PySem.F.slot_dict_getitem.lookup hs,
_ s5 C D H' m' ps q e ok' rd '凕' I5 off,
.(by first | exact 'Ş' | exact 'Ź' | assumption),
.(by obtain⟨⟨k,l,ha,hb,wl,hw⟩,hs⟩:='俤'),
.(by simp[-bind_pure_comp,-map_pure];exact '傱'),
_ 'Ԕ' 3 [] '$' '$' '$' '仲' none,
∀(nm:'·')(ht:'´')(ha:'Ė')(hb:'Ѷ'),_,
∀(ok:'¢')(rs:'Ǘ'),_,
∀{apos cpos:Pos}(ho:'伧')(he:'Ԟ'),_,
∀(l1 l2:Bool)(h:Heap)(t1 t2:Addr),_,
_ P w '2' mg base,
∀{xs:'-'}{us:'5'},_,
∀{A:Around}{E:'9'},_,
.(by obtain⟨Z,d,m,ZZ,ok,rs,h,k⟩:=h),
.(by obtain⟨z,its,n,r,hl,e⟩:='刟'),
.(by refine 'ӻ';refine '儈';rw['ʣ'])],
#[_ I.kIn True.intro e 'Ȃ' h,
∀{K:ad}{Z:'1'},_,
.(by try show '劤'),
∀(hn:'ђ':=by decide)['固'],_,
Heap.get?_update_self _,
'意' hT F.slot_zip_next,
.(by obtain⟨its,rv,p,hz⟩:='ȏ'),
List.mem_append_left _,
List.replicate k.toNat,
_ (t':=s.toks) '伏' 'q',
∀{nm:Str}{st:Stmt},_,
.(by obtain⟨k,rfl⟩:'冼':='仾'),
.(by subst ex;obtain rfl:'ї':=rx),
.(by obtain⟨hp,g,d,tk,os⟩:=s),
∀{y:V}{u:Value}(ry:'ė'),_,
.(by intro wh 'Y'),
.(by first | refine 'ȑ' | skip),
.(by with_reducible refine 'ԥ'),
.(by obtain⟨hr2,hm2⟩:=iC e2),
∀(hg:'Ċ')(hm:'丞'),_,
RelO.some_of (v:=v),
List.map PyData.str,
_ '%' '&',
Nat.le_add_right _,
∀(K:ad)['Ϻ'](xs:'-'),_,
_ l1 l2 s.heap t1 t2,
k _ m1 H1 _ q '˥',
∀{kindOf:'儴'}{x:Str},_,
Nat.le_trans '僽',
_ d2 m2 s2 'ȯ' rs2,
∀{H:Hp}{a b:Addr},_,
_ d2 m2 s2 'ү' rs2,
.(by obtain⟨o',e1⟩:='儠'),
.(by intro '匃'),
List.replicate k,
List.replicate n,
RPs.tr0 ht hl hf,
_ '冶' '土' hs rfl,
.(by rw[List.length_append]),
.(by rcases hq with hq | hq),
_ rfl rfl,
∀{us:'5'}{vs:'-'},_,
.(by refine 'Ӱ';refine '傷'),
_ W.nm W.tm ha hb,
_ I ok rs hD ha q,
∀{t:Addr}{xs:'T'},_,
_ true false,
R.bind (N1:=1),
Value.str 'ԃ',
_ '凉' 'ʮ' 'ё',
PI X '兝' '僘',
_ f0 f1 f3 f4 f5,
_ c ob q n hc hx,
ExtW K Z D m H,
.(by obtain⟨h1,h2⟩:=h),
∀{items:'T'},_,
∀(kvs:'n')(k:κ),_,
∀(g:'Ф')(c:'σ'),_,
∀{i:Int}(h0:0<=i),_,
_ kindOf '八' m,
findIn K 'ü',
ok2.put hm g1,
_ '倹' h2 h3 h4,
Turn P w K tg],
#[_ H' q '˥',
.(by simp only[NKVs]at h),
∀{b:Addr}{o:Obj},_,
∀(X:Cx)(st:Stmt),_,
∀(X:Cx)(st:'¬'),_,
wpAny_mono h,
wpAny 'ѩ',
congrArg not,
ae (m:='僿'),
∀['e']{zs:'#'},_,
∀['乲'](z w:Str),_,
_ [] 'ɜ' m1,
_ '8' '傝' m3,
_ 'ˤ' _ I2 q2,
_ pins s1 σ _,
.(by have e':'剀':='伂'),
.(by have n6:'Ŷ':='ΐ'),
∀{H:Hp}['e'],_,
.(by subst e;exact '僕'),
∀{f:Addr}['Ȭ'],_,
backTo cpos,
∀['劎'](h:'ì'),_,
∀(i:Nat){x:Str},_,
∀['劊'](h:'剢'),_,
∀['圑'](h:'ê'),_,
∀{l:Bool}['Ď'],_,
c4.extBut _,
_ '劻' rfl hc,
_ 'ŭ' 1 '乱',
_ D hz ht hTI,
Tch fr xs h,
_ o0 o1 o3 o4,
_ i h h' st k,
k d _ s _ q,
_ I ok rs h ?_,
_ '倰' vs Q E,
∀['Ȱ'](σ:St),_,
.(by show 'ɹ';subst h),
∀['Î'](sp:DC),_,
RP.tr 'ʮ',
_ false rows,
segGo '倯',
Meth X.K C,
_ 'ɾ' m7 H7,
_ '憁' t1 t2,
_ rb ra '圳',
_ h' tk 'Ũ',
_ m' q0 'Ũ',
_ 'R' R I h,
_ 'R' Z d m,
∀{lo hi:'¡'},_,
.(by simp only[au,bM]),
∀(K:ad)(H:Hp),_,
∀['偃'](t:TT),_,
∀['劏']['ȵ'],_,
'ā' '伴',
_ '儐' '决',
'偖' 'ϫ',
∀['劔']{m:Mu},_,
_ scope env,
∀(g:DG)(t:DT),_,
'偋' 'ɖ',
_ 'ɾ' '¯',
'<' '儚'],
#['<' '儛',
'<' '傻',
'<' '僊',
CalM '劍',
_ 'I' 'M',
_ ';' 'I',
'm' 'z',
.str 'ę',
.str 'ð',
_ 'Š' 'ǹ',
'm' '7',
T.obj _ _,
PA X 'Š',
PE X 'ԉ',
bY X '伵',
_ hit ht hx,
Zst l1 l2,
_ X.K X.w c,
_ e2 ok2 r2,
_ K H' a xs,
_ b u q n _,
_ K f s H Q,
by by_cases hb:b=a,
∀{N ps:'#'},_,
HOk 'Ϯ',
_ _ ('þ'),
'D' rfl,
SqL K H a,
absurd q,
RDs 'Ʒ',
_ pos 'R',
RPs 'ϵ',
Ext 'Ҷ',
Mid 'ϵ',
vis mask,
Lay mask,
fin 'ƽ',
R.leaf 1,
_ e1 e2 e3,
upd H1 p,
MtR X id,
_ H h 'ˢ',
_ K Y '¯',
'τ' e 0,
_ '偒' m H,
.gap x y,
_ a t' b t,
DGet H a,
_ 'ɾ' m H,
_ _ _ racc,
(⟨ 'ù',none,'W' #['捩' 182,'捩' 183,'d' 184,'为','/','/','/','/',.ref 11,'ν','í',.ref 12,'$','$','$','$',.int 185 0,'为','d' 186],#[]⟩),
∀ b∈ch,'嫇'/\'ԣ'/\'壴',
(⟨ '怜',none,.plain,#[some (.ref 13),'嗑','嗑',none,some (.str "__main__" 164),none,'思']⟩),
.(fun 'Ğ'=>by rw[Fast.te10295753902157049106,Fast.te14364793385576792824,Fast.te11445937954039399578];cases bb<;>kernel_rfl),
PS X ('Ň' ['侫'] 'Ӧ' spos) ('Û' (aO i (cI src fi g t f))),
PE X 'ŭ' ('A' (lR src fi g t fi2 g2 t2 f)),
'卍'=true,
swapsWith 'Ӧ' (some ('侫')) spos.line X.env=pure true,
[Value.type '怼','広','r' '冎','冟'].contains '俟',
'屯'/\'佄'/\'情'/\Q (.dat ('N' (! '嵜'))) m,
callWith pos f first (backTo pos ('咅')) (backToKw pos '崁'),
'勛' (wpAny_newObj_type (ae (af (af ⟨_,rfl,af h⟩))) htake),
ae ('勛' (wpAny_newObj_type (af (af ⟨_,rfl,af h⟩)) htake)),
('壓').objs.size],
#[∀ d m' v' H',R d m'->'к'->'娫',
('傓' (aB (aD aG (aA 9) (aI 2 bU (aB (aA 0) (aB (bG cC (aB (aA 9) aF)) aF)))) aF)),
ae ('傣'),
'Ɍ'/\'ʜ'/\∃ vs,'ɝ'/\'峷',
(∃ o,h'.get? e='G'/\o.cls='咨')->E (.ref e) 'Ƒ',
'K' (Builtin.Slice.sliceApplied (.ref sl) (pure (n:Int))) Q E s,
'壚'.2.1,
('夁').map bA,
PE X 'Ӧ' ('A' (cI src fi g t f)),
PE X 'Ӧ' ('A' (lZ src fi g t f)),
{s3 with heap:=s3.heap.push {cls:='喫',data:='W' #[vl,vu,'$']}},
(by first | exact .inl 'Æ' | exact .inr 'Æ'),
⟨Z,d,m,_,ok,rs,h,fun '˪' ⟨c,ex,⟨xs0,hx0⟩,q⟩ 'ȼ'=>?_⟩,
.(show dS f v ('刽')=(if k=f then '俳' else (k,x)::dS f v r) from rfl),
(fun p hp=>by show '捓';exact⟨y,rfl,hy⟩),
(aB ('Ý' (aD aG (aA 0) (aC (.int 1))) (aD aG (aA 1) (aC (.int 1)))) aF),
('廟'&&env.scope.kind=='俕'&&env.kindOf n=='Ȏ'),
⟨Z,d,m,_,ok,rs,h,'姟'⟩,
'懨' (.ref D) C (.ok .next) s5,
∃ zs:'#',ys='凬'/\'叁',
('˹' (aB (aC (.int 1)) (aB (cT (aC (.int 1))) aF))),
(s.heap.push {cls:='ë',data:=.seq ([]:'5').toArray}),
⟨gR ts,by simpa using xF ts,sz (by simp[gR];omega),'凗'⟩,
'ʹ'+('傸'),
⟨l,vs,rfl,eE ok hl,'ś','尲'⟩,
('Ý' (aD aG (aA 1) (aC (.int 0))) (aD aG (aA 0) (aC (.int 1)))),
'儤'=0/\'宨'=xs.length,
(backToKw cpos '崁').all (fun x=>x.1.isSome),
'媔' fun y=>'佸',
.mk <| fun '亟' w=>h '亟' '侎',
(.dat ('4' '婮')),
('拞' fun x s'=>R (.error x) s'),
∀ x,'Ӯ'->∃ c,'刋',
('拤' cdv A outer s H E),
di 'Ś' rfl 'Ś' 'Ś',
fun x=>'峝' '儓',
(aB 'Ώ' '尐'),
(hs.2 b (ao ('Ӆ' (I.ok.cab x c hfn hc)))).trans,
⟨ '峏','峏'⟩,
Q '厁' m2,
'喆'='Ȏ'\/'喆'='ʼ',
X.fn y=true\/'厳',
('¾' (aI 2 iA (aB (aA 1) (aB (aA 0) aF))) (aA 2)),
'坂' N='嶔',
.(if v<0 then (v+'ĉ').toNat else min v.toNat n),
'后'-'元',
('嘬'.map '吃'),
FnOk '乡' CX k '偡',
⟨_,_,rfl,rfl,'Э'⟩,
c='ɲ'\/c='乍'\/c='ϥ'\/c='â'\/c='ȣ',
af ⟨plainId_quiet '执',?_⟩,
w∈ '厐',
(kvs.find? '仸').map 'Ư',
Cal '乡' '偢' k sp,
∀ vs H Q E,'例'->'巏',
(aR '婿'),
{cls:='ë',data:=.seq '乳'},
(h.push '叒'),
ZNew 'Ù' 'ͳ' '堮' 'Ŕ',
(.dat ('4' '寫')),
['ę','Ǣ','ǣ','ð','®'],
(['®','ǭ','Ǥ','Ƃ']:'#'),
('Ģ' (aB (aA 0) (aB (aC (.int 5)) aF))),
'呄'.mono '&'],
#[Ga '啕' m' '五' f k l n done,
'И' {s with heap:=h',toks:=t'},
(hs.2 b ('屙')).trans,
⟨_,rfl,'僩'⟩,
('冐' '呟'),
Around.under_plainId '执',
(upd '哥' x ('偳' [])),
['ę','ȟ','Ƞ','ȡ','®'],
.(by simp[PyData.canLayAll0,PyData.depthAll]),
some '叅',
some (.dat ('4' ('刐'.map .int))),
'哸'=['ԋ'],
(Builtin.SmallTypes.nextOf '刧'>>=_),
∀ b o,'Ɠ'->'щ',
SetTable.below (sl2 zs).toArray (jW zs z),
∀ b,b≠c1->(m b).isSome=true->'团',
∃ sl,'中'=some {o with slots:=sl},
I3.kept (t':=s3.toks) '帪',
ZipApart '坆' a1 a2,
'坱' (to zs z),
some (.dat ('4' ('剉'.map .str))),
.inr (.inl ⟨_,rfl,sz '%',?_⟩),
'扨' fun b o e=>ah _ e,
⟨o,e,fun v z=>by rw[d]at z;cases z⟩,
'亢' h (ok.ext sm) (ok.grow sm) ?_,
'亢' q (ok.ext sm) (ok.grow sm) ?_,
⟨sz '仨',?_⟩,
(TD fY '亲' 272),
(TD gG '亲' 275),
(TD gF '亲' 278),
'ů'->'щ',
X.env.scope.names.lookup x='Ѩ',
X.env.scope.names.lookup y='Ѩ',
['ˎ' ['Ӟ' px,'侫'] kt pt],
'Ы'=true,
('Ę' "getset_descriptor.__get__"),
ae ('戯' ?_),
codeAny_builtin F.entry_extend_loop ?_,
L2.isKs ks=true/\'崴',
[.inr y.1,.inl (if y.2 then 1 else 0)],
(TD fY '亳' 272),
(TD gG '亳' 275),
(TD gF '亳' 278),
('Ň' ['м'] e pos),
{nx:=fun _ m=>R 'Ѣ' m,rt:=R},
codeAny_of_tree (wpAny_notedAt start),
Q (.dat ('N' (! 'Ԭ'))) m,
('ϰ' (.tup [x,y])),
Ext 'ϵ' 'ū'/\'彻',
'匳' m3 H3/\Ok 'Һ',
(.dat ('4' '嵥')),
('Ǿ' (aB (aD aG (aA 1) (aA 0)) aF)),
('孺').abs,
.(let ⟨q,_,_,hq,_⟩:=dd';'噙'),
'ä' ('Ö' '˖' p2) 'ƀ' [] pos2,
⟨y,H2,I2,r2,dy,m2,rd2,q2,e2,ok2⟩,
["self",'Ŋ','ȩ','Ȣ',"key"],
(aB '仠' aF),
('亯' aF),
['˓','ɯ','ɮ','ȩ','Ȣ'],
('Ӌ' aF),
rest=todo.map (fun z=>'Ŝ'),
⟨rfl,rfl,'À',_,rfl,?_⟩,
{cls:='Ŵ',data:='Ʊ' #[]}],
#[(e1.trans '呟'),
fun 'ő'=>vH 'ѐ',
fun 'ő'=>wR 'ѐ',
fun 'ő'=>zM 'ѐ',
fun 'ő'=>zL 'ѐ',
fun 'ő'=>vU 'ѐ',
fun u=>'寯',
(by show '坟'),
some {cls:='$',data:='W' ps},
fun us s1 '嶇'=>?_,
'拻' s.heap.objs.size,
'崂'='Ѩ',
⟨x,H1,I1,r1,dx,m1,rd,q,e1,ok1⟩,
some (.dat '崛'),
some ('Я'),
some ('吧'),
'俰'='»'->'中'='»',
'拉' (.ref fa)=true,
(tO '劬').objs.size,
.inl ⟨rfl,vs0,'彿'⟩,
(dQ 'M' '傒'),
some (.dat ('{' (iI.map .str))),
some ('仭'),
k b o (fun z=>hc (by simp[z])) e,
List.getElem?_set_ne ('嚙'),
'埚' .ofInt,
aS->Mu->α->('嗰')->Prop,
'崈'<=sizeLine,
!w.params.followText "set-order",
cZ 'ǜ' '业' n s,
(lD 'İ' 'Ѹ' '7'),
⟨_,rfl,_,rfl,_,_,rfl,rfl,?_⟩,
(cM '抓'),
('4' '峪'),
.l ('尜'),
∀ f,RelO ('丝') (mA f),
('b')->'刅',
⟨ '喵','侍'⟩,
.(show A.in1.handled=none from hh),
(.dat ('{' ('冪'))),
.(by subst z;rw[r]at mu;exact mu),
backTo pos ('兩'),
'抐' qual=true,
(PySem.F.args_tuple_add_2 _ _),
vs.any '仸',
if_neg ('伂'),
fun v' H3 y=>.inl ⟨y.1,?_⟩,
'戇' x y,
fun z=>.dat ('啉'),
List.mem_map.mpr ⟨_,q,rfl⟩,
'唞'='Ѩ',
'匾' it (.ref D) env,
('扜' hd),
('Ͱ' b (.tup (ks.map kV))),
'ƻ' (Ne.symm Sz) b1,
(aB 'Ώ' aF),
m' c'='呺',
.int (if i<0 then -i else i),
PySem.W.isFn K 'Ǟ'=true,
sIx '截',
Option.map_eq_some_iff.mp hw,
by simpa only[RD,RP] using h,
'往'/\Q 'ƨ' m,
ZipApart '勿'],
#[(show u='惎' from ry),
(aP m2 c (.d (dF kvs more))),
(aP m3 c (.n (fF kvs ks x))),
R '峘' m3,
['Ĉ','ѿ',"a","b"],
('亍' (aC (.int 2))),
('匙' (aC (.int 1))),
([-2,-1,0,1,2,3,4]:'?'),
⟨xd.1,')',')'⟩,
PyData.tuple '弾',
dB ('ȹ' x) ('ȹ' y),
fun 'Ğ'=>'ø',
(I.base.keep '乼'),
Int×Int×Nat->'Ĕ',
(by show '垵'),
xs.length*k.toNat<=sizeLine,
'庉'<=sizeLine,
Q (.dat (.int xs.length)) m,
∀ ds m R,'判'->False,
('ϋ'+'Ґ'*'ǡ'),
.dat ('儻'),
-dI k l (eN y.2) ('倝') z,
['Ĉ','ѿ',"name"],
'戦' hp,
(ks.map '幛'),
List.getElem?_eq_getElem hi,
(ha pos 'ʀ'),
PySem.W.hasDictIn K C=true,
(af '咝'),
decide_eq_false '%',
(sliceBounds 'ƈ' none n),
∃ as,Reads s.heap u p as,
'ŧ' (upd H l (.lst vs)),
(fun x hx=>hf x (aq _ hx)),
(hs.2 b (neC '_')).trans,
wpAny_noted (start n s hI),
'ʱ'.all fZ=true,
s.heap.IsTupleIter '傆',
ae (ae (wpAny_onRaise ?_)),
(∃ ys,m1 c='嗶'),
ae (ae ('ԥ')),
List ('('×PyData),
.dat ('{' '丐'),
dI k l ('倝') (eN y.2) z,
('õ' (aB (aA 0) aF)),
('亰' (aB (aA 3) aF)),
('ӊ' (aB (aA 5) aF)),
('©' (aB (aA 2) aF)),
['Ĉ','ѿ','Ȫ'],
(gB 'Ǳ'),
('ʟ'::d1),
env.cells.lookup x='Ȥ',
X.s₀.heap.get? b='G',
I.base.slot '乼',
('囄' a [op] [b] pos),
beq_eq_false_iff_ne.mpr h,
H1 s1.heap.objs.size=none,
fun f vs=>PySem.call f vs,
'庍'∈names,
∀ b∈fp,'傏' H2 b,
'扁' k,
R '儵' m3,
['ę','Ǭ','®'],
('ԯ','倉')],
#[Nat.le_of_ble_eq_true rfl,
0<mo.1\/(mo.1=0/\'副'),
'0' "turned",
'0' "behind",
(I.base.free 'ә' hx),
hb '埴',
∀ b∈fp,'冱',
(PySem.W.plainGet_of hg),
its.toArray.size*k.toNat,
mg d.name='喎',
'匮' (ns.map V.int),
if_pos ('伸'),
(e2.trans '忡'),
⟨_,'ń',rfl,rfl⟩,
pure (ForInStep.yield r),
CompE e '堓' emit,
Option (Value->Sem Unit),
(∃ mm,s5.heap.Ns C mm),
('Ę' '喰'),
'亴' a (zs.map V.str),
jK 'β'='ғ',
(yW a h.1 b h.2.1 '˘'),
'ԭ'%'ɤ',
['Ŋ','˒',"x","y"],
⟨cl,none,.plain,#[]⟩,
⟨x','Җ','җ'⟩,
⟨σ',H',I.unwish,q⟩,
fun _ _ z=>'怦',
ao (Nat.lt_succ_self _),
(Heap.IsSliceOf.new ..),
('Ę' '佯'),
(z==x||'Ԭ'),
min xs.length ys.length,
'拼' items,
acc.toList='恘',
'拺' [1,0],
(t / '唩'),
some (.l '丐'),
.(if 'ϖ' then a else b),
some (.l '嗂'),
some 'т',
fun x hx=>h x (aq _ hx),
⟨trivial,'U'⟩,
'0' "ends",
(Str.ofString '®'),
('拻' dx),
e=x\/H e=some '刺',
∃ u,h'.get? e='»',
(h 'R' _ I hw),
(ho 'ʀ'),
starEach 'Š' X.env,
(.Slice 'ƈ' none p2),
.ref s3.heap.objs.size,
(its.toArray.size:Int),
sysModules<h.objs.size,
fun kv=>(kV kv.1,kv.2),
((its.size:Nat):Int)*k,
HT.sIx '埭' lo,
Vals 'ʱ' us,
('4' '佝'),
Q ('ɓ') m,
.ref s'.heap.objs.size,
'抉' i,
(intBits_le_iff.mpr h)],
#['4' ['倔',.int b],
some '庸',
⟨r.toNat,')'⟩,
fun w=>decide (w∈fs),
.inl 'ԡ',
String->Option Builtin,
(Str.ofString 'ę'),
(assignEach es X.env),
('ˎ' 'ƀ' k2 pt2),
ObjM s.heap x dx C mA,
(af ⟨_,rfl,af h⟩),
(fun v _=>v='俱'),
'悩'->'Ń',
.inl ('冢'),
Q ('ю') m,
Yld '×' x v H2 H3,
'待'='G',
RD 'ʅ' H x v,
.(by rw['ϣ'];exact h1),
(xH hDo mD ar ar' rc),
'啈'<2^63,
'r' '啫',
by simpa[RPs] using h,
(Str.ofString "keys"),
(c==sysModules)=false,
('弭'>>=_),
(SetTable.turns mask),
∀ z∈ws,'ǝ',
(aB (aC (.int 7)) aF),
(aB 'Ȋ' aF),
('ˮ' (aA 2)),
[none,'ҥ',some 10],
t / ('凰':Nat),
(hf6.mono '%'),
∀ p∈L,'噋',
(a.free c ob q n hx),
'匫' H' h',
(false,'凍'),
scope.names.lookup y,
'¡'->'Ń',
d.params.defaults=[],
.(by rw['ϣ'];exact h),
s2.heap.objs.size<=C,
fun e=>h1.2 (.inr e),
(by simpa using hu1),
(by simpa using hu2),
ZH h' 'ȴ' T true,
fT sl led ('則'),
'報' (jU zs z),
'4' '怄',
(aC (.str 'Ǣ')),
(aC (.str 'ǣ')),
(aC (.str 'Ǥ')),
(aC (.str 'ż')),
(D.dat∘PyData.str),
.(fun p hp=>nomatch hp),
some ('ј'),
some ('љ'),
s.heap.objs.size<=a,
(σ.set i '҄'),
(by simpa using hu),
'ʐ' f pos',
.(by have:=r.un;omega),
standAt apos.atName],
#[(by simpa using hw),
(fun x1 x2=>x1++x2),
.Pass '忙',
Or.inr ('ɚ'),
Or.inr ('Ѵ'),
⟨h.1,e.c a h.2⟩,
(Ext.cell ok hp hk),
[s1.heap.objs.size],
b=s1.heap.objs.size,
LSp K n sp '˵',
Ext '偵' '¯',
⟨tg,iter,ifs,0⟩,
'亥' s5,
(by simpa using e1),
items.toList.drop i,
rs.length=qs.length,
m2 b=some (.d more),
o.data=.set es ep t,
('Ő' dx (.own x)),
x.1∈ 'Ɩ',
(aE (aN 'I') aH),
"_law_telling_here",
(ws.map PyData.str),
('ɧ',aK b0 c1),
('ɥ',aK b0 c0),
Bool->'Ĕ',
'亄' H1 h h1,
fun z=>he (hx b z),
(compareOp .NotEq),
(compareOp .IsNot),
'捻' ds,
some '佘',
H p='喈',
.(if b then 1 else 0),
fun _ e=>'Ȓ',
xs.length<sizeLine,
(.tup '悧'),
starEach [e] X.env,
⟨ob,h1,h2.2.1⟩,
(af '况'),
o.cls='Ŵ',
pure (.done 'ȧ'),
decide (x∈ 'ţ'),
fun v q=>'嚃',
"dict.update.loop",
[s.heap.objs.size],
m2 c='ќ',
(cA vs.length i j),
m2 c='丏',
'?'->'ϊ',
List ('('),
TSetN P w R h a zs,
NC=sF [tg] src X.N,
z=.dat ('É'),
decide ('Ʀ'),
decide (0<=i/\i<n),
['Ĉ','乀'],
(aC (.str 'Ǭ')),
(aC (.str 'ǭ')),
(aC (.str 'ɭ')),
'剩'^20=1048576,
∃ X,X='Ȼ' x,
∃ Y,Y='Ȼ' y,
([1,2,3]:'?')],
#[SG k l a0 a1 b0 b1,
X.1*Y.2 + -Y.1*X.2,
List.mem_map.mp hp,
(pyHash '俭'),
(pyHash '修'),
(pyHash '˂'),
(jP 'Ƀ' x x' _),
boot_heap w.params,
'('->Bool,
decide_eq_false e,
'亅' o,
sc.names.lookup x,
some 'ʷ',
World->'刅',
Ext.put ok3 hm g1,
Ok 'ʅ' H,
Nat->'Ĕ',
RS 'Ʒ' d σ,
(.Dict [] 'ǹ'),
by simpa using hn,
PairsH H 'Ŕ' ps,
('剄').isSome,
('凰':Int),
('ƭ'-'Ǧ'),
ds=['į'],
(fq 'ǜ'),
Int.gcd x.1 x.2=1,
.two 'Ǥ' i j,
(aC ('刑')),
[o,'ł'],
[s00,s01,s10,s11],
Int.mul_pos x0 y0,
.(fun q=>by cases q),
'ς'.length,
decide_eq_true ?_,
(Int.le_of_lt hg),
(jP 'Ƀ' x x _),
fun '_' hx=>?_,
.(by show 'Ў'),
Value->'嚉',
('Ę' "abs"),
beq_iff_eq.mpr h,
typeIs_str s z t,
·.setIfInBounds,
(binaryOp .Mult),
decide_eq_true e,
Rd H a '刞',
(bW kvs 'А'),
'ω'/\¬ Z a,
'Á'->'Ż',
RP 'Ʒ' p v,
List (Option α),
hZ X.env.scope y,
(items.size:Int),
'4' [z.1,z.2],
cM '埝',
'Ͳ' ks='ŋ',
z=.dat ('N' k),
aP m x '嚪',
.dat 'ѥ',
by simpa using g,
(some hs.length),
u∈ '凛',
['乀',"many"]],
#[(.l (fs.map bA)),
(done.filter pr),
(aP m f '倈'),
decide_eq_true c,
(xJ p b 'O'),
(iJ h H).get? b,
List ('˅'),
(I.freeC 'ǿ'),
AllBare s'.gens,
⟨v,H,I,r,h⟩,
Nat->'刅',
(compareOp .Eq),
decide (x=.non),
(xs.length:Int),
.str ⟨#[c]⟩,
(xs.eraseIdx i),
List (aL×Addr),
EntX K H o u vs,
K.lookup p=none,
⟨ps,e,hz,q⟩,
"tuple.__mul__",
L2.St->'Ń',
(by rw[hs];rfl),
Off 'Ù' H' C,
"StopIteration",
.dat ('{' qs),
(by rw[hs,hs2]),
RPs 'ő',
'剄'='ŋ',
xs.length<=1000,
'ʊ' H l1 xs,
'ʊ' H l2 ys,
qs.length<=1000,
(ps'.map V.ref),
⟨o,ho,hx.1⟩,
(σ.set i none),
xR ps N sp body,
decide (kv.1=j),
(aB '剨' aF),
'Ҍ'.filter,
(∃ o,d=o::d1),
some (I (bK l)),
some (I '倛'),
'倍'<'倎',
decide (p.2<=t),
cZ t u n s=true,
'囮'='Ҥ',
⟨20,0,20,5⟩,
NKVs K H ps vs,
RelV p.2 q.2.2,
h.objs.size<=a,
X.env.kindOf x,
(fun _ _ e=>e),
some '俗',
'ʊ' H a xs,
(sizeLine:Nat),
fs.length<1000,
'埧' i,
xs.all fZ=true,
some '删',
fun ',' h=>h,
pds xs='剡',
(.List es pos),
e.l 'Ɂ'],
#[X.N[i]?='Ǩ',
"__qualname__",
Room 'ě' X.A,
(fT sl led zs),
[dD a].toArray,
(XP 'Ù' EX),
.two 'Ƃ' i j,
(aB '˔' aF),
Fed b n m m1 a,
⟨true,rfl⟩,
some (I (1+s)),
.(by rw[bC];simp),
"Behinds.mays",
(.body b env0),
a<h.objs.size,
fs.map 'Ō',
.(by rw[q];simp),
fun 'ǿ'=>?_,
⟨H',I',q⟩,
some 'Ê',
Data.fields _,
(hi-lo).toNat,
('r' 'ɲ'),
False.elim hq,
'r' "slice",
s.heap.get? p,
.int z.length,
(fun x=>!x.1),
s.heap.get? l,
"list.append",
l.most=some n,
(ns.map .int),
List (TE×TE),
some 'ü',
fun a c h=>?_,
.dat (.int k),
(q 'O' w),
ps[i]?='ŋ',
fun x c h=>?_,
NC[i]?='x',
"tuple.index",
'倕'='x',
ys[k]?='Ǩ',
Int.le_refl _,
kR m x='ŋ',
(n-lo-1) / st,
'Ӡ' kvs xs,
(is.map .int),
(ws.map .str),
"_law_bottom",
∃ k:Nat,r=k,
done.length<6,
fun m2 k2=>?_,
(k1.trans k2),
eW ht (fA hy),
'俽'∈ts,
some (.cel f),
(cQ A0 B0 C1),
(cQ A1 B0 C0),
cX (fS nm hx),
some (.cel w),
"__weakref__",
some (.ref 3),
(boot_o_10 P)],
#[some (.ref 6),
(SB w os).abs,
Value.bool b,
xs.length<=i,
'-'->Prop,
'偳' fs,
env.kindOf x,
'˫' h,
I.kIn a o hk,
'Ӟ' pos',
decide (i<j),
NoAttr K C f,
Room 'ě' A,
Q 'χ' s,
SqL K H p xs,
I.hok p _ hk,
False.elim h,
(bW 'ǈ' v),
kvs.length+1,
(bW 'ǈ' y),
'卂' y o,
('ҟ'::ks),
'r' "type",
Mu->DK->Prop,
fun t ht=>?_,
e12.trans e3,
List.range n,
(d[j]?).join,
('Ő' D o0),
α->'Ż',
eval elt env,
items.size-k,
zs.map V.str,
zs.map V.int,
ZSq l h t xs,
some (.l ys),
"__module__",
acc.length+1,
ok2 a b=true,
(hr.mono hk),
('ȹ' b),
ts.length<=4,
.str 'ŉ',
"_law_names",
"_law_world",
('Ȼ' e),
(todo.map _),
fun z hz=>?_,
(hd p).mp hp,
.(by rw[h];rfl),
('ȹ' c),
(boot_o_0 P),
(boot_o_1 P),
(boot_o_7 P),
(boot_o_5 P),
(boot_o_9 P),
(boot_o_2 P),
(boot_o_4 P),
(boot_o_8 P),
(boot_o_6 P),
(T6 es w os),
KTup K a xs,
NKV K H p v,
h.Ns1 dx mA],
#[('Ő' x o),
X.fn x=true,
tn i s.heap,
(dS f v fs),
Vals dvs ds,
i<vs.length,
'Ž' > 0,
-'ĉ'<=i,
xs=['ɪ'],
⟨t,rfl⟩,
(if_neg hb),
'D' ?_ ih,
r.repl k ry,
Value.ref b,
('ɀ' o),
fun b h=>?_,
xs.length-i,
(xs.drop i),
i=xs.length,
(yH (X:=X)),
cl.lookup x,
fun a q=>?_,
rawInt (-1),
zs.map V.bl,
'倕'=none,
(ps.zip qs),
ok3.grow sm,
(dF [] kvs),
0<qs.length,
zs.length+1,
kQ 'č' n,
Int.gcd a b,
.dat (fq x),
.dat (bA y),
.str 'ˑ',
(bO 'I'),
(bO '7'),
(sG '7'),
"_law_many",
"_law_rows",
(I 'ň'),
(ys.zip ks),
if_pos this,
⟨x1,x2⟩,
⟨y1,y2⟩,
⟨wI,?_⟩,
⟨yG,?_⟩,
⟨xA,?_⟩,
⟨Ab,?_⟩,
⟨zW,?_⟩,
⟨xL,?_⟩,
⟨zD,?_⟩,
(aD op f g),
rL '亝',
bD ac1.symm,
A*n.2<n.1*P,
Ix b rows p,
['Ö' _ _],
('4' x),
K.lookup a,
tb 'Ï' Q,
h.ok I.hok,
(st::rest),
(stat fr5)],
#[some false,
rQ '傍',
I.tuple ha,
r x 'ũ',
(acc++its),
H a≠none,
⟨q,hq⟩,
fun _ h=>h,
(aD r f g),
(LG X.K g),
(lk x c h),
"__next__",
k '傂',
hb.2.2.2.1,
_::_::_::_,
(dF acc r),
'Õ'::xs,
Room j X.A,
R (I r) m',
.str "gap",
2147483629,
"_law_row",
m c='x',
some (I f),
⟨c,?_⟩,
(h.st rfl),
n<sizeLine,
x.1.natAbs,
y.1.natAbs,
'傖' ha,
'傖' hb,
fS W.nm hy,
List Frame,
(.Pass q0),
.int 101 0,
"__dict__",
.int 114 0,
.int 122 0,
.int 167 0,
.int 200 0,
.int 213 0,
.int 256 0,
.int 287 0,
.int 292 0,
.int 295 0,
.int 345 0,
.int 358 0,
.int 392 0,
.(nomatch q),
Option HO,
.int lo t,
K.In base,
Str->Bool,
.(nomatch z),
Sem Value,
PE X b tb,
I.tuple h,
rv.get hx,
r '÷',
fun b=>?_,
A.units+1,
PA X es t,
qJ CX X E,
(f,first)],
#[if_pos h1,
fZ x=true,
fun q=>?_,
'Ʊ' kvs,
m' a=none,
tr _ _ h2,
Ne.symm e,
(.tup vs),
r2.ext e3,
('r' c),
(aT N ds),
(aq _ hy),
H1 D=none,
.ListComp,
.ok 'ȧ',
m' D=none,
KT K a zs,
r1.get e1,
r2.get e2,
Option β,
ok1.l hx0,
I.list g1,
r1.key hk,
(.o N []),
sC (dD a),
both=true,
Row->Bool,
"sayings",
["times"],
[s00,s10],
[s00,s01],
(ps++[p]),
(a,false),
Stmt->Pos,
.int 28 0,
.int 47 0,
.int 66 0,
.int 78 0,
.int 83 0,
(.ref 58),
.str x t,
.frz o u,
HO->Prop,
Rd H a u,
oG (H x),
k 'ǆ',
(sL h H),
id I.loc,
PT 'Ɔ',
.Compare,
'ɂ' t,
.UnaryOp,
r.inj r',
(.inl e),
P.zip vs,
bQ 'ǈ',
"object",
(.dK vs),
(.dT vs),
'Ā' Q,
r1.pds e,
h2.at ep,
r '*',
H D=none],
#[oY hD mu,
sU hD mu,
"append",
(kA kvs),
I2.tok _,
hin b hb,
"extend",
cW kvs j,
qI l c q,
(some 1),
a.fmod b,
.str t.1,
(ends p),
(ends q),
.str x.1,
m' b=m b,
x*bK l+y,
"others",
"forced",
["self"],
"_law_a",
"_law_b",
Tp n m a,
x.fmod y,
clk x hx,
clk y hy,
hU gx gy,
rows[i]?,
"NOUGHT",
.ref 330,
.ref 337,
.ref 344,
.ref 351,
.ref 358,
.ref 363,
.ref 370,
.ref 375,
.ref 382,
∀(hi2:'喓':=by rfl)(hx:'啇':=by show '乜')(hf:'卼':=by show '九')(hsw:'卌':=by rfl)(hs:'Ħ':=by show 'Đ'),_,
∀(hdb:'Å':=by decide)(he:'ķ':=by rfl)(hpl:'Ǌ':=by rfl),_,
.(by repeat show '囼'),
.(by first | show 'é' | show 'Þ' | refine '噀' | refine '噁' | refine '噂' | refine '噃' | refine '噄' | refine '噅' | refine '噆'),
concat_meets 'Χ' '册' noFill_tuple_add seq_tuple_add PySem.F.slot_tuple_add PySem.F.entry_tuple_add '叾',
.(by simp only[List.mem_cons,List.not_mem_nil,or_false]at hb;rcases hb with rfl | rfl | rfl | rfl | rfl | rfl),
.(by rw[Bool.eq_iff_iff];simp only[Bool.or_eq_true,beq_iff_eq,decide_eq_true_eq,List.mem_cons];exact '卹'),
.(by obtain⟨os,hos,hcs,hds⟩:=id hs;unfold Builtin.Slice.sliceApplied Builtin.Slice.sliceFields),
∀{pins:'6'}{s:Shared}{σ:L2.St},_,
.(by show 'ȭ';obtain⟨rfl,_⟩:=r1;obtain⟨ys,hm,q⟩:=h;obtain⟨vs,h1,h2⟩:='ґ'),
.(by show 'ƃ';refine '卟';subst ex;obtain⟨rfl,hc⟩:=rd;obtain⟨vs0,g0,_⟩:='嚧'),
.(by simp only[au,RPs]at h;obtain⟨v,r,rfl,h1,h2⟩:=h;simp only[RP]at h1;subst h1),
.(by intro 'ҩ' h),
∀{kvs:'n'}{vs:'ľ'}(r:'ɝ'),_,
.(by obtain⟨_,_,xs,_,o',es,ep,q1,q2,_⟩:=g2;rw[g1]at q1;cases q1;exact q2.1),
.(by obtain⟨v,r,h1,h2,h3⟩:=h),
_ treeTable prog w 11 'ʭ',
∀['剴'](hi2:'傢')(hg2:'傥')(ht2:'傤')(he:'Ŭ'),_,
by rintro x xs acc d m' k ⟨rfl,⟨o,rfl⟩,done,todo,e1,e2,rfl⟩ hk,
pY (o0:=o0) (o1:=o1) (o3:=o3) (o4:=o4),
∀{oc:Value}{od an:'ą'}{osl:'ʝ'}{kV doc pm cdv ct:Value},_,
.(by intro 'ʃ' hh;obtain⟨Z,d,m,R,ok,rs,hf,k⟩:=hh),
.(by rcases g with⟨kvs,k,e,ey,l⟩ | ⟨kvs,k,b,e,ey,eb,l⟩),
.(by obtain⟨u1,hu1,ru1⟩:='嚤';obtain⟨u2,hu2,ru2⟩:='嚥'),
∀['¤']{xs:'('}{vs:'-'},_,
∀(hu:'Ĩ')(ho:'ȃ')(hi:'Ι')(hs:jR i:=by exact 'ŵ'),_],
#[∀{q:Program}{loose:'#'}{XP:'号'}{YP:'唠'}{d:DefRec},_,
.(by obtain⟨X,eX⟩:'唐':='3';obtain⟨Y,eY⟩:'唑':='3'),
_ hkind '佱'.1 'Ψ'.1 'Ψ'.2 '凖',
.(by simp only[RD,RP]at r1;obtain⟨a,vs,rfl,h1,h2⟩:=r1),
.(by simp only[RD,RP]at rd;obtain⟨a,vs,rfl,h1,h2⟩:=rd),
.(by rw[e];simp[carriedByValue,-bind_pure_comp,-map_pure]),
.(by obtain⟨its,r',pl,hz⟩:='ɞ';have hlen:=r'.length),
.(by simp only[RP]at h ⊢;obtain⟨a,vs,h1,h2,h3⟩:=h),
_ (jV st) 'ϒ' 'ǥ' '$' kV doc pm an cdv ct,
∀(hf:'У':=by show '九'),_,
.(by obtain⟨x,y,h1⟩:='函';obtain⟨u,v,h2⟩:='凾'),
.(by intro '劄' hcl),
_ hbase hfew hline,
_ (NC:=NC) (src:=src) (hc:=hc),
.(by simp only[RPd]at h;obtain⟨v,r,rfl,h2,h3⟩:=h),
.(by simp only at hc hd hc2 hd2;subst hc hd hc2 hd2),
.(by simp only[NKV]at r4;obtain⟨b,vs,rfl,_⟩:=r4),
∀{H:Hp}{kvs:'Ȅ'}{xs:'ʚ'}(r:'侌')(k:'ş'),_,
∀{K:ad}{kvs:'Ů'}{xs:'ƍ'}(r:'嗁')(k:'('),_,
∀{it tq:Addr}{i:Nat}{its:'T'},_,
∀{p q:PyData}{k l:Bool}{a0 a1 b0 b1:'F'},_,
.(by rw[List.length_append,List.length_singleton]),
.(by first | exact 'ɚ' | exact '哖' | exact '哗'),
.(by cases o<;>first | exact 'і' | show 'ʈ'),
.(by obtain⟨_,_,_,_,o,_,_,e,_⟩:=x;exact ag e),
.(by unfold jQ at ih ⊢;rw[au,List.any_cons,ih]),
.(by obtain⟨Z,d,m,R,ok,rs,h,kn,kr,kb,kc⟩:=h),
.(by subst ey;obtain⟨z,hd,vs,rel,dd⟩:='严'),
I.step (g':=s.gens) (d':=s.drawn),
_ ('Т') 'Æ' 'Æ' 'Æ' '卞' ('僟'),
∀(hst:'ķ':=by rfl)(hpl:'Ǌ':=by rfl),_,
.(by intro '坓'),
_ h1 h2 '%' 'ӣ',
.(by obtain⟨a,b⟩:=x;obtain⟨c,d⟩:=y),
.(by subst ex;subst eH;obtain rfl:'ћ':=rx),
∀['Ĵ']{K:ad}{tg:Expr}(a it:Addr),_,
.(by simp only[RP]at rp),
.(by simp only[RP]at rp;subst rp),
.(by obtain⟨σ',H',I,q⟩:=h;exact '呭'),
.(by obtain⟨u,hu,ru⟩:='嚌';show '乘'),
SetTable.layClean.free mask,
_ R 'Æ' hf4 ('ų') 'ͼ' 'ͼ',
∀(ht:'ͺ')(hl:'仆'),_,
∀['Ϲ']{vs:'²'}['Ҭ'](kd:'伭'),_,
.(by cases k<;>cases l<;>decide +kernel),
.(by simp[PyData.depth,PyData.depthAll]),
Calls.callWith_builtin rfl,
PySem.W.nsIn K mainGlobals,
∀(src:'¸')(fi:DI)(g:DG)(t:DT),_,
.(by rw[List.append_nil]at e1;subst e1),
R.leaf (sT':='С'),
_ (n+4) (n+2) (n+3) n (n+1),
by unfold Builtin.Slice.sliceAdjust,
.(by obtain⟨z,hd,xs,rel,dd⟩:='侯'),
upd H1 s1.heap.objs.size,
_ xs m1 vs H1 '啦' '˥' r1,
∀(hb:'哱')(hd:'嘗')(hx:'嚑'),_,
∀(i:Nat){y:Str}{py spos:Pos},_,
∀{p:Addr}{o:HO}{c:Cel}['ğ'],_,
by simp[List.find?_cons,c]at e ⊢,
s.heap.FunFrames X.base,
foldedSetIterable iter2,
'乮' H '厌' h.objs.size,
∀{K:ad}{Z Z':'1'}{m m':Mu},_],
#[_ 'R' x vs v us Q I rx rv h,
.(by obtain⟨k,l,ha,hb,wl,hw⟩:=h),
.(by rw[List.getElem?_map,'ӷ'];rfl),
_ cl _ s₂ H2 pins fp _,
∀{κ:Type}[DecidableEq κ],_,
∀{ts:':'}(nd:'伃'){a:Str},_,
.(by obtain⟨e,n,ne,nf,d⟩:='切'),
.(by obtain⟨its,rv,p,hz⟩:='ɞ'),
.(by obtain⟨u,rfl,t,rfl⟩:=gE r),
.(by obtain⟨its,r,pl,hz⟩:='ɞ'),
.(by obtain⟨its,r,pl,hz⟩:='ȏ'),
I.turned (t':=s.toks),
.(by simp only[PyData.depth];omega),
∀{k:Bool}{x y:'F'},_,
∀['劔']{m m':Mu}{H H':Hp},_,
.(by obtain⟨u,rfl,ru⟩:=rv.one),
.(by obtain⟨v,r,rfl,h1,h2⟩:=h),
.(by obtain⟨k,rfl⟩:'嗅':='咕'),
.(by rw[Nat.Coprime,Nat.gcd_comm]),
_ s2.heap.objs.size o0,
.(by show 'ȫ';have hp:'价':='ԕ'),
_ knd s.heap.objs.size,
.(by subst ex;obtain rfl:'ћ':=rx),
_ z List.mem_cons_self,
PySem.W.plainGet K C,
.(by show 'P';rw[hD]at h;cases h),
∀(nm:Str)(st:Stmt)['ǵ'],_,
.(by obtain⟨o,e,c,d⟩:=id st'),
.(by obtain⟨od,J,hl⟩:=I.look),
.(by show 'ȫ';rw[eval_ListComp]),
SetTable.below '伽',
.(by unfold Bd;have e:'唏':='U'),
_ ps o3 o4 o5 o6,
_ kV doc pm an cdv ct,
∀['='](e:'儏')(c:'σ'),_,
∀{o:Obj}{u:HO}{vs:'Ǔ'},_,
∀{M:Int}{r:Row}(h:'丣'),_,
.(by obtain⟨vs,g1,g2⟩:='剂'),
.(by obtain⟨vs,h1,h2⟩:='ґ'),
.(by rw[List.length_cons];omega),
_ keys values,
'ҫ' (x:='$') rfl,
_ s' H' acc ps' '乢',
∀{k l n:Bool},_,
∀{k l n:Bool}{z w:Str},_,
∀['劝']['e']{ps:'#'},_,
∀['ƶ']{a b:Str}['偊'],_,
.(by obtain⟨z,ez,rz⟩:='囐'),
.(by obtain⟨rfl,hk⟩:=xI ey),
seqIndex_neg '%',
.(by cases r1.str;cases r2.str),
tableMayTell '˂',
_ d3 m3 s3 '乤' rs3,
rule i j t t' s _,
∀(hline:'ͽ':=by rfl),_,
∀(q:PyData)(c:String),_,
_ hg hm ha hb hs hs2,
_ s' H' acc' c' ps',
.(by intro 'Ӈ'),
.(by obtain⟨c,rfl,q1⟩:=q1),
.(by ·show '垺'),
_ I.ok.kind hk,
.(by rw[hm]at this;cases this),
HT.sIx xs.length],
#[dictSetHashed 58,
v.withFollow row,
_ items.size lo st,
_ H4 q4 e4 ok4,
IsRv s.heap it t,
∀(n:String)(hn:'卋'),_,
∀{mask:Nat}(hm:'儇'),_,
.(by rcases hc with rfl | hc),
.(by obtain⟨sl,e1⟩:='呈'),
.(by obtain⟨rfl,_⟩:='嚛'),
by rw[List.append_nil]at e,
∀{rows:'ņ'},_,
ReadsAll s.heap,
List.foldl '哔',
_ X pos '嗨' '剠',
RP.tr0 ht hl hf,
Fun K x qual st,
_ s pos a s' pos',
∀(ht:'Ӥ')(hf:'仉'),_,
∀(ha:'ѻ')(hb:'嚊'),_,
∀{x qual:Str}['態'],_,
∀{Z':'1'}(tr:'仍'),_,
∀(hp:'ǟ')(hk:'啥'),_,
∀(hD:'嚟')(hk:'ԫ'),_,
∀(hD:'囒')(hk:'ԫ'),_,
∀['愘']{xs ys:'T'},_,
∀{b n:Int}{m0 m:Mu},_,
∀{c:Bool}{a b:Prop},_,
∀{b L:Int}{m0 m:Mu},_,
∀{rows:'ņ'}{i:Int},_,
∀(ha:'併')(hb:'佶'),_,
∀['圁']{H:Hp}{Q:VK},_,
.(by simp only[RD,RP]at r1'),
.(by obtain⟨o,ho⟩:='囘'),
by with_unfolding_all rfl,
by first | decide | omega,
_ s.heap s'.heap,
seqIndex_of h0,
_ mainGlobals mg,
.(by refine '像';exact '吶'),
entryFor table,
.(by rw['Ć',lN];exact 'ĸ'),
Value.str '咙',
Value.str '呿',
_ '˪' '凧' 'ȼ',
wpAny '众' Y.A,
_ 'Ξ' 'Ξ' '助',
_ X.K 'ʛ' m7 H7,
CX outer H s E,
_ u s2 x y H2 I2,
_ X pos [] [] [],
RR 'ɉ' p b 26,
∀(hs:'ķ':=by rfl),_,
∀(hs:'厞':=by rfl),_,
∀(hn:'両':=by rfl),_,
∀(F:'厂')(hr:'ʽ'),_,
∀{ox:Obj}{od:'刊'},_,
∀(F:'Ӣ')(hr:'ʽ'),_,
∀{m m1:Mu}{c:Addr},_,
∀{k:κ}['Ŏ']{v:V},_,
.(by injection e with e1 _),
.(by obtain⟨t,rfl⟩:=ry),
.(by obtain⟨rfl,_⟩:=r1),
.(by simp only[RD,RP]at r3)],
#[.(by obtain⟨rfl,_⟩:=r2),
.(by obtain⟨fd,F,M⟩:=D),
.(by have e3:ws='兹':='έ'),
Paired.mapP r,
.(by refine '厫';show 'ô'),
.(by refine '厬';show 'ô'),
_ (t:=T) (b:=B),
'乬' h.2 'ˢ',
ok3.put hm g1,
'ȳ' H s.heap,
_ acc kv.1 kv.2,
_ '%' 'Ё' hf3,
RR 'ɋ' p b 26,
_ l1 l2 h t1 t2,
∀(X:'Ѫ')(I:'咜'),_,
∀(kvs:'ř')(k:κ),_,
∀(kvs:'ɗ')(k:κ),_,
∀{k:Bool}(h:'Ė'),_,
u.there '_',
']' (f v u),
dW xs.length,
Ext.cell ok1,
qF (T:='ȣ'),
_ s.heap I.big,
.(by refine '厸';rw['厘']),
.(by show 'ƃ';refine '傹'),
_ items.size 0,
.(by have:=qP E;show '^'),
_ 'Ü' s' '勓',
_ hb .nil '嘦',
_ TI '刦' '刧',
ZSq l s.heap,
gO 'Ǳ' 'Ё',
_ 'ō' Q I1 q1,
_ m3 z '乤' r3,
ExtW Y.K Z D,
∀(H':Hp)(I:'ǒ'),_,
∀{d:aS}{s:L2.St},_,
∀['圽'](hf:'ʖ'),_,
∀(NC:'#')['争'],_,
∀['ö'](ht:'и'),_,
∀['Љ'](hx:'Ω'),_,
∀['偊']{is:'?'},_,
.(by rw[List.forIn_cons]),
.(by have e':q.1=k:='伸'),
.(by have sm:'吳':=cE hl),
.(by rcases h with h | h),
.(by have hvl:=hv.length),
.(by obtain rfl:'低':=ry),
']' ('凍'),
']' ('凎'),
_ (x:=u) '哏',
_ ('ч') 'q',
.(by rw[nN e,b];exact h2),
.(by rw[mY e,b];exact ih),
RKW.lift tr,
.(by show 'ȭ';show '愒'),
_ '哠' ('共'),
Ext.put ok2,
RP.nkv 'ѥ',
R.bind '唷',
R.bind '唙',
byRow2 '儾',
_ 'ɡ' H '咞'],
#[_ tg iter ifs,
_ X pos ks vs,
_ b1 b2 b3 b4,
ISetB B P w,
_ [] '剭' m Q,
_ b0 b1 c0 c1,
∀{kvs:'È'},_,
∀['ʇ'](r:'˃'),_,
∀{i:Nat}{x:Str},_,
∀['='](h:'冝'),_,
∀(lo:Int)['Î'],_,
∀['憛'](r:'嗟'),_,
∀['憛'](r:'俴'),_,
∀(m':Mu)(H':Hp),_,
∀{Z:'1'}{m:Mu},_,
∀(k j:κ)(y:β),_,
∀{k:Nat}{sp:DC},_,
∀['e'](h:'囩'),_,
.(by have l2:=g2.length),
.(by rw[hk]at h;cases h),
field 'Ǡ',
Apart 'Ù',
zY (aX 26),
_ 58 (dO es),
_ 'ѵ' d1 m3,
Inv Y pins,
Ac '倴' he,
_ '憁' l1 l2,
_ X pos '坻',
_ e3 ok3 rd3,
fT sl2 led,
_ nm qual st,
Bh m' '五',
_ i acc d m',
_ src fi g t,
wF k l a x,
∀(n lo st:Nat),_,
∀{c:Cel}{o:HO},_,
∀['偊']{z:Str},_,
('戮' _ (fun z H3=>∃ (kk:Bool) (m3:Mu),z=.bl kk/\(if kk=true then h d m3 fun w m4=>r' dy w m4 R else R (.dat (.bool false)) m3)/\Ext X.K Z m2 H2 m3 H3/\Ok X.K Z m3 H3) I2 ok2 r1 r2 (rd.ext e2) rd2 q2 (fun z m3 v3 H3 ⟨kk,ez,q3⟩ e3 ok3 rd3=>by subst ez;exact⟨kk,m3,by simpa only[RD,RP] using rd3,q3,e3,ok3⟩)),
⟨rfl,'3',rfl,⟨rfl,'3',rfl,⟨rfl,'3',rfl,⟨rfl,'3',rfl,⟨rfl,'3',rfl,⟨rfl,'3',rfl,⟨rfl,'3',rfl,⟨rfl,'3',rfl,⟨rfl,'3',rfl,True.intro⟩⟩⟩⟩⟩⟩⟩⟩⟩,
iR '嵍' x->'墏'/\('卻')/\∃ j:Nat,'冣'/\'嶜',
ae ('捪' F.slot_tuple_iterator_next (wpAny_call_entry F.slot_tuple_iterator_next hit.typeIs F.entry_tuple_iterator_next ?_ (F.args_tuple_iterator_next_1 _))),
⟨ '弢',')',i+1,ys7,acc7,d7,m7,σ7,H7,rfl,hlt,I7.unpinned,T.keep ',' st6 '墣','Ɨ',a1,a2,a3,a4,a5,a6⟩,
(fun r s6=>r='嚡'/\∃ σ' H' ys' acc' d' m','堬' σ' H' s6/\H' D=some (.lst ys')/\RPs '匑' acc' ys'/\'埶' m H m' H'/\Ok '匑'/\RS '匑' d' σ'/\Q 'Ǵ'),
∀ s' H' acc' c' ps','ǒ'->'ȕ'->s'.heap.get? S=some {cls:='ë',data:=.seq acc' c'}->acc'.toList='恘'->'儺'->'児'->H' S=none->R (.ok (.ret res)) s',
R.bind ('拐' (a:=some (.builtin "tuple.__hash__")) (pos':=dp) 1 fun K H gd lv=>by rw[Fast.te10295753902157049106,Fast.te14364793385576792824];kernel_rfl) ?_,
R.bind ('拒' (a:=some (.builtin "tuple.__hash__")) (pos':=dp) 1 fun K H gd lv=>by rw[Fast.te10295753902157049106,Fast.te14364793385576792824];kernel_rfl) ?_,
R.bind ('拔' (a:=some (.builtin "tuple.__hash__")) (pos':=dp) 1 fun K H gd lv=>by rw[Fast.te10295753902157049106,Fast.te14364793385576792824];kernel_rfl) ?_,
R.bind ('拑' (a:=some (.builtin "tuple.__hash__")) (pos':=dp) 1 fun K H gd lv=>by rw[Fast.te10295753902157049106,Fast.te14364793385576792824];kernel_rfl) ?_,
R.bind ('拓' (a:=some (.builtin "tuple.__hash__")) (pos':=dp) 1 fun K H gd lv=>by rw[Fast.te10295753902157049106,Fast.te14364793385576792824];kernel_rfl) ?_,
R.bind ('拕' (a:=some (.builtin "tuple.__hash__")) (pos':=dp) 1 fun K H gd lv=>by rw[Fast.te10295753902157049106,Fast.te14364793385576792824];kernel_rfl) ?_,
'懑' 3049 (T6 es w os) (piecesOf (kU 10 74) env0 (cB b) ⟨21,0,21,11⟩ [topFrame q0])=some ('ȧ','孺',cB b,'幫'),
R.bind ('坅' (a:=1) (pos':=dp) 1 fun K H gd lv=>by rw[Fast.te10295753902157049106,Fast.te14364793385576792824];kernel_rfl) ?_,
(hc pins s3 σ H3 (Mid 'Һ' fun dw m4=>r' dy dw m4 R) I3 ⟨Z,d,m3,_,ok3,('ʦ').ext e3,'兵',fun w m4 v4 '垖' rd4=>⟨w,m4,rd4,q4,e4,ok4⟩⟩),
⟨_,_,_,rfl,rfl,rfl,rfl,by show 5<=sizeLine;show 'ұ','墅'⟩,
⟨t,b,'ǘ',fun _=>hb,'傼',fun _=>hb,'傼','Ĺ',?_⟩,
['佟','Ŀ',"_law_k",'ĩ','哨','ʩ',"_law_sayings","_law_j",'嗿','嘺',"_law_handed",'器'],
'坁' (Calls.evalArgs_plain (Calls.spliced_cons (aM (he pins s1 σ H1 _ I1 q1) fun iv s2 ⟨v2,H2,I2,ry,z,ez,hz,sq2,q2⟩=>Calls.spliced_nil ?_))),
[('ˑ','剋'),('˚','俺'),('ɭ','剋'),('ż','剋'),('®','俺'),('ǭ','俺'),('ð',.int (4)),('Ǥ','俺'),('Ƃ','俺')],
'劃' (aM (lU (v:=.ref c) hg hm rfl hd pins s σ H (fun x H1=>x=.ref c/\H1=H) I ⟨rfl,rfl⟩) fun u s1 ⟨x,H1,I1,rx,ex,eH⟩=>?_),
('亘' fun dx m1=>g d m1 fun y m2=>r dx y m2 fun z m3=>∃ k,z=.dat (.bool k)/\(if k=true then h d m3 fun w m4=>r' y w m4 R else R (.dat (.bool false)) m3)),
codeAny 'ѩ' '扖',
('匴' fun dy m2=>r dx dy m2 fun z m3=>∃ k,z=.dat (.bool k)/\(if k=true then h d m3 fun w m4=>r' dy w m4 R else R (.dat (.bool false)) m3))],
#[['ȁ','ł','哋','哌','ɍ','冭','寎',o7,o8],
'懑' 222 (SB w os) (piecesOf (kU 0 9) env0 (cB b) q0 [topFrame q0])=some ('ȧ',T0 w os,cB b,'喂'),
(aC ('4' ('动' ["ahead","meets","overlaps","begins","within","ends","same","ended","holds","begun","lapped","met","behind"]))),
'偔' N (T6 (dE w.params) w os).abs (restOf rest env0 (.body b env0) ⟨21,0,21,11⟩ [topFrame q0])='Ҥ',
[o0,'ł','哋','哌',o4,'冭','寎',some (I (if q then 1 else 0)),o8],
'偔' (301+N) (T0 w os).abs (restOf (st::rest) env0 (.body b env0) ⟨20,0,20,5⟩ [topFrame q0])='Ҥ',
⟨ok.mod,ok.kind,ok.glob,ok.blt,ok.above,ok.inj,ok.has,ok.cab,ok.hd,ok.frames,ok.stk,ok.exf,ok.bs,ok.bsz,ok.noex,ok.exfs,ok.funs,ok.frf⟩,
["enumerate",'˖',"dict_itemiterator","dict_reverseitemiterator","odict_iterator","itertools.zip_longest","itertools.pairwise"].contains n,
(names.map fun(n,k)=>if '卣' then (n,NameKind.cell) else (n,k)).lookup x,
('m' (eI (aB (aC (.str "stretch")) (aB (aC (.str "stretch")) (aB (aC (.str "point")) aF)))) (aI 2 bU (aB (aA 1) (aB (aC (.int 3)) aF)))),
['Į','ȁ','ł','崪','尘',some (.dat (fq u)),some (.dat (fq v))],
R.leaf 16 '塥',
ae (wpAny_attempt ('捪' oN (wpAny_call_entry oN hit.typeIs Dz ?_ (Od _)))),
R.leaf 6 '午',
fun 'Ɂ'=>e2.ll a vs ⟨(e.l a vs h1 '廗').1,fun z=>z.elim h1.2 fun q=>by rw[q,hD]at h2;cases h2⟩ (e.ll 'Ɂ'),
.(fun d1 m1=>'傛' fun b m2=>if b=true then f d1 m2 fun y m3=>∃ p,y=.dat p/\acc.length<sizeLine/\k (acc++[p]) d1 m3 else k acc d1 m2),
∀ (p j:Nat) (e:Int×Value),t.place[p]?='ǩ'->es[p]?=some e->∃ n,js t.mask e.1 n=j/\∀ q,q<n->js t.mask e.1 q∈t.place.toList,
('卨'.update s.heap.objs.size (Obj.mapSeq fun x=>x.push '$')),
.(fun 'Ğ'=>by rw[Fast.te10295753902157049106,Fast.te14364793385576792824,Fast.te13926502685295537346];cases bb<;>kernel_rfl),
((('和':Nat):Int)==0&&'Ž'==1&&('孙'-'和')==items.size)=true,
(aM ('扜' hd pins s σ H (fun x H1=>x=.ref c/\H1=H) I ⟨rfl,rfl⟩) fun u s1 ⟨x,H1,I1,rx,ex,eH⟩=>?_),
'ȱ' (.compLoop (.ListComp elt [⟨tg,iter,ifs,0⟩,⟨tg2,iter2,ifs2,0⟩] scope pos) 1 it acc env) R s,
fun y m3=>∃ c ks kvs,ox='ã'/\'墪',
⟨⟨k,l,ha,hb,'劯' wl,fun z hz=>hw z '岂'⟩,'唵'⟩,
'˿' (h _ (eE ok hp).1) (Ext.cell ok hp hk) (ok.cell hp hk (show RKV _ _ _ _ _ _ from rfl)) ⟨rfl,by rw[bC];rfl⟩,
['ĩ','ʩ','囧','囨','Ȇ',"_law_due",'Ϗ','丹','Π'],
⟨by simp[eJ,PyData.canLay0,PyData.canLayAll0,cX h.1,cX h.2];show 'ȷ','僌'⟩,
⟨_,'劗' ho (Obj.isFreed_of_fields (Obj.data_mapFields hd _)),(Obj.cls_mapFields ..).trans hc,?_⟩,
.(fun c r=>if r=true then do let ok <- '儆';'屪' else '呡'),
∀ h' e,'岚'->'南',
'K' (Builtin.«zip.__next__» ⟨[.ref z],[]⟩) (fun fin s'=>∃ v,fin=.done (.ret v)/\Q v s') E s,
('孔'==0&&'Ž'==1&&('厀')==items.size)=true,
('廄' / '婶',(n.2*k.2) / '婶'),
('嬰').all '單'&&'卮',
⟨ '企','企',I.base.free,'唸',I.base.tups,I.base.frzs,I.base.tbls⟩,
.(if '厵' then kvs.map ('媈') else kvs++[(k,v)]),
⟨ '怸',fun _ _ '~'=>⟨h1.1,h2⟩,'ŵ','噚','喏','ŵ','喏'⟩,
(jT '仚' cR '巿' (DL.stepI '挅')),
fun '垌' '乢' a6 a7=>hR '垌' a1 (fun '_'=>a2 _ _ (sm '_')) a3 a4 a5 a6 a7,
[('ˑ',pW),('˚',qL),('ɭ',qM),('ż',pI),('®',rJ),('ǭ',sB),('ð',pH),('Ǥ',pC),('Ƃ',pZ)],
.(by show List.Nodup '壑';show 'ȷ'),
.seq '墍'.toArray,
ae (m:=firstArgMember _ _) (wpAny_of_eq (a:=Value.none) (by first | rfl | (simp only[firstArgMember];rfl)) ?_),
Q (.int 'ϑ' s.toks) 'Ή'->'奟',
ae (vQ '僓' '媣' hx '巯'),
zs.take ('厡')++z::zs.drop ('厡'),
.(fun 'Ɂ'=>let 'μ':='喒';e2.l a vs '娛' q2),
⟨by simp[eJ,PyData.canLay0,PyData.canLayAll0];show 'ȷ','僌'⟩,
('懂' (by rw[hs,hs2]) (by rw[hs2];rfl)),
⟨_,rfl,_,'i',_,rfl,_,rfl,_,rfl,rfl,ts,a,b,ws,k,l,x,y,rfl,W.nm,ha,hb,wl,hw,hx,hy,hc,'ʳ'⟩,
'ƿ' (.cons ⟨_,rfl⟩ (.cons ⟨_,rfl⟩ (.cons ⟨_,rfl⟩ (.cons ⟨_,rfl⟩ (.nil))))),
{s with heap:='壓',toks:=tk},
swapsWithSole '厴' '咛' 'ɼ'='ơ',
fun y m3=>∃ p,'丵'/\'Β'/\'偍' (acc++[p]) d7 m3 Q,
'圻' owner (SetTable.turns mask) (SetTable.bits h%(mask+1)) (SetTable.bits h),
(aJ ('¾' (aD aG (aD aG (aA 1) (aA 0)) (aC (.int 0))) (aD aG (aD aG (aA 1) (aA 2)) (aC (.int 1))))),
⟨ '0' "__loader__",.str '悉' 168,Value.builtin "__main__.__loader__#opaque"⟩,
(aM (h '匱' _ I hq) fun us s1 ⟨xs,H1,I1,r,z,q⟩=>⟨by rw[<- r.length];exact z,?_⟩),
((items.toList.drop ('元')).take ('厀')),
swappedStores '厴' '咛' X.env=pure (some 'Ʋ'),
('嫌'='Ȏ'\/'嫌'='ʼ'),
'屯'/\'佄'/\'情'/\Q (.dat ('N' ('嵜'))) m,
fun '勑'=>k '倹' (e1.trans (e2.trans (e3.trans (e4.trans h2)))) h3 h4,
['Ŀ','ĩ','凜','惯','侖','ѹ','东']],
#[(aM '吭' fun us s1 '嶇'=>hc 'ō' vs us Q I1 r1 q1),
∀ ds m R,'巣'->'判'->body '县' '嚝' m,
∀ zs:'#',RelO '嫫' ((atKey ys ('位')).map 'Ư'),
'Ŷ'/\'伃'/\'Ė'/\'Ѷ'/\∀ m','Ì'->R ('ѝ') m',
R.leaf 4 'Ð',
fun 'Ɗ'=>'勺' (fun a vs q1 q2=>⟨⟨q1.1,fun z=>q1.2 (.inl z)⟩,q2⟩) p v q,
'圻' o (SetTable.turns mask) (SetTable.bits h%(mask+1)) (SetTable.bits h),
SeqAt.compareEq_reads ra rb '圳',
SeqAt.compareNe_reads ra rb '圳',
('τ' '勯'),
s.heap.get? p.1='҅'/\H p.1=none/\p.1≠X.env.locals/\p.1∉X.fs/\∀ v,p.2.data≠.cell v,
⟨_,xs[i],d',m',_,ok5,rs5,rv,lp5,fun d7 m7 'Й' q7 e7 ok7 rs7=>⟨d7,m7,e7,ok7,rs7,q7⟩⟩,
('©' (aB (aA 1) (aB (aD aG (aA 2) (aC (.int 0))) (aB (aD aG (aA 2) (aC (.int 1))) aF)))),
(fun r s'=>r=.ok (.ret 'ʷ')/\OldK s₁.heap s'.heap/\s'.os=s₁.os/\'啛'),
ae (wpAny_standAt (ae ('勘' (fun it' s' h'=>af (And.intro (hq _) h')) fun _ _ x=>x))),
(tp ['匚' 260,.str 'Ǣ' 261,.str 'ǣ' 262,'匛' 263,'于' 264]),
fun b hb o e=>'壚'.1,
(xs.drop ('儤')).take '妪',
compTurn '勯',
⟨dd.typeIs,wpAny_getItem_of (iH (k:='倖') ry) dd.mapOf hw' ⟨w,H2,'囗',rw',q2⟩⟩,
(tp ['匚' 267,.str 'ȟ' 268,.str 'Ƞ' 269,.str 'ȡ' 270,'于' 271]),
(r.drop ('儤')).take '妪',
ae (wpAny_standAt (ae ('勘' (fun it' s' h'=>af (And.intro rfl h')) fun _ _ x=>x))),
'佴'/\m3 c='丏'/\'Α'/\R.nx d '吕',
ae (wpAny_mono h₀ (fun _ s₂ h₂=>ae ('捛' (fun ok s₃ h₃=>?_) ff)) ff),
['ĩ','哨','凜',"_law_thing","_law_own","_law_side"],
('博').length,
(I.hok b u e).stay (fun c v hc q=>k c v ?_ q) '勄',
{s with heap:='壯'},
mP (a:=a0.1) (b:=a0.2) '憋' ha.px hb.px hb.py x hb.le,
⟨ '0' "__static_attributes__",.str '峲' 542,.ref 196⟩,
fun x 'ϼ'=>b.ll x vs ⟨(a.l x vs h1 '廗').1,h1.2⟩ (a.ll x 'ϼ'),
'ȱ' (.builtin "list.extend.loop" ⟨[.ref S,.ref z,res],[]⟩) R s,
(assignEach 'Š' X.env).map 'Ư'=assign 'ӆ'::'咚'.map 'Ư',
⟨Z,d,m1,R,ok1,'§',q,fun b' m2 'ȯ'=>k b' m2 'ү'⟩,
∀ d' m' s' H',R 'Ü'->'Ñ'->'ŝ'->'伖'->Q 'ǉ',
PSs ('捸' fa cdv A outer s H E).nox 'ϒ' '悲',
∀ m (hm:m<its.toArray.size) (hm2:'凫'),dP '丷' '徍'=(zs[m]==y),
ae ('憝' ⟨o,ho,hce⟩ isSubtype_stop ?_),
z='Ǚ'/\'佮'/\0<j/\R '厎' m3,
(('幢' '卶').flatten),
⟨Z,d,m1,_,ok1,'§',q,fun y m2 w 'ȯ' rd2=>⟨y,m2,rd2,q2,e2,ok2⟩⟩,
'ƿ' (.cons ⟨_,rfl⟩ (.cons ⟨_,rfl⟩ (.cons ⟨_,rfl⟩ (.nil)))),
'债' "__setattr__"='娾',
lp false [] 'ƽ' a0 (up hm1) hc0 '&' rfl (fun o7 m2 _ k2 h2 h3=>?_) ks,
'佄'/\'彽'/\'恁'/\Q (.dat ('N' (! '彾'))) m,
⟨mm,hns,fun h' hs'=>⟨ '倗',H','律',rfl,'抺' rd⟩⟩,
'劧' (o:=(atKey xs ks).map (·.2)) (by rw[<- hv'];exact rel.val ks),
⟨Z,d,m1,_,ok1,'§',q,fun y m2 u H2 q '偟'=>⟨y,m2,rd2,q,e2,ok2⟩⟩,
'ť' ⟨rfl,⟨_,rfl⟩,done++[z],todo,e3,rfl,by simp[List.filter_append,c]⟩,
']' (call (.builtin id) (v::us)) (EP X pins σ Q) X.xe s,
∀ n:Nat,'å' (List.replicate n xs).flatten (List.replicate n vs).flatten,
'佄'/\'彽'/\'恁'/\Q (.dat ('N' ('彾'))) m,
(uI 'ŭ' iter2),
RelO.some_of (v:=w) (o:=valueAt ws 'ˈ') (by rw[<- hw,<- sW];exact rel.val _),
(aJ ('ҽ' (aR (aB (aC (.str "stretch")) (aB (aC (.str "stretch")) aF))))),
⟨ '0' "__module__",.str '嗷' 500,'峱'⟩,
['Ŀ','嘹',"_law_turn","_law_cell","_law_mixed","_law_digit"],
⟨_,rfl,aV (jJ 'ԛ') ⟨_,rfl,_,rfl,_,e2,rfl,r,rfl,_,rfl,?_⟩⟩,
fun p q z=>⟨z.1,⟨z.2.1.1,z.2.1.2.1,NKV.stay ht hf _ _ z.2.1.2.2⟩,z.2.2⟩,
('懂' hs rfl),
(∀ c o,c≠z->c≠TO->'妝'),
('夙':'#'),
⟨ '0' "__firstlineno__",.str '廇' 504,.int 83 503⟩],
#[s.heap.push '夡',
PE X '娲' ('A' (lM N f n sp fo ga)),
if_neg fun q=>nin false (by rw[<- (uT (x:=z) (y:='ο')).mp q];exact hz),
⟨ '0' "__file__",.str "__file__" 173,'d' 172⟩,
∀ (w:World) (os:OsState),H.obs '僔'=H.val w,
⟨rfl,'3','3',⟨rfl,'3','3',True.intro⟩⟩,
(aJ ('ҽ' (aR (aB (aC (.str "point")) (aB (aC (.str "point")) aF))))),
(I7.pin (b,o) ('ϯ' (List.mem_append_right _ (lT hb e)))),
fun 'ҷ' e=>'Ͻ' q2 (c2.extBut _ _ q3 (c1.extBut _ _ q1 e)),
'亠' _ q3 (e1.trans (e2.trans (e3.trans (ok3.ext sm)))) (ok3.grow sm) ?_,
['r' '怼','広','r' '冎','冟'],
ae (wpAny_standAt (ae (wpAny_mono (turn n s hI) (fun r s₁ h₁=>?_) ff))),
(t.mask=7/\es.size<=4)\/(t.mask=31/\es.size<=18)\/(t.mask=127/\es.size<=76),
⟨rfl,rfl,rfl,'J',rfl,'J','J'⟩,
('屄'&&('居' && ! '丒')),
(aB ('m' (aA 9) (aI 2 bU (aB (aA 0) (aB (bG cC (aB (aA 9) aF)) aF)))) aF),
(Int.fmod ((v.fmod '噧'+1)*(31*(t+1)*(t+1)+7919*(t+1)+1)) 2147483647),
decide ('夽'<0),
decide ('夽'=0),
('Ň' '厴' '咛' pos),
ae (wpAny_seqItems p2 rfl (ae (wpAny_updateSeq_pair p2 fun n3 p3 c3=>?_))),
∃ h2',h2'=h'.update S (Obj.mapSeq fun x=>x.push 'đ'),
fun '*'=>∃ z:Str,ds=['Ŝ']/\'ң'/\R (.dat '忿') m,
(aE (aN (aR (aB (aD iO '7' 'I') (aB (aD iO '匘') aF)))) aH),
('m' (eI (aB (aC (.str "stretch")) (aB (aC (.str "point")) aF))) (aA 1)),
['ʩ','Ϗ','丹','ѹ','东','恱'],
['ĩ','ʩ','器','恱',"_law_over"],
⟨ '0' "__annotations__",.str '兴' 170,.ref 6⟩,
('仞').push ('叝'),
PySem.W.WalkO '憔',
.(fun x 'ϼ'=>let 'μ':=a.l x 'ϼ';b.l x vs '応' q2),
'K' (Builtin.«zip.__next__» ⟨[.ref z],[]⟩) Q E s,
y=.dat ('4' qs)/\'卺',
('婌')/\∀ p∈ 'ѱ',p.1≠b,
'坞' (fun b o hb e=>(sb.2 b hb).trans e) f0 f1 f3 f4 f5,
ae (wpAny_specialOf '愢' ?_),
('捫' qual (jV st) (fD st) (cV st) .none kV doc pm an cdv ct),
('Ӌ' (aB (aA 7) (aB (aA 5) (aB (aA 6) aF)))),
(by rw['妍'];decide),
.mk <| fun 'ҵ' '偼' w=>h 'ҵ' '偼' '喷',
{s with heap:=s.heap.push (wD t ('啈'-1)),toks:='刼'+1},
∃ zs:'Ȗ','弦'/\'叁',
∃ xs ys,'廬'/\'廭'/\n='味',
']' (call (.ref C) us) (EP X pins σ Q) X.xe s,
(aJ (aI 2 pP ('亰' (aB (aI 2 iA (aB (aA 1) (aB (aA 0) aF))) aF)))),
'偎' hf1 fun r2 m2 r20 r21 hf2=>?_,
'举'.filter '妋',
⟨ns,i,j,t,by rw[bD (Ne.symm ea)];exact q1,q2,q3,'兤'⟩,
fun '劰'=>kn '劲',
fun '劰'=>kb '劲',
fun '劰'=>kc '劲',
fun w hw=>lH (x:='ˊ') ⟨tk,rfl⟩ rfl rv hfl w '哓',
∃ zs:'Ȗ','弦'/\'僗',
∀ b o,b∉ '伩'->'ů'->h2'.get? b='G',
('捫' nm (jV st) (fD st) (cV st) .none kV doc pm an cdv ct),
(aJ (aD eO '令' '僶')),
'偎' hf fun r1 m1 r10 r11 hf1=>?_,
fun '劰'=>k '劲',
∃ zs:'?','徏'/\'叁',
∀ c o,c≠z->c≠TO->'候'->'媤',
'併'/\'佶'/\R (.dat (.str ('ж'))) m,
(fO 'I' (gT 4 (aY '借' '媭'))),
('m' (aA 12) (aI 2 bU (aB (aA 0) (aB (bG cC (aB (aA 12) aF)) aF)))),
turn 0 [] _ _ '϶' '&' bC fun m1 k1 h1=>?_],
#[if_neg (show ¬ '嶽' by rw['伨'];decide),
⟨_,rfl,_,rfl,_,_,rfl,No e10,l3,l3,l4,_,rfl,aV (by rw[eq];rfl) ?_⟩,
⟨by rw[List.length_set,List.length_set];exact r.1,fun j y q=>?_⟩,
⟨_,d7,m7,_,ok7,rs7,q7,fun b m8 H8 q8 e8 ok8=>⟨m8,e8,ok8,q8⟩⟩,
∃ zs:'#',ys='凬'/\'僗',
∃ zs:'?','徏'/\'僗',
['ˑ','˚','ɭ','ż','®','ǭ','ð','Ǥ','Ƃ'],
['ɍ','ʟ','ł','丫'],
⟨ '0' "__builtins__",.str '徽' 171,.ref 4⟩,
⟨ 'â',_,PyProof.Rows.slot_tuple_getitem.lookup,ht.typeIs,?_⟩,
∀ a vs,'伕'->'媟',
.mk <| fun 'R' D EX I w=>h 'R' D EX I '喷',
('亏' (aI 2 bU (aB (aA 0) (aB (bG cC (aB (aA 2) aF)) aF)))),
('m' (aA 6) (aI 2 bU (aB (aA 0) (aB (bG cC (aB (aA 6) aF)) aF)))),
{cls:='r' '倃',data:='W' #['嚅',.int hi u,'¥' v]},
fun '垇'=>⟨d3,m3,'嗬',ok3,rs3,q3⟩,
fun '挒'=>⟨d4,m4,e23.trans e4,ok4,rs4,q4⟩,
('叿')='Ы',
'偓' (some (.Subscript o i tpos)) pos.line X.env='ơ',
['Ȇ','Π','Ϗ','丹','两'],
('妗'.map .dat),
∀ b ps,H b=some (.tbl ps)->∃ more,H' b=some (.tbl (ps++more)),
(PySem.W.fnOf name qual params body scope dV '坴'),
.(by cases q:cd.mro with | nil=>rw[q]at ho;cases ho | cons _ _=>rfl),
(dx=none/\fs=[])\/∃ d od,dx=some d/\H d=some '帳',
fun '勑'=>k '倹' (e1.trans h2) h3 h4,
'ϰ' (.tup [xs[i]'(by omega),ys[i]'(by omega)]),
ds=['į','峠','侔','嘴'],
(aO 4 (aI 2 iL '姹')),
(aO 4 (aI 2 mU '姹')),
('¾' (aI 2 bU (aB (aA 0) (aB (aC (.int 2)) aF))) (aC (.int 0))),
[none,'幥','幦','ɍ'],
⟨ '0' "__package__",.str '怛' 167,'$'⟩,
[e1 '΄',e2 '΄'],
⟨_,_,rfl,'ǔ',⟨_,_,rfl,'ǔ',rfl⟩⟩,
fun x m2 v 'ȯ' r2=>kr x m2 v 'ү' r2,
{s' with heap:=s'.heap.push {cls:='Ē',data:=.seq acc}},
['˓','ɯ','ɮ','ȩ','Ȣ',"a","b",'ɨ',"c",'Ŋ'],
('˹' (aB (aC (.int 1)) (aB (aC (.int 0)) aF))),
(aI 4 (mR 3) ('õ' (aB (aA 2) (aB (aA 3) (aB (aA 0) aF))))),
acc=ks.map ('幛')/\rest.length+ks.length=ps.length,
'ť' ⟨rfl,⟨_,rfl⟩,done++[z],todo,e3,rfl,by simp[cc]⟩,
(if '侗' then '丶' else if '出' then 1 else 0),
'ƿ' (.cons ⟨_,rfl⟩ (.cons ⟨_,rfl⟩ (.nil))),
s₁.heap.get? a=some '僉',
⟨ '佋',⟨vs,q1,by rw[q2.length,av];exact ak _⟩⟩,
'ʎ' (A.deeper (envOfC qual (cV st) s.heap.objs.size fa cdv)),
Builtin.Slice.sliceAdjust (some 'ϋ') none 'ǡ' 'ĉ',
⟨h.1,h.2.1,Nat.le_trans '˘'.1 h1,Nat.le_trans '˘'.2 h2⟩,
'ť' ⟨rfl,⟨_,rfl⟩,done++[z],todo,e3,rfl,by simp[c]⟩,
⟨ '0' "__cached__",.str '悊' 174,'$'⟩,
'亥' {s with heap:=h',gens:=g',drawn:=d',toks:=t'},
⟨ '彳',H,'þ',⟨ '刼',by rw[ay,hlen]⟩,q⟩,
'ʎ' (A.deeper (envOfC qual (cV st) s.heap.objs.size f cdv)),
(show '埜' a (.frz o u) from I.hok a _ h),
∀ b∈fp,∃ o,'咣'/\'仼',
⟨ '婛','ΰ'⟩,
PE X ('ä' ('Ö' nm p) '匜') '嵋',
some (.o 'İ' [('Ѹ',.cel c1),('丳',.cel c2)]),
(fV (aJ (aI 2 nO ('õ' (aB (bG cC (aB (aA 0) aF)) aF))))),
⟨ '0' "__init__",.str 'Ѳ' 511,.ref 176⟩,
⟨ '0' "gathered",.str '丩' 539,.ref 195⟩,
']' (eval (.Name x pos) X.env) Q E s,
⟨Z,d,m,_,ok,rs,h,fun '˪' ⟨i,e,q⟩ 'ȼ'=>?_⟩],
#[(fun i '偾'=>cP 'ʬ' '嘤' '偾' Q),
ae (wpAny_rule (ae ('乥' (x:=.ref TO) rfl ?_))),
⟨Z,d,m1,_,ok1,'§',q,fun y '乻'=>?_⟩,
(aR (aB 'Ώ' '吊')),
['Ŀ','ĩ','ѹ','东'],
m1 a=some '姆',
gC (by show '坕'),
⟨ '0' "is_whole",.str '係' 195,.ref 21⟩,
⟨ '0' "fraction",.str '促' 212,.ref 35⟩,
⟨ '0' "is_below",.str '俄' 236,.ref 56⟩,
⟨ 'ø','ø','ø','ø'⟩,
('产' fun v s1 ⟨x,H1,I1,r1,q1⟩=>?_),
']' (f (.int i t) (.int j u)) Q E s,
'捣' "__getitem__"=pure ('哲'),
.(by show '拿';exact '˫' (mu.2 _ _)),
racc9.append (by show 'Њ';exact⟨y,[],rfl,rp9,rfl⟩),
∀ b∈ch,'傏' (upd H s.heap.objs.size (.tup [x,y])) b,
'ʎ' (A.deeper (envOfC nm (cV st) s.heap.objs.size a cdv)),
['Ĉ','ѿ',"gap","x","y",'剌','俻',"apart"],
('Ӌ' (aB (aA 4) (aB (aA 5) aF))),
'偓' (some (.Name x pos')) pos.line X.env='ơ',
∀ z sp,'弸'->∃ v,bQ vs z='y'/\'凮',
['į','ɒ','ј','љ'],
[o,'ɍ','叠'],
⟨ '0' "__spec__",.str "__spec__" 169,'$'⟩,
fun v hv=>('儣').1 (List.of_mem_zip hv).1,
∀ (s:Shared) (u:Value),'乹' ⟨[u],[]⟩ [(x,u)],
.inl ⟨a,vs,_,z,rfl,rfl,h1,ez,'岕'⟩,
'偸' (LE X.K (bG r ga)),
if_neg (show ¬ ('孟') from am),
⟨⟨zl,'ΰ'⟩,_,Vals.pick r _,'α'⟩,
PE X ('ä' ('Ö' N p) [] 'ǹ') ('A' (oV N n sp aF)),
∀ (s:Shared) (v:Value),'乹' ⟨[v],[]⟩ [(y,v)],
'ʔ' (.l [.list (ns.map .int),.int i,.int j,.int (t+1)]),
⟨_,rfl,_,hc3,_,rfl,'冖','冖',?_⟩,
⟨_,rfl,_,rfl,'厨'⟩,
R.mono '&' (R.leaf 0 '吞'),
'剐'/\H q.2.1=some (.tup (p.1.map kV))/\'善',
PyData.depthAll p.1<=6/\NKV K H ('4' p.1) (.ref q.2.1),
'债' "__init__"='儳',
.mk <| fun 'ҵ' E I w=>h 'ҵ' E I '侎',
'傌' (k+1) fa fd ps (LSp K ps.length sp),
⟨z,rfl,hz,h1','偝' q (e1.trans e2) ok2 .ofInt⟩,
(false,eval ('叉') X.env),
Int.gcd '呷' ('儨')=1,
(fO '7' '娠'),
⟨_,rfl,_,rfl,_,_,hc4,gI hr,_,rfl,'Ε'⟩,
⟨ '展',.str '刨' 166,'$'⟩,
⟨ '0' "common",.str '俿' 203,.ref 28⟩,
(tp ['匚' 255,.str 'Ǭ' 256,'于' 257]),
⟨ '唚','Ƭ',boot_drawn,boot_toks,os⟩,
'ì'->'ȉ'->∃ u,'忄'/\'˃',
⟨l,vs,rfl,'ś','尲'⟩,
('Ͻ' D.TOz.symm (c2.extBut _ _ D.i1z.symm z1)),
(fun 'Ђ' hr=>hq 'Ђ' hr S.nd),
if_pos (show '嶽' from '啖'),
fun x=>[PyData.str u,.str v].any fun y=>y.eqv ('囡'),
⟨ '0' "words",.str 'ɨ' 522,.ref 183⟩,
pairTrees_length 'O' 'Ś' 'Ś',
(aM '儕' fun c s1 '农'=>?_),
(aM (hc 'ʀ') fun d s1 '农'=>?_),
∃ xs,'侌'/\h.DictOfH '儰' a xs,
'嬰'=['ԋ'],
∀ x c,'嘧'='Ȥ'->'Ǎ'],
#[(h2.at fun o e=>up3 _ o D.i2z D.TOi2.symm D.i12.symm e),
'亠' _ q4 (e13.trans (ok3.ext sm)) (ok3.grow sm) ?_,
('Ȑ' a (.Slice (some lo) none (some st) p2) pos),
eval '娲' X.env,
(todo.map '娷'),
⟨ '0' "ORDER",.str "ORDER" 252,.ref 57⟩,
⟨rfl,fun ys hy=>by rw[I.tuple_inj hy hq];exact hx⟩,
'吣'/\Q (.dat ('{' (a++b))) m,
⟨_,_,rfl,rfl,h.1,'召'⟩,
'('->aS->Mu->('Ɉ')->Prop,
'候'->c≠i2->'媢',
∀ b o,'қ'->'厱',
{cls:='r' (ci l1),data:='W' #[.ref t1,'/']},
((List.map_inj_right (fun _ _ q=>'心')).mp h),
.seq '婯'.toArray,
.(by cases 'ԙ';exact⟨v,[],rfl,hx,rfl⟩),
('唉'&&('幕'&&'侽')),
['˓','ɯ','ɮ','˒',"i","x","y",'Ȫ','乓'],
(ts.map '娢'),
fun z=>decide (z∈zs++['吝']),
⟨ '0' "mays",.str "mays" 533,.ref 190⟩,
[fun v=>bindName X.env y v,fun v=>bindName X.env x v],
('拤' cd A outer s H E),
('宨'-'儤'),
'偖' _ q (e1.trans (ok1.ext sm)) (ok1.grow sm) ?_,
⟨⟨vs,v,q1,hv⟩,'吁'⟩,
(fun i '偾'=>'偋' (xs.drop i) acc d' m' RH),
ae ('戆' fun n1 z1 c1=>?_),
.dat ('4' (kvs.map '寀')),
ae (slicePart_int (ae (slicePart_none ('ȑ')))),
zs.any fun z=>ws.any fun w=>decide ('啑'),
['ѹ','东','建','划'],
(ts.map '娷'),
Int.lt_of_mul_lt_mul_left (a:=d) ?_ (Int.le_of_lt hd),
⟨ '0' "plus",.str '倣' 220,.ref 42⟩,
⟨ '0' "less",.str '値' 228,.ref 49⟩,
(assignEach [tg] X.env).map 'Ư'=[assign tg X.env],
s.heap.push {cls:='Ē',data:=.seq #[u1,u2]},
∀ b∈ '伩',∃ o,'ů',
I4.laid (t':=s3.toks) '事' ?_,
(o.getD (js 'č' ('ʹ'+c)) 'Ҋ').isNone,
'傌' k a fd ps (LSp K ps.length sp),
CalM '乡' '堲' a ps k sp,
Builtin.Slice.sliceAdjust '囜' none (-1) 'ĉ',
('Ģ' (aB (aA 0) (aB (bG cC (aB (aA 6) aF)) aF))),
I1.laid (t':=s1.toks) (fun b u e=>'ϗ') 'q' ?_,
fun '捃' y1=>⟨xs,m1,e1,ok1,y1,q⟩,
(AR '戣'),
fun a' d9 m3=>'匐' a' d9 m3 RH,
fun w' s4 ⟨z',H4,I4,r4,dw,m4,rd4,q4,e4,ok4⟩=>?_,
Builtin.Slice.slicePlaces 'ϋ' 'ĉ' 'ǡ',
(.l ['充','[','ɩ',.int (t+1)]),
('啺' '仩').head?,
fun '勳'=>st.at fun o e=>'帧',
A.deeper ('仐'),
Nat.le_of_lt (x.above y c ('崿')),
(if v<0 then max (v+'ĉ') 0 else min v 'ĉ'),
⟨o,its.toArray,n,h1,h2,h3,by simpa using rB r⟩,
⟨z,y,xs,r,o,es,ep,h1,h2,h3,h4,'Ѡ',h5⟩,
(if '孟' then _ else _),
ae (wpAny_letGo (af ('吹'))),
fun v2 s2 '及'=>?_,
['Ĉ','ѿ',"end","name",'剌',"times"],
['划','嗄','ѹ','东']],
#[⟨_,rfl,_,'i',rfl,k,rfl,'Ε'⟩,
aj (show acc.length<101 by omega) 'ȇ',
⟨_,rfl,aW (mJ 'Ԓ') ('俾')⟩,
.(by cases r;rw[eqIsQuiet_byValue _ rfl];exact af h),
absurd (show '帩' from z) 'C',
∀ a b:Str,decide (V.str a=V.str b)='丒',
⟨('哵'),(fun _ _ e=>'Ȓ')⟩,
ae ('偄' (x:=rawInt (i:Int)) rfl ?_),
(Obj.isFreed_of_fields '屬'),
((slicePicked z l u none).filterMap (z.cps[·]?)),
(kvs.map '僐'),
(upd H' s'.heap.objs.size (.tup '啴')),
fun x '云' rd=>⟨x,m1,rd,q,e1,ok1⟩,
fun cv s3 ⟨z,H3,I3,r3,kk,m3,ez,q3,e3,ok3⟩=>?_,
Nat.le_of_lt_succ (Nat.mod_lt _ ('御')),
(.dat ('N' ('台'))),
∀ m','Ì'->R (.dat ('N' ('惫'))) m',
'捆' fun m1 k1=>?_,
(done.filter '叙'),
⟨_,rfl,rfl,rfl,'À',_,rfl,'ˁ'⟩,
.inl ⟨_,rfl,by rw[zH];exact hR _ m s Kn.refl⟩,
'剩'^121=2658455991569831745807614120560689152,
'剪'^120=1329227995784915872903807060280344576,
∀ b u,b≠e->'口',
'嗙'='Ȏ'\/'嗙'='ʼ',
('仐').kindOf,
t {nx:=fun _ H'=>Q .non H',rt:=Q} '佪' H,
'偸' (Pd r t),
∀ (w:World) (h:Heap),YP w h->'伷' h,
⟨_,_,rfl,rfl,'僩'⟩,
⟨ '丗',by rw[bF e];exact '世'⟩,
'屫'->Q x 'Ƒ',
(vs.map '媈'),
(o.setIfInBounds ('Ѭ') '啐'),
ds=['佀','Ŝ','佞'],
R (.dat ('4' (('徥').map .str))) m',
(aI 3 oI '媬'),
('õ' (aB (aD aG (aA 2) (aC (.int 1))) aF)),
('õ' (aB (aD aG (aA 2) (aC (.int 2))) aF)),
(dQ '咱' '傒'),
fun 'Ü'=>b {E with nx:=k,ct:=k,bk:=E.nx} 'Ü',
.(by cases op<;>first | rfl | exact '˫' h2),
(cellsFrom 'Ǝ' scope.names []),
⟨ '屦',fun p hp hk=>?_⟩,
fun xv s₁ h₁=>aM h₁ fun itv s₂ h₂=>?_,
'K' (pyNext (.ref it)) Q E s,
fun u s1 ⟨x,H1,I1,rx,ox,m1,rd,q,e1,ok1⟩=>?_,
fun v s1 '叟'=>?_,
(ts.map '媨'),
aj (show ks.length<7 by omega) 'ȇ',
cX ('ϟ' a ('僤')),
cX ('ϟ' b ('僥')),
(#['愋',⟨x',k',v'⟩]:'伶'),
⟨ 'ø','ø','ø'⟩,
∀ b u,'媜',
(by rw[I.ok.glob];exact '崸'),
.(by cases op<;>first | rfl | exact '嗚'),
swapsWithSole [tg] e 'ɼ'='ơ',
∀ name,'峾'=some (mA name),
List.getElem?_append_right ('六'),
{cls:='ë',data:=.seq its'.toArray n'},
y.2=.local->'叞',
ae (wpAny_of_eq (a:=(Value.ref it,[])) 'ď'),
ae ('乥' (x:=.none) rfl (af ?_))],
#['Ѐ' D.TOi1 (c1.extBut _ _ D.TOz hTO),
g2.at fun o ho=>up3 _ _ D.l2z D.l2TO D.l2i1 ho,
'K' (pyNext (.ref z)) Q E s,
∀ b∈ '伩',b≠s.heap.objs.size,
.(by rw[bF (wU e g1 'Ȃ')];exact e),
(o.getD ('亭' k').1 'Ҋ').isNone=true,
∀ x:Str,'ђ'->mb x='丁',
List.getElem?_append_left ('六'),
⟨q1,'嫍'⟩,
ae ('捚' (fun _ s₀ h₀=>?_) ff),
(fun b ws 'Ũ'=>⟨⟨qH q1.1,q1.2⟩,q2⟩),
PE X (.Dict '坻' pos) ('A' (nA ps)),
ds=['į','ј','љ'],
(gT 3 (aY '借' (aY (gN 4) (aY '乔' cL)))),
(gT 3 '媭'),
fun t=>.dat ('仛'),
(if k&&l then 2*'丿'+y else 3*('丿'+y)),
yI (q:=false) '~' '%' ht ck hp b0 ?_,
Int.mul_le_mul_of_nonneg_left y6.2 '%',
Int.mul_le_mul_of_nonneg_left x6.2 '%',
(by have:=Ak E;have:=pE E;show '^'),
('ä' ('ʐ' m apos) '匜'),
wpAny_Call_Name_kw ('ҿ' hv ?_ hn hdb),
('勧' (starEach es X.env)).any 'Ō',
'ʯ'->RD '偠' d v'->Q v' H',
absurd (ag (I1.kIn _ o e)) 'ű',
⟨ '丗','屨'⟩,
'匣' s.heap z TI TO i1 i2 t1 t2 .none k,
(Builtin.«zip.__next__» ⟨['乎'],[]⟩),
Builtin.SmallTypes.ownedTupleIsFree 'Ǡ',
fun y m2 v2 H2 '弥' '匥'=>?_,
('ä' ('ʐ' f apos) '匜'),
(.dat (.str ('ӳ'))),
(aJ (aI 1 mM (aB '嵧' aF))),
['˓','ɯ','ɮ','Ȫ',"a","b",'ɨ'],
('Ģ' (aB (aA 0) (aB (aC (.int 11)) aF))),
fun t=>PyData.tuple '岦',
⟨_,rfl,_,rfl,'Ɩ',rfl,_,rfl,?_⟩,
bL ['哪',('ɦ',aK b1 c1)],
bL ['哫',('俹',aK b1 c0)],
(Int.gcd ('唔') 'ҁ':Int),
topRun_mono (301-n) 'O' (piece_cons e h),
'ƿ' (.cons ⟨_,rfl⟩ (.nil)),
some (some ('Ę' "object.__setattr__")),
∀ a,'兮'->(m' a).isSome=true,
ae ('偄' (x:=.int i 0) rfl ?_),
'ʏ' {s with heap:=h'},
fun iv s2 ⟨y,H2,I2,ry,z,w,ey,hw,q2⟩=>?_,
b3.at fun o e=>'ƻ' (Ne.symm S1) e,
b4.at fun o e=>'ƻ' (Ne.symm S2) e,
R 'Ѣ' '吔',
.(by show '乛';simp only[NKV];exact h),
.(by show '偉';show '亹';exact h),
['Ŀ','划','嗄'],
('m' (aD aG (aA 1) (aA 0)) (aC (.int 0))),
⟨_,rfl,rfl,k,l,rfl,'ʡ'⟩,
some ('扌' (.ref y)),
∀ x c,'Ǎ'->c≠b,
(aM (ha 'Y') fun c s1 e=>?_),
'偓' none pos.line X.env='ơ',
'咚'.findIdx? 'Ō'=none,
(show s.heap.IsTuple 'ɽ' from p),
'И' {s with heap:=h',toks:=tk},
⟨.int 'ϑ',H,'þ','3',q⟩],
#[.(by show 'P';exact h v List.mem_cons_self),
fun(m:Nat)=>xs['屡']?,
(fun h' c' kp e=>fin '抖'),
(∀ p∈cl,'家'),
∀ p∈cl,X.env.cells.lookup p.1='҅',
.inr ⟨o,its,n,h1,⟨h2,h3⟩,h4,h5,h6⟩,
(aM hA '叜'),
ae ('偄' (x:=.ref tq) rfl ?_),
.(by show 2<=sizeLine;show 'ұ'),
r.foldl '宂' acc,
.dat ('4' [TH ts,'哄']),
aW (mJ 'Ԓ') '丆',
⟨_,rfl,_,rfl,'傘' fun _=>?_⟩,
'Œ' ⟨_,rfl,z1,_,rfl,_,rfl,rfl,anyR⟩,
(tp ['偭' 258,.str 'ƥ' 259]),
(tp [.str 'ƥ' 265,'偭' 266]),
ReadsAll h vs ps as->ReadsAll h' vs ps as,
⟨m1++m2,by rw[e2,Array.append_assoc]⟩,
Builtin.Slice.sliceAdjust 'ƈ' 1 'ĉ',
RelO '侮' ('峂'),
beq_eq_false_iff_ne.mpr (Ne.symm (ao hb)),
'亢' h.2 (ok.ext sm) (ok.grow sm) ?_,
(fun H' o=>H' s₂.heap.objs.size='G'),
y1 i xs[i] (List.getElem?_eq_getElem hlt),
RD '偠' 'ʨ' 'ƪ',
ae ('偄' (x:=.ref t) rfl ?_),
(e1.trans '宎'),
((qs.zip rs).map fun z=>'啉'),
('拺' (cA items.size lo st)),
pure (owner.setIfInBounds j ('ҟ'),k+1),
[('ŉ','Ó'),('ƥ','剋')],
(aC ('4' (List.map PyData.int [0,1]))),
(done.filter '仩'),
('惭'.zip (ws.map PyData.int)).map,
(Int.gcd ('佁') '串':Int),
(Int.gcd '廄' (n.2*k.2):Int),
⟨_,rfl,_,rfl,z0,lg1,rfl,lg2,_,rfl,?_⟩,
R N 'Ћ' m '垤',
'0' (Str.ofString "stretch"),
.inl (.inr ⟨w,'咼'⟩),
(fun 'O'=>⟨[],rfl,'丕'⟩),
∃ o,h.get? S='G'/\'庬',
'匵' (mask+1) (gs mask h (13+0)).1 0,
'懤' x,
('˷' (aB (aC (.int 1)) aF)),
(∀ c x,'Ȩ'->'噩'->m' c='x'),
(.dat ('4' '·')),
fun p=>.dat ('4' [.str p.1,.int p.2]),
fr (u.1*mo.2+1*mo.1*u.2) (u.2*mo.2)=fq q,
sA (zs:=ws) '僸',
(tp ['偭' 253,'偭' 254]),
by simpa using congrArg Array.toList d1,
(('喨':Nat):Int)-'冲',
.(fun kv=>if 'Ҡ' then (kv.1,v) else kv),
H a='冠'->H' a='冠',
⟨_,'4' e c d 'п'⟩,
fun a o u h=>e2.fz a o u (e.fz a o u h),
(newExc ('咨') []>>=_),
∀ b∈ '伩','冱',
.(by rw[eh2];exact '崏'),
(ps.map fun z=>('A' z.1,'A' z.2)),
.(fun x q=>by cases q;exact '冡'),
∀ m','Ì'->R (I ('佸')) m',
⟨rfl,'ѭ',[],ws,rfl,rfl,rfl⟩],
#[(ws.filter '仩'),
(if l then [0,1] else [0]:'?').map,
aj '%' (sz (n:=100) '&'),
⟨reduceHash (i1 P),'乄','ҕ'⟩,
⟨reduceHash (i2 P),'Җ','җ'⟩,
⟨reduceHash (i3 P),'剱','倐'⟩,
(TD fY '亲' 275),
(TD gG '亲' 278),
(TD gF '亲' 281),
'佖'='»'->'中'='»',
fun hn b hb=>⟨hn b hb,(f2 b hb).2⟩,
wpAny_Call_Name_kw (pN I hg hm ?_ hdb),
'ʸ'->'嚗'/\'忛',
fun x o u h=>b.fz x o u (a.fz x o u h),
'假' (h2.append g2),
'ԏ'->h'.get? c='G',
(g1.at fun o e=>'亀' o D.l1z e),
'ԏ'->n3.get? c='G',
{cls:='Ē',data:=.seq #[x,y]},
(show '似' from g2.put r1'),
.seq ('呶').toArray,
fun t=>'仛',
R (I ('僴')) m,
(.dat ('{' (('丛').map oD))),
('õ' (aB (aA 2) (aB (aA 3) aF))),
('©' (aB (aA 1) (aB (aA 3) aF))),
(aY (gN 4) (aY '乔' (aY '倠' cL))),
⟨ns,_,_,_,bC,hn,')',')'⟩,
fun z=>(PyData.int z.1,PyData.int z.2),
(by show '効';simp;omega),
(PyData.tuple '峪'),
(TD fY '亳' 275),
(TD gG '亳' 278),
(TD gF '亳' 281),
.(by rw['峸'];exact q),
(fun b ps e=>⟨#[],'丈'⟩),
'˯' (storeName X.env x u) Q E s,
'债' f='Ȕ',
(fun obj=>F.args_object_init_2 obj _),
'Ѐ' q3 (c1.extBut _ _ q1 e),
kp b o hb.1 '噠' '侷'.1 e,
⟨o,'ƻ' (Ne.symm S1) ho⟩,
⟨o,'ƻ' (Ne.symm S2) ho⟩,
('囄' e ['义'] ['Ӟ' p] pos),
List.getElem?_append_right '%',
(decide (n.1<0)||(decide (n.1=0)&&s)),
['ѝ','Ŝ',I x,I y],
["ones",'囤','ȩ','Ȣ',"way"],
['˓','ɯ','ɮ','˒',"a","b"],
['Ŀ','ĩ'],
['ɧ','ɦ','ɥ','俹'],
.(by show '址'),
(b∈X.ex\/X.s₀.heap.objs.size<=b),
swappedStores [tg] 'ӆ'='ѽ',
(fun '÷'=>'嚍'\/r' '÷'),
.(by show 'P';rw[hm]at h1;cases h1.1),
(.ok (.ret 'đ')),
'嵍'.names.lookup x,
fun z=>z.elim h1.2 (SqL.ne hD hk h2),
ae (wpAny_askSetting (wpAny_ite ?_)),
'Β'/\Q 'ѵ' m1,
⟨ '¶',H,'þ','3',q⟩,
'Ȑ' o ('傊' j ipos) tpos,
(∀ b,w=.cel b->'幐')],
#[{(default:SetTable) with mask:=mask},
'抉' (gs mask h k).1,
Classical.byContradiction fun hn=>?_,
∀ E EX s H,t' E EX s H->t E EX s H,
R (.dat ('4' ['Ě','ˊ'])) m',
(aI 2 iA '吿'),
(aB ('偪' (aC (.int 2))) aF),
(aB '代' aF),
['Π','庻'],
PyData.canLayAll0 '佝'=true,
(fun kv:'侱'=>'啸'),
(done.filter '咖'),
aK ('Ȼ' (a,p)) ('Ȼ' (b,q)),
ih 'O' 'Ĭ' fun d=>?_,
Inv 'Ù' '哎' H s',
holding [v,ov,iv] (setItem ov iv v),
(fun 'ʆ'=>'并' e),
(show '崵' from r),
(show '崶' from r),
(.call '删' '幾'),
.(by simp[valueAt,List.find?_cons,e']),
.(by rw[<- Paired.length rel];exact z),
y∈zs/\Q (.int ('侶':Nat)) H,
(e2.trans (e3.trans (e4.trans e5))),
(bQ '尉' zs),
⟨rfl,fun i x u e=>'ў'⟩,
fun 'ő'=>Cj 'ѐ',
(.dat ('4' ('Ҍ'.map .str))),
ds=['吽',I i],
(aE (aN (bG fJ 'Ϋ')) aH),
gC (by rw[List.getElem?_map,h];rfl),
.(by have:=W.m0;show -'倜'<=0;omega),
fun z hz=>'岂',
(Int.gcd ('凿') '乃':Int),
('Τ')*n.2-n.1*'ҁ',
.(by cases xs;exact '嗚';simp),
⟨_,rfl,aV (by rw[sq.2];rfl) ?_⟩,
decide_eq_false (fun q=>'嚃'),
'傋' k f fd ps sp,
fun r s'=>r=w/\'亦' r s',
its.toArray.size+its2.toArray.size,
fun x h=>(b.z x h).trans (a.z x h),
'ʄ' (aP m p c) (upd H p o),
fun a vs h=>e2.t a vs (e.t a vs h),
{cls:='ë',data:=.seq #[]},
⟨a,_,rfl,'Ғ',rfl,nP zs,?_⟩,
⟨a,_,rfl,'倅',rfl,nP zs,?_⟩,
⟨a,_,rfl,'Ғ',rfl,rT zs,?_⟩,
⟨a,_,rfl,'倅',rfl,rT zs,?_⟩,
⟨a,_,rfl,'Ғ',rfl,rD zs,?_⟩,
⟨a,_,rfl,'倅',rfl,rD zs,?_⟩,
(relabel '匎').names.lookup x,
'勧' (starEach [e,g] X.env),
(acc.push 'đ'),
(.inl ⟨vs,ky,.inl g1,rfl,rfl⟩),
'Ͱ' c (.dN X.K (bW ws ks v)) b',
(aE (aN '嵧') aH),
List.mem_map.mpr ⟨(a,k),h,rfl⟩,
.(by show 'P';rw[hc]at hy;cases hy),
(show 'ϓ'<'噧' by decide),
.(show n.1*(g*d)=g*(n.1*d) by ac_rfl),
Int.mul_nonneg c (Int.le_of_lt pn),
⟨_,rfl,'U','U',?_⟩,
some (.dat ('哄'))],
#['r' "builtin_function_or_method",
(by have:=lA E;show '^'),
(by have:=pQ E;show '^'),
(by have:=Lu E;show '^'),
(by have:=Pa E;show '^'),
List.getElem?_set_ne (Ne.symm hj),
⟨⟨o,e,ex.1⟩,fun a e2=>?_⟩,
fun x vs h=>b.t x vs (a.t x vs h),
.(by show '勸';rfl),
Str->'с'->'Ż',
(fun x H'=>∃ k,x=.bl k/\Q k H'),
∀ v s H Q,t' v s H Q->t v s H Q,
(fun _ s₅=>∃ m,m<n/\I m s₅),
fun ps m2=>R 'ʨ' m2,
(qW '劬').objs.size,
(sE '劬').objs.size,
.(by simp only[RPd]at h;subst h;rfl),
(aB (yV 'z' ';' 'M') aF),
['Ȫ',"x","y",'剌','俻'],
(iU ';' '嵩'),
(by rw[List.map_map]at h;exact h),
dB '嘅' ('ȹ' d)∈vs,
⟨ 'J','U'⟩,
ag (show 'Ƨ'='乆' from x),
'扟' I.ok.above,
fun z=>(hch c z).2.2.1 'ǿ' rfl,
('拖' (.ref it) u),
fun u '亨'=>?_,
('影'\/'彲'),
'勧' (starEach [e] X.env),
"BaseException.__getattribute__",
Ext.grow s fun a h=>'世',
aS->Mu->('啄')->Prop,
'ŧ' (upd H t (.lst (vs++ws))),
.(by show '坬'),
(fun a vs q=>SqT.same (cE hD) q),
cP 'ʬ' xs acc d m1 Q,
(fun H' ys=>H' D='佌'),
(fun q=>by rw[q,hi]at e;cases e),
(Str.ofString "__length_hint__"),
IsPair h' '埱',
[.ref a','咇'],
holding [ov] (getMethod ov f pl),
.(if j=k then 'Ǩ' else '囚'),
∀ j∈t.place.toList,j<=t.mask,
ds=['ѝ','Ŝ'],
['ã','侔','嘴'],
['˓','ɯ','ɮ','嚮'],
⟨ns,i,j,t,q1,q2,q3,')'⟩,
.(show g*a*n.2=g*(a*n.2) by ac_rfl),
⟨_,rfl,_,rfl,rfl,i,_,rfl,?_⟩,
(jB '嗌' (cQ A0 B1 C1)),
(jB '嗍' (cQ A1 B1 C0)),
.(by have:=W.m0;show 0<=12*M;omega),
prog.main.body.getD k '噴',
'凓' n a b ',' s ',',
(#['愋']:'伶'),
TY x x' 'Ƿ',
(importedModules prog.main.body),
Reads h v p as->Reads h' v p as,
'捕' (fs.map (·.1)),
wpAny_truthy_bool ⟨H1,I1,q⟩,
(h 'R' Q (I.wish _) hw),
0<=j/\j<='剚'/\i.natAbs<2^64],
#[Value× '5'->'Ĕ',
(('元':Nat):Int),
o=⟨ '乊',dx,'W' ws,sl⟩,
RPs.reads0 '捄' nd,
∃ as,'垟' us xs as,
.(by show '効';omega),
HT.sIx '截',
List.getElem?_eq_some_iff.mp ei,
⟨ 'À',[],_,.nil,e⟩,
'仵'.2 b hb,
List.idxOf_lt_length_iff.mpr hk,
wZ rv m (by simpa using hm) hm2,
('恎'==Value.none)=true,
fun 'ç' vs 'ϫ' rd=>?_,
'掂' h2.cut,
.(if 'Ҡ' then (kv.1,p) else kv),
(show '似' from rfl),
'劗' hS' rfl,
'仵'.extBut,
('囄' a [op,op'] [b,c] pos),
⟨_,_,rfl,'ś',?_⟩,
'Ͱ' c (.dN X.K (bW ws ks v)),
t.mask=7\/t.mask=31\/t.mask=127,
(nm=='儿')=false,
'4' [bA x,bA y,fq n,'N' s],
['˓','ɯ','ɮ',"action"],
['Ȇ','两'],
'剩'^64=18446744073709551616,
List.idxOf_lt_length_iff.mpr hz,
iF (gB '϶'),
(List.range N).map '恵',
some ('4' ('乑'.map .int)),
.(if k&&l then 2*x+y else 3*(x+y)),
fun i=>(List.range c).map (f i),
'u' ⟨_,rfl,_,rfl,_,e2,h⟩,
List.mem_map.mpr '徙',
List.mem_map.mpr ⟨_,hy,rfl⟩,
W.r _ (List.mem_of_getElem? hr),
(.Dict (pL st) (rC st) (oU st)),
TV es (tF w.params) 539 1090 os,
.(show n+N+(301-n)=301+N by omega),
'咚'.length=n,
('Ň' ['嗜'] e pos),
'坫' name=true,
'债' name,
(if g=f then '»' else mA g),
('劵' its).flatten,
(fun acc kv=>bW '埝'),
⟨dd.typeIs,'悪',hd⟩,
kas.map fun x=>(x.1,V.ref x.2),
.(by rw['ϣ'];exact '世'),
'乬' q Ext.refl ok .ofInt,
(T=='儿')=false,
SqL K '光' a vs,
X.K.lookup s₂.heap.objs.size,
(e68.z _ 'π').trans hDy,
(.dat '峎'),
ae (wpAny_seqItems hol hdl ?_),
I1.fpOk hle (I1.hok.fresh hle),
(e2.trans ('庣')),
('Ȑ' 'λ' i pos),
af ⟨plainId_quiet qS _,?_⟩,
⟨a,z,zs,rfl,rfl,sq2,hz,q2⟩,
ae (Ee hz ht '廧')],
#[h '坽',
(aP m2 c (.l '啢')),
lastMarks [op,op'] [b,c]=false,
(aP m2 a (.o N (putO f y fs))),
(N=='儿')=false,
('Ȑ' ('Ö' T p) i pos),
['囥','乓',"must","way"],
(aE (aN '具') aH),
["self",'Ŋ','ȩ','Ȣ'],
(aB ('Ǿ' (aB (aA 3) aF)) aF),
Bd.mono (m:=20) ?_ '&',
('哩'.map .dat),
mZ '抓',
.(fun b e=>by cases e;rw[t1];rfl),
⟨m.wrap 'Ğ',c,pos,B⟩,
('堐' ?_),
Bool.eq_iff_iff.mpr 'C',
V->V->V->Hp->('Ń')->Prop,
holding [v,ov] (eval i X.env),
{D with nx:=N,ct:=N,bk:=D.nx},
'丁'=some '俛',
'垒' xs.length hi,
.(by rw[ay];exact r.length.symm),
Nat.le_trans (Sa xs 'ƈ') hz,
('ɀ' (.lst (xs.set j v))),
(by rw[hk];exact⟨_,I',q⟩),
.(by simp[bQ,List.find?_cons,e]),
Paired.snoc r ⟨rfl,hb,ry⟩,
(by rw[<- hq.1];exact hq.2.1),
'巓'<=sizeLine,
∀ a,oM (m a)=true->m' a=m a,
Ok K Z '捬',
k [] m [] '匼' rfl,
('劶' vs).flatten,
'嵈'.flatten,
env.cells.lookup p.1='҅',
('К' s2.heap.objs.size o0),
.(by rw[hC];exact '佚'),
('ļ')->Prop,
List.drop_eq_getElem_cons hlt,
.inr (.inl ⟨_,_,_,_,rfl⟩),
(by first | rfl | kernel_rfl),
'坐' env x,
('Ѐ' D.i1z.symm z1),
ah _ ('崑'),
fun kv=>'4' '徚',
tupleKind_room_in1 '%',
'ƻ' (Ne.symm nS) np,
'ƻ' (Ne.symm S3) b2,
by simpa only[RD,RP] using r2,
h d m3 fun w m4=>r' dy w m4 R,
.(by simp[cW,List.find?_cons,e]),
.(by rw[List.length_take];omega),
R (.dat ('N' (eZ fs ws))) m,
(aJ (aI 1 lF 'Ϊ')),
(aJ (aI 1 lF 'ƕ')),
(show 'ϓ'<65521 by decide),
(ws.map '哉'),
(Int.mul_lt_mul_left g0).symm,
some (I (if p then 1 else 0)),
todo.map '哉',
List.length_filter_le pr done,
⟨_,rfl,_,'i',_,rfl,?_⟩,
(fun a=>(f a).wrap 'Ğ')],
#[('堏' ?_),
⟨z.1,ht _ _ z.2.1,z.2.2⟩,
('Ό').elim,
Value->'ą'->'Ń',
St->Hp->('ǚ')->Prop,
(some ('哐')),
('力' its),
⟨u,by simpa using q1,q2⟩,
'埚' ?_,
aS->Mu->('Ą')->Prop,
List.drop_eq_getElem_cons hl,
fun d _=>d='伦',
fun x c h=>hcl1 (x,c) (wW h),
compTurn e 0 it 'ƪ' env,
Tv ('咾') h2,
(e9.z _ 'π').trans hD,
absurd h '巭',
(jT g t fi2 'ʬ'),
(.dat ('{' (ys.map .str))),
(by unfold bN;simpa using e),
'扦' I2.kIn,
s.heap.get? s.heap.objs.size,
(aP m3 c (.t (cM kvs ks p))),
IsPair s.heap TO '$' '$',
(pick xs (cA xs.length i j)),
'掂' hpk,
⟨q-'ʹ',')'⟩,
xs.toList.Pairwise (· < ·),
eZ ('丛') (WB k n u),
('亏' (aC (.int 3))),
('ˮ' (aC (.int 2))),
('m' (aA 7) (aC (.int 0))),
('匝' (aC (.int 3))),
('匙' (aC (.int 0))),
⟨yd.1,')',')'⟩,
⟨ 'U','U',?_⟩,
(PyData.tuple '怄'),
List.getElem?_set_self hiσ,
('则' ('ȝ') j pos),
hb wh '埴',
(fun s'=>typeIs_int s' k t),
.inl (.inr ⟨o,e 'Ȁ'⟩),
∀ E s H,t' E s H->t E s H,
RPs.ext '恀' _ _ rp,
'匌' .ofInt,
(aP m3 a (.l (xs.set j p))),
fun 'O' q ','=>q.elim,
bF (by show 'P';simp_all),
('匾' it' acc env),
'徍'=.str zs[m] t,
(<- holding [x] (pyIter x)),
'W' #['倇','/'],
(pX l1 s.heap t1).objs.size,
(nT hb wS '廰'),
(xs.map fun x=>(x.1,x.2.2)),
(g1.extBut c1.extBut D.l1z),
(a c o q fun z=>n (h2 c z)),
(m c).isSome=true->m' c=m c,
(fun c=>decide (c<1114112)),
.dat ('4' '态'),
.dat ('4' '怂'),
(aB 'Δ' aF),
[none,'ҥ',some 3,some 7],
(aJ (aD eO 'ư' (eI aF)))],
#[(∃ o,d='唰'),
'ʋ' ((t.gcd b:Nat):Int),
List.getElem?_eq_getElem hj,
.(by cases k<;>decide +kernel),
tQ (t:=t) (b:=b) '%',
some (.dat ('忼')),
(x1.mul y2).sub (y1.mul x2),
⟨_,rfl,_,rfl,'ˁ'⟩,
Bo '劾' 'œ' hc,
('冪').eraseIdx i,
(PyData.list '丐'),
'0' "__name__",
(Bool.and_eq_true_iff.mp e),
by simpa only[NKV] using x,
('则' 'υ' j pos),
('则' '҇' j pos),
Inv '刈' pins 'ͳ',
(fun _ s'=>'彧'),
holding [v] 'Φ',
(hi 'Ͽ'),
(.For tg iter body 'ǹ'),
PySem.W.plainOver K C=true,
.ins C s.heap.objs.size [],
fun '_'=>(e0.bs '_').1,
its.toArray.size=xs.length,
(by rw[hj];simpa using ew),
'弝'=atKey qs k,
'Ә' (.dK (bW kvs k v)),
'Ә' (.dT (bW kvs k v)),
(by rw[l];exact rel.val k),
by simpa only[RPd] using h,
'假' h2,
k d m s '匼' rs,
e2.fm a '帴',
⟨rs9.1,fun j z hj=>?_⟩,
(.ref s₂.heap.objs.size),
⟨p,m9,r9,e9,ok9,hz,q9⟩,
'W' #['Ϙ',rawInt i],
⟨a,y,zs,e1,e2,hq,hk,q⟩,
'偕' ?_,
'ŧ' (upd H l (.tup vs)),
IsZip n1 '二',
({s with heap:=h1}:Shared),
(aP m1 a (.d '嘮')),
(show SqT 'O' from sq),
IsZip s.heap 'ȴ' '$',
decide (z∈ '下'),
(o.getD j 'Ҋ').isNone,
tJ '2' (nm,st,a),
decide ('Μ'),
decide ('伪'),
(dH ('Ý' (aA 0) (aA 2))),
('õ' (aB (aA 2) aF)),
('ŏ' (aB (aA 5) aF)),
['Ĉ',"a","b",'Ŋ'],
['Ĉ',"a","b","names"],
('õ' (aB (aA 3) aF)),
(aY '借' (aY (gN 4) cL)),
('õ' (aB (aA 4) aF)),
('©' (aB (aA 3) aF)),
(aJ (aD lP '匘')),
(aJ (aD lO '˭')),
(show 'ϓ'<11 by decide),
⟨by simpa using c1,?_⟩],
#[['个','ł'],
'Œ' ⟨_,rfl,yes rfl⟩,
'0' "__doc__",
.(by cases r;exact .int _ _),
.(by cases r;exact .str _ _),
beq_eq_false_iff_ne.mpr e,
ao ('Ӆ' I.ok.above),
'偻' (Nj i),
'偻' (tC v),
∀ b∈fp,'彬',
.int (if k then 1 else 0),
es.toList.any (·.refKey),
'刾'.length=ps.length,
fun b z=>absurd z (noA b),
('ň'+(m:Int)*1).toNat,
.(show '嘙' by decide),
.(by have:=tN 'ǈ' v;omega),
if_neg (by rw[ne];decide),
b.fm x '帴',
.(by rw[rp.length];exact hz),
compEnvC scope cl C X.env,
.(by rw[cF];intro z;cases z),
fun a h=>e2.c a (e.c a h),
pure (ForInStep.yield ok),
Heap.SameBut it 'Ї',
(Obj.data_mapFields hd _),
(seqItems? ('倇')>>=_),
.(by rw[g2.length];exact hl),
PyData.canLayAll0 ys=true,
Around.under_plainId qS _,
h'.IsListIter i1 l1 'ě',
h'.IsListIter i2 l2 'ě',
'所' 0,
'扁' 0,
keys.all '悝'=true,
keys.length=values.length,
'К' c (.dK (jS ws us)),
(some (('丿'+1)*bK l)),
["top","bottom","shared"],
(aB '典' aF),
bP (x::y::z::xs) 2=some z,
('抅' hp),
fun r1 m1 r10 r11 hf1=>?_,
fun r2 m2 r20 r21 hf2=>?_,
if_pos ⟨rfl,')'⟩,
⟨_,rfl,_,'p',?_⟩,
(jJ ('幤')),
(List.mem_filter.mp hz).1,
'r' "getset_descriptor",
'0' "strike",
'彠'=Sum.inl b,
'彡'=Sum.inr b,
∃ o','幮',
(List.range h.objs.size),
s.heap.Ns X.env.locals m,
fun z=>(hch _ z).2.1 rfl,
Heap.SameBut a 'Ї',
z.sameBut hs (cne y c e),
⟨m',hm,σ3,H3,I3,w3⟩,
PySem.W.makesIn K C=true,
bP z.cps.toList i='Ȥ',
h'.get? s.heap.objs.size,
'D' '嘜' (qX h),
'弝'=some q.2],
#[s.TypeIs 'Ê' 'ɬ',
fun x h=>b.c x (a.c x h),
k _ m2 z H2 q e12 ok2 rz,
Ext 'ʅ' H '¯',
af ('挳' h0),
('内')->Prop,
RS '匿' d σ,
Heap.ExtBut it 'Ї',
Q none 'Ƒ',
ae (af (wpAny_throw ?_)),
letOwnedTupleGo tg2 it v,
∀ b∈ch,'冱',
l=true->'啃',
'扨' kp,
(aP m2 c (.l (xs++[p]))),
s.heap.get? h1.objs.size,
zs.map '座',
'匮' (zs.map V.str),
zI 'č' k c '%',
['回','忼'],
.(if k then [0,1] else [0]),
('4' '弾'),
(∀ b,b≠c1->'团'),
(aI 1 tT 'ƕ'),
(aI 1 nF 'ƕ'),
(KN '伮' k1),
List.mem_singleton.mp hq,
by simpa[aQ,hk] using hz,
∀ i,gP a b='š'->v=i,
bL [(s00,t01),(s01,t11)],
bL [(s10,t00),(s11,t10)],
⟨_,rfl,_,rfl,rfl,?_⟩,
ht' '抇',
some (.dat ('{' mays)),
some (.dat ('{' gaps)),
fun r m4 r0 r1 hf4 _=>?_,
List.mem_singleton.mp hx,
∃ t,u=Value.bytes b t,
∃ t,u=Value.float b t,
fun j y v' '匹'=>?_,
('则' '$' j pos),
(op==CmpOp.NotIn)=false,
('偳' (dS f y fs)),
CE '捾' u s',
fun w hw=>h w (aq _ hw),
⟨ ')',')'⟩,
s₁.heap.get? b='G',
'怺'.map 'Ư',
.(by rw['˗'];exact h1.1),
⟨d',m',g1,g2,g3,g4⟩,
⟨ '佋',?_⟩,
RD K 'a' '¯' x v,
SqL K '佰' a vs,
AR 'a' '¯' a' o',
s₂.heap.get? b='G',
fun z=>(ok1.z _ z).2 hD,
(Heap.SameBut.refl _ _),
a≠s₂.heap.objs.size,
(he '乧'),
(.int (zs.idxOf z:Nat)),
fun h=>h.imp Eq.symm id,
'劭' ?_,
(field 'Ƥ' 0>>=_),
(field 'Ƥ' 1>>=_)],
#[bY X (compareOp op') r',
(rd2.ext '忡'),
q<n->rS o (js 'č' q),
mg '˙'='喎',
(LS '2' body),
(.dat ('4' [x1,x0])),
p.weight<=w/\p.depth<=e,
R (.dat ('N' (!k))) m,
(ends ('恭')).2,
(List.range (bK k)).map,
(List.range '倛').map,
(∀ z∈zs,'ǝ'),
(∀ w∈ws,'侼'),
.dat (bX ('ʺ')),
['Ŋ','˒','乓'],
fun y hy=>h y '嚞',
'剪'<'丢'+1+1,
some (.l ('惲')),
.(by show 'Є';rfl),
('嘁'.map .dat),
(by rw[nB];simp[aQ,hk]),
Bd 81 ('Τ'),
'啔'.length,
['ɫ','住'],
(ws.map fun z=>(z,f z)),
∃ A,A='ԯ',
b*(('凿')*(a*c)),
(List.mem_cons_self ..),
-1200<=mo.1/\mo.1<=1200,
k4 c _ '悄' hc3,
.str 'Ӄ',
"__static_attributes__",
'0' "told",
'0' "long",
'0' "both",
.(if x=y then [0] else []),
h.DictOf 'Ș' a vs,
bF (hm b _ q fun z=>z),
holding [v] (truthy v),
('Ҏ' .And [a] pos),
(.Return (some e) pos),
(.While c body 'ǹ'),
∃ u,us=[u]/\'˃',
PySem.W.lookIn name od,
'嘖'.map 'Ō',
(hv 'ʀ'),
(keywordEach [] X.env),
scope.names.lookup y.1,
((sIx n n hi:Nat):Int),
(by rw[hlen];exact hw),
'拲' 0 lo,
'抟' kp,
∃ q,'列'='Ǫ',
kvs.length+more.length,
fun h=>(ok.z p h).2 hp,
if_neg 'Ĭ',
'偞' q y u r2 ry,
'匯' (no vs H Q E),
I2.cell x c '噝',
aM h5 fun _ s6 hq0=>?_,
Heap.SameBut.update ..,
ae (wpAny_newTuple ?_),
ah _ ('弫'),
Heap.get?_push_cases e],
#[e1.trans '作',
⟨o,keeps _ _ ho,r⟩,
'偞' _ x v w1 rx,
'偞' _ y u w2 ry,
(es.toList.map 'Ư'),
zs≠[]->t.plain=false,
(.dN X.K '恠'),
(rN ('下') f),
('4' '嗂'),
(show 0 < -b by omega),
List.any_eq_true.mp ha,
(∃ x y,'恬'),
(if x.2 then 1 else 0),
(bG qQ 'ƕ'),
('Ǿ' (aB (aA 0) aF)),
(aC (.int '噧')),
(aC (.str 'ʾ')),
('亏' (aA 10)),
⟨trivial,')'⟩,
h '坪',
fun r m2 r0 r1 hf2=>?_,
PyData.tuple [z.1,z.2],
(hf2.mono '&'),
some (.dat ('回')),
fun z=>decide (z∈vs),
fun p=>'啿',
fun p m4 hp hf4 k4=>?_,
(fun r hr=>nomatch hr),
.str 'ʴ' 281,
Str.ofString 'İ',
'0' "any",
'0' "add",
.(by cases r;exact .nil),
PyData.depthAll ks<=6,
∃ t,u='忁',
∃ t,u='忂',
⟨_,es',ep',hL,r'⟩,
I.mod.glob.keeps I.bk,
('Ҏ' .Or [a] pos),
(some ('嗜')),
fun b hb=>'悖',
fun i j=>.int 'ϑ',
(intBits_le_64 '~'),
(∀ v,(x,v)∉binds),
PySem.mem_of_lookup h,
seqIndex? i xs.length,
'彰'/\Q v H,
'埧' k='ǩ',
('劵' xs),
.inl (.inl (e 'Ȁ')),
decide (p.1≠k)=true,
decide (q.1≠k)=true,
fun h' dd' hs=>h _ ?_,
('劶' xs),
'Ū' body (LS X.K b),
Ext 'ϵ' '¯',
('A' (aI n sp ga)),
'垣' fa fd,
(relabel '偌'),
(ok.z a 'π').1,
src[i]?=some ('ǩ'),
Ok '偒' '¯',
a=s₂.heap.objs.size,
'һ' acc d m Q],
#[Obj.data_mapFields hd,
ae (wpAny_handled ?_),
List.getElem_idxOf hj,
(ps.reverse.map .dat),
'匲' ps xs,
af (And.intro rfl h0),
'拼' its,
(rawInt n5.objs.size),
lW '劬',
ys.any fun y=>y.eqv p,
codeAny_builtin Hx ?_,
Heap.SameBut S h' h2',
ae (slicePart_int ?_),
(cA '垕'),
.(by show '偉'),
(!('俣').isSome),
RawN 'Ǻ' hb h d xs,
∃ c,q='ʹ'+c,
('ς'.map .int),
(some ('丿'*bK l)),
('m' (aA 0) (aA 1)),
(aB '怇' aF),
(aC (.str '嚮')),
(aB 'ĭ' aF),
dF (cM acc x.1 x.2) r,
∀ c,'Ȩ'->m1 c=m c,
(hf'.mono '%'),
h1.1.mono '&',
h1.2.mono '&',
h2.1.mono '&',
h2.2.mono '&',
List.mem_append.mp hq,
('丛').length,
some (.d '凼'),
(by have:=iK h;omega),
wd (l&&k) b0 b1 a0 a1,
fun p=>PyData.str p.1,
Int.mul_pos hx.1 hy.1,
-1200<=u.1/\u.1<=1200,
(hf5.mono '%'),
fun p m5 hp hf5 _=>?_,
List.mem_append.mp hx,
LSp '佫' 1 nG,
X.env.cells.lookup x,
σ[i]?='ή',
(fun _ z=>'嚈'),
by simpa using I.len,
isTrue 'ӆ' whole,
(op==CmpOp.In)=false,
('Ҏ' op [a] pos),
release [v,ov,iv] [],
('Ň' [tg] e pos),
⟨vs,H1,I1,r1,q1⟩,
(PIE 'Ù' σ tg R),
('Ƣ' e f pos),
items.size<=sizeLine,
('Ȑ' a b pos),
xs.any fun y=>jL y x,
fitsIndex_both '~',
hA b ('喣'),
'垣' f fd,
(xs.map (putAt k u)),
h w' '匬' rw',
l.contains '俟'],
#[cd.mro.isEmpty=false,
some ('喴'),
(∀ xs,o≠ '剑'),
∀ a b,o≠.frz a b,
Option ('('),
('侐'.set r1),
r1.ext '作',
(LSp K ps.length sp),
List ('忣'),
σ[j]?='ή',
fun z=>q1.2 (.inl z),
'侶'<zs.length,
('埶' m1 H2),
ZIt l s.heap '傆',
(up3 'ҷ' e),
s.heap.objs.size≠z,
(false,'凎'),
vs=[.ref a1,.ref a2],
s1.heap.objs.size<=c,
'努' 4,
'努' 2,
'努' 3,
'努' 1,
rx.ext '作',
(show ws=[] from hr),
rd.ext '作',
fun x e=>('Ȓ'),
X.mg N='喴',
PyData.depthAll k<=6,
tks.length=zs.length,
('亭' (13+0)).1,
pre.length+hs.length,
t.place.size=es.size,
(aC (.str 'Ĉ')),
Str.ofString 'ŉ',
List.mem_append.mp h,
PyData.str 'ƥ',
decide ('丸'=is),
some ('佞'),
(fun z hz Q' hq=>?_),
of_decide_eq_true ht,
(decide_eq_false c2),
decide (f w<=t)=true,
.inl (lt '%'),
X.1*Y.2 + -1*Y.1*X.2,
(by rw[<- uW];omega),
Heap.SameBut d h h',
Reads s.heap v p as,
xs.length=us.length,
Mod X.K X.mg X.base,
(hs.2 c ?_).trans q,
'亦' u s',
fun c H1=>Q (!c) H1,
⟨y,H2,I2,r2,q2⟩,
(by rw[z];exact hb),
'亥' s2,
ns.length<=sizeLine,
(fun b u q=>'倓'),
.(by have:=r.dp;omega),
⟨[],H,I,.nil,h⟩,
vs.length=ps.length,
(by simpa using hv),
(by rw[ay]<;>omega),
('Ӛ' (.lst ys))],
#['嗤'.length,
(r.val k).isSome_eq,
⟨x,H1,I1,rx,q1⟩,
'Ȑ' o i pos',
List (Value×Value),
mroIn K C '俟',
⟨hh,g,d,t+1,os⟩,
∀ a,Z a->H' a=H a,
RDs 'Ķ' '½',
vs.length=xs.length,
(show 'ϡ' from h),
d[i]?=some ('x'),
⟨_,'D' 'Ũ'⟩,
('A' (aD r f g)),
of_decide_eq_true q,
fun 'Ú'=>h.call,
ds.length=ps.length,
List.mem_cons.mp hp,
I2.hok.fresh 'q',
∃ m,m<n/\I m s₃,
Ok '匿',
AR 'a' m H a o,
'偽' m1 H1,
PE X elt '並',
(fun H h a _ e=>?_),
wpAny_newObj_type q,
(Nat.not_lt_zero _),
'埲' tq its,
fun n2 b2 c2=>'ſ',
(.ref n5.objs.size),
('Ę' "sorted"),
.lst (ys.map V.str),
s.heap.IsList l2 ys,
I4.hok.fresh 'q',
t.fits es.size=true,
by simp[L2.isK]at h,
(zs.map Fm).toArray,
some (o,pre.length),
Fun K nm nm st a fd,
[a0,a1,a2,a3,a4,a5],
of_decide_eq_true h,
(∀ z∈zs,'ң'),
(aE (aN ';') aH),
(aE (aN 'g') aH),
(gA (gL iB ';')),
(aC (.str 'Ȟ')),
(aC (.str 'ȟ')),
(aC (.str 'Ƞ')),
(aC (.str 'ȡ')),
bP 'ҏ' 0='x',
Fed (b+1) L '亶',
bU ['Õ',I n] m R,
ks.length=ps.length,
ks.length=ys.length,
(ys.map PyData.str),
['ɧ','ɥ'],
['ɧ','ɦ'],
some (I ('囪')),
n1.mono '&',
n2.mono '&',
(by cases l<;>simp),
Fed (b+2) L '亶',
wc both s1 s2 s3 s4,
('ɧ',aK b0 c0)],
#[('ɥ',aK b0 c1),
(decide_eq_true c2),
(decide_eq_true c1),
.(by simp[PyData.eqv]),
List.getElem_mem hi,
h acc hp '%',
(some 'ƨ'::d1),
cD xs none '囜',
.str '侩' 165,
(fun e=>'Ȓ'),
wpAny_pyHash_int h,
wpAny_pyHash_str h,
PyData.depthAll ps,
(pJ '噍' k1),
Vals xs its.toList,
k a _ 'ʻ' e,
(fun 'O' n=>n),
hl j y v' '匹',
(.IfExp c a b pos),
(pyIter 'Ƥ'),
k it 'C' o e,
FnScope N ps scope,
b∈([]:'f'),
fun 'ǆ'=>'倓',
'亦' w s,
.(by rw[ay,ay];omega),
(typeIs_int s k t),
(ns.map WData.int),
(storedH xs k b u),
"__getattribute__",
InstAt h x ox C od,
.str '凥' t,
(.frz od (.xd fs)),
(by rw[q];exact h),
oM (some c0)=false,
(s.set i '҄'),
PT X c ('ǅ' tc),
PG X tg '噜',
ExtY '×' '¯',
⟨e.t,e.l,e.fz⟩,
{s' with heap:=h'},
R ('嚡') s₁,
'匞' st6 b hb,
(Ah eX 'ӝ' e68),
(RPs 'ɾ'),
(Nat.ne_of_gt zlt),
fun n2 e c2 he=>?_,
(qW '埠'),
(sE '埠'),
(fun 'ʆ'=>?_),
{s1 with heap:=h'},
y.length<=z.length,
(ag (I.kIn _ o e)),
(h _ (eE ok hp).1),
PairsH H' 'Ŕ' ps,
'П' Sz S1 S2 hS,
{s with heap:=h2'},
PE X k ('A' fk),
PE X v ('A' fv),
PE X lo '侳',
PE X st ('A' h),
(m2 b).isSome=true,
'?'->Int->Nat,
((i*5+1)%'ɤ')],
#[.(if k then 2 else 1),
R ('嘳') m',
decide ('ʿ'),
(nC '˭'),
(aC ('ν')),
['Ĉ',"a","b"],
J 'Ɓ' 'Ǵ',
some (.str (kd b)),
fun k=>'侓',
(List.range i).map,
⟨rfl,?_,_,rfl⟩,
(by simpa using c),
.(by rw[Fo];exact hg),
gb.log '&',
by simpa using at',
(List.range x).map,
p.1∈zd/\p.2∈ws,
decide_eq_true rfl,
some ('侔'),
some ('嘴'),
decide_eq_false q1,
(('ѯ')==0),
⟨K a,c,pos',B⟩,
'偬' 501,
⟨411,0,433,15⟩,
decide_eq_false h,
'亅' u,
'中'=some o',
a.there c ob q hx,
s.heap.IsCell c v,
(I.ok.noex '_'),
Option.some.inj e,
by simpa using hs,
by simpa using rv,
fun h' st' sb=>?_,
(sb.2 b hb).trans,
X.mg '倃'=none,
('Ö' '倃' p),
fun _=>True.intro,
⟨z,H,I,rw',q⟩,
'捘' f,
([]:List Keyword),
(pre_splitW hpre),
⟨ 'ɡ',[]⟩,
valueAt (q::qs) k,
(hs.2 b hb).trans,
X.A.units+1<cLine,
⟨rfl,rfl,rfl⟩,
'r' "Exception",
RPd '×' '½',
'ʄ' m1 H1,
(vC ho 'Ƈ' I h),
fun ',' q=>q.le,
('傊' j pos),
a.length+b.length,
(ok2.ext yy.same),
'井' ds vs,
A.units+100<cLine,
(x,NameKind.free),
⟨f3,f1,f4,f5⟩,
Ext '偵' m H,
'堬' σ H s,
af ⟨rfl,h₅⟩,
af ⟨rfl,h₃⟩],
#[fun a _ m=>RL a m,
('偹' m1 H2),
by simpa using lp,
ok5.grow yy'.same,
fun yv s9 hq0=>?_,
(fun {Q s} q=>?_),
(cI '堵' f),
(aP m2 a '丽'),
"desrever".toList,
"object.__init__",
'ĉ'-1-'ň',
((n-1-i:Nat):Int),
by simp[chkS]at h,
fun h' e k he=>?_,
x=.dat (pD l1 ps),
y=.dat (pD l2 qs),
'堍' hm g1,
(Ld '埪'),
KeyKind 'Ǻ' κ,
(k1 _ _ ('ϗ')),
(Sum.inr:Str->aL),
fun o e=>'П' e,
y=.dat ('{' rs),
(bQ vs ky).isSome,
PE X c ('A' h),
o.cls='r' "set",
('剆').isSome,
((g,y):κ×D).1=k,
((g,w):κ×V).1=k,
some (.frz ob u'),
List (PyData×β),
List.find?_some e,
∀ z∈ws,'ң',
'刐'.length,
(.o 'İ' []),
.two '®' i j,
'亓' 20000 r,
(.d (WD ts says)),
(aC ('噦')),
(aC (.str "may")),
"_law_order_here",
List.mem_map.mp h,
Int.mul_pos x0 x0,
[.inr t.1,.inl 0],
'嚳'∈ 'ɶ',
∀ u∈us,u∈ws,
h _ _ (keep G) ?_,
[t00,t01,t10,t11],
⟨_,rfl,z1,?_⟩,
(n.1*k.2+k.1*n.2),
decide_eq_true q1,
fun z h=>')',
"__firstlineno__",
(zE w.params).ins,
{cls:=c,data:=d},
some (.frz ob u),
k b u (hb b n) q,
I.ok.funs.mem hb,
(fun ',' e=>e),
(TP '买'),
(execs st X.env),
{D with nx:=u D},
.int (i^j.toNat),
(compareOp .LtE)],
#[fs.lookup m=none,
'刿'.toArray,
.seq its.toArray,
⟨o,e,ex.2.1⟩,
(.inl (.inl h2)),
RD 'Ķ' x v,
⟨_,'临'⟩,
⟨_,'嚻'⟩,
⟨b,rd.bl,?_⟩,
"tuple.__rmul__",
its.size*k.toNat,
RP 'Ʒ' q v,
k==NameKind.free,
RP '匽' p v,
ok5.ext yy'.same,
yy'.same _ _ hDy,
fun _ s7 hq0=>?_,
fun b s8 hq0=>?_,
assign tg2 env v,
h.get? it='G',
fun n1 z1 c1=>?_,
IsPair n2 TO a b,
n5.get? c='G',
"tuple_iterator",
ZqS l X.K H a xs,
ZqS l1 K H t1 xs,
ZqS l2 K H t2 ys,
⟨_,st.z,rfl⟩,
h2.get? b='G',
(by rw[hs2];rfl),
.(by show '亷'),
(stored acc k v),
(.dK (mI [] ws)),
(Ne.symm (lt e)),
(bQ vs k).isSome,
[a0,a1,a2,a3,a4],
Int.mul_pos hg h,
R (I ('ː')) m,
iG '偺' x y,
"_law_sign_here",
('剬').map bA,
⟨t.2,rfl,?_⟩,
(aP m c (.l [])),
Bd.part e1 g0 bt,
Bd.part e2 g0 bb,
'俽'∈ 'ɶ',
x.2=true->'ǫ',
Int.lt_or_le A 0,
Code.body b env0,
(mC p b 'O'),
(h.push o).get?,
ae (af 'Ȝ'),
Paired.length r,
PyData->V->Prop,
(xs.map 'Ō'),
fs.length<=1000,
(fun b u e=>?_),
(exec st X.env),
(binaryOp .Sub),
(binaryOp .Mod),
.int (i.fmod j),
(binaryOp .Pow),
(compareOp .Lt),
(decide (i<=j))],
#[(compareOp .Gt),
(compareOp .Is),
congrArg some e,
"type.__call__",
fun r s' hq=>?_,
⟨I2.kIn,?_⟩,
⟨ho,ho2,?_⟩,
fun m=>xs[i+m]?,
.seq vs.toArray,
yC hN hv hd hcd,
atKey (q::qs) k,
p.hasDict=false,
.dat ('4' a),
(.dat ('久')),
SqT X.K H1 a xs,
xs.length-'Ɓ',
('匞' st6),
'ʊ' H' a vs,
⟨z,ey,hz,q⟩,
ys=zs.map 'N',
noteFrame x env,
ZIt l h '傆',
⟨o,k o e,r⟩,
ZSq l2 n3 t2 ys,
ah _ ('ń'),
(bW aw 'А'),
pyNext 'Ǡ',
⟨_,hz',rfl⟩,
(vs.eraseIdx i),
keys.length<=15,
(zT r r' f g h),
some ('҉'),
⟨_,_,h1,h2⟩,
TSet P w h a zs,
L2.isKs ps=true,
some (.tup xs'),
('報' zs),
jE fs z=some sp,
by simp[oF]at n,
kQ 'č' (n+d),
Df K mg nm st a,
p.showable=true,
fun t=>'回',
['ɫ','ҝ'],
'剉'.filter,
rows.length<=20,
eM '勻' i,
sJ k l a ws x y,
.two 'ǭ' i j,
'Ҍ'.length,
List.cons.inj e,
(dF [] (gR ts)),
fun y hy hs=>?_,
m c=Option.none,
⟨false,rfl⟩,
(s00<=0->s01<0),
(0<=s00->0<s10),
fun _=>')',
bD (Ne.symm pq),
⟨_,_,_,rfl⟩,
∃ P,P='倉',
eM '勻' j,
Int.neg_mul _ _,
n1*(a*b)*(c*k2)],
#[k1*(b*c)*(a*n2),
(PyData.list L),
wX W (hmy p hp),
hmy p (hs p hp),
hmy p (oW p hp),
yL W (hgp p hp),
hgp p (hs p hp),
hgp p (oW p hp),
bD (Ne.symm wa),
'Ҧ'+400+20*j,
bD (Ne.symm ew),
bD (Ne.symm ec),
some ('ț'),
(Sum.inl a:aL),
(Sum.inr a:aL),
(cH 'Ǻ').is,
u=Value.type n,
AllBare s.gens,
(fun m hm=>?_),
⟨u',r',?_⟩,
GP 'Ù' Q s',
⟨σ,H,I,h⟩,
⟨H3,I3,q3⟩,
X.N[j]?='Ǩ',
pure Flow.next,
'傏' H' b,
J.yld '傃',
Int->Int->Prop,
(decide (j<i)),
bP xs i='y',
'ʊ' H p ys,
'亐' p ys,
.int ys.length,
(Obj.mapSeq f),
its.eraseIdx k,
'ʎ' callerA,
⟨h1,h2,ry⟩,
⟨h1,h2,h3⟩,
'ǂ' d v,
'堊' h3,
Ok 'Ҷ',
.dat ('{' b),
q.canLay0=true,
PyData.eqv p q,
.inl (.inl g0),
bP xs i='ŋ',
(dL 0 j.toNat),
(e13.trans e4),
('r' (lY q)),
[a,'Ö' T p2],
s2.heap.get? b,
Ext.fz ‹_›,
(emit D X.env),
Ok 'ϵ',
.lst (vs++[y]),
fun _=>.lst [],
off.inv I5 hs',
¬ ('ň'<0),
its.toArray[m],
Ae _ _ hm2 hlt,
ys=zs.map .int,
eval iter2 env,
its[i]?='x',
ZqS l K H a xs],
#[⟨none,rfl⟩,
bQ vs k='y',
RKV.repl hp h3,
⟨h2,h3,h4⟩,
(is.map V.int),
bQ vs z='Ҝ',
⟨_,hx,rfl⟩,
[kX kv.1,kv.2],
⟨_,hz,rfl⟩,
kvs.length<=15,
Paired r 'Ŕ',
('ĉ'-lo-1),
wpAny_Slice ?_,
L2.isKs k=true,
Nat.succ_pos _,
by split<;>rfl,
decide (ws=[]),
Fed 2 'ӄ',
BM k l n zs ws,
(dI k l x y z),
'乒'/\cU y.1,
rows[i.toNat]?,
(aC (.int 12)),
('傑' aF),
(aC (.int 10)),
(aC (.int 11)),
(aO 2 '剧'),
fun ','=>rfl,
(iI.getD i ""),
(aQ xs).length,
(iG '偺'),
.(by rw[f1];simp),
.(by rw[g1];simp),
absurd hc.1 cb,
bL [(s00,t01)],
bL [(s10,t00)],
eM true rows j,
b*g*(T'*(a*c)),
'举'.length,
Prod.ext t1 t2,
'ϩ'*12^'ϧ',
Value->Sem Fin,
"__builtins__",
(TY x x' w os),
(kU 10 74++[]),
(topStub prog),
Value.int i t,
Value.str x t,
Sum.inr.inj q,
us[i]?='»',
⟨_,rfl,r⟩,
X.H₀ b=none,
(I.cne 'ǿ'),
s.heap.get? a,
(.Expr e pos),
'Ū' body tb,
Int->Int->Int,
Vals 'Ʋ' us,
"__setattr__",
PE X value tv,
A.depth+3*k+5,
"__getitem__",
r 'Ӏ',
xs[j]?='y'],
#[(getItem o i),
⟨rfl,fin⟩,
fun h' kp=>?_,
"list.extend",
s₁.gens=#[],
fun '_'=>?_,
⟨0,0,0,0⟩,
(jS kvs more),
SqL K H' a vs,
⟨q1,h1.2⟩,
RPs.lift tr h,
RKV.lift tr h,
⟨v,h1,h2⟩,
(e2.trans h2),
(e3.trans e4),
⟨o,g1,g2⟩,
Str×NameKind,
yl '¯' eX.y,
mH fp s6.heap,
(fun D=>xQ D),
.(by rw[bC];rfl),
some ('ˏ'),
ys[i]?='Ǩ',
StrsAre us zs,
Option PyData,
(vs++[(k,v)]),
KEnt w es kvs,
(keeps '_'),
(I1.ok.hd hc),
z.map Sum.inr,
s.heap.get? S,
(ok1.ext sm1),
((fk,fv)::ps),
kR m y='Ǫ',
L2.isK p=true,
(.dN X.K kvs),
('亭' k),
(Hd 'č' k),
fun q a b=>?_,
t.dummies=#[],
[a0,a1,a2,a3],
.str (kd t.2),
[-1,-1,-1,-1],
ns.length<=63,
(.str (tn z)),
R ('ã') m',
(xs.map .int),
(ys.map .int),
zs.length<=13,
(says.map eQ),
[none,some 4],
(aC (.int 5)),
(aC (.int 4)),
(hf.trans q2),
hf2.upd ca cn,
d*(a*f)=a*d*f,
d*(e*b)=e*d*b,
(iP hb ha.py),
(iZ ha hb.py),
(a*n.2<n.1*d),
(n.1*d<a*n.2),
(by simp[e3]),
(kn.trans k1),
(a,p)∈ 'ɶ'],
#[(iP t2 t1.px),
(iZ t1 t2.px),
k<rows.length,
(cQ A0 B0 C0),
(cQ A1 B0 C1),
⟨lo',hi'⟩,
L.length<=100,
cX (fS nm hy),
"__package__",
'r' "frame",
some (.ref 0),
(fun w h=>?_),
decide (p=q),
u=Value.none,
RelV p.2 q.2,
bF (kL q hn),
('Ő' x o'),
⟨sl',e2⟩,
(a::b::rest),
False.elim z,
hN σ3 H3 n3,
tn i s'.heap,
(g==k)=false,
(eval e env),
fun y hy=>?_,
False.elim q,
s.TypeIs v T,
r1.append r2,
'亴' p xs,
Vals ys its',
(Ne.symm hb),
ob.dict=none,
⟨o,e,ex⟩,
'ӗ' .nil,
(true==true),
⟨[u],[]⟩,
'˫' z,
fun 'Ȁ'=>h,
valueAt vs k,
(atKey xs k),
('Ә' ob),
"ValueError",
Rw n hn _ ho,
(pU,.non)::r,
⟨_,.nil⟩,
(ok1.ext sm),
p.depth<=100,
fun _=>False,
eq_of_beq hx,
(Option Nat),
R (.ok f) s',
mu.2 _ _ rfl,
AR Z m H a o,
rs9.2 j z hj,
(loop _ rfl),
(newList []),
⟨[a],[]⟩,
hit m hm hm2,
('ͱ' fi2),
Value.ref tq,
its[i]?=none,
(pX l1 h t1),
'r' (ci l),
(.tup [_,_])],
#[kvs++['Ϧ'],
RelV v e.val,
(zs,a,v)::xs,
(rk Z 'ū'),
"list.index",
ps'.map .ref,
(Ne.symm nS),
(Ne.symm S3),
(Ne.symm S4),
(Ne.symm S1),
(Ne.symm S2),
⟨hl2,q2⟩,
X.K.lookup a,
(bW ws ks v),
(Vals.rel t),
d.set j none,
(p.getD j 0),
⟨[v],[]⟩,
'Ã' t2,
a-b*a.fdiv b,
i.natAbs<2^n,
[-1,-1,0,-1],
[-1,-1,1,-1],
ds=[I a,I b],
ds=[I t,I b],
Tm p t.2 x y,
'ȹ' x.1,
'區' n _,
.dat (eJ st),
"_law_least",
"_law_apart",
PyData->Prop,
k 'Ǵ',
ps.length<=6,
(nm f (s+1)),
('ȹ' z),
⟨rfl,q2⟩,
is.length<=2,
fun a ha=>?_,
fun z hz=>hz,
13*zd.length,
fun u hu=>?_,
⟨_,g,?_⟩,
(.dat (g z)),
.(by rw[qT,qT]),
(X*b-Y*a)*n2,
(Y*c-Z*b)*k2,
(hf1.new en),
1<=xs.length,
(Ne.symm ac),
(hU gu' gv'),
f6.get ca c5,
some (s2,t2),
[topFrame q],
"__loader__",
"__cached__",
hashStr w x,
hashKs w xs,
Value->Bool,
Array UInt8,
Value->Prop,
(xs.take n),
(xs.drop n),
us[i]?=none],
#[KLst K a xs,
(neL '_'),
.int (lo+i),
(f2 b hb).1,
again I7 n7,
Int->Int->V,
Pw x y=true,
('ʓ' ?_),
.str (i++j),
Vals [x] us,
(·.isSome),
(g==k)=true,
.(by simp[dS]),
(dS f y fs),
(Al f y fs),
(i+n).toNat,
j<xs.length,
Vals ys its,
fun a e=>?_,
bQ (p::r) k,
(ks.map kV),
af (ae fin),
List (V×V),
fun b q=>?_,
cE hp 'Ȁ',
m a=some c0,
H a=some o0,
('A' fi),
I1.tuple hq,
⟨vs,h1⟩,
'傄' xs,
(LS K body),
aq _ (ih h),
h₁.get? b,
(pyIter it),
rs5.ext e56,
e7.trans e8,
⟨?_,?_⟩,
(.str y tk),
KT X.K c zs,
i<ps.length,
Q acc d1 m2,
(LG X.K g2),
('ǅ' t2),
ys[k]?=none,
(cD xs l u),
(gZ vs l u),
(bW vs k v),
o.slots=#[],
.(by simp[q4]),
p.depth<=50,
j-ps.length,
(sm.seq g1),
(sm.seq g2),
⟨_,hS2⟩,
0<xs.length,
xs.length-1,
(ok.z b hz),
(jS [] kvs),
Value.ref _,
sI ok e1 r1,
sI ok e2 r2,
I4.tuple hq,
vs.lookup f],
#[⟨i1,i2⟩,
(dS f v vs),
Mk X.K C fa,
cW (p::r) k,
(e.trans z),
(hashInt z),
(pS zs tks),
lt a b=true,
lt b c=true,
lt a c=true,
t D EX σ H,
⟨_,X,G⟩,
.str (kd l),
[0,-1,1,-1],
[1,-1,1,-1],
[-1,-1,1,0],
[-1,-1,1,1],
.dat (fq y),
'ʋ' x.1,
'ʋ' x.2,
'ʋ' y.1,
'ʋ' y.2,
Row->PyData,
Lo ts x y n,
has ts ps r,
(xs.zip ys),
(fs.map oD),
"_law_most",
"_law_name",
J n 'Ø',
J 0 'Ø',
fs.map .str,
c*b*f=c*f*b,
Int.gcd x y,
h m Kn.refl,
(kn.new hc),
(kn.new kc),
.int (bK l),
fH l n w hw,
(es.map bA),
some (bX r),
⟨r1,r2⟩,
a.1*b.2*c.2,
b.1*a.2*c.2,
b.1*c.2*a.2,
c.1*b.2*a.2,
A*n.2=n.1*P,
n.1*P<A*n.2,
⟨lo,hi⟩,
⟨i,rfl⟩,
1<=L.length,
'u' st15,
g0::gr≠[],
α->Sem Fin,
h 'Ğ',
t0 w.params,
⟨x,k,v⟩,
(R.hold ?_),
⟨h,X,G⟩,
.(by obtain⟨_,l1,rfl,h1⟩:=dG h0;obtain⟨_,l2,rfl,h2⟩:=dG h1;obtain⟨_,l3,rfl,h3⟩:=dG h2),
wpAny_callSpecial?_slot (name:='ӽ'),
_ 'R' Z m xs ds us R Q,
∀['倦'](hs:'Ħ'){use:'呣'}{QQ:'9'}{pos':Pos}['圁']{H:Hp}{Z:'1'}{d:aS}{m:Mu},_,
.(by simp only[RD,RP]at r1;obtain⟨a,vs,rfl,_,h1,h2⟩:=r1)],
#[_ (hi:=hi) (hg:=hg) (ht:=ht) (he:=he) (hkind:=hkind) (hB:=hB) (hS:=hS),
.(by show 'Â';obtain⟨p,q,e1,e2,h1,h2,h3,h4⟩:=h;obtain⟨m1,w1⟩:='惏';obtain⟨m2,w2⟩:='惐';obtain⟨as,ra⟩:='崕';obtain⟨bs,rb⟩:='崖'),
∀(D:'屃':=by exact '卵')(hb:'凯':=by show '愩'),_,
∀(D:'Ю')(hz:'ԅ')(ht:'ӹ')(hTI:'Щ')(h1:'仰'),_,
∀(hf:'ʖ':=by show '愝'),_,
∀{z TI TO i1 i2 l1 l2:Addr}{T k:Nat}{b:Bool},_,
.(by unfold Builtin.SmallTypes.ownedTupleIsFree;refine '娒';simp only[if_true];refine '奔';refine '妮';replace z1:'尼':=z1),
∀{M:Model}{A:Around}{E:'9'}{i:Nat}{x:Str}{v:V}{u:Value}{Q:'ԓ'}['='](hN:X.N.Nodup)(hi:'ǖ')(hx:'ы')(r:'ć'),_,
∀{op op':CmpOp}{r r':D2}(ho:'儦')(ho':'峓')(ha:'Ç')(hb:'ƒ')(hc:'庫')(hm:'宕':=by show '垵'),_,
.(by show 'ҧ';obtain⟨hi,xs,ys,q1,q2,hn⟩:=hg;obtain⟨its1,r1,p1⟩:=q1.inv I;obtain⟨its2,r2,p2⟩:=q2.inv I),
.(by first | exact 'ё' | exact '徆' | show '愻'),
∀(hN:'ǖ':=by rfl)(hv:'ъ':=by show '圩')['Ť'](hcd:'他':=by decide),_,
.(by simp only[List.mem_cons,List.not_mem_nil,or_false]at hc;subst hn;rcases hc with rfl | rfl | rfl | rfl | rfl),
.(by obtain⟨o,ho,hc,hd⟩:=id hit;obtain⟨ol,hol,_,nl,hdl⟩:=ht;unfold Builtin.SmallTypes.nextOf;refine '堽'),
.(by obtain⟨u,hr,h5⟩:=hq0;subst hr;refine '崎';obtain⟨x,H6,I6,r6,yy,st6,fr6⟩:=hq0;have yy':=yd x H6 yy),
_ ht.typeIs PyProof.Rows.slot_tuple_getitem.lookup,
∀(hg:Gl X nm:=by rfl)(hdb:'孪':=by decide)(he:'ķ':=by rfl)(hpl:'Ǌ':=by rfl)(hn:'両':=by rfl),_,
∀{x qual:Str}{st:Stmt}{fa:Addr}{fd:FuncData}{N ps:'#'}{k:Nat}{sp:DC}{body:DS}(F:'嵌')(S:'Ԏ'),_,
.(by simp only[List.mem_cons,List.not_mem_nil,or_false]at hb;rcases hb with rfl | rfl | rfl | rfl | rfl),
.(by refine 'ñ';simp only[List.zipIdx_cons,List.zipIdx_nil,List.forIn_cons,List.forIn_nil];refine '吹'),
.(by refine '宒';rw['Ć'];simp only[List.forIn_toArray,List.forIn_cons,List.forIn_nil];refine ae ('吻')),
∀{t sl:Addr}{items:'T'}{vl vu:Value}{lo hi:'¡'}{Q:'9'}(ht:'и')(hs:'僣')(pl:'减')(pu:'凐'),_,
.(by first | exact '僜' | exact '叔' | exact '叕' | exact '取' | exact '受' | exact '变' | exact '嫭'),
∀{E:'9'}{pins:'6'}{s:Shared}{σ:St}{H:Hp}{x:Str}{u:Value}{pos:Pos}{Q:'9'}['='](hg:'Ċ'),_,
∀(elt tg iter tg2 iter2:Expr)(ifs ifs2:'E')(scope:Scope)(pos:Pos)(it acc:Value)(env:Env),_,
∀{elt tg iter tg2 iter2:Expr}{ifs ifs2:'E'}{scope:Scope}{pos:Pos}{it acc:Value}{env:Env},_,
.(by intro '乪' h hs;obtain⟨p,xs,i,z,rfl,rfl,hq,he,q⟩:=h),
∀(hall:'屵':=by rfl)(hl:'屶':=by rfl)(h0:keys≠[]:=by exact '伉')(h15:'弰':=by decide),_,
.(by rename_i p q hne;obtain⟨h1,h2,h3,h4⟩:=h;obtain⟨as,ra⟩:='Ԃ';obtain⟨bs,rb⟩:='崋'),
_ (a:=a0.1) (b:=a0.2) (c:=a1.1) (d:=a1.2) (e:=b0.1) (f:=b0.2) ha.px ha.py hb.px,
.(by obtain⟨p,hp,rfl⟩:=oA hx;obtain⟨v,hv,rv⟩:=h2.get hp;refine '妬';have:=y.2 vs q1),
∀['e']{n b L:Int}{m0 m:Mu}{R:DK}(h0:0<n)(hb:n<'剚')(hL:'ѷ')(hbb:'刯')(hf:'佑'),_,
.(by obtain⟨j,h1,h2,h3,h4,h5⟩:=vT he;obtain⟨w,ew,rw'⟩:=r.get h2;have hl:=r.length),
∀(cl:Value)(g:Addr)(clo:'Ǖ')(d kd dc pm:Value)(an:'ą')(cd ct:Value)(bi:Addr),_,
∀(hn:'ђ':=by decide),_,
by rintro n s4 ⟨i,ys,acc,d',m',σ',H',rfl,hi',I5,st5,fr5,hDy,racc,eX,ok5,rs5,lp5⟩,
∀(I2:'兀')(hf:'呎')(hob:'奊')(hkind:'ħ')(hcell:'ɇ')(hcl1:'婗')(hcl2:'即'),_,
by rw[Bool.and_eq_true,Bool.and_eq_true,decide_eq_true_iff,decide_eq_true_iff]at c,
.(by rcases ce.kind with⟨_,_,_,_,rfl⟩ | ⟨_,_,_,_,rfl⟩ | ⟨_,_,_,_,_,rfl⟩),
.(by obtain⟨it,fp,tn,J,H2,eit,I2,T,st2,f2,xs,m1,e1,ok1,yl,lp⟩:=h₂;subst eit),
by (show '愾'),
.(by unfold pyNext;refine '塟';unfold Builtin.«reversed.__next__»;refine '娑'),
by rintro s5 C D H' m' ps o q hDo mD e ok' ⟨vs,rfl,ar⟩ ar' rc hns I5 off,
.(by intro a o u q;first | (rw['専'];exact q) | show '抿'),
.(by show '愎';obtain⟨_,l4,rfl,h4⟩:=dG h3),
∀{k v:Expr}{ks:'ʤ'}{vs:'E'}{fk fv:DE}{ps:'ʲ'}(hk:'幌')(hv:'幍'),_,
by rintro ds m R hl ⟨ts,ps,says,rows,M,st,rfl,W,so,⟨i,rfl⟩,hN,hR⟩,
∀{NC:'#'}{src:'¸'}['剴'](he:'Ŭ')(hNC:'唇':=by rfl)['倥']['ϭ'],_,
.(by simp only[PyData.canLayAll0,PyData.canLay0,cX gu,cX gv,Bool.and_self]),
.(by rintro ds m R hl ⟨ts,a,b,k,l,rfl,hn,nd,ha,hb,h⟩;have g1:=oP nd ha),
.(by rw[List.any_map,Bool.eq_iff_iff,List.any_eq_true,decide_eq_true_iff]),
∀(hi:'ǖ':=by rfl)(hx:'ы':=by show '乜'),_,
.(by unfold DL.pick at ih ⊢;rw[List.filterMap_cons,List.filterMap_cons]),
.(by obtain⟨rfl,_⟩:=r2;obtain⟨vs,g1,g2⟩:=ok.d hm;obtain rfl:='吓'),
∀(ha:'΅')(hk:k<=j:=by show '垶')(hx:'ʠ':=by rfl),_,
.(by rintro ds m R hl ⟨rows,i,rfl,h⟩;unfold eM at h;refine '孅';rw[av]),
∀{st:Stmt}{f:Addr},_,
.(by obtain⟨x0,x1,x2⟩:='凁';obtain⟨y0,y1,y2⟩:='嗉';have c1:='囫'),
_ X rfl rfl rfl hc i pins s3 σ3 H3 X.xe I3 (stat fr3) st3,
.(by obtain⟨its,r1,p1,_⟩:='噕';obtain⟨its2,r2,p2,_⟩:=I.tuple hb),
.(by obtain⟨its1,r1,p1,_⟩:='嚨';obtain⟨its2,r2,p2,_⟩:=I.list g2),
.(by simp only[aQ,List.mem_cons,List.mem_append];rcases 'Η' with h | h),
.(by obtain⟨o',es',ep',ho',r'⟩:=hm;rw[ho]at ho';cases ho';exact '崷'),
∀{h h':Heap}{d:Addr}{o:Obj}{es ep}(ho:'冊')(hd:'Ζ')(hs:'巁'),_],
#[.(by obtain⟨σ3,H3,I3,n3⟩:=q3;obtain⟨m',hm,w3⟩:='性';exact '岍'),
.(by show '倲';obtain⟨p,ys,rfl,hq,q⟩:=h;obtain⟨u,rfl,rx⟩:=gE r),
.(by subst ey;obtain⟨ws,rel,dd⟩:='寧';obtain⟨w',hw',rw'⟩:='壉'),
.(by ·show '慛'),
∀{l1 l2:Bool}{z TI TO i1 i2 t1 t2:Addr}{k:Nat}{xs ys:'T'},_,
_ xs.length X.K 'Ц' [] tn fp 'ʛ' '婩' '姂' '应' '妭',
.(by intro '憩';refine '堾'),
_ '倱' (use:=none) (QQ:='军') (RL:='嬠') I ok rs h ?_,
.(by rw[List.length_append,List.length_cons,List.length_nil];omega),
∀{op:CmpOp}{r:D2}(ho:'儦')['乨'](hm:'仳':=by exact Mp _),_,
.(by simp only[Bool.false_eq_true,if_false,au,List.map_nil,bM,gN]),
FnOk '˝',
.(by simp only[Bool.false_eq_true,if_false]at h₃ ⊢;exact '庒'),
.(by obtain⟨t2,rfl⟩:=r2;obtain⟨t3,rfl⟩:=r3;have rd':='嶬'),
.(by rw['ƫ']at h;obtain⟨r,e1,e2⟩:=Hh c;rw[e1]at h;refine '壍'),
_ t b vs.toArray ws.toArray n n2 dd dd2 sl sl2 '巐',
.(by simp only[sliceBounds,HT.sIx,Option.getD_none,'屢',if_true]),
∀(hu:'Ĩ')(he:'Ī')(ho:'ȃ')(hi:'Ι')(hs:'夥':=by rfl),_,
_ xs.length Y.K Y pins tn fp 'a' '嬸' '帿' '嶟' '奓',
.(by intro '慭' kl ck),
.(by simp[zA,bX,PyData.eqv,PyData.canLay0,PyData.depth];exact h),
.(by rw[au,au];refine '嘞';obtain⟨h1,h2,h3⟩:=h;unfold putAt),
.(by simp only[RP]at h ⊢;obtain⟨a,o,u,vs,h1,h2,h3,h4⟩:=h),
∀(hs:'娌':=by rfl)(hw:'嫈':=by rfl)(h1:'妷':=by rfl),_,
∀(hc:'³')['Ҳ'](hi:'ĺ')(hg:'ŗ')(ht:'Ŗ')(he:'Ŭ'),_,
∀['愖'](h2:'呏')(g1:'兏')(g2:'巳')(hx:'喼')(hy:'喽'),_,
_ done tps dps kvs o3 o4 o5 m' e1 e2 e3 tt kn hm,
.(by obtain⟨its,r,ht,hz⟩:=I.tuple hx;have hlen:'尫':='宩'),
.(by subst e;rw[List.getElem?_set]at q;simp only[if_true]at q),
∀{H:Hp}['ȵ']{z TI TO i1 i2 l1 l2:Addr}{xs ys:'-'},_,
.(by simp only[RD,RP]at rd';obtain⟨a',vs,rfl,hq,hv⟩:=rd'),
_ none none,
.(by obtain⟨A,eA⟩:'峬':='3';obtain⟨P,eP⟩:'彏':='3'),
.(by refine 'ñ';simp only[newExc,newTuple];refine ae ('僛')),
∀['e']{o o0:HO}{c c0:Cel}['ğ'](hm:'悬')(hH:'悭'),_,
.(by rcases iM hv with⟨j,u,rfl,rfl⟩ | ⟨y,u,rfl,rfl⟩),
.(by intro '偂' '尹';subst e1 e2),
.(by simp only[RP]at h ⊢;obtain⟨a,vs,h1,h2,h3,h4⟩:=h),
.(by obtain⟨u,rfl,ru⟩:=gE rs;obtain⟨tk,rfl⟩:=id ru),
_ 'ˤ' 'Ê' ['ı'] _ [iv] Q I2 rfl '伹' '宑',
_ w s₀ s₁ mg mb fa o pm cd doc a vs ns G,
.(by simp only[Bool.not_true,Bool.false_eq_true,if_false]),
.(by rintro ds m R hl ⟨a,L,rfl,hL,hT,h⟩;have hf:='Ѯ'),
fin s5 C D H' m' ps q e ok' '咦'.1 hns I5,
.(by simp only[gN,List.set_cons_succ,List.set_cons_zero]),
.(by obtain⟨its,r',pl,hz⟩:='ȏ';have hlen:=r'.length),
_ 'ȴ' i1 i2,
ho' pins s4 σ H4 Z m4 y z' dy dw u w' R,
.(by rcases iM hb with⟨j,u,rfl,e⟩ | ⟨y,u,rfl,e⟩),
.(by ·show '憖'),
.(by obtain⟨H8,I8,m8,e8,ok8,q8⟩:=hq0;have e68:='悷'),
.(by obtain⟨C',dx,vs,h1,h2,h3⟩:=ok1.o hm;rw[g]at h2),
.(by rw['嬘']at e2;obtain⟨u',r',q⟩:='帤';refine '彦'),
Calls.Name_function_global I.ok.kind hg,
.(by rw[Option.isSome_map]at q;rw[<- q,<- l];exact '冴'),
.(by rw['恌'];simp only[beq_eq_false_iff_ne];exact '徎'),
_ (c:=b0.1) (d:=b0.2) (e:=b1.1) (f:=b1.2),
∀['乙']['ϻ']{outer:'û'}['ȵ']{H:Hp}(e:'僨'),_,
_ '忦' (ob:='嫿') '庘' rfl '巫' '婻' '倴',
.(by simp only[aQ,List.length_cons,List.length_append]),
.(by simp only[List.foldl_cons,List.length_cons];omega),
.(by obtain⟨its,r,ht,hz⟩:='惑';have hlen:=r.length),
.(by rintro ds m R hl ⟨z,rfl,hz,h⟩;have q:=Lq z hz),
_ 'ǥ' s.heap.objs.size],
#[∀['ƶ']{says rows:'ņ'}{M:Int}(W:'儼')['Ŏ'],_,
_ q loose XP YP l.row.toRowW d [] ('呌'),
.(by obtain⟨its,rv,⟨o,e,c,n,d⟩,_⟩:=I.tuple h2),
.(by obtain⟨_,_,_,_,o,_,_,e,ex,_⟩:='嗢';exact '怳'),
.(by show '˛';obtain⟨i,j,rfl,rfl,q⟩:=h;show '乭'),
∀['='](ok:'ѡ')(rs:'唤'),_,
∀['倥'](hs2:'傩':=by intro ',';rfl)['ϭ'],_,
∀{g':'但'}{t':Nat}{d':Drawn}{ch:'f'}['='],_,
∀{k:Nat}['ϻ'],_,
.(by obtain⟨cd,hc,_,ho⟩:=c.cd;have ne:'嶓':='太'),
wpAny_isInstance (T:='啫') (b:=true),
∀{a b c d e f:Int}(hb:0<b)(hd:0<d)(hf:0<f),_,
envOfC qual scope s.heap.objs.size f,
.(by obtain⟨σ7,H7,I7,d7,m7,e7,ok7,rs7,q7⟩:=hq0),
.(by unfold mroIn;rw[hc,Option.bind_some,'層','怽']),
_ PySem.F.slot_tuple_rmul.lookup 'Æ',
∀(hg:Gl X N:=by rfl)(hdb:'宗':=by decide),_,
.(by obtain⟨p,ey,hz,q9⟩:=hq1;subst ey;exact '尷'),
∀{px py pt:Pos}{kt k2 pt2}(hc:'³')['Ҳ'],_,
Kx (AR:=mO X.K) (o0:='徊') (a0:=[]),
∀(outer:'û')['˜'](H:Hp)(s:Shared)(Q:VK),_,
∀(X:Cx)(D:Addr)(emit:'Γ')['Č'](AR:'付'),_,
_ s7 σ7 H7 ys7 acc7 d7 m7 I7 '乢' a6,
.(by rcases h with h | ⟨o,its,n,hk,hc,hs,hz,r⟩),
.(by ·show '憿'),
_ PySem.F.slot_tuple_mul.lookup 'Æ',
.(by refine 'ñ';unfold Builtin.Tuple.tupleIsExact),
∀(X:Cx)(pos:Pos)(keys:'ʤ')(values:'E'),_,
_ '~' p1.isList p2.isList '咿' '哀',
by rintro ds m R hl ⟨k,l,n,z,w,rfl,hz,hw,h⟩,
PySem.W.callWith_K (h₀:=X.base),
.(by show '˛';obtain⟨p,xs,rfl,hq,fx,fs,q⟩:=h),
.(by obtain⟨v10,H10,I10,_,e10⟩:=hq0;subst e10),
.(by subst e;obtain⟨u1,u2,rfl,ru1,ru2⟩:=Ao r1),
∀(z TI TO i1 i2 l1 l2:Addr)(xs ys:'-'),_,
∀(hcd:'他':=by decide)(he:'ķ':=by rfl),_,
Int.mul_le_mul_of_nonneg_right h1,
Int.mul_le_mul_of_nonneg_right h2,
.(by rw[ih];unfold oK SetTable.advance;dsimp only),
∀(A:Around)(outer:'û')(s:Shared)(H:Hp),_,
∀{m n:Nat}{i j:Int}(h:Bd m i)(g:Bd n j),_,
∀['ö'](hu:'再')['='](g:'嗧')(ry:'ė'),_,
.(by cases u<;>first | exact '弳' | show 'ʈ'),
.(by rw[List.length_take,List.length_drop];omega),
.(by obtain⟨_,f1,_,f3,f4,f5⟩:='丼';exact '庎'),
.(by refine '完';simp only[Int.toNat_natCast,hx]),
.(by rw[evalPart_none,evalPart_some];refine 'ſ'),
PyProof.Rows.callWith_type1 '婙',
∀(hu:'庁')(ho:'Н' td)(hi:PE X i ty),_,
Builtin.Slice.slicePlaces lo' hi,
Int.gcd_le_natAbs_right t (b:=b),
.(by subst hj;rw[hi]at e1;cases e1;rw['寸']at e2),
.(by refine '壜';show 'ô';refine '孧';exact '寬'),
_ (i:=i) ('儣').2 ('伟') ('公') hk,
_ _ D.TIz D.TITO D.TIi1 D.TIi2 hTI,
Gz (t':=s.toks) I hf hin ru1 ru2,
.(by cases l<;>(show '抢')),
∀(Q:VK)(u:Value)['ʂ'],_,
wpAny_Call_method_late '土' rfl,
∀(mu:'嚿')(he:'咁')(k:'姪')(heo:'咂'),_,
.(by rw[hk]at g;simp;refine '恽';simp;refine '寶'),
_ '喇' '廍' '媶' '彥' '弋' I.bare,
segRunT treeTable p w 11 'ʭ' 1,
_ hc.cr hg hm hv ha hn hdb he hpl],
#[.(by obtain⟨q,es,ep,hq,h2,h3,h4,_,h5⟩:=dd'),
.(by obtain⟨hz,hTI,⟨a,b,hTO⟩,h1,h2⟩:=S),
∀(hn:'孼':=by rfl)(hst:'婏':=by rfl),_,
.(by show '圅';obtain⟨a,xs,rfl,hx,hw,q⟩:=h),
Int.gcd_pos_of_ne_zero_right t,
.(by subst e;obtain⟨o,e,c,d⟩:=st;exact '厪'),
∀{t sl:Addr}{items:'T'}{tk tk2:Tok},_,
∀(kk:'侭')['˜'](mg:'b')(base:Heap),_,
.(by obtain⟨m,⟨o,es,ep,ho,r⟩,_⟩:='囂'),
.(by obtain⟨h1,h2,⟨a,c,h3⟩,z4,z5⟩:=st),
.(by rw[<- Int.neg_fdiv_neg,Int.neg_neg,'ӧ']),
.(by simp only[if_true,au,List.map_nil,bM,gN]),
.(by generalize g0::gr=gaps at hgp gl gne ⊢),
.(by simp only[Array.length_toList]at e;omega),
subscriptTail_builtinR (x:=w),
.(by obtain⟨ob,_,_,h1,h2,_⟩:=dd;exact '哹'),
.(by show '愿';obtain⟨_,l5,rfl,h5⟩:=dG h4),
PySem.W.nsIn '2' mainGlobals,
∀(D:'吒')(S:'娮')(g1:'免')(g2:'兎'),_,
Sx (mask:=mask) (h:=h) (o:=o),
∀{n:Nat}{i j:Int}(h:'乐')(g:Bd n j),_,
compPost 'B' X.A X.xe use QQ,
_ '偌' pos' '恊' false '兪' use,
_ pins s4 'ģ' Y.xe I5 '噒' st5,
_ I4 ok4 r2 r4 '峔' rd4 q4 '墑',
Dc hh D Sz S1 S2 S3 S4 hl hsz,
.(by rw[List.reverse_cons,List.reverse_cons]),
.(by intro '扆'),
X.s₀.heap.FunFrames X.base,
.(by obtain⟨σ7,H7,I7,n7⟩:=q7;exact '悗'),
wpAny_setItem_heap (hsz:=hz),
_ (X:=X) (pins:=pins) (σ:=σ),
.(by show '乛';obtain⟨a,vs,rfl,_⟩:=h;rfl),
∀{keys:'ʤ'}{values:'E'}{ps:'ʲ'},_,
∀(hh:'ŀ')['愖'](g1:'兏')(hx:'嘫'),_,
_ (pL st) (rC st) env0 (oU st),
by rw[List.all_cons,Bool.and_eq_true]at f,
.(by rw['宺']at lp5;obtain⟨go,yd⟩:='婪'),
Int.mul_neg_of_neg_of_pos q,
∀{n lo st:Nat}(hl:lo<=n)(hs:0<st),_,
∀(o:Obj)(its:'T')['Î'](lk:'传'),_,
∀['ϻ']{C:Addr}{us:'5'}{kw:'ʧ'},_,
∀(hr:'喕')(hb:'у')['='](r:'ə'),_,
readsAll_keep ho hd hs xs _,
_ [] s4 'ģ' 'ʪ' I5 stat st5,
by rw[List.getElem?_eq_none_iff]at e ⊢,
.(by obtain⟨⟨ns,i,j,t,q1,q⟩,h2⟩:=h),
by rintro ds m R hl ⟨k,l,z,rfl,hz,h⟩,
PySem.seqSlot_of (T:='â'),
.(by rename_i a b;simp only[RD,RP]at r1 r2),
.(by subst hn;obtain⟨fd,F,B,M,C⟩:=C.ex),
wpAny_setField_rec hz 'C',
IsPair h' s.heap.objs.size,
'坅' (a:=false) (pos':=dp),
PySem.W.findIn '2' ('ț'),
_ '悹' (dP '丷') ('侶') 'ɑ',
_ ('ɥ') 'µ' '侹' 'µ' '冽',
_ hcd hmg hobj hints hlen hg,
FnOk l.prog w '佫' mg base,
.(by obtain⟨z,y,xs,r,ob,es,ep,e,c⟩:=x),
by unfold getAttr? getAttrBy? getAttrBy,
.(by ·show '址'),
.(by unfold gH;rw[List.filterMap_cons,hf]),
.(by show 'ҧ';obtain⟨xs,x,hq,hx⟩:=hg)],
#[.(by show 'ɹ';obtain⟨v,r,h1,_,h3⟩:=h),
.(by obtain⟨o,ho,hce⟩:=he;refine '墹'),
∀['Ť'](hs:jR i:=by exact 'ŵ'),_,
Nat.pow_le_pow_right '&',
∀(h1:'刪'/\'别')(h2:'刬'/\'刭'),_,
.(by subst hy;rw[Int.gcd_zero_right]at hg),
.(by obtain⟨hx,hy,_⟩:=h;have gx:='嗎'),
_ '˝' N qual,
tail_any (ops:='嬼') '愢',
∀['e']['Ј'](ne:a≠D)(h:'ʸ'),_,
RP.tr '嬶' (Br hD hk) p v,
_ ws [] none 'Ĭ' '嶺' '嬧',
.(by rcases I.ok.stk with e | ⟨e,hf⟩),
.(by cases b<;>simp[behindInMarks,e1,e2]),
.(by obtain⟨f0,f1,f2,f3,f4,f5⟩:='丼'),
.(by simp only[au,List.zip_cons_cons,bM]),
_ s₂.heap.objs.size 'ʛ',
wpAny_nextOf_list_end hh,
.(by subst hn;obtain⟨fd,_,B,F⟩:=F.ex),
Int.fmod_nonneg_of_pos _,
looks_findIn (M:='佦') X,
wpAny_of_eq (a:=()) '宼',
R.mono (N1:=6+'內') '&',
_ items.size items.size hi,
_ 'Ҟ' pl.isList '僀' '儘',
_ (NC:=NC) '倴' he '圕' hs,
_ H3 ('兵') 'Ά' ok3 .ofBl,
ho 'ˤ' Z m2 x y dx dy v u,
wpAny_setField ho hd 'C',
.(by ·show '扣'),
.(by ·show '扤'),
.(by ·show '扭'),
by rintro ds m R hl ⟨ns,rfl,hn,h⟩,
by rintro ds m R hl ⟨ts,rfl,hn,h⟩,
.(by obtain⟨us,mf,nd,sub,iff⟩:=G.us),
.(by show 'ҧ';obtain⟨xs,hq,hx⟩:=hg),
.(by obtain⟨_,_,_,q⟩:=hs;exact '怬'),
.(by intro x hx;rcases '伐' with e | hx),
.(by obtain⟨o,e,dd⟩:='帽';exact '卙'),
.(by intro m hm hlt;have hm2:'凫':=')'),
_ (t':=s.toks) (ch:='я'),
∀(both:Bool)(s1 s2 s3 s4:Int),_,
.(by rw[List.map_map]at this;exact this),
subscripted slice false,
∀(e:Addr)(cls:Value)(dx:'ą'),_,
s.heap.IsListIter i1 l1,
s.heap.IsListIter i2 l2,
∀['Ġ'](a:Str)(ws:'#')['ӂ'],_,
pA (s:='Ƒ') e c d '&',
_ '倴' hi2 hg2 ht2 he hs2,
_ c o '忇' hc nch ho '啚',
_ done '坳' m' e hf hm ht,
_ y m9 v H9 hq1 e9 ok9 r9,
.(by obtain⟨Z,d,m,R,ok,rs,hf,k⟩:=h),
.(by rcases '崒' with⟨rfl,rfl⟩ | e),
.(by obtain⟨v,w,rfl,g1,g2⟩:=rd.two),
.(by simp[PyData.eqv,PyData.eqvAll,bC]),
PySem.W.methodObj 'Ǟ',
Nat.le_trans I2.ok.bsz,
_ s.heap.objs.size false,
.(by obtain⟨T,n,l,g,d,k,o⟩:=sT;rfl),
∀(X:Cx)(tg iter:Expr)(wi:TI),_,
∀{it tq:Addr}{i:Nat}(x:'弨'),_,
.(by subst h1;unfold bN at e;unfold bQ)],
#[listUpdate_at hS' 'ď',
∀(hz:'ǝ')(x0:0<=x)(x1:'剥'),_,
∀(hL:'侻')(hb:'刯')(hf:'佑'),_,
_ callerA '嫦' '墠' s₁,
∀['Ĵ']{H:Hp}['æ'](hb:'咉'),_,
∀(NC:'#')['倷']['倥']['ϭ'],_,
cI '冻' (gA '份') 'l',
_ b o hb.1 hb.2.2.1 '噠',
nT (X:=X) ha '專' '啭',
lU (v:='ˏ') hg hm rfl,
by rintro ds m R hl ⟨k,l,rfl,h⟩,
by rintro ds m R hl ⟨a,b,rfl,h⟩,
Nat.le_trans I.ok.bsz,
.(by simp only[RPd]at h ⊢;show '圈'),
_ Z s₂.heap.objs.size,
.(by obtain⟨o,ho,r⟩:=ht;exact '崔'),
.(by obtain⟨o,ho,_⟩:=b3;exact '媼'),
.(by obtain⟨o,ho,_⟩:=b4;exact '媽'),
SetTable.below #[i,j],
kd.dictOf (P:=X.prog),
_ F.plain_extend_loop _,
I1.kept (t':=s1.toks),
∀(hd:'全')(hz:'兔')(r:'帡'),_,
∀(C:Addr)(us:'5')(kw:'ʧ'),_,
wQ (env:=X.env) hcell,
_ scope cl HP.objs.size,
.(by rename_i q;rw[q,h]at hb;cases hb),
_ '右' (ek '丨') (fq y),
∀{x:'o'}(hx:'Ʀ')(e:x.1=a),_,
R.mono (N1:=1+0) '&',
∀(d:aS)(m:Mu)(R:'Ą')['劊'],_,
_ hkind hcell hcl1 hcl2,
∀{g:DG}{t:DT}{f:DE}{Q:'ļ'},_,
_ H9 'ƪ' [y] 'ƪ' [yv],
_ dX dY dm '嘾' '嘿' bm,
_ done o2 o3 m' e kn hm,
.(by intro '拦'),
.(by ·show '押'),
.(by obtain⟨v,hv',rv⟩:=g2.val hv),
by rintro acc d m' ⟨rfl,rfl,_⟩,
∀(hok:'咷')(hg:AllBare g'),_,
.(by refine '墮';rcases hc with z | z),
wpAny_newObj_type ?_,
.(by show '圸';obtain⟨t,rfl⟩:=rv),
_ _ List.mem_cons_self,
.(by obtain⟨hr,I6⟩:=hq0;subst hr),
.(by simp only[raiseNew];refine '嵔'),
_ (c:=.d []) (o:='ҡ'),
.(by obtain⟨u,hu,r⟩:='剣';rw[hu]),
.(by unfold bN;rw[List.find?_append]),
Int.fmod_lt_of_pos _,
by rw[<- eT']at e1;rw[<- eB']at e2,
_ p List.mem_cons_self,
.(by refine 'ˀ';have gne:'愇':='伉'),
SetTable.runEnd mask,
_ u.tups u.frzs u.tbls,
∀(X:Cx)(target:Expr)(t:TG),_,
.(by simp at h1 h2;subst h1;subst h2),
∀(X:Cx)(id:String)(r:'Ɋ'),_,
∀{prog:Program}{w:World}{A:Around}{R:'з'}{z TI TO i1 i2 l1 l2 S:Addr}{res:Value}{xs ys:'-'}(hh:'ŀ')(D:'Ю')(Sz:S≠z)(S1:S≠i1)(S2:S≠i2)(S3:S≠TI)(S4:S≠TO)(hl:'儸')(hsz:'啰'),_,
∀{d:Addr}{xs:'ƍ'}(r:'嵣'),_,
PySem.W.codeIn K cdv,
∀['Ѓ'](f:α->β)(xs:'¹'),_,
.(by have:=Ig E;have:=Gn E;show '^')],
#[_ kvs (ek 'ο') (fq x),
readsAll_old hk xs _,
RP.tr (Az hD) uQ p v,
_ its r' hz h' c' kp e,
.(by ·show '埏';rw[e1]),
.(by obtain⟨mA,O,r,_,_,_⟩:='噔'),
.(by ·show '拨'),
.(by obtain⟨o,ho,hc,hd⟩:=id hit),
.(by obtain⟨h2',eh2⟩:'壨':='3'),
.(by obtain⟨_,l1,rfl,h1⟩:=dG h0),
.(by simp[PyData.eqv,PyData.eqvAll]),
∀{a0 a1 b0 b1 c0 c1:'F'},_,
I.kept (t':=s.toks),
.(by show '˛';obtain⟨rfl,q⟩:=h),
.(by simp only at hc hd;subst hc hd),
.(by obtain⟨o,e,r⟩:=x;exact '弩'),
.(by refine '塿';have p2:'廨':='娓'),
List.Pairwise.map _,
.(by simp only[kX,RP]at g1;exact g1),
_ F.plain_list_iadd _,
SetTable.below '喗',
Int.mul_nonneg '唶',
.(by rw[e]at e';cases e';rw[d]at d'),
∀['Ҳ'](hi:'ǖ')(hx:'ы'),_,
PySem.W.takerIn K C,
∀['励']{kvs:'Ȅ'}{k:'ş'},_,
.(by simp at e;subst h1 e;exact '冡'),
∀(m':Mu)(e:'Ñ')(ok:'ŝ'),_,
∀['Џ'](hl:'幎')(hs:'幏'),_,
∀{p:κ×β}{r:'ɗ'}{k:κ},_,
∀{k:Nat}{N:'#'}{body:DS},_,
∀{x:Str}{v:V}['ʇ']['ʉ'],_,
_ '剟' hd dd.mapOf ?_,
_ doneF deadEnd id id,
_ env0 '喠' '冉' 'ʶ',
_ I.kIn '忢' e 'Ȃ' h,
RP.tr ('囓') vY p v,
_ hx ha hg hdb he hpl,
_ 'R' Z m x y _ _ v u R Q I ok rx ry r1 r2 h k,
k _ m' _ H' q e ok',
.(by intro 'R' '偼' h),
.(by simp only[h,if_false]<;>omega),
.(by rw[zV,'巔',Option.isSome_map]),
.(by obtain⟨a,vs,rfl,h2,h3⟩:=h),
by (show '挩'),
.(by simp only[if_true]at h₃ ⊢),
.(by obtain⟨ky,kvs,hk,hm,q⟩:=h),
.(by rcases h with⟨q,hq⟩ | rfl),
.(by have bb:Bd 80 'ҁ':=x2.mul y2),
wpAny_specialOf hT,
wpAny_forIn_list _,
assignInOrder '妨',
∀(hg:Gl X '倃')(hm:'幷'),_,
.(by show '˛';obtain⟨hs,q⟩:=h),
PySem.W.keepIn X.K,
PySem.W.kitOne X.K,
attributeBase 'λ',
.(by refine '徟';rw[evalPart_some]),
∀(x y z:PyData)(xs:'('),_,
.(by subst pe;simp[bM,uO,hk,kd,hm]),
.(by rw[List.append_assoc];exact h),
R.leaf (sT':='厮'),
R.leaf (sT':='去'),
R.leaf (sT':='厯')],
#[R.leaf (sT':='厼'),
R.leaf (sT':='厰'),
R.leaf (sT':='厽'),
letOwnedTupleGo tg,
hash_readsAll xs _,
∀(σ':St)(H':Hp)(I:'Ԉ'),_,
∀(sp:Sp)(dvs:'-')(E:XK),_,
∀{p:κ×V}{r:'n'}{k:κ},_,
_ '圠' '愓' (hs:=hs),
∀(ps:'#')(k:Nat)(sp:DC),_,
_ '咭' ('呩') ('ԭ'),
notedBy '@' A env,
SeqAt.EqAt A s u v,
_ ho hc hd '婕' '仫',
'偋' xs a0 'ɜ' m1,
_ acc' o0 o1 o2 'Ũ',
Wr ts ps says rows,
gW CX '戚' scope f,
_ n n2 dd dd2 sl sl2,
_ 'R' vs us Q I r h,
.(by obtain⟨o,es,ep,ho,r⟩:=hm),
.(by simp only[h,if_true]<;>omega),
.(by obtain⟨v,w,rfl,h1,h2⟩:=h),
.(by obtain⟨o,ho,_⟩:=obf b hb),
.(by obtain⟨c,rfl⟩:'嵤':='寭'),
∀(S:'Ԏ':=by exact '壠'),_,
.(by obtain⟨i,r,rfl,hr,hi⟩:=h),
∀{m:'ϔ'}{f:α->Sem β},_,
∀{α:Type u}{β:Type v},_,
Nat.le_trans I.sz,
_ (t':=s.toks) '巌',
HT.sIx its.length,
.(by rw[List.map_nil]at r;cases r),
.(by simp only[hx]at h;exact '悳'),
.of (owner:='ƣ'),
_ isSubtype_stop ?_,
typeLookup ('ѫ'),
o.setIfInBounds j,
by rw[Int.mul_neg]at this;omega,
pick items.toList,
PySem.W.instObj C,
s.heap.IsTuple tq,
attributeBase e f,
∀['勤']{kvs:'È'}{k:aL},_,
.(by show 'P';rw[hH]at h;cases h),
.(by show 'ƃ';refine '奒';subst e),
∀(Y:Cx)(ifs:'E')(t:TT),_,
_ (o:='庛') 'Ś' Cr,
∀['争']['圊'](hs2:'傩'),_,
_ _ D.i2z.symm '妈',
_ '倞' cR (aR '呂'),
∀{k:aL}['Ŏ']{kvs:'¿'},_,
.(by refine '廃';rw[jM];refine '厭'),
TX [e1 '΄'] 'Ƿ',
_ b o '冋'.1 '冋'.2,
_ '垐' hc hcell fin,
_ 'Ҟ' pl '僀' '儘',
_ callerA [] s₁ H,
_ 'ō' '塒' I1 '墼',
cI '少' '凲' 'ƅ',
cI '咲' '凲' 'l',
mG hpos hlen 'Ё',
Un ('侪') ch H H',
_ d4 m4 s4 '垖' rs4],
#[.(by obtain⟨v,o,ho,hd⟩:='凋'),
.(by obtain⟨z,its,r,p⟩:='噐'),
by (show 'ċ';rfl),
.(by ·rw[if_neg h1]at h;cases h),
.(by obtain⟨v,o,ho,hd⟩:='崍'),
.(by obtain⟨w',hw,rw'⟩:='壂'),
.(by obtain⟨pr,hp,hp2⟩:='吏'),
.(by obtain⟨a,vs,e,h1,h2⟩:=h),
by rintro d' m'' ⟨rfl,rfl⟩,
.(by intro '扶'),
.(by obtain⟨ha,hb,hn,ho⟩:=ok),
by rw[nB,List.mem_append]at hz,
.(by cases k<;>cases l<;>cases n),
h.IsTupleIter it,
∀(f:Addr)(fd:FuncData),_,
h _ _ '剫'.1 '剫'.2,
_ kindOf ('囉') m x,
PySem.W.keepIn K,
List.replicate m,
.(by intro x hx;exact nomatch hx),
.(by rw[<- '儥',<- l];exact '冴'),
PySem.W.kitOne K,
by unfold upd;split<;>simp_all,
HT.sIx vs.length,
.(by unfold bQ at this;show 'ĵ'),
∀{xs ys:'-'}{ps:'f'},_,
∀(t:SetTable)(es:'ф'),_,
∀{t:SetTable}{es:'ф'},_,
.(by unfold Bd;have e:'孮':='U'),
.(by unfold dL at this;show 'ƹ'),
.(by unfold Bd;have q:'姨':='U'),
∀(sT:SharedT)(pos:Pos),_,
And.intro (hq _),
∀(X:Cx)(es:'E')(t:TA),_,
∀(X:Cx)(ts:'E')(t:jH),_,
∀['愑']{RL:'ļ'}['憘'],_,
codeAny '众' Y.A,
∀['圦']{x:Value}['ö'],_,
.(by rw[hs];refine '塍';subst ez),
.(by show '偉';subst h;show 'Ҫ'),
∀['ª']{i:Int}(h:'乐'),_,
∀{g:DG}{b:DS}{E:Ends2},_,
envOfC qual '憒',
_ H3 q3 ('嗬') ok3,
RPd.tr0 ht hl hf,
_ '%' I2 hf2 '佇',
_ pins s1 σ1 H1 _,
_ '倸' hr he hb hv,
_ 'ç' H1 J q '˥',
_ I '½' its h3 rv,
_ N nm 'ǥ' a 'Ђ',
vB hz x0 x1 '϶',
_ kvs o3 o4 o5 m'',
_ cY 10 fa fd '一',
.(by obtain⟨k1,k2,as,r⟩:=hk),
.(by obtain⟨_,o,ho,_⟩:='廌'),
.(by obtain⟨m,hn,hl⟩:=I.loc),
.(by obtain⟨hh,g,d,t,os⟩:=s),
.(by ·rw['φ','φ'];exact '嘟'),
.(by ·rw['ˆ','ˆ'];exact '宮'),
by rw[List.getElem?_map]at hx,
∀(hd:'宇':=by decide),_,
.(by ·rw[hit _ _ hj,'嵕'];simp),
.(by obtain⟨v,r,e,h1,h2⟩:=h)],
#[.(by obtain⟨y,hy,rfl⟩:='唕'),
wpAny_mono '孑',
PySem.Within mA,
swapsWith value,
∀['劦'](hv:'丁'='哲'),_,
s.heap.update p,
call_list_seq p,
wpAny_mono h₁,
wpAny_mono h₂,
_ ('ʔ' c) 'ѧ',
∀(h2:2<=k)(h3:k<=100),_,
wpAny_mono h₃,
typeLookup 'ɕ',
turns (s:='催'),
KEnt.out (P:=P),
'˩' ('伫'>>=_),
typeLookup '俛',
∀(h1:w<=w')(h2:e<=e'),_,
'圌' (k:=false),
PyData.eqv 'Ϟ',
∀{t u n:'F'}{s:Bool},_,
∀(pt:0<t.2)(pu:0<u.2),_,
.str "<module>",
'意' hit.typeIs,
PySem.W.fnOf nm,
_ (aP m p c) '嘡',
.(by intro e;subst e;rw[h]at h'),
NKVs.stay ht hf,
u.any ho I.free,
'務' X.A ('伫'),
∀(X:Cx)(e:'丠')(t:TO),_,
setField 'Ƥ' 1,
∀['Ŏ']['坠'](h:'侺'),_,
_ kvs '庾' ('儃'),
_ kvs '·' ('仑'),
_ m4 trivial '儯',
_ X.A X.stack s H,
gW cY '戚' 'ǥ',
T.self _ 0 ',',
cP '寤' xs '勞',
Binds X.K fd ps,
_ r m' q0 q1 '怈',
_ '刄' _ A E s as,
_ outer P w H s Q,
_ kindOf binds m x,
_ ws x0 x1 o2 o3 h,
_ x y k l m' 'œ',
RPs.ext '凘' _ _]]
mutual section G
set_option Elab.async false
set_option linter.all false
set_option maxRecDepth 100000
set_option maxHeartbeats 4000000
universe u v
section
open PySem
abbrev ad:=PySem.W.Frag
def ae['Ѓ']{M A E s}['拮']{Q:β->'Ĕ'}(h:'˯' m (fun a=>wpAny M A (f a) Q E) E s):'˯' (m>>=f) Q E s:=wpAny_bind h
def af['Č']{M A E s}{a:α}{Q:α->'Ĕ'}(h:Q a s):'˯' (pure a) Q E s:=wpAny_pure h
def ag['Ď']{a o}(e:'Ų'):'喡':=Heap.lt_size e
def ah['Ď']{a p}(o:Obj)(e:'Ƨ'='ŋ'):'弅' a='ŋ':=Heap.get?_push_of_some o e
def ai['æ']{o:Obj}(e:o.isFreed=false):'弅' h.objs.size='G':=Heap.get?_push_size h e
def aj{a b c:Nat}(h:a<b)(k:b<=c):a<c:=Nat.lt_of_lt_of_le h k
def ak(a:Nat):a<=a:=Nat.le_refl a
def am:¬ 'Ѱ':=Bool.false_ne_true
def ao{a b:Nat}(h:a<b):a≠b:=Nat.ne_of_lt h
def aq['Č'](y:α){a l}(h:a∈l):a∈y::l:=List.mem_cons_of_mem y h
def au['拯']{f:α->β}{a l}:(a::l).map f=f a::l.map f:=rfl
def av['拯']{l:'¹'}(f:α->β):(l.map f).length=l.length:=List.length_map f
def ay{α:Type u}{l:'¹'}:l.toArray.size=l.length:=rfl
section E
namespace L2
open PySem PySem.Spec PyProof.Rows
noncomputable instance decPy:DecidableEq PyData:=fun _ _=>Classical.propDecidable _
mutual
def isK:'准'
 | '¶'=>true
 | 'Ě'=>PyData.strOk x
 | 'á'=>isKs xs
 | '$' | 'î' | 'ý' | 'ï'=>false
def isKs:'唛'
 | []=>true
 | 'X'=>isK x&&isKs xs
end
mutual
def At['Ƅ']:PyData->Int
 | '['=>hashInt i
 | 'Ě'=>'悋'
 | 'á'=>reduceHash (Builtin.Tuple.tupleHashOf ('悌'))
 | '$' | 'î' | 'ý' | 'ï'=>0
def hashKs['Ƅ']:'('->'?'
 | []=>[]
 | 'X'=>At w x::'悌'
end
mutual
def xK:PyData->Nat
 | '¶' | 'º'=>1
 | 'á'=>drawsKs xs+1
 | '$' | 'î' | 'ý' | 'ï'=>0
def drawsKs:'('->Nat
 | []=>0
 | 'X'=>xK x+drawsKs xs
end
mutual
theorem pJ:∀ p:PyData,'侧'->'佄'
 | '¶',_=>rfl
 | 'º',h=>h
 | 'á',h=>isKs_lay xs h
 | '$',h | 'î',h | 'ý',h | 'ï',h=>'Ο'
theorem isKs_lay:∀ ps:'(','凇'->PyData.canLayAll0 ps=true
 | [],_=>rfl
 | 'X',h=>by
  simp only[isKs,Bool.and_eq_true]at h;simp only[PyData.canLayAll0,pJ x h.1,isKs_lay xs h.2,Bool.and_self]
end
mutual
theorem Es:∀ p q:PyData,'侧'->isK q=true->p.eqv q='怟'
 | '[','ɩ',_,_=>by
  simp only[PyData.eqv,PyData.int.injEq];exact '宣'
 | 'Ě','ˊ',_,_=>by
  simp only[PyData.eqv,PyData.str.injEq];exact '宣'
 | 'á','4' ys,h,h'=>by
  have e:=isKs_eqv 'Ŕ' h h'
  simp only[PyData.eqv,PyData.tuple.injEq];exact e
 | '[','ˊ',_,_ | 'ˊ','[',_,_ | '[','҂',_,_ | '҂','[',_,_ | '久','҂',_,_ | '҂','久',_,_=>by
  simp only[PyData.eqv];exact(decide_eq_false '帜').symm
 | '$',_,h,_ | 'î',_,h,_ | 'ý',_,h,_ | 'ï',_,h,_=>'Ο'
 | '¶','$',_,h | '¶','î',_,h | '¶','ý',_,h | '¶','ï',_,h=>'Ο'
 | 'º','$',_,h | 'º','î',_,h | 'º','ý',_,h | 'º','ï',_,h=>'Ο'
 | '俯','$',_,h | '俯','î',_,h | '俯','ý',_,h | '俯','ï',_,h=>'Ο'
theorem isKs_eqv:∀ p q:'(',isKs p=true->isKs q=true->PyData.eqvAll p q='怟'
 | [],[],_,_=>'ӿ'
 | [],_::_,_,_=>'ӿ'
 | _::_,[],_,_=>'ӿ'
 | 'X',y::ys,h,h'=>by
  simp only[isKs,Bool.and_eq_true]at h h';simp only[PyData.eqvAll,Es x y h.1 h'.1,isKs_eqv 'Ŕ' h.2 h'.2,List.cons.injEq];exact(Bool.decide_and _ _).symm
end
mutual
theorem Fy['慒'] :
  ∀ (p:PyData) (v:Value) (as:'f'),'侧'->'孎'
 | '¶',_,_,_,r=>'屖'
 | 'º',_,_,_,r=>'屗'
 | 'á',_,_,hk,r=>by
  cases r with
  | tuple h1 h2 h3 h4 =>
   rename_i a ob vs n;have hne:a≠d:=by
    show 'P';obtain rfl:ob=o:=Option.some.inj (h1.symm.trans ho);rw[hd]at h3;exact nomatch h3
   exact '4' ((hs.2 _ hne).trans h1) h2 h3 ('懾' _ hk h4)
 | '$',_,_,h,_ | 'î',_,_,h,_ | 'ý',_,_,h,_ | 'ï',_,_,h,_=>'Ο'
theorem readsAll_keep['慒'] :
  ∀ (ps:'(') (vs:'5') (as:'f'),'凇'->'婣'
 | [],_,_,_,r=>'崳'
 | 'X',_,_,hk,r=>by
  simp only[isKs,Bool.and_eq_true]at hk
  cases r with
  | cons r1 r2=>exact 'D' (Fy ho hd hs x _ _ hk.1 r1) ('懾' _ hk.2 r2)
end
section
variable {prog:Program}{w:World}
mutual
theorem Qr:∀ (p:PyData) (v:Value) (A:Around) (E:'9') (s:Shared) (as:'f') (Q:Int->'Ĕ'),'侧'->'巂'->A.units+p.depth<cLine ->
  Q (At w p) {s with toks:=s.toks+xK p}->'K' (pyHash v) Q E s
 | '[',_,A,E,s,_,Q,_,r,_,h=>by cases r;exact '帝'
 | 'Ě',_,A,E,s,_,Q,_,r,_,h=>by cases r;exact '帞'
 | 'á',_,A,E,s,_,Q,hk,r,hu,h=>by
  cases r with
  | tuple h1 h2 h3 h4 =>
   refine PySem.W.pyHash_slot (T:='â') 'і' F.slot_tuple_hash F.entry_tuple_hash (F.args_tuple_hash_1 _) (beq_builtin_none _) (.inr '%') ?_
   show '<' (Builtin.Tuple.tupleItemsOf (.ref _)>>=_) _ _ s
   refine ae (wpAny_tupleItemsOf h1 h3 ?_);show 'Ǽ';rw[<- Array.forIn_toList];refine '拗' A.in1 E s _ #[] _ hk h4 (by simp only[PyData.depth,Around.in1_units]at hu ⊢;omega) fun b hb=>?_
   show '<' (retInt (Builtin.Tuple.tupleHashOf b.toList)) _ _ _
   rw[hb];exact ae (wpAny_mkInt (af ⟨_,_,rfl,h⟩))
 | '$',_,_,_,_,_,_,h,_,_,_ | 'î',_,_,_,_,_,_,h,_,_,_ | 'ý',_,_,_,_,_,_,h,_,_,_ | 'ï',_,_,_,_,_,_,h,_,_,_=>'Ο'
theorem hash_readsAll:∀ (ps:'(') (vs:'5') (A:Around) (E:'9') (s:Shared) (as:'f') (b:Array Int) (Q:Array Int->'Ĕ'),'凇'->'垟' vs ps as->A.units+'帟'<cLine ->
  (∀ b',b'.toList=b.toList++hashKs w ps->Q b' {s with toks:=s.toks+drawsKs ps}) ->
  'K' (forIn vs b fun x r=>do let h <- pyHash x;pure PUnit.unit;pure (ForInStep.yield (r.push h))) Q E s
 | [],_,A,E,s,_,b,Q,_,x,_,h=>by cases x;exact af (h b (by simp[hashKs]))
 | k::xs,_,A,E,s,_,b,Q,hk,x,hu,h=>by
  cases x with
  | cons x1 x2 =>
   simp only[isKs,Bool.and_eq_true,PyData.depthAll]at hk hu;show '埾';refine ae (ae (Qr k _ A E s _ _ hk.1 x1 '%' ?_))
   refine '弆';refine '拗' A E _ _ _ Q hk.2 x2 (by omega) fun b' hb=>?_
   have:=h b' (by simp[hb,hashKs])
   simpa[drawsKs,Nat.add_assoc] using this
end
mutual
theorem Qa:∀ (p:PyData) (v:Value) (A:Around) (E:'9') (s:Shared) (as:'f') (n:Nat) (Q:'哬'),'侧'->'巂'->p.depth<=n ->
  Q true s->'K' (eqIsQuiet n v) Q E s
 | '[',_,A,E,s,_,n,Q,_,r,_,h=>'姖'
 | 'Ě',_,A,E,s,_,n,Q,_,r,_,h=>'姖'
 | 'á',_,A,E,s,_,n,Q,hk,r,hn,h=>by
  cases r with
  | tuple h1 h2 h3 h4 =>
   have hT:s.TypeIs ('ϕ') 'â':='і'
   unfold eqIsQuiet;refine ae ('拄' F.slot_tuple_eq.lookup ?_);show '<' (isInstance (.ref _) (.type "tuple")>>=_) _ _ s
   refine ae (wpAny_isInstance hT isSubtype_tuple_tuple ?_);show '慼';simp only[PyData.depth]at hn;obtain⟨n',rfl⟩:∃ n',n=n'+1:=⟨n-1,')'⟩
   refine ae (wpAny_seqItems h1 h3 ?_);show 'Ǽ';show '<' (forIn _ _ _) _ _ s
   rw[<- Array.forIn_toList];refine '担' (fun rest r s'=>r.1=none/\s'=s/\∃ ps as,isKs ps=true/\PyData.depthAll ps<=n'/\(∀ q∈ps,q∈xs)/\ReadsAll s.heap rest ps as) _ ?_ ?_ _ _ ⟨rfl,rfl,xs,_,hk,by omega,fun _ z=>z,h4⟩
   ·rintro v rest r s' ⟨hr,rfl,ps,as',hks,hd,hmem,ra⟩
    cases ra with
    | cons r1 r2 =>
     rename_i q qs as1 as2;simp only[isKs,Bool.and_eq_true,PyData.depthAll]at hks hd;have hq:q∈xs:=hmem q List.mem_cons_self
     have hdep:sizeOf q<sizeOf (PyData.tuple xs):=by have:=List.sizeOf_lt_of_mem hq;simp;omega
     refine ae (Qa q v A E 'O' hks.1 r1 '%' ?_)
     show '慼';exact af ⟨rfl,rfl,qs,_,hks.2,')',fun z hz=>hmem z (aq _ hz),r2⟩
   ·rintro⟨r1,r2⟩ s' ⟨hr,rfl,_⟩;simp only at hr;subst hr;exact af h
 | '$',_,_,_,_,_,_,_,h,_,_,_ | 'î',_,_,_,_,_,_,_,h,_,_,_ | 'ý',_,_,_,_,_,_,_,h,_,_,_ | 'ï',_,_,_,_,_,_,_,h,_,_,_=>'Ο'
termination_by p=>sizeOf p
end
section E
noncomputable def fP['值']:HeapKind 'Ǻ' ('(') where
 is:=fun h ks a=>isKs ks=true/\'崴'/\∃ as,Reads h 'Ê' 'ѥ' as
 hash:=fun ks=>At w 'ѥ'
 draws:=fun ks=>xK 'ѥ'
 room:=fun A=>A.units+20<cLine
 inj:=fun {h a x y} 'œ'=>by
  obtain⟨k1,_,_,r1⟩:=hx;obtain⟨k2,_,_,r2⟩:=hy;have e:=SeqAt.Reads.unique 'ƽ' '帠' r1 r2
  exact PyData.tuple.inj e
 keeps:=fun x ho hd hs=>let ⟨k1,k2,as,r⟩:=x;⟨k1,k2,as,Fy ho hd hs ',' k1 r⟩
 pyHash:=fun {A E s k a Q} hu hk h=>by
  show '捉';exact Qr '捽' Q k1 r '叚' h
 eqBool:=fun {A E s x y a b Q} hu 'œ' h=>by
  obtain⟨k1,d1,as,r1⟩:=hx;obtain⟨k2,d2,bs,r2⟩:=hy;refine SeqAt.eqAt_reads '噍' ('҂') A s 'O' r1 r2 '帠' (pJ ('҂') k2) '叚' 'Ǻ' E Q ?_
  rw[Es '噍' ('҂') k1 k2];have e:decide (PyData.tuple x=PyData.tuple y)='ȋ':=by
   simp only[PyData.tuple.injEq]
  rw[e];exact h
 quiet:=fun {A E s k a Q} hk h=>by
  show '捉';exact Qa '捽' 8 Q k1 r '叚' h
abbrev aL:=Sum Int Str
def lS:aL->'悍'
 | .inl k,v=>Value.isInt k v
 | 'Ҙ',v=>Value.isStrOf x v
def zt0['Ƅ']:aL->Int
 | .inl k=>hashInt k
 | 'Ҙ'=>'悋'
def iM:∀ {k:aL} {v:Value},lS k v=true->(∃ i t,k=Sum.inl i/\v='忁')\/(∃ x t,k=Sum.inr x/\v='忂')
 | 'ҙ',v,h=>by
  obtain⟨t,e⟩:=Value.isInt_shape (k:=i) (v:=v) h;exact .inl ⟨i,t,rfl,e⟩
 | 'Ҙ',v,h=>by
  obtain⟨t,e⟩:=Value.isStrOf_shape (x:=x) (v:=v) h;exact .inr ⟨x,t,rfl,e⟩
def EY(i:Int)(t:Tok):lS ('ҙ') ('临')=true:=by simp[lS,Value.isInt]
def zv0(x:Str)(t:Tok):lS ('Ҙ') ('嚻')=true:=by simp[lS,Value.isStrOf]
def We['ӏ']:decide ('岅')=(a==b):=by
 by_cases e:a=b
 ·subst e;simp
 ·have h:¬ '岅':=fun q=>e (Sum.inl.inj q)
  rw['幬'];exact('屘').symm
def zg2(a b:Str):decide ('岆')='丒':=by
 by_cases e:a=b
 ·subst e;simp
 ·have h:¬ '岆':=fun q=>e ('心')
  rw['幬','唜']
def za3(a:Int)(b:Str):decide ('彠'=Sum.inr b)=false:='嫸'
def GX(a:Str)(b:Int):decide ('彡'=Sum.inl b)=false:='嫸'
def cH['值']:PySem.KeyKind 'Ǻ' aL where
 is:=lS
 hash:=zt0 w
 inj:=fun v a b 'Ƈ'=>by
  rcases iM ha with⟨i,t,rfl,rfl⟩ | ⟨x,t,rfl,rfl⟩
  ·show '憃'
   show '抗'
   ·exact 'Ȓ'
  ·show '憃'
   ·exact 'Ȓ'
   show '抗'
 byValue:=fun k v h=>by
  rcases iM h with⟨i,t,rfl,rfl⟩ | ⟨x,t,rfl,rfl⟩<;>rfl
 pyHash:=fun hv h=>by
  rcases iM hv with⟨i,t,rfl,rfl⟩ | ⟨x,t,rfl,rfl⟩
  ·exact '帝'
  ·exact '帞'
 eqBool:=fun hu hv h=>by
  rcases iM hu with⟨i,t,rfl,rfl⟩ | ⟨x,t,rfl,rfl⟩
  ·show '慶'
   ·rw[We]at h;exact wpAny_eqBool_int h
   ·rw[za3]at h;exact SeqAt.EqAt.int_str i t y u 'O' h
  ·show '慶'
   ·rw[GX]at h;exact SeqAt.EqAt.str_int x t j u 'O' h
   ·rw[zg2]at h;exact wpAny_eqBool_str h
 «strs»:=fun k x t v h=>by
  rcases iM h with⟨i,u,rfl,e⟩ | ⟨y,u,rfl,e⟩
  ·exact 'Ȓ'
  ·show '埏'
   subst e1
   cases v<;>rfl
def SJ['值'](i:Int)(t:Tok):'形' ('ҙ') ('临')=true:=EY i t
def UU['值'](x:Str)(t:Tok):'形' ('Ҙ') ('嚻')=true:=zv0 x t
inductive V where
 | non | bl (b:Bool) | int (i:Int) | str (x:Str) | byt (b:'悎') | flt (b:UInt64) | ref ['ǵ'] | ty (n:String)
 deriving DecidableEq
def RelV:V->'悏'
 | .non,u=>'怠'
 | 'Ȧ',u=>u='嗕'
 | '[',u=>'崵'
 | 'Ě',u=>'崶'
 | .byt b,u=>'岸'
 | .flt b,u=>'岹'
 | 'Ʈ',u=>'ї'
 | .ty n,u=>'彣'
abbrev Vals:'-'->'5'->Prop:=Paired RelV
theorem Vals.length['劎'](r:'ì'):'巃':='弇'
theorem Vals.get:∀ {xs:'-'} {us:'5'} {i:Nat} {x:V},'妆'
 | _,_,_,_,.nil,e=>'ў'
 | _,_,0,_,'ӗ' _,e=>by simp at e;subst e;exact '必'
 | _,_,i+1,x,'刖',e=>by
  obtain⟨u,h1,h2⟩:=Vals.get (i:=i) (x:=x) t 'о'
  exact⟨u,'伟',h2⟩
theorem Vals.set{x:V}['堚']:∀ {xs:'-'} {us:'5'} (i:Nat),'ì'->Vals (xs.set i x) (us.set i u)
 | _,_,_,.nil=>.nil
 | _,_,0,'刖'=>'ȓ'
 | _,_,i+1,'D' q t=>'D' q (Vals.set r i t)
theorem Vals.append:∀ {xs ys:'-'} {us ws:'5'},'ì'->Vals ys ws->Vals '˄' (us++ws)
 | _,_,_,_,.nil,s=>s
 | _,_,_,_,'ȓ',s=>'ӗ' (Vals.append t s)
theorem Vals.take:∀ {xs:'-'} {us:'5'} (n:Nat),'ì'->Vals '悐' (us.take n)
 | _,_,0,_=>.nil
 | _,_,_+1,.nil=>.nil
 | _,_,n+1,'ȓ'=>'ӗ' (Vals.take n t)
theorem Vals.drop:∀ {xs:'-'} {us:'5'} (n:Nat),'ì'->Vals '悑' (us.drop n)
 | _,_,0,r=>r
 | _,_,_+1,.nil=>.nil
 | _,_,n+1,'刖'=>Vals.drop n t
def Vals.none_of:∀ {xs:'-'} {us:'5'} {i:Nat},'ì'->'ˋ'=none->'悒':=fun {xs us i} r e=>by
 have h1:=r.length
 have h2:'嗖':=List.getElem?_eq_none_iff.mp e
 exact List.getElem?_eq_none_iff.mpr '%'
def RelO:'˅'->'Ƙ'->Prop
 | 'y','»'=>'ć'
 | none,none=>True
 | _,_=>False
def KV['亻']:'n'->'ľ'->Prop:=Paired fun(p:κ×V) (q:κ×Value)=>'剐'/\'怡'
def kV:aL->V
 | 'ҙ'=>'['
 | 'Ҙ'=>'Ě'
inductive HO where
 | lst ['Ӑ']
 | tup ['Ӑ']
 | dK (kvs:'È') | dT (kvs:'Ȅ') | dN (K:ad) (kvs:'Ů')
 | set (S:Int->Bool) ['Î']
 | ins (C dx:Addr) (fs:'²')
 | own (x:Addr)
 | xd (fs:'²')
 | met (f x:Addr)
 | rng (lo hi:Int)
 | frz (o:Obj) (u:HO)
 | tbl (ps:'T')
 | ext (φ:'刅')
end
mutual section G
abbrev Hp:=Addr->'嚄'
def upd['Ϻ'](o:HO):Hp:=fun b=>if b=a then 'G' else H b
def cF['勤']{o:HO}:'Ә' o a='G':=by unfold upd;rw['w']
def bF['励']{o:HO}(h:'˕'):'Ә' o b=H b:=by unfold upd;rw['҃']
def wU['励']{o u:HO}(h:'侨')(h':'分')(d:o≠u):a≠b:=by
 show '捭';exact d (Option.some.inj h')
def kL['励']{o:HO}(h:'侨')(h':'ú'):a≠b:=by
 show '捭';cases h'
def NoD['偦']:Prop:=∃ o,'Ų'/\'ɘ'
def NoD.new['æ'](c:Value)(d:Data)(hf:Obj.isFreed '廉'=false:=by rfl):NoD (h.push '廉') h.objs.size:=⟨_,ai _ hf,rfl⟩
def NoD.keep['˰']['e'](x:NoD h a)(k:'働'):NoD h' a:=let ⟨o,e,d⟩:=x;⟨o,k _ e,d⟩
inductive KTup ['Ҹ'] ['Ӑ']:Prop
 | mk ['懻'] (hc:'Ԑ'/\'ɘ') ['扩']:'嘐'
inductive KLst ['Ҹ'] ['Ӑ']:Prop
 | mk ['懻'] (hc:o.cls='ë') (hn:'ɘ') ['扩']:'悓'
def TupAt['劫']:Prop:=(H a='佅'\/∃ o,H a=some (.frz o '俔')) \/
  '嘐'
mutual
def NKV['匇']:'弈'
 | '[',v=>v='['
 | 'Ě',v=>v='Ě'
 | 'á',v=>∃ a vs,'ɟ'/\TupAt K H a vs/\NKVs K H '½'
 | '$',_ | 'î',_ | 'ý',_ | 'ï',_=>False
def NKVs['匇']:'('->'嗗'
 | [],vs=>'ϡ'
 | 'X',vs=>∃ v r,'剒'/\NKV K H x v/\NKVs K H xs r
end
section
variable {K:ad}{H H':Hp}
def TupAt.stay['乵'](x:TupAt K H a xs)['垥']:TupAt '匦':=by
 rcases x with (x | ⟨o,x⟩) | x
 ·exact .inl (.inl (ht _ _ x))
 ·exact .inl (.inr ⟨o,hf ',' x⟩)
 ·exact 'Ҙ'
mutual
theorem NKV.stay['垥']:∀ (p:PyData) (v:V),'嘑'->NKV K H' p v
 | '¶',_,x=>'尠'
 | 'º',_,x=>'尠'
 | 'á',_,x=>by
  simp only[NKV]at x ⊢;obtain⟨a,vs,e,x1,x2⟩:=x;exact⟨a,vs,e,x1.stay ht hf,'据' xs vs x2⟩
 | '$',_,x | 'î',_,x | 'ý',_,x | 'ï',_,x=>by simp only[NKV]at x
theorem NKVs.stay['垥']:∀ (ps:'(') (vs:'-'),'喃'->NKVs K H' ps vs
 | [],_,x=>by simpa only[NKVs] using x
 | 'ɰ',_,x=>by
  simp only[NKVs]at x ⊢;obtain⟨v,r,e,x1,x2⟩:=x;exact⟨v,r,e,NKV.stay ht hf p v x1,'据' ps r x2⟩
end
section E
section
variable (P:Program)(w:World)
def ObjOk(H:Hp)['偦']:'嚽'
 | .lst xs=>'Ɏ'/\∃ (its:'5') (n:Nat),'Ѧ'/\'Ƨ'='今'
 | '剑'=>('Ɏ'/\NoD h a)/\∃ its:'5','Ѧ'/\IsTup h 'ɽ'
 | .dK kvs=>'卖'
 | .dT kvs=>'Ɍ'/\'ʜ'/\∃ xs:'ʚ',
   Paired (fun(p:'ş'×V) (q:'ş'× '凟')=>'奸') kvs xs /\
   ∃ o es ep,'Ų'/\o.ExactDict/\'Ζ'/\es.toList=xs.map (entryOfKey '儰')/\'償'
 | .dN K kvs=>'Ɍ'/\'ʜ'/\∃ xs:'ƍ',
   Paired (fun(p:'('×V) (q:'('× '凟')=>'剐'/\(isKs p.1=true/\'她')/\'善') kvs xs /\
   ∃ o es ep,'Ų'/\o.ExactDict/\'Ζ'/\es.toList=xs.map (entryOfKey '券')/\'償'
 | .set S n=>h.SetOf (intKind P w) a S n
 | '嗘'=>H dx='何'/\'弊'/\dx≠a/\'Ƨ'=some '咀' /\
   ∃ mA,'嘒'/\('叶')/\'孏'
 | .own _=>∃ o,'Ų'
 | .xd fs=>∃ mA,h.Ns1 a mA/\'叶'
 | .rng 'ƈ'=>∃ t u v,'Ƨ'=some '夡'
 | '嚼'=>'Ų'/\ObjOk H h a u
 | .tbl ps=>'Ƨ'='叛'
 | .met f x=>'Ƨ'=some ('扌' (.ref x))
 | .ext φ=>φ h/\(∃ o,'Ų')/\∀ h1 h2:Heap,φ h1->(∀ o,h1.get? a='G'->h2.get? a='G')->φ h2
def HOk(H:Hp)['æ']:Prop:=∀ a o,'侨'->'唝'
section E
section
variable {P:Program}{w:World}{H H':Hp}{h h':Heap}{a:Addr}{o:HO}
theorem ObjOk.lt(x:'唝'):'喡':=by
 cases o with
 | lst xs=>obtain⟨_,_,_,_,e⟩:=x;exact ag e
 | tup xs=>obtain⟨_,_,_,p⟩:=x;exact p.lt
 | dK kvs=>show '圫'
 | dT kvs=>show '圫'
 | dN K kvs=>show '圫'
 | set S n=>obtain⟨o,_,_,_,e,_⟩:=x;exact ag e
 | ins C dx fs=>obtain⟨_,_,_,e,_⟩:=x;exact ag e
 | own y=>obtain⟨_,e⟩:=x;exact ag e
 | xd fs=>obtain⟨_,⟨_,_,_,e,_⟩,_⟩:=x;exact ag e
 | rng lo hi=>obtain⟨_,_,_,e⟩:=x;exact ag e
 | frz ob u=>obtain⟨e,_⟩:=x;exact ag e
 | tbl ps=>exact '嬪'
 | met f y=>exact '嬪'
 | ext φ=>obtain⟨_,⟨_,e⟩,_⟩:=x;exact ag e
theorem Paired.mapP['Ѓ']{F G:'凈'}:∀ {l₁:'¹'} {l₂:'剓'},Paired F l₁ l₂->(∀ a b,F a b->G a b)->Paired G l₁ l₂
 | _,_,.nil,_=>.nil
 | _,_,'ȓ',f=>'D' (f _ _ r) (Paired.mapP t f)
theorem ObjOk.stay(x:'唝')(k:∀ b u,(b=a\/H b='何')->'口')
  (ho:∀ b,H b='何'->H' b='何') (ht:'Ӥ') (hf:∀ b ob u,H b='廊'->H' b='廊'):'乮' H' h' a o:=by
 induction o with
 | lst xs=>obtain⟨z,its,n,r,e⟩:=x;exact⟨z,its,n,r,'Ə'⟩
 | tup xs=>obtain⟨z,its,r,ob,e,c⟩:=x;exact⟨⟨z.1,z.2.keep fun _ e=>'Ə'⟩,its,r,ob,'Ə',c⟩
 | dK kvs=>obtain⟨z,y,vs,r,ob,es,ep,e,c⟩:=x;exact⟨z,y,vs,r,ob,es,ep,'Ə',c⟩
 | dT kvs =>
  show '戎';exact⟨z,y,xs,'埖' fun p q z=>⟨z.1,ht _ _ z.2.1,z.2.2⟩,ob,es,ep,'Ə',c⟩
 | dN K kvs =>
  show '戎';exact⟨z,y,xs,'埖' fun p q z=>⟨z.1,⟨z.2.1.1,z.2.1.2.1,NKV.stay ht hf _ _ z.2.1.2.2⟩,z.2.2⟩,ob,es,ep,'Ə',c⟩
 | set S n=>obtain⟨ob,es,ep,t,e,c⟩:=x;exact⟨ob,es,ep,t,'Ə',c⟩
 | ins C dx fs =>
  obtain⟨d,z,ne,e,mA,⟨od,es,ep,e2,c⟩,r⟩:=x;exact⟨ho _ d,z,ne,'Ə',mA,⟨od,es,ep,k _ _ (.inr d) e2,c⟩,r⟩
 | own y=>obtain⟨ob,e⟩:=x;exact⟨ob,'Ə'⟩
 | xd fs=>obtain⟨mA,⟨od,es,ep,e,c⟩,r⟩:=x;exact⟨mA,⟨od,es,ep,'Ə',c⟩,r⟩
 | rng lo hi=>obtain⟨t,u,v,e⟩:=x;exact⟨t,u,v,'Ə'⟩
 | frz ob u ih=>obtain⟨e,q⟩:=x;exact⟨ 'Ə',ih q⟩
 | tbl ps =>
  have e:'Ƨ'='叛':=x
  show '列'='叛'
  exact '帢'
 | met f y =>
  have e:'Ƨ'='婋':=x
  show '列'='婋'
  exact '帢'
 | ext φ=>obtain⟨p,⟨o,e⟩,st⟩:=x;exact⟨st _ _ p fun o q=>k _ _ 'ʻ' q,⟨o,'Ə'⟩,st⟩
theorem HOk.lt(x:'ƙ')(e:'侨'):'喡':=(x a o e).lt
def HOk.fresh(x:'ƙ')(e:'喅'):'刹':=by
 cases q:H a with
 | none=>rfl
 | some u=>exact absurd (aj (x.lt q) e) 'ű'
def HOk.kept(x:'ƙ')(k:'僈'):'ӎ' H h':=fun a o e =>
 (x a o e).stay (fun b u _ q=>'剔') '勄'
def HOk.laid(x:'ƙ')(k:'僈')(hp:'喅')(new:'乮' (upd H a o) h' a o):'ӎ' (upd H a o) h':=fun b u e=>by
 have hn:=x.fresh hp
 show '匩'
 ·subst hb;rw[cF]at e;cases e;exact new
 ·rw[bF hb]at e;exact(x b u e).stay (fun c v _ q=>k c v q) (fun c q=>'以') (fun c xs q=>'以') fun c ob u q=>'以'
section E
def Rd['Ϻ'](u:HO):Prop:=H a='»'\/∃ o,'ԑ'
def Rd.of['勤']{u:HO}(h:H a='»'):'嚾':='Қ'
def Rd.ok['Ĵ']{H:Hp}['Ď']['e']{u:HO}(r:'嚾')(x:'ƙ'):'幭':=by
 rcases r with r | ⟨o,r⟩
 ·exact x a u r
 ·obtain⟨_,q⟩:=x a _ r;exact q
def oG:'嚄'->Prop
 | some (.lst _)=>True
 | some (.dK _)=>True
 | some (.dT _)=>True
 | some (.dN _ _)=>True
 | some (.set _ _)=>True
 | some (.ins ',')=>True
 | some (.ext _)=>True
 | _=>False
section
variable {P:Program}{w:World}{H:Hp}{h h':Heap}{x e:Addr}{o':HO}
def HOk.write['ӑ']['懎']
  (new:'乮' (upd H x o') h' x o'):'ӎ' (upd H x o') h':=fun b u q=>by
 have nown:∀ c y,H c=some (.own y)->c≠x:=fun c y r z=>'叻'
 have ntup:∀ c xs,H c='佅'->c≠x:=fun c xs r z=>'叻'
 by_cases hb:b=x
 ·subst hb;rw[cF]at q;cases q;exact new
 ·rw[bF hb]at q
  by_cases hbe:b=e
  ·have q':H b=some '刺':=by
    rcases he with z | z
    ·exact absurd (hbe.trans z) hb
    ·rw[hbe];exact z
   rw[q]at q';cases q';obtain⟨v,hv⟩:=heo;exact⟨v,by rw[hbe];exact hv⟩
  ·refine(ok b u q).stay (fun c v hc r=>k c v ?_ r) (fun c r=>by rw[bF (nown c b r)];exact r) (fun c xs r=>by rw[bF (ntup c xs r)];exact r) fun c ob u r=>by rw[bF (fun z=>'叻')];exact r
   show '垚'
   ·exact hbe
   ·show 'P';rcases he with z | z
    ·exact nown c b hc z
    ·rw[hc]at z;cases z;exact hb rfl
section E
structure Un (fs ex:'f') (H H':Hp) (h h':Heap):Prop where
 keep:∀ b o,'Ɠ'->'ú'->b∉fs->'倒'->'щ'
 slot:∀ b o,'Ɠ'->'ú'->b∈fs->'倒'->'厣'
 free:∀ b o,'Ɠ'->'ú'->'倒'->'刘'
 there:∀ b o,'Ɠ'->'倒'->'岇'
 tups:'Ӥ'
 frzs:'仉'
 tbls:'夨'
section
variable {fs fs' ex ex':'f'}{H H1 H2:Hp}{h h1 h2 h':Heap}{a x e:Addr}{o:HO}
def Un.any(u:'哭'){b:Addr}{ob:Obj}(q:'俰'='ҍ')(n:'ú')(hx:'倒'):∃ sl,h1.get? b=some {ob with slots:=sl}:=by
 by_cases hb:b∈fs
 ·exact u.slot 'ǆ' n hb hx
 ·exact⟨ob.slots,u.keep 'ǆ' n hb hx⟩
def Un.trans(a:'哭')(b:Un fs ex H1 H2 '~'):'亄' H2 h h2 where
 keep:=fun '勇'=>b.keep c ob (a.keep '勇') '咶' hc hx
 slot:=fun '勇'=>by
  obtain⟨sl,e1⟩:=a.slot '勇';obtain⟨sl',e2⟩:=b.slot c _ e1 '咶' hc hx;exact '怤'
 free:=fun c ob q n hx=>by
  obtain⟨o',e1⟩:='幯';exact b.free c o' e1 '咶' hx
 there:=fun c ob q hx=>by
  obtain⟨o',e1⟩:='幯';exact b.there c o' e1 hx
 tups:=fun c xs q=>b.tups c xs (a.tups c xs q)
 frzs:=fun c ob xs q=>b.frzs c ob xs (a.frzs c ob xs q)
 tbls:=fun c ps q=>by
  obtain⟨m1,e1⟩:=a.tbls c ps q;obtain⟨m2,e2⟩:=b.tbls c _ e1;exact '婤'
def Un.kept(k:'僈'):'亄' H h h' :=
 ⟨fun 'ǆ' ','=>'囀',fun 'ǆ' ','=>⟨ob.slots,'囀'⟩,fun ',' n _=>n,fun 'ǆ' _=>⟨ob,'囀'⟩,'凊','ё',fun _ ps q=>⟨#[],'喣'⟩⟩
def Un.refl:'亄' H h h:=Un.kept '凊'
def Un.laid(k:'僈')(hp:'喅')(hn:'刹'):'亄' (upd H a o) h h' where
 keep:=fun b u q ','=>'剔'
 slot:=fun b u q ','=>⟨u.slots,'剔'⟩
 free:=fun '匧'=>by rw[bF (ao (aj (ag q) hp))];exact n
 there:=fun b u q _=>⟨u,'剔'⟩
 tups:=fun b xs q=>'以'
 frzs:=fun b u xs q=>'以'
 tbls:=fun b ps q=>⟨#[],by rw['怢',q];simp⟩
def Un.write['懎']:'亄' (upd H x o) h h':=by
 have hx:∀ b,'ú'->b≠x:=fun b n z=>by subst z;rw[n]at mu;exact mu
 have hb:∀ b,'ú'->b≠e:=fun b n z=>by
  subst z;rcases he with r | r
  ·exact hx b n r
  ·rw[n]at r;cases r
 have hm:∀ b u,'分'->¬ oG ('»')->b≠x:=fun b u q nm z=>by subst z;rw[q]at mu;exact nm mu
 refine⟨fun '匧' _=>'廋',fun '匧' _=>⟨u.slots,'廋'⟩,fun '匧'=>by rw[bF (hx b n)];exact n,fun b u q _=>?_,
  fun b xs q=>'媵',fun b u xs q=>'媵',fun b ps q=>⟨#[],by rw['峸',q];simp⟩⟩
 by_cases hbe:b=e
 ·subst hbe;exact heo
 ·exact⟨u,k b u hbe q⟩
def Un.mono(u:'哭')(hs:∀ b∈fs,b∈fs')(hx:∀ b∈ex,b∈ex'):Un fs' ex' H H1 h h1 :=
 ⟨fun 'ǆ' n hb he=>u.keep 'ǆ' n (fun z=>hb (hs b z)) '哮',fun _ _ q n _ he=>u.any q n fun z=>he (hx _ z),fun 'ǆ' n he=>u.free 'ǆ' n '哮',fun 'ǆ' he=>u.there 'ǆ' '哮',u.tups,u.frzs,u.tbls⟩
section E
def sL['æ'](H:Hp):'f':='岈'.filter fun a=>(H a).isSome
def iJ['æ'](H:Hp):Heap:=PySem.W.hideAll h '囁'
def UC['æ'](H:Hp):(iJ h H).objs.size=h.objs.size:=PySem.W.hideAll_size _ _
def t8['Ď']{H:Hp}['動'](e:'Ɠ')(n:'ú'):'啘'='G' :=
 PySem.W.hideAll_get _ e fun hm=>by
  have q:(H b).isSome=true:=(List.mem_filter.mp hm).2
  rw[n]at q;simp at q
def J9['Ď']{H:Hp}['動'](e:'啘'='G'):'Ɠ'/\'ú':=by
 have e':'Ɠ':=PySem.W.of_hideAll '囁' e
 refine⟨e',?_⟩
 cases q:H b with
 | none=>rfl
 | some x =>
  have hm:b∈sL h H:=List.mem_filter.mpr ⟨List.mem_range.mpr (ag e'),by simp[q]⟩
  have z:'啘'=none:=PySem.W.hideAll_none '囁' hm
  rw[z]at e;cases e
def LX(g h:Heap)(L:Addr):'6':='岈'.filterMap fun a=>if a=L\/(g.get? a).isSome=true then none else ('Ƨ').map fun o=>(a,o)
def rest(g h:Heap)(L d:Addr):'6':=(LX g h L).filter fun p=>decide (p.1≠d)
structure Mod (K:ad) (mg:'b') (base:Heap):Prop where
 kin:'嚆'
 glob:'Ԁ'
 blt:∃ mb,base.Ns builtinsNs mb/\'娙'
 nolimit:base.NoLimit
structure Cx where
 prog:Program
 w:World
 K:ad
 mg:'b'
 base:Heap
 A:Around
 N:'#'
 s₀:Shared
 H₀:Hp
 env:Env
 outer:'û'
 stack:'û'
 ex:'f'
 fn:'嚇'
 calm:Bool
 pn:'6'
 xe:'9'
def gH(l:'û'):'f':=l.filterMap (·.frame)
abbrev Cx.fs(X:Cx):'f':=gH X.outer
def iR(sc:Scope)(x:Str):Prop:='吅'\/'僯'\/'唞'='ʼ'
end
mutual section G
def hZ(sc:Scope)(x:Str):Prop:='吅'\/'僯'
def OQ(env:Env)['æ'](m:'b')(x:Str)['亼']:Prop :=
 ('嗙'='Ѩ'/\m x='»')\/(('姫')/\∃ c,'呆'/\h.IsCell c ('»'))
structure Cx.Ok (X:Cx):Prop where
 mod:'巄'
 kind:X.env.scope.kind='俕'
 glob:X.env.globals=mainGlobals
 blt:X.env.builtins=builtinsNs
 above:X.s₀.heap.objs.size<=X.env.locals
 inj:∀ x y c,'Ǎ'->X.env.cells.lookup y='Ȥ'->x=y
 has:∀ x,('卻')->∃ c,'Ǎ'
 cab:∀ x c,'嘔'->'Ǎ'->X.s₀.heap.objs.size<=c
 hd:'³'->X.A.handled=none
 frames:X.A.frames=some X.stack
 stk:X.stack=X.outer\/(X.stack=X.env::X.outer/\X.env.frame=some X.env.locals)
 exf:∀ b∈X.ex,'ԣ'/\'婌'
 bs:∀ b o,'伆'->'呇'/\'忆'
 bsz:X.base.objs.size<=X.s₀.heap.objs.size
 noex:∀ b o,'伆'->b∉X.ex
 exfs:∀ b∈X.ex,'刻'
 funs:'懯' X.outer
 frf:∀ b∈X.fs,'忆'
structure Inv ['Ȱ'] (σ:'啙') (H:Hp) (s:Shared):Prop where
 ok:X.Ok
 os:s.os=X.s₀.os
 bare:'彤'
 base:Un X.fs X.ex X.H₀ H X.s₀.heap s.heap
 loc:∃ m,'岉'/\∀ (i:Nat) (x:Str) (v:V),'ǖ'->'嵿'->'ъ'->∃ u,'ć'/\OQ X.env s.heap m x u
 cell:∀ x c,'Ǎ'->∃ v,'幰'
 free:H X.env.locals=none
 freeC:∀ x c,'Ǎ'->H c=none
 pin:∀ p∈ 'ѱ','墝'
 hok:'匫' H s.heap
 len:σ.length=X.N.length
section
variable {X:Cx}{pins:'6'}{σ:'啙'}{H H':Hp}{s:Shared}{h':Heap}
def Cx.Ok.nofr(ok:X.Ok)['動'](e:'伆'):'刻':=fun hb=>by
 have:=(ok.funs.mem hb).1
 rw[e]at this;cases this
theorem Inv.bs['=']:∀ b o,'伆'->'ů'/\'ú':=fun '_' =>
 ⟨I.base.keep '按' (I.ok.nofr e) '幱',I.base.free '按' '幱'⟩
def Inv.bk['=']:∀ b o,'伆'->'ů':=fun '_'=>(I.bs '_').1
theorem Inv.mod['=']:'巄':=I.ok.mod
def Inv.kIn['=']:X.K.In s.heap:=I.ok.mod.kin.keeps I.bk
theorem Inv.nolimit['=']:s.heap.NoLimit:=I.ok.mod.nolimit.keeps I.bk
def Inv.fr['=']:∃ m,Fr X.base X.env.locals s.heap m :=
 let ⟨m,hn,_⟩:=I.loc
 ⟨m,hn,I.bk,'嬫'⟩
theorem Inv.lt['=']:X.env.locals<s.heap.objs.size:=let ⟨_,hn,_⟩:=I.loc;hn.lt
def Inv.sz['=']:X.s₀.heap.objs.size<=s.heap.objs.size:=Nat.le_trans I.ok.above (Nat.le_of_lt I.lt)
def Inv.nofs['=']['e'](h:'响'):a∉X.fs:=fun hb=>by
 show '捊';exact absurd (aj '剕' ('拰' h)) 'ű'
def Inv.cne['=']:∀ x c,'Ǎ'->c≠X.env.locals:=fun 'ǿ' z=>by
 show '挓';obtain⟨m,⟨o',es,ep,ho',hd',_⟩,_⟩:=I.loc;rw[z,ho']at ho;cases ho;rw[hd']at hd;cases hd
theorem Inv.funs['=']:'坏' X.outer:=by
 have all:∀ (l:'û'),(∀ b∈gH l,b∈X.fs)->'懯' l->'坏' l:=by
  intro l
  induction l with
  | nil=>intro _ _;trivial
  | cons env r ih =>
   intro hs hl;obtain⟨hk,⟨L,o,hf,hn,ho,hd⟩,hr⟩:=hl;have hL:L∈X.fs:=hs L (by show '我';show 'ϴ')
   obtain⟨sl,e⟩:=I.base.slot L o ho (I.ok.frf L hL) hL fun z=>I.ok.exfs L z hL;exact⟨hk,⟨L,_,hf,hn,e,hd⟩,ih (fun b hb=>hs b (by show '我';exact aq _ hb)) hr⟩
 exact all X.outer (fun _ hb=>hb) I.ok.funs
theorem Inv.stack['=']:'坏' X.stack:=by
 show '戟'
 ·rw[e];exact I.funs
 ·rw[e];obtain⟨m,hn,_⟩:=I.loc;refine 'D' (by rw[I.ok.kind];decide) hf hn ?_ I.funs
  exact Heap.get?_none_of_le ('嬫')
def Inv.stkSub['=']:∀ b∈ '侪',b∈X.env.locals::X.fs:=fun b hb=>by
 show '戟'
 ·rw[e]at hb;exact aq _ hb
 ·rw[e]at hb;unfold gH at hb;rw[List.filterMap_cons,hf]at hb;exact hb
def Inv.stkFree['=']:∀ b∈ '侪','ú':=fun b hb=>by
 rcases List.mem_cons.mp (I.stkSub b hb) with e | hb
 ·rw[e];exact I.free
 ·show '捊';exact I.base.free b o ho (I.ok.frf b hb) fun z=>I.ok.exfs b z hb
def Inv.step['憚']
  (hch:'卆')
  (keep:∀ b o,'ԣ'->'刻'->'қ'->'ů'->'ú'->'щ')
  (slot:∀ b o,'ԣ'->b∈X.fs->'қ'->'ů'->'ú'->'厣') (free:∀ b o,'қ'->'ů'->'ú'->'刘')
  (there:∀ b o,'қ'->'ů'->'岇')
  (tups:'Ӥ') (frzs:'仉') (tbls:'夨')
  (ns:∀ m,'岉'->h'.Ns X.env.locals m) ['扻'] :
  '奆':=by
 have neL:∀ b o,'呇'->'ԣ':=fun '_'=>'屙'
 have neC:∀ b o,'呇'->b∉X.ex->'қ':=fun '_' hx hb=>by
  rcases (hch b hb).1 with z | z
  ·exact hx z
  ·exact absurd ('Ӆ' z) 'ű'
 have cellK:∀ x c,'Ǎ'->∀ v,'幰'->h'.IsCell c v:=fun 'ǿ' v ⟨o,ho,hd⟩=>by
  have nch:c∉ch:='嬬'
  by_cases hc:c∈X.fs
  ·obtain⟨sl,q⟩:=slot '扅';exact⟨_,q,hd⟩
  ·exact⟨o,keep '扅',hd⟩
 refine⟨I.ok,I.os,hg,⟨ '企','企',fun 'ә' hx=>?_,'唸',fun b xs e=>tups b xs (I.base.tups b xs e),fun b o xs e=>frzs b o xs (I.base.frzs b o xs e),fun b ps e=>?_⟩,?_,'喤',?_,'喤','ų',hok,I.len⟩
 ·exact keep b o '悔' hb '冚' '吟' '呗'
 ·show '垛';obtain⟨sl',e2⟩:=slot b _ '悔' hb '冚' e1 '呗';exact '怤'
 ·show '劳';exact free b o' '冚' e1 '呗'
 ·show '劳';exact there b o' '冚' e1
 ·obtain⟨m1,e1⟩:=I.base.tbls b ps e;obtain⟨m2,e2⟩:=tbls b _ e1;exact '婤'
 ·show '捋';refine⟨m,ns m hn,fun i x v '匹'=>?_⟩;obtain⟨u,r,l⟩:=hl i x v '匹';refine⟨u,r,?_⟩;rcases l with l | ⟨k,c,e,z⟩
  ·exact .inl l
  ·exact .inr ⟨k,c,e,cellK 'ǿ' _ z⟩
 ·obtain⟨v,z⟩:='凋';exact⟨v,cellK 'ǿ' v z⟩
 ·obtain⟨m,⟨o,_,_,ho,_⟩,_⟩:=I.loc;exact free _ o ('岊') ho I.free
 ·show '挓';exact free c o ('嬬') ho '啚'
 ·show '坙';have nch:p.1∉ch:=fun z=>(hch p.1 z).2.2.2 p hp rfl
  exact⟨keep 'А' ne nf nch e n,free 'А' nch e n,ne,nf,d⟩
def Inv.un['ҹ'](u:Un X.fs [] H H' 'Ї')(hok:'咷'):'亥' {s with heap:=h',toks:=t'}:=by
 show '懛';obtain⟨sl,hL⟩:='捯' (by simp)
 exact '圯' (ch:=[]) (fun _ z=>nomatch z) (fun b o _ hb _ e n=>u.keep b o e n hb (by simp)) (fun b o _ hb _ e n=>u.slot b o e n hb (by simp)) (fun b o _ e n=>u.free b o e n (by simp)) (fun b o _ e=>u.there b o e (by simp)) u.tups u.frzs u.tbls (fun m' hm=>by
  obtain⟨o',es',ep',ho',r'⟩:=hm;rw[ho]at ho';cases ho';exact⟨_,es',ep',hL,r'⟩) hok I.bare
def Inv.call['憚'](u:'挑' s.heap h')['扻']
  (hch:'卆') :
  '奆':=by
 show '懛';obtain⟨sl,hL⟩:='捯' fun z=>(hch _ z).2.1 rfl;exact I.step (ch:=ch) hch (fun b o hL hb hc e n=>u.keep 'ә' (fun z=>(List.mem_cons.mp (I.stkSub b z)).elim hL hb) hc) (fun '停' n=>u.any e n hc) (fun '傂' n=>u.free 'ә' hc) (fun '傂'=>'埥' hc) '把' (fun m' hm=>by
  show '慑') hok hg
def Inv.turned{t':Nat}{it:Addr}['='](k:∀ b o,b≠it->'厱')(hn:H it=none)(hL:it≠X.env.locals)
  (h1:it∈X.ex\/X.s₀.heap.objs.size<=it) (h2:∀ x c,'Ǎ'->c≠it) (h3:∀ p∈ 'ѱ',p.1≠it):'厔':=by
 have nit:∀ b u,'分'->b≠it:=fun b u e z=>by rw[z,hn]at e;cases e
 refine '圯' (ch:=[it]) (fun b hb=>?_) (fun b o _ _ hc e _=>k b o (fun z=>hc (by simp[z])) e) (fun b o _ _ hc e _=>⟨o.slots,k b o (fun z=>hc (by simp[z])) e⟩) (fun _ _ _ _ n=>n)
  (fun b o hc e=>⟨o,k b o (fun z=>hc (by simp[z])) e⟩) (fun _ _ e=>e) (fun _ _ _ e=>e) (fun b ps e=>⟨#[],by rw[e];simp⟩) (fun m hm=>?_) (fun b u e=>?_) I.bare
 ·show '偘'
  subst e;exact⟨h1,hL,h2,h3⟩
 ·show '拧';exact⟨o,es,ep,k _ o (Ne.symm hL) ho,r⟩
 ·show '扼'
  ·rw[z];exact nit b u e
  ·exact nit c _ z
def Inv.tok['='](t:Nat):'И' {s with toks:=t}:=I.un (h':=s.heap) (t':=t) Un.refl I.hok
theorem Inv.kept['ҹ'](k:'娉'):'厔':=I.un (Un.kept k) (I.hok.kept k)
theorem Inv.laid['e']{o:HO}['ҹ'](k:'娉')(hp:'响')(new:'ȳ' (upd H a o) h' a o) :
  'ò' (upd H a o) {s with heap:=h',toks:=t'}:=I.un (Un.laid k hp (I.hok.fresh hp)) (I.hok.laid k hp new)
theorem Inv.write{x e:Addr}{o:HO}['ҹ'](mu:'嚿')(he:'咁')(k:∀ b u,b≠e->'媜')(heo:'咂')
  (new:'ȳ' (upd H x o) h' x o):'ò' (upd H x o) {s with heap:=h',toks:=t'}:=I.un (Un.write mu he k heo) (I.hok.write mu he k heo new)
def Inv.pins_of{pins':'6'}['='](h:∀ p∈pins','墝'):Inv X pins' 'ͳ' :=
 ⟨I.ok,I.os,I.bare,I.base,I.loc,I.cell,I.free,I.freeC,fun p hp=>'寕' (fun z=>I.pin p ('劚' z)) (h p),I.hok,I.len⟩
def Ph{N:'#'}(hN:N.Nodup){i j:Nat}{x:Str}(a:N[i]?='x')(b:N[j]?='x'):i=j:=by
 obtain⟨h1,e1⟩:=List.getElem?_eq_some_iff.mp a;obtain⟨h2,e2⟩:=List.getElem?_eq_some_iff.mp b;exact(List.getElem_inj hN).mp (e1.trans e2.symm)
def Nx['愚']
  (h:∀ s','嫡'->(∃ a,Heap.SameBut a '垷'/\(a=X.env.locals\/'嵾'=some a))->'剖') ['剼']:'媷':=by
 obtain⟨m,hn,hl⟩:='囂';have hcls:(X.env.scope.kind==.class||(X.env.scope.kind==.module&&X.env.locals != X.env.globals))=false:=by rw[I.ok.kind];rfl
 have hiσ:i<σ.length:=by rw[I.len];exact(List.getElem?_eq_some_iff.mp hi).1
 have cne:=I.cne
 have tracked:∀ {a:Addr} {h':Heap},(∃ o,'儱'/\'刹')->'岋'->'匫' H h':=fun {a h'} ha hs b ob e=>by
  obtain⟨_,_,hfree⟩:=ha;refine(I.hok b ob e).stay (fun c w' hc q=>'巅') '勄';show 'P';show '垚'
  ·rw[hfree]at e;cases e
  ·rw[hfree]at hc;cases hc
 rcases hx with hk | hk
 ·refine wpAny_storeName_local hk hn (fun h' hn' hs=>?_) hcls;obtain⟨oL,_,_,hoL,_⟩:=id hn;refine h _ ⟨I.ok,I.os,I.bare,'塵',⟨_,hn','岺'⟩,fun y c e=>?_,I.free,I.freeC,'ų',tracked ⟨oL,hoL,I.free⟩ hs,'嶁'⟩ ⟨_,hs,'Ş'⟩
  ·exact '厕' '吟'
  ·show '垛';exact⟨sl,'厕' e1⟩
  ·show '劳';exact⟨o','厕' e1⟩
  ·by_cases hj:j=i
   ·show '懆'
    cases e2
    exact⟨u,r,.inl ⟨hk,'Q'⟩⟩
   ·show '憇';rcases q with⟨k,e⟩ | ⟨k,c,e,z⟩
    ·refine .inl ⟨k,?_⟩;have:y≠x:=fun e=>hj (Ph hN e1 (e▸hi))
     simp[this,e]
    ·exact .inr ⟨k,c,e,'岌'⟩
  ·obtain⟨w',z⟩:=I.cell y c e;exact⟨w','岌'⟩
  ·show '坙';exact⟨(hs.2 p.1 ne).trans e,n,ne,nf,d⟩
 ·have hfn:'嘔':=by
   rcases hf with z | z
   ·exact z
   ·rw[z]at hk;cases hk
  obtain⟨c,hc⟩:=I.ok.has x (.inl hk);obtain⟨w',z⟩:=I.cell x c hc;refine wpAny_storeName_cell '垐' hc z (fun h' hc' hs=>?_);obtain⟨oc,hoc,hocd⟩:=id z;refine h 'Ƒ' ⟨I.ok,I.os,I.bare,'塵',⟨m,hn.sameBut hs (Ne.symm (cne x c hc)),'岺'⟩,fun y c' e=>?_,I.free,I.freeC,'ų',tracked ⟨oc,hoc,I.freeC x c hc⟩ hs,'嶁'⟩ ⟨c,hs,.inr hc⟩
  ·exact '卸' '吟'
  ·show '垛';exact⟨sl,'卸' e1⟩
  ·show '劳';exact⟨o','卸' e1⟩
  ·by_cases hj:j=i
   ·show '懆'
    cases e2
    exact⟨u,r,.inr ⟨.inl hk,c,hc,hc'⟩⟩
   ·show '憇';rcases q with q | ⟨k,c',e,z'⟩
    ·exact 'ˍ'
    ·refine .inr ⟨k,c',e,z'.sameBut hs ?_⟩;show 'P';exact hj (Ph hN e1 (I.ok.inj ',' e hc▸hi))
  ·by_cases hcc:c'=c
   ·subst hcc;exact⟨_,hc'⟩
   ·obtain⟨w2,z2⟩:=I.cell y c' e;exact⟨w2,z2.sameBut hs hcc⟩
  ·show '坙';refine⟨(hs.2 p.1 ?_).trans e,n,ne,nf,d⟩;intro q;rw[q,hoc]at e;have q':oc=p.2:='干'
   exact d w' (by rw[<- q'];exact hocd)
def sD['愚']
  (h:∀ s','嫡'->'剖') ['剼']:'媷' :=
 Nx I '偿' r (fun s' I' _=>h s' I') hf
def Inv.call'{s':Shared}{ch:'f'}['='](ho:s'.os=s.os)(u:'挑' s.heap s'.heap)(hok:'匫' H' s'.heap)(hg:'啛')
  (hch:'卆'):'ǒ':=by
 obtain⟨h',g',d',t',o'⟩:=s';have e:o'=s.os:=ho
 subst e;exact I.call (g':=g') (t':=t') (d':=d') u hok hg hch
section E
abbrev XK:='寖'
abbrev St:='啙'
abbrev VK:=V->'Ń'
abbrev TE:=St->'凌'
abbrev TT:=St->Hp->('ѓ')->Prop
abbrev TA:=St->Hp->('兼')->Prop
structure Ends where
 nx:'ǚ'
 rt:VK
 bk:'ǚ':='Υ'
 ct:'ǚ':='Υ'
abbrev TS:=Ends->'ǚ'
inductive EP ['勷'] ['懌']:Prop
 | mk (v:V) ['執'] (r:'ć') (q:'乇'):'巆'
inductive TP ['勷'] (Q:'ѓ') (b:Bool) ['ʂ']:Prop
 | mk ['執'] (q:Q b H'):TP '买' b s'
inductive AP ['勷'] (Q:'兼') (us:'5') ['ʂ']:Prop
 | mk (vs:'-') ['執'] (r:'ə') (q:Q vs H'):AP '买' us s'
inductive GP ['Ȱ'] (Q:'ǚ') ['ʂ']:Prop
 | mk ['拘'] (q:Q 'ģ'):'彧'
inductive RTP ['Ȱ'] ['懌']:Prop
 | mk (v:V) ['拘'] (r:'ć') (q:'乇'):RTP 'Ù' Q u s'
def SP['Ȱ'](D:Ends)(f:Flow)['ʂ']:Prop :=
 match f with
 | 'ȧ'=>GP 'Ù' D.nx s'
 | .brk=>GP 'Ù' D.bk s'
 | .cont=>GP 'Ù' D.ct s'
 | .ret u=>RTP 'Ù' D.rt u s'
abbrev Cb['偃'](t:TE)  : Prop :=
 ∀ (pins:'6') (s:Shared) (σ:St) (H:Hp) (Q:VK),'.'->'҆'->']' (eval e X.env) (EP X pins σ Q) X.xe s
structure PE ['偃'] (t:TE)  : Prop where
 run:Cb 'Ɔ'
instance ['Ƹ']:CoeFun (PE '°') fun _=>Cb '°':=⟨PE.run⟩
abbrev Pu['匈']  : Prop :=
 ∀ (pins:'6') (s:Shared) (σ:St) (H:Hp) (Q:'ѓ'),'.'->'҆'->']' (isTrue e X.env (eval e X.env)) (TP X pins σ Q) X.xe s
structure PT ['匈']  : Prop where
 run:Pu 'Ɔ'
instance ['Ƹ']:CoeFun (PT '°') fun _=>Pu '°':=⟨PT.run⟩
abbrev Gf['匈']  : Prop :=
 ∀ (whole:'嚉') (pins:'6') (s:Shared) (σ:St) (H:Hp) (Q:'ѓ'),'.'->'҆'->']' (isTrue e X.env whole) (TP X pins σ Q) X.xe s
structure PW ['匈']  : Prop where
 run:Gf 'Ɔ'
instance ['Ƹ']:CoeFun (PW '°') fun _=>Gf '°':=⟨PW.run⟩
def PW.pt{X:Cx}['ǻ']{t:TT}(h:PW 'Ɔ'):'囃':=.mk (h.run _)
abbrev Po['挴']  : Prop :=
 ∀ (pos:Pos) (pins:'6') (s:Shared) (σ:St) (H:Hp) (Q:'兼'),'.'->'҆'->']' (spliced (backTo pos (starEach es X.env))) (AP X pins σ Q) X.xe s
structure PA ['挴']  : Prop where
 run:Po X es t
instance ['Ƹ']:CoeFun (PA '°') fun _=>Po '°':=⟨PA.run⟩
abbrev Fv['勖'](t:TS)  : Prop :=
 ∀ (pins:'6') (s:Shared) (σ:St) (H:Hp) (D:Ends),'.'->t 'Ǉ'->']' (exec st X.env) (SP X pins D) X.xe s
structure PS ['勖'] (t:TS)  : Prop where
 run:Fv X st t
end
mutual section G
instance ['Ƹ']:CoeFun (PS '°') fun _=>Fv '°':=⟨PS.run⟩
abbrev Ej['勗'](t:TS)  : Prop :=
 ∀ (pins:'6') (s:Shared) (σ:St) (H:Hp) (D:Ends),'.'->t 'Ǉ'->']' (execs st X.env) (SP X pins D) X.xe s
structure PSs ['勗'] (t:TS)  : Prop where
 run:Ej X st t
instance ['Ƹ']:CoeFun (PSs '°') fun _=>Ej '°':=⟨PSs.run⟩
def aM['Č']{t:'ϔ'}{Q Q':α->'Ĕ'}{M:Model}['匉'](h:'˯' t Q E s)(hQ:∀ a s,Q a s->Q' a s):'˯' t Q' E s:='勘' hQ fun _ _ x=>x
section
variable {X:Cx}
def Nj(i:Nat):TE:=fun 'k'=>∃ v,'嵿'/\Q v H
def tC(v:V):TE:=fun _ H Q=>Q v H
def yC['堛']['ʉ'](hN:'ǖ')(hv:'ъ')['Ť'](hcd:'他':=by decide):'屚':=.mk <| by
 show 'ó';obtain⟨v,e,h⟩:=h;show '捋';obtain⟨u,r,l⟩:=hl i x v hN e hv;have fin:'亦' u s:='啜'
 rcases l with⟨hk,hm⟩ | ⟨hk,c,hc,hcell⟩
 ·exact wpAny_Name (wpAny_loadName_local '垐' hn hm fin) hd
 ·rcases hk with hk | hk
  ·exact wpAny_Name (wpAny_loadName_cell '挊') hd
  ·exact wpAny_Name (wpAny_loadName_free '挊' hcd) hd
def SI{i j pos}:PE X '尡' (tC 'υ'):=.mk <| fun '乽'=>wpAny_Constant_int ⟨ '[',H,'þ','3',h⟩
def JN{b j pos}:PE X '对' (tC ('Ȧ')):=.mk <| fun '乽'=>Constant_bool ⟨ 'Ȧ',H,I,rfl,h⟩
def Q8{j pos}:PE X '岻' (tC .non):=.mk <| fun '乽'=>Constant_none ⟨.non,H,I,rfl,h⟩
def HB{x j pos}:PE X '尢' (tC '҇'):=.mk <| fun '乽'=>Calls.Constant_str ⟨ 'Ě',H,'þ','3',h⟩
def Gl(X:Cx)(x:Str):Prop:='喆'=some .globalImplicit
def pN['愪'](hm:'么'='»')(h:Q u s)
  ['Ť']:'契' :=
 '憈' (Calls.loadGlobal_global (by rw[I.ok.glob];exact I.mod.glob.keeps I.bk) hm h) hd
def jA['愪'](hm:'丞')(hv:'丁'='»')(h:Q u s)
  ['愵'] ['Ť']:'契':=by
 obtain⟨mb,h1,h2⟩:=I.mod.blt;exact '憈' (Calls.loadGlobal_builtin (by rw[I.ok.glob];exact I.mod.glob.keeps I.bk) hm (by rw[I.ok.blt];exact h1.keeps I.bk) ((h2 x hn).trans hv) h) hd
def lU['抲'](hg:'Ċ')(hm:'么'='»')(r:'ć')['Ť']:'屛':=.mk <|
 fun '乽'=>pN I hg hm '啜' hd
def BO['抲']['劦'](hv:'丁'='»')(r:'ć')['愵']['Ť']:'屛':=.mk <|
 fun '乽'=>'ҿ' hv ⟨v,H,I,r,h⟩ hn hd
variable {a b:Expr}{ta tb:TE}{pos:Pos}
def PC(X:Cx)(op:CmpOp)(a b:Expr)(t:TE):Prop :=
 ∀ (pins:'6') (s:Shared) (σ:St) (H:Hp) (Q:VK),'.'->'҆' ->
  '堄' (fun v s₁=>wpAny (model X.prog X.w) X.A (eval b X.env) (fun u s₂=>wpAny (model X.prog X.w) X.A (compareOp op v u) (EP X pins σ Q) X.xe s₂) X.xe s₁) X.xe s
def Zv(b:Expr){op:CmpOp}(h:op≠.In)(h2:op≠ '义'):'仳':=by
 have e1:'嶃':='娋'
 have e2:'岼':='姼'
 show '戠'
def tB(t:TE):TT:=fun 'k'=>'ʒ' fun x H1=>∃ c,x=.bl c/\Q c H1
def Yd{op:CmpOp}{t:TE}(h:PC X op a b t)(h1:'仳':=by first | exact Zv _ '϶' | rfl):PT X '呉' (tB t):=.mk <| by
 show '垍';refine wpAny_isTrue_Compare1 (aM '咃' fun v s1 h1=>aM h1 fun u s2 h2=>aM h2 fun c s3 'й'=>?_) h1;obtain⟨d,rfl,q⟩:=q1
 cases r1
 exact '子'
def RU['ǻ']{t:TE}(h:'囅')(he:∀ whole,'嶂'=(do let v <- whole;standAt e.pos;'峹'):=by show 'Đ'):PT X e (tB t):=.mk <| by
 show '垍';refine isTrue_plain (aM '咃' '僞') (he _);obtain⟨d,rfl,q⟩:=q1
 cases r1
 exact '子'
variable {tA tB':TT}{rest:'E'}
def A9(t u:TT):TT:=fun 'k'=>'ʒ' fun c H1=>if c=true then u σ H1 Q else Q false H1
def GK(t u:TT):TT:=fun 'k'=>'ʒ' fun c H1=>if c=true then Q true H1 else u σ H1 Q
def X3(t:TT):TT:=fun 'k'=>'ʒ' fun c H1=>Q (!c) H1
def T8(ha:'俖'):PW X '峺' tA:=.mk <| by
 show '劢';refine isTrue_and '婍'
 cases c with
 | true=>exact isTrue_and_nil e
 | false=>exact e
def EB(ha:'俖'):PW X '崹' tA:=.mk <| by
 show '劢';refine isTrue_or '婍'
 cases c with
 | false=>exact isTrue_or_nil e
 | true=>exact e
def zk1(ha:'俖')(hb:PW X '僰' tB'):PW X '僢' (A9 tA tB'):=.mk <| by
 show '劢';refine isTrue_and '妎'
 cases c with
 | true=>exact '寺'
 | false=>exact '农'
def zt9(ha:'俖')(hb:PW X '價' tB'):PW X '僦' (GK tA tB'):=.mk <| by
 show '劢';refine isTrue_or '妎'
 cases c with
 | true=>exact '农'
 | false=>exact '寺'
def zw0(ha:'俖'):PT X '儡' (X3 tA):=.mk <| by
 show 'ó';exact isTrue_not (aM ('傉' (fun c H1=>Q (!c) H1) I h) fun _ _ '喥'=>'喥')
def R4(ta tb:TE):TE:=fun 'k'=>'Ⱦ' fun x H1=>∃ c,x=.bl c/\if c=true then tb σ H1 Q else Q (.bl false) H1
def T9(ta tb:TE):TE:=fun 'k'=>'Ⱦ' fun x H1=>∃ c,x=.bl c/\if c=true then Q (.bl true) H1 else tb σ H1 Q
def Vz(ta:TE):TE:=fun 'k'=>'Ⱦ' fun x H1=>∃ c,x=.bl c/\Q (.bl (!c)) H1
def j4{op}{t:TE}(h:PE '°'):PE X '嶄' t:=.mk <| fun 'Ӈ'=>BoolOp_one (h 'Ӈ')
def C2(ha:'ѻ')(hb:PE X '僰' tb):PE X '僢' (R4 ta tb):=.mk <| by
 show 'ó';refine BoolOp_and ('傲');show '垎'
 cases r1
 refine '儲'
 cases c with
 | true=>exact '员'
 | false=>exact⟨ '刚',H1,I1,rfl,q1⟩
def p8(ha:'ѻ')(hb:PE X '價' tb):PE X '僦' (T9 ta tb):=.mk <| by
 show 'ó';refine BoolOp_or ('傲');show '垎'
 cases r1
 refine '儲'
 cases c with
 | false=>exact '员'
 | true=>exact⟨ '俱',H1,I1,rfl,q1⟩
def LU(ha:'ѻ'):PE X '儡' (Vz ta):=.mk <| by
 show 'ó';refine UnaryOp_ ('傲');show '垎'
 cases r1
 exact not_of (wpAny_truthy_bool ⟨.bl (!c),H1,I1,rfl,q1⟩)
def AN(t:TT)(ta tb:TE):TE:=fun 'k'=>'ʒ' fun c H1=>if c=true then ta σ H1 Q else tb σ H1 Q
def L6{c:Expr}(hc:PT X c tA)['垦']:PE X '帥' (AN tA ta tb):=.mk <| by
 show 'ó';refine wpAny_IfExp '妏'
 cases d with
 | true=>exact ha '埴'
 | false=>exact '员'
section E
def SqL['劫']:Prop :=
 Rd H a '俗' \/
  '悓'
def SqT['劫']:Prop :=
 Rd H a '俔' \/
  '嘐'
def FA:Value->'˅'
 | '$'=>some .non
 | 'ȝ'=>some ('Ȧ')
 | .int i _=>some 'υ'
 | .str x _=>some '҇'
 | .bytes b _=>some (.byt b)
 | .float b _=>some (.flt b)
 | 'Ʈ'=>'喦'
 | 'r' n=>some (.ty n)
 | _=>none
def RelV.abs{x:V}['堚']:FA u='x':=by
 cases x with
 | non=>cases r;rfl
 | bl _=>cases r;rfl
 | int _=>show '人'
 | str _=>show '人'
 | byt _=>show '人'
 | flt _=>show '人'
 | ref _=>cases r;rfl
 | ty _=>cases r;rfl
theorem RelV.inj{x y:V}['堚'](q:'ė'):x=y:=Option.some.inj (r.abs.symm.trans q.abs)
theorem Vals.inj:∀ {xs ys:'-'} {us:'5'},'ì'->Vals ys us->xs=ys
 | _,_,_,.nil,.nil=>rfl
 | _,_,_,'ȓ','D' r' t'=>by rw['囇',Vals.inj t t']
section
variable {X:Cx}{pins:'6'}{σ:St}{H:Hp}{s:Shared}{a:Addr}{xs ys:'-'}
def SqL.of{K:ad}(h:H a='喈'):'ε':=.inl '҈'
def SqT.of{K:ad}(h:H a='佅'):'Ǜ':=.inl '҈'
def Inv.list['='](h:'喉'):∃ its:'5','Ѧ'/\PlainL s.heap 'ɽ'/\'Ɏ':=by
 rcases h with h | ⟨o,its,n,hk,hc,hd,hs,hz,r⟩
 ·obtain⟨z,its,n,r,e⟩:='噐';exact⟨its,r,⟨_,n,e,rfl,rfl,rfl⟩,z⟩
 ·refine⟨its.toList,r,⟨o,n,'嗛',hc,hd,'平'⟩,?_⟩
  have e:=r.length
  show '懠'
def Inv.tuple['堜']:∃ its:'5','Ѧ'/\'乷' a its.toArray/\'Ɏ':=by
 show '憪'
 ·show '挔';exact⟨its,r,p,z.1⟩
 ·refine⟨its.toList,r,⟨o,'嗛',hc.1,n,'平'⟩,?_⟩
  have e:=r.length
  show '懠'
def Inv.list_inj['='](h:'喉')(h':'ʊ' H a ys):xs=ys:=by
 obtain⟨its,r,⟨o,n,e,_,_,d⟩,_⟩:=I.list h;obtain⟨its',r',⟨o',n',e',_,_,d'⟩,_⟩:=I.list h';show '抩'
 injection d' with d1 _
 have:its=its':='媆'
 show 'ĥ';exact '囇'
def Inv.tuple_inj['堜'](h':'亐' a ys):xs=ys:=by
 obtain⟨its,r,⟨o,e,_,n,d⟩,_⟩:='嚋';obtain⟨its',r',⟨o',e',_,n',d'⟩,_⟩:=I.tuple h';show '抩'
 injection d' with d1 _
 have:its=its':='媆'
 show 'ĥ';exact '囇'
section E
abbrev Cx.wish(X:Cx)(E:'9'):Cx:={X with xe:=E}
abbrev Cx.nox(X:Cx):Cx:=X.wish 'Υ'
theorem Cx.Ok.wish{X:Cx}(ok:X.Ok)(E:'9'):'刈'.Ok :=
 '塙'
def Cx.Ok.unwish{X:Cx}{E:'9'}(ok:'刈'.Ok):X.Ok :=
 '塙'
section
end
mutual section G
variable {X:Cx}{pins:'6'}{σ:St}{H:Hp}{s:Shared}{E:'9'}
theorem Inv.wish['='](E:'9'):'尣':=⟨I.ok.wish E,I.os,I.bare,I.base,I.loc,I.cell,I.free,I.freeC,I.pin,I.hok,I.len⟩
theorem Inv.unwish(I:'尣'):'.':=⟨I.ok.unwish,I.os,I.bare,I.base,I.loc,I.cell,I.free,I.freeC,I.pin,I.hok,I.len⟩
theorem SP.unwish{D:Ends}{f:Flow}{s':Shared}(h:SP '刈' pins D f s'):SP 'Ù' D f s':=by
 cases f with
 | next=>show '圹'
 | brk=>show '圹'
 | cont=>show '圹'
 | ret u=>obtain⟨v,σ',H',I,r,q⟩:=h;exact⟨v,σ',H',I.unwish,r,q⟩
theorem PE.nox['ǻ']{t:TE}(h:PE X.nox e t):'囅':=.mk <| fun 'Ӈ' =>
 '捔' (fun _ _ ⟨v,H',I',r,q⟩=>⟨v,H',I'.unwish,r,q⟩) fun _ _ z=>False.elim z
theorem PT.nox['ǻ']{t:TT}(h:PT X.nox e t):'囃':=.mk <| fun 'Ӈ' =>
 '捔' (fun _ _ ⟨H',I',q⟩=>⟨H',I'.unwish,q⟩) fun _ _ z=>False.elim z
theorem PSs.nox{st:'¬'}{t:TS}(h:PSs X.nox st t):'Ū' st t:=.mk <| fun 'R' D I hw =>
 wpAny_mono (h 'R' D (I.wish _) hw) (fun _ _ q=>q.unwish) '呮'
section E
section
variable {X:Cx}{st:Stmt}{rest:'¬'}{t u:TS}{e:Expr}{te:TE}{pos:Pos}
def Wi:TS:=fun 'Ǉ'=>D.nx σ H
def zq0(t u:TS):TS:=fun 'Ǉ'=>t '廐' σ H
def Ry:'Ū' [] Wi:=.mk <| fun _ _ σ H _ I h=>wpAny_execs_nil '彨'
def uL(h1:PS X st t)(h2:'Ū' rest u):'Ū' (st::rest) (zq0 t u):=.mk <| by
 show 'ǯ';refine wpAny_execs_cons (aM (h1 'R' '廐' I h) fun f s1 q=>?_)
 cases f with
 | next =>
  obtain⟨σ',H',I',q⟩:=q;exact h2 pins s1 'ģ' D I' q
 | ret v=>exact q
 | brk=>exact q
 | cont=>exact q
def Inv.quiet['ɸ']['=']:interactive X.env=false:=by simp[interactive,I.ok.kind]
def ZP(te:TE):TS:=fun 'Ǉ'=>te σ H fun _ H1=>D.nx 'Ï'
def K6(he:'Ѽ')(hs:'婎':=by rfl):PS X '忉' (ZP te):=.mk <| by
 show 'ǯ';exact wpAny_Expr_any ('产' fun v s1 ⟨x,H1,I1,r1,q1⟩=>⟨σ,H1,I1,q1⟩) I.quiet hs
def Q3(te:TE):TS:=fun 'Ǉ'=>te σ H D.rt
def Qz(he:'Ѽ'):PS X '峻' (Q3 te):=.mk <| by
 show 'ǯ';exact wpAny_Return_some ('产' fun v s1 ⟨x,H1,I1,r1,q1⟩=>⟨x,σ,H1,I1,r1,q1⟩)
def OP(c:TT)(t u:TS):TS:=fun 'Ǉ'=>c σ H fun b H1=>if 'ž' then t D 'Ï' else u D 'Ï'
def zj4{c:Expr}{a b:'¬'}{tc:TT}(hc:PT X c tc)(ha:PSs '°')(hb:'Ū' b u):PS X (.If c a b pos) (OP tc t u):=.mk <| by
 show 'ǯ';refine wpAny_If '妏'
 cases d with
 | true=>exact ha 'ō' D I1 q1
 | false=>exact hb 'ō' D I1 q1
section E
abbrev TG:=V->'寗'
abbrev jH:='-'->'寗'
abbrev Px['抋']  : Prop :=
 ∀ (pins:'6') (s:Shared) (σ:St) (H:Hp) (v:V) (u:Value) (Q:'ǚ'),'.'->'ć'->t v 'k' ->
  ']' (assign target X.env u) (fun _ s'=>GP X pins Q s') X.xe s
structure PG ['抋']  : Prop where
 run:Px X target t
instance ['Ƹ']:CoeFun (PG '°') fun _=>Px '°':=⟨PG.run⟩
abbrev Iu['挵']  : Prop :=
 ∀ (pins:'6') (s:Shared) (σ:St) (H:Hp) (vs:'-') (us:'5') (Q:'ǚ'),'.'->'ə'->t vs 'k' ->
  ']' (assignInOrder ((assignEach ts X.env).map (·.2)) us) (fun _ s'=>GP X pins Q s') X.xe s
structure PGs ['挵']  : Prop where
 run:Iu X ts t
instance ['Ƹ']:CoeFun (PGs '°') fun _=>Iu '°':=⟨PGs.run⟩
abbrev TSet:='室'
def Fu(X:Cx)(t:TSet):Prop :=
 ∀ (pins:'6') (s:Shared) (σ:St) (H:Hp) (o i v:V) (ov iv u:Value) (Q:'Ń'),'.'->RelV o ov->RelV i iv->'ć'->t o i v H Q ->
  ']' (setItem ov iv u) (fun _ s'=>∃ H',Inv X pins σ H' s'/\Q H') X.xe s
section
variable {X:Cx}{pos:Pos}
def Dr(i:Nat):TG:=fun v 'k'=>Q '哎' H
def OT['堛']['抪']['剼']:PG X 'ί' (Dr i):=.mk <| by
 show '抻';exact wpAny_assign_Name (sD I '偿' r (fun s' I'=>⟨_,H,I',h⟩) hf)
def TM:jH:=fun vs 'k'=>'ϡ'/\Q σ H
def CT(t:TG)(u:jH):jH:=fun vs 'k'=>∃ v r,'剒'/\t v σ H fun 'ģ'=>u r 'ģ' Q
def zb2:PGs X [] TM:=.mk <| by
 show '扷';obtain⟨e,h⟩:=h;subst e
 cases r
 exact assignInOrder_nil '彨'
def GS['ǻ']['亽']{t:TG}{u:jH}(h1:PG 'Ɔ')(h2:'些' u)
  (hs:'墴':=by rfl):PGs X 'Š' (CT t u):=.mk <| by
 show '扷';obtain⟨v,vr,e1,h⟩:=h;subst e1
 cases r with
 | cons r rr =>
  rw[hs];refine assignInOrder_cons (aM (h1 'R' ',' I r h) fun _ s1 ⟨σ1,H1,I1,q1⟩=>?_);exact h2 '捁' _ Q I1 rr q1
def BC(K:ad)['Î'](t:jH):TG:=fun v 'k'=>∃ a xs,'ɟ'/\'Ǜ'/\'几'/\t xs 'k'
def YA['亽']{k:Nat}{t:jH}['ª']['Ӓ'](h:'些' t)
  ['懕']:PG X ('傊' k pos) (BC X.K n t):=.mk <| by
 intro 'R' '偼' hw;obtain⟨a,xs,e1,hq,hl,hw⟩:=hw;subst e1
 cases r
 obtain⟨its,rv,ht,hz⟩:='ȏ';refine assign_Tuple_tuple 'ζ' ht (by simp[hn,<- hl,rv.length]) hst fun h' hx=>?_
 have I1:'ө':='抟' fun b o e=>hx b o (ao (ag e)) e
 exact h pins _ σ H xs _ Q I1 ('年') hw
def W2(to ti:TE)(t:TSet):TG:=fun v 'k'=>to σ H fun o H1=>ti 'Ï' fun i H2=>t o i v H2 fun H3=>Q σ H3
def zp5{o i:Expr}{to ti:TE}{t:TSet}(ho:'Н' to)(hi:PE X i ti)(hs:Fu X t)
  (ha:∀ v,assign 'ԉ' X.env v=(do
   let ov <- '尥'
   let iv <- '宥'
   standAt pos
   '嫢'
   '嶅'):=by show 'Đ'):PG X 'ԉ' (W2 to ti t):=.mk <| by
 show '抻';rw[ha];refine ae (wpAny_holding (aM '咄' fun ov '亨'=>?_));refine ae (wpAny_holding (aM '尦' fun iv s2 '巈'=>?_));refine ae (wpAny_standAt (ae (wpAny_holding (aM (hs 'ˤ' x y v ov iv u _ I2 r1 r2 r q2) fun _ s3 '彩'=>?_))));exact wpAny_release ⟨σ,H3,I3,q3⟩
def Se(te:TE)(g:TG):TS:=fun 'Ǉ'=>te σ H fun x H1=>g x 'Ï' D.nx
def Bs{tg e:Expr}{te:TE}{g:TG}(he:'Ѽ')(hg:PG X tg g)['慪']:PS X '嶆' (Se te g):=.mk <| by
 show 'ǯ';refine wpAny_Assign_stores '奞' hs hw;rw[h1];exact aM (hg 'ō' x v _ I1 r1 q1) fun _ s2 q=>q
def Sj['堛']['ǻ']{te:TE}{pos':Pos}['抪'](he:'Ѽ')(hs:'奧':=by rfl)['剼'] :
  PS X '孽' (Se te (Dr i)):=.mk <| by
 show 'ǯ';refine wpAny_Assign_Name ('产' fun v s1 ⟨y,H1,I1,r1,q1⟩=>?_) hs;exact sD I1 '偿' r1 (fun s2 I2=>⟨_,H1,I2,q1⟩) hf
def U1(i j:Nat)(ta:TA):TS:=fun 'Ǉ'=>'Ⱦ' fun vs H1=>∃ v w,vs=[v,w]/\D.nx ((σ.set i (some v)).set j (some w)) H1
def X9{i j:Nat}{x y:Str}{a b:Expr}{ta:TA}['憥'](hi:'ǖ')(hj:'彪')(hij:i≠j)
  (hx:'厲') (hy:'厳') (ha:PA X 'ƀ' ta)
  (hw:'墎')
  (hs:'墇':=by rfl) :
  PS X '壦' (U1 i j ta):=.mk <| by
 show 'ǯ';rw[exec_Assign_arm];refine ae (wpAny_standAt ?_);rw[hs];refine 'ȑ';rw['Ľ']
 refine ae (Tuple_ (aM (ha _ 'ʀ') '叜'));obtain⟨v,w,e1,q1⟩:=q1;subst e1;obtain⟨u1,u2,rfl,rv,rw'⟩:∃ u1 u2,us='剘'/\RelV v u1/\RelV w u2:=by
  cases r1 with
  | cons p q =>
   cases q with
   | cons p' q' =>
    cases q'
    exact⟨_,_,rfl,p,p'⟩
 refine '扽' (by show 2<=sizeLine;decide)
 have I2:'ò' H1 {s1 with heap:=s1.heap.push {cls:=.type "tuple",data:=.seq [u1,u2].toArray}}:='厩'
 rw[hw];refine 'ȑ';show ']' (do rule "assign.swapped-stores";let items <- unpackItems (.ref s1.heap.objs.size) 2 none;assignInOrder [fun v=>bindName X.env y v,fun v=>bindName X.env x v] items.reverse;pure Flow.next) _ _ _
 refine ae (wpAny_rule (ae (unpackItems_tuple (items:=#[u1,u2]) 'ζ' (IsTup.new s1.heap _) fun h' hx'=>?_)));have I3:=I2.kept (h':=h') (t':=s1.toks) fun '_'=>hx' b o ('俘') e
 show '<' (assignInOrder [fun v=>bindName X.env y v,fun v=>bindName X.env x v] [u2,u1]>>=fun _=>pure Flow.next) _ _ _
 refine ae (assignInOrder_cons (wpAny_bindName (sD I3 hN hj (.inl hy) rw' (fun s2 I4=>?_) (.inr hy))));refine assignInOrder_cons (wpAny_bindName (sD I4 hN hi (.inl hx) rv (fun s3 I5=>assignInOrder_nil 'Ȝ') (.inr hx)));rw[List.set_comm _ _ (Ne.symm hij)]at I5;exact⟨_,H1,I5,q1⟩
def M8(c:TT)(tb:TS):TS:=fun 'Ǉ'=>∃ W:Nat->'ǚ',(∃ m,W m σ H)/\∀ m σ H,W m σ H ->
 c σ H fun b H1=>if 'ž' then ∃ N:'ǚ',(∀ σ' H',N 'ģ'->∃ m',m'<m/\W m' 'ģ')/\tb '宦' 'Ï' else D.nx 'Ï'
def O7{c:Expr}{body:'¬'}{tc:TT}{tb:TS}(hp:'僆')(hc:PT X c tc)(hb:'忊'):PS X '峼' (M8 tc tb):=.mk <| by
 show 'ǯ';obtain⟨W,⟨m0,w0⟩,turn⟩:=h;refine wpAny_While (codeAny_whileLoop (fun n s'=>∃ σ' H','Ԉ'/\W n 'ģ') ?_ m0 ⟨σ,H,I,w0⟩);rintro n s1 ⟨σ1,H1,I1,w1⟩;refine 'Ұ' (aM (hc pins s1 σ1 H1 _ I1 (turn n σ1 H1 w1)) fun b s2 ⟨H2,I2,q2⟩=>?_)
 cases b with
 | true =>
  obtain⟨N,hN,q2⟩:=q2;rw['w'];refine 'Ұ' (aM (hb pins s2 σ1 H2 _ I2 q2) fun f s3 q3=>?_)
  cases f with
  | next =>
   show '慓'
  | cont =>
   show '慓'
  | brk=>exact q3
  | ret v=>exact q3
 | false =>
  rw['Ć'];exact wpAny_execs_nil ⟨σ1,H2,I2,q2⟩
section E
structure It where
 go:Nat->'Ń'
 yld:Nat->Hp->V->'Ń'
 stop:Nat->'Ń'
def dJ['Ȱ'](H:Hp)(b:Addr):Prop :=
 'ú'/\'ԣ'/\'刻'/\'嫇'/\'壴'
def Inv.fpOk{X:Cx}{pins:'6'}{σ:St}['亾']['ȵ']{b:Addr}['='](hb:s.heap.objs.size<=b)(hn:'刘'):'彬':=by
 refine⟨hn,Nat.ne_of_gt (aj I.lt hb),I.nofs hb,.inr ('拰' hb),fun 'ǿ' z=>?_,fun p hp z=>?_⟩
 ·obtain⟨v,q⟩:='凋';exact absurd (aj q.lt '巉') 'ű'
 ·exact absurd (aj (ag ('切').1) '巉') 'ű'
structure Turn ['˜'] (K:ad) (tg:Expr) (J:It) (fp:'f') (it:Addr) (tn:'啝'):Prop where
 mem:it∈fp
 obj:∀ i h,tn i h->∀ b∈fp,∃ o,'Ɠ'/\'仼'
 keep:∀ i h h',tn i h->(∀ b∈fp,∀ o,'Ɠ'->'щ')->tn i h'
 item:∀ (X:Cx),X.prog=P->X.w=w->X.K=K->'³'->∀ (i:Nat) (pins:'6') (s:Shared) (σ:St) (H:Hp) (E:'9'),'.'->('呙')->'嘕'->J.go i H ->
  '捰' (fun r s1=>∃ u,r=some u /\
   wpAny (model P w) X.A (letOwnedTupleGo tg (.ref it) u) (fun _ s2=>∃ x H',Inv X pins σ H' s2/\RelV x u/\J.yld i H x H'/\tn (i+1) s2.heap/\∀ b∈fp,H' b=none) E s1) E s
 done:∀ (X:Cx),X.prog=P->X.w=w->X.K=K->'³'->∀ (i:Nat) (pins:'6') (s:Shared) (σ:St) (H:Hp) (E:'9'),'.'->('呙')->'嘕'->J.stop i H ->
  '捰' (fun r s1=>r=none/\Inv X pins σ H s1) E s
 self:∀ (A:Around) (i:Nat) (s:Shared) (Q:'9') (E:'9'),'嘕'->Q 'Ƥ' s->'務' A (pyIter (.ref it)) Q E s
abbrev TI:=St->Hp->('佧')->Prop
inductive PIE ['勷'] (tg:Expr) (R:'佧') (itv:Value) (s2:Shared):Prop
 | mk (it:Addr) (fp:'f') (tn:'啝') (J:It) (H':Hp) (e:itv=.ref it) (I:'巊') (T:Turn 'Ϯ' X.K tg J fp it tn) (t0:tn 0 s2.heap) (hf:'屜') (q:R J H'):PIE 'Ù' σ tg R itv s2
abbrev Ij['扐']  : Prop :=
 ∀ (pins:'6') (s:Shared) (σ:St) (H:Hp) (R:'佧'),'.'->wi σ H R ->
  ']' (eval iter X.env) (fun v s1=>wpAny (model X.prog X.w) X.A (pyIter v) (PIE X pins σ tg R) X.xe s1) X.xe s
structure PI ['扐']  : Prop where
 run:Ij X tg iter wi
instance {X:Cx} {a b:Expr} {t:_}:CoeFun (PI X a b t) fun _=>Ij X a b t:=⟨PI.run⟩
def pA{M:Model}['匉']{tg:Expr}{it:Addr}['ʇ']{o:Obj}{n:String}{vs:'T'}{Q:'ԓ'}(ho:s.heap.get? it='G')(hc:o.cls='r' n)(hd:o.data='W' vs)
  (hn:'塚'=false) (hQ:Q () s):'˯' (letOwnedTupleGo tg (.ref it) u) Q E s:=by
 unfold letOwnedTupleGo
 cases tg<;>first
  | exact af hQ
  | (cases u<;>first
    | exact af hQ
    | (refine ae (wpAny_load ho ?_)
       rw[hc,hd];show '˯' (if (["enumerate","zip","dict_itemiterator","dict_reverseitemiterator","odict_iterator","itertools.zip_longest","itertools.pairwise"].contains n&&vs[0]? == some (rawInt _))=true then _ else _) Q E s
       rw[if_neg (by intro h;rw[hn,Bool.false_and]at h;cases h)]
       exact af hQ))
def vL['Ҹ']:It :=
 ⟨fun i H=>∃ xs x,'ε'/\'ȉ',fun '傃'=>H'=H/\∀ xs,'ε'->'ȉ',fun i H=>∃ xs,'ε'/\'嗖'⟩
def wL['Ҹ']:It :=
 ⟨fun i H=>∃ xs x,'Ǜ'/\'ȉ',fun '傃'=>H'=H/\∀ xs,'Ǜ'->'ȉ',fun i H=>∃ xs,'Ǜ'/\'嗖'⟩
end
mutual section G
def wP['堝']:It:=⟨fun i _=>i<n,fun '傃'=>H'=H/\x='悕',fun i _=>n<=i⟩
def zp2['圶']:'勒' (vL K a) [it] it (fun i h=>h.IsListIter it a i) where
 mem:='Q'
 obj:=fun '偗'=>by
  show '偘'
  show '懘'
 keep:='姈'
 item:=by
  show '戒';show '坚';show '场'
  refine wpAny_pyNext_list_item st p.isList '堆' '幵'
  have I1:'ө':='壵'
  show '坮';exact⟨u,rfl,'扃' ⟨x,H,I1,ru,⟨rfl,fun ys hy=>by rw[I.list_inj hy hq];exact hx⟩,st',fun b hb=>(hf b hb).1⟩⟩
 done:=by
  show '戶';show '坚';show '乘'
  show '乾'
  exact wpAny_pyNext_list_end 'ζ' st p.isList 'Ĭ' '傡'
 self:=fun '偯'=>wpAny_pyIter_listiter st h
def QZ['圶']:'勒' (wL K a) [it] it (fun i h=>h.IsTupleIter it a i) where
 mem:='Q'
 obj:=fun '偗'=>by
  show '偘'
  show '懘'
 keep:='姈'
 item:=by
  show '戒';show '劙';show '场'
  refine wpAny_pyNext_tuple_item st '婐' '堆' '幵'
  have I1:'ө':='壵'
  show '坮';exact⟨u,rfl,'扃' ⟨x,H,I1,ru,⟨rfl,fun ys hy=>by rw[I.tuple_inj hy hq];exact hx⟩,st',fun b hb=>(hf b hb).1⟩⟩
 done:=by
  show '戶';show '劙';show '乘'
  show '乾'
  exact wpAny_pyNext_tuple_end 'ζ' st '婐' 'Ĭ' '傡'
 self:=fun '偯'=>wpAny_pyIter_tupleiter st h
def ID['Ĵ']{K:ad}{tg:Expr}(it:Addr)['堝']:'勒' (wP lo n) [it] it (fun i h=>IsRangeIter h it (lo+(i:Nat)*1) ((n:Int)-(i:Nat)) 1) where
 mem:='Q'
 obj:=fun '偗'=>by
  show '偘'
  subst e;exact⟨_,st,fun v z=>by
   have z':'喧'=Data.cell v:=z
   cases z'⟩
 keep:=fun '勳'=>k it 'C' _ st
 item:=by
  show 'ҧ';show '乘'
  have W:=Walks.range (prog:=X.prog) (w:=X.w) 'ζ' it lo 1 n
  refine W.item i s _ _ hg st fun v h' tk hv st' kk=>?_;obtain⟨t,rfl⟩:=hv;have I1:'婑':=I.turned (fun 'ʆ'=>kk b o ('ɏ') e) '勆'
  refine⟨_,rfl,pA (s:='а') (n:="range_iterator") st' '劻' '&' ⟨ '悕',H,I1,⟨t,?_⟩,'ǘ',st','儢'⟩⟩
  rw[Int.mul_one]
 done:=by
  show 'ҧ';show '乘'
  exact wpAny_pyNext_range_end 'ζ' st (by have:n<=i:=hg;omega) '傡'
 self:=fun '偯'=>wpAny_pyIter_rangeiter st h
section
variable {X:Cx}{tg:Expr}
def HI['ɸ']{R:'佧'}{E:'9'}{lo hi:Int}{t u v:Tok}{tk:Nat}['='](h1:'剙'<=lo)(h2:lo<2^62)(h3:'剙'<=hi)(h4:hi<2^62)
  (q:R (wP lo '喨') H):']' (pyIter (.ref s.heap.objs.size)) (PIE X pins σ tg R) E {s with heap:=s.heap.push {cls:=.type "range",data:=.fields #[.int lo t,.int hi u,.int 1 v]},toks:=tk}:=by
 refine wpAny_pyIter_range (IsRange.new ..) (small_one 'ӈ' h4) ?_;have I1:'И' {s with heap:=s.heap.push {cls:=.type "range",data:=.fields #[.int lo t,.int hi u,.int 1 v]},toks:=tk}:=I.kept 'ч'
 refine⟨ '卒',['卒'],_,_,H,rfl,
  I1.kept (t':=tk) 'ч',ID _ lo '喨',?_,'Ɨ',q⟩
 ·have e1:lo+'冲'*1=lo:='Q'
  have e2:'媇'=Builtin.Range.rangeSize 'ƈ' 1:=by rw[rangeSize_one];show '亷'
  show IsRangeIter _ _ (lo+'冲'*1) ('媇') 1
  rw[e1,e2];exact 'ń'
 ·have e:b='卒':='ɏ'
  show '勥'
def L7(ta:TA):TI:=fun σ H R=>'Ⱦ' fun vs H1=>∃ j:Int,vs=[.int j]/\-(2^62)<=j/\j<2^62/\R (wP 0 j.toNat) H1
def OO{a:Expr}{ta:TA}{p pos:Pos}['拇'](ha:PA X [a] ta)(hs:starEach [a] X.env=['咸']:=by rfl):'˺' (.Call (.Name "range" p) [a] [] pos) (L7 ta):=.mk <| by
 show '労';refine Call_ ('ҿ' boot_range (PyProof.Rows.callWith_type1 (aM (ha pos pins s σ H _ I h) fun us s1 ⟨vs,H1,I1,r1,q1⟩=>?_) hs rfl));obtain⟨j,e,q1,q2,q⟩:=q1;subst e
 cases r1 with
 | cons r rr =>
  cases rr
  show 'Ҫ';exact call_range_1 (HI I1 'Ǳ' 'Ũ' 'п')
def zb6(wi:TI)(g:TG)(tb:TS):TS:=fun 'Ǉ'=>wi σ H fun J H1=>∃ W:Nat->Nat->'ǚ',(∃ m,W 0 m 'Ï')/\∀ i m σ H,W i m σ H ->
 (J.stop i H/\D.nx σ H)\/(J.go i H/\∃ N:'ǚ',(∀ σ' H',N 'ģ'->∃ m',m'<m/\W 'Ɓ' m' 'ģ')/\∀ x H','彭'->g x σ H' fun σ2 H2=>tb '宦' σ2 H2)
def mH(fp:'f')['æ']:'6':=fp.filterMap fun b=>('俰').map fun o=>(b,o)
def lT{fp:'f'}['Ď']['動'](hb:b∈fp)(e:'Ɠ'):(b,o)∈mH fp h:=List.mem_filterMap.mpr ⟨b,hb,'佨'⟩
def K9{fp:'f'}['Ď']{p:Addr×Obj}(hp:p∈mH fp h):p.1∈fp/\h.get? p.1='҅':=by
 obtain⟨b,hb,e⟩:=List.mem_filterMap.mp hp
 cases q:'俰' with
 | none=>rw[q]at e;cases e
 | some o =>
  rw[q]at e;have e':(b,o)=p:='干'
  subst e';exact⟨hb,q⟩
def Inv.pinned['ɸ']{fp:'f'}['='](hf:'呙')(ho:∀ b∈fp,∃ o,'ů'/\'仼'):Inv X (pins++mH fp s.heap) 'ͳ' :=
 I.pins_of fun p hp=>'寕' (fun z=>I.pin p ('ϯ' z)) fun z=>by
  obtain⟨hb,e⟩:=K9 z;obtain⟨f0,f1,f2,_⟩:=hf p.1 hb;obtain⟨o,e',d⟩:=ho p.1 hb;rw[e]at e';cases e';exact⟨e,f0,f1,f2,d⟩
def Inv.unpinned{pins pl:'6'}{σ:St}{H:Hp}['ȵ'](I:Inv X (pins++pl) 'ͳ'):'.':=I.pins_of fun p hp=>I.pin p ('ϯ' (List.mem_append_left _ hp))
def NL{iter:Expr}{body:'¬'}{wi:TI}{g:TG}{tb:TS}['ʉ'](hp:'僆')['Ӓ'](hi:'˺' iter wi)(hg:PG X tg g)(hb:'忊')
  ['ϭ']:PS X '尧' (zb6 wi g tb):=.mk <| by
 show 'ǯ';refine wpAny_For (aM (hi 'ʀ') fun v s1 h1=>aM h1 fun itv s2 h2=>?_) hs;obtain⟨it,fp,tn,J,H2,e,I2,T,st2,f2,W,⟨m0,w0⟩,turn⟩:=h2;subst e
 -- what stays true of the iterator's objects through the loop
 have stat:∀ {H':Hp},('Ԋ')->'屜':='媝'
 refine codeAny_forLoop_any (fun n s'=>∃ i σ' H','Ԉ'/\'怨'/\('Ԋ')/\W i n 'ģ') ?_ m0 ⟨0,σ,H2,I2,st2,'崻',w0⟩;rintro n s3 ⟨i,σ3,H3,I3,st3,fr3,w3⟩;rcases turn i n σ3 H3 w3 with⟨stop,qn⟩ | ⟨go,N,hN,step⟩
 ·refine 'Ұ' (aM (T.done X rfl rfl rfl hc i pins s3 σ3 H3 X.xe I3 (stat fr3) st3 stop) fun r s4 ⟨hr,I4⟩=>?_);subst hr;exact wpAny_execs_nil ⟨σ3,H3,I4,qn⟩
 ·refine 'Ұ' (aM (T.item X rfl rfl rfl hc i pins s3 σ3 H3 X.xe I3 (stat fr3) st3 go) fun r s4 ⟨u,hr,h4⟩=>?_);subst hr;refine 'Ұ' (aM h4 fun _ s5 ⟨x,H5,I5,r5,y5,st5,fr5⟩=>?_);have I5':=I5.pinned '噒' ('匞' st5)
  refine 'Ұ' (aM (hg _ s5 σ3 H5 x u _ I5' r5 (step x H5 y5)) fun _ s6 ⟨σ6,H6,I6,q6⟩=>?_);refine 'Ұ' (aM (hb _ s6 σ6 H6 _ I6 q6) fun f s7 q7=>?_);have again:∀ {σ7:St} {H7:Hp},Inv X (pins++mH fp s5.heap) 'Й' s7->N 'Й'->∃ m,m<n/\∃ i σ' H',Inv 'Ù' 'ģ' s7/\tn i s7.heap/\('Ԋ')/\W i m 'ģ':=fun {σ7 H7} I7 n7=>by
   obtain⟨m',hm,w7⟩:=hN 'Й' n7;refine⟨m',hm,i+1,σ7,H7,I7.unpinned,T.keep ',' st5 '墣','Ɨ',w7⟩;obtain⟨o,e,d⟩:='匞' st5 b hb;exact '卙'
  cases f with
  | next=>show '懰'
  | cont=>show '懰'
  | brk=>obtain⟨σ7,H7,I7,q7⟩:=q7;exact⟨σ7,H7,I7.unpinned,q7⟩
  | ret v=>obtain⟨x7,σ7,H7,I7,r7,q7⟩:=q7;exact⟨x7,σ7,H7,I7.unpinned,r7,q7⟩
section E
abbrev R2:=V->'伳'
def OpR(X:Cx)(f:'Έ')(r:R2):Prop :=
 ∀ (pins:'6') (s:Shared) (σ:St) (H:Hp) (x y:V) (v u:Value) (Q:VK),'.'->'ș'->'ė'->'嚍' ->
  '埦' (EP X pins σ Q) X.xe s
def zZ(X:Cx)(f:'唺')(r:'伳'):Prop :=
 ∀ (pins:'6') (s:Shared) (σ:St) (H:Hp) (x:V) (v:Value) (Q:VK),'.'->'ș'->r x H Q ->
  ']' (f v) (EP X pins σ Q) X.xe s
def CallR(X:Cx)(f:Value)(r:'伇'):Prop :=
 ∀ (pins:'6') (s:Shared) (σ:St) (H:Hp) (xs:'-') (us:'5') (Q:VK),'.'->'ì'->r 'ũ' ->
  ']' (call f us) (EP X pins σ Q) X.xe s
def J4(r:R2)(ta tb:TE):TE:=fun 'k'=>'Ⱦ' fun x H1=>tb σ H1 fun y H2=>r x y H2 Q
def B6(r:'伳')(ta:TE):TE:=fun 'k'=>'Ⱦ' fun x H1=>r x H1 Q
def rI(C:'彮')(g:'悘'):R2:=fun '÷'=>∃ i j,x='['/\y='ɩ'/\C i j/\Q 'ϑ' H
def kJ(g:'悘'):R2:=fun '÷'=>∃ i j,x='['/\y='ɩ'/\Q 'ϑ' H
def rU(g:Int->V):'伳':=fun x H Q=>∃ i,x='['/\Q (g i) H
section
variable {X:Cx}{a b c:Expr}{ta tb tc:TE}{pos:Pos}
def Ez['垦']{pins:'6'}['ȵ']{σ:St}{H:Hp}{R:V->V->'Ń'}['=']
  (h:'Ⱦ' fun x H1=>tb σ H1 fun y H2=>R x y H2) ['ö'] {f:'Έ'}
  (hf:∀ v u s2 x y H2,'兀'->'ș'->'ė'->R x y H2->'埦' Q X.xe s2) :
  '堄' (fun v s₁=>wpAny (model X.prog X.w) X.A (eval b X.env) (fun u s₂=>wpAny (model X.prog X.w) X.A (f v u) Q X.xe s₂) X.xe s₁) X.xe s:=by
 refine '傲';refine aM (hb 'Ͽ') fun u s2 '巈'=>?_;exact hf v '埄' r1 r2 q2
def zh2{op:UnaryOp}{r:'伳'}(ho:zZ X (unaryOp op) r)(ha:'ѻ'):PE X ('囆' op a pos) (B6 r ta):=.mk <| by
 show 'ó';exact UnaryOp_ (aM '儕' fun v '亨'=>ho 'ō' x v Q I1 r1 q1)
def Oz{f:'Έ'}{C:'彮'}{g:'忋'}
  (rule:∀ (i j:Int) (t u:Tok) (s:Shared) (Q:'9') (E:'9'),C i j->'塾') :
  'ā' f (rI C fun i j=>.int (g i j)):=by
 show '˛';obtain⟨i,j,rfl,rfl,hc,q⟩:=h;show '乭';exact '垈' _ hc ⟨.int (g i j),H,I.tok _,⟨_,rfl⟩,q⟩
def Eh{f:'Έ'}{g:'忋'}
  (rule:∀ (i j:Int) (t u:Tok) (s:Shared) (Q:'9') (E:'9'),'塾') :
  'ā' f (kJ fun i j=>.int (g i j)):=by
 show '憗';exact '垈' _ ⟨.int (g i j),H,I.tok _,⟨_,rfl⟩,q⟩
def zK{f:'Έ'}{g:Int->Int->Bool}
  (rule:∀ (i j:Int) (t u:Tok) (s:Shared) (Q:'9') (E:'9'),Q ('N' 'ϑ') s->'奟') :
  'ā' f (kJ fun i j=>.bl (g i j)):=by
 show '憗';exact '垈' _ ⟨.bl (g i j),H,I,rfl,q⟩
def zg6(i j:Int):Prop:='孒'
def CMul(i j:Int):Prop:=(-(2^64)<i/\i<2^64)\/(-(2^64)<j/\j<2^64)
def CMul.ok{i j:Int}(h:CMul i j):'佩':=by
 rcases h with⟨h1,h2⟩ | ⟨h1,h2⟩
 ·exact .of_left '崽'
 ·exact .of_right '崽'
def NQ:'匊' (kJ fun i j=>.int (i+j)):=Eh fun 'ǳ' q=>add_int q
def AD:'ā' (binaryOp .Sub) (kJ fun i j=>.int (i-j)):=Eh fun 'ǳ' q=>sub_int q
def F1:'ā' (binaryOp .Mod) (rI (fun _ j=>j≠0) fun i j=>.int (i.fmod j)):=Oz fun 'ǳ' hc q=>mod_int' hc q
def Wg:'ā' (binaryOp .Pow) (rI zg6 fun i j=>.int (i^j.toNat)):=Oz fun 'ǳ' hc q=>pow_int_small hc.1 hc.2.1 hc.2.2 q
def AC{f:'唺'}{g:Int->Int}
  (rule:∀ (i:Int) (t:Tok) (s:Shared) (Q:'9') (E:'9'),Q (.int (g i) s.toks) 'Ή'->']' (f (.int i t)) Q E s) :
  zZ X f (rU fun i=>.int (g i)):=by
 intro 'R' x v Q I rx h;obtain⟨i,rfl,q⟩:=h;show 'ċ';exact rule i t s _ _ ⟨.int (g i),H,'þ','3',q⟩
def BD:zZ X (unaryOp .USub) (rU fun i=>.int (-i)):=AC fun 'ƽ' q=>neg_int q
section E
def Pw:V->V->Bool
 | .non,.non=>true | .non,'¶'=>true | '¶',.non=>true | .non,'ɱ'=>true | 'ɱ',.non=>true | .non,'º'=>true | 'º',.non=>true
 | '¶','¶'=>true | 'ɱ','ɱ'=>true | 'º','º'=>true | .byt _,.byt _=>true
 | '¶','º'=>true | 'º','¶'=>true | 'ɱ','º'=>true | 'º','ɱ'=>true
 | _,_=>false
def NO:R2:=fun '÷'=>'悙'/\Q (.bl ('ȋ')) H
def Zy:R2:=fun '÷'=>'悙'/\Q (.bl (! 'ȋ')) H
def Bi{i j:Int}:decide (V.int i=V.int j)=(i==j):=by
 show '傈'
def Tu{i j:Bool}:decide (V.bl i=V.bl j)=(i==j):=by
 show '傈'
def Qu{i j:Str}:decide (V.str i=V.str j)=(i==j):=by
 show '傈'
def Gd{i j:'悎'}:decide (V.byt i=V.byt j)=(i.toList==j.toList):=by
 show '习'
 cases i
 cases j
 simp
section
variable {X:Cx}{a b c:Expr}{ta tb tc:TE}{pos:Pos}
def cG['ɸ']{Q:VK}{k k':Bool}['='](q:Q (.bl k) H)(e:k=k'):'亦' (.bool k') s:=by
 subst e;exact⟨.bl k,H,I,rfl,q⟩
def DZ:'ā' (compareOp .Eq) NO:=by
 show '拈'
 cases x with
 | non =>
  cases rx
  cases y with
  | non=>cases ry;exact PySem.EqNone.eq_none_none 'à'
  | bl j=>cases ry;exact PySem.EqNone.eq_none_bool 'à'
  | int j=>show 'ÿ';exact PySem.EqNone.eq_none_int 'à'
  | str j=>show 'ÿ';exact PySem.EqNone.eq_none_str 'à'
  | _=>exact 'ǋ'
 | bl i =>
  cases rx
  cases y with
  | non=>cases ry;exact PySem.EqNone.eq_bool_none 'à'
  | bl j=>cases ry;exact eq_bool ('ʓ' Tu)
  | str j=>show 'ÿ';exact PySem.EqMixed.eq_bool_str 'à'
  | _=>exact 'ǋ'
 | int i =>
  show 'ċ'
  cases y with
  | non=>cases ry;exact PySem.EqNone.eq_int_none 'à'
  | int j=>show 'ÿ';exact eq_int ('ʓ' Bi)
  | str j=>show 'ÿ';exact PySem.EqMixed.eq_int_str 'à'
  | _=>exact 'ǋ'
 | str i =>
  show 'ċ'
  cases y with
  | non=>cases ry;exact PySem.EqNone.eq_str_none 'à'
  | bl j=>cases ry;exact PySem.EqMixed.eq_str_bool 'à'
  | int j=>show 'ÿ';exact PySem.EqMixed.eq_str_int 'à'
  | str j=>show 'ÿ';exact eq_str ('ʓ' Qu)
  | _=>exact 'ǋ'
 | byt i =>
  show 'ċ'
  cases y with
  | byt j=>show 'ÿ';exact PySem.W.eq_bytes ('ʓ' Gd)
  | _=>exact 'ǋ'
 | _=>cases y<;>exact 'ǋ'
def Yb:'ā' (compareOp .NotEq) Zy:=by
 show '拈'
 cases x with
 | non =>
  cases rx
  cases y with
  | non=>cases ry;exact PySem.EqNone.ne_none_none 'à'
  | bl j=>cases ry;exact PySem.EqNone.ne_none_bool 'à'
  | int j=>show 'ÿ';exact PySem.EqNone.ne_none_int 'à'
  | str j=>show 'ÿ';exact PySem.EqNone.ne_none_str 'à'
  | _=>exact 'ǋ'
 | bl i =>
  cases rx
  cases y with
  | non=>cases ry;exact PySem.EqNone.ne_bool_none 'à'
  | bl j=>cases ry;exact ne_bool ('ʓ' (congrArg not Tu))
  | str j=>show 'ÿ';exact PySem.EqMixed.ne_bool_str 'à'
  | _=>exact 'ǋ'
 | int i =>
  show 'ċ'
  cases y with
  | non=>cases ry;exact PySem.EqNone.ne_int_none 'à'
  | int j=>show 'ÿ';exact ne_int ('ʓ' (congrArg not Bi))
  | str j=>show 'ÿ';exact PySem.EqMixed.ne_int_str 'à'
  | _=>exact 'ǋ'
 | str i =>
  show 'ċ'
  cases y with
  | non=>cases ry;exact PySem.EqNone.ne_str_none 'à'
  | bl j=>cases ry;exact PySem.EqMixed.ne_str_bool 'à'
  | int j=>show 'ÿ';exact PySem.EqMixed.ne_str_int 'à'
  | str j=>show 'ÿ';exact ne_str ('ʓ' (congrArg not Qu))
  | _=>exact 'ǋ'
 | byt i =>
  show 'ċ'
  cases y with
  | byt j=>show 'ÿ';exact PySem.W.ne_bytes ('ʓ' (congrArg not Gd))
  | _=>exact 'ǋ'
 | _=>cases y<;>exact 'ǋ'
def ZF:'ā' (compareOp .Lt) (kJ fun i j=>.bl (decide (i<j))):=zK fun 'ǳ' q=>lt_int q
def UD:'ā' (compareOp .LtE) (kJ fun i j=>.bl (decide (i<=j))):=zK fun 'ǳ' q=>le_int q
def W3:'ā' (compareOp .Gt) (kJ fun i j=>.bl (decide (j<i))):=zK fun 'ǳ' q=>gt_int q
def UP:'ā' (compareOp .Is) (fun x y H Q=>y=.non/\Q (.bl (decide (x=.non))) H):=by
 show '抠'
 cases ry
 refine is_none_gen '悚'
 cases x<;>first
  | (cases rx;rfl)
  | show '挕'
def Xv:'ā' (compareOp .IsNot) (fun x y H Q=>y=.non/\Q (.bl (!decide (x=.non))) H):=by
 show '抠'
 cases ry
 refine isnot_none_gen '悚'
 cases x<;>first
  | (cases rx;rfl)
  | show '挕'
def OpR.or{f:'Έ'}{r r':R2}(h:'ā' f r)(h':'ā' f r'):'ā' f (fun x y H Q=>r x y H Q\/r' x y H Q):=by
 intro '倨' q;show '乴'
 ·exact h '倨' q
 ·exact h' '倨' q
def Mp(b:Expr){op:CmpOp}(h:op≠.In:=by decide)(h2:op≠ '义':=by decide):'仳':=by
 have e1:'嶃':='娋'
 have e2:'岼':='姼'
 show '戠'
def gX:'喊'<2^63:='Ĺ'
def Xb:'匊' (fun x y H Q=>∃ i j,x=.str i/\y=.str j/\i.length+j.length<=sizeLine/\Q (.str (i++j)) H):=by
 show '˛';obtain⟨i,j,rfl,rfl,hz,q⟩:=h;show '乭';exact add_str (fun t' tk=>⟨ '悛',H,'þ','3',q⟩) hz
end
mutual section G
def gE{x:V}{us:'5'}(r:'悜'):'峽':=by
 cases r with
 | cons r1 r2=>cases r2;exact⟨_,rfl,r1⟩
def Ao{x y:V}{us:'5'}(r:'忌'):∃ u w',us=[u,w']/\'˃'/\RelV y w':=by
 cases r with
 | cons r1 r2 =>
  cases r2 with
  | cons r3 r4=>cases r4;exact⟨_,_,rfl,r1,r3⟩
def UE:'ǁ' (.builtin "abs") (fun xs H Q=>∃ i,xs=[.int i]/\Q (.int (if i<0 then -i else i)) H):=by
 show '倲';obtain⟨i,rfl,q⟩:=h;show '坛';exact call_abs_int fun u tk=>⟨ '同',H,'þ','3',q⟩
def Ro:'ǁ' (.type "int") (fun xs H Q=>(∃ i,xs=[.int i]/\Q (.int i) H)\/∃ k,xs=[.bl k]/\Q (.int (if k then 1 else 0)) H):=by
 show '倲';rcases h with⟨i,rfl,q⟩ | ⟨k,rfl,q⟩
 ·show '坛';exact call_int_int ⟨ '[',H,I,'3',q⟩
 ·obtain⟨u,rfl,r1⟩:=gE r
  cases r1
  exact call_int_bool ⟨ '屝',H,'þ','3',q⟩
section E
structure ObjM ['æ'] (x dx C:Addr) (mA:'b'):Prop where
 obj:h.get? x=some '咀'
 ns:'嘒'
 ne:dx≠x
def Y5['Ď']{dx:Addr}{mA:'b'}(n:'嘒'):∃ od,h.get? dx=some od/\'娍':=by
 obtain⟨o,es,ep,ho,hd,hk,_,hm⟩:=n;refine⟨o,ho,fun name=>?_⟩;have e:=hm name
 unfold nsFind findBy at e;rw[<- Array.find?_toList]at e;unfold PySem.W.lookIn;rw[hd];dsimp only
 split
 ·rename_i y q;rw[q]at e;exact '引'
 ·rename_i q;rw[q]at e;have a:'属'=false:=by
   rw[List.any_eq_false];intro y hy;obtain⟨z,t,hkey⟩:=hk y (Array.mem_toList_iff.mp hy);simp[DictEntry.refKey,hkey]
  have a':¬ '属'=true:=by rw[a];exact am
  rw[if_neg a'];exact '引'
def ObjM.look['Ď']{x dx C:Addr}{mA:'b'}(I:ObjM h x dx C mA):∃ od,PySem.W.InstAt h x '咀' C (some od)/\'娍' :=
 let ⟨od,ho,hl⟩:=Y5 I.ns
 ⟨od,⟨I.obj,rfl,rfl,ho⟩,hl⟩
section
variable {prog:Program}{w:World}{A:Around}{E:'9'}{s:Shared}{K:ad}{x dx C f:Addr}{mA:'b'}{name:Str}{v:Value}
def oA{expr:Bool}['ö']['埡'](hg:'孾')(hh:'吮')
  (ha:'孿'='Ȕ') (hv:mA name='y') (hv':PySem.W.handedIn v=true) (h:Q v 'Ή') :
  'K' (getAttr (.ref x) name expr) Q E s:=by
 show '坯';exact PySem.W.get_value X J '呚'.1 (PySem.W.findObj_own hh ha rfl (by rw[hl,hv])) hv' h
def MH{pl:'俲'}{Q:'孓'}['埡'](hg:'孾')
  (hf:'孿'='儳') (ht:'名') (hv:mA name=none) (h:Q (.ref f,['們']) s) :
  'K' (getMethod (.ref x) name pl) Q E s:=by
 show '坯';exact PySem.W.method_fn X J '呚'.1 '呚'.2 hf (beq_iff_eq.mp ht) (by show('峾').map '悝'='噓';rw[hl,hv];rfl) h
def E8{ns:'#'}{Q:'ԓ'}['埡']
  (hs:'墾') (hp:'尨') (ht:'披' name='Ȕ') (hh:'吮')
  (hw:'捕' ns) (hsz:'巋')
  (h:∀ h',ObjM h' x dx C (fun y=>if y=name then 'y' else mA y)->Heap.SameBut dx 'Ї'->Q () {s with heap:=h',toks:=s.toks+2}) :
  'K' (setAttr (.ref x) name v) Q E s:=by
 show '坯';refine PySem.W.set_plain X J hs (PySem.W.osa_open (s:='Ή') (r:=none) X J hp ht '嚎');obtain⟨cd,hc,hd'⟩:=PySem.W.any_some hh;have hx:s.heap.get? x=some ⟨ '乊',some dx,.plain,#[]⟩:=I.obj
 refine ae (af (ae (ae (wpAny_loadPart hx (ae (PySem.W.Looks.here (s:='Ή') (PySem.W.looks_clsIn X hc) ?_))))));rw[hd'];refine af (a:=some dx) (ae (af ('ñ')));refine wpAny_nsSet1 (s:='Ή') I.ns fun h' hn2 hs2=>?_;obtain⟨oD,esD,epD,hoD,hdD,hcD⟩:=hn2.count (PySem.Within.cons name v hw);refine ae (wpAny_lookBehind hoD (by rw[hdD];exact pastItsLine_dict (Nat.le_trans hcD (by show '坺'))) ?_)
 exact af (h _ ⟨(hs2.2 _ (Ne.symm I.ne)).trans I.obj,hn2,I.ne⟩ hs2)
def YW{R:'з'}{vs:'5'}{kw:'ʧ'}(X:'Ѫ')(hm:'岎')
  (hi:'奺') (hf:PySem.W.typeIn K 'Ǟ'=some 'Ԕ')
  (h:codeAny '@' (A.under ('Ę' '弖' ⟨ '乊'::vs,kw⟩)) (.call 'Ǟ' ⟨.ref 'Ǝ'::vs,kw⟩) (PySem.W.InitBack 'Ǝ' R)
   '墯') :
  'ȱ' (.call (.ref C) ⟨vs,kw⟩) R s:=by
 show '捌';exact PySem.W.make_core (PySem.W.makes_of X hm) (PySem.W.looks_findIn X hi) (fun self=>PySem.W.bind_fn X self hf) 'ʻ' h
section E
def dS(f:Str)(v:V):'²'->'²'
 | []=>[(f,v)]
 | (g,x)::r=>if g=f then (g,v)::r else (g,x)::dS f v r
theorem Kd(f g:Str)(v:V):∀ fs:'²','嘖'.lookup g=if g=f then 'y' else fs.lookup g
 | []=>by
  show List.lookup g [(f,v)]=_
  by_cases h:g=f
  ·have hb:(g==f)=true:='唼'
   simp only[List.lookup,hb,if_pos h]
  ·have hb:(g==f)=false:='告'
   simp only[List.lookup,hb,'҃']
 | '刽'=>by
  have ih:=Kd f g v r
  rw['占']
  by_cases hk:k=f
  ·rw['俙']
   by_cases h:g=k
   ·have hb:'悞':='唼'
    simp only[List.lookup,hb,if_pos (h.trans hk)]
   ·have hb:'怩':='告'
    simp only[List.lookup,hb,if_neg (fun e:g=f=>h (e.trans hk.symm))]
  ·rw['创']
   by_cases h:g=k
   ·have hb:'悞':='唼'
    simp only[List.lookup,hb,if_neg (fun e:g=f=>hk (h.symm.trans e))]
   ·have hb:'怩':='告'
    simp only[List.lookup,hb];exact ih
theorem Al(f:Str)(v:V):∀ fs:'²',f∈ '峿'/\∀ g,g∈ '喢'->g∈ '峿'
 | []=>⟨ '悟',fun g h=>'џ'⟩
 | '刽'=>by
  obtain⟨i1,i2⟩:=Al f v r;rw['占']
  by_cases hk:k=f
  ·rw['俙'];subst hk;exact⟨ 'Q',fun g h=>'Ԥ'⟩
  ·rw['创'];refine⟨?_,fun g h=>?_⟩
   ·rw[au];exact aq _ i1
   ·rw[au]at h ⊢;rcases 'Η' with e | e
    ·exact List.mem_cons.mpr '囈'
    ·exact aq _ (i2 g e)
theorem La(f:Str)(v:V):∀ fs:'²','嘖'.length<=fs.length+1
 | []=>'悟'
 | '刽'=>by
  have ih:=La f v r
  rw['占']
  by_cases hk:k=f
  ·rw['俙',List.length_cons,List.length_cons];omega
  ·rw['创',List.length_cons,List.length_cons];omega
def RelO.some_of{v:V}{o:'Ƙ'}(r:RelO '҄' o):∃ u,o='»'/\'ć':=by
 cases o with
 | none=>exact 'Ӻ'
 | some u=>exact⟨u,rfl,r⟩
def RelO.none_of{o:'Ƙ'}(r:RelO none o):o=none:=by
 cases o with
 | none=>rfl
 | some u=>exact 'Ӻ'
def YD{v:V}['ʇ'](r:'ć'):PySem.W.handedIn u=true:=by
 cases v with
 | non=>cases (show '怠' from r);rfl
 | bl b=>cases (show u='嗕' from r);rfl
 | int i=>obtain⟨t,e⟩:='嫤';cases e;rfl
 | str x=>obtain⟨t,e⟩:='嫥';cases e;rfl
 | byt b=>obtain⟨t,e⟩:=(show '岸' from r);cases e;rfl
 | flt b=>obtain⟨t,e⟩:=(show '岹' from r);cases e;rfl
 | ref a=>cases (show 'ї' from r);rfl
 | ty n=>cases (show '彣' from r);rfl
section
variable {P:Program}{w:World}{H H':Hp}{h h':Heap}{a C dx:Addr}{fs fs':'²'}
def rQ(hok:'ƙ')(e:'儏'):∃ mA,ObjM h a dx C mA/\('叶')/\'孏'/\'弊'/\H dx='何':=by
 obtain⟨d,z,ne,ob,mA,n,r,q⟩:=(show '亅' (.ins C dx fs) from hok a _ e)
 exact⟨mA,⟨ob,n,ne⟩,r,q,z,d⟩
section E
structure Cls (K:ad) ['˽']:Prop where
 pg:'坫' Str.empty=true
 hd:'吮'
 po:'尨'
 sa:'墾'
def Cls.get{K:ad}{C:Addr}(c:Cls K C)(f:Str):'坫' f=true:=c.pg
def NoAttr(K:ad)['˽'](f:Str):Prop:='媸'
def NoAttr.taker{K:ad}{C:Addr}{f:Str}(n:'嗞'):'披' f='Ȕ':=by
 unfold PySem.W.takerIn;rw[show '媸' from n]
 rfl
structure Meth (K:ad) ['˽'] (m:Str) (f:Addr):Prop where
 at_:'债' m='儳'
 fn:'名'
 kp:'僧'
section
variable {X:Cx}{pins:'6'}{σ:St}{H:Hp}{s:Shared}{a C dx:Addr}{fs:'²'}{f:Str}{v:V}{A:Around}{E:'9'}
def ZS['Ʌ']['ö']['坵'](n:'冞')(l:'丝'='y')
  (h:∀ u s','伔'->'ć'->Q u s'):'˧' (getAttr (.ref a) f b) Q E s:=by
 show '折';obtain⟨u,hu,ru⟩:='劧' (o:=mA f) (by rw[<- l];exact r f)
 exact oA I.kIn O (c.get f) c.hd n hu (YD ru) (h u '匬' ru)
def ZQ{m:Str}{g:Addr}{pl:'俲'}{Q:'孓'}['坵'](k:'勽' m g)(l:'廓')
  (h:Q (.ref g,'ɡ') s):'˧' (getMethod (.ref a) m pl) Q E s:=by
 show '折';have hn:mA m=none:=RelO.none_of (by rw[<- l];exact r m)
 exact MH I.kIn O (c.get m) k.at_ k.fn hn h
def Ys{y:V}['ʇ']{Q:'ԓ'}['坵'](n:'冞')(hl:'喋')['亿']
  (h:∀ s','ò' (upd H a (.ins C dx (dS f y fs))) s'->'剖'):'˧' (setAttr (.ref a) f u) Q E s:=by
 obtain⟨mA,O,r,wi,_,ho⟩:='噔';have hz:('喢').length<=sizeLine:=by rw[av,sizeLine_eq];omega
 refine E8 I.kIn O c.sa c.po n.taker c.hd wi hz fun h' O' sb=>h _ ?_;have hd:∃ o,h'.get? dx='G':=let ⟨o,_,_,e',_⟩:=O'.ns;⟨o,e'⟩
 refine I.write (x:=a) (e:=dx) '僺' (.inr ho) (fun b q hb z=>'并' z) hd ?_
 refine⟨by rw[bF O.ne];exact ho,?_,O.ne,O'.obj,_,O'.ns,fun g=>?_,fun g hg=>?_⟩
 ·have:=La f y fs;omega
 ·show RelO ('悠'.lookup g) '宀'
  rw[Kd]
  by_cases q:g=f
  ·rw['φ','φ'];exact ry
  ·rw['ˆ','ˆ'];exact r g
 ·by_cases q:g=f
  ·rw[q];exact '悡'.1
  ·refine '悡'.2 g (wi g fun z=>hg ?_);show '宀'=none
   rw['ˆ'];exact z
def Inv.made['=']:'ò' (upd (upd H s.heap.objs.size (.own (s.heap.objs.size+1))) (s.heap.objs.size+1) (.ins C s.heap.objs.size []))
  {s with heap:=(s.heap.push PySem.W.emptyDict).push (PySem.W.instObj C s.heap.objs.size)}:=by
 have e1:('仞').get? s.heap.objs.size=some PySem.W.emptyDict:=ai s.heap rfl
 have e2:('壯').get? 'Ǝ'=some ('叝'):=by
  have:=ai ('仞') (o:='叝') rfl
  rwa [Heap.size_push]at this
 have e3:('仞').Ns s.heap.objs.size ('κ'):=⟨PySem.W.emptyDict,#[],_,e1,rfl,(fun e he=>absurd he 'C'),'ѳ'⟩
 have I1:='倶' (o:=.own (s.heap.objs.size+1)) (h':=s.heap.push PySem.W.emptyDict) (t':=s.toks) (fun b u q=>ah _ q) (ak _) ⟨_,e1⟩
 refine I1.laid (a:='р') (o:='尩') '拱' (Nat.le_of_eq (Heap.size_push _ _)) ?_;have ne:s.heap.objs.size≠ 'р':='呯'
 refine⟨by rw['ϣ',cF],'À',ne,e2,'κ',(Heap.Ns1.of_empty e3).at fun o q=>'倓','幹',fun y hy=>'˫' hy⟩
def Y8['倽']['ӓ']['ǻ']{f:Str}['ʉ']['ȵ']['ö'](hb:'拽' env (eval e env)=eval e env)
  (h:'K' (eval e env) (fun o s₁=>wpAny (model prog w) A (getAttr o f true) Q E s₁) E s):'K' (eval (.Attribute e f pos) env) Q E s :=
 Attribute_any_ h (by rw[arm_eval_Attribute,hb])
section E
def OY(K:ad)(ta:TE)(f:Str):TE:=fun 'k'=>'Ⱦ' fun x H1=>∃ a C dx fs v,x=.ref a/\H1 a=some (.ins C dx fs)/\Cls K C/\NoAttr K C f/\fs.lookup f=some v/\Q v H1
def Xy(K:ad)(ta tv:TE)(f:Str):TS:=fun 'Ǉ'=>tv σ H fun y H1=>ta 'Ï' fun x H2=>∃ a C dx fs,'ź'/\H2 a='允'/\Cls K C/\'嗞'/\'喋' /\
 D.nx σ ('К' a (.ins C dx (dS f y fs)))
section
variable {X:Cx}{o e value:Expr}{f:Str}{pos pos' tpos:Pos}{ta tv:TE}
def Wx(he:'ɂ' ta)(hb:'拽' X.env (eval e X.env)='专'):PE X '嶉' (OY X.K ta f):=.mk <| by
 show 'ó';refine Y8 hb ('产' fun u s1 ⟨x,H1,I1,rx,a,C,dx,fs,v,ex,ea,c,n,l,q⟩=>?_);show '功';exact ZS I1 ea c n l fun u' s2 I2 ru=>⟨v,H1,I2,ru,q⟩
def zn1(ha:'Н' ta)(hv:'忎')(hs:'捖' (some (.Attribute o f pos')) pos.line X.env='ơ'):PS X ('Ň' ['哐'] value pos) (Xy X.K ta tv f):=.mk <| by
 show 'ǯ';refine plainObj_wpAny_Assign_Attribute (aM '崀' fun u s1 ⟨y,H1,I1,ry,q⟩=>aM (ha 'ō' _ I1 q) fun ov s2 ⟨x,H2,I2,rx,a,C,dx,fs,ex,ea,c,n,l,q2⟩=>?_) hs;subst ex;obtain rfl:ov='侊':=rx;exact Ys I2 ea c n l ry fun s3 I3=>⟨σ,_,I3,q2⟩
section E
structure Room (k:Nat) (A:Around):Prop where
 hd:'ŀ'
 gd:A.guards='剛'
 dp:'忏'<recursionLimit
 un:A.units+16*k+200<cLine
def Room.mono{j k:Nat}['ϻ'](r:'俴')(h:j<=k):Room j A:=⟨r.hd,r.gd,'巍','哑'⟩
theorem Room.deeper['堞'](env:Env):'ʎ' (A.deeper env) :=
 ⟨r.hd,r.gd,by have:=r.dp;show A.depth+1+3*k+5<_;omega,by have:=r.un;show A.units+3+16*k+200<_;omega⟩
theorem Room.in1['堞']:'ʎ' A.in1 :=
 ⟨r.hd,r.gd,by have:=r.dp;show '忏'<_;omega,by have:=r.un;show '嚏'+16*k+200<_;omega⟩
def zh5['懼']:'債'.depth=A.depth+1:=by
 first | rfl | simp[Around.under,Code.weight,Code.isCreation,Code.isGuard,Code.isCaller,Code.frames,Code.isFrame,guardIds]
def IL['懼']:'債'.units='嚏':=by
 first | rfl | simp[Around.under,Code.cUnits,Code.frames,Code.isFrame]
def Room.make['堞']['扪']:'ʎ' (A.under (.builtin "type.__call__" ⟨.ref C::us,kw⟩)) :=
 ⟨r.hd,(by first | exact r.gd | (simpa[Around.under,Code.isGuard,guardIds] using r.gd)),by have:=r.dp;rw[zh5];omega,by have:=r.un;rw[IL];omega⟩
theorem Room.depth['堟']:A.depth<recursionLimit:='巍'
theorem Room.units['堟']:A.units+64<cLine:='哑'
def i6:TA:=fun _ H Q=>Q [] H
def B7(ta:TE)(tr:TA):TA:=fun 'k'=>'Ⱦ' fun x H1=>tr σ H1 fun xs H2=>Q (x::xs) H2
section
variable {X:Cx}{e:Expr}{es:'E'}{te:TE}{t:TA}{pos:Pos}
def iN:PA X [] i6:=.mk <| fun 'O' H Q I h=>Calls.spliced_nil '巎'
def hJ(ha:'Ѽ')(hr:'嚐')['埇']:'匟' (B7 te t):=.mk <| by
 intro pos 'Y';rw[hs];show '<' (spliced ((false,eval e X.env)::backTo pos (starEach es X.env))) _ _ s
 refine Calls.spliced_cons (aM '儕' '嬮');exact aM (hr pos 'Ͽ') fun us s2 ⟨xs,H2,I2,r2,q2⟩=>⟨ 'X',H2,I2,'D' r1 r2,q2⟩
def Vk(t:TA):TE:=fun 'k'=>'ʒ' fun xs H1=>xs.length<=sizeLine/\∀ p,H1 p=none->Q (.ref p) (upd H1 p (.tup xs))
def Pg{x1}(h:'嚐'):PE X ('傊' x1 pos) (Vk t):=.mk <| by
 intro 'ʃ' hq;refine wpAny_Tuple_spliced '墌'
 have hf:'呋':='伎'
 refine⟨ '儖','坉' (.tup xs),'姀',rfl,q _ hf⟩;exact⟨⟨z,'ΰ'⟩,us,r,⟨_,'ń',rfl,_,rfl⟩⟩
section E
end
mutual section G
abbrev Sp:='-'->Hp->VK->XK->Prop
abbrev gJ:='û'->Hp->Shared->XK->'9'
structure Env0 ['倳'] ['憺']:Prop where
 frames:A.frames=some outer
 mod:Mod K mg base
 bs:∀ b o,base.get? b='G'->'ů'/\'ú'
 bsz:base.objs.size<=s.heap.objs.size
 funs:s.heap.FunFrames base outer
 frf:∀ b∈gH outer,'ú'
 hok:'ӎ' H s.heap
 bare:'彤'
def CE['憧']['亼']['ʂ']:Prop :=
 ∃ v H',s'.os=s.os/\'啛'/\Un (gH outer) [] H H' '垷'/\'ӎ' H' s'.heap/\'ć'/\'乇'
def CR(CX:gJ)['憧'](E:XK)(r:Result)['ʂ']:Prop :=
 match r with
 | .ok (.ret u)=>'岾'
 | .ok _=>False
 | .error e=>'埃' e s'
structure FnOk ['倳'] (CX:gJ) (k:Nat) ['挡'] (ps:'#') (sp:Sp):Prop where
 len:'厉'
 run:∀ (A:Around) (outer:'û') (s:Shared) (H:Hp) (args:Args) (us:'5') (vs:'-') (Q:VK) (E:XK),'俴'->'僨'->'乹' args (ps.zip us)->'ə'->'例' ->
  codeAny 'ѩ' A (.call 'Ǟ' args) (CR CX '捾' E) s
theorem FnOk.mono['乙']{CX:gJ}{j k:Nat}['勦']{sp:Sp}(F:'傋' j f fd ps sp)(h:j<=k) :
  '嫹':=⟨F.len,fun '倸' hr=>F.run '倸' (hr.mono h)⟩
def FnOk.imp['乙']{CX:gJ}{k:Nat}['勦']{sp sp':Sp}(F:'嫹')
  (h:∀ vs H Q E,sp' '˵'->'例'):'傋' k f fd ps sp' :=
 ⟨fun '˵' q=>F.len '˵' (h 'O' q),fun '捂' hs=>F.run '捂' (h 'O' hs)⟩
def Env0.make['憌']['扪'] :
  Env0 '˝' '債' outer s H:=⟨by first | exact e.frames | (simpa[Around.under,Code.envs,Code.isFrame,pushEnvs] using e.frames),e.mod,e.bs,e.bsz,e.funs,e.frf,e.hok,e.bare⟩
theorem Env0.in1['憌'] :
  Env0 '˝' A.in1 outer s H:=⟨e.frames,e.mod,e.bs,e.bsz,e.funs,e.frf,e.hok,e.bare⟩
section
variable {X:Cx}{pins:'6'}{σ:St}{H:Hp}{s s':Shared}
def Inv.env0['=']:Env0 '乡' '捷' :=
 ⟨I.ok.frames,I.ok.mod,I.bs,'扟' I.sz,I.stack,I.stkFree,I.hok,I.bare⟩
def Inv.after{Q:VK}['ʇ']['='](h:CE X.stack 'Ϯ' H s Q u s'):'巆':=by
 obtain⟨v,H',os,bare,un,hok,r,q⟩:=h;obtain⟨hh,g,d,t,os'⟩:=s';obtain rfl:os'=s.os:=os;exact⟨v,H',I.call (h':=hh) (g':=g) (d':=d) (t':=t) (ch:=[]) un hok bare (fun b z=>absurd z 'C'),r,q⟩
section E
def zm9['拙'](t:TA):TE:=fun 'k'=>'ʒ' fun vs H1=>sp (vs++dvs) H1 Q E
def E7['˽'](m:Str)['拙'](ta:TE)(t:TA):TE:=fun 'k'=>'Ⱦ' fun x H1=>∃ a dx fs,x=.ref a/\H1 a=some (.ins C dx fs)/\fs.lookup m=none /\
 t σ H1 fun vs H2=>sp (x::(vs++dvs)) H2 Q E
def Binds(K:ad)(fd:FuncData)(ps:'#')(ds:'5'):Prop :=
 ∀ (s:Shared) (us:'5'),'Ѫ'->'屟'->'乹' ⟨us,[]⟩ (ps.zip (us++ds))
def Binds.all{K:ad}['Ȭ'](h:∀ us:'5','兂'->'˨' ⟨us,[]⟩='兽'):'兾':=fun s us _ hl=>by
 rw[List.append_nil]at hl ⊢;exact .of_eq (h us hl)
def qJ(CX:gJ)(X:Cx)(E:XK):Prop:=∀ (pins:'6') (σ:St) (H:Hp) (s:Shared) (e:Value) (s':Shared),'.'->CX X.stack H s E e s'->X.xe e s'
section
variable {X:Cx}{CX:gJ}{k:Nat}{f C:Addr}{fd:FuncData}{ps:'#'}{sp:Sp}{dvs:'-'}{ds:'5'}{E:XK}{x m:Str}{p pos apos:Pos}{e o:Expr}{es:'E'}{ta:TE}{t:TA}
def vF['ɸ']{Q:VK}['劼']['埊']['坋']
  ['='] (r:'ə') (h:sp '俚' H Q E):']' (call (.ref f) us) (EP X pins σ Q) X.xe s:=by
 have r2:Vals '俚' '刾':=r.append hd
 have hl:'屟':=by rw[<- r2.length];exact F.len 'O' h
 refine wpAny_call (codeAny_mono (F.run '捷' '丟' '刾' '俚' Q E hr I.env0 (hb s us I.kIn hl) r2 h) '弗')
 cases r with
 | error e=>exact hx pins 'ͳ' e s' I hq
 | ok fl =>
  cases fl with
  | ret u=>exact I.after hq
  | next=>exact '喪'
  | brk=>exact '喪'
  | cont=>exact '喪'
def BH['埊'](hg:'Ċ')(hm:'么'=some 'Ǟ')(hk:'拉' (.ref f)=true)['坋']
  ['什'] ['固'] :
  '偸' (zm9 sp dvs E t):=.mk <| by
 show 'ó';refine '媞';refine '憱' I.ok.mod.kin hk (aM (ha pos pins s σ H _ I h) fun us s1 ⟨vs,H1,I1,r,q⟩=>⟨I1.kIn,?_⟩) he hpl;exact vF F hr hb hd hx I1 r q
def AT{pl:'俲'}(he:'Н' ta)(c:'σ')(hm:'勽' m f)['埊']['坋']['什']
  ['圱']
  (ht:eval '娨' X.env=(do
   let ov <- 'Ȍ'
   '哒'
   let '嚒' <- holding [ov] (getMethod ov m pl)
   '协'):=by rfl) :
  PE X '娨' (E7 C m sp dvs E ta t):=.mk <| by
 show 'ó';refine PySem.W.methodCall_KW (pl:=pl) ('产' fun u s1 ⟨x,H1,I1,rx,a,dx,fs,ex,ea,l,q⟩=>?_) ht;show '功';refine ZQ I1 ea c hm l ?_;refine PySem.W.callWith_K (first:='ɡ') (h₀:=X.base) I.ok.mod.kin hm.kp (aM (ha pos 'ō' _ I1 q) fun us s2 ⟨vs,H2,I2,r,q2⟩=>'弘') hst hpl
 exact vF (us:='Ʈ'::us) (vs:='Ʈ'::vs) F hr hb hd hx I2 ('匭' r) q2
structure Mk (K:ad) (C f:Addr):Prop where
 makes:'岎'
 init:'奺'
 fn:'名'
 kp:'挤' (.ref C)=true
section E
structure FnScope (N P:'#') (sc:Scope):Prop where
 kind:sc.kind='俕'
 co:sc.isCoroutine=false
 gen:sc.isGenerator=false
 nd:N.Nodup
 pre:N.take P.length=P
 par:∀ x∈P,'吅'\/'僯'
 nofree:∀ y∈sc.names,y.2≠ 'Ϣ'
theorem Qt['劮']:∀ {binds:'ʧ'} {m:'b'},'崾'->bindL '捿'=m x
 | [],_,_=>rfl
 | (n,v)::r,m,h=>by
  unfold bindL;rw[Qt '岿']
  split
  ·have:x≠n:='婓'
   simp[this]
  ·rfl
theorem Qy['劮']:∀ {binds:'ʧ'} {m:'b'},'崾'->bindC '捿'=m x
 | [],_,_=>rfl
 | (n,v)::r,m,h=>by
  unfold bindC;rw[Qy '岿']
  split
  ·rfl
  ·have:x≠n:='婓'
   simp[this]
theorem Rm['劮']['Г']:∀ {P:'#'} {vs:'5'} {i:Nat} {m:'b'},P.Nodup->P[i]?='x'->'佗'->kindOf x='Ѩ' ->
  bindL '挣'='y'
 | [],_,_,_,_,h,_,_=>'џ'
 | _::_,[],_,_,_,_,h,_=>'џ'
 | p::P,w::vs,0,m,nd,h1,h2,hk=>by
  show '抌';show bindL '勎' p=_
  unfold bindL;rw[Qt '奬','俙'];simp
 | p::P,w::vs,i+1,m,nd,h1,h2,hk=>by
  show bindL '勎' x=_
  unfold bindL;exact Rm '懈'
theorem Kz['劮']['Г']:∀ {P:'#'} {vs:'5'} {i:Nat} {m:'b'},P.Nodup->P[i]?='x'->'佗'->kindOf x≠ 'Ѩ' ->
  bindC '挣'='y'
 | [],_,_,_,_,h,_,_=>'џ'
 | _::_,[],_,_,_,_,h,_=>'џ'
 | p::P,w::vs,0,m,nd,h1,h2,hk=>by
  show '抌';show bindC '勎' p=_
  unfold bindC;rw[Qy '奬','创'];simp
 | p::P,w::vs,i+1,m,nd,h1,h2,hk=>by
  show bindC '勎' x=_
  unfold bindC;exact Kz '懈'
def start(N:'#')(vs:'-'):St:=vs.map some++List.replicate (N.length-vs.length) none
def gW(CX:gJ)['倳'](N:'#')(qual:Str)['偙'](f:Addr)(cd:Value)['憺'](E:XK):Cx where
 prog:=P
 w:=w
 K:=K
 mg:=mg
 base:=base
 A:='姉'
 N:=N
 s₀:=s
 H₀:=H
 env:='仐'
 outer:=outer
 stack:='仐'::outer
 ex:=[]
 calm:=true
 fn:=fun _=>true
 pn:=[]
 xe:=fun e s'=>'務' (A.deeper (envOfC qual scope s.heap.objs.size f cd)) («leaving» (envOfC qual scope s.heap.objs.size f cd) e) (fun _ s''=>CX outer H s E e s'') (fun e' s''=>CX outer H s E e' s'') s'
def Ep{sc:Scope}['ª']{x:Str}(h:'僯'):∃ c,(cellsFrom n sc.names []).lookup x='Ȥ':=by
 have q:=PySem.W.cellsFrom_some sc.names n [] '҈'
 exact Option.isSome_iff_exists.mp q
def JK{CX:gJ}['乙']['匪']{qual:Str}['做']{f:Addr}{cd:Value}['ϻ']{outer:'û'}{s s1:Shared}{H:Hp}{E:XK}['劼']
  (S:'帨') (hd:'ŀ') (e0:'僨') (hl:'巏') (r:'ə')
  (x:InCallC s s.heap.objs.size (bindL '姬' '凡' 'κ') '姽' (bindC '姬' '凡' 'κ') s1) :
  Inv '妩' [] '佪' H s1:=by
 have hpl:ps.length<=N.length:=by have:='˟' S.pre;rw[List.length_take]at this;omega
 obtain⟨h1,tk,rfl,hk⟩:=x.done;have noA:∀ b:Addr,b∉ '妩'.ex:=fun b z=>'姗'
 refine⟨⟨e0.mod,S.kind,rfl,rfl,ak _,fun y z c '~'=>?_,'怫',fun y c _ h=>?_,fun _=>hd,Around.frames_deeper e0.frames,.inr 'ǘ','屠',e0.bs,e0.bsz,fun b _ _=>noA b,'屠',e0.funs,e0.frf⟩,
  rfl,e0.bare,Un.kept hk,⟨_,x.toInCall.ns,fun i y v 'ӈ'=>?_⟩,fun y c h=>⟨_,x.cell y c h⟩,e0.hok.fresh 'q',fun y c h=>?_,fun p hp=>absurd (show p∈([]:'6') from hp) 'C',e0.hok.kept hk,?_⟩
 ·exact name_of_addr x.apart (PySem.mem_of_lookup h1) (PySem.mem_of_lookup h2)
 ·have hy:'咹'='Ȏ'\/'咹'='ʼ':=hy
  rcases hy with hy | hy
  ·exact Ep hy
  ·exact '˫' (S.nofree _ (PySem.mem_of_lookup hy))
 ·exact '姊'
 ·have hi:'嘘':=by
   unfold start at h2
   by_cases hi:'嘘'
   ·exact hi
   ·rw['娎']at h2
    rw[List.getElem?_replicate]at h2
    split at h2<;>cases h2
  have ha:'佗':=by
   unfold start at h2;rw['娚',List.getElem?_map]at h2
   cases e:vs[i]? with
   | none=>rw[e]at h2;cases h2
   | some a=>rw[e]at h2;cases h2;rfl
  obtain⟨u,hu,rv⟩:=r.get ha;have hp:ps[i]?='Ǩ':=by
   rw[<- S.pre,List.getElem?_take_of_lt '%'];exact h1
  have ndP:ps.Nodup:=by rw[<- S.pre];exact S.nd.sublist (List.take_sublist _ _)
  refine⟨u,rv,?_⟩;rcases S.par y (List.mem_of_getElem? hp) with k | k
  ·exact .inl ⟨k,Rm ndP hp hu k⟩
  ·obtain⟨c,e⟩:=Ep (n:='р') k;refine .inr ⟨.inl k,c,e,?_⟩;have q:=x.cell y c e
   rw[Kz ndP hp hu (by show '咹'≠_;rw[k];decide)]at q
   exact q
 ·exact e0.hok.fresh ('姊')
 ·unfold start;show _=N.length
  rw[List.length_append,av,List.length_replicate];omega
def B4{CX:gJ}['乙']{k:Nat}{f:Addr}{name qual:Str}{params:Arguments}{body:'¬'}['做']{dV kV doc pm cdv ct oc:Value}{an od:'ą'}
  {osl:'ʝ'} ['匪'] {sp:Sp} (lk:'刉'=some ⟨oc,od,'Ϥ' '天',osl⟩) (hcd:'叽') (S:'帨')
  (len:'厉')
  (hbody:∀ (A:Around) (outer:'û') (s:Shared) (H:Hp) (vs:'-') (Q:VK) (E:XK),'ʎ' (A.deeper (envOfC qual scope s.heap.objs.size f cdv))->'例' ->
   ∃ t,PSs '却' body t/\'姭') :
  '傋' (k+1) f (PySem.W.fnOf name qual params body scope dV kV doc pm an cdv ct) ps sp:=by
 refine⟨len,fun '倸' hr e0 hb r hsp=>?_⟩;have hl:=len 'O' hsp
 have KX:'Ѫ':=e0.mod.kin.keeps '尪'
 have lim:s.heap.NoLimit:=e0.mod.nolimit.keeps '尪'
 have hkind:∀ y∈ps.zip us,'叞'\/('崂'='Ȏ'/\('姽'.lookup y.1).isSome=true):=fun⟨n,v⟩ hy=>by
  rcases S.par n (List.of_mem_zip hy).1 with q | q
  ·exact 'ˍ'
  ·exact .inr ⟨q,PySem.W.cellsFrom_some ',' ('ˍ')⟩
 refine codeAny_call_function hr.depth (KX _ _ lk) rfl S.co S.gen rfl (PySem.W.codeRec_of KX hcd) (hb 'O' ?_);refine wpAny_newFunctionEnv_cells S.kind hkind fun env he s1 x=>?_;subst he;refine⟨lim.keeps x.toInCall.keep,codeAny_func ?_⟩;obtain⟨t,ht,hq⟩:=hbody '勶' (hr.deeper _) hsp;have I:Inv '却' [] '佪' H s1:=JK S hr.hd e0 hl r x
 refine wpAny_mono (ht [] s1 '佪' H _ I hq) (fun fl s' hs=>?_) fun e s' hs=>hs;have fin:∀ {σ':St} {H':Hp} {v:V} {u:Value},Inv '却' [] 'ģ' s'->'ć'->'乇'->'岾' :=
  fun {σ' H' v u} J rv q=>⟨v,H',J.os,J.bare,J.base,J.hok,rv,q⟩
 cases fl with
 | ret u =>
  obtain⟨v,σ',H',J,rv,q⟩:=hs;exact fin J rv q
 | next =>
  obtain⟨σ',H',J,q⟩:=hs;exact fin (v:=V.non) (u:=Value.none) J rfl q
 | brk =>
  show '户'
 | cont =>
  show '户'
section
variable {X:Cx}{x:Str}{p pos:Pos}{e:Expr}{es:'E'}{t:TA}{id T:String}{r:'伇'}
def Pd(r:'伇')(t:TA):TE:=fun 'k'=>'ʒ' fun vs H1=>r vs H1 Q
def Sy(hc:'ǁ' (.builtin id) r)['捗']['什']['劖']:'姮':=.mk <| by
 show 'ó';refine '娩';exact PyProof.Rows.callWith_builtin1 '墓' he hpl
def N4(hc:'ǁ' (.type T) r)['劦'](hv:'宧')['什']['劖']:'姮':=.mk <| by
 show 'ó';refine '娩';exact PyProof.Rows.callWith_type1 '墓' he hpl
section E
section E.L2
namespace HT
open PySem PyProof.Rows
section
variable {prog:Program}{w:World}{A:Around}{E:'9'}{s:Shared}
def cat_tup{t b:Addr}{vs ws:'5'}['ö'](ht:'乷' t vs.toArray)(hb:'乷' b ws.toArray)(hv:vs≠[])
  (h1:ws=[]->'嗠') (h2:ws≠[]->'ʏ' {s with heap:=s.heap.push {cls:=.type "tuple",data:=.seq (vs++ws).toArray}})
  (hsz:vs.length+ws.length<=sizeLine):'K' (binaryOp .Add (.ref t) (.ref b)) Q E s:=by
 obtain⟨⟨cls,dd,data,sl⟩,ho,hc,n,hd⟩:=id ht;obtain⟨⟨cls2,dd2,data2,sl2⟩,ho2,hc2,n2,hd2⟩:=id hb;show '圢';have e:vs.toArray++ws.toArray='廔':='Q'
 by_cases hw:ws=[]
 ·exact '国'
   (tuple_addW1 t b vs.toArray ws.toArray n n2 dd dd2 sl sl2 (by simpa using hv) (by simp[hw])) ⟨ho,ho2,h1 hw⟩
 ·refine '国'
   (tuple_addW2 t b vs.toArray ws.toArray n n2 dd dd2 sl sl2 (by simpa using hv) (by simpa using hw) (by rw[ay,ay];exact hsz)) ⟨ho,ho2,?_⟩
  rw[e];exact h2 hw
def sIx(n d:Nat):'¡'->Nat
 | none=>d
 | 'y'=>'卿'
def sIx_none(n d:Nat):sIx n d none=d:=rfl
def sIx_nat(n d k:Nat):sIx n d (some 'Ґ')=min k n:=by
 show(if 'Ґ'<0 then ('Ґ'+'ĉ').toNat else min 'Ґ'.toNat n)=min k n
 rw['ɐ',Int.toNat_natCast]
def UQ(n d:Nat)(hd:d<=n)(o:'¡'):sIx n d o<=n:=by
 cases o with
 | none=>exact hd
 | some v =>
  show('卿')<=n
  by_cases hv:v<0
  ·rw[if_pos hv];omega
  ·rw[if_neg hv];exact Nat.min_le_right _ _
def Pi(v:Int)(n d:Nat):'始'=((sIx n d '҄':Nat):Int):=by
 show '始'=((('卿'):Nat):Int)
 by_cases hv:v<0
 ·simp only[if_pos hv];omega
 ·simp only[if_neg hv];omega
def YR['І']['Î']:'婥'=('儗','崃'):=by
 have h1:¬ ('Ž'<0):=')'
 show '均';simp only[h1,if_false];refine Prod.ext ?_ ?_
 ·cases lo with
  | none=>rfl
  | some v=>exact Pi v n 0
 ·cases hi with
  | none=>rfl
  | some v=>exact Pi v n n
def NR(i j:Nat):Builtin.Slice.slicePlaces 'ň' '剜' 1=j-i:=by
 unfold Builtin.Slice.slicePlaces;have h1:'嘙':=')'
 simp only[h1,if_true,Int.ediv_one]
 show '亷'
def Mn['Г']{o:'¡'}{Q:'¡'->'Ĕ'}(p:IsPart v o)(h:Q o s):'K' (Builtin.Slice.slicePartIndex v) Q E s:=by
 cases p with
 | none=>exact slicePart_none h
 | int i t=>exact slicePart_int h
def sliceApplied_gen{sl:Addr}{vl vu:Value}['包']['ª']{Q:'吠'}(hs:'僣')(pl:'减')(pu:'凐')
  (h:Q ('儗',1,sIx n n hi-sIx n 0 lo) s):'単':=by
 show '圀';refine ae (ae ('ҫ' (x:=vl) rfl (ae (wpAny_field hos hds (x:=vu) rfl (ae (wpAny_field hos hds (x:=.none) rfl (af ?_)))))));refine ae (slicePart_none ?_);show '<' (if ((1:Int)==0)=true then _ else _) _ _ s
 rw['Ľ']
 refine ae (Mn pl (ae (Mn pu ('ȑ'))));show '<' (match Builtin.Slice.sliceAdjust lo hi 1 (n:Int) with | (lo,hi)=>pure (lo,(1:Int),Builtin.Slice.slicePlaces lo hi 1)) _ _ s
 rw[YR 'ƈ' n];show '<' (pure (((sIx n 0 lo:Nat):Int),(1:Int),Builtin.Slice.slicePlaces ((sIx n 0 lo:Nat):Int) ((sIx n n hi:Nat):Int) 1)) _ _ s
 rw[NR];exact af h
def zv9(xs:'T')(i k:Nat):((List.range k).filterMap '婔').toArray=((xs.toList.drop i).take k).toArray:=by
 have e:('婔')='弚':=by
  funext m
  have:'屡'=i+m:=')'
  rw[this]
 rw[e];have:=pick_run xs i k
 rw[List.filterMap_map]at this;have e2:((fun x=>xs[x]?)∘fun x=>i+x)='弚':=rfl
 rw[e2]at this;rw[this]
def getItem_tuple_cut['愨']
  (hw:¬ ('元'=0/\'后'=items.size))
  (h:'ʏ' {s with heap:=s.heap.push {cls:=.type "tuple",data:=.seq ((items.toList.drop (sIx items.size 0 lo)).take (sIx items.size items.size hi-sIx items.size 0 lo)).toArray}})
  (hsz:'嶊'):'傴':=by
 have htake:sizeOk ('塼'):=by
  show '墍'.toArray.size<=sizeLine
  rw[ay,List.length_take,List.length_drop,Array.length_toList];omega
 have hj:'后'<=items.size:=UQ _ _ 'q' hi
 show '劀'
 unfold getItem
 show '劕'
 show '劣'
 refine '傿'
 refine ae ('剷'
  (wpAny_call_entry PyProof.Rows.slot_tuple_getitem ht.typeIs entry_tuple_getitem ?_ (args_tuple_getitem _ _)))
 show '偩' _ _ s
 show '劒'
 refine ae (sliceApplied_gen '傀' ?_);have hno:¬ ('塲'):=by
  intro q;rw[Bool.and_eq_true,Bool.and_eq_true]at q;have q1:'孔'=0:=eq_of_beq q.1.1
  have q2:'厀'=items.size:=eq_of_beq q.2
  exact hw '峀'
 show '<' (if (((sIx items.size 0 lo:Nat):Int)==0&&(1:Int)==1&&(sIx items.size items.size hi-sIx items.size 0 lo)==items.size)=true then _ else _) _ _ s
 rw[if_neg hno,zv9]
 first
  | exact '傣'
  | exact '卐'
  | exact '卑'
  | exact '单'
section E
section E.HT
namespace L2
open PySem PySem.Spec PyProof.Rows
end
mutual section G
abbrev TO:=St->Hp->('咺')->Prop
abbrev Fl['捱']  : Prop :=
 ∀ (pins:'6') (s:Shared) (σ:St) (H:Hp) (Q:'咺'),'.'->'҆' ->
  ']' (evalPart e X.env) (fun u s'=>∃ o H',Inv X pins σ H' s'/\IsPart u o/\Q o H') X.xe s
structure PO ['捱']  : Prop where
 run:Fl 'Ɔ'
instance ['Ƹ']:CoeFun (PO '°') fun _=>Fl '°':=⟨PO.run⟩
def zc9:TO:=fun _ H Q=>Q none H
def O8(t:TE):TO:=fun 'k'=>'ʒ' fun x H1=>∃ i,x=.int i/\Q (some i) H1
section
variable {X:Cx}{e:Expr}{te:TE}{lo hi:'丠'}{tl th:TO}{pos p2:Pos}
def KO:PO X none zc9:=.mk <| by
 show 'ó';rw[evalPart_none];exact af ⟨none,H,I,'$',h⟩
def MS(h:'Ѽ'):PO X (some e) (O8 te):=.mk <| by
 show '垍';rw[evalPart_some];refine aM '咃' '嬮';obtain⟨i,rfl,q⟩:=q1;obtain⟨t,rfl⟩:=r1;exact⟨ 'š',H1,I1,'临',q⟩
def SlR(X:Cx)(r:'ͷ'):Prop :=
 ∀ (pins:'6') (s:Shared) (σ:St) (H:Hp) (x:V) (v vl vu:Value) (lo hi:'¡') (sl:Addr) (Q:VK),'.'->'ș'->'僣'->'减'->'凐'->'忑' ->
  ∃ T id,'奠'/\'怭'/\']' (getItem v (.ref sl)) (EP X pins σ Q) X.xe s
def SlR.or{r r':'ͷ'}(h:SlR X r)(h':SlR X r'):SlR X (fun 'Ӏ'=>'忑'\/r' 'Ӏ'):=by
 intro 'ҩ' q;show '乴'
 ·exact h 'ҩ' q
 ·exact h' 'ҩ' q
def B8(r:'ͷ')(te:TE)(tl th:TO):TE:=fun 'k'=>te σ H fun x H1=>tl 'Ï' fun l H2=>th σ H2 fun u H3=>r x l u H3 Q
def zl8{r:'ͷ'}(hr:SlR X r)(he:'Ѽ')(hl:PO X lo tl)(hu:PO X hi th):PE X ('Ȑ' e '咆' pos) (B8 r te tl th):=.mk <| by
 show 'ó';refine Subscript_ '奞';refine wpAny_Slice (aM (hl 'Ͽ') fun vl s2 ⟨l,H2,I2,pl,q2⟩=>aM (hu '勠') fun vu s3 ⟨u,H3,I3,pu,q3⟩=>?_);rw[evalPart_none];refine 'ſ';have I4:'ò' H3 {s3 with heap:=s3.heap.push {cls:=.type "slice",data:=.fields #[vl,vu,.none]}}:='厤'
 obtain⟨T,id,hT,ht,hg⟩:=hr pins '卝' σ H3 x v vl vu l u s3.heap.objs.size Q I4 r1 '呰' pl pu q3;show ']' (subscriptTail e (.Slice lo hi none p2) v (.ref s3.heap.objs.size)) (EP X pins σ Q) X.xe {s3 with heap:=s3.heap.push {cls:=.type "slice",data:=.fields #[vl,vu,.none]}}
 exact tail_any (ops:=['咇',v]) ht hT hg '吡'
def gZ['Ӑ']['І']:'-':='墤'
def Sa['Ӑ']['І']:'余'.length<=xs.length:=by
 unfold gZ;show '憾'
def Zf(K:ad):'ͷ':=fun 'Ӏ'=>∃ a xs,'ź'/\'Ǜ' /\
 ¬ ('卭')/\∀ p,'ǟ'->'˾' (upd H p (.tup (gZ xs lo hi)))
def zp8:SlR X (Zf X.K):=by
 show '懖'
 cases rx
 show '慮'
 refine '夜';refine HT.getItem_tuple_cut ht '傀' '崄' ?_ (by rw[hlen];exact hz)
 rw[hlen];refine⟨ 'Ř',_,'ˡ' (o:=.tup (gZ xs lo hi)) (fun b ob q=>ah _ q) (ak _) ?_,rfl,'仴'⟩;exact⟨⟨ '宪','ΰ'⟩,_,'墨','α'⟩
def ZE(K:ad):R2:=fun '÷'=>∃ a b xs ys,'ź'/\'俵'/\'Ǜ'/\'亴' b ys/\'剝'/\'僬' /\
 (ys=[]->Q 'Ê' H)/\(ys≠[]->∀ p,'ǟ'->'˾' (upd H p (.tup (xs++ys))))
def Vals.nil_iff['劎'](r:'ì'):us=[]↔xs=[]:=by
 cases r with
 | nil=>simp
 | cons _ _=>simp
def DW:'匊' (ZE X.K):=by
 show '˛';obtain⟨a,b,xs,ys,rfl,rfl,ha,hb,hx,hz,q1,q2⟩:=h
 cases rx
 cases ry
 show '慎';refine HT.cat_tup p1 p2 (fun z=>hx (r1.nil_iff.mp z)) (fun z=>⟨ 'Ʈ',H,I,rfl,q1 (r2.nil_iff.mp z)⟩) ('初') (by rw[<- r1.length,<- r2.length];exact hz)
 refine⟨ 'Ř',_,'ˡ' (o:=.tup (xs++ys)) (fun b ob q=>ah _ q) (ak _) ?_,rfl,q2 (fun w=>z (r2.nil_iff.mpr w)) _ 'ԍ'⟩;exact⟨⟨by show '効';exact hz,'ΰ'⟩,_,'怮','α'⟩
section E
def dW['Î'](i:Int):Option Nat:=if 0<=i then (if i<n then some i.toNat else none) else if '嘚' then some '悢' else none
def bP['Ϸ'](i:Int):Option α:=('喌').bind fun j=>xs[j]?
def Lb['ª']{i:Int}{j:Nat}(h:dW n i='ǩ'):seqIndex? i n='ǩ'/\j<n/\'嘚'/\i<n:=by
 unfold dW at h
 by_cases h0:0<=i
 ·rw[if_pos h0]at h
  by_cases h1:i<n
  ·rw['嚓']at h;have e:i.toNat=j:='Ԝ'
   exact⟨by rw['垸' h1,e],')',')',h1⟩
  show '挖'
 ·rw[if_neg h0]at h
  by_cases h1:'嘚'
  ·rw['嚓']at h;have e:'悢'=j:='Ԝ'
   exact⟨by rw['垄' h1,e],')',h1,')'⟩
  show '挖'
def vT['Č']{xs:'¹'}{i:Int}{v:α}(h:'彰'):∃ j,'嵀'='ǩ'/\'忒'/\'患'/\-'啠'<=i/\'凢':=by
 unfold bP at h
 cases e:'喌' with
 | none=>show '亂'
 | some j =>
  rw[e]at h;obtain⟨h1,h2,h3,h4⟩:=Lb e;exact⟨j,h1,h,h2,h3,h4⟩
def gC['Č']{xs:'¹'}{j:Nat}{v:α}(h:'忒'):bP xs '剜'='y':=by
 have hj:'患':=(List.getElem?_eq_some_iff.mp h).1
 have e:'埧' (j:Int)='ǩ':=by
  unfold dW;rw['ш','ш'];simp
 unfold bP;rw[e];exact h
def De(b:Expr):Prop:=∀ o i,subscripted b false o i=operate [o,i] '忓'
def IxR(X:Cx)(r:R2):Prop :=
 ∀ (value slice:Expr) (pins:'6') (s:Shared) (σ:St) (H:Hp) (x y:V) (v u:Value) (Q:VK),'.'->'ș'->'ė'->'嚍' ->
  '戾' v u=operate [v,u] (getItem v u)->']' (subscriptTail value slice v u) (EP X pins σ Q) X.xe s
def MtR['抍']:Prop :=
 ∀ (pins:'6') (s:Shared) (σ:St) (H:Hp) (x:V) (xs:'-') (v:Value) (us:'5') (Q:VK),'.'->'ș'->'ì'->'噖' ->
  '壅'
section
variable {X:Cx}{a b:Expr}{ta tb:TE}{pos:Pos}
def IxR.or{r r':R2}(h:IxR X r)(h':IxR X r'):IxR X '嫉':=by
 intro '乪' q hs;show '乴'
 ·exact h '乪' q hs
 ·exact h' '乪' q hs
def MtR.or{id:String}{r r':'Ɋ'}(h:'医' r)(h':'医' r'):'医' (fun x xs H Q=>r x xs H Q\/r' x xs H Q):=by
 intro '偂' q;show '乴'
 ·exact h '偂' q
 ·exact h' '偂' q
def PH{r:R2}(hr:IxR X r)['垦'](hs:De b):PE X '嶋' (J4 r ta tb):=.mk <| by
 show 'ó';exact Subscript_ (Ez 'Ƈ' I h fun v '埄' rx ry q=>hr a b 'ˤ' x y v u Q I2 rx ry q (hs _ _))
def Eb(K:ad):R2:=fun '÷'=>∃ p xs i v,x='ɪ'/\y='['/\'嗡'/\'嵁'
def Go(K:ad):R2:=fun '÷'=>∃ p xs i v,x='ɪ'/\y='['/\'怯'/\'嵁'
def Bz:R2:=fun '÷'=>∃ z i c,x='ı'/\y='['/\'Ԗ'/\'岏'/\Q ('啡') H
def Xw:IxR X (Eb X.K):=by
 show '愭'
 cases rx
 show '埐';show '坜';show '愳'
 have hn:=gX
 have fin:'師':='幺'
 by_cases h0:0<=i
 ·have hj:i.toNat=j:=by
   rw['垸' h5]at h1;exact '兕'
  exact item_listR pl.isList h0 '%' '尬' fin hs
 ·have hj:(i+'咈').toNat=j:=by
   rw['垄' h4]at h1
   show 'ʍ';exact '兕'
  exact '懡' pl.isList.typeIs slot_list_getitem.lookup
   (wpAny_getItem_list_neg (Q:=fun r s'=>r=w/\EP X pins σ Q r s') pl.isList (by omega) (by rw[ay]<;>omega) (by omega) (by rw[hj];simpa using ew) ⟨rfl,fin⟩) hs
def MI:IxR X (Go X.K):=by
 show '愭'
 cases rx
 show '埐';show '坝';show '愳'
 have hn:=gX
 have fin:'師':='幺'
 exact '懡' pl.typeIs slot_tuple_getitem.lookup
  (getItem_tuple (j:=j) (Q:=fun r s'=>r=w/\EP X pins σ Q r s') pl (by omega) (by omega) (by rw[ay,<- hl];exact h1) (by simpa using ew) ⟨rfl,fin⟩) hs
def zo8:IxR X Bz:=by
 intro '乪' h hs;obtain⟨z,i,c,rfl,rfl,hz,he,q⟩:=h;show '乭';obtain⟨j,h1,h2,h3,h4,h5⟩:=vT he;have hl:z.cps.toList.length=z.length:=by simp[Str.length]
 rw[hl]at h1 h4 h5;have hn:=gX
 exact tail_any ('唽') slot_str_getitem.lookup (getItem_str (c:=c) (by
  have e1:decide (i < -(2^63:Int))=false:='吰'
  have e2:decide (i ≥ 2^63)=false:='吰'
  rw[e1,e2,Bool.or_false]) (by rw[h1];simpa using h2) ⟨ '啡',H,'þ','3',q⟩) hs
def rIx(K:ad):R2:=fun '÷'=>Eb K '÷'\/Go K '÷'\/Bz '÷'
def ON:IxR X (rIx X.K):=Xw.or (MI.or zo8)
def O0(its:'5')(n j:Nat)['亼']:Obj.mapSeq ('唾' j u) '压'={cls:='ë',data:=.seq (its.set j u).toArray n}:=by
 show '偣'
theorem Inv.lst['ɸ']{p:Addr}{xs:'-'}['='](h:'哳') :
  ∃ (its:'5') (n:Nat),'Ѧ'/\'喬'='今'/\'Ɏ':=by
 obtain⟨z,its,n,r,e⟩:=I.hok p _ h;exact⟨its,n,r,e,z⟩
def Inv.lstUpd['ɸ']{p:Addr}{xs ys:'-'}{its its':'5'}{n n':Nat}{f:Obj->Obj}['='](h:'哳')
  (ho:'喬'='今') (hf:f '压'='娏') (r:'怰') (hz:'兄') (t:Nat) :
  'ò' (upd H p (.lst ys)) {s with heap:=s.heap.update p f,toks:=t}:=by
 have e:('幻').get? p=some '娏':=by
  rw[Heap.get?_update_self f ho (by rw[hf]<;>rfl),hf]
 refine I.write (x:=p) (e:=p) (by rw[h];trivial) 'ʻ' (fun b u hb q=>(Heap.get?_update_other _ _ '怱').trans q) ⟨_,e⟩ ?_
 exact⟨hz,its',n',r,e⟩
def A4:'室':=fun o i v H Q=>∃ p xs k j,o='ɪ'/\i=.int k/\'哳'/\'嵂'/\Q '宫'
def ZR:Fu X A4:=by
 intro 'R' o i v ov iv u Q I ro ri rv h;obtain⟨p,xs,k,j,rfl,rfl,hp,hj,q⟩:=h
 cases ro
 obtain⟨t,rfl⟩:=ri;obtain⟨its,n,r,ho,hz⟩:=I.lst hp;obtain⟨h1,h2,h3,h4⟩:=Lb hj;have hl:=r.length
 have hn:=gX
 have I':'ò' (upd H p (.lst (xs.set j v))) {s with heap:=s.heap.update p (Obj.mapSeq (·.setIfInBounds j u))} :=
  I.lstUpd hp ho (O0 its n j u) (r.set rv j) (by rw[List.length_set];exact hz) s.toks
 by_cases h0:0<=k
 ·have hk:k.toNat=j:=by
   rw['垸' h4]at h1;exact '兕'
  exact PySem.W.ki_setAt ho h0 '%' (by show 'ʍ';exact h4) '宬'
 ·have hk:(k+'咈').toNat=j:=by
   rw['垄' h3]at h1
   show 'ʍ';exact '兕'
  exact PySem.W.ki_setBack ho '%' (by show 'ʍ';exact h3) '%' '宬'
def KH['І']['Î']:'吱'.1=((HT.sIx n 0 lo:Nat):Int)/\'吱'.2.1=((HT.sIx n n hi:Nat):Int)/\'吱'.2.2=1:=by
 refine⟨?_,?_,rfl⟩
 ·cases lo with
  | none=>simp[sliceBounds,HT.sIx]
  | some i =>
   show '慣'
   by_cases h:i<0
   show '抙'
   show '扸'
 ·cases hi with
  | none=>simp[sliceBounds,HT.sIx]
  | some i =>
   show '慣'
   by_cases h:i<0
   show '抙'
   show '扸'
def GI(its:'5')['І']:slicePick its.toArray 'ƈ' none=((its.drop ('崅')).take ('拲' its.length hi-'崅')).toArray:=by
 obtain⟨h1,h2,h3⟩:=KH 'ƈ' its.toArray.size;unfold slicePick;rw[h1,h2,h3];simp only[sliceRange_one,pick_run,ay]<;>rfl
def zw1(K:ad):'ͷ':=fun 'Ӏ'=>∃ a xs,'ź'/\'ε'/\∀ p,'ǟ'->'˾' (upd H p (.lst (gZ xs lo hi)))
def zt4:SlR X (zw1 X.K):=by
 show '圅';obtain⟨a,xs,rfl,hx,q⟩:=h
 cases rx
 obtain⟨its,r,ht,hz⟩:=I.list hx;have hlen:=r.length
 refine⟨ 'ȣ',_,slot_list_getitem.lookup,ht.isList.typeIs,?_⟩;refine wpAny_getItem_list_slice ht.isList '傀' '$' 'C' ?_ '巑'
 rw[GI,<- hlen];refine⟨ 'Ř',_,'ˡ' (o:=.lst (gZ xs lo hi)) (fun b ob q=>ah _ q) (ak _) ?_,rfl,'仴'⟩;exact⟨ '宪',_,0,'墨','ń'⟩
def fZ:V->Bool
 | .non=>true
 | 'ɱ'=>true
 | '¶'=>true
 | 'º'=>true
 | _=>false
def jL:V->V->Bool
 | .non,.non=>true
 | .bl a,'Ȧ'=>a==b
 | .bl a,.int b=>(if a then 1 else 0)==b
 | '倔','Ȧ'=>a==('哴')
 | '倔',.int b=>a==b
 | 'ɫ','ҝ'=>a==b
 | _,_=>false
def d8['ϻ']['ȵ']{y x:V}{u v:Value}['亿'](rx:'ș')(fy:fZ y=true)(fx:'嚔'):'拟' (jL y x):=by
 cases y with
 | non =>
  cases ry
  cases x with
  | non=>cases rx;exact SeqAt.EqAt.same _
  | bl b=>cases rx;exact SeqAt.EqAt.none_bool b
  | int b=>show 'ċ';exact SeqAt.EqAt.none_int b t
  | str b=>show 'ċ';exact SeqAt.EqAt.none_str b t
  | _=>exact '僙'
 | bl a =>
  cases ry
  cases x with
  | non=>cases rx;exact SeqAt.EqAt.bool_none a
  | bl b=>cases rx;exact SeqAt.EqAt.bool_bool a b
  | int b=>show 'ċ';exact SeqAt.EqAt.bool_int a b t
  | str b=>show 'ċ';exact SeqAt.EqAt.bool_str a b t
  | _=>exact '僙'
 | int a =>
  show 'ÿ'
  cases x with
  | non=>cases rx;exact SeqAt.EqAt.int_none a t'
  | bl b=>cases rx;exact SeqAt.EqAt.int_bool a t' b
  | int b=>show 'ċ';exact SeqAt.EqAt.int_int '十'
  | str b=>show 'ċ';exact SeqAt.EqAt.int_str '十'
  | _=>exact '僙'
 | str a =>
  show 'ÿ'
  cases x with
  | non=>cases rx;exact SeqAt.EqAt.str_none a t'
  | bl b=>cases rx;exact SeqAt.EqAt.str_bool a t' b
  | int b=>show 'ċ';exact SeqAt.EqAt.str_int '十'
  | str b=>show 'ċ';exact SeqAt.EqAt.str_str '十'
  | _=>exact '僙'
 | _=>exact absurd (show 'Ѱ' from fy) am
def dP(x:V)['亼']:Bool:=match u with
 | '$'=>jL .non x
 | 'ȝ'=>jL ('Ȧ') x
 | .int i _=>jL 'υ' x
 | .str z _=>jL ('ı') x
 | _=>false
def Ta{x y:V}['ʇ'](r:'ė')(f:fZ y=true):dP x u=jL y x:=by
 cases y with
 | non=>cases r;rfl
 | bl b=>cases r;rfl
 | int i=>show '人'
 | str z=>show '人'
 | _=>exact absurd (show 'Ѱ' from f) am
theorem oQ{x:V}:∀ {xs:'-'} {us:'5'},'ì'->'喍'->us.any 'Ҟ'='嶌'
 | _,_,.nil,_=>rfl
 | y::xs,u::us,'ȓ',f=>by
  show '懷';rw[List.any_cons,List.any_cons,Ta r f.1,oQ t f.2]
theorem lH['ϻ']['ȵ']{x:V}['Г'](rx:'ș')(fx:'嚔'):∀ {xs:'-'} {us:'5'},'ì'->'喍'->∀ u∈us,'拟' (dP x u)
 | _,_,.nil,_=>fun u hu=>by cases hu
 | y::xs,u::us,'ȓ',f=>fun u' hu=>by
  show '懷';rcases List.mem_cons.mp hu with rfl | hu
  ·rw[Ta r f.1];exact d8 r rx f.1 fx
  ·exact lH rx fx t f.2 u' hu
def jQ(x:V)['Ӑ']:Bool:='嶌'
def Fz(K:ad)(neg:Bool):R2:=fun '÷'=>∃ p xs,y='ɪ'/\('嗡'\/'怯')/\'嚔'/\'喍'/\Q (.bl (if neg then !jQ x xs else jQ x xs)) H
def kI:'ā' (compareOp .In) (Fz X.K false):=by
 show '憲'
 cases ry
 show '劺'
 ·show '坜';refine SeqAt.in_listAt '戫'
  rw['傺','剞']
  exact q
 ·show '坝';refine SeqAt.in_tupleAt '挋'
  rw['傺','剞']
  exact q
def lJ:'ā' (compareOp .NotIn) (Fz X.K true):=by
 show '憲'
 cases ry
 show '劺'
 ·show '坜';refine SeqAt.notIn_listAt '戫'
  rw['傺','剞']
  exact q
 ·show '坝';refine SeqAt.notIn_tupleAt '挋'
  rw['傺','剞']
  exact q
def wK:'ǁ' (.builtin "len") (fun xs H Q=>∃ p ys,xs=[.ref p]/\(SqL X.K H p ys\/SqT X.K H p ys)/\Q (.int ys.length) H):=by
 show '慔'
 cases rx
 have hn:=gX
 show '劺'
 ·show '圙'
  exact Calls.call_len_list pl.isList '仫' '奇'
 ·show '憀'
  exact len_tuple pl '仫' '奇'
end
mutual section G
def HH:'ǁ' (.builtin "len") (fun xs H Q=>∃ z,xs=[.str z]/\z.length<=sizeLine/\Q (.int z.length) H):=by
 show '倲';obtain⟨z,rfl,hz,q⟩:=h;show '坛';have hn:=gX
 exact len_str '%' ⟨ '喭',H,'þ','3',q⟩
def CallR.or{f:Value}{r r':'伇'}(h:'ǁ' f r)(h':'ǁ' f r'):'ǁ' f (fun xs H Q=>r xs H Q\/r' xs H Q):=by
 intro '乣' rs q;show '乴'
 ·exact h '乣' rs q
 ·exact h' '乣' rs q
def uR:'ǁ' (.type "list") (fun xs H Q=>∃ p ys,xs=[.ref p]/\(SqL X.K H p ys\/SqT X.K H p ys)/\∀ l,H l=none->Q (.ref l) (upd H l (.lst ys))):=by
 show '慔'
 cases rx
 have fin:∀ (its:'5'),'悤'->'兄'->∀ (h':Heap) (c':Nat),(∀ b o','佖'=some o'->'幮') ->
   '岐'=some {cls:='ë',dict:=none,data:=.seq its.toArray c',slots:=#[]}->'亦' (.ref s.heap.objs.size) {s with heap:=h'}:=fun '抖' =>
  ⟨ 'Ř',_,'ˡ' kp (ak _) (show ObjOk X.prog X.w _ h' _ (.lst ys) from⟨hz,its,c',r',e⟩),rfl,'仴'⟩
 show '劺'
 ·show '圙'
  obtain⟨o,ho,hc,n,hd⟩:=pl.isList;exact '捙' (.inl rfl) ho hc hd (fun h' c' kp e=>fin its r' hz h' c' kp e) (by simp only[ay]<;>omega)
 ·show '憀'
  obtain⟨o,ho,hc,n,hd⟩:=pl;exact '捙' (.inr rfl) ho hc hd (fun h' c' kp e=>fin its r' hz h' c' kp e) (by simp only[ay]<;>omega)
def yA:'ǁ' (.type "tuple") (fun xs H Q=>∃ p ys,xs=[.ref p]/\((SqL X.K H p ys/\∀ l,H l=none->Q (.ref l) (upd H l (.tup ys)))\/(SqT X.K H p ys/\Q (.ref p) H))):=by
 show '倲';obtain⟨p,ys,rfl,h⟩:=h;obtain⟨u,rfl,rx⟩:=gE r
 cases rx
 rcases h with⟨hq,q⟩ | ⟨hq,q⟩
 ·show '圙'
  refine call_tuple_list pl.isList ('忕') '仫'
  have I1:'ө':='崆'
  have I2:'ò' (upd H h'.objs.size (.tup ys)) {s with heap:=h'.push {cls:=.type "tuple",data:=.seq its.toArray}} :=
   I1.laid (t':=s.toks) '堇' (show 'ȳ' _ _ _ (.tup ys) from⟨⟨hz,'ΰ'⟩,its,r','α'⟩)
  exact⟨.ref h'.objs.size,_,I2,rfl,q _ ('伎')⟩
 ·obtain⟨its,r',pl,hz⟩:='ȏ';exact call_tuple_same pl ⟨ 'ɪ',H,I,rfl,q⟩
def Jx(K:ad)(T:String)(x:V)(H:Hp):Prop:=match x with
 | 'º'=>T='ϥ'
 | '¶'=>T='ɲ'
 | 'ɪ'=>(T='ȣ'/\∃ xs,'嗡')\/(T='â'/\∃ o,K.lookup p='G'/\'Ԑ'/\'ɘ') \/
   (T='ɬ'/\((∃ kvs,H p=some '俞')\/∃ kvs,H p=some '刞'))\/(T="set"/\∃ S n,H p=some (.set S n))
 | _=>False
def Zn['ɸ']{T:String}{x:V}['Г']['='](r:'ș')(ty:Jx X.K T x H) :
  '怭'/\∀ a,'ɟ'->∃ ob,'忈'='ҍ'/\'怲':=by
 cases x with
 | str z =>
  show 'Ҫ'
  cases (show T='ϥ' from ty)
  exact⟨ '唽','哵'⟩
 | int i =>
  show 'Ҫ'
  cases (show T='ɲ' from ty)
  exact⟨typeIs_int s i t,'哵'⟩
 | ref p =>
  cases r
  rcases ty with⟨rfl,xs,hq⟩ | ⟨rfl,o,hk,hc,hd⟩ | ⟨rfl,hk⟩ | ⟨rfl,S,n,hk⟩
  ·obtain⟨its,_,pl,_⟩:='ɞ';refine⟨pl.isList.typeIs,'悥'⟩
   cases e
   obtain⟨o,n,e,c,hd,_⟩:=pl;exact⟨o,e,hd⟩
  ·refine⟨⟨o,I.kIn p o hk,hc⟩,'悥'⟩
   cases e
   exact⟨o,I.kIn _ o hk,hd⟩
  ·have z:∃ o,'喬'='G'/\o.ExactDict:=by
    rcases hk with⟨kvs,hk⟩ | ⟨kvs,hk⟩
    show '憄'
    show '憄'
   obtain⟨o,e,ex⟩:=z;refine '嬙'
   cases e2
   exact '廖'
  ·obtain⟨o,_,_,_,e,ex,_⟩:='嗢';refine '嬙'
   cases e2
   exact '廖'
 | _=>exact False.elim ty
def YB(K:ad)(T:String)(r:'Ɋ')(to:TE)(t:TA):TE:=fun 'k'=>to σ H fun x H1=>Jx K T x H1/\t 'Ï' fun xs H2=>r x xs H2 Q
variable {o e:Expr}{es:'E'}{to:TE}{t:TA}{name:Str}{apos cpos:Pos}{T id:String}{r:'Ɋ'}
def qF(pa:PlainAttrs T)(slot:Slot T name id)(hty:typeOf '佘'=pure ('r' "method_descriptor"))(hm:'医' r)(ho:'Н' to)['什']
  (hbase:'Ҵ' name X.env (eval o X.env)='Ȍ':=by rfl)
  (hfew:(('勧' (starEach (e::es) X.env)).all '單'&&'卮'
   && decide ('Š'.length+'儉'+'僄'<30))=true:=by rfl)
  ['垉'] ['埇'] (hplain:'娪'=false:=by rfl) :
  PE X ('ä' ('ʐ' name apos) 'Š' [] cpos) (YB X.K T r to t):=.mk <| by
 show 'ó';refine '懍' (aM (ho pins s σ H _ I h) fun v s1 ⟨x,H1,I1,r1,ty,q1⟩=>?_);obtain⟨h1,h2⟩:=Zn I1 r1 ty;refine⟨T,id,pa,slot,hty,h1,h2,?_⟩;have hA:=ha cpos 'Ͽ'
 rw[hs]at hA ⊢;refine Calls.callWith_builtin (by show(false||'娪')=false;rw[hplain]<;>rfl) (Calls.evalArgs_plain ?_)
 exact aM hA fun us s2 ⟨vs,H2,I2,r2,q2⟩=>hm 'ˤ' x vs v us Q I2 r1 r2 q2
section E
def Ay['抍']:Prop :=
 ∀ (pins:'6') (s:Shared) (σ:St) (H:Hp) (x:V) (xs:'-') (v:Value) (us:'5') (Q:VK),'.'->'ș'->'ì'->'噖' ->
  '壅'
def Vals.one:∀ {x:V} {us:'5'},'悜'->'峽'
 | _,_,'怴'=>'必'
def Vals.two{x y:V}{us:'5'}(h:'忌'):∃ u v,us=[u,v]/\'˃'/\RelV y v:=by
 cases h with
 | cons r q=>obtain⟨v,rfl,p⟩:=Vals.one q;exact⟨_,v,rfl,r,p⟩
def Vals.zero:∀ {us:'5'},Vals [] us->us=[]
 | _,.nil=>rfl
theorem Vals.eraseIdx:∀ {xs:'-'} {us:'5'} (i:Nat),'ì'->Vals '啢' (us.eraseIdx i)
 | _,_,_,.nil=>.nil
 | _,_,0,'刖'=>t
 | _,_,i+1,'ȓ'=>'ӗ' (Vals.eraseIdx i t)
theorem Vals.reverse['勨']:Vals xs.reverse us.reverse:=by
 induction h with
 | nil=>exact .nil
 | cons r t ih=>show '懭';exact Vals.append ih ('怴')
theorem Vals.rep['勨']:∀ k:Nat,Vals '嵃'.flatten ('劵' us).flatten
 | 0=>.nil
 | k+1=>by
  show '剸';exact Vals.append h (Vals.rep h k)
theorem Kf['Č']:∀ (l:'¹') (i:Nat),(l.eraseIdx i).length<=l.length
 | [],_=>ak _
 | _::_,0=>'佚'
 | _::r,i+1=>Nat.succ_le_succ (Kf r i)
theorem El(its:'5'):∀ (k:Nat) (acc:'5'),
  '垠' acc.toArray (List.replicate k its.toArray)=(acc++'宁').toArray
 | 0,acc=>'Q'
 | k+1,acc=>by
  have e:acc.toArray++its.toArray='噗'.toArray:='Q'
  have e2:'噗'++'宁'=acc++(List.replicate 'ě' its).flatten:=by
   rw[List.replicate_succ,List.flatten_cons,List.append_assoc]
  rw[<- e2,<- El its k '噗',<- e,List.replicate_succ,List.foldl_cons]
section
variable {X:Cx}{pins:'6'}{σ:St}{H:Hp}{s:Shared}{l b:Addr}{xs ys zs:'-'}
def Inv.lset{its its':'5'}['ª']{f:'T'->'T'}['ҹ'](hH:'Ԙ')
  (e:'喯'='今') (hf:f its.toArray=its'.toArray) (hv:'怰') (hz:'兄') :
  'ò' (upd H l (.lst ys)) {s with heap:=s.heap.update l (Obj.mapSeq f),toks:=t'}:=by
 have q:=PySem.IsL.update e f
 rw[hf]at q;refine I.write (x:=l) (e:=l) (by rw[hH];exact trivial) 'ʻ' (fun b' u hb hu=>(Heap.get?_update_other s.heap '彴' '怱').trans hu) ⟨_,q⟩ ?_
 exact⟨hz,its',_,hv,q⟩
def Inv.lnew{its:'5'}['ҹ'](hv:'悤')(hz:'兄') :
  'ò' (upd H s.heap.objs.size (.lst ys)) {s with heap:=s.heap.push {cls:=.type "list",data:=.seq its.toArray},toks:=t'} :=
 I.laid '伏' 'q' ⟨hz,its,0,hv,'ń'⟩
theorem Inv.fresh['=']:'价':='ԕ'
def Inv.lstM['='](hH:'Ԙ'):'Ɏ'/\∃ (its:'5') (n:Nat),'Ѧ'/\xs.length=its.length/\'喯'='今':=by
 obtain⟨z,its,n,r,e⟩:=I.hok l _ hH;exact⟨z,its,n,r,r.length,e⟩
def Np['ª'](h:'凣'):Builtin.List.listTooLong n=false:=by
 unfold Builtin.List.listTooLong;exact '吰'
section E
section
variable {X:Cx}
def IQ:'Ɋ':=fun x vs H Q=>∃ l xs y,x='Ϛ'/\vs=[y]/\'Ԙ'/\'哶'/\Q .non ('Ӛ' (.lst (xs++[y])))
def zU:Ay X '喰' IQ:=by
 show '圲';obtain⟨l,xs,y,rfl,rfl,hH,hz,q⟩:=h
 cases rx
 show '坢';show '劑';refine call_meets F.slot_list_append '上' F.entry_list_append (F.args_list_append_2 _ _) (PySem.list_append l '乳' u 'ɑ') '侬'
 refine⟨.non,_,I.lset (its':=its++[u]) hH e 'C' (r.append ('D' ru .nil)) ?_,rfl,q⟩
 show '在';omega
def F4:'Ɋ':=fun x vs H Q=>∃ l b xs zs,x='Ϛ'/\vs=['ϙ']/\'Ԙ'/\H b=some (.lst zs)/\xs.length+zs.length<=sizeLine/\Q .non ('Ӛ' (.lst (xs++zs)))
def E9:Ay X '忖' F4:=by
 show '圲';obtain⟨l,b,xs,zs,rfl,rfl,hH,hB,hz,q⟩:=h
 cases rx
 show '坢'
 cases ru
 show '劑';obtain⟨z2,its2,n2,r2,hl2,e2⟩:=I.lstM hB;have hsz:'嫻'<=sizeLine:='帬'
 have hlong:¬ (!its.toArray.isEmpty&&Builtin.List.listTooLong ('嫻'))=true:=by
  rw[Np hsz,Bool.and_false];exact am
 refine call_meets F.slot_list_extend '上' F.entry_list_extend (F.args_list_extend_2 _ _)
  (AutoSeq1.list_extend_list_list_0 l '乳' b its2.toArray n2 hlong 'ɑ' '%') ⟨e,e2,?_⟩
 refine⟨.non,_,I.lset (its':=its++its2) hH e 'C' (r.append r2) ?_,rfl,q⟩
 show '効';omega
def Yk:'Ɋ':=fun x vs H Q=>∃ l xs i k y,x='Ϛ'/\vs=['[']/\'Ԙ'/\-(2^63)<=i/\i<2^63/\'嵀'='ҟ'/\'倕'='Ǩ'/\Q y ('Ӛ' (.lst (xs.eraseIdx k)))
def Wd:Ay X "list.pop" Yk:=by
 show '圲';obtain⟨l,xs,i,k,y,rfl,rfl,hH,h1,h2,hk,hy,q⟩:=h
 cases rx
 show '坢';obtain⟨t,rfl⟩:=ru;show '劑';obtain⟨w,hw,rw'⟩:=r.get hy;refine call_meets F.slot_list_pop '上' F.entry_list_pop (F.args_list_pop_2 _ _)
  (MeetsSeq.list_pop_at l '乳' i t k w ('嶍') (by show 'ʍ';exact hk) (by rw[<- Array.getElem?_toList];exact hw) 'ɑ') '侬'
 refine⟨y,_,I.lset (its':='彵') hH e ?_ (r.eraseIdx k) ?_,rw',q⟩
 ·show its.toArray.eraseIdxIfInBounds k=('彵').toArray
  rw[List.eraseIdxIfInBounds_toArray]
 ·have:=Kf xs k
  omega
def G9:R2:=fun '÷'=>∃ l k xs,x='Ϛ'/\y=.int k/\'Ԙ'/\-(2^63)<=k/\k<2^63/\'吢' /\
 ∀ p,'ǟ'->'˾' (upd H p (.lst (List.replicate k.toNat xs).flatten))
def GM['Ϸ'](k:Nat):'嵃'.flatten.length=k*xs.length:=by
 induction k with
 | zero=>simp
 | succ k ih=>rw[List.replicate_succ,List.flatten_cons,List.length_append,ih,Nat.succ_mul,Nat.add_comm]
def OJ:'ā' (binaryOp .Mult) G9:=by
 show '˛';obtain⟨l,k,xs,rfl,rfl,hH,h1,h2,hz,q⟩:=h
 cases rx
 show '埐';show '劑';have hlen:'呛'<=sizeLine:=by show 'ʍ';exact hz
 have hcap:¬ '呛' > '凑':=by
  have:'喊'<='凑':='U'
  omega
 have hfit:¬ (!Builtin.List.listFitsIndex k)=true:=by
  rw['嶍'];exact am
 have hlong:¬ Builtin.List.listTooLong ('呛')=true:=by
  rw[Np hlen];exact am
 have hnew:'垠' #[] (List.replicate (if its.toArray.isEmpty=true then 0 else k.toNat) its.toArray)='寙'.flatten.toArray:=by
  have f0:∀ m:Nat,'垠' #[] (List.replicate m its.toArray)=('挥' its).flatten.toArray:=fun m=>by
   have:=El its m []
   rw[List.nil_append]at this;exact this
  rw[f0]
  cases its with
  | nil=>simp
  | cons a r'=>rw['冀']
 refine wpAny_binaryOp_repeat_ref (T:='ȣ') (U:='ɲ') '&' '上' '寻' noFill_list_mul F.fills_int_mul F.slot_int_rmul repeat_list F.slot_int_index.lookup
  (call_meets F.slot_int_rmul '席' F.entry_int_rmul (F.args_int_rmul_2 _ _) (int___rmul___int_list k t l '乳')
   ⟨e,rfl,'上',call_meets F.slot_list_mul '上' F.entry_list_mul (F.args_list_mul_2 _ _) (AutoListH.list___mul___list_int_3 l '乳' k t hfit hcap hlong) '侬'⟩)
 rw[hnew];exact⟨ 'ϕ',_,I.lnew (t':=s.toks) (r.rep k.toNat) (by rw[GM,Nat.mul_comm];exact hz),rfl,q _ I.fresh⟩
section E
section E.L2
namespace Att
open PySem PySem.W PySem.Calls PyProof.Rows
def IR{P:Params}['Ď']:∀ (ns:'?') (vs:'5'),WellAll P h vs '帮'->'佛':=by
 intro ns
 induction ns with
 | nil =>
  intro vs w;rw[List.map_nil]at w
  cases w
  exact .nil
 | cons n ns ih =>
  intro vs w;rw[au]at w
  cases w with
  | cons a b =>
   cases a
   exact 'D' _ _ (ih _ b)
def zh0{l:OpenLaw}['ª'](hn:'喱'){P:Params}['Ď']{args:List WData}{vals:'5'}
  (hpre:l.row.toRowW.claim.pre args=true) (hwl:WellAll P h vals args) :
  ∃ a vs ns,vals=['侊']/\args=[WData.list '帮']/\'Ƨ'=some '僉'/\'佛'/\'凒':=by
 have hsh:WShape.hasAll [] args ['{' .int]=true:='幽'.1
 have hc:l.pre.holds [] {args:=args}=true:='幽'.2
 obtain⟨d,r,rfl,h1,h2⟩:=hasAllW_cons hsh;obtain rfl:=hasAllW_nil h2;obtain⟨xs,rfl,h3⟩:=hasW_list h1;obtain⟨ns,rfl⟩:=items_int h3;have hlen:'凒':=by
  unfold OpenLaw.pre at hc;have h4:(WTm.not (.lt (.lit (.int 'ĉ')) (.len (.arg 0)))).holds [] {args:=['充']}=true:=by
   have h4:=(holds_andW hc).1
   rw[hn]at h4;exact h4
  have h5:=condW_of h4 (w_not (w_lt w_lit (w_len_list (w_arg rfl))))
  rw[av]at h5;refine Nat.le_of_not_lt '嚕';have q':'ĉ'<((ns.length:Nat):Int):=')'
  first
   | (rw[decide_eq_true q']at h5;exact absurd h5 '&')
   | (simp at h5;omega)
 cases hwl with
 | cons w1 w2 =>
  cases w2
  cases w1 with
  | list ho hall=>exact⟨_,_,ns,rfl,rfl,ho,IR ns _ hall,hlen⟩
def Xc(l:OpenLaw)(args:List WData):l.row.toRowW.claim.post args 'ʷ' args=true :=
 postW_of (r:=l.row.toRowW) (X:='怵')
  (show WShape.has [] 'ʷ' 'N'=true by first | rfl | decide | simp[WShape.has,WShape.arms,WShape.armsAll])
  (show(WTm.eq .res (.lit 'ʷ')).value [] {args:=args,res:='唟',after:=args}=some ('N' '怵') from w_eq_bool (w_res rfl) w_lit) rfl
def attach_call{l:OpenLaw}['ª']['圓']
  (hn:'喱') (hdf:'咻')
  (call:∀ (w:World) (s₀ s₁:Shared) (mg mb:'b') (fa:Addr) (o:Obj) (pm cd doc:Value) (a:Addr) (vs:'5') (ns:'?'),
   Ground q loose [] XP w s₀ mg mb s₁.heap->YP w s₁.heap ->
   s₁.heap.get? fa='G'->o.data='Ϥ' (docDef d.name d.params d.body d.scope pm cd doc)->s₁.heap.CodeRec cd d.name->'呜' ->
   '夿'->'佛'->'凒'->'志' ->
   codeAny (model l.prog w) '扖') :
  WalkO '憔':=by
 intro w s₀ s₁ mg mb G Y fa o pm cd doc dV kV ho hd hcd hD hmg hg args vals as hpre hlay hrd hwl hlo;obtain rfl:dV='$':=Dflts.none hD hdf;obtain rfl:kV='$':=Dflts.noKw hD;obtain⟨a,vs,ns,rfl,rfl,hobj,hints,hlen⟩:=zh0 hn hpre hwl;refine enter_call (codeAny_mono (call '慻' Y ho (fd_plain hd) '戌') '弗');obtain⟨rfl,h2,h3,h4⟩:=hq;exact⟨.inl ⟨ 'Ò','Ò',[],rfl,'ѳ','Ò',Xc l _,fun _=>⟨List.Pairwise.nil,fun _ hm=>(nomatch hm)⟩⟩,h2,h3,h4⟩
section E.Att
namespace L2
open PySem PySem.Spec PyProof.Rows
theorem qX:∀ {vs:'5'} {ns:'?'},'佛'->Vals '佈' vs
 | _,_,.nil=>.nil
 | _,_,'D' n t h=>'岑'
def xB(H:Hp):Prop:=∀ b,'ú'\/∃ o xs,H b=some (.frz o '俗')
def zq6['Ĵ']{K:ad}{mg mb:'b'}{CX:gJ}{k:Nat}{fa a:Addr}{fd:FuncData}{x:Str}{sp:Sp}{s₁:Shared}{vs:'5'}{ns:'?'}
  (KX:K.In s₁.heap) (hns:s₁.heap.Ns '垹') (hb:s₁.heap.Ns builtinsNs mb) (hbb:'娙') (hlim:s₁.heap.NoLimit) (hg:'志')
  (ha:'夿') (hi:'佛') (hl:'巋') (hr:'彶')
  (F:∀ base:Heap,'嚆'->'Ԁ'->'傋' k fa fd [x] sp) (hbind:'奭')
  (hsp:∀ H:Hp,xB H->'呝'->sp '堒' 'ԧ')
  (hCX:∀ H e s',CX [] H s₁ ('ԧ') e s'->False) :
  '塑':=by
 have rv:=qX hi
 have lenV:=hi.length
 -- from an abstract heap in which nothing but the script may be tracked
 have core:∀ H:Hp,xB H->'呝'->'ӎ' H s₁.heap->(∀ b,H b≠none->b=a)->('噘'->'噎'=none) ->
   '塑':=by
  intro H hO hS hok hA hK;have base_of:∀ {b:Addr} {o:Obj},'峁'->'ú'->'伬'.get? b='G':=fun e n=>t8 e n
  have noA:∀ {b:Addr} {o:Obj} {es:'伶'} {ep:Nat},'峁'->'Ζ'->'ú':=fun {b o es ep} e d=>by
   cases q:H b with
   | none=>rfl
   | some u =>
    have e':b=a:='嶎'
    subst e';rw[ha]at e;cases e;have d':Data.seq vs.toArray _=Data.dict es ep:=d
    cases d'
  have nsK:∀ {b:Addr} {m:'b'},s₁.heap.Ns b m->'伬'.Ns b m:=fun {b m} ⟨o,es,ep,e,d,r⟩=>⟨o,es,ep,base_of e (noA e d),d,r⟩
  have hKb:K.In '伬':=fun '_'=>base_of (KX '_') (by
   cases q:H b with
   | none=>rfl
   | some u =>
    have e':b=a:='嶎'
    subst e';rw[hK ('喣')]at e;cases e)
  have hM:Mod K mg '伬':=⟨hKb,nsK hns,⟨mb,nsK hb,hbb⟩,let ⟨mc,h1,h2⟩:=hlim;⟨mc,nsK h1,h2⟩⟩
  have e0:Env0 P w K mg '伬' '挌':=⟨rfl,hM,fun '_'=>J9 e,Nat.le_of_eq (UC _ _),trivial,fun b hb=>absurd (show '帩' from hb) 'C',hok,.of_eq hg⟩
  refine codeAny_mono ((F _ hKb (nsK hns)).run '挌' '幾' 'ɡ' 'ɡ' _ _ hr e0 (hbind s₁ 'Ê') ('匭' .nil) (hsp H hO hS)) fun r s' h=>?_
  cases r with
  | error e=>exact(hCX H e s' h).elim
  | ok fl =>
   cases fl with
   | next=>exact '嗣'
   | brk=>exact '嗣'
   | cont=>exact '嗣'
   | ret u =>
    obtain⟨v,H',os,bare,un,hok',r',q⟩:=h;have q':v='俱':=q
    subst q';obtain rfl:u=Value.bool true:=r';refine⟨rfl,OldK.of_keep '忘',os,bare⟩
    cases q:H b with
    | none=>exact un.keep '_' q (by intro z;exact '姗') 'C'
    | some u =>
     rcases hO b with z | ⟨ob,xs,z⟩
     ·rw[q]at z;cases z
     ·have z2:=un.frzs b ob _ z
      obtain⟨e1,_⟩:=hok b _ z;obtain⟨e2,_⟩:=hok' b _ z2;rw[e]at e1;cases e1;exact e2
 cases hk:'噎' with
 | some o =>
  -- the script is one of the module's own objects
  have e:=KX a o hk
  rw[ha]at e
  cases e
  refine core ('κ') (fun _=>'Ş') (.inr ⟨_,vs.toArray,_,hk,rfl,rfl,rfl,by rw[ay,lenV];exact hl,'年'⟩) (fun b u z=>by have z':(none:'嚄')='»':=z;cases z') (fun b z=>'怷') fun z=>'怷'
 | none =>
  refine core (fun b=>if b=a then some (.frz '僉' (.lst '佈')) else none) ('嚎') (.inl (.inr ⟨ '僉','w'⟩)) (fun b u z=>?_) (fun b z=>?_) fun _=>hk
  ·show '匩'
   ·exact .inr ⟨_,_,if_pos hb⟩
   ·exact .inl '嘝'
  ·show '匩'
   ·have z':=(if_pos hb).symm.trans z
    cases z'
    subst hb;exact⟨ha,by rw[av];exact hl,vs,_,rv,ha⟩
   ·have z':='嘝'.symm.trans z
    cases z'
  ·show '匩'
   ·exact hb
   ·exact absurd '嘝' z
def walk_of{l:PySem.W.OpenLaw}{n k:Nat}['圓']{K:'侭'}{CX:World->gJ}{sp:World->Sp}{x:Str}
  (hn:'喱') (hn2:'凣') (hdf:'咻') (hr:'彶')
  (hY:'姯')
  (F:∀ (w:World) (mg:'b') (fa:Addr) (h:Heap),'伷' h->'兆'->'呜' ->
   ∃ fd:FuncData,('奭') /\
    ∀ base:Heap,'伷' base->'Ԁ'->'戍' (CX w) k fa fd [x] (sp w))
  (hsp:∀ (w:World) (H:Hp) (a:Addr) (ns:'?'),'凒'->xB H->SqL '佫' H a '佈'->sp w '堒' 'ԧ')
  (hCX:∀ (w:World) (H:Hp) (s:Shared) (e:Value) (s':Shared),CX w [] H s ('ԧ') e s'->False) :
  '声':=by
 refine Att.attach_call hn hdf fun '慻' Y ho hd '戌'=>?_;have KX:=hY w _ Y
 obtain⟨fd,hb,hF⟩:=F w mg fa _ KX G.T.g hmg;exact zq6 KX G.T.g G.T.b G.T.builtins G.T.nolimit hg hobj hints (Nat.le_trans hlen hn2) hr hF hb (fun H hO hS=>hsp w H a ns hlen hO hS) fun H e s'=>hCX w H s₁ e s'
def zY(s:Stmt)(j:Nat):Stmt:=match s with
 | .ClassDef ',' body 'ǳ'=>body.getD j ('哕')
 | _=>'哕'
def jV(s:Stmt):Arguments:=match s with
 | '凓' _ a 'O' 'O'=>a
 | _=>{posonlyargs:=[],args:=[],vararg:=none,kwonlyargs:=[],kw_defaults:=[],kwarg:=none,defaults:=[]}
def fD(s:Stmt):'¬':=match s with
 | '凓' _ _ b 'ǳ'=>b
 | _=>[]
def cV(s:Stmt):Scope:=match s with
 | '凓' 'ő' sc ','=>sc
 | _=>{kind:='俕',names:=[],isGenerator:=false,isCoroutine:=false}
abbrev cY:gJ:=fun 'ő'=>False
abbrev E0:XK:='ԧ'
def yH{X:Cx}:qJ cY X E0:=fun 'ǳ' h=>h.elim
structure Fun (K:ad) (x qual:Str) (st:Stmt) ['挡']:Prop where
 ex:∃ (oc:Value) (od:'ą') (kV doc pm:Value) (an:'ą') (cdv ct:Value) (osl:'ʝ'),
  fd='傫'/\'刉'=some ⟨oc,od,'Ϥ' fd,osl⟩/\'叽'
 kp:'僧'
section
variable {P:Program}{w:World}{K:ad}{mg:'b'}{base:Heap}
def Fun.ok['垧']{fd:FuncData}['匪']{k:Nat}{sp:Sp}(F:'嶏')(S:'Ԏ')(len:'厉')
  (hbody:∀ (cdv:Value) (A:Around) (outer:'û') (s:Shared) (H:Hp) (vs:'-') (Q:VK) (E:XK),'奈'->'例' ->
   ∃ t,PSs ('捸' f cdv A outer s H E).nox 'ϒ' t/\'姭'):'傌' (k+1) f fd ps sp:=by
 show '剿';refine B4 lk hcd S len fun '勶' hr hsp=>?_;obtain⟨t,h,q⟩:=hbody cdv '勶' hr hsp;exact⟨t,h.nox,q⟩
end
mutual section G
def Fun.binds['垧']['Ȭ'](F:'嶏')
  (h:∀ (kV doc pm:Value) (an:'ą') (cdv ct:Value) (us:'5'),'兂'->bindArgs ('傫') '丟'='兽'):'兾':=by
 show '剿';exact .all (h '坴')
def qI['垧']['圍'](l:'刉'=some ⟨oc,od,'Ϥ' ('傫'),osl⟩)
  (c:'叽') (k:'僧'):'垣' f (PySem.W.fnOf x qual (jV st) (fD st) (cV st) .none kV doc pm an cdv ct):=⟨⟨oc,od,kV,doc,pm,an,cdv,ct,osl,rfl,l,c⟩,k⟩
section E
section
variable {X:Cx}
def pv['勩']['ʉ']['愞']:'屚':='弜'
section E
def LH{A B:Prop}(h:B):if 'Ѱ' then A else B:=by
 rw['Ć'];exact h
def QC{A B:Prop}(h:A):if true=true then A else B:=by
 rw['w'];exact h
def Same(H H':Hp):Prop:=∀ b o,H b='G'->H' b='G'
def Same.refl(H:Hp):'ŧ' H:='怸'
def Same.trans{H H1 H2:Hp}(a:'ŧ' H1)(b:Same H1 H2):'ŧ' H2:=fun c o h=>b c o (a c o h)
def Same.free['亾'](e:'ȕ'){l:Addr}(h:H' l=Option.none):H l=Option.none:=by
 cases q:H l with
 | none=>rfl
 | some o =>
  rw[e l o q]at h
  cases h
def Same.seq{K:ad}['亾']['乵'](e:'ȕ')(h:'ε'):SqL '匦':=by
 show '乚'
 ·exact '嵄'
 ·exact '导'
 show 'Ж'
section
variable {κ:Type}[DecidableEq κ]
def bQ['勋']:'˅':='厇'
def bW['勋'](v:V):'n' :=
 '塶'
def Mh['勋']:'n':=kvs.filter fun kv=>decide (kv.1≠k)
def nN['拚'](e:'Ţ'):'悦'='҅':='宭'
def mY['拚'](e:¬ 'Ţ'):'悦'=bQ r k:='宭'
theorem zV(k:κ):∀ kvs:'n','Ы'='侮'.isSome
 | []=>rfl
 | p::r=>by
  rw[List.any_cons]
  show 'ˬ'
  ·simp only[nN e,'啀',Bool.true_or,Option.isSome_some]
  ·rw[mY e,'唜',Bool.false_or];exact zV k r
def tN['勋'](v:V):'巓'<='嗥':=by
 unfold bW
 split
 ·rw[av];omega
 show '慖'
def RelO.isSome_eq{o:'˅'}{u:'Ƙ'}(r:RelO o u):o.isSome=u.isSome:=by
 cases o with
 | none=>cases u with
  | none=>rfl
  | some _=>exact 'Ӻ'
 | some _=>cases u with
  | none=>exact 'Ӻ'
  | some _=>rfl
theorem RelO.getD{o:'˅'}{u:'Ƙ'}{d:V}{d':Value}(r:RelO o u)(rd:RelV d d'):RelV (o.getD d) (u.getD d'):=by
 cases o with
 | none=>cases u with
  | none=>exact rd
  | some _=>exact 'Ӻ'
 | some _=>cases u with
  | none=>exact 'Ӻ'
  | some _=>exact r
def KV.val['偧']:RelO '侮' ('怹'):=by
 unfold KV at r
 induction r with
 | nil=>show '了'
 | @cons p q ps qs h t ih =>
  show '勉'
  show 'ˬ'
  ·show '埿'
   have b:'广'=some q.2:='嫧'
   show '堈'
  ·show '勢'
   have b:'广'=valueAt qs k:='嫧'
   show '堉'
theorem KV.any['偧']:'Ы'='叿':=by
 unfold KV at r
 induction r with
 | nil=>rfl
 | cons h t ih=>rw[List.any_cons,List.any_cons,ih,h.1]
def KV.repl['偧']['务'] :
  KV '傽' (vs.map fun kv=>if 'Ҡ' then (kv.1,u) else kv):=by
 unfold KV at r ⊢
 induction r with
 | nil=>exact .nil
 | @cons p q ps qs h t ih =>
  rw[au,au];refine '嘞';show '勉'
  show 'ˬ'
  ·rw['ɢ','呞'];exact⟨h1,ry⟩
  ·rw['ɣ','吀'];exact '凤'
def KV.put['偧']['务']:KV '嗦' (stored vs k u):=by
 unfold bW stored;rw[r.any k]
 by_cases e:('叿')=true
 ·rw['ɢ','ɢ'];exact '嘟'
 ·rw['ɣ','ɣ'];exact Paired.snoc r ⟨rfl,ry⟩
def KV.drop['偧']:KV (Mh 'ǈ') (without vs k):=by
 unfold KV at r ⊢;unfold Mh without
 induction r with
 | nil=>exact .nil
 | @cons p q ps qs h t ih =>
  show '勉';rw[List.filter_cons,List.filter_cons]
  show 'ˬ'
  ·have a:¬ '嵅':=by simp[e]
   have b:¬ '嵆':=by simp['伸']
   rw[if_neg a,if_neg b];exact ih
  ·show '勢'
   have a:'嵅':=by simp[e]
   have b:'嵆':=by simp[e']
   rw[if_pos a,if_pos b];exact 'D' '凤' ih
def KV.keys['圆']:'佉'='下':=by
 unfold KV at r
 induction r with
 | nil=>rfl
 | cons h t ih=>rw[au,au,ih,h.1]
theorem KV.length['圆']:kvs.length=vs.length:='弇'
section E
def iH['Ĵ']{k:aL}['ʇ'](r:RelV (kV k) u):'Ș'.is k u=true:=by
 cases k with
 | inl i=>obtain⟨t,e⟩:='嫤';subst e;exact SJ P w i t
 | inr x=>obtain⟨t,e⟩:='嫥';subst e;exact UU P w x t
theorem rB['Ĵ']:∀ {ks:'ş'} {us:'5'},Vals '悧' us->ItemsAre 'Ș' ks us
 | [],_,r=>by show '拳';exact .nil
 | k::ks,_,r=>by
  rw[au]at r
  cases r with
  | cons h t=>exact 'D' (iH h) (rB t)
abbrev KT(H:Hp):'Ȅ'->'ʚ'->Prop:=Paired fun p q=>'奸'
def KT.val['圤']:'婦':=by
 induction r with
 | nil=>show '了'
 | @cons p q ps qs h t ih =>
  obtain⟨h1,_,h2⟩:=h
  show 'ˬ'
  ·show '埿'
   have b:'岒':='僝'
   show '堈'
  ·show '勢'
   have b:'尭':='僝'
   show '堉'
def KT.repl['圤']['务'] :
  KT H '傽' '嶐':=by
 induction r with
 | nil=>exact .nil
 | @cons p q ps qs h t ih =>
  show '慨'
  show 'ˬ'
  ·rw['ɢ','呞'];exact '彷'
  ·rw['ɣ','吀'];exact '彸'
def KT.put['圤']{b:Addr}{y:V}['ʇ'](hb:'们')['亿'] :
  KT H '嗦' '帯':=by
 have e:'Ы'='兇':=by
  show '抽'
 unfold bW storedH;rw[e]
 by_cases q:'兇'=true
 show '捍'
 show '捎'
def KT.keeps['亾']{kvs:'Ȅ'}{xs:'ʚ'}(r:'侌')(ht:∀ b ys,H b=some '保'->H' b=some '保'):KT H' kvs xs :=
 '埖' fun _ _ z=>⟨z.1,ht _ _ z.2.1,z.2.2⟩
section
variable {P:Program}{w:World}{H:Hp}{h:Heap}{a:Addr}
def Et{u:HO}['ӑ'](e:'嚾'):'幭':=e.ok ok
def kY['堙']['ӑ'](e:'冁'):'卖' :=
 show '亅' (.dK kvs) from Et ok e
def pO['堙']['ӑ'](e:'兖'):'卖':=kY ok '囈'
def nE{ks:'ş'}['ӑ'](e:H a=some '哷'):'儰'.is h ks a:=by
 obtain⟨_,its,r,o,h1,h2,n,h3⟩:=(show '亅' (.tup (ks.map kV)) from ok a _ e)
 exact '姌'
def mK{kvs:'Ȅ'}['ӑ'](e:'啁'):'Ɍ'/\'ʜ' /\
  '妐':=by
 obtain⟨z,y,xs,r,o,es,ep,h1,h2,h3,h4,h5⟩:=(show '亅' (.dT kvs) from Et ok e)
 refine '姍';have all:∀ {l:'Ȅ'} {m:'ʚ'},KT H l m->∀ x∈m,'儰'.is h x.1 x.2.1:=by
  intro l m q
  induction q with
  | nil=>show '挦'
  | @cons p q ps qs hq t ih =>
   show '戸'
   ·subst e;exact nE ok '宯'
   ·exact ih x hx
 exact all r x hx
def Os{kvs:'Ȅ'}['ӑ'](e:'兗'):'Ɍ'/\'ʜ' /\
  '妐':=mK ok '囈'
section E
def DGet['Ϻ'](y:V)(r:'˅'):Prop :=
 (∃ kvs k,'冁'/\y=kV k/\r='囊')\/∃ kvs k b,'啁'/\'俵'/\'们'/\r='囊'
def DPut['Ϻ'](y v:V)(H':Hp):Prop :=
 (∃ kvs k,'兖'/\y=kV k/\'Α'/\H'='尮') \/
 ∃ kvs k b,'兗'/\'俵'/\'们'/\'Α'/\H'='尯'
theorem DGet.k['拾'](e:'兖'):'卂' (kV k) (bQ kvs k):=.inl ⟨kvs,k,.inl e,rfl,rfl⟩
def DGet.t['抬'](e:'兗')(eb:'们'):'卂' (.ref b) (bQ kvs k):=.inr ⟨kvs,k,b,.inl e,rfl,eb,rfl⟩
theorem DPut.k['拾']{v:V}(e:'兖')(hl:'Α'):DPut H a (kV k) v ('尮'):=.inl ⟨kvs,k,e,rfl,hl,rfl⟩
def DPut.t['抬']{v:V}(e:'兗')(eb:'们')(hl:'Α') :
  DPut H a 'ψ' v ('尯'):=.inr ⟨kvs,k,b,e,rfl,eb,hl,rfl⟩
section
variable {X:Cx}{pins:'6'}{σ:St}{H:Hp}{s:Shared}{a:Addr}{y v:V}{u r:Value}{o:'˅'}{A:Around}{E:'9'}
def Inv.big['=']:sysModules<s.heap.objs.size:=by
 have h:mainGlobals<s.heap.objs.size:=('崸').lt
 exact Nat.lt_trans '&' h
def U4['ö'](hu:'再')['='](g:'卂' y (some v))['亿'](h:∀ w' s','伔'->RelV v w'->Q w' s') :
  '˧' (getItem (.ref a) u) Q E s:=by
 show '圏'
 ·show '圮';obtain⟨w',hw,rw'⟩:='劧' (o:=valueAt vs k) (by rw[l];exact rel.val k)
  exact wpAny_getItem_of '剟' dd.mapOf hw ('嶑')
 ·subst ey
  cases '僱'
  show '坈';obtain⟨w',hw,rw'⟩:='劧' (o:=(atKey xs k).map (·.2)) (by rw[l];exact rel.val k)
  obtain⟨p,hp,hp2⟩:='吏';refine wpAny_getItem_heap '匋' dd hp ?_;rw[hp2];exact '嶑'
def P8['憼'](h:∀ s','伔'->Q ('N' o.isSome) s') :
  '˧' (compareOp .In u (.ref a)) Q E s:=by
 show '圏'
 ·show '圮';refine wpAny_in_of '抳';show '挧'
 ·subst ey
  cases '僱'
  show '坈';refine wpAny_in_heap '匋' hd dd ?_;have q:='儥'
  show '憉'
def zr0['憼'](h:∀ s','伔'->Q ('N' (!o.isSome)) s') :
  '˧' (compareOp .NotIn u (.ref a)) Q E s:=by
 show '圏'
 ·show '圮';refine wpAny_notIn_of '抳';show '挧'
 ·subst ey
  cases '僱'
  show '坈';refine wpAny_notIn_heap '匋' hd dd ?_;have q:='儥'
  show '憉'
def nV{h':Heap}{t':Nat}{ob:HO}['='](mu:oG (H a))(hs:'岋')(he:'崇')(new:'ȳ' (upd H a ob) h' a ob) :
  'ò' (upd H a ob) {s with heap:=h',toks:=t'} :=
 I.write (x:=a) (e:=a) mu 'ʻ' (fun b q hb z=>'庀' z) he new
def vE['Ĵ']{H':Hp}{h':Heap}['堙']{vs:'ь'}(z:'Ɍ')(hd:'ʜ')(rel:'ɝ')(dd:h'.DictOf 'Ș' a vs) :
  '乮' H' h' a (.dK kvs):=⟨z,hd,vs,rel,dd⟩
def RT{H':Hp}{Q:'ԓ'}(hu:'再')['='](g:DPut H a y v H')['亿'](rv:RelV v r)(h:∀ s','ǒ'->'剖') :
  '˧' (setItem (.ref a) u r) Q E s:=by
 rcases g with⟨kvs,k,e,ey,l,eH⟩ | ⟨kvs,k,b,e,ey,eb,l,eH⟩
 ·subst ey eH;obtain⟨z,hd,vs,rel,dd⟩:=pO '傍';have hz:vs.length<=sizeLine:=by rw[<- rel.length];exact z
  have hl:'宰':='屣'
  refine wpAny_setItem_pairs (hsz:=hz) '剟' dd '嵇';have he:'崇':='又'
  exact nV I '僺' hs he (vE hl hd (rel.put k rv) dd')
 ·subst ey eH
  cases '僱'
  obtain⟨z,hd,xs,rel,dd⟩:=Os '傍';have hz:'Ɏ':='嫨'
  have hl:'宰':='屣'
  refine '懱' (tupleKind_room_in1 hu) (nE I.hok eb) dd fun h' dd' hs=>h _ ?_;show '懓';refine nV I '僺' hs '噙' ⟨hl,hd,_,(rel.put k eb rv).keeps fun c ys ec=>?_,q,es,ep,hq,h2,h3,h4,h5⟩
  rw[bF (wU ec e 'Ȃ')];exact ec
end
mutual section G
section E
section
variable {X:Cx}{pins:'6'}{σ:St}{H:Hp}{s:Shared}{a:Addr}{kvs:'È'}{k:aL}{u:Value}{A:Around}{E:'9'}
def zp3['ö']['='](e:'冁')(h:∀ t s','伔'->Q (.int kvs.length t) s'):'˧' (call (.builtin "len") [.ref a]) Q E s:=by
 obtain⟨z,hd,vs,rel,dd⟩:='严';refine call_len_dict hd dd (by rw[<- rel.length];rw[sizeLine_eq]at z;omega) ?_
 rw[<- rel.length];exact h _ '匬'
section E
def jR(i:Expr):Prop:=∀ ov iv,subscripted i false ov iv=operate [ov,iv] (getItem ov iv)
def mS['倽']['匉']['ӓ']{value slice:Expr}['ʉ']{T id:String}['ö']
  (hl:'奠') (hs:jR slice)
  (h:'K' (eval value env) (fun o s₁=>wpAny (model prog w) A (eval slice env) (fun i s₂=>s₂.TypeIs o T/\wpAny (model prog w) A (getItem o i) Q E s₂) E s₁) E s) :
  'K' (eval (.Subscript value slice pos) env) Q E s:=by
 refine Subscript_ ('勘' (fun o s₁ h₁=>wpAny_mono h₁ (fun i s₂ h₂=>?_) fun _ _ x=>x) fun _ _ x=>x);obtain⟨hT,h₂⟩:=h₂;unfold subscriptTail;show 'Ǽ';rw[getitemInPython_of_ne hT.not_modules];refine ae ('拄' hl ?_);have fin:'K' (subscripted slice false o i) (fun r s₃=>wpAny (model prog w) A (letTemporaryGo value o r>>=fun _=>pure r) Q E s₃) E s₂:=by
  rw[hs o i];exact wpAny_operating ('捛' (fun r s₃ h₃=>ae (wpAny_letTemporaryGo (af h₃))) fun _ _ x=>x)
 first
  | exact '您'
  | exact ae ('您')
  | exact ae fin
def PJ{X:Cx}['ɸ']['e']{y:V}{o:'˅'}['='](g:'嗧'):'岓':=by
 rcases g with⟨kvs,k,e,_,_⟩ | ⟨kvs,k,b,e,_,_,_⟩
 ·obtain⟨_,_,vs,_,dd⟩:='严';exact dd.typeIs
 ·obtain⟨_,_,xs,_,dd⟩:='侯';exact dd.typeIs
def zo0(td ty:TE):TE:=fun 'k'=>td σ H fun x H1=>ty 'Ï' fun y H2=>∃ a v,'ź'/\DGet H2 a y '҄'/\Q v H2
def Zm(td ty tv:TE):TS:=fun 'Ǉ'=>tv σ H fun v H1=>td 'Ï' fun x H2=>ty σ H2 fun y H3=>∃ a H4,'ź'/\DPut H3 a y v H4/\D.nx σ H4
section
variable {X:Cx}{o i e value:Expr}{pos pos' tpos:Pos}{td ty tv:TE}
def WC['懃'](hs:jR i):'匠' (zo0 td ty):=.mk <| by
 show 'ó';refine '劃' (aM (ho pins s σ H _ I h) fun u s1 ⟨x,H1,I1,rx,q1⟩=>aM (hi pins s1 σ H1 _ I1 q1) fun iv s2 ⟨y,H2,I2,ry,a,v,ex,g,q2⟩=>?_);show '功';exact⟨PJ I2 g,U4 hu I2 g ry fun w' s3 I3 rw'=>⟨v,H2,I3,rw',q2⟩⟩
def Om['懃'](hv:'忎')(hs:'捖' (some (.Subscript o i pos')) pos.line X.env='ơ') :
  PS X ('Ň' ['巖'] value pos) (Zm td ty tv):=.mk <| by
 show 'ǯ';refine wpAny_Assign_Subscript (aM '崀' fun r s1 ⟨v,H1,I1,rv,q1⟩=>aM (ho 'Ͽ') fun u s2 ⟨x,H2,I2,rx,q2⟩=>aM (hi '勠') fun iv s3 ⟨y,H3,I3,ry,a,H4,ex,g,q3⟩=>?_) hs;show '功';exact RT hu I3 g ry rv fun s4 I4=>⟨σ,H4,I4,q3⟩
section E
def Ld['扗']:'坑' (.dK []) :=
 ⟨ 'À','婧',[],.nil,Heap.DictOf.new h⟩
def VM['扗']:'坑' (.dT []) :=
 ⟨ 'À','婧',[],.nil,_,#[],0,'ń','庂',rfl,rfl,List.nodup_nil⟩
def tM:'喳'->St->Hp->('咟')->Prop
 | [],_,H,Q=>Q [] H
 | (tk,tv)::r,σ,H,Q=>tk σ H fun x H1=>tv 'Ï' fun y H2=>tM r σ H2 fun ps H3=>Q ((x,y)::ps) H3
abbrev VV:'悩'->'巗'->Prop:=Paired fun p q=>RelV p.1 q.1/\'怡'
def qO['憮'](trs:'喳'):Prop :=
 ∀ (pins:'6') (s:Shared) (σ:St) (H:Hp) (Q:'咟'),'.'->tM trs 'k' ->
  ']' (evalPairs (pairTrees keys values X.env pos)) (fun vs s'=>∃ ps H',Inv X pins σ H' s'/\VV ps vs/\Q ps H') X.xe s
def NF{X:Cx}['ʉ']:qO '埅':=fun 'Y'=>pairTrees_nil_walk '巎'
def zh3{X:Cx}['ʉ']{k v:Expr}{ks:'ʤ'}{vs:'E'}{tk tv:TE}{trs:'喳'}(hk:PE X k tk)(hv:PE X v tv)(hr:qO '堔' trs) :
  qO '垡' ((tk,tv)::trs):=fun 'Y' =>
 pairTrees_cons_walk (aM (hk 'ʀ') fun u s1 '巕'=>aM (hv 'Ͽ') fun w2 s2 ⟨y,H2,I2,ry,q2⟩ =>
  aM (hr '勠') fun ws s3 ⟨ps,H3,I3,rel,q3⟩=>⟨(x,y)::ps,H3,I3,'D' ⟨rx,ry⟩ rel,q3⟩)
def jS(kvs more:'È'):'È':=more.foldl '宂' kvs
def KV.merge:∀ {more:'È'} {rs:'ь'} {kvs:'È'} {vs:'ь'},KV more rs->'ɝ'->KV '忚' (merged vs rs):=by
 intro more rs kvs vs r;unfold KV at r
 induction r generalizing kvs vs with
 | nil=>intro q;exact q
 | @cons p q ps qs h t ih =>
  intro r0;have e:KV '啂' (stored vs q.1 q.2):=by
   have:=r0.put p.1 h.2
   rw[<- h.1];exact this
  exact ih e
theorem uH:∀ (more kvs:'È'),'忚'.length<='崈'
 | [],kvs=>by show kvs.length<=kvs.length+0;omega
 | p::r,kvs=>by
  have h1:=uH r '啂'
  have h2:=tN kvs 'А'
  show(jS '啂' r).length<=_
  show '坺'
theorem Ly['Ĵ']:∀ {kvs:'È'} {ws:'巗'},VV (kvs.map '咊') ws->∃ rs,Carries 'Ș' ws rs/\KV kvs rs
 | [],_,r=>by show '拳';exact⟨[],True.intro,.nil⟩
 | p::kvs,_,r=>by
  rw[au]at r
  cases r with
  | @cons a b as bs h t =>
   obtain⟨rs,c,q⟩:=Ly (P:=P) (w:=w) t;obtain⟨b1,b2⟩:=b;exact⟨(p.1,b2)::rs,⟨iH h.1,rfl,c⟩,'D' ⟨rfl,h.2⟩ q⟩
structure M1 (X:Cx) (o:Expr) (m:Str) (apos:Pos) (e:Expr) (cpos:Pos):Prop where
 base:'Ҵ' m X.env (eval o X.env)='Ȍ'
 few:('塴'
  && decide (([e]:'E').length+'儉'+'僄'<30))=true
 line:'ͽ'
 trees:'妑'
def Zz['Ϻ']:Prop:=(∃ kvs,'冁')\/∃ kvs,'啁'
def zm0{X:Cx}['ɸ']['e']['='](d:Zz H a) :
  '岓'/\(∀ b,'侊'='ϙ'->∃ ob,'佖'='ҍ'/\'怲')/\'ʜ':=by
 rcases d with⟨kvs,e⟩ | ⟨kvs,e⟩
 ·obtain⟨_,hd,vs,_,dd⟩:='严';refine '它'
  cases q
  show '懢'
 ·obtain⟨_,hd,xs,_,dd⟩:='侯';refine '它'
  cases q
  show '懢'
section E.L2
namespace DL
open PySem PySem.Spec PyProof.Rows L2 PySem.W
def kP:'5'->Bool
 | []=>false
 | 'ϕ'::r=>kP r
 | x::r=>(x::r)=='壝'
def Rn{P:'5'->Prop}(h0:P '壝')(h1:∀ c r,kP r=true->P r->P ('ˏ'::r))(l:'5'):'刡'->P l:=by
 induction l with
 | nil=>intro e;cases e
 | cons x r ih =>
  cases x with
  | ref c=>exact fun e=>h1 c r e (ih e)
  | _=>exact fun e=>eq_of_beq e▸h0
def Rw['垘']:∀ l,'刡'->'嶒'=true :=
 Rn hn fun c r _ ih=>by rw[List.contains_cons,ih,Bool.or_true]
structure XCl (K:Frag) ['˽']:Prop where
 cd:∃ cd,clsIn K C=some cd/\cd.hasDict=true/\kP cd.mro=true
 sa:'勏' "__setattr__"='娾'
 ga:'勏' "__getattribute__"=some (some ('Ę' '嬱'))
 gh:'勏' "__getattr__"='Ȕ'
 ty:typeIn K 'ü'=some ('嗩')
structure XCk (K:Frag) ['˽']:Prop extends '倄' where
 ca:'勏' "__class__"=some (some ('ӵ'))
 cg:specialIn K ('ӵ') "__get__"=some (some '厶')
 ct:takesIn K ('ӵ')=some true
section
variable {K:Frag}{C:Addr}
theorem XCl.mro(c:'倄')['垘']:'巘'=some true:=by
 show '憜'
 show '憡'
def VC:∀ l:'5','刡'->l.isEmpty=false
 | [],h=>'侰'
 | _::_,_=>rfl
def zc2(n:String)(hn:'卍'=false):∀ l,'刡'->'嶒'=false :=
 Rn hn fun c r _ ih=>by rw[List.contains_cons,ih,Bool.or_false];rfl
def XCl.kit(c:'倄')(n:String)(hk:kitMeta n=true)(hn:'卍'=false):kitOne K 'ü' '俟'='噓':=by
 obtain⟨cd,hc,_,ho⟩:=c.cd;unfold kitOne kitCls;rw[if_neg (by intro z;cases beq_iff_eq.mp z)]
 dsimp only;rw['俙'];show '巘'='噓'
 unfold mroIn;rw[hc,Option.bind_some,if_neg (by rw[VC _ ho];decide),zc2 n hn _ ho]
section E
section
variable {prog:Program}{w:World}{A:Around}{E:'9'}{s:Shared}{K:Frag}{x C:Addr}{name:Str}{v:Value}{vs:'T'}{sl:'ʝ'}
def XCl.sub{M:Model}['Ď']['埋'](c:'倄')(X:K.In h)(I:'帱')['垘']:Looks M h (isInstance 'ɠ' '俟') true:=by
 show '憜'
 exact I.type.andThen (looks_mroIn X (by show '憡'))
section E
section
variable {prog:Program}{w:World}{A:Around}{E:'9'}{s:Shared}{K:Frag}{x C:Addr}{vs:'T'}{sl:'ʝ'}
def HX{Q:'б'}['埋'](c:XCk K C)(X:'Ѫ')(I:InstAt s.heap x ox C od)(h:Q ('喴') 'Ή'):'K' (getAttr? (.ref x) "__class__") Q E s:=by
 show '捌';obtain⟨cd,hc,hd,_⟩:=c.cd;have FX:=PySem.F.attr_ValueError
 have L0:=I.type (M:='佦')
 have L1:='戧' c.ga
 have L2:='戧' c.gh
 have hf:findObj K C od '凥'=some (.bind '厶' ('ӵ')):=by simp only[findObj,hc,c.ca,c.cg,c.ct,Option.bind_some]
 have L3:=looks_find (M:='佦') X I hf
 show '戏';refine ae (wpAny_mkText (ae (wpAny_attempt (wpAny_holding (ae (L0.at (ae (L1.at ?_))))))));show '<' (getAttrByItsOwn _ _ _ _ _ _) _ _ _
 unfold getAttrByItsOwn;refine ae (L2.at (ae (wpAny_attempt ('ԥ'))));show '<' (callGetattribute _ _ _ _) _ _ _
 unfold callGetattribute boundAndCalled;rw[if_neg (by simp[onTheHeap])]
 rw[FX.ga.bind];refine ae (af (wpAny_call ?_));refine codeAny_call_builtin FX.ga.plain F.entry_bexc_ga (@check_slot '@' _ _ '巙' '嬱' '冎' '帰' 'ɠ' ['帲'] [] _ 'Æ' 'Æ' (c.sub X I '冎' '&') (F.args_bexc_ga 'ɠ' ('帲')) ?_)
 unfold Builtin.«object.__getattribute__»;refine ae (af (ae (af (ae (L0.at (ae (L3.at ?_)))))));show '<' (holding [.builtin "object.__class__"] (call (.builtin "getset_descriptor.__get__") [.builtin "object.__class__",.ref x,.ref C])>>=ret) _ _ _
 refine ae (wpAny_holding (wpAny_call (class_get (s:='巙') (ox:=ox) (od:=od) X I (c.mro '囋' '&') ?_)))
 refine 'ſ';exact af (af h)
def FZ['埋'](c:XCk K C):KitX K 'ɠ' 'ü' (fun h=>'帱') where
 ty:=fun ',' I=>I.type
 it:=fun _ _ X _=>by
  obtain⟨cd,hc,_⟩:=c.cd;unfold clsIn at hc
  split at hc
  ·rename_i ho;intro A' Q' E' s' k q;unfold isType loadHead;exact ae (wpAny_loadPart (k _ _ (X _ _ ho)) (af q))
  ·cases hc
 ne:=fun h tp dd its n sl X htp=>by
  obtain⟨cd,hc,_⟩:=c.cd;refine Bool.eq_false_iff.mpr '嚕';have e:C=tp:=Value.ref.inj (beq_iff_eq.mp q)
  subst e;unfold clsIn at hc
  split at hc
  ·rename_i ho;have z:=(X _ _ ho).symm.trans htp
   cases z
  ·cases hc
 ca:=fun X I k=>HX c X I k
section E
open PySem PySem.Spec PyProof.Rows L2
inductive D where
 | dat ['Ⱥ']
 | cel ['ǵ']
inductive Cel where
 | l ['傅']
 | d (kvs:'¿')
 | t (kvs:'ǐ')
 | dl (kas:'啣')
 | fd (kvs:'¿')
 | ft (kvs:'ǐ')
 | n (kvs:'е')
 | g (kvs:List (aL×D))
 | o (N:Str) (fs:'丌')
 | tc (xs:'Á')
@[simp] def oM:Option Cel->Bool
 | some (.fd _)=>true
 | some (.ft _)=>true
 | some (.tc _)=>true
 | _=>false
abbrev Mu:=Addr->Option Cel
abbrev aS:=List ('¨')
@[simp] def Jl:aL->PyData
 | 'ҙ'=>'['
 | '倖'=>'ı'
def pU:PyData:=.int (2^1930)
def wO(K:ad):HO->'Ǔ'->Prop
 | .dK ws,vs=>vs=ws.map fun kv=>(Jl kv.1,kv.2)
 | .dT ws,vs=>vs=ws.map fun kv=>('4' (kv.1.map Jl),kv.2)
 | .dN K' ws,vs=>K'=K/\vs=ws.map fun kv=>('4' kv.1,kv.2)
 | _,_=>False
def EntX['匇'](o:Obj)(u:HO)(vs:'Ǔ'):Prop :=
 (∃ r,vs='怾'/\wO K u r)\/∃ C N fs dx ws sl,XCk K C/\'卾'/\'孕'/\vs=(pU,.str N)::fs.map (fun kv:Str×V=>(PyData.str kv.1,kv.2)) /\
  ('夫')
mutual
def RP['ĝ']:'弈'
 | '$',v=>v=.non
 | 'ȝ',v=>v='Ȧ'
 | '[',v=>v='['
 | 'Ě',v=>v='Ě'
 | 'á',v=>∃ a vs,'ɟ'/\'佬'/\'ê'
 | '҉',v=>∃ a vs,'ɟ'/\'伕'/\'ʸ'/\'ê'
 | '嚖',v=>∃ a o u vs,'ɟ'/\'ԑ'/\'啤'/\'兘'
def RPd['ĝ']:'Ԅ'->'Ǔ'->Prop
 | [],vs=>'ϡ'
 | '俠',vs=>∃ v r,vs='俳'/\'ă'/\RPd '×' xs r
def RPs['ĝ']:'('->'嗗'
 | [],vs=>'ϡ'
 | 'X',vs=>∃ v r,'剒'/\'亩' x v/\'å' xs r
end
end
mutual section G
def RD['ĝ']:D->V->Prop
 | 'Ô',v=>'ă'
 | 'Õ',v=>'ɟ'/\'兮'
def RDs['ĝ']:'Á'->'嗗'
 | [],vs=>'ϡ'
 | 'X',vs=>∃ v r,'剒'/\'Ɣ'/\'井' xs r
def RKV['亻']['ĝ']:'ř'->'n'->Prop
 | [],vs=>'ϡ'
 | '俠',vs=>∃ v r,vs='俳'/\'ă'/\'ȸ' xs r
def RW['ĝ']:D->V->Prop
 | 'Ô',v=>'ă'
 | 'Õ',v=>'ɟ'
def RKW['亻']['ĝ']:'η'->'n'->Prop
 | [],vs=>'ϡ'
 | '俠',vs=>∃ v r,vs='俳'/\RW '×' p v/\'ǀ' xs r
def RC['ĝ']:Cel->'嚽'
 | .l xs,.lst vs=>'ê'
 | .d kvs,.dK vs=>'Ɛ'
 | .t kvs,.dT vs=>'Ɛ'
 | .dl kas,.dK vs=>vs='宄'
 | .fd kvs,.frz _ '囌'=>'Ɛ'
 | .ft kvs,.frz _ '囍'=>'Ɛ'
 | .n kvs,.dN K' vs=>K'=K/\'Θ'
 | .g kvs,.dK vs=>'Θ'
 | .tc xs,.tup vs=>'ǀ' (xs.map fun x=>((),x)) (vs.map fun v=>((),v))
 | .o N fs,.ins C _ vs=>'卾'/\'伡'
 | _,_=>False
structure Ok ['ĝ']:Prop where
 g:∀ a c,m a='Ȥ'->∃ o,'侨'/\'є'
 z:∀ a,Z a->'ω'/\'噘'
structure Ext ['ĝ'] ['堠']:Prop where
 t:'ͺ'
 l:'夝'
 z:'巚'
 c:'娿'
 fz:'ʖ'
 fm:'宱'
 ll:∀ a vs,'伕'->'媉'
section
variable {K:ad}{Z:'1'}{m m' m2:Mu}{H H' H2:Hp}
def Ext.refl:'ʄ' m H:='塷'
theorem Ext.trans(a:'Ñ')(b:Ext 'Ķ' 'ū'):'ʄ' m2 H2 :=
 ⟨ '嬚','壱','嫼','岔','媠',fun x h=>by
  have q:=a.fm x h
  rw['履',q],'墲'⟩
def EntX.mk{o:Obj}{u:HO}{r:'Ǔ'}(h:wO K u r):EntX K H o u ('怾'):=.inl ⟨r,rfl,h⟩
def EntX.hd['坶'](h:'啤'):∃ v r,vs=(pU,v)::r:=by
 rcases h with⟨r,h,_⟩ | ⟨_,_,_,_,_,_,_,_,_,h,_⟩<;>exact⟨_,_,h⟩
def EntX.tr['坶'](hf:'ʖ')(h:'啤'):EntX K H' o u vs:=by
 rcases h with h | ⟨C,N,fs,dx,ws,sl,h1,h2,h3,h4,h5⟩
 ·exact 'Қ'
 ·exact .inr ⟨C,N,fs,dx,ws,sl,h1,h2,h3,h4,h5.imp id fun⟨d,od,a,b⟩=>⟨d,od,a,hf ',' b⟩⟩
mutual
theorem RP.ext['З']:∀ (p:PyData) (v:V),'ă'->RP 'Ķ' p v
 | '$',v,h=>'ǎ'
 | 'î',v,h=>'ǎ'
 | '¶',v,h=>'ǎ'
 | 'º',v,h=>'ǎ'
 | 'á',v,h=>by
  show '圚';exact⟨a,vs,h1,e.t a vs h2,RPs.ext e '½' h3⟩
 | '҉',v,h=>by
  show '慸';obtain⟨q1,q2⟩:=e.l a vs h2 h3;exact⟨a,vs,h1,⟨q1,h2.2⟩,q2,RPs.ext e '½' h4⟩
 | '嚖',v,h=>by
  show '慩';exact⟨a,o,u,vs,h1,e.fz a o u h2,h3.tr e.fz,RPd.ext e kvs _ h4⟩
theorem RPd.ext['З']:∀ (xs:'Ԅ') (vs:'Ǔ'),'庄'->RPd 'Ķ' '½'
 | [],vs,h=>'就'
 | '俠',vs,h=>by
  show '扠';exact⟨v,r,h1,'亖' p v h2,RPd.ext e xs r h3⟩
theorem RPs.ext['З']:∀ (xs:'(') (vs:'-'),'ê'->RPs 'Ķ' '½'
 | [],vs,h=>'儀'
 | 'X',vs,h=>by
  show '劂';exact⟨v,r,h1,'亖' x v h2,RPs.ext e xs r h3⟩
end
theorem RD.ext['З']{d:D}{v:V}(h:'役'):RD 'Ķ' d v:=by
 cases d with
 | dat p=>exact '亖' p v h
 | cel a=>exact '哘'
theorem RDs.ext['З']:∀ {xs:'Á'} {vs:'-'},'伢'->'巛'
 | [],_,h=>h
 | _::_,_,'ʥ'=>⟨v,r,h1,'剁',RDs.ext e h3⟩
theorem RKV.lift['亻']['垨']:∀ {xs:'ř'} {vs:'n'},'伣'->RKV '偰' '½'
 | [],_,h=>h
 | _::_,_,'ʥ'=>⟨v,r,h1,'嚘',RKV.lift tr h3⟩
theorem RKW.lift['亻']['垨']:∀ {xs:'η'} {vs:'n'},'ǀ' xs vs->RKW '偰' '½'
 | [],_,h=>h
 | (_,.dat _)::_,_,'ʥ'=>⟨v,r,h1,'嚘','彺'⟩
 | (_,.cel _)::_,_,'ʥ'=>⟨v,r,h1,h2,'彺'⟩
theorem RPs.lift['垨']:∀ {ps:'('} {vs:'-'},'ȅ'->RPs '偰' ps vs
 | [],_,h=>'儀'
 | _::_,_,h=>by
  show '劂';exact⟨v,r,h1,'嚘',RPs.lift tr h3⟩
theorem RC.lift{Z':'1'}['堸'](tr:'仍')(h:'є'):RC '偰' c o:=by
 cases c<;>cases o<;>first | exact '忝' | exact '忞' | exact '堊' h | exact⟨h.1,'堊' h.2⟩ | exact h | (rename_i ob u;cases u<;>first | exact '忞' | exact h)
theorem RC.ext['堸']['З'](h:'є'):RC 'Ķ' c o:=h.lift fun 'Ɗ'=>'亖' p v q
def RC.mut['堸'](h:'є')(nf:oM ('Ȥ')=false):'嶕'/\('嶖'):=by
 cases c with
 | fd _=>cases nf
 | ft _=>cases nf
 | tc _=>cases nf
 | dl _=>show 'Ҩ'
 | l _=>show 'Ҩ'
 | d _=>show 'Ҩ'
 | n _=>show 'Ҩ'
 | g _=>show 'Ҩ'
 | o _ _=>show 'Ҩ'
 | t _=>show 'Ҩ'
theorem Ok.l['e']['ʌ']['ğ'](h:'冂'):∃ vs,H a='冠'/\'ê':=by
 show 'ϱ'
 show '圪'
theorem Ok.d['e']{xs:'¿'}['ğ'](h:m a=some (.d xs)):∃ vs,H a=some '囌'/\'伣':=by
 show 'ϱ'
 show '圪'
theorem Ok.t['e']{xs:'ǐ'}['ğ'](h:m a=some (.t xs)):∃ vs,H a=some '囍'/\'伣':=by
 show 'ϱ'
 show '圪'
theorem RPs.length:∀ {xs:'('} {vs:'-'},'ê'->'巜'
 | [],_,h=>'嬛'
 | _::xs,_,h=>by
  show '戓';subst h1;rw[List.length_cons,List.length_cons,RPs.length h3]
theorem RDs.length:∀ {xs:'Á'} {vs:'-'},'伢'->'巜'
 | [],_,h=>'Ь'
 | _::xs,_,'伤'=>by
  subst h1;rw[List.length_cons,List.length_cons,RDs.length h3]
theorem RPs.get:∀ {xs:'('} {vs:'-'} {i:Nat} {p:PyData},'ê'->'ˋ'='ŋ'->∃ v,'佗'/\'ă'
 | [],_,_,_,_,e=>'ў'
 | 'X',_,0,p,h,e=>by
  show 'ɹ';obtain⟨v,r,h1,h2,_⟩:=h;show '抭'
 | 'X',_,i+1,p,h,e=>by
  show '戓';obtain⟨u,q1,q2⟩:=RPs.get (i:=i) (p:=p) h3 'о'
  subst h1;exact '寚'
theorem RPs.set:∀ {xs:'('} {vs:'-'} {i:Nat} {p:PyData} {v:V},'ê'->'ă'->'å' (xs.set i p) (vs.set i v)
 | [],_,_,_,_,h,_=>'僎'
 | 'X',_,0,p,v,h,q=>by
  show 'ɹ';obtain⟨w,r,h1,_,h3⟩:=h;subst h1;simp only[List.set_cons_zero,RPs];exact⟨v,r,rfl,q,h3⟩
 | 'X',_,i+1,p,v,h,q=>by
  show '倭';simp only[List.set_cons_succ,RPs];exact⟨w,_,rfl,h2,RPs.set h3 q⟩
theorem RPs.append:∀ {xs ys:'('} {vs ws:'-'},'ê'->'å' ys ws->'å' (xs++ys) (vs++ws)
 | [],_,_,_,h,q=>by show '勸';show 'Ў'
 | 'X',_,_,_,h,q=>by
  show '倭';simp only[List.cons_append,RPs];exact⟨w,_,rfl,h2,RPs.append h3 q⟩
theorem RPs.drop:∀ {xs:'('} {vs:'-'} (n:Nat),'ê'->'å' (xs.drop n) (vs.drop n)
 | _,_,0,h=>'Ԥ'
 | [],_,n+1,h=>'僎'
 | 'X',_,n+1,h=>by
  show '倭';simpa using RPs.drop n h3
theorem RPs.take:∀ {xs:'('} {vs:'-'} (n:Nat),'ê'->'å' (xs.take n) (vs.take n)
 | _,_,0,h=>'丕'
 | [],_,n+1,h=>'僎'
 | 'X',_,n+1,h=>by
  show '倭';simp only[List.take_succ_cons,RPs];exact⟨w,_,rfl,h2,RPs.take n h3⟩
theorem RPs.reverse:∀ {xs:'('} {vs:'-'},'ê'->'å' xs.reverse vs.reverse
 | [],_,h=>'僎'
 | 'X',_,h=>by
  show '倭';show '懭';exact(RPs.reverse h3).append (by show 'Њ';exact⟨w,[],rfl,h2,rfl⟩)
@[simp] def pds:'Á'->'嶗'
 | []=>'剛'
 | 'Ô'::r=>(pds r).map (p :: ·)
 | .cel _::_=>none
theorem RDs.pds:∀ {xs:'Á'} {vs:'-'} {ps:'('},'伢'->DL.pds xs='剡'->'ȅ'
 | [],vs,ps,h,e=>by
  cases '川'
  cases (show '剛'='剡' from e)
  simp[RPs]
 | 'Ô'::r,vs,ps,⟨v,w,h1,h2,h3⟩,e=>by
  simp only[DL.pds]at e
  cases q:DL.pds r with
  | none=>rw[q]at e;cases e
  | some qs =>
   rw[q]at e
   cases e
   show 'Њ';exact⟨v,w,h1,h2,RDs.pds h3 q⟩
 | 'Õ'::r,_,_,_,e=>by simp only[DL.pds]at e;cases e
def SqT.same['乵'](e:'ȕ')(h:'Ǜ'):SqT '匦':=by
 show '乚'
 ·exact '嵄'
 ·exact '导'
 show 'Ж'
def Ext.grow(s:'ȕ')(hz:∀ a,Z a->'噘'):'冃':=⟨fun 'Ȁ'=>SqT.same s h,fun _ _ '~'=>⟨h1.1,s.seq h2⟩,fun a h=>by
 cases q:H a with
 | none=>exact '匯' (hz a h)
 | some o=>exact s a o q,'噚',fun a o u h=>s 'Ȁ','ŵ',fun ',' h=>s 'Ȁ'⟩
theorem Ok.grow(s:'ȕ')['ğ']:Ok K Z m H':=by
 have e:'冃':='嬲'
 refine⟨ '喵',fun a h=>⟨ '丗',by rw[e.z a h];exact '世'⟩⟩
 show '偀';exact⟨o,s _ _ h1,'剁'⟩
def Ok.ext(s:'ȕ')['ğ']:'冃':='嬲'
def cE{p:Addr}{o:HO}(h:'ǟ'):'ŧ' (upd H p o):=fun b u q=>by rw[bF (kL q h)];exact q
def aP(m:Mu)['ǵ'](c:Cel):Mu:=fun b=>if b=a then 'Ȥ' else m b
def bC['e']{c:Cel}:'ʔ' c a='Ȥ':=by unfold aP;rw['w']
def bD{a b:Addr}{c:Cel}(h:'˕'):'ʔ' c b=m b:=by unfold aP;rw['҃']
def SqL.ne{p a:Addr}{xs:'-'}['垩'](h:'ε'):a≠p:=by
 show 'P';rcases h with (h | ⟨o,h⟩) | ⟨o,_,_,h,_⟩
 ·rw[hp]at h;cases h
 ·rw[hp]at h;cases h
 ·show '堦'
def Ext.cell['坍']['垩']:'嫽':=by
 refine⟨fun 'Ȁ'=>SqT.same ('ɳ') h,fun a xs '~'=>?_,'侍','侍',fun a o u h=>'悫','侍',fun ',' h=>'悫'⟩
 ·have ne:=SqL.ne hp hk h2
  exact⟨ '峃',('ɳ').seq h2⟩
 ·have ne:a≠p:=fun e=>'世' (by rw[e];exact hp)
  exact 'ϣ'
 ·by_cases e:a=p
  ·subst e;rw[bC];rfl
  ·rw[bD e];exact h
 ·have ne:a≠p:=by
   show 'P'
   cases q:m a with
   | none=>rw[q]at h;cases h
   | some x =>
    obtain⟨w,h1,_⟩:=ok.g a x q;rw[hp]at h1
    cases h1
  exact '˗'
def Ok.updC['坍'](hz:¬ Z p)(e:'嫽')(r:'є'):'宲':=by
 refine⟨fun a x h=>?_,'侍'⟩
 ·by_cases q:a=p
  ·subst q;rw[bC]at h
   cases h
   exact⟨o,cF,r.ext e⟩
  ·rw[bD q]at h;obtain⟨w,h1,h2⟩:=ok.g a x h;exact⟨w,by rw[bF q];exact h1,'剁'⟩
 ·have ne:a≠p:=fun e=>hz (e▸h)
  exact⟨by rw['˗'];exact '丗','宅'⟩
theorem Ok.cell['坍']['垩'](r:'є'):'宲' :=
 ok.updC ('崉') '哙' r
def Ext.put['慵'](nf:'帵':=by rfl):'ʄ' (aP m a c) (upd H a o):=by
 have mu:(∀ xs,o0≠ '剑')/\(∀ a b,o0≠.frz a b):=by
  obtain⟨w,h1,h2⟩:=ok.g a c0 hm;rw[hH]at h1
  cases h1
  exact h2.mut nf
 refine⟨fun b xs h=>?_,fun b xs '~'=>?_,'嘢','嘢',fun b w u h=>?_,'嘢',fun b 'ϼ'=>by rw[bF ('嫊')];exact h2⟩
 ·rcases h with (h | ⟨w,h⟩) | h
  ·have ne:'˕':=by show '拿';exact '˫' (mu.1 _)
   exact 'Ө'
  ·have ne:'˕':='奡'
   exact '婺'
  show 'Ж'
 ·have ne:'˕':='嫊'
  refine⟨ '峃',?_⟩
  rcases h2 with (h | ⟨w,h⟩) | h
  ·exact 'Ө'
  ·exact '婺'
  show 'Ж'
 ·have ne:'˕':=by show 'P';have:=(ok.z b h).1;show '垑'
  exact 'ϣ'
 ·by_cases e:b=a
  ·subst e;rw[bC];rfl
  ·rw[bD e];exact h
 ·have ne:'˕':='奡'
  rw['ϣ'];exact h
 ·have ne:'˕':=by show 'P';rw[hm,nf]at h;cases h
  exact '˗'
theorem Ok.put['慵'](r:'є')(nf:'帵':=by rfl):Ok K Z '捜' :=
 ok.updC (fun h=>by have:='丗';show '垑') (Ext.put ok hm hH nf) r
def RS['ĝ'](d:aS)(s:L2.St):Prop:=d.length=s.length/\∀ (i:Nat) (x:D),'州'->∃ v,s[i]?='ή'/\'Ɣ'
theorem RS.ext['埸'](r:'Ǘ')['З']:RS 'Ķ' d s:=⟨r.1,fun i x h=>let '忟':=r.2 i x h;⟨v,h1,'剁'⟩⟩
theorem RS.set['埸']{i:Nat}['Љ'](r:'Ǘ')(h:'Ɣ'):'亪' (d.set i (some x)) (s.set i (some v)):=by
 refine '夕'
 by_cases e:j=i
 ·show '慯'
  split at q
  ·rename_i hl
   cases q
   refine⟨v,?_,h⟩;rw[List.getElem?_set];simp only[if_true];rw[if_pos (by rw[<- r.1];exact hl)]
  ·cases q
 ·rw['叫']at q;obtain⟨w,h1,h2⟩:=r.2 j y q;exact⟨w,by rw['叫'];exact h1,h2⟩
section E
abbrev DK:=D->'Ż'
abbrev DE:=aS->'嗪'
abbrev DT:=aS->Mu->('佊')->Prop
abbrev DA:='嬳'
structure Ends2 where
 nx:'Ą'
 rt:DK
 bk:'Ą':='Υ'
 ct:'Ą':='Υ'
 xc:aS->'嬜':=fun 'O'=>False
abbrev DS:=Ends2->'Ą'
inductive LE (K:ad) (f:DE) ['Ͼ'] (Q:VK):Prop
 | mk ['乩'] (R:DK) ['勪'] (k:∀ x m' v H',R x m'->'Ñ'->'ŝ'->'廘'->'乇'):LE '匨'
inductive LT (K:ad) (f:DT) ['Ͼ'] (Q:'ѓ'):Prop
 | mk ['乩'] (R:'佊') ['勪'] (k:∀ b m' H',R b m'->'Ñ'->'ŝ'->Q b H'):LT '匨'
inductive LA (K:ad) (f:DA) ['Ͼ'] (Q:'兼'):Prop
 | mk ['乩'] (R:'啄') ['勪'] (k:∀ xs m' vs H',R xs m'->'Ñ'->'ŝ'->'巛'->Q vs H'):LA '匨'
end
mutual section G
inductive LS (K:ad) (f:DS) (E:Ends) ['Ͼ']:Prop
 | mk ['乩'] (R:Ends2) ['劊'] (h:f R d m) (nx:∀ d' m' s' H',R.nx 'Ü'->'Ñ'->'ŝ'->'伖'->E.nx 'ǉ') (rt:∀ x m' v H',R.rt x m'->'Ñ'->'ŝ'->'廘'->E.rt v H') (bk:∀ d' m' s' H',R.bk 'Ü'->'Ñ'->'ŝ'->'伖'->E.bk 'ǉ') (ct:∀ d' m' s' H',R.ct 'Ü'->'Ñ'->'ŝ'->'伖'->E.ct 'ǉ'):LS K f E s H
inductive Mid ['ĝ'] (P:D->'Ż') (x:V) (H1:Hp):Prop
 | mk (d:D) (m1:Mu) (rd:RD '偵' d x) (h:P d m1) (e:'庅') (ok:Ok '偵'):Mid '×' P x H1
def PE.imp{X:Cx}['ǻ']{t t':TE}(h:'囅')(q:'仦'):'ɂ' t':='印'
def PT.imp{X:Cx}['ǻ']{t t':TT}(h:'囃')(q:'仦'):PT 'ӟ':='印'
def PA.imp{X:Cx}{e:'E'}{t t':TA}(h:PA 'Ɔ')(q:'仦'):PA 'ӟ':=.mk <| fun pos '亟' w=>h pos '亟' '侎'
def PS.imp{X:Cx}{e:Stmt}{t t':TS}(h:PS 'Ɔ')(q:'寽'):PS 'ӟ':='奻'
def PSs.imp{X:Cx}{e:'¬'}{t t':TS}(h:'Ū' e t)(q:'寽'):'Ū' e t':='奻'
section
variable {X:Cx}{pos:Pos}
@[simp] def aA(i:Nat):DE:=fun 'H'=>∃ x,'州'/\Q x m
def zo9['勩']['愞']:'偻' (LE X.K (aA i)) :=
 PE.imp ('弜') fun 'Ú'=>by
  obtain⟨Z,d,m,R,ok,rs,⟨x,h1,h2⟩,k⟩:=h;obtain⟨v,q1,q2⟩:=rs.2 i x h1;exact⟨v,q1,k x m v H h2 'ˢ' q2⟩
@[simp] def aC['Ⱥ']:DE:=fun _ m Q=>Q 'ƨ' m
def tK['ǻ']['Ŏ']{v:V}(h:'ɂ' (tC v))(r:∀ Z m H,'啅'):'ɂ' (LE X.K (aC p)) :=
 PE.imp h fun s H Q ⟨Z,d,m,R,ok,rs,h2,k⟩=>k _ m v H h2 'ˢ' (r Z m H)
def le_int{i:Int}{j:Nat}:PE X '尡' ('A' (aC (.int i))):=tK SI '僻'
def zp4['Ʌ']{j:Nat}:PE X '对' ('A' (aC (.bool b))):=tK JN '僻'
def zi2{j:Nat}:PE X '岻' ('A' (aC .none)):=tK Q8 '僻'
def FF{x:Str}{j:Nat}:PE X '尢' ('A' (aC (.str x))):=tK HB '僻'
section E
section
variable {X:Cx}{pins:'6'}{σ:L2.St}{H:Hp}{s:Shared}{Z:'1'}{m:Mu}
mutual
theorem RP.reads0['=']:∀ (p:PyData) (v:V) (u:Value),'啅'->'ć'->'弞'->'吲'
 | '$',v,u,h,r,_=>by show 'ϲ';cases r;exact⟨_,'$'⟩
 | 'ȝ',v,u,h,r,_=>by show 'ϲ';cases r;exact⟨_,'ȝ'⟩
 | '[',v,u,h,r,_=>by show 'ϲ';show 'Ҫ';exact '廙'
 | 'Ě',v,u,h,r,_=>by show 'ϲ';show 'Ҫ';exact '廚'
 | 'á',v,u,h,r,nd=>by
  show '乛';show '抾'
  cases r
  show '憕';obtain⟨as,q⟩:='孖';exact '媊'
 | '҉',v,u,h,r,nd=>by
  show '乛';obtain⟨a,vs,rfl,_,h2,h3⟩:=h
  cases r
  obtain⟨its,rv,⟨o,n,e,c,_,d⟩,_⟩:=I.list h2;obtain⟨as,q⟩:='孖';exact⟨_,'{' e c d 'п'⟩
 | 'ï',v,u,h,r,nd=>nomatch nd
theorem RPs.reads0['=']:∀ (xs:'(') (vs:'-') (us:'5'),RPs 'Ʒ' '½'->'ə'->PyData.hasDictAll xs=false->'字'
 | [],vs,us,h,r,_=>by show '勸';cases r;exact '怿'
 | 'X',vs,us,h,r,nd=>by
  simp only[PyData.hasDictAll,Bool.or_eq_false_iff]at nd;show 'ɹ';show '择'
  cases r with
  | cons r1 r2 =>
   obtain⟨as,q1⟩:=RP.reads0 I x v _ h1 r1 nd.1;obtain⟨bs,q2⟩:=RPs.reads0 I xs w _ h2 r2 nd.2;exact '巟'
end
def RP.reads['=']['Ⱥ'](v:V)['亼'](h:'啅')(r:'ć')(nd:'弞':=by first | assumption | (refine PyData.hasDict_of_canLay _ ?_;assumption)):'吲':=RP.reads0 I p v u h r nd
section E
abbrev D2:=D->D->'嗪'
def bY(X:Cx)(op:'Έ')(r:D2):Prop :=
 ∀ (pins:'6') (s:Shared) (σ:L2.St) (H:Hp) (Z:'1') (m:Mu) (x y:V) (dx dy:D) (v u:Value) (R:DK) (Q:VK),'.'->'ѡ'->'ș'->'ė'->RD 'Ʒ' dx x->RD 'Ʒ' dy y->r dx dy m R ->
  ('卓')->']' (op v u) (EP X pins σ Q) X.xe s
@[simp] def aD(r:D2)['ʕ']:DE:=fun 'H'=>'s' fun x m1=>g d m1 fun y m2=>r x y m2 Q
section
variable {X:Cx}{a b c:Expr}{f g:DE}{pos:Pos}
def vC{op:'Έ'}{r:D2}(ho:bY X op r)['乨']['垲']['=']
  (h:'A' (aD r f g) σ H Q) :
  '堄' (fun v s₁=>wpAny (model X.prog X.w) X.A (eval b X.env) (fun u s₂=>wpAny (model X.prog X.w) X.A (op v u) (EP X pins σ Q) X.xe s₂) X.xe s₁) X.xe s:=by
 show '扈';refine Ez 'Ƈ' I (R:=fun x y H2=>∃ m2 dx dy,'彻'/\'偽' m2 H2/\RD 'Ҷ' dx x/\RD 'Ҷ' dy y/\r dx dy m2 R) ?_ fun v '埄' rx ry ⟨m2,dx,dy,ok2,e2,r1,r2,q⟩=>?_
 ·exact⟨Z,d,m,_,ok,rs,hf,fun 'Ȳ'=>⟨Z,d,m1,_,ok1,'§',q,fun y m2 v2 'ȯ' r2=>⟨m2,x,y,ok2,'処','Ѿ',r2,q2⟩⟩⟩
 ·exact '戮' R Q I2 ok2 rx ry r1 r2 q fun d' m' v' H' h1 h2 h3 h4=>k d' m' v' H' h1 (e2.trans h2) h3 h4
def kF{op:Operator}{r:D2}(ho:bY X (binaryOp op) r)['乨']:PE X (.BinOp a op b pos) '巠':=.mk <|
 fun 'ƽ' I h=>wpAny_BinOp '庆'
def kE['慜']:PE X '呉' '巠':=.mk <|
 fun 'ƽ' I h=>wpAny_Compare1 '庆' hm
@[simp] def aJ(f:DE):DT:=fun 'H'=>'s' fun x m1=>∃ b,x=.dat (.bool b)/\Q b m1
def LT.le{K:ad}{σ:L2.St}{H:Hp}{Q:'ѓ'}(h:LT K (aJ f) 'k'):LE K f σ H '嬝':=by
 show '扈';refine⟨Z,d,m,_,ok,rs,hf,fun x m' v H' '凧' 'ȼ'=>⟨b,?_,k b '¯' q '˥'⟩⟩;subst e;simpa only[RD,RP] using rd
def eG['慜']:PT X '呉' ('ǅ' (aJ (aD r f g))):=.mk <| by
 show 'ó';refine wpAny_isTrue_Compare1 (aM (vC ho 'Ƈ' I h.le) fun v s1 h1=>aM h1 fun u s2 h2=>aM h2 fun c s3 ⟨z,H3,I3,r3,k,e,q3⟩=>?_) hm;subst e
 cases r3
 exact wpAny_truthy_bool '彩'
def Zd(h:'Ç')(he:∀ whole,isTrue a X.env whole=(do let v <- whole;standAt a.pos;'峹'):=by show 'Đ'):PT X a ('ǅ' (aJ f)) :=
 PT.imp (RU h he) '庇'
section E
section
variable {X:Cx}{a b c:Expr}{rest:'E'}{f g:DE}{t u:DT}{pos:Pos}
@[simp] def nU(t u:DT):DT:=fun 'H'=>t d m fun k m1=>if 'ǫ' then u d m1 Q else Q false m1
@[simp] def dA(t u:DT):DT:=fun 'H'=>t d m fun k m1=>if 'ǫ' then Q true m1 else u d m1 Q
@[simp] def fV(t:DT):DT:=fun 'H'=>t d m fun k m1=>Q (!k) m1
def PW.imp['ǻ']{t t':TT}(h:PW 'Ɔ')(q:'仦'):PW 'ӟ':=.mk <| fun wh '亟' w=>h wh '亟' '侎'
def G6(ha:'伥'):PW X '峺' '侴':=T8 ha
def X8(ha:'伥'):PW X '崹' '侴':=EB ha
def VF(ha:'伥')(hb:PW X '僰' ('ǅ' u)):PW X '僢' ('ǅ' (nU t u)) :=
 PW.imp (zk1 'Ƈ') fun 'Ƕ'=>⟨Z,d,m,_,ok,rs,h,fun b '˶'=>by
  cases b with
  | true=>show '亇';exact '墵'
  | false=>show '予';exact k false '˶'⟩
def On(ha:'伥')(hb:PW X '價' ('ǅ' u)):PW X '僦' ('ǅ' (dA t u)) :=
 PW.imp (zt9 'Ƈ') fun 'Ƕ'=>⟨Z,d,m,_,ok,rs,h,fun b '˶'=>by
  cases b with
  | false=>show '予';exact '墵'
  | true=>show '亇';exact k true '˶'⟩
def V1(ha:'伥'):PT X '儡' ('ǅ' (fV t)) :=
 PT.imp (zw0 ha) fun 'Ƕ'=>⟨Z,d,m,_,ok,rs,h,fun b '˶'=>k (!b) '˶'⟩
@[simp] def gS['ʕ']:DE:=fun 'H'=>'s' fun x m1=>∃ b,x=.dat (.bool b)/\if b=true then g d m1 Q else Q (.dat (.bool false)) m1
@[simp] def pT['ʕ']:DE:=fun 'H'=>'s' fun x m1=>∃ b,x=.dat (.bool b)/\if b=true then Q (.dat (.bool true)) m1 else g d m1 Q
@[simp] def mX(f:DE):DE:=fun 'H'=>'s' fun x m1=>∃ b,x=.dat (.bool b)/\Q (.dat (.bool (!b))) m1
theorem RD.bl['¤']['Ʌ']{v:V}(h:'ǂ' (.dat (.bool b)) v):v='Ȧ':='吐'
def RD.ofBl['¤']['Ʌ']:'ǂ' (.dat (.bool b)) (.bl b):='л'
def TF{op:BoolOp}(h:'Ç'):PE X '嶄' '並':=j4 h
def Q6['Џ'](hb:PE X '僰' '侳'):PE X '僢' ('A' (gS f g)) :=
 PE.imp (C2 'Ƈ') fun 'Ƕ'=>⟨Z,d,m,_,ok,rs,h,fun '垿'=>by
  subst e;refine '廛'
  cases b with
  | true=>show '亇';exact '傠'
  | false=>show '予';exact '儁'⟩
def F7['Џ'](hb:PE X '價' '侳'):PE X '僦' ('A' (pT f g)) :=
 PE.imp (p8 'Ƈ') fun 'Ƕ'=>⟨Z,d,m,_,ok,rs,h,fun '垿'=>by
  subst e;refine '廛'
  cases b with
  | false=>show '予';exact '傠'
  | true=>show '亇';exact '儁'⟩
def u3['Џ']:PE X '儡' ('A' (mX f)) :=
 PE.imp (LU ha) fun 'Ƕ'=>⟨Z,d,m,_,ok,rs,h,fun '垿'=>by
  subst e;exact⟨b,rd.bl,'儁'⟩⟩
@[simp] def fG(t:DT)['ʕ']:DE:=fun 'H'=>t d m fun k m1=>if 'ǫ' then f d m1 Q else '囎'
def KI(hc:PT X c '侴')['乨']:PE X '帥' ('A' (fG t f g)) :=
 PE.imp (L6 hc 'Ƈ') fun 'Ƕ'=>⟨Z,d,m,_,ok,rs,h,fun b '˶'=>by
  cases b with
  | true=>show '亇';exact '傠'
  | false=>show '予';exact '傠'⟩
section E
section
variable {X:Cx}{e:Expr}{es:'E'}{f:DE}{g:DA}{pos:Pos}
@[simp] def aF:DA:=fun _ m Q=>Q [] m
@[simp] def aB(f:DE)(g:DA):DA:=fun 'H'=>'s' fun x m1=>g d m1 fun xs m2=>Q (x::xs) m2
def wS:PA X [] ('ӛ' aF):=PA.imp iN fun 'Ƕ'=>'害'
end
mutual section G
def nT(ha:'Ī')(hr:'党')['埇']:'匟' (LA X.K (aB f g)) :=
 PA.imp (hJ ha hr hs) fun 'Ƕ'=>⟨Z,d,m,_,ok,rs,h,fun 'Ȳ'=>⟨Z,d,m1,_,ok1,'§',q,fun xs m2 vs 'ȯ' r2 =>
  k 'ҏ' m2 '剠' 'ү' ⟨v,vs,rfl,'Ѿ',r2⟩⟩⟩
@[simp] def aR(g:DA):DE:=fun 'H'=>g d m fun 'ç'=>∃ ps,'喐'/\'先'/\Q 'т' m1
def AZ{j:Nat}(h:'党'):PE X '庈' ('A' (aR g)) :=
 PE.imp (Pg h) fun 'Ƕ'=>⟨Z,d,m,_,ok,rs,h,fun '坊'=>by
  have rp:='囏'
  refine⟨ '屦','ų'⟩
  have sm:Same H1 ('区' (.tup vs)):='ɳ'
  refine '妫';show 'ô';exact⟨p,vs,rfl,'ś','対'⟩⟩
@[simp] def eI(g:DA):DE:=fun 'H'=>g d m fun 'ç'=>∃ ps,'喐'/\'先'/\Q 'ʨ' m1
@[simp] def jI(g:DA):DE:=fun 'H'=>g d m fun 'ç'=>∃ ps,'喐'/\'先'/\∀ a,'刢'->'Ӝ' (aP m1 a (.l ps))
def Ih{t:TA}(h:'嚐'):PE X '喑' (fun s H Q=>t s H fun xs H1=>'Ɏ'/\∀ p,H1 p=none->X.K.lookup p=none->'˾' (upd H1 p (.lst xs))):=.mk <| by
 intro 'ʃ' hq;refine wpAny_List_spliced '墌'
 have hf:'呋':='伎'
 have hk:'僲'=none:=by
  cases e:'僲' with
  | none=>rfl
  | some o=>exact '娬'
 refine⟨ '儖','坉' (.lst xs),'姀',rfl,q _ hf hk⟩;exact⟨z,us,0,r,'ń'⟩
def eE['¤']{p:Addr}['ğ'](hp:'ǟ'):m p=none/\¬ Z p:=by
 refine⟨?_,'崉'⟩
 cases e:m p with
 | none=>rfl
 | some ds =>
  obtain⟨vs,h1,_⟩:=ok.g p ds e;rw[hp]at h1
  cases h1
def Xf(h:'党'):PE X '喑' ('A' (eI g)) :=
 PE.imp (Ih h) fun 'Ƕ'=>⟨Z,d,m,_,ok,rs,h,fun '坊'=>by
  have rp:='囏'
  refine '姾'
  have sm:Same H1 ('区' (.lst vs)):='ɳ'
  refine '妫';show 'ô';exact⟨p,vs,rfl,eE ok1 hp,'ś','対'⟩⟩
def zp1(h:'党'):PE X '喑' ('A' (jI g)) :=
 PE.imp (Ih h) fun 'Ƕ'=>⟨Z,d,m,_,ok,rs,h,fun '坊'=>by
  have rp:='囏'
  refine '姾'
  refine '˿' (q p (eE ok1 hp).1) (e1.trans (Ext.cell ok1 hp hk)) (ok1.cell hp hk rp) ⟨rfl,?_⟩;rw[bC]
  rfl⟩
section E
def WH:fillsNumberSlot 'ɕ' "mul"='ơ':=PySem.fillsNumberSlot_seq (id:='啧') (r:=some ('Ę' '廜')) '憬' '憢'
def CP:seqRepeat? 'ɕ'=pure (some ('Ę' '啧')):=by
 unfold seqRepeat?;rw['戃' (name:="__mul__") (id:="tuple.__mul__") PySem.F.slot_tuple_mul.lookup (by decide +kernel),'戃' (name:="__rmul__") (id:="tuple.__rmul__") PySem.F.slot_tuple_rmul.lookup (by decide +kernel)]
 rfl
def zg3(a:Int)(t:Tok)(l:Addr)(its:'T')['Î'](dd:'ą')(sl:'ʝ'):Meets (Builtin.«int.__rmul__» ⟨[.int a t,'Ϛ'],[]⟩) (fun _ R s=>'喯'=some {cls:='Ē',dict:=dd,data:=.seq its n,slots:=sl}/\R (.ok (.ret Value.notImplemented)) s) :=
 '之' fun '偆'=>by
  show '加';obtain⟨hl,h⟩:=hs
  wp_walk
  exact '况'
theorem An(vs:'5'):∀ (n:Nat) (acc:'5'),('劶' vs.toArray).foldl (·++·) acc.toArray=(acc++'宴').toArray
 | 0,acc=>'Q'
 | n+1,acc=>by
  rw[List.replicate_succ,List.foldl_cons,List.replicate_succ,List.flatten_cons];have:=An vs n (acc++vs)
  rw[<- List.append_assoc,<- this];simp
theorem uF['Ϸ']:∀ n:Nat,'嵈'.flatten.length=xs.length*n
 | 0=>'Q'
 | n+1=>by rw[List.replicate_succ,List.flatten_cons,List.length_append,uF xs n,Nat.mul_succ,Nat.add_comm]
def p9(t:Addr)(its:'T')(k:Int)(tok:Tok)(h1:its.size≠0)['捝'](h4:'廝'<=sizeLine):Meets (Builtin.«tuple.__mul__» ⟨['Ϙ',.int k tok],[]⟩)
  (fun _ R s=>'乷' t its/\R '嫋' {s with heap:=s.heap.push {cls:='Ē',data:=.seq ('僁')}}) :=
 '之' fun '偆'=>by
  obtain⟨ht,h⟩:=hs;show '<' (asIndex (.int k tok)>>=_) _ _ _
  refine 'ȑ';show '<' (if (decide (k < -(2^63))||decide (k ≥ 2^63))=true then _ else _) _ _ _
  rw['崊']
  show '偩' _ _ _
  refine 'ӻ';have e1:its.isEmpty=false:=by
   rw[Array.isEmpty_eq_false_iff];show 'P';exact h1 rfl
  have e2:(k==1)=false:=by
   rw[beq_eq_false_iff_ne];omega
  show '<' (if (its.isEmpty||k==1)=true then _ else _) _ _ _
  rw[e1,e2,'冀']
  show '<' (if (decide (k<=0)||false)=true then _ else _) _ _ _
  rw['崊']
  have hk:'咋'=(('廝':Nat):Int):=by
   push_cast
   rw[Int.toNat_of_nonneg '%']
  have hs:=gX
  show '<' (if ((its.size:Nat):Int)*k > (2^63-1) / 8 then _ else _) _ _ _
  rw[if_neg ?c1]
  case c1 =>
   rw[hk];have:'喊'<='凑':='U'
   omega
  show '<' (if (decide (((its.size:Nat):Int)*k > (sizeLine:Int)))=true then _ else _) _ _ _
  rw[if_neg ?c2]
  case c2 =>
   rw[hk];intro q;have q':='巡'
   omega
  show '<' (Builtin.Tuple.tupleExact ((List.replicate k.toNat its).foldl (·++·) #[])>>=_) _ _ _
  refine '勛' (wpAny_newObj_type (af ⟨_,rfl,h⟩) ?_);show('僁').size<=sizeLine
  have e:=An its.toList k.toNat []
  rw[List.nil_append]at e;have e':'僁'=('力' its.toList).flatten.toArray:=e
  rw[e',ay,uF,Array.length_toList];exact h4
theorem Vals.rep['勨']:∀ n:Nat,Vals '宵' ('劶' us).flatten
 | 0=>.nil
 | n+1=>by
  show '剸';exact h.append (Vals.rep h n)
theorem RPs.rep['勫']:'壆'
 | 0=>'丕'
 | n+1=>by
  show '剸';exact h.append (RPs.rep h n)
section
variable {X:Cx}
def LC['垲']['乵']{k:Int}{t:Tok}['='](ha:'冝')(h1:'剝')['捝'](h4:'吢')
  (q:∀ p,'ǟ'->'˾' (upd H p (.tup (List.replicate k.toNat xs).flatten))):']' (binaryOp .Mult (.ref a) (.int k t)) (EP X pins σ Q) X.xe s:=by
 obtain⟨its,r,p,hz⟩:='噕';have hl:=r.length
 obtain⟨⟨cls,dd,data,sl⟩,ho,hc,n,hd⟩:=id p;show '抡';refine wpAny_binaryOp_repeat_ref (T:='â') (U:='ɲ') '&' 'Χ' '寻' WH PySem.F.fills_int_mul PySem.F.slot_int_rmul CP PySem.F.slot_int_index.lookup
  (call_meets PySem.F.slot_int_rmul '席' PySem.F.entry_int_rmul (PySem.F.args_int_rmul_2 _ _) (zg3 k t 'ɽ' n dd sl) ⟨ho,rfl,'Χ',call_meets PySem.F.slot_tuple_mul 'Χ' PySem.F.entry_tuple_mul (PySem.F.args_tuple_mul_2 _ _) (p9 'ɽ' k t ?_ h2 h3 ?_) ⟨p,?_⟩⟩)
 ·show 'ʍ';intro e;exact h1 (List.length_eq_zero_iff.mp e)
 ·show 'ʍ';exact h4
 ·have e:=An its k.toNat []
  rw[List.nil_append]at e;rw[e];exact⟨ 'Ř',_,'ˡ' (o:=.tup (List.replicate k.toNat xs).flatten) (fun b ob q=>ah _ q) (ak _) ⟨⟨by rw[uF];exact h4,NoD.new _ _ _⟩,_,Vals.rep r k.toNat,IsTup.new _ _⟩,rfl,'仴'⟩
section E
@[simp] def bT:D2
 | '¦','Ǚ',m,Q=>Q (.dat (.int (i+j))) m
 | 'ј','љ',m,Q=>'吣'/\Q (.dat (.str (a++b))) m
 | '弟',.dat ('4' b),m,Q=>'吣'/\Q (.dat ('4' (a++b))) m
 | .dat ('{' a),'彼',m,Q=>'妚'
 | 'ã','彼',m,Q=>∃ a,m c=some (.l a)/\'妚'
 | _,_,_,_=>False
@[simp] def fI:D2
 | '¦','Ǚ',m,Q=>Q (.dat (.int (i-j))) m
 | _,_,_,_=>False
@[simp] def bZ:D2
 | '¦','Ǚ',m,Q=>'佩'/\Q (.dat (.int (i*j))) m
 | '弟','営',m,Q=>a≠[]/\2<=k/\k<=100/\a.length*k.toNat<=sizeLine/\Q (.dat ('4' ('力' a).flatten)) m
 | _,_,_,_=>False
@[simp] def iO:D2
 | '¦','Ǚ',m,Q=>j≠0/\j.natAbs.log2<9000/\Q (.dat (.int (i.fdiv j))) m
 | _,_,_,_=>False
@[simp] def fB:D2
 | '¦','Ǚ',m,Q=>j≠0/\Q (.dat ('式')) m
 | _,_,_,_=>False
@[simp] def rY:D2
 | '¦','Ǚ',m,Q=>('孒')/\Q (.dat ('廑')) m
 | _,_,_,_=>False
@[simp] def eV:D2
 | '¦','Ǚ',m,Q=>Q (.dat ('N' ('嗝'))) m
 | _,_,_,_=>False
@[simp] def lP:D2
 | '¦','Ǚ',m,Q=>Q (.dat ('N' '弒')) m
 | _,_,_,_=>False
@[simp] def kW:D2
 | '¦','Ǚ',m,Q=>Q (.dat ('N' '彯')) m
 | _,_,_,_=>False
@[simp] def bJ:D2
 | 'ј','љ',m,Q=>Q (.dat ('N' ('丒'))) m
 | 'Ô','乌',m,Q=>'壇'
 | _,_,_,_=>False
@[simp] def eO:D2
 | 'ј','љ',m,Q=>Q (.dat ('N' (! '丒'))) m
 | 'Ô','乌',m,Q=>'壀'
 | _,_,_,_=>False
section
variable {X:Cx}
theorem RD.int['¤']{i:Int}{v:V}(h:'ǂ' (.dat (.int i)) v):v='[':='吐'
def RD.ofInt['¤']{i:Int}:'ǂ' (.dat (.int i)) (.int i):='л'
theorem RD.str['¤']{i:Str}{v:V}(h:'ǂ' (.dat (.str i)) v):v='久':='吐'
def RD.ofStr['¤']{i:Str}:'ǂ' (.dat (.str i)) (.str i):='л'
def zc1:bY X '弍' fI:=by
 show 'Â';unfold fI at h
 show 'j'
 ·show 'ˠ'
  exact AD 'Ĝ' '姰'
 show '|'
def Xj:bY X '唿' bZ:=by
 show 'Â';unfold bZ at h
 show 'j'
 ·show 'ˠ'
  show '乭';exact mul_int ⟨ '¶',H,'þ','3','召'⟩ h.1
 ·rename_i a j;obtain⟨h1,h2,h3,h4,h5⟩:=h
  cases r2.int
  simp only[RD,RP]at r1;obtain⟨p,vs,rfl,g1,g2⟩:=r1
  cases rx
  show 'ÿ';have hl:=g2.length
  refine LC I g1 (fun e=>h1 ?_) h2 h3 (by rw[hl];exact h4) '嗫'
  ·subst e
   cases a with
   | nil=>rfl
   | cons _ _=>simp at hl
  ·have sm:'ŧ' (upd H t (.tup (List.replicate j.toNat vs).flatten)):=cE ht
   refine '亢' h5 (ok.ext sm) (ok.grow sm) ?_;show 'ô';exact⟨t,_,rfl,'ś','假' (g2.rep _)⟩
 show '|'
def zk7:bY X (binaryOp .FloorDiv) iO:=by
 show 'Â';unfold iO at h
 show 'j'
 ·show 'ˠ'
  show '乭';exact floordiv_int h.1 ⟨ '¶',H,'þ','3','乬' h.2.2 Ext.refl ok .ofInt⟩ (.inl (PyProof.noPylong_of_log2 h.2.1))
 show '|'
def zu3:bY X '弎' fB:=by
 show 'Â';unfold fB at h
 show 'j'
 ·show 'ˠ'
  exact F1 'Ĝ' '妛'
 show '|'
def QU:bY X '弐' rY:=by
 show 'Â';unfold rY at h
 show 'j'
 ·show 'ˠ'
  exact Wg 'Ĝ' '妛'
 show '|'
def vW:bY X '弑' eV:=by
 show 'Â';unfold eV at h
 show 'j'
 ·show 'ˠ'
  exact ZF 'Ĝ' '厃'
 show '|'
def Ea:bY X '廒' lP:=by
 show 'Â';unfold lP at h
 show 'j'
 ·show 'ˠ'
  exact UD 'Ĝ' '厃'
 show '|'
def Mz:bY X '弓' kW:=by
 show 'Â';unfold kW at h
 show 'j'
 ·show 'ˠ'
  exact W3 'Ĝ' '厃'
 show '|'
def Rq['Ǹ']:bY X '啞' bJ:=by
 show 'Â';unfold bJ at h
 show 'j'
 ·show '垅'
  refine DZ 'Ĝ' '£';have e:'姘':=fun a b=>by
   show '傈'
  rw[e];exact 'Э'
 ·show '愯';exact '墚'
 show '|'
def Kj['Ǹ']:bY X '哯' eO:=by
 show 'Â';unfold eO at h
 show 'j'
 ·show '垅'
  refine Yb 'Ĝ' '£';have e:'姘':=fun a b=>by
   show '傈'
  rw[e];exact 'Э'
 ·show '愯';exact '墛'
 show '|'
def VE['垲']{a b:Addr}{ys:'-'}['='](ha:'亐' a [])(hb:'亐' b ys)(q:Q 'ψ' H) :
  ']' (binaryOp .Add (.ref a) (.ref b)) (EP X pins σ Q) X.xe s:=by
 show '慎'
 cases r1
 obtain⟨⟨cls,dd,data,sl⟩,ho,hc,n,hd⟩:=id p1;obtain⟨⟨cls2,dd2,data2,sl2⟩,ho2,hc2,n2,hd2⟩:=id p2;show '圢';exact '国'
   (tuple_addW0 a b _ _ n n2 dd dd2 sl sl2 (by simp)) ⟨ho,ho2,⟨.ref b,H,I,rfl,q⟩⟩
def Pe:'匊' (fun x y H Q=>∃ a b xs ys,x=.ref a/\y=.ref b/\SqL X.K H a xs/\SqL X.K H b ys/\xs.length+ys.length<=sizeLine/\∀ p,H p=none->Q (.ref p) (upd H p (.lst (xs++ys)))):=by
 show '˛';obtain⟨a,b,xs,ys,rfl,rfl,ha,hb,hz,q⟩:=h
 cases rx
 cases ry
 obtain⟨its,r1,p1,_⟩:=I.list ha;obtain⟨its2,r2,p2,_⟩:=I.list hb;obtain⟨⟨cls,dd,data,sl⟩,ho,hc,n,hd⟩:=id p1.isList;obtain⟨⟨cls2,dd2,data2,sl2⟩,ho2,hc2,n2,hd2⟩:=id p2.isList;show '圢';have l1:=r1.length
 have l2:=r2.length
 have e:its.toArray++its2.toArray=(its++its2).toArray:='Q'
 refine concat_meets 'Χ' '册' noFill_list_add seq_list_add PySem.F.slot_list_add PySem.F.entry_list_add (PySem.F.args_list_add_2 _ _)
   (list_addW a b its.toArray its2.toArray '拥' ('帬')) '弙'
 rw[e];exact⟨ 'Ř',_,'ˡ' (o:=.lst (xs++ys)) (fun b ob q=>ah _ q) (ak _) ⟨by rw[List.length_append];omega,_,0,r1.append r2,ai _ rfl⟩,rfl,'仴'⟩
def HM:bY X '伴' bT:=by
 show 'Â';unfold bT at h
 show 'j'
 ·show 'ˠ'
  exact NQ 'Ĝ' '姰'
 ·show '垅'
  exact Xb 'Ĝ' ⟨_,_,rfl,rfl,h.1,'埚' .ofStr⟩
 ·show '戄';obtain⟨p,vs,rfl,h1,h2⟩:=r1;obtain⟨q,ws,rfl,g1,g2⟩:=r2;have l1:=h2.length
  show '堥'
  by_cases e1:a=[]
  ·subst e1;simp only[RPs]at h2;subst h2
   cases rx;cases ry
   refine VE I h1 g1 ('寛');show 'ô';exact⟨q,ws,rfl,g1,by simpa using g2⟩
  ·refine DW 'Ĝ' ⟨p,q,vs,ws,rfl,rfl,h1,g1,?_,')',fun e2=>?_,fun e2 t ht=>?_⟩
   ·show 'P'
    cases a with
    | nil=>exact e1 rfl
    | cons _ _=>simp at l1
   ·subst e2;have e3:b=[]:=by cases b with | nil=>rfl | cons _ _=>simp at l2
    subst e3;refine '寛';show 'ô';exact⟨p,vs,rfl,h1,'公'⟩
   ·have sm:'ŧ' (upd H t (.tup (vs++ws))):=cE ht
    refine '婨';show 'ô';exact⟨t,_,rfl,'ś','媡'⟩
 ·show '戄';obtain⟨p,vs,rfl,h0,h1,h2⟩:=r1;obtain⟨q,ws,rfl,g0,g1,g2⟩:=r2;have l1:=h2.length
  show '堥'
  refine Pe 'Ĝ' ⟨p,q,vs,ws,rfl,rfl,h1,g1,')','嗫'⟩
  have sm:'嬴':=cE ht
  refine '婨';show 'ô';exact⟨t,_,rfl,eE ok ht,'ś','媡'⟩
 ·rename_i c b;obtain⟨aa,hm,hz,hq⟩:=h;show '埑';obtain⟨vs,g0,g3⟩:='ґ';simp only[RD,RP]at r2;obtain⟨q,ws,rfl,_,g1,g2⟩:=r2;have l1:=g3.length
  show '堥'
  refine Pe 'Ĝ' ⟨c,q,vs,ws,rfl,rfl,'彿',g1,')','嗫'⟩
  have sm:'嬴':=cE ht
  refine '亢' hq (ok.ext sm) (ok.grow sm) ?_;show 'ô';exact⟨t,_,rfl,eE ok ht,'ś','假' (g3.append g2)⟩
 show '|'
section E
section
variable {X:Cx}{a b c e:Expr}{es:'E'}{f g:DE}{ga:DA}{pos p2 p:Pos}
@[simp] def cT(f:DE):DE:=fun 'H'=>'s' fun x m1=>∃ i,x=.dat (.int i)/\Q (.dat (.int (-i))) m1
def KW['Џ']:PE X ('囆' .USub a pos) ('A' (cT f)) :=
 PE.imp (zh2 BD ha) fun 'Ú'=>by
  show '挀';exact⟨i,rd.int,'寿'⟩
@[simp] def aG:D2
 | 'ɓ','¦',m,Q=>∃ p,'向'
 | 'ю','¦',m,Q=>∃ p,'向'
 | 'Õ','¦',m,Q=>∃ xs p,'冂'/\'向'
 | 'Ŝ','¦',m,Q=>∃ c,'Ԗ'/\'岏'/\Q (.dat ('啡')) m
 | _,_,_,_=>False
theorem RPs.at['圑']{i:Int}['Ŏ'](h:'ê')(e:'往'):∃ v,bP vs i='y'/\'ă':=by
 unfold bP at e ⊢;rw[h.length]
 cases q:'喌' with
 | none=>rw[q]at e;cases e
 | some j =>
  rw[q]at e;exact h.get (i:=j) e
def A3['乨'](hs:De b:=by exact 'ŵ'):PE X '嶋' ('A' (aD aG f g)) :=
 PE.imp (PH ON 'Ƈ' hs) fun 'Ú'=>by
  show 'ƃ';refine⟨Z,d,m,_,ok,rs,h,fun x '云' rx=>⟨Z,d,m1,_,ok1,'§',q,fun y m2 w 'ȯ' ry=>?_⟩⟩;have rx2:=rx.ext e2
  have e12:='処'
  unfold aG at q2
  split at q2
  ·obtain⟨p,ep,q⟩:=q2
   cases ry.int
   simp only[RD,RP]at rx2;obtain⟨a,vs,rfl,h1,h2⟩:=rx2;show '垂';exact .inr ('奮')
  ·obtain⟨p,ep,q⟩:=q2
   cases ry.int
   simp only[RD,RP]at rx2;obtain⟨a,vs,rfl,_,h1,h2⟩:=rx2;show '垂';exact '奮'
  ·obtain⟨xs,p,hm,ep,q⟩:=q2
   cases ry.int
   obtain⟨rfl,_⟩:=rx2;obtain⟨vs,h1,h2⟩:='剂';show '垂';exact .inl ⟨_,vs,_,z,rfl,rfl,'冢',ez,'岕'⟩
  ·obtain⟨c,hz,ec,q⟩:=q2
   cases ry.int
   cases rx2.str
   exact .inr (.inr ⟨_,_,c,rfl,rfl,hz,ec,'偝' q e12 ok2 .ofStr⟩)
  ·exact q2.elim
abbrev DO:=aS->Mu->('¡'->'Ż')->Prop
inductive LO (K:ad) (f:DO) ['Ͼ'] (Q:'咺'):Prop
 | mk ['乩'] (R:'¡'->'Ż') ['勪'] (k:∀ x m' H',R x m'->'Ñ'->'ŝ'->Q x H'):LO '匨'
@[simp] def eD:DO:=fun _ m Q=>Q none m
@[simp] def dH(f:DE):DO:=fun 'H'=>'s' fun x m1=>∃ i,x=.dat (.int i)/\Q (some i) m1
end
mutual section G
def PO.imp{e:'丠'}{t t':TO}(h:PO 'Ɔ')(q:'仦'):PO 'ӟ':='印'
def IE:PO X none (LO X.K eD):=PO.imp KO fun 'Ú'=>by
 show 'ƃ';exact k none m '匼'
def zf5['Џ']:PO X (some a) (LO X.K (dH f)):=PO.imp (MS ha) fun 'Ú'=>by
 show '挀';exact⟨i,rd.int,k _ '˶'⟩
def cD['Ϸ']['І']:'¹':='墤'
def Lj['Ϸ']['І']:('侏').length<=xs.length:=by
 unfold cD;show '憾'
def RPs.cut['圑']['包'](h:'ê'):'å' (cD xs lo hi) (gZ vs lo hi):=by
 unfold cD gZ;rw[h.length];exact(h.drop _).take _
def Eg['Ϸ']['包'](h:'卭'):'侏'=xs:=by
 unfold cD;rw[h.1,h.2];simp
def X4(K:ad):'ͷ':=fun 'Ӏ'=>∃ a xs,'ź'/\'Ǜ' /\
 ('卭')/\Q 'Ê' H
def YE['倽']['匉']['愨']
  (hw:'和'=0/\'孙'=items.size)
  (h:'嗠'):'傴':=by
 show '劀'
 unfold getItem
 show '劕'
 show '劣'
 refine '傿'
 refine ae ('剷'
  (wpAny_call_entry PyProof.Rows.slot_tuple_getitem ht.typeIs entry_tuple_getitem ?_ (args_tuple_getitem _ _)))
 show '偩' _ _ s
 show '劒'
 refine ae (HT.sliceApplied_gen '傀' ?_);have hyes:'塦':=by
  rw[hw.1,hw.2];simp
 show '<' (if (((HT.sIx items.size 0 lo:Nat):Int)==0&&(1:Int)==1&&(HT.sIx items.size items.size hi-HT.sIx items.size 0 lo)==items.size)=true then _ else _) _ _ s
 rw[if_pos hyes];show '憭';refine ae (wpAny_typeOf ht.typeIs 'Ȝ');rw['ʣ']
 first
  | exact ae (wpAny_rule '咝')
  | exact ae (wpAny_rule (ae '启'))
def K1:SlR X (X4 X.K):=by
 show '懖'
 cases rx
 show '慮'
 refine '夜';exact YE ht '傀' '崄' ⟨ 'Ʈ',H,I,rfl,q⟩
abbrev DC:='Á'->'嗪'
def CallD(X:Cx)(fn:Value)(r:DC):Prop :=
 ∀ (pins:'6') (s:Shared) (σ:L2.St) (H:Hp) (Z:'1') (m:Mu) (xs:'-') (ds:'Á') (us:'5') (R:DK) (Q:VK),'.'->'ѡ'->'ì'->'匰' ds xs->'囑' ->
  ('卓')->']' (call fn us) (EP X pins σ Q) X.xe s
def CallD.cr{fn:Value}{r:DC}(h:'Ƚ' fn r):'ǁ' fn (fun vs H Q=>∃ Z m ds R,Ok X.K Z m H/\RDs X.K Z m H ds vs/\r ds m R/\∀ d m' v' H',R d m'->Ext X.K Z m H m' H'->Ok X.K Z m' H'->RD X.K Z m' H' d v'->Q v' H'):=by
 intro '乣' r1 ⟨Z,m,ds,R,ok,rd,q,k⟩;exact h '愐' I ok r1 rd q k
@[simp] def bG(r:DC)(g:DA):DE:=fun 'H'=>g d m fun 'ç'=>r 'ç' Q
def LE.call{r:DC}{H:Hp}{σ:L2.St}{Q:VK}(h:'A' (bG r ga) σ H Q) :
  'ӛ' ga σ H fun vs H1=>∃ Z m ds R,Ok X.K Z m H1/\RDs X.K Z m H1 ds vs/\r ds m R/\∀ d m' v' H',R d m'->Ext X.K Z m H1 m' H'->Ok X.K Z m' H'->RD X.K Z m' H' d v'->Q v' H':=by
 show 'ƃ';exact⟨Z,d,m,_,ok,rs,h,fun 'ç' vs 'ϫ' r1=>⟨Z,m1,xs,R,ok1,r1,q,'夬'⟩⟩
def sV{x:Str}{id:String}{r:DC}(hc:'Ƚ' (.builtin id) r)['捗']['仁']['劖']:'奯' :=
 PE.imp (Sy '懒') '巢'
def rW{x:Str}{T:String}{r:DC}(hc:'Ƚ' (.type T) r)['劦'](hv:'宧')['仁']['劖']:'奯' :=
 PE.imp (N4 '懒') '巢'
def RDs.one['¤']{x:D}['Ј'](h:'井' [x] vs):∃ v,vs=[v]/\'Ɣ':=by
 show '圈'
 cases (show r=[] from h3)
 exact '忟'
def RDs.two['¤']{x y:D}['Ј'](h:'井' [x,y] vs):∃ v w,vs=[v,w]/\'Ɣ'/\'ǂ' y w:=by
 show '圈';obtain⟨w,rfl,h4⟩:=RDs.one h3;exact⟨v,w,h1,h2,h4⟩
@[simp] def cC:DC
 | ['ɓ'],m,Q=>'吤'
 | ['ю'],m,Q=>'吤'
 | ['Ŝ'],m,Q=>'Ԗ'/\Q (.dat ('喭')) m
 | '俶',m,Q=>∃ xs,'冂'/\'吤'
 | _,_,_=>False
def G5:'Ƚ' (.builtin "len") cC:=by
 show 'Ϫ';unfold cC at h
 show 'j'
 ·show 'ȭ';show '圖';refine wK 'ƺ' ⟨a,vs,rfl,'倅',?_⟩;show '亸';exact '僩'
 ·show '堋';refine wK 'ƺ' ⟨a,vs,rfl,'Ғ',?_⟩;show '亸';exact '僩'
 ·show 'ȭ'
  show '˴'
  exact HH 'ƺ' ⟨_,rfl,h.1,'召'⟩
 ·show '圂';refine wK 'ƺ' ⟨_,vs,rfl,'咠',?_⟩;show '亸';exact '宆'
 show '|'
@[simp] def qQ:DC
 | ['¦'],m,Q=>Q (.dat ('同')) m
 | _,_,_=>False
def N0:'Ƚ' (.builtin "abs") qQ:=by
 show 'Ϫ';unfold qQ at h
 show 'j'
 ·show 'ȭ'
  cases r1.int
  exact UE 'ƺ' '厖'
 show '|'
@[simp] def nJ:DC
 | ['¦'],m,Q=>Q ('¦') m
 | ['ʰ'],m,Q=>Q (.dat (.int ('哴'))) m
 | _,_,_=>False
def zf1:'Ƚ' (.type "int") nJ:=by
 show 'Ϫ';unfold nJ at h
 show 'j'
 ·show 'ȭ'
  cases r1.int
  exact Ro 'ƺ' (.inl '厖')
 ·show 'ȭ'
  cases r1.bl
  exact Ro 'ƺ' (.inr '厖')
 show '|'
@[simp] def qA:DC
 | ['ɓ'],m,Q=>'咡'
 | ['ю'],m,Q=>'咡'
 | _,_,_=>False
def j9:'Ƚ' (.type "list") qA:=by
 show 'Ϫ';unfold qA at h
 show 'j'
 ·show 'ȭ';show '圖';refine uR 'ƺ' ⟨a,vs,rfl,'倅','佭'⟩;show '堀'
  show '埗';exact '卫'
 ·show '堋';refine uR 'ƺ' ⟨a,vs,rfl,'Ғ','佭'⟩;show '堀'
  show '埗';exact '卫'
 show '|'
section E
section
variable {X:Cx}{st:Stmt}{rest body orelse:'¬'}{t u b:DS}{e c tg iter:Expr}{f:DE}{tc:DT}{pos:Pos}
@[simp] def aH:DS:=fun 'ŕ'=>'剃'
@[simp] def aE(t u:DS):DS:=fun 'ŕ'=>t {E with nx:=u E} d m
def zp7:'Ū' [] (LS X.K aH):=PSs.imp Ry fun 'Ŧ'=>by
 show 'Ȯ';exact '尳'
def zq7(h1:PS X st ('Û' t))(h2:'Ū' rest (LS X.K u)):'Ū' (st::rest) (LS X.K (aE t u)):=PSs.imp (uL '~') fun 'Ŧ'=>by
 show '圭';refine⟨Z,d,m,_,ok,rs,h,fun '埯' rs1=>⟨Z,d',m',R,ok1,rs1,q,?_,?_,?_,?_⟩,kr,kb,kc⟩
 ·exact '夃'
 ·exact '夶'
 ·exact '处'
 ·exact '夅'
@[simp] def jC(f:DE):DS:=fun 'ŕ'=>'s' fun _ m1=>E.nx d m1
def w5['ȿ'](hs:'婎':=by rfl):PS X '忉' ('Û' (jC f)):=PS.imp (K6 he hs) fun 'Ŧ'=>by
 show 'Ȯ';exact⟨Z,d,m,_,ok,rs,h,fun 'Ȳ'=>k d m1 s 'ϫ' '侐'⟩
@[simp] def aN(f:DE):DS:=fun 'ŕ'=>'s' E.rt
def zd3['ȿ']:PS X '峻' ('Û' (aN f)):=PS.imp (Qz he) fun 'Ŧ'=>by
 obtain⟨Z,d,m,R,ok,rs,h,_,kr,_⟩:=h;exact⟨Z,d,m,_,ok,rs,h,fun 'Ȳ'=>kr 'Ȳ'⟩
@[simp] def bH(c:DT)(t u:DS):DS:=fun 'ŕ'=>c d m fun k m1=>if 'ǫ' then t E d m1 else u E d m1
def A2(hc:'帷')(h1:'Ū' body (LS X.K t))(h2:'Ū' orelse (LS X.K u)):PS X (.If c body orelse pos) ('Û' (bH tc t u)):=PS.imp (zj4 hc '~') fun 'Ŧ'=>by
 show '圭';refine⟨Z,d,m,_,ok,rs,h,fun k '˶'=>?_⟩;have mk:∀ {z:DS},z R d m1->'Û' z E s H1:=fun q=>⟨Z,d,m1,R,ok1,'§',q,
  '夃','夶',
  '处','夅'⟩
 cases k with
 | true=>exact QC (mk 'п')
 | false=>exact LH (mk 'п')
@[simp] def aO(i:Nat)(f:DE):DS:=fun 'ŕ'=>'s' fun x m1=>E.nx (d.set i (some x)) m1
def Zk['勩']{pos':Pos}['Ҳ']['ȿ']['慆']
  (hs:'奧':=by rfl) ['圜'] :
  PS X '孽' ('Û' (aO i f)):=PS.imp (Sj '偿' he hs hf) fun 'Ŧ'=>by
 show 'Ȯ';exact⟨Z,d,m,_,ok,rs,h,fun 'Ȳ'=>'匌' ((rs.ext e1).set r1)⟩
abbrev DG:=D->'寜'
abbrev kT:='('->'寜'
inductive LG (K:ad) (g:DG) (v:V) ['Ͼ'] (Q:'啨'):Prop
 | mk (Z:'1') (x:D) ['扱'] (rv:'Ɣ') (h:'В' R) (k:'墶'):LG K g v s H Q
inductive LGs (K:ad) (g:kT) (vs:'-') ['Ͼ'] (Q:'啨'):Prop
 | mk (Z:'1') (ps:'(') ['扱'] (rv:'ȅ') (h:g ps d m R) (k:'墶'):LGs K g vs s H Q
def PG.imp{t t':TG}(h:PG 'Ɔ')(q:'嬞'):PG 'ӟ':='壺'
def PGs.imp['亽']{t t':jH}(h:'些' t)(q:'嬞'):'些' t':='壺'
@[simp] def gN(i:Nat):DG:=fun x 'H'=>Q '兙' m
def OL['勩']['Ҳ']['慆']
  ['圜']:PG X 'ί' (LG X.K (gN i)):=PG.imp (OT '偿' hf) fun v 'Ú'=>by
 obtain⟨Z,x,d,m,R,ok,rs,rd,h,k⟩:=h;exact '偕' (rs.set rd)
@[simp] def cL:kT:=fun ps 'H'=>ps=[]/\Q d m
@[simp] def aY(g:DG)(r:kT):kT
 | p::qs,d,m,Q=>g 'ƨ' d m fun 'Ü'=>r qs 'Ü' Q
 | [],_,_,_=>False
def zi6:PGs X [] (LGs X.K cL):=PGs.imp zb2 fun vs 'Ú'=>by
 obtain⟨Z,ps,d,m,R,ok,rs,rp,⟨rfl,h⟩,k⟩:=h;simp only[RPs]at rp;exact⟨rp,'尳'⟩
def VT['亽']{g:DG}{r:kT}(h1:PG X e '噜')(h2:'些' (LGs X.K r))(hs:'墴':=by rfl) :
  PGs X 'Š' (LGs X.K (aY g r)):=PGs.imp (GS '~' hs) fun vs 'Ú'=>by
 obtain⟨Z,ps,d,m,R,ok,rs,rp,h,k⟩:=h
 match ps,rp,h with
 | [],_,h=>show 'h'
 | p::qs,rp,h =>
 simp only[RPs]at rp;obtain⟨v,w,rfl,r1,r2⟩:=rp;exact⟨v,w,rfl,Z,'Ô',d,m,_,ok,rs,r1,h,fun '埯' rs1=>⟨Z,qs,d',m',R,ok1,rs1,RPs.ext e1 _ _ r2,q,'夌'⟩⟩
@[simp] def gT['Î'](g:kT):DG:=fun x 'H'=>∃ ps,'Ԛ'/\'両'/\g ps 'H'
def T5['亽']{j n:Nat}{g:kT}['Ӓ'](h:'些' (LGs X.K g))['懕'] :
  PG X '庈' (LG X.K (gT n g)):=PG.imp (YA hc h hn hst) fun v 'Ú'=>by
 obtain⟨Z,x,d,m,R,ok,rs,rd,⟨ps,rfl,hl,h⟩,k⟩:=h;show '圗';exact⟨a,vs,rfl,h1,by show '亸';exact hl,Z,ps,d,m,R,ok,rs,h2,h,k⟩
@[simp] def fO(f:DE)(g:DG):DS:=fun 'ŕ'=>'s' fun x m1=>g x d m1 E.nx
def zg4{g:DG}['ȿ'](hg:'常')['慪']:PS X '嶆' ('Û' (fO f g)):=PS.imp (Bs he hg hs hw h1) fun 'Ŧ'=>by
 show 'Ȯ';exact⟨Z,d,m,_,ok,rs,h,fun 'Ȳ'=>⟨Z,x,d,m1,_,ok1,'§',r1,q,'夌'⟩⟩
@[simp] def rO(i j:Nat)(g:DA):DS:=fun 'ŕ'=>g d m fun 'ç'=>∃ x y,xs='Ʋ'/\E.nx ('兙'.set j ('Ǩ')) m1
def ze7(i j:Nat){x y:Str}{a b:Expr}{g:DA}['憥'](ha:PA X 'ƀ' ('ӛ' g))(hi:'ǖ':=by rfl)(hj:'彪':=by rfl)(hij:i≠j:=by decide)
  (hx:'厲':=by rfl) (hy:'厳':=by rfl)
  (hw:'墎':=by rfl)
  (hs:'墇':=by rfl) :
  PS X '壦' ('Û' (rO i j g)):=PS.imp (X9 hc hN hi hj hij 'œ' ha hw hs) fun 'Ŧ'=>by
 show 'Ȯ';refine⟨Z,d,m,_,ok,rs,h,fun 'ç' 'Ɖ' ⟨x,y,e,q⟩ '享'=>?_⟩;subst e;obtain⟨v,w,rfl,r1,r2⟩:=r1.two;exact⟨v,w,rfl,'匌' (((rs.ext e1).set r1).set r2)⟩
@[simp] def nX(fo fi f:DE):DS:=fun 'ŕ'=>'s' fun x m1=>fo d m1 fun o m2=>fi d m2 fun i m3 =>
 ∃ a k xs j p,o=.cel a/\i=.dat (.int k)/\x=.dat p/\m3 a=some (.l xs)/\dW xs.length k=some j/\E.nx d (aP m3 a (.l (xs.set j p)))
def QI{o i:Expr}{fo fi:DE}{tpos:Pos}['ȿ']['仂'](hi:'Ι')
  (ha:∀ v,assign ('м') X.env v=(do
   let ov <- '尥'
   let iv <- '宥'
   standAt tpos
   '嫢'
   '嶅'):=by show 'Đ')
  (hs:swapsWithSole ['м'] e 'ɼ'='ơ':=by rfl) (hw:swappedStores ['м'] 'ӆ'='ѽ':=by rfl)
  (h1:(assignEach ['м'] X.env).map 'Ư'=[assign ('м') X.env]:=by rfl):PS X '厾' ('Û' (nX fo fi f)) :=
 PS.imp (Bs he (zp5 ho hi ZR ha) hs hw h1) fun 'Ŧ'=>by
 show 'Ȯ';refine⟨Z,d,m,_,ok,rs,h,fun 'Ȳ'=>⟨Z,d,m1,_,ok1,'§',q,fun o '乻'=>⟨Z,d,m2,_,ok2,'ʦ',q2,fun i '埵'=>?_⟩⟩⟩;obtain⟨a,k',xs,j,p,rfl,rfl,rfl,hm,hj,q⟩:=q3
 cases r3.int
 show '垜';obtain⟨vs,g1,g2⟩:=ok3.l hm;have r1':='嶙'
 refine⟨a,vs,k',j,rfl,rfl,g1,by rw[g2.length];exact hj,?_⟩
 have e4:Ext 'Һ' '尀' ('Ͱ' a (.lst (vs.set j v))):='唡'
 exact '勴' (e1.trans (e2.trans (e3.trans e4))) (ok3.put hm g1 (g2.set r1')) ((rs.ext e1).ext (e2.trans (e3.trans e4)))
def wG(c:DT)(b:DS):DS:=fun 'ŕ'=>∃ W:Nat->'Ą',(∃ n,W n d m)/\∀ n d m,W n d m ->
 c d m fun k m1=>if 'ǫ' then ∃ N:'Ą',(∀ d' m',N 'Ü'->∃ n',n'<n/\W n' 'Ü')/\b {E with nx:=N,ct:=N,bk:=E.nx} d m1 else 'Л' m1
def zm6(hp:'僆')(hc:'帷')(hb:'嵉'):PS X '峼' ('Û' (wG tc b)):=PS.imp (O7 hp hc hb) fun 'Ŧ'=>by
 obtain⟨Z,d,m,R,ok,rs,⟨W,⟨n0,w0⟩,turn⟩,kn,kr,kb,kc⟩:=h;refine⟨fun n 'ǉ'=>∃ d' m','к'/\'ʯ'/\'儶'/\W n 'Ü',⟨n0,d,m,Ext.refl,ok,rs,w0⟩,?_⟩;rintro n s1 H1 ⟨d1,m1,e1,ok1,rs1,w1⟩;refine⟨Z,d1,m1,_,ok1,rs1,turn n d1 m1 w1,fun k 'ū' q e2 ok2=>?_⟩
 cases k with
 | false =>
  show '予';exact kn d1 m2 s1 H2 q '亗' (rs1.ext e2)
 | true =>
  show '亇';obtain⟨N,hN,q⟩:=q;refine⟨fun 'ǉ'=>∃ d' m','к'/\'ʯ'/\'儶'/\N 'Ü',fun 'ǉ' '峄'=>?_,?_⟩
  ·obtain⟨n',hn,w⟩:=hN 'Ü' g4;exact⟨n',hn,d',m',g1,g2,g3,w⟩
  ·have e12:='処'
   exact⟨Z,d1,m2,_,ok2,rs1.ext e2,q,'夢',fun x m3 v '乤' r3=>kr x m3 v '挾' r3,
    fun '垇'=>kn d3 m3 s3 '挾' rs3,'夢'⟩
end
mutual section G
abbrev DI:='嬳'
def Yld['ĝ'](x:D)(v:V)(H2 H3:Hp):Prop :=
 (H3=H2/\'Ɣ')\/∃ p ps vs,'Ԛ'/\v='ɪ'/\H2 p=none/\H3='К' p (.tup vs)/\'ȅ'
def Yld.same['匍']{H H2 H3:Hp}['Љ'](h:'咢'):Same H2 H3:=by
 rcases h with⟨rfl,_⟩ | ⟨p,ps,vs,_,_,hp,rfl,_⟩
 ·exact '凊'
 ·exact 'ɳ'
def Yld.rd['坒']{H H2 H3:Hp}['Љ'](tr:∀ d v,'役'->RD '傚' H2 d v)(ok:Ok '傚' H2)(h:'咢'):RD '傚' H3 x v:=by
 rcases h with⟨rfl,h⟩ | ⟨p,ps,vs,rfl,rfl,hp,rfl,h⟩
 ·exact tr 'Ȁ'
 ·have h2:=RPs.lift (fun 'Ɗ'=>tr 'ƨ' v q) h
  show 'ô';exact⟨p,vs,rfl,'ś',RPs.ext (ok.ext ('ɳ')) _ _ h2⟩
structure ExtY ['ĝ'] ['堠']:Prop where
 t:'ͺ'
 l:'夝'
 fz:'ʖ'
def Ext.y['坡']['З']:'帹':='帺'
def mV['ĝ'](xs:'Á')(J:It):Prop:=∀ m2 H2,ExtY '×' 'ū' ->
 (∀ (i:Nat) (x:D),'ȉ'->J.go i H2/\∀ v H3,J.yld i H2 v H3->'咢')/\J.stop xs.length H2
inductive LI (K:ad) (fi:DI) ['Ͼ'] (R:'佧'):Prop
 | mk ['乩'] (ZZ:'啄') ['劊'] (h:'Ʉ' ZZ) (k:∀ xs m' H' J,ZZ xs m'->'Ñ'->'ŝ'->mV 'Ķ' xs J->R J H'):LI K fi s H R
@[simp] def bO(f:DE):DI:=fun 'H'=>'s' fun x m1=>(∃ ps,x=.dat (.list ps)/\Q (ps.map .dat) m1)\/(∃ ps,x=.dat (.tuple ps)/\Q (ps.map .dat) m1)
def PI.imp{t t':TI}(h:'˺' e t)(q:∀ s H R,t' s H R->t s H R):'˺' e t':=.mk <| fun 'ҵ' R I w=>h 'ҵ' R I '侎'
def oA['˻']{i:Nat}{x:D}(h:(ps.map D.dat)[i]?='x'):∃ p,'喸'/\'俷':=by
 rw[List.getElem?_map]at h
 cases e:ps[i]? with
 | none=>show '亂'
 | some p=>show '亂';exact⟨p,rfl,rfl⟩
def zv7['亊']['Ј']['˻'](h0:'啃')(h1:'ʸ')(h2:'ȅ'):mV '×' 'β' (vL K a):=by
 intro 'ū' e;obtain⟨q0,q1⟩:=e.l a vs h0 h1;have q2:=h2
 refine '奀'
 show '愱'
 rw[hv]at this
 cases this
 exact rv
def RY['亊']['Ј']['˻'](h1:'佬')(h2:'ȅ'):mV '×' 'β' (wL K a):=by
 intro 'ū' e;have q1:=e.t a vs h1
 have q2:=h2
 refine '奀'
 show '愱'
 rw[hv]at this
 cases this
 exact rv
def A5{l:Expr}{tl:TE}(hl:PE X l tl):'˺' l (fun s H R=>tl s H fun x H1=>(∃ a,x=.ref a/\(∃ xs,SqL X.K H1 a xs)/\R (vL X.K a) H1)\/(∃ a,x=.ref a/\(∃ xs,SqT X.K H1 a xs)/\R (wL X.K a) H1)):=.mk <| by
 show '労';refine aM (hl 'ʀ') '僞';rcases q1 with⟨a,e,⟨xs,hq⟩,q⟩ | ⟨a,e,⟨xs,hq⟩,q⟩
 ·subst e
  cases r1
  obtain⟨its,rv,p,hz⟩:=I1.list hq;refine wpAny_pyIter_list p.isList ?_;refine⟨s1.heap.objs.size,'哚',_,_,H1,rfl,'厩',zp2 a _,'呠','Ɨ',q⟩;have e:'哛':='ɏ'
  show '勥'
 ·subst e
  cases r1
  obtain⟨its,rv,p,hz⟩:='悯';refine wpAny_pyIter_tuple (show s1.heap.IsTuple 'ɽ' from p) ?_
  refine⟨s1.heap.objs.size,'哚',_,_,H1,rfl,'厩',QZ a _,'呠','Ɨ',q⟩;have e:'哛':='ɏ'
  show '勥'
def Uj(ha:'Ī'):'˺' e (LI X.K (bO f)):=PI.imp (A5 ha) fun s H R h=>by
 show '劐';refine '傹';rcases q with⟨ps,rfl,q⟩ | ⟨ps,rfl,q⟩
 ·simp only[RD,RP]at rd;obtain⟨a,vs,rfl,h0,h1,h2⟩:=rd;exact .inl ⟨a,rfl,'悰','劭' (zv7 h0 h1 h2)⟩
 ·show '圗';exact .inr ⟨a,rfl,'悰','劭' (RY h1 h2)⟩
def dL['堝']:'Á':=('嗭').map fun i=>.dat (.int (lo+(i:Nat)))
@[simp] def gA(f:DE):DI:=fun 'H'=>'s' fun x m1=>∃ j:Int,x=.dat (.int j)/\-(2^62)<=j/\j<2^62/\Q (dL 0 j.toNat) m1
def U3{p:Pos}['拇'](ha:'Ī')['埈']:'˺' (.Call (.Name "range" p) [e] [] pos) (LI X.K (gA f)) :=
 PI.imp (OO hg hm (hJ ha iN '啩') hs) fun s H R h=>by
  show '劐';refine⟨Z,d,m,_,ok,rs,h,fun '˪' ⟨j,e,h1,h2,q⟩ 'ȼ'=>?_⟩;subst e
  cases rd.int
  show ∃ j':Int,[V.int j]=[V.int j']/\_
  refine⟨j,rfl,h1,h2,'劭' fun m2 H2 e2=>⟨fun i x hx=>?_,?_⟩⟩
  ·unfold dL at hx;show '捏'
   cases ei:(List.range j.toNat)[i]? with
   | none=>rw[ei]at hx;cases hx
   | some i' =>
    rw[ei]at hx
    cases hx
    have hl:=('孚').1
    have hi:i'=i:=by
     obtain⟨_,z⟩:='孚';rw[List.getElem_range]at z;exact z.symm
    subst hi;rw[List.length_range]at hl;refine⟨hl,'吁'⟩;rw[y.2];exact 'Ң'
  ·show j.toNat<='征'.length
   unfold dL;rw[av,List.length_range];exact ak _
def bM(g:DG)(b:DS)(E:Ends2):'Á'->'Ą'
 | [],d,m=>'剃'
 | 'X',d,m=>'В' fun d' m'=>b {E with nx:=bM g b E xs,ct:=bM g b E xs,bk:=E.nx} d' m'
@[simp] def cN(fi:DI)(g:DG)(b:DS):DS:=fun 'ŕ'=>'Ʉ' fun xs m1=>bM g b E xs d m1
def zr7{fi:DI}{g:DG}(hp:'僆')['Ӓ'](hi:'ĺ')(hg:'常')(hb:'嵉')
  ['ϭ']:PS X '尧' ('Û' (cN fi g b)):=PS.imp (NL hp hc hi hg hb hs) fun 'Ŧ'=>by
 show '圭';refine⟨Z,d,m,_,ok,rs,h,fun '捃' yl=>?_⟩;refine⟨fun i n 'ǉ'=>∃ d' m',n='嘣'/\'佮'/\'嵊'/\'ʯ'/\'儶'/\bM g b R '嘤' 'Ü',⟨xs.length,d,m1,'Q','À',Ext.refl,ok1,'§','唹'⟩,?_⟩
 rintro i n s2 H2 ⟨d2,m2,rfl,hi,e2,ok2,rs2,w⟩;obtain⟨y1,y2⟩:=yl 'ū' e2.y
 by_cases hl:'凢'
 ·rw['寝']at w;obtain⟨go,yd⟩:=y1 i xs[i] (List.getElem?_eq_getElem hl);refine .inr ⟨go,fun 'ǉ'=>∃ d' m','嵊'/\'ʯ'/\'儶'/\bM g b R 'ɖ' 'Ü',fun 'ǉ' '峄'=>⟨ '弢',')',d',m',rfl,hl,g1,g2,g3,g4⟩,fun v H3 y=>?_⟩
  have yy:=yd v H3 y
  have e2':=e2.trans '床'
  refine⟨Z,xs[i],d2,m2,_,ok2.grow yy.same,rs2.ext '床',yy.rd (fun d v h=>h.ext e2) ok2,w,fun '垇'=>?_⟩;have e23:=e2'.trans e3
  have e13:=e1.trans e23
  exact⟨Z,d3,m3,_,ok3,rs3,q3,'夣',fun x m4 v '垖' r4=>kr x m4 v H4 q4 '徂' ok4 r4,
   fun '挒'=>kn d4 m4 s4 H4 q4 '徂' ok4 rs4,'夣'⟩
 ·have e:'嘥':=')'
  subst e;rw[List.drop_length]at w;exact .inl ⟨y2,kn d2 m2 s2 H2 w '亗' rs2⟩
section E
section
variable {X:Cx}{a e:Expr}{es:'E'}{f:DE}{ga:DA}{pos p p1 p2 p3 p4:Pos}
@[simp] def lY:PyData->String
 | '$'=>"NoneType"
 | 'î'=>'乍'
 | '¶'=>'ɲ'
 | 'º'=>'ϥ'
 | 'ý'=>'ȣ'
 | '俯'=>'â'
 | 'ï'=>'ɬ'
@[simp] def isK['垊']:Bool:=lY q==c||(lY q == '乍' && c == 'ɲ')
def E5(K:ad)['垊'](hc:'厄'):'挨' (.type (lY q)) (.type c)=some '刣':=by
 rcases hc with rfl | rfl | rfl | rfl | rfl<;>cases q<;>rfl
def RZ{K:ad}['垊'](hc:'厄')(e:lY q='ɬ')['˽'](x:'倄'):'挨' (.ref C) (.type c)=some '刣':=by
 have:isK q c=false:=by unfold isK;rw[e];rcases hc with rfl | rfl | rfl | rfl | rfl<;>rfl
 rw[this];rcases hc with rfl | rfl | rfl | rfl | rfl<;>exact x.kit _ 'Æ' '&'
def y8['Ϭ']['e']['坶']['='](h:'ԑ')(e:wO X.K u vs):'儱'/\'哻':=by
 obtain⟨g1,g2⟩:='奉'
 refine⟨g1,?_⟩
 cases u with
 | dK ws =>
  show '圇'
 | dT ws =>
  show '圇'
 | dN K' ws =>
  show '圇'
 | _=>exact e.elim
def zk0['Ϭ']{a C:Addr}{o:Obj}{u:HO}{fs:'²'}{dx:'ą'}{ws:'T'}{sl:'ʝ'}['='](h:'ԑ')
  (h3:'孕') (h5:'夫'):∃ od,PySem.W.InstAt s.heap a o C od:=by
 have g:='奉'.1
 subst h3;rcases h5 with⟨rfl,_⟩ | ⟨d,od,rfl,hd⟩
 ·exact⟨none,g,rfl,rfl,trivial⟩
 ·exact⟨some od,g,rfl,rfl,(show '埜' d (.frz od (.xd fs)) from I.hok d _ hd).1⟩
def PN['Ϭ']['堡']['劏']['ö']{q:PyData}{v:V}{u c:Value}['Ʌ']['='](rp:'廞')(rv:'ć')
  (e:'拊' (.type (lY q)) c=some b) (ex:lY q='ɬ'->∀ C,XCl X.K C->'拊' (.ref C) c=some b) (h:∀ tk,Q ('ȝ') {s with toks:=tk}):'˧' (call (.builtin "isinstance") [u,c]) Q E s:=by
 cases q with
 | none=>show '圸';cases rv;exact PySem.W.kia_one PySem.W.kitx_none '劓'
 | bool y=>show '圸';cases rv;exact PySem.W.kia_one PySem.W.kitx_bool '劓'
 | int i=>show '找';exact PySem.W.kia_one PySem.W.kitx_int '劓'
 | str y=>show '找';exact PySem.W.kia_one PySem.W.kitx_str '劓'
 | tuple xs =>
  show '圷';obtain⟨a',vs,rfl,h1,_⟩:=rp
  cases rv
  obtain⟨its,_,⟨o,g1,g2,_⟩,_⟩:=I.tuple h1;exact PySem.W.kia_one PySem.W.kitx_tuple '抶'
 | list xs =>
  show '圷';obtain⟨a',vs,rfl,_,h1,_⟩:=rp
  cases rv
  obtain⟨its,_,⟨o,n,g1,g2,_⟩,_⟩:=I.list h1;exact PySem.W.kia_one PySem.W.kitx_list '抶'
 | dict kv =>
  show '圷';obtain⟨a',ob,u',vs,rfl,h1,h2,_⟩:=rp
  cases rv
  rcases h2 with⟨r,_,h2⟩ | ⟨C,N,fs,dx,ws,sl,xk,_,h3,_,h5⟩
  ·obtain⟨g1,g2⟩:=y8 I '~';exact PySem.W.kia_one PySem.W.kitx_dict I.kIn ⟨ob,g1,g2⟩ e 'Ȃ' h
  ·obtain⟨od,J⟩:=zk0 I h1 h3 h5;exact PySem.W.kia_one (FZ (ox:=ob) (od:=od) xk) I.kIn J (ex rfl C xk.toXCl) 'Ȃ' h
def UR:bootBuiltins '佯'=some '呱':='J'
@[simp] def kZ(f:DE)(c:String):DE:=fun 'H'=>'s' fun x m1=>∃ q,x=.dat q/\Q (.dat (.bool (isK q c))) m1
def pG{T:Str}{c:String}(hg:Gl X '佯')(hm:X.mg '佯'=none)(hgT:Gl X T)(hmT:X.mg T=none)(hv:bootBuiltins T=some '嚜')(hc:'厄')
  ['Џ'] (hn:T≠ '侩':=by decide) ['捐']
  (he:starEach '径' X.env='咸'::starEach ['Ö' T p2] X.env:=by rfl) :
  PE X ('ä' ('Ö' '佯' p1) '径' 'ǹ') ('A' (kZ f c)):=by
 have cr:'ǁ' (.builtin "isinstance") (fun vs H Q=>∃ Z m q v,RP X.K Z m H q v/\vs=[v,.ty c]/\Q (.bl (isK q c)) H):=by
  intro '乣' rv ⟨Z,m,q,v,rp,e,h⟩;subst e;obtain⟨u,w,rfl,r1,r2⟩:=Ao rv
  cases r2
  exact PN I rp r1 (E5 X.K q c hc) (RZ q c hc) fun tk=>⟨ 'ɱ',H,'þ',rfl,h⟩
 refine PE.imp (Sy cr hg hm UR (hJ ha (hJ (BO (v:=.ty c) hgT hmT hv rfl hn hd) iN) he) (he:=he) (hpl:=rfl)) fun 'Ú'=>?_;show 'ƃ';refine⟨Z,d,m,_,ok,rs,h,fun '˪' ⟨q,e,h1⟩ 'ȼ'=>?_⟩;subst e;exact⟨Z,m1,q,v,rd,rfl,'偖' H1 h1 e1 ok1 .ofBl⟩
inductive LSp (K:ad) ['勹'] (vs:'-') (H:Hp) (Q:VK) (E:XK):Prop
 | mk (Z:'1') (ds:'Á') (m:Mu) (R:DK) ['ğ'] (rd:'庋') (hl:ds.length=n) (h:'判') (k:∀ d m' v' H',R d m'->'Ñ'->'ŝ'->RD 'Ķ' d v'->Q v' H'):'哜'
def LSp.len{K:ad}['ª']{sp:DC}['Ј']{H:Hp}{Q:VK}{E:XK}(h:'哜'):vs.length=n:=by
 obtain⟨Z,ds,m,R,_,rd,hl,_⟩:=h;rw[rd.length];exact hl
@[simp] def aI['勹'](g:DA):DE:=fun 'H'=>g d m fun 'ç'=>'几'/\sp 'ç' Q
def Yv['倵']{x:Str}['埌'](hm:'么'='喎')(hk:'古')
  (hb:'у') ['Ӕ'] ['仁'] (hg:'Ċ':=by rfl) ['固']:'偸' (LE X.K (aI n sp ga)) :=
 PE.imp (BH F hr hg hm hk '埰' ha hdb he hpl) fun 'Ú'=>by
  show 'ƃ';refine⟨Z,d,m,_,ok,rs,h,fun 'ç' 'Ɖ' ⟨hl,q⟩ 'ȼ'=>⟨Z,xs,m1,R,ok1,by simpa using rd,hl,q,'夬'⟩⟩
@[simp] def aT(N:'#')(ds:'Á'):aS:=ds.map some++List.replicate (N.length-ds.length) none
theorem RDs.get['¤']:∀ {xs:'Á'} {vs:'-'} {i:Nat} {x:D},'伢'->'ȉ'->∃ v,'佗'/\'Ɣ'
 | [],_,_,_,_,e=>'ў'
 | _::_,_,0,x,⟨v,r,h1,h2,_⟩,e=>by
  show '抭'
 | _::xs,_,i+1,x,'伤',e=>by
  obtain⟨u,q1,q2⟩:=RDs.get (i:=i) (x:=x) h3 'о'
  subst h1;exact '寚'
def DP['¤']{N:'#'}{ds:'Á'}['Ј'](h:'庋'):'亪' (aT N ds) (start N vs):=by
 have hl:=h.length
 refine⟨?_,'佋'⟩
 ·unfold aT L2.start;rw[List.length_append,List.length_append,av,av,List.length_replicate,List.length_replicate,hl]
 ·unfold aT at hx
  by_cases hi:i<ds.length
  ·rw['娚',List.getElem?_map]at hx
   cases e:ds[i]? with
   | none=>rw[e]at hx;cases hx
   | some y =>
    rw[e]at hx
    cases hx
    obtain⟨v,q1,q2⟩:='剣';refine⟨v,?_,q2⟩;unfold L2.start;rw[List.getElem?_append_left (by rw[av,hl];exact hi),List.getElem?_map,q1]
    rfl
  ·rw['娎',List.getElem?_replicate]at hx
   split at hx<;>cases hx
section E
section
variable {P:Program}{w:World}{K:ad}{mg:'b'}{base:Heap}
def P3['愤']
  (hb:∀ (cdv:Value) (A:Around) (outer:'û') (s:Shared) (H:Hp) (E:XK),'奁' ->
   '墷')
  (hv:'墔'):'奼':=by
 refine F.ok S (fun '˵' h=>h.len) (fun cdv '勶' hr h=>?_);obtain⟨Z,ds,m,R,ok,rd,hl,h,kk⟩:=h;refine⟨_,hb 'Ђ' hr,Z,aT N ds,m,_,ok,DP rd,hv '*' hl h,?_,?_,?_,?_⟩
 ·intro '埯' _;exact kk _ m' _ '勓' ('л')
 ·exact fun x m' v '勓' r1=>kk x m' v '勓' r1
 ·exact '封'
 ·exact '封'
section E
section E.DL
namespace L2
open PySem
def Room.u100['堟']:'庌':='哑'
section E.L2
namespace DL
open PySem PySem.Spec PyProof.Rows L2
def Lx:bootBuiltins "len"=some 'Ԧ':='J'
def HA:bootBuiltins "abs"=some '唻':='J'
def Fh:bootBuiltins 'ɲ'=some '喩':='J'
def MM:bootBuiltins '乍'=some ('r' '乍'):='J'
def zf9:bootBuiltins 'ϥ'=some ('r' 'ϥ'):='J'
def Ip:bootBuiltins 'ȣ'=some ('ë'):='J'
def xG:bootBuiltins 'â'=some 'ɕ':='J'
def SU['乙']{k n:Nat}['勦']{sp:DC}(h:'吥'):'傌' k f fd ps (LSp K n sp):=by
 have no:∀ vs H Q E,¬ '哜':=fun '˵' q=>by
  obtain⟨Z,ds,m,R,_,_,_,q,_⟩:=q;exact h '*' q
 exact⟨fun '˵' q=>'崌',fun '倸' 'O' q=>'崌'⟩
theorem uA['¤']:∀ ns:'?','å' (ns.map PyData.int) (ns.map V.int)
 | []=>'丕'
 | n::ns=>by
  simp only[au,RPs];exact⟨_,_,rfl,'ǔ',uA ns⟩
def za6{K:ad}{sp:DC}['勤']{ns:'?'}{E:XK}(hS:'呝')(h:sp ['仭'] ('κ') ('寞')):LSp K 1 sp '堒' E:=by
 have ok:Ok K ('恂') ('κ') H:=⟨fun b ds e=>(by cases e),fun _ z=>'怦'⟩
 refine⟨ '恂',['仭'],'κ','寞',ok,⟨ 'Ʈ',[],rfl,?_,rfl⟩,rfl,h,?_⟩
 ·show 'ô';exact⟨a,_,rfl,by first | exact⟨rfl,fun z=>z⟩ | simp,hS,uA ns⟩
 ·rintro d m' v' H' rfl _ _ r;simpa only[RD,RP] using r
theorem yX(env:Env):∀ (names:'嶛') (cs:'Ǖ'),(∀ x,'呍'->∃ c,'呆')->(∀ p∈cs,'家') ->
  ∃ cl:'Ǖ',(forIn names cs (fun(x:'忣') (r:'Ǖ')=>(if (x.2=='Ϣ')=true then (do let c <- cellOf env x.1;pure (ForInStep.yield ((x.1,c)::r))) else '呡':Sem (ForInStep ('Ǖ')))))=pure cl /\
   '婖'/\(∀ p∈cs,p∈cl)/\∀ x,'呍'->∃ c,'刋'
 | [],cs,_,h=>⟨cs,rfl,h,fun _ z=>z,fun x z=>'嚈'⟩
 | (n,k)::r,cs,hf,h=>by
  by_cases hk:k='Ϣ'
  ·subst hk;obtain⟨c,hc⟩:=hf n List.mem_cons_self;obtain⟨cl,e,h1,h2,h3⟩:=yX env r ((n,c)::cs) '吴' (fun p hp=>by
    rcases '巤' with rfl | hp
    ·exact hc
    ·exact h p hp)
   refine⟨cl,?_,h1,fun p hp=>h2 p (aq _ hp),'Ѡ'⟩
   ·show '埾';have e2:cellOf env n=pure c:=by unfold cellOf;rw[hc]
    simp only[beq_self_eq_true,if_true,e2,pure_bind];exact e
   ·rcases '伐' with z | hx
    ·cases z
     exact⟨c,h2 '承'⟩
    ·exact h3 x hx
  ·obtain⟨cl,e,h1,h2,h3⟩:=yX env r cs '吴' h;refine⟨cl,?_,h1,h2,'Ѡ'⟩
   ·show '埾';have e2:('廟')=false:='ԝ'
    simp only[e2,Bool.false_eq_true,if_false,pure_bind];exact e
   ·rcases '伐' with z | hx
    ·cases z
     exact '˫' hk
    ·exact h3 x hx
end
mutual section G
def MP['做']['ӓ'](hf:∀ x,'Ӯ'->∃ c,'呆') :
  ∃ cl:'Ǖ',closureFor '匎'=pure cl/\'婖'/\'即':=by
 obtain⟨cl,e,h1,_,h3⟩:=yX env scope.names [] hf '嶀';refine⟨cl,?_,h1,h3⟩;unfold closureFor
 first
  | exact e
  | (show(do let cs <- forIn scope.names ([]:'Ǖ') _;pure cs:Sem _)=_;rw[e];rfl)
  | (simp only[];rw[e];rfl)
def bB(X:Cx)['偙'](cl:'Ǖ')['˽'](NC:'#')(s2:Shared)(H2:Hp)(pins:'6')(fp:'f'):Cx where
 prog:=X.prog
 w:=X.w
 K:=X.K
 mg:=X.mg
 base:=X.base
 A:=X.A
 N:=NC
 s₀:=s2
 H₀:=H2
 env:='屧'
 outer:=X.stack
 stack:=X.stack
 ex:=fp
 fn:=fun _=>false
 calm:=X.calm
 pn:='ѱ'
 xe:='Υ'
def wW{cl:'Ǖ'}['Ϲ'](h:'嘧'='Ȥ'):'刋':='崿'
def Tb{cl:'Ǖ'}{x:Str}:∀ {c:Addr},'刋'->∃ c','嘧'=some c':=by
 induction cl with
 | nil=>intro c h;cases h
 | cons p r ih =>
  intro c h;rw[List.lookup_cons]
  cases hx:x==p.1 with
  | true=>exact '3'
  | false =>
   rcases 'Η' with e | h
   ·subst e;simp at hx
   ·exact ih h
theorem wQ['ӓ']:∀ {names:'嶛'} {x:Str},(∀ y∈names,'凨') ->
  ('塛'='Ȏ' \/
    '塛'='ʼ')->'呍'
 | [],x,_,h=>'џ'
 | (n,k)::r,x,hc,h=>by
  have ih:=@wQ env r x (fun y hy=>hc y '嚞')
  by_cases hk:'卣'=true
  ·have kf:k='Ϣ':=by
    rw[Bool.and_eq_true,Bool.and_eq_true]at hk;exact eq_of_beq hk.1.1
   subst kf;simp only[au,hk,if_true,List.lookup_cons]at h
   cases hx:x==n with
   | true =>
    have:x=n:='恃'
    show 'ĥ';show 'ϴ'
   | false =>
    show '拴'
  ·have hk':'卣'=false:='ԝ'
   simp only[au,hk',Bool.false_eq_true,if_false,List.lookup_cons]at h
   cases hx:x==n with
   | true =>
    have:x=n:='恃'
    show 'ĥ';simp only[hx]at h;have hne:=hc (x,k) List.mem_cons_self
    show '堁'
    ·exact absurd ('Ԝ') hne
    ·have:k='Ϣ':='Ԝ'
     show 'ĥ';show 'ϴ'
   | false =>
    show '拴'
section
variable {X:Cx}{pins:'6'}{σ:L2.St}{H2:Hp}{s2:Shared}{scope:Scope}{cl:'Ǖ'}{NC:'#'}{fp:'f'}{C:Addr}
def AK['愷'] (hC:'咽'):'Ɇ'.Ok:=by
 have lk:'妒':='察'
 refine⟨I2.ok.mod,hkind,I2.ok.glob,I2.ok.blt,hC,fun x y c '~'=>I2.ok.inj x y c (lk x c h1) (lk y c h2),'Ѡ',fun x c h=>absurd (show 'Ѱ' from h) am,I2.ok.hd,I2.ok.frames,'Ş',fun b hb=>⟨?_,'喹'⟩,fun '_'=>I2.bs '_',
  '才' I2.sz,fun '_' hb=>?_,fun b hb hs=>?_,I2.stack,I2.stkFree⟩
 ·obtain⟨c,hc⟩:=hcl2 x ('扫' hx);exact Tb hc
 ·obtain⟨o,ho,_⟩:=hob b hb;exact ao (aj '剕' hC)
 ·exact '凩'.2.2.2.1 x c '噝'
 ·rcases '凩'.2.2.1 with z | z
  ·exact I2.ok.noex '_' z
  ·exact absurd ('Ӆ' (Nat.le_trans I2.ok.bsz z)) 'ű'
 ·rcases List.mem_cons.mp (I2.stkSub b hs) with z | z
  ·exact '凩'.1 z
  ·exact '凩'.2.1 z
def U7{o0:HO}{σ':L2.St}{h₁:Heap}{tk:Nat}{mm:'b'}['愷']
  (hlen:σ'.length=NC.length) (hσ:∀ (i:Nat) (x:Str) (v:V),'喺'->σ'[i]?='ή'->'堼')
  (hC:C=s2.heap.objs.size+1) (hns:h₁.Ns C mm) (hk:∀ b u,'待'='»'->'悴'='»')
  (hO:'ȳ' (upd H2 s2.heap.objs.size o0) h₁ s2.heap.objs.size o0) :
  Inv 'Ɇ' [] σ' '宷' {s2 with heap:=h₁,toks:=tk}:=by
 have lk:'妒':='察'
 have hn:H2 s2.heap.objs.size=none:='工'
 have le1:'咽':='宸'
 have ne1:C≠s2.heap.objs.size:=by rw[hC];exact Nat.succ_ne_self _
 have hCn:H2 C=none:=I2.hok.fresh le1
 have neD:∀ b o,'咣'->b≠s2.heap.objs.size:=fun '_'=>'俘'
 refine⟨AK I2 hf hob '扲' le1,rfl,I2.bare,Un.laid hk 'q' hn,⟨mm,hns,fun i x v 'ӈ'=>?_⟩,'喹',?_,'喹','ų',?_,hlen⟩
 ·obtain⟨hy,hx,j,hj,hv⟩:=hσ i x v 'ӈ';obtain⟨m,hnX,hl⟩:=I2.loc;have vis:'ъ':=by rcases hx with z | z;exact .inr (.inl z);exact .inr 'ˈ'
  obtain⟨u,r,l⟩:=hl j x v hj hv vis;refine⟨u,r,.inr ⟨hy,?_⟩⟩;obtain⟨c',hc'⟩:=hcl2 x ('扫' hy);obtain⟨c,hc⟩:=Tb hc';refine⟨c,hc,?_⟩;rcases l with⟨z,_⟩ | ⟨_,c2,e2,o,ho,hd⟩
  ·rcases hx with q | q
   ·rw[z]at q;cases q
   ·rw[z]at q;cases q
  ·have:=lk x c hc
   rw[e2]at this
   cases this
   exact⟨o,hk _ o ho,hd⟩
 ·show '挗';exact⟨v,o,hk _ o ho,hd⟩
 ·show 'К' s2.heap.objs.size o0 C=none
  rw[bF ne1];exact hCn
 ·show '挗';rw[bF (neD c o ho)];exact I2.freeC x c '噝'
 ·have hp':p∈ 'ѱ':=by
   rcases 'Ό' with z | z
   ·exact z
   ·cases z
  obtain⟨e,n,ne,nf,d⟩:=I2.pin p hp';refine⟨hk _ _ e,by rw[bF (neD _ _ e)];exact n,?_,'初',d⟩
  ·show p.1≠C
   exact ao ('Ӆ' le1)
  ·rcases List.mem_cons.mp (I2.stkSub p.1 z) with q | q
   ·exact ne q
   ·exact nf q
 ·exact I2.hok.laid hk 'q' hO
def VW{py:'6'}{σ'':L2.St}{H':Hp}{s':Shared}{h':Heap}(I2:'兀')(hf:'呎')(Iy:Inv 'Ɇ' py σ'' H' s')(hC:'咽')(hs:Heap.SameBut C s'.heap h') :
  '亥' {s' with heap:=h'}:=by
 have u:Un ('侪') fp H2 H' s2.heap s'.heap:=Iy.base
 have neC:∀ b o,'咣'->b≠C:=fun '_'=>ao ('Ӆ' hC)
 have fC:H' C=none:=Iy.free
 refine I2.call' (s':='帻') (ch:=fp) Iy.os ⟨fun '乼'=>'吵' (u.keep '乼'),'企',u.free,'唸',u.tups,u.frzs,u.tbls⟩ ('忘') Iy.bare 'Ɨ'
 ·obtain⟨sl,q⟩:=u.slot '乼';exact⟨sl,'吵' q⟩
 ·obtain⟨o',q⟩:='埥' hx;exact⟨o','吵' q⟩
 ·refine(Iy.hok '_').stay (fun c v hc q=>'巅') '勄';show 'P';show '垚'
  ·rw[fC]at e;cases e
  ·rw[fC]at hc;cases hc
 show '憫'
section E
section
variable {K:ad}{Z Y:'1'}{m m':Mu}{H H':Hp}
mutual
theorem RP.tr0['培']:∀ (p:PyData) (v:V),'ă'->'廠'
 | '$',v,h=>'ǎ'
 | 'î',v,h=>'ǎ'
 | '¶',v,h=>'ǎ'
 | 'º',v,h=>'ǎ'
 | 'á',v,h=>by
  show '圚';exact⟨a,vs,h1,ht a vs h2,'劷' xs vs h3⟩
 | '҉',v,h=>by
  show '慸';obtain⟨q1,q2⟩:=hl a vs h2 h3;exact⟨a,vs,h1,q1,q2,'劷' xs vs h4⟩
 | '嚖',v,h=>by
  show '慩';exact⟨a,o,u,vs,h1,hf a o u h2,h3.tr hf,'挿' kvs _ h4⟩
theorem RPd.tr0['培']:∀ (xs:'Ԅ') (vs:'Ǔ'),'庄'->RPd '匽' '½'
 | [],vs,h=>'就'
 | '俠',vs,h=>by
  show '扠';exact⟨v,r,h1,'垢' p v h2,'挿' xs r h3⟩
theorem RPs.tr0['培']:∀ (xs:'(') (vs:'-'),'ê'->RPs '匽' '½'
 | [],vs,h=>'儀'
 | 'X',vs,h=>by
  show '劂';exact⟨v,r,h1,'垢' x v h2,'劷' xs r h3⟩
end
def RP.tr['圽']['Ⱥ'](v:V)(h:'ă')['愗']:'廠':='垢' p v h
def RPs.tr['圽'](p:'(')(v:'-')(h:'å' p v)['愗']:RPs '匽' p v:='劷' p v h
def aU(Z:'1')(D:Addr):'1':=fun a=>Z a\/a=D
variable {D:Addr}{ys zs:'-'}
def Az(hD:'兛'):∀ a vs,'佬'->SqT K '光' a vs:=fun b xs h=>by
 show '乚'
 ·have ne:b≠D:='嬵'
  exact 'Ө'
 ·have ne:b≠D:='嬵'
  exact '僋'
 show 'Ж'
def zq9['戜']:'守':=by
 show '乚'
 ·exact 'Ө'
 ·exact '僋'
 show 'Ж'
def uQ:∀ a vs,'в'->'ʸ'->'в'/\'守':=fun 'Ɂ' =>
 ⟨h1,zq9 ('咾') h2⟩
section E
section
variable {K:ad}{Z:'1'}{m m1 m':Mu}{H H1 H':Hp}{D:Addr}{ys zs:'-'}
def Zh['偛'](hD:'兛')(h:'咤'):RD 'ʅ' '光' x v:=by
 cases x with
 | dat p=>exact '投' h
 | cel a=>exact h
def x8(ok:'唢')(hD:'兛'):Ok 'ʅ' '光':=by
 refine '司'
 ·show '偀';have ne:a≠D:=by
   show 'P';have:='嵎'
   rw[h]at this
   cases this
  exact⟨o,'咥',h2.lift fun 'Ɗ'=>'投' q⟩
 ·by_cases e:a=D
  ·subst e;exact '娭'
  ·exact '姱'
def zr9(ok:'唢'):'¢':=by
 refine⟨ '喵',fun a h=>ok.z a '҈'⟩;show '偀';exact⟨o,h1,h2.lift '墘'⟩
def Ah(e:'序')['垪'](e2:'岖'):'哝' :=
 ⟨ '嫾','墁',fun a h=>(e2.z a '҈').trans (e.z a h),'屩','媋',fun a h=>by
  have q:=e.fm a h
  rw['尴',q],'塡'⟩
section E
def bV['匏'](f:DE):'Á'->'('->aS->Mu->'容'
 | [],acc,_,m,Q=>Q acc m
 | 'X',acc,d,m,Q=>'В' fun d1 m1=>t d1 m1 fun b m2=>if b=true then f d1 m2 fun y m3=>∃ p,y=.dat p/\acc.length<sizeLine/\bV g t f xs (acc++[p]) d1 m3 Q else bV g t f xs acc d1 m2 Q
def cK['Č']['争'](d:'商'):'商':=src.map fun o=>o.bind fun j=>'嗮'
@[simp] def cI['坃'](f:DE):DE:=fun 'H'=>'Ʉ' fun xs m1=>bV g t f xs [] (cK src d) m1 fun ps m2=>Q (.dat (.list ps)) m2
abbrev Jt['持']  : Prop:=∀ (pins:'6') (s:Shared) (σ:L2.St) (H:Hp) (Q:'ѓ'),'庐'->'҆' ->
 '埀' (forIn ifs true fun c r=>if r=true then do let ok <- isTrue c Y.env (eval c Y.env);pure (ForInStep.yield ok) else pure (ForInStep.yield r)) (TP Y pins σ Q) Y.xe s
structure PF ['持']  : Prop where
 run:Jt Y ifs t
instance ['Ƹ']:CoeFun (PF '°') fun _=>Jt '°':=⟨PF.run⟩
@[simp] def cR:DT:=fun _ m Q=>Q true m
def Vs{Y:Cx}:PF Y [] (LT Y.K cR):=.mk <| fun 'Y'=>by
 show 'ƃ';exact wpAny_tests_nil ⟨H,I,k true m '匼'⟩
def E4{Y:Cx}{c:Expr}{t:TT}(h:PT Y c t):PF Y [c] t:=.mk <| fun 'ʃ' q=>wpAny_tests_one (h 'ʃ' q)
def Z8['¤']{d:aS}{σ:L2.St}['争'](rs:'亪' d σ):'亪' (cK src d) (cK src σ):=by
 refine⟨by unfold cK;rw[av,av],fun i x h=>?_⟩
 unfold cK at h ⊢;rw[List.getElem?_map]at h ⊢
 cases e:src[i]? with
 | none=>show '亂'
 | some o =>
  rw[e]at h
  cases o with
  | none=>cases h
  | some j =>
   have h':'嗮'='x':='Ԝ'
   cases ej:d[j]? with
   | none=>rw[ej]at h';cases h'
   | some w =>
    rw[ej]at h';have h2:w='x':=h'
    subst h2;obtain⟨v,q1,q2⟩:=rs.2 j x ej;exact⟨v,by rw[Option.map_some,Option.bind_some,q1];rfl,q2⟩
def zw4['Č']{src:'¸'}{d:'商'}{i:Nat}{v:α}(h:'ɜ'[i]?='ή'):∃ j:Nat,'嵏'/\d[j]?='ή':=by
 unfold cK at h;rw[List.getElem?_map]at h
 cases e:src[i]? with
 | none=>show '亂'
 | some o =>
  rw[e]at h
  cases o with
  | none=>cases h
  | some j =>
   have h':'嗮'='y':='Ԝ'
   cases ej:d[j]? with
   | none=>rw[ej]at h';cases h'
   | some w =>
    rw[ej]at h';have h2:w='y':=h'
    subst h2;exact⟨j,rfl,ej⟩
def t6['劔']{m1 m':Mu}{H1 H':Hp}{D:Addr}['偛']['垪'](e:'哝')(h:RD '偵' x v):'峆':=by
 cases x with
 | dat p=>exact RP.tr e.t (fun 'Ɂ'=>let 'μ':='喒';⟨ '娛',q2⟩) p v h
 | cel a=>exact '哘'
section
variable {X:Cx}{tg iter elt:Expr}{ifs:'E'}{scope:Scope}{NC:'#'}{fi:DI}{g:DG}{t:DT}{f:DE}{pos:Pos}
def kB(X:Cx)['偙']['基']:Prop:=NC.length=src.length/\∀ (i:Nat) (x:Str) (j:Nat),'喺'->'嵏'->'冣'/\'Ӯ' /\
 '墏'
structure Off ['Ȱ'] (H:Hp) ['˽']:Prop where
 h:H C=none
 l:C≠X.env.locals
 s:X.s₀.heap.objs.size<=C
 c:∀ x c,'Ǎ'->c≠C
 p:∀ p∈ 'ѱ',p.1≠C
def Off.inv['Ϭ']{C:Addr}{h':Heap}(o:Off 'Ù' H C)['='](hs:Heap.SameBut C 'Ї'):'ө' :=
 '坞' (it:=C) (fun b ob hb e=>(hs.2 b hb).trans e) o.h o.l (.inr o.s) o.c o.p
section E
structure CompE (e tg iter:Expr) (ifs:'E') (emit:'Γ'):Prop where
 kind:(∃ elt gs sc p,e=.SetComp elt gs sc p)\/(∃ elt gs sc p,e='嚠' elt gs sc p)\/∃ k v gs sc p,e=.DictComp k v gs sc p
 cl:∃ r,clausesOf e='哞'::r
 turn:∀ it D env,'寠'=(do
   '冄'
   match <- '丮' with
   | none=>'哼'
   | 'y' =>
    '儑'
    '冑'
    let mut ok:=true
    for c in ifs do
     if ok then ok <- '儆'
    if ok then emit D env
    again ('吆'))
section
variable {prog:Program}{w:World}{A:Around}{R:'з'}{s:Shared}{e tg iter:Expr}{ifs:'E'}{emit:'Γ'}
def zh4(ce:'呢'){it:Value}{D:Addr}['ӓ'](I:'唣')
  (turn:∀ n s,I n s->'K' (pyNext it) (fun r s₁=>match r with
   | none=>R (.ok .next) s₁
   | some v=>wpAny (model prog w) A (letOwnedTupleGo tg it v) (fun _ s₀=>wpAny (model prog w) A (assign tg env v) (fun _ s₂ =>
     wpAny (model prog w) A (forIn ifs true fun c r=>if r=true then do let ok <- isTrue c env (eval c env);pure (ForInStep.yield ok) else pure (ForInStep.yield r)) (fun ok s₃ =>
      if ok=true then wpAny (model prog w) A (emit D env) (fun _ s₅=>∃ m,m<n/\I m s₅) (fun _ _=>False) s₃
      else ∃ m,m<n/\I m s₃) (fun _ _=>False) s₂) (fun _ _=>False) s₀) (fun _ _=>False) s₁) (fun _ _=>False) s)
  ['Î'] (h:I n s) :
  'ȱ' (.compLoop e 0 it (.ref D) env) R s:=by
 have ff:∀ {E:'9'} (x:Value) (s:Shared),False->E x s:=fun _ _ z=>z.elim
 suffices start:∀ n s,I n s->'K' (compTurn e 0 it (.ref D) env) (fun fin s'=>match fin with | .done f=>R (.ok f) s' | .again c'=>c'=.compLoop e 0 it (.ref D) env/\∃ m,m<n/\I m s') (notedBy (model prog w) A env fun e s'=>R (.error e) s') s by
  show '愹'
  show '垏'
  show '垏'
  show '垏'
 intro n s hI;rw[ce.turn];refine '壞'
 cases r with
 | none=>exact af h₁
 | some v =>
  refine '娜';refine '墫'
  cases ok with
  | true =>
   show '拀';exact ae ('捞' (fun _ s₅ h₅=>af ⟨rfl,h₅⟩) ff)
  | false =>
   show '慟'
def TK(ce:'呢'){it acc:Value}['ӓ']
  (h0:'ȱ' (.compLoop e 0 it acc env) R s)
  (h:'K' (pyIter it) (fun it' s'=>codeAny (model prog w) A (.compLoop e 0 it' acc env) R s') (notedBy (model prog w) A env fun x s'=>R (.error x) s') s) :
  'ȱ' (.compStart e 0 it acc env) R s:=by
 suffices start:'K' (compStart e 0 it acc env) (fun fin s'=>match fin with | .done f=>R (.ok f) s' | .again c'=>c'.quiet=true/\codeAny (model prog w) A c' R s') (notedBy (model prog w) A env fun x s'=>R (.error x) s') s by
  show '愹'
  ·exact '叀'
  ·exact '叀'
  ·exact '叀'
 have hq:∀ it',Code.quiet '尃'=true:=fun it'=>by rcases ce.kind with⟨_,_,_,_,rfl⟩ | ⟨_,_,_,_,rfl⟩ | ⟨_,_,_,_,_,rfl⟩<;>rfl
 unfold compStart;obtain⟨_,ecl⟩:=ce.cl;rw[ecl];show '<' (ask>>=_) _ _ s
 refine '嫎'
 split
 ·first
   | exact ae (af ('岗'))
   | exact '岗'
 ·first
   | exact ae (wpAny_rule ('墡'))
   | (refine '兜';show '<' (standAt iter.pos>>=_) _ _ s;exact '墡')
section E
def mN(o:HO):Prop:='嶕'/\'嶖'
section
variable {K:ad}{Z:'1'}{m m1 m':Mu}{H H1 H':Hp}{D:Addr}{o0 o1:HO}
def Br['垫']:∀ a vs,'伕'->'ʸ'->'в'/\SqL K '嗯' a vs:=fun 'Ɂ' =>
 ⟨⟨h1.1,'嫍'⟩,(cE hD).seq h2⟩
def oY['偅']:∀ a vs,'佬'->SqT K '佰' a vs:=fun b xs h=>by
 show '乚'
 ·have ne:b≠D:=by show '坬';exact mu.1 _ rfl
  exact 'Ө'
 ·have ne:b≠D:=by show '坬';exact '恆'
  exact '僋'
 show 'Ж'
def Tv['戜']:'峇':=by
 show '乚'
 ·exact 'Ө'
 ·exact '僋'
 show 'Ж'
def sU['偅']:∀ a o u,'ԑ'->'Ő' D o1 a='伲':=fun a o u q=>by
 rw[bF (by show 'P';rw[hD]at q;cases q;exact '恆')]
 exact q
def vY:∀ a vs,'в'->'ʸ'->'в'/\'峇':=fun 'Ɂ' =>
 ⟨h1,'寡'⟩
def YK['偛']['垫'](h:'Ɣ'):RD 'ʅ' '嗯' x v:=by
 cases x with
 | dat p=>exact '戝' h
 | cel a=>exact h
def Ty['偛']['偅'](h:'咤'):RD 'ʅ' '佰' x v:=by
 cases x with
 | dat p=>exact '抷' h (sU hD mu)
 | cel a=>exact h
def zm1['ğ']['垫']:Ok 'ʅ' '嗯':=by
 refine '司'
 ·show '偀';have ne:a≠D:=by show 'P';rw[hD]at h1;cases h1
  exact⟨o,'咥',h2.lift fun 'Ɗ'=>'戝' q⟩
 ·show '堁'
  ·have ne:a≠D:=by show 'P';exact '世' hD
   exact⟨ '丗','宅'⟩
  ·subst h;exact⟨(eE ok hD).1,'屨'⟩
end
mutual section G
def VG(ok:'唢')['偅']:Ok 'ʅ' '佰':=by
 refine '司'
 ·show '偀';have ne:a≠D:=by
   show 'P';have:='嵎'
   rw[h]at this
   cases this
  exact⟨o,'咥',h2.lift fun 'Ɗ'=>'抷' q (sU hD mu)⟩
 ·by_cases e:a=D
  ·subst e;exact '娭'
  ·exact '姱'
section E
def eR['Č']['匏'](fE:'僖'):'Á'->α->aS->Mu->'岘'
 | [],a,d,m,Q=>Q a d m
 | 'X',a,d,m,Q=>'В' fun d1 m1=>t d1 m1 fun b m2=>if b=true then fE d1 m2 a fun a' d' m3=>eR g t fE xs a' d' m3 Q else eR g t fE xs a d1 m2 Q
def kD['Č'](fE:'叭'):'僖':=fun d m a Q=>fE d m a fun a' m'=>Q a' d m'
structure ExtW (K:ad) (Z:'1') (D:Addr) (m:Mu) (H:Hp) ['堠']:Prop where
 t:'ͺ'
 l:∀ a vs,'в'->'媟'
 z:'巚'
 c:'娿'
 fz:'ʖ'
 fm:'宱'
 ll:∀ a vs,'в'->'媉'
section
variable {K:ad}{Z:'1'}{m m1 m' m2:Mu}{H H1 H' H2:Hp}{D:Addr}{ys zs:'-'}
def ExtW.refl:'勈' m H:='塷'
def ExtW.y(e:'伈'):ExtY 'ʅ' H '¯':='帺'
theorem ExtW.trans(a:'伈')(b:ExtW K Z D '¯' 'ū'):'勈' m2 H2 :=
 ⟨ '嬚','壱','嫼','岔','媠',fun x h=>by
  have q:=a.fm x h
  rw['履',q],'墲'⟩
def Ext.w(e:'岖'):'伈':=⟨e.t,e.l,fun a h=>e.z a '҈',e.c,e.fz,e.fm,e.ll⟩
def ExtW.put{o0 o1:HO}(hz:¬ Z D)['偅']:'勈' m (upd H D o1) :=
 ⟨ '囓',fun 'Ɂ'=>⟨h1.1,'寡'⟩,fun a h=>by
  have ne:a≠D:=by show 'P';exact hz h
  rw['ϣ'],'噚','囔','ŵ',fun 'Ɂ'=>by rw[bF '咾'];exact h2⟩
def ExtW.rd['偛'](e:'伈')(h:'咤'):'峆':=by
 cases x with
 | dat p=>exact RP.tr e.t (fun 'Ɂ'=>let 'μ':='喒';⟨ '応',q2⟩) p v h e.fz
 | cel a=>exact '哘'
def AQ(e:'序')['垪'](e2:'伈'):'哝' :=
 ⟨ '嫾','墁',fun a h=>(e2.z a h).trans (e.z a h),'屩','媋',fun a h=>by
  have q:=e.fm a h
  rw['尴',q],'塡'⟩
section E
structure AccR (K:ad) ['Č'] (AR:'付'):Prop where
 lift:∀ {Z Z':'1'} {m m':Mu} {H H':Hp} {a:α} {o:HO},('仍')->'恇'->AR Z' '¯' a o
 mu:∀ {Z:'1'} {m:Mu} {H:Hp} {a:α} {o:HO},'恇'->mN o
def PEm0['憨'](fE:'叭'):Prop :=
 ∀ (pins:'6') (s:Shared) (σ:L2.St) (H:Hp) (Z:'1') (d:aS) (m:Mu) (a:α) (o:HO) (Q:'嗰'),'.'->'巧'->'岙'->H D='G'->'巨'->fE d m a Q ->
  ']' (emit D X.env) (fun _ s'=>∃ a' m' H' o',Q a' m'/\Ext X.K (aU Z D) m H m' H'/\Ok X.K (aU Z D) m' H'/\AR (aU Z D) m' H' a' o'/\Inv X pins σ (upd H' D o') s') (fun _ _=>False) s
def Aw['憨'](fE:'僖'):Prop :=
 ∀ (pins:'6') (s:Shared) (σ:L2.St) (H:Hp) (Z:'1') (d:aS) (m:Mu) (a:α) (o:HO) (Q:'内'),¬ Z D->'.'->'巧'->'岙'->H D='G'->'巨'->fE d m a Q ->
  ']' (emit D X.env) (fun _ s'=>∃ a' d' σ' m' H' o',Q a' d' m'/\ExtW X.K Z D m H m' H'/\Ok X.K (aU Z D) m' H'/\RS X.K (aU Z D) m' H' d' σ'/\H' D=some o'/\AR (aU Z D) m' H' a' o'/\Inv X pins σ' H' s') (fun _ _=>False) s
def PEm0.up{X:Cx}{D:Addr}{emit:'Γ'}['Č']{AR:'付'}{fE:'叭'}(ac:AccR X.K AR)(h:PEm0 X D emit AR fE):Aw X D emit AR (kD fE):=by
 intro '匄' a o Q nz '势';refine aM (h '匄' a o _ '势') fun _ s9 ⟨a',m9,H9,o',q9,e9,ok9,ra9,I9⟩=>?_;have hD9:H9 D='G':='寢'
 have mu9:=ac.mu ha
 have rs9:=rs.ext e9
 refine⟨a',d,σ,m9,upd H9 D o',o',q9,e9.w.trans (ExtW.put nz '傎'),VG ok9 '傎','尵',cF,ac.lift (fun 'Ɗ'=>RP.tr (oY '傎') vY 'Ɗ' (sU '傎')) ra9,I9⟩;obtain⟨v,a1,a2⟩:='恈';exact⟨v,a1,Ty '傎' a2⟩
inductive MidG ['ĝ'] (P:'Ą') (s':L2.St) (H':Hp):Prop
 | mk (d':aS) ['抮'] (rs:'伖') (q:P 'Ü'):MidG '×' P 'ǉ'
inductive MidT ['ĝ'] (P:'Ż') (H':Hp):Prop
 | mk ['抮'] (q:P m'):MidT '×' P H'
inductive WI ['Ѓ'] (len:Nat) (K:ad) (Y:Cx) (pins:'6') (tn:'啝') (fp:'f') (Z:'1') (DD:Hp->β->Prop) (A:Mu->Hp->'凈') (EX:Mu->'Ń') (LP:Nat->'内') ['Î'] ['ʂ']:Prop
 | mk (i:Nat) (o:β) (acc:α) (d':aS) (m':Mu) (σ':L2.St) (H':Hp) (e:n=len-i) (hi:i<=len) (I:'堬' σ' H' s') (t:'怨') (fr:'Ԋ') (hD:DD H' o) (ra:A '¯' acc o) (ex:EX '¯') (ok:'ŝ') (rs:RS 'Ķ' d' σ') (lp:LP i '偾'):WI len K Y pins tn fp Z DD A EX LP n s'
section
variable {X:Cx}{e tg iter:Expr}{ifs:'E'}{emit:'Γ'}{scope:Scope}{NC:'#'}{fi:DI}{g:DG}{t:DT}{α:Type}{AR:Addr->'付'}{fE:'僖'}{newAcc:'嚉'}{ob:Obj}{a0:α}{o0:Addr->HO}
def Kx(ce:'呢')(ac:∀ D,AccR X.K (AR D))(hnew:∀ {Q:'9'} {s:Shared},'ʏ' {s with heap:=s.heap.push ob}->']' newAcc Q X.xe s)(hfr:ob.isFreed=false)
  (hob:∀ (H:Hp) (h:Heap) (a:Addr),sysModules<a->'Ƨ'='ҍ'->'ȳ' H h a (o0 a)) (h00:∀ D Z m H,AR D Z m H a0 (o0 D))
  ['争'] ['剴'] (he:∀ cl C s2 H2 pins fp D,Aw 'Ɇ' D emit (AR D) fE)
  ['愑'] {RL:'嗰'}
  ['憘'] (h:'Ʉ' fun xs m1=>eR g t fE xs a0 (cK src d) m1 fun a _ m=>RL a m)
  (fin:∀ (s5:Shared) (C D:Addr) (H':Hp) (m':Mu) (a:α) (o:HO),RL a m'->H' D='G'->'嚢'->'к'->'ʯ'->AR D Z '¯' a o->(∀ c,AR D '互' a o) ->
   (∀ c,RC X.K '互' c o->'偽' (aP m' D c) H'/\Ok X.K '互')->'呤'->'哟'->'啪' ->
   '卥') :
  ']' (comprehension e scope X.env pos' newAcc false (eval iter X.env) use) QQ X.xe s:=by
 obtain⟨RH,hRH⟩:∃ RH:'内',RH='库':='3';rw[<- hRH]at h;obtain⟨cl,hclos,hcl1,hcl2⟩:=MP (scope:=scope) (env:=X.env) fun x hx=>I.ok.has x (hfree x hx);refine wpAny_comprehension_free (use:=use) ce.cl.choose_spec hs hclos hkind hnames ?_;refine aM (hi 'R' (fun J H1=>∃ xs m1,'巩'/\'很'/\mV 'ϵ' xs J/\'拡' RH) I
  ⟨Z,d,m,_,ok,rs,h,'姁'⟩) '姿'
 show '愺';refine hnew (wpAny_newFunctionEnv hcell (by intro y hy;simp at hy) (fun h₁ hns₁ hsb₁=>?_) hkind)
 dsimp only at hns₁ hsb₁ ⊢
 generalize hH2:s₂.heap.push ob=HP at hns₁ hsb₁ ⊢
 have hC:HP.objs.size=s₂.heap.objs.size+1:=by rw[<- hH2,Heap.size_push]
 have leC:s₂.heap.objs.size<=HP.objs.size:='宸'
 have old:∀ b o,'峉'->'悴'='G':=fun '_'=>hsb₁.extBut b o (ao ('Ӆ' leC)) (ah _ (hH2▸ 'ϗ'))
 have hacc:h₁.get? s₂.heap.objs.size='ҍ':=hsb₁.extBut _ _ (by rw[hC];exact '呯') (ah _ (hH2▸ai _ hfr))
 have hD:H2 s₂.heap.objs.size=none:='工'
 have hkD:'安'=none:=by
  cases e:'安' with
  | none=>rfl
  | some o=>exact absurd (ag (I2.kIn _ o e)) 'ű'
 have obf:∀ b∈fp,∃ o,'峉'/\'仼':=T.obj 0 _ st2
 have hσ:∀ (i:Nat) (x:Str) (v:V),'喺'->('俢')[i]?='ή'->'堼':=fun i x v '~' _=>by
  obtain⟨j,q1,q2⟩:=zw4 h2;obtain⟨a1,a2,a3⟩:=hsrc.2 i x j h1 q1;exact⟨a3,hfree x a2,j,a1,q2⟩
 have I4:=fun tk=>U7 (o0:=o0 s₂.heap.objs.size) (cl:=cl) (NC:=NC) (σ':='俢') (tk:=tk) I2 f2 obf '扲' (by unfold cK;rw[av];exact hsrc.1.symm) hσ hC hns₁ old (hob ',' I2.big hacc)
 have st4:tn 0 h₁:=T.keep 0 _ _ st2 fun b _ o e=>old '_'
 have loop:∀ s₃:Shared,s₃={s₂ with heap:=h₁,toks:=s₂.toks+([]:'ʧ').length} ->
   codeAny 'B' X.A ('匾' (.ref it) (.ref s₂.heap.objs.size) (compEnvC scope cl HP.objs.size X.env))
    ('懨' (.ref s₂.heap.objs.size) HP.objs.size) s₃:=by
  rintro s₃ rfl;refine zh4 ce (WI '慘') ?_ xs.length ?_
  rotate_left
  ·have rs1:RS X.K Z m1 H2 'ɜ' ('俢'):=Z8 src '侐'
   refine⟨0,o0 _,a0,cK src d,m1,'俢',_,'Q','À',I4 _,st4,'Ɨ',cF,h00 'O',ok1.ext (cE hD),zm1 ok1 'ӝ',⟨rs1.1,'佋'⟩,'底'⟩
   ·show '拪';rw[bF ('刌')];exact '悖'
   ·obtain⟨v,q1,q2⟩:=rs1.2 i x hx;exact⟨v,q1,YK 'ӝ' q2⟩
  show '愶';have stat:∀ b∈fp,dJ 'Ц' [] H' b:=fun b hb=>by
   obtain⟨g0,g1,g2,g3,g4,g5⟩:=f2 b hb;show '拪';refine⟨fr5 b hb,ao (aj '剕' leC),'初',.inl hb,fun 'ǿ'=>g4 x c (hcl1 (x,c) (wW e)),'ų'⟩
   ·rcases List.mem_cons.mp (I2.stkSub b z) with q | q
    ·exact g1 q
    ·exact g2 q
   ·rcases 'Ό' with q | q
    ·exact g5 p q
    ·cases q
  obtain⟨y1,y2⟩:='忤'
  by_cases hlt:'凢'
  ·show '懸';refine aM (T.item 'Ц' '勮' i '懿' go) '円';show '愡'
   have e56:Ext X.K 'ʛ' '¯' m' H6:='廡'
   have rv:=yy'.rd (fun d v h=>t6 'ӝ' eX h) ok5
   have hDy:='廢'
   have racc:='凪' (RP.ext e56) racc
   have eX:=Ah eX 'ӝ' e56
   have rs5:='悶'
   have ok5:='庖'
   have stat:∀ b∈fp,dJ 'Ц' [] H6 b:=fun b hb=>⟨fr6 b hb,(stat b hb).2⟩
   have I6':=I6.pinned stat '弣'
   have over:∀ {s7:Shared} {σ7:L2.St} {H7:Hp} {ys7:HO} {acc7:α} {d7:aS} {m7:Mu},Inv 'Ц' ([]++'忥') 'Й' s7->H7 s₂.heap.objs.size=some ys7->AR '戣' m7 H7 acc7 ys7 ->
     '偹' m1 H2 m7 H7->Ok '埂'->RS '埂' d7 σ7->('匐' acc7 d7 m7 RH) ->
     ∃ n,n<'嘣'/\WI '慘' n s7:=by
    show '慙'
    show '戹'
   refine aM (hg '坖' s6 σ' _ x u (MidG X.K 'ʛ' m' H6 fun d7 m7=>t d7 m7 fun b m2=>if 'ž' then fE d7 m2 acc '姃' else '匐' acc d7 m2 RH) I6' r6
    '增') '廣'
   show '憠';refine aM (ht '坖' s7 'Й' (fun b=>MidT '埂' fun m8=>if 'ž' then fE d7 m8 acc '姃' else '匐' acc d7 m8 RH) I7
    '外') '廤'
   show '憅'
   have hD8:H8 s₂.heap.objs.size=some ys:='宊'
   have racc8:='凪' (RP.ext e68) racc
   cases b with
   | false =>
    rw['Ć']at q8;exact over I8 hD8 racc8 '帾' ok8 '凔' q8
   | true =>
    rw['w']at q8;refine aM (he '坖' _ s8 σ7 H8 Z d7 m8 acc ys _ ('峊') I8 ok8 '凔' hD8 racc8 q8) fun _ s9 hq0=>?_;obtain⟨a',d9,σ9,m9,H9,o',q9,e9,ok9,rs9,hD9,ra9,I9⟩:=hq0;exact over I9 hD9 ra9 (AQ '帾' 'ӝ' e9) ok9 rs9 q9
  ·have ei:'嘥':=')'
   subst ei;rw[List.drop_length,hRH]at lp5;refine aM (T.done 'Ц' '勮' _ '懿' y2) '円';show '技';have IX:=VW I2 f2 I6 leC '峋'
   have nz:¬ Z s₂.heap.objs.size:='峊'
   have mD:=(ok5.z _ 'π').1
   have trc:∀ c (a:Addr) (vs:'-'),('嚗'/\¬ aU '扡' a)->'弤'->(aP m' s₂.heap.objs.size c a=none/\¬ Z a)/\'弤':=fun c '偱'=>⟨⟨by rw[bD fun z=>q1.2 'ˈ'];exact q1.1,'嶝'⟩,q2⟩
   refine fin s5 HP.objs.size s₂.heap.objs.size H' m' acc ys lp5 hDy mD 'γ' (zr9 ok5) ('凪' ('墘') racc) (fun c=>'凪' (fun 'Ɗ'=>'勺' (trc c) p v q) racc) (fun c rc=>'悸') ⟨_,I6.loc.choose_spec.1⟩ IX ⟨I6.free,Nat.ne_of_gt (aj I2.lt leC),Nat.le_trans I2.sz leC,'喤','ų'⟩
   ·refine⟨fun a vs q=>'γ'.t a vs q,fun '偱'=>?_,fun a q=>'γ'.z a q,'嘨','γ'.fz,'嘨','γ'.ll⟩
    ·obtain⟨_,q3⟩:=e1.l '偱';have ne:=SqL.ne 'ӝ' q3
     obtain⟨q4,q5⟩:='γ'.l '偱';exact⟨by rw['˗'];exact q4,q5⟩
    ·by_cases ea:'嵑'
     ·subst ea;rw[bC];rfl
     ·rw[bD ea];exact 'γ'.c a q
    ·have fq:='γ'.fm a q
     have ne:'峌':=by
      show 'P';rw[mD]at fq;rw[<- fq]at q
      cases q
     rw['˗'];exact fq
   ·refine⟨fun a c' q=>?_,'嘨'⟩
    ·by_cases ea:'嵑'
     ·subst ea;rw[bC]at q
      cases q
      exact⟨_,hDy,rc⟩
     ·rw[bD ea]at q;obtain⟨o,q1,q2⟩:=ok5.g a c' q;exact⟨o,q1,q2.lift fun p v q3=>'勺' (trc c) p v q3⟩
    ·have ne:'峌':=fun z=>nz (z▸q)
     obtain⟨q1,q2⟩:=ok5.z a ('ˍ');exact⟨by rw['˗'];exact q1,q2⟩
   ·obtain⟨v,q⟩:=I2.cell 'ǿ';exact ao (aj q.lt leC)
   ·exact ao (aj (ag (I2.pin p hp).1) leC)
 exact TK ce '恉' ('捹' st4 (loop _ rfl))
section E
section
variable {X:Cx}{tg iter elt:Expr}{ifs:'E'}{scope:Scope}{NC:'#'}{fi:DI}{g:DG}{t:DT}{f:DE}{pos:Pos}
def Tg(elt:Expr):'Γ':=fun D env=>do let _ <- call '呥' ['倗',<- '嗱']
def SR:CompE 'Ӧ' '堓' (Tg elt):=⟨ '宻','3',fun it D env=>rfl⟩
def mO(K:ad)(_:Addr)(Z:'1')(m:Mu)(H:Hp)(ps:'(')(o:HO):Prop:=∃ vs,o=.lst vs/\'ȅ'
def xQ{K:ad}(D:Addr):AccR K (mO K D):=⟨fun tr ⟨vs,e,h⟩=>⟨vs,e,'忝'⟩,fun⟨vs,e,_⟩=>by subst e;exact '姙'⟩
def lE(f:DE):aS->Mu->'('->'容':=fun d m acc Q=>'s' fun y m1=>∃ p,y=.dat p/\acc.length<sizeLine/\Q (acc++[p]) m1
theorem Pp:∀ xs acc d m Q,'嵒'=eR g t (kD (lE f)) xs 'Ø' fun a _ m'=>Q a m'
 | [],_,_,_,_=>rfl
 | 'X',_,_,_,_=>by simp only[bV,eR,kD,lE,Pp xs]
def Z5{D:Addr}(he:'巪')['Ӕ']:PEm0 X D (Tg elt) (mO X.K D) (lE f):=by
 intro '匄' acc o Q '势';obtain⟨vs,rfl,hr⟩:=ha;have h1:=he 'R' (fun v H1=>∃ p m1,RP '偒' m1 H1 p v/\Ext '匿' m1 H1/\Ok '偒' m1 H1/\'嫏') I
  ⟨_,d,m,_,ok,rs,q,fun '扇'=>by
   show '憤'⟩
 rw[hx]at h1;refine ae (aM h1 '店');obtain⟨y,H9,I9,ry,p,m9,rp9,e9,ok9,hz,q9⟩:=hq0;have hD9:='寢'
 have racc9:=RPs.ext e9 _ _ hr
 have h2:=zU pins s9 σ '扴' (fun v H10=>H10=upd H9 D ('徉')) I9 rfl '伹' ⟨_,vs,y,rfl,rfl,hD9,by rw[racc9.length];exact hz,rfl⟩
 rw[hx]at h2;refine ae (aM h2 fun rv s10 hq0=>'ſ');show '憳';exact⟨_,m9,H9,'徉',q9,e9,ok9,⟨_,rfl,'奢'⟩,I10⟩
def xH['坡']{D:Addr}['˻']['Ј'](hDo:H' D='冠')(mD:'嚢')(ar:RPs 'Ķ' ps vs)(ar':∀ c,mO K D '互' ps '信')
  (rc:∀ c,RC K '互' c '信'->'ʄ' (aP m' D c) H'/\Ok K '互'):RD 'Ķ' 'ʨ' 'ƪ'/\'ʄ' (aP m' D (.l ps)) H'/\Ok K Z '兰' H':=by
 have rc:=rc '丽' (by obtain⟨vs',e',h'⟩:=ar' '丽';cases e';exact h')
 refine⟨?_,rc⟩;show 'ô';exact⟨D,vs,rfl,⟨mD,fun z=>by have:=(rc.2.z D z).1;rw[bC]at this;cases this⟩,.inl (.inl hDo),ar⟩
def Ac['倷']
  ['挶'] (h:'Ʉ' fun xs m1=>bV g t f xs [] (cK src d) m1 RL)
  (fin:∀ (s5:Shared) (C D:Addr) (H':Hp) (m':Mu) (ps:'('),RL ps m'->'к'->'ʯ'->'婫'->'呤'->'哟'->'啪'->('嚢'/\'偽' (aP m' D (.l ps)) H'/\Ok X.K Z '兰' H') ->
   '卥') :
  ']' (comprehension (.ListComp elt [⟨tg,iter,ifs,0⟩] scope pos) scope X.env pos' (newList []) false (eval iter X.env) use) QQ X.xe s:=by
 simp only[Pp]at h;refine '憦' SR (fun D=>xQ D) (ob:={cls:=.type "list",data:=.seq #[]}) (fun {Q s} q=>?_) rfl (fun H h a _ e=>?_) (fun _ _ _ _=>⟨[],rfl,by simp[RPs]⟩) src hc hi hg ht (fun cl C s2 H2 pins fp D=>(Z5 (he cl C s2 H2 pins fp) rfl).up (xQ D)) hkind hcell hnames hfree hsrc hs I ok rs h ?_
 ·exact '巬'
 ·exact '孛'
 show '愽';exact '慾' off ⟨mD,(xH hDo mD ar ar' rc).2⟩
def GY['倷']
  ['倦']
  ['ϭ'] :
  '卛':=.mk <| by
 show '坰';refine '堭' hkind hcell hnames hfree hsrc hs (use:=none) (QQ:=EP X pins σ Q) (RL:=fun ps m2=>R (.dat (.list ps)) m2) I ok rs h ?_;show '圞';exact '壁'
@[simp] def lZ['坃'](f:DE):DE:=fun 'H'=>'Ʉ' fun xs m1=>bV g t f xs [] (cK src d) m1 fun ps m2=>∀ a,m2 a=none->Q (.cel a) (aP m2 a (.l ps))
def YN['倷']
  ['倦']
  ['ϭ'] :
  '卜':=.mk <| by
 show '坰';refine '堭' hkind hcell hnames hfree hsrc hs (use:=none) (QQ:=EP X pins σ Q) (RL:=fun ps m2=>∀ a,m2 a=none->R (.cel a) (aP m2 a (.l ps))) I ok rs h ?_;show '圞';exact⟨mm,hns,fun h' hs'=>⟨ '倗',H','律',rfl,k ',' H' (q D hcl.1) hcl.2.1 hcl.2.2 'Ӽ'⟩⟩
def GH['坌']['倷']
  ['倦']
  ['Ҳ'] ['囹'] :
  '卉':=.mk <| by
 intro 'R' E I h;show 'Ȯ';rw[exec_Assign_Name_used 'O' hsw];refine ae (wpAny_standAt ('ñ'));rw[arm_evalThenUse_ListComp];show 'Ǽ';refine aM ('堭' hkind hcell hnames hfree hsrc hs (use:=some (assign (.Name y py) X.env)) (QQ:=fun _ s'=>SP X pins E .next s') (RL:=fun ps m2=>R.nx (d.set i (some (.dat (.list ps)))) m2) I ok rs h ?_) (fun _ s' q=>af (af q));show '圞';show '倧' X.A (assign (.Name y py) X.env (.ref D)) _ _ s5
 refine wpAny_assign_Name (Nx I5 hN hi2 hx (v:='倗') rfl (fun s6 I6 ⟨a,hs6,ha⟩=>?_) hf);have ne:C≠a:=by
  rcases ha with rfl | ha
  ·exact off.l
  ·exact Ne.symm (off.c _ _ ha)
 refine⟨mm,hns.sameBut hs6 ne,fun h' hs'=>?_⟩;exact⟨_,H',off.inv I6 hs','抺' ((rs.ext e).set rd)⟩
section E
def Cr:Manifest.owners.lookup (String.ofList "desrever".toList.reverse)=some Manifest.sig_reversed:='ø'
def oN:Slot 'ƣ' '噞' '兊':='拵' (n:="__next__") (by rw[typeLookup_type,builtinLookup_eq_fast];kernel_rfl) (by decide +kernel) (by decide +kernel) (by decide +kernel) (by first | exact .inl (by decide +kernel) | exact .inr (by decide +kernel)) (by rw[isSubtype_type];kernel_rfl)
def Dz:'垻' "reversed.__next__"=some Builtin.«reversed.__next__»:=entryFor_of_tree 'Ś'
def Od(a:Value):argsOk '兊' '恋':=by
 unfold argsOk;rw[signature?_of (id:='兊') (n:="__txen__".toList) '挂']
 kernel_rfl
def Cc:Slot 'ƣ' "__iter__" '克':='拵' (n:="__iter__") (by rw[typeLookup_type,builtinLookup_eq_fast];kernel_rfl) (by decide +kernel) (by decide +kernel) (by decide +kernel) (by first | exact .inl (by decide +kernel) | exact .inr (by decide +kernel)) (by rw[isSubtype_type];kernel_rfl)
def ze3(a:Value):argsOk '克' '恋':=by
 unfold argsOk;rw[signature?_of (id:='克') (n:="__reti__".toList) '挂']
 kernel_rfl
def Vo:'垻' "reversed.__iter__"=some Builtin.«dict_keyiterator.__iter__»:=entryFor_alias (id':="dict_keyiterator.__iter__") 'Ś' (by first | rfl | show 'ȷ' | (unfold String.splitOn;simp +decide [String.splitOnAux])) 'Æ' 'Ś'
def PB:'损' "__reversed__"='ѽ':='Т'
def l8:isSubtype 'ɕ' ('Ŵ')='ơ':='僟'
def YT:Slot 'ƣ' 'Ѳ' '府':=.of (owner:='囋') (n:='Ѳ') '地'
def SW:TypeCalled 'ƣ' "reversed.__new__" '府':=⟨ 'J',F.create_reversed,⟨_,_,F.mro_reversed⟩,F.made_reversed,F.plain_reversed_new,F.sub_reversed_self,YT⟩
def wD(t:Addr)(i:Int):Obj:={cls:='Ԩ',data:='尸'}
def JI(t:Addr)(items:'T'):Meets (Builtin.«reversed.__new__» ⟨['Ԩ','Ϙ'],[]⟩) (fun _ R s=>'и'/\'咧' /\
  R '嫋' '壻'):='之' fun '偆'=>by
 obtain⟨ht,hz,h⟩:=hs;unfold Builtin.«reversed.__new__»;refine ae (wpAny_of_eq (newClass_reversed _) ?_)
 show '˱'
 refine ae ('戨' (ae (wpAny_of_eq (a:=()) (by first | rfl | kernel_rfl) ?_)))
 show '˱'
 refine ae (wpAny_specialOf ht.typeIs PB ?_)
 show '˱'
 show 'Ǽ';show '<' (isInstance (.ref t) (.type "dict")>>=_) _ _ s
 refine ae (wpAny_isInstance ht.typeIs l8 ?_);show '<' (specialOf (.ref t) (Str.ofString "__getitem__")>>=_) _ _ s
 refine '壶';show '<' (pure true) _ _ s
 refine 'ſ';show '<' (call (Value.builtin "len") [Value.ref t]>>=_) _ _ s
 refine ae (PyProof.Rows.len_tuple ht hz ?_);refine 'ȑ';show 'Ǽ';show '<' (newObj (.type "reversed") (.fields #[.ref t,rawInt ((items.size:Int)-1)])) _ _ _
 exact wpAny_newObj_type '哺'
section
variable {prog:Program}{w:World}{A:Around}{E:'9'}{s:Shared}
def zo4{t:Addr}['勊']['埻'](hz:'咧')
  (h:'ʏ' {s with heap:=s.heap.push (wD t ((items.size:Int)-1)),toks:=s.toks+1+1}):'K' (call (.type "reversed") [.ref t]) Q E s :=
 callType_new SW '&' (F.typeCall_reversed_1 _) (F.newCall_reversed_1 _) '媹' F.entry_reversed_new (JI t items) ⟨ht,hz,'儷',h⟩
def IsRv['æ'](a t:Addr)(i:Int):Prop:=∃ o,'Ų'/\o.cls='Ԩ'/\o.data='尸'
def IsRv.typeIs{a t:Addr}{i:Int}(x:IsRv s.heap a t i):s.TypeIs 'Ê' 'ƣ':=let ⟨o,ho,hc,_⟩:=x;⟨o,ho,hc⟩
def N5{it t:Addr}{i:Nat}['勊']{x:Value}{Q:'б'}(hit:'垗' (i:Int))(ht:'и')(hz:'咧')(hx:'別'='x')
  (hQ:∀ h' tk,IsRv h' it t ('ň'-1)->'屫'->Q ('x') 'а'):'娀':=by
 show '抚';have hi:i<items.size:=(Array.getElem?_eq_some_iff.mp hx).1
 show '愼'
 show '˱'
 refine '婬';refine '姚';show '<' (if (i:Int)<0 then _ else _) _ _ s
 rw['ɐ']
 refine '壶'
 show '˱'
 rw['冀']
 refine ae (wpAny_mkInt (ae (wpAny_attempt (getItem_tuple (j:=i) ht 'Ǳ' ?_ hx ?_))))
 ·unfold seqIndex?;have h0:'後':=')'
  simp[h0,hi]
 ·show '˱'
  refine '姚';show '<' (setField (.ref it) 1 (rawInt ((i:Int)-1))>>=_) _ _ _
  refine '厷'
  refine af ⟨x,rfl,af (hQ _ _ ?_ '仵')⟩;refine '塮';rw['嵓'];simp
def K8{it t:Addr}{Q:'б'}['Ѝ'](hit:'垗' (-1))
  (hQ:∀ h','岚'->'岛'):'娀':=by
 show '抚';show '愼'
 show '˱'
 refine '婬';refine ae ('偄' (x:=rawInt (-1)) rfl ?_);show '<' (if (-1:Int)<0 then _ else _) _ _ s
 rw['ʣ']
 refine '兜';show 'Ǽ';show '<' (setField (.ref it) 1 (rawInt (-1))>>=_) _ _ _
 refine '厷'
 have ho1:=Heap.get?_update_self (Obj.mapFields ('唾' 1 ('嘩'))) ho '姛'
 refine wpAny_setField ho1 '屬' 'C' ?_
 show 'Ǽ';have eb:∀ f g:Obj->Obj,Heap.ExtBut it s.heap ((s.heap.update it f).update it g):=fun f g b o' hb e=>by
  rw['孜','孜'];exact e
 show '<' (newExc (.type "StopIteration") []>>=_) _ _ _
 show '慴'
 refine '塽'
 refine '僛'
 show '抁'
 first | rw['叹'] | rw[hh]
 refine '岜';refine ae ('憝' ⟨_,ai _ rfl,rfl⟩ isSubtype_stop ?_);exact af (hQ _ (((eb _ _).push _).push _))
def Bg{it t:Addr}{i:Int}['ö'](hit:'垗' i)(h:Q 'Ƥ' s):'K' (pyIter (.ref it)) Q E s:=by
 refine wpAny_pyIter_slot hit.typeIs Cc (wpAny_call_entry Cc hit.typeIs Vo ?_ (ze3 _));show '<' (ret (.ref it)) _ _ s
 exact af ⟨_,rfl,'ƣ',_,hit.typeIs,oN.lookup,h⟩
section E
end
mutual section G
def i9['Ҹ']['Î']:It :=
 ⟨fun i H=>i<n/\∃ xs,'Ǜ'/\'几',fun '傃'=>H'=H/\∀ xs,'Ǜ'->xs[n-1-i]?='x',fun i _=>i=n⟩
def R9['圶']['Î']:'勒' (i9 K a n) [it] it (fun i h=>i<=n/\IsRv h it a ((n:Int)-1-(i:Int))) where
 mem:='Q'
 obj:=fun '偗'=>by
  show '偘'
  subst e;obtain⟨_,o,e,c,d⟩:=st;exact '厪'
 keep:=fun '勳'=>⟨st.1,let ⟨o,e,r⟩:=st.2;⟨o,'帧',r⟩⟩
 item:=by
  show 'ҧ';obtain⟨hi,xs,hq,hn⟩:=hg;show '劙';show '乾'
  have hx:xs[n-1-i]?=some (xs[n-1-i]' '%'):='ͻ'
  show '场'
  have e1:'庝'='庞':=')'
  have st2:=st.2
  rw[e1]at st2;have hn:=gX
  refine N5 st2 p 'ɑ' '堆' fun h' tk st' sb=>?_
  have I1:'婑':=I.turned '嫣' '勆'
  show '坮';have e2:'庞'-1='ĉ'-1-((i+1:Nat):Int):=')'
  exact⟨u,rfl,pA (s:='а') e c d '&' ⟨_,H,I1,ru,'妙',⟨hi,by rw[<- e2];exact st'⟩,'儢'⟩⟩
 done:=by
  show 'ҧ';have hg':i=n:=hg
  subst hg';show '乘'
  have e1:'ň'-1-'ň'=-1:=')'
  have st2:=st.2
  rw[e1]at st2;exact K8 'ζ' st2 '傡'
 self:=fun '偯'=>Bg st.2 h
def AS(l:Addr)(items:'T')(x:Value)(e:'悍')(j:Nat)(hj:j<items.size)(hit:e items[j]=true)(hno:∀ m (hm:m<items.size),m<j->e items[m]=false) :
  Meets (Builtin.«tuple.index» ⟨['Ϛ',x],[]⟩) (fun A R s=>'乷' l items/\(∀ y,y∈items->SeqAt.EqAt A.in1 s y x (e y))/\R (.ok (.ret (.int j s.toks))) 'Ή') :=
 '之' fun 'Ǻ' A R s h=>by
  obtain⟨ht,he,h⟩:=h;unfold Builtin.«tuple.index»;refine ae (wpAny_of_eq (a:=(Value.ref l,[x])) 'ď')
  show '˱'
  refine 'ӻ'
  show '˱'
  refine ae (af ('ȑ'));rw[Nat.min_self,Std.Legacy.Range.forIn_eq_forIn_range'];refine ae ('担' (fun rest b s'=>s'=s/\∃ k,k<=j/\rest=List.range' k (items.size-k)) _ ?_ ?_ _ _ ?_)
  ·rintro i rest b s' ⟨rfl,k,hk,hr⟩;have hlt:k<items.size:=')'
   obtain⟨n,hn⟩:∃ n,'嗲'=n+1:=⟨ '嗲'-1,')'⟩
   rw[hn,List.range'_succ]at hr;obtain⟨rfl,rfl⟩:=List.cons.inj hr;have hx:'別'=some items[i]:=Array.getElem?_eq_getElem hlt
   simp only[hx];refine ae (he _ (Array.getElem_mem hlt) 'Ǻ' _ _ ?_)
   by_cases hij:i=j
   ·subst hij;rw[hit];exact ae (ae (wpAny_mkInt (af (af '哺'))))
   ·rw[hno i hlt '%']
    exact af ⟨rfl,i+1,')',by congr 1;omega⟩
  ·rintro b s' ⟨rfl,k,hk,hr⟩;have:='˟' hr
   rw[List.length_range']at this;show 'ƹ'
  ·exact⟨rfl,0,'À',by simp[Std.Legacy.Range.size]⟩
theorem wZ:∀ {zs:'#'} {us:'5'},'咍'->∀ i (h:i<us.length) (h2:i<zs.length),∃ t,us[i]=.str zs[i] t
 | [],_,.nil,i,h,_=>'寣'
 | 'ţ',_,'ȓ',0,_,_=>let ⟨k,e⟩:=r;⟨k,e⟩
 | 'ţ',_,'ȓ',i+1,h,h2=>wZ t i (Nat.lt_of_succ_lt_succ h) (Nat.lt_of_succ_lt_succ h2)
theorem Ae{y:Str}:∀ (zs:'#') (m:Nat) (h:'凫'),m<'侶'->zs[m]≠y
 | [],_,h,_=>'寣'
 | 'ţ',0,_,h=>by
  intro e;rw[List.getElem_cons_zero]at e;rw[e,List.idxOf_cons_self]at h;exact absurd h 'ű'
 | 'ţ',m+1,hl,h=>by
  rw[List.getElem_cons_succ];refine Ae zs m (Nat.lt_of_succ_lt_succ hl) ?_;rw[List.idxOf_cons]at h
  cases e:z==y with
  | true=>simp[e]at h
  | false=>simp[e]at h;omega
section
variable {X:Cx}{a e o:Expr}{es:'E'}{f g:DE}{ga:DA}{pos p p1 p2:Pos}
def EE(K:ad):'Ɋ':=fun x 'ũ'=>∃ (a:Addr) (y:Str) (zs:'#'),'ź'/\xs=['ˊ']/\'呦'/\'嫩'
def Pr:MtR X '喻' (EE X.K):=by
 show '慷'
 cases rx
 show '慹';show '劙';show '乾'
 rw[av]at hl;have hj:'嶞':='孝'
 have hit:'墸':=fun m hm hm2=>by
  obtain⟨t,e⟩:='孞'
  have e':'射':='养'
  rw[e'];rfl
 have hfl:'吷':=by
  show '倫'
 refine call_meets PySem.F.slot_tuple_index p.typeIs PySem.F.entry_tuple_index (PySem.F.args_tuple_index_2 _ _) (AS 'ɽ' '戊' ?_ ?_) ⟨p,?_,?_⟩
 show '捑'
 ·show '戺'
  show '憊'
 ·exact '夆'
 ·exact '嫐'
theorem gD['¤']:∀ {zs:'#'} {vs:'-'},'å' (zs.map PyData.str) vs->vs='嗳'
 | [],vs,h=>'咩'
 | 'ţ',vs,h=>by
  show '圄';rw['ɴ'];rfl
theorem qB['¤']:∀ (zs:'#'),'å' (zs.map PyData.str) (zs.map V.str)
 | []=>'丕'
 | 'ţ'=>by
  simp only[au,RPs];exact⟨_,_,rfl,'ǔ',qB zs⟩
def KT['Ҹ']['ӕ']:Prop:=∃ (o:Obj) (its:'T') (n:Nat),'传'/\'Ԑ'/\'ɘ'/\'全'/\'兔'/\Vals 'ʱ' its.toList
def KT.sq{K:ad}['勜']{H:Hp}(h:'嚣'):'呦':=by
 obtain⟨o,its,n,h1,h2,h3,h4,h5,h6⟩:=h;exact '婘'
def Ym['Ϲ']{zs:'#'}['Ҭ'](hk:'悺')['Ť']:'偻' (LE X.K (aC (.tuple (zs.map .str)))) :=
 PE.imp '吇' fun 'Ú'=>by
  show 'ƃ';refine '尺';show 'ô';exact⟨c,_,rfl,hk.sq,qB zs⟩
@[simp] def vZ['ӕ'](g:DE):DE:=fun 'H'=>g d m fun y m1=>∃ z:Str,'伺'/\'倘'/\Q '宋' m1
def VP['Ϲ']{zs:'#'}{apos cpos:Pos}['Ҭ'](hk:'悺')(he:'Ԟ')['Ť']
  (hbase:'拋' "index" X.env (eval (.Name x p) X.env)='儙':=by rfl)
  ['剽']:PE X ('ä' ('Ƣ' 'λ' '倆' apos) '亁') ('A' (vZ zs g)) :=
 PE.imp (qF (T:='â') (id:='喻') (name:='倆') PySem.F.plainAttrs_tuple PySem.F.slot_tuple_index PySem.F.type_tuple_index Pr '吇' '劸') fun 'Ú'=>by
  show 'ƃ';obtain⟨o,its,n,h1,h2,h3,_⟩:=id hk;refine⟨.inr (.inl ⟨rfl,o,h1,h2,h3⟩),?_⟩;refine⟨Z,d,m,_,ok,rs,h,fun '偶' '弥' 'ȼ'=>?_⟩;subst ey
  cases rd.str
  exact⟨c,z,zs,rfl,rfl,hk.sq,hz,'寿'⟩
@[simp] def gK:D2
 | '不','Σ',m,Q=>'夗'
 | '不','ɔ',m,Q=>'夗'
 | '冤','Σ',m,Q=>'备'
 | '冤','ɔ',m,Q=>'备'
 | '冷','Σ',m,Q=>'夘'
 | '冷','ɔ',m,Q=>'夘'
 | _,_,_,_=>False
@[simp] def tU:D2
 | '不','Σ',m,Q=>'卦'
 | '不','ɔ',m,Q=>'卦'
 | '冤','Σ',m,Q=>'壼'
 | '冤','ɔ',m,Q=>'壼'
 | '冷','Σ',m,Q=>'复'
 | '冷','ɔ',m,Q=>'复'
 | _,_,_,_=>False
theorem lN(x:Str):∀ zs:'#',jQ '҇' 'ʱ'='Ԭ'
 | []=>rfl
 | 'ţ'=>by
  have ih:=lN x zs
  show '圬';show '呲'='哽'
  show '囿'
def nP['ӕ']:'吷':=by
 show '倫'
theorem nL(x:Bool):∀ zs:'Ȗ',jQ (.bl x) ('嘪')='Ԭ'
 | []=>rfl
 | 'ţ'=>by
  have ih:=nL x zs
  show '圬';show '呲'='哽'
  show '囿'
def rT(zs:'Ȗ'):('嘪').all fZ=true:=by
 show '倫'
theorem nI['¤']:∀ {zs:'Ȗ'} {vs:'-'},'å' (zs.map PyData.bool) vs->vs='嘪'
 | [],vs,h=>'咩'
 | 'ţ',vs,h=>by
  show '圄';rw[nI h2];rfl
theorem mW(x:Int):∀ zs:'?',jQ (.int x) ('嗴')='Ԭ'
 | []=>rfl
 | 'ţ'=>by
  have ih:=mW x zs
  show '圬';show '呲'='哽'
  show '囿'
def rD['仃']:('嗴').all fZ=true:=by
 show '倫'
theorem oJ['¤']:∀ {zs:'?'} {vs:'-'},'å' (zs.map PyData.int) vs->vs='嗴'
 | [],vs,h=>'咩'
 | 'ţ',vs,h=>by
  show '圄';rw[oJ h2];rfl
def Ki:'匡' gK:=by
 show 'Â';unfold gK at h
 show 'j'
 ·show 'ǰ'
  show '˴'
  show '乖'
  cases 'ɴ'
  refine 'Ӊ' ⟨a,_,rfl,.inl h1,rfl,nP zs,?_⟩;show '垼'
 ·show 'ǰ'
  show '˴'
  show '乗'
  cases 'ɴ'
  refine 'Ӊ' ⟨a,_,rfl,.inr h1,rfl,nP zs,?_⟩;show '垼'
 ·show 'ǰ'
  cases r1.bl
  show '乖'
  cases nI h2
  refine 'Ӊ' ⟨a,_,rfl,.inl h1,rfl,rT zs,?_⟩;rw['Ć',nL];exact 'ĸ'
 ·show 'ǰ'
  cases r1.bl
  show '乗'
  cases nI h2
  refine 'Ӊ' ⟨a,_,rfl,.inr h1,rfl,rT zs,?_⟩;rw['Ć',nL];exact 'ĸ'
 ·show 'ǰ'
  cases r1.int
  show '乖'
  cases oJ h2
  refine 'Ӊ' ⟨a,_,rfl,.inl h1,rfl,rD zs,?_⟩;rw['Ć',mW];exact 'ĸ'
 ·show 'ǰ'
  cases r1.int
  show '乗'
  cases oJ h2
  refine 'Ӊ' ⟨a,_,rfl,.inr h1,rfl,rD zs,?_⟩;rw['Ć',mW];exact 'ĸ'
 show '|'
def Cp:'偲' tU:=by
 show 'Â';unfold tU at h
 show 'j'
 ·show 'ǰ'
  show '˴'
  show '乖'
  cases 'ɴ'
  refine '京' ⟨a,_,rfl,.inl h1,rfl,nP zs,?_⟩;rw['w',lN];exact 'ĸ'
 ·show 'ǰ'
  show '˴'
  show '乗'
  cases 'ɴ'
  refine '京' ⟨a,_,rfl,.inr h1,rfl,nP zs,?_⟩;rw['w',lN];exact 'ĸ'
 ·show 'ǰ'
  cases r1.bl
  show '乖'
  cases nI h2
  refine '京' ⟨a,_,rfl,.inl h1,rfl,rT zs,?_⟩;rw['w',nL];exact 'ĸ'
 ·show 'ǰ'
  cases r1.bl
  show '乗'
  cases nI h2
  refine '京' ⟨a,_,rfl,.inr h1,rfl,rT zs,?_⟩;rw['w',nL];exact 'ĸ'
 ·show 'ǰ'
  cases r1.int
  show '乖'
  cases oJ h2
  refine '京' ⟨a,_,rfl,.inl h1,rfl,rD zs,?_⟩;rw['w',mW];exact 'ĸ'
 ·show 'ǰ'
  cases r1.int
  show '乗'
  cases oJ h2
  refine '京' ⟨a,_,rfl,.inr h1,rfl,rD zs,?_⟩;rw['w',mW];exact 'ĸ'
 show '|'
@[simp] def fJ:DC
 | ['ɓ'],m,Q=>'咏'
 | ['ю'],m,Q=>'咏'
 | ['ã'],m,Q=>∃ xs,'冇'/\'咏'
 | _,_,_=>False
def zl2:'Ƚ' (.type "tuple") fJ:=by
 show 'Ϫ';unfold fJ at h
 show 'j'
 ·show 'ȭ';have r0:=r1
  show '圖';exact yA 'ƺ' ⟨a,vs,rfl,.inr ⟨h1,'偕' r0⟩⟩
 ·show '堋';refine yA 'ƺ' ⟨a,vs,rfl,.inl ⟨h1,'佭'⟩⟩;have sm:'尻':=cE hl
  show '埗';exact '妇'
 ·show '圂';refine yA 'ƺ' ⟨_,vs,rfl,.inl ⟨ '冢','佭'⟩⟩;have sm:'尻':=cE hl
  show '埘';exact '妇'
 show '|'
def zn9:bootBuiltins 'ƣ'=some ('Ԩ'):='J'
@[simp] def uZ(f:DE):DI:=fun 'H'=>'s' fun x m1=>∃ ps,x=.dat (.tuple ps)/\Q (ps.reverse.map .dat) m1
def BY{tg:Expr}(hg:Gl X 'ƣ')(hm:X.mg 'ƣ'=none)(ha:'Ī')['埈']:'˺' (.Call (.Name "reversed" p) [e] [] pos) (LI X.K (uZ f)):=.mk <| by
 show '労';show '劐';have hA:=hJ (X:=X) ha iN '啩' '匱' (fun 'Ɖ'=>∃ a xs ps m1,vs='ɡ'/\'弡'/\'嵗'/\ZZ '嵖' m1/\'仕') I ⟨Z,d,m,_,ok,rs,h,fun '˪' ⟨ps,ex,q⟩ 'ȼ'=>by
  subst ex;show '圗';exact⟨a,vs,ps,m1,rfl,h1,h2,q,e1,ok1⟩⟩
 refine Call_ ('ҿ' zn9 (PyProof.Rows.callWith_type1 (aM hA fun us s1 ⟨vs,H1,I1,r1,q1⟩=>?_) hs rfl));obtain⟨a,xs,ps,m1,e,hq,rp,q,e1,ok1⟩:=q1;subst e;obtain⟨u,rfl,ru⟩:=gE r1
 cases ru
 obtain⟨its,rv,pt,hz⟩:='悯';show '乾'
 have hn:=gX
 refine zo4 pt 'ɑ' ?_
 have hit:IsRv (s1.heap.push (wD a ('咈'-1))) s1.heap.objs.size a ('啠'-1-'冲'):=by
  refine⟨_,'ń',rfl,?_⟩;show '喧'='喧'
  show 'ʍ';simp
 refine Bg (s:={s1 with heap:=_,toks:=_}) hit ?_;refine⟨s1.heap.objs.size,'哚',_,_,H1,rfl,I1.kept 'ч',R9 a _ xs.length,⟨ 'À',hit⟩,'Ɨ','峐'⟩
 ·have e:'哛':='ɏ'
  show '勥'
 ·intro 'ū' e2;have q1:=e2.t a xs hq
  have hlp:=rp.length
  refine '峅'
  ·obtain⟨pp,hp,rfl⟩:=oA hx;have hlt:'悻':=by
    have:=(List.getElem?_eq_some_iff.mp hp).1
    show 'ĵ'
   rw[List.getElem?_reverse hlt]at hp;obtain⟨v,hv,rv⟩:=rp.get hp;refine⟨⟨ ')',xs,q1,rfl⟩,'吁'⟩
   have:=y.2 xs q1
   rw[hlp]at this;rw[hv]at this
   cases this
   exact rv
  ·show(ps.reverse.map D.dat).length=xs.length
   rw[av,List.length_reverse];exact hlp.symm
section E
def chkB['偙'](env:Env):Bool:=scope.names.all fun y=>(decide ('凨'))&&(!decide (y.2=.local)||decide ('叞'))&&(!decide (y.2='Ϣ')||decide ('冥'='Ȏ')||decide ('冥'='ʼ'))
def chkS(N:'#')['偙'](env:Env):'#'->'¸'->Bool
 | [],[]=>true
 | 'X',o::os=>(match o with | none=>true | 'ǩ'=>decide (N[j]?='x')&&decide ('Ӯ')&&(decide ('嬆'='Ȏ')||decide ('嬆'='ʼ')))&&chkS N '匎' xs os
 | _,_=>false
def chkB.ok['做']['ӓ'](h:chkB '匎'=true):('ɇ')/\('Ͷ')/\∀ x,'Ӯ'->'姫':=by
 unfold chkB at h;rw[List.all_eq_true]at h;have q:∀ y∈scope.names,'凨'/\('娐')/\(y.2='Ϣ'->'冥'='Ȏ'\/'冥'='ʼ'):=fun y hy=>by
  have:=h y hy
  simp only[Bool.and_eq_true,Bool.or_eq_true,Bool.not_eq_true',decide_eq_true_eq,decide_eq_false_iff_not]at this;obtain⟨⟨a,b⟩,c⟩:=this;refine⟨a,fun e=>b.resolve_left (fun n=>n e),fun e=>?_⟩;rcases c with (c | c) | c
  ·exact absurd e c
  ·exact .inl c
  ·exact .inr c
 exact⟨fun y hy=>(q y hy).1,fun y hy=>(q y hy).2.1,fun x hx=>(q _ hx).2.2 rfl⟩
theorem chkS.ok{X:Cx}['做']:∀ {NC:'#'} {src:'¸'},'ʗ'->'Λ'
 | [],[],_=>⟨rfl,fun i x j h=>'џ'⟩
 | [],_::_,h=>'废'
 | _::_,[],h=>'废'
 | y::ys,o::os,h=>by
  simp only[chkS,Bool.and_eq_true]at h;show '勉';obtain⟨q1,q2⟩:=chkS.ok h2;refine⟨by rw[List.length_cons,List.length_cons,q1],fun i x j e1 e2=>?_⟩
  cases i with
  | zero =>
   simp at e1 e2;subst e1 e2;simp only[Bool.and_eq_true,Bool.or_eq_true,decide_eq_true_eq]at h1;exact⟨h1.1.1,h1.1.2,h1.2⟩
  | succ i=>exact q2 i x j '堌'
section
variable {X:Cx}{tg iter elt:Expr}{ifs:'E'}{scope:Scope}{fi:DI}{g:DG}{t:DT}{f:DE}{pos:Pos}
def RB['托']:'卛' :=
 GY '戬'
def SV['托']:'卜' :=
 YN '戬'
def l9['坌']['基']['慫']
  ['倥']
  ['囹']:'卉' :=
 GH (NC:=NC) i '倴' he '圕' hN hi2 hx hf hsw hs
section E
section
variable {prog:Program}{w:World}{A:Around}{R:'з'}{s:Shared}
def SO['愫'] :
  compTurn 'ŭ' 0 '乱'=(do
   '冄'
   match <- '丮' with
   | none=>'哼'
   | 'y' =>
    '儑'
    '冑'
    let mut ok:=true
    for c in ifs do
     if ok then ok <- '儆'
    if ok then
     let x <- '徐'
     '兲'
     let x <- '宽'
     let _ <- runOwn ('侵' 'ŭ' 1 '尅' acc env) env
    again ('τ' 'ŭ' 0 '乱')):='Ϝ'
def v7['愫'] :
  '墥'=(do
   '兲'
   match <- '丮' with
   | none=>'哼'
   | 'y' =>
    '岝'
    '廥'
    let mut ok:=true
    for c in ifs2 do
     if ok then ok <- '儆'
    if ok then
     (do let _ <- call '呥' [acc,<- '嗱'])
    again '墜'):='Ϝ'
def WZ['愬']
  (h0:'塨')
  (h:'K' (pyIter it) (fun it' s'=>codeAny (model prog w) A (.compLoop (.ListComp elt [⟨tg,iter,ifs,0⟩,⟨tg2,iter2,ifs2,0⟩] scope pos) 1 it' acc env) R s')
   (notedBy (model prog w) A env fun x s'=>R (.error x) s') s) :
  'ȱ' (.compStart (.ListComp elt [⟨tg,iter,ifs,0⟩,⟨tg2,iter2,ifs2,0⟩] scope pos) 1 it acc env) R s:=by
 refine codeAny_of_tree ?_;show '<' ((compStart (.ListComp elt [⟨tg,iter,ifs,0⟩,⟨tg2,iter2,ifs2,0⟩] scope pos) 1 it acc env).onRaise (fun x=>do noteFrame x env;standAt theWindowsPlace)) _ _ s
 refine wpAny_notedAt ?_;unfold compStart;show '<' (ask>>=_) _ _ s
 refine '嫎'
 split
 ·first
   | exact ae (af ('嵘'))
   | exact '嵘'
 ·first
   | exact ae (wpAny_rule ('墩'))
   | (refine '兜';show '<' (standAt iter2.pos>>=_) _ _ s;exact '墩')
def Wf['愬']{E:'9'}(hE:∀ x s,E x s->False)(I:'唣')
  (turn:∀ n s,I n s->'K' (pyNext it) (fun r s₁=>match r with
   | none=>R (.ok .next) s₁
   | some v=>wpAny (model prog w) A (letOwnedTupleGo tg2 it v) (fun _ s₀=>wpAny (model prog w) A (assign tg2 env v) (fun _ s₂ =>
     wpAny (model prog w) A (forIn ifs2 true fun c r=>if r=true then do let ok <- isTrue c env (eval c env);pure (ForInStep.yield ok) else pure (ForInStep.yield r)) (fun ok s₃ =>
      if ok=true then wpAny (model prog w) A (eval elt env) (fun x s₄ =>
       wpAny (model prog w) A (call (.builtin "list.append") [acc,x]) (fun _ s₅=>∃ m,m<n/\I m s₅) E s₄) E s₃
      else ∃ m,m<n/\I m s₃) E s₂) E s₀) E s₁) E s)
  ['Î'] (h:I n s) :
  '塨':=by
 have ff:∀ {E':'9'} (x:Value) (s:Shared),E x s->E' x s:=fun x s z=>(hE x s z).elim
 refine '像';show '倧' A ((compTurn (.ListComp elt [⟨tg,iter,ifs,0⟩,⟨tg2,iter2,ifs2,0⟩] scope pos) 1 it acc env).onRaise (fun x=>do noteFrame x env;theTreesLotGoes x)) _ _ s
 refine wpAny_noted ?_;rw[v7];refine '壞'
 cases r with
 | none=>exact af h₁
 | some v =>
  refine '娜';refine '墫'
  cases ok with
  | true =>
   show '拀';refine ae (ae ('捞' (fun x s₄ h₄=>ae (wpAny_mono h₄ (fun _ s₅ h₅=>af (af ⟨rfl,h₅⟩)) ff)) ff))
  | false =>
   show '慟'
section E
abbrev lK:=D->'妜'
def cP(st:lK):'Á'->'妜'
 | [],acc,d,m,Q=>Q 'Ø'
 | 'X',acc,d,m,Q=>st x 'Ø' fun 'Ǵ'=>cP st xs 'Ǵ' Q
def stepI['匏'](f:DE):lK:=fun x 'М'=>'В' fun d1 m1=>t d1 m1 fun b m2=>if b=true then f d1 m2 fun y m3=>∃ p,y=.dat p/\acc.length<sizeLine/\Q (acc++[p]) d1 m3 else Q acc d1 m2
def jT['匏'](fi2:DI)(st:lK):lK:=fun x 'М'=>'В' fun d1 m1=>t d1 m1 fun b m2=>if b=true then fi2 d1 m2 fun ys m3=>cP st ys acc d1 m3 Q else Q acc d1 m2
@[simp] def lR['坃'](fi2:DI)(g2:DG)(t2:DT)(f:DE):DE:=fun 'H'=>'Ʉ' fun xs m1=>cP (jT g t fi2 (stepI g2 t2 f)) xs [] (cK src d) m1 fun ps _ m2=>Q (.dat (.list ps)) m2
section
variable {Y:Cx}{tg iter tg2 iter2 elt:Expr}{ifs ifs2:'E'}{scope:Scope}{fi2:DI}{g2:DG}{t2:DT}{f:DE}{pos:Pos}
def EW(hc:Y.calm=true)(hx:∀ x s,Y.xe x s->False)(hi:PI Y tg2 iter2 (LI Y.K fi2))(hg:PG Y tg2 (LG Y.K g2))(ht:PF Y ifs2 (LT Y.K t2))(he:PE Y elt (LE Y.K f))
  ['圁'] {H:Hp} {Z:'1'} {D:Addr} {acc:'('} {ys:'-'} {d:aS} {m:Mu} {Q:'Ɉ'}
  (I:'庐') (hz:¬ Z D) (hD:'兛') (racc:RPs '千' acc ys) (ok:Ok '千') (rs:RS '千' d σ) (h:fi2 d m fun 'ç'=>'嬷') :
  '埀' (eval iter2 Y.env) (fun x s4=>wpAny (model Y.prog Y.w) Y.A (pyIter x) (fun it2 s5=>codeAny (model Y.prog Y.w) Y.A (.compStart (.ListComp elt [⟨tg,iter,ifs,0⟩,⟨tg2,iter2,ifs2,0⟩] scope pos) 1 it2 (.ref D) Y.env)
   (fun r s6=>r=.ok .next/\∃ σ' H' ys' acc' d' m',Inv Y pins σ' H' s6/\H' D=some (.lst ys')/\RPs Y.K (aU Z D) m' H' acc' ys'/\ExtW Y.K Z D m H m' H'/\Ok Y.K (aU Z D) m' H'/\RS Y.K (aU Z D) m' H' d' σ'/\Q acc' d' m') s5) Y.xe s4) Y.xe s:=by
 refine aM (hi 'R' (fun J H1=>∃ xs m1,Ext '千' m1 H1/\Ok 'ɾ' m1 H1/\mV 'ɾ' m1 H1 xs J/\'嬷') I
  ⟨aU Z D,d,m,_,ok,rs,h,'姁'⟩) '姿'
 show '愺';have hD2:H2 D='佌':=(e1.z _ 'π').trans hD
 have stat:∀ {H':Hp},('Ԋ')->∀ b∈fp,dJ Y pins H' b:='媝'
 have loop:'挷' (.compLoop (.ListComp elt [⟨tg,iter,ifs,0⟩,⟨tg2,iter2,ifs2,0⟩] scope pos) 1 (.ref it) (.ref D) Y.env)
   (fun r s6=>r=.ok .next/\∃ σ' H' ys' acc' d' m',Inv Y pins σ' H' s6/\H' D=some (.lst ys')/\RPs Y.K (aU Z D) m' H' acc' ys'/\ExtW Y.K Z D m H m' H'/\Ok Y.K (aU Z D) m' H'/\RS Y.K (aU Z D) m' H' d' σ'/\Q acc' d' m') s₂:=by
  refine Wf hx (WI '慥') ?_ xs.length ⟨0,ys,acc,d,m1,σ,H2,'Q','À',I2,st2,'崻',hD2,RPs.ext e1 '卄',ExtW.refl,ok1,'§','底'⟩
  show '愶';obtain⟨y1,y2⟩:='忤'
  by_cases hlt:'凢'
  ·show '懸';refine aM (T.item Y '勮' i '懪' go) '円';show '愡'
   have e56:Ext '匑' m' H6:='廡'
   have rv:=yy'.rd (fun d v h=>eX.rd h) ok5
   have hDy:='廢'
   have racc:=RPs.ext e56 '卄'
   have eX:=eX.trans e56.w
   have rs5:='悶'
   have ok5:='庖'
   have I6':=I6.pinned (stat fr6) '弣'
   have over:∀ {s7:Shared} {σ7:L2.St} {H7:Hp} {ys7:'-'} {acc7:'('} {d7:aS} {m7:Mu},Inv Y (pins++'忥') 'Й' s7->H7 D=some (.lst ys7)->RPs '勾' acc7 ys7 ->
     '埶' m1 H2 m7 H7->Ok '勾'->RS '勾' d7 σ7->('偍' acc7 d7 m7 Q) ->
     ∃ n,n<'嘣'/\WI '慥' n s7:=by
    show '慙'
    show '戹'
   refine aM (hg _ s6 σ' _ x u (MidG 'ɾ' m' H6 fun d7 m7=>t2 d7 m7 fun b m2=>if 'ž' then f d7 m2 '墈' else '偍' acc d7 m2 Q) I6' r6
    '增') '廣'
   show '憠';refine aM (ht _ s7 'Й' (fun b=>MidT '勾' fun m8=>if 'ž' then f d7 m8 '墈' else '偍' acc d7 m8 Q) I7
    '外') '廤'
   show '憅'
   have hD8:H8 D='佌':='宊'
   cases b with
   | false =>
    rw['Ć']at q8;exact over I8 hD8 (RPs.ext e68 '卄') (eX.trans e68.w) ok8 '凔' q8
   | true =>
    rw['w']at q8;refine aM (he _ s8 σ7 H8 (fun v H9=>∃ p m9,RP 'ɾ' m9 H9 p v/\Ext 'ɾ' m8 H8 m9 H9/\Ok 'ɾ' m9 H9/\'Β'/\'偍' (acc++[p]) d7 m9 Q) I8
     ⟨_,d7,m8,_,ok8,rs7.ext e8,q8,fun '扇'=>by
      show '憤'⟩) '店'
    obtain⟨y,H9,I9,ry,p,m9,rp9,e9,ok9,hz9,q9⟩:=hq0;have e69:=e68.trans e9
    have hD9:H9 D='佌':=(e69.z _ 'π').trans hDy
    have racc9:=RPs.ext e69 '卄'
    have rs9:='凔'.ext e9
    refine aM (zU _ s9 σ7 '扴' (fun v H10=>H10=upd H9 D (.lst (ys++[y]))) I9 rfl '伹' ⟨_,ys,y,rfl,rfl,hD9,by rw[racc9.length];exact hz9,rfl⟩) fun rv s10 hq0=>?_
    show '憳';refine over I10 cF ?_ ((eX.trans e69.w).trans (ExtW.put hz hD9 '姙')) (x8 ok9 hD9) '尵' q9
    ·exact RPs.tr (Az hD9) uQ _ _ ('奢')
    ·obtain⟨v,a1,a2⟩:='恈';exact⟨v,a1,Zh hD9 a2⟩
  ·have e:'嘥':=')'
   subst e;rw[List.drop_length]at lp5;refine aM (T.done Y '勮' _ '懪' y2) '円';show '技';exact⟨rfl,σ',H',ys,acc,d',m',I6,hDy,racc,(e1.w).trans eX,ok5,rs5,lp5⟩
 exact WZ loop ('捹' st2 loop)
section E
section
variable {X:Cx}{tg iter tg2 iter2 elt:Expr}{ifs ifs2:'E'}{scope:Scope}{NC:'#'}{fi fi2:DI}{g g2:DG}{t t2:DT}{f:DE}{pos:Pos}
theorem Pb{st:lK}:∀ xs acc d m Q,cP (jT g t fi2 st) xs 'М'=eR g t (fun d m acc Q=>fi2 d m fun ys m3=>cP st ys acc d m3 Q) xs 'М'
 | [],_,_,_,_=>rfl
 | 'X',_,_,_,_=>by simp only[cP,jT,eR,Pb xs]
def uI(e iter2:Expr):'Γ':=fun D env=>do
 let x <- '徐'
 '兲'
 let x <- '宽'
 let _ <- runOwn ('侵' e 1 '尅' 'ƪ' env) env
end
mutual section G
def QX:CompE 'ŭ' '堓' '壈':=⟨ '宻','3',fun it D env=>by
 rw[SO];unfold uI;refine congrArg ('冄'>>=·) (funext fun _=>congrArg ('丮'>>=·) (funext fun r=>?_))
 cases r with
 | none=>rfl
 | some v =>
  refine congrArg ('儑'>>=·) (funext fun _=>congrArg ('冑'>>=·) (funext fun _=>congrArg (_>>=·) (funext fun ok=>?_)))
  cases ok with
  | true=>simp only[if_true,bind_assoc,pure_bind]
  | false=>rfl⟩
def Us{D:Addr}['Ӓ']['Ӕ'](hi:PI X tg2 iter2 '恍')(hg:PG X tg2 '悽')(ht:PF X ifs2 '悾')(he:'巪')(hs:∀ x,'坐' X.env x=pure x) :
  Aw X D '壈' (mO X.K D) (fun d m acc Q=>fi2 d m fun ys m3=>cP 'ʬ' ys acc d m3 Q):=by
 intro '匄' acc o Q nz '势';obtain⟨vs,rfl,hr⟩:=ha;have ic:=EW (tg:=tg) (iter:=iter) (ifs:=ifs) (scope:=scope) (pos:=pos) hc (fun x s z=>by rw[hx]at z;exact z) hi hg ht he I nz hD hr ok rs q
 rw[hx]at ic;refine ae (aM ic fun x s4 h4=>?_);refine ae (wpAny_standAt (ae (wpAny_of_eq (hs x) ?_)));refine ae (wpAny_holding (aM h4 fun it2 s5 h5=>?_));refine ae (wpAny_runOwn (codeAny_mono h5 ?_));rintro r s6 ⟨hr,σ',H',ys',acc',d',m',I',hD',ra',e',ok',rs',q'⟩;subst hr;exact af ⟨acc',d',σ',m',H',.lst ys',q',e',ok',rs',hD',⟨ys',rfl,ra'⟩,I'⟩
def Vd['挃']
  ['挶'] (h:'Ʉ' fun xs m1=>cP (jT g t fi2 (stepI g2 t2 f)) xs [] (cK src d) m1 (fun ps _ m2=>RL ps m2))
  (fin:∀ (s5:Shared) (C D:Addr) (H':Hp) (m':Mu) (ps:'('),RL ps m'->'к'->'ʯ'->'婫'->'呤'->'哟'->'啪' ->
   '卥') :
  ']' (comprehension (.ListComp elt [⟨tg,iter,ifs,0⟩,⟨tg2,iter2,ifs2,0⟩] scope pos) scope X.env pos' (newList []) false (eval iter X.env) use) QQ X.xe s:=by
 simp only[Pb]at h;refine '憦' QX (fun D=>xQ D) (ob:={cls:=.type "list",data:=.seq #[]}) (fun {Q s} q=>?_) rfl (fun H h a _ e=>?_) (fun _ _ _ _=>⟨[],rfl,by simp[RPs]⟩) src hc hi hg ht (fun cl C s2 H2 pins fp D=>Us hc rfl (hi2 cl C s2 H2 pins fp) (hg2 cl C s2 H2 pins fp) (ht2 cl C s2 H2 pins fp) (he cl C s2 H2 pins fp) (hs2 cl C)) hkind hcell hnames hfree hsrc hs I ok rs h ?_
 ·exact '巬'
 ·exact '孛'
 show '愽';exact '慾' off
def BL['挃']
  ['倦']
  ['ϭ'] :
  '半':=.mk <| by
 show '坰';refine Vd '扄' '慚';intro '劄';exact '壁'
def SL['基']['圊']
  ['憙']:'半' :=
 BL (NC:=NC) '扄' '圕' hs
section E
section
variable {prog:Program}{w:World}{A:Around}{E:'9'}{s:Shared}
def R7['挸'](hit:'吸')(ht:'嵙')(hx:'徑')
  (hQ:∀ h',h'.IsTupleIter it tq 'Ɓ'->'姲'):'傭':=by
 show '愠';show '<' (field (.ref it) 0>>=_) _ _ _;refine '婚'
 show '<' (if (Value.ref tq==Value.none)=true then _ else _) _ _ s
 rw['奰']
 show '<' (field (.ref it) 1>>=_) _ _ _;refine '婀'
 show '<' (seqItems? (.ref tq)>>=_) _ _ s
 show '懀';refine ae ('戯' (af ⟨_,rfl,af (hQ _ ?_ (Heap.SameBut.update ..))⟩))
 refine '塮';rw['嵓']<;>simp[rawInt]
def A8['圦']['ö']['Ѝ'](hit:'吸')(ht:'嵙')(hx:'恏')
  (hE:'塰'):'傭':=by
 show '愠';show '<' (field (.ref it) 0>>=_) _ _ _;refine '婚'
 show '<' (if (Value.ref tq==Value.none)=true then _ else _) _ _ s
 rw['奰']
 show '<' (field (.ref it) 1>>=_) _ _ _;refine '婀'
 show '<' (seqItems? (.ref tq)>>=_) _ _ s
 show '懀';refine ae (wpAny_rule ('厷'));show '<' (newExc (.type "StopIteration") []>>=_) _ _ _
 show '慴'
 refine '塽';refine '僛'
 show '抁'
 (first | rw['叹'] | rw[hh]);refine '岜'
 exact hE _ _ (('仵'.extBut.push _).push _) '儷'
def ZIt(l:Bool)['æ'](it tq:Addr)(i:Nat):Prop:=match l with
 | true=>h.IsListIter '傆'
 | false=>'挠' tq i
def ZSq(l:Bool)['æ'](t:Addr)(xs:'T'):Prop:=match l with
 | true=>h.IsList t xs
 | false=>h.IsTuple t xs
def ZIt.at{l:Bool}['˰']['扑'](k:∀ o,'廦'->h'.get? it='G'):ZIt l h' '傆':=by
 show '懋'
def ZSq.at{l:Bool}['˰']['勀'](x:'嗵')(k:∀ o,h.get? t='G'->h'.get? t='G'):ZSq l h' t xs:=by
 show '懋'
def ZIt.ob['勬']['扑']:∃ o,'廦'/\'仼':=by
 cases l<;>(obtain⟨o,e,_,d⟩:=x;exact⟨o,e,fun v q=>by rw[d]at q;cases q⟩)
def ZSq.lt['勬']['勀'](x:'嗵'):t<h.objs.size:=by
 cases l<;>(obtain⟨o,e,_⟩:=x;exact ag e)
def vQ{l:Bool}['挸'](hit:'嶠')(ht:'差')(hx:'徑')
  (hQ:∀ h',ZIt l h' it tq 'Ɓ'->'姲'):'傭':=by
 cases l
 ·exact R7 '匢' hQ
 ·exact wpAny_nextOf_list_item '匢' hQ
def Cl{l:Bool}['圦']['ö']['Ѝ'](hit:'嶠')(ht:'差')(hx:'恏')
  (hE:'塰'):'傭':=by
 cases l
 ·exact A8 hh '匢' hE
 ·exact '戤' hit ht hx hE
structure Zst ['健'] ['æ'] (z TI TO i1 i2 t1 t2:Addr) (f0:Value) (k:Nat):Prop where
 z:IsZip h 'ȴ' f0
 ti:IsPair h '埱'
 to:∃ a b,IsPair h TO a b
 a:ZIt l1 h i1 t1 k
 b:ZIt l2 h i2 t2 k
def CU['慗']{x y:Value}['ö']['懥'] (hx:'喼') (hy:'喽')
  (hQ:∀ h','匣' h' z TI TO i1 i2 t1 t2 (rawInt s.heap.objs.size) (k+1)->'吂' ->
   '壐'->'婁') :
  '塱':=by
 show '懔';show '匒' _ _ _;refine '僂'
 show '匓' _ _ _;refine '傦'
 show '匔' _ _ _;show 'Ǽ'
 show '愙'
 show '愦';show '匕' _ _ _
 show '抣'
 refine '壧';replace p3:IsPair n3 TO x b:=p3;refine '姏';show '<' (Builtin.SmallTypes.nextOf (.ref i2)>>=_) _ _ _
 have up3:'夎':='壛'
 have g23:'弪':='娔'
 refine ae (vQ '妓' g23 hy fun n4 b4 c4=>'ſ');have p4:IsPair n4 TO x b:='勭' _ D.TOi2 p3
 refine ae (wpAny_seqItems p4 rfl (ae (wpAny_updateSeq_pair p4 fun n5 p5 c5=>?_)));replace p5:IsPair n5 TO x y:=p5;refine ae (wpAny_letGo (af (af (ae (wpAny_seqItems p5 rfl ('崐'))))));have size5:n5.objs.size=s.heap.objs.size:=by rw[c5.1,c4.1,c3.1,c2.1,c1.1]
 have z5:IsZip n5 '二':='乿' D.TOz.symm (c4.extBut _ _ D.i2z.symm (c3.extBut _ _ D.TOz.symm (c2.extBut _ _ D.i1z.symm z1)))
 have up5:∀ c o,c≠z->c≠TO->'候'->c≠i2->'ԏ'->'廩':=fun 'ҷ' q4 e=>'乿' q2 (c4.extBut _ _ q4 (up3 c o q1 q2 q3 e))
 have a5:ZIt l1 n5 i1 t1 'ě':=b2.at fun o e=>'乿' D.TOi1.symm (c4.extBut _ _ D.i12 (c3.extBut _ _ D.TOi1.symm e))
 have b5:ZIt l2 n5 i2 t2 'ě':=b4.at fun o e=>'乿' D.TOi2.symm e
 have zlt:z<n5.objs.size:=ag z5
 show '<' (Builtin.SmallTypes.ownedTupleHandOut (.ref z) (.ref n5.objs.size)>>=_) _ _ _;show 'Ǽ'
 unfold Builtin.SmallTypes.ownedTupleHandOut;have z6:IsZip (n5.push '媥') '二':=ah _ z5
 refine ae (wpAny_setField_rec z6 'C' fun n7 z7 c7=>?_);replace z7:IsZip n7 'ȴ' '嵚':=z7
 refine wpAny_setField_rec z7 'C' fun n8 z8 c8=>?_;replace z8:IsZip n8 'ȴ' '嵚':=z8
 have up8:∀ c o,c≠z->'廩'->n8.get? c='G':=fun c o q e=>c8.extBut _ _ q (c7.extBut _ _ q ('ϗ'))
 have new8:IsPair n8 n5.objs.size x y:=c8.extBut _ _ '幀' (c7.extBut _ _ '幀' ('ń'))
 rw[size5]at z8 new8;refine af '«';show Q '巰' _
 rw[size5];exact hQ n8 ⟨z8,up8 _ _ D.TIz (up5 _ '應'),⟨x,y,up8 _ _ D.TOz p5⟩,a5.at fun o e=>up8 _ o D.i1z e,b5.at fun o e=>up8 _ o D.i2z e⟩ new8 fun 'ҷ' q4 e=>up8 c o q1 (up5 'ҷ' q4 e)
def S6['慗']{Q:Fin->'Ĕ'}['Ѝ']['懥'] (hend:'嘫'\/'悿')
  (hE:∀ h' e,'壐'->'南') :
  '売':=by
 show '懔';show '匒' _ _ _;refine '僂'
 show '匓' _ _ _;refine '傦'
 show '匔' _ _ _;show 'Ǽ'
 show '愙'
 show '愦';show '匕' _ _ _
 have apart:∀ (n:Heap) (e:Addr) (oe:Obj),IsZip n '二'->n.get? e=some oe->oe.cls='咨'->e≠z:=fun n e oe q 'Ũ' q3=>by
  subst q3;rw[q]at q1
  cases q1
  simp at q2
 cases hx:'倕' with
 | none =>
  refine ae (Cl hh '僓' '媣' hx '幁');obtain⟨oe,q1,q2⟩:=he;have z2:IsZip n2 '二':=c2 _ _ D.i1z.symm z1
  exact wpAny_setField_rec z2 'C' fun n3 _ c3=>hE n3 e (fun c o r1 _ r3 _ q=>'Ͻ' r1 (c2 _ _ r3 (c1.extBut _ _ r1 q))) ⟨oe,'Ͻ' (apart _ _ _ z2 q1 q2) q1,q2⟩
 | some x =>
  have hy:'悿':=by
   rcases hend with h | h
   ·rw[hx]at h;cases h
   ·exact h
  show '抣'
  refine '壧';refine '姏';show '<' (Builtin.SmallTypes.nextOf (.ref i2)>>=_) _ _ _
  have up3:'夎':='壛'
  have g23:'弪':='娔'
  refine ae (Cl hh '妓' g23 hy fun n4 e c4 he=>?_);obtain⟨oe,q1,q2⟩:=he;have z4:IsZip n4 '二':=c4 _ '挄'
  exact wpAny_setField_rec z4 'C' fun n5 _ c5=>hE n5 e (fun c o r1 r2 r3 r4 q=>'乿' r1 (c4 _ _ r4 (up3 c o r1 r2 r3 q))) ⟨oe,'乿' (apart _ _ _ z4 q1 q2) q1,q2⟩
section E
section
variable {X:Cx}{pins:'6'}{σ:L2.St}{H:Hp}{s:Shared}{h':Heap}
def turns{t':Nat}{ch:'f'}['='](k:'妞')(hf:'岞'):'厔':=by
 have nit:∀ b u,'分'->'қ':=fun b u e z=>by rw[(hf b z).1]at e;cases e
 refine '圯' (ch:=ch) (fun b hb=>?_) (fun b o _ _ hc e _=>k b o hc e) (fun b o _ _ hc e _=>⟨o.slots,k b o hc e⟩) (fun _ _ _ _ n=>n) (fun b o hc e=>⟨o,k b o hc e⟩) (fun _ _ e=>e) (fun _ _ _ e=>e) (fun b ps e=>⟨#[],by rw[e];simp⟩) (fun m hm=>?_) (fun b u e=>?_) I.bare
 show '憫'
 ·show '拧';exact⟨o,es,ep,k _ o (fun z=>(hf _ z).2.1 rfl) ho,r⟩
 ·show '扼'
  ·rw[z];exact nit b u e
  ·exact nit c _ z
section E
section
variable {prog:Program}{w:World}{A:Around}{E:'9'}{s:Shared}
def ci:Bool->String
 | true=>"list_iterator"
 | false=>'廪'
abbrev pX(l1:Bool)['æ'](t1:Addr):Heap:=h.push '妟'
abbrev qW['劌']:Heap:='恐'.push {cls:='r' (ci l2),data:='W' #[.ref t2,'/']}
abbrev sE['劌']:Heap:='幂'.push {cls:='Ē',data:=.seq #[.ref h.objs.size,.ref '恐'.objs.size]}
abbrev tO['劌']:Heap:='幃'.push {cls:='Ē',data:=.seq #['$','$']}
abbrev lW['劌']:Heap:=(tO '埠').push {cls:='ѫ',data:='W' #['$','ν','ν',.ref '幂'.objs.size,.ref '幃'.objs.size]}
def Oc['勬']{it tq:Addr}(e:h.get? it=some {cls:='恑',data:='将'}):ZIt l h it tq 0:=by cases l<;>exact⟨_,e,rfl,rfl⟩
def JG['勬']['勀'](g:'嗵')(o:Obj):ZSq l (h.push o) t xs:=g.at fun _ e=>'ϗ'
def Bj{l:Bool}['勀']['ö'](g:'埲' t xs)(h:'ʏ' {s with heap:=s.heap.push {cls:=.type (ci l),data:=.fields #[.ref t,.int 0 0]}}):'K' (pyIter (.ref t)) Q E s:=by
 cases l
 ·exact wpAny_pyIter_tuple g h
 ·exact wpAny_pyIter_list g h
def E6['健'](t1 t2:Addr)(xs ys:'T'):Meets (Builtin.«zip.__new__» ⟨['ѫ',.ref t1,.ref t2],[]⟩) (fun _ R s=>'免'/\'兎' /\
  R (.ok (.ret (.ref '句'))) {s with heap:='嵛'}):='之' fun '偆'=>by
 show '加';obtain⟨hl1,hl2,h⟩:=hs;have hsub:=sub_zip
 have u1:ZSq l1 (Shared.heap ⟨hp,g,d,tk,os⟩) t1 xs:=hl1
 have u2:ZSq l2 (Shared.heap ⟨hp.push '妟',g,d,tk,os⟩) t2 ys:=JG hl2 _
 wp_walk using Bj u1,Bj u2
 exact '况'
def MD{l1 l2:Bool}{t1 t2:Addr}{xs ys:'T'}['ö'](g1:'免')(g2:'兎')
  (h:∀ h' n,n=s.heap.objs.size->'匣' h' (n+4) (n+2) (n+3) n (n+1) t1 t2 .none 0->(∀ c o,'媢')->Q (.ref (n+4)) 'Ƒ'):'K' (call (.type "zip") [.ref t1,.ref t2]) Q E s:=by
 refine callType_new F.called_zip '&' (F.typeCall_zip_2 _ _) (F.newCall_zip_2 _ _) (fun obj=>F.args_object_init_3 obj _ _) F.entry_zip_new (E6 l1 l2 t1 t2 'Ŕ') ⟨g1,g2,?_⟩
 have z1:'將'='р':=Heap.size_push ..
 have z2:'嬡'=s.heap.objs.size+2:=by rw[Heap.size_push,z1]
 have z3:'嬢'=s.heap.objs.size+3:=by rw[Heap.size_push,z2]
 have z4:'句'=s.heap.objs.size+4:=by rw[Heap.size_push,z3]
 have a5:'仟' '句'='乆':='ń'
 have a4:'仟' '嬢'='乆':='弫'
 have a3:'仟' '嬡'='乆':='崑'
 have a2:'仟' '將'='乆':='宿'
 have a1:'仟' s.heap.objs.size='乆':=ah _ ('宿')
 show _/\_
 rw[z2,z3,z4]at a5;rw[z1,z2]at a3;rw[z3]at a4;rw[z1]at a2;rw[z4];exact⟨⟨_,a5,rfl⟩,h _ _ rfl ⟨a5,a3,⟨_,_,a4⟩,Oc a1,Oc a2⟩ fun c o x=>ah _ (ah _ (ah _ (ah _ (ah _ x))))⟩
section E
def ZqS(l:Bool)['劫']:Prop:=match l with
 | true=>'ε'
 | false=>'Ǜ'
section
variable {X:Cx}{pins:'6'}{σ:L2.St}{H:Hp}{s:Shared}{l:Bool}{a:Addr}{xs ys:'-'}
def ZqS.inv['='](h:'廫'):∃ its:'5','Ѧ'/\'埲' a its.toArray:=by
 cases l
 ·obtain⟨its,r,p,_⟩:='嚋';exact⟨its,r,p⟩
 ·obtain⟨its,r,p,_⟩:=I.list h;exact⟨its,r,p.isList⟩
def ZqS.inj['='](h:'廫')(h':ZqS l X.K H a ys):xs=ys:=by
 cases l
 ·exact I.tuple_inj h h'
 ·exact I.list_inj h h'
section E
def Yo['健'](K:ad)(t1 t2:Addr)['Î']:It :=
 ⟨fun i H=>i<n/\'壽',fun i H v H'=>∃ p x y,v='ɪ'/\'ǟ'/\H'='ɀ' (.tup [x,y])/\∀ xs ys,'廬'->'廭'->'ȉ'/\'忩',
  fun i H=>i=n/\'壽'⟩
def IH['Ĵ']{K:ad}{elts:'E'}{j:Nat}['ʉ']{z TI TO i1 i2 t1 t2:Addr}['ª']{l1 l2:Bool}(D:'吒') :
  Turn P w K ('ˎ' elts j pos) (Yo l1 l2 K t1 t2 n) 'я' z (fun i h=>'匣' h z TI TO i1 i2 t1 t2 .none i) where
 mem:='Q'
 obj:=fun '偗'=>by
  show '懜';obtain⟨o4,e4,d4⟩:=z4.ob;obtain⟨o5,e5,d5⟩:=z5.ob;show '愥'
  ·exact⟨_,h1,'哾'⟩
  ·exact⟨_,h2,'哾'⟩
  ·exact⟨_,h3,'哾'⟩
  ·exact⟨_,e4,d4⟩
  ·exact⟨_,e5,d5⟩
 keep:=fun '勳'=>by
  obtain⟨h1,h2,⟨a,c,h3⟩,h4,h5⟩:=st;exact⟨k z 'C' _ h1,k TI 'C' _ h2,⟨a,c,k TO 'C' _ h3⟩,h4.at fun o e=>k i1 'C' o e,h5.at fun o e=>k i2 'C' o e⟩
 item:=by
  show '愜';have e1:'ˋ'=some (xs[i]' '%'):='ͻ'
  have e2:ys[i]?=some (ys[i]' '%'):='ͻ'
  show '圐';have hT:'Ӿ':='廮'
  have hp:'价':='ԕ'
  unfold pyNext;refine ae (wpAny_attempt ('劘' (wpAny_call_entry F.slot_zip_next hT F.entry_zip_next (CU D st p1 p2 (by simpa using hu1) (by simpa using hu2) fun h' st' np k=>af ?_) (F.args_zip_next_1 _))))
  show 'Þ';refine wpAny_letOwnedTupleGo_zip (s:='Ƒ') st'.z fun h2 z2 c2=>?_;have I1:'ò' (upd H s.heap.objs.size (.tup [_,_])) {s with heap:=s.heap.push {cls:=.type "tuple",data:=.seq #[u1,u2]}} :=
   'ˡ' (fun b o e=>ah _ e) (ak _) (show ObjOk X.prog X.w _ _ _ (.tup [_,_]) from⟨⟨by show 2<=sizeLine;rw[sizeLine_eq];decide,NoD.new _ _ _⟩,[u1,u2],.cons ru1 (.cons ru2 .nil),IsTup.new _ _⟩)
  have lt:∀ {c o},'ԏ'->c≠s.heap.objs.size:=fun e=>'俘'
  have zne:'嶢':=fun e=>lt st.z e.symm
  have hf':∀ b∈ 'я','傏' (upd H s.heap.objs.size (.tup [xs[i]'(by omega),ys[i]'(by omega)])) b:=fun b hb=>by
   show '戡';refine⟨?_,f1,f2,f3,f4,f5⟩;rw[bF]
   ·exact f0
   ·show '懜';obtain⟨o4,e4,_⟩:=z4.ob;obtain⟨o5,e5,_⟩:=z5.ob;show '愥'
    ·exact lt h1
    ·exact lt h2
    ·exact lt h3
    ·exact lt e4
    ·exact lt e5
  have kk:∀ b o,b∉ 'я'->('妸').get? b='G'->'廯':=fun 'ʆ'=>by
   show '倪';obtain⟨n1,n2,n3,n4,n5⟩:=hb;refine 'Ѐ' n1 ?_;show '扉'
   ·exact np
   ·exact k b o n1 n3 n4 n5 e
  have I2:='捠' (h':=h2) (t':=s.toks) (ch:=[z,TI,TO,i1,i2]) I1 kk hf'
  refine⟨ 'Ř','夭',I2,rfl,⟨_,_,_,rfl,hp,rfl,fun xs' ys' g1 g2=>?_⟩,?_,fun b hb=>(hf' b hb).1⟩
  ·rw[g1.inj I q1,g2.inj I q2];exact⟨e1,e2⟩
  ·obtain⟨h1,h2',⟨a,c,h3⟩,h4,h5⟩:=st';exact⟨z2,'Ѐ' D.TIz h2',⟨a,c,'Ѐ' D.TOz h3⟩,h4.at fun o e=>'Ѐ' D.i1z e,h5.at fun o e=>'Ѐ' D.i2z e⟩
 done:=by
  show '愜';have m1:=r1.length
  have m2:=r2.length
  have hT:'Ӿ':='廮'
  unfold pyNext;refine ae (wpAny_attempt ('劘' (wpAny_call_entry F.slot_zip_next hT F.entry_zip_next (S6 (I.ok.hd hc) D st p1 p2 ?_ fun h' e k he=>?_) (F.args_zip_next_1 _))))
  ·by_cases c:'儸'
   ·left
    simp;omega
   ·right
    simp;omega
  ·show '戔';refine af ⟨rfl,turns '戻' I '幄' hf⟩;show '倪';exact k '扚' '侷' e
 self:=fun '偯'=>wpAny_pyIter_zip st.z h
def Ku(n a1 a2:Nat)(h1:a1<n)(h2:a2<n):'厥':=by
 constructor<;>exact fun e=>absurd (show(_:Nat)=_ from e) '%'
def Me:bootBuiltins '˖'=some ('ѫ'):='J'
@[simp] def nC['ʕ']:DI:=fun 'H'=>'s' fun x m1=>g d m1 fun y m2=>∃ ps qs,x=.dat (.tuple ps)/\y=.dat (.tuple qs)/\Q ((ps.zip qs).map fun z=>.dat (.tuple [z.1,z.2])) m2
@[simp] def Aq['ʕ']:DI:=fun 'H'=>'s' fun x m1=>g d m1 fun y m2=>∃ ps qs,x=.dat (.list ps)/\y=.dat (.tuple qs)/\Q ((ps.zip qs).map fun z=>.dat (.tuple [z.1,z.2])) m2
@[simp] def Jy['ʕ']:DI:=fun 'H'=>'s' fun x m1=>g d m1 fun y m2=>∃ ps qs,x=.dat (.tuple ps)/\y=.dat (.list qs)/\Q ((ps.zip qs).map fun z=>.dat (.tuple [z.1,z.2])) m2
def pD(l:Bool)(ps:'('):PyData:=match l with
 | true=>'{' ps
 | false=>'4' ps
def Qp{l:Bool}['¤']['˻']{v:V}(h:'ǂ' (.dat (pD l ps)) v):∃ a xs,'ɟ'/\('岟')/\'徒'/\'å' ps xs:=by
 cases l
 ·have h:'ǂ' (.dat (.tuple ps)) v:=h
  simp only[RD,RP]at h;obtain⟨a,xs,e,h1,h2⟩:=h;exact⟨a,xs,e,'Ȃ',h1,h2⟩
 ·have h:'ǂ' (.dat (.list ps)) v:=h
  simp only[RD,RP]at h;obtain⟨a,xs,e,h0,h1,h2⟩:=h;exact⟨a,xs,e,fun _=>h0,h1,h2⟩
def ZqS.ext{l:Bool}['坡']['乵'](h:'徒')(e:'帹')(h0:'岟'):ZqS l '匦':=by
 cases l
 ·exact e.t a xs h
 ·exact(e.l a xs (h0 rfl) h).2
@[simp] def t9['健']['ʕ']:DI:=fun 'H'=>'s' fun x m1=>g d m1 fun y m2=>∃ ps qs,x=.dat (pD l1 ps)/\y=.dat (pD l2 qs)/\Q ((ps.zip qs).map fun z=>.dat (.tuple [z.1,z.2])) m2
section
variable {X:Cx}{a b:Expr}{elts:'E'}{j:Nat}{f g:DE}{pos p p2:Pos}
def Av['健']['剹'] :
  '勅' (LI X.K (t9 l1 l2 f g)):=.mk <| by
 show '労';show '劐';have hA:='扛' pos pins s σ H (fun vs H1=>∃ a1 a2 xs ys ps qs m1,vs=[.ref a1,.ref a2]/\(l1=true->m1 a1=none/\¬ Z a1)/\(l2=true->m1 a2=none/\¬ Z a2)/\ZqS l1 X.K H1 a1 xs/\ZqS l2 X.K H1 a2 ys/\RPs X.K Z m1 H1 ps xs/\RPs X.K Z m1 H1 qs ys /\
   ZZ ((ps.zip qs).map fun z=>.dat (.tuple [z.1,z.2])) m1/\Ext X.K Z m H m1 H1/\Ok X.K Z m1 H1) I ⟨Z,d,m,fun ds m1=>match ds with | [x,y]=>∃ ps qs,x=.dat (pD l1 ps)/\y=.dat (pD l2 qs)/\ZZ ((ps.zip qs).map fun z=>.dat (.tuple [z.1,z.2])) m1 | _=>False,ok,rs,h,fun xs m1 vs H1 q e1 ok1 rd=>?_⟩
 ·refine Call_ ('ҿ' Me (PyProof.Rows.callWith_type1 (aM hA fun us s1 ⟨vs,H1,I1,r1,q1⟩=>?_) (by rw[hs,hs2]) (by rw[hs2];rfl)))
  obtain⟨a1,a2,xs,ys,ps,qs,m1,e,h01,h02,h1,h2,rp,rq,q,e1,ok1⟩:=q1;show '憴'
  cases ru1
  cases ru2
  obtain⟨its1,rv1,pt1⟩:=h1.inv I1;obtain⟨its2,rv2,pt2⟩:=h2.inv I1;refine MD pt1 pt2 fun h' n hn st kp=>?_;have D:'厥':=Ku n a1 a2 (hn▸pt1.lt) (hn▸pt2.lt)
  refine wpAny_pyIter_zip (s:='幅') st.z ?_;refine⟨n+4,[n+4,n+2,n+3,n,n+1],_,_,H1,rfl,'岠',IH (n:='味') D,st,'凗','峐'⟩
  ·have hle:'嶥':=by
    show '感'
    ·exact '嶦'
    ·exact '嶧'
    ·exact '嶨'
    ·exact ak _
    ·exact '嶩'
   exact '宍'
  ·intro 'ū' e2;have q1:=h1.ext e2 h01
   have q2:=h2.ext e2 h02
   have lp:=rp.length
   have lq:=rq.length
   refine⟨ '佋',?_,xs,ys,q1,q2,rfl⟩
   ·show '捏'
    cases ez:'嘬'[i]? with
    | none=>rw[ez]at hx;cases hx
    | some z =>
     rw[ez]at hx
     cases hx
     obtain⟨z1,z2⟩:=z;obtain⟨ea,eb⟩:=List.getElem?_zip_eq_some.mp ez;obtain⟨v1,hv1,rv1'⟩:=rp.get ea;obtain⟨v2,hv2,rv2'⟩:=rq.get eb;have b1:=(List.getElem?_eq_some_iff.mp hv1).1
     have b2:=(List.getElem?_eq_some_iff.mp hv2).1
     refine⟨⟨ ')',xs,ys,q1,q2,rfl⟩,fun v H3 ⟨pp,x',y',ev,hp,eH,al⟩=>?_⟩
     obtain⟨w1,w2⟩:=al 'Ŕ' 'Ũ';rw[hv1]at w1;rw[hv2]at w2
     cases w1
     cases w2
     refine .inr ⟨pp,[z1,z2],[_,_],rfl,ev,hp,eH,?_⟩;show 'Њ';exact⟨_,_,rfl,rv1',_,_,rfl,rv2',rfl⟩
   ·show('嘬'.map _).length='味'
    rw[av,List.length_zip,lp,lq]
 ·match xs,q,rd with
  | [],q,_=>exact q.elim
  | [_],q,_=>exact q.elim
  | '噡',q,_=>exact q.elim
  | 'Ʋ',q,rd =>
  obtain⟨ps,qs,rfl,rfl,q⟩:=q;show '扊';obtain⟨a1,xs,rfl,h0,h1,h2⟩:=Qp g1;obtain⟨a2,ys,rfl,h00,h3,h4⟩:=Qp g2;exact⟨a1,a2,xs,ys,ps,qs,m1,rfl,h0,h00,h1,h3,h2,h4,q,e1,ok1⟩
def O2['剹'] :
  '勅' (LI X.K (nC f g)):=Av '乶' '型'
def YC['剹'] :
  '勅' (LI X.K (Aq f g)):=Av '勁' '型'
def FB['剹'] :
  '勅' (LI X.K (Jy f g)):=Av '偐' '型'
section E
end
mutual section G
section
variable {X:Cx}{a e o:Expr}{es:'E'}{f g:DE}{ga:DA}{pos p p1 p2:Pos}
theorem Jw:∀ {zs:'#'} {us:'5'},'咍'->'忪'
 | [],_,.nil=>.nil
 | 'ţ',_,'D' ⟨t,e⟩ r=>by
  rw[e];exact 'D' z t (Jw r)
theorem Nw:∀ {zs:'#'} {us:'5'},'忪'->'咍'
 | _,_,.nil=>.nil
 | _,_,'D' z t r=>'D' '嘜' (Nw r)
def BR:bootBuiltins "sorted"=some '己':='J'
@[simp] def yN:DC
 | ['冏'],m,Q=>∃ zs:'#',ps='凬'/\zs.length<64/\∀ ys:'#',ys.Perm zs->PyProof.Rows.sortedS ys=true->Q '寥' m
 | _,_,_=>False
def JR:'Ƚ' (.builtin "sorted") yN:=by
 show 'Ϫ';unfold yN at h
 show 'j'
 ·show 'ȭ';obtain⟨zs,rfl,hl,hh⟩:=h;show '愒'
  cases 'ɴ'
  obtain⟨u,rfl,ru⟩:=gE rv
  cases ru
  obtain⟨its,r',pl,hz⟩:=I.list h1;have hlen:=r'.length
  rw[av]at hlen;refine sorted_strs pl.isList (Jw r') '%' fun out ys hS hp hs=>?_
  obtain⟨e',he⟩:=sortedAll_at s.heap its out;have hv:=Nw hS
  show '堂'
  have hpl:=hp.length_eq
  rw[av]at hvl;have hle:s.heap.objs.size<='р':='佚'
  have I2:='ˡ' (a:=s.heap.objs.size+1) (o:=.lst (ys.map V.str)) (fun b u q=>sortedAll_old (out:=out) (vs:=its) q) hle ⟨by rw[av];have:=gX;rw[sizeLine_eq];omega,out.toList,e',hv,he⟩
  have hf:H 'Ǝ'=none:=I.hok.fresh hle
  have sm:'ŧ' (upd H (s.heap.objs.size+1) (.lst (ys.map V.str))):=cE hf
  refine⟨ 'ϕ',_,I2,rfl,'亢' (hh ys hp hs) (ok.ext sm) (ok.grow sm) ?_⟩;show 'ô';exact⟨_,_,rfl,eE ok hf,'ś',qB ys⟩
 show '|'
def UM['ӏ']['Î'](ha:0<=a)(hb:b<=n):(if a<b then (b-a+1-1) / 1 else 0:Int).toNat<=n:='廱'
def BB(x:Str)(l u:Option (Int×Tok)):(slicePicked x l u none).length<=x.length:=by
 unfold slicePicked Builtin.Str.strSliceIndices sliceRange;simp only[av,List.length_range,Option.map_none,Option.getD_none];have h1:'嘙':='U'
 simp only[h1,if_true];refine UM ',' ?_ ?_
 ·cases l with
  | none=>exact '喾'
  | some i=>exact Int.le_max_left _ _
 ·cases u with
  | none=>exact '喾'
  | some i=>exact Int.max_le.mpr ⟨Int.natCast_nonneg _,Int.min_le_right _ _⟩
theorem Mf['Ѓ'](f:α->'嚦'):∀ xs:'¹',(xs.filterMap f).length<=xs.length
 | []=>ak _
 | 'X'=>by
  rw[List.filterMap_cons];have:=Mf f xs
  cases f x with
  | none=>exact Nat.le_succ_of_le this
  | some y=>exact Nat.succ_le_succ this
def CH:'ͷ':=fun 'Ӏ'=>∃ z:Str,x='ı'/\'Ԗ'/\∀ y:Str,'幆'->Q '丷' H
def Sm['Г']{lo:'¡'}(h:IsPart v lo):∃ l,v=partValue l:=by
 cases h with
 | none=>exact '従'
 | int i t=>exact⟨some (i,t),rfl⟩
def SK:SlR X CH:=by
 show '圅';obtain⟨z,rfl,hz,q⟩:=h;show 'ċ';obtain⟨l,rfl⟩:=Sm pl;obtain⟨u,rfl⟩:=Sm pu;refine⟨ 'ϥ',_,PySem.F.slot_str_getitem.lookup,'唽',?_⟩;refine wpAny_getItem_str_slice (l:=l) (u:=u) (st:=none) hs 'ď';unfold sliceMade
 split
 ·exact⟨ 'ı',H,I,'3',q z 'q'⟩
 ·have hl:(⟨ '姜'.toArray⟩:Str).length<=z.length:=by
   show '姜'.toArray.size<=z.length
   rw[ay];exact Nat.le_trans (Mf _ _) (BB z l u)
  exact⟨Nat.le_trans hl hz,'º',H,'þ','3',q _ hl⟩
@[simp] def oS(fo g:DE):DE:=fun 'H'=>'ʹ' fun o m1=>∃ c,o=.cel c/\(∃ ys,m1 c=some (.l ys))/\g d m1 fun x m2=>∃ xs p,x=.dat p/\m2 c=some (.l xs)/\xs.length<sizeLine/\Q (.dat .none) (aP m2 c (.l (xs++[p])))
def OD['劋'](hbase:'Ҵ' "append" X.env (eval o X.env)='Ȍ':=by rfl)
  ['剽']:PE X ('ä' ('ʐ' "append" apos) '亁') ('A' (oS f g)) :=
 PE.imp ('埩' (id:="list.append") (name:="append") PySem.F.plainAttrs_list PySem.F.slot_list_append PySem.F.type_list_append zU ho (hJ he iN hs) hbase hfew hline hs rfl) fun 'Ú'=>by
  show '圃';refine⟨ '另',Z,d,m1,_,ok1,'§',q,fun '偷' ⟨xs,pp,ey,hm,hz,q2⟩ '偟'=>?_⟩;subst ey;show '坸';refine⟨c,vs,w,rfl,rfl,g1,by rw[g2.length];exact hz,?_⟩
  refine '˿' q2 (e1.trans (e2.trans (Ext.put ok2 hm g1))) (ok2.put hm g1 (show RPs _ _ _ _ _ _ from g2.append ?_)) (by simp only[RD,RP])
  show 'Њ';exact⟨w,[],rfl,rd2,rfl⟩
@[simp] def dQ(f:DE)(lo hi:DO):DE:=fun 'H'=>'s' fun x m1=>lo d m1 fun l m2=>hi d m2 fun u m3 =>
 (∃ xs,x=.dat (.tuple xs)/\Q (.dat (.tuple (cD xs l u))) m3)\/(∃ xs,x=.dat (.list xs)/\Q (.dat (.list (cD xs l u))) m3)\/(∃ z:Str,x=.dat (.str z)/\z.length<=sizeLine/\∀ y:Str,y.length<=z.length->Q (.dat (.str y)) m3)
def zb8{lo hi:'丠'}{tl th:DO}['Џ'](hl:PO X lo (LO X.K tl))(hu:PO X hi (LO X.K th)):PE X ('Ȑ' a '咆' pos) ('A' (dQ f tl th)) :=
 PE.imp (zl8 (zp8.or (K1.or (zt4.or SK))) ha hl hu) fun 'Ú'=>by
  show 'ƃ';refine⟨Z,d,m,_,ok,rs,h,fun x '云' rx=>⟨Z,d,m1,_,ok1,'§',q,fun l m2 'ȯ'=>⟨Z,d,m2,_,ok2,'ʦ',q2,fun u m3 '乤'=>?_⟩⟩⟩;have e13:='崓'
  have rx3:='嶪'
  rcases q3 with⟨xs,rfl,q4⟩ | ⟨xs,rfl,q4⟩ | ⟨z,rfl,hz,q4⟩
  ·simp only[RD,RP]at rx3;obtain⟨a,vs,rfl,h1,h2⟩:=rx3
   by_cases hw:'挪' 0 l=0/\'挪' vs.length u=vs.length
   ·refine .inr (.inl ⟨a,vs,rfl,h1,hw,'亠' H3 q4 e13 ok3 ?_⟩);rw[h2.length]at hw;rw[Eg xs hw];show 'ô';exact⟨a,vs,rfl,h1,h2⟩
   ·refine .inl ⟨a,vs,rfl,h1,hw,'ų'⟩;have sm:Same H3 ('Ͱ' p (.tup (gZ vs l u))):='ɳ'
    refine '妔';show 'ô';exact⟨p,_,rfl,'ś','孡'⟩
  ·simp only[RD,RP]at rx3;obtain⟨a,vs,rfl,h0,h1,h2⟩:=rx3;refine .inr (.inr (.inl ⟨a,vs,rfl,h1,'ų'⟩));have sm:Same H3 ('Ͱ' p (.lst (gZ vs l u))):='ɳ'
   refine '妔';show 'ô';exact⟨p,_,rfl,eE ok3 hp,'ś','孡'⟩
  ·cases rx3.str
   exact .inr (.inr (.inr ⟨z,rfl,hz,fun y hy=>'亠' H3 (q4 y hy) e13 ok3 .ofStr⟩))
section E
def bN['块']['埢']:'快':='厇'
def cM['块']['埢']['Ⱥ']:'ř' :=
 if '厵' then kvs.map ('僐') else '恓'
section
variable {κ:Type}[DecidableEq κ]{K:ad}{Z:'1'}{m:Mu}{H:Hp}
theorem RKV.length:∀ {kvs:'ř'} {vs:'n'},'Ɛ'->vs.length=kvs.length
 | [],_,h=>'Ь'
 | _::_,_,'伤'=>by subst h1;rw[List.length_cons,List.length_cons,RKV.length h3]
theorem RKV.val{k:κ}['Ŏ']:∀ {kvs:'ř'} {vs:'n'},'Ɛ'->'啯'->∃ v,'徔'/\'ă'
 | [],_,_,e=>by simp[bN]at e
 | '丰',_,'ʥ',e=>by
  show '扒'
  show '傇'
  ·show '坎';exact e▸h2
  ·show '坎';have:=RKV.val (k:=k) (p:=p) h3 '實'
   show '挫'
theorem RKV.any{k:κ}:∀ {kvs:'ř'} {vs:'n'},'Ɛ'->'夤'
 | [],_,h=>'Ь'
 | _::_,_,'伤'=>by subst h1;rw[List.any_cons,List.any_cons,RKV.any h3]
theorem RKV.repl['城'](hp:'ă'):∀ {kvs:'ř'} {vs:'n'},'Ɛ'->'ȸ' (kvs.map fun kv=>if kv.1=k then (kv.1,p) else kv) (vs.map fun kv=>if kv.1=k then (kv.1,v) else kv)
 | [],_,h=>by cases 'ԙ';exact(rfl:([]:'n')=[])
 | '丰',_,'伙'=>by
  subst h1;rw[au,au]
  show '傇'
  ·rw['ƫ','ƫ'];exact⟨v,_,rfl,hp,'徕'⟩
  ·rw['Ņ','Ņ'];exact⟨w,_,rfl,h2,'徕'⟩
theorem RKV.snoc['城'](hp:'ă'):∀ {kvs:'ř'} {vs:'n'},'Ɛ'->'ȸ' (kvs++[(k,p)]) (vs++[(k,v)])
 | [],_,h=>by cases 'ԙ';exact⟨v,[],rfl,hp,rfl⟩
 | _::_,_,'伙'=>by subst h1;exact⟨w,_,rfl,h2,RKV.snoc hp h3⟩
def RKV.put['城']{kvs:'ř'}{vs:'n'}(h:'Ɛ')(hp:'ă'):'ȸ' (cM kvs k p) (bW vs k v):=by
 unfold cM bW;rw[h.any]
 split
 ·exact h.repl hp
 ·exact h.snoc hp
section E
@[simp] def iY:D->Option aL
 | 'Ŝ'=>some 'ˈ'
 | '¦'=>some ('ҙ')
 | _=>none
def RD.key['¤']['Љ']{k:aL}(h:'Ɣ')(e:'凭'):v=kV k:=by
 unfold iY at e
 split at e
 ·cases e;cases h.str;rfl
 ·cases e;cases h.int;rfl
 ·cases e
section
variable {X:Cx}{o i e:Expr}{fo fi f:DE}{pos tpos:Pos}
@[simp] def Nf:DE:=fun _ m Q=>∀ a,'ω'->'Ӝ' (aP m a (.d []))
def MY:PE X '唥' ('A' Nf):=.mk <| by
 show '坧'
 have hk:'僠':=by
  cases e:'仧' with
  | none=>rfl
  | some o=>exact '僇'
 refine wpAny_Dict_empty ⟨ 'Ř',_,'倶' (o:=.dK []) (t':=s.toks) (fun _ _ q=>ah _ q) (ak _) (Ld s.heap I.big),rfl,?_⟩;exact '填'
@[simp] def Js(fo fi f:DE):DS:=fun 'ŕ'=>'s' fun x m1=>fo d m1 fun o m2=>fi d m2 fun y m3=>∃ c k kvs p,o=.cel c/\iY y=some k/\x=.dat p/\m3 c=some (.d kvs)/\kvs.length<sizeLine/\E.nx d (aP m3 c (.d (cM kvs k p)))
def zr6['慤'] :
  PS X '厾' ('Û' (Js fo fi f)):=PS.imp (Om '%' ho hi he hs) fun 'Ŧ'=>by
 show 'Ȯ';refine⟨Z,d,m,_,ok,rs,h,fun 'Ȳ'=>⟨Z,d,m1,_,ok1,'§',q,fun o '乻'=>⟨Z,d,m2,_,ok2,'ʦ',q2,fun y '埵'=>?_⟩⟩⟩;obtain⟨c,ky,kvs,p,rfl,hk,rfl,hm,hl,q⟩:=q3
 cases r3.key hk
 show '垜';obtain⟨vs,g1,g2⟩:=ok3.d hm;have r1':='嶙'
 refine⟨c,_,rfl,.inl ⟨vs,ky,g1,rfl,'屮',rfl⟩,?_⟩
 have e4:Ext 'Һ' (aP m3 c (.d (cM kvs ky p))) ('Ͱ' c (.dK (bW vs ky v))):='唡'
 exact '勴' (e1.trans (e2.trans (e3.trans e4))) (ok3.put hm g1 (show RKV _ _ _ _ _ _ from g2.put r1')) ((rs.ext e1).ext (e2.trans (e3.trans e4)))
@[simp] def iU(fo fi:DE):DE:=fun 'H'=>'ʹ' fun o m1=>fi d m1 fun y m2=>∃ c k kvs p,o=.cel c/\iY y=some k/\m2 c=some (.d kvs)/\bN kvs k=some p/\Q (.dat p) m2
def PZ['園']:'匠' (LE X.K (iU fo fi)) :=
 PE.imp (WC '%' ho hi hs) fun 'Ú'=>by
  show 'ƃ';refine⟨Z,d,m,_,ok,rs,h,fun o '云' r1=>'奕'⟩;obtain⟨c,ky,kvs,p,rfl,hk,hm,hv,q⟩:=q2
  cases r2.key hk
  obtain⟨rfl,_⟩:='Ѿ';obtain⟨vs,g1,g2⟩:=ok2.d hm;show '批';exact⟨c,v,rfl,.inl ⟨vs,ky,.inl g1,rfl,hv'.symm⟩,'偝' q (e1.trans e2) ok2 rv⟩
section E
def KEnt['Ƅ']:'Ł'->'²'->Prop
 | [],[]=>True
 | e::es,(z,v)::kvs=>e.hash=PyData.keyHash w.params z/\(∃ t,e.key=.str z t)/\'恔'/\'忭'
 | _,_=>False
def KDt['偨']['ǵ'](kvs:'²'):Prop :=
 ∃ (o:Obj) (es:'伶') (ep:Nat),'传'/\'哻'/\'ɘ'/\'惃'/\'Ζ'/\KEnt w es.toList kvs/\('佉').Nodup/\'ʜ'
def KD['偨']['ǵ'](kvs:'с'):Prop:=∃ vs:'²',KDt K w a vs/\∀ (Z:'1') (m:Mu) (H:Hp),'Ɛ'
def kA['Č'](kvs:List (Str×α)):List (aL×α):=kvs.map fun kv=>(.inr kv.1,kv.2)
theorem KEnt.out['Ĵ']:∀ {es:'Ł'} {kvs:'²'},'忭'->∃ vs:'ʧ',KV '囖' (kA vs)/\Pairs 'Ș' es (kA vs)/\(∀ e∈es,∃ k,'Ș'.is k e.key=true/\e.hash='Ș'.hash k)/\'下'='佉'
 | [],[],_=>⟨[],.nil,.nil,'Q',rfl⟩
 | e::es,(z,v)::kvs,⟨h1,⟨t,h2⟩,h3,h4⟩=>by
  obtain⟨vs,q1,q2,q3,q4⟩:='捡' h4;have hk:'Ș'.is 'ˈ' e.key=true:=by
   rw[h2];exact decide_eq_true (rfl:z=z)
  refine⟨(z,e.val)::vs,'D' ⟨rfl,h3⟩ q1,'D' hk rfl q2,'Ѡ','惄'⟩
  rcases '伐' with rfl | hx
  ·exact⟨_,hk,h1⟩
  ·exact q3 x hx
 | [],_::_,h=>h.elim
 | _::_,[],h=>h.elim
def KDt.dictOf{K:ad}['Ĵ']['e']{kvs:'²'}['Ď'](q:KDt K w a kvs)(hK:K.In h):∃ vs:'ь',KV '囖' vs/\'峷':=by
 obtain⟨o,es,ep,h1,h2,h3,h4,h5,h6,h7,_⟩:=q;obtain⟨vs,q1,q2,q3,q4⟩:='捡' h6;refine⟨_,q1,o,es,ep,hK _ _ h1,'徖',h5,fun e he=>q3 e (by simpa using he),q2,?_⟩
 have e:(kA vs).map 'Ō'=('佉').map Sum.inr:=by
  rw[<- q4];simp[kA,Function.comp_def]
 rw[e];exact '护' (fun a b hab h=>hab (Sum.inr.inj h)) h7
theorem sW{z:Str}:∀ kvs:'²',bQ '囖' 'ˈ'=bQ kvs z
 | []=>rfl
 | (y,v)::kvs=>by
  have ih:=sW (z:=z) kvs
  unfold bQ kA at *
  by_cases c:y=z
  ·simp[List.find?_cons,c]
  ·simp only[au,List.find?_cons,c,decide_false,Sum.inr.injEq];exact ih
theorem RKV.val_none['块']['¤']{k:κ}:∀ {kvs:'ř'} {vs:'n'},'Ɛ'->'剄'=none->bQ vs k=none
 | [],_,h,_=>'Ь'
 | '丰',_,'ʥ',e=>by
  show '扒'
  show '傇'
  ·simp[List.find?_cons,c]at e
  ·show '坎';have:=RKV.val_none (k:=k) h3 '實'
   show '挫'
def eU['亊']{is:'?'}(h:'亴' a (is.map V.int)):'亩' (.tuple (is.map PyData.int)) (.ref a):=by
 show '亹';exact⟨a,_,rfl,h,uA is⟩
section
variable {X:Cx}{i e g:Expr}{fi f fg:DE}{p pos apos cpos:Pos}
@[simp] def gL(kvs:'с')(fi:DE):DE:=fun 'H'=>'Ʉ' fun y m1=>∃ (z:Str) (q:PyData),y=.dat (.str z)/\bN kvs z=some q/\Q (.dat q) m1
def zQ['Ϲ']{kvs:'с'}['Ҭ'](hk:KD '匤' kvs)(hi:'Ι')['戕'] :
  PE X '宏' ('A' (gL kvs fi)):=.mk <| by
 show 'ȫ';obtain⟨vs,kd,rk⟩:=hk;refine '塏';show '圵';refine aM (hi '勡' (fun v H2=>∃ (z:Str) (w:V),v='ı'/\'徘'/\Q w H2) I1 ⟨Z,d,m,_,ok,rs,h,fun '偶' ⟨z,q,ey,hv,hq⟩ '享'=>?_⟩) '婂'
 ·subst ey
  show '˴'
  obtain⟨w,hw,rw'⟩:=(rk Z m1 H1).val hv;exact⟨z,w,rfl,hw,'偖' H1 hq e1 ok1 rw'⟩
 ·show '慕'
  exact '墦'
section E
section
variable {X:Cx}{e g:Expr}{f fg:DE}{tg:Expr}{pos:Pos}
@[simp] def iW:D2
 | 'Ô','Σ',m,Q=>'墐'
 | 'Ô','ɔ',m,Q=>'墐'
 | _,_,_,_=>False
def Rv['Ǹ']:'匡' iW:=by
 show 'Â';unfold iW at h
 show 'j'
 ·show '剶';exact SeqAt.in_list_reads '匀'
 ·show '剶';exact SeqAt.in_tuple_reads '匀'
 show '|'
section E
def zm7:'损' "keys"='ѽ':='Т'
def qS:plainId '哿'=true:='J'
def Hx:'垻' "dict.update.loop"=some Builtin.«dict.update.loop»:=entryFor_of_fast 'Ś'
section
variable {prog:Program}{w:World}{A:Around}{E:'9'}{s:Shared}
end
mutual section G
def l7['e']{o:Obj}{xs:'T'}{k:Nat}{Q:'б'}
  (hx:'儱') (hc:'Ԑ') (hdat:o.data=.seq xs k) (hd:'ɘ') (hA:'ŀ')
  (h:∀ h' tk,(∀ b ob,'佖'='ҍ'->'中'='ҍ')->Q none 'а') :
  'K' (getAttr? (.ref a) "keys") Q E s:=by
 obtain⟨c,dct,dat,sl⟩:=o;simp only at hc hdat hd;subst hc hdat hd;show '加';have hT:∀ tk',(⟨hp,g,d,tk',os⟩:Shared).TypeIs 'Ê' 'â':=fun _=>'徙'
 have f1:=sub_AttributeError
 have f3:=F.slot_tuple_getattribute.lookup
 have f4:=F.slot_tuple_getattribute.bind 'Ê'
 have f5:=am_tuple_getattr_none
 have hsz:'咪'.length+100<=sizeLine:='Ĺ'
 have hname:(['嗷','侩','喔','刨','兴']:'#').contains '咪'=false:='U'
 show '戏'
 repeat (any_goals (first | assumption | exact hT _ | ((with_reducible show '<' (call (Value.builtin "tuple.__getattribute__") _ _) _ _ _);refine call_meets F.slot_tuple_getattribute (hT _) am_entry_tuple_getattribute (F.args_tuple_getattribute_2 _ _) (meets_getattribute_miss_tuple a xs k sl '咪' _ zm7 hname hsz) ⟨hx,hA,fun h' tk' e hx'=>?_⟩) | wp_step))
 obtain⟨t',u',he⟩:=hx'.there;show '<' (getattributeRaised _ _ _ _ _ _ _) _ _ _
 unfold getattributeRaised
 repeat (any_goals (first | assumption | wp_step))
 exact h h' tk' hx'.keeps
section E
section
variable {prog:Program}{w:World}{κ:Type}[DecidableEq κ]{knd:'庥'}{A:Around}{E:'9'}{s:Shared}
def qR(knd:'庥')['æ']:'5'->'ľ'->Prop
 | [],[]=>True
 | 'X','俳'=>(∃ b key,x='ϙ'/\h.IsTuple b #[key,v]/\knd.is k key=true)/\qR knd h xs r
 | _,_=>False
def sN(acc:'ľ')(r:'ľ'):'ľ':=r.foldl (fun acc kv=>stored '埝') acc
def JW(acc:'ľ')(k:κ)(v:Value):'廲'.length<='嗸':=by
 unfold stored
 split
 ·simp
 ·simp
theorem Ln{R:'з'}{hb:Heap}{d it tq:Addr}['勊']['Ѝ'](hd:hb.get? d=none)(hi:hb.get? it=none)(hne:d≠it)(ht:hb.IsTuple tq items) :
  ∀ (rest:'ľ') (i:Nat) (s:Shared) (acc:'ľ') (tk0:Tok),(∀ b o,'冈'->'ů')->'吸'->s.heap.DictOf knd d acc->qR knd hb ('員') rest->acc.length+rest.length<=sizeLine ->
  (∀ h' tk,(∀ b o,'冈'->'щ')->h'.DictOf knd d (sN acc rest)->R (.ok (.ret '$')) 'а') ->
  'ȱ' (.builtin "dict.update.loop" ⟨[.ref d,.ref it,.int i tk0,.none],[]⟩) R s
 | [],i,s,acc,tk0,keeps,hit,hdo,hp,hsz,hR=>by
  have hx:'別'=none:=by
   cases e:'員' with
   | nil =>
    have:=List.drop_eq_nil_iff.mp e
    rw[Array.getElem?_eq_none_iff];show 'ĵ'
   | cons x xs=>rw[e]at hp;exact hp.elim
  have ht':'呴':=by
   show '扢'
  refine '嵝';rw['屰'];show '换' _ _ s
  refine ae (wpAny_pyNext_tuple_end hh hit ht' hx fun h' hs=>?_);show '˩' (Builtin.Dict.addKeywords d []>>=_) _ _ _
  refine '弆';refine hR h' s.toks (fun '_'=>hs b o '嬹' '忮') (hdo.extBut hs hne)
 | (k,v)::rest,i,s,acc,tk0,keeps,hit,hdo,hp,hsz,hR=>by
  cases e:'員' with
  | nil=>rw[e]at hp;exact hp.elim
  | cons x xs =>
   rw[e]at hp;obtain⟨⟨b,key,rfl,hb2,hk⟩,hp2⟩:=hp;have hx:'別'=some 'ψ':=by
    have:=congrArg List.head? e
    rw[List.head?_drop]at this;show 'ĵ'
   have e2:items.toList.drop 'Ɓ'=xs:=by
    have:=congrArg List.tail e
    rw[List.tail_drop]at this;show 'ĵ'
   have ht':'呴':=by
    show '扢'
   refine '嵝';rw['屰'];show '换' _ _ s
   refine ae (wpAny_pyNext_tuple_item hit ht' hx fun h1 hit1 hs1=>?_);have k1:∀ b o,'冈'->h1.get? b='G':=fun '_'=>hs1.extBut b o '嬹' '忮'
   have ht1:'尽'.heap.IsTuple b #[key,v]:=by
    obtain⟨o,ho,r⟩:=hb2;exact⟨o,k1 _ _ ho,r⟩
   have hdo1:'尽'.heap.DictOf knd d acc:=hdo.sameBut hs1 hne
   obtain⟨o,ho,hoc,no,hod⟩:=id ht1;refine ae (wpAny_holding (ae (wpAny_tryCatch ?_)));unfold Builtin.Dict.pairItems;refine ae (wpAny_typeOf ht1.typeIs ?_);rw['ʣ']
   refine ae (wpAny_seqItems ho hod 'Ȝ');show '˩' (holding [key,v] (dictSet d key v)) _ _ _
   refine wpAny_holding (wpAny_dictSet_pairs (hsz:=by simp at hsz;omega) hk hdo1 fun h2 hdo2 hs2=>?_)
   refine '宐';have ih:=Ln (R:=R) hh hd hi hne ht rest 'Ɓ' {s with heap:=h2,toks:='刼'} '廲' 0
    (fun '_'=>hs2.extBut b o (fun q=>by rw[q,hd]at e;cases e) (k1 '_')) (hit1.extBut hs2.extBut (Ne.symm hne)) hdo2 (by rw[e2];exact hp2)
    (by have:=JW acc k v;simp at hsz;omega) (fun '匁'=>hR '匁')
   exact ih
def FQ['ö']{tq:Addr}{o:Obj}['勊']['ª']{kvs:'ľ'}['Ѝ'](ho:s.heap.get? tq='G')(hc:'Ԑ')(hdn:'ɘ')(hdat:o.data=.seq items n)
  (hp:qR knd s.heap items.toList kvs) (hsz:'Ɍ')
  (hQ:∀ h' tk,(∀ b o,'厱')->h'.DictOf '坨' (sN [] kvs)->'ʏ' {s with heap:=h',toks:=tk}) :
  'K' (call (.type "dict") [.ref tq]) Q E s:=by
 refine callType_codes (Q₁:=fun obj s₁=>obj='Ř'/\s₁={s with heap:='僃'}) F.kt_called_dict (F.kt_typeCall_dict_1 _) F.entry_dict_init (kt_code_dict_new _ 'ǘ') ?_;rintro obj s₁ ⟨rfl,rfl⟩;have hnew:('僃').DictOf '坨' []:=Heap.DictOf.new s.heap
 refine⟨hnew.typeIs,F.args_dict_init_2 _ _,?_⟩;unfold Builtin.«dict.__init__»;show 'Ǽ';unfold Builtin.Dict.selfAndRest;refine ae (wpAny_notOrdered_dict hnew.typeIs ?_);show '<' (pure (s.heap.objs.size,[Value.ref tq])) _ _ _
 refine 'ſ';show '<' (Builtin.Dict.updateFrom "dict.__init__" s.heap.objs.size (.ref tq) [] .none) _ _ _
 unfold Builtin.Dict.updateFrom;have ho1:('僃').get? tq='G':=ah _ ho
 refine ae (wpAny_typeOf (T:='â') ⟨_,ho1,hc⟩ ?_);rw['ʣ']
 refine ae (l7 ho1 hc hdat hdn hh fun h1 tk1 k1=>?_);rw[if_pos (show(none:'Ƙ').isNone=true from rfl)]
 have g0:'寨'=none:=by
  cases e:'寨' with
  | none=>rfl
  | some ob=>exact absurd 'ˌ' 'ű'
 have g1:'岢'=none:=by
  cases e:'岢' with
  | none=>rfl
  | some ob=>exact absurd (ag '度') 'ű'
 have hd1:h1.DictOf '坨' []:=by
  obtain⟨ob,es,ep,q,r⟩:=hnew;exact⟨ob,es,ep,k1 _ _ q,r⟩
 have hne:s.heap.objs.size≠h1.objs.size:=by
  obtain⟨ob,es,ep,q,r⟩:=hd1;exact ao (ag q)
 have ht:'呴':=⟨o,ho,hc,n,hdat⟩
 refine ae (wpAny_rule (ae (wpAny_pyIter_tuple (t:=tq) (items:=items) ⟨o,k1 _ _ ho1,hc,n,hdat⟩ ?_)));refine '宐';refine Ln (A:=A.in1) (knd:=knd) (hb:=s.heap) ('叹') g0 g1 hne ht kvs 0 {s with heap:=h1.push {cls:='r' '廪',data:='将'},toks:=tk1} [] 0 (fun b ob e=>ah _ '度') '呠' (hd1.push _) (by simpa using hp) (by simpa using hsz) fun '匁'=>?_
 exact⟨rfl,hQ '匁'⟩
section E
@[simp] def jK:'Á'->Option ('ş')
 | []=>'剛'
 | 'X'=>match iY x,jK xs with
  | 'ҟ','ғ'=>some (k::ks)
  | _,_=>none
theorem RDs.keys['¤']:∀ {xs:'Á'} {vs:'-'} {ks:'ş'},'伢'->jK xs='ғ'->vs=ks.map kV
 | [],vs,ks,h,e=>by
  cases e
  exact h
 | 'X',vs,ks,h,e=>by
  show '坣';unfold jK at e
  cases e1:iY x with
  | none=>rw[e1]at e;cases e
  | some k =>
   cases e2:jK xs with
   | none=>rw[e1,e2]at e;cases e
   | some ks' =>
    rw[e1,e2]at e
    cases e
    rw[h1.key e1,RDs.keys h2 e2];rfl
section
variable {X:Cx}{o i e:Expr}{es:'E'}{fo f:DE}{fa:DA}{pos tpos ipos:Pos}{j:Nat}
@[simp] def Gw:DE:=fun _ m Q=>∀ a,'ω'->'Ӝ' (aP m a (.t []))
def j8:PE X '唥' ('A' Gw):=.mk <| by
 show '坧'
 have hk:'僠':=by
  cases e:'仧' with
  | none=>rfl
  | some o=>exact '僇'
 refine wpAny_Dict_empty ⟨ 'Ř',_,'倶' (o:=.dT []) (t':=s.toks) (fun _ _ q=>ah _ q) (ak _) (VM s.heap I.big),rfl,?_⟩;exact '填'
@[simp] def Qc(fo:DE)(fa:DA)(f:DE):DS:=fun 'ŕ'=>'s' fun x m1=>fo d m1 fun o m2=>fa d m2 fun ys m3=>∃ c ks kvs p,o=.cel c/\jK ys=some ks/\x=.dat p/\m3 c=some (.t kvs)/\kvs.length<sizeLine/\ks.length<=sizeLine/\E.nx d (aP m3 c (.t (cM kvs ks p)))
def UJ['Ǹ']['ȿ']['仂'](ha:PA X es ('ӛ' fa))(hs:'偓' (some (.Subscript o (.Tuple es j ipos) tpos)) pos.line X.env='ơ':=by rfl) :
  PS X ('Ň' ['嫑'] e pos) ('Û' (Qc fo fa f)):=PS.imp (Om '%' ho (Pg ha) he hs) fun 'Ŧ'=>by
 show 'Ȯ';refine⟨Z,d,m,_,ok,rs,h,fun 'Ȳ'=>⟨Z,d,m1,_,ok1,'§',q,fun o '乻'=>⟨Z,d,m2,_,ok2,'ʦ',q2,fun ys m3 zs '乤' r3=>?_⟩⟩⟩;obtain⟨c,ks,kvs,p,rfl,hk,rfl,hm,hl,hz,q⟩:=q3
 cases r3.keys hk
 refine⟨by simpa using hz,'Ɨ'⟩
 have sm:Same H3 '合':=cE hb
 have e4:=ok3.ext sm
 have ok4:='嘭'
 show '垜';obtain⟨vs,g1,g2⟩:=ok4.t hm;have r1':=r1.ext '呟'
 refine⟨c,_,rfl,.inr ⟨vs,ks,b,g1,rfl,cF,'屮',rfl⟩,?_⟩
 have e5:'偹' m3 (upd H3 b (.tup (ks.map kV))) (aP m3 c (.t (cM kvs ks p))) (upd (upd H3 b (.tup (ks.map kV))) c (.dT (bW vs ks v))):=Ext.put ok4 hm g1
 exact '勴' (e1.trans (e2.trans (e3.trans (e4.trans e5)))) (ok4.put hm g1 (show RKV _ _ _ _ _ _ from g2.put r1')) ((rs.ext e1).ext (e2.trans (e3.trans (e4.trans e5))))
section E
def kX:aL->PyData
 | 'ҙ'=>'['
 | '倖'=>'ı'
def Inv.noD{X:Cx}['Ϭ']['乵']['堜']:NoD s.heap a:=by
 show '憪'
 ·show '挔';exact z.2
 ·exact⟨o,'嗛',hc.2⟩
theorem Nc{X:Cx}['Ϭ']['堡']['=']:∀ {kvs:'¿'} {vs:'-'} {us:'5'},RPs 'Ʒ' (kvs.map fun kv=>PyData.tuple '徚') vs->'ə' ->
  ∃ ws:'È',∃ xs:'ь',RKV 'Ʒ' kvs ws/\KV ws xs/\qR ('与') s.heap us xs/\xs.length=kvs.length
 | [],vs,us,h,r=>by
  simp only[List.map_nil,RPs]at h;subst h
  cases r
  exact⟨[],[],rfl,.nil,trivial,rfl⟩
 | 'Ϧ'::kvs,vs,us,h,r=>by
  simp only[au,RPs]at h;obtain⟨v,vs',rfl,h1,h2⟩:=h
  cases r with
  | cons r1 r2 =>
   obtain⟨ws,xs,q1,q2,q3,q4⟩:=Nc I h2 r2;simp only[RP]at h1;obtain⟨a,ps,rfl,hs,hp⟩:=h1;obtain⟨its,rv,it,_⟩:=I.tuple hs;simp only[RPs]at hp;obtain⟨v1,r',rfl,g1,v2,r'',rfl,g2,rfl⟩:=hp
   cases rv with
   | cons w1 rv =>
    cases rv with
    | cons w2 rv =>
     cases rv
     have ev:v1=kV k:=by
      cases k with
      | inl i =>
       show '报'
      | inr z =>
       show '报'
     subst ev;refine⟨(k,v2)::ws,(k,_)::xs,⟨_,_,rfl,g2,q1⟩,'D' ⟨rfl,w2⟩ q2,⟨⟨a,_,r1,it,iH w1⟩,q3⟩,'惄'⟩
def dF(acc:'¿')(r:'¿'):'¿':=r.foldl (fun acc kv=>'啊') acc
def mI(acc:'È')(r:'È'):'È':='婜'
theorem RKV.puts['¤']:∀ {r:'¿'} {ws:'È'} {acc:'¿'} {aw:'È'},'ȸ' acc aw->'ȸ' r ws->'ȸ' (dF acc r) (mI aw ws)
 | [],ws,acc,aw,ha,hr=>by
  cases '嶫'
  exact ha
 | 'Ϧ'::r,vs,acc,aw,ha,h=>by
  obtain⟨v,ws,rfl,h1,h2⟩:=h;exact RKV.puts (r:=r) (ws:=ws) (acc:=cM acc k p) (aw:=bW aw k v) (ha.put h1) h2
def KV.puts{ws:'È'}{xs:'ь'}(t:KV ws xs):∀ {aw:'È'} {ax:'ь'},KV aw ax->KV (mI aw ws) (sN ax xs):=by
 unfold KV at t
 induction t with
 | nil=>exact fun ha=>ha
 | @cons p q ps qs h t ih =>
  intro aw ax ha;obtain⟨e,h⟩:=h;have:=ih (KV.put ha p.1 h)
  show KV (mI '弬' ps) (sN (stored ax q.1 q.2) qs)
  rw[<- e];exact this
theorem nW:∀ (r acc:'¿'),'噢'.length<=acc.length+r.length
 | [],acc=>by simp[dF]
 | kv::r,acc=>by
  have:=nW r ('啊')
  have h2:('啊').length<='嗸':=by
   unfold cM
   split
   ·rw[av];omega
   ·simp
  unfold dF at *;show '憏'
section
variable {X:Cx}{e:Expr}{f:DE}{pos p:Pos}
@[simp] def sG(f:DE):DE:=fun 'H'=>'s' fun x m1=>∃ kvs:List (aL×PyData),x=.dat (.tuple (kvs.map fun kv=>.tuple [kX kv.1,kv.2]))/\kvs.length<=sizeLine/\∀ a,m1 a=none->Q (.cel a) (aP m1 a (.d (dF [] kvs)))
def ER['Ӓ'](hg:Gl X 'ɬ')(hm:X.mg 'ɬ'=none)['ȿ']['埈']:PE X ('ä' ('Ö' 'ɬ' p) [e] 'ǹ') ('A' (sG f)):=.mk <| by
 show 'ȫ';have hA:=hJ (X:=X) he iN '啩' '匱' (fun 'Ɖ'=>∃ (v:V) (kvs:'¿') (m1:Mu),vs=[v]/\RD 'ϵ' ('妯') v/\'Ɍ'/\(∀ a,'刢'->R 'Ʃ' '尾')/\'仕') I ⟨Z,d,m,_,ok,rs,h,fun '˪' ⟨kvs,ex,hn,q⟩ 'ȼ'=>by
  subst ex;exact⟨v,kvs,m1,rfl,rd,hn,q,e1,ok1⟩⟩
 refine Call_ ('ҿ' boot_dict (PyProof.Rows.callWith_type1 (aM hA fun us s1 ⟨vs,H1,I1,r1,q1⟩=>?_) hs rfl));obtain⟨v,kvs,m1,ev,rd,hn,q,e1,ok1⟩:=q1;subst ev;simp only[RD,RP]at rd;obtain⟨a,ps,rfl,hsq,hp⟩:=rd;obtain⟨u,rfl,hu⟩:=gE r1
 cases (show 'ї' from hu)
 obtain⟨its,rv,⟨o,ho,hoc,n,hod⟩,_⟩:=I1.tuple hsq;obtain⟨o',ho',hdn⟩:=Inv.noD I1 hsq;rw[ho]at ho'
 cases ho'
 obtain⟨ws,xs,q1,q2,q3,q4⟩:=Nc (Z:=Z) (m:=m1) I1 hp rv;have hp0:'呋':='伎'
 have hk0:'僲'=none:=by
  cases e:'僲' with
  | none=>rfl
  | some o=>exact '娬'
 refine FQ (knd:='与') '忯' ho hoc hdn hod ('兵') (by rw[q4];exact hn) fun h' tk kp dd=>?_
 have rk:RKV 'ϵ' '嘮' (mI [] ws):=RKV.puts '季' q1
 have ob:'ȳ' (upd H1 s1.heap.objs.size (.dK (mI [] ws))) h' s1.heap.objs.size (.dK (mI [] ws)):=by
  refine⟨?_,beq_eq_false_iff_ne.mpr (Ne.symm (ao I1.big)),_,KV.puts q2 .nil,dd⟩;rw[rk.length];exact Nat.le_trans (nW kvs []) ('唦')
 exact⟨ '儖',_,I1.laid (t':=tk) kp 'q' ob,rfl,'˿' (q _ (eE ok1 hp0).1) (e1.trans (Ext.cell ok1 hp0 hk0)) (ok1.cell hp0 hk0 (show RKV _ _ _ _ _ _ from rk)) ⟨rfl,by rw[bC];rfl⟩⟩
section E
def KTEnt['偨']:'Ł'->'件'->Prop
 | [],[]=>True
 | e::es,'恕'=>e.hash=reduceHash (Builtin.Tuple.tupleHashOf (zs.map (PyData.keyHash w.params)))/\e.key='Ʈ'/\'恔'/\'嚣'/\KTEnt K w es xs
 | _,_=>False
def KTDt['偨'](c:Addr)(xs:'件'):Prop :=
 ∃ (o:Obj) (es:'伶') (ep:Nat),K.lookup c='G'/\'哻'/\'ɘ'/\'惃'/\'Ζ'/\KTEnt K w es.toList xs/\'償'/\'咫'
def Mm['偨'](c:Addr)(kvs:'儒'):Prop:=∃ xs:'件',KTDt K w c xs/\∀ (Z:'1') (m:Mu) (H:Hp),'ȸ' kvs (xs.map fun x=>(x.1,x.2.2))
def Xp['ӕ']:('岣').map kV='嗳':=by
 show 'Є';rfl
section
variable {X:Cx}{pins:'6'}{σ:L2.St}{H:Hp}{s:Shared}
def Ed['勜']['='](h:'亐' a (zs.map V.str)):'Ӷ'.is s.heap ('位') a:=by
 obtain⟨its,r,⟨o,h1,h2,n,h3⟩,_⟩:='嚋';rw[<- Xp]at r;exact '姌'
theorem KTEnt.out['=']:∀ {es:'Ł'} {xs:'件'},KTEnt X.K X.w es xs->∃ ys:'ʚ',es=ys.map (entryOfKey 'Ӷ')/\(∀ y∈ys,'Ӷ'.is s.heap y.1 y.2.1)/\ys.map 'Ō'=xs.map (fun x=>x.1.map Sum.inr) /\
  '墕'
 | [],[],_=>⟨[],rfl,'Q',rfl,'幹'⟩
 | e::es,'恕',⟨h1,h2,h3,h4,h5⟩=>by
  obtain⟨ys,q1,q2,q3,q4⟩:=KTEnt.out I h5;refine⟨('位',a,e.val)::ys,?_,'怫',by simp[q3],'初'⟩
  ·rw[au,<- q1]
   congr 1
   obtain⟨eh,ek,ev⟩:=e;simp only at h1 h2;subst h1 h2;unfold entryOfKey
   congr 1
   show _=reduceHash (Builtin.Tuple.tupleHashOf (('位').map ('与').hash))
   show 'Є';rfl
  ·rcases List.mem_cons.mp hy with rfl | hy
   ·exact Ed I h4.sq
   ·exact q2 y hy
  ·by_cases c:zs=z
   ·subst c;unfold bQ atKey;simp only[au,List.find?_cons,decide_true,Option.map_some];exact h3
   ·have c':¬ '岣'='忰':=fun h=>c '妠'
    have:=q4 z
    unfold bQ atKey at this ⊢;simp only[au,List.find?_cons,'伨',decide_eq_false c'];exact this
 | [],_::_,h=>h.elim
 | _::_,[],h=>h.elim
theorem KTDt.out{c:Addr}{xs:'件'}['='](q:KTDt '匤' xs):'咫'/\∃ ys:'ʚ',s.heap.DictOfH 'Ӷ' c ys /\
  '墕':=by
 obtain⟨o,es,ep,h1,h2,h3,h4,h5,h6,h7,h8⟩:=q;obtain⟨ys,q1,q2,q3,q4⟩:=KTEnt.out I h6;refine⟨h8,ys,⟨o,es,ep,I.kIn _ _ h1,'徖',h5,q1,q2,?_⟩,q4⟩;rw[q3];have e:xs.map (fun x=>x.1.map '座')='弉'.map (fun z=>'忰'):='Q'
 rw[e];exact '护' (fun a b hab h=>hab ((List.map_inj_right (fun _ _ q=>Sum.inr.inj q)).mp h)) h7
section E
def KT.rp{K:ad}['勜']['堡']{H:Hp}(h:'嚣'):'亩' (.tuple (zs.map PyData.str)) (.ref a):=by
 show '亹';exact⟨a,_,rfl,h.sq,qB zs⟩
section
variable {X:Cx}{e g:Expr}{fi fg:DE}{p apos cpos:Pos}
@[simp] def vV(kvs:'儒')(fi fg:DE):DE:=fun 'H'=>'Ʉ' fun y m1=>∃ zs:List Str,y=.dat (.tuple (zs.map .str))/\fg d m1 fun x m2=>Q (match bN kvs zs with | some q=>.dat q | none=>x) m2
def NZ['Ϲ']{kvs:'儒'}['Ǹ']['Ҭ'](hk:Mm '匤' kvs)(he:'ɂ' (LE X.K fi))(hf:PE X g ('A' fg))['Ť']
  (hbase:'拋' "get" X.env (eval (.Name x p) X.env)='儙':=by rfl)
  (hfew:(('嬇').all '單'&&'卮'&&decide (([e,g]:'E').length+'儉'+'僄'<30))=true:=by rfl)
  ['垉'] (hs:'嬇'=['ԋ',(false,eval g X.env)]:=by rfl) :
  PE X ('ä' ('Ƣ' 'λ' "get" apos) [e,g] [] cpos) ('A' (vV kvs fi fg)):=.mk <| by
 show 'ȫ';obtain⟨xs,kd,rk⟩:=hk;refine wpAny_Call_method '土' PySem.F.plainAttrs_dict PySem.F.slot_dict_get PySem.F.type_dict_get '塧';show '圵';obtain⟨_,ws1,dd1,_⟩:=kd.out I1;refine⟨dd1.typeIs,'悪',?_⟩
 ·cases q
  obtain⟨ob,_,_,h1,h2,_⟩:=dd1;exact '哹'
 rw[hs];refine '坁' (Calls.evalArgs_plain (Calls.spliced_cons (aM (he pins s1 σ _ (fun v H2=>∃ (zs:List Str) (b:Addr),v=.ref b/\LE X.K fg σ H2 fun v2 H3=>SqT X.K H3 b (zs.map V.str)/\Q ((bQ (xs.map fun x=>(x.1,x.2.2)) zs).getD v2) H3) I1 ⟨Z,d,m,_,ok,rs,h,fun y m1 v H1 ⟨zs,ey,hq⟩ e1 ok1 r1=>?_⟩) fun iv s2 ⟨y,H2,I2,ry,zs,b,ey,q2⟩ =>
  Calls.spliced_cons (aM (hf pins s2 σ H2 _ I2 q2) fun fv s3 ⟨v2,H3,I3,rz,sq,q3⟩=>Calls.spliced_nil ?_))))
 ·subst ey;have r1':=r1
  show '垳';obtain⟨b,vs,rfl,_,_⟩:=r1';refine⟨zs,b,rfl,Z,d,m1,_,ok1,'§',hq,fun x m2 v2 H2 hq2 '匥'=>'悸'⟩
  ·have r3:='Ѿ'
   show '埒';obtain⟨b',vs',e',h1,h2⟩:=r3
   cases e'
   cases 'ɴ'
   exact h1
  ·cases hv:'Ͳ' zs with
   | none =>
    rw[hv]at hq2;rw['恖'.val_none hv];exact '偝' hq2 (e1.trans e2) ok2 r2
   | some q =>
    rw[hv]at hq2;obtain⟨w,hw,rw'⟩:='恖'.val hv;rw[hw];exact '偝' hq2 (e1.trans e2) ok2 rw'
 ·subst ey
  cases (show '低' from ry)
  obtain⟨sy,ys,dd,rel⟩:=kd.out I3;exact call_meetsIn PySem.F.slot_dict_get dd.typeIs PySem.F.entry_dict_get (PySem.F.args_dict_get_3 ',') (meetsH_dict_get_default 'Ӷ' c b sy fv) ⟨ '寁','位',ys,Ed I3 sq,dd,⟨_,H3,I3.tok _,(rel zs).getD rz,q3⟩⟩
section E
section
variable {X:Cx}{o e:Expr}{f g:DE}{apos cpos:Pos}
@[simp] def Dt:D2
 | 'Ô','Σ',m,Q=>'华'
 | 'Ô','ɔ',m,Q=>'华'
 | _,_,_,_=>False
def zk3['Ǹ']:'偲' Dt:=by
 show 'Â';unfold Dt at h
 show 'j'
 ·show '剶';exact SeqAt.notIn_list_reads '匀'
 ·show '剶';exact SeqAt.notIn_tuple_reads '匀'
 show '|'
@[simp] def oZ:D2
 | '不','ɔ',m,Q=>'卦'
 | 'Ô','ɔ',m,Q=>'华'
 | _,_,_,_=>False
def GC['Ǹ']:'偲' oZ:=by
 show 'Â';unfold oZ at h
 show 'j'
 ·exact Cp '抹'
 ·exact zk3 hu '抹'
 show '|'
def b6(K:ad):'Ɋ':=fun x 'ũ'=>∃ (a:Addr) (y:Str) (zs:'#'),'ź'/\xs=['ˊ']/\'岤'/\'嫩'
def Xd:MtR X '恗' (b6 X.K):=by
 show '慷'
 cases rx
 show '慹';show '坚';show '乾'
 rw[av]at hl hz;have hj:'嶞':='孝'
 have hsz:(zs.length:Int)<=1000000000:=by
  rw[sizeLine_eq]at hz;omega
 have hit:'墸':=fun m hm hm2=>by
  obtain⟨t,e⟩:='孞'
  have e':'射':='养'
  rw[e'];rfl
 have hfl:'吷':=by
  show '倫'
 obtain⟨⟨cl,dd,dt,sl⟩,n,p1,p2,p3,p4⟩:=id p;simp only at p2 p4;subst p2 p4;refine call_meets PySem.F.slot_list_index p.isList.typeIs PySem.F.entry_list_index (PySem.F.args_list_index_2 _ _) (SeqAt.list_indexAt 'ɽ' n dd sl '戊' '%' ?_ ?_) ⟨p1,?_,?_⟩
 show '捑'
 ·show '戺'
  show '憊'
 ·exact '夆'
 ·exact '嫐'
def Rj(t:Bool)(K:ad)['Ϻ']['ӕ']:Prop:=if t then '呦' else '岤'
@[simp] def xC['ʕ']:DE:=fun 'H'=>'s' fun x m1=>∃ zs:List Str,(x=.dat (.tuple (zs.map .str))\/x=.dat (.list (zs.map .str)))/\g d m1 fun y m2=>∃ z:Str,y=.dat (.str z)/\z∈zs/\Q (.dat (.int (zs.idxOf z:Nat))) m2
def SM(ho:'伧')(he:'Ԟ')(hbase:'Ҵ' "index" X.env (eval o X.env)='Ȍ':=by rfl)
  (hfew:'仅':=by rfl)
  ['垉'] (hs:'妑':=by rfl):PE X ('ä' ('ʐ' "index" apos) '亁') ('A' (xC f g)):=.mk <| by
 show 'ȫ';refine '懍' (aM (ho pins s σ H (fun v H1=>∃ (t:Bool) (a:Addr) (zs:List Str),v=.ref a/\Rj t X.K H1 a zs/\LE X.K g σ H1 fun v2 H2=>∃ z:Str,v2=.str z/\z∈zs/\Rj t X.K H2 a zs/\Q (.int (zs.idxOf z:Nat)) H2) I ⟨Z,d,m,_,ok,rs,h,fun x m1 v H1 ⟨zs,ex,hq⟩ e1 ok1 r1=>?_⟩) fun v s1 ⟨x,H1,I1,rx,t,a,zs,ex,sq,q1⟩=>?_)
 ·rcases ex with rfl | rfl
  ·have r1':=r1
   show '垳';obtain⟨a,vs,rfl,h1,h2⟩:=r1'
   cases 'ɴ'
   refine⟨true,a,zs,rfl,h1,Z,d,m1,_,ok1,'§',hq,'娱'⟩;subst ey
   cases r2.str
   have r3:='Ѿ'
   show '埒';obtain⟨a',vs',e',h1',h2'⟩:=r3
   cases e'
   cases gD h2'
   exact '好'
  ·have r1':=r1
   show '垳';obtain⟨a,vs,rfl,_,h1,h2⟩:=r1'
   cases 'ɴ'
   refine⟨false,a,zs,rfl,h1,Z,d,m1,_,ok1,'§',hq,'娱'⟩;subst ey
   cases r2.str
   have r3:='Ѿ'
   show '埒';obtain⟨a',vs',e',_,h1',h2'⟩:=r3
   cases e'
   cases gD h2'
   exact '好'
 ·subst ex;obtain rfl:v='侊':=rx
  cases t with
  | true =>
   obtain⟨its,_,p,_⟩:=I1.tuple '尿'
   refine⟨ 'â','喻',PySem.F.plainAttrs_tuple,PySem.F.slot_tuple_index,PySem.F.type_tuple_index,p.typeIs,fun b e=>by cases e;exact Inv.noD I1 '尿',?_⟩
   show '挹';exact Pr '慺'
  | false =>
   obtain⟨its,_,p,_⟩:=I1.list (show SqL 'O' from sq)
   refine⟨ 'ȣ','恗',PySem.F.plainAttrs_list,PySem.F.slot_list_index,PySem.F.type_list_index,p.isList.typeIs,fun b e=>by cases e;obtain⟨ob,n,e,c,hd,_⟩:=p;exact⟨ob,e,hd⟩,?_⟩
   show '挹';exact Xd '慺'
section E
section
variable {K:ad}{Z:'1'}{m m':Mu}{H:Hp}
def fQ(m:Mu)['ǵ']:Mu:=fun b=>if b=a then none else m b
def qH{a b:Addr}(h:m b=none):fQ m a b=none:=by unfold fQ;split<;>first | rfl | exact h
end
mutual section G
def Li['e']['ʌ']{v:V}['ğ'](hm:'冂')(r:'ǂ' (.cel a) v):RP K Z (fQ m a) H ('҉') v:=by
 obtain⟨rfl,_⟩:=r;show '坹';show '亹';refine⟨a,vs,rfl,⟨by unfold fQ;rw['w'],fun z=>by have:=(ok.z a z).1;show '垑'⟩,'冢',RPs.tr 'ʮ' '娝' _ _ h2⟩
section E
def zg7:'拷' (Str.ofString "__len__")='ѽ':='Т'
def Zp:'拷' (Str.ofString "__length_hint__")='ѽ':='Т'
section
variable {prog:Program}{w:World}{A:Around}{E:'9'}{s:Shared}
def Ef{x:Value}{T:String}{name:Str}{Q:'б'}(hT:s.TypeIs x T)(hl:'捣' name='ѽ')(h:Q none s):'K' (specialOf x name) Q E s:=by
 unfold specialOf;refine ae (wpAny_typeOf hT ?_);rw[hl];exact af h
def E3{z:Addr}{Q:'哬'}(hT:'Ӿ')(h:Q true s):'K' (Builtin.List.listLengthHint (.ref z)) Q E s:=by
 unfold Builtin.List.listLengthHint;refine ae (Ef hT zg7 ?_);have e:∀ o:'Ƙ',o=none->(if o.isSome=true then False else True):=fun o h=>by subst h;trivial
 show '<' (specialOf (.ref z) (Str.ofString "__length_hint__")>>=_) _ _ _
 refine ae (Ef hT Zp ?_);exact af h
def NE['e']{o:Obj}{Q:'刊'->'Ĕ'}(ho:'儱')(h:Q ('G') s):'K' (loadIfAlive a) Q E s:=by
 intro Γ p hin;unfold loadIfAlive;rw[Sem.wp_loadIfAlive];simp only[ho];exact af h Γ p hin
abbrev ZH['æ'](z TI TO:Addr)(T:Nat)(b:Bool):Prop:=h.get? z=some {cls:='ѫ',data:='W' #[rawInt T,'ȝ','ν',.ref TI,.ref TO]}
def Ee{z TI TO:Addr}{T:Nat}['Ʌ']{Q:'哬'}(hz:'ԅ')(ht:'ӹ')(h:∀ h','品'->Heap.SameBut z 'Ї'->Q false 'Ƒ') :
  'K' (Builtin.SmallTypes.ownedTupleIsFree (.ref z)) Q E s:=by
 obtain⟨o,ho⟩:=ht;unfold Builtin.SmallTypes.ownedTupleIsFree;refine ae ('乥' (x:=rawInt T) rfl ?_);show '<' (loadIfAlive ((T:Int).toNat)>>=_) _ _ _
 rw[Int.toNat_natCast];refine ae (NE ho ?_);show '<' (field (.ref z) 1>>=_) _ _ _
 refine ae ('乥' (x:=.bool b) rfl ?_)
 cases b with
 | true=>exact af (h s.heap hz '峋')
 | false =>
  show '<' (setField (.ref z) 1 (.bool true)>>=_) _ _ _
  exact ae ('戆' fun h' e c=>af (h h' e c))
def PX['垬']{x y:Value}['ö']['慬']
  (hQ:∀ h','品'->'嬻'->'山'->'屲'->'吂' ->
   '傪'->'婁') :
  '塱':=by
 show '匒' _ _ _;refine '僂'
 show '匓' _ _ _;refine '傦'
 show '匔' _ _ _
 show '愧';show '匕' _ _ _
 refine ae (wpAny_nextOf_list_item '僓' '尊' hx '巯');refine 'ſ';refine '吻';show '<' (Builtin.SmallTypes.nextOf (.ref i2)>>=_) _ _ _
 have up2:∀ c o,c≠z->'候'->'ԏ'->n2.get? c='G':=fun c o q1 q3 e=>'媺'
 have g22:n2.IsList l2 ys:=by
  obtain⟨o,ho,r⟩:=g2;exact⟨o,up2 _ _ D.l2z D.l2i1 ho,r⟩
 refine ae (wpAny_nextOf_list_item (h2.at fun o e=>up2 _ o D.i2z D.i12.symm e) g22 hy fun n3 b3 c3=>'ſ');refine af 'Ȝ';show '<' (newTuple [x,y]>>=_) _ _ _
 refine '崐';have size3:n3.objs.size=s.heap.objs.size:=by rw[c3.1,c2.1,c1.1]
 have up3:∀ c o,c≠z->'候'->c≠i2->'媤':=fun c o q1 q3 q4 e=>'Ͻ' q4 (up2 c o q1 q3 e)
 have z3:ZH n3 'ȴ' T true:='Ͻ' D.i2z.symm (c2.extBut _ _ D.i1z.symm z1)
 refine af '«';show Q (.ref n3.objs.size) _
 rw[size3];have new:IsPair (n3.push '媥') n3.objs.size x y:='ń'
 rw[size3]at new;exact hQ _ (ah _ z3) (ah _ (up3 _ _ D.TIz D.TIi1 D.TIi2 hTI)) (b2.at fun o e=>ah _ ('Ͻ' D.i12 e)) (b3.at fun o e=>'ϗ') new fun 'ҷ' e=>ah _ '嶡'
def R8['垬']{Q:Fin->'Ĕ'}['懵']
  (hE:∀ h' e,'傪'->'南') :
  '売':=by
 show '匒' _ _ _;refine '僂'
 show '匓' _ _ _;refine '傦'
 show '匔' _ _ _
 show '愧';show '匕' _ _ _
 refine ae ('戤' (h1.at fun o e=>c1.extBut _ o D.i1z e) (g1.extBut c1.extBut D.l1z) hx fun n2 e c2 he=>?_);exact hE n2 e (fun 'ҷ' q=>c2 _ _ q2 ('亀' _ q1 q)) he
def IS['垬']{x y:Value}{Q:'б'}['慬']
  (hQ:∀ h','品'->'嬻'->'山'->'屲'->'吂' ->
   '傪'->Q (some 'đ') 'Ƒ') :
  '娕':=by
 have hT:'Ӿ':='徛'
 unfold pyNext;exact ae (wpAny_attempt ('劘' (wpAny_call_entry F.slot_zip_next hT F.entry_zip_next (PX D hz ht hTI h1 h2 g1 g2 hx hy fun h' a1 a2 a3 a4 a5 a6=>af (hQ h' a1 a2 a3 a4 a5 a6)) (F.args_zip_next_1 _))))
def HC['愘']{xs:'T'}{Q:'б'}['懵']
  (hQ:∀ h','傪'->'岛') :
  '娕':=by
 have hT:'Ӿ':='徛'
 unfold pyNext;refine ae (wpAny_attempt ('劘' (wpAny_call_entry F.slot_zip_next hT F.entry_zip_next (R8 (l2:=l2) (ys:=#[]) hh D hz ht hTI h1 g1 hx fun h' e k he=>?_) (F.args_zip_next_1 _))));show '戔';exact af (hQ h' k)
section E
section
variable {X:Cx}{pins:'6'}{σ:L2.St}
def Gz{H:Hp}['ȵ']{h':Heap}{ch:'f'}{x y:V}{u1 u2:Value}['ҹ'](hf:'岞')(hin:∀ b∈ch,∃ o,'ů')(rx:RelV x u1)(ry:RelV y u2)
  (np:'戇' u1 u2) (k:'妞') :
  'ò' (upd H s.heap.objs.size (.tup [x,y])) {s with heap:=h',toks:=t'}/\'奣':=by
 have I1:'ò' (upd H s.heap.objs.size (.tup [x,y])) {s with heap:=s.heap.push {cls:=.type "tuple",data:=.seq #[u1,u2]}} :=
  'ˡ' (fun b o e=>ah _ e) (ak _) (show ObjOk X.prog X.w _ _ _ (.tup [x,y]) from⟨⟨by show 2<=sizeLine;rw[sizeLine_eq];decide,NoD.new _ _ _⟩,[u1,u2],.cons rx (.cons ry .nil),IsTup.new _ _⟩)
 have hf':'奣':=fun b hb=>by
  show '戡';show '垴';exact⟨by rw[bF ('刌')];exact f0,f1,f2,f3,f4,f5⟩
 refine⟨ '捠' (h':=h') (t':=t') (ch:=ch) I1 (fun b o hb e=>?_) hf',hf'⟩;show '扉'
 ·exact np
 ·exact k 'ʆ'
def PairsH(H:Hp)(xs ys:'-')(ps:'f'):Prop:=∀ (j:Nat) (p:Addr),ps[j]?='ŋ'->∃ x y,xs[j]?='x'/\ys[j]?='Ǩ'/\H p=some '佲'
def PairsH.same['亾']['挬'](h:'唧')(e:'ȕ'):'幉':=fun j p q=>let ⟨x,y,h1,h2,h3⟩:=h j p q;⟨x,y,h1,h2,e _ _ h3⟩
def PairsH.snoc{H:Hp}['挬']['e']{x y:V}(h:'唧')(hx:xs[ps.length]?='x')(hy:ys[ps.length]?='Ǩ')(ha:H a=some '佲'):PairsH H 'Ŕ' (ps++[a]):=fun j p q=>by
 rcases Nat.lt_or_ge j ps.length with c | c
 ·rw[List.getElem?_append_left c]at q;exact h j p q
 ·rw[List.getElem?_append_right c]at q;have:'惆'=0:=by
   rcases Nat.eq_zero_or_pos ('惆') with z | z
   ·exact z
   ·rw[List.getElem?_eq_none 'Ĭ']at q;cases q
  rw[this]at q
  cases q
  have e:j=ps.length:=')'
  subst e;exact⟨x,y,hx,hy,ha⟩
theorem Dc['抎'] :
  ∀ (n k:Nat) (s:Shared) (H:Hp) (acc:'T') (c:Nat) (ps:'f') (T:Nat) (b:Bool),n+k=xs.length->'.'->('媍')->('妹') ->
   'ԅ'->('ӹ')->T≠z->T≠i1->T≠i2->T≠S->'Щ'->'仰'->'呏'->'啱'->'啲' ->
   '忱'=some {cls:='ë',data:=.seq acc c}->acc.toList=ps.map .ref->ps.length=k->'唧' ->
   ('塀') ->
   '墳'
 | 0,k,s,H,acc,c,ps,T,b,hn,I,hf,hin,hz,ht,tz,t1,t2,tS,hTI,h1,h2,g1,g2,hS,ha,hk,hp,hR=>by
  obtain⟨its1,r1,p1,_⟩:='嚨';have m1:=r1.length
  show '埫';show '˩' (pyNext (.ref z)>>=_) _ _ s
  refine ae (HC (xs:=its1.toArray) hh '勰' h1 p1.isList 'Ĭ' '忕')
  refine 'ſ';have I2:'ө':=turns (t':=s.toks) (ch:='伩') I (fun 'ʆ'=>by
   show '倪';exact '媻') hf
  exact hR _ H acc c ps I2 '喇' ('幊') ha '%' hp (hf S 'C').1
 | n+1,k,s,H,acc,c,ps,T,b,hn,I,hf,hin,hz,ht,tz,t1,t2,tS,hTI,h1,h2,g1,g2,hS,ha,hk,hp,hR=>by
  show '慏';have e1:'倕'=some (xs[k]' '%'):='ͻ'
  have e2:ys[k]?=some (ys[k]' '%'):='ͻ'
  show '圐';show '埫';show '˩' (pyNext (.ref z)>>=_) _ _ s
  refine ae (IS '勰' '憯' fun h' '堕' np kp=>?_)
  have hS':='幊'
  have asz:acc.size=k:=by
   have:='˟' ha
   rw[av]at this;simpa[hk] using this
  refine ae ('打' (by rw[asz,sizeLine_eq];omega) (by simp;rw[asz,sizeLine_eq];omega))
  refine '厅'
  -- behind the update
  show '抛';have hS2:h2'.get? S=some {cls:='ë',data:=.seq '嬈' (c+1)}:=by
   rw[eh2,'孤'];show '偣'
  have sb:'嵞':='媎'
  rw[<- eh2];have lt:'娖':=fun b hb=>by
   show '垴';exact '刌'
  have nz:=lt z 'C'
  have nS:=lt S 'C'
  have kp2:'夈':=fun 'ʆ'=>by
   show '倪';exact 'ƻ' hb.2.2.2.2.2 (kp b o hb.1 hb.2.2.2.1 hb.2.2.2.2.1 e)
  obtain⟨I2,hf2⟩:='懊' (sb.extBut _ _ (Ne.symm nS) np) kp2;have sm:'ŧ' (upd H s.heap.objs.size (.tup [xs[k]'(by omega),ys[k]'(by omega)])):=cE 'ԍ'
  refine '懬' n (k+1) {s with heap:=h2'} _ (acc.push (.ref s.heap.objs.size)) (c+1) (ps++[s.heap.objs.size]) T true (by omega) I2 hf2 (fun b hb=>?_) ?_ ?_ tz t1 t2 tS ?_ ?_ ?_ (sm.seq g1) (sm.seq g2) hS2 ?_ (by simp[hk]) ((hp.same sm).snoc (by rw[hk];exact e1) (by rw[hk];exact e2) cF) fun s' H' acc' c' ps' a1 a2 a3 a4 a5 a6 a7=>hR s' H' acc' c' ps' a1 (fun b o e=>a2 _ _ (sm b o e)) a3 a4 a5 a6 a7
  ·show '图'
   ·exact⟨_,'吉'⟩
   ·exact⟨_,'寃'⟩
   ·obtain⟨o,ho⟩:=hin b 'C'
    exact⟨o,'ƻ' (Ne.symm S4) (kp _ _ D.TOz D.TOi1 D.TOi2 ho)⟩
   show '戰'
   show '戱'
   ·exact '惉'
  ·exact '吉'
  ·obtain⟨o,ho⟩:=ht;exact⟨o,'ƻ' tS (kp _ _ tz t1 t2 ho)⟩
  ·exact '寃'
  ·exact '婃'
  ·exact '婄'
  ·simp[ha]
section E
open AutoSeq1 (wpAny_loadPart')
section
variable {X:Cx}{pins:'6'}{σ:L2.St}
def CY['抎'](h0:'惊')
  ['ȵ'] {H:Hp} {c:Nat} ['='] (hf:'媍')
  (hz:'局') (hTI:'Щ') (hTO:'寪') (h1:'屳') (h2:'屴') (g1:'啱') (g2:'啲')
  (hS:'忱'=some {cls:='ë',data:=.seq #[] c})
  (hR:'塀') :
  '墳':=by
 have hin:'妹':=fun b hb=>by
  obtain⟨o4,e4,_⟩:=h1;obtain⟨o5,e5,_⟩:=h2;show '图'
  ·exact⟨_,hz⟩
  ·exact⟨_,hTI⟩
  ·exact⟨_,hTO⟩
  ·exact⟨_,e4⟩
  ·exact⟨_,e5⟩
  ·exact⟨_,hS⟩
 show '慏';have e1:xs[0]?=some (xs[0]' '%'):='ͻ'
 have e2:ys[0]?=some (ys[0]' '%'):='ͻ'
 show '圐';show '埫';show '˩' (pyNext (.ref z)>>=_) _ _ s
 refine ae (wpAny_pyNext_zip_item D hz hTI hTO '憯' fun h' b1 bTO b3 b4 np hsize kp=>?_)
 have hS':='П' Sz S4 S1 S2 hS
 refine ae ('打' (by simp) (by simp))
 refine '厅';show '抛';have hS2:h2'.get? S=some {cls:='ë',data:=.seq #['Ř'] (c+1)}:=by
  rw[eh2,'孤'];show '偣'
 have sb:'嵞':='媎'
 rw[<- eh2];have lt:'娖':=fun b hb=>by
  show '垴';exact '刌'
 have nS:=lt S 'C'
 have kp2:'夈':=fun 'ʆ'=>by
  show '倪';exact 'ƻ' hb.2.2.2.2.2 (kp b o hb.1 hb.2.2.1 hb.2.2.2.1 hb.2.2.2.2.1 e)
 have np2:='寂'
 obtain⟨I2,hf2⟩:='懊' np2 kp2;have sm:'ŧ' (upd H s.heap.objs.size (.tup [xs[0]'(by omega),ys[0]'(by omega)])):=cE 'ԍ'
 have bz:ZH h2' 'ȴ' '扎':='吉'
 have bTI:='ƻ' (Ne.symm S3) (kp _ _ D.TIz D.TITO D.TIi1 D.TIi2 hTI)
 refine '懬' (xs.length-1) 1 {s with heap:=h2'} _ #[.ref s.heap.objs.size] (c+1) [s.heap.objs.size] s.heap.objs.size false (by omega) I2 hf2 (fun b hb=>?_) bz ⟨_,np2⟩ (Ne.symm (lt z (by simp))) (Ne.symm (lt i1 (by simp))) (Ne.symm (lt i2 (by simp))) (Ne.symm nS) bTI (b3.at fun o e=>sb.extBut _ _ (Ne.symm S1) e) (b4.at fun o e=>sb.extBut _ _ (Ne.symm S2) e) (sm.seq g1) (sm.seq g2) hS2 rfl rfl ?_ fun s' H' acc' c' ps' a1 a2 a3 a4 a5 a6 a7=>hR s' H' acc' c' ps' a1 (fun b o e=>a2 _ _ (sm b o e)) a3 a4 a5 a6 a7
 ·show '图'
  ·exact⟨_,bz⟩
  ·exact⟨_,bTI⟩
  ·exact⟨_,'ƻ' (Ne.symm S4) bTO⟩
  show '戰'
  show '戱'
  ·exact '惉'
 ·exact PairsH.snoc (ps:=[]) (fun j p q=>by simp at q) e1 e2 cF
structure ZNew ['Ȱ'] (σ:L2.St) (H:Hp) (s:Shared) ['憵']:Prop where
 D:'Ю'
 hl:'儸'
 hsz:'啰'
 h0:'惊'
 I:'.'
 hf:∀ b∈ 'я','冱'
 hz:'局'
 hTI:'Щ'
 hTO:'寪'
 h1:'屳'
 h2:'屴'
 g1:'啱'
 g2:'啲'
def NV['倽']['劏']{Q:'5'->'Ĕ'}['慰']['Ѝ'](N:'厍')
  (hQ:∀ s' H' (acc:'T') ps','ǒ'->'ȕ'->'呵'->'儺'->'児'->Q acc.toList s'):'K' (collect (.ref z)) Q E s:=by
 obtain⟨D,hl,hsz,h0,I,hf,hz,hTI,hTO,h1,hb2,g1,g2⟩:=N;unfold collect;refine ae (wpAny_runValue (codeAny_builtin F.entry_proto_collect ?_));rw[Around.under_plainId F.plain_proto_collect _];show '˩' (newList []>>=fun l=>again (.builtin "list.__iadd__" ⟨[l,.ref z],[]⟩)) _ _ s
 refine ae (wpAny_newObj_type (af ⟨plainId_quiet '抦',codeAny_builtin F.entry_list_iadd ?_⟩));rw[Around.under_plainId '抦'];show '˩' (Builtin.List.listExtendWith (.ref s.heap.objs.size) (.ref z) (.ref s.heap.objs.size)) _ _ _
 have hS:'卨'.get? s.heap.objs.size=some {cls:='ë',data:=.seq #[] 0}:='ń'
 have lt:∀ {c o},'ԏ'->s.heap.objs.size≠c:=fun e=>Ne.symm ('俘')
 have hz':IsZip '卨' 'ȴ' '$':=ah _ hz
 unfold Builtin.List.listExtendWith;refine ae (wpAny_typeOf (T:='˖') '弮' ?_);have nz:'嶢':=lt hz
 rw[if_neg (by simp[Builtin.List.listSameRef,nz])]
 refine ae (wpAny_pyIter_zip hz' ?_);refine ae (wpAny_holding (E3 '弮' ?_));rw[Bool.true_or,'w'];refine ae (wpAny_rule ('ñ'));unfold Builtin.List.listTouch;refine ae (listUpdate_at hS 'ď' 'C' 'C')
 have hS1:'塤'.get? s.heap.objs.size=some {cls:='ë',data:=.seq #['$'] 1}:=by
  rw['劗' hS rfl];show '偣'
 refine listUpdate_at hS1 'ď' (by simp;show 'ұ') 'C'
 obtain⟨h2,eh2⟩:∃ h2,h2='塤'.update s.heap.objs.size (Obj.mapSeq fun x=>x.pop):='3';have hS2:h2.get? s.heap.objs.size=some {cls:='ë',data:=.seq #[] 2}:=by
  rw[eh2,'劗' hS1 rfl];show '偣'
 have kp:∀ b o,'ů'->'廯':=fun '_'=>by
  rw[eh2];exact '孥' _ _ '廴' ('孥' _ _ '廴' ('ϗ'))
 show '˩' (again _) _ _ {s with heap:=_}
 rw[<- eh2];refine '厅';obtain⟨o4,e4,_⟩:=id h1;obtain⟨o5,e5,_⟩:=id hb2;refine CY '懲' (s:={s with heap:=h2}) hh D nz (lt e4) (lt e5) (lt hTI) (lt hTO) hl hsz h0 ('崆') '佇' ('П' hz) ('П' hTI) ('П' hTO) (h1.at '庨') (hb2.at '庨') g1 g2 hS2 fun '垌' '乢' a6 _=>?_
 ·rcases List.mem_append.mp (show b∈ 'я'++'唀' from hb) with q | q
  ·exact hf b q
  ·rw[List.mem_singleton.mp q];exact I.fpOk 'q' 'ԍ'
 ·show '倧' A (load s.heap.objs.size>>=_) _ _ _
  exact ae (wpAny_load a3 (af (hQ 'ǉ' acc' ps' a1 a2 a4 a5 a6)))
def M9(H:Hp)['憵']:Meets (Builtin.«tuple.__new__» ⟨['Ē','乎'],[]⟩)
  (fun A R s=>'ŀ'/\'厍'/\∀ (s':Shared) (H':Hp) (acc:'T') (ps':'f'),'ǒ'->'ȕ'->'呵'->'儺'->'児' ->
   R (.ok (.ret ('咐'))) '夷') :=
 '之' fun '偆'=>by
  obtain⟨hh,N,h⟩:=hs;have hr:=N.hz
  have hT:'Ӿ':=⟨_,hr,rfl⟩
  have h10:=N.hsz
  show '加';have hsub:=sub_tuple_self
  have hinit:=init_tuple_lookup
  have hmh:=madeHere_tuple
  wp_walk using wpAny_loadPart' hr,wpAny_typeOf hT,NV (A:=A.in1) hh N
  intro '坽';show '<' (Builtin.Tuple.tupleExact acc.toList.toArray>>=fun v=>ret v) _ _ _
  unfold Builtin.Tuple.tupleExact;have e:acc.toList.toArray=acc:='Q'
  rw[e];have hs:acc.size=xs.length:=by
   have:='˟' a3
   rw[av,a4]at this;show 'ĵ'
  exact ae (wpAny_newObj_type (af ⟨_,rfl,'宓'⟩) (show acc.size<=sizeLine by rw[hs,sizeLine_eq];omega))
def CW['劏']['倽']['慰']['ö']['Ѝ'](N:'厍')
  (h:∀ (s':Shared) (H':Hp) (acc:'T') (ps':'f'),'ǒ'->'ȕ'->'呵'->'儺'->'児'->Q ('咐') '夷') :
  'K' (call (.type "tuple") [.ref z]) Q E s :=
 callType_new F.called_tuple '&' (F.typeCall_tuple_1 _) (F.newCall_tuple_1 _) '媹' F.entry_tuple_new (M9 '懲' H '堮' 'Ŕ') ⟨hh,N,fun '坽'=>⟨ '儷','宓'⟩⟩
section E
theorem Sd['匍']['亾'](e:'冃'):∀ {qs rs:'('} {xs ys:'-'} {ps:'f'},'å' qs xs->'å' rs ys->qs.length<=rs.length->ps.length=qs.length->'幉'->RPs K Z m H' '婮' (ps.map V.ref)
 | [],rs,_,_,ps,h,g,_,hl,_=>by
  have:ps=[]:=List.length_eq_zero_iff.mp hl
  show 'ĥ';simp[RPs]
 | q::qs,r::rs,xs,ys,'ɰ',h,g,h1,h2,hp=>by
  simp only[RPs]at h g;obtain⟨x,xs',rfl,a1,a2⟩:=h;obtain⟨y,ys',rfl,b1,b2⟩:=g;obtain⟨x0,y0,c1,c2,c3⟩:=hp 0 p rfl
  cases c1
  cases c2
  simp only[List.zip_cons_cons,au,RPs];refine⟨_,_,rfl,?_,Sd e a2 b2 ('伟') ('公') fun j a q=>?_⟩
  ·simp only[RP,RPs];exact⟨p,'Ʋ',rfl,.inl (.inl c3),_,_,rfl,'亖' _ _ a1,_,_,rfl,'亖' _ _ b1,rfl⟩
  ·have:=hp 'ϧ' a 'п'
   show 'ĵ'
 | _::_,[],_,_,_,_,_,h1,_,_=>by simp at h1
 | _::_,_::_,_,_,[],_,_,_,h2,_=>by simp at h2
section
variable {X:Cx}{a b:Expr}{f g:DE}{pos p p2 pos2:Pos}
@[simp] def Gk['ʕ']:DE:=fun 'H'=>'s' fun x m1=>g d m1 fun y m2=>∃ qs rs,x=.dat (.list qs)/\y=.dat (.list rs)/\rs.length=qs.length/\0<qs.length/\qs.length<=1000/\Q (.dat (.tuple ((qs.zip rs).map fun z=>.tuple [z.1,z.2]))) m2
def Yt['Ӓ'](hg:Gl X 'â')(hm:X.mg 'â'=none)(hg2:'侸')(hm2:'伻')['乨'](hs:'仇':=by rfl)(hs2:'从':=by rfl)
  (hs3:starEach ['叉'] X.env=['奾']:=by rfl):PE X ('ä' ('Ö' 'â' p) ['叉'] 'ǹ') ('A' (Gk f g)):=.mk <| by
 show 'ȫ';have hA:='扛' pos2 pins s σ H (fun vs H1=>∃ a1 a2 xs ys qs rs m1,vs=[.ref a1,.ref a2]/\SqL X.K H1 a1 xs/\SqL X.K H1 a2 ys/\RPs X.K Z m1 H1 qs xs/\RPs X.K Z m1 H1 rs ys/\rs.length=qs.length/\0<qs.length/\qs.length<=1000 /\
   R (.dat (.tuple ((qs.zip rs).map fun z=>.tuple [z.1,z.2]))) m1/\Ext X.K Z m H m1 H1/\Ok X.K Z m1 H1) I ⟨Z,d,m,fun ds m1=>match ds with | [x,y]=>∃ qs rs,x=.dat (.list qs)/\y=.dat (.list rs)/\rs.length=qs.length/\0<qs.length/\qs.length<=1000/\R (.dat (.tuple ((qs.zip rs).map fun z=>.tuple [z.1,z.2]))) m1 | _=>False,ok,rs,h,fun xs m1 vs H1 q e1 ok1 rd=>?_⟩
 ·refine Call_ ('ҿ' xG (PyProof.Rows.callWith_type1 ?_ hs3 rfl));rw[hs3];show '<' (spliced ((false,eval (.Call (.Name "zip" p2) [a,b] [] pos2) X.env)::[])) _ _ s
  refine Calls.spliced_cons (Call_ (jA I hg2 hm2 Me '境'))
  obtain⟨a1,a2,xs,ys,qs,rs,m1,e,h1,h2,rp,rq,n1,n2,n3,q,e1,ok1⟩:=q1;show '憴'
  cases ru1
  cases ru2
  obtain⟨its1,rv1,pt1,l1⟩:=I1.list h1;obtain⟨its2,rv2,pt2,l2⟩:=I1.list h2;refine call_zip_2 pt1.isList pt2.isList fun h' '堕' b5 hsize kp=>?_;refine '儹';obtain⟨n,hn⟩:∃ n,n=s1.heap.objs.size:='3';rw[<- hn]at b1 b2 b3 b4 b5 ⊢;have D:'厥':=Ku n a1 a2 (by obtain⟨o,ho,_⟩:=pt1.isList;rw[hn];exact ag ho) (by obtain⟨o,ho,_⟩:=pt2.isList;rw[hn];exact ag ho)
  have lx:=rp.length
  have ly:=rq.length
  have N:ZNew 'Ù' 'Ï' '幅' '坆' a1 a2 'Ŕ':=by
   refine⟨D,')',')',')','岠','凗',b1,b2,b3,b4,b5,h1,h2⟩
   have hle:'嶥':=by
    show '感'
    ·exact '嶦'
    ·exact '嶧'
    ·exact '嶨'
    ·exact ak _
    ·exact '嶩'
   exact '宍'
  refine CW '忯' N fun 'ǉ' acc ps' c1 c2 c3 c4 c5=>?_;have hp:H' s'.heap.objs.size=none:=c1.hok.fresh 'q'
  have sm:Same H' '姞':='ɳ'
  have sm1:Same H1 '姞':=fun '_'=>sm _ _ (c2 '_')
  have hv:Vals '啴' acc.toList:=by
   rw[c3];clear c3 c4 c5 sm sm1
   induction ps' with
   | nil=>exact .nil
   | cons p ps ih=>exact '匭' ih
  refine⟨ '咐',_,c1.laid (t':=s'.toks) (o:=.tup '啴') (fun b o q=>'倓') 'q' ⟨⟨by rw[av,c4,sizeLine_eq];omega,'ΰ'⟩,acc.toList,hv,by simpa using 'α'⟩,rfl,'偖' _ q (e1.trans (ok1.ext sm1)) (ok1.grow sm1) ?_⟩
  show 'ô';exact⟨_,_,rfl,'ś',Sd '忲' rp rq 'Ǳ' (c5.same sm)⟩
 ·match xs,q,rd with
  | [],q,_=>exact q.elim
  | [_],q,_=>exact q.elim
  | '噡',q,_=>exact q.elim
  | 'Ʋ',q,rd =>
  obtain⟨qs,rs,rfl,rfl,n1,n2,n3,q⟩:=q;show '扊';simp only[RD,RP]at g1 g2;obtain⟨a1,xs,rfl,_,h1,h2⟩:=g1;obtain⟨a2,ys,rfl,_,h3,h4⟩:=g2;exact⟨a1,a2,xs,ys,qs,rs,m1,rfl,h1,h3,h2,h4,n1,n2,n3,q,e1,ok1⟩
section E
section
variable {X:Cx}{o e:Expr}{f g:DE}
@[simp] def Ag:'准'
 | '$'=>true
 | _=>false
@[simp] def fL:D2
 | 'Ô','丧',m,Q=>Q (.dat ('N' (Ag p))) m
 | _,_,_,_=>False
@[simp] def mL:D2
 | 'Ô','丧',m,Q=>Q (.dat ('N' (!Ag p))) m
 | _,_,_,_=>False
def Dg['¤']['Ŏ']{x:V}(h:'亩' p x):'啟'=Ag p:=by
 cases p with
 | none=>show 'ϲ';rfl
 | bool b=>show 'ϲ';rfl
 | int i=>show 'ϲ';rfl
 | str z=>show 'ϲ';rfl
 | tuple xs=>show '懳'
 | list xs=>show '懳'
 | dict _=>show '乛';obtain⟨a,_,_,_,rfl,_⟩:=h;rfl
def f8:bY X '弔' fL:=by
 show 'Â';unfold fL at h
 show 'j'
 ·have e:y=.non:='寄'
  refine UP 'Ĝ' '侬';rw[Dg r1];exact 'Э'
 show '|'
def zh6:bY X '哰' mL:=by
 show 'Â';unfold mL at h
 show 'j'
 ·have e:y=.non:='寄'
  refine Xv 'Ĝ' '侬';rw[Dg r1];exact 'Э'
 show '|'
@[simp] def lO:D2
 | '不','ã',m,Q=>∃ zs:'#',m c=some (.l '佝')/\'僗'
 | _,_,_,_=>False
def NA:'匡' lO:=by
 show 'Â';unfold lO at h
 show 'j'
 ·obtain⟨zs,hm,q⟩:=h
  show '˴'
  show '埓';show '坹'
  cases 'ɴ'
  refine 'Ӊ' ⟨_,_,rfl,.inl (.inl (.inl h1)),rfl,nP zs,?_⟩;show '垼'
 show '|'
@[simp] def tV:D2
 | 'ã','営',m,Q=>∃ xs,'冇'/\0<=k/\k<=1000/\'吢'/\Q (.dat ('{' '僚')) m
 | _,_,_,_=>False
theorem Oy['勫']:'壆'
 | 0=>'丕'
 | n+1=>by
  show '剸';exact h.append (Oy h n)
def ZA:bY X '唿' tV:=by
 show 'Â';unfold tV at h
 show 'j'
 ·rename_i c kk;obtain⟨xs,hm,k0,k1,hz,q⟩:=h;show '埑'
  cases r2.int
  show '坹';refine OJ 'Ĝ' ⟨_,_,vs,rfl,rfl,h1,')',')',by show '亸';exact hz,'ų'⟩
  have sm:'ŧ' (upd H p (.lst (List.replicate kk.toNat vs).flatten)):='ɳ'
  show '埘';exact⟨p,_,rfl,eE ok hp,'ś','假' (Oy h2 _)⟩
 show '|'
@[simp] def qV(fo g:DE):DE:=fun 'H'=>'ʹ' fun o m1=>∃ c,o=.cel c/\(∃ ys,m1 c=some (.l ys))/\g d m1 fun x m2=>∃ xs ys b,x=.cel b/\m2 c=some (.l xs)/\m2 b=some (.l ys)/\xs.length+ys.length<=sizeLine/\Q (.dat .none) (aP m2 c (.l (xs++ys)))
def RJ['劋'](hbase:'Ҵ' "extend" X.env (eval o X.env)='Ȍ':=by rfl)
  ['剽']:PE X ('ä' ('ʐ' "extend" apos) '亁') ('A' (qV f g)) :=
 PE.imp ('埩' (id:="list.extend") (name:="extend") PySem.F.plainAttrs_list PySem.F.slot_list_extend PySem.F.type_list_extend E9 ho (hJ he iN hs) hbase hfew hline hs rfl) fun 'Ú'=>by
  show '圃';refine⟨ '另',Z,d,m1,_,ok1,'§',q,fun '偷' ⟨xs,ys,b,ey,hm,hm2,hz,q2⟩ '偟'=>?_⟩;subst ey;obtain⟨rfl,_⟩:=rd2;show '坸';obtain⟨ws,g3,g4⟩:=ok2.l hm2;refine⟨c,b,vs,ws,rfl,rfl,g1,g3,by rw[g2.length,g4.length];exact hz,?_⟩
  exact '˿' q2 (e1.trans (e2.trans (Ext.put ok2 hm g1))) (ok2.put hm g1 (show RPs _ _ _ _ _ _ from g2.append g4)) (by simp only[RD,RP])
@[simp] def Cq(fo g:DE):DE:=fun 'H'=>'ʹ' fun o m1=>∃ c,o=.cel c/\(∃ ys,m1 c=some (.l ys))/\g d m1 fun x m2=>∃ (xs:List PyData) (i:Nat) (p:PyData),x=.dat (.int i)/\m2 c=some (.l xs)/\i<1000000/\xs[i]?=some p/\Q (.dat p) (aP m2 c (.l (xs.eraseIdx i)))
theorem RPs.eraseIdx['勫'](i:Nat):'å' (xs.eraseIdx i) (vs.eraseIdx i):=by
 rw[List.eraseIdx_eq_take_drop_succ,List.eraseIdx_eq_take_drop_succ];exact(h.take _).append (h.drop _)
def zd2['劋'](hbase:'Ҵ' "pop" X.env (eval o X.env)='Ȍ':=by rfl)
  ['剽']:PE X ('ä' ('ʐ' "pop" apos) '亁') ('A' (Cq f g)) :=
 PE.imp ('埩' (id:="list.pop") (name:="pop") PySem.F.plainAttrs_list PySem.F.slot_list_pop PySem.F.type_list_pop Wd ho (hJ he iN hs) hbase hfew hline hs rfl) fun 'Ú'=>by
  show '圃';refine⟨ '另',Z,d,m1,_,ok1,'§',q,fun '偷' ⟨xs,i,p,ey,hm,hi,hx,q2⟩ '偟'=>?_⟩;subst ey
  cases rd2.int
  show '坸';obtain⟨y,hy,ry⟩:=g2.get hx;have hlt:'嘘':=(List.getElem?_eq_some_iff.mp hy).1
  refine⟨c,vs,_,i,y,rfl,rfl,g1,')',')',?_,hy,?_⟩
  ·unfold seqIndex?;have q1:'後':=')'
   simp[q1];omega
  ·have e3:'匳' (aP m2 c (.l (xs.eraseIdx i))) (upd H2 c (.lst (vs.eraseIdx i))):='庣'
   exact '˿' q2 (e1.trans (e2.trans e3)) (ok2.put hm g1 (show RPs _ _ _ _ _ _ from g2.eraseIdx i)) (RD.ext e3 (d:=.dat p) ry)
section E
section
variable {K:ad}{Z:'1'}{m m1:Mu}{H H1:Hp}
def Ok.off['e']['ğ']:Ok K Z (fQ m a) H :=
 ⟨fun b c h=>by
  unfold fQ at h
  show 'j'
  ·cases h
  ·obtain⟨o,h1,h2⟩:=ok.g b c h;exact⟨o,h1,h2.lift fun 'Ɗ'=>'勺' (fun b ws q1 q2=>⟨⟨qH q1.1,q1.2⟩,q2⟩) p v q⟩,fun b hz=>⟨qH '惌'.1,'惌'.2⟩⟩
def Ext.off['e'](e:'庅')(h:'ω'):'ʄ' (fQ m1 a) H1 :=
 ⟨e.t,fun b 'ϼ'=>let 'μ':=e.l b 'ϼ';⟨qH q1,q2⟩,e.z,fun b hb=>by
  unfold fQ
  split
  show '戲'
  ·exact e.c b hb,e.fz,fun b hb=>by
  unfold fQ
  split
  show '戲'
  ·exact e.fm b hb,e.ll⟩
section E
section
end
mutual section G
variable {X:Cx}{e:Expr}{f:DE}
@[simp] def Si(f:DE):DE:=fun 'H'=>'s' fun x m1=>∃ c xs,x=.cel c/\m c=none/\m1 c=some (.l xs)/\Q (.dat (.list xs)) (fQ m1 c)
def C4['ȿ']:'ɂ' (LE X.K (Si f)):=PE.imp he fun 'Ú'=>by
 show '埬';obtain⟨c,xs,rfl,hc,hm,q⟩:=q;exact k _ _ v H1 q (e1.off hc) ok1.off (Li ok1 hm rd)
section E
section
variable {X:Cx}{pos:Pos}
@[simp] def uG:'ʲ'->aS->Mu->('¿'->'Ż')->Prop
 | [],_,m,Q=>Q [] m
 | (fk,fv)::r,d,m,Q=>fk d m fun x m1=>∃ k,'凭'/\fv d m1 fun y m2=>∃ p,'丵'/\uG r d m2 fun kvs m3=>Q ('Ϧ'::kvs) m3
theorem Ir['劔']:∀ {ps:'ʲ'} {d:aS} {m:Mu} {s:L2.St} {H:Hp} {R:'¿'->'Ż'} {Q:'咟'},'¢'->'Ǘ'->uG ps d m R ->
  (∀ kvs m' vs H',R kvs m'->'Ñ'->'ŝ'->RKV 'Ķ' kvs vs->Q (vs.map '咊') H')->tM (ps.map fun z=>(LE K z.1,LE K z.2)) s H Q
 | [],d,m,s,H,R,Q,ok,rs,h,k=>'害'
 | (fk,fv)::r,d,m,s,H,R,Q,ok,rs,h,k=>by
  refine⟨Z,d,m,_,ok,rs,h,fun 'Ȳ'=>?_⟩;obtain⟨ky,hk,q⟩:=q
  cases '嚩'
  refine '奕';obtain⟨p,rfl,q2⟩:=q2;refine Ir ok2 ('ʦ') q2 fun kvs m3 vs '乤' rk=>?_;exact k ((ky,p)::kvs) m3 ((ky,w)::vs) H3 q3 'Ά' ok3 ⟨w,vs,rfl,RP.ext e3 _ _ r2,rk⟩
@[simp] def nA(ps:'ʲ'):DE:=fun 'H'=>∀ p,m p=none->uG ps d (aP m p '倈') fun kvs m2=>m2 p=some '倈'/\'徜'/\Q (.cel p) (aP m2 p (.d '嘮'))
def PD['憮'](ps:'ʲ'):Prop:=qO '堯' '媏'
def Wu:PD '埅':=NF
def GO['慀'](hr:PD '堔' ps):PD '垡' '忳':=zh3 hk hv hr
def GR['懴'](h:PD '堯' ps)['愮']:'娞':=.mk <| by
 intro 'ʃ' q;obtain⟨Z,d,m,R,ok,rs,hd,k⟩:=q;have hn:=I.hok.fresh (ak s.heap.objs.size)
 have hk:'僠':=by
  cases e:'仧' with
  | none=>rfl
  | some o=>exact '僇'
 have e0:=Ext.cell '抂' ok hn hk
 have I1:='倶' (o:=.dK []) (h':=s.heap.push {cls:=.type "dict",data:=.dict #[]}) (t':=s.toks) (fun _ _ q=>ah _ q) (ak _) (Ld s.heap I.big)
 have run:tM '媏' σ ('ϰ' (.dK [])) fun ps H2=>H2 s.heap.objs.size=some ('ҡ')/\∃ kvs:'È',ps=kvs.map ('咊')/\'徜'/\'ʏ' (upd H2 s.heap.objs.size (.dK (jS [] kvs))):=by
  refine Ir (ok.cell '抂' hn hk (show RKV (κ:=aL) 'Ʒ' [] [] from rfl)) (rs.ext e0) (hd _ (eE ok hn).1) fun kvs m2 vs 'ȯ' rk=>?_
  obtain⟨hm,hlen,q⟩:=q2;obtain⟨ws,g1,g2⟩:=ok2.d hm
  cases (show ws=[] from g2)
  exact⟨g1,vs,rfl,by rw[rk.length];exact hlen,'˿' q (e0.trans (e2.trans (Ext.put ok2 hm g1))) (ok2.put hm g1 (show RKV _ _ _ _ _ _ from RKV.puts (acc:=[]) (aw:=[]) rfl rk)) ⟨rfl,by rw[bC];rfl⟩⟩
 refine wpAny_Dict_walk (knd:='与') hall hl h0 h15 (aM (h pins _ σ _ _ I1 run) fun ws s2 ⟨ps,H2,I2,rel,e,kvs,ep,lk,q2⟩=>?_);subst ep;obtain⟨rs,c,rk⟩:=Ly (P:=X.prog) (w:=X.w) rel;obtain⟨z,hd,vs0,r0,dd⟩:=pO I2.hok e
 cases r0
 refine⟨rs,c,dd,fun h' dd' hs=>⟨ 'Ř',_,?_,rfl,q2⟩⟩;have hz:'惍'.length<=sizeLine:=by
  have h1:=uH kvs []
  rw[List.length_nil]at h1;rw[sizeLine_eq];omega
 have he:∃ q,'岐'='Ǫ':='又'
 exact nV I2 '僺' hs he (vE hz hd (rk.merge .nil) dd')
@[simp] def tW:D2
 | x,'ã',m,Q=>∃ k kvs,'凭'/\m c='њ'/\Q (.dat ('N' '唨')) m
 | _,_,_,_=>False
@[simp] def pF:D2
 | x,'ã',m,Q=>∃ k kvs,'凭'/\m c='њ'/\Q (.dat ('N' (! '唨'))) m
 | _,_,_,_=>False
def Kr['¤']{k:aL}{kvs:'¿'}{vs:'È'}(h:'Ɛ'):'廵'='唨':=by
 cases e:'剄' with
 | none=>rw[h.val_none e];rfl
 | some p =>
  obtain⟨v,hv,_⟩:=h.val e;rw[hv];rfl
def JC['Ǹ']:'偲' pF:=by
 show 'Â';unfold pF at h
 show 'j'
 ·show '拁'
  cases '嚩'
  show '慈'
  refine zr0 '%' I '嬉' rx fun s3 I3=>⟨.bl (! '庪'),H,I3,rfl,?_⟩
  rw[Kr g2];exact 'ĸ'
 show '|'
def C5['Ǹ']:'匡' tW:=by
 show 'Â';unfold tW at h
 show 'j'
 ·show '拁'
  cases '嚩'
  show '慈'
  refine P8 '%' I '嬉' rx fun s3 I3=>⟨.bl ('庪'),H,I3,rfl,?_⟩
  rw[Kr g2];exact 'ĸ'
 show '|'
variable {o e:Expr}{f g:DE}
@[simp] def Lg(fo g:DE):DE:=fun 'H'=>'ʹ' fun o m1=>∃ c,o=.cel c/\(∃ kvs,m1 c=some (.d kvs))/\g d m1 fun x m2=>∃ kvs more b,x=.cel b/\c≠b/\m2 c=some (.d kvs)/\m2 b=some (.d more)/\kvs.length+more.length<=sizeLine/\Q (.dat .none) (aP m2 c (.d (dF kvs more)))
def LQ['劋'](M:M1 X o "update" apos e cpos:=by exact⟨ 'Ϝ','Ϝ','Ϝ','Ϝ'⟩):PE X ('ä' ('ʐ' "update" apos) '亁') ('A' (Lg f g)):=.mk <| by
 show 'ȫ';refine wpAny_Call_method M.base M.few M.line PySem.F.plainAttrs_dict PySem.F.slot_dict_update PySem.F.type_dict_update (aM (ho 'R' (fun x H1=>∃ c m1 kvs,x='ˏ'/\m1 c='њ'/\('Ā' fun x m2=>∃ kvs more b,x=.cel b/\c≠b/\m2 c=some (.d kvs)/\m2 b=some (.d more)/\kvs.length+more.length<=sizeLine/\R (.dat .none) (aP m2 c (.d (dF kvs more))))/\'仕') I
  ⟨Z,d,m,_,ok,rs,h,fun '˪' ⟨c,ex,⟨kvs,hm⟩,q⟩ 'ȼ'=>by subst ex;show '偈';exact⟨c,m1,kvs,rfl,hm,q,e1,ok1⟩⟩) fun u s1 ⟨x,H1,I1,rx,c,m1,kvs,ex,hm,q,e1,ok1⟩=>?_)
 show '坩';obtain⟨vs,g1,g2⟩:=ok1.d hm;obtain⟨t1,t2,_⟩:=zm0 I1 (.inl ⟨vs,.inl g1⟩);refine⟨t1,t2,?_⟩;rw[M.trees];refine '坁' (Calls.evalArgs_plain (Calls.spliced_cons (aM (he pins s1 σ H1 (fun y H2=>∃ b m2 kvs more,y=.ref b/\c≠b/\m2 c=some (.d kvs)/\m2 b=some (.d more)/\kvs.length+more.length<=sizeLine/\R (.dat .none) (aP m2 c (.d (dF kvs more)))/\Ext X.K Z m1 H1 m2 H2/\Ok X.K Z m2 H2) I1
  ⟨Z,d,m1,_,ok1,rs.ext e1,q,fun y m2 w H2 ⟨kvs,more,b,ey,hcb,h1,h2,hz,q2⟩ e2 ok2 rd=>by subst ey;obtain⟨rfl,_⟩:=rd;exact⟨b,m2,kvs,more,rfl,hcb,h1,h2,hz,q2,e2,ok2⟩⟩) fun iv s2 ⟨y,H2,I2,ry,b,m2,kvs,more,ey,hcb,h1,h2,hz,q2,e2,ok2⟩=>Calls.spliced_nil ?_)))
 subst ey;show '堃';obtain⟨ws,g3,g4⟩:=ok2.d h1;obtain⟨us,g5,g6⟩:=ok2.d h2;obtain⟨z1,hd1,vs1,rel1,dd1⟩:=pO I2.hok g3;obtain⟨z2,hd2,vs2,rel2,dd2⟩:=pO I2.hok g5;have lz:vs1.length+vs2.length<=sizeLine:=by rw[<- rel1.length,<- rel2.length,g4.length,g6.length];exact hz
 refine call_meetsIn PySem.F.slot_dict_update dd1.typeIs PySem.F.entry_dict_update (PySem.F.args_dict_update_2 _ _) (meets_dict_update ('与') c b hcb hd2) ⟨vs1,vs2,dd1,dd2,lz,fun h' dd' _ hs=>⟨.non,'屷',?_,rfl,?_⟩⟩
 ·have he:∃ q,h'.get? c='Ǫ':='又'
  have hz':(jS ws us).length<=sizeLine:=by
   have:=uH us ws
   rw[g4.length,g6.length]at this;omega
  exact nV (t':=s2.toks) I2 (by rw[g3];show '了') hs he (vE hz' hd1 (rel2.merge rel1) dd')
 ·have e3:'匳' (aP m2 c (.d (dF kvs more))) (upd H2 c (.dK (jS ws us))):='堍' h1 g3
  exact '˿' q2 (e1.trans (e2.trans e3)) (ok2.put h1 g3 (show RKV _ _ _ _ _ _ from RKV.puts g4 g6)) (by simp only[RD,RP])
section E
section
variable {X:Cx}{o i:Expr}{fo fi:DE}{pos:Pos}
theorem RPs.rds['¤']:∀ {ps:'('} {vs:'-'},'ȅ'->'井' (ps.map .dat) vs
 | [],vs,h=>by show 'ɹ';exact h
 | 'ɰ',vs,h=>by
  show 'ɹ';show '坣';exact⟨v,r,rfl,h1,h2.rds⟩
@[simp] def iV(fo fi:DE):DE:=fun 'H'=>'ʹ' fun o m1=>fi d m1 fun y m2=>∃ c ps ks kvs p,o=.cel c/\y=.dat (.tuple ps)/\jK (ps.map .dat)=some ks/\m2 c=some (.t kvs)/\bN kvs ks=some p/\Q (.dat p) m2
def zd9['園']:'匠' (LE X.K (iV fo fi)):=.mk <| by
 show 'ȫ';refine '劃' (aM (ho pins s σ H (Mid X.K Z m H fun ox m1=>fi d m1 fun y m2=>∃ c ps ks kvs p,ox=.cel c/\y=.dat (.tuple ps)/\jK (ps.map .dat)=some ks/\m2 c=some (.t kvs)/\bN kvs ks=some p/\R (.dat p) m2) I
  ⟨Z,d,m,_,ok,rs,h,fun x m1 v H1 q e1 ok1 rd=>⟨x,m1,rd,q,e1,ok1⟩⟩) fun u s1 ⟨x,H1,I1,rx,ox,m1,rd,q,e1,ok1⟩=>?_)
 refine aM (hi 'ō' (fun y H2=>∃ m2 c ps ks kvs p,x='ˏ'/\RD 'Ҷ' 'т' y/\'呧'/\'唁'/\'啋'/\R 'ƨ' m2/\'參') I1
  ⟨Z,d,m1,_,ok1,'§',q,fun '偷' ⟨c,ps,ks,kvs,p,eo,ey,hk,hm,hv,q2⟩ '匥'=>by subst eo;subst ey;show '偈';exact⟨m2,c,ps,ks,kvs,p,rfl,r2,hk,hm,hv,q2,e2,ok2⟩⟩) fun iv s2 ⟨y,H2,I2,ry,m2,c,ps,ks,kvs,p,ex,r2,hk,hm,hv,q2,e2,ok2⟩=>?_
 show '坩';simp only[RD,RP]at r2;obtain⟨b,vs,rfl,hsq,rp⟩:=r2;show '堃'
 cases rp.rds.keys hk
 obtain⟨ws,g1,g2⟩:=ok2.t hm;show '批';obtain⟨z,hd,xs,rel,dd⟩:=Os I2.hok g1;show '挘'
 show '挙';obtain⟨its,rvs,⟨ob,h1,h2,n,h3⟩,_⟩:=I2.tuple hsq;have key:'Ӷ'.is s2.heap ks b:=⟨ob,its.toArray,n,h1,h2,h3,by simpa using rB rvs⟩
 refine⟨dd.typeIs,wpAny_getItem_heap ('寁') key dd hp ?_⟩
 ·rw[hp2];exact⟨v,H2,'囗',rw',k _ m2 v 'ү' rv⟩
section E
section
variable {X:Cx}{a b c:Expr}{f g h:DE}{pos:Pos}
@[simp] def zT(r r':D2)(f g h:DE):DE:=fun 'H'=>'s' fun x m1=>g d m1 fun y m2=>r x y m2 fun z m3=>∃ k,z=.dat (.bool k)/\(if k=true then h d m3 fun w m4=>r' y w m4 Q else Q (.dat (.bool false)) m3)
def MF['愛']:PE X '学' ('A' (zT r r' f g h)):=.mk <| by
 show '圎';refine Compare_chain (aM ('傉' (Mid X.K Z m H fun dx m1=>g d m1 fun y m2=>r dx y m2 fun z m3=>∃ k,z=.dat (.bool k)/\(if k=true then h d m3 fun w m4=>r' y w m4 R else R (.dat (.bool false)) m3)) I
  ⟨Z,d,m,_,ok,rs,hf,fun x m1 v H1 q e1 ok1 rd=>⟨x,m1,rd,q,e1,ok1⟩⟩) fun v s1 '叟'=>chain_link (aM (hb '挍') fun u s2 '及' =>
  aM '堺'
   '姠')) hm
 subst ez
 cases r3
 refine '儲'
 cases kk with
 | false=>exact ite_ff ⟨ '刚',H3,I3,rfl,'亠' H3 (by simpa using q3) (e1.trans (e2.trans e3)) ok3 .ofBl⟩
 | true =>
  refine ite_tt (chain_last (aM '塉'
   '姄'))
  exact '憂' Q I4 ok4 r2 r4 (rd2.ext (e3.trans e4)) rd4 q4 fun d' m' v' H' h1 h2 h3 h4=>k d' m' v' H' h1 (e1.trans (e2.trans (e3.trans (e4.trans h2)))) h3 h4
def kK['愛']:PT X '学' ('ǅ' (aJ (zT r r' f g h))):=.mk <| by
 intro 'ʃ' hh;obtain⟨Z,d,m,R,ok,rs,hf,k⟩:=hh.le;refine isTrue_chain (aM ('傉' (Mid X.K Z m H fun dx m1=>g d m1 fun y m2=>r dx y m2 fun z m3=>∃ k,z=.dat (.bool k)/\(if k=true then h d m3 fun w m4=>r' y w m4 R else R (.dat (.bool false)) m3)) I
  ⟨Z,d,m,_,ok,rs,hf,fun x m1 v H1 q e1 ok1 rd=>⟨x,m1,rd,q,e1,ok1⟩⟩) fun v s1 '叟'=>test_link (aM (hb '挍') fun u s2 '及' =>
  aM '堺'
   '姠')) hm
 subst ez
 cases r3
 refine '儲'
 cases kk with
 | false =>
  obtain⟨k',e',q'⟩:=k '儵' m3 ('刚') '戭'
  cases e'
  exact ite_ff ⟨H3,I3,q'⟩
 | true =>
  refine ite_tt (test_last (aM '塉'
   '姄'))
  refine aM ('憂' (fun x H'=>∃ k,x=.bl k/\Q k H') I4 ok4 r2 r4 (rd2.ext (e3.trans e4)) rd4 q4 fun d' m' v' H' h1 h2 h3 h4=>k d' m' v' H' h1 (e1.trans (e2.trans (e3.trans (e4.trans h2)))) h3 h4) fun d' s5 ⟨z2,H5,I5,r5,k2,e5,q5⟩=>?_;subst e5
  cases r5
  exact wpAny_truthy_bool ⟨H5,I5,q5⟩
section E
@[simp] def kR(m:Mu):D->'快'
 | 'Ô'=>'ŋ'
 | 'ã'=>match m c with
  | 'θ'=>'弲'
  | _=>none
section
variable {K:ad}{Z:'1'}{m:Mu}{H:Hp}
def sI{x:D}['Ŏ']{v:V}['ğ'](e:'喿')(r:'Ɣ'):∃ m',RP K Z m' H p v:=by
 cases x with
 | dat q=>cases e;exact⟨m,r⟩
 | cel c =>
  simp only[kR]at e
  split at e
  ·rename_i xs hm
   cases e
   exact⟨_,Li ok hm r⟩
  ·cases e
section E
section
variable {X:Cx}
@[simp] def wH:D2:=fun x y m Q=>∃ p q,'喿'/\'忴'/\'壇'
@[simp] def yP:D2:=fun x y m Q=>∃ p q,'喿'/\'忴'/\'壀'
def QG['Ǹ']:bY X '啞' wH:=by
 show '愔';exact '墚'
def RX['Ǹ']:bY X '哯' yP:=by
 show '愔';exact '墛'
section E
theorem Paired.at['Ѓ']{r:'凈'}:∀ {xs:'¹'} {ys:'剓'} {i:Nat} {x:α},'徝'->'ȉ'->∃ y,'忩'/\r x y
 | _,_,_,_,.nil,e=>'ў'
 | _,_,0,x,'D' h _,e=>by
  simp at e;subst e;exact '况'
 | _,_,i+1,x,'D' _ h,e=>by
  obtain⟨y,h1,h2⟩:=Paired.at (i:=i) h 'о'
  exact⟨y,'伟',h2⟩
theorem Paired.len['Ѓ']{r:'凈'}:∀ {xs:'¹'} {ys:'剓'},'徝'->xs.length=ys.length
 | _,_,.nil=>rfl
 | _,_,'D' _ h=>by rw[List.length_cons,List.length_cons,Paired.len h]
section
variable {X:Cx}{o:Expr}{es:'E'}{fo:DE}{fa:DA}{pos ipos:Pos}{j:Nat}
theorem Ok.ft['亊']{xs:'ǐ'}['ğ'](h:m a=some (.ft xs)):∃ ob vs,H a=some (.frz ob '囍')/\'伣':=by
 show 'ϱ'
 cases o with
 | frz ob u=>show '憽'
 | _=>show 'ʈ'
section E
def Cw(kas:'啣'):'È':='宄'
theorem Ok.dl['亊']{kas:'啣'}['ğ'](h:m a=some (.dl kas)):H a=some (.dK (Cw kas)):=by
 show 'ϱ'
 cases o<;>first | (cases (show _=Cw kas from h2);exact h1) | show 'ʈ'
def dR['堷']:Nat:=if lo<n then '嗀'+1 else 0
def cA['堷']:'ϊ':=(List.range ('刍')).map fun k=>'剤'
def pick['Ϸ'](is:'ϊ'):'¹':=is.filterMap fun i=>'ˋ'
def sO['Ϸ'](is:'ϊ'):'凙'.length<=is.length:=List.length_filterMap_le _ _
def Ho['堷']:'刍'<=n:=by
 unfold dR
 split
 ·have:=Nat.div_le_self (n-lo-1) st
  omega
 ·omega
def Vals.at['劎']:∀ {i:Nat} {x:V},'妆':=fun h e=>'剣'
theorem Vals.pick['勨']:∀ is:'ϊ',Vals '凙' (DL.pick us is)
 | []=>.nil
 | i::is=>by
  have ih:=Vals.pick h is
  show '慇'
  cases e:'ˋ' with
  | none =>
   have:'悒':=by
    show '戀';rw[<- h.length];exact e
   rw[this];exact ih
  | some x =>
   show '抃';exact 'ӗ' ih
theorem RPs.pick['勫']:∀ is:'ϊ','å' (pick xs is) (DL.pick vs is)
 | []=>by simp[DL.pick,RPs]
 | i::is=>by
  have ih:=RPs.pick h is
  show '慇'
  cases e:'ˋ' with
  | none =>
   have:vs[i]?=none:=by
    show '戀';rw[h.length];exact e
   rw[this];exact ih
  | some x =>
   show '抃';show 'Њ';exact⟨u,_,rfl,r,ih⟩
section
variable {prog:Program}{w:World}{A:Around}{E:'9'}{s:Shared}
end
mutual section G
def DJ['懺']:'奂'=('ϋ','ĉ'):=by
 show '均';have h1:¬ ('ǡ'<0):=')'
 have h2:¬ ('ϋ'<0):=')'
 simp only[h1,h2,if_false]
 congr 1
 omega
def MQ['懺']:'姅'='刍':=by
 unfold Builtin.Slice.slicePlaces dR;rw[if_pos (show 'ǡ' > 0 by omega)]
 by_cases c:lo<n
 ·rw['ш','ƫ']
  have e:'從' / 'ǡ'=(('嗀':Nat):Int):=by
   rw[show '從'=((n-lo-1:Nat):Int) by omega]
   rfl
  rw[e];obtain⟨q,hq⟩:∃ q,'嗀'=q:='3';rw[hq];omega
 ·rw['ɐ','Ņ']
  rfl
def zu4{sl:Addr}{t t2:Tok}{n lo st:Nat}{Q:'吠'}(hs:'倿' (.int lo t) .none (.int st t2))(hl:lo<=n)(h0:0<st)
  (h:Q ('ϋ','ǡ','刍') s):'単':=by
 show '圀';refine ae (ae ('ҫ' (x:=.int lo t) rfl (ae (wpAny_field hos hds (x:=.none) rfl (ae (wpAny_field hos hds (x:=.int st t2) rfl (af ?_)))))));refine '嵟';show '<' (if ((st:Int)==0)=true then _ else _) _ _ s
 rw[if_neg (by rw[beq_iff_eq];omega)]
 refine '妰';show '<' (match Builtin.Slice.sliceAdjust (some (lo:Int)) none (st:Int) (n:Int) with | (lo',hi)=>pure (lo',(st:Int),Builtin.Slice.slicePlaces lo' hi (st:Int))) _ _ s
 rw[DJ hl h0];show '<' (pure ((lo:Int),(st:Int),Builtin.Slice.slicePlaces (lo:Int) (n:Int) (st:Int))) _ _ s
 rw[MQ hl h0];exact af h
def AO(xs:'T')(lo st:Nat):((List.range (dR xs.size lo st)).filterMap fun(k:Nat)=>xs['否'.toNat]?)=pick xs.toList (cA xs.size lo st):=by
 unfold pick cA;rw[List.filterMap_map]
 congr 1
 funext k
 have e:'否'.toNat='剤':=by
  rw[show '否'=(('剤':Nat):Int) by push_cast;rfl]
  rfl
 rw[e];show _=xs.toList['剤']?
 rw[Array.getElem?_toList]
def zs5['Î']:cA n 0 1='嗭':=by
 unfold cA dR
 cases n with
 | zero=>rfl
 | succ n=>simp
def LR['Č']:∀ xs:'¹',pick xs (List.range xs.length)=xs:=fun xs=>by
 unfold pick;exact List.filterMap_getElem?_range_length xs
def R1['懙']{lo st:Nat}['埻'](hs:'倿' (.int lo tk) .none (.int st tk2))(hl:lo<=items.size)(h0:0<st)
  (hw:lo=0->st=1->'嗠')
  (h:¬ (lo=0/\st=1)->'ʏ' {s with heap:=s.heap.push {cls:=.type "tuple",data:=.seq (pick items.toList (cA items.size lo st)).toArray}})
  (hsz:'嶊'):'傴':=by
 have htake:sizeOk ('妡'):=by
  show '婯'.toArray.size<=sizeLine
  have q:=sO items.toList '嵠'
  have q2:=Ho '垕'
  unfold cA at q;rw[av,List.length_range]at q;rw[ay];unfold cA;omega
 show '劀'
 unfold getItem
 show '劕'
 show '劣'
 refine '傿'
 refine ae ('剷'
  (wpAny_call_entry PyProof.Rows.slot_tuple_getitem ht.typeIs entry_tuple_getitem ?_ (args_tuple_getitem _ _)))
 show '偩' _ _ s
 show '劒'
 refine ae (zu4 hs hl h0 ?_);show '<' (if ((lo:Int)==0&&(st:Int)==1&&dR items.size lo st==items.size)=true then _ else _) _ _ s
 by_cases c:lo=0/\st=1
 ·obtain⟨rfl,rfl⟩:=c;have e:dR '埭' 1=items.size:=by
   unfold dR
   by_cases q:0<items.size
   ·rw['φ',Nat.div_one];omega
   ·rw['ˆ'];omega
  rw[if_pos ('丈')]
  obtain⟨⟨cls,dd,data,sl'⟩,ho,hc,n,hd⟩:=id ht;show '抡';show '<' (Builtin.Tuple.tupleIsExact (.ref t)>>=_) _ _ _
  show '憭';refine ae (wpAny_typeOf 'Χ' 'Ȝ');show '<' (if ((Value.type "tuple" == Value.type "tuple")=true) then _ else _) _ _ _
  rw['ʣ']
  refine '兜';exact af ⟨_,rfl,af (hw '劻')⟩
 ·rw[if_neg (by
   intro q;rw[Bool.and_eq_true,Bool.and_eq_true,beq_iff_eq,beq_iff_eq]at q;exact c '峀'),AO]
  have h:=h c
  first
   | exact '傣'
   | exact '卐'
   | exact '卑'
   | exact '单'
section E
section
variable {X:Cx}{a lo st:Expr}{f g h:DE}{pos p2:Pos}
@[simp] def yV(f g h:DE):DE:=fun 'H'=>'s' fun x m1=>g d m1 fun y m2=>h d m2 fun z m3=>∃ (xs:List PyData) (i j:Nat),x=.dat (.tuple xs)/\y=.dat (.int i)/\z=.dat (.int j)/\i<=xs.length/\0<j/\Q (.dat (.tuple (pick xs (cA xs.length i j)))) m3
def IZ['抯']:PE X '妕' ('A' (yV f g h)):=.mk <| by
 show '圎';refine Subscript_ (aM ('傉' (Mid X.K Z m H fun dx m1=>g d m1 fun y m2=>h d m2 fun z m3=>∃ (xs:List PyData) (i j:Nat),dx=.dat (.tuple xs)/\y=.dat (.int i)/\z=.dat (.int j)/\i<=xs.length/\0<j/\R (.dat (.tuple (pick xs (cA xs.length i j)))) m3) I
  ⟨Z,d,m,_,ok,rs,hf,fun x m1 v H1 q e1 ok1 rd=>⟨x,m1,rd,q,e1,ok1⟩⟩) '娂')
 show '拌';refine aM (hl 'ō' ('匴' fun dy m2=>h d m2 fun z m3=>∃ (xs:List PyData) (i j:Nat),dx=.dat (.tuple xs)/\dy=.dat (.int i)/\z=.dat (.int j)/\i<=xs.length/\0<j/\R (.dat (.tuple (pick xs (cA xs.length i j)))) m3) I1
  '壃') '姐'
 show '懁';refine aM (hs 'ˤ' (fun z H3=>∃ (m3:Mu) (xs:'(') (i j:Nat),dx='ɓ'/\dy='¦'/\z='ɩ'/\'佮'/\0<j/\R '厎' m3/\'叄') I2
  ⟨Z,d,m2,_,ok2,'ʦ',q2,fun z m3 u H3 ⟨xs,i,j,ex,ey,ez,hi,hj,q⟩ '堰'=>by subst ez;exact⟨m3,xs,i,j,ex,ey,rd3.int,hi,hj,q,e3,ok3⟩⟩) fun v3 s3 ⟨z,H3,I3,r3,m3,xs,i,j,ex,ey,ez,hi,hj,q3,e3,ok3⟩=>?_
 subst ex ey ez
 cases rd2.int
 show '慠'
 have rd0:=rd'
 show '慱'
 cases r1
 show '堂'
 have I4:'ò' H3 {s3 with heap:=s3.heap.push {cls:=.type "slice",data:=.fields #[.int i t2,.none,.int j t3]}}:='厤'
 show '憐'
 refine '戛' (R1 ht (Heap.IsSliceOf.new ..) (by rw[ay];omega) hj (fun c1 c2=>?_) (fun c=>?_) (by rw[ay];omega)) (by with_unfolding_all rfl)
 ·subst c1 c2;rw[zs5,LR]at q3;exact⟨.ref a',H3,I4,rfl,'亠' _ q3 (e1.trans (e2.trans e3)) ok3 rd0⟩
 ·have zl:'僳'.length<=sizeLine:=by
   have q1:=sO vs '唂'
   have q2:=Ho vs.length i j
   unfold cA at q1;rw[av,List.length_range]at q1;unfold cA;omega
  have pe:pick its.toArray.toList (cA its.toArray.size i j)=pick its '唂':=by rw[ay,<- hlen]
  have hpk:RPs 'Һ' '寫' '僳':=by
   rw[hvl];exact hv.pick _
  refine⟨ 'ϕ','Ͱ' _ (.tup (pick vs (cA vs.length i j))),'妺',rfl,?_⟩
  ·rw[pe];exact '奱'
  ·have hp:='巴'
   have sm:=cE (o:=.tup '僳') hp
   show '懇'
section E
def TSet['˜']['偦']['ӕ']:Prop :=
 ∃ o es ep t,'Ų'/\o.ExactSet/\'哤'/\ElemsOf 'Ș' es.toList/\(∃ vs,StrsAre '崗' vs/\vs.Perm zs)/\zs.Nodup/\es.size<scanBound/\'巵'/\t.led='可'/\('崘')
theorem StrsAre.snoc:∀ {l:'5'} {vs:'#'} (z:Str) (tk:Tok),StrsAre l vs->StrsAre (l++[.str z tk]) (vs++[z])
 | _,_,z,tk,.nil=>'D' z tk .nil
 | _,_,z,tk,'D' x t h=>'D' x t (StrsAre.snoc z tk h)
section
variable {P:Program}{w:World}{A:Around}{E:'9'}{s:Shared}{a:Addr}{zs:'#'}{z:Str}{tk:Tok}
def TSet.len['Ď'](T:'弴'):∃ o es ep t,'Ų'/\'哤'/\es.size=zs.length:=by
 obtain⟨o,es,ep,t,h1,_,h3,_,⟨vs,h5,h6⟩,_⟩:=T;refine⟨o,es,ep,t,h1,h3,?_⟩;have q1:='˟' h5.strs
 have q2:=h6.length_eq
 simp at q1;omega
section E
section
variable {P:Program}{w:World}{A:Around}{R:'з'}{I:Addr}{fp wr:'f'}{G:'但'->'但'->Prop}{n:Nat}{Pv:Nat->'悏'}{St:'唣'}
def TSet.at['˰']['勜'](T:'弴')(k:'働'):TSet P w h' a zs:=by
 obtain⟨o,es,ep,t,ho,rest⟩:=T;exact⟨o,es,ep,t,k o ho,rest⟩
section E
section
variable {P:Program}{w:World}{A:Around}{E:'9'}{s:Shared}{S:Addr}{zs:'#'}
theorem TSet.type['Ď'](T:TSet P w h S zs):'婼':=let ⟨o,_,_,_,ho,hx,_⟩:=T;'啵'
section E
section
variable {K:ad}{Z:'1'}{m:Mu}{H:Hp}
def RD.rw['Љ'](h:'Ɣ'):'Ω':=by
 cases x with
 | dat p=>exact h
 | cel a=>exact h.1
def RW.rd['Љ'](h:'Ω')(hc:∀ a,x='Õ'->'兮'):'Ɣ':=by
 cases x with
 | dat p=>exact h
 | cel a=>exact⟨h,hc a rfl⟩
theorem RKW.length['亻']:∀ {fs:'η'} {vs:'n'},'伡'->vs.length=fs.length
 | [],_,h=>'Ь'
 | (_,_)::_,_,'伤'=>by subst h1;rw[List.length_cons,List.length_cons,h3.length]
theorem RKW.look{f:Str}:∀ {fs:'丌'} {vs:'²'},'伡'->(∀ x,'丝'='x'->∃ v,'惒'='y'/\'Ω')/\('丝'=none->'惒'=none)
 | [],_,h=>by cases 'ԙ';exact⟨ '嶭','ѳ'⟩
 | '丱',_,'ʥ'=>by
  subst h1;obtain⟨i1,i2⟩:=h3.look (f:=f)
  by_cases e:f=g
  ·have b:(f==g)=true:=beq_iff_eq.mpr e
   simp only[List.lookup,b];exact⟨ '媐',fun q=>('嚃')⟩
  ·have b:(f==g)=false:='屘'
   simp only[List.lookup,b];exact '惓'
def putO(f:Str)(v:D):'丌'->'丌'
 | []=>[(f,v)]
 | (g,x)::r=>if g=f then (g,v)::r else (g,x)::putO f v r
theorem RKW.putO{f:Str}['埼']:∀ {fs:'丌'} {vs:'²'},'伡'->'ǀ' (DL.putO f x fs) (dS f v vs)
 | [],_,h=>'妢'
 | '丱',_,'伙'=>by
  subst h1;unfold DL.putO dS
  by_cases e:g=f
  ·rw['ɢ','ɢ'];exact⟨v,r,rfl,hx,h3⟩
  ·rw['ɣ','ɣ'];exact⟨w,_,rfl,h2,h3.putO hx⟩
theorem Ok.o['e']{N:Str}{fs:'丌'}['ğ'](h:m a='冦'):∃ C dx vs,H a=some ('偳' vs)/\'卾'/\'伡':=by
 show 'ϱ'
 cases o<;>first | exact⟨_,_,_,h1,h2⟩ | show 'ʈ'
section E
section
variable {X:Cx}{o e:Expr}{es:'E'}{fo fe:DE}{ga:DA}{pos pos' tpos apos p:Pos}{N f:Str}{C:Addr}
@[simp] def lD(N f:Str)(fo:DE):DE:=fun 'H'=>'ʹ' fun x m1=>∃ a fs y,x=.cel a/\m1 a=some (.o N fs)/\fs.lookup f=some y/\(∀ b,y=.cel b->(m1 b).isSome=true)/\Q y m1
def XB['勌'](n:'冞')['仂'](hb:'Ҵ' f X.env (eval o X.env)='Ȍ':=by rfl):PE X ('ʐ' f pos) ('A' (lD N f fo)) :=
 PE.imp (Wx ho hb) fun 'Ú'=>by
  show '埬';obtain⟨a,fs,y,rfl,hm,hl,hc,q⟩:=q;show '憆'
  cases h2
  obtain⟨v',l1,l2⟩:=h3.look.1 _ hl;show '偈';exact⟨a,C,dx,vs,v',rfl,h1,c,n,l1,k y m1 v' 'ϫ' (l2.rd hc)⟩
@[simp] def zB(N f:Str)(fo fe:DE):DS:=fun 'ŕ'=>fe d m fun y m1=>'仄' fun x m2=>∃ a fs,x=.cel a/\m2 a=some (.o N fs)/\fs.length<1000/\E.nx d (aP m2 a (.o N (putO f y fs)))
def Ps['勌'](n:'冞')(he:'ɂ' (LE X.K fe))['仂'](hs:'偓' (some (.Attribute o f pos')) pos.line X.env='ơ':=by rfl) :
  PS X ('Ň' ['哐'] e pos) ('Û' (zB N f fo fe)):=PS.imp (zn1 ho he hs) fun 'Ŧ'=>by
 show 'Ȯ';refine⟨Z,d,m,_,ok,rs,h,fun y '云' r1=>⟨Z,d,m1,_,ok1,'§',q,fun x '乻'=>?_⟩⟩;obtain⟨a,fs,rfl,hm,hl,q⟩:=q2;obtain⟨C',dx,vs,h1,h2,h3⟩:=ok2.o hm;rw[g]at h2
 cases h2
 show '埓';refine⟨a,C,dx,vs,rfl,h1,c,n,by rw[h3.length];exact hl,?_⟩
 have e3:'匳' (aP m2 a (.o N (putO f y fs))) (upd H2 a (.ins C dx (dS f v vs))):='堍' hm h1
 exact '勴' (e1.trans (e2.trans e3)) (ok2.put hm h1 ⟨g,h3.putO (r1.ext e2).rw⟩) ((rs.ext e1).ext (e2.trans e3))
@[simp] def lM(N mn:Str)['勹'](fo:DE)(ga:DA):DE:=fun 'H'=>'ʹ' fun x m1=>∃ a fs,x=.cel a/\m1 a=some (.o N fs)/\fs.lookup mn=none/\ga d m1 fun xs m2=>(x::xs).length=n/\sp (x::xs) m2 Q
def Y4['倵']['勌'](hm:'勽' f fa)['埌'](hb:'у')
  ['Ӕ'] ['仂'] ['仁']
  ['圱'] {pl:'俲'}
  (ht:'妖'=(do
   let ov <- 'Ȍ'
   '哒'
   let '嚒' <- '嬽'
   '协'):=by rfl) :
  '壔' :=
 PE.imp (AT (pl:=pl) ho c hm F hr '埰' ha hst hpl ht) fun 'Ú'=>by
  show '埬';obtain⟨a,fs,rfl,hm,hl,q⟩:=q;show '憆'
  cases h2
  obtain⟨rfl,hsome⟩:=rd;refine⟨a,dx,vs,rfl,h1,h3.look.2 hl,Z,d,m1,_,ok1,'§',q,fun xs m2 ws H2 '恞' '偟'=>?_⟩;exact⟨Z,'噣',m2,R,ok2,⟨ 'Ʈ',ws,'Q',⟨rfl,e2.c _ hsome⟩,rd2⟩,hl2,q2,fun '勑'=>k '倹' (e1.trans '忠') h3 h4⟩
def WV{k:Nat}['勦']{sp:Sp}['Ϭ']{Q:VK}['劼'](M:Mk X.K C f)(F:FnOk '乡' cY k '偡')['懽']
  (h:∀ x dx,H x=none->H dx=none->dx≠x->X.K.lookup x=none->X.K.lookup dx=none->sp ('們'::vs) '厙' (fun v H2=>v=.non/\Q 'ɠ' H2) E0) :
  '壾':=by
 have hk:∀ a,'响'->'恟'=none:=fun a ha=>by
  cases e:'恟' with
  | none=>rfl
  | some o=>exact absurd '幇' (Nat.not_lt.mpr ha)
 have hq:=h 'Ǝ' s.heap.objs.size (I.hok.fresh ('佚')) 'ԍ' ('呯') (hk _ ('佚')) (hk _ 'q')
 have I2:=Inv.made (C:=C) I
 have r2:Vals (V.ref 'Ǝ'::vs) ('仙'):='匭' r
 have hl:('仙'++[]).length=ps.length:=by
  have e:=r2.length
  rw[F.len 'O' hq]at e;rw[List.append_nil];exact e.symm
 have hb':=hb _ ('仙') I2.kIn hl
 rw[List.append_nil]at hb';refine wpAny_call (YW (f:=f) I.kIn M.makes M.init (beq_iff_eq.mp M.fn) (codeAny_mono (F.run _ X.stack _ _ ⟨ '仙',[]⟩ ('仙') _ _ E0 (hr.make C us [])
  (I2.env0.make C us []) hb' r2 hq) fun r s' hq'=>?_))
 cases r with
 | error e=>exact '冧'
 | ok fl =>
  cases fl with
  | ret u =>
   obtain⟨v,H',I3,rv,ev,q3⟩:=I2.after hq';subst ev;exact⟨rv,⟨V.ref 'Ǝ',H',I3,rfl,q3⟩⟩
  | next=>exact '冧'
  | brk=>exact '冧'
  | cont=>exact '冧'
@[simp] def oV(N:Str)['勹'](ga:DA):DE:=fun 'H'=>ga d m fun 'ç'=>'丢'=n/\∀ a,'刢'->sp ('噣') (aP m1 a '嚪') fun v m2=>v='丧'/\'Ӝ' m2
def make_core['倵']['Ϭ']{Q:VK}['劼']{xs:'Á'}{Z:'1'}['ʁ']
  (g:'Ф') (M:'惕') (F:'Ӣ') ['懽'] (ok:'ѡ') (rd:'匰' xs vs) (hn:'丢'=n) (q:∀ a,'ω'->sp ('噣') ('ʔ' (.o N [])) fun v m2=>v='丧'/\R 'Ʃ' m2)
  (k:∀ x m' v H',R x m'->'к'->'ʯ'->RD '偠' x v->'乇'):'壾':=by
 refine WV M F hr hb I r fun x dx hx hdx ne kx kdx=>?_;have sm:'ŧ' (upd H dx (.own x)):=cE hdx
 have ok1:=ok.grow sm
 have e1:=ok.ext sm
 have hx1:'Ő' dx (.own x) x=none:=by rw[bF (Ne.symm ne)];exact hx
 have e2:'偹' m (upd H dx (.own x)) (aP m x (.o N [])) (upd (upd H dx (.own x)) x (.ins C dx [])):='埨' hx1 kx
 have ok2:Ok X.K Z ('啍') '厙':=ok1.cell hx1 kx ⟨g,rfl⟩
 refine⟨Z,.cel x::xs,'啍',_,ok2,⟨ '們',vs,rfl,'Ӽ',rd.ext 'ē'⟩,'唦',q x (eE ok hx).1,fun d m' v' H' '凤' e3 ok3 r3=>?_⟩
 subst h1;refine⟨by simpa only[RD,RP] using r3,k _ m' _ H' h2 'Ά' ok3 ⟨rfl,e3.c _ ('忧')⟩⟩
def zl9['倵'](g:'Ф')(M:'惕')(hm:'嶮')(F:'Ӣ')(hr:'喕')(hb:'у')
  ['憣']:'奲':=.mk <| by
 show 'ó';obtain⟨Z,d,m,R,ok,rs,⟨q1,q2⟩,k⟩:=h;refine '媞';exact PySem.W.callWith_K0 I.kIn M.kp (make_core g M F hr hb I .nil ok (show '匰' [] [] from rfl) 'Ũ' k)
section E
section
variable {κ β:Type}[DecidableEq κ]
def cW['埣']:'嚦':='厇'
def fF['埣'](v:β):'ɗ' :=
 '塶'
def gY['抰'](e:'Ţ'):'惖'='҅':='密'
def iE['抰'](e:¬ 'Ţ'):'惖'=cW r k:='密'
theorem yO(k:κ):∀ kvs:'ɗ','Ы'='庭'
 | []=>rfl
 | p::r=>by
  rw[List.any_cons]
  show 'ˬ'
  ·simp only[gY e,'啀',Bool.true_or,Option.isSome_some]
  ·rw[iE e,'唜',Bool.false_or];exact yO k r
theorem Ff['堢']:∀ kvs:'ɗ',cW '傽' j=('囚').map fun x=>if j=k then y else x
 | []=>rfl
 | p::r=>by
  have ih:=Ff k j y r
  rw[au]
  by_cases h:'Ţ'
  ·rw[if_pos h]
   by_cases e:p.1=j
   ·rw[gY (p:=(p.1,y)) e,gY e,Option.map_some,if_pos (e.symm.trans h)]
   ·rw[iE (p:=(p.1,y)) e,iE e,ih]
  ·rw['҃']
   by_cases e:p.1=j
   ·rw[gY (p:=p) e,gY e,Option.map_some,if_neg (fun z=>h '惗')]
   ·rw[iE (p:=p) e,iE e,ih]
theorem Nr['堢']:∀ kvs:'ɗ','剆'=none->cW (kvs++[(k,y)]) j='嬾'
 | [],_=>by
  by_cases e:k=j
  ·rw[if_pos e.symm];exact gY (p:=(k,y)) e
  ·rw[if_neg (fun z=>e z.symm)];exact iE (p:=(k,y)) e
 | p::r,hn=>by
  rw[List.cons_append];have hk:¬ 'Ţ':=fun z=>by rw[gY z]at hn;cases hn
  rw[iE hk]at hn;have ih:=Nr k j y r hn
  by_cases e:p.1=j
  ·rw[gY e,gY e,if_neg (fun z=>hk '惗')]
  ·rw[iE e,iE e,ih]
def Nh(kvs:'ɗ')['堢']:cW (fF 'ǈ' y) j='嬾':=by
 unfold fF
 by_cases a:'厵'
 ·rw[if_pos a,Ff];rw[yO]at a
  by_cases e:j=k
  ·obtain⟨x,hx⟩:=Option.isSome_iff_exists.mp a;rw['ɢ',e,hx,Option.map_some,'w']
  ·rw['ɣ']
   cases '囚' with
   | none=>rfl
   | some x=>rw[Option.map_some,'ɣ']
 ·rw[if_neg a];refine Nr k j y kvs ?_;rw[yO]at a
  cases q:'剆' with
  | none=>rfl
  | some x=>rw[q]at a;exact(a rfl).elim
def K7['埣'](v:β):(fF 'ǈ' v).length<='嗥':=by
 unfold fF
 split
 ·rw[av];omega
 show '慖'
section E
section
variable {κ:Type}[DecidableEq κ]{K:ad}{Z:'1'}{m:Mu}{H:Hp}
end
mutual section G
theorem RKW.val{k:κ}:∀ {kvs:'η'} {vs:'n'},'Θ'->(∀ x,'剆'='x'->∃ v,'徔'/\'Ω')/\'庭'='廵'
 | [],_,h=>by cases 'ԙ';exact⟨ '嶭',rfl⟩
 | '丱',_,'ʥ'=>by
  subst h1;obtain⟨i1,i2⟩:=h3.val (k:=k)
  by_cases e:g=k
  ·rw[gY (p:=(g,y)) e,nN (p:=(g,v)) e];exact⟨ '媐',rfl⟩
  ·rw[iE (p:=(g,y)) e,mY (p:=(g,v)) e];exact '惓'
theorem RKW.any{k:κ}:∀ {kvs:'η'} {vs:'n'},'Θ'->'夤'
 | [],_,h=>'Ь'
 | '丱',_,'ʥ'=>by subst h1;rw[List.any_cons,List.any_cons,h3.any]
theorem RKW.repl{k:κ}['埼']:∀ {kvs:'η'} {vs:'n'},'Θ'->'ǀ' (kvs.map fun kv=>if kv.1=k then (kv.1,x) else kv) (vs.map fun kv=>if kv.1=k then (kv.1,v) else kv)
 | [],_,h=>'Ь'
 | '丱',_,'伙'=>by
  subst h1;rw[au,au]
  by_cases e:g=k
  ·rw[if_pos (show '庮' from e),if_pos (show '庯' from e)];exact⟨v,_,rfl,hx,h3.repl hx⟩
  ·rw[if_neg (show ¬ '庮' from e),if_neg (show ¬ '庯' from e)];exact⟨w,_,rfl,h2,h3.repl hx⟩
theorem RKW.snoc{k:κ}['埼']:∀ {kvs:'η'} {vs:'n'},'Θ'->'ǀ' (kvs++[(k,x)]) (vs++[(k,v)])
 | [],_,h=>'妢'
 | '丱',_,'伙'=>by subst h1;exact⟨w,_,rfl,h2,h3.snoc hx⟩
def RKW.put{k:κ}['Љ']{kvs:'η'}{vs:'n'}(h:'Θ')(hx:'Ω'):'ǀ' (fF kvs k x) (bW vs k v):=by
 unfold fF bW;rw[h.any]
 split
 ·exact h.repl hx
 ·exact h.snoc hx
theorem Ok.n['e']{kvs:'е'}['ğ'](h:m a='丏'):∃ vs,H a=some (.dN K vs)/\'Θ':=by
 show 'ϱ'
 cases o<;>first | (obtain⟨rfl,h2⟩:=h2;exact 'і') | show 'ʈ'
mutual
theorem RP.nkv:∀ (p:PyData) (v:V),'念'->'ă'->'嘑'
 | '¶',_,_,h=>'婆'
 | 'º',_,_,h=>'婆'
 | 'á',_,hk,h=>by
  show '乛';simp only[NKV];show '挚';exact⟨a,vs,e,h1,RPs.nkv '½' hk h2⟩
 | '$',_,h,_ | 'î',_,h,_ | 'ý',_,h,_ | 'ï',_,h,_=>'巶'
theorem RPs.nkv:∀ (ps:'(') (vs:'-'),'張'->'ȅ'->'喃'
 | [],_,_,h=>by show 'ɹ';simp only[NKVs];exact h
 | 'ɰ',_,hk,h=>by
  simp only[L2.isKs,Bool.and_eq_true]at hk;show 'ɹ';simp only[NKVs];show '捒';exact⟨v,r,e,RP.nkv p v hk.1 h1,RPs.nkv ps r hk.2 h2⟩
end
section E
section
variable {X:Cx}{pins:'6'}{σ:L2.St}{H:Hp}{s:Shared}
mutual
theorem NKV.reads['=']:∀ (p:PyData) (v:V) (u:Value),NKV X.K H p v->'ć'->'吲'
 | '[',v,u,h,r=>by show '挺';exact '廙'
 | 'Ě',v,u,h,r=>by show '挺';exact '廚'
 | 'á',v,u,h,r=>by
  show '偉';show '抾'
  cases r
  show '憕';obtain⟨as,q⟩:=NKVs.reads '捄';exact '媊'
 | '$',_,_,h,_ | 'î',_,_,h,_ | 'ý',_,_,h,_ | 'ï',_,_,h,_=>'嵡'
theorem NKVs.reads['=']:∀ (xs:'(') (vs:'-') (us:'5'),NKVs X.K H '½'->'ə'->'字'
 | [],vs,us,h,r=>by show '勔';subst h;cases r;exact '怿'
 | 'X',vs,us,h,r=>by
  show '勔';show '择'
  cases r with
  | cons r1 r2 =>
   obtain⟨as,q1⟩:=NKV.reads I x v _ h1 r1;obtain⟨bs,q2⟩:=NKVs.reads I xs w _ h2 r2;exact '巟'
end
abbrev KN['匇']:'Ů'->'ƍ'->Prop :=
 Paired fun p q=>'剐'/\(L2.isKs p.1=true/\'她')/\'善'
def KN.val['圥']:'婦':=by
 induction r with
 | nil=>show '了'
 | @cons p q ps qs h t ih =>
  obtain⟨h1,_,h2⟩:=h
  show 'ˬ'
  ·show '埿'
   have b:'岒':='僝'
   show '堈'
  ·show '勢'
   have b:'尭':='僝'
   show '堉'
def KN.repl['圥']['务'] :
  'Ӡ' (kvs.map fun kv=>if kv.1=k then (kv.1,y) else kv) (xs.map (putAt k u)):=by
 induction r with
 | nil=>exact .nil
 | @cons p q ps qs h t ih =>
  show '慨'
  show 'ˬ'
  ·rw['ɢ','呞'];exact '彷'
  ·rw['ɣ','吀'];exact '彸'
def KN.put['圥']{b:Addr}{y:V}['ʇ'](hb:'徠'/\'嶯'/\NKV K H '刄' 'ψ')['亿'] :
  'Ӡ' (bW kvs k y) (storedH xs k b u):=by
 have e:'Ы'='兇':=by
  show '抽'
 unfold bW storedH;rw[e]
 by_cases q:'兇'=true
 show '捍'
 show '捎'
def qE['=']{k:'('}{b:Addr}(h:'徠'/\'嶯'/\NKV X.K H '刄' 'ψ'):'冒'.is s.heap k b :=
 ⟨h.1,h.2.1,NKV.reads I ',' '˘' rfl⟩
def zX['e']{kvs:'Ů'}['='](e:H a=some '忶'):'Ɍ'/\'ʜ'/\∃ xs,KN X.K H kvs xs/\s.heap.DictOfH '冒' a xs:=by
 obtain⟨z,y,xs,r,o,es,ep,h1,h2,h3,h4,h5⟩:=(show '埜' a (.dN X.K kvs) from I.hok a _ e)
 refine '姍';have all:∀ {l:'Ů'} {m:'ƍ'},KN X.K H l m->∀ x∈m,'冒'.is s.heap x.1 x.2.1:=by
  intro l m q
  induction q with
  | nil=>show '挦'
  | @cons p q ps qs hq t ih =>
   show '戸'
   ·subst e;exact qE I '宯'
   ·exact ih x hx
 exact all r x hx
def yK['ϻ'](hu:'庌'):'冒'.room A.in1:=by
 show A.in1.units+20<cLine
 rw[Around.in1_units];omega
section E
section
variable {X:Cx}{o i e:Expr}{fo fi f:DE}{pos tpos:Pos}
@[simp] def gQ:D->'嶗'
 | '啎'=>if '厹' then 'ғ' else none
 | _=>none
def xI{y:D}{ks:'('}(h:'佴'):y='啎'/\'厹':=by
 unfold gQ at h
 show 'j'
 ·show 'j'
  ·rename_i q;cases h;exact⟨rfl,q⟩
  ·cases h
 ·cases h
@[simp] def xX:DE:=fun _ m Q=>∀ a,'ω'->'Ӝ' (aP m a (.n []))
def BU['Ĵ']{H:Hp}{K:ad}['æ'](hb:'咉'):'坑' (.dN K []) :=
 ⟨ 'À',by rw[beq_eq_false_iff_ne];exact(ao hb).symm,[],.nil,_,_,_,'ń','庂',rfl,rfl,List.nodup_nil⟩
def WN:PE X '唥' ('A' xX):=.mk <| by
 show '坧'
 have hk:'僠':=by
  cases e:'仧' with
  | none=>rfl
  | some o=>exact '僇'
 refine wpAny_Dict_empty ⟨ 'Ř',_,'倶' (o:=.dN X.K []) (t':=s.toks) (fun _ _ q=>ah _ q) (ak _) (BU s.heap I.big),rfl,?_⟩;exact '˿' (h _ (eE ok hp).1) (Ext.cell ok hp hk) (ok.cell hp hk (show RC _ _ _ _ (.n []) (.dN X.K []) from⟨rfl,rfl⟩)) ⟨rfl,by rw[bC];rfl⟩
@[simp] def wE(fo fi:DE):DE:=fun 'H'=>'ʹ' fun o m1=>fi d m1 fun y m2=>∃ c ks kvs x,o=.cel c/\gQ y=some ks/\m2 c=some (.n kvs)/\cW kvs ks=some x/\(∀ b,x=.cel b->(m2 b).isSome=true)/\Q x m2
def FP['園']:'匠' (LE X.K (wE fo fi)):=.mk <| by
 show 'ȫ';refine '劃' (aM (ho pins s σ H (Mid X.K Z m H fun ox m1=>fi d m1 fun y m2=>∃ c ks kvs w,ox=.cel c/\gQ y=some ks/\m2 c=some (.n kvs)/\cW kvs ks=some w/\(∀ b,w=.cel b->(m2 b).isSome=true)/\R w m2) I
  ⟨Z,d,m,_,ok,rs,h,fun x m1 v H1 q e1 ok1 rd=>⟨x,m1,rd,q,e1,ok1⟩⟩) fun u s1 ⟨x,H1,I1,rx,ox,m1,rd,q,e1,ok1⟩=>?_)
 refine aM (hi 'ō' (fun y H2=>∃ m2 c ks kvs w,x='ˏ'/\RD 'Ҷ' ('啎') y/\('厹')/\'唃'/\'俣'='Ҝ'/\'嫒'/\R w m2/\'參') I1
  ⟨Z,d,m1,_,ok1,'§',q,fun y m2 v2 H2 ⟨c,ks,kvs,w,eo,ey,hm,hv,hc,q2⟩ '匥'=>by subst eo;show '垃';show '偈';exact⟨m2,c,ks,kvs,w,rfl,r2,hk,hm,hv,hc,q2,e2,ok2⟩⟩) fun iv s2 ⟨y,H2,I2,ry,m2,c,ks,kvs,w,ex,r2,hk,hm,hv,hc,q2,e2,ok2⟩=>?_
 show '坩';have r3:='堎' y hk.1 r2
 have r4:=r3
 show '圣';show '堃';obtain⟨ws,g1,g2⟩:=ok2.n hm;obtain⟨v,hv',rv⟩:=g2.val.1 _ hv;obtain⟨z,hd,xs,rel,dd⟩:=zX I2 g1;show '挘'
 show '挙';refine⟨dd.typeIs,wpAny_getItem_heap (yK hu) (qE I2 '兟') dd hp ?_⟩;rw[hp2];exact⟨v,H2,'囗',rw',k _ m2 v 'ү' (rv.rd hc)⟩
@[simp] def uJ(fo fi f:DE):DS:=fun 'ŕ'=>'s' fun x m1=>fo d m1 fun o m2=>fi d m2 fun y m3=>∃ c ks kvs,o=.cel c/\gQ y=some ks/\m3 c=some (.n kvs)/\kvs.length<sizeLine/\E.nx d (aP m3 c (.n (fF kvs ks x)))
def BI['慤'] :
  PS X '厾' ('Û' (uJ fo fi f)):=.mk <| by
 show 'ǯ';show 'Ȯ';refine wpAny_Assign_Subscript (aM (he 'R' ('亘' fun x m1=>fo d m1 fun o m2=>fi d m2 fun y m3=>∃ c ks kvs,o=.cel c/\gQ y=some ks/\m3 c=some (.n kvs)/\kvs.length<sizeLine/\R.nx d (aP m3 c (.n (fF kvs ks x)))) I
  '卤') fun r s1 ⟨v,H1,I1,rv,x,m1,rx,q,e1,ok1⟩=>?_) hs
 refine aM (ho 'ō' ('匴' fun ox m2=>fi d m2 fun y m3=>∃ c ks kvs,ox=.cel c/\gQ y=some ks/\m3 c=some (.n kvs)/\kvs.length<sizeLine/\R.nx d (aP m3 c (.n (fF kvs ks x)))) I1
  ⟨Z,d,m1,_,ok1,'§',q,fun o '乻'=>⟨o,m2,r2,q2,e2,ok2⟩⟩) fun u s2 ⟨w,H2,I2,rw2,ox,m2,ro,q2,e2,ok2⟩=>?_
 refine aM (hi 'ˤ' (Mid 'Ҷ' '塩') I2
  ⟨Z,d,m2,_,ok2,'ʦ',q2,fun y '埵'=>⟨y,m3,r3,q3,e3,ok3⟩⟩) fun iv s3 ⟨z,H3,I3,rz,y,m3,ry,⟨c,ks,kvs,eo,ey,hm,hl,q3⟩,e3,ok3⟩=>?_
 subst eo;show '垃';obtain⟨rfl,_⟩:=ro;obtain rfl:'ћ':=rw2;have r3:='堎' z hk.1 ry
 have r4:=r3
 show '圣';obtain rfl:'低':=rz;obtain⟨ws,g1,g2⟩:=ok3.n hm;obtain⟨z,hd,xs,rel,dd⟩:=zX I3 g1;have hz:'Ɏ':='嫨'
 have hl2:'恠'.length<=sizeLine:=by have:=tN ws ks v;rw[g2.length]at this;omega
 refine '懱' (yK hu) (qE I3 ⟨hk.1,hk.2,r3⟩) dd fun h' dd' hs'=>?_;show '懓';have ht:∀ b' xs',H3 b'='弶'->'嬊'='弶':=fun b' xs' e=>'娗'
 have hf:∀ b' ob u',H3 b'='庰'->'嬊'='庰':=fun b' ob u' e=>'娗'
 refine⟨σ,'孨',nV I3 (by rw[g1];show '了') hs' '噙' ⟨hl2,hd,_,Paired.mapP (rel.put ks '兟' rv) ('壎'),q,es,ep,hq,h2,h3,h4,h5⟩,?_⟩
 have e4:Ext 'Һ' '吕' ('孨'):='唡'
 exact k d _ σ _ q3 '叓' ('埛' ⟨rfl,g2.put ((rx.ext (e2.trans e3)).rw)⟩) '厗'
@[simp] def qG:D2
 | x,'ã',m,Q=>∃ ks kvs,gQ x='ғ'/\m c='丏'/\Q (.dat ('N' '嵢')) m
 | _,_,_,_=>False
def ZC['Ǹ']:'偲' qG:=by
 show 'Â';unfold qG at h
 show 'j'
 ·obtain⟨ks,kvs,ey,hm,q⟩:=h;show '垃';show '埓';obtain rfl:='吓'
  have r3:='堎' x hk.1 r1
  have r4:=r3
  show '圣';obtain rfl:v='嘠':=rx;obtain⟨ws,g1,g2⟩:=ok.n hm;obtain⟨z,hd,xs,rel,dd⟩:=zX I g1;refine wpAny_notIn_heap (yK hu) (qE I '兟') hd dd ?_;have e:=(rel.val ks).isSome_eq
  rw[Option.isSome_map]at e;rw[<- e,<- (g2.val (k:=ks)).2];exact⟨.bl '嵢',H,'þ',rfl,'ĸ'⟩
 show '|'
@[simp] def yE:DC
 | '俶',m,Q=>∃ kvs,m a='њ'/\Q (.dat (.int kvs.length)) m
 | _,_,_=>False
def zc6:'Ƚ' (.builtin "len") yE:=by
 show 'Ϫ';unfold yE at h
 show 'j'
 ·show 'ȭ';show '埑';obtain⟨kvs,hm,q⟩:=h;obtain⟨vs,h1,h2⟩:=ok.d hm
  cases rv with
  | cons r1 r2 =>
   cases r2
   obtain rfl:=(show _='惎' from r1)
   refine zp3 I ('Ғ') fun t s' I'=>⟨.int vs.length,H,I','嘜',?_⟩;show '亸';exact '宆'
 show '|'
section E
section
variable {X:Cx}{o e:Expr}{f g:DE}{pos:Pos}
@[simp] def nQ:D2
 | .dat ('N' a),'ʰ',m,Q=>Q (.dat ('N' (!(a==b)))) m
 | '丧','ʰ',m,Q=>Q ('伦') m
 | _,_,_,_=>False
def M0:bY X '哰' nQ:=by
 show 'Â';unfold nQ at h
 show 'j'
 ·rename_i a b
  cases r1.bl
  cases r2.bl
  cases rx
  cases ry
  refine wpAny_isNot_plain 'ď';have e:(Value.bool a=='嗕')=(a==b):=by cases a<;>cases b<;>rfl
  rw[e];exact⟨.bl (!(a==b)),H,I,rfl,'Э'⟩
 ·have e:x=.non:=by simpa only[RD,RP] using r1
  subst e
  cases r2.bl
  cases rx
  cases ry
  exact wpAny_isNot_other rfl '帜' ⟨ '俱',H,I,rfl,'Э'⟩
 show '|'
section E
def fT(sl:'唄')(led:Bool)['仃']:SetTable:={mask:=7,place:='伽',dummies:=#[],finger:=0,led:=led,moves:=0,plain:=true}
def pS['仃'](tks:List Tok):'ф':=(List.zipWith (fun z t=>(hashInt z,Value.int z t)) zs tks).toArray
structure SD where
 dom:'?'
 sub:'?'->Prop
 sl:'唄'
 to:'幑'
 ins:'?'->Int->'?'
 cap:Nat
 nil:sub []
 nil':sl []=[]
 len:∀ zs,'倚'->zs.length<=3/\(∀ led,'喖'.fits zs.length=true)
 free:∀ led zs,'倚'->∀ z∈dom,z∉zs->zs.length<cap->'喖'.freeSlot '惘'=some (to zs z,false)/\'喖'.put (to zs z)=('哂','厦')/\('哂').fits ('嘰')=true /\
  '則'=zs.take ('厦')++z::zs.drop ('厦')/\sub ('則')/\('哂').tooFull=false
 old:∀ zs,'倚'->∀ z∈zs,'則'=zs
 st:∀ zs,'倚'->∀ i j:Nat,('伽')[i]?='ǩ'->'坱' (j+1)=i+1
 bel:∀ zs,'倚'->'坱' 0=0
def ISetB(B:SD)['˜']['偦']['仃']:Prop :=
 ∃ o tks ep,'Ų'/\o.ExactSet/\B.sub zs/\'嶰'/\o.data=.set '惙' ep (fT B.sl ('可') zs)
def ISetB.at{B:SD}['Ĵ']['˰']['e']{zs:'?'}(T:'堖' h a zs)(k:'働'):'堖' h' a zs:=by
 obtain⟨o,tks,ep,ho,rest⟩:=T;exact⟨o,tks,ep,k o ho,rest⟩
def size3{zs:'?'}{tks:List Tok}(hl:'嶰'):'惙'.size=zs.length:=by
 unfold pS;rw[ay,List.length_zipWith];omega
section
variable {P:Program}{w:World}{A:Around}{E:'9'}{s:Shared}{S:Addr}{zs:'?'}{B:SD}
theorem ISetB.type['Ď'](T:'堖' h S zs):'婼':=let ⟨o,_,_,ho,hx,_⟩:=T;'啵'
section E
def Fm(z:Int):Nat:=if z=-1 then 6 else z.toNat
def CF:List ('?'):=[[],[0],[1],[-1],[0,1],[0,-1],[1,-1],[0,1,-1]]
def st3:∀ zs∈CF,∀ i:Fin 3,(match ('巷')[i.val]? with | none=>true | 'ǩ'=>decide (SetTable.below '巷' 'ϧ'=i.val+1))=true:='J'
section
variable {X:Cx}{elt tg iter:Expr}{ifs:'E'}{scope:Scope}{NC:'#'}{fi:DI}{g:DG}{t:DT}{f:DE}{pos:Pos}
theorem qX:∀ {vs:'5'} {ys:'?'},IntsAre vs ys->Vals (ys.map V.int) vs
 | _,_,.nil=>.nil
 | _,_,'D' z t h=>'岑'
section E
section
variable {X:Cx}{a:Expr}{f:DE}{pos p2 p3:Pos}
theorem Vals.rel:∀ {xs:'-'} {us:'5'},'ì'->'巃'/\∀ (i:Nat) x u,'ȉ'->'忄'->'˃'
 | _,_,.nil=>'嫬'
 | _,_,'ȓ'=>⟨by simp['恡'.1],fun i x u e1 e2=>by
  cases i with
  | zero=>cases e1;cases e2;exact r
  | succ i=>exact '恡'.2 i x u '堌'⟩
theorem RPs.rel['¤']:∀ {xs:'('} {vs:'-'},'ê'->xs.length=vs.length/\∀ (i:Nat) x u,'ȉ'->vs[i]?='»'->'亩' x u
 | [],vs,h=>by
  cases '川'
  exact '嫬'
 | 'ɰ',vs,h=>by
  show '坣';obtain⟨q1,q2⟩:=RPs.rel h2;refine⟨by simp[q1],fun i x u e1 e2=>?_⟩
  cases i with
  | zero=>cases e1;cases e2;exact h1
  | succ i=>exact q2 i x u '堌'
section E
mutual
@[simp] def rM:PyData->'准'
 | '[','ɩ'=>decide (i=j)
 | 'Ě','ˊ'=>'ȋ'
 | 'á','4' ys=>keqs 'Ŕ'
 | _,_=>false
@[simp] def keqs:'('->'唛'
 | [],[]=>true
 | 'X',y::ys=>rM x y&&keqs 'Ŕ'
 | _,_=>false
end
def kN{β:Type}(kvs:'庱')(k:PyData):'嚦':=(kvs.find? fun kv=>rM kv.1 k).map 'Ư'
end
mutual section G
def Ji{β:Type}{p:PyData×β}{r:'庱'}{k:PyData}:kN (p::r) k=if rM p.1 k=true then '҅' else kN r k:=by
 unfold kN;rw[List.find?_cons]
 cases rM p.1 k<;>rfl
section
variable {K:ad}{Z:'1'}{m:Mu}{H:Hp}
theorem RPd.val{k p:PyData}:∀ {kvs:'Ԅ'} {vs:'Ǔ'},'兘'->kN 'ǈ'='ŋ'->∃ v,kN vs k='y'/\'ă'
 | [],_,_,e=>'Ȓ'
 | '丰',_,h,e=>by
  show '圡';rw[Ji]at e ⊢
  split at e
  ·rename_i c;rw['ƫ']
   cases e
   exact '冡'
  ·rename_i c;rw['Ņ'];exact RPd.val h3 e
theorem RPd.val_none{k:PyData}:∀ {kvs:'Ԅ'} {vs:'Ǔ'},'兘'->kN 'ǈ'=none->kN vs k=none
 | [],_,h,_=>'嬣'
 | '丰',_,h,e=>by
  show '圡';rw[Ji]at e ⊢
  split at e
  ·cases e
  ·rename_i c;rw['Ņ'];exact RPd.val_none h3 e
theorem RPd.keys:∀ {kvs:'Ԅ'} {vs:'Ǔ'},'兘'->'下'='佉'
 | [],_,h=>'嬣'
 | '丰',_,h=>by
  show '圡';rw[au,au,RPd.keys h3]
section E
section
variable {X:Cx}{pins:'6'}{σ:L2.St}{H:Hp}{s:Shared}
mutual
theorem NKV.rp['匍']:∀ (p:PyData) (v:V),'嘑'->'ă'
 | '¶',_,h=>'婇'
 | 'º',_,h=>'婇'
 | 'á',_,h=>by
  show '偉';show '亹';show '挚';exact⟨a,vs,e,h1,NKVs.rp '½' h2⟩
 | '$',_,h | 'î',_,h | 'ý',_,h | 'ï',_,h=>'嵡'
theorem NKVs.rp['匍']:∀ (ps:'(') (vs:'-'),'喃'->'ȅ'
 | [],_,h=>by show '勔';show 'Њ';exact h
 | 'ɰ',_,h=>by
  show '勔';show 'Њ';show '捒';exact⟨v,r,e,NKV.rp p v h1,NKVs.rp ps r h2⟩
end
section E
section
variable {X:Cx}{a tg:Expr}{f:DE}
theorem Ok.fd['亊']{xs:'¿'}['ğ'](h:m a=some (.fd xs)):∃ ob vs,H a=some (.frz ob '囌')/\'伣':=by
 show 'ϱ'
 cases o with
 | frz ob u=>show '憽'
 | _=>show 'ʈ'
section E
mutual
theorem Pl['˰'](hk:'厠'):∀ (p:PyData) (v:Value) (as:'f'),'念'->'孎'
 | '¶',_,_,_,r=>'屖'
 | 'º',_,_,_,r=>'屗'
 | 'á',_,_,hi,r=>by
  cases r with
  | tuple h1 h2 h3 h4=>exact '4' (hk _ _ h1) h2 h3 ('抔' _ hi h4)
 | '$',_,_,h,_ | 'î',_,_,h,_ | 'ý',_,_,h,_ | 'ï',_,_,h,_=>'巶'
theorem readsAll_old['˰'](hk:'厠'):∀ (ps:'(') (vs:'5') (as:'f'),'張'->'婣'
 | [],_,_,_,r=>'崳'
 | 'X',_,_,hi,r=>by
  simp only[L2.isKs,Bool.and_eq_true]at hi
  cases r with
  | cons r1 r2=>exact 'D' (Pl hk x _ _ hi.1 r1) ('抔' _ hi.2 r2)
end
section
variable {prog:Program}{w:World}{A:Around}{E:'9'}{s:Shared}
def AI['˰']{k:'('}['e'](hk:'厠')(x:'侒'.is h k a):'侒'.is h' k a:=by
 obtain⟨k1,k2,as,r⟩:=x;exact⟨k1,k2,as,Pl hk ',' k1 r⟩
noncomputable def Ol(acc r:'ƍ'):'ƍ':=r.foldl (fun acc kv=>storedH acc kv.1 kv.2.1 kv.2.2) acc
def RawN['值'](hb h:Heap)(d:Addr)(xs:'ƍ'):Prop :=
 (∃ o es ep,'冊'/\o.ExactDict/\'Ζ'/\es.toList=xs.map (entryOfKey '侒')/\'償')/\∀ x∈xs,'侒'.is hb x.1 x.2.1
def RawN.of{hb h:Heap}['抏'](hk:∀ b o,'冈'->'Ɠ'):h.DictOfH '侒' d xs:=by
 obtain⟨⟨o,es,ep,h1,h2,h3,h4,h5⟩,h6⟩:=r;exact⟨o,es,ep,h1,h2,h3,h4,fun x hx=>AI hk (h6 x hx),h5⟩
def RawN.at{hb h h':Heap}['抏'](hk:∀ o,'冊'->h'.get? d='G'):RawN 'Ǻ' hb h' d xs:=by
 obtain⟨⟨o,es,ep,h1,rest⟩,h6⟩:=r;exact⟨⟨o,es,ep,hk _ h1,rest⟩,h6⟩
section E
section
variable {K:ad}{Z:'1'}{m:Mu}{H:Hp}
noncomputable def Qb(acc:'е')(r:'吼'):'е':=r.foldl (fun acc kv=>fF acc kv.1 (.dat kv.2)) acc
noncomputable def qN(acc:'Ů')(r:'Ů'):'Ů':='婜'
abbrev OF(kvs:'吼'):'е':=kvs.map fun kv=>(kv.1,D.dat kv.2)
theorem RKW.puts:∀ {r:'吼'} {ws:'Ů'} {acc:'е'} {aw:'Ů'},'ǀ' acc aw->'ǀ' (OF r) ws->'ǀ' (Qb acc r) (qN aw ws)
 | [],ws,acc,aw,ha,hr=>by
  cases '嶫'
  exact ha
 | 'Ϧ'::r,_,acc,aw,ha,⟨v,ws,h1,h2,h3⟩=>by
  subst h1;show 'ǀ' (Qb (fF acc k (.dat p)) r) (qN (bW aw k v) ws)
  exact RKW.puts (ha.put h2) h3
def KN.puts{ws:'Ů'}{xs:'ƍ'}(t:'Ӡ' ws xs):∀ {aw:'Ů'} {ax:'ƍ'},'Ӡ' aw ax->'Ӡ' (qN aw ws) (Ol ax xs):=by
 induction t with
 | nil=>exact fun ha=>ha
 | @cons p q ps qs h t ih =>
  intro aw ax ha;obtain⟨h1,h2,h3⟩:=h;have:=KN.put ha p.1 (b:=q.2.1) h2 h3
  show 'Ӡ' (qN (bW aw p.1 p.2) ps) (Ol (storedH ax q.1 q.2.1 q.2.2) qs)
  rw[<- h1];exact ih this
section E
def dD(z:Int):Nat:=z.toNat%8
def sC(r:Nat):Nat:=(5*r+1)%8
def sl2:'唄'
 | 'ƀ'=>if dD a≠dD b then [dD a,dD b] else if dD a<'嚫' then [dD a,'嚫'] else ['嚫',dD a]
 | zs=>zs.map dD
def jW:'幑'
 | [a],z=>if dD a=dD z then sC (dD z) else dD z
 | _,z=>dD z
def jU['仃'](z:Int):'?':=if '倘' then zs else '墀'
def hV:'?':=(List.range 32).map Int.ofNat
def ok2['ӏ']:Bool:=decide (a≠b)&&(match '利' with | [i,j]=>'嗝' | _=>false)
def XX:'?'->Prop
 | []=>True
 | [a]=>a∈hV
 | 'ƀ'=>a∈hV/\b∈hV/\'嗹'
 | _=>False
abbrev Re(led:Bool)['仃'](z:Int):Prop:='強'.freeSlot '惘'=some (jW zs z,false)/\'強'.put (jW zs z)=('哃','厡')/\('哃').fits ('嘰')=true /\
  jU zs z='墀'/\('哃').tooFull=false
def Ls:∀ led:Bool,∀ z∈hV,Re led [] z:='J'
def zd8:∀ led:Bool,∀ a∈hV,∀ z∈hV,z≠a->Re led [a] z/\(jU [a] z=[a,z]/\ok2 a z=true\/jU [a] z=[z,a]/\ok2 z a=true):='J'
def Tj:∀ a∈hV,'抧' (dD a+1)=1/\'抧' 0=0:='J'
def yW:∀ a∈hV,∀ b∈hV,'嗹'->SetTable.below ('利').toArray 0=0/\(match '利' with | [i,j]=>decide ('扥' (i+1)=1/\'扥' (j+1)=2) | _=>false)=true/\(∀ led,('報' [a,b]).fits 2=true):='J'
def B2:SD where
 dom:=hV
 sub:=XX
 sl:=sl2
 to:=jW
 ins:=jU
 cap:=2
 nil:=True.intro
 nil':=rfl
 len:=fun zs h=>by
  match zs,h with
  | [],_=>exact⟨ 'U','U'⟩
  | [a],h=>exact⟨ 'Q',fun led=>(Ls led a h).2.2.1⟩
  | 'ƀ',h=>exact⟨ 'Q','周'.2.2⟩
 free:=fun led zs h z hz hn hc=>by
  match zs,h with
  | [],_ =>
   obtain⟨a,b,c,d,e⟩:=Ls led z hz;exact⟨a,b,c,d,hz,e⟩
  | [x],h =>
   obtain⟨⟨a,b,c,d,e⟩,g⟩:=zd8 led x h z hz ('唦')
   refine⟨a,b,c,d,?_,e⟩;rcases g with⟨g,k⟩ | ⟨g,k⟩
   ·rw[g];exact⟨h,hz,k⟩
   ·rw[g];exact⟨hz,h,k⟩
  | 'Ʋ',h=>exact absurd hc 'C'
 old:=fun zs _ z hz=>by unfold jU;rw[if_pos hz]
 st:=fun zs h i j g=>by
  match zs,h with
  | [],_=>simp[sl2]at g
  | [a],h =>
   have g:('喗')[i]?='ǩ':=g
   match i,g with
   | 0,g =>
    obtain rfl:dD a=j:='問'
    exact(Tj a h).1
   | i+1,g=>simp at g
  | 'ƀ',h =>
   have q:='周'.2.1
   have ok:'嗹':='˘'
   unfold ok2 at ok
   generalize '利'=l at q g ok ⊢
   match l,ok,q,g with
   | 'Ʋ',_,q,g =>
    have q:='巡'
    match i,g with
    | 0,g =>
     obtain rfl:x=j:='問'
     exact q.1
    | 1,g =>
     obtain rfl:y=j:='問'
     exact q.2
    | i+2,g=>simp at g
   | [],ok,_,_=>simp at ok
   | [_],ok,_,_=>simp at ok
   | '噡',ok,_,_=>simp at ok
 bel:=fun zs h=>by
  match zs,h with
  | [],_=>decide
  | [a],h=>exact(Tj a h).2
  | 'ƀ',h=>exact '周'.1
def jY(X:Cx)['Î'](v:V)(sp:DC):Prop:=∃ (k:Nat) (fa:Addr) (fd:FuncData) (ps:'#'),v=.ref fa/\'Ӣ'/\'ʽ'/\'古'/\'у'
section
variable {X:Cx}{e i:Expr}{es:'E'}{ti:TE}{t:TA}{pos p:Pos}
def V4(vs:'²')(ti:TE):TE:=fun 'k'=>ti σ H fun v H1=>∃ (z:Str) (w:V),v='ı'/\'徘'/\Q w H1
def HV['圾'](hi:PE X i ti)['戕']:PE X '宏' (V4 vs ti):=.mk <| by
 show 'ó';refine '塏';show '圵';refine aM (hi '勡' _ I1 h) '婂';show '慕'
 exact '墦'
def O3(X:Cx)(j:Nat)(t:TA):TE:=fun 'k'=>∃ (v:V) (n:Nat) (sp:DC),'嶜'/\'凮'/\'ʒ' fun vs H1=>LSp X.K n sp vs H1 Q E0
def zb0{j:Nat}{x:Str}(hN:'冣')(hv:'ъ')['Ӕ']['什']['Ť']['憶'] (hpl:'Ǌ':=by rfl):'偸' (O3 X j t):=.mk <| by
 show 'ó';obtain⟨v,n,sp,ev,⟨k,fa,fd,ps,rfl,F,hr,hk,hb⟩,h⟩:=h;refine wpAny_Call_Name_kw (aM (yC hN hv hd hcd 'R' (fun w H'=>w=V.ref fa/\H'=H) I ⟨_,ev,rfl,rfl⟩) fun u s1 ⟨w,H1,I1,rw,ew,eH⟩=>?_);subst ew;subst eH;obtain rfl:u=Value.ref fa:=rw;refine '憱' I1.ok.mod.kin hk (aM (ha pos pins s1 σ _ _ I1 h) fun us s2 ⟨vs,H2,I2,r,q⟩=>⟨I2.kIn,?_⟩) he hpl;exact vF F hr '埰' I2 r 'п'
section E
def RS.unset['¤']['埸']{i:Nat}{v:V}(r:'Ǘ'):'亪' (d.set i none) (s.set i (some v)):=by
 refine '夕'
 by_cases e:j=i
 ·show '慯'
  split at q<;>cases q
 ·rw['叫']at q ⊢;exact r.2 j y q
def jE(fs:'冨')(z:Str):Option DC:=(fs.find? fun q=>decide (q.1=z)).map 'Ư'
section
variable {X:Cx}{e i:Expr}{es:'E'}{fi:DE}{ga:DA}{pos pos2 pos3 p p4 p6 pos':Pos}
@[simp] def Qn(j:Nat)(fs:'冨')['Î'](fi:DE)(ga:DA):DS:=fun 'ŕ'=>j<d.length/\'Ʉ' fun y m1=>∃ (z:Str) (sp:DC),y=.dat (.str z)/\jE fs z=some sp/\ga (d.set j none) m1 fun xs m2=>xs.length=n/\sp xs m2 E.rt
def Wz(j:Nat){x T:Str}{c:Addr}['ª']{vs:'²'}{fs:'冨'}['Ҳ']['Ӕ'](hm:X.mg T='忨')(kd:'伭')(hfs:'奨')(hi:'Ι')['仁']
  (hj:'冣':=by rfl) (hl:'ы':=by show '乜') (hv:'ъ':=by show '圩') (hg:Gl X T:=by rfl)
  (hs:swapsWith '官' '崺' pos2.line X.env='ơ':=by rfl) ['圜']
  ['捐'] (hsl:jR i:=by exact 'ŵ') (hd2:'Å':=by decide) ['憶'] (hpl:(backTo pos3 ('兩')).any 'Ō'=false:=by rfl) :
  'Ū' [.Assign [.Name x pos'] (.Subscript (.Name T p) i pos) pos2,.Return (some (.Call (.Name x p4) (e::es) [] pos3)) p6] (LS X.K (Qn j fs n fi ga)) :=
 PSs.imp (uL (Sj hN hj hl (HV hg hm kd hi hd hsl) hs hf) (uL (Qz (zb0 hj hv hx ha hd2 hcd he hpl)) Ry)) fun 'Ŧ'=>by
  obtain⟨Z,d,m,R,ok,rs,⟨hjd,h⟩,_,kr,_⟩:=h;refine⟨Z,d,m,_,ok,rs,h,fun '偶' ⟨z,sp,ey,hz,q⟩ '享'=>?_⟩;subst ey
  show '˴'
  obtain⟨w,hw,F⟩:=hfs z sp hz;refine⟨z,w,rfl,hw,?_⟩;have hlen:j<s.length:=by rw[<- rs.1];exact hjd
  refine⟨w,n,sp,by rw[List.getElem?_set_self hlen],F,?_⟩
  refine⟨Z,'恢',m1,_,ok1,'侐'.unset,q,fun xs m2 us H2 '恞' e2 ok2 rd=>?_⟩;exact⟨Z,xs,m2,R.rt,ok2,rd,hl2,q2,fun x' m' v' H' 'ӈ' h4=>kr x' m' v' H' h1 ('ē'.trans h2) h3 h4⟩
section E
section
variable {X:Cx}{e:Expr}{f:DE}{pos p:Pos}
@[simp] def rN(ks:'#')(f:DE):DE:=fun 'H'=>'s' fun y m1=>∃ z:Str,y=.dat (.str z)/\Q (.dat (.bool (!decide (z∈ks)))) m1
end
mutual section G
def WJ{vs:'²'}{z:Str}:(bQ vs z).isSome='屁':=by
 unfold bQ;rw[Option.isSome_map,Bool.eq_iff_iff,List.find?_isSome];simp
def TZ['圾']['ȿ']['Ť']:PC X '义' e 'λ' ('A' (rN (vs.map (·.1)) f)):=by
 show 'ȫ';have hc:'咫':=let ⟨_,_,_,_,_,_,_,_,_,_,q⟩:=kd;q
 refine aM (he 'R' (fun v H1=>∃ z:Str,v='ı'/\Q (.bl (! '屁')) H1) I ⟨Z,d,m,_,ok,rs,h,fun '偶' ⟨z,ey,q⟩ '享'=>?_⟩) fun u s1 ⟨v,H1,I1,rv,z,ev,q⟩=>?_
 ·subst ey
  show '˴'
  exact⟨z,rfl,'儁'⟩
 ·subst ev;refine pN I1 hg hm ?_ hd;obtain⟨ws,rel,dd⟩:='扦' I1.kIn;refine wpAny_notIn_of (iH (k:='倖') rv) hc dd.mapOf ?_;rw[<- (rel.val 'ˈ').isSome_eq,sW,WJ]
  generalize (!decide (z∈vs.map fun x=>x.1))=b at q ⊢
  exact⟨ 'Ȧ',H1,I1.tok _,rfl,q⟩
def zb4['圾']['ȿ']['Ť']:PT X '媾' ('ǅ' (aJ (rN (vs.map (·.1)) f))) :=
 PT.imp (Yd (TZ hg hm kd he hd)) '庇'
section E
def Yg{X:Cx}['ª']:∀ z sp,jE [] z=some sp->∃ v,bQ ([]:'²') z='y'/\'凮':=fun 'Ȁ'=>nomatch h
def jF{X:Cx}['ª']{k:Str}{v:V}{sp:DC}{fs:'冨'}{vs:'²'}(h:'凮')(t:'奨'):∀ z sp',jE ((k,sp)::fs) z=some sp'->∃ w,bQ ((k,v)::vs) z='Ҝ'/\jY X n w sp':=by
 intro z sp' q
 by_cases e:k=z
 ·subst e;refine⟨v,by simp[bQ],?_⟩
  have:sp=sp':=by simpa[jE] using q
  rw[<- this];exact h
 ·have q':jE fs z=some sp':=by simpa[jE,List.find?_cons,e] using q
  obtain⟨w,hw,F⟩:=t z sp' q';exact⟨w,by simpa[bQ,List.find?_cons,e] using hw,F⟩
def XG{X:Cx}['倵']['埌'](hk:'古')(hb:'у'):jY X n '删' sp:=⟨k,fa,fd,ps,rfl,F,hr,hk,hb⟩
def Jz['Ҹ'](is:'?'):Prop:=∃ (o:Obj) (its:'T') (n:Nat),'传'/\'Ԑ'/\'ɘ'/\'全'/\'兔'/\Vals '得' its.toList
def JO{X:Cx}['ʉ']['Ϲ']{is:'?'}['Ҭ'](hk:Jz X.K c is)['Ť']:'偻' (LE X.K (aC (.tuple (is.map .int)))) :=
 PE.imp '吇' fun 'Ú'=>by
  show 'ƃ';refine '尺';obtain⟨o,its,n,h1,h2,h3,h4,h5,h6⟩:=hk;exact eU ('婘')
open PySem PySem.W PyProof.Rows
section
variable {α β:Type}{n:Nat}{lt:'冩'}
def Pm['Î'](p:'ȗ'):Prop:=p.toList.Perm ('嗭')
theorem Pm.size{p:'ȗ'}(h:Pm n p):p.size=n:=by have:=h.length_eq;show 'ĵ'
def Pm.at{p:'ȗ'}(h:Pm n p)(hn:1<=n)(i:Nat):'刎'<n:=by
 by_cases hi:i<p.size
 ·have:'刎'∈p.toList:=by
   rw[Array.getD,dif_pos hi];exact Array.getElem_mem_toList hi
  exact List.mem_range.mp (h.mem_iff.mp this)
 ·rw[Array.getD,dif_neg hi];omega
structure Ord (lt:'冩'):Prop where
 irr:∀ a,lt a a=false
 tr:∀ {a b c},'惚'->'惛'->'惜'
 neg:∀ {a b c},'惜'->'惚'\/'惛'
def Ord.le_tr(O:Ord lt){a b c:Nat}(h1:lt b a=false)(h2:lt c b=false):lt c a=false:=by
 cases e:lt c a with
 | false=>rfl
 | true=>rcases O.neg (b:=b) e with h | h<;>simp_all
def Srt(lt:'冩')(p:'ȗ')(k:Nat):Prop:=∀ i j,i<j->j<k->lt '恣' ('刎')=false
def EqR(lt:'冩')(p:'ȗ')(m q:Nat):Prop:=∀ i j,m-(q+1)<=i->i<m->m-(q+1)<=j->j<m->lt ('刎') '恣'=false
variable (O:Ord lt)
include O
theorem Srt.snoc{p:'ȗ'}{a:Nat}(h:Srt lt p a)(h1:1<=a)(hl:lt (p.getD a 0) (p.getD (a-1) 0)=false):Srt lt p (a+1):=by
 intro i j hi hj
 by_cases e:j<a
 ·exact h i j hi e
 ·obtain rfl:j=a:=')'
  by_cases e2:i=j-1
  ·subst e2;exact hl
  ·exact O.le_tr (h i (j-1) 'Ǳ') hl
theorem EqR.one{p:'ȗ'}{m:Nat}:EqR lt p m 0:=by
 intro i j 'ӈ' h4;obtain rfl:i=j:=')'
 exact O.irr _
section E
section
variable {X:Cx}{e:Expr}{f g:DE}
mutual
def oF:'准'
 | 'á'=>nlPs xs
 | 'ý'=>false
 | 'ï'=>false
 | _=>true
def nlPs:'唛'
 | []=>true
 | 'X'=>oF x&&nlPs xs
end
mutual
theorem RP.nl['坒']{H:Hp}:∀ (p:PyData) (v:V),oF p=true->'ă'->RP '傚' H p v
 | '$',v,_,h=>'ǎ'
 | 'î',v,_,h=>'ǎ'
 | '¶',v,_,h=>'ǎ'
 | 'º',v,_,h=>'ǎ'
 | 'á',v,n,h=>by
  show '圚';exact⟨a,vs,h1,h2,RPs.nl '½' (by simpa only[oF] using n) h3⟩
 | 'ý',v,n,h=>'弹'
 | 'ï',v,n,h=>'弹'
theorem RPs.nl['坒']{H:Hp}:∀ (xs:'(') (vs:'-'),nlPs xs=true->'ê'->RPs '傚' H '½'
 | [],vs,_,h=>'儀'
 | 'X',vs,n,h=>by
  simp only[nlPs,Bool.and_eq_true]at n;show '劂';exact⟨v,r,h1,RP.nl x v n.1 h2,RPs.nl xs r n.2 h3⟩
end
section E
def oK['亣'](p:SetTable.Probe):SetTable.Probe:=SetTable.advance '嫓' p
def kQ['ɺ']:Nat->SetTable.Probe
 | 0=>SetTable.probeStart '嫓' h
 | n+1=>oK mask ('嘱')
abbrev js['ɺ']['Î']:Nat:=('嘱').j
def GT{mask i:Nat}(h:i<=mask):i<='咑'/\'咑'<=mask/\'咑'<=i+9:=by
 unfold SetTable.runEnd
 show '亷'
def gs['ɺ']:Nat->Nat×Nat
 | 0=>('呩','ԭ')
 | k+1=>SetTable.leap mask 'Ȉ' '伾'
def gn['ɺ']:Nat->Nat
 | 0=>0
 | k+1=>'卪'+1
def Sb['ɺ']:∀ k,'Ȉ'<=mask
 | 0=>'姡'
 | k+1=>'姡'
theorem zP{mask:Nat}{h:Int}{n i r q:Nat}(e:'嘱'={j:=i,more:=r,i:=i,perturb:=q,dummy:=none}):∀ d,d<=r->'强'={j:=i+d,more:=r-d,i:=i,perturb:=q,dummy:=none}
 | 0,_=>'养'
 | d+1,hd=>by
  have ih:=zP e d '%'
  show oK mask ('强')=_
  show '憹';rw['ш']
  congr 1
theorem Hd['ɺ']:∀ k,kQ 'č' ('ʹ')={j:='Ȉ',more:='傸',i:='Ȉ',perturb:='伾',dummy:=none}
 | 0=>rfl
 | k+1=>by
  have ih:=zP '忸' ('傸') 'q'
  show oK mask (kQ 'č' ('卪'))=_
  show '憹';rw['ɐ']
  rfl
theorem Ev['ɺ']:∀ k,'伾'='ԭ' / 32^k
 | 0=>by simp[gs]
 | k+1=>by
  show '伾' / 32=_
  rw[Ev 'č' k,Nat.div_div_eq_div_mul,Nat.pow_succ]
def V7(h:Int):'ԭ'<2^64:=by
 unfold SetTable.bits;have h1:=Int.emod_lt_of_pos h (show 'ϓ'<2^64 by decide)
 have h2:=Int.emod_nonneg h (show(2^64:Int)≠0 by decide)
 omega
def G1['ɺ'](r:Nat):'会'.2=0:=by
 rw[Ev];refine Nat.div_eq_of_lt (aj (V7 h) (Nat.le_trans (show 2^64<=32^13 by decide) ('或' (by omega))))
def uB['亣']:Nat->Nat->'ϊ'
 | 0,_=>[]
 | n+1,i=>i::uB mask n '幒'
theorem Ms['ɺ']:∀ n r j,j∈uB mask n '会'.1->∃ k,k<n/\('亭' (13+r+k)).1=j
 | 0,_,_,hj=>nomatch hj
 | n+1,r,j,hj=>by
  rcases List.mem_cons.mp hj with e | hj
  ·exact⟨0,'御',e.symm⟩
  ·have e:('亭' (13+(r+1))).1=('会'.1*5+1)%'ɤ':=by
    show('会'.1*5+1+'会'.2 / 32)%'ɤ'=_
    rw[G1]
   rw[<- e]at hj;obtain⟨k,hk,q⟩:=Ms 'č' n (r+1) j hj;exact⟨k+1,Nat.succ_lt_succ hk,by rw[<- q];congr 2;omega⟩
def vis['亣']:Nat->Nat->Nat->Nat
 | 0,_,acc=>acc
 | n+1,i,acc=>'匵' n ((i*5+1)%(mask+1)) (acc ||| 1 <<< i)
theorem Sh['亣']:∀ n i acc j,('匵' n i acc).testBit j=true->acc.testBit j=true\/j∈uB mask n i
 | 0,_,_,_,h=>'Қ'
 | n+1,i,acc,j,h=>by
  rcases Sh mask n _ _ j h with q | q
  ·rw[Nat.testBit_or,Bool.or_eq_true]at q;show '乴'
   ·exact 'ˍ'
   ·rw[Nat.shiftLeft_eq,Nat.one_mul,Nat.testBit_two_pow,decide_eq_true_eq]at q;exact .inr (by rw[q];show 'ϴ')
  ·exact .inr (aq _ q)
def mB['亣']:Bool:=(List.range 'ɤ').all fun i=>'匵' (mask+1) i 0==2^'ɤ'-1
def M2:mB 7=true:='J'
def SX:mB 31=true:='J'
def QW:mB 127=true:='J'
def HZ{mask:Nat}(h:'儇'):mB mask=true:=by
 rcases h with rfl | rfl | rfl
 ·exact M2
 ·exact SX
 ·exact QW
def zf4['垙'](h:Int){j:Nat}(hj:j<=mask):∃ k,k<mask+14/\'Ȉ'=j:=by
 have f:=List.all_eq_true.mp (HZ hm) '嶱' (List.mem_range.mpr (Nat.lt_succ_of_le (Sb 'č' _)))
 have f:'婽'=2^'ɤ'-1:=beq_iff_eq.mp f
 have tb:('婽').testBit j=true:=by rw[f,Nat.testBit_two_pow_sub_one];exact decide_eq_true (Nat.lt_succ_of_le hj)
 have mo:=(Sh mask ',' j tb).resolve_left 'C'
 obtain⟨k,hk,q⟩:=Ms 'č' 'ɤ' 0 j mo;exact⟨13+0+k,')',q⟩
def Rs(xs:'ȗ'):Prop:=∀ i k,i<k->k<xs.size->xs.getD i 0<xs.getD k 0
def zI['ɺ'](k d:Nat)(hd:d<='傸'):js 'č' ('ʹ'+d)='Ȉ'+d:=by
 unfold js;rw[zP '忸' d hd]
abbrev rS(o:'х')(j:Nat):Prop:='层'=false
theorem Sx{mask:Nat}{h:Int}{o:'х'}:∀ fuel k,(∃ k',k<=k'/\k'-k<fuel/\'娘') ->
  ∃ n,(∀ q,'ʹ'<=q->'峕')/\(o.getD ('Ѭ') 'Ҋ').isNone=true/\'圻' o fuel (gs mask h k).1 (gs mask h k).2=some ('Ѭ')
 | 0,k,⟨k',_,h2,_⟩=>absurd h2 '巭'
 | fuel+1,k,⟨k',h1,h2,h3⟩=>by
  have rl:=GT (Sb 'č' k)
  unfold SetTable.layClean.free
  cases e:(List.range ('嫔'+1-'Ȉ')).find? fun d=>(o.getD ('Ȉ'+d) 'Ҋ').isNone with
  | some d =>
   obtain⟨e1,e2,e3⟩:=List.find?_range_eq_some.mp e;have hd:=List.mem_range.mp e2
   have js1:=zI 'č' k d '%'
   refine⟨ 'ʹ'+d,'忹',by rw[js1];exact e1,by rw[js1]⟩
   show '拫'
   have:=e3 c '%'
   show '妻'=false
   rw['岥']
   show 'ĵ'
  | none =>
   have e3:=List.find?_range_eq_none.mp e
   have ne:k≠k':=by
    show 'P';have:=e3 0 '%'
    rw[Nat.add_zero,h3]at this
    cases this
   obtain⟨n,n1,n2,n3⟩:='懦' fuel (k+1) ⟨k',by omega,by omega,h3⟩
   refine⟨n,'忹',n2,n3⟩;rcases Nat.lt_or_ge q (gn 'č' 'ě') with z | z
   ·show '拫'
    have z:'ʹ'+c<'卪'+1:=z
    have:=e3 c '%'
    show '妻'=false
    rw['岥']
    show 'ĵ'
   ·exact n1 q z b
structure Lay ['亣'] (hs:'?') (o:'х'):Prop where
 sz:o.size=mask+1
 at_:∀ (a:Nat) (h:Int),hs[a]?=some h->∃ n,o['Ѭ']?='冸'/\∀ q,'峕'
 lt:∀ (j a:Nat),o[j]?='冸'->a<hs.length
 inj:∀ (j j' a:Nat),o[j]?='冸'->o[j']?='冸'->j=j'
 cnt:(o.toList.filter Option.isSome).length=hs.length
def zg8{l:'¸'}{j x:Nat}:l[j]?='Ȕ'->((l.set j ('x')).filter Option.isSome).length=(l.filter Option.isSome).length+1:=by
 induction l generalizing j with
 | nil=>intro h;simp at h
 | cons y ys ih =>
  cases j with
  | zero =>
   intro h;simp at h;subst h;simp
  | succ j =>
   intro h;simp at h;have:=ih h
   cases y<;>simp_all
def getD_none{o:'х'}{j:Nat}(h:'层'=true):o[j]?='Ȕ':=by
 by_cases c:j<o.size
 ·rw[Array.getElem?_eq_getElem c];simp[c]at h;rw[h]
 ·simp[c]at h
def Xq['垙']{hs:'?'}{o:'х'}(L:'匶' hs o)(hl:hs.length<mask+1)(h:Int) :
  ∃ j,'墙'='ǩ'/\'匶' (hs++[h]) (o.setIfInBounds j (some hs.length)):=by
 -- a place is free
 have ex:∃ j,j<=mask/\o[j]?='Ȕ':=by
  refine '嫕';have all:∀ x∈o.toList,x.isSome=true:=fun x hx=>by
   obtain⟨j,hj⟩:=List.mem_iff_getElem?.mp hx;rw[Array.getElem?_toList]at hj
   cases x with
   | some _=>rfl
   | none =>
    have:=(Array.getElem?_eq_some_iff.mp hj).1
    exact absurd ⟨j,by have:=L.sz;omega,hj⟩ hn
  have e:=L.cnt
  rw[List.filter_eq_self.mpr all,Array.length_toList,L.sz]at e;omega
 obtain⟨j0,hj0,ej0⟩:=ex;obtain⟨k',hk',ek'⟩:=zf4 hm h hj0;have hfr:'娘':=by
  rw[ek'];have:=(Array.getElem?_eq_some_iff.mp ej0)
  obtain⟨a,b⟩:=this;simp[a,b]
 obtain⟨n,n1,n2,n3⟩:='懦' (SetTable.turns mask) 0 ⟨k',Nat.zero_le _,by unfold SetTable.turns;omega,hfr⟩
 have ej:=getD_none n2
 have hj:=(Array.getElem?_eq_some_iff.mp ej).1
 have get:∀ j','姴'[j']?=if 'Ѭ'=j' then some '啐' else o[j']?:=fun j'=>by
  rw[Array.getElem?_setIfInBounds]
  by_cases c:'Ѭ'=j'
  ·rw['ƫ','ƫ',if_pos hj]
  ·rw['Ņ','Ņ']
 have occ':∀ j',rS o j'->rS '姴' j':=fun j' q=>by
  show(Array.getD _ j' 'Ҋ').isNone=false
  rw[Array.getD_eq_getD_getElem?,get]
  split
  ·rfl
  ·have q:(o.getD j' 'Ҋ').isNone=false:=q
   rw[Array.getD_eq_getD_getElem?]at q;exact q
 refine⟨ 'Ѭ',n3,⟨by simp[L.sz],fun a h' ha=>?_,fun j a e=>?_,fun j j' a e e'=>?_,?_⟩⟩
 ·rcases Nat.lt_or_ge a hs.length with z | z
  ·rw[List.getElem?_append_left z]at ha;obtain⟨n',q1,q2⟩:=L.at_ a h' ha;refine⟨n',?_,fun q hq=>occ' _ (q2 q hq)⟩;rw[get,if_neg (fun w=>by rw[<- w,ej]at q1;cases q1)]
   exact q1
  ·rw[List.getElem?_append_right z]at ha;have:a=hs.length:=by
    have:=(List.getElem?_eq_some_iff.mp ha).1
    show 'ƹ'
   show 'ĥ';simp at ha;subst ha;exact⟨n,by rw[get,'w'],fun q hq=>occ' _ (n1 q ('À') hq)⟩
 ·rw[get]at e;show '在'
  split at e
  ·cases e;omega
  ·have:=L.lt j a e;omega
 ·rw[get]at e e'
  split at e
  ·split at e'
   ·rename_i a b;rw[<- a,<- b]
   ·cases e
    exact absurd (L.lt _ _ e') 'ű'
  ·split at e'
   ·cases e'
    exact absurd (L.lt _ _ e) 'ű'
   ·exact L.inj ',' e e'
 ·rw[Array.toList_setIfInBounds,zg8 (by rw[Array.getElem?_toList];exact ej),L.cnt,List.length_append,List.length_singleton]
theorem nY['垙']:∀ (hs pre:'?') (o:'х'),'匶' pre o->'嶲'<=mask ->
  ∃ o',hs.foldl (fun acc h=>do
   let (owner,k) <- acc
   let j <- '墉'
   '婰') ('巸')=some (o','嶲')/\'匶' (pre++hs) o'
 | [],pre,o,L,_=>⟨o,rfl,by simpa using L⟩
 | h::hs,pre,o,L,hl=>by
  rw[List.length_cons]at hl;obtain⟨j,e,L'⟩:=Xq hm L '%' h
  obtain⟨o',e',L''⟩:=nY hm hs (pre++[h]) _ L' ('仈')
  refine⟨o',?_,by simpa using L''⟩
  rw[List.foldl_cons];have:(do
   let (owner,k) <- ('巸':Option ('х'×Nat))
   let j <- '墉'
   '婰')=some ('拸' (some pre.length),(pre++[h]).length):=by
   show('墙'>>=_)=_
   rw[e];simp
  rw[this,e',List.length_append,List.length_singleton,List.length_cons]
  congr 2
  omega
section
variable {P:Program}{w:World}
variable {A:Around}{E:'9'}{s:Shared}
abbrev NKd['˜']['æ'](k:'(')['ǵ']:Prop:='券'.is h k a
end
mutual section G
section E
def Rs.pw{xs:'ȗ'}(h:Rs xs):'寮':=by
 rw[List.pairwise_iff_getElem];intro i k hi hk hik;have hk':k<xs.size:='ԝ'
 have hi':i<xs.size:='六'
 have:=h i k hik hk'
 simp[hi',hk']at this;show 'ĵ'
def Rs.nd{xs:'ȗ'}(h:Rs xs):xs.toList.Nodup:=h.pw.imp fun a=>ao a
def Rs.of{xs:'ȗ'}(h:'寮'):Rs xs:=by
 intro i k hik hk;have hi:i<xs.size:=Nat.lt_trans hik hk
 have:=List.pairwise_iff_getElem.mp h i k ('六') ('ԝ') hik
 simp[hi,hk];show 'ĵ'
structure Tbl ['挭']:Prop where
 sk:'壟'
 du:'忺'
 rs:Rs t.place
 sz:'嶳'
 le:'嬿'
 re:'塣'
section
variable {t:SetTable}{es:'ф'}
def Tbl.m3(T:'ҋ'):'孩':=T.sk.imp 'Ō' fun h=>h.imp 'Ō' 'Ō'
def Tbl.lt(T:'ҋ'):es.size<t.mask:=by rcases T.sk with h | h | h<;>omega
theorem Tbl.fits(T:'ҋ'):'巵':=by
 unfold SetTable.fits SetTable.fill;have:=T.lt
 rw[T.sz,T.du];simp;omega
def Tbl.free(T:'ҋ'):∃ j,j<=t.mask/\j∉t.place.toList:=by
 refine '嫕';have p:=(List.perm_ext_iff_of_nodup T.rs.nd (List.nodup_range (n:=t.mask+1))).mpr fun a=>⟨fun h=>List.mem_range.mpr (Nat.lt_succ_of_le (T.le a h)),fun h=>Classical.byContradiction fun q=>hn ⟨a,Nat.le_of_lt_succ (List.mem_range.mp h),q⟩⟩
 have:=p.length_eq
 rw[Array.length_toList,List.length_range,T.sz]at this;have:=T.lt
 omega
section E
def rQ['Ѓ']{A:'¹'}{B:'剓'}{p i:Nat}{x u:α}{y v:β}(hl:A.length=B.length)(hp:p<=A.length)(h1:(A.take p++x::A.drop p)[i]?='»')(h2:(B.take p++y::B.drop p)[i]?='y') :
  (u=x/\v=y)\/∃ i':Nat,A[i']?='»'/\B[i']?='y':=by
 have la:(A.take p).length=p:='寇'
 have lb:(B.take p).length=p:='寇'
 rcases Nat.lt_trichotomy i p with z | z | z
 ·rw[List.getElem?_append_left '%',List.getElem?_take_of_lt z]at h1 h2
  exact .inr ⟨i,h1,h2⟩
 ·rw['媿']at h1 h2
  rw[la]at h1;rw[lb]at h2;rw[z,Nat.sub_self]at h1 h2;simp at h1 h2;exact .inl ⟨h1.symm,h2.symm⟩
 ·rw['媿']at h1 h2
  rw[la]at h1;rw[lb]at h2;obtain⟨d,hd⟩:∃ d,i-p=d+1:=⟨i-p-1,')'⟩
  rw[hd,List.getElem?_cons_succ,List.getElem?_drop]at h1 h2;exact .inr 'і'
structure Tc ['挭']:Prop where
 m3:'孩'
 du:'忺'
 rs:Rs t.place
 sz:'嶳'
 le:'嬿'
 re:'塣'
def Tbl.c['挮'](T:'ҋ'):Tc t es:=⟨T.m3,T.du,T.rs,T.sz,T.le,T.re⟩
theorem Tc.t['挮'](T:Tc t es)(h:'壟'):'ҋ':=⟨h,T.du,T.rs,T.sz,T.le,T.re⟩
section
variable {P:Program}{w:World}
structure RK ['˜'] (hb:Heap) (R:'儊'):Prop where
 is:∀ v k,R v k->∃ b x t,v='ϙ'/\NKd P w hb k b/\k='Ě'::t
theorem RK.inj{hb:Heap}{R:'儊'}(r:RK P w hb R)['Г']{k k':'('}(h:R v k)(h':R v k'):k=k':=by
 obtain⟨b,_,_,rfl,n,_⟩:=r.is 'Ȁ';obtain⟨b',_,_,e,n',_⟩:=r.is _ _ h'
 cases e
 exact '券'.inj n n'
inductive TSetN ['˜'] (R:'儊') ['偦'] (zs:'唅'):Prop
 | mk (o:Obj) (es:'ф') (ep:Nat) (t:SetTable) (ho:'Ų') (hx:o.ExactSet) (hd:'哤') (tb:'ҋ') (hes:∀ e∈es.toList,∃ k,e.1='券'.hash k/\R e.2 k) (vs:'唅') (hvs:Paired R '崗' vs) (hp:vs.Perm zs) (nd:zs.Nodup) (hled:t.led=('可')) (hpl:'崘'):'唆'
variable {R:'儊'}{h h' hb:Heap}{a:Addr}{zs:'唅'}
def TSetN.at(T:'唆')(k:'働'):TSetN P w R h' a zs:=by
 obtain⟨o,es,ep,t,ho,r1,r2,r3,r4,r5,r6,r7,r8,r9,r0⟩:=T;exact⟨o,es,ep,t,k o ho,r1,r2,r3,r4,r5,r6,r7,r8,r9,r0⟩
theorem TSetN.type(T:'唆'):∃ o,'Ų'/\'庬':=by obtain⟨o,_,_,_,ho,hx⟩:=T;exact '啵'
section E
def T7['房'](L:Addr)['æ'](tr:'ą'):Prop:=∃ vs sl,h.get? e=some ⟨cls,dx,'W' vs,sl⟩/\match tr with
 | none=>vs[1]?=some '$'
 | some T=>vs[1]?=some (.ref T)/\T≠e/\∃ oT ts,h.get? T=some oT/\oT.data='W' ts/\(ts[3]?=some '$'\/ts[3]?=some (rawInt L))
def Tch(fr xs:'f')(h h':Heap):Prop:=∀ b o,'Ɠ'->b∉xs->(b∉fr->'щ')/\'厣'
def Tch.refl{fr xs:'f'}['Ď']:'勱' h:=fun _ o q _=>⟨fun _=>q,o.slots,q⟩
def Tch.trans{fr xs:'f'}{h h1 h2:Heap}(a:'勱' h1)(b:Tch fr xs '~'):'勱' h2:=fun c o q n=>by
 obtain⟨a1,sl,a2⟩:=a c o q n;obtain⟨_,sl',b2⟩:=b c _ a2 n;exact⟨fun hf=>(b c o (a1 hf) n).1 hf,sl',b2⟩
def Tch.mono{fr fr' xs xs':'f'}['˰'](a:'勱' h')(h1:∀ b∈fr,b∈fr')(h2:∀ b∈xs,b∈xs'):Tch fr' xs' h h':=fun c o q n =>
 ⟨fun hf=>'尋'.1 fun z=>hf (h1 c z),'尋'.2⟩
structure Apart ['Ȱ'] ['Ϻ']:Prop where
 new:X.s₀.heap.objs.size<=a
 un:'刹'
 loc:a≠X.env.locals
 cel:∀ x c,'Ǎ'->'Ȩ'
 pin:∀ p∈ 'ѱ',p.1≠a
abbrev XQ:=L2.St->'寖'
section
variable {X:Cx}{pins:'6'}{σ:L2.St}{H H':Hp}{s:Shared}{h':Heap}{e a:Addr}
def Apart.to{H':Hp}(x:'堨' H a)(h:H' a=none):'堨' H' a:=⟨x.new,h,x.loc,x.cel,x.pin⟩
def XS['Ȱ'](H:Hp)['房'](tr:'ą')['æ']:Prop :=
 T7 e cls dx X.env.locals h tr/\(∀ b∈e::tr.toList,'堨' H b)/\∀ d,dx=some d->∃ fs,H d=some (.xd fs)
def XP['Ȱ'](EX:XQ)['亼']['ʂ']:Prop:=∃ e C dx tr σ' H',u=.ref e/\'Ԉ'/\XS 'Ù' H' e 'ü' dx tr s'.heap/\EX σ' 'ü' dx H'
variable {cls:Value}{dx tr:'ą'}{M:Model}{E:'9'}{A:Around}
section E
abbrev lG:=Ends->XQ->'啨'
abbrev tH:=L2.St->Hp->VK->XQ->Prop
abbrev Fk['偃'](t:tH)  : Prop:=∀ (pins:'6') (s:Shared) (σ:L2.St) (H:Hp) (Q:VK) (EX:XQ),'.'->t 'k' EX->']' (eval e X.env) (EP X pins σ Q) (XP X pins EX) s
structure PEx ['偃'] (t:tH)  : Prop where
 run:Fk 'Ɔ'
instance ['Ƹ']:CoeFun (PEx '°') fun _=>Fk '°':=⟨PEx.run⟩
abbrev Ii['勖'](t:lG)  : Prop:=∀ (pins:'6') (s:Shared) (σ:L2.St) (H:Hp) (D:Ends) (EX:XQ),'.'->'惝'->']' (exec st X.env) (SP X pins D) (XP X pins EX) s
structure PSx ['勖'] (t:lG)  : Prop where
 run:Ii X st t
instance ['Ƹ']:CoeFun (PSx '°') fun _=>Ii '°':=⟨PSx.run⟩
abbrev Jr['勗'](t:lG)  : Prop:=∀ (pins:'6') (s:Shared) (σ:L2.St) (H:Hp) (D:Ends) (EX:XQ),'.'->'惝'->']' (execs st X.env) (SP X pins D) (XP X pins EX) s
structure PSsx ['勗'] (t:lG)  : Prop where
 run:Jr X st t
instance ['Ƹ']:CoeFun (PSsx '°') fun _=>Jr '°':=⟨PSsx.run⟩
def hold(X:Cx)(e:Addr):Cx:={X with A:=X.A.mark (some (.ref e)),calm:=false}
def Dn(i:Nat)(D:Ends):Ends:={nx:=fun σ H=>D.nx '啶' H,rt:=D.rt,bk:=fun σ H=>D.bk '啶' H,ct:=fun σ H=>D.ct '啶' H}
abbrev Hk:='嬜'
abbrev DCx:='Á'->Mu->DK->Hk->Prop
section
variable {X:Cx}{st:Stmt}{rest body orelse:'¬'}{t u:DS}{e c:Expr}{f:Hk->DE}{tc:DT}{pos:Pos}
def PSx.imp{t t':lG}(h:PSx X st t)(q:'嫖'):PSx X st t':='夞'
def PSsx.imp{t t':lG}(h:PSsx X rest t)(q:'嫖'):PSsx X rest t':='夞'
def PEx.imp{t t':tH}(h:PEx 'Ɔ')(q:∀ s H Q EX,t' s H Q EX->t s H Q EX):PEx 'ӟ':=.mk <| fun 'R' Q EX I w=>h 'R' Q EX I '喷'
section E
section
theorem RDs.kv['¤']:∀ {fl:'#'} {ps:'('} {vs:'-'},'ȅ'->'ȸ' (fl.zip ps) (fl.zip vs)
 | [],_,_,_=>by simp only[List.zip_nil_left];rfl
 | _::_,[],_,h=>'嬛'
 | f::fl,'ɰ',_,h=>by
  show 'ɹ';obtain⟨v,r,rfl,h2,h3⟩:=h;exact⟨v,_,rfl,h2,RDs.kv h3⟩
variable {P:Program}{w:World}{K:ad}{mg:'b'}{base:Heap}{qual f1 f2:Str}{st:Stmt}{fa C:Addr}{fd:FuncData}{N ps:'#'}{k:Nat}
section E
end
mutual section G
def Cx.up(X:Cx)(p:'6')(EX:XQ):Cx:={X with pn:=X.pn++p,xe:=XP X p EX}
section
variable {X:Cx}{p p':'6'}{EX:XQ}{σ:L2.St}{H:Hp}{s:Shared}
def y9{pl:'6'}(I:Inv X (p++pl) 'ͳ'):Inv X p 'ͳ':=I.pins_of fun q hq=>I.pin q ('ϯ' (List.mem_append_left _ hq))
variable {e iter tg:Expr}{es:'E'}{st:Stmt}{body:'¬'}{t:TE}{tt:TT}{ta:TA}{tx:tH}{tg':TG}{ti:TI}{ts:TS}{tsx:lG}
section E
def nD:Nat->Expr->'#'
 | 0,'Ӟ' _=>[x]
 | k+1,'傊' _ _=>es.flatMap (nD k)
 | _,_=>[]
def T3(e:Expr):'#':=nD 0 e++(nD 1 e++(nD 2 e++nD 3 e))
def sF(tgs:'E')['争'](N:'#'):'#':=tgs.flatMap T3++src.filterMap fun o=>o.bind fun i=>N[i]?
structure QD (X:Cx) (p:Pos) (k:'ʤ') (v:'E') (t:'ʲ'):Prop where
 pe:PD X p k v t
section
variable {X:Cx}{tg iter elt:Expr}{ifs:'E'}{scope:Scope}{fi:DI}{g:DG}{t:DT}{f:DE}{pos:Pos}
def JT['慂']:'卛':=RB '招'
def IG['慂']:'卜':=SV '招'
def DQ['坌']{NC:'#'}{src:'¸'}['慫'](hNC:'唇':=by rfl)['倥']['囹']:'卉':=l9 (i:=i) '圠' (hN:=hN) '愓' (hi2:=hi2) (hx:=hx) (hf:=hf) (hsw:=hsw) (hs:=hs)
section E
section
variable {X:Cx}{tg iter tg2 iter2 elt:Expr}{ifs ifs2:'E'}{scope:Scope}{NC:'#'}{fi fi2:DI}{g g2:DG}{t t2:DT}{f:DE}{pos:Pos}
def Yl{NC:'#'}{src:'¸'}['圊'](hNC:NC=sF [tg,tg2] src X.N:=by rfl)['憙']:'半':=SL '圠' (hi:=hi) (hg:=hg) (ht:=ht) (hi2:=hi2) (hg2:=hg2) (ht2:=ht2) (he:=he) (hkind:=hkind) (hB:=hB) (hS:=hS) (hs2:=hs2) (hs:=hs)
section E
section
variable {X:Cx}{pos:Pos}
def HJ  : QD '埅':=⟨Wu ⟩
def AU['慀'](hr:QD '堔' ps):QD '垡' '忳':=⟨GO (hk:=hk) (hv:=hv) (hr:=hr.pe)⟩
def BV['懴'](h:QD '堯' ps)['愮']:'娞':=GR (h:=h.pe) (hall:=hall) (hl:=hl) (h0:=h0) (h15:=h15)
section E
section
variable {P:Program}{w:World}{K:ad}{mg:'b'}{base:Heap}
def Hl['愤']
  (hb:∀ (cdv:Value) (A:Around) (outer:'û') (s:Shared) (H:Hp) (E:XK),'奁'->'墷')
  (hv:'墔'):'奼':=P3 F S hb hv
def Df(K:ad)(mg:'b')['坭']:Prop:=∃ fd,'巹'/\mg nm='喦'
structure Cal ['倳'] ['坭'] ['拜']:Prop where
 ex:∃ fd,'巹'/\'兾'/\mg nm='喦'/\'妼'
abbrev xR(ps N:'#')(sp:DC)(b:DS):Prop:=∀ ds m R,'巣'->'判'->b '县' '嚝' m
abbrev nH(nm:Str)(st:Stmt)(ps:'#'):Prop:=∀ (kV doc pm:Value) (an:'ą') (cdv ct:Value) (us:'5'),'兂'->bindArgs '変' '丟'='兽'
def GB['劝']['e']['匪']['堣']{body:DS}(D:'弻')(hb:'凯')(S:'Ԏ')
  (hq:∀ (cdv:Value) (A:Around) (outer:'û') (s:Shared) (H:Hp) (E:XK),'奤'->N.Nodup->PSs (gW cY '˝' '捅').nox 'ϒ' '悲')
  (hv:'啷'):Cal '˝' '偢' 'ě' sp:=by
 show '埔';exact⟨⟨fd,F,F.binds hb,M,Hl F S '妉' hv⟩⟩
def dG{us:'5'}['ª'](h:us.length=n+1):∃ a l,us=a::l/\l.length=n:=by
 cases us with
 | nil=>cases h
 | cons a l=>exact⟨a,l,rfl,Nat.succ.inj h⟩
def Cj['Ȭ'](h:'˨' {pos:=[]}=pure (ps.zip []))['Ӗ'](h0:l0.length=0):'Ч':=by
 obtain rfl:=List.length_eq_zero_iff.mp h0;exact h
def qZ['Ȭ'](h:∀ a0,'˨' {pos:=[a0]}=pure (ps.zip [a0]))['Ӗ'](h0:l0.length=1):'Ч':=by
 show '抜';obtain rfl:=List.length_eq_zero_iff.mp h1;exact h _
def vH['Ȭ'](h:∀ a0 a1,'˨' {pos:=[a0,a1]}=pure (ps.zip [a0,a1]))['Ӗ'](h0:l0.length=2):'Ч':=by
 show '抜';obtain⟨_,l2,rfl,h2⟩:=dG h1;obtain rfl:=List.length_eq_zero_iff.mp h2;exact h _ _
def wR['Ȭ'](h:∀ a0 a1 a2,'˨' {pos:=[a0,a1,a2]}=pure (ps.zip [a0,a1,a2]))['Ӗ'](h0:l0.length=3):'Ч':=by
 show '愎';obtain rfl:=List.length_eq_zero_iff.mp h3;exact h ','
def zM['Ȭ'](h:∀ a0 a1 a2 a3,'˨' {pos:=[a0,a1,a2,a3]}=pure (ps.zip '忻'))['Ӗ'](h0:l0.length=4):'Ч':=by
 show '愿';obtain rfl:=List.length_eq_zero_iff.mp h4;exact h 'O'
def zL['Ȭ'](h:∀ a0 a1 a2 a3 a4,'˨' {pos:=[a0,a1,a2,a3,a4]}=pure (ps.zip '延'))['Ӗ'](h0:l0.length=5):'Ч':=by
 show '懣';obtain rfl:=List.length_eq_zero_iff.mp h5;exact h 'ƽ'
def vU['Ȭ'](h:∀ a0 a1 a2 a3 a4 a5,'˨' {pos:=[a0,a1,a2,a3,a4,a5]}=pure (ps.zip '巺'))['Ӗ'](h0:l0.length=6):'Ч':=by
 show '懣';obtain⟨_,l6,rfl,h6⟩:=dG h5;obtain rfl:=List.length_eq_zero_iff.mp h6;exact h 'ő'
def XF['垀']['堣'](D:'弻')(hb:'凯')(h:'吥'):Cal '˝' '偢' k sp:=by
 show '埔';exact⟨⟨fd,F,F.binds hb,M,SU h⟩⟩
section E
section
variable {X:Cx}{pos p:Pos}{nm:Str}{st:Stmt}{a:Addr}{ps:'#'}{k:Nat}{sp:DC}
def UF['ª']['ǻ']['亽']{ga:DA}(C:'厈')(hr:'ʽ')['Ӕ']['仁']['愣'] :
  '奌':=by
 show '戅';exact Yv C hr M F.kp B '抸'
def iT['ª'](C:'厈')(hr:'ʽ')['埉']:jY X n 'Ê' sp:=by
 show '戅';exact XG C hr F.kp B
section E
section
variable {K:ad}{h:Heap}{mg:'b'}
def tJ(K:ad)(d:Str×Stmt×Addr):Prop:='坂' d.1=some (some (.ref d.2.2))/\∃ fd,Fun K d.1 d.1 d.2.1 d.2.2 fd
def di['劝']{f:Addr}['圍'](n:'坂' nm='儳')(l:'刉'=some ⟨oc,od,'Ϥ' '変',osl⟩)
  (c:'抐' nm=true) (k:'僧'):tJ K (nm,st,f):=⟨n,_,qI l c k⟩
def zi9['Ĵ']{st:Stmt}{a fa:Addr}{y:Str}['堣'](D:Df K mg '˙' st a)(hfa:'峖')(hb:nH '˙' st [y])(C:∀ base:Heap,Cal '˝' '˙' st a [y] k sp) :
  ∃ fd:FuncData,('女')/\∀ base:Heap,'嚆'->'Ԁ'->'傌' k fa fd [y] (LSp K 1 sp):=by
 show '埔';have e:=hfa.symm.trans M
 cases e
 have B:'女':=fun s v=>by
  show '剿';exact .of_eq (hb '坴' [v] rfl)
 refine⟨fd,B,fun base _ _=>?_⟩;obtain⟨fd',F',_,_,C⟩:=(C base).ex;show '剿';obtain⟨oc',od',kV',doc',pm',an',cdv',ct',osl',rfl,lk',hcd'⟩:=F'.ex;rw[lk]at lk'
 cases lk'
 exact C
section E
structure En ['懚']:Prop where
 x:∃ h:Heap,'2'.In h/\'兆'
structure CalM ['倳'] (nm qual:Str) (st:Stmt) ['ǵ'] ['拜']:Prop where
 ex:∃ fd,Fun K '堲' a fd/\'兾'/\'妼'
def nM{l:'#'}(h:decide l.Nodup=true):l.Nodup:='巻'
section
variable {kk:'侭'}{P:Program}{w:World}{mg:'b'}{base:Heap}
def En.m(E:'ԟ'){x:Str}['Г'](h:'婾'='ή'):mg x='y':=let '惞':=E.x;PySem.W.mg_of X G h
def En.z(E:'ԟ'){x:Str}(h:'婾'='Ȕ'):mg x=none:=let '惞':=E.x;PySem.W.mg_none_of X G h
theorem En.d(E:'ԟ')['劝']{f:Addr}(d:tJ '2' (nm,st,f)):Df '2' mg nm st f:=let ⟨n,fd,F⟩:=d;⟨fd,F,E.m n⟩
abbrev FY['懚'](k:Nat)(N:'#')['坭'](body:DS):Prop:=∀ (cdv:Value) (A:Around) (outer:'û') (s:Shared) (H:Hp) (E:XK),'奤'->N.Nodup->PSs (gW cY '劍' '捅').nox 'ϒ' '峗'
end
mutual section G
def aZ(E:'ԟ')['抱']['垀']{sp:DC}(hv:'啷')(hq:FY kk P w mg base k N nm st a body)
  ['愕']
  ['括']:'>' nm st a ps (k+1) sp:=GB (E.d D) hb S hq hv
def ZT(E:'ԟ'){k:Nat}['垀']{sp:DC}(h:'吥')
  ['愕']:'>' nm st a ps k sp:=XF (E.d D) hb h
def xW['抱']{nm qual:Str}['態']{ps:'#'}{sp:DC}['圍'](hv:'啷')
  (hq:∀ (cdv:Value) (A:Around) (outer:'û') (s:Shared) (H:Hp) (E:XK),'奈'->N.Nodup->PSs (gW cY '劍' N qual 'ǥ' f 'Ђ').nox 'ϒ' '峗')
  (l:'2'.lookup f=some ⟨oc,od,'Ϥ' '壷',osl⟩:=by exact rfl) (c:PySem.W.codeIn '2' cdv qual=true:=by kernel_rfl) (q:PySem.W.keepIn '2' 'Ǟ'=true:=by kernel_rfl)
  (hb:∀ (kV doc pm:Value) (an:'ą') (cdv ct:Value) (us:'5'),'兂'->bindArgs '壷' '丟'='兽':=by first | exact '僜' | exact '叔' | exact '叕' | exact '取' | exact '受' | exact '变')
  ['括']:'化' nm qual st f ps (k+1) sp :=
 ⟨_,'四',('四').binds hb,Hl ('四') S '妉' hv⟩
section E
section
variable {X:Cx}{pos p apos:Pos}{nm N qual:Str}{st:Stmt}{a C:Addr}{ps:'#'}{k j n:Nat}{sp:DC}{e o:Expr}{es:'E'}{ga:DA}{fo:DE}
def Xe(C:'厈')(hr:'噤')['慉']['愣'] :
  '奌':=UF C '嗺' '抸' hn
def Nq{f:Str}['勌'](hm:'勽' f a)(F:'妽')(hr:'噤')['仂']['慉']['圱']{pl:'俲'}(ht:'妖'=(do
   let ov <- 'Ȍ'
   '哒'
   let '嚒' <- '嬽'
   '协'):=by rfl) ['埉'] :
  '壔':=by
 show '戥';exact Y4 g c hm F '嗺' B hx ho ha hst hpl ht
def KS['Ϲ']{vs:'²'}{ks:'#'}{f:DE}['Ҭ'](kd:'伭')['ȿ'](hk:'下'=ks:=by rfl)['Ť']:PT X '媾' ('ǅ' (aJ (rN ks f))):=by
 subst hk;exact zb4 hg hm kd he hd
def b8(g:'Ф')(M:Mk X.K C a)(hm:'嶮')(F:'妽')(hr:'噤')(hk:k+1<=j:=by show '垶')['憣']['埉'] :
  '奲':=by
 show '戥';exact zl9 g M hm F '嗺' B hg hdb
section E
section
variable {prog:Program}{w:World}{A:Around}{E:'9'}{s:Shared}
def zl5['ª'](hn:2<=n):'妾'=(1,-1):=by
 show '均';have h2:¬ ('ĉ'-1<1):=')'
 simp;omega
def zl4{sl:Addr}{t t2:Tok}['ª']{Q:'吠'}(hs:'倿' (.int 1 t) .none (.int (-1) t2))(hn:2<=n)
  (h:Q (1,-1,2) s):'単':=by
 show '圀';refine ae (ae ('ҫ' (x:=.int 1 t) rfl (ae (wpAny_field hos hds (x:=.none) rfl (ae (wpAny_field hos hds (x:=.int (-1) t2) rfl (af ?_)))))));refine '嵟';show '<' (if ((-1:Int)==0)=true then _ else _) _ _ s
 rw['Ľ']
 refine '妰';show '<' (match Builtin.Slice.sliceAdjust (some 1) none (-1) (n:Int) with | (lo',hi)=>pure (lo',(-1:Int),Builtin.Slice.slicePlaces lo' hi (-1))) _ _ s
 rw[zl5 hn];exact af h
def GQ['懙']['埻'](hs:'倿' (.int 1 tk) .none (.int (-1) tk2))(hn:2<=items.size)
  (h:'ʏ' {s with heap:=s.heap.push {cls:=.type "tuple",data:=.seq (pick items.toList [1,0]).toArray}}):'傴':=by
 have htake:sizeOk ('媧'):=by
  show('呶').toArray.size<=sizeLine
  have q:=sO items.toList [1,0]
  rw[ay,sizeLine_eq];exact Nat.le_trans q '&'
 show '劀'
 unfold getItem
 show '劕'
 show '劣'
 refine '傿'
 refine ae ('剷'
  (wpAny_call_entry PyProof.Rows.slot_tuple_getitem ht.typeIs entry_tuple_getitem ?_ (args_tuple_getitem _ _)))
 show '偩' _ _ s
 show '劒'
 refine ae (zl4 hs hn ?_);show '<' (if ((1:Int)==0&&(-1:Int)==1&&2==items.size)=true then _ else _) _ _ s
 rw['冀']
 have pe:((List.range 2).filterMap fun(k:Nat)=>items[('Ž'+'Ґ'*'丶').toNat]?)='呶':=by
  show List.filterMap _ [0,1]=_
  unfold pick;rw[List.filterMap_cons,List.filterMap_cons,List.filterMap_cons,List.filterMap_cons,List.filterMap_nil,List.filterMap_nil,Array.getElem?_toList,Array.getElem?_toList];rfl
 rw[pe]
 first
  | exact '傣'
  | exact '卐'
  | exact '卑'
  | exact '单'
section E
section
variable {X:Cx}{a lo st:Expr}{f g h:DE}{pos p2:Pos}
@[simp] def Pz(f g h:DE):DE:=fun 'H'=>'s' fun x m1=>g d m1 fun y m2=>h d m2 fun z m3=>∃ (x0 x1:PyData) (xs:List PyData),x=.dat (.tuple (x0::x1::xs))/\y=.dat (.int 1)/\z=.dat (.int (-1))/\Q (.dat (.tuple [x1,x0])) m3
def DX['抯']:PE X '妕' ('A' (Pz f g h)):=.mk <| by
 show '圎';refine Subscript_ (aM ('傉' (Mid X.K Z m H fun dx m1=>g d m1 fun y m2=>h d m2 fun z m3=>∃ (x0 x1:PyData) (xs:List PyData),dx=.dat (.tuple (x0::x1::xs))/\y=.dat (.int 1)/\z=.dat (.int (-1))/\R (.dat (.tuple [x1,x0])) m3) I
  ⟨Z,d,m,_,ok,rs,hf,fun x m1 v H1 q e1 ok1 rd=>⟨x,m1,rd,q,e1,ok1⟩⟩) '娂')
 show '拌';refine aM (hl 'ō' ('匴' fun dy m2=>h d m2 fun z m3=>∃ (x0 x1:PyData) (xs:List PyData),dx=.dat (.tuple (x0::x1::xs))/\dy=.dat (.int 1)/\z=.dat (.int (-1))/\R (.dat (.tuple [x1,x0])) m3) I1
  '壃') '姐'
 show '懁';refine aM (hs 'ˤ' (fun z H3=>∃ (m3:Mu) (x0 x1:PyData) (xs:'('),dx='儂'/\dy='冹'/\z='É'/\'吖'/\'叄') I2
  ⟨Z,d,m2,_,ok2,'ʦ',q2,fun z m3 u H3 ⟨x0,x1,xs,ex,ey,ez,q⟩ '堰'=>by subst ez;exact⟨m3,x0,x1,xs,ex,ey,rd3.int,q,e3,ok3⟩⟩) fun v3 s3 ⟨z,H3,I3,r3,m3,x0,x1,xs,ex,ey,ez,q3,e3,ok3⟩=>?_
 subst ex ey ez
 cases rd2.int
 show '慠'
 show '慱'
 cases r1
 show '堂'
 rw[List.length_cons,List.length_cons]at hvl;have I4:'ò' H3 {s3 with heap:=s3.heap.push {cls:=.type "slice",data:=.fields #[.int 1 t2,.none,.int (-1) t3]}}:='厤'
 show '憐'
 refine '戛' (GQ ht (Heap.IsSliceOf.new ..) (by rw[ay];omega) ?_) (by with_unfolding_all rfl)
 have zl:'冓'.length<=sizeLine:=by
  have q1:=sO vs [1,0]
  rw[sizeLine_eq];exact Nat.le_trans q1 '&'
 have hpk:RPs 'Һ' [x1,x0] '冓':=hv.pick [1,0]
 refine⟨ 'ϕ','Ͱ' _ (.tup (pick vs [1,0])),'妺',rfl,?_⟩
 ·exact '奱'
 ·have hp:='巴'
  have sm:=cE (o:=.tup '冓') hp
  show '懇'
section E
section
variable {X:Cx}
@[simp] def yQ:DC
 | ['ã'],m,Q=>∃ xs,'冇'/\'咡'
 | _,_,_=>False
def F2:'Ƚ' (.type "list") yQ:=by
 show 'Ϫ';unfold yQ at h
 show 'j'
 ·show '圂';refine uR 'ƺ' ⟨_,vs,rfl,'咠','佭'⟩;show '堀'
  show '埘';exact '卫'
 show '|'
section E
section E.DL
set_option maxHeartbeats 1000000
namespace K01
open PySem PySem.Spec PyProof.Rows L2 DL
def Fo['ӏ']:Int.gcd b ('囝')='嘲':=by
 have h:'囝'='恦':=by
  have:=Int.mul_fdiv_add_fmod a b
  omega
 rw[h];have h2:'恦'=a+b*(-(a.fdiv b)):=by rw[Int.mul_neg];omega
 rw[h2,Int.gcd_add_mul_left_right,Int.gcd_comm]
def Ra['ӏ'](h:b≠0):('囝').natAbs<b.natAbs:=by
 rcases Int.lt_or_gt_of_ne h with h | h
 ·have h1:=Int.neg_fmod_neg a b
  have h2:=Int.fmod_lt_of_pos (-a) '崜'
  have h3:=Int.fmod_nonneg_of_pos (-a) '崜'
  omega
 ·have h2:=Int.fmod_lt_of_pos a h
  have h3:=Int.fmod_nonneg_of_pos a h
  omega
theorem log2_lt{n k:Nat}(h:n<2^k)(hk:0<k):n.log2<k:=by
 by_cases hn:n=0
 ·subst hn;simpa using hk
 ·exact(Nat.log2_lt hn).mpr h
def Bd['Î'](i:Int):Prop:='恧'
def Bd.mono{m n:Nat}{i:Int}(h:Bd m i)(hl:m<=n):'乐':=aj h ('或' hl)
def Bd.mul['憻']:Bd (m+n) (i*j):=by
 show '亡';rw[Int.natAbs_mul,Nat.pow_add];exact Nat.mul_lt_mul'' h g
def Bd.add['懧']:Bd (n+1) (i+j):=by
 show '亡';have:=Int.natAbs_add_le i j
 rw[Nat.pow_succ];omega
def Bd.neg['挻']:Bd n (-i):=by
 show '亡';rw[Int.natAbs_neg];exact h
def Bd.sub['懧']:Bd (n+1) (i-j):=by
 rw[Int.sub_eq_add_neg];exact h.add g.neg
def Bd.log['挻'](hn:0<n):i.natAbs.log2<n:=log2_lt h hn
def Bd.mulOk['憻'](hm:m+n<=134217728):'佩' :=
 IntMulOk.of_le '咒' (intBits_le_iff.mpr g) hm
def fr(t b:Int):PyData:='4' [.int '呷',.int ('儨')]
def tQ{t b:Int}(h:b≠0):'ϓ'<'唩':=by
 have:='懗' h
 omega
def zs6{x g:Int}(hg:0<g)(hd:g∣x):0<x / g↔0<x:=by
 obtain⟨y,rfl⟩:=hd;rw[Int.mul_ediv_cancel_left _ '%']
 show 'ǽ'
 ·intro h;exact '廷'
 ·intro h;exact Int.pos_of_mul_pos_right h hg
def Wh{t b:Int}(hb:b≠0):'奿':=by
 rw[Int.gcd_ediv (Int.gcd_dvd_left t b) (Int.gcd_dvd_right t b)];have:='懗' hb
 rw[Int.natAbs_natCast];exact Nat.div_self this
section
variable {κ:Type}[DecidableEq κ]
theorem Ha{k j:κ}['Ŏ']:∀ kvs:'ř','姝'.find? ('仹')=((kvs.find? '仹').map '僐')
 | []=>rfl
 | kv::r=>by
  have e:('孢').1=kv.1:='徢'
  rw[au,List.find?_cons,List.find?_cons,e]
  cases '啸' with
  | true=>rfl
  | false=>exact Ha r
def wT(kvs:'ř')(k j:κ)['Ⱥ']:bN '佳' j=if j=k then 'ŋ' else 'Ͳ' j:=by
 unfold cM
 split
 ·rename_i ha;unfold bN;rw[Ha]
  cases e:'Ъ' with
  | none =>
   have ne:j≠k:=by
    show 'P';rw[List.find?_eq_none]at e;obtain⟨x,hx,q⟩:='崝';exact e x hx q
   rw[if_neg ne];rfl
  | some kv =>
   have q:='庲'
   have q:kv.1=j:='唹'
   show '傇'
   ·rw['ƫ'];simp[q,c]
   ·rw['Ņ'];simp[q,c]
 ·rename_i ha;have ha:kvs.any ('仸')=false:=Bool.eq_false_iff.mpr ha
  show '抄'
  show '傇'
  ·subst c;have:'Ъ'=none:=by
    rw[List.find?_eq_none];intro x hx;have:=List.any_eq_false.mp ha x hx
    show 'ĵ'
   rw[this,'w'];simp
  ·rw['Ņ']
   cases e:'Ъ' with
   | none=>simp[Ne.symm c]
   | some kv=>simp
def mZ['埢']['Ⱥ']:'佳'.length<='嗥':=by
 unfold cM
 split<;>simp
section E
def Sv(B w e:Nat)['Ⱥ']:Prop:='弼'/\p.leavesShort B=true/\'峙'
def Sv.mono{B w e w' e':Nat}['Ŏ'](h:Sv B w e p)['捤']:Sv B w' e' p:='奃'
section E.K01
namespace K22
open PySem PySem.Spec PyProof.Rows L2 DL K01
abbrev I(i:Int):D:='¦'
def Tp(n:Int)(m:Mu)['ǵ']:Prop:=∃ (ns:'?') (i j t:Int),m a=some (.l ['充','[','ɩ',.int t])/\0<ns.length/\0<=t/\t<=n
def Fed(b:Int)(n:Int)(m m':Mu)['ǵ']:Prop:=Tp (n+b) m' a/\∀ c,'Ȩ'->'尌'
def Kn(m m':Mu):Prop:=∀ c,'尌'
def cJ:'#':='ӡ'
def tn(z:Str):Str:=cJ.getD (12-'刏') ""
def kd['О']:Str:=if k then 'ƥ' else 'ŉ'
end
mutual section G
def WS:Bool->Bool->'#'
 | true,true=>cJ
 | false,false=>'呑'
 | false,true=>'厏'
 | true,false=>'厚'
abbrev cS['Ġ']:PyData:='4' ['侓','惟']
abbrev TH['Д']:PyData:='4' '娃'
def cU(z:Str):Prop:=z.cps.toList.all '對'=true/\z.length<=20
def Nm['ӕ']:Prop:=zs.Nodup/\zs.length<=6/\∀ z∈zs,cU z
abbrev fq(x:'F'):PyData:='儃'
def dC(x:Int):Int:=(if 0<x then 1 else 0)-(if x<0 then 1 else 0)
def aK['交']:Int:=dC '唪'
def row(i j:Int):Str:=if i<0 then (if j<0 then 'ʾ' else if j=0 then 'ȟ' else 'Ƞ') else if i=0 then (if j<0 then 'Ǣ' else if j=0 then 'Ǭ' else 'ȡ') else (if j<0 then 'ǣ' else if j=0 then 'ð' else 'ό')
def wc['戼']:Str:=if s1<0 then 'ę' else if 0<s2 then '®' else if '嚬'/\s1=0 then 'Ȟ' else if '嚬'/\s2=0 then 'ɵ' else row s3 s4
def wd(both:Bool)(a0 a1 b0 b1:'F'):Str:=wc both ('ɥ') ('ɦ') ('ɧ') '侹'
structure Tm ['Ⱥ'] ['О'] ['交']:Prop where
 eq:p=if k then '4' [fq x,fq y] else fq x
 px:'Ϩ'
 py:0<y.2
 st:'ǫ'->'伿'
 pt:k=false->y=x
 b1:'刪'
 b2:'别'
 b3:'刬'
 b4:'刭'
def WT:List (Str× '?'):=[('ę','忽'),('Ȟ','恨'),('ʾ','恩'),('Ǣ','惠'),('ǣ','惡'),('ð',[1,-1,1,0]),('Ǭ',[0,-1,1,0]),('ȟ','惢'),('Ƞ','惣'),('ȡ',[0,-1,1,1]),('ό',[1,-1,1,1]),('ɵ',[1,0,1,1]),('®',[1,1,1,1])]
def w4(z:Str):'?':=((WT.find? fun kv=>decide (kv.1=z)).map 'Ư').getD []
def WB['Ġ'](z:Str):'?':=match k,l with
 | true,true=>w4 z
 | false,false=>'乑'.take 1
 | _,_=>['乑'.getD 0 0,'乑'.getD 3 0]
def nR:DC:=fun '*'=>∃ a b:Int,'恪'/\R (I ('嘲')) m
def nZ:DC:=fun '*'=>∃ t b:Int,'恫'/\b≠0/\'ʋ' b/\R (.dat (if 0<b then fr t b else fr (-t) (-b))) m
abbrev T2['ӏ']:D:=.dat ('咓')
def rE:DC:=fun '*'=>∃ a b c d:Int,ds=[T2 a b,T2 c d]/\0<b/\0<d/\Bd 900 a/\Bd 900 b/\Bd 900 c/\Bd 900 d/\R (.dat (fr (a*d-c*b) (b*d))) m
def lV:DC:=fun '*'=>∃ x y:'F',ds='仱'/\'惥'/\'惦'/\'惧'/\'惨'/\R (.dat ('N' (decide ('伿')))) m
def kO:DC:=fun '*'=>∃ k l,ds=['ѝ']/\R '嫮' m
def iA:DC:=fun '*'=>∃ k l z,'孀'/\'ң'/\R '叅' m
def lF:DC:=fun '*'=>∃ p k x y,ds=['Ô']/\'侺'/\'峚'
def rF:DC:=fun '*'=>∃ x y:'F',ds='仱'/\'惥'/\'惦'/\'惧'/\'惨'/\'廸'
def yS:DC:=fun '*'=>∃ p q k l a0 a1 b0 b1,ds=['Ô','乌']/\'夏'
def TmAll:':'->'('->Prop
 | [],[]=>True
 | 'ĳ','ɰ'=>'崞'/\'´'
 | _,_=>False
def ends:PyData->Bool×('F')×('F')
 | '4' ['咓','4' [.int c,.int d]]=>(true,(a,b),(c,d))
 | '咓'=>(false,(a,b),(a,b))
 | _=>(false,'Ƴ','Ƴ')
def dB(p q:PyData):Str:=wd ('囟'.1&&'因'.1) '丙' 'ѣ' '因'.2.1 '因'.2.2
def tT:DC:=fun '*'=>∃ ts:':','唫'/\'Ŷ'/\R (.dat ('{' (ts.map '弽'))) m
def oI:DC:=fun '*'=>∃ (ts:':') (ps:'(') (z:Str) (p:PyData),ds=['į','ɒ','Ŝ']/\'Ŷ'/\z∈ 'Ɩ'/\ps['仺']?='ŋ'/\R 'ƨ' m
def pB:DC:=fun '*'=>∃ (ts:':') (ps:'(') (a b:Str) (p q:PyData) (k l:Bool) (a0 a1 b0 b1:'F'),ds='奩'/\'Ŷ'/\'Μ'/\'伪'/\ps['儩' a]?='ŋ'/\ps['儩' b]?='Ǫ'/\'夏'
def FN(ns:'#')(ps:'(')(z:Str):PyData:=ps.getD (ns.idxOf z) '$'
abbrev FT['ҳ'](z:Str):PyData:=FN 'Ԯ' ps z
abbrev bA(x:'o'):PyData:='4' ['囡',.int '崟']
def bI['ҳ'](x:'o'):'F':=if x.2 then '峛'.2 else '峛'.1
def aQ:':'->':'
 | []=>[]
 | 'ĳ'=>'ο'::((if t.2 then ['丨'] else [])++'ɶ')
def cZ(t u n:'F')(s:Bool):Bool:=decide (aK '呒' n<0)||(decide (aK '呒' n=0) && !s)
def sM:DC:=fun '*'=>∃ ts ps x,ds=['į','ɒ','侔']/\'·'/\'´'/\'哦'/\∀ m','Ì'->R (.dat '唬') m'
inductive Row where
 | may (a b:Str) (ws:'#')
 | gap ['ӂ'] (n:'F') (s:Bool)
def bX:'惩'
 | 'ʺ'=>'4' ['ɫ','ҝ','儻']
 | 'ι'=>'孫'
def Lo['Д']['ӂ'](n:'F'):Prop:='Ʀ'/\'ʿ'/\0<n.2/\Bd 200 n.1/\Bd 200 n.2
def vJ['Д']:Row->Prop
 | 'ʺ'=>'Μ'/\'伪'/\'δ'/\'庳'
 | '恮'=>'惪'
def wM:'嚭'
 | .may _ _ ws=>'徣'
 | 'ι'=>'ȋ'&&'嫀'
def has['ҳ']:'嚭'
 | 'ʺ'=>decide ('Ӫ')
 | 'ι'=>'台'
def cnt['О']:Int:='幓'
def sg['Ġ'](z:Str)(x y:Int):Int:='ς'.getD (x*cnt l+y).toNat 0
def iD:'#':=['ę','Ȟ','ʾ','Ǣ','ǣ','ð','Ǭ']
def kG['ҳ'](kvs:'ǐ'):Prop:=∀ x∈ 'ɶ','Ͳ' [.inr x.1,.inl (if x.2 then 1 else 0)]=some '唬'
def uY:DC:=fun '*'=>∃ ts ps x y n s,ds=['į','ɒ',.dat ('孫')]/\'·'/\'´'/\'惪'/\∀ m','Ì'->R '姢' m'
def mM:DC:=fun '*'=>∃ r,ds=['侕']/\R (.dat ('N' (match r with | .may ..=>true | .gap ..=>false))) m
def wV:DC:=fun '*'=>∃ ts r,ds=['侕']/\'·'/\vJ ts r/\R (.dat ('N' (wM r))) m
def uX:DC:=fun '*'=>∃ ts ps r,ds=['į','ɒ','侕']/\'·'/\'´'/\vJ ts r/\'姣'
def xM:DC:=fun '*'=>∃ ns:'?',ds=['仭']/\'忾'/\∀ a m',Tp 0 m' a->R 'Ʃ' m'
def bU:DC:=fun '*'=>∃ (a:Addr) (n L:Int),ds=['Õ',I n]/\0<n/\Bd 100 n/\L<=10000000/\'ύ'/\∀ (r:Int) m',0<=r->r<n->Fed 1 'ӄ'->'噥'
def lX:DC:=kO
def uV:DC:='壩'
def jN:DC:=fun '*'=>∃ k:Bool,ds=[.dat ('侓')]/\R (.dat ('{' (('岧').map .int))) m
def qK:DC:=fun '*'=>∃ (ts:':') (a b:Str) (k l:Bool),ds=['į',.dat '岨']/\'墖'
def xY:DC:=fun '*'=>∃ (a:Addr) (k l:Bool) (L:Int),ds=['Õ','ѝ']/\'ѷ'/\'ύ'/\∀ zs m',List.Sublist zs 'Ҍ'->'冔'->R ('Я') m'
def lQ:DC:=fun '*'=>∃ (a:Addr) (ts:':') (L:Int),ds='優'/\'佷'/\'Ŷ'/\'ѷ'/\'ύ'/\∀ (x y:Str) (k l:Bool) m',(x,k)∈ts->(y,l)∈ts->'徤'->'嫗'
def pK:DC:=fun '*'=>∃ ts:':','唫'/\'Ŷ'/\∀ c m','俸'->'Ì'->m' c=some (.l ('冪'))->'怀'
def mR:Nat->DC
 | 0=>'ԧ'
 | n+1=>fun '*'=>∃ (k l:Bool) (z:Str) (x y:Int),ds='嫁'/\'ǝ'/\(z∈iD\/1<=n)/\0<=x/\'剥'/\0<=y/\y<cnt l/\'媑'
def As:DC:=fun '*'=>∃ k l z,'孀'/\'ǝ'/\∀ m','Ì'->R '叅' m'
def rZ:DC:=fun '*'=>∃ t b:Int,'恫'/\0<b/\'ʋ' b/\R (.dat (fr t b)) m
end
mutual section G
def mT:DC:=fun '*'=>∃ (x y:'F') (s:Int) (p q:Nat),ds=['嘳','惤',I s]/\'Ϩ'/\0<y.2/\(s=1\/s=-1)/\p+q<=1900/\Bd p x.1/\Bd p x.2/\Bd q y.1/\Bd q y.2/\R (.dat (fr ('ƭ'+s*y.1*x.2) '串')) m
def Dn(n:'F'):Prop:=0<n.2/\n.2∣6
def mE(ps:'('):Prop:=∀ p∈ps,∀ e∈['丙','ѣ'],Dn e/\-100<=e.1/\e.1<=100
def nF:DC:=fun '*'=>∃ (a:Addr) (L:Int),ds='俶'/\'ѷ'/\'ύ'/\∀ (x:'F') m','Ϩ'->'唭'->Bd 20 x.1->Bd 20 x.2->Dn x->-4<=x.1->x.1<=4->'徤'->'幔'
def vP:DC:=fun '*'=>∃ (a:Addr) (ts:':') (L:Int),ds='優'/\'·'/\'侻'/\'ύ'/\∀ ps m','´'->mE ps->Fed 40 'ӄ'->R 'т' m'
def vR:DC:=fun '*'=>∃ ts ps,ds=['į','ɒ']/\'·'/\'´'/\∀ c m' kvs,'俸'->'Ì'->'伛'->'Ѥ'->'怀'
def tR:DC:=fun '*'=>∃ (c:Addr) (ts:':') (ps:'(') (kvs:'ǐ') (x y:'o'),ds='孁'/\'Ԡ'/\'´'/\'Ѥ'/\'Ʀ'/\'ʿ'/\'媩'
def tX:DC:=fun '*'=>∃ (c:Addr) (ts:':') (ps:'(') (kvs:'ǐ') (a b:Str),ds=['į','ã','ј','љ']/\'·'/\'Ԡ'/\'´'/\'Ѥ'/\'Μ'/\'伪'/\∀ m','Ì'->R '娳' m'
def nG:DC:=fun '*'=>∃ ns:'?',ds=['仭']/\'忾'/\∀ m',R ('伦') m'
def bK['О']:Nat:='幓'
abbrev dM['乲']:PyData:='4' ['侓','惟',.str (kd n)]
def oD:'¡'->PyData
 | none=>'$'
 | 'š'=>'['
def gP['ӏ']:'¡':=if a=0 then some b else if b=0\/b=a then some a else none
def bL:'冕'->'¡'
 | []=>none
 | (a,b)::r=>match gP a b with
  | 'š'=>'š'
  | none=>bL r
def iG['勝'](x y:Nat):'¡':=bL ((cD 'ς' '嵦' '屸').zip (pick '刐' (cA '庴' y '倛')))
def FW['勝']:'Ν':=('峜' '卶').flatten
def eZ:'Ν'->'?'->Bool
 | 'š'::r,w::ws=>decide (i=w)&&eZ r ws
 | none::r,_::ws=>eZ r ws
 | _,_=>true
def BW['勝']:'#':='弿' '叙'
def uC:DC:=fun '*'=>∃ a b:Int,'恪'/\R (.dat (oD (gP a b))) m
def sH:DC:=fun '*'=>∃ xs ys:'?',ds=['導','小']/\R (.dat (oD (bL '惬'))) m
def xS:DC:=fun '*'=>∃ k l n z w,'姵'/\'ǝ'/\'侼'/\R '媪' m
def pP:DC:=fun '*'=>∃ (fs:'Ν') (ws:'?'),ds=[.dat ('{' '惭'),.dat ('4' (ws.map .int))]/\fs.length<=4/\ws.length<=4/\'寈'
def Af:DC:=fun '*'=>∃ k l n z w,'姵'/\'ǝ'/\'侼'/\R ('仑') m
def BM['乲'](zs ws:'#'):'#':='弿' fun u=>'妱'
def Kq(kvs:'е'):Prop:=∀ ks x,'俣'='x'->∃ k l n z w,ks='·'/\x='仑'
structure Bh (m:Mu) (a c1 c2:Addr) (q:Nat):Prop where
 ob:m a='奍'
 t1:∃ kvs,m c1='丏'/\kvs.length<=q/\Kq kvs
 n1:a≠c1
def vA:DC:=fun '*'=>∃ a,ds='俶'/\m a=some '庵'/\∀ c1 c2 m',m c1=none->m c2=none->(∀ b,'˕'->b≠c1->b≠c2->'团')->'堳' 0->R 'Ѣ' m'
def uK:DC:=fun '*'=>∃ a c1 c2 q k l n z w,ds=['Õ','佀','Ŝ','佞']/\'ǝ'/\'侼'/\Bh m '五' q/\q<=500/\∀ m','堳' (q+1)->'岩'->R ('仑') m'
def xN:DC:=fun '*'=>∃ a c1 c2 k l n zs ws,ds=['Õ','佀','Я','吧']/\'怃'/\'δ'/\'峞'/\'峟'/\Bh m '五' 0 /\
 ∀ m',('厢')->'姶'
def zJ:DC:=fun '*'=>∃ k l n zs ws,ds=['佀','Я','吧']/\'怃'/\'δ'/\'峞'/\'峟' /\
 ∀ m','Ì'->'姶'
def yB:DC:='壩'
def yZ:DC:=fun '*'=>∃ zs:'#',ds=['Я']/\'巼'/\zs.length<=100/\R (.dat ('4' ((zs.reverse.map tn).map .str))) m
def dI['Ġ'](x y:Nat)(z:Str):Int:='ς'.getD ('団') 0
def sP:DC:=fun '*'=>∃ (k l:Bool) (z:Str) (x y:Nat),ds=['ѝ','Ŝ',I '丿',I (y:Int)]/\'ǝ'/\x<bK k/\y<bK l/\R (I '徦') m
def rX:DC:=fun '*'=>∃ i:Int,ds=[I i]/\R ('伦') m
def vN:DC:=fun '*'=>∃ x y:'F',ds='仱'/\Dn x/\Dn y/\Bd 600 x.1/\Bd 600 y.1/\R (.dat (fr ('佁') '串')) m
def mF:DC:=fun '*'=>∃ (ts:':') (a b:Str) (k l:Bool),'娟'/\'墖'
def yF:DC:=fun '*'=>∃ (ts:':') (a b:Str),'娟'/\'Ŷ'/\R (.dat ('N' '壡')) m
def vG:DC:=fun '*'=>∃ ts:':','唫'/\'Ŷ'/\R '叺' m
def rV:DC:=fun '*'=>∃ (ts:':') (x:'o'),ds=['į','侔']/\'·'/\'乒'/\R (.dat ('N' ('唉'))) m
def RowO['Д'](M:Int):Row->Prop
 | 'ʺ'=>∃ k l,'Ė'/\'Ѷ'/\'δ'/\'咮'
 | '恮'=>'Ʀ'/\'ʿ'/\Dn n/\-M<=n.1/\n.1<=M
def SoR['ҳ'](M:Int)(r:Row):Prop:='丣'/\'惫'=true
def eQ:'惩'
 | 'ʺ'=>'4' [.str "may",'ɫ','ҝ','儻']
 | 'ι'=>'4' ['噦',bA x,bA y,fq n,'N' s]
structure Wr ['ҳ'] (says rows:'ņ') (M:Int):Prop where
 nm:'·'
 tm:'´'
 s:∀ r∈says,'冺'
 r:∀ r∈rows,'冺'
 sl:says.length<=7
 rl:'彀'
 m0:1<=M
 m1:M<=2^100
inductive St where
 | told (i:Int)
 | any (a b:Str)
 | long (a:Str)
 | turned (i:Int)
 | two (w:Str) (i j:Int)
 | ends (i:Int) ['ӂ']
def eJ:St->PyData
 | .told i=>'4' ['嘵','[']
 | '削'=>'4' ['刑','ɫ','ҝ']
 | '剦'=>'4' [.str 'ɭ','ɫ']
 | '刮'=>'4' [.str 'ż','[']
 | .two w i j=>'4' [.str w,'[','ɩ']
 | '凱'=>'4' [.str 'ð','[',bA x,bA y]
def Aa:St->Prop
 | .told _=>True
 | '削'=>cU a/\cU b
 | '剦'=>cU a
 | .turned _=>True
 | .two w _ _=>'历'
 | .ends _ x y=>'徧'
def X5['ҳ'](M:Int)(m:Mu)(R:DK):Prop:=(∀ m','Ì'->R 'Ѣ' m')/\∀ r m','亓' (12*M) r->'Ì'->R ('侕') m'
def RF(ok:St->Prop):DC:=fun '*'=>∃ ts ps says rows M st,ds=['婝','吽','息']/\'儼'/\Aa st/\ok st/\X5 ts ps M m R
def nO:DC:=fun '*'=>∃ i n:Int,ds=[I i,I n]/\R (.dat ('N' ('唊'))) m
def sX:'嚭'
 | .may ..=>true
 | .gap ..=>false
def eM(b:Bool)(rows:'ņ')(i:Int):Option Row:=if '休' then ('徨').filter fun r=>sX r==b else none
def oR:Option Row->PyData
 | none=>'$'
 | 'Ҥ'=>bX r
def iL:DC:=fun '*'=>∃ rows i,'嫯'/\R (.dat (oR ('七'))) m
def mU:DC:=fun '*'=>∃ rows i,'嫯'/\R (.dat (oR ('彁'))) m
def iQ(a b:Str)['ӂ']:Bool:=(decide (x.1=a)&&decide (y.1=b))||(decide (x.1=b)&&decide (y.1=a))
def qU:DC:=fun '*'=>∃ (ts:':') (a b:Str) (ws:'#') (x y:'o'),'央'/\'·'/\cU a/\cU b/\'乒'/\cU y.1/\R (.dat ('N' '妣')) m
def eN(b:Bool):Nat:='哴'
def sJ['扂']:'?':=if x.1=a then ws.map fun z=>'吾' else ws.map fun z=>'吨'
def sS:DC:=fun '*'=>∃ (ts:':') (a b:Str) (ws:'#') (k l:Bool) (x y:'o'),'央'/\'·'/\'Ė'/\'Ѷ'/\'δ'/\('咮')/\'Ʀ'/\'ʿ'/\'侽'=true/\∀ m','Ì'->R (.dat ('{' (('彂').map .int))) m'
def pW:DC:=RF fun st=>∃ i,st=.told i
def qL:DC:=RF fun st=>∃ a b,st='削'
def qM:DC:=RF fun st=>∃ a,st='剦'
def pI:DC:=RF fun st=>∃ i,st='刮'
end
mutual section G
def rJ:DC:=RF fun st=>∃ i j,st='庶'
def sB:DC:=RF fun st=>∃ i j,st='彃'
def pH:DC:=RF fun st=>∃ i x y,st='凱'
def pC:DC:=RF fun st=>∃ i j,st='售'
def pZ:DC:=RF fun st=>∃ i j,st='喙'
def xO:DC:=RF fun _=>True
def xT:DC:=fun '*'=>∃ (a:Addr) (L:Int),ds=['Õ',I 2,I 4]/\'ѷ'/\'ύ'/\∀ (ts:':') m','佷'->'嗼'->'·'->'冔'->R ('į') m'
def zF:DC:=fun '*'=>∃ (a c:Addr) (ts:':') (ps:'(') (kvs:'ǐ') (L:Int),ds=['Õ','į','ã']/\'·'/\'佷'/\'嗼'/\'Ȩ'/\'Ԡ'/\'´'/\mE ps/\'Ѥ'/\'侻'/\'ύ'/\∀ r m','康'->Fed 50 'ӄ'->R (.dat (eQ r)) m'
def WD['Д'](says:'ņ'):'¿':=[(.inr 'Ĉ',TH ts),(.inr '嚮','哄')]
def uE:DC:=fun '*'=>∃ (a w c:Addr) (ts:':') (ps:'(') (says rows:'ņ') (M L:Int),ds=['Õ',.cel w,'ã']/\m w='咔'/\m c='呸'/\'佷'/\'嗼'/\'儼'/\a≠w/\a≠c/\'侻'/\'ύ'/\∀ st m',Aa st->'冔'->R ('息') m'
def xD:DC:=fun '*'=>∃ (c:Addr) (ts:':') (ps:'(') (kvs:'ǐ') (M:Int) (r:Row),ds=['į','ã','侕']/\'·'/\'Ԡ'/\'´'/\'Ѥ'/\'丣'/\M<=2^120/\'姣'
open PySem PySem.Spec PyProof.Rows L2 DL
-- ranks: is_whole 1,common 1,fraction 2,plus 3,y9 3,is_below 1,words_of 1,turned 1,turned_may 2,ways_by 1,how_ends 2,is_point 1,way_of 2,word_of 3,forced_way 1,forced_by 2,forced_ways 3,go_with 1,behind_words 4,Behinds___init__ 1,Behinds_words 5,Behinds_gathered 6,behind_mays 7,names_of 1,kinds_of 1,are_two_names 2,ends_of 1,is_end 2,times_of 2,time_of 3,word_between 4,is_gap_met 4,is_may_row 1,is_fault 2,has_row 5,is_place 2,may_row_at 3,gap_row_at 3,lie_across 3,ways_across 3,told_row 3,any_row 3,long_row 1,turned_row 4,behind_row 8,both_row 4,ends_row 4,strike_row 4,add_row 4,row_of 9,_law_feed 1,_law_draw 1,_law_things 2,_law_words 1,_law_back 2,_law_sign 6,_law_sides 1,_law_all_signs 7,_law_kinds 1,_law_all_ends 2,_law_lowest 1,_law_added 2,_law_time 2,_law_telling 3,_law_clock 2,_law_order 1,_law_word 8,_law_may 2,_law_two 2,_law_some_step 3,_law_saying 9,_law_had 9,law 10
def aX(i:Nat):Stmt:=PySem.Challenge.pw_whens_k22_whole_rows_that_come_are_so.main.body.getD i ('哕')
abbrev zS:'с':=[('ę','4' ['É','É','É','É']),('Ȟ','4' ['É','É','ώ','É']),('ʾ','4' ['É','É','Ó','É']),('Ǣ','4' ['ώ','É','Ó','É']),('ǣ','4' ['Ó','É','Ó','É']),('ð','4' ['Ó','É','Ó','ώ']),('Ǭ','4' ['ώ','É','Ó','ώ']),('ȟ','4' ['É','É','Ó','ώ']),('Ƞ','4' ['É','É','Ó','Ó']),('ȡ','4' ['ώ','É','Ó','Ó']),('ό','4' ['Ó','É','Ó','Ó']),('ɵ','4' ['Ó','ώ','Ó','Ó']),('®','4' ['Ó','Ó','Ó','Ó'])]
abbrev iB:'с':='婱'
abbrev wA:'с':='塎'
abbrev Hv:'儒':=[('其','4' ('动' ["ahead","same","behind"])),('伒','4' ('动' ["ahead","begins","within","ends","behind"])),('兑','4' ('动' ["ahead","ended","holds","begun","behind"]))]
abbrev NJ:Stmt:=aX 1
abbrev zs2:'#':=['乀']
abbrev Hr:'#':=['乀']
def QN:DS:=(aE (aN (gS (kZ '7' 'ɲ') (mX (kZ '7' '乍')))) aH)
abbrev za7:Stmt:=aX 2
abbrev QB:'#':='Ă'
abbrev Gj:'#':='Ă'
def Jc:DS:=(aE (rO 0 1 ('õ' (aB (aD fB (aA 0) (aA 1)) aF))) aH)
def Ck:DS:=(aE (aN '崠') aH)
def To:DS:=(aE (wG (aJ (aD eO ';' 'V')) Jc) Ck)
abbrev LW:Stmt:=aX 3
abbrev US:'#':='屹'
abbrev Bc:'#':=["top","bottom"]
def wN:DS:='壪'
def yM:DS:=(aE (bH (aJ (aD eV ';' 'V')) (aE (aO 2 (cT 'I')) aH) aH) wN)
def wC:DS:=(aE (aO 2 (aI 2 nR '仮')) yM)
abbrev DR:Stmt:=aX 4
abbrev ze0:'#':='Ă'
abbrev Tk:'#':='Ă'
def JB:DS:=(aE (aN (aI 2 nZ (aB ('v' (aD bZ (aD aG (aA 0) (aC (.int 0))) (aD aG (aA 1) (aC (.int 1)))) (aD bZ (aD aG (aA 1) (aC (.int 0))) (aD aG (aA 0) (aC (.int 1))))) '卢'))) aH)
abbrev Wv:Stmt:=aX 5
abbrev Zo:'#':='Ă'
abbrev Ma:'#':='Ă'
def Qe:DS:=(aE (aN (aI 2 nZ (aB (aD fI '傮' '卬') '卢'))) aH)
abbrev Wc:Stmt:=aX 6
abbrev JD:'#':='Ă'
abbrev My:'#':='Ă'
def Dp:DS:=(aE (aN (aD eV '傮' '卬')) aH)
abbrev Ua:Stmt:=aX 12
abbrev ML:'#':=['Ŋ']
abbrev Hc:'#':=['Ŋ']
def Mb:DS:=(aE (aN (vV Hv '7' '塕')) aH)
abbrev SY:Stmt:=aX 13
abbrev TN:'#':=['˒']
abbrev Cy:'#':=['˒']
def Nu:DS:=(aE (aN ('m' (aC (.tuple (List.map PyData.str ["ahead","meets","overlaps","begins","within","ends","same","ended","holds","begun","lapped","met","behind"]))) (aD fI (aC (.int 12)) (vZ ["ahead","meets","overlaps","begins","within","ends","same","ended","holds","begun","lapped","met","behind"] (aA 0))))) aH)
abbrev Ur:Stmt:=aX 14
abbrev zr5:'#':=["may"]
abbrev Ng:'#':=["may"]
def Pn:DS:=(aE (aN (bG fJ (aB (cI [none] (uZ '7') 'ƅ' (aI 1 yB 'ƕ')) aF))) aH)
abbrev UK:Stmt:=aX 15
abbrev GZ:'#':='峡'
abbrev Fg:'#':=['Ŋ','˒']
def Gb:DS:=(aE (aN (aR (aB 'ʙ' (aB '寰' aF)))) aH)
def Hq:DS:=(aE (bH '壙' (aE (aN (dQ 'I' eD '伜')) aH) aH) Gb)
def Cd:DS:=(aE (bH '壊' '哧' aH) Hq)
def Jo:DS:=(aE (aO 2 (gL zS ';')) Cd)
end
mutual section G
abbrev zs0:Stmt:=aX 16
abbrev MG:'#':='呪'
abbrev Fe:'#':='呪'
def D5:DS:=(aE (aN ('m' (aI 2 iA (aB (aA 0) (aB (aA 1) aF))) (aD bT (aD bZ (aA 2) (gL iB (aD aG (aA 0) (aC (.int 1))))) (aA 3)))) aH)
abbrev Ze:Stmt:=aX 17
abbrev ZJ:'#':='嚯'
abbrev Dd:'#':='嚯'
def Tn:DS:=(aE (aN (mX (kZ 'ǌ' 'â'))) aH)
abbrev ED:Stmt:=aX 18
abbrev zd6:'#':='Ă'
abbrev Mw:'#':='Ă'
def Nz:DS:=(aE (aN 'V') aH)
def Hi:DS:=(aE (bH (aJ (aI 2 lV '吿')) (aE (aN 't') aH) aH) Nz)
def Lv:DS:=(aE (bH (aJ (aI 2 lV '仮')) (aE (aN 'Ű') aH) aH) Hi)
abbrev Vc:Stmt:=aX 19
abbrev zr8:'#':=['ȩ','Ȣ','Ŋ',"ones",'囤','乓']
abbrev Kb:'#':='Ă'
def wB:DS:=(aE (aN ('m' (cI [none,some 2,some 5] (bO (aI 1 kO (aB (aA 2) aF))) (gN 0) (aJ (aD bJ (aI 2 iA (aB (aA 1) (aB (aA 0) aF))) (aA 2))) (aA 0)) (aC (.int 0)))) aH)
def OH:DS:=(aE (aO 5 (bG fJ (aB (lR [none,none,some 4] (bO 'M') 'ƅ' '嘶' (gN 1) cR (aI 2 rF '仮')) aF))) wB)
def NN:DS:=(aE (aO 4 (fG '寉' (aR 'Ϊ') ';')) OH)
def V5:DS:=(aE (aO 3 (fG '寊' (aR 'ƕ') '7')) NN)
def Va:DS:=(aE (aO 2 (aR (aB (fG '寊' 'Δ' 'Ώ') (aB (fG '寉' 'Δ' 'Ώ') aF)))) V5)
abbrev AH:Stmt:=aX 21
abbrev SQ:'#':='Ă'
abbrev Lz:'#':='Ă'
def VU:DS:='Ļ'
def Ju:DS:=(aE (bH (dA (aJ ('¾' (aA 1) (aC (.int 0)))) (aJ ('¾' (aA 1) (aA 0)))) (aE (aN '7') aH) aH) VU)
def Bw:DS:=(aE (bH (aJ ('ҽ' (aC (.int 0)))) '巽' aH) Ju)
abbrev za8:Stmt:=aX 22
abbrev QY:'#':='嫂'
abbrev Bq:'#':=["ones",'囤']
def ze4:DS:=(aE (bH (aJ (aD mL 'g' 'ɛ')) '巾' aH) aH)
def uD:DS:=(aE (aO 4 (aI 2 uC '呀')) ze4)
def xE:DS:='Ļ'
def Bn:DS:=(aE (cN '幖' 'ӫ' uD) xE)
abbrev J5:Stmt:=aX 23
abbrev MN:'#':=['Ŋ','ȩ','Ȣ',"first","second","third","many",'ɮ',"left","right"]
abbrev Rx:'#':='任'
def Jf:DS:=(aE (aN (lR [none,none,some 6,some 7,some 8,some 9] (gA (gL iB 'M')) 'ƅ' (gA 'M') (gN 1) cR (aI 2 sH (aB (dQ 'g' '屆' (dH ('Ý' (aD bT (aA 0) (aC (.int 1))) (aA 2)))) '嬤')))) aH)
def V6:DS:=(aE (aO 9 (aI 2 iA (aB (aR '呁') 'Ϋ'))) Jf)
def x5:DS:=(aE (aO 8 (aI 2 iA (aB (aR '億') 'Ϊ'))) V6)
def Iz:DS:=(aE (aO 7 (gL iB 'z')) x5)
def Vq:DS:=(aE (aO 6 (gL iB 'g')) Iz)
def Zs:DS:=(aE '妀' Vq)
abbrev zv8:Stmt:=aX 24
abbrev KC:'#':='宙'
abbrev Il:'#':=['囥','乓']
def tD:DS:=(aE (bH (nU (aJ (aD mL 'I' 'ɛ')) (aJ (aD eO '北'))) '亮') aH)
def pM:DS:='定'
def Nl:DS:=(aE (cN (Aq '˭') 'ӫ' tD) pM)
abbrev GU:Stmt:=aX 25
abbrev VN:'#':=['Ŋ','ȩ','Ȣ',"first","second","third",'ð','囥']
abbrev Ds:'#':='任'
def KB:DS:=(aE (aN (bG fJ (aB (cI [none,some 6,some 7] (bO (aI 1 kO '丅')) 'l' '壿' '7') aF))) aH)
def YZ:DS:=(aE (aO 7 (aI 3 xS '仓')) KB)
def F8:DS:=(aE (aO 6 (aR '屈')) YZ)
def Jh:DS:=(aE '妀' F8)
abbrev ze8:Stmt:='堩' 0
abbrev R3:'#':='囦'
abbrev Ml:'#':='囦'
def Sg:DS:=(aE (zB 'İ' '丳' '7' xX) aH)
def Kp:DS:=(aE (zB 'İ' 'Ѹ' '7' xX) Sg)
abbrev zn2:Stmt:='堩' 1
abbrev BN:'#':='友'
end
mutual section G
abbrev Oh:'#':='宛'
def yJ:DS:=(aE (aN (wE '叱' 'g')) aH)
def Te:DS:=(aE (bH (aJ (aD qG 'g' '叱')) (aE (uJ '叱' 'g' (aI 3 Af '媫')) aH) aH) yJ)
def Mc:DS:=(aE (aO 4 (aR '媫')) Te)
abbrev zn6:Stmt:='堩' 3
abbrev zm3:'#':=["self",'Ŋ','ȩ','Ȣ','ɨ',"found",'˒',"next_word","third"]
abbrev Dv:'#':='宛'
def Ql:DS:=(aE (Js 'z' 'Ǯ' '具') aH)
def Gg:DS:=(aE (cN (bO (lM 'İ' 'ɨ' 4 uK '7' ('õ' (aB (aA 6) (aB (aA 7) aF))))) (gN 8) Ql) aH)
def Cs:DS:=(aE (bH (aJ ('¾' (bG yE (aB (aA 5) aF)) (bG cC (aB (aA 4) aF)))) '巾' aH) Gg)
def Cz:DS:=(aE (cN (bO 'M') '乕' Cs) aH)
def Iv:DS:=(aE (aN (bG fJ (aB (cI [none,some 5] (bO 'g') 'l' (aJ (aD tW '˭')) '7') aF))) aH)
def Hu:DS:=(aE (cN '嘶' '倠' Cz) Iv)
def XR:DS:=(aE (aO 5 Nf) Hu)
def Pf:DS:=(aE (aO 4 (aI 1 kO (aB (aR (aB '仡' (aB '寱' aF))) aF))) XR)
abbrev P5:Stmt:=aX 27
abbrev g7:'#':='任'
abbrev Dq:'#':='任'
def Kg:DS:=(aE (aN (lM 'İ' '丩' 4 xN (oV 'İ' 1 vA aF) '仓')) aH)
abbrev P7:Stmt:=aX 29
abbrev V0:'#':=['Ĉ']
abbrev Ts:'#':=['Ĉ']
def Ox:DS:=(aE (aN (cI [none,none] '嘷' '仚' cR '7')) aH)
abbrev g9:Stmt:=aX 30
abbrev ZG:'#':='屉'
abbrev He:'#':='幘'
def Lw:DS:=(aE (aN (aR (aB (iU 'M' ';') (aB (iU 'M' 'I') aF)))) aH)
def Md:DS:=(aE (aO 3 '嘸') Lw)
abbrev zh1:Stmt:=aX 31
abbrev AF:'#':='届'
abbrev Mx:'#':='幘'
def CS:DS:=(aE (aN (gS (aD gK ';' 'M') (gS (aD gK '北') (aD eO '匘')))) aH)
def FE:DS:=(aE (aO 3 '岪') CS)
abbrev U6:Stmt:=aX 32
abbrev SA:'#':=['Ĉ']
abbrev Tw:'#':=['Ĉ']
def Lf:DS:=(aE (aN (lR [none,none,none] '嘷' '仚' cR '巿' '挅')) aH)
abbrev VZ:Stmt:=aX 33
abbrev S8:'#':='唋'
abbrev Og:'#':='唋'
def WU:DS:=(aE (aN (gS (aI 1 rX '双') (aD iW ';' (aI 1 vG 'ƕ')))) aH)
def QL:DS:=(aE (bH (dA (fV (aJ (kZ ';' 'â'))) (aJ (aD eO '儝' 'ĭ'))) '亮') WU)
abbrev LY:Stmt:=aX 34
abbrev y7:'#':='吩'
abbrev Ou:'#':='吩'
def Gi:DS:=(aE (aN ('ˮ' (xC (aI 1 tT (aB (aA 0) aF)) (aA 2)))) aH)
abbrev EF:Stmt:=aX 35
abbrev GA:'#':='姑'
abbrev Cm:'#':=['Ĉ','ѿ',"end"]
def Tt:DS:=(aE (aN (fG (aJ ('¾' (iU (sG (aA 0)) (aA 3)) (aC (.str "point")))) 'z' ('匙' (aA 4)))) aH)
def Ny:DS:=(aE (aO 5 '姷') Tt)
def Jk:DS:=(aE (fO 'I' 'Ӭ') Ny)
abbrev EO:Stmt:=aX 36
abbrev YL:'#':='吗'
abbrev Eu:'#':='吗'
def Ek:DS:=(aE (aN (aI 2 yS (aB (aI 3 oI '仓') (aB '姷' aF)))) aH)
abbrev zd4:Stmt:=aX 37
abbrev zr1:'#':='奥'
abbrev Bl:'#':=['Ĉ','ѿ',"gap"]
def Bt:DS:=(aE (aN (fG (aJ 'Ĳ') (aI 2 lV (aB 'ư' 'ά')) (mX (aI 2 lV ('Б' (aB (aA 7) aF)))))) aH)
def Qv:DS:=(aE (aO 7 (aI 2 rE (aB (aI 3 sM '媬') (aB (aI 3 sM ('©' (aB (aA 1) (aB (aA 4) aF)))) aF)))) Bt)
def Rz:DS:=(aE '夐' Qv)
abbrev zm4:Stmt:=aX 40
abbrev IK:'#':=['Ȫ']
end
mutual section G
abbrev Sr:'#':=['Ȫ']
def zA:DS:=(aE (aN ('¾' (bG cC (aB (aA 0) aF)) (aC (.int 3)))) aH)
abbrev AL:Stmt:=aX 41
abbrev Zj:'#':='嬥'
abbrev Hn:'#':=['Ȫ']
def Nk:DS:=(aE (aN (gS ('¾' (aA 1) (aA 2)) (pT (aD eV ';' 'V') (gS ('¾' (aD aG (aA 3) (aC (.int 0))) (aC (.int 0))) 'g')))) aH)
def Oi:DS:=(aE (fO '7' (gT 4 (aY (gN 1) (aY '倞' '屌')))) Nk)
def vK:DS:=(aE (bH (aJ (aI 1 mM 'ƕ')) (aE (aN ('¾' (aD aG (aA 0) (aC (.int 2))) (aR aF))) aH) aH) Oi)
abbrev ZD:Stmt:=aX 42
abbrev XO:'#':='呃'
abbrev Ci:'#':='呃'
def Hf:DS:=(aE (aN (aI 3 uY '仓')) aH)
def Ax:DS:=(aE (bH (aJ (aI 1 mM 'Ϋ')) (aE (aN (aD gK (aI 4 pB '墟') '仢')) aH) aH) Hf)
abbrev UO:Stmt:=aX 43
abbrev ZN:'#':='啒'
abbrev Fx:'#':='啒'
def Vf:DS:=(aE (aN (gS (aI 1 rX 'ƕ') (zT lP eV 'V' '˭'))) aH)
abbrev X6:Stmt:=aX 44
abbrev AW:'#':='ԩ'
abbrev Jj:'#':='ԩ'
def zf7:DS:='嬋'
def II:DS:=(aE (bH (dA '奎' (fV '娴')) 'ǃ') zf7)
abbrev O1:Stmt:=aX 45
abbrev YI:'#':='ԩ'
abbrev Kt:'#':='ԩ'
def J6:DS:='嬋'
def AG:DS:=(aE (bH (dA '奎' '娴') 'ǃ') J6)
abbrev Vg:Stmt:=aX 46
abbrev zh8:'#':='儋'
abbrev Iq:'#':='儋'
def zt2:DS:=(aE (aN (aD iW (aR (aB 'ʙ' (aB ';' aF))) (aR (aB (aR (aB '仡' '双')) (aB (aR (aB '仠' (aB '仡' aF))) aF))))) aH)
def N6:DS:=(aE (bH (dA (fV (aJ (aI 2 rV '呂'))) (fV (aJ (aI 2 rV '屎')))) '亮') zt2)
abbrev J8:Stmt:=aX 47
abbrev RA:'#':=['Ĉ','Ȫ',"x","y","a","b",'ɨ','Ŋ']
abbrev Kw:'#':='儋'
def HQ:DS:=(aE (aN ('挎' (cT (aI 4 sP (aB (aA 3) (aB (aA 0) (aB (aD aG (aA 2) (aC (.int 1))) (aB (aD aG (aA 1) (aC (.int 1))) aF)))))))) aH)
def Q0:DS:=(aE (bH (aJ ('¾' (aD aG (aA 2) (aC (.int 0))) (aA 4))) (aE (aN ('挎' (aI 4 sP (aB (aA 3) (aB (aA 0) (aB (aD aG (aA 1) (aC (.int 1))) (aB (aD aG (aA 2) (aC (.int 1))) aF))))))) aH) aH) HQ)
def C3:DS:=(aE (aO 7 (aI 3 mF ('©' (aB (aA 4) (aB (aA 5) aF))))) Q0)
def UT:DS:=(aE (fO ';' '娡') C3)
abbrev J0:Stmt:=aX 48
abbrev Vb:'#':='孂'
abbrev Lm:'#':='Ǒ'
def YM:DS:=(aE (aN (fG (aJ (aI 2 nO ('亯' (aB (bG cC (aB (aA 3) aF)) aF)))) (dQ ('亍' (aD aG (aA 2) (aC (.int 1)))) '伜' eD) 'ɛ')) aH)
def UV:DS:=(aE (aO 3 'ʘ') YM)
abbrev D7:Stmt:=aX 49
abbrev Zb:'#':='嫃'
abbrev Pk:'#':='Ǒ'
def N9:DS:=(aE (aN (aR ('ӊ' (aB (aA 5) (aB (aI 1 kO (aB (aI 3 mF (aB (aD aG (aA 0) (aC (.int 0))) (aB (aA 4) (aB (aA 5) aF)))) aF)) aF))))) aH)
def OG:DS:=(aE (bH (fV (aJ (aI 3 yF '奦'))) 'ǃ') N9)
def VA:DS:=(aE (fO 'I' '娠') OG)
abbrev I0:Stmt:=aX 50
abbrev KF:'#':='Ǒ'
abbrev Dk:'#':='Ǒ'
def MU:DS:=(aE (aN (aR (aB (aR ('亯' (aB (aC (.int 0)) aF))) (aB (aR ('亯' (aB (aC (.int 1)) aF))) (aB '婲' (aB '具' aF)))))) aH)
def A6:DS:=(aE (bH (aJ (aD oZ (aR ('亯' (aB (aC (.str "stretch")) aF))) 'ǌ')) 'ǃ') MU)
abbrev F9:Stmt:=aX 51
abbrev TB:'#':='娵'
abbrev Ka:'#':='Ǒ'
def IC:DS:=(aE (aN (aR ('Б' (aB (aA 4) (aB (aI 1 yZ (aB (aA 6) aF)) aF))))) aH)
def J1:DS:=(aE (fO 'M' '娡') IC)
def IY:DS:=(aE (bH '仝' 'ǃ') J1)
def Zr:DS:=(aE '傯' IY)
abbrev NU:Stmt:=aX 52
abbrev Xk:'#':='夸'
end
mutual section G
abbrev Gr:'#':='Ǒ'
def ze2:DS:=(aE (aN (aR ('Б' (aB (aA 8) (aB (aI 3 zJ (aB (aA 9) (aB (aA 7) (aB (aD aG (aA 4) (aC (.int 2))) aF)))) aF))))) aH)
def O6:DS:=(aE (aO 9 ('v' (aI 3 mF (aB (aD aG (aA 0) (aC (.int 0))) (aB (aA 5) (aB (aA 6) aF)))) (dQ (aI 3 mF (aB (aD aG (aA 0) (aC (.int 0))) (aB (aA 6) (aB (aA 8) aF)))) (dH (aC (.int 1))) eD))) ze2)
def ze1:DS:=(aE (aO 8 '代') O6)
def Ve:DS:=(aE (fO 'M' (gT 3 (aY '乔' (aY '倠' (aY '乕' cL))))) ze1)
def ZL:DS:=(aE (bH (dA '仝' (dA '僪' (dA '夊' (aJ ('¾' (aD aG (aA 3) (aC (.int 0))) (aD aG (aA 4) (aC (.int 1)))))))) 'ǃ') Ve)
def KA:DS:=(aE '夯' ZL)
def i5:DS:=(aE '傯' KA)
abbrev zv1:Stmt:=aX 53
abbrev XJ:'#':='収'
abbrev Ia:'#':='Ǒ'
def zw7:DS:=(aE (aN ('v' (dQ (aA 3) eD (dH (aC (.int 2)))) (aR (aB (bG fJ (aB (cI [none,some 4] (bO (aD aG (aA 3) (aC (.int 2)))) (gN 0) (aJ (aD gK (aA 0) (aD aG (aA 1) (aC (.int 2))))) (aA 0)) aF)) aF)))) aH)
def RE:DS:=(aE (bH (dA '仝' (dA '僪' (aJ (aD eO '叧' (dQ 'g' '傒'))))) 'ǃ') zw7)
def L9:DS:=(aE '夯' RE)
def EM:DS:=(aE '傯' L9)
abbrev V3:Stmt:=aX 54
abbrev U2:'#':='妤'
abbrev Lc:'#':='Ǒ'
def Uu:DS:=(aE (aN (fG (aJ (aD gK 't' 'Ǯ')) 'ɛ' (aR ('Б' (aB (aA 6) (aB (aC (.tuple (List.map PyData.int [0,1]))) (aB (aD tU (aC (.int 0)) (aA 8)) aF))))))) aH)
def UW:DS:=(aE (aO 8 (aI 4 sS '壸')) Uu)
def Wp:DS:=(aE (bH (dA (aJ (aD fL 'ư' 'ɛ')) (dA (aJ ('¾' (aD aG (aA 7) (aC (.int 2))) (aR aF))) (fV (aJ (aI 4 qU '壸'))))) 'ǃ') UW)
def QV:DS:=(aE (aO 7 (aI 2 iL '屍')) Wp)
def t7:DS:=(aE '夐' QV)
abbrev KQ:Stmt:=aX 55
abbrev TJ:'#':=['˓','ɯ','ɮ','Ȫ',"gap","x","y",'剌','俻',"latest",'乓']
abbrev Bf:'#':='Ǒ'
def zt8:DS:=(aE (aN ('v' (dQ (aA 3) eD (dH (aC (.int 2)))) (aR (aB (bG fJ (aB (cI [none,none,some 9] (Jy (aD aG (aA 3) (aC (.int 2))) (aA 10)) (gT 2 (aY (gN 0) (aY (gN 1) cL))) (aJ (aD lP (aA 1) (aA 2))) (aA 0)) aF)) aF)))) aH)
def Ss:DS:=(aE (aO 10 (aI 4 sS ('Ӌ' (aB (aA 3) (aB (aA 5) (aB (aA 6) aF)))))) zt8)
def SZ:DS:=(aE (aO 9 (fG (dA (aJ (aD eV '寲' 'V')) (aJ 'Ǯ')) 'Ű' 'V')) Ss)
def D3:DS:=(aE (bH (aJ (aD kW '寲' 'V')) 'ǃ') SZ)
def EK:DS:=(aE (fO 'g' (gT 4 (aY '乔' (aY '倠' (aY '乕' (aY (gN 8) cL)))))) D3)
def zj9:DS:=(aE (bH (dA '仝' (dA '僪' (fV (aJ (aI 4 qU ('Ӌ' (aB (aA 3) (aB (aD aG (aA 4) (aC (.int 0))) (aB (aD aG (aA 4) (aC (.int 1))) aF))))))))) 'ǃ') EK)
def zv4:DS:=(aE '夰' zj9)
def LN:DS:=(aE '傯' zv4)
abbrev V2:Stmt:=aX 56
abbrev PK:'#':='収'
abbrev Pt:'#':='Ǒ'
def WG:DS:=(aE (aN (aR (aB ';' (aB '代' (aB (aI 2 vN (aB '吘' '嫙')) (aB (pT ('亍' (aC (.int 3))) ('偪' (aC (.int 3)))) aF)))))) aH)
def j5:DS:=(aE (bH (dA '仝' (dA '僪' '夊')) 'ǃ') WG)
def BZ:DS:=(aE '夰' j5)
def OE:DS:=(aE (aO 3 (aI 2 mU '姸')) BZ)
abbrev Z9:Stmt:=aX 59
abbrev OR:'#':='孬'
abbrev Je:'#':='Ǒ'
def Xr:DS:=(Qn 3 '塺' 3 'ʙ' '仓')
def zr2:DS:=(aE (bH (dA (aJ (rN '夙' 'ʙ')) (aJ (aD eO '份' (gL wA 'ʙ')))) 'ǃ') Xr)
def Du:DS:=(aE (bH (dA (fV (aJ (kZ 'I' 'â'))) (dA (aJ ('¾' (aA 2) (aR aF))) (fV (aJ (kZ 'ʙ' 'ϥ'))))) 'ǃ') zr2)
abbrev W5:Stmt:=aX 61
abbrev zd7:'#':='一'
abbrev Mo:'#':='一'
def Gc:DS:=(aE (aN (jI (aB ('v' (bG qA (aB (dQ (aA 0) eD (dH (aC (.int 63)))) aF)) (aD tV (jI (aB (aC (.int 7)) aF)) (bG nJ (aB (aD bJ (aA 0) (eI aF)) aF)))) ('˷' (aB (aC (.int 0)) (aB (aC (.int 0)) aF)))))) aH)
abbrev CC:Stmt:=aX 62
abbrev zt6:'#':='壌'
abbrev Sq:'#':=['Ŀ','嘹']
def Vr:DS:=(aE (aN (aD fB (aD iO (aD fB 'g' '崢') (aC (.int 64))) ';')) aH)
def zj0:DS:=(aE (aO 4 ('v' (aD bZ (aA 4) (aD bT (aD fB (aA 4) (aC (.int 65521))) (aC (.int 48271)))) (aA 2))) Vr)
def UN:DS:=(aE (aO 4 (aD fB ('Ý' (aD bT (aD fB (aA 3) (aC (.int 2147483629))) (aC (.int 1))) (aD bT (aD bT (aD bZ (aD bZ (aC (.int 31)) (aA 2)) (aA 2)) (aD bZ (aC (.int 7919)) (aA 2))) (aC (.int 1)))) (aC (.int 2147483647)))) zj0)
def zg1:DS:=(aE (nX '7' 'ĭ' 'M') aH)
def HY:DS:=(aE (bH (aJ (aD eV 'M' (aD rY '徫' (aC (.int 18))))) UN aH) zg1)
def OZ:DS:=(aE (nX '7' 't' ('v' (aD aG (aA 0) (aC (.int 1))) (aC (.int 1)))) HY)
def GG:DS:=(aE (aO 3 ('m' (aD aG (aA 0) (aC (.int 0))) (aD fB (aD aG (aA 0) (aC (.int 1))) (bG cC (aB (aD aG (aA 0) (aC (.int 0))) aF))))) OZ)
def zm8:DS:=(aE (aN 'z') aH)
def JE:DS:=(aE (nX '7' 'ĭ' (aD iO '僵' ';')) zm8)
def Cn:DS:=(aE (aO 5 (aD fB '僵' ';')) JE)
end
mutual section G
def zi0:DS:=(aE (bH (aJ ('¾' (aD aG (aA 0) (aC (.int 2))) (aC (.int 0)))) GG aH) Cn)
def Ie:DS:=(aE (aO 2 '寳') zi0)
def Yr:DS:=(aE (nX '7' 'Ȋ' ('v' (aD aG (aA 0) (aC (.int 3))) (aC (.int 1)))) Ie)
abbrev YO:Stmt:=aX 63
abbrev CQ:'#':=['Ŀ','恰','惮','两','嘹',"_law_first","_law_step",'嗾',"_law_way",'Ȇ']
abbrev Gm:'#':=['Ŀ','恰','惮']
def Au:DS:=(aE (aN (Gk 'ư' '˔')) aH)
def Jn:DS:=(aE (bH (aJ (aD eV 'Ǯ' 'ĭ')) (aE (aO 9 (cI [none,some 8] '凳' 'ƅ' '士')) aH) aH) Au)
def Sf:DS:=(aE (aO 9 (cI [none,some 0] '凳' 'ƅ' '塜')) Jn)
def M3:DS:=(aE (aO 8 '厑') Sf)
def MB:DS:=(aE (aO 7 (bG yN (aB (cI [none,some 3,some 5,some 6] (gA 'g') 'ƅ' ('ˮ' (aD fB (aD bT (aA 2) (aD bZ (aA 3) (aA 0))) (aC (.int 11))))) aF))) M3)
def Xn:DS:=(aE (aO 6 ('v' (aC (.int 1)) (aI 2 bU (aB (aA 0) (aB (aC (.int 10)) aF))))) MB)
def zs4:DS:=(aE (aO 5 '娶') Xn)
def Ud:DS:=(aE (aO 4 ('v' (aA 1) (aI 2 bU (aB (aA 0) (aB (aD bT (aD fI (aA 2) (aA 1)) (aC (.int 1))) aF))))) zs4)
def v8:DS:=(aE (aO 3 (eI (aB (aC (.str "a")) (aB (aC (.str "ab")) (aB (aC (.str "abc")) (aB (aC (.str "begin")) (aB (aC (.str "end")) (aB '庹' (aB '庺' (aB (aC (.str "o")) (aB 'Δ' (aB (aC (.str '俻')) (aB (aC (.str "zzzzzzzz")) aF))))))))))))) Ud)
abbrev BG:Stmt:=aX 64
abbrev Xs:'#':='孭'
abbrev Iw:'#':=['Ȇ']
def Nt:DS:=(aE (aN ('v' (aA 1) (aR (aB (aC (.str "met")) (aB (aC (.str "behind")) aF))))) aH)
def Ob:DS:=(aE (aO 1 (aR (aB '伓' (aB '帀' (aB '崣' (aB '哅' (aB '哆' (aB '伞' (aB '唌' (aB '币' (aB '市' (aB '布' (aB (aC (.str 'ό')) aF))))))))))))) Nt)
def Fq:DS:=(aE (bH (aJ ('ҽ' (aR (aB (aC (.str "stretch")) (aB (aC (.str "point")) aF))))) (aE (aN (aR (aB '伓' (aB '币' (aB '市' (aB '布' '僷')))))) aH) aH) Ob)
def Ll:DS:=(aE (bH (aJ ('ҽ' (aR (aB (aC (.str "point")) (aB (aC (.str "stretch")) aF))))) (aE (aN (aR (aB '伓' (aB '哅' (aB '哆' (aB '伞' '僷')))))) aH) aH) Fq)
def Qo:DS:=(aE (bH '壙' (aE (aN (aR (aB '伓' (aB '唌' '僷')))) aH) aH) Ll)
abbrev QR:Stmt:=aX 65
abbrev NB:'#':='嫛'
abbrev Bv:'#':=['Π']
def Ct:DS:=(aE (aN ('ˮ' (aD fI (aC (.int 12)) (xC (aA 1) (aA 0))))) aH)
def Jq:DS:=(aE (aO 1 (aI 1 lX (aB '奖' aF))) Ct)
abbrev IN:Stmt:=aX 66
abbrev zj1:'#':='夦'
abbrev Na:'#':=['Ȇ','Π','Ϗ','丹']
def Ic(j:Nat):DS:=(aE (aN ('m' (iU (aA 4) (aA 1)) (fG (aJ (aD bJ (aA 0) (aR (aB (aC (.str "stretch")) (aB (aC (.str "stretch")) aF))))) (aD bT (aD bZ (aC (.int 2)) (aA 2)) (aA 3)) (aD bZ (aC (.int 3)) (aD bT (aA 2) (aA 3)))))) aH)
def Qm(j:Nat):DS:=(aE (bH (aJ (aD pF ';' 'g')) (aE (aN (aD fI 'V' (aI 4 (mR j) (aB (aR (aB 'ʘ' '叏')) (aB (aI 1 uV 'Ϊ') ('ŏ' (aB (aA 2) aF))))))) aH) aH) (Ic j))
def Ey(j:Nat):DS:=(aE (jC (Lg 'g' (nA [('哅',(aR ('˷' (aB (cT (aC (.int 1))) (aB (aC (.int 1)) (aB (cT (aC (.int 1))) aF)))))),('哆',(aR ('˸' (aB (cT (aC (.int 1))) (aB (aC (.int 1)) (aB (cT (aC (.int 1))) aF)))))),('伞',(aR ('˸' (aB (cT (aC (.int 1))) (aB (aC (.int 1)) (aB (aC (.int 0)) aF)))))),('唌',(aR ('˷' (aB (cT (aC (.int 1))) (aB (aC (.int 1)) (aB (aC (.int 0)) aF))))))]))) (Qm j))
def Qq(j:Nat):DS:=(aE (aO 4 (nA [('伓',(aR ('˹' (aB (cT (aC (.int 1))) (aB (cT (aC (.int 1))) (aB (cT (aC (.int 1))) aF)))))),('帀',(aR ('˹' (aB (cT (aC (.int 1))) (aB (aC (.int 0)) (aB (cT (aC (.int 1))) aF)))))),('崣',(aR ('˹' (aB (cT (aC (.int 1))) (aB (aC (.int 1)) (aB (cT (aC (.int 1))) aF))))))])) (Ey j))
abbrev Wk:Stmt:=aX 67
abbrev N3:'#':=['侖']
abbrev Dl:'#':=['侖']
def Ei:DS:=(aE (aN (fG (aJ ('ҽ' (aC (.str "stretch")))) (eI '婿') (eI '儫'))) aH)
abbrev zh7:Stmt:=aX 68
abbrev Q5:'#':=['Ȇ','Π','凜','Ϗ']
abbrev Hw:'#':=['Ȇ','Π']
def xV:DS:=(aE (jC (qV 'I' (lZ [none,some 0,some 1,some 3] (bO ('亵' (aB (aD aG (aA 0) (aC (.int 1))) aF))) 'ƅ' '夺'))) aH)
def DV:DS:='嫰'
def Kl:DS:=(aE (cN (bO ('亵' (aB (aD aG (aA 0) (aC (.int 0))) aF))) '借' xV) DV)
def LK:DS:=(aE '徭' Kl)
abbrev TL:Stmt:=aX 69
abbrev IU:'#':=['ĩ','嗾',"_law_own"]
abbrev Fb:'#':=['ĩ','嗾']
def Fn:DS:=(aE (aN (bG fJ (aB (cI '冻' (bO ';') 'ƅ' (iU ';' '7')) aF))) aH)
def Qh:DS:=(aE (aO 2 '嘸') Fn)
abbrev ze9:Stmt:=aX 70
abbrev BJ:'#':=['ĩ','凜','惯','侖']
abbrev Hm:'#':=['ĩ']
def tL:DS:=(aE (jC (qV ';' (lZ '冻' (bO ('亵' (aB (aA 3) aF))) 'ƅ' (aR '吿')))) aH)
def yD:DS:='巽'
def Bx:DS:=(aE (cN '嘷' 'ӫ' tL) yD)
def Lp:DS:=(aE (aO 1 '剧') Bx)
abbrev v6:Stmt:=aX 71
abbrev QM:'#':='姒'
abbrev Mg:'#':=['划','嗄']
def Tx:DS:=(aE (rO 2 3 ('ŏ' (aB (aD fB (aA 2) (aA 3)) aF))) aH)
def Cf:DS:='壪'
def Gv:DS:=(aE (wG (aJ (aD kW 'M' 'V')) Tx) Cf)
end
mutual section G
def Db:DS:=(aE (aO 3 ';') Gv)
def Em:DS:=(aE (aO 2 '崠') Db)
abbrev Y6:Stmt:=aX 72
abbrev TW:'#':='妲'
abbrev Rc:'#':=['ѹ','东','建']
def Dm:DS:=(aE (aN (aI 2 rZ ('ŏ' (aB (aD bZ (aD aG (aA 0) (aC (.int 1))) (aD aG (aA 1) (aC (.int 1)))) aF)))) aH)
def Fj:DS:=(aE (aO 3 ('v' (aD bZ (aD aG (aA 0) (aC (.int 0))) (aD aG (aA 1) (aC (.int 1)))) (aD bZ (aD bZ (aA 2) (aD aG (aA 1) (aC (.int 0)))) (aD aG (aA 0) (aC (.int 1)))))) Dm)
abbrev FL:Stmt:=aX 73
abbrev CZ:'#':='婈'
abbrev Bm:'#':=['Ŀ']
def Nd:DS:=(aE (aN (aI 2 rZ '屇')) aH)
def Da:DS:=(aE (aO 2 ('m' (eI (aB (aC (.int 1)) (aB (aC (.int 1)) (aB (aC (.int 2)) (aB (aC (.int 3)) aF))))) (aI 2 bU (aB (aA 0) (aB (aC (.int 4)) aF))))) Nd)
def Oq:DS:=(aE (aO 1 (aD fI ('Ģ' (aB (aA 0) (aB (aC (.int 7)) aF))) 'ĭ')) Da)
abbrev zj8:Stmt:=aX 74
abbrev WA:'#':='墒'
abbrev Di:'#':='嫄'
def uS:DS:=(aE (jC (oS 'I' (fG (aJ ('¾' (aA 4) (aC (.str "point")))) 'z' (aR '儅')))) aH)
def yY:DS:=(aE (bH (aJ (aD eV ('Ý' (aD aG (aA 6) (aC (.int 0))) (aD aG (aA 5) (aC (.int 1)))) ('Ý' (aD aG (aA 5) (aC (.int 0))) (aD aG (aA 6) (aC (.int 1)))))) (aE (rO 5 6 ('傐' (aB (aA 5) aF))) aH) aH) uS)
def Qd:DS:=(aE (bH (aJ ('Ѕ' (aA 6))) (aE (aO 6 (aR (aB ('v' (aD aG (aA 5) (aC (.int 0))) (aD aG (aA 5) (aC (.int 1)))) (aB '吙' aF)))) aH) aH) yY)
def Rp:DS:=(aE (aO 6 '岫') Qd)
def xZ:DS:=(aE (aO 5 '岫') Rp)
def sY:DS:='嫰'
def Sc:DS:=(aE (cN (bO ';') 'Ӭ' xZ) sY)
def Gh:DS:=(aE '徭' Sc)
abbrev za2:Stmt:=aX 75
abbrev EC:'#':='墬'
abbrev Hz:'#':=['ĩ','哨']
def uO:DS:=(aE (Qc 'I' (aB ';' 'ά') (fG (aJ ('¾' (aD aG (aA 3) (aC (.int 1))) (aC (.str "stretch")))) ('偪' (aA 5)) 'g')) aH)
def qC:DS:=(aE (cN (bO ('亵' (aB (aD aG (aA 3) (aC (.int 1))) aF))) '乔' uO) aH)
def yT:DS:='哧'
def Eo:DS:=(aE (cN '幖' 'Ӭ' qC) yT)
def j6:DS:=(aE (aO 2 Gw) Eo)
abbrev ZV:Stmt:=aX 76
abbrev u7:'#':='壬'
abbrev Su:'#':=['ʩ','Ϗ','丹']
def Ba:DS:=(aE (aN (aD fI (bG nJ (aB (aD kW 'z' 'V') aF)) (bG nJ (aB (aD eV 'z' 'V') aF)))) aH)
def Kv:DS:=(aE (aO 5 (aD fI ('Ý' (aD aG (aA 3) (aC (.int 0))) (aD aG (aA 4) (aC (.int 1)))) ('Ý' (aD aG (aA 4) (aC (.int 0))) (aD aG (aA 3) (aC (.int 1)))))) Ba)
def Th:DS:=(aE (aO 4 (iV '7' 'I')) Kv)
def Hg:DS:=(aE (aO 3 (iV '˭')) Th)
abbrev IP:Stmt:=aX 77
abbrev FD:'#':='塬'
abbrev Jp:'#':=['ĩ','ʩ','囧','囨']
def Aj:DS:=(aE (jC (oS 'z' (aI 3 tR ('õ' (aB (aR (aB (aA 2) (aB (aA 6) aF))) (aB (aR (aB (aA 3) (aB (aA 7) aF))) aF)))))) aH)
def uU:DS:=(aE (cN (bO ('亵' (aB (aD aG (aA 4) (aC (.int 1))) aF))) '乕' Aj) aH)
def pV:DS:=(aE (bH (aJ (aD wH (bG qA (aB (aI 2 As ('ӊ' (aB (aA 8) aF))) aF)) 'z')) (aE (aN 'Ǯ') aH) aH) aH)
def TQ:DS:='Ļ'
def zG:DS:=(aE (cN (bO (aI 1 lX '冫')) (gN 8) pV) TQ)
def Ks:DS:=(aE (cN (bO ('亵' (aB (aD aG (aA 4) (aC (.int 0))) aF))) '倠' uU) zG)
def Jd:DS:=(aE (aO 5 '剧') Ks)
def Lk:DS:=(aE (aO 4 (aI 2 qK ('©' (aB (aR (aB (aA 2) (aB (aA 3) aF))) aF)))) Jd)
abbrev O4:Stmt:=aX 78
abbrev Uw:'#':=['Ŀ','Ȇ','庻',"_law_way",'两',"_law_k"]
abbrev Sl:'#':=['Ŀ','Ȇ']
def Fc:DS:=(aE (jC (oS 'g' '够')) aH)
def Qx:DS:=(aE (aN (bG fJ (aB (cI '怅' '嘶' 'l' '屐' '7') aF))) aH)
def Cv:DS:=(aE (cN (gA ('m' (eI (aB (aC (.int 0)) (aB (aC (.int 0)) (aB (aC (.int 2)) (aB (aC (.int 6)) (aB (aC (.int 1)) aF)))))) (aA 3))) '乔' Fc) Qx)
def Ru:DS:=(aE (aO 4 (jI (aB '够' aF))) Cv)
def Sk:DS:=(aE (bH (aJ ('¾' (aA 3) (aC (.int 0)))) '哧' aH) Ru)
def Qg:DS:=(aE (aO 3 '厑') Sk)
def Py:DS:=(aE (aO 2 (aI 1 lX 'Ϊ')) Qg)
abbrev LB:Stmt:=aX 79
abbrev VQ:'#':='套'
abbrev Hj:'#':='嫄'
def Jg:DS:=(aE (aN (aR (aB ('m' (aD aG (aA 1) (aA 2)) (aC (.int 0))) (aB ('m' (aD aG (aA 1) (aA 3)) (aC (.int 0))) aF)))) aH)
end
mutual section G
def Ew:DS:=(aE (aO 3 (aD fB ('v' (aD bT (aA 2) (aC (.int 1))) (aI 2 bU (aB (aA 0) (aB (aD fI (bG cC (aB (aA 1) aF)) (aC (.int 1))) aF)))) '儝')) Jg)
def Kh:DS:=(aE (aO 2 ('Ģ' (aB (aA 0) (aB (bG cC (aB (aA 1) aF)) aF)))) Ew)
abbrev H0:Stmt:=aX 80
abbrev Vt:'#':=['Ŀ','嗿','嘺','ĩ','两','Π',"_law_mays","_law_gaps",'ѹ',"_law_fits","_law_i","_law_pairs","_law_here",'Ϗ']
abbrev Gq:'#':=['Ŀ','嗿','嘺']
def OU:DS:=(aE (aN (aR (aB '典' ('傑' (aB (aD aG (aA 9) (aI 2 bU (aB (aA 0) (aB (bG cC (aB (aA 9) aF)) aF)))) aF))))) aH)
def Vn:DS:=(aE (aO 9 ('v' (cI [none,some 2,some 8] (bO (aA 7)) (gN 0) (aJ (aD bJ (aD aG (aD aG (aA 1) (aA 0)) (aC (.int 0))) (aD aG (aD aG (aA 1) (aA 2)) (aC (.int 1))))) (aA 0)) (dQ (aA 7) eD (dH (aC (.int 1)))))) OU)
def Wl:DS:=(aE (aO 8 ('m' (aA 7) (aI 2 bU (aB (aA 0) (aB (bG cC (aB (aA 7) aF)) aF))))) Vn)
def Uk:DS:=(aE (aN (aR (aB '伊' '協'))) aH)
def zn5:DS:=(aE (aO 9 ('v' (cI [none,some 2,some 10] (bO (aA 6)) (gN 0) (aJ (aD bJ (aD aG (aD aG (aA 1) (aA 0)) (aC (.int 0))) (aD aG (aD aG (aA 1) (aA 2)) (aC (.int 1))))) (aA 0)) (dQ (aA 6) eD (dH (aC (.int 1)))))) Uk)
def ZU:DS:=(aE (aN (aR (aB '唍' '協'))) aH)
def P9:DS:=(aE (aO 9 ('v' (cI [none,some 2,some 10] (bO (aA 6)) (gN 0) (aJ (aD bJ (dQ (aD aG (aA 1) (aA 0)) eD (dH (aC (.int 2)))) (dQ (aD aG (aA 1) (aA 2)) eD (dH (aC (.int 2)))))) (aA 0)) (dQ (aA 6) (dH (cT (aC (.int 1)))) eD))) ZU)
def QH:DS:=(aE (aN (aR (aB '哇' '協'))) aH)
def Uz:DS:=(aE (aO 9 ('v' (aA 9) (dQ (aA 7) (dH (cT (aC (.int 1)))) eD))) QH)
def zw3:DS:=(aE (aO 9 (cI [none,'ҥ',some 11] '凳' 'l' (aJ (aD iW (aR (aB ('m' (aD aG (aD aG (aA 1) (aA 0)) (aC (.int 0))) (aC (.int 0))) (aB ('m' (aD aG (aD aG (aA 1) (aA 0)) (aC (.int 1))) (aC (.int 0))) aF))) 'I')) '7')) Uz)
def Wj:DS:=(aE (aO 11 (eI (aB (dQ '崤' '傒') (aB (Pz '崤' 't' 'Ű') aF)))) zw3)
def OC:DS:=(aE (aN (aR (aB '伞' ('傓' (aB (aA 13) (aB (aD aG (aA 12) (aI 2 bU (aB (aA 0) (aB (bG cC (aB (aA 12) aF)) aF)))) aF)))))) aH)
def zc0:DS:=(aE (aO 13 '夑') OC)
def Rb:DS:=(aE (aO 12 (cI '咲' (bO 'g') 'l' (aJ (aD iW 'ǌ' '姺')) '7')) zc0)
def KZ:DS:=(aE (bH (nU (aJ ('Ѕ' (aC (.str "strike")))) '尒') Wj aH) Rb)
def i8:DS:=(aE (bH (aJ ('Ѕ' (aC (.str "both")))) P9 aH) KZ)
def zu9:DS:=(aE (bH (aJ ('Ѕ' (aC (.str "behind")))) zn5 aH) i8)
def zv2:DS:=(aE (bH (aJ ('Ѕ' (aC (.str "turned")))) (aE (aN (aR (aB '哈' ('傓' aF)))) aH) aH) zu9)
def Qj:DS:=(aE (aO 10 '夠') zv2)
def Ri:DS:=(aE (bH (dA (aJ (aD iW 'z' (aR (aB '兠' (aB '唯' '屺'))))) (aJ ('¾' (aA 6) (eI aF)))) (aE (aN ('v' (aR (aB (aC (.str "any")) aF)) (aI 2 lQ (aB (aA 0) (aB (aA 3) aF))))) aH) aH) Qj)
def Dx:DS:=(aE (bH (nU (aJ ('Ѕ' (aC (.str "add")))) '尒') Wl aH) Ri)
def Lr:DS:=(aE (bH (aJ ('Ѕ' (aC (.str "long")))) (aE (aN (aR (aB '唎' (aB ('m' (aD aG (aA 3) (aI 2 bU (aB (aA 0) (aB (bG cC (aB (aA 3) aF)) aF)))) (aC (.int 0))) aF)))) aH) aH) Dx)
def JQ:DS:=(aE (bH (nU (aJ ('Ѕ' (aC (.str "told")))) (aJ (aD eO '嬦' '倊'))) (aE (aN (aR (aB '兠' (aB ('Ģ' (aB (aA 0) (aB (bG cC (aB (iU (aA 1) (aC (.str "sayings"))) aF)) aF))) aF)))) aH) aH) Lr)
def HS:DS:=(aE (aO 7 ('扙' (aJ (aD bJ (bG cC (aB (aD aG (aA 1) (aA 0)) aF)) (aC (.int 4)))) (aA 0))) JQ)
def K5:DS:=(aE (aO 6 ('扙' (aJ (aD bJ (bG cC (aB (aD aG (aA 1) (aA 0)) aF)) (aC (.int 3)))) (aA 0))) HS)
def DY:DS:=(aE (aO 5 ('匙' (aI 2 bU (aB (aA 0) (aB (aC (.int 11)) aF))))) K5)
def W9:DS:=(aE (aO 5 (eI (aB '兠' (aB '唯' (aB '唎' (aB '哈' (aB '伊' (aB '伊' (aB '唍' (aB '伞' (aB '哇' (aB '典' '屺')))))))))))) DY)
def IF:DS:=(aE (aO 4 (Si (aI 1 pK '丄'))) W9)
def O5:DS:=(aE (aO 3 (iU ';' '嶴')) IF)
abbrev Vw:Stmt:=aX 81
abbrev KJ:'#':=['Ŀ','ĩ','ʩ','囧','囨','Ȇ','两',"_law_words_here",'Ϗ','丹',"_law_more","_law_number"]
abbrev Bb:'#':=['Ŀ','ĩ','ʩ']
def W6:DS:=(aE (aN (aR (aB '庺' ('ŏ' (aB (aA 4) (aB (bG fJ (aB (aA 7) aF)) aF)))))) aH)
def EA:DS:=(aE (aO 7 (cI [none,some 6] (bO (aI 1 lX 'ά')) 'l' (aJ (aD gK '˭')) '7')) W6)
def t5:DS:=(aE (aO 6 ('v' (aI 2 xY (aB (aA 0) (aB (aA 5) aF))) (aR (aB (aI 4 tX (aB (aA 1) (aB (aA 2) (aB (aA 3) (aB (aA 4) aF))))) aF)))) EA)
def D8:DS:=(aE (aO 5 (aI 2 qK ('õ' (aB (aR (aB (aA 3) (aB (aA 4) aF))) aF)))) t5)
def JJ:DS:=(aE (fO (aI 2 lQ '仮') 'Ӭ') D8)
def VI:DS:=(aE (aN (aR (aB '庹' ('傑' (aB (aA 9) (aB (aA 11) (aB (gS (aD eO (aA 10) (aR (aB (aC (.int 0)) (aB (aC (.int 1)) aF)))) (aD bJ (aI 2 bU (aB (aA 0) (aB (aC (.int 2)) aF))) (aC (.int 0)))) aF))))))) aH)
def WR:DS:=(aE (aO 11 (aI 3 mT (aB (aI 3 mT (aB (iV 'I' 'Ǯ') (aB (iV 'I' '˔') '仯'))) ('傓' (aB (aC (.int 1)) aF))))) VI)
def O9:DS:=(aE (aO 10 ('m' (eI (aB (aR (aB (aC (.int 0)) (aB (aC (.int 1)) aF))) (aB (aR (aB (aC (.int 1)) (aB (aC (.int 1)) aF))) (aB (aR (aB (aC (.int 1)) (aB (aC (.int 3)) aF))) (aB (aR (aB (aC (.int 0)) (aB (aC (.int 1)) aF))) (aB (aR (aB (aC (.int 5)) (aB (aC (.int 2)) aF))) aF)))))) (aI 2 bU (aB (aA 0) (aB (aC (.int 5)) aF))))) WR)
def SF:DS:=(aE (aO 9 '夠') O9)
def QK:DS:=(aE (aO 8 (Cq 'Ĳ' '妿')) SF)
def YS:DS:=(aE (aO 6 (aI 1 pK 'Ϊ')) QK)
def HG:DS:=(aE (bH (aJ '失') JJ aH) YS)
abbrev GN:Stmt:=aX 82
abbrev CJ:'#':='壭'
abbrev Tf:'#':=['ĩ','ʩ','器']
def Ye:DS:=(aE (aN (pT (aD eV 'g' 'V') (gS ('¾' (aA 4) (aC (.int 0))) (mX '寰')))) aH)
def CA:DS:=(aE (aO 4 (aD fI ('Ý' (aD aG (aA 3) (aC (.int 0))) (aD aG (aD aG (aA 2) (aC (.int 2))) (aC (.int 1)))) ('Ý' (aD aG (aD aG (aA 2) (aC (.int 2))) (aC (.int 0))) (aD aG (aA 3) (aC (.int 1)))))) Ye)
def Uv:DS:=(aE (aO 3 (aI 3 mT (aB (iV ';' 'ʙ') (aB (iV ';' 'Ϳ') '仯')))) CA)
def ZO:DS:=(aE (bH (aJ ('¾' (bG cC (aB (aA 2) aF)) (aC (.int 3)))) (aE (aN (aD gK (aI 4 tX '墟') '仢')) aH) aH) Uv)
abbrev Z4:Stmt:=aX 83
abbrev Vh:'#':='塌'
abbrev Hs:'#':='一'
def NP:DS:=(aE (aO 6 ('v' (aA 6) (aR (aB (aI 3 zF (aB (aA 1) (aB (aA 3) (aB (aA 5) aF)))) aF)))) aH)
def TC:DS:=(aE (jC (oS '˔' '剨')) aH)
def Vi:DS:=(aE (bH (aJ (aD nQ (aI 3 uX ('ŏ' (aB (aA 4) (aB (aA 11) aF)))) '具')) '亮') TC)
def NW:DS:=(aE (bH (dA (fV (aJ (aI 3 xD ('ŏ' (aB (aA 5) (aB (aA 11) aF)))))) (aJ (aD nQ (aI 1 wV '啹') '幗'))) '亮') Vi)
def YJ:DS:=(aE (bH (aJ (aD mL '剨' 'ɛ')) NW aH) aH)
end
mutual section G
def d6:DS:=(aE (bH (aJ (aD yP 'ˉ' '˔')) '亮') YJ)
def G2:DS:=(aE (aO 11 (aI 3 xO (aB (aR ('ŏ' (aB (aA 6) aF))) ('傓' (aB (aI 3 uE (aB (aA 1) (aB (aA 8) (aB (aA 9) aF)))) aF))))) d6)
def FR:DS:=(aE (aO 10 (bG yQ '喚')) G2)
def zp6:DS:=(aE (cN (gA (aC (.int 20))) '乕' FR) aH)
def Tq:DS:=(aE (aO 9 '剧') zp6)
def Uf:DS:=(aE (aO 8 (nA [('嶴','M'),('嵩','Ĳ')])) Tq)
def P0:DS:=(aE (cN (gA ('Ģ' (aB (aA 1) (aB (aC (.int 7)) aF)))) '乕' NP) Uf)
def Z2:DS:=(aE (aO 6 '倊') P0)
def LJ:DS:=(aE (aO 5 (aI 2 vR '億')) Z2)
def AB:DS:=(aE (aO 4 (aI 2 vP '屋')) LJ)
def PP:DS:=(aE (aO 3 (aI 3 xT ('õ' (aB (aC (.int 2)) (aB (aC (.int 4)) aF))))) AB)
def Ut:DS:='定'
def JX:DS:=(aE (cN (gA 'Ȋ') '倞' PP) Ut)
def j3:DS:=(aE (aO 1 (aI 1 xM 'ƕ')) JX)
abbrev EN(R:DK):Ends2:='县'
def sz['ª'](h:n<=1000):'凣':=Nat.le_trans h ('Ĺ')
def Zx{ns:'?'}['勍'](h:i<(ns.length:Int)):∃ v:Int,bP ('兯') i=some (.int v):=by
 show '办'
 have hk:k<ns.length:=')'
 exact⟨ns[k],gC (by rw[List.getElem?_map,'ӷ']<;>rfl)⟩
def iF{i j:Int}(h:Bd 64 i):'佩':=IntMulOk.of_left '咒'
def uP{i j:Int}(h:Bd 64 j):'佩':=IntMulOk.of_right '咒'
set_option exponentiation.threshold 3000 in
theorem tZ{i:Int}['ª'](h:'恧':=by decide):'乐':=h
def mQ['ʌ']{P:'恲'}{r:Int}(h:∀ p∈xs,P p)(h0:0<=r)(h1:r<'啠'):∃ p,bP xs r='ŋ'/\P p:=by
 show '坤'
 have hk:k<xs.length:=')'
 exact⟨xs[k],gC ('ӷ'),h _ ('兒')⟩
theorem gU['扳'](J:'Á'->'Ɉ')(fin:∀ acc d m,J [] 'Ø'->Q acc m)
  (step:∀ x xs acc d m (k:'Ɉ'),J 'ҏ' 'Ø'->(∀ acc' d' m',J xs 'Ǵ'->'恳')->'В' fun d1 m1=>t d1 m1 fun b m2=>if b=true then f d1 m2 fun y m3=>∃ p,y=.dat p/\acc.length<sizeLine/\k (acc++[p]) d1 m3 else k acc d1 m2) :
  ∀ xs acc d m,J xs 'Ø'->'嵒'
 | [],acc,d,m,h=>fin 'Ø' h
 | 'X',acc,d,m,h=>step x xs 'Ø' (fun 'Ǵ'=>'һ' acc' d' m' Q) h (gU J fin step xs)
@[simp] theorem zw9:PyData.strOk 'ԃ'=true:='J'
@[simp] theorem zx1:PyData.strOk '儌'=true:='J'
@[simp] theorem bR(x:PyData)['傅']:'帄':=by simp[bP,dW]
@[simp] theorem bS(x y:PyData)['傅']:bP (x::y::xs) 1='Ǩ':=by
 have:'Ž'<'丢'+1:=')'
 show '偤'
def jO['Ġ']:1<='彄'/\'彄'<=13:=by cases k<;>cases l<;>decide
theorem lL:∀ ns:'?',PyData.canLayAll0 '喲'=true/\PyData.depthAll '喲'<=1
 | []=>'厛'
 | n::ns=>by
  obtain⟨h1,h2⟩:=lL ns;simp only[au,PyData.canLayAll0,PyData.depthAll,PyData.canLay0,PyData.depth,h1,Bool.and_self];exact '崥'
def gB{i:Int}(h0:-100000000<=i)(h1:i<=100000000):Bd 64 i:=by
 show '振'
 omega
def Fed.trans{b c n:Int}{m m1 m2:Mu}['e'](h:'喛')(q:Fed c (n+b) m1 m2 a):Fed (b+c) n m m2 a:=by
 refine⟨by have:=q.1;rwa [Int.add_assoc]at this,fun x hx hs=>?_⟩
 have e:=h.2 x hx hs
 rw[q.2 x hx (by rw[e];exact hs),e]
def Fed.refl{n:Int}{m:Mu}['堤']:Fed 0 n m m a:=⟨ 'Ԥ','微'⟩
def gO['愲'](h:∀ (r:Int) m',0<=r->r<n->'帅'->'噥'):'帆':=by
 refine⟨a,n,L+b,rfl,h0,?_,')',hf.1,fun r '匂'=>h '捼'⟩
 refine '宝'
 show '坲'
 omega
def Ar{n i:Nat}(h:i<n):'丑' i=I 'ň'::'丑' 'Ɓ':=by
 have hl:i<'俼'.length:=by unfold dL;simpa using h
 rw['寝']
 congr 1
 unfold dL;simp
def Fd['ª']:'丑' n=[]:=by
 rw[List.drop_eq_nil_iff];unfold dL;simp
def Bu['扳']['ª'](J:Nat->'Ɉ')(fin:∀ acc d m,'惰'->Q acc m)
  (step:∀ i acc d m (k:'Ɉ'),i<n->'凴'->(∀ acc' d' m','幙'->'恳')->g '嘻' d m '塢') :
  ∀ acc d m,'惱'->bV g t f '俼' 'М':=by
 intro 'Ø' h;refine gU (fun rest 'Ø'=>∃ i,i<=n/\rest='丑' i/\'凴') 'ɿ' ⟨0,'À',rfl,h⟩
 ·rintro acc d m ⟨i,hi,e,hj⟩;have:i=n:=by
   have:='仿'
   show '挰'
  show 'ĥ';exact fin ',' hj
 ·rintro x xs acc d m k ⟨i,hi,e,hj⟩ hk;have hlt:i<n:=by
   have:='仿'
   show '挰'
  rw[Ar hlt]at e;obtain⟨rfl,rfl⟩:='彅';exact step i 'Ø' k hlt hj fun 'Ǵ' h'=>'ť' ⟨i+1,hlt,rfl,h'⟩
def rK['挼']['ª'](J:Nat->'Ą')(hd:∀ d m,J n d m->'剃')
  (step:∀ i,i<n->∀ (k:'Ą'),(∀ d m,J 'Ɓ' d m->k d m)->∀ d m,J i d m->g '嘻' d m '姻'):∀ d m,J 0 d m->'傄' (dL 0 n) d m:=by
 have key:∀ (r i:Nat),r+i=n->∀ d m,J i d m->'傄' ((dL 0 n).drop i) d m:=by
  intro r
  induction r with
  | zero =>
   intro i hi d m hj;have:i=n:=')'
   show 'ĥ';rw[Fd];exact hd d m hj
  | succ r ih =>
   intro i hi d m hj;rw[Ar '%']
   exact step i '%' _ (ih 'Ɓ' '%') d m hj
 intro d m h;have:=key n 0 '%' d m h
 show 'ĵ'
def Lq:∀ z∈cJ,bP (cJ.map PyData.str) (12-('刏':Int))=some '忿':=by
 intro z hz;have h1:'刏'<cJ.length:='孯'
 have h2:cJ.length=13:=rfl
 obtain⟨k,hk⟩:∃ k,'刏'=k:='3';rw[h2,hk]at h1;unfold tn;rw[hk,show(12:Int)-'Ґ'=((12-k:Nat):Int) by omega]
 refine gC ?_;rw[List.getElem?_map,List.getD_eq_getElem?_getD,'ͻ']
 rfl
def ZB:∀ ds m R,ds.length=Hc.length->kO '*'->Mb '8' (aT ML ds) m:=by
 show '扝';unfold Mb;simp only[aE,aN,vV,aA,aC,aT];refine⟨_,rfl,[kd k,kd l],rfl,?_⟩
 cases k<;>cases l<;>exact h
def zn3{zs:'#'}(h:∀ z∈zs,'兓'):'嫜':=by
 induction zs with
 | nil=>simp[PyData.canLayAll0]
 | cons z zs ih =>
  simp only[au,PyData.canLayAll0,PyData.canLay0,'崦',ih '峢',Bool.and_self]
def oX:∀ z∈cJ,'兓':='J'
def fH['Ġ']:∀ z∈ 'ȥ','ң':='Ш'
def Ti{k j:aL}['Ŏ']:∀ {kvs:'¿'},(∃ q,'Ͳ' j='Ǫ')\/j=k->∃ q,bN '佳' j='Ǫ':=by
 intro kvs h;unfold cM
 split
 ·rename_i ha;show '拂'
  ·unfold bN at hq ⊢;rw[List.find?_map]
   cases e:'Ъ' with
   | none=>rw[e]at hq;cases hq
   | some kv =>
    have:'嫝'∘('僐')='仹':=by
     funext kv
     simp only[Function.comp]
     split<;>rfl
    rw[this,e];exact '3'
  ·unfold bN;rw[List.find?_map];have:'嫝'∘(fun kv=>if kv.1=j then (kv.1,p) else kv)='仹':=by
    funext kv
    simp only[Function.comp]
    split<;>rfl
   rw[this];obtain⟨kv,hm,hd⟩:='崝'
   cases e:'Ъ' with
   | none=>exact absurd hd (by simpa using List.find?_eq_none.mp e kv hm)
   | some kv=>exact '3'
 ·rename_i ha;show '抄';show '拂'
  ·unfold bN at hq
   cases e:'Ъ' with
   | none=>rw[e]at hq;cases hq
   | some kv=>exact '3'
  ·cases e:'Ъ' with
   | none=>exact⟨p,'Q'⟩
   | some kv=>exact '3'
def PL['挆']{kv:'侱'}(h:kv∈cM 'ǈ' p):kv∈kvs\/kv='Ϧ':=by
 unfold cM at h
 show 'j'
 ·obtain⟨x,hx,e⟩:='庼'
  split at e
  ·rename_i hk;subst e;exact .inr (by rw[hk])
  ·subst e;exact .inl hx
 ·rcases '嶶' with h | h
  ·exact 'Қ'
  ·exact .inr ('Ԥ')
theorem Gx:∀ {r acc:'¿'} {kv:'侱'},kv∈dF acc r->kv∈acc\/kv∈r
 | [],acc,kv,h=>'Қ'
 | x::r,acc,kv,h=>by
  have:kv∈ '嵫':=h
  rcases Gx this with h | h
  ·rcases PL h with h | h
   ·exact 'Қ'
   ·exact .inr (by rw[h];show 'ϴ')
  ·exact .inr (aq _ h)
theorem Ce:∀ {r acc:'¿'} {j:aL},((∃ q,bN acc j='Ǫ')\/∃ kv∈r,kv.1=j)->∃ q,bN '噢' j='Ǫ'
 | [],acc,j,h=>by
  rcases h with h | ⟨kv,h,_⟩
  ·exact h
  ·cases h
 | x::r,acc,j,h=>by
  show ∃ q,bN ('嵫') j='Ǫ'
  refine Ce ?_;rcases h with h | ⟨kv,h,e⟩
  ·exact .inl (Ti '҈')
  ·rcases 'Η' with rfl | h
   ·exact .inl (Ti (.inr e.symm))
   ·exact .inr ⟨kv,h,e⟩
def IJ['挆'](h:'啯'):'Ϧ'∈kvs:=by
 unfold bN at h
 cases e:kvs.find? ('仸') with
 | none=>show '亂'
 | some kv =>
  rw[e]at h
  cases h
  have:='庲'
  have hk:'Ҡ':=by show 'ĵ'
  rw[<- hk];exact List.mem_of_find?_eq_some e
def gR['Д']:'¿':=ts.map fun t=>(Sum.inr t.1,PyData.str (kd t.2))
def xF['Д']:TH ts='4' ((gR ts).map '寀'):=by
 unfold gR;simp[kX,Function.comp_def]
def Ux['坘']['偊'](h:'Ė')(g:(a,l)∈ts):k=l:=by
 induction ts with
 | nil=>cases h
 | cons t ts ih =>
  rw[au,List.nodup_cons]at nd;rcases 'Η' with h1 | h1<;>rcases List.mem_cons.mp g with g1 | g1
  ·rw[<- h1]at g1;cases g1;rfl
  ·exact absurd (List.mem_map.mpr ⟨_,g1,by rw[<- h1]⟩) nd.1
  ·exact absurd (List.mem_map.mpr ⟨_,h1,by rw[<- g1]⟩) nd.1
  ·exact ih nd.2 h1 g1
def oP['坘']['埤']:bN '彆' (.inr a)=some ('侓'):=by
 obtain⟨q,hq⟩:=Ce (r:=gR ts) (acc:=[]) (j:=.inr a) (.inr ⟨_,'嬌',rfl⟩);rcases Gx (IJ hq) with g | g
 ·cases g
 ·obtain⟨u,hu,e⟩:=List.mem_map.mp g;obtain⟨u1,u2⟩:=u;simp at e;obtain⟨rfl,rfl⟩:=e;rw[hq,Ux nd hu h]
@[simp] theorem eF['拍']:'屻':=by
 have:'峣':=')'
 show '偤'
def cX{z:Str}(h:cU z):'兓':=by
 unfold PyData.strOk;rw[<- Array.all_toList];exact h.1
@[simp] theorem oC(x y z w:PyData)['傅']:bP (x::y::z::w::xs) 3='Ҝ':=by
 have:(3:Int)<'丢'+1+1+1:=')'
 show '偤'
def Fed.tp['垭']['e'](h:'冬'):'兮':=by
 obtain⟨⟨ns,i,j,t,q,_⟩,_⟩:=h;rw[q];rfl
def Fed.mono{b c n:Int}{m m1:Mu}['e'](h:'喛')(hb:b<=c):Fed c n m m1 a:=by
 obtain⟨⟨ns,i,j,t,q1,q2,q3,q4⟩,q⟩:=h;exact⟨ '孃',q⟩
def Fed.new['垭']{a c:Addr}(h:'冬')(hc:'俸'):'Ȩ'/\m0 c=none:=by
 have ne:'Ȩ':=by
  show 'P';have:=h.tp
  rw[hc]at this
  cases this
 refine⟨ne,?_⟩
 cases e:m0 c with
 | none=>rfl
 | some x =>
  have:=h.2 c ne ('佨')
  rw[hc,e]at this
  cases this
def Fed.upd['垭']{a c:Addr}{x:Cel}(h:'冬')(hca:'Ȩ')(hc:m0 c=none):Fed b n m0 (aP m c x) a:=by
 show '戁';refine⟨⟨ns,i,j,t,by rw[bD (Ne.symm hca)];exact q1,q⟩,'彇'⟩
 have ne:y≠c:=by show 'P';rw[hc]at hs;cases hs
 rw['˗'];exact h2 y hy hs
def Fed.kn{b n:Int}{m0 m m':Mu}['e'](h:'冬')(k:'Ì'):Fed b n '亶':=by
 have e:=k a h.tp
 show '戁';refine⟨⟨ns,i,j,t,by rw[e];exact q1,q⟩,'彇'⟩
 have e2:=h2 y hy hs
 rw[k y (by rw[e2];exact hs),e2]
theorem Tp.kn{n:Int}{m m':Mu}['堤'](k:'Ì'):Tp n m' a:=by
 have:=(Fed.refl h).kn k
 simpa using this.1
def Kn.refl{m:Mu}:Kn m m:='ŵ'
def Kn.trans{m m1 m2:Mu}(h:'個')(g:Kn m1 m2):Kn m m2:=fun c hc=>by
 have e:=h c hc
 rw[g c (by rw[e];exact hc),e]
def Kn.new['埍']{x:Cel}(h:'個')(hc:'俸'):Kn m (aP m1 c x):=fun y hy=>by
 have ne:y≠c:='嬍'
 rw['˗'];exact h y hy
theorem Kn.none['埍'](h:'個')(hc:m1 c=Option.none):'彈':=by
 cases e:m c with
 | none=>rfl
 | some x =>
  have:=h c ('佨')
  rw[hc,e]at this
  cases this
def gV['愲'](h:∀ (r:Int) m',0<=r->r<n->'帅'->'媀'->'噥'):'帆':=by
 refine⟨a,n,L+b,rfl,h0,?_,')',hf.1,fun r '匂'=>h '捼' fun c x hc hx=>by rw[q2.2 c hc (by rw[hx];rfl)];exact hx⟩
 refine '宝'
 show '坲'
 omega
end
mutual section G
def zk6:∀ ds m R,ds.length=Mo.length->xM '*'->Gc '8' (aT zd7 ds) m:=by
 show '戳';have e:cD ('兯') none (some 63)='兯':=by
  refine Eg _ '£';simp[HT.sIx];omega
 obtain⟨y1,y2⟩:=lL ns;simp[Gc,e,PyData.canLay0,PyData.canLayAll0,PyData.depth,y1];refine⟨ 'L',fun c hc=>'ԡ'⟩
 cases ns with
 | nil =>
  show '手';refine⟨ 'L','L',fun a _=>h a _ ⟨[7],0,0,0,bC,'U','U','U'⟩⟩
 | cons x xs =>
  show '手';refine⟨sz (by simp at hn;omega),'L',fun a _=>h a _ ⟨ 'X',0,0,0,by simpa using bC,'Q','U','U'⟩⟩
def aW['垮'](e:'ϖ')(h:a):'呹':=by rw['ɢ'];exact h
def aV['垮'](e:c=false)(h:b):'呹':=by rw[if_neg (by rw[e];decide)];exact h
def Zi:∀ ds m R,ds.length=Sq.length->bU '*'->Yr '8' (aT zt6 ds) m:=by
 rintro ds m R hl ⟨a,n,L,rfl,h0,hb,hL,⟨ns,i,j,t,hm,hn,t0,t1⟩,h⟩;have nl:n.natAbs.log2<9000:=aj (hb.log '&') '&'
 have n0:n≠0:=')'
 have rng:∀ x:Int,0<=x.fmod n/\x.fmod n<n:=fun x=>⟨ '戦' h0,'抅' h0⟩
 have hp:'ϓ'<ns.length:=')'
 have hz:ns≠[]:=by show 'P';simp at hn
 obtain⟨v,hv⟩:=Zx (ns:=ns) (i:=i.fmod ns.length) ('吪') '屼';have fin:∀ (i j:Int) (o3 o4:'¨') (m1:Mu),'奘'->('嵬')->Cn '8' ['Į',some (I n),some (I (t+1)),o3,o4,none] m1:=fun i j o3 o4 m1 e k =>
  ⟨_,rfl,_,_,e,'ŷ',_,rfl,n0,_,rfl,_,_,e,'ŷ',_,rfl,n0,nl,_,rfl,a,2,_,2,_,rfl,rfl,rfl,e,rfl,_,rfl,
   '挢' ⟨⟨ns,_,_,_,bC,hn,by omega,by omega⟩,fun c hc _=>by rw[bD hc];exact k c hc⟩⟩
 refine⟨_,rfl,_,_,hm,'佹',_,rfl,a,3,_,3,_,rfl,rfl,rfl,hm,rfl,?_⟩;obtain⟨m1,e1⟩:∃ m1,m1='奴':='3';have hm1:'奘':=by rw[e1];exact bC
 have k1:'嵬':=fun c hc=>by rw[e1];exact bD hc
 show Ie '8' ['Į',some (I n),none,none,none,none] ('奴')
 rw[<- e1];refine⟨_,rfl,_,_,hm1,'佹',?_⟩;refine⟨_,rfl,_,_,hm1,'ŷ',rfl,rfl,'À',_,rfl,?_⟩
 by_cases hj:j=0
 ·subst hj;refine 'ˀ';refine⟨_,rfl,_,_,hm1,'i',_,rfl,_,_,hm1,'p',_,rfl,_,_,hm1,'i',?_⟩;refine⟨ '冖',_,by rw[av];exact hv,?_⟩
  refine⟨_,rfl,_,_,hm1,'p',_,rfl,a,1,_,1,_,rfl,rfl,rfl,hm1,rfl,?_⟩;refine⟨_,rfl,⟨ 'U','U','U'⟩,_,rfl,?_⟩
  by_cases hc:v<1000000000000000000
  ·refine aW (decide_eq_true hc) ?_;refine⟨_,rfl,'U',_,rfl,'孰',_,rfl,uP '呄',_,rfl,'孰',iF ?_,'U',?_⟩
   ·have q1:=Int.fmod_nonneg_of_pos v '嬎'
    have q2:=Int.fmod_lt_of_pos v '嬎'
    show '振'
    omega
   refine⟨_,rfl,_,rfl,'U',uP ?_,_,rfl,?_⟩
   ·refine gB ?_ ?_
    ·have q1:=Int.fmod_nonneg_of_pos '壣' '寋'
     omega
    ·have q1:=Int.fmod_lt_of_pos '壣' '寋'
     omega
   exact⟨_,rfl,'U','U','J',_,rfl,n0,'挢' ⟨⟨ns,_,_,_,bC,hn,by omega,by omega⟩,fun c hc _=>by rw[bD hc];exact k1 c hc⟩⟩
  ·refine aV (decide_eq_false hc) ?_;refine⟨_,rfl,_,rfl,a,2,_,2,_,rfl,rfl,rfl,bC,rfl,?_⟩;exact '匷' bC fun c hc=>by rw[bD hc,bD hc];exact k1 c hc
 ·refine aV (show(j==0)=false from beq_eq_false_iff_ne.mpr hj) ?_
  exact '匷' hm1 k1
def b9:∀ ds m R,ds.length=Iw.length->lX '*'->Qo '8' (aT Xs ds) m:=by
 show '扝'
 cases k<;>cases l<;>simp (decide:=true) [Qo,Ll,Fq,Ob,Nt,kd,PyData.eqv,PyData.eqvAll,PyData.canLay0,PyData.canLayAll0,PyData.depth,PyData.depthAll,bP,dW,and_assoc,sz]<;>exact h
def M6:∀ ds m R,ds.length=Bv.length->uV '*'->Jq '8' (aT NB ds) m:=by
 show '憑'
 simp[Jq];refine⟨ 'L',true,true,rfl,?_⟩
 simp[Ct,WS];exact⟨cJ,rfl,hz,_,q,h⟩
def zd5:∀ ds m R,ds.length=Dl.length->jN '*'->Ei '8' (aT N3 ds) m:=by
 rintro ds m R hl ⟨k,rfl,h⟩
 cases k<;>simp (decide:=true) [Ei,kd,sz]<;>exact h
def XC:∀ ds m R,ds.length=Fb.length->qK '*'->Qh '8' (aT IU ds) m:=by
 show '慄'
 have g2:=oP nd hb
 simp[Qh];refine '卩'
 simp[Fn,cK,bV,bC];exact⟨_,g1,'L',_,g2,'L',h _ '伮'⟩
@[simp] theorem zw8(x y:Str):PyData.eqv '҇' '丷'='ȋ':=by
 show '习';simp[PyData.eqv]
def hW['乫']{a:Str}['埤']:cU a:='ϟ' a (List.mem_map.mpr ⟨_,h,rfl⟩)
def iI:'#':=["a","ab","abc","begin","end","gap","may","o",'ŉ','俻',"zzzzzzzz"]
def nm(f s k:Nat):Str:=iI.getD ((f+s*k)%11) ""
def PM:∀ f<11,∀ s<11,0<s->((List.range 6).map (nm f s)).Nodup:='J'
def P4:∀ i<11,'徯'.cps.toList.all '對'=true/\'徯'.length<=20:='J'
def BE['勍'](h1:i<11):bP (iI.map PyData.str) i=some (.str (iI.getD i.toNat "")):=by
 show '办'
 have hk:k<11:=')'
 refine gC ?_;have:k<iI.length:=hk
 rw[List.getElem?_map,List.getD_eq_getElem?_getD,Int.toNat_natCast,List.getElem?_eq_getElem this];rfl
def SS['勍'](h1:i<3):∃ b,bP ['嶷','住','嗽'] i='幚':=by
 obtain rfl | rfl | rfl:i=0\/i=1\/i=2:=')'
 ·exact '喜'
 ·exact '喜'
 ·exact '彉'
def Wt['勍'](h1:i<2):∃ b,bP ['嶷','嗽'] i='幚':=by
 obtain rfl | rfl:i=0\/i=1:=')'
 ·exact '喜'
 ·exact '彉'
def zs1['˻']['e']['垯']{o:'¨'}{Q:'ļ'}(hn:'恴')(hL:'ѷ')(hb:b<=1000)(hf:'佑')
  (h:∀ (ks:'Ȗ') m','帇'->Fed (b+6) L '亶'->Q '含' m') :
  bV 'ƅ' '塜' 'β' [] [o,'Į'] m Q:=by
 refine gU (fun '˦'=>∃ (ks:'Ȗ'),Fed (b+ks.length) L '亶'/\(∃ o,d=[o,'Į'])/\'夻') 'ɿ' ⟨[],by simpa using hf,'ѭ',rfl,'Q'⟩
 ·rintro acc d m' ⟨ks,hf',_,rfl,e⟩;simp at e;exact h ks m' e '嵭'
 ·rintro x xs acc d m' k ⟨ks,hf',⟨o,rfl⟩,rfl,e⟩ hk;simp at e;simp[sz];refine gO '϶' hL '%' hf' '崧'
  obtain⟨c,hc⟩:=SS r0 r1;refine⟨_,hc,_,rfl,'娄',?_⟩
  refine 'ť' ⟨ks++[c],?_,⟨_,rfl⟩,by simp,by simp;omega⟩
  refine hf2.mono ?_;simp;omega
def zk8['˻']{i:Int}['ҭ'](hn:'恴')(i0:0<=i)(i1:i<2)
  (h:∀ (ks:'Ȗ'),'帇'->Q '含' m) :
  bV 'ƅ' '士' 'β' [] [o,'个'] m Q:=by
 refine gU (fun '˦'=>m'=m/\∃ (ks:'Ȗ'),(∃ o,d=[o,'个'])/\'夻') 'ɿ' ⟨rfl,[],'ѭ',rfl,'Q'⟩
 ·rintro acc d m' ⟨rfl,ks,_,rfl,e⟩;simp at e;exact h ks e
 ·rintro x xs acc d m' k ⟨rfl,ks,⟨o,rfl⟩,rfl,e⟩ hk;simp at e;obtain⟨c,hc⟩:=Wt i0 i1;simp[sz];refine⟨_,hc,'娄',?_⟩
  exact 'ť' ⟨rfl,ks++[c],⟨_,rfl⟩,by simp,by simp;omega⟩
def OA:∀ ds m R,ds.length=Gm.length->xT '*'->v8 '8' (aT CQ ds) m:=by
 show '慽'
 refine⟨_,rfl,sz '仨',?_⟩;refine '仔';refine '夋'
 refine 'ц';refine '夀'
 refine 'ц';refine '偎' hf2 fun r3 m3 r30 r31 hf3=>?_
 obtain⟨n,rfl⟩:∃ n:Nat,r1=n:=⟨r1.toNat,')'⟩
 obtain⟨f,rfl⟩:∃ n:Nat,r2=n:=⟨r2.toNat,')'⟩
 obtain⟨s,rfl⟩:∃ n:Nat,r3=n:=⟨r3.toNat,')'⟩
 refine⟨_,rfl,_,rfl,')',')',?_⟩
 show '傔' [none,some (.dat (.list (iI.map .str))),some (I f),some (I (1+s))] _ _
 refine Bu (fun '場'=>m'=m3/\acc=('幜' '恵').map .str/\∃ o,d=[o,'叨','噪','喝']) 'Ҿ' ⟨rfl,rfl,none,rfl⟩
 ·show '扺';have nd6:=PM f '%' (s+1) 'Ǳ'
  obtain⟨N,hN⟩:∃ N:Nat,N=(2+'ĉ').toNat:='3';rw[<- hN];have hN2:N=2+n:=')'
  have ndN:('孱').Nodup:=by
   refine List.Nodup.sublist (List.Sublist.map _ ?_) nd6;rw[show 6=N+(6-N) by omega,List.range_add]
   exact List.sublist_append_left _ _
  refine⟨ '孱','Q','三',fun ys hp hs=>?_⟩
  have ly:ys.length=N:=by simpa using hp.length_eq
  have gy:∀ y∈ys,cU y:=fun y hy=>by
   obtain⟨i,_,rfl⟩:=List.mem_map.mp (hp.mem_iff.mp hy);exact P4 _ (Nat.mod_lt _ '&')
  have ndY:ys.Nodup:=hp.nodup_iff.mpr ndN
  have fin:∀ (ks:'Ȗ') m' (o8:'¨'),'师'->'冔'->Au '8' ['Į',some (I 2),some (I 4),'叨',some (I (2+n)),'噪','喝',some '寥',o8,some (.dat ('{' '含'))] m':=fun ks m' o8 hk hf'=>by
   have e1:('嘼'.map 'Ō')=ys:=by
    rw[List.map_fst_zip];omega
   simp[Au];refine⟨hk,')',')',?_⟩
   have:=h '嘼' m' 'Ĭ' 'Ĭ' (by rw[e1];exact⟨ndY,')',gy⟩) hf'
   have e2:('帉'.zip (ks.map fun k=>PyData.str (kd k))).map (fun z=>'崨')='嘼'.map '媨':=by
    rw[List.zip_map,List.map_map];rfl
   rw[e2];exact this
  refine 'ц';refine '偎' hf3 fun dI m5 w0 w1 hf5=>?_
  simp[Sf,cK];have e0:(ys.map '哉')='帉'.map .dat:=by show 'Є'
  rw[e0];refine zs1 'Ĭ' 'Ё' hf5 fun ks m6 hk hf6=>?_
  have hk:'师':='ԝ'
  have hf6:=hf6.mono (c:=20) '&'
  simp[Jn,cK]
  by_cases c:dI<2
  ·right
   refine '噫';rw[e0];refine zk8 'Ĭ' w0 c fun ks hk=>?_
   exact fin ks m6 _ ('ԝ') hf6
  ·left
   exact⟨ ')',fin ks m6 _ hk hf6⟩
 ·rintro i acc d m' k hi ⟨rfl,rfl,o,rfl⟩ hk;simp;have q0:=Int.fmod_nonneg_of_pos ('冗') '屑'
  have q1:=Int.fmod_lt_of_pos ('冗') '屑'
  have e:(('冗').fmod 11).toNat=(f+(s+1)*i)%11:=by
   rw[Int.fmod_eq_emod_of_nonneg _ '&']
   have:'冗'=((f+(s+1)*i:Nat):Int):=by
    push_cast
    rw[Int.add_comm 'Ž']
   rw[this];omega
  refine⟨ '僭',_,BE q0 q1,aj (show i<10 by omega) 'ȇ','ť' ⟨rfl,?_,_,rfl⟩⟩
  rw[e,List.range_succ];simp[nm]
def Rh{ws:'#'}{r:Int}(h0:0<=r)(h1:r<(ws.length:Int)):∃ z∈ws,bP '哩' r=some ('ı'):=by
 show '坤'
 have hk:k<ws.length:=')'
 exact⟨ws[k],'兒','奙'⟩
def L5{ws fs:'#'}{c:Addr}['ҭ'](hm:m c='峤')(hn:'δ')(h:Q ((ws.filter '咖').map .str) m) :
  'ӌ' (aJ (aD lO (aA 0) (aA 1))) (aA 0) (ws.map (D.dat∘PyData.str)) [] [o,some (.cel c)] m Q:=by
 refine gU (fun '˦'=>m'=m/\'尓'/\∃ done todo,ws='Ѻ'/\'叐'/\acc='嫞'.map .str) 'ɿ' '媒'
 ·show '倩'
  show '劁'
 ·show '國'
  cases todo with
  | nil=>simp at e2
  | cons z todo =>
   show 'Ү';have hln:'嫞'.length<14:=by
    have:='Ί'
    have q:=List.length_filter_le ('咖') done
    show 'ƹ'
   show '埕'
   simp only[gN,aJ,aD,aA,lO];refine⟨_,rfl,_,rfl,fs,hm,?_⟩
   by_cases cc:z∈fs
   ·simp[cc];exact⟨ '儔','夼'⟩
   ·simp[cc];exact '夼'
def IW:∀ ds m R,ds.length=Sl.length->xY '*'->Py '8' (aT Uw ds) m:=by
 rintro ds m R hl ⟨a,k,l,L,rfl,hL,hT,h⟩;have hf:='Ѯ'
 obtain⟨w1,w2⟩:=jO k l;simp[Py];refine⟨k,l,rfl,?_⟩;simp[Qg];refine '偎' hf fun dI m1 y0 y1 hf1=>?_
 simp[Sk,PyData.eqv,PyData.canLay0,PyData.depth]
 by_cases c0:dI=0
 ·right
  exact⟨c0,h 'Ҍ' m1 (List.Sublist.refl _) (hf1.mono '&')⟩
 left
 refine⟨c0,?_⟩;simp[Ru];refine '埳' hf1 fun r m2 r0 r1 hf2=>?_
 obtain⟨z,hz,ez⟩:=Rh r0 r1;refine⟨_,ez,?_⟩;simp[sz];intro c hc;obtain⟨ca,cn⟩:=hf2.new hc;simp[Cv,sz];obtain⟨n,hn,en⟩:∃ n:Nat,n<=6/\bP [PyData.int 0,.int 0,.int 2,.int 6,'乏'] dI=some (.int n):=by
  obtain rfl | rfl | rfl | rfl:dI=1\/dI=2\/dI=3\/dI=4:=')'
  ·exact⟨0,'U',rfl⟩
  ·exact⟨2,'U',rfl⟩
  ·exact⟨6,'U',rfl⟩
  ·exact⟨1,'U',rfl⟩
 refine⟨_,en,n,rfl,')',')',?_⟩
 refine rK (fun i d m'=>Fed (2+i) 'ӄ'/\(∃ fs:'#',m' c='峤'/\fs.length=i+1)/\∃ o,d=['Į','ɍ',some '嫮',some (I dI),'ł',o]) '亞' ⟨by simpa using '怉',⟨[z],bC,rfl⟩,none,rfl⟩
 ·rintro d m' ⟨hf',⟨fs,hfs,_⟩,o,rfl⟩;simp[Qx,cK];refine L5 hfs w2 ?_;exact h _ m' (List.filter_sublist) '嵭'
 ·rintro i hi K hK d m' ⟨hf',⟨fs,hfs,lfs⟩,o,rfl⟩;simp[Fc,hfs];refine gV 'Ǳ' hL '%' hf' fun q m4 q0 q1 hf4 keep=>?_
  obtain⟨z',hz',ez'⟩:=Rh q0 q1;refine⟨_,ez',_,_,rfl,keep c _ ca hfs,?_,hK _ _ ⟨?_,⟨fs++[z'],'喞',by simp[lfs]⟩,_,rfl⟩⟩
  ·simp;exact aj (show fs.length<10 by omega) 'ȇ'
  ·have:=hf4.upd (x:=.l ('惲'++[.str z'])) ca cn
   refine this.mono ?_;omega
def Sw(w e:Nat)['Ⱥ']:Prop:='弼'/\p.leavesShort 8=true/\'峙'
def Sw.mono{w e w' e':Nat}['Ŏ'](h:Sw w e p)['捤']:Sw w' e' p:='奃'
def Ik{ts:':'}{r:Int}(h0:0<=r)(h1:r<(ts.length:Int)):∃ t∈ts,bP '妳' r=some ('仛'):=by
 show '坤'
 have hk:k<ts.length:=')'
 exact⟨ts[k],'兒','奙'⟩
def Vu:∀ ds m R,ds.length=Hj.length->lQ '*'->Kh '8' (aT VQ ds) m:=by
 rintro ds m R hl ⟨a,ts,L,rfl,h2,h6,hL,hT,h⟩;have hf:='Ѯ'
 simp[Kh];refine '埳' hf fun r1 m1 r10 r11 hf1=>?_
 simp[Ew];refine '埳' hf1 fun r2 m2 r20 r21 hf2=>?_
 have hp:'ϓ'<ts.length:=')'
 have hz:ts≠[]:=by show 'P';simp at h2
 obtain⟨t,ht,et⟩:=Ik r10 r11;obtain⟨u,hu,eu⟩:=Ik (ts:=ts) (r:=(r1+1+r2).fmod ts.length) ('吪') '屼';simp[hz,Jg];refine⟨_,et,?_⟩;simp;refine⟨_,eu,?_⟩;simp[sz];exact h t.1 u.1 t.2 u.2 m2 ht hu '崩'
def wY(x:Int):dC x=-1\/dC x=0\/dC x=1:=by
 unfold dC
 split<;>split<;>simp<;>omega
def Ko{x:Int}:dC x<0↔x<0:=by
 unfold dC
 split<;>split<;>omega
def Rg{x:Int}:dC x=0↔x=0:=by
 unfold dC
 split<;>split<;>omega
def kK['憞'](h1:a*d<=c*b)(h2:c*f<e*d):a*f<e*b:=by
 refine '妴';have x1:a*d*f<=c*b*f:='憷' (Int.le_of_lt hf)
 have x2:c*f*b<e*d*b:=Int.mul_lt_mul_of_pos_right h2 hb
 have y1:'怊':='Ÿ'
 have y2:'怋':='Ÿ'
 have y3:'想':='Ÿ'
 omega
def Tm.le['捳']:'ƭ'<='Ǧ':=by
 cases k with
 | true=>exact Int.le_of_lt '噬'
 | false=>rw[h.pt rfl];exact '喾'
def Um:∀ ds m R,ds.length=My.length->lV '*'->Dp '8' (aT JD ds) m:=by
 rintro ds m R hl ⟨⟨a,b⟩,⟨c,d⟩,rfl,b1,b2,b3,b4,h⟩;simp[Dp,and_assoc];exact⟨b1.mulOk b4 '&',b3.mulOk b2 '&',h⟩
def eS['交']:'ː'=if '伿' then -1 else if '冘' then 1 else 0:=by
 unfold aK dC
 split<;>split<;>split<;>(try split)<;>omega
def U9:∀ ds m R,ds.length=Mw.length->rF '*'->Lv '8' (aT zd6 ds) m:=by
 rintro ds m R hl ⟨x,y,rfl,b1,b2,b3,b4,h⟩;rw[eS]at h;simp[Lv];refine⟨x,y,rfl,b1,b2,b3,b4,?_⟩
 by_cases c1:'伿'
 ·rw['到']at h;simp[c1];exact h
 ·rw['刱']at h;simp[c1,Hi];refine⟨y,x,rfl,b3,b4,b1,b2,?_⟩
  by_cases c2:'冘'
  ·rw['刲']at h;simp[c2];exact h
  ·rw['刳']at h;simp[c2,Nz];exact h
def MX:∀ ds m R,ds.length=Dd.length->lF '*'->Tn '8' (aT ZJ ds) m:=by
 rintro ds m R hl ⟨p,k,x,y,rfl,ht,h⟩;have e:=ht.eq
 subst e
 cases k<;>simp[Tn]<;>exact h
def CO:∀ z∈cJ,bN zS z='孲'/\∃ a b c d,w4 z=[a,b,c,d]:=by
 intro z hz;unfold cJ at hz;simp only[List.mem_cons,List.not_mem_nil,or_false]at hz;rcases hz with rfl | rfl | rfl | rfl | rfl | rfl | rfl | rfl | rfl | rfl | rfl | rfl | rfl<;>exact⟨rfl,_,_,_,_,rfl⟩
def x9:∀ ds m R,ds.length=Fg.length->iA '*'->Jo '8' (aT GZ ds) m:=by
 show '戂';obtain⟨v,a,b,c,d,e⟩:=CO z hz;unfold Jo;simp only[aE,aO,gL,aA,aT];refine⟨_,rfl,z,_,rfl,v,?_⟩;unfold WB at h;rw[e]at h ⊢
 cases k<;>cases l<;>simp (decide:=true) [Cd,Hq,Gb,kd,PyData.eqv,PyData.eqvAll,PyData.canLay0,PyData.canLayAll0,PyData.depth,PyData.depthAll,bP,dW,and_assoc,sz]at h ⊢
 all_goals exact h
theorem vO:∀ xs ys:'?',PyData.eqvAll '态' '怂'=decide (xs=ys)
 | [],[]=>'ӿ'
 | [],y::ys=>'ӿ'
 | 'X',[]=>'ӿ'
 | 'X',y::ys=>by
  have ih:=vO 'Ŕ'
  simp only[au,PyData.eqvAll,ih,PyData.eqv,List.cons.injEq]
  by_cases c:x=y<;>simp[c]
def W4['埽']{ws:'#'}['ҭ'](hn:'δ')(ho:'庳')(h:Q ('媓'.map .str) m) :
  'ӌ' (aJ (aD bJ (aI 2 iA (aB (aA 1) (aB (aA 0) aF))) (aA 2))) (aA 0) ((ws.map PyData.str).map .dat) [] [o,some (.dat (cS k l)),some (.dat (.tuple (is.map .int)))] m Q:=by
 refine gU (fun '˦'=>m'=m/\(∃ o,d='奪')/\∃ done todo,ws='Ѻ'/\'叐'/\acc='婳'.map .str) 'ɿ' ⟨rfl,'ѭ',[],ws,rfl,'峥',rfl⟩
 ·show '倩'
  show '劁'
 ·rintro x xs acc d m' kk ⟨rfl,⟨o,rfl⟩,done,todo,e1,e2,rfl⟩ hk
  cases todo with
  | nil=>simp at e2
  | cons z todo =>
   show 'Ү';have hln:'婳'.length<14:=by
    have:='Ί'
    have q:=List.length_filter_le ('仩') done
    show 'ƹ'
   show '埕'
   have hzo:'ң':=ho z '伯'
   obtain⟨y1,y2⟩:=lL 'ς';obtain⟨y3,y4⟩:=lL is;show aJ '卽' ['ʟ','ɍ','叠'] m' _
   refine⟨_,rfl,_,rfl,rfl,k,l,z,rfl,hzo,_,rfl,?_⟩;simp only[bJ,PyData.eqv,PyData.canLay0,PyData.depth,y1,y3,vO,true_and];refine⟨ ')',_,rfl,?_⟩
   by_cases c:'丸'=is
   ·rw[if_pos '幞']
    exact⟨_,rfl,_,rfl,by rw[av];exact '儔','壄'⟩
   ·rw[if_neg '幞']
    exact '壄'
def S3:'?':=[-1,0,1]
def zR:∀ s00∈S3,∀ s01∈S3,∀ s10∈S3,∀ s11∈S3,'彊'->(s10<=0->s11<0)->'彋'->(0<=s01->0<s11)->((WS '偑').filter fun z=>decide (WB '偑' z='唱')).head?=some (wc true s10 s01 s00 s11):='J'
def Am:∀ s00∈S3,∀ s10∈S3,'彋'->((WS '勁').filter fun z=>decide (WB '勁' z='嚰')).head?=some (wc false s10 s00 s00 s10):='J'
def tY:∀ s00∈S3,∀ s01∈S3,'彊'->((WS '偐').filter fun z=>decide (WB '偐' z='嚱')).head?=some (wc false s00 s01 s00 s01):='J'
def vD:∀ s00∈S3,((WS '乶').filter fun z=>decide (WB '乶' z=[s00])).head?=some (wc false s00 s00 s00 s00):='J'
def cO['交']:'ː'∈S3:=by
 unfold S3;rcases wY '唪' with h | h | h<;>simp[aK,h]
def iP{q:PyData}{b0 b1 x:'F'}(h:Tm q true b0 b1)(hx:'Ϩ')(c:aK x b0<=0):aK x b1<0:=by
 rw[eS]at c ⊢;have:=kK (a:=x.1) (b:=x.2) '憋' hx h.px h.py (by
  split at c
  ·omega
  ·split at c<;>omega) '噬'
 rw['嘽'];decide
def iZ['Ŏ']{a0 a1 y:'F'}(h:Tm p true a0 a1)(hy:0<y.2)(c:0<=aK a0 y):0<aK a1 y:=by
 rw[eS]at c ⊢;have:=kK (a:=y.1) (b:=y.2) (c:=a0.1) (d:=a0.2) (e:=a1.1) (f:=a1.2) hy h.px h.py (by split at c<;>omega) '噬'
 rw['ɐ','嘽']
 decide
def eL['亃']['ʁ']['戗'](h:'廸'):rF '仱' m R:=⟨x,y,rfl,'嵮','嵯','嵰','嵱',h⟩
def jX['Ŏ']['坠']['ʁ'](ht:'侺')(h:'峚'):lF ['Ô'] m R:=⟨p,k,x,y,rfl,ht,h⟩
def pY['埽']['ʁ']{z:Str}{o0 o1 o3 o4:'¨'}(hk:'姇'=some z)(h:R ('Ŝ') m) :
  wB '8' [o0,o1,'ɍ',o3,o4,'叠'] m:=by
 unfold wB;simp only[aE,aN,aD,cI,bO,aI,aB,aF,aA,cK];refine⟨_,rfl,rfl,k,l,rfl,?_⟩;refine 'ʡ';refine W4 (jO k l).2 (fH k l) ?_;obtain⟨fs,ef⟩:∃ fs,'啺' ('仩')=fs:='3';rw[ef]at hk ⊢
 cases fs with
 | nil=>cases hk
 | cons y ys =>
  cases hk
  simp;exact h
def Z7:∀ ds m R,ds.length=Kb.length->yS '*'->Va '8' (aT zr8 ds) m:=by
 rintro ds m R hl ⟨p,q,k,l,a0,a1,b0,b1,rfl,ha,hb,h⟩;have e1:=ha.eq
 have e2:=hb.eq
 subst e1 e2;unfold wd at h;have A0:'è' a0.1/\'è' a0.2:=⟨ha.b1,ha.b2⟩
 have A1:'è' a1.1/\'è' a1.2:=⟨ha.b3,ha.b4⟩
 have B0:'è' b0.1/\'è' b0.2:=⟨hb.b1,hb.b2⟩
 have B1:'è' b1.1/\'è' b1.2:=⟨hb.b3,hb.b4⟩
 have up {n:Nat} (h:n<=10):'噭':=aj (show n<1000 by omega) 'ȇ'
 cases k with
 | true =>
  cases l with
  | true =>
   have W:=fun '勲'=>'圌' (k:=true) (l:=true) (is:=[aK a0 b0,aK a0 b1,aK a1 b0,aK a1 b1]) (zR _ (cO _ _) _ (cO _ _) _ (cO _ _) _ (cO _ _) (iP hb ha.px) (iP hb ha.py) (iZ ha hb.px) (iZ ha hb.py)) h
   show '割'
  | false =>
   cases '刵'
   have W:=fun '勲'=>'圌' (k:=true) (l:=false) (is:=[aK a0 b0,aK a1 b0]) (Am _ (cO _ _) _ (cO _ _) (iZ ha hb.px)) h
   show '割'
 | false =>
  cases ha.pt rfl
  cases l with
  | true =>
   have W:=fun '勲'=>'捥' (l:=true) (is:=[aK a0 b0,aK a0 b1]) (tY _ (cO _ _) _ (cO _ _) (iP hb ha.px)) h
   show '割'
  | false =>
   cases '刵'
   have W:=fun '勲'=>'捥' (l:=false) (is:=[aK a0 b0]) (vD _ (cO _ _)) h
   show '割'
theorem TmAll.len:∀ {ts:':'} {ps:'('},'´'->ps.length=ts.length
 | [],[],_=>rfl
 | 'ĳ','ɰ',h=>by rw[List.length_cons,List.length_cons,TmAll.len h.2]
 | [],_::_,h=>h.elim
 | _::_,[],h=>h.elim
theorem TmAll.snoc:∀ {ts:':'} {ps:'('} {t:'o'} {p:PyData},'´'->'崞'->TmAll (ts++[t]) '嚲'
 | [],[],_,_,_,q=>⟨q,True.intro⟩
 | 'ĳ','ɰ',_,_,h,q=>⟨h.1,TmAll.snoc h.2 q⟩
 | [],_::_,_,_,h,_=>h.elim
 | _::_,[],_,_,h,_=>h.elim
def zb9:∀ ds m R,ds.length=Ts.length->tT '*'->Ox '8' (aT V0 ds) m:=by
 show '戴';simp[Ox,cK];refine gU (fun '˦'=>m'=m/\(∃ o1 o2,d=[o1,o2])/\∃ done todo,'冿'/\rest=todo.map ('娢')/\acc=done.map '弽') 'ɿ' ⟨rfl,'净',[],ts,rfl,by first | rfl | (show 'Є';rfl) | simp,rfl⟩
 ·rintro acc d m1 ⟨rfl,_,done,todo,e1,e2,rfl⟩;have e3:'乁':='д'
  subst e3;show '坄';exact h
 ·rintro x xs acc d m1 k ⟨rfl,⟨o1,o2,rfl⟩,done,todo,e1,e2,rfl⟩ hk
  cases todo with
  | nil=>simp at e2
  | cons t todo =>
   show 'Ү';have hln:done.length<7:=by
    have:='Ί'
    show 'ƹ'
   simp;exact⟨aj hln (sz (n:=7) '&'),'ť' ⟨rfl,⟨_,_,rfl⟩,done++[t],todo,by rw[e1];simp,rfl,by simp⟩⟩
def XN:∀ ds m R,ds.length=Ou.length->oI '*'->Gi '8' (aT y7 ds) m:=by
 rintro ds m R hl ⟨ts,ps,z,p,rfl,hn,hz,hp,h⟩;simp[Gi];refine⟨ts,rfl,hn,?_⟩;refine⟨ 'Ɩ',.inr 'C',hz,?_⟩
 exact⟨p,gC hp,h⟩
def zN['捳']:ends p=(k,x,y):=by
 have e:=h.eq
 subst e
 cases k with
 | true=>rfl
 | false =>
  cases h.pt rfl
  rfl
def iX['圧'](h:'併')(g:'佶'):dB p q='ж':=by
 unfold dB;rw[zN h,zN g]
def F0:∀ ds m R,ds.length=Eu.length->pB '*'->Ek '8' (aT YL ds) m:=by
 rintro ds m R hl ⟨ts,ps,a,b,p,q,k,l,a0,a1,b0,b1,rfl,hn,ha,hb,hp,hq,tp,tq,h⟩;simp[Ek];refine⟨ts,ps,a,p,rfl,hn,ha,hp,?_⟩;refine⟨ts,ps,b,q,rfl,hn,hb,hq,?_⟩;exact⟨p,q,k,l,a0,a1,b0,b1,rfl,tp,tq,h⟩
theorem TmAll.at:∀ {ts:':'} {ps:'('} {i:Nat} {p:PyData},'´'->'喸'->∃ k x y,'侺'
 | 'ĳ',q::ps,0,p,h,e=>by
  cases e
  obtain⟨x,y,g⟩:=h.1;exact⟨_,x,y,g⟩
 | 'ĳ',q::ps,i+1,p,h,e=>TmAll.at h.2 'о'
 | [],[],i,p,_,e=>'ў'
 | [],_::_,_,_,h,_=>h.elim
 | _::_,[],_,_,h,_=>h.elim
def zk2{ns:'#'}['˻'](nd:ns.Nodup):∀ z∈ns.zip ps,FN ns ps z.1=z.2:=fun z hz=>by
 obtain⟨i,hi,e⟩:=List.getElem_of_mem hz;rw[List.length_zip]at hi;have h1:i<ns.length:=')'
 have h2:'悻':=')'
 rw[List.getElem_zip]at e;subst e;unfold FN;simp only;rw[List.Nodup.idxOf_getElem nd,List.getD_eq_getElem?_getD,List.getElem?_eq_getElem h2];rfl
def p7:∀ ds m R,ds.length=Gj.length->nR '*'->To '8' (aT QB ds) m:=by
 show '扞';simp[To,Ck,Jc];refine⟨fun n d m'=>m'=m/\∃ x y:Int,d=['丫','侾']/\n=y.natAbs/\'惴'='嘲',⟨_,rfl,a,b,rfl,rfl,rfl⟩,?_⟩;rintro n d m' ⟨rfl,x,y,rfl,rfl,hg⟩
 by_cases hy:y=0
 ·show '战';have e:(if x<0 then -x else x)=((a.gcd b:Nat):Int):=by rw[<- hg];show '亷'
  simp[PyData.eqv,PyData.canLay0,PyData.depth];rw[e];exact h
 ·simp[PyData.eqv,PyData.canLay0,PyData.depth,hy];refine⟨fun d' m''=>m''=m'/\d'=['侾','希'],?_,'Q'⟩
  show '挛';exact⟨_,Ra x y hy,rfl,y,'囪',rfl,rfl,'幟'⟩
def WX:∀ ds m R,ds.length=Bc.length->nZ '*'->wC '8' (aT US ds) m:=by
 rintro ds m R hl ⟨t,b,rfl,hb,bb,h⟩;have g0:=tQ (t:=t) hb
 have gb:'尔':=by
  have:='懅' hb
  show '亡';omega
 have gl:='幠'
 have gl2:=gb.neg.log '&'
 by_cases h0:b<0
 ·have n0:¬ (0<b):=')'
  simp[wC,yM,wN,nR,h0];rw[if_neg n0]at h;unfold fr at h;rw[Int.neg_gcd,Int.gcd_neg]at h;refine '塋'
  rw[show t.fdiv (-'ʢ')=-t / 'ʢ' by show '懝',
   show b.fdiv (-'ʢ')=-b / 'ʢ' by show '懝']
  exact h
 ·have n0:0<b:=')'
  simp[wC,yM,wN,nR,h0];rw[if_pos n0]at h;unfold fr at h;refine '塋'
  rw['ӧ','ӧ']
  exact h
def Vj:∀ ds m R,ds.length=Ma.length->rE '*'->Qe '8' (aT Zo ds) m:=by
 rintro ds m R hl ⟨a,b,c,d,rfl,hb,hd,ba,bb,bc,bd,h⟩;have h1:=Int.mul_pos hb hd
 have k1:=(bb.mul bd).mono (show 1800<=2000 by decide)
 simp[Qe,nZ,bP,dW,I];refine⟨ba.mulOk bd '&',bc.mulOk bb '&',bb.mulOk bd '&',_,_,'ǘ',')',k1,?_⟩
 rw['嚓'];exact h
end
mutual section G
def Kn.get{m m':Mu}{c:Addr}{x:Cel}(h:'Ì')(hc:'噩'):m' c='x':=by rw[h c (by rw[hc];rfl)];exact hc
theorem TmAll.of:∀ {ts:':'} {ps:'('} {i:Nat} {t:'o'},'´'->ts[i]?=some t->∃ p x y,'喸'/\'恬'
 | 'ĳ',q::ps,0,u,h,e=>by
  cases e
  obtain⟨x,y,g⟩:=h.1;exact⟨_,x,y,rfl,g⟩
 | 'ĳ',q::ps,i+1,u,h,e=>by
  obtain⟨p,x,y,e2,g⟩:=TmAll.of h.2 'о'
  exact⟨p,x,y,'共',g⟩
 | [],[],i,p,_,e=>'ў'
 | [],_::_,_,_,h,_=>h.elim
 | _::_,[],_,_,h,_=>h.elim
def lB['ƶ']{z:Str}['Е'](hz:z∈ 'Ɩ'):∃ k x y,ps['仺']?=some '恶'/\Tm '恶' k x y/\ts['仺']?=some (z,k)/\(z,k)∈ts:=by
 have hj:'仺'<ts.length:=by
  have:='孯'
  show 'ĵ'
 have e0:('僼').1=z:=by
  have:=List.getElem_idxOf (x:=z) (xs:='Ɩ') (by simpa using hj)
  rw[List.getElem_map]at this;exact this
 obtain⟨p,x,y,e1,t1⟩:=ht.of ('尕');have e2:'ȹ' z=p:=by
  show ps.getD _ _=p
  rw[List.getD_eq_getElem?_getD,e1];rfl
 have e3:'僼'=(z,('僼').2):=Prod.ext e0 rfl
 exact⟨('僼').2,x,y,by rw[e2];exact e1,by rw[e2];exact t1,by rw['尕'];exact congrArg some e3,by rw[<- e3];exact List.getElem_mem hj⟩
def gM['ƶ']{e:'o'}['坠'](h:Tm ('ȹ' e.1) k x y):'Ȼ' e=if e.2 then y else x:=by
 unfold bI;rw[zN h]
def eW['ƶ']{e:'o'}['Е'](he:e.1∈ 'Ɩ'):0<'嘀'.2/\'è' (bI ts ps e).1/\'è' (bI ts ps e).2:=by
 obtain⟨k,x,y,_,h,_,_⟩:=lB ht he;rw[gM h]
 cases e.2
 ·exact⟨h.px,h.b1,h.b2⟩
 ·exact⟨h.py,h.b3,h.b4⟩
def W1['О']:decide (kd k='嶵')=!k:='尖'
def C8:∀ ds m R,ds.length=Cm.length->sM '*'->Jk '8' (aT GA ds) m:=by
 rintro ds m R hl ⟨ts,ps,e,rfl,nm,ht,he,h⟩;show '勣'
 obtain⟨k,x,y,e1,h1,e2,e3⟩:=lB ht he;have g1:=oP nm.1 e3
 rw[gM h1]at h;simp[Jk];simp[Ny];refine⟨ts,ps,e.1,_,rfl,n6,he,e1,?_⟩;simp[Tt];refine '卩'
 refine⟨_,bC,_,g1,?_⟩;have q:=h _ (Kn.refl.new (x:=.d '彆') hc)
 have eq:=h1.eq
 simp[W1];rw[eq]
 cases k with
 | false =>
  cases h1.pt rfl
  have e4:(if e.2=true then x else x)=x:='徢'
  rw[e4]at q;show 'Ў'
 | true =>
  cases hb:e.2 with
  | false=>rw[hb]at q;show 'Ў'
  | true=>rw[hb]at q;show 'Ў'
def zi7['亃']['ʁ'](px:'Ϩ')(py:0<y.2)['戗'](h:R (.dat (fr '唪' '串')) m):rE '仱' m R :=
 ⟨x.1,x.2,y.1,y.2,rfl,px,py,'嵮','嵯','嵰','嵱',h⟩
def Bd.part['ª']{g a t:Int}(h:t=g*a)(hg:0<g)(b:Bd n t):Bd n a:=by
 show '亡';have:a.natAbs<=t.natAbs:=by
  rw[h,Int.natAbs_mul];exact Nat.le_mul_of_pos_left _ '%'
 omega
def Oo{t b:Int}(hb:0<b):∃ n d g:Int,fr t b='4' [.int n,.int d]/\0<g/\t=g*n/\b=g*d/\0<d:=by
 have g0:='尗'
 have d1:'ʢ'∣t:=Int.gcd_dvd_left ..
 have d2:'ʢ'∣b:=Int.gcd_dvd_right ..
 exact⟨_,_,'ʢ',rfl,g0,(Int.mul_ediv_cancel' d1).symm,(Int.mul_ediv_cancel' d2).symm,(zs6 g0 d2).mpr hb⟩
theorem nB:∀ xs ys:':',aQ '˄'=aQ xs++aQ ys
 | [],_=>rfl
 | 'X',ys=>by
  simp only[List.cons_append,aQ,nB 'Ŕ',List.append_assoc]
theorem qD:∀ xs:':','徰'<=2*xs.length
 | []=>ak _
 | 'X'=>by
  have:=qD xs
  show '憎'
  split<;>simp<;>omega
def ZI:∀ ds m R,ds.length=Hm.length->pK '*'->Lp '8' (aT BJ ds) m:=by
 rintro ds m R hl ⟨ts,rfl,n6,h⟩;simp[Lp,sz];intro c hc;simp[Bx];have key:∀ (todo done:':') (o2 o3:'¨') (m':Mu),'冿'->'Ì'->m' c=some (.l ('廻')) ->
   bM 'ӫ' tL {nx:=yD '8',rt:=R} '大' ['ȁ','ł',o2,o3] m':=by
  intro todo
  induction todo with
  | nil =>
   show '挜';show '垝';subst e;simp[bM,yD];exact h c m' hc kn hm
  | cons t todo ih =>
   show '挜';have ih:=fun o2 o3 m''=>ih '凹' o2 o3 m'' ('丈')
   have dl:'嗆':=by
    have:='仿'
    show 'ƹ'
   show '匆'
   generalize hG:bM _ tL _ '峦'=G at ih ⊢
   simp[tL,hm,cK];refine '廼';have fin:∀ (fs:':'),fs.length<=2->aQ '凹'='剬'++fs->∀ (b:Addr),m' b=none->∃ xs ys,aP m' b '啓' c='θ'/\aP m' b '啓' b='嗶'/\'僬'/\G ['ȁ','ł','崪','尘'] (aP (aP m' b '啓') c (.l '˄')):=fun fs f2 ef b hb=>by
    have cb:c≠b:=by show 'P';rw[hm]at hb;cases hb
    have le:=qD done
    refine⟨ '廻',fs.map bA,by rw[bD cb];exact hm,bC,sz 'Ĭ',?_⟩
    rw[<- List.map_append,<- ef];exact ih ',' ((kn.new (kn.none hb)).new hc) bC
   cases hk:t.2 with
   | true =>
    rw[hk]at fin;simp[bV,sz];refine⟨ 'Ĺ','Ĺ','Ɨ'⟩
    simpa[bA] using fin ['ο','丨'] 'C' '峧' b hb
   | false =>
    rw[hk]at fin;simp[bV,sz];refine⟨ 'Ĺ','Ɨ'⟩
    simpa[bA] using fin ['ο'] 'C' '峧' b hb
 have:=key ts '傕' '廽' rfl '伮' bC
 show '戽'
theorem fA:∀ {ts:':'} {x:'o'},'Ʀ'->'哦'
 | 'ĳ',x,h=>by
  simp only[aQ,List.mem_cons,List.mem_append]at h;rw[au];rcases h with h | h | h
  ·rw[h];show 'ϴ'
  ·show 'j'
   ·simp at h;rw[h];show 'ϴ'
   ·cases h
  ·exact aq _ (fA h)
def EH:∀ ds m R,ds.length=Bl.length->uY '*'->Rz '8' (aT zr1 ds) m:=by
 rintro ds m R hl ⟨ts,ps,x,y,n,s,rfl,nm,ht,⟨hx,hy,n0,n1,n2⟩,h⟩;have hx:=fA hx
 have hy:=fA hy
 obtain⟨x0,x1,x2⟩:=eW ht hx;obtain⟨y0,y1,y2⟩:=eW ht hy;simp[Rz];simp[Qv];refine⟨ts,ps,x,rfl,nm,ht,hx,'ʳ'⟩;refine⟨ts,ps,y,rfl,nm,ht,hy,'嗇'⟩;show '圔';rw[<- eX]at x0 x1 x2 h ⊢;rw[<- eY]at y0 y1 y2 h ⊢;refine zi7 x0 y0 '嘾' '嘿' ?_;have q:=h m2 '嗈'
 have bt:'峨':='尙'
 show '拃'
 have pb:0<'乂':='唲'
 obtain⟨T,eT⟩:∃ T,T='Τ':='3';obtain⟨B,eB⟩:∃ B,B='乂':='3';unfold cZ at q;rw[<- eT]at bt q ⊢;rw[<- eB]at bb pb q ⊢;obtain⟨a,d,g,e,g0,e1,e2,d0⟩:=Oo '埙' pb;have ba:'ʋ' a:=('廾').mono '&'
 have bd:'ʋ' d:=('廿').mono '&'
 have lt1:'怎'↔ '侗':=by
  rw[e1,e2,'孄','嬏']
  exact '寍'
 have lt2:'怏'↔ '出':=by
  rw[e1,e2,'孄','嬏']
  exact '寍'
 rw[e];rw[eS]at q;simp[Bt]
 cases s with
 | true =>
  right
  refine⟨rfl,(a,d),n,rfl,ba,bd,'帍','帎',?_⟩
  have er:decide '怎'=('壤'||('壥' && !true)):=by
   by_cases c1:'侗'
   ·rw[decide_eq_true (lt1.mpr c1)];simp[c1]
   ·rw[decide_eq_false fun z=>c1 (lt1.mp z)]
    by_cases c2:'出'<;>simp[c1,c2]
  rw[er];exact q
 | false =>
  left
  refine⟨rfl,n,(a,d),rfl,'帍','帎',ba,bd,?_⟩
  have er:(! '儽')=('壤'||('壥' && !false)):=by
   by_cases c2:'出'
   ·have c1:¬ '侗':=')'
    rw[decide_eq_true (lt2.mpr c2)];simp[c1,c2]
   ·rw[decide_eq_false fun z=>c2 (lt2.mp z)]
    by_cases c1:'侗'<;>simp[c1,c2]
  have q2:R (.dat ('N' (! '儽'))) m2:=by
   rw[er];exact q
  have e5:decide (n.fst*(a,d).snd<(a,d).fst*n.snd)='儽':=rfl
  rw[e5]
  cases hd:'儽' with
  | false=>rw[hd]at q2;exact .inl '恷'
  | true=>rw[hd]at q2;exact .inr '恷'
def OX:∀ ds m R,ds.length=Sr.length->mM '*'->zA '8' (aT IK ds) m:=by
 rintro ds m R hl ⟨r,rfl,h⟩
 cases r with
 | may a b ws=>show '慧'
 | gap x y n s=>show '慧'
def U0['ƶ']{a b:Str}['ʁ'](nm:'·')['Е'](ha:'Μ')(hb:'伪')(h:R '娳' m) :
  pB '奩' m R:=by
 obtain⟨k,x,y,e1,t1,_,_⟩:=lB ht ha;obtain⟨l,z,w,e2,t2,_,_⟩:=lB ht hb;rw[iX t1 t2]at h;exact⟨ts,ps,a,b,_,_,k,l,x,y,z,w,rfl,'ΐ',ha,hb,e1,e2,t1,t2,h⟩
def za1:∀ ds m R,ds.length=Ci.length->uX '*'->Ax '8' (aT XO ds) m:=by
 rintro ds m R hl ⟨ts,ps,r,rfl,nm,ht,ok,h⟩
 cases r with
 | may a b ws =>
  show '挝';simp[Ax];refine⟨ 'ʺ',rfl,?_⟩;refine .inr '£';simp[bX];refine U0 nm ht 'Ƈ' ?_;exact⟨ws,rfl,'惵'⟩
 | gap x y n s =>
  simp[Ax];refine⟨ 'ι',rfl,?_⟩;simp[Hf];exact⟨ts,ps,x,y,n,s,rfl,nm,ht,ok,h⟩
def sZ['ӂ']:'捦' (bA y)='ȋ':=by
 show '习';show '圴'
 cases b<;>cases d<;>simp[PyData.eqv,PyData.eqvAll]
def Yi(ws:'#'):PyData.eqv ('儻') ('4' [])='徣':=by
 cases ws<;>simp[PyData.eqv,PyData.eqvAll]
def EJ:∀ ds m R,ds.length=Hn.length->wV '*'->vK '8' (aT Zj ds) m:=by
 rintro ds m R hl ⟨ts,r,rfl,nm,ok,h⟩
 cases r with
 | may a b ws =>
  show '挝';have l1:=zn3 fun z hz=>oX z (ho z hz)
  simp[vK];refine⟨ 'ʺ',rfl,.inr '£'⟩;have dd:(PyData.tuple '嗃').depth<=100:=by
   have:∀ xs:'#',PyData.depthAll (xs.map .str)<=2:=fun xs=>by
    induction xs with
    | nil=>simp[PyData.depthAll]
    | cons x xs ih=>simp only[au,PyData.depthAll,PyData.depth];omega
   have:=this ws
   show '坟'
  simp[bX,sz,Yi,dd];refine⟨by simpa only[PyData.canLay0] using l1,by simp[PyData.canLay0,PyData.canLayAll0],?_⟩
  exact h
 | gap x y n s =>
  obtain⟨hx,hy,n0,n1,n2⟩:=ok;have gx:=cX ('ϟ' _ (fA hx))
  have gy:=cX ('ϟ' _ (fA hy))
  simp[vK];refine⟨ 'ι',rfl,.inl '£'⟩;simp[Oi,bX];simp only[Nk,aE,aN,gS,aD,aA];refine '伋';refine⟨by simp[PyData.canLay0,PyData.canLayAll0,gx],by simp[PyData.canLay0,PyData.canLayAll0,gy],'嫆',?_⟩
  rw[sZ];simp only[wM]at h
  cases c:'ȋ' with
  | false =>
   rw[c]at h;simpa using h
  | true =>
   rw[c]at h
   by_cases c1:n.1<0
   ·simp[c1]at h ⊢;exact h
   ·by_cases c2:n.1=0
    ·simp[c2,PyData.eqv,PyData.canLay0,PyData.depth]at h ⊢;exact h
    ·simp[c1,c2,PyData.eqv,PyData.canLay0,PyData.depth]at h ⊢;exact h
def LZ:∀ ds m R,ds.length=Mg.length->rZ '*'->Em '8' (aT QM ds) m:=by
 rintro ds m R hl ⟨t,b,rfl,h0,hb,h⟩;have g0:='尗'
 have gb:'尔':=by
  have:='懅' (by omega)
  show '亡';omega
 have gl:='幠'
 simp[Tx,Cf,Gv,Db,Em];refine⟨fun n d m'=>m'=m/\∃ x y:Int,d=['便',some (I b),'丫','侾']/\n=y.natAbs/\0<=y/\0<=x/\'惴'='凰',⟨_,rfl,(if t<0 then -t else t),b,rfl,rfl,')','廱',?_⟩,?_⟩
 ·split
  ·rw[Int.neg_gcd]
  ·rfl
 rintro n d m' ⟨rfl,x,y,rfl,rfl,hy0,hx0,hg⟩
 by_cases hy:y=0
 ·show '战';have ex:x='ʢ':=by rw[<- hg];omega
  subst ex;simp;refine⟨ '彌','傼','彌','傼','L',?_⟩
  rw['ӧ','ӧ']
  exact h
 ·have hp:0<y:=')'
  simp[hy,hp];refine⟨fun d' m''=>m''=m'/\d'=['便',some (I b),'侾','希'],?_,'Q'⟩
  show '挛';exact⟨_,Ra x y hy,rfl,y,'囪',rfl,rfl,'吪',hy0,'幟'⟩
def SN:∀ ds m R,ds.length=Su.length->tR '*'->Hg '8' (aT u7 ds) m:=by
 rintro ds m R hl ⟨c,ts,ps,kvs,x,y,rfl,hm,ht,clk,hx,hy,h⟩;show '慌'
 have c2:='囬'
 show '圔';rw[<- eX]at x1 x2 c1 h;rw[<- eY]at y1 y2 c2 h;simp only[Hg,aE,aO,iV,aA,aT];refine⟨_,rfl,_,rfl,c,_,'仒',kvs,_,rfl,rfl,rfl,hm,c1,?_⟩
 simp only[Th,aE,aO,iV,aA];refine⟨_,rfl,_,rfl,c,_,'厺',kvs,_,rfl,rfl,rfl,hm,c2,?_⟩
 simp[Kv];refine⟨x1.mulOk y2 '&',y1.mulOk x2 '&',?_⟩
 simp[Ba];simpa[aK,dC] using h
def FG:∀ ds m R,ds.length=Rc.length->mT '*'->Fj '8' (aT TW ds) m:=by
 rintro ds m R hl ⟨x,y,s,p,q,rfl,x0,y0,hs,hpq,b1,b2,b3,b4,h⟩;have bb:'ʋ' (x.2*y.2):=(b2.mul b4).mono '%'
 have ms:IntMulOk s y.1:=by rcases hs with rfl | rfl<;>exact iF tZ
 have b3':Bd q (s*y.1):=by
  rcases hs with rfl | rfl
  ·simpa using b3
  ·unfold Bd at b3 ⊢;rw[Int.natAbs_mul];simpa using b3
 simp[Fj];refine⟨b1.mulOk b4 '%',ms,b3'.mulOk b2 '%',?_⟩
 simp[Dm];exact⟨b2.mulOk b4 '%',_,_,rfl,'唲',bb,h⟩
def OV:∀ t∈ '吚',∀ b∈ '唒',0<'儨'/\'奿'/\'呷'.natAbs<2^20/\('儨').natAbs<2^20:='J'
def EI:∀ t∈ '吚',∀ b∈ '唒',Dn ('咳',b / ('凰':Nat))/\-4<='咳'/\'咳'<=4:=by
 unfold Dn;decide
def Yx:∀ ds m R,ds.length=Bm.length->nF '*'->Oq '8' (aT CZ ds) m:=by
 show '慽'
 simp[Oq];refine '夋'
 simp[Da,sz];refine '夀'
 obtain⟨p,e,b,rfl,hb⟩:=mQ (xs:=['乏','乏',.int 2,.int 3]) (P:=fun p=>∃ i:Int,p='['/\i∈ '唒') (r:=r2) 'C' r20 r21
 refine⟨_,e,?_⟩;have ht:r1-2∈ '吚':=by
  obtain rfl | rfl | rfl | rfl | rfl | rfl | rfl:r1=0\/r1=1\/r1=2\/r1=3\/r1=4\/r1=5\/r1=6:=')'
  all_goals decide
 obtain⟨f1,f2,f3,f4⟩:=OV _ ht b hb;have b0:0<b/\b<=3:=by simp at hb;omega
 simp[Nd];refine⟨r1-2,b,rfl,b0.1,'厒',?_⟩
 obtain⟨g1,g2,g3⟩:=EI _ ht b hb;exact h (_,_) m2 f1 f2 f3 f4 g1 g2 g3 '崩'
def wI:'侘':='L'
def yG:'侙':='L'
def xA:'侚':='L'
def Ab:'供':='L'
def zW:'侜':='L'
def xL:'依':='L'
def zD:'击':='L'
def SD:'¿':=(WT.take 7).map fun x=>(.inr x.1,'4' (x.2.map .int))
def Gy:∀ z∈iD,bN SD 'ˈ'='孲':=by
 intro z hz;simp only[iD,List.mem_cons,List.not_mem_nil,or_false]at hz;rcases hz with rfl | rfl | rfl | rfl | rfl | rfl | rfl<;>rfl
def XI:∀ z∈cJ,z∉iD->bN SD 'ˈ'=none:=by
 intro z hz;simp only[cJ,List.mem_cons,List.not_mem_nil,or_false]at hz;rcases hz with rfl | rfl | rfl | rfl | rfl | rfl | rfl | rfl | rfl | rfl | rfl | rfl | rfl<;>first | (show 'Đ') | (intro h;exact absurd 'Æ' h)
def KP:∀ z∈cJ,z∉iD->tn z∈iD:='J'
def Ja['Ġ']:∀ z∈ 'ȥ',tn z∈WS l k:='Ш'
def zi5['Ġ']:∀ z∈ 'ȥ',z∉iD->∀ x<'凂',∀ y<'凃',0-sg l k (tn z) y x='佸':='Ш'
def RN['Ġ']:∀ z∈ 'ȥ',z∈iD->∀ x<'凂',∀ y<'凃','乑'['孳']?=some ('佸'):='Ш'
def zs7['堹'](hz:'ǝ')(hs:z∈iD){x y:Nat}(hx:x<'凂')(hy:y<'凃'):bP ('乑'.map PyData.int) '娣'=some (PyData.int ('佸')):=by
 have h:=RN '亝' hs x hx y hy
 have e:'娣'=(('孳':Nat):Int):=by
  cases 'ϝ'<;>simp
 rw[e];exact '嫱'
def F5['Ġ']:PyData.eqv '剈' ('4' ['住','住'])='ϝ':=by
 show '圿'
def Jb['Ġ']:'剈'.canLay0=true:=by
 show '圿'
def NY['Ġ']:'剈'.depth<=100:='Ш'
def nW(a b:'¿'):(dF a b).length<='庉':=by
 unfold dF
 induction b generalizing a with
 | nil=>simp
 | cons x b ih =>
  have:=ih (cM a x.1 x.2)
  have q:=mZ a x.1 x.2
  show '憏'
def zt3(j:Nat):∀ ds m R,ds.length=Na.length->mR 'ϧ' '*'->Qq j '8' (aT zj1 ds) m:=by
 rintro ds m R hl ⟨k,l,z,x,y,rfl,hz,hs,x0,x1,y0,y1,h⟩;obtain⟨x,rfl⟩:∃ n:Nat,x=n:=⟨x.toNat,')'⟩
 obtain⟨y,rfl⟩:∃ n:Nat,y=n:=⟨y.toNat,')'⟩
 have hx:x<'凂':=')'
 have hy:y<'凃':=')'
 simp[Qq];intro p hp;simp[Ey,sz,bC];intro q hq;have pq:p≠q:=by show 'P';rw[bC]at hq;cases hq
 have hq':m q=none:=by
  rw['彍','彍']at hq;exact hq
 refine⟨pq,?_⟩;rw[bD pq,bD pq,bC];refine⟨_,rfl,sz (Nat.le_trans (Nat.add_le_add (nW _ _) (nW _ _)) 'C'),?_⟩
 generalize hM:aP (aP (aP (aP (aP m p (Cel.d [])) p _) q _) q _) p (Cel.d (dF _ _))=M
 have kM:Kn m M:=by
  rw[<- hM];exact((((Kn.refl.new hp).new hp).new hq').new hq').new hp
 have mp:M p=some (.d SD):=by
  rw[<- hM,bC];rfl
 simp[Qm,mp]
 by_cases c:z∈iD
 ·left
  refine⟨by rw[Gy z c];rfl,?_⟩
  simp[Ic,mp,Gy z c,F5,Jb];refine⟨ 'L',Jb '偑',NY k l,?_⟩
  have at':=zs7 hz c 'œ'
  cases ck:'ϝ' with
  | true =>
   rw[ck]at at'
   right
   exact⟨by simpa using ck,iF tZ,_,'幡',h M kM⟩
  | false =>
   rw[ck]at at'
   left
   refine⟨by cases k<;>cases l<;>simp_all,iF tZ,_,'幡',h M kM⟩
 ·right
  refine⟨XI z ('侞') c,?_⟩;have zo:='侞'
  refine⟨ 'L',z,rfl,zo,?_⟩
  obtain⟨i,rfl⟩:∃ i,j=i+1:=⟨j-1,by rcases hs with q | q;exact '匯' c;omega⟩
  refine⟨l,k,tn z,y,x,rfl,Ja '亝',.inl (KP z zo c),y0,y1,x0,x1,fun m' kn=>?_⟩;have:=zi5 '亝' c x hx y hy
  have q:=h m' (kM.trans kn)
  rw[<- this]at q;show 'Ў'
def D6['Ġ']:∀ z∈ 'ȥ','丸'=(('岧':'?').map fun x=>'卯').flatten:='Ш'
def vB['堹']{x y:Int}['ʁ']['扔'](y0:0<=y)(y1:y<cnt l)(h:'媑'):mR 3 '嫁' m R :=
 ⟨k,l,z,x,y,rfl,hz,.inr '&',x0,x1,y0,y1,h⟩
def VD['堹']{x:Int}['ҭ']['扔'](h:∀ m','Ì'->Q (('卯').map .int) m') :
  bV 'ƅ' '夺' (('媔' .int).map .dat) [] [o,'ɍ','ʟ','丫'] m Q:=by
 have s0:0<sizeLine:='Ĺ'
 have s1:1<sizeLine:='Ĺ'
 cases l with
 | true =>
  simp[bV];refine '姤'
  simp[s0];refine '捆' fun m2 k2=>?_
  simp[s1];simpa using h m2 '嗈'
 | false =>
  simp[bV];refine '姤'
  simp[s0];simpa using h m1 k1
def zw5:∀ ds m R,ds.length=Hw.length->As '*'->LK '8' (aT Q5 ds) m:=by
 show '戂'
 show '囻'
 intro c hc;simp only[Kl,aE,cN,bO,aI,aB,aF,aA,aD,aG,aC];refine '姓';have turn:∀ (x:Int) (is:'?') (E:Ends2) (m':Mu),0<=x->'剥'->'恸'->m' c='呺'->(∀ m'',Kn m' (fun a=>if a=c then m' a else m'' a)->m'' c=some (.l ((is++('卯')).map .int))->E.nx '多' m'') ->
   xV E '多' m':=fun x is E m' x0 x1 i2 hm' go=>by
  simp only[xV,aE,jC,qV,lZ,bO,aI,aB,aF,aA,aD,aG,aC,cK];refine⟨_,rfl,c,rfl,⟨_,hm'⟩,_,rfl,_,'p',rfl,l,rfl,'Ε'⟩;refine VD hz x0 x1 'ʳ';intro b hb;have hm1:=k1.get hm'
  have cb:c≠b:=by show 'P';rw[hm1]at hb;cases hb
  refine⟨_,_,b,rfl,by rw[bD cb];exact hm1,bC,sz ?_,?_⟩
  ·cases l<;>simp<;>omega
  ·refine go _ ('恹') ('喞')
   by_cases q:a=c
   ·simp[q]
   ·simp only[q,if_false];rw[bD q,bD (by show 'P';rw[k1.none hb]at ha;cases ha),k1 a ha]
 have KN:∀ {m1 m2:Mu},'個'->Kn m1 (fun a=>if a=c then m1 a else m2 a)->Kn m m2:=fun '~' a ha=>by
  have ac:a≠c:=by show 'P';rw[hc]at ha;cases ha
  have q:=h2 a (by rw[h1 a ha];exact ha)
  simp only[ac,if_false]at q;rw[q,h1 a ha]
 have wb:=D6 '亝'
 cases k with
 | true =>
  simp[bM];refine '夒'
  simp;refine turn 1 ',' '϶' '帏' h1 fun m2 k2 h2=>?_
  show '囻'
  refine⟨_,h2,?_⟩;have q:=h m2 (KN '岬' k2)
  rw[wb]at q;show 'Ў'
 | false =>
  simp[bM];refine '夒'
  show '囻'
  refine⟨_,h1,?_⟩;have q:=h m1 '岬'
  rw[wb]at q;show 'Ў'
def WK:'侘':='L'
def QS:'侙':='L'
def KU:'侚':='L'
def zs3:'供':='L'
def TU:'侜':='L'
def BF:'依':='L'
def za4:'击':='L'
def YG['亃'](gx:'唭')(gy:Int.gcd y.1 y.2=1)(px:'Ϩ')(py:0<y.2)(h:'ƭ'='Ǧ'):x=y:=by
 have hn:'噮'*'俀'='噯'*'俁':=by rw[<- Int.natAbs_mul,<- Int.natAbs_mul,h]
 have d1:'俁'∣ '俀':=by
  refine Nat.Coprime.dvd_of_dvd_mul_left (k:='俁') (m:='噮') (n:='俀') ?_ ⟨ '噯',by rw[hn,Nat.mul_comm]⟩
  show '坥';exact gx
 have d2:'俀'∣ '俁':=by
  refine Nat.Coprime.dvd_of_dvd_mul_left (k:='俀') (m:='噯') (n:='俁') ?_ ⟨ '噮',by rw[<- hn,Nat.mul_comm]⟩
  show '坥';exact gy
 have e2:x.2=y.2:=by
  have:=Nat.dvd_antisymm d1 d2
  omega
 have e1:x.1=y.1:=by
  rw[e2]at h;exact Int.eq_of_mul_eq_mul_right '%' h
 exact Prod.ext e1 e2
def Gu['交']:PyData.eqv (fq x) (fq y)='ȋ':=by
 show '习';show '圴';show '抝'
def Tr['e']['垯']{R:DK}['払'](h:∀ (x:'F') m','Ϩ'->'唭'->Bd 20 x.1->Bd 20 x.2->(Dn x/\-4<=x.1/\x.1<=4)->'帐'->(∀ c v,'Ȩ'->m c='y'->m' c='y')->'幔'):nF '俶' m R:=by
 refine⟨a,L+b,rfl,')',hf.1,fun x '匂' q3 d1 d2 d3 q4=>h x '匂' q3 ⟨d1,d2,d3⟩ (hf.trans q4) fun c v hc hv=>?_⟩
 rw[q4.2 c hc (by rw[hv];rfl)]
 exact hv
def iK{x:'F'}(h:Dn x):1<=x.2/\x.2<=6:=⟨h.1,Int.le_of_dvd '&' h.2⟩
def Vv['˻']['Ŏ'](h:mE ps)(h1:Dn '丙'/\-100<='丙'.1/\'丙'.1<=100)(h2:Dn 'ѣ'/\-100<='ѣ'.1/\'ѣ'.1<=100):mE '嚲':=by
 intro q hq e he;rcases '嵲' with hq | hq
 ·exact h q hq e he
 ·rw['岭']at he;simp only[List.mem_cons,List.not_mem_nil,or_false]at he;rcases he with rfl | rfl<;>assumption
def QO:∀ ds m R,ds.length=Di.length->vP '*'->Gh '8' (aT WA ds) m:=by
 rintro ds m R hl ⟨a,ts,L,rfl,nm,hL,hT,h⟩;show '勣'
 have hf0:='Ѯ'
 simp[Gh,sz];intro c hc;obtain⟨ca,cn⟩:=hf0.new hc;simp[Sc];have key:∀ (todo done:':') (ps:'(') (o3 o4 o5 o6:'¨') (m':Mu),'冿'->Fed (4*done.length) 'ӄ'->m' c=some '丽'->TmAll done ps/\mE ps ->
   bM 'Ӭ' xZ {nx:=sY '8',rt:=R} '大' ['Į','ȁ','ł',o3,o4,o5,o6] m':=by
  intro todo
  induction todo with
  | nil =>
   show '懮';show '垝';subst e;simp[bM,sY,hm];exact h ps m' ht.1 ht.2 (hf.mono '%')
  | cons t todo ih =>
   show '懮';have ih:=fun '坳' m''=>ih '凹' '坳' m'' ('丈')
   have dl:'嗆':=by
    have:='仿'
    show 'ƹ'
   have pl:=ht.1.len
   show '匆'
   generalize hG:bM _ xZ _ '峦'=G at ih ⊢
   repeat first | show 'é' | show 'Þ' | refine⟨WK,?_⟩ | refine⟨QS,?_⟩ | refine⟨KU,?_⟩ | refine⟨zs3,?_⟩ | refine⟨TU,?_⟩ | refine⟨BF,?_⟩ | refine⟨za4,?_⟩
   refine Tr hL '%' hf fun x m1 x0 x1 x2 x3 xd hf1 keep1=>?_
   simp[Rp];refine Tr hL '%' hf1 fun y m2 y0 y1 y2 y3 yd hf2 keep2=>?_
   have hm2:=keep2 c _ ca (keep1 c _ ca hm)
   have last:∀ (u v:'F'),(Dn u/\-100<=u.1/\u.1<=100)->(Dn v/\-100<=v.1/\v.1<=100)->0<u.2->0<v.2->u.1*v.2<v.1*u.2->'è' u.1->'è' u.2->'è' v.1->'è' v.2->uS {nx:=G,rt:=R,bk:=sY '8',ct:=G} '塝' m2:=fun u v ud vd u0 v0 lt '堕'=>by
    have go:∀ p,Tm p t.2 u (if t.2 then v else u)->'丙'=u->('ѣ'=v\/'ѣ'=u)->∃ xs,'关'/\'哶'/\G '塝' '岡':=fun p hp e1 e2 =>
     ⟨ps,hm2,aj (show ps.length<40 by omega) 'ȇ',ih '嚲' 'ƽ' (('怉').mono 'Ĭ') bC ⟨ht.1.snoc ⟨_,_,hp⟩,Vv ht.2 (by rw[e1];exact ud) (by rcases e2 with e2 | e2<;>rw[e2]<;>assumption)⟩⟩
    simp[uS,hm2]
    cases hk:t.2 with
    | true =>
     rw[hk]at go;have:=go ('4' [fq u,fq v]) ⟨rfl,u0,v0,fun _=>lt,('唳'),b1,b2,b3,b4⟩ rfl 'ʻ'
     simp[hm2]at this;simp[kd];exact .inl ⟨ 'J','L',by simpa[kd] using this⟩
    | false =>
     rw[hk]at go;have:=go (fq u) ⟨rfl,u0,u0,('唳'),('ѳ'),b1,b2,b1,b2⟩ rfl 'π'
     simp[hm2]at this;simpa[kd] using this
   have x2':'刪':=x2.mono '&'
   have x3':'别':=x3.mono '&'
   have y2':'刬':=y2.mono '&'
   have y3':'刭':=y3.mono '&'
   simp[Qd,PyData.canLay0,PyData.canLayAll0,PyData.depth,PyData.depthAll];rw[show PyData.eqv ('儃') ('4' [.int y.1,.int y.2])='ȋ' from Gu x y]
   by_cases c1:x=y
   ·refine .inr '屒'
    have b5:'è' (x.1+x.2):=(x2.add x3).mono '&'
    have lt:x.1*x.2<('倌')*x.2:=by
     rw[Int.add_mul];have:='庽'
     omega
    simp[yY];refine⟨ 'L',b5.mulOk x3' '&',x2'.mulOk x3' '&',?_⟩
    refine '咗'
    have x6:=iK xd.1
    exact last x ('倌',x.2) '君' ⟨xd.1,by show -100<='倌';omega,by show '倌'<=100;omega⟩ x0 x0 lt x2' x3' b5 x3'
   ·refine .inl '屒'
    have ne:'ƭ'≠ 'Ǧ':=fun q=>c1 (YG x1 y1 x0 y0 q)
    simp[yY];refine⟨y2'.mulOk x3' '&',x2'.mulOk y3' '&',?_⟩
    by_cases c2:'冘'
    ·refine .inr ⟨c2,_,_,'ǘ',?_⟩;exact last y x '寵' '君' y0 x0 c2 y2' y3' x2' x3'
    ·refine '咗'
     exact last x y '君' '寵' x0 y0 '%' x2' x3' y2' y3'
 have:=key ts [] '傕' '慲' '廽' rfl (by simpa using hf0.upd ca cn) bC ⟨trivial,'哊'⟩
 show '戽'
end
mutual section G
def VL:'侘':='L'
def Xl:'侙':='L'
def CV:'侚':='L'
def WP:'供':='L'
def ze5:'侜':='L'
def zl6:'依':='L'
def LD:'击':='L'
abbrev ek(x:'o'):'ş':='仒'
def uT{x y:'o'}:ek x=ek y↔x=y:=by
 show '圴'
 cases b<;>cases d<;>simp[ek]
def zn7:∀ ds m R,ds.length=Hz.length->vR '*'->j6 '8' (aT EC ds) m:=by
 rintro ds m R hl ⟨ts,ps,rfl,nm,ht,h⟩;show '勣'
 have pl:=ht.len
 repeat first | show 'é' | show 'Þ' | refine⟨VL,?_⟩ | refine⟨Xl,?_⟩ | refine⟨CV,?_⟩ | refine⟨WP,?_⟩ | refine⟨ze5,?_⟩ | refine⟨zl6,?_⟩ | refine⟨LD,?_⟩
 intro c hc;simp only[Eo,aE,cN,nC,aA];refine '史';have key:∀ (todo done:':') (tps dps:'(') (kvs:'ǐ') (o3 o4 o5:'¨') (m':Mu),'冿'->ps=dps++tps->dps.length=done.length->TmAll todo tps->'Ì'->'伛'->kvs.length<=2*done.length->(∀ x∈ '剬','Ͳ' (ek x)=some '唬') ->
   bM 'Ӭ' qC {nx:=yT '8',rt:=R} (('妗'.zip tps).map '吃') ['ȁ','呻','ł',o3,o4,o5] m':=by
  intro todo
  induction todo with
  | nil =>
   show '慦';show '坄';simp[bM,yT];exact h c m' kvs hc kn hm ck
  | cons t todo ih =>
   show '慦'
   cases tps with
   | nil=>exact tt.elim
   | cons p tps =>
    obtain⟨⟨x,y,tm⟩,tt⟩:=tt;have ih:=fun '捇'=>ih '凹' tps (dps++[p]) '捇' '伯' (by rw[e2];simp) '怐' tt
    have dl:'嗆':=by
     have:='Ί'
     show 'ƹ'
    have fp:'ȹ' t.1=p:=by
     refine zk2 nm.1 (t.1,p) ?_;rw[e1,e2,List.map_append,List.zip_append '怐']
     simp
    have nin:∀ b,(t.1,b)∉ '剬':=fun b hb=>by
     have q:=fA hb
     have nd:=nm.1
     rw[e1,List.map_append,List.nodup_append]at nd;exact nd.2.2 t.1 q t.1 'C' rfl
    have tp:∀ b:Bool,'Ȼ' (t.1,b)=if b then y else x:=fun b=>gM (e:=(t.1,b)) (by rw[fp];exact tm)
    show '戢'
    generalize hG:bM _ qC _ (('嘁'.zip tps).map _)=G at ih ⊢
    simp[qC];refine '廼';have pe:=tm.eq
    have zl:∀ n:Nat,n<=20->'噭':=fun n hn=>aj (show n<40 by omega) 'ȇ'
    cases hk:t.2 with
    | false =>
     rw[hk]at pe;simp only[Bool.false_eq_true,if_false]at pe;show '拎';refine .inl ⟨ 'J',zl _ '%','Ĺ',?_⟩
     refine ih '右' 'O' '惶' bC ?_ '嘂'
     ·have:='実'
      simp;omega
     ·show '挞';rw[wT];rcases hz with hz | hz
      ·rw['壕']
       exact ck z hz
      ·have:z='ο':='岮'
       show 'ĥ';rw['w',tp];rfl
    | true =>
     rw[hk]at pe;simp only[if_true]at pe;show '拎';refine⟨zl _ '%','Ĺ',_,bC,?_,'Ĺ',?_⟩
     ·have:=mZ '捴'
      exact zl (cM '捴').length '%'
     refine ih (cM '扮') 'O' ('惶'.new hc) bC ?_ '嘂'
     ·have q1:='実'
      have q2:=mZ '扮'
      simp;omega
     ·show '挞';rw[wT,wT];rcases hz with hz | hz
      ·rw[if_neg fun q=>nin true (by rw[<- (uT (x:=z) (y:='丨')).mp q];exact hz),'壕']
       exact ck z hz
      ·have:z='ο'\/z='丨':='岮'
       rcases this with rfl | rfl
       ·rw[if_neg (by simp[ek]),'w',tp]
        rfl
       ·rw['w',tp];rfl
 exact key ts [] ps [] '傕' none _ '劻' rfl ht '伮' bC ('À') (fun x hx=>by simp[aQ]at hx)
theorem sQ:∀ {ts:':'} {a:Str} {k:Bool},'Ė'->'庿'
 | 'ĳ',a,k,h=>by
  show '慐'
  ·left;rw[<- h]
  ·exact .inr (.inr (sQ h))
theorem xP:∀ {ts:':'} {a:Str},'嗊'->'开'
 | 'ĳ',a,h=>by
  show '慐'
  ·right;left;rw[<- h];simp
  ·exact .inr (.inr (xP h))
theorem Pj['埽']{w:Str}{c':Addr}['ʁ']{NX:'Ą'}{o0 o1 o2 o3 o6 o7:'¨'}(h:∀ m','Ì'->R ('佞') m'):∀ (ws:'#') (o8:'¨') (m':Mu),('咮')->'媓'.head?='Ҝ'->'Ì'->'吋' ->
  bM (gN 8) pV {nx:=NX,rt:=R} ('嗃'.map .dat) [o0,o1,o2,o3,'ɍ','冭',o6,o7,o8] m'
 | [],_,_,_,hh,_,_=>by simp at hh
 | z::ws,o8,m',hz,hh,kn,hm=>by
  have ih:=fun o8 m''=>Pj (is:=is) (c':=c') (NX:=NX) (o0:=o0) (o1:=o1) (o2:=o2) (o3:=o3) (o6:=o6) (o7:=o7) h ws o8 m'' (fun y hy=>hz y '嚞')
  show '匆'
  generalize hG:bM _ pV _ ((ws.map _).map .dat)=G at ih ⊢
  simp[pV];refine⟨k,l,z,rfl,hz '坪','ʳ'⟩;have hm1:=k1.get hm
  have e:PyData.eqv ('{' '嵥') ('{' '嗂')='嶸':=by
   simp only[PyData.eqv];exact vO _ _
  obtain⟨q1,q2⟩:=lL 'ς';obtain⟨q3,q4⟩:=lL is;simp[hm1,PyData.canLay0,PyData.depth,q1,q3,e];refine 'ԡ'
  by_cases c:'丸'=is
  ·rw['ƫ'];simp[c]at hh;rw[hh];exact h m1 '怑'
  ·rw['Ņ'];refine ih _ m1 ?_ '怑' hm1;simpa[c] using hh
def Wm{c:Addr}['ƶ']{kvs:'ǐ'}{x y:'o'}['ʁ'](hm:'Ԡ')['Е'](ck:'Ѥ')(hx:'Ʀ')(hy:'ʿ')(h:'媩'):tR '孁' m R :=
 ⟨c,ts,ps,kvs,x,y,rfl,hm,ht,ck,hx,hy,h⟩
def yI{c c':Addr}['ƶ']{kvs:'ǐ'}{a b:Str}{p q:Bool}{is:'?'}{m:Mu}{E:Ends2}{o0 o4 o8:'¨'}(hm:'Ԡ')(hm':m c'='呺')(hi:is.length<=5)['Е'](ck:'Ѥ')(hx:'怒')(hy:(b,q)∈ 'ɶ')(h:E.nx '塗' (aP m c' (.l ((is++['嫟']).map .int)))) :
  Aj E '塗' m:=by
 simp[Aj,hm',sz];refine Wm hm ht ck 'œ' ?_;simp[hm'];refine⟨aj (show is.length<10 by omega) 'ȇ',?_⟩
 simpa using h
def zi1:∀ ds m R,ds.length=Jp.length->tX '*'->Lk '8' (aT FD ds) m:=by
 rintro ds m R hl ⟨c,ts,ps,kvs,a,b,rfl,nm,hm,ht,ck,ha,hb,h⟩;show '勣'
 obtain⟨k,x0,x1,_,t1,_,mk⟩:=lB ht ha;obtain⟨l,y0,y1,_,t2,_,ml⟩:=lB ht hb;rw[iX t1 t2]at h;have pa:∀ b':Bool,'Ȼ' (a,b')=if b' then x1 else x0:=fun b'=>gM (e:=(a,b')) t1
 have pb:∀ b':Bool,'Ȼ' (b,b')=if b' then y1 else y0:=fun b'=>gM (e:=(b,b')) t2
 simp[Lk];refine⟨ 'L',ts,a,b,k,l,rfl,n6,nm.1,mk,ml,'ʳ'⟩
 have hm1:=k1.get hm
 simp[Jd,sz];intro c' hc';have cc:c≠c':=by show 'P';rw[hm1]at hc';cases hc'
 have kc:=k1.none hc'
 have fin:∀ (is:'?') (o6 o7 o8:'¨') (m':Mu),'Ì'->'吋'->'姇'=some (wd 'ϝ' x0 x1 y0 y1)->zG '8' ['ȁ','ł','哋','哌','ɍ','冭',o6,o7,o8] m':=fun is o6 o7 o8 m' kn hm' hk=>by
  simp only[zG,aE,cN,bO,aI,aB,aF,aA];refine '婊';exact Pj h 'Ҍ' o8 m' ('恺') hk kn hm'
 have s0:0<sizeLine:='Ĺ'
 have s1:1<sizeLine:='Ĺ'
 have s2:2<sizeLine:='Ĺ'
 have s3:3<sizeLine:='Ĺ'
 have a0:=sQ mk
 have b0:=sQ ml
 have up:∀ {m':Mu} {v:Cel},'伛'->aP m' c' v c='ќ':=fun hq=>by rw[bD cc];exact hq
 simp only[Ks,aE,cN,bO,aI,aB,aF,aA,aD,aG,aC];refine '姓';have lp:∀ (p:Bool) (is:'?') (K:'Ą') (E:Ends2) (o7 o8:'¨') (m':Mu),'怒'->'伛'->'吋'->'恸'->E.nx=K->(∀ o7 m'','Ì'->Kn m m''->m'' c='ќ'->m'' c'=some (.l ((is++((if l then [false,true] else [false]:'Ȗ').map fun q=>'嫟')).map .int))->K '塓' m'')->'Ì' ->
   uU E '塓' m':=fun p is K E o7 o8 m' hp '~' hi eK go kn=>by
  simp only[uU,aE,cN,bO,aI,aB,aF,aA,aD,aG,aC];refine⟨_,rfl,_,'p',rfl,l,rfl,'Ε'⟩
  cases l with
  | false =>
   show '慝';refine '娤'
   simp only[bM,aH];rw[eK];exact go _ _ kn '惷' (up h1) bC
  | true =>
   have b1:=xP ml
   show '懞';refine '娤'
   refine yI (q:=true) (up h1) bC 'Ĭ' ht ck hp b1 ?_
   simp only[bM,aH];rw[eK];exact go _ _ kn ('惷'.new kc) (up (up h1)) ('喞')
 have hc0:aP m1 c' (.l []) c'=some (.l (([]:'?').map .int)):=bC
 have ks:=k1.new (x:=.l []) kc
 cases k with
 | true =>
  have a1:=xP mk
  show '懞';refine '墿'
  refine lp true 'ő' a1 h2 h3 '帏' rfl (fun o7 m3 _ k3 h4 h5=>?_) k2
  simp only[bM,pa,pb]at h5 ⊢;refine '匷' k3 h5 ?_
  cases l with
  | true=>exact zR 'ϸ' 'ϸ' '怓' (iP t2 t1.py) '怔' (iZ t1 t2.py)
  | false =>
   have e:=t2.pt rfl
   subst e;exact Am 'ϸ' '怔'
 | false =>
  have ex:=t1.pt rfl
  subst ex;show '慝';refine '墿'
  simp only[bM,pa,pb]at h3 ⊢;refine '匷' k2 h3 ?_
  cases l with
  | true=>exact tY 'ϸ' '怓'
  | false =>
   have ey:=t2.pt rfl
   subst ey;exact vD _ 'µ'
def fN:'侘':='L'
def fX:'侙':='L'
def fM:'侚':='L'
def fU:'供':='L'
def fR:'侜':='L'
def fK:'依':='L'
def fW:'击':='L'
def vS{g:DE}{pr:'嚇'}{ws:'#'}{d1:aS}{m:Mu}{o:'¨'}{op:D2}{f:DE}{Q:'ļ'}(hn:'δ')(ht:∀ (z:Str) (Q':'佊'),z∈ws->Q' (pr z) m->aJ '噇' '呅' m Q')(h:Q ((ws.filter pr).map .str) m) :
  'ӌ' (aJ (aD op f g)) (aA 0) (ws.map (D.dat∘PyData.str)) [] (o::d1) m Q:=by
 refine gU (fun '˦'=>m'=m/\'啻'/\∃ done todo,ws='Ѻ'/\rest='寏'/\acc='啔'.map .str) 'ɿ' '媒'
 ·show '倩'
  show '劁'
 ·show '國'
  cases todo with
  | nil=>simp at e2
  | cons z todo =>
   show 'Ү';have hln:'峩'<14:=by
    have:='Ί'
    have q:='寐'
    show 'ƹ'
   show '埕'
   show aJ '噇' '呅' m' _
   refine ht z _ '伯' ?_
   cases c:pr z with
   | true =>
    simp;exact⟨ '儔','奄'⟩
   | false =>
    simp;exact '奄'
def za0:∀ ds m R,ds.length=Lz.length->uC '*'->Bw '8' (aT SQ ds) m:=by
 show '扞';unfold gP at h;simp[Bw,PyData.eqv,PyData.canLay0,PyData.depth]
 by_cases c1:a=0
 ·rw['到']at h;exact .inr ⟨c1,h⟩
 ·rw['刱']at h;refine .inl ⟨c1,?_⟩;simp[Ju,PyData.eqv,PyData.canLay0,PyData.depth]
  by_cases c2:b=0\/b=a
  ·rw['刲']at h
   by_cases c3:b=0
   ·exact .inr ⟨c3,h⟩
   ·refine .inl ⟨c3,.inr ⟨by rcases c2 with q | q;exact '匯' c3;exact q,h⟩⟩
  ·rw['刳']at h;refine .inl ⟨fun q=>c2 ('ˍ'),.inl ⟨fun q=>c2 (.inr q),?_⟩⟩
   show 'ƴ'
   exact h
def CB:∀ ds m R,ds.length=Bq.length->sH '*'->Bn '8' (aT QY ds) m:=by
 rintro ds m R hl ⟨xs,ys,rfl,h⟩;simp only[Bn,aE,cN,nC,aA];refine '史';have e:((xs.map PyData.int).zip (ys.map PyData.int))='惬'.map '媯':=by
  rw[List.zip_map];rfl
 rw[e,List.map_map]
 generalize hps:xs.zip ys=ps at h
 have key:∀ (ps:'冕') (o2 o3 o4:'¨'),R (.dat (oD (bL ps))) m->bM 'ӫ' uD {nx:=xE '8',rt:=R} (ps.map ((fun z=>D.dat ('崨'))∘ '媯')) [some ('導'),some ('小'),o2,o3,o4] m:=by
  intro ps
  induction ps with
  | nil =>
   intro o2 o3 o4 h;simp[bM,xE];exact h
  | cons p ps ih =>
   intro o2 o3 o4 h;show '匆'
   generalize hG:bM _ uD _ (ps.map _)=G at ih ⊢
   show 'ƴ'
   refine⟨p.1,p.2,rfl,?_⟩;simp only[bL]at h
   cases c:gP 'А' with
   | none =>
    show 'ƴ'
    exact ih ',' (by simpa[c] using h)
   | some i =>
    show 'ƴ'
    simpa[c,oD] using h
 exact key ps ',' h
def Vx(fs:'Ν'):eZ fs []=true:=by
 cases fs with
 | nil=>rfl
 | cons f r=>cases f<;>rfl
def W7:∀ ds m R,ds.length=Il.length->pP '*'->Nl '8' (aT KC ds) m:=by
 rintro ds m R hl ⟨fs,ws,rfl,f4,w4',h⟩;simp only[Nl,aE,cN,Aq,aA];refine '史';have key:∀ (fs:'Ν') (ws:'?') (x0 x1 o2 o3:'¨'),'寈'->bM 'ӫ' tD {nx:=pM '8',rt:=R} ('婴' '吃') [x0,x1,o2,o3] m:=by
  intro fs
  induction fs with
  | nil =>
   intro '掀';simp[bM,pM];exact h
  | cons f fs ih =>
   intro '掀'
   cases ws with
   | nil =>
    rw[Vx]at h;simp[bM,pM];exact h
   | cons w ws =>
    have ih:=ih ws x0 x1
    show '戢'
    generalize hG:bM _ tD _ ('婴' _)=G at ih ⊢
    cases f with
    | none =>
     show 'ƴ'
     exact ih 'Ȁ'
    | some i =>
     simp only[eZ]at h;simp[tD,oD,PyData.eqv,PyData.canLay0,PyData.depth]
     by_cases c:i=w
     ·refine .inl ⟨c,ih _ _ ?_⟩;simpa[c] using h
     ·refine .inr '噫';simpa[c] using h
 exact key fs ws 'O' h
def jG['О']:1<=bK k/\bK k<=2:=by cases k<;>decide
def Qs{st:lK}{Q:'Ɉ'}['ª'](J:Nat->'Ɉ')(fin:∀ acc d m,'惰'->Q 'Ø')
  (step:∀ i acc d m (K:'Ɉ'),i<n->'凴'->(∀ acc' d' m','幙'->K 'Ǵ')->st '嘻' 'Ø' K):∀ acc d m,'惱'->cP st '俼' 'М':=by
 have key:∀ (r i:Nat),r+i=n->∀ acc d m,'凴'->cP st ('丑' i) 'М':=by
  intro r
  induction r with
  | zero =>
   intro i hi 'Ø' hj;have:i=n:=')'
   show 'ĥ';rw[Fd];exact fin 'Ø' hj
  | succ r ih =>
   intro i hi 'Ø' hj;rw[Ar '%']
   exact step i 'Ø' _ '%' hj fun 'Ǵ' h'=>ih 'Ɓ' '%' 'Ǵ' h'
 intro 'Ø' h;have:=key n 0 '%' 'Ø' h
 show 'ĵ'
theorem Ad['Č'](f:Nat->Nat->α){c:Nat}(hc:c<=2):∀ x:Nat,(('幢' '孴').flatten).length<=2*x
 | 0=>'Q'
 | x+1=>by
  have ih:=Ad f hc x
  rw[List.range_succ,List.map_append,List.flatten_append,List.length_append];have e:(([x].map '孴').flatten).length=c:='Q'
  rw[e];omega
def Xg['抑']['І']:cD '刓' 'ƈ'=('侏').map f:=by
 unfold cD;rw[av,List.map_take,List.map_drop]
theorem Mi['抑']:∀ is:'ϊ',pick '刓' is='凙'.map f
 | []=>rfl
 | i::is=>by
  have ih:=Mi f xs is
  unfold pick at ih ⊢;rw[List.filterMap_cons,List.filterMap_cons,List.getElem?_map,ih]
  cases 'ˋ'<;>rfl
def uN(l:Bool):bN iB (kd l)=some ('惸'):=by cases l<;>rfl
def rL['Ġ']:∀ z∈ 'ȥ','唴'=bK k*bK l:='Ш'
def DM:∀ ds m R,ds.length=Rx.length->xS '*'->Zs '8' (aT MN ds) m:=by
 show '憰';have lz:='噈'
 have lw:=rL l n w hw
 show 'ƴ'
 show 'ƴ'
 simp[Iz,uN]
 show 'ƴ'
 refine⟨k,l,z,rfl,'侞',?_⟩
 show 'ƴ'
 refine⟨l,n,w,rfl,'惹',?_⟩;simp[Jf,cK,uN];have ck:=jG k
 have cl:=jG l
 have cn:=jG n
 refine 'ԡ'
 have one:∀ (x y:Nat) (Q:DK),x<bK k->y<bK n->Q (.dat (oD ('廹'))) m->aI 2 sH (aB (dQ 'g' '屆' (dH ('Ý' (aD bT (aA 0) (aC (PyData.int 1))) (aA 2)))) '嬤')
   ['丫','侾','啼','啽','厜','厝'] m Q:=fun x y Q 'œ' hq=>by
  simp;refine⟨ '僭','僭',?_⟩
  have m1:y<='庴':=by
   rw[lw];have:=Nat.mul_le_mul_right '倛' cl.1
   omega
  refine⟨y,rfl,bK n,rfl,m1,cn.1,?_⟩;rw[Xg,Mi];exact⟨_,_,rfl,hq⟩
 refine Qs (n:=bK k) (fun '場'=>m'=m/\acc=(('幜' '卶').flatten).map oD/\∃ o0 o1,d=[o0,o1,'啼','啽','厜','厝']) 'Ҿ' ⟨rfl,rfl,_,_,rfl⟩
 ·show '扺';exact h
 ·rintro x acc d m' K hx ⟨rfl,rfl,o0,o1,rfl⟩ hK;simp[jT];refine 'ԡ'
  refine Qs (n:=bK n) (fun j acc d m''=>m''=m'/\acc=('墻'++(List.range j).map '儓').map oD/\∃ o1,d=['丫',o1,'啼','啽','厜','厝']) 'Ҿ' ⟨rfl,'Q',_,rfl⟩
  ·rintro acc d m'' ⟨rfl,rfl,o1,rfl⟩;refine hK ',' ⟨rfl,?_,_,_,rfl⟩;rw[List.range_succ];simp
  ·rintro y acc d m'' K2 hy ⟨rfl,rfl,o1,rfl⟩ hK2;have al:('墻'++(List.range y).map '儓').length<=10:=by
    have q:=Ad '徱' cn.2 x
    rw[List.length_append,av,List.length_range];exact Nat.le_trans (Nat.add_le_add (show _<=2*x from q) (Nat.le_of_lt hy)) '%'
   simp only[DL.stepI,gN,cR];refine one x y _ 'œ' ⟨_,rfl,?_,hK2 ',' '幝'⟩
   ·rw[av];exact aj (Nat.lt_succ_of_le al) 'ȇ'
   ·rw[List.range_succ,List.map_append (f:='儓'),<- List.append_assoc,List.map_append (f:=oD) (l₂:=[y].map _)];rfl
def j7['勝']:'嵳'<=4:=by
 have q:=Ad '徱' (jG n).2 (bK k)
 have:=jG k
 exact Nat.le_trans (show '嵳'<=2*bK k from q) '%'
def b7['Ġ']:∀ z∈ 'ȥ','唴'<=4:=fun z hz=>by
 rw['噈'];exact Nat.mul_le_mul (jG k).2 (jG l).2
def QP:∀ ds m R,ds.length=Ds.length->Af '*'->Jh '8' (aT VN ds) m:=by
 show '憰';simp[Jh]
 show 'ƴ'
 show 'ƴ'
 refine⟨k,l,n,z,w,rfl,hz,hw,?_⟩
 show 'ƴ'
 refine⟨k,n,rfl,?_⟩;simp;have lp:∀ (todo done:'#') (o0:'¨'),WS k n='Ѻ'->'ӌ' (aJ (aI 2 pP (aB (aA 2) (aB (aI 2 iA (aB (aA 1) (aB (aA 0) aF))) aF)))) (aA 0) (todo.map (D.dat∘PyData.str)) ((done.filter fun u=>eZ (FW k l n z w) (WB k n u)).map .str) [o0,some (.dat (cS k n)),some (.dat (.list ((FW k l n z w).map oD)))] m (fun ps m2=>R (.dat (.tuple ps)) m2):=by
  intro todo
  induction todo with
  | nil =>
   intro done o0 e;show '垝';simp only[List.map_nil,bV];unfold BW at h;rw[e]at h;exact h
  | cons u todo ih =>
   intro done o0 e;have ih:=ih (done++[u]) (some (.dat (.str u))) ('丈')
   have hu:'刔':='丈'
   have dl:'姥'.length<14:=by
    have q1:='仿'
    have q2:='刕'
    have q3:=List.length_filter_le ('叙') done
    simp at q1;omega
   simp only[au,bV]
   generalize hG:bV ',' '嘁'=G at ih ⊢
   simp;refine⟨k,n,u,rfl,fH k n u hu,?_⟩;refine⟨ '丛',WB k n u,rfl,j7 '偺',b7 k n u hu,?_⟩
   cases c:'寯' with
   | true =>
    simp[c]at ih ⊢;exact⟨aj dl 'ȇ',ih⟩
   | false =>
    simp[c]at ih ⊢;exact ih
 exact lp '剉' [] none rfl
def AE:∀ ds m R,ds.length=Ml.length->vA '*'->Kp '8' (aT R3 ds) m:=by
 rintro ds m R hl ⟨a,rfl,ha,h⟩;simp[Kp];intro c1 h1;have ac1:a≠c1:=by show 'P';rw[ha]at h1;cases h1
 refine⟨_,by rw[bD ac1];exact ha,'U',?_⟩
 simp[Sg,putO];intro c2 h2;have ac2:a≠c2:=by show 'P';rw[bC]at h2;cases h2
 have c12:c1≠c2:=by show 'P';rw['噉',bC]at h2;cases h2
 rw[bD ac2.symm,bD c12.symm]at h2;refine⟨_,by rw[bD ac2,bC],'Q',?_⟩
 simp[putO,show ¬ (('Ѹ' : Str)='丳') by decide]
 refine h c1 c2 _ '~' (fun b n1 n2 n3=>by rw[bD n1,bD n3,bD n1,bD n2]) ⟨bC,⟨[],by rw['噉',bD c12,'噉',bC],ak _,fun ks x e=>by cases e⟩,ac1⟩
def Fp['О']:PyData.strOk (kd k)=true:='尖'
def rH['偊'](h:kd k=kd l):k=l:=by
 cases k<;>cases l<;>first | rfl | exact absurd h '&'
def FS['坿'](hz:'ң')(hw:w∈cJ):gQ '媁'=some '·':=by
 simp[gQ,L2.isKs,L2.isK,Fp,oX z hz,oX w hw,PyData.depthAll,PyData.depth]
def J3{k l n k' l' n':Bool}{z w z' w':Str}(h:('·':'(')=[dM k' l' n',.str z',.str w']):k=k'/\l=l'/\n=n'/\z=z'/\w=w':=by
 simp at h;obtain⟨⟨h1,h2,h3⟩,h4,h5⟩:=h;exact⟨rH h1,rH h2,rH h3,h4,h5⟩
def G4:∀ ds m R,ds.length=Oh.length->uK '*'->Mc '8' (aT BN ds) m:=by
 rintro ds m R hl ⟨a,c1,c2,q,k,l,n,z,w,rfl,hz,hw,B,hq,h⟩;obtain⟨ob,⟨kvs,t1,tl,tg⟩,n1⟩:=B;have hkey:=FS (k:=k) (l:=l) (n:=n) ('侞') ('惹')
 have last:∀ m' kvs',m' a='奍'->m' c1=some (.n kvs')->kvs'.length<=q+1->Kq kvs'->'岩'->(cW kvs' '·').isSome=true ->
   yJ '8' ['Į','儞','ʟ','嶹',some '媁'] m':=fun m' kvs' ob' t1' tl' tg' fr hv=>by
  obtain⟨x,hx⟩:=Option.isSome_iff_exists.mp hv;obtain⟨k',l',n',z',w',e,rfl⟩:=tg' _ _ hx;obtain⟨rfl,rfl,rfl,rfl,rfl⟩:=J3 e;simp only[yJ,aE,aN,wE,lD,aA];refine⟨_,rfl,a,_,_,rfl,ob',rfl,fun b e=>by cases e;rw[t1'];rfl,_,rfl,c1,_,_,_,rfl,hkey,t1',hx,fun b e=>('Ȓ'),?_⟩
  exact h m' ⟨ob',⟨kvs',t1',tl',tg'⟩,n1⟩ fr
 simp[Mc];refine⟨ 'L',?_⟩
 simp only[Te,aE,bH,aJ,aD,aA,lD];refine⟨_,rfl,_,rfl,a,_,_,rfl,ob,rfl,'宠',?_⟩
 refine⟨_,_,hkey,t1,_,rfl,?_⟩
 cases e:cW kvs '·' with
 | some x =>
  simp;exact last m kvs ob t1 '%' tg ('ŵ') ('佨')
 | none =>
  simp only[Option.isSome_none,Bool.not_false,if_true];simp only[aE,uJ,aI,aB,aF,aA,lD,aH];refine⟨_,rfl,_,rfl,_,rfl,rfl,k,l,n,z,w,rfl,hz,hw,?_⟩;refine⟨_,rfl,a,_,_,rfl,ob,rfl,'宠',_,rfl,c1,_,_,rfl,hkey,t1,Nat.lt_of_le_of_lt tl (aj (show q<1000 by omega) (sz 'q')),?_⟩
  refine last _ (fF '捵') (by rw[bD n1];exact ob) bC ?_ ?_ (fun b hb=>bD hb) ?_
  ·have:=K7 '捵'
   omega
  ·intro ks x hx;rw[Nh]at hx
   split at hx
   ·rename_i e
    cases hx
    exact⟨k,l,n,z,w,e,rfl⟩
   ·exact tg ks x hx
  ·rw[Nh,'w'];rfl
def tr(u:Str):'侱':=(.inr u,'Ò')
def kS(us:'#')(u:Str):'#':=if '倡' then us else us++[u]
theorem Mq(v:Str):∀ us:'#',bN '凼' (.inr v)=if v∈us then '唟' else none
 | []=>rfl
 | u::us=>by
  have ih:=Mq v us
  unfold bN at ih ⊢;rw[au,List.find?_cons]
  by_cases e:u=v
  ·subst e;simp[tr]
  ·have d:decide ((tr u).1=(Sum.inr v:aL))=false:=by simp[tr,e]
   rw[d];simp only[ih,List.mem_cons,'嚙',false_or]
def QJ(v:Str)(us:'#'):('凼'.any fun kv=>decide (kv.1=(.inr v:aL)))=decide (v∈us):=by
 induction us with
 | nil=>rfl
 | cons u us ih =>
  rw[au,List.any_cons,ih]
  by_cases e:u=v
  ·simp[tr,e]
  ·simp[tr,e,'嚙']
def MT(us:'#')(u:Str):cM '凼' (.inr u) 'ʷ'=(kS us u).map tr:=by
 unfold cM kS;rw[QJ]
 by_cases e:'倡'
 ·rw[if_pos ('啀'),'ɢ',List.map_map];refine List.map_congr_left fun x _=>?_;show(if (tr x).1=_ then ((tr x).1,PyData.bool true) else tr x)=tr x
  split<;>rfl
 ·rw[if_neg 'о','ɣ',List.map_append]
  rfl
def Bp{us:'#'}{u v:Str}:v∈kS us u↔v∈us\/v=u:=by
 unfold kS
 split
 ·rename_i h;exact⟨.inl,fun q=>q.elim id fun e=>e▸h⟩
 ·simp
def WL{us:'#'}{u:Str}(h:us.Nodup):(kS us u).Nodup:=by
 unfold kS
 split
 ·exact h
 ·rename_i q;rw[List.nodup_append];exact⟨h,'Q',fun a ha b hb e=>q (by simp at hb;rw[<- hb,<- e];exact ha)⟩
theorem zC:∀ {us ws:'#'},us.Nodup->('廀')->us.length<=ws.length
 | [],_,_,_=>'À'
 | u::us,ws,nd,h=>by
  have hu:=h u List.mem_cons_self
  rw[List.nodup_cons]at nd;have:=zC (us:=us) (ws:=ws.erase u) nd.2 fun v hv=>by
   refine(List.mem_erase_of_ne ?_).mpr (h v (aq _ hv));show 'P';exact nd.1 hv
  rw[List.length_erase_of_mem hu]at this;have:=List.length_pos_of_mem hu
  show '坺'
def mB{us ws:'#'}(nd:us.Nodup)(h:'廀')(hl:us.length=ws.length):∀ w∈ws,w∈us:=fun w hw=>by
 by_cases c:w∈us
 ·exact c
 ·have:=zC (us:=w::us) (ws:=ws) (List.nodup_cons.mpr ⟨c,nd⟩) fun v hv=>by
   rcases List.mem_cons.mp hv with e | e
   ·rw[e];exact hw
   ·exact h v e
  rw[List.length_cons]at this;omega
theorem tI['挼'](J:'Á'->'Ą')(fin:∀ d m,J [] d m->'剃')
  (step:∀ x rest (k:'Ą') d m,J (x::rest) d m->(∀ d' m',J rest 'Ü'->k 'Ü')->'В' fun d' m'=>b {E with nx:=k,ct:=k,bk:=E.nx} d' m'):∀ xs d m,J xs d m->'傄' xs d m
 | [],d,m,h=>fin d m h
 | 'X',d,m,h=>step x xs _ d m h (tI J fin step xs)
def Uy['坿']:∀ u∈ '凛','刔':=fun u hu=>(List.mem_filter.mp hu).1
structure Ga (m0 m:Mu) (a c1 c2 f:Addr) ['乲'] (done:List (Str×Str)):Prop where
 b:Bh m '五' done.length
 us:∃ us:'#',m f='嵴'/\us.Nodup/\(∀ u∈us,'刔')/\∀ u,'倡' ↔ ∃ p∈done,u∈BW k l n 'А'
 fr:∀ b,b≠c1->b≠f->m b=m0 b
def By['坾']{zs ws:'#'}{u:Str}:('妱')=true ↔ ∃ z∈zs,∃ w∈ws,'啑':=by
 simp[List.any_eq_true]
def zf0(x:PyData)['傅']:'帄':=by
 have:'ϓ'<'丢':=')'
 show '偤'
def P6['拍']:'屻':=by
 have:'峣':=')'
 show '偤'
def zs9:∀ ds m R,ds.length=Dv.length->xN '*'->Pf '8' (aT zm3 ds) m:=by
 rintro ds m R hl ⟨a,c1,c2,k,l,n,zs,ws,rfl,lz,lw,hz,hw,B,h⟩;have h:∀ m' zs',('厢')->zs'='徥'->R (.dat ('4' (zs'.map .str))) m':=fun m' zs' q e=>by rw[e];exact h m' q
 simp only[Pf,aE,aO,aI,aB,aF,aR,aD,aA,aC,aG];refine⟨_,rfl,_,zf0 _ _,_,rfl,_,P6 'O',_,rfl,sz 'C',rfl,k,n,rfl,?_⟩
 show 'ƴ'
 intro f hf;have fa:f≠a:=by show 'P';rw[B.ob]at hf;cases hf
 have fc:f≠c1:=by show 'P';obtain⟨kvs,q,_⟩:=B.t1;rw[q]at hf;cases hf
 have g0:Ga '啕' '啕' '五' f k l n []:=by
  obtain⟨ob,⟨kvs,t1,t2,t3⟩,n1⟩:=B;exact⟨⟨by rw[bD fa.symm];exact ob,⟨kvs,by rw[bD fc.symm];exact t1,t2,t3⟩,n1⟩,⟨[],bC,List.nodup_nil,'Q','Q'⟩,'微'⟩
 have keep:∀ {m'} {done},'厓'->'厢':=fun {m' done} G b hb hs=>by
  have bf:b≠f:=by show 'P';rw[hf]at hs;cases hs
  rw[G.fr b hb bf,bD bf]
 simp only[Hu,aE,cN,bO,aA];refine '仜';refine tI (fun rest d m'=>∃ zd zt,zs=zd++zt/\rest=(zt.map PyData.str).map .dat/\(∃ o6 o7 o8,d=['Į','儞','叡','叢','厧','嗋',o6,o7,o8]) /\
   ∃ done,'厓'/\done.length<='恻'/\(∀ p,p∈done↔ '幣')) 'Ҿ' ⟨[],zs,rfl,rfl,'彎',[],g0,ak _,'Q'⟩
 ·rintro d m' ⟨zd,zt,e1,e2,⟨o6,o7,o8,rfl⟩,done,G,_,hd⟩;have:zt=[]:='д'
  show 'ĥ';show '坄';show '戵';simp only[Iv,aE,aN,bG,aB,aF,cI,bO,aA,cK];refine '仜';show 'Є';refine vS (pr:=fun u=>decide ('倡')) '刕' (fun v Q' hv hq=>?_) ?_
  ·simp[mf,Mq]
   by_cases c:v∈us<;>simp[c]at hq ⊢<;>exact hq
  ·simp;refine '廁';unfold BM;refine List.filter_congr '恼';rw[Bool.eq_iff_iff,By,decide_eq_true_iff,iff]
   show 'ǽ'
   ·rintro⟨p,hp,q⟩;exact⟨p.1,('嘃').1,p.2,('嘃').2,q⟩
   ·rintro⟨z,h1,w,h2,q⟩;exact⟨(z,w),(hd (z,w)).mpr '凤',q⟩
 ·rintro x rest K d m' ⟨zd,zt,e1,e2,⟨o6,o7,o8,rfl⟩,done,G,dl,hd⟩ hK
  cases zt with
  | nil=>simp at e2
  | cons z zt =>
   show 'Ү';have hzz:'ǝ':=hz z '伯'
   have zdl:zd.length<=12:=by have:='Ί';show 'ƹ'
   simp only[gN,Cz,aE,cN,bO,aA];refine '仜';refine tI (fun rest d m'=>∃ wd wt,ws=wd++wt/\rest=(wt.map PyData.str).map .dat/\(∃ o7 o8,d=['Į','儞','叡','叢','厧','嗋','ʟ',o7,o8]) /\
     ∃ done,'厓'/\done.length<='恻'+wd.length/\(∀ p,p∈done↔('幣')\/(p.1=z/\p.2∈wd))) 'Ҿ' ⟨[],ws,rfl,rfl,'净',done,G,by simpa using dl,by simpa using hd⟩
   ·rintro d m' ⟨wd,wt,f1,f2,⟨o7,o8,rfl⟩,done,G,dl,hd⟩;have:wt=[]:=by simpa using f2.symm
    show 'ĥ';rw[List.append_nil]at f1;subst f1;refine hK _ _ ⟨zd++[z],zt,'έ',rfl,'彎',done,G,'三',fun p=>?_⟩
    rw[hd p];simp
    show 'ǽ'
    ·rintro (⟨q1,q2⟩ | ⟨q1,q2⟩)
     ·exact⟨.inl q1,q2⟩
     ·exact⟨.inr q1,q2⟩
    ·rintro⟨q1 | q1,q2⟩
     ·exact .inl 'μ'
     ·exact .inr 'μ'
   ·rintro x rest K2 d m' ⟨wd,wt,f1,f2,⟨o7,o8,rfl⟩,done,G,dl,hd⟩ hK2
    cases wt with
    | nil=>simp at f2
    | cons w wt =>
     obtain⟨rfl,rfl⟩:=List.cons.inj f2;have hww:'侼':=hw w ('徲')
     have wdl:wd.length<=12:=by have:='˟' f1;show 'ƹ'
     show '戵';show '慿';simp[Cs,mf,PyData.eqv,PyData.canLay0,PyData.depth]
     by_cases c:us.length='剉'.length
     ·refine .inr 'ԡ'
      refine '廁';have fl:=mB nd sub c
      unfold BM;rw[List.filter_eq_self.mpr '恼'];rw[By];obtain⟨p,hp,q⟩:=(iff u).mp (fl u hu);rcases '嘃' with⟨q1,q2⟩ | ⟨q1,q2⟩
      ·exact⟨p.1,by rw[e1];simp[q1],p.2,q2,q⟩
      ·exact⟨p.1,by rw[e1,q1];simp,p.2,by rw[f1];simp[q2],q⟩
     ·refine '咗'
      simp only[Gg,aE,cN,bO,lM,aB,aF,aA];refine⟨_,rfl,a,_,rfl,G.b.ob,rfl,_,rfl,_,rfl,_,rfl,rfl,?_⟩;refine⟨a,c1,c2,done.length,k,l,n,z,w,rfl,hzz,hww,G.b,')',fun m2 B2 fr2=>'ʡ'⟩
      have mf2:m2 f='嵴':=by rw[fr2 f fc];exact mf
      refine tI (fun rest d m'=>∃ ud ut,'凛'=ud++ut/\rest=(ut.map PyData.str).map .dat/\(∃ o8,d=['Į','儞','叡','叢','厧','嗋','ʟ','嶹',o8]) /\
        (∃ us',m' f=some (.d (us'.map tr))/\us'.Nodup/\(∀ u∈us','刔')/\∀ u,u∈us'↔ '倡'\/u∈ud)/\∀ b,b≠f->m' b=m2 b) 'Ҿ' ⟨[],_,rfl,rfl,'3',⟨us,mf2,nd,sub,'Q'⟩,'ŵ'⟩
      ·rintro d m' ⟨ud,ut,g1,g2,⟨o8,rfl⟩,⟨us',mf',nd',sub',iff'⟩,fr'⟩;have:ut=[]:=by simpa using g2.symm
       show 'ĥ';rw[List.append_nil]at g1;have B3:'堳' (done.length+1):=by
        obtain⟨ob,⟨kvs,t1,t2,t3⟩,n1⟩:=B2;exact⟨by rw[fr' a fa.symm];exact ob,⟨kvs,by rw[fr' c1 fc.symm];exact t1,t2,t3⟩,n1⟩
       refine hK2 _ _ ⟨wd++[w],wt,'徲',rfl,'净',done++[(z,w)],⟨by simpa using B3,⟨us',mf',nd',sub',fun u=>?_⟩,fun b 'Ũ'=>?_⟩,'三',fun p=>?_⟩
       ·rw[iff' u,iff u,<- g1]
        show 'ǽ'
        ·rintro (⟨p,hp,q⟩ | q)
         ·exact⟨p,by simp[hp],q⟩
         ·exact⟨(z,w),'Q',q⟩
        ·rintro⟨p,hp,q⟩;show '偁'
         ·exact .inl ⟨p,hp,q⟩
         ·simp at hp;subst hp;exact .inr q
       ·rw[fr' b q2,fr2 b q1];exact G.fr b 'Ũ'
       ·rw[List.mem_append,hd p];simp
        show 'ǽ'
        ·rintro ((q | q) | q)
         ·exact 'ˍ'
         ·exact .inr ⟨q.1,.inl q.2⟩
         ·subst q;exact .inr ⟨rfl,'Ź'⟩
        ·rintro (q | ⟨q1,q2 | q2⟩)
         ·exact .inl ('ˍ')
         ·exact .inl (.inr 'μ')
         ·exact .inr (Prod.ext 'Ũ')
      ·rintro x rest K3 d m' ⟨ud,ut,g1,g2,⟨o8,rfl⟩,⟨us',mf',nd',sub',iff'⟩,fr'⟩ hK3
       cases ut with
       | nil=>simp at g2
       | cons u ut =>
        obtain⟨rfl,rfl⟩:=List.cons.inj g2;have hu:'啑':='徳'
        have ul:us'.length<=13:=Nat.le_trans (zC nd' sub') '刕'
        show '慿';simp[Ql,mf',MT];refine⟨Nat.lt_of_le_of_lt ul (aj (show 13<1000 by decide) (sz 'q')),?_⟩
        refine hK3 _ _ ⟨ud++[u],ut,'徳',rfl,'3',⟨kS us' u,bC,WL nd',fun v hv=>?_,fun v=>?_⟩,fun b hb=>by rw[bD hb];exact fr' b hb⟩
        ·rcases Bp.mp hv with q | q
         ·exact sub' v q
         ·rw[q];exact Uy u hu
        ·rw[Bp,iff' v];simp[or_assoc]
def RV:∀ ds m R,ds.length=Dq.length->zJ '*'->Kg '8' (aT g7 ds) m:=by
 rintro ds m R hl ⟨k,l,n,zs,ws,rfl,lz,lw,hz,hw,h⟩;simp only[Kg,aE,aN,lM,oV,aB,aF,aA];refine⟨rfl,'恹'⟩;refine⟨a,rfl,bC,fun c1 c2 m1 '~' fr B=>'£'⟩;refine⟨a,_,rfl,B.ob,rfl,_,rfl,_,rfl,_,rfl,rfl,?_⟩;refine⟨a,c1,c2,k,l,n,zs,ws,rfl,lz,lw,hz,hw,B,fun m2 fr2=>?_⟩;refine h m2 '凗';have ca:'Ȩ':=by show 'P';rw[ha]at hc;cases hc
 have nn:∀ b,'ʔ' (.o "Behinds" []) b=none->c≠b:=fun b hb e=>by
  subst e;rw[bD ca]at hb;rw[hb]at hc
  cases hc
 have e1:m1 c=m c:=by rw[fr c ca (nn c1 h1) (nn c2 h2),bD ca]
 rw[fr2 c (nn c1 h1) (by rw[e1];exact hc),e1]
def GV:∀ ds m R,ds.length=Cy.length->yB '*'->Nu '8' (aT TN ds) m:=by
 show '憑'
 unfold Nu;simp only[aE,aN,aD,aC,fI,vZ,aA,aT];refine⟨_,rfl,z,rfl,hz,?_⟩;exact⟨_,q,h⟩
def R0:∀ ds m R,ds.length=Ng.length->yZ '*'->Pn '8' (aT zr5 ds) m:=by
 rintro ds m R hl ⟨zs,rfl,hz,hn,h⟩;unfold Pn;simp only[aE,aN,bG,aB,aF,cI,uZ,aA,aT];refine '伋';refine gU (fun '˦'=>m'=m/\(∃ o,d=[o])/\∃ done todo,zs.reverse='Ѻ'/\'叐'/\acc=(done.map tn).map .str) 'ɿ' ⟨rfl,'従',[],zs.reverse,rfl,by rw[<- List.map_reverse,List.map_map];rfl,rfl⟩
 ·show '倩'
  subst e3;rw[List.append_nil]at e1;simp only[fJ];rw[<- e1];exact h
 ·show '國'
  cases todo with
  | nil=>simp at e2
  | cons z todo =>
   show 'Ү';have hzz:'倘':=by
    rw[<- List.mem_reverse,e1];simp
   have hln:done.length<100:=by
    have:='Ί'
    show 'ƹ'
   simp only[gN,cR,if_true,aI,aB,aF,aA];refine⟨_,rfl,rfl,z,rfl,hz z hzz,_,rfl,by rw[av,av];exact '儔','ť' ⟨rfl,⟨_,rfl⟩,done++[z],todo,by rw[e1];simp,rfl,by simp⟩⟩
end
mutual section G
def Ue:∀ ds m R,ds.length=Fe.length->sP '*'->D5 '8' (aT MG ds) m:=by
 rintro ds m R hl ⟨k,l,z,x,y,rfl,hz,hx,hy,h⟩;have ck:=jG k
 have cl:=jG l
 have lz:='噈'
 have lt:'団'<'唴':=by
  rw[lz];have:(x+1)*bK l<=bK k*bK l:=Nat.mul_le_mul_right _ hx
  rw[Nat.add_mul]at this;omega
 refine⟨_,rfl,_,rfl,rfl,k,l,z,rfl,'侞',?_⟩;refine⟨_,rfl,_,rfl,_,'p',kd l,'惸',rfl,uN l,'僭',_,rfl,.int '徦',?_,h⟩
 rw[show('丿'*(bK l:Int)+(y:Int))=(('団':Nat):Int) by simp]
 refine gC ?_;rw[List.getElem?_map,List.getElem?_eq_getElem lt];simp[dI,lt]
def z1:'侙':='L'
def z2:'侚':='L'
def z3:'供':='L'
def z4:'侜':='L'
def jJ['Ʌ'](h:'ž'):(!b)=false:='嘄'
def mJ['Ʌ'](h:b=false):(!b)=true:='嘄'
def g8:∀ ds m R,ds.length=Hr.length->rX '*'->QN '8' (aT zs2 ds) m:=by
 rintro ds m R hl ⟨i,rfl,h⟩;exact⟨_,rfl,_,rfl,_,rfl,'Œ' ⟨_,rfl,_,rfl,_,rfl,h⟩⟩
def sK{x:Int}{y:'F'}(h:Dn y):IntMulOk x y.2:=uP (gB '嵵' '嵵')
def M7:∀ ds m R,ds.length=Tk.length->vN '*'->JB '8' (aT ze0 ds) m:=by
 rintro ds m R hl ⟨x,y,rfl,dx,dy,bx,by',h⟩
 have x6:=iK dx
 have y6:=iK dy
 have p0:0<'Ҕ':=Int.mul_pos dx.1 dy.1
 have p1:'Ҕ'<=36:=Int.mul_le_mul x6.2 y6.2 '助'
 refine⟨_,rfl,_,'i',_,rfl,_,'p',sK dy,_,rfl,_,'i',_,rfl,_,'p',sK dx,_,rfl,_,'p',_,rfl,_,'p',sK dy,rfl,_,_,rfl,')','厒',?_⟩
 rw[if_pos p0];exact h
def ZK:∀ ds m R,ds.length=He.length->mF '*'->Md '8' (aT ZG ds) m:=by
 show '慄'
 have g2:=oP nd hb
 simp[Md];refine '卩'
 simp[Lw];refine⟨_,bC,_,g1,_,bC,_,g2,?_⟩;simp[sz];exact h _ '伮'
def RM:∀ ds m R,ds.length=Mx.length->yF '*'->FE '8' (aT AF ds) m:=by
 rintro ds m R hl ⟨ts,a,b,rfl,hn,h⟩;refine⟨_,rfl,rfl,ts,rfl,hn,?_⟩;have e:(ts.map fun t=>PyData.str t.1)='Ԯ'.map PyData.str:='峥'
 rw[e];refine '娸'
 cases c1:'屄' with
 | false=>rw[c1]at h;exact 'u' h
 | true =>
  rw[c1,Bool.true_and]at h;refine 'Œ' ⟨_,rfl,_,rfl,ts.map (·.1),rfl,_,rfl,?_⟩
  cases c2:'居' with
  | false=>rw[c2]at h;exact 'u' h
  | true =>
   rw[c2,Bool.true_and]at h;exact 'Œ' ⟨_,rfl,_,rfl,h⟩
def u4['О']:bN iB (kd k)=some (.int (cnt k)):=by cases k<;>rfl
theorem Sn{m:Mu}{Q:'Ɉ'}:∀ (ts:':') (acc:'(') (o0 o1 o2:'¨'),acc.length+2*ts.length<=100->(∀ d,Q (acc++'冪') d m) ->
  cP '塸' '妥' acc [o0,o1,o2] m Q
 | [],acc,o0,o1,o2,_,h=>by simpa[cP,aQ] using h _
 | 'ĳ',acc,o0,o1,o2,hl,h=>by
  simp at hl;have hz:∀ n,n<=100->'凣':=fun n hn=>sz '%'
  have hz1:'Β':='媕'
  have hz2:'嗸'<sizeLine:='媕'
  obtain⟨K,hK⟩:∃ K,K=cP '塸' '妥':='3';simp only[au,cP,jT];rw[<- hK];have ih:=fun '拢'=>Sn (m:=m) (Q:=Q) ts '拢'
  rw[<- hK]at ih;have g:=u4 t.2
  cases hk:t.2 with
  | false =>
   show '懏'
   show cP _ [I 0] acc _ m _
   simp[cP,DL.stepI,sz,hz1];refine '嫠'
   simpa[aQ,bA,hk] using h d
  | true =>
   show '懏'
   show cP _ [I 0,I 1] acc _ m _
   simp[cP,DL.stepI,sz,hz1,hz2];refine '嫠'
   simpa[aQ,bA,hk] using h d
def zu0:∀ ds m R,ds.length=Tw.length->vG '*'->Lf '8' (aT SA ds) m:=by
 show '戴';simp[Lf,cK];have:=Sn (m:=m) (Q:=fun ps _ m2=>R 'ʨ' m2) ts '傕' none 'Ĭ' fun d=>'Ԥ'
 simpa[Function.comp_def] using this
def kH{x:'o'}(h:'乒'):'Ϟ'.canLay0=true/\'Ϟ'.depth<=50:=by
 have:=cX h
 show 'ǽ'
 ·simp[PyData.canLay0,PyData.canLayAll0,this]
 show '成'
theorem Lh:∀ {es:':'},(∀ e∈es,cU e.1)->PyData.canLayAll0 '惺'=true
 | [],_=>rfl
 | e::es,h=>by
  rw[au];simp only[PyData.canLayAll0,(kH (h e List.mem_cons_self)).1,Lh (es:=es) '呼',Bool.and_self]
theorem lC:∀ {ts:':'} {x:'o'},'Ʀ'->∃ k,(x.1,k)∈ts/\('弁')
 | [],x,h=>'侰'
 | 'ĳ',x,h=>by
  rcases 'Η' with rfl | h
  ·exact⟨t.2,List.mem_cons_self,'唳'⟩
  ·rcases '嶶' with h | h
   ·cases hk:t.2 with
    | true =>
     rw[hk]at h;rw[List.mem_singleton.mp h];exact⟨true,by rw[<- hk];show 'ϴ','ѳ'⟩
    | false=>show '堦'
   ·obtain⟨k,h1,h2⟩:=lC h;exact⟨k,aq _ h1,h2⟩
def fS['乫']{x:'o'}(h:'Ʀ'):'乒':=by
 obtain⟨k,h1,_⟩:=lC h;exact hW nm h1
def u5(es:':')(x:'o'):('惺'.any fun y=>y.eqv 'Ϟ')=decide (x∈es):=by
 show '慅'
 show 'ǽ'
 ·rintro⟨y,hy,e⟩;have e:PyData.eqv (bA y) 'Ϟ'=true:=e
  rw[sZ,decide_eq_true_iff]at e;rw[<- e];exact hy
 ·intro h;exact⟨x,h,by show '捦' (bA x)=true;rw[sZ];exact '幤'⟩
def Yh:∀ ds m R,ds.length=Og.length->rV '*'->QL '8' (aT S8 ds) m:=by
 rintro ds m R hl ⟨ts,x,rfl,nm,hx,h⟩;obtain⟨l1,l2⟩:=kH hx;refine⟨_,rfl,_,rfl,_,rfl,'u' ⟨_,rfl,rfl,rfl,Nat.zero_le _,_,rfl,aV rfl ?_⟩⟩;refine⟨_,rfl,_,'p',rfl,_,rfl,_,rfl,'Œ' ⟨_,rfl,_,rfl,rfl,ts,rfl,by simpa using nm.2.1,?_⟩⟩
 refine⟨Lh fun e he=>fS nm he,l1,l2,?_⟩;rw[u5];exact h
theorem Ai{f:DE}{d1:aS}{m:Mu}{g:Str->PyData}{Q:'ļ'}:∀ (ws:'#') (acc:'(') (o:'¨'),acc.length+ws.length<=100->(∀ z∈ws,∀ Q':DK,Q' '恾' m->f '呅' m Q')->Q (acc++ws.map g) m ->
  bV 'ƅ' f '实' acc '剭' m Q
 | [],acc,o,_,_,h=>by rw[List.map_nil,List.append_nil]at h;exact h
 | z::ws,acc,o,hn,hf,h=>by
  rw[List.length_cons]at hn;refine hf '坪' _ ⟨_,rfl,'委',?_⟩
  refine Ai ws _ _ '媰' '吴' ?_
  show '拏'
def DH:∀ ds m R,ds.length=Fx.length->nO '*'->Vf '8' (aT ZN ds) m:=by
 rintro ds m R hl ⟨i,n,rfl,h⟩;refine⟨_,rfl,rfl,i,rfl,_,rfl,'Œ' ⟨_,rfl,_,rfl,?_⟩⟩
 by_cases c:0<=i
 ·refine aW 'ԛ' '«';rw[show '唊'=decide (i<n) by simp[c]]at h
  exact h
 ·refine aV 'Ԓ' ?_;rw[show '唊'=false by simp[c]]at h
  exact h
def Hh['垰'](h:'休'):∃ r,'徨'='Ҥ'/\bP '丐' i='惻':=by
 show '办'
 have hk:'怕':=')'
 refine⟨rows[k],by rw[Int.toNat_natCast,'ӷ'],gC ?_⟩
 show '坕'
def CM:∀ ds m R,ds.length=Jj.length->iL '*'->II '8' (aT AW ds) m:=by
 show '慊'
 by_cases c:'休'
 ·show '慡'
  cases r with
  | may a b ws=>exact '孵'
  | gap x y n s=>exact '俾'
 ·rw['Ņ']at h;exact '姕'
def BP:∀ ds m R,ds.length=Kt.length->mU '*'->AG '8' (aT YI ds) m:=by
 show '慊'
 by_cases c:'休'
 ·show '慡'
  cases r with
  | may a b ws=>exact '俾'
  | gap x y n s=>exact '孵'
 ·rw['Ņ']at h;exact '姕'
def hU{a b:Str}(ha:cU a)(hb:cU b):('吜').canLay0=true/\('吜').depth<=50:=by
 show 'ǽ'
 ·simp[PyData.canLay0,PyData.canLayAll0,cX ha,cX hb]
 show '成'
def sR(a b c d:Str):PyData.eqv '岨' ('4' [.str c,.str d])=(decide (a=c)&&decide (b=d)):=by
 show '习';show '抝'
def dc(a b:Str):'丒'=decide (b=a):=decide_eq_decide.mpr eq_comm
def J7:∀ ds m R,ds.length=Iq.length->qU '*'->N6 '8' (aT zh8 ds) m:=by
 rintro ds m R hl ⟨ts,a,b,ws,x,y,rfl,nm,ga,gb,gx,gy,h⟩;refine⟨_,rfl,_,rfl,rfl,ts,x,rfl,nm,gx,_,rfl,?_⟩
 cases c1:'唉' with
 | false=>rw[c1]at h;exact 'Œ' (aW rfl h)
 | true =>
  rw[c1,Bool.true_and]at h;refine 'u' ⟨_,rfl,_,rfl,rfl,ts,y,rfl,nm,gy,_,rfl,?_⟩
  cases c2:'幕' with
  | false=>rw[c2]at h;exact '俾'
  | true =>
   rw[c2,Bool.true_and]at h;refine 'u' ⟨_,rfl,_,bR _ _,_,rfl,_,bR _ _,_,rfl,z2,_,rfl,_,bR _ _,_,rfl,_,bS _ _ _,_,rfl,z2,_,rfl,_,bS _ _ _,_,rfl,_,bR _ _,_,rfl,z2,_,rfl,z2,?_⟩;have l1:=(hU ga gb).1
   have l2:=(hU gb ga).1
   obtain⟨l3,l4⟩:='园';refine⟨by simp only[PyData.canLayAll0,l1,l2,Bool.and_self],l3,l4,?_⟩
   rw[show((['吜','4' ['ҝ','ɫ']]:'(').any fun z=>z.eqv ('4' ['囡',.str y.1]))='侽' by
    simp only[List.any_cons,List.any_nil,Bool.or_false,sR,iQ];rw[dc a x.1,dc b y.1,dc b x.1,dc a y.1]]
   exact h
theorem oB:∀ {ts:':'},'伃'->∀ {a:Str} {k l:Bool},'Ė'->(a,l)∈ts->k=l
 | [],_,_,_,_,h,_=>'侰'
 | 'ĳ',nd,a,k,l,h1,h2=>by
  obtain⟨n1,n2⟩:='儣';rcases List.mem_cons.mp h1 with rfl | h1<;>rcases List.mem_cons.mp h2 with e | h2
  ·exact(congrArg Prod.snd e).symm
  ·exact absurd (show 'Μ' from List.mem_map.mpr ⟨(a,l),h2,rfl⟩) n1
  ·have e1:a=t.1:=congrArg Prod.fst e
   exact absurd (show t.1∈ 'Ɩ' from e1▸List.mem_map.mpr ⟨(a,k),h1,rfl⟩) n1
  ·exact oB n2 '~'
def rG['坘']['埤']['扯']:'倝'<bK k:=by
 obtain⟨l,h1,h2⟩:=lC hx;rw[e]at h1;have:l=k:=oB nd h1 h
 show 'ĥ'
 cases hb:x.2 with
 | false=>cases l<;>decide
 | true=>rw[h2 hb];decide
def qT(b:Bool):(if b then 'Ž' else 0)=((eN b:Nat):Int):=by cases b<;>rfl
def zn4:∀ ds m R,ds.length=Kw.length->sS '*'->UT '8' (aT RA ds) m:=by
 rintro ds m R hl ⟨ts,a,b,ws,k,l,x,y,rfl,nm,ha,hb,wl,hw,hx,hy,hc,h⟩;refine 'Ӵ';refine⟨_,rfl,_,rfl,_,rfl,rfl,ts,a,b,k,l,rfl,'ΐ',nm.1,ha,hb,'ʳ'⟩
 have h:=h m1 k1
 unfold sJ at h;refine⟨_,rfl,_,'i',_,rfl,_,rfl,?_⟩;unfold iQ at hc
 by_cases c:x.1=a
 ·rw['ƫ']at h;refine aW 'ԛ' '仜';show '傔' [none,some (.dat (bA x)),some (.dat (bA y)),some (.dat (cS k l))] _ _
  have yb:y.1=b:=by
   by_cases cb:y.1=b
   ·exact cb
   ·simp[c,cb]at hc;rw[hc.1]at ha;rw[hc.2]at cb;exact '徴'
  refine Ai (g:=fun z=>.int ('吾')) '戞'
  exact⟨_,rfl,_,rfl,_,rfl,_,'p',_,rfl,_,'p',rfl,k,l,z,'倝',eN y.2,'恿',hw z hz,rG nm.1 ha hx c,rG nm.1 hb hy yb,hq⟩
 ·rw['Ņ']at h;simp[c]at hc;refine aV 'Ԓ' '仜';show '傔' [none,some (.dat (bA x)),some (.dat (bA y)),some (.dat (cS k l))] _ _
  refine Ai (g:=fun z=>.int ('吨')) '戞'
  exact⟨_,rfl,_,rfl,_,rfl,_,'p',_,rfl,_,'p',rfl,k,l,z,eN y.2,'倝','恿',hw z hz,rG nm.1 ha hy hc.2,rG nm.1 hb hx hc.1,_,rfl,hq⟩
def MR(x:Int):dC (-x)=-dC x:=by
 unfold dC
 by_cases h:0<x
 ·have:¬ x<0:=')'
  simp[h,this]
 ·by_cases h2:x<0
  ·simp[h,h2]
  ·simp[h,h2]
def oO['交']:aK y x=-'ː':=by
 unfold aK;rw[<- MR]
 congr 1
 omega
def K4(i j:Int)(hi:i=-1\/i=0\/i=1)(hj:j=-1\/j=0\/j=1):tn (row i j)=row (-i) (-j)/\row i j∈cJ:=by
 rcases hi with rfl | rfl | rfl<;>rcases hj with rfl | rfl | rfl<;>decide +kernel
def mP['憞'](h1:a*d<c*b)(h2:c*f<=e*d):a*f<e*b:=by
 refine '妴';have x1:a*d*f<c*b*f:=Int.mul_lt_mul_of_pos_right h1 hf
 have x2:c*f*b<=e*d*b:='憸' (Int.le_of_lt hb)
 have y1:'怊':='Ÿ'
 have y2:'怋':='Ÿ'
 have y3:'想':='Ÿ'
 omega
def XV:tn 'ę'='®':='J'
def zf3:tn '®'='ę':='J'
def MW:tn 'Ȟ'='ɵ':='J'
def VX:tn 'ɵ'='Ȟ':='J'
def JS['戼'](i3:s3=-1\/s3=0\/s3=1)(i4:s4=-1\/s4=0\/s4=1)(h1:s1<0->s2<0)(h2:'嚬'->s1=0->s2<0) :
  tn ('帑')=wc both (-s2) (-s1) (-s3) (-s4)/\'帑'∈cJ:=by
 obtain⟨r1,r2⟩:=K4 s3 s4 i3 i4;unfold wc
 by_cases c1:s1<0
 ·have c2:=h1 c1
  rw['到','ɐ','ш']
  exact⟨XV,'J'⟩
 rw['刱']
 by_cases c2:0<s2
 ·rw['刲','ш']
  exact⟨zf3,'J'⟩
 rw['刳',if_neg (show ¬ (-s2<0) by omega),if_neg (show ¬ (0 < -s1) by omega)]
 cases both with
 | false=>simpa using '惼'
 | true =>
  by_cases c3:s1=0
  ·have:=h2 rfl c3
   rw[if_pos ⟨rfl,c3⟩,'ɐ','屿']
   exact⟨MW,'J'⟩
  ·rw[if_neg (fun q=>c3 q.2)]
   by_cases c4:s2=0
   ·rw[if_pos ⟨rfl,c4⟩,'屿']
    exact⟨VX,'J'⟩
   ·rw[if_neg (fun q=>c4 q.2),'ɐ','ɐ']
    exact '惼'
def MA['圧']['垱']:tn ('ж')='嵶'/\'ж'∈cJ:=by
 have h1:'ɥ'<0->'ɦ'<0:=fun h=>by
  unfold aK at h ⊢;rw[Ko]at h ⊢;have x:=kK '愰' ha.le '%'
  have y:='墰'
  omega
 have h2:'ϝ'=true->'ɥ'=0->'ɦ'<0:=fun hk h=>by
  rw[Bool.and_eq_true]at hk;unfold aK at h ⊢;rw[Rg]at h;rw[Ko];have x:=mP '愰' (ha.st hk.1) '%'
  have y:='墰'
  omega
 have e:'嵶'=wc 'ϝ' (-'ɦ') (-'ɥ') (-'ɧ') (-'俹'):=by
  unfold wd wc;rw[oO a0 b1,oO a1 b0,oO a0 b0,oO a1 b1,Bool.and_comm l k]
 rw[e];exact JS 'ϝ' 'O' (wY _) (wY _) '~'
def SG['Ġ'](a0 a1 b0 b1:'F'):'?':=match k,l with
 | true,true=>'嫅'
 | true,false=>'帊'
 | false,true=>'帋'
 | false,false=>['ɧ']
def tG{ws:'#'}{p:'嚇'}{z:Str}(h:(ws.filter p).head?=some z):z∈ws/\p z=true:=List.mem_filter.mp (List.mem_of_mem_head? ('嘄'))
def oE['圧']['垱']:'ж'∈ 'ȥ'/\WB k l ('ж')='唓':=by
 cases k with
 | true =>
  cases l with
  | true =>
   obtain⟨h1,h2⟩:=tG (zR ('ɧ') 'µ' ('ɦ') 'µ' '戋' '怌' '冾' '怍');exact '僮'
  | false =>
   have e:='刵'
   subst e;obtain⟨h1,h2⟩:=tG (Am ('ɦ') 'µ' '侹' 'µ' '冾');exact '僮'
 | false =>
  have e:=ha.pt rfl
  subst e
  cases l with
  | true =>
   obtain⟨h1,h2⟩:=tG (tY '戋');exact '僮'
  | false =>
   have e:='刵'
   subst e;obtain⟨h1,h2⟩:=tG (vD '侹' 'µ');exact '僮'
def Up['亃']:'ː'=0↔ 'ƭ'='Ǧ':=by
 unfold aK;rw[Rg];omega
def cQ{x y z:'F'}(hx:'Ϩ')(hy:0<y.2)(hz:0<z.2):∀ i,gP ('ː') (aK y z)='š'->aK x z=i:=by
 intro i h;have le_trans:∀ {a b c:'F'},0<a.2->0<b.2->0<c.2->a.1*b.2<=b.1*a.2->b.1*c.2<=c.1*b.2->a.1*c.2<=c.1*a.2:=fun {a b c} 'Ƈ' hc '~'=>by
  refine Int.le_of_mul_le_mul_left (a:=b.2) ?_ hb;have x1:'惽'<='惾':='憷' (Int.le_of_lt hc)
  have x2:'惿'<='愀':='憸' (Int.le_of_lt ha)
  have y1:b.2*(a.1*c.2)='惽':='Ÿ'
  have y2:b.2*(c.1*a.2)='愀':='Ÿ'
  have y3:'惾'='惿':='Ÿ'
  omega
 unfold gP at h
 by_cases c1:'ː'=0
 ·rw['到']at h
  cases h
  have e:=Up.mp c1
  rw[eS,eS]
  by_cases d1:'啾'
  ·rw[if_pos d1,if_pos (kK 'œ' hz '%' d1)]
  ·rw[if_neg d1];have f1:¬ x.1*z.2<z.1*x.2:=fun q=>d1 (kK hy hx hz '%' q)
   rw[if_neg f1]
   by_cases d2:'倎'<'倍'
   ·rw[if_pos d2,if_pos (mP hz hy hx d2 '%')]
   ·rw[if_neg d2,if_neg fun q=>d2 (mP hz 'œ' q '%')]
 ·rw['刱']at h
  by_cases c2:aK y z=0\/aK y z='ː'
  ·rw['刲']at h
   cases h
   rw[eS y z]at c2;rw[eS x y]at c1 c2;rw[eS x z,eS x y]
   by_cases d1:'伿'
   ·rw[if_pos d1]at c2 ⊢;have d2:'倍'<='倎':=by
     by_cases q:'啾'
     ·omega
     ·rw['ˆ']at c2
      by_cases q2:'倎'<'倍'
      ·rw[if_pos q2]at c2;omega
      ·omega
    rw[if_pos (mP 'œ' hz d1 d2)]
   ·rw[if_neg d1]at c1 c2 ⊢
    by_cases d3:'冘'
    ·rw[if_pos d3]at c2 ⊢;have d2:'倎'<='倍':=by
      by_cases q:'啾'
      ·rw['φ']at c2;omega
      ·omega
     have d4:=kK hz hy hx d2 d3
     rw['ɐ',if_pos d4]
    ·rw[if_neg d3]at c1;exact '˫' c1
  ·rw['刳']at h
   cases h
theorem uM{v:Int}:∀ {l:'冕'},(∀ p∈l,∀ i,gP 'А'='š'->v=i)->∀ i,bL l='š'->v=i
 | [],_,i,h=>'侰'
 | (a,b)::r,q,i,h=>by
  unfold bL at h
  cases e:gP a b with
  | some j =>
   rw[e]at h
   cases h
   exact q '承' i e
  | none =>
   rw[e]at h;exact uM (fun p hp=>q p (aq _ hp)) i h
def dU{f:'¡'}{w:Int}{r:'Ν'}{ws:'?'}(h:∀ i,f='š'->w=i)(q:eZ r ws=true):eZ (f::r) (w::ws)=true:=by
 cases f with
 | none=>exact q
 | some i =>
  unfold eZ;rw[q,decide_eq_true (h i rfl).symm];rfl
def jD{v a b:Int}(h:'岯'):∀ i,bL [(a,b)]='š'->v=i:=uM fun p hp=>by rw[List.mem_singleton.mp hp];exact h
def jB{v a b c d:Int}(h:'岯')(g:∀ i,gP c d='š'->v=i):∀ i,bL [(a,b),(c,d)]='š'->v=i:=uM fun p hp=>by
 rcases '巤' with e | e
 ·rw[e];exact h
 ·rw[List.mem_singleton.mp e];exact g
def FX['乲'](a0 a1 b0 b1 c0 c1:'F'):'Ν':=match k,l,n with
 | true,true,true=>['僅','娹','娺',bL ['帓',('俹',aK b1 c1)]]
 | true,true,false=>['僅','娺']
 | true,false,true=>['儍',bL ['哪'],bL ['哫'],bL ['帓']]
 | true,false,false=>['儍',bL ['哫']]
 | false,true,true=>['僅','娹']
 | false,true,false=>['僅']
 | false,false,true=>['儍',bL ['哪']]
 | false,false,false=>['儍']
def dZ['乲'](xs ys:'?'):'Ν':=('峜' fun(x:Nat)=>'峝' fun y=>bL ((cD xs '嵦' '屸').zip (pick ys (cA ys.length y '倛')))).flatten
def GW(s00 s01 s10 s11 t00 t01 t10 t11:Int):dZ '偑' true '唱' '廂'=['儎','岰','岱',bL [(s10,t01),(s11,t11)]]:='͵'
def IA(s00 s01 s10 s11 t00 t10:Int):dZ '偑' false '唱' [t00,t10]=['儎','岱']:='͵'
def Yn(s00 s10 t00 t01:Int):dZ '勁' true '嚰' [t00,t01]=['冮','徵','徶',bL [(s10,t01)]]:='͵'
def zk4(s00 s10 t00:Int):dZ true '乶' '嚰' [t00]=['冮','徶']:='͵'
def J2(s00 s01 t00 t01 t10 t11:Int):dZ '偐' true '嚱' '廂'=['儎','岰']:='͵'
def NM(s00 s01 t00 t10:Int):dZ '偐' false '嚱' [t00,t10]=['儎']:='͵'
def Zt(s00 t00 t01:Int):dZ '乶' true [s00] [t00,t01]=['冮','徵']:='͵'
def XE(s00 t00:Int):dZ '乶' false [s00] [t00]=['冮']:='͵'
def JA['坿']['択'](h1:'丸'='唓')(h2:WB l n w=SG l n '堘'):'丛'=FX k l n a0 a1 '堘':=by
 have e:'丛'=dZ k l n 'ς' '刐':=rfl
 rw[e,h1,h2]
 show '挟'
 ·exact XE _ _
 ·exact Zt ','
 ·exact NM 'O'
 ·exact J2 'ő'
 ·exact zk4 ','
 ·exact Yn 'O'
 ·exact IA 'ő'
 ·exact GW 'O' 'O'
end
mutual section G
def Zl{p q r:PyData}['坾']['択']['垱'](hc:Tm r n c0 c1) :
  wd (k&&n) a0 a1 c0 c1∈BW k l n ('ж') (wd (l&&n) '堘'):=by
 obtain⟨m1,e1⟩:=oE 'Ƈ';obtain⟨m2,e2⟩:=oE hb hc;obtain⟨m3,e3⟩:=oE ha hc;refine List.mem_filter.mpr ⟨m3,?_⟩;rw[e3];rw[JA e1 e2];have A0:=ha.px
 have A1:=ha.py
 have B0:=hb.px
 have B1:=hb.py
 have C0:=hc.px
 have C1:=hc.py
 show '挟'
 ·exact dU '兡' rfl
 ·exact dU '兡' (dU (jD '嗌') rfl)
 ·exact dU '僡' rfl
 ·exact dU '僡' (dU '孆' rfl)
 ·exact dU '兡' (dU (jD '嗍') rfl)
 ·exact dU '兡' (dU (jD '嗌') (dU (jD '嗍') (dU (jD '怗') rfl)))
 ·exact dU '僡' (dU '孇' rfl)
 ·exact dU '僡' (dU '孆' (dU '孇' (dU (jB '怗' (cQ A1 B1 C1)) rfl)))
def Bk['ʌ'](j:Nat)(hj:j<=xs.length):cD xs none (some '剜')=xs.take j:=by
 unfold cD;rw[HT.sIx_nat,HT.sIx_none,Nat.min_eq_left hj];simp
def AX['ʌ'](i:Nat)(hi:'佮'):cD xs (some 'ň') none=xs.drop i:=by
 unfold cD;rw[HT.sIx_nat,HT.sIx_none,Nat.min_eq_left hi,List.take_of_length_le 'C']
def jM(a b:PyData)(r:'('):cD (a::b::r) none ('ҥ')='ƀ':=Bk 2 'C'
def zH(a:PyData)(r:'('):cD (a::r) '囜' none=r:=AX 1 'C'
def iC['Ʌ']['垰']{r:Row}(h:eM b rows i='Ҥ'):r∈rows/\sX r=b:=by
 unfold eM at h
 show 'j'
 ·rw[Option.filter_eq_some_iff]at h;exact⟨List.mem_of_getElem? h.1,by simpa using h.2⟩
 ·cases h
def RowO.mono{ts:':'}{M N:Int}{r:Row}(h:'丣')(hm:M<=N):RowO ts N r:=by
 cases r with
 | may a b ws=>exact h
 | gap x y n s=>exact⟨h.1,h.2.1,'˘'.1,by have:='˘'.2.1;omega,by have:='˘'.2.2;omega⟩
theorem SoR.mono['ƶ']{M N:Int}{r:Row}(h:'冺')(hm:M<=N):'亓' N r:=⟨h.1.mono hm,h.2⟩
def CN['垰'](h:'休'):∃ r∈rows,bP (rows.map eQ) i=some (eQ r):=by
 show '办'
 have hk:'怕':=')'
 refine⟨rows[k],'兒',gC ?_⟩;show '坕'
def Uq:∀ ds m R,ds.length=Lm.length->pW '*'->UV '8' (aT Vb ds) m:=by
 show '慁';refine '岀';refine⟨_,rfl,_,'p',_,rfl,rfl,i,_,rfl,_,rfl,?_⟩;rw[av]
 by_cases c:0<=i/\i<says.length
 ·obtain⟨r,hr,e⟩:=CN c;have s:=(W.s r hr).mono (N:=12*M) (by have:=W.m0;omega)
  refine aW 'ԛ' ⟨_,rfl,_,rfl,_,'p',_,e,_,rfl,?_⟩
  cases r with
  | may a b ws=>exact '姧'
  | gap x y n t=>exact '姧'
 ·exact aV 'Ԓ' '丆'
def hX['ƶ']{a:Str}{k:Bool}(nm:'·')['Е'](h:'Ė'):∃ x y,Tm '凚' k x y:=by
 obtain⟨k',x,y,_,h2,h3⟩:=lB ht (show 'Μ' from '嬌')
 have:k'=k:=oB nm.1 h3.2 h
 show 'ĥ';exact⟨x,y,h2⟩
def vI['垁']['劉']:'ӳ'∈ 'ȥ':=by
 show '圝';rw['剏'];exact(oE '~').1
def W8['垁']['劉']:dB '嗻' '凚'=tn ('ӳ'):=by
 show '圝';rw['剏',iX h2 h1];exact(MA '~').1.symm
def zv3['ƶ']{a b c:Str}['坾']['劉'](hc:(c,n)∈ts):dB '凚' '嘅'∈BW k l n ('ӳ') (dB '嗻' '嘅'):=by
 show '圝';obtain⟨p,q,h3⟩:=hX nm ht hc;rw['剏',iX h2 h3,iX h1 h3];exact Zl 'ӈ'
def n6['乫']:'Ŷ':='ΐ'
def Io{ts:':'}{a:Str}(h:'Μ'):∃ k,'Ė':=by
 obtain⟨t,h1,rfl⟩:='庼';exact⟨t.2,h1⟩
def Vp:∀ ds m R,ds.length=Pk.length->qL '*'->VA '8' (aT Zb ds) m:=by
 rintro ds m R hl ⟨ts,ps,says,rows,M,st,rfl,W,so,⟨a,b,rfl⟩,hN,hR⟩;refine 'Ӵ';refine⟨_,rfl,_,'i',_,rfl,_,rfl,rfl,ts,a,b,rfl,'剮',_,rfl,?_⟩
 cases c:'壡' with
 | false=>exact 'Ԇ'
 | true =>
  show '愸';obtain⟨k,ha⟩:=Io c.1;obtain⟨l,hb⟩:=Io c.2.1;exact 'u' ⟨_,rfl,_,rfl,_,rfl,_,bR _ _,_,rfl,_,rfl,rfl,ts,a,b,k,l,rfl,n6 W.nm,W.nm.1,ha,hb,fun m1 k1=>⟨rfl,k,l,rfl,_,rfl,z3,
   hR (.may a b (WS k l)) m1 ⟨⟨k,l,ha,hb,(jO k l).2,fun z hz=>hz⟩,decide_eq_true (vI W.nm W.tm ha hb)⟩ k1⟩⟩
theorem Oe:∀ {ts:':'},(∀ t∈ts,cU t.1)->PyData.canLayAll0 '娃'=true
 | [],_=>rfl
 | 'ĳ',h=>by
  have g:=cX (h t List.mem_cons_self)
  rw[au];simp only[PyData.canLayAll0,PyData.canLay0,g,Fp,Oe (ts:=ts) '呼',Bool.and_self]
def D9['Д'](a:Str):('妳'.any fun y=>y.eqv '叴')=decide ('嗊'):=by
 show '慅'
 show 'ǽ'
 ·rintro⟨t,ht,e⟩;have e:PyData.eqv ('仛') '叴'=true:=e
  rw[sR,Bool.and_eq_true,decide_eq_true_iff,decide_eq_true_iff]at e;have:t.2=true:=rH (l:=true) e.2
  rw[<- e.1,<- this];exact ht
 ·intro h;exact⟨ '俽',h,by show PyData.eqv ('4' ['ɫ',.str (kd true)]) '叴'=true;rw[sR];simp;rfl⟩
theorem Kc:∀ {ts:':'} {a:Str} {k:Bool},'Ė'->'庿'/\('ǫ'->'开')
 | [],_,_,h=>'侰'
 | 'ĳ',a,k,h=>by
  rcases 'Η' with e | h
  ·subst e;exact⟨List.mem_cons_self,fun q=>by subst q;exact aq _ ('劚' List.mem_cons_self)⟩
  ·obtain⟨h1,h2⟩:=Kc h;exact⟨aq _ ('ϯ' h1),fun q=>aq _ ('ϯ' (h2 q))⟩
def Mj:Dn 'Ƴ':=by unfold Dn;decide
def Qw(t u:'F')(s:Bool):cZ t u 'Ƴ' s=(decide ('Ϡ'<0)||(decide ('Ϡ'=0) && !s)):=by
 unfold cZ;rw[show aK '呒' 'Ƴ'='Ϡ' by unfold aK;simp]
def k8:∀ ds m R,ds.length=Dk.length->qM '*'->A6 '8' (aT KF ds) m:=by
 rintro ds m R hl ⟨ts,ps,says,rows,M,st,rfl,W,so,⟨a,rfl⟩,hN,hR⟩;have g:cU a:=so
 have ok:'媱'.canLay0=true:=by simp[PyData.canLay0,PyData.canLayAll0,cX g]
 have dp:'媱'.depth<=50:='嫆'
 refine⟨_,rfl,_,'p',_,rfl,z2,_,rfl,_,'i',Oe fun t ht=>'傖' (k:=t.2) ht,ok,dp,_,rfl,?_⟩;rw[D9]
 by_cases c:'嗊'
 ·obtain⟨e1,e2⟩:=Kc c;obtain⟨x,y,h⟩:=hX W.nm W.tm c;refine aV (jJ 'ԛ') ⟨_,rfl,_,'p',_,rfl,z2,_,rfl,_,'p',_,rfl,z2,_,rfl,z4,?_⟩;refine hR (.gap '嚳' '俽' 'Ƴ' true) m ⟨⟨e1,e2 rfl,Mj,'嫲','孈'⟩,?_⟩ Kn.refl
  show cZ 'O'=true
  rw[Qw,gM (e:='嚳') h,gM (e:='俽') h];have:=h.st rfl
  have q:'ː'<0:=by rw[eS,'嘽'];decide
  simp[q]
 ·exact '婞'
def S9:∀ ds m R,ds.length=Ka.length->pI '*'->Zr '8' (aT TB ds) m:=by
 show '慁';refine '介'
 cases e:'七' with
 | none=>exact⟨_,rfl,_,rfl,'Ԇ'⟩
 | some r =>
  obtain⟨hr,hm⟩:=iC e
  cases r with
  | gap x y n s=>cases hm
  | may a b ws =>
   obtain⟨⟨k,l,ha,hb,wl,hw⟩,hs⟩:=W.r _ hr;show '偏'
   refine '尚';refine 'Ӵ';refine⟨_,rfl,_,rfl,_,rfl,rfl,ws,rfl,'僸',')',_,rfl,z3,?_⟩
   refine hR (.may b a (ws.reverse.map tn)) m ⟨⟨l,k,hb,ha,by simpa using wl,'嘂'⟩,'唵'⟩ Kn.refl
   ·obtain⟨y,hy,rfl⟩:=List.mem_map.mp hz;exact Ja k l y (hw y (List.mem_reverse.mp hy))
   ·rw[W8 '劾'];exact List.mem_map.mpr ⟨_,List.mem_reverse.mpr hs,rfl⟩
def R5:∀ ds m R,ds.length=Gr.length->rJ '*'->i5 '8' (aT Xk ds) m:=by
 show '創'
 cases e1:'七' with
 | none=>exact 'ӥ'
 | some r1 =>
 show '倾'
 cases r1 with
 | gap x y n s=>cases hm1
 | may a b ws =>
 cases e2:'德' with
 | none=>exact '傧'
 | some r2 =>
 show '劥'
 cases r2 with
 | gap x y n s=>cases hm2
 | may c d vs =>
 show '劆';obtain⟨⟨l',n,hc,hd,vl,hv⟩,ht⟩:='制';show '偏'
 have ht:'嬨':='嶻'
 refine⟨_,rfl,_,rfl,'u' ⟨_,rfl,_,rfl,aV rfl ⟨_,rfl,_,bS _ _ _,_,rfl,_,bR _ _,_,rfl,?_⟩⟩⟩
 by_cases c1:b=c
 ·subst c1;have:l'=l:=oB W.nm.1 hc hb
  show 'ĥ';refine aV '岁' ⟨_,rfl,_,'i',_,rfl,_,'p',_,rfl,?_⟩
  by_cases c2:a=d
  ·exact aW '帔' '丆'
  ·refine aV '嶼' ?_;refine 'Ӵ';refine '岀';refine⟨_,rfl,_,'i',_,rfl,_,rfl,rfl,ts,a,b,k,l',rfl,'剮',W.nm.1,ha,hb,'ʳ'⟩;refine⟨_,rfl,_,'i',_,rfl,_,rfl,rfl,ts,b,d,l',n,rfl,'剮',W.nm.1,hc,hd,'嗇'⟩;refine 'Ӱ';rw[zH];refine '厭';refine⟨_,rfl,_,rfl,_,rfl,_,rfl,_,rfl,_,'ŷ',rfl,k,l',n,ws,vs,rfl,wl,vl,hw,hv,fun m3 k3=>⟨_,rfl,z3,?_⟩⟩;refine hR (.may a d (BM k l' n ws vs)) m3 ⟨⟨k,n,ha,hd,'劯' (jO k n).2,'嫳'⟩,'唵'⟩ ('嗈'.trans k3);refine List.mem_filter.mpr ⟨vI W.nm W.tm ha hd,?_⟩;exact List.any_eq_true.mpr ⟨_,hs,List.any_eq_true.mpr ⟨_,ht,decide_eq_true (zv3 '劾' hd)⟩⟩
 ·exact aW (mJ ('兢')) ('Ԇ')
def B5:∀ ds m R,ds.length=Ia.length->sB '*'->EM '8' (aT XJ ds) m:=by
 show '創'
 cases e1:'七' with
 | none=>exact 'ӥ'
 | some r1 =>
 show '倾'
 cases r1 with
 | gap x y n s=>cases hm1
 | may a b ws =>
 cases e2:'德' with
 | none=>exact '傧'
 | some r2 =>
 show '劥'
 cases r2 with
 | gap x y n s=>cases hm2
 | may c d vs =>
 show '劆';obtain⟨⟨k',l',hc,hd,vl,hv⟩,ht⟩:='制';show '偏'
 have ht:'嬨':='嶻'
 obtain⟨p1,p2⟩:=hU ('噰') ('噱');obtain⟨q1,q2⟩:=hU ('傖' hc) ('傖' hd);refine⟨_,rfl,_,rfl,'u' ⟨_,rfl,_,rfl,aV rfl ⟨_,rfl,_,rfl,.inl ⟨_,rfl,_,rfl,_,rfl,.inl ⟨_,rfl,?_⟩⟩⟩⟩⟩;rw[jM,jM];refine⟨p1,q1,')',_,rfl,?_⟩
 rw[sR]
 by_cases c1:a=c/\b=d
 ·obtain⟨rfl,rfl⟩:=c1;refine aV (jJ 'C') ?_
  refine⟨_,rfl,_,rfl,.inl ⟨_,rfl,_,rfl,_,'ŷ','ʡ'⟩⟩;show '傔' [none,some (.dat (bX (.may a b vs)))] _ _
  show 'Є';refine vS (pr:='崫') wl (fun z Q' _ hq=>⟨_,rfl,_,rfl,_,'ŷ',vs,rfl,_,rfl,hq⟩) ?_;show '指';refine hR ('傁' (ws.filter fun z=>decide (z∈vs))) m '塪' Kn.refl;exact List.mem_filter.mpr ⟨hs,decide_eq_true ht⟩
 ·refine aW (mJ ?_) '丆';rw[Bool.and_eq_false_iff,decide_eq_false_iff_not,decide_eq_false_iff_not]
  by_cases q:a=c
  ·exact .inr fun w=>c1 ⟨q,w⟩
  ·exact 'ˍ'
def Cu{k l x2 y2:Bool}{a0 a1 b0 b1:'F'}(h1:x2=true->'ǫ')(h2:y2=true->l=true):('唓').getD (eN x2*bK l+eN y2) 0=aK (if x2 then a1 else a0) (if y2 then b1 else b0):=by
 cases x2<;>cases y2<;>cases k<;>cases l<;>first | rfl | exact absurd (h1 rfl) '&' | exact absurd (h2 rfl) '&'
def wF['Ġ'](a:Str)['ӂ'](z:Str):Int:=if x.1=a then '吾' else '吨'
def Gp['扂']:'彂'='伅':=by
 unfold sJ wF
 split<;>rfl
def qY['乫']{a:Str}{k:Bool}(ha:'Ė')['扯']:'弁':=by
 obtain⟨k',h1,h2⟩:=lC hx;rw[e]at h1;have:k'=k:=oB nm.1 h1 ha
 show 'ĥ';exact h2
def Bo['垁']{x y:'o'}['劉'](hx:'Ʀ')(hy:'ʿ')(hc:'侽'=true) :
  '堶' y (dB (FT ts ps a) (FT ts ps b))='僴':=by
 obtain⟨p,q,h1⟩:='函';obtain⟨u,v,h2⟩:='凾';have e:=(oE '~').2
 rw['剏'];unfold wF dI;rw[e];unfold iQ at hc
 by_cases c:x.1=a
 ·rw['ƫ'];have yb:y.1=b:=by
   by_cases cb:y.1=b
   ·exact cb
   ·simp[c,cb]at hc;rw[hc.2]at cb;exact '徴'
  rw[Cu (qY nm ha hx c) (qY nm hb hy yb),gM (by rw[c];exact h1),gM (by rw[yb];exact h2)]
 ·rw['Ņ'];simp[c]at hc;rw[Cu (qY nm ha hy hc.2) (qY nm hb hx hc.1),gM (e:=x) (by rw[hc.1];exact h2),gM (e:=y) (by rw[hc.2];exact h1),<- oO]
theorem sA:∀ {zs:'#'},'巼'->'嫜'/\PyData.depthAll '佝'=0
 | [],_=>'ǘ'
 | 'ţ',h=>by
  obtain⟨h1,h2⟩:=sA (zs:=zs) '呼';have h0:=oX z ('崦')
  rw[au];simp only[PyData.canLayAll0,PyData.canLay0,PyData.depthAll,PyData.depth,h0,h1,h2];exact 'ǘ'
def z0:'侘':='L'
def v5:∀ zs:'#',PyData.eqv '咎' ('4' [])=decide (zs=[])
 | []=>rfl
 | 'ţ'=>rfl
def XW:∀ ds m R,ds.length=Lc.length->pH '*'->t7 '8' (aT U2 ds) m:=by
 rintro ds m R hl ⟨ts,ps,says,rows,M,st,rfl,W,so,⟨i,x,y,rfl⟩,hN,hR⟩;refine 'Ӵ';refine⟨_,rfl,_,rfl,rfl,rows,i,rfl,?_⟩
 cases e1:'七' with
 | none=>exact 'ӥ'
 | some r1 =>
 show '倾'
 cases r1 with
 | gap x y n s=>cases hm1
 | may a b ws =>
 show '劆';show '偏'
 obtain⟨l1,l2⟩:=sA '僸';refine⟨_,rfl,_,rfl,'u' ⟨_,rfl,_,eF _ _ _ _,_,rfl,z0,l1,rfl,by show PyData.depthAll _+1<=100;rw[l2];decide,_,rfl,?_⟩⟩
 rw[v5,decide_eq_false (by show 'P';cases hs)]
 refine 'u' ⟨_,rfl,_,bR _ _,_,rfl,_,rfl,_,rfl,rfl,ts,a,b,ws,x,y,rfl,W.nm,hW W.nm ha,hW W.nm hb,so.1,so.2,_,rfl,?_⟩
 cases c:'妣' with
 | false=>exact 'Ԇ'
 | true =>
 show '愸';obtain⟨hx,hy,hc⟩:=c;refine 'ˁ';refine '墄';rw[Gp];have mem:'僴'∈ '伅':=List.mem_map.mpr ⟨_,hs,'尛'⟩
 refine⟨_,rfl,'伅',rfl,_,rfl,?_⟩
 by_cases c1:'Ž'∈ '伅'
 ·exact aW '帕' (hN m1 k1)
 ·refine aV ('兢') ⟨_,rfl,_,rfl,_,rfl,'伅',rfl,_,rfl,z4,?_⟩;refine hR ('區' (0,1) _) m1 ⟨⟨hx,hy,Mj,'嫲','孈'⟩,?_⟩ k1
  show cZ 'O'=true
  rw[Qw];have s3:=cO 'ǜ' '业'
  unfold S3 at s3;simp only[List.mem_cons,List.not_mem_nil,or_false]at s3;rcases s3 with q | q | q
  ·rw[q];rfl
  ·rw[q]at mem ⊢;rw[decide_eq_true mem];rfl
  ·rw[q]at mem;exact absurd mem c1
theorem zO{t:Int}{m:Mu}{Q:'ļ'}:∀ (L:List (Str×Int)) (acc:'(') (o0 o1:'¨'),acc.length+L.length<=100->Q (acc++((L.filter '崬').map '嵷')) m ->
  bV '仚' '屏' '7' (L.map '媂') acc [o0,o1,'便'] m Q
 | [],acc,o0,o1,_,h=>by
  rw[List.filter_nil,List.map_nil,List.append_nil]at h;exact h
 | p::L,acc,o0,o1,hn,h=>by
  rw[List.length_cons]at hn;refine⟨_,rfl,rfl,rfl,_,rfl,_,rfl,_,rfl,?_⟩
  by_cases c:p.2<=t
  ·rw[List.filter_cons,if_pos (show '啿'=true from '啖')]at h
   refine aW 'ԛ' ⟨_,rfl,_,rfl,'委',?_⟩
   refine zO L ',' '媰' ?_
   show '拏'
  ·rw[List.filter_cons,if_neg (show ¬ '啿'=true by rw['伨'];decide)]at h
   exact aV 'Ԓ' (zO L ',' '%' h)
theorem Td(f:Str->Int):∀ ws:'#',('哩'.zip ((ws.map f).map PyData.int)).map (fun z=>D.dat ('啉'))='峫'.map '媂'
 | []=>rfl
 | w::ws=>by
  have:=Td f ws
  simp only[au,List.zip_cons_cons];rw[this]
theorem Ex(f:Str->Int)(t:Int):∀ ws:'#',(('峫'.filter '崬').map '嵷')=(ws.filter fun z=>decide (f z<=t)).map .str
 | []=>rfl
 | w::ws=>by
  have:=Ex f t ws
  rw[au]
  by_cases c:f w<=t
  ·rw[List.filter_cons,'妊',List.filter_cons,'妊',au,au,this]
  ·rw[List.filter_cons,'夓',List.filter_cons,'夓',this]
def Zq['捧']['捨'](pn:0<n.2)(h:'喀'):(n.1<0->'Ϡ'<0)/\(n.1=0->'Ϡ'<=0/\(s=true->'Ϡ'<0)):=by
 have hp:0<'倉':=Int.mul_pos pt pu
 have neg:'ԯ'<0->'Ϡ'<0:=fun q=>by rw[eS,'ш'];decide
 have zer:'ԯ'<=0->'Ϡ'<=0:=fun q=>by
  rw[eS]
  split
  ·decide
  ·show '亷'
 show '慳';rw[<- eP]at hp;rw[<- eA]at neg zer;have h:('噊')\/('愁'/\'副'):=by
  unfold cZ at h;rw[<- eA,<- eP]at h;rw[eS]at h
  by_cases c:'噊'
  ·exact .inl c
  ·rw['Ņ']at h
   by_cases d:'愂'
   ·rw[if_pos d]at h;simp at h
   ·rw[if_neg d]at h;exact .inr ⟨ ')','Ԥ'⟩
 have low:A*n.2<=n.1*P:=by rcases h with h | h<;>omega
 refine⟨fun q=>neg ?_,'嚕'⟩
 ·have x1:n.1*P<0:='懹' hp
  rcases '异' with c | c
  ·exact c
  ·have:='嬐'
   omega
 ·rw[q,Int.zero_mul]at h low;have a0:A<=0:=by
   rcases Int.lt_or_le 0 A with c | c
   ·have:=Int.mul_pos c pn
    omega
   ·exact c
  refine⟨zer a0,fun hs=>neg ?_⟩;rcases h with h | ⟨_,h⟩
  ·rcases '异' with c | c
   ·exact c
   ·have:='嬐'
    omega
  ·rw[hs]at h;cases h
def zm2:∀ ds m R,ds.length=Bf.length->pC '*'->LN '8' (aT TJ ds) m:=by
 show '創'
 cases e1:'七' with
 | none=>exact 'ӥ'
 | some r1 =>
 show '倾'
 cases r1 with
 | gap x y n s=>cases hm1
 | may a b ws =>
 cases e2:'彐' with
 | none=>exact '傧'
 | some r2 =>
 show '劥'
 cases r2 with
 | may c d vs=>cases hm2
 | gap x y n s =>
 show '劆';obtain⟨⟨hx,hy,dn,lo,hi⟩,hg⟩:='制';show '偏'
 have hg:'台'=true:=hg
 have memx:'哦':=by obtain⟨k',q,_⟩:=lC hx;exact '各'
 have memy:y.1∈ 'Ɩ':=by obtain⟨k',q,_⟩:=lC hy;exact '各'
 obtain⟨g1,g2⟩:=Zq ('傗' memx).1 ('傗' memy).1 dn.1 hg;refine⟨_,rfl,_,rfl,'u' ⟨_,rfl,_,rfl,aV rfl ⟨_,rfl,_,bR _ _,_,rfl,_,rfl,_,bR _ _,_,rfl,_,bS _ _ _,rfl,ts,a,b,ws,x,y,rfl,W.nm,hW W.nm ha,hW W.nm hb,fS W.nm hx,fS W.nm hy,_,rfl,?_⟩⟩⟩;rw[decide_eq_true hx,decide_eq_true hy,Bool.true_and,Bool.true_and]
 cases hc:'侽' with
 | false=>exact 'Ԇ'
 | true =>
 refine 'ˁ';refine 'Ӵ';refine '寑'
 by_cases c1:n.1 > 0
 ·exact aW '帕' '丆'
 refine aV ('兢') ?_;have key:∀ t:Int,'僴'<=t->Ss '8' [some ('婝'),some ('吽'),some (.dat (eJ ('售'))),some ('峠'),some (.dat (bX ('ι'))),'幥','幦',some (.dat (fq n)),some (.dat ('N' s)),'便',none] m:=fun t ht=>by
  refine '墄';rw[Gp];refine⟨_,rfl,_,rfl,.inl ⟨_,rfl,_,rfl,_,'ŷ',_,rfl,_,_,rfl,rfl,?_⟩⟩;rw[Td];show '傔' [none,none,some (I t)] _ _
  refine zO _ '傕' 'Ĭ' ?_
  rw[Ex];show '指';refine hR ('傁' (ws.filter fun z=>decide (wF k l a x y z<=t))) m1 '塪' k1;exact List.mem_filter.mpr ⟨hs,decide_eq_true (by rw['尛'];exact ht)⟩
 refine '寑'
 by_cases c2:n.1<0
 ·exact aW '帔' ('Œ' ⟨_,rfl,key (-1) (by have:=g1 c2;omega)⟩)
 ·have n0:n.1=0:=')'
  refine aV '嶼' '伋'
  cases s with
  | true=>exact 'Œ' ⟨_,rfl,key (-1) (by have:=(g2 n0).2 rfl;omega)⟩
  | false=>exact 'u' (key 0 (g2 n0).1)
def rA['捧']:'喀'↔(('ԯ')*n.2<n.1*('倉'))\/(('ԯ')*n.2=n.1*('倉')/\'副'):=by
 unfold cZ;rw[eS];show '慳';rw[<- eA,<- eP]
 by_cases c:'噊'
 ·rw['ƫ'];simp[c]
 ·rw['Ņ']
  by_cases d:'愂'
  ·rw[if_pos d]
   show 'ǽ'
   ·intro q;simp at q
   ·rintro (q | q)<;>omega
  ·rw[if_neg d];have e:'愁':=')'
   simp[e]
def rP{T B:Int}(hB:0<B):∃ g:Int,0<g/\T / '兺'*g=T/\'ԇ'*g=B/\0<'ԇ':=by
 have hg:=tQ '埙' '%'
 have e1:=Int.ediv_mul_cancel (Int.gcd_dvd_left T B)
 have e2:=Int.ediv_mul_cancel (Int.gcd_dvd_right T B)
 refine⟨_,hg,e1,e2,?_⟩;rcases Int.lt_or_le 0 ('ԇ') with c | c
 ·exact c
 ·have:'ԇ'*'兺'<=0:=Int.mul_nonpos_of_nonpos_of_nonneg c '唶'
  omega
def vM['亃'](hx:Dn x)(hy:Dn y):Dn ('傰','串' / '婵'):=by
 obtain⟨T,eT⟩:∃ T,T='佁':='3';obtain⟨B,eB⟩:∃ B,B='Ҕ':='3';have hB:0<B:=by rw[eB];exact '嵸'
 rw[<- eT,<- eB];obtain⟨g,hg,e1,e2,hp⟩:=rP (T:=T) hB;refine⟨hp,?_⟩;have co:=Wh '埙' '%'
 obtain⟨p,hp6⟩:=hx.2;obtain⟨q,hq6⟩:=hy.2;obtain⟨T',eT'⟩:∃ T',T'=T / '兺':='3';obtain⟨B',eB'⟩:∃ B',B'='ԇ':='3';rw[<- eT',<- eB']at co;show '抆';show 'ԇ'∣6
 rw[<- eB'];have d:B'*g∣6*(T'*g):=by
  rw[e1,e2,eT,eB];refine⟨p*x.1+q*y.1,?_⟩;have a1:6*('ƭ')='Ҕ'*(p*x.1):=by rw[hp6];ac_rfl
  have a2:6*('Ǧ')='Ҕ'*(q*y.1):=by rw[hq6];ac_rfl
  rw[Int.mul_add,a1,a2,Int.mul_add]
 have d2:B'∣6*T':=by
  obtain⟨c,hc⟩:=d;refine '噫';refine Int.eq_of_mul_eq_mul_right (Int.ne_of_gt hg) ?_;rw[show 6*T'*g=6*(T'*g) by ac_rfl,hc]
  ac_rfl
 have d3:B'.natAbs∣6*T'.natAbs:=by
  have:=Int.natAbs_dvd_natAbs.mpr d2
  rwa [Int.natAbs_mul]at this
 have d4:B'.natAbs∣6:=Nat.Coprime.dvd_of_dvd_mul_right (by show '坥';exact co) d3
 have:(B'.natAbs:Int)∣6:=by exact_mod_cast d4
 rwa [Int.natAbs_of_nonneg (by rw[eB'];exact Int.le_of_lt hp)]at this
def vX['亃']{M:Int}(hx:Dn x)(hy:Dn y)(m0:1<=M)(a:-M<=x.1/\x.1<=M)(b:-M<=y.1/\y.1<=M):-'倜'<='傰'/\'傰'<=12*M:=by
 have x6:=iK hx
 have y6:=iK hy
 have t1:'ƭ'<=M*6:=Int.le_trans (Int.mul_le_mul_of_nonneg_right a.2 '%') ('娥')
 have t2:'Ǧ'<=M*6:=Int.le_trans (Int.mul_le_mul_of_nonneg_right b.2 '%') ('娦')
 have s1:-(M*6)<='ƭ':=by
  have h1:(-M)*y.2<='ƭ':=Int.mul_le_mul_of_nonneg_right a.1 '%'
  have h2:M*y.2<=M*6:='娥'
  have h3:(-M)*y.2=-(M*y.2):='彑'
  omega
 have s2:-(M*6)<='Ǧ':=by
  have h1:(-M)*x.2<='Ǧ':=Int.mul_le_mul_of_nonneg_right b.1 '%'
  have h2:M*x.2<=M*6:='娦'
  have h3:(-M)*x.2=-(M*x.2):='彑'
  omega
 have hB:0<'Ҕ':='嵸'
 obtain⟨g,hg,e1,_,_⟩:=rP (T:='佁') hB;obtain⟨T',eT'⟩:∃ T',T'='傰':='3';rw[<- eT']at e1 ⊢;have lo:-'倜'<=T'*g:=')'
 have hi:T'*g<=12*M:=')'
 rcases Int.lt_or_le T' 0 with c | c
 ·have:T'*g<=T'*1:=Int.mul_le_mul_of_nonpos_left 'Ǳ'
  omega
 ·have:T'*1<=T'*g:=Int.mul_le_mul_of_nonneg_left '%' c
  omega
def Tl{t u v n k:'F'}{s r:Bool}['捨'](pv:0<v.2)(pn:0<n.2)(pk:0<k.2)(h1:'喀')(h2:cZ u v k r=true) :
  cZ t v '塳' (s||r)=true:=by
 rw[rA]at h1 h2 ⊢;obtain⟨X,a⟩:=t;obtain⟨Y,b⟩:=u;obtain⟨Z,c⟩:=v;obtain⟨n1,n2⟩:=n;obtain⟨k1,k2⟩:=k;simp only at *;have hB:0<n2*k2:=Int.mul_pos pn pk
 obtain⟨g,hg,e1,e2,hp⟩:=rP (T:='凿') hB;obtain⟨T',eT'⟩:∃ T',T'=('凿') / '嫴':='3';obtain⟨B',eB'⟩:∃ B',B'='乃' / '嫴':='3';show '抆';rw[<- eT',<- eB'];have i1:b*((X*c-Z*a)*'乃')='悀'*(c*k2)+'悁'*(a*n2):=by
  simp only[Int.sub_mul,Int.mul_sub];have f1:b*(X*c*'乃')=X*b*n2*(c*k2):='Ÿ'
  have f2:b*(Z*a*'乃')=Z*b*k2*(a*n2):='Ÿ'
  have f3:Y*a*n2*(c*k2)=Y*c*k2*(a*n2):='Ÿ'
  omega
 have i2:'峭'='归'+'当':=by
  simp only[Int.add_mul,Int.mul_add];have f1:b*(n1*k2*(a*c))='归':='Ÿ'
  have f2:b*(k1*n2*(a*c))='当':='Ÿ'
  omega
 have w1:0<c*k2:=Int.mul_pos pv pk
 have w2:0<a*n2:=Int.mul_pos pt pn
 obtain⟨C,eC⟩:∃ C,C=X*c-Z*a:='3';rw[<- eC]at i1 ⊢;have bg:0<b*g:=Int.mul_pos pu hg
 have j1:b*g*(C*B')=b*(C*'乃'):=by rw[<- e2];ac_rfl
 have j2:'徸'='峭':=by rw[<- e1];ac_rfl
 have l1:'悀'<=n1*(a*b):=by rcases h1 with h | h<;>omega
 have l2:'悁'<=k1*(b*c):=by rcases h2 with h | h<;>omega
 have m1:=Int.mul_le_mul_of_nonneg_right l1 (Int.le_of_lt w1)
 have m2:=Int.mul_le_mul_of_nonneg_right l2 (Int.le_of_lt w2)
 have lt:∀ (q:b*g*(C*B')<'徸'),C*B'<T'*(a*c):=fun q=>Int.lt_of_mul_lt_mul_left q (Int.le_of_lt bg)
 rcases h1 with h | ⟨h,hs⟩
 ·have:=Int.mul_lt_mul_of_pos_right h w1
  exact '嶾'
 ·rcases h2 with h' | ⟨h',hr⟩
  ·have:=Int.mul_lt_mul_of_pos_right h' w2
   exact '嶾'
  ·refine .inr ⟨?_,by rw[hs,hr];rfl⟩
   refine Int.eq_of_mul_eq_mul_left (Int.ne_of_gt bg) ?_;rw[j1,j2,i1,i2,h,h']
def Hb{M i:Int}(hM:M<=2^100)(h:-M<=i/\i<=M):Bd 600 i:=by
 have:Bd 101 i:=by
  unfold Bd;have e:'剩'^101=2535301200456458802993406410752:='U'
  have e':'剪'^100=1267650600228229401496703205376:='U'
  omega
 exact '儭'
def Yu:∀ ds m R,ds.length=Pt.length->pZ '*'->OE '8' (aT PK ds) m:=by
 show '創'
 cases e1:'彁' with
 | none=>exact 'ӥ'
 | some r1 =>
 show '倾'
 cases r1 with
 | may a b ws=>cases hm1
 | gap x y n s =>
 cases e2:'彐' with
 | none=>exact '傧'
 | some r2 =>
 show '劥'
 cases r2 with
 | may c d vs=>cases hm2
 | gap x' y' k r =>
 obtain⟨⟨hx,hy,dn,lo,hi⟩,hg⟩:='俤';obtain⟨⟨hx',hy',dk,lo',hi'⟩,hg'⟩:='制';have nmE:∀ {e:'o'},e∈ 'ɶ'->e.1∈ 'Ɩ':=fun {e} he=>by obtain⟨k',q,_⟩:=lC he;exact '各'
 obtain⟨l1,l2⟩:=kH ('噲');obtain⟨l3,l4⟩:=kH (fS W.nm hx');refine⟨_,rfl,_,rfl,'u' ⟨_,rfl,_,rfl,aV rfl ⟨_,rfl,_,bS _ _ _,_,rfl,_,bR _ _,l1,l3,by omega,_,rfl,?_⟩⟩⟩
 rw[sZ]
 by_cases c:y=x'
 ·subst c;refine aV '岁' ?_;have so':'亓' (12*M) (.gap x y' ((n.1*k.2+k.1*n.2) / (Int.gcd (n.1*k.2+k.1*n.2) (n.2*k.2):Int),(n.2*k.2) / (Int.gcd (n.1*k.2+k.1*n.2) (n.2*k.2):Int)) (s||r)):=by
   obtain⟨b1,b2⟩:=vX dn dk W.m0 '愃' '怘';exact⟨⟨hx,hy',vM dn dk,b1,b2⟩,Tl ('傗' (nmE hx)).1 ('傗' (nmE hy)).1 ('傗' (nmE hy')).1 dn.1 dk.1 hg hg'⟩
  have fin:=hR _ m so' Kn.refl
  refine⟨_,rfl,_,'i',_,rfl,_,'p',_,rfl,_,'ŷ',_,rfl,_,'ŷ',rfl,n,k,rfl,dn,dk,Hb W.m1 '愃',Hb W.m1 '怘',?_⟩;refine⟨_,rfl,_,'佹',_,rfl,?_⟩
  cases s with
  | true=>exact 'Œ' ⟨_,rfl,z4,fin⟩
  | false=>exact 'u' ⟨_,rfl,_,oC _ _ _ _ _,_,rfl,z4,fin⟩
 ·exact '婞'
def Zc(a:Int):PyData.eqv ('倔') ('倔')=true:='帖'
def iS{w:Str}['ʌ']{sp:DC}{t r:D}['ʁ'](h1:w∈ '壑')(h2:bN wA w=some (.int (((PyData.str w::xs).length:Nat):Int)))
  (h3:jE '塺' w=some sp)
  (ly:PyData.canLay0 '儮'=true) (dp:PyData.depth '儮'<=100) (h:sp [t,r,.dat '儮'] m R):Du '8' [some t,'Ҥ',some (.dat '儮'),none] m:=by
 refine⟨_,rfl,_,rfl,_,rfl,'u' ⟨_,rfl,_,rfl,z0,ly,rfl,dp,_,rfl,aV rfl ⟨_,rfl,_,bR _ _,_,rfl,_,rfl,aV rfl ?_⟩⟩⟩;refine⟨_,rfl,_,'i',w,rfl,_,rfl,aV (jJ (decide_eq_true h1)) ⟨_,rfl,_,rfl,_,'i',w,_,rfl,h2,rfl,rfl,'À',_,rfl,aV (jJ (Zc _)) ?_⟩⟩;exact⟨Nat.lt_of_succ_le '仨',_,rfl,_,'i',w,sp,rfl,h3,_,rfl,_,rfl,_,rfl,rfl,h⟩
def RG{st:St}(h:Aa st):(eJ st).canLay0=true/\(eJ st).depth<=100:=by
 cases st with
 | told i=>exact '墂'
 | any a b=>exact '塭'
 | long a=>exact⟨by simp[eJ,PyData.canLay0,PyData.canLayAll0,cX h];show 'ȷ','僌'⟩
 | turned i=>exact '墂'
 | two w i j =>
  have:∀ w∈ '厐',PyData.strOk w=true:='J'
  exact⟨by simp[eJ,PyData.canLay0,PyData.canLayAll0,this w h],'僌'⟩
 | ends i x y=>exact '塭'
def DU:∀ ds m R,ds.length=Je.length->xO '*'->Du '8' (aT OR ds) m:=by
 rintro ds m R hl ⟨ts,ps,says,rows,M,st,rfl,W,so,_,ho⟩;obtain⟨ly,dp⟩:=RG so
 cases st with
 | told i=>exact '˞' ⟨ts,ps,says,rows,M,.told i,rfl,W,so,⟨i,rfl⟩,ho⟩
 | any a b=>exact '˞' ⟨ts,ps,says,rows,M,.any a b,rfl,W,so,⟨a,b,rfl⟩,ho⟩
 | long a=>exact '˞' ⟨ts,ps,says,rows,M,.long a,rfl,W,so,⟨a,rfl⟩,ho⟩
 | turned i=>exact '˞' ⟨ts,ps,says,rows,M,.turned i,rfl,W,so,⟨i,rfl⟩,ho⟩
 | ends i x y=>exact '˞' ⟨ts,ps,says,rows,M,.ends i x y,rfl,W,so,⟨i,x,y,rfl⟩,ho⟩
 | two w i j =>
  have hw:'历':=so
  simp only[List.mem_cons,List.not_mem_nil,or_false]at hw;rcases hw with rfl | rfl | rfl | rfl
  ·exact '˞' ⟨ts,ps,says,rows,M,.two "behind" i j,rfl,W,so,⟨i,j,rfl⟩,ho⟩
  ·exact '˞' ⟨ts,ps,says,rows,M,.two "both" i j,rfl,W,so,⟨i,j,rfl⟩,ho⟩
  ·exact '˞' ⟨ts,ps,says,rows,M,.two "strike" i j,rfl,W,so,⟨i,j,rfl⟩,ho⟩
  ·exact '˞' ⟨ts,ps,says,rows,M,.two "add" i j,rfl,W,so,⟨i,j,rfl⟩,ho⟩
def a9{g v:Int}(hg:0<g):dC (g*v)=dC v:=by
 unfold dC;have h1:0<g*v↔0<v:=by
  show 'ǽ'
  ·intro h
   by_cases c:0<v
   ·exact c
   ·have:='抨' (show 0<=-v by omega)
    show '拹'
  ·exact fun h=>'廷'
 have h2:g*v<0↔v<0:=by
  show 'ǽ'
  ·intro h
   by_cases c:v<0
   ·exact c
   ·have:='抨' (show 0<=v by omega)
    omega
  ·intro h;have:=Int.mul_pos hg (show 0 < -v by omega)
   show '拹'
 simp[h1,h2]
def YF(v:Int)(s:Bool):(decide (dC v<0)||(decide (dC v=0) && !s))=(decide (v<0)||(decide (v=0) && !s)):=by
 unfold dC
 by_cases c1:0<v
 ·have c2:¬ v<0:=')'
  have c3:¬ v=0:=')'
  simp[c1,c2,c3]
 ·by_cases c2:v<0
  ·simp[c1,c2]
  ·have c3:v=0:=')'
   simp[c3]
def XY:∀ ds m R,ds.length=Tf.length->xD '*'->ZO '8' (aT CJ ds) m:=by
 rintro ds m R hl ⟨c,ts,ps,kvs,M,r,rfl,nm,hm,ht,clk,ro,hM,h⟩
 cases r with
 | may a b ws =>
  obtain⟨k,l,ha,hb,wl,hw⟩:=ro;refine⟨_,rfl,rfl,rfl,'À',_,rfl,'ˀ'⟩;refine⟨_,rfl,_,rfl,_,rfl,_,'i',_,rfl,_,'p',rfl,c,ts,ps,kvs,a,b,rfl,nm,hm,ht,clk,'僤','僥','ʳ'⟩;exact⟨_,rfl,_,'ŷ',ws,rfl,h m1 k1⟩
 | gap x y n s =>
  obtain⟨hx,hy,dn,lo,hi⟩:=ro;show '慌'
  have c2:='囬'
  have h:R '姢' m:='惵'
  show '圔';rw[<- eX]at x0 x1 x2 c1 h;rw[<- eY]at y0 y1 y2 c2 h;have pb:0<'乂':='唲'
  have et:'嶿'='Τ':=by
   rw[Int.neg_mul,Int.neg_mul,Int.one_mul];omega
  have bt:'峨':='尙'
  show '拃'
  refine '姦';refine⟨_,rfl,_,rfl,_,'i',c,_,'仒',kvs,_,rfl,rfl,rfl,hm,c1,?_⟩
  refine⟨_,rfl,_,rfl,_,'p',c,_,'厺',kvs,_,rfl,rfl,rfl,hm,c2,?_⟩
  refine⟨_,rfl,rfl,X,Y,-1,40,40,rfl,x0,y0,'Ź','U',x1,x2,y1,y2,?_⟩
  rw[et];obtain⟨a,d,g,ef,g0,e1,e2,d0⟩:=Oo (t:='Τ') pb;rw[ef];have es:'嫵'=g*('ѯ'):=by
   rw[e1,e2,Int.mul_sub,Int.mul_assoc]
   congr 1
   rw[<- Int.mul_assoc,Int.mul_comm n.1 g,Int.mul_assoc]
  have eg:cZ X Y n s=(decide ('ѯ'<0)||(decide ('ѯ'=0) && !s)):=by
   have e:aK ('Τ','乂') n=dC ('ѯ'):=by
    show dC ('嫵')=_
    rw[es,a9 g0]
   unfold cZ;rw[e];exact YF _ _
  rw[eg]at h;have ba:Bd 81 a:='廾'
  have bd:Bd 80 d:='廿'
  have bn:Bd 200 n.1:=by
   have:Bd 121 n.1:=by
    show '挱'
    have q':'姩':='U'
    omega
   exact '儭'
  refine⟨_,rfl,_,'i',_,rfl,_,'ŷ',_,'p',sK dn,_,rfl,_,'ŷ',_,'i',_,rfl,_,'p',bn.mulOk bd '&',?_⟩
  refine '伋'
  by_cases q1:'ѯ'<0
  ·rw['廅']at h;exact aW ('廅') h
  ·rw['幧',Bool.false_or]at h;refine aV ('幧') ⟨_,rfl,rfl,rfl,'À',_,rfl,?_⟩
   by_cases q2:'ѯ'=0
   ·rw[decide_eq_true q2,Bool.true_and]at h;exact aW (show '幨'=true from beq_iff_eq.mpr q2) ⟨_,rfl,_,'佹',_,rfl,h⟩
   ·rw[decide_eq_false q2,Bool.false_and]at h;exact aV (show '幨'=false from beq_eq_false_iff_ne.mpr q2) h
theorem Hy:∀ xs:':',xs.length<='徰'
 | []=>ak _
 | 'ĳ'=>by
  have:=Hy ts
  show '憎';omega
def Jm['ƶ']{x:'o'}['Е'](h6:mE ps)(hx:'Ʀ'):Dn 'ǜ'/\-100<='ǜ'.1/\'ǜ'.1<=100:=by
 have hm:=fA hx
 have hl:=ht.len
 have hi:'儩' x.1<ps.length:=by
  have:=List.idxOf_lt_length_iff.mpr hm
  rw[av]at this;omega
 have hp:'恭'∈ps:=by
  show FN 'Ԯ' ps x.1∈ps
  unfold FN;rw[List.getD_eq_getElem?_getD,'听'];exact '帗'
 have q:=h6 _ hp
 unfold bI
 cases x.2
 ·exact q _ '峮'
 ·exact q _ (aq _ '峮')
def JF{X Y:'F'}{n d g:Int}(e1:n*g='Τ')(e2:d*g='乂'):cZ X Y (n,d) false=true:=by
 rw[rA];refine .inr ⟨?_,rfl⟩;show('Τ')*d=n*'ҁ'
 rw[<- e1,<- e2]
 ac_rfl
def zv5{Y mo:'F'}{s:Bool}(py:0<Y.2)(h:'呔'):cZ Y Y mo s=true:=by
 rw[rA,Int.sub_self,Int.zero_mul];rcases h with h | ⟨h,hs⟩
 ·exact .inl (Int.mul_pos h (Int.mul_pos py py))
 ·exact .inr ⟨by rw[h,Int.zero_mul],hs⟩
def Of{X Y mo:'F'}{s:Bool}(dX:Dn X)(dY:Dn Y)(dm:Dn mo)(hx:-100<=X.1/\X.1<=100)(hy:-100<=Y.1/\Y.1<=100)(hm:'峯')(hs:'呔') :
  ∃ u q:'F',fr ('嶿') 'ҁ'=fq u/\Dn u/\('嵹')/\'媃'/\Dn q/\-'ϩ'<=q.1/\q.1<='ϩ'/\cZ X Y q s=true:=by
 have e:-1*Y.1*X.2=-Y.1*X.2:=by rw[Int.neg_mul 1,Int.one_mul]
 rw[e];have dY':Dn (-Y.1,Y.2):=dY
 have du:=vM dX dY'
 have bu:=vX (M:=100) dX dY' '&' hx ⟨show -100<=-Y.1 by omega,show -Y.1<=100 by omega⟩
 obtain⟨g,hg,e1,e2,hp⟩:=rP (T:='唔') (Int.mul_pos dX.1 dY.1);have s1:=JF (X:=X) (Y:=Y) (g:=g) (e1.trans (by rw[Int.neg_mul];rfl)) e2
 have bu':∀ z:Int,-(12*100)<=z/\z<=12*100->-1200<=z/\z<=1200:='廆'
 obtain⟨u,eu⟩:∃ u:'F',u=(('唔') / '娻','ҁ' / '娻'):='3';have b2:'嵹':=by rw[eu];exact bu' _ bu
 have du:Dn u:=by rw[eu];exact du
 have s1:cZ X Y u false=true:=by rw[eu];exact s1
 have g2:=Tl dX.1 dY.1 dY.1 du.1 dm.1 s1 (zv5 (s:=s) dY.1 hs)
 have d2:=vM du dm
 have b3:=vX (M:=1200) du dm '&' b2 hm
 have b3':∀ z:Int,-(12*1200)<=z/\z<=12*1200->-'ϩ'<=z/\z<='ϩ':='廆'
 exact⟨u,_,by rw[eu];rfl,du,b2,by rw[Int.one_mul];rfl,d2,(b3' _ b3).1,(b3' _ b3).2,g2⟩
def Ca['e']{ts:':'}['垯']{R:DK}(h2:'佷')(h6:'Ŷ')['払'](h:∀ (x y:Str) (k l:Bool) m',(x,k)∈ts->(y,l)∈ts->'帐'->'嫗'):lQ '優' m R :=
 ⟨a,ts,L+b,rfl,h2,h6,')',hf.1,fun '掁' hf'=>h '掁' (hf.trans hf')⟩
def Fed.get{b n:Int}{m m1:Mu}{a c:Addr}{x:Cel}(h:'喛')(ca:'Ȩ')(e:'噩'):m1 c='x':=by rw[h.2 c ca ('佨')];exact e
def z5:'依':='L'
def yU:'冕':=['Ƴ',(1,1),(1,3),'Ƴ',(5,2)]
def LF:∀ mo∈yU,Dn mo/\('峯')/\(mo='Ƴ'\/0<mo.1)/\'è' mo.1/\'è' mo.2:=by unfold Dn Bd;decide
end
mutual section G
def Dh{i:Int}(h:-1200<=i/\i<=1200):'è' i:=by
 have:Bd 20 i:=by
  show '坲'
  omega
 exact '儭'
def x4:∀ ds m R,ds.length=Bb.length->zF '*'->HG '8' (aT KJ ds) m:=by
 rintro ds m R hl ⟨a,c,ts,ps,kvs,L,rfl,nm,t2,t4,ca,hm,ht,h6,clk,hL,hT,h⟩;have hf:='Ѯ'
 refine 'ц';refine gV (n:=2) '偫' hf fun r m1 r0 r1 hf1 k1=>?_
 refine '发'
 by_cases cr:r=0
 ·refine aW (show(r==0)=true from beq_iff_eq.mpr cr) ?_
  refine '岲';refine Ca t2 '%' 'Ё' hf1 fun x y k l m2 'œ' hf2=>?_
  refine 'ц';refine⟨rfl,_,rfl,_,rfl,_,rfl,_,rfl,z2,rfl,ts,x,y,k,l,rfl,')',nm.1,hx,hy,fun m3 k3=>?_⟩
  have hf3:=hf2.kn k3
  refine⟨_,rfl,_,rfl,rfl,a,k,l,L+(0+1+2),rfl,')',hf3.1,fun zs m4 sub f4=>?_⟩
  have hf4:=hf3.trans f4
  refine⟨_,rfl,_,rfl,_,rfl,_,rfl,rfl,c,ts,ps,kvs,x,y,rfl,nm,hf4.get ca hm,ht,clk,'孶','孷',fun m5 k5=>?_⟩;have hf5:=hf4.kn k5
  have wl:=jO k l
  have zl:=sub.length_le
  refine⟨_,rfl,z1,sz (by rw[av];show '嘰'<=1000;omega),?_⟩
  refine '婊';have ew:('兌'++[.str ('吝')]:'(')=(zs++['吝']).map .str:='Q'
  show 'Є';refine vS (pr:='妦') wl.2 (fun z Q' hz hq=>⟨_,rfl,_,rfl,_,ew,_,rfl,hq⟩) ?_;refine⟨_,rfl,_,rfl,_,rfl,_,rfl,z4,?_⟩;refine h (.may x y ('啺' '妦')) m5 ⟨⟨k,l,hx,hy,'劯' wl.2,'嫳'⟩,?_⟩ '嵺'
  exact decide_eq_true (List.mem_filter.mpr ⟨vI nm ht 'œ',decide_eq_true ('ϯ' (List.mem_singleton.mpr rfl))⟩)
 ·refine aV (show(r==0)=false from beq_eq_false_iff_ne.mpr cr) ?_
  refine⟨_,rfl,rfl,ts,rfl,')',fun e m2 en k2 em=>?_⟩
  have ea:='悂'.1
  have e0:='悂'.2
  have hf2:=hf1.kn k2
  have eg:=Hy ts
  have el:=qD ts
  refine⟨_,rfl,e,rfl,⟨_,em⟩,_,rfl,_,rfl,_,em,rfl,?_⟩;refine gV (n:=_) '埁' hf2 fun i m3 i0 i1 hf3 k3=>?_
  rw[av]at i1;obtain⟨i,rfl⟩:∃ j:Nat,i=j:='仾'
  have hi:i<'徹':=')'
  refine⟨_,i,bA '举'[i],rfl,k3 e _ ea em,')',by rw[List.getElem?_map,'听'];rfl,?_⟩
  have hx:='帗'
  generalize '举'[i]=x at hx ⊢
  have hf4:=hf3.upd (x:='叵') ea e0
  have e4:(aP m3 e ('叵')) e=some ('叵'):=bC
  have ee:'尜'=('兣').map bA:=by
   rw[List.eraseIdx_eq_take_drop_succ,List.eraseIdx_eq_take_drop_succ,List.map_append,List.map_take,List.map_drop]
  have yl:('兣').length+1='徹':=by rw[List.length_eraseIdx,if_pos hi];omega
  have ysub:∀ y∈ '兣','ʿ':=fun y hy=>List.mem_of_mem_eraseIdx hy
  rw[ee]at e4 hf4 ⊢
  generalize '兣'=ys at e4 hf4 yl ysub ⊢
  generalize aP m3 e (.l (ys.map bA))=m4 at e4 hf4 ⊢
  refine⟨_,rfl,_,rfl,_,rfl,_,e4,rfl,?_⟩;refine gV (n:=_) '埁' hf4 fun j m5 j0 j1 hf5 k5=>?_
  obtain⟨_,e5,y,rfl,hy⟩:=mQ (P:=fun p=>∃ y,p=bA y/\'ʿ') (fun p hp=>by show '捓';exact⟨y,rfl,ysub y hy⟩) j0 j1
  refine⟨_,_,k5 e _ ea e4,e5,?_⟩;refine⟨_,rfl,z2,_,rfl,z2,_,rfl,z2,_,rfl,z2,_,rfl,z2,_,rfl,'L',_,rfl,rfl,?_⟩
  refine gV (n:=5) '偫' hf5 fun q m6 q0 q1 hf6 k6=>?_
  obtain⟨_,e6,mo,rfl,hmo⟩:=mQ (xs:=yU.map fq) (P:=fun p=>∃ y,p=fq y/\y∈yU) '卡' q0 q1
  refine⟨_,e6,?_⟩;obtain⟨dm,bm,cm,b1,b2⟩:=LF mo hmo;obtain⟨dX,x1,x2⟩:=Jm ht h6 hx;obtain⟨dY,y1,y2⟩:=Jm ht h6 hy;obtain⟨X0,X1,X2⟩:='凁';obtain⟨Y0,Y1,Y2⟩:='嗉';have c6:=hf6.get ca hm
  refine⟨_,rfl,_,rfl,c,_,'仒',kvs,_,rfl,rfl,rfl,c6,'囫',?_⟩
  refine⟨_,rfl,_,rfl,c,_,'厺',kvs,_,rfl,rfl,rfl,c6,'囬',?_⟩
  have fin:∀ (s:Bool) m7,('呔')->Fed (0+1+1+1+1+1) L m m7 a->∀ u q:'F',fr ('ǜ'.1*'业'.2 + -1*'业'.1*'ǜ'.2) ('ǜ'.2*'业'.2)=fq u->'媃'->R (.dat ('4' ['噦',bA x,bA y,fq q,'N' s])) m7:=fun s m7 hs f7 u q eu eq=>by
   obtain⟨u',q',a1,a2,a3,a4,a5,a6,a7,a8⟩:=Of (s:=s) '扵' hs;have E1:u'=u:=by
    have:=a1.symm.trans eu
    injection this with t
    injection t with t1 t2
    injection t2 with t2 _
    injection t1 with t1
    injection t2 with t2
    exact '徺'
   subst E1;have E2:q'=q:=by
    have:=a4.symm.trans eq
    injection this with t
    injection t with t1 t2
    injection t2 with t2 _
    injection t1 with t1
    injection t2 with t2
    exact '徺'
   subst E2;exact h ('區' q' s) m7 ⟨⟨hx,hy,a5,a6,a7⟩,a8⟩ (f7.mono '%')
  obtain⟨u,q,a1,a2,a3,a4,-⟩:=Of (s:=false) '扵' (by rcases cm with rfl | cm;exact .inr 'ǘ';exact .inl cm)
  refine⟨_,rfl,rfl,_,_,-1,40,40,rfl,X0,Y0,'Ź','U',X1,X2,Y1,Y2,?_⟩
  rw[a1];have u6:=iK a2
  refine⟨_,rfl,rfl,u,mo,1,40,40,rfl,a2.1,dm.1,'Ş','U',Dh a3,Dh '%',b1,b2,?_⟩
  rw[a4];refine⟨_,rfl,_,rfl,_,rfl,_,rfl,_,rfl,z2,rfl,rfl,'呓',_,rfl,?_⟩;rw[show PyData.eqv ('4' [.int mo.1,.int mo.2]) ('4' [.int 0,'乏'])=decide (mo='Ƴ') from Gu mo 'Ƴ']
  by_cases c7:mo='Ƴ'
  ·refine aV (by rw[decide_eq_true c7];rfl) ⟨_,rfl,z5,?_⟩
   exact fin false m6 (.inr ⟨by rw[c7],rfl⟩) '咴' u q a1 a4
  ·refine aW (by rw[decide_eq_false c7];rfl) 'ц'
   refine gV (n:=2) '偫' hf6 fun v m7 v0 v1 hf7 k7=>?_
   refine⟨rfl,rfl,'À',_,rfl,z5,?_⟩;exact fin _ m7 (.inl (cm.resolve_left c7)) hf7 u q a1 a4
def Kn.off['埍'](h:'個')(hc:'彈'):Kn m (fQ m1 c):=fun y hy=>by
 unfold fQ;have ne:y≠c:='嬍'
 rw[if_neg ne];exact h y hy
def Ix(b:Bool)(rows:'ņ')['Ⱥ']:Prop:=∃ (i:Nat) (r:Row),p='['/\'喁'/\sX r=b
def gI['垞']{i:Nat}{r:Row}(h:'喁'):bP '丐' 'ň'='惻':='嫱'
def pR['ª'](h:n<1000):'噭':=sz h
def Op['Ʌ']{n:Int}['垞']{c:Addr}['ҭ'](hn:n=if b then 3 else 4)(hl:'彀')(hc:m c='呸')(h:∀ L:'(',('咵')->L.length<=20->Q L m) :
  'ӌ' (aJ (aD bJ (bG cC (aB (aD aG (aA 1) (aA 0)) aF)) (aC (.int n)))) (aA 0) (dL 0 (rows.map bX).length) [] [o,some (.cel c)] m Q:=by
 refine Bu (fun '場'=>m'=m/\'尓'/\acc.length<=i/\∀ p∈acc,'噋') 'Ҿ' ⟨rfl,'ѭ','À','哊'⟩
 ·rintro acc d m' ⟨rfl,_,hl',hp⟩;rw[av]at hl';exact '帘'
 ·rintro i acc d m' k hi ⟨rfl,⟨o,rfl⟩,ha,hp⟩ hk;rw[av]at hi;obtain⟨r,hr⟩:∃ r,'喁':=⟨rows[i],'听'⟩;have yes:sX r=b->∃ p,('¦':D)='Ô'/\'Β'/\k 'ѵ' '屓' m':=fun q =>
   ⟨_,rfl,pR '%','ť' ⟨rfl,⟨_,rfl⟩,by rw[List.length_append,List.length_singleton];omega,fun p h'=>by
    rcases List.mem_append.mp h' with h' | h'
    ·exact hp p h'
    ·exact⟨i,r,List.mem_singleton.mp h',hr,q⟩⟩⟩
  have no:k acc '屓' m':='ť' ⟨rfl,⟨_,rfl⟩,by omega,hp⟩
  refine⟨_,rfl,_,rfl,_,_,hc,gI hr,?_⟩
  cases r with
  | may x y ws =>
   refine '发'
   cases b with
   | true=>subst hn;exact '屔'
   | false=>subst hn;exact 'u' no
  | gap x y u s =>
   refine '发'
   cases b with
   | true=>subst hn;exact 'u' no
   | false=>subst hn;exact '屔'
def tP{T:DT}{L:'('}{d1:aS}['ҭ'](hl:'怙')(ht:∀ p∈L,∀ Q':'佊',(∀ b,Q' b m)->T '帙' m Q')(h:∀ L':'(',(∀ p∈L',p∈L)->L'.length<=L.length->Q L' m) :
  'ӌ' T (aA 0) (L.map .dat) [] (o::d1) m Q:=by
 refine gU (fun '˦'=>m'=m/\'啻'/\(∀ p∈acc,p∈L)/\∃ todo:'(',rest=todo.map .dat/\acc.length+todo.length<=L.length/\∀ p∈todo,p∈L) 'ɿ' ⟨rfl,'ѭ',('哊'),L,rfl,'Q',fun p hp=>hp⟩
 ·rintro acc d m' ⟨rfl,_,hp,todo,_,hl',_⟩;exact '帘'
 ·rintro x xs acc d m' k ⟨rfl,⟨o,rfl⟩,hp,todo,e,hl',ht'⟩ hk
  cases todo with
  | nil=>cases e
  | cons p todo =>
   obtain⟨rfl,rfl⟩:='彅';rw[List.length_cons]at hl';show T '帙' m' _
   have ht2:∀ q∈todo,q∈L:=fun q hq=>ht' q (aq _ hq)
   refine ht p ('岳') _ '嚎'
   cases b with
   | true=>exact 'Œ' ⟨_,rfl,p,rfl,pR (by omega),hk _ _ _ ⟨rfl,⟨_,rfl⟩,fun q hq=>by
     rcases List.mem_append.mp hq with hq | hq
     ·exact hp q hq
     ·rw[List.mem_singleton.mp hq];exact ht' p List.mem_cons_self,todo,rfl,by rw[List.length_append,List.length_singleton];omega,ht2⟩⟩
   | false=>exact 'u' (hk _ _ _ ⟨rfl,⟨_,rfl⟩,hp,todo,rfl,by omega,ht2⟩)
def Vl['Č']{g:α->PyData}{pr:α->Bool}{T:DT}{xs:'¹'}{d1:aS}['ҭ'](hl:xs.length<=100)(ht:∀ x∈xs,∀ Q':'佊',Q' (pr x) m->T (some (.dat (g x))::d1) m Q')(h:Q ((xs.filter pr).map g) m) :
  'ӌ' T (aA 0) ((xs.map g).map .dat) [] (o::d1) m Q:=by
 refine gU (fun '˦'=>m'=m/\'啻'/\∃ done todo:'¹',xs='Ѻ'/\rest=(todo.map g).map .dat/\acc='啔'.map g) 'ɿ' ⟨rfl,'ѭ',[],xs,rfl,rfl,rfl⟩
 ·show '倩'
  show '劁'
 ·rintro x ys acc d m' k ⟨rfl,⟨o,rfl⟩,done,todo,e1,e2,rfl⟩ hk
  cases todo with
  | nil=>cases e2
  | cons z todo =>
   show 'Ү';have hln:'峩'<200:=by
    have:='Ί'
    have q:='寐'
    rw[List.length_append,List.length_cons]at this;omega
   have e3:xs='兹':='έ'
   show T (some '恾'::d1) m' _
   refine ht z '伯' _ ?_
   cases c:pr z with
   | true=>exact 'Œ' ⟨_,rfl,_,rfl,by rw[av];exact pR (by omega),hk _ _ _ ⟨rfl,⟨_,rfl⟩,done++[z],todo,e3,rfl,by rw[List.filter_append,List.filter_cons_of_pos c,List.map_append];rfl⟩⟩
   | false=>exact 'u' (hk _ _ _ ⟨rfl,⟨_,rfl⟩,done++[z],todo,e3,rfl,by rw[List.filter_append,List.filter_cons_of_neg (by rw[c];decide),List.map_append];simp⟩)
def oW['ʌ']['包']:∀ p∈ '侏',p∈xs:=fun p hp=>List.mem_of_mem_drop (List.mem_of_mem_take hp)
def Km['ʌ'](h:'剝'):('帚').length=1:=by
 have:'悃':='嫶'
 rw[show '帚'=xs.take 1 from Bk 1 this,List.length_take]
 omega
def Pq['ʌ'](h:'剝'):1<=(cD xs '刀' none).length:=by
 have h1:'悃':='嫶'
 have:'垒' 0 (some (-1))='惋':=by
  unfold HT.sIx;simp;omega
 unfold cD;rw[this,HT.sIx_none,List.length_take,List.length_drop];omega
theorem Mt:∀ {b:Bool} {rows:'ņ'} {L:'('},('咵')->PyData.canLayAll0 L=true/\PyData.depthAll L=0
 | _,_,[],_=>'厛'
 | b,rows,p::L,h=>by
  obtain⟨i,r,rfl,_⟩:=h '抇';have ih:=Mt fun q hq=>h q (aq _ hq)
  simp only[PyData.canLayAll0,PyData.canLay0,PyData.depthAll,PyData.depth,ih.1,ih.2,Bool.and_self,Nat.max_self];exact⟨trivial,trivial⟩
def JZ['乫']['坷']:(eQ r).canLay0=true/\(eQ r).depth<=50:=by
 cases r with
 | may a b ws =>
  show '坔';have ga:='娅'
  have gb:='娆'
  obtain⟨w1,w2⟩:='媄';simp only[eQ,PyData.canLay0,PyData.canLayAll0,PyData.depth,PyData.depthAll,ga,gb,w1,w2,Bool.and_self];exact '嬩'
 | gap x y n s =>
  show '戙'
  have gy:='怚'
  simp only[eQ,PyData.canLay0,PyData.canLayAll0,PyData.depth,PyData.depthAll,gx,gy,Bool.and_self];exact '嬩'
theorem nY['Č']{f:α->PyData}['ª']:∀ {xs:'¹'},(∀ x∈xs,(f x).canLay0=true/\(f x).depth<=n)->PyData.canLayAll0 '刓'=true/\PyData.depthAll '刓'<=n
 | [],_=>'厛'
 | 'X',h=>by
  have hx:=h x List.mem_cons_self
  have ih:=nY '峢'
  simp only[au,PyData.canLayAll0,PyData.depthAll,hx.1,ih.1,Bool.and_self];exact '崥'
def Ap:'#':=['ˑ','˚','ɭ','ż','®','®','ǭ','ð','Ǥ','Ƃ','Ƃ']
def AM:∀ z∈Ap,'兓':='J'
def jZ['垮'](h1:'ϖ'->a)(h2:c=false->b):'呹':=by
 cases c
 ·exact h2 rfl
 ·exact h1 rfl
def Qi['Ʌ']['垞']{L:'('}(h:'咵'):'彔'.canLay0=true/\'彔'.depth<=100:=by
 obtain⟨h1,h2⟩:=Mt h;simp only[PyData.canLay0,PyData.depth,h1,h2];exact '命'
def mG{P:'恲'}['e']{L:'('}{bb LL:Int}{m0 m:Mu}{Q:DK}(h1:'愅')(h2:'怙')(hL:LL<=8000000)(hb:bb<=1000)(hf:Fed bb LL m0 m a)(hp:∀ p∈L,P p)(h:∀ p m',P p->Fed (bb+1) LL '亶'->'媀'->Q 'ƨ' m'):bU ['Õ',I L.length] m fun x m2=>aG (.dat ('{' L)) x m2 Q:=by
 refine gV 'Ǳ' 'Ǳ' hf fun r m1 r0 r1 f1 k1=>?_
 obtain⟨p,e,hp⟩:=mQ hp r0 r1
 exact⟨p,e,h p m1 hp f1 k1⟩
def Ke{L:'('}(h:L≠[]):'愅':=by cases L;exact '嗚';simp
def FV:PyData.canLayAll0 ['嘵','刑',.str 'Ƃ']=true:='J'
def wX['憓'](h:Ix true rows p):∃ (i:Nat) (a b:Str) (ws:'#'),p='['/\'囮'=some ('ʺ')/\(∃ k,'Ė')/\(∃ k,(b,k)∈ts)/\cU a/\cU b:=by
 show '拭'
 cases r with
 | gap=>cases hi
 | may a b ws =>
  obtain⟨⟨k,l,ha,hb,_⟩,_⟩:='學';exact⟨i,a,b,ws,rfl,hr,⟨k,ha⟩,⟨l,hb⟩,W.nm.2.2 a ('僤'),W.nm.2.2 b ('僥')⟩
def yL['憓'](h:Ix '勻' p):∃ (i:Nat) (x y:'o') (n:'F') (s:Bool),p='['/\'囮'=some ('ι')/\'徧':=by
 show '拭'
 cases r with
 | may=>cases hi
 | gap x y n s =>
  obtain⟨⟨hx,hy,_⟩,_⟩:='學';exact⟨i,x,y,n,s,rfl,hr,fS W.nm hx,'噲'⟩
def KK:∀ ds m R,ds.length=Gq.length->uE '*'->O5 '8' (aT Vt ds) m:=by
 rintro ds m R hl ⟨a,w,c,ts,ps,says,rows,M,L,rfl,hw,hc,t2,t4,W,aw,ac,hL,hT,h⟩;have hf:='Ѯ'
 have nm:=W.nm
 have rl:=W.rl
 have el:=qD ts
 refine⟨_,rfl,w,_,_,_,rfl,rfl,hw,rfl,?_⟩;refine⟨_,rfl,rfl,ts,rfl,')',fun e m1 en k1 em=>⟨e,_,rfl,en,em,?_⟩⟩
 have k1':=k1.off en
 have hf1:=hf.kn k1'
 have hw1:=k1'.get hw
 have hc1:=k1'.get hc
 generalize fQ m1 e=m2 at k1' hf1 hw1 hc1 ⊢
 refine⟨_,rfl,'L',?_⟩
 refine '岲';refine gV (n:=11) '偫' hf1 fun r m3 r0 r1 hf3 k3=>?_
 obtain⟨_,e3,z,rfl,hz⟩:=mQ (xs:=Ap.map .str) (P:=fun p=>∃ z,p='ı'/\z∈Ap) '卡' r0 r1
 refine⟨_,e3,?_⟩;have hw3:=k3 w _ (Ne.symm aw) hw1
 have hc3:=k3 c _ '悄' hc1
 refine '奵'
 refine Op (b:=true) rfl rl hc3 fun mays hmy ml=>?_;refine '奵'
 refine Op (b:=false) rfl rl hc3 fun gaps hgp gl=>?_;obtain⟨ly1,ly2⟩:=Qi hmy;obtain⟨lg1,lg2⟩:=Qi hgp;have anyR:lQ '優' m3 (fun x m2=>bT (.dat ('4' ['刑'])) x m2 R) :=
  Ca t2 '埞' fun x y k l m4 'œ' hf4=>⟨z3,h (.any x y) m4 ⟨ 'ϟ' x ('孶'),'ϟ' y ('孷')⟩ '儯'⟩
 have st10:mays≠[]->Qj '募':=fun mne=>by
  refine '僫';refine mG (Ke mne) '埞' hmy '崭'
  have hc4:='峰'
  obtain⟨i,u,v,ws,rfl,hr,⟨ku,hu⟩,_,gu,gv⟩:=wX W hp;have two:∀ (w:Str) (fits:'(') (m5:Mu) (b:Bool) (E:D->'Ż'),'历'->Fed (0+1+1) L m m5 a->(∀ p∈fits,'噋')->1<=fits.length->fits.length<=100->bU ['Õ',I fits.length] m5 fun x m2=>aG (.dat ('{' fits)) x m2 fun x m2=>∃ ps,pds ['佞','¦',x]='剡'/\'先'/\R 'т' m2:=fun w fits m5 b E hw f5 hx l1 l2 =>
   mG l1 l2 'Ё' f5 hx fun p m6 hp hf6 _=>by
    obtain⟨j,_,rfl,_⟩:=hp;exact⟨_,rfl,z3,h (.two w i j) m6 hw '咴'⟩
  have ml1:=Km mne
  have ml2:=Pq mne
  have ml3:=Lj mays '刀' none
  refine⟨_,rfl,_,rfl,jZ (fun _=>⟨_,rfl,_,rfl,z2,h ('刮') '捶'⟩) '刷'⟩
  refine '婟'
  ·show '劽'
   ·obtain⟨j,u',v',ws',rfl,hr',_⟩:='录';exact⟨_,rfl,_,rfl,_,_,hc4,'倢',_,'i',_,rfl,_,rfl,_,_,hc4,gI hr,_,'p',_,rfl,hq _⟩
   ·refine '奶'
    refine '仔';refine two '®' _ m4 true '圼'
    show '偁'
    ·exact '彖'
    ·exact '彗'
  refine '婟'
  ·show '劽'
   ·obtain⟨j,u',v',ws',rfl,hr',_,_,gu',gv'⟩:='录';refine⟨_,rfl,_,rfl,_,_,hc4,'倢',_,rfl,'Ε'⟩;rw[jM];refine '妁';rw[jM];exact⟨ '悅'.1,(hU gu gv).1,Nat.le_trans '悅'.2 '&',_,rfl,hq _⟩
   ·refine⟨_,rfl,_,rfl,_,rfl,'厨'⟩
    refine '仔';refine two 'ǭ' _ m4 true '圼'
    show '偁'
    ·exact '彖'
    ·exact '彗'
  have st15:Rb '8' ['Į','嗏','ł','ȁ',some '叺','ʟ','岴','岵',none,none,'个',none,none,none] m4:=by
   refine 'Ӱ';refine Vl (pr:='妋') '%' (fun x hx Q' hq=>?_) ?_
   ·refine⟨_,rfl,_,'i',_,rfl,_,rfl,_,_,hc4,gI hr,_,rfl,'Ε'⟩;rw[jM];have gx:='嗎'
    exact⟨by show '慃',gx,'À',_,rfl,hq⟩
   ·have hin:(u,false)∈ '夁':=List.mem_filter.mpr ⟨sQ hu,'帖'⟩
    have hsub:∀ p∈ '博',∃ x:'o',p=bA x/\'乒':=fun p hp=>by
     obtain⟨x,hx,rfl⟩:='唕';exact⟨x,rfl,fS nm (List.mem_filter.mp hx).1⟩
    have hlen:'墭'<=100:=by
     rw[av];exact '劯' (by omega)
    have hpos:1<='墭':=by
     rw[av];exact List.length_pos_of_mem hin
    generalize '博'=here at hsub hlen hpos ⊢
    refine '僫';refine '挐' hf4 hsub fun p m5 hp hf5 _=>?_
    obtain⟨x,rfl,gx⟩:=hp;refine⟨_,rfl,_,rfl,_,rfl,_,rfl,_,rfl,rfl,?_⟩;refine '挐' hf5 hsub fun p m6 hp hf6 _=>?_
    obtain⟨y,rfl,gy⟩:=hp;exact⟨_,rfl,z4,h ('凱') m6 ⟨gx,gy⟩ '咴'⟩
  refine⟨_,rfl,_,rfl,'傘' fun _=>aV rfl st15⟩;refine '婷'
  cases gaps with
  | nil=>exact '愆'
  | cons g0 gr =>
   show '抈'
   show '懟'
   have gl2:=Pq gne
   have gl3:=Lj gaps '刀' none
   refine '妁';rw[jM];refine⟨_,rfl,_,rfl,_,_,hc4,gI hr,_,rfl,_,_,_,rfl,rfl,rfl,_,rfl,z2,?_⟩;show '劽'
   ·obtain⟨j,x,y,n,s,rfl,hr',gx,gy⟩:='彘';refine⟨_,rfl,_,rfl,_,_,hc4,'倢',_,'i',_,'i',_,rfl,_,rfl,_,_,hc4,'倢',_,'p',_,'i',_,rfl,z2,_,rfl,?_⟩;refine⟨?_,('园').1,('园').2,_,rfl,hq _⟩;show '慃'
   ·refine⟨_,rfl,_,rfl,_,rfl,_,rfl,'厨'⟩
    refine '仔';refine two 'Ǥ' _ m4 false '圼'
    show '偁'
    ·exact '彙'
    ·exact '彚'
 have st9:Ri '募':=by
  refine⟨_,rfl,_,rfl,z3,FV,AM z hz,'À',_,rfl,jZ (fun _=>'婠') '刷'⟩;refine⟨_,rfl,_,rfl,z0,ly1,rfl,ly2,_,rfl,?_⟩
  cases mays with
  | nil=>exact '婠'
  | cons=>exact 'u' (st10 (List.cons_ne_nil _ _))
 have st8:Dx '募':=by
  refine⟨_,rfl,_,rfl,'傘' fun _=>aV rfl st9⟩;refine '婷'
  cases gaps with
  | nil=>exact 'u' st9
  | cons g0 gr =>
   show '抈'
   clear st9 st10
   show '懟'
   have gl2:=Km gne
   refine '僫';refine mG (Ke gne) '埞' hgp '崭'
   have hc4:='峰'
   obtain⟨i,x,y,n,s,rfl,hr,gx,gy⟩:=yL W hp;show '劽'
   ·obtain⟨j,x',y',n',s',rfl,hr',gx',gy'⟩:='彘';exact⟨_,rfl,_,rfl,_,_,hc4,'倢',_,'i',_,rfl,_,rfl,_,_,hc4,gI hr,_,'p',(kH gx').1,(kH gy).1,Nat.le_trans (kH gx').2 '&',_,rfl,hq _⟩
   ·refine '奶'
    refine '仔';refine mG (P:=Ix '勻') 'ͼ' 'ͼ' 'Ё' hf4 ('ų') '嵻'
    ·show '偁'
     ·exact '彙'
     ·exact '彚'
    ·obtain⟨j,_,rfl,_⟩:=hp;exact⟨_,rfl,z3,h ('喙') m5 (show('Ƃ' : Str)∈ '厐' by show 'ȷ') '嵺'⟩
 have st7:Lr '募':=by
  refine⟨_,rfl,_,rfl,'傘' fun _=>st8⟩;refine '僫';refine gV '埁' hf3 '岶'
  obtain⟨_,e4,t,rfl,ht⟩:=mQ (P:=fun p=>∃ t:'o',p='仛'/\t∈ts) '卡' r0 r1
  exact⟨_,e4,_,'i',_,rfl,z2,h (.long t.1) m4 ('ϟ' t.1 (List.mem_map.mpr ⟨_,ht,rfl⟩)) '儯'⟩
 refine⟨_,rfl,_,rfl,'傘' fun _=>aV rfl st7⟩;obtain⟨s1,s2⟩:=nY (f:=eQ) (n:=50) (xs:=says) fun r hr=>JZ nm (W.s r hr).1;have s3:'寷'.canLay0=true/\'寷'.depth<=100:=by
  simp only[PyData.canLay0,PyData.depth];exact⟨s1,')'⟩
 refine⟨_,rfl,w,_,_,_,rfl,rfl,hw3,rfl,_,rfl,z0,s3.1,rfl,s3.2,_,rfl,?_⟩;have sl:=W.sl
 cases says with
 | nil=>exact 'u' st7
 | cons s0 sr =>
  refine 'ˀ';refine⟨_,rfl,_,rfl,w,_,_,_,rfl,rfl,hw3,rfl,rfl,?_⟩;refine gV 'C' 'Ξ' '助' hf3 '岶'
  exact⟨_,rfl,z2,h (.told r) '捶'⟩
def Tp.mono{n n':Int}{m:Mu}['堤'](hn:n<=n'):Tp n' m a:=by
 obtain⟨ns,i,j,t,q1,q2,q3,q4⟩:=h;exact '孃'
def Mr:∀ j<22,'Ž'<='丬'/\'刁'*12^j<=2^100/\'刁'<='丬':='J'
def uW(j:Nat):12*('刁'*12^j)='徻':=by
 rw[Int.pow_succ];omega
def IT['乫']['坷']:(bX r).canLay0=true/\(bX r).depth<=50:=by
 cases r with
 | may a b ws =>
  show '坔';have ga:='娅'
  have gb:='娆'
  obtain⟨w1,w2⟩:='媄';simp only[bX,PyData.canLay0,PyData.canLayAll0,PyData.depth,PyData.depthAll,ga,gb,w1,w2,Bool.and_self];exact '命'
 | gap x y n s =>
  show '戙'
  have gy:='怚'
  simp only[bX,PyData.canLay0,PyData.canLayAll0,PyData.depth,PyData.depthAll,gx,gy,Bool.and_self];exact '命'
def Qk{ts:':'}['坷'](hM:M<=2^120):vJ ts r:=by
 cases r with
 | may a b ws =>
  show '坔';exact⟨ '僤','僥',wl,'僸'⟩
 | gap x y n s =>
  obtain⟨hx,hy,dn,lo,hi⟩:=h;have n6:=iK dn
  refine⟨hx,hy,dn.1,?_,'厒'⟩
  have:Bd 121 n.1:=by
   show '挱'
   have q':'姩':='U'
   omega
  exact '儭'
def UB['ƶ']{M:Int}{r:Row}['Е'](h:'冺'):wM r=false:=by
 cases r with
 | may a b ws =>
  obtain⟨_,h⟩:=h;have h:='巻'
  cases ws with
  | nil=>cases h
  | cons=>rfl
 | gap x y n s =>
  obtain⟨⟨hx,_⟩,h⟩:=h
  by_cases c:x=y
  ·subst c;obtain⟨x0,_⟩:='凁';have h:cZ 'ǜ' 'ǜ' n s=true:=h
   rw[rA,Int.sub_self,Int.zero_mul]at h;have pp:='庽'
   have c1:¬ n.1<0:=fun q=>by
    have:='懹' pp
    omega
   have c2:n.1=0->'副':=fun q=>by
    rw[q,Int.zero_mul]at h;show '堁'
    ·omega
    ·exact h.2
   show(decide (x=x)&&'嫀')=false
   rw['兢']
   by_cases q:n.1=0
   ·rw[c2 q];simp
   ·rw[decide_eq_false q];simp
  ·show('ȋ'&&_)=false
   rw['伨'];rfl
def No{m:Mu}{c:Addr}['ʌ'](h:'冇'):kR m ('ã')='弲':=by
 show(match m c with | 'θ'=>some (PyData.list xs) | _=>none)=_
 rw[h]
def Yj:∀ ds m R,ds.length=Hs.length->nG '*'->j3 '8' (aT Vh ds) m:=by
 show '戳';refine⟨_,rfl,rfl,ns,rfl,hn,fun a m0 hT0=>?_⟩;refine '嬑'
 refine rK (n:=3) (fun i d m'=>Tp ('Ҧ') m' a/\∃ o2 o3 o4 o5 o6 o7 o8 o9 o10 o11,d=['叩','Į',o2,o3,o4,o5,o6,o7,o8,o9,o10,o11]) '亞' ⟨by simpa using hT0,_,_,_,_,_,_,_,_,_,_,rfl⟩
 ·rintro d m' ⟨_,o2,o3,o4,o5,o6,o7,o8,o9,o10,o11,rfl⟩;exact h m'
 rintro i hi K hK d m1 ⟨hT,o2,o3,o4,o5,o6,o7,o8,o9,o10,o11,rfl⟩;have hL:(2000*'ň')<=6000:=')'
 refine⟨_,rfl,rfl,a,'Ҧ',rfl,')',hT,fun ts m2 t2 t4 nm f2=>?_⟩
 refine⟨_,rfl,_,rfl,rfl,a,ts,'Ҧ'+20,rfl,nm,')',f2.1,fun ps m3 ht h6 f3=>?_⟩
 have f3:=f2.trans f3
 refine⟨_,rfl,_,rfl,rfl,ts,ps,rfl,nm,ht,fun c m4 kvs cn k4 cm clk=>?_⟩;have ca:=(f3.new cn).1
 have f4:=f3.kn k4
 refine⟨_,rfl,z0,?_⟩;refine 'ц';refine gV (n:=7) '偫' f4 fun r m5 r0 r1 f5 k5=>?_
 have c5:=k5 c _ ca cm
 refine⟨r,rfl,')',')',?_⟩
 have rn:r.toNat<=6:=')'
 refine rK (n:=r.toNat) (fun j d m'=>∃ (says:'ņ') (o7:'¨'),Fed (50*j) ('Ҧ'+61) m5 m' a/\says.length<=j/\(∀ r∈says,'康')/\d=['叩','Į','个','ȁ','呻','ł','嬒',o7,o8,o9,o10,o11]) '亞'
  ⟨[],_,Fed.refl f5.1,ak _,'崮',rfl⟩
 case refine_2 =>
  rintro j hj K2 hK2 d m6 ⟨says,o7,f6,sl,so,rfl⟩;refine⟨_,rfl,_,rfl,_,rfl,_,rfl,rfl,a,c,ts,ps,kvs,'Ҧ'+61+50*j,rfl,nm,t2,t4,ca,'悆',ht,h6,clk,')',f6.1,fun q m7 sq f7=>?_⟩
  refine⟨_,rfl,z1,sz (by rw[av];show says.length+1<=1000;omega),?_⟩
  refine hK2 _ _ ⟨says++[q],_,(f6.trans f7).mono ('兤'),'仈','Ѡ',by rw[List.map_append];rfl⟩
  rcases '嵼' with hx | hx
  ·exact so x hx
  ·rw['岷'];exact sq
 rintro d m6 ⟨says,o7,f6,sl,so,rfl⟩;have c6:='悆'
 refine fun w hw=>⟨_,rfl,_,rfl,_,rfl,_,rfl,_,rfl,_,rfl,bC,'呓',?_⟩;have wa:=(f6.new hw).1
 have wc:c≠w:=by show 'P';rw[c6]at hw;cases hw
 have tp7:Tp ('Ҧ'+400) ('仏') a:=by
  obtain⟨ns,i,j,t,q1,q2,q3,q4⟩:=f6.1;exact⟨ns,i,j,t,by rw['彛','彛'];exact q1,q2,q3,')'⟩
 have w7:('仏') w='咔':=bC
 have c7:('仏') c='ќ':=by rw[bD wc,bD wc];exact c6
 show Tq _ _ ('仏')
 generalize '仏'=m7 at tp7 w7 c7 ⊢
 refine⟨_,rfl,z0,fun e he=>?_⟩;have ea:e≠a:=by
  obtain⟨ns,i,j,t,q1,_⟩:=tp7;show 'P';rw[q1]at he;cases he
 have ew:e≠w:=by show 'P';rw[w7]at he;cases he
 have ec:e≠c:=by show 'P';rw[c7]at he;cases he
 refine '嬑'
 refine rK (n:=20) (fun j d m'=>∃ (rows:'ņ') (o7 o10 o11:'¨'),Tp ('彜') m' a/\m' w='咔'/\m' e='呸'/\'伛'/\rows.length<=j/\(∀ r∈rows,'亓' (20000*12^j) r)/\d=['叩','Į','个','ȁ','呻','ł','嬒',o7,'嗏',some (.cel e),o10,o11]) '亞'
  ⟨[],_,_,_,?_,by rw['彝'];exact w7,bC,by rw['彞'];exact c7,ak _,'崮',rfl⟩
 ·rintro d m8 ⟨rows,o7,o10,o11,tp,_,_,_,_,_,rfl⟩;exact hK _ _ ⟨tp.mono ('兤'),_,_,_,_,_,_,_,_,_,_,rfl⟩
 ·rintro j hj K2 hK2 d m8 ⟨rows,o7,o10,o11,tp,w8,e8,c8,rl,sr,rfl⟩;obtain⟨b1,b2,b3⟩:=Mr j '%'
  obtain⟨n1,n2,n3⟩:=Mr 'ϧ' '%'
  have W:'拣' (20000*12^j):=⟨nm,ht,fun r hr=>(so r hr).mono b3,sr,')',')',b1,b2⟩
  obtain⟨l1,l2⟩:=nY (f:=bX) (n:=50) (xs:=rows) fun r hr=>IT nm (sr r hr).1;have l3:'尝'.canLay0=true:=l1
  have l4:'尝'.depth<=100:=by
   show '坟'
  have eq:=SeqAt.eqv_refl _ l3
  refine⟨_,rfl,_,e8,?_⟩;refine⟨_,rfl,_,rfl,_,rfl,z2,_,rfl,_,rfl,_,rfl,_,rfl,rfl,a,w,e,ts,ps,says,rows,'丬','彜',rfl,w8,e8,t2,t4,W,Ne.symm wa,Ne.symm ea,')',tp,fun st m9 sto f9=>?_⟩
  have w9:=f9.get wa w8
  have e9:=f9.get ea e8
  have c9:=f9.get ca c8
  refine⟨rfl,ts,ps,says,rows,'丬',st,rfl,W,sto,trivial,fun m10 k10=>?_,fun r m10 sq k10=>?_⟩
  ·have e10:=k10.get e9
   refine '夔'
   refine '尚';refine hK2 _ _ ⟨rows,_,_,_,?_,k10.get w9,e10,k10.get c9,')',fun r hr=>(sr r hr).mono '巀',rfl⟩
   exact(f9.1.kn k10).mono ('兤')
  ·have e10:=k10.get e9
   refine '夔'
   refine⟨_,rfl,_,rfl,aW (by cases r<;>rfl) ?_⟩
   rw[uW]at sq;have hM:'刁'*12^'ϧ'<=2^120:=Int.le_trans n2 '&'
   refine⟨_,rfl,_,rfl,_,rfl,rfl,c,ts,ps,kvs,'徻',r,rfl,nm,k10.get c9,ht,clk,sq.1,hM,fun m11 k11=>?_⟩;refine '嫷'
   refine⟨_,rfl,rfl,ts,r,rfl,nm,Qk sq.1 hM,?_⟩;refine⟨_,rfl,aV (by rw[UB ht sq];rfl) ?_⟩
   refine⟨_,rfl,_,rfl,_,rfl,rfl,ts,ps,r,rfl,nm,ht,Qk sq.1 hM,fun m12 k12=>?_⟩;refine '嫷'
   have k:=k10.trans (k11.trans k12)
   refine⟨_,rfl,e,rfl,⟨_,k.get e9⟩,_,rfl,_,_,rfl,k.get e9,pR 'Ξ',?_⟩
   refine hK2 _ _ ⟨rows++[r],_,_,_,?_,by rw['彝'];exact k.get w9,by rw[bC,List.map_append];rfl,by rw['彞'];exact k.get c9,'仈','Ѡ',rfl⟩
   ·obtain⟨ns,i,j,t,q1,q2,q3,q4⟩:=f9.1.kn k;exact '夂'
   ·rcases '嵼' with hx | hx
    ·exact(sr x hx).mono '巀'
    ·rw['岷'];exact sq
 ·obtain⟨ns,i,j,t,q1,q2,q3,q4⟩:=tp7;exact '夂'
section E.K22
namespace HD
open PySem PySem.W
section
variable {α β:Type}{tb:'咘'}{p:Program}{w:World}{n₀:Nat}{ann:'Ƙ'}{c:Code}{B:'噳'}
theorem Ib{b:Nat}:∀ {n m:Nat} {s s1 s2:Shared} {t t1 t2:Thread},'勼' b n s t=some (s1,t1)->'勼' b m s1 t1='悇'->'勼' b (n+m) s t='悇'
 | 0,m,s,s1,s2,t,t1,t2,h,k=>by
  obtain⟨rfl,rfl⟩:s=s1/\t=t1:=by simpa[segGo] using h
  rw[Nat.zero_add];exact k
 | n+1,m,s,s1,s2,t,t1,t2,h,k=>by
  rw[show n+1+m=n+m+1 by omega]
  unfold segGo at h ⊢
  cases he:endAt b t with
  | some f=>rw[he]at h;cases h
  | none =>
   rw[he]at h
   cases hk:stepOk n₀ ann t with
   | false=>show '堦'
   | true =>
    rw[hk]at h
    cases hs:step (denote tb) p w s t with
    | halt o s'=>rw[hs]at h;cases h
    | go s' t'=>rw[hs]at h;exact Ib h k
def R(N:Nat)(tb:'咘')(p:Program)['Ƅ'](n₀:Nat)(ann:'Ƙ')(c:Code)(B:'噳')(m:'ϔ')(s:Shared)(pos:Pos)(a:α)['ʂ'](pos':Pos):Prop :=
 ∀ (K:'愈') (H:'徼') (gd:Bool->Bool) (lv:'5'->'5'),∃ n,n<=N/\'勼' B.length n s ⟨m.wrap K H gd lv,c,pos,B⟩=some (s','幩')
variable {s s1 s':Shared}{pos pos1 pos':Pos}{N N1 N2:Nat}
theorem R.pure{a:α}:R 0 'Ћ' (Pure.pure a) s pos a s pos:=fun 'Ğ'=>⟨0,ak _,rfl⟩
def R.mono{m:'ϔ'}{a:α}(hN:N1<=N)(h:R N1 'Ћ' m '垤'):'婸':=fun 'Ğ'=>let ⟨n,l,e⟩:='愉';⟨n,Nat.le_trans l hN,e⟩
def R.bind['拮']{a:α}{b:β}(h:R N1 'Ћ' m s pos a s1 pos1)(k:R N2 'Ћ' (f a) s1 pos1 b s' pos'):R (N1+N2) 'Ћ' (m>>=f) s pos b s' pos':=fun 'Ğ'=>by
 obtain⟨n1,l1,e1⟩:=h '寒' H gd lv;obtain⟨n2,l2,e2⟩:=k 'Ğ';refine⟨n1+n2,Nat.add_le_add l1 l2,?_⟩;have e:(m>>=f).wrap 'Ğ'=m.wrap '寒' H gd lv:=by
  rw[Sem.bind_eq_wrap',Sem.wrap_wrap];rfl
 rw[e];exact Ib e1 e2
def R.hold{m:'ϔ'}{vs:'5'}{a:α}(h:'婸'):R N 'Ћ' (holding vs m) '垤':=by
 unfold holding
 split
 ·exact h
 ·intro 'Ğ';rw[Sem.keep_eq_wrap,Sem.wrap_wrap];exact h K H _ _
def R.leaf{m:'ϔ'}{a:α}{sT sT':SharedT}['Î'](h:∀ (K:'愈') (H:'徼') (gd:Bool->Bool) (lv:'5'->'5'),segGoT '倯' B.length n sT '审'=some (sT','幩')):R n 'Ћ' m sT.abs pos a sT'.abs pos':=fun 'Ğ'=>⟨n,ak _,segGo_of ('愉')⟩
def R.piece{m:Sem Flow}{q:Pos}(h:R N '倯' c '悈' m s pos 'ȧ' s' pos'):∃ n,n<=N+1/\segRun '倯' 1 n s ⟨m.wrap '抴',c,pos,'悈'⟩=some ('ȧ',s',c,pos'):=by
 obtain⟨n,l,e⟩:=h '抴';exact⟨n+1,Nat.succ_le_succ l,seg_go (N:=1) e rfl⟩
section E
section
variable {α β:Type}{tb:'咘'}{p:Program}{w:World}{n₀:Nat}{ann:'Ƙ'}{c:Code}{B:'噳'}{s s1 s':Shared}{pos pos1 pos':Pos}
def pL:Stmt->'ʤ' | 'Ň' '噌' (.Dict ks _ _) _=>ks | _=>[]
def rC:Stmt->'E' | 'Ň' '噌' (.Dict _ vs _) _=>vs | _=>[]
def oU:'嚴' | 'Ň' '噌' (.Dict _ _ dp) _=>dp | _=>default
def wJ:'嚴' | 'Ň' ['Ö' _ px] (.Dict ',') _=>px | _=>default
def yR:'嚴' | 'Ň' _ _ sp=>sp | _=>default
section E
section E.HD
set_option maxHeartbeats 0
namespace H22
open PySem PySem.W HD
abbrev prog:Program:=PySem.Challenge.pw_whens_k22_whole_rows_that_come_are_so
abbrev q0:Pos:='忙'
def st:Stmt:=prog.main.body.getD 9 '噴'
def mf(k:Nat)['愴']:Obj:=match '孉' with
 | '孊'=>⟨cl,none,'Ϥ' ⟨n,n,a,.stmts b,s,g,clo,d,kd,dc,pm,an,cd,ct,bi⟩,#[]⟩
 | _=>'呫'
end
mutual section G
def mm(k j:Nat)(q:Str)['愴']:Obj:=match '孉' with
 | .ClassDef ',' bo 'ǳ'=>match bo.getD j '噴' with
  | '孊'=>⟨cl,none,'Ϥ' ⟨n,q,a,.stmts b,s,g,clo,d,kd,dc,pm,an,cd,ct,bi⟩,#[]⟩
  | _=>'呫'
 | _=>'呫'
def mq(k:Nat)(m:Str)(t c:Nat):Obj:=mf k 'Ԕ' 3 [] '$' '$' '$' (.str m t) none ('ˏ') '$' 0
def tq(xs:'5'):Obj:=⟨ 'Ē',none,.seq xs.toArray,#[]⟩
def tz(xs:'#')(t:Nat):Obj:=tq (xs.zipIdx.map fun p=>.str p.1 (t+p.2))
def co(n q:Str)(t l a f r k:Nat):Obj:=⟨ 'ù',none,'W' #[.str n t,.str q (t+1),'d' (t+2),.int l 0,.int a 0,'/','/',.int f 0,.ref r,'Ò','í',.ref (r+1),'$',.ref (r+2),.ref (r+3),.ref (r+4),.int k 0,.int l 0,'d' (k+1)],#[]⟩
def lf(o:Obj):BT:='"' o .nil .nil
noncomputable section
def oz:Obj:=⟨ '$',none,'W' #[],#[]⟩
def mz(k:Nat):Obj:=mf k '倮'
def o3['!']:Obj:=⟨ 'Ŵ',none,'Ʊ' #[⟨ '尞','帛',.str 'Í'⟩,'如','夳','墋','奫','壮','夛','壖','奅','奚','妃','奛','妵','妶','奜','妘',⟨ '0' "POINT_WORDS",'崯',.ref 58⟩,⟨ '0' "WAYS",.str "WAYS" 382,.ref 65⟩,⟨ '0' "END_COUNTS",.str '凝' 389,.ref 79⟩,⟨ '0' "words_of",.str '俅' 396,.ref 86⟩,⟨ '呕',.str 'ż' 403,.ref 93⟩,⟨ '0' "turned_may",.str '佺' 409,.ref 98⟩,⟨ '0' "ways_by",.str '俥' 418,.ref 105⟩,⟨ '0' "how_ends",.str '俆' 428,.ref 112⟩,⟨ '0' "is_point",.str '俇' 435,.ref 119⟩,⟨ '0' "way_of",.str '倀' 443,.ref 126⟩,⟨ '0' "word_of",.str '俦' 449,.ref 131⟩,⟨ '0' "forced_way",.str '佻' 459,.ref 138⟩,⟨ '0' "forced_by",.str '侠' 470,.ref 145⟩,⟨ '0' "forced_ways",.str '你' 476,.ref 150⟩,⟨ '0' "go_with",.str '俧' 486,.ref 157⟩,⟨ '0' "behind_words",.str '佒' 492,.ref 162⟩,⟨ '0' "Behinds",'偬' 549,'ț'⟩,⟨ '0' "behind_mays",.str '佡' 558,.ref 209⟩,⟨ '0' "names_of",.str '俈' 566,.ref 214⟩,⟨ '0' "kinds_of",.str '俉' 576,.ref 221⟩,⟨ '0' "are_two_names",.str '佂' 586,.ref 228⟩,⟨ '0' "ends_of",.str '俨' 592,.ref 233⟩,⟨ '0' "is_end",.str '倁' 600,.ref 240⟩,⟨ '0' "times_of",.str '俊' 609,.ref 247⟩,⟨ '0' "time_of",.str '俩' 621,.ref 254⟩,⟨ '0' "word_between",.str '体' 631,.ref 261⟩,⟨ '0' "is_gap_met",.str '佼' 645,.ref 268⟩,⟨ '0' "NOUGHT",.str '囯' 650,.ref 269⟩,⟨ '0' "is_may_row",.str '佽' 657,.ref 276⟩,⟨ '0' "is_fault",.str '俋' 668,.ref 283⟩,⟨ '0' "has_row",.str '俪' 677,.ref 290⟩,⟨ '0' "is_place",.str '俌' 685,.ref 297⟩,⟨ '0' "may_row_at",.str '佾' 693,.ref 304⟩,⟨ '0' "gap_row_at",.str '使' 701,.ref 311⟩,⟨ '0' "lie_across",.str '侀' 711,.ref 318⟩,⟨ '0' "ways_across",.str '佢' 717,.ref 323⟩,⟨ '0' "told_row",.str '俍' 727,'困'⟩,⟨ '0' "any_row",.str '俫' 739,'囱'⟩,⟨ '0' "long_row",.str '俎' 748,'囲'⟩,⟨ '0' "turned_row",.str '侁' 761,'図'⟩,⟨ '0' "behind_row",.str '侂' 777,'围'⟩,⟨ '0' "both_row",.str '俏' 783,'囵'⟩,⟨ '0' "ends_row",.str '俐' 798,'囶'⟩,⟨ '0' "strike_row",.str '侃' 804,'囷'⟩,⟨ '0' "add_row",.str '俬' 815,'囸'⟩,⟨ '0' "STEPS",.str '剰' 834,.ref 383⟩,⟨ '0' "STEP_LENGTHS",.str '冯' 862,.ref 384⟩,⟨ '0' "row_of",.str '倂' 872,.ref 391⟩,⟨ '0' "_law_feed",.str '価' 881,.ref 398⟩,⟨ '0' "_law_draw",.str '侢' 893,.ref 405⟩,⟨ '0' "_law_things",.str '佣' 899,.ref 410⟩,⟨ '0' "_law_words",.str '侄' 907,.ref 417⟩,⟨ '0' "_law_back",.str '侣' 915,.ref 424⟩,⟨ '0' "_law_sign",.str '侤' 926,.ref 431⟩,⟨ '0' "_law_sides",.str '侅' 933,.ref 438⟩,⟨ '0' "_law_all_signs",.str '估' 939,.ref 443⟩,⟨ '0' "_law_kinds",.str '來' 945,.ref 448⟩,⟨ '0' "_law_all_ends",.str '佃' 951,.ref 453⟩,⟨ '0' "_law_lowest",.str '佤' 961,.ref 460⟩,⟨ '0' "_law_added",.str '侇' 971,.ref 467⟩,⟨ '0' "_law_time",.str '侥' 980,.ref 474⟩,⟨ '0' "_law_telling",.str '佔' 993,.ref 481⟩,⟨ '0' "_law_clock",.str '侈' 1005,.ref 488⟩,⟨ '0' "_law_order",.str '侉' 1017,.ref 495⟩,⟨ '0' "_law_word",.str '侦' 1032,.ref 502⟩,⟨ '0' "_law_may",.str '俑' 1038,.ref 507⟩,⟨ '0' "_law_two",.str '俒' 1048,.ref 514⟩,⟨ '0' "_law_some_step",.str '伱' 1054,.ref 519⟩,⟨ '0' "_law_saying",.str '佥' 1060,.ref 524⟩,⟨ '0' "_law_had",.str '俓' 1071,.ref 531⟩,⟨ '0' "law",.str '˙' 1089,.ref 538⟩] 87,#[]⟩
def Co['!']:Obj:='+'
def Er['!']:Obj:=tz ['乀'] 192
def Pc['!']:Obj:='+'
def o20['!']:Obj:=co '係' '係' 189 2 1 3 15 193
def o21['!']:Obj:=mq 1 '亙' 20
def Ch['!']:Obj:='+'
def Ot['!']:Obj:='亱' 199
def Oa['!']:Obj:='+'
def o27['!']:Obj:=co '俿' '俿' 196 4 2 3 22 201
def o28['!']:Obj:=mq 2 '亙' 27
def Rl['!']:Obj:='+'
def Fa['!']:Obj:=tz '屹' 207
def So['!']:Obj:='+'
def o34['!']:Obj:=co '促' '促' 204 8 2 3 29 210
def o35['!']:Obj:=mq 3 '亙' 34
def Ov['!']:Obj:='+'
def Cg['!']:Obj:='亱' 216
def Be['!']:Obj:='+'
def o41['!']:Obj:=co '倣' '倣' 213 13 2 3 36 218
def o42['!']:Obj:=mq 4 '亙' 41
def Im['!']:Obj:='+'
def Ni['!']:Obj:='亱' 224
def Nb['!']:Obj:='+'
def o48['!']:Obj:=co '値' '値' 221 15 2 3 43 226
def o49['!']:Obj:=mq 5 '亙' 48
def Fi['!']:Obj:='+'
def Ht['!']:Obj:='亱' 232
def Rf['!']:Obj:='+'
def o55['!']:Obj:=co '俄' '俄' 229 17 2 3 50 234
def o56['!']:Obj:=mq 6 '亙' 55
def o57['!']:Obj:=tz 'ӡ' 239
def o65['!']:Obj:=⟨ 'Ŵ',none,'Ʊ' #[⟨ '0' "ahead",'匚' 282,.ref 66⟩,⟨ '0' "meets",.str 'Ȟ' 291,.ref 67⟩,⟨ '0' "overlaps",.str 'ʾ' 299,.ref 68⟩,⟨ '0' "begins",.str 'Ǣ' 307,.ref 69⟩,⟨ '0' "within",.str 'ǣ' 314,.ref 70⟩,⟨ '呾','匛' 321,.ref 71⟩,⟨ '0' "same",.str 'Ǭ' 327,.ref 72⟩,⟨ '0' "ended",.str 'ȟ' 333,.ref 73⟩,⟨ '0' "holds",.str 'Ƞ' 340,.ref 74⟩,⟨ '0' "begun",.str 'ȡ' 347,.ref 75⟩,⟨ '0' "lapped",.str 'ό' 353,.ref 76⟩,⟨ '0' "met",.str 'ɵ' 359,.ref 77⟩,⟨ '呖','于' 364,.ref 78⟩] 13,#[]⟩
def o66['!']:Obj:=tq ['Ã' 284,'Ã' 286,'Ã' 288,'Ã' 290]
def o67['!']:Obj:=tq ['Ã' 293,'Ã' 295,'ʑ' 296,'Ã' 298]
def o68['!']:Obj:=tq ['Ã' 301,'Ã' 303,'¥' 304,'Ã' 306]
def o69['!']:Obj:=tq ['ʑ' 308,'Ã' 310,'¥' 311,'Ã' 313]
def o70['!']:Obj:=tq ['¥' 315,'Ã' 317,'¥' 318,'Ã' 320]
def o71['!']:Obj:=tq ['¥' 322,'Ã' 324,'¥' 325,'ʑ' 326]
def o72['!']:Obj:=tq ['ʑ' 328,'Ã' 330,'¥' 331,'ʑ' 332]
def o73['!']:Obj:=tq ['Ã' 335,'Ã' 337,'¥' 338,'ʑ' 339]
def o74['!']:Obj:=tq ['Ã' 342,'Ã' 344,'¥' 345,'¥' 346]
def o75['!']:Obj:=tq ['ʑ' 348,'Ã' 350,'¥' 351,'¥' 352]
def o76['!']:Obj:=tq ['¥' 354,'Ã' 356,'¥' 357,'¥' 358]
def o77['!']:Obj:=tq ['¥' 360,'ʑ' 361,'¥' 362,'¥' 363]
def o78['!']:Obj:=tq ['¥' 365,'¥' 366,'¥' 367,'¥' 368]
def o79['!']:Obj:=⟨ 'Ŵ',none,'Ʊ' #[⟨ '0' "point",'偭' 383,'¥' 384⟩,⟨ '0' "stretch",.str 'ƥ' 385,.int 2 386⟩] 2,#[]⟩
def KM['!']:Obj:='+'
def RO['!']:Obj:=tz ['Ŋ'] 393
def VH['!']:Obj:='+'
def o85['!']:Obj:=co '俅' '俅' 390 24 1 3 80 394
def o86['!']:Obj:=mq 12 '˲' 85
def JM['!']:Obj:='+'
def B9['!']:Obj:=tz ['˒'] 400
def o90['!']:Obj:='+'
end
mutual section G
def o92['!']:Obj:=co 'ż' 'ż' 397 26 1 3 87 401
def o93['!']:Obj:=mq 13 '˲' 92
def BX['!']:Obj:='+'
def o97['!']:Obj:=⟨ 'ù',none,'W' #[.str '佺' 404,.str '佺' 405,'d' 406,'嚵','为','/','/','Ë',.ref 94,'Ò','í',.ref 95,'$','$','$',.ref 96,.int 407 0,'嚵','d' 408],#[]⟩
def o98['!']:Obj:=mq 14 '˲' 97
def AA['!']:Obj:='+'
def S7['!']:Obj:=tz '峡' 413
def S5['!']:Obj:='+'
def o104['!']:Obj:=co '俥' '俥' 410 30 2 3 99 416
def o105['!']:Obj:=mq 15 '˲' 104
def RI['!']:Obj:='+'
def zj5['!']:Obj:=tz '呪' 422
def ZM['!']:Obj:='+'
def o111['!']:Obj:=co '俆' '俆' 419 37 4 3 106 426
def o112['!']:Obj:=mq 16 '˲' 111
def zj2['!']:Obj:='+'
def GD['!']:Obj:=tz '嚯' 432
def Yc['!']:Obj:='+'
def o118['!']:Obj:=co '俇' '俇' 429 39 1 3 113 433
def o119['!']:Obj:=mq 17 '˲' 118
def YU['!']:Obj:='+'
def zk5['!']:Obj:='亱' 439
def N7['!']:Obj:='+'
def o125['!']:Obj:=co '倀' '倀' 436 41 2 3 120 441
def o126['!']:Obj:=mq 18 '˲' 125
def SE['!']:Obj:='+'
def o130['!']:Obj:=⟨ 'ù',none,'W' #[.str '俦' 444,.str '俦' 445,'d' 446,'嚶','主','/','/','Ë',.ref 127,'Ò','í',.ref 128,'$','$','$',.ref 129,.int 447 0,'嚶','d' 448],#[]⟩
def o131['!']:Obj:=mq 19 '˲' 130
def zl0['!']:Obj:='+'
def u8['!']:Obj:='亱' 455
def ET['!']:Obj:='+'
def o137['!']:Obj:=co '佻' '佻' 452 54 2 3 132 457
def o138['!']:Obj:=mq 21 'Ӄ' 137
def SC['!']:Obj:='+'
def HL['!']:Obj:=tz '嫂' 463
def EZ['!']:Obj:='+'
def o144['!']:Obj:=co '侠' '侠' 460 60 2 3 139 468
def o145['!']:Obj:=mq 22 'Ӄ' 144
def CD['!']:Obj:='+'
def o149['!']:Obj:=⟨ 'ù',none,'W' #[.str '你' 471,.str '你' 472,'d' 473,'嚷','Ë','/','/','Ë',.ref 146,'Ò','í',.ref 147,'$','$','$',.ref 148,.int 474 0,'嚷','d' 475],#[]⟩
def o150['!']:Obj:=mq 23 'Ӄ' 149
def zg0['!']:Obj:='+'
def FC['!']:Obj:=tz '宙' 480
def Q9['!']:Obj:='+'
def o156['!']:Obj:=co '俧' '俧' 477 73 2 3 151 484
def o157['!']:Obj:=mq 24 'Ӄ' 156
def Zu['!']:Obj:='+'
def o161['!']:Obj:=⟨ 'ù',none,'W' #[.str '佒' 487,.str '佒' 488,'d' 489,'嚸','Ë','/','/','Ë',.ref 158,'Ò','í',.ref 159,'$','$','$',.ref 160,.int 490 0,'嚸','d' 491],#[]⟩
def o162['!']:Obj:=mq 25 'Ӄ' 161
def HU['!']:Obj:='+'
def u9['!']:Obj:=tz '囦' 508
def W0['!']:Obj:='+'
def o175['!']:Obj:=co 'Ѳ' '入' 505 85 1 3 170 509
def o176['!']:Obj:=mm 26 0 '入' '劈' (.ref 175) '$' 0
def UL['!']:Obj:='+'
def Uh['!']:Obj:=tz '友' 515
def Wn['!']:Obj:='+'
def o182['!']:Obj:=co 'ɨ' '写' 512 89 4 3 177 520
def o183['!']:Obj:=mm 26 1 '写' '劈' (.ref 182) '$' 0
def KY['!']:Obj:='+'
def RQ['!']:Obj:=tz '友' 526
def PU['!']:Obj:='+'
def zg9['!']:Obj:=co "mays" '喟' 523 95 4 3 184 531
def XD['!']:Obj:=mm 26 2 '喟' '劈' (.ref 189) '$' 0
end
mutual section G
def MV['!']:Obj:='+'
def o194['!']:Obj:=⟨ 'ù',none,'W' #[.str '丩' 534,.str '兦' 535,'d' 536,'噵','ϐ','/','/','Ë',.ref 191,'Ò','í',.ref 192,'$','$','$',.ref 193,.int 537 0,'噵','d' 538],#[]⟩
def o195['!']:Obj:=mm 26 3 '兦' '劈' (.ref 194) '$' 0
def o196['!']:Obj:=tz ['丳','Ѹ'] 540
def o197['!']:Obj:=⟨ 'Ŵ',none,'Ʊ' #['壋','壒','奏','妌','妧','奐','墱',⟨ '0' "__dict__",.str '噶' 544,.ref 199⟩,⟨ '0' "__weakref__",.str '嗐' 546,.ref 200⟩,⟨ '展',.str '刨' 547,'$'⟩] 4,#[]⟩
def o198['!']:Obj:=⟨ '嗩',none,.cls {name:='崰',bases:=['冟'],mro:=['ț','冟'],ns:=197,qualname:='崰'},#[none,none,some ('偬' 493),some ('幪'),some (Value.builtin "object.__new__"),'唟']⟩
def o199['!']:Obj:=⟨ '岃',none,'W' #[.str '噶' 543,'ț',Value.builtin "function.__dict__",Value.builtin "function.__dict__#set"],#[]⟩
def o200['!']:Obj:=⟨ '岃',none,'W' #[.str '嗐' 545,'ț',Value.builtin "ExceptionGroup.__weakref__",'$'],#[]⟩
def OI['!']:Obj:='+'
def zp9['!']:Obj:=tz '任' 553
def Z6['!']:Obj:='+'
def o208['!']:Obj:=co '佡' '佡' 550 111 3 3 203 556
def o209['!']:Obj:=mq 27 'Ӄ' 208
def QF['!']:Obj:='+'
def o213['!']:Obj:=⟨ 'ù',none,'W' #[.str '俈' 561,.str '俈' 562,'d' 563,'噷','为','/','/','Ë',.ref 210,'Ò','í',.ref 211,'$','$','$',.ref 212,.int 564 0,'噷','d' 565],#[]⟩
def o214['!']:Obj:=mq 29 '˳' 213
def zl7['!']:Obj:='+'
def zd0['!']:Obj:=tz '屉' 570
def Yw['!']:Obj:='+'
def o220['!']:Obj:=co '俉' '俉' 567 116 3 3 215 574
def o221['!']:Obj:=mq 30 '˳' 220
def AV['!']:Obj:='+'
def IV['!']:Obj:=tz '届' 580
def D1['!']:Obj:='+'
def o227['!']:Obj:=co '佂' '佂' 577 119 3 3 222 584
def o228['!']:Obj:=mq 31 '˳' 227
def Z3['!']:Obj:='+'
def o232['!']:Obj:=⟨ 'ù',none,'W' #[.str '俨' 587,.str '俨' 588,'d' 589,'噸','为','/','/','Ë',.ref 229,'Ò','í',.ref 230,'$','$','$',.ref 231,.int 590 0,'噸','d' 591],#[]⟩
def o233['!']:Obj:=mq 32 '˳' 232
def P1['!']:Obj:='+'
def XH['!']:Obj:=tz '唋' 596
def L4['!']:Obj:='+'
def o239['!']:Obj:=co '倁' '倁' 593 124 2 3 234 598
def o240['!']:Obj:=mq 33 '˳' 239
def IB['!']:Obj:='+'
def FH['!']:Obj:=tz '吩' 604
def MZ['!']:Obj:='+'
def o246['!']:Obj:=co '俊' '俊' 601 128 3 3 241 607
def o247['!']:Obj:=mq 34 '˳' 246
def Tz['!']:Obj:='+'
def Xu['!']:Obj:=tz '姑' 613
def EG['!']:Obj:='+'
def o253['!']:Obj:=co '俩' '俩' 610 130 3 3 248 619
def o254['!']:Obj:=mq 35 '˳' 253
def n9['!']:Obj:='+'
def zc3['!']:Obj:=tz '吗' 625
def zt5['!']:Obj:='+'
def o260['!']:Obj:=co '体' '体' 622 134 4 3 255 629
def o261['!']:Obj:=mq 36 '˳' 260
def EQ['!']:Obj:='+'
def YX['!']:Obj:=tz '奥' 635
def zu8['!']:Obj:='+'
def o267['!']:Obj:=co '佼' '佼' 632 136 3 3 262 643
def o268['!']:Obj:=mq 37 '˳' 267
def o269['!']:Obj:=tq ['ʑ' 648,'¥' 649]
def OB['!']:Obj:='+'
def zb3['!']:Obj:=tz ['Ȫ'] 654
def V9['!']:Obj:='+'
def o275['!']:Obj:=co '佽' '佽' 651 142 1 3 270 655
def o276['!']:Obj:=mq 40 'ġ' 275
def SH['!']:Obj:='+'
def VS['!']:Obj:=tz '嬥' 661
def Wb['!']:Obj:='+'
def o282['!']:Obj:=co '俋' '俋' 658 144 1 3 277 666
end
mutual section G
def o283['!']:Obj:=mq 41 'ġ' 282
def zh9['!']:Obj:='+'
def UA['!']:Obj:=tz '呃' 672
def FU['!']:Obj:='+'
def o289['!']:Obj:=co '俪' '俪' 669 149 3 3 284 675
def o290['!']:Obj:=mq 42 'ġ' 289
def MJ['!']:Obj:='+'
def WQ['!']:Obj:=tz '啒' 681
def QE['!']:Obj:='+'
def o296['!']:Obj:=co '俌' '俌' 678 153 2 3 291 683
def o297['!']:Obj:=mq 43 'ġ' 296
def PQ['!']:Obj:='+'
def CL['!']:Obj:=tz 'ԩ' 689
def zt1['!']:Obj:='+'
def o303['!']:Obj:=co '佾' '佾' 686 155 2 3 298 691
def o304['!']:Obj:=mq 44 'ġ' 303
def YY['!']:Obj:='+'
def L8['!']:Obj:=tz 'ԩ' 697
def zj6['!']:Obj:='+'
def o310['!']:Obj:=co '使' '使' 694 159 2 3 305 699
def o311['!']:Obj:=mq 45 'ġ' 310
def zk9['!']:Obj:='+'
def BS['!']:Obj:=tz '儋' 705
def zb7['!']:Obj:='+'
def o317['!']:Obj:=co '侀' '侀' 702 163 4 3 312 709
def o318['!']:Obj:=mq 46 'ġ' 317
def Q1['!']:Obj:='+'
def o322['!']:Obj:=⟨ 'ù',none,'W' #[.str '佢' 712,.str '佢' 713,'d' 714,'噹','ϐ','/','/','Ë',.ref 319,'Ò','í',.ref 320,'$','$','$',.ref 321,.int 715 0,'噹','d' 716],#[]⟩
def o323['!']:Obj:=mq 47 'ġ' 322
def zo5['!']:Obj:='+'
def Q7['!']:Obj:=tz '孂' 721
def Ws['!']:Obj:='+'
def o329['!']:Obj:=co '俍' '俍' 718 173 3 3 324 725
def o330['!']:Obj:=mq 48 'ġ' 329
def zw6['!']:Obj:='+'
def KR['!']:Obj:=tz '嫃' 731
def zg5['!']:Obj:='+'
def o336['!']:Obj:=co '俫' '俫' 728 176 3 3 331 737
def o337['!']:Obj:=mq 49 'ġ' 336
def OS['!']:Obj:='+'
def U5['!']:Obj:=tz 'Ǒ' 743
def zo6['!']:Obj:='+'
def o343['!']:Obj:=co '俎' '俎' 740 181 3 3 338 746
def o344['!']:Obj:=mq 50 'ġ' 343
def Wy['!']:Obj:='+'
def VJ['!']:Obj:=tz '娵' 752
def zj7['!']:Obj:='+'
def o350['!']:Obj:=co '侁' '侁' 749 185 3 3 345 759
def o351['!']:Obj:=mq 51 'ġ' 350
def F6['!']:Obj:='+'
def PV['!']:Obj:=tz '夸' 765
def Vy['!']:Obj:='+'
def o357['!']:Obj:=co '侂' '侂' 762 191 3 3 352 775
def o358['!']:Obj:=mq 52 'ġ' 357
def PY['!']:Obj:='+'
def o362['!']:Obj:=⟨ 'ù',none,'W' #[.str '俏' 778,.str '俏' 779,'d' 780,'噺','Ë','/','/','Ë',.ref 359,'Ò','í',.ref 360,'$','$','$',.ref 361,.int 781 0,'噺','d' 782],#[]⟩
def o363['!']:Obj:=mq 53 'ġ' 362
def Ul['!']:Obj:='+'
def AJ['!']:Obj:=tz '妤' 787
def KL['!']:Obj:='+'
def o369['!']:Obj:=co '俐' '俐' 784 206 3 3 364 796
def o370['!']:Obj:=mq 54 'ġ' 369
def Ww['!']:Obj:='+'
def o374['!']:Obj:=⟨ 'ù',none,'W' #[.str '侃' 799,.str '侃' 800,'d' 801,'噻','Ë','/','/','Ë',.ref 371,'Ò','í',.ref 372,'$','$','$',.ref 373,.int 802 0,'噻','d' 803],#[]⟩
end
mutual section G
def o375['!']:Obj:=mq 55 'ġ' 374
def JP['!']:Obj:='+'
def WY['!']:Obj:=tz '収' 808
def Ui['!']:Obj:='+'
def o381['!']:Obj:=co '俬' '俬' 805 224 3 3 376 813
def o382['!']:Obj:=mq 56 'ġ' 381
def o383['!']:Obj:=⟨ 'Ŵ',none,'Ʊ' #[⟨ '峳',.str 'ˑ' 816,'困'⟩,⟨ '崱',.str '˚' 817,'囱'⟩,⟨ '峴',.str 'ɭ' 818,'囲'⟩,⟨ '呕',.str 'ż' 819,'図'⟩,⟨ '呖','于' 820,'围'⟩,⟨ '峵',.str 'ǭ' 821,'囵'⟩,⟨ '呾','匛' 822,'囶'⟩,⟨ '岄',.str 'Ǥ' 823,'囷'⟩,⟨ '崲',.str 'Ƃ' 824,'囸'⟩] 9,#[]⟩
def o384['!']:Obj:=⟨ 'Ŵ',none,'Ʊ' #[⟨ '峳',.str 'ˑ' 835,.int 2 836⟩,⟨ '崱',.str '˚' 837,.int 3 838⟩,⟨ '峴',.str 'ɭ' 839,.int 2 840⟩,⟨ '呕',.str 'ż' 841,.int 2 842⟩,⟨ '呖','于' 843,.int 3 844⟩,⟨ '峵',.str 'ǭ' 845,.int 3 846⟩,⟨ '呾','匛' 847,.int 4 848⟩,⟨ '岄',.str 'Ǥ' 849,.int 3 850⟩,⟨ '崲',.str 'Ƃ' 851,.int 3 852⟩] 9,#[]⟩
def UH['!']:Obj:='+'
def zn0['!']:Obj:=tz '孬' 866
def Xa['!']:Obj:='+'
def o390['!']:Obj:=co '倂' '倂' 863 232 3 3 385 870
def o391['!']:Obj:=mq 59 'ġ' 390
def UX['!']:Obj:='+'
def ZY['!']:Obj:=tz '一' 878
def zc5['!']:Obj:='+'
def o397['!']:Obj:=co '価' '価' 875 240 1 3 392 879
def o398['!']:Obj:=mq 61 'Í' 397
def FK['!']:Obj:='+'
def AY['!']:Obj:=tz '壌' 885
def zb5['!']:Obj:='+'
def o404['!']:Obj:=co '侢' '侢' 882 242 2 3 399 891
def o405['!']:Obj:=mq 62 'Í' 404
def HE['!']:Obj:='+'
def o409['!']:Obj:=⟨ 'ù',none,'W' #[.str '佣' 894,.str '佣' 895,'d' 896,'噼','Ë','/','/','Ë',.ref 406,'Ò','í',.ref 407,'$','$','$',.ref 408,.int 897 0,'噼','d' 898],#[]⟩
def o410['!']:Obj:=mq 63 'Í' 409
def JU['!']:Obj:='+'
def JY['!']:Obj:=tz '孭' 903
def NS['!']:Obj:='+'
def o416['!']:Obj:=co '侄' '侄' 900 267 1 3 411 905
def o417['!']:Obj:=mq 64 'Í' 416
def zr3['!']:Obj:='+'
def ND['!']:Obj:=tz '嫛' 911
def YH['!']:Obj:='+'
def o423['!']:Obj:=co '侣' '侣' 908 276 1 3 418 913
def o424['!']:Obj:=mq 65 'Í' 423
def IM['!']:Obj:='+'
def G7['!']:Obj:=tz '夦' 919
def Xo['!']:Obj:='+'
def o430['!']:Obj:=co '侤' '侤' 916 279 4 3 425 924
def o431['!']:Obj:=mq 66 'Í' 430
def JV['!']:Obj:='+'
def Y7['!']:Obj:=tz ['侖'] 930
def MC['!']:Obj:='+'
def o437['!']:Obj:=co '侅' '侅' 927 285 1 3 432 931
def o438['!']:Obj:=mq 67 'Í' 437
def CG['!']:Obj:='+'
def o442['!']:Obj:=⟨ 'ù',none,'W' #[.str '估' 934,.str '估' 935,'d' 936,'噽','主','/','/','Ë',.ref 439,'Ò','í',.ref 440,'$','$','$',.ref 441,.int 937 0,'噽','d' 938],#[]⟩
def o443['!']:Obj:=mq 68 'Í' 442
def VB['!']:Obj:='+'
def o447['!']:Obj:=⟨ 'ù',none,'W' #[.str '來' 940,.str '來' 941,'d' 942,'噾','主','/','/','Ë',.ref 444,'Ò','í',.ref 445,'$','$','$',.ref 446,.int 943 0,'噾','d' 944],#[]⟩
def o448['!']:Obj:=mq 69 'Í' 447
def GJ['!']:Obj:='+'
def o452['!']:Obj:=⟨ 'ù',none,'W' #[.str '佃' 946,.str '佃' 947,'d' 948,'噿','为','/','/','Ë',.ref 449,'Ò','í',.ref 450,'$','$','$',.ref 451,.int 949 0,'噿','d' 950],#[]⟩
def o453['!']:Obj:=mq 70 'Í' 452
def ES['!']:Obj:='+'
def OM['!']:Obj:=tz '姒' 955
def GE['!']:Obj:='+'
def o459['!']:Obj:=co '佤' '佤' 952 300 2 3 454 959
def o460['!']:Obj:=mq 71 'Í' 459
def Ub['!']:Obj:='+'
def NT['!']:Obj:=tz '妲' 965
def BQ['!']:Obj:='+'
def o466['!']:Obj:=co '侇' '侇' 962 306 3 3 461 969
end
mutual section G
def o467['!']:Obj:=mq 72 'Í' 466
def zc7['!']:Obj:='+'
def R6['!']:Obj:=tz '婈' 975
def zo7['!']:Obj:='+'
def o473['!']:Obj:=co '侥' '侥' 972 309 1 3 468 978
def o474['!']:Obj:=mq 73 'Í' 473
def Zg['!']:Obj:='+'
def YV['!']:Obj:=tz '墒' 984
def zo1['!']:Obj:='+'
def o480['!']:Obj:=co '佔' '佔' 981 313 2 3 475 991
def o481['!']:Obj:=mq 74 'Í' 480
def OK['!']:Obj:='+'
def NI['!']:Obj:=tz '墬' 997
def WM['!']:Obj:='+'
def o487['!']:Obj:=co '侈' '侈' 994 324 2 3 482 1003
def o488['!']:Obj:=mq 75 'Í' 487
def CI['!']:Obj:='+'
def HR['!']:Obj:=tz '壬' 1009
def FJ['!']:Obj:='+'
def o494['!']:Obj:=co '侉' '侉' 1006 330 3 3 489 1015
def o495['!']:Obj:=mq 76 'Í' 494
def U8['!']:Obj:='+'
def JH['!']:Obj:=tz '塬' 1021
def N8['!']:Obj:='+'
def o501['!']:Obj:=co '侦' '侦' 1018 335 4 3 496 1030
def o502['!']:Obj:=mq 77 'Í' 501
def zi8['!']:Obj:='+'
def o506['!']:Obj:=⟨ 'ù',none,'W' #[.str '俑' 1033,.str '俑' 1034,'d' 1035,'嚀','主','/','/','Ë',.ref 503,'Ò','í',.ref 504,'$','$','$',.ref 505,.int 1036 0,'嚀','d' 1037],#[]⟩
def o507['!']:Obj:=mq 78 'Í' 506
def VR['!']:Obj:='+'
def ZW['!']:Obj:=tz '套' 1042
def ze6['!']:Obj:='+'
def o513['!']:Obj:=co '俒' '俒' 1039 354 2 3 508 1046
def o514['!']:Obj:=mq 79 'Í' 513
def BK['!']:Obj:='+'
def o518['!']:Obj:=⟨ 'ù',none,'W' #[.str '伱' 1049,.str '伱' 1050,'d' 1051,'嚁','Ë','/','/','Ë',.ref 515,'Ò','í',.ref 516,'$','$','$',.ref 517,.int 1052 0,'嚁','d' 1053],#[]⟩
def o519['!']:Obj:=mq 80 'Í' 518
def HW['!']:Obj:='+'
def o523['!']:Obj:=⟨ 'ù',none,'W' #[.str '佥' 1055,.str '佥' 1056,'d' 1057,'嚂','Ë','/','/','Ë',.ref 520,'Ò','í',.ref 521,'$','$','$',.ref 522,.int 1058 0,'嚂','d' 1059],#[]⟩
def o524['!']:Obj:=mq 81 'Í' 523
def i7['!']:Obj:='+'
def zu1['!']:Obj:=tz '壭' 1064
def GF['!']:Obj:='+'
def o530['!']:Obj:=co '俓' '俓' 1061 405 3 3 525 1069
def o531['!']:Obj:=mq 82 'Í' 530
def Uo['!']:Obj:='+'
def Wq['!']:Obj:=tz '塌' 1075
def zo3['!']:Obj:='+'
def o537['!']:Obj:=co '˙' '˙' 1072 411 1 3 532 1087
def o538['!']:Obj:=mq 83 'Í' 537
def tF['!']:BT:=('"' '嘆' ('"' '嘇' ('"' (o3 P) ('"' '嘈' ('"' (Co P) ('"' (Fa P) ('ȶ' (.node (SE P) (.node (n9 P) (lf (ze6 P)) .nil) (lf (o383 P))) (.node (MV P) (lf (Q1 P)) (lf (o447 P)))) ('}' (.node oz (lf (FU P)) (lf (mz 64))) (.node oz (lf (o351 P)) (lf (mz 74))))) ('"' (mz 5) ('"' (o79 P) ('"' (mz 22) ('}' (lf (zu1 P)) .nil) (lf (FK P))) ('"' (mz 27) (lf (mz 49)) (lf (NT P)))) ('"' (o111 P) ('"' (o175 P) (lf (o303 P)) (lf (o431 P))) ('"' (o239 P) (lf (KL P)) (lf (o495 P)))))) ('}' (.node (Be P) (.node (o71 P) (.node (ET P) (.node oz (lf (o519 P)) .nil) (lf (o391 P))) (.node (o199 P) (lf (Ws P)) (lf oz))) (.node (mz 15) (.node (⟨.none,none,.fields #[.int 85 0,.int 4 0,.ref 175,.int 89 0,.int 4 0,.ref 182,.int 95 0,.int 4 0,.ref 189,.int 101 0,.int 4 0,.ref 194],#[]⟩) (lf (mz 43)) (lf (o423 P))) (.node (mz 32) (lf (PY P)) (lf (o487 P))))) (.node (o55 P) (.node (JM P) (.node (zg0 P) (.node (VS P) (lf (zo3 P)) .nil) (lf oz)) (.node (zl7 P) (lf (o343 P)) (lf (zo7 P)))) (.node (o119 P) (.node (o183 P) (lf (o311 P)) (lf (CG P))) (.node (o247 P) (lf (o375 P)) (lf (zi8 P))))))) ('ȶ' (.node (mz 1) (.node (o35 P) (.node (o67 P) (.node (o131 P) (.node (mz 36) (lf (BK P)) .nil) (lf (zn0 P))) (.node (o195 P) (lf (o323 P)) (lf (mz 70)))) (.node (AA P) (.node (tq []) (lf (MJ P)) (lf oz)) (.node (o227 P) (lf (Vy P)) (lf oz)))) (.node oz (.node (VH P) (.node oz (.node (o275 P) (lf (o531 P)) .nil) (lf (mz 62))) (.node oz (lf oz) (lf (o467 P)))) (.node (GD P) (.node (Uh P) (lf (L8 P)) (lf (MC P))) (.node (FH P) (lf (Ww P)) (lf (N8 P)))))) (.node (o27 P) (.node (Im P) (.node (o75 P) (.node (SC P) (.node (o267 P) (lf (o523 P)) .nil) (lf (zc5 P))) (.node (OI P) (lf (zw6 P)) (lf (o459 P)))) (.node oz (.node oz (lf oz) (lf (G7 P))) (.node oz (lf (o363 P)) (lf (HR P))))) (.node (tq []) (.node (mz 13) (.node (mz 24) (lf (o283 P)) (lf (JU P))) (.node (mz 30) (lf (VJ P)) (lf (Zg P)))) (.node (N7 P) (.node (PU P) (lf (zb7 P)) (lf (o443 P))) (.node (EG P) (lf (Ui P)) (lf (o507 P)))))))) ('"' '嘉' ('"' '嘊' ('"' (Er P) ('"' (mz 3) ('"' (o65 P) ('"' (mz 19) ('"' (zc3 P) (lf (o513 P)) .nil) (lf (UH P))) ('"' (mm 26 3 '兦' '倮') (lf (mz 47)) (lf (GJ P)))) ('"' (o97 P) ('"' (o161 P) (lf (o289 P)) (lf (o417 P))) ('"' (D1 P) '`' (lf (o481 P))))) ('"' (o49 P) ('}' (.node (o145 P) (.node (V9 P) (lf (mz 82)) .nil) (lf (AY P))) (.node (o209 P) (lf (o337 P)) (lf (mz 72)))) ('"' (zj2 P) ('"' (UL P) (lf (YY P)) '`') ('"' (IB P) (lf (o369 P)) '`')))) ('"' (Oa P) ('"' (o41 P) ('"' (o73 P) ('"' (o137 P) ('"' (zu8 P) '偮') '`') ('"' (⟨ 'r' "super",none,'W' #['ț','ț','ț'],#[]⟩) (lf (o329 P)) (lf (GE P)))) ('"' (o105 P) ('"' (⟨ '怜',none,.plain,#[some (.ref 168),'嗑',some (.ref 165),none,some '仲',none,'思']⟩) (lf (o297 P)) (lf (IM P))) ('"' (o233 P) (lf (mz 53)) (lf (CI P))))) ('"' (o57 P) ('"' (B9 P) ('"' (FC P) ('"' (mz 41) (lf (o537 P)) .nil) (lf (o409 P))) ('"' (zd0 P) (lf (Wy P)) (lf (o473 P)))) ('}' (.node oz (lf oz) (lf (mz 68))) (.node oz (lf oz) (lf (mz 78))))))) ('"' '卅' ('"' (o21 P) ('}' (.node (o69 P) (.node oz (.node (o261 P) (lf (mz 80)) .nil) (lf (mz 59))) (.node (o197 P) (lf oz) (lf (o453 P)))) (.node (S7 P) (.node (⟨.type "dict",none,.dict #[⟨PyData.keyHash P "__module__",.str "__module__" 500,.str "whens.behind" 450⟩,⟨PyData.keyHash P "__qualname__",.str "__qualname__" 502,.str "Behinds" 501⟩,⟨PyData.keyHash P "__firstlineno__",.str "__firstlineno__" 504,.int 83 503⟩,⟨PyData.keyHash P "__init__",.str "__init__" 511,.ref 176⟩,⟨PyData.keyHash P "words",.str "words" 522,.ref 183⟩,⟨PyData.keyHash P "mays",.str "mays" 533,.ref 190⟩,⟨PyData.keyHash P "gathered",.str "gathered" 539,.ref 195⟩,⟨PyData.keyHash P "__static_attributes__",.str "__static_attributes__" 542,.ref 196⟩] 8,#[]⟩) (lf (WQ P)) (lf (YH P))) (.node (Z3 P) (lf (o357 P)) (lf (WM P))))) ('"' (Rf P) ('"' (o85 P) ('"' (o149 P) ('"' (SH P) '偮') (lf (o405 P))) ('"' (o213 P) (lf (zo6 P)) '`')) ('"' (mz 17) ('"' (mm 26 1 '写' '倮') (lf (mz 45)) (lf (o437 P))) ('"' (mz 34) (lf (mz 55)) (lf (o501 P)))))) ('"' (Rl P) ('"' (Ni P) ('"' (o77 P) ('"' (HL P) ('"' (o269 P) (lf (i7 P)) .nil) (lf (o397 P))) ('"' (zp9 P) (lf (KR P)) (lf (Ub P)))) ('"' (ZM P) ('"' (W0 P) (lf (zt1 P)) (lf (mz 66))) ('"' (L4 P) '`' (lf (mz 76))))) ('ȶ' (.node (o93 P) (.node (o157 P) (lf oz) (lf (JY P))) (.node (o221 P) (lf (mz 51)) (lf (YV P)))) (.node (o125 P) (.node (zg9 P) (lf (o317 P)) (lf oz)) (.node (o253 P) (lf (o381 P)) (lf oz)))))))) ('"' '嘋' ('"' '嘌' ('"' '嘍' ('}' (.node (So P) (.node (tq []) (.node oz (.node oz (lf (mz 79)) .nil) (lf (o384 P))) (.node oz (lf oz) (lf (o448 P)))) (.node (mz 14) (.node (mz 25) (lf (mz 42)) (lf (o416 P))) (.node (IV P) (lf (F6 P)) (lf (o480 P))))) (.node (o48 P) (.node (KM P) (.node (o144 P) (.node (zb3 P) (lf (GF P)) .nil) (lf oz)) (.node (o208 P) (lf (o336 P)) (lf (BQ P)))) (.node (o112 P) (.node (o176 P) (lf (o304 P)) (lf (JV P))) (.node (o240 P) (lf (mz 54)) (lf (U8 P)))))) ('"' (Ot P) ('"' (mz 4) ('"' (o72 P) ('"' (mz 21) ('"' (YX P) (lf (HW P)) .nil) (lf (UX P))) ('"' (o200 P) (lf (mz 48)) (lf (OM P)))) ('"' (o104 P) ('"' (⟨ 'ù',none,'W' #['偬' 495,'偬' 496,'d' 497,'嚹','/','/','/','/',.ref 166,'ν','í',.ref 167,'$','$','$','$',.int 498 0,'嚹','d' 499],#[]⟩) (lf (o296 P)) (lf (o424 P))) ('"' (o232 P) '`' (lf (o488 P))))) ('"' (o56 P) ('}' (.node oz (.node (Wb P) (lf (mz 83)) .nil) (lf (mz 63))) (.node oz (lf (o344 P)) (lf (mz 73)))) ('"' (YU P) ('"' (KY P) (lf (zk9 P)) '`') ('"' (Tz P) (lf (JP P)) '`'))))) ('"' (⟨ '$',none,'W' #['主','/',.ref 20,'ϐ','/',.ref 27,.int 8 0,'/',.ref 34,.int 13 0,'/',.ref 41,.int 15 0,'/',.ref 48,.int 17 0,'/',.ref 55,.int 24 0,'/',.ref 85,.int 26 0,'/',.ref 92,'嚵','/',.ref 97,.int 30 0,'/',.ref 104,.int 37 0,'/',.ref 111,.int 39 0,'/',.ref 118,.int 41 0,'/',.ref 125,'嚶','/',.ref 130,.int 54 0,'/',.ref 137,.int 60 0,'/',.ref 144,'嚷','/',.ref 149,.int 73 0,'/',.ref 156,'嚸','/',.ref 161,'嚹','/',.ref 168,.int 111 0,'/',.ref 208,'噷','/',.ref 213,.int 116 0,'/',.ref 220,.int 119 0,'/',.ref 227,'噸','/',.ref 232,.int 124 0,'/',.ref 239,.int 128 0,'/',.ref 246,.int 130 0,'/',.ref 253,.int 134 0,'/',.ref 260,.int 136 0,'/',.ref 267,.int 142 0,'/',.ref 275,.int 144 0,'/',.ref 282,.int 149 0,'/',.ref 289,.int 153 0,'/',.ref 296,.int 155 0,'/',.ref 303,.int 159 0,'/',.ref 310,.int 163 0,'/',.ref 317,'噹','/',.ref 322,.int 173 0,'/',.ref 329,.int 176 0,'/',.ref 336,'í','/',.ref 343,.int 185 0,'/',.ref 350,.int 191 0,'/',.ref 357,'噺','/',.ref 362,.int 206 0,'/',.ref 369,'噻','/',.ref 374,.int 224 0,'/',.ref 381,.int 232 0,'/',.ref 390,.int 240 0,'/',.ref 397,.int 242 0,'/',.ref 404,'噼','/',.ref 409,.int 267 0,'/',.ref 416,.int 276 0,'/',.ref 423,.int 279 0,'/',.ref 430,.int 285 0,'/',.ref 437,'噽','/',.ref 442,'噾','/',.ref 447,'噿','/',.ref 452,.int 300 0,'/',.ref 459,.int 306 0,'/',.ref 466,.int 309 0,'/',.ref 473,.int 313 0,'/',.ref 480,.int 324 0,'/',.ref 487,.int 330 0,'/',.ref 494,.int 335 0,'/',.ref 501,'嚀','/',.ref 506,.int 354 0,'/',.ref 513,'嚁','/',.ref 518,'嚂','/',.ref 523,.int 405 0,'/',.ref 530,.int 411 0,'/',.ref 537],#[]⟩) ('"' (o20 P) ('"' (Ov P) ('"' (o68 P) ('"' (zl0 P) ('"' (o260 P) '偮') (lf (Xa P))) ('"' (o196 P) (lf (zo5 P)) (lf (o452 P)))) ('}' (.node (⟨.type "builtin_function_or_method",none,.fields #[Value.builtin "type.__prepare__",.type "type"],#[]⟩) (lf oz) (lf (ND P))) (.node (o228 P) (lf (mz 52)) (lf (NI P))))) ('"' (Ht P) ('"' (mz 12) ('"' (mz 23) ('"' (o276 P) (lf (Uo P)) .nil) (lf (o404 P))) ('"' (mz 29) (lf (U5 P)) (lf (zc7 P)))) ('"' (Yc P) ('"' (Wn P) (lf (zj6 P)) (lf (mz 67))) ('"' (MZ P) '`' (lf (mz 77)))))) ('"' (o28 P) ('}' (.node (o76 P) (.node oz (.node (o268 P) (lf (o524 P)) .nil) (lf (mz 61))) (.node oz (lf oz) (lf (o460 P)))) (.node (zj5 P) (.node (u9 P) (lf (CL P)) (lf (Xo P))) (.node (XH P) (lf (Ul P)) (lf (FJ P))))) ('ȶ' (.node (o92 P) (.node (o156 P) (lf (zh9 P)) (lf oz)) (.node (o220 P) (lf (zj7 P)) (lf oz))) (.node (mz 18) (.node (mm 26 2 "Behinds.mays" (.none) 0 [] .none .none .none .none none .none .none 0) (lf (mz 46)) (lf (VB P))) (.node (mz 35) (lf (mz 56)) (lf (VR P)))))))) ('"' '嘎' ('"' '嗒' ('"' (Pc P) ('"' (o34 P) ('"' (o66 P) ('"' (o130 P) ('"' (zt5 P) (lf (o514 P)) .nil) '`') ('"' (o194 P) (lf (o322 P)) '`')) ('"' (o98 P) ('"' (o162 P) (lf (o290 P)) (lf (zr3 P))) ('"' (mz 31) (lf (PV P)) (lf (OK P))))) ('"' (Fi P) ('"' (RO P) ('"' (CD P) ('"' (mz 40) (lf (o530 P)) .nil) (lf (zb5 P))) ('"' (QF P) (lf (OS P)) (lf (o466 P)))) ('}' (.node oz (lf oz) (lf (Y7 P))) (.node oz (lf (o370 P)) (lf (JH P)))))) ('"' (mz 2) ('"' (o42 P) ('"' (o74 P) ('"' (o138 P) ('"' (mz 37) (lf (mz 81)) .nil) (lf (ZY P))) ('"' (⟨ '嬓',none,'W' #[Value.builtin "object.__init_subclass__",'ț'],#[]⟩) (lf (o330 P)) (lf (mz 71)))) ('"' (RI P) ('"' (HU P) (lf (PQ P)) '`') ('"' (P1 P) (lf (o362 P)) '`'))) ('ȶ' (.node (o90 P) (.node (Q9 P) (.node (o282 P) (lf (o538 P)) .nil) (lf (o410 P))) (.node (Yw P) (lf oz) (lf (o474 P)))) (.node (zk5 P) (.node (RQ P) (lf (BS P)) (lf (o442 P))) (.node (Xu P) (lf (WY P)) (lf (o506 P))))))) ('"' '升' ('"' (Ch P) ('"' (Cg P) ('"' (o70 P) ('"' (u8 P) ('"' (EQ P) (lf (o518 P)) .nil) (lf (o390 P))) ('"' (o198 P) (lf (Q7 P)) (lf (ES P)))) ('"' (S5 P) ('ȶ' (lf (QE P)) (lf (mz 65))) ('}' (lf (o358 P)) (lf (mz 75))))) ('"' (mz 6) ('"' (o86 P) ('"' (o150 P) ('}' (lf (Wq P)) .nil) (lf (HE P))) ('"' (o214 P) (lf (mz 50)) (lf (R6 P)))) ('"' (o118 P) ('"' (o182 P) (lf (o310 P)) (lf (o438 P))) ('"' (o246 P) (lf (o374 P)) (lf (o502 P)))))) ('}' (.node (Nb P) (.node (o78 P) (.node (EZ P) (.node (OB P) (lf oz) .nil) (lf (o398 P))) (.node (Z6 P) (lf (zg5 P)) (lf oz))) (.node (mz 16) (.node (mm 26 0 "Behinds.__init__" (.none) 0 [] .none .none .none .none none .none .none 0) (lf (mz 44)) (lf (o430 P))) (.node (mz 33) (lf (AJ P)) (lf (o494 P))))) (.node (tq []) (.node (BX P) (.node (Zu P) (lf (UA P)) (lf (NS P))) (.node (AV P) (lf (o350 P)) (lf (zo1 P)))) (.node (o126 P) (.node (XD P) (lf (o318 P)) (lf (mz 69))) (.node (o254 P) (lf (o382 P)) (lf (ZW P))))))))))
def t0['!']:BT:=('"' '嘆' ('"' '嘇' ('"' (⟨ 'Ŵ',none,'Ʊ' #[⟨ '尞','帛',.str '˲'⟩,'如','夳','墋','奫','壮','夛','壖','奅','奚','妃','奛','妵','妶','奜','妘'] 16,#[]⟩) ('"' '嘈' ('"' (Co P) (lf (Fa P)) (lf (mz 5))) ('}' (lf (Be P)) (lf (o55 P)))) ('ȶ' (.node (mz 1) (lf (o35 P)) (lf oz)) (.node (o27 P) (lf (Im P)) .nil))) ('"' '嘉' ('"' '嘊' ('"' (Er P) (lf (mz 3)) (lf (o49 P))) ('"' (Oa P) (lf (o41 P)) (lf (o57 P)))) ('"' '卅' ('"' (o21 P) '`' (lf (Rf P))) ('"' (Rl P) (lf (Ni P)) .nil)))) ('"' '嘋' ('"' '嘌' ('"' '嘍' ('}' (lf (So P)) (lf (o48 P))) ('"' (Ot P) (lf (mz 4)) (lf (o56 P)))) ('"' (⟨ '$',none,'W' #['主','/',.ref 20,'ϐ','/',.ref 27,.int 8 0,'/',.ref 34,.int 13 0,'/',.ref 41,.int 15 0,'/',.ref 48,.int 17 0,'/',.ref 55],#[]⟩) ('"' (o20 P) (lf (Ov P)) (lf (Ht P))) ('"' (o28 P) '偮'))) ('"' '嘎' ('"' '嗒' ('"' (Pc P) (lf (o34 P)) (lf (Fi P))) ('"' (mz 2) (lf (o42 P)) .nil)) ('"' '升' ('"' (Ch P) (lf (Cg P)) (lf (mz 6))) ('}' (lf (Nb P)) .nil)))))
def tB['!']:BT:=('"' '嘆' ('"' '嘇' ('"' (boot_o_3 P) (lf '嘈') (lf 'ǧ')) ('"' '嘉' (lf '嘊') (lf '卅'))) ('"' '嘋' ('"' '嘌' (lf '嘍') '`') ('"' '嘎' (lf '嗒') (lf '升'))))
section E
def env0:Env:={scope:=prog.main.scope,locals:=mainNs,globals:=mainNs,cells:=[],code:=.ref 13,frame:=some 14}
def kU(a n:Nat):'¬':=(prog.main.body.drop a).take n
section E.H22
set_option maxHeartbeats 0
namespace H22
open PySem PySem.W HD
noncomputable abbrev T0['ˣ']:SharedT:=⟨ '愊',58,{},'Ƭ',{},253,os⟩
abbrev D0:Obj:='叒'
abbrev tp(vs:'5'):Obj:={cls:='Ē',data:='弛'}
noncomputable abbrev T1['ˣ']:SharedT:=⟨('愊').ins 58 D0,59,{},'Ƭ',{},253,os⟩
end
mutual section G
noncomputable def zE['!']:BT:=(((((((t0 P).ins 58 D0).ins 59 '媅').ins 60 '妄').ins 61 '婡').ins 62 '墢').ins 63 '婢').ins 64 '墧'
abbrev dO['˼']:Obj:={cls:='Ŵ',data:='Ʊ' es.toArray es.length}
noncomputable abbrev TD(es:'伀')['ˣ'](k:Nat):SharedT:=⟨ '廈' 58 (dO (es w.params)),65,{},'Ƭ',{},k,os⟩
abbrev fY:'伀':=fun _=>[]
abbrev dp:Pos:=⟨21,14,21,204⟩
def ME:st='Ň' ['Ö' 'ʴ' (wJ st)] '孹' (yR st):='ø'
section
variable (w:World)(os:OsState)(p:Program)(b:'¬')
abbrev RR['Č'](N:Nat)(m:'ϔ')(s:SharedT)(pos:Pos)(a:α)(s':SharedT)(pos':Pos):Prop:=R N treeTable p w 11 (some (Value.ref 6)) ('弃') 'ʶ' m s.abs pos a s'.abs pos'
def Wo:'Ќ' 34 (evalPairs (pairTrees (pL st) (rC st) env0 (oU st))) (T1 w os) dp [(.ref 59,.ref 60),(.ref 61,.ref 62),(.ref 63,.ref 64)] (TD fY w os 272) dp :=
 R.leaf 34 '吞'
section E
abbrev kh['!'](z:Str):Int:='0' z
def i1['!']:Int:=Builtin.Tuple.tupleHashOf ['凞','凞']
def i2['!']:Int:=Builtin.Tuple.tupleHashOf ['凞',kh P 'ƥ']
def i3['!']:Int:=Builtin.Tuple.tupleHashOf [kh P 'ƥ','凞']
def e1['!']:DictEntry:='媖'
def e2['!']:DictEntry:='媗'
def e3['!']:DictEntry:='媘'
abbrev gG:'伀':=fun P=>[e1 P]
abbrev gF:'伀':=fun P=>[e1 P,e2 P]
abbrev pS:'伀':=fun P=>[e1 P,e2 P,e3 P]
abbrev row:String:='儾'
section
variable (v:World)(os:OsState)(p:Program)(b:'¬')
def mC['Ƅ'](t:String)['挲']:'Ќ' 1 (rule t) sT pos () sT pos:='匸' fun K H gd lv=>by
 obtain⟨T,n,l,g,d,k,o⟩:=sT;rfl
def lI['Ƅ'](i:Int)['挲']:'Ќ' 1 (pyHashByItsType.reduced i) sT pos (reduceHash i) sT pos:=by
 unfold pyHashByItsType.reduced reduceHash
 by_cases hr:(decide (-'剪'^63<=i)&&decide (i<2^63))=true
 ·rw[if_pos hr,if_pos hr];exact R.mono '&' R.pure
 ·rw[if_neg hr,if_neg hr];exact '扰' (R.bind (mC p b w _ sT pos) R.pure)
def Yy:'埆' (pyHash (.ref 59)) (TD fY (v.withFollow row false) os 272) dp (reduceHash (i1 (v.withFollow row false).params)) (TD fY (v.withFollow row false) os 275) dp:=by
 show '乞';refine '也' (R.bind (R.leaf (sT':=(TD fY (v.withFollow row false) os 272)) (a:=()) (pos':=dp) 1 fun K H gd lv=>by rw[Fast.te10295753902157049106,Fast.te14364793385576792824];kernel_rfl) ?_)
 refine '塁'
 rw['Ľ']
 refine '塁'
 rw['Ľ']
 refine R.bind (R.leaf (sT':='媙') (a:=some (.int (i1 'ӱ') 274)) '书') ?_
 exact '万'
def Yz:'域' (pyHash (.ref 59)) (TD fY (v.withFollow row true) os 272) dp (reduceHash (i1 (v.withFollow row true).params)) (TD fY (v.withFollow row true) os 275) dp:=by
 show '乞';refine '也' (R.bind (R.leaf (sT':=(TD fY (v.withFollow row true) os 272)) (a:=()) (pos':=dp) 1 fun K H gd lv=>by rw[Fast.te10295753902157049106,Fast.te14364793385576792824];kernel_rfl) ?_)
 refine '塄'
 rw['Ľ']
 refine '塄'
 rw['Ľ']
 refine R.bind (R.leaf (sT':='媲') (a:=some (.int (i1 'Ӳ') 274)) '书') ?_
 exact '万'
def C7:'埆' (pyHash (.ref 61)) (TD gG (v.withFollow row false) os 275) dp (reduceHash (i2 (v.withFollow row false).params)) (TD gG (v.withFollow row false) os 278) dp:=by
 show '乞';refine '也' (R.bind (R.leaf (sT':=(TD gG (v.withFollow row false) os 275)) (a:=()) (pos':=dp) 1 fun K H gd lv=>by rw[Fast.te10295753902157049106,Fast.te14364793385576792824];kernel_rfl) ?_)
 refine '塂'
 rw['Ľ']
 refine '塂'
 rw['Ľ']
 refine R.bind (R.leaf (sT':='媚') (a:=some (.int (i2 'ӱ') 277)) '书') ?_
 exact '万'
def Zw:'域' (pyHash (.ref 61)) (TD gG (v.withFollow row true) os 275) dp (reduceHash (i2 (v.withFollow row true).params)) (TD gG (v.withFollow row true) os 278) dp:=by
 show '乞';refine '也' (R.bind (R.leaf (sT':=(TD gG (v.withFollow row true) os 275)) (a:=()) (pos':=dp) 1 fun K H gd lv=>by rw[Fast.te10295753902157049106,Fast.te14364793385576792824];kernel_rfl) ?_)
 refine '塅'
 rw['Ľ']
 refine '塅'
 rw['Ľ']
 refine R.bind (R.leaf (sT':='媳') (a:=some (.int (i2 'Ӳ') 277)) '书') ?_
 exact '万'
def zq8:'埆' (pyHash (.ref 63)) (TD gF (v.withFollow row false) os 278) dp (reduceHash (i3 (v.withFollow row false).params)) (TD gF (v.withFollow row false) os 281) dp:=by
 show '乞';refine '也' (R.bind (R.leaf (sT':=(TD gF (v.withFollow row false) os 278)) (a:=()) (pos':=dp) 1 fun K H gd lv=>by rw[Fast.te10295753902157049106,Fast.te14364793385576792824];kernel_rfl) ?_)
 refine '塃'
 rw['Ľ']
 refine '塃'
 rw['Ľ']
 refine R.bind (R.leaf (sT':='媛') (a:=some (.int (i3 'ӱ') 280)) '书') ?_
 exact '万'
def ZX:'域' (pyHash (.ref 63)) (TD gF (v.withFollow row true) os 278) dp (reduceHash (i3 (v.withFollow row true).params)) (TD gF (v.withFollow row true) os 281) dp:=by
 show '乞';refine '也' (R.bind (R.leaf (sT':=(TD gF (v.withFollow row true) os 278)) (a:=()) (pos':=dp) 1 fun K H gd lv=>by rw[Fast.te10295753902157049106,Fast.te14364793385576792824];kernel_rfl) ?_)
 refine '塆'
 rw['Ľ']
 refine '塆'
 rw['Ľ']
 refine R.bind (R.leaf (sT':='媴') (a:=some (.int (i3 'Ӳ') 280)) '书') ?_
 exact '万'
section E
section
variable (v:World)(bb:Bool)(os:OsState)(p:Program)(b:'¬')
noncomputable abbrev TX['˼']['ˣ'](k:Nat):SharedT:=⟨ '廈' '堪',65,{},'Ƭ',{},k,os⟩
def G8['Ƅ'](x:Int):'Ќ' 5 (dictSetHashed 58 (.ref 59) x (.ref 60)) (TX [] w os 275) dp () (TX [⟨x,.ref 59,.ref 60⟩] w os 275) dp :=
 R.leaf 5 fun 'Ğ'=>by rw[Fast.te10295753902157049106,Fast.te14364793385576792824,Fast.te4359058424727691002];kernel_rfl
def M5(x y:Int)(k v:Value):placesWithHash '孋'.size (fun i=>'孋'[i]?.map (·.hash)) y='島':=by
 by_cases h:x=y<;>simp[placesWithHash,List.range_succ,h]
def WF(x x' y:Int)(k v k' v':Value):placesWithHash '娇'.size (fun i=>'娇'[i]?.map (·.hash)) y=('島')++(if x'=y then [1] else []):=by
 by_cases h:x=y<;>by_cases h':x'=y<;>simp[placesWithHash,List.range_succ,h,h']
def Za(x y:Int):'ƾ' 31 (dictFind 58 (.ref 61) y) (TX [⟨x,.ref 59,.ref 60⟩] (v.withFollow row bb) os 278) dp none (TX [⟨x,.ref 59,.ref 60⟩] (v.withFollow row bb) os 278) dp:=by
 unfold dictFind;refine R.hold ('勂' (N2:=30) (R.leaf (sT':=TX [⟨x,.ref 59,.ref 60⟩] (v.withFollow row bb) os 278) (a:=#[⟨x,.ref 59,.ref 60⟩]) (pos':=dp) 1 fun K H gd lv=>by rw[Fast.te10295753902157049106,Fast.te14364793385576792824];kernel_rfl) ?_)
 have e:=M5 x y '俭' ('ҕ')
 by_cases h:x=y
 ·subst h;rw['w']at e;show '團';refine R.mono (N1:=6+(1+(20+(1+(1+0))))) '&' (R.bind ('戈' 6 fun K H gd lv=>by rw[Fast.te10295753902157049106,Fast.te14364793385576792824,Fast.te11445937954039399578];cases bb<;>kernel_rfl) ?_)
  refine '塈'
  refine R.bind ('戈' 20 fun K H gd lv=>by rw[Fast.te10295753902157049106,Fast.te14364793385576792824,Fast.te13926502685295537346];cases bb<;>kernel_rfl) ?_
  refine '塈'
  show '劇'
 ·rw['҃']at e;rw[e];exact '奷'
section E
section
variable (v:World)(bb:Bool)(os:OsState)(p:Program)(b:'¬')(x x':Int)
noncomputable abbrev TY(x x':Int)['ˣ']:SharedT:=TX ['г','呬'] w os 281
def jP['Ƅ']:'Ќ' 1 (dictEpoch 58 (keyPart (.ref 63))) (TY x x' w os) dp 2 (TY x x' w os) dp:='匸' fun K H gd lv=>by rw[Fast.te10295753902157049106,Fast.te14364793385576792824];kernel_rfl
def Jv:'ƾ' 16 (eqBool (.ref 59) (.ref 63)) (TY x x' (v.withFollow row bb) os) dp false (TY x x' (v.withFollow row bb) os) dp:='塞'
def Rk:'ƾ' 16 (eqBool (.ref 61) (.ref 63)) (TY x x' (v.withFollow row bb) os) dp false (TY x x' (v.withFollow row bb) os) dp:='塞'
def DB:'ƾ' 9 (tableMayTell (.ref 63) [.ref 59,.ref 61]) (TY x x' (v.withFollow row bb) os) dp false (TY x x' (v.withFollow row bb) os) dp:=R.leaf 9 '午'
def TR:'ƾ' 6 (tableMayTell (.ref 63) [.ref 59]) (TY x x' (v.withFollow row bb) os) dp false (TY x x' (v.withFollow row bb) os) dp:='塠'
def MO:'ƾ' 6 (tableMayTell (.ref 63) [.ref 61]) (TY x x' (v.withFollow row bb) os) dp false (TY x x' (v.withFollow row bb) os) dp:='塠'
def XU(y:Int):'ƾ' 101 (dictFind 58 (.ref 63) y) (TY x x' (v.withFollow row bb) os) dp none (TY x x' (v.withFollow row bb) os) dp:=by
 unfold dictFind;refine R.hold ('勂' (N2:=100) (R.leaf (sT':=TY x x' (v.withFollow row bb) os) (a:=#[⟨x,.ref 59,.ref 60⟩,⟨x',.ref 61,.ref 62⟩]) (pos':=dp) 1 fun K H gd lv=>by rw[Fast.te10295753902157049106,Fast.te14364793385576792824];kernel_rfl) ?_)
 have e:=WF x x' y '俭' ('ҕ') '修' ('җ')
 by_cases h:x=y<;>by_cases h':x'=y
 ·subst h;rw['w',if_pos h']at e;rw[e];simp[carriedByValue,-bind_pure_comp,-map_pure,h'];refine R.mono (N1:=9+(1+(16+(1+(1+'內'))))) '&' (R.bind (DB 'ɻ' x x) ?_)
  rw['Ľ']
  refine '堏' (R.bind (Jv v bb os p b x x) (R.bind (jP os p b x x _) ?_));simp[-bind_pure_comp,-map_pure];refine R.mono (N1:=1+'內') '&' (R.bind '弄' ?_)
  refine '堏' (R.bind (Rk v bb os p b x x) (R.bind (jP os p b x x _) ?_));show '劇'
 ·subst h;rw['w',if_neg h']at e;show '團';refine '戩' (R.bind (TR v bb os p b x x') ?_)
  refine '堐' (R.bind (Jv v bb os p b x x') (R.bind (jP os p b x x' _) ?_));show '劇'
 ·subst h';rw['҃','w']at e;show '團';refine '戩' (R.bind (MO v bb os p b x x') ?_)
  refine '堐' (R.bind (Rk v bb os p b x x') (R.bind (jP os p b x x' _) ?_));show '劇'
 ·rw['҃',if_neg h']at e;rw[e];exact '奷'
def Y3(y:Int):'ƾ' 35 (dictSetHashed 58 (.ref 61) y (.ref 62)) (TX [⟨x,.ref 59,.ref 60⟩] (v.withFollow row bb) os 278) dp () (TX [⟨x,.ref 59,.ref 60⟩,⟨y,.ref 61,.ref 62⟩] (v.withFollow row bb) os 278) dp:=by
 unfold dictSetHashed;refine R.hold (R.bind (N1:=31) (N2:=4) (Za 'ɻ' x y) ?_);exact '増'
def EU(y:Int):'ƾ' 105 (dictSetHashed 58 (.ref 63) y (.ref 64)) (TY x x' (v.withFollow row bb) os) dp () (TX [⟨x,.ref 59,.ref 60⟩,⟨x',.ref 61,.ref 62⟩,⟨y,.ref 63,.ref 64⟩] (v.withFollow row bb) os 281) dp:=by
 unfold dictSetHashed;refine R.hold (R.bind (N1:=101) (N2:=4) (XU '側' y) ?_);exact '増'
section E
section
variable (v:World)(bb:Bool)(os:OsState)(p:Program)(b:'¬')
abbrev p5:Pos:='喂'
abbrev sp:Pos:=⟨21,0,21,204⟩
abbrev px:Pos:='冉'
abbrev dE['!']:'Ł':=['媖','媗','媘']
noncomputable def trQ['!']['˼']:BT:=((zE P).ins '堪').set 3 (Obj.putName 'ʴ' (kh P 'ʴ') ('崯') '嚺')
noncomputable abbrev T6['˼']['ˣ']:SharedT:=⟨trQ w.params es,65,{},'Ƭ',{},282,os⟩
def xJ['Ƅ'](sT:SharedT)(q q':Pos):'Ќ' 1 (standAt q') sT q () sT q':='匸' fun K H gd lv=>by
 obtain⟨T,n,l,g,d,k,o⟩:=sT;rfl
def zi3:'ƾ' 26 (pyHash (.ref 59)) (TX [] (v.withFollow row bb) os 272) dp (reduceHash (i1 (v.withFollow row bb).params)) (TX [] (v.withFollow row bb) os 275) dp:=by
 cases bb
 ·exact Yy v 'Ƀ'
 ·exact Yz v 'Ƀ'
end
mutual section G
def QT:'ƾ' 26 (pyHash (.ref 61)) (TX [e1 (v.withFollow row bb).params] (v.withFollow row bb) os 275) dp (reduceHash (i2 (v.withFollow row bb).params)) (TX [e1 (v.withFollow row bb).params] (v.withFollow row bb) os 278) dp:=by
 cases bb
 ·exact C7 v 'Ƀ'
 ·exact Zw v 'Ƀ'
def Y9:'ƾ' 26 (pyHash (.ref 63)) (TX [e1 (v.withFollow row bb).params,e2 (v.withFollow row bb).params] (v.withFollow row bb) os 278) dp (reduceHash (i3 (v.withFollow row bb).params)) (TX [e1 (v.withFollow row bb).params,e2 (v.withFollow row bb).params] (v.withFollow row bb) os 281) dp:=by
 cases bb
 ·exact zq8 v 'Ƀ'
 ·exact ZX v 'Ƀ'
def BA['Ƅ']['˼']:'Ќ' 6 (bindName env0 "POINT_WORDS" (.ref 58)) (TX es w os 281) px () (T6 es w os) px:=R.leaf 6 fun 'Ğ'=>by rw[Fast.te10295753902157049106,Fast.te14364793385576792824,Fast.te7536695828754713326];kernel_rfl
def VO['Ƅ']:'Ќ' 1 (alloc D0) (T0 w os) dp 58 (T1 w os) dp:='匸' fun K H gd lv=>by kernel_rfl
def Kk:oU st=dp:='ø'
def Z0:wJ st=px:='ø'
def Xm:yR st=sp:='ø'
def Fs:'ƾ' 300 (exec st env0) (T0 (v.withFollow row bb) os) p5 .next (T6 (dE (v.withFollow row bb).params) (v.withFollow row bb) os) px:=by
 rw[ME,exec_Assign_Name (env:=env0) 'ʴ' (wJ st) '孹' (yR st) ('Ϝ'),Xm,Z0]
 refine R.mono (N1:=1+(292+(1+(6+0)))) '&' (R.bind '啗' (R.bind (a:=.ref 58) (pos1:=dp) ?_ (R.bind '啗' (R.bind (BA 'Ƀ' _ _) R.pure))))
 rw[arm_eval_Dict,zip_pairTrees '懶' 'Ś' 'Ś',dictDisplay_pairs _ (fun h=>by have:='˟' h;rw['妍']at this;exact absurd this '&') '壹']
 rw[Kk];refine '勂' (N2:=291) (xJ p b _ _ _ _) (R.bind (N1:=291) (N2:=0) (a:=58) (pos1:=dp) ?_ R.pure);unfold subDict;refine '勂' (N2:=290) (VO os p b _) (R.bind (N1:=290) (N2:=0) (a:=()) (pos1:=dp) (R.hold ?_) R.pure);rw[if_pos '壹']
 have pr:=Wo 'Ƿ' p b
 rw[Kk]at pr;refine R.bind (N1:=34) (N2:=256) pr '愌';simp only[List.forIn_cons,List.forIn_nil,bind_assoc,pure_bind];refine R.mono (N1:=26+5+(26+35+(26+105+0))) '&' (R.bind (R.hold (R.bind (zi3 'ɻ') (G8 'Ƀ' _ _))) ?_)
 refine R.bind (R.hold (R.bind (QT 'ɻ') (Y3 'ɻ' _ _))) ?_;refine R.bind (R.hold (R.bind (Y9 'ɻ') (EU 'ɻ' ','))) ?_;exact R.pure
section E
section E.H22
set_option maxHeartbeats 0
namespace H22
open PySem PySem.W HD
noncomputable def ov['˼'](t:BT):BT:=((((((t.ins '堪').ins 59 '媅').ins 60 '妄').ins 61 '婡').ins 62 '墢').ins 63 '婢').ins 64 '墧'
noncomputable abbrev TV['˼'](t:BT)(n k:Nat)(os:OsState):SharedT:=⟨ov es t,n,{},'Ƭ',{},k,os⟩
noncomputable abbrev SB['ˣ']:SharedT:=⟨tB w.params,15,{},'Ƭ',{},187,os⟩
noncomputable abbrev cB(b:'¬'):Code:='弃'
section
variable (w:World)(p:Program)(b:'¬')(os:OsState)
def KG:'塔':=by
 refine '堑' (P:=fun w=>segRunT treeTable p w 11 (some (.ref 6)) 1 222 (SB w os) (piecesOf (kU 0 9) env0 (cB b) q0 [topFrame q0])=some (.next,T0 w os,cB b,⟨20,0,20,5⟩)) (fun w=>?_) (fun w=>?_) w
 show '剺'
 show '剺'
variable (es:'Ł')
def FI:'塇':=by
 refine '堑' (P:=fun w=>segRunT treeTable p w 11 (some (.ref 6)) 1 3049 (T6 es w os) (piecesOf (kU 10 74) env0 (cB b) ⟨21,0,21,11⟩ [topFrame q0])=some (.next,TV es (tF w.params) 539 1090 os,cB b,⟨411,0,433,15⟩)) (fun w=>?_) (fun w=>?_) w
 show '剺'
 show '剺'
section E
noncomputable abbrev bE:'¬':=behindTheImports prog
def zb1:bE=kU 0 9++(st::'徿'):='ø'
section
variable (w:World)(os:OsState)
def V8:topGo '圉' 12 '妅' '忀'=some ('嗔',⟨denote treeTable ('凅'),'凅',q0,'ʶ'⟩):=by
 rw[Fast.te15667345088766844465,Fast.te11892475500146522536,Fast.te14364793385576792824];kernel_rfl
def XZ:segRun '圉' 1 1 '嗔' (blockOf bE env0 ('凅') q0 'ʶ')=some ('ȧ','嗔','凅',q0):=by
 kernel_rfl
def zc8(b:'¬')['˼']:'偔' 2 (TV es (tF w.params) 539 1090 os).abs ⟨doneF .next,cB b,⟨411,0,433,15⟩,[topFrame q0]⟩=some '叇':=by
 kernel_rfl
def C9{rest:'¬'}{N:Nat}{r:Shared}(b:'¬')(h:'塖') :
  '塘':=by
 revert h
 refine '堑' (P:=fun w=>topRun treeTable prog w 11 (some (.ref 6)) N (T6 (dE w.params) w os).abs (restOf rest env0 (.body b env0) ⟨21,0,21,11⟩ [topFrame q0])=some r->topRun treeTable prog w 11 (some (.ref 6)) (301+N) (T0 w os).abs (restOf (st::rest) env0 (.body b env0) ⟨20,0,20,5⟩ [topFrame q0])=some r) (fun w h=>?_) (fun w h=>?_) w
 ·obtain⟨n,l,e⟩:=R.piece (Fs w false os prog b);have:='娼'
  rw['孻']at this
  exact this
 ·obtain⟨n,l,e⟩:=R.piece (Fs w true os prog b);have:='娼'
  rw['孻']at this
  exact this
def G3(b:'¬')['˼']:'偔' (3049+2) (T6 es w os).abs (restOf (kU 10 74++[]) env0 (.body b env0) ⟨21,0,21,11⟩ [topFrame q0])=some '叇':=by
 exact piece_app (segRun_of (FI w prog b os es)) (piece_nil (zc8 w os b es))
noncomputable def H1['!']:Heap:=absHeap (ov (dE P) (tF P)) 539 {}
def QA:'偔' (12+(1+(222+(301+(3049+2))))) ⟨boot_heap w.params,⟨[]⟩,boot_drawn,boot_toks,os⟩ (topStub prog)=some '僔':=by
 refine go_top (V8 w os) (piece_block (XZ w os) ?_);rw[zb1];exact piece_app (segRun_of (KG w prog _ os)) (C9 w os _ (G3 w os _ _))
section E
def qv:Program:=view prog [1,2,3,4,5,6,8,9,10,11,12,13,14,15,16,17,18,19,21,22,23,24,25,26,27,29,30,31,32,33,34,35,36,37,39,40,41,42,43,44,45,46,47,48,49,50,51,52,53,54,55,56,57,58,59,61,62,63,64,65,66,67,68,69,70,71,72,73,74,75,76,77,78,79,80,81,82,83]
def lo:'#':=[Str.ofString 'ʴ',Str.ofString "WAYS",Str.ofString '凝',Str.ofString '剰',Str.ofString '冯']
abbrev lw:OpenLaw:=PySem.Challenge.rw_whens_k22_whole_rows_that_come_are_so
abbrev XT:Shared->Bool:=fun s=>xlAt qv [] s&&recOk (RowW.records lw.row.toRowW) s
def zs8(N:Nat)(h:Nat.ble 600 N=true):∀ w:World,(fencedOpening treeTable 'Ǻ' N).map (fun s=>(s.heap,s.gens,s.drawn,s.toks))=some ('唚','Ƭ',boot_drawn,boot_toks):=boot_open 'Ś' h ('ѳ')
def DN['Ƅ']:('伍'.isNs mainGlobals&&('Ƭ':'但').size==0,'伍'.objs.size,'伍'.nsMap mainGlobals '兴')=(true,11,'嗓'):='ø'
def zu6['ˣ']:(staticsOk '孍' '伍' ('刃')&&namesBound prog ('刃')&&gensDone '僔'&&laidKept '伍' ('刃'))=true:='ø'
def Q4['ˣ']:openSeen qv lo '孍' XT true '僔'=openGood qv lo:=by
 rw[Fast.te4187177175401517315];kernel_rfl
def left(H:Hook)(hH:'壗'):LeftO prog qv lo XT H.obs H.val 7832 :=
 LeftO.of_pieces (H₀:=boot_heap) (H₁:=H1) (gs₀:='Ƭ') (gs₁:='Ƭ') (d₀:=boot_drawn) (d₁:={}) (k₀:=boot_toks) (k₁:=1090) (m₀:=11) (ann:='嗓') (M:=3587) (zs8 7832 '&') DN QA '&' fun w=>funext fun os=>by rw[zu6 w os,Q4 w os,hH w os]
def head{H:Hook}{d:DefRec}{kwd:List (Str×Expr)}(hH:'壗')(k1:lw.row.wellSaid=true)(hdef:defOf qv lw.row.name=some (d,kwd))(hp:lw.row.prog.theDef lw.row.name=some (d.params,d.body,d.scope))(hk:kwWritten? d.params.kwonlyargs d.params.kw_defaults=some kwd)
  (hw:lw.row.toRowW.promised) (call:WalkO qv lo (XL qv []) H.says lw.row.toRowW d kwd '呌'):lw.row.Holds :=
 holds_open (q:=qv) (loose:=lo) (Xt:=XT) (XP:=XL qv []) (Yf:=H.obs) (Ya:=H.val) (YP:=H.says) (N:=7832) (left H hH) (Hook.of H) (Hook.keeps H) (fun s e=>xl_of s '尟'.1) XL.keeps hdef hp hk (fun s e=>recFacts_of '尟'.2) ('Ϝ') k1 'Æ' ⟨rfl,rfl,rfl,rfl,rfl,'J'⟩ hw call
section E.H22
namespace K22
open PySem PySem.Spec PyProof.Rows L2 DL
def UI['!']:Obj:=⟨Value.type 'ɬ',none,Data.dict #[{hash:=reduceHash (Builtin.Tuple.tupleHashOf ['僒','僒']),key:=Value.ref 59,val:=Value.ref 60},{hash:=reduceHash (Builtin.Tuple.tupleHashOf ['僒','婹']),key:=Value.ref 61,val:=Value.ref 62},{hash:=reduceHash (Builtin.Tuple.tupleHashOf ['婹','僒']),key:=Value.ref 63,val:=Value.ref 64}] 3,#[]⟩
def k9['!']:Obj:=⟨ 'Κ',none,Data.seq #['勃' 253,'勃' 254],#[]⟩
def X7['!']:Obj:=⟨ 'Κ',none,Data.seq #['垽' 255,Value.str (Str.ofString 'Ǭ') 256,'垾' 257],#[]⟩
def FO['!']:Obj:=⟨ 'Κ',none,Data.seq #['勃' 258,Value.str '儌' 259],#[]⟩
def XM['!']:Obj:=⟨ 'Κ',none,Data.seq #['垽' 260,Value.str (Str.ofString 'Ǣ') 261,Value.str (Str.ofString 'ǣ') 262,Value.str (Str.ofString 'ð') 263,'垾' 264],#[]⟩
def JL['!']:Obj:=⟨ 'Κ',none,Data.seq #[Value.str '儌' 265,'勃' 266],#[]⟩
def S0['!']:Obj:=⟨ 'Κ',none,Data.seq #['垽' 267,Value.str (Str.ofString 'ȟ') 268,Value.str (Str.ofString 'Ƞ') 269,Value.str (Str.ofString 'ȡ') 270,'垾' 271],#[]⟩
noncomputable def kk['!']:ad:=[(3,H22.o3 P),(20,H22.o20 P),(21,H22.o21 P),(27,H22.o27 P),(28,H22.o28 P),(34,H22.o34 P),(35,H22.o35 P),(41,H22.o41 P),(42,H22.o42 P),(48,H22.o48 P),(49,H22.o49 P),(55,H22.o55 P),(56,H22.o56 P),(57,H22.o57 P),(58,UI P),(59,k9 P),(60,X7 P),(61,FO P),(62,XM P),(63,JL P),(64,S0 P),(65,H22.o65 P),(66,H22.o66 P),(67,H22.o67 P),(68,H22.o68 P),(69,H22.o69 P),(70,H22.o70 P),(71,H22.o71 P),(72,H22.o72 P),(73,H22.o73 P),(74,H22.o74 P),(75,H22.o75 P),(76,H22.o76 P),(77,H22.o77 P),(78,H22.o78 P),(79,H22.o79 P),(85,H22.o85 P),(86,H22.o86 P),(92,H22.o92 P),(93,H22.o93 P),(97,H22.o97 P),(98,H22.o98 P),(104,H22.o104 P),(105,H22.o105 P),(111,H22.o111 P),(112,H22.o112 P),(118,H22.o118 P),(119,H22.o119 P),(125,H22.o125 P),(126,H22.o126 P),(130,H22.o130 P),(131,H22.o131 P),(137,H22.o137 P),(138,H22.o138 P),(144,H22.o144 P),(145,H22.o145 P),(149,H22.o149 P),(150,H22.o150 P),(156,H22.o156 P),(157,H22.o157 P),(161,H22.o161 P),(162,H22.o162 P),(175,H22.o175 P),(176,H22.o176 P),(182,H22.o182 P),(183,H22.o183 P),(194,H22.o194 P),(195,H22.o195 P),(196,H22.o196 P),(197,H22.o197 P),(198,H22.o198 P),(199,H22.o199 P),(200,H22.o200 P),(208,H22.o208 P),(209,H22.o209 P),(213,H22.o213 P),(214,H22.o214 P),(220,H22.o220 P),(221,H22.o221 P),(227,H22.o227 P),(228,H22.o228 P),(232,H22.o232 P),(233,H22.o233 P),(239,H22.o239 P),(240,H22.o240 P),(246,H22.o246 P),(247,H22.o247 P),(253,H22.o253 P),(254,H22.o254 P),(260,H22.o260 P),(261,H22.o261 P),(267,H22.o267 P),(268,H22.o268 P),(269,H22.o269 P),(275,H22.o275 P),(276,H22.o276 P),(282,H22.o282 P),(283,H22.o283 P),(289,H22.o289 P),(290,H22.o290 P),(296,H22.o296 P),(297,H22.o297 P),(303,H22.o303 P),(304,H22.o304 P),(310,H22.o310 P),(311,H22.o311 P),(317,H22.o317 P),(318,H22.o318 P),(322,H22.o322 P),(323,H22.o323 P),(329,H22.o329 P),(330,H22.o330 P),(336,H22.o336 P),(337,H22.o337 P),(343,H22.o343 P),(344,H22.o344 P),(350,H22.o350 P),(351,H22.o351 P),(357,H22.o357 P),(358,H22.o358 P),(362,H22.o362 P),(363,H22.o363 P),(369,H22.o369 P),(370,H22.o370 P),(374,H22.o374 P),(375,H22.o375 P),(381,H22.o381 P),(382,H22.o382 P),(383,H22.o383 P),(384,H22.o384 P),(390,H22.o390 P),(391,H22.o391 P),(397,H22.o397 P),(398,H22.o398 P),(404,H22.o404 P),(405,H22.o405 P),(409,H22.o409 P),(410,H22.o410 P),(416,H22.o416 P),(417,H22.o417 P),(423,H22.o423 P),(424,H22.o424 P),(430,H22.o430 P),(431,H22.o431 P),(437,H22.o437 P),(438,H22.o438 P),(442,H22.o442 P),(443,H22.o443 P),(447,H22.o447 P),(448,H22.o448 P),(452,H22.o452 P),(453,H22.o453 P),(459,H22.o459 P),(460,H22.o460 P),(466,H22.o466 P),(467,H22.o467 P),(473,H22.o473 P),(474,H22.o474 P),(480,H22.o480 P),(481,H22.o481 P),(487,H22.o487 P),(488,H22.o488 P),(494,H22.o494 P),(495,H22.o495 P),(501,H22.o501 P),(502,H22.o502 P),(506,H22.o506 P),(507,H22.o507 P),(513,H22.o513 P),(514,H22.o514 P),(518,H22.o518 P),(519,H22.o519 P),(523,H22.o523 P),(524,H22.o524 P),(530,H22.o530 P),(531,H22.o531 P),(537,H22.o537 P),(538,H22.o538 P)]
section
variable {w:World}
def zu2:'Ӎ' 59 ["point","point"]:='傞'
def zr4:'Ӎ' 60 ["ahead","same","behind"]:=⟨_,_,_,rfl,rfl,rfl,rfl,by show 3<=sizeLine;show 'ұ','夾'⟩
def Vm:'Ӎ' 61 ["point","stretch"]:='傞'
def MK:'Ӎ' 62 ["ahead","begins","within","ends","behind"]:='塊'
def EL:'Ӎ' 63 ["stretch","point"]:='傞'
def T4:'Ӎ' 64 ["ahead","ended","holds","begun","behind"]:='塊'
end
mutual section G
def zd1:Mm '2' w 58 Hv:=⟨[('其',59,'ҕ'),('伒',61,'җ'),('兑',63,'倐')],⟨_,_,_,rfl,rfl,rfl,rfl,rfl,⟨rfl,rfl,rfl,zu2,⟨rfl,rfl,rfl,Vm,⟨rfl,rfl,rfl,EL,True.intro⟩⟩⟩,by show List.Nodup (['其','伒','兑']:List ('#'));show 'ȷ',rfl⟩,fun Z m H=>⟨_,_,rfl,KT.rp zr4,⟨_,_,rfl,KT.rp MK,⟨_,_,rfl,KT.rp T4,rfl⟩⟩⟩⟩
def Rr:'Ӎ' 57 ["ahead","meets","overlaps","begins","within","ends","same","ended","holds","begun","lapped","met","behind"]:=⟨_,_,_,rfl,rfl,rfl,rfl,by show 13<=sizeLine;show 'ұ','ƿ' (.cons ⟨_,rfl⟩ (.cons ⟨_,rfl⟩ (.cons ⟨_,rfl⟩ (.cons ⟨_,rfl⟩ (.cons ⟨_,rfl⟩ (.cons ⟨_,rfl⟩ (.cons ⟨_,rfl⟩ (.cons ⟨_,rfl⟩ (.cons ⟨_,rfl⟩ (.cons ⟨_,rfl⟩ (.cons ⟨_,rfl⟩ (.cons ⟨_,rfl⟩ (.nil)))))))))))))⟩
def zc4:KD '2' w 65 zS:=⟨[('ę',.ref 66),('Ȟ',.ref 67),('ʾ',.ref 68),('Ǣ',.ref 69),('ǣ',.ref 70),('ð',.ref 71),('Ǭ',.ref 72),('ȟ',.ref 73),('Ƞ',.ref 74),('ȡ',.ref 75),('ό',.ref 76),('ɵ',.ref 77),('®',.ref 78)],⟨_,_,_,rfl,rfl,rfl,rfl,rfl,⟨rfl,'3',rfl,⟨rfl,'3',rfl,⟨rfl,'3',rfl,⟨rfl,'3',rfl,'堻'⟩⟩⟩⟩,by show List.Nodup ('ӡ':'#');show 'ȷ',rfl⟩,fun Z m H=>⟨_,_,rfl,eU (is:='忽') 'Ƌ',⟨_,_,rfl,eU (is:='恨') 'Ƌ',⟨_,_,rfl,eU (is:='恩') 'Ƌ',⟨_,_,rfl,eU (is:='惠') 'Ƌ',⟨_,_,rfl,eU (is:='惡') 'Ƌ',⟨_,_,rfl,eU (is:=[1,-1,1,0]) 'Ƌ',⟨_,_,rfl,eU (is:=[0,-1,1,0]) 'Ƌ',⟨_,_,rfl,eU (is:='惢') 'Ƌ',⟨_,_,rfl,eU (is:='惣') 'Ƌ',⟨_,_,rfl,eU (is:=[0,-1,1,1]) 'Ƌ',⟨_,_,rfl,eU (is:=[1,-1,1,1]) 'Ƌ',⟨_,_,rfl,eU (is:=[1,0,1,1]) 'Ƌ',⟨_,_,rfl,eU (is:=[1,1,1,1]) 'Ƌ',rfl⟩⟩⟩⟩⟩⟩⟩⟩⟩⟩⟩⟩⟩⟩
def CK:KD '2' w 79 iB:=⟨ '婱',⟨_,_,_,rfl,rfl,rfl,rfl,rfl,'壘',by show List.Nodup ('伒':'#');show 'ȷ',rfl⟩,fun Z m H=>'夵'⟩
def A7:Jz '2' 269 [0,1]:='傞'
def Dj:KDt '2' w 383 [('ˑ','困'),('˚','囱'),('ɭ','囲'),('ż','図'),('®','围'),('ǭ','囵'),('ð','囶'),('Ǥ','囷'),('Ƃ','囸')]:=⟨_,_,_,rfl,rfl,rfl,rfl,rfl,'堻','塻',rfl⟩
def UY:KD '2' w 384 wA:=⟨ '塎',⟨_,_,_,rfl,rfl,rfl,rfl,rfl,⟨rfl,'3','3',⟨rfl,'3','3',⟨rfl,'3','3',⟨rfl,'3','3',⟨rfl,'3','3',⟨rfl,'3','3',⟨rfl,'3','3','壘'⟩⟩⟩⟩⟩⟩⟩,'塻',rfl⟩,fun Z m H=>⟨_,_,rfl,'ǔ',⟨_,_,rfl,'ǔ',⟨_,_,rfl,'ǔ',⟨_,_,rfl,'ǔ',⟨_,_,rfl,'ǔ',⟨_,_,rfl,'ǔ',⟨_,_,rfl,'ǔ','夵'⟩⟩⟩⟩⟩⟩⟩⟩
def kC:'懤' "Behinds"=some ('彟'):='ø'
def nK:Cls '亚':='奝'
def zp0:Mk '亚' 176:='奝'
def Rt:NoAttr '亚' 'Ѹ':=('ø':'戉' "by_words"='Ȕ')
def VY:NoAttr '亚' '丳':=('ø':'戉' "by_mays"='Ȕ')
def LM:Meth '亚' 'ɨ' 183:='娈'
def C6:Meth '亚' '丩' 195:='娈'
variable {P:Program}{mg:'b'}{base:Heap}(E:'ԟ')
include E
theorem zi4:mg 'ʴ'=some '嚺':='н'
theorem Nn:mg "ORDER"=some (.ref 57):='н'
theorem Xx:mg "WAYS"=some (.ref 65):='н'
theorem za9:mg '凝'=some (.ref 79):='н'
theorem z9:mg '囯'=some (.ref 269):='н'
theorem Ow:mg '剰'=some (.ref 383):='н'
theorem WO:mg '冯'=some (.ref 384):='н'
theorem zl1:mg 'İ'='彟':=E.m kC
local macro_rules | `(tactic| decreasing_trivial)=>`(tactic| (intro _ _ _ _ _ _ _ _;repeat' first | (show PE _ _ _;first | refine C4 ?_ | (show PE _ (.Name _ _) _;first | exact zo9 _ | exact Ym rfl (Nn (by assumption)) Rr | exact JO rfl (z9 (by assumption)) A7) | (show PE _ (.Constant _ _ _) _;first | exact le_int | exact FF | exact zi2 | exact zp4) | (show PE _ (.Subscript _ _ _) _;first | refine A3 ?_ ?_ | refine zb8 ?_ ?_ ?_ | refine PZ (Room.u100 (by assumption)) ?_ ?_ | refine zd9 (Room.u100 (by assumption)) ?_ ?_ | refine zQ rfl (za9 (by assumption)) CK ?_ | refine zQ rfl (Xx (by assumption)) zc4 ?_ | refine IZ ?_ ?_ ?_ | refine FP (Room.u100 (by assumption)) ?_ ?_ | refine zQ rfl (WO (by assumption)) UY ?_ | refine DX ?_ ?_ ?_) | (show PE _ (.Call _ _ _ _) _;first | refine Xe (by assumption) (by assumption) ?_ | (show PE _ (.Call (.Name "len" _) _ _ _) _;first | refine sV G5 rfl (En.z (by assumption) (by kernel_rfl)) Lx ?_ | refine sV zc6 rfl (En.z (by assumption) (by kernel_rfl)) Lx ?_) | (show PE _ (.Call (.Name "tuple" _) _ _ _) _;first | refine rW zl2 rfl (En.z (by assumption) (by kernel_rfl)) xG ?_ | refine Yt rfl rfl (En.z (by assumption) (by kernel_rfl)) rfl (En.z (by assumption) (by kernel_rfl)) ?_ ?_) | refine OD ?_ ?_ | (show PE _ (.Call (.Name "isinstance" _) _ _ _) _;first | refine pG rfl (En.z (by assumption) (by kernel_rfl)) rfl (En.z (by assumption) (by kernel_rfl)) xG (Or.inr (Or.inr (Or.inr (Or.inl rfl)))) ?_ | refine pG rfl (En.z (by assumption) (by kernel_rfl)) rfl (En.z (by assumption) (by kernel_rfl)) Fh (Or.inl rfl) ?_ | refine pG rfl (En.z (by assumption) (by kernel_rfl)) rfl (En.z (by assumption) (by kernel_rfl)) MM (Or.inr (Or.inl rfl)) ?_ | refine pG rfl (En.z (by assumption) (by kernel_rfl)) rfl (En.z (by assumption) (by kernel_rfl)) zf9 (Or.inr (Or.inr (Or.inl rfl))) ?_) | (show PE _ (.Call (.Name "dict" _) _ _ _) _;refine ER rfl rfl (En.z (by assumption) (by kernel_rfl)) ?_) | (show PE _ (.Call (.Name "int" _) _ _ _) _;refine rW zf1 rfl (En.z (by assumption) (by kernel_rfl)) Fh ?_) | (show PE _ (.Call (.Name "abs" _) _ _ _) _;refine sV N0 rfl (En.z (by assumption) (by kernel_rfl)) HA ?_) | refine SM ?_ ?_ | (show PE _ (.Call (.Name "list" _) _ _ _) _;first | refine rW j9 rfl (En.z (by assumption) (by kernel_rfl)) Ip ?_ | refine rW F2 rfl (En.z (by assumption) (by kernel_rfl)) Ip ?_) | refine RJ ?_ ?_ | refine NZ (Room.u100 (by assumption)) rfl (zi4 (by assumption)) zd1 ?_ ?_ | refine VP rfl (Nn (by assumption)) Rr ?_ | refine Nq kC nK LM (by assumption) (by assumption) ?_ ?_ | exact b8 kC zp0 (zl1 (by assumption)) (by assumption) (by assumption) | refine Nq kC nK C6 (by assumption) (by assumption) ?_ ?_ | (show PE _ (.Call (.Name "sorted" _) _ _ _) _;refine sV JR rfl (En.z (by assumption) (by kernel_rfl)) BR ?_) | refine LQ ?_ ?_ | refine zd2 ?_ ?_) | (show PE _ (.BinOp _ _ _ _) _;first | (show PE _ (.BinOp _ .Add _ _) (DL.LE _ (aD bT _ _));refine kF HM ?_ ?_) | (show PE _ (.BinOp _ .Mult _ _) (DL.LE _ (aD bZ _ _));refine kF Xj ?_ ?_) | (show PE _ (.BinOp _ .Mod _ _) (DL.LE _ (aD fB _ _));refine kF zu3 ?_ ?_) | (show PE _ (.BinOp _ .Sub _ _) (DL.LE _ (aD fI _ _));refine kF zc1 ?_ ?_) | (show PE _ (.BinOp _ .FloorDiv _ _) (DL.LE _ (aD iO _ _));refine kF zk7 ?_ ?_) | (show PE _ (.BinOp _ .Mult _ _) (DL.LE _ (aD tV _ _));refine kF ZA ?_ ?_) | (show PE _ (.BinOp _ .Pow _ _) (DL.LE _ (aD rY _ _));refine kF QU ?_ ?_)) | refine AZ ?_ | refine KW ?_ | refine u3 ?_ | (show PE _ (.BoolOp _ _ _) _;first | refine TF ?_ | refine Q6 ?_ ?_ | refine F7 ?_ ?_) | (show PE _ (.Compare _ _ _ _) _;first | (show PE _ (.Compare _ [.Eq] _ _) (DL.LE _ (aD bJ _ _));refine kE (Rq (Room.u100 (by assumption))) ?_ ?_) | (show PE _ (.Compare _ [.Lt] _ _) (DL.LE _ (aD eV _ _));refine kE vW ?_ ?_) | (show PE _ (.Compare _ [.In] _ _) (DL.LE _ (aD gK _ _));refine kE Ki ?_ ?_ (hm:=by with_unfolding_all rfl)) | (show PE _ (.Compare _ [.NotEq] _ _) (DL.LE _ (aD eO _ _));refine kE (Kj (Room.u100 (by assumption))) ?_ ?_) | (show PE _ (.Compare _ [.In] _ _) (DL.LE _ (aD iW _ _));refine kE (Rv (Room.u100 (by assumption))) ?_ ?_ (hm:=by with_unfolding_all rfl)) | refine MF Ea vW ?_ ?_ ?_ | (show PE _ (.Compare _ [.NotIn] _ _) (DL.LE _ (aD tU _ _));refine kE Cp ?_ ?_ (hm:=by with_unfolding_all rfl)) | (show PE _ (.Compare _ [.Gt] _ _) (DL.LE _ (aD kW _ _));refine kE Mz ?_ ?_)) | refine Xf ?_ | refine zp1 ?_ | (show PE _ (.ListComp _ _ _ _) _;first | refine JT rfl ?_ (fun _ _ _ _ _ _=>?_) (fun _ _ _ _ _ _=>?_) (fun _ _ _ _ _ _=>?_) | refine Yl rfl ?_ (fun _ _ _ _ _ _=>?_) (fun _ _ _ _ _ _=>?_) (fun _ _ _ _ _ _=>?_) (fun _ _ _ _ _ _=>?_) (fun _ _ _ _ _ _=>?_) (fun _ _ _ _ _ _=>?_) | refine IG rfl ?_ (fun _ _ _ _ _ _=>?_) (fun _ _ _ _ _ _=>?_) (fun _ _ _ _ _ _=>?_)) | refine KI ?_ ?_ ?_ | refine XB kC nK Rt ?_ | refine BV ?_ | exact WN | exact MY | exact j8) | (show PA _ _ _;first | refine nT ?_ ?_ | exact wS) | (show PSs _ _ _;first | refine Wz _ (by first | assumption | exact nM (by kernel_rfl)) rfl (Ow (by assumption)) Dj (jF (iT (by assumption) (Room.mono (by assumption) (by first | decide | omega))) (jF (iT (by assumption) (Room.mono (by assumption) (by first | decide | omega))) (jF (iT (by assumption) (Room.mono (by assumption) (by first | decide | omega))) (jF (iT (by assumption) (Room.mono (by assumption) (by first | decide | omega))) (jF (iT (by assumption) (Room.mono (by assumption) (by first | decide | omega))) (jF (iT (by assumption) (Room.mono (by assumption) (by first | decide | omega))) (jF (iT (by assumption) (Room.mono (by assumption) (by first | decide | omega))) (jF (iT (by assumption) (Room.mono (by assumption) (by first | decide | omega))) (jF (iT (by assumption) (Room.mono (by assumption) (by first | decide | omega))) Yg))))))))) ?_ ?_ | refine zq7 ?_ ?_ | exact zp7) | (show PS _ _ _;first | refine zd3 ?_ | refine Zk _ (by first | assumption | exact nM (by kernel_rfl)) ?_ | refine A2 ?_ ?_ ?_ | refine zr7 PassesOwn.never rfl ?_ ?_ ?_ | refine zg4 ?_ ?_ | refine DQ _ rfl (by first | assumption | exact nM (by kernel_rfl)) ?_ (fun _ _ _ _ _ _=>?_) (fun _ _ _ _ _ _=>?_) (fun _ _ _ _ _ _=>?_) | refine w5 ?_ | refine QI ?_ ?_ ?_ | refine ze7 _ _ rfl (by first | assumption | exact nM (by kernel_rfl)) ?_ | refine zm6 PassesOwn.never ?_ ?_ | refine Ps kC nK Rt ?_ ?_ | refine Ps kC nK VY ?_ ?_ | refine BI (Room.u100 (by assumption)) ?_ ?_ ?_ | refine zr6 (Room.u100 (by assumption)) ?_ ?_ ?_ | refine UJ (Room.u100 (by assumption)) ?_ ?_ ?_) | (show PT _ _ _;first | (show PT _ (.Compare _ _ _ _) _;first | refine KS rfl (Ow (by assumption)) Dj ?_ | (show PT _ (.Compare _ [.Eq] _ _) (DL.LT _ (aJ (aD bJ _ _)));refine eG (Rq (Room.u100 (by assumption))) ?_ ?_) | (show PT _ (.Compare _ [.NotEq] _ _) (DL.LT _ (aJ (aD eO _ _)));refine eG (Kj (Room.u100 (by assumption))) ?_ ?_) | (show PT _ (.Compare _ [.Is] _ _) (DL.LT _ (aJ (aD fL _ _)));refine eG f8 ?_ ?_) | (show PT _ (.Compare _ [.Lt] _ _) (DL.LT _ (aJ (aD eV _ _)));refine eG vW ?_ ?_) | (show PT _ (.Compare _ [.IsNot] _ _) (DL.LT _ (aJ (aD mL _ _)));refine eG zh6 ?_ ?_) | (show PT _ (.Compare _ [.In] _ _) (DL.LT _ (aJ (aD gK _ _)));refine eG Ki ?_ ?_ (hm:=by with_unfolding_all rfl)) | (show PT _ (.Compare _ [.In] _ _) (DL.LT _ (aJ (aD iW _ _)));refine eG (Rv (Room.u100 (by assumption))) ?_ ?_ (hm:=by with_unfolding_all rfl)) | (show PT _ (.Compare _ [.Gt] _ _) (DL.LT _ (aJ (aD kW _ _)));refine eG Mz ?_ ?_) | (show PT _ (.Compare _ [.IsNot] _ _) (DL.LT _ (aJ (aD nQ _ _)));refine eG M0 ?_ ?_) | (show PT _ (.Compare _ [.NotIn] _ _) (DL.LT _ (aJ (aD qG _ _)));refine eG (ZC (Room.u100 (by assumption))) ?_ ?_ (hm:=by with_unfolding_all rfl)) | (show PT _ (.Compare _ [.In] _ _) (DL.LT _ (aJ (aD tW _ _)));refine eG (C5 (Room.u100 (by assumption))) ?_ ?_ (hm:=by with_unfolding_all rfl)) | (show PT _ (.Compare _ [.NotIn] _ _) (DL.LT _ (aJ (aD oZ _ _)));refine eG (GC (Room.u100 (by assumption))) ?_ ?_ (hm:=by with_unfolding_all rfl)) | (show PT _ (.Compare _ [.LtE] _ _) (DL.LT _ (aJ (aD lP _ _)));refine eG Ea ?_ ?_) | (show PT _ (.Compare _ [.NotIn] _ _) (DL.LT _ (aJ (aD pF _ _)));refine eG (JC (Room.u100 (by assumption))) ?_ ?_ (hm:=by with_unfolding_all rfl)) | (show PT _ (.Compare _ [.Eq] _ _) (DL.LT _ (aJ (aD wH _ _)));refine eG (QG (Room.u100 (by assumption))) ?_ ?_) | (show PT _ (.Compare _ [.In] _ _) (DL.LT _ (aJ (aD lO _ _)));refine eG NA ?_ ?_ (hm:=by with_unfolding_all rfl)) | (show PT _ (.Compare _ [.NotEq] _ _) (DL.LT _ (aJ (aD yP _ _)));refine eG (RX (Room.u100 (by assumption))) ?_ ?_)) | refine V1 ?_ | refine Zd ?_ | refine PW.pt (On ?_ ?_) | refine PW.pt (VF ?_ ?_)) | (show PG _ _ _;first | exact OL _ (by first | assumption | exact nM (by kernel_rfl)) | refine T5 rfl ?_) | (show PGs _ _ _;first | refine VT ?_ ?_ | exact zi6) | refine Uj ?_ | (show PI _ _ (.Call (.Name "range" _) _ _ _) _;refine U3 rfl (En.z (by assumption) (by kernel_rfl)) ?_) | (show PI _ _ (.Call (.Name "zip" _) _ _ _) _;first | refine O2 rfl (En.z (by assumption) (by kernel_rfl)) ?_ ?_ | refine YC rfl (En.z (by assumption) (by kernel_rfl)) ?_ ?_ | refine FB rfl (En.z (by assumption) (by kernel_rfl)) ?_ ?_) | (show PI _ _ (.Call (.Name "reversed" _) _ _ _) _;refine BY rfl (En.z (by assumption) (by kernel_rfl)) ?_) | (show PO _ _ _;first | refine zf5 ?_ | exact IE) | exact Vs | refine E4 ?_ | (show PW _ _ _;first | (show PW _ (.BoolOp _ _ _) _;first | refine X8 ?_ | refine On ?_ ?_ | refine G6 ?_)) | refine AU ?_ ?_ ?_ | exact HJ))
theorem v9:'>' "_law_feed" W5 398 Mo 1 xM:=aZ E zk6 'ß'
theorem lA:'>' "_law_draw" CC 405 Sq 1 bU:=aZ E Zi 'ß'
theorem zu5:'>' "_law_things" YO 410 Gm 2 xT:=aZ E OA '嬔'
theorem Qf:'>' "_law_lowest" v6 460 Mg 1 rZ:=aZ E LZ 'ß'
theorem Xz:'>' "_law_time" FL 474 Bm 2 nF:=aZ E Yx (by have:=lA E;have:=Qf E;show '^')
theorem Z1:'>' "_law_telling" zj8 481 Di 3 vP:=aZ E QO (by have:=Xz E;show '^')
theorem pQ:'>' "_law_sides" Wk 438 Dl 1 jN:=aZ E zd5 'ß'
theorem Q2:'>' "_law_clock" za2 488 Hz 2 vR:=aZ E zn7 '嬕'
theorem Dy:'>' "_law_two" LB 514 Hj 2 lQ:=aZ E Vu '嬔'
theorem Nv:'>' "_law_kinds" TL 448 Fb 1 qK:=aZ E XC 'ß'
theorem tE:'>' "_law_words" BG 417 Iw 1 lX:=aZ E b9 'ß'
theorem UG:'>' "_law_may" O4 507 Sl 2 xY:=aZ E IW (by have:=tE E;have:=lA E;show '^')
theorem NH:'>' "_law_order" ZV 495 Su 1 tR:=aZ E SN 'ß'
theorem zt7:'>' "_law_back" QR 424 Bv 2 uV:=aZ E M6 (by have:=tE E;show '^')
theorem Ft:∀ j,'>' "_law_sign" IN 431 Na (j+3) (mR j)
 | 0=>ZT E ('喏')
 | j+1=>aZ E (k:=j+3) (zt3 j) (by have:=Ft j;have:=zt7 E;show '^')
theorem DF:'>' "_law_all_signs" zh7 443 Hw 7 As:=aZ E zw5 (by have:=pQ E;have:=Ft E 3;show '^')
theorem Oj:'>' "_law_word" IP 502 Jp 8 tX:=aZ E zi1 (by have:=Nv E;have:=NH E;have:=pQ E;have:=DF E;have:=tE E;show '^')
theorem Gs:'>' "_law_all_ends" ze9 453 Hm 2 pK:=aZ E ZI '嬕'
theorem Mv:'>' "_law_added" Y6 467 Rc 2 mT:=aZ E FG (by have:=Qf E;show '^')
theorem zf8:'>' "_law_saying" Vw 524 Bb 9 zF:=aZ E x4 (by have:=lA E;have:=Dy E;have:=Nv E;have:=UG E;have:=Oj E;have:=tE E;have:=Gs E;have:=Mv E;show '^')
theorem Ec:'>' "is_whole" NJ 21 Hr 1 rX:=aZ E g8 'ß'
theorem Ak:'>' "is_place" UO 297 Fx 2 nO:=aZ E DH (by have:=Ec E;show '^')
theorem Xh:'>' "told_row" J0 330 Lm 3 pW:=aZ E Uq (by have:=Ak E;show '^')
theorem Lu:'>' "names_of" P7 214 Ts 1 tT:=aZ E zb9 'ß'
theorem Yq:'>' "are_two_names" zh1 228 Mx 2 yF:=aZ E RM '嬖'
theorem rR:'>' "words_of" Ua 86 Hc 1 kO:=aZ E ZB 'ß'
theorem xU:'>' "kinds_of" g9 221 He 1 mF:=aZ E ZK 'ß'
theorem XA:'>' "any_row" D7 337 Pk 3 qL:=aZ E Vp (by have:=Yq E;have:=rR E;have:=xU E;show '^')
theorem M4:'>' "long_row" I0 344 Dk 1 qM:=aZ E k8 'ß'
theorem pE:'>' "is_may_row" zm4 276 Sr 1 mM:=aZ E OX 'ß'
theorem oH:'>' "may_row_at" X6 304 Jj 3 iL:=aZ E CM '娧'
theorem OW:'>' "turned" SY 93 Cy 1 yB:=aZ E GV 'ß'
theorem zm5:'>' "turned_may" Ur 98 Ng 2 yZ:=aZ E R0 (by have:=OW E;show '^')
theorem NG:'>' "turned_row" F9 351 Ka 4 pI:=aZ E S9 (by have:=oH E;have:=zm5 E;show '^')
theorem qP:'>' "ways_by" UK 105 Fg 1 iA:=aZ E x9 'ß'
theorem Ug:'>' "forced_way" AH 138 Lz 1 uC:=aZ E za0 'ß'
theorem G0:'>' "forced_by" za8 145 Bq 2 sH:=aZ E CB (by have:=Ug E;show '^')
theorem Uc:'>' "forced_ways" J5 150 Rx 3 xS:=aZ E DM (by have:=qP E;have:=G0 E;show '^')
theorem NK:'>' "go_with" zv8 157 Il 1 pP:=aZ E W7 'ß'
end
mutual section G
theorem Xi:'>' "behind_words" GU 162 Ds 4 Af:=aZ E QP (by have:=Uc E;have:=rR E;have:=NK E;show '埮')
theorem UZ:'化' "words" "Behinds.words" zn2 183 Oh 5 uK:=xW G4 (by have:=Xi E;show '^')
theorem PR:'化' "gathered" "Behinds.gathered" zn6 195 Dv 6 xN:=xW zs9 (by have:=rR E;have:=UZ E;show '^')
theorem YQ:'化' "__init__" "Behinds.__init__" ze8 176 Ml 1 vA:=xW AE 'ß'
theorem LV:'>' "behind_mays" P5 209 Dq 7 zJ:=aZ E RV (by have:=PR E;have:=YQ E;show '^')
theorem D4:'>' "behind_row" NU 358 Gr 8 rJ:=aZ E R5 (by have:=oH E;have:=xU E;have:=LV E;show '^')
theorem GL:'>' "both_row" zv1 363 Ia 4 sB:=aZ E B5 (by have:=oH E;show '^')
theorem K0:'>' "ends_of" U6 233 Tw 1 vG:=aZ E zu0 'ß'
theorem WE:'>' "is_end" VZ 240 Og 2 rV:=aZ E Yh (by have:=Ec E;have:=K0 E;show '^')
theorem Ig:'>' "lie_across" Vg 318 Iq 3 qU:=aZ E J7 (by have:=WE E;show '^')
theorem Wa:'>' "how_ends" zs0 112 Fe 2 sP:=aZ E Ue (by show '埮')
theorem Gn:'>' "ways_across" J8 323 Kw 3 sS:=aZ E zn4 (by have:=xU E;have:=Wa E;show '^')
theorem zo2:'>' "ends_row" V3 370 Lc 4 pH:=aZ E XW (by have:=oH E;show '抒')
theorem Ky:'>' "gap_row_at" O1 311 Kt 3 mU:=aZ E BP '娧'
theorem h9:'>' "strike_row" KQ 375 Bf 4 pC:=aZ E zm2 (by have:=oH E;have:=Ky E;show '抒')
theorem Yp:'>' "common" za7 28 Gj 1 nR:=aZ E p7 'ß'
theorem Pa:'>' "fraction" LW 35 Bc 2 nZ:=aZ E WX (by have:=Yp E;show '^')
theorem w6:'>' "plus" DR 42 Tk 3 vN:=aZ E M7 '嬗'
theorem zj3:'>' "add_row" V2 382 Pt 4 pZ:=aZ E Yu (by have:=Ky E;have:=w6 E;show '^')
theorem FM:'>' "row_of" Z9 391 Je 9 xO:=aZ E DU (by have:=Xh E;have:=XA E;have:=M4 E;have:=NG E;have:=D4 E;have:=GL E;have:=zo2 E;have:=h9 E;have:=zj3 E;show '^')
theorem EV:'>' "_law_some_step" H0 519 Gq 3 uE:=aZ E KK (by have:=Gs E;have:=lA E;have:=Dy E;show '^')
theorem zf6:'>' "_law_had" GN 531 Tf 9 xD:=aZ E XY (by have:=Oj E;have:=Mv E;show '^')
theorem zn8:'>' "is_fault" AL 283 Hn 2 wV:=aZ E EJ (by have:=pE E;show '^')
theorem ST:'>' "is_point" Ze 119 Dd 1 lF:=aZ E MX 'ß'
theorem Dw:'>' "is_below" Wc 56 My 1 lV:=aZ E Um 'ß'
theorem WW:'>' "way_of" ED 126 Mw 2 rF:=aZ E U9 (by have:=Dw E;show '^')
theorem zv6:'>' "word_of" Vc 131 Kb 3 yS:=aZ E Z7 (by have:=ST E;have:=WW E;have:=rR E;show '埮')
theorem Fw:'>' "times_of" LY 247 Ou 2 oI:=aZ E XN '嬖'
theorem HF:'>' "word_between" EO 261 Eu 4 pB:=aZ E F0 (by have:=zv6 E;have:=Fw E;show '^')
theorem zu7:'>' "less" Wv 49 Ma 3 rE:=aZ E Vj '嬗'
theorem HK:'>' "time_of" EF 254 Cm 3 sM:=aZ E C8 (by have:=Fw E;show '^')
theorem P2:'>' "is_gap_met" zd4 268 Bl 4 uY:=aZ E EH (by have:=zu7 E;have:=HK E;have:=Dw E;show '^')
theorem HN:'>' "has_row" ZD 290 Ci 5 uX:=aZ E za1 (by have:=pE E;have:=HF E;have:=P2 E;show '^')
theorem F3:'>' "law" Z4 538 Hs 10 nG:=aZ E Yj (by have:=v9 E;have:=zu5 E;have:=Z1 E;have:=Q2 E;have:=zf8 E;have:=lA E;have:=FM E;have:=EV E;have:=zf6 E;have:=zn8 E;have:=HN E;show '^')
section E
def fin['Ĵ']{mg:'b'}{fa:Addr}['Ď'](X:'2'.In h)(G:'兆')(hfa:'峖') :
  ∃ fd:FuncData,(∀ (s:Shared) (v:Value),'乹' ⟨[v],[]⟩ [("_law_script",v)])/\∀ base:Heap,'2'.In base->'Ԁ'->FnOk '劍' '捈' (LSp '2' 1 nG) :=
 zi9 (En.d (kk:=kk) (P:=P) (base:=h) '愍' ('卵')) hfa ('僜') fun base=>F3 '愍'
def walk{l:PySem.W.OpenLaw}['圓']{K:'侭'}(hn:l.most=some 63)(hdf:'咻')
  (hY:'姯')
  (F:∀ (w:World) (mg:'b') (fa:Addr) (h:Heap),'伷' h->'兆'->'呜' ->
   ∃ fd:FuncData,(∀ (s:Shared) (u:Value),'乹' ⟨[u],[]⟩ [("_law_script",u)])/\∀ base:Heap,'伷' base->'Ԁ'->'戍' cY 10 fa fd ["_law_script"] (LSp (K w.params) 1 nG)) :
  '声' :=
 L2.walk_of (n:=63) (k:=10) (x:='佟') (CX:=fun _=>cY) (sp:=fun w=>'嵽') hn '&' hdf ⟨rfl,rfl,'U','U'⟩ hY F (fun _ _ a ns hl _ hS=>za6 hS ⟨ns,rfl,hl,'ѳ'⟩) fun 'ƽ' z=>z
section E.K22
open PySem PySem.W PyProof.Rows
set_option maxHeartbeats 0 in
theorem K22.wsd:PySem.Challenge.rw_whens_k22_whole_rows_that_come_are_so.wellSaid=true:=by
 unfold OpenLaw.wellSaid OpenRow.wellSaid OpenRow.partSaid looksOpen
 repeat' (with_reducible refine PySem.W.look_both ?_ ?_)
 all_goals (show 'ȷ')
end
end
set_option hygiene true
set_option maxRecDepth 100000 in
set_option maxHeartbeats 0 in
theorem PySem.Challenge.cw_whens_k22_whole_rows_that_come_are_so_holds : PySem.Challenge.rw_whens_k22_whole_rows_that_come_are_so.Holds := by
 w_on;refine PySem.W.holds_law K22.wsd fun said=>?_;refine H22.head (H:=kHook K22.kk [3,20,21,27,28,34,35,41,42,48,49,55,56,57,58,59,60,61,62,63,64,65,66,67,68,69,70,71,72,73,74,75,76,77,78,79,85,86,92,93,97,98,104,105,111,112,118,119,125,126,130,131,137,138,144,145,149,150,156,157,161,162,175,176,182,183,194,195,196,197,198,199,200,208,209,213,214,220,221,227,228,232,233,239,240,246,247,253,254,260,261,267,268,269,275,276,282,283,289,290,296,297,303,304,310,311,317,318,322,323,329,330,336,337,343,344,350,351,357,358,362,363,369,370,374,375,381,382,383,384,390,391,397,398,404,405,409,410,416,417,423,424,430,431,437,438,442,443,447,448,452,453,459,460,466,467,473,474,480,481,487,488,494,495,501,502,506,507,513,514,518,519,523,524,530,531,537,538] (fun _=>by kernel_rfl)) (fun w os=>by kernel_rfl) (by assumption) (by rfl) (by rfl) (by rfl) ?hw ?hc;(case hw=>w_witness2)
 k_fill
 refine K22.walk (l:=PySem.Challenge.rw_whens_k22_whole_rows_that_come_are_so) rfl rfl (fun w h Y=>PySem.W.kIn_of Y) ?F
 case F =>
  exact fun w mg fa h KX G hmg=>K22.fin KX G hmg
#print axioms PySem.Challenge.cw_whens_k22_whole_rows_that_come_are_so_holds
