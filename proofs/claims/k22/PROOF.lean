import PyProof.Rows.All
import Wide.All
import OpenK.AllK
import Wide.FinOn
import Lean
import PyProof.EqAt
import PyProof.EqKinds
import PyProof.TupleCall
import PyProof.StationsW
import PyProof.InstStore
import PyProof.ExcArgsOwn
import PyProof.ExcAttrAll.ValueError
import PyProof.ListMulRoad
import KE.KRevIter
import PyProof.ZipIter
import PyProof.TupleIter
import PyProof.Rows.SortWalk
import PyProof.Rows.SortStr
import PyProof.Rows.StrWeight2
import PyProof.ConsumeWalk
import PyProof.SliceStr2
import PyProof.ListRange
import PyProof.TupleOfSeq
import PyProof.P3In
import PyProof.AttrMissHeap
import KE.KDictOf
import PyProof.StrBlockI
import PyProof.WalksEnum
import PyProof.EnumMake
import PyProof.DictWalks
import PyProof.SetRoads
import PyProof.SetNew
import PyProof.Rows.SetFrom
import PyProof.CollectWalk
import PyProof.StrWalks
import PyProof.FString5
import PyProof.Rows.SortShell
import PyProof.SeqI3
import PyProof.SliceList
import KE.KSortTup
import PyProof.FactsAll.dict_values
import PyProof.DictItemsLoops
import PyProof.StrBlock
import PyProof.StrBlock2
import PyProof.StrBlockG
import PyProof.StrBlockL
import PyProof.MeetsStr3
import PyProof.Rows.StrNews2
import KE.KIntText
import PyProof.FString
import PyProof.AutoListH
import PyProof.ExcInit
import PyProof.ExcClass3
import PyProof.ExcBaseAll.ValueError
import PyProof.NsDelKeeps
import PyProof.PassesOwn
import Open.Tops
import PyProof.DictDisplay
import PyProof.Rows.TupDisplay
import PySem.Challenge.RW_whens_k22_whole_rows_that_come_are_so
set_option hygiene false
set_option compiler.extract_closed false
open Lean in
def AI(c:Char):Nat:=if c.toNat<127 then c.toNat-33 else if c.toNat<19968 then c.toNat-67 else c.toNat-18707
open Lean in
def AE(T:Array Syntax)(c:Char):Syntax:=let n:=AI c;let t:=T[2*(n/64)]!.getArgs[1]!.getArgs[2*(n%64)]?.getD .missing;if t.isOfKind ``Parser.Term.inaccessible then t[1] else t
open Lean in
def AA(T:Array Syntax)(s:Syntax):Option (Array Syntax):=do
 let t:=AE T (<-s.isCharLit?)
 if t.isOfKind ``Parser.Term.app&&t[0].isOfKind ``Parser.Term.hole then some t[1].getArgs else none
open Lean in
def AS(T:Array Syntax):Nat->Syntax->Syntax
|n+1,.node i k a=>match (Syntax.node i k a).isCharLit? with
 |some c=>AS T n (AE T c)
 |none=>Id.run do
  let a:=a.flatMap λx=>match AA T x with
   |some y=>y
   |none=>
    if x.isOfKind ``Parser.Term.instBinder then match x[2].isCharLit? with
     |some c=>(AE T c)[1].getArgs
     |none=>#[x]
    else if x.isOfKind ``Parser.Tactic.show then match x[1].isCharLit? with
     |some c=>(AE T c)[1][0][0].getArgs
     |none=>#[x]
    else #[x]
  if k==nullKind&&a.any (λx=>(AA T x).isSome||x.isOfKind ``Parser.Term.instBinder&&x[2].isCharLit?.isSome||x.isOfKind ``Parser.Tactic.show&&x[1].isCharLit?.isSome) then return AS T n (.node i k a)
  if k==``Parser.Term.app then match a[0]!.isCharLit? with
   |some c=>
    let t:=AE T c
    if t.isOfKind ``Parser.Term.app then return AS T n (.node i k #[t[0],mkNullNode (t[1].getArgs++a[1]!.getArgs)])
   |none=>pure ()
  .node i k (a.map (AS T n))
|_,s=>s.setInfo .none
open Lean in
def AC(s:Syntax):Syntax:=
 if s.isOfKind ``Parser.Command.declaration&&s[0][4].getNumArgs==0&&s[1][1][0].getId != `lw&&(s[1].isOfKind ``Parser.Command.definition||s[1].isOfKind ``Parser.Command.abbrev)then s.setArg 0 (s[0].setArg 4 (mkNullNode #[mkNode ``Parser.Command.noncomputable #[mkAtom "noncomputable"]]))
 else if s.isOfKind ``Parser.Command.section&&s[2].getNumArgs==1&&s[2][0].getId.getRoot==`E then mkNode ``Parser.Command.end #[mkAtom "end",mkNullNode (if s[2][0].getId==`E then #[]else #[mkIdent (s[2][0].getId.replacePrefix `E .anonymous),mkNullNode])]
 else s
open Lean in
def AG(s:Syntax):Array Syntax:=
 if s.isOfKind ``Parser.Command.mutual&&s[1][0].isOfKind ``Parser.Command.section&&s[1][0][2][0].getId==`G then s[1].getArgs.extract 1 s[1].getNumArgs else #[s]
local macro_rules
|`(command|mutual $d* end)=>match d[0]? with
 |some t=>match t.raw.find? (λs=>s.isOfKind `«term#[_,]») with
  |some s=>if t.raw[1].isOfKind ``Lean.Parser.Command.example then pure (Lean.mkNullNode (d[1:].toArray.flatMap λc=>(AG c).map λc=>AC (AS s[1].getArgs 9999 c)))else Lean.Macro.throwUnsupported
  |none=>Lean.Macro.throwUnsupported
 |none=>Lean.Macro.throwUnsupported
theorem zau0(h:True:=by rfl):True:=h
theorem zau1(h:True:=by first | exact .inl rfl | exact .inr rfl | assumption):True:=h
theorem zau2(h:True:=by decide):True:=h
theorem zau3(h:True:=by first | exact DW _ (by decide) (by decide) | rfl):True:=h
theorem zau4(h:True:=by intro _;rfl):True:=h
theorem zau5(h:True:=by first | exact Or.inl rfl | exact Or.inr (Or.inl rfl) | exact Or.inr (Or.inr rfl)):True:=h
theorem zau6(h:True:=by first | assumption | (refine PyData.hasDict_of_canLay _ ?_;assumption)):True:=h
theorem zau7(h:True:=by exact Ip _):True:=h
theorem zau8(h:True:=by exact fun _ _=>rfl):True:=h
theorem zau9(h:True:=by first | exact Or.inl rfl | exact Or.inr rfl):True:=h
theorem zau10(h:True:=by first | exact .inl rfl | exact .inr rfl):True:=h
theorem zau11(h:True:=by first | exact fun _ _ _ q=>q | exact Ext.fz ‹_› | (intro a o u q;first | (rw[bF (by rintro rfl;simp_all)];exact q) | (unfold upd;split<;>simp_all))):True:=h
theorem zau12(h:True:=by intro _ _ _;rfl):True:=h
theorem zau13(h:True:=by exact List.cons_ne_nil _ _):True:=h
theorem zau14(h:True:=by exact⟨by rfl,by rfl,by rfl,by rfl⟩):True:=h
theorem zau15(h:True:=by with_unfolding_all rfl):True:=h
theorem zau16(h:True:=by exact di (by kernel_rfl) rfl (by kernel_rfl) (by kernel_rfl)):True:=h
theorem zau17(h:True:=by first | exact fun _ _ _ _ _ _=>rO (by intros;rfl) | exact fun _ _ _ _ _ _=>Ap (by intros;rfl) | exact fun _ _ _ _ _ _=>Aq (by intros;rfl) | exact fun _ _ _ _ _ _=>wT (by intros;rfl) | exact fun _ _ _ _ _ _=>zN (by intros;rfl) | exact fun _ _ _ _ _ _=>vH (by intros;rfl) | exact fun _ _ _ _ _ _=>Nt (by intros;rfl)):True:=h
theorem zau18(h:True:=by exact⟨rfl,rfl,rfl,by decide +kernel,rfl,by decide +kernel,by decide +kernel⟩):True:=h
theorem zau19(h:True:=by exact rfl):True:=h
theorem zau20(h:True:=by kernel_rfl):True:=h
theorem zau21(h:True:=by first | exact fun _ _ _ _ _ _=>rO (by intros;rfl) | exact fun _ _ _ _ _ _=>Ap (by intros;rfl) | exact fun _ _ _ _ _ _=>Aq (by intros;rfl) | exact fun _ _ _ _ _ _=>wT (by intros;rfl) | exact fun _ _ _ _ _ _=>zN (by intros;rfl) | exact fun _ _ _ _ _ _=>vH (by intros;rfl)):True:=h
theorem zau22(h:True:=by first | decide | omega):True:=h
mutual
example:=#[#[_ _ _ _,
∀(P:Params),_,
.node,
List Str,
('丐' [.In] _ _),
.none,
0,
('丐' [.NotIn] _ _),
PT _ '%',
('-'),
('ğ'),
List PyData,
by omega,
('丐' [.NotEq] _ _),
('丐' [.Eq] _ _),
PT _ '(',
_ ds m R,
tq [],
List V,
'享' s,
'Ӌ' 0,
PyData.keyHash P,
Addr->Prop,
(kk w.params),
⟨_,rfl⟩,
.tuple,
List Value,
List (Addr×Obj),
(aA 0),
('丐' [.IsNot] _ _),
('丐' [.Lt] _ _),
('丐' [.Gt] _ _),
('乴' _ .Mult _ _),
('Ϟ' 'ƶ'),
('乨' '!'),
PE _ 'A',
PE _ '%',
PT _ '/',
_ _ 'C' _,
_ _ 'B' _,
PT _ '.',
(EN R),
Value->'ː',
List ('ɏ'),
(aA 1),
wpAny _ _,
∀(I:'4'),_,
Cal P w '8' mg base,
List Int,
('儳'),
LE X.K,
(model '了'),
('f'),
.cons,
List Expr,
Int×Int,
some o,
_ ?_ ?_,
_ d m Q,
0,
(aA 2),
sz '+',
wpAny 'R' A,
(aA 3)],
#[.bool,
_ pins s σ H,
.(by show 'ѭ'),
_ 'ε' '!',
So 'Z',
.(by simp),
_ Q E s,
by rintro rfl,
UW _ '傒' '攋' ('丅' (jG (iK (by assumption) (Room.mono (by assumption) (by first | decide | omega))) (jG (iK (by assumption) (Room.mono (by assumption) (by first | decide | omega))) (jG (iK (by assumption) (Room.mono (by assumption) (by first | decide | omega))) (jG (iK (by assumption) (Room.mono (by assumption) (by first | decide | omega))) (jG (iK (by assumption) (Room.mono (by assumption) (by first | decide | omega))) (jG (iK (by assumption) (Room.mono (by assumption) (by first | decide | omega))) (jG (iK (by assumption) (Room.mono (by assumption) (by first | decide | omega))) (jG (iK (by assumption) (Room.mono (by assumption) (by first | decide | omega))) Z7))))))))) 'Z',
JS 'ʚ' '刉' '刉',
'咮' vB (Or.inr (Or.inr (Or.inr (Or.inl rfl)))) ?_,
W0 _ rfl '傒' ?_ '刉',
'咮' zc4 (Or.inr (Or.inr (Or.inl rfl))) ?_,
'咮' zq8 (Or.inr (Or.inl rfl)) ?_,
'咮' Hw (Or.inl rfl) ?_,
SL rfl 'Ε' '哫',
QU 'ʚ' '刉',
t7 'ʚ' '刉',
eF (zp2 'ʾ') 'Ҷ',
eF (zr8 'ʾ') 'Ҷ',
eF (zu7 'ʾ') 'Ҷ',
kO (Eu 'ʾ') 'Ҷ',
eF (Eu 'ʾ') 'Ҷ',
eF (A4 'ʾ') 'Ҷ',
J5 'ʾ' rfl (UX 'ʟ') Yo 'Z',
Su _ _ rfl '傒' ?_,
E7 kF k9 (ze1 'ʟ') '哭',
CG _ '傒' ?_,
pS zp3 'Ε' Mq ?_,
qC zu2 'Ε' Lj ?_,
pS O6 'Ε' zk6 ?_,
VX _ '傒',
pS Zw 'Ε' Mq ?_,
qC k8 'Ε' vB ?_,
qC Vm 'Ε' Hw ?_,
pS SM 'Ε' PM ?_,
qC Ub 'Ε' Lj ?_,
UY rfl 'Ε' ?_,
zu3 '哫',
P7 '哫',
GT '哫',
Fd kF mU Yc '哭' 'Z',
0,
Fd kF mU OA '哭' 'Z',
SJ 'Ε' ?_,
WU 'Ε' ?_,
kO Pd 'Ҷ',
kO Qk 'Ҷ',
eF Pd 'Ҷ',
eF Uq 'Ҷ',
eF (zi4 'ʾ') 'Z',
kO (Fa 'ʾ') 'Z',
kO (Hq 'ʾ') 'Z',
eF (Fa 'ʾ') 'Z',
eF (Hq 'ʾ') 'Z',
eF (S8 'ʾ') 'Z',
zw6 'ʾ' 'Ϲ',
MG 'ʾ' 'Ϲ',
Tx 'ʾ' 'Ϲ',
qcc '哭' ?_,
y8 'ʾ' 'Z',
KP 'ʾ' 'Z',
D6 'ʾ' 'Z',
('ɖ' ('ɓ' '俜' _) '!')],
#[uH rfl (UB 'ʟ') zs3 ?_,
uH rfl (zs7 'ʟ') V9 ?_,
qnt '攋' ?_,
('ɖ' ('ɓ' 'Ω' _) '!'),
uH rfl (OZ 'ʟ') i9 ?_,
S6 '攍' ?_,
('ɖ' ('ɓ' '墡' _) '!'),
WF rfl (RN 'ʟ') zb3,
('ɖ' ('ɓ' 'ʓ' _) '!'),
Xs PassesOwn.never rfl 'Ϲ',
('ɖ' ('ɓ' '倄' _) '!'),
SE '攍',
('ɖ' ('ɓ' 'ћ' _) '!'),
('ɖ' ('ɓ' 'Р' _) '!'),
('ɖ' ('ɓ' "len" _) '!'),
('ɖ' ('ɓ' 'џ' _) '!'),
('ɖ' ('ɓ' "abs" _) '!'),
('ɖ' ('ɓ' 'ҩ' _) '!'),
('˱' (aJ (aD bK _ _))),
('˱' (aJ (aD eJ _ _))),
('˱' (aJ (aD fY _ _))),
('˱' (aJ (aD fG _ _))),
('˱' (aJ (aD lR _ _))),
('˱' (aJ (aD gR _ _))),
('˱' (aJ (aD iP _ _))),
('˱' (aJ (aD lG _ _))),
('˱' (aJ (aD nA _ _))),
('˱' (aJ (aD pP _ _))),
('˱' (aJ (aD oV _ _))),
('˱' (aJ (aD qB _ _))),
('˱' (aJ (aD lV _ _))),
('˱' (aJ (aD sS _ _))),
('˱' (aJ (aD xT _ _))),
('˱' (aJ (aD lX _ _))),
('˱' (aJ (aD xK _ _))),
('乴' _ .FloorDiv _ _),
PB PassesOwn.never 'Z',
('丐' [.LtE] _ _),
('丐' [.Is] _ _),
('κ' (aD bT _ _)),
('κ' (aD bY _ _)),
('κ' (aD eW _ _)),
('κ' (aD fF _ _)),
('κ' (aD jE _ _)),
('κ' (aD qI _ _)),
('κ' (aD tV _ _)),
('κ' (aD bK _ _)),
('κ' (aD fG _ _)),
('κ' (aD gR _ _)),
('κ' (aD eJ _ _)),
('κ' (aD iP _ _)),
('κ' (aD tN _ _)),
('κ' (aD lG _ _)),
('乴' _ .Add _ _),
('乴' _ .Mod _ _),
('乴' _ .Sub _ _),
('乴' _ .Pow _ _),
('可' 'ƶ'),
('Д' '!'),
Ov kF mU zc5 'Z',
('冟' '!'),
D3 Az wW 'Ϲ',
Ov kF mU Mz 'Z',
('乴' 'ƶ')],
#[PW.pt ('e'),
PW.pt (SW 'Z'),
('ɖ' 'ƶ'),
p9 kF mU Mz ?_,
kX zv2 'Z',
kX zk5 'Z',
zj3 'Ϲ',
eF zw7 'Z',
Array Value,
('ɓ' _ _),
J9 'Ϲ',
j4 'Ϲ',
K0 'Ϲ',
kX HV 'Z',
kX Tz 'Z',
kX B6 'Z',
kX CS 'Z',
kX Vl 'Z',
kO wW 'Z',
kO Gz 'Z',
JF 'Ϲ',
SN 'Ϲ',
eF VY 'Z',
eF wW 'Z',
eF b7 'Z',
eF Gz 'Z',
eF Az 'Z',
V5 'Ϲ',
by decide,
BS 'ʚ',
KB 'Z',
Zx 'Z',
Z1 'Z',
NK 'Z',
JQ 'Z',
j9 'Z',
IZ 'Z',
XB 'Z',
nD 'Z',
LN 'Z',
LD 'Z',
MR 'Z',
zd9 ?_,
MA ?_,
WA ?_,
UR ?_,
Sr ?_,
HG ?_,
Z9 ?_,
OB ?_,
Vz ?_,
EY ?_,
O5 ?_,
IM ?_,
VD ?_,
FD ?_,
YB ?_,
BZ ?_,
CB ?_,
.(by intro 'd';repeat' show 'Ŀ'),
.(by first | show 'ŀ' | show 'ť' | show 'Ś' | show 'Ō' | show 'ł' | show 'ş' | show 'Ţ' | show 'Ȣ' | show 'ƌ' | show 'Ŕ' | show 'ƍ' | show 'Ŧ' | exact EC | show 'ȩ' | show 'Ő' | show 'ȭ' | exact PP),
by (show PE '!';show 'Ł'),
.(by first | show 'Ƹ' | show 'Ř' | show 'œ' | show 'Ŏ' | show 'ņ' | show 'ŉ' | show 'Ǣ' | show 'ǣ' | show 'Ǥ' | show 'ŕ' | show 'ň' | show 'ǰ' | show 'Ǳ' | show 'Ŗ' | show 'ǵ' | show 'Ƕ' | show 'Ƿ' | exact ZV | exact DQ | exact Wg),
by (show PT '!';show 'Ń')],
#[.(by first | show 'ń' | show 'Ȝ' | show 'ȝ' | show 'Ȟ' | show 'ȟ'),
by (show PT 'H';show 'Ņ'),
.(by first | show 'Ȋ' | show 'ź' | show 'Ż' | show 'ż' | show 'Ž' | show 'ž' | show 'ſ' | show 'ƀ' | show 'Ɓ' | show 'Ƃ' | show 'ƃ' | show 'Ƅ' | show 'ƅ' | show 'Ɔ' | show 'Ƈ' | show 'ƈ' | show 'Ɖ' | show 'Ɗ'),
by (show PE 'ƪ';show 'Ň'),
.(by first | show 'ǃ' | show 'Ŝ' | show 'ŝ' | show 'ǈ' | show 'ő' | show 'Ǝ' | show 'Ə' | show 'Ɛ' | show 'ǐ' | show 'Ş' | show 'Ǔ' | show 'ǔ' | show 'Ǖ' | show 'ǖ' | show 'ȱ' | show 'Ǘ' | show 'Ƒ' | show 'Ǚ' | show 'ǚ'),
by (show PE 'H';show 'Ŋ'),
by (show PE 'Ƴ';show 'ŋ'),
.(by first | show 'ų' | show 'Ŵ' | show 'ŵ' | show 'Ŷ' | show 'ŷ' | show 'ǭ' | show 'Ÿ' | show 'Ź'),
.(by first | show 'Ŭ' | show 'ŭ' | show 'Ů' | show 'ů' | show 'Ű' | show 'ű' | show 'Ų'),
by (show PS '!';show 'ō'),
.(by first | show 'ǻ' | show 'Ǽ' | show 'ǽ' | show 'Ǿ' | show 'ǿ' | show 'Ȁ' | show 'ȁ' | show 'Ȃ' | show 'ȃ' | show 'Ȅ' | show 'ȅ' | show 'Ȇ' | show 'ȇ' | show 'Ȉ' | show 'ȉ'),
by (show PE 'Ʃ';show 'ŏ'),
.(by first | show 'ƹ' | show 'ƺ' | show 'ƻ' | show 'Ƽ' | show 'ƽ' | show 'ƾ' | show 'ƿ' | show 'ǀ' | show 'ǁ' | show 'ǂ'),
by (show PW '!';show 'Œ'),
by (show PE 'ƭ';show 'ř'),
.(by first | show 'ŗ'),
by (show PE 'ƨ';show 'ś'),
by (show 'Ʀ' _;show 'ţ'),
by (show PE 'G';show 'Š'),
by (show PE 'ƴ';show 'š'),
by (show PW 'G';show 'Ť'),
by (show 'Ƨ' _;show 'ŧ'),
.(by first | show 'ǉ' | show 'Ǌ' | show 'ǋ' | show 'ǌ'),
by (show PSs '!';show 'Ũ'),
.(by first | show 'Ƶ' | exact PQ | exact zn6 | exact ET),
by (show PE 'ƫ';show 'ũ'),
by (show PE 'Ƭ';show 'Ū'),
by (show PE 'Ʊ';show 'ū'),
by (show PG '!';show 'Ƌ'),
.(by first | show 'ǥ' | show 'Ǧ' | show 'ǧ'),
.(by first | show 'ǲ' | show 'ǳ' | show 'Ǵ'),
by (show PGs '!';show 'Ɠ'),
.(by first | show 'Ȥ' | show 'ȥ' | show 'Ȧ'),
.(by first | show 'Ȫ' | show 'ȫ' | show 'Ȭ'),
by (show PA '!';show 'ƒ'),
by (show PO '!';show 'Ɣ'),
.(by first | show 'Ȯ' | show 'ȯ' | show 'Ȱ'),
.(by first | show 'ǹ' | show 'Ǻ' | exact JD),
.(by first | show 'Ǆ' | show 'ǅ'),
.(by first | show 'ǆ' | show 'Ǉ'),
.(by first | show 'Ǒ' | show 'ǒ'),
by (show PE 'ƕ';show 'Ǜ'),
by (show 'D' (DL.LE _ (aD bY _ _));show 'ǜ'),
by (show PE 'Ɩ';show 'ǝ'),
by (show PE 'Ɨ';show 'Ǟ'),
by (show PE 'Ƙ';show 'ǟ'),
by (show 'D' (DL.LE _ (aD qI _ _));show 'Ǡ'),
by (show PE 'ƙ';show 'ǡ'),
by (show PE 'ơ';show 'Ǩ'),
by (show PE 'ƚ';show 'ǩ'),
by (show 'E' (DL.LE _ (aD gR _ _));show 'Ǫ'),
by (show PE 'ƛ';show 'ǫ'),
by (show 'E' (DL.LE _ (aD iP _ _));show 'Ǭ'),
by (show PE 'Ɯ';show 'Ǯ'),
by (show PE 'Ɲ';show 'ǯ'),
by (show 'F' (DL.LT _ (aJ (aD bK _ _)));show 'ȋ'),
by (show 'I' (DL.LT _ (aJ (aD eJ _ _)));show 'Ȍ'),
by (show PT 'ƞ';show 'ȍ'),
by (show PT 'Ƣ';show 'Ȏ'),
by (show PT 'Ɵ';show 'ȏ'),
.(by (show ')' (DL.LT _ (aJ (aD gR _ _)));show 'Ȑ')),
.(by (show ')' (DL.LT _ (aJ (aD iP _ _)));show 'ȑ')),
by (show PT 'ƣ';show 'Ȓ'),
by (show PT 'Ƥ';show 'ȓ')],
#[by (show '0' (DL.LT _ (aJ (aD pP _ _)));show 'Ȕ'),
.(by (show ')' (DL.LT _ (aJ (aD oV _ _)));show 'ȕ')),
by (show '0' (DL.LT _ (aJ (aD qB _ _)));show 'Ȗ'),
by (show PT 'Ơ';show 'ȗ'),
by (show '0' (DL.LT _ (aJ (aD sS _ _)));show 'Ș'),
by (show 'F' (DL.LT _ (aJ (aD xT _ _)));show 'ș'),
.(by (show ')' (DL.LT _ (aJ (aD lX _ _)));show 'Ț')),
by (show 'I' (DL.LT _ (aJ (aD xK _ _)));show 'ț'),
.(by first | show 'Ȳ' | show 'Ƞ'),
by (show 'ƥ' _;show 'ȣ'),
by (show PI 'Ʒ';show 'ȧ'),
by (show PE 'Ʈ';show 'Ǎ'),
by (show PE 'Ư';show 'ǎ'),
by (show PE 'ư';show 'Ǐ'),
by (show PE 'Ʋ';show 'ǘ'),
.(by first | show 'Ǹ' | exact xW),
.(by first | show 'ȡ' | exact Xp),
.(by first | show 'Ȩ' | exact DV),
_ _ 'ø' 'ê',
_ _ 'ù' 'ì',
_ _ 'ú' 'í',
_ _ 'æ' 'î',
_ _ 'û' 'ð',
_ _ '?' 'ò',
_ _ '.' 'ô',
_ _ '(' 'ö',
_ _ '@' '÷',
_ _ 'é' '×',
_ _ '>' 'Ù',
_ _ 'è' 'á',
_ _ '/' 'ñ',
_ _ '?' 'Ø',
_ _ '@' 'Ü',
_ _ '>' 'Ý',
PI _ _ 'Í',
PI _ _ 'Ô',
PE _ 'Č',
_ _ 'ÿ' _,
_ _ 'ý' _,
_ _ 'ą' _,
_ _ 'Ñ' _,
_ _ 'Ë' _,
_ _ 'Â' _,
_ _ 'Ï' _,
_ _ 'Ò' _,
_ _ 'Ó' _,
_ _ 'Ð' _,
_ _ 'É' _,
_ _ 'Ă' _,
_ _ 'ü' _,
.(by exact le_int),
_ '!' _,
_ _ _ 'Æ' _,
.(by refine 'Į'),
.(by refine 'ġ'),
.(by refine 'č'),
.(by refine '¿'),
.(by refine 'À'),
.(by refine 'Ã'),
.(by refine 'Ç'),
.(by refine 'Ď'),
.(by refine 'Á'),
.(by refine 'Ä'),
.(by refine 'ď')],
#[.(by refine '¾'),
.(by refine '}'),
.(by refine '£'),
.(by refine '¤'),
.(by refine 'p'),
.(by refine 'Ģ'),
.(by refine 'k'),
.(by refine 'o'),
.(by refine 'n'),
.(by refine 'm'),
.(by refine '¨'),
.(by refine '¥'),
.(by refine '¦'),
.(by refine 'ģ'),
.(by refine '~'),
.(by refine '§'),
.(by refine 'Ĥ'),
.(by refine 'y'),
.(by refine 'È'),
.(by refine '¬'),
.(by refine '®'),
.(by refine '¡'),
.(by refine 'ĥ'),
.(by refine 'Ħ'),
.(by refine 'Đ'),
.(by refine 'đ'),
.(by refine 'Ē'),
.(by refine 'ē'),
.(by refine 'Ĕ'),
.(by refine 'ć'),
.(by refine 'Ĉ'),
.(by refine 'į'),
.(by refine 'İ'),
.(by refine 'ı'),
.(by refine 'Ĳ'),
.(by refine 'ħ'),
.(by refine 'Ĩ'),
.(by refine '¶'),
.(by refine 'ĕ'),
.(by refine '±'),
.(by refine '·'),
.(by refine 'v'),
.(by refine 'Ā'),
.(by refine '²'),
.(by refine 'Ė'),
.(by refine 'ĭ'),
.(by refine 'ĳ'),
.(by refine 'q'),
.(by refine 'j'),
.(by refine 'r'),
.(by refine 'ė'),
.(by refine 'Ć'),
.(by refine 'Ĵ'),
.(by refine 'ĩ'),
.(by refine 'i'),
.(by refine 'Ī'),
.(by refine 'ĵ'),
.(by refine '|'),
.(by refine 'Ę'),
.(by refine 'Ì'),
.(by refine 'ī'),
.(by refine 'l'),
.(by refine 'Ķ'),
.(by refine 'ĉ')],
#[.(by refine 'z'),
.(by refine 'ç'),
.(by refine 'ā'),
.(by refine 'þ'),
.(by refine '»'),
.(by refine '¼'),
.(by refine '½'),
.(by refine 'Å'),
.(by refine '¸'),
.(by refine '¹'),
.(by refine 'ę'),
.(by refine 'Ě'),
.(by refine 'ě'),
.(by refine '³'),
.(by refine 'w'),
.(by refine 'Ĝ'),
.(by refine 'Ċ'),
.(by refine 's'),
.(by refine 't'),
.(by refine 'x'),
.(by refine 'ĝ'),
.(by refine 'u'),
.(by refine 'µ'),
.(by refine '´'),
.(by refine 'º'),
.(by refine 'ķ'),
.(by refine 'ĸ'),
.(by refine 'ă'),
.(by refine 'Ą'),
.(by refine 'Ġ'),
.(by refine 'Ĭ'),
.(by refine 'Ĺ'),
.(by refine '¯'),
.(by refine 'ª'),
.(by refine '©'),
.(by refine '«'),
.(by refine '°'),
.(by refine 'ĺ'),
.(by refine 'Ļ'),
.(by refine 'ļ'),
.(by refine 'e'),
.(by refine 'Ľ'),
.(by refine 'Ğ'),
.(by exact L5 _),
.(by exact 'Î'),
.(by exact 'Ê'),
.(by exact '{'),
.(by exact '¢'),
⟨_,rfl,?_⟩,
(aC (.int 0)),
.fields,
x::xs,
_ 'b' Q I h,
_ _ _ s,
⟨rfl,?_⟩,
.int i,
by (show 'ľ'),
wpAny 'T' X.A,
_ b o e,
(lf oz),
(aW Z D),
∀{a:Addr},_,
Str->'Ϗ',
"/claim/cut.py"],
#[.str 'ɂ',
.(by refine 'ȳ'),
List Addr,
(aA 4),
.(by exact h.elim),
bQ _ _,
by split at h,
.(by refine 'ȹ'),
_ σ H Q,
(gN 0),
aD aG,
List (κ×V),
Str×Bool,
bR '!',
(ak _),
.type,
.Name,
f d m,
(aC ('倗')),
.Call,
aD bT,
if_pos rfl,
Ok 'ʖ',
some x,
some v,
(aA 5),
.list,
.(by ·show 'ɇ'),
'#' oz,
aU rfl,
_ h1 h2,
Option Int,
∀{K:ad}{Z:'7'}{m:Mu}{H:Hp},_,
.int 1,
.dat '乜',
rs.ext e1,
Option D,
aB '=',
∀{n:Nat},_,
List Stmt,
"behind",
_ m' H',
_ X a t,
('奟' bb),
List (Str×V),
X.calm=true,
TmAll ts ps,
(cN _ _),
.int _,
aD bK,
('c'),
Nm '俁',
List '戔',
Nat.zero_le _,
List α,
.str _,
some u,
_ 'b' Z m x y dx dy v u R Q I ok rx ry r1 r2 h k,
_ xs vs,
List ('兺'),
List D,
.(by intro 'ɼ'),
.int (-1),
autoParam ((x=='匌')=false) zau2._auto_1],
#["law_whens_k22_whole_rows_that_come_are_so",
(En.z 'ʟ' '˧'),
'Ҿ' m' H',
PE X a '修',
List (aK×V),
.int (-1),
('ϥ'),
.int 3 0,
Kn m m',
_ 'ʃ' 873,
∀(n:Nat),_,
_ σ H1,
aD bY,
.(fun '˛'=>by rw[Fast.te10295753902157049106,Fast.te14364793385576792824];kernel_rfl),
'a' true,
.int (1),
"tuple",
.dat p,
.cel a,
_ K Z m H,
_ acc d m,
_ X pins,
_ s H Q h,
_ rfl ?_,
LS X.K,
_ d' m',
(by show 'Ȼ'),
('Ӎ' (by simp)),
(by assumption),
':' xs,
.cel c,
.(by intro 'ȷ'),
RPs 'ʖ',
∀(h:Heap),_,
_ xs m1,
Bd 40,
'ʣ' xs vs,
'ɒ' 'Р',
Vals xs us,
.int 181 0,
'a' _,
'Ϩ' _,
"ends",
ae ?_,
Inv X pins σ,
.(by simp only[RD,RP]),
aB 'M',
∀{Q:'K'},_,
_ x y H Q,
by kernel_rfl,
'ɒ' "code",
H b=none,
List Env,
('倒'),
'ɝ' _,
I.tok _,
.(by obtain⟨t',rfl⟩:=ry),
g d m1,
OpR X,
(Room.u100 'ʟ'),
['ѡ','љ'],
'偯' p v,
aQ->'έ',
Option Addr],
#[if_neg am,
RelV v u,
"things",
(n:Int),
Gl X x,
.(by obtain⟨t,rfl⟩:=rx),
∀(ok:'ə'),_,
∀{α:Type},_,
_ mask h,
∀{h:Heap},_,
('·'),
'ɒ' 'ʓ',
('厲'),
Shared->Prop,
"whens.rows",
(a,k)∈ts,
RelV y u,
.builtin,
"ahead",
.str x,
(k+1),
∀(K:ad)(Z:'7')(m:Mu)(H:Hp),_,
_ 'b' _ _ '拨',
_ K Z m' H',
_ K H gd lv,
∀(k l:Bool),_,
_ 'ˑ' 646,
aI 2 bU,
_ σ' H',
_ X.xe s,
.(by subst this),
X.A.units+100<cLine,
"_law_things_here",
'Ѹ' (LE X.K f),
('卨'),
('俌'),
('ʴ'),
(aC (.int 2)),
some 'Ϡ',
.dat (TH ts),
"Behinds",
.str z,
(aA 6),
t::ts,
∀{P:Program}{w:World},_,
by simpa using this,
DL.LT _,
autoParam ('噖'='侟'::'匵') zau0._auto_1,
'倱' q Ext.refl ok .ofBl,
'丆' iter (LI X.K fi),
(aE (aN 'ғ') aH),
','->'έ',
if_neg '+',
List (κ×Value),
"_law_feed_here",
A.handled=none,
List DictEntry,
some ('ʡ'),
Hp->Prop,
ai _ rfl,
if_neg c,
0,
0,
0],
#[0,
0,
0,
0,
0,
0,
0,
0,
0,
0,
0,
0,
0,
0,
0,
0,
0,
0,
0,
0,
0,
0,
0,
0,
0,
0,
0,
0,
0,
0,
0,
0,
0,
0,
0,
0,
0,
0,
0,
0,
0,
0,
0,
0,
0,
0,
0,
0,
0,
0,
0,
0,
0,
0,
0,
0,
0,
0,
0,
0,
0,
0,
0,
0],
#[0,
0,
0,
0,
0,
0,
0,
0,
0,
0,
0,
0,
0,
0,
0,
0,
0,
0,
0,
0,
0,
0,
0,
0,
0,
0,
0,
0,
0,
0,
0,
0,
0,
0,
0,
0,
0,
0,
0,
0,
0,
0,
0,
0,
0,
List Row,
.Assign,
(i:Int),
"point",
"kinds",
some p,
(·.1),
_ pins s1 σ H1,
0,
0,
∀{p:PyData},_,
aB '`',
upd H,
aV rfl,
_ hx hy,
_ xs ys,
0,
0,
0],
#[0,
_ E d m,
∀ cl C s2 H2 pins fp,PF 'Ѽ' ifs '兽',
∀ cl C s2 H2 pins fp,PG 'Ѽ' tg '堪',
.ref s.heap.objs.size,
(fun 'Ю'=>?_),
List (κ×PyData),
.inl (.inl cE),
0,
.dat ('ˬ'),
0,
Ok '˚',
List aK,
(e::es),
some i,
p.1=k,
z::zs,
.(by obtain⟨Z,d,m,R,ok,rs,h,k⟩:=h),
_ rfl 'ʄ',
hk '!',
_ E s H h,
Same H,
_ q1 q2,
_ xs H Q,
PSs X,
_ m2 H2,
∀ cl C s2 H2 pins fp,PE 'Ѽ' elt '修',
('可' elt ['嚭',⟨tg2,iter2,ifs2,0⟩] scope pos),
autoParam ('劐') zau4._auto_1,
List (','×V),
'儢'='Y',
0,
(cU 'ɕ'),
(Nat.lt_irrefl _),
'ϝ'='Y',
fun p hp=>?_,
'ɒ' 'ћ',
ts.length<=6,
"reversed",
dZ 'ƶ',
by ac_rfl,
x='ϥ',
Mu->Prop,
"turned",
(1:Int),
b=true,
af ?_,
[a,b],
(i+1),
"add",
_ _ _ _ _ _,
∀(w:World),_,
∀(hd:'ʂ'),_,
∀(hu:'ˢ'),_,
_ 'Ɍ' cQ,
DL.LE _,
_ X e t,
_ ha hb,
_ lo hi,
_ vs H1,
_ p v q,
(.inr ⟨_,_,_,rfl,'Ҏ',rfl,by show 4<=sizeLine;show '佂','媉'⟩),
('崦'),
List (','× '厫')],
#[.(by show '佂'),
by with_unfolding_all rfl,
('仓'),
k _ _ 'Ӵ' e,
'Ѯ' kvs vs,
{s with heap:=h'},
PE X b '兼',
'冺'='Y',
'ϸ' x v,
('ɨ' aF),
ts.map 'Ͷ',
fun b hb=>?_,
Option Value,
'你' H h,
⟨fQ,?_⟩,
⟨fX,?_⟩,
⟨fZ,?_⟩,
⟨fR,?_⟩,
⟨fK,?_⟩,
⟨fN,?_⟩,
⟨fV,?_⟩,
pure false,
.Attribute,
(.ref it),
"stretch",
x∈ 'Ү',
h.get? a,
.Compare,
('ʔ'),
('ʕ'),
('凡'),
if_pos c,
⟨[]⟩,
x.1*y.2,
.ref a,
(·.2),
(aA 7),
.dict,
[x,y],
(0,1),
.(by repeat show 'Ϭ'),
.(by first | show 'Ɋ' | show 'Ʉ' | refine 'ϑ' | refine 'ϒ' | refine 'ϓ' | refine 'ϔ' | refine 'ϕ' | refine 'ϖ' | refine 'ϗ'),
∀{ts:'L'}{ps:','},_,
_ 'b' _ us Q I rv,
_ X.K Z m H,
∀{X:Cx}{a:_}{t:_},_,
.(by simp at this;omega),
sb.extBut _ _,
_ '˥' X.xe s,
RR 'ɮ' p b,
'V' '9',
RKW 'ʖ',
CallR X,
RD 'ʖ',
_ 'Z' ?_,
_ '˵' aH,
_ '凳' h,
LT X.K,
_ b ob q,
_ D σ H,
_ kvs k,
_ s' H',
_ _ _ h,
autoParam (('嗍').any 'Ͷ'=false) zau0._auto_1],
#[absurd (show '仾' from hs) am,
('哮' (aC (.int 0))),
'彔'='њ',
by simpa only[RP] using h,
⟨Z,d,m,R,ok,rs,h,k⟩,
List ('Ώ'×PyData),
['Ԍ','ҧ','Ҧ'],
'偫' s',
.inl 'ȳ',
List (PyData×V),
.(by show '傂'),
List (Str×Addr),
'偰' d s,
.dat ('Ң'),
St->'˽',
'偻' a xs,
('ѱ' x),
.Subscript,
z∈ 'ќ',
(.ref f),
H p=none,
('倖'),
(st:Int),
"begins",
"within",
"strike",
(cV st),
y.1*x.2,
('2'),
"list",
some y,
some j,
some q,
k=true,
"same",
"both",
(aA 8),
.(by intro 'Ы'),
.(by obtain⟨zs,rfl,q⟩:=h),
_ '*' '*',
_ 'b' D I h,
_ acc' d' m',
∀(a:Addr),_,
_ 'ε' _,
_ s H Q 'Ї',
∀(he:'ˤ'),_,
_ [] pos,
_ prog w,
_ 'Ю' _,
∀{e:Expr},_,
.(by refine 'ʮ'),
by constructor,
aD eW,
bG cA,
_ x c e,
some ('˪'),
(fun z=>'塖'),
'亰' (LE X.K fo),
List ('Ώ'×V),
'ʣ' ps vs,
"_law_kinds_here",
('^'),
'懆'.1,
'Ԅ'='ɚ'],
#[(aC (.int 3)),
eval o X.env,
(ok.ext sm),
some .cell,
I.tuple hq,
ae 'ѓ',
.(nomatch e),
'佩' t,
some none,
'Θ' H',
List Bool,
Array Nat,
(cI P w),
RelV x v,
o='ʡ',
.ref 198,
('α'),
'a' b,
"meets",
"ended",
"holds",
"begun",
"other",
some c,
"dict",
WS k l,
.bl b,
.next,
"int",
c≠a,
"one",
"row",
∀{fd:FuncData}{ps:'$'},_,
.(by obtain⟨Z,d,m,R,ok,rs,h,k,_⟩:=h),
_ H2 q2 e2 ok2,
∀(X:Cx)(pins:'<'),_,
.(by show 'ʢ';show 'Δ'),
codeAny 'R' A,
_ x m1 v '亃' r1,
ObjOk '了',
_ z TI TO,
'#' 'П',
by decide +kernel,
RKV 'ʖ',
FT ts ps,
∀(p:PyData),_,
bI ts ps,
_ 'Ԡ' rd,
.(by exact h2.elim),
CallD X,
ta σ H,
'ͼ' p,
_ a '云',
PE X e,
_ os p b,
fi d m,
∀{b:Bool},_,
(bB X scope cl C NC s2 H2 pins fp),
∀ y∈scope.names,'厴',
','->'ˁ',
('奟' false),
V->'僐',
('奟' true),
kvs.length<=sizeLine],
#[scope.kind='冞',
some ('仪'),
xs.length<=sizeLine,
by simpa using hb,
if_neg '*',
(by rw[ay];omega),
.dat (':' ps),
.dat ('ʠ'),
.dat (':' ys),
('ˎ'),
(xs.drop 'γ'),
⟨rfl,rfl⟩,
List (κ×β),
decide (x=y),
o.dict=none,
Vals vs us,
(aC '&'),
(cK src d),
KV kvs vs,
I.list hq,
aV 'ʚ',
v='ϥ',
('凛'),
['ϥ'],
if_pos e,
if_neg e,
(mask+1),
aL a1 b0,
aL a0 b1,
aL a0 b0,
"words",
.int j,
.ref p,
.str a,
"long",
"step",
"rows",
p::ps,
"zip",
.bl _,
cF hp,
gD h2,
"met",
aS ts,
_ X hP hw hK hc i 'b' E I hf st hg,
∀{pins:'<'}{σ:St}{H:Hp}{s:Shared},_,
.(by simp only[RPs]at h),
∀(mask:Nat)(h:Int),_,
_ v bb os p b,
_ pos.line X.env,
_ a its.toArray,
_ 'Z' (hm:='τ'),
_ Y.K 'ȿ',
∀{s:Shared},_,
_ 'b' _ I h,
∀{m:Mu}{R:DK},_,
∀(s':Shared),_,
_ 'Z' 'ƶ',
_ 'b' Q I,
Ext 'ʖ',
_ 'ɮ' os,
_ K 'ȿ' m,
_ b o hb e,
∀{u:Value},_],
#[∀{pos:Pos},_,
SqL X.K,
Bd 2000,
∀{xs:','},_,
.(by rw[ay,<- hl]),
Room k,
Q 'ˍ',
'ϙ' o,
.int 0,
t σ H,
cG I q,
aP m a,
∀(f g:DE),_,
(iK 'ʟ' (Room.mono 'ʟ' (by first | decide | omega))),
('哮' (aC (.int 1))),
('偔' (aC (.int 0))),
List ('Ώ'× '厫'),
(aW '搲'),
(a==sysModules)=false,
Array ('Ϗ'),
'們'='憷',
some ('Ό'),
.inr 'ȳ',
((t.gcd b:Nat):Int),
if_pos '+',
List ('俥'),
'϶' kvs vs,
⟨v,r,h1,h2,h3⟩,
'卝' e2,
List (Str×Value),
('卜'),
"_law_clock_here",
('丽'),
"whens.tellings",
(stepI g2 t2 f),
('垠'),
('厖'),
Ok '刪',
.dat ('є'),
('埀'),
RW 'ʖ' x v,
List (DE×DE),
fun m1 k1=>?_,
"POINT_WORDS",
"whens.words",
[topFrame q0],
('ʑ'),
'哺' vs,
gn 'ˋ' k,
('冻'),
some '乺',
'ӈ' X.A,
ok.g a _ h,
"overlaps",
y∈ 'Ү',
'ɠ' ?_,
('吽'),
RelV x u,
(xs++ys),
Option V,
if_neg q,
('ң'),
('几'),
(aA 10)],
#[.str y,
xs[i]?,
(ag e),
.inl q,
.Tuple,
.ref c,
aL x y,
"told",
"word",
"talk",
(aA 9),
b≠a,
bD ne,
h.2.2,
"law",
"any",
.(by intro 'ϻ'),
.(by obtain⟨v,rfl,r1⟩:=rd.one),
∀(P:Program)(w:World),_,
_ P w K mg base,
iQ '+' rfl rfl ly dp,
congrArg List.length,
.(by obtain⟨o,h1,h2⟩:='ӷ'),
.(by cases r1.int;cases r2.int),
I.laid (t':=s.toks),
_ Ext.refl ok,
∀(w:World)(os:OsState),_,
_ pins s2 σ H2,
wpAny _ A.in1,
_ e1 ok1,
_ rest acc d m',
wpAny 'T' A,
bindArgs fd,
_ x m1 v H1,
absurd rfl,
by by_cases e:'Β',
_ '=' 'M',
'ɍ' 'M',
wpAny M A,
∀{h h':Heap},_,
∀{x:D}{v:V},_,
by try dsimp only,
_ 'ӯ' 237,
_ 'Ӥ' 559,
.(by cases r1.str),
_ vs H Q E,
_ m1 '亃',
aB 'ȴ',
aB 'ɕ',
aB 'Σ',
jG 'Ӑ',
PI X tg,
∀{ps:','},_,
∀(es:'˻'),_,
∀(C:Addr),_,
∀(e:'ʅ'),_,
Q 'Ԁ',
k 'ƶ',
upd H3,
LI X.K,
bM kvs,
'Ϟ' _,
_ σ H s,
fo d m],
#[.(by simp (decide:=true) [dW,bJ,List.range_succ,cC,HT.sIx,pick,bZ,dM]),
∀ y∈scope.names,'寨',
autoParam ('崏') zau0._auto_1,
∀ a o u,'侤'->H' a='僽',
autoParam (chkB '刖'=true) zau0._auto_1,
autoParam ('҃') zau0._auto_1,
V->'ɢ'->'ɢ'->'厘',
∀ a vs,'儹'->SqT K H' a vs,
List.getElem?_eq_getElem '*',
('崲'),
('偒' (aC (.int 0))),
('偔' (aC (.int 1))),
'ɮ'.params,
'哯' (LA X.K ga),
('廨'),
[dP k l n,'ˬ',.str w],
Value->'圉',
{s with toks:='吇'},
'Ԙ' e1,
List.mem_append.mp hp,
(aC ('儛')),
by simpa using nm.2.1,
kvs.length<sizeLine,
X.xe='丽',
acc.length<sizeLine,
Addr->Env->Sem Unit,
(aC ('埊')),
o.data='Ϩ' es ep,
List.mem_cons.mp h,
PE X i '技',
Value.type 'ʓ',
⟨_,rfl,rfl,?_⟩,
jN X scope NC src,
a∈ 'ύ',
List ('ɢ'),
('卣'),
by simp[isK]at h,
"_law_word_here",
hf it 'U',
.dat ('ɝ' ys),
X.1*Y.2-Y.1*X.2,
X.N[i]?='ɚ',
fun _ _=>False,
('ф'),
⟨_,ho,rfl⟩,
'儽'.2,
('ʱ' aF),
('偶' aF),
('亥' aF),
.(by rw[e1];simp),
⟨_,h1,h2⟩,
some '休',
('佰' pos),
NoD.new '!',
IsTup.new _ _,
(ps.map .dat),
(e1.trans eX),
ws.length<=13,
'哺' xs,
(I.ok.hd hc),
List (κ×D),
some (.l xs),
fun _=>none,
('佰' p)],
#[⟨q1,q2⟩,
'a' false,
(aP m' D c),
(t.1,false),
'剋' ws,
('吋'),
('倀'),
Cls X.K C,
.compLoop,
('Ⱥ'),
if_pos q,
('买'),
('乱'),
m a=none,
List Nat,
(lo:Int),
"lapped",
Tp L m a,
.int (0),
"_law_x",
.int 4 0,
.BoolOp,
(g i j),
(fH st),
(0:Int),
Sem α,
.ref _,
c=true,
ah _ e,
.ref t,
.ref b,
.ref l,
.inr h,
.BinOp,
(k&&l),
(bA x),
nm.2.2,
aL t u,
vs=[],
.free,
bF ne,
.func,
"str",
(k,p),
(j+1),
0<x.2,
20000,
.(by intro '亄'),
_ H1 q e1 ok1,
_ 'b' Z m xs ds us R Q I ok rv rd h k,
∀{pins:'<'}{σ:L2.St}{H:Hp}{s:Shared},_,
_ X.prog X.w,
List.mem_append_right _,
upd H s.heap.objs.size,
.(by simp only[RP]at h;subst h),
.(by exact List.mem_cons_self),
∀{α:Type}(xs:'ɹ'),_,
_ _ 'ɲ' _ 'ɲ',
∀{x:Str}{c:Addr},_,
∀(H:Hp)(a:Addr),_,
_ X.K Z m1 H1,
∀{A:Around},_,
_ vs h1 h2,
c3.extBut _ _],
#[∀(s:L2.St)(H:Hp),_,
_ 'ͷ' _ I1 q1,
c2.extBut _ _,
_ hL '+',
_ cdv '凹' E,
∀{α β:Type},_,
.(by rw[List.map_map]),
aD bK 'ɜ',
∀(lo hi:'ɢ'),_,
_ s.heap h',
∀{vs:'3'},_,
.(by simp only[RPs]),
_ '凸' c B,
RR w p b,
∀(hh:'˺'),_,
by simpa using q,
∀(ha:'ʆ'),_,
_ p.1 p.2,
aB 'ɜ',
g x d m,
∀{v:Value},_,
∀(ts:'L'),_,
∀(ht:'ɱ'),_,
.(by ·exact '乳'),
'ʯ' H,
_ σ7 H7,
upd H2,
E.nx d,
_ 'ʗ' Q,
PE X o,
∀(k:Bool),_,
kp _ _,
∀ x,'侁'->'問',
TX ['仆'] '姮',
autoParam ('嵚') zau0._auto_1,
.(by rw[typeLookup_type,builtinLookup_eq_fast];kernel_rfl),
PySem.W.nsIn X.K mainGlobals N='彪',
⟨fun _ e=>('щ'),fun _ _ e=>('щ')⟩,
(bB X '搾' NC s₂ H2 pins fp),
'ԣ' {pos:=l0}=pure (ps.zip l0),
.(by show '夈'),
IsPair s.heap '妴',
kvs.find? ('僂'),
(kvs.any '僁'),
.(by cases '侬';rfl),
'刟' .ofBl,
ZipApart '姺',
.dat '噟',
{s with heap:=h',toks:=tk},
'Ϗ'->'ː',
('习'/\¬ aW Z D a),
⟨x,'倍','伡'⟩,
by simpa using e2.symm,
List (','×D),
wd '乵' a0 a1 b0 b1,
Result->'ː',
'值' t items,
⟨x,H1,I1,r1,q1⟩,
'則' m' H',
.(by show 'ʰ'),
'Д' o i tpos,
E.m '˧',
('午'),
('圈')],
#[s.heap.objs.size+1,
List (Str×PyData),
('҉'),
'敌' [],
Array (Int×Value),
Array '戔',
decide_eq_false c1,
fun 'Ƚ'=>'乯',
if_pos '*',
'俵'='Y',
List (aK×Value),
List.cons.inj e2,
.dat ('伖'),
[z,TI,TO,i1,i2],
Bool->'˽',
RC 'ʖ' c o,
"whens.behind",
u='兖',
.dat ('Ҥ'),
.dat ('伪'),
some (.d kvs),
u=Value.ref c,
some (.t kvs),
.dat '吔',
.(by simp at e),
.(by simp at h),
fun x hx=>?_,
fun _ _=>rfl,
Ok 'ϯ',
('俯'),
'墬'.2.2,
kQ ts ps kvs,
(':' ks),
Vals xs its,
('佪' o),
some .local,
(model P w),
K.In s.heap,
'ɒ' 'ҩ',
js 'ˋ' n,
⟨o,rfl⟩,
Fed.refl hT,
a*n.2-n.1*d,
false=true,
X.pn++pins,
"__init__",
fun _=>rfl,
(acc++[p]),
(b,l)∈ts,
L<=9000000,
"by_words",
"_law_one",
done++todo,
PE X a ta,
'Ѹ' te,
pure none,
r1.ext e2,
"telling",
done++[z],
('個'),
':' y,
if_neg h,
('ɛ'),
some p.2],
#[t 'ɋ',
('˖'),
('伦'),
'ɝ' xs,
(some 0),
Tbl t es,
('ќ'),
some ob,
('ȶ'),
(k:Int),
ok.l hm,
.inl h1,
some ks,
x.2*y.2,
.ref 60,
.ref 61,
.ref 62,
.inr x,
.inl i,
.inl h,
b∉ch,
.NotIn,
some w,
.str b,
(dR x),
some k,
kv.1=k,
.dK [],
.ofInt,
z∈cJ,
some r,
some 2,
2000*i,
.(by intro 'ү';subst hP hw hK),
.(by cases o<;>first | show 'ɇ' | exact '亸'),
.(by repeat show '伹'),
_ 'b' x v vl vu lo hi sl Q I rx hs pl pu,
.(by obtain⟨t,rfl⟩:=r),
.(by first | show 'Ɋ' | show 'Ʉ'),
wpAny_field hos hds,
∀(ha:'ʆ')(hb:'ω'),_,
∀(hg:'ˇ')(hm:'ӗ'),_,
∀{m:Mu}{o:'ɧ'}{Q:'˶'},_,
.(by obtain⟨rfl,rfl⟩:='仞'),
_ H2 q2 'ˏ' ok2,
wpAny_passesOwn hp,
_ '+' '+',
.(by rw[sizeLine_eq];decide),
∀(hN:X.N.Nodup),_,
∀(ts:'L')(ps:','),_,
attributeBase o,
_ pins s d H,
_ X.K Z m2 H2,
_ c o q1 q2 q3,
∀(K:ad)(a:Addr),_,
∀{t':Nat}['O'],_,
_ X.K Z m3 H3,
bV g t f xs,
_ X.env '举',
aD bK '=',
iY I hg hm,
_ x lo hi H Q,
_ 'Z' '!',
'ɟ' 'Ⱦ'],
#[∀(x y:'ɏ'),_,
RP.ext e,
_ '代' 450,
_ L m m' a,
aj 'ԅ',
_ e X.env,
_ 'ҽ' hw,
_ 'ɡ' h3,
lD '˙',
aB 'Ɇ',
aB 'Є',
bV 'Ɍ',
KT '8',
HOk P w,
∀(a b:Int),_,
∀(xs:'3'),_,
∀(ok:'ϐ'),_,
∀(hc:'ɰ'),_,
∀{env:Env},_,
∀(hx:'个'),_,
∀(zs:'$'),_,
∀(l0:';'),_,
'V' r,
'ͼ' a,
_ 'Ƚ' n,
'ͼ' l,
LA X.K,
Q 'Ϡ',
_ hD hkD,
'ɓ' x,
_ X e t',
KN K H,
['˕','ѕ','Ӹ','К','Л','ʭ','Х','і','ї','ј','乣','ҭ','ɫ'],
FnOk '倧' cY k fa fd ps (LSp X.K n sp),
⟨ 'Ҫ',H,I,rfl,'倱' h4 Ext.refl ok .ofBl⟩,
∀ b xs,H b='儐'->H' b='儐',
⟨_,rfl,_,rfl,'ͽ' (aV rfl (hN m Kn.refl))⟩,
('可' elt ['嚭'] scope pos),
autoParam (x≠ '俬') zau2._auto_1,
Int.fdiv_eq_ediv_of_nonneg _ '*',
.inl (.inl ('嚌')),
'享' {s with heap:=h'},
'侇'∈ws,
(gT 2 (aY '凨' (aY '凩' cL))),
(gT 2 '帢'),
some ('˔' "tuple.__hash__"),
'恠'∈scope.names,
(aE (aN '怩') aH),
⟨_,rfl,'Ћ'⟩,
'ѿ'.params,
'ҁ'.params,
autoParam (jS i) zau8._auto_1,
cZ '厦' '埈',
⟨_,rfl,_,rfl,rfl,rfl,?_⟩,
'˔' "object.__class__",
(tupleKind ('俑')),
List.getElem?_eq_getElem hk,
{s with heap:=h',toks:=t'},
∃ o,s.heap.get? T='Y',
(show False from r).elim,
ae (tupleItemsOf_ ht ?_),
⟨rfl,'憶'⟩,
Str.ofString '堬',
s.TypeIs 'И' 'ҩ'],
#[.(by simp[PyData.eqvAll]),
base.Ns '妁',
(he 'ҹ'),
'刨' p x v r1 rx,
('律'),
List (PyData×PyData),
ZH s.heap 'ѫ' T b,
'ͽ' (hN m Kn.refl),
B / '升',
Inv 'ʘ' '˟' s',
('Д' o i pos),
∀ b∈fp,'口',
(false,'俖'),
('忽'),
('侨'),
s.heap.get? c='Y',
o.cls='ˎ',
H a='僽',
('僰'),
Unit->'ː',
('ɒ' "function"),
I.hok.fresh 'ɑ',
z.length<=sizeLine,
(compareOp '伨'),
H l='坖',
(show _=[] from h),
x='҉',
('圤'),
Option.some.inj h,
by simpa using hk,
'Ѹ' (LE X.K g),
En kk P w mg base,
m c='仩',
⟨ '-',?_⟩,
"whens.fractions",
b≠X.env.locals,
by simpa using h,
wpAny_holding ?_,
('˔' "len"),
fun '!'=>False,
'ɒ' 'Ω',
['ҧ','倉'],
1+(1+(1+(22+1))),
K.lookup D=none,
decide (x∈zs),
SetTable.bits h,
('ύ'),
t.1*u.2-u.1*t.2,
['儬'],
bootBuiltins x,
'哯' t,
eL true rows i,
('ͻ' aF),
('剙' aF),
(hN m Kn.refl),
mP p b 'ƶ',
.(by rw[e];simp),
.(by simp;omega),
⟨_,e,rfl⟩,
vs.map 'Ͷ',
List (Str×D),
.dat '伔',
cI '了',
some (.n kvs)],
#[(rows.map cD),
'凇'.drop,
decide (a=b),
eval '佘',
fun _ _ x=>x,
.(by simp[RPs]),
(ok.z a h).2,
(ok.z a h).1,
(ok.grow sm),
"isinstance",
'墬'.2.1,
'唔' n s,
('ѱ' y),
FW '剄',
"_law_other",
fs.lookup f,
'們'=none,
⟨us,[]⟩,
Option Expr,
xs.length+1,
RowO ts M r,
"_law_some",
1<=sizeLine,
2<=sizeLine,
4<=sizeLine,
"__name__",
lC '剖',
('S' f),
.dat '&',
(t.1,true),
"gathered",
some (I i),
some (I x),
'亁'*12^j,
h'.get? b,
pyNext it,
.ellipsis,
(j,q)::xs,
(g,y)::fs,
('传'),
"by_mays",
.int i t,
y='ʔ',
(-1:Int),
('ԃ'),
WB k l z,
"_law_y",
'ɤ' 0,
.int 2 0,
"range",
hf b hb,
(.l ps),
('Ү'),
(x:Int),
"thing",
todo=[],
X.2*Y.2,
(n2*k2),
.ref 59,
.str i,
some _,
Q v H',
X.mg x,
.ref C],
#[.of_wp,
.dat q,
"bool",
.ref z,
.int 1,
Bd n i,
(w4 z),
cT x.1,
"ways",
(gN 5),
(gN 7),
.(by simp only[RD,RP]at r2;obtain⟨a,vs,rfl,_,h1,h2⟩:=r2),
.(by simp only[RD,RP]at r2;obtain⟨a,vs,rfl,h1,h2⟩:=r2),
.(by obtain⟨f0,f1,f2,f3,f4,f5⟩:='丹'),
∀['˯']{K:ad}{mg:'Ɂ'}{base:Heap},_,
.(by rcases h with (h | ⟨o,h⟩) | h),
.(by simp only[RP]at h),
by unfold pyHash pyHashByItsType,
R.mono (N1:='侽') '+',
.(by rw[Bool.eq_iff_iff]),
_ '了' X.K X.mg X.base,
_ a1 a2 a3 a4 a5,
_ 'b' xs us Q I,
_ H3 q3 e3 ok3,
wpAny_field hz rfl,
_ (pos':=dp) 22 'ʐ',
_ cl C s2 H2 pins fp,
∀(Z:'7')(d:aQ)(m:Mu),_,
_ value slice '凳',
∀{ts:'L'}(nm:'ɶ'),_,
k _ m _ H,
.(by show 'ˈ';show 'ʻ'),
ObjOk P w,
_ (a:='侀') '凴',
_ 'ʘ' σ Q,
_ it acc env,
∀(k l n:Bool),_,
_ its.toArray n,
.(by rcases q with q | q),
∀['ɀ']{xs:'3'},_,
_ false false,
IsTup s.heap,
_ (a:=()) '凴',
BindsTo s fd,
_ 'х' '俛' ?_,
_ m2 w 'ѥ' r2,
_ 'Ƚ' n hb hx,
_ '!' H _ I h,
.(by have hl:=rv.length),
c5.extBut _ _,
c1.extBut _,
_ [e] [] cpos,
.(by rw[e]at h;cases h),
∀{x y:'X'},_,
Un fs ex H,
'倳' H h a,
.(by exact True.intro),
by rw['ɘ']at q ⊢,
by rw['˃']at q ⊢,
∀(src:'ɷ'),_,
∀['ɣ']['ɀ'],_,
_ '侠' 'ɑ',
_ 'ѫ' '俷',
'ɍ' '`'],
#[.str 'ɫ',
'ɍ' ']',
SqT X.K H,
_ m1 v '亃',
_ Z '乕' H',
SoR ts ps,
∀(hs:'Ο'),_,
_ a c1 c2,
RDs 'ʖ',
_ 'ˏ' ok2,
Mid 'ϯ',
_ '侵' 187,
_ '8' 198,
PGs X es,
_ '倩' r h,
_ k l z hz,
k _ m _ _,
_ '但' Q I,
by unfold Bd at *,
∀(ha:'丠'),_,
_ 'Z' _ _,
k _ m3 _,
∀(mask:Nat),_,
∀(x y:'X'),_,
'ʯ' H',
EP '倵',
aM '侕',
_ s1 '仌',
RP 'ʖ',
RS 'ʖ',
_ 'Ԡ' r1,
mM '˙',
gs 'ˋ',
_ '侂' aH,
aB '丞',
aB ']',
tz 'ʿ',
_ 'ѿ' os,
_ 'ҁ' os,
_ F hr hb,
SqT K H,
fo d m1,
_ it tq i,
aI 1 jW,
_ m0 m' a,
by split<;>omega,
.(by rw[h2.length]),
.(by simp only[RP]),
.(by show '伸';rfl),
∀{κ:Type},_,
∀(u:Value),_,
∀{es:'W'},_,
∀{H H':Hp},_,
∀(ry:'˓'),_,
∀(ha:'俅'),_,
∀(zs:'Q'),_,
autoParam (('娾'&&decide ([e].length+'動'+'劍'<30))=true) zau0._auto_1,
autoParam (starEach 'β' X.env=['嚈','役']) zau0._auto_1,
∀ a vs,'僝'->'Ӳ'->('塥'/\¬ Y a)/\'憪',
autoParam (starEach [b] X.env=['役']) zau0._auto_1,
autoParam ((x==("__classdict__" : Str))=false) zau2._auto_1,
.(by show '売';omega),
∀ b o u,H b='僽'->H' b='僽',
(by first | assumption | exact nU '˧')],
#[some '啞',
⟨_,rfl,_,rfl,_,'ɐ',rfl,rows,i,rfl,?_⟩,
(Builtin.Tuple.tupleItemsOf '乞'>>=_),
∀ p v,'ˀ'->RP '刺' p v,
aP (aP m6 w '凒') w '悋',
'捭' cd,
autoParam ('丼') zau0._auto_1,
.dat (':' (('厧').map .str)),
[.inr x.1,.inl '廴'],
('ɨ' (aB (aA 1) (aB (aA 2) aF))),
autoParam ('承') zau0._auto_1,
⟨_,rfl,_,rfl,_,rfl,_,rfl,rfl,?_⟩,
'徾'/\'慗',
('ɖ' '乒' '哬'),
('7')->Mu->Hp->α->'墊',
Value.ref 'υ'::us,
(gT 2 (aY 'Ɍ' (aY (gN 1) cL))),
':' '幺',
⟨_,rfl,'ә'⟩,
(aJ (aD fY '`' 'ғ')),
s.heap.push PySem.W.emptyDict,
('弰').get?,
('Ԩ' (aC (.int 1))),
('Ԩ' (aC (.int 0))),
('偔' (aC (.int 2))),
('刴' (aC (.int 1))),
('偒' (aC (.int 1))),
.(by rw['懱'];exact q),
∀ s H Q,t' s H Q->t s H Q,
X.K.lookup s.heap.objs.size,
('傻'),
fun z=>'徎',
Str.ofString '憟',
(by simp only[ay]<;>omega),
H b=some (.tup (k.map kV)),
.dat ('匒'),
('ɨ' (aB (aA 1) aF)),
('丄' aF),
'搏' k,
['堁','抶'],
Nat.le_of_ble_eq_true rfl,
('廆'),
q _ '価',
('廤'),
List ('$'×Addr×V),
H s.heap.objs.size=none,
fun kv=>decide ('伭'),
fun kv=>'坆',
'勵' z,
['ʹ','ѡ','љ'],
∀ v,o.data≠.cell v,
('и' (aB (aA 2) aF)),
⟨i.toNat,'-'⟩,
'Ԙ' e,
Params->'˻',
fun '偁'=>?_,
fun z=>e (h1.trans z),
'俁'.Nodup,
('七' aF),
ws.map ('姹' y),
X.base.get? b='Y',
'3'->'厘',
FnScope N ps 'Н',
'咕' m' H'],
#[(aC (.str 'ɫ')),
of_decide_eq_true hs,
('囩'),
I1.hok.fresh 'ɑ',
(fun _ _ q=>'凝'),
List.mem_cons.mp hx,
0<=i/\i<rows.length,
['ͳ','ϛ'],
(aC (.str '˕')),
'享' s',
('園'),
RS '˚' d' s',
(model Y.prog Y.w),
List.mem_map.mp hv,
⟨w,r,h1,h2,h3⟩,
('偳' (13+r)),
m' c='仩',
(dG 'ɕ'),
(dG '˨'),
(aC (.str 'ʭ')),
by simpa using h1,
'堜'='Y',
'϶' fs vs,
'偛' xs vs,
'Ѯ' xs vs,
⟨v,r,h1,_,h3⟩,
PT X a '兽',
.dat 'ӱ',
'亰' (LE X.K f),
decide_eq_false c,
[z,TI,TO,i1,i2,S],
b∈ 'ύ',
decide_eq_true c1,
iI X.env.scope x,
hW X.env.scope x,
pyNext 'Ϛ',
(jA s₁.heap H),
KDt '哲' vs,
(Kn.refl.new hc),
('乄'),
"_law_all_signs",
"_law_some_step",
some ('墉'),
V->'厘',
(binaryOp .Add),
(compareOp .In),
Array DictEntry,
'儸'.In,
h1.symm.trans e,
('V' ry .nil),
y='Ό',
X.mg 'ҩ'=none,
RKV 'Ю',
(sl zs).toArray,
'懆'.2,
'Ϥ'<'О',
.dat (dP k l n),
'Ϥ'+'О',
"are_two_names",
"_law_all_ends",
p.canLay0=true,
some '冝',
fun '!' q=>q,
Array GenState],
#[('ώ'),
(ns.map V.int),
kvs.map 'Ͷ',
Bool->'έ',
fun i x hx=>?_,
some '冦',
zs.map Sum.inr,
iv='埭',
.str 'ϛ',
(aB 'ϧ' aF),
Fed b L m0 m a,
"behind_words",
"word_between",
"_law_telling",
some (.own a),
s.heap.get? b,
vs[i]?='ɛ',
('˔' id),
(iC xs 'ν'),
Nat.le_succ _,
IntsAre vs ns,
⟨_,rfl,h⟩,
(e2.trans e3),
('厸'),
.dat (.str w),
"_law_script",
"forced_ways",
"behind_mays",
"ways_across",
"_law_things",
"_law_lowest",
"_law_saying",
model 'в',
It->'˽',
.(by rw[e];rfl),
IntMulOk i j,
(start N vs),
(K w.params),
'偻' a vs,
fun l hl=>?_,
i<=xs.length,
('ͼ' D o1),
(chkB.ok hB),
(.tup 'ϩ'),
(cM 'Ͽ' p),
gM y='伟',
Tm p k a0 a1,
Tm q l b0 b1,
2<=ts.length,
sg k l z x y,
nY 'ε',
"turned_may",
"forced_way",
"is_gap_met",
"is_may_row",
"may_row_at",
"gap_row_at",
"lie_across",
"turned_row",
"behind_row",
"strike_row",
"_law_words",
"_law_sides",
"_law_kinds"],
#["_law_added",
"_law_clock",
"_law_order",
Value.ref a,
sp '一',
KT H kvs xs,
fun a h=>?_,
(q '!' w),
cC xs 'ν',
('ɦ'),
H D=some o0,
(fU 'в'),
.str (kd k),
.dat '乶',
.dat (cD r),
"_law_kind",
T*n.2<n.1*B,
0<=sizeLine,
3<=sizeLine,
5<=sizeLine,
fJ '偢',
⟨jQ,?_⟩,
('吂'),
"forced_by",
"_law_feed",
"_law_draw",
"_law_back",
"_law_sign",
"_law_time",
"_law_word",
isK p=true,
H a='Y',
gH X.stack,
'ɓ' y py,
⟨e,?_⟩,
Params->ad,
('墖'),
mC '剖',
.(by cases h),
aK×PyData,
ok.g a c h,
('S' g),
('ϼ' t),
.compStart,
zs.idxOf y,
hb.2.2.2.2,
Gl X 'ҩ',
('凄'),
Tm p k x y,
L<=8000000,
w∈WS l n,
jC a b x y,
some (I y),
some (I t),
y.2.natAbs,
x.2.natAbs,
"is_whole",
"fraction",
"is_below",
"words_of",
"how_ends",
"is_point",
"names_of",
"kinds_of"],
#["times_of",
"is_fault",
"is_place",
"told_row",
"long_row",
"both_row",
"ends_row",
"_law_may",
"_law_two",
"_law_had",
('吝'),
.function,
.Constant,
PT X a tA,
(.lst xs),
ao 'ԅ',
if_pos hk,
(vs++dvs),
('ɒ' T),
(.lst ys),
(.tup ys),
(.dK kvs),
('ɒ' n),
'乾'::xs,
(.lst vs),
cK src σ,
cX kvs ks,
W.r _ hr1,
"ways_by",
"word_of",
"go_with",
"ends_of",
"time_of",
"has_row",
"any_row",
"add_row",
('倍'),
('伢'),
':' _,
h.get? b,
.inl rfl,
.bl true,
Sem Bool,
(k,v)::r,
'ӈ' A,
y='乱',
['ʕ'],
x='ʔ',
m c=none,
aL a1 b1,
.int (3),
"strict",
(dI 0 n),
(a,true),
'ͽ' h,
"common",
"way_of",
"is_end",
"row_of",
XCl K C,
.inr h1,
"index",
.ref tq,
(.d [])],
#[t.2*u.2,
(aR aF),
Kn m m1,
x.1+x.2,
y.1*z.2,
z.1*y.2,
('&'),
.ref 64,
.ref x,
b∉ex,
ah _ q,
.int a,
xs[k]?,
.inr z,
.ref D,
z∈zs,
c≠i1,
sub zs,
(bJ n),
(12*M),
eN x.2,
(gN 2),
(gN 3),
(gN 6),
u∈us,
gB hr',
"plus",
"less",
∀(hkind:'҃')(hcell:'ѽ')(hnames:'且')(hfree:'亳')(hsrc:'丳'),_,
.(by rintro acc d m' ⟨rfl,_,done,todo,e1,e2,rfl⟩;have e3:'倊':='仇'),
.(by simp only[List.mem_cons,List.not_mem_nil,or_false,not_or]at hb),
.(by rw[List.all_eq_true];intro v hv;obtain⟨z,_,rfl⟩:='僠';rfl),
_ 'b' x y '拨',
_ (pos':=dp) 1 'ʐ',
.(by simp only[RPs]at h;obtain⟨w,r,h1,h2,h3⟩:=h;subst h1),
_ '凙' 0 [] '&' '&' '&' '&' none '&' '&' 0,
∀(hkind:'丘')(hB:'丗')(hS:'丕'),_,
_ tb p w n₀ ann,
_ A outer s H,
_ hkind hcell hnames hfree hsrc hs,
.(by intro '偡'),
∀['ԕ'](K:ad)(mg:'Ɂ')(base:Heap),_,
_ src hc hi hg ht,
∀{k n:Nat}{fa:Addr}['ѣ']{sp:DC},_,
I.laid (a:=s.heap.objs.size),
∀(src:'ɷ')['呀'](he:'Ν'),_,
_ '凹' args us vs Q E,
_ d' m' v' H' h1,
PySem.W.findIn K 'ʸ',
_ 'ρ' dp false 'ρ' dp,
∀(prog:Program)(w:World),_,
∀{prog:Program}{w:World},_,
.(by obtain⟨hr1,hm1⟩:=iG e1),
s.heap.IsSliceOf sl,
_ 'Έ' 'Έ' 'Έ',
.(by obtain⟨o,h1,h2⟩:='养'),
.(by rcases '並' with hp | hp),
_ 'b' x xs v us Q I rx rs,
∀(X:Cx)(e:Expr),_,
wpAny_field ho hd,
∀(hD:'兝')(mu:lN o0),_,
_ prog w A R s hs,
RPs.ext 'х' _ _,
.(by obtain⟨rfl,_⟩:=rd)],
#[.(by simp only[NKV]at h),
∀{k l:Bool},_,
eS g t fE,
_ scope X.env,
cP 'ӥ' 'ҍ',
gK '佁' '亖',
.(by have hs:'佽':='僔'),
_ false true,
_ true true,
_ X.K 'ȿ',
swapsWith e,
topRun '壔',
'倱' h 'Ԝ',
k _ m1 _,
_ i h st b hb,
.(by have e:b=it:='҆'),
∀(scope:Scope),_,
∀{scope:Scope},_,
∀{x:DL.D}{v:V},_,
_ b o _ _ hc e,
k _ m2 _ H2,
RP.reads I,
_ e2 ok2 rd2,
_ X.K Z 'ɬ',
_ f fd ps sp,
_ nm st a ps,
.(by simp[Obj.mapSeq]),
.(by simp[bS,eQ,this]),
∀(l1 l2:Bool),_,
∀['ʤ']['Э'],_,
∀['壑'](k:κ),_,
∀(K:ad)['ζ'],_,
'N' '傕',
'ɍ' 'Ɇ',
_ '佁' '呶',
.str '˫',
.str 'ͳ',
_ 'Ⱦ' .nil,
_ 'ε' st h,
_ K Z' 'ɬ',
_ a vs 'Ι',
bX X '侪',
.ins C dx,
_ 'ҳ' x x',
_ K Z m1 H1,
_ y m1 v H1,
_ y m2 w H2,
PE X '傠',
Ext X.K Z,
_ k l n z w,
PE X '乇',
_ v u Q I r,
Ext 'ϯ',
_ acc 'ʜ',
_ hN hi hx,
_ hs pl pu,
.may a b,
_ b o hc e,
_ i H x H',
bO g b E,
∀(xs:','),_,
by by_cases c:j=k,
.(by show '倦';simp),
ha 'b'],
#['ԇ' es,
'挮' CX,
'挮' cY,
_ I.hok e,
_ hD9 mu9,
dL 'ʘ',
aB '˭',
aB 'Ч',
_ eE '僥',
aB 'Ԃ',
bV 'ε',
_ [] '捀',
hU W.nm,
fD W.tm,
jM '兩',
fi d m2,
_ K Z' m',
t d1 m1,
fi d m1,
['˩','垜','˼','к',some '嗋','Ә','庉','床',none,none,none,none,none,none],
⟨_,_,_,rfl,rfl,rfl,rfl,'尳','尖'⟩,
(wpAny_call_entry PyProof.Rows.slot_tuple_getitem ht.typeIs entry_tuple_getitem ?_ (args_tuple_getitem _ _)),
⟨Z,d,m1,R,ok1,'ɦ',q,fun x2 m2 v2 'ѥ' r2=>k x2 m2 v2 '伿' r2⟩,
fun h' eb=>⟨rfl,'大' (fun b o hb e=>eb b o hb e) f0 f1 f3 f4 f5⟩,
autoParam ('囇'='侟'::starEach [] X.env) zau0._auto_1,
∀ cl C s2 H2 pins fp,PI 'Ѽ' tg2 iter2 '戝',
'咩' (wpAny_newObj_type (af ⟨_,rfl,af h⟩) htake),
∀ cl C s2 H2 pins fp,PF 'Ѽ' ifs2 '抐',
autoParam '孼' zau1._auto_1,
∀ cl C s2 H2 pins fp,PG 'Ѽ' tg2 '抏',
ae ('倫' (x:=.ref TI) rfl (ae (wpAny_seqItems hTI rfl ?_))),
⟨_,rfl,_,rfl,'ɠ' ⟨_,rfl,_,rfl,aV rfl (aV rfl (hN m Kn.refl))⟩⟩,
⟨Z,d,m,_,ok,rs,hf,'宸'⟩,
(∀ c o,c≠z->'孱'),
PySem.W.fnOf x qual '壦',
{s with heap:='完'},
'_' (Builtin.SmallTypes.nextOf (.ref it)) Q E s,
('ʏ' (aD aG (aA 0) (aC (.int 0))) (aD aG (aA 1) (aC (.int 1)))),
(aO 3 (aI 2 iM '寑')),
('儌') / '屍',
'摁' (R.bind (lT p b _ _ _ _) R.pure),
aM '勡' '动',
'_' (getItem (.ref t) (.ref sl)) Q E s,
(A.under ('˔' '惧' ⟨ '倒'::us,kw⟩)),
⟨Nat.le_of_lt (up '傱'),?_⟩,
sH '*' (fun p hp Q' hq=>?_) fun fits hs fl=>?_,
'岯'-'с',
⟨Z,d,m,_,ok,rs,h,fun x '偖' rd=>?_⟩,
.(show its.toArray.any '伫'=its.any '伫' by simp),
('專'>>=_),
aj (by simpa using gl) (show 2000<=9000 by decide),
(kvs.map fun kv=>if '伭' then (kv.1,y) else kv),
⟨_,rfl,_,rfl,_,'Ϊ',rfl,rows,j,rfl,?_⟩,
ae (wpAny_sequenceKey ht.typeIs '+' ?_),
(fun w hw=>kE rx fx r fs w '嚤'),
'嶱'.foldl (·++·) #[],
ae ('倫' (x:=.bool false) rfl ?_),
s.heap.push '喩',
(if '恎'.isEmpty then 0 else 1),
bL ['忧',('ҟ',aL b1 c0)],
PassesOwn 'T' X.A X.env X.xe,
∀ x,foldedSetIterable iter X.env x=pure x,
absurd '怙' 'Τ',
∀ b u,'喵'],
#[{cls:='ʨ',data:='惬'},
(Builtin.SmallTypes.nextOf '叱'>>=_),
.inl (.inr ⟨o,'嚌'⟩),
.(by simp[eD,PyData.depth,PyData.depthAll]),
∀ o,'Υ'->'叢'='Y',
.(by show '哇';simp[RPs]),
codeAny_loop rfl I (fun n s hI=>?_) n h,
fun kv=>'崼',
⟨up '傱',?_⟩,
'6' (Str.ofString "point"),
(h1.at fun o e=>'偅' o D.i1z e),
⟨('^':'俪'),?_⟩,
⟨ '収','ϣ',{},1090,os⟩,
I1.fpOk 'ɑ' ('僖'),
aQ->Mu->α->'幬',
Q (.dat ('a' ('便'))) m,
('ɖ' ('ɓ' 'ҩ' p) 'β' 'б'),
absurd (show '仾' from fx) am,
('呩' xs).flatten,
'摎' (by size_fits),
.(by simp[atKey,List.find?_cons,e']),
fun v '偮'=>?_,
.(by rw[isSubtype_type];kernel_rfl),
'傰'=none,
(iO '懥' (cR A0 B1 C0)),
('乨' .And '懴' pos),
'刈' vl vu .none,
List.mem_map.mpr ⟨_,ha,rfl⟩,
List.mem_map.mpr ⟨_,hb,rfl⟩,
('乨' .Or '懴' pos),
'擳' (.ref f)=true,
Env0 'Ԗ' '凹',
'刟' .ofInt,
(aJ (aD fY 'Ɇ' 'ғ')),
cM '摤',
⟨_,rfl,_,rfl,_,rfl,rfl,?_⟩,
xs.length+ys.length<=sizeLine,
iF '嘔',
⟨h1,of_decide_eq_true h2⟩,
'园'='ц',
('乨' .And (b::rest) pos),
(show u='埭' from ry),
X.K.lookup s1.heap.objs.size,
(pick vs '囑'),
aL 'Г' '俟',
('哮' (aC (.int 2))),
('刴' (aC (.int 0))),
(aB '僓' aF),
fun z hz=>fJ k l z (hw z hz),
('乨' .Or (b::rest) pos),
(by rw[e];show '偋'),
fun Z m H=>'Ѝ',
ts['僃'],
(List.length_filter_le _ _),
s.TypeIs '另' "slice",
Builtin.Tuple.tupleExact _,
decide_eq_false '*',
by simpa only[RPs] using h,
'哛' .ofBl,
.dat (':' (x0::x1::xs)),
('ͻ' (aB (aA 4) aF)),
('亥' (aB (aA 6) aF)),
isTrue c env (eval c env),
mask=7\/mask=31\/mask=127],
#[behindInMarks op b=false,
ae (wpAny_typeOf hTs ?_),
'恎'.length,
Value->','->Prop,
['˅','Ѣ',"x","y"],
(Str.ofString 'ϛ'),
bL ['忧'],
bL [(s00,t00),(s01,t10)],
H a='匎',
(tupleKind_room_in1 hu),
'撤' it v,
List ('$'×PyData),
fun y=>'惋',
aj hln 'р',
(ha 'ҹ'),
.ref s1.heap.objs.size,
((sIx n 0 lo:Nat):Int),
⟨ 'Ҫ',H,I,rfl,?_⟩,
eval '乒' X.env,
('姪' 2>>=_),
('姪' 3>>=_),
'刨' _ y u r2 ry,
('и' (aB (aA 1) aF)),
some ('儋'),
'惚'.Nodup,
I.base.there 'Ƚ' hx,
('墒' .Not a pos),
fun b hb=>('倅').1,
List.nodup_cons.mp nd,
'奝' 0 lo,
(rel.val k).isSome_eq,
bX X (compareOp op) r,
(F.args_zip_next_1 _),
b / '囸',
'俁'.idxOf,
['ʕ','˪'],
('丂' aF),
('Ԩ' (aA 0)),
this.mono '+',
(':' (.str w::xs)),
(hf4.mono '*'),
(tupleKind 'я'),
'憗'='Y',
wpAny_truthy_bool ?_,
some (some 'Ж'),
Str->Option NameKind,
(.dat ('乔')),
RS '刪' d' s',
⟨_,'˾',rfl⟩,
xs.length<=ys.length,
Calls.spliced_nil ?_,
ps'.length=xs.length,
':' '垐',
'撴' M,
decide '懞',
⟨_,rfl,_,rfl,?_⟩,
"special-get-raises",
("__debug__" : Str),
'ʯ' H2 s2,
some ('垥'),
us.length=ps.length,
sIx '妱' lo,
ys.length<=sizeLine,
'ɝ' '坿'],
#[h.Ns '妁',
'戉'.isSome,
ps.length<=sizeLine,
('ͼ' D (.lst zs)),
"reversed.__next__",
"reversed.__iter__",
(zs.map PyData.str),
ZSq l1 s.heap t1 xs,
ZSq l2 s.heap t2 ys,
s.heap.IsList l1 xs,
PairsH H' 'Ϳ' ps',
['ϛ','ͳ'],
List.getElem_mem hk,
PyData.strOk z=true,
its.size<=sizeLine,
Option.some.inj h1,
H a=some '冨',
H a=some '叨',
RPd 'ʖ' kvs vs,
(d.set i ('ɚ')),
PA X es ('佭' g),
H D='儘',
ae (wpAny_rule ?_),
('ԇ' elts j p2),
m2 c='仧',
⟨hk.1,hk.2,r3⟩,
(aC ('堃')),
(iL '懥'),
'倇'.eraseIdx i,
by push_cast;omega,
"Behinds.__init__",
"Behinds.gathered",
(1+(16+(1+(1+0)))),
o.data=.seq its n,
starEach es X.env,
(eval iter X.env),
((p,w)::'墕'),
by simpa using h2,
by simpa using hi,
(m a).isSome=true,
ns.map PyData.int,
(aP m' D '倆'),
by simpa using e2,
standAt iter2.pos,
m2 c='乐',
"__annotations__",
by simpa using q3,
['ͳ','ͳ'],
(aC 'ӱ'),
(aC (.str 'δ')),
('伍')++todo,
decide_eq_true c2,
(Int.gcd T B:Int),
by simpa using e,
'3'->'˽',
pure '厭',
Binds K fd ps [],
⟨os,hos,hcs⟩,
if_neg 'U',
Rd H a '冨',
m a='乐',
'Ҿ' m H',
standAt iter.pos,
α->'ˁ'],
#[fun r s5 hq0=>?_,
m c='乐',
hb.get? b='Y',
⟨21,0,21,11⟩,
h.get? d='Y',
(I.ok.bs 'Ƚ'),
⟨_,ho2,rfl⟩,
'塝'<cLine,
"BaseException",
.dat ('ɝ' ps),
'兜'.ext,
assign tg env v,
(fU '了'),
(pick vs [1,0]),
Fed 20 '佖',
List ('X'),
.(by rw[av];omega),
(f:Int)+(1+s)*i,
'О'<'Ϥ',
"Behinds.words",
(neC 'Ƚ' hx),
EP '倵',
⟨H1,I1,q1⟩,
'偕' a xs,
NoAttr X.K C f,
'ɒ' '増',
some '冫',
⟨v,rfl,h2⟩,
.inl ('伞'),
X.N[j]?='ɚ',
.dat ('a' x),
env.kindOf y.1,
some (.o N fs),
False.elim hq',
List (Str×DC),
Nat->Nat->Bool,
'倇'.map bA,
('作' aF),
Fed b n m0 m a,
some (.cel c'),
bL [(s00,t00)],
"STEP_LENGTHS",
(SP 'ʘ' D),
'剘' H b,
((0:Nat):Int),
(nZ I.hok eb),
h '哾',
(iB he iR hs),
.dat (.int x),
some (some a),
.dat ('倗'),
'偘' M r,
[none,'伲'],
∃ k:Nat,i=k,
(jI hb ha.px),
(iN ha hb.px),
ts='伇',
⟨_,_,rfl⟩,
fD ht (eU hx),
(cnt k).toNat,
(cnt l).toNat,
⟨i,j,rfl⟩,
.body bE env0,
PyData->Bool],
#[isKs ps=true,
α->β->Prop,
(fun _ q=>q),
fun _ _ q=>q,
I.cell 'й',
Hp->VK->Prop,
eval a X.env,
eval b X.env,
IsPart vl lo,
IsPart vu hi,
(2^63-1) / 8,
ns.length<=n,
.FunctionDef,
(rs7.ext e8),
⟨mm,hns⟩,
(chkS.ok hS),
fun c hc=>?_,
(ok3.ext sm),
(pick xs is),
('ѯ' a),
BW '剄',
"_law_found",
"END_COUNTS",
kh P 'ͳ',
Addr×Value,
xs.length=n,
(ps.zip us),
i<xs.length,
n<=sizeLine,
⟨h1,h2⟩,
"__class__",
e1.trans e2,
⟨b,e,q⟩,
y.2≠.cell,
('倅').2,
(ac _).lift,
m<zs.length,
zs.map .str,
jB x='伬',
kA X n v sp,
Int.gcd t b,
.ends i x y,
(bN '˭'),
(bN 'ϧ'),
J i 'ʗ',
eM A0 B0 ?_,
eM A0 B1 ?_,
eM A1 B0 ?_,
eM A1 B1 ?_,
(done++[t]),
n.1*B<T*n.2,
6<=sizeLine,
(us.map tr),
gV nm ht ha,
gV nm ht hb,
n1*k2+k1*n2,
(some (-1)),
('亁':Int),
(fun w=>?_),
H1 w.params,
(':' k),
Heap->Prop,
H b='ɻ',
I.pin p hp],
#[(X.wish E),
K.lookup f,
Option Obj,
(x,c)∈cl,
ao '吡',
dM n lo st,
p.getD i 0,
cJ.idxOf z,
(WB l n w),
.str 'Ԓ',
"_law_top",
(xs.map f),
u∈WS k n,
(jR k n).2,
'V' _ t,
h'.get? a,
H' b=none,
.bl false,
if_neg hk,
(.ref sl),
fun z=>?_,
(.dT kvs),
I.lstM hH,
(.ref fa),
kR l=true,
m1 a=none,
(isK q c),
sp '1',
.ListComp,
items[i]?,
(.ref i1),
(.ref i2),
"__doc__",
sl2 'β',
'ʦ' x.1,
'ʦ' x.2,
'ʦ' y.1,
'ʦ' y.2,
.turned i,
b<=100000,
if_pos c1,
if_neg c1,
if_pos c2,
if_neg c2,
W 'ƶ',
hb.pt rfl,
W.r _ hr2,
fun _=>?_,
(fU P w),
H a=none,
(.own x),
b∉X.fs,
s.toks+1,
(k,x)::r,
(us++ds),
(vs++ws),
.inr rfl,
¬ q.1=k,
h2.ext e,
ok2.l hm,
'亮' m,
'丏' k,
x=.cel b,
cX 'Ͽ'],
#[ins zs z,
(cS k l),
(WS k n),
.any a b,
.int (2),
"number",
jJ ha ?_,
jJ hb ?_,
iU 'ɡ',
p.1=q.1,
.tup xs,
vs=v::r,
List β,
k b u q,
(ag ho),
Q () s',
x=.bl c,
[u1,u2],
-(2^62),
1000000,
some [],
(j:Int),
xs≠[],
nE r fs,
(iE ry),
(v::vs),
some ps,
'ɔ' R,
h.get e,
lo+k*st,
x<cnt k,
.long a,
(jD aF),
(aA 11),
(2:Nat),
(2:Int),
(rng _),
aS done,
(o::d1),
n6 W.nm,
s=false,
"STEPS",
.ref 63,
.(by repeat show '吿'),
.(by first | exact '叿' | refine '吙' | refine '吚' | refine '叀' | refine '叁' | refine '参' | refine '參' | refine 'җ' | refine 'Ӻ' | show 'Ɋ' | show 'Ʉ' | refine 'ә' | refine '力' | refine '剿'),
∀(hc:'ɰ')(hi:'˴')(hg:'Ά')(ht:'΅'),_,
.(by rintro ds m R hl ⟨ts,ps,says,rows,M,st,rfl,W,so,⟨i,j,rfl⟩,hN,hR⟩;refine '傔';refine '劇'),
.(by rename_i p ys;obtain⟨h1,h2,h3,h4⟩:=h;obtain⟨as,ra⟩:='侖';obtain⟨bs,rb⟩:='勨'),
wpAny_callSpecial?_slot (name:='傳') ht.typeIs PyProof.Rows.slot_tuple_getitem,
.(by rw[List.replicate_succ,List.replicate_succ,List.flatten_cons,List.flatten_cons]),
.(by ·show '呆'),
.(by rw[Fast.te10110043849684766642,Fast.te14364793385576792824];kernel_rfl),
wpAny_call_entry F.slot_zip_next hT F.entry_zip_next,
∀(hg:'冁')(hm:'儆')(ha:'ʆ')(hb:'ω')(hs:'傌')(hs2:'傎'),_,
.(by obtain⟨oc,od,kV,doc,pm,an,cdv,ct,osl,rfl,lk,hcd⟩:=F.ex),
.(by obtain⟨os,hos,hcs,hds⟩:=id hs;have hTs:'勉':='卌'),
.(by repeat show '呐'),
.(by subst e3;rw[List.append_nil]at e1;rw[<- e1];exact h),
.(by simp only[RPs]at h ⊢;obtain⟨v,r,h1,h2,h3⟩:=h),
nL PySem.F.slot_dict_getitem.lookup hs,
_ s5 C D H' m' ps q e ok' rd '厡' I5 off,
.(by first | show 'Ɋ' | show 'Ʉ' | refine '全'),
.(by cases o<;>first | exact '久' | show 'ѳ'),
.(by obtain⟨⟨k,l,ha,hb,wl,hw⟩,hs⟩:='冮')],
#[.(by simp[-bind_pure_comp,-map_pure];exact '剻'),
∀{pins:'<'}{s:Shared}{σ:L2.St}{H:Hp},_,
_ '侧' 3 [] '&' '&' '&' '傼' none,
∀(nm:'ɶ')(ht:'ɱ')(ha:'˒')(hb:'伃'),_,
∀(ok:'ə')(rs:'Џ'),_,
∀{apos cpos:Pos}(ho:'僯')(he:'侱'),_,
∀(hfew:'傋')(hline:'亵')(hs:'剫'),_,
∀(l1 l2:Bool)(h:Heap)(t1 t2:Addr),_,
_ P w '8' mg base,
∀{xs:'3'}{us:';'},_,
∀{A:Around}{E:'K'},_,
.(by obtain⟨Z,d,m,ZZ,ok,rs,h,k⟩:=h),
.(by obtain⟨z,its,n,r,hl,e⟩:='叩'),
.(by refine '侏';refine '勔';rw['ӛ']),
_ I.kIn True.intro e 'л' h,
∀{K:ad}{Z:'7'},_,
.(by try show '呲'),
∀(hg:'ˇ')(hm:'俣'),_,
Heap.get?_update_self _,
'拫' hT F.slot_zip_next,
.(by obtain⟨its,rv,p,hz⟩:='ч'),
List.mem_append_left _,
List.replicate k.toNat,
_ (t':=s.toks) '僗' 'ɑ',
∀{nm:Str}{st:Stmt},_,
.(by obtain⟨k,rfl⟩:'厈':='僇'),
.(by subst ex;obtain rfl:'令':=rx),
.(by obtain⟨hp,g,d,tk,os⟩:=s),
∀{y:V}{u:Value}(ry:'˓'),_,
.(by intro wh 'ȷ'),
.(by first | refine 'ш' | skip),
.(by with_reducible refine '侸'),
.(by obtain⟨hr2,hm2⟩:=iG e2),
RelO.some_of (v:=v),
List.map PyData.str,
_ '*' '+',
Nat.le_add_right _,
∀(K:ad)['于'](xs:'3'),_,
_ l1 l2 s.heap t1 t2,
k _ m1 H1 _ q 'Ԡ',
∀{kindOf:'匀'}{x:Str},_,
Nat.le_trans '勈',
_ d2 m2 s2 'ѥ' rs2,
∀{H:Hp}{a b:Addr},_,
_ d2 m2 s2 '伿' rs2,
.(by obtain⟨o',e1⟩:='勬'),
.(by intro '哒'),
List.replicate k,
List.replicate n,
RPs.tr0 ht hl hf,
_ '厂' '壩' hs rfl,
.(by rw[List.length_append]),
.(by rcases hq with hq | hq),
_ rfl rfl,
∀{us:';'}{vs:'3'},_,
.(by refine '侃';refine '劀'),
_ W.nm W.tm ha hb,
_ I ok rs hD ha q,
∀{t:Addr}{xs:'ċ'},_,
_ true false,
R.bind (N1:=1),
Value.str '侗',
_ '厕' 'ӧ' '儑',
PI X '匪' '劣'],
#[_ f0 f1 f3 f4 f5,
_ c ob q n hc hx,
ExtW K Z D m H,
.(by obtain⟨h1,h2⟩:=h),
∀{items:'ċ'},_,
∀(kvs:'Ɏ')(k:κ),_,
∀(g:'亷')(c:'乚'),_,
∀{i:Int}(h0:0<=i),_,
_ kindOf '匷' m,
findIn K 'ʸ',
ok2.put hm g1,
_ '刂' h2 h3 h4,
Turn P w K tg,
_ H' q 'Ԡ',
.(by simp only[NKVs]at h),
∀{b:Addr}{o:Obj},_,
∀(X:Cx)(st:Stmt),_,
∀(X:Cx)(st:'ɪ'),_,
wpAny_mono h,
wpAny '价',
congrArg not,
∀(hn:'佹')['壖'],_,
ae (m:='勊'),
∀['ɀ']{zs:'$'},_,
∀['倷'](z w:Str),_,
_ [] 'Ҕ' m1,
_ 'J' '剦' m3,
qS 'Ε' 'Ε',
_ 'Ԟ' _ I2 q2,
_ pins s1 σ _,
.(by have e':'同':='僋'),
.(by have n6:'Ψ':='丨'),
∀{H:Hp}['ɀ'],_,
.(by subst e;exact '加'),
∀{f:Addr}['ѣ'],_,
backTo cpos,
∀['呜'](h:'ʩ'),_,
∀(i:Nat){x:Str},_,
∀['呗'](h:'吮'),_,
∀['壝'](h:'ʧ'),_,
∀{l:Bool}['ˌ'],_,
c4.extBut _,
_ '咈' rfl hc,
_ 'Ξ' 1 '倶',
_ D hz ht hTI,
Tch fr xs h,
_ o0 o1 o3 o4,
_ i h h' st k,
k d _ s _ q,
_ I ok rs h ?_,
_ '凹' vs Q E,
∀['Ѧ'](σ:St),_,
.(by show 'ұ';subst h),
∀['ʍ'](sp:DC),_,
RP.tr 'ӧ',
_ false rows,
segGo '凸',
Meth X.K C,
_ 'ҷ' m7 H7,
_ '捐' t1 t2,
_ rb ra '壼',
_ h' tk 'Ι',
_ m' q0 'Ι',
_ 'b' R I h],
#[_ 'b' Z d m,
∀{lo hi:'ɢ'},_,
.(by simp only[au,bO]),
∀(K:ad)(H:Hp),_,
∀['刍'](t:TT),_,
∀['呝']['Ҹ'],_,
'ʽ' '僿',
_ '勜' '厀',
'删' '亃',
∀['呢']{m:Mu},_,
_ scope env,
∀(g:DG)(t:DT),_,
'刕' 'ҍ',
_ 'ҷ' 'ɬ',
'N' '勦',
'N' '勧',
'N' '劄',
'N' '劔',
CalM '呛',
_ ']' '`',
_ 'M' ']',
'ɍ' 'ɜ',
.str '˕',
.str 'ʭ',
_ 'Ε' 'Z',
_ 'ΐ' 'б',
_ 'ʟ' 'ʟ',
'ɍ' '=',
PA X 'ΐ',
bX X '儀',
_ hit ht hx,
_ X.K X.w c,
_ e2 ok2 r2,
_ K H' a xs,
_ b u q n _,
_ K f s H Q,
T.obj _ _,
PE X '依',
Zst l1 l2,
SqL K H a,
by by_cases hb:b=a,
∀{N ps:'$'},_,
HOk '了',
_ _ ('ʺ'),
'V' rfl,
absurd q,
RDs 'ϯ',
_ pos 'b',
RPs '亏',
Ext '佇',
Mid '亏',
vis mask,
Lay mask,
fin 'ε',
R.leaf 1,
_ e1 e2 e3,
upd H1 p,
MtR X id,
_ H h 'Ԝ',
_ K Y 'ɬ',
'乛' e 0,
_ '刜' m H,
_ a t' b t,
DGet H a],
#[_ 'ҷ' m H,
.gap x y,
_ _ _ racc,
(⟨ 'ʵ',none,'ȵ' #['攻' 182,'攻' 183,'Ƀ' 184,'倂','5','5','5','5',.ref 11,'乔','ʪ',.ref 12,'&','&','&','&',.int 185 0,'倂','Ƀ' 186],#[]⟩),
∀ b∈ch,'岣'/\'侶'/\'嫁',
(⟨ '懫',none,.plain,#[some (.ref 13),'垞','垞',none,some (.str "__main__" 164),none,'懬']⟩),
autoParam (swapsWith '佸' (some ('兴')) spos.line X.env=pure true) zau0._auto_1,
.(fun '˛'=>by rw[Fast.te10295753902157049106,Fast.te14364793385576792824,Fast.te11445937954039399578];cases bb<;>kernel_rfl),
PS X ('ͱ' ['兴'] '佸' spos) ('ʛ' (aO i (cH src fi g t f))),
PE X 'Ξ' ('S' (mQ src fi g t fi2 g2 t2 f)),
'唞'=true,
[Value.type '戋','恕','ɒ' '卛','卬'].contains '冩',
'幅'/\'儏'/\'抗'/\Q (.dat ('a' (! '弱'))) m,
callWith pos f first (backTo pos ('噖')) (backToKw pos '廖'),
'咩' (wpAny_newObj_type (ae (af (af ⟨_,rfl,af h⟩))) htake),
ae ('咩' (wpAny_newObj_type (af (af ⟨_,rfl,af h⟩)) htake)),
('媟').objs.size,
∀ d m' v' H',R d m'->'仍'->'尃',
('剜' (aB (aD aG (aA 9) (aI 2 bU (aB (aA 0) (aB (bG cA (aB (aA 9) aF)) aF)))) aF)),
ae ('剭'),
'҂'/\'ӕ'/\∃ vs,'ҕ'/\'廌',
(∃ o,h'.get? e='Y'/\o.cls='噸')->E (.ref e) 'ψ',
'_' (Builtin.Slice.sliceApplied (.ref sl) (pure (n:Int))) Q E s,
'媨'.2.1,
('嫏').map bA,
PE X '佸' ('S' (cH src fi g t f)),
PE X '佸' ('S' (mF src fi g t f)),
{s3 with heap:=s3.heap.push {cls:='坸',data:='ȵ' #[vl,vu,'&']}},
autoParam '孼' zau10._auto_1,
autoParam (X.fn y=true\/'喊') zau10._auto_1,
(by first | exact .inl 'ɵ' | exact .inr 'ɵ'),
⟨Z,d,m,_,ok,rs,h,fun 'Ԥ' ⟨c,ex,⟨xs0,hx0⟩,q⟩ 'Ѳ'=>?_⟩,
.(show dS f v ('合')=(if k=f then '冾' else (k,x)::dS f v r) from rfl),
(fun p hp=>by show '攥';exact⟨y,rfl,hy⟩),
(aB ('ʏ' (aD aG (aA 0) (aC (.int 1))) (aD aG (aA 1) (aC (.int 1)))) aF),
('悱'&&env.scope.kind=='冞'&&env.kindOf n=='ц'),
∀ cl C x,'夙' (compEnvC scope cl C X.env) x=pure x,
⟨Z,d,m,_,ok,rs,h,'宸'⟩,
'掶' (.ref D) C (.ok .next) s5,
∃ zs:'$',ys='厸'/\'喘',
('丄' (aB (aC (.int 1)) (aB (cU (aC (.int 1))) aF))),
(s.heap.push {cls:='ʨ',data:=.seq ([]:';').toArray}),
⟨gU ts,by simpa using uM ts,sz (by simp[gU];omega),'厣'⟩,
autoParam ('囇'=['侟']) zau0._auto_1,
'ӳ'+('劁'),
⟨l,vs,rfl,eI ok hl,'Ί','帉'⟩,
('ʏ' (aD aG (aA 1) (aC (.int 0))) (aD aG (aA 0) (aC (.int 1)))),
'勰'=0/\'嶀'=xs.length,
(backToKw cpos '廖').all (fun x=>x.1.isSome),
'屭' fun y=>'兄',
.mk <| fun '偤' w=>h '偤' '党',
(.dat (':' '屆')),
('撫' fun x s'=>R (.error x) s'),
∀ x,'侁'->∃ c,'取',
('撵' cdv A outer s H E),
fun x=>'庲' '募',
(aB '丧' '巧'),
(hs.2 b (ao ('佗' (I.ok.cab x c hfn hc)))).trans,
⟨ '庤','庤'⟩,
Q '啔' m2,
'坔'='ц'\/'坔'='ӵ',
('ɴ' (aI 2 gY (aB (aA 1) (aB (aA 0) aF))) (aA 2)),
'夋' N='彪',
.(if v<0 then (v+'ˆ').toNat else min v.toNat n)],
#['嗠'-'匐',
('培'.map '嗔'),
FnOk '倧' CX k '别',
⟨_,_,rfl,rfl,'什'⟩,
c='џ'\/c='倕'\/c='乽'\/c='ʓ'\/c='Р',
af ⟨plainId_quiet '搹',?_⟩,
w∈ '啤',
(kvs.find? '僁').map 'Ϧ',
Cal '倧' '刬' k sp,
∀ vs H Q E,'兗'->'徤',
(aR '屘'),
{cls:='ʨ',data:=.seq '倸'},
(h.push '喩'),
ZNew 'ʘ' '丑' '姺' 'Ϳ',
(.dat (':' '巃')),
autoParam (NC=sK [tg] src X.N) zau0._auto_1,
['˕','К','Л','ʭ','ɫ'],
(['ɫ','Ц','М','δ']:'$'),
('˞' (aB (aA 0) (aB (aC (.int 5)) aF))),
'嘔'.mono '+',
Ga '圣' m' '做' f k l n done,
'享' {s with heap:=h',toks:=t'},
(hs.2 b ('帯')).trans,
⟨_,rfl,'劳'⟩,
('卝' '嘰'),
Around.under_plainId '搹',
(upd '嚴' x ('刽' [])),
['˕','і','ї','ј','ɫ'],
.(by simp[PyData.canLayAll0,PyData.depthAll]),
some '喜',
some (.dat (':' ('叛'.map .int))),
autoParam ('僴') zau5._auto_1,
autoParam ('僵') zau9._auto_1,
autoParam (hW X.env.scope y) zau9._auto_1,
(Builtin.SmallTypes.nextOf '史'>>=_),
∀ b o,'ϊ'->'仜',
SetTable.below (sl2 zs).toArray (kC zs z),
∀ b,b≠c1->(m b).isSome=true->'墯',
∃ sl,'俵'=some {o with slots:=sl},
I3.kept (t':=s3.toks) '忽',
ZipApart '夏' a1 a2,
'夺' (to zs z),
some (.dat (':' ('吕'.map .str))),
.inr (.inl ⟨_,rfl,sz '*',?_⟩),
'携' fun b o e=>ah _ e,
⟨o,e,fun v z=>by rw[d]at z;cases z⟩,
'偣' h (ok.ext sm) (ok.grow sm) ?_,
autoParam (X.N[i]?='С') zau0._auto_1,
'偣' q (ok.ext sm) (ok.grow sm) ?_,
⟨sz '傱',?_⟩,
(TD fS '偸' 272),
(TD gE '偸' 275),
(TD gJ '偸' 278),
'Ρ'->'仜',
X.env.scope.names.lookup x='件',
X.env.scope.names.lookup y='件',
['ԇ' ['佰' px,'兴'] kt pt],
'亾'=true,
('˔' "getset_descriptor.__get__"),
ae ('揽' ?_),
codeAny_builtin F.entry_extend_loop ?_,
L2.isKs ks=true/\'弉',
[.inr y.1,.inl (if y.2 then 1 else 0)],
(TD fS '偹' 272)],
#[(TD gE '偹' 275),
(TD gJ '偹' 278),
('ͱ' ['仏'] e pos),
{nx:=fun _ m=>R '仰' m,rt:=R},
codeAny_of_tree (wpAny_notedAt start),
Q (.dat ('a' (! '便'))) m,
('予' (.tup [x,y])),
Ext '亏' 'Μ'/\'態',
'唄' m3 H3/\Ok '佋',
(.dat (':' '强')),
('и' (aB (aD aG (aA 1) (aA 0)) aF)),
('嵔').abs,
.(let ⟨q,_,_,hq,_⟩:=dd';'堧'),
'ɖ' ('ɓ' 'ҩ' p2) 'β' [] pos2,
⟨y,H2,I2,r2,dy,m2,rd2,q2,e2,ok2⟩,
["self",'ʹ','ѡ','љ',"key"],
(aB '傩' aF),
('偵' aF),
['Ԍ','ҧ','Ҧ','ѡ','љ'],
('佝' aF),
rest=todo.map (fun z=>'Ό'),
⟨rfl,rfl,'ɸ',_,rfl,?_⟩,
{cls:='Χ',data:='Ϩ' #[]},
(e1.trans '嘰'),
fun u=>'巇',
(by show '夨'),
some {cls:='&',data:='ȵ' ps},
fun us s1 '彝'=>?_,
'擋' s.heap.objs.size,
'廗'='件',
⟨x,H1,I1,r1,dx,m1,rd,q,e1,ok1⟩,
some (.dat '廰'),
some ('仂'),
some ('嗸'),
'冺'='ɻ'->'俵'='ɻ',
'撗' (.ref fa)=true,
(rT '呹').objs.size,
.inl ⟨rfl,vs0,'慏'⟩,
(dQ '`' '剛'),
some (.dat ('ɝ' (iT.map .str))),
some ('傶'),
k b o (fun z=>hc (by simp[z])) e,
List.getElem?_set_ne ('塧'),
'妟' .ofInt,
aQ->Mu->α->('垽')->Prop,
'廝'<=sizeLine,
!w.params.followText "set-order",
dA 'Г' '俟' n s,
(kT '˫' '伅' '='),
⟨_,rfl,_,rfl,_,_,rfl,rfl,?_⟩,
(':' '庿'),
.l ('巳'),
∀ f,RelO ('俢') (mA f),
('Ɂ')->'叐',
⟨ '垂','兙'⟩,
.(show A.in1.handled=none from hh),
(.dat ('ɝ' ('卷'))),
.(by subst z;rw[r]at mu;exact mu),
backTo pos ('匵'),
'摡' qual=true,
(PySem.F.args_tuple_add_2 _ _),
vs.any '僁',
if_neg ('僋'),
fun v' H3 y=>.inl ⟨y.1,?_⟩],
#['揕' x y,
fun z=>.dat ('圗'),
mY '摤',
List.mem_map.mpr ⟨_,q,rfl⟩,
'园'='件',
'唏' it (.ref D) env,
('搭' hd),
('不' b (.tup (ks.map kV))),
'ϲ' (Ne.symm Sz) b1,
(aB '丧' aF),
m' c'='噋',
.int (if i<0 then -i else i),
PySem.W.isFn K 'Ж'=true,
sIx '揸',
Option.map_eq_some_iff.mp hw,
by simpa only[RD,RP] using h,
'慐'/\Q 'ϟ' m,
ZipApart '哎',
(show u='抠' from ry),
(aP m2 c (.d (dH kvs more))),
(aP m3 c (.n (fB kvs ks x))),
R '庭' m3,
['˅','伌',"a","b"],
('偒' (aC (.int 2))),
('哨' (aC (.int 1))),
([-2,-1,0,1,2,3,4]:'Q'),
⟨xd.1,'-','-'⟩,
PyData.tuple '愎',
cZ ('ѯ' x) ('ѯ' y),
fun '˛'=>'ʴ',
(I.base.keep '偁'),
Int×Int×Nat->'ː',
xs.length*k.toNat<=sizeLine,
'恜'<=sizeLine,
Q (.dat (.int xs.length)) m,
∀ ds m R,'叮'->False,
('乢'+'伜'*'Й'),
.dat ('匇'),
-dJ k l (eN y.2) ('凧') z,
['˅','伌',"name"],
'援' hp,
(ks.map '怭'),
List.getElem?_eq_getElem hi,
(ha pos 'ҹ'),
PySem.W.hasDictIn K C=true,
(af '噭'),
(sliceBounds 'ν' none n),
∃ as,Reads s.heap u p as,
'Θ' (upd H l (.lst vs)),
(fun x hx=>hf x (aq _ hx)),
(hs.2 b (neC 'Ƚ')).trans,
wpAny_noted (start n s hI),
'Ӫ'.all fT=true,
s.heap.IsTupleIter '偽',
ae (ae (wpAny_onRaise ?_)),
(∃ ys,m1 c='埃'),
ae (ae ('侸')),
List (','×PyData),
.dat ('ɝ' '俓'),
dJ k l ('凧') (eN y.2) z,
('ʱ' (aB (aA 0) aF)),
('偶' (aB (aA 3) aF)),
('作' (aB (aA 5) aF)),
('ɨ' (aB (aA 2) aF))],
#[['˅','伌','Ѣ'],
(gG 'Ъ'),
('Ә'::d1),
env.cells.lookup x='њ',
X.s₀.heap.get? b='Y',
I.base.slot '偁',
('Ϟ' a [op] [b] pos),
beq_eq_false_iff_ne.mpr h,
H1 s1.heap.objs.size=none,
fun f vs=>PySem.call f vs,
'恠'∈names,
∀ b∈fp,'剘' H2 b,
'搐' k,
R '匁' m3,
['˕','Х','ɫ'],
('係','凓'),
aV 'ɵ' ?_,
aU 'ɵ' ?_,
0<mo.1\/(mo.1=0/\'吻'),
'6' "turned",
'6' "behind",
(I.base.free '佫' hx),
hb '妷',
∀ b∈fp,'卾',
(PySem.W.plainGet_of hg),
its.toArray.size*k.toNat,
mg d.name='坜',
'哺' (ns.map V.int),
if_pos ('儃'),
(e2.trans '憰'),
⟨_,'˾',rfl,rfl⟩,
pure (ForInStep.yield r),
CompE e '姖' emit,
Option (Value->Sem Unit),
(∃ mm,s5.heap.Ns C mm),
('˔' '坽'),
'偻' a (zs.map V.str),
jK '乊'='伟',
(vU a h.1 b h.2.1 'Ԑ'),
'俀'%'ҝ',
['ʹ','ԋ',"x","y"],
⟨cl,none,.plain,#[]⟩,
⟨x','伢','伣'⟩,
⟨σ',H',I.unwish,q⟩,
fun _ _ z=>'懵',
ao (Nat.lt_succ_self _),
(Heap.IsSliceOf.new ..),
('˔' '俜'),
(z==x||'便'),
min xs.length ys.length,
'擌' items,
acc.toList='戨',
pick '撛',
(t / '囸'),
some (.l '俓'),
.(if '乮' then a else b),
some (.l '垏'),
some '仕',
fun x hx=>h x (aq _ hx),
⟨trivial,'ğ'⟩,
'6' "ends",
(Str.ofString 'ɫ'),
('擋' dx),
e=x\/H e=some '吅'],
#[∃ u,h'.get? e='ɻ',
(h 'b' _ I hw),
(ho 'ҹ'),
starEach 'ΐ' X.env,
(.Slice 'ν' none p2),
.ref s3.heap.objs.size,
(its.toArray.size:Int),
sysModules<h.objs.size,
fun kv=>(kV kv.1,kv.2),
((its.size:Nat):Int)*k,
HT.sIx '妱' lo,
Vals 'Ӫ' us,
(':' '優'),
Q ('Ҋ') m,
.ref s'.heap.objs.size,
'摚' i,
(intBits_le_iff.mpr h),
':' ['凞',.int b],
some '悋',
⟨r.toNat,'-'⟩,
fun w=>decide (w∈fs),
String->Option Builtin,
(Str.ofString '˕'),
(assignEach es X.env),
('ԇ' 'β' k2 pt2),
ObjM s.heap x dx C mA,
(af ⟨_,rfl,af h⟩),
(fun v _=>v='冼'),
'扺'->'˽',
.inl ('卯'),
Q ('仟') m,
Yld 'ʖ' x v H2 H3,
'慕'='Y',
RD 'Ӏ' H x v,
.(by rw['乻'];exact h1),
(yU hDo mD ar ar' rc),
'圖'<2^63,
'ɒ' '圹',
by simpa[RPs] using h,
(Str.ofString "keys"),
(c==sysModules)=false,
('惾'>>=_),
(SetTable.turns mask),
∀ z∈ws,'Е',
(aB (aC (.int 7)) aF),
(aB 'у' aF),
('Ԩ' (aA 2)),
[none,'伲',some 10],
t / ('去':Nat),
(hf6.mono '*'),
∀ p∈L,'堙',
(a.free c ob q n hx),
'哽' H' h',
(false,'厙'),
scope.names.lookup y,
'ɢ'->'˽',
d.params.defaults=[],
.(by rw['乻'];exact h),
s2.heap.objs.size<=C,
fun e=>h1.2 (.inr e),
(by simpa using hu1),
(by simpa using hu2),
ZH h' 'ѫ' T true,
fL sl led ('吓')],
#['姴' (jZ zs z),
':' '懓',
(aC (.str 'К')),
(aC (.str 'Л')),
(aC (.str 'М')),
(aC (.str 'ή')),
(D.dat∘PyData.str),
.(fun p hp=>nomatch hp),
some ('以'),
some ('仦'),
List.cons_ne_nil _ _,
s.heap.objs.size<=a,
(σ.set i '休'),
(by simpa using hu),
'ӊ' f pos',
.(by have:=r.un;omega),
standAt apos.atName,
(by simpa using hw),
(fun x1 x2=>x1++x2),
.Pass '憨',
⟨h.1,e.c a h.2⟩,
(Ext.cell ok hp hk),
[s1.heap.objs.size],
b=s1.heap.objs.size,
LSp K n sp '一',
Ext '刿' 'ɬ',
⟨tg,iter,ifs,0⟩,
'偫' s5,
(by simpa using e1),
items.toList.drop i,
rs.length=qs.length,
m2 b=some (.d more),
o.data=.set es ep t,
('ͼ' dx (.own x)),
x.1∈ 'ύ',
(aE (aN ']') aH),
"_law_telling_here",
(ws.map PyData.str),
('Ҡ',aL b0 c1),
('Ҟ',aL b0 c0),
Bool->'ː',
'偉' H1 h h1,
fun z=>he (hx b z),
(compareOp .NotEq),
(compareOp .IsNot),
'敌' ds,
some '儤',
H p='坖',
.(if b then 1 else 0),
fun _ e=>'щ',
xs.length<sizeLine,
(.tup '扸'),
starEach [e] X.env,
⟨ob,h1,h2.2.1⟩,
(af '儨'),
o.cls='Χ',
pure (.done 'ў'),
decide (x∈ 'Γ'),
fun v q=>'塑',
"dict.update.loop",
[s.heap.objs.size],
m2 c='仩',
(bZ vs.length i j),
m2 c='俒'],
#['Q'->'乡',
List (','),
TSetN P w R h a zs,
z=.dat ('ʈ'),
decide ('Ϝ'),
decide (0<=i/\i<n),
['˅','倉'],
(aC (.str 'Х')),
(aC (.str 'Ц')),
(aC (.str 'ҥ')),
'吵'^20=1048576,
∃ X,X='ѱ' x,
∃ Y,Y='ѱ' y,
decide_eq_false c2,
([1,2,3]:'Q'),
SG k l a0 a1 b0 b1,
X.1*Y.2 + -Y.1*X.2,
List.mem_map.mp hp,
(pyHash '冷'),
(pyHash '冸'),
(pyHash 'ӻ'),
(jU 'ѹ' x x' _),
boot_heap w.params,
','->Bool,
decide_eq_false e,
'偊' o,
sc.names.lookup x,
some 'ӱ',
World->'叐',
Ext.put ok3 hm g1,
Ok 'Ӏ' H,
Nat->'ː',
RS 'ϯ' d σ,
(.Dict [] 'б'),
by simpa using hn,
PairsH H 'Ϳ' ps,
('吐').isSome,
('去':Int),
('Ϥ'-'О'),
ds=['˪'],
(fq 'Г'),
Int.gcd x.1 x.2=1,
.two 'М' i j,
(aC ('叜')),
[o,'˼'],
[s00,s01,s10,s11],
Int.mul_pos x0 y0,
.(fun q=>by cases q),
'乙'.length,
decide_eq_true ?_,
(Int.le_of_lt hg),
(jU 'ѹ' x x _),
fun 'Ƚ' hx=>?_,
.(by show '亢'),
Value->'塗',
('˔' "abs"),
beq_iff_eq.mpr h,
typeIs_str s z t,
·.setIfInBounds,
(binaryOp .Mult),
decide_eq_true e,
Rd H a '叨',
(bW kvs '交'),
'习'/\¬ Z a],
#['ɿ'->'έ',
RP 'ϯ' p v,
List (Option α),
(items.size:Int),
':' [z.1,z.2],
cM '妢',
'丏' ks='͵',
z=.dat ('a' k),
aP m x '塷',
.dat '仳',
by simpa using g,
(some hs.length),
u∈ '厧',
['倉',"many"],
(.l (fs.map bA)),
(done.filter pr),
(aP m f '凒'),
decide_eq_true c,
(xJ p b 'ƶ'),
(jA h H).get? b,
List ('Ӿ'),
(I.freeC 'й'),
AllBare s'.gens,
⟨v,H,I,r,h⟩,
Nat->'叐',
(compareOp .Eq),
decide (x=.non),
(xs.length:Int),
.str ⟨#[c]⟩,
(xs.eraseIdx i),
List (aK×Addr),
EntX K H o u vs,
K.lookup p=none,
⟨ps,e,hz,q⟩,
"tuple.__mul__",
L2.St->'˽',
(by rw[hs];rfl),
Off 'ʘ' H' C,
"StopIteration",
.dat ('ɝ' qs),
(by rw[hs,hs2]),
RPs 'Ю',
'吐'='͵',
xs.length<=1000,
'ӄ' H l1 xs,
'ӄ' H l2 ys,
qs.length<=1000,
(ps'.map V.ref),
⟨o,ho,hx.1⟩,
(σ.set i none),
zO ps N sp body,
decide (kv.1=j),
(aB '吴' aF),
'伙'.filter,
(∃ o,d=o::d1),
some (I (bJ l)),
some (I '凥'),
'凗'<'凘',
decide (p.2<=t),
dA t u n s=true,
'墼'='伱',
⟨20,0,20,5⟩,
NKVs K H ps vs,
RelV p.2 q.2.2],
#[h.objs.size<=a,
X.env.kindOf x,
(fun _ _ e=>e),
some '冡',
'ӄ' H a xs,
(sizeLine:Nat),
fs.length<1000,
'妫' i,
xs.all fT=true,
some '只',
fun '!' h=>h,
pds xs='吭',
(.List es pos),
e.l 'ѷ',
"__qualname__",
Room '˗' X.A,
(fL sl led zs),
[dF a].toArray,
(XP 'ʘ' EX),
.two 'δ' i j,
(aB 'ԍ' aF),
Fed b n m m1 a,
⟨true,rfl⟩,
some (I (1+s)),
.(by rw[bC];simp),
"Behinds.mays",
(.body b env0),
a<h.objs.size,
fs.map 'Ͷ',
.(by rw[q];simp),
fun 'й'=>?_,
⟨H',I',q⟩,
some 'ʉ',
Data.fields _,
(hi-lo).toNat,
('ɒ' 'џ'),
False.elim hq,
'ɒ' "slice",
s.heap.get? p,
.int z.length,
(fun x=>!x.1),
s.heap.get? l,
"list.append",
l.most=some n,
(ns.map .int),
List (TE×TE),
some 'ʸ',
fun a c h=>?_,
.dat (.int k),
(q 'ƶ' w),
ps[i]?='͵',
fun x c h=>?_,
NC[i]?='ɚ',
"tuple.index",
'凟'='ɚ',
ys[k]?='С',
Int.le_refl _,
kZ m x='͵',
(n-lo-1) / st,
'佲' kvs xs,
(is.map .int),
(ws.map .str),
"_law_bottom",
∃ k:Nat,r=k],
#[done.length<6,
fun m2 k2=>?_,
(k1.trans k2),
fD ht (eU hy),
'凈'∈ts,
some (.cel f),
(cR A0 B0 C1),
(cR A1 B0 C0),
cW (fO nm hx),
some (.cel w),
"__weakref__",
some (.ref 3),
(boot_o_10 P),
some (.ref 6),
(SB w os).abs,
Value.bool b,
xs.length<=i,
'3'->Prop,
'刽' fs,
env.kindOf x,
'ԥ' h,
I.kIn a o hk,
'佰' pos',
decide (i<j),
NoAttr K C f,
Room '˗' A,
Q '乞' s,
SqL K H p xs,
I.hok p _ hk,
False.elim h,
(bW 'Ͽ' v),
kvs.length+1,
(bW 'Ͽ' y),
'唒' y o,
('伬'::ks),
'ɒ' "type",
Mu->DK->Prop,
fun t ht=>?_,
e12.trans e3,
List.range n,
(d[j]?).join,
('ͼ' D o0),
α->'έ',
eval elt env,
items.size-k,
zs.map V.str,
zs.map V.int,
ZSq l h t xs,
some (.l ys),
"__module__",
acc.length+1,
ok2 a b=true,
(hr.mono hk),
('ѯ' b),
ts.length<=4,
.str 'ͳ',
"_law_names",
"_law_world",
('ѱ' e),
(todo.map _),
fun z hz=>?_,
(hd p).mp hp,
.(by rw[h];rfl),
('ѯ' c)],
#[(boot_o_0 P),
(boot_o_1 P),
(boot_o_7 P),
(boot_o_5 P),
(boot_o_9 P),
(boot_o_2 P),
(boot_o_4 P),
(boot_o_8 P),
(boot_o_6 P),
(T6 es w os),
KTup K a xs,
NKV K H p v,
h.Ns1 dx mA,
('ͼ' x o),
X.fn x=true,
tn i s.heap,
(dS f v fs),
Vals dvs ds,
i<vs.length,
'ί' > 0,
-'ˆ'<=i,
xs=['ң'],
⟨t,rfl⟩,
(if_neg hb),
'V' ?_ ih,
r.repl k ry,
Value.ref b,
('Ѷ' o),
fun b h=>?_,
xs.length-i,
(xs.drop i),
i=xs.length,
(vC (X:=X)),
cl.lookup x,
fun a q=>?_,
rawInt (-1),
zs.map V.bl,
'凟'=none,
(ps.zip qs),
ok3.grow sm,
(dH [] kvs),
0<qs.length,
zs.length+1,
lA 'ˋ' n,
oG nm st ps,
Int.gcd a b,
.dat (fq x),
.dat (bA y),
.str 'Ԋ',
(bN ']'),
(bN '='),
(pJ '='),
"_law_many",
"_law_rows",
(I 'Ͳ'),
(ys.zip ks),
if_pos this,
⟨x1,x2⟩,
⟨y1,y2⟩,
⟨uA,?_⟩,
⟨vA,?_⟩,
⟨wH,?_⟩,
⟨vD,?_⟩,
⟨uJ,?_⟩],
#[⟨zS,?_⟩,
⟨vI,?_⟩,
(aD op f g),
qA '偢',
bD ac1.symm,
A*n.2<n.1*P,
Ix b rows p,
['ɓ' _ _],
(':' x),
K.lookup a,
tb 'ʎ' Q,
h.ok I.hok,
(st::rest),
(stat fr5),
some false,
sO '剖',
I.tuple ha,
r x 'Κ',
(acc++its),
H a≠none,
⟨q,hq⟩,
fun _ h=>h,
(aD r f g),
(LG X.K g),
(lk x c h),
"__next__",
k '剌',
hb.2.2.2.1,
_::_::_::_,
(dH acc r),
'ʕ'::xs,
Room j X.A,
R (I r) m',
.str "gap",
2147483629,
"_law_row",
m c='ɚ',
some (I f),
⟨c,?_⟩,
(h.st rfl),
n<sizeLine,
x.1.natAbs,
y.1.natAbs,
'剟' ha,
'剟' hb,
fO W.nm hy,
List Frame,
(.Pass q0),
.int 101 0,
"__dict__",
.int 114 0,
.int 122 0,
.int 167 0,
.int 200 0,
.int 213 0,
.int 256 0,
.int 287 0,
.int 292 0,
.int 295 0,
.int 345 0,
.int 358 0,
.int 392 0,
.(nomatch q),
Option HO],
#[.int lo t,
K.In base,
Str->Bool,
.(nomatch z),
Sem Value,
PE X b tb,
I.tuple h,
rv.get hx,
r 'ʳ',
fun b=>?_,
A.units+1,
PA X es t,
rK CX X E,
(f,first),
if_pos h1,
fT x=true,
fun q=>?_,
'Ϩ' kvs,
m' a=none,
tr _ _ h2,
Ne.symm e,
(.tup vs),
r2.ext e3,
('ɒ' c),
(aT N ds),
(aq _ hy),
H1 D=none,
.ok 'ў',
m' D=none,
KT K a zs,
r1.get e1,
r2.get e2,
Option β,
ok1.l hx0,
I.list g1,
r1.key hk,
(.o N []),
tU (dF a),
both=true,
Row->Bool,
"sayings",
["times"],
[s00,s10],
[s00,s01],
(ps++[p]),
(a,false),
Stmt->Pos,
.int 28 0,
.int 47 0,
.int 66 0,
.int 78 0,
.int 83 0,
(.ref 58),
.str x t,
.frz o u,
HO->Prop,
Rd H a u,
oS (H x),
k 'Ͻ',
(pN h H),
id I.loc,
PT 'λ',
'Ѹ' t,
.UnaryOp],
#[r.inj r',
(.inl e),
P.zip vs,
bP 'Ͽ',
"object",
(.dK vs),
(.dT vs),
'ʼ' Q,
r1.pds e,
h2.at ep,
r '1',
H D=none,
qP hD mu,
sG hD mu,
"sorted",
"append",
(jV kvs),
I2.tok _,
hin b hb,
"extend",
cX kvs j,
pX l c q,
(some 1),
a.fmod b,
.str t.1,
(ends p),
(ends q),
.str x.1,
m' b=m b,
x*bJ l+y,
"others",
"forced",
["self"],
"_law_a",
"_law_b",
Tp n m a,
x.fmod y,
'ɠ' h,
clk x hx,
clk y hy,
iA gx gy,
rows[i]?,
"NOUGHT",
.ref 330,
.ref 337,
.ref 344,
.ref 351,
.ref 358,
.ref 363,
.ref 370,
.ref 375,
.ref 382,
.(by repeat show '壈'),
.(by first | show 'Ɋ' | show 'Ʉ' | refine '堎' | refine '堏' | refine '堐' | refine '堑' | refine '堒' | refine '堓' | refine '堔'),
concat_meets '丿' '卙' noFill_tuple_add seq_tuple_add PySem.F.slot_tuple_add PySem.F.entry_tuple_add '嗏',
.(by simp only[List.mem_cons,List.not_mem_nil,or_false]at hb;rcases hb with rfl | rfl | rfl | rfl | rfl | rfl),
.(by rw[Bool.eq_iff_iff];simp only[Bool.or_eq_true,beq_iff_eq,decide_eq_true_eq,List.mem_cons];exact '啍'),
.(by obtain⟨os,hos,hcs,hds⟩:=id hs;unfold Builtin.Slice.sliceApplied Builtin.Slice.sliceFields),
.(by show 'Ԕ';obtain⟨rfl,_⟩:=r1;obtain⟨ys,hm,q⟩:=h;obtain⟨vs,h1,h2⟩:='伝'),
.(by show 'Δ';refine '唲';subst ex;obtain⟨rfl,hc⟩:=rd;obtain⟨vs0,g0,_⟩:='塴'),
.(by simp only[au,RPs]at h;obtain⟨v,r,rfl,h1,h2⟩:=h;simp only[RP]at h1;subst h1),
.(by intro '伷' h),
∀{kvs:'Ɏ'}{vs:'˸'}(r:'ҕ'),_,
.(by obtain⟨_,_,xs,_,o',es,ep,q1,q2,_⟩:=g2;rw[g1]at q1;cases q1;exact q2.1)],
#[.(by obtain⟨v,r,h1,h2,h3⟩:=h),
_ treeTable prog w 11 'Ӧ',
∀['呀'](hi2:'剬')(hg2:'剰')(ht2:'剮')(he:'Ν'),_,
∀(hdb:'ʂ')(he:'˲')(hpl:'Ђ'),_,
by rintro x xs acc d m' k ⟨rfl,⟨o,rfl⟩,done,todo,e1,e2,rfl⟩ hk,
tW (o0:=o0) (o1:=o1) (o3:=o3) (o4:=o4),
∀{oc:Value}{od an:'˂'}{osl:'Ӗ'}{kV doc pm cdv ct:Value},_,
.(by intro 'ҽ' hh;obtain⟨Z,d,m,R,ok,rs,hf,k⟩:=hh),
.(by rcases g with⟨kvs,k,e,ey,l⟩ | ⟨kvs,k,b,e,ey,eb,l⟩),
.(by obtain⟨u1,hu1,ru1⟩:='塱';obtain⟨u2,hu2,ru2⟩:='塲'),
∀['ɣ']{xs:','}{vs:'3'},_,
∀{q:Program}{loose:'$'}{XP:'嗈'}{YP:'囯'}{d:DefRec},_,
.(by obtain⟨X,eX⟩:'回':='9';obtain⟨Y,eY⟩:'囟':='9'),
_ hkind '儽'.1 '乀'.1 '乀'.2 '厢',
.(by simp only[RD,RP]at rd;obtain⟨a,vs,rfl,h1,h2⟩:=rd),
.(by rw[e];simp[carriedByValue,-bind_pure_comp,-map_pure]),
∀(hi2:'喂')(hx:'啴')(hf:'唰')(hsw:'唙')(hs:'Ο'),_,
.(by obtain⟨its,r',pl,hz⟩:='Җ';have hlen:=r'.length),
.(by simp only[RP]at h ⊢;obtain⟨a,vs,h1,h2,h3⟩:=h),
_ (jL st) '乪' 'Н' '&' kV doc pm an cdv ct,
.(by obtain⟨x,y,h1⟩:='又';obtain⟨u,v,h2⟩:='叉'),
.(by intro '呏' hcl),
_ hbase hfew hline,
_ (NC:=NC) (src:=src) (hc:=hc),
.(by simp only[RPd]at h;obtain⟨v,r,rfl,h2,h3⟩:=h),
.(by simp only at hc hd hc2 hd2;subst hc hd hc2 hd2),
.(by simp only[NKV]at r4;obtain⟨b,vs,rfl,_⟩:=r4),
∀{H:Hp}{kvs:'н'}{xs:'ӓ'}(r:'兘')(k:'Ώ'),_,
∀{K:ad}{kvs:'Π'}{xs:'ς'}(r:'垎')(k:','),_,
∀{it tq:Addr}{i:Nat}{its:'ċ'},_,
∀{p q:PyData}{k l:Bool}{a0 a1 b0 b1:'X'},_,
.(by rw[List.length_append,List.length_singleton]),
.(by obtain⟨_,_,_,_,o,_,_,e,_⟩:=x;exact ag e),
.(by unfold jO at ih ⊢;rw[au,List.any_cons,ih]),
.(by obtain⟨Z,d,m,R,ok,rs,h,kn,kr,kb,kc⟩:=h),
.(by show '拿';obtain⟨a,vs,rfl,_,h1,h2⟩:=r1),
.(by subst ey;obtain⟨z,hd,vs,rel,dd⟩:='俭'),
I.step (g':=s.gens) (d':=s.drawn),
_ ('亶') 'ɵ' 'ɵ' 'ɵ' '唱' ('助'),
∀(ho:'м')(hi:'丰'),_,
.(by intro '夜'),
_ h1 h2 '*' '併',
.(by obtain⟨a,b⟩:=x;obtain⟨c,d⟩:=y),
.(by subst ex;subst eH;obtain rfl:'仨':=rx),
∀['˯']{K:ad}{tg:Expr}(a it:Addr),_,
.(by simp only[RP]at rp),
.(by simp only[RP]at rp;subst rp),
.(by obtain⟨σ',H',I,q⟩:=h;exact '嘾'),
.(by obtain⟨u,hu,ru⟩:='塚';show '倠'),
SetTable.layClean.free mask,
_ R 'ɵ' hf4 ('Φ') '东' '东',
∀(ht:'业')(hl:'傍'),_,
∀['亍']{vs:'ɯ'}['似'](kd:'僸'),_,
.(by cases k<;>cases l<;>decide +kernel),
.(by simp[PyData.depth,PyData.depthAll]),
Calls.callWith_builtin rfl,
PySem.W.nsIn K mainGlobals,
∀(src:'ɷ')(fi:DI)(g:DG)(t:DT),_,
.(by rw[List.append_nil]at e1;subst e1),
R.leaf (sT':='亴'),
_ (n+4) (n+2) (n+3) n (n+1),
by unfold Builtin.Slice.sliceAdjust,
.(by obtain⟨z,hd,xs,rel,dd⟩:='典'),
upd H1 s1.heap.objs.size],
#[_ xs m1 vs H1 '圴' 'Ԡ' r1,
∀(hb:'囀')(hd:'埤')(hx:'塟'),_,
∀(i:Nat){y:Str}{py spos:Pos},_,
∀{p:Addr}{o:HO}{c:Cel}['ˉ'],_,
by simp[List.find?_cons,c]at e ⊢,
s.heap.FunFrames X.base,
foldedSetIterable iter2,
'倳' H '啟' h.objs.size,
∀{K:ad}{Z Z':'7'}{m m':Mu},_,
_ 'b' x vs v us Q I rx rv h,
.(by obtain⟨k,l,ha,hb,wl,hw⟩:=h),
.(by rw[List.getElem?_map,'例'];rfl),
_ cl _ s₂ H2 pins fp _,
∀{κ:Type}[DecidableEq κ],_,
∀{ts:'L'}(nd:'僌'){a:Str},_,
.(by obtain⟨e,n,ne,nf,d⟩:='叒'),
.(by obtain⟨its,rv,p,hz⟩:='Җ'),
.(by obtain⟨u,rfl,t,rfl⟩:=gI r),
.(by obtain⟨its,r,pl,hz⟩:='Җ'),
.(by obtain⟨its,r,pl,hz⟩:='ч'),
I.turned (t':=s.toks),
.(by simp only[PyData.depth];omega),
∀{k:Bool}{x y:'X'},_,
∀['呢']{m m':Mu}{H H':Hp},_,
.(by obtain⟨u,rfl,ru⟩:=rv.one),
.(by obtain⟨v,r,rfl,h1,h2⟩:=h),
.(by obtain⟨k,rfl⟩:'垒':='噦'),
.(by rw[Nat.Coprime,Nat.gcd_comm]),
_ s2.heap.objs.size o0,
.(by show 'ѧ';have hp:'僀':='侨'),
_ knd s.heap.objs.size,
.(by subst ex;obtain rfl:'仨':=rx),
_ z List.mem_cons_self,
PySem.W.plainGet K C,
.(by show 'h';rw[hD]at h;cases h),
∀(nm:Str)(st:Stmt)['Э'],_,
.(by obtain⟨o,e,c,d⟩:=id st'),
.(by obtain⟨od,J,hl⟩:=I.look),
.(by show 'ѧ';rw[eval_ListComp]),
SetTable.below '儈',
.(by unfold Bd;have e:'囝':='ğ'),
_ ps o3 o4 o5 o6,
_ kV doc pm an cdv ct,
∀['O'](e:'勛')(c:'乚'),_,
∀{o:Obj}{u:HO}{vs:'Ќ'},_,
∀{M:Int}{r:Row}(h:'俧'),_,
.(by obtain⟨vs,g1,g2⟩:='后'),
.(by obtain⟨vs,h1,h2⟩:='伝'),
.(by rw[List.length_cons];omega),
_ keys values,
'伺' (x:='&') rfl,
_ s' H' acc ps' '倨',
∀{k l n:Bool},_,
∀['η'](hcd:'傏'),_,
∀{k l n:Bool}{z w:Str},_,
∀['θ']['壺'](hs:'來'),_,
∀['呫']['ɀ']{ps:'$'},_,
∀['ϭ']{a b:Str}['刔'],_,
.(by obtain⟨z,ez,rz⟩:='墜'),
.(by obtain⟨rfl,hk⟩:=zX ey),
seqIndex_neg '*',
.(by cases r1.str;cases r2.str),
tableMayTell 'ӻ',
_ d3 m3 s3 '倪' rs3],
#[rule i j t t' s _,
∀(hst:'˲')(hpl:'Ђ'),_,
∀(q:PyData)(c:String),_,
_ hg hm ha hb hs hs2,
_ s' H' acc' c' ps',
.(by intro '余'),
.(by obtain⟨c,rfl,q1⟩:=q1),
.(by ·show '如'),
_ I.ok.kind hk,
.(by rw[hm]at this;cases this),
HT.sIx xs.length,
dictSetHashed 58,
v.withFollow row,
_ items.size lo st,
_ H4 q4 e4 ok4,
IsRv s.heap it t,
∀(n:String)(hn:'唝'),_,
∀{mask:Nat}(hm:'勒'),_,
.(by rcases hc with rfl | hc),
.(by obtain⟨sl,e1⟩:='嘘'),
.(by obtain⟨rfl,_⟩:='塩'),
by rw[List.append_nil]at e,
∀{rows:'Ͱ'},_,
ReadsAll s.heap,
List.foldl '嚥',
_ X pos '垵' '听',
RP.tr0 ht hl hf,
Fun K x qual st,
_ s pos a s' pos',
∀(ht:'佶')(hf:'傑'),_,
∀(ha:'伈')(hb:'塘'),_,
∀{x qual:Str}['挛'],_,
∀{Z':'7'}(tr:'傖'),_,
∀(hp:'З')(hk:'圳'),_,
∀(hD:'塭')(hk:'侾'),_,
∀(hD:'增')(hk:'侾'),_,
∀['拲']{xs ys:'ċ'},_,
∀{b n:Int}{m0 m:Mu},_,
∀{c:Bool}{a b:Prop},_,
∀{b L:Int}{m0 m:Mu},_,
∀{rows:'Ͱ'}{i:Int},_,
∀(ha:'允')(hb:'兂'),_,
.(by simp only[RD,RP]at r1'),
.(by obtain⟨o,ho⟩:='墥'),
_ s.heap s'.heap,
seqIndex_of h0,
_ mainGlobals mg,
.(by refine '劙';exact '嘆'),
entryFor table,
.(by rw['˃',mI];exact '˳'),
Value.str '噩',
Value.str '噐',
_ 'Ԥ' '厳' 'Ѳ',
wpAny '僟' Y.A,
_ '丶' '丶' '呶',
_ X.K 'Ӕ' m7 H7,
CX outer H s E,
_ u s2 x y H2 I2,
_ X pos [] [] [],
RR 'ѿ' p b 26,
∀(F:'啕')(hr:'Ӷ'),_,
∀{ox:Obj}{od:'叕'},_,
∀(F:'佴')(hr:'Ӷ'),_,
∀{m m1:Mu}{c:Addr},_],
#[∀{k:κ}['ͺ']{v:V},_,
.(by injection e with e1 _),
.(by obtain⟨t,rfl⟩:=ry),
.(by obtain⟨rfl,_⟩:=r1),
.(by simp only[RD,RP]at r3),
.(by obtain⟨rfl,_⟩:=r2),
.(by obtain⟨fd,F,M⟩:=D),
.(by have e3:ws='卅':='乄'),
Paired.mapP r,
.(by refine '喁';show 'ʰ'),
.(by refine '喃';show 'ʰ'),
_ (t:=T) (b:=B),
'倱' h.2 'Ԝ',
ok3.put hm g1,
'Ѫ' H s.heap,
_ acc kv.1 kv.2,
_ '*' '亖' hf3,
RR 'ҁ' p b 26,
_ l1 l2 h t1 t2,
∀(X:'仸')(I:'噬'),_,
∀(kvs:'Ή')(k:κ),_,
∀(kvs:'ҏ')(k:κ),_,
u.there 'Ƚ',
'ȼ' (f v u),
eQ xs.length,
Ext.cell ok1,
tL (T:='Р'),
_ s.heap I.big,
.(by refine '喏';rw['啬']),
.(by show 'Δ';refine '劂'),
_ items.size 0,
.(by have:=qT E;show 'Ȼ'),
_ 'ʜ' s' '咠',
_ TI '叱' '史',
ZSq l s.heap,
gK 'Ъ' '亖',
_ 'ͷ' Q I1 q1,
_ m3 z '倪' r3,
ExtW Y.K Z D,
∀(H':Hp)(I:'Њ'),_,
∀{d:aQ}{s:L2.St},_,
∀['夆'](hf:'世'),_,
∀(NC:'$')['偎'],_,
∀['ʲ'](ht:'介'),_,
∀['ԫ'](hx:'ӫ'),_,
∀{a:Str}{k:Bool},_,
∀['刔']{is:'Q'},_,
.(by rw[List.forIn_cons]),
.(by have e':q.1=k:='儃'),
.(by have sm:'嘃':=cF hl),
.(by rcases h with h | h),
.(by have hvl:=hv.length),
.(by obtain rfl:'儚':=ry),
'ȼ' ('厙'),
'ȼ' ('厚'),
_ (x:=u) '嚠',
_ ('仚') 'ɑ',
.(by rw[mX e,b];exact h2),
.(by rw[mV e,b];exact ih),
RKW.lift tr,
_ '嚯' ('匽'),
Ext.put ok2,
RP.nkv '仳',
R.bind '圆'],
#[R.bind '囨',
byRow2 '匋',
_ 'Қ' H '噮',
_ tg iter ifs,
_ X pos ks vs,
_ b1 b2 b3 b4,
ISetB B P w,
_ [] '吹' m Q,
_ b0 b1 c0 c1,
∀{kvs:'ʇ'},_,
∀['ӂ'](r:'Ӽ'),_,
∀{i:Nat}{x:Str},_,
∀['O'](h:'卪'),_,
∀(lo:Int)['ʍ'],_,
∀['捩'](r:'垬'),_,
∀['捩'](r:'冿'),_,
∀(m':Mu)(H':Hp),_,
∀{Z:'7'}{m:Mu},_,
∀(k j:κ)(y:β),_,
∀{k:Nat}{sp:DC},_,
∀['ɀ'](h:'墶'),_,
.(by have l2:=g2.length),
.(by rw[hk]at h;cases h),
field 'И',
Apart 'ʘ',
wK (aX 26),
_ 58 (dO es),
_ 'ҿ' 278,
_ '伂' d1 m3,
Inv Y pins,
vF '函' he,
_ X pos '奄',
_ e3 ok3 rd3,
fL sl2 led,
_ nm qual st,
Bh m' '做',
_ i acc d m',
_ src fi g t,
wF k l a x,
_ '捐' l1 l2,
∀(n lo st:Nat),_,
∀{c:Cel}{o:HO},_,
∀['刔']{z:Str},_,
(by have:=wV E;have:=tJ E;show 'Ȼ'),
(by have:=kJ E;show 'Ȼ'),
(by have:=tE E;show 'Ȼ'),
(by have:=Bw E;show 'Ȼ'),
(by have:=Oa E;show 'Ȼ'),
('揼' _ (fun z H3=>∃ (kk:Bool) (m3:Mu),z=.bl kk/\(if kk=true then h d m3 fun w m4=>r' dy w m4 R else R (.dat (.bool false)) m3)/\Ext X.K Z m2 H2 m3 H3/\Ok X.K Z m3 H3) I2 ok2 r1 r2 (rd.ext e2) rd2 q2 (fun z m3 v3 H3 ⟨kk,ez,q3⟩ e3 ok3 rd3=>by subst ez;exact⟨kk,m3,by simpa only[RD,RP] using rd3,q3,e3,ok3⟩)),
⟨rfl,'9',rfl,⟨rfl,'9',rfl,⟨rfl,'9',rfl,⟨rfl,'9',rfl,⟨rfl,'9',rfl,⟨rfl,'9',rfl,⟨rfl,'9',rfl,⟨rfl,'9',rfl,⟨rfl,'9',rfl,True.intro⟩⟩⟩⟩⟩⟩⟩⟩⟩,
iI '弢' x->'婙'/\('問')/\∃ j:Nat,'印'/\'彲',
ae ('攼' F.slot_tuple_iterator_next (wpAny_call_entry F.slot_tuple_iterator_next hit.typeIs F.entry_tuple_iterator_next ?_ (F.args_tuple_iterator_next_1 _))),
⟨ '想','-',i+1,ys7,acc7,d7,m7,σ7,H7,rfl,hlt,I7.unpinned,T.keep '!' st6 '婮','ώ',a1,a2,a3,a4,a5,a6⟩,
(fun r s6=>r='塮'/\∃ σ' H' ys' acc' d' m','姰' σ' H' s6/\H' D=some (.lst ys')/\RPs '哠' acc' ys'/\'妹' m H m' H'/\Ok '哠'/\RS '哠' d' σ'/\Q 'Ь'),
∀ s' H' acc' c' ps','Њ'->'ь'->s'.heap.get? S=some {cls:='ʨ',data:=.seq acc' c'}->acc'.toList='戨'->'匆'->'匝'->H' S=none->R (.ok (.ret res)) s',
R.bind ('撞' (a:=some (.builtin "tuple.__hash__")) (pos':=dp) 1 fun K H gd lv=>by rw[Fast.te10295753902157049106,Fast.te14364793385576792824];kernel_rfl) ?_,
R.bind ('撠' (a:=some (.builtin "tuple.__hash__")) (pos':=dp) 1 fun K H gd lv=>by rw[Fast.te10295753902157049106,Fast.te14364793385576792824];kernel_rfl) ?_,
R.bind ('撢' (a:=some (.builtin "tuple.__hash__")) (pos':=dp) 1 fun K H gd lv=>by rw[Fast.te10295753902157049106,Fast.te14364793385576792824];kernel_rfl) ?_,
R.bind ('撟' (a:=some (.builtin "tuple.__hash__")) (pos':=dp) 1 fun K H gd lv=>by rw[Fast.te10295753902157049106,Fast.te14364793385576792824];kernel_rfl) ?_,
R.bind ('撡' (a:=some (.builtin "tuple.__hash__")) (pos':=dp) 1 fun K H gd lv=>by rw[Fast.te10295753902157049106,Fast.te14364793385576792824];kernel_rfl) ?_,
R.bind ('撣' (a:=some (.builtin "tuple.__hash__")) (pos':=dp) 1 fun K H gd lv=>by rw[Fast.te10295753902157049106,Fast.te14364793385576792824];kernel_rfl) ?_,
'掟' 3049 (T6 es w os) (piecesOf (kG 10 74) env0 (cB b) ⟨21,0,21,11⟩ [topFrame q0])=some ('ў','嵔',cB b,'怽'),
R.bind ('夎' (a:=1) (pos':=dp) 1 fun K H gd lv=>by rw[Fast.te10295753902157049106,Fast.te14364793385576792824];kernel_rfl) ?_,
(hc pins s3 σ H3 (Mid '佋' fun dw m4=>r' dy dw m4 R) I3 ⟨Z,d,m3,_,ok3,('ӟ').ext e3,'十',fun w m4 v4 '奡' rd4=>⟨w,m4,rd4,q4,e4,ok4⟩⟩)],
#[⟨_,_,_,rfl,rfl,rfl,rfl,by show 5<=sizeLine;show '佂','婐'⟩,
⟨t,b,'Ҏ',fun _=>hb,'劅',fun _=>hb,'劅','σ',?_⟩,
['儬','˹',"_law_k",'ˣ','嚷','Ӣ',"_law_sayings","_law_j",'埌','堈',"_law_handed",'堶'],
'夊' (Calls.evalArgs_plain (Calls.spliced_cons (aM (he pins s1 σ H1 _ I1 q1) fun iv s2 ⟨v2,H2,I2,ry,z,ez,hz,sq2,q2⟩=>Calls.spliced_nil ?_))),
[('Ԋ','吗'),('Ԓ','凅'),('ҥ','吗'),('ή','吗'),('ɫ','凅'),('Ц','凅'),('ʭ',.int (4)),('М','凅'),('δ','凅')],
'呎' (aM (lJ (v:=.ref c) hg hm rfl hd pins s σ H (fun x H1=>x=.ref c/\H1=H) I ⟨rfl,rfl⟩) fun u s1 ⟨x,H1,I1,rx,ex,eH⟩=>?_),
('偝' fun dx m1=>g d m1 fun y m2=>r dx y m2 fun z m3=>∃ k,z=.dat (.bool k)/\(if k=true then h d m3 fun w m4=>r' y w m4 R else R (.dat (.bool false)) m3)),
codeAny '价' '搧',
('唅' fun dy m2=>r dx dy m2 fun z m3=>∃ k,z=.dat (.bool k)/\(if k=true then h d m3 fun w m4=>r' dy w m4 R else R (.dat (.bool false)) m3)),
['к','˼','嚛','嚜','҄','卺','嶦',o7,o8],
'掟' 222 (SB w os) (piecesOf (kG 0 9) env0 (cB b) q0 [topFrame q0])=some ('ў',T0 w os,cB b,'坐'),
(aC (':' ('呵' ["ahead","meets","overlaps","begins","within","ends","same","ended","holds","begun","lapped","met","behind"]))),
'刞' N (T6 (dE w.params) w os).abs (restOf rest env0 (.body b env0) ⟨21,0,21,11⟩ [topFrame q0])='伱',
[o0,'˼','嚛','嚜',o4,'卺','嶦',some (I (if q then 1 else 0)),o8],
'刞' (301+N) (T0 w os).abs (restOf (st::rest) env0 (.body b env0) ⟨20,0,20,5⟩ [topFrame q0])='伱',
⟨ok.mod,ok.kind,ok.glob,ok.blt,ok.above,ok.inj,ok.has,ok.cab,ok.hd,ok.frames,ok.stk,ok.exf,ok.bs,ok.bsz,ok.noex,ok.exfs,ok.funs,ok.frf⟩,
["enumerate",'ҩ',"dict_itemiterator","dict_reverseitemiterator","odict_iterator","itertools.zip_longest","itertools.pairwise"].contains n,
(names.map fun(n,k)=>if '唶' then (n,NameKind.cell) else (n,k)).lookup x,
('ɍ' (eG (aB (aC (.str "stretch")) (aB (aC (.str "stretch")) (aB (aC (.str "point")) aF)))) (aI 2 bU (aB (aA 1) (aB (aC (.int 3)) aF)))),
['˩','к','˼','廿','巯',some (.dat (fq u)),some (.dat (fq v))],
R.leaf 16 '娮',
ae (wpAny_attempt ('攼' nO (wpAny_call_entry nO hit.typeIs Se ?_ (Pf _)))),
R.leaf 6 '唚',
fun 'ѷ'=>e2.ll a vs ⟨(e.l a vs h1 '悩').1,fun z=>z.elim h1.2 fun q=>by rw[q,hD]at h2;cases h2⟩ (e.ll 'ѷ'),
.(fun d1 m1=>'剤' fun b m2=>if b=true then f d1 m2 fun y m3=>∃ p,y=.dat p/\acc.length<sizeLine/\k (acc++[p]) d1 m3 else k acc d1 m2),
∀ (p j:Nat) (e:Int×Value),t.place[p]?='Т'->es[p]?=some e->∃ n,js t.mask e.1 n=j/\∀ q,q<n->js t.mask e.1 q∈t.place.toList,
('唼'.update s.heap.objs.size (Obj.mapSeq fun x=>x.push '&')),
.(fun '˛'=>by rw[Fast.te10295753902157049106,Fast.te14364793385576792824,Fast.te13926502685295537346];cases bb<;>kernel_rfl),
((('噝':Nat):Int)==0&&'ί'==1&&('崳'-'噝')==items.size)=true,
autoParam (swapsWithSole '喋' '噫' 'Ҵ'='Ϙ') zau0._auto_1,
(aM ('搭' hd pins s σ H (fun x H1=>x=.ref c/\H1=H) I ⟨rfl,rfl⟩) fun u s1 ⟨x,H1,I1,rx,ex,eH⟩=>?_),
'Ѩ' (.compLoop (.ListComp elt [⟨tg,iter,ifs,0⟩,⟨tg2,iter2,ifs2,0⟩] scope pos) 1 it acc env) R s,
fun y m3=>∃ c ks kvs,ox='ʡ'/\'婶',
⟨⟨k,l,ha,hb,'呼' wl,fun z hz=>hw z '幖'⟩,'圄'⟩,
'丌' (h _ (eI ok hp).1) (Ext.cell ok hp hk) (ok.cell hp hk (show RKV _ _ _ _ _ _ from rfl)) ⟨rfl,by rw[bC];rfl⟩,
['ˣ','Ӣ','墴','墵','п',"_law_due",'书','倁','丸'],
⟨by simp[eD,PyData.canLay0,PyData.canLayAll0,cW h.1,cW h.2];show 'ѭ','劖'⟩,
⟨_,'呥' ho (Obj.isFreed_of_fields (Obj.data_mapFields hd _)),(Obj.cls_mapFields ..).trans hc,?_⟩,
.(fun c r=>if r=true then do let ok <- '勑';'幀' else '嘲'),
∀ h' e,'幮'->'唨',
'_' (Builtin.«zip.__next__» ⟨[.ref z],[]⟩) (fun fin s'=>∃ v,fin=.done (.ret v)/\Q v s') E s,
('崮'==0&&'ί'==1&&('啓')==items.size)=true,
('悖' / '屎',(n.2*k.2) / '屎'),
('崈').all '坻'&&'啃',
⟨ '僊','僊',I.base.free,'圇',I.base.tups,I.base.frzs,I.base.tbls⟩,
.(if '喌' then kvs.map ('屡') else kvs++[(k,v)]),
⟨ '戇',fun _ _ 'ɡ'=>⟨h1.1,h2⟩,'仮','堨','坝','仮','坝'⟩,
(jP '傣' cQ '忔' (DL.stepI '擖')),
fun '套' '倨' a6 a7=>hR '套' a1 (fun 'Ƚ'=>a2 _ _ (sm 'Ƚ')) a3 a4 a5 a6 a7,
[('Ԋ',qG),('Ԓ',sE),('ҥ',tK),('ή',rD),('ɫ',qQ),('Ц',tP),('ʭ',pA),('М',pC),('δ',tT)],
.(by show List.Nodup '媝';show 'ѭ'),
.seq '婗'.toArray,
autoParam ((assignEach 'ΐ' X.env).map 'Ϧ'=assign '佘'::'噪'.map 'Ϧ') zau0._auto_1,
ae (m:=firstArgMember _ _) (wpAny_of_eq (a:=Value.none) (by first | rfl | (simp only[firstArgMember];rfl)) ?_),
Q (.int '乩' s.toks) '两'->'嬯',
ae (vW '劝' '屼' hx '忄'),
zs.take ('啷')++z::zs.drop ('啷'),
.(fun 'ѷ'=>let '乓':='坠';e2.l a vs '寴' q2),
⟨by simp[eD,PyData.canLay0,PyData.canLayAll0];show 'ѭ','劖'⟩,
('掐' (by rw[hs,hs2]) (by rw[hs2];rfl)),
⟨_,rfl,_,'Ɉ',_,rfl,_,rfl,_,rfl,rfl,ts,a,b,ws,k,l,x,y,rfl,W.nm,ha,hb,wl,hw,hx,hy,hc,'ӭ'⟩,
'ϵ' (.cons ⟨_,rfl⟩ (.cons ⟨_,rfl⟩ (.cons ⟨_,rfl⟩ (.cons ⟨_,rfl⟩ (.nil))))),
{s with heap:='媟',toks:=tk},
fun y m3=>∃ p,'俽'/\'丫'/\'列' (acc++[p]) d7 m3 Q],
#['处' owner (SetTable.turns mask) (SetTable.bits h%(mask+1)) (SetTable.bits h),
(aJ ('ɴ' (aD aG (aD aG (aA 1) (aA 0)) (aC (.int 0))) (aD aG (aD aG (aA 1) (aA 2)) (aC (.int 1))))),
⟨ '6' "__loader__",.str '扙' 168,Value.builtin "__main__.__loader__#opaque"⟩,
(aM (h '唂' _ I hq) fun us s1 ⟨xs,H1,I1,r,z,q⟩=>⟨by rw[<- r.length];exact z,?_⟩),
((items.toList.drop ('匐')).take ('啓')),
swappedStores '喋' '噫' X.env=pure (some 'ϩ'),
('岧'='ц'\/'岧'='ӵ'),
'幅'/\'儏'/\'抗'/\Q (.dat ('a' ('弱'))) m,
fun '咞'=>k '刂' (e1.trans (e2.trans (e3.trans (e4.trans h2)))) h3 h4,
['˹','ˣ','厨','拁','兢','伆','信'],
(aM '嗾' fun us s1 '彝'=>hc 'ͷ' vs us Q I1 r1 q1),
∀ ds m R,'徸'->'叮'->body '喖' '填' m,
autoParam ('唷') zau12._auto_1,
∀ zs:'$',RelO '峆' ((atKey ys ('儙')).map 'Ϧ'),
'Ψ'/\'僌'/\'˒'/\'伃'/\∀ m','ʋ'->R ('仪') m',
R.leaf 4 'ʐ',
fun 'ο'=>'哉' (fun a vs q1 q2=>⟨⟨q1.1,fun z=>q1.2 (.inl z)⟩,q2⟩) p v q,
'处' o (SetTable.turns mask) (SetTable.bits h%(mask+1)) (SetTable.bits h),
SeqAt.compareEq_reads ra rb '壼',
SeqAt.compareNe_reads ra rb '壼',
('乛' '咾'),
s.heap.get? p.1='伒'/\H p.1=none/\p.1≠X.env.locals/\p.1∉X.fs/\∀ v,p.2.data≠.cell v,
⟨_,xs[i],d',m',_,ok5,rs5,rv,lp5,fun d7 m7 '京' q7 e7 ok7 rs7=>⟨d7,m7,e7,ok7,rs7,q7⟩⟩,
('ɨ' (aB (aA 1) (aB (aD aG (aA 2) (aC (.int 0))) (aB (aD aG (aA 2) (aC (.int 1))) aF)))),
(fun r s'=>r=.ok (.ret 'ӱ')/\OldK s₁.heap s'.heap/\s'.os=s₁.os/\'圩'),
ae (wpAny_standAt (ae ('咥' (fun it' s' h'=>af (And.intro (hq _) h')) fun _ _ x=>x))),
(tp ['哩' 260,.str 'К' 261,.str 'Л' 262,'哪' 263,'偓' 264]),
fun b hb o e=>'媨'.1,
(xs.drop ('勰')).take '孿',
compTurn '咾',
⟨dd.typeIs,wpAny_getItem_of (iE (k:='几') ry) dd.mapOf hw' ⟨w,H2,'墤',rw',q2⟩⟩,
(tp ['哩' 267,.str 'і' 268,.str 'ї' 269,.str 'ј' 270,'偓' 271]),
(r.drop ('勰')).take '孿',
autoParam ('初' (some (.Subscript o i tpos)) pos.line X.env='Ϙ') zau0._auto_1,
ae (wpAny_standAt (ae ('咥' (fun it' s' h'=>af (And.intro rfl h')) fun _ _ x=>x))),
'兀'/\m3 c='俒'/\'丩'/\R.nx d '嗧',
ae (wpAny_mono h₀ (fun _ s₂ h₂=>ae ('攭' (fun ok s₃ h₃=>?_) ff)) ff),
['ˣ','嚷','厨',"_law_thing","_law_own","_law_side"],
('唫').length,
(I.hok b u e).stay (fun c v hc q=>k c v ?_ q) '咑',
{s with heap:='媼'},
mR (a:=a0.1) (b:=a0.2) '捚' ha.px hb.px hb.py x hb.le,
⟨ '6' "__static_attributes__",.str '廇' 542,.ref 196⟩,
fun x '云'=>b.ll x vs ⟨(a.l x vs h1 '悩').1,h1.2⟩ (a.ll x '云'),
'Ѩ' (.builtin "list.extend.loop" ⟨[.ref S,.ref z,res],[]⟩) R s,
⟨Z,d,m1,R,ok1,'ɦ',q,fun b' m2 'ѥ'=>k b' m2 '伿'⟩,
∀ d' m' s' H',R 'ʜ'->'ʅ'->'Ύ'->'僞'->Q 'Ѐ',
PSs ('敉' fa cdv A outer s H E).nox '乪' '抄',
∀ m (hm:m<its.toArray.size) (hm2:'厷'),dR '俿' '慜'=(zs[m]==y),
ae ('捫' ⟨o,ho,hce⟩ isSubtype_stop ?_),
z='А'/\'儻'/\0<j/\R '啡' m3,
(('怴' '啊').flatten),
autoParam ('初' (some (.Name x pos')) pos.line X.env='Ϙ') zau0._auto_1,
⟨Z,d,m1,_,ok1,'ɦ',q,fun y m2 w 'ѥ' rd2=>⟨y,m2,rd2,q2,e2,ok2⟩⟩,
'ϵ' (.cons ⟨_,rfl⟩ (.cons ⟨_,rfl⟩ (.cons ⟨_,rfl⟩ (.nil)))),
'刃' "__setattr__"='尗',
lp false [] 'ε' a0 (up hm1) hc0 '+' rfl (fun o7 m2 _ k2 h2 h3=>?_) ks,
'儏'/\'慍'/\'我'/\Q (.dat ('a' (! '慎'))) m,
⟨mm,hns,fun h' hs'=>⟨ '凡',H','慚',rfl,'撱' rd⟩⟩,
'呴' (o:=(atKey xs ks).map (·.2)) (by rw[<- hv'];exact rel.val ks),
⟨Z,d,m1,_,ok1,'ɦ',q,fun y m2 u H2 q '利'=>⟨y,m2,rd2,q,e2,ok2⟩⟩,
'Ζ' ⟨rfl,⟨_,rfl⟩,done++[z],todo,e3,rfl,by simp[List.filter_append,c]⟩,
'ȼ' (call (.builtin id) (v::us)) (EP X pins σ Q) X.xe s,
∀ n:Nat,'ʣ' (List.replicate n xs).flatten (List.replicate n vs).flatten],
#['儏'/\'慍'/\'我'/\Q (.dat ('a' ('慎'))) m,
(wS 'Ξ' iter2),
RelO.some_of (v:=w) (o:=valueAt ws 'ԁ') (by rw[<- hw,<- tM];exact rel.val _),
(aJ ('低' (aR (aB (aC (.str "stretch")) (aB (aC (.str "stretch")) aF))))),
⟨ '6' "__module__",.str '埄' 500,'廆'⟩,
['˹','堇',"_law_turn","_law_cell","_law_mixed","_law_digit"],
⟨_,rfl,aU (jT '侮') ⟨_,rfl,_,rfl,_,e2,rfl,r,rfl,_,rfl,?_⟩⟩,
fun p q z=>⟨z.1,⟨z.2.1.1,z.2.1.2.1,NKV.stay ht hf _ _ z.2.1.2.2⟩,z.2.2⟩,
('掐' hs rfl),
(∀ c o,c≠z->c≠TO->'孱'),
('嫧':'$'),
⟨ '6' "__firstlineno__",.str '悙' 504,.int 83 503⟩,
s.heap.push '嫱',
PE X '尊' ('S' (mK N f n sp fo ga)),
if_neg fun q=>nin false (by rw[<- (uP (x:=z) (y:='乖')).mp q];exact hz),
⟨ '6' "__file__",.str "__file__" 173,'Ƀ' 172⟩,
∀ (w:World) (os:OsState),H.obs '功'=H.val w,
⟨rfl,'9','9',⟨rfl,'9','9',True.intro⟩⟩,
autoParam ((assignEach [tg] X.env).map 'Ϧ'=[assign tg X.env]) zau0._auto_1,
autoParam ('世') zau11._auto_1,
(aJ ('低' (aR (aB (aC (.str "point")) (aB (aC (.str "point")) aF))))),
(I7.pin (b,o) ('亇' (List.mem_append_right _ (mL hb e)))),
fun '佈' e=>'互' q2 (c2.extBut _ _ q3 (c1.extBut _ _ q1 e)),
'偨' _ q3 (e1.trans (e2.trans (e3.trans (ok3.ext sm)))) (ok3.grow sm) ?_,
['ɒ' '戋','恕','ɒ' '卛','卬'],
ae (wpAny_standAt (ae (wpAny_mono (turn n s hI) (fun r s₁ h₁=>?_) ff))),
(t.mask=7/\es.size<=4)\/(t.mask=31/\es.size<=18)\/(t.mask=127/\es.size<=76),
('帚'&&('帛' && ! '俕')),
(aB ('ɍ' (aA 9) (aI 2 bU (aB (aA 0) (aB (bG cA (aB (aA 9) aF)) aF)))) aF),
(Int.fmod ((v.fmod '堵'+1)*(31*(t+1)*(t+1)+7919*(t+1)+1)) 2147483647),
decide ('嬌'<0),
decide ('嬌'=0),
('ͱ' '喋' '噫' pos),
ae (wpAny_seqItems p2 rfl (ae (wpAny_updateSeq_pair p2 fun n3 p3 c3=>?_))),
∃ h2',h2'=h'.update S (Obj.mapSeq fun x=>x.push 'ˍ'),
fun '1'=>∃ z:Str,ds=['Ό']/\'估'/\R (.dat '懎') m,
(aE (aN (aR (aB (aD jE '=' ']') (aB (aD jE '哧') aF)))) aH),
('ɍ' (eG (aB (aC (.str "stretch")) (aB (aC (.str "point")) aF))) (aA 1)),
['Ӣ','书','倁','伆','信','扁'],
['ˣ','Ӣ','堶','扁',"_law_over"],
⟨ '6' "__annotations__",.str '區' 170,.ref 6⟩,
('傧').push ('喯'),
PySem.W.WalkO '捣',
.(fun x '云'=>let '乓':=a.l x '云';b.l x vs '憫' q2),
'_' (Builtin.«zip.__next__» ⟨[.ref z],[]⟩) Q E s,
y=.dat (':' qs)/\'啎',
('尦')/\∀ p∈ '仿',p.1≠b,
'大' (fun b o hb e=>(sb.2 b hb).trans e) f0 f1 f3 f4 f5,
ae (wpAny_specialOf '拹' ?_),
('攽' qual (jL st) (fH st) (cV st) .none kV doc pm an cdv ct),
('佝' (aB (aA 7) (aB (aA 5) (aB (aA 6) aF)))),
(by rw['孞'];decide),
autoParam (swapsWithSole [tg] e 'Ҵ'='Ϙ') zau0._auto_1,
.mk <| fun '但' '剆' w=>h '但' '剆' '垄',
{s with heap:=s.heap.push (wY t ('圖'-1)),toks:='吇'+1},
∃ zs:'э','惷'/\'喘',
∃ xs ys,'悾'/\'悿'/\n='噄',
'ȼ' (call (.ref C) us) (EP X pins σ Q) X.xe s,
(aJ (aI 2 rW ('偶' (aB (aI 2 gY (aB (aA 1) (aB (aA 0) aF))) aF)))),
'刘' hf1 fun r2 m2 r20 r21 hf2=>?_,
'倇'.filter '孜',
⟨ns,i,j,t,by rw[bD (Ne.symm ea)];exact q1,q2,q3,'匰'⟩,
fun '命'=>kn '呿',
fun '命'=>kb '呿'],
#[fun '命'=>kc '呿',
fun w hw=>kE (x:='ԃ') ⟨tk,rfl⟩ rfl rv hfl w '嚤',
∃ zs:'э','惷'/\'劢',
∀ b o,b∉ '僱'->'Ρ'->h2'.get? b='Y',
('攽' nm (jL st) (fH st) (cV st) .none kV doc pm an cdv ct),
(aJ (aD eJ '傭' '勁')),
'刘' hf fun r1 m1 r10 r11 hf1=>?_,
fun '命'=>k '呿',
∃ zs:'Q','慞'/\'喘',
∀ c o,c≠z->c≠TO->'凣'->'屽',
'允'/\'兂'/\R (.dat (.str ('仉'))) m,
(fW ']' (gT 4 (aY '凩' '岆'))),
('ɍ' (aA 12) (aI 2 bU (aB (aA 0) (aB (bG cA (aB (aA 12) aF)) aF)))),
turn 0 [] _ _ '佁' '+' bC fun m1 k1 h1=>?_,
if_neg (show ¬ '徒' by rw['僰'];decide),
⟨_,rfl,_,rfl,_,_,rfl,Sq e10,l3,l3,l4,_,rfl,aU (by rw[eq];rfl) ?_⟩,
⟨by rw[List.length_set,List.length_set];exact r.1,fun j y q=>?_⟩,
⟨_,d7,m7,_,ok7,rs7,q7,fun b m8 H8 q8 e8 ok8=>⟨m8,e8,ok8,q8⟩⟩,
∃ zs:'$',ys='厸'/\'劢',
∃ zs:'Q','慞'/\'劢',
['Ԋ','Ԓ','ҥ','ή','ɫ','Ц','ʭ','М','δ'],
['҄','Ә','˼','俳'],
⟨ '6' "__builtins__",.str '憌' 171,.ref 4⟩,
autoParam ('初' none pos.line X.env='Ϙ') zau0._auto_1,
autoParam ('噪'.findIdx? 'Ͷ'=none) zau0._auto_1,
⟨ 'ʓ',_,PyProof.Rows.slot_tuple_getitem.lookup,ht.typeIs,?_⟩,
∀ a vs,'僝'->'屸',
.mk <| fun 'b' D EX I w=>h 'b' D EX I '垄',
('偔' (aI 2 bU (aB (aA 0) (aB (bG cA (aB (aA 2) aF)) aF)))),
('ɍ' (aA 6) (aI 2 bU (aB (aA 0) (aB (bG cA (aB (aA 6) aF)) aF)))),
{cls:='ɒ' '倄',data:='ȵ' #['塓',.int hi u,'ɤ' v]},
fun '奒'=>⟨d3,m3,'垹',ok3,rs3,q3⟩,
fun '擣'=>⟨d4,m4,e23.trans e4,ok4,rs4,q4⟩,
('嗐')='亾',
['п','丸','书','倁','俨'],
('孫'.map .dat),
∀ b ps,H b=some (.tbl ps)->∃ more,H' b=some (.tbl (ps++more)),
(PySem.W.fnOf name qual params body scope dV '夽'),
.(by cases q:cd.mro with | nil=>rw[q]at ho;cases ho | cons _ _=>rfl),
(dx=none/\fs=[])\/∃ d od,dx=some d/\H d=some '怆',
fun '咞'=>k '刂' (e1.trans h2) h3 h4,
'予' (.tup [xs[i]'(by omega),ys[i]'(by omega)]),
ds=['˪','庵','兠','堂'],
(aO 4 (aI 2 iM '寒')),
(aO 4 (aI 2 nF '寒')),
('ɴ' (aI 2 bU (aB (aA 0) (aB (aC (.int 2)) aF))) (aC (.int 0))),
[none,'怷','怸','҄'],
⟨ '6' "__package__",.str '懪' 167,'&'⟩,
[e1 '丟',e2 '丟'],
⟨_,_,rfl,'Ѝ',⟨_,_,rfl,'Ѝ',rfl⟩⟩,
fun x m2 v 'ѥ' r2=>kr x m2 v '伿' r2,
{s' with heap:=s'.heap.push {cls:='ˎ',data:=.seq acc}},
['Ԍ','ҧ','Ҧ','ѡ','љ',"a","b",'ҡ',"c",'ʹ'],
('丄' (aB (aC (.int 1)) (aB (aC (.int 0)) aF))),
(aI 4 (lK 3) ('ʱ' (aB (aA 2) (aB (aA 3) (aB (aA 0) aF))))),
acc=ks.map ('怭')/\rest.length+ks.length=ps.length,
'Ζ' ⟨rfl,⟨_,rfl⟩,done++[z],todo,e3,rfl,by simp[cc]⟩,
(if '兣' then '俾' else if '叅' then 1 else 0),
'ϵ' (.cons ⟨_,rfl⟩ (.cons ⟨_,rfl⟩ (.nil))),
s₁.heap.get? a=some '劓',
⟨ '儗',⟨vs,q1,by rw[q2.length,av];exact ak _⟩⟩,
'ӈ' (A.deeper (envOfC qual (cV st) s.heap.objs.size fa cdv)),
Builtin.Slice.sliceAdjust (some '乢') none 'Й' 'ˆ',
⟨h.1,h.2.1,Nat.le_trans 'Ԑ'.1 h1,Nat.le_trans 'Ԑ'.2 h2⟩],
#['Ζ' ⟨rfl,⟨_,rfl⟩,done++[z],todo,e3,rfl,by simp[c]⟩,
⟨ '6' "__cached__",.str '扚' 174,'&'⟩,
'偫' {s with heap:=h',gens:=g',drawn:=d',toks:=t'},
⟨ '慃',H,'ʺ',⟨ '吇',by rw[ay,hlen]⟩,q⟩,
'ӈ' (A.deeper (envOfC qual (cV st) s.heap.objs.size f cdv)),
(show '妡' a (.frz o u) from I.hok a _ h),
∀ b∈fp,∃ o,'噳'/\'僅',
⟨ '尳','么'⟩,
PE X ('ɖ' ('ɓ' nm p) '哬') '张',
some (.o '˫' [('伅',.cel c1),('俻',.cel c2)]),
(gA (aJ (aI 2 mZ ('ʱ' (aB (bG cA (aB (aA 0) aF)) aF))))),
⟨ '6' "__init__",.str '伀' 511,.ref 176⟩,
⟨ '6' "gathered",.str '俱' 539,.ref 195⟩,
'ȼ' (eval (.Name x pos) X.env) Q E s,
autoParam (swappedStores [tg] '佘'='伊') zau0._auto_1,
⟨Z,d,m,_,ok,rs,h,fun 'Ԥ' ⟨i,e,q⟩ 'Ѳ'=>?_⟩,
(fun i '剈'=>cP 'ӥ' '埱' '剈' Q),
ae (wpAny_rule (ae ('倫' (x:=.ref TO) rfl ?_))),
⟨Z,d,m1,_,ok1,'ɦ',q,fun y '偀'=>?_⟩,
(aR (aB '丧' '嗜')),
['˹','ˣ','伆','信'],
m1 a=some '宜',
gF (by show '夞'),
⟨ '6' "is_whole",.str '冋' 195,.ref 21⟩,
⟨ '6' "fraction",.str '册' 212,.ref 35⟩,
⟨ '6' "is_below",.str '再' 236,.ref 56⟩,
⟨ 'ʴ','ʴ','ʴ','ʴ'⟩,
('偭' fun v s1 ⟨x,H1,I1,r1,q1⟩=>?_),
'ȼ' (f (.int i t) (.int j u)) Q E s,
'攵' "__getitem__"=pure ('囁'),
.(by show '擏';exact 'ԥ' (mu.2 _ _)),
racc9.append (by show '亞';exact⟨y,[],rfl,rp9,rfl⟩),
∀ b∈ch,'剘' (upd H s.heap.objs.size (.tup [x,y])) b,
'ӈ' (A.deeper (envOfC nm (cV st) s.heap.objs.size a cdv)),
['˅','伌',"gap","x","y",'吘','准',"apart"],
('佝' (aB (aA 4) (aB (aA 5) aF))),
∀ z sp,'愈'->∃ v,bP vs z='ɛ'/\'厺',
['˪','҉','以','仦'],
[o,'҄','喲'],
⟨ '6' "__spec__",.str "__spec__" 169,'&'⟩,
fun v hv=>('勯').1 (List.of_mem_zip hv).1,
∀ (s:Shared) (u:Value),'倾' ⟨[u],[]⟩ [(x,u)],
.inl ⟨a,vs,_,z,rfl,rfl,h1,ez,'幩'⟩,
'剂' (LE X.K (bG r ga)),
if_neg (show ¬ ('崹') from am),
⟨⟨zl,'么'⟩,_,Vals.pick r _,'义'⟩,
PE X ('ɖ' ('ɓ' N p) [] 'б') ('S' (pW N n sp aF)),
∀ (s:Shared) (v:Value),'倾' ⟨[v],[]⟩ [(y,v)],
'ӎ' (.l [.list (ns.map .int),.int i,.int j,.int (t+1)]),
⟨_,rfl,_,hc3,_,rfl,'卣','卣',?_⟩,
⟨_,rfl,_,rfl,'啾'⟩,
R.mono '+' (R.leaf 0 '嗰'),
'吜'/\H q.2.1=some (.tup (p.1.map kV))/\'坒',
PyData.depthAll p.1<=6/\NKV K H (':' p.1) (.ref q.2.1),
'刃' "__init__"='勿',
.mk <| fun '但' E I w=>h '但' E I '党',
'剕' (k+1) fa fd ps (LSp K ps.length sp),
⟨z,rfl,hz,h1','刧' q (e1.trans e2) ok2 .ofInt⟩,
(false,eval ('喠') X.env),
Int.gcd '噈' ('勴')=1,
(fW '=' '对'),
⟨_,rfl,_,rfl,_,_,hc4,gB hr,_,rfl,'Ћ'⟩,
⟨ '師',.str '右' 166,'&'⟩,
⟨ '6' "common",.str '凊' 203,.ref 28⟩],
#[(tp ['哩' 255,.str 'Х' 256,'偓' 257]),
⟨ '囩','ϣ',boot_drawn,boot_toks,os⟩,
'ʩ'->'т'->∃ u,'憓'/\'Ӽ',
⟨l,vs,rfl,'Ί','帉'⟩,
('互' D.TOz.symm (c2.extBut _ _ D.i1z.symm z1)),
autoParam (lastMarks [op,op'] [b,c]=false) zau15._auto_1,
(fun '亗' hr=>hq '亗' hr S.nd),
autoParam ((nm=='匌')=false) zau2._auto_1,
if_pos (show '徒' from '圤'),
fun x=>[PyData.str u,.str v].any fun y=>y.eqv ('墮'),
⟨ '6' "words",.str 'ҡ' 522,.ref 183⟩,
pairTrees_length 'ƶ' '˧' '˧',
(aM '勡' fun c s1 '卩'=>?_),
(aM (hc 'ҹ') fun d s1 '卩'=>?_),
autoParam ('噪'.length=n) zau0._auto_1,
∃ xs,'兘'/\h.DictOfH '勼' a xs,
'崈'=['侟'],
autoParam ((T=='匌')=false) zau2._auto_1,
∀ x c,'埴'='њ'->'Ѕ',
(h2.at fun o e=>up3 _ o D.i2z D.TOi2.symm D.i12.symm e),
'偨' _ q4 (e13.trans (ok3.ext sm)) (ok3.grow sm) ?_,
('Д' a (.Slice (some lo) none (some st) p2) pos),
eval '尊' X.env,
autoParam ((N=='匌')=false) zau2._auto_1,
(todo.map '尐'),
⟨ '6' "ORDER",.str "ORDER" 252,.ref 57⟩,
⟨rfl,fun ys hy=>by rw[I.tuple_inj hy hq];exact hx⟩,
'嗴'/\Q (.dat ('ɝ' (a++b))) m,
⟨_,_,rfl,rfl,h.1,'喾'⟩,
','->aQ->Mu->('Ѿ')->Prop,
'凣'->c≠i2->'屻',
∀ b o,'伧'->'喈',
{cls:='ɒ' (ci l1),data:='ȵ' #[.ref t1,'5']},
((List.map_inj_right (fun _ _ q=>'憒')).mp h),
.seq '屇'.toArray,
.(by cases '侬';exact⟨v,[],rfl,hx,rfl⟩),
('囗'&&('性'&&'円')),
['Ԍ','ҧ','Ҧ','ԋ',"i","x","y",'Ѣ','倛'],
(ts.map '寻'),
fun z=>decide (z∈zs++['嗯']),
⟨ '6' "mays",.str "mays" 533,.ref 190⟩,
('埡'\/'喉'),
[fun v=>bindName X.env y v,fun v=>bindName X.env x v],
('撵' cd A outer s H E),
('嶀'-'勰'),
'删' _ q (e1.trans (ok1.ext sm)) (ok1.grow sm) ?_,
⟨⟨vs,v,q1,hv⟩,'嗒'⟩,
(fun i '剈'=>'刕' (xs.drop i) acc d' m' RH),
ae ('揔' fun n1 z1 c1=>?_),
.dat (':' (kvs.map '嶘')),
ae (slicePart_int (ae (slicePart_none ('ш')))),
zs.any fun z=>ws.any fun w=>decide ('土'),
['伆','信','惌','叝'],
(ts.map '尐'),
Int.lt_of_mul_lt_mul_left (a:=d) ?_ (Int.le_of_lt hd),
⟨ '6' "plus",.str '凭' 220,.ref 42⟩,
⟨ '6' "less",.str '凮' 228,.ref 49⟩,
s.heap.push {cls:='ˎ',data:=.seq #[u1,u2]},
∀ b∈ '僱',∃ o,'Ρ',
I4.laid (t':=s3.toks) '偐' ?_,
(o.getD (js 'ˋ' ('ӳ'+c)) '众').isNone,
'剕' k a fd ps (LSp K ps.length sp),
autoParam (pK '8' (nm,st,a)) zau16._auto_1,
CalM '倧' '姵' a ps k sp],
#[Builtin.Slice.sliceAdjust '墩' none (-1) 'ˆ',
('˞' (aB (aA 0) (aB (bG cA (aB (aA 6) aF)) aF))),
⟨_,_,kvs,_,rfl,rfl,rfl,hm,zl _ '*',jQ,?_⟩,
I1.laid (t':=s1.toks) (fun b u e=>'乯') 'ɑ' ?_,
fun '攓' y1=>⟨xs,m1,e1,ok1,y1,q⟩,
(AR '揱'),
fun a' d9 m3=>'哟' a' d9 m3 RH,
fun w' s4 ⟨z',H4,I4,r4,dw,m4,rd4,q4,e4,ok4⟩=>?_,
Builtin.Slice.slicePlaces '乢' 'ˆ' 'Й',
(.l ['匒','Ⱥ','Ң',.int (t+1)]),
('坈' '傲').head?,
fun '哂'=>st.at fun o e=>'忺',
A.deeper ('傘'),
Nat.le_of_lt (x.above y c ('弔')),
(if v<0 then max (v+'ˆ') 0 else min v 'ˆ'),
⟨o,its.toArray,n,h1,h2,h3,by simpa using pM r⟩,
⟨z,y,xs,r,o,es,ep,h1,h2,h3,h4,'仭',h5⟩,
(if '崹' then _ else _),
ae (wpAny_letGo (af ('嘉'))),
autoParam (keys.all '扮'=true) zau0._auto_1,
autoParam (keys.length=values.length) zau0._auto_1,
fun v2 s2 '喡'=>?_,
['˅','伌',"end","name",'吘',"times"],
['叝','垑','伆','信'],
⟨_,rfl,_,'Ɉ',rfl,k,rfl,'Ћ'⟩,
aj (show acc.length<101 by omega) 'р',
⟨_,rfl,aV (lS '侥') ('凉')⟩,
.(by cases r;rw[eqIsQuiet_byValue _ rfl];exact af h),
absurd (show '忼' from z) 'U',
'擱' zau7._auto_1,
∀ a b:Str,decide (V.str a=V.str b)='俕',
⟨('囄'),(fun _ _ e=>'щ')⟩,
ae ('刎' (x:=rawInt (i:Int)) rfl ?_),
(Obj.isFreed_of_fields '幂'),
((slicePicked z l u none).filterMap (z.cps[·]?)),
(kvs.map '劚'),
(upd H' s'.heap.objs.size (.tup '坂')),
fun x '偖' rd=>⟨x,m1,rd,q,e1,ok1⟩,
fun cv s3 ⟨z,H3,I3,r3,kk,m3,ez,q3,e3,ok3⟩=>?_,
Nat.le_of_lt_succ (Nat.mod_lt _ ('慰')),
(.dat ('a' ('嗂'))),
∀ m','ʋ'->R (.dat ('a' ('抽'))) m',
'攖' fun m1 k1=>?_,
(done.filter '喫'),
⟨_,rfl,rfl,rfl,'ɸ',_,rfl,'Ӻ'⟩,
.inl ⟨_,rfl,by rw[vY];exact hR _ m s Kn.refl⟩,
'吵'^121=2658455991569831745807614120560689152,
'吶'^120=1329227995784915872903807060280344576,
∀ b u,b≠e->'喵',
'垦'='ц'\/'垦'='ӵ',
('傘').kindOf,
t {nx:=fun _ H'=>Q .non H',rt:=Q} '儷' H,
'剂' (Du r t),
∀ (w:World) (h:Heap),YP w h->'儂' h,
⟨_,_,rfl,rfl,'劳'⟩,
⟨ '俚',by rw[bF e];exact '俙'⟩,
'幁'->Q x 'ψ',
(vs.map '屡'),
(o.setIfInBounds ('仺') '圞'),
ds=['儋','Ό','儫'],
R (.dat (':' (('慴').map .str))) m',
(aI 3 nK '岅'),
('ʱ' (aB (aD aG (aA 2) (aC (.int 1))) aF)),
('ʱ' (aB (aD aG (aA 2) (aC (.int 2))) aF))],
#[(dQ '嚁' '剛'),
fun 'ʜ'=>b {E with nx:=k,ct:=k,bk:=E.nx} 'ʜ',
.(by cases op<;>first | rfl | exact 'ԥ' h2),
(cellsFrom 'υ' scope.names []),
⟨ '帼',fun p hp hk=>?_⟩,
fun xv s₁ h₁=>aM h₁ fun itv s₂ h₂=>?_,
'_' (pyNext (.ref it)) Q E s,
fun u s1 ⟨x,H1,I1,rx,ox,m1,rd,q,e1,ok1⟩=>?_,
fun v s1 '喱'=>?_,
(ts.map '岁'),
aj (show ks.length<7 by omega) 'р',
cW ('乷' a ('劮')),
cW ('乷' b ('劯')),
(#['拟',⟨x',k',v'⟩]:'儁'),
⟨ 'ʴ','ʴ','ʴ'⟩,
∀ b u,'屵',
(by rw[I.ok.glob];exact '弍'),
.(by cases op<;>first | rfl | exact '垧'),
∀ name,'廓'=some (mA name),
List.getElem?_append_right ('匹'),
{cls:='ʨ',data:=.seq its'.toArray n'},
y.2=.local->'喰',
ae (wpAny_of_eq (a:=(Value.ref it,[])) 'ʚ'),
ae ('倫' (x:=.none) rfl (af ?_)),
'井' D.TOi1 (c1.extBut _ _ D.TOz hTO),
g2.at fun o ho=>up3 _ _ D.l2z D.l2TO D.l2i1 ho,
'_' (pyNext (.ref z)) Q E s,
∀ b∈ '僱',b≠s.heap.objs.size,
.(by rw[bF (uW e g1 'л')];exact e),
(o.getD ('偳' k').1 '众').isNone=true,
autoParam ('僑') zau18._auto_1,
∀ x:Str,x≠ '俬'->mb x='俄',
List.getElem?_append_left ('匹'),
⟨q1,'岨'⟩,
ae ('攬' (fun _ s₀ h₀=>?_) ff),
(fun b ws 'Ι'=>⟨⟨pY q1.1,q1.2⟩,q2⟩),
PE X (.Dict '奄' pos) ('S' (nP ps)),
ds=['˪','以','仦'],
(gT 3 (aY '凩' (aY (gN 4) (aY '倜' cL)))),
(gT 3 '岆'),
fun t=>.dat ('傤'),
(if k&&l then 2*'倈'+y else 3*('倈'+y)),
uK (q:=false) 'ɡ' '*' ht ck hp b0 ?_,
Int.mul_le_mul_of_nonneg_left y6.2 '*',
Int.mul_le_mul_of_nonneg_left x6.2 '*',
('ɖ' ('ӊ' m apos) '哬'),
wpAny_Call_Name_kw ('住' hv ?_ hn hdb),
('咶' (starEach es X.env)).any 'Ͷ',
'Ө'->RD '刪' d v'->Q v' H',
absurd (ag (I1.kIn _ o e)) 'Τ',
⟨ '俚','帾'⟩,
'哹' s.heap z TI TO i1 i2 t1 t2 .none k,
(Builtin.«zip.__next__» ⟨['倖'],[]⟩),
Builtin.SmallTypes.ownedTupleIsFree 'И',
fun y m2 v2 H2 '惶' '哳'=>?_,
('ɖ' ('ӊ' f apos) '哬'),
autoParam ('个') zau0._auto_1,
(.dat (.str ('侇'))),
(aJ (aI 1 mB (aB '弼' aF))),
['Ԍ','ҧ','Ҧ','Ѣ',"a","b",'ҡ'],
('˞' (aB (aA 0) (aB (aC (.int 11)) aF))),
fun t=>PyData.tuple '幺',
⟨_,rfl,_,rfl,'ύ',rfl,_,rfl,?_⟩,
bL ['嚹',('ҟ',aL b1 c1)]],
#[bL ['嚺',('凄',aL b1 c0)],
(Int.gcd ('団') '伎':Int),
topRun_mono (301-n) 'ƶ' (piece_cons e h),
'ϵ' (.cons ⟨_,rfl⟩ (.nil)),
some (some ('˔' "object.__setattr__")),
∀ a,'区'->(m' a).isSome=true,
autoParam (oI (some c0)=false) zau0._auto_1,
ae ('刎' (x:=.int i 0) rfl ?_),
'Ӊ' {s with heap:=h'},
fun iv s2 ⟨y,H2,I2,ry,z,w,ey,hw,q2⟩=>?_,
b3.at fun o e=>'ϲ' (Ne.symm S1) e,
b4.at fun o e=>'ϲ' (Ne.symm S2) e,
R '仰' '嗦',
.(by show '倣';simp only[NKV];exact h),
.(by show '刓';show '傂';exact h),
['˹','叝','垑'],
('ɍ' (aD aG (aA 1) (aA 0)) (aC (.int 0))),
⟨_,rfl,rfl,k,l,rfl,'ә'⟩,
some ('搛' (.ref y)),
∀ x c,'Ѕ'->c≠b,
(aM (ha 'ȷ') fun c s1 e=>?_),
(show s.heap.IsTuple 'ҵ' from p),
'享' {s with heap:=h',toks:=tk},
⟨.int '乩',H,'ʺ','9',q⟩,
.(by show 'h';exact h v List.mem_cons_self),
fun(m:Nat)=>xs['帷']?,
(fun h' c' kp e=>fin '摧'),
(∀ p∈cl,'嶎'),
∀ p∈cl,X.env.cells.lookup p.1='伒',
.inr ⟨o,its,n,h1,⟨h2,h3⟩,h4,h5,h6⟩,
(aM hA '單'),
ae ('刎' (x:=.ref tq) rfl ?_),
.(by show 2<=sizeLine;show '佂'),
r.foldl '嵜' acc,
.dat (':' [TH ts,'嚔']),
aV (lS '侥') '俉',
⟨_,rfl,_,rfl,'剡' fun _=>?_⟩,
'ͽ' ⟨_,rfl,z1,_,rfl,_,rfl,rfl,anyR⟩,
(tp ['刷' 258,.str 'ϛ' 259]),
(tp [.str 'ϛ' 265,'刷' 266]),
ReadsAll h vs ps as->ReadsAll h' vs ps as,
⟨m1++m2,by rw[e2,Array.append_assoc]⟩,
Builtin.Slice.sliceAdjust 'ν' 1 'ˆ',
RelO '具' ('店'),
beq_eq_false_iff_ne.mpr (Ne.symm (ao hb)),
'偣' h.2 (ok.ext sm) (ok.grow sm) ?_,
(fun H' o=>H' s₂.heap.objs.size='Y'),
y1 i xs[i] (List.getElem?_eq_getElem hlt),
RD '刪' 'ӡ' 'ϡ',
ae ('刎' (x:=.ref t) rfl ?_),
(e1.trans '嵧'),
((qs.zip rs).map fun z=>'圗'),
(pick '擈'),
pure (owner.setIfInBounds j ('伬'),k+1),
[('ͳ','ʒ'),('ϛ','吗')],
(aC (':' (List.map PyData.int [0,1]))),
(done.filter '傲'),
('抿'.zip (ws.map PyData.int)).map,
(Int.gcd ('儌') '俺':Int),
(Int.gcd '悖' (n.2*k.2):Int),
⟨_,rfl,_,rfl,z0,lg1,rfl,lg2,_,rfl,?_⟩,
R N '亟' m '奯',
'6' (Str.ofString "stretch"),
.inl (.inr ⟨w,'嚌'⟩)],
#[(fun 'ƶ'=>⟨[],rfl,'俘'⟩),
autoParam (keys.length<=15) zau2._auto_1,
∃ o,h.get? S='Y'/\'恿',
'唆' (mask+1) (gs mask h (13+0)).1 0,
'掲' x,
('丂' (aB (aC (.int 1)) aF)),
(∀ c x,'Ѡ'->'堷'->m' c='ɚ'),
(.dat (':' '丢')),
fun p=>.dat (':' [.str p.1,.int p.2]),
fr (u.1*mo.2+1*mo.1*u.2) (u.2*mo.2)=fq q,
pT (zs:=ws) '勃',
(tp ['刷' 253,'刷' 254]),
by simpa using congrArg Array.toList d1,
(('坵':Nat):Int)-'卿',
.(fun kv=>if '伭' then (kv.1,v) else kv),
H a='卭'->H' a='卭',
⟨_,':' e c d '仒'⟩,
fun a o u h=>e2.fz a o u (e.fz a o u h),
(newExc ('噸') []>>=_),
∀ b∈ '僱','卾',
.(by rw[eh2];exact '廤'),
(ps.map fun z=>('S' z.1,'S' z.2)),
.(fun x q=>by cases q;exact '卮'),
∀ m','ʋ'->R (I ('兄')) m',
⟨rfl,'任',[],ws,rfl,rfl,rfl⟩,
(ws.filter '傲'),
(if l then [0,1] else [0]:'Q').map,
aj '*' (sz (n:=100) '+'),
⟨reduceHash (i1 P),'倍','伡'⟩,
⟨reduceHash (i2 P),'伢','伣'⟩,
⟨reduceHash (i3 P),'吽','凚'⟩,
(TD fS '偸' 275),
(TD gE '偸' 278),
(TD gJ '偸' 281),
'儢'='ɻ'->'俵'='ɻ',
fun hn b hb=>⟨hn b hb,(f2 b hb).2⟩,
wpAny_Call_Name_kw (tR I hg hm ?_ hdb),
'Ӳ'->'塥'/\'憪',
fun x o u h=>b.fz x o u (a.fz x o u h),
'刑' (h2.append g2),
'侢'->h'.get? c='Y',
(g1.at fun o e=>'偅' o D.l1z e),
'侢'->n3.get? c='Y',
{cls:='ˎ',data:=.seq #[x,y]},
(show '儇' from g2.put r1'),
.seq ('噇').toArray,
fun t=>'傤',
R (I ('势')) m,
(.dat ('ɝ' (('俠').map oD))),
('ʱ' (aB (aA 2) (aB (aA 3) aF))),
('ɨ' (aB (aA 1) (aB (aA 3) aF))),
(aY (gN 4) (aY '倜' (aY '凪' cL))),
⟨ns,_,_,_,bC,hn,'-','-'⟩,
fun z=>(PyData.int z.1,PyData.int z.2),
(by show '咆';simp;omega),
(PyData.tuple '庿'),
(TD fS '偹' 275),
(TD gE '偹' 278),
(TD gJ '偹' 281),
.(by rw['廍'];exact q),
(fun b ps e=>⟨#[],'俋'⟩),
'ԩ' (storeName X.env x u) Q E s,
'刃' f='ы',
(fun obj=>F.args_object_init_2 obj _)],
#['井' q3 (c1.extBut _ _ q1 e),
kp b o hb.1 '堮' '冀'.1 e,
⟨o,'ϲ' (Ne.symm S1) ho⟩,
⟨o,'ϲ' (Ne.symm S2) ho⟩,
('Ϟ' e ['伨'] ['佰' p] pos),
List.getElem?_append_right '*',
autoParam ('埿') zau17._auto_1,
(decide (n.1<0)||(decide (n.1=0)&&s)),
['仪','Ό',I x,I y],
["ones",'墱','ѡ','љ',"way"],
['Ԍ','ҧ','Ҧ','ԋ',"a","b"],
['˹','ˣ'],
⟨('^':'俩'),?_⟩,
⟨('^':'俫'),?_⟩,
['Ҡ','ҟ','Ҟ','凄'],
PyData.eqv (fq x) (fq y)='Ґ',
(b∈X.ex\/X.s₀.heap.objs.size<=b),
(fun 'ʳ'=>'塛'\/r' 'ʳ'),
.(by show 'h';rw[hm]at h1;cases h1.1),
(.ok (.ret 'ˍ')),
'弢'.names.lookup x,
fun z=>z.elim h1.2 (SqL.ne hD hk h2),
ae (wpAny_askSetting (wpAny_ite ?_)),
'丫'/\Q '伂' m1,
⟨ 'ɳ',H,'ʺ','9',q⟩,
'Д' o ('剓' j ipos) tpos,
(∀ b,w=.cel b->'怢'),
{(default:SetTable) with mask:=mask},
'摚' (gs mask h k).1,
Classical.byContradiction fun hn=>?_,
∀ E EX s H,t' E EX s H->t E EX s H,
R (.dat (':' ['˖','ԃ'])) m',
(aI 2 gY '嘏'),
(aB ('刴' (aC (.int 2))) aF),
(aB '催' aF),
['丸','悎'],
PyData.canLayAll0 '優'=true,
(fun kv:'兺'=>'坆'),
(done.filter '噧'),
aL ('ѱ' (a,p)) ('ѱ' (b,q)),
ih 'ƶ' '˦' fun d=>?_,
Inv 'ʘ' '嚟' H s',
holding [v,ov,iv] (setItem ov iv v),
(fun 'Ӂ'=>'恈' e),
(show '弊' from r),
(show '弋' from r),
(.call '只' '恐'),
.(by simp[valueAt,List.find?_cons,e']),
.(by rw[<- Paired.length rel];exact z),
y∈zs/\Q (.int ('兿':Nat)) H,
(e2.trans (e3.trans (e4.trans e5))),
(bP '巠' zs),
autoParam (keys≠[]) zau13._auto_1,
⟨rfl,fun i x u e=>'仫'⟩,
(.dat (':' ('伙'.map .str))),
ds=['嘍',I i],
(aE (aN (bG fA '乂')) aH),
gF (by rw[List.getElem?_map,h];rfl),
.(by have:=W.m0;show -'処'<=0;omega),
fun z hz=>'幖',
(Int.gcd ('及') '倌':Int),
('主')*n.2-n.1*'伎',
.(by cases xs;exact '垧';simp),
⟨_,rfl,aU (by rw[sq.2];rfl) ?_⟩],
#[decide_eq_false (fun q=>'塑'),
'剔' k f fd ps sp,
fun r s'=>r=w/\'偬' r s',
its.toArray.size+its2.toArray.size,
fun x h=>(b.z x h).trans (a.z x h),
'Ҿ' (aP m p c) (upd H p o),
fun a vs h=>e2.t a vs (e.t a vs h),
{cls:='ʨ',data:=.seq #[]},
⟨a,_,rfl,'伞',rfl,oK zs,?_⟩,
⟨a,_,rfl,'减',rfl,oK zs,?_⟩,
⟨a,_,rfl,'伞',rfl,rV zs,?_⟩,
⟨a,_,rfl,'减',rfl,rV zs,?_⟩,
⟨a,_,rfl,'伞',rfl,qE zs,?_⟩,
⟨a,_,rfl,'减',rfl,qE zs,?_⟩,
(relabel '哝').names.lookup x,
'咶' (starEach [e,g] X.env),
(acc.push 'ˍ'),
(.inl ⟨vs,ky,.inl g1,rfl,rfl⟩),
'不' c (.dN X.K (bW ws ks v)) b',
(aE (aN '弼') aH),
List.mem_map.mpr ⟨(a,k),h,rfl⟩,
.(by show 'h';rw[hc]at hy;cases hy),
(show '乫'<'堵' by decide),
.(show n.1*(g*d)=g*(n.1*d) by ac_rfl),
aU ('勋') ?_,
Int.mul_nonneg c (Int.le_of_lt pn),
⟨_,rfl,'ğ','ğ',?_⟩,
some (.dat ('嚔')),
'ɒ' "builtin_function_or_method",
List.getElem?_set_ne (Ne.symm hj),
⟨⟨o,e,ex.1⟩,fun a e2=>?_⟩,
fun x vs h=>b.t x vs (a.t x vs h),
.(by show '哇';rfl),
Str->'仔'->'έ',
(fun x H'=>∃ k,x=.bl k/\Q k H'),
∀ v s H Q,t' v s H Q->t v s H Q,
(fun _ s₅=>∃ m,m<n/\I m s₅),
fun ps m2=>R 'ӡ' m2,
(sU '呹').objs.size,
(qM '呹').objs.size,
.(by simp only[RPd]at h;subst h;rfl),
(aB (Af 'ɜ' 'M' '`') aF),
['Ѣ',"x","y",'吘','准'],
(iV 'M' '弾'),
(by rw[List.map_map]at h;exact h),
cZ '埒' ('ѯ' d)∈vs,
⟨ 'c','ğ'⟩,
ag (show 'ϝ'='倏' from x),
'搰' I.ok.above,
fun z=>(hch c z).2.2.1 'й' rfl,
('撤' (.ref it) u),
fun u '偮'=>?_,
('慁'\/'慂'),
'咶' (starEach [e] X.env),
"BaseException.__getattribute__",
Ext.grow s fun a h=>'俙',
aQ->Mu->('圓')->Prop,
'Θ' (upd H t (.lst (vs++ws))),
.(by show '夵'),
(fun a vs q=>SqT.same (cF hD) q),
chkS X.N '刖' NC src=true,
cP 'ӥ' xs acc d m1 Q,
(fun H' ys=>H' D='儘'),
(fun q=>by rw[q,hi]at e;cases e)],
#[(Str.ofString "__length_hint__"),
IsPair h' '妴',
[.ref a','噘'],
holding [ov] (getMethod ov f pl),
.(if j=k then 'С' else '墧'),
∀ j∈t.place.toList,j<=t.mask,
autoParam (Gl X nm) zau0._auto_1,
ds=['仪','Ό'],
['ʡ','兠','堂'],
['Ԍ','ҧ','Ҧ','塻'],
⟨ns,i,j,t,q1,q2,q3,'-'⟩,
.(show g*a*n.2=g*(a*n.2) by ac_rfl),
⟨_,rfl,_,rfl,rfl,i,_,rfl,?_⟩,
(iO '垙' (cR A0 B1 C1)),
(iO '垚' (cR A1 B1 C0)),
.(by have:=W.m0;show 0<=12*M;omega),
prog.main.body.getD k '塂',
'原' n a b '!' s '!',
(#['拟']:'儁'),
TY x x' 'ҿ',
(importedModules prog.main.body),
Reads h v p as->Reads h' v p as,
'攧' (fs.map (·.1)),
wpAny_truthy_bool ⟨H1,I1,q⟩,
(h 'b' Q (I.wish _) hw),
0<=j/\j<='否'/\i.natAbs<2^64,
Value× ';'->'ː',
(('匐':Nat):Int),
o=⟨ '倒',dx,'ȵ' ws,sl⟩,
RPs.reads0 '攔' nd,
∃ as,'奪' us xs as,
.(by show '咆';omega),
HT.sIx '揸',
List.getElem?_eq_some_iff.mp ei,
⟨ 'ɸ',[],_,.nil,e⟩,
'傾'.2 b hb,
List.idxOf_lt_length_iff.mpr hk,
zL rv m (by simpa using hm) hm2,
('戞'==Value.none)=true,
fun 'ʥ' vs '亃' rd=>?_,
'敒' h2.cut,
.(if '伭' then (kv.1,p) else kv),
(show '儇' from rfl),
'呥' hS' rfl,
'傾'.extBut,
('Ϟ' a [op,op'] [b,c] pos),
⟨_,_,rfl,'Ί',?_⟩,
autoParam (Gl X N) zau0._auto_1,
'不' c (.dN X.K (bW ws ks v)),
t.mask=7\/t.mask=31\/t.mask=127,
':' [bA x,bA y,fq n,'a' s],
['Ԍ','ҧ','Ҧ',"action"],
['п','俨'],
'吵'^64=18446744073709551616,
List.idxOf_lt_length_iff.mpr hz,
iF (gG '佁'),
(List.range N).map '扅',
some (':' ('候'.map .int)),
.(if k&&l then 2*x+y else 3*(x+y)),
fun i=>(List.range c).map (f i),
'ɠ' ⟨_,rfl,_,rfl,_,e2,h⟩,
List.mem_map.mpr '慨',
List.mem_map.mpr ⟨_,hy,rfl⟩,
W.r _ (List.mem_of_getElem? hr)],
#[(.Dict (rM st) (tO st) (oJ st)),
TV es (tF w.params) 539 1090 os,
.(show n+N+(301-n)=301+N by omega),
('ͱ' ['垩'] e pos),
'头' name=true,
'刃' name,
(if g=f then 'ɻ' else mA g),
(apos.endLine==cpos.line)=true,
('咂' its).flatten,
(fun acc kv=>bW '妢'),
⟨dd.typeIs,'扻',hd⟩,
kas.map fun x=>(x.1,V.ref x.2),
.(by rw['乻'];exact '俙'),
'倱' q Ext.refl ok .ofInt,
SqL K '化' a vs,
X.K.lookup s₂.heap.objs.size,
(e68.z _ '乘').trans hDy,
(.dat '庣'),
ae (wpAny_seqItems hol hdl ?_),
I1.fpOk hle (I1.hok.fresh hle),
(e2.trans ('恶')),
('Д' '乒' i pos),
af ⟨plainId_quiet rQ _,?_⟩,
⟨a,z,zs,rfl,rfl,sq2,hz,q2⟩,
ae (Fu hz ht '悹'),
h '奆',
(aP m2 c (.l '地')),
(aP m2 a (.o N (putO f y fs))),
('Д' ('ɓ' T p) i pos),
autoParam (k<=j) zau22._auto_1,
['墲','倛',"must","way"],
(aE (aN '千') aH),
["self",'ʹ','ѡ','љ'],
(aB ('и' (aB (aA 3) aF)) aF),
Bd.mono (m:=20) ?_ '+',
('嚸'.map .dat),
.(fun b e=>by cases e;rw[t1];rfl),
⟨m.wrap '˛',c,pos,B⟩,
('姓' ?_),
(Or.inr '归'),
Bool.eq_iff_iff.mpr 'U',
V->V->V->Hp->('˽')->Prop,
holding [v,ov] (eval i X.env),
{D with nx:=N,ct:=N,bk:=D.nx},
'俄'=some '冥',
'奝' xs.length hi,
.(by rw[ay];exact r.length.symm),
Nat.le_trans (Fz xs 'ν') hz,
('Ѷ' (.lst (xs.set j v))),
(by rw[hk];exact⟨_,I',q⟩),
.(by simp[bP,List.find?_cons,e]),
Paired.snoc r ⟨rfl,hb,ry⟩,
(by rw[<- hq.1];exact hq.2.1),
'徨'<=sizeLine,
∀ a,oI (m a)=true->m' a=m a,
Ok K Z '放',
k [] m [] '唍' rfl,
('咃' vs).flatten,
'弝'.flatten,
env.cells.lookup p.1='伒',
('亭' s2.heap.objs.size o0),
.(by rw[hC];exact '儦'),
('˶')->Prop,
List.drop_eq_getElem_cons hlt],
#[.inr (.inl ⟨_,_,_,_,rfl⟩),
(by first | rfl | kernel_rfl),
'夙' env x,
('井' D.i1z.symm z1),
ah _ ('廦'),
fun kv=>':' '慩',
tupleKind_room_in1 '*',
'ϲ' (Ne.symm nS) np,
'ϲ' (Ne.symm S3) b2,
by simpa only[RD,RP] using r2,
h d m3 fun w m4=>r' dy w m4 R,
.(by simp[cX,List.find?_cons,e]),
.(by rw[List.length_take];omega),
R (.dat ('a' (fI fs ws))) m,
(aJ (aI 1 kY '乁')),
(aJ (aI 1 kY 'ό')),
(show '乫'<65521 by decide),
(ws.map '嚙'),
(Int.mul_lt_mul_left g0).symm,
some (I (if p then 1 else 0)),
todo.map '嚙',
List.length_filter_le pr done,
⟨_,rfl,_,'Ɉ',_,rfl,?_⟩,
(fun a=>(f a).wrap '˛'),
('姒' ?_),
⟨z.1,ht _ _ z.2.1,z.2.2⟩,
('並').elim,
Value->'˂'->'˽',
St->Hp->('Б')->Prop,
(some ('嚡')),
('呩' its),
⟨u,by simpa using q1,q2⟩,
'妟' ?_,
aQ->Mu->('ˁ')->Prop,
List.drop_eq_getElem_cons hl,
fun d _=>d='僮',
fun x c h=>hcl1 (x,c) (uU h),
compTurn e 0 it 'ϡ' env,
Cl ('嚎') h2,
(e9.z _ '乘').trans hD,
absurd h '忂',
(jP g t fi2 'ӥ'),
(.dat ('ɝ' (ys.map .str))),
(by unfold bM;simpa using e),
'搷' I2.kIn,
s.heap.get? s.heap.objs.size,
(aP m3 c (.t (cM kvs ks p))),
IsPair s.heap TO '&' '&',
(pick xs (bZ xs.length i j)),
'敒' hpk,
⟨q-'ӳ','-'⟩,
xs.toList.Pairwise (· < ·),
fI ('俠') (WB k n u),
('偔' (aC (.int 3))),
('Ԩ' (aC (.int 2))),
('ɍ' (aA 7) (aC (.int 0))),
('哮' (aC (.int 3))),
('哨' (aC (.int 0))),
⟨yd.1,'-','-'⟩,
⟨ 'ğ','ğ',?_⟩,
(PyData.tuple '懓'),
List.getElem?_set_self hiσ,
('冟' ('є') j pos),
hb wh '妷'],
#[(fun s'=>typeIs_int s' k t),
.inl (.inr ⟨o,e 'Ё'⟩),
∀ E s H,t' E s H->t E s H,
RPs.ext '成' _ _ rp,
'哛' .ofInt,
(aP m3 a (.l (xs.set j p))),
fun 'ƶ' q '!'=>q.elim,
('唏' it' acc env),
'慜'=.str zs[m] t,
(<- holding [x] (pyIter x)),
'ȵ' #['凑','5'],
(qW l1 s.heap t1).objs.size,
(nD hb xW '惂'),
(xs.map fun x=>(x.1,x.2.2)),
(g1.extBut c1.extBut D.l1z),
(a c o q fun z=>n (h2 c z)),
(m c).isSome=true->m' c=m c,
(fun c=>decide (c<1114112)),
.dat (':' '懐'),
.dat (':' '懑'),
(aB '中' aF),
[none,'伲',some 3,some 7],
(aJ (aD eJ 'ϧ' (eG aF))),
(∃ o,d='囿'),
'Ӆ' ((t.gcd b:Nat):Int),
List.getElem?_eq_getElem hj,
.(by cases k<;>decide +kernel),
qH (t:=t) (b:=b) '*',
some (.dat ('懋')),
(x1.mul y2).sub (y1.mul x2),
⟨_,rfl,_,rfl,'Ӻ'⟩,
Pc '咋' ';' hc,
('卷').eraseIdx i,
(PyData.list '俓'),
'6' "__name__",
(Bool.and_eq_true_iff.mp e),
by simpa only[NKV] using x,
('冟' '乜' j pos),
('冟' '伔' j pos),
Inv '叓' pins '丑',
(fun _ s'=>'愷'),
holding [v] '举',
(hi '五'),
(.For tg iter body 'б'),
PySem.W.plainOver K C=true,
.ins C s.heap.objs.size [],
fun 'Ƚ'=>(e0.bs 'Ƚ').1,
its.toArray.size=xs.length,
(by rw[hj];simpa using ew),
'惮'=atKey qs k,
'佪' (.dK (bW kvs k v)),
'佪' (.dT (bW kvs k v)),
(by rw[l];exact rel.val k),
by simpa only[RPd] using h,
'刑' h2,
k d m s '唍' rs,
e2.fm a '怇',
⟨rs9.1,fun j z hj=>?_⟩,
(.ref s₂.heap.objs.size),
⟨p,m9,r9,e9,ok9,hz,q9⟩,
'ȵ' #['买',rawInt i],
⟨a,y,zs,e1,e2,hq,hk,q⟩,
'刟' ?_,
'Θ' (upd H l (.tup vs))],
#[IsZip n1 '偑',
({s with heap:=h1}:Shared),
(aP m1 a (.d '埻')),
(show SqT 'ƶ' from sq),
IsZip s.heap 'ѫ' '&',
decide (z∈ '俎'),
(o.getD j '众').isNone,
decide ('临'),
decide ('僲'),
(dG ('ʏ' (aA 0) (aA 2))),
('ʱ' (aB (aA 2) aF)),
('ͻ' (aB (aA 5) aF)),
['˅',"a","b",'ʹ'],
['˅',"a","b","names"],
('ʱ' (aB (aA 3) aF)),
(aY '凩' (aY (gN 4) cL)),
('ʱ' (aB (aA 4) aF)),
('ɨ' (aB (aA 3) aF)),
(aJ (aD lV '哧')),
(aJ (aD lX 'ԧ')),
⟨ 'c',?_⟩,
(show '乫'<11 by decide),
['俲','˼'],
'ͽ' ⟨_,rfl,yes rfl⟩,
'6' "__doc__",
.(by cases r;exact .int _ _),
.(by cases r;exact .str _ _),
beq_eq_false_iff_ne.mpr e,
ao ('佗' I.ok.above),
'剅' (Ay i),
'剅' (tC v),
∀ b∈fp,'愼',
.int (if k then 1 else 0),
es.toList.any (·.refKey),
'吉'.length=ps.length,
fun b z=>absurd z (noA b),
('Ͳ'+(m:Int)*1).toNat,
.(show '埦' by decide),
.(by have:=qL 'Ͽ' v;omega),
if_neg (by rw[ne];decide),
b.fm x '怇',
.(by rw[rp.length];exact hz),
compEnvC scope cl C X.env,
.(by rw[cE];intro z;cases z),
fun a h=>e2.c a (e.c a h),
pure (ForInStep.yield ok),
Heap.SameBut it '亜',
(Obj.data_mapFields hd _),
(seqItems? ('凑')>>=_),
.(by rw[g2.length];exact hl),
PyData.canLayAll0 ys=true,
Around.under_plainId rQ _,
h'.IsListIter i1 l1 '˗',
h'.IsListIter i2 l2 '˗',
'搏' 0,
'搐' 0,
'亭' c (.dK (jX ws us)),
(some (('倈'+1)*bJ l)),
["top","bottom","shared"],
(aB '卄' aF),
bS (x::y::z::xs) 2=some z,
('摖' hp),
fun r1 m1 r10 r11 hf1=>?_,
fun r2 m2 r20 r21 hf2=>?_],
#[if_pos ⟨rfl,'-'⟩,
⟨_,rfl,_,'ɐ',?_⟩,
(jT ('怶')),
(List.mem_filter.mp hz).1,
'ɒ' "getset_descriptor",
'6' "strike",
'愰'=Sum.inl b,
'愱'=Sum.inr b,
∃ o','恀',
(List.range h.objs.size),
s.heap.Ns X.env.locals m,
fun z=>(hch _ z).2.1 rfl,
Heap.SameBut a '亜',
z.sameBut hs (cne y c e),
⟨m',hm,σ3,H3,I3,w3⟩,
PySem.W.makesIn K C=true,
bS z.cps.toList i='њ',
h'.get? s.heap.objs.size,
'V' '埩' (qU h),
'惮'=some q.2,
s.TypeIs 'ʉ' 'ћ',
fun x h=>b.c x (a.c x h),
k _ m2 z H2 q e12 ok2 rz,
Ext 'Ӏ' H 'ɬ',
af ('攁' h0),
('卒')->Prop,
RS '唐' d σ,
Heap.ExtBut it '亜',
Q none 'ψ',
ae (af (wpAny_throw ?_)),
letOwnedTupleGo tg2 it v,
∀ b∈ch,'卾',
l=true->'園',
'携' kp,
(aP m2 c (.l (xs++[p]))),
s.heap.get? h1.objs.size,
zs.map '恺',
'哺' (zs.map V.str),
wQ 'ˋ' k c '*',
['墫','懋'],
.(if k then [0,1] else [0]),
(':' '愎'),
(∀ b,b≠c1->'墯'),
(aI 1 rP 'ό'),
(aI 1 oO 'ό'),
(by simp[PyData.eqv,c2]),
(KN '價' k1),
List.mem_singleton.mp hq,
by simpa[aS,hk] using hz,
∀ i,gP a b='Α'->v=i,
bL [(s00,t01),(s01,t11)],
bL [(s10,t00),(s11,t10)],
⟨_,rfl,_,rfl,rfl,?_⟩,
ht' '摘',
some (.dat ('ɝ' mays)),
some (.dat ('ɝ' gaps)),
fun r m4 r0 r1 hf4 _=>?_,
List.mem_singleton.mp hx,
∃ t,u=Value.bytes b t,
∃ t,u=Value.float b t,
fun j y v' '唊'=>?_,
('冟' '&' j pos),
(op==CmpOp.NotIn)=false,
('刽' (dS f y fs))],
#[CE '敏' u s',
fun w hw=>h w (aq _ hw),
⟨ '-','-'⟩,
s₁.heap.get? b='Y',
'戉'.map 'Ϧ',
.(by rw['ԏ'];exact h1.1),
⟨d',m',g1,g2,g3,g4⟩,
⟨ '儗',?_⟩,
RD K 'ȿ' 'ɬ' x v,
SqL K '儼' a vs,
AR 'ȿ' 'ɬ' a' o',
s₂.heap.get? b='Y',
fun z=>(ok1.z _ z).2 hD,
(Heap.SameBut.refl _ _),
a≠s₂.heap.objs.size,
(he '倭'),
(.int (zs.idxOf z:Nat)),
fun h=>h.imp Eq.symm id,
'呺' ?_,
(field 'Ϛ' 0>>=_),
(field 'Ϛ' 1>>=_),
bX X (compareOp op') r',
(rd2.ext '憰'),
q<n->qD o (js 'ˋ' q),
mg 'ԑ'='坜',
(LS '8' body),
(.dat (':' [x1,x0])),
p.weight<=w/\p.depth<=e,
R (.dat ('a' (!k))) m,
(ends ('戽')).2,
(List.range (bJ k)).map,
(List.range '凥').map,
(∀ z∈zs,'Е'),
(∀ w∈ws,'内'),
.dat (cD ('乗')),
['ʹ','ԋ','倛'],
fun y hy=>h y '塬',
'吶'<'俦'+1+1,
some (.l ('拄')),
.(by show '亙';rfl),
('城'.map .dat),
(by rw[nW];simp[aS,hk]),
Bd 81 ('主'),
'圢'.length,
['Ҥ','儛'],
(ws.map fun z=>(z,f z)),
∃ A,A='係',
b*(('及')*(a*c)),
(List.mem_cons_self ..),
-1200<=mo.1/\mo.1<=1200,
k4 c _ '扔' hc3,
.str '何',
"__static_attributes__",
'6' "told",
'6' "long",
'6' "both",
.(if x=y then [0] else []),
h.DictOf 'я' a vs,
bF (hm b _ q fun z=>z),
holding [v] (truthy v),
('乨' .And [a] pos),
(.Return (some e) pos),
(.While c body 'б'),
∃ u,us=[u]/\'Ӽ'],
#[PySem.W.lookIn name od,
'埣'.map 'Ͷ',
(hv 'ҹ'),
(keywordEach [] X.env),
scope.names.lookup y.1,
((sIx n n hi:Nat):Int),
(by rw[hlen];exact hw),
'擂' 0 lo,
'摰' kp,
∃ q,'叢'='У',
kvs.length+more.length,
fun h=>(ok.z p h).2 hp,
if_neg '˦',
'刨' q y u r2 ry,
'唀' (no vs H Q E),
I2.cell x c '堫',
aM h5 fun _ s6 hq0=>?_,
Heap.SameBut.update ..,
ae (wpAny_newTuple ?_),
ah _ ('惼'),
Heap.get?_push_cases e,
e1.trans '儩',
⟨o,keeps _ _ ho,r⟩,
'刨' _ x v w1 rx,
'刨' _ y u w2 ry,
(es.toList.map 'Ϧ'),
zs≠[]->t.plain=false,
(.dN X.K '戰'),
(pU ('俎') f),
(':' '垏'),
(show 0 < -b by omega),
List.any_eq_true.mp ha,
(∃ x y,'戼'),
(if x.2 then 1 else 0),
(bG sZ 'ό'),
('и' (aB (aA 0) aF)),
(aC (.int '堵')),
(aC (.str 'Ӹ')),
('偔' (aA 10)),
⟨trivial,'-'⟩,
h '夳',
fun r m2 r0 r1 hf2=>?_,
PyData.tuple [z.1,z.2],
(hf2.mono '+'),
some (.dat ('墫')),
fun z=>decide (z∈vs),
fun p=>'坍',
fun p m4 hp hf4 k4=>?_,
(fun r hr=>nomatch hr),
.str 'Ӯ' 281,
Str.ofString '˫',
'6' "any",
'6' "add",
.(by cases r;exact .nil),
PyData.depthAll ks<=6,
∃ t,u='憐',
∃ t,u='憑',
⟨_,es',ep',hL,r'⟩,
I.mod.glob.keeps I.bk,
('乨' .Or [a] pos),
(some ('垩')),
fun b hb=>'执',
fun i j=>.int '乩',
(intBits_le_64 'ɡ')],
#[(∀ v,(x,v)∉binds),
PySem.mem_of_lookup h,
seqIndex? i xs.length,
'慀'/\Q v H,
'妫' k='Т',
('咂' xs),
.inl (.inl (e 'Ё')),
decide (p.1≠k)=true,
decide (q.1≠k)=true,
fun h' dd' hs=>h _ ?_,
('咃' xs),
'Λ' body (LS X.K b),
Ext '亏' 'ɬ',
('S' (aI n sp ga)),
'奮' fa fd,
(relabel '刖'),
(ok.z a '乘').1,
src[i]?=some ('Т'),
Ok '刜' 'ɬ',
a=s₂.heap.objs.size,
'佌' acc d m Q,
Obj.data_mapFields hd,
ae (wpAny_handled ?_),
List.getElem_idxOf hj,
(ps.reverse.map .dat),
'唃' ps xs,
af (And.intro rfl h0),
'擌' its,
(rawInt n5.objs.size),
lL '呹',
ys.any fun y=>y.eqv p,
codeAny_builtin Mo ?_,
Heap.SameBut S h' h2',
ae (slicePart_int ?_),
(bZ '奠'),
.(by show '刓'),
(!('冭').isSome),
RawN 'в' hb h d xs,
∃ c,q='ӳ'+c,
('乙'.map .int),
(some ('倈'*bJ l)),
('ɍ' (aA 0) (aA 1)),
(aB '懖' aF),
(aC (.str '塻')),
(aB '˨' aF),
dH (cM acc x.1 x.2) r,
∀ c,'Ѡ'->m1 c=m c,
(hf'.mono '*'),
h1.1.mono '+',
h1.2.mono '+',
h2.1.mono '+',
h2.2.mono '+',
List.mem_append.mp hq,
('俠').length,
some (.d '叇'),
(by have:=jH h;omega),
wd (l&&k) b0 b1 a0 a1,
fun p=>PyData.str p.1,
Int.mul_pos hx.1 hy.1,
-1200<=u.1/\u.1<=1200,
(hf5.mono '*'),
fun p m5 hp hf5 _=>?_,
List.mem_append.mp hx,
(Or.inr '扛')],
#[LSp '儸' 1 nJ,
X.env.cells.lookup x,
σ[i]?='乆',
(fun _ z=>'塖'),
by simpa using I.len,
isTrue '佘' whole,
(op==CmpOp.In)=false,
('乨' op [a] pos),
release [v,ov,iv] [],
('ͱ' [tg] e pos),
⟨vs,H1,I1,r1,q1⟩,
(PIE 'ʘ' σ tg R),
('ϙ' e f pos),
items.size<=sizeLine,
('Д' a b pos),
xs.any fun y=>kB y x,
fitsIndex_both 'ɡ',
hA b ('坰'),
'奮' f fd,
(xs.map (putAt k u)),
h w' '哾' rw',
l.contains '冩',
cd.mro.isEmpty=false,
some ('垁'),
(∀ xs,o≠ '吝'),
∀ a b,o≠.frz a b,
Option (','),
('兜'.set r1),
r1.ext '儩',
(LSp K ps.length sp),
List ('憲'),
σ[j]?='乆',
fun z=>q1.2 (.inl z),
'兿'<zs.length,
('妹' m1 H2),
ZIt l s.heap '偽',
(up3 '佈' e),
s.heap.objs.size≠z,
(false,'厚'),
vs=[.ref a1,.ref a2],
s1.heap.objs.size<=c,
'呷' 4,
'呷' 2,
'呷' 3,
'呷' 1,
rx.ext '儩',
(show ws=[] from hr),
rd.ext '儩',
fun x e=>('щ'),
X.mg N='垁',
PyData.depthAll k<=6,
tks.length=zs.length,
('偳' (13+0)).1,
pre.length+hs.length,
t.place.size=es.size,
(aC (.str '˅')),
Str.ofString 'ͳ',
List.mem_append.mp h,
PyData.str 'ϛ',
decide ('倀'=is),
some ('儫'),
(fun z hz Q' hq=>?_),
of_decide_eq_true ht,
decide (f w<=t)=true],
#[.inl (lt '*'),
X.1*Y.2 + -1*Y.1*X.2,
(by rw[<- wC];omega),
Heap.SameBut d h h',
Reads s.heap v p as,
xs.length=us.length,
Mod X.K X.mg X.base,
(hs.2 c ?_).trans q,
'偬' u s',
fun c H1=>Q (!c) H1,
⟨y,H2,I2,r2,q2⟩,
(by rw[z];exact hb),
'偫' s2,
ns.length<=sizeLine,
(fun b u q=>'凝'),
.(by have:=r.dp;omega),
⟨[],H,I,.nil,h⟩,
vs.length=ps.length,
(by simpa using hv),
(by rw[ay]<;>omega),
('佬' (.lst ys)),
'垱'.length,
(r.val k).isSome_eq,
⟨x,H1,I1,rx,q1⟩,
'Д' o i pos',
List (Value×Value),
mroIn K C '冩',
⟨hh,g,d,t+1,os⟩,
∀ a,Z a->H' a=H a,
RDs '˚' 'ɽ',
vs.length=xs.length,
(show '乹' from h),
d[i]?=some ('ɚ'),
⟨_,'V' 'Ι'⟩,
('S' (aD r f g)),
of_decide_eq_true q,
fun 'ʙ'=>h.call,
ds.length=ps.length,
List.mem_cons.mp hp,
I2.hok.fresh 'ɑ',
∃ m,m<n/\I m s₃,
Ok '唐',
AR 'ȿ' m H a o,
'則' m1 H1,
PE X elt '修',
(fun H h a _ e=>?_),
wpAny_newObj_type q,
(Nat.not_lt_zero _),
'妵' tq its,
fun n2 b2 c2=>'α',
(.ref n5.objs.size),
('˔' '墡'),
.lst (ys.map V.str),
s.heap.IsList l2 ys,
I4.hok.fresh 'ɑ',
t.fits es.size=true,
by simp[L2.isK]at h,
(zs.map Lr).toArray,
some (o,pre.length),
Fun K nm nm st a fd,
[a0,a1,a2,a3,a4,a5],
of_decide_eq_true h,
(∀ z∈zs,'估'),
(aE (aN 'M') aH)],
#[(aE (aN 'Ɇ') aH),
(fP (hJ gX 'M')),
(aC (.str 'ѕ')),
(aC (.str 'і')),
(aC (.str 'ї')),
(aC (.str 'ј')),
bS '伛' 0='ɚ',
Fed (b+1) L '偿',
bU ['ʕ',I n] m R,
ks.length=ps.length,
ks.length=ys.length,
(ys.map PyData.str),
['Ҡ','Ҟ'],
['Ҡ','ҟ'],
some (I ('墷')),
n1.mono '+',
n2.mono '+',
(by cases l<;>simp),
Fed (b+2) L '偿',
wc both s1 s2 s3 s4,
('Ҡ',aL b0 c0),
('Ҟ',aL b0 c1),
.(by simp[PyData.eqv]),
List.getElem_mem hi,
h acc hp '*',
(some 'ϟ'::d1),
cC xs none '墩',
.str '俬' 165,
(fun e=>'щ'),
wpAny_pyHash_int h,
wpAny_pyHash_str h,
PyData.depthAll ps,
(sF '堛' k1),
Vals xs its.toList,
k a _ 'Ӵ' e,
(fun 'ƶ' n=>n),
hl j y v' '唊',
(.IfExp c a b pos),
(pyIter 'Ϛ'),
k it 'U' o e,
FnScope N ps scope,
b∈([]:'Ʌ'),
fun 'Ͻ'=>'凝',
'偬' w s,
.(by rw[ay,ay];omega),
(typeIs_int s k t),
(ns.map WData.int),
(storedH xs k b u),
"__getattribute__",
InstAt h x ox C od,
.str '厱' t,
(.frz od (.xd fs)),
(by rw[q];exact h),
(s.set i '休'),
PT X c ('ϼ' tc),
PG X tg '堪',
ExtY 'ʖ' 'ɬ',
⟨e.t,e.l,e.fz⟩,
{s' with heap:=h'},
R ('塮') s₁,
'哷' st6 b hb,
(zF eX '佯' e68),
(RPs 'ҷ'),
(Nat.ne_of_gt zlt)],
#[fun n2 e c2 he=>?_,
(sU '妥'),
(qM '妥'),
(fun 'Ӂ'=>?_),
{s1 with heap:=h'},
y.length<=z.length,
(ag (I.kIn _ o e)),
(h _ (eI ok hp).1),
PairsH H' 'Ϳ' ps,
'亲' Sz S1 S2 hS,
{s with heap:=h2'},
PE X k ('S' fk),
PE X v ('S' fv),
PE X lo '兼',
PE X st ('S' h),
(m2 b).isSome=true,
'Q'->Int->Nat,
((i*5+1)%'ҝ'),
.(if k then 2 else 1),
R ('堁') m',
decide ('ӹ'),
(oE 'ԧ'),
(aC ('乔')),
['˅',"a","b"],
J 'γ' 'Ь',
some (.str (kd b)),
fun k=>'兟',
(List.range i).map,
⟨rfl,?_,_,rfl⟩,
(by simpa using c),
.(by rw[Ci];exact hg),
gb.log '+',
by simpa using at',
(List.range x).map,
p.1∈zd/\p.2∈ws,
decide_eq_true rfl,
some ('兠'),
some ('堂'),
decide_eq_false q1,
(('份')==0),
⟨K a,c,pos',B⟩,
'制' 501,
⟨411,0,433,15⟩,
decide_eq_false h,
'偊' u,
'俵'=some o',
a.there c ob q hx,
s.heap.IsCell c v,
(I.ok.noex 'Ƚ'),
Option.some.inj e,
by simpa using hs,
by simpa using rv,
fun h' st' sb=>?_,
(sb.2 b hb).trans,
X.mg '倄'=none,
('ɓ' '倄' p),
fun _=>True.intro,
⟨z,H,I,rw',q⟩,
'攪' f,
([]:List Keyword),
(pre_splitW hpre),
⟨ 'Қ',[]⟩,
valueAt (q::qs) k,
(hs.2 b hb).trans],
#[X.A.units+1<cLine,
⟨rfl,rfl,rfl⟩,
'ɒ' "Exception",
RPd 'ʖ' 'ɽ',
H a=some '墘',
'Ҿ' m1 H1,
(xP ho 'μ' I h),
fun '!' q=>q.le,
('剓' j pos),
a.length+b.length,
(ok2.ext yy.same),
'偛' ds vs,
A.units+100<cLine,
(x,NameKind.free),
⟨f3,f1,f4,f5⟩,
Ext '刿' m H,
'姰' σ H s,
af ⟨rfl,h₅⟩,
af ⟨rfl,h₃⟩,
fun a _ m=>RL a m,
('剃' m1 H2),
by simpa using lp,
ok5.grow yy'.same,
fun yv s9 hq0=>?_,
(fun {Q s} q=>?_),
(cH '姸' f),
(aP m2 a '倆'),
"desrever".toList,
"object.__init__",
'ˆ'-1-'Ͳ',
((n-1-i:Nat):Int),
by simp[chkS]at h,
fun h' e k he=>?_,
x=.dat (pD l1 ps),
y=.dat (pD l2 qs),
'姐' hm g1,
(Js '妮'),
KeyKind 'в' κ,
(k1 _ _ ('乯')),
(Sum.inr:Str->aK),
fun o e=>'亲' e,
y=.dat ('ɝ' rs),
(bP vs ky).isSome,
PE X c ('S' h),
o.cls='ɒ' "set",
('吒').isSome,
((g,y):κ×D).1=k,
((g,w):κ×V).1=k,
some (.frz ob u'),
List (PyData×β),
List.find?_some e,
∀ z∈ws,'估',
'叛'.length,
(.o '˫' []),
.two 'ɫ' i j,
'偘' 20000 r,
(.d (WD ts says)),
(aC ('場')),
(aC (.str "may")),
"_law_order_here",
List.mem_map.mp h,
Int.mul_pos x0 x0,
'墀'∈ 'Ү',
∀ u∈us,u∈ws],
#[h _ _ (keep G) ?_,
[t00,t01,t10,t11],
⟨_,rfl,z1,?_⟩,
(n.1*k.2+k.1*n.2),
decide_eq_true q1,
fun z h=>'-',
"__firstlineno__",
(vJ w.params).ins,
{cls:=c,data:=d},
some (.frz ob u),
k b u (hb b n) q,
I.ok.funs.mem hb,
(fun '!' e=>e),
(TP '倵'),
(execs st X.env),
{D with nx:=u D},
.int (i^j.toNat),
(compareOp .LtE),
fs.lookup m=none,
'吊'.toArray,
.seq its.toArray,
⟨o,e,ex.2.1⟩,
(.inl (.inl h2)),
RD '˚' x v,
⟨_,'俼'⟩,
⟨_,'墈'⟩,
⟨b,rd.bl,?_⟩,
"tuple.__rmul__",
its.size*k.toNat,
RP 'ϯ' q v,
k==NameKind.free,
RP '唎' p v,
ok5.ext yy'.same,
yy'.same _ _ hDy,
fun _ s7 hq0=>?_,
fun b s8 hq0=>?_,
assign tg2 env v,
h.get? it='Y',
fun n1 z1 c1=>?_,
IsPair n2 TO a b,
n5.get? c='Y',
"tuple_iterator",
ZqS l X.K H a xs,
ZqS l1 K H t1 xs,
ZqS l2 K H t2 ys,
⟨_,st.z,rfl⟩,
h2.get? b='Y',
(by rw[hs2];rfl),
.(by show '傀'),
(stored acc k v),
(.dK (mN [] ws)),
(Ne.symm (lt e)),
(bP vs k).isSome,
[a0,a1,a2,a3,a4],
Int.mul_pos hg h,
R (I ('ԉ')) m,
hX '剄' x y,
"_law_sign_here",
('吸').map bA,
(aP m c (.l [])),
Bd.part e1 g0 bt,
Bd.part e2 g0 bb,
'凈'∈ 'Ү',
x.2=true->'Ф'],
#[Int.lt_or_le A 0,
Code.body b env0,
(lT p b 'ƶ'),
(h.push o).get?,
ae (af 'ѓ'),
Paired.length r,
PyData->V->Prop,
(xs.map 'Ͷ'),
fs.length<=1000,
(fun b u e=>?_),
(exec st X.env),
(binaryOp .Sub),
(binaryOp .Mod),
.int (i.fmod j),
(binaryOp .Pow),
(compareOp .Lt),
(decide (i<=j)),
(compareOp .Gt),
(compareOp .Is),
congrArg some e,
"type.__call__",
fun r s' hq=>?_,
⟨I2.kIn,?_⟩,
⟨ho,ho2,?_⟩,
fun m=>xs[i+m]?,
.seq vs.toArray,
vN hN hv hd hcd,
atKey (q::qs) k,
p.hasDict=false,
.dat (':' a),
(.dat ('倎')),
SqT X.K H1 a xs,
xs.length-'γ',
('哷' st6),
'ӄ' H' a vs,
⟨z,ey,hz,q⟩,
ys=zs.map 'a',
noteFrame x env,
ZIt l h '偽',
⟨o,k o e,r⟩,
ZSq l2 n3 t2 ys,
ah _ ('˾'),
(bW aw '交'),
pyNext 'И',
⟨_,hz',rfl⟩,
(vs.eraseIdx i),
(zY r r' f g h),
some ('伖'),
⟨_,_,h1,h2⟩,
TSet P w h a zs,
L2.isKs ps=true,
some (.tup xs'),
('姴' zs),
jF fs z=some sp,
by simp[nN]at n,
lA 'ˋ' (n+d),
Df K mg nm st a,
p.showable=true,
fun t=>'墫',
['Ҥ','伪'],
'吕'.filter,
rows.length<=20,
eL '哊' i,
sJ k l a ws x y],
#[.two 'Ц' i j,
'伙'.length,
List.cons.inj e,
(dH [] (gU ts)),
fun y hy hs=>?_,
m c=Option.none,
⟨false,rfl⟩,
(s00<=0->s01<0),
(0<=s00->0<s10),
fun _=>'-',
bD (Ne.symm pq),
⟨_,_,_,rfl⟩,
∃ P,P='凓',
eL '哊' j,
Int.neg_mul _ _,
n1*(a*b)*(c*k2),
k1*(b*c)*(a*n2),
(PyData.list L),
yF W (hmy p hp),
hmy p (hs p hp),
hmy p (pF p hp),
wO W (hgp p hp),
hgp p (hs p hp),
hgp p (pF p hp),
bD (Ne.symm wa),
'伳'+400+20*j,
bD (Ne.symm ew),
bD (Ne.symm ec),
some ('ђ'),
(Sum.inl a:aK),
(Sum.inr a:aK),
(cI 'в').is,
u=Value.type n,
AllBare s.gens,
(fun m hm=>?_),
⟨u',r',?_⟩,
GP 'ʘ' Q s',
⟨σ,H,I,h⟩,
⟨H3,I3,q3⟩,
X.N[j]?='С',
pure Flow.next,
'剘' H' b,
J.yld '前',
Int->Int->Prop,
(decide (j<i)),
bS xs i='ɛ',
'ӄ' H p ys,
'偕' p ys,
.int ys.length,
(Obj.mapSeq f),
its.eraseIdx k,
'ӈ' callerA,
⟨h1,h2,ry⟩,
⟨h1,h2,h3⟩,
'ϸ' d v,
'姎' h3,
Ok '佇',
.dat ('ɝ' b),
q.canLay0=true,
PyData.eqv p q,
.inl (.inl g0),
bS xs i='͵',
(dI 0 j.toNat),
(e13.trans e4)],
#[('ɒ' (lZ q)),
[a,'ɓ' T p2],
s2.heap.get? b,
(emit D X.env),
Ok '亏',
.lst (vs++[y]),
fun _=>.lst [],
off.inv I5 hs',
¬ ('Ͳ'<0),
its.toArray[m],
vE _ _ hm2 hlt,
ys=zs.map .int,
eval iter2 env,
its[i]?='ɚ',
ZqS l K H a xs,
⟨none,rfl⟩,
bP vs k='ɛ',
RKV.repl hp h3,
⟨h2,h3,h4⟩,
(is.map V.int),
bP vs z='伩',
⟨_,hx,rfl⟩,
[lI kv.1,kv.2],
⟨_,hz,rfl⟩,
kvs.length<=15,
Paired r 'Ϳ',
('ˆ'-lo-1),
wpAny_Slice ?_,
L2.isKs k=true,
Nat.succ_pos _,
by split<;>rfl,
decide (ws=[]),
Fed 2 '佖',
BM k l n zs ws,
(dJ k l x y z),
'倚'/\cT y.1,
rows[i.toNat]?,
(aC (.int 12)),
('剚' aF),
(aC (.int 10)),
(aC (.int 11)),
(aO 2 '吳'),
fun '!'=>rfl,
(iT.getD i ""),
(aS xs).length,
(hX '剄'),
.(by rw[f1];simp),
.(by rw[g1];simp),
absurd hc.1 cb,
bL [(s00,t01)],
bL [(s10,t00)],
eL true rows j,
b*g*(T'*(a*c)),
'倇'.length,
Prod.ext t1 t2,
'亁'*12^'乿',
Value->Sem Fin,
"__builtins__",
(TY x x' w os),
(kG 10 74++[]),
(topStub prog),
Value.int i t,
Value.str x t,
Sum.inr.inj q],
#[us[i]?='ɻ',
⟨_,rfl,r⟩,
X.H₀ b=none,
(I.cne 'й'),
s.heap.get? a,
(.Expr e pos),
'Λ' body tb,
Int->Int->Int,
Vals 'ϩ' us,
"__setattr__",
PE X value tv,
A.depth+3*k+5,
"__getitem__",
r '佐',
xs[j]?='ɛ',
(getItem o i),
⟨rfl,fin⟩,
fun h' kp=>?_,
"list.extend",
s₁.gens=#[],
fun 'Ƚ'=>?_,
⟨0,0,0,0⟩,
(jX kvs more),
SqL K H' a vs,
⟨q1,h1.2⟩,
RPs.lift tr h,
RKV.lift tr h,
⟨v,h1,h2⟩,
(e2.trans h2),
(e3.trans e4),
⟨o,g1,g2⟩,
Str×NameKind,
yl 'ɬ' eX.y,
lO fp s6.heap,
(fun D=>xQ D),
.(by rw[bC];rfl),
some ('Ԉ'),
ys[i]?='С',
StrsAre us zs,
Option PyData,
(vs++[(k,v)]),
KEnt w es kvs,
(keeps 'Ƚ'),
(I1.ok.hd hc),
z.map Sum.inr,
s.heap.get? S,
(ok1.ext sm1),
((fk,fv)::ps),
kZ m y='У',
L2.isK p=true,
(.dN X.K kvs),
('偳' k),
(Fb 'ˋ' k),
fun q a b=>?_,
t.dummies=#[],
[a0,a1,a2,a3],
.str (kd t.2),
[-1,-1,-1,-1],
ns.length<=63,
(.str (tn z)),
R ('ʡ') m',
(xs.map .int),
(ys.map .int),
zs.length<=13],
#[(says.map eR),
[none,some 4],
(aC (.int 5)),
(aC (.int 4)),
(hf.trans q2),
hf2.upd ca cn,
d*(a*f)=a*d*f,
d*(e*b)=e*d*b,
(jI hb ha.py),
(iN ha hb.py),
(a*n.2<n.1*d),
(n.1*d<a*n.2),
(by simp[e3]),
(kn.trans k1),
(a,p)∈ 'Ү',
(jI t2 t1.px),
(iN t1 t2.px),
k<rows.length,
(cR A0 B0 C0),
(cR A1 B0 C1),
⟨lo',hi'⟩,
L.length<=100,
cW (fO nm hy),
"__package__",
'ɒ' "frame",
some (.ref 0),
(fun w h=>?_),
decide (p=q),
u=Value.none,
RelV p.2 q.2,
bF (kH q hn),
('ͼ' x o'),
⟨sl',e2⟩,
(a::b::rest),
False.elim z,
hN σ3 H3 n3,
tn i s'.heap,
(g==k)=false,
(eval e env),
fun y hy=>?_,
False.elim q,
s.TypeIs v T,
r1.append r2,
'偻' p xs,
Vals ys its',
(Ne.symm hb),
ob.dict=none,
⟨o,e,ex⟩,
'佩' .nil,
(true==true),
⟨[u],[]⟩,
'ԥ' z,
fun 'Ё'=>h,
valueAt vs k,
(atKey xs k),
('佪' ob),
"ValueError",
Bl n hn _ ho,
List (aK×D),
(pR,.non)::r,
⟨_,.nil⟩,
(ok1.ext sm),
p.depth<=100,
fun _=>False],
#[eq_of_beq hx,
(Option Nat),
R (.ok f) s',
mu.2 _ _ rfl,
AR Z m H a o,
rs9.2 j z hj,
(loop _ rfl),
(newList []),
⟨[a],[]⟩,
hit m hm hm2,
('与' fi2),
Value.ref tq,
its[i]?=none,
(qW l1 h t1),
'ɒ' (ci l),
(.tup [_,_]),
kvs++['乾'],
RelV v e.val,
(zs,a,v)::xs,
(rk Z 'Μ'),
"list.index",
ps'.map .ref,
(Ne.symm nS),
(Ne.symm S3),
(Ne.symm S4),
(Ne.symm S1),
(Ne.symm S2),
⟨hl2,q2⟩,
X.K.lookup a,
(bW ws ks v),
(Vals.rel t),
d.set j none,
(p.getD j 0),
⟨[v],[]⟩,
'ʁ' t2,
a-b*a.fdiv b,
i.natAbs<2^n,
[-1,-1,0,-1],
[-1,-1,1,-1],
ds=[I a,I b],
ds=[I t,I b],
Tm p t.2 x y,
'ѯ' x.1,
'唔' n _,
.dat (eD st),
"_law_least",
"_law_apart",
PyData->Prop,
k 'Ь',
ps.length<=6,
(nm f (s+1)),
('ѯ' z),
⟨rfl,q2⟩,
is.length<=2,
fun a ha=>?_,
fun z hz=>hz,
13*zd.length,
fun u hu=>?_,
⟨_,g,?_⟩,
(.dat (g z)),
.(by rw[qX,qX]),
(X*b-Y*a)*n2,
(Y*c-Z*b)*k2,
(hf1.new en)],
#[1<=xs.length,
(Ne.symm ac),
(iA gu' gv'),
f6.get ca c5,
some (s2,t2),
[topFrame q],
"__loader__",
"__cached__",
(Or.inl rfl),
hashStr w x,
hashKs w xs,
Value->Bool,
Array UInt8,
Value->Prop,
(xs.take n),
(xs.drop n),
us[i]?=none,
KLst K a xs,
(neL 'Ƚ'),
.int (lo+i),
(f2 b hb).1,
again I7 n7,
Int->Int->V,
Qy x y=true,
('Ӎ' ?_),
.str (i++j),
Vals [x] us,
(·.isSome),
(g==k)=true,
.(by simp[dS]),
(dS f y fs),
(Ai f y fs),
(i+n).toNat,
j<xs.length,
Vals ys its,
fun a e=>?_,
bP (p::r) k,
(ks.map kV),
af (ae fin),
List (V×V),
fun b q=>?_,
cF hp 'Ё',
m a=some c0,
H a=some o0,
ps.length=n,
('S' fi),
I1.tuple hq,
⟨vs,h1⟩,
'剎' xs,
(LS K body),
aq _ (ih h),
h₁.get? b,
(pyIter it),
rs5.ext e56,
e7.trans e8,
⟨?_,?_⟩,
(.str y tk),
KT X.K c zs,
i<ps.length,
Q acc d1 m2,
(LG X.K g2),
('ϼ' t2),
ys[k]?=none,
(cC xs l u)],
#[(iC vs l u),
(bW vs k v),
o.slots=#[],
.(by simp[q4]),
p.depth<=50,
j-ps.length,
(sm.seq g1),
(sm.seq g2),
⟨_,hS2⟩,
0<xs.length,
xs.length-1,
(ok.z b hz),
(jX [] kvs),
Value.ref _,
rN ok e1 r1,
rN ok e2 r2,
I4.tuple hq,
vs.lookup f,
⟨i1,i2⟩,
(dS f v vs),
Mk X.K C fa,
cX (p::r) k,
(e.trans z),
(hashInt z),
(sL zs tks),
lt a b=true,
lt b c=true,
lt a c=true,
t D EX σ H,
⟨_,X,G⟩,
.str (kd l),
[0,-1,1,-1],
[1,-1,1,-1],
[-1,-1,1,0],
[-1,-1,1,1],
.dat (fq y),
'Ӆ' x.1,
'Ӆ' x.2,
'Ӆ' y.1,
'Ӆ' y.2,
Row->PyData,
Gc ts x y n,
has ts ps r,
(xs.zip ys),
(fs.map oD),
"_law_most",
"_law_name",
J n 'ʗ',
J 0 'ʗ',
fs.map .str,
c*b*f=c*f*b,
Int.gcd x y,
h m Kn.refl,
⟨o1,?_⟩,
⟨o2,?_⟩,
(kn.new hc),
(kn.new kc),
.int (bJ l),
fJ l n w hw,
(es.map bA),
some (cD r),
⟨r1,r2⟩,
a.1*b.2*c.2,
b.1*a.2*c.2],
#[b.1*c.2*a.2,
c.1*b.2*a.2,
A*n.2=n.1*P,
n.1*P<A*n.2,
⟨lo,hi⟩,
⟨i,rfl⟩,
1<=L.length,
'ɠ' st15,
g0::gr≠[],
α->Sem Fin,
h '˛',
t0 w.params,
⟨x,k,v⟩,
(R.hold ?_),
('ɴ' _ _),
(aD fG _ _),
(aD gR _ _),
(aD eJ _ _),
(aD iP _ _),
(aD lG _ _),
⟨h,X,G⟩,
_ v u Q I rx ry,
.(by obtain⟨_,l1,rfl,h1⟩:=dD h0;obtain⟨_,l2,rfl,h2⟩:=dD h1;obtain⟨_,l3,rfl,h3⟩:=dD h2),
∀['凯'](hs:'劐'){use:'嘴'}{QQ:'K'}{pos':Pos}{pins:'<'}{s:Shared}{σ:L2.St}{H:Hp}{Z:'7'}{d:aQ}{m:Mu},_,
wpAny_callSpecial?_slot (name:='侑'),
.(by cases k<;>cases l<;>(show '拮')),
_ (hi:=hi) (hg:=hg) (ht:=ht) (he:=he) (hkind:=hkind) (hB:=hB) (hS:=hS),
.(by repeat show '拰'),
.(by show 'ʀ';obtain⟨p,q,e1,e2,h1,h2,h3,h4⟩:=h;obtain⟨m1,w1⟩:='抡';obtain⟨m2,w2⟩:='抢';obtain⟨as,ra⟩:='廪';obtain⟨bs,rb⟩:='廫'),
.(by first | exact h | refine '嘣' | refine '嘤' | show 'Ɋ' | show 'Ʉ' | refine 'Ћ' | refine '帧' | refine '岟' | refine '办' | refine '岠'),
∀(D:'仁')(hz:'侙')(ht:'侍')(hTI:'亼')(h1:'傹'),_,
∀{z TI TO i1 i2 l1 l2:Addr}{T k:Nat}{b:Bool},_,
.(by unfold Builtin.SmallTypes.ownedTupleIsFree;refine '寪';simp only[if_true];refine '嬤';refine '它';replace z1:'帓':=z1),
∀{M:Model}{A:Around}{E:'K'}{i:Nat}{x:Str}{v:V}{u:Value}{Q:'侦'}['O'](hN:X.N.Nodup)(hi:'丼')(hx:'僵')(r:'˄'),_,
.(by show '伴';obtain⟨hi,xs,ys,q1,q2,hn⟩:=hg;obtain⟨its1,r1,p1⟩:=q1.inv I;obtain⟨its2,r2,p2⟩:=q2.inv I),
.(by simp only[List.mem_cons,List.not_mem_nil,or_false]at hc;subst hn;rcases hc with rfl | rfl | rfl | rfl | rfl),
.(by obtain⟨o,ho,hc,hd⟩:=id hit;obtain⟨ol,hol,_,nl,hdl⟩:=ht;unfold Builtin.SmallTypes.nextOf;refine '娆'),
.(by obtain⟨u,hr,h5⟩:=hq0;subst hr;refine '廣';obtain⟨x,H6,I6,r6,yy,st6,fr6⟩:=hq0;have yy':=yd x H6 yy),
_ ht.typeIs PyProof.Rows.slot_tuple_getitem.lookup,
∀{x qual:Str}{st:Stmt}{fa:Addr}{fd:FuncData}{N ps:'$'}{k:Nat}{sp:DC}{body:DS}(F:'弡')(S:'僑'),_,
.(by simp only[List.mem_cons,List.not_mem_nil,or_false]at hb;rcases hb with rfl | rfl | rfl | rfl | rfl),
.(by refine 'ʮ';simp only[List.zipIdx_cons,List.zipIdx_nil,List.forIn_cons,List.forIn_nil];refine '嘉'),
.(by refine '嵫';rw['˃'];simp only[List.forIn_toArray,List.forIn_cons,List.forIn_nil];refine ae ('嘋')),
∀{t sl:Addr}{items:'ċ'}{vl vu:Value}{lo hi:'ɢ'}{Q:'K'}(ht:'介')(hs:'劭')(pl:'厛')(pu:'厜'),_,
.(by show 'Ԕ';simp only[RD,RP]at r1),
∀(elt tg iter tg2 iter2:Expr)(ifs ifs2:'W')(scope:Scope)(pos:Pos)(it acc:Value)(env:Env),_,
∀{elt tg iter tg2 iter2:Expr}{ifs ifs2:'W'}{scope:Scope}{pos:Pos}{it acc:Value}{env:Env},_,
.(by intro '倯' h hs;obtain⟨p,xs,i,z,rfl,rfl,hq,he,q⟩:=h),
.(by rename_i p q hne;obtain⟨h1,h2,h3,h4⟩:=h;obtain⟨as,ra⟩:='侖';obtain⟨bs,rb⟩:='廠'),
∀{E:'K'}{pins:'<'}{s:Shared}{σ:St}{H:Hp}{x:Str}{u:Value}{pos:Pos}{Q:'K'}['O'](hg:'ˇ'),_,
_ (a:=a0.1) (b:=a0.2) (c:=a1.1) (d:=a1.2) (e:=b0.1) (f:=b0.2) ha.px ha.py hb.px,
.(by obtain⟨p,hp,rfl⟩:=oF hx;obtain⟨v,hv,rv⟩:=h2.get hp;refine '宁';have:=y.2 vs q1),
∀['ɀ']{n b L:Int}{m0 m:Mu}{R:DK}(h0:0<n)(hb:n<'否')(hL:'伄')(hbb:'叺')(hf:'儝'),_,
.(by obtain⟨j,h1,h2,h3,h4,h5⟩:=xV he;obtain⟨w,ew,rw'⟩:=r.get h2;have hl:=r.length),
∀(cl:Value)(g:Addr)(clo:'Ў')(d kd dc pm:Value)(an:'˂')(cd ct:Value)(bi:Addr),_,
by rintro n s4 ⟨i,ys,acc,d',m',σ',H',rfl,hi',I5,st5,fr5,hDy,racc,eX,ok5,rs5,lp5⟩,
∀(I2:'匍')(hf:'嘞')(hob:'嬙')(hkind:'҃')(hcell:'ѽ')(hcl1:'尯')(hcl2:'啈'),_,
by rw[Bool.and_eq_true,Bool.and_eq_true,decide_eq_true_iff,decide_eq_true_iff]at c,
.(by rcases ce.kind with⟨_,_,_,_,rfl⟩ | ⟨_,_,_,_,rfl⟩ | ⟨_,_,_,_,_,rfl⟩),
.(by obtain⟨it,fp,tn,J,H2,eit,I2,T,st2,f2,xs,m1,e1,ok1,yl,lp⟩:=h₂;subst eit),
.(by unfold pyNext;refine '娨';unfold Builtin.«reversed.__next__»;refine '審'),
by rintro s5 C D H' m' ps o q hDo mD e ok' ⟨vs,rfl,ar⟩ ar' rc hns I5 off,
∀{op op':CmpOp}{r r':D2}(ho:'勲')(ho':'庨')['伻'](hc:'恾')(hm:'存'),_,
.(by show '择';obtain⟨_,l4,rfl,h4⟩:=dD h3)],
#[∀{k v:Expr}{ks:'Ӝ'}{vs:'W'}{fk fv:DE}{ps:'Ӭ'}(hk:'怞')(hv:'怟'),_,
by rintro ds m R hl ⟨ts,ps,says,rows,M,st,rfl,W,so,⟨i,rfl⟩,hN,hR⟩,
.(by simp only[PyData.canLayAll0,PyData.canLay0,cW gu,cW gv,Bool.and_self]),
.(by rintro ds m R hl ⟨ts,a,b,k,l,rfl,hn,nd,ha,hb,h⟩;have g1:=nG nd ha),
.(by rw[List.any_map,Bool.eq_iff_iff,List.any_eq_true,decide_eq_true_iff]),
.(by unfold DL.pick at ih ⊢;rw[List.filterMap_cons,List.filterMap_cons]),
.(by obtain⟨rfl,_⟩:=r2;obtain⟨vs,g1,g2⟩:=ok.d hm;obtain rfl:='嗥'),
.(by rintro ds m R hl ⟨rows,i,rfl,h⟩;unfold eL at h;refine '崟';rw[av]),
∀{st:Stmt}{f:Addr},_,
.(by obtain⟨x0,x1,x2⟩:='厍';obtain⟨y0,y1,y2⟩:='垖';have c1:='墹'),
_ X rfl rfl rfl hc i pins s3 σ3 H3 X.xe I3 (stat fr3) st3,
.(by obtain⟨its,r1,p1,_⟩:='堣';obtain⟨its2,r2,p2,_⟩:=I.tuple hb),
.(by obtain⟨its1,r1,p1,_⟩:='塵';obtain⟨its2,r2,p2,_⟩:=I.list g2),
.(by simp only[aS,List.mem_cons,List.mem_append];rcases '丯' with h | h),
.(by obtain⟨o',es',ep',ho',r'⟩:=hm;rw[ho]at ho';cases ho';exact '弌'),
∀{h h':Heap}{d:Addr}{o:Obj}{es ep}(ho:'南')(hd:'丮')(hs:'徖'),_,
.(by obtain⟨σ3,H3,I3,n3⟩:=q3;obtain⟨m',hm,w3⟩:='懶';exact '幡'),
.(by show '击';obtain⟨p,ys,rfl,hq,q⟩:=h;obtain⟨u,rfl,rx⟩:=gI r),
.(by subst ey;obtain⟨ws,rel,dd⟩:='嶿';obtain⟨w',hw',rw'⟩:='媕'),
∀{NC:'$'}{src:'ɷ'}['呀'](he:'Ν')(hNC:'啢')['凷'](hs:'Ο'),_,
.(by ·show '挬'),
∀{l1 l2:Bool}{z TI TO i1 i2 t1 t2:Addr}{k:Nat}{xs ys:'ċ'},_,
_ xs.length X.K '亹' [] tn fp 'Ӕ' '屁' '官' '恧' '宂',
.(by intro '捷';refine '娇'),
_ '出' (use:=none) (QQ:='卨') (RL:='峸') I ok rs h ?_,
.(by rw[List.length_append,List.length_cons,List.length_nil];omega),
.(by simp only[Bool.false_eq_true,if_false,au,List.map_nil,bO,gN]),
FnOk 'Ԗ',
.(by simp only[Bool.false_eq_true,if_false]at h₃ ⊢;exact '恥'),
.(by obtain⟨t2,rfl⟩:=r2;obtain⟨t3,rfl⟩:=r3;have rd':='徂'),
∀{H:Hp}{s:Shared}{z TI TO i1 i2 l1 l2:Addr}{xs ys:'3'},_,
.(by rw['Ϣ']at h;obtain⟨r,e1,e2⟩:=Lg c;rw[e1]at h;refine '媙'),
_ t b vs.toArray ws.toArray n n2 dd dd2 sl sl2 '徥',
.(by simp only[sliceBounds,HT.sIx,Option.getD_none,'常',if_true]),
_ xs.length Y.K Y pins tn fp 'ȿ' '崑' '怑' '彵' '嬣',
.(by intro '挼' kl ck),
.(by simp[Ah,cD,PyData.eqv,PyData.canLay0,PyData.depth];exact h),
.(by rw[au,au];refine '埫';obtain⟨h1,h2,h3⟩:=h;unfold putAt),
.(by simp only[RP]at h ⊢;obtain⟨a,o,u,vs,h1,h2,h3,h4⟩:=h),
∀(hc:'ɰ')['佃'](hi:'˴')(hg:'Ά')(ht:'΅')(he:'Ν'),_,
∀['拱'](h2:'嘟')(g1:'匜')(g2:'忈')(hx:'垉')(hy:'垊'),_,
_ done tps dps kvs o3 o4 o5 m' e1 e2 e3 tt kn hm,
.(by obtain⟨its,r,ht,hz⟩:=I.tuple hx;have hlen:'市':='嶁'),
.(by subst e;rw[List.getElem?_set]at q;simp only[if_true]at q),
.(by simp only[RD,RP]at rd';obtain⟨a',vs,rfl,hq,hv⟩:=rd'),
_ none none,
.(by obtain⟨A,eA⟩:'廁':='9';obtain⟨P,eP⟩:'感':='9'),
.(by refine 'ʮ';simp only[newExc,newTuple];refine ae ('劦')),
∀['ɀ']{o o0:HO}{c c0:Cel}['ˉ'](hm:'扽')(hH:'找'),_,
.(by rcases iX hv with⟨j,u,rfl,rfl⟩ | ⟨y,u,rfl,rfl⟩),
.(by intro '刌' '帐';subst e1 e2),
.(by simp only[RP]at h ⊢;obtain⟨a,vs,h1,h2,h3,h4⟩:=h),
.(by obtain⟨u,rfl,ru⟩:=gI rs;obtain⟨tk,rfl⟩:=id ru),
∀(hg:'崙')(hdb:'孚')(he:'˲')(hpl:'Ђ')(hn:'傝'),_,
_ 'Ԟ' 'ʉ' ['ˬ'] _ [iv] Q I2 rfl '億' '嵪',
_ w s₀ s₁ mg mb fa o pm cd doc a vs ns G,
.(by simp only[Bool.not_true,Bool.false_eq_true,if_false]),
.(by rintro ds m R hl ⟨a,L,rfl,hL,hT,h⟩;have hf:='仼'),
fin s5 C D H' m' ps q e ok' '噶'.1 hns I5,
.(by simp only[gN,List.set_cons_succ,List.set_cons_zero]),
.(by obtain⟨its,r',pl,hz⟩:='ч';have hlen:=r'.length),
_ 'ѫ' i1 i2,
ho' pins s4 σ H4 Z m4 y z' dy dw u w' R,
.(by rcases iX hb with⟨j,u,rfl,e⟩ | ⟨y,u,rfl,e⟩)],
#[.(by ·show '捥'),
.(by obtain⟨H8,I8,m8,e8,ok8,q8⟩:=hq0;have e68:='抉'),
.(by obtain⟨C',dx,vs,h1,h2,h3⟩:=ok1.o hm;rw[g]at h2),
.(by rw['峰']at e2;obtain⟨u',r',q⟩:='忷';refine '愶'),
Calls.Name_function_global I.ok.kind hg,
.(by rw[Option.isSome_map]at q;rw[<- q,<- l];exact '厁'),
.(by rw['戜'];simp only[beq_eq_false_iff_ne];exact '慝'),
_ (c:=b0.1) (d:=b0.2) (e:=b1.1) (f:=b1.2),
∀['倡']['亐']{outer:'ʷ'}['Ҹ']{H:Hp}(e:'劲'),_,
_ '憵' (ob:='峚') '恫' rfl '忀' '屓' '函',
.(by simp only[aS,List.length_cons,List.length_append]),
.(by simp only[List.foldl_cons,List.length_cons];omega),
.(by obtain⟨its,r,ht,hz⟩:='抣';have hlen:=r.length),
.(by rintro ds m R hl ⟨z,rfl,hz,h⟩;have q:=Cb z hz),
_ 'Н' s.heap.objs.size,
∀['ϭ']{says rows:'Ͱ'}{M:Int}(W:'匈')['ͺ'],_,
_ q loose XP YP l.row.toRowW d [] ('嘜'),
.(by obtain⟨its,rv,⟨o,e,c,n,d⟩,_⟩:=I.tuple h2),
.(by obtain⟨_,_,_,_,o,_,_,e,ex,_⟩:='垯';exact '戂'),
.(by show 'ԓ';obtain⟨i,j,rfl,rfl,q⟩:=h;show '倲'),
∀['O'](ok:'仯')(rs:'図'),_,
∀{g':'儒'}{t':Nat}{d':Drawn}{ch:'Ʌ'}['O'],_,
∀{k:Nat}['亐'],_,
.(by obtain⟨cd,hc,_,ho⟩:=c.cd;have ne:'彩':='嫹'),
wpAny_isInstance (T:='圹') (b:=true),
∀{a b c d e f:Int}(hb:0<b)(hd:0<d)(hf:0<f),_,
envOfC qual scope s.heap.objs.size f,
.(by obtain⟨σ7,H7,I7,d7,m7,e7,ok7,rs7,q7⟩:=hq0),
.(by unfold mroIn;rw[hc,Option.bind_some,'帺','戌']),
_ PySem.F.slot_tuple_rmul.lookup 'ɵ',
.(by obtain⟨p,ey,hz,q9⟩:=hq1;subst ey;exact '帎'),
∀{px py pt:Pos}{kt k2 pt2}(hc:'ɰ')['佃'],_,
Ec (AR:=mJ X.K) (o0:='慙') (a0:=[]),
∀(outer:'ʷ')['ԕ'](H:Hp)(s:Shared)(Q:VK),_,
∀{op:CmpOp}{r:D2}(ho:'勲')['伻'](hm:'宰'),_,
∀(X:Cx)(D:Addr)(emit:'丬')['ˊ'](AR:'傡'),_,
_ s7 σ7 H7 ys7 acc7 d7 m7 I7 '倨' a6,
.(by rcases h with h | ⟨o,its,n,hk,hc,hs,hz,r⟩),
.(by ·show '掍'),
_ PySem.F.slot_tuple_mul.lookup 'ɵ',
.(by refine 'ʮ';unfold Builtin.Tuple.tupleIsExact),
∀(X:Cx)(pos:Pos)(keys:'Ӝ')(values:'W'),_,
∀(hall:'宦')(hl:'宧')(h0:'峇')(h15:'屔'),_,
_ 'ɡ' p1.isList p2.isList '嚏' '嚐',
by rintro ds m R hl ⟨k,l,n,z,w,rfl,hz,hw,h⟩,
PySem.W.callWith_K (h₀:=X.base),
.(by show 'ԓ';obtain⟨p,xs,rfl,hq,fx,fs,q⟩:=h),
.(by obtain⟨v10,H10,I10,_,e10⟩:=hq0;subst e10),
.(by subst e;obtain⟨u1,u2,rfl,ru1,ru2⟩:=Ag r1),
∀(z TI TO i1 i2 l1 l2:Addr)(xs ys:'3'),_,
Int.mul_le_mul_of_nonneg_right h1,
Int.mul_le_mul_of_nonneg_right h2,
.(by rw[ih];unfold oN SetTable.advance;dsimp only),
∀(A:Around)(outer:'ʷ')(s:Shared)(H:Hp),_,
∀{m n:Nat}{i j:Int}(h:Bd m i)(g:Bd n j),_,
∀['ʲ'](hu:'博')['O'](g:'垴')(ry:'˓'),_,
.(by cases u<;>first | exact '愃' | show 'ѳ'),
.(by rw[List.length_take,List.length_drop];omega),
.(by obtain⟨_,f1,_,f3,f4,f5⟩:='倅';exact '恡'),
.(by refine '嵥';simp only[Int.toNat_natCast,hx]),
.(by rw[evalPart_none,evalPart_some];refine 'α'),
PyProof.Rows.callWith_type1 '就',
∀(hu:'恓')(ho:'亰' td)(hi:PE X i ty),_,
Builtin.Slice.slicePlaces lo' hi],
#[Int.gcd_le_natAbs_right t (b:=b),
.(by subst hj;rw[hi]at e1;cases e1;rw['巐']at e2),
.(by refine '媪';show 'ʰ';refine '嵁';exact '巄'),
_ (i:=i) ('勯').2 ('僧') ('匸') hk,
_ _ D.TIz D.TITO D.TIi1 D.TIi2 hTI,
Mm (t':=s.toks) I hf hin ru1 ru2,
.(by cases l<;>(show '摳')),
∀(Q:VK)(u:Value)['һ'],_,
wpAny_Call_method_late '壩' rfl,
∀(mu:'墌')(he:'噒')(k:'寃')(heo:'噓'),_,
.(by rw[hk]at g;simp;refine '才';simp;refine '巎'),
_ '坕' '悟' '岏' '愵' '惜' I.bare,
segRunT treeTable p w 11 'Ӧ' 1,
_ hc.cr hg hm hv ha hn hdb he hpl,
.(by obtain⟨q,es,ep,hq,h2,h3,h4,_,h5⟩:=dd'),
.(by obtain⟨hz,hTI,⟨a,b,hTO⟩,h1,h2⟩:=S),
.(by show '壐';obtain⟨a,xs,rfl,hx,hw,q⟩:=h),
Int.gcd_pos_of_ne_zero_right t,
.(by subst e;obtain⟨o,e,c,d⟩:=st;exact '喀'),
∀{t sl:Addr}{items:'ċ'}{tk tk2:Tok},_,
∀(kk:'其')['ԕ'](mg:'Ɂ')(base:Heap),_,
.(by obtain⟨m,⟨o,es,ep,ho,r⟩,_⟩:='墏'),
.(by obtain⟨h1,h2,⟨a,c,h3⟩,z4,z5⟩:=st),
.(by rw[<- Int.neg_fdiv_neg,Int.neg_neg,'佺']),
.(by simp only[if_true,au,List.map_nil,bO,gN]),
.(by generalize g0::gr=gaps at hgp gl gne ⊢),
.(by simp only[Array.length_toList]at e;omega),
subscriptTail_builtinR (x:=w),
.(by obtain⟨ob,_,_,h1,h2,_⟩:=dd;exact '囈'),
.(by show '拿';obtain⟨a,vs,rfl,h1,h2⟩:=r1),
.(by show '挒';obtain⟨_,l5,rfl,h5⟩:=dD h4),
PySem.W.nsIn '8' mainGlobals,
∀(D:'嗤')(S:'将')(g1:'匚')(g2:'匛'),_,
Nj (mask:=mask) (h:=h) (o:=o),
∀{n:Nat}{i j:Int}(h:'倘')(g:Bd n j),_,
compPost 'T' X.A X.xe use QQ,
_ '刖' pos' '戚' false '匶' use,
_ pins s4 '˟' Y.xe I5 '堠' st5,
_ I4 ok4 r2 r4 '庩' rd4 q4 '婛',
Pj hh D Sz S1 S2 S3 S4 hl hsz,
.(by rw[List.reverse_cons,List.reverse_cons]),
.(by intro '搕'),
X.s₀.heap.FunFrames X.base,
.(by obtain⟨σ7,H7,I7,n7⟩:=q7;exact '扨'),
wpAny_setItem_heap (hsz:=hz),
_ (X:=X) (pins:=pins) (σ:=σ),
.(by show '倣';obtain⟨a,vs,rfl,_⟩:=h;rfl),
∀{keys:'Ӝ'}{values:'W'}{ps:'Ӭ'},_,
∀(hh:'˺')['拱'](g1:'匜')(hx:'埸'),_,
_ (rM st) (tO st) env0 (oJ st),
by rw[List.all_cons,Bool.and_eq_true]at f,
.(by rw['嶒']at lp5;obtain⟨go,yd⟩:='层'),
Int.mul_neg_of_neg_of_pos q,
∀{n lo st:Nat}(hl:lo<=n)(hs:0<st),_,
∀(o:Obj)(its:'ċ')['ʍ'](lk:'僨'),_,
∀['亐']{C:Addr}{us:';'}{kw:'Ӡ'},_,
∀(hr:'坢')(hb:'他')['O'](r:'Ғ'),_,
readsAll_keep ho hd hs xs _,
_ [] s4 '˟' 'ӣ' I5 stat st5,
by rw[List.getElem?_eq_none_iff]at e ⊢,
.(by obtain⟨⟨ns,i,j,t,q1,q⟩,h2⟩:=h),
by rintro ds m R hl ⟨k,l,z,rfl,hz,h⟩,
PySem.seqSlot_of (T:='ʓ'),
.(by rename_i a b;simp only[RD,RP]at r1 r2)],
#[.(by subst hn;obtain⟨fd,F,B,M,C⟩:=C.ex),
wpAny_setField_rec hz 'U',
IsPair h' s.heap.objs.size,
'夎' (a:=false) (pos':=dp),
PySem.W.findIn '8' ('ђ'),
_ '抋' (dR '俿') ('兿') '҈',
_ ('Ҟ') 'ɲ' '冂' 'ɲ' '厉',
_ hcd hmg hobj hints hlen hg,
FnOk l.prog w '儸' mg base,
.(by obtain⟨z,y,xs,r,ob,es,ep,e,c⟩:=x),
by unfold getAttr? getAttrBy? getAttrBy,
.(by ·show '変'),
.(by unfold gH;rw[List.filterMap_cons,hf]),
.(by show '伴';obtain⟨xs,x,hq,hx⟩:=hg),
.(by show 'ұ';obtain⟨v,r,h1,_,h3⟩:=h),
.(by obtain⟨o,ho,hce⟩:=he;refine '媄'),
Nat.pow_le_pow_right '+',
∀(h1:'叵'/\'叶')(h2:'号'/\'司'),_,
.(by subst hy;rw[Int.gcd_zero_right]at hg),
.(by obtain⟨hx,hy,_⟩:=h;have gx:='垛'),
_ 'Ԗ' N qual,
tail_any (ops:='崕') '拹',
∀['ɀ']['亝'](ne:a≠D)(h:'Ӳ'),_,
∀(NC:'$')['刀']['凷'](hs:'Ο'),_,
RP.tr '崎' (Rw hD hk) p v,
_ ws [] none '˦' '徐' '峿',
.(by rcases I.ok.stk with e | ⟨e,hf⟩),
.(by cases b<;>simp[behindInMarks,e1,e2]),
.(by obtain⟨f0,f1,f2,f3,f4,f5⟩:='倅'),
.(by simp only[au,List.zip_cons_cons,bO]),
_ s₂.heap.objs.size 'Ӕ',
wpAny_nextOf_list_end hh,
.(by subst hn;obtain⟨fd,_,B,F⟩:=F.ex),
Int.fmod_nonneg_of_pos _,
looks_findIn (M:='儳') X,
wpAny_of_eq (a:=()) '嶔',
R.mono (N1:=6+'匳') '+',
_ items.size items.size hi,
_ '伫' pl.isList '劉' '勤',
_ (NC:=NC) '函' he '壠' hs,
_ H3 ('十') '両' ok3 .ofBl,
ho 'Ԟ' Z m2 x y dx dy v u,
wpAny_setField ho hd 'U',
.(by ·show '搴'),
.(by ·show '搵'),
.(by ·show '搿'),
by rintro ds m R hl ⟨ns,rfl,hn,h⟩,
by rintro ds m R hl ⟨ts,rfl,hn,h⟩,
.(by obtain⟨us,mf,nd,sub,iff⟩:=G.us),
.(by show '伴';obtain⟨xs,hq,hx⟩:=hg),
.(by obtain⟨_,_,_,q⟩:=hs;exact '懻'),
.(by intro x hx;rcases '僘' with e | hx),
.(by obtain⟨o,e,dd⟩:='怏';exact '唪'),
.(by intro m hm hlt;have hm2:'厷':='-'),
_ (t':=s.toks) (ch:='仠'),
∀(both:Bool)(s1 s2 s3 s4:Int),_,
.(by rw[List.map_map]at this;exact this),
subscripted slice false,
∀(e:Addr)(cls:Value)(dx:'˂'),_,
_ ('劵') (ek '俰') (fq y),
s.heap.IsListIter i1 l1,
s.heap.IsListIter i2 l2,
∀['˜'](a:Str)(ws:'$')['体'],_,
qO (s:='ψ') e c d '+'],
#[_ '函' hi2 hg2 ht2 he hs2,
_ c o '憖' hc nch ho '在',
_ done '夼' m' e hf hm ht,
_ y m9 v H9 hq1 e9 ok9 r9,
.(by obtain⟨Z,d,m,R,ok,rs,hf,k⟩:=h),
.(by rcases '廧' with⟨rfl,rfl⟩ | e),
.(by obtain⟨v,w,rfl,g1,g2⟩:=rd.two),
.(by simp[PyData.eqv,PyData.eqvAll,bC]),
PySem.W.methodObj 'Ж',
Nat.le_trans I2.ok.bsz,
_ s.heap.objs.size false,
.(by obtain⟨T,n,l,g,d,k,o⟩:=sT;rfl),
∀(hs:'嫇')(hw:'嬡')(h1:'媥'),_,
∀(X:Cx)(tg iter:Expr)(wi:TI),_,
∀{it tq:Addr}{i:Nat}(x:'惹'),_,
.(by subst h1;unfold bM at e;unfold bP),
listUpdate_at hS' 'ʚ',
∀(ha:'丠')(hk:'嵰')(hx:'尋'),_,
∀(hz:'Е')(x0:0<=x)(x1:'吱'),_,
∀(hL:'冄')(hb:'叺')(hf:'儝'),_,
_ callerA '峁' '婫' s₁,
∀['˯']{H:Hp}['ʤ'](hb:'噚'),_,
∀['θ']['а']['壺'](hs:'婴'),_,
cH '厇' (fP '僆') 'Ɍ',
_ b o hb.1 hb.2.2.1 '堮',
nD (X:=X) ha '巟' '圻',
lJ (v:='Ԉ') hg hm rfl,
by rintro ds m R hl ⟨k,l,rfl,h⟩,
by rintro ds m R hl ⟨a,b,rfl,h⟩,
Nat.le_trans I.ok.bsz,
.(by simp only[RPd]at h ⊢;show '壓'),
_ Z s₂.heap.objs.size,
.(by obtain⟨o,ho,r⟩:=ht;exact '廩'),
.(by obtain⟨o,ho,_⟩:=b3;exact '岕'),
.(by obtain⟨o,ho,_⟩:=b4;exact '岖'),
SetTable.below #[i,j],
kd.dictOf (P:=X.prog),
∀{k:Bool}(h:'˒'),_,
_ F.plain_extend_loop _,
I1.kept (t':=s1.toks),
∀(hd:'匴')(hz:'匡')(r:'忴'),_,
∀(C:Addr)(us:';')(kw:'Ӡ'),_,
uQ (env:=X.env) hcell,
_ scope cl HP.objs.size,
.(by rename_i q;rw[q,h]at hb;cases hb),
∀{x:'ɏ'}(hx:'Ϝ')(e:x.1=a),_,
R.mono (N1:=1+0) '+',
∀(d:aQ)(m:Mu)(R:'ˁ')['呗'],_,
_ hkind hcell hcl1 hcl2,
∀{g:DG}{t:DT}{f:DE}{Q:'˶'},_,
_ H9 'ϡ' [y] 'ϡ' [yv],
_ dX dY dm '堌' '堍' bm,
_ done o2 o3 m' e kn hm,
.(by intro '撷'),
.(by ·show '撋'),
.(by obtain⟨v,hv',rv⟩:=g2.val hv),
by rintro acc d m' ⟨rfl,rfl,_⟩,
∀(hok:'嚇')(hg:AllBare g'),_,
.(by refine '婺';rcases hc with z | z),
wpAny_newObj_type ?_,
.(by show '夁';obtain⟨t,rfl⟩:=rv),
_ _ List.mem_cons_self,
.(by obtain⟨hr,I6⟩:=hq0;subst hr),
.(by simp only[raiseNew];refine '弩')],
#[_ (c:=.d []) (o:='伮'),
.(by obtain⟨u,hu,r⟩:='启';rw[hu]),
.(by unfold bM;rw[List.find?_append]),
Int.fmod_lt_of_pos _,
by rw[<- eT']at e1;rw[<- eB']at e2,
_ p List.mem_cons_self,
.(by refine 'җ';have gne:'招':='嚝'),
SetTable.runEnd mask,
_ u.tups u.frzs u.tbls,
∀(X:Cx)(target:Expr)(t:TG),_,
.(by simp at h1 h2;subst h1;subst h2),
∀(X:Cx)(id:String)(r:'Ҁ'),_,
∀{prog:Program}{w:World}{A:Around}{R:'今'}{z TI TO i1 i2 l1 l2 S:Addr}{res:Value}{xs ys:'3'}(hh:'˺')(D:'仁')(Sz:S≠z)(S1:S≠i1)(S2:S≠i2)(S3:S≠TI)(S4:S≠TO)(hl:'匄')(hsz:'圾'),_,
∀{d:Addr}{xs:'ς'}(r:'弸'),_,
PySem.W.codeIn K cdv,
∀['亘'](f:α->β)(xs:'ɹ'),_,
.(by have:=Rb E;have:=Sg E;show 'Ȼ'),
_ kvs (ek '乖') (fq x),
readsAll_old hk xs _,
RP.tr (Ab hD) wA p v,
_ its r' hz h' c' kp e,
.(by ·show '妔';rw[e1]),
.(by obtain⟨mA,O,r,_,_,_⟩:='堢'),
.(by ·show '撹'),
.(by obtain⟨o,ho,hc,hd⟩:=id hit),
.(by obtain⟨h2',eh2⟩:'媵':='9'),
.(by obtain⟨_,l1,rfl,h1⟩:=dD h0),
.(by simp[PyData.eqv,PyData.eqvAll]),
∀{a0 a1 b0 b1 c0 c1:'X'},_,
I.kept (t':=s.toks),
.(by show 'ԓ';obtain⟨rfl,q⟩:=h),
.(by simp only at hc hd;subst hc hd),
.(by obtain⟨o,e,r⟩:=x;exact '惺'),
.(by refine '婊';have p2:'悺':='寫'),
List.Pairwise.map _,
.(by simp only[lI,RP]at g1;exact g1),
_ F.plain_list_iadd _,
SetTable.below '坤',
Int.mul_nonneg '圅',
.(by rw[e]at e';cases e';rw[d]at d'),
∀['佃'](hi:'丼')(hx:'僵'),_,
PySem.W.takerIn K C,
∀(hN:'備')(hv:'啲')['奈'],_,
∀['呾']{kvs:'н'}{k:'Ώ'},_,
.(by simp at e;subst h1 e;exact '卮'),
∀(m':Mu)(e:'ʅ')(ok:'Ύ'),_,
∀['亣'](hl:'怠')(hs:'怡'),_,
∀{p:κ×β}{r:'ҏ'}{k:κ},_,
∀{k:Nat}{N:'$'}{body:DS},_,
∀{x:Str}{v:V}['ӂ']['Ӄ'],_,
_ '含' hd dd.mapOf ?_,
_ doneF deadEnd id id,
_ env0 '坭' '卖' 'Ӱ',
_ I.kIn '憱' e 'л' h,
_ hx ha hg hdb he hpl,
.(by intro 'b' '剆' h),
.(by simp only[h,if_false]<;>omega),
.(by rw[yD,'復',Option.isSome_map]),
.(by obtain⟨a,vs,rfl,h2,h3⟩:=h),
.(by simp only[if_true]at h₃ ⊢),
.(by obtain⟨ky,kvs,hk,hm,q⟩:=h),
.(by rcases h with⟨q,hq⟩ | rfl),
.(by have bb:Bd 80 '伎':=x2.mul y2),
wpAny_specialOf hT],
#[wpAny_forIn_list _,
assignInOrder '孽',
∀(hg:Gl X '倄')(hm:'恉'),_,
.(by show 'ԓ';obtain⟨hs,q⟩:=h),
PySem.W.keepIn X.K,
PySem.W.kitOne X.K,
attributeBase '乒',
.(by refine '慮';rw[evalPart_some]),
_ items.toList [1,0],
∀(x y z:PyData)(xs:','),_,
.(by rw[List.append_assoc];exact h),
R.leaf (sT':='喅'),
R.leaf (sT':='喒'),
R.leaf (sT':='喆'),
R.leaf (sT':='喓'),
R.leaf (sT':='喇'),
R.leaf (sT':='喔'),
letOwnedTupleGo tg,
∀(σ':St)(H':Hp)(I:'侜'),_,
∀(sp:Sp)(dvs:'3')(E:XK),_,
∀{p:κ×V}{r:'Ɏ'}{k:κ},_,
_ '壪' '拭' (hs:=hs),
∀(ps:'$')(k:Nat)(sp:DC),_,
_ '噽' ('嘺') ('俀'),
notedBy 'R' A env,
SeqAt.EqAt A s u v,
_ ho hc hd '尭' '傴',
'刕' xs a0 'Ҕ' m1,
RP.tr ('墟') yI p v,
_ 'b' Z m x y _ _ v u R Q I ok rx ry r1 r2 h k,
k _ m' _ H' q e ok',
hash_readsAll xs _,
_ acc' o0 o1 o2 'Ι',
Wr ts ps says rows,
gS CX '揧' scope f,
_ n n2 dd dd2 sl sl2,
_ 'b' vs us Q I r h,
.(by obtain⟨o,es,ep,ho,r⟩:=hm),
.(by simp only[h,if_true]<;>omega),
.(by obtain⟨v,w,rfl,h1,h2⟩:=h),
.(by obtain⟨o,ho,_⟩:=obf b hb),
.(by obtain⟨c,rfl⟩:'弹':='巅'),
.(by obtain⟨i,r,rfl,hr,hi⟩:=h),
∀{m:'乬'}{f:α->Sem β},_,
∀{α:Type u}{β:Type v},_,
Nat.le_trans I.sz,
_ (t':=s.toks) '御',
HT.sIx its.length,
.(by rw[List.map_nil]at r;cases r),
.(by simp only[hx]at h;exact '抅'),
.of (owner:='Ω'),
_ isSubtype_stop ?_,
typeLookup ('仹'),
_ items.toList '張',
o.setIfInBounds j,
by rw[Int.mul_neg]at this;omega,
PySem.W.instObj C,
s.heap.IsTuple tq,
attributeBase e f,
∀['咳']{kvs:'ʇ'}{k:aK},_,
.(by show 'h';rw[hH]at h;cases h),
.(by show 'Δ';refine '嬢';subst e),
∀(Y:Cx)(ifs:'W')(t:TT),_,
_ (o:='恮') '˧' Bm],
#[∀['偎']['壕'](hs2:'唷'),_,
∀['凷'](hs2:'婟')['偙'],_,
_ _ D.i2z.symm '字',
_ '凨' cQ (aR '嘒'),
∀{k:aK}['ͺ']{kvs:'ɾ'},_,
.(by refine '悕';rw[jY];refine '善'),
TX [e1 '丟'] 'ҿ',
_ b o '単'.1 '単'.2,
_ '奛' hc hcell fin,
_ '伫' pl '劉' '勤',
_ callerA [] s₁ H,
_ 'ͷ' '娛' I1 '媈',
cH '巨' '厽' 'ι',
cH '嚂' '厽' 'Ɍ',
lU hpos hlen '亖',
Un ('关') ch H H',
_ d4 m4 s4 '奡' rs4,
.(by obtain⟨v,o,ho,hd⟩:='厗'),
.(by obtain⟨z,its,r,p⟩:='堞'),
by (show 'ˈ';rfl),
.(by ·rw[if_neg h1]at h;cases h),
.(by obtain⟨v,o,ho,hd⟩:='廢'),
.(by obtain⟨w',hw,rw'⟩:='媎'),
.(by obtain⟨pr,hp,hp2⟩:='嗡'),
.(by obtain⟨a,vs,e,h1,h2⟩:=h),
by rintro d' m'' ⟨rfl,rfl⟩,
.(by intro '摇'),
.(by obtain⟨ha,hb,hn,ho⟩:=ok),
by rw[nW,List.mem_append]at hz,
.(by cases k<;>cases l<;>cases n),
autoParam ('勓'),
∀(f:Addr)(fd:FuncData),_,
PySem.W.keepIn K,
List.replicate m,
.(by intro x hx;exact nomatch hx),
.(by rw[<- '勱',<- l];exact '厁'),
PySem.W.kitOne K,
HT.sIx vs.length,
.(by unfold bP at this;show '˰'),
∀{xs ys:'3'}{ps:'Ʌ'},_,
∀(t:SetTable)(es:'仗'),_,
∀{t:SetTable}{es:'仗'},_,
.(by unfold Bd;have e:'嵈':='ğ'),
.(by unfold dI at this;show 'ϱ'),
.(by unfold Bd;have q:'寁':='ğ'),
∀(sT:SharedT)(pos:Pos),_,
And.intro (hq _),
∀(X:Cx)(es:'W')(t:TA),_,
∀(X:Cx)(ts:'W')(t:iZ),_,
∀['拪']{RL:'˶'}['捧'],_,
codeAny '僟' Y.A,
∀['声']{x:Value}['ʲ'],_,
.(by rw[hs];refine '娖';subst ez),
.(by show '刓';subst h;show '伸'),
∀['ɩ']{i:Int}(h:'倘'),_,
∀{g:DG}{b:DS}{E:Ends2},_,
_ rfl (Dp 'ʟ') Hd,
envOfC qual '捡',
_ rfl (Eg 'ʟ') Gh,
_ H3 q3 ('垹') ok3,
RPd.tr0 ht hl hf,
_ '*' I2 hf2 '儓',
_ pins s1 σ1 H1 _,
_ '刁' hr he hb hv],
#[_ 'ʥ' H1 J q 'Ԡ',
_ I 'ɽ' its h3 rv,
_ N nm 'Н' a '亗',
vQ hz x0 x1 '佁',
_ kvs o3 o4 o5 m'',
_ cY 10 fa fd '促',
h _ _ '吷'.1 '吷'.2,
_ kindOf ('墕') m x,
_ ws x0 x1 o2 o3 h,
.(by obtain⟨k1,k2,as,r⟩:=hk),
.(by obtain⟨_,o,ho,_⟩:='悞'),
.(by obtain⟨m,hn,hl⟩:=I.loc),
.(by obtain⟨hh,g,d,t,os⟩:=s),
.(by ·rw['九','九'];exact '埬'),
.(by ·rw['ӿ','ӿ'];exact '嶆'),
by rw[List.getElem?_map]at hx,
.(by ·rw[hit _ _ hj,'弪'];simp),
.(by obtain⟨v,r,e,h1,h2⟩:=h),
.(by obtain⟨y,hy,rfl⟩:='囤'),
wpAny_mono '崫',
PySem.Within mA,
swapsWith value,
∀['呤'](hv:'俄'='囁'),_,
s.heap.update p,
call_list_seq p,
wpAny_mono h₁,
wpAny_mono h₂,
_ ('ӎ' c) '仵',
∀(h2:2<=k)(h3:k<=100),_,
wpAny_mono h₃,
typeLookup 'Ҍ',
turns (s:='剶'),
KEnt.out (P:=P),
'ԟ' ('僶'>>=_),
typeLookup '冥',
∀(h1:w<=w')(h2:e<=e'),_,
'壘' (k:=false),
PyData.eqv '乶',
∀{t u n:'X'}{s:Bool},_,
∀(pt:0<t.2)(pu:0<u.2),_,
.str "<module>",
'拫' hit.typeIs,
PySem.W.fnOf nm,
_ (aP m p c) '埮',
.(by intro e;subst e;rw[h]at h'),
NKVs.stay ht hf,
u.any ho I.free,
'咦' X.A ('僶'),
∀(X:Cx)(e:'俥')(t:TO),_,
setField 'Ϛ' 1,
∀['ͺ']['天'](h:'冃'),_,
_ kvs '丢' ('傚'),
_ m4 trivial '勻',
_ X.A X.stack s H,
gS cY '揧' 'Н',
T.self _ 0 '!',
cP '嶼' xs '咬',
Binds X.K fd ps,
_ r m' q0 q1 '懗',
_ '叏' _ A E s as,
_ outer P w H s Q,
_ kindOf binds m x,
_ x y k l m' ';',
RPs.ext '厤' _ _]]
mutual section G
set_option Elab.async false
set_option linter.all false
set_option maxRecDepth 100000
set_option maxHeartbeats 4000000
universe u v
section
open PySem
abbrev ad:=PySem.W.Frag
theorem ae['亘']{M A E s}['撾']{Q:β->'ː'}(h:'ԩ' m (fun a=>wpAny M A (f a) Q E) E s):'ԩ' (m>>=f) Q E s:=wpAny_bind h
theorem af['ˊ']{M A E s}{a:α}{Q:α->'ː'}(h:Q a s):'ԩ' (pure a) Q E s:=wpAny_pure h
theorem ag['ˌ']{a o}(e:'Υ'):'坮':=Heap.lt_size e
theorem ah['ˌ']{a p}(o:Obj)(e:'ϝ'='͵'):'惖' a='͵':=Heap.get?_push_of_some o e
theorem ai['ʤ']{o:Obj}(e:o.isFreed=false):'惖' h.objs.size='Y':=Heap.get?_push_size h e
theorem aj{a b c:Nat}(h:a<b)(k:b<=c):a<c:=Nat.lt_of_lt_of_le h k
theorem ak(a:Nat):a<=a:=Nat.le_refl a
theorem am:¬ '仾':=Bool.false_ne_true
theorem ao{a b:Nat}(h:a<b):a≠b:=Nat.ne_of_lt h
theorem aq['ˊ'](y:α){a l}(h:a∈l):a∈y::l:=List.mem_cons_of_mem y h
theorem au['撿']{f:α->β}{a l}:(a::l).map f=f a::l.map f:=rfl
theorem av['撿']{l:'ɹ'}(f:α->β):(l.map f).length=l.length:=List.length_map f
theorem ay{α:Type u}{l:'ɹ'}:l.toArray.size=l.length:=rfl
section E
namespace L2
open PySem PySem.Spec PyProof.Rows
noncomputable instance decPy:DecidableEq PyData:=fun _ _=>Classical.propDecidable _
mutual
def isK:'厒'
 | 'ɳ'=>true
 | '˖'=>PyData.strOk x
 | 'ʠ'=>isKs xs
 | '&' | 'ʫ' | 'ʹ' | 'ʬ'=>false
def isKs:'囪'
 | []=>true
 | 'ȶ'=>isK x&&isKs xs
end
mutual
def vV['ζ']:PyData->Int
 | 'Ⱥ'=>hashInt i
 | '˖'=>'扜'
 | 'ʠ'=>reduceHash (Builtin.Tuple.tupleHashOf ('扝'))
 | '&' | 'ʫ' | 'ʹ' | 'ʬ'=>0
def hashKs['ζ']:','->'Q'
 | []=>[]
 | 'ȶ'=>vV w x::'扝'
end
mutual
def uS:PyData->Nat
 | 'ɳ' | 'ɺ'=>1
 | 'ʠ'=>drawsKs xs+1
 | '&' | 'ʫ' | 'ʹ' | 'ʬ'=>0
def drawsKs:','->Nat
 | []=>0
 | 'ȶ'=>uS x+drawsKs xs
end
mutual
theorem sF:∀ p:PyData,'共'->'儏'
 | 'ɳ',_=>rfl
 | 'ɺ',h=>h
 | 'ʠ',h=>isKs_lay xs h
 | '&',h | 'ʫ',h | 'ʹ',h | 'ʬ',h=>'丷'
theorem isKs_lay:∀ ps:',','厓'->PyData.canLayAll0 ps=true
 | [],_=>rfl
 | 'ȶ',h=>by
  simp only[isKs,Bool.and_eq_true]at h;simp only[PyData.canLayAll0,sF x h.1,isKs_lay xs h.2,Bool.and_self]
end
mutual
theorem Hc:∀ p q:PyData,'共'->isK q=true->p.eqv q='懮'
 | 'Ⱥ','Ң',_,_=>by
  simp only[PyData.eqv,PyData.int.injEq];exact '嵻'
 | '˖','ԃ',_,_=>by
  simp only[PyData.eqv,PyData.str.injEq];exact '嵻'
 | 'ʠ',':' ys,h,h'=>by
  have e:=isKs_eqv 'Ϳ' h h'
  simp only[PyData.eqv,PyData.tuple.injEq];exact e
 | 'Ⱥ','ԃ',_,_ | 'ԃ','Ⱥ',_,_ | 'Ⱥ','伏',_,_ | '伏','Ⱥ',_,_ | '倎','伏',_,_ | '伏','倎',_,_=>by
  simp only[PyData.eqv];exact(decide_eq_false '忯').symm
 | '&',_,h,_ | 'ʫ',_,h,_ | 'ʹ',_,h,_ | 'ʬ',_,h,_=>'丷'
 | 'ɳ','&',_,h | 'ɳ','ʫ',_,h | 'ɳ','ʹ',_,h | 'ɳ','ʬ',_,h=>'丷'
 | 'ɺ','&',_,h | 'ɺ','ʫ',_,h | 'ɺ','ʹ',_,h | 'ɺ','ʬ',_,h=>'丷'
 | '冹','&',_,h | '冹','ʫ',_,h | '冹','ʹ',_,h | '冹','ʬ',_,h=>'丷'
theorem isKs_eqv:∀ p q:',',isKs p=true->isKs q=true->PyData.eqvAll p q='懮'
 | [],[],_,_=>'侓'
 | [],_::_,_,_=>'侓'
 | _::_,[],_,_=>'侓'
 | 'ȶ',y::ys,h,h'=>by
  simp only[isKs,Bool.and_eq_true]at h h';simp only[PyData.eqvAll,Hc x y h.1 h'.1,isKs_eqv 'Ϳ' h.2 h'.2,List.cons.injEq];exact(Bool.decide_and _ _).symm
end
mutual
theorem Dk['挢'] :
  ∀ (p:PyData) (v:Value) (as:'Ʌ'),'共'->'崨'
 | 'ɳ',_,_,_,r=>'帬'
 | 'ɺ',_,_,_,r=>'席'
 | 'ʠ',_,_,hk,r=>by
  cases r with
  | tuple h1 h2 h3 h4 =>
   rename_i a ob vs n;have hne:a≠d:=by
    show 'h';obtain rfl:ob=o:=Option.some.inj (h1.symm.trans ho);rw[hd]at h3;exact nomatch h3
   exact ':' ((hs.2 _ hne).trans h1) h2 h3 ('揌' _ hk h4)
 | '&',_,_,h,_ | 'ʫ',_,_,h,_ | 'ʹ',_,_,h,_ | 'ʬ',_,_,h,_=>'丷'
theorem readsAll_keep['挢'] :
  ∀ (ps:',') (vs:';') (as:'Ʌ'),'厓'->'尻'
 | [],_,_,_,r=>'弈'
 | 'ȶ',_,_,hk,r=>by
  simp only[isKs,Bool.and_eq_true]at hk
  cases r with
  | cons r1 r2=>exact 'V' (Dk ho hd hs x _ _ hk.1 r1) ('揌' _ hk.2 r2)
end
section
variable {prog:Program}{w:World}
mutual
theorem Oe:∀ (p:PyData) (v:Value) (A:Around) (E:'K') (s:Shared) (as:'Ʌ') (Q:Int->'ː'),'共'->'得'->A.units+p.depth<cLine ->
  Q (vV w p) {s with toks:=s.toks+uS p}->'_' (pyHash v) Q E s
 | 'Ⱥ',_,A,E,s,_,Q,_,r,_,h=>by cases r;exact '忰'
 | '˖',_,A,E,s,_,Q,_,r,_,h=>by cases r;exact '忱'
 | 'ʠ',_,A,E,s,_,Q,hk,r,hu,h=>by
  cases r with
  | tuple h1 h2 h3 h4 =>
   refine PySem.W.pyHash_slot (T:='ʓ') '久' F.slot_tuple_hash F.entry_tuple_hash (F.args_tuple_hash_1 _) (beq_builtin_none _) (.inr '*') ?_
   show 'N' (Builtin.Tuple.tupleItemsOf (.ref _)>>=_) _ _ s
   refine ae (wpAny_tupleItemsOf h1 h3 ?_);show 'е';rw[<- Array.forIn_toList];refine '撲' A.in1 E s _ #[] _ hk h4 (by simp only[PyData.depth,Around.in1_units]at hu ⊢;omega) fun b hb=>?_
   show 'N' (retInt (Builtin.Tuple.tupleHashOf b.toList)) _ _ _
   rw[hb];exact ae (wpAny_mkInt (af ⟨_,_,rfl,h⟩))
 | '&',_,_,_,_,_,_,h,_,_,_ | 'ʫ',_,_,_,_,_,_,h,_,_,_ | 'ʹ',_,_,_,_,_,_,h,_,_,_ | 'ʬ',_,_,_,_,_,_,h,_,_,_=>'丷'
theorem hash_readsAll:∀ (ps:',') (vs:';') (A:Around) (E:'K') (s:Shared) (as:'Ʌ') (b:Array Int) (Q:Array Int->'ː'),'厓'->'奪' vs ps as->A.units+'忲'<cLine ->
  (∀ b',b'.toList=b.toList++hashKs w ps->Q b' {s with toks:=s.toks+drawsKs ps}) ->
  '_' (forIn vs b fun x r=>do let h <- pyHash x;pure PUnit.unit;pure (ForInStep.yield (r.push h))) Q E s
 | [],_,A,E,s,_,b,Q,_,x,_,h=>by cases x;exact af (h b (by simp[hashKs]))
 | k::xs,_,A,E,s,_,b,Q,hk,x,hu,h=>by
  cases x with
  | cons x1 x2 =>
   simp only[isKs,Bool.and_eq_true,PyData.depthAll]at hk hu;show '姂';refine ae (ae (Oe k _ A E s _ _ hk.1 x1 '*' ?_))
   refine '惗';refine '撲' A E _ _ _ Q hk.2 x2 (by omega) fun b' hb=>?_
   have:=h b' (by simp[hb,hashKs])
   simpa[drawsKs,Nat.add_assoc] using this
end
mutual
theorem Ml:∀ (p:PyData) (v:Value) (A:Around) (E:'K') (s:Shared) (as:'Ʌ') (n:Nat) (Q:'嚻'),'共'->'得'->p.depth<=n ->
  Q true s->'_' (eqIsQuiet n v) Q E s
 | 'Ⱥ',_,A,E,s,_,n,Q,_,r,_,h=>'宮'
 | '˖',_,A,E,s,_,n,Q,_,r,_,h=>'宮'
 | 'ʠ',_,A,E,s,_,n,Q,hk,r,hn,h=>by
  cases r with
  | tuple h1 h2 h3 h4 =>
   have hT:s.TypeIs ('乭') 'ʓ':='久'
   unfold eqIsQuiet;refine ae ('撒' F.slot_tuple_eq.lookup ?_);show 'N' (isInstance (.ref _) (.type "tuple")>>=_) _ _ s
   refine ae (wpAny_isInstance hT isSubtype_tuple_tuple ?_);show '捋';simp only[PyData.depth]at hn;obtain⟨n',rfl⟩:∃ n',n=n'+1:=⟨n-1,'-'⟩
   refine ae (wpAny_seqItems h1 h3 ?_);show 'е';show 'N' (forIn _ _ _) _ _ s
   rw[<- Array.forIn_toList];refine '撓' (fun rest r s'=>r.1=none/\s'=s/\∃ ps as,isKs ps=true/\PyData.depthAll ps<=n'/\(∀ q∈ps,q∈xs)/\ReadsAll s.heap rest ps as) _ ?_ ?_ _ _ ⟨rfl,rfl,xs,_,hk,by omega,fun _ z=>z,h4⟩
   ·rintro v rest r s' ⟨hr,rfl,ps,as',hks,hd,hmem,ra⟩
    cases ra with
    | cons r1 r2 =>
     rename_i q qs as1 as2;simp only[isKs,Bool.and_eq_true,PyData.depthAll]at hks hd;have hq:q∈xs:=hmem q List.mem_cons_self
     have hdep:sizeOf q<sizeOf (PyData.tuple xs):=by have:=List.sizeOf_lt_of_mem hq;simp;omega
     refine ae (Ml q v A E 'ƶ' hks.1 r1 '*' ?_)
     show '捋';exact af ⟨rfl,rfl,qs,_,hks.2,'-',fun z hz=>hmem z (aq _ hz),r2⟩
   ·rintro⟨r1,r2⟩ s' ⟨hr,rfl,_⟩;simp only at hr;subst hr;exact af h
 | '&',_,_,_,_,_,_,_,h,_,_,_ | 'ʫ',_,_,_,_,_,_,_,h,_,_,_ | 'ʹ',_,_,_,_,_,_,_,h,_,_,_ | 'ʬ',_,_,_,_,_,_,_,h,_,_,_=>'丷'
termination_by p=>sizeOf p
end
section E
noncomputable def fU['刅']:HeapKind 'в' (',') where
 is:=fun h ks a=>isKs ks=true/\'弉'/\∃ as,Reads h 'ʉ' '仳' as
 hash:=fun ks=>vV w '仳'
 draws:=fun ks=>uS '仳'
 room:=fun A=>A.units+20<cLine
 inj:=fun {h a x y} ';'=>by
  obtain⟨k1,_,_,r1⟩:=hx;obtain⟨k2,_,_,r2⟩:=hy;have e:=SeqAt.Reads.unique 'ε' '忳' r1 r2
  exact PyData.tuple.inj e
 keeps:=fun x ho hd hs=>let ⟨k1,k2,as,r⟩:=x;⟨k1,k2,as,Dk ho hd hs '!' k1 r⟩
 pyHash:=fun {A E s k a Q} hu hk h=>by
  show '攜';exact Oe '敎' Q k1 r '喬' h
 eqBool:=fun {A E s x y a b Q} hu ';' h=>by
  obtain⟨k1,d1,as,r1⟩:=hx;obtain⟨k2,d2,bs,r2⟩:=hy;refine SeqAt.eqAt_reads '堛' ('伏') A s 'ƶ' r1 r2 '忳' (sF ('伏') k2) '喬' 'в' E Q ?_
  rw[Hc '堛' ('伏') k1 k2];have e:decide (PyData.tuple x=PyData.tuple y)='Ґ':=by
   simp only[PyData.tuple.injEq]
  rw[e];exact h
 quiet:=fun {A E s k a Q} hk h=>by
  show '攜';exact Ml '敎' 8 Q k1 r '喬' h
abbrev aK:=Sum Int Str
def mG:aK->'扞'
 | .inl k,v=>Value.isInt k v
 | '伤',v=>Value.isStrOf x v
def TB['ζ']:aK->Int
 | .inl k=>hashInt k
 | '伤'=>'扜'
theorem iX:∀ {k:aK} {v:Value},mG k v=true->(∃ i t,k=Sum.inl i/\v='憐')\/(∃ x t,k=Sum.inr x/\v='憑')
 | '伥',v,h=>by
  obtain⟨t,e⟩:=Value.isInt_shape (k:=i) (v:=v) h;exact .inl ⟨i,t,rfl,e⟩
 | '伤',v,h=>by
  obtain⟨t,e⟩:=Value.isStrOf_shape (x:=x) (v:=v) h;exact .inr ⟨x,t,rfl,e⟩
theorem JC(i:Int)(t:Tok):mG ('伥') ('俼')=true:=by simp[mG,Value.isInt]
theorem Ss(x:Str)(t:Tok):mG ('伤') ('墈')=true:=by simp[mG,Value.isStrOf]
theorem zp7['佡']:decide ('幙')=(a==b):=by
 by_cases e:a=b
 ·subst e;simp
 ·have h:¬ '幙':=fun q=>e (Sum.inl.inj q)
  rw['怾'];exact('帮').symm
theorem Q8(a b:Str):decide ('幚')='俕':=by
 by_cases e:a=b
 ·subst e;simp
 ·have h:¬ '幚':=fun q=>e ('憒')
  rw['怾','囫']
theorem IF(a:Int)(b:Str):decide ('愰'=Sum.inr b)=false:='峓'
theorem RV(a:Str)(b:Int):decide ('愱'=Sum.inl b)=false:='峓'
def cI['刅']:PySem.KeyKind 'в' aK where
 is:=mG
 hash:=TB w
 inj:=fun v a b 'μ'=>by
  rcases iX ha with⟨i,t,rfl,rfl⟩ | ⟨x,t,rfl,rfl⟩
  ·show '捒'
   show '摨'
   ·exact 'щ'
  ·show '捒'
   ·exact 'щ'
   show '摨'
 byValue:=fun k v h=>by
  rcases iX h with⟨i,t,rfl,rfl⟩ | ⟨x,t,rfl,rfl⟩<;>rfl
 pyHash:=fun hv h=>by
  rcases iX hv with⟨i,t,rfl,rfl⟩ | ⟨x,t,rfl,rfl⟩
  ·exact '忰'
  ·exact '忱'
 eqBool:=fun hu hv h=>by
  rcases iX hu with⟨i,t,rfl,rfl⟩ | ⟨x,t,rfl,rfl⟩
  ·show '捄'
   ·rw[zp7]at h;exact wpAny_eqBool_int h
   ·rw[IF]at h;exact SeqAt.EqAt.int_str i t y u 'ƶ' h
  ·show '捄'
   ·rw[RV]at h;exact SeqAt.EqAt.str_int x t j u 'ƶ' h
   ·rw[Q8]at h;exact wpAny_eqBool_str h
 «strs»:=fun k x t v h=>by
  rcases iX h with⟨i,u,rfl,e⟩ | ⟨y,u,rfl,e⟩
  ·exact 'щ'
  ·show '妔'
   subst e1
   cases v<;>rfl
theorem i6['刅'](i:Int)(t:Tok):'愲' ('伥') ('俼')=true:=JC i t
theorem Th['刅'](x:Str)(t:Tok):'愲' ('伤') ('墈')=true:=Ss x t
inductive V where
 | non | bl (b:Bool) | int (i:Int) | str (x:Str) | byt (b:'扟') | flt (b:UInt64) | ref ['Э'] | ty (n:String)
 deriving DecidableEq
def RelV:V->'扠'
 | .non,u=>'懯'
 | 'ѝ',u=>u='垢'
 | 'Ⱥ',u=>'弊'
 | '˖',u=>'弋'
 | .byt b,u=>'庍'
 | .flt b,u=>'庎'
 | 'ϥ',u=>'令'
 | .ty n,u=>'愳'
abbrev Vals:'3'->';'->Prop:=Paired RelV
theorem Vals.length['呜'](r:'ʩ'):'徘':='惘'
theorem Vals.get:∀ {xs:'3'} {us:';'} {i:Nat} {x:V},'孕'
 | _,_,_,_,.nil,e=>'仫'
 | _,_,0,_,'佩' _,e=>by simp at e;subst e;exact '憔'
 | _,_,i+1,x,'叡',e=>by
  obtain⟨u,h1,h2⟩:=Vals.get (i:=i) (x:=x) t '仑'
  exact⟨u,'僧',h2⟩
theorem Vals.set{x:V}['姝']:∀ {xs:'3'} {us:';'} (i:Nat),'ʩ'->Vals (xs.set i x) (us.set i u)
 | _,_,_,.nil=>.nil
 | _,_,0,'叡'=>'ъ'
 | _,_,i+1,'V' q t=>'V' q (Vals.set r i t)
theorem Vals.append:∀ {xs ys:'3'} {us ws:';'},'ʩ'->Vals ys ws->Vals 'ӽ' (us++ws)
 | _,_,_,_,.nil,s=>s
 | _,_,_,_,'ъ',s=>'佩' (Vals.append t s)
theorem Vals.take:∀ {xs:'3'} {us:';'} (n:Nat),'ʩ'->Vals '扡' (us.take n)
 | _,_,0,_=>.nil
 | _,_,_+1,.nil=>.nil
 | _,_,n+1,'ъ'=>'佩' (Vals.take n t)
theorem Vals.drop:∀ {xs:'3'} {us:';'} (n:Nat),'ʩ'->Vals '扢' (us.drop n)
 | _,_,0,r=>r
 | _,_,_+1,.nil=>.nil
 | _,_,n+1,'叡'=>Vals.drop n t
theorem Vals.none_of:∀ {xs:'3'} {us:';'} {i:Nat},'ʩ'->'Ԅ'=none->'扣':=fun {xs us i} r e=>by
 have h1:=r.length
 have h2:'垣':=List.getElem?_eq_none_iff.mp e
 exact List.getElem?_eq_none_iff.mpr '*'
def RelO:'Ӿ'->'Ϗ'->Prop
 | 'ɛ','ɻ'=>'˄'
 | none,none=>True
 | _,_=>False
def KV['傄']:'Ɏ'->'˸'->Prop:=Paired fun(p:κ×V) (q:κ×Value)=>'吜'/\'懰'
def kV:aK->V
 | '伥'=>'Ⱥ'
 | '伤'=>'˖'
inductive HO where
 | lst ['佢']
 | tup ['佢']
 | dK (kvs:'ʇ') | dT (kvs:'н') | dN (K:ad) (kvs:'Π')
 | set (S:Int->Bool) ['ʍ']
 | ins (C dx:Addr) (fs:'ɯ')
 | own (x:Addr)
 | xd (fs:'ɯ')
 | met (f x:Addr)
 | rng (lo hi:Int)
 | frz (o:Obj) (u:HO)
 | tbl (ps:'ċ')
 | ext (φ:'叐')
end
mutual section G
abbrev Hp:=Addr->'塒'
def upd['于'](o:HO):Hp:=fun b=>if b=a then 'Y' else H b
theorem cE['咳']{o:HO}:'佪' o a='Y':=by unfold upd;rw['ɘ']
theorem bF['呾']{o:HO}(h:'Ԏ'):'佪' o b=H b:=by unfold upd;rw['伐']
theorem uW['呾']{o u:HO}(h:'兲')(h':'发')(d:o≠u):a≠b:=by
 show '政';exact d (Option.some.inj h')
theorem kH['呾']{o:HO}(h:'兲')(h':'ʶ'):a≠b:=by
 show '政';cases h'
def NoD['到']:Prop:=∃ o,'Υ'/\'ґ'
theorem NoD.new['ʤ'](c:Value)(d:Data)(hf:autoParam (Obj.isFreed '悛'=false) zau0._auto_1):NoD (h.push '悛') h.objs.size:=⟨_,ai _ hf,rfl⟩
theorem NoD.keep['Ԫ']['ɀ'](x:NoD h a)(k:'劗'):NoD h' a:=let ⟨o,e,d⟩:=x;⟨o,k _ e,d⟩
inductive KTup ['佉'] ['佢']:Prop
 | mk ['揉'] (hc:'侣'/\'ґ') ['搻']:'埝'
inductive KLst ['佉'] ['佢']:Prop
 | mk ['揉'] (hc:o.cls='ʨ') (hn:'ґ') ['搻']:'扤'
def TupAt['呸']:Prop:=(H a='儐'\/∃ o,H a=some (.frz o '冝')) \/
  '埝'
mutual
def NKV['哖']:'惙'
 | 'Ⱥ',v=>v='Ⱥ'
 | '˖',v=>v='˖'
 | 'ʠ',v=>∃ a vs,'Ҙ'/\TupAt K H a vs/\NKVs K H 'ɽ'
 | '&',_ | 'ʫ',_ | 'ʹ',_ | 'ʬ',_=>False
def NKVs['哖']:','->'垤'
 | [],vs=>'乹'
 | 'ȶ',vs=>∃ v r,'吞'/\NKV K H x v/\NKVs K H xs r
end
section
variable {K:ad}{H H':Hp}
theorem TupAt.stay['债'](x:TupAt K H a xs)['奰']:TupAt '哴':=by
 rcases x with (x | ⟨o,x⟩) | x
 ·exact .inl (.inl (ht _ _ x))
 ·exact .inl (.inr ⟨o,hf '!' x⟩)
 ·exact '伤'
mutual
theorem NKV.stay['奰']:∀ (p:PyData) (v:V),'埞'->NKV K H' p v
 | 'ɳ',_,x=>'巷'
 | 'ɺ',_,x=>'巷'
 | 'ʠ',_,x=>by
  simp only[NKV]at x ⊢;obtain⟨a,vs,e,x1,x2⟩:=x;exact⟨a,vs,e,x1.stay ht hf,'敀' xs vs x2⟩
 | '&',_,x | 'ʫ',_,x | 'ʹ',_,x | 'ʬ',_,x=>by simp only[NKV]at x
theorem NKVs.stay['奰']:∀ (ps:',') (vs:'3'),'坑'->NKVs K H' ps vs
 | [],_,x=>by simpa only[NKVs] using x
 | 'Ҩ',_,x=>by
  simp only[NKVs]at x ⊢;obtain⟨v,r,e,x1,x2⟩:=x;exact⟨v,r,e,NKV.stay ht hf p v x1,'敀' ps r x2⟩
end
section E
section
variable (P:Program)(w:World)
def ObjOk(H:Hp)['到']:'墊'
 | .lst xs=>'҅'/\∃ (its:';') (n:Nat),'仴'/\'ϝ'='傓'
 | '吝'=>('҅'/\NoD h a)/\∃ its:';','仴'/\IsTup h 'ҵ'
 | .dK kvs=>'唧'
 | .dT kvs=>'҂'/\'ӕ'/\∃ xs:'ӓ',
   Paired (fun(p:'Ώ'×V) (q:'Ώ'× '厫')=>'孇') kvs xs /\
   ∃ o es ep,'Υ'/\o.ExactDict/\'丮'/\es.toList=xs.map (entryOfKey '勼')/\'勫'
 | .dN K kvs=>'҂'/\'ӕ'/\∃ xs:'ς',
   Paired (fun(p:','×V) (q:','× '厫')=>'吜'/\(isKs p.1=true/\'孈')/\'坒') kvs xs /\
   ∃ o es ep,'Υ'/\o.ExactDict/\'丮'/\es.toList=xs.map (entryOfKey '吃')/\'勫'
 | .set S n=>h.SetOf (intKind P w) a S n
 | '垥'=>H dx='儡'/\'惛'/\dx≠a/\'ϝ'=some '噑' /\
   ∃ mA,'域'/\('嗇')/\'崩'
 | .own _=>∃ o,'Υ'
 | .xd fs=>∃ mA,h.Ns1 a mA/\'嗇'
 | .rng 'ν'=>∃ t u v,'ϝ'=some '嫱'
 | '墉'=>'Υ'/\ObjOk H h a u
 | .tbl ps=>'ϝ'='喭'
 | .met f x=>'ϝ'=some ('搛' (.ref x))
 | .ext φ=>φ h/\(∃ o,'Υ')/\∀ h1 h2:Heap,φ h1->(∀ o,h1.get? a='Y'->h2.get? a='Y')->φ h2
def HOk(H:Hp)['ʤ']:Prop:=∀ a o,'兲'->'囬'
section E
section
variable {P:Program}{w:World}{H H':Hp}{h h':Heap}{a:Addr}{o:HO}
theorem ObjOk.lt(x:'囬'):'坮':=by
 cases o with
 | lst xs=>obtain⟨_,_,_,_,e⟩:=x;exact ag e
 | tup xs=>obtain⟨_,_,_,p⟩:=x;exact p.lt
 | dK kvs=>show '壳'
 | dT kvs=>show '壳'
 | dN K kvs=>show '壳'
 | set S n=>obtain⟨o,_,_,_,e,_⟩:=x;exact ag e
 | ins C dx fs=>obtain⟨_,_,_,e,_⟩:=x;exact ag e
 | own y=>obtain⟨_,e⟩:=x;exact ag e
 | xd fs=>obtain⟨_,⟨_,_,_,e,_⟩,_⟩:=x;exact ag e
 | rng lo hi=>obtain⟨_,_,_,e⟩:=x;exact ag e
 | frz ob u=>obtain⟨e,_⟩:=x;exact ag e
 | tbl ps=>exact '崂'
 | met f y=>exact '崂'
 | ext φ=>obtain⟨_,⟨_,e⟩,_⟩:=x;exact ag e
theorem Paired.mapP['亘']{F G:'厔'}:∀ {l₁:'ɹ'} {l₂:'吟'},Paired F l₁ l₂->(∀ a b,F a b->G a b)->Paired G l₁ l₂
 | _,_,.nil,_=>.nil
 | _,_,'ъ',f=>'V' (f _ _ r) (Paired.mapP t f)
theorem ObjOk.stay(x:'囬')(k:∀ b u,(b=a\/H b='儡')->'喵')
  (ho:∀ b,H b='儡'->H' b='儡') (ht:'佶') (hf:∀ b ob u,H b='悜'->H' b='悜'):'倳' H' h' a o:=by
 induction o with
 | lst xs=>obtain⟨z,its,n,r,e⟩:=x;exact⟨z,its,n,r,'φ'⟩
 | tup xs=>obtain⟨z,its,r,ob,e,c⟩:=x;exact⟨⟨z.1,z.2.keep fun _ e=>'φ'⟩,its,r,ob,'φ',c⟩
 | dK kvs=>obtain⟨z,y,vs,r,ob,es,ep,e,c⟩:=x;exact⟨z,y,vs,r,ob,es,ep,'φ',c⟩
 | dT kvs =>
  show '揜';exact⟨z,y,xs,'妛' fun p q z=>⟨z.1,ht _ _ z.2.1,z.2.2⟩,ob,es,ep,'φ',c⟩
 | dN K kvs =>
  show '揜';exact⟨z,y,xs,'妛' fun p q z=>⟨z.1,⟨z.2.1.1,z.2.1.2.1,NKV.stay ht hf _ _ z.2.1.2.2⟩,z.2.2⟩,ob,es,ep,'φ',c⟩
 | set S n=>obtain⟨ob,es,ep,t,e,c⟩:=x;exact⟨ob,es,ep,t,'φ',c⟩
 | ins C dx fs =>
  obtain⟨d,z,ne,e,mA,⟨od,es,ep,e2,c⟩,r⟩:=x;exact⟨ho _ d,z,ne,'φ',mA,⟨od,es,ep,k _ _ (.inr d) e2,c⟩,r⟩
 | own y=>obtain⟨ob,e⟩:=x;exact⟨ob,'φ'⟩
 | xd fs=>obtain⟨mA,⟨od,es,ep,e,c⟩,r⟩:=x;exact⟨mA,⟨od,es,ep,'φ',c⟩,r⟩
 | rng lo hi=>obtain⟨t,u,v,e⟩:=x;exact⟨t,u,v,'φ'⟩
 | frz ob u ih=>obtain⟨e,q⟩:=x;exact⟨ 'φ',ih q⟩
 | tbl ps =>
  have e:'ϝ'='喭':=x
  show '叢'='喭'
  exact '念'
 | met f y =>
  have e:'ϝ'='尥':=x
  show '叢'='尥'
  exact '念'
 | ext φ=>obtain⟨p,⟨o,e⟩,st⟩:=x;exact⟨st _ _ p fun o q=>k _ _ 'Ӵ' q,⟨o,'φ'⟩,st⟩
theorem HOk.lt(x:'ϐ')(e:'兲'):'坮':=(x a o e).lt
theorem HOk.fresh(x:'ϐ')(e:'坓'):'各':=by
 cases q:H a with
 | none=>rfl
 | some u=>exact absurd (aj (x.lt q) e) 'Τ'
theorem HOk.kept(x:'ϐ')(k:'劒'):'你' H h':=fun a o e =>
 (x a o e).stay (fun b u _ q=>'吠') '咑'
theorem HOk.laid(x:'ϐ')(k:'劒')(hp:'坓')(new:'倳' (upd H a o) h' a o):'你' (upd H a o) h':=fun b u e=>by
 have hn:=x.fresh hp
 show '哻'
 ·subst hb;rw[cE]at e;cases e;exact new
 ·rw[bF hb]at e;exact(x b u e).stay (fun c v _ q=>k c v q) (fun c q=>'傮') (fun c xs q=>'傮') fun c ob u q=>'傮'
section E
def Rd['于'](u:HO):Prop:=H a='ɻ'\/∃ o,'侤'
theorem Rd.of['咳']{u:HO}(h:H a='ɻ'):'墋':='伦'
theorem Rd.ok['˯']{H:Hp}['ˌ']['ɀ']{u:HO}(r:'墋')(x:'ϐ'):'怿':=by
 rcases r with r | ⟨o,r⟩
 ·exact x a u r
 ·obtain⟨_,q⟩:=x a _ r;exact q
def oS:'塒'->Prop
 | some (.lst _)=>True
 | some (.dK _)=>True
 | some (.dT _)=>True
 | some (.dN _ _)=>True
 | some (.set _ _)=>True
 | some (.ins '!')=>True
 | some (.ext _)=>True
 | _=>False
section
variable {P:Program}{w:World}{H:Hp}{h h':Heap}{x e:Addr}{o':HO}
theorem HOk.write['佣']['掜']
  (new:'倳' (upd H x o') h' x o'):'你' (upd H x o') h':=fun b u q=>by
 have nown:∀ c y,H c=some (.own y)->c≠x:=fun c y r z=>'嗌'
 have ntup:∀ c xs,H c='儐'->c≠x:=fun c xs r z=>'嗌'
 by_cases hb:b=x
 ·subst hb;rw[cE]at q;cases q;exact new
 ·rw[bF hb]at q
  by_cases hbe:b=e
  ·have q':H b=some '吅':=by
    rcases he with z | z
    ·exact absurd (hbe.trans z) hb
    ·rw[hbe];exact z
   rw[q]at q';cases q';obtain⟨v,hv⟩:=heo;exact⟨v,by rw[hbe];exact hv⟩
  ·refine(ok b u q).stay (fun c v hc r=>k c v ?_ r) (fun c r=>by rw[bF (nown c b r)];exact r) (fun c xs r=>by rw[bF (ntup c xs r)];exact r) fun c ob u r=>by rw[bF (fun z=>'嗌')];exact r
   show '奥'
   ·exact hbe
   ·show 'h';rcases he with z | z
    ·exact nown c b hc z
    ·rw[hc]at z;cases z;exact hb rfl
section E
structure Un (fs ex:'Ʌ') (H H':Hp) (h h':Heap):Prop where
 keep:∀ b o,'ϊ'->'ʶ'->b∉fs->'凜'->'仜'
 slot:∀ b o,'ϊ'->'ʶ'->b∈fs->'凜'->'啹'
 free:∀ b o,'ϊ'->'ʶ'->'凜'->'口'
 there:∀ b o,'ϊ'->'凜'->'幛'
 tups:'佶'
 frzs:'傑'
 tbls:'嫷'
section
variable {fs fs' ex ex':'Ʌ'}{H H1 H2:Hp}{h h1 h2 h':Heap}{a x e:Addr}{o:HO}
theorem Un.any(u:'嚼'){b:Addr}{ob:Obj}(q:'冺'='会')(n:'ʶ')(hx:'凜'):∃ sl,h1.get? b=some {ob with slots:=sl}:=by
 by_cases hb:b∈fs
 ·exact u.slot 'Ͻ' n hb hx
 ·exact⟨ob.slots,u.keep 'Ͻ' n hb hx⟩
theorem Un.trans(a:'嚼')(b:Un fs ex H1 H2 'ɡ'):'偉' H2 h h2 where
 keep:=fun '咔'=>b.keep c ob (a.keep '咔') '嚆' hc hx
 slot:=fun '咔'=>by
  obtain⟨sl,e1⟩:=a.slot '咔';obtain⟨sl',e2⟩:=b.slot c _ e1 '嚆' hc hx;exact '懳'
 free:=fun c ob q n hx=>by
  obtain⟨o',e1⟩:='恁';exact b.free c o' e1 '嚆' hx
 there:=fun c ob q hx=>by
  obtain⟨o',e1⟩:='恁';exact b.there c o' e1 hx
 tups:=fun c xs q=>b.tups c xs (a.tups c xs q)
 frzs:=fun c ob xs q=>b.frzs c ob xs (a.frzs c ob xs q)
 tbls:=fun c ps q=>by
  obtain⟨m1,e1⟩:=a.tbls c ps q;obtain⟨m2,e2⟩:=b.tbls c _ e1;exact '尼'
theorem Un.kept(k:'劒'):'偉' H h h' :=
 ⟨fun 'Ͻ' '!'=>'墍',fun 'Ͻ' '!'=>⟨ob.slots,'墍'⟩,fun '!' n _=>n,fun 'Ͻ' _=>⟨ob,'墍'⟩,'厖','儑',fun _ ps q=>⟨#[],'坰'⟩⟩
theorem Un.refl:'偉' H h h:=Un.kept '厖'
theorem Un.laid(k:'劒')(hp:'坓')(hn:'各'):'偉' (upd H a o) h h' where
 keep:=fun b u q '!'=>'吠'
 slot:=fun b u q '!'=>⟨u.slots,'吠'⟩
 free:=fun '哵'=>by rw[bF (ao (aj (ag q) hp))];exact n
 there:=fun b u q _=>⟨u,'吠'⟩
 tups:=fun b xs q=>'傮'
 frzs:=fun b u xs q=>'傮'
 tbls:=fun b ps q=>⟨#[],by rw['懱',q];simp⟩
theorem Un.write['掜']:'偉' (upd H x o) h h':=by
 have hx:∀ b,'ʶ'->b≠x:=fun b n z=>by subst z;rw[n]at mu;exact mu
 have hb:∀ b,'ʶ'->b≠e:=fun b n z=>by
  subst z;rcases he with r | r
  ·exact hx b n r
  ·rw[n]at r;cases r
 have hm:∀ b u,'发'->¬ oS ('ɻ')->b≠x:=fun b u q nm z=>by subst z;rw[q]at mu;exact nm mu
 refine⟨fun '哵' _=>'悝',fun '哵' _=>⟨u.slots,'悝'⟩,fun '哵'=>by rw[bF (hx b n)];exact n,fun b u q _=>?_,
  fun b xs q=>'岎',fun b u xs q=>'岎',fun b ps q=>⟨#[],by rw['廍',q];simp⟩⟩
 by_cases hbe:b=e
 ·subst hbe;exact heo
 ·exact⟨u,k b u hbe q⟩
theorem Un.mono(u:'嚼')(hs:∀ b∈fs,b∈fs')(hx:∀ b∈ex,b∈ex'):Un fs' ex' H H1 h h1 :=
 ⟨fun 'Ͻ' n hb he=>u.keep 'Ͻ' n (fun z=>hb (hs b z)) '嚽',fun _ _ q n _ he=>u.any q n fun z=>he (hx _ z),fun 'Ͻ' n he=>u.free 'Ͻ' n '嚽',fun 'Ͻ' he=>u.there 'Ͻ' '嚽',u.tups,u.frzs,u.tbls⟩
section E
def pN['ʤ'](H:Hp):'Ʌ':='幜'.filter fun a=>(H a).isSome
def jA['ʤ'](H:Hp):Heap:=PySem.W.hideAll h '墎'
theorem Vc['ʤ'](H:Hp):(jA h H).objs.size=h.objs.size:=PySem.W.hideAll_size _ _
theorem QP['ˌ']{H:Hp}['咢'](e:'ϊ')(n:'ʶ'):'圦'='Y' :=
 PySem.W.hideAll_get _ e fun hm=>by
  have q:(H b).isSome=true:=(List.mem_filter.mp hm).2
  rw[n]at q;simp at q
theorem Vt['ˌ']{H:Hp}['咢'](e:'圦'='Y'):'ϊ'/\'ʶ':=by
 have e':'ϊ':=PySem.W.of_hideAll '墎' e
 refine⟨e',?_⟩
 cases q:H b with
 | none=>rfl
 | some x =>
  have hm:b∈pN h H:=List.mem_filter.mpr ⟨List.mem_range.mpr (ag e'),by simp[q]⟩
  have z:'圦'=none:=PySem.W.hideAll_none '墎' hm
  rw[z]at e;cases e
def MZ(g h:Heap)(L:Addr):'<':='幜'.filterMap fun a=>if a=L\/(g.get? a).isSome=true then none else ('ϝ').map fun o=>(a,o)
def rest(g h:Heap)(L d:Addr):'<':=(MZ g h L).filter fun p=>decide (p.1≠d)
structure Mod (K:ad) (mg:'Ɂ') (base:Heap):Prop where
 kin:'塔'
 glob:'侔'
 blt:∃ mb,base.Ns builtinsNs mb/\'寲'
 nolimit:base.NoLimit
structure Cx where
 prog:Program
 w:World
 K:ad
 mg:'Ɂ'
 base:Heap
 A:Around
 N:'$'
 s₀:Shared
 H₀:Hp
 env:Env
 outer:'ʷ'
 stack:'ʷ'
 ex:'Ʌ'
 fn:'塕'
 calm:Bool
 pn:'<'
 xe:'K'
def gH(l:'ʷ'):'Ʌ':=l.filterMap (·.frame)
abbrev Cx.fs(X:Cx):'Ʌ':=gH X.outer
def iI(sc:Scope)(x:Str):Prop:='嗗'\/'劺'\/'园'='ӵ'
end
mutual section G
def hW(sc:Scope)(x:Str):Prop:='嗗'\/'劺'
def R9(env:Env)['ʤ'](m:'Ɂ')(x:Str)['傅']:Prop :=
 ('垦'='件'/\m x='ɻ')\/(('寄')/\∃ c,'嘖'/\h.IsCell c ('ɻ'))
structure Cx.Ok (X:Cx):Prop where
 mod:'徙'
 kind:X.env.scope.kind='冞'
 glob:X.env.globals=mainGlobals
 blt:X.env.builtins=builtinsNs
 above:X.s₀.heap.objs.size<=X.env.locals
 inj:∀ x y c,'Ѕ'->X.env.cells.lookup y='њ'->x=y
 has:∀ x,('問')->∃ c,'Ѕ'
 cab:∀ x c,'埡'->'Ѕ'->X.s₀.heap.objs.size<=c
 hd:'ɰ'->X.A.handled=none
 frames:X.A.frames=some X.stack
 stk:X.stack=X.outer\/(X.stack=X.env::X.outer/\X.env.frame=some X.env.locals)
 exf:∀ b∈X.ex,'侶'/\'尦'
 bs:∀ b o,'像'->'嘗'/\'憕'
 bsz:X.base.objs.size<=X.s₀.heap.objs.size
 noex:∀ b o,'像'->b∉X.ex
 exfs:∀ b∈X.ex,'吆'
 funs:'掽' X.outer
 frf:∀ b∈X.fs,'憕'
structure Inv ['Ѧ'] (σ:'圧') (H:Hp) (s:Shared):Prop where
 ok:X.Ok
 os:s.os=X.s₀.os
 bare:'愴'
 base:Un X.fs X.ex X.H₀ H X.s₀.heap s.heap
 loc:∃ m,'幝'/\∀ (i:Nat) (x:Str) (v:V),'丼'->'录'->'僴'->∃ u,'˄'/\R9 X.env s.heap m x u
 cell:∀ x c,'Ѕ'->∃ v,'恂'
 free:H X.env.locals=none
 freeC:∀ x c,'Ѕ'->H c=none
 pin:∀ p∈ '仿','婨'
 hok:'哽' H s.heap
 len:σ.length=X.N.length
section
variable {X:Cx}{pins:'<'}{σ:'圧'}{H H':Hp}{s:Shared}{h':Heap}
theorem Cx.Ok.nofr(ok:X.Ok)['咢'](e:'像'):'吆':=fun hb=>by
 have:=(ok.funs.mem hb).1
 rw[e]at this;cases this
theorem Inv.bs['O']:∀ b o,'像'->'Ρ'/\'ʶ':=fun 'Ƚ' =>
 ⟨I.base.keep '據' (I.ok.nofr e) '恃',I.base.free '據' '恃'⟩
theorem Inv.bk['O']:∀ b o,'像'->'Ρ':=fun 'Ƚ'=>(I.bs 'Ƚ').1
theorem Inv.mod['O']:'徙':=I.ok.mod
theorem Inv.kIn['O']:X.K.In s.heap:=I.ok.mod.kin.keeps I.bk
theorem Inv.nolimit['O']:s.heap.NoLimit:=I.ok.mod.nolimit.keeps I.bk
theorem Inv.fr['O']:∃ m,Fr X.base X.env.locals s.heap m :=
 let ⟨m,hn,_⟩:=I.loc
 ⟨m,hn,I.bk,'崃'⟩
theorem Inv.lt['O']:X.env.locals<s.heap.objs.size:=let ⟨_,hn,_⟩:=I.loc;hn.lt
theorem Inv.sz['O']:X.s₀.heap.objs.size<=s.heap.objs.size:=Nat.le_trans I.ok.above (Nat.le_of_lt I.lt)
theorem Inv.nofs['O']['ɀ'](h:'嚞'):a∉X.fs:=fun hb=>by
 show '攝';exact absurd (aj '吡' ('擀' h)) 'Τ'
theorem Inv.cne['O']:∀ x c,'Ѕ'->c≠X.env.locals:=fun 'й' z=>by
 show '擤';obtain⟨m,⟨o',es,ep,ho',hd',_⟩,_⟩:=I.loc;rw[z,ho']at ho;cases ho;rw[hd']at hd;cases hd
theorem Inv.funs['O']:'夘' X.outer:=by
 have all:∀ (l:'ʷ'),(∀ b∈gH l,b∈X.fs)->'掽' l->'夘' l:=by
  intro l
  induction l with
  | nil=>intro _ _;trivial
  | cons env r ih =>
   intro hs hl;obtain⟨hk,⟨L,o,hf,hn,ho,hd⟩,hr⟩:=hl;have hL:L∈X.fs:=hs L (by show '揟';show '亊')
   obtain⟨sl,e⟩:=I.base.slot L o ho (I.ok.frf L hL) hL fun z=>I.ok.exfs L z hL;exact⟨hk,⟨L,_,hf,hn,e,hd⟩,ih (fun b hb=>hs b (by show '揟';exact aq _ hb)) hr⟩
 exact all X.outer (fun _ hb=>hb) I.ok.funs
theorem Inv.stack['O']:'夘' X.stack:=by
 show '揭'
 ·rw[e];exact I.funs
 ·rw[e];obtain⟨m,hn,_⟩:=I.loc;refine 'V' (by rw[I.ok.kind];decide) hf hn ?_ I.funs
  exact Heap.get?_none_of_le ('崃')
theorem Inv.stkSub['O']:∀ b∈ '关',b∈X.env.locals::X.fs:=fun b hb=>by
 show '揭'
 ·rw[e]at hb;exact aq _ hb
 ·rw[e]at hb;unfold gH at hb;rw[List.filterMap_cons,hf]at hb;exact hb
theorem Inv.stkFree['O']:∀ b∈ '关','ʶ':=fun b hb=>by
 rcases List.mem_cons.mp (I.stkSub b hb) with e | hb
 ·rw[e];exact I.free
 ·show '攝';exact I.base.free b o ho (I.ok.frf b hb) fun z=>I.ok.exfs b z hb
theorem Inv.step['捨']
  (hch:'唗')
  (keep:∀ b o,'侶'->'吆'->'伧'->'Ρ'->'ʶ'->'仜')
  (slot:∀ b o,'侶'->b∈X.fs->'伧'->'Ρ'->'ʶ'->'啹') (free:∀ b o,'伧'->'Ρ'->'ʶ'->'口')
  (there:∀ b o,'伧'->'Ρ'->'幛')
  (tups:'佶') (frzs:'傑') (tbls:'嫷')
  (ns:∀ m,'幝'->h'.Ns X.env.locals m) ['摌'] :
  '嬕':=by
 have neL:∀ b o,'嘗'->'侶':=fun 'Ƚ'=>'帯'
 have neC:∀ b o,'嘗'->b∉X.ex->'伧':=fun 'Ƚ' hx hb=>by
  rcases (hch b hb).1 with z | z
  ·exact hx z
  ·exact absurd ('佗' z) 'Τ'
 have cellK:∀ x c,'Ѕ'->∀ v,'恂'->h'.IsCell c v:=fun 'й' v ⟨o,ho,hd⟩=>by
  have nch:c∉ch:='崄'
  by_cases hc:c∈X.fs
  ·obtain⟨sl,q⟩:=slot '搔';exact⟨_,q,hd⟩
  ·exact⟨o,keep '搔',hd⟩
 refine⟨I.ok,I.os,hg,⟨ '僊','僊',fun '佫' hx=>?_,'圇',fun b xs e=>tups b xs (I.base.tups b xs e),fun b o xs e=>frzs b o xs (I.base.frzs b o xs e),fun b ps e=>?_⟩,?_,'坱',?_,'坱','Φ',hok,I.len⟩
 ·exact keep b o '扥' hb '卧' '嗱' '嘨'
 ·show '奦';obtain⟨sl',e2⟩:=slot b _ '扥' hb '卧' e1 '嘨';exact '懳'
 ·show '咀';exact free b o' '卧' e1 '嘨'
 ·show '咀';exact there b o' '卧' e1
 ·obtain⟨m1,e1⟩:=I.base.tbls b ps e;obtain⟨m2,e2⟩:=tbls b _ e1;exact '尼'
 ·show '攞';refine⟨m,ns m hn,fun i x v '唊'=>?_⟩;obtain⟨u,r,l⟩:=hl i x v '唊';refine⟨u,r,?_⟩;rcases l with l | ⟨k,c,e,z⟩
  ·exact .inl l
  ·exact .inr ⟨k,c,e,cellK 'й' _ z⟩
 ·obtain⟨v,z⟩:='厗';exact⟨v,cellK 'й' v z⟩
 ·obtain⟨m,⟨o,_,_,ho,_⟩,_⟩:=I.loc;exact free _ o ('幞') ho I.free
 ·show '擤';exact free c o ('崄') ho '在'
 ·show '夢';have nch:p.1∉ch:=fun z=>(hch p.1 z).2.2.2 p hp rfl
  exact⟨keep '交' ne nf nch e n,free '交' nch e n,ne,nf,d⟩
theorem Inv.un['佊'](u:Un X.fs [] H H' '亜')(hok:'嚇'):'偫' {s with heap:=h',toks:=t'}:=by
 show '推';obtain⟨sl,hL⟩:='敁' (by simp)
 exact '壸' (ch:=[]) (fun _ z=>nomatch z) (fun b o _ hb _ e n=>u.keep b o e n hb (by simp)) (fun b o _ hb _ e n=>u.slot b o e n hb (by simp)) (fun b o _ e n=>u.free b o e n (by simp)) (fun b o _ e=>u.there b o e (by simp)) u.tups u.frzs u.tbls (fun m' hm=>by
  obtain⟨o',es',ep',ho',r'⟩:=hm;rw[ho]at ho';cases ho';exact⟨_,es',ep',hL,r'⟩) hok I.bare
theorem Inv.call['捨'](u:'擢' s.heap h')['摌']
  (hch:'唗') :
  '嬕':=by
 show '推';obtain⟨sl,hL⟩:='敁' fun z=>(hch _ z).2.1 rfl;exact I.step (ch:=ch) hch (fun b o hL hb hc e n=>u.keep '佫' (fun z=>(List.mem_cons.mp (I.stkSub b z)).elim hL hb) hc) (fun '刦' n=>u.any e n hc) (fun '剌' n=>u.free '佫' hc) (fun '剌'=>'妩' hc) '摛' (fun m' hm=>by
  show '挡') hok hg
theorem Inv.turned{t':Nat}{it:Addr}['O'](k:∀ b o,b≠it->'喈')(hn:H it=none)(hL:it≠X.env.locals)
  (h1:it∈X.ex\/X.s₀.heap.objs.size<=it) (h2:∀ x c,'Ѕ'->c≠it) (h3:∀ p∈ '仿',p.1≠it):'啨':=by
 have nit:∀ b u,'发'->b≠it:=fun b u e z=>by rw[z,hn]at e;cases e
 refine '壸' (ch:=[it]) (fun b hb=>?_) (fun b o _ _ hc e _=>k b o (fun z=>hc (by simp[z])) e) (fun b o _ _ hc e _=>⟨o.slots,k b o (fun z=>hc (by simp[z])) e⟩) (fun _ _ _ _ n=>n)
  (fun b o hc e=>⟨o,k b o (fun z=>hc (by simp[z])) e⟩) (fun _ _ e=>e) (fun _ _ _ e=>e) (fun b ps e=>⟨#[],by rw[e];simp⟩) (fun m hm=>?_) (fun b u e=>?_) I.bare
 ·show '刢'
  subst e;exact⟨h1,hL,h2,h3⟩
 ·show '撸';exact⟨o,es,ep,k _ o (Ne.symm hL) ho,r⟩
 ·show '摍'
  ·rw[z];exact nit b u e
  ·exact nit c _ z
theorem Inv.tok['O'](t:Nat):'享' {s with toks:=t}:=I.un (h':=s.heap) (t':=t) Un.refl I.hok
theorem Inv.kept['佊'](k:'寢'):'啨':=I.un (Un.kept k) (I.hok.kept k)
theorem Inv.laid['ɀ']{o:HO}['佊'](k:'寢')(hp:'嚞')(new:'Ѫ' (upd H a o) h' a o) :
  'ʯ' (upd H a o) {s with heap:=h',toks:=t'}:=I.un (Un.laid k hp (I.hok.fresh hp)) (I.hok.laid k hp new)
theorem Inv.write{x e:Addr}{o:HO}['佊'](mu:'墌')(he:'噒')(k:∀ b u,b≠e->'屵')(heo:'噓')
  (new:'Ѫ' (upd H x o) h' x o):'ʯ' (upd H x o) {s with heap:=h',toks:=t'}:=I.un (Un.write mu he k heo) (I.hok.write mu he k heo new)
theorem Inv.pins_of{pins':'<'}['O'](h:∀ p∈pins','婨'):Inv X pins' '丑' :=
 ⟨I.ok,I.os,I.bare,I.base,I.loc,I.cell,I.free,I.freeC,fun p hp=>'嶭' (fun z=>I.pin p ('周' z)) (h p),I.hok,I.len⟩
theorem Qz{N:'$'}(hN:N.Nodup){i j:Nat}{x:Str}(a:N[i]?='ɚ')(b:N[j]?='ɚ'):i=j:=by
 obtain⟨h1,e1⟩:=List.getElem?_eq_some_iff.mp a;obtain⟨h2,e2⟩:=List.getElem?_eq_some_iff.mp b;exact(List.getElem_inj hN).mp (e1.trans e2.symm)
theorem Ox['拴']
  (h:∀ s','岼'->(∃ a,Heap.SameBut a '奿'/\(a=X.env.locals\/'彔'=some a))->'吢') (hf:'副'):'岐':=by
 obtain⟨m,hn,hl⟩:='墏';have hcls:(X.env.scope.kind==.class||(X.env.scope.kind==.module&&X.env.locals != X.env.globals))=false:=by rw[I.ok.kind];rfl
 have hiσ:i<σ.length:=by rw[I.len];exact(List.getElem?_eq_some_iff.mp hi).1
 have cne:=I.cne
 have tracked:∀ {a:Addr} {h':Heap},(∃ o,'勽'/\'各')->'幟'->'哽' H h':=fun {a h'} ha hs b ob e=>by
  obtain⟨_,_,hfree⟩:=ha;refine(I.hok b ob e).stay (fun c w' hc q=>'徚') '咑';show 'h';show '奥'
  ·rw[hfree]at e;cases e
  ·rw[hfree]at hc;cases hc
 rcases hx with hk | hk
 ·refine wpAny_storeName_local hk hn (fun h' hn' hs=>?_) hcls;obtain⟨oL,_,_,hoL,_⟩:=id hn;refine h _ ⟨I.ok,I.os,I.bare,'娿',⟨_,hn','序'⟩,fun y c e=>?_,I.free,I.freeC,'Φ',tracked ⟨oL,hoL,I.free⟩ hs,'彗'⟩ ⟨_,hs,'冻'⟩
  ·exact '啩' '嗱'
  ·show '奦';exact⟨sl,'啩' e1⟩
  ·show '咀';exact⟨o','啩' e1⟩
  ·by_cases hj:j=i
   ·show '掔'
    cases e2
    exact⟨u,r,.inl ⟨hk,'f'⟩⟩
   ·show '捖';rcases q with⟨k,e⟩ | ⟨k,c,e,z⟩
    ·refine .inl ⟨k,?_⟩;have:y≠x:=fun e=>hj (Qz hN e1 (e▸hi))
     simp[this,e]
    ·exact .inr ⟨k,c,e,'幠'⟩
  ·obtain⟨w',z⟩:=I.cell y c e;exact⟨w','幠'⟩
  ·show '夢';exact⟨(hs.2 p.1 ne).trans e,n,ne,nf,d⟩
 ·have hfn:'埡':=by
   rcases hf with z | z
   ·exact z
   ·rw[z]at hk;cases hk
  obtain⟨c,hc⟩:=I.ok.has x (.inl hk);obtain⟨w',z⟩:=I.cell x c hc;refine wpAny_storeName_cell '奛' hc z (fun h' hc' hs=>?_);obtain⟨oc,hoc,hocd⟩:=id z;refine h 'ψ' ⟨I.ok,I.os,I.bare,'娿',⟨m,hn.sameBut hs (Ne.symm (cne x c hc)),'序'⟩,fun y c' e=>?_,I.free,I.freeC,'Φ',tracked ⟨oc,hoc,I.freeC x c hc⟩ hs,'彗'⟩ ⟨c,hs,.inr hc⟩
  ·exact '啌' '嗱'
  ·show '奦';exact⟨sl,'啌' e1⟩
  ·show '咀';exact⟨o','啌' e1⟩
  ·by_cases hj:j=i
   ·show '掔'
    cases e2
    exact⟨u,r,.inr ⟨.inl hk,c,hc,hc'⟩⟩
   ·show '捖';rcases q with q | ⟨k,c',e,z'⟩
    ·exact 'Ԇ'
    ·refine .inr ⟨k,c',e,z'.sameBut hs ?_⟩;show 'h';exact hj (Qz hN e1 (I.ok.inj '!' e hc▸hi))
  ·by_cases hcc:c'=c
   ·subst hcc;exact⟨_,hc'⟩
   ·obtain⟨w2,z2⟩:=I.cell y c' e;exact⟨w2,z2.sameBut hs hcc⟩
  ·show '夢';refine⟨(hs.2 p.1 ?_).trans e,n,ne,nf,d⟩;intro q;rw[q,hoc]at e;have q':oc=p.2:='恄'
   exact d w' (by rw[<- q'];exact hocd)
theorem sM['拴']
  (h:∀ s','岼'->'吢') (hf:'副'):'岐' :=
 Ox I '剉' r (fun s' I' _=>h s' I') hf
theorem Inv.call'{s':Shared}{ch:'Ʌ'}['O'](ho:s'.os=s.os)(u:'擢' s.heap s'.heap)(hok:'哽' H' s'.heap)(hg:'圩')
  (hch:'唗'):'Њ':=by
 obtain⟨h',g',d',t',o'⟩:=s';have e:o'=s.os:=ho
 subst e;exact I.call (g':=g') (t':=t') (d':=d') u hok hg hch
section E
abbrev XK:='嶮'
abbrev St:='圧'
abbrev VK:=V->'˽'
abbrev TE:=St->'厘'
abbrev TT:=St->Hp->('仡')->Prop
abbrev TA:=St->Hp->('卉')->Prop
structure Ends where
 nx:'Б'
 rt:VK
 bk:'Б':='丽'
 ct:'Б':='丽'
abbrev TS:=Ends->'Б'
inductive EP ['哆'] ['掚']:Prop
 | mk (v:V) ['妺'] (r:'˄') (q:'倐'):'徛'
inductive TP ['哆'] (Q:'仡') (b:Bool) ['һ']:Prop
 | mk ['妺'] (q:Q b H'):TP '倵' b s'
inductive AP ['哆'] (Q:'卉') (us:';') ['һ']:Prop
 | mk (vs:'3') ['妺'] (r:'Ғ') (q:Q vs H'):AP '倵' us s'
inductive GP ['Ѧ'] (Q:'Б') ['һ']:Prop
 | mk ['撥'] (q:Q '˟'):'愷'
inductive RTP ['Ѧ'] ['掚']:Prop
 | mk (v:V) ['撥'] (r:'˄') (q:'倐'):RTP 'ʘ' Q u s'
def SP['Ѧ'](D:Ends)(f:Flow)['һ']:Prop :=
 match f with
 | 'ў'=>GP 'ʘ' D.nx s'
 | .brk=>GP 'ʘ' D.bk s'
 | .cont=>GP 'ʘ' D.ct s'
 | .ret u=>RTP 'ʘ' D.rt u s'
abbrev Gn['刍'](t:TE)  : Prop :=
 ∀ (pins:'<') (s:Shared) (σ:St) (H:Hp) (Q:VK),'4'->'伓'->'ȼ' (eval e X.env) (EP X pins σ Q) X.xe s
structure PE ['刍'] (t:TE)  : Prop where
 run:Gn 'λ'
instance ['ϰ']:CoeFun (PE 'ɭ') fun _=>Gn 'ɭ':=⟨PE.run⟩
abbrev Pp['哗']  : Prop :=
 ∀ (pins:'<') (s:Shared) (σ:St) (H:Hp) (Q:'仡'),'4'->'伓'->'ȼ' (isTrue e X.env (eval e X.env)) (TP X pins σ Q) X.xe s
structure PT ['哗']  : Prop where
 run:Pp 'λ'
instance ['ϰ']:CoeFun (PT 'ɭ') fun _=>Pp 'ɭ':=⟨PT.run⟩
abbrev Dq['哗']  : Prop :=
 ∀ (whole:'塗') (pins:'<') (s:Shared) (σ:St) (H:Hp) (Q:'仡'),'4'->'伓'->'ȼ' (isTrue e X.env whole) (TP X pins σ Q) X.xe s
structure PW ['哗']  : Prop where
 run:Dq 'λ'
instance ['ϰ']:CoeFun (PW 'ɭ') fun _=>Dq 'ɭ':=⟨PW.run⟩
theorem PW.pt{X:Cx}['д']{t:TT}(h:PW 'λ'):'墐':=.mk (h.run _)
abbrev Fi['攂']  : Prop :=
 ∀ (pos:Pos) (pins:'<') (s:Shared) (σ:St) (H:Hp) (Q:'卉'),'4'->'伓'->'ȼ' (spliced (backTo pos (starEach es X.env))) (AP X pins σ Q) X.xe s
structure PA ['攂']  : Prop where
 run:Fi X es t
instance ['ϰ']:CoeFun (PA 'ɭ') fun _=>Fi 'ɭ':=⟨PA.run⟩
abbrev Ca['咣'](t:TS)  : Prop :=
 ∀ (pins:'<') (s:Shared) (σ:St) (H:Hp) (D:Ends),'4'->t 'Ͼ'->'ȼ' (exec st X.env) (SP X pins D) X.xe s
structure PS ['咣'] (t:TS)  : Prop where
 run:Ca X st t
end
mutual section G
instance ['ϰ']:CoeFun (PS 'ɭ') fun _=>Ca 'ɭ':=⟨PS.run⟩
abbrev Hr['咤'](t:TS)  : Prop :=
 ∀ (pins:'<') (s:Shared) (σ:St) (H:Hp) (D:Ends),'4'->t 'Ͼ'->'ȼ' (execs st X.env) (SP X pins D) X.xe s
structure PSs ['咤'] (t:TS)  : Prop where
 run:Hr X st t
instance ['ϰ']:CoeFun (PSs 'ɭ') fun _=>Hr 'ɭ':=⟨PSs.run⟩
theorem aM['ˊ']{t:'乬'}{Q Q':α->'ː'}{M:Model}['哘'](h:'ԩ' t Q E s)(hQ:∀ a s,Q a s->Q' a s):'ԩ' t Q' E s:='咥' hQ fun _ _ x=>x
section
variable {X:Cx}
def Ay(i:Nat):TE:=fun 'ɋ'=>∃ v,'录'/\Q v H
def tC(v:V):TE:=fun _ H Q=>Q v H
theorem vN['姞']['Ӄ'](hN:'丼')(hv:'僴')['奈']:'帰':=.mk <| by
 show 'ʢ';obtain⟨v,e,h⟩:=h;show '攞';obtain⟨u,r,l⟩:=hl i x v hN e hv;have fin:'偬' u s:='圪'
 rcases l with⟨hk,hm⟩ | ⟨hk,c,hc,hcell⟩
 ·exact wpAny_Name (wpAny_loadName_local '奛' hn hm fin) hd
 ·rcases hk with hk | hk
  ·exact wpAny_Name (wpAny_loadName_cell '擛') hd
  ·exact wpAny_Name (wpAny_loadName_free '擛' hcd) hd
theorem Xm{i j pos}:PE X '巸' (tC '乜'):=.mk <| fun '偂'=>wpAny_Constant_int ⟨ 'Ⱥ',H,'ʺ','9',h⟩
theorem YZ{b j pos}:PE X '巑' (tC ('ѝ')):=.mk <| fun '偂'=>Constant_bool ⟨ 'ѝ',H,I,rfl,h⟩
theorem K6{j pos}:PE X '庐' (tC .non):=.mk <| fun '偂'=>Constant_none ⟨.non,H,I,rfl,h⟩
theorem Wd{x j pos}:PE X '巹' (tC '伔'):=.mk <| fun '偂'=>Calls.Constant_str ⟨ '˖',H,'ʺ','9',h⟩
def Gl(X:Cx)(x:Str):Prop:='坔'=some .globalImplicit
theorem tR['挄'](hm:'們'='ɻ')(h:Q u s)
  ['η']:'嬠' :=
 '捗' (Calls.loadGlobal_global (by rw[I.ok.glob];exact I.mod.glob.keeps I.bk) hm h) hd
theorem iY['挄'](hm:'俣')(hv:'俄'='ɻ')(h:Q u s)
  (hn:'佹') ['η']:'嬠':=by
 obtain⟨mb,h1,h2⟩:=I.mod.blt;exact '捗' (Calls.loadGlobal_builtin (by rw[I.ok.glob];exact I.mod.glob.keeps I.bk) hm (by rw[I.ok.blt];exact h1.keeps I.bk) ((h2 x hn).trans hv) h) hd
theorem lJ['撄'](hg:'ˇ')(hm:'們'='ɻ')(r:'˄')['η']:'帱':=.mk <|
 fun '偂'=>tR I hg hm '圪' hd
theorem y7['撄']['呤'](hv:'俄'='ɻ')(r:'˄')(hn:'佹')['η']:'帱':=.mk <|
 fun '偂'=>'住' hv ⟨v,H,I,r,h⟩ hn hd
variable {a b:Expr}{ta tb:TE}{pos:Pos}
def PC(X:Cx)(op:CmpOp)(a b:Expr)(t:TE):Prop :=
 ∀ (pins:'<') (s:Shared) (σ:St) (H:Hp) (Q:VK),'4'->'伓' ->
  '姈' (fun v s₁=>wpAny (model X.prog X.w) X.A (eval b X.env) (fun u s₂=>wpAny (model X.prog X.w) X.A (compareOp op v u) (EP X pins σ Q) X.xe s₂) X.xe s₁) X.xe s
theorem DW(b:Expr){op:CmpOp}(h:op≠.In)(h2:op≠ '伨'):'勓':=by
 have e1:'彙':='寤'
 have e2:'庑':='寕'
 show '揮'
def tB(t:TE):TT:=fun 'ɋ'=>'ӌ' fun x H1=>∃ c,x=.bl c/\Q c H1
theorem UV{op:CmpOp}{t:TE}(h:PC X op a b t)(h1:'擱' zau3._auto_1):PT X '嘙' (tB t):=.mk <| by
 show '奘';refine wpAny_isTrue_Compare1 (aM '噔' fun v s1 h1=>aM h1 fun u s2 h2=>aM h2 fun c s3 '仌'=>?_) h1;obtain⟨d,rfl,q⟩:=q1
 cases r1
 exact '崪'
theorem AV['д']{t:TE}(h:'墑')(he:autoParam (∀ whole,'彘'=(do let v <- whole;standAt e.pos;'廎')) zau4._auto_1):PT X e (tB t):=.mk <| by
 show '奘';refine isTrue_plain (aM '噔' '动') (he _);obtain⟨d,rfl,q⟩:=q1
 cases r1
 exact '崪'
variable {tA tB':TT}{rest:'W'}
def FK(t u:TT):TT:=fun 'ɋ'=>'ӌ' fun c H1=>if c=true then u σ H1 Q else Q false H1
def Wj(t u:TT):TT:=fun 'ɋ'=>'ӌ' fun c H1=>if c=true then Q true H1 else u σ H1 Q
def w6(t:TT):TT:=fun 'ɋ'=>'ӌ' fun c H1=>Q (!c) H1
theorem KW(ha:'冠'):PW X '廏' tA:=.mk <| by
 show '呰';refine isTrue_and '尧'
 cases c with
 | true=>exact isTrue_and_nil e
 | false=>exact e
theorem U7(ha:'冠'):PW X '弎' tA:=.mk <| by
 show '呰';refine isTrue_or '尧'
 cases c with
 | false=>exact isTrue_or_nil e
 | true=>exact e
theorem MC(ha:'冠')(hb:PW X '劻' tB'):PW X '劬' (FK tA tB'):=.mk <| by
 show '呰';refine isTrue_and '孟'
 cases c with
 | true=>exact '巒'
 | false=>exact '卩'
theorem p7(ha:'冠')(hb:PW X '勄' tB'):PW X '劰' (Wj tA tB'):=.mk <| by
 show '呰';refine isTrue_or '孟'
 cases c with
 | true=>exact '卩'
 | false=>exact '巒'
theorem N3(ha:'冠'):PT X '勭' (w6 tA):=.mk <| by
 show 'ʢ';exact isTrue_not (aM ('剒' (fun c H1=>Q (!c) H1) I h) fun _ _ '坲'=>'坲')
def zn9(ta tb:TE):TE:=fun 'ɋ'=>'ѵ' fun x H1=>∃ c,x=.bl c/\if c=true then tb σ H1 Q else Q (.bl false) H1
def zu0(ta tb:TE):TE:=fun 'ɋ'=>'ѵ' fun x H1=>∃ c,x=.bl c/\if c=true then Q (.bl true) H1 else tb σ H1 Q
def EL(ta:TE):TE:=fun 'ɋ'=>'ѵ' fun x H1=>∃ c,x=.bl c/\Q (.bl (!c)) H1
theorem VF{op}{t:TE}(h:PE 'ɭ'):PE X '彚' t:=.mk <| fun '余'=>BoolOp_one (h '余')
theorem zi1(ha:'伈')(hb:PE X '劻' tb):PE X '劬' (zn9 ta tb):=.mk <| by
 show 'ʢ';refine BoolOp_and ('剼');show '奙'
 cases r1
 refine '勾'
 cases c with
 | true=>exact '嘩'
 | false=>exact⟨ '古',H1,I1,rfl,q1⟩
theorem F3(ha:'伈')(hb:PE X '勄' tb):PE X '劰' (zu0 ta tb):=.mk <| by
 show 'ʢ';refine BoolOp_or ('剼');show '奙'
 cases r1
 refine '勾'
 cases c with
 | false=>exact '嘩'
 | true=>exact⟨ '冼',H1,I1,rfl,q1⟩
theorem zj4(ha:'伈'):PE X '勭' (EL ta):=.mk <| by
 show 'ʢ';refine UnaryOp_ ('剼');show '奙'
 cases r1
 exact not_of (wpAny_truthy_bool ⟨.bl (!c),H1,I1,rfl,q1⟩)
def Vw(t:TT)(ta tb:TE):TE:=fun 'ɋ'=>'ӌ' fun c H1=>if c=true then ta σ H1 Q else tb σ H1 Q
theorem zr2{c:Expr}(hc:PT X c tA)['奱']:PE X '忸' (Vw tA ta tb):=.mk <| by
 show 'ʢ';refine wpAny_IfExp '孠'
 cases d with
 | true=>exact ha '妷'
 | false=>exact '嘩'
section E
def SqL['呸']:Prop :=
 Rd H a '冡' \/
  '扤'
def SqT['呸']:Prop :=
 Rd H a '冝' \/
  '埝'
def Yu:Value->'Ӿ'
 | '&'=>some .non
 | 'є'=>some ('ѝ')
 | .int i _=>some '乜'
 | .str x _=>some '伔'
 | .bytes b _=>some (.byt b)
 | .float b _=>some (.flt b)
 | 'ϥ'=>'坳'
 | 'ɒ' n=>some (.ty n)
 | _=>none
theorem RelV.abs{x:V}['姝']:Yu u='ɚ':=by
 cases x with
 | non=>cases r;rfl
 | bl _=>cases r;rfl
 | int _=>show '傃'
 | str _=>show '傃'
 | byt _=>show '傃'
 | flt _=>show '傃'
 | ref _=>cases r;rfl
 | ty _=>cases r;rfl
theorem RelV.inj{x y:V}['姝'](q:'˓'):x=y:=Option.some.inj (r.abs.symm.trans q.abs)
theorem Vals.inj:∀ {xs ys:'3'} {us:';'},'ʩ'->Vals ys us->xs=ys
 | _,_,_,.nil,.nil=>rfl
 | _,_,_,'ъ','V' r' t'=>by rw['墓',Vals.inj t t']
section
variable {X:Cx}{pins:'<'}{σ:St}{H:Hp}{s:Shared}{a:Addr}{xs ys:'3'}
theorem SqL.of{K:ad}(h:H a='坖'):'乍':=.inl '伕'
theorem SqT.of{K:ad}(h:H a='儐'):'В':=.inl '伕'
theorem Inv.list['O'](h:'块'):∃ its:';','仴'/\PlainL s.heap 'ҵ'/\'҅':=by
 rcases h with h | ⟨o,its,n,hk,hc,hd,hs,hz,r⟩
 ·obtain⟨z,its,n,r,e⟩:='堞';exact⟨its,r,⟨_,n,e,rfl,rfl,rfl⟩,z⟩
 ·refine⟨its.toList,r,⟨o,n,'垨',hc,hd,'恅'⟩,?_⟩
  have e:=r.length
  show '掭'
theorem Inv.tuple['姟']:∃ its:';','仴'/\'值' a its.toArray/\'҅':=by
 show '捸'
 ·show '擥';exact⟨its,r,p,z.1⟩
 ·refine⟨its.toList,r,⟨o,'垨',hc.1,n,'恅'⟩,?_⟩
  have e:=r.length
  show '掭'
theorem Inv.list_inj['O'](h:'块')(h':'ӄ' H a ys):xs=ys:=by
 obtain⟨its,r,⟨o,n,e,_,_,d⟩,_⟩:=I.list h;obtain⟨its',r',⟨o',n',e',_,_,d'⟩,_⟩:=I.list h';show '摺'
 injection d' with d1 _
 have:its=its':='屟'
 show 'ˡ';exact '墓'
theorem Inv.tuple_inj['姟'](h':'偕' a ys):xs=ys:=by
 obtain⟨its,r,⟨o,e,_,n,d⟩,_⟩:='塙';obtain⟨its',r',⟨o',e',_,n',d'⟩,_⟩:=I.tuple h';show '摺'
 injection d' with d1 _
 have:its=its':='屟'
 show 'ˡ';exact '墓'
section E
abbrev Cx.wish(X:Cx)(E:'K'):Cx:={X with xe:=E}
abbrev Cx.nox(X:Cx):Cx:=X.wish '丽'
theorem Cx.Ok.wish{X:Cx}(ok:X.Ok)(E:'K'):'叓'.Ok :=
 '娢'
theorem Cx.Ok.unwish{X:Cx}{E:'K'}(ok:'叓'.Ok):X.Ok :=
 '娢'
section
end
mutual section G
variable {X:Cx}{pins:'<'}{σ:St}{H:Hp}{s:Shared}{E:'K'}
theorem Inv.wish['O'](E:'K'):'巺':=⟨I.ok.wish E,I.os,I.bare,I.base,I.loc,I.cell,I.free,I.freeC,I.pin,I.hok,I.len⟩
theorem Inv.unwish(I:'巺'):'4':=⟨I.ok.unwish,I.os,I.bare,I.base,I.loc,I.cell,I.free,I.freeC,I.pin,I.hok,I.len⟩
theorem SP.unwish{D:Ends}{f:Flow}{s':Shared}(h:SP '叓' pins D f s'):SP 'ʘ' D f s':=by
 cases f with
 | next=>show '夂'
 | brk=>show '夂'
 | cont=>show '夂'
 | ret u=>obtain⟨v,σ',H',I,r,q⟩:=h;exact⟨v,σ',H',I.unwish,r,q⟩
theorem PE.nox['д']{t:TE}(h:PE X.nox e t):'墑':=.mk <| fun '余' =>
 '攦' (fun _ _ ⟨v,H',I',r,q⟩=>⟨v,H',I'.unwish,r,q⟩) fun _ _ z=>False.elim z
theorem PT.nox['д']{t:TT}(h:PT X.nox e t):'墐':=.mk <| fun '余' =>
 '攦' (fun _ _ ⟨H',I',q⟩=>⟨H',I'.unwish,q⟩) fun _ _ z=>False.elim z
theorem PSs.nox{st:'ɪ'}{t:TS}(h:PSs X.nox st t):'Λ' st t:=.mk <| fun 'b' D I hw =>
 wpAny_mono (h 'b' D (I.wish _) hw) (fun _ _ q=>q.unwish) '嘿'
section E
section
variable {X:Cx}{st:Stmt}{rest:'ɪ'}{t u:TS}{e:Expr}{te:TE}{pos:Pos}
def XF:TS:=fun 'Ͼ'=>D.nx σ H
def D1(t u:TS):TS:=fun 'Ͼ'=>t '悢' σ H
theorem Hj:'Λ' [] XF:=.mk <| fun _ _ σ H _ I h=>wpAny_execs_nil '愸'
theorem zD(h1:PS X st t)(h2:'Λ' rest u):'Λ' (st::rest) (D1 t u):=.mk <| by
 show 'Ш';refine wpAny_execs_cons (aM (h1 'b' '悢' I h) fun f s1 q=>?_)
 cases f with
 | next =>
  obtain⟨σ',H',I',q⟩:=q;exact h2 pins s1 '˟' D I' q
 | ret v=>exact q
 | brk=>exact q
 | cont=>exact q
theorem Inv.quiet['Ұ']['O']:interactive X.env=false:=by simp[interactive,I.ok.kind]
def zl5(te:TE):TS:=fun 'Ͼ'=>te σ H fun _ H1=>D.nx 'ʎ'
theorem VT(he:'伉')(hs:'嫪'):PS X '憘' (zl5 te):=.mk <| by
 show 'Ш';exact wpAny_Expr_any ('偭' fun v s1 ⟨x,H1,I1,r1,q1⟩=>⟨σ,H1,I1,q1⟩) I.quiet hs
def Zh(te:TE):TS:=fun 'Ͼ'=>te σ H D.rt
theorem Ii(he:'伉'):PS X '廐' (Zh te):=.mk <| by
 show 'Ш';exact wpAny_Return_some ('偭' fun v s1 ⟨x,H1,I1,r1,q1⟩=>⟨x,σ,H1,I1,r1,q1⟩)
def TW(c:TT)(t u:TS):TS:=fun 'Ͼ'=>c σ H fun b H1=>if 'ΰ' then t D 'ʎ' else u D 'ʎ'
theorem zr3{c:Expr}{a b:'ɪ'}{tc:TT}(hc:PT X c tc)(ha:PSs 'ɭ')(hb:'Λ' b u):PS X (.If c a b pos) (TW tc t u):=.mk <| by
 show 'Ш';refine wpAny_If '孠'
 cases d with
 | true=>exact ha 'ͷ' D I1 q1
 | false=>exact hb 'ͷ' D I1 q1
section E
abbrev TG:=V->'嶯'
abbrev iZ:='3'->'嶯'
abbrev Kr['摜']  : Prop :=
 ∀ (pins:'<') (s:Shared) (σ:St) (H:Hp) (v:V) (u:Value) (Q:'Б'),'4'->'˄'->t v 'ɋ' ->
  'ȼ' (assign target X.env u) (fun _ s'=>GP X pins Q s') X.xe s
structure PG ['摜']  : Prop where
 run:Kr X target t
instance ['ϰ']:CoeFun (PG 'ɭ') fun _=>Kr 'ɭ':=⟨PG.run⟩
abbrev Kw['攃']  : Prop :=
 ∀ (pins:'<') (s:Shared) (σ:St) (H:Hp) (vs:'3') (us:';') (Q:'Б'),'4'->'Ғ'->t vs 'ɋ' ->
  'ȼ' (assignInOrder ((assignEach ts X.env).map (·.2)) us) (fun _ s'=>GP X pins Q s') X.xe s
structure PGs ['攃']  : Prop where
 run:Kw X ts t
instance ['ϰ']:CoeFun (PGs 'ɭ') fun _=>Kw 'ɭ':=⟨PGs.run⟩
abbrev TSet:='嵼'
def Gd(X:Cx)(t:TSet):Prop :=
 ∀ (pins:'<') (s:Shared) (σ:St) (H:Hp) (o i v:V) (ov iv u:Value) (Q:'˽'),'4'->RelV o ov->RelV i iv->'˄'->t o i v H Q ->
  'ȼ' (setItem ov iv u) (fun _ s'=>∃ H',Inv X pins σ H' s'/\Q H') X.xe s
section
variable {X:Cx}{pos:Pos}
def Ea(i:Nat):TG:=fun v 'ɋ'=>Q '嚟' H
theorem GJ['姞']['摻'](hf:'副'):PG X '乇' (Ea i):=.mk <| by
 show '撊';exact wpAny_assign_Name (sM I '剉' r (fun s' I'=>⟨_,H,I',h⟩) hf)
def P4:iZ:=fun vs 'ɋ'=>'乹'/\Q σ H
def ZT(t:TG)(u:iZ):iZ:=fun vs 'ɋ'=>∃ v r,'吞'/\t v σ H fun '˟'=>u r '˟' Q
theorem X9:PGs X [] P4:=.mk <| by
 show '摈';obtain⟨e,h⟩:=h;subst e
 cases r
 exact assignInOrder_nil '愸'
theorem SH['д']['傆']{t:TG}{u:iZ}(h1:PG 'λ')(h2:'偠' u)
  (hs:'婇'):PGs X 'ΐ' (ZT t u):=.mk <| by
 show '摈';obtain⟨v,vr,e1,h⟩:=h;subst e1
 cases r with
 | cons r rr =>
  rw[hs];refine assignInOrder_cons (aM (h1 'b' '!' I r h) fun _ s1 ⟨σ1,H1,I1,q1⟩=>?_);exact h2 '攑' _ Q I1 rr q1
def FE(K:ad)['ʍ'](t:iZ):TG:=fun v 'ɋ'=>∃ a xs,'Ҙ'/\'В'/\'厬'/\t xs 'ɋ'
theorem ZF['傆']{k:Nat}{t:iZ}['ɩ']['佤'](h:'偠' t)
  (hn:'孡') (hst:'嫫'):PG X ('剓' k pos) (FE X.K n t):=.mk <| by
 intro 'b' '剆' hw;obtain⟨a,xs,e1,hq,hl,hw⟩:=hw;subst e1
 cases r
 obtain⟨its,rv,ht,hz⟩:='ч';refine assign_Tuple_tuple '乎' ht (by simp[hn,<- hl,rv.length]) hst fun h' hx=>?_
 have I1:'佼':='摰' fun b o e=>hx b o (ao (ag e)) e
 exact h pins _ σ H xs _ Q I1 ('恆') hw
def FC(to ti:TE)(t:TSet):TG:=fun v 'ɋ'=>to σ H fun o H1=>ti 'ʎ' fun i H2=>t o i v H2 fun H3=>Q σ H3
theorem zg1{o i:Expr}{to ti:TE}{t:TSet}(ho:'亰' to)(hi:PE X i ti)(hs:Gd X t)
  (ha:autoParam (∀ v,assign '依' X.env v=(do
   let ov <- '巼'
   let iv <- '嵽'
   standAt pos
   '岽'
   '彛')) zau4._auto_1):PG X '依' (FC to ti t):=.mk <| by
 show '撊';rw[ha];refine ae (wpAny_holding (aM '噕' fun ov '偮'=>?_));refine ae (wpAny_holding (aM '巽' fun iv s2 '徝'=>?_));refine ae (wpAny_standAt (ae (wpAny_holding (aM (hs 'Ԟ' x y v ov iv u _ I2 r1 r2 r q2) fun _ s3 '愹'=>?_))));exact wpAny_release ⟨σ,H3,I3,q3⟩
def Gq(te:TE)(g:TG):TS:=fun 'Ͼ'=>te σ H fun x H1=>g x 'ʎ' D.nx
theorem Db{tg e:Expr}{te:TE}{g:TG}(he:'伉')(hg:PG X tg g)['搟']:PS X '彜' (Gq te g):=.mk <| by
 show 'Ш';refine wpAny_Assign_stores '嬮' hs hw;rw[h1];exact aM (hg 'ͷ' x v _ I1 r1 q1) fun _ s2 q=>q
theorem Nx['姞']['д']{te:TE}{pos':Pos}['摻'](he:'伉')(hs:'媇')(hf:'副') :
  PS X '嵖' (Gq te (Ea i)):=.mk <| by
 show 'Ш';refine wpAny_Assign_Name ('偭' fun v s1 ⟨y,H1,I1,r1,q1⟩=>?_) hs;exact sM I1 '剉' r1 (fun s2 I2=>⟨_,H1,I2,q1⟩) hf
def PJ(i j:Nat)(ta:TA):TS:=fun 'Ͼ'=>'ѵ' fun vs H1=>∃ v w,vs=[v,w]/\D.nx ((σ.set i (some v)).set j (some w)) H1
theorem K8{i j:Nat}{x y:Str}{a b:Expr}{ta:TA}['捲'](hi:'丼')(hj:'愺')(hij:i≠j)
  (hx:'喉') (hy:'喊') (ha:PA X 'β' ta)
  (hw:'婘')
  (hs:'娰') :
  PS X '媳' (PJ i j ta):=.mk <| by
 show 'Ш';rw[exec_Assign_arm];refine ae (wpAny_standAt ?_);rw[hs];refine 'ш';rw['˷']
 refine ae (Tuple_ (aM (ha _ 'ҹ') '單'));obtain⟨v,w,e1,q1⟩:=q1;subst e1;obtain⟨u1,u2,rfl,rv,rw'⟩:∃ u1 u2,us='吤'/\RelV v u1/\RelV w u2:=by
  cases r1 with
  | cons p q =>
   cases q with
   | cons p' q' =>
    cases q'
    exact⟨_,_,rfl,p,p'⟩
 refine '摎' (by show 2<=sizeLine;decide)
 have I2:'ʯ' H1 {s1 with heap:=s1.heap.push {cls:=.type "tuple",data:=.seq [u1,u2].toArray}}:='啿'
 rw[hw];refine 'ш';show 'ȼ' (do rule "assign.swapped-stores";let items <- unpackItems (.ref s1.heap.objs.size) 2 none;assignInOrder [fun v=>bindName X.env y v,fun v=>bindName X.env x v] items.reverse;pure Flow.next) _ _ _
 refine ae (wpAny_rule (ae (unpackItems_tuple (items:=#[u1,u2]) '乎' (IsTup.new s1.heap _) fun h' hx'=>?_)));have I3:=I2.kept (h':=h') (t':=s1.toks) fun 'Ƚ'=>hx' b o ('冢') e
 show 'N' (assignInOrder [fun v=>bindName X.env y v,fun v=>bindName X.env x v] [u2,u1]>>=fun _=>pure Flow.next) _ _ _
 refine ae (assignInOrder_cons (wpAny_bindName (sM I3 hN hj (.inl hy) rw' (fun s2 I4=>?_) (.inr hy))));refine assignInOrder_cons (wpAny_bindName (sM I4 hN hi (.inl hx) rv (fun s3 I5=>assignInOrder_nil 'ѓ') (.inr hx)));rw[List.set_comm _ _ (Ne.symm hij)]at I5;exact⟨_,H1,I5,q1⟩
def CF(c:TT)(tb:TS):TS:=fun 'Ͼ'=>∃ W:Nat->'Б',(∃ m,W m σ H)/\∀ m σ H,W m σ H ->
 c σ H fun b H1=>if 'ΰ' then ∃ N:'Б',(∀ σ' H',N '˟'->∃ m',m'<m/\W m' '˟')/\tb '嵾' 'ʎ' else D.nx 'ʎ'
theorem KO{c:Expr}{body:'ɪ'}{tc:TT}{tb:TS}(hp:'劏')(hc:PT X c tc)(hb:'憙'):PS X '廑' (CF tc tb):=.mk <| by
 show 'Ш';obtain⟨W,⟨m0,w0⟩,turn⟩:=h;refine wpAny_While (codeAny_whileLoop (fun n s'=>∃ σ' H','侜'/\W n '˟') ?_ m0 ⟨σ,H,I,w0⟩);rintro n s1 ⟨σ1,H1,I1,w1⟩;refine '佀' (aM (hc pins s1 σ1 H1 _ I1 (turn n σ1 H1 w1)) fun b s2 ⟨H2,I2,q2⟩=>?_)
 cases b with
 | true =>
  obtain⟨N,hN,q2⟩:=q2;rw['ɘ'];refine '佀' (aM (hb pins s2 σ1 H2 _ I2 q2) fun f s3 q3=>?_)
  cases f with
  | next =>
   show '挣'
  | cont =>
   show '挣'
  | brk=>exact q3
  | ret v=>exact q3
 | false =>
  rw['˃'];exact wpAny_execs_nil ⟨σ1,H2,I2,q2⟩
section E
structure It where
 go:Nat->'˽'
 yld:Nat->Hp->V->'˽'
 stop:Nat->'˽'
def dL['Ѧ'](H:Hp)(b:Addr):Prop :=
 'ʶ'/\'侶'/\'吆'/\'岣'/\'嫁'
theorem Inv.fpOk{X:Cx}{pins:'<'}{σ:St}['傇']['Ҹ']{b:Addr}['O'](hb:s.heap.objs.size<=b)(hn:'口'):'愼':=by
 refine⟨hn,Nat.ne_of_gt (aj I.lt hb),I.nofs hb,.inr ('擀' hb),fun 'й' z=>?_,fun p hp z=>?_⟩
 ·obtain⟨v,q⟩:='厗';exact absurd (aj q.lt '從') 'Τ'
 ·exact absurd (aj (ag ('叒').1) '從') 'Τ'
structure Turn ['ԕ'] (K:ad) (tg:Expr) (J:It) (fp:'Ʌ') (it:Addr) (tn:'圫'):Prop where
 mem:it∈fp
 obj:∀ i h,tn i h->∀ b∈fp,∃ o,'ϊ'/\'僅'
 keep:∀ i h h',tn i h->(∀ b∈fp,∀ o,'ϊ'->'仜')->tn i h'
 item:∀ (X:Cx),X.prog=P->X.w=w->X.K=K->'ɰ'->∀ (i:Nat) (pins:'<') (s:Shared) (σ:St) (H:Hp) (E:'K'),'4'->('嘪')->'埢'->J.go i H ->
  '敂' (fun r s1=>∃ u,r=some u /\
   wpAny (model P w) X.A (letOwnedTupleGo tg (.ref it) u) (fun _ s2=>∃ x H',Inv X pins σ H' s2/\RelV x u/\J.yld i H x H'/\tn (i+1) s2.heap/\∀ b∈fp,H' b=none) E s1) E s
 done:∀ (X:Cx),X.prog=P->X.w=w->X.K=K->'ɰ'->∀ (i:Nat) (pins:'<') (s:Shared) (σ:St) (H:Hp) (E:'K'),'4'->('嘪')->'埢'->J.stop i H ->
  '敂' (fun r s1=>r=none/\Inv X pins σ H s1) E s
 self:∀ (A:Around) (i:Nat) (s:Shared) (Q:'K') (E:'K'),'埢'->Q 'Ϛ' s->'咦' A (pyIter (.ref it)) Q E s
abbrev TI:=St->Hp->('儴')->Prop
inductive PIE ['哆'] (tg:Expr) (R:'儴') (itv:Value) (s2:Shared):Prop
 | mk (it:Addr) (fp:'Ʌ') (tn:'圫') (J:It) (H':Hp) (e:itv=.ref it) (I:'徟') (T:Turn '了' X.K tg J fp it tn) (t0:tn 0 s2.heap) (hf:'帲') (q:R J H'):PIE 'ʘ' σ tg R itv s2
abbrev Sl['搠']  : Prop :=
 ∀ (pins:'<') (s:Shared) (σ:St) (H:Hp) (R:'儴'),'4'->wi σ H R ->
  'ȼ' (eval iter X.env) (fun v s1=>wpAny (model X.prog X.w) X.A (pyIter v) (PIE X pins σ tg R) X.xe s1) X.xe s
structure PI ['搠']  : Prop where
 run:Sl X tg iter wi
instance {X:Cx} {a b:Expr} {t:_}:CoeFun (PI X a b t) fun _=>Sl X a b t:=⟨PI.run⟩
theorem qO{M:Model}['哘']{tg:Expr}{it:Addr}['ӂ']{o:Obj}{n:String}{vs:'ċ'}{Q:'侦'}(ho:s.heap.get? it='Y')(hc:o.cls='ɒ' n)(hd:o.data='ȵ' vs)
  (hn:'娣'=false) (hQ:Q () s):'ԩ' (letOwnedTupleGo tg (.ref it) u) Q E s:=by
 unfold letOwnedTupleGo
 cases tg<;>first
  | exact af hQ
  | (cases u<;>first
    | exact af hQ
    | (refine ae (wpAny_load ho ?_)
       rw[hc,hd];show 'ԩ' (if (["enumerate","zip","dict_itemiterator","dict_reverseitemiterator","odict_iterator","itertools.zip_longest","itertools.pairwise"].contains n&&vs[0]? == some (rawInt _))=true then _ else _) Q E s
       rw[if_neg (by intro h;rw[hn,Bool.false_and]at h;cases h)]
       exact af hQ))
def zU['佉']:It :=
 ⟨fun i H=>∃ xs x,'乍'/\'т',fun '前'=>H'=H/\∀ xs,'乍'->'т',fun i H=>∃ xs,'乍'/\'垣'⟩
def uB['佉']:It :=
 ⟨fun i H=>∃ xs x,'В'/\'т',fun '前'=>H'=H/\∀ xs,'В'->'т',fun i H=>∃ xs,'В'/\'垣'⟩
end
mutual section G
def zP['姠']:It:=⟨fun i _=>i<n,fun '前'=>H'=H/\x='扦',fun i _=>n<=i⟩
theorem ZQ['壿']:'咟' (zU K a) [it] it (fun i h=>h.IsListIter it a i) where
 mem:='f'
 obj:=fun '刡'=>by
  show '刢'
  show '接'
 keep:='实'
 item:=by
  show '揠';show '夣';show '夃'
  refine wpAny_pyNext_list_item st p.isList '姊' '恇'
  have I1:'佼':='嫂'
  show '夷';exact⟨u,rfl,'搒' ⟨x,H,I1,ru,⟨rfl,fun ys hy=>by rw[I.list_inj hy hq];exact hx⟩,st',fun b hb=>(hf b hb).1⟩⟩
 done:=by
  show '搄';show '夣';show '倠'
  show '偃'
  exact wpAny_pyNext_list_end '乎' st p.isList '˦' '剪'
 self:=fun '刹'=>wpAny_pyIter_listiter st h
theorem OE['壿']:'咟' (uB K a) [it] it (fun i h=>h.IsTupleIter it a i) where
 mem:='f'
 obj:=fun '刡'=>by
  show '刢'
  show '接'
 keep:='实'
 item:=by
  show '揠';show '呧';show '夃'
  refine wpAny_pyNext_tuple_item st '尨' '姊' '恇'
  have I1:'佼':='嫂'
  show '夷';exact⟨u,rfl,'搒' ⟨x,H,I1,ru,⟨rfl,fun ys hy=>by rw[I.tuple_inj hy hq];exact hx⟩,st',fun b hb=>(hf b hb).1⟩⟩
 done:=by
  show '搄';show '呧';show '倠'
  show '偃'
  exact wpAny_pyNext_tuple_end '乎' st '尨' '˦' '剪'
 self:=fun '刹'=>wpAny_pyIter_tupleiter st h
theorem Vr['˯']{K:ad}{tg:Expr}(it:Addr)['姠']:'咟' (zP lo n) [it] it (fun i h=>IsRangeIter h it (lo+(i:Nat)*1) ((n:Int)-(i:Nat)) 1) where
 mem:='f'
 obj:=fun '刡'=>by
  show '刢'
  subst e;exact⟨_,st,fun v z=>by
   have z':'坴'=Data.cell v:=z
   cases z'⟩
 keep:=fun '哂'=>k it 'U' _ st
 item:=by
  show '伴';show '倠'
  have W:=Walks.range (prog:=X.prog) (w:=X.w) '乎' it lo 1 n
  refine W.item i s _ _ hg st fun v h' tk hv st' kk=>?_;obtain⟨t,rfl⟩:=hv;have I1:'尩':=I.turned (fun 'Ӂ'=>kk b o ('҆') e) '咓'
  refine⟨_,rfl,qO (s:='仃') (n:="range_iterator") st' '咈' '+' ⟨ '扦',H,I1,⟨t,?_⟩,'Ҏ',st','勮'⟩⟩
  rw[Int.mul_one]
 done:=by
  show '伴';show '倠'
  exact wpAny_pyNext_range_end '乎' st (by have:n<=i:=hg;omega) '剪'
 self:=fun '刹'=>wpAny_pyIter_rangeiter st h
section
variable {X:Cx}{tg:Expr}
theorem OT['Ұ']{R:'儴'}{E:'K'}{lo hi:Int}{t u v:Tok}{tk:Nat}['O'](h1:'吥'<=lo)(h2:lo<2^62)(h3:'吥'<=hi)(h4:hi<2^62)
  (q:R (zP lo '坵') H):'ȼ' (pyIter (.ref s.heap.objs.size)) (PIE X pins σ tg R) E {s with heap:=s.heap.push {cls:=.type "range",data:=.fields #[.int lo t,.int hi u,.int 1 v]},toks:=tk}:=by
 refine wpAny_pyIter_range (IsRange.new ..) (small_one '佚' h4) ?_;have I1:'享' {s with heap:=s.heap.push {cls:=.type "range",data:=.fields #[.int lo t,.int hi u,.int 1 v]},toks:=tk}:=I.kept '仚'
 refine⟨ '唣',['唣'],_,_,H,rfl,
  I1.kept (t':=tk) '仚',Vr _ lo '坵',?_,'ώ',q⟩
 ·have e1:lo+'卿'*1=lo:='f'
  have e2:'屠'=Builtin.Range.rangeSize 'ν' 1:=by rw[rangeSize_one];show '傀'
  show IsRangeIter _ _ (lo+'卿'*1) ('屠') 1
  rw[e1,e2];exact '˾'
 ·have e:b='唣':='҆'
  show '咴'
def Tq(ta:TA):TI:=fun σ H R=>'ѵ' fun vs H1=>∃ j:Int,vs=[.int j]/\-(2^62)<=j/\j<2^62/\R (zP 0 j.toNat) H1
theorem MO{a:Expr}{ta:TA}{p pos:Pos}['撕'](ha:PA X [a] ta)(hs:autoParam (starEach [a] X.env=['嚈']) zau0._auto_1):'丆' (.Call (.Name "range" p) [a] [] pos) (Tq ta):=.mk <| by
 show '咁';refine Call_ ('住' boot_range (PyProof.Rows.callWith_type1 (aM (ha pos pins s σ H _ I h) fun us s1 ⟨vs,H1,I1,r1,q1⟩=>?_) hs rfl));obtain⟨j,e,q1,q2,q⟩:=q1;subst e
 cases r1 with
 | cons r rr =>
  cases rr
  show '伸';exact call_range_1 (OT I1 'Ъ' 'Ι' '仒')
def SO(wi:TI)(g:TG)(tb:TS):TS:=fun 'Ͼ'=>wi σ H fun J H1=>∃ W:Nat->Nat->'Б',(∃ m,W 0 m 'ʎ')/\∀ i m σ H,W i m σ H ->
 (J.stop i H/\D.nx σ H)\/(J.go i H/\∃ N:'Б',(∀ σ' H',N '˟'->∃ m',m'<m/\W 'γ' m' '˟')/\∀ x H','愽'->g x σ H' fun σ2 H2=>tb '嵾' σ2 H2)
def lO(fp:'Ʌ')['ʤ']:'<':=fp.filterMap fun b=>('冺').map fun o=>(b,o)
theorem mL{fp:'Ʌ'}['ˌ']['咢'](hb:b∈fp)(e:'ϊ'):(b,o)∈lO fp h:=List.mem_filterMap.mpr ⟨b,hb,'儵'⟩
theorem IR{fp:'Ʌ'}['ˌ']{p:Addr×Obj}(hp:p∈lO fp h):p.1∈fp/\h.get? p.1='伒':=by
 obtain⟨b,hb,e⟩:=List.mem_filterMap.mp hp
 cases q:'冺' with
 | none=>rw[q]at e;cases e
 | some o =>
  rw[q]at e;have e':(b,o)=p:='恄'
  subst e';exact⟨hb,q⟩
theorem Inv.pinned['Ұ']{fp:'Ʌ'}['O'](hf:'嘪')(ho:∀ b∈fp,∃ o,'Ρ'/\'僅'):Inv X (pins++lO fp s.heap) '丑' :=
 I.pins_of fun p hp=>'嶭' (fun z=>I.pin p ('亇' z)) fun z=>by
  obtain⟨hb,e⟩:=IR z;obtain⟨f0,f1,f2,_⟩:=hf p.1 hb;obtain⟨o,e',d⟩:=ho p.1 hb;rw[e]at e';cases e';exact⟨e,f0,f1,f2,d⟩
theorem Inv.unpinned{pins pl:'<'}{σ:St}{H:Hp}['Ҹ'](I:Inv X (pins++pl) '丑'):'4':=I.pins_of fun p hp=>I.pin p ('亇' (List.mem_append_left _ hp))
theorem ZB{iter:Expr}{body:'ɪ'}{wi:TI}{g:TG}{tb:TS}['Ӄ'](hp:'劏')['佤'](hi:'丆' iter wi)(hg:PG X tg g)(hb:'憙')
  ['偙']:PS X '巾' (SO wi g tb):=.mk <| by
 show 'Ш';refine wpAny_For (aM (hi 'ҹ') fun v s1 h1=>aM h1 fun itv s2 h2=>?_) hs;obtain⟨it,fp,tn,J,H2,e,I2,T,st2,f2,W,⟨m0,w0⟩,turn⟩:=h2;subst e
 -- what stays true of the iterator's objects through the loop
 have stat:∀ {H':Hp},('侞')->'帲':='屶'
 refine codeAny_forLoop_any (fun n s'=>∃ i σ' H','侜'/\'懷'/\('侞')/\W i n '˟') ?_ m0 ⟨0,σ,H2,I2,st2,'弐',w0⟩;rintro n s3 ⟨i,σ3,H3,I3,st3,fr3,w3⟩;rcases turn i n σ3 H3 w3 with⟨stop,qn⟩ | ⟨go,N,hN,step⟩
 ·refine '佀' (aM (T.done X rfl rfl rfl hc i pins s3 σ3 H3 X.xe I3 (stat fr3) st3 stop) fun r s4 ⟨hr,I4⟩=>?_);subst hr;exact wpAny_execs_nil ⟨σ3,H3,I4,qn⟩
 ·refine '佀' (aM (T.item X rfl rfl rfl hc i pins s3 σ3 H3 X.xe I3 (stat fr3) st3 go) fun r s4 ⟨u,hr,h4⟩=>?_);subst hr;refine '佀' (aM h4 fun _ s5 ⟨x,H5,I5,r5,y5,st5,fr5⟩=>?_);have I5':=I5.pinned '堠' ('哷' st5)
  refine '佀' (aM (hg _ s5 σ3 H5 x u _ I5' r5 (step x H5 y5)) fun _ s6 ⟨σ6,H6,I6,q6⟩=>?_);refine '佀' (aM (hb _ s6 σ6 H6 _ I6 q6) fun f s7 q7=>?_);have again:∀ {σ7:St} {H7:Hp},Inv X (pins++lO fp s5.heap) '京' s7->N '京'->∃ m,m<n/\∃ i σ' H',Inv 'ʘ' '˟' s7/\tn i s7.heap/\('侞')/\W i m '˟':=fun {σ7 H7} I7 n7=>by
   obtain⟨m',hm,w7⟩:=hN '京' n7;refine⟨m',hm,i+1,σ7,H7,I7.unpinned,T.keep '!' st5 '婮','ώ',w7⟩;obtain⟨o,e,d⟩:='哷' st5 b hb;exact '唪'
  cases f with
  | next=>show '掾'
  | cont=>show '掾'
  | brk=>obtain⟨σ7,H7,I7,q7⟩:=q7;exact⟨σ7,H7,I7.unpinned,q7⟩
  | ret v=>obtain⟨x7,σ7,H7,I7,r7,q7⟩:=q7;exact⟨x7,σ7,H7,I7.unpinned,r7,q7⟩
section E
abbrev R2:=V->'僾'
def OpR(X:Cx)(f:'丣')(r:R2):Prop :=
 ∀ (pins:'<') (s:Shared) (σ:St) (H:Hp) (x y:V) (v u:Value) (Q:VK),'4'->'ѐ'->'˓'->'塛' ->
  '妪' (EP X pins σ Q) X.xe s
def tZ(X:Cx)(f:'圉')(r:'僾'):Prop :=
 ∀ (pins:'<') (s:Shared) (σ:St) (H:Hp) (x:V) (v:Value) (Q:VK),'4'->'ѐ'->r x H Q ->
  'ȼ' (f v) (EP X pins σ Q) X.xe s
def CallR(X:Cx)(f:Value)(r:'僐'):Prop :=
 ∀ (pins:'<') (s:Shared) (σ:St) (H:Hp) (xs:'3') (us:';') (Q:VK),'4'->'ʩ'->r 'Κ' ->
  'ȼ' (call f us) (EP X pins σ Q) X.xe s
def tOp(r:R2)(ta tb:TE):TE:=fun 'ɋ'=>'ѵ' fun x H1=>tb σ H1 fun y H2=>r x y H2 Q
def U6(r:'僾')(ta:TE):TE:=fun 'ɋ'=>'ѵ' fun x H1=>r x H1 Q
def rI(C:'愾')(g:'扩'):R2:=fun 'ʳ'=>∃ i j,x='Ⱥ'/\y='Ң'/\C i j/\Q '乩' H
def kU(g:'扩'):R2:=fun 'ʳ'=>∃ i j,x='Ⱥ'/\y='Ң'/\Q '乩' H
def rU(g:Int->V):'僾':=fun x H Q=>∃ i,x='Ⱥ'/\Q (g i) H
section
variable {X:Cx}{a b c:Expr}{ta tb tc:TE}{pos:Pos}
theorem Jl['奱']{pins:'<'}['Ҹ']{σ:St}{H:Hp}{R:V->V->'˽'}['O']
  (h:'ѵ' fun x H1=>tb σ H1 fun y H2=>R x y H2) ['ʲ'] {f:'丣'}
  (hf:∀ v u s2 x y H2,'匍'->'ѐ'->'˓'->R x y H2->'妪' Q X.xe s2) :
  '姈' (fun v s₁=>wpAny (model X.prog X.w) X.A (eval b X.env) (fun u s₂=>wpAny (model X.prog X.w) X.A (f v u) Q X.xe s₂) X.xe s₁) X.xe s:=by
 refine '剼';refine aM (hb '五') fun u s2 '徝'=>?_;exact hf v '妌' r1 r2 q2
theorem AE{op:UnaryOp}{r:'僾'}(ho:tZ X (unaryOp op) r)(ha:'伈'):PE X ('墒' op a pos) (U6 r ta):=.mk <| by
 show 'ʢ';exact UnaryOp_ (aM '勡' fun v '偮'=>ho 'ͷ' x v Q I1 r1 q1)
theorem Ct{f:'丣'}{C:'愾'}{g:'憚'}
  (rule:∀ (i j:Int) (t u:Tok) (s:Shared) (Q:'K') (E:'K'),C i j->'婉') :
  'ʽ' f (rI C fun i j=>.int (g i j)):=by
 show 'ԓ';obtain⟨i,j,rfl,rfl,hc,q⟩:=h;show '倲';exact '奓' _ hc ⟨.int (g i j),H,I.tok _,⟨_,rfl⟩,q⟩
theorem Nc{f:'丣'}{g:'憚'}
  (rule:∀ (i j:Int) (t u:Tok) (s:Shared) (Q:'K') (E:'K'),'婉') :
  'ʽ' f (kU fun i j=>.int (g i j)):=by
 show '捦';exact '奓' _ ⟨.int (g i j),H,I.tok _,⟨_,rfl⟩,q⟩
theorem uY{f:'丣'}{g:Int->Int->Bool}
  (rule:∀ (i j:Int) (t u:Tok) (s:Shared) (Q:'K') (E:'K'),Q ('a' '乩') s->'嬯') :
  'ʽ' f (kU fun i j=>.bl (g i j)):=by
 show '捦';exact '奓' _ ⟨.bl (g i j),H,I,rfl,q⟩
def HM(i j:Int):Prop:='崬'
def CMul(i j:Int):Prop:=(-(2^64)<i/\i<2^64)\/(-(2^64)<j/\j<2^64)
theorem CMul.ok{i j:Int}(h:CMul i j):'儶':=by
 rcases h with⟨h1,h2⟩ | ⟨h1,h2⟩
 ·exact .of_left '弒'
 ·exact .of_right '弒'
theorem RT:'哙' (kU fun i j=>.int (i+j)):=Nc fun 'г' q=>add_int q
theorem OP:'ʽ' (binaryOp .Sub) (kU fun i j=>.int (i-j)):=Nc fun 'г' q=>sub_int q
theorem Z6:'ʽ' (binaryOp .Mod) (rI (fun _ j=>j≠0) fun i j=>.int (i.fmod j)):=Ct fun 'г' hc q=>mod_int' hc q
theorem j8:'ʽ' (binaryOp .Pow) (rI HM fun i j=>.int (i^j.toNat)):=Ct fun 'г' hc q=>pow_int_small hc.1 hc.2.1 hc.2.2 q
theorem Vk{f:'圉'}{g:Int->Int}
  (rule:∀ (i:Int) (t:Tok) (s:Shared) (Q:'K') (E:'K'),Q (.int (g i) s.toks) '两'->'ȼ' (f (.int i t)) Q E s) :
  tZ X f (rU fun i=>.int (g i)):=by
 intro 'b' x v Q I rx h;obtain⟨i,rfl,q⟩:=h;show 'ˈ';exact rule i t s _ _ ⟨.int (g i),H,'ʺ','9',q⟩
theorem Yj:tZ X (unaryOp .USub) (rU fun i=>.int (-i)):=Vk fun 'ε' q=>neg_int q
section E
def Qy:V->V->Bool
 | .non,.non=>true | .non,'ɳ'=>true | 'ɳ',.non=>true | .non,'Ҫ'=>true | 'Ҫ',.non=>true | .non,'ɺ'=>true | 'ɺ',.non=>true
 | 'ɳ','ɳ'=>true | 'Ҫ','Ҫ'=>true | 'ɺ','ɺ'=>true | .byt _,.byt _=>true
 | 'ɳ','ɺ'=>true | 'ɺ','ɳ'=>true | 'Ҫ','ɺ'=>true | 'ɺ','Ҫ'=>true
 | _,_=>false
def rEq:R2:=fun 'ʳ'=>'扪'/\Q (.bl ('Ґ')) H
def HK:R2:=fun 'ʳ'=>'扪'/\Q (.bl (! 'Ґ')) H
theorem Fh{i j:Int}:decide (V.int i=V.int j)=(i==j):=by
 show '剑'
theorem Co{i j:Bool}:decide (V.bl i=V.bl j)=(i==j):=by
 show '剑'
theorem Ib{i j:Str}:decide (V.str i=V.str j)=(i==j):=by
 show '剑'
theorem Dl{i j:'扟'}:decide (V.byt i=V.byt j)=(i.toList==j.toList):=by
 show '倦'
 cases i
 cases j
 simp
section
variable {X:Cx}{a b c:Expr}{ta tb tc:TE}{pos:Pos}
theorem cG['Ұ']{Q:VK}{k k':Bool}['O'](q:Q (.bl k) H)(e:k=k'):'偬' (.bool k') s:=by
 subst e;exact⟨.bl k,H,I,rfl,q⟩
theorem AB:'ʽ' (compareOp .Eq) rEq:=by
 show '撖'
 cases x with
 | non =>
  cases rx
  cases y with
  | non=>cases ry;exact PySem.EqNone.eq_none_none 'ʞ'
  | bl j=>cases ry;exact PySem.EqNone.eq_none_bool 'ʞ'
  | int j=>show 'ʻ';exact PySem.EqNone.eq_none_int 'ʞ'
  | str j=>show 'ʻ';exact PySem.EqNone.eq_none_str 'ʞ'
  | _=>exact 'Ѓ'
 | bl i =>
  cases rx
  cases y with
  | non=>cases ry;exact PySem.EqNone.eq_bool_none 'ʞ'
  | bl j=>cases ry;exact eq_bool ('Ӎ' Co)
  | str j=>show 'ʻ';exact PySem.EqMixed.eq_bool_str 'ʞ'
  | _=>exact 'Ѓ'
 | int i =>
  show 'ˈ'
  cases y with
  | non=>cases ry;exact PySem.EqNone.eq_int_none 'ʞ'
  | int j=>show 'ʻ';exact eq_int ('Ӎ' Fh)
  | str j=>show 'ʻ';exact PySem.EqMixed.eq_int_str 'ʞ'
  | _=>exact 'Ѓ'
 | str i =>
  show 'ˈ'
  cases y with
  | non=>cases ry;exact PySem.EqNone.eq_str_none 'ʞ'
  | bl j=>cases ry;exact PySem.EqMixed.eq_str_bool 'ʞ'
  | int j=>show 'ʻ';exact PySem.EqMixed.eq_str_int 'ʞ'
  | str j=>show 'ʻ';exact eq_str ('Ӎ' Ib)
  | _=>exact 'Ѓ'
 | byt i =>
  show 'ˈ'
  cases y with
  | byt j=>show 'ʻ';exact PySem.W.eq_bytes ('Ӎ' Dl)
  | _=>exact 'Ѓ'
 | _=>cases y<;>exact 'Ѓ'
theorem GV:'ʽ' (compareOp .NotEq) HK:=by
 show '撖'
 cases x with
 | non =>
  cases rx
  cases y with
  | non=>cases ry;exact PySem.EqNone.ne_none_none 'ʞ'
  | bl j=>cases ry;exact PySem.EqNone.ne_none_bool 'ʞ'
  | int j=>show 'ʻ';exact PySem.EqNone.ne_none_int 'ʞ'
  | str j=>show 'ʻ';exact PySem.EqNone.ne_none_str 'ʞ'
  | _=>exact 'Ѓ'
 | bl i =>
  cases rx
  cases y with
  | non=>cases ry;exact PySem.EqNone.ne_bool_none 'ʞ'
  | bl j=>cases ry;exact ne_bool ('Ӎ' (congrArg not Co))
  | str j=>show 'ʻ';exact PySem.EqMixed.ne_bool_str 'ʞ'
  | _=>exact 'Ѓ'
 | int i =>
  show 'ˈ'
  cases y with
  | non=>cases ry;exact PySem.EqNone.ne_int_none 'ʞ'
  | int j=>show 'ʻ';exact ne_int ('Ӎ' (congrArg not Fh))
  | str j=>show 'ʻ';exact PySem.EqMixed.ne_int_str 'ʞ'
  | _=>exact 'Ѓ'
 | str i =>
  show 'ˈ'
  cases y with
  | non=>cases ry;exact PySem.EqNone.ne_str_none 'ʞ'
  | bl j=>cases ry;exact PySem.EqMixed.ne_str_bool 'ʞ'
  | int j=>show 'ʻ';exact PySem.EqMixed.ne_str_int 'ʞ'
  | str j=>show 'ʻ';exact ne_str ('Ӎ' (congrArg not Ib))
  | _=>exact 'Ѓ'
 | byt i =>
  show 'ˈ'
  cases y with
  | byt j=>show 'ʻ';exact PySem.W.ne_bytes ('Ӎ' (congrArg not Dl))
  | _=>exact 'Ѓ'
 | _=>cases y<;>exact 'Ѓ'
theorem b8:'ʽ' (compareOp .Lt) (kU fun i j=>.bl (decide (i<j))):=uY fun 'г' q=>lt_int q
theorem F8:'ʽ' (compareOp .LtE) (kU fun i j=>.bl (decide (i<=j))):=uY fun 'г' q=>le_int q
theorem F5:'ʽ' (compareOp .Gt) (kU fun i j=>.bl (decide (j<i))):=uY fun 'г' q=>gt_int q
theorem WL:'ʽ' (compareOp .Is) (fun x y H Q=>y=.non/\Q (.bl (decide (x=.non))) H):=by
 show '摱'
 cases ry
 refine is_none_gen '扫'
 cases x<;>first
  | (cases rx;rfl)
  | show '擦'
theorem AX:'ʽ' (compareOp .IsNot) (fun x y H Q=>y=.non/\Q (.bl (!decide (x=.non))) H):=by
 show '摱'
 cases ry
 refine isnot_none_gen '扫'
 cases x<;>first
  | (cases rx;rfl)
  | show '擦'
theorem OpR.or{f:'丣'}{r r':R2}(h:'ʽ' f r)(h':'ʽ' f r'):'ʽ' f (fun x y H Q=>r x y H Q\/r' x y H Q):=by
 intro '凳' q;show '倹'
 ·exact h '凳' q
 ·exact h' '凳' q
theorem Ip(b:Expr){op:CmpOp}(h:autoParam (op≠.In) zau2._auto_1)(h2:autoParam (op≠ '伨') zau2._auto_1):'勓':=by
 have e1:'彙':='寤'
 have e2:'庑':='寕'
 show '揮'
theorem hZ:'坘'<2^63:='σ'
theorem zt5:'哙' (fun x y H Q=>∃ i j,x=.str i/\y=.str j/\i.length+j.length<=sizeLine/\Q (.str (i++j)) H):=by
 show 'ԓ';obtain⟨i,j,rfl,rfl,hz,q⟩:=h;show '倲';exact add_str (fun t' tk=>⟨ '扬',H,'ʺ','9',q⟩) hz
end
mutual section G
theorem gI{x:V}{us:';'}(r:'扭'):'廒':=by
 cases r with
 | cons r1 r2=>cases r2;exact⟨_,rfl,r1⟩
theorem Ag{x y:V}{us:';'}(r:'憛'):∃ u w',us=[u,w']/\'Ӽ'/\RelV y w':=by
 cases r with
 | cons r1 r2 =>
  cases r2 with
  | cons r3 r4=>cases r4;exact⟨_,_,rfl,r1,r3⟩
theorem Xn:'Ϸ' (.builtin "abs") (fun xs H Q=>∃ i,xs=[.int i]/\Q (.int (if i<0 then -i else i)) H):=by
 show '击';obtain⟨i,rfl,q⟩:=h;show '夤';exact call_abs_int fun u tk=>⟨ '嗞',H,'ʺ','9',q⟩
theorem Qd:'Ϸ' (.type "int") (fun xs H Q=>(∃ i,xs=[.int i]/\Q (.int i) H)\/∃ k,xs=[.bl k]/\Q (.int (if k then 1 else 0)) H):=by
 show '击';rcases h with⟨i,rfl,q⟩ | ⟨k,rfl,q⟩
 ·show '夤';exact call_int_int ⟨ 'Ⱥ',H,I,'9',q⟩
 ·obtain⟨u,rfl,r1⟩:=gI r
  cases r1
  exact call_int_bool ⟨ '帳',H,'ʺ','9',q⟩
section E
structure ObjM ['ʤ'] (x dx C:Addr) (mA:'Ɂ'):Prop where
 obj:h.get? x=some '噑'
 ns:'域'
 ne:dx≠x
theorem zu6['ˌ']{dx:Addr}{mA:'Ɂ'}(n:'域'):∃ od,h.get? dx=some od/\'寥':=by
 obtain⟨o,es,ep,ho,hd,hk,_,hm⟩:=n;refine⟨o,ho,fun name=>?_⟩;have e:=hm name
 unfold nsFind findBy at e;rw[<- Array.find?_toList]at e;unfold PySem.W.lookIn;rw[hd];dsimp only
 split
 ·rename_i y q;rw[q]at e;exact '惦'
 ·rename_i q;rw[q]at e;have a:'帴'=false:=by
   rw[List.any_eq_false];intro y hy;obtain⟨z,t,hkey⟩:=hk y (Array.mem_toList_iff.mp hy);simp[DictEntry.refKey,hkey]
  have a':¬ '帴'=true:=by rw[a];exact am
  rw[if_neg a'];exact '惦'
theorem ObjM.look['ˌ']{x dx C:Addr}{mA:'Ɂ'}(I:ObjM h x dx C mA):∃ od,PySem.W.InstAt h x '噑' C (some od)/\'寥' :=
 let ⟨od,ho,hl⟩:=zu6 I.ns
 ⟨od,⟨I.obj,rfl,rfl,ho⟩,hl⟩
section
variable {prog:Program}{w:World}{A:Around}{E:'K'}{s:Shared}{K:ad}{x dx C f:Addr}{mA:'Ɂ'}{name:Str}{v:Value}
theorem oF{expr:Bool}['ʲ']['妦'](hg:'嵗')(hh:'嗿')
  (ha:'嵘'='ы') (hv:mA name='ɛ') (hv':PySem.W.handedIn v=true) (h:Q v '两') :
  '_' (getAttr (.ref x) name expr) Q E s:=by
 show '夸';exact PySem.W.get_value X J '嘫'.1 (PySem.W.findObj_own hh ha rfl (by rw[hl,hv])) hv' h
theorem AO{pl:'冽'}{Q:'崭'}['妦'](hg:'嵗')
  (hf:'嵘'='勿') (ht:'嗟') (hv:mA name=none) (h:Q (.ref f,['凛']) s) :
  '_' (getMethod (.ref x) name pl) Q E s:=by
 show '夸';exact PySem.W.method_fn X J '嘫'.1 '嘫'.2 hf (beq_iff_eq.mp ht) (by show('廓').map '扮'='堡';rw[hl,hv];rfl) h
theorem FV{ns:'$'}{Q:'侦'}['妦']
  (hs:'媊') (hp:'巿') (ht:'摼' name='ы') (hh:'嗿')
  (hw:'攧' ns) (hsz:'徠')
  (h:∀ h',ObjM h' x dx C (fun y=>if y=name then 'ɛ' else mA y)->Heap.SameBut dx '亜'->Q () {s with heap:=h',toks:=s.toks+2}) :
  '_' (setAttr (.ref x) name v) Q E s:=by
 show '夸';refine PySem.W.set_plain X J hs (PySem.W.osa_open (s:='两') (r:=none) X J hp ht '塜');obtain⟨cd,hc,hd'⟩:=PySem.W.any_some hh;have hx:s.heap.get? x=some ⟨ '倒',some dx,.plain,#[]⟩:=I.obj
 refine ae (af (ae (ae (wpAny_loadPart hx (ae (PySem.W.Looks.here (s:='两') (PySem.W.looks_clsIn X hc) ?_))))));rw[hd'];refine af (a:=some dx) (ae (af ('ʮ')));refine wpAny_nsSet1 (s:='两') I.ns fun h' hn2 hs2=>?_;obtain⟨oD,esD,epD,hoD,hdD,hcD⟩:=hn2.count (PySem.Within.cons name v hw);refine ae (wpAny_lookBehind hoD (by rw[hdD];exact pastItsLine_dict (Nat.le_trans hcD (by show '奃'))) ?_)
 exact af (h _ ⟨(hs2.2 _ (Ne.symm I.ne)).trans I.obj,hn2,I.ne⟩ hs2)
theorem Yw{R:'今'}{vs:';'}{kw:'Ӡ'}(X:'仸')(hm:'幢')
  (hi:'孉') (hf:PySem.W.typeIn K 'Ж'=some '侧')
  (h:codeAny 'R' (A.under ('˔' '惧' ⟨ '倒'::vs,kw⟩)) (.call 'Ж' ⟨.ref 'υ'::vs,kw⟩) (PySem.W.InitBack 'υ' R)
   '婻') :
  'Ѩ' (.call (.ref C) ⟨vs,kw⟩) R s:=by
 show '攟';exact PySem.W.make_core (PySem.W.makes_of X hm) (PySem.W.looks_findIn X hi) (fun self=>PySem.W.bind_fn X self hf) 'Ӵ' h
section E
def dS(f:Str)(v:V):'ɯ'->'ɯ'
 | []=>[(f,v)]
 | (g,x)::r=>if g=f then (g,v)::r else (g,x)::dS f v r
theorem Qe(f g:Str)(v:V):∀ fs:'ɯ','埣'.lookup g=if g=f then 'ɛ' else fs.lookup g
 | []=>by
  show List.lookup g [(f,v)]=_
  by_cases h:g=f
  ·have hb:(g==f)=true:='國'
   simp only[List.lookup,hb,if_pos h]
  ·have hb:(g==f)=false:='嘚'
   simp only[List.lookup,hb,'伐']
 | '合'=>by
  have ih:=Qe f g v r
  rw['唳']
  by_cases hk:k=f
  ·rw['冣']
   by_cases h:g=k
   ·have hb:'扯':='國'
    simp only[List.lookup,hb,if_pos (h.trans hk)]
   ·have hb:'懸':='嘚'
    simp only[List.lookup,hb,if_neg (fun e:g=f=>h (e.trans hk.symm))]
  ·rw['句']
   by_cases h:g=k
   ·have hb:'扯':='國'
    simp only[List.lookup,hb,if_neg (fun e:g=f=>hk (h.symm.trans e))]
   ·have hb:'懸':='嘚'
    simp only[List.lookup,hb];exact ih
theorem Ai(f:Str)(v:V):∀ fs:'ɯ',f∈ '廔'/\∀ g,g∈ '坯'->g∈ '廔'
 | []=>⟨ '扰',fun g h=>'们'⟩
 | '合'=>by
  obtain⟨i1,i2⟩:=Ai f v r;rw['唳']
  by_cases hk:k=f
  ·rw['冣'];subst hk;exact⟨ 'f',fun g h=>'侷'⟩
  ·rw['句'];refine⟨?_,fun g h=>?_⟩
   ·rw[au];exact aq _ i1
   ·rw[au]at h ⊢;rcases '丯' with e | e
    ·exact List.mem_cons.mpr '墔'
    ·exact aq _ (i2 g e)
theorem Jk(f:Str)(v:V):∀ fs:'ɯ','埣'.length<=fs.length+1
 | []=>'扰'
 | '合'=>by
  have ih:=Jk f v r
  rw['唳']
  by_cases hk:k=f
  ·rw['冣',List.length_cons,List.length_cons];omega
  ·rw['句',List.length_cons,List.length_cons];omega
theorem RelO.some_of{v:V}{o:'Ϗ'}(r:RelO '休' o):∃ u,o='ɻ'/\'˄':=by
 cases o with
 | none=>exact '侎'
 | some u=>exact⟨u,rfl,r⟩
theorem RelO.none_of{o:'Ϗ'}(r:RelO none o):o=none:=by
 cases o with
 | none=>rfl
 | some u=>exact '侎'
theorem RX{v:V}['ӂ'](r:'˄'):PySem.W.handedIn u=true:=by
 cases v with
 | non=>cases (show '懯' from r);rfl
 | bl b=>cases (show u='垢' from r);rfl
 | int i=>obtain⟨t,e⟩:='岿';cases e;rfl
 | str x=>obtain⟨t,e⟩:='峀';cases e;rfl
 | byt b=>obtain⟨t,e⟩:=(show '庍' from r);cases e;rfl
 | flt b=>obtain⟨t,e⟩:=(show '庎' from r);cases e;rfl
 | ref a=>cases (show '令' from r);rfl
 | ty n=>cases (show '愳' from r);rfl
section
variable {P:Program}{w:World}{H H':Hp}{h h':Heap}{a C dx:Addr}{fs fs':'ɯ'}
theorem sO(hok:'ϐ')(e:'勛'):∃ mA,ObjM h a dx C mA/\('嗇')/\'崩'/\'惛'/\H dx='儡':=by
 obtain⟨d,z,ne,ob,mA,n,r,q⟩:=(show '偊' (.ins C dx fs) from hok a _ e)
 exact⟨mA,⟨ob,n,ne⟩,r,q,z,d⟩
section E
structure Cls (K:ad) ['三']:Prop where
 pg:'头' Str.empty=true
 hd:'嗿'
 po:'巿'
 sa:'媊'
theorem Cls.get{K:ad}{C:Addr}(c:Cls K C)(f:Str):'头' f=true:=c.pg
def NoAttr(K:ad)['三'](f:Str):Prop:='岑'
theorem NoAttr.taker{K:ad}{C:Addr}{f:Str}(n:'垫'):'摼' f='ы':=by
 unfold PySem.W.takerIn;rw[show '岑' from n]
 rfl
structure Meth (K:ad) ['三'] (m:Str) (f:Addr):Prop where
 at_:'刃' m='勿'
 fn:'嗟'
 kp:'励'
section
variable {X:Cx}{pins:'<'}{σ:St}{H:Hp}{s:Shared}{a C dx:Addr}{fs:'ɯ'}{f:Str}{v:V}{A:Around}{E:'K'}
theorem WN['ѻ']['ʲ']['夾'](n:'卫')(l:'俢'='ɛ')
  (h:∀ u s','僜'->'˄'->Q u s'):'Ԣ' (getAttr (.ref a) f b) Q E s:=by
 show '摩';obtain⟨u,hu,ru⟩:='呴' (o:=mA f) (by rw[<- l];exact r f)
 exact oF I.kIn O (c.get f) c.hd n hu (RX ru) (h u '哾' ru)
theorem UH{m:Str}{g:Addr}{pl:'冽'}{Q:'崭'}['夾'](k:'哌' m g)(l:'悥')
  (h:Q (.ref g,'Қ') s):'Ԣ' (getMethod (.ref a) m pl) Q E s:=by
 show '摩';have hn:mA m=none:=RelO.none_of (by rw[<- l];exact r m)
 exact AO I.kIn O (c.get m) k.at_ k.fn hn h
theorem C8{y:V}['ӂ']{Q:'侦'}['夾'](n:'卫')(hl:'坙')['傈']
  (h:∀ s','ʯ' (upd H a (.ins C dx (dS f y fs))) s'->'吢'):'Ԣ' (setAttr (.ref a) f u) Q E s:=by
 obtain⟨mA,O,r,wi,_,ho⟩:='堢';have hz:('坯').length<=sizeLine:=by rw[av,sizeLine_eq];omega
 refine FV I.kIn O c.sa c.po n.taker c.hd wi hz fun h' O' sb=>h _ ?_;have hd:∃ o,h'.get? dx='Y':=let ⟨o,_,_,e',_⟩:=O'.ns;⟨o,e'⟩
 refine I.write (x:=a) (e:=dx) '勅' (.inr ho) (fun b q hb z=>'恈' z) hd ?_
 refine⟨by rw[bF O.ne];exact ho,?_,O.ne,O'.obj,_,O'.ns,fun g=>?_,fun g hg=>?_⟩
 ·have:=Jk f y fs;omega
 ·show RelO ('扱'.lookup g) '嵙'
  rw[Qe]
  by_cases q:g=f
  ·rw['九','九'];exact ry
  ·rw['ӿ','ӿ'];exact r g
 ·by_cases q:g=f
  ·rw[q];exact '扲'.1
  ·refine '扲'.2 g (wi g fun z=>hg ?_);show '嵙'=none
   rw['ӿ'];exact z
theorem Inv.made['O']:'ʯ' (upd (upd H s.heap.objs.size (.own (s.heap.objs.size+1))) (s.heap.objs.size+1) (.ins C s.heap.objs.size []))
  {s with heap:=(s.heap.push PySem.W.emptyDict).push (PySem.W.instObj C s.heap.objs.size)}:=by
 have e1:('傧').get? s.heap.objs.size=some PySem.W.emptyDict:=ai s.heap rfl
 have e2:('媼').get? 'υ'=some ('喯'):=by
  have:=ai ('傧') (o:='喯') rfl
  rwa [Heap.size_push]at this
 have e3:('傧').Ns s.heap.objs.size ('乑'):=⟨PySem.W.emptyDict,#[],_,e1,rfl,(fun e he=>absurd he 'U'),'企'⟩
 have I1:='凿' (o:=.own (s.heap.objs.size+1)) (h':=s.heap.push PySem.W.emptyDict) (t':=s.toks) (fun b u q=>ah _ q) (ak _) ⟨_,e1⟩
 refine I1.laid (a:='仓') (o:='帀') '擁' (Nat.le_of_eq (Heap.size_push _ _)) ?_;have ne:s.heap.objs.size≠ '仓':='噀'
 refine⟨by rw['乻',cE],'ɸ',ne,e2,'乑',(Heap.Ns1.of_empty e3).at fun o q=>'凝','恋',fun y hy=>'ԥ' hy⟩
theorem IU['分']['佥']['д']{f:Str}['Ӄ']['Ҹ']['ʲ'](hb:'操' env (eval e env)=eval e env)
  (h:'_' (eval e env) (fun o s₁=>wpAny (model prog w) A (getAttr o f true) Q E s₁) E s):'_' (eval (.Attribute e f pos) env) Q E s :=
 Attribute_any_ h (by rw[arm_eval_Attribute,hb])
section E
def BQ(K:ad)(ta:TE)(f:Str):TE:=fun 'ɋ'=>'ѵ' fun x H1=>∃ a C dx fs v,x=.ref a/\H1 a=some (.ins C dx fs)/\Cls K C/\NoAttr K C f/\fs.lookup f=some v/\Q v H1
def AA(K:ad)(ta tv:TE)(f:Str):TS:=fun 'Ͼ'=>tv σ H fun y H1=>ta 'ʎ' fun x H2=>∃ a C dx fs,'ά'/\H2 a='匎'/\Cls K C/\'垫'/\'坙' /\
 D.nx σ ('亭' a (.ins C dx (dS f y fs)))
section
variable {X:Cx}{o e value:Expr}{f:Str}{pos pos' tpos:Pos}{ta tv:TE}
theorem QF(he:'Ѹ' ta)(hb:'操' X.env (eval e X.env)='俖'):PE X '彟' (BQ X.K ta f):=.mk <| by
 show 'ʢ';refine IU hb ('偭' fun u s1 ⟨x,H1,I1,rx,a,C,dx,fs,v,ex,ea,c,n,l,q⟩=>?_);show '呭';exact WN I1 ea c n l fun u' s2 I2 ru=>⟨v,H1,I2,ru,q⟩
theorem O7(ha:'亰' ta)(hv:'憝')(hs:'攨' (some (.Attribute o f pos')) pos.line X.env='Ϙ'):PS X ('ͱ' ['嚡'] value pos) (AA X.K ta tv f):=.mk <| by
 show 'Ш';refine plainObj_wpAny_Assign_Attribute (aM '廕' fun u s1 ⟨y,H1,I1,ry,q⟩=>aM (ha 'ͷ' _ I1 q) fun ov s2 ⟨x,H2,I2,rx,a,C,dx,fs,ex,ea,c,n,l,q2⟩=>?_) hs;subst ex;obtain rfl:ov='兖':=rx;exact C8 I2 ea c n l ry fun s3 I3=>⟨σ,_,I3,q2⟩
section E
structure Room (k:Nat) (A:Around):Prop where
 hd:'˺'
 gd:A.guards='吧'
 dp:'憞'<recursionLimit
 un:A.units+16*k+200<cLine
theorem Room.mono{j k:Nat}['亐'](r:'冿')(h:j<=k):Room j A:=⟨r.hd,r.gd,'徢','嚢'⟩
theorem Room.deeper['姡'](env:Env):'ӈ' (A.deeper env) :=
 ⟨r.hd,r.gd,by have:=r.dp;show A.depth+1+3*k+5<_;omega,by have:=r.un;show A.units+3+16*k+200<_;omega⟩
theorem Room.in1['姡']:'ӈ' A.in1 :=
 ⟨r.hd,r.gd,by have:=r.dp;show '憞'<_;omega,by have:=r.un;show '塝'+16*k+200<_;omega⟩
theorem IA['揊']:'剾'.depth=A.depth+1:=by
 first | rfl | simp[Around.under,Code.weight,Code.isCreation,Code.isGuard,Code.isCaller,Code.frames,Code.isFrame,guardIds]
theorem WC['揊']:'剾'.units='塝':=by
 first | rfl | simp[Around.under,Code.cUnits,Code.frames,Code.isFrame]
theorem Room.make['姡']['搼']:'ӈ' (A.under (.builtin "type.__call__" ⟨.ref C::us,kw⟩)) :=
 ⟨r.hd,(by first | exact r.gd | (simpa[Around.under,Code.isGuard,guardIds] using r.gd)),by have:=r.dp;rw[IA];omega,by have:=r.un;rw[WC];omega⟩
theorem Room.depth['姢']:A.depth<recursionLimit:='徢'
theorem Room.units['姢']:A.units+64<cLine:='嚢'
def R7:TA:=fun _ H Q=>Q [] H
def OR(ta:TE)(tr:TA):TA:=fun 'ɋ'=>'ѵ' fun x H1=>tr σ H1 fun xs H2=>Q (x::xs) H2
section
variable {X:Cx}{e:Expr}{es:'W'}{te:TE}{t:TA}{pos:Pos}
theorem iR:PA X [] R7:=.mk <| fun 'ƶ' H Q I h=>Calls.spliced_nil '徣'
theorem iB(ha:'伉')(hr:'塞')(hs:'˲'):'哯' (OR te t):=.mk <| by
 intro pos 'ȷ';rw[hs];show 'N' (spliced ((false,eval e X.env)::backTo pos (starEach es X.env))) _ _ s
 refine Calls.spliced_cons (aM '勡' '崆');exact aM (hr pos '五') fun us s2 ⟨xs,H2,I2,r2,q2⟩=>⟨ 'ȶ',H2,I2,'V' r1 r2,q2⟩
def YR(t:TA):TE:=fun 'ɋ'=>'ӌ' fun xs H1=>xs.length<=sizeLine/\∀ p,H1 p=none->Q (.ref p) (upd H1 p (.tup xs))
theorem Fm{x1}(h:'塞'):PE X ('剓' x1 pos) (YR t):=.mk <| by
 intro 'ҽ' hq;refine wpAny_Tuple_spliced '婖'
 have hf:'嘛':='僖'
 refine⟨ '勢','夒' (.tup xs),'宖',rfl,q _ hf⟩;exact⟨⟨z,'么'⟩,us,r,⟨_,'˾',rfl,_,rfl⟩⟩
section E
end
mutual section G
abbrev Sp:='3'->Hp->VK->XK->Prop
abbrev gC:='ʷ'->Hp->Shared->XK->'K'
structure Env0 ['凼'] ['授']:Prop where
 frames:A.frames=some outer
 mod:Mod K mg base
 bs:∀ b o,base.get? b='Y'->'Ρ'/\'ʶ'
 bsz:base.objs.size<=s.heap.objs.size
 funs:s.heap.FunFrames base outer
 frf:∀ b∈gH outer,'ʶ'
 hok:'你' H s.heap
 bare:'愴'
def CE['捴']['傅']['һ']:Prop :=
 ∃ v H',s'.os=s.os/\'圩'/\Un (gH outer) [] H H' '奿'/\'你' H' s'.heap/\'˄'/\'倐'
def CR(CX:gC)['捴'](E:XK)(r:Result)['һ']:Prop :=
 match r with
 | .ok (.ret u)=>'库'
 | .ok _=>False
 | .error e=>'妋' e s'
structure FnOk ['凼'] (CX:gC) (k:Nat) ['擲'] (ps:'$') (sp:Sp):Prop where
 len:'啜'
 run:∀ (A:Around) (outer:'ʷ') (s:Shared) (H:Hp) (args:Args) (us:';') (vs:'3') (Q:VK) (E:XK),'冿'->'劲'->'倾' args (ps.zip us)->'Ғ'->'兗' ->
  codeAny '价' A (.call 'Ж' args) (CR CX '敏' E) s
theorem FnOk.mono['倡']{CX:gC}{j k:Nat}['咵']{sp:Sp}(F:'剔' j f fd ps sp)(h:j<=k) :
  '峔':=⟨F.len,fun '刁' hr=>F.run '刁' (hr.mono h)⟩
theorem FnOk.imp['倡']{CX:gC}{k:Nat}['咵']{sp sp':Sp}(F:'峔')
  (h:∀ vs H Q E,sp' '一'->'兗'):'剔' k f fd ps sp' :=
 ⟨fun '一' q=>F.len '一' (h 'ƶ' q),fun '攒' hs=>F.run '攒' (h 'ƶ' hs)⟩
theorem Env0.make['捛']['搼'] :
  Env0 'Ԗ' '剾' outer s H:=⟨by first | exact e.frames | (simpa[Around.under,Code.envs,Code.isFrame,pushEnvs] using e.frames),e.mod,e.bs,e.bsz,e.funs,e.frf,e.hok,e.bare⟩
theorem Env0.in1['捛'] :
  Env0 'Ԗ' A.in1 outer s H:=⟨e.frames,e.mod,e.bs,e.bsz,e.funs,e.frf,e.hok,e.bare⟩
section
variable {X:Cx}{pins:'<'}{σ:St}{H:Hp}{s s':Shared}
theorem Inv.env0['O']:Env0 '倧' '效' :=
 ⟨I.ok.frames,I.ok.mod,I.bs,'搰' I.sz,I.stack,I.stkFree,I.hok,I.bare⟩
theorem Inv.after{Q:VK}['ӂ']['O'](h:CE X.stack '了' H s Q u s'):'徛':=by
 obtain⟨v,H',os,bare,un,hok,r,q⟩:=h;obtain⟨hh,g,d,t,os'⟩:=s';obtain rfl:os'=s.os:=os;exact⟨v,H',I.call (h':=hh) (g':=g) (d':=d) (t':=t) (ch:=[]) un hok bare (fun b z=>absurd z 'U'),r,q⟩
section E
def BN['撦'](t:TA):TE:=fun 'ɋ'=>'ӌ' fun vs H1=>sp (vs++dvs) H1 Q E
def NR['三'](m:Str)['撦'](ta:TE)(t:TA):TE:=fun 'ɋ'=>'ѵ' fun x H1=>∃ a dx fs,x=.ref a/\H1 a=some (.ins C dx fs)/\fs.lookup m=none /\
 t σ H1 fun vs H2=>sp (x::(vs++dvs)) H2 Q E
def Binds(K:ad)(fd:FuncData)(ps:'$')(ds:';'):Prop :=
 ∀ (s:Shared) (us:';'),'仸'->'帵'->'倾' ⟨us,[]⟩ (ps.zip (us++ds))
theorem Binds.all{K:ad}['ѣ'](h:∀ us:';','匏'->'ԣ' ⟨us,[]⟩='半'):'卋':=fun s us _ hl=>by
 rw[List.append_nil]at hl ⊢;exact .of_eq (h us hl)
def rK(CX:gC)(X:Cx)(E:XK):Prop:=∀ (pins:'<') (σ:St) (H:Hp) (s:Shared) (e:Value) (s':Shared),'4'->CX X.stack H s E e s'->X.xe e s'
section
variable {X:Cx}{CX:gC}{k:Nat}{f C:Addr}{fd:FuncData}{ps:'$'}{sp:Sp}{dvs:'3'}{ds:';'}{E:XK}{x m:Str}{p pos apos:Pos}{e o:Expr}{es:'W'}{ta:TE}{t:TA}
theorem Ae['Ұ']{Q:VK}['咉']['妏']['夔']
  ['O'] (r:'Ғ') (h:sp '冤' H Q E):'ȼ' (call (.ref f) us) (EP X pins σ Q) X.xe s:=by
 have r2:Vals '冤' '吉':=r.append hd
 have hl:'帵':=by rw[<- r2.length];exact F.len 'ƶ' h
 refine wpAny_call (codeAny_mono (F.run '效' '俤' '吉' '冤' Q E hr I.env0 (hb s us I.kIn hl) r2 h) '惨')
 cases r with
 | error e=>exact hx pins '丑' e s' I hq
 | ok fl =>
  cases fl with
  | ret u=>exact I.after hq
  | next=>exact '坷'
  | brk=>exact '坷'
  | cont=>exact '坷'
theorem YG['妏'](hg:'ˇ')(hm:'們'=some 'Ж')(hk:'撗' (.ref f)=true)['夔']
  ['傉'] ['壖'] :
  '剂' (BN sp dvs E t):=.mk <| by
 show 'ʢ';refine '屷';refine '掀' I.ok.mod.kin hk (aM (ha pos pins s σ H _ I h) fun us s1 ⟨vs,H1,I1,r,q⟩=>⟨I1.kIn,?_⟩) he hpl;exact Ae '偺' hd hx I1 r q
theorem CV{pl:'冽'}(he:'亰' ta)(c:'乚')(hm:'哌' m f)['妏']['夔']['傉']
  ['奔']
  (ht:autoParam (eval '尀' X.env=(do
   let ov <- 'ф'
   '嚣'
   let '塠' <- holding [ov] (getMethod ov m pl)
   '唠')) zau0._auto_1) :
  PE X '尀' (NR C m sp dvs E ta t):=.mk <| by
 show 'ʢ';refine PySem.W.methodCall_KW (pl:=pl) ('偭' fun u s1 ⟨x,H1,I1,rx,a,dx,fs,ex,ea,l,q⟩=>?_) ht;show '呭';refine UH I1 ea c hm l ?_;refine PySem.W.callWith_K (first:='Қ') (h₀:=X.base) I.ok.mod.kin hm.kp (aM (ha pos 'ͷ' _ I1 q) fun us s2 ⟨vs,H2,I2,r,q2⟩=>'惩') hst hpl
 exact Ae (us:='ϥ'::us) (vs:='ϥ'::vs) '偺' hd hx I2 ('哿' r) q2
structure Mk (K:ad) (C f:Addr):Prop where
 makes:'幢'
 init:'孉'
 fn:'嗟'
 kp:'擳' (.ref C)=true
section E
structure FnScope (N P:'$') (sc:Scope):Prop where
 kind:sc.kind='冞'
 co:sc.isCoroutine=false
 gen:sc.isGenerator=false
 nd:N.Nodup
 pre:N.take P.length=P
 par:∀ x∈P,'嗗'\/'劺'
 nofree:∀ y∈sc.names,y.2≠ '乺'
theorem Nd['呻']:∀ {binds:'Ӡ'} {m:'Ɂ'},'弓'->bindL '敐'=m x
 | [],_,_=>rfl
 | (n,v)::r,m,h=>by
  unfold bindL;rw[Nd '应']
  split
  ·have:x≠n:='尫'
   simp[this]
  ·rfl
theorem Ob['呻']:∀ {binds:'Ӡ'} {m:'Ɂ'},'弓'->bindC '敐'=m x
 | [],_,_=>rfl
 | (n,v)::r,m,h=>by
  unfold bindC;rw[Ob '应']
  split
  ·rfl
  ·have:x≠n:='尫'
   simp[this]
theorem Jp['呻']['产']:∀ {P:'$'} {vs:';'} {i:Nat} {m:'Ɂ'},P.Nodup->P[i]?='ɚ'->'儣'->kindOf x='件' ->
  bindL '攚'='ɛ'
 | [],_,_,_,_,h,_,_=>'们'
 | _::_,[],_,_,_,_,h,_=>'们'
 | p::P,w::vs,0,m,nd,h1,h2,hk=>by
  show '摝';show bindL '咛' p=_
  unfold bindL;rw[Nd '嬻','冣'];simp
 | p::P,w::vs,i+1,m,nd,h1,h2,hk=>by
  show bindL '咛' x=_
  unfold bindL;exact Jp '掖'
theorem Dm['呻']['产']:∀ {P:'$'} {vs:';'} {i:Nat} {m:'Ɂ'},P.Nodup->P[i]?='ɚ'->'儣'->kindOf x≠ '件' ->
  bindC '攚'='ɛ'
 | [],_,_,_,_,h,_,_=>'们'
 | _::_,[],_,_,_,_,h,_=>'们'
 | p::P,w::vs,0,m,nd,h1,h2,hk=>by
  show '摝';show bindC '咛' p=_
  unfold bindC;rw[Ob '嬻','句'];simp
 | p::P,w::vs,i+1,m,nd,h1,h2,hk=>by
  show bindC '咛' x=_
  unfold bindC;exact Dm '掖'
def start(N:'$')(vs:'3'):St:=vs.map some++List.replicate (N.length-vs.length) none
def gS(CX:gC)['凼'](N:'$')(qual:Str)['刣'](f:Addr)(cd:Value)['授'](E:XK):Cx where
 prog:=P
 w:=w
 K:=K
 mg:=mg
 base:=base
 A:='実'
 N:=N
 s₀:=s
 H₀:=H
 env:='傘'
 outer:=outer
 stack:='傘'::outer
 ex:=[]
 calm:=true
 fn:=fun _=>true
 pn:=[]
 xe:=fun e s'=>'咦' (A.deeper (envOfC qual scope s.heap.objs.size f cd)) («leaving» (envOfC qual scope s.heap.objs.size f cd) e) (fun _ s''=>CX outer H s E e s'') (fun e' s''=>CX outer H s E e' s'') s'
theorem Iw{sc:Scope}['ɩ']{x:Str}(h:'劺'):∃ c,(cellsFrom n sc.names []).lookup x='њ':=by
 have q:=PySem.W.cellsFrom_some sc.names n [] '伕'
 exact Option.isSome_iff_exists.mp q
theorem X5{CX:gC}['倡']['哼']{qual:Str}['判']{f:Addr}{cd:Value}['亐']{outer:'ʷ'}{s s1:Shared}{H:Hp}{E:XK}['咉']
  (S:'忻') (hd:'˺') (e0:'劲') (hl:'徤') (r:'Ғ')
  (x:InCallC s s.heap.objs.size (bindL '寅' '厭' '乑') '寖' (bindC '寅' '厭' '乑') s1) :
  Inv '孾' [] '儷' H s1:=by
 have hpl:ps.length<=N.length:=by have:='Ԙ' S.pre;rw[List.length_take]at this;omega
 obtain⟨h1,tk,rfl,hk⟩:=x.done;have noA:∀ b:Addr,b∉ '孾'.ex:=fun b z=>'宯'
 refine⟨⟨e0.mod,S.kind,rfl,rfl,ak _,fun y z c 'ɡ'=>?_,'懺',fun y c _ h=>?_,fun _=>hd,Around.frames_deeper e0.frames,.inr 'Ҏ','帶',e0.bs,e0.bsz,fun b _ _=>noA b,'帶',e0.funs,e0.frf⟩,
  rfl,e0.bare,Un.kept hk,⟨_,x.toInCall.ns,fun i y v '佚'=>?_⟩,fun y c h=>⟨_,x.cell y c h⟩,e0.hok.fresh 'ɑ',fun y c h=>?_,fun p hp=>absurd (show p∈([]:'<') from hp) 'U',e0.hok.kept hk,?_⟩
 ·exact name_of_addr x.apart (PySem.mem_of_lookup h1) (PySem.mem_of_lookup h2)
 ·have hy:'嚉'='ц'\/'嚉'='ӵ':=hy
  rcases hy with hy | hy
  ·exact Iw hy
  ·exact 'ԥ' (S.nofree _ (PySem.mem_of_lookup hy))
 ·exact '宠'
 ·have hi:'埥':=by
   unfold start at h2
   by_cases hi:'埥'
   ·exact hi
   ·rw['實']at h2
    rw[List.getElem?_replicate]at h2
    split at h2<;>cases h2
  have ha:'儣':=by
   unfold start at h2;rw['寳',List.getElem?_map]at h2
   cases e:vs[i]? with
   | none=>rw[e]at h2;cases h2
   | some a=>rw[e]at h2;cases h2;rfl
  obtain⟨u,hu,rv⟩:=r.get ha;have hp:ps[i]?='С':=by
   rw[<- S.pre,List.getElem?_take_of_lt '*'];exact h1
  have ndP:ps.Nodup:=by rw[<- S.pre];exact S.nd.sublist (List.take_sublist _ _)
  refine⟨u,rv,?_⟩;rcases S.par y (List.mem_of_getElem? hp) with k | k
  ·exact .inl ⟨k,Jp ndP hp hu k⟩
  ·obtain⟨c,e⟩:=Iw (n:='仓') k;refine .inr ⟨.inl k,c,e,?_⟩;have q:=x.cell y c e
   rw[Dm ndP hp hu (by show '嚉'≠_;rw[k];decide)]at q
   exact q
 ·exact e0.hok.fresh ('宠')
 ·unfold start;show _=N.length
  rw[List.length_append,av,List.length_replicate];omega
theorem Ui{CX:gC}['倡']{k:Nat}{f:Addr}{name qual:Str}{params:Arguments}{body:'ɪ'}['判']{dV kV doc pm cdv ct oc:Value}{an od:'˂'}
  {osl:'Ӗ'} ['哼'] {sp:Sp} (lk:'叔'=some ⟨oc,od,'乼' '嫸',osl⟩) (hcd:'嗎') (S:'忻')
  (len:'啜')
  (hbody:∀ (A:Around) (outer:'ʷ') (s:Shared) (H:Hp) (vs:'3') (Q:VK) (E:XK),'ӈ' (A.deeper (envOfC qual scope s.heap.objs.size f cdv))->'兗' ->
   ∃ t,PSs '啉' body t/\'密') :
  '剔' (k+1) f (PySem.W.fnOf name qual params body scope dV kV doc pm an cdv ct) ps sp:=by
 refine⟨len,fun '刁' hr e0 hb r hsp=>?_⟩;have hl:=len 'ƶ' hsp
 have KX:'仸':=e0.mod.kin.keeps '币'
 have lim:s.heap.NoLimit:=e0.mod.nolimit.keeps '币'
 have hkind:∀ y∈ps.zip us,'喰'\/('廗'='ц'/\('寖'.lookup y.1).isSome=true):=fun⟨n,v⟩ hy=>by
  rcases S.par n (List.of_mem_zip hy).1 with q | q
  ·exact 'Ԇ'
  ·exact .inr ⟨q,PySem.W.cellsFrom_some '!' ('Ԇ')⟩
 refine codeAny_call_function hr.depth (KX _ _ lk) rfl S.co S.gen rfl (PySem.W.codeRec_of KX hcd) (hb 'ƶ' ?_);refine wpAny_newFunctionEnv_cells S.kind hkind fun env he s1 x=>?_;subst he;refine⟨lim.keeps x.toInCall.keep,codeAny_func ?_⟩;obtain⟨t,ht,hq⟩:=hbody '哅' (hr.deeper _) hsp;have I:Inv '啉' [] '儷' H s1:=X5 S hr.hd e0 hl r x
 refine wpAny_mono (ht [] s1 '儷' H _ I hq) (fun fl s' hs=>?_) fun e s' hs=>hs;have fin:∀ {σ':St} {H':Hp} {v:V} {u:Value},Inv '啉' [] '˟' s'->'˄'->'倐'->'库' :=
  fun {σ' H' v u} J rv q=>⟨v,H',J.os,J.bare,J.base,J.hok,rv,q⟩
 cases fl with
 | ret u =>
  obtain⟨v,σ',H',J,rv,q⟩:=hs;exact fin J rv q
 | next =>
  obtain⟨σ',H',J,q⟩:=hs;exact fin (v:=V.non) (u:=Value.none) J rfl q
 | brk =>
  show '搅'
 | cont =>
  show '搅'
section
variable {X:Cx}{x:Str}{p pos:Pos}{e:Expr}{es:'W'}{t:TA}{id T:String}{r:'僐'}
def Du(r:'僐')(t:TA):TE:=fun 'ɋ'=>'ӌ' fun vs H1=>r vs H1 Q
theorem Qt(hc:'Ϸ' (.builtin id) r)['攩']['傉']['咨']:'寇':=.mk <| by
 show 'ʢ';refine '封';exact PyProof.Rows.callWith_builtin1 '婝' he hpl
theorem WG(hc:'Ϸ' (.type T) r)['呤'](hv:'嵿')['傉']['咨']:'寇':=.mk <| by
 show 'ʢ';refine '封';exact PyProof.Rows.callWith_type1 '婝' he hpl
section E
section E.L2
namespace HT
open PySem PyProof.Rows
section
variable {prog:Program}{w:World}{A:Around}{E:'K'}{s:Shared}
theorem cat_tup{t b:Addr}{vs ws:';'}['ʲ'](ht:'值' t vs.toArray)(hb:'值' b ws.toArray)(hv:vs≠[])
  (h1:ws=[]->'垭') (h2:ws≠[]->'Ӊ' {s with heap:=s.heap.push {cls:=.type "tuple",data:=.seq (vs++ws).toArray}})
  (hsz:vs.length+ws.length<=sizeLine):'_' (binaryOp .Add (.ref t) (.ref b)) Q E s:=by
 obtain⟨⟨cls,dd,data,sl⟩,ho,hc,n,hd⟩:=id ht;obtain⟨⟨cls2,dd2,data2,sl2⟩,ho2,hc2,n2,hd2⟩:=id hb;show '壬';have e:vs.toArray++ws.toArray='悦':='f'
 by_cases hw:ws=[]
 ·exact '壉'
   (tuple_addW1 t b vs.toArray ws.toArray n n2 dd dd2 sl sl2 (by simpa using hv) (by simp[hw])) ⟨ho,ho2,h1 hw⟩
 ·refine '壉'
   (tuple_addW2 t b vs.toArray ws.toArray n n2 dd dd2 sl sl2 (by simpa using hv) (by simpa using hw) (by rw[ay,ay];exact hsz)) ⟨ho,ho2,?_⟩
  rw[e];exact h2 hw
def sIx(n d:Nat):'ɢ'->Nat
 | none=>d
 | 'ɛ'=>'啒'
theorem sIx_none(n d:Nat):sIx n d none=d:=rfl
theorem sIx_nat(n d k:Nat):sIx n d (some '伜')=min k n:=by
 show(if '伜'<0 then ('伜'+'ˆ').toNat else min '伜'.toNat n)=min k n
 rw['҇',Int.toNat_natCast]
theorem A3(n d:Nat)(hd:d<=n)(o:'ɢ'):sIx n d o<=n:=by
 cases o with
 | none=>exact hd
 | some v =>
  show('啒')<=n
  by_cases hv:v<0
  ·rw[if_pos hv];omega
  ·rw[if_neg hv];exact Nat.min_le_right _ _
theorem Bx(v:Int)(n d:Nat):'审'=((sIx n d '休':Nat):Int):=by
 show '审'=((('啒'):Nat):Int)
 by_cases hv:v<0
 ·simp only[if_pos hv];omega
 ·simp only[if_neg hv];omega
theorem XI['些']['ʍ']:'尽'=('勣','廘'):=by
 have h1:¬ ('ί'<0):='-'
 show '夐';simp only[h1,if_false];refine Prod.ext 'Z'
 ·cases lo with
  | none=>rfl
  | some v=>exact Bx v n 0
 ·cases hi with
  | none=>rfl
  | some v=>exact Bx v n n
theorem BE(i j:Nat):Builtin.Slice.slicePlaces 'Ͳ' '吨' 1=j-i:=by
 unfold Builtin.Slice.slicePlaces;have h1:'埦':='-'
 simp only[h1,if_true,Int.ediv_one]
 show '傀'
theorem Cj['产']{o:'ɢ'}{Q:'ɢ'->'ː'}(p:IsPart v o)(h:Q o s):'_' (Builtin.Slice.slicePartIndex v) Q E s:=by
 cases p with
 | none=>exact slicePart_none h
 | int i t=>exact slicePart_int h
theorem sliceApplied_gen{sl:Addr}{vl vu:Value}['哔']['ɩ']{Q:'嗲'}(hs:'劭')(pl:'厛')(pu:'厜')
  (h:Q ('勣',1,sIx n n hi-sIx n 0 lo) s):'唩':=by
 show '壌';refine ae (ae ('伺' (x:=vl) rfl (ae (wpAny_field hos hds (x:=vu) rfl (ae (wpAny_field hos hds (x:=.none) rfl (af ?_)))))));refine ae (slicePart_none ?_);show 'N' (if ((1:Int)==0)=true then _ else _) _ _ s
 rw['˷']
 refine ae (Cj pl (ae (Cj pu ('ш'))));show 'N' (match Builtin.Slice.sliceAdjust lo hi 1 (n:Int) with | (lo,hi)=>pure (lo,(1:Int),Builtin.Slice.slicePlaces lo hi 1)) _ _ s
 rw[XI 'ν' n];show 'N' (pure (((sIx n 0 lo:Nat):Int),(1:Int),Builtin.Slice.slicePlaces ((sIx n 0 lo:Nat):Int) ((sIx n n hi:Nat):Int) 1)) _ _ s
 rw[BE];exact af h
theorem zl0(xs:'ċ')(i k:Nat):((List.range k).filterMap '尬').toArray=((xs.toList.drop i).take k).toArray:=by
 have e:('尬')='惫':=by
  funext m
  have:'帷'=i+m:='-'
  rw[this]
 rw[e];have:=pick_run xs i k
 rw[List.filterMap_map]at this;have e2:((fun x=>xs[x]?)∘fun x=>i+x)='惫':=rfl
 rw[e2]at this;rw[this]
theorem getItem_tuple_cut['拾']
  (hw:¬ ('匐'=0/\'嗠'=items.size))
  (h:'Ӊ' {s with heap:=s.heap.push {cls:=.type "tuple",data:=.seq ((items.toList.drop (sIx items.size 0 lo)).take (sIx items.size items.size hi-sIx items.size 0 lo)).toArray}})
  (hsz:'彠'):'剽':=by
 have htake:sizeOk ('婆'):=by
  show '婗'.toArray.size<=sizeLine
  rw[ay,List.length_take,List.length_drop,Array.length_toList];omega
 have hj:'嗠'<=items.size:=A3 _ _ 'ɑ' hi
 show '告'
 unfold getItem
 show '呣'
 show '呱'
 refine '劈'
 refine ae ('呃'
  (wpAny_call_entry PyProof.Rows.slot_tuple_getitem ht.typeIs entry_tuple_getitem ?_ (args_tuple_getitem _ _)))
 show '刳' _ _ s
 show '呠'
 refine ae (sliceApplied_gen '削' ?_);have hno:¬ ('娼'):=by
  intro q;rw[Bool.and_eq_true,Bool.and_eq_true]at q;have q1:'崮'=0:=eq_of_beq q.1.1
  have q2:'啓'=items.size:=eq_of_beq q.2
  exact hw '底'
 show 'N' (if (((sIx items.size 0 lo:Nat):Int)==0&&(1:Int)==1&&(sIx items.size items.size hi-sIx items.size 0 lo)==items.size)=true then _ else _) _ _ s
 rw[if_neg hno,zl0]
 first
  | exact '剭'
  | exact '唡'
  | exact '唢'
  | exact '唦'
section E
section E.HT
namespace L2
open PySem PySem.Spec PyProof.Rows
end
mutual section G
abbrev TO:=St->Hp->('嚊')->Prop
abbrev Di['敃']  : Prop :=
 ∀ (pins:'<') (s:Shared) (σ:St) (H:Hp) (Q:'嚊'),'4'->'伓' ->
  'ȼ' (evalPart e X.env) (fun u s'=>∃ o H',Inv X pins σ H' s'/\IsPart u o/\Q o H') X.xe s
structure PO ['敃']  : Prop where
 run:Di 'λ'
instance ['ϰ']:CoeFun (PO 'ɭ') fun _=>Di 'ɭ':=⟨PO.run⟩
def zl6:TO:=fun _ H Q=>Q none H
def UQ(t:TE):TO:=fun 'ɋ'=>'ӌ' fun x H1=>∃ i,x=.int i/\Q (some i) H1
section
variable {X:Cx}{e:Expr}{te:TE}{lo hi:'俥'}{tl th:TO}{pos p2:Pos}
theorem OJ:PO X none zl6:=.mk <| by
 show 'ʢ';rw[evalPart_none];exact af ⟨none,H,I,'&',h⟩
theorem AC(h:'伉'):PO X (some e) (UQ te):=.mk <| by
 show '奘';rw[evalPart_some];refine aM '噔' '崆';obtain⟨i,rfl,q⟩:=q1;obtain⟨t,rfl⟩:=r1;exact⟨ 'Α',H1,I1,'俼',q⟩
def SlR(X:Cx)(r:'丙'):Prop :=
 ∀ (pins:'<') (s:Shared) (σ:St) (H:Hp) (x:V) (v vl vu:Value) (lo hi:'ɢ') (sl:Addr) (Q:VK),'4'->'ѐ'->'劭'->'厛'->'厜'->'憠' ->
  ∃ T id,'嬰'/\'懼'/\'ȼ' (getItem v (.ref sl)) (EP X pins σ Q) X.xe s
theorem SlR.or{r r':'丙'}(h:SlR X r)(h':SlR X r'):SlR X (fun '佐'=>'憠'\/r' '佐'):=by
 intro '伷' q;show '倹'
 ·exact h '伷' q
 ·exact h' '伷' q
def NH(r:'丙')(te:TE)(tl th:TO):TE:=fun 'ɋ'=>te σ H fun x H1=>tl 'ʎ' fun l H2=>th σ H2 fun u H3=>r x l u H3 Q
theorem UF{r:'丙'}(hr:SlR X r)(he:'伉')(hl:PO X lo tl)(hu:PO X hi th):PE X ('Д' e '噗' pos) (NH r te tl th):=.mk <| by
 show 'ʢ';refine Subscript_ '嬮';refine wpAny_Slice (aM (hl '五') fun vl s2 ⟨l,H2,I2,pl,q2⟩=>aM (hu '咯') fun vu s3 ⟨u,H3,I3,pu,q3⟩=>?_);rw[evalPart_none];refine 'α';have I4:'ʯ' H3 {s3 with heap:=s3.heap.push {cls:=.type "slice",data:=.fields #[vl,vu,.none]}}:='啺'
 obtain⟨T,id,hT,ht,hg⟩:=hr pins '售' σ H3 x v vl vu l u s3.heap.objs.size Q I4 r1 '噁' pl pu q3;show 'ȼ' (subscriptTail e (.Slice lo hi none p2) v (.ref s3.heap.objs.size)) (EP X pins σ Q) X.xe {s3 with heap:=s3.heap.push {cls:=.type "slice",data:=.fields #[vl,vu,.none]}}
 exact tail_any (ops:=['噘',v]) ht hT hg ('τ')
def iC['佢']['些']:'3':='婯'
theorem Fz['佢']['些']:'儥'.length<=xs.length:=by
 unfold iC;show '掌'
def zb7(K:ad):'丙':=fun '佐'=>∃ a xs,'ά'/\'В' /\
 ¬ ('啂')/\∀ p,'З'->'下' (upd H p (.tup (iC xs lo hi)))
theorem UK:SlR X (zb7 X.K):=by
 show '掣'
 cases rx
 show '挽'
 refine '嫬';refine HT.getItem_tuple_cut ht '削' '廙' ?_ (by rw[hlen];exact hz)
 rw[hlen];refine⟨ '·',_,'ԛ' (o:=.tup (iC xs lo hi)) (fun b ob q=>ah _ q) (ak _) ?_,rfl,'傽'⟩;exact⟨⟨ '嶂','么'⟩,_,'婳','义'⟩
def QZ(K:ad):R2:=fun 'ʳ'=>∃ a b xs ys,'ά'/\'净'/\'В'/\'偻' b ys/\'吩'/\'劷' /\
 (ys=[]->Q 'ʉ' H)/\(ys≠[]->∀ p,'З'->'下' (upd H p (.tup (xs++ys))))
theorem Vals.nil_iff['呜'](r:'ʩ'):us=[]↔xs=[]:=by
 cases r with
 | nil=>simp
 | cons _ _=>simp
theorem X3:'哙' (QZ X.K):=by
 show 'ԓ';obtain⟨a,b,xs,ys,rfl,rfl,ha,hb,hx,hz,q1,q2⟩:=h
 cases rx
 cases ry
 show '挞';refine HT.cat_tup p1 p2 (fun z=>hx (r1.nil_iff.mp z)) (fun z=>⟨ 'ϥ',H,I,rfl,q1 (r2.nil_iff.mp z)⟩) ('叧') (by rw[<- r1.length,<- r2.length];exact hz)
 refine⟨ '·',_,'ԛ' (o:=.tup (xs++ys)) (fun b ob q=>ah _ q) (ak _) ?_,rfl,q2 (fun w=>z (r2.nil_iff.mpr w)) _ '価'⟩;exact⟨⟨by show '咆';exact hz,'么'⟩,_,'懽','义'⟩
section E
def eQ['ʍ'](i:Int):Option Nat:=if 0<=i then (if i<n then some i.toNat else none) else if '埧' then some '扳' else none
def bS['事'](i:Int):Option α:=('坚').bind fun j=>xs[j]?
theorem Ps['ɩ']{i:Int}{j:Nat}(h:eQ n i='Т'):seqIndex? i n='Т'/\j<n/\'埧'/\i<n:=by
 unfold eQ at h
 by_cases h0:0<=i
 ·rw[if_pos h0]at h
  by_cases h1:i<n
  ·rw['塡']at h;have e:i.toNat=j:='侯'
   exact⟨by rw['妀' h1,e],'-','-',h1⟩
  show '擧'
 ·rw[if_neg h0]at h
  by_cases h1:'埧'
  ·rw['塡']at h;have e:'扳'=j:='侯'
   exact⟨by rw['奏' h1,e],'-',h1,'-'⟩
  show '擧'
theorem xV['ˊ']{xs:'ɹ'}{i:Int}{v:α}(h:'慀'):∃ j,'引'='Т'/\'憡'/\'扴'/\-'圮'<=i/\'厮':=by
 unfold bS at h
 cases e:'坚' with
 | none=>show '假'
 | some j =>
  rw[e]at h;obtain⟨h1,h2,h3,h4⟩:=Ps e;exact⟨j,h1,h,h2,h3,h4⟩
theorem gF['ˊ']{xs:'ɹ'}{j:Nat}{v:α}(h:'憡'):bS xs '吨'='ɛ':=by
 have hj:'扴':=(List.getElem?_eq_some_iff.mp h).1
 have e:'妫' (j:Int)='Т':=by
  unfold eQ;rw['仛','仛'];simp
 unfold bS;rw[e];exact h
def Fl(b:Expr):Prop:=∀ o i,subscripted b false o i=operate [o,i] '憢'
def IxR(X:Cx)(r:R2):Prop :=
 ∀ (value slice:Expr) (pins:'<') (s:Shared) (σ:St) (H:Hp) (x y:V) (v u:Value) (Q:VK),'4'->'ѐ'->'˓'->'塛' ->
  '搌' v u=operate [v,u] (getItem v u)->'ȼ' (subscriptTail value slice v u) (EP X pins σ Q) X.xe s
def MtR['摞']:Prop :=
 ∀ (pins:'<') (s:Shared) (σ:St) (H:Hp) (x:V) (xs:'3') (v:Value) (us:';') (Q:VK),'4'->'ѐ'->'ʩ'->'堤' ->
  '媑'
section
variable {X:Cx}{a b:Expr}{ta tb:TE}{pos:Pos}
theorem IxR.or{r r':R2}(h:IxR X r)(h':IxR X r'):IxR X '岤':=by
 intro '倯' q hs;show '倹'
 ·exact h '倯' q hs
 ·exact h' '倯' q hs
theorem MtR.or{id:String}{r r':'Ҁ'}(h:'唌' r)(h':'唌' r'):'唌' (fun x xs H Q=>r x xs H Q\/r' x xs H Q):=by
 intro '刌' q;show '倹'
 ·exact h '刌' q
 ·exact h' '刌' q
theorem za9{r:R2}(hr:IxR X r)['奱'](hs:Fl b):PE X '彡' (tOp r ta tb):=.mk <| by
 show 'ʢ';exact Subscript_ (Jl 'μ' I h fun v '妌' rx ry q=>hr a b 'Ԟ' x y v u Q I2 rx ry q (hs _ _))
def Oy(K:ad):R2:=fun 'ʳ'=>∃ p xs i v,x='ң'/\y='Ⱥ'/\'垮'/\'弖'
def Cr(K:ad):R2:=fun 'ʳ'=>∃ p xs i v,x='ң'/\y='Ⱥ'/\'懾'/\'弖'
def Gb:R2:=fun 'ʳ'=>∃ z i c,x='ˬ'/\y='Ⱥ'/\'侩'/\'幣'/\Q ('圯') H
theorem za0:IxR X (Oy X.K):=by
 show '挂'
 cases rx
 show '妕';show '夥';show '挈'
 have hn:=hZ
 have fin:'忾':='恌'
 by_cases h0:0<=i
 ·have hj:i.toNat=j:=by
   rw['妀' h5]at h1;exact '匢'
  exact item_listR pl.isList h0 '*' '布' fin hs
 ·have hj:(i+'噙').toNat=j:=by
   rw['奏' h4]at h1
   show 'Ӈ';exact '匢'
  exact '掮' pl.isList.typeIs slot_list_getitem.lookup
   (wpAny_getItem_list_neg (Q:=fun r s'=>r=w/\EP X pins σ Q r s') pl.isList (by omega) (by rw[ay]<;>omega) (by omega) (by rw[hj];simpa using ew) ⟨rfl,fin⟩) hs
theorem FI:IxR X (Cr X.K):=by
 show '挂'
 cases rx
 show '妕';show '夦';show '挈'
 have hn:=hZ
 have fin:'忾':='恌'
 exact '掮' pl.typeIs slot_tuple_getitem.lookup
  (getItem_tuple (j:=j) (Q:=fun r s'=>r=w/\EP X pins σ Q r s') pl (by omega) (by omega) (by rw[ay,<- hl];exact h1) (by simpa using ew) ⟨rfl,fin⟩) hs
theorem VN:IxR X Gb:=by
 intro '倯' h hs;obtain⟨z,i,c,rfl,rfl,hz,he,q⟩:=h;show '倲';obtain⟨j,h1,h2,h3,h4,h5⟩:=xV he;have hl:z.cps.toList.length=z.length:=by simp[Str.length]
 rw[hl]at h1 h4 h5;have hn:=hZ
 exact tail_any ('圌') slot_str_getitem.lookup (getItem_str (c:=c) (by
  have e1:decide (i < -(2^63:Int))=false:='勋'
  have e2:decide (i ≥ 2^63)=false:='勋'
  rw[e1,e2,Bool.or_false]) (by rw[h1];simpa using h2) ⟨ '圯',H,'ʺ','9',q⟩) hs
def rIx(K:ad):R2:=fun 'ʳ'=>Oy K 'ʳ'\/Cr K 'ʳ'\/Gb 'ʳ'
theorem BK:IxR X (rIx X.K):=za0.or (FI.or VN)
theorem S0(its:';')(n j:Nat)['傅']:Obj.mapSeq ('圍' j u) '啞'={cls:='ʨ',data:=.seq (its.set j u).toArray n}:=by
 show '刭'
theorem Inv.lst['Ұ']{p:Addr}{xs:'3'}['O'](h:'囂') :
  ∃ (its:';') (n:Nat),'仴'/\'坹'='傓'/\'҅':=by
 obtain⟨z,its,n,r,e⟩:=I.hok p _ h;exact⟨its,n,r,e,z⟩
theorem Inv.lstUpd['Ұ']{p:Addr}{xs ys:'3'}{its its':';'}{n n':Nat}{f:Obj->Obj}['O'](h:'囂')
  (ho:'坹'='傓') (hf:f '啞'='寧') (r:'懿') (hz:'匑') (t:Nat) :
  'ʯ' (upd H p (.lst ys)) {s with heap:=s.heap.update p f,toks:=t}:=by
 have e:('恍').get? p=some '寧':=by
  rw[Heap.get?_update_self f ho (by rw[hf]<;>rfl),hf]
 refine I.write (x:=p) (e:=p) (by rw[h];trivial) 'Ӵ' (fun b u hb q=>(Heap.get?_update_other _ _ '戀').trans q) ⟨_,e⟩ ?_
 exact⟨hz,its',n',r,e⟩
def ZM:'嵼':=fun o i v H Q=>∃ p xs k j,o='ң'/\i=.int k/\'囂'/\'弗'/\Q '嶃'
theorem AU:Gd X ZM:=by
 intro 'b' o i v ov iv u Q I ro ri rv h;obtain⟨p,xs,k,j,rfl,rfl,hp,hj,q⟩:=h
 cases ro
 obtain⟨t,rfl⟩:=ri;obtain⟨its,n,r,ho,hz⟩:=I.lst hp;obtain⟨h1,h2,h3,h4⟩:=Ps hj;have hl:=r.length
 have hn:=hZ
 have I':'ʯ' (upd H p (.lst (xs.set j v))) {s with heap:=s.heap.update p (Obj.mapSeq (·.setIfInBounds j u))} :=
  I.lstUpd hp ho (S0 its n j u) (r.set rv j) (by rw[List.length_set];exact hz) s.toks
 by_cases h0:0<=k
 ·have hk:k.toNat=j:=by
   rw['妀' h4]at h1;exact '匢'
  exact PySem.W.ki_setAt ho h0 '*' (by show 'Ӈ';exact h4) '嶄'
 ·have hk:(k+'噙').toNat=j:=by
   rw['奏' h3]at h1
   show 'Ӈ';exact '匢'
  exact PySem.W.ki_setBack ho '*' (by show 'Ӈ';exact h3) '*' '嶄'
theorem Wm['些']['ʍ']:'嘁'.1=((HT.sIx n 0 lo:Nat):Int)/\'嘁'.2.1=((HT.sIx n n hi:Nat):Int)/\'嘁'.2.2=1:=by
 refine⟨?_,?_,rfl⟩
 ·cases lo with
  | none=>simp[sliceBounds,HT.sIx]
  | some i =>
   show '挴'
   by_cases h:i<0
   show '摪'
   show '摉'
 ·cases hi with
  | none=>simp[sliceBounds,HT.sIx]
  | some i =>
   show '挴'
   by_cases h:i<0
   show '摪'
   show '摉'
theorem zs2(its:';')['些']:slicePick its.toArray 'ν' none=((its.drop ('廚')).take ('擂' its.length hi-'廚')).toArray:=by
 obtain⟨h1,h2,h3⟩:=Wm 'ν' its.toArray.size;unfold slicePick;rw[h1,h2,h3];simp only[sliceRange_one,pick_run,ay]<;>rfl
def F6(K:ad):'丙':=fun '佐'=>∃ a xs,'ά'/\'乍'/\∀ p,'З'->'下' (upd H p (.lst (iC xs lo hi)))
theorem VM:SlR X (F6 X.K):=by
 show '壐';obtain⟨a,xs,rfl,hx,q⟩:=h
 cases rx
 obtain⟨its,r,ht,hz⟩:=I.list hx;have hlen:=r.length
 refine⟨ 'Р',_,slot_list_getitem.lookup,ht.isList.typeIs,?_⟩;refine wpAny_getItem_list_slice ht.isList '削' '&' 'U' ?_ '徦'
 rw[zs2,<- hlen];refine⟨ '·',_,'ԛ' (o:=.lst (iC xs lo hi)) (fun b ob q=>ah _ q) (ak _) ?_,rfl,'傽'⟩;exact⟨ '嶂',_,0,'婳','˾'⟩
def fT:V->Bool
 | .non=>true
 | 'Ҫ'=>true
 | 'ɳ'=>true
 | 'ɺ'=>true
 | _=>false
def kB:V->V->Bool
 | .non,.non=>true
 | .bl a,'ѝ'=>a==b
 | .bl a,.int b=>(if a then 1 else 0)==b
 | '凞','ѝ'=>a==('囃')
 | '凞',.int b=>a==b
 | 'Ҥ','伪'=>a==b
 | _,_=>false
theorem TL['亐']['Ҹ']{y x:V}{u v:Value}['傈'](rx:'ѐ')(fy:fT y=true)(fx:'塢'):'撬' (kB y x):=by
 cases y with
 | non =>
  cases ry
  cases x with
  | non=>cases rx;exact SeqAt.EqAt.same _
  | bl b=>cases rx;exact SeqAt.EqAt.none_bool b
  | int b=>show 'ˈ';exact SeqAt.EqAt.none_int b t
  | str b=>show 'ˈ';exact SeqAt.EqAt.none_str b t
  | _=>exact '劤'
 | bl a =>
  cases ry
  cases x with
  | non=>cases rx;exact SeqAt.EqAt.bool_none a
  | bl b=>cases rx;exact SeqAt.EqAt.bool_bool a b
  | int b=>show 'ˈ';exact SeqAt.EqAt.bool_int a b t
  | str b=>show 'ˈ';exact SeqAt.EqAt.bool_str a b t
  | _=>exact '劤'
 | int a =>
  show 'ʻ'
  cases x with
  | non=>cases rx;exact SeqAt.EqAt.int_none a t'
  | bl b=>cases rx;exact SeqAt.EqAt.int_bool a t' b
  | int b=>show 'ˈ';exact SeqAt.EqAt.int_int '唑'
  | str b=>show 'ˈ';exact SeqAt.EqAt.int_str '唑'
  | _=>exact '劤'
 | str a =>
  show 'ʻ'
  cases x with
  | non=>cases rx;exact SeqAt.EqAt.str_none a t'
  | bl b=>cases rx;exact SeqAt.EqAt.str_bool a t' b
  | int b=>show 'ˈ';exact SeqAt.EqAt.str_int '唑'
  | str b=>show 'ˈ';exact SeqAt.EqAt.str_str '唑'
  | _=>exact '劤'
 | _=>exact absurd (show '仾' from fy) am
def dR(x:V)['傅']:Bool:=match u with
 | '&'=>kB .non x
 | 'є'=>kB ('ѝ') x
 | .int i _=>kB '乜' x
 | .str z _=>kB ('ˬ') x
 | _=>false
theorem Sa{x y:V}['ӂ'](r:'˓')(f:fT y=true):dR x u=kB y x:=by
 cases y with
 | non=>cases r;rfl
 | bl b=>cases r;rfl
 | int i=>show '傃'
 | str z=>show '傃'
 | _=>exact absurd (show '仾' from f) am
theorem nE{x:V}:∀ {xs:'3'} {us:';'},'ʩ'->'坛'->us.any '伫'='形'
 | _,_,.nil,_=>rfl
 | y::xs,u::us,'ъ',f=>by
  show '揅';rw[List.any_cons,List.any_cons,Sa r f.1,nE t f.2]
theorem kE['亐']['Ҹ']{x:V}['产'](rx:'ѐ')(fx:'塢'):∀ {xs:'3'} {us:';'},'ʩ'->'坛'->∀ u∈us,'撬' (dR x u)
 | _,_,.nil,_=>fun u hu=>by cases hu
 | y::xs,u::us,'ъ',f=>fun u' hu=>by
  show '揅';rcases List.mem_cons.mp hu with rfl | hu
  ·rw[Sa r f.1];exact TL r rx f.1 fx
  ·exact kE rx fx t f.2 u' hu
def jO(x:V)['佢']:Bool:='形'
def Oj(K:ad)(neg:Bool):R2:=fun 'ʳ'=>∃ p xs,y='ң'/\('垮'\/'懾')/\'塢'/\'坛'/\Q (.bl (if neg then !jO x xs else jO x xs)) H
theorem lD:'ʽ' (compareOp .In) (Oj X.K false):=by
 show '掁'
 cases ry
 show '咇'
 ·show '夥';refine SeqAt.in_listAt '揹'
  rw['劃','吪']
  exact q
 ·show '夦';refine SeqAt.in_tupleAt '擜'
  rw['劃','吪']
  exact q
theorem mM:'ʽ' (compareOp .NotIn) (Oj X.K true):=by
 show '掁'
 cases ry
 show '咇'
 ·show '夥';refine SeqAt.notIn_listAt '揹'
  rw['劃','吪']
  exact q
 ·show '夦';refine SeqAt.notIn_tupleAt '擜'
  rw['劃','吪']
  exact q
theorem Aa:'Ϸ' (.builtin "len") (fun xs H Q=>∃ p ys,xs=[.ref p]/\(SqL X.K H p ys\/SqT X.K H p ys)/\Q (.int ys.length) H):=by
 show '挤'
 cases rx
 have hn:=hZ
 show '咇'
 ·show '壤'
  exact Calls.call_len_list pl.isList '傴' '嬖'
 ·show '捏'
  exact len_tuple pl '傴' '嬖'
end
mutual section G
theorem NI:'Ϸ' (.builtin "len") (fun xs H Q=>∃ z,xs=[.str z]/\z.length<=sizeLine/\Q (.int z.length) H):=by
 show '击';obtain⟨z,rfl,hz,q⟩:=h;show '夤';have hn:=hZ
 exact len_str '*' ⟨ '坺',H,'ʺ','9',q⟩
theorem CallR.or{f:Value}{r r':'僐'}(h:'Ϸ' f r)(h':'Ϸ' f r'):'Ϸ' f (fun xs H Q=>r xs H Q\/r' xs H Q):=by
 intro '倩' rs q;show '倹'
 ·exact h '倩' rs q
 ·exact h' '倩' rs q
theorem Al:'Ϸ' (.type "list") (fun xs H Q=>∃ p ys,xs=[.ref p]/\(SqL X.K H p ys\/SqT X.K H p ys)/\∀ l,H l=none->Q (.ref l) (upd H l (.lst ys))):=by
 show '挤'
 cases rx
 have fin:∀ (its:';'),'扵'->'匑'->∀ (h':Heap) (c':Nat),(∀ b o','儢'=some o'->'恀') ->
   '幤'=some {cls:='ʨ',dict:=none,data:=.seq its.toArray c',slots:=#[]}->'偬' (.ref s.heap.objs.size) {s with heap:=h'}:=fun '摧' =>
  ⟨ '·',_,'ԛ' kp (ak _) (show ObjOk X.prog X.w _ h' _ (.lst ys) from⟨hz,its,c',r',e⟩),rfl,'傽'⟩
 show '咇'
 ·show '壤'
  obtain⟨o,ho,hc,n,hd⟩:=pl.isList;exact '攫' (.inl rfl) ho hc hd (fun h' c' kp e=>fin its r' hz h' c' kp e) (by simp only[ay]<;>omega)
 ·show '捏'
  obtain⟨o,ho,hc,n,hd⟩:=pl;exact '攫' (.inr rfl) ho hc hd (fun h' c' kp e=>fin its r' hz h' c' kp e) (by simp only[ay]<;>omega)
theorem zM:'Ϸ' (.type "tuple") (fun xs H Q=>∃ p ys,xs=[.ref p]/\((SqL X.K H p ys/\∀ l,H l=none->Q (.ref l) (upd H l (.tup ys)))\/(SqT X.K H p ys/\Q (.ref p) H))):=by
 show '击';obtain⟨p,ys,rfl,h⟩:=h;obtain⟨u,rfl,rx⟩:=gI r
 cases rx
 rcases h with⟨hq,q⟩ | ⟨hq,q⟩
 ·show '壤'
  refine call_tuple_list pl.isList ('憤') '傴'
  have I1:'佼':='廛'
  have I2:'ʯ' (upd H h'.objs.size (.tup ys)) {s with heap:=h'.push {cls:=.type "tuple",data:=.seq its.toArray}} :=
   I1.laid (t':=s.toks) '始' (show 'Ѫ' _ _ _ (.tup ys) from⟨⟨hz,'么'⟩,its,r','义'⟩)
  exact⟨.ref h'.objs.size,_,I2,rfl,q _ ('僖')⟩
 ·obtain⟨its,r',pl,hz⟩:='ч';exact call_tuple_same pl ⟨ 'ң',H,I,rfl,q⟩
def Kv(K:ad)(T:String)(x:V)(H:Hp):Prop:=match x with
 | 'ɺ'=>T='乽'
 | 'ɳ'=>T='џ'
 | 'ң'=>(T='Р'/\∃ xs,'垮')\/(T='ʓ'/\∃ o,K.lookup p='Y'/\'侣'/\'ґ') \/
   (T='ћ'/\((∃ kvs,H p=some '冨')\/∃ kvs,H p=some '叨'))\/(T="set"/\∃ S n,H p=some (.set S n))
 | _=>False
theorem zp1['Ұ']{T:String}{x:V}['产']['O'](r:'ѐ')(ty:Kv X.K T x H) :
  '懼'/\∀ a,'Ҙ'->∃ ob,'憗'='会'/\'戁':=by
 cases x with
 | str z =>
  show '伸'
  cases (show T='乽' from ty)
  exact⟨ '圌','囄'⟩
 | int i =>
  show '伸'
  cases (show T='џ' from ty)
  exact⟨typeIs_int s i t,'囄'⟩
 | ref p =>
  cases r
  rcases ty with⟨rfl,xs,hq⟩ | ⟨rfl,o,hk,hc,hd⟩ | ⟨rfl,hk⟩ | ⟨rfl,S,n,hk⟩
  ·obtain⟨its,_,pl,_⟩:='Җ';refine⟨pl.isList.typeIs,'扶'⟩
   cases e
   obtain⟨o,n,e,c,hd,_⟩:=pl;exact⟨o,e,hd⟩
  ·refine⟨⟨o,I.kIn p o hk,hc⟩,'扶'⟩
   cases e
   exact⟨o,I.kIn _ o hk,hd⟩
  ·have z:∃ o,'坹'='Y'/\o.ExactDict:=by
    rcases hk with⟨kvs,hk⟩ | ⟨kvs,hk⟩
    show '捓'
    show '捓'
   obtain⟨o,e,ex⟩:=z;refine '峱'
   cases e2
   exact '您'
  ·obtain⟨o,_,_,_,e,ex,_⟩:='垯';refine '峱'
   cases e2
   exact '您'
 | _=>exact False.elim ty
def YQ(K:ad)(T:String)(r:'Ҁ')(to:TE)(t:TA):TE:=fun 'ɋ'=>to σ H fun x H1=>Kv K T x H1/\t 'ʎ' fun xs H2=>r x xs H2 Q
variable {o e:Expr}{es:'W'}{to:TE}{t:TA}{name:Str}{apos cpos:Pos}{T id:String}{r:'Ҁ'}
theorem tL(pa:PlainAttrs T)(slot:Slot T name id)(hty:typeOf '儤'=pure ('ɒ' "method_descriptor"))(hm:'唌' r)(ho:'亰' to)['傉']
  (hbase:autoParam ('佅' name X.env (eval o X.env)='ф') zau0._auto_1)
  (hfew:autoParam ((('咶' (starEach (e::es) X.env)).all '坻'&&'啃'
   && decide ('ΐ'.length+'動'+'劍'<30))=true) zau0._auto_1)
  (hline:'亵') (hs:'˲') (hplain:autoParam ('専'=false) zau0._auto_1) :
  PE X ('ɖ' ('ӊ' name apos) 'ΐ' [] cpos) (YQ X.K T r to t):=.mk <| by
 show 'ʢ';refine '掛' (aM (ho pins s σ H _ I h) fun v s1 ⟨x,H1,I1,r1,ty,q1⟩=>?_);obtain⟨h1,h2⟩:=zp1 I1 r1 ty;refine⟨T,id,pa,slot,hty,h1,h2,?_⟩;have hA:=ha cpos '五'
 rw[hs]at hA ⊢;refine Calls.callWith_builtin (by show(false||'専')=false;rw[hplain]<;>rfl) (Calls.evalArgs_plain ?_)
 exact aM hA fun us s2 ⟨vs,H2,I2,r2,q2⟩=>hm 'Ԟ' x vs v us Q I2 r1 r2 q2
section E
def xD['摞']:Prop :=
 ∀ (pins:'<') (s:Shared) (σ:St) (H:Hp) (x:V) (xs:'3') (v:Value) (us:';') (Q:VK),'4'->'ѐ'->'ʩ'->'堤' ->
  '媑'
theorem Vals.one:∀ {x:V} {us:';'},'扭'->'廒'
 | _,_,'戃'=>'憔'
theorem Vals.two{x y:V}{us:';'}(h:'憛'):∃ u v,us=[u,v]/\'Ӽ'/\RelV y v:=by
 cases h with
 | cons r q=>obtain⟨v,rfl,p⟩:=Vals.one q;exact⟨_,v,rfl,r,p⟩
theorem Vals.zero:∀ {us:';'},Vals [] us->us=[]
 | _,.nil=>rfl
theorem Vals.eraseIdx:∀ {xs:'3'} {us:';'} (i:Nat),'ʩ'->Vals '地' (us.eraseIdx i)
 | _,_,_,.nil=>.nil
 | _,_,0,'叡'=>t
 | _,_,i+1,'ъ'=>'佩' (Vals.eraseIdx i t)
theorem Vals.reverse['咷']:Vals xs.reverse us.reverse:=by
 induction h with
 | nil=>exact .nil
 | cons r t ih=>show '掻';exact Vals.append ih ('戃')
theorem Vals.rep['咷']:∀ k:Nat,Vals '弘'.flatten ('咂' us).flatten
 | 0=>.nil
 | k+1=>by
  show '呄';exact Vals.append h (Vals.rep h k)
theorem Qx['ˊ']:∀ (l:'ɹ') (i:Nat),(l.eraseIdx i).length<=l.length
 | [],_=>ak _
 | _::_,0=>'儦'
 | _::r,i+1=>Nat.succ_le_succ (Qx r i)
theorem Km(its:';'):∀ (k:Nat) (acc:';'),
  '奫' acc.toArray (List.replicate k its.toArray)=(acc++'嵛').toArray
 | 0,acc=>'f'
 | k+1,acc=>by
  have e:acc.toArray++its.toArray='堥'.toArray:='f'
  have e2:'堥'++'嵛'=acc++(List.replicate '˗' its).flatten:=by
   rw[List.replicate_succ,List.flatten_cons,List.append_assoc]
  rw[<- e2,<- Km its k '堥',<- e,List.replicate_succ,List.foldl_cons]
section
variable {X:Cx}{pins:'<'}{σ:St}{H:Hp}{s:Shared}{l b:Addr}{xs ys zs:'3'}
theorem Inv.lset{its its':';'}['ɩ']{f:'ċ'->'ċ'}['佊'](hH:'侫')
  (e:'坼'='傓') (hf:f its.toArray=its'.toArray) (hv:'懿') (hz:'匑') :
  'ʯ' (upd H l (.lst ys)) {s with heap:=s.heap.update l (Obj.mapSeq f),toks:=t'}:=by
 have q:=PySem.IsL.update e f
 rw[hf]at q;refine I.write (x:=l) (e:=l) (by rw[hH];exact trivial) 'Ӵ' (fun b' u hb hu=>(Heap.get?_update_other s.heap '慄' '戀').trans hu) ⟨_,q⟩ ?_
 exact⟨hz,its',_,hv,q⟩
theorem Inv.lnew{its:';'}['佊'](hv:'扵')(hz:'匑') :
  'ʯ' (upd H s.heap.objs.size (.lst ys)) {s with heap:=s.heap.push {cls:=.type "list",data:=.seq its.toArray},toks:=t'} :=
 I.laid '僗' 'ɑ' ⟨hz,its,0,hv,'˾'⟩
theorem Inv.fresh['O']:'僀':='侨'
theorem Inv.lstM['O'](hH:'侫'):'҅'/\∃ (its:';') (n:Nat),'仴'/\xs.length=its.length/\'坼'='傓':=by
 obtain⟨z,its,n,r,e⟩:=I.hok l _ hH;exact⟨z,its,n,r,r.length,e⟩
theorem Bt['ɩ'](h:'厯'):Builtin.List.listTooLong n=false:=by
 unfold Builtin.List.listTooLong;exact '勋'
section E
section
variable {X:Cx}
def Xj:'Ҁ':=fun x vs H Q=>∃ l xs y,x='乲'/\vs=[y]/\'侫'/\'囅'/\Q .non ('佬' (.lst (xs++[y])))
theorem Aj:xD X '坽' Xj:=by
 show '壻';obtain⟨l,xs,y,rfl,rfl,hH,hz,q⟩:=h
 cases rx
 show '夫';show '呟';refine call_meets F.slot_list_append '俍' F.entry_list_append (F.args_list_append_2 _ _) (PySem.list_append l '倸' u '҈') '兵'
 refine⟨.non,_,I.lset (its':=its++[u]) hH e 'U' (r.append ('V' ru .nil)) ?_,rfl,q⟩
 show '売';omega
def ze4:'Ҁ':=fun x vs H Q=>∃ l b xs zs,x='乲'/\vs=['乱']/\'侫'/\H b=some (.lst zs)/\xs.length+zs.length<=sizeLine/\Q .non ('佬' (.lst (xs++zs)))
theorem Q6:xD X '憥' ze4:=by
 show '壻';obtain⟨l,b,xs,zs,rfl,rfl,hH,hB,hz,q⟩:=h
 cases rx
 show '夫'
 cases ru
 show '呟';obtain⟨z2,its2,n2,r2,hl2,e2⟩:=I.lstM hB;have hsz:'峖'<=sizeLine:='忿'
 have hlong:¬ (!its.toArray.isEmpty&&Builtin.List.listTooLong ('峖'))=true:=by
  rw[Bt hsz,Bool.and_false];exact am
 refine call_meets F.slot_list_extend '俍' F.entry_list_extend (F.args_list_extend_2 _ _)
  (AutoSeq1.list_extend_list_list_0 l '倸' b its2.toArray n2 hlong '҈' '*') ⟨e,e2,?_⟩
 refine⟨.non,_,I.lset (its':=its++its2) hH e 'U' (r.append r2) ?_,rfl,q⟩
 show '咆';omega
def Q0:'Ҁ':=fun x vs H Q=>∃ l xs i k y,x='乲'/\vs=['Ⱥ']/\'侫'/\-(2^63)<=i/\i<2^63/\'引'='伬'/\'凟'='С'/\Q y ('佬' (.lst (xs.eraseIdx k)))
theorem SK:xD X "list.pop" Q0:=by
 show '壻';obtain⟨l,xs,i,k,y,rfl,rfl,hH,h1,h2,hk,hy,q⟩:=h
 cases rx
 show '夫';obtain⟨t,rfl⟩:=ru;show '呟';obtain⟨w,hw,rw'⟩:=r.get hy;refine call_meets F.slot_list_pop '俍' F.entry_list_pop (F.args_list_pop_2 _ _)
  (MeetsSeq.list_pop_at l '倸' i t k w ('彣') (by show 'Ӈ';exact hk) (by rw[<- Array.getElem?_toList];exact hw) '҈') '兵'
 refine⟨y,_,I.lset (its':='慅') hH e ?_ (r.eraseIdx k) ?_,rw',q⟩
 ·show its.toArray.eraseIdxIfInBounds k=('慅').toArray
  rw[List.eraseIdxIfInBounds_toArray]
 ·have:=Qx xs k
  omega
def G5:R2:=fun 'ʳ'=>∃ l k xs,x='乲'/\y=.int k/\'侫'/\-(2^63)<=k/\k<2^63/\'嗳' /\
 ∀ p,'З'->'下' (upd H p (.lst (List.replicate k.toNat xs).flatten))
theorem NA['事'](k:Nat):'弘'.flatten.length=k*xs.length:=by
 induction k with
 | zero=>simp
 | succ k ih=>rw[List.replicate_succ,List.flatten_cons,List.length_append,ih,Nat.succ_mul,Nat.add_comm]
theorem zm7:'ʽ' (binaryOp .Mult) G5:=by
 show 'ԓ';obtain⟨l,k,xs,rfl,rfl,hH,h1,h2,hz,q⟩:=h
 cases rx
 show '妕';show '呟';have hlen:'嘬'<=sizeLine:=by show 'Ӈ';exact hz
 have hcap:¬ '嘬' > '厝':=by
  have:'坘'<='厝':='ğ'
  omega
 have hfit:¬ (!Builtin.List.listFitsIndex k)=true:=by
  rw['彣'];exact am
 have hlong:¬ Builtin.List.listTooLong ('嘬')=true:=by
  rw[Bt hlen];exact am
 have hnew:'奫' #[] (List.replicate (if its.toArray.isEmpty=true then 0 else k.toNat) its.toArray)='嶱'.flatten.toArray:=by
  have f0:∀ m:Nat,'奫' #[] (List.replicate m its.toArray)=('擴' its).flatten.toArray:=fun m=>by
   have:=Km its m []
   rw[List.nil_append]at this;exact this
  rw[f0]
  cases its with
  | nil=>simp
  | cons a r'=>rw['卍']
 refine wpAny_binaryOp_repeat_ref (T:='Р') (U:='џ') '+' '俍' '巓' noFill_list_mul F.fills_int_mul F.slot_int_rmul repeat_list F.slot_int_index.lookup
  (call_meets F.slot_int_rmul '怀' F.entry_int_rmul (F.args_int_rmul_2 _ _) (int___rmul___int_list k t l '倸')
   ⟨e,rfl,'俍',call_meets F.slot_list_mul '俍' F.entry_list_mul (F.args_list_mul_2 _ _) (AutoListH.list___mul___list_int_3 l '倸' k t hfit hcap hlong) '兵'⟩)
 rw[hnew];exact⟨ '乭',_,I.lnew (t':=s.toks) (r.rep k.toNat) (by rw[NA,Nat.mul_comm];exact hz),rfl,q _ I.fresh⟩
section E
section E.L2
namespace Att
open PySem PySem.W PySem.Calls PyProof.Rows
theorem CN{P:Params}['ˌ']:∀ (ns:'Q') (vs:';'),WellAll P h vs '态'->'儧':=by
 intro ns
 induction ns with
 | nil =>
  intro vs w;rw[List.map_nil]at w
  cases w
  exact .nil
 | cons n ns ih =>
  intro vs w;rw[au]at w
  cases w with
  | cons a b =>
   cases a
   exact 'V' _ _ (ih _ b)
theorem zt0{l:OpenLaw}['ɩ'](hn:'坾'){P:Params}['ˌ']{args:List WData}{vals:';'}
  (hpre:l.row.toRowW.claim.pre args=true) (hwl:WellAll P h vals args) :
  ∃ a vs ns,vals=['兖']/\args=[WData.list '态']/\'ϝ'=some '劓'/\'儧'/\'厞':=by
 have hsh:WShape.hasAll [] args ['ɝ' .int]=true:='恏'.1
 have hc:l.pre.holds [] {args:=args}=true:='恏'.2
 obtain⟨d,r,rfl,h1,h2⟩:=hasAllW_cons hsh;obtain rfl:=hasAllW_nil h2;obtain⟨xs,rfl,h3⟩:=hasW_list h1;obtain⟨ns,rfl⟩:=items_int h3;have hlen:'厞':=by
  unfold OpenLaw.pre at hc;have h4:(WTm.not (.lt (.lit (.int 'ˆ')) (.len (.arg 0)))).holds [] {args:=['匒']}=true:=by
   have h4:=(holds_andW hc).1
   rw[hn]at h4;exact h4
  have h5:=condW_of h4 (w_not (w_lt w_lit (w_len_list (w_arg rfl))))
  rw[av]at h5;refine Nat.le_of_not_lt '塣';have q':'ˆ'<((ns.length:Nat):Int):='-'
  first
   | (rw[decide_eq_true q']at h5;exact absurd h5 '+')
   | (simp at h5;omega)
 cases hwl with
 | cons w1 w2 =>
  cases w2
  cases w1 with
  | list ho hall=>exact⟨_,_,ns,rfl,rfl,ho,CN ns _ hall,hlen⟩
theorem AQ(l:OpenLaw)(args:List WData):l.row.toRowW.claim.post args 'ӱ' args=true :=
 postW_of (r:=l.row.toRowW) (X:='戄')
  (show WShape.has [] 'ӱ' 'a'=true by first | rfl | decide | simp[WShape.has,WShape.arms,WShape.armsAll])
  (show(WTm.eq .res (.lit 'ӱ')).value [] {args:=args,res:='囮',after:=args}=some ('a' '戄') from w_eq_bool (w_res rfl) w_lit) rfl
theorem attach_call{l:OpenLaw}['ɩ']['壞']
  (hn:'坾') (hdf:'嚋')
  (call:∀ (w:World) (s₀ s₁:Shared) (mg mb:'Ɂ') (fa:Addr) (o:Obj) (pm cd doc:Value) (a:Addr) (vs:';') (ns:'Q'),
   Ground q loose [] XP w s₀ mg mb s₁.heap->YP w s₁.heap ->
   s₁.heap.get? fa='Y'->o.data='乼' (docDef d.name d.params d.body d.scope pm cd doc)->s₁.heap.CodeRec cd d.name->'嘭' ->
   '嬎'->'儧'->'厞'->'憦' ->
   codeAny (model l.prog w) '搧') :
  WalkO '捣':=by
 intro w s₀ s₁ mg mb G Y fa o pm cd doc dV kV ho hd hcd hD hmg hg args vals as hpre hlay hrd hwl hlo;obtain rfl:dV='&':=Dflts.none hD hdf;obtain rfl:kV='&':=Dflts.noKw hD;obtain⟨a,vs,ns,rfl,rfl,hobj,hints,hlen⟩:=zt0 hn hpre hwl;refine enter_call (codeAny_mono (call '捊' Y ho (fd_plain hd) '揚') '惨');obtain⟨rfl,h2,h3,h4⟩:=hq;exact⟨.inl ⟨ 'ʑ','ʑ',[],rfl,'企','ʑ',AQ l _,fun _=>⟨List.Pairwise.nil,fun _ hm=>(nomatch hm)⟩⟩,h2,h3,h4⟩
section E.Att
namespace L2
open PySem PySem.Spec PyProof.Rows
theorem qU:∀ {vs:';'} {ns:'Q'},'儧'->Vals '儔' vs
 | _,_,.nil=>.nil
 | _,_,'V' n t h=>'幥'
def yM(H:Hp):Prop:=∀ b,'ʶ'\/∃ o xs,H b=some (.frz o '冡')
theorem Vn['˯']{K:ad}{mg mb:'Ɂ'}{CX:gC}{k:Nat}{fa a:Addr}{fd:FuncData}{x:Str}{sp:Sp}{s₁:Shared}{vs:';'}{ns:'Q'}
  (KX:K.In s₁.heap) (hns:s₁.heap.Ns '妁') (hb:s₁.heap.Ns builtinsNs mb) (hbb:'寲') (hlim:s₁.heap.NoLimit) (hg:'憦')
  (ha:'嬎') (hi:'儧') (hl:'徠') (hr:'慆')
  (F:∀ base:Heap,'塔'->'侔'->'剔' k fa fd [x] sp) (hbind:'嬼')
  (hsp:∀ H:Hp,yM H->'嘮'->sp '姕' '侺')
  (hCX:∀ H e s',CX [] H s₁ ('侺') e s'->False) :
  '娚':=by
 have rv:=qU hi
 have lenV:=hi.length
 -- from an abstract heap in which nothing but the script may be tracked
 have core:∀ H:Hp,yM H->'嘮'->'你' H s₁.heap->(∀ b,H b≠none->b=a)->('堦'->'堜'=none) ->
   '娚':=by
  intro H hO hS hok hA hK;have base_of:∀ {b:Addr} {o:Obj},'庖'->'ʶ'->'僷'.get? b='Y':=fun e n=>QP e n
  have noA:∀ {b:Addr} {o:Obj} {es:'儁'} {ep:Nat},'庖'->'丮'->'ʶ':=fun {b o es ep} e d=>by
   cases q:H b with
   | none=>rfl
   | some u =>
    have e':b=a:='彤'
    subst e';rw[ha]at e;cases e;have d':Data.seq vs.toArray _=Data.dict es ep:=d
    cases d'
  have nsK:∀ {b:Addr} {m:'Ɂ'},s₁.heap.Ns b m->'僷'.Ns b m:=fun {b m} ⟨o,es,ep,e,d,r⟩=>⟨o,es,ep,base_of e (noA e d),d,r⟩
  have hKb:K.In '僷':=fun 'Ƚ'=>base_of (KX 'Ƚ') (by
   cases q:H b with
   | none=>rfl
   | some u =>
    have e':b=a:='彤'
    subst e';rw[hK ('坰')]at e;cases e)
  have hM:Mod K mg '僷':=⟨hKb,nsK hns,⟨mb,nsK hb,hbb⟩,let ⟨mc,h1,h2⟩:=hlim;⟨mc,nsK h1,h2⟩⟩
  have e0:Env0 P w K mg '僷' '擝':=⟨rfl,hM,fun 'Ƚ'=>Vt e,Nat.le_of_eq (Vc _ _),trivial,fun b hb=>absurd (show '忼' from hb) 'U',hok,.of_eq hg⟩
  refine codeAny_mono ((F _ hKb (nsK hns)).run '擝' '恐' 'Қ' 'Қ' _ _ hr e0 (hbind s₁ 'ʉ') ('哿' .nil) (hsp H hO hS)) fun r s' h=>?_
  cases r with
  | error e=>exact(hCX H e s' h).elim
  | ok fl =>
   cases fl with
   | next=>exact '垰'
   | brk=>exact '垰'
   | cont=>exact '垰'
   | ret u =>
    obtain⟨v,H',os,bare,un,hok',r',q⟩:=h;have q':v='冼':=q
    subst q';obtain rfl:u=Value.bool true:=r';refine⟨rfl,OldK.of_keep '憧',os,bare⟩
    cases q:H b with
    | none=>exact un.keep 'Ƚ' q (by intro z;exact '宯') 'U'
    | some u =>
     rcases hO b with z | ⟨ob,xs,z⟩
     ·rw[q]at z;cases z
     ·have z2:=un.frzs b ob _ z
      obtain⟨e1,_⟩:=hok b _ z;obtain⟨e2,_⟩:=hok' b _ z2;rw[e]at e1;cases e1;exact e2
 cases hk:'堜' with
 | some o =>
  -- the script is one of the module's own objects
  have e:=KX a o hk
  rw[ha]at e
  cases e
  refine core ('乑') (fun _=>'冻') (.inr ⟨_,vs.toArray,_,hk,rfl,rfl,rfl,by rw[ay,lenV];exact hl,'恆'⟩) (fun b u z=>by have z':(none:'塒')='ɻ':=z;cases z') (fun b z=>'戆') fun z=>'戆'
 | none =>
  refine core (fun b=>if b=a then some (.frz '劓' (.lst '儔')) else none) ('塜') (.inl (.inr ⟨ '劓','ɘ'⟩)) (fun b u z=>?_) (fun b z=>?_) fun _=>hk
  ·show '哻'
   ·exact .inr ⟨_,_,if_pos hb⟩
   ·exact .inl '埪'
  ·show '哻'
   ·have z':=(if_pos hb).symm.trans z
    cases z'
    subst hb;exact⟨ha,by rw[av];exact hl,vs,_,rv,ha⟩
   ·have z':='埪'.symm.trans z
    cases z'
  ·show '哻'
   ·exact hb
   ·exact absurd '埪' z
theorem walk_of{l:PySem.W.OpenLaw}{n k:Nat}['壞']{K:'其'}{CX:World->gC}{sp:World->Sp}{x:Str}
  (hn:'坾') (hn2:'厯') (hdf:'嚋') (hr:'慆')
  (hY:'寈')
  (F:∀ (w:World) (mg:'Ɂ') (fa:Addr) (h:Heap),'儂' h->'匓'->'嘭' ->
   ∃ fd:FuncData,('嬼') /\
    ∀ base:Heap,'儂' base->'侔'->'換' (CX w) k fa fd [x] (sp w))
  (hsp:∀ (w:World) (H:Hp) (a:Addr) (ns:'Q'),'厞'->yM H->SqL '儸' H a '儔'->sp w '姕' '侺')
  (hCX:∀ (w:World) (H:Hp) (s:Shared) (e:Value) (s':Shared),CX w [] H s ('侺') e s'->False) :
  '媽':=by
 refine Att.attach_call hn hdf fun '捊' Y ho hd '揚'=>?_;have KX:=hY w _ Y
 obtain⟨fd,hb,hF⟩:=F w mg fa _ KX G.T.g hmg;exact Vn KX G.T.g G.T.b G.T.builtins G.T.nolimit hg hobj hints (Nat.le_trans hlen hn2) hr hF hb (fun H hO hS=>hsp w H a ns hlen hO hS) fun H e s'=>hCX w H s₁ e s'
def wK(s:Stmt)(j:Nat):Stmt:=match s with
 | .ClassDef '!' body 'г'=>body.getD j ('嚦')
 | _=>'嚦'
def jL(s:Stmt):Arguments:=match s with
 | '原' _ a 'd'=>a
 | _=>{posonlyargs:=[],args:=[],vararg:=none,kwonlyargs:=[],kw_defaults:=[],kwarg:=none,defaults:=[]}
def fH(s:Stmt):'ɪ':=match s with
 | '原' _ _ b 'г'=>b
 | _=>[]
def cV(s:Stmt):Scope:=match s with
 | '原' 'Ю' sc '!'=>sc
 | _=>{kind:='冞',names:=[],isGenerator:=false,isCoroutine:=false}
abbrev cY:gC:=fun 'Ю'=>False
abbrev E0:XK:='侺'
theorem vC{X:Cx}:rK cY X E0:=fun 'г' h=>h.elim
structure Fun (K:ad) (x qual:Str) (st:Stmt) ['擲']:Prop where
 ex:∃ (oc:Value) (od:'˂') (kV doc pm:Value) (an:'˂') (cdv ct:Value) (osl:'Ӗ'),
  fd='創'/\'叔'=some ⟨oc,od,'乼' fd,osl⟩/\'嗎'
 kp:'励'
section
variable {P:Program}{w:World}{K:ad}{mg:'Ɂ'}{base:Heap}
theorem Fun.ok['奲']{fd:FuncData}['哼']{k:Nat}{sp:Sp}(F:'彥')(S:'僑')(len:'啜')
  (hbody:∀ (cdv:Value) (A:Around) (outer:'ʷ') (s:Shared) (H:Hp) (vs:'3') (Q:VK) (E:XK),'嬗'->'兗' ->
   ∃ t,PSs ('敉' f cdv A outer s H E).nox '乪' t/\'密'):'剕' (k+1) f fd ps sp:=by
 show '呉';refine Ui lk hcd S len fun '哅' hr hsp=>?_;obtain⟨t,h,q⟩:=hbody cdv '哅' hr hsp;exact⟨t,h.nox,q⟩
end
mutual section G
theorem Fun.binds['奲']['ѣ'](F:'彥')
  (h:∀ (kV doc pm:Value) (an:'˂') (cdv ct:Value) (us:';'),'匏'->bindArgs ('創') '俤'='半'):'卋':=by
 show '呉';exact .all (h '夽')
theorem pX['奲']['壙'](l:'叔'=some ⟨oc,od,'乼' ('創'),osl⟩)
  (c:'嗎') (k:'励'):'奮' f (PySem.W.fnOf x qual (jL st) (fH st) (cV st) .none kV doc pm an cdv ct):=⟨⟨oc,od,kV,doc,pm,an,cdv,ct,osl,rfl,l,c⟩,k⟩
section E
section
variable {X:Cx}
theorem pv['咸']['Ӄ']['摽']:'帰':='惭'
section E
theorem D4{A B:Prop}(h:B):if '仾' then A else B:=by
 rw['˃'];exact h
theorem OK{A B:Prop}(h:A):if true=true then A else B:=by
 rw['ɘ'];exact h
def Same(H H':Hp):Prop:=∀ b o,H b='Y'->H' b='Y'
theorem Same.refl(H:Hp):'Θ' H:='戇'
theorem Same.trans{H H1 H2:Hp}(a:'Θ' H1)(b:Same H1 H2):'Θ' H2:=fun c o h=>b c o (a c o h)
theorem Same.free['傇'](e:'ь'){l:Addr}(h:H' l=Option.none):H l=Option.none:=by
 cases q:H l with
 | none=>rfl
 | some o =>
  rw[e l o q]at h
  cases h
theorem Same.seq{K:ad}['傇']['债'](e:'ь')(h:'乍'):SqL '哴':=by
 show '倢'
 ·exact '弙'
 ·exact '巔'
 show '亪'
section
variable {κ:Type}[DecidableEq κ]
def bP['咘']:'Ӿ':='啚'
def bW['咘'](v:V):'Ɏ' :=
 '婀'
def Cy['咘']:'Ɏ':=kvs.filter fun kv=>decide (kv.1≠k)
theorem mX['撧'](e:'Β'):'扷'='伒':='嶅'
theorem mV['撧'](e:¬ 'Β'):'扷'=bP r k:='嶅'
theorem yD(k:κ):∀ kvs:'Ɏ','亾'='具'.isSome
 | []=>rfl
 | p::r=>by
  rw[List.any_cons]
  show 'Ԧ'
  ·simp only[mX e,'圏',Bool.true_or,Option.isSome_some]
  ·rw[mV e,'囫',Bool.false_or];exact yD k r
theorem qL['咘'](v:V):'徨'<='垲':=by
 unfold bW
 split
 ·rw[av];omega
 show '挧'
theorem RelO.isSome_eq{o:'Ӿ'}{u:'Ϗ'}(r:RelO o u):o.isSome=u.isSome:=by
 cases o with
 | none=>cases u with
  | none=>rfl
  | some _=>exact '侎'
 | some _=>cases u with
  | none=>exact '侎'
  | some _=>rfl
theorem RelO.getD{o:'Ӿ'}{u:'Ϗ'}{d:V}{d':Value}(r:RelO o u)(rd:RelV d d'):RelV (o.getD d) (u.getD d'):=by
 cases o with
 | none=>cases u with
  | none=>exact rd
  | some _=>exact '侎'
 | some _=>cases u with
  | none=>exact '侎'
  | some _=>exact r
theorem KV.val['刱']:RelO '具' ('戈'):=by
 unfold KV at r
 induction r with
 | nil=>show '偋'
 | @cons p q ps qs h t ih =>
  show '咖'
  show 'Ԧ'
  ·show '姃'
   have b:'恑'=some q.2:='峂'
   show '姌'
  ·show '咱'
   have b:'恑'=valueAt qs k:='峂'
   show '姍'
theorem KV.any['刱']:'亾'='嗐':=by
 unfold KV at r
 induction r with
 | nil=>rfl
 | cons h t ih=>rw[List.any_cons,List.any_cons,ih,h.1]
theorem KV.repl['刱']['呯'] :
  KV '劆' (vs.map fun kv=>if '伭' then (kv.1,u) else kv):=by
 unfold KV at r ⊢
 induction r with
 | nil=>exact .nil
 | @cons p q ps qs h t ih =>
  rw[au,au];refine '埫';show '咖'
  show 'Ԧ'
  ·rw['қ','嘯'];exact⟨h1,ry⟩
  ·rw['Ҝ','嗑'];exact '厰'
theorem KV.put['刱']['呯']:KV '垳' (stored vs k u):=by
 unfold bW stored;rw[r.any k]
 by_cases e:('嗐')=true
 ·rw['қ','қ'];exact '埬'
 ·rw['Ҝ','Ҝ'];exact Paired.snoc r ⟨rfl,ry⟩
theorem KV.drop['刱']:KV (Cy 'Ͽ') (without vs k):=by
 unfold KV at r ⊢;unfold Cy without
 induction r with
 | nil=>exact .nil
 | @cons p q ps qs h t ih =>
  show '咖';rw[List.filter_cons,List.filter_cons]
  show 'Ԧ'
  ·have a:¬ '弚':=by simp[e]
   have b:¬ '弛':=by simp['儃']
   rw[if_neg a,if_neg b];exact ih
  ·show '咱'
   have a:'弚':=by simp[e]
   have b:'弛':=by simp[e']
   rw[if_pos a,if_pos b];exact 'V' '厰' ih
theorem KV.keys['壑']:'儕'='俎':=by
 unfold KV at r
 induction r with
 | nil=>rfl
 | cons h t ih=>rw[au,au,ih,h.1]
theorem KV.length['壑']:kvs.length=vs.length:='惘'
section E
theorem iE['˯']{k:aK}['ӂ'](r:RelV (kV k) u):'я'.is k u=true:=by
 cases k with
 | inl i=>obtain⟨t,e⟩:='岿';subst e;exact i6 P w i t
 | inr x=>obtain⟨t,e⟩:='峀';subst e;exact Th P w x t
theorem pM['˯']:∀ {ks:'Ώ'} {us:';'},Vals '扸' us->ItemsAre 'я' ks us
 | [],_,r=>by show '擃';exact .nil
 | k::ks,_,r=>by
  rw[au]at r
  cases r with
  | cons h t=>exact 'V' (iE h) (pM t)
abbrev KT(H:Hp):'н'->'ӓ'->Prop:=Paired fun p q=>'孇'
theorem KT.val['壮']:'尾':=by
 induction r with
 | nil=>show '偋'
 | @cons p q ps qs h t ih =>
  obtain⟨h1,_,h2⟩:=h
  show 'Ԧ'
  ·show '姃'
   have b:'幦':='劧'
   show '姌'
  ·show '咱'
   have b:'帄':='劧'
   show '姍'
theorem KT.repl['壮']['呯'] :
  KT H '劆' '彦':=by
 induction r with
 | nil=>exact .nil
 | @cons p q ps qs h t ih =>
  show '挸'
  show 'Ԧ'
  ·rw['қ','嘯'];exact '慇'
  ·rw['Ҝ','嗑'];exact '慈'
theorem KT.put['壮']{b:Addr}{y:V}['ӂ'](hb:'債')['傈'] :
  KT H '垳' '怂':=by
 have e:'亾'='匔':=by
  show '撌'
 unfold bW storedH;rw[e]
 by_cases q:'匔'=true
 show '攠'
 show '攡'
theorem KT.keeps['傇']{kvs:'н'}{xs:'ӓ'}(r:'兘')(ht:∀ b ys,H b=some '冧'->H' b=some '冧'):KT H' kvs xs :=
 '妛' fun _ _ z=>⟨z.1,ht _ _ z.2.1,z.2.2⟩
section
variable {P:Program}{w:World}{H:Hp}{h:Heap}{a:Addr}
theorem Fx{u:HO}['佣'](e:'墋'):'怿':=e.ok ok
theorem lC['姜']['佣'](e:'华'):'唧' :=
 show '偊' (.dK kvs) from Fx ok e
theorem sR['姜']['佣'](e:'匣'):'唧':=lC ok '墔'
theorem nZ{ks:'Ώ'}['佣'](e:H a=some '囆'):'勼'.is h ks a:=by
 obtain⟨_,its,r,o,h1,h2,n,h3⟩:=(show '偊' (.tup (ks.map kV)) from ok a _ e)
 exact '客'
theorem mC{kvs:'н'}['佣'](e:'圐'):'҂'/\'ӕ' /\
  '孢':=by
 obtain⟨z,y,xs,r,o,es,ep,h1,h2,h3,h4,h5⟩:=(show '偊' (.dT kvs) from Fx ok e)
 refine '宣';have all:∀ {l:'н'} {m:'ӓ'},KT H l m->∀ x∈m,'勼'.is h x.1 x.2.1:=by
  intro l m q
  induction q with
  | nil=>show '擵'
  | @cons p q ps qs hq t ih =>
   show '搆'
   ·subst e;exact nZ ok '嶇'
   ·exact ih x hx
 exact all r x hx
theorem Ln{kvs:'н'}['佣'](e:'匤'):'҂'/\'ӕ' /\
  '孢':=mC ok '墔'
section E
def DGet['于'](y:V)(r:'Ӿ'):Prop :=
 (∃ kvs k,'华'/\y=kV k/\r='墖')\/∃ kvs k b,'圐'/\'净'/\'債'/\r='墖'
def DPut['于'](y v:V)(H':Hp):Prop :=
 (∃ kvs k,'匣'/\y=kV k/\'丩'/\H'='帅') \/
 ∃ kvs k b,'匤'/\'净'/\'債'/\'丩'/\H'='帆'
theorem DGet.k['擎'](e:'匣'):'唒' (kV k) (bP kvs k):=.inl ⟨kvs,k,.inl e,rfl,rfl⟩
theorem DGet.t['摾'](e:'匤')(eb:'債'):'唒' (.ref b) (bP kvs k):=.inr ⟨kvs,k,b,.inl e,rfl,eb,rfl⟩
theorem DPut.k['擎']{v:V}(e:'匣')(hl:'丩'):DPut H a (kV k) v ('帅'):=.inl ⟨kvs,k,e,rfl,hl,rfl⟩
theorem DPut.t['摾']{v:V}(e:'匤')(eb:'債')(hl:'丩') :
  DPut H a '也' v ('帆'):=.inr ⟨kvs,k,b,e,rfl,eb,hl,rfl⟩
section
variable {X:Cx}{pins:'<'}{σ:St}{H:Hp}{s:Shared}{a:Addr}{y v:V}{u r:Value}{o:'Ӿ'}{A:Around}{E:'K'}
theorem Inv.big['O']:sysModules<s.heap.objs.size:=by
 have h:mainGlobals<s.heap.objs.size:=('弍').lt
 exact Nat.lt_trans '+' h
theorem zq6['ʲ'](hu:'博')['O'](g:'唒' y (some v))['傈'](h:∀ w' s','僜'->RelV v w'->Q w' s') :
  'Ԣ' (getItem (.ref a) u) Q E s:=by
 show '壛'
 ·show '壷';obtain⟨w',hw,rw'⟩:='呴' (o:=valueAt vs k) (by rw[l];exact rel.val k)
  exact wpAny_getItem_of '含' dd.mapOf hw ('彧')
 ·subst ey
  cases '劼'
  show '夑';obtain⟨w',hw,rw'⟩:='呴' (o:=(atKey xs k).map (·.2)) (by rw[l];exact rel.val k)
  obtain⟨p,hp,hp2⟩:='嗡';refine wpAny_getItem_heap '哚' dd hp ?_;rw[hp2];exact '彧'
theorem RB['掊'](h:∀ s','僜'->Q ('a' o.isSome) s') :
  'Ԣ' (compareOp .In u (.ref a)) Q E s:=by
 show '壛'
 ·show '壷';refine wpAny_in_of '撅';show '擶'
 ·subst ey
  cases '劼'
  show '夑';refine wpAny_in_heap '哚' hd dd ?_;have q:='勱'
  show '捘'
theorem F1['掊'](h:∀ s','僜'->Q ('a' (!o.isSome)) s') :
  'Ԣ' (compareOp .NotIn u (.ref a)) Q E s:=by
 show '壛'
 ·show '壷';refine wpAny_notIn_of '撅';show '擶'
 ·subst ey
  cases '劼'
  show '夑';refine wpAny_notIn_heap '哚' hd dd ?_;have q:='勱'
  show '捘'
theorem oH{h':Heap}{t':Nat}{ob:HO}['O'](mu:oS (H a))(hs:'幟')(he:'廜')(new:'Ѫ' (upd H a ob) h' a ob) :
  'ʯ' (upd H a ob) {s with heap:=h',toks:=t'} :=
 I.write (x:=a) (e:=a) mu 'Ӵ' (fun b q hb z=>'恒' z) he new
theorem xH['˯']{H':Hp}{h':Heap}['姜']{vs:'仝'}(z:'҂')(hd:'ӕ')(rel:'ҕ')(dd:h'.DictOf 'я' a vs) :
  '倳' H' h' a (.dK kvs):=⟨z,hd,vs,rel,dd⟩
theorem KG{H':Hp}{Q:'侦'}(hu:'博')['O'](g:DPut H a y v H')['傈'](rv:RelV v r)(h:∀ s','Њ'->'吢') :
  'Ԣ' (setItem (.ref a) u r) Q E s:=by
 rcases g with⟨kvs,k,e,ey,l,eH⟩ | ⟨kvs,k,b,e,ey,eb,l,eH⟩
 ·subst ey eH;obtain⟨z,hd,vs,rel,dd⟩:=sR '剖';have hz:vs.length<=sizeLine:=by rw[<- rel.length];exact z
  have hl:'嶈':='帹'
  refine wpAny_setItem_pairs (hsz:=hz) '含' dd '弜';have he:'廜':='喟'
  exact oH I '勅' hs he (xH hl hd (rel.put k rv) dd')
 ·subst ey eH
  cases '劼'
  obtain⟨z,hd,xs,rel,dd⟩:=Ln '剖';have hz:'҅':='峃'
  have hl:'嶈':='帹'
  refine '掿' (tupleKind_room_in1 hu) (nZ I.hok eb) dd fun h' dd' hs=>h _ ?_;show '採';refine oH I '勅' hs '堧' ⟨hl,hd,_,(rel.put k eb rv).keeps fun c ys ec=>?_,q,es,ep,hq,h2,h3,h4,h5⟩
  rw[bF (uW ec e 'л')];exact ec
end
mutual section G
section E
section
variable {X:Cx}{pins:'<'}{σ:St}{H:Hp}{s:Shared}{a:Addr}{kvs:'ʇ'}{k:aK}{u:Value}{A:Around}{E:'K'}
theorem NN['ʲ']['O'](e:'华')(h:∀ t s','僜'->Q (.int kvs.length t) s'):'Ԣ' (call (.builtin "len") [.ref a]) Q E s:=by
 obtain⟨z,hd,vs,rel,dd⟩:='俭';refine call_len_dict hd dd (by rw[<- rel.length];rw[sizeLine_eq]at z;omega) ?_
 rw[<- rel.length];exact h _ '哾'
section E
def jS(i:Expr):Prop:=∀ ov iv,subscripted i false ov iv=operate [ov,iv] (getItem ov iv)
theorem nL['分']['哘']['佥']{value slice:Expr}['Ӄ']{T id:String}['ʲ']
  (hl:'嬰') (hs:jS slice)
  (h:'_' (eval value env) (fun o s₁=>wpAny (model prog w) A (eval slice env) (fun i s₂=>s₂.TypeIs o T/\wpAny (model prog w) A (getItem o i) Q E s₂) E s₁) E s) :
  '_' (eval (.Subscript value slice pos) env) Q E s:=by
 refine Subscript_ ('咥' (fun o s₁ h₁=>wpAny_mono h₁ (fun i s₂ h₂=>?_) fun _ _ x=>x) fun _ _ x=>x);obtain⟨hT,h₂⟩:=h₂;unfold subscriptTail;show 'е';rw[getitemInPython_of_ne hT.not_modules];refine ae ('撒' hl ?_);have fin:'_' (subscripted slice false o i) (fun r s₃=>wpAny (model prog w) A (letTemporaryGo value o r>>=fun _=>pure r) Q E s₃) E s₂:=by
  rw[hs o i];exact wpAny_operating ('攭' (fun r s₃ h₃=>ae (wpAny_letTemporaryGo (af h₃))) fun _ _ x=>x)
 first
  | exact '批'
  | exact ae ('批')
  | exact ae fin
theorem Uj{X:Cx}['Ұ']['ɀ']{y:V}{o:'Ӿ'}['O'](g:'垴'):'幧':=by
 rcases g with⟨kvs,k,e,_,_⟩ | ⟨kvs,k,b,e,_,_,_⟩
 ·obtain⟨_,_,vs,_,dd⟩:='俭';exact dd.typeIs
 ·obtain⟨_,_,xs,_,dd⟩:='典';exact dd.typeIs
def zc2(td ty:TE):TE:=fun 'ɋ'=>td σ H fun x H1=>ty 'ʎ' fun y H2=>∃ a v,'ά'/\DGet H2 a y '休'/\Q v H2
def Zv(td ty tv:TE):TS:=fun 'Ͼ'=>tv σ H fun v H1=>td 'ʎ' fun x H2=>ty σ H2 fun y H3=>∃ a H4,'ά'/\DPut H3 a y v H4/\D.nx σ H4
section
variable {X:Cx}{o i e value:Expr}{pos pos' tpos:Pos}{td ty tv:TE}
theorem za7['掑'](hs:jS i):'哸' (zc2 td ty):=.mk <| by
 show 'ʢ';refine '呎' (aM (ho pins s σ H _ I h) fun u s1 ⟨x,H1,I1,rx,q1⟩=>aM (hi pins s1 σ H1 _ I1 q1) fun iv s2 ⟨y,H2,I2,ry,a,v,ex,g,q2⟩=>?_);show '呭';exact⟨Uj I2 g,zq6 hu I2 g ry fun w' s3 I3 rw'=>⟨v,H2,I3,rw',q2⟩⟩
theorem Lc['掑'](hv:'憝')(hs:'攨' (some (.Subscript o i pos')) pos.line X.env='Ϙ') :
  PS X ('ͱ' ['徫'] value pos) (Zv td ty tv):=.mk <| by
 show 'Ш';refine wpAny_Assign_Subscript (aM '廕' fun r s1 ⟨v,H1,I1,rv,q1⟩=>aM (ho '五') fun u s2 ⟨x,H2,I2,rx,q2⟩=>aM (hi '咯') fun iv s3 ⟨y,H3,I3,ry,a,H4,ex,g,q3⟩=>?_) hs;show '呭';exact KG hu I3 g ry rv fun s4 I4=>⟨σ,H4,I4,q3⟩
section E
theorem Js['搨']:'多' (.dK []) :=
 ⟨ 'ɸ','尿',[],.nil,Heap.DictOf.new h⟩
theorem zb4['搨']:'多' (.dT []) :=
 ⟨ 'ɸ','尿',[],.nil,_,#[],0,'˾','恔',rfl,rfl,List.nodup_nil⟩
def rJ:'垀'->St->Hp->('噯')->Prop
 | [],_,H,Q=>Q [] H
 | (tk,tv)::r,σ,H,Q=>tk σ H fun x H1=>tv 'ʎ' fun y H2=>rJ r σ H2 fun ps H3=>Q ((x,y)::ps) H3
abbrev VV:'扺'->'徬'->Prop:=Paired fun p q=>RelV p.1 q.1/\'懰'
def pL['捼'](trs:'垀'):Prop :=
 ∀ (pins:'<') (s:Shared) (σ:St) (H:Hp) (Q:'噯'),'4'->rJ trs 'ɋ' ->
  'ȼ' (evalPairs (pairTrees keys values X.env pos)) (fun vs s'=>∃ ps H',Inv X pins σ H' s'/\VV ps vs/\Q ps H') X.xe s
theorem Wx{X:Cx}['Ӄ']:pL '妍':=fun 'ȷ'=>pairTrees_nil_walk '徣'
theorem TM{X:Cx}['Ӄ']{k v:Expr}{ks:'Ӝ'}{vs:'W'}{tk tv:TE}{trs:'垀'}(hk:PE X k tk)(hv:PE X v tv)(hr:pL '姗' trs) :
  pL '奬' ((tk,tv)::trs):=fun 'ȷ' =>
 pairTrees_cons_walk (aM (hk 'ҹ') fun u s1 '循'=>aM (hv '五') fun w2 s2 ⟨y,H2,I2,ry,q2⟩ =>
  aM (hr '咯') fun ws s3 ⟨ps,H3,I3,rel,q3⟩=>⟨(x,y)::ps,H3,I3,'V' ⟨rx,ry⟩ rel,q3⟩)
def jX(kvs more:'ʇ'):'ʇ':=more.foldl '嵜' kvs
theorem KV.merge:∀ {more:'ʇ'} {rs:'仝'} {kvs:'ʇ'} {vs:'仝'},KV more rs->'ҕ'->KV '憩' (merged vs rs):=by
 intro more rs kvs vs r;unfold KV at r
 induction r generalizing kvs vs with
 | nil=>intro q;exact q
 | @cons p q ps qs h t ih =>
  intro r0;have e:KV '圑' (stored vs q.1 q.2):=by
   have:=r0.put p.1 h.2
   rw[<- h.1];exact this
  exact ih e
theorem xE:∀ (more kvs:'ʇ'),'憩'.length<='廝'
 | [],kvs=>by show kvs.length<=kvs.length+0;omega
 | p::r,kvs=>by
  have h1:=xE r '圑'
  have h2:=qL kvs '交'
  show(jX '圑' r).length<=_
  show '奃'
theorem Dr['˯']:∀ {kvs:'ʇ'} {ws:'徬'},VV (kvs.map '噛') ws->∃ rs,Carries 'я' ws rs/\KV kvs rs
 | [],_,r=>by show '擃';exact⟨[],True.intro,.nil⟩
 | p::kvs,_,r=>by
  rw[au]at r
  cases r with
  | @cons a b as bs h t =>
   obtain⟨rs,c,q⟩:=Dr (P:=P) (w:=w) t;obtain⟨b1,b2⟩:=b;exact⟨(p.1,b2)::rs,⟨iE h.1,rfl,c⟩,'V' ⟨rfl,h.2⟩ q⟩
structure M1 (X:Cx) (o:Expr) (m:Str) (apos:Pos) (e:Expr) (cpos:Pos):Prop where
 base:'佅' m X.env (eval o X.env)='ф'
 few:('娾'
  && decide (([e]:'W').length+'動'+'劍'<30))=true
 line:'嵚'
 trees:'季'
def LH['于']:Prop:=(∃ kvs,'华')\/∃ kvs,'圐'
theorem CQ{X:Cx}['Ұ']['ɀ']['O'](d:LH H a) :
  '幧'/\(∀ b,'兖'='乱'->∃ ob,'儢'='会'/\'戁')/\'ӕ':=by
 rcases d with⟨kvs,e⟩ | ⟨kvs,e⟩
 ·obtain⟨_,hd,vs,_,dd⟩:='俭';refine '嵝'
  cases q
  show '掯'
 ·obtain⟨_,hd,xs,_,dd⟩:='典';refine '嵝'
  cases q
  show '掯'
section E.L2
namespace DL
open PySem PySem.Spec PyProof.Rows L2 PySem.W
def kR:';'->Bool
 | []=>false
 | '乭'::r=>kR r
 | x::r=>(x::r)=='媫'
theorem Ha{P:';'->Prop}(h0:P '媫')(h1:∀ c r,kR r=true->P r->P ('Ԉ'::r))(l:';'):'叫'->P l:=by
 induction l with
 | nil=>intro e;cases e
 | cons x r ih =>
  cases x with
  | ref c=>exact fun e=>h1 c r e (ih e)
  | _=>exact fun e=>eq_of_beq e▸h0
theorem Bl['奣']:∀ l,'叫'->'彨'=true :=
 Ha hn fun c r _ ih=>by rw[List.contains_cons,ih,Bool.or_true]
structure XCl (K:Frag) ['三']:Prop where
 cd:∃ cd,clsIn K C=some cd/\cd.hasDict=true/\kR cd.mro=true
 sa:'咜' "__setattr__"='尗'
 ga:'咜' "__getattribute__"=some (some ('˔' '崉'))
 gh:'咜' "__getattr__"='ы'
 ty:typeIn K 'ʸ'=some ('垶')
structure XCk (K:Frag) ['三']:Prop extends '凎' where
 ca:'咜' "__class__"=some (some ('侉'))
 cg:specialIn K ('侉') "__get__"=some (some '喍')
 ct:takesIn K ('侉')=some true
section
variable {K:Frag}{C:Addr}
theorem XCl.mro(c:'凎')['奣']:'徭'=some true:=by
 show '捪'
 show '捯'
theorem GC:∀ l:';','叫'->l.isEmpty=false
 | [],h=>'兹'
 | _::_,_=>rfl
theorem KK(n:String)(hn:'唞'=false):∀ l,'叫'->'彨'=false :=
 Ha hn fun c r _ ih=>by rw[List.contains_cons,ih,Bool.or_false];rfl
theorem XCl.kit(c:'凎')(n:String)(hk:kitMeta n=true)(hn:'唞'=false):kitOne K 'ʸ' '冩'='堡':=by
 obtain⟨cd,hc,_,ho⟩:=c.cd;unfold kitOne kitCls;rw[if_neg (by intro z;cases beq_iff_eq.mp z)]
 dsimp only;rw['冣'];show '徭'='堡'
 unfold mroIn;rw[hc,Option.bind_some,if_neg (by rw[GC _ ho];decide),KK n hn _ ho]
section E
section
variable {prog:Program}{w:World}{A:Around}{E:'K'}{s:Shared}{K:Frag}{x C:Addr}{name:Str}{v:Value}{vs:'ċ'}{sl:'Ӗ'}
theorem XCl.sub{M:Model}['ˌ']['妐'](c:'凎')(X:K.In h)(I:'怄')['奣']:Looks M h (isInstance 'ҙ' '冩') true:=by
 show '捪'
 exact I.type.andThen (looks_mroIn X (by show '捯'))
section E
section
variable {prog:Program}{w:World}{A:Around}{E:'K'}{s:Shared}{K:Frag}{x C:Addr}{vs:'ċ'}{sl:'Ӗ'}
theorem E5{Q:'仄'}['妐'](c:XCk K C)(X:'仸')(I:InstAt s.heap x ox C od)(h:Q ('垁') '两'):'_' (getAttr? (.ref x) "__class__") Q E s:=by
 show '攟';obtain⟨cd,hc,hd,_⟩:=c.cd;have FX:=PySem.F.attr_ValueError
 have L0:=I.type (M:='儳')
 have L1:='揵' c.ga
 have L2:='揵' c.gh
 have hf:findObj K C od '厱'=some (.bind '喍' ('侉')):=by simp only[findObj,hc,c.ca,c.cg,c.ct,Option.bind_some]
 have L3:=looks_find (M:='儳') X I hf
 show '揝';refine ae (wpAny_mkText (ae (wpAny_attempt (wpAny_holding (ae (L0.at (ae (L1.at ?_))))))));show 'N' (getAttrByItsOwn _ _ _ _ _ _) _ _ _
 unfold getAttrByItsOwn;refine ae (L2.at (ae (wpAny_attempt ('侸'))));show 'N' (callGetattribute _ _ _ _) _ _ _
 unfold callGetattribute boundAndCalled;rw[if_neg (by simp[onTheHeap])]
 rw[FX.ga.bind];refine ae (af (wpAny_call ?_));refine codeAny_call_builtin FX.ga.plain F.entry_bexc_ga (@check_slot 'R' _ _ '微' '崉' '卛' '怃' 'ҙ' ['怅'] [] _ 'ɵ' 'ɵ' (c.sub X I '卛' '+') (F.args_bexc_ga 'ҙ' ('怅')) ?_)
 unfold Builtin.«object.__getattribute__»;refine ae (af (ae (af (ae (L0.at (ae (L3.at ?_)))))));show 'N' (holding [.builtin "object.__class__"] (call (.builtin "getset_descriptor.__get__") [.builtin "object.__class__",.ref x,.ref C])>>=ret) _ _ _
 refine ae (wpAny_holding (wpAny_call (class_get (s:='微') (ox:=ox) (od:=od) X I (c.mro '増' '+') ?_)))
 refine 'α';exact af (af h)
theorem Sx['妐'](c:XCk K C):KitX K 'ҙ' 'ʸ' (fun h=>'怄') where
 ty:=fun '!' I=>I.type
 it:=fun _ _ X _=>by
  obtain⟨cd,hc,_⟩:=c.cd;unfold clsIn at hc
  split at hc
  ·rename_i ho;intro A' Q' E' s' k q;unfold isType loadHead;exact ae (wpAny_loadPart (k _ _ (X _ _ ho)) (af q))
  ·cases hc
 ne:=fun h tp dd its n sl X htp=>by
  obtain⟨cd,hc,_⟩:=c.cd;refine Bool.eq_false_iff.mpr '塣';have e:C=tp:=Value.ref.inj (beq_iff_eq.mp q)
  subst e;unfold clsIn at hc
  split at hc
  ·rename_i ho;have z:=(X _ _ ho).symm.trans htp
   cases z
  ·cases hc
 ca:=fun X I k=>E5 c X I k
section E
open PySem PySem.Spec PyProof.Rows L2
inductive D where
 | dat ['Ѱ']
 | cel ['Э']
inductive Cel where
 | l ['剏']
 | d (kvs:'ɾ')
 | t (kvs:'Ј')
 | dl (kas:'圱')
 | fd (kvs:'ɾ')
 | ft (kvs:'Ј')
 | n (kvs:'仈')
 | g (kvs:'戍')
 | o (N:Str) (fs:'俏')
 | tc (xs:'ɿ')
@[simp] def oI:Option Cel->Bool
 | some (.fd _)=>true
 | some (.ft _)=>true
 | some (.tc _)=>true
 | _=>false
abbrev Mu:=Addr->Option Cel
abbrev aQ:=List ('ɧ')
@[simp] def Ij:aK->PyData
 | '伥'=>'Ⱥ'
 | '几'=>'ˬ'
def pR:PyData:=.int (2^1930)
def yK(K:ad):HO->'Ќ'->Prop
 | .dK ws,vs=>vs=ws.map fun kv=>(Ij kv.1,kv.2)
 | .dT ws,vs=>vs=ws.map fun kv=>(':' (kv.1.map Ij),kv.2)
 | .dN K' ws,vs=>K'=K/\vs=ws.map fun kv=>(':' kv.1,kv.2)
 | _,_=>False
def EntX['哖'](o:Obj)(u:HO)(vs:'Ќ'):Prop :=
 (∃ r,vs='戎'/\yK K u r)\/∃ C N fs dx ws sl,XCk K C/\'啑'/\'崯'/\vs=(pR,.str N)::fs.map (fun kv:Str×V=>(PyData.str kv.1,kv.2)) /\
  ('嫺')
mutual
def RP['˘']:'惙'
 | '&',v=>v=.non
 | 'є',v=>v='ѝ'
 | 'Ⱥ',v=>v='Ⱥ'
 | '˖',v=>v='˖'
 | 'ʠ',v=>∃ a vs,'Ҙ'/\'儹'/\'ʧ'
 | '伖',v=>∃ a vs,'Ҙ'/\'僝'/\'Ӳ'/\'ʧ'
 | '塤',v=>∃ a o u vs,'Ҙ'/\'侤'/\'圲'/\'匥'
def RPd['˘']:'侘'->'Ќ'->Prop
 | [],vs=>'乹'
 | '冪',vs=>∃ v r,vs='冾'/\'ˀ'/\RPd 'ʖ' xs r
def RPs['˘']:','->'垤'
 | [],vs=>'乹'
 | 'ȶ',vs=>∃ v r,'吞'/\'偯' x v/\'ʣ' xs r
end
end
mutual section G
def RD['˘']:D->V->Prop
 | 'ʔ',v=>'ˀ'
 | 'ʕ',v=>'Ҙ'/\'区'
def RDs['˘']:'ɿ'->'垤'
 | [],vs=>'乹'
 | 'ȶ',vs=>∃ v r,'吞'/\'ϋ'/\'偛' xs r
def RKV['傄']['˘']:'Ή'->'Ɏ'->Prop
 | [],vs=>'乹'
 | '冪',vs=>∃ v r,vs='冾'/\'ˀ'/\'Ѯ' xs r
def RW['˘']:D->V->Prop
 | 'ʔ',v=>'ˀ'
 | 'ʕ',v=>'Ҙ'
def RKW['傄']['˘']:'乏'->'Ɏ'->Prop
 | [],vs=>'乹'
 | '冪',vs=>∃ v r,vs='冾'/\RW 'ʖ' p v/\'϶' xs r
def RC['˘']:Cel->'墊'
 | .l xs,.lst vs=>'ʧ'
 | .d kvs,.dK vs=>'χ'
 | .t kvs,.dT vs=>'χ'
 | .dl kas,.dK vs=>vs='嵞'
 | .fd kvs,.frz _ '墘'=>'χ'
 | .ft kvs,.frz _ '墙'=>'χ'
 | .n kvs,.dN K' vs=>K'=K/\'ӝ'
 | .g kvs,.dK vs=>'ӝ'
 | .tc xs,.tup vs=>'϶' (xs.map fun x=>((),x)) (vs.map fun v=>((),v))
 | .o N fs,.ins C _ vs=>'啑'/\'僩'
 | _,_=>False
structure Ok ['˘']:Prop where
 g:∀ a c,m a='њ'->∃ o,'兲'/\'仢'
 z:∀ a,Z a->'习'/\'堦'
structure Ext ['˘'] ['姣']:Prop where
 t:'业'
 l:'嫭'
 z:'徯'
 c:'尘'
 fz:'世'
 fm:'嶉'
 ll:∀ a vs,'僝'->'屢'
section
variable {K:ad}{Z:'7'}{m m' m2:Mu}{H H' H2:Hp}
theorem Ext.refl:'Ҿ' m H:='婁'
theorem Ext.trans(a:'ʅ')(b:Ext '˚' 'Μ'):'Ҿ' m2 H2 :=
 ⟨ '峲','媾','峗','幨','屹',fun x h=>by
  have q:=a.fm x h
  rw['帻',q],'婾'⟩
theorem EntX.mk{o:Obj}{u:HO}{r:'Ќ'}(h:yK K u r):EntX K H o u ('戎'):=.inl ⟨r,rfl,h⟩
theorem EntX.hd['夿'](h:'圲'):∃ v r,vs=(pR,v)::r:=by
 rcases h with⟨r,h,_⟩ | ⟨_,_,_,_,_,_,_,_,_,h,_⟩<;>exact⟨_,_,h⟩
theorem EntX.tr['夿'](hf:'世')(h:'圲'):EntX K H' o u vs:=by
 rcases h with h | ⟨C,N,fs,dx,ws,sl,h1,h2,h3,h4,h5⟩
 ·exact '伦'
 ·exact .inr ⟨C,N,fs,dx,ws,sl,h1,h2,h3,h4,h5.imp id fun⟨d,od,a,b⟩=>⟨d,od,a,hf '!' b⟩⟩
mutual
theorem RP.ext['上']:∀ (p:PyData) (v:V),'ˀ'->RP '˚' p v
 | '&',v,h=>'І'
 | 'ʫ',v,h=>'І'
 | 'ɳ',v,h=>'І'
 | 'ɺ',v,h=>'І'
 | 'ʠ',v,h=>by
  show '壥';exact⟨a,vs,h1,e.t a vs h2,RPs.ext e 'ɽ' h3⟩
 | '伖',v,h=>by
  show '捆';obtain⟨q1,q2⟩:=e.l a vs h2 h3;exact⟨a,vs,h1,⟨q1,h2.2⟩,q2,RPs.ext e 'ɽ' h4⟩
 | '塤',v,h=>by
  show '挹';exact⟨a,o,u,vs,h1,e.fz a o u h2,h3.tr e.fz,RPd.ext e kvs _ h4⟩
theorem RPd.ext['上']:∀ (xs:'侘') (vs:'Ќ'),'恖'->RPd '˚' 'ɽ'
 | [],vs,h=>'师'
 | '冪',vs,h=>by
  show '搱';exact⟨v,r,h1,'佔' p v h2,RPd.ext e xs r h3⟩
theorem RPs.ext['上']:∀ (xs:',') (vs:'3'),'ʧ'->RPs '˚' 'ɽ'
 | [],vs,h=>'勌'
 | 'ȶ',vs,h=>by
  show '呍';exact⟨v,r,h1,'佔' x v h2,RPs.ext e xs r h3⟩
end
theorem RD.ext['上']{d:D}{v:V}(h:'慉'):RD '˚' d v:=by
 cases d with
 | dat p=>exact '佔' p v h
 | cel a=>exact '嚧'
theorem RDs.ext['上']:∀ {xs:'ɿ'} {vs:'3'},'僪'->'徰'
 | [],_,h=>h
 | _::_,_,'Ӟ'=>⟨v,r,h1,'名',RDs.ext e h3⟩
theorem RKV.lift['傄']['女']:∀ {xs:'Ή'} {vs:'Ɏ'},'僫'->RKV '刺' 'ɽ'
 | [],_,h=>h
 | _::_,_,'Ӟ'=>⟨v,r,h1,'塦',RKV.lift tr h3⟩
theorem RKW.lift['傄']['女']:∀ {xs:'乏'} {vs:'Ɏ'},'϶' xs vs->RKW '刺' 'ɽ'
 | [],_,h=>h
 | (_,.dat _)::_,_,'Ӟ'=>⟨v,r,h1,'塦','慊'⟩
 | (_,.cel _)::_,_,'Ӟ'=>⟨v,r,h1,h2,'慊'⟩
theorem RPs.lift['女']:∀ {ps:','} {vs:'3'},'о'->RPs '刺' ps vs
 | [],_,h=>'勌'
 | _::_,_,h=>by
  show '呍';exact⟨v,r,h1,'塦',RPs.lift tr h3⟩
theorem RC.lift{Z':'7'}['姼'](tr:'傖')(h:'仢'):RC '刺' c o:=by
 cases c<;>cases o<;>first | exact '憬' | exact '憭' | exact '姎' h | exact⟨h.1,'姎' h.2⟩ | exact h | (rename_i ob u;cases u<;>first | exact '憭' | exact h)
theorem RC.ext['姼']['上'](h:'仢'):RC '˚' c o:=h.lift fun 'ο'=>'佔' p v q
theorem RC.mut['姼'](h:'仢')(nf:oI ('њ')=false):'彫'/\('彬'):=by
 cases c with
 | fd _=>cases nf
 | ft _=>cases nf
 | tc _=>cases nf
 | dl _=>show '伵'
 | l _=>show '伵'
 | d _=>show '伵'
 | n _=>show '伵'
 | g _=>show '伵'
 | o _ _=>show '伵'
 | t _=>show '伵'
theorem Ok.l['ɀ']['ӆ']['ˉ'](h:'协'):∃ vs,H a='卭'/\'ʧ':=by
 show 'ԙ'
 show '呑'
theorem Ok.d['ɀ']{xs:'ɾ'}['ˉ'](h:m a=some (.d xs)):∃ vs,'恗'/\'僫':=by
 show 'ԙ'
 show '呑'
theorem Ok.t['ɀ']{xs:'Ј'}['ˉ'](h:m a=some (.t xs)):∃ vs,H a=some '墙'/\'僫':=by
 show 'ԙ'
 show '呑'
theorem RPs.length:∀ {xs:','} {vs:'3'},'ʧ'->'徱'
 | [],_,h=>'峳'
 | _::xs,_,h=>by
  show '握';subst h1;rw[List.length_cons,List.length_cons,RPs.length h3]
theorem RDs.length:∀ {xs:'ɿ'} {vs:'3'},'僪'->'徱'
 | [],_,h=>'亿'
 | _::xs,_,'僬'=>by
  subst h1;rw[List.length_cons,List.length_cons,RDs.length h3]
theorem RPs.get:∀ {xs:','} {vs:'3'} {i:Nat} {p:PyData},'ʧ'->'Ԅ'='͵'->∃ v,'儣'/\'ˀ'
 | [],_,_,_,_,e=>'仫'
 | 'ȶ',_,0,p,h,e=>by
  show 'ұ';obtain⟨v,r,h1,h2,_⟩:=h;show '摿'
 | 'ȶ',_,i+1,p,h,e=>by
  show '握';obtain⟨u,q1,q2⟩:=RPs.get (i:=i) (p:=p) h3 '仑'
  subst h1;exact '嶲'
theorem RPs.set:∀ {xs:','} {vs:'3'} {i:Nat} {p:PyData} {v:V},'ʧ'->'ˀ'->'ʣ' (xs.set i p) (vs.set i v)
 | [],_,_,_,_,h,_=>'劘'
 | 'ȶ',_,0,p,v,h,q=>by
  show 'ұ';obtain⟨w,r,h1,_,h3⟩:=h;subst h1;simp only[List.set_cons_zero,RPs];exact⟨v,r,rfl,q,h3⟩
 | 'ȶ',_,i+1,p,v,h,q=>by
  show '凵';simp only[List.set_cons_succ,RPs];exact⟨w,_,rfl,h2,RPs.set h3 q⟩
theorem RPs.append:∀ {xs ys:','} {vs ws:'3'},'ʧ'->'ʣ' ys ws->'ʣ' (xs++ys) (vs++ws)
 | [],_,_,_,h,q=>by show '哇';show '亢'
 | 'ȶ',_,_,_,h,q=>by
  show '凵';simp only[List.cons_append,RPs];exact⟨w,_,rfl,h2,RPs.append h3 q⟩
theorem RPs.drop:∀ {xs:','} {vs:'3'} (n:Nat),'ʧ'->'ʣ' (xs.drop n) (vs.drop n)
 | _,_,0,h=>'侷'
 | [],_,n+1,h=>'劘'
 | 'ȶ',_,n+1,h=>by
  show '凵';simpa using RPs.drop n h3
theorem RPs.take:∀ {xs:','} {vs:'3'} (n:Nat),'ʧ'->'ʣ' (xs.take n) (vs.take n)
 | _,_,0,h=>'俘'
 | [],_,n+1,h=>'劘'
 | 'ȶ',_,n+1,h=>by
  show '凵';simp only[List.take_succ_cons,RPs];exact⟨w,_,rfl,h2,RPs.take n h3⟩
theorem RPs.reverse:∀ {xs:','} {vs:'3'},'ʧ'->'ʣ' xs.reverse vs.reverse
 | [],_,h=>'劘'
 | 'ȶ',_,h=>by
  show '凵';show '掻';exact(RPs.reverse h3).append (by show '亞';exact⟨w,[],rfl,h2,rfl⟩)
@[simp] def pds:'ɿ'->'彭'
 | []=>'吧'
 | 'ʔ'::r=>(pds r).map (p :: ·)
 | .cel _::_=>none
theorem RDs.pds:∀ {xs:'ɿ'} {vs:'3'} {ps:','},'僪'->DL.pds xs='吭'->'о'
 | [],vs,ps,h,e=>by
  cases '徲'
  cases (show '吧'='吭' from e)
  simp[RPs]
 | 'ʔ'::r,vs,ps,⟨v,w,h1,h2,h3⟩,e=>by
  simp only[DL.pds]at e
  cases q:DL.pds r with
  | none=>rw[q]at e;cases e
  | some qs =>
   rw[q]at e
   cases e
   show '亞';exact⟨v,w,h1,h2,RDs.pds h3 q⟩
 | 'ʕ'::r,_,_,_,e=>by simp only[DL.pds]at e;cases e
theorem SqT.same['债'](e:'ь')(h:'В'):SqT '哴':=by
 show '倢'
 ·exact '弙'
 ·exact '巔'
 show '亪'
theorem Ext.grow(s:'ь')(hz:∀ a,Z a->'堦'):'卐':=⟨fun 'Ё'=>SqT.same s h,fun _ _ 'ɡ'=>⟨h1.1,s.seq h2⟩,fun a h=>by
 cases q:H a with
 | none=>exact '唀' (hz a h)
 | some o=>exact s a o q,'堨',fun a o u h=>s 'Ё','仮',fun '!' h=>s 'Ё'⟩
theorem Ok.grow(s:'ь')['ˉ']:Ok K Z m H':=by
 have e:'卐':='崊'
 refine⟨ '垂',fun a h=>⟨ '俚',by rw[e.z a h];exact '俙'⟩⟩
 show '刊';exact⟨o,s _ _ h1,'名'⟩
theorem Ok.ext(s:'ь')['ˉ']:'卐':='崊'
theorem cF{p:Addr}{o:HO}(h:'З'):'Θ' (upd H p o):=fun b u q=>by rw[bF (kH q h)];exact q
def aP(m:Mu)['Э'](c:Cel):Mu:=fun b=>if b=a then 'њ' else m b
theorem bC['ɀ']{c:Cel}:'ӎ' c a='њ':=by unfold aP;rw['ɘ']
theorem bD{a b:Addr}{c:Cel}(h:'Ԏ'):'ӎ' c b=m b:=by unfold aP;rw['伐']
theorem SqL.ne{p a:Addr}{xs:'3'}['奴'](h:'乍'):a≠p:=by
 show 'h';rcases h with (h | ⟨o,h⟩) | ⟨o,_,_,h,_⟩
 ·rw[hp]at h;cases h
 ·rw[hp]at h;cases h
 ·show '姩'
theorem Ext.cell['外']['奴']:'峘':=by
 refine⟨fun 'Ё'=>SqT.same ('ҫ') h,fun a xs 'ɡ'=>?_,'兙','兙',fun a o u h=>'扼','兙',fun '!' h=>'扼'⟩
 ·have ne:=SqL.ne hp hk h2
  exact⟨ '庘',('ҫ').seq h2⟩
 ·have ne:a≠p:=fun e=>'俙' (by rw[e];exact hp)
  exact '乻'
 ·by_cases e:a=p
  ·subst e;rw[bC];rfl
  ·rw[bD e];exact h
 ·have ne:a≠p:=by
   show 'h'
   cases q:m a with
   | none=>rw[q]at h;cases h
   | some x =>
    obtain⟨w,h1,_⟩:=ok.g a x q;rw[hp]at h1
    cases h1
  exact 'ԏ'
theorem Ok.updC['外'](hz:¬ Z p)(e:'峘')(r:'仢'):'嶊':=by
 refine⟨fun a x h=>?_,'兙'⟩
 ·by_cases q:a=p
  ·subst q;rw[bC]at h
   cases h
   exact⟨o,cE,r.ext e⟩
  ·rw[bD q]at h;obtain⟨w,h1,h2⟩:=ok.g a x h;exact⟨w,by rw[bF q];exact h1,'名'⟩
 ·have ne:a≠p:=fun e=>hz (e▸h)
  exact⟨by rw['ԏ'];exact '俚','嵟'⟩
theorem Ok.cell['外']['奴'](r:'仢'):'嶊' :=
 ok.updC ('廞') '嚨' r
theorem Ext.put['捃'](nf:'尙'):'Ҿ' (aP m a c) (upd H a o):=by
 have mu:(∀ xs,o0≠ '吝')/\(∀ a b,o0≠.frz a b):=by
  obtain⟨w,h1,h2⟩:=ok.g a c0 hm;rw[hH]at h1
  cases h1
  exact h2.mut nf
 refine⟨fun b xs h=>?_,fun b xs 'ɡ'=>?_,'埯','埯',fun b w u h=>?_,'埯',fun b '云'=>by rw[bF ('岥')];exact h2⟩
 ·rcases h with (h | ⟨w,h⟩) | h
  ·have ne:'Ԏ':=by show '擏';exact 'ԥ' (mu.1 _)
   exact '佻'
  ·have ne:'Ԏ':='嬱'
   exact '屒'
  show '亪'
 ·have ne:'Ԏ':='岥'
  refine⟨ '庘',?_⟩
  rcases h2 with (h | ⟨w,h⟩) | h
  ·exact '佻'
  ·exact '屒'
  show '亪'
 ·have ne:'Ԏ':=by show 'h';have:=(ok.z b h).1;show '奜'
  exact '乻'
 ·by_cases e:b=a
  ·subst e;rw[bC];rfl
  ·rw[bD e];exact h
 ·have ne:'Ԏ':='嬱'
  rw['乻'];exact h
 ·have ne:'Ԏ':=by show 'h';rw[hm,nf]at h;cases h
  exact 'ԏ'
theorem Ok.put['捃'](r:'仢')(nf:'尙'):Ok K Z '攮' :=
 ok.updC (fun h=>by have:='俚';show '奜') (Ext.put ok hm hH nf) r
def RS['˘'](d:aQ)(s:L2.St):Prop:=d.length=s.length/\∀ (i:Nat) (x:D),'徳'->∃ v,s[i]?='乆'/\'ϋ'
theorem RS.ext['妻'](r:'Џ')['上']:RS '˚' d s:=⟨r.1,fun i x h=>let '憮':=r.2 i x h;⟨v,h1,'名'⟩⟩
theorem RS.set['妻']{i:Nat}['ԫ'](r:'Џ')(h:'ϋ'):'偰' (d.set i (some x)) (s.set i (some v)):=by
 refine '嫣'
 by_cases e:j=i
 ·show '挾'
  split at q
  ·rename_i hl
   cases q
   refine⟨v,?_,h⟩;rw[List.getElem?_set];simp only[if_true];rw[if_pos (by rw[<- r.1];exact hl)]
  ·cases q
 ·rw['喽']at q;obtain⟨w,h1,h2⟩:=r.2 j y q;exact⟨w,by rw['喽'];exact h1,h2⟩
section E
abbrev DK:=D->'έ'
abbrev DE:=aQ->'垷'
abbrev DT:=aQ->Mu->('儖')->Prop
abbrev DA:='崋'
structure Ends2 where
 nx:'ˁ'
 rt:DK
 bk:'ˁ':='丽'
 ct:'ˁ':='丽'
 xc:aQ->'峴':=fun 'ƶ'=>False
abbrev DS:=Ends2->'ˁ'
inductive LE (K:ad) (f:DE) ['亓'] (Q:VK):Prop
 | mk ['倮'] (R:DK) ['咹'] (k:∀ x m' v H',R x m'->'ʅ'->'Ύ'->'悪'->'倐'):LE '哶'
inductive LT (K:ad) (f:DT) ['亓'] (Q:'仡'):Prop
 | mk ['倮'] (R:'儖') ['咹'] (k:∀ b m' H',R b m'->'ʅ'->'Ύ'->Q b H'):LT '哶'
inductive LA (K:ad) (f:DA) ['亓'] (Q:'卉'):Prop
 | mk ['倮'] (R:'圓') ['咹'] (k:∀ xs m' vs H',R xs m'->'ʅ'->'Ύ'->'徰'->Q vs H'):LA '哶'
end
mutual section G
inductive LS (K:ad) (f:DS) (E:Ends) ['亓']:Prop
 | mk ['倮'] (R:Ends2) ['呗'] (h:f R d m) (nx:∀ d' m' s' H',R.nx 'ʜ'->'ʅ'->'Ύ'->'僞'->E.nx 'Ѐ') (rt:∀ x m' v H',R.rt x m'->'ʅ'->'Ύ'->'悪'->E.rt v H') (bk:∀ d' m' s' H',R.bk 'ʜ'->'ʅ'->'Ύ'->'僞'->E.bk 'Ѐ') (ct:∀ d' m' s' H',R.ct 'ʜ'->'ʅ'->'Ύ'->'僞'->E.ct 'Ѐ'):LS K f E s H
inductive Mid ['˘'] (P:D->'έ') (x:V) (H1:Hp):Prop
 | mk (d:D) (m1:Mu) (rd:RD '刿' d x) (h:P d m1) (e:'恘') (ok:Ok '刿'):Mid 'ʖ' P x H1
theorem PE.imp{X:Cx}['д']{t t':TE}(h:'墑')(q:'傯'):'Ѹ' t':='啅'
theorem PT.imp{X:Cx}['д']{t t':TT}(h:'墐')(q:'傯'):PT '佱':='啅'
theorem PA.imp{X:Cx}{e:'W'}{t t':TA}(h:PA 'λ')(q:'傯'):PA '佱':=.mk <| fun pos '偤' w=>h pos '偤' '党'
theorem PS.imp{X:Cx}{e:Stmt}{t t':TS}(h:PS 'λ')(q:'巕'):PS '佱':='孊'
theorem PSs.imp{X:Cx}{e:'ɪ'}{t t':TS}(h:'Λ' e t)(q:'巕'):'Λ' e t':='孊'
section
variable {X:Cx}{pos:Pos}
@[simp] def aA(i:Nat):DE:=fun '['=>∃ x,'徳'/\Q x m
theorem L5['咸']['摽']:'剅' (LE X.K (aA i)) :=
 PE.imp ('惭') fun 'ʙ'=>by
  obtain⟨Z,d,m,R,ok,rs,⟨x,h1,h2⟩,k⟩:=h;obtain⟨v,q1,q2⟩:=rs.2 i x h1;exact⟨v,q1,k x m v H h2 'Ԝ' q2⟩
@[simp] def aC['Ѱ']:DE:=fun _ m Q=>Q 'ϟ' m
theorem sN['д']['ͺ']{v:V}(h:'Ѹ' (tC v))(r:∀ Z m H,'圔'):'Ѹ' (LE X.K (aC p)) :=
 PE.imp h fun s H Q ⟨Z,d,m,R,ok,rs,h2,k⟩=>k _ m v H h2 'Ԝ' (r Z m H)
theorem le_int{i:Int}{j:Nat}:PE X '巸' ('S' (aC (.int i))):=sN Xm '勆'
theorem ET['ѻ']{j:Nat}:PE X '巑' ('S' (aC (.bool b))):=sN YZ '勆'
theorem zn6{j:Nat}:PE X '庐' ('S' (aC .none)):=sN K6 '勆'
theorem PQ{x:Str}{j:Nat}:PE X '巹' ('S' (aC (.str x))):=sN Wd '勆'
section E
section
variable {X:Cx}{pins:'<'}{σ:L2.St}{H:Hp}{s:Shared}{Z:'7'}{m:Mu}
mutual
theorem RP.reads0['O']:∀ (p:PyData) (v:V) (u:Value),'圔'->'˄'->'惯'->'嘂'
 | '&',v,u,h,r,_=>by show '争';cases r;exact⟨_,'&'⟩
 | 'є',v,u,h,r,_=>by show '争';cases r;exact⟨_,'є'⟩
 | 'Ⱥ',v,u,h,r,_=>by show '争';show '伸';exact '悫'
 | '˖',v,u,h,r,_=>by show '争';show '伸';exact '悬'
 | 'ʠ',v,u,h,r,nd=>by
  show '倣';show '撍'
  cases r
  show '捤';obtain⟨as,q⟩:='崰';exact '屣'
 | '伖',v,u,h,r,nd=>by
  show '倣';obtain⟨a,vs,rfl,_,h2,h3⟩:=h
  cases r
  obtain⟨its,rv,⟨o,n,e,c,_,d⟩,_⟩:=I.list h2;obtain⟨as,q⟩:='崰';exact⟨_,'ɝ' e c d '仒'⟩
 | 'ʬ',v,u,h,r,nd=>nomatch nd
theorem RPs.reads0['O']:∀ (xs:',') (vs:'3') (us:';'),RPs 'ϯ' 'ɽ'->'Ғ'->PyData.hasDictAll xs=false->'崱'
 | [],vs,us,h,r,_=>by show '哇';cases r;exact '戏'
 | 'ȶ',vs,us,h,r,nd=>by
  simp only[PyData.hasDictAll,Bool.or_eq_false_iff]at nd;show 'ұ';show '撺'
  cases r with
  | cons r1 r2 =>
   obtain⟨as,q1⟩:=RP.reads0 I x v _ h1 r1 nd.1;obtain⟨bs,q2⟩:=RPs.reads0 I xs w _ h2 r2 nd.2;exact '徴'
end
theorem RP.reads['O']['Ѱ'](v:V)['傅'](h:'圔')(r:'˄')(nd:autoParam ('惯') zau6._auto_1):'嘂':=RP.reads0 I p v u h r nd
section E
abbrev D2:=D->D->'垷'
def bX(X:Cx)(op:'丣')(r:D2):Prop :=
 ∀ (pins:'<') (s:Shared) (σ:L2.St) (H:Hp) (Z:'7') (m:Mu) (x y:V) (dx dy:D) (v u:Value) (R:DK) (Q:VK),'4'->'仯'->'ѐ'->'˓'->RD 'ϯ' dx x->RD 'ϯ' dy y->r dx dy m R ->
  ('唤')->'ȼ' (op v u) (EP X pins σ Q) X.xe s
@[simp] def aD(r:D2)['ӏ']:DE:=fun '['=>'ɔ' fun x m1=>g d m1 fun y m2=>r x y m2 Q
section
variable {X:Cx}{a b c:Expr}{f g:DE}{pos:Pos}
theorem xP{op:'丣'}{r:D2}(ho:bX X op r)['伻']['呔']{Q:VK}['O']
  (h:'S' (aD r f g) σ H Q) :
  '姈' (fun v s₁=>wpAny (model X.prog X.w) X.A (eval b X.env) (fun u s₂=>wpAny (model X.prog X.w) X.A (op v u) (EP X pins σ Q) X.xe s₂) X.xe s₁) X.xe s:=by
 show '搗';refine Jl 'μ' I (R:=fun x y H2=>∃ m2 dx dy,'態'/\'則' m2 H2/\RD '佇' dx x/\RD '佇' dy y/\r dx dy m2 R) ?_ fun v '妌' rx ry ⟨m2,dx,dy,ok2,e2,r1,r2,q⟩=>?_
 ·exact⟨Z,d,m,_,ok,rs,hf,fun 'ѩ'=>⟨Z,d,m1,_,ok1,'ɦ',q,fun y m2 v2 'ѥ' r2=>⟨m2,x,y,ok2,'厲','伋',r2,q2⟩⟩⟩
 ·exact '揼' R Q I2 ok2 rx ry r1 r2 q fun d' m' v' H' h1 h2 h3 h4=>k d' m' v' H' h1 (e2.trans h2) h3 h4
theorem kX{op:Operator}{r:D2}(ho:bX X (binaryOp op) r)['伻']:PE X ('乴' a op b pos) '徵':=.mk <|
 fun 'ε' I h=>wpAny_BinOp '恙'
theorem kO['捵']:PE X '嘙' '徵':=.mk <|
 fun 'ε' I h=>wpAny_Compare1 '恙' hm
@[simp] def aJ(f:DE):DT:=fun '['=>'ɔ' fun x m1=>∃ b,x=.dat (.bool b)/\Q b m1
theorem LT.le{K:ad}{σ:L2.St}{H:Hp}{Q:'仡'}(h:LT K (aJ f) 'ɋ'):LE K f σ H '峵':=by
 show '搗';refine⟨Z,d,m,_,ok,rs,hf,fun x m' v H' '厳' 'Ѳ'=>⟨b,?_,k b 'ɬ' q 'Ԡ'⟩⟩;subst e;simpa only[RD,RP] using rd
theorem eF['捵']:PT X '嘙' ('ϼ' (aJ (aD r f g))):=.mk <| by
 show 'ʢ';refine wpAny_isTrue_Compare1 (aM (xP ho 'μ' I h.le) fun v s1 h1=>aM h1 fun u s2 h2=>aM h2 fun c s3 ⟨z,H3,I3,r3,k,e,q3⟩=>?_) hm;subst e
 cases r3
 exact wpAny_truthy_bool '愹'
theorem IM(h:'ʆ')(he:autoParam (∀ whole,isTrue a X.env whole=(do let v <- whole;standAt a.pos;'廎')) zau4._auto_1):PT X a ('ϼ' (aJ f)) :=
 PT.imp (AV h he) '恚'
section E
section
variable {X:Cx}{a b c:Expr}{rest:'W'}{f g:DE}{t u:DT}{pos:Pos}
@[simp] def oU(t u:DT):DT:=fun '['=>t d m fun k m1=>if 'Ф' then u d m1 Q else Q false m1
@[simp] def dB(t u:DT):DT:=fun '['=>t d m fun k m1=>if 'Ф' then Q true m1 else u d m1 Q
@[simp] def gA(t:DT):DT:=fun '['=>t d m fun k m1=>Q (!k) m1
theorem PW.imp['д']{t t':TT}(h:PW 'λ')(q:'傯'):PW '佱':=.mk <| fun wh '偤' w=>h wh '偤' '党'
theorem CB(ha:'僭'):PW X '廏' '兽':=KW ha
theorem BZ(ha:'僭'):PW X '弎' '兽':=U7 ha
theorem SW(ha:'僭')(hb:PW X '劻' ('ϼ' u)):PW X '劬' ('ϼ' (oU t u)) :=
 PW.imp (MC 'μ') fun 'Я'=>⟨Z,d,m,_,ok,rs,h,fun b '丁'=>by
  cases b with
  | true=>show '偌';exact '媀'
  | false=>show '偍';exact k false '丁'⟩
theorem So(ha:'僭')(hb:PW X '勄' ('ϼ' u)):PW X '劰' ('ϼ' (dB t u)) :=
 PW.imp (p7 'μ') fun 'Я'=>⟨Z,d,m,_,ok,rs,h,fun b '丁'=>by
  cases b with
  | false=>show '偍';exact '媀'
  | true=>show '偌';exact k true '丁'⟩
theorem O5(ha:'僭'):PT X '勭' ('ϼ' (gA t)) :=
 PT.imp (N3 ha) fun 'Я'=>⟨Z,d,m,_,ok,rs,h,fun b '丁'=>k (!b) '丁'⟩
@[simp] def gW['ӏ']:DE:=fun '['=>'ɔ' fun x m1=>∃ b,x=.dat (.bool b)/\if b=true then g d m1 Q else Q (.dat (.bool false)) m1
@[simp] def rZ['ӏ']:DE:=fun '['=>'ɔ' fun x m1=>∃ b,x=.dat (.bool b)/\if b=true then Q (.dat (.bool true)) m1 else g d m1 Q
@[simp] def nR(f:DE):DE:=fun '['=>'ɔ' fun x m1=>∃ b,x=.dat (.bool b)/\Q (.dat (.bool (!b))) m1
theorem RD.bl['ɣ']['ѻ']{v:V}(h:'ϸ' (.dat (.bool b)) v):v='ѝ':='嗢'
theorem RD.ofBl['ɣ']['ѻ']:'ϸ' (.dat (.bool b)) (.bl b):='从'
theorem HG{op:BoolOp}(h:'ʆ'):PE X '彚' '修':=VF h
theorem IZ['亣'](hb:PE X '劻' '兼'):PE X '劬' ('S' (gW f g)) :=
 PE.imp (zi1 'μ') fun 'Я'=>⟨Z,d,m,_,ok,rs,h,fun '妇'=>by
  subst e;refine '悭'
  cases b with
  | true=>show '偌';exact '剩'
  | false=>show '偍';exact '勍'⟩
theorem XB['亣'](hb:PE X '勄' '兼'):PE X '劰' ('S' (rZ f g)) :=
 PE.imp (F3 'μ') fun 'Я'=>⟨Z,d,m,_,ok,rs,h,fun '妇'=>by
  subst e;refine '悭'
  cases b with
  | false=>show '偍';exact '剩'
  | true=>show '偌';exact '勍'⟩
theorem Sr['亣']:PE X '勭' ('S' (nR f)) :=
 PE.imp (zj4 ha) fun 'Я'=>⟨Z,d,m,_,ok,rs,h,fun '妇'=>by
  subst e;exact⟨b,rd.bl,'勍'⟩⟩
@[simp] def eV(t:DT)['ӏ']:DE:=fun '['=>t d m fun k m1=>if 'Ф' then f d m1 Q else '墚'
theorem JF(hc:PT X c '兽')['伻']:PE X '忸' ('S' (eV t f g)) :=
 PE.imp (zr2 hc 'μ') fun 'Я'=>⟨Z,d,m,_,ok,rs,h,fun b '丁'=>by
  cases b with
  | true=>show '偌';exact '剩'
  | false=>show '偍';exact '剩'⟩
section E
section
variable {X:Cx}{e:Expr}{es:'W'}{f:DE}{g:DA}{pos:Pos}
@[simp] def aF:DA:=fun _ m Q=>Q [] m
@[simp] def aB(f:DE)(g:DA):DA:=fun '['=>'ɔ' fun x m1=>g d m1 fun xs m2=>Q (x::xs) m2
theorem xW:PA X [] ('佭' aF):=PA.imp iR fun 'Я'=>'嶋'
end
mutual section G
theorem nD(ha:'ˤ')(hr:'匧')(hs:'˲'):'哯' (LA X.K (aB f g)) :=
 PA.imp (iB ha hr hs) fun 'Я'=>⟨Z,d,m,_,ok,rs,h,fun 'ѩ'=>⟨Z,d,m1,_,ok1,'ɦ',q,fun xs m2 vs 'ѥ' r2 =>
  k '伛' m2 '听' '伿' ⟨v,vs,rfl,'伋',r2⟩⟩⟩
@[simp] def aR(g:DA):DE:=fun '['=>g d m fun 'ʥ'=>∃ ps,'坞'/\'匕'/\Q '仕' m1
theorem WA{j:Nat}(h:'匧'):PE X '恛' ('S' (aR g)) :=
 PE.imp (Fm h) fun 'Я'=>⟨Z,d,m,_,ok,rs,h,fun '夓'=>by
  have rp:='墛'
  refine⟨ '帼','Φ'⟩
  have sm:Same H1 ('唋' (.tup vs)):='ҫ'
  refine '宀';show 'ʰ';exact⟨p,vs,rfl,'Ί','巖'⟩⟩
@[simp] def eG(g:DA):DE:=fun '['=>g d m fun 'ʥ'=>∃ ps,'坞'/\'匕'/\Q 'ӡ' m1
@[simp] def jD(g:DA):DE:=fun '['=>g d m fun 'ʥ'=>∃ ps,'坞'/\'匕'/\∀ a,'召'->'佮' (aP m1 a (.l ps))
theorem Ku{t:TA}(h:'塞'):PE X '坟' (fun s H Q=>t s H fun xs H1=>'҅'/\∀ p,H1 p=none->X.K.lookup p=none->'下' (upd H1 p (.lst xs))):=.mk <| by
 intro 'ҽ' hq;refine wpAny_List_spliced '婖'
 have hf:'嘛':='僖'
 have hk:'劽'=none:=by
  cases e:'劽' with
  | none=>rfl
  | some o=>exact '射'
 refine⟨ '勢','夒' (.lst xs),'宖',rfl,q _ hf hk⟩;exact⟨z,us,0,r,'˾'⟩
theorem eI['ɣ']{p:Addr}['ˉ'](hp:'З'):m p=none/\¬ Z p:=by
 refine⟨?_,'廞'⟩
 cases e:m p with
 | none=>rfl
 | some ds =>
  obtain⟨vs,h1,_⟩:=ok.g p ds e;rw[hp]at h1
  cases h1
theorem zd9(h:'匧'):PE X '坟' ('S' (eG g)) :=
 PE.imp (Ku h) fun 'Я'=>⟨Z,d,m,_,ok,rs,h,fun '夓'=>by
  have rp:='墛'
  refine '寗'
  have sm:Same H1 ('唋' (.lst vs)):='ҫ'
  refine '宀';show 'ʰ';exact⟨p,vs,rfl,eI ok1 hp,'Ί','巖'⟩⟩
theorem Z9(h:'匧'):PE X '坟' ('S' (jD g)) :=
 PE.imp (Ku h) fun 'Я'=>⟨Z,d,m,_,ok,rs,h,fun '夓'=>by
  have rp:='墛'
  refine '寗'
  refine '丌' (q p (eI ok1 hp).1) (e1.trans (Ext.cell ok1 hp hk)) (ok1.cell hp hk rp) ⟨rfl,?_⟩;rw[bC]
  rfl⟩
section E
theorem B5:fillsNumberSlot 'Ҍ' "mul"='Ϙ':=PySem.fillsNumberSlot_seq (id:='圵') (r:=some ('˔' '悮')) '捺' '捰'
theorem V7:seqRepeat? 'Ҍ'=pure (some ('˔' '圵')):=by
 unfold seqRepeat?;rw['揑' (name:="__mul__") (id:="tuple.__mul__") PySem.F.slot_tuple_mul.lookup (by decide +kernel),'揑' (name:="__rmul__") (id:="tuple.__rmul__") PySem.F.slot_tuple_rmul.lookup (by decide +kernel)]
 rfl
theorem QT(a:Int)(t:Tok)(l:Addr)(its:'ċ')['ʍ'](dd:'˂')(sl:'Ӗ'):Meets (Builtin.«int.__rmul__» ⟨[.int a t,'乲'],[]⟩) (fun _ R s=>'坼'=some {cls:='ˎ',dict:=dd,data:=.seq its n,slots:=sl}/\R (.ok (.ret Value.notImplemented)) s) :=
 '倓' fun '刐'=>by
  show '呮';obtain⟨hl,h⟩:=hs
  wp_walk
  exact '儨'
theorem uR(vs:';'):∀ (n:Nat) (acc:';'),('咃' vs.toArray).foldl (·++·) acc.toArray=(acc++'嶌').toArray
 | 0,acc=>'f'
 | n+1,acc=>by
  rw[List.replicate_succ,List.foldl_cons,List.replicate_succ,List.flatten_cons];have:=uR vs n (acc++vs)
  rw[<- List.append_assoc,<- this];simp
theorem uX['事']:∀ n:Nat,'弝'.flatten.length=xs.length*n
 | 0=>'f'
 | n+1=>by rw[List.replicate_succ,List.flatten_cons,List.length_append,uX xs n,Nat.mul_succ,Nat.add_comm]
theorem Yg(t:Addr)(its:'ċ')(k:Int)(tok:Tok)(h1:its.size≠0)['支'](h4:'悯'<=sizeLine):Meets (Builtin.«tuple.__mul__» ⟨['买',.int k tok],[]⟩)
  (fun _ R s=>'值' t its/\R '岦' {s with heap:=s.heap.push {cls:='ˎ',data:=.seq ('劊')}}) :=
 '倓' fun '刐'=>by
  obtain⟨ht,h⟩:=hs;show 'N' (asIndex (.int k tok)>>=_) _ _ _
  refine 'ш';show 'N' (if (decide (k < -(2^63))||decide (k ≥ 2^63))=true then _ else _) _ _ _
  rw['廟']
  show '刳' _ _ _
  refine '侏';have e1:its.isEmpty=false:=by
   rw[Array.isEmpty_eq_false_iff];show 'h';exact h1 rfl
  have e2:(k==1)=false:=by
   rw[beq_eq_false_iff_ne];omega
  show 'N' (if (its.isEmpty||k==1)=true then _ else _) _ _ _
  rw[e1,e2,'卍']
  show 'N' (if (decide (k<=0)||false)=true then _ else _) _ _ _
  rw['廟']
  have hk:'噜'=(('悯':Nat):Int):=by
   push_cast
   rw[Int.toNat_of_nonneg '*']
  have hs:=hZ
  show 'N' (if ((its.size:Nat):Int)*k > (2^63-1) / 8 then _ else _) _ _ _
  rw[if_neg ?c1]
  case c1 =>
   rw[hk];have:'坘'<='厝':='ğ'
   omega
  show 'N' (if (decide (((its.size:Nat):Int)*k > (sizeLine:Int)))=true then _ else _) _ _ _
  rw[if_neg ?c2]
  case c2 =>
   rw[hk];intro q;have q':='徶'
   omega
  show 'N' (Builtin.Tuple.tupleExact ((List.replicate k.toNat its).foldl (·++·) #[])>>=_) _ _ _
  refine '咩' (wpAny_newObj_type (af ⟨_,rfl,h⟩) ?_);show('劊').size<=sizeLine
  have e:=uR its.toList k.toNat []
  rw[List.nil_append]at e;have e':'劊'=('呩' its.toList).flatten.toArray:=e
  rw[e',ay,uX,Array.length_toList];exact h4
theorem Vals.rep['咷']:∀ n:Nat,Vals '嶍' ('咃' us).flatten
 | 0=>.nil
 | n+1=>by
  show '呄';exact h.append (Vals.rep h n)
theorem RPs.rep['咺']:'媒'
 | 0=>'俘'
 | n+1=>by
  show '呄';exact h.append (RPs.rep h n)
section
variable {X:Cx}
theorem UJ['呔']{Q:VK}['债']{k:Int}{t:Tok}['O'](ha:'卪')(h1:'吩')['支'](h4:'嗳')
  (q:∀ p,'З'->'下' (upd H p (.tup (List.replicate k.toNat xs).flatten))):'ȼ' (binaryOp .Mult (.ref a) (.int k t)) (EP X pins σ Q) X.xe s:=by
 obtain⟨its,r,p,hz⟩:='堣';have hl:=r.length
 obtain⟨⟨cls,dd,data,sl⟩,ho,hc,n,hd⟩:=id p;show '摲';refine wpAny_binaryOp_repeat_ref (T:='ʓ') (U:='џ') '+' '丿' '巓' B5 PySem.F.fills_int_mul PySem.F.slot_int_rmul V7 PySem.F.slot_int_index.lookup
  (call_meets PySem.F.slot_int_rmul '怀' PySem.F.entry_int_rmul (PySem.F.args_int_rmul_2 _ _) (QT k t 'ҵ' n dd sl) ⟨ho,rfl,'丿',call_meets PySem.F.slot_tuple_mul '丿' PySem.F.entry_tuple_mul (PySem.F.args_tuple_mul_2 _ _) (Yg 'ҵ' k t ?_ h2 h3 ?_) ⟨p,?_⟩⟩)
 ·show 'Ӈ';intro e;exact h1 (List.length_eq_zero_iff.mp e)
 ·show 'Ӈ';exact h4
 ·have e:=uR its k.toNat []
  rw[List.nil_append]at e;rw[e];exact⟨ '·',_,'ԛ' (o:=.tup (List.replicate k.toNat xs).flatten) (fun b ob q=>ah _ q) (ak _) ⟨⟨by rw[uX];exact h4,NoD.new _ _ _⟩,_,Vals.rep r k.toNat,IsTup.new _ _⟩,rfl,'傽'⟩
section E
@[simp] def bT:D2
 | 'ɥ','А',m,Q=>Q (.dat (.int (i+j))) m
 | '以','仦',m,Q=>'嗴'/\Q (.dat (.str (a++b))) m
 | '惰',.dat (':' b),m,Q=>'嗴'/\Q (.dat (':' (a++b))) m
 | .dat ('ɝ' a),'慌',m,Q=>'孮'
 | 'ʡ','慌',m,Q=>∃ a,m c=some (.l a)/\'孮'
 | _,_,_,_=>False
@[simp] def fF:D2
 | 'ɥ','А',m,Q=>Q (.dat (.int (i-j))) m
 | _,_,_,_=>False
@[simp] def bY:D2
 | 'ɥ','А',m,Q=>'儶'/\Q (.dat (.int (i*j))) m
 | '惰','垃',m,Q=>a≠[]/\2<=k/\k<=100/\a.length*k.toNat<=sizeLine/\Q (.dat (':' ('呩' a).flatten)) m
 | _,_,_,_=>False
@[simp] def jE:D2
 | 'ɥ','А',m,Q=>j≠0/\j.natAbs.log2<9000/\Q (.dat (.int (i.fdiv j))) m
 | _,_,_,_=>False
@[simp] def eW:D2
 | 'ɥ','А',m,Q=>j≠0/\Q (.dat ('惠')) m
 | _,_,_,_=>False
@[simp] def tV:D2
 | 'ɥ','А',m,Q=>('崬')/\Q (.dat ('患')) m
 | _,_,_,_=>False
@[simp] def fG:D2
 | 'ɥ','А',m,Q=>Q (.dat ('a' ('垪'))) m
 | _,_,_,_=>False
@[simp] def lV:D2
 | 'ɥ','А',m,Q=>Q (.dat ('a' '惣')) m
 | _,_,_,_=>False
@[simp] def lG:D2
 | 'ɥ','А',m,Q=>Q (.dat ('a' '愿')) m
 | _,_,_,_=>False
@[simp] def bK:D2
 | '以','仦',m,Q=>Q (.dat ('a' ('俕'))) m
 | 'ʔ','倔',m,Q=>'媓'
 | _,_,_,_=>False
@[simp] def eJ:D2
 | '以','仦',m,Q=>Q (.dat ('a' (! '俕'))) m
 | 'ʔ','倔',m,Q=>'媌'
 | _,_,_,_=>False
section
variable {X:Cx}
theorem RD.int['ɣ']{i:Int}{v:V}(h:'ϸ' (.dat (.int i)) v):v='Ⱥ':='嗢'
theorem RD.ofInt['ɣ']{i:Int}:'ϸ' (.dat (.int i)) (.int i):='从'
theorem RD.str['ɣ']{i:Str}{v:V}(h:'ϸ' (.dat (.str i)) v):v='倎':='嗢'
theorem RD.ofStr['ɣ']{i:Str}:'ϸ' (.dat (.str i)) (.str i):='从'
theorem CS:bX X '惞' fF:=by
 show 'ʀ';unfold fF at h
 show 'ɉ'
 ·show 'Ԛ'
  exact OP '˙' '寉'
 show 'ɞ'
theorem Tz:bX X '圎' bY:=by
 show 'ʀ';unfold bY at h
 show 'ɉ'
 ·show 'Ԛ'
  show '倲';exact mul_int ⟨ 'ɳ',H,'ʺ','9','喾'⟩ h.1
 ·rename_i a j;obtain⟨h1,h2,h3,h4,h5⟩:=h
  cases r2.int
  simp only[RD,RP]at r1;obtain⟨p,vs,rfl,g1,g2⟩:=r1
  cases rx
  show 'ʻ';have hl:=g2.length
  refine UJ I g1 (fun e=>h1 ?_) h2 h3 (by rw[hl];exact h4) '垸'
  ·subst e
   cases a with
   | nil=>rfl
   | cons _ _=>simp at hl
  ·have sm:'Θ' (upd H t (.tup (List.replicate j.toNat vs).flatten)):=cF ht
   refine '偣' h5 (ok.ext sm) (ok.grow sm) ?_;show 'ʰ';exact⟨t,_,rfl,'Ί','刑' (g2.rep _)⟩
 show 'ɞ'
theorem Vl:bX X (binaryOp .FloorDiv) jE:=by
 show 'ʀ';unfold jE at h
 show 'ɉ'
 ·show 'Ԛ'
  show '倲';exact floordiv_int h.1 ⟨ 'ɳ',H,'ʺ','9','倱' h.2.2 Ext.refl ok .ofInt⟩ (.inl (PyProof.noPylong_of_log2 h.2.1))
 show 'ɞ'
theorem B6:bX X '惟' eW:=by
 show 'ʀ';unfold eW at h
 show 'ɉ'
 ·show 'Ԛ'
  exact Z6 '˙' '孯'
 show 'ɞ'
theorem zk5:bX X '惡' tV:=by
 show 'ʀ';unfold tV at h
 show 'ɉ'
 ·show 'Ԛ'
  exact j8 '˙' '孯'
 show 'ɞ'
theorem wW:bX X '惢' fG:=by
 show 'ʀ';unfold fG at h
 show 'ɉ'
 ·show 'Ԛ'
  exact b8 '˙' '啖'
 show 'ɞ'
theorem Az:bX X '悤' lV:=by
 show 'ʀ';unfold lV at h
 show 'ɉ'
 ·show 'Ԛ'
  exact F8 '˙' '啖'
 show 'ɞ'
theorem Gz:bX X '惤' lG:=by
 show 'ʀ';unfold lG at h
 show 'ɉ'
 ·show 'Ԛ'
  exact F5 '˙' '啖'
 show 'ɞ'
theorem Fa['θ']:bX X '圬' bK:=by
 show 'ʀ';unfold bK at h
 show 'ɉ'
 ·show '奐'
  refine AB '˙' 'ȹ';have e:'宱':=fun a b=>by
   show '剑'
  rw[e];exact '什'
 ·show '挃';exact '婥'
 show 'ɞ'
theorem Hq['θ']:bX X '嚾' eJ:=by
 show 'ʀ';unfold eJ at h
 show 'ɉ'
 ·show '奐'
  refine GV '˙' 'ȹ';have e:'宱':=fun a b=>by
   show '剑'
  rw[e];exact '什'
 ·show '挃';exact '婦'
 show 'ɞ'
theorem ze5['呔']{Q:VK}{a b:Addr}{ys:'3'}['O'](ha:'偕' a [])(hb:'偕' b ys)(q:Q '也' H) :
  'ȼ' (binaryOp .Add (.ref a) (.ref b)) (EP X pins σ Q) X.xe s:=by
 show '挞'
 cases r1
 obtain⟨⟨cls,dd,data,sl⟩,ho,hc,n,hd⟩:=id p1;obtain⟨⟨cls2,dd2,data2,sl2⟩,ho2,hc2,n2,hd2⟩:=id p2;show '壬';exact '壉'
   (tuple_addW0 a b _ _ n n2 dd dd2 sl sl2 (by simp)) ⟨ho,ho2,⟨.ref b,H,I,rfl,q⟩⟩
theorem Il:'哙' (fun x y H Q=>∃ a b xs ys,x=.ref a/\y=.ref b/\SqL X.K H a xs/\SqL X.K H b ys/\xs.length+ys.length<=sizeLine/\∀ p,H p=none->Q (.ref p) (upd H p (.lst (xs++ys)))):=by
 show 'ԓ';obtain⟨a,b,xs,ys,rfl,rfl,ha,hb,hz,q⟩:=h
 cases rx
 cases ry
 obtain⟨its,r1,p1,_⟩:=I.list ha;obtain⟨its2,r2,p2,_⟩:=I.list hb;obtain⟨⟨cls,dd,data,sl⟩,ho,hc,n,hd⟩:=id p1.isList;obtain⟨⟨cls2,dd2,data2,sl2⟩,ho2,hc2,n2,hd2⟩:=id p2.isList;show '壬';have l1:=r1.length
 have l2:=r2.length
 have e:its.toArray++its2.toArray=(its++its2).toArray:='f'
 refine concat_meets '丿' '卙' noFill_list_add seq_list_add PySem.F.slot_list_add PySem.F.entry_list_add (PySem.F.args_list_add_2 _ _)
   (list_addW a b its.toArray its2.toArray '撶' ('忿')) '惪'
 rw[e];exact⟨ '·',_,'ԛ' (o:=.lst (xs++ys)) (fun b ob q=>ah _ q) (ak _) ⟨by rw[List.length_append];omega,_,0,r1.append r2,ai _ rfl⟩,rfl,'傽'⟩
theorem HV:bX X '僿' bT:=by
 show 'ʀ';unfold bT at h
 show 'ɉ'
 ·show 'Ԛ'
  exact RT '˙' '寉'
 ·show '奐'
  exact zt5 '˙' ⟨_,_,rfl,rfl,h.1,'妟' .ofStr⟩
 ·show '插';obtain⟨p,vs,rfl,h1,h2⟩:=r1;obtain⟨q,ws,rfl,g1,g2⟩:=r2;have l1:=h2.length
  show '姨'
  by_cases e1:a=[]
  ·subst e1;simp only[RPs]at h2;subst h2
   cases rx;cases ry
   refine ze5 I h1 g1 ('嶳');show 'ʰ';exact⟨q,ws,rfl,g1,by simpa using g2⟩
  ·refine X3 '˙' ⟨p,q,vs,ws,rfl,rfl,h1,g1,?_,'-',fun e2=>?_,fun e2 t ht=>?_⟩
   ·show 'h'
    cases a with
    | nil=>exact e1 rfl
    | cons _ _=>simp at l1
   ·subst e2;have e3:b=[]:=by cases b with | nil=>rfl | cons _ _=>simp at l2
    subst e3;refine '嶳';show 'ʰ';exact⟨p,vs,rfl,h1,'匸'⟩
   ·have sm:'Θ' (upd H t (.tup (vs++ws))):=cF ht
    refine '局';show 'ʰ';exact⟨t,_,rfl,'Ί','屺'⟩
 ·show '插';obtain⟨p,vs,rfl,h0,h1,h2⟩:=r1;obtain⟨q,ws,rfl,g0,g1,g2⟩:=r2;have l1:=h2.length
  show '姨'
  refine Il '˙' ⟨p,q,vs,ws,rfl,rfl,h1,g1,'-','垸'⟩
  have sm:'崌':=cF ht
  refine '局';show 'ʰ';exact⟨t,_,rfl,eI ok ht,'Ί','屺'⟩
 ·rename_i c b;obtain⟨aa,hm,hz,hq⟩:=h;show '妖';obtain⟨vs,g0,g3⟩:='伝';simp only[RD,RP]at r2;obtain⟨q,ws,rfl,_,g1,g2⟩:=r2;have l1:=g3.length
  show '姨'
  refine Il '˙' ⟨c,q,vs,ws,rfl,rfl,'慏',g1,'-','垸'⟩
  have sm:'崌':=cF ht
  refine '偣' hq (ok.ext sm) (ok.grow sm) ?_;show 'ʰ';exact⟨t,_,rfl,eI ok ht,'Ί','刑' (g3.append g2)⟩
 show 'ɞ'
section E
section
variable {X:Cx}{a b c e:Expr}{es:'W'}{f g:DE}{ga:DA}{pos p2 p:Pos}
@[simp] def cU(f:DE):DE:=fun '['=>'ɔ' fun x m1=>∃ i,x=.dat (.int i)/\Q (.dat (.int (-i))) m1
theorem UR['亣']:PE X ('墒' .USub a pos) ('S' (cU f)) :=
 PE.imp (AE Yj ha) fun 'ʙ'=>by
  show '擐';exact⟨i,rd.int,'巗'⟩
@[simp] def aG:D2
 | 'Ҋ','ɥ',m,Q=>∃ p,'嗣'
 | '仟','ɥ',m,Q=>∃ p,'嗣'
 | 'ʕ','ɥ',m,Q=>∃ xs p,'协'/\'嗣'
 | 'Ό','ɥ',m,Q=>∃ c,'侩'/\'幣'/\Q (.dat ('圯')) m
 | _,_,_,_=>False
theorem RPs.at['壝']{i:Int}['ͺ'](h:'ʧ')(e:'慐'):∃ v,bS vs i='ɛ'/\'ˀ':=by
 unfold bS at e ⊢;rw[h.length]
 cases q:'坚' with
 | none=>rw[q]at e;cases e
 | some j =>
  rw[q]at e;exact h.get (i:=j) e
theorem KB['伻'](hs:autoParam (Fl b) zau8._auto_1):PE X '彡' ('S' (aD aG f g)) :=
 PE.imp (za9 BK 'μ' hs) fun 'ʙ'=>by
  show 'Δ';refine⟨Z,d,m,_,ok,rs,h,fun x '偖' rx=>⟨Z,d,m1,_,ok1,'ɦ',q,fun y m2 w 'ѥ' ry=>?_⟩⟩;have rx2:=rx.ext e2
  have e12:='厲'
  unfold aG at q2
  split at q2
  ·obtain⟨p,ep,q⟩:=q2
   cases ry.int
   simp only[RD,RP]at rx2;obtain⟨a,vs,rfl,h1,h2⟩:=rx2;show '奍';exact .inr ('嬽')
  ·obtain⟨p,ep,q⟩:=q2
   cases ry.int
   simp only[RD,RP]at rx2;obtain⟨a,vs,rfl,_,h1,h2⟩:=rx2;show '奍';exact '嬽'
  ·obtain⟨xs,p,hm,ep,q⟩:=q2
   cases ry.int
   obtain⟨rfl,_⟩:=rx2;obtain⟨vs,h1,h2⟩:='后';show '奍';exact .inl ⟨_,vs,_,z,rfl,rfl,'卯',ez,'幩'⟩
  ·obtain⟨c,hz,ec,q⟩:=q2
   cases ry.int
   cases rx2.str
   exact .inr (.inr ⟨_,_,c,rfl,rfl,hz,ec,'刧' q e12 ok2 .ofStr⟩)
  ·exact q2.elim
abbrev DO:=aQ->Mu->('ɢ'->'έ')->Prop
inductive LO (K:ad) (f:DO) ['亓'] (Q:'嚊'):Prop
 | mk ['倮'] (R:'ɢ'->'έ') ['咹'] (k:∀ x m' H',R x m'->'ʅ'->'Ύ'->Q x H'):LO '哶'
@[simp] def eE:DO:=fun _ m Q=>Q none m
@[simp] def dG(f:DE):DO:=fun '['=>'ɔ' fun x m1=>∃ i,x=.dat (.int i)/\Q (some i) m1
end
mutual section G
theorem PO.imp{e:'俥'}{t t':TO}(h:PO 'λ')(q:'傯'):PO '佱':='啅'
theorem DV:PO X none (LO X.K eE):=PO.imp OJ fun 'ʙ'=>by
 show 'Δ';exact k none m '唍'
theorem FD['亣']:PO X (some a) (LO X.K (dG f)):=PO.imp (AC ha) fun 'ʙ'=>by
 show '擐';exact⟨i,rd.int,k _ '丁'⟩
def cC['事']['些']:'ɹ':='婯'
theorem Ou['事']['些']:('兛').length<=xs.length:=by
 unfold cC;show '掌'
theorem RPs.cut['壝']['哔'](h:'ʧ'):'ʣ' (cC xs lo hi) (iC vs lo hi):=by
 unfold cC iC;rw[h.length];exact(h.drop _).take _
theorem Px['事']['哔'](h:'啂'):'兛'=xs:=by
 unfold cC;rw[h.1,h.2];simp
def NJ(K:ad):'丙':=fun '佐'=>∃ a xs,'ά'/\'В' /\
 ('啂')/\Q 'ʉ' H
theorem zi5['分']['哘']['拾']
  (hw:'噝'=0/\'崳'=items.size)
  (h:'垭'):'剽':=by
 show '告'
 unfold getItem
 show '呣'
 show '呱'
 refine '劈'
 refine ae ('呃'
  (wpAny_call_entry PyProof.Rows.slot_tuple_getitem ht.typeIs entry_tuple_getitem ?_ (args_tuple_getitem _ _)))
 show '刳' _ _ s
 show '呠'
 refine ae (HT.sliceApplied_gen '削' ?_);have hyes:'娯':=by
  rw[hw.1,hw.2];simp
 show 'N' (if (((HT.sIx items.size 0 lo:Nat):Int)==0&&(1:Int)==1&&(HT.sIx items.size items.size hi-HT.sIx items.size 0 lo)==items.size)=true then _ else _) _ _ s
 rw[if_pos hyes];show '捻';refine ae (wpAny_typeOf ht.typeIs 'ѓ');rw['ӛ']
 first
  | exact ae (wpAny_rule '噭')
  | exact ae (wpAny_rule (ae '嘀'))
theorem Y7:SlR X (NJ X.K):=by
 show '掣'
 cases rx
 show '挽'
 refine '嫬';exact zi5 ht '削' '廙' ⟨ 'ϥ',H,I,rfl,q⟩
abbrev DC:='ɿ'->'垷'
def CallD(X:Cx)(fn:Value)(r:DC):Prop :=
 ∀ (pins:'<') (s:Shared) (σ:L2.St) (H:Hp) (Z:'7') (m:Mu) (xs:'3') (ds:'ɿ') (us:';') (R:DK) (Q:VK),'4'->'仯'->'ʩ'->'唁' ds xs->'墝' ->
  ('唤')->'ȼ' (call fn us) (EP X pins σ Q) X.xe s
theorem CallD.cr{fn:Value}{r:DC}(h:'Ѵ' fn r):'Ϸ' fn (fun vs H Q=>∃ Z m ds R,Ok X.K Z m H/\RDs X.K Z m H ds vs/\r ds m R/\∀ d m' v' H',R d m'->Ext X.K Z m H m' H'->Ok X.K Z m' H'->RD X.K Z m' H' d v'->Q v' H'):=by
 intro '倩' r1 ⟨Z,m,ds,R,ok,rd,q,k⟩;exact h 'b' Z m xs ds us R Q I ok r1 rd q k
@[simp] def bG(r:DC)(g:DA):DE:=fun '['=>g d m fun 'ʥ'=>r 'ʥ' Q
theorem LE.call{r:DC}{H:Hp}{σ:L2.St}{Q:VK}(h:'S' (bG r ga) σ H Q) :
  '佭' ga σ H fun vs H1=>∃ Z m ds R,Ok X.K Z m H1/\RDs X.K Z m H1 ds vs/\r ds m R/\∀ d m' v' H',R d m'->Ext X.K Z m H1 m' H'->Ok X.K Z m' H'->RD X.K Z m' H' d v'->Q v' H':=by
 show 'Δ';exact⟨Z,d,m,_,ok,rs,h,fun 'ʥ' vs '亃' r1=>⟨Z,m1,xs,R,ok1,r1,q,'嫻'⟩⟩
theorem pS{x:Str}{id:String}{r:DC}(hc:'Ѵ' (.builtin id) r)['攩']['偦']['咨']:'嬾' :=
 PE.imp (Qt '掠') '德'
theorem qC{x:Str}{T:String}{r:DC}(hc:'Ѵ' (.type T) r)['呤'](hv:'嵿')['偦']['咨']:'嬾' :=
 PE.imp (WG '掠') '德'
theorem RDs.one['ɣ']{x:D}['亝'](h:'偛' [x] vs):∃ v,vs=[v]/\'ϋ':=by
 show '壓'
 cases (show r=[] from h3)
 exact '憮'
theorem RDs.two['ɣ']{x y:D}['亝'](h:'偛' [x,y] vs):∃ v w,vs=[v,w]/\'ϋ'/\'ϸ' y w:=by
 show '壓';obtain⟨w,rfl,h4⟩:=RDs.one h3;exact⟨v,w,h1,h2,h4⟩
@[simp] def cA:DC
 | ['Ҋ'],m,Q=>'嗵'
 | ['仟'],m,Q=>'嗵'
 | ['Ό'],m,Q=>'侩'/\Q (.dat ('坺')) m
 | '凁',m,Q=>∃ xs,'协'/\'嗵'
 | _,_,_=>False
theorem zp3:'Ѵ' (.builtin "len") cA:=by
 show '亂';unfold cA at h
 show 'ɉ'
 ·show '掰';refine Aa 'Ϯ' ⟨a,vs,rfl,'减',?_⟩;show '傁';exact '劳'
 ·show '壶';refine Aa 'Ϯ' ⟨a,vs,rfl,'伞',?_⟩;show '傁';exact '劳'
 ·show 'Ԕ'
  show 'ԯ'
  exact NI 'Ϯ' ⟨_,rfl,h.1,'喾'⟩
 ·show '壍';refine Aa 'Ϯ' ⟨_,vs,rfl,'噰',?_⟩;show '傁';exact '嵠'
 show 'ɞ'
@[simp] def sZ:DC
 | ['ɥ'],m,Q=>Q (.dat ('嗞')) m
 | _,_,_=>False
theorem SM:'Ѵ' (.builtin "abs") sZ:=by
 show '亂';unfold sZ at h
 show 'ɉ'
 ·show 'Ԕ'
  cases r1.int
  exact Xn 'Ϯ' '啪'
 show 'ɞ'
@[simp] def oB:DC
 | ['ɥ'],m,Q=>Q ('ɥ') m
 | ['ө'],m,Q=>Q (.dat (.int ('囃'))) m
 | _,_,_=>False
theorem Vm:'Ѵ' (.type "int") oB:=by
 show '亂';unfold oB at h
 show 'ɉ'
 ·show 'Ԕ'
  cases r1.int
  exact Qd 'Ϯ' (.inl '啪')
 ·show 'Ԕ'
  cases r1.bl
  exact Qd 'Ϯ' (.inr '啪')
 show 'ɞ'
@[simp] def tQ:DC
 | ['Ҋ'],m,Q=>'噱'
 | ['仟'],m,Q=>'噱'
 | _,_,_=>False
theorem zu2:'Ѵ' (.type "list") tQ:=by
 show '亂';unfold tQ at h
 show 'ɉ'
 ·show '掰';refine Al 'Ϯ' ⟨a,vs,rfl,'减','儺'⟩;show '姄'
  show '妜';exact '啀'
 ·show '壶';refine Al 'Ϯ' ⟨a,vs,rfl,'伞','儺'⟩;show '姄'
  show '妜';exact '啀'
 show 'ɞ'
section E
section
variable {X:Cx}{st:Stmt}{rest body orelse:'ɪ'}{t u b:DS}{e c tg iter:Expr}{f:DE}{tc:DT}{pos:Pos}
@[simp] def aH:DS:=fun '΄'=>'吏'
@[simp] def aE(t u:DS):DS:=fun '΄'=>t {E with nx:=u E} d m
theorem JD:'Λ' [] (LS X.K aH):=PSs.imp Hj fun 'Η'=>by
 show 'Ѥ';exact '帊'
theorem LN(h1:PS X st ('ʛ' t))(h2:'Λ' rest (LS X.K u)):'Λ' (st::rest) (LS X.K (aE t u)):=PSs.imp (zD 'ɡ') fun 'Η'=>by
 show '壵';refine⟨Z,d,m,_,ok,rs,h,fun '妳' rs1=>⟨Z,d',m',R,ok1,rs1,q,?_,?_,?_,?_⟩,kr,kb,kc⟩
 ·exact '嫑'
 ·exact '嬅'
 ·exact '嫒'
 ·exact '嫓'
@[simp] def iJ(f:DE):DS:=fun '΄'=>'ɔ' fun _ m1=>E.nx d m1
theorem EY['а'](hs:'嫪'):PS X '憘' ('ʛ' (iJ f)):=PS.imp (VT he hs) fun 'Η'=>by
 show 'Ѥ';exact⟨Z,d,m,_,ok,rs,h,fun 'ѩ'=>k d m1 s '亃' '兜'⟩
@[simp] def aN(f:DE):DS:=fun '΄'=>'ɔ' E.rt
theorem Vz['а']:PS X '廐' ('ʛ' (aN f)):=PS.imp (Ii he) fun 'Η'=>by
 obtain⟨Z,d,m,R,ok,rs,h,_,kr,_⟩:=h;exact⟨Z,d,m,_,ok,rs,h,fun 'ѩ'=>kr 'ѩ'⟩
@[simp] def bH(c:DT)(t u:DS):DS:=fun '΄'=>c d m fun k m1=>if 'Ф' then t E d m1 else u E d m1
theorem SN(hc:'怉')(h1:'Λ' body (LS X.K t))(h2:'Λ' orelse (LS X.K u)):PS X (.If c body orelse pos) ('ʛ' (bH tc t u)):=PS.imp (zr3 hc 'ɡ') fun 'Η'=>by
 show '壵';refine⟨Z,d,m,_,ok,rs,h,fun k '丁'=>?_⟩;have mk:∀ {z:DS},z R d m1->'ʛ' z E s H1:=fun q=>⟨Z,d,m1,R,ok1,'ɦ',q,
  '嫑','嬅',
  '嫒','嫓'⟩
 cases k with
 | true=>exact OK (mk '仒')
 | false=>exact D4 (mk '仒')
@[simp] def aO(i:Nat)(f:DE):DS:=fun '΄'=>'ɔ' fun x m1=>E.nx (d.set i (some x)) m1
theorem CG['咸']{pos':Pos}['佃']['а'](hi:'備')(hx:'啳')
  (hs:'媇') (hf:'唯') :
  PS X '嵖' ('ʛ' (aO i f)):=PS.imp (Nx '剉' he hs hf) fun 'Η'=>by
 show 'Ѥ';exact⟨Z,d,m,_,ok,rs,h,fun 'ѩ'=>'哛' ((rs.ext e1).set r1)⟩
abbrev DG:=D->'嶴'
abbrev kK:=','->'嶴'
inductive LG (K:ad) (g:DG) (v:V) ['亓'] (Q:'圶'):Prop
 | mk (Z:'7') (x:D) ['摂'] (rv:'ϋ') (h:'亦' R) (k:'媁'):LG K g v s H Q
inductive LGs (K:ad) (g:kK) (vs:'3') ['亓'] (Q:'圶'):Prop
 | mk (Z:'7') (ps:',') ['摂'] (rv:'о') (h:g ps d m R) (k:'媁'):LGs K g vs s H Q
theorem PG.imp{t t':TG}(h:PG 'λ')(q:'島'):PG '佱':='嫈'
theorem PGs.imp['傆']{t t':iZ}(h:'偠' t)(q:'島'):'偠' t':='嫈'
@[simp] def gN(i:Nat):DG:=fun x '['=>Q '匦' m
theorem VX['咸']['佃'](hi:'備')(hx:'啳')
  (hf:'唯'):PG X '乇' (LG X.K (gN i)):=PG.imp (GJ '剉' hf) fun v 'ʙ'=>by
 obtain⟨Z,x,d,m,R,ok,rs,rd,h,k⟩:=h;exact '刟' (rs.set rd)
@[simp] def cL:kK:=fun ps '['=>ps=[]/\Q d m
@[simp] def aY(g:DG)(r:kK):kK
 | p::qs,d,m,Q=>g 'ϟ' d m fun 'ʜ'=>r qs 'ʜ' Q
 | [],_,_,_=>False
theorem Xp:PGs X [] (LGs X.K cL):=PGs.imp X9 fun vs 'ʙ'=>by
 obtain⟨Z,ps,d,m,R,ok,rs,rp,⟨rfl,h⟩,k⟩:=h;simp only[RPs]at rp;exact⟨rp,'帊'⟩
theorem MR['傆']{g:DG}{r:kK}(h1:PG X e '堪')(h2:'偠' (LGs X.K r))(hs:'婇') :
  PGs X 'ΐ' (LGs X.K (aY g r)):=PGs.imp (SH 'ɡ' hs) fun vs 'ʙ'=>by
 obtain⟨Z,ps,d,m,R,ok,rs,rp,h,k⟩:=h
 match ps,rp,h with
 | [],_,h=>show 'ɇ'
 | p::qs,rp,h =>
 simp only[RPs]at rp;obtain⟨v,w,rfl,r1,r2⟩:=rp;exact⟨v,w,rfl,Z,'ʔ',d,m,_,ok,rs,r1,h,fun '妳' rs1=>⟨Z,qs,d',m',R,ok1,rs1,RPs.ext e1 _ _ r2,q,'嫚'⟩⟩
@[simp] def gT['ʍ'](g:kK):DG:=fun x '['=>∃ ps,'侭'/\'承'/\g ps '['
theorem BS['傆']{j n:Nat}{g:kK}['佤'](h:'偠' (LGs X.K g))(hn:'孡')(hst:'嫫') :
  PG X '恛' (LG X.K (gT n g)):=PG.imp (ZF hc h hn hst) fun v 'ʙ'=>by
 obtain⟨Z,x,d,m,R,ok,rs,rd,⟨ps,rfl,hl,h⟩,k⟩:=h;show '壡';exact⟨a,vs,rfl,h1,by show '傁';exact hl,Z,ps,d,m,R,ok,rs,h2,h,k⟩
@[simp] def fW(f:DE)(g:DG):DS:=fun '΄'=>'ɔ' fun x m1=>g x d m1 E.nx
theorem LD{g:DG}['а'](hg:'怊')['搟']:PS X '彜' ('ʛ' (fW f g)):=PS.imp (Db he hg hs hw h1) fun 'Η'=>by
 show 'Ѥ';exact⟨Z,d,m,_,ok,rs,h,fun 'ѩ'=>⟨Z,x,d,m1,_,ok1,'ɦ',r1,q,'嫚'⟩⟩
@[simp] def sQ(i j:Nat)(g:DA):DS:=fun '΄'=>g d m fun 'ʥ'=>∃ x y,xs='ϩ'/\E.nx ('匦'.set j ('С')) m1
theorem Su(i j:Nat){x y:Str}{a b:Expr}{g:DA}['捲'](ha:PA X 'β' ('佭' g))(hi:'備')(hj:autoParam ('愺') zau0._auto_1)(hij:autoParam (i≠j) zau2._auto_1)
  (hx:autoParam ('喉') zau0._auto_1) (hy:autoParam ('喊') zau0._auto_1)
  (hw:autoParam ('婘') zau0._auto_1)
  (hs:'娰') :
  PS X '媳' ('ʛ' (sQ i j g)):=PS.imp (K8 hc hN hi hj hij ';' ha hw hs) fun 'Η'=>by
 show 'Ѥ';refine⟨Z,d,m,_,ok,rs,h,fun 'ʥ' 'ξ' ⟨x,y,e,q⟩ '偱'=>?_⟩;subst e;obtain⟨v,w,rfl,r1,r2⟩:=r1.two;exact⟨v,w,rfl,'哛' (((rs.ext e1).set r1).set r2)⟩
@[simp] def mW(fo fi f:DE):DS:=fun '΄'=>'ɔ' fun x m1=>fo d m1 fun o m2=>fi d m2 fun i m3 =>
 ∃ a k xs j p,o=.cel a/\i=.dat (.int k)/\x=.dat p/\m3 a=some (.l xs)/\eQ xs.length k=some j/\E.nx d (aP m3 a (.l (xs.set j p)))
theorem zj3{o i:Expr}{fo fi:DE}{tpos:Pos}['а']['壺']
  (ha:autoParam (∀ v,assign ('仏') X.env v=(do
   let ov <- '巼'
   let iv <- '嵽'
   standAt tpos
   '岽'
   '彛')) zau4._auto_1)
  (hs:autoParam (swapsWithSole ['仏'] e 'Ҵ'='Ϙ') zau0._auto_1) (hw:autoParam (swappedStores ['仏'] '佘'='伊') zau0._auto_1)
  (h1:autoParam ((assignEach ['仏'] X.env).map 'Ϧ'=[assign ('仏') X.env]) zau0._auto_1):PS X '喕' ('ʛ' (mW fo fi f)) :=
 PS.imp (Db he (zg1 ho hi AU ha) hs hw h1) fun 'Η'=>by
 show 'Ѥ';refine⟨Z,d,m,_,ok,rs,h,fun 'ѩ'=>⟨Z,d,m1,_,ok1,'ɦ',q,fun o '偀'=>⟨Z,d,m2,_,ok2,'ӟ',q2,fun i '妸'=>?_⟩⟩⟩;obtain⟨a,k',xs,j,p,rfl,rfl,rfl,hm,hj,q⟩:=q3
 cases r3.int
 show '奧';obtain⟨vs,g1,g2⟩:=ok3.l hm;have r1':='彯'
 refine⟨a,vs,k',j,rfl,rfl,g1,by rw[g2.length];exact hj,?_⟩
 have e4:Ext '佋' '巘' ('不' a (.lst (vs.set j v))):='困'
 exact '哃' (e1.trans (e2.trans (e3.trans e4))) (ok3.put hm g1 (g2.set r1')) ((rs.ext e1).ext (e2.trans (e3.trans e4)))
def wN(c:DT)(b:DS):DS:=fun '΄'=>∃ W:Nat->'ˁ',(∃ n,W n d m)/\∀ n d m,W n d m ->
 c d m fun k m1=>if 'Ф' then ∃ N:'ˁ',(∀ d' m',N 'ʜ'->∃ n',n'<n/\W n' 'ʜ')/\b {E with nx:=N,ct:=N,bk:=E.nx} d m1 else '亮' m1
theorem PB(hp:'劏')(hc:'怉')(hb:'弞'):PS X '廑' ('ʛ' (wN tc b)):=PS.imp (KO hp hc hb) fun 'Η'=>by
 obtain⟨Z,d,m,R,ok,rs,⟨W,⟨n0,w0⟩,turn⟩,kn,kr,kb,kc⟩:=h;refine⟨fun n 'Ѐ'=>∃ d' m','仍'/\'Ө'/\'匂'/\W n 'ʜ',⟨n0,d,m,Ext.refl,ok,rs,w0⟩,?_⟩;rintro n s1 H1 ⟨d1,m1,e1,ok1,rs1,w1⟩;refine⟨Z,d1,m1,_,ok1,rs1,turn n d1 m1 w1,fun k 'Μ' q e2 ok2=>?_⟩
 cases k with
 | false =>
  show '偍';exact kn d1 m2 s1 H2 q '停' (rs1.ext e2)
 | true =>
  show '偌';obtain⟨N,hN,q⟩:=q;refine⟨fun 'Ѐ'=>∃ d' m','仍'/\'Ө'/\'匂'/\N 'ʜ',fun 'Ѐ' '庙'=>?_,?_⟩
  ·obtain⟨n',hn,w⟩:=hN 'ʜ' g4;exact⟨n',hn,d',m',g1,g2,g3,w⟩
  ·have e12:='厲'
   exact⟨Z,d1,m2,_,ok2,rs1.ext e2,q,'嫲',fun x m3 v '倪' r3=>kr x m3 v '攎' r3,
    fun '奒'=>kn d3 m3 s3 '攎' rs3,'嫲'⟩
end
mutual section G
abbrev DI:='崋'
def Yld['˘'](x:D)(v:V)(H2 H3:Hp):Prop :=
 (H3=H2/\'ϋ')\/∃ p ps vs,'侭'/\v='ң'/\H2 p=none/\H3='亭' p (.tup vs)/\'о'
theorem Yld.same['哜']{H H2 H3:Hp}['ԫ'](h:'噲'):Same H2 H3:=by
 rcases h with⟨rfl,_⟩ | ⟨p,ps,vs,_,_,hp,rfl,_⟩
 ·exact '厖'
 ·exact 'ҫ'
theorem Yld.rd['夛']{H H2 H3:Hp}['ԫ'](tr:∀ d v,'慉'->RD '剣' H2 d v)(ok:Ok '剣' H2)(h:'噲'):RD '剣' H3 x v:=by
 rcases h with⟨rfl,h⟩ | ⟨p,ps,vs,rfl,rfl,hp,rfl,h⟩
 ·exact tr 'Ё'
 ·have h2:=RPs.lift (fun 'ο'=>tr 'ϟ' v q) h
  show 'ʰ';exact⟨p,vs,rfl,'Ί',RPs.ext (ok.ext ('ҫ')) _ _ h2⟩
structure ExtY ['˘'] ['姣']:Prop where
 t:'业'
 l:'嫭'
 fz:'世'
theorem Ext.y['太']['上']:'怋':='怌'
def nH['˘'](xs:'ɿ')(J:It):Prop:=∀ m2 H2,ExtY 'ʖ' 'Μ' ->
 (∀ (i:Nat) (x:D),'т'->J.go i H2/\∀ v H3,J.yld i H2 v H3->'噲')/\J.stop xs.length H2
inductive LI (K:ad) (fi:DI) ['亓'] (R:'儴'):Prop
 | mk ['倮'] (ZZ:'圓') ['呗'] (h:'Ѻ' ZZ) (k:∀ xs m' H' J,ZZ xs m'->'ʅ'->'Ύ'->nH '˚' xs J->R J H'):LI K fi s H R
@[simp] def bN(f:DE):DI:=fun '['=>'ɔ' fun x m1=>(∃ ps,x=.dat (.list ps)/\Q (ps.map .dat) m1)\/(∃ ps,x=.dat (.tuple ps)/\Q (ps.map .dat) m1)
theorem PI.imp{t t':TI}(h:'丆' e t)(q:∀ s H R,t' s H R->t s H R):'丆' e t':=.mk <| fun '但' R I w=>h '但' R I '党'
theorem oF['万']{i:Nat}{x:D}(h:(ps.map D.dat)[i]?='ɚ'):∃ p,'垅'/\'凂':=by
 rw[List.getElem?_map]at h
 cases e:ps[i]? with
 | none=>show '假'
 | some p=>show '假';exact⟨p,rfl,rfl⟩
theorem Yp['偏']['亝']['万'](h0:'園')(h1:'Ӳ')(h2:'о'):nH 'ʖ' '乊' (zU K a):=by
 intro 'Μ' e;obtain⟨q0,q1⟩:=e.l a vs h0 h1;have q2:=h2
 refine '嬏'
 show '挆'
 rw[hv]at this
 cases this
 exact rv
theorem OC['偏']['亝']['万'](h1:'儹')(h2:'о'):nH 'ʖ' '乊' (uB K a):=by
 intro 'Μ' e;have q1:=e.t a vs h1
 have q2:=h2
 refine '嬏'
 show '挆'
 rw[hv]at this
 cases this
 exact rv
theorem HL{l:Expr}{tl:TE}(hl:PE X l tl):'丆' l (fun s H R=>tl s H fun x H1=>(∃ a,x=.ref a/\(∃ xs,SqL X.K H1 a xs)/\R (zU X.K a) H1)\/(∃ a,x=.ref a/\(∃ xs,SqT X.K H1 a xs)/\R (uB X.K a) H1)):=.mk <| by
 show '咁';refine aM (hl 'ҹ') '动';rcases q1 with⟨a,e,⟨xs,hq⟩,q⟩ | ⟨a,e,⟨xs,hq⟩,q⟩
 ·subst e
  cases r1
  obtain⟨its,rv,p,hz⟩:=I1.list hq;refine wpAny_pyIter_list p.isList ?_;refine⟨s1.heap.objs.size,'嚩',_,_,H1,rfl,'啿',ZQ a _,'嘱','ώ',q⟩;have e:'嚪':='҆'
  show '咴'
 ·subst e
  cases r1
  obtain⟨its,rv,p,hz⟩:='抁';refine wpAny_pyIter_tuple (show s1.heap.IsTuple 'ҵ' from p) ?_
  refine⟨s1.heap.objs.size,'嚩',_,_,H1,rfl,'啿',OE a _,'嘱','ώ',q⟩;have e:'嚪':='҆'
  show '咴'
theorem VD(ha:'ˤ'):'丆' e (LI X.K (bN f)):=PI.imp (HL ha) fun s H R h=>by
 show '呞';refine '劂';rcases q with⟨ps,rfl,q⟩ | ⟨ps,rfl,q⟩
 ·simp only[RD,RP]at rd;obtain⟨a,vs,rfl,h0,h1,h2⟩:=rd;exact .inl ⟨a,rfl,'抂','呺' (Yp h0 h1 h2)⟩
 ·show '壡';exact .inr ⟨a,rfl,'抂','呺' (OC h1 h2)⟩
def dI['姠']:'ɿ':=('垺').map fun i=>.dat (.int (lo+(i:Nat)))
@[simp] def fP(f:DE):DI:=fun '['=>'ɔ' fun x m1=>∃ j:Int,x=.dat (.int j)/\-(2^62)<=j/\j<2^62/\Q (dI 0 j.toNat) m1
theorem SJ{p:Pos}['撕'](ha:'ˤ')(hs:'唾'):'丆' (.Call (.Name "range" p) [e] [] pos) (LI X.K (fP f)) :=
 PI.imp (MO hg hm (iB ha iR '圷') hs) fun s H R h=>by
  show '呞';refine⟨Z,d,m,_,ok,rs,h,fun 'Ԥ' ⟨j,e,h1,h2,q⟩ 'Ѳ'=>?_⟩;subst e
  cases rd.int
  show ∃ j':Int,[V.int j]=[V.int j']/\_
  refine⟨j,rfl,h1,h2,'呺' fun m2 H2 e2=>⟨fun i x hx=>?_,?_⟩⟩
  ·unfold dI at hx;show '攢'
   cases ei:(List.range j.toNat)[i]? with
   | none=>rw[ei]at hx;cases hx
   | some i' =>
    rw[ei]at hx
    cases hx
    have hl:=('崴').1
    have hi:i'=i:=by
     obtain⟨_,z⟩:='崴';rw[List.getElem_range]at z;exact z.symm
    subst hi;rw[List.length_range]at hl;refine⟨hl,'嗒'⟩;rw[y.2];exact '伯'
  ·show j.toNat<='慑'.length
   unfold dI;rw[av,List.length_range];exact ak _
def bO(g:DG)(b:DS)(E:Ends2):'ɿ'->'ˁ'
 | [],d,m=>'吏'
 | 'ȶ',d,m=>'亦' fun d' m'=>b {E with nx:=bO g b E xs,ct:=bO g b E xs,bk:=E.nx} d' m'
@[simp] def cO(fi:DI)(g:DG)(b:DS):DS:=fun '΄'=>'Ѻ' fun xs m1=>bO g b E xs d m1
theorem Xs{fi:DI}{g:DG}(hp:'劏')['佤'](hi:'˴')(hg:'怊')(hb:'弞')
  ['偙']:PS X '巾' ('ʛ' (cO fi g b)):=PS.imp (ZB hp hc hi hg hb hs) fun 'Η'=>by
 show '壵';refine⟨Z,d,m,_,ok,rs,h,fun '攓' yl=>?_⟩;refine⟨fun i n 'Ѐ'=>∃ d' m',n='埰'/\'儻'/\'弟'/\'Ө'/\'匂'/\bO g b R '埱' 'ʜ',⟨xs.length,d,m1,'f','ɸ',Ext.refl,ok1,'ɦ','圈'⟩,?_⟩
 rintro i n s2 H2 ⟨d2,m2,rfl,hi,e2,ok2,rs2,w⟩;obtain⟨y1,y2⟩:=yl 'Μ' e2.y
 by_cases hl:'厮'
 ·rw['嶵']at w;obtain⟨go,yd⟩:=y1 i xs[i] (List.getElem?_eq_getElem hl);refine .inr ⟨go,fun 'Ѐ'=>∃ d' m','弟'/\'Ө'/\'匂'/\bO g b R 'ҍ' 'ʜ',fun 'Ѐ' '庙'=>⟨ '想','-',d',m',rfl,hl,g1,g2,g3,g4⟩,fun v H3 y=>?_⟩
  have yy:=yd v H3 y
  have e2':=e2.trans '恝'
  refine⟨Z,xs[i],d2,m2,_,ok2.grow yy.same,rs2.ext '恝',yy.rd (fun d v h=>h.ext e2) ok2,w,fun '奒'=>?_⟩;have e23:=e2'.trans e3
  have e13:=e1.trans e23
  exact⟨Z,d3,m3,_,ok3,rs3,q3,'嫳',fun x m4 v '奡' r4=>kr x m4 v H4 q4 '慒' ok4 r4,
   fun '擣'=>kn d4 m4 s4 H4 q4 '慒' ok4 rs4,'嫳'⟩
 ·have e:'埲':='-'
  subst e;rw[List.drop_length]at w;exact .inl ⟨y2,kn d2 m2 s2 H2 w '停' rs2⟩
section E
section
variable {X:Cx}{a e:Expr}{es:'W'}{f:DE}{ga:DA}{pos p p1 p2 p3 p4:Pos}
@[simp] def lZ:PyData->String
 | '&'=>"NoneType"
 | 'ʫ'=>'倕'
 | 'ɳ'=>'џ'
 | 'ɺ'=>'乽'
 | 'ʹ'=>'Р'
 | '冹'=>'ʓ'
 | 'ʬ'=>'ћ'
@[simp] def isK['奕']:Bool:=lZ q==c||(lZ q == '倕' && c == 'џ')
theorem MY(K:ad)['奕'](hc:'啗'):'擷' (.type (lZ q)) (.type c)=some '叭':=by
 rcases hc with rfl | rfl | rfl | rfl | rfl<;>cases q<;>rfl
theorem zq9{K:ad}['奕'](hc:'啗')(e:lZ q='ћ')['三'](x:'凎'):'擷' (.ref C) (.type c)=some '叭':=by
 have:isK q c=false:=by unfold isK;rw[e];rcases hc with rfl | rfl | rfl | rfl | rfl<;>rfl
 rw[this];rcases hc with rfl | rfl | rfl | rfl | rfl<;>exact x.kit _ 'ɵ' '+'
theorem YS['亅']['ɀ']['夿']['O'](h:'侤')(e:yK X.K u vs):'勽'/\'囊':=by
 obtain⟨g1,g2⟩:='嬘'
 refine⟨g1,?_⟩
 cases u with
 | dK ws =>
  show '壒'
 | dT ws =>
  show '壒'
 | dN K' ws =>
  show '壒'
 | _=>exact e.elim
theorem A7['亅']{a C:Addr}{o:Obj}{u:HO}{fs:'ɯ'}{dx:'˂'}{ws:'ċ'}{sl:'Ӗ'}['O'](h:'侤')
  (h3:'崯') (h5:'嫺'):∃ od,PySem.W.InstAt s.heap a o C od:=by
 have g:='嬘'.1
 subst h3;rcases h5 with⟨rfl,_⟩ | ⟨d,od,rfl,hd⟩
 ·exact⟨none,g,rfl,rfl,trivial⟩
 ·exact⟨some od,g,rfl,rfl,(show '妡' d (.frz od (.xd fs)) from I.hok d _ hd).1⟩
theorem J6['亅']['姤']['呝']['ʲ']{q:PyData}{v:V}{u c:Value}['ѻ']['O'](rp:'悰')(rv:'˄')
  (e:'撘' (.type (lZ q)) c=some b) (ex:lZ q='ћ'->∀ C,XCl X.K C->'撘' (.ref C) c=some b) (h:∀ tk,Q ('є') {s with toks:=tk}):'Ԣ' (call (.builtin "isinstance") [u,c]) Q E s:=by
 cases q with
 | none=>show '夁';cases rv;exact PySem.W.kia_one PySem.W.kitx_none '呡'
 | bool y=>show '夁';cases rv;exact PySem.W.kia_one PySem.W.kitx_bool '呡'
 | int i=>show '摏';exact PySem.W.kia_one PySem.W.kitx_int '呡'
 | str y=>show '摏';exact PySem.W.kia_one PySem.W.kitx_str '呡'
 | tuple xs =>
  show '夀';obtain⟨a',vs,rfl,h1,_⟩:=rp
  cases rv
  obtain⟨its,_,⟨o,g1,g2,_⟩,_⟩:=I.tuple h1;exact PySem.W.kia_one PySem.W.kitx_tuple '撈'
 | list xs =>
  show '夀';obtain⟨a',vs,rfl,_,h1,_⟩:=rp
  cases rv
  obtain⟨its,_,⟨o,n,g1,g2,_⟩,_⟩:=I.list h1;exact PySem.W.kia_one PySem.W.kitx_list '撈'
 | dict kv =>
  show '夀';obtain⟨a',ob,u',vs,rfl,h1,h2,_⟩:=rp
  cases rv
  rcases h2 with⟨r,_,h2⟩ | ⟨C,N,fs,dx,ws,sl,xk,_,h3,_,h5⟩
  ·obtain⟨g1,g2⟩:=YS I 'ɡ';exact PySem.W.kia_one PySem.W.kitx_dict I.kIn ⟨ob,g1,g2⟩ e 'л' h
  ·obtain⟨od,J⟩:=A7 I h1 h3 h5;exact PySem.W.kia_one (Sx (ox:=ob) (od:=od) xk) I.kIn J (ex rfl C xk.toXCl) 'л' h
theorem Ux:bootBuiltins '俜'=some '噂':='c'
@[simp] def kI(f:DE)(c:String):DE:=fun '['=>'ɔ' fun x m1=>∃ q,x=.dat q/\Q (.dat (.bool (isK q c))) m1
theorem qS{T:Str}{c:String}(hg:Gl X '俜')(hm:X.mg '俜'=none)(hgT:Gl X T)(hmT:X.mg T=none)(hv:bootBuiltins T=some '塪')(hc:'啗')
  ['亣'] (hn:autoParam (T≠ '俬') zau2._auto_1) (hd:'孤')
  (he:autoParam (starEach '慔' X.env='嚈'::starEach ['ɓ' T p2] X.env) zau0._auto_1) :
  PE X ('ɖ' ('ɓ' '俜' p1) '慔' 'б') ('S' (kI f c)):=by
 have cr:'Ϸ' (.builtin "isinstance") (fun vs H Q=>∃ Z m q v,RP X.K Z m H q v/\vs=[v,.ty c]/\Q (.bl (isK q c)) H):=by
  intro '倩' rv ⟨Z,m,q,v,rp,e,h⟩;subst e;obtain⟨u,w,rfl,r1,r2⟩:=Ag rv
  cases r2
  exact J6 I rp r1 (MY X.K q c hc) (zq9 q c hc) fun tk=>⟨ 'Ҫ',H,'ʺ',rfl,h⟩
 refine PE.imp (Qt cr hg hm Ux (iB ha (iB (y7 (v:=.ty c) hgT hmT hv rfl hn hd) iR) he) (he:=he) (hpl:=rfl)) fun 'ʙ'=>?_;show 'Δ';refine⟨Z,d,m,_,ok,rs,h,fun 'Ԥ' ⟨q,e,h1⟩ 'Ѳ'=>?_⟩;subst e;exact⟨Z,m1,q,v,rd,rfl,'删' H1 h1 e1 ok1 .ofBl⟩
inductive LSp (K:ad) ['哈'] (vs:'3') (H:Hp) (Q:VK) (E:XK):Prop
 | mk (Z:'7') (ds:'ɿ') (m:Mu) (R:DK) ['ˉ'] (rd:'恞') (hl:ds.length=n) (h:'叮') (k:∀ d m' v' H',R d m'->'ʅ'->'Ύ'->RD '˚' d v'->Q v' H'):'嚫'
theorem LSp.len{K:ad}['ɩ']{sp:DC}['亝']{H:Hp}{Q:VK}{E:XK}(h:'嚫'):vs.length=n:=by
 obtain⟨Z,ds,m,R,_,rd,hl,_⟩:=h;rw[rd.length];exact hl
@[simp] def aI['哈'](g:DA):DE:=fun '['=>g d m fun 'ʥ'=>'厬'/\sp 'ʥ' Q
theorem TK['凾']{x:Str}['妑'](hm:'們'='坜')(hk:'営')
  (hb:'他') ['佦'] ['偦'] (hg:autoParam ('ˇ') zau0._auto_1) ['壖']:'剂' (LE X.K (aI n sp ga)) :=
 PE.imp (YG F hr hg hm hk hb .nil '埳' ha hdb he hpl) fun 'ʙ'=>by
  show 'Δ';refine⟨Z,d,m,_,ok,rs,h,fun 'ʥ' 'ξ' ⟨hl,q⟩ 'Ѳ'=>⟨Z,xs,m1,R,ok1,by simpa using rd,hl,q,'嫻'⟩⟩
@[simp] def aT(N:'$')(ds:'ɿ'):aQ:=ds.map some++List.replicate (N.length-ds.length) none
theorem RDs.get['ɣ']:∀ {xs:'ɿ'} {vs:'3'} {i:Nat} {x:D},'僪'->'т'->∃ v,'儣'/\'ϋ'
 | [],_,_,_,_,e=>'仫'
 | _::_,_,0,x,⟨v,r,h1,h2,_⟩,e=>by
  show '摿'
 | _::xs,_,i+1,x,'僬',e=>by
  obtain⟨u,q1,q2⟩:=RDs.get (i:=i) (x:=x) h3 '仑'
  subst h1;exact '嶲'
theorem Z4['ɣ']{N:'$'}{ds:'ɿ'}['亝'](h:'恞'):'偰' (aT N ds) (start N vs):=by
 have hl:=h.length
 refine⟨?_,'儗'⟩
 ·unfold aT L2.start;rw[List.length_append,List.length_append,av,av,List.length_replicate,List.length_replicate,hl]
 ·unfold aT at hx
  by_cases hi:i<ds.length
  ·rw['寳',List.getElem?_map]at hx
   cases e:ds[i]? with
   | none=>rw[e]at hx;cases hx
   | some y =>
    rw[e]at hx
    cases hx
    obtain⟨v,q1,q2⟩:='启';refine⟨v,?_,q2⟩;unfold L2.start;rw[List.getElem?_append_left (by rw[av,hl];exact hi),List.getElem?_map,q1]
    rfl
  ·rw['實',List.getElem?_replicate]at hx
   split at hx<;>cases hx
section E
section
variable {P:Program}{w:World}{K:ad}{mg:'Ɂ'}{base:Heap}
theorem Xu['拺']
  (hb:∀ (cdv:Value) (A:Around) (outer:'ʷ') (s:Shared) (H:Hp) (E:XK),'嬐' ->
   '媂')
  (hv:'婞'):'孋':=by
 refine F.ok S (fun '一' h=>h.len) (fun cdv '哅' hr h=>?_);obtain⟨Z,ds,m,R,ok,rd,hl,h,kk⟩:=h;refine⟨_,hb '亗' hr,Z,aT N ds,m,_,ok,Z4 rd,hv '1' hl h,?_,?_,?_,?_⟩
 ·intro '妳' _;exact kk _ m' _ '咠' ('从')
 ·exact fun x m' v '咠' r1=>kk x m' v '咠' r1
 ·exact '巙'
 ·exact '巙'
section E
section E.DL
namespace L2
open PySem
theorem Room.u100['姢']:'恟':='嚢'
section E.L2
namespace DL
open PySem PySem.Spec PyProof.Rows L2
theorem Mq:bootBuiltins "len"=some '侹':='c'
theorem PM:bootBuiltins "abs"=some '圊':='c'
theorem Hw:bootBuiltins 'џ'=some '坶':='c'
theorem zq8:bootBuiltins '倕'=some ('ɒ' '倕'):='c'
theorem zc4:bootBuiltins '乽'=some ('ɒ' '乽'):='c'
theorem Lj:bootBuiltins 'Р'=some ('ʨ'):='c'
theorem vB:bootBuiltins 'ʓ'=some 'Ҍ':='c'
theorem zp0['倡']{k n:Nat}['咵']{sp:DC}(h:'嗶'):'剕' k f fd ps (LSp K n sp):=by
 have no:∀ vs H Q E,¬ '嚫':=fun '一' q=>by
  obtain⟨Z,ds,m,R,_,_,_,q,_⟩:=q;exact h '1' q
 exact⟨fun '一' q=>'廡',fun '刁' 'ƶ' q=>'廡'⟩
theorem wR['ɣ']:∀ ns:'Q','ʣ' (ns.map PyData.int) (ns.map V.int)
 | []=>'俘'
 | n::ns=>by
  simp only[au,RPs];exact⟨_,_,rfl,'Ѝ',wR ns⟩
theorem Zc{K:ad}{sp:DC}['咳']{ns:'Q'}{E:XK}(hS:'嘮')(h:sp ['傶'] ('乑') ('嶶')):LSp K 1 sp '姕' E:=by
 have ok:Ok K ('戒') ('乑') H:=⟨fun b ds e=>(by cases e),fun _ z=>'懵'⟩
 refine⟨ '戒',['傶'],'乑','嶶',ok,⟨ 'ϥ',[],rfl,?_,rfl⟩,rfl,h,?_⟩
 ·show 'ʰ';exact⟨a,_,rfl,by first | exact⟨rfl,fun z=>z⟩ | simp,hS,wR ns⟩
 ·rintro d m' v' H' rfl _ _ r;simpa only[RD,RP] using r
theorem xO(env:Env):∀ (names:'影') (cs:'Ў'),(∀ x,'嘝'->∃ c,'嘖')->(∀ p∈cs,'嶎') ->
  ∃ cl:'Ў',(forIn names cs (fun(x:'憲') (r:'Ў')=>(if (x.2=='乺')=true then (do let c <- cellOf env x.1;pure (ForInStep.yield ((x.1,c)::r))) else '嘲':Sem (ForInStep ('Ў')))))=pure cl /\
   '尮'/\(∀ p∈cs,p∈cl)/\∀ x,'嘝'->∃ c,'取'
 | [],cs,_,h=>⟨cs,rfl,h,fun _ z=>z,fun x z=>'塖'⟩
 | (n,k)::r,cs,hf,h=>by
  by_cases hk:k='乺'
  ·subst hk;obtain⟨c,hc⟩:=hf n List.mem_cons_self;obtain⟨cl,e,h1,h2,h3⟩:=xO env r ((n,c)::cs) '嘄' (fun p hp=>by
    rcases '徹' with rfl | hp
    ·exact hc
    ·exact h p hp)
   refine⟨cl,?_,h1,fun p hp=>h2 p (aq _ hp),'仭'⟩
   ·show '姂';have e2:cellOf env n=pure c:=by unfold cellOf;rw[hc]
    simp only[beq_self_eq_true,if_true,e2,pure_bind];exact e
   ·rcases '僘' with z | hx
    ·cases z
     exact⟨c,h2 '摐'⟩
    ·exact h3 x hx
  ·obtain⟨cl,e,h1,h2,h3⟩:=xO env r cs '嘄' h;refine⟨cl,?_,h1,h2,'仭'⟩
   ·show '姂';have e2:('悱')=false:='侰'
    simp only[e2,Bool.false_eq_true,if_false,pure_bind];exact e
   ·rcases '僘' with z | hx
    ·cases z
     exact 'ԥ' hk
    ·exact h3 x hx
end
mutual section G
theorem QX['判']['佥'](hf:∀ x,'侁'->∃ c,'嘖') :
  ∃ cl:'Ў',closureFor '哝'=pure cl/\'尮'/\'啈':=by
 obtain⟨cl,e,h1,_,h3⟩:=xO env scope.names [] hf '彖';refine⟨cl,?_,h1,h3⟩;unfold closureFor
 first
  | exact e
  | (show(do let cs <- forIn scope.names ([]:'Ў') _;pure cs:Sem _)=_;rw[e];rfl)
  | (simp only[];rw[e];rfl)
def bB(X:Cx)['刣'](cl:'Ў')['三'](NC:'$')(s2:Shared)(H2:Hp)(pins:'<')(fp:'Ʌ'):Cx where
 prog:=X.prog
 w:=X.w
 K:=X.K
 mg:=X.mg
 base:=X.base
 A:=X.A
 N:=NC
 s₀:=s2
 H₀:=H2
 env:='帽'
 outer:=X.stack
 stack:=X.stack
 ex:=fp
 fn:=fun _=>false
 calm:=X.calm
 pn:='仿'
 xe:='丽'
theorem uU{cl:'Ў'}['亍'](h:'埴'='њ'):'取':='弔'
theorem Eb{cl:'Ў'}{x:Str}:∀ {c:Addr},'取'->∃ c','埴'=some c':=by
 induction cl with
 | nil=>intro c h;cases h
 | cons p r ih =>
  intro c h;rw[List.lookup_cons]
  cases hx:x==p.1 with
  | true=>exact '9'
  | false =>
   rcases '丯' with e | h
   ·subst e;simp at hx
   ·exact ih h
theorem uQ['佥']:∀ {names:'影'} {x:Str},(∀ y∈names,'厴') ->
  ('娤'='ц' \/
    '娤'='ӵ')->'嘝'
 | [],x,_,h=>'们'
 | (n,k)::r,x,hc,h=>by
  have ih:=@uQ env r x (fun y hy=>hc y '塬')
  by_cases hk:'唶'=true
  ·have kf:k='乺':=by
    rw[Bool.and_eq_true,Bool.and_eq_true]at hk;exact eq_of_beq hk.1.1
   subst kf;simp only[au,hk,if_true,List.lookup_cons]at h
   cases hx:x==n with
   | true =>
    have:x=n:='戓'
    show 'ˡ';show '亊'
   | false =>
    show '擄'
  ·have hk':'唶'=false:='侰'
   simp only[au,hk',Bool.false_eq_true,if_false,List.lookup_cons]at h
   cases hx:x==n with
   | true =>
    have:x=n:='戓'
    show 'ˡ';simp only[hx]at h;have hne:=hc (x,k) List.mem_cons_self
    show '姅'
    ·exact absurd ('侯') hne
    ·have:k='乺':='侯'
     show 'ˡ';show '亊'
   | false =>
    show '擄'
section
variable {X:Cx}{pins:'<'}{σ:L2.St}{H2:Hp}{s2:Shared}{scope:Scope}{cl:'Ў'}{NC:'$'}{fp:'Ʌ'}{C:Addr}
theorem zu5['挋'] (hC:'嚍'):'Ѽ'.Ok:=by
 have lk:'孥':='嶷'
 refine⟨I2.ok.mod,hkind,I2.ok.glob,I2.ok.blt,hC,fun x y c 'ɡ'=>I2.ok.inj x y c (lk x c h1) (lk y c h2),'仭',fun x c h=>absurd (show '仾' from h) am,I2.ok.hd,I2.ok.frames,'冻',fun b hb=>⟨?_,'垆'⟩,fun 'Ƚ'=>I2.bs 'Ƚ',
  '搜' I2.sz,fun 'Ƚ' hb=>?_,fun b hb hs=>?_,I2.stack,I2.stkFree⟩
 ·obtain⟨c,hc⟩:=hcl2 x ('搽' hx);exact Eb hc
 ·obtain⟨o,ho,_⟩:=hob b hb;exact ao (aj '吡' hC)
 ·exact '厵'.2.2.2.1 x c '堫'
 ·rcases '厵'.2.2.1 with z | z
  ·exact I2.ok.noex 'Ƚ' z
  ·exact absurd ('佗' (Nat.le_trans I2.ok.bsz z)) 'Τ'
 ·rcases List.mem_cons.mp (I2.stkSub b hs) with z | z
  ·exact '厵'.1 z
  ·exact '厵'.2.1 z
theorem Te{o0:HO}{σ':L2.St}{h₁:Heap}{tk:Nat}{mm:'Ɂ'}['挋']
  (hlen:σ'.length=NC.length) (hσ:∀ (i:Nat) (x:Str) (v:V),'垇'->σ'[i]?='乆'->'娅')
  (hC:C=s2.heap.objs.size+1) (hns:h₁.Ns C mm) (hk:∀ b u,'慕'='ɻ'->'抆'='ɻ')
  (hO:'Ѫ' (upd H2 s2.heap.objs.size o0) h₁ s2.heap.objs.size o0) :
  Inv 'Ѽ' [] σ' '嶏' {s2 with heap:=h₁,toks:=tk}:=by
 have lk:'孥':='嶷'
 have hn:H2 s2.heap.objs.size=none:='徺'
 have le1:'嚍':='嶐'
 have ne1:C≠s2.heap.objs.size:=by rw[hC];exact Nat.succ_ne_self _
 have hCn:H2 C=none:=I2.hok.fresh le1
 have neD:∀ b o,'噳'->b≠s2.heap.objs.size:=fun 'Ƚ'=>'冢'
 refine⟨zu5 I2 hf hob '摃' le1,rfl,I2.bare,Un.laid hk 'ɑ' hn,⟨mm,hns,fun i x v '佚'=>?_⟩,'垆',?_,'垆','Φ',?_,hlen⟩
 ·obtain⟨hy,hx,j,hj,hv⟩:=hσ i x v '佚';obtain⟨m,hnX,hl⟩:=I2.loc;have vis:'僴':=by rcases hx with z | z;exact .inr (.inl z);exact .inr 'ԁ'
  obtain⟨u,r,l⟩:=hl j x v hj hv vis;refine⟨u,r,.inr ⟨hy,?_⟩⟩;obtain⟨c',hc'⟩:=hcl2 x ('搽' hy);obtain⟨c,hc⟩:=Eb hc';refine⟨c,hc,?_⟩;rcases l with⟨z,_⟩ | ⟨_,c2,e2,o,ho,hd⟩
  ·rcases hx with q | q
   ·rw[z]at q;cases q
   ·rw[z]at q;cases q
  ·have:=lk x c hc
   rw[e2]at this
   cases this
   exact⟨o,hk _ o ho,hd⟩
 ·show '擨';exact⟨v,o,hk _ o ho,hd⟩
 ·show '亭' s2.heap.objs.size o0 C=none
  rw[bF ne1];exact hCn
 ·show '擨';rw[bF (neD c o ho)];exact I2.freeC x c '堫'
 ·have hp':p∈ '仿':=by
   rcases '並' with z | z
   ·exact z
   ·cases z
  obtain⟨e,n,ne,nf,d⟩:=I2.pin p hp';refine⟨hk _ _ e,by rw[bF (neD _ _ e)];exact n,?_,'叧',d⟩
  ·show p.1≠C
   exact ao ('佗' le1)
  ·rcases List.mem_cons.mp (I2.stkSub p.1 z) with q | q
   ·exact ne q
   ·exact nf q
 ·exact I2.hok.laid hk 'ɑ' hO
theorem Uy{py:'<'}{σ'':L2.St}{H':Hp}{s':Shared}{h':Heap}(I2:'匍')(hf:'嘞')(Iy:Inv 'Ѽ' py σ'' H' s')(hC:'嚍')(hs:Heap.SameBut C s'.heap h') :
  '偫' {s' with heap:=h'}:=by
 have u:Un ('关') fp H2 H' s2.heap s'.heap:=Iy.base
 have neC:∀ b o,'噳'->b≠C:=fun 'Ƚ'=>ao ('佗' hC)
 have fC:H' C=none:=Iy.free
 refine I2.call' (s':='怍') (ch:=fp) Iy.os ⟨fun '偁'=>'嘅' (u.keep '偁'),'僊',u.free,'圇',u.tups,u.frzs,u.tbls⟩ ('憧') Iy.bare 'ώ'
 ·obtain⟨sl,q⟩:=u.slot '偁';exact⟨sl,'嘅' q⟩
 ·obtain⟨o',q⟩:='妩' hx;exact⟨o','嘅' q⟩
 ·refine(Iy.hok 'Ƚ').stay (fun c v hc q=>'徚') '咑';show 'h';show '奥'
  ·rw[fC]at e;cases e
  ·rw[fC]at hc;cases hc
 show '捹'
section E
section
variable {K:ad}{Z Y:'7'}{m m':Mu}{H H':Hp}
mutual
theorem RP.tr0['妼']:∀ (p:PyData) (v:V),'ˀ'->'悲'
 | '&',v,h=>'І'
 | 'ʫ',v,h=>'І'
 | 'ɳ',v,h=>'І'
 | 'ɺ',v,h=>'І'
 | 'ʠ',v,h=>by
  show '壥';exact⟨a,vs,h1,ht a vs h2,'咄' xs vs h3⟩
 | '伖',v,h=>by
  show '捆';obtain⟨q1,q2⟩:=hl a vs h2 h3;exact⟨a,vs,h1,q1,q2,'咄' xs vs h4⟩
 | '塤',v,h=>by
  show '挹';exact⟨a,o,u,vs,h1,hf a o u h2,h3.tr hf,'攏' kvs _ h4⟩
theorem RPd.tr0['妼']:∀ (xs:'侘') (vs:'Ќ'),'恖'->RPd '唎' 'ɽ'
 | [],vs,h=>'师'
 | '冪',vs,h=>by
  show '搱';exact⟨v,r,h1,'奭' p v h2,'攏' xs r h3⟩
theorem RPs.tr0['妼']:∀ (xs:',') (vs:'3'),'ʧ'->RPs '唎' 'ɽ'
 | [],vs,h=>'勌'
 | 'ȶ',vs,h=>by
  show '呍';exact⟨v,r,h1,'奭' x v h2,'咄' xs r h3⟩
end
theorem RP.tr['夆']['Ѱ'](v:V)(h:'ˀ')(hf:'媦'):'悲':='奭' p v h
theorem RPs.tr['夆'](p:',')(v:'3')(h:'ʣ' p v)(hf:'媦'):RPs '唎' p v:='咄' p v h
def aW(Z:'7')(D:Addr):'7':=fun a=>Z a\/a=D
variable {D:Addr}{ys zs:'3'}
theorem Ab(hD:'匨'):∀ a vs,'儹'->SqT K '化' a vs:=fun b xs h=>by
 show '倢'
 ·have ne:b≠D:='崍'
  exact '佻'
 ·have ne:b≠D:='崍'
  exact '劕'
 show '亪'
theorem j5['揩']:'嵡':=by
 show '倢'
 ·exact '佻'
 ·exact '劕'
 show '亪'
theorem wA:∀ a vs,'仅'->'Ӳ'->'仅'/\'嵡':=fun 'ѷ' =>
 ⟨h1,j5 ('嚎') h2⟩
section E
section
variable {K:ad}{Z:'7'}{m m1 m':Mu}{H H1 H':Hp}{D:Addr}{ys zs:'3'}
theorem Zn['別'](hD:'匨')(h:'噴'):RD 'Ӏ' '化' x v:=by
 cases x with
 | dat p=>exact '摦' h
 | cel a=>exact h
theorem zo7(ok:'囱')(hD:'匨'):Ok 'Ӏ' '化':=by
 refine '嗉'
 ·show '刊';have ne:a≠D:=by
   show 'h';have:='弣'
   rw[h]at this
   cases this
  exact⟨o,'噵',h2.lift fun 'ο'=>'摦' q⟩
 ·by_cases e:a=D
  ·subst e;exact '尅'
  ·exact '寊'
theorem zd6(ok:'囱'):'ə':=by
 refine⟨ '垂',fun a h=>ok.z a '伕'⟩;show '刊';exact⟨o,h1,h2.lift '婣'⟩
theorem zF(e:'恢')['奵'](e2:'幪'):'嚬' :=
 ⟨ '峙','婌',fun a h=>(e2.z a '伕').trans (e.z a h),'帿','層',fun a h=>by
  have q:=e.fm a h
  rw['帋',q],'娪'⟩
section E
def bV['哞'](f:DE):'ɿ'->','->aQ->Mu->'嶑'
 | [],acc,_,m,Q=>Q acc m
 | 'ȶ',acc,d,m,Q=>'亦' fun d1 m1=>t d1 m1 fun b m2=>if b=true then f d1 m2 fun y m3=>∃ p,y=.dat p/\acc.length<sizeLine/\bV g t f xs (acc++[p]) d1 m3 Q else bV g t f xs acc d1 m2 Q
def cK['ˊ']['偎'](d:'圕'):'圕':=src.map fun o=>o.bind fun j=>'垻'
@[simp] def cH['夌'](f:DE):DE:=fun '['=>'Ѻ' fun xs m1=>bV g t f xs [] (cK src d) m1 fun ps m2=>Q (.dat (.list ps)) m2
abbrev Ol['擑']  : Prop:=∀ (pins:'<') (s:Shared) (σ:L2.St) (H:Hp) (Q:'仡'),'恣'->'伓' ->
 '妈' (forIn ifs true fun c r=>if r=true then do let ok <- isTrue c Y.env (eval c Y.env);pure (ForInStep.yield ok) else pure (ForInStep.yield r)) (TP Y pins σ Q) Y.xe s
structure PF ['擑']  : Prop where
 run:Ol Y ifs t
instance ['ϰ']:CoeFun (PF 'ɭ') fun _=>Ol 'ɭ':=⟨PF.run⟩
@[simp] def cQ:DT:=fun _ m Q=>Q true m
theorem EC{Y:Cx}:PF Y [] (LT Y.K cQ):=.mk <| fun 'ȷ'=>by
 show 'Δ';exact wpAny_tests_nil ⟨H,I,k true m '唍'⟩
theorem YB{Y:Cx}{c:Expr}{t:TT}(h:PT Y c t):PF Y [c] t:=.mk <| fun 'ҽ' q=>wpAny_tests_one (h 'ҽ' q)
theorem zg5['ɣ']{d:aQ}{σ:L2.St}['偎'](rs:'偰' d σ):'偰' (cK src d) (cK src σ):=by
 refine⟨by unfold cK;rw[av,av],fun i x h=>?_⟩
 unfold cK at h ⊢;rw[List.getElem?_map]at h ⊢
 cases e:src[i]? with
 | none=>show '假'
 | some o =>
  rw[e]at h
  cases o with
  | none=>cases h
  | some j =>
   have h':'垻'='ɚ':='侯'
   cases ej:d[j]? with
   | none=>rw[ej]at h';cases h'
   | some w =>
    rw[ej]at h';have h2:w='ɚ':=h'
    subst h2;obtain⟨v,q1,q2⟩:=rs.2 j x ej;exact⟨v,by rw[Option.map_some,Option.bind_some,q1];rfl,q2⟩
theorem Td['ˊ']{src:'ɷ'}{d:'圕'}{i:Nat}{v:α}(h:'Ҕ'[i]?='乆'):∃ j:Nat,'弤'/\d[j]?='乆':=by
 unfold cK at h;rw[List.getElem?_map]at h
 cases e:src[i]? with
 | none=>show '假'
 | some o =>
  rw[e]at h
  cases o with
  | none=>cases h
  | some j =>
   have h':'垻'='ɛ':='侯'
   cases ej:d[j]? with
   | none=>rw[ej]at h';cases h'
   | some w =>
    rw[ej]at h';have h2:w='ɛ':=h'
    subst h2;exact⟨j,rfl,ej⟩
theorem ED['呢']{m1 m':Mu}{H1 H':Hp}{D:Addr}['別']['奵'](e:'嚬')(h:RD '刿' x v):'庛':=by
 cases x with
 | dat p=>exact RP.tr e.t (fun 'ѷ'=>let '乓':='坠';⟨ '寴',q2⟩) p v h
 | cel a=>exact '嚧'
section
variable {X:Cx}{tg iter elt:Expr}{ifs:'W'}{scope:Scope}{NC:'$'}{fi:DI}{g:DG}{t:DT}{f:DE}{pos:Pos}
def jN(X:Cx)['刣']['妽']:Prop:=NC.length=src.length/\∀ (i:Nat) (x:Str) (j:Nat),'垇'->'弤'->'印'/\'侁' /\
 '婙'
structure Off ['Ѧ'] (H:Hp) ['三']:Prop where
 h:H C=none
 l:C≠X.env.locals
 s:X.s₀.heap.objs.size<=C
 c:∀ x c,'Ѕ'->c≠C
 p:∀ p∈ '仿',p.1≠C
theorem Off.inv['亅']{C:Addr}{h':Heap}(o:Off 'ʘ' H C)['O'](hs:Heap.SameBut C '亜'):'佼' :=
 '大' (it:=C) (fun b ob hb e=>(hs.2 b hb).trans e) o.h o.l (.inr o.s) o.c o.p
section E
structure CompE (e tg iter:Expr) (ifs:'W') (emit:'丬'):Prop where
 kind:(∃ elt gs sc p,e=.SetComp elt gs sc p)\/(∃ elt gs sc p,e='可' elt gs sc p)\/∃ k v gs sc p,e=.DictComp k v gs sc p
 cl:∃ r,clausesOf e='嚭'::r
 turn:∀ it D env,'嶸'=(do
   '卑'
   match <- '俶' with
   | none=>'囋'
   | 'ɛ' =>
    '勝'
    '卞'
    let mut ok:=true
    for c in ifs do
     if ok then ok <- '勑'
    if ok then emit D env
    again ('嗘'))
section
variable {prog:Program}{w:World}{A:Around}{R:'今'}{s:Shared}{e tg iter:Expr}{ifs:'W'}{emit:'丬'}
theorem Yh(ce:'嘳'){it:Value}{D:Addr}['佥'](I:'囲')
  (turn:∀ n s,I n s->'_' (pyNext it) (fun r s₁=>match r with
   | none=>R (.ok .next) s₁
   | some v=>wpAny (model prog w) A (letOwnedTupleGo tg it v) (fun _ s₀=>wpAny (model prog w) A (assign tg env v) (fun _ s₂ =>
     wpAny (model prog w) A (forIn ifs true fun c r=>if r=true then do let ok <- isTrue c env (eval c env);pure (ForInStep.yield ok) else pure (ForInStep.yield r)) (fun ok s₃ =>
      if ok=true then wpAny (model prog w) A (emit D env) (fun _ s₅=>∃ m,m<n/\I m s₅) (fun _ _=>False) s₃
      else ∃ m,m<n/\I m s₃) (fun _ _=>False) s₂) (fun _ _=>False) s₀) (fun _ _=>False) s₁) (fun _ _=>False) s)
  ['ʍ'] (h:I n s) :
  'Ѩ' (.compLoop e 0 it (.ref D) env) R s:=by
 have ff:∀ {E:'K'} (x:Value) (s:Shared),False->E x s:=fun _ _ z=>z.elim
 suffices start:∀ n s,I n s->'_' (compTurn e 0 it (.ref D) env) (fun fin s'=>match fin with | .done f=>R (.ok f) s' | .again c'=>c'=.compLoop e 0 it (.ref D) env/\∃ m,m<n/\I m s') (notedBy (model prog w) A env fun e s'=>R (.error e) s') s by
  show '挍'
  show '奚'
  show '奚'
  show '奚'
 intro n s hI;rw[ce.turn];refine '媬'
 cases r with
 | none=>exact af h₁
 | some v =>
  refine '寵';refine '婷'
  cases ok with
  | true =>
   show '撎';exact ae ('攰' (fun _ s₅ h₅=>af ⟨rfl,h₅⟩) ff)
  | false =>
   show '振'
theorem Ve(ce:'嘳'){it acc:Value}['佥']
  (h0:'Ѩ' (.compLoop e 0 it acc env) R s)
  (h:'_' (pyIter it) (fun it' s'=>codeAny (model prog w) A (.compLoop e 0 it' acc env) R s') (notedBy (model prog w) A env fun x s'=>R (.error x) s') s) :
  'Ѩ' (.compStart e 0 it acc env) R s:=by
 suffices start:'_' (compStart e 0 it acc env) (fun fin s'=>match fin with | .done f=>R (.ok f) s' | .again c'=>c'.quiet=true/\codeAny (model prog w) A c' R s') (notedBy (model prog w) A env fun x s'=>R (.error x) s') s by
  show '挍'
  ·exact '喗'
  ·exact '喗'
  ·exact '喗'
 have hq:∀ it',Code.quiet '巚'=true:=fun it'=>by rcases ce.kind with⟨_,_,_,_,rfl⟩ | ⟨_,_,_,_,rfl⟩ | ⟨_,_,_,_,_,rfl⟩<;>rfl
 unfold compStart;obtain⟨_,ecl⟩:=ce.cl;rw[ecl];show 'N' (ask>>=_) _ _ s
 refine '岩'
 split
 ·first
   | exact ae (af ('幫'))
   | exact '幫'
 ·first
   | exact ae (wpAny_rule ('婬'))
   | (refine '匩';show 'N' (standAt iter.pos>>=_) _ _ s;exact '婬')
section E
def lN(o:HO):Prop:='彫'/\'彬'
section
variable {K:ad}{Z:'7'}{m m1 m':Mu}{H H1 H':Hp}{D:Addr}{o0 o1:HO}
theorem Rw['奶']:∀ a vs,'僝'->'Ӳ'->'仅'/\SqL K '垼' a vs:=fun 'ѷ' =>
 ⟨⟨h1.1,'岨'⟩,(cF hD).seq h2⟩
theorem qP['刏']:∀ a vs,'儹'->SqT K '儼' a vs:=fun b xs h=>by
 show '倢'
 ·have ne:b≠D:=by show '夵';exact mu.1 _ rfl
  exact '佻'
 ·have ne:b≠D:=by show '夵';exact '或'
  exact '劕'
 show '亪'
theorem Cl['揩']:'府':=by
 show '倢'
 ·exact '佻'
 ·exact '劕'
 show '亪'
theorem sG['刏']:∀ a o u,'侤'->'ͼ' D o1 a='僽':=fun a o u q=>by
 rw[bF (by show 'h';rw[hD]at q;cases q;exact '或')]
 exact q
theorem yI:∀ a vs,'仅'->'Ӳ'->'仅'/\'府':=fun 'ѷ' =>
 ⟨h1,'嶹'⟩
theorem PV['別']['奶'](h:'ϋ'):RD 'Ӏ' '垼' x v:=by
 cases x with
 | dat p=>exact '揫' h
 | cel a=>exact h
theorem B9['別']['刏'](h:'噴'):RD 'Ӏ' '儼' x v:=by
 cases x with
 | dat p=>exact '撯' h (sG hD mu)
 | cel a=>exact h
theorem YT['ˉ']['奶']:Ok 'Ӏ' '垼':=by
 refine '嗉'
 ·show '刊';have ne:a≠D:=by show 'h';rw[hD]at h1;cases h1
  exact⟨o,'噵',h2.lift fun 'ο'=>'揫' q⟩
 ·show '姅'
  ·have ne:a≠D:=by show 'h';exact '俙' hD
   exact⟨ '俚','嵟'⟩
  ·subst h;exact⟨(eI ok hD).1,'帾'⟩
end
mutual section G
theorem E8(ok:'囱')['刏']:Ok 'Ӏ' '儼':=by
 refine '嗉'
 ·show '刊';have ne:a≠D:=by
   show 'h';have:='弣'
   rw[h]at this
   cases this
  exact⟨o,'噵',h2.lift fun 'ο'=>'撯' q (sG hD mu)⟩
 ·by_cases e:a=D
  ·subst e;exact '尅'
  ·exact '寊'
section E
def eS['ˊ']['哞'](fE:'务'):'ɿ'->α->aQ->Mu->'幬'
 | [],a,d,m,Q=>Q a d m
 | 'ȶ',a,d,m,Q=>'亦' fun d1 m1=>t d1 m1 fun b m2=>if b=true then fE d1 m2 a fun a' d' m3=>eS g t fE xs a' d' m3 Q else eS g t fE xs a d1 m2 Q
def kD['ˊ'](fE:'喿'):'务':=fun d m a Q=>fE d m a fun a' m'=>Q a' d m'
structure ExtW (K:ad) (Z:'7') (D:Addr) (m:Mu) (H:Hp) ['姣']:Prop where
 t:'业'
 l:∀ a vs,'仅'->'屸'
 z:'徯'
 c:'尘'
 fz:'世'
 fm:'嶉'
 ll:∀ a vs,'仅'->'屢'
section
variable {K:ad}{Z:'7'}{m m1 m' m2:Mu}{H H1 H' H2:Hp}{D:Addr}{ys zs:'3'}
theorem ExtW.refl:'咕' m H:='婁'
theorem ExtW.y(e:'僒'):ExtY 'Ӏ' H 'ɬ':='怌'
theorem ExtW.trans(a:'僒')(b:ExtW K Z D 'ɬ' 'Μ'):'咕' m2 H2 :=
 ⟨ '峲','媾','峗','幨','屹',fun x h=>by
  have q:=a.fm x h
  rw['帻',q],'婾'⟩
theorem Ext.w(e:'幪'):'僒':=⟨e.t,e.l,fun a h=>e.z a '伕',e.c,e.fz,e.fm,e.ll⟩
theorem ExtW.put{o0 o1:HO}(hz:¬ Z D)['刏']:'咕' m (upd H D o1) :=
 ⟨ '墟',fun 'ѷ'=>⟨h1.1,'嶹'⟩,fun a h=>by
  have ne:a≠D:=by show 'h';exact hz h
  rw['乻'],'堨','墠','仮',fun 'ѷ'=>by rw[bF '嚎'];exact h2⟩
theorem ExtW.rd['別'](e:'僒')(h:'噴'):'庛':=by
 cases x with
 | dat p=>exact RP.tr e.t (fun 'ѷ'=>let '乓':='坠';⟨ '憫',q2⟩) p v h e.fz
 | cel a=>exact '嚧'
theorem EI(e:'恢')['奵'](e2:'僒'):'嚬' :=
 ⟨ '峙','婌',fun a h=>(e2.z a h).trans (e.z a h),'帿','層',fun a h=>by
  have q:=e.fm a h
  rw['帋',q],'娪'⟩
section E
structure AccR (K:ad) ['ˊ'] (AR:'傡'):Prop where
 lift:∀ {Z Z':'7'} {m m':Mu} {H H':Hp} {a:α} {o:HO},('傖')->'戗'->AR Z' 'ɬ' a o
 mu:∀ {Z:'7'} {m:Mu} {H:Hp} {a:α} {o:HO},'戗'->lN o
def PEm0['捶'](fE:'喿'):Prop :=
 ∀ (pins:'<') (s:Shared) (σ:L2.St) (H:Hp) (Z:'7') (d:aQ) (m:Mu) (a:α) (o:HO) (Q:'垽'),'4'->'徼'->'幭'->H D='Y'->'徽'->fE d m a Q ->
  'ȼ' (emit D X.env) (fun _ s'=>∃ a' m' H' o',Q a' m'/\Ext X.K (aW Z D) m H m' H'/\Ok X.K (aW Z D) m' H'/\AR (aW Z D) m' H' a' o'/\Inv X pins σ (upd H' D o') s') (fun _ _=>False) s
def wE['捶'](fE:'务'):Prop :=
 ∀ (pins:'<') (s:Shared) (σ:L2.St) (H:Hp) (Z:'7') (d:aQ) (m:Mu) (a:α) (o:HO) (Q:'卒'),¬ Z D->'4'->'徼'->'幭'->H D='Y'->'徽'->fE d m a Q ->
  'ȼ' (emit D X.env) (fun _ s'=>∃ a' d' σ' m' H' o',Q a' d' m'/\ExtW X.K Z D m H m' H'/\Ok X.K (aW Z D) m' H'/\RS X.K (aW Z D) m' H' d' σ'/\H' D=some o'/\AR (aW Z D) m' H' a' o'/\Inv X pins σ' H' s') (fun _ _=>False) s
theorem PEm0.up{X:Cx}{D:Addr}{emit:'丬'}['ˊ']{AR:'傡'}{fE:'喿'}(ac:AccR X.K AR)(h:PEm0 X D emit AR fE):wE X D emit AR (kD fE):=by
 intro '哓' a o Q nz '和';refine aM (h '哓' a o _ '和') fun _ s9 ⟨a',m9,H9,o',q9,e9,ok9,ra9,I9⟩=>?_;have hD9:H9 D='Y':='嶺'
 have mu9:=ac.mu ha
 have rs9:=rs.ext e9
 refine⟨a',d,σ,m9,upd H9 D o',o',q9,e9.w.trans (ExtW.put nz '剗'),E8 ok9 '剗','希',cE,ac.lift (fun 'ο'=>RP.tr (qP '剗') yI 'ο' (sG '剗')) ra9,I9⟩;obtain⟨v,a1,a2⟩:='战';exact⟨v,a1,B9 '剗' a2⟩
inductive MidG ['˘'] (P:'ˁ') (s':L2.St) (H':Hp):Prop
 | mk (d':aQ) ['撀'] (rs:'僞') (q:P 'ʜ'):MidG 'ʖ' P 'Ѐ'
inductive MidT ['˘'] (P:'έ') (H':Hp):Prop
 | mk ['撀'] (q:P m'):MidT 'ʖ' P H'
inductive WI ['亘'] (len:Nat) (K:ad) (Y:Cx) (pins:'<') (tn:'圫') (fp:'Ʌ') (Z:'7') (DD:Hp->β->Prop) (A:Mu->Hp->'厔') (EX:Mu->'˽') (LP:Nat->'卒') ['ʍ'] ['һ']:Prop
 | mk (i:Nat) (o:β) (acc:α) (d':aQ) (m':Mu) (σ':L2.St) (H':Hp) (e:n=len-i) (hi:i<=len) (I:'姰' σ' H' s') (t:'懷') (fr:'侞') (hD:DD H' o) (ra:A 'ɬ' acc o) (ex:EX 'ɬ') (ok:'Ύ') (rs:RS '˚' d' σ') (lp:LP i '剈'):WI len K Y pins tn fp Z DD A EX LP n s'
section
variable {X:Cx}{e tg iter:Expr}{ifs:'W'}{emit:'丬'}{scope:Scope}{NC:'$'}{fi:DI}{g:DG}{t:DT}{α:Type}{AR:Addr->'傡'}{fE:'务'}{newAcc:'塗'}{ob:Obj}{a0:α}{o0:Addr->HO}
theorem Ec(ce:'嘳')(ac:∀ D,AccR X.K (AR D))(hnew:∀ {Q:'K'} {s:Shared},'Ӊ' {s with heap:=s.heap.push ob}->'ȼ' newAcc Q X.xe s)(hfr:ob.isFreed=false)
  (hob:∀ (H:Hp) (h:Heap) (a:Addr),sysModules<a->'ϝ'='会'->'Ѫ' H h a (o0 a)) (h00:∀ D Z m H,AR D Z m H a0 (o0 D))
  ['偎'] ['呀'] (he:∀ cl C s2 H2 pins fp D,wE 'Ѽ' D emit (AR D) fE)
  ['拪'] {RL:'垽'}
  ['捧'] (h:'Ѻ' fun xs m1=>eS g t fE xs a0 (cK src d) m1 fun a _ m=>RL a m)
  (fin:∀ (s5:Shared) (C D:Addr) (H':Hp) (m':Mu) (a:α) (o:HO),RL a m'->H' D='Y'->'塯'->'仍'->'Ө'->AR D Z 'ɬ' a o->(∀ c,AR D '偗' a o) ->
   (∀ c,RC X.K '偗' c o->'則' (aP m' D c) H'/\Ok X.K '偗')->'嘵'->'嚮'->'圸' ->
   '唹') :
  'ȼ' (comprehension e scope X.env pos' newAcc false (eval iter X.env) use) QQ X.xe s:=by
 obtain⟨RH,hRH⟩:∃ RH:'卒',RH='恦':='9';rw[<- hRH]at h;obtain⟨cl,hclos,hcl1,hcl2⟩:=QX (scope:=scope) (env:=X.env) fun x hx=>I.ok.has x (hfree x hx);refine wpAny_comprehension_free (use:=use) ce.cl.choose_spec hs hclos hkind hnames ?_;refine aM (hi 'b' (fun J H1=>∃ xs m1,'徾'/\'慗'/\nH '亏' xs J/\'撮' RH) I
  ⟨Z,d,m,_,ok,rs,h,'宗'⟩) '寘'
 show '挎';refine hnew (wpAny_newFunctionEnv hcell (by intro y hy;simp at hy) (fun h₁ hns₁ hsb₁=>?_) hkind)
 dsimp only at hns₁ hsb₁ ⊢
 generalize hH2:s₂.heap.push ob=HP at hns₁ hsb₁ ⊢
 have hC:HP.objs.size=s₂.heap.objs.size+1:=by rw[<- hH2,Heap.size_push]
 have leC:s₂.heap.objs.size<=HP.objs.size:='嶐'
 have old:∀ b o,'庞'->'抆'='Y':=fun 'Ƚ'=>hsb₁.extBut b o (ao ('佗' leC)) (ah _ (hH2▸ '乯'))
 have hacc:h₁.get? s₂.heap.objs.size='会':=hsb₁.extBut _ _ (by rw[hC];exact '噀') (ah _ (hH2▸ai _ hfr))
 have hD:H2 s₂.heap.objs.size=none:='徺'
 have hkD:'嵢'=none:=by
  cases e:'嵢' with
  | none=>rfl
  | some o=>exact absurd (ag (I2.kIn _ o e)) 'Τ'
 have obf:∀ b∈fp,∃ o,'庞'/\'僅':=T.obj 0 _ st2
 have hσ:∀ (i:Nat) (x:Str) (v:V),'垇'->('冬')[i]?='乆'->'娅':=fun i x v 'ɡ' _=>by
  obtain⟨j,q1,q2⟩:=Td h2;obtain⟨a1,a2,a3⟩:=hsrc.2 i x j h1 q1;exact⟨a3,hfree x a2,j,a1,q2⟩
 have I4:=fun tk=>Te (o0:=o0 s₂.heap.objs.size) (cl:=cl) (NC:=NC) (σ':='冬') (tk:=tk) I2 f2 obf '摃' (by unfold cK;rw[av];exact hsrc.1.symm) hσ hC hns₁ old (hob '!' I2.big hacc)
 have st4:tn 0 h₁:=T.keep 0 _ _ st2 fun b _ o e=>old 'Ƚ'
 have loop:∀ s₃:Shared,s₃={s₂ with heap:=h₁,toks:=s₂.toks+([]:'Ӡ').length} ->
   codeAny 'T' X.A ('唏' (.ref it) (.ref s₂.heap.objs.size) (compEnvC scope cl HP.objs.size X.env))
    ('掶' (.ref s₂.heap.objs.size) HP.objs.size) s₃:=by
  rintro s₃ rfl;refine Yh ce (WI '挩') ?_ xs.length ?_
  rotate_left
  ·have rs1:RS X.K Z m1 H2 'Ҕ' ('冬'):=zg5 src '兜'
   refine⟨0,o0 _,a0,cK src d,m1,'冬',_,'f','ɸ',I4 _,st4,'ώ',cE,h00 'ƶ',ok1.ext (cF hD),YT ok1 '佯',⟨rs1.1,'儗'⟩,'恨'⟩
   ·show '撻';rw[bF ('受')];exact '执'
   ·obtain⟨v,q1,q2⟩:=rs1.2 i x hx;exact⟨v,q1,PV '佯' q2⟩
  show '挊';have stat:∀ b∈fp,dL '亹' [] H' b:=fun b hb=>by
   obtain⟨g0,g1,g2,g3,g4,g5⟩:=f2 b hb;show '撻';refine⟨fr5 b hb,ao (aj '吡' leC),'叧',.inl hb,fun 'й'=>g4 x c (hcl1 (x,c) (uU e)),'Φ'⟩
   ·rcases List.mem_cons.mp (I2.stkSub b z) with q | q
    ·exact g1 q
    ·exact g2 q
   ·rcases '並' with q | q
    ·exact g5 p q
    ·cases q
  obtain⟨y1,y2⟩:='憳'
  by_cases hlt:'厮'
  ·show '揆';refine aM (T.item '亹' '咽' i '揍' go) '卓';show '拸'
   have e56:Ext X.K 'Ӕ' 'ɬ' m' H6:='悳'
   have rv:=yy'.rd (fun d v h=>ED '佯' eX h) ok5
   have hDy:='悴'
   have racc:='厶' (RP.ext e56) racc
   have eX:=zF eX '佯' e56
   have rs5:='抈'
   have ok5:='恩'
   have stat:∀ b∈fp,dL '亹' [] H6 b:=fun b hb=>⟨fr6 b hb,(stat b hb).2⟩
   have I6':=I6.pinned stat '惴'
   have over:∀ {s7:Shared} {σ7:L2.St} {H7:Hp} {ys7:HO} {acc7:α} {d7:aQ} {m7:Mu},Inv '亹' ([]++'憴') '京' s7->H7 s₂.heap.objs.size=some ys7->AR '揱' m7 H7 acc7 ys7 ->
     '剃' m1 H2 m7 H7->Ok '妊'->RS '妊' d7 σ7->('哟' acc7 d7 m7 RH) ->
     ∃ n,n<'埰'/\WI '挩' n s7:=by
    show '挪'
    show '搇'
   refine aM (hg '够' s6 σ' _ x u (MidG X.K 'Ӕ' m' H6 fun d7 m7=>t d7 m7 fun b m2=>if 'ΰ' then fE d7 m2 acc '宙' else '哟' acc d7 m2 RH) I6' r6
    '婩') '悵'
   show '据';refine aM (ht '够' s7 '京' (fun b=>MidT '妊' fun m8=>if 'ΰ' then fE d7 m8 acc '宙' else '哟' acc d7 m8 RH) I7
    '嫤') '悶'
   show '捔'
   have hD8:H8 s₂.heap.objs.size=some ys:='嵣'
   have racc8:='厶' (RP.ext e68) racc
   cases b with
   | false =>
    rw['˃']at q8;exact over I8 hD8 racc8 '怐' ok8 '厠' q8
   | true =>
    rw['ɘ']at q8;refine aM (he '够' _ s8 σ7 H8 Z d7 m8 acc ys _ ('废') I8 ok8 '厠' hD8 racc8 q8) fun _ s9 hq0=>?_;obtain⟨a',d9,σ9,m9,H9,o',q9,e9,ok9,rs9,hD9,ra9,I9⟩:=hq0;exact over I9 hD9 ra9 (EI '怐' '佯' e9) ok9 rs9 q9
  ·have ei:'埲':='-'
   subst ei;rw[List.drop_length,hRH]at lp5;refine aM (T.done '亹' '咽' _ '揍' y2) '卓';show '摑';have IX:=Uy I2 f2 I6 leC '庠'
   have nz:¬ Z s₂.heap.objs.size:='废'
   have mD:=(ok5.z _ '乘').1
   have trc:∀ c (a:Addr) (vs:'3'),('塥'/\¬ aW '搲' a)->'惵'->(aP m' s₂.heap.objs.size c a=none/\¬ Z a)/\'惵':=fun c '刻'=>⟨⟨by rw[bD fun z=>q1.2 'ԁ'];exact q1.1,'彳'⟩,q2⟩
   refine fin s5 HP.objs.size s₂.heap.objs.size H' m' acc ys lp5 hDy mD '之' (zd6 ok5) ('厶' ('婣') racc) (fun c=>'厶' (fun 'ο'=>'哉' (trc c) p v q) racc) (fun c rc=>'把') ⟨_,I6.loc.choose_spec.1⟩ IX ⟨I6.free,Nat.ne_of_gt (aj I2.lt leC),Nat.le_trans I2.sz leC,'坱','Φ'⟩
   ·refine⟨fun a vs q=>'之'.t a vs q,fun '刻'=>?_,fun a q=>'之'.z a q,'埵','之'.fz,'埵','之'.ll⟩
    ·obtain⟨_,q3⟩:=e1.l '刻';have ne:=SqL.ne '佯' q3
     obtain⟨q4,q5⟩:='之'.l '刻';exact⟨by rw['ԏ'];exact q4,q5⟩
    ·by_cases ea:'弦'
     ·subst ea;rw[bC];rfl
     ·rw[bD ea];exact '之'.c a q
    ·have fq:='之'.fm a q
     have ne:'庡':=by
      show 'h';rw[mD]at fq;rw[<- fq]at q
      cases q
     rw['ԏ'];exact fq
   ·refine⟨fun a c' q=>?_,'埵'⟩
    ·by_cases ea:'弦'
     ·subst ea;rw[bC]at q
      cases q
      exact⟨_,hDy,rc⟩
     ·rw[bD ea]at q;obtain⟨o,q1,q2⟩:=ok5.g a c' q;exact⟨o,q1,q2.lift fun p v q3=>'哉' (trc c) p v q3⟩
    ·have ne:'庡':=fun z=>nz (z▸q)
     obtain⟨q1,q2⟩:=ok5.z a ('Ԇ');exact⟨by rw['ԏ'];exact q1,q2⟩
   ·obtain⟨v,q⟩:=I2.cell 'й';exact ao (aj q.lt leC)
   ·exact ao (aj (ag (I2.pin p hp).1) leC)
 exact Ve ce '戙' ('敊' st4 (loop _ rfl))
section E
section
variable {X:Cx}{tg iter elt:Expr}{ifs:'W'}{scope:Scope}{NC:'$'}{fi:DI}{g:DG}{t:DT}{f:DE}{pos:Pos}
def Oc(elt:Expr):'丬':=fun D env=>do let _ <- call '嘶' ['凡',<- '垾']
theorem Yk:CompE '佸' '姖' (Oc elt):=⟨ '嶓','9',fun it D env=>rfl⟩
def mJ(K:ad)(_:Addr)(Z:'7')(m:Mu)(H:Hp)(ps:',')(o:HO):Prop:=∃ vs,o=.lst vs/\'о'
theorem xQ{K:ad}(D:Addr):AccR K (mJ K D):=⟨fun tr ⟨vs,e,h⟩=>⟨vs,e,'憬'⟩,fun⟨vs,e,_⟩=>by subst e;exact '宲'⟩
def lE(f:DE):aQ->Mu->','->'嶑':=fun d m acc Q=>'ɔ' fun y m1=>∃ p,y=.dat p/\acc.length<sizeLine/\Q (acc++[p]) m1
theorem Er:∀ xs acc d m Q,'弧'=eS g t (kD (lE f)) xs 'ʗ' fun a _ m'=>Q a m'
 | [],_,_,_,_=>rfl
 | 'ȶ',_,_,_,_=>by simp only[bV,eS,kD,lE,Er xs]
theorem R8{D:Addr}(he:'徿')['佦']:PEm0 X D (Oc elt) (mJ X.K D) (lE f):=by
 intro '哓' acc o Q '和';obtain⟨vs,rfl,hr⟩:=ha;have h1:=he 'b' (fun v H1=>∃ p m1,RP '刜' m1 H1 p v/\Ext '唐' m1 H1/\Ok '刜' m1 H1/\'岪') I
  ⟨_,d,m,_,ok,rs,q,fun '搖'=>by
   show '捱'⟩
 rw[hx]at h1;refine ae (aM h1 '恪');obtain⟨y,H9,I9,ry,p,m9,rp9,e9,ok9,hz,q9⟩:=hq0;have hD9:='嶺'
 have racc9:=RPs.ext e9 _ _ hr
 have h2:=Aj pins s9 σ '摅' (fun v H10=>H10=upd H9 D ('慘')) I9 rfl '億' ⟨_,vs,y,rfl,rfl,hD9,by rw[racc9.length];exact hz,rfl⟩
 rw[hx]at h2;refine ae (aM h2 fun rv s10 hq0=>'α');show '掂';exact⟨_,m9,H9,'慘',q9,e9,ok9,⟨_,rfl,'嬲'⟩,I10⟩
theorem yU['太']{D:Addr}['万']['亝'](hDo:H' D='卭')(mD:'塯')(ar:RPs '˚' ps vs)(ar':∀ c,mJ K D '偗' ps '冫')
  (rc:∀ c,RC K '偗' c '冫'->'Ҿ' (aP m' D c) H'/\Ok K '偗'):RD '˚' 'ӡ' 'ϡ'/\'Ҿ' (aP m' D (.l ps)) H'/\Ok K Z '匼' H':=by
 have rc:=rc '倆' (by obtain⟨vs',e',h'⟩:=ar' '倆';cases e';exact h')
 refine⟨?_,rc⟩;show 'ʰ';exact⟨D,vs,rfl,⟨mD,fun z=>by have:=(rc.2.z D z).1;rw[bC]at this;cases this⟩,.inl (.inl hDo),ar⟩
theorem vF['刀']
  ['攄'] (h:'Ѻ' fun xs m1=>bV g t f xs [] (cK src d) m1 RL)
  (fin:∀ (s5:Shared) (C D:Addr) (H':Hp) (m':Mu) (ps:','),RL ps m'->'仍'->'Ө'->'屃'->'嘵'->'嚮'->'圸'->('塯'/\'則' (aP m' D (.l ps)) H'/\Ok X.K Z '匼' H') ->
   '唹') :
  'ȼ' (comprehension (.ListComp elt [⟨tg,iter,ifs,0⟩] scope pos) scope X.env pos' (newList []) false (eval iter X.env) use) QQ X.xe s:=by
 simp only[Er]at h;refine '捳' Yk (fun D=>xQ D) (ob:={cls:=.type "list",data:=.seq #[]}) (fun {Q s} q=>?_) rfl (fun H h a _ e=>?_) (fun _ _ _ _=>⟨[],rfl,by simp[RPs]⟩) src hc hi hg ht (fun cl C s2 H2 pins fp D=>(R8 (he cl C s2 H2 pins fp) rfl).up (xQ D)) hkind hcell hnames hfree hsrc hs I ok rs h ?_
 ·exact '忁'
 ·exact '崵'
 show '挐';exact '捍' off ⟨mD,(yU hDo mD ar ar' rc).2⟩
theorem Z5['刀']
  ['凯']
  ['偙'] :
  '唬':=.mk <| by
 show '夹';refine '姱' hkind hcell hnames hfree hsrc hs (use:=none) (QQ:=EP X pins σ Q) (RL:=fun ps m2=>R (.dat (.list ps)) m2) I ok rs h ?_;show '壨';exact '媍'
@[simp] def mF['夌'](f:DE):DE:=fun '['=>'Ѻ' fun xs m1=>bV g t f xs [] (cK src d) m1 fun ps m2=>∀ a,m2 a=none->Q (.cel a) (aP m2 a (.l ps))
theorem FZ['刀']
  ['凯']
  ['偙'] :
  '唭':=.mk <| by
 show '夹';refine '姱' hkind hcell hnames hfree hsrc hs (use:=none) (QQ:=EP X pins σ Q) (RL:=fun ps m2=>∀ a,m2 a=none->R (.cel a) (aP m2 a (.l ps))) I ok rs h ?_;show '壨';exact⟨mm,hns,fun h' hs'=>⟨ '凡',H','慚',rfl,k '!' H' (q D hcl.1) hcl.2.1 hcl.2.2 '侐'⟩⟩
theorem PY['夕']['刀']
  ['凯']
  ['佃'] ['壣'] :
  '唛':=.mk <| by
 intro 'b' E I h;show 'Ѥ';rw[exec_Assign_Name_used 'ƶ' hsw];refine ae (wpAny_standAt ('ʮ'));rw[arm_evalThenUse_ListComp];show 'е';refine aM ('姱' hkind hcell hnames hfree hsrc hs (use:=some (assign (.Name y py) X.env)) (QQ:=fun _ s'=>SP X pins E .next s') (RL:=fun ps m2=>R.nx (d.set i (some (.dat (.list ps)))) m2) I ok rs h ?_) (fun _ s' q=>af (af q));show '壨';show wpAny _ X.A (assign ('兴') X.env 'ϡ') _ _ s5
 refine wpAny_assign_Name (Ox I5 hN hi2 hx (v:='凡') rfl (fun s6 I6 ⟨a,hs6,ha⟩=>?_) hf);have ne:C≠a:=by
  rcases ha with rfl | ha
  ·exact off.l
  ·exact Ne.symm (off.c _ _ ha)
 refine⟨mm,hns.sameBut hs6 ne,fun h' hs'=>?_⟩;exact⟨_,H',off.inv I6 hs','撱' ((rs.ext e).set rd)⟩
section E
theorem Bm:Manifest.owners.lookup (String.ofList "desrever".toList.reverse)=some Manifest.sig_reversed:='ʴ'
theorem nO:Slot 'Ω' '堬' '北':='擅' (n:="__next__") (by rw[typeLookup_type,builtinLookup_eq_fast];kernel_rfl) (by decide +kernel) (by decide +kernel) (by decide +kernel) (by first | exact .inl (by decide +kernel) | exact .inr (by decide +kernel)) (by rw[isSubtype_type];kernel_rfl)
theorem Se:'妃' "reversed.__next__"=some Builtin.«reversed.__next__»:=entryFor_of_tree '˧'
theorem Pf(a:Value):argsOk '北' '戛':=by
 unfold argsOk;rw[signature?_of (id:='北') (n:="__txen__".toList) '擒']
 kernel_rfl
theorem Kx:Slot 'Ω' "__iter__" '匘':='擅' (n:="__iter__") (by rw[typeLookup_type,builtinLookup_eq_fast];kernel_rfl) (by decide +kernel) (by decide +kernel) (by decide +kernel) (by first | exact .inl (by decide +kernel) | exact .inr (by decide +kernel)) (by rw[isSubtype_type];kernel_rfl)
theorem U4(a:Value):argsOk '匘' '戛':=by
 unfold argsOk;rw[signature?_of (id:='匘') (n:="__reti__".toList) '擒']
 kernel_rfl
theorem AL:'妃' "reversed.__iter__"=some Builtin.«dict_keyiterator.__iter__»:=entryFor_alias (id':="dict_keyiterator.__iter__") '˧' (by first | rfl | show 'ѭ' | (unfold String.splitOn;simp +decide [String.splitOnAux])) 'ɵ' '˧'
theorem Ut:'攱' "__reversed__"='伊':='亶'
theorem WW:isSubtype 'Ҍ' ('Χ')='Ϙ':='助'
theorem M3:Slot 'Ω' '伀' '息':=.of (owner:='増') (n:='伀') '壹'
theorem QR:TypeCalled 'Ω' "reversed.__new__" '息':=⟨ 'c',F.create_reversed,⟨_,_,F.mro_reversed⟩,F.made_reversed,F.plain_reversed_new,F.sub_reversed_self,M3⟩
def wY(t:Addr)(i:Int):Obj:={cls:='侻',data:='帏'}
theorem Zk(t:Addr)(items:'ċ'):Meets (Builtin.«reversed.__new__» ⟨['侻','买'],[]⟩) (fun _ R s=>'介'/\'噷' /\
  R '岦' '嫉'):='倓' fun '刐'=>by
 obtain⟨ht,hz,h⟩:=hs;unfold Builtin.«reversed.__new__»;refine ae (wpAny_of_eq (newClass_reversed _) ?_)
 show 'Ԭ'
 refine ae ('揶' (ae (wpAny_of_eq (a:=()) (by first | rfl | kernel_rfl) ?_)))
 show 'Ԭ'
 refine ae (wpAny_specialOf ht.typeIs Ut ?_)
 show 'Ԭ'
 show 'е';show 'N' (isInstance (.ref t) (.type "dict")>>=_) _ _ s
 refine ae (wpAny_isInstance ht.typeIs WW ?_);show 'N' (specialOf (.ref t) (Str.ofString "__getitem__")>>=_) _ _ s
 refine '嫃';show 'N' (pure true) _ _ s
 refine 'α';show 'N' (call (Value.builtin "len") [Value.ref t]>>=_) _ _ s
 refine ae (PyProof.Rows.len_tuple ht hz ?_);refine 'ш';show 'е';show 'N' (newObj (.type "reversed") (.fields #[.ref t,rawInt ((items.size:Int)-1)])) _ _ _
 exact wpAny_newObj_type '囉'
section
variable {prog:Program}{w:World}{A:Around}{E:'K'}{s:Shared}
theorem O9{t:Addr}['咗']['妾'](hz:'噷')
  (h:'Ӊ' {s with heap:=s.heap.push (wY t ((items.size:Int)-1)),toks:=s.toks+1+1}):'_' (call (.type "reversed") [.ref t]) Q E s :=
 callType_new QR '+' (F.typeCall_reversed_1 _) (F.newCall_reversed_1 _) '岒' F.entry_reversed_new (Zk t items) ⟨ht,hz,'匃',h⟩
def IsRv['ʤ'](a t:Addr)(i:Int):Prop:=∃ o,'Υ'/\o.cls='侻'/\o.data='帏'
theorem IsRv.typeIs{a t:Addr}{i:Int}(x:IsRv s.heap a t i):s.TypeIs 'ʉ' 'Ω':=let ⟨o,ho,hc,_⟩:=x;⟨o,ho,hc⟩
theorem zp5{it t:Addr}{i:Nat}['咗']{x:Value}{Q:'仄'}(hit:'奢' (i:Int))(ht:'介')(hz:'噷')(hx:'台'='ɚ')
  (hQ:∀ h' tk,IsRv h' it t ('Ͳ'-1)->'幁'->Q ('ɚ') '仃'):'寙':=by
 show '摫';have hi:i<items.size:=(Array.getElem?_eq_some_iff.mp hx).1
 show '挏'
 show 'Ԭ'
 refine '屄';refine '害';show 'N' (if (i:Int)<0 then _ else _) _ _ s
 rw['҇']
 refine '嫃'
 show 'Ԭ'
 rw['卍']
 refine ae (wpAny_mkInt (ae (wpAny_attempt (getItem_tuple (j:=i) ht 'Ъ' ?_ hx ?_))))
 ·unfold seqIndex?;have h0:'慛':='-'
  simp[h0,hi]
 ·show 'Ԭ'
  refine '害';show 'N' (setField (.ref it) 1 (rawInt ((i:Int)-1))>>=_) _ _ _
  refine '喎'
  refine af ⟨x,rfl,af (hQ _ _ ?_ '傾')⟩;refine '娸';rw['弨'];simp
theorem JY{it t:Addr}{Q:'仄'}['亡'](hit:'奢' (-1))
  (hQ:∀ h','幮'->'幯'):'寙':=by
 show '摫';show '挏'
 show 'Ԭ'
 refine '屄';refine ae ('刎' (x:=rawInt (-1)) rfl ?_);show 'N' (if (-1:Int)<0 then _ else _) _ _ s
 rw['ӛ']
 refine '匩';show 'е';show 'N' (setField (.ref it) 1 (rawInt (-1))>>=_) _ _ _
 refine '喎'
 have ho1:=Heap.get?_update_self (Obj.mapFields ('圍' 1 ('埶'))) ho '宴'
 refine wpAny_setField ho1 '幂' 'U' ?_
 show 'е';have eb:∀ f g:Obj->Obj,Heap.ExtBut it s.heap ((s.heap.update it f).update it g):=fun f g b o' hb e=>by
  rw['崶','崶'];exact e
 show 'N' (newExc (.type "StopIteration") []>>=_) _ _ _
 show '捂'
 refine '婈'
 refine '劦'
 show '摒'
 first | rw['嗊'] | rw[hh]
 refine '幰';refine ae ('捫' ⟨_,ai _ rfl,rfl⟩ isSubtype_stop ?_);exact af (hQ _ (((eb _ _).push _).push _))
theorem My{it t:Addr}{i:Int}['ʲ'](hit:'奢' i)(h:Q 'Ϛ' s):'_' (pyIter (.ref it)) Q E s:=by
 refine wpAny_pyIter_slot hit.typeIs Kx (wpAny_call_entry Kx hit.typeIs AL ?_ (U4 _));show 'N' (ret (.ref it)) _ _ s
 exact af ⟨_,rfl,'Ω',_,hit.typeIs,nO.lookup,h⟩
section E
end
mutual section G
def Itv['佉']['ʍ']:It :=
 ⟨fun i H=>i<n/\∃ xs,'В'/\'厬',fun '前'=>H'=H/\∀ xs,'В'->xs[n-1-i]?='ɚ',fun i _=>i=n⟩
theorem Y4['壿']['ʍ']:'咟' (Itv K a n) [it] it (fun i h=>i<=n/\IsRv h it a ((n:Int)-1-(i:Int))) where
 mem:='f'
 obj:=fun '刡'=>by
  show '刢'
  subst e;obtain⟨_,o,e,c,d⟩:=st;exact '喀'
 keep:=fun '哂'=>⟨st.1,let ⟨o,e,r⟩:=st.2;⟨o,'忺',r⟩⟩
 item:=by
  show '伴';obtain⟨hi,xs,hq,hn⟩:=hg;show '呧';show '偃'
  have hx:xs[n-1-i]?=some (xs[n-1-i]' '*'):='丛'
  show '夃'
  have e1:'恰'='恱':='-'
  have st2:=st.2
  rw[e1]at st2;have hn:=hZ
  refine zp5 st2 p '҈' '姊' fun h' tk st' sb=>?_
  have I1:'尩':=I.turned '岾' '咓'
  show '夷';have e2:'恱'-1='ˆ'-1-((i+1:Nat):Int):='-'
  exact⟨u,rfl,qO (s:='仃') e c d '+' ⟨_,H,I1,ru,'孭',⟨hi,by rw[<- e2];exact st'⟩,'勮'⟩⟩
 done:=by
  show '伴';have hg':i=n:=hg
  subst hg';show '倠'
  have e1:'Ͳ'-1-'Ͳ'=-1:='-'
  have st2:=st.2
  rw[e1]at st2;exact JY '乎' st2 '剪'
 self:=fun '刹'=>My st.2 h
theorem ze0(l:Addr)(items:'ċ')(x:Value)(e:'扞')(j:Nat)(hj:j<items.size)(hit:e items[j]=true)(hno:∀ m (hm:m<items.size),m<j->e items[m]=false) :
  Meets (Builtin.«tuple.index» ⟨['乲',x],[]⟩) (fun A R s=>'值' l items/\(∀ y,y∈items->SeqAt.EqAt A.in1 s y x (e y))/\R (.ok (.ret (.int j s.toks))) '两') :=
 '倓' fun 'в' A R s h=>by
  obtain⟨ht,he,h⟩:=h;unfold Builtin.«tuple.index»;refine ae (wpAny_of_eq (a:=(Value.ref l,[x])) 'ʚ')
  show 'Ԭ'
  refine '侏'
  show 'Ԭ'
  refine ae (af ('ш'));rw[Nat.min_self,Std.Legacy.Range.forIn_eq_forIn_range'];refine ae ('撓' (fun rest b s'=>s'=s/\∃ k,k<=j/\rest=List.range' k (items.size-k)) _ ?_ ?_ _ _ ?_)
  ·rintro i rest b s' ⟨rfl,k,hk,hr⟩;have hlt:k<items.size:='-'
   obtain⟨n,hn⟩:∃ n,'垿'=n+1:=⟨ '垿'-1,'-'⟩
   rw[hn,List.range'_succ]at hr;obtain⟨rfl,rfl⟩:=List.cons.inj hr;have hx:'台'=some items[i]:=Array.getElem?_eq_getElem hlt
   simp only[hx];refine ae (he _ (Array.getElem_mem hlt) 'в' _ _ ?_)
   by_cases hij:i=j
   ·subst hij;rw[hit];exact ae (ae (wpAny_mkInt (af (af '囉'))))
   ·rw[hno i hlt '*']
    exact af ⟨rfl,i+1,'-',by congr 1;omega⟩
  ·rintro b s' ⟨rfl,k,hk,hr⟩;have:='Ԙ' hr
   rw[List.length_range']at this;show 'ϱ'
  ·exact⟨rfl,0,'ɸ',by simp[Std.Legacy.Range.size]⟩
theorem zL:∀ {zs:'$'} {us:';'},'噞'->∀ i (h:i<us.length) (h2:i<zs.length),∃ t,us[i]=.str zs[i] t
 | [],_,.nil,i,h,_=>'嶻'
 | 'Γ',_,'ъ',0,_,_=>let ⟨k,e⟩:=r;⟨k,e⟩
 | 'Γ',_,'ъ',i+1,h,h2=>zL t i (Nat.lt_of_succ_lt_succ h) (Nat.lt_of_succ_lt_succ h2)
theorem vE{y:Str}:∀ (zs:'$') (m:Nat) (h:'厷'),m<'兿'->zs[m]≠y
 | [],_,h,_=>'嶻'
 | 'Γ',0,_,h=>by
  intro e;rw[List.getElem_cons_zero]at e;rw[e,List.idxOf_cons_self]at h;exact absurd h 'Τ'
 | 'Γ',m+1,hl,h=>by
  rw[List.getElem_cons_succ];refine vE zs m (Nat.lt_of_succ_lt_succ hl) ?_;rw[List.idxOf_cons]at h
  cases e:z==y with
  | true=>simp[e]at h
  | false=>simp[e]at h;omega
section
variable {X:Cx}{a e o:Expr}{es:'W'}{f g:DE}{ga:DA}{pos p p1 p2:Pos}
def G9(K:ad):'Ҁ':=fun x 'Κ'=>∃ (a:Addr) (y:Str) (zs:'$'),'ά'/\xs=['ԃ']/\'嘷'/\'峄'
theorem Jh:MtR X '垈' (G9 X.K):=by
 show '捅'
 cases rx
 show '捇';show '呧';show '偃'
 rw[av]at hl;have hj:'彴':='崷'
 have hit:'媃':=fun m hm hm2=>by
  obtain⟨t,e⟩:='崸'
  have e':'巛':='午'
  rw[e'];rfl
 have hfl:'嘇':=by
  show '凲'
 refine call_meets PySem.F.slot_tuple_index p.typeIs PySem.F.entry_tuple_index (PySem.F.args_tuple_index_2 _ _) (ze0 'ҵ' '揘' 'Z') ⟨p,?_,?_⟩
 show '攣'
 ·show '搈'
  show '捙'
 ·exact '嫔'
 ·exact '岫'
theorem gD['ɣ']:∀ {zs:'$'} {vs:'3'},'ʣ' (zs.map PyData.str) vs->vs='埀'
 | [],vs,h=>'噹'
 | 'Γ',vs,h=>by
  show '壏';rw['Ҭ'];rfl
theorem rR['ɣ']:∀ (zs:'$'),'ʣ' (zs.map PyData.str) (zs.map V.str)
 | []=>'俘'
 | 'Γ'=>by
  simp only[au,RPs];exact⟨_,_,rfl,'Ѝ',rR zs⟩
def KT['佉']['佧']:Prop:=∃ (o:Obj) (its:'ċ') (n:Nat),'僨'/\'侣'/\'ґ'/\'匴'/\'匡'/\Vals 'Ӫ' its.toList
theorem KT.sq{K:ad}['咪']{H:Hp}(h:'塰'):'嘷':=by
 obtain⟨o,its,n,h1,h2,h3,h4,h5,h6⟩:=h;exact '尰'
theorem SE['亍']{zs:'$'}['似'](hk:'抌')['η']:'剅' (LE X.K (aC (.tuple (zs.map .str)))) :=
 PE.imp '嗙' fun 'ʙ'=>by
  show 'Δ';refine '帑';show 'ʰ';exact⟨c,_,rfl,hk.sq,rR zs⟩
@[simp] def yO['佧'](g:DE):DE:=fun '['=>g d m fun y m1=>∃ z:Str,'儅'/\'凢'/\Q '嵤' m1
theorem S6['亍']{zs:'$'}{apos cpos:Pos}['似'](hk:'抌')(he:'侱')['η']
  (hbase:autoParam ('撙' "index" X.env (eval (.Name x p) X.env)='勥') zau0._auto_1)
  ['呙']:PE X ('ɖ' ('ϙ' '乒' '凐' apos) '偆') ('S' (yO zs g)) :=
 PE.imp (tL (T:='ʓ') (id:='垈') (name:='凐') PySem.F.plainAttrs_tuple PySem.F.slot_tuple_index PySem.F.type_tuple_index Jh '嗙' '咅') fun 'ʙ'=>by
  show 'Δ';obtain⟨o,its,n,h1,h2,h3,_⟩:=id hk;refine⟨.inr (.inl ⟨rfl,o,h1,h2,h3⟩),?_⟩;refine⟨Z,d,m,_,ok,rs,h,fun '剀' '惶' 'Ѳ'=>?_⟩;subst ey
  cases rd.str
  exact⟨c,z,zs,rfl,rfl,hk.sq,hz,'巗'⟩
@[simp] def gR:D2
 | '俐','为',m,Q=>'嫥'
 | '俐','ҋ',m,Q=>'嫥'
 | '危','为',m,Q=>'嫕'
 | '危','ҋ',m,Q=>'嫕'
 | '厃','为',m,Q=>'嫦'
 | '厃','ҋ',m,Q=>'嫦'
 | _,_,_,_=>False
@[simp] def tN:D2
 | '俐','为',m,Q=>'唺'
 | '俐','ҋ',m,Q=>'唺'
 | '危','为',m,Q=>'嫊'
 | '危','ҋ',m,Q=>'嫊'
 | '厃','为',m,Q=>'嫛'
 | '厃','ҋ',m,Q=>'嫛'
 | _,_,_,_=>False
theorem mI(x:Str):∀ zs:'$',jO '伔' 'Ӫ'='便'
 | []=>rfl
 | 'Γ'=>by
  have ih:=mI x zs
  show '壴';show '噃'='囌'
  show '壋'
theorem oK['佧']:'嘇':=by
 show '凲'
theorem oM(x:Bool):∀ zs:'э',jO (.bl x) ('執')='便'
 | []=>rfl
 | 'Γ'=>by
  have ih:=oM x zs
  show '壴';show '噃'='囌'
  show '壋'
theorem rV(zs:'э'):('執').all fT=true:=by
 show '凲'
theorem mT['ɣ']:∀ {zs:'э'} {vs:'3'},'ʣ' (zs.map PyData.bool) vs->vs='執'
 | [],vs,h=>'噹'
 | 'Γ',vs,h=>by
  show '壏';rw[mT h2];rfl
theorem oA(x:Int):∀ zs:'Q',jO (.int x) ('埁')='便'
 | []=>rfl
 | 'Γ'=>by
  have ih:=oA x zs
  show '壴';show '噃'='囌'
  show '壋'
theorem qE['傊']:('埁').all fT=true:=by
 show '凲'
theorem oC['ɣ']:∀ {zs:'Q'} {vs:'3'},'ʣ' (zs.map PyData.int) vs->vs='埁'
 | [],vs,h=>'噹'
 | 'Γ',vs,h=>by
  show '壏';rw[oC h2];rfl
theorem Pd:'哰' gR:=by
 show 'ʀ';unfold gR at h
 show 'ɉ'
 ·show 'Щ'
  show 'ԯ'
  show '倞'
  cases 'Ҭ'
  refine '佛' ⟨a,_,rfl,.inl h1,rfl,oK zs,?_⟩;show '妄'
 ·show 'Щ'
  show 'ԯ'
  show '借'
  cases 'Ҭ'
  refine '佛' ⟨a,_,rfl,.inr h1,rfl,oK zs,?_⟩;show '妄'
 ·show 'Щ'
  cases r1.bl
  show '倞'
  cases mT h2
  refine '佛' ⟨a,_,rfl,.inl h1,rfl,rV zs,?_⟩;rw['˃',oM];exact '˳'
 ·show 'Щ'
  cases r1.bl
  show '借'
  cases mT h2
  refine '佛' ⟨a,_,rfl,.inr h1,rfl,rV zs,?_⟩;rw['˃',oM];exact '˳'
 ·show 'Щ'
  cases r1.int
  show '倞'
  cases oC h2
  refine '佛' ⟨a,_,rfl,.inl h1,rfl,qE zs,?_⟩;rw['˃',oA];exact '˳'
 ·show 'Щ'
  cases r1.int
  show '借'
  cases oC h2
  refine '佛' ⟨a,_,rfl,.inr h1,rfl,qE zs,?_⟩;rw['˃',oA];exact '˳'
 show 'ɞ'
theorem Qk:'刼' tN:=by
 show 'ʀ';unfold tN at h
 show 'ɉ'
 ·show 'Щ'
  show 'ԯ'
  show '倞'
  cases 'Ҭ'
  refine '偲' ⟨a,_,rfl,.inl h1,rfl,oK zs,?_⟩;rw['ɘ',mI];exact '˳'
 ·show 'Щ'
  show 'ԯ'
  show '借'
  cases 'Ҭ'
  refine '偲' ⟨a,_,rfl,.inr h1,rfl,oK zs,?_⟩;rw['ɘ',mI];exact '˳'
 ·show 'Щ'
  cases r1.bl
  show '倞'
  cases mT h2
  refine '偲' ⟨a,_,rfl,.inl h1,rfl,rV zs,?_⟩;rw['ɘ',oM];exact '˳'
 ·show 'Щ'
  cases r1.bl
  show '借'
  cases mT h2
  refine '偲' ⟨a,_,rfl,.inr h1,rfl,rV zs,?_⟩;rw['ɘ',oM];exact '˳'
 ·show 'Щ'
  cases r1.int
  show '倞'
  cases oC h2
  refine '偲' ⟨a,_,rfl,.inl h1,rfl,qE zs,?_⟩;rw['ɘ',oA];exact '˳'
 ·show 'Щ'
  cases r1.int
  show '借'
  cases oC h2
  refine '偲' ⟨a,_,rfl,.inr h1,rfl,qE zs,?_⟩;rw['ɘ',oA];exact '˳'
 show 'ɞ'
@[simp] def fA:DC
 | ['Ҋ'],m,Q=>'噠'
 | ['仟'],m,Q=>'噠'
 | ['ʡ'],m,Q=>∃ xs,'協'/\'噠'
 | _,_,_=>False
theorem k8:'Ѵ' (.type "tuple") fA:=by
 show '亂';unfold fA at h
 show 'ɉ'
 ·show 'Ԕ';have r0:=r1
  simp only[RD,RP]at r1;obtain⟨a,vs,rfl,h1,h2⟩:=r1;exact zM 'Ϯ' ⟨a,vs,rfl,.inr ⟨h1,'刟' r0⟩⟩
 ·show '壶';refine zM 'Ϯ' ⟨a,vs,rfl,.inl ⟨h1,'儺'⟩⟩;have sm:'帒':=cF hl
  show '妜';exact '孖'
 ·show '壍';refine zM 'Ϯ' ⟨_,vs,rfl,.inl ⟨ '卯','儺'⟩⟩;have sm:'帒':=cF hl
  show '妝';exact '孖'
 show 'ɞ'
theorem zh3:bootBuiltins 'Ω'=some ('侻'):='c'
@[simp] def Ar(f:DE):DI:=fun '['=>'ɔ' fun x m1=>∃ ps,x=.dat (.tuple ps)/\Q (ps.reverse.map .dat) m1
theorem WU{tg:Expr}(hg:Gl X 'Ω')(hm:X.mg 'Ω'=none)(ha:'ˤ')(hs:'唾'):'丆' (.Call (.Name "reversed" p) [e] [] pos) (LI X.K (Ar f)):=.mk <| by
 show '咁';show '呞';have hA:=iB (X:=X) ha iR '圷' '唂' (fun 'ξ'=>∃ a xs ps m1,vs='Қ'/\'惲'/\'弬'/\ZZ '弫' m1/\'傟') I ⟨Z,d,m,_,ok,rs,h,fun 'Ԥ' ⟨ps,ex,q⟩ 'Ѳ'=>by
  subst ex;show '壡';exact⟨a,vs,ps,m1,rfl,h1,h2,q,e1,ok1⟩⟩
 refine Call_ ('住' zh3 (PyProof.Rows.callWith_type1 (aM hA fun us s1 ⟨vs,H1,I1,r1,q1⟩=>?_) hs rfl));obtain⟨a,xs,ps,m1,e,hq,rp,q,e1,ok1⟩:=q1;subst e;obtain⟨u,rfl,ru⟩:=gI r1
 cases ru
 obtain⟨its,rv,pt,hz⟩:='抁';show '偃'
 have hn:=hZ
 refine O9 pt '҈' ?_
 have hit:IsRv (s1.heap.push (wY a ('噙'-1))) s1.heap.objs.size a ('圮'-1-'卿'):=by
  refine⟨_,'˾',rfl,?_⟩;show '坴'='坴'
  show 'Ӈ';simp
 refine My (s:={s1 with heap:=_,toks:=_}) hit ?_;refine⟨s1.heap.objs.size,'嚩',_,_,H1,rfl,I1.kept '仚',Y4 a _ xs.length,⟨ 'ɸ',hit⟩,'ώ','庥'⟩
 ·have e:'嚪':='҆'
  show '咴'
 ·intro 'Μ' e2;have q1:=e2.t a xs hq
  have hlp:=rp.length
  refine '庚'
  ·obtain⟨pp,hp,rfl⟩:=oF hx;have hlt:'抍':=by
    have:=(List.getElem?_eq_some_iff.mp hp).1
    show '˰'
   rw[List.getElem?_reverse hlt]at hp;obtain⟨v,hv,rv⟩:=rp.get hp;refine⟨⟨ '-',xs,q1,rfl⟩,'嗒'⟩
   have:=y.2 xs q1
   rw[hlp]at this;rw[hv]at this
   cases this
   exact rv
  ·show(ps.reverse.map D.dat).length=xs.length
   rw[av,List.length_reverse];exact hlp.symm
section E
def chkB['刣'](env:Env):Bool:=scope.names.all fun y=>(decide ('厴'))&&(!decide (y.2=.local)||decide ('喰'))&&(!decide (y.2='乺')||decide ('卲'='ц')||decide ('卲'='ӵ'))
def chkS(N:'$')['刣'](env:Env):'$'->'ɷ'->Bool
 | [],[]=>true
 | 'ȶ',o::os=>(match o with | none=>true | 'Т'=>decide (N[j]?='ɚ')&&decide ('侁')&&(decide ('峡'='ц')||decide ('峡'='ӵ')))&&chkS N '哝' xs os
 | _,_=>false
theorem chkB.ok['判']['佥'](h:chkB '哝'=true):('ѽ')/\('且')/\∀ x,'侁'->'寄':=by
 unfold chkB at h;rw[List.all_eq_true]at h;have q:∀ y∈scope.names,'厴'/\('寨')/\(y.2='乺'->'卲'='ц'\/'卲'='ӵ'):=fun y hy=>by
  have:=h y hy
  simp only[Bool.and_eq_true,Bool.or_eq_true,Bool.not_eq_true',decide_eq_true_eq,decide_eq_false_iff_not]at this;obtain⟨⟨a,b⟩,c⟩:=this;refine⟨a,fun e=>b.resolve_left (fun n=>n e),fun e=>?_⟩;rcases c with (c | c) | c
  ·exact absurd e c
  ·exact .inl c
  ·exact .inr c
 exact⟨fun y hy=>(q y hy).1,fun y hy=>(q y hy).2.1,fun x hx=>(q _ hx).2.2 rfl⟩
theorem chkS.ok{X:Cx}['判']:∀ {NC:'$'} {src:'ɷ'},'崏'->'丳'
 | [],[],_=>⟨rfl,fun i x j h=>'们'⟩
 | [],_::_,h=>'恲'
 | _::_,[],h=>'恲'
 | y::ys,o::os,h=>by
  simp only[chkS,Bool.and_eq_true]at h;show '咖';obtain⟨q1,q2⟩:=chkS.ok h2;refine⟨by rw[List.length_cons,List.length_cons,q1],fun i x j e1 e2=>?_⟩
  cases i with
  | zero =>
   simp at e1 e2;subst e1 e2;simp only[Bool.and_eq_true,Bool.or_eq_true,decide_eq_true_eq]at h1;exact⟨h1.1.1,h1.1.2,h1.2⟩
  | succ i=>exact q2 i x j '姏'
section
variable {X:Cx}{tg iter elt:Expr}{ifs:'W'}{scope:Scope}{fi:DI}{g:DG}{t:DT}{f:DE}{pos:Pos}
theorem PL['揪']:'唬' :=
 Z5 '揺'
theorem zn7['揪']:'唭' :=
 FZ '揺'
theorem Uk['夕']['妽']['挺']
  ['凷']
  ['壣']:'唛' :=
 PY (NC:=NC) i '函' he '壠' hN hi2 hx hf hsw hs
section E
section
variable {prog:Program}{w:World}{A:Around}{R:'今'}{s:Shared}
theorem Ym['挀'] :
  compTurn 'Ξ' 0 '倶'=(do
   '卑'
   match <- '俶' with
   | none=>'囋'
   | 'ɛ' =>
    '勝'
    '卞'
    let mut ok:=true
    for c in ifs do
     if ok then ok <- '勑'
    if ok then
     let x <- '慟'
     '匾'
     let x <- '嶕'
     let _ <- runOwn ('兾' 'Ξ' 1 '巜' acc env) env
    again ('乛' 'Ξ' 0 '倶')):=by rfl
theorem zo3['挀'] :
  '婰'=(do
   '匾'
   match <- '俶' with
   | none=>'囋'
   | 'ɛ' =>
    '幱'
    '悷'
    let mut ok:=true
    for c in ifs2 do
     if ok then ok <- '勑'
    if ok then
     (do let _ <- call '嘶' [acc,<- '垾'])
    again '婧'):=by rfl
theorem zc6['持']
  (h0:'娲')
  (h:'_' (pyIter it) (fun it' s'=>codeAny (model prog w) A (.compLoop (.ListComp elt [⟨tg,iter,ifs,0⟩,⟨tg2,iter2,ifs2,0⟩] scope pos) 1 it' acc env) R s')
   (notedBy (model prog w) A env fun x s'=>R (.error x) s') s) :
  'Ѩ' (.compStart (.ListComp elt [⟨tg,iter,ifs,0⟩,⟨tg2,iter2,ifs2,0⟩] scope pos) 1 it acc env) R s:=by
 refine codeAny_of_tree ?_;show 'N' ((compStart (.ListComp elt [⟨tg,iter,ifs,0⟩,⟨tg2,iter2,ifs2,0⟩] scope pos) 1 it acc env).onRaise (fun x=>do noteFrame x env;standAt theWindowsPlace)) _ _ s
 refine wpAny_notedAt ?_;unfold compStart;show 'N' (ask>>=_) _ _ s
 refine '岩'
 split
 ·first
   | exact ae (af ('弭'))
   | exact '弭'
 ·first
   | exact ae (wpAny_rule ('婵'))
   | (refine '匩';show 'N' (standAt iter2.pos>>=_) _ _ s;exact '婵')
theorem EU['持']{E:'K'}(hE:∀ x s,E x s->False)(I:'囲')
  (turn:∀ n s,I n s->'_' (pyNext it) (fun r s₁=>match r with
   | none=>R (.ok .next) s₁
   | some v=>wpAny (model prog w) A (letOwnedTupleGo tg2 it v) (fun _ s₀=>wpAny (model prog w) A (assign tg2 env v) (fun _ s₂ =>
     wpAny (model prog w) A (forIn ifs2 true fun c r=>if r=true then do let ok <- isTrue c env (eval c env);pure (ForInStep.yield ok) else pure (ForInStep.yield r)) (fun ok s₃ =>
      if ok=true then wpAny (model prog w) A (eval elt env) (fun x s₄ =>
       wpAny (model prog w) A (call (.builtin "list.append") [acc,x]) (fun _ s₅=>∃ m,m<n/\I m s₅) E s₄) E s₃
      else ∃ m,m<n/\I m s₃) E s₂) E s₀) E s₁) E s)
  ['ʍ'] (h:I n s) :
  '娲':=by
 have ff:∀ {E':'K'} (x:Value) (s:Shared),E x s->E' x s:=fun x s z=>(hE x s z).elim
 refine '劙';show wpAny _ A (('婰').onRaise (fun x=>do '惸';theTreesLotGoes x)) 'ȸ'
 refine wpAny_noted ?_;rw[zo3];refine '媬'
 cases r with
 | none=>exact af h₁
 | some v =>
  refine '寵';refine '婷'
  cases ok with
  | true =>
   show '撎';refine ae (ae ('攰' (fun x s₄ h₄=>ae (wpAny_mono h₄ (fun _ s₅ h₅=>af (af ⟨rfl,h₅⟩)) ff)) ff))
  | false =>
   show '振'
section E
abbrev lM:=D->'孰'
def cP(st:lM):'ɿ'->'孰'
 | [],acc,d,m,Q=>Q 'ʗ'
 | 'ȶ',acc,d,m,Q=>st x 'ʗ' fun 'Ь'=>cP st xs 'Ь' Q
def stepI['哞'](f:DE):lM:=fun x '亯'=>'亦' fun d1 m1=>t d1 m1 fun b m2=>if b=true then f d1 m2 fun y m3=>∃ p,y=.dat p/\acc.length<sizeLine/\Q (acc++[p]) d1 m3 else Q acc d1 m2
def jP['哞'](fi2:DI)(st:lM):lM:=fun x '亯'=>'亦' fun d1 m1=>t d1 m1 fun b m2=>if b=true then fi2 d1 m2 fun ys m3=>cP st ys acc d1 m3 Q else Q acc d1 m2
@[simp] def mQ['夌'](fi2:DI)(g2:DG)(t2:DT)(f:DE):DE:=fun '['=>'Ѻ' fun xs m1=>cP (jP g t fi2 (stepI g2 t2 f)) xs [] (cK src d) m1 fun ps _ m2=>Q (.dat (.list ps)) m2
section
variable {Y:Cx}{tg iter tg2 iter2 elt:Expr}{ifs ifs2:'W'}{scope:Scope}{fi2:DI}{g2:DG}{t2:DT}{f:DE}{pos:Pos}
theorem Zy(hc:Y.calm=true)(hx:∀ x s,Y.xe x s->False)(hi:PI Y tg2 iter2 (LI Y.K fi2))(hg:PG Y tg2 (LG Y.K g2))(ht:PF Y ifs2 (LT Y.K t2))(he:PE Y elt (LE Y.K f))
  ['呔'] {Z:'7'} {D:Addr} {acc:','} {ys:'3'} {d:aQ} {m:Mu} {Q:'Ѿ'}
  (I:'恣') (hz:¬ Z D) (hD:'匨') (racc:RPs '唓' acc ys) (ok:Ok '唓') (rs:RS '唓' d σ) (h:fi2 d m fun 'ʥ'=>'崐') :
  '妈' (eval iter2 Y.env) (fun x s4=>wpAny (model Y.prog Y.w) Y.A (pyIter x) (fun it2 s5=>codeAny (model Y.prog Y.w) Y.A (.compStart (.ListComp elt [⟨tg,iter,ifs,0⟩,⟨tg2,iter2,ifs2,0⟩] scope pos) 1 it2 (.ref D) Y.env)
   (fun r s6=>r=.ok .next/\∃ σ' H' ys' acc' d' m',Inv Y pins σ' H' s6/\H' D=some (.lst ys')/\RPs Y.K (aW Z D) m' H' acc' ys'/\ExtW Y.K Z D m H m' H'/\Ok Y.K (aW Z D) m' H'/\RS Y.K (aW Z D) m' H' d' σ'/\Q acc' d' m') s5) Y.xe s4) Y.xe s:=by
 refine aM (hi 'b' (fun J H1=>∃ xs m1,Ext '唓' m1 H1/\Ok 'ҷ' m1 H1/\nH 'ҷ' m1 H1 xs J/\'崐') I
  ⟨aW Z D,d,m,_,ok,rs,h,'宗'⟩) '寘'
 show '挎';have hD2:H2 D='儘':=(e1.z _ '乘').trans hD
 have stat:∀ {H':Hp},('侞')->∀ b∈fp,dL Y pins H' b:='屶'
 have loop:'攅' (.compLoop (.ListComp elt [⟨tg,iter,ifs,0⟩,⟨tg2,iter2,ifs2,0⟩] scope pos) 1 (.ref it) (.ref D) Y.env)
   (fun r s6=>r=.ok .next/\∃ σ' H' ys' acc' d' m',Inv Y pins σ' H' s6/\H' D=some (.lst ys')/\RPs Y.K (aW Z D) m' H' acc' ys'/\ExtW Y.K Z D m H m' H'/\Ok Y.K (aW Z D) m' H'/\RS Y.K (aW Z D) m' H' d' σ'/\Q acc' d' m') s₂:=by
  refine EU hx (WI '挵') ?_ xs.length ⟨0,ys,acc,d,m1,σ,H2,'f','ɸ',I2,st2,'弐',hD2,RPs.ext e1 '唕',ExtW.refl,ok1,'ɦ','恨'⟩
  show '挊';obtain⟨y1,y2⟩:='憳'
  by_cases hlt:'厮'
  ·show '揆';refine aM (T.item Y '咽' i '掸' go) '卓';show '拸'
   have e56:Ext '哠' m' H6:='悳'
   have rv:=yy'.rd (fun d v h=>eX.rd h) ok5
   have hDy:='悴'
   have racc:=RPs.ext e56 '唕'
   have eX:=eX.trans e56.w
   have rs5:='抈'
   have ok5:='恩'
   have I6':=I6.pinned (stat fr6) '惴'
   have over:∀ {s7:Shared} {σ7:L2.St} {H7:Hp} {ys7:'3'} {acc7:','} {d7:aQ} {m7:Mu},Inv Y (pins++'憴') '京' s7->H7 D=some (.lst ys7)->RPs '响' acc7 ys7 ->
     '妹' m1 H2 m7 H7->Ok '响'->RS '响' d7 σ7->('列' acc7 d7 m7 Q) ->
     ∃ n,n<'埰'/\WI '挵' n s7:=by
    show '挪'
    show '搇'
   refine aM (hg _ s6 σ' _ x u (MidG 'ҷ' m' H6 fun d7 m7=>t2 d7 m7 fun b m2=>if 'ΰ' then f d7 m2 '婒' else '列' acc d7 m2 Q) I6' r6
    '婩') '悵'
   show '据';refine aM (ht _ s7 '京' (fun b=>MidT '响' fun m8=>if 'ΰ' then f d7 m8 '婒' else '列' acc d7 m8 Q) I7
    '嫤') '悶'
   show '捔'
   have hD8:H8 D='儘':='嵣'
   cases b with
   | false =>
    rw['˃']at q8;exact over I8 hD8 (RPs.ext e68 '唕') (eX.trans e68.w) ok8 '厠' q8
   | true =>
    rw['ɘ']at q8;refine aM (he _ s8 σ7 H8 (fun v H9=>∃ p m9,RP 'ҷ' m9 H9 p v/\Ext 'ҷ' m8 H8 m9 H9/\Ok 'ҷ' m9 H9/\'丫'/\'列' (acc++[p]) d7 m9 Q) I8
     ⟨_,d7,m8,_,ok8,rs7.ext e8,q8,fun '搖'=>by
      show '捱'⟩) '恪'
    obtain⟨y,H9,I9,ry,p,m9,rp9,e9,ok9,hz9,q9⟩:=hq0;have e69:=e68.trans e9
    have hD9:H9 D='儘':=(e69.z _ '乘').trans hDy
    have racc9:=RPs.ext e69 '唕'
    have rs9:='厠'.ext e9
    refine aM (Aj _ s9 σ7 '摅' (fun v H10=>H10=upd H9 D (.lst (ys++[y]))) I9 rfl '億' ⟨_,ys,y,rfl,rfl,hD9,by rw[racc9.length];exact hz9,rfl⟩) fun rv s10 hq0=>?_
    show '掂';refine over I10 cE ?_ ((eX.trans e69.w).trans (ExtW.put hz hD9 '宲')) (zo7 ok9 hD9) '希' q9
    ·exact RPs.tr (Ab hD9) wA _ _ ('嬲')
    ·obtain⟨v,a1,a2⟩:='战';exact⟨v,a1,Zn hD9 a2⟩
  ·have e:'埲':='-'
   subst e;rw[List.drop_length]at lp5;refine aM (T.done Y '咽' _ '掸' y2) '卓';show '摑';exact⟨rfl,σ',H',ys,acc,d',m',I6,hDy,racc,(e1.w).trans eX,ok5,rs5,lp5⟩
 exact zc6 loop ('敊' st2 loop)
section E
section
variable {X:Cx}{tg iter tg2 iter2 elt:Expr}{ifs ifs2:'W'}{scope:Scope}{NC:'$'}{fi fi2:DI}{g g2:DG}{t t2:DT}{f:DE}{pos:Pos}
theorem Dx{st:lM}:∀ xs acc d m Q,cP (jP g t fi2 st) xs '亯'=eS g t (fun d m acc Q=>fi2 d m fun ys m3=>cP st ys acc d m3 Q) xs '亯'
 | [],_,_,_,_=>rfl
 | 'ȶ',_,_,_,_=>by simp only[cP,jP,eS,Dx xs]
def wS(e iter2:Expr):'丬':=fun D env=>do
 let x <- '慟'
 '匾'
 let x <- '嶕'
 let _ <- runOwn ('兾' e 1 '巜' 'ϡ' env) env
end
mutual section G
theorem FJ:CompE 'Ξ' '姖' '媔':=⟨ '嶓','9',fun it D env=>by
 rw[Ym];unfold wS;refine congrArg ('卑'>>=·) (funext fun _=>congrArg ('俶'>>=·) (funext fun r=>?_))
 cases r with
 | none=>rfl
 | some v =>
  refine congrArg ('勝'>>=·) (funext fun _=>congrArg ('卞'>>=·) (funext fun _=>congrArg (_>>=·) (funext fun ok=>?_)))
  cases ok with
  | true=>simp only[if_true,bind_assoc,pure_bind]
  | false=>rfl⟩
theorem Xr{D:Addr}['佤']['佦'](hi:PI X tg2 iter2 '戝')(hg:PG X tg2 '抏')(ht:PF X ifs2 '抐')(he:'徿')(hs:∀ x,'夙' X.env x=pure x) :
  wE X D '媔' (mJ X.K D) (fun d m acc Q=>fi2 d m fun ys m3=>cP 'ӥ' ys acc d m3 Q):=by
 intro '哓' acc o Q nz '和';obtain⟨vs,rfl,hr⟩:=ha;have ic:=Zy (tg:=tg) (iter:=iter) (ifs:=ifs) (scope:=scope) (pos:=pos) hc (fun x s z=>by rw[hx]at z;exact z) hi hg ht he I nz hD hr ok rs q
 rw[hx]at ic;refine ae (aM ic fun x s4 h4=>?_);refine ae (wpAny_standAt (ae (wpAny_of_eq (hs x) ?_)));refine ae (wpAny_holding (aM h4 fun it2 s5 h5=>?_));refine ae (wpAny_runOwn (codeAny_mono h5 ?_));rintro r s6 ⟨hr,σ',H',ys',acc',d',m',I',hD',ra',e',ok',rs',q'⟩;subst hr;exact af ⟨acc',d',σ',m',H',.lst ys',q',e',ok',rs',hD',⟨ys',rfl,ra'⟩,I'⟩
theorem Xz['擓']
  ['攄'] (h:'Ѻ' fun xs m1=>cP (jP g t fi2 (stepI g2 t2 f)) xs [] (cK src d) m1 (fun ps _ m2=>RL ps m2))
  (fin:∀ (s5:Shared) (C D:Addr) (H':Hp) (m':Mu) (ps:','),RL ps m'->'仍'->'Ө'->'屃'->'嘵'->'嚮'->'圸' ->
   '唹') :
  'ȼ' (comprehension (.ListComp elt [⟨tg,iter,ifs,0⟩,⟨tg2,iter2,ifs2,0⟩] scope pos) scope X.env pos' (newList []) false (eval iter X.env) use) QQ X.xe s:=by
 simp only[Dx]at h;refine '捳' FJ (fun D=>xQ D) (ob:={cls:=.type "list",data:=.seq #[]}) (fun {Q s} q=>?_) rfl (fun H h a _ e=>?_) (fun _ _ _ _=>⟨[],rfl,by simp[RPs]⟩) src hc hi hg ht (fun cl C s2 H2 pins fp D=>Xr hc rfl (hi2 cl C s2 H2 pins fp) (hg2 cl C s2 H2 pins fp) (ht2 cl C s2 H2 pins fp) (he cl C s2 H2 pins fp) (hs2 cl C)) hkind hcell hnames hfree hsrc hs I ok rs h ?_
 ·exact '忁'
 ·exact '崵'
 show '挐';exact '捍' off
theorem zt6['擓']
  ['凯']
  ['偙'] :
  '唜':=.mk <| by
 show '夹';refine Xz '搓' '挫';intro '呏';exact '媍'
theorem Y3['妽']['壕']
  ['擔']:'唜' :=
 zt6 (NC:=NC) '搓' '壠' hs
section E
section
variable {prog:Program}{w:World}{A:Around}{E:'K'}{s:Shared}
theorem VG['攆'](hit:'嘈')(ht:'弮')(hx:'慠')
  (hQ:∀ h',h'.IsTupleIter it tq 'γ'->'寋'):'剷':=by
 show '拷';show 'N' (field (.ref it) 0>>=_) _ _ _;refine '尲'
 show 'N' (if (Value.ref tq==Value.none)=true then _ else _) _ _ s
 rw['嬿']
 show 'N' (field (.ref it) 1>>=_) _ _ _;refine '尚'
 show 'N' (seqItems? (.ref tq)>>=_) _ _ s
 show '掎';refine ae ('揽' (af ⟨_,rfl,af (hQ _ ?_ (Heap.SameBut.update ..))⟩))
 refine '娸';rw['弨']<;>simp[rawInt]
theorem AZ['声']['ʲ']['亡'](hit:'嘈')(ht:'弮')(hx:'戟')
  (hE:'娺'):'剷':=by
 show '拷';show 'N' (field (.ref it) 0>>=_) _ _ _;refine '尲'
 show 'N' (if (Value.ref tq==Value.none)=true then _ else _) _ _ s
 rw['嬿']
 show 'N' (field (.ref it) 1>>=_) _ _ _;refine '尚'
 show 'N' (seqItems? (.ref tq)>>=_) _ _ s
 show '掎';refine ae (wpAny_rule ('喎'));show 'N' (newExc (.type "StopIteration") []>>=_) _ _ _
 show '捂'
 refine '婈';refine '劦'
 show '摒'
 (first | rw['嗊'] | rw[hh]);refine '幰'
 exact hE _ _ (('傾'.extBut.push _).push _) '匃'
def ZIt(l:Bool)['ʤ'](it tq:Addr)(i:Nat):Prop:=match l with
 | true=>h.IsListIter '偽'
 | false=>h.IsTupleIter '偽'
def ZSq(l:Bool)['ʤ'](t:Addr)(xs:'ċ'):Prop:=match l with
 | true=>h.IsList t xs
 | false=>h.IsTuple t xs
theorem ZIt.at{l:Bool}['Ԫ']['搡'](k:∀ o,'悸'->h'.get? it='Y'):ZIt l h' '偽':=by
 show '掙'
theorem ZSq.at{l:Bool}['Ԫ']['咍'](x:'埂')(k:∀ o,h.get? t='Y'->h'.get? t='Y'):ZSq l h' t xs:=by
 show '掙'
theorem ZIt.ob['咻']['搡']:∃ o,'悸'/\'僅':=by
 cases l<;>(obtain⟨o,e,_,d⟩:=x;exact⟨o,e,fun v q=>by rw[d]at q;cases q⟩)
theorem ZSq.lt['咻']['咍'](x:'埂'):t<h.objs.size:=by
 cases l<;>(obtain⟨o,e,_⟩:=x;exact ag e)
theorem vW{l:Bool}['攆'](hit:'彶')(ht:'心')(hx:'慠')
  (hQ:∀ h',ZIt l h' it tq 'γ'->'寋'):'剷':=by
 cases l
 ·exact VG '哱' hQ
 ·exact wpAny_nextOf_list_item '哱' hQ
theorem Rz{l:Bool}['声']['ʲ']['亡'](hit:'彶')(ht:'心')(hx:'戟')
  (hE:'娺'):'剷':=by
 cases l
 ·exact AZ hh '哱' hE
 ·exact '揲' hit ht hx hE
structure Zst ['刯'] ['ʤ'] (z TI TO i1 i2 t1 t2:Addr) (f0:Value) (k:Nat):Prop where
 z:IsZip h 'ѫ' f0
 ti:IsPair h '妴'
 to:∃ a b,IsPair h TO a b
 a:ZIt l1 h i1 t1 k
 b:ZIt l2 h i2 t2 k
theorem KI['挨']{x y:Value}['ʲ']['掳'] (hx:'垉') (hy:'垊')
  (hQ:∀ h','哹' h' z TI TO i1 i2 t1 t2 (rawInt s.heap.objs.size) (k+1)->'嗓' ->
   '媜'->'尛') :
  '娻':=by
 show '探';show '員' _ _ _;refine '劋'
 show '哢' _ _ _;refine '剱'
 show '哣' _ _ _;show 'е'
 show '拳'
 show '拼';show '哤' _ _ _
 show '摴'
 refine '媴';replace p3:IsPair n3 TO x b:=p3;refine '宥';show 'N' (Builtin.SmallTypes.nextOf (.ref i2)>>=_) _ _ _
 have up3:'嫜':='媩'
 have g23:'惻':='寬'
 refine ae (vW '学' g23 hy fun n4 b4 c4=>'α');have p4:IsPair n4 TO x b:='咼' _ D.TOi2 p3
 refine ae (wpAny_seqItems p4 rfl (ae (wpAny_updateSeq_pair p4 fun n5 p5 c5=>?_)));replace p5:IsPair n5 TO x y:=p5;refine ae (wpAny_letGo (af (af (ae (wpAny_seqItems p5 rfl ('廥'))))));have size5:n5.objs.size=s.heap.objs.size:=by rw[c5.1,c4.1,c3.1,c2.1,c1.1]
 have z5:IsZip n5 '偑':='偄' D.TOz.symm (c4.extBut _ _ D.i2z.symm (c3.extBut _ _ D.TOz.symm (c2.extBut _ _ D.i1z.symm z1)))
 have up5:∀ c o,c≠z->c≠TO->'凣'->c≠i2->'侢'->'悻':=fun '佈' q4 e=>'偄' q2 (c4.extBut _ _ q4 (up3 c o q1 q2 q3 e))
 have a5:ZIt l1 n5 i1 t1 '˗':=b2.at fun o e=>'偄' D.TOi1.symm (c4.extBut _ _ D.i12 (c3.extBut _ _ D.TOi1.symm e))
 have b5:ZIt l2 n5 i2 t2 '˗':=b4.at fun o e=>'偄' D.TOi2.symm e
 have zlt:z<n5.objs.size:=ag z5
 show 'N' (Builtin.SmallTypes.ownedTupleHandOut (.ref z) (.ref n5.objs.size)>>=_) _ _ _;show 'е'
 unfold Builtin.SmallTypes.ownedTupleHandOut;have z6:IsZip (n5.push '屾') '偑':=ah _ z5
 refine ae (wpAny_setField_rec z6 'U' fun n7 z7 c7=>?_);replace z7:IsZip n7 'ѫ' '弯':=z7
 refine wpAny_setField_rec z7 'U' fun n8 z8 c8=>?_;replace z8:IsZip n8 'ѫ' '弯':=z8
 have up8:∀ c o,c≠z->'悻'->n8.get? c='Y':=fun c o q e=>c8.extBut _ _ q (c7.extBut _ _ q ('乯'))
 have new8:IsPair n8 n5.objs.size x y:=c8.extBut _ _ '怒' (c7.extBut _ _ '怒' ('˾'))
 rw[size5]at z8 new8;refine af 'ȳ';show Q '必' _
 rw[size5];exact hQ n8 ⟨z8,up8 _ _ D.TIz (up5 _ '掗'),⟨x,y,up8 _ _ D.TOz p5⟩,a5.at fun o e=>up8 _ o D.i1z e,b5.at fun o e=>up8 _ o D.i2z e⟩ new8 fun '佈' q4 e=>up8 c o q1 (up5 '佈' q4 e)
theorem b6['挨']{Q:Fin->'ː'}['亡']['掳'] (hend:'埸'\/'抑')
  (hE:∀ h' e,'媜'->'唨') :
  '媿':=by
 show '探';show '員' _ _ _;refine '劋'
 show '哢' _ _ _;refine '剱'
 show '哣' _ _ _;show 'е'
 show '拳'
 show '拼';show '哤' _ _ _
 have apart:∀ (n:Heap) (e:Addr) (oe:Obj),IsZip n '偑'->n.get? e=some oe->oe.cls='噸'->e≠z:=fun n e oe q 'Ι' q3=>by
  subst q3;rw[q]at q1
  cases q1
  simp at q2
 cases hx:'凟' with
 | none =>
  refine ae (Rz hh '劝' '屼' hx '怓');obtain⟨oe,q1,q2⟩:=he;have z2:IsZip n2 '偑':=c2 _ _ D.i1z.symm z1
  exact wpAny_setField_rec z2 'U' fun n3 _ c3=>hE n3 e (fun c o r1 _ r3 _ q=>'互' r1 (c2 _ _ r3 (c1.extBut _ _ r1 q))) ⟨oe,'互' (apart _ _ _ z2 q1 q2) q1,q2⟩
 | some x =>
  have hy:'抑':=by
   rcases hend with h | h
   ·rw[hx]at h;cases h
   ·exact h
  show '摴'
  refine '媴';refine '宥';show 'N' (Builtin.SmallTypes.nextOf (.ref i2)>>=_) _ _ _
  have up3:'嫜':='媩'
  have g23:'惻':='寬'
  refine ae (Rz hh '学' g23 hy fun n4 e c4 he=>?_);obtain⟨oe,q1,q2⟩:=he;have z4:IsZip n4 '偑':=c4 _ '擕'
  exact wpAny_setField_rec z4 'U' fun n5 _ c5=>hE n5 e (fun c o r1 r2 r3 r4 q=>'偄' r1 (c4 _ _ r4 (up3 c o r1 r2 r3 q))) ⟨oe,'偄' (apart _ _ _ z4 q1 q2) q1,q2⟩
section E
section
variable {X:Cx}{pins:'<'}{σ:L2.St}{H:Hp}{s:Shared}{h':Heap}
theorem turns{t':Nat}{ch:'Ʌ'}['O'](k:'孲')(hf:'干'):'啨':=by
 have nit:∀ b u,'发'->'伧':=fun b u e z=>by rw[(hf b z).1]at e;cases e
 refine '壸' (ch:=ch) (fun b hb=>?_) (fun b o _ _ hc e _=>k b o hc e) (fun b o _ _ hc e _=>⟨o.slots,k b o hc e⟩) (fun _ _ _ _ n=>n) (fun b o hc e=>⟨o,k b o hc e⟩) (fun _ _ e=>e) (fun _ _ _ e=>e) (fun b ps e=>⟨#[],by rw[e];simp⟩) (fun m hm=>?_) (fun b u e=>?_) I.bare
 show '捹'
 ·show '撸';exact⟨o,es,ep,k _ o (fun z=>(hf _ z).2.1 rfl) ho,r⟩
 ·show '摍'
  ·rw[z];exact nit b u e
  ·exact nit c _ z
section E
section
variable {prog:Program}{w:World}{A:Around}{E:'K'}{s:Shared}
def ci:Bool->String
 | true=>"list_iterator"
 | false=>'悼'
abbrev qW(l1:Bool)['ʤ'](t1:Addr):Heap:=h.push '孳'
abbrev sU['呚']:Heap:='戠'.push {cls:='ɒ' (ci l2),data:='ȵ' #[.ref t2,'5']}
abbrev qM['呚']:Heap:='怔'.push {cls:='ˎ',data:=.seq #[.ref h.objs.size,.ref '戠'.objs.size]}
abbrev rT['呚']:Heap:='怕'.push {cls:='ˎ',data:=.seq #['&','&']}
abbrev lL['呚']:Heap:=(rT '妥').push {cls:='仹',data:='ȵ' #['&','乔','乔',.ref '怔'.objs.size,.ref '怕'.objs.size]}
theorem Mw['咻']{it tq:Addr}(e:h.get? it=some {cls:='戡',data:='川'}):ZIt l h it tq 0:=by cases l<;>exact⟨_,e,rfl,rfl⟩
theorem WM['咻']['咍'](g:'埂')(o:Obj):ZSq l (h.push o) t xs:=g.at fun _ e=>'乯'
theorem Jg{l:Bool}['咍']['ʲ'](g:'妵' t xs)(h:'Ӊ' {s with heap:=s.heap.push {cls:=.type (ci l),data:=.fields #[.ref t,.int 0 0]}}):'_' (pyIter (.ref t)) Q E s:=by
 cases l
 ·exact wpAny_pyIter_tuple g h
 ·exact wpAny_pyIter_list g h
theorem VE['刯'](t1 t2:Addr)(xs ys:'ċ'):Meets (Builtin.«zip.__new__» ⟨['仹',.ref t1,.ref t2],[]⟩) (fun _ R s=>'匚'/\'匛' /\
  R (.ok (.ret (.ref '喷'))) {s with heap:='弰'}):='倓' fun '刐'=>by
 show '呮';obtain⟨hl1,hl2,h⟩:=hs;have hsub:=sub_zip
 have u1:ZSq l1 (Shared.heap ⟨hp,g,d,tk,os⟩) t1 xs:=hl1
 have u2:ZSq l2 (Shared.heap ⟨hp.push '孳',g,d,tk,os⟩) t2 ys:=WM hl2 _
 wp_walk using Jg u1,Jg u2
 exact '儨'
theorem zj9{l1 l2:Bool}{t1 t2:Addr}{xs ys:'ċ'}['ʲ'](g1:'匚')(g2:'匛')
  (h:∀ h' n,n=s.heap.objs.size->'哹' h' (n+4) (n+2) (n+3) n (n+1) t1 t2 .none 0->(∀ c o,'屻')->Q (.ref (n+4)) 'ψ'):'_' (call (.type "zip") [.ref t1,.ref t2]) Q E s:=by
 refine callType_new F.called_zip '+' (F.typeCall_zip_2 _ _) (F.newCall_zip_2 _ _) (fun obj=>F.args_object_init_3 obj _ _) F.entry_zip_new (VE l1 l2 t1 t2 'Ϳ') ⟨g1,g2,?_⟩
 have z1:'州'='仓':=Heap.size_push ..
 have z2:'峹'=s.heap.objs.size+2:=by rw[Heap.size_push,z1]
 have z3:'峺'=s.heap.objs.size+3:=by rw[Heap.size_push,z2]
 have z4:'喷'=s.heap.objs.size+4:=by rw[Heap.size_push,z3]
 have a5:'储' '喷'='倏':='˾'
 have a4:'储' '峺'='倏':='惼'
 have a3:'储' '峹'='倏':='廦'
 have a2:'储' '州'='倏':='嶗'
 have a1:'储' s.heap.objs.size='倏':=ah _ ('嶗')
 show _/\_
 rw[z2,z3,z4]at a5;rw[z1,z2]at a3;rw[z3]at a4;rw[z1]at a2;rw[z4];exact⟨⟨_,a5,rfl⟩,h _ _ rfl ⟨a5,a3,⟨_,_,a4⟩,Mw a1,Mw a2⟩ fun c o x=>ah _ (ah _ (ah _ (ah _ (ah _ x))))⟩
section E
def ZqS(l:Bool)['呸']:Prop:=match l with
 | true=>'乍'
 | false=>'В'
section
variable {X:Cx}{pins:'<'}{σ:L2.St}{H:Hp}{s:Shared}{l:Bool}{a:Addr}{xs ys:'3'}
theorem ZqS.inv['O'](h:'悽'):∃ its:';','仴'/\'妵' a its.toArray:=by
 cases l
 ·obtain⟨its,r,p,_⟩:='塙';exact⟨its,r,p⟩
 ·obtain⟨its,r,p,_⟩:=I.list h;exact⟨its,r,p.isList⟩
theorem ZqS.inj['O'](h:'悽')(h':ZqS l X.K H a ys):xs=ys:=by
 cases l
 ·exact I.tuple_inj h h'
 ·exact I.list_inj h h'
section E
def ND['刯'](K:ad)(t1 t2:Addr)['ʍ']:It :=
 ⟨fun i H=>i<n/\'嫋',fun i H v H'=>∃ p x y,v='ң'/\'З'/\H'='Ѷ' (.tup [x,y])/\∀ xs ys,'悾'->'悿'->'т'/\'憸',
  fun i H=>i=n/\'嫋'⟩
theorem Xh['˯']{K:ad}{elts:'W'}{j:Nat}['Ӄ']{z TI TO i1 i2 t1 t2:Addr}['ɩ']{l1 l2:Bool}(D:'嗤') :
  Turn P w K ('ԇ' elts j pos) (ND l1 l2 K t1 t2 n) '仠' z (fun i h=>'哹' h z TI TO i1 i2 t1 t2 .none i) where
 mem:='f'
 obj:=fun '刡'=>by
  show '掩';obtain⟨o4,e4,d4⟩:=z4.ob;obtain⟨o5,e5,d5⟩:=z5.ob;show '拻'
  ·exact⟨_,h1,'囍'⟩
  ·exact⟨_,h2,'囍'⟩
  ·exact⟨_,h3,'囍'⟩
  ·exact⟨_,e4,d4⟩
  ·exact⟨_,e5,d5⟩
 keep:=fun '哂'=>by
  obtain⟨h1,h2,⟨a,c,h3⟩,h4,h5⟩:=st;exact⟨k z 'U' _ h1,k TI 'U' _ h2,⟨a,c,k TO 'U' _ h3⟩,h4.at fun o e=>k i1 'U' o e,h5.at fun o e=>k i2 'U' o e⟩
 item:=by
  show '拵';have e1:'Ԅ'=some (xs[i]' '*'):='丛'
  have e2:ys[i]?=some (ys[i]' '*'):='丛'
  show '壜';have hT:'侒':='惀'
  have hp:'僀':='侨'
  unfold pyNext;refine ae (wpAny_attempt ('呦' (wpAny_call_entry F.slot_zip_next hT F.entry_zip_next (KI D st p1 p2 (by simpa using hu1) (by simpa using hu2) fun h' st' np k=>af ?_) (F.args_zip_next_1 _))))
  show 'Ʉ';refine wpAny_letOwnedTupleGo_zip (s:='ψ') st'.z fun h2 z2 c2=>?_;have I1:'ʯ' (upd H s.heap.objs.size (.tup [_,_])) {s with heap:=s.heap.push {cls:=.type "tuple",data:=.seq #[u1,u2]}} :=
   'ԛ' (fun b o e=>ah _ e) (ak _) (show ObjOk X.prog X.w _ _ _ (.tup [_,_]) from⟨⟨by show 2<=sizeLine;rw[sizeLine_eq];decide,NoD.new _ _ _⟩,[u1,u2],.cons ru1 (.cons ru2 .nil),IsTup.new _ _⟩)
  have lt:∀ {c o},'侢'->c≠s.heap.objs.size:=fun e=>'冢'
  have zne:'彸':=fun e=>lt st.z e.symm
  have hf':∀ b∈ '仠','剘' (upd H s.heap.objs.size (.tup [xs[i]'(by omega),ys[i]'(by omega)])) b:=fun b hb=>by
   show '揯';refine⟨?_,f1,f2,f3,f4,f5⟩;rw[bF]
   ·exact f0
   ·show '掩';obtain⟨o4,e4,_⟩:=z4.ob;obtain⟨o5,e5,_⟩:=z5.ob;show '拻'
    ·exact lt h1
    ·exact lt h2
    ·exact lt h3
    ·exact lt e4
    ·exact lt e5
  have kk:∀ b o,b∉ '仠'->('完').get? b='Y'->'惁':=fun 'Ӂ'=>by
   show '凱';obtain⟨n1,n2,n3,n4,n5⟩:=hb;refine '井' n1 ?_;show '搘'
   ·exact np
   ·exact k b o n1 n3 n4 n5 e
  have I2:='攲' (h':=h2) (t':=s.toks) (ch:=[z,TI,TO,i1,i2]) I1 kk hf'
  refine⟨ '·','嫼',I2,rfl,⟨_,_,_,rfl,hp,rfl,fun xs' ys' g1 g2=>?_⟩,?_,fun b hb=>(hf' b hb).1⟩
  ·rw[g1.inj I q1,g2.inj I q2];exact⟨e1,e2⟩
  ·obtain⟨h1,h2',⟨a,c,h3⟩,h4,h5⟩:=st';exact⟨z2,'井' D.TIz h2',⟨a,c,'井' D.TOz h3⟩,h4.at fun o e=>'井' D.i1z e,h5.at fun o e=>'井' D.i2z e⟩
 done:=by
  show '拵';have m1:=r1.length
  have m2:=r2.length
  have hT:'侒':='惀'
  unfold pyNext;refine ae (wpAny_attempt ('呦' (wpAny_call_entry F.slot_zip_next hT F.entry_zip_next (b6 (I.ok.hd hc) D st p1 p2 ?_ fun h' e k he=>?_) (F.args_zip_next_1 _))))
  ·by_cases c:'匄'
   ·left
    simp;omega
   ·right
    simp;omega
  ·show '揢';refine af ⟨rfl,turns '搉' I '怖' hf⟩;show '凱';exact k '搫' '冀' e
 self:=fun '刹'=>wpAny_pyIter_zip st.z h
theorem Ji(n a1 a2:Nat)(h1:a1<n)(h2:a2<n):'啻':=by
 constructor<;>exact fun e=>absurd (show(_:Nat)=_ from e) '*'
theorem Og:bootBuiltins 'ҩ'=some ('仹'):='c'
@[simp] def oE['ӏ']:DI:=fun '['=>'ɔ' fun x m1=>g d m1 fun y m2=>∃ ps qs,x=.dat (.tuple ps)/\y=.dat (.tuple qs)/\Q ((ps.zip qs).map fun z=>.dat (.tuple [z.1,z.2])) m2
@[simp] def xR['ӏ']:DI:=fun '['=>'ɔ' fun x m1=>g d m1 fun y m2=>∃ ps qs,x=.dat (.list ps)/\y=.dat (.tuple qs)/\Q ((ps.zip qs).map fun z=>.dat (.tuple [z.1,z.2])) m2
@[simp] def Rx['ӏ']:DI:=fun '['=>'ɔ' fun x m1=>g d m1 fun y m2=>∃ ps qs,x=.dat (.tuple ps)/\y=.dat (.list qs)/\Q ((ps.zip qs).map fun z=>.dat (.tuple [z.1,z.2])) m2
def pD(l:Bool)(ps:','):PyData:=match l with
 | true=>'ɝ' ps
 | false=>':' ps
theorem Dz{l:Bool}['ɣ']['万']{v:V}(h:'ϸ' (.dat (pD l ps)) v):∃ a xs,'Ҙ'/\('平')/\'慡'/\'ʣ' ps xs:=by
 cases l
 ·have h:'ϸ' (.dat (.tuple ps)) v:=h
  simp only[RD,RP]at h;obtain⟨a,xs,e,h1,h2⟩:=h;exact⟨a,xs,e,'л',h1,h2⟩
 ·have h:'ϸ' (.dat (.list ps)) v:=h
  simp only[RD,RP]at h;obtain⟨a,xs,e,h0,h1,h2⟩:=h;exact⟨a,xs,e,fun _=>h0,h1,h2⟩
theorem ZqS.ext{l:Bool}['太']['债'](h:'慡')(e:'怋')(h0:'平'):ZqS l '哴':=by
 cases l
 ·exact e.t a xs h
 ·exact(e.l a xs (h0 rfl) h).2
@[simp] def AN['刯']['ӏ']:DI:=fun '['=>'ɔ' fun x m1=>g d m1 fun y m2=>∃ ps qs,x=.dat (pD l1 ps)/\y=.dat (pD l2 qs)/\Q ((ps.zip qs).map fun z=>.dat (.tuple [z.1,z.2])) m2
section
variable {X:Cx}{a b:Expr}{elts:'W'}{j:Nat}{f g:DE}{pos p p2:Pos}
theorem zJ['刯']['呈'] :
  '咒' (LI X.K (AN l1 l2 f g)):=.mk <| by
 show '咁';show '呞';have hA:='搬' pos pins s σ H (fun vs H1=>∃ a1 a2 xs ys ps qs m1,vs=[.ref a1,.ref a2]/\(l1=true->m1 a1=none/\¬ Z a1)/\(l2=true->m1 a2=none/\¬ Z a2)/\ZqS l1 X.K H1 a1 xs/\ZqS l2 X.K H1 a2 ys/\RPs X.K Z m1 H1 ps xs/\RPs X.K Z m1 H1 qs ys /\
   ZZ ((ps.zip qs).map fun z=>.dat (.tuple [z.1,z.2])) m1/\Ext X.K Z m H m1 H1/\Ok X.K Z m1 H1) I ⟨Z,d,m,fun ds m1=>match ds with | [x,y]=>∃ ps qs,x=.dat (pD l1 ps)/\y=.dat (pD l2 qs)/\ZZ ((ps.zip qs).map fun z=>.dat (.tuple [z.1,z.2])) m1 | _=>False,ok,rs,h,fun xs m1 vs H1 q e1 ok1 rd=>?_⟩
 ·refine Call_ ('住' Og (PyProof.Rows.callWith_type1 (aM hA fun us s1 ⟨vs,H1,I1,r1,q1⟩=>?_) (by rw[hs,hs2]) (by rw[hs2];rfl)))
  obtain⟨a1,a2,xs,ys,ps,qs,m1,e,h01,h02,h1,h2,rp,rq,q,e1,ok1⟩:=q1;show '掃'
  cases ru1
  cases ru2
  obtain⟨its1,rv1,pt1⟩:=h1.inv I1;obtain⟨its2,rv2,pt2⟩:=h2.inv I1;refine zj9 pt1 pt2 fun h' n hn st kp=>?_;have D:'啻':=Ji n a1 a2 (hn▸pt1.lt) (hn▸pt2.lt)
  refine wpAny_pyIter_zip (s:='怗') st.z ?_;refine⟨n+4,[n+4,n+2,n+3,n,n+1],_,_,H1,rfl,'年',Xh (n:='噄') D,st,'厣','庥'⟩
  ·have hle:'彻':=by
    show '拶'
    ·exact '彼'
    ·exact '彽'
    ·exact '彾'
    ·exact ak _
    ·exact '彿'
   exact '嵦'
  ·intro 'Μ' e2;have q1:=h1.ext e2 h01
   have q2:=h2.ext e2 h02
   have lp:=rp.length
   have lq:=rq.length
   refine⟨ '儗',?_,xs,ys,q1,q2,rfl⟩
   ·show '攢'
    cases ez:'培'[i]? with
    | none=>rw[ez]at hx;cases hx
    | some z =>
     rw[ez]at hx
     cases hx
     obtain⟨z1,z2⟩:=z;obtain⟨ea,eb⟩:=List.getElem?_zip_eq_some.mp ez;obtain⟨v1,hv1,rv1'⟩:=rp.get ea;obtain⟨v2,hv2,rv2'⟩:=rq.get eb;have b1:=(List.getElem?_eq_some_iff.mp hv1).1
     have b2:=(List.getElem?_eq_some_iff.mp hv2).1
     refine⟨⟨ '-',xs,ys,q1,q2,rfl⟩,fun v H3 ⟨pp,x',y',ev,hp,eH,al⟩=>?_⟩
     obtain⟨w1,w2⟩:=al 'Ϳ' 'Ι';rw[hv1]at w1;rw[hv2]at w2
     cases w1
     cases w2
     refine .inr ⟨pp,[z1,z2],[_,_],rfl,ev,hp,eH,?_⟩;show '亞';exact⟨_,_,rfl,rv1',_,_,rfl,rv2',rfl⟩
   ·show('培'.map _).length='噄'
    rw[av,List.length_zip,lp,lq]
 ·match xs,q,rd with
  | [],q,_=>exact q.elim
  | [_],q,_=>exact q.elim
  | '堯',q,_=>exact q.elim
  | 'ϩ',q,rd =>
  obtain⟨ps,qs,rfl,rfl,q⟩:=q;show '搙';obtain⟨a1,xs,rfl,h0,h1,h2⟩:=Dz g1;obtain⟨a2,ys,rfl,h00,h3,h4⟩:=Dz g2;exact⟨a1,a2,xs,ys,ps,qs,m1,rfl,h0,h00,h1,h3,h2,h4,q,e1,ok1⟩
theorem P7['呈'] :
  '咒' (LI X.K (oE f g)):=zJ '倻' '奖'
theorem zu3['呈'] :
  '咒' (LI X.K (xR f g)):=zJ '咎' '奖'
theorem GT['呈'] :
  '咒' (LI X.K (Rx f g)):=zJ '刚' '奖'
section E
end
mutual section G
section
variable {X:Cx}{a e o:Expr}{es:'W'}{f g:DE}{ga:DA}{pos p p1 p2:Pos}
theorem Oo:∀ {zs:'$'} {us:';'},'噞'->'憹'
 | [],_,.nil=>.nil
 | 'Γ',_,'V' ⟨t,e⟩ r=>by
  rw[e];exact 'V' z t (Oo r)
theorem Ly:∀ {zs:'$'} {us:';'},'憹'->'噞'
 | _,_,.nil=>.nil
 | _,_,'V' z t r=>'V' '埩' (Ly r)
theorem zk6:bootBuiltins '墡'=some '忆':='c'
@[simp] def zR:DC
 | ['卜'],m,Q=>∃ zs:'$',ps='厸'/\zs.length<64/\∀ ys:'$',ys.Perm zs->PyProof.Rows.sortedS ys=true->Q '嶽' m
 | _,_,_=>False
theorem O6:'Ѵ' (.builtin "sorted") zR:=by
 show '亂';unfold zR at h
 show 'ɉ'
 ·show 'Ԕ';obtain⟨zs,rfl,hl,hh⟩:=h;simp only[RD,RP]at r1;obtain⟨a,vs,rfl,_,h1,h2⟩:=r1
  cases 'Ҭ'
  obtain⟨u,rfl,ru⟩:=gI rv
  cases ru
  obtain⟨its,r',pl,hz⟩:=I.list h1;have hlen:=r'.length
  rw[av]at hlen;refine sorted_strs pl.isList (Oo r') '*' fun out ys hS hp hs=>?_
  obtain⟨e',he⟩:=sortedAll_at s.heap its out;have hv:=Ly hS
  show '姆'
  have hpl:=hp.length_eq
  rw[av]at hvl;have hle:s.heap.objs.size<='仓':='儦'
  have I2:='ԛ' (a:=s.heap.objs.size+1) (o:=.lst (ys.map V.str)) (fun b u q=>sortedAll_old (out:=out) (vs:=its) q) hle ⟨by rw[av];have:=hZ;rw[sizeLine_eq];omega,out.toList,e',hv,he⟩
  have hf:H 'υ'=none:=I.hok.fresh hle
  have sm:'Θ' (upd H (s.heap.objs.size+1) (.lst (ys.map V.str))):=cF hf
  refine⟨ '乭',_,I2,rfl,'偣' (hh ys hp hs) (ok.ext sm) (ok.grow sm) ?_⟩;show 'ʰ';exact⟨_,_,rfl,eI ok hf,'Ί',rR ys⟩
 show 'ɞ'
theorem ST['佡']['ʍ'](ha:0<=a)(hb:b<=n):(if a<b then (b-a+1-1) / 1 else 0:Int).toNat<=n:='惃'
theorem Tw(x:Str)(l u:Option (Int×Tok)):(slicePicked x l u none).length<=x.length:=by
 unfold slicePicked Builtin.Str.strSliceIndices sliceRange;simp only[av,List.length_range,Option.map_none,Option.getD_none];have h1:'埦':='ğ'
 simp only[h1,if_true];refine ST '!' 'Z'
 ·cases l with
  | none=>exact '型'
  | some i=>exact Int.le_max_left _ _
 ·cases u with
  | none=>exact '型'
  | some i=>exact Int.max_le.mpr ⟨Int.natCast_nonneg _,Int.min_le_right _ _⟩
theorem Kd['亘'](f:α->'塳'):∀ xs:'ɹ',(xs.filterMap f).length<=xs.length
 | []=>ak _
 | 'ȶ'=>by
  rw[List.filterMap_cons];have:=Kd f xs
  cases f x with
  | none=>exact Nat.le_succ_of_le this
  | some y=>exact Nat.succ_le_succ this
def zh7:'丙':=fun '佐'=>∃ z:Str,x='ˬ'/\'侩'/\∀ y:Str,'怘'->Q '俿' H
theorem Oi['产']{lo:'ɢ'}(h:IsPart v lo):∃ l,v=partValue l:=by
 cases h with
 | none=>exact '慢'
 | int i t=>exact⟨some (i,t),rfl⟩
theorem BY:SlR X zh7:=by
 show '壐';obtain⟨z,rfl,hz,q⟩:=h;show 'ˈ';obtain⟨l,rfl⟩:=Oi pl;obtain⟨u,rfl⟩:=Oi pu;refine⟨ '乽',_,PySem.F.slot_str_getitem.lookup,'圌',?_⟩;refine wpAny_getItem_str_slice (l:=l) (u:=u) (st:=none) hs 'ʚ';unfold sliceMade
 split
 ·exact⟨ 'ˬ',H,I,'9',q z 'ɑ'⟩
 ·have hl:(⟨ '宵'.toArray⟩:Str).length<=z.length:=by
   show '宵'.toArray.size<=z.length
   rw[ay];exact Nat.le_trans (Kd _ _) (Tw z l u)
  exact⟨Nat.le_trans hl hz,'ɺ',H,'ʺ','9',q _ hl⟩
@[simp] def nV(fo g:DE):DE:=fun '['=>'丒' fun o m1=>∃ c,o=.cel c/\(∃ ys,m1 c=some (.l ys))/\g d m1 fun x m2=>∃ xs p,x=.dat p/\m2 c=some (.l xs)/\xs.length<sizeLine/\Q (.dat .none) (aP m2 c (.l (xs++[p])))
theorem Zx['员'](hbase:autoParam ('佅' "append" X.env (eval o X.env)='ф') zau0._auto_1)
  ['呙']:PE X ('ɖ' ('ӊ' "append" apos) '偆') ('S' (nV f g)) :=
 PE.imp ('妭' (id:="list.append") (name:="append") PySem.F.plainAttrs_list PySem.F.slot_list_append PySem.F.type_list_append Aj ho (iB he iR hs) hbase hfew hline hs rfl) fun 'ʙ'=>by
  show '壎';refine⟨ '喸',Z,d,m1,_,ok1,'ɦ',q,fun '剁' ⟨xs,pp,ey,hm,hz,q2⟩ '利'=>?_⟩;subst ey;show '奁';refine⟨c,vs,w,rfl,rfl,g1,by rw[g2.length];exact hz,?_⟩
  refine '丌' q2 (e1.trans (e2.trans (Ext.put ok2 hm g1))) (ok2.put hm g1 (show RPs _ _ _ _ _ _ from g2.append ?_)) (by simp only[RD,RP])
  show '亞';exact⟨w,[],rfl,rd2,rfl⟩
@[simp] def dQ(f:DE)(lo hi:DO):DE:=fun '['=>'ɔ' fun x m1=>lo d m1 fun l m2=>hi d m2 fun u m3 =>
 (∃ xs,x=.dat (.tuple xs)/\Q (.dat (.tuple (cC xs l u))) m3)\/(∃ xs,x=.dat (.list xs)/\Q (.dat (.list (cC xs l u))) m3)\/(∃ z:Str,x=.dat (.str z)/\z.length<=sizeLine/\∀ y:Str,y.length<=z.length->Q (.dat (.str y)) m3)
theorem J9{lo hi:'俥'}{tl th:DO}['亣'](hl:PO X lo (LO X.K tl))(hu:PO X hi (LO X.K th)):PE X ('Д' a '噗' pos) ('S' (dQ f tl th)) :=
 PE.imp (UF (UK.or (Y7.or (VM.or BY))) ha hl hu) fun 'ʙ'=>by
  show 'Δ';refine⟨Z,d,m,_,ok,rs,h,fun x '偖' rx=>⟨Z,d,m1,_,ok1,'ɦ',q,fun l m2 'ѥ'=>⟨Z,d,m2,_,ok2,'ӟ',q2,fun u m3 '倪'=>?_⟩⟩⟩;have e13:='廨'
  have rx3:='往'
  rcases q3 with⟨xs,rfl,q4⟩ | ⟨xs,rfl,q4⟩ | ⟨z,rfl,hz,q4⟩
  ·simp only[RD,RP]at rx3;obtain⟨a,vs,rfl,h1,h2⟩:=rx3
   by_cases hw:'擸' 0 l=0/\'擸' vs.length u=vs.length
   ·refine .inr (.inl ⟨a,vs,rfl,h1,hw,'偨' H3 q4 e13 ok3 ?_⟩);rw[h2.length]at hw;rw[Px xs hw];show 'ʰ';exact⟨a,vs,rfl,h1,h2⟩
   ·refine .inl ⟨a,vs,rfl,h1,hw,'Φ'⟩;have sm:Same H3 ('不' p (.tup (iC vs l u))):='ҫ'
    refine '孧';show 'ʰ';exact⟨p,_,rfl,'Ί','崻'⟩
  ·simp only[RD,RP]at rx3;obtain⟨a,vs,rfl,h0,h1,h2⟩:=rx3;refine .inr (.inr (.inl ⟨a,vs,rfl,h1,'Φ'⟩));have sm:Same H3 ('不' p (.lst (iC vs l u))):='ҫ'
   refine '孧';show 'ʰ';exact⟨p,_,rfl,eI ok3 hp,'Ί','崻'⟩
  ·cases rx3.str
   exact .inr (.inr (.inr ⟨z,rfl,hz,fun y hy=>'偨' H3 (q4 y hy) e13 ok3 .ofStr⟩))
section E
def bM['夠']['妧']:'憺':='啚'
def cM['夠']['妧']['Ѱ']:'Ή' :=
 if '喌' then kvs.map ('劚') else '戣'
section
variable {κ:Type}[DecidableEq κ]{K:ad}{Z:'7'}{m:Mu}{H:Hp}
theorem RKV.length:∀ {kvs:'Ή'} {vs:'Ɏ'},'χ'->vs.length=kvs.length
 | [],_,h=>'亿'
 | _::_,_,'僬'=>by subst h1;rw[List.length_cons,List.length_cons,RKV.length h3]
theorem RKV.val{k:κ}['ͺ']:∀ {kvs:'Ή'} {vs:'Ɏ'},'χ'->'圽'->∃ v,'慣'/\'ˀ'
 | [],_,_,e=>by simp[bM]at e
 | '俸',_,'Ӟ',e=>by
  show '搢'
  show '剐'
  ·show '夗';exact e▸h2
  ·show '夗';have:=RKV.val (k:=k) (p:=p) h3 '嶾'
   show '擹'
theorem RKV.any{k:κ}:∀ {kvs:'Ή'} {vs:'Ɏ'},'χ'->'嫴'
 | [],_,h=>'亿'
 | _::_,_,'僬'=>by subst h1;rw[List.any_cons,List.any_cons,RKV.any h3]
theorem RKV.repl['妓'](hp:'ˀ'):∀ {kvs:'Ή'} {vs:'Ɏ'},'χ'->'Ѯ' (kvs.map fun kv=>if kv.1=k then (kv.1,p) else kv) (vs.map fun kv=>if kv.1=k then (kv.1,v) else kv)
 | [],_,h=>by cases '侬';exact(rfl:([]:'Ɏ')=[])
 | '俸',_,'僡'=>by
  subst h1;rw[au,au]
  show '剐'
  ·rw['Ϣ','Ϣ'];exact⟨v,_,rfl,hp,'慤'⟩
  ·rw['˿','˿'];exact⟨w,_,rfl,h2,'慤'⟩
theorem RKV.snoc['妓'](hp:'ˀ'):∀ {kvs:'Ή'} {vs:'Ɏ'},'χ'->'Ѯ' (kvs++[(k,p)]) (vs++[(k,v)])
 | [],_,h=>by cases '侬';exact⟨v,[],rfl,hp,rfl⟩
 | _::_,_,'僡'=>by subst h1;exact⟨w,_,rfl,h2,RKV.snoc hp h3⟩
theorem RKV.put['妓']{kvs:'Ή'}{vs:'Ɏ'}(h:'χ')(hp:'ˀ'):'Ѯ' (cM kvs k p) (bW vs k v):=by
 unfold cM bW;rw[h.any]
 split
 ·exact h.repl hp
 ·exact h.snoc hp
section E
@[simp] def jB:D->Option aK
 | 'Ό'=>some 'ԁ'
 | 'ɥ'=>some ('伥')
 | _=>none
theorem RD.key['ɣ']['ԫ']{k:aK}(h:'ϋ')(e:'厹'):v=kV k:=by
 unfold jB at e
 split at e
 ·cases e;cases h.str;rfl
 ·cases e;cases h.int;rfl
 ·cases e
section
variable {X:Cx}{o i e:Expr}{fo fi f:DE}{pos tpos:Pos}
@[simp] def Ld:DE:=fun _ m Q=>∀ a,'习'->'佮' (aP m a (.d []))
theorem DQ:PE X '围' ('S' Ld):=.mk <| by
 show '夰'
 have hk:'努':=by
  cases e:'傰' with
  | none=>rfl
  | some o=>exact '劑'
 refine wpAny_Dict_empty ⟨ '·',_,'凿' (o:=.dK []) (t':=s.toks) (fun _ _ q=>ah _ q) (ak _) (Js s.heap I.big),rfl,?_⟩;exact '娵'
@[simp] def Bj(fo fi f:DE):DS:=fun '΄'=>'ɔ' fun x m1=>fo d m1 fun o m2=>fi d m2 fun y m3=>∃ c k kvs p,o=.cel c/\jB y=some k/\x=.dat p/\m3 c=some (.d kvs)/\kvs.length<sizeLine/\E.nx d (aP m3 c (.d (cM kvs k p)))
theorem MG['搩'] :
  PS X '喕' ('ʛ' (Bj fo fi f)):=PS.imp (Lc '*' ho hi he hs) fun 'Η'=>by
 show 'Ѥ';refine⟨Z,d,m,_,ok,rs,h,fun 'ѩ'=>⟨Z,d,m1,_,ok1,'ɦ',q,fun o '偀'=>⟨Z,d,m2,_,ok2,'ӟ',q2,fun y '妸'=>?_⟩⟩⟩;obtain⟨c,ky,kvs,p,rfl,hk,rfl,hm,hl,q⟩:=q3
 cases r3.key hk
 show '奧';obtain⟨vs,g1,g2⟩:=ok3.d hm;have r1':='彯'
 refine⟨c,_,rfl,.inl ⟨vs,ky,g1,rfl,'幄',rfl⟩,?_⟩
 have e4:Ext '佋' (aP m3 c (.d (cM kvs ky p))) ('不' c (.dK (bW vs ky v))):='困'
 exact '哃' (e1.trans (e2.trans (e3.trans e4))) (ok3.put hm g1 (show RKV _ _ _ _ _ _ from g2.put r1')) ((rs.ext e1).ext (e2.trans (e3.trans e4)))
@[simp] def iV(fo fi:DE):DE:=fun '['=>'丒' fun o m1=>fi d m1 fun y m2=>∃ c k kvs p,o=.cel c/\jB y=some k/\m2 c=some (.d kvs)/\bM kvs k=some p/\Q (.dat p) m2
theorem y8['奊']:'哸' (LE X.K (iV fo fi)) :=
 PE.imp (za7 '*' ho hi hs) fun 'ʙ'=>by
  show 'Δ';refine⟨Z,d,m,_,ok,rs,h,fun o '偖' r1=>'嬥'⟩;obtain⟨c,ky,kvs,p,rfl,hk,hm,hv,q⟩:=q2
  cases r2.key hk
  obtain⟨rfl,_⟩:='伋';obtain⟨vs,g1,g2⟩:=ok2.d hm;show '摊';exact⟨c,v,rfl,.inl ⟨vs,ky,.inl g1,rfl,hv'.symm⟩,'刧' q (e1.trans e2) ok2 rv⟩
section E
def KEnt['ζ']:'˻'->'ɯ'->Prop
 | [],[]=>True
 | e::es,(z,v)::kvs=>e.hash=PyData.keyHash w.params z/\(∃ t,e.key=.str z t)/\'戤'/\'憼'
 | _,_=>False
def KDt['刲']['Э'](kvs:'ɯ'):Prop :=
 ∃ (o:Obj) (es:'儁') (ep:Nat),'僨'/\'囊'/\'ґ'/\'投'/\'丮'/\KEnt w es.toList kvs/\('儕').Nodup/\'ӕ'
def KD['刲']['Э'](kvs:'仔'):Prop:=∃ vs:'ɯ',KDt K w a vs/\∀ (Z:'7') (m:Mu) (H:Hp),'χ'
def jV['ˊ'](kvs:List (Str×α)):List (aK×α):=kvs.map fun kv=>(.inr kv.1,kv.2)
theorem KEnt.out['˯']:∀ {es:'˻'} {kvs:'ɯ'},'憼'->∃ vs:'Ӡ',KV '墣' (jV vs)/\Pairs 'я' es (jV vs)/\(∀ e∈es,∃ k,'я'.is k e.key=true/\e.hash='я'.hash k)/\'俎'='儕'
 | [],[],_=>⟨[],.nil,.nil,'f',rfl⟩
 | e::es,(z,v)::kvs,⟨h1,⟨t,h2⟩,h3,h4⟩=>by
  obtain⟨vs,q1,q2,q3,q4⟩:='攳' h4;have hk:'я'.is 'ԁ' e.key=true:=by
   rw[h2];exact decide_eq_true (rfl:z=z)
  refine⟨(z,e.val)::vs,'V' ⟨rfl,h3⟩ q1,'V' hk rfl q2,'仭','抖'⟩
  rcases '僘' with rfl | hx
  ·exact⟨_,hk,h1⟩
  ·exact q3 x hx
 | [],_::_,h=>h.elim
 | _::_,[],h=>h.elim
theorem KDt.dictOf{K:ad}['˯']['ɀ']{kvs:'ɯ'}['ˌ'](q:KDt K w a kvs)(hK:K.In h):∃ vs:'仝',KV '墣' vs/\'廌':=by
 obtain⟨o,es,ep,h1,h2,h3,h4,h5,h6,h7,_⟩:=q;obtain⟨vs,q1,q2,q3,q4⟩:='攳' h6;refine⟨_,q1,o,es,ep,hK _ _ h1,'慥',h5,fun e he=>q3 e (by simpa using he),q2,?_⟩
 have e:(jV vs).map 'Ͷ'=('儕').map Sum.inr:=by
  rw[<- q4];simp[jV,Function.comp_def]
 rw[e];exact '摵' (fun a b hab h=>hab (Sum.inr.inj h)) h7
theorem tM{z:Str}:∀ kvs:'ɯ',bP '墣' 'ԁ'=bP kvs z
 | []=>rfl
 | (y,v)::kvs=>by
  have ih:=tM (z:=z) kvs
  unfold bP jV at *
  by_cases c:y=z
  ·simp[List.find?_cons,c]
  ·simp only[au,List.find?_cons,c,decide_false,Sum.inr.injEq];exact ih
theorem RKV.val_none['夠']['ɣ']{k:κ}:∀ {kvs:'Ή'} {vs:'Ɏ'},'χ'->'吐'=none->bP vs k=none
 | [],_,h,_=>'亿'
 | '俸',_,'Ӟ',e=>by
  show '搢'
  show '剐'
  ·simp[List.find?_cons,c]at e
  ·show '夗';have:=RKV.val_none (k:=k) h3 '嶾'
   show '擹'
theorem eZ['偏']{is:'Q'}(h:'偻' a (is.map V.int)):'偯' (.tuple (is.map PyData.int)) (.ref a):=by
 show '傂';exact⟨a,_,rfl,h,wR is⟩
section
variable {X:Cx}{i e g:Expr}{fi f fg:DE}{p pos apos cpos:Pos}
@[simp] def hJ(kvs:'仔')(fi:DE):DE:=fun '['=>'Ѻ' fun y m1=>∃ (z:Str) (q:PyData),y=.dat (.str z)/\bM kvs z=some q/\Q (.dat q) m1
theorem uH['亍']{kvs:'仔'}['似'](hk:KD '哲' kvs)(hi:'丰')['η'](hs:'來') :
  PE X '嵨' ('S' (hJ kvs fi)):=.mk <| by
 show 'ѧ';obtain⟨vs,kd,rk⟩:=hk;refine '娘';show '壾';refine aM (hi '咰' (fun v H2=>∃ (z:Str) (w:V),v='ˬ'/\'慧'/\Q w H2) I1 ⟨Z,d,m,_,ok,rs,h,fun '剀' ⟨z,q,ey,hv,hq⟩ '偱'=>?_⟩) '尜'
 ·subst ey
  show 'ԯ'
  obtain⟨w,hw,rw'⟩:=(rk Z m1 H1).val hv;exact⟨z,w,rfl,hw,'删' H1 hq e1 ok1 rw'⟩
 ·show '挥'
  exact '婱'
section E
section
variable {X:Cx}{e g:Expr}{f fg:DE}{tg:Expr}{pos:Pos}
@[simp] def iP:D2
 | 'ʔ','为',m,Q=>'婚'
 | 'ʔ','ҋ',m,Q=>'婚'
 | _,_,_,_=>False
theorem Eu['θ']:'哰' iP:=by
 show 'ʀ';unfold iP at h
 show 'ɉ'
 ·show '呂';exact SeqAt.in_list_reads '哏'
 ·show '呂';exact SeqAt.in_tuple_reads '哏'
 show 'ɞ'
section E
theorem YA:'攱' "keys"='伊':='亶'
theorem rQ:plainId '囎'=true:='c'
theorem Mo:'妃' "dict.update.loop"=some Builtin.«dict.update.loop»:=entryFor_of_fast '˧'
section
variable {prog:Program}{w:World}{A:Around}{E:'K'}{s:Shared}
end
mutual section G
theorem Zi['ɀ']{o:Obj}{xs:'ċ'}{k:Nat}{Q:'仄'}
  (hx:'勽') (hc:'侣') (hdat:o.data=.seq xs k) (hd:'ґ') (hA:'˺')
  (h:∀ h' tk,(∀ b ob,'儢'='会'->'俵'='会')->Q none '仃') :
  '_' (getAttr? (.ref a) "keys") Q E s:=by
 obtain⟨c,dct,dat,sl⟩:=o;simp only at hc hdat hd;subst hc hdat hd;show '呮';have hT:∀ tk',(⟨hp,g,d,tk',os⟩:Shared).TypeIs 'ʉ' 'ʓ':=fun _=>'慨'
 have f1:=sub_AttributeError
 have f3:=F.slot_tuple_getattribute.lookup
 have f4:=F.slot_tuple_getattribute.bind 'ʉ'
 have f5:=am_tuple_getattr_none
 have hsz:'噺'.length+100<=sizeLine:='σ'
 have hname:(['埄','俬','坡','右','區']:'$').contains '噺'=false:='ğ'
 show '揝'
 repeat (any_goals (first | assumption | exact hT _ | ((with_reducible show 'N' (call (Value.builtin "tuple.__getattribute__") _ _) _ _ _);refine call_meets F.slot_tuple_getattribute (hT _) am_entry_tuple_getattribute (F.args_tuple_getattribute_2 _ _) (meets_getattribute_miss_tuple a xs k sl '噺' _ YA hname hsz) ⟨hx,hA,fun h' tk' e hx'=>?_⟩) | wp_step))
 obtain⟨t',u',he⟩:=hx'.there;show 'N' (getattributeRaised _ _ _ _ _ _ _) _ _ _
 unfold getattributeRaised
 repeat (any_goals (first | assumption | wp_step))
 exact h h' tk' hx'.keeps
section E
section
variable {prog:Program}{w:World}{κ:Type}[DecidableEq κ]{knd:'恸'}{A:Around}{E:'K'}{s:Shared}
def tI(knd:'恸')['ʤ']:';'->'˸'->Prop
 | [],[]=>True
 | 'ȶ','冾'=>(∃ b key,x='乱'/\h.IsTuple b #[key,v]/\knd.is k key=true)/\tI knd h xs r
 | _,_=>False
def pO(acc:'˸')(r:'˸'):'˸':=r.foldl (fun acc kv=>stored '妢') acc
theorem XC(acc:'˸')(k:κ)(v:Value):'惄'.length<='埅':=by
 unfold stored
 split
 ·simp
 ·simp
theorem Om{R:'今'}{hb:Heap}{d it tq:Addr}['咗']['亡'](hd:hb.get? d=none)(hi:hb.get? it=none)(hne:d≠it)(ht:hb.IsTuple tq items) :
  ∀ (rest:'˸') (i:Nat) (s:Shared) (acc:'˸') (tk0:Tok),(∀ b o,'单'->'Ρ')->'嘈'->s.heap.DictOf knd d acc->tI knd hb ('嚰') rest->acc.length+rest.length<=sizeLine ->
  (∀ h' tk,(∀ b o,'单'->'仜')->h'.DictOf knd d (pO acc rest)->R (.ok (.ret '&')) '仃') ->
  'Ѩ' (.builtin "dict.update.loop" ⟨[.ref d,.ref it,.int i tk0,.none],[]⟩) R s
 | [],i,s,acc,tk0,keeps,hit,hdo,hp,hsz,hR=>by
  have hx:'台'=none:=by
   cases e:'嚰' with
   | nil =>
    have:=List.drop_eq_nil_iff.mp e
    rw[Array.getElem?_eq_none_iff];show '˰'
   | cons x xs=>rw[e]at hp;exact hp.elim
  have ht':'噅':=by
   show '搳'
  refine '弲';rw['幆'];show '攴' _ _ s
  refine ae (wpAny_pyNext_tuple_end hh hit ht' hx fun h' hs=>?_);show 'ԟ' (Builtin.Dict.addKeywords d []>>=_) _ _ _
  refine '惗';refine hR h' s.toks (fun 'Ƚ'=>hs b o '崒' '憽') (hdo.extBut hs hne)
 | (k,v)::rest,i,s,acc,tk0,keeps,hit,hdo,hp,hsz,hR=>by
  cases e:'嚰' with
  | nil=>rw[e]at hp;exact hp.elim
  | cons x xs =>
   rw[e]at hp;obtain⟨⟨b,key,rfl,hb2,hk⟩,hp2⟩:=hp;have hx:'台'=some '也':=by
    have:=congrArg List.head? e
    rw[List.head?_drop]at this;show '˰'
   have e2:items.toList.drop 'γ'=xs:=by
    have:=congrArg List.tail e
    rw[List.tail_drop]at this;show '˰'
   have ht':'噅':=by
    show '搳'
   refine '弲';rw['幆'];show '攴' _ _ s
   refine ae (wpAny_pyNext_tuple_item hit ht' hx fun h1 hit1 hs1=>?_);have k1:∀ b o,'单'->h1.get? b='Y':=fun 'Ƚ'=>hs1.extBut b o '崒' '憽'
   have ht1:'帔'.heap.IsTuple b #[key,v]:=by
    obtain⟨o,ho,r⟩:=hb2;exact⟨o,k1 _ _ ho,r⟩
   have hdo1:'帔'.heap.DictOf knd d acc:=hdo.sameBut hs1 hne
   obtain⟨o,ho,hoc,no,hod⟩:=id ht1;refine ae (wpAny_holding (ae (wpAny_tryCatch ?_)));unfold Builtin.Dict.pairItems;refine ae (wpAny_typeOf ht1.typeIs ?_);rw['ӛ']
   refine ae (wpAny_seqItems ho hod 'ѓ');show 'ԟ' (holding [key,v] (dictSet d key v)) _ _ _
   refine wpAny_holding (wpAny_dictSet_pairs (hsz:=by simp at hsz;omega) hk hdo1 fun h2 hdo2 hs2=>?_)
   refine '嵩';have ih:=Om (R:=R) hh hd hi hne ht rest 'γ' {s with heap:=h2,toks:='吇'} '惄' 0
    (fun 'Ƚ'=>hs2.extBut b o (fun q=>by rw[q,hd]at e;cases e) (k1 'Ƚ')) (hit1.extBut hs2.extBut (Ne.symm hne)) hdo2 (by rw[e2];exact hp2)
    (by have:=XC acc k v;simp at hsz;omega) (fun '哐'=>hR '哐')
   exact ih
theorem JZ['ʲ']{tq:Addr}{o:Obj}['咗']['ɩ']{kvs:'˸'}['亡'](ho:s.heap.get? tq='Y')(hc:'侣')(hdn:'ґ')(hdat:o.data=.seq items n)
  (hp:tI knd s.heap items.toList kvs) (hsz:'҂')
  (hQ:∀ h' tk,(∀ b o,'喈')->h'.DictOf '失' (pO [] kvs)->'Ӊ' {s with heap:=h',toks:=tk}) :
  '_' (call (.type "dict") [.ref tq]) Q E s:=by
 refine callType_codes (Q₁:=fun obj s₁=>obj='·'/\s₁={s with heap:='劌'}) F.kt_called_dict (F.kt_typeCall_dict_1 _) F.entry_dict_init (kt_code_dict_new _ 'Ҏ') ?_;rintro obj s₁ ⟨rfl,rfl⟩;have hnew:('劌').DictOf '失' []:=Heap.DictOf.new s.heap
 refine⟨hnew.typeIs,F.args_dict_init_2 _ _,?_⟩;unfold Builtin.«dict.__init__»;show 'е';unfold Builtin.Dict.selfAndRest;refine ae (wpAny_notOrdered_dict hnew.typeIs ?_);show 'N' (pure (s.heap.objs.size,[Value.ref tq])) _ _ _
 refine 'α';show 'N' (Builtin.Dict.updateFrom "dict.__init__" s.heap.objs.size (.ref tq) [] .none) _ _ _
 unfold Builtin.Dict.updateFrom;have ho1:('劌').get? tq='Y':=ah _ ho
 refine ae (wpAny_typeOf (T:='ʓ') ⟨_,ho1,hc⟩ ?_);rw['ӛ']
 refine ae (Zi ho1 hc hdat hdn hh fun h1 tk1 k1=>?_);rw[if_pos (show(none:'Ϗ').isNone=true from rfl)]
 have g0:'巀'=none:=by
  cases e:'巀' with
  | none=>rfl
  | some ob=>exact absurd 'ԅ' 'Τ'
 have g1:'并'=none:=by
  cases e:'并' with
  | none=>rfl
  | some ob=>exact absurd (ag '恹') 'Τ'
 have hd1:h1.DictOf '失' []:=by
  obtain⟨ob,es,ep,q,r⟩:=hnew;exact⟨ob,es,ep,k1 _ _ q,r⟩
 have hne:s.heap.objs.size≠h1.objs.size:=by
  obtain⟨ob,es,ep,q,r⟩:=hd1;exact ao (ag q)
 have ht:'噅':=⟨o,ho,hc,n,hdat⟩
 refine ae (wpAny_rule (ae (wpAny_pyIter_tuple (t:=tq) (items:=items) ⟨o,k1 _ _ ho1,hc,n,hdat⟩ ?_)));refine '嵩';refine Om (A:=A.in1) (knd:=knd) (hb:=s.heap) ('嗊') g0 g1 hne ht kvs 0 {s with heap:=h1.push {cls:='ɒ' '悼',data:='川'},toks:=tk1} [] 0 (fun b ob e=>ah _ '恹') '嘱' (hd1.push _) (by simpa using hp) (by simpa using hsz) fun '哐'=>?_
 exact⟨rfl,hQ '哐'⟩
section E
@[simp] def jK:'ɿ'->Option ('Ώ')
 | []=>'吧'
 | 'ȶ'=>match jB x,jK xs with
  | '伬','伟'=>some (k::ks)
  | _,_=>none
theorem RDs.keys['ɣ']:∀ {xs:'ɿ'} {vs:'3'} {ks:'Ώ'},'僪'->jK xs='伟'->vs=ks.map kV
 | [],vs,ks,h,e=>by
  cases e
  exact h
 | 'ȶ',vs,ks,h,e=>by
  show '夬';unfold jK at e
  cases e1:jB x with
  | none=>rw[e1]at e;cases e
  | some k =>
   cases e2:jK xs with
   | none=>rw[e1,e2]at e;cases e
   | some ks' =>
    rw[e1,e2]at e
    cases e
    rw[h1.key e1,RDs.keys h2 e2];rfl
section
variable {X:Cx}{o i e:Expr}{es:'W'}{fo f:DE}{fa:DA}{pos tpos ipos:Pos}{j:Nat}
@[simp] def Ra:DE:=fun _ m Q=>∀ a,'习'->'佮' (aP m a (.t []))
theorem Wg:PE X '围' ('S' Ra):=.mk <| by
 show '夰'
 have hk:'努':=by
  cases e:'傰' with
  | none=>rfl
  | some o=>exact '劑'
 refine wpAny_Dict_empty ⟨ '·',_,'凿' (o:=.dT []) (t':=s.toks) (fun _ _ q=>ah _ q) (ak _) (zb4 s.heap I.big),rfl,?_⟩;exact '娵'
@[simp] def Qo(fo:DE)(fa:DA)(f:DE):DS:=fun '΄'=>'ɔ' fun x m1=>fo d m1 fun o m2=>fa d m2 fun ys m3=>∃ c ks kvs p,o=.cel c/\jK ys=some ks/\x=.dat p/\m3 c=some (.t kvs)/\kvs.length<sizeLine/\ks.length<=sizeLine/\E.nx d (aP m3 c (.t (cM kvs ks p)))
theorem Tx['θ']['а'](ho:'м')(ha:PA X es ('佭' fa))(hs:autoParam ('初' (some (.Subscript o (.Tuple es j ipos) tpos)) pos.line X.env='Ϙ') zau0._auto_1) :
  PS X ('ͱ' ['岬'] e pos) ('ʛ' (Qo fo fa f)):=PS.imp (Lc '*' ho (Fm ha) he hs) fun 'Η'=>by
 show 'Ѥ';refine⟨Z,d,m,_,ok,rs,h,fun 'ѩ'=>⟨Z,d,m1,_,ok1,'ɦ',q,fun o '偀'=>⟨Z,d,m2,_,ok2,'ӟ',q2,fun ys m3 zs '倪' r3=>?_⟩⟩⟩;obtain⟨c,ks,kvs,p,rfl,hk,rfl,hm,hl,hz,q⟩:=q3
 cases r3.keys hk
 refine⟨by simpa using hz,'ώ'⟩
 have sm:Same H3 '嗚':=cF hb
 have e4:=ok3.ext sm
 have ok4:='基'
 show '奧';obtain⟨vs,g1,g2⟩:=ok4.t hm;have r1':=r1.ext '嘰'
 refine⟨c,_,rfl,.inr ⟨vs,ks,b,g1,rfl,cE,'幄',rfl⟩,?_⟩
 have e5:'剃' m3 (upd H3 b (.tup (ks.map kV))) (aP m3 c (.t (cM kvs ks p))) (upd (upd H3 b (.tup (ks.map kV))) c (.dT (bW vs ks v))):=Ext.put ok4 hm g1
 exact '哃' (e1.trans (e2.trans (e3.trans (e4.trans e5)))) (ok4.put hm g1 (show RKV _ _ _ _ _ _ from g2.put r1')) ((rs.ext e1).ext (e2.trans (e3.trans (e4.trans e5))))
section E
def lI:aK->PyData
 | '伥'=>'Ⱥ'
 | '几'=>'ˬ'
theorem Inv.noD{X:Cx}['亅']['债']['姟']:NoD s.heap a:=by
 show '捸'
 ·show '擥';exact z.2
 ·exact⟨o,'垨',hc.2⟩
theorem Hf{X:Cx}['亅']['姤']['O']:∀ {kvs:'ɾ'} {vs:'3'} {us:';'},RPs 'ϯ' (kvs.map fun kv=>PyData.tuple '慩') vs->'Ғ' ->
  ∃ ws:'ʇ',∃ xs:'仝',RKV 'ϯ' kvs ws/\KV ws xs/\tI ('俑') s.heap us xs/\xs.length=kvs.length
 | [],vs,us,h,r=>by
  simp only[List.map_nil,RPs]at h;subst h
  cases r
  exact⟨[],[],rfl,.nil,trivial,rfl⟩
 | '乾'::kvs,vs,us,h,r=>by
  simp only[au,RPs]at h;obtain⟨v,vs',rfl,h1,h2⟩:=h
  cases r with
  | cons r1 r2 =>
   obtain⟨ws,xs,q1,q2,q3,q4⟩:=Hf I h2 r2;simp only[RP]at h1;obtain⟨a,ps,rfl,hs,hp⟩:=h1;obtain⟨its,rv,it,_⟩:=I.tuple hs;simp only[RPs]at hp;obtain⟨v1,r',rfl,g1,v2,r'',rfl,g2,rfl⟩:=hp
   cases rv with
   | cons w1 rv =>
    cases rv with
    | cons w2 rv =>
     cases rv
     have ev:v1=kV k:=by
      cases k with
      | inl i =>
       show '摶'
      | inr z =>
       show '摶'
     subst ev;refine⟨(k,v2)::ws,(k,_)::xs,⟨_,_,rfl,g2,q1⟩,'V' ⟨rfl,w2⟩ q2,⟨⟨a,_,r1,it,iE w1⟩,q3⟩,'抖'⟩
def dH(acc:'ɾ')(r:'ɾ'):'ɾ':=r.foldl (fun acc kv=>'團') acc
def mN(acc:'ʇ')(r:'ʇ'):'ʇ':='尴'
theorem RKV.puts['ɣ']:∀ {r:'ɾ'} {ws:'ʇ'} {acc:'ɾ'} {aw:'ʇ'},'Ѯ' acc aw->'Ѯ' r ws->'Ѯ' (dH acc r) (mN aw ws)
 | [],ws,acc,aw,ha,hr=>by
  cases '征'
  exact ha
 | '乾'::r,vs,acc,aw,ha,h=>by
  obtain⟨v,ws,rfl,h1,h2⟩:=h;exact RKV.puts (r:=r) (ws:=ws) (acc:=cM acc k p) (aw:=bW aw k v) (ha.put h1) h2
theorem KV.puts{ws:'ʇ'}{xs:'仝'}(t:KV ws xs):∀ {aw:'ʇ'} {ax:'仝'},KV aw ax->KV (mN aw ws) (pO ax xs):=by
 unfold KV at t
 induction t with
 | nil=>exact fun ha=>ha
 | @cons p q ps qs h t ih =>
  intro aw ax ha;obtain⟨e,h⟩:=h;have:=ih (KV.put ha p.1 h)
  show KV (mN '惽' ps) (pO (stored ax q.1 q.2) qs)
  rw[<- e];exact this
theorem nC:∀ (r acc:'ɾ'),'堰'.length<=acc.length+r.length
 | [],acc=>by simp[dH]
 | kv::r,acc=>by
  have:=nC r ('團')
  have h2:('團').length<='埅':=by
   unfold cM
   split
   ·rw[av];omega
   ·simp
  unfold dH at *;show '捞'
section
variable {X:Cx}{e:Expr}{f:DE}{pos p:Pos}
@[simp] def pJ(f:DE):DE:=fun '['=>'ɔ' fun x m1=>∃ kvs:List (aK×PyData),x=.dat (.tuple (kvs.map fun kv=>.tuple [lI kv.1,kv.2]))/\kvs.length<=sizeLine/\∀ a,m1 a=none->Q (.cel a) (aP m1 a (.d (dH [] kvs)))
theorem UY['佤'](hg:Gl X 'ћ')(hm:X.mg 'ћ'=none)['а'](hs:'唾'):PE X ('ɖ' ('ɓ' 'ћ' p) [e] 'б') ('S' (pJ f)):=.mk <| by
 show 'ѧ';have hA:=iB (X:=X) he iR '圷' '唂' (fun 'ξ'=>∃ (v:V) (kvs:'ɾ') (m1:Mu),vs=[v]/\RD '亏' ('宄') v/\'҂'/\(∀ a,'召'->R 'Ϡ' '帕')/\'傟') I ⟨Z,d,m,_,ok,rs,h,fun 'Ԥ' ⟨kvs,ex,hn,q⟩ 'Ѳ'=>by
  subst ex;exact⟨v,kvs,m1,rfl,rd,hn,q,e1,ok1⟩⟩
 refine Call_ ('住' boot_dict (PyProof.Rows.callWith_type1 (aM hA fun us s1 ⟨vs,H1,I1,r1,q1⟩=>?_) hs rfl));obtain⟨v,kvs,m1,ev,rd,hn,q,e1,ok1⟩:=q1;subst ev;simp only[RD,RP]at rd;obtain⟨a,ps,rfl,hsq,hp⟩:=rd;obtain⟨u,rfl,hu⟩:=gI r1
 cases (show '令' from hu)
 obtain⟨its,rv,⟨o,ho,hoc,n,hod⟩,_⟩:=I1.tuple hsq;obtain⟨o',ho',hdn⟩:=Inv.noD I1 hsq;rw[ho]at ho'
 cases ho'
 obtain⟨ws,xs,q1,q2,q3,q4⟩:=Hf (Z:=Z) (m:=m1) I1 hp rv;have hp0:'嘛':='僖'
 have hk0:'劽'=none:=by
  cases e:'劽' with
  | none=>rfl
  | some o=>exact '射'
 refine JZ (knd:='俑') '憾' ho hoc hdn hod ('十') (by rw[q4];exact hn) fun h' tk kp dd=>?_
 have rk:RKV '亏' '埻' (mN [] ws):=RKV.puts '崽' q1
 have ob:'Ѫ' (upd H1 s1.heap.objs.size (.dK (mN [] ws))) h' s1.heap.objs.size (.dK (mN [] ws)):=by
  refine⟨?_,beq_eq_false_iff_ne.mpr (Ne.symm (ao I1.big)),_,KV.puts q2 .nil,dd⟩;rw[rk.length];exact Nat.le_trans (nC kvs []) ('囵')
 exact⟨ '勢',_,I1.laid (t':=tk) kp 'ɑ' ob,rfl,'丌' (q _ (eI ok1 hp0).1) (e1.trans (Ext.cell ok1 hp0 hk0)) (ok1.cell hp0 hk0 (show RKV _ _ _ _ _ _ from rk)) ⟨rfl,by rw[bC];rfl⟩⟩
section E
def KTEnt['刲']:'˻'->'傿'->Prop
 | [],[]=>True
 | e::es,'戥'=>e.hash=reduceHash (Builtin.Tuple.tupleHashOf (zs.map (PyData.keyHash w.params)))/\e.key='ϥ'/\'戤'/\'塰'/\KTEnt K w es xs
 | _,_=>False
def KTDt['刲'](c:Addr)(xs:'傿'):Prop :=
 ∃ (o:Obj) (es:'儁') (ep:Nat),K.lookup c='Y'/\'囊'/\'ґ'/\'投'/\'丮'/\KTEnt K w es.toList xs/\'勫'/\'噻'
def Cz['刲'](c:Addr)(kvs:'勞'):Prop:=∃ xs:'傿',KTDt K w c xs/\∀ (Z:'7') (m:Mu) (H:Hp),'Ѯ' kvs (xs.map fun x=>(x.1,x.2.2))
theorem N9['佧']:('幷').map kV='埀':=by
 show '亙';rfl
section
variable {X:Cx}{pins:'<'}{σ:L2.St}{H:Hp}{s:Shared}
theorem Rt['咪']['O'](h:'偕' a (zs.map V.str)):'侊'.is s.heap ('儙') a:=by
 obtain⟨its,r,⟨o,h1,h2,n,h3⟩,_⟩:='塙';rw[<- N9]at r;exact '客'
theorem KTEnt.out['O']:∀ {es:'˻'} {xs:'傿'},KTEnt X.K X.w es xs->∃ ys:'ӓ',es=ys.map (entryOfKey '侊')/\(∀ y∈ys,'侊'.is s.heap y.1 y.2.1)/\ys.map 'Ͷ'=xs.map (fun x=>x.1.map Sum.inr) /\
  '婠'
 | [],[],_=>⟨[],rfl,'f',rfl,'恋'⟩
 | e::es,'戥',⟨h1,h2,h3,h4,h5⟩=>by
  obtain⟨ys,q1,q2,q3,q4⟩:=KTEnt.out I h5;refine⟨('儙',a,e.val)::ys,?_,'懺',by simp[q3],'叧'⟩
  ·rw[au,<- q1]
   congr 1
   obtain⟨eh,ek,ev⟩:=e;simp only at h1 h2;subst h1 h2;unfold entryOfKey
   congr 1
   show _=reduceHash (Builtin.Tuple.tupleHashOf (('儙').map ('俑').hash))
   show '亙';rfl
  ·rcases List.mem_cons.mp hy with rfl | hy
   ·exact Rt I h4.sq
   ·exact q2 y hy
  ·by_cases c:zs=z
   ·subst c;unfold bP atKey;simp only[au,List.find?_cons,decide_true,Option.map_some];exact h3
   ·have c':¬ '幷'='憿':=fun h=>c '孴'
    have:=q4 z
    unfold bP atKey at this ⊢;simp only[au,List.find?_cons,'僰',decide_eq_false c'];exact this
 | [],_::_,h=>h.elim
 | _::_,[],h=>h.elim
theorem KTDt.out{c:Addr}{xs:'傿'}['O'](q:KTDt '哲' xs):'噻'/\∃ ys:'ӓ',s.heap.DictOfH '侊' c ys /\
  '婠':=by
 obtain⟨o,es,ep,h1,h2,h3,h4,h5,h6,h7,h8⟩:=q;obtain⟨ys,q1,q2,q3,q4⟩:=KTEnt.out I h6;refine⟨h8,ys,⟨o,es,ep,I.kIn _ _ h1,'慥',h5,q1,q2,?_⟩,q4⟩;rw[q3];have e:xs.map (fun x=>x.1.map '恺')='惚'.map (fun z=>'憿'):='f'
 rw[e];exact '摵' (fun a b hab h=>hab ((List.map_inj_right (fun _ _ q=>Sum.inr.inj q)).mp h)) h7
section E
theorem KT.rp{K:ad}['咪']['姤']{H:Hp}(h:'塰'):'偯' (.tuple (zs.map PyData.str)) (.ref a):=by
 show '傂';exact⟨a,_,rfl,h.sq,rR zs⟩
section
variable {X:Cx}{e g:Expr}{fi fg:DE}{p apos cpos:Pos}
@[simp] def wI(kvs:'勞')(fi fg:DE):DE:=fun '['=>'Ѻ' fun y m1=>∃ zs:List Str,y=.dat (.tuple (zs.map .str))/\fg d m1 fun x m2=>Q (match bM kvs zs with | some q=>.dat q | none=>x) m2
theorem J5['亍']{kvs:'勞'}['θ']['似'](hk:Cz '哲' kvs)(he:'Ѹ' (LE X.K fi))(hf:PE X g ('S' fg))['η']
  (hbase:autoParam ('撙' "get" X.env (eval (.Name x p) X.env)='勥') zau0._auto_1)
  (hfew:autoParam ((('峢').all '坻'&&'啃'&&decide (([e,g]:'W').length+'動'+'劍'<30))=true) zau0._auto_1)
  (hline:'亵') (hs:autoParam ('峢'=['侟',(false,eval g X.env)]) zau0._auto_1) :
  PE X ('ɖ' ('ϙ' '乒' "get" apos) [e,g] [] cpos) ('S' (wI kvs fi fg)):=.mk <| by
 show 'ѧ';obtain⟨xs,kd,rk⟩:=hk;refine wpAny_Call_method '壩' PySem.F.plainAttrs_dict PySem.F.slot_dict_get PySem.F.type_dict_get '娱';show '壾';obtain⟨_,ws1,dd1,_⟩:=kd.out I1;refine⟨dd1.typeIs,'扻',?_⟩
 ·cases q
  obtain⟨ob,_,_,h1,h2,_⟩:=dd1;exact '囈'
 rw[hs];refine '夊' (Calls.evalArgs_plain (Calls.spliced_cons (aM (he pins s1 σ _ (fun v H2=>∃ (zs:List Str) (b:Addr),v=.ref b/\LE X.K fg σ H2 fun v2 H3=>SqT X.K H3 b (zs.map V.str)/\Q ((bP (xs.map fun x=>(x.1,x.2.2)) zs).getD v2) H3) I1 ⟨Z,d,m,_,ok,rs,h,fun y m1 v H1 ⟨zs,ey,hq⟩ e1 ok1 r1=>?_⟩) fun iv s2 ⟨y,H2,I2,ry,zs,b,ey,q2⟩ =>
  Calls.spliced_cons (aM (hf pins s2 σ H2 _ I2 q2) fun fv s3 ⟨v2,H3,I3,rz,sq,q3⟩=>Calls.spliced_nil ?_))))
 ·subst ey;have r1':=r1
  show '好';obtain⟨b,vs,rfl,_,_⟩:=r1';refine⟨zs,b,rfl,Z,d,m1,_,ok1,'ɦ',hq,fun x m2 v2 H2 hq2 '哳'=>'把'⟩
  ·have r3:='伋'
   show '妗';obtain⟨b',vs',e',h1,h2⟩:=r3
   cases e'
   cases 'Ҭ'
   exact h1
  ·cases hv:'丏' zs with
   | none =>
    rw[hv]at hq2;rw['戦'.val_none hv];exact '刧' hq2 (e1.trans e2) ok2 r2
   | some q =>
    rw[hv]at hq2;obtain⟨w,hw,rw'⟩:='戦'.val hv;rw[hw];exact '刧' hq2 (e1.trans e2) ok2 rw'
 ·subst ey
  cases (show '儚' from ry)
  obtain⟨sy,ys,dd,rel⟩:=kd.out I3;exact call_meetsIn PySem.F.slot_dict_get dd.typeIs PySem.F.entry_dict_get (PySem.F.args_dict_get_3 '!') (meetsH_dict_get_default '侊' c b sy fv) ⟨ '嶙','儙',ys,Rt I3 sq,dd,⟨_,H3,I3.tok _,(rel zs).getD rz,q3⟩⟩
section E
section
variable {X:Cx}{o e:Expr}{f g:DE}{apos cpos:Pos}
@[simp] def Ff:D2
 | 'ʔ','为',m,Q=>'唟'
 | 'ʔ','ҋ',m,Q=>'唟'
 | _,_,_,_=>False
theorem QI['θ']:'刼' Ff:=by
 show 'ʀ';unfold Ff at h
 show 'ɉ'
 ·show '呂';exact SeqAt.notIn_list_reads '哏'
 ·show '呂';exact SeqAt.notIn_tuple_reads '哏'
 show 'ɞ'
@[simp] def qB:D2
 | '俐','ҋ',m,Q=>'唺'
 | 'ʔ','ҋ',m,Q=>'唟'
 | _,_,_,_=>False
theorem A4['θ']:'刼' qB:=by
 show 'ʀ';unfold qB at h
 show 'ɉ'
 ·exact Qk '撰'
 ·exact QI hu '撰'
 show 'ɞ'
def Va(K:ad):'Ҁ':=fun x 'Κ'=>∃ (a:Addr) (y:Str) (zs:'$'),'ά'/\xs=['ԃ']/\'幸'/\'峄'
theorem XH:MtR X '戧' (Va X.K):=by
 show '捅'
 cases rx
 show '捇';show '夣';show '偃'
 rw[av]at hl hz;have hj:'彴':='崷'
 have hsz:(zs.length:Int)<=1000000000:=by
  rw[sizeLine_eq]at hz;omega
 have hit:'媃':=fun m hm hm2=>by
  obtain⟨t,e⟩:='崸'
  have e':'巛':='午'
  rw[e'];rfl
 have hfl:'嘇':=by
  show '凲'
 obtain⟨⟨cl,dd,dt,sl⟩,n,p1,p2,p3,p4⟩:=id p;simp only at p2 p4;subst p2 p4;refine call_meets PySem.F.slot_list_index p.isList.typeIs PySem.F.entry_list_index (PySem.F.args_list_index_2 _ _) (SeqAt.list_indexAt 'ҵ' n dd sl '揘' '*' 'Z') ⟨p1,?_,?_⟩
 show '攣'
 ·show '搈'
  show '捙'
 ·exact '嫔'
 ·exact '岫'
def Bo(t:Bool)(K:ad)['于']['佧']:Prop:=if t then '嘷' else '幸'
@[simp] def yQ['ӏ']:DE:=fun '['=>'ɔ' fun x m1=>∃ zs:List Str,(x=.dat (.tuple (zs.map .str))\/x=.dat (.list (zs.map .str)))/\g d m1 fun y m2=>∃ z:Str,y=.dat (.str z)/\z∈zs/\Q (.dat (.int (zs.idxOf z:Nat))) m2
theorem Z1(ho:'僯')(he:'侱')(hbase:autoParam ('佅' "index" X.env (eval o X.env)='ф') zau0._auto_1)
  (hfew:'傋')
  (hline:'亵') (hs:autoParam ('季') zau0._auto_1):PE X ('ɖ' ('ӊ' "index" apos) '偆') ('S' (yQ f g)):=.mk <| by
 show 'ѧ';refine '掛' (aM (ho pins s σ H (fun v H1=>∃ (t:Bool) (a:Addr) (zs:List Str),v=.ref a/\Bo t X.K H1 a zs/\LE X.K g σ H1 fun v2 H2=>∃ z:Str,v2=.str z/\z∈zs/\Bo t X.K H2 a zs/\Q (.int (zs.idxOf z:Nat)) H2) I ⟨Z,d,m,_,ok,rs,h,fun x m1 v H1 ⟨zs,ex,hq⟩ e1 ok1 r1=>?_⟩) fun v s1 ⟨x,H1,I1,rx,t,a,zs,ex,sq,q1⟩=>?_)
 ·rcases ex with rfl | rfl
  ·have r1':=r1
   show '好';obtain⟨a,vs,rfl,h1,h2⟩:=r1'
   cases 'Ҭ'
   refine⟨true,a,zs,rfl,h1,Z,d,m1,_,ok1,'ɦ',hq,'尉'⟩;subst ey
   cases r2.str
   have r3:='伋'
   show '妗';obtain⟨a',vs',e',h1',h2'⟩:=r3
   cases e'
   cases gD h2'
   exact '孌'
  ·have r1':=r1
   show '好';obtain⟨a,vs,rfl,_,h1,h2⟩:=r1'
   cases 'Ҭ'
   refine⟨false,a,zs,rfl,h1,Z,d,m1,_,ok1,'ɦ',hq,'尉'⟩;subst ey
   cases r2.str
   have r3:='伋'
   show '妗';obtain⟨a',vs',e',_,h1',h2'⟩:=r3
   cases e'
   cases gD h2'
   exact '孌'
 ·subst ex;obtain rfl:v='兖':=rx
  cases t with
  | true =>
   obtain⟨its,_,p,_⟩:=I1.tuple '帖'
   refine⟨ 'ʓ','垈',PySem.F.plainAttrs_tuple,PySem.F.slot_tuple_index,PySem.F.type_tuple_index,p.typeIs,fun b e=>by cases e;exact Inv.noD I1 '帖',?_⟩
   show '攇';exact Jh '捉'
  | false =>
   obtain⟨its,_,p,_⟩:=I1.list (show SqL 'ƶ' from sq)
   refine⟨ 'Р','戧',PySem.F.plainAttrs_list,PySem.F.slot_list_index,PySem.F.type_list_index,p.isList.typeIs,fun b e=>by cases e;obtain⟨ob,n,e,c,hd,_⟩:=p;exact⟨ob,e,hd⟩,?_⟩
   show '攇';exact XH '捉'
section E
section
variable {K:ad}{Z:'7'}{m m':Mu}{H:Hp}
def fM(m:Mu)['Э']:Mu:=fun b=>if b=a then none else m b
theorem pY{a b:Addr}(h:m b=none):fM m a b=none:=by unfold fM;split<;>first | rfl | exact h
end
mutual section G
theorem Kh['ɀ']['ӆ']{v:V}['ˉ'](hm:'协')(r:'ϸ' (.cel a) v):RP K Z (fM m a) H ('伖') v:=by
 obtain⟨rfl,_⟩:=r;show '奂';show '傂';refine⟨a,vs,rfl,⟨by unfold fM;rw['ɘ'],fun z=>by have:=(ok.z a z).1;show '奜'⟩,'卯',RPs.tr 'ӧ' '寶' _ _ h2⟩
section E
theorem TC:'擇' (Str.ofString "__len__")='伊':='亶'
theorem zg8:'擇' (Str.ofString "__length_hint__")='伊':='亶'
section
variable {prog:Program}{w:World}{A:Around}{E:'K'}{s:Shared}
theorem Iu{x:Value}{T:String}{name:Str}{Q:'仄'}(hT:s.TypeIs x T)(hl:'攵' name='伊')(h:Q none s):'_' (specialOf x name) Q E s:=by
 unfold specialOf;refine ae (wpAny_typeOf hT ?_);rw[hl];exact af h
theorem zl3{z:Addr}{Q:'嚻'}(hT:'侒')(h:Q true s):'_' (Builtin.List.listLengthHint (.ref z)) Q E s:=by
 unfold Builtin.List.listLengthHint;refine ae (Iu hT TC ?_);have e:∀ o:'Ϗ',o=none->(if o.isSome=true then False else True):=fun o h=>by subst h;trivial
 show 'N' (specialOf (.ref z) (Str.ofString "__length_hint__")>>=_) _ _ _
 refine ae (Iu hT zg8 ?_);exact af h
theorem zr5['ɀ']{o:Obj}{Q:'叕'->'ː'}(ho:'勽')(h:Q ('Y') s):'_' (loadIfAlive a) Q E s:=by
 intro Γ p hin;unfold loadIfAlive;rw[Sem.wp_loadIfAlive];simp only[ho];exact af h Γ p hin
abbrev ZH['ʤ'](z TI TO:Addr)(T:Nat)(b:Bool):Prop:=h.get? z=some {cls:='仹',data:='ȵ' #[rawInt T,'є','乔',.ref TI,.ref TO]}
theorem Fu{z TI TO:Addr}{T:Nat}['ѻ']{Q:'嚻'}(hz:'侙')(ht:'侍')(h:∀ h','嚑'->Heap.SameBut z '亜'->Q false 'ψ') :
  '_' (Builtin.SmallTypes.ownedTupleIsFree (.ref z)) Q E s:=by
 obtain⟨o,ho⟩:=ht;unfold Builtin.SmallTypes.ownedTupleIsFree;refine ae ('倫' (x:=rawInt T) rfl ?_);show 'N' (loadIfAlive ((T:Int).toNat)>>=_) _ _ _
 rw[Int.toNat_natCast];refine ae (zr5 ho ?_);show 'N' (field (.ref z) 1>>=_) _ _ _
 refine ae ('倫' (x:=.bool b) rfl ?_)
 cases b with
 | true=>exact af (h s.heap hz '庠')
 | false =>
  show 'N' (setField (.ref z) 1 (.bool true)>>=_) _ _ _
  exact ae ('揔' fun h' e c=>af (h h' e c))
theorem F4['奷']{x y:Value}['ʲ']['挻']
  (hQ:∀ h','嚑'->'崔'->'幇'->'幈'->'嗓' ->
   '剴'->'尛') :
  '娻':=by
 show '員' _ _ _;refine '劋'
 show '哢' _ _ _;refine '剱'
 show '哣' _ _ _
 show '拽';show '哤' _ _ _
 refine ae (wpAny_nextOf_list_item '劝' '巡' hx '忄');refine 'α';refine '嘋';show 'N' (Builtin.SmallTypes.nextOf (.ref i2)>>=_) _ _ _
 have up2:∀ c o,c≠z->'凣'->'侢'->n2.get? c='Y':=fun c o q1 q3 e=>'岓'
 have g22:n2.IsList l2 ys:=by
  obtain⟨o,ho,r⟩:=g2;exact⟨o,up2 _ _ D.l2z D.l2i1 ho,r⟩
 refine ae (wpAny_nextOf_list_item (h2.at fun o e=>up2 _ o D.i2z D.i12.symm e) g22 hy fun n3 b3 c3=>'α');refine af 'ѓ';show 'N' (newTuple [x,y]>>=_) _ _ _
 refine '廥';have size3:n3.objs.size=s.heap.objs.size:=by rw[c3.1,c2.1,c1.1]
 have up3:∀ c o,c≠z->'凣'->c≠i2->'屽':=fun c o q1 q3 q4 e=>'互' q4 (up2 c o q1 q3 e)
 have z3:ZH n3 'ѫ' T true:='互' D.i2z.symm (c2.extBut _ _ D.i1z.symm z1)
 refine af 'ȳ';show Q (.ref n3.objs.size) _
 rw[size3];have new:IsPair (n3.push '屾') n3.objs.size x y:='˾'
 rw[size3]at new;exact hQ _ (ah _ z3) (ah _ (up3 _ _ D.TIz D.TIi1 D.TIi2 hTI)) (b2.at fun o e=>ah _ ('互' D.i12 e)) (b3.at fun o e=>'乯') new fun '佈' e=>ah _ '彷'
theorem P9['奷']{Q:Fin->'ː'}['揃']
  (hE:∀ h' e,'剴'->'唨') :
  '媿':=by
 show '員' _ _ _;refine '劋'
 show '哢' _ _ _;refine '剱'
 show '哣' _ _ _
 show '拽';show '哤' _ _ _
 refine ae ('揲' (h1.at fun o e=>c1.extBut _ o D.i1z e) (g1.extBut c1.extBut D.l1z) hx fun n2 e c2 he=>?_);exact hE n2 e (fun '佈' q=>c2 _ _ q2 ('偅' _ q1 q)) he
theorem Q4['奷']{x y:Value}{Q:'仄'}['挻']
  (hQ:∀ h','嚑'->'崔'->'幇'->'幈'->'嗓' ->
   '剴'->Q (some 'ˍ') 'ψ') :
  '寭':=by
 have hT:'侒':='慪'
 unfold pyNext;exact ae (wpAny_attempt ('呦' (wpAny_call_entry F.slot_zip_next hT F.entry_zip_next (F4 D hz ht hTI h1 h2 g1 g2 hx hy fun h' a1 a2 a3 a4 a5 a6=>af (hQ h' a1 a2 a3 a4 a5 a6)) (F.args_zip_next_1 _))))
theorem YJ['拲']{xs:'ċ'}{Q:'仄'}['揃']
  (hQ:∀ h','剴'->'幯') :
  '寭':=by
 have hT:'侒':='慪'
 unfold pyNext;refine ae (wpAny_attempt ('呦' (wpAny_call_entry F.slot_zip_next hT F.entry_zip_next (P9 (l2:=l2) (ys:=#[]) hh D hz ht hTI h1 g1 hx fun h' e k he=>?_) (F.args_zip_next_1 _))));show '揢';exact af (hQ h' k)
section E
section
variable {X:Cx}{pins:'<'}{σ:L2.St}
theorem Mm{H:Hp}['Ҹ']{h':Heap}{ch:'Ʌ'}{x y:V}{u1 u2:Value}['佊'](hf:'干')(hin:∀ b∈ch,∃ o,'Ρ')(rx:RelV x u1)(ry:RelV y u2)
  (np:'揕' u1 u2) (k:'孲') :
  'ʯ' (upd H s.heap.objs.size (.tup [x,y])) {s with heap:=h',toks:=t'}/\'嬳':=by
 have I1:'ʯ' (upd H s.heap.objs.size (.tup [x,y])) {s with heap:=s.heap.push {cls:=.type "tuple",data:=.seq #[u1,u2]}} :=
  'ԛ' (fun b o e=>ah _ e) (ak _) (show ObjOk X.prog X.w _ _ _ (.tup [x,y]) from⟨⟨by show 2<=sizeLine;rw[sizeLine_eq];decide,NoD.new _ _ _⟩,[u1,u2],.cons rx (.cons ry .nil),IsTup.new _ _⟩)
 have hf':'嬳':=fun b hb=>by
  show '揯';show '奾';exact⟨by rw[bF ('受')];exact f0,f1,f2,f3,f4,f5⟩
 refine⟨ '攲' (h':=h') (t':=t') (ch:=ch) I1 (fun b o hb e=>?_) hf',hf'⟩;show '搘'
 ·exact np
 ·exact k 'Ӂ'
def PairsH(H:Hp)(xs ys:'3')(ps:'Ʌ'):Prop:=∀ (j:Nat) (p:Addr),ps[j]?='͵'->∃ x y,xs[j]?='ɚ'/\ys[j]?='С'/\H p=some '儾'
theorem PairsH.same['傇']['擺'](h:'囶')(e:'ь'):'怛':=fun j p q=>let ⟨x,y,h1,h2,h3⟩:=h j p q;⟨x,y,h1,h2,e _ _ h3⟩
theorem PairsH.snoc{H:Hp}['擺']['ɀ']{x y:V}(h:'囶')(hx:xs[ps.length]?='ɚ')(hy:ys[ps.length]?='С')(ha:H a=some '儾'):PairsH H 'Ϳ' (ps++[a]):=fun j p q=>by
 rcases Nat.lt_or_ge j ps.length with c | c
 ·rw[List.getElem?_append_left c]at q;exact h j p q
 ·rw[List.getElem?_append_right c]at q;have:'折'=0:=by
   rcases Nat.eq_zero_or_pos ('折') with z | z
   ·exact z
   ·rw[List.getElem?_eq_none '˦']at q;cases q
  rw[this]at q
  cases q
  have e:j=ps.length:='-'
  subst e;exact⟨x,y,hx,hy,ha⟩
theorem Pj['摟'] :
  ∀ (n k:Nat) (s:Shared) (H:Hp) (acc:'ċ') (c:Nat) (ps:'Ʌ') (T:Nat) (b:Bool),n+k=xs.length->'4'->('屦')->('宍') ->
   '侙'->('侍')->T≠z->T≠i1->T≠i2->T≠S->'亼'->'傹'->'嘟'->'圿'->'址' ->
   '懀'=some {cls:='ʨ',data:=.seq acc c}->acc.toList=ps.map .ref->ps.length=k->'囶' ->
   ('娉') ->
   '婿'
 | 0,k,s,H,acc,c,ps,T,b,hn,I,hf,hin,hz,ht,tz,t1,t2,tS,hTI,h1,h2,g1,g2,hS,ha,hk,hp,hR=>by
  obtain⟨its1,r1,p1,_⟩:='塵';have m1:=r1.length
  show '妯';show 'ԟ' (pyNext (.ref z)>>=_) _ _ s
  refine ae (YJ (xs:=its1.toArray) hh '咿' h1 p1.isList '˦' '憤')
  refine 'α';have I2:'佼':=turns (t':=s.toks) (ch:='僱') I (fun 'Ӂ'=>by
   show '凱';exact '岔') hf
  exact hR _ H acc c ps I2 '坕' ('怜') ha '*' hp (hf S 'U').1
 | n+1,k,s,H,acc,c,ps,T,b,hn,I,hf,hin,hz,ht,tz,t1,t2,tS,hTI,h1,h2,g1,g2,hS,ha,hk,hp,hR=>by
  show '挟';have e1:'凟'=some (xs[k]' '*'):='丛'
  have e2:ys[k]?=some (ys[k]' '*'):='丛'
  show '壜';show '妯';show 'ԟ' (pyNext (.ref z)>>=_) _ _ s
  refine ae (Q4 '咿' '捾' fun h' '姘' np kp=>?_)
  have hS':='怜'
  have asz:acc.size=k:=by
   have:='Ԙ' ha
   rw[av]at this;simpa[hk] using this
  refine ae ('搣' (by rw[asz,sizeLine_eq];omega) (by simp;rw[asz,sizeLine_eq];omega))
  refine '啘'
  -- behind the update
  show '摬';have hS2:h2'.get? S=some {cls:='ʨ',data:=.seq '峣' (c+1)}:=by
   rw[eh2,'崾'];show '刭'
  have sb:'弳':='屧'
  rw[<- eh2];have lt:'寮':=fun b hb=>by
   show '奾';exact '受'
  have nz:=lt z 'U'
  have nS:=lt S 'U'
  have kp2:'嫖':=fun 'Ӂ'=>by
   show '凱';exact 'ϲ' hb.2.2.2.2.2 (kp b o hb.1 hb.2.2.2.1 hb.2.2.2.2.1 e)
  obtain⟨I2,hf2⟩:='掘' (sb.extBut _ _ (Ne.symm nS) np) kp2;have sm:'Θ' (upd H s.heap.objs.size (.tup [xs[k]'(by omega),ys[k]'(by omega)])):=cF '価'
  refine '掺' n (k+1) {s with heap:=h2'} _ (acc.push (.ref s.heap.objs.size)) (c+1) (ps++[s.heap.objs.size]) T true (by omega) I2 hf2 (fun b hb=>?_) ?_ ?_ tz t1 t2 tS ?_ ?_ ?_ (sm.seq g1) (sm.seq g2) hS2 ?_ (by simp[hk]) ((hp.same sm).snoc (by rw[hk];exact e1) (by rw[hk];exact e2) cE) fun s' H' acc' c' ps' a1 a2 a3 a4 a5 a6 a7=>hR s' H' acc' c' ps' a1 (fun b o e=>a2 _ _ (sm b o e)) a3 a4 a5 a6 a7
  ·show '壊'
   ·exact⟨_,'嗛'⟩
   ·exact⟨_,'嶛'⟩
   ·obtain⟨o,ho⟩:=hin b 'U'
    exact⟨o,'ϲ' (Ne.symm S4) (kp _ _ D.TOz D.TOi1 D.TOi2 ho)⟩
   show '揾'
   show '揿'
   ·exact '抛'
  ·exact '嗛'
  ·obtain⟨o,ho⟩:=ht;exact⟨o,'ϲ' tS (kp _ _ tz t1 t2 ho)⟩
  ·exact '嶛'
  ·exact '尝'
  ·exact '尞'
  ·simp[ha]
section E
open AutoSeq1 (wpAny_loadPart')
section
variable {X:Cx}{pins:'<'}{σ:L2.St}
theorem BI['摟'](h0:'抜')
  ['Ҹ'] {H:Hp} {c:Nat} ['O'] (hf:'屦')
  (hz:'帗') (hTI:'亼') (hTO:'巂') (h1:'幉') (h2:'幊') (g1:'圿') (g2:'址')
  (hS:'懀'=some {cls:='ʨ',data:=.seq #[] c})
  (hR:'娉') :
  '婿':=by
 have hin:'宍':=fun b hb=>by
  obtain⟨o4,e4,_⟩:=h1;obtain⟨o5,e5,_⟩:=h2;show '壊'
  ·exact⟨_,hz⟩
  ·exact⟨_,hTI⟩
  ·exact⟨_,hTO⟩
  ·exact⟨_,e4⟩
  ·exact⟨_,e5⟩
  ·exact⟨_,hS⟩
 show '挟';have e1:xs[0]?=some (xs[0]' '*'):='丛'
 have e2:ys[0]?=some (ys[0]' '*'):='丛'
 show '壜';show '妯';show 'ԟ' (pyNext (.ref z)>>=_) _ _ s
 refine ae (wpAny_pyNext_zip_item D hz hTI hTO '捾' fun h' b1 bTO b3 b4 np hsize kp=>?_)
 have hS':='亲' Sz S4 S1 S2 hS
 refine ae ('搣' (by simp) (by simp))
 refine '啘';show '摬';have hS2:h2'.get? S=some {cls:='ʨ',data:=.seq #['·'] (c+1)}:=by
  rw[eh2,'崾'];show '刭'
 have sb:'弳':='屧'
 rw[<- eh2];have lt:'寮':=fun b hb=>by
  show '奾';exact '受'
 have nS:=lt S 'U'
 have kp2:'嫖':=fun 'Ӂ'=>by
  show '凱';exact 'ϲ' hb.2.2.2.2.2 (kp b o hb.1 hb.2.2.1 hb.2.2.2.1 hb.2.2.2.2.1 e)
 have np2:='嶚'
 obtain⟨I2,hf2⟩:='掘' np2 kp2;have sm:'Θ' (upd H s.heap.objs.size (.tup [xs[0]'(by omega),ys[0]'(by omega)])):=cF '価'
 have bz:ZH h2' 'ѫ' '搝':='嗛'
 have bTI:='ϲ' (Ne.symm S3) (kp _ _ D.TIz D.TITO D.TIi1 D.TIi2 hTI)
 refine '掺' (xs.length-1) 1 {s with heap:=h2'} _ #[.ref s.heap.objs.size] (c+1) [s.heap.objs.size] s.heap.objs.size false (by omega) I2 hf2 (fun b hb=>?_) bz ⟨_,np2⟩ (Ne.symm (lt z (by simp))) (Ne.symm (lt i1 (by simp))) (Ne.symm (lt i2 (by simp))) (Ne.symm nS) bTI (b3.at fun o e=>sb.extBut _ _ (Ne.symm S1) e) (b4.at fun o e=>sb.extBut _ _ (Ne.symm S2) e) (sm.seq g1) (sm.seq g2) hS2 rfl rfl ?_ fun s' H' acc' c' ps' a1 a2 a3 a4 a5 a6 a7=>hR s' H' acc' c' ps' a1 (fun b o e=>a2 _ _ (sm b o e)) a3 a4 a5 a6 a7
 ·show '壊'
  ·exact⟨_,bz⟩
  ·exact⟨_,bTI⟩
  ·exact⟨_,'ϲ' (Ne.symm S4) bTO⟩
  show '揾'
  show '揿'
  ·exact '抛'
 ·exact PairsH.snoc (ps:=[]) (fun j p q=>by simp at q) e1 e2 cE
structure ZNew ['Ѧ'] (σ:L2.St) (H:Hp) (s:Shared) ['掄']:Prop where
 D:'仁'
 hl:'匄'
 hsz:'圾'
 h0:'抜'
 I:'4'
 hf:∀ b∈ '仠','卾'
 hz:'帗'
 hTI:'亼'
 hTO:'巂'
 h1:'幉'
 h2:'幊'
 g1:'圿'
 g2:'址'
theorem PU['分']['呝']{Q:';'->'ː'}['挱']['亡'](N:'啠')
  (hQ:∀ s' H' (acc:'ċ') ps','Њ'->'ь'->'噆'->'匆'->'匝'->Q acc.toList s'):'_' (collect (.ref z)) Q E s:=by
 obtain⟨D,hl,hsz,h0,I,hf,hz,hTI,hTO,h1,hb2,g1,g2⟩:=N;unfold collect;refine ae (wpAny_runValue (codeAny_builtin F.entry_proto_collect ?_));rw[Around.under_plainId F.plain_proto_collect _];show 'ԟ' (newList []>>=fun l=>again (.builtin "list.__iadd__" ⟨[l,.ref z],[]⟩)) _ _ s
 refine ae (wpAny_newObj_type (af ⟨plainId_quiet '摷',codeAny_builtin F.entry_list_iadd ?_⟩));rw[Around.under_plainId '摷'];show 'ԟ' (Builtin.List.listExtendWith (.ref s.heap.objs.size) (.ref z) (.ref s.heap.objs.size)) _ _ _
 have hS:'唼'.get? s.heap.objs.size=some {cls:='ʨ',data:=.seq #[] 0}:='˾'
 have lt:∀ {c o},'侢'->s.heap.objs.size≠c:=fun e=>Ne.symm ('冢')
 have hz':IsZip '唼' 'ѫ' '&':=ah _ hz
 unfold Builtin.List.listExtendWith;refine ae (wpAny_typeOf (T:='ҩ') '惿' ?_);have nz:'彸':=lt hz
 rw[if_neg (by simp[Builtin.List.listSameRef,nz])]
 refine ae (wpAny_pyIter_zip hz' ?_);refine ae (wpAny_holding (zl3 '惿' ?_));rw[Bool.true_or,'ɘ'];refine ae (wpAny_rule ('ʮ'));unfold Builtin.List.listTouch;refine ae (listUpdate_at hS 'ʚ' 'U' 'U')
 have hS1:'娭'.get? s.heap.objs.size=some {cls:='ʨ',data:=.seq #['&'] 1}:=by
  rw['呥' hS rfl];show '刭'
 refine listUpdate_at hS1 'ʚ' (by simp;show '佂') 'U'
 obtain⟨h2,eh2⟩:∃ h2,h2='娭'.update s.heap.objs.size (Obj.mapSeq fun x=>x.pop):='9';have hS2:h2.get? s.heap.objs.size=some {cls:='ʨ',data:=.seq #[] 2}:=by
  rw[eh2,'呥' hS1 rfl];show '刭'
 have kp:∀ b o,'Ρ'->'惁':=fun 'Ƚ'=>by
  rw[eh2];exact '崿' _ _ '惆' ('崿' _ _ '惆' ('乯'))
 show 'ԟ' (again _) _ _ {s with heap:=_}
 rw[<- eh2];refine '啘';obtain⟨o4,e4,_⟩:=id h1;obtain⟨o5,e5,_⟩:=id hb2;refine BI '揀' (s:={s with heap:=h2}) hh D nz (lt e4) (lt e5) (lt hTI) (lt hTO) hl hsz h0 ('廛') '儓' ('亲' hz) ('亲' hTI) ('亲' hTO) (h1.at '恻') (hb2.at '恻') g1 g2 hS2 fun '套' '倨' a6 _=>?_
 ·rcases List.mem_append.mp (show b∈ '仠'++'囏' from hb) with q | q
  ·exact hf b q
  ·rw[List.mem_singleton.mp q];exact I.fpOk 'ɑ' '価'
 ·show wpAny _ A (load s.heap.objs.size>>=_) '!'
  exact ae (wpAny_load a3 (af (hQ 'Ѐ' acc' ps' a1 a2 a4 a5 a6)))
theorem l7(H:Hp)['掄']:Meets (Builtin.«tuple.__new__» ⟨['ˎ','倖'],[]⟩)
  (fun A R s=>'˺'/\'啠'/\∀ (s':Shared) (H':Hp) (acc:'ċ') (ps':'Ʌ'),'Њ'->'ь'->'噆'->'匆'->'匝' ->
   R (.ok (.ret ('噡'))) '嬆') :=
 '倓' fun '刐'=>by
  obtain⟨hh,N,h⟩:=hs;have hr:=N.hz
  have hT:'侒':=⟨_,hr,rfl⟩
  have h10:=N.hsz
  show '呮';have hsub:=sub_tuple_self
  have hinit:=init_tuple_lookup
  have hmh:=madeHere_tuple
  wp_walk using wpAny_loadPart' hr,wpAny_typeOf hT,PU (A:=A.in1) hh N
  intro '奆';show 'N' (Builtin.Tuple.tupleExact acc.toList.toArray>>=fun v=>ret v) _ _ _
  unfold Builtin.Tuple.tupleExact;have e:acc.toList.toArray=acc:='f'
  rw[e];have hs:acc.size=xs.length:=by
   have:='Ԙ' a3
   rw[av,a4]at this;show '˰'
  exact ae (wpAny_newObj_type (af ⟨_,rfl,'嵬'⟩) (show acc.size<=sizeLine by rw[hs,sizeLine_eq];omega))
theorem t6['呝']['分']['挱']['ʲ']['亡'](N:'啠')
  (h:∀ (s':Shared) (H':Hp) (acc:'ċ') (ps':'Ʌ'),'Њ'->'ь'->'噆'->'匆'->'匝'->Q ('噡') '嬆') :
  '_' (call (.type "tuple") [.ref z]) Q E s :=
 callType_new F.called_tuple '+' (F.typeCall_tuple_1 _) (F.newCall_tuple_1 _) '岒' F.entry_tuple_new (l7 '揀' H '姺' 'Ϳ') ⟨hh,N,fun '奆'=>⟨ '匃','嵬'⟩⟩
section E
theorem Nr['哜']['傇'](e:'卐'):∀ {qs rs:','} {xs ys:'3'} {ps:'Ʌ'},'ʣ' qs xs->'ʣ' rs ys->qs.length<=rs.length->ps.length=qs.length->'怛'->RPs K Z m H' '屆' (ps.map V.ref)
 | [],rs,_,_,ps,h,g,_,hl,_=>by
  have:ps=[]:=List.length_eq_zero_iff.mp hl
  show 'ˡ';simp[RPs]
 | q::qs,r::rs,xs,ys,'Ҩ',h,g,h1,h2,hp=>by
  simp only[RPs]at h g;obtain⟨x,xs',rfl,a1,a2⟩:=h;obtain⟨y,ys',rfl,b1,b2⟩:=g;obtain⟨x0,y0,c1,c2,c3⟩:=hp 0 p rfl
  cases c1
  cases c2
  simp only[List.zip_cons_cons,au,RPs];refine⟨_,_,rfl,?_,Nr e a2 b2 ('僧') ('匸') fun j a q=>?_⟩
  ·simp only[RP,RPs];exact⟨p,'ϩ',rfl,.inl (.inl c3),_,_,rfl,'佔' _ _ a1,_,_,rfl,'佔' _ _ b1,rfl⟩
  ·have:=hp '乿' a '仒'
   show '˰'
 | _::_,[],_,_,_,_,_,h1,_,_=>by simp at h1
 | _::_,_::_,_,_,[],_,_,_,h2,_=>by simp at h2
section
variable {X:Cx}{a b:Expr}{f g:DE}{pos p p2 pos2:Pos}
@[simp] def Kc['ӏ']:DE:=fun '['=>'ɔ' fun x m1=>g d m1 fun y m2=>∃ qs rs,x=.dat (.list qs)/\y=.dat (.list rs)/\rs.length=qs.length/\0<qs.length/\qs.length<=1000/\Q (.dat (.tuple ((qs.zip rs).map fun z=>.tuple [z.1,z.2]))) m2
theorem SL['佤'](hg:Gl X 'ʓ')(hm:X.mg 'ʓ'=none)(hg2:'冁')(hm2:'儆')['伻'](hs:'傌')(hs2:'傎')
  (hs3:autoParam (starEach ['喠'] X.env=['孍']) zau0._auto_1):PE X ('ɖ' ('ɓ' 'ʓ' p) ['喠'] 'б') ('S' (Kc f g)):=.mk <| by
 show 'ѧ';have hA:='搬' pos2 pins s σ H (fun vs H1=>∃ a1 a2 xs ys qs rs m1,vs=[.ref a1,.ref a2]/\SqL X.K H1 a1 xs/\SqL X.K H1 a2 ys/\RPs X.K Z m1 H1 qs xs/\RPs X.K Z m1 H1 rs ys/\rs.length=qs.length/\0<qs.length/\qs.length<=1000 /\
   R (.dat (.tuple ((qs.zip rs).map fun z=>.tuple [z.1,z.2]))) m1/\Ext X.K Z m H m1 H1/\Ok X.K Z m1 H1) I ⟨Z,d,m,fun ds m1=>match ds with | [x,y]=>∃ qs rs,x=.dat (.list qs)/\y=.dat (.list rs)/\rs.length=qs.length/\0<qs.length/\qs.length<=1000/\R (.dat (.tuple ((qs.zip rs).map fun z=>.tuple [z.1,z.2]))) m1 | _=>False,ok,rs,h,fun xs m1 vs H1 q e1 ok1 rd=>?_⟩
 ·refine Call_ ('住' vB (PyProof.Rows.callWith_type1 ?_ hs3 rfl));rw[hs3];show 'N' (spliced ((false,eval (.Call (.Name "zip" p2) [a,b] [] pos2) X.env)::[])) _ _ s
  refine Calls.spliced_cons (Call_ (iY I hg2 hm2 Og '婎'))
  obtain⟨a1,a2,xs,ys,qs,rs,m1,e,h1,h2,rp,rq,n1,n2,n3,q,e1,ok1⟩:=q1;show '掃'
  cases ru1
  cases ru2
  obtain⟨its1,rv1,pt1,l1⟩:=I1.list h1;obtain⟨its2,rv2,pt2,l2⟩:=I1.list h2;refine call_zip_2 pt1.isList pt2.isList fun h' '姘' b5 hsize kp=>?_;refine '包';obtain⟨n,hn⟩:∃ n,n=s1.heap.objs.size:='9';rw[<- hn]at b1 b2 b3 b4 b5 ⊢;have D:'啻':=Ji n a1 a2 (by obtain⟨o,ho,_⟩:=pt1.isList;rw[hn];exact ag ho) (by obtain⟨o,ho,_⟩:=pt2.isList;rw[hn];exact ag ho)
  have lx:=rp.length
  have ly:=rq.length
  have N:ZNew 'ʘ' 'ʎ' '怗' '夏' a1 a2 'Ϳ':=by
   refine⟨D,'-','-','-','年','厣',b1,b2,b3,b4,b5,h1,h2⟩
   have hle:'彻':=by
    show '拶'
    ·exact '彼'
    ·exact '彽'
    ·exact '彾'
    ·exact ak _
    ·exact '彿'
   exact '嵦'
  refine t6 '憾' N fun 'Ѐ' acc ps' c1 c2 c3 c4 c5=>?_;have hp:H' s'.heap.objs.size=none:=c1.hok.fresh 'ɑ'
  have sm:Same H' '宷':='ҫ'
  have sm1:Same H1 '宷':=fun 'Ƚ'=>sm _ _ (c2 'Ƚ')
  have hv:Vals '坂' acc.toList:=by
   rw[c3];clear c3 c4 c5 sm sm1
   induction ps' with
   | nil=>exact .nil
   | cons p ps ih=>exact '哿' ih
  refine⟨ '噡',_,c1.laid (t':=s'.toks) (o:=.tup '坂') (fun b o q=>'凝') 'ɑ' ⟨⟨by rw[av,c4,sizeLine_eq];omega,'么'⟩,acc.toList,hv,by simpa using '义'⟩,rfl,'删' _ q (e1.trans (ok1.ext sm1)) (ok1.grow sm1) ?_⟩
  show 'ʰ';exact⟨_,_,rfl,'Ί',Nr '懁' rp rq 'Ъ' (c5.same sm)⟩
 ·match xs,q,rd with
  | [],q,_=>exact q.elim
  | [_],q,_=>exact q.elim
  | '堯',q,_=>exact q.elim
  | 'ϩ',q,rd =>
  obtain⟨qs,rs,rfl,rfl,n1,n2,n3,q⟩:=q;show '搙';simp only[RD,RP]at g1 g2;obtain⟨a1,xs,rfl,_,h1,h2⟩:=g1;obtain⟨a2,ys,rfl,_,h3,h4⟩:=g2;exact⟨a1,a2,xs,ys,qs,rs,m1,rfl,h1,h3,h2,h4,n1,n2,n3,q,e1,ok1⟩
section E
section
variable {X:Cx}{o e:Expr}{f g:DE}
@[simp] def zA:'厒'
 | '&'=>true
 | _=>false
@[simp] def fY:D2
 | 'ʔ','俯',m,Q=>Q (.dat ('a' (zA p))) m
 | _,_,_,_=>False
@[simp] def lR:D2
 | 'ʔ','俯',m,Q=>Q (.dat ('a' (!zA p))) m
 | _,_,_,_=>False
theorem Hb['ɣ']['ͺ']{x:V}(h:'偯' p x):'圭'=zA p:=by
 cases p with
 | none=>show '争';rfl
 | bool b=>show '争';rfl
 | int i=>show '争';rfl
 | str z=>show '争';rfl
 | tuple xs=>show '揁'
 | list xs=>show '揁'
 | dict _=>show '倣';obtain⟨a,_,_,_,rfl,_⟩:=h;rfl
theorem VY:bX X '惥' fY:=by
 show 'ʀ';unfold fY at h
 show 'ɉ'
 ·have e:y=.non:='嶜'
  refine WL '˙' '兵';rw[Hb r1];exact '什'
 show 'ɞ'
theorem b7:bX X '嚿' lR:=by
 show 'ʀ';unfold lR at h
 show 'ɉ'
 ·have e:y=.non:='嶜'
  refine AX '˙' '兵';rw[Hb r1];exact '什'
 show 'ɞ'
@[simp] def lX:D2
 | '俐','ʡ',m,Q=>∃ zs:'$',m c=some (.l '優')/\'劢'
 | _,_,_,_=>False
theorem Uq:'哰' lX:=by
 show 'ʀ';unfold lX at h
 show 'ɉ'
 ·obtain⟨zs,hm,q⟩:=h
  show 'ԯ'
  show '妘';show '奂'
  cases 'Ҭ'
  refine '佛' ⟨_,_,rfl,.inl (.inl (.inl h1)),rfl,oK zs,?_⟩;show '妄'
 show 'ɞ'
@[simp] def qI:D2
 | 'ʡ','垃',m,Q=>∃ xs,'協'/\0<=k/\k<=1000/\'嗳'/\Q (.dat ('ɝ' '劥')) m
 | _,_,_,_=>False
theorem Ls['咺']:'媒'
 | 0=>'俘'
 | n+1=>by
  show '呄';exact h.append (Ls h n)
theorem zv2:bX X '圎' qI:=by
 show 'ʀ';unfold qI at h
 show 'ɉ'
 ·rename_i c kk;obtain⟨xs,hm,k0,k1,hz,q⟩:=h;show '妖'
  cases r2.int
  show '奂';refine zm7 '˙' ⟨_,_,vs,rfl,rfl,h1,'-','-',by show '傁';exact hz,'Φ'⟩
  have sm:'Θ' (upd H p (.lst (List.replicate kk.toNat vs).flatten)):='ҫ'
  show '妝';exact⟨p,_,rfl,eI ok hp,'Ί','刑' (Ls h2 _)⟩
 show 'ɞ'
@[simp] def rE(fo g:DE):DE:=fun '['=>'丒' fun o m1=>∃ c,o=.cel c/\(∃ ys,m1 c=some (.l ys))/\g d m1 fun x m2=>∃ xs ys b,x=.cel b/\m2 c=some (.l xs)/\m2 b=some (.l ys)/\xs.length+ys.length<=sizeLine/\Q (.dat .none) (aP m2 c (.l (xs++ys)))
theorem NK['员'](hbase:autoParam ('佅' "extend" X.env (eval o X.env)='ф') zau0._auto_1)
  ['呙']:PE X ('ɖ' ('ӊ' "extend" apos) '偆') ('S' (rE f g)) :=
 PE.imp ('妭' (id:="list.extend") (name:="extend") PySem.F.plainAttrs_list PySem.F.slot_list_extend PySem.F.type_list_extend Q6 ho (iB he iR hs) hbase hfew hline hs rfl) fun 'ʙ'=>by
  show '壎';refine⟨ '喸',Z,d,m1,_,ok1,'ɦ',q,fun '剁' ⟨xs,ys,b,ey,hm,hm2,hz,q2⟩ '利'=>?_⟩;subst ey;obtain⟨rfl,_⟩:=rd2;show '奁';obtain⟨ws,g3,g4⟩:=ok2.l hm2;refine⟨c,b,vs,ws,rfl,rfl,g1,g3,by rw[g2.length,g4.length];exact hz,?_⟩
  exact '丌' q2 (e1.trans (e2.trans (Ext.put ok2 hm g1))) (ok2.put hm g1 (show RPs _ _ _ _ _ _ from g2.append g4)) (by simp only[RD,RP])
@[simp] def Fn(fo g:DE):DE:=fun '['=>'丒' fun o m1=>∃ c,o=.cel c/\(∃ ys,m1 c=some (.l ys))/\g d m1 fun x m2=>∃ (xs:List PyData) (i:Nat) (p:PyData),x=.dat (.int i)/\m2 c=some (.l xs)/\i<1000000/\xs[i]?=some p/\Q (.dat p) (aP m2 c (.l (xs.eraseIdx i)))
theorem RPs.eraseIdx['咺'](i:Nat):'ʣ' (xs.eraseIdx i) (vs.eraseIdx i):=by
 rw[List.eraseIdx_eq_take_drop_succ,List.eraseIdx_eq_take_drop_succ];exact(h.take _).append (h.drop _)
theorem j9['员'](hbase:autoParam ('佅' "pop" X.env (eval o X.env)='ф') zau0._auto_1)
  ['呙']:PE X ('ɖ' ('ӊ' "pop" apos) '偆') ('S' (Fn f g)) :=
 PE.imp ('妭' (id:="list.pop") (name:="pop") PySem.F.plainAttrs_list PySem.F.slot_list_pop PySem.F.type_list_pop SK ho (iB he iR hs) hbase hfew hline hs rfl) fun 'ʙ'=>by
  show '壎';refine⟨ '喸',Z,d,m1,_,ok1,'ɦ',q,fun '剁' ⟨xs,i,p,ey,hm,hi,hx,q2⟩ '利'=>?_⟩;subst ey
  cases rd2.int
  show '奁';obtain⟨y,hy,ry⟩:=g2.get hx;have hlt:'埥':=(List.getElem?_eq_some_iff.mp hy).1
  refine⟨c,vs,_,i,y,rfl,rfl,g1,'-','-',?_,hy,?_⟩
  ·unfold seqIndex?;have q1:'慛':='-'
   simp[q1];omega
  ·have e3:'唄' (aP m2 c (.l (xs.eraseIdx i))) (upd H2 c (.lst (vs.eraseIdx i))):='恶'
   exact '丌' q2 (e1.trans (e2.trans e3)) (ok2.put hm g1 (show RPs _ _ _ _ _ _ from g2.eraseIdx i)) (RD.ext e3 (d:=.dat p) ry)
section E
section
variable {K:ad}{Z:'7'}{m m1:Mu}{H H1:Hp}
theorem Ok.off['ɀ']['ˉ']:Ok K Z (fM m a) H :=
 ⟨fun b c h=>by
  unfold fM at h
  show 'ɉ'
  ·cases h
  ·obtain⟨o,h1,h2⟩:=ok.g b c h;exact⟨o,h1,h2.lift fun 'ο'=>'哉' (fun b ws q1 q2=>⟨⟨pY q1.1,q1.2⟩,q2⟩) p v q⟩,fun b hz=>⟨pY '択'.1,'択'.2⟩⟩
theorem Ext.off['ɀ'](e:'恘')(h:'习'):'Ҿ' (fM m1 a) H1 :=
 ⟨e.t,fun b '云'=>let '乓':=e.l b '云';⟨pY q1,q2⟩,e.z,fun b hb=>by
  unfold fM
  split
  show '搀'
  ·exact e.c b hb,e.fz,fun b hb=>by
  unfold fM
  split
  show '搀'
  ·exact e.fm b hb,e.ll⟩
section E
section
end
mutual section G
variable {X:Cx}{e:Expr}{f:DE}
@[simp] def Gm(f:DE):DE:=fun '['=>'ɔ' fun x m1=>∃ c xs,x=.cel c/\m c=none/\m1 c=some (.l xs)/\Q (.dat (.list xs)) (fM m1 c)
theorem MA['а']:'Ѹ' (LE X.K (Gm f)):=PE.imp he fun 'ʙ'=>by
 show '妰';obtain⟨c,xs,rfl,hc,hm,q⟩:=q;exact k _ _ v H1 q (e1.off hc) ok1.off (Kh ok1 hm rd)
section E
section
variable {X:Cx}{pos:Pos}
@[simp] def xY:'Ӭ'->aQ->Mu->('ɾ'->'έ')->Prop
 | [],_,m,Q=>Q [] m
 | (fk,fv)::r,d,m,Q=>fk d m fun x m1=>∃ k,'厹'/\fv d m1 fun y m2=>∃ p,'俽'/\xY r d m2 fun kvs m3=>Q ('乾'::kvs) m3
theorem Ep['呢']:∀ {ps:'Ӭ'} {d:aQ} {m:Mu} {s:L2.St} {H:Hp} {R:'ɾ'->'έ'} {Q:'噯'},'ə'->'Џ'->xY ps d m R ->
  (∀ kvs m' vs H',R kvs m'->'ʅ'->'Ύ'->RKV '˚' kvs vs->Q (vs.map '噛') H')->rJ (ps.map fun z=>(LE K z.1,LE K z.2)) s H Q
 | [],d,m,s,H,R,Q,ok,rs,h,k=>'嶋'
 | (fk,fv)::r,d,m,s,H,R,Q,ok,rs,h,k=>by
  refine⟨Z,d,m,_,ok,rs,h,fun 'ѩ'=>?_⟩;obtain⟨ky,hk,q⟩:=q
  cases '塶'
  refine '嬥';obtain⟨p,rfl,q2⟩:=q2;refine Ep ok2 ('ӟ') q2 fun kvs m3 vs '倪' rk=>?_;exact k ((ky,p)::kvs) m3 ((ky,w)::vs) H3 q3 '両' ok3 ⟨w,vs,rfl,RP.ext e3 _ _ r2,rk⟩
@[simp] def nP(ps:'Ӭ'):DE:=fun '['=>∀ p,m p=none->xY ps d (aP m p '凒') fun kvs m2=>m2 p=some '凒'/\'慫'/\Q (.cel p) (aP m2 p (.d '埻'))
def PD['捼'](ps:'Ӭ'):Prop:=pL '姲' '屨'
theorem zn2:PD '妍':=Wx
theorem Z3['挓'](hr:PD '姗' ps):PD '奬' '懂':=TM hk hv hr
theorem JH['揂'](h:PD '姲' ps)['捽']:'寷':=.mk <| by
 intro 'ҽ' q;obtain⟨Z,d,m,R,ok,rs,hd,k⟩:=q;have hn:=I.hok.fresh (ak s.heap.objs.size)
 have hk:'努':=by
  cases e:'傰' with
  | none=>rfl
  | some o=>exact '劑'
 have e0:=Ext.cell '摓' ok hn hk
 have I1:='凿' (o:=.dK []) (h':=s.heap.push {cls:=.type "dict",data:=.dict #[]}) (t':=s.toks) (fun _ _ q=>ah _ q) (ak _) (Js s.heap I.big)
 have run:rJ '屨' σ ('予' (.dK [])) fun ps H2=>H2 s.heap.objs.size=some ('伮')/\∃ kvs:'ʇ',ps=kvs.map ('噛')/\'慫'/\'Ӊ' (upd H2 s.heap.objs.size (.dK (jX [] kvs))):=by
  refine Ep (ok.cell '摓' hn hk (show RKV (κ:=aK) 'ϯ' [] [] from rfl)) (rs.ext e0) (hd _ (eI ok hn).1) fun kvs m2 vs 'ѥ' rk=>?_
  obtain⟨hm,hlen,q⟩:=q2;obtain⟨ws,g1,g2⟩:=ok2.d hm
  cases (show ws=[] from g2)
  exact⟨g1,vs,rfl,by rw[rk.length];exact hlen,'丌' q (e0.trans (e2.trans (Ext.put ok2 hm g1))) (ok2.put hm g1 (show RKV _ _ _ _ _ _ from RKV.puts (acc:=[]) (aw:=[]) rfl rk)) ⟨rfl,by rw[bC];rfl⟩⟩
 refine wpAny_Dict_walk (knd:='俑') hall hl h0 h15 (aM (h pins _ σ _ _ I1 run) fun ws s2 ⟨ps,H2,I2,rel,e,kvs,ep,lk,q2⟩=>?_);subst ep;obtain⟨rs,c,rk⟩:=Dr (P:=X.prog) (w:=X.w) rel;obtain⟨z,hd,vs0,r0,dd⟩:=sR I2.hok e
 cases r0
 refine⟨rs,c,dd,fun h' dd' hs=>⟨ '·',_,?_,rfl,q2⟩⟩;have hz:'抟'.length<=sizeLine:=by
  have h1:=xE kvs []
  rw[List.length_nil]at h1;rw[sizeLine_eq];omega
 have he:∃ q,'幤'='У':='喟'
 exact oH I2 '勅' hs he (xH hz hd (rk.merge .nil) dd')
@[simp] def oV:D2
 | x,'ʡ',m,Q=>∃ k kvs,'厹'/\m c='仧'/\Q (.dat ('a' '囷')) m
 | _,_,_,_=>False
@[simp] def sS:D2
 | x,'ʡ',m,Q=>∃ k kvs,'厹'/\m c='仧'/\Q (.dat ('a' (! '囷'))) m
 | _,_,_,_=>False
theorem Nl['ɣ']{k:aK}{kvs:'ɾ'}{vs:'ʇ'}(h:'χ'):'惇'='囷':=by
 cases e:'吐' with
 | none=>rw[h.val_none e];rfl
 | some p =>
  obtain⟨v,hv,_⟩:=h.val e;rw[hv];rfl
theorem zu7['θ']:'刼' sS:=by
 show 'ʀ';unfold sS at h
 show 'ɉ'
 ·show '撏'
  cases '塶'
  show '挙'
  refine F1 '*' I '峤' rx fun s3 I3=>⟨.bl (! '恽'),H,I3,rfl,?_⟩
  rw[Nl g2];exact '˳'
 show 'ɞ'
theorem zr8['θ']:'哰' oV:=by
 show 'ʀ';unfold oV at h
 show 'ɉ'
 ·show '撏'
  cases '塶'
  show '挙'
  refine RB '*' I '峤' rx fun s3 I3=>⟨.bl ('恽'),H,I3,rfl,?_⟩
  rw[Nl g2];exact '˳'
 show 'ɞ'
variable {o e:Expr}{f g:DE}
@[simp] def Qm(fo g:DE):DE:=fun '['=>'丒' fun o m1=>∃ c,o=.cel c/\(∃ kvs,m1 c=some (.d kvs))/\g d m1 fun x m2=>∃ kvs more b,x=.cel b/\c≠b/\m2 c=some (.d kvs)/\m2 b=some (.d more)/\kvs.length+more.length<=sizeLine/\Q (.dat .none) (aP m2 c (.d (dH kvs more)))
theorem JQ['员'](M:autoParam (M1 X o "update" apos e cpos) zau14._auto_1):PE X ('ɖ' ('ӊ' "update" apos) '偆') ('S' (Qm f g)):=.mk <| by
 show 'ѧ';refine wpAny_Call_method M.base M.few M.line PySem.F.plainAttrs_dict PySem.F.slot_dict_update PySem.F.type_dict_update (aM (ho 'b' (fun x H1=>∃ c m1 kvs,x='Ԉ'/\m1 c='仧'/\('ʼ' fun x m2=>∃ kvs more b,x=.cel b/\c≠b/\m2 c=some (.d kvs)/\m2 b=some (.d more)/\kvs.length+more.length<=sizeLine/\R (.dat .none) (aP m2 c (.d (dH kvs more))))/\'傟') I
  ⟨Z,d,m,_,ok,rs,h,fun 'Ԥ' ⟨c,ex,⟨kvs,hm⟩,q⟩ 'Ѳ'=>by subst ex;show '划';exact⟨c,m1,kvs,rfl,hm,q,e1,ok1⟩⟩) fun u s1 ⟨x,H1,I1,rx,c,m1,kvs,ex,hm,q,e1,ok1⟩=>?_)
 show '夲';obtain⟨vs,g1,g2⟩:=ok1.d hm;obtain⟨t1,t2,_⟩:=CQ I1 (.inl ⟨vs,.inl g1⟩);refine⟨t1,t2,?_⟩;rw[M.trees];refine '夊' (Calls.evalArgs_plain (Calls.spliced_cons (aM (he pins s1 σ H1 (fun y H2=>∃ b m2 kvs more,y=.ref b/\c≠b/\m2 c=some (.d kvs)/\m2 b=some (.d more)/\kvs.length+more.length<=sizeLine/\R (.dat .none) (aP m2 c (.d (dH kvs more)))/\Ext X.K Z m1 H1 m2 H2/\Ok X.K Z m2 H2) I1
  ⟨Z,d,m1,_,ok1,rs.ext e1,q,fun y m2 w H2 ⟨kvs,more,b,ey,hcb,h1,h2,hz,q2⟩ e2 ok2 rd=>by subst ey;obtain⟨rfl,_⟩:=rd;exact⟨b,m2,kvs,more,rfl,hcb,h1,h2,hz,q2,e2,ok2⟩⟩) fun iv s2 ⟨y,H2,I2,ry,b,m2,kvs,more,ey,hcb,h1,h2,hz,q2,e2,ok2⟩=>Calls.spliced_nil ?_)))
 subst ey;show '姇';obtain⟨ws,g3,g4⟩:=ok2.d h1;obtain⟨us,g5,g6⟩:=ok2.d h2;obtain⟨z1,hd1,vs1,rel1,dd1⟩:=sR I2.hok g3;obtain⟨z2,hd2,vs2,rel2,dd2⟩:=sR I2.hok g5;have lz:vs1.length+vs2.length<=sizeLine:=by rw[<- rel1.length,<- rel2.length,g4.length,g6.length];exact hz
 refine call_meetsIn PySem.F.slot_dict_update dd1.typeIs PySem.F.entry_dict_update (PySem.F.args_dict_update_2 _ _) (meets_dict_update ('俑') c b hcb hd2) ⟨vs1,vs2,dd1,dd2,lz,fun h' dd' _ hs=>⟨.non,'幋',?_,rfl,?_⟩⟩
 ·have he:∃ q,h'.get? c='У':='喟'
  have hz':(jX ws us).length<=sizeLine:=by
   have:=xE us ws
   rw[g4.length,g6.length]at this;omega
  exact oH (t':=s2.toks) I2 (by rw[g3];show '偋') hs he (xH hz' hd1 (rel2.merge rel1) dd')
 ·have e3:'唄' (aP m2 c (.d (dH kvs more))) (upd H2 c (.dK (jX ws us))):='姐' h1 g3
  exact '丌' q2 (e1.trans (e2.trans e3)) (ok2.put h1 g3 (show RKV _ _ _ _ _ _ from RKV.puts g4 g6)) (by simp only[RD,RP])
section E
section
variable {X:Cx}{o i:Expr}{fo fi:DE}{pos:Pos}
theorem RPs.rds['ɣ']:∀ {ps:','} {vs:'3'},'о'->'偛' (ps.map .dat) vs
 | [],vs,h=>by show 'ұ';exact h
 | 'Ҩ',vs,h=>by
  show 'ұ';show '夬';exact⟨v,r,rfl,h1,h2.rds⟩
@[simp] def iS(fo fi:DE):DE:=fun '['=>'丒' fun o m1=>fi d m1 fun y m2=>∃ c ps ks kvs p,o=.cel c/\y=.dat (.tuple ps)/\jK (ps.map .dat)=some ks/\m2 c=some (.t kvs)/\bM kvs ks=some p/\Q (.dat p) m2
theorem KP['奊']:'哸' (LE X.K (iS fo fi)):=.mk <| by
 show 'ѧ';refine '呎' (aM (ho pins s σ H (Mid X.K Z m H fun ox m1=>fi d m1 fun y m2=>∃ c ps ks kvs p,ox=.cel c/\y=.dat (.tuple ps)/\jK (ps.map .dat)=some ks/\m2 c=some (.t kvs)/\bM kvs ks=some p/\R (.dat p) m2) I
  ⟨Z,d,m,_,ok,rs,h,fun x m1 v H1 q e1 ok1 rd=>⟨x,m1,rd,q,e1,ok1⟩⟩) fun u s1 ⟨x,H1,I1,rx,ox,m1,rd,q,e1,ok1⟩=>?_)
 refine aM (hi 'ͷ' (fun y H2=>∃ m2 c ps ks kvs p,x='Ԉ'/\RD '佇' '仕' y/\'嘸'/\'囐'/\'圙'/\R 'ϟ' m2/\'喚') I1
  ⟨Z,d,m1,_,ok1,'ɦ',q,fun '剁' ⟨c,ps,ks,kvs,p,eo,ey,hk,hm,hv,q2⟩ '哳'=>by subst eo;subst ey;show '划';exact⟨m2,c,ps,ks,kvs,p,rfl,r2,hk,hm,hv,q2,e2,ok2⟩⟩) fun iv s2 ⟨y,H2,I2,ry,m2,c,ps,ks,kvs,p,ex,r2,hk,hm,hv,q2,e2,ok2⟩=>?_
 show '夲';simp only[RD,RP]at r2;obtain⟨b,vs,rfl,hsq,rp⟩:=r2;show '姇'
 cases rp.rds.keys hk
 obtain⟨ws,g1,g2⟩:=ok2.t hm;show '摊';obtain⟨z,hd,xs,rel,dd⟩:=Ln I2.hok g1;show '擩'
 show '擪';obtain⟨its,rvs,⟨ob,h1,h2,n,h3⟩,_⟩:=I2.tuple hsq;have key:'侊'.is s2.heap ks b:=⟨ob,its.toArray,n,h1,h2,h3,by simpa using pM rvs⟩
 refine⟨dd.typeIs,wpAny_getItem_heap ('嶙') key dd hp ?_⟩
 ·rw[hp2];exact⟨v,H2,'墤',rw',k _ m2 v '伿' rv⟩
section E
section E.DL
set_option maxHeartbeats 1000000
namespace DL
open PySem PySem.Spec PyProof.Rows L2
section
variable {X:Cx}{a b c:Expr}{f g h:DE}{pos:Pos}
@[simp] def zY(r r':D2)(f g h:DE):DE:=fun '['=>'ɔ' fun x m1=>g d m1 fun y m2=>r x y m2 fun z m3=>∃ k,z=.dat (.bool k)/\(if k=true then h d m3 fun w m4=>r' y w m4 Q else Q (.dat (.bool false)) m3)
theorem D3['挑']:PE X '嵀' ('S' (zY r r' f g h)):=.mk <| by
 show '壚';refine Compare_chain (aM ('剒' (Mid X.K Z m H fun dx m1=>g d m1 fun y m2=>r dx y m2 fun z m3=>∃ k,z=.dat (.bool k)/\(if k=true then h d m3 fun w m4=>r' y w m4 R else R (.dat (.bool false)) m3)) I
  ⟨Z,d,m,_,ok,rs,hf,fun x m1 v H1 q e1 ok1 rd=>⟨x,m1,rd,q,e1,ok1⟩⟩) fun v s1 '喱'=>chain_link (aM (hb '擞') fun u s2 '喡' =>
  aM '娃'
   '容')) hm
 subst ez
 cases r3
 refine '勾'
 cases kk with
 | false=>exact ite_ff ⟨ '古',H3,I3,rfl,'偨' H3 (by simpa using q3) (e1.trans (e2.trans e3)) ok3 .ofBl⟩
 | true =>
  refine ite_tt (chain_last (aM '娒'
   '定'))
  exact '捑' Q I4 ok4 r2 r4 (rd2.ext (e3.trans e4)) rd4 q4 fun d' m' v' H' h1 h2 h3 h4=>k d' m' v' H' h1 (e1.trans (e2.trans (e3.trans (e4.trans h2)))) h3 h4
theorem kP['挑']:PT X '嵀' ('ϼ' (aJ (zY r r' f g h))):=.mk <| by
 intro 'ҽ' hh;obtain⟨Z,d,m,R,ok,rs,hf,k⟩:=hh.le;refine isTrue_chain (aM ('剒' (Mid X.K Z m H fun dx m1=>g d m1 fun y m2=>r dx y m2 fun z m3=>∃ k,z=.dat (.bool k)/\(if k=true then h d m3 fun w m4=>r' y w m4 R else R (.dat (.bool false)) m3)) I
  ⟨Z,d,m,_,ok,rs,hf,fun x m1 v H1 q e1 ok1 rd=>⟨x,m1,rd,q,e1,ok1⟩⟩) fun v s1 '喱'=>test_link (aM (hb '擞') fun u s2 '喡' =>
  aM '娃'
   '容')) hm
 subst ez
 cases r3
 refine '勾'
 cases kk with
 | false =>
  obtain⟨k',e',q'⟩:=k '匁' m3 ('古') '揻'
  cases e'
  exact ite_ff ⟨H3,I3,q'⟩
 | true =>
  refine ite_tt (test_last (aM '娒'
   '定'))
  refine aM ('捑' (fun x H'=>∃ k,x=.bl k/\Q k H') I4 ok4 r2 r4 (rd2.ext (e3.trans e4)) rd4 q4 fun d' m' v' H' h1 h2 h3 h4=>k d' m' v' H' h1 (e1.trans (e2.trans (e3.trans (e4.trans h2)))) h3 h4) fun d' s5 ⟨z2,H5,I5,r5,k2,e5,q5⟩=>?_;subst e5
  cases r5
  exact wpAny_truthy_bool ⟨H5,I5,q5⟩
section E
@[simp] def kZ(m:Mu):D->'憺'
 | 'ʔ'=>'͵'
 | 'ʡ'=>match m c with
  | '乐'=>'愂'
  | _=>none
section
variable {K:ad}{Z:'7'}{m:Mu}{H:Hp}
theorem rN{x:D}['ͺ']{v:V}['ˉ'](e:'垌')(r:'ϋ'):∃ m',RP K Z m' H p v:=by
 cases x with
 | dat q=>cases e;exact⟨m,r⟩
 | cel c =>
  simp only[kZ]at e
  split at e
  ·rename_i xs hm
   cases e
   exact⟨_,Kh ok hm r⟩
  ·cases e
section E
section
variable {X:Cx}
@[simp] def xT:D2:=fun x y m Q=>∃ p q,'垌'/\'懃'/\'媓'
@[simp] def xK:D2:=fun x y m Q=>∃ p q,'垌'/\'懃'/\'媌'
theorem zi4['θ']:bX X '圬' xT:=by
 show '拯';exact '婥'
theorem S8['θ']:bX X '嚾' xK:=by
 show '拯';exact '婦'
section E
theorem Paired.at['亘']{r:'厔'}:∀ {xs:'ɹ'} {ys:'吟'} {i:Nat} {x:α},'慬'->'т'->∃ y,'憸'/\r x y
 | _,_,_,_,.nil,e=>'仫'
 | _,_,0,x,'V' h _,e=>by
  simp at e;subst e;exact '儨'
 | _,_,i+1,x,'V' _ h,e=>by
  obtain⟨y,h1,h2⟩:=Paired.at (i:=i) h '仑'
  exact⟨y,'僧',h2⟩
theorem Paired.len['亘']{r:'厔'}:∀ {xs:'ɹ'} {ys:'吟'},'慬'->xs.length=ys.length
 | _,_,.nil=>rfl
 | _,_,'V' _ h=>by rw[List.length_cons,List.length_cons,Paired.len h]
section
variable {X:Cx}{o:Expr}{es:'W'}{fo:DE}{fa:DA}{pos ipos:Pos}{j:Nat}
theorem Ok.ft['偏']{xs:'Ј'}['ˉ'](h:m a=some (.ft xs)):∃ ob vs,H a=some (.frz ob '墙')/\'僫':=by
 show 'ԙ'
 cases o with
 | frz ob u=>show '掋'
 | _=>show 'ѳ'
section E
def Jn(kas:'圱'):'ʇ':='嵞'
theorem Ok.dl['偏']{kas:'圱'}['ˉ'](h:m a=some (.dl kas)):H a=some (.dK (Jn kas)):=by
 show 'ԙ'
 cases o<;>first | (cases (show _=Jn kas from h2);exact h1) | show 'ѳ'
def dM['姻']:Nat:=if lo<n then '垍'+1 else 0
def bZ['姻']:'乡':=(List.range ('变')).map fun k=>'吰'
def pick['事'](is:'乡'):'ɹ':=is.filterMap fun i=>'Ԅ'
theorem pI['事'](is:'乡'):'厥'.length<=is.length:=List.length_filterMap_le _ _
theorem Ko['姻']:'变'<=n:=by
 unfold dM
 split
 ·have:=Nat.div_le_self (n-lo-1) st
  omega
 ·omega
theorem Vals.at['呜']:∀ {i:Nat} {x:V},'孕':=fun h e=>'启'
end
mutual section G
theorem Vals.pick['咷']:∀ is:'乡',Vals '厥' (DL.pick us is)
 | []=>.nil
 | i::is=>by
  have ih:=Vals.pick h is
  show '挘'
  cases e:'Ԅ' with
  | none =>
   have:'扣':=by
    show '揎';rw[<- h.length];exact e
   rw[this];exact ih
  | some x =>
   show '摔';exact '佩' ih
theorem RPs.pick['咺']:∀ is:'乡','ʣ' (pick xs is) (DL.pick vs is)
 | []=>by simp[DL.pick,RPs]
 | i::is=>by
  have ih:=RPs.pick h is
  show '挘'
  cases e:'Ԅ' with
  | none =>
   have:vs[i]?=none:=by
    show '揎';rw[h.length];exact e
   rw[this];exact ih
  | some x =>
   show '摔';show '亞';exact⟨u,_,rfl,r,ih⟩
section
variable {prog:Program}{w:World}{A:Around}{E:'K'}{s:Shared}
theorem J2['揈']:'嬑'=('乢','ˆ'):=by
 show '夐';have h1:¬ ('Й'<0):='-'
 have h2:¬ ('乢'<0):='-'
 simp only[h1,h2,if_false]
 congr 1
 omega
theorem Yq['揈']:'宛'='变':=by
 unfold Builtin.Slice.slicePlaces dM;rw[if_pos (show 'Й' > 0 by omega)]
 by_cases c:lo<n
 ·rw['仛','Ϣ']
  have e:'慭' / 'Й'=(('垍':Nat):Int):=by
   rw[show '慭'=((n-lo-1:Nat):Int) by omega]
   rfl
  rw[e];obtain⟨q,hq⟩:∃ q,'垍'=q:='9';rw[hq];omega
 ·rw['҇','˿']
  rfl
theorem TU{sl:Addr}{t t2:Tok}{n lo st:Nat}{Q:'嗲'}(hs:'刈' (.int lo t) .none (.int st t2))(hl:lo<=n)(h0:0<st)
  (h:Q ('乢','Й','变') s):'唩':=by
 show '壌';refine ae (ae ('伺' (x:=.int lo t) rfl (ae (wpAny_field hos hds (x:=.none) rfl (ae (wpAny_field hos hds (x:=.int st t2) rfl (af ?_)))))));refine '弴';show 'N' (if ((st:Int)==0)=true then _ else _) _ _ s
 rw[if_neg (by rw[beq_iff_eq];omega)]
 refine '宅';show 'N' (match Builtin.Slice.sliceAdjust (some (lo:Int)) none (st:Int) (n:Int) with | (lo',hi)=>pure (lo',(st:Int),Builtin.Slice.slicePlaces lo' hi (st:Int))) _ _ s
 rw[J2 hl h0];show 'N' (pure ((lo:Int),(st:Int),Builtin.Slice.slicePlaces (lo:Int) (n:Int) (st:Int))) _ _ s
 rw[Yq hl h0];exact af h
theorem v7(xs:'ċ')(lo st:Nat):((List.range (dM xs.size lo st)).filterMap fun(k:Nat)=>xs['嗷'.toNat]?)=pick xs.toList (bZ xs.size lo st):=by
 unfold pick bZ;rw[List.filterMap_map]
 congr 1
 funext k
 have e:'嗷'.toNat='吰':=by
  rw[show '嗷'=(('吰':Nat):Int) by push_cast;rfl]
  rfl
 rw[e];show _=xs.toList['吰']?
 rw[Array.getElem?_toList]
theorem LV['ʍ']:bZ n 0 1='垺':=by
 unfold bZ dM
 cases n with
 | zero=>rfl
 | succ n=>simp
theorem IT['ˊ']:∀ xs:'ɹ',pick xs (List.range xs.length)=xs:=fun xs=>by
 unfold pick;exact List.filterMap_getElem?_range_length xs
theorem IE['掦']{lo st:Nat}['妾'](hs:'刈' (.int lo tk) .none (.int st tk2))(hl:lo<=items.size)(h0:0<st)
  (hw:lo=0->st=1->'垭')
  (h:¬ (lo=0/\st=1)->'Ӊ' {s with heap:=s.heap.push {cls:=.type "tuple",data:=.seq (pick items.toList (bZ items.size lo st)).toArray}})
  (hsz:'彠'):'剽':=by
 have htake:sizeOk ('孵'):=by
  show '屇'.toArray.size<=sizeLine
  have q:=pI '擈'
  have q2:=Ko '奠'
  unfold bZ at q;rw[av,List.length_range]at q;rw[ay];unfold bZ;omega
 show '告'
 unfold getItem
 show '呣'
 show '呱'
 refine '劈'
 refine ae ('呃'
  (wpAny_call_entry PyProof.Rows.slot_tuple_getitem ht.typeIs entry_tuple_getitem ?_ (args_tuple_getitem _ _)))
 show '刳' _ _ s
 show '呠'
 refine ae (TU hs hl h0 ?_);show 'N' (if ((lo:Int)==0&&(st:Int)==1&&dM items.size lo st==items.size)=true then _ else _) _ _ s
 by_cases c:lo=0/\st=1
 ·obtain⟨rfl,rfl⟩:=c;have e:dM '妱' 1=items.size:=by
   unfold dM
   by_cases q:0<items.size
   ·rw['九',Nat.div_one];omega
   ·rw['ӿ'];omega
  rw[if_pos ('俋')]
  obtain⟨⟨cls,dd,data,sl'⟩,ho,hc,n,hd⟩:=id ht;show '摲';show 'N' (Builtin.Tuple.tupleIsExact (.ref t)>>=_) _ _ _
  show '捻';refine ae (wpAny_typeOf '丿' 'ѓ');show 'N' (if ((Value.type "tuple" == Value.type "tuple")=true) then _ else _) _ _ _
  rw['ӛ']
  refine '匩';exact af ⟨_,rfl,af (hw '咈')⟩
 ·rw[if_neg (by
   intro q;rw[Bool.and_eq_true,Bool.and_eq_true,beq_iff_eq,beq_iff_eq]at q;exact c '底'),v7]
  have h:=h c
  first
   | exact '剭'
   | exact '唡'
   | exact '唢'
   | exact '唦'
section E
section
variable {X:Cx}{a lo st:Expr}{f g h:DE}{pos p2:Pos}
@[simp] def Af(f g h:DE):DE:=fun '['=>'ɔ' fun x m1=>g d m1 fun y m2=>h d m2 fun z m3=>∃ (xs:List PyData) (i j:Nat),x=.dat (.tuple xs)/\y=.dat (.int i)/\z=.dat (.int j)/\i<=xs.length/\0<j/\Q (.dat (.tuple (pick xs (bZ xs.length i j)))) m3
theorem j4['撁']:PE X '孨' ('S' (Af f g h)):=.mk <| by
 show '壚';refine Subscript_ (aM ('剒' (Mid X.K Z m H fun dx m1=>g d m1 fun y m2=>h d m2 fun z m3=>∃ (xs:List PyData) (i j:Nat),dx=.dat (.tuple xs)/\y=.dat (.int i)/\z=.dat (.int j)/\i<=xs.length/\0<j/\R (.dat (.tuple (pick xs (bZ xs.length i j)))) m3) I
  ⟨Z,d,m,_,ok,rs,hf,fun x m1 v H1 q e1 ok1 rd=>⟨x,m1,rd,q,e1,ok1⟩⟩) '寛')
 show '撚';refine aM (hl 'ͷ' ('唅' fun dy m2=>h d m2 fun z m3=>∃ (xs:List PyData) (i j:Nat),dx=.dat (.tuple xs)/\dy=.dat (.int i)/\z=.dat (.int j)/\i<=xs.length/\0<j/\R (.dat (.tuple (pick xs (bZ xs.length i j)))) m3) I1
  '媏') '宨'
 show '掏';refine aM (hs 'Ԟ' (fun z H3=>∃ (m3:Mu) (xs:',') (i j:Nat),dx='Ҋ'/\dy='ɥ'/\z='Ң'/\'儻'/\0<j/\R '啡' m3/\'喛') I2
  ⟨Z,d,m2,_,ok2,'ӟ',q2,fun z m3 u H3 ⟨xs,i,j,ex,ey,ez,hi,hj,q⟩ '姳'=>by subst ez;exact⟨m3,xs,i,j,ex,ey,rd3.int,hi,hj,q,e3,ok3⟩⟩) fun v3 s3 ⟨z,H3,I3,r3,m3,xs,i,j,ex,ey,ez,hi,hj,q3,e3,ok3⟩=>?_
 subst ex ey ez
 cases rd2.int
 show '挰'
 have rd0:=rd'
 show '挿'
 cases r1
 show '姆'
 have I4:'ʯ' H3 {s3 with heap:=s3.heap.push {cls:=.type "slice",data:=.fields #[.int i t2,.none,.int j t3]}}:='啺'
 show '损'
 refine '揨' (IE ht (Heap.IsSliceOf.new ..) (by rw[ay];omega) hj (fun c1 c2=>?_) (fun c=>?_) (by rw[ay];omega)) (by with_unfolding_all rfl)
 ·subst c1 c2;rw[LV,IT]at q3;exact⟨.ref a',H3,I4,rfl,'偨' _ q3 (e1.trans (e2.trans e3)) ok3 rd0⟩
 ·have zl:'劾'.length<=sizeLine:=by
   have q1:=pI vs '囑'
   have q2:=Ko vs.length i j
   unfold bZ at q1;rw[av,List.length_range]at q1;unfold bZ;omega
  have pe:pick its.toArray.toList (bZ its.toArray.size i j)=pick its '囑':=by rw[ay,<- hlen]
  have hpk:RPs '佋' '巃' '劾':=by
   rw[hvl];exact hv.pick _
  refine⟨ '乭','不' _ (.tup (pick vs (bZ vs.length i j))),'宎',rfl,?_⟩
  ·rw[pe];exact '孀'
  ·have hp:='忉'
   have sm:=cF (o:=.tup '劾') hp
   show '掕'
section E
def TSet['ԕ']['到']['佧']:Prop :=
 ∃ o es ep t,'Υ'/\o.ExactSet/\'嚳'/\ElemsOf 'я' es.toList/\(∃ vs,StrsAre '廬' vs/\vs.Perm zs)/\zs.Nodup/\es.size<scanBound/\'忊'/\t.led='嗁'/\('廭')
theorem StrsAre.snoc:∀ {l:';'} {vs:'$'} (z:Str) (tk:Tok),StrsAre l vs->StrsAre (l++[.str z tk]) (vs++[z])
 | _,_,z,tk,.nil=>'V' z tk .nil
 | _,_,z,tk,'V' x t h=>'V' x t (StrsAre.snoc z tk h)
section
variable {P:Program}{w:World}{A:Around}{E:'K'}{s:Shared}{a:Addr}{zs:'$'}{z:Str}{tk:Tok}
theorem TSet.len['ˌ'](T:'愄'):∃ o es ep t,'Υ'/\'嚳'/\es.size=zs.length:=by
 obtain⟨o,es,ep,t,h1,_,h3,_,⟨vs,h5,h6⟩,_⟩:=T;refine⟨o,es,ep,t,h1,h3,?_⟩;have q1:='Ԙ' h5.strs
 have q2:=h6.length_eq
 simp at q1;omega
section E
section
variable {P:Program}{w:World}{A:Around}{R:'今'}{I:Addr}{fp wr:'Ʌ'}{G:'儒'->'儒'->Prop}{n:Nat}{Pv:Nat->'扠'}{St:'囲'}
theorem TSet.at['Ԫ']['咪'](T:'愄')(k:'劗'):TSet P w h' a zs:=by
 obtain⟨o,es,ep,t,ho,rest⟩:=T;exact⟨o,es,ep,t,k o ho,rest⟩
section E
section
variable {P:Program}{w:World}{A:Around}{E:'K'}{s:Shared}{S:Addr}{zs:'$'}
theorem TSet.type['ˌ'](T:TSet P w h S zs):'展':=let ⟨o,_,_,_,ho,hx,_⟩:=T;'坃'
section E
section
variable {K:ad}{Z:'7'}{m:Mu}{H:Hp}
theorem RD.rw['ԫ'](h:'ϋ'):'ӫ':=by
 cases x with
 | dat p=>exact h
 | cel a=>exact h.1
theorem RW.rd['ԫ'](h:'ӫ')(hc:∀ a,x='ʕ'->'区'):'ϋ':=by
 cases x with
 | dat p=>exact h
 | cel a=>exact⟨h,hc a rfl⟩
theorem RKW.length['傄']:∀ {fs:'乏'} {vs:'Ɏ'},'僩'->vs.length=fs.length
 | [],_,h=>'亿'
 | (_,_)::_,_,'僬'=>by subst h1;rw[List.length_cons,List.length_cons,h3.length]
theorem RKW.look{f:Str}:∀ {fs:'俏'} {vs:'ɯ'},'僩'->(∀ x,'俢'='ɚ'->∃ v,'护'='ɛ'/\'ӫ')/\('俢'=none->'护'=none)
 | [],_,h=>by cases '侬';exact⟨ '徃','企'⟩
 | '俹',_,'Ӟ'=>by
  subst h1;obtain⟨i1,i2⟩:=h3.look (f:=f)
  by_cases e:f=g
  ·have b:(f==g)=true:=beq_iff_eq.mpr e
   simp only[List.lookup,b];exact⟨ '屩',fun q=>('塑')⟩
  ·have b:(f==g)=false:='帮'
   simp only[List.lookup,b];exact '报'
def putO(f:Str)(v:D):'俏'->'俏'
 | []=>[(f,v)]
 | (g,x)::r=>if g=f then (g,v)::r else (g,x)::putO f v r
theorem RKW.putO{f:Str}['妿']:∀ {fs:'俏'} {vs:'ɯ'},'僩'->'϶' (DL.putO f x fs) (dS f v vs)
 | [],_,h=>'孶'
 | '俹',_,'僡'=>by
  subst h1;unfold DL.putO dS
  by_cases e:g=f
  ·rw['қ','қ'];exact⟨v,r,rfl,hx,h3⟩
  ·rw['Ҝ','Ҝ'];exact⟨w,_,rfl,h2,h3.putO hx⟩
theorem Ok.o['ɀ']{N:Str}{fs:'俏'}['ˉ'](h:m a='即'):∃ C dx vs,H a=some ('刽' vs)/\'啑'/\'僩':=by
 show 'ԙ'
 cases o<;>first | exact⟨_,_,_,h1,h2⟩ | show 'ѳ'
section E
section
variable {X:Cx}{o e:Expr}{es:'W'}{fo fe:DE}{ga:DA}{pos pos' tpos apos p:Pos}{N f:Str}{C:Addr}
@[simp] def kT(N f:Str)(fo:DE):DE:=fun '['=>'丒' fun x m1=>∃ a fs y,x=.cel a/\m1 a=some (.o N fs)/\fs.lookup f=some y/\(∀ b,y=.cel b->(m1 b).isSome=true)/\Q y m1
theorem p9['咙'](n:'卫')(ho:'м')(hb:autoParam ('佅' f X.env (eval o X.env)='ф') zau0._auto_1):PE X ('ӊ' f pos) ('S' (kT N f fo)) :=
 PE.imp (QF ho hb) fun 'ʙ'=>by
  show '妰';obtain⟨a,fs,y,rfl,hm,hl,hc,q⟩:=q;show '捕'
  cases h2
  obtain⟨v',l1,l2⟩:=h3.look.1 _ hl;show '划';exact⟨a,C,dx,vs,v',rfl,h1,c,n,l1,k y m1 v' '亃' (l2.rd hc)⟩
@[simp] def wD(N f:Str)(fo fe:DE):DS:=fun '΄'=>fe d m fun y m1=>'偼' fun x m2=>∃ a fs,x=.cel a/\m2 a=some (.o N fs)/\fs.length<1000/\E.nx d (aP m2 a (.o N (putO f y fs)))
theorem Ov['咙'](n:'卫')(he:'Ѹ' (LE X.K fe))(ho:'м')(hs:autoParam ('初' (some (.Attribute o f pos')) pos.line X.env='Ϙ') zau0._auto_1) :
  PS X ('ͱ' ['嚡'] e pos) ('ʛ' (wD N f fo fe)):=PS.imp (O7 ho he hs) fun 'Η'=>by
 show 'Ѥ';refine⟨Z,d,m,_,ok,rs,h,fun y '偖' r1=>⟨Z,d,m1,_,ok1,'ɦ',q,fun x '偀'=>?_⟩⟩;obtain⟨a,fs,rfl,hm,hl,q⟩:=q2;obtain⟨C',dx,vs,h1,h2,h3⟩:=ok2.o hm;rw[g]at h2
 cases h2
 show '妘';refine⟨a,C,dx,vs,rfl,h1,c,n,by rw[h3.length];exact hl,?_⟩
 have e3:'唄' (aP m2 a (.o N (putO f y fs))) (upd H2 a (.ins C dx (dS f v vs))):='姐' hm h1
 exact '哃' (e1.trans (e2.trans e3)) (ok2.put hm h1 ⟨g,h3.putO (r1.ext e2).rw⟩) ((rs.ext e1).ext (e2.trans e3))
@[simp] def mK(N mn:Str)['哈'](fo:DE)(ga:DA):DE:=fun '['=>'丒' fun x m1=>∃ a fs,x=.cel a/\m1 a=some (.o N fs)/\fs.lookup mn=none/\ga d m1 fun xs m2=>(x::xs).length=n/\sp (x::xs) m2 Q
theorem HQ['凾']['咙'](hm:'哌' f fa)['妑'](hb:'他')
  ['佦'] (ho:'м') ['偦']
  ['奔'] {pl:'冽'}
  (ht:autoParam ('孩'=(do
   let ov <- 'ф'
   '嚣'
   let '塠' <- '崖'
   '唠')) zau0._auto_1) :
  '媠' :=
 PE.imp (CV (pl:=pl) ho c hm '偺' .nil '埳' ha hst hpl ht) fun 'ʙ'=>by
  show '妰';obtain⟨a,fs,rfl,hm,hl,q⟩:=q;show '捕'
  cases h2
  obtain⟨rfl,hsome⟩:=rd;refine⟨a,dx,vs,rfl,h1,h3.look.2 hl,Z,d,m1,_,ok1,'ɦ',q,fun xs m2 ws H2 '戮' '利'=>?_⟩;exact⟨Z,'報',m2,R,ok2,⟨ 'ϥ',ws,'f',⟨rfl,e2.c _ hsome⟩,rd2⟩,hl2,q2,fun '咞'=>k '刂' (e1.trans '憯') h3 h4⟩
theorem F9{k:Nat}['咵']{sp:Sp}['亅']{Q:VK}['咉'](M:Mk X.K C f)(F:FnOk '倧' cY k '别')['揋']
  (h:∀ x dx,H x=none->H dx=none->dx≠x->X.K.lookup x=none->X.K.lookup dx=none->sp ('凛'::vs) '啭' (fun v H2=>v=.non/\Q 'ҙ' H2) E0) :
  '嫌':=by
 have hk:∀ a,'嚞'->'戯'=none:=fun a ha=>by
  cases e:'戯' with
  | none=>rfl
  | some o=>exact absurd '怙' (Nat.not_lt.mpr ha)
 have hq:=h 'υ' s.heap.objs.size (I.hok.fresh ('儦')) '価' ('噀') (hk _ ('儦')) (hk _ 'ɑ')
 have I2:=Inv.made (C:=C) I
 have r2:Vals (V.ref 'υ'::vs) ('傢'):='哿' r
 have hl:('傢'++[]).length=ps.length:=by
  have e:=r2.length
  rw[F.len 'ƶ' hq]at e;rw[List.append_nil];exact e.symm
 have hb':=hb _ ('傢') I2.kIn hl
 rw[List.append_nil]at hb';refine wpAny_call (Yw (f:=f) I.kIn M.makes M.init (beq_iff_eq.mp M.fn) (codeAny_mono (F.run _ X.stack _ _ ⟨ '傢',[]⟩ ('傢') _ _ E0 (hr.make C us [])
  (I2.env0.make C us []) hb' r2 hq) fun r s' hq'=>?_))
 cases r with
 | error e=>exact '却'
 | ok fl =>
  cases fl with
  | ret u =>
   obtain⟨v,H',I3,rv,ev,q3⟩:=I2.after hq';subst ev;exact⟨rv,⟨V.ref 'υ',H',I3,rfl,q3⟩⟩
  | next=>exact '却'
  | brk=>exact '却'
  | cont=>exact '却'
@[simp] def pW(N:Str)['哈'](ga:DA):DE:=fun '['=>ga d m fun 'ʥ'=>'俦'=n/\∀ a,'召'->sp ('報') (aP m1 a '塷') fun v m2=>v='俯'/\'佮' m2
theorem make_core['凾']['亅']{Q:VK}['咉']{xs:'ɿ'}{Z:'7'}['Һ']
  (g:'亷') (M:'抧') (F:'佴') ['揋'] (ok:'仯') (rd:'唁' xs vs) (hn:'俦'=n) (q:∀ a,'习'->sp ('報') ('ӎ' (.o N [])) fun v m2=>v='俯'/\R 'Ϡ' m2)
  (k:∀ x m' v H',R x m'->'仍'->'Ө'->RD '刪' x v->'倐'):'嫌':=by
 refine F9 M '偺' I r fun x dx hx hdx ne kx kdx=>?_;have sm:'Θ' (upd H dx (.own x)):=cF hdx
 have ok1:=ok.grow sm
 have e1:=ok.ext sm
 have hx1:'ͼ' dx (.own x) x=none:=by rw[bF (Ne.symm ne)];exact hx
 have e2:'剃' m (upd H dx (.own x)) (aP m x (.o N [])) (upd (upd H dx (.own x)) x (.ins C dx [])):='妬' hx1 kx
 have ok2:Ok X.K Z ('圛') '啭':=ok1.cell hx1 kx ⟨g,rfl⟩
 refine⟨Z,.cel x::xs,'圛',_,ok2,⟨ '凛',vs,rfl,'侐',rd.ext 'ˏ'⟩,'囵',q x (eI ok hx).1,fun d m' v' H' '厰' e3 ok3 r3=>?_⟩
 subst h1;refine⟨by simpa only[RD,RP] using r3,k _ m' _ H' h2 '両' ok3 ⟨rfl,e3.c _ ('憶')⟩⟩
theorem zm4['凾'](g:'亷')(M:'抧')(hm:'径')(F:'佴')(hr:'坢')(hb:'他')
  (hg:'嵂') (hdb:'孪'):'孁':=.mk <| by
 show 'ʢ';obtain⟨Z,d,m,R,ok,rs,⟨q1,q2⟩,k⟩:=h;refine '屷';exact PySem.W.callWith_K0 I.kIn M.kp (make_core g M '偺' I .nil ok (show '唁' [] [] from rfl) 'Ι' k)
section E
section
variable {κ β:Type}[DecidableEq κ]
def cX['妨']:'塳':='啚'
def fB['妨'](v:β):'ҏ' :=
 '婀'
theorem iD['撂'](e:'Β'):'抨'='伒':='嶞'
theorem gZ['撂'](e:¬ 'Β'):'抨'=cX r k:='嶞'
theorem xZ(k:κ):∀ kvs:'ҏ','亾'='悀'
 | []=>rfl
 | p::r=>by
  rw[List.any_cons]
  show 'Ԧ'
  ·simp only[iD e,'圏',Bool.true_or,Option.isSome_some]
  ·rw[gZ e,'囫',Bool.false_or];exact xZ k r
theorem Ex['姥']:∀ kvs:'ҏ',cX '劆' j=('墧').map fun x=>if j=k then y else x
 | []=>rfl
 | p::r=>by
  have ih:=Ex k j y r
  rw[au]
  by_cases h:'Β'
  ·rw[if_pos h]
   by_cases e:p.1=j
   ·rw[iD (p:=(p.1,y)) e,iD e,Option.map_some,if_pos (e.symm.trans h)]
   ·rw[gZ (p:=(p.1,y)) e,gZ e,ih]
  ·rw['伐']
   by_cases e:p.1=j
   ·rw[iD (p:=p) e,iD e,Option.map_some,if_neg (fun z=>h '抩')]
   ·rw[gZ (p:=p) e,gZ e,ih]
theorem Im['姥']:∀ kvs:'ҏ','吒'=none->cX (kvs++[(k,y)]) j='崗'
 | [],_=>by
  by_cases e:k=j
  ·rw[if_pos e.symm];exact iD (p:=(k,y)) e
  ·rw[if_neg (fun z=>e z.symm)];exact gZ (p:=(k,y)) e
 | p::r,hn=>by
  rw[List.cons_append];have hk:¬ 'Β':=fun z=>by rw[iD z]at hn;cases hn
  rw[gZ hk]at hn;have ih:=Im k j y r hn
  by_cases e:p.1=j
  ·rw[iD e,iD e,if_neg (fun z=>hk '抩')]
  ·rw[gZ e,gZ e,ih]
theorem Jb(kvs:'ҏ')['姥']:cX (fB 'Ͽ' y) j='崗':=by
 unfold fB
 by_cases a:'喌'
 ·rw[if_pos a,Ex];rw[xZ]at a
  by_cases e:j=k
  ·obtain⟨x,hx⟩:=Option.isSome_iff_exists.mp a;rw['қ',e,hx,Option.map_some,'ɘ']
  ·rw['Ҝ']
   cases '墧' with
   | none=>rfl
   | some x=>rw[Option.map_some,'Ҝ']
 ·rw[if_neg a];refine Im k j y kvs ?_;rw[xZ]at a
  cases q:'吒' with
  | none=>rfl
  | some x=>rw[q]at a;exact(a rfl).elim
end
mutual section G
theorem YF['妨'](v:β):(fB 'Ͽ' v).length<='垲':=by
 unfold fB
 split
 ·rw[av];omega
 show '挧'
section E
section
variable {κ:Type}[DecidableEq κ]{K:ad}{Z:'7'}{m:Mu}{H:Hp}
theorem RKW.val{k:κ}:∀ {kvs:'乏'} {vs:'Ɏ'},'ӝ'->(∀ x,'吒'='ɚ'->∃ v,'慣'/\'ӫ')/\'悀'='惇'
 | [],_,h=>by cases '侬';exact⟨ '徃',rfl⟩
 | '俹',_,'Ӟ'=>by
  subst h1;obtain⟨i1,i2⟩:=h3.val (k:=k)
  by_cases e:g=k
  ·rw[iD (p:=(g,y)) e,mX (p:=(g,v)) e];exact⟨ '屩',rfl⟩
  ·rw[gZ (p:=(g,y)) e,mV (p:=(g,v)) e];exact '报'
theorem RKW.any{k:κ}:∀ {kvs:'乏'} {vs:'Ɏ'},'ӝ'->'嫴'
 | [],_,h=>'亿'
 | '俹',_,'Ӟ'=>by subst h1;rw[List.any_cons,List.any_cons,h3.any]
theorem RKW.repl{k:κ}['妿']:∀ {kvs:'乏'} {vs:'Ɏ'},'ӝ'->'϶' (kvs.map fun kv=>if kv.1=k then (kv.1,x) else kv) (vs.map fun kv=>if kv.1=k then (kv.1,v) else kv)
 | [],_,h=>'亿'
 | '俹',_,'僡'=>by
  subst h1;rw[au,au]
  by_cases e:g=k
  ·rw[if_pos (show '悁' from e),if_pos (show '悂' from e)];exact⟨v,_,rfl,hx,h3.repl hx⟩
  ·rw[if_neg (show ¬ '悁' from e),if_neg (show ¬ '悂' from e)];exact⟨w,_,rfl,h2,h3.repl hx⟩
theorem RKW.snoc{k:κ}['妿']:∀ {kvs:'乏'} {vs:'Ɏ'},'ӝ'->'϶' (kvs++[(k,x)]) (vs++[(k,v)])
 | [],_,h=>'孶'
 | '俹',_,'僡'=>by subst h1;exact⟨w,_,rfl,h2,h3.snoc hx⟩
theorem RKW.put{k:κ}['ԫ']{kvs:'乏'}{vs:'Ɏ'}(h:'ӝ')(hx:'ӫ'):'϶' (fB kvs k x) (bW vs k v):=by
 unfold fB bW;rw[h.any]
 split
 ·exact h.repl hx
 ·exact h.snoc hx
theorem Ok.n['ɀ']{kvs:'仈'}['ˉ'](h:m a='俒'):∃ vs,H a=some (.dN K vs)/\'ӝ':=by
 show 'ԙ'
 cases o<;>first | (obtain⟨rfl,h2⟩:=h2;exact '久') | show 'ѳ'
mutual
theorem RP.nkv:∀ (p:PyData) (v:V),'懄'->'ˀ'->'埞'
 | 'ɳ',_,_,h=>'尠'
 | 'ɺ',_,_,h=>'尠'
 | 'ʠ',_,hk,h=>by
  show '倣';simp only[NKV];show '擫';exact⟨a,vs,e,h1,RPs.nkv 'ɽ' hk h2⟩
 | '&',_,h,_ | 'ʫ',_,h,_ | 'ʹ',_,h,_ | 'ʬ',_,h,_=>'忋'
theorem RPs.nkv:∀ (ps:',') (vs:'3'),'愅'->'о'->'坑'
 | [],_,_,h=>by show 'ұ';simp only[NKVs];exact h
 | 'Ҩ',_,hk,h=>by
  simp only[L2.isKs,Bool.and_eq_true]at hk;show 'ұ';simp only[NKVs];show '攤';exact⟨v,r,e,RP.nkv p v hk.1 h1,RPs.nkv ps r hk.2 h2⟩
end
section E
section
variable {X:Cx}{pins:'<'}{σ:L2.St}{H:Hp}{s:Shared}
mutual
theorem NKV.reads['O']:∀ (p:PyData) (v:V) (u:Value),NKV X.K H p v->'˄'->'嘂'
 | 'Ⱥ',v,u,h,r=>by show '攈';exact '悫'
 | '˖',v,u,h,r=>by show '攈';exact '悬'
 | 'ʠ',v,u,h,r=>by
  show '刓';show '撍'
  cases r
  show '捤';obtain⟨as,q⟩:=NKVs.reads '攔';exact '屣'
 | '&',_,_,h,_ | 'ʫ',_,_,h,_ | 'ʹ',_,_,h,_ | 'ʬ',_,_,h,_=>'弶'
theorem NKVs.reads['O']:∀ (xs:',') (vs:'3') (us:';'),NKVs X.K H 'ɽ'->'Ғ'->'崱'
 | [],vs,us,h,r=>by show '咡';subst h;cases r;exact '戏'
 | 'ȶ',vs,us,h,r=>by
  show '咡';show '撺'
  cases r with
  | cons r1 r2 =>
   obtain⟨as,q1⟩:=NKV.reads I x v _ h1 r1;obtain⟨bs,q2⟩:=NKVs.reads I xs w _ h2 r2;exact '徴'
end
abbrev KN['哖']:'Π'->'ς'->Prop :=
 Paired fun p q=>'吜'/\(L2.isKs p.1=true/\'孈')/\'坒'
theorem KN.val['壯']:'尾':=by
 induction r with
 | nil=>show '偋'
 | @cons p q ps qs h t ih =>
  obtain⟨h1,_,h2⟩:=h
  show 'Ԧ'
  ·show '姃'
   have b:'幦':='劧'
   show '姌'
  ·show '咱'
   have b:'帄':='劧'
   show '姍'
theorem KN.repl['壯']['呯'] :
  '佲' (kvs.map fun kv=>if kv.1=k then (kv.1,y) else kv) (xs.map (putAt k u)):=by
 induction r with
 | nil=>exact .nil
 | @cons p q ps qs h t ih =>
  show '挸'
  show 'Ԧ'
  ·rw['қ','嘯'];exact '慇'
  ·rw['Ҝ','嗑'];exact '慈'
theorem KN.put['壯']{b:Addr}{y:V}['ӂ'](hb:'慯'/\'待'/\NKV K H '叏' '也')['傈'] :
  '佲' (bW kvs k y) (storedH xs k b u):=by
 have e:'亾'='匔':=by
  show '撌'
 unfold bW storedH;rw[e]
 by_cases q:'匔'=true
 show '攠'
 show '攡'
theorem pB['O']{k:','}{b:Addr}(h:'慯'/\'待'/\NKV X.K H '叏' '也'):'卟'.is s.heap k b :=
 ⟨h.1,h.2.1,NKV.reads I '!' 'Ԑ' rfl⟩
theorem yR['ɀ']{kvs:'Π'}['O'](e:H a=some '懅'):'҂'/\'ӕ'/\∃ xs,KN X.K H kvs xs/\s.heap.DictOfH '卟' a xs:=by
 obtain⟨z,y,xs,r,o,es,ep,h1,h2,h3,h4,h5⟩:=(show '妡' a (.dN X.K kvs) from I.hok a _ e)
 refine '宣';have all:∀ {l:'Π'} {m:'ς'},KN X.K H l m->∀ x∈m,'卟'.is s.heap x.1 x.2.1:=by
  intro l m q
  induction q with
  | nil=>show '擵'
  | @cons p q ps qs hq t ih =>
   show '搆'
   ·subst e;exact pB I '嶇'
   ·exact ih x hx
 exact all r x hx
theorem yA['亐'](hu:'恟'):'卟'.room A.in1:=by
 show A.in1.units+20<cLine
 rw[Around.in1_units];omega
section E
section
variable {X:Cx}{o i e:Expr}{fo fi f:DE}{pos tpos:Pos}
@[simp] def gM:D->'彭'
 | '圜'=>if '喐' then '伟' else none
 | _=>none
theorem zX{y:D}{ks:','}(h:'兀'):y='圜'/\'喐':=by
 unfold gM at h
 show 'ɉ'
 ·show 'ɉ'
  ·rename_i q;cases h;exact⟨rfl,q⟩
  ·cases h
 ·cases h
@[simp] def xA:DE:=fun _ m Q=>∀ a,'习'->'佮' (aP m a (.n []))
theorem CK['˯']{H:Hp}{K:ad}['ʤ'](hb:'噚'):'多' (.dN K []) :=
 ⟨ 'ɸ',by rw[beq_eq_false_iff_ne];exact(ao hb).symm,[],.nil,_,_,_,'˾','恔',rfl,rfl,List.nodup_nil⟩
theorem ZV:PE X '围' ('S' xA):=.mk <| by
 show '夰'
 have hk:'努':=by
  cases e:'傰' with
  | none=>rfl
  | some o=>exact '劑'
 refine wpAny_Dict_empty ⟨ '·',_,'凿' (o:=.dN X.K []) (t':=s.toks) (fun _ _ q=>ah _ q) (ak _) (CK s.heap I.big),rfl,?_⟩;exact '丌' (h _ (eI ok hp).1) (Ext.cell ok hp hk) (ok.cell hp hk (show RC _ _ _ _ (.n []) (.dN X.K []) from⟨rfl,rfl⟩)) ⟨rfl,by rw[bC];rfl⟩
@[simp] def yC(fo fi:DE):DE:=fun '['=>'丒' fun o m1=>fi d m1 fun y m2=>∃ c ks kvs x,o=.cel c/\gM y=some ks/\m2 c=some (.n kvs)/\cX kvs ks=some x/\(∀ b,x=.cel b->(m2 b).isSome=true)/\Q x m2
theorem D6['奊']:'哸' (LE X.K (yC fo fi)):=.mk <| by
 show 'ѧ';refine '呎' (aM (ho pins s σ H (Mid X.K Z m H fun ox m1=>fi d m1 fun y m2=>∃ c ks kvs w,ox=.cel c/\gM y=some ks/\m2 c=some (.n kvs)/\cX kvs ks=some w/\(∀ b,w=.cel b->(m2 b).isSome=true)/\R w m2) I
  ⟨Z,d,m,_,ok,rs,h,fun x m1 v H1 q e1 ok1 rd=>⟨x,m1,rd,q,e1,ok1⟩⟩) fun u s1 ⟨x,H1,I1,rx,ox,m1,rd,q,e1,ok1⟩=>?_)
 refine aM (hi 'ͷ' (fun y H2=>∃ m2 c ks kvs w,x='Ԉ'/\RD '佇' ('圜') y/\('喐')/\'囒'/\'冭'='伩'/\'岭'/\R w m2/\'喚') I1
  ⟨Z,d,m1,_,ok1,'ɦ',q,fun y m2 v2 H2 ⟨c,ks,kvs,w,eo,ey,hm,hv,hc,q2⟩ '哳'=>by subst eo;show '奎';show '划';exact⟨m2,c,ks,kvs,w,rfl,r2,hk,hm,hv,hc,q2,e2,ok2⟩⟩) fun iv s2 ⟨y,H2,I2,ry,m2,c,ks,kvs,w,ex,r2,hk,hm,hv,hc,q2,e2,ok2⟩=>?_
 show '夲';have r3:='姑' y hk.1 r2
 have r4:=r3
 show '壭';show '姇';obtain⟨ws,g1,g2⟩:=ok2.n hm;obtain⟨v,hv',rv⟩:=g2.val.1 _ hv;obtain⟨z,hd,xs,rel,dd⟩:=yR I2 g1;show '擩'
 show '擪';refine⟨dd.typeIs,wpAny_getItem_heap (yA hu) (pB I2 '匬') dd hp ?_⟩;rw[hp2];exact⟨v,H2,'墤',rw',k _ m2 v '伿' (rv.rd hc)⟩
@[simp] def uI(fo fi f:DE):DS:=fun '΄'=>'ɔ' fun x m1=>fo d m1 fun o m2=>fi d m2 fun y m3=>∃ c ks kvs,o=.cel c/\gM y=some ks/\m3 c=some (.n kvs)/\kvs.length<sizeLine/\E.nx d (aP m3 c (.n (fB kvs ks x)))
theorem zw6['搩'] :
  PS X '喕' ('ʛ' (uI fo fi f)):=.mk <| by
 show 'Ш';show 'Ѥ';refine wpAny_Assign_Subscript (aM (he 'b' ('偝' fun x m1=>fo d m1 fun o m2=>fi d m2 fun y m3=>∃ c ks kvs,o=.cel c/\gM y=some ks/\m3 c=some (.n kvs)/\kvs.length<sizeLine/\R.nx d (aP m3 c (.n (fB kvs ks x)))) I
  '唸') fun r s1 ⟨v,H1,I1,rv,x,m1,rx,q,e1,ok1⟩=>?_) hs
 refine aM (ho 'ͷ' ('唅' fun ox m2=>fi d m2 fun y m3=>∃ c ks kvs,ox=.cel c/\gM y=some ks/\m3 c=some (.n kvs)/\kvs.length<sizeLine/\R.nx d (aP m3 c (.n (fB kvs ks x)))) I1
  ⟨Z,d,m1,_,ok1,'ɦ',q,fun o '偀'=>⟨o,m2,r2,q2,e2,ok2⟩⟩) fun u s2 ⟨w,H2,I2,rw2,ox,m2,ro,q2,e2,ok2⟩=>?_
 refine aM (hi 'Ԟ' (Mid '佇' '娳') I2
  ⟨Z,d,m2,_,ok2,'ӟ',q2,fun y '妸'=>⟨y,m3,r3,q3,e3,ok3⟩⟩) fun iv s3 ⟨z,H3,I3,rz,y,m3,ry,⟨c,ks,kvs,eo,ey,hm,hl,q3⟩,e3,ok3⟩=>?_
 subst eo;show '奎';obtain⟨rfl,_⟩:=ro;obtain rfl:'仨':=rw2;have r3:='姑' z hk.1 ry
 have r4:=r3
 show '壭';obtain rfl:'儚':=rz;obtain⟨ws,g1,g2⟩:=ok3.n hm;obtain⟨z,hd,xs,rel,dd⟩:=yR I3 g1;have hz:'҅':='峃'
 have hl2:'戰'.length<=sizeLine:=by have:=qL ws ks v;rw[g2.length]at this;omega
 refine '掿' (yA hu) (pB I3 ⟨hk.1,hk.2,r3⟩) dd fun h' dd' hs'=>?_;show '採';have ht:∀ b' xs',H3 b'='愆'->'峥'='愆':=fun b' xs' e=>'寯'
 have hf:∀ b' ob u',H3 b'='悃'->'峥'='悃':=fun b' ob u' e=>'寯'
 refine⟨σ,'嵃',oH I3 (by rw[g1];show '偋') hs' '堧' ⟨hl2,hd,_,Paired.mapP (rel.put ks '匬' rv) ('媚'),q,es,ep,hq,h2,h3,h4,h5⟩,?_⟩
 have e4:Ext '佋' '嗧' ('嵃'):='困'
 exact k d _ σ _ q3 '喪' ('妠' ⟨rfl,g2.put ((rx.ext (e2.trans e3)).rw)⟩) '啫'
@[simp] def pP:D2
 | x,'ʡ',m,Q=>∃ ks kvs,gM x='伟'/\m c='俒'/\Q (.dat ('a' '強')) m
 | _,_,_,_=>False
theorem zp2['θ']:'刼' pP:=by
 show 'ʀ';unfold pP at h
 show 'ɉ'
 ·obtain⟨ks,kvs,ey,hm,q⟩:=h;show '奎';show '妘';obtain rfl:='嗥'
  have r3:='姑' x hk.1 r1
  have r4:=r3
  show '壭';obtain rfl:v='埭':=rx;obtain⟨ws,g1,g2⟩:=ok.n hm;obtain⟨z,hd,xs,rel,dd⟩:=yR I g1;refine wpAny_notIn_heap (yA hu) (pB I '匬') hd dd ?_;have e:=(rel.val ks).isSome_eq
  rw[Option.isSome_map]at e;rw[<- e,<- (g2.val (k:=ks)).2];exact⟨.bl '強',H,'ʺ',rfl,'˳'⟩
 show 'ɞ'
@[simp] def vP:DC
 | '凁',m,Q=>∃ kvs,m a='仧'/\Q (.dat (.int kvs.length)) m
 | _,_,_=>False
theorem Zw:'Ѵ' (.builtin "len") vP:=by
 show '亂';unfold vP at h
 show 'ɉ'
 ·show 'Ԕ';show '妖';obtain⟨kvs,hm,q⟩:=h;obtain⟨vs,h1,h2⟩:=ok.d hm
  cases rv with
  | cons r1 r2 =>
   cases r2
   obtain rfl:=(show _='抠' from r1)
   refine NN I ('伞') fun t s' I'=>⟨.int vs.length,H,I','埩',?_⟩;show '傁';exact '嵠'
 show 'ɞ'
section E
section
variable {X:Cx}{o e:Expr}{f g:DE}{pos:Pos}
@[simp] def nA:D2
 | .dat ('a' a),'ө',m,Q=>Q (.dat ('a' (!(a==b)))) m
 | '俯','ө',m,Q=>Q ('僮') m
 | _,_,_,_=>False
theorem zw7:bX X '嚿' nA:=by
 show 'ʀ';unfold nA at h
 show 'ɉ'
 ·rename_i a b
  cases r1.bl
  cases r2.bl
  cases rx
  cases ry
  refine wpAny_isNot_plain 'ʚ';have e:(Value.bool a=='垢')=(a==b):=by cases a<;>cases b<;>rfl
  rw[e];exact⟨.bl (!(a==b)),H,I,rfl,'什'⟩
 ·have e:x=.non:=by simpa only[RD,RP] using r1
  subst e
  cases r2.bl
  cases rx
  cases ry
  exact wpAny_isNot_other rfl '忯' ⟨ '冼',H,I,rfl,'什'⟩
 show 'ɞ'
section E
def fL(sl:'囓')(led:Bool)['傊']:SetTable:={mask:=7,place:='儈',dummies:=#[],finger:=0,led:=led,moves:=0,plain:=true}
def sL['傊'](tks:List Tok):'仗':=(List.zipWith (fun z t=>(hashInt z,Value.int z t)) zs tks).toArray
structure SD where
 dom:'Q'
 sub:'Q'->Prop
 sl:'囓'
 to:'怣'
 ins:'Q'->Int->'Q'
 cap:Nat
 nil:sub []
 nil':sl []=[]
 len:∀ zs,'凤'->zs.length<=3/\(∀ led,'坣'.fits zs.length=true)
 free:∀ led zs,'凤'->∀ z∈dom,z∉zs->zs.length<cap->'坣'.freeSlot '抪'=some (to zs z,false)/\'坣'.put (to zs z)=('嚒','啼')/\('嚒').fits ('埽')=true /\
  '吓'=zs.take ('啼')++z::zs.drop ('啼')/\sub ('吓')/\('嚒').tooFull=false
 old:∀ zs,'凤'->∀ z∈zs,'吓'=zs
 st:∀ zs,'凤'->∀ i j:Nat,('儈')[i]?='Т'->'夺' (j+1)=i+1
 bel:∀ zs,'凤'->'夺' 0=0
def ISetB(B:SD)['ԕ']['到']['傊']:Prop :=
 ∃ o tks ep,'Υ'/\o.ExactSet/\B.sub zs/\'徆'/\o.data=.set '披' ep (fL B.sl ('嗁') zs)
theorem ISetB.at{B:SD}['˯']['Ԫ']['ɀ']{zs:'Q'}(T:'姙' h a zs)(k:'劗'):'姙' h' a zs:=by
 obtain⟨o,tks,ep,ho,rest⟩:=T;exact⟨o,tks,ep,k o ho,rest⟩
theorem size3{zs:'Q'}{tks:List Tok}(hl:'徆'):'披'.size=zs.length:=by
 unfold sL;rw[ay,List.length_zipWith];omega
section
variable {P:Program}{w:World}{A:Around}{E:'K'}{s:Shared}{S:Addr}{zs:'Q'}{B:SD}
theorem ISetB.type['ˌ'](T:'姙' h S zs):'展':=let ⟨o,_,_,ho,hx,_⟩:=T;'坃'
section E
def Lr(z:Int):Nat:=if z=-1 then 6 else z.toNat
def zs5:List ('Q'):=[[],[0],[1],[-1],[0,1],[0,-1],[1,-1],[0,1,-1]]
theorem st3:∀ zs∈zs5,∀ i:Fin 3,(match ('忌')[i.val]? with | none=>true | 'Т'=>decide (SetTable.below '忌' '乿'=i.val+1))=true:='c'
section
variable {X:Cx}{elt tg iter:Expr}{ifs:'W'}{scope:Scope}{NC:'$'}{fi:DI}{g:DG}{t:DT}{f:DE}{pos:Pos}
theorem qU:∀ {vs:';'} {ys:'Q'},IntsAre vs ys->Vals (ys.map V.int) vs
 | _,_,.nil=>.nil
 | _,_,'V' z t h=>'幥'
section E
section
variable {X:Cx}{a:Expr}{f:DE}{pos p2 p3:Pos}
theorem Vals.rel:∀ {xs:'3'} {us:';'},'ʩ'->'徘'/\∀ (i:Nat) x u,'т'->'憓'->'Ӽ'
 | _,_,.nil=>'峈'
 | _,_,'ъ'=>⟨by simp['戱'.1],fun i x u e1 e2=>by
  cases i with
  | zero=>cases e1;cases e2;exact r
  | succ i=>exact '戱'.2 i x u '姏'⟩
end
mutual section G
theorem RPs.rel['ɣ']:∀ {xs:','} {vs:'3'},'ʧ'->xs.length=vs.length/\∀ (i:Nat) x u,'т'->vs[i]?='ɻ'->'偯' x u
 | [],vs,h=>by
  cases '徲'
  exact '峈'
 | 'Ҩ',vs,h=>by
  show '夬';obtain⟨q1,q2⟩:=RPs.rel h2;refine⟨by simp[q1],fun i x u e1 e2=>?_⟩
  cases i with
  | zero=>cases e1;cases e2;exact h1
  | succ i=>exact q2 i x u '姏'
section E
mutual
@[simp] def rB:PyData->'厒'
 | 'Ⱥ','Ң'=>decide (i=j)
 | '˖','ԃ'=>'Ґ'
 | 'ʠ',':' ys=>keqs 'Ϳ'
 | _,_=>false
@[simp] def keqs:','->'囪'
 | [],[]=>true
 | 'ȶ',y::ys=>rB x y&&keqs 'Ϳ'
 | _,_=>false
end
def kL{β:Type}(kvs:'悄')(k:PyData):'塳':=(kvs.find? fun kv=>rB kv.1 k).map 'Ϧ'
theorem Ax{β:Type}{p:PyData×β}{r:'悄'}{k:PyData}:kL (p::r) k=if rB p.1 k=true then '伒' else kL r k:=by
 unfold kL;rw[List.find?_cons]
 cases rB p.1 k<;>rfl
section
variable {K:ad}{Z:'7'}{m:Mu}{H:Hp}
theorem RPd.val{k p:PyData}:∀ {kvs:'侘'} {vs:'Ќ'},'匥'->kL 'Ͽ'='͵'->∃ v,kL vs k='ɛ'/\'ˀ'
 | [],_,_,e=>'щ'
 | '俸',_,h,e=>by
  show '士';rw[Ax]at e ⊢
  split at e
  ·rename_i c;rw['Ϣ']
   cases e
   exact '卮'
  ·rename_i c;rw['˿'];exact RPd.val h3 e
theorem RPd.val_none{k:PyData}:∀ {kvs:'侘'} {vs:'Ќ'},'匥'->kL 'Ͽ'=none->kL vs k=none
 | [],_,h,_=>'峻'
 | '俸',_,h,e=>by
  show '士';rw[Ax]at e ⊢
  split at e
  ·cases e
  ·rename_i c;rw['˿'];exact RPd.val_none h3 e
theorem RPd.keys:∀ {kvs:'侘'} {vs:'Ќ'},'匥'->'俎'='儕'
 | [],_,h=>'峻'
 | '俸',_,h=>by
  show '士';rw[au,au,RPd.keys h3]
section E
section
variable {X:Cx}{pins:'<'}{σ:L2.St}{H:Hp}{s:Shared}
mutual
theorem NKV.rp['哜']:∀ (p:PyData) (v:V),'埞'->'ˀ'
 | 'ɳ',_,h=>'尡'
 | 'ɺ',_,h=>'尡'
 | 'ʠ',_,h=>by
  show '刓';show '傂';show '擫';exact⟨a,vs,e,h1,NKVs.rp 'ɽ' h2⟩
 | '&',_,h | 'ʫ',_,h | 'ʹ',_,h | 'ʬ',_,h=>'弶'
theorem NKVs.rp['哜']:∀ (ps:',') (vs:'3'),'坑'->'о'
 | [],_,h=>by show '咡';show '亞';exact h
 | 'Ҩ',_,h=>by
  show '咡';show '亞';show '攤';exact⟨v,r,e,NKV.rp p v h1,NKVs.rp ps r h2⟩
end
section E
section
variable {X:Cx}{a tg:Expr}{f:DE}
theorem Ok.fd['偏']{xs:'ɾ'}['ˉ'](h:m a=some (.fd xs)):∃ ob vs,H a=some (.frz ob '墘')/\'僫':=by
 show 'ԙ'
 cases o with
 | frz ob u=>show '掋'
 | _=>show 'ѳ'
section E
mutual
theorem Dy['Ԫ'](hk:'啶'):∀ (p:PyData) (v:Value) (as:'Ʌ'),'懄'->'崨'
 | 'ɳ',_,_,_,r=>'帬'
 | 'ɺ',_,_,_,r=>'席'
 | 'ʠ',_,_,hi,r=>by
  cases r with
  | tuple h1 h2 h3 h4=>exact ':' (hk _ _ h1) h2 h3 ('摥' _ hi h4)
 | '&',_,_,h,_ | 'ʫ',_,_,h,_ | 'ʹ',_,_,h,_ | 'ʬ',_,_,h,_=>'忋'
theorem readsAll_old['Ԫ'](hk:'啶'):∀ (ps:',') (vs:';') (as:'Ʌ'),'愅'->'尻'
 | [],_,_,_,r=>'弈'
 | 'ȶ',_,_,hi,r=>by
  simp only[L2.isKs,Bool.and_eq_true]at hi
  cases r with
  | cons r1 r2=>exact 'V' (Dy hk x _ _ hi.1 r1) ('摥' _ hi.2 r2)
end
section
variable {prog:Program}{w:World}{A:Around}{E:'K'}{s:Shared}
theorem Vd['Ԫ']{k:','}['ɀ'](hk:'啶')(x:'兞'.is h k a):'兞'.is h' k a:=by
 obtain⟨k1,k2,as,r⟩:=x;exact⟨k1,k2,as,Dy hk '!' k1 r⟩
noncomputable def Lw(acc r:'ς'):'ς':=r.foldl (fun acc kv=>storedH acc kv.1 kv.2.1 kv.2.2) acc
def RawN['刅'](hb h:Heap)(d:Addr)(xs:'ς'):Prop :=
 (∃ o es ep,'南'/\o.ExactDict/\'丮'/\es.toList=xs.map (entryOfKey '兞')/\'勫')/\∀ x∈xs,'兞'.is hb x.1 x.2.1
theorem RawN.of{hb h:Heap}['摠'](hk:∀ b o,'单'->'ϊ'):h.DictOfH '兞' d xs:=by
 obtain⟨⟨o,es,ep,h1,h2,h3,h4,h5⟩,h6⟩:=r;exact⟨o,es,ep,h1,h2,h3,h4,fun x hx=>Vd hk (h6 x hx),h5⟩
theorem RawN.at{hb h h':Heap}['摠'](hk:∀ o,'南'->h'.get? d='Y'):RawN 'в' hb h' d xs:=by
 obtain⟨⟨o,es,ep,h1,rest⟩,h6⟩:=r;exact⟨⟨o,es,ep,hk _ h1,rest⟩,h6⟩
section E
section
variable {K:ad}{Z:'7'}{m:Mu}{H:Hp}
noncomputable def Dv(acc:'仈')(r:'嘌'):'仈':=r.foldl (fun acc kv=>fB acc kv.1 (.dat kv.2)) acc
noncomputable def sX(acc:'Π')(r:'Π'):'Π':='尴'
abbrev upD(kvs:'嘌'):'仈':=kvs.map fun kv=>(kv.1,D.dat kv.2)
theorem RKW.puts:∀ {r:'嘌'} {ws:'Π'} {acc:'仈'} {aw:'Π'},'϶' acc aw->'϶' (upD r) ws->'϶' (Dv acc r) (sX aw ws)
 | [],ws,acc,aw,ha,hr=>by
  cases '征'
  exact ha
 | '乾'::r,_,acc,aw,ha,⟨v,ws,h1,h2,h3⟩=>by
  subst h1;show '϶' (Dv (fB acc k (.dat p)) r) (sX (bW aw k v) ws)
  exact RKW.puts (ha.put h2) h3
theorem KN.puts{ws:'Π'}{xs:'ς'}(t:'佲' ws xs):∀ {aw:'Π'} {ax:'ς'},'佲' aw ax->'佲' (sX aw ws) (Lw ax xs):=by
 induction t with
 | nil=>exact fun ha=>ha
 | @cons p q ps qs h t ih =>
  intro aw ax ha;obtain⟨h1,h2,h3⟩:=h;have:=KN.put ha p.1 (b:=q.2.1) h2 h3
  show '佲' (sX (bW aw p.1 p.2) ps) (Lw (storedH ax q.1 q.2.1 q.2.2) qs)
  rw[<- h1];exact ih this
section E
def dF(z:Int):Nat:=z.toNat%8
def tU(r:Nat):Nat:=(5*r+1)%8
def sl2:'囓'
 | 'β'=>if dF a≠dF b then [dF a,dF b] else if dF a<'塸' then [dF a,'塸'] else ['塸',dF a]
 | zs=>zs.map dF
def kC:'怣'
 | [a],z=>if dF a=dF z then tU (dF z) else dF z
 | _,z=>dF z
def jZ['傊'](z:Int):'Q':=if '凢' then zs else '婋'
def hV:'Q':=(List.range 32).map Int.ofNat
def ok2['佡']:Bool:=decide (a≠b)&&(match '叴' with | [i,j]=>'垪' | _=>false)
def zq7:'Q'->Prop
 | []=>True
 | [a]=>a∈hV
 | 'β'=>a∈hV/\b∈hV/\'埆'
 | _=>False
abbrev Sc(led:Bool)['傊'](z:Int):Prop:='愇'.freeSlot '抪'=some (kC zs z,false)/\'愇'.put (kC zs z)=('嚓','啷')/\('嚓').fits ('埽')=true /\
  jZ zs z='婋'/\('嚓').tooFull=false
theorem Qb:∀ led:Bool,∀ z∈hV,Sc led [] z:='c'
theorem Zt:∀ led:Bool,∀ a∈hV,∀ z∈hV,z≠a->Sc led [a] z/\(jZ [a] z=[a,z]/\ok2 a z=true\/jZ [a] z=[z,a]/\ok2 z a=true):='c'
theorem Kz:∀ a∈hV,'摸' (dF a+1)=1/\'摸' 0=0:='c'
theorem vU:∀ a∈hV,∀ b∈hV,'埆'->SetTable.below ('叴').toArray 0=0/\(match '叴' with | [i,j]=>decide ('搶' (i+1)=1/\'搶' (j+1)=2) | _=>false)=true/\(∀ led,('姴' [a,b]).fits 2=true):='c'
def B2:SD where
 dom:=hV
 sub:=zq7
 sl:=sl2
 to:=kC
 ins:=jZ
 cap:=2
 nil:=True.intro
 nil':=rfl
 len:=fun zs h=>by
  match zs,h with
  | [],_=>exact⟨ 'ğ','ğ'⟩
  | [a],h=>exact⟨ 'f',fun led=>(Qb led a h).2.2.1⟩
  | 'β',h=>exact⟨ 'f','嘹'.2.2⟩
 free:=fun led zs h z hz hn hc=>by
  match zs,h with
  | [],_ =>
   obtain⟨a,b,c,d,e⟩:=Qb led z hz;exact⟨a,b,c,d,hz,e⟩
  | [x],h =>
   obtain⟨⟨a,b,c,d,e⟩,g⟩:=Zt led x h z hz ('囵')
   refine⟨a,b,c,d,?_,e⟩;rcases g with⟨g,k⟩ | ⟨g,k⟩
   ·rw[g];exact⟨h,hz,k⟩
   ·rw[g];exact⟨hz,h,k⟩
  | 'ϩ',h=>exact absurd hc 'U'
 old:=fun zs _ z hz=>by unfold jZ;rw[if_pos hz]
 st:=fun zs h i j g=>by
  match zs,h with
  | [],_=>simp[sl2]at g
  | [a],h =>
   have g:('坤')[i]?='Т':=g
   match i,g with
   | 0,g =>
    obtain rfl:dF a=j:='圝'
    exact(Kz a h).1
   | i+1,g=>simp at g
  | 'β',h =>
   have q:='嘹'.2.1
   have ok:'埆':='Ԑ'
   unfold ok2 at ok
   generalize '叴'=l at q g ok ⊢
   match l,ok,q,g with
   | 'ϩ',_,q,g =>
    have q:='徶'
    match i,g with
    | 0,g =>
     obtain rfl:x=j:='圝'
     exact q.1
    | 1,g =>
     obtain rfl:y=j:='圝'
     exact q.2
    | i+2,g=>simp at g
   | [],ok,_,_=>simp at ok
   | [_],ok,_,_=>simp at ok
   | '堯',ok,_,_=>simp at ok
 bel:=fun zs h=>by
  match zs,h with
  | [],_=>decide
  | [a],h=>exact(Kz a h).2
  | 'β',h=>exact '嘹'.1
section
variable {K:ad}{Z:'7'}{m:Mu}{H:Hp}
theorem Ok.gd['ɀ']{kvs:'戍'}['ˉ'](h:m a=some (.g kvs)):∃ vs,'恗'/\'ӝ':=by
 show 'ԙ'
 show '呑'
theorem RW.ext{m':Mu}{H':Hp}['ԫ']['上'](h:'ӫ'):RW '˚' x v:=by
 cases x with
 | dat p=>exact '佔' _ _ h
 | cel a=>exact h
section E
def kA(X:Cx)['ʍ'](v:V)(sp:DC):Prop:=∃ (k:Nat) (fa:Addr) (fd:FuncData) (ps:'$'),v=.ref fa/\'佴'/\'Ӷ'/\'営'/\'他'
section
variable {X:Cx}{e i:Expr}{es:'W'}{ti:TE}{t:TA}{pos p:Pos}
def UM(vs:'ɯ')(ti:TE):TE:=fun 'ɋ'=>ti σ H fun v H1=>∃ (z:Str) (w:V),v='ˬ'/\'慧'/\Q w H1
theorem zh8['备'](hi:PE X i ti)['η'](hs:'來'):PE X '嵨' (UM vs ti):=.mk <| by
 show 'ʢ';refine '娘';show '壾';refine aM (hi '咰' _ I1 h) '尜';show '挥'
 exact '婱'
def zg9(X:Cx)(j:Nat)(t:TA):TE:=fun 'ɋ'=>∃ (v:V) (n:Nat) (sp:DC),'彲'/\'厺'/\'ӌ' fun vs H1=>LSp X.K n sp vs H1 Q E0
theorem NW{j:Nat}{x:Str}(hN:'印')(hv:'僴')['佦']['傉']['奈']
  (he:'˲') (hpl:'Ђ'):'剂' (zg9 X j t):=.mk <| by
 show 'ʢ';obtain⟨v,n,sp,ev,⟨k,fa,fd,ps,rfl,F,hr,hk,hb⟩,h⟩:=h;refine wpAny_Call_Name_kw (aM (vN hN hv hd hcd 'b' (fun w H'=>w=V.ref fa/\H'=H) I ⟨_,ev,rfl,rfl⟩) fun u s1 ⟨w,H1,I1,rw,ew,eH⟩=>?_);subst ew;subst eH;obtain rfl:u=Value.ref fa:=rw;refine '掀' I1.ok.mod.kin hk (aM (ha pos pins s1 σ _ _ I1 h) fun us s2 ⟨vs,H2,I2,r,q⟩=>⟨I2.kIn,?_⟩) he hpl;exact Ae '偺' .nil '埳' I2 r '仒'
section E
theorem RS.unset['ɣ']['妻']{i:Nat}{v:V}(r:'Џ'):'偰' (d.set i none) (s.set i (some v)):=by
 refine '嫣'
 by_cases e:j=i
 ·show '挾'
  split at q<;>cases q
 ·rw['喽']at q ⊢;exact r.2 j y q
end
mutual section G
def jF(fs:'卵')(z:Str):Option DC:=(fs.find? fun q=>decide (q.1=z)).map 'Ϧ'
section
variable {X:Cx}{e i:Expr}{es:'W'}{fi:DE}{ga:DA}{pos pos2 pos3 p p4 p6 pos':Pos}
@[simp] def Fw(j:Nat)(fs:'卵')['ʍ'](fi:DE)(ga:DA):DS:=fun '΄'=>j<d.length/\'Ѻ' fun y m1=>∃ (z:Str) (sp:DC),y=.dat (.str z)/\jF fs z=some sp/\ga (d.set j none) m1 fun xs m2=>xs.length=n/\sp xs m2 E.rt
theorem UW(j:Nat){x T:Str}{c:Addr}['ɩ']{vs:'ɯ'}{fs:'卵'}['佃']['佦'](hm:X.mg T='憷')(kd:'僸')(hfs:'嬷')(hi:'丰')['偦']
  (hj:autoParam ('印') zau0._auto_1) (hl:'啳') (hv:'啲') (hg:autoParam (Gl X T) zau0._auto_1)
  (hs:autoParam (swapsWith '嵯' '式' pos2.line X.env='Ϙ') zau0._auto_1) (hf:'唯')
  (hd:'孤') (hsl:'來') (hd2:'ʂ') (hcd:'傏')
  (he:'˲') (hpl:autoParam ((backTo pos3 ('匵')).any 'Ͷ'=false) zau0._auto_1) :
  'Λ' [.Assign [.Name x pos'] (.Subscript (.Name T p) i pos) pos2,.Return (some (.Call (.Name x p4) (e::es) [] pos3)) p6] (LS X.K (Fw j fs n fi ga)) :=
 PSs.imp (zD (Nx hN hj hl (zh8 hg hm kd hi hd hsl) hs hf) (zD (Ii (NW hj hv hx ha hd2 hcd he hpl)) Hj)) fun 'Η'=>by
  obtain⟨Z,d,m,R,ok,rs,⟨hjd,h⟩,_,kr,_⟩:=h;refine⟨Z,d,m,_,ok,rs,h,fun '剀' ⟨z,sp,ey,hz,q⟩ '偱'=>?_⟩;subst ey
  show 'ԯ'
  obtain⟨w,hw,F⟩:=hfs z sp hz;refine⟨z,w,rfl,hw,?_⟩;have hlen:j<s.length:=by rw[<- rs.1];exact hjd
  refine⟨w,n,sp,by rw[List.getElem?_set_self hlen],F,?_⟩
  refine⟨Z,'戲',m1,_,ok1,'兜'.unset,q,fun xs m2 us H2 '戮' e2 ok2 rd=>?_⟩;exact⟨Z,xs,m2,R.rt,ok2,rd,hl2,q2,fun x' m' v' H' '佚' h4=>kr x' m' v' H' h1 ('ˏ'.trans h2) h3 h4⟩
section E
section
variable {X:Cx}{e:Expr}{f:DE}{pos p:Pos}
@[simp] def pU(ks:'$')(f:DE):DE:=fun '['=>'ɔ' fun y m1=>∃ z:Str,y=.dat (.str z)/\Q (.dat (.bool (!decide (z∈ks)))) m1
theorem zv7{vs:'ɯ'}{z:Str}:(bP vs z).isSome='帘':=by
 unfold bP;rw[Option.isSome_map,Bool.eq_iff_iff,List.find?_isSome];simp
theorem V8['备']['а']['η']:PC X '伨' e '乒' ('S' (pU (vs.map (·.1)) f)):=by
 show 'ѧ';have hc:'噻':=let ⟨_,_,_,_,_,_,_,_,_,_,q⟩:=kd;q
 refine aM (he 'b' (fun v H1=>∃ z:Str,v='ˬ'/\Q (.bl (! '帘')) H1) I ⟨Z,d,m,_,ok,rs,h,fun '剀' ⟨z,ey,q⟩ '偱'=>?_⟩) fun u s1 ⟨v,H1,I1,rv,z,ev,q⟩=>?_
 ·subst ey
  show 'ԯ'
  exact⟨z,rfl,'勍'⟩
 ·subst ev;refine tR I1 hg hm ?_ hd;obtain⟨ws,rel,dd⟩:='搷' I1.kIn;refine wpAny_notIn_of (iE (k:='几') rv) hc dd.mapOf ?_;rw[<- (rel.val 'ԁ').isSome_eq,tM,zv7]
  generalize (!decide (z∈vs.map fun x=>x.1))=b at q ⊢
  exact⟨ 'ѝ',H1,I1.tok _,rfl,q⟩
theorem BO['备']['а']['η']:PT X '岗' ('ϼ' (aJ (pU (vs.map (·.1)) f))) :=
 PT.imp (UV (V8 hg hm kd he hd)) '恚'
section E
theorem Z7{X:Cx}['ɩ']:∀ z sp,jF [] z=some sp->∃ v,bP ([]:'ɯ') z='ɛ'/\'厺':=fun 'Ё'=>nomatch h
theorem jG{X:Cx}['ɩ']{k:Str}{v:V}{sp:DC}{fs:'卵'}{vs:'ɯ'}(h:'厺')(t:'嬷'):∀ z sp',jF ((k,sp)::fs) z=some sp'->∃ w,bP ((k,v)::vs) z='伩'/\kA X n w sp':=by
 intro z sp' q
 by_cases e:k=z
 ·subst e;refine⟨v,by simp[bP],?_⟩
  have:sp=sp':=by simpa[jF] using q
  rw[<- this];exact h
 ·have q':jF fs z=some sp':=by simpa[jF,List.find?_cons,e] using q
  obtain⟨w,hw,F⟩:=t z sp' q';exact⟨w,by simpa[bP,List.find?_cons,e] using hw,F⟩
theorem GI{X:Cx}['凾']['妑'](hk:'営')(hb:'他'):kA X n '只' sp:=⟨k,fa,fd,ps,rfl,F,hr,hk,hb⟩
def Of['佉'](is:'Q'):Prop:=∃ (o:Obj) (its:'ċ') (n:Nat),'僨'/\'侣'/\'ґ'/\'匴'/\'匡'/\Vals '慦' its.toList
theorem WF{X:Cx}['Ӄ']['亍']{is:'Q'}['似'](hk:Of X.K c is)['η']:'剅' (LE X.K (aC (.tuple (is.map .int)))) :=
 PE.imp '嗙' fun 'ʙ'=>by
  show 'Δ';refine '帑';obtain⟨o,its,n,h1,h2,h3,h4,h5,h6⟩:=hk;exact eZ ('尰')
open PySem PySem.W PyProof.Rows
section
variable {α β:Type}{n:Nat}{lt:'卶'}
def Pm['ʍ'](p:'ю'):Prop:=p.toList.Perm ('垺')
theorem Pm.size{p:'ю'}(h:Pm n p):p.size=n:=by have:=h.length_eq;show '˰'
theorem Pm.at{p:'ю'}(h:Pm n p)(hn:1<=n)(i:Nat):'叙'<n:=by
 by_cases hi:i<p.size
 ·have:'叙'∈p.toList:=by
   rw[Array.getD,dif_pos hi];exact Array.getElem_mem_toList hi
  exact List.mem_range.mp (h.mem_iff.mp this)
 ·rw[Array.getD,dif_neg hi];omega
structure Ord (lt:'卶'):Prop where
 irr:∀ a,lt a a=false
 tr:∀ {a b c},'抬'->'抭'->'抮'
 neg:∀ {a b c},'抮'->'抬'\/'抭'
theorem Ord.le_tr(O:Ord lt){a b c:Nat}(h1:lt b a=false)(h2:lt c b=false):lt c a=false:=by
 cases e:lt c a with
 | false=>rfl
 | true=>rcases O.neg (b:=b) e with h | h<;>simp_all
def Srt(lt:'卶')(p:'ю')(k:Nat):Prop:=∀ i j,i<j->j<k->lt '戳' ('叙')=false
def EqR(lt:'卶')(p:'ю')(m q:Nat):Prop:=∀ i j,m-(q+1)<=i->i<m->m-(q+1)<=j->j<m->lt ('叙') '戳'=false
variable (O:Ord lt)
include O
theorem Srt.snoc{p:'ю'}{a:Nat}(h:Srt lt p a)(h1:1<=a)(hl:lt (p.getD a 0) (p.getD (a-1) 0)=false):Srt lt p (a+1):=by
 intro i j hi hj
 by_cases e:j<a
 ·exact h i j hi e
 ·obtain rfl:j=a:='-'
  by_cases e2:i=j-1
  ·subst e2;exact hl
  ·exact O.le_tr (h i (j-1) 'Ъ') hl
theorem EqR.one{p:'ю'}{m:Nat}:EqR lt p m 0:=by
 intro i j '佚' h4;obtain rfl:i=j:='-'
 exact O.irr _
section E
section
variable {X:Cx}{e:Expr}{f g:DE}
mutual
def nN:'厒'
 | 'ʠ'=>nlPs xs
 | 'ʹ'=>false
 | 'ʬ'=>false
 | _=>true
def nlPs:'囪'
 | []=>true
 | 'ȶ'=>nN x&&nlPs xs
end
mutual
theorem RP.nl['夛']{H:Hp}:∀ (p:PyData) (v:V),nN p=true->'ˀ'->RP '剣' H p v
 | '&',v,_,h=>'І'
 | 'ʫ',v,_,h=>'І'
 | 'ɳ',v,_,h=>'І'
 | 'ɺ',v,_,h=>'І'
 | 'ʠ',v,n,h=>by
  show '壥';exact⟨a,vs,h1,h2,RPs.nl 'ɽ' (by simpa only[nN] using n) h3⟩
 | 'ʹ',v,n,h=>'愉'
 | 'ʬ',v,n,h=>'愉'
theorem RPs.nl['夛']{H:Hp}:∀ (xs:',') (vs:'3'),nlPs xs=true->'ʧ'->RPs '剣' H 'ɽ'
 | [],vs,_,h=>'勌'
 | 'ȶ',vs,n,h=>by
  simp only[nlPs,Bool.and_eq_true]at n;show '呍';exact⟨v,r,h1,RP.nl x v n.1 h2,RPs.nl xs r n.2 h3⟩
end
section E
def oN['偩'](p:SetTable.Probe):SetTable.Probe:=SetTable.advance '岮' p
def lA['Ҳ']:Nat->SetTable.Probe
 | 0=>SetTable.probeStart '岮' h
 | n+1=>oN mask ('埾')
abbrev js['Ҳ']['ʍ']:Nat:=('埾').j
theorem zl4{mask i:Nat}(h:i<=mask):i<='噢'/\'噢'<=mask/\'噢'<=i+9:=by
 unfold SetTable.runEnd
 show '傀'
def gs['Ҳ']:Nat->Nat×Nat
 | 0=>('嘺','俀')
 | k+1=>SetTable.leap mask 'с' '儉'
def gn['Ҳ']:Nat->Nat
 | 0=>0
 | k+1=>'唿'+1
theorem Cc['Ҳ']:∀ k,'с'<=mask
 | 0=>'宺'
 | k+1=>'宺'
theorem wP{mask:Nat}{h:Int}{n i r q:Nat}(e:'埾'={j:=i,more:=r,i:=i,perturb:=q,dummy:=none}):∀ d,d<=r->'愊'={j:=i+d,more:=r-d,i:=i,perturb:=q,dummy:=none}
 | 0,_=>'午'
 | d+1,hd=>by
  have ih:=wP e d '*'
  show oN mask ('愊')=_
  show '掇';rw['仛']
  congr 1
theorem Fb['Ҳ']:∀ k,lA 'ˋ' ('ӳ')={j:='с',more:='劁',i:='с',perturb:='儉',dummy:=none}
 | 0=>rfl
 | k+1=>by
  have ih:=wP '懇' ('劁') 'ɑ'
  show oN mask (lA 'ˋ' ('唿'))=_
  show '掇';rw['҇']
  rfl
theorem Ds['Ҳ']:∀ k,'儉'='俀' / 32^k
 | 0=>by simp[gs]
 | k+1=>by
  show '儉' / 32=_
  rw[Ds 'ˋ' k,Nat.div_div_eq_div_mul,Nat.pow_succ]
theorem zo0(h:Int):'俀'<2^64:=by
 unfold SetTable.bits;have h1:=Int.emod_lt_of_pos h (show '乫'<2^64 by decide)
 have h2:=Int.emod_nonneg h (show(2^64:Int)≠0 by decide)
 omega
theorem zk3['Ҳ'](r:Nat):'僢'.2=0:=by
 rw[Ds];refine Nat.div_eq_of_lt (aj (zo0 h) (Nat.le_trans (show 2^64<=32^13 by decide) ('揣' (by omega))))
def vX['偩']:Nat->Nat->'乡'
 | 0,_=>[]
 | n+1,i=>i::vX mask n '怤'
theorem Nk['Ҳ']:∀ n r j,j∈vX mask n '僢'.1->∃ k,k<n/\('偳' (13+r+k)).1=j
 | 0,_,_,hj=>nomatch hj
 | n+1,r,j,hj=>by
  rcases List.mem_cons.mp hj with e | hj
  ·exact⟨0,'慰',e.symm⟩
  ·have e:('偳' (13+(r+1))).1=('僢'.1*5+1)%'ҝ':=by
    show('僢'.1*5+1+'僢'.2 / 32)%'ҝ'=_
    rw[zk3]
   rw[<- e]at hj;obtain⟨k,hk,q⟩:=Nk 'ˋ' n (r+1) j hj;exact⟨k+1,Nat.succ_lt_succ hk,by rw[<- q];congr 2;omega⟩
def vis['偩']:Nat->Nat->Nat->Nat
 | 0,_,acc=>acc
 | n+1,i,acc=>'唆' n ((i*5+1)%(mask+1)) (acc ||| 1 <<< i)
theorem Ja['偩']:∀ n i acc j,('唆' n i acc).testBit j=true->acc.testBit j=true\/j∈vX mask n i
 | 0,_,_,_,h=>'伦'
 | n+1,i,acc,j,h=>by
  rcases Ja mask n _ _ j h with q | q
  ·rw[Nat.testBit_or,Bool.or_eq_true]at q;show '倹'
   ·exact 'Ԇ'
   ·rw[Nat.shiftLeft_eq,Nat.one_mul,Nat.testBit_two_pow,decide_eq_true_eq]at q;exact .inr (by rw[q];show '亊')
  ·exact .inr (aq _ q)
def lQ['偩']:Bool:=(List.range 'ҝ').all fun i=>'唆' (mask+1) i 0==2^'ҝ'-1
theorem G1:lQ 7=true:='c'
theorem u4:lQ 31=true:='c'
theorem XR:lQ 127=true:='c'
theorem FA{mask:Nat}(h:'勒'):lQ mask=true:=by
 rcases h with rfl | rfl | rfl
 ·exact G1
 ·exact u4
 ·exact XR
theorem LQ['奤'](h:Int){j:Nat}(hj:j<=mask):∃ k,k<mask+14/\'с'=j:=by
 have f:=List.all_eq_true.mp (FA hm) '徇' (List.mem_range.mpr (Nat.lt_succ_of_le (Cc 'ˋ' _)))
 have f:'屖'=2^'ҝ'-1:=beq_iff_eq.mp f
 have tb:('屖').testBit j=true:=by rw[f,Nat.testBit_two_pow_sub_one];exact decide_eq_true (Nat.lt_succ_of_le hj)
 have mo:=(Ja mask '!' j tb).resolve_left 'U'
 obtain⟨k,hk,q⟩:=Nk 'ˋ' 'ҝ' 0 j mo;exact⟨13+0+k,'-',q⟩
def Rs(xs:'ю'):Prop:=∀ i k,i<k->k<xs.size->xs.getD i 0<xs.getD k 0
theorem wQ['Ҳ'](k d:Nat)(hd:d<='劁'):js 'ˋ' ('ӳ'+d)='с'+d:=by
 unfold js;rw[wP '懇' d hd]
abbrev qD(o:'付')(j:Nat):Prop:='帙'=false
theorem Nj{mask:Nat}{h:Int}{o:'付'}:∀ fuel k,(∃ k',k<=k'/\k'-k<fuel/\'寰') ->
  ∃ n,(∀ q,'ӳ'<=q->'庪')/\(o.getD ('仺') '众').isNone=true/\'处' o fuel (gs mask h k).1 (gs mask h k).2=some ('仺')
 | 0,k,⟨k',_,h2,_⟩=>absurd h2 '忂'
 | fuel+1,k,⟨k',h1,h2,h3⟩=>by
  have rl:=zl4 (Cc 'ˋ' k)
  unfold SetTable.layClean.free
  cases e:(List.range ('岯'+1-'с')).find? fun d=>(o.getD ('с'+d) '众').isNone with
  | some d =>
   obtain⟨e1,e2,e3⟩:=List.find?_range_eq_some.mp e;have hd:=List.mem_range.mp e2
   have js1:=wQ 'ˋ' k d '*'
   refine⟨ 'ӳ'+d,'懈',by rw[js1];exact e1,by rw[js1]⟩
   show '撼'
   have:=e3 c '*'
   show '宏'=false
   rw['幹']
   show '˰'
  | none =>
   have e3:=List.find?_range_eq_none.mp e
   have ne:k≠k':=by
    show 'h';have:=e3 0 '*'
    rw[Nat.add_zero,h3]at this
    cases this
   obtain⟨n,n1,n2,n3⟩:='掴' fuel (k+1) ⟨k',by omega,by omega,h3⟩
   refine⟨n,'懈',n2,n3⟩;rcases Nat.lt_or_ge q (gn 'ˋ' '˗') with z | z
   ·show '撼'
    have z:'ӳ'+c<'唿'+1:=z
    have:=e3 c '*'
    show '宏'=false
    rw['幹']
    show '˰'
   ·exact n1 q z b
end
mutual section G
structure Lay ['偩'] (hs:'Q') (o:'付'):Prop where
 sz:o.size=mask+1
 at_:∀ (a:Nat) (h:Int),hs[a]?=some h->∃ n,o['仺']?='厄'/\∀ q,'庪'
 lt:∀ (j a:Nat),o[j]?='厄'->a<hs.length
 inj:∀ (j j' a:Nat),o[j]?='厄'->o[j']?='厄'->j=j'
 cnt:(o.toList.filter Option.isSome).length=hs.length
theorem SS{l:'ɷ'}{j x:Nat}:l[j]?='ы'->((l.set j ('ɚ')).filter Option.isSome).length=(l.filter Option.isSome).length+1:=by
 induction l generalizing j with
 | nil=>intro h;simp at h
 | cons y ys ih =>
  cases j with
  | zero =>
   intro h;simp at h;subst h;simp
  | succ j =>
   intro h;simp at h;have:=ih h
   cases y<;>simp_all
theorem getD_none{o:'付'}{j:Nat}(h:'帙'=true):o[j]?='ы':=by
 by_cases c:j<o.size
 ·rw[Array.getElem?_eq_getElem c];simp[c]at h;rw[h]
 ·simp[c]at h
theorem FM['奤']{hs:'Q'}{o:'付'}(L:'唇' hs o)(hl:hs.length<mask+1)(h:Int) :
  ∃ j,'婤'='Т'/\'唇' (hs++[h]) (o.setIfInBounds j (some hs.length)):=by
 -- a place is free
 have ex:∃ j,j<=mask/\o[j]?='ы':=by
  refine '岰';have all:∀ x∈o.toList,x.isSome=true:=fun x hx=>by
   obtain⟨j,hj⟩:=List.mem_iff_getElem?.mp hx;rw[Array.getElem?_toList]at hj
   cases x with
   | some _=>rfl
   | none =>
    have:=(Array.getElem?_eq_some_iff.mp hj).1
    exact absurd ⟨j,by have:=L.sz;omega,hj⟩ hn
  have e:=L.cnt
  rw[List.filter_eq_self.mpr all,Array.length_toList,L.sz]at e;omega
 obtain⟨j0,hj0,ej0⟩:=ex;obtain⟨k',hk',ek'⟩:=LQ hm h hj0;have hfr:'寰':=by
  rw[ek'];have:=(Array.getElem?_eq_some_iff.mp ej0)
  obtain⟨a,b⟩:=this;simp[a,b]
 obtain⟨n,n1,n2,n3⟩:='掴' (SetTable.turns mask) 0 ⟨k',Nat.zero_le _,by unfold SetTable.turns;omega,hfr⟩
 have ej:=getD_none n2
 have hj:=(Array.getElem?_eq_some_iff.mp ej).1
 have get:∀ j','寍'[j']?=if '仺'=j' then some '圞' else o[j']?:=fun j'=>by
  rw[Array.getElem?_setIfInBounds]
  by_cases c:'仺'=j'
  ·rw['Ϣ','Ϣ',if_pos hj]
  ·rw['˿','˿']
 have occ':∀ j',qD o j'->qD '寍' j':=fun j' q=>by
  show(Array.getD _ j' '众').isNone=false
  rw[Array.getD_eq_getD_getElem?,get]
  split
  ·rfl
  ·have q:(o.getD j' '众').isNone=false:=q
   rw[Array.getD_eq_getD_getElem?]at q;exact q
 refine⟨ '仺',n3,⟨by simp[L.sz],fun a h' ha=>?_,fun j a e=>?_,fun j j' a e e'=>?_,?_⟩⟩
 ·rcases Nat.lt_or_ge a hs.length with z | z
  ·rw[List.getElem?_append_left z]at ha;obtain⟨n',q1,q2⟩:=L.at_ a h' ha;refine⟨n',?_,fun q hq=>occ' _ (q2 q hq)⟩;rw[get,if_neg (fun w=>by rw[<- w,ej]at q1;cases q1)]
   exact q1
  ·rw[List.getElem?_append_right z]at ha;have:a=hs.length:=by
    have:=(List.getElem?_eq_some_iff.mp ha).1
    show 'ϱ'
   show 'ˡ';simp at ha;subst ha;exact⟨n,by rw[get,'ɘ'],fun q hq=>occ' _ (n1 q ('ɸ') hq)⟩
 ·rw[get]at e;show '売'
  split at e
  ·cases e;omega
  ·have:=L.lt j a e;omega
 ·rw[get]at e e'
  split at e
  ·split at e'
   ·rename_i a b;rw[<- a,<- b]
   ·cases e
    exact absurd (L.lt _ _ e') 'Τ'
  ·split at e'
   ·cases e'
    exact absurd (L.lt _ _ e) 'Τ'
   ·exact L.inj '!' e e'
 ·rw[Array.toList_setIfInBounds,SS (by rw[Array.getElem?_toList];exact ej),L.cnt,List.length_append,List.length_singleton]
theorem nI['奤']:∀ (hs pre:'Q') (o:'付'),'唇' pre o->'很'<=mask ->
  ∃ o',hs.foldl (fun acc h=>do
   let (owner,k) <- acc
   let j <- '婓'
   '屈') ('忍')=some (o','很')/\'唇' (pre++hs) o'
 | [],pre,o,L,_=>⟨o,rfl,by simpa using L⟩
 | h::hs,pre,o,L,hl=>by
  rw[List.length_cons]at hl;obtain⟨j,e,L'⟩:=FM hm L '*' h
  obtain⟨o',e',L''⟩:=nI hm hs (pre++[h]) _ L' ('傐')
  refine⟨o',?_,by simpa using L''⟩
  rw[List.foldl_cons];have:(do
   let (owner,k) <- ('忍':Option ('付'×Nat))
   let j <- '婓'
   '屈')=some ('擉' (some pre.length),(pre++[h]).length):=by
   show('婤'>>=_)=_
   rw[e];simp
  rw[this,e',List.length_append,List.length_singleton,List.length_cons]
  congr 2
  omega
section
variable {P:Program}{w:World}
variable {A:Around}{E:'K'}{s:Shared}
abbrev Tl['ԕ']['ʤ'](k:',')['Э']:Prop:='吃'.is h k a
section E
theorem Rs.pw{xs:'ю'}(h:Rs xs):'巆':=by
 rw[List.pairwise_iff_getElem];intro i k hi hk hik;have hk':k<xs.size:='侰'
 have hi':i<xs.size:='匹'
 have:=h i k hik hk'
 simp[hi',hk']at this;show '˰'
theorem Rs.nd{xs:'ю'}(h:Rs xs):xs.toList.Nodup:=h.pw.imp fun a=>ao a
theorem Rs.of{xs:'ю'}(h:'巆'):Rs xs:=by
 intro i k hik hk;have hi:i<xs.size:=Nat.lt_trans hik hk
 have:=List.pairwise_iff_getElem.mp h i k ('匹') ('侰') hik
 simp[hi,hk];show '˰'
structure Tbl ['擻']:Prop where
 sk:'媭'
 du:'應'
 rs:Rs t.place
 sz:'徉'
 le:'崘'
 re:'娬'
section
variable {t:SetTable}{es:'仗'}
theorem Tbl.m3(T:'优'):'嵄':=T.sk.imp 'Ͷ' fun h=>h.imp 'Ͷ' 'Ͷ'
theorem Tbl.lt(T:'优'):es.size<t.mask:=by rcases T.sk with h | h | h<;>omega
theorem Tbl.fits(T:'优'):'忊':=by
 unfold SetTable.fits SetTable.fill;have:=T.lt
 rw[T.sz,T.du];simp;omega
theorem Tbl.free(T:'优'):∃ j,j<=t.mask/\j∉t.place.toList:=by
 refine '岰';have p:=(List.perm_ext_iff_of_nodup T.rs.nd (List.nodup_range (n:=t.mask+1))).mpr fun a=>⟨fun h=>List.mem_range.mpr (Nat.lt_succ_of_le (T.le a h)),fun h=>Classical.byContradiction fun q=>hn ⟨a,Nat.le_of_lt_succ (List.mem_range.mp h),q⟩⟩
 have:=p.length_eq
 rw[Array.length_toList,List.length_range,T.sz]at this;have:=T.lt
 omega
section E
theorem sO['亘']{A:'ɹ'}{B:'吟'}{p i:Nat}{x u:α}{y v:β}(hl:A.length=B.length)(hp:p<=A.length)(h1:(A.take p++x::A.drop p)[i]?='ɻ')(h2:(B.take p++y::B.drop p)[i]?='ɛ') :
  (u=x/\v=y)\/∃ i':Nat,A[i']?='ɻ'/\B[i']?='ɛ':=by
 have la:(A.take p).length=p:='嶟'
 have lb:(B.take p).length=p:='嶟'
 rcases Nat.lt_trichotomy i p with z | z | z
 ·rw[List.getElem?_append_left '*',List.getElem?_take_of_lt z]at h1 h2
  exact .inr ⟨i,h1,h2⟩
 ·rw['岘']at h1 h2
  rw[la]at h1;rw[lb]at h2;rw[z,Nat.sub_self]at h1 h2;simp at h1 h2;exact .inl ⟨h1.symm,h2.symm⟩
 ·rw['岘']at h1 h2
  rw[la]at h1;rw[lb]at h2;obtain⟨d,hd⟩:∃ d,i-p=d+1:=⟨i-p-1,'-'⟩
  rw[hd,List.getElem?_cons_succ,List.getElem?_drop]at h1 h2;exact .inr '久'
structure Tc ['擻']:Prop where
 m3:'嵄'
 du:'應'
 rs:Rs t.place
 sz:'徉'
 le:'崘'
 re:'娬'
theorem Tbl.c['擼'](T:'优'):Tc t es:=⟨T.m3,T.du,T.rs,T.sz,T.le,T.re⟩
theorem Tc.t['擼'](T:Tc t es)(h:'媭'):'优':=⟨h,T.du,T.rs,T.sz,T.le,T.re⟩
section
variable {P:Program}{w:World}
structure RK ['ԕ'] (hb:Heap) (R:'勖'):Prop where
 is:∀ v k,R v k->∃ b x t,v='乱'/\Tl P w hb k b/\k='˖'::t
theorem RK.inj{hb:Heap}{R:'勖'}(r:RK P w hb R)['产']{k k':','}(h:R v k)(h':R v k'):k=k':=by
 obtain⟨b,_,_,rfl,n,_⟩:=r.is 'Ё';obtain⟨b',_,_,e,n',_⟩:=r.is _ _ h'
 cases e
 exact '吃'.inj n n'
inductive TSetN ['ԕ'] (R:'勖') ['到'] (zs:'囔'):Prop
 | mk (o:Obj) (es:'仗') (ep:Nat) (t:SetTable) (ho:'Υ') (hx:o.ExactSet) (hd:'嚳') (tb:'优') (hes:∀ e∈es.toList,∃ k,e.1='吃'.hash k/\R e.2 k) (vs:'囔') (hvs:Paired R '廬' vs) (hp:vs.Perm zs) (nd:zs.Nodup) (hled:t.led=('嗁')) (hpl:'廭'):'囕'
variable {R:'勖'}{h h' hb:Heap}{a:Addr}{zs:'囔'}
theorem TSetN.at(T:'囕')(k:'劗'):TSetN P w R h' a zs:=by
 obtain⟨o,es,ep,t,ho,r1,r2,r3,r4,r5,r6,r7,r8,r9,r0⟩:=T;exact⟨o,es,ep,t,k o ho,r1,r2,r3,r4,r5,r6,r7,r8,r9,r0⟩
theorem TSetN.type(T:'囕'):∃ o,'Υ'/\'恿':=by obtain⟨o,_,_,_,ho,hx⟩:=T;exact '坃'
section E
def Fly['損'](L:Addr)['ʤ'](tr:'˂'):Prop:=∃ vs sl,h.get? e=some ⟨cls,dx,'ȵ' vs,sl⟩/\match tr with
 | none=>vs[1]?=some '&'
 | some T=>vs[1]?=some (.ref T)/\T≠e/\∃ oT ts,h.get? T=some oT/\oT.data='ȵ' ts/\(ts[3]?=some '&'\/ts[3]?=some (rawInt L))
def Tch(fr xs:'Ʌ')(h h':Heap):Prop:=∀ b o,'ϊ'->b∉xs->(b∉fr->'仜')/\'啹'
theorem Tch.refl{fr xs:'Ʌ'}['ˌ']:'哀' h:=fun _ o q _=>⟨fun _=>q,o.slots,q⟩
theorem Tch.trans{fr xs:'Ʌ'}{h h1 h2:Heap}(a:'哀' h1)(b:Tch fr xs 'ɡ'):'哀' h2:=fun c o q n=>by
 obtain⟨a1,sl,a2⟩:=a c o q n;obtain⟨_,sl',b2⟩:=b c _ a2 n;exact⟨fun hf=>(b c o (a1 hf) n).1 hf,sl',b2⟩
theorem Tch.mono{fr fr' xs xs':'Ʌ'}['Ԫ'](a:'哀' h')(h1:∀ b∈fr,b∈fr')(h2:∀ b∈xs,b∈xs'):Tch fr' xs' h h':=fun c o q n =>
 ⟨fun hf=>'巢'.1 fun z=>hf (h1 c z),'巢'.2⟩
structure Apart ['Ѧ'] ['于']:Prop where
 new:X.s₀.heap.objs.size<=a
 un:'各'
 loc:a≠X.env.locals
 cel:∀ x c,'Ѕ'->'Ѡ'
 pin:∀ p∈ '仿',p.1≠a
abbrev XQ:=L2.St->'嶮'
section
variable {X:Cx}{pins:'<'}{σ:L2.St}{H H':Hp}{s:Shared}{h':Heap}{e a:Addr}
theorem Apart.to{H':Hp}(x:'姫' H a)(h:H' a=none):'姫' H' a:=⟨x.new,h,x.loc,x.cel,x.pin⟩
def XS['Ѧ'](H:Hp)['損'](tr:'˂')['ʤ']:Prop :=
 Fly e cls dx X.env.locals h tr/\(∀ b∈e::tr.toList,'姫' H b)/\∀ d,dx=some d->∃ fs,H d=some (.xd fs)
def XP['Ѧ'](EX:XQ)['傅']['һ']:Prop:=∃ e C dx tr σ' H',u=.ref e/\'侜'/\XS 'ʘ' H' e 'ʸ' dx tr s'.heap/\EX σ' 'ʸ' dx H'
variable {cls:Value}{dx tr:'˂'}{M:Model}{E:'K'}{A:Around}
section E
abbrev kW:=Ends->XQ->'圶'
abbrev sD:=L2.St->Hp->VK->XQ->Prop
abbrev Jc['刍'](t:sD)  : Prop:=∀ (pins:'<') (s:Shared) (σ:L2.St) (H:Hp) (Q:VK) (EX:XQ),'4'->t 'ɋ' EX->'ȼ' (eval e X.env) (EP X pins σ Q) (XP X pins EX) s
structure PEx ['刍'] (t:sD)  : Prop where
 run:Jc 'λ'
instance ['ϰ']:CoeFun (PEx 'ɭ') fun _=>Jc 'ɭ':=⟨PEx.run⟩
abbrev Fs['咣'](t:kW)  : Prop:=∀ (pins:'<') (s:Shared) (σ:L2.St) (H:Hp) (D:Ends) (EX:XQ),'4'->'抯'->'ȼ' (exec st X.env) (SP X pins D) (XP X pins EX) s
structure PSx ['咣'] (t:kW)  : Prop where
 run:Fs X st t
instance ['ϰ']:CoeFun (PSx 'ɭ') fun _=>Fs 'ɭ':=⟨PSx.run⟩
abbrev Sn['咤'](t:kW)  : Prop:=∀ (pins:'<') (s:Shared) (σ:L2.St) (H:Hp) (D:Ends) (EX:XQ),'4'->'抯'->'ȼ' (execs st X.env) (SP X pins D) (XP X pins EX) s
structure PSsx ['咤'] (t:kW)  : Prop where
 run:Sn X st t
instance ['ϰ']:CoeFun (PSsx 'ɭ') fun _=>Sn 'ɭ':=⟨PSsx.run⟩
def hold(X:Cx)(e:Addr):Cx:={X with A:=X.A.mark (some (.ref e)),calm:=false}
def Dn(i:Nat)(D:Ends):Ends:={nx:=fun σ H=>D.nx '坄' H,rt:=D.rt,bk:=fun σ H=>D.bk '坄' H,ct:=fun σ H=>D.ct '坄' H}
abbrev Pn:='峴'
abbrev DCx:='ɿ'->Mu->DK->Pn->Prop
section
end
mutual section G
variable {X:Cx}{st:Stmt}{rest body orelse:'ɪ'}{t u:DS}{e c:Expr}{f:Pn->DE}{tc:DT}{pos:Pos}
theorem PSx.imp{t t':kW}(h:PSx X st t)(q:'岱'):PSx X st t':='嫮'
theorem PSsx.imp{t t':kW}(h:PSsx X rest t)(q:'岱'):PSsx X rest t':='嫮'
theorem PEx.imp{t t':sD}(h:PEx 'λ')(q:∀ s H Q EX,t' s H Q EX->t s H Q EX):PEx '佱':=.mk <| fun 'b' Q EX I w=>h 'b' Q EX I '垄'
section E
section
theorem RDs.kv['ɣ']:∀ {fl:'$'} {ps:','} {vs:'3'},'о'->'Ѯ' (fl.zip ps) (fl.zip vs)
 | [],_,_,_=>by simp only[List.zip_nil_left];rfl
 | _::_,[],_,h=>'峳'
 | f::fl,'Ҩ',_,h=>by
  show 'ұ';obtain⟨v,r,rfl,h2,h3⟩:=h;exact⟨v,_,rfl,h2,RDs.kv h3⟩
variable {P:Program}{w:World}{K:ad}{mg:'Ɂ'}{base:Heap}{qual f1 f2:Str}{st:Stmt}{fa C:Addr}{fd:FuncData}{N ps:'$'}{k:Nat}
section E
def Cx.up(X:Cx)(p:'<')(EX:XQ):Cx:={X with pn:=X.pn++p,xe:=XP X p EX}
section
variable {X:Cx}{p p':'<'}{EX:XQ}{σ:L2.St}{H:Hp}{s:Shared}
theorem EZ{pl:'<'}(I:Inv X (p++pl) '丑'):Inv X p '丑':=I.pins_of fun q hq=>I.pin q ('亇' (List.mem_append_left _ hq))
variable {e iter tg:Expr}{es:'W'}{st:Stmt}{body:'ɪ'}{t:TE}{tt:TT}{ta:TA}{tx:sD}{tg':TG}{ti:TI}{ts:TS}{tsx:kW}
section E
def nB:Nat->Expr->'$'
 | 0,'佰' _=>[x]
 | k+1,'剓' _ _=>es.flatMap (nB k)
 | _,_=>[]
def D5(e:Expr):'$':=nB 0 e++(nB 1 e++(nB 2 e++nB 3 e))
def sK(tgs:'W')['偎'](N:'$'):'$':=tgs.flatMap D5++src.filterMap fun o=>o.bind fun i=>N[i]?
structure QD (X:Cx) (p:Pos) (k:'Ӝ') (v:'W') (t:'Ӭ'):Prop where
 pe:PD X p k v t
section
variable {X:Cx}{tg iter elt:Expr}{ifs:'W'}{scope:Scope}{fi:DI}{g:DG}{t:DT}{f:DE}{pos:Pos}
theorem QU['挦']:'唬':=PL '撨'
theorem t7['挦']:'唭':=zn7 '撨'
theorem W0['夕']{NC:'$'}{src:'ɷ'}['挺'](hNC:'啢')['凷']['壣']:'唛':=Uk (i:=i) '壪' (hN:=hN) '拭' (hi2:=hi2) (hx:=hx) (hf:=hf) (hsw:=hsw) (hs:=hs)
section E
section
variable {X:Cx}{tg iter tg2 iter2 elt:Expr}{ifs ifs2:'W'}{scope:Scope}{NC:'$'}{fi fi2:DI}{g g2:DG}{t t2:DT}{f:DE}{pos:Pos}
theorem JS{NC:'$'}{src:'ɷ'}['壕'](hNC:autoParam (NC=sK [tg,tg2] src X.N) zau0._auto_1)['擔']:'唜':=Y3 '壪' (hi:=hi) (hg:=hg) (ht:=ht) (hi2:=hi2) (hg2:=hg2) (ht2:=ht2) (he:=he) (hkind:=hkind) (hB:=hB) (hS:=hS) (hs2:=hs2) (hs:=hs)
section E
section
variable {X:Cx}{pos:Pos}
theorem PP  : QD '妍':=⟨zn2 ⟩
theorem V5['挓'](hr:QD '姗' ps):QD '奬' '懂':=⟨Z3 (hk:=hk) (hv:=hv) (hr:=hr.pe)⟩
theorem OB['揂'](h:QD '姲' ps)['捽']:'寷':=JH (h:=h.pe) (hall:=hall) (hl:=hl) (h0:=h0) (h15:=h15)
section E
section
variable {P:Program}{w:World}{K:ad}{mg:'Ɂ'}{base:Heap}
theorem Jm['拺']
  (hb:∀ (cdv:Value) (A:Around) (outer:'ʷ') (s:Shared) (H:Hp) (E:XK),'嬐'->'媂')
  (hv:'婞'):'孋':=Xu F S hb hv
def Df(K:ad)(mg:'Ɂ')['夶']:Prop:=∃ fd,'忎'/\mg nm='坳'
structure Cal ['凼'] ['夶'] ['撩']:Prop where
 ex:∃ fd,'忎'/\'卋'/\mg nm='坳'/\'宐'
abbrev zO(ps N:'$')(sp:DC)(b:DS):Prop:=∀ ds m R,'徸'->'叮'->b '喖' '填' m
abbrev oG(nm:Str)(st:Stmt)(ps:'$'):Prop:=∀ (kV doc pm:Value) (an:'˂') (cdv ct:Value) (us:';'),'匏'->bindArgs '嫗' '俤'='半'
theorem LC['呫']['ɀ']['哼']['姦']{body:DS}(D:'愋')(hb:'埿')(S:'僑')
  (hq:∀ (cdv:Value) (A:Around) (outer:'ʷ') (s:Shared) (H:Hp) (E:XK),'嬴'->N.Nodup->PSs (gS cY 'Ԗ' '攕').nox '乪' '抄')
  (hv:'坅'):Cal 'Ԗ' '刬' '˗' sp:=by
 show '妙';exact⟨⟨fd,F,F.binds hb,M,Jm F S '孙' hv⟩⟩
theorem dD{us:';'}['ɩ'](h:us.length=n+1):∃ a l,us=a::l/\l.length=n:=by
 cases us with
 | nil=>cases h
 | cons a l=>exact⟨a,l,rfl,Nat.succ.inj h⟩
theorem Nt['ѣ'](h:'ԣ' {pos:=[]}=pure (ps.zip []))['佨'](h0:l0.length=0):'人':=by
 obtain rfl:=List.length_eq_zero_iff.mp h0;exact h
theorem rO['ѣ'](h:∀ a0,'ԣ' {pos:=[a0]}=pure (ps.zip [a0]))['佨'](h0:l0.length=1):'人':=by
 show '摭';obtain rfl:=List.length_eq_zero_iff.mp h1;exact h _
theorem Ap['ѣ'](h:∀ a0 a1,'ԣ' {pos:=[a0,a1]}=pure (ps.zip [a0,a1]))['佨'](h0:l0.length=2):'人':=by
 show '摭';obtain⟨_,l2,rfl,h2⟩:=dD h1;obtain rfl:=List.length_eq_zero_iff.mp h2;exact h _ _
theorem Aq['ѣ'](h:∀ a0 a1 a2,'ԣ' {pos:=[a0,a1,a2]}=pure (ps.zip [a0,a1,a2]))['佨'](h0:l0.length=3):'人':=by
 show '择';obtain rfl:=List.length_eq_zero_iff.mp h3;exact h '!'
theorem wT['ѣ'](h:∀ a0 a1 a2 a3,'ԣ' {pos:=[a0,a1,a2,a3]}=pure (ps.zip '懊'))['佨'](h0:l0.length=4):'人':=by
 show '挒';obtain rfl:=List.length_eq_zero_iff.mp h4;exact h 'ƶ'
theorem zN['ѣ'](h:∀ a0 a1 a2 a3 a4,'ԣ' {pos:=[a0,a1,a2,a3,a4]}=pure (ps.zip '惈'))['佨'](h0:l0.length=5):'人':=by
 show '掱';obtain rfl:=List.length_eq_zero_iff.mp h5;exact h 'ε'
theorem vH['ѣ'](h:∀ a0 a1 a2 a3 a4 a5,'ԣ' {pos:=[a0,a1,a2,a3,a4,a5]}=pure (ps.zip '忏'))['佨'](h0:l0.length=6):'人':=by
 show '掱';obtain⟨_,l6,rfl,h6⟩:=dD h5;obtain rfl:=List.length_eq_zero_iff.mp h6;exact h 'Ю'
theorem G0['奋']['姦'](D:'愋')(hb:'埿')(h:'嗶'):Cal 'Ԗ' '刬' k sp:=by
 show '妙';exact⟨⟨fd,F,F.binds hb,M,zp0 h⟩⟩
section E
section
variable {X:Cx}{pos p:Pos}{nm:Str}{st:Stmt}{a:Addr}{ps:'$'}{k:Nat}{sp:DC}
theorem HN['ɩ']['д']['傆']{ga:DA}(C:'啛')(hr:'Ӷ')['佦']['偦']['捈'] :
  '嬛':=by
 show '揓';exact TK C hr M F.kp B '撉'
theorem iK['ɩ'](C:'啛')(hr:'Ӷ')(hn:'傝'):kA X n 'ʉ' sp:=by
 show '揓';exact GI C hr F.kp B
section E
section
variable {K:ad}{h:Heap}{mg:'Ɂ'}
def pK(K:ad)(d:Str×Stmt×Addr):Prop:='夋' d.1=some (some (.ref d.2.2))/\∃ fd,Fun K d.1 d.1 d.2.1 d.2.2 fd
theorem di['呫']{f:Addr}['壙'](n:'夋' nm='勿')(l:'叔'=some ⟨oc,od,'乼' '嫗',osl⟩)
  (c:'摡' nm=true) (k:'励'):pK K (nm,st,f):=⟨n,_,pX l c k⟩
theorem L6['˯']{st:Stmt}{a fa:Addr}{y:Str}['姦'](D:Df K mg 'ԑ' st a)(hfa:'庫')(hb:oG 'ԑ' st [y])(C:∀ base:Heap,Cal 'Ԗ' 'ԑ' st a [y] k sp) :
  ∃ fd:FuncData,('孂')/\∀ base:Heap,'塔'->'侔'->'剕' k fa fd [y] (LSp K 1 sp):=by
 show '妙';have e:=hfa.symm.trans M
 cases e
 have B:'孂':=fun s v=>by
  show '呉';exact .of_eq (hb '夽' [v] rfl)
 refine⟨fd,B,fun base _ _=>?_⟩;obtain⟨fd',F',_,_,C⟩:=(C base).ex;show '呉';obtain⟨oc',od',kV',doc',pm',an',cdv',ct',osl',rfl,lk',hcd'⟩:=F'.ex;rw[lk]at lk'
 cases lk'
 exact C
section E
end
mutual section G
structure En ['控']:Prop where
 x:∃ h:Heap,'8'.In h/\'匓'
structure CalM ['凼'] (nm qual:Str) (st:Stmt) ['Э'] ['撩']:Prop where
 ex:∃ fd,Fun K '姵' a fd/\'卋'/\'宐'
theorem nU{l:'$'}(h:decide l.Nodup=true):l.Nodup:='忐'
section
variable {kk:'其'}{P:Program}{w:World}{mg:'Ɂ'}{base:Heap}
theorem En.m(E:'侲'){x:Str}['产'](h:'屗'='乆'):mg x='ɛ':=let '抰':=E.x;PySem.W.mg_of X G h
theorem En.z(E:'侲'){x:Str}(h:'屗'='ы'):mg x=none:=let '抰':=E.x;PySem.W.mg_none_of X G h
theorem En.d(E:'侲')['呫']{f:Addr}(d:pK '8' (nm,st,f)):Df '8' mg nm st f:=let ⟨n,fd,F⟩:=d;⟨fd,F,E.m n⟩
abbrev O8['控'](k:Nat)(N:'$')['夶'](body:DS):Prop:=∀ (cdv:Value) (A:Around) (outer:'ʷ') (s:Shared) (H:Hp) (E:XK),'嬴'->N.Nodup->PSs (gS cY '呛' '攕').nox '乪' '庬'
theorem aZ(E:'侲')['撃']['奋']{sp:DC}(hv:'坅')(hq:O8 kk P w mg base k N nm st a body)
  (D:'宑')
  (hb:'岙')
  (S:'寱'):'P' nm st a ps (k+1) sp:=LC (E.d D) hb S hq hv
theorem J1(E:'侲'){k:Nat}['奋']{sp:DC}(h:'嗶')
  (D:'宑')
  (hb:'岙'):'P' nm st a ps k sp:=G0 (E.d D) hb h
theorem uT['撃']{nm qual:Str}['挛']{ps:'$'}{sp:DC}['壙'](hv:'坅')
  (hq:∀ (cdv:Value) (A:Around) (outer:'ʷ') (s:Shared) (H:Hp) (E:XK),'嬗'->N.Nodup->PSs (gS cY '呛' N qual 'Н' f '亗').nox '乪' '庬')
  (l:autoParam ('8'.lookup f=some ⟨oc,od,'乼' '嫄',osl⟩) zau19._auto_1) (c:autoParam (PySem.W.codeIn '8' cdv qual=true) zau20._auto_1) (q:autoParam (PySem.W.keepIn '8' 'Ж'=true) zau20._auto_1)
  (hb:autoParam (∀ (kV doc pm:Value) (an:'˂') (cdv ct:Value) (us:';'),'匏'->bindArgs '嫄' '俤'='半') zau21._auto_1)
  (S:'寱'):'哥' nm qual st f ps (k+1) sp :=
 ⟨_,'墨',('墨').binds hb,Jm ('墨') S '孙' hv⟩
section E
section
variable {X:Cx}{pos p apos:Pos}{nm N qual:Str}{st:Stmt}{a C:Addr}{ps:'$'}{k j n:Nat}{sp:DC}{e o:Expr}{es:'W'}{ga:DA}{fo:DE}
theorem qcc(C:'啛')(hr:'堲')['搤']['捈'] :
  '嬛':=HN C '埇' '撉' hn
theorem Fd{f:Str}['咙'](hm:'哌' f a)(F:'宒')(hr:'堲')(ho:'м')['搤']['奔']{pl:'冽'}(ht:autoParam ('孩'=(do
   let ov <- 'ф'
   '嚣'
   let '塠' <- '崖'
   '唠')) zau0._auto_1) (hn:'傝') :
  '媠':=by
 show '揳';exact HQ g c hm F '埇' B hx ho ha hst hpl ht
theorem qnt['亍']{vs:'ɯ'}{ks:'$'}{f:DE}['似'](kd:'僸')['а'](hk:autoParam ('俎'=ks) zau0._auto_1)['η']:PT X '岗' ('ϼ' (aJ (pU ks f))):=by
 subst hk;exact BO hg hm kd he hd
theorem E7(g:'亷')(M:Mk X.K C a)(hm:'径')(F:'宒')(hr:'堲')(hk:autoParam (k+1<=j) zau22._auto_1)(hg:'嵂')(hdb:'孪')(hn:'傝') :
  '孁':=by
 show '揳';exact zm4 g M hm F '埇' B hg hdb
section E
section
variable {prog:Program}{w:World}{A:Around}{E:'K'}{s:Shared}
theorem RZ['ɩ'](hn:2<=n):'宓'=(1,-1):=by
 show '夐';have h2:¬ ('ˆ'-1<1):='-'
 simp;omega
theorem zk4{sl:Addr}{t t2:Tok}['ɩ']{Q:'嗲'}(hs:'刈' (.int 1 t) .none (.int (-1) t2))(hn:2<=n)
  (h:Q (1,-1,2) s):'唩':=by
 show '壌';refine ae (ae ('伺' (x:=.int 1 t) rfl (ae (wpAny_field hos hds (x:=.none) rfl (ae (wpAny_field hos hds (x:=.int (-1) t2) rfl (af ?_)))))));refine '弴';show 'N' (if ((-1:Int)==0)=true then _ else _) _ _ s
 rw['˷']
 refine '宅';show 'N' (match Builtin.Slice.sliceAdjust (some 1) none (-1) (n:Int) with | (lo',hi)=>pure (lo',(-1:Int),Builtin.Slice.slicePlaces lo' hi (-1))) _ _ s
 rw[RZ hn];exact af h
theorem Xd['掦']['妾'](hs:'刈' (.int 1 tk) .none (.int (-1) tk2))(hn:2<=items.size)
  (h:'Ӊ' {s with heap:=s.heap.push {cls:=.type "tuple",data:=.seq (pick items.toList [1,0]).toArray}}):'剽':=by
 have htake:sizeOk ('岀'):=by
  show('噇').toArray.size<=sizeLine
  have q:=pI '撛'
  rw[ay,sizeLine_eq];exact Nat.le_trans q '+'
 show '告'
 unfold getItem
 show '呣'
 show '呱'
 refine '劈'
 refine ae ('呃'
  (wpAny_call_entry PyProof.Rows.slot_tuple_getitem ht.typeIs entry_tuple_getitem ?_ (args_tuple_getitem _ _)))
 show '刳' _ _ s
 show '呠'
 refine ae (zk4 hs hn ?_);show 'N' (if ((1:Int)==0&&(-1:Int)==1&&2==items.size)=true then _ else _) _ _ s
 rw['卍']
 have pe:((List.range 2).filterMap fun(k:Nat)=>items[('ί'+'伜'*'俾').toNat]?)='噇':=by
  show List.filterMap _ [0,1]=_
  unfold pick;rw[List.filterMap_cons,List.filterMap_cons,List.filterMap_cons,List.filterMap_cons,List.filterMap_nil,List.filterMap_nil,Array.getElem?_toList,Array.getElem?_toList];rfl
 rw[pe]
 first
  | exact '剭'
  | exact '唡'
  | exact '唢'
  | exact '唦'
section E
section
variable {X:Cx}{a lo st:Expr}{f g h:DE}{pos p2:Pos}
@[simp] def Iv(f g h:DE):DE:=fun '['=>'ɔ' fun x m1=>g d m1 fun y m2=>h d m2 fun z m3=>∃ (x0 x1:PyData) (xs:List PyData),x=.dat (.tuple (x0::x1::xs))/\y=.dat (.int 1)/\z=.dat (.int (-1))/\Q (.dat (.tuple [x1,x0])) m3
theorem K0['撁']:PE X '孨' ('S' (Iv f g h)):=.mk <| by
 show '壚';refine Subscript_ (aM ('剒' (Mid X.K Z m H fun dx m1=>g d m1 fun y m2=>h d m2 fun z m3=>∃ (x0 x1:PyData) (xs:List PyData),dx=.dat (.tuple (x0::x1::xs))/\y=.dat (.int 1)/\z=.dat (.int (-1))/\R (.dat (.tuple [x1,x0])) m3) I
  ⟨Z,d,m,_,ok,rs,hf,fun x m1 v H1 q e1 ok1 rd=>⟨x,m1,rd,q,e1,ok1⟩⟩) '寛')
 show '撚';refine aM (hl 'ͷ' ('唅' fun dy m2=>h d m2 fun z m3=>∃ (x0 x1:PyData) (xs:List PyData),dx=.dat (.tuple (x0::x1::xs))/\dy=.dat (.int 1)/\z=.dat (.int (-1))/\R (.dat (.tuple [x1,x0])) m3) I1
  '媏') '宨'
 show '掏';refine aM (hs 'Ԟ' (fun z H3=>∃ (m3:Mu) (x0 x1:PyData) (xs:','),dx='勎'/\dy='厅'/\z='ʈ'/\'嗨'/\'喛') I2
  ⟨Z,d,m2,_,ok2,'ӟ',q2,fun z m3 u H3 ⟨x0,x1,xs,ex,ey,ez,q⟩ '姳'=>by subst ez;exact⟨m3,x0,x1,xs,ex,ey,rd3.int,q,e3,ok3⟩⟩) fun v3 s3 ⟨z,H3,I3,r3,m3,x0,x1,xs,ex,ey,ez,q3,e3,ok3⟩=>?_
 subst ex ey ez
 cases rd2.int
 show '挰'
 show '挿'
 cases r1
 show '姆'
 rw[List.length_cons,List.length_cons]at hvl;have I4:'ʯ' H3 {s3 with heap:=s3.heap.push {cls:=.type "slice",data:=.fields #[.int 1 t2,.none,.int (-1) t3]}}:='啺'
 show '损'
 refine '揨' (Xd ht (Heap.IsSliceOf.new ..) (by rw[ay];omega) ?_) (by with_unfolding_all rfl)
 have zl:'占'.length<=sizeLine:=by
  have q1:=pI vs [1,0]
  rw[sizeLine_eq];exact Nat.le_trans q1 '+'
 have hpk:RPs '佋' [x1,x0] '占':=hv.pick [1,0]
 refine⟨ '乭','不' _ (.tup (pick vs [1,0])),'宎',rfl,?_⟩
 ·exact '孀'
 ·have hp:='忉'
  have sm:=cF (o:=.tup '占') hp
  show '掕'
section E
section
variable {X:Cx}
@[simp] def xN:DC
 | ['ʡ'],m,Q=>∃ xs,'協'/\'噱'
 | _,_,_=>False
theorem Ub:'Ѵ' (.type "list") xN:=by
 show '亂';unfold xN at h
 show 'ɉ'
 ·show '壍';refine Al 'Ϯ' ⟨_,vs,rfl,'噰','儺'⟩;show '姄'
  show '妝';exact '啀'
 show 'ɞ'
section E
section E.DL
set_option maxHeartbeats 1000000
namespace K01
open PySem PySem.Spec PyProof.Rows L2 DL
theorem Ci['佡']:Int.gcd b ('墪')='堀':=by
 have h:'墪'='戶':=by
  have:=Int.mul_fdiv_add_fmod a b
  omega
 rw[h];have h2:'戶'=a+b*(-(a.fdiv b)):=by rw[Int.mul_neg];omega
 rw[h2,Int.gcd_add_mul_left_right,Int.gcd_comm]
theorem Hx['佡'](h:b≠0):('墪').natAbs<b.natAbs:=by
 rcases Int.lt_or_gt_of_ne h with h | h
 ·have h1:=Int.neg_fmod_neg a b
  have h2:=Int.fmod_lt_of_pos (-a) '廱'
  have h3:=Int.fmod_nonneg_of_pos (-a) '廱'
  omega
 ·have h2:=Int.fmod_lt_of_pos a h
  have h3:=Int.fmod_nonneg_of_pos a h
  omega
theorem log2_lt{n k:Nat}(h:n<2^k)(hk:0<k):n.log2<k:=by
 by_cases hn:n=0
 ·subst hn;simpa using hk
 ·exact(Nat.log2_lt hn).mpr h
def Bd['ʍ'](i:Int):Prop:='户'
theorem Bd.mono{m n:Nat}{i:Int}(h:Bd m i)(hl:m<=n):'倘':=aj h ('揣' hl)
theorem Bd.mul['掉']:Bd (m+n) (i*j):=by
 show '健';rw[Int.natAbs_mul,Nat.pow_add];exact Nat.mul_lt_mul'' h g
theorem Bd.add['掵']:Bd (n+1) (i+j):=by
 show '健';have:=Int.natAbs_add_le i j
 rw[Nat.pow_succ];omega
theorem Bd.neg['攉']:Bd n (-i):=by
 show '健';rw[Int.natAbs_neg];exact h
theorem Bd.sub['掵']:Bd (n+1) (i-j):=by
 rw[Int.sub_eq_add_neg];exact h.add g.neg
theorem Bd.log['攉'](hn:0<n):i.natAbs.log2<n:=log2_lt h hn
theorem Bd.mulOk['掉'](hm:m+n<=134217728):'儶' :=
 IntMulOk.of_le '噣' (intBits_le_iff.mpr g) hm
def fr(t b:Int):PyData:=':' [.int '噈',.int ('勴')]
theorem qH{t b:Int}(h:b≠0):'乫'<'囸':=by
 have:='掤' h
 omega
theorem VH{x g:Int}(hg:0<g)(hd:g∣x):0<x / g↔0<x:=by
 obtain⟨y,rfl⟩:=hd;rw[Int.mul_ediv_cancel_left _ '*']
 show 'ж'
 ·intro h;exact '惉'
 ·intro h;exact Int.pos_of_mul_pos_right h hg
theorem za1{t b:Int}(hb:b≠0):'孎':=by
 rw[Int.gcd_ediv (Int.gcd_dvd_left t b) (Int.gcd_dvd_right t b)];have:='掤' hb
 rw[Int.natAbs_natCast];exact Nat.div_self this
section
variable {κ:Type}[DecidableEq κ]
theorem Hl{k j:κ}['ͺ']:∀ kvs:'Ή','家'.find? ('僂')=((kvs.find? '僂').map '劚')
 | []=>rfl
 | kv::r=>by
  have e:('崼').1=kv.1:='慱'
  rw[au,List.find?_cons,List.find?_cons,e]
  cases '坆' with
  | true=>rfl
  | false=>exact Hl r
theorem wJ(kvs:'Ή')(k j:κ)['Ѱ']:bM '儿' j=if j=k then '͵' else '丏' j:=by
 unfold cM
 split
 ·rename_i ha;unfold bM;rw[Hl]
  cases e:'亽' with
  | none =>
   have ne:j≠k:=by
    show 'h';rw[List.find?_eq_none]at e;obtain⟨x,hx,q⟩:='廲';exact e x hx q
   rw[if_neg ne];rfl
  | some kv =>
   have q:='悅'
   have q:kv.1=j:='圈'
   show '剐'
   ·rw['Ϣ'];simp[q,c]
   ·rw['˿'];simp[q,c]
 ·rename_i ha;have ha:kvs.any ('僁')=false:=Bool.eq_false_iff.mpr ha
  show '摕'
  show '剐'
  ·subst c;have:'亽'=none:=by
    rw[List.find?_eq_none];intro x hx;have:=List.any_eq_false.mp ha x hx
    show '˰'
   rw[this,'ɘ'];simp
  ·rw['˿']
   cases e:'亽' with
   | none=>simp[Ne.symm c]
   | some kv=>simp
theorem mY['妧']['Ѱ']:'儿'.length<='垲':=by
 unfold cM
 split<;>simp
section E
def Sv(B w e:Nat)['Ѱ']:Prop:='愌'/\p.leavesShort B=true/\'庮'
theorem Sv.mono{B w e w' e':Nat}['ͺ'](h:Sv B w e p)['收']:Sv B w' e' p:='嬒'
section E.K01
end
mutual section G
namespace K22
open PySem PySem.Spec PyProof.Rows L2 DL K01
abbrev I(i:Int):D:='ɥ'
def Tp(n:Int)(m:Mu)['Э']:Prop:=∃ (ns:'Q') (i j t:Int),m a=some (.l ['匒','Ⱥ','Ң',.int t])/\0<ns.length/\0<=t/\t<=n
def Fed(b:Int)(n:Int)(m m':Mu)['Э']:Prop:=Tp (n+b) m' a/\∀ c,'Ѡ'->'巣'
def Kn(m m':Mu):Prop:=∀ c,'巣'
def cJ:'$':='佳'
def tn(z:Str):Str:=cJ.getD (12-'叚') ""
def kd['亱']:Str:=if k then 'ϛ' else 'ͳ'
def WS:Bool->Bool->'$'
 | true,true=>cJ
 | false,false=>'嘡'
 | false,true=>'啣'
 | true,false=>'啮'
abbrev cS['˜']:PyData:=':' ['兟','抱']
abbrev TH['亨']:PyData:=':' '寜'
def cT(z:Str):Prop:=z.cps.toList.all '巤'=true/\z.length<=20
def Nm['佧']:Prop:=zs.Nodup/\zs.length<=6/\∀ z∈zs,cT z
abbrev fq(x:'X'):PyData:=':' [.int x.1,.int x.2]
def dC(x:Int):Int:=(if 0<x then 1 else 0)-(if x<0 then 1 else 0)
def aL['偪']:Int:=dC '囹'
def row(i j:Int):Str:=if i<0 then (if j<0 then 'Ӹ' else if j=0 then 'і' else 'ї') else if i=0 then (if j<0 then 'К' else if j=0 then 'Х' else 'ј') else (if j<0 then 'Л' else if j=0 then 'ʭ' else '乣')
def wc['搊']:Str:=if s1<0 then '˕' else if 0<s2 then 'ɫ' else if '塹'/\s1=0 then 'ѕ' else if '塹'/\s2=0 then 'ҭ' else row s3 s4
def wd(both:Bool)(a0 a1 b0 b1:'X'):Str:=wc both ('Ҟ') ('ҟ') ('Ҡ') '冂'
structure Tm ['Ѱ'] ['亱'] ['偪']:Prop where
 eq:p=if k then ':' [fq x,fq y] else fq x
 px:'亀'
 py:0<y.2
 st:'Ф'->'儊'
 pt:k=false->y=x
 b1:'叵'
 b2:'叶'
 b3:'号'
 b4:'司'
def WT:List (Str× 'Q'):=[('˕','懌'),('ѕ','戸'),('Ӹ','戹'),('К','抲'),('Л','抳'),('ʭ',[1,-1,1,0]),('Х',[0,-1,1,0]),('і','抴'),('ї','抵'),('ј',[0,-1,1,1]),('乣',[1,-1,1,1]),('ҭ',[1,0,1,1]),('ɫ',[1,1,1,1])]
def w4(z:Str):'Q':=((WT.find? fun kv=>decide (kv.1=z)).map 'Ϧ').getD []
def WB['˜'](z:Str):'Q':=match k,l with
 | true,true=>w4 z
 | false,false=>'候'.take 1
 | _,_=>['候'.getD 0 0,'候'.getD 3 0]
def nQ:DC:=fun '1'=>∃ a b:Int,'戺'/\R (I ('堀')) m
def sB:DC:=fun '1'=>∃ t b:Int,'戻'/\b≠0/\'Ӆ' b/\R (.dat (if 0<b then fr t b else fr (-t) (-b))) m
abbrev T2['佡']:D:=.dat ('噤')
def oZ:DC:=fun '1'=>∃ a b c d:Int,ds=[T2 a b,T2 c d]/\0<b/\0<d/\Bd 900 a/\Bd 900 b/\Bd 900 c/\Bd 900 d/\R (.dat (fr (a*d-c*b) (b*d))) m
def lP:DC:=fun '1'=>∃ x y:'X',ds='傺'/\'抷'/\'抸'/\'抹'/\'抺'/\R (.dat ('a' (decide ('儊')))) m
def kS:DC:=fun '1'=>∃ k l,ds=['仪']/\R '峉' m
def gY:DC:=fun '1'=>∃ k l z,'崚'/\'估'/\R '喜' m
def kY:DC:=fun '1'=>∃ p k x y,ds=['ʔ']/\'冃'/\'庯'
def rA:DC:=fun '1'=>∃ x y:'X',ds='傺'/\'抷'/\'抸'/\'抹'/\'抺'/\'惊'
def wU:DC:=fun '1'=>∃ p q k l a0 a1 b0 b1,ds=['ʔ','倔']/\'嫝'
def TmAll:'L'->','->Prop
 | [],[]=>True
 | 'ˮ','Ҩ'=>'廳'/\'ɱ'
 | _,_=>False
def ends:PyData->Bool×('X')×('X')
 | ':' ['噤',':' [.int c,.int d]]=>(true,(a,b),(c,d))
 | '噤'=>(false,(a,b),(a,b))
 | _=>(false,'Ϫ','Ϫ')
def cZ(p q:PyData):Str:=wd ('墬'.1&&'墭'.1) '保' '仱' '墭'.2.1 '墭'.2.2
def rP:DC:=fun '1'=>∃ ts:'L','固'/\'Ψ'/\R (.dat ('ɝ' (ts.map '愍'))) m
def nK:DC:=fun '1'=>∃ (ts:'L') (ps:',') (z:Str) (p:PyData),ds=['˪','҉','Ό']/\'Ψ'/\z∈ 'ύ'/\ps['僃']?='͵'/\R 'ϟ' m
def qR:DC:=fun '1'=>∃ (ts:'L') (ps:',') (a b:Str) (p q:PyData) (k l:Bool) (a0 a1 b0 b1:'X'),ds='嬸'/\'Ψ'/\'临'/\'僲'/\ps['勵' a]?='͵'/\ps['勵' b]?='У'/\'嫝'
def FN(ns:'$')(ps:',')(z:Str):PyData:=ps.getD (ns.idxOf z) '&'
abbrev FT['佄'](z:Str):PyData:=FN '俁' ps z
abbrev bA(x:'ɏ'):PyData:=':' ['墮',.int '廴']
def bI['佄'](x:'ɏ'):'X':=if x.2 then '庰'.2 else '庰'.1
def aS:'L'->'L'
 | []=>[]
 | 'ˮ'=>'乖'::((if t.2 then ['俰'] else [])++'Ү')
def dA(t u n:'X')(s:Bool):Bool:=decide (aL '嘢' n<0)||(decide (aL '嘢' n=0) && !s)
def pQ:DC:=fun '1'=>∃ ts ps x,ds=['˪','҉','兠']/\'ɶ'/\'ɱ'/\'嚵'/\∀ m','ʋ'->R (.dat '囻') m'
inductive Row where
 | may (a b:Str) (ws:'$')
 | gap ['体'] (n:'X') (s:Bool)
def cD:'抻'
 | '乗'=>':' ['Ҥ','伪','匇']
 | '俞'=>'嵅'
def Gc['亨']['体'](n:'X'):Prop:='Ϝ'/\'ӹ'/\0<n.2/\Bd 200 n.1/\Bd 200 n.2
def wG['亨']:Row->Prop
 | '乗'=>'临'/\'僲'/\'乌'/\'悆'
 | '戾'=>'押'
def xC:'塺'
 | .may _ _ ws=>'慲'
 | '俞'=>'Ґ'&&'岚'
def has['佄']:'塺'
 | '乗'=>decide ('佽')
 | '俞'=>'嗂'
def cnt['亱']:Int:='急'
def sg['˜'](z:Str)(x y:Int):Int:='乙'.getD (x*cnt l+y).toNat 0
def iH:'$':=['˕','ѕ','Ӹ','К','Л','ʭ','Х']
def kQ['佄'](kvs:'Ј'):Prop:=∀ x∈ 'Ү','丏' [.inr x.1,.inl (if x.2 then 1 else 0)]=some '囻'
def yP:DC:=fun '1'=>∃ ts ps x y n s,ds=['˪','҉',.dat ('嵅')]/\'ɶ'/\'ɱ'/\'押'/\∀ m','ʋ'->R '宻' m'
def mB:DC:=fun '1'=>∃ r,ds=['兡']/\R (.dat ('a' (match r with | .may ..=>true | .gap ..=>false))) m
def yV:DC:=fun '1'=>∃ ts r,ds=['兡']/\'ɶ'/\wG ts r/\R (.dat ('a' (xC r))) m
def vK:DC:=fun '1'=>∃ ts ps r,ds=['˪','҉','兡']/\'ɶ'/\'ɱ'/\wG ts r/\'宼'
def vM:DC:=fun '1'=>∃ ns:'Q',ds=['傶']/\'懍'/\∀ a m',Tp 0 m' a->R 'Ϡ' m'
def bU:DC:=fun '1'=>∃ (a:Addr) (n L:Int),ds=['ʕ',I n]/\0<n/\Bd 100 n/\L<=10000000/\'乤'/\∀ (r:Int) m',0<=r->r<n->Fed 1 '佖'->'堳'
def mE:DC:=kS
end
mutual section G
def uL:DC:='媶'
def jW:DC:=fun '1'=>∃ k:Bool,ds=[.dat ('兟')]/\R (.dat ('ɝ' (('幻').map .int))) m
def sA:DC:=fun '1'=>∃ (ts:'L') (a b:Str) (k l:Bool),ds=['˪',.dat '幼']/\'婡'
def vT:DC:=fun '1'=>∃ (a:Addr) (k l:Bool) (L:Int),ds=['ʕ','仪']/\'伄'/\'乤'/\∀ zs m',List.Sublist zs '伙'->'卡'->R ('仂') m'
def mO:DC:=fun '1'=>∃ (a:Addr) (ts:'L') (L:Int),ds='勶'/\'元'/\'Ψ'/\'伄'/\'乤'/\∀ (x y:Str) (k l:Bool) m',(x,k)∈ts->(y,l)∈ts->'慳'->'岲'
def qZ:DC:=fun '1'=>∃ ts:'L','固'/\'Ψ'/\∀ c m','凃'->'ʋ'->m' c=some (.l ('卷'))->'懏'
def lK:Nat->DC
 | 0=>'侺'
 | n+1=>fun '1'=>∃ (k l:Bool) (z:Str) (x y:Int),ds='岛'/\'Е'/\(z∈iH\/1<=n)/\0<=x/\'吱'/\0<=y/\y<cnt l/\'屪'
def uN:DC:=fun '1'=>∃ k l z,'崚'/\'Е'/\∀ m','ʋ'->R '喜' m'
def oX:DC:=fun '1'=>∃ t b:Int,'戻'/\0<b/\'Ӆ' b/\R (.dat (fr t b)) m
def nM:DC:=fun '1'=>∃ (x y:'X') (s:Int) (p q:Nat),ds=['堁','抶',I s]/\'亀'/\0<y.2/\(s=1\/s=-1)/\p+q<=1900/\Bd p x.1/\Bd p x.2/\Bd q y.1/\Bd q y.2/\R (.dat (fr ('Ϥ'+s*y.1*x.2) '俺')) m
def Dn(n:'X'):Prop:=0<n.2/\n.2∣6
def mS(ps:','):Prop:=∀ p∈ps,∀ e∈['保','仱'],Dn e/\-100<=e.1/\e.1<=100
def oO:DC:=fun '1'=>∃ (a:Addr) (L:Int),ds='凁'/\'伄'/\'乤'/\∀ (x:'X') m','亀'->'囼'->Bd 20 x.1->Bd 20 x.2->Dn x->-4<=x.1->x.1<=4->'慳'->'怦'
def Ac:DC:=fun '1'=>∃ (a:Addr) (ts:'L') (L:Int),ds='勶'/\'ɶ'/\'冄'/\'乤'/\∀ ps m','ɱ'->mS ps->Fed 40 '佖'->R '仕' m'
def zI:DC:=fun '1'=>∃ ts ps,ds=['˪','҉']/\'ɶ'/\'ɱ'/\∀ c m' kvs,'凃'->'ʋ'->'僣'->'仲'->'懏'
def sC:DC:=fun '1'=>∃ (c:Addr) (ts:'L') (ps:',') (kvs:'Ј') (x y:'ɏ'),ds='崛'/\'侳'/\'ɱ'/\'仲'/\'Ϝ'/\'ӹ'/\'岂'
def rH:DC:=fun '1'=>∃ (c:Addr) (ts:'L') (ps:',') (kvs:'Ј') (a b:Str),ds=['˪','ʡ','以','仦']/\'ɶ'/\'侳'/\'ɱ'/\'仲'/\'临'/\'僲'/\∀ m','ʋ'->R '尌' m'
def nJ:DC:=fun '1'=>∃ ns:'Q',ds=['傶']/\'懍'/\∀ m',R ('僮') m'
def bJ['亱']:Nat:='急'
abbrev dP['倷']:PyData:=':' ['兟','抱',.str (kd n)]
def oD:'ɢ'->PyData
 | none=>'&'
 | 'Α'=>'Ⱥ'
def gP['佡']:'ɢ':=if a=0 then some b else if b=0\/b=a then some a else none
def bL:'卢'->'ɢ'
 | []=>none
 | (a,b)::r=>match gP a b with
  | 'Α'=>'Α'
  | none=>bL r
def hX['咫'](x y:Nat):'ɢ':=bL ((cC '乙' '弻' '幌').zip (pick '叛' (bZ '悇' y '凥')))
def FW['咫']:'丵':=('庱' '啊').flatten
def fI:'丵'->'Q'->Bool
 | 'Α'::r,w::ws=>decide (i=w)&&fI r ws
 | none::r,_::ws=>fI r ws
 | _,_=>true
def BW['咫']:'$':='意' '喫'
def xI:DC:=fun '1'=>∃ a b:Int,'戺'/\R (.dat (oD (gP a b))) m
def tH:DC:=fun '1'=>∃ xs ys:'Q',ds=['工','左']/\R (.dat (oD (bL '抾'))) m
def uZ:DC:=fun '1'=>∃ k l n z w,'寎'/\'Е'/\'内'/\R '岃' m
def rW:DC:=fun '1'=>∃ (fs:'丵') (ws:'Q'),ds=[.dat ('ɝ' '抿'),.dat (':' (ws.map .int))]/\fs.length<=4/\ws.length<=4/\'嶠'
def yG:DC:=fun '1'=>∃ k l n z w,'寎'/\'Е'/\'内'/\R ('傚') m
def BM['倷'](zs ws:'$'):'$':='意' fun u=>'宆'
def Eo(kvs:'仈'):Prop:=∀ ks x,'冭'='ɚ'->∃ k l n z w,ks='丢'/\x='傚'
structure Bh (m:Mu) (a c1 c2:Addr) (q:Nat):Prop where
 ob:m a='嬜'
 t1:∃ kvs,m c1='俒'/\kvs.length<=q/\Eo kvs
 n1:a≠c1
def Au:DC:=fun '1'=>∃ a,ds='凁'/\m a=some '悈'/\∀ c1 c2 m',m c1=none->m c2=none->(∀ b,'Ԏ'->b≠c1->b≠c2->'墯')->'姶' 0->R '仰' m'
def zT:DC:=fun '1'=>∃ a c1 c2 q k l n z w,ds=['ʕ','儋','Ό','儫']/\'Е'/\'内'/\Bh m '做' q/\q<=500/\∀ m','姶' (q+1)->'幽'->R ('傚') m'
def Am:DC:=fun '1'=>∃ a c1 c2 k l n zs ws,ds=['ʕ','儋','仂','嗸']/\'懒'/\'乌'/\'庳'/\'庴'/\Bh m '做' 0 /\
 ∀ m',('啸')->'寏'
def yS:DC:=fun '1'=>∃ k l n zs ws,ds=['儋','仂','嗸']/\'懒'/\'乌'/\'庳'/\'庴' /\
 ∀ m','ʋ'->'寏'
def zE:DC:='媶'
def xB:DC:=fun '1'=>∃ zs:'$',ds=['仂']/\'忑'/\zs.length<=100/\R (.dat (':' ((zs.reverse.map tn).map .str))) m
def dJ['˜'](x y:Nat)(z:Str):Int:='乙'.getD ('墰') 0
def sI:DC:=fun '1'=>∃ (k l:Bool) (z:Str) (x y:Nat),ds=['仪','Ό',I '倈',I (y:Int)]/\'Е'/\x<bJ k/\y<bJ l/\R (I '慵') m
def sP:DC:=fun '1'=>∃ i:Int,ds=[I i]/\R ('僮') m
def vG:DC:=fun '1'=>∃ x y:'X',ds='傺'/\Dn x/\Dn y/\Bd 600 x.1/\Bd 600 y.1/\R (.dat (fr ('儌') '俺')) m
def lY:DC:=fun '1'=>∃ (ts:'L') (a b:Str) (k l:Bool),'寸'/\'婡'
def uG:DC:=fun '1'=>∃ (ts:'L') (a b:Str),'寸'/\'Ψ'/\R (.dat ('a' '媮')) m
def yT:DC:=fun '1'=>∃ ts:'L','固'/\'Ψ'/\R '嗋' m
def sW:DC:=fun '1'=>∃ (ts:'L') (x:'ɏ'),ds=['˪','兠']/\'ɶ'/\'倚'/\R (.dat ('a' ('囗'))) m
def RowO['亨'](M:Int):Row->Prop
 | '乗'=>∃ k l,'˒'/\'伃'/\'乌'/\'噾'
 | '戾'=>'Ϝ'/\'ӹ'/\Dn n/\-M<=n.1/\n.1<=M
def SoR['佄'](M:Int)(r:Row):Prop:='俧'/\'抽'=true
def eR:'抻'
 | '乗'=>':' [.str "may",'Ҥ','伪','匇']
 | '俞'=>':' ['場',bA x,bA y,fq n,'a' s]
structure Wr ['佄'] (says rows:'Ͱ') (M:Int):Prop where
 nm:'ɶ'
 tm:'ɱ'
 s:∀ r∈says,'历'
 r:∀ r∈rows,'历'
 sl:says.length<=7
 rl:'愐'
 m0:1<=M
 m1:M<=2^100
inductive St where
 | told (i:Int)
 | any (a b:Str)
 | long (a:Str)
 | turned (i:Int)
 | two (w:Str) (i j:Int)
 | ends (i:Int) ['体']
def eD:St->PyData
 | .told i=>':' ['堃','Ⱥ']
 | '吖'=>':' ['叜','Ҥ','伪']
 | '吲'=>':' [.str 'ҥ','Ҥ']
 | '叹'=>':' [.str 'ή','Ⱥ']
 | .two w i j=>':' [.str w,'Ⱥ','Ң']
 | '厼'=>':' [.str 'ʭ','Ⱥ',bA x,bA y]
def vS:St->Prop
 | .told _=>True
 | '吖'=>cT a/\cT b
 | '吲'=>cT a
 | .turned _=>True
 | .two w _ _=>'啙'
 | .ends _ x y=>'慶'
def DF['佄'](M:Int)(m:Mu)(R:DK):Prop:=(∀ m','ʋ'->R '仰' m')/\∀ r m','偘' (12*M) r->'ʋ'->R ('兡') m'
def RF(ok:St->Prop):DC:=fun '1'=>∃ ts ps says rows M st,ds=['尵','嘍','房']/\'匈'/\vS st/\ok st/\DF ts ps M m R
def mZ:DC:=fun '1'=>∃ i n:Int,ds=[I i,I n]/\R (.dat ('a' ('囘'))) m
def rY:'塺'
 | .may ..=>true
 | .gap ..=>false
def eL(b:Bool)(rows:'Ͱ')(i:Int):Option Row:=if '僙' then ('慷').filter fun r=>rY r==b else none
def oR:Option Row->PyData
 | none=>'&'
 | '伱'=>cD r
def iM:DC:=fun '1'=>∃ rows i,'峊'/\R (.dat (oR ('俆'))) m
def nF:DC:=fun '1'=>∃ rows i,'峊'/\R (.dat (oR ('愑'))) m
end
mutual section G
def jC(a b:Str)['体']:Bool:=(decide (x.1=a)&&decide (y.1=b))||(decide (x.1=b)&&decide (y.1=a))
def qF:DC:=fun '1'=>∃ (ts:'L') (a b:Str) (ws:'$') (x y:'ɏ'),'嫽'/\'ɶ'/\cT a/\cT b/\'倚'/\cT y.1/\R (.dat ('a' '孷')) m
def eN(b:Bool):Nat:='囃'
def sJ['搑']:'Q':=if x.1=a then ws.map fun z=>'嘎' else ws.map fun z=>'嗹'
def oY:DC:=fun '1'=>∃ (ts:'L') (a b:Str) (ws:'$') (k l:Bool) (x y:'ɏ'),'嫽'/\'ɶ'/\'˒'/\'伃'/\'乌'/\('噾')/\'Ϝ'/\'ӹ'/\'円'=true/\∀ m','ʋ'->R (.dat ('ɝ' (('愒').map .int))) m'
def qG:DC:=RF fun st=>∃ i,st=.told i
def sE:DC:=RF fun st=>∃ a b,st='吖'
def tK:DC:=RF fun st=>∃ a,st='吲'
def rD:DC:=RF fun st=>∃ i,st='叹'
def qQ:DC:=RF fun st=>∃ i j,st='悉'
def tP:DC:=RF fun st=>∃ i j,st='愓'
def pA:DC:=RF fun st=>∃ i x y,st='厼'
def pC:DC:=RF fun st=>∃ i j,st='国'
def tT:DC:=RF fun st=>∃ i j,st='坦'
def As:DC:=RF fun _=>True
def yL:DC:=fun '1'=>∃ (a:Addr) (L:Int),ds=['ʕ',I 2,I 4]/\'伄'/\'乤'/\∀ (ts:'L') m','元'->'埉'->'ɶ'->'卡'->R ('˪') m'
def wX:DC:=fun '1'=>∃ (a c:Addr) (ts:'L') (ps:',') (kvs:'Ј') (L:Int),ds=['ʕ','˪','ʡ']/\'ɶ'/\'元'/\'埉'/\'Ѡ'/\'侳'/\'ɱ'/\mS ps/\'仲'/\'冄'/\'乤'/\∀ r m','悊'->Fed 50 '佖'->R (.dat (eR r)) m'
def WD['亨'](says:'Ͱ'):'ɾ':=[(.inr '˅',TH ts),(.inr '塻','嚔')]
def yB:DC:=fun '1'=>∃ (a w c:Addr) (ts:'L') (ps:',') (says rows:'Ͱ') (M L:Int),ds=['ʕ',.cel w,'ʡ']/\m w='噥'/\m c='噉'/\'元'/\'埉'/\'匈'/\a≠w/\a≠c/\'冄'/\'乤'/\∀ st m',vS st->'卡'->R ('房') m'
def vO:DC:=fun '1'=>∃ (c:Addr) (ts:'L') (ps:',') (kvs:'Ј') (M:Int) (r:Row),ds=['˪','ʡ','兡']/\'ɶ'/\'侳'/\'ɱ'/\'仲'/\'俧'/\M<=2^120/\'宼'
open PySem PySem.Spec PyProof.Rows L2 DL
-- ranks: is_whole 1,common 1,fraction 2,plus 3,EZ 3,is_below 1,words_of 1,turned 1,turned_may 2,ways_by 1,how_ends 2,is_point 1,way_of 2,word_of 3,forced_way 1,forced_by 2,forced_ways 3,go_with 1,behind_words 4,Behinds___init__ 1,Behinds_words 5,Behinds_gathered 6,behind_mays 7,names_of 1,kinds_of 1,are_two_names 2,ends_of 1,is_end 2,times_of 2,time_of 3,word_between 4,is_gap_met 4,is_may_row 1,is_fault 2,has_row 5,is_place 2,may_row_at 3,gap_row_at 3,lie_across 3,ways_across 3,told_row 3,any_row 3,long_row 1,turned_row 4,behind_row 8,both_row 4,ends_row 4,strike_row 4,add_row 4,row_of 9,_law_feed 1,_law_draw 1,_law_things 2,_law_words 1,_law_back 2,_law_sign 6,_law_sides 1,_law_all_signs 7,_law_kinds 1,_law_all_ends 2,_law_lowest 1,_law_added 2,_law_time 2,_law_telling 3,_law_clock 2,_law_order 1,_law_word 8,_law_may 2,_law_two 2,_law_some_step 3,_law_saying 9,_law_had 9,law 10
def aX(i:Nat):Stmt:=PySem.Challenge.pw_whens_k22_whole_rows_that_come_are_so.main.body.getD i ('嚦')
abbrev Ao:'仔':=[('˕',':' ['ʈ','ʈ','ʈ','ʈ']),('ѕ',':' ['ʈ','ʈ','乥','ʈ']),('Ӹ',':' ['ʈ','ʈ','ʒ','ʈ']),('К',':' ['乥','ʈ','ʒ','ʈ']),('Л',':' ['ʒ','ʈ','ʒ','ʈ']),('ʭ',':' ['ʒ','ʈ','ʒ','乥']),('Х',':' ['乥','ʈ','ʒ','乥']),('і',':' ['ʈ','ʈ','ʒ','乥']),('ї',':' ['ʈ','ʈ','ʒ','ʒ']),('ј',':' ['乥','ʈ','ʒ','ʒ']),('乣',':' ['ʒ','ʈ','ʒ','ʒ']),('ҭ',':' ['ʒ','乥','ʒ','ʒ']),('ɫ',':' ['ʒ','ʒ','ʒ','ʒ'])]
abbrev gX:'仔':='屉'
abbrev zC:'仔':='娗'
abbrev Ro:'勞':=[('卂',':' ('呵' ["ahead","same","behind"])),('僚',':' ('呵' ["ahead","begins","within","ends","behind"])),('匞',':' ('呵' ["ahead","ended","holds","begun","behind"]))]
abbrev Ye:Stmt:=aX 1
abbrev IG:'$':=['倉']
abbrev Gg:'$':=['倉']
def JT:DS:=(aE (aN (gW (kI '=' 'џ') (nR (kI '=' '倕')))) aH)
abbrev JB:Stmt:=aX 2
abbrev zn4:'$':='ʿ'
abbrev Mn:'$':='ʿ'
def Nf:DS:=(aE (sQ 0 1 ('ʱ' (aB (aD eW (aA 0) (aA 1)) aF))) aH)
def Jq:DS:=(aE (aN '廵') aH)
def Qu:DS:=(aE (wN (aJ (aD eJ 'M' 'ȴ')) Nf) Jq)
abbrev CH:Stmt:=aX 3
abbrev BX:'$':='幍'
abbrev By:'$':=["top","bottom"]
def zZ:DS:='媷'
def zW:DS:=(aE (bH (aJ (aD fG 'M' 'ȴ')) (aE (aO 2 (cU ']')) aH) aH) zZ)
def uE:DS:=(aE (aO 2 (aI 2 nQ '傷')) zW)
abbrev t9:Stmt:=aX 4
abbrev A2:'$':='ʿ'
abbrev Gu:'$':='ʿ'
def DR:DS:=(aE (aN (aI 2 sB (aB ('ɗ' (aD bY (aD aG (aA 0) (aC (.int 0))) (aD aG (aA 1) (aC (.int 1)))) (aD bY (aD aG (aA 1) (aC (.int 0))) (aD aG (aA 0) (aC (.int 1))))) '唵'))) aH)
abbrev B8:Stmt:=aX 5
abbrev Zj:'$':='ʿ'
abbrev Ed:'$':='ʿ'
def zi3:DS:=(aE (aN (aI 2 sB (aB (aD fF '剸' '啁') '唵'))) aH)
abbrev f8:Stmt:=aX 6
abbrev A5:'$':='ʿ'
abbrev Sm:'$':='ʿ'
def Jt:DS:=(aE (aN (aD fG '剸' '啁')) aH)
abbrev Yd:Stmt:=aX 12
abbrev U1:'$':=['ʹ']
abbrev Gk:'$':=['ʹ']
def Ri:DS:=(aE (aN (wI Ro '=' '娞')) aH)
abbrev x9:Stmt:=aX 13
abbrev Q2:'$':=['ԋ']
abbrev Re:'$':=['ԋ']
def Od:DS:=(aE (aN ('ɍ' (aC (.tuple (List.map PyData.str ["ahead","meets","overlaps","begins","within","ends","same","ended","holds","begun","lapped","met","behind"]))) (aD fF (aC (.int 12)) (yO ["ahead","meets","overlaps","begins","within","ends","same","ended","holds","begun","lapped","met","behind"] (aA 0))))) aH)
abbrev zd4:Stmt:=aX 14
abbrev SI:'$':=["may"]
end
mutual section G
abbrev Qs:'$':=["may"]
def Bp:DS:=(aE (aN (bG fA (aB (cH [none] (Ar '=') 'ι' (aI 1 zE 'ό')) aF))) aH)
abbrev NU:Stmt:=aX 15
abbrev BH:'$':='庶'
abbrev Mp:'$':=['ʹ','ԋ']
def Wk:DS:=(aE (aN (aR (aB 'Ӓ' (aB '巈' aF)))) aH)
def OX:DS:=(aE (bH '媧' (aE (aN (dQ ']' eE '僤')) aH) aH) Wk)
def zb1:DS:=(aE (bH '媖' '嚶' aH) OX)
def zo2:DS:=(aE (aO 2 (hJ Ao 'M')) zb1)
abbrev GZ:Stmt:=aX 16
abbrev Us:'$':='嘻'
abbrev Pk:'$':='嘻'
def XA:DS:=(aE (aN ('ɍ' (aI 2 gY (aB (aA 0) (aB (aA 1) aF))) (aD bT (aD bY (aA 2) (hJ gX (aD aG (aA 0) (aC (.int 1))))) (aA 3)))) aH)
abbrev QB:Stmt:=aX 17
abbrev P2:'$':='塼'
abbrev Cd:'$':='塼'
def Nb:DS:=(aE (aN (nR (kI 'Є' 'ʓ'))) aH)
abbrev zj1:Stmt:=aX 18
abbrev W1:'$':='ʿ'
abbrev Jy:'$':='ʿ'
def Io:DS:=(aE (aN 'ȴ') aH)
def Qa:DS:=(aE (bH (aJ (aI 2 lP '嘏')) (aE (aN 'ɕ') aH) aH) Io)
def Bk:DS:=(aE (bH (aJ (aI 2 lP '傷')) (aE (aN 'Σ') aH) aH) Qa)
abbrev D7:Stmt:=aX 19
abbrev UO:'$':=['ѡ','љ','ʹ',"ones",'墱','倛']
abbrev Py:'$':='ʿ'
def uF:DS:=(aE (aN ('ɍ' (cH [none,some 2,some 5] (bN (aI 1 kS (aB (aA 2) aF))) (gN 0) (aJ (aD bK (aI 2 gY (aB (aA 1) (aB (aA 0) aF))) (aA 2))) (aA 0)) (aC (.int 0)))) aH)
def ER:DS:=(aE (aO 5 (bG fA (aB (mQ [none,none,some 4] (bN '`') 'ι' '堄' (gN 1) cQ (aI 2 rA '傷')) aF))) uF)
def y9:DS:=(aE (aO 4 (eV '嶡' (aR '乁') 'M')) ER)
def BA:DS:=(aE (aO 3 (eV '嶢' (aR 'ό') '=')) y9)
def zk7:DS:=(aE (aO 2 (aR (aB (eV '嶢' '中' '丧') (aB (eV '嶡' '中' '丧') aF)))) BA)
abbrev zd1:Stmt:=aX 21
abbrev Wn:'$':='ʿ'
abbrev Qj:'$':='ʿ'
def zm2:DS:='˵'
def Oq:DS:=(aE (bH (dB (aJ ('ɴ' (aA 1) (aC (.int 0)))) (aJ ('ɴ' (aA 1) (aA 0)))) (aE (aN '=') aH) aH) zm2)
def Rv:DS:=(aE (bH (aJ ('低' (aC (.int 0)))) '忒' aH) Oq)
abbrev zw4:Stmt:=aX 22
abbrev Tj:'$':='岜'
abbrev Rc:'$':=["ones",'墱']
def Zo:DS:=(aE (bH (aJ (aD lR 'Ɇ' 'ғ')) '忓' aH) aH)
def xX:DS:=(aE (aO 4 (aI 2 xI '嘐')) Zo)
def xM:DS:='˵'
def Ia:DS:=(aE (cO '怨' '佾' xX) xM)
abbrev Uc:Stmt:=aX 23
abbrev JG:'$':=['ʹ','ѡ','љ',"first","second","third","many",'Ҧ',"left","right"]
abbrev Jd:'$':='僄'
def Bv:DS:=(aE (aN (mQ [none,none,some 6,some 7,some 8,some 9] (fP (hJ gX '`')) 'ι' (fP '`') (gN 1) cQ (aI 2 tH (aB (dQ 'Ɇ' '帜' (dG ('ʏ' (aD bT (aA 0) (aC (.int 1))) (aA 2)))) '峼')))) aH)
def GS:DS:=(aE (aO 9 (aI 2 gY (aB (aR '嘑') '乂'))) Bv)
def XO:DS:=(aE (aO 8 (aI 2 gY (aB (aR '勏') '乁'))) GS)
def Gj:DS:=(aE (aO 7 (hJ gX 'ɜ')) XO)
def ze9:DS:=(aE (aO 6 (hJ gX 'Ɇ')) Gj)
def GB:DS:=(aE '孏' ze9)
abbrev HR:Stmt:=aX 24
abbrev zd0:'$':='嵱'
abbrev Jj:'$':=['墲','倛']
def rL:DS:=(aE (bH (oU (aJ (aD lR ']' 'ғ')) (aJ (aD eJ '哦'))) '側') aH)
def tX:DS:='嵲'
def Kp:DS:=(aE (cO (xR 'ԧ') '佾' rL) tX)
abbrev MK:Stmt:=aX 25
abbrev C6:'$':=['ʹ','ѡ','љ',"first","second","third",'ʭ','墲']
abbrev Rf:'$':='僄'
def Uf:DS:=(aE (aN (bG fA (aB (cH [none,some 6,some 7] (bN (aI 1 kS '俈')) 'Ɍ' '嫍' '=') aF))) aH)
def ID:DS:=(aE (aO 7 (aI 3 uZ '傜')) Uf)
end
mutual section G
def TJ:DS:=(aE (aO 6 (aR '帞')) ID)
def Ek:DS:=(aE '孏' TJ)
abbrev C4:Stmt:='姬' 0
abbrev l8:'$':='墳'
abbrev Hg:'$':='墳'
def Fp:DS:=(aE (wD '˫' '俻' '=' xA) aH)
def Lm:DS:=(aE (wD '˫' '伅' '=' xA) Fp)
abbrev EV:Stmt:='姬' 1
abbrev M8:'$':='喢'
abbrev Cw:'$':='嵳'
def xG:DS:=(aE (aN (yC '嗃' 'Ɇ')) aH)
def Ru:DS:=(aE (bH (aJ (aD pP 'Ɇ' '嗃')) (aE (uI '嗃' 'Ɇ' (aI 3 yG '岄')) aH) aH) xG)
def Fe:DS:=(aE (aO 4 (aR '岄')) Ru)
abbrev YV:Stmt:='姬' 3
abbrev zf3:'$':=["self",'ʹ','ѡ','љ','ҡ',"found",'ԋ',"next_word","third"]
abbrev Ft:'$':='嵳'
def Pb:DS:=(aE (Bj 'ɜ' 'Ч' '千') aH)
def Qh:DS:=(aE (cO (bN (mK '˫' 'ҡ' 4 zT '=' ('ʱ' (aB (aA 6) (aB (aA 7) aF))))) (gN 8) Pb) aH)
def Fg:DS:=(aE (bH (aJ ('ɴ' (bG vP (aB (aA 5) aF)) (bG cA (aB (aA 4) aF)))) '忓' aH) Qh)
def Bu:DS:=(aE (cO (bN '`') '倝' Fg) aH)
def Cg:DS:=(aE (aN (bG fA (aB (cH [none,some 5] (bN 'Ɇ') 'Ɍ' (aJ (aD oV 'ԧ')) '=') aF))) aH)
def Pw:DS:=(aE (cO '堄' '凪' Bu) Cg)
def GU:DS:=(aE (aO 5 Ld) Pw)
def Jw:DS:=(aE (aO 4 (aI 1 kS (aB (aR (aB '傪' (aB '巉' aF))) aF))) GU)
abbrev JK:Stmt:=aX 27
abbrev CI:'$':='僄'
abbrev Qw:'$':='僄'
def Dc:DS:=(aE (aN (mK '˫' '俱' 4 Am (pW '˫' 1 Au aF) '傜')) aH)
abbrev i8:Stmt:=aX 29
abbrev I0:'$':=['˅']
abbrev Ef:'$':=['˅']
def Hi:DS:=(aE (aN (cH [none,none] '堅' '傣' cQ '=')) aH)
abbrev zv1:Stmt:=aX 30
abbrev Ul:'$':='帟'
abbrev Rk:'$':='怪'
def Kk:DS:=(aE (aN (aR (aB (iV '`' 'M') (aB (iV '`' ']') aF)))) aH)
def Es:DS:=(aE (aO 3 '堆') Kk)
abbrev u8:Stmt:=aX 31
abbrev Wo:'$':='帠'
abbrev Ke:'$':='怪'
def YM:DS:=(aE (aN (gW (aD gR 'M' '`') (gW (aD gR '哦') (aD eJ '哧')))) aH)
def DX:DS:=(aE (aO 3 '幾') YM)
abbrev VZ:Stmt:=aX 32
abbrev ZA:'$':=['˅']
abbrev Ph:'$':=['˅']
def Gr:DS:=(aE (aN (mQ [none,none,none] '堅' '傣' cQ '忔' '擖')) aH)
abbrev VJ:Stmt:=aX 33
abbrev Yv:'$':='囙'
abbrev Rl:'$':='囙'
def zw5:DS:=(aE (aN (gW (aI 1 sP '喣') (aD iP 'M' (aI 1 yT 'ό')))) aH)
def XG:DS:=(aE (bH (dB (gA (aJ (kI 'M' 'ʓ'))) (aJ (aD eJ '勩' '˨'))) '側') zw5)
abbrev zu1:Stmt:=aX 34
abbrev Yt:'$':='嗺'
abbrev Lo:'$':='嗺'
def Np:DS:=(aE (aN ('Ԩ' (yQ (aI 1 rP (aB (aA 0) aF)) (aA 2)))) aH)
abbrev W2:Stmt:=aX 35
abbrev VP:'$':='宩'
abbrev Pu:'$':=['˅','伌',"end"]
def A6:DS:=(aE (aN (eV (aJ ('ɴ' (iV (pJ (aA 0)) (aA 3)) (aC (.str "point")))) 'ɜ' ('哨' (aA 4)))) aH)
def UN:DS:=(aE (aO 5 '寐') A6)
def Yy:DS:=(aE (fW ']' '使') UN)
abbrev KQ:Stmt:=aX 36
abbrev NS:'$':='嗩'
abbrev Jx:'$':='嗩'
end
mutual section G
def Oz:DS:=(aE (aN (aI 2 wU (aB (aI 3 nK '傜') (aB '寐' aF)))) aH)
abbrev OV:Stmt:=aX 37
abbrev WR:'$':='嬵'
abbrev Aw:'$':=['˅','伌',"gap"]
def Ew:DS:=(aE (aN (eV (aJ '˭') (aI 2 lP (aB 'ϧ' '乃')) (nR (aI 2 lP ('亥' (aB (aA 7) aF)))))) aH)
def P0:DS:=(aE (aO 7 (aI 2 oZ (aB (aI 3 pQ '岅') (aB (aI 3 pQ ('ɨ' (aB (aA 1) (aB (aA 4) aF)))) aF)))) Ew)
def NY:DS:=(aE '嫞' P0)
abbrev KZ:Stmt:=aX 40
abbrev HH:'$':=['Ѣ']
abbrev Nu:'$':=['Ѣ']
def Ah:DS:=(aE (aN ('ɴ' (bG cA (aB (aA 0) aF)) (aC (.int 3)))) aH)
abbrev E3:Stmt:=aX 41
abbrev M5:'$':='峽'
abbrev Ie:'$':=['Ѣ']
def S7:DS:=(aE (aN (gW ('ɴ' (aA 1) (aA 2)) (rZ (aD fG '丝' 'ȴ') (gW ('ɴ' (aD aG (aA 3) (aC (.int 0))) (aC (.int 0))) 'Ɇ')))) aH)
def QV:DS:=(aE (fW '=' (gT 4 (aY (gN 1) (aY '凨' '帢')))) S7)
def Ir:DS:=(aE (bH (aJ (aI 1 mB 'ό')) (aE (aN ('ɴ' (aD aG (aA 0) (aC (.int 2))) (aR aF))) aH) aH) QV)
abbrev t5:Stmt:=aX 42
abbrev ON:'$':='嘓'
abbrev On:'$':='嘓'
def A8:DS:=(aE (aN (aI 3 yP '傜')) aH)
def n9:DS:=(aE (bH (aJ (aI 1 mB '乂')) (aE (aN (aD gR (aI 4 qR '婪') '傫')) aH) aH) A8)
abbrev BV:Stmt:=aX 43
abbrev NE:'$':='圠'
abbrev Jo:'$':='圠'
def zg7:DS:=(aE (aN (gW (aI 1 sP 'ό') (zY lV fG 'ȴ' 'ԧ'))) aH)
abbrev RQ:Stmt:=aX 44
abbrev ze7:'$':='侼'
abbrev Jv:'$':='侼'
def Yz:DS:='峦'
def T4:DS:=(aE (bH (dB '嬝' (gA '對')) 'Ϻ') Yz)
abbrev zi8:Stmt:=aX 45
abbrev CJ:'$':='侼'
abbrev Bn:'$':='侼'
def M2:DS:='峦'
def MH:DS:=(aE (bH (dB '嬝' '對') 'Ϻ') M2)
abbrev U5:Stmt:=aX 46
abbrev AT:'$':='勗'
abbrev Pt:'$':='勗'
def IS:DS:=(aE (aN (aD iP (aR (aB 'Ӓ' (aB '丝' aF))) (aR (aB (aR (aB '傪' '喣')) (aB (aR (aB '傩' (aB '傪' aF))) aF))))) aH)
def RY:DS:=(aE (bH (dB (gA (aJ (aI 2 sW '嘒'))) (gA (aJ (aI 2 sW '帤')))) '側') IS)
abbrev Q7:Stmt:=aX 47
abbrev KH:'$':=['˅','Ѣ',"x","y","a","b",'ҡ','ʹ']
abbrev Rg:'$':='勗'
def t8:DS:=(aE (aN ('擟' (cU (aI 4 sI (aB (aA 3) (aB (aA 0) (aB (aD aG (aA 2) (aC (.int 1))) (aB (aD aG (aA 1) (aC (.int 1))) aF)))))))) aH)
def UL:DS:=(aE (bH (aJ ('ɴ' (aD aG (aA 2) (aC (.int 0))) (aA 4))) (aE (aN ('擟' (aI 4 sI (aB (aA 3) (aB (aA 0) (aB (aD aG (aA 1) (aC (.int 1))) (aB (aD aG (aA 2) (aC (.int 1))) aF))))))) aH) aH) t8)
def YL:DS:=(aE (aO 7 (aI 3 lY ('ɨ' (aB (aA 4) (aB (aA 5) aF))))) UL)
def i7:DS:=(aE (fW 'M' '寺') YL)
abbrev FY:Stmt:=aX 48
abbrev SF:'$':='崜'
abbrev Ey:'$':='Љ'
def O0:DS:=(aE (aN (eV (aJ (aI 2 mZ ('偵' (aB (bG cA (aB (aA 3) aF)) aF)))) (dQ ('偒' (aD aG (aA 2) (aC (.int 1)))) '僤' eE) 'ғ')) aH)
def NT:DS:=(aE (aO 3 'ӑ') O0)
abbrev Q9:Stmt:=aX 49
abbrev UU:'$':='岝'
abbrev Mf:'$':='Љ'
def IC:DS:=(aE (aN (aR ('作' (aB (aA 5) (aB (aI 1 kS (aB (aI 3 lY (aB (aD aG (aA 0) (aC (.int 0))) (aB (aA 4) (aB (aA 5) aF)))) aF)) aF))))) aH)
def K7:DS:=(aE (bH (gA (aJ (aI 3 uG '嬶'))) 'Ϻ') IC)
def zf0:DS:=(aE (fW ']' '对') K7)
abbrev PR:Stmt:=aX 50
abbrev L8:'$':='Љ'
abbrev Cq:'$':='Љ'
def d6:DS:=(aE (aN (aR (aB (aR ('偵' (aB (aC (.int 0)) aF))) (aB (aR ('偵' (aB (aC (.int 1)) aF))) (aB '届' (aB '千' aF)))))) aH)
def W6:DS:=(aE (bH (aJ (aD qB (aR ('偵' (aB (aC (.str "stretch")) aF))) 'Є')) 'Ϻ') d6)
end
mutual section G
abbrev zf1:Stmt:=aX 51
abbrev YU:'$':='導'
abbrev Bb:'$':='Љ'
def Up:DS:=(aE (aN (aR ('亥' (aB (aA 4) (aB (aI 1 xB (aB (aA 6) aF)) aF))))) aH)
def Zg:DS:=(aE (fW '`' '寺') Up)
def zf5:DS:=(aE (bH '傦' 'Ϻ') Zg)
def Wc:DS:=(aE '剹' zf5)
abbrev MW:Stmt:=aX 52
abbrev zv9:'$':='嬇'
abbrev Iz:'$':='Љ'
def T8:DS:=(aE (aN (aR ('亥' (aB (aA 8) (aB (aI 3 yS (aB (aA 9) (aB (aA 7) (aB (aD aG (aA 4) (aC (.int 2))) aF)))) aF))))) aH)
def EJ:DS:=(aE (aO 9 ('ɗ' (aI 3 lY (aB (aD aG (aA 0) (aC (.int 0))) (aB (aA 5) (aB (aA 6) aF)))) (dQ (aI 3 lY (aB (aD aG (aA 0) (aC (.int 0))) (aB (aA 6) (aB (aA 8) aF)))) (dG (aC (.int 1))) eE))) T8)
def Xo:DS:=(aE (aO 8 '催') EJ)
def U9:DS:=(aE (fW '`' (gT 3 (aY '倜' (aY '凪' (aY '倝' cL))))) Xo)
def G3:DS:=(aE (bH (dB '傦' (dB '労' (dB '嫘' (aJ ('ɴ' (aD aG (aA 3) (aC (.int 0))) (aD aG (aA 4) (aC (.int 1)))))))) 'Ϻ') U9)
def QH:DS:=(aE '嫾' G3)
def zc7:DS:=(aE '剹' QH)
abbrev Vb:Stmt:=aX 53
abbrev HF:'$':='喥'
abbrev Go:'$':='Љ'
def j3:DS:=(aE (aN ('ɗ' (dQ (aA 3) eE (dG (aC (.int 2)))) (aR (aB (bG fA (aB (cH [none,some 4] (bN (aD aG (aA 3) (aC (.int 2)))) (gN 0) (aJ (aD gR (aA 0) (aD aG (aA 1) (aC (.int 2))))) (aA 0)) aF)) aF)))) aH)
def CD:DS:=(aE (bH (dB '傦' (dB '労' (aJ (aD eJ '喹' (dQ 'Ɇ' '剛'))))) 'Ϻ') j3)
def zm5:DS:=(aE '嫾' CD)
def CC:DS:=(aE '剹' zm5)
abbrev IB:Stmt:=aX 54
abbrev zl2:'$':='學'
abbrev Kj:'$':='Љ'
def NF:DS:=(aE (aN (eV (aJ (aD gR 'ɕ' 'Ч')) 'ғ' (aR ('亥' (aB (aA 6) (aB (aC (.tuple (List.map PyData.int [0,1]))) (aB (aD tN (aC (.int 0)) (aA 8)) aF))))))) aH)
def G7:DS:=(aE (aO 8 (aI 4 oY '嫅')) NF)
def V6:DS:=(aE (bH (dB (aJ (aD fY 'ϧ' 'ғ')) (dB (aJ ('ɴ' (aD aG (aA 7) (aC (.int 2))) (aR aF))) (gA (aJ (aI 4 qF '嫅'))))) 'Ϻ') G7)
def Ta:DS:=(aE (aO 7 (aI 2 iM '帣')) V6)
def Vh:DS:=(aE '嫞' Ta)
abbrev ZS:Stmt:=aX 55
abbrev JL:'$':=['Ԍ','ҧ','Ҧ','Ѣ',"gap","x","y",'吘','准',"latest",'倛']
abbrev Li:'$':='Љ'
def LX:DS:=(aE (aN ('ɗ' (dQ (aA 3) eE (dG (aC (.int 2)))) (aR (aB (bG fA (aB (cH [none,none,some 9] (Rx (aD aG (aA 3) (aC (.int 2))) (aA 10)) (gT 2 (aY (gN 0) (aY (gN 1) cL))) (aJ (aD lV (aA 1) (aA 2))) (aA 0)) aF)) aF)))) aH)
def Na:DS:=(aE (aO 10 (aI 4 oY ('佝' (aB (aA 3) (aB (aA 5) (aB (aA 6) aF)))))) LX)
def IW:DS:=(aE (aO 9 (eV (dB (aJ (aD fG '巊' 'ȴ')) (aJ 'Ч')) 'Σ' 'ȴ')) Na)
def Tt:DS:=(aE (bH (aJ (aD lG '巊' 'ȴ')) 'Ϻ') IW)
def Vs:DS:=(aE (fW 'Ɇ' (gT 4 (aY '倜' (aY '凪' (aY '倝' (aY (gN 8) cL)))))) Tt)
def RI:DS:=(aE (bH (dB '傦' (dB '労' (gA (aJ (aI 4 qF ('佝' (aB (aA 3) (aB (aD aG (aA 4) (aC (.int 0))) (aB (aD aG (aA 4) (aC (.int 1))) aF))))))))) 'Ϻ') Vs)
def E9:DS:=(aE '嫿' RI)
def Yb:DS:=(aE '剹' E9)
abbrev GH:Stmt:=aX 56
abbrev JX:'$':='喥'
abbrev Lf:'$':='Љ'
def Tg:DS:=(aE (aN (aR (aB '丝' (aB '催' (aB (aI 2 vG (aB '嗪' '岴')) (aB (rZ ('偒' (aC (.int 3))) ('刴' (aC (.int 3)))) aF)))))) aH)
def zb9:DS:=(aE (bH (dB '傦' (dB '労' '嫘')) 'Ϻ') Tg)
def WJ:DS:=(aE '嫿' zb9)
def zv3:DS:=(aE (aO 3 (aI 2 nF '寑')) WJ)
abbrev g7:Stmt:=aX 59
abbrev zv5:'$':='嵆'
abbrev Mx:'$':='Љ'
def HW:DS:=(Fw 3 '婄' 3 'Ӓ' '傜')
def Vi:DS:=(aE (bH (dB (aJ (pU '嫧' 'Ӓ')) (aJ (aD eJ '僆' (hJ zC 'Ӓ')))) 'Ϻ') HW)
def No:DS:=(aE (bH (dB (gA (aJ (kI ']' 'ʓ'))) (dB (aJ ('ɴ' (aA 2) (aR aF))) (gA (aJ (kI 'Ӓ' '乽'))))) 'Ϻ') Vi)
abbrev GX:Stmt:=aX 61
abbrev DZ:'$':='促'
abbrev Qp:'$':='促'
def Da:DS:=(aE (aN (jD (aB ('ɗ' (bG tQ (aB (dQ (aA 0) eE (dG (aC (.int 63)))) aF)) (aD qI (jD (aB (aC (.int 7)) aF)) (bG oB (aB (aD bK (aA 0) (eG aF)) aF)))) ('丂' (aB (aC (.int 0)) (aB (aC (.int 0)) aF)))))) aH)
abbrev ZP:Stmt:=aX 62
abbrev Vx:'$':='媘'
abbrev Jz:'$':=['˹','堇']
def K1:DS:=(aE (aN ('з' (aD jE (aD eW (aA 4) (aC (.int 2147483629))) (aC (.int 64))) (aA 1))) aH)
end
mutual section G
def C7:DS:=(aE (aO 4 ('ɗ' (aD bY (aA 4) (aD bT (aD eW (aA 4) (aC (.int 65521))) (aC (.int 48271)))) (aA 2))) K1)
def zh2:DS:=(aE (aO 4 ('з' (aD bY (aD bT (aD eW (aA 3) (aC (.int 2147483629))) (aC (.int 1))) (aD bT (aD bT (aD bY (aD bY (aC (.int 31)) (aA 2)) (aA 2)) (aD bY (aC (.int 7919)) (aA 2))) (aC (.int 1)))) (aC (.int 2147483647)))) C7)
def Wy:DS:=(aE (mW '=' '˨' '`') aH)
def j6:DS:=(aE (bH (aJ (aD fG '`' (aD tV '慺' (aC (.int 18))))) zh2 aH) Wy)
def S5:DS:=(aE (mW '=' 'ɕ' ('ɗ' (aD aG (aA 0) (aC (.int 1))) (aC (.int 1)))) j6)
def Ur:DS:=(aE (aO 3 ('ɍ' (aD aG (aA 0) (aC (.int 0))) (aD eW (aD aG (aA 0) (aC (.int 1))) (bG cA (aB (aD aG (aA 0) (aC (.int 0))) aF))))) S5)
def zt9:DS:=(aE (aN 'ɜ') aH)
def IV:DS:=(aE (mW '=' '˨' (aD jE '勀' 'M')) zt9)
def Fq:DS:=(aE (aO 5 ('з' (aD aG (aA 0) (aC (.int 2))) (aA 1))) IV)
def M4:DS:=(aE (bH (aJ ('ɴ' (aD aG (aA 0) (aC (.int 2))) (aC (.int 0)))) Ur aH) Fq)
def Mc:DS:=(aE (aO 2 '巋') M4)
def GY:DS:=(aE (mW '=' 'у' ('ɗ' (aD aG (aA 0) (aC (.int 3))) (aC (.int 1)))) Mc)
abbrev zn3:Stmt:=aX 63
abbrev ZC:'$':=['˹','所','拀','俨','堇',"_law_first","_law_step",'埋',"_law_way",'п']
abbrev Ow:'$':=['˹','所','拀']
def vR:DS:=(aE (aN (Kc 'ϧ' 'ԍ')) aH)
def Lu:DS:=(aE (bH (aJ (aD fG 'Ч' '˨')) (aE (aO 9 (cH [none,some 8] '厾' 'ι' '媸')) aH) aH) vR)
def Nq:DS:=(aE (aO 9 (cH [none,some 0] '厾' 'ι' '娥')) Lu)
def NB:DS:=(aE (aO 8 '啥') Nq)
def zl1:DS:=(aE (aO 7 (bG zR (aB (cH [none,some 3,some 5,some 6] (fP 'Ɇ') 'ι' ('Ԩ' (aD eW (aD bT (aA 2) (aD bY (aA 3) (aA 0))) (aC (.int 11))))) aF))) NB)
def Ys:DS:=(aE (aO 6 ('ɗ' (aC (.int 1)) (aI 2 bU (aB (aA 0) (aB (aC (.int 10)) aF))))) zl1)
def zk0:DS:=(aE (aO 5 '小') Ys)
def PK:DS:=(aE (aO 4 ('ɗ' (aA 1) (aI 2 bU (aB (aA 0) (aB (aD bT (aD fF (aA 2) (aA 1)) (aC (.int 1))) aF))))) zk0)
def OI:DS:=(aE (aO 3 (eG (aB (aC (.str "a")) (aB (aC (.str "ab")) (aB (aC (.str "abc")) (aB (aC (.str "begin")) (aB (aC (.str "end")) (aB '悌' (aB '悍' (aB (aC (.str "o")) (aB '中' (aB (aC (.str '准')) (aB (aC (.str "zzzzzzzz")) aF))))))))))))) PK)
abbrev LB:Stmt:=aX 64
abbrev M6:'$':='嵇'
abbrev Ni:'$':=['п']
def WZ:DS:=(aE (aN ('ɗ' (aA 1) (aR (aB (aC (.str "met")) (aB (aC (.str "behind")) aF))))) aH)
def zp4:DS:=(aE (aO 1 (aR (aB '僛' (aB '忕' (aB '廸' (aB '嚕' (aB '嚖' (aB '僦' (aB '囚' (aB '忖' (aB '志' (aB '忘' (aB (aC (.str '乣')) aF))))))))))))) WZ)
def K5:DS:=(aE (bH (aJ ('低' (aR (aB (aC (.str "stretch")) (aB (aC (.str "point")) aF))))) (aE (aN (aR (aB '僛' (aB '忖' (aB '志' (aB '忘' '勂')))))) aH) aH) zp4)
def N5:DS:=(aE (bH (aJ ('低' (aR (aB (aC (.str "point")) (aB (aC (.str "stretch")) aF))))) (aE (aN (aR (aB '僛' (aB '嚕' (aB '嚖' (aB '僦' '勂')))))) aH) aH) K5)
def KS:DS:=(aE (bH '媧' (aE (aN (aR (aB '僛' (aB '囚' '勂')))) aH) aH) N5)
abbrev G4:Stmt:=aX 65
abbrev J4:'$':='岶'
abbrev Mr:'$':=['丸']
def Fy:DS:=(aE (aN ('Ԩ' (aD fF (aC (.int 12)) (yQ (aA 1) (aA 0))))) aH)
def Nw:DS:=(aE (aO 1 (aI 1 mE (aB '嬦' aF))) Fy)
abbrev DU:Stmt:=aX 66
abbrev TF:'$':='嫵'
abbrev Pr:'$':=['п','丸','书','倁']
def Lx(j:Nat):DS:=(aE (aN ('ɍ' (iV (aA 4) (aA 1)) (eV (aJ (aD bK (aA 0) (aR (aB (aC (.str "stretch")) (aB (aC (.str "stretch")) aF))))) (aD bT (aD bY (aC (.int 2)) (aA 2)) (aA 3)) (aD bY (aC (.int 3)) (aD bT (aA 2) (aA 3)))))) aH)
def El(j:Nat):DS:=(aE (bH (aJ (aD sS 'M' 'Ɇ')) (aE (aN (aD fF 'ȴ' (aI 4 (lK j) (aB (aR (aB 'ӑ' '喦')) (aB (aI 1 uL '乁') ('ͻ' (aB (aA 2) aF))))))) aH) aH) (Lx j))
def Ry(j:Nat):DS:=(aE (iJ (Qm 'Ɇ' (nP [('嚕',(aR ('丂' (aB (cU (aC (.int 1))) (aB (aC (.int 1)) (aB (cU (aC (.int 1))) aF)))))),('嚖',(aR ('七' (aB (cU (aC (.int 1))) (aB (aC (.int 1)) (aB (cU (aC (.int 1))) aF)))))),('僦',(aR ('七' (aB (cU (aC (.int 1))) (aB (aC (.int 1)) (aB (aC (.int 0)) aF)))))),('囚',(aR ('丂' (aB (cU (aC (.int 1))) (aB (aC (.int 1)) (aB (aC (.int 0)) aF))))))]))) (El j))
def Dd(j:Nat):DS:=(aE (aO 4 (nP [('僛',(aR ('丄' (aB (cU (aC (.int 1))) (aB (cU (aC (.int 1))) (aB (cU (aC (.int 1))) aF)))))),('忕',(aR ('丄' (aB (cU (aC (.int 1))) (aB (aC (.int 0)) (aB (cU (aC (.int 1))) aF)))))),('廸',(aR ('丄' (aB (cU (aC (.int 1))) (aB (aC (.int 1)) (aB (cU (aC (.int 1))) aF))))))])) (Ry j))
abbrev UE:Stmt:=aX 67
abbrev WO:'$':=['兢']
abbrev He:'$':=['兢']
def Ce:DS:=(aE (aN (eV (aJ ('低' (aC (.str "stretch")))) (eG '屘') (eG '勷'))) aH)
abbrev MT:Stmt:=aX 68
abbrev zt2:'$':=['п','丸','厨','书']
abbrev Ee:'$':=['п','丸']
def An:DS:=(aE (iJ (rE ']' (mF [none,some 0,some 1,some 3] (bN ('偾' (aB (aD aG (aA 0) (aC (.int 1))) aF))) 'ι' '嬉'))) aH)
def B4:DS:='峋'
def Kl:DS:=(aE (cO (bN ('偾' (aB (aD aG (aA 0) (aC (.int 0))) aF))) '凩' An) B4)
def AH:DS:=(aE '慼' Kl)
abbrev QE:Stmt:=aX 69
abbrev zb2:'$':=['ˣ','埋',"_law_own"]
abbrev Lk:'$':=['ˣ','埋']
def Mj:DS:=(aE (aN (bG fA (aB (cH '厇' (bN 'M') 'ι' (iV 'M' '=')) aF))) aH)
def Cs:DS:=(aE (aO 2 '堆') Mj)
abbrev g8:Stmt:=aX 70
abbrev MJ:'$':=['ˣ','厨','拁','兢']
abbrev Os:'$':=['ˣ']
def qJ:DS:=(aE (iJ (rE 'M' (mF '厇' (bN ('偾' (aB (aA 3) aF))) 'ι' (aR '嘏')))) aH)
end
mutual section G
def zV:DS:='忒'
def Fk:DS:=(aE (cO '堅' '佾' qJ) zV)
def Nv:DS:=(aE (aO 1 '吳') Fk)
abbrev x4:Stmt:=aX 71
abbrev LW:'$':='宪'
abbrev Qq:'$':=['叝','垑']
def Me:DS:=(aE (sQ 2 3 ('ͻ' (aB (aD eW (aA 2) (aA 3)) aF))) aH)
def Hm:DS:='媷'
def Be:DS:=(aE (wN (aJ (aD lG '`' 'ȴ')) Me) Hm)
def Et:DS:=(aE (aO 3 'M') Be)
def Mb:DS:=(aE (aO 2 '廵') Et)
abbrev Xq:Stmt:=aX 72
abbrev XJ:'$':='宇'
abbrev Gx:'$':=['伆','信','惌']
def D8:DS:=(aE (aN (aI 2 oX ('ͻ' (aB (aD bY (aD aG (aA 0) (aC (.int 1))) (aD aG (aA 1) (aC (.int 1)))) aF)))) aH)
def h9:DS:=(aE (aO 3 ('ɗ' (aD bY (aD aG (aA 0) (aC (.int 0))) (aD aG (aA 1) (aC (.int 1)))) (aD bY (aD bY (aA 2) (aD aG (aA 1) (aC (.int 0)))) (aD aG (aA 0) (aC (.int 1)))))) D8)
abbrev Vj:Stmt:=aX 73
abbrev D9:'$':='尢'
abbrev Pl:'$':=['˹']
def Bg:DS:=(aE (aN (aI 2 oX '帝')) aH)
def Ei:DS:=(aE (aO 2 ('ɍ' (eG (aB (aC (.int 1)) (aB (aC (.int 1)) (aB (aC (.int 2)) (aB (aC (.int 3)) aF))))) (aI 2 bU (aB (aA 0) (aB (aC (.int 4)) aF))))) Bg)
def Bi:DS:=(aE (aO 1 (aD fF ('˞' (aB (aA 0) (aB (aC (.int 7)) aF))) '˨')) Ei)
abbrev X6:Stmt:=aX 74
abbrev zs6:'$':='婜'
abbrev Hn:'$':='岞'
def Ka:DS:=(aE (iJ (nV ']' (eV (aJ ('ɴ' (aA 4) (aC (.str "point")))) 'ɜ' (aR '勐')))) aH)
def G2:DS:=(aE (bH (aJ (aD fG ('ʏ' (aD aG (aA 6) (aC (.int 0))) (aD aG (aA 5) (aC (.int 1)))) ('ʏ' (aD aG (aA 5) (aC (.int 0))) (aD aG (aA 6) (aC (.int 1)))))) (aE (sQ 5 6 ('剙' (aB (aA 5) aF))) aH) aH) Ka)
def Wz:DS:=(aE (bH (aJ ('亚' (aA 6))) (aE (aO 6 (aR (aB ('ɗ' (aD aG (aA 5) (aC (.int 0))) (aD aG (aA 5) (aC (.int 1)))) (aB '嗫' aF)))) aH) aH) G2)
def OD:DS:=(aE (aO 6 '广') Wz)
def yN:DS:=(aE (aO 5 '广') OD)
def rF:DS:='峋'
def Ng:DS:=(aE (cO (bN 'M') '使' yN) rF)
def Mv:DS:=(aE '慼' Ng)
abbrev W5:Stmt:=aX 75
abbrev Tn:'$':='婸'
abbrev Gi:'$':=['ˣ','嚷']
def MV:DS:=(aE (Qo ']' (aB '丝' '乃') (eV (aJ ('ɴ' (aD aG (aA 3) (aC (.int 1))) (aC (.str "stretch")))) ('刴' (aA 5)) 'Ɇ')) aH)
def At:DS:=(aE (cO (bN ('偾' (aB (aD aG (aA 3) (aC (.int 1))) aF))) '倜' MV) aH)
def yX:DS:='嚶'
def Gf:DS:=(aE (cO '怨' '使' At) yX)
def J7:DS:=(aE (aO 2 Ra) Gf)
abbrev zr9:Stmt:=aX 76
abbrev UC:'$':='媹'
abbrev Ih:'$':=['Ӣ','书','倁']
def NO:DS:=(aE (aN (aD fF (bG oB (aB (aD lG 'ɜ' 'ȴ') aF)) (bG oB (aB (aD fG 'ɜ' 'ȴ') aF)))) aH)
def AI:DS:=(aE (aO 5 (aD fF ('ʏ' (aD aG (aA 3) (aC (.int 0))) (aD aG (aA 4) (aC (.int 1)))) ('ʏ' (aD aG (aA 4) (aC (.int 0))) (aD aG (aA 3) (aC (.int 1)))))) NO)
def Mt:DS:=(aE (aO 4 (iS '=' ']')) AI)
def Sj:DS:=(aE (aO 3 (iS 'ԧ')) Mt)
abbrev Zs:Stmt:=aX 77
abbrev zf9:'$':='娶'
abbrev Qf:'$':=['ˣ','Ӣ','墴','墵']
def xU:DS:=(aE (iJ (nV 'ɜ' (aI 3 sC ('ʱ' (aB (aR (aB (aA 2) (aB (aA 6) aF))) (aB (aR (aB (aA 3) (aB (aA 7) aF))) aF)))))) aH)
def wZ:DS:=(aE (cO (bN ('偾' (aB (aD aG (aA 4) (aC (.int 1))) aF))) '倝' xU) aH)
def oW:DS:=(aE (bH (aJ (aD xT (bG tQ (aB (aI 2 uN ('作' (aB (aA 8) aF))) aF)) 'ɜ')) (aE (aN 'Ч') aH) aH) aH)
def KM:DS:='˵'
def tY:DS:=(aE (cO (bN (aI 1 mE '卸')) (gN 8) oW) KM)
def Ms:DS:=(aE (cO (bN ('偾' (aB (aD aG (aA 4) (aC (.int 0))) aF))) '凪' wZ) tY)
def Mi:DS:=(aE (aO 5 '吳') Ms)
def Kb:DS:=(aE (aO 4 (aI 2 sA ('ɨ' (aB (aR (aB (aA 2) (aB (aA 3) aF))) aF)))) Mi)
abbrev VQ:Stmt:=aX 78
abbrev zf2:'$':=['˹','п','悎',"_law_way",'俨',"_law_k"]
abbrev Pq:'$':=['˹','п']
def Ju:DS:=(aE (iJ (nV 'Ɇ' '嫯')) aH)
def Nh:DS:=(aE (aN (bG fA (aB (cH '懔' '堄' 'Ɍ' '带' '=') aF))) aH)
end
mutual section G
def Ic:DS:=(aE (cO (fP ('ɍ' (eG (aB (aC (.int 0)) (aB (aC (.int 0)) (aB (aC (.int 2)) (aB (aC (.int 6)) (aB (aC (.int 1)) aF)))))) (aA 3))) '倜' Ju) Nh)
def Cf:DS:=(aE (aO 4 (jD (aB '嫯' aF))) Ic)
def Qr:DS:=(aE (bH (aJ ('ɴ' (aA 3) (aC (.int 0)))) '嚶' aH) Cf)
def Ev:DS:=(aE (aO 3 '啥') Qr)
def Ki:DS:=(aE (aO 2 (aI 1 mE '乁')) Ev)
abbrev IY:Stmt:=aX 79
abbrev YC:'$':='嬧'
abbrev Po:'$':='岞'
def Eh:DS:=(aE (aN (aR (aB ('ɍ' (aD aG (aA 1) (aA 2)) (aC (.int 0))) (aB ('ɍ' (aD aG (aA 1) (aA 3)) (aC (.int 0))) aF)))) aH)
def Sd:DS:=(aE (aO 3 ('з' (aD bT (aD bT (aA 2) (aC (.int 1))) (aI 2 bU (aB (aA 0) (aB (aD fF (bG cA (aB (aA 1) aF)) (aC (.int 1))) aF)))) (bG cA (aB (aA 1) aF)))) Eh)
def Gs:DS:=(aE (aO 2 ('˞' (aB (aA 0) (aB (bG cA (aB (aA 1) aF)) aF)))) Sd)
abbrev Y5:Stmt:=aX 80
abbrev zn0:'$':=['˹','埌','堈','ˣ','俨','丸',"_law_mays","_law_gaps",'伆',"_law_fits","_law_i","_law_pairs","_law_here",'书']
abbrev Qc:'$':=['˹','埌','堈']
def EG:DS:=(aE (aN (aR (aB '卄' ('剚' (aB (aD aG (aA 9) (aI 2 bU (aB (aA 0) (aB (bG cA (aB (aA 9) aF)) aF)))) aF))))) aH)
def MD:DS:=(aE (aO 9 ('ɗ' (cH [none,some 2,some 8] (bN (aA 7)) (gN 0) (aJ (aD bK (aD aG (aD aG (aA 1) (aA 0)) (aC (.int 0))) (aD aG (aD aG (aA 1) (aA 2)) (aC (.int 1))))) (aA 0)) (dQ (aA 7) eE (dG (aC (.int 1)))))) EG)
def CP:DS:=(aE (aO 8 ('ɍ' (aA 7) (aI 2 bU (aB (aA 0) (aB (bG cA (aB (aA 7) aF)) aF))))) MD)
def P6:DS:=(aE (aN (aR (aB '僓' '唥'))) aH)
def F7:DS:=(aE (aO 9 ('ɗ' (cH [none,some 2,some 10] (bN (aA 6)) (gN 0) (aJ (aD bK (aD aG (aD aG (aA 1) (aA 0)) (aC (.int 0))) (aD aG (aD aG (aA 1) (aA 2)) (aC (.int 1))))) (aA 0)) (dQ (aA 6) eE (dG (aC (.int 1)))))) P6)
def OL:DS:=(aE (aN (aR (aB '四' '唥'))) aH)
def SR:DS:=(aE (aO 9 ('ɗ' (cH [none,some 2,some 10] (bN (aA 6)) (gN 0) (aJ (aD bK (dQ (aD aG (aA 1) (aA 0)) eE (dG (aC (.int 2)))) (dQ (aD aG (aA 1) (aA 2)) eE (dG (aC (.int 2)))))) (aA 0)) (dQ (aA 6) (dG (cU (aC (.int 1)))) eE))) OL)
def v6:DS:=(aE (aN (aR (aB '嚗' '唥'))) aH)
def x8:DS:=(aE (aO 9 ('ɗ' (aA 9) (dQ (aA 7) (dG (cU (aC (.int 1)))) eE))) v6)
def zw2:DS:=(aE (aO 9 (cH [none,'伲',some 11] '厾' 'Ɍ' (aJ (aD iP (aR (aB ('ɍ' (aD aG (aD aG (aA 1) (aA 0)) (aC (.int 0))) (aC (.int 0))) (aB ('ɍ' (aD aG (aD aG (aA 1) (aA 0)) (aC (.int 1))) (aC (.int 0))) aF))) ']')) '=')) x8)
def zd7:DS:=(aE (aO 11 (eG (aB (dQ '廹' '剛') (aB (Iv '廹' 'ɕ' 'Σ') aF)))) zw2)
def Ue:DS:=(aE (aN (aR (aB '僦' ('剜' (aB (aA 13) (aB (aD aG (aA 12) (aI 2 bU (aB (aA 0) (aB (bG cA (aB (aA 12) aF)) aF)))) aF)))))) aH)
def LY:DS:=(aE (aO 13 '嫟') Ue)
def De:DS:=(aE (aO 12 (cH '嚂' (bN 'Ɇ') 'Ɍ' (aJ (aD iP 'Є' '寓')) '=')) LY)
def IL:DS:=(aE (bH (oU (aJ ('亚' (aC (.str "strike")))) '巩') zd7 aH) De)
def Uv:DS:=(aE (bH (aJ ('亚' (aC (.str "both")))) SR aH) IL)
def A9:DS:=(aE (bH (aJ ('亚' (aC (.str "behind")))) F7 aH) Uv)
def IP:DS:=(aE (bH (aJ ('亚' (aC (.str "turned")))) (aE (aN (aR (aB '嚘' ('剜' aF)))) aH) aH) A9)
def Rp:DS:=(aE (aO 10 '嫰') IP)
def Fo:DS:=(aE (bH (dB (aJ (aD iP 'ɜ' (aR (aB '匭' (aB '图' '幎'))))) (aJ ('ɴ' (aA 6) (eG aF)))) (aE (aN ('ɗ' (aR (aB (aC (.str "any")) aF)) (aI 2 mO (aB (aA 0) (aB (aA 3) aF))))) aH) aH) Rp)
def Kq:DS:=(aE (bH (oU (aJ ('亚' (aC (.str "add")))) '巩') CP aH) Fo)
def Rn:DS:=(aE (bH (aJ ('亚' (aC (.str "long")))) (aE (aN (aR (aB '囜' (aB ('ɍ' (aD aG (aA 3) (aI 2 bU (aB (aA 0) (aB (bG cA (aB (aA 3) aF)) aF)))) (aC (.int 0))) aF)))) aH) aH) Kq)
def Ts:DS:=(aE (bH (oU (aJ ('亚' (aC (.str "told")))) (aJ (aD eJ '峾' '凔'))) (aE (aN (aR (aB '匭' (aB ('˞' (aB (aA 0) (aB (bG cA (aB (iV (aA 1) (aC (.str "sayings"))) aF)) aF))) aF)))) aH) aH) Rn)
def RM:DS:=(aE (aO 7 ('搪' (aJ (aD bK (bG cA (aB (aD aG (aA 1) (aA 0)) aF)) (aC (.int 4)))) (aA 0))) Ts)
def NL:DS:=(aE (aO 6 ('搪' (aJ (aD bK (bG cA (aB (aD aG (aA 1) (aA 0)) aF)) (aC (.int 3)))) (aA 0))) RM)
def Ug:DS:=(aE (aO 5 ('哨' (aI 2 bU (aB (aA 0) (aB (aC (.int 11)) aF))))) NL)
def Tr:DS:=(aE (aO 5 (eG (aB '匭' (aB '图' (aB '囜' (aB '嚘' (aB '僓' (aB '僓' (aB '四' (aB '僦' (aB '嚗' (aB '卄' '幎')))))))))))) Ug)
def PX:DS:=(aE (aO 4 (Gm (aI 1 qZ '俇'))) Tr)
def KC:DS:=(aE (aO 3 (iV 'M' '徊')) PX)
abbrev ZL:Stmt:=aX 81
abbrev ZE:'$':=['˹','ˣ','Ӣ','墴','墵','п','俨',"_law_words_here",'书','倁',"_law_more","_law_number"]
abbrev Ll:'$':=['˹','ˣ','Ӣ']
def H0:DS:=(aE (aN (aR (aB '悍' ('ͻ' (aB (aA 4) (aB (bG fA (aB (aA 7) aF)) aF)))))) aH)
def KJ:DS:=(aE (aO 7 (cH [none,some 6] (bN (aI 1 mE '乃')) 'Ɍ' (aJ (aD gR 'ԧ')) '=')) H0)
def GF:DS:=(aE (aO 6 ('ɗ' (aI 2 vT (aB (aA 0) (aB (aA 5) aF))) (aR (aB (aI 4 rH (aB (aA 1) (aB (aA 2) (aB (aA 3) (aB (aA 4) aF))))) aF)))) KJ)
def zo5:DS:=(aE (aO 5 (aI 2 sA ('ʱ' (aB (aR (aB (aA 3) (aB (aA 4) aF))) aF)))) GF)
def EE:DS:=(aE (fW (aI 2 mO '傷') '使') zo5)
def VA:DS:=(aE (aN (aR (aB '悌' ('剚' (aB (aA 9) (aB (aA 11) (aB (gW (aD eJ (aA 10) (aR (aB (aC (.int 0)) (aB (aC (.int 1)) aF)))) (aD bK (aI 2 bU (aB (aA 0) (aB (aC (.int 2)) aF))) (aC (.int 0)))) aF))))))) aH)
def XW:DS:=(aE (aO 11 (aI 3 nM (aB (aI 3 nM (aB (iS ']' 'Ч') (aB (iS ']' 'ԍ') '傸'))) ('剜' (aB (aC (.int 1)) aF))))) VA)
def Za:DS:=(aE (aO 10 ('ɍ' (eG (aB (aR (aB (aC (.int 0)) (aB (aC (.int 1)) aF))) (aB (aR (aB (aC (.int 1)) (aB (aC (.int 1)) aF))) (aB (aR (aB (aC (.int 1)) (aB (aC (.int 3)) aF))) (aB (aR (aB (aC (.int 0)) (aB (aC (.int 1)) aF))) (aB (aR (aB (aC (.int 5)) (aB (aC (.int 2)) aF))) aF)))))) (aI 2 bU (aB (aA 0) (aB (aC (.int 5)) aF))))) XW)
def zh4:DS:=(aE (aO 9 '嫰') Za)
def BP:DS:=(aE (aO 8 (Fn '˭' '宔')) zh4)
def zr4:DS:=(aE (aO 6 (aI 1 qZ '乁')) BP)
def QN:DS:=(aE (bH (aJ '嬀') EE aH) zr4)
abbrev C5:Stmt:=aX 82
abbrev DN:'$':='媺'
abbrev Ks:'$':=['ˣ','Ӣ','堶']
def Zr:DS:=(aE (aN (rZ (aD fG 'Ɇ' 'ȴ') (gW ('ɴ' (aA 4) (aC (.int 0))) (nR '巈')))) aH)
def Xi:DS:=(aE (aO 4 (aD fF ('ʏ' (aD aG (aA 3) (aC (.int 0))) (aD aG (aD aG (aA 2) (aC (.int 2))) (aC (.int 1)))) ('ʏ' (aD aG (aD aG (aA 2) (aC (.int 2))) (aC (.int 0))) (aD aG (aA 3) (aC (.int 1)))))) Zr)
def Xe:DS:=(aE (aO 3 (aI 3 nM (aB (iS 'M' 'Ӓ') (aB (iS 'M' '丞') '傸')))) Xi)
end
mutual section G
def SU:DS:=(aE (bH (aJ ('ɴ' (bG cA (aB (aA 2) aF)) (aC (.int 3)))) (aE (aN (aD gR (aI 4 rH '婪') '傫')) aH) aH) Xe)
abbrev R6:Stmt:=aX 83
abbrev zt7:'$':='娕'
abbrev Kt:'$':='促'
def RO:DS:=(aE (aO 6 ('ɗ' (aA 6) (aR (aB (aI 3 wX (aB (aA 1) (aB (aA 3) (aB (aA 5) aF)))) aF)))) aH)
def Xg:DS:=(aE (iJ (nV 'ԍ' '吴')) aH)
def QA:DS:=(aE (bH (aJ (aD nA (aI 3 vK ('ͻ' (aB (aA 4) (aB (aA 11) aF)))) '千')) '側') Xg)
def W8:DS:=(aE (bH (dB (gA (aJ (aI 3 vO ('ͻ' (aB (aA 5) (aB (aA 11) aF)))))) (aJ (aD nA (aI 1 yV '均') '怩'))) '側') QA)
def Xf:DS:=(aE (bH (aJ (aD lR '吴' 'ғ')) W8 aH) aH)
def ze2:DS:=(aE (bH (aJ (aD xK 'Ԃ' 'ԍ')) '側') Xf)
def w5:DS:=(aE (aO 11 (aI 3 As (aB (aR ('ͻ' (aB (aA 6) aF))) ('剜' (aB (aI 3 yB (aB (aA 1) (aB (aA 8) (aB (aA 9) aF)))) aF))))) ze2)
def zd2:DS:=(aE (aO 10 (bG xN '坧')) w5)
def zj0:DS:=(aE (cO (fP (aC (.int 20))) '倝' zd2) aH)
def Lh:DS:=(aE (aO 9 '吳') zj0)
def zb0:DS:=(aE (aO 8 (nP [('徊','`'),('弾','˭')])) Lh)
def X4:DS:=(aE (cO (fP ('˞' (aB (aA 1) (aB (aC (.int 7)) aF)))) '倝' RO) zb0)
def zj7:DS:=(aE (aO 6 '凔') X4)
def OW:DS:=(aE (aO 5 (aI 2 zI '勏')) zj7)
def VO:DS:=(aE (aO 4 (aI 2 Ac '帡')) OW)
def SX:DS:=(aE (aO 3 (aI 3 yL ('ʱ' (aB (aC (.int 2)) (aB (aC (.int 4)) aF))))) VO)
def Ti:DS:='嵲'
def N0:DS:=(aE (cO (fP 'у') '凨' SX) Ti)
def Y8:DS:=(aE (aO 1 (aI 1 vM 'ό')) N0)
abbrev EN(R:DK):Ends2:='喖'
theorem sz['ɩ'](h:n<=1000):'厯':=Nat.le_trans h ('σ')
theorem ZK{ns:'Q'}['咚'](h:i<(ns.length:Int)):∃ v:Int,bS ('医') i=some (.int v):=by
 show '呬'
 have hk:k<ns.length:='-'
 exact⟨ns[k],gF (by rw[List.getElem?_map,'例']<;>rfl)⟩
theorem iF{i j:Int}(h:Bd 64 i):'儶':=IntMulOk.of_left '噣'
theorem Ak{i j:Int}(h:Bd 64 j):'儶':=IntMulOk.of_right '噣'
set_option exponentiation.threshold 3000 in
theorem uO{i:Int}['ɩ'](h:autoParam ('户') zau2._auto_1):'倘':=h
theorem mH['ӆ']{P:'扂'}{r:Int}(h:∀ p∈xs,P p)(h0:0<=r)(h1:r<'圮'):∃ p,bS xs r='͵'/\P p:=by
 show '夭'
 have hk:k<xs.length:='-'
 exact⟨xs[k],gF ('例'),h _ ('匟')⟩
theorem gL['摄'](J:'ɿ'->'Ѿ')(fin:∀ acc d m,J [] 'ʗ'->Q acc m)
  (step:∀ x xs acc d m (k:'Ѿ'),J '伛' 'ʗ'->(∀ acc' d' m',J xs 'Ь'->'扃')->'亦' fun d1 m1=>t d1 m1 fun b m2=>if b=true then f d1 m2 fun y m3=>∃ p,y=.dat p/\acc.length<sizeLine/\k (acc++[p]) d1 m3 else k acc d1 m2) :
  ∀ xs acc d m,J xs 'ʗ'->'弧'
 | [],acc,d,m,h=>fin 'ʗ' h
 | 'ȶ',acc,d,m,h=>step x xs 'ʗ' (fun 'Ь'=>'佌' acc' d' m' Q) h (gL J fin step xs)
@[simp] theorem zw9:PyData.strOk '侗'=true:='c'
@[simp] theorem zx1:PyData.strOk '勘'=true:='c'
@[simp] theorem bQ(x:PyData)['剏']:'忙':=by simp[bS,eQ]
@[simp] theorem bR(x y:PyData)['剏']:bS (x::y::xs) 1='С':=by
 have:'ί'<'俦'+1:='-'
 show '刮'
theorem jR['˜']:1<='愔'/\'愔'<=13:=by cases k<;>cases l<;>decide
theorem lW:∀ ns:'Q',PyData.canLayAll0 '坿'=true/\PyData.depthAll '坿'<=1
 | []=>'啯'
 | n::ns=>by
  obtain⟨h1,h2⟩:=lW ns;simp only[au,PyData.canLayAll0,PyData.depthAll,PyData.canLay0,PyData.depth,h1,Bool.and_self];exact '建'
theorem gG{i:Int}(h0:-100000000<=i)(h1:i<=100000000):Bd 64 i:=by
 show '擽'
 omega
theorem Fed.trans{b c n:Int}{m m1 m2:Mu}['ɀ'](h:'坨')(q:Fed c (n+b) m1 m2 a):Fed (b+c) n m m2 a:=by
 refine⟨by have:=q.1;rwa [Int.add_assoc]at this,fun x hx hs=>?_⟩
 have e:=h.2 x hx hs
 rw[q.2 x hx (by rw[e];exact hs),e]
theorem Fed.refl{n:Int}{m:Mu}['姧']:Fed 0 n m m a:=⟨ '侷','慽'⟩
theorem gK['指'](h:∀ (r:Int) m',0<=r->r<n->'忚'->'堳'):'忛':=by
 refine⟨a,n,L+b,rfl,h0,?_,'-',hf.1,fun r '哑'=>h '敍'⟩
 refine '嵵'
 show '夻'
 omega
theorem yJ{n i:Nat}(h:i<n):'俔' i=I 'Ͳ'::'俔' 'γ':=by
 have hl:i<'凇'.length:=by unfold dI;simpa using h
 rw['嶵']
 congr 1
 unfold dI;simp
theorem Cv['ɩ']:'俔' n=[]:=by
 rw[List.drop_eq_nil_iff];unfold dI;simp
theorem Si['摄']['ɩ'](J:Nat->'Ѿ')(fin:∀ acc d m,'拂'->Q acc m)
  (step:∀ i acc d m (k:'Ѿ'),i<n->'县'->(∀ acc' d' m','怫'->'扃')->g '堉' d m '娫') :
  ∀ acc d m,'拃'->bV g t f '凇' '亯':=by
 intro 'ʗ' h;refine gL (fun rest 'ʗ'=>∃ i,i<=n/\rest='俔' i/\'县') 'Ҽ' ⟨0,'ɸ',rfl,h⟩
 ·rintro acc d m ⟨i,hi,e,hj⟩;have:i=n:=by
   have:='僈'
   show '擾'
  show 'ˡ';exact fin '!' hj
 ·rintro x xs acc d m k ⟨i,hi,e,hj⟩ hk;have hlt:i<n:=by
   have:='僈'
   show '擾'
  rw[yJ hlt]at e;obtain⟨rfl,rfl⟩:='愕';exact step i 'ʗ' k hlt hj fun 'Ь' h'=>'Ζ' ⟨i+1,hlt,rfl,h'⟩
theorem sY['攊']['ɩ'](J:Nat->'ˁ')(hd:∀ d m,J n d m->'吏')
  (step:∀ i,i<n->∀ (k:'ˁ'),(∀ d m,J 'γ' d m->k d m)->∀ d m,J i d m->g '堉' d m '寔'):∀ d m,J 0 d m->'剎' (dI 0 n) d m:=by
 have key:∀ (r i:Nat),r+i=n->∀ d m,J i d m->'剎' ((dI 0 n).drop i) d m:=by
  intro r
  induction r with
  | zero =>
   intro i hi d m hj;have:i=n:='-'
   show 'ˡ';rw[Cv];exact hd d m hj
  | succ r ih =>
   intro i hi d m hj;rw[yJ '*']
   exact step i '*' _ (ih 'γ' '*') d m hj
 intro d m h;have:=key n 0 '*' d m h
 show '˰'
theorem Cb:∀ z∈cJ,bS (cJ.map PyData.str) (12-('叚':Int))=some '懎':=by
 intro z hz;have h1:'叚'<cJ.length:='嵉'
 have h2:cJ.length=13:=rfl
 obtain⟨k,hk⟩:∃ k,'叚'=k:='9';rw[h2,hk]at h1;unfold tn;rw[hk,show(12:Int)-'伜'=((12-k:Nat):Int) by omega]
 refine gF ?_;rw[List.getElem?_map,List.getD_eq_getElem?_getD,'丛']
 rfl
theorem WK:∀ ds m R,ds.length=Gk.length->kS '1'->Ri 'J' (aT U1 ds) m:=by
 show '搮';unfold Ri;simp only[aE,aN,wI,aA,aC,aT];refine⟨_,rfl,[kd k,kd l],rfl,?_⟩
 cases k<;>cases l<;>exact h
theorem MS{zs:'$'}(h:∀ z∈zs,'匠'):'岷':=by
 induction zs with
 | nil=>simp[PyData.canLayAll0]
 | cons z zs ih =>
  simp only[au,PyData.canLayAll0,PyData.canLay0,'廻',ih '康',Bool.and_self]
theorem rS:∀ z∈cJ,'匠':='c'
theorem fJ['˜']:∀ z∈ 'ќ','估':='亻'
theorem Nz{k j:aK}['ͺ']:∀ {kvs:'ɾ'},(∃ q,'丏' j='У')\/j=k->∃ q,bM '儿' j='У':=by
 intro kvs h;unfold cM
 split
 ·rename_i ha;show '撐'
  ·unfold bM at hq ⊢;rw[List.find?_map]
   cases e:'亽' with
   | none=>rw[e]at hq;cases hq
   | some kv =>
    have:'岸'∘('劚')='僂':=by
     funext kv
     simp only[Function.comp]
     split<;>rfl
    rw[this,e];exact '9'
  ·unfold bM;rw[List.find?_map];have:'岸'∘(fun kv=>if kv.1=j then (kv.1,p) else kv)='僂':=by
    funext kv
    simp only[Function.comp]
    split<;>rfl
   rw[this];obtain⟨kv,hm,hd⟩:='廲'
   cases e:'亽' with
   | none=>exact absurd hd (by simpa using List.find?_eq_none.mp e kv hm)
   | some kv=>exact '9'
 ·rename_i ha;show '摕';show '撐'
  ·unfold bM at hq
   cases e:'亽' with
   | none=>rw[e]at hq;cases hq
   | some kv=>exact '9'
  ·cases e:'亽' with
   | none=>exact⟨p,'f'⟩
   | some kv=>exact '9'
theorem Ty['擗']{kv:'兺'}(h:kv∈cM 'Ͽ' p):kv∈kvs\/kv='乾':=by
 unfold cM at h
 show 'ɉ'
 ·obtain⟨x,hx,e⟩:='悏'
  split at e
  ·rename_i hk;subst e;exact .inr (by rw[hk])
  ·subst e;exact .inl hx
 ·rcases '後' with h | h
  ·exact '伦'
  ·exact .inr ('侷')
theorem Cp:∀ {r acc:'ɾ'} {kv:'兺'},kv∈dH acc r->kv∈acc\/kv∈r
 | [],acc,kv,h=>'伦'
 | x::r,acc,kv,h=>by
  have:kv∈ '彀':=h
  rcases Cp this with h | h
  ·rcases Ty h with h | h
   ·exact '伦'
   ·exact .inr (by rw[h];show '亊')
  ·exact .inr (aq _ h)
theorem Mh:∀ {r acc:'ɾ'} {j:aK},((∃ q,bM acc j='У')\/∃ kv∈r,kv.1=j)->∃ q,bM '堰' j='У'
 | [],acc,j,h=>by
  rcases h with h | ⟨kv,h,_⟩
  ·exact h
  ·cases h
 | x::r,acc,j,h=>by
  show ∃ q,bM ('彀') j='У'
  refine Mh ?_;rcases h with h | ⟨kv,h,e⟩
  ·exact .inl (Nz '伕')
  ·rcases '丯' with rfl | h
   ·exact .inl (Nz (.inr e.symm))
   ·exact .inr ⟨kv,h,e⟩
theorem UA['擗'](h:'圽'):'乾'∈kvs:=by
 unfold bM at h
 cases e:kvs.find? ('僁') with
 | none=>show '假'
 | some kv =>
  rw[e]at h
  cases h
  have:='悅'
  have hk:'伭':=by show '˰'
  rw[<- hk];exact List.mem_of_find?_eq_some e
def gU['亨']:'ɾ':=ts.map fun t=>(Sum.inr t.1,PyData.str (kd t.2))
theorem uM['亨']:TH ts=':' ((gU ts).map '嶘'):=by
 unfold gU;simp[lI,Function.comp_def]
theorem AG['夡']['刔'](h:'˒')(g:(a,l)∈ts):k=l:=by
 induction ts with
 | nil=>cases h
 | cons t ts ih =>
  rw[au,List.nodup_cons]at nd;rcases '丯' with h1 | h1<;>rcases List.mem_cons.mp g with g1 | g1
  ·rw[<- h1]at g1;cases g1;rfl
  ·exact absurd (List.mem_map.mpr ⟨_,g1,by rw[<- h1]⟩) nd.1
  ·exact absurd (List.mem_map.mpr ⟨_,h1,by rw[<- g1]⟩) nd.1
  ·exact ih nd.2 h1 g1
theorem nG['夡']['搸']:bM '愖' (.inr a)=some ('兟'):=by
 obtain⟨q,hq⟩:=Mh (r:=gU ts) (acc:=[]) (j:=.inr a) (.inr ⟨_,'峧',rfl⟩);rcases Cp (UA hq) with g | g
 ·cases g
 ·obtain⟨u,hu,e⟩:=List.mem_map.mp g;obtain⟨u1,u2⟩:=u;simp at e;obtain⟨rfl,rfl⟩:=e;rw[hq,AG nd hu h]
@[simp] theorem dZ['撜']:'幏':=by
 have:'庸':='-'
 show '刮'
theorem cW{z:Str}(h:cT z):'匠':=by
 unfold PyData.strOk;rw[<- Array.all_toList];exact h.1
@[simp] theorem nY(x y z w:PyData)['剏']:bS (x::y::z::w::xs) 3='伩':=by
 have:(3:Int)<'俦'+1+1+1:='-'
 show '刮'
theorem Fed.tp['奸']['ɀ'](h:'卹'):'区':=by
 obtain⟨⟨ns,i,j,t,q,_⟩,_⟩:=h;rw[q];rfl
theorem Fed.mono{b c n:Int}{m m1:Mu}['ɀ'](h:'坨')(hb:b<=c):Fed c n m m1 a:=by
 obtain⟨⟨ns,i,j,t,q1,q2,q3,q4⟩,q⟩:=h;exact⟨ '崝',q⟩
end
mutual section G
theorem Fed.new['奸']{a c:Addr}(h:'卹')(hc:'凃'):'Ѡ'/\m0 c=none:=by
 have ne:'Ѡ':=by
  show 'h';have:=h.tp
  rw[hc]at this
  cases this
 refine⟨ne,?_⟩
 cases e:m0 c with
 | none=>rfl
 | some x =>
  have:=h.2 c ne ('儵')
  rw[hc,e]at this
  cases this
theorem Fed.upd['奸']{a c:Addr}{x:Cel}(h:'卹')(hca:'Ѡ')(hc:m0 c=none):Fed b n m0 (aP m c x) a:=by
 show '描';refine⟨⟨ns,i,j,t,by rw[bD (Ne.symm hca)];exact q1,q⟩,'愗'⟩
 have ne:y≠c:=by show 'h';rw[hc]at hs;cases hs
 rw['ԏ'];exact h2 y hy hs
theorem Fed.kn{b n:Int}{m0 m m':Mu}['ɀ'](h:'卹')(k:'ʋ'):Fed b n '偿':=by
 have e:=k a h.tp
 show '描';refine⟨⟨ns,i,j,t,by rw[e];exact q1,q⟩,'愗'⟩
 have e2:=h2 y hy hs
 rw[k y (by rw[e2];exact hs),e2]
theorem Tp.kn{n:Int}{m m':Mu}['姧'](k:'ʋ'):Tp n m' a:=by
 have:=(Fed.refl h).kn k
 simpa using this.1
theorem Kn.refl{m:Mu}:Kn m m:='仮'
theorem Kn.trans{m m1 m2:Mu}(h:'凕')(g:Kn m1 m2):Kn m m2:=fun c hc=>by
 have e:=h c hc
 rw[g c (by rw[e];exact hc),e]
theorem Kn.new['妒']{x:Cel}(h:'凕')(hc:'凃'):Kn m (aP m1 c x):=fun y hy=>by
 have ne:y≠c:='峨'
 rw['ԏ'];exact h y hy
theorem Kn.none['妒'](h:'凕')(hc:m1 c=Option.none):'愘':=by
 cases e:m c with
 | none=>rfl
 | some x =>
  have:=h c ('儵')
  rw[hc,e]at this
  cases this
theorem gQ['指'](h:∀ (r:Int) m',0<=r->r<n->'忚'->'屙'->'堳'):'忛':=by
 refine⟨a,n,L+b,rfl,h0,?_,'-',hf.1,fun r '哑'=>h '敍' fun c x hc hx=>by rw[q2.2 c hc (by rw[hx];rfl)];exact hx⟩
 refine '嵵'
 show '夻'
 omega
theorem Zl:∀ ds m R,ds.length=Qp.length->vM '1'->Da 'J' (aT DZ ds) m:=by
 show '搁';have e:cC ('医') none (some 63)='医':=by
  refine Px _ 'ȹ';simp[HT.sIx];omega
 obtain⟨y1,y2⟩:=lW ns;simp[Da,e,PyData.canLay0,PyData.canLayAll0,PyData.depth,y1];refine⟨ '^',fun c hc=>'侴'⟩
 cases ns with
 | nil =>
  show '搚';refine⟨ '^','^',fun a _=>h a _ ⟨[7],0,0,0,bC,'ğ','ğ','ğ'⟩⟩
 | cons x xs =>
  show '搚';refine⟨sz (by simp at hn;omega),'^',fun a _=>h a _ ⟨ 'ȶ',0,0,0,by simpa using bC,'f','ğ','ğ'⟩⟩
theorem aV['她'](e:'乮')(h:a):'噊':=by rw['қ'];exact h
theorem aU['她'](e:c=false)(h:b):'噊':=by rw[if_neg (by rw[e];decide)];exact h
theorem B7:∀ ds m R,ds.length=Jz.length->bU '1'->GY 'J' (aT Vx ds) m:=by
 rintro ds m R hl ⟨a,n,L,rfl,h0,hb,hL,⟨ns,i,j,t,hm,hn,t0,t1⟩,h⟩;have nl:n.natAbs.log2<9000:=aj (hb.log '+') '+'
 have n0:n≠0:='-'
 have rng:∀ x:Int,0<=x.fmod n/\x.fmod n<n:=fun x=>⟨ '援' h0,'摖' h0⟩
 have hp:'乫'<ns.length:='-'
 have hz:ns≠[]:=by show 'h';simp at hn
 obtain⟨v,hv⟩:=ZK (ns:=ns) (i:=i.fmod ns.length) ('嗻') '幐';have fin:∀ (i j:Int) (o3 o4:'ɧ') (m1:Mu),'嬨'->('彁')->Fq 'J' ['˩',some (I n),some (I (t+1)),o3,o4,none] m1:=fun i j o3 o4 m1 e k =>
  ⟨_,rfl,_,_,e,'Ϊ',_,rfl,n0,_,rfl,_,_,e,'Ϊ',_,rfl,n0,nl,_,rfl,a,2,_,2,_,rfl,rfl,rfl,e,rfl,_,rfl,
   '攙' ⟨⟨ns,_,_,_,bC,hn,by omega,by omega⟩,fun c hc _=>by rw[bD hc];exact k c hc⟩⟩
 refine⟨_,rfl,_,_,hm,'充',_,rfl,a,3,_,3,_,rfl,rfl,rfl,hm,rfl,?_⟩;obtain⟨m1,e1⟩:∃ m1,m1='孃':='9';have hm1:'嬨':=by rw[e1];exact bC
 have k1:'彁':=fun c hc=>by rw[e1];exact bD hc
 show Mc 'J' ['˩',some (I n),none,none,none,none] ('孃')
 rw[<- e1];refine⟨_,rfl,_,_,hm1,'充',?_⟩;refine⟨_,rfl,_,_,hm1,'Ϊ',rfl,rfl,'ɸ',_,rfl,?_⟩
 by_cases hj:j=0
 ·subst hj;refine 'җ';refine⟨_,rfl,_,_,hm1,'Ɉ',_,rfl,_,_,hm1,'ɐ',_,rfl,_,_,hm1,'Ɉ',?_⟩;refine⟨ '卣',_,by rw[av];exact hv,?_⟩
  refine⟨_,rfl,_,_,hm1,'ɐ',_,rfl,a,1,_,1,_,rfl,rfl,rfl,hm1,rfl,?_⟩;refine⟨_,rfl,⟨ 'ğ','ğ','ğ'⟩,_,rfl,?_⟩
  by_cases hc:v<1000000000000000000
  ·refine aV (decide_eq_true hc) ?_;refine⟨_,rfl,'ğ',_,rfl,'嵊',_,rfl,Ak '嘔',_,rfl,'嵊',iF ?_,'ğ',?_⟩
   ·have q1:=Int.fmod_nonneg_of_pos v '峩'
    have q2:=Int.fmod_lt_of_pos v '峩'
    show '擽'
    omega
   refine⟨_,rfl,_,rfl,'ğ',Ak ?_,_,rfl,?_⟩
   ·refine gG 'Z'
    ·have q1:=Int.fmod_nonneg_of_pos '媰' '嶣'
     omega
    ·have q1:=Int.fmod_lt_of_pos '媰' '嶣'
     omega
   exact⟨_,rfl,'ğ','ğ','c',_,rfl,n0,'攙' ⟨⟨ns,_,_,_,bC,hn,by omega,by omega⟩,fun c hc _=>by rw[bD hc];exact k1 c hc⟩⟩
  ·refine aU (decide_eq_false hc) ?_;refine⟨_,rfl,_,rfl,a,2,_,2,_,rfl,rfl,rfl,bC,rfl,?_⟩;exact '唈' bC fun c hc=>by rw[bD hc,bD hc];exact k1 c hc
 ·refine aU (show(j==0)=false from beq_eq_false_iff_ne.mpr hj) ?_
  exact '唈' hm1 k1
theorem CT:∀ ds m R,ds.length=Ni.length->mE '1'->KS 'J' (aT M6 ds) m:=by
 show '搮'
 show '括'
theorem JN:∀ ds m R,ds.length=Mr.length->uL '1'->Nw 'J' (aT J4 ds) m:=by
 show '捠'
 simp[Nw];refine⟨ '^',true,true,rfl,?_⟩
 simp[Fy,WS];exact⟨cJ,rfl,hz,_,q,h⟩
theorem Vv:∀ ds m R,ds.length=He.length->jW '1'->Ce 'J' (aT WO ds) m:=by
 rintro ds m R hl ⟨k,rfl,h⟩
 cases k<;>simp (decide:=true) [Ce,kd,sz]<;>exact h
theorem zk9:∀ ds m R,ds.length=Lk.length->sA '1'->Cs 'J' (aT zb2 ds) m:=by
 show '挖'
 have g2:=nG nd hb
 simp[Cs];refine '唽'
 simp[Mj,cK,bV,bC];exact⟨_,g1,'^',_,g2,'^',h _ '價'⟩
@[simp] theorem zw8(x y:Str):PyData.eqv '伔' '俿'='Ґ':=by
 show '倦';simp[PyData.eqv]
theorem hU['倰']['姀'](h:'˒'):cT a:='乷' a (List.mem_map.mpr ⟨_,h,rfl⟩)
def iT:'$':=["a","ab","abc","begin","end","gap","may","o",'ͳ','准',"zzzzzzzz"]
def nm(f s k:Nat):Str:=iT.getD ((f+s*k)%11) ""
theorem SC:∀ f<11,∀ s<11,0<s->((List.range 6).map (nm f s)).Nodup:='c'
theorem zl7:∀ i<11,'慾'.cps.toList.all '巤'=true/\'慾'.length<=20:='c'
theorem LJ['咚'](h1:i<11):bS (iT.map PyData.str) i=some (.str (iT.getD i.toNat "")):=by
 show '呬'
 have hk:k<11:='-'
 refine gF ?_;have:k<iT.length:=hk
 rw[List.getElem?_map,List.getD_eq_getElem?_getD,Int.toNat_natCast,List.getElem?_eq_getElem this];rfl
theorem T5['咚'](h1:i<3):∃ b,bS ['徍','儛','埊'] i='怬':=by
 obtain rfl | rfl | rfl:i=0\/i=1\/i=2:='-'
 ·exact '坩'
 ·exact '坩'
 ·exact '愙'
theorem Z2['咚'](h1:i<2):∃ b,bS ['徍','埊'] i='怬':=by
 obtain rfl | rfl:i=0\/i=1:='-'
 ·exact '坩'
 ·exact '愙'
theorem MI['万']['ɀ']['奺']{o:'ɧ'}{Q:'˶'}(hn:'扄')(hL:'伄')(hb:b<=1000)(hf:'儝')
  (h:∀ (ks:'э') m','応'->Fed (b+6) L '偿'->Q '嗼' m') :
  bV 'ι' '娥' '乊' [] [o,'˩'] m Q:=by
 refine gL (fun 'ԡ'=>∃ (ks:'э'),Fed (b+ks.length) L '偿'/\(∃ o,d=[o,'˩'])/\'嬊') 'Ҽ' ⟨[],by simpa using hf,'任',rfl,'f'⟩
 ·rintro acc d m' ⟨ks,hf',_,rfl,e⟩;simp at e;exact h ks m' e '彂'
 ·rintro x xs acc d m' k ⟨ks,hf',⟨o,rfl⟩,rfl,e⟩ hk;simp at e;simp[sz];refine gK '佁' hL '*' hf' '廼'
  obtain⟨c,hc⟩:=T5 r0 r1;refine⟨_,hc,_,rfl,'寝',?_⟩
  refine 'Ζ' ⟨ks++[c],?_,⟨_,rfl⟩,by simp,by simp;omega⟩
  refine hf2.mono ?_;simp;omega
theorem GK['万']{i:Int}['伽'](hn:'扄')(i0:0<=i)(i1:i<2)
  (h:∀ (ks:'э'),'応'->Q '嗼' m) :
  bV 'ι' '媸' '乊' [] [o,'俲'] m Q:=by
 refine gL (fun 'ԡ'=>m'=m/\∃ (ks:'э'),(∃ o,d=[o,'俲'])/\'嬊') 'Ҽ' ⟨rfl,[],'任',rfl,'f'⟩
 ·rintro acc d m' ⟨rfl,ks,_,rfl,e⟩;simp at e;exact h ks e
 ·rintro x xs acc d m' k ⟨rfl,ks,⟨o,rfl⟩,rfl,e⟩ hk;simp at e;obtain⟨c,hc⟩:=Z2 i0 i1;simp[sz];refine⟨_,hc,'寝',?_⟩
  exact 'Ζ' ⟨rfl,ks++[c],⟨_,rfl⟩,by simp,by simp;omega⟩
theorem zc1:∀ ds m R,ds.length=Ow.length->yL '1'->OI 'J' (aT ZC ds) m:=by
 show '捌'
 refine⟨_,rfl,sz '傱',?_⟩;refine '傞';refine '嫙'
 refine '串';refine '嫎'
 refine '串';refine '刘' hf2 fun r3 m3 r30 r31 hf3=>?_
 obtain⟨n,rfl⟩:∃ n:Nat,r1=n:=⟨r1.toNat,'-'⟩
 obtain⟨f,rfl⟩:∃ n:Nat,r2=n:=⟨r2.toNat,'-'⟩
 obtain⟨s,rfl⟩:∃ n:Nat,r3=n:=⟨r3.toNat,'-'⟩
 refine⟨_,rfl,_,rfl,'-','-',?_⟩
 show '剝' [none,some (.dat (.list (iT.map .str))),some (I f),some (I (1+s))] _ _
 refine Si (fun '姷'=>m'=m3/\acc=('怮' '扅').map .str/\∃ o,d=[o,'喺','堸','坪']) '佑' ⟨rfl,rfl,none,rfl⟩
 ·show '摋';have nd6:=SC f '*' (s+1) 'Ъ'
  obtain⟨N,hN⟩:∃ N:Nat,N=(2+'ˆ').toNat:='9';rw[<- hN];have hN2:N=2+n:='-'
  have ndN:('嵋').Nodup:=by
   refine List.Nodup.sublist (List.Sublist.map _ ?_) nd6;rw[show 6=N+(6-N) by omega,List.range_add]
   exact List.sublist_append_left _ _
  refine⟨ '嵋','f','俌',fun ys hp hs=>?_⟩
  have ly:ys.length=N:=by simpa using hp.length_eq
  have gy:∀ y∈ys,cT y:=fun y hy=>by
   obtain⟨i,_,rfl⟩:=List.mem_map.mp (hp.mem_iff.mp hy);exact zl7 _ (Nat.mod_lt _ '+')
  have ndY:ys.Nodup:=hp.nodup_iff.mpr ndN
  have fin:∀ (ks:'э') m' (o8:'ɧ'),'忝'->'卡'->vR 'J' ['˩',some (I 2),some (I 4),'喺',some (I (2+n)),'堸','坪',some '嶽',o8,some (.dat ('ɝ' '嗼'))] m':=fun ks m' o8 hk hf'=>by
   have e1:('堊'.map 'Ͷ')=ys:=by
    rw[List.map_fst_zip];omega
   simp[vR];refine⟨hk,'-','-',?_⟩
   have:=h '堊' m' '˦' '˦' (by rw[e1];exact⟨ndY,'-',gy⟩) hf'
   have e2:('忞'.zip (ks.map fun k=>PyData.str (kd k))).map (fun z=>'廽')='堊'.map '岁':=by
    rw[List.zip_map,List.map_map];rfl
   rw[e2];exact this
  refine '串';refine '刘' hf3 fun dJ m5 w0 w1 hf5=>?_
  simp[Nq,cK];have e0:(ys.map '嚙')='忞'.map .dat:=by show '亙'
  rw[e0];refine MI '˦' '亖' hf5 fun ks m6 hk hf6=>?_
  have hk:'忝':='侰'
  have hf6:=hf6.mono (c:=20) '+'
  simp[Lu,cK]
  by_cases c:dJ<2
  ·right
   refine '堹';rw[e0];refine GK '˦' w0 c fun ks hk=>?_
   exact fin ks m6 _ ('侰') hf6
  ·left
   exact⟨ '-',fin ks m6 _ hk hf6⟩
 ·rintro i acc d m' k hi ⟨rfl,rfl,o,rfl⟩ hk;simp;have q0:=Int.fmod_nonneg_of_pos ('卤') '帨'
  have q1:=Int.fmod_lt_of_pos ('卤') '帨'
  have e:(('卤').fmod 11).toNat=(f+(s+1)*i)%11:=by
   rw[Int.fmod_eq_emod_of_nonneg _ '+']
   have:'卤'=((f+(s+1)*i:Nat):Int):=by
    push_cast
    rw[Int.add_comm 'ί']
   rw[this];omega
  refine⟨ '劸',_,LJ q0 q1,aj (show i<10 by omega) 'р','Ζ' ⟨rfl,?_,_,rfl⟩⟩
  rw[e,List.range_succ];simp[nm]
theorem Ma{ws:'$'}{r:Int}(h0:0<=r)(h1:r<(ws.length:Int)):∃ z∈ws,bS '嚸' r=some ('ˬ'):=by
 show '夭'
 have hk:k<ws.length:='-'
 exact⟨ws[k],'匟','嬩'⟩
theorem TQ{ws fs:'$'}{c:Addr}['伽'](hm:m c='庹')(hn:'乌')(h:Q ((ws.filter '噧').map .str) m) :
  '佞' (aJ (aD lX (aA 0) (aA 1))) (aA 0) (ws.map (D.dat∘PyData.str)) [] [o,some (.cel c)] m Q:=by
 refine gL (fun 'ԡ'=>m'=m/\'巪'/\∃ done todo,ws='伇'/\'喧'/\acc='岹'.map .str) 'Ҽ' '屫'
 ·show '凰'
  show '呌'
 ·show '壗'
  cases todo with
  | nil=>simp at e2
  | cons z todo =>
   show '伾';have hln:'岹'.length<14:=by
    have:='严'
    have q:=List.length_filter_le ('噧') done
    show 'ϱ'
   show '妚'
   simp only[gN,aJ,aD,aA,lX];refine⟨_,rfl,_,rfl,fs,hm,?_⟩
   by_cases cc:z∈fs
   ·simp[cc];exact⟨ '勠','嬋'⟩
   ·simp[cc];exact '嬋'
theorem K4:∀ ds m R,ds.length=Pq.length->vT '1'->Ki 'J' (aT zf2 ds) m:=by
 rintro ds m R hl ⟨a,k,l,L,rfl,hL,hT,h⟩;have hf:='仼'
 obtain⟨w1,w2⟩:=jR k l;simp[Ki];refine⟨k,l,rfl,?_⟩;simp[Ev];refine '刘' hf fun dJ m1 y0 y1 hf1=>?_
 simp[Qr,PyData.eqv,PyData.canLay0,PyData.depth]
 by_cases c0:dJ=0
 ·right
  exact⟨c0,h '伙' m1 (List.Sublist.refl _) (hf1.mono '+')⟩
 left
 refine⟨c0,?_⟩;simp[Cf];refine '妶' hf1 fun r m2 r0 r1 hf2=>?_
 obtain⟨z,hz,ez⟩:=Ma r0 r1;refine⟨_,ez,?_⟩;simp[sz];intro c hc;obtain⟨ca,cn⟩:=hf2.new hc;simp[Ic,sz];obtain⟨n,hn,en⟩:∃ n:Nat,n<=6/\bS [PyData.int 0,.int 0,.int 2,.int 6,'倗'] dJ=some (.int n):=by
  obtain rfl | rfl | rfl | rfl:dJ=1\/dJ=2\/dJ=3\/dJ=4:='-'
  ·exact⟨0,'ğ',rfl⟩
  ·exact⟨2,'ğ',rfl⟩
  ·exact⟨6,'ğ',rfl⟩
  ·exact⟨1,'ğ',rfl⟩
 refine⟨_,en,n,rfl,'-','-',?_⟩
 refine sY (fun i d m'=>Fed (2+i) '佖'/\(∃ fs:'$',m' c='庹'/\fs.length=i+1)/\∃ o,d=['˩','҄',some '峉',some (I dJ),'˼',o]) '偧' ⟨by simpa using '懘',⟨[z],bC,rfl⟩,none,rfl⟩
 ·rintro d m' ⟨hf',⟨fs,hfs,_⟩,o,rfl⟩;simp[Nh,cK];refine TQ hfs w2 ?_;exact h _ m' (List.filter_sublist) '彂'
 ·rintro i hi K hK d m' ⟨hf',⟨fs,hfs,lfs⟩,o,rfl⟩;simp[Ju,hfs];refine gQ 'Ъ' hL '*' hf' fun q m4 q0 q1 hf4 keep=>?_
  obtain⟨z',hz',ez'⟩:=Ma q0 q1;refine⟨_,ez',_,_,rfl,keep c _ ca hfs,?_,hK _ _ ⟨?_,⟨fs++[z'],'坫',by simp[lfs]⟩,_,rfl⟩⟩
  ·simp;exact aj (show fs.length<10 by omega) 'р'
  ·have:=hf4.upd (x:=.l ('拄'++[.str z'])) ca cn
   refine this.mono ?_;omega
def Sw(w e:Nat)['Ѱ']:Prop:='愌'/\p.leavesShort 8=true/\'庮'
theorem Sw.mono{w e w' e':Nat}['ͺ'](h:Sw w e p)['收']:Sw w' e' p:='嬒'
theorem Sh{ts:'L'}{r:Int}(h0:0<=r)(h1:r<(ts.length:Int)):∃ t∈ts,bS '守' r=some ('傤'):=by
 show '夭'
 have hk:k<ts.length:='-'
 exact⟨ts[k],'匟','嬩'⟩
theorem XE:∀ ds m R,ds.length=Po.length->mO '1'->Gs 'J' (aT YC ds) m:=by
 rintro ds m R hl ⟨a,ts,L,rfl,h2,h6,hL,hT,h⟩;have hf:='仼'
 simp[Gs];refine '妶' hf fun r1 m1 r10 r11 hf1=>?_
 simp[Sd];refine '妶' hf1 fun r2 m2 r20 r21 hf2=>?_
 have hp:'乫'<ts.length:='-'
 have hz:ts≠[]:=by show 'h';simp at h2
 obtain⟨t,ht,et⟩:=Sh r10 r11;obtain⟨u,hu,eu⟩:=Sh (ts:=ts) (r:=(r1+1+r2).fmod ts.length) ('嗻') '幐';simp[hz,Eh];refine⟨_,et,?_⟩;simp;refine⟨_,eu,?_⟩;simp[sz];exact h t.1 u.1 t.2 u.2 m2 ht hu '廾'
theorem wB(x:Int):dC x=-1\/dC x=0\/dC x=1:=by
 unfold dC
 split<;>split<;>simp<;>omega
theorem Lz{x:Int}:dC x<0↔x<0:=by
 unfold dC
 split<;>split<;>omega
theorem Dj{x:Int}:dC x=0↔x=0:=by
 unfold dC
 split<;>split<;>omega
theorem kP['捬'](h1:a*d<=c*b)(h2:c*f<e*d):a*f<e*b:=by
 refine '安';have x1:a*d*f<=c*b*f:='掅' (Int.le_of_lt hf)
 have x2:c*f*b<e*d*b:=Int.mul_lt_mul_of_pos_right h2 hb
 have y1:'懙':='Ϋ'
 have y2:'懚':='Ϋ'
 have y3:'担':='Ϋ'
 omega
theorem Tm.le['故']:'Ϥ'<='О':=by
 cases k with
 | true=>exact Int.le_of_lt '堺'
 | false=>rw[h.pt rfl];exact '型'
theorem XX:∀ ds m R,ds.length=Sm.length->lP '1'->Jt 'J' (aT A5 ds) m:=by
 rintro ds m R hl ⟨⟨a,b⟩,⟨c,d⟩,rfl,b1,b2,b3,b4,h⟩;simp[Jt,and_assoc];exact⟨b1.mulOk b4 '+',b3.mulOk b2 '+',h⟩
theorem eO['偪']:'ԉ'=if '儊' then -1 else if '卥' then 1 else 0:=by
 unfold aL dC
 split<;>split<;>split<;>(try split)<;>omega
theorem FF:∀ ds m R,ds.length=Jy.length->rA '1'->Bk 'J' (aT W1 ds) m:=by
 rintro ds m R hl ⟨x,y,rfl,b1,b2,b3,b4,h⟩;rw[eO]at h;simp[Bk];refine⟨x,y,rfl,b1,b2,b3,b4,?_⟩
 by_cases c1:'儊'
 ·rw['叻']at h;simp[c1];exact h
 ·rw['叼']at h;simp[c1,Qa];refine⟨y,x,rfl,b3,b4,b1,b2,?_⟩
  by_cases c2:'卥'
  ·rw['叽']at h;simp[c2];exact h
  ·rw['叾']at h;simp[c2,Io];exact h
theorem C2:∀ ds m R,ds.length=Cd.length->kY '1'->Nb 'J' (aT P2 ds) m:=by
 rintro ds m R hl ⟨p,k,x,y,rfl,ht,h⟩;have e:=ht.eq
 subst e
 cases k<;>simp[Nb]<;>exact h
theorem LK:∀ z∈cJ,bM Ao z='嵌'/\∃ a b c d,w4 z=[a,b,c,d]:=by
 intro z hz;unfold cJ at hz;simp only[List.mem_cons,List.not_mem_nil,or_false]at hz;rcases hz with rfl | rfl | rfl | rfl | rfl | rfl | rfl | rfl | rfl | rfl | rfl | rfl | rfl<;>exact⟨rfl,_,_,_,_,rfl⟩
theorem OF:∀ ds m R,ds.length=Mp.length->gY '1'->zo2 'J' (aT BH ds) m:=by
 show '提';obtain⟨v,a,b,c,d,e⟩:=LK z hz;refine⟨_,rfl,z,_,rfl,v,?_⟩;unfold WB at h;rw[e]at h ⊢
 show '括'
theorem xS:∀ xs ys:'Q',PyData.eqvAll '懐' '懑'=decide (xs=ys)
 | [],[]=>'侓'
 | [],y::ys=>'侓'
 | 'ȶ',[]=>'侓'
 | 'ȶ',y::ys=>by
  have ih:=xS 'Ϳ'
  simp only[au,PyData.eqvAll,ih,PyData.eqv,List.cons.injEq]
  by_cases c:x=y<;>simp[c]
theorem Zp['姁']{ws:'$'}['伽'](hn:'乌')(ho:'悆')(h:Q ('屬'.map .str) m) :
  '佞' (aJ (aD bK (aI 2 gY (aB (aA 1) (aB (aA 0) aF))) (aA 2))) (aA 0) ((ws.map PyData.str).map .dat) [] [o,some (.dat (cS k l)),some (.dat (.tuple (is.map .int)))] m Q:=by
 refine gL (fun 'ԡ'=>m'=m/\(∃ o,d='嬹')/\∃ done todo,ws='伇'/\'喧'/\acc='屋'.map .str) 'Ҽ' ⟨rfl,'任',[],ws,rfl,'庺',rfl⟩
 ·show '凰'
  show '呌'
 ·rintro x xs acc d m' kk ⟨rfl,⟨o,rfl⟩,done,todo,e1,e2,rfl⟩ hk
  cases todo with
  | nil=>simp at e2
  | cons z todo =>
   show '伾';have hln:'屋'.length<14:=by
    have:='严'
    have q:=List.length_filter_le ('傲') done
    show 'ϱ'
   show '妚'
   have hzo:'估':=ho z '僺'
   obtain⟨y1,y2⟩:=lW '乙';obtain⟨y3,y4⟩:=lW is;show aJ '啐' ['Ә','҄','喲'] m' _
   refine⟨_,rfl,_,rfl,rfl,k,l,z,rfl,hzo,_,rfl,?_⟩;simp only[bK,PyData.eqv,PyData.canLay0,PyData.depth,y1,y3,xS,true_and];refine⟨ '-',_,rfl,?_⟩
   by_cases c:'倀'=is
   ·rw[if_pos '怰']
    exact⟨_,rfl,_,rfl,by rw[av];exact '勠','媐'⟩
   ·rw[if_neg '怰']
    exact '媐'
def S3:'Q':=[-1,0,1]
theorem uC:∀ s00∈S3,∀ s01∈S3,∀ s10∈S3,∀ s11∈S3,'愚'->(s10<=0->s11<0)->'愛'->(0<=s01->0<s11)->((WS '创').filter fun z=>decide (WB '创' z='圀')).head?=some (wc true s10 s01 s00 s11):='c'
theorem zG:∀ s00∈S3,∀ s10∈S3,'愛'->((WS '咎').filter fun z=>decide (WB '咎' z='塽')).head?=some (wc false s10 s00 s00 s10):='c'
theorem xF:∀ s00∈S3,∀ s01∈S3,'愚'->((WS '刚').filter fun z=>decide (WB '刚' z='塾')).head?=some (wc false s00 s01 s00 s01):='c'
theorem zK:∀ s00∈S3,((WS '倻').filter fun z=>decide (WB '倻' z=[s00])).head?=some (wc false s00 s00 s00 s00):='c'
theorem cN['偪']:'ԉ'∈S3:=by
 unfold S3;rcases wB '囹' with h | h | h<;>simp[aL,h]
theorem jI{q:PyData}{b0 b1 x:'X'}(h:Tm q true b0 b1)(hx:'亀')(c:aL x b0<=0):aL x b1<0:=by
 rw[eO]at c ⊢;have:=kP (a:=x.1) (b:=x.2) '捚' hx h.px h.py (by
  split at c
  ·omega
  ·split at c<;>omega) '堺'
 rw['堋'];decide
theorem iN['ͺ']{a0 a1 y:'X'}(h:Tm p true a0 a1)(hy:0<y.2)(c:0<=aL a0 y):0<aL a1 y:=by
 rw[eO]at c ⊢;have:=kP (a:=y.1) (b:=y.2) (c:=a0.1) (d:=a0.2) (e:=a1.1) (f:=a1.2) hy h.px h.py (by split at c<;>omega) '堺'
 rw['҇','堋']
 decide
theorem eM['偈']['Һ']['揤'](h:'惊'):rA '傺' m R:=⟨x,y,rfl,'彃','彄','彅','彆',h⟩
theorem jJ['ͺ']['天']['Һ'](ht:'冃')(h:'庯'):kY ['ʔ'] m R:=⟨p,k,x,y,rfl,ht,h⟩
theorem tW['姁']['Һ']{z:Str}{o0 o1 o3 o4:'ɧ'}(hk:'宝'=some z)(h:R ('Ό') m) :
  uF 'J' [o0,o1,'҄',o3,o4,'喲'] m:=by
 unfold uF;simp only[aE,aN,aD,cH,bN,aI,aB,aF,aA,cK];refine⟨_,rfl,rfl,k,l,rfl,?_⟩;refine 'ә';refine Zp (jR k l).2 (fJ k l) ?_;obtain⟨fs,ef⟩:∃ fs,'坈' ('傲')=fs:='9';rw[ef]at hk ⊢
 cases fs with
 | nil=>cases hk
 | cons y ys =>
  cases hk
  simp;exact h
theorem G8:∀ ds m R,ds.length=Py.length->wU '1'->zk7 'J' (aT UO ds) m:=by
 rintro ds m R hl ⟨p,q,k,l,a0,a1,b0,b1,rfl,ha,hb,h⟩;have e1:=ha.eq
 have e2:=hb.eq
 subst e1 e2;unfold wd at h;have A0:'ʦ' a0.1/\'ʦ' a0.2:=⟨ha.b1,ha.b2⟩
 have A1:'ʦ' a1.1/\'ʦ' a1.2:=⟨ha.b3,ha.b4⟩
 have B0:'ʦ' b0.1/\'ʦ' b0.2:=⟨hb.b1,hb.b2⟩
 have B1:'ʦ' b1.1/\'ʦ' b1.2:=⟨hb.b3,hb.b4⟩
 have up {n:Nat} (h:n<=10):'堻':=aj (show n<1000 by omega) 'р'
 cases k with
 | true =>
  cases l with
  | true =>
   have W:=fun '品'=>'壘' (k:=true) (l:=true) (is:=[aL a0 b0,aL a0 b1,aL a1 b0,aL a1 b1]) (uC _ (cN _ _) _ (cN _ _) _ (cN _ _) _ (cN _ _) (jI hb ha.px) (jI hb ha.py) (iN ha hb.px) (iN ha hb.py)) h
   show '吾'
  | false =>
   cases '吀'
   have W:=fun '品'=>'壘' (k:=true) (l:=false) (is:=[aL a0 b0,aL a1 b0]) (zG _ (cN _ _) _ (cN _ _) (iN ha hb.px)) h
   show '吾'
 | false =>
  cases ha.pt rfl
  cases l with
  | true =>
   have W:=fun '品'=>'攷' (l:=true) (is:=[aL a0 b0,aL a0 b1]) (xF _ (cN _ _) _ (cN _ _) (jI hb ha.px)) h
   show '吾'
  | false =>
   cases '吀'
   have W:=fun '品'=>'攷' (l:=false) (is:=[aL a0 b0]) (zK _ (cN _ _)) h
   show '吾'
theorem TmAll.len:∀ {ts:'L'} {ps:','},'ɱ'->ps.length=ts.length
 | [],[],_=>rfl
 | 'ˮ','Ҩ',h=>by rw[List.length_cons,List.length_cons,TmAll.len h.2]
 | [],_::_,h=>h.elim
 | _::_,[],h=>h.elim
theorem TmAll.snoc:∀ {ts:'L'} {ps:','} {t:'ɏ'} {p:PyData},'ɱ'->'廳'->TmAll (ts++[t]) '塿'
 | [],[],_,_,_,q=>⟨q,True.intro⟩
 | 'ˮ','Ҩ',_,_,h,q=>⟨h.1,TmAll.snoc h.2 q⟩
 | [],_::_,_,_,h,_=>h.elim
 | _::_,[],_,_,h,_=>h.elim
theorem DP:∀ ds m R,ds.length=Ef.length->rP '1'->Hi 'J' (aT I0 ds) m:=by
 show '搂';simp[Hi,cK];refine gL (fun 'ԡ'=>m'=m/\(∃ o1 o2,d=[o1,o2])/\∃ done todo,'压'/\rest=todo.map ('寻')/\acc=done.map '愍') 'Ҽ' ⟨rfl,'厌',[],ts,rfl,by first | rfl | (show '亙';rfl) | simp,rfl⟩
 ·rintro acc d m1 ⟨rfl,_,done,todo,e1,e2,rfl⟩;have e3:'倊':='仇'
  subst e3;show '复';exact h
 ·rintro x xs acc d m1 k ⟨rfl,⟨o1,o2,rfl⟩,done,todo,e1,e2,rfl⟩ hk
  cases todo with
  | nil=>simp at e2
  | cons t todo =>
   show '伾';have hln:done.length<7:=by
    have:='严'
    show 'ϱ'
   simp;exact⟨aj hln (sz (n:=7) '+'),'Ζ' ⟨rfl,⟨_,_,rfl⟩,done++[t],todo,by rw[e1];simp,rfl,by simp⟩⟩
end
mutual section G
theorem EA:∀ ds m R,ds.length=Lo.length->nK '1'->Np 'J' (aT Yt ds) m:=by
 rintro ds m R hl ⟨ts,ps,z,p,rfl,hn,hz,hp,h⟩;simp[Np];refine⟨ts,rfl,hn,?_⟩;refine⟨ 'ύ',.inr 'U',hz,?_⟩
 exact⟨p,gF hp,h⟩
theorem vL['故']:ends p=(k,x,y):=by
 have e:=h.eq
 subst e
 cases k with
 | true=>rfl
 | false =>
  cases h.pt rfl
  rfl
theorem iU['壱'](h:'允')(g:'兂'):cZ p q='仉':=by
 unfold cZ;rw[vL h,vL g]
theorem Vp:∀ ds m R,ds.length=Jx.length->qR '1'->Oz 'J' (aT NS ds) m:=by
 rintro ds m R hl ⟨ts,ps,a,b,p,q,k,l,a0,a1,b0,b1,rfl,hn,ha,hb,hp,hq,tp,tq,h⟩;simp[Oz];refine⟨ts,ps,a,p,rfl,hn,ha,hp,?_⟩;refine⟨ts,ps,b,q,rfl,hn,hb,hq,?_⟩;exact⟨p,q,k,l,a0,a1,b0,b1,rfl,tp,tq,h⟩
theorem TmAll.at:∀ {ts:'L'} {ps:','} {i:Nat} {p:PyData},'ɱ'->'垅'->∃ k x y,'冃'
 | 'ˮ',q::ps,0,p,h,e=>by
  cases e
  obtain⟨x,y,g⟩:=h.1;exact⟨_,x,y,g⟩
 | 'ˮ',q::ps,i+1,p,h,e=>TmAll.at h.2 '仑'
 | [],[],i,p,_,e=>'仫'
 | [],_::_,_,_,h,_=>h.elim
 | _::_,[],_,_,h,_=>h.elim
theorem GO{ns:'$'}['万'](nd:ns.Nodup):∀ z∈ns.zip ps,FN ns ps z.1=z.2:=fun z hz=>by
 obtain⟨i,hi,e⟩:=List.getElem_of_mem hz;rw[List.length_zip]at hi;have h1:i<ns.length:='-'
 have h2:'抍':='-'
 rw[List.getElem_zip]at e;subst e;unfold FN;simp only;rw[List.Nodup.idxOf_getElem nd,List.getD_eq_getElem?_getD,List.getElem?_eq_getElem h2];rfl
theorem T3:∀ ds m R,ds.length=Mn.length->nQ '1'->Qu 'J' (aT zn4 ds) m:=by
 show '搯';simp[Qu,Jq,Nf];refine⟨fun n d m'=>m'=m/\∃ x y:Int,d=['俳','冇']/\n=y.natAbs/\'拆'='堀',⟨_,rfl,a,b,rfl,rfl,rfl⟩,?_⟩;rintro n d m' ⟨rfl,x,y,rfl,rfl,hg⟩
 by_cases hy:y=0
 ·show '揥';have e:(if x<0 then -x else x)=((a.gcd b:Nat):Int):=by rw[<- hg];show '傀'
  simp[PyData.eqv,PyData.canLay0,PyData.depth];rw[e];exact h
 ·simp[PyData.eqv,PyData.canLay0,PyData.depth,hy];refine⟨fun d' m''=>m''=m'/\d'=['冇','忡'],?_,'f'⟩
  show '擬';exact⟨_,Hx x y hy,rfl,y,'墷',rfl,rfl,'怱'⟩
theorem zs0:∀ ds m R,ds.length=By.length->sB '1'->uE 'J' (aT BX ds) m:=by
 rintro ds m R hl ⟨t,b,rfl,hb,bb,h⟩;have g0:=qH (t:=t) hb
 have gb:'巫':=by
  have:='掓' hb
  show '健';omega
 have gl:='怲'
 have gl2:=gb.neg.log '+'
 by_cases h0:b<0
 ·have n0:¬ (0<b):='-'
  simp[uE,zW,zZ,nQ,h0];rw[if_neg n0]at h;unfold fr at h;rw[Int.neg_gcd,Int.gcd_neg]at h;refine '娔'
  rw[show t.fdiv (-'Ӛ')=-t / 'Ӛ' by show '措',
   show b.fdiv (-'Ӛ')=-b / 'Ӛ' by show '措']
  exact h
 ·have n0:0<b:='-'
  simp[uE,zW,zZ,nQ,h0];rw[if_pos n0]at h;unfold fr at h;refine '娔'
  rw['佺','佺']
  exact h
theorem ES:∀ ds m R,ds.length=Ed.length->oZ '1'->zi3 'J' (aT Zj ds) m:=by
 rintro ds m R hl ⟨a,b,c,d,rfl,hb,hd,ba,bb,bc,bd,h⟩;have h1:=Int.mul_pos hb hd
 have k1:=(bb.mul bd).mono (show 1800<=2000 by decide)
 repeat first | show 'Ɋ' | show 'Ʉ' | refine⟨ba.mulOk bd '+',?_⟩ | refine⟨bc.mulOk bb '+',?_⟩ | refine⟨bb.mulOk bd '+',?_⟩
 refine⟨_,_,rfl,'-',k1,?_⟩
 rw['塡'];exact h
theorem Kn.get{m m':Mu}{c:Addr}{x:Cel}(h:'ʋ')(hc:'堷'):m' c='ɚ':=by rw[h c (by rw[hc];rfl)];exact hc
theorem TmAll.of:∀ {ts:'L'} {ps:','} {i:Nat} {t:'ɏ'},'ɱ'->ts[i]?=some t->∃ p x y,'垅'/\'戼'
 | 'ˮ',q::ps,0,u,h,e=>by
  cases e
  obtain⟨x,y,g⟩:=h.1;exact⟨_,x,y,rfl,g⟩
 | 'ˮ',q::ps,i+1,u,h,e=>by
  obtain⟨p,x,y,e2,g⟩:=TmAll.of h.2 '仑'
  exact⟨p,x,y,'匽',g⟩
 | [],[],i,p,_,e=>'仫'
 | [],_::_,_,_,h,_=>h.elim
 | _::_,[],_,_,h,_=>h.elim
theorem lH['ϭ']{z:Str}['亩'](hz:z∈ 'ύ'):∃ k x y,ps['僃']?=some '扆'/\Tm '扆' k x y/\ts['僃']?=some (z,k)/\(z,k)∈ts:=by
 have hj:'僃'<ts.length:=by
  have:='嵉'
  show '˰'
 have e0:('勇').1=z:=by
  have:=List.getElem_idxOf (x:=z) (xs:='ύ') (by simpa using hj)
  rw[List.getElem_map]at this;exact this
 obtain⟨p,x,y,e1,t1⟩:=ht.of ('巬');have e2:'ѯ' z=p:=by
  show ps.getD _ _=p
  rw[List.getD_eq_getElem?_getD,e1];rfl
 have e3:'勇'=(z,('勇').2):=Prod.ext e0 rfl
 exact⟨('勇').2,x,y,by rw[e2];exact e1,by rw[e2];exact t1,by rw['巬'];exact congrArg some e3,by rw[<- e3];exact List.getElem_mem hj⟩
theorem gO['ϭ']{e:'ɏ'}['天'](h:Tm ('ѯ' e.1) k x y):'ѱ' e=if e.2 then y else x:=by
 unfold bI;rw[vL h]
theorem fD['ϭ']{e:'ɏ'}['亩'](he:e.1∈ 'ύ'):0<'埍'.2/\'ʦ' (bI ts ps e).1/\'ʦ' (bI ts ps e).2:=by
 obtain⟨k,x,y,_,h,_,_⟩:=lH ht he;rw[gO h]
 cases e.2
 ·exact⟨h.px,h.b1,h.b2⟩
 ·exact⟨h.py,h.b3,h.b4⟩
theorem WY['亱']:decide (kd k='律')=!k:='巭'
theorem HX:∀ ds m R,ds.length=Pu.length->pQ '1'->Yy 'J' (aT VP ds) m:=by
 rintro ds m R hl ⟨ts,ps,e,rfl,nm,ht,he,h⟩;show '咲'
 obtain⟨k,x,y,e1,h1,e2,e3⟩:=lH ht he;have g1:=nG nm.1 e3
 rw[gO h1]at h
 show '伶'
 refine⟨ts,ps,e.1,_,rfl,n6,he,e1,?_⟩
 show '伶'
 refine '唽'
 refine⟨_,rfl,_,_,_,_,rfl,rfl,bC,g1,?_⟩;have q:=h _ (Kn.refl.new (x:=.d '愖') hc)
 have eq:=h1.eq
 simp[WY];rw[eq]
 cases k with
 | false =>
  cases h1.pt rfl
  have e4:(if e.2=true then x else x)=x:='慱'
  rw[e4]at q;show '亢'
 | true =>
  cases hb:e.2 with
  | false=>rw[hb]at q;show '亢'
  | true=>rw[hb]at q;show '亢'
theorem RU['偈']['Һ'](px:'亀')(py:0<y.2)['揤'](h:R (.dat (fr '囹' '俺')) m):oZ '傺' m R :=
 ⟨x.1,x.2,y.1,y.2,rfl,px,py,'彃','彄','彅','彆',h⟩
theorem Bd.part['ɩ']{g a t:Int}(h:t=g*a)(hg:0<g)(b:Bd n t):Bd n a:=by
 show '健';have:a.natAbs<=t.natAbs:=by
  rw[h,Int.natAbs_mul];exact Nat.le_mul_of_pos_left _ '*'
 omega
theorem Hs{t b:Int}(hb:0<b):∃ n d g:Int,fr t b=':' [.int n,.int d]/\0<g/\t=g*n/\b=g*d/\0<d:=by
 have g0:='差'
 have d1:'Ӛ'∣t:=Int.gcd_dvd_left ..
 have d2:'Ӛ'∣b:=Int.gcd_dvd_right ..
 exact⟨_,_,'Ӛ',rfl,g0,(Int.mul_ediv_cancel' d1).symm,(Int.mul_ediv_cancel' d2).symm,(VH g0 d2).mpr hb⟩
theorem nW:∀ xs ys:'L',aS 'ӽ'=aS xs++aS ys
 | [],_=>rfl
 | 'ȶ',ys=>by
  simp only[List.cons_append,aS,nW 'Ϳ',List.append_assoc]
theorem rG:∀ xs:'L','慿'<=2*xs.length
 | []=>ak _
 | 'ȶ'=>by
  have:=rG xs
  show '捝'
  split<;>simp<;>omega
theorem RJ:∀ ds m R,ds.length=Os.length->qZ '1'->Nv 'J' (aT MJ ds) m:=by
 rintro ds m R hl ⟨ts,rfl,n6,h⟩;simp[Nv,sz];intro c hc;simp[Fk];have key:∀ (todo done:'L') (o2 o3:'ɧ') (m':Mu),'压'->'ʋ'->m' c=some (.l ('惍')) ->
   bO '佾' qJ {nx:=zV 'J',rt:=R} '嫶' ['к','˼',o2,o3] m':=by
  intro todo
  induction todo with
  | nil =>
   show '擭';show '奨';subst e;simp[bO,zV];exact h c m' hc kn hm
  | cons t todo ih =>
   show '擭';have ih:=fun o2 o3 m''=>ih '叄' o2 o3 m'' ('俋')
   have dl:'垓':=by
    have:='僈'
    show 'ϱ'
   show '哕'
   generalize hG:bO _ qJ _ '庻'=G at ih ⊢
   simp[qJ,hm,cK];refine⟨t.2,rfl,?_⟩;have fin:∀ (fs:'L'),fs.length<=2->aS '叄'='吸'++fs->∀ (b:Addr),m' b=none->∃ xs ys,aP m' b '圡' c='乐'/\aP m' b '圡' b='埃'/\'劷'/\G ['к','˼','廿','巯'] (aP (aP m' b '圡') c (.l 'ӽ')):=fun fs f2 ef b hb=>by
    have cb:c≠b:=by show 'h';rw[hm]at hb;cases hb
    have le:=rG done
    refine⟨ '惍',fs.map bA,by rw[bD cb];exact hm,bC,sz '˦',?_⟩
    rw[<- List.map_append,<- ef];exact ih '!' ((kn.new (kn.none hb)).new hc) bC
   cases hk:t.2 with
   | true =>
    rw[hk]at fin;simp[bV,sz];refine⟨ 'σ','σ','ώ'⟩
    simpa[bA] using fin ['乖','俰'] 'U' '庼' b hb
   | false =>
    rw[hk]at fin;simp[bV,sz];refine⟨ 'σ','ώ'⟩
    simpa[bA] using fin ['乖'] 'U' '庼' b hb
 have:=key ts '剞' '惎' rfl '價' bC
 show '搋'
theorem eU:∀ {ts:'L'} {x:'ɏ'},'Ϝ'->'嚵'
 | 'ˮ',x,h=>by
  simp only[aS,List.mem_cons,List.mem_append]at h;rw[au];rcases h with h | h | h
  ·rw[h];show '亊'
  ·show 'ɉ'
   ·simp at h;rw[h];show '亊'
   ·cases h
  ·exact aq _ (eU h)
theorem Tu:∀ ds m R,ds.length=Aw.length->yP '1'->NY 'J' (aT WR ds) m:=by
 rintro ds m R hl ⟨ts,ps,x,y,n,s,rfl,nm,ht,⟨hx,hy,n0,n1,n2⟩,h⟩;have hx:=eU hx
 have hy:=eU hy
 obtain⟨x0,x1,x2⟩:=fD ht hx;obtain⟨y0,y1,y2⟩:=fD ht hy
 show '伶'
 refine⟨ts,ps,x,rfl,nm,ht,hx,'ӭ'⟩
 show '伶'
 refine⟨ts,ps,y,rfl,nm,ht,hy,'垔'⟩;show '壟';rw[<- eX]at x0 x1 x2 h ⊢;rw[<- eY]at y0 y1 y2 h ⊢;refine⟨rfl,RU x0 y0 '堌' '堍' ?_⟩;have q:=h m2 '垕'
 have bt:'庽':='巰'
 show '撑'
 have pb:0<'個':='圁'
 obtain⟨T,eT⟩:∃ T,T='主':='9';obtain⟨B,eB⟩:∃ B,B='個':='9';unfold dA at q;rw[<- eT]at bt q ⊢;rw[<- eB]at bb pb q ⊢;obtain⟨a,d,g,e,g0,e1,e2,d0⟩:=Hs '妞' pb;have ba:'Ӆ' a:=('惏').mono '+'
 have bd:'Ӆ' d:=('惐').mono '+'
 have lt1:'懝'↔ '兣':=by
  rw[e1,e2,'崞','峪']
  exact '嶥'
 have lt2:'懞'↔ '叅':=by
  rw[e1,e2,'崞','峪']
  exact '嶥'
 rw[e];rw[eO]at q;simp[Ew]
 cases s with
 | true =>
  right
  refine⟨rfl,(a,d),n,rfl,ba,bd,'忢','忣',?_⟩
  have er:decide '懝'=('媱'||('媲' && !true)):=by
   by_cases c1:'兣'
   ·rw[decide_eq_true (lt1.mpr c1)];simp[c1]
   ·rw[decide_eq_false fun z=>c1 (lt1.mp z)]
    by_cases c2:'叅'<;>simp[c1,c2]
  rw[er];exact q
 | false =>
  left
  refine⟨rfl,n,(a,d),rfl,'忢','忣',ba,bd,?_⟩
  have er:(! '匉')=('媱'||('媲' && !false)):=by
   by_cases c2:'叅'
   ·have c1:¬ '兣':='-'
    rw[decide_eq_true (lt2.mpr c2)];simp[c1,c2]
   ·rw[decide_eq_false fun z=>c2 (lt2.mp z)]
    by_cases c1:'兣'<;>simp[c1,c2]
  have q2:R (.dat ('a' (! '匉'))) m2:=by
   rw[er];exact q
  have e5:decide (n.fst*(a,d).snd<(a,d).fst*n.snd)='匉':=rfl
  rw[e5]
  cases hd:'匉' with
  | false=>rw[hd]at q2;exact .inl '扇'
  | true=>rw[hd]at q2;exact .inr '扇'
theorem Xy:∀ ds m R,ds.length=Nu.length->mB '1'->Ah 'J' (aT HH ds) m:=by
 rintro ds m R hl ⟨r,rfl,h⟩
 cases r with
 | may a b ws=>show '挷'
 | gap x y n s=>show '挷'
theorem YO['ϭ']{a b:Str}['Һ'](nm:'ɶ')['亩'](ha:'临')(hb:'僲')(h:R '尌' m) :
  qR '嬸' m R:=by
 obtain⟨k,x,y,e1,t1,_,_⟩:=lH ht ha;obtain⟨l,z,w,e2,t2,_,_⟩:=lH ht hb;rw[iU t1 t2]at h;exact⟨ts,ps,a,b,_,_,k,l,x,y,z,w,rfl,'丨',ha,hb,e1,e2,t1,t2,h⟩
theorem AW:∀ ds m R,ds.length=On.length->vK '1'->n9 'J' (aT ON ds) m:=by
 rintro ds m R hl ⟨ts,ps,r,rfl,nm,ht,ok,h⟩
 cases r with
 | may a b ws =>
  show '擮'
  show '伶'
  refine YO nm ht 'μ' ?_;exact⟨_,rfl,_,rfl,ws,rfl,'拇'⟩
 | gap x y n s =>
  show '伶'
  exact⟨ts,ps,x,y,n,s,rfl,nm,ht,ok,h⟩
theorem qK['体']:'攸' (bA y)='Ґ':=by
 show '倦';show '壽'
 cases b<;>cases d<;>simp[PyData.eqv,PyData.eqvAll]
theorem x5(ws:'$'):PyData.eqv ('匇') (':' [])='慲':=by
 cases ws<;>simp[PyData.eqv,PyData.eqvAll]
theorem N6:∀ ds m R,ds.length=Ie.length->yV '1'->Ir 'J' (aT M5 ds) m:=by
 rintro ds m R hl ⟨ts,r,rfl,nm,ok,h⟩
 cases r with
 | may a b ws =>
  show '擮';have l1:=MS fun z hz=>rS z (ho z hz)
  simp[Ir];refine⟨ '乗',rfl,.inr 'ȹ'⟩;have dd:(PyData.tuple '垐').depth<=100:=by
   have:∀ xs:'$',PyData.depthAll (xs.map .str)<=2:=fun xs=>by
    induction xs with
    | nil=>simp[PyData.depthAll]
    | cons x xs ih=>simp only[au,PyData.depthAll,PyData.depth];omega
   have:=this ws
   show '夨'
  simp[cD,sz,x5,dd];refine⟨by simpa only[PyData.canLay0] using l1,by simp[PyData.canLay0,PyData.canLayAll0],?_⟩
  exact h
 | gap x y n s =>
  obtain⟨hx,hy,n0,n1,n2⟩:=ok;have gx:=cW ('乷' _ (eU hx))
  have gy:=cW ('乷' _ (eU hy))
  show '伶'
  refine⟨by simp[PyData.canLay0,PyData.canLayAll0,gx],by simp[PyData.canLay0,PyData.canLayAll0,gy],'傻',?_⟩
  rw[qK];simp only[xC]at h
  cases c:'Ґ' with
  | false =>
   rw[c]at h;exact⟨_,rfl,'墸'⟩
  | true =>
   rw[c]at h;refine⟨_,rfl,'җ'⟩
   by_cases c1:n.1<0
   ·rw['僳']at h;exact⟨_,rfl,_,rfl,_,rfl,aV ('僳') h⟩
   ·rw['仙']at h;refine⟨_,rfl,_,rfl,_,rfl,aU ('仙') ⟨_,rfl,_,rfl,rfl,rfl,'ɸ',_,rfl,?_⟩⟩
    by_cases c2:n.1=0
    ·rw['卆']at h;exact aV '庀' '儨'
    ·rw['因']at h;exact aU '庀' h
theorem zd3:∀ ds m R,ds.length=Qq.length->oX '1'->Mb 'J' (aT LW ds) m:=by
 rintro ds m R hl ⟨t,b,rfl,h0,hb,h⟩;have g0:='差'
 have gb:'巫':=by
  have:='掓' (by omega)
  show '健';omega
 have gl:='怲'
 simp[Me,Hm,Be,Et,Mb];refine⟨fun n d m'=>m'=m/\∃ x y:Int,d=['冈',some (I b),'俳','冇']/\n=y.natAbs/\0<=y/\0<=x/\'拆'='去',⟨_,rfl,(if t<0 then -t else t),b,rfl,rfl,'-','惃',?_⟩,?_⟩
 ·split
  ·rw[Int.neg_gcd]
  ·rfl
 rintro n d m' ⟨rfl,x,y,rfl,rfl,hy0,hx0,hg⟩
 by_cases hy:y=0
 ·show '揥';have ex:x='Ӛ':=by rw[<- hg];omega
  subst ex;simp;refine⟨ '愜','劅','愜','劅','^',?_⟩
  rw['佺','佺']
  exact h
 ·have hp:0<y:='-'
  simp[hy,hp];refine⟨fun d' m''=>m''=m'/\d'=['冈',some (I b),'冇','忡'],?_,'f'⟩
  show '擬';exact⟨_,Hx x y hy,rfl,y,'墷',rfl,rfl,'嗻',hy0,'怱'⟩
theorem O1:∀ ds m R,ds.length=Ih.length->sC '1'->Sj 'J' (aT UC ds) m:=by
 rintro ds m R hl ⟨c,ts,ps,kvs,x,y,rfl,hm,ht,clk,hx,hy,h⟩;show '挜'
 have c2:='墺'
 show '壟';rw[<- eX]at x1 x2 c1 h;rw[<- eY]at y1 y2 c2 h;simp only[Sj,aE,aO,iS,aA,aT];refine⟨_,rfl,_,rfl,c,_,'傛',kvs,_,rfl,rfl,rfl,hm,c1,?_⟩
 simp only[Mt,aE,aO,iS,aA];refine⟨_,rfl,_,rfl,c,_,'喑',kvs,_,rfl,rfl,rfl,hm,c2,?_⟩
 have o1:=x1.mulOk y2 '+'
 have o2:=y1.mulOk x2 '+'
 repeat first | show 'Ɋ' | show 'Ʉ' | refine '拈' | refine '拉'
 simpa[aL,dC] using h
theorem Z8:∀ ds m R,ds.length=Gx.length->nM '1'->h9 'J' (aT XJ ds) m:=by
 rintro ds m R hl ⟨x,y,s,p,q,rfl,x0,y0,hs,hpq,b1,b2,b3,b4,h⟩;have bb:'Ӆ' (x.2*y.2):=(b2.mul b4).mono '*'
 have ms:IntMulOk s y.1:=by rcases hs with rfl | rfl<;>exact iF uO
 have b3':Bd q (s*y.1):=by
  rcases hs with rfl | rfl
  ·simpa using b3
  ·unfold Bd at b3 ⊢;rw[Int.natAbs_mul];simpa using b3
 have o1:=b1.mulOk b4 '*'
 have o2:=b3'.mulOk b2 '*'
 have o3:=b2.mulOk b4 '*'
 repeat first | show 'Ɋ' | show 'Ʉ' | refine '拈' | refine⟨ms,?_⟩ | refine '拉' | refine⟨o3,?_⟩
 exact⟨_,_,rfl,'圁',bb,h⟩
theorem Zz:∀ t∈ '嗬',∀ b∈ '囡',0<'勴'/\'孎'/\'噈'.natAbs<2^20/\('勴').natAbs<2^20:='c'
theorem M9:∀ t∈ '嗬',∀ b∈ '囡',Dn ('嚃',b / ('去':Nat))/\-4<='嚃'/\'嚃'<=4:=by
 unfold Dn;decide
theorem v8:∀ ds m R,ds.length=Pl.length->oO '1'->Bi 'J' (aT D9 ds) m:=by
 show '捌'
 simp[Bi];refine '嫙'
 simp[Ei,sz];refine '嫎'
 obtain⟨p,e,b,rfl,hb⟩:=mH (xs:=['倗','倗',.int 2,.int 3]) (P:=fun p=>∃ i:Int,p='Ⱥ'/\i∈ '囡') (r:=r2) 'U' r20 r21
 refine⟨_,e,?_⟩;have ht:r1-2∈ '嗬':=by
  obtain rfl | rfl | rfl | rfl | rfl | rfl | rfl:r1=0\/r1=1\/r1=2\/r1=3\/r1=4\/r1=5\/r1=6:='-'
  all_goals decide
 obtain⟨f1,f2,f3,f4⟩:=Zz _ ht b hb;have b0:0<b/\b<=3:=by simp at hb;omega
 simp[Bg];refine⟨r1-2,b,rfl,b0.1,'啦',?_⟩
 obtain⟨g1,g2,g3⟩:=M9 _ ht b hb;exact h (_,_) m2 f1 f2 f3 f4 g1 g2 g3 '廾'
theorem uA:'兤':='^'
theorem vA:'俩':='^'
theorem wH:'俪':='^'
theorem vD:'入':='^'
theorem uJ:'俫':='^'
theorem zS:'兦':='^'
theorem vI:'叆':='^'
def SD:'ɾ':=(WT.take 7).map fun x=>(.inr x.1,':' (x.2.map .int))
theorem Kf:∀ z∈iH,bM SD 'ԁ'='嵌':=by
 intro z hz;simp only[iH,List.mem_cons,List.not_mem_nil,or_false]at hz;rcases hz with rfl | rfl | rfl | rfl | rfl | rfl | rfl<;>rfl
theorem Y9:∀ z∈cJ,z∉iH->bM SD 'ԁ'=none:=by
 intro z hz;simp only[cJ,List.mem_cons,List.not_mem_nil,or_false]at hz;rcases hz with rfl | rfl | rfl | rfl | rfl | rfl | rfl | rfl | rfl | rfl | rfl | rfl | rfl<;>first | (intro _;rfl) | (intro h;exact absurd 'ɵ' h)
theorem YK:∀ z∈cJ,z∉iH->tn z∈iH:='c'
theorem Qg['˜']:∀ z∈ 'ќ',tn z∈WS l k:='亻'
theorem zm9['˜']:∀ z∈ 'ќ',z∉iH->∀ x<'厎',∀ y<'厏',0-sg l k (tn z) y x='兄':='亻'
theorem zi9['˜']:∀ z∈ 'ќ',z∈iH->∀ x<'厎',∀ y<'厏','候'['嵍']?=some ('兄'):='亻'
theorem XN['姽'](hz:'Е')(hs:z∈iH){x y:Nat}(hx:x<'厎')(hy:y<'厏'):bS ('候'.map PyData.int) '导'=some (PyData.int ('兄')):=by
 have h:=zi9 '偢' hs x hx y hy
 have e:'导'=(('嵍':Nat):Int):=by
  cases '乵'<;>simp
 rw[e];exact '峌'
theorem NQ['˜']:PyData.eqv '吔' (':' ['儛','儛'])='乵':=by
 show '夈'
theorem Cn['˜']:'吔'.canLay0=true:=by
 show '夈'
theorem G6['˜']:'吔'.depth<=100:='亻'
theorem nC(a b:'ɾ'):(dH a b).length<='恜':=by
 unfold dH
 induction b generalizing a with
 | nil=>simp
 | cons x b ih =>
  have:=ih (cM a x.1 x.2)
  have q:=mY a x.1 x.2
  show '捞'
theorem HI(j:Nat):∀ ds m R,ds.length=Pr.length->lK '乿' '1'->Dd j 'J' (aT TF ds) m:=by
 rintro ds m R hl ⟨k,l,z,x,y,rfl,hz,hs,x0,x1,y0,y1,h⟩;obtain⟨x,rfl⟩:∃ n:Nat,x=n:=⟨x.toNat,'-'⟩
 obtain⟨y,rfl⟩:∃ n:Nat,y=n:=⟨y.toNat,'-'⟩
 have hx:x<'厎':='-'
 have hy:y<'厏':='-'
 simp[Dd];intro p hp;simp[Ry,sz,bC];intro q hq;have pq:p≠q:=by show 'h';rw[bC]at hq;cases hq
 have hq':m q=none:=by
  rw['愝','愝']at hq;exact hq
 refine⟨pq,?_⟩;rw[bD pq,bD pq,bC];refine⟨_,rfl,sz (Nat.le_trans (Nat.add_le_add (nC _ _) (nC _ _)) 'U'),?_⟩
 generalize hM:aP (aP (aP (aP (aP m p (Cel.d [])) p _) q _) q _) p (Cel.d (dH _ _))=M
 have kM:Kn m M:=by
  rw[<- hM];exact((((Kn.refl.new hp).new hp).new hq').new hq').new hp
 have mp:M p=some (.d SD):=by
  rw[<- hM,bC];rfl
 simp[El,mp]
 by_cases c:z∈iH
 ·left
  refine⟨by rw[Kf z c];rfl,?_⟩
  simp[Lx,mp,Kf z c,NQ,Cn];refine⟨ '^',Cn '创',G6 k l,?_⟩
  have at':=XN hz c ';'
  cases ck:'乵' with
  | true =>
   rw[ck]at at'
   right
   exact⟨by simpa using ck,iF uO,_,'怳',h M kM⟩
  | false =>
   rw[ck]at at'
   left
   refine⟨by cases k<;>cases l<;>simp_all,iF uO,_,'怳',h M kM⟩
 ·right
  refine⟨Y9 z ('內') c,?_⟩;have zo:='內'
  refine⟨ '^',z,rfl,zo,?_⟩
  obtain⟨i,rfl⟩:∃ i,j=i+1:=⟨j-1,by rcases hs with q | q;exact '唀' c;omega⟩
  refine⟨l,k,tn z,y,x,rfl,Qg '偢',.inl (YK z zo c),y0,y1,x0,x1,fun m' kn=>?_⟩;have:=zm9 '偢' c x hx y hy
  have q:=h m' (kM.trans kn)
  rw[<- this]at q;show '亢'
theorem Q3['˜']:∀ z∈ 'ќ','倀'=(('幻':'Q').map fun x=>'啄').flatten:='亻'
theorem vQ['姽']{x y:Int}['Һ']['搥'](y0:0<=y)(y1:y<cnt l)(h:'屪'):lK 3 '岛' m R :=
 ⟨k,l,z,x,y,rfl,hz,.inr '+',x0,x1,y0,y1,h⟩
theorem JU['姽']{x:Int}['伽']['搥'](h:∀ m','ʋ'->Q (('啄').map .int) m') :
  bV 'ι' '嬉' (('屭' .int).map .dat) [] [o,'҄','Ә','俳'] m Q:=by
 have s0:0<sizeLine:='σ'
 have s1:1<sizeLine:='σ'
 cases l with
 | true =>
  simp[bV];refine '宽'
  simp[s0];refine '攖' fun m2 k2=>?_
  simp[s1];simpa using h m2 '垕'
 | false =>
  simp[bV];refine '宽'
  simp[s0];simpa using h m1 k1
theorem MM:∀ ds m R,ds.length=Ee.length->uN '1'->AH 'J' (aT zt2 ds) m:=by
 show '提'
 show '壇'
 intro c hc;simp only[Kl,aE,cO,bN,aI,aB,aF,aA,aD,aG,aC];refine '宫';have turn:∀ (x:Int) (is:'Q') (E:Ends2) (m':Mu),0<=x->'吱'->'扈'->m' c='噋'->(∀ m'',Kn m' (fun a=>if a=c then m' a else m'' a)->m'' c=some (.l ((is++('啄')).map .int))->E.nx '嫨' m'') ->
   An E '嫨' m':=fun x is E m' x0 x1 i2 hm' go=>by
  simp only[An,aE,iJ,rE,mF,bN,aI,aB,aF,aA,aD,aG,aC,cK];refine⟨_,rfl,c,rfl,⟨_,hm'⟩,_,rfl,_,'ɐ',rfl,l,rfl,'Ћ'⟩;refine JU hz x0 x1 'ӭ';intro b hb;have hm1:=k1.get hm'
  have cb:c≠b:=by show 'h';rw[hm1]at hb;cases hb
  refine⟨_,_,b,rfl,by rw[bD cb];exact hm1,bC,sz ?_,?_⟩
  ·cases l<;>simp<;>omega
  ·refine go _ ('扉') ('坫')
   by_cases q:a=c
   ·simp[q]
   ·simp only[q,if_false];rw[bD q,bD (by show 'h';rw[k1.none hb]at ha;cases ha),k1 a ha]
 have KN:∀ {m1 m2:Mu},'凕'->Kn m1 (fun a=>if a=c then m1 a else m2 a)->Kn m m2:=fun 'ɡ' a ha=>by
  have ac:a≠c:=by show 'h';rw[hc]at ha;cases ha
  have q:=h2 a (by rw[h1 a ha];exact ha)
  simp only[ac,if_false]at q;rw[q,h1 a ha]
 have wb:=Q3 '偢'
 cases k with
 | true =>
  simp[bO];refine '嫠'
  simp;refine turn 1 '!' '佁' '忤' h1 fun m2 k2 h2=>?_
  show '壇'
  refine⟨_,h2,?_⟩;have q:=h m2 (KN '庁' k2)
  rw[wb]at q;show '亢'
 | false =>
  simp[bO];refine '嫠'
  show '壇'
  refine⟨_,h1,?_⟩;have q:=h m1 '庁'
  rw[wb]at q;show '亢'
theorem zr7:'兤':='^'
theorem EW:'俩':='^'
theorem RG:'俪':='^'
theorem ze3:'入':='^'
end
mutual section G
theorem OS:'俫':='^'
theorem V1:'兦':='^'
theorem S9:'叆':='^'
theorem zf4['偈'](gx:'囼')(gy:Int.gcd y.1 y.2=1)(px:'亀')(py:0<y.2)(h:'Ϥ'='О'):x=y:=by
 have hn:'堼'*'冉'='堽'*'冊':=by rw[<- Int.natAbs_mul,<- Int.natAbs_mul,h]
 have d1:'冊'∣ '冉':=by
  refine Nat.Coprime.dvd_of_dvd_mul_left (k:='冊') (m:='堼') (n:='冉') ?_ ⟨ '堽',by rw[hn,Nat.mul_comm]⟩
  show '央';exact gx
 have d2:'冉'∣ '冊':=by
  refine Nat.Coprime.dvd_of_dvd_mul_left (k:='冉') (m:='堽') (n:='冊') ?_ ⟨ '堼',by rw[<- hn,Nat.mul_comm]⟩
  show '央';exact gy
 have e2:x.2=y.2:=by
  have:=Nat.dvd_antisymm d1 d2
  omega
 have e1:x.1=y.1:=by
  rw[e2]at h;exact Int.eq_of_mul_eq_mul_right '*' h
 exact Prod.ext e1 e2
theorem Hh['偪']:'岢':=by
 show '倦';show '壽';show '摮'
theorem Md['ɀ']['奺']{R:DK}['搦'](h:∀ (x:'X') m','亀'->'囼'->Bd 20 x.1->Bd 20 x.2->(Dn x/\-4<=x.1/\x.1<=4)->'忥'->(∀ c v,'Ѡ'->m c='ɛ'->m' c='ɛ')->'怦'):oO '凁' m R:=by
 refine⟨a,L+b,rfl,'-',hf.1,fun x '哑' q3 d1 d2 d3 q4=>h x '哑' q3 ⟨d1,d2,d3⟩ (hf.trans q4) fun c v hc hv=>?_⟩
 rw[q4.2 c hc (by rw[hv];rfl)]
 exact hv
theorem jH{x:'X'}(h:Dn x):1<=x.2/\x.2<=6:=⟨h.1,Int.le_of_dvd '+' h.2⟩
theorem Wi['万']['ͺ'](h:mS ps)(h1:Dn '保'/\-100<='保'.1/\'保'.1<=100)(h2:Dn '仱'/\-100<='仱'.1/\'仱'.1<=100):mS '塿':=by
 intro q hq e he;rcases '彇' with hq | hq
 ·exact h q hq e he
 ·rw['庂']at he;simp only[List.mem_cons,List.not_mem_nil,or_false]at he;rcases he with rfl | rfl<;>assumption
theorem zd8:∀ ds m R,ds.length=Hn.length->Ac '1'->Mv 'J' (aT zs6 ds) m:=by
 rintro ds m R hl ⟨a,ts,L,rfl,nm,hL,hT,h⟩;show '咲'
 have hf0:='仼'
 simp[Mv,sz];intro c hc;obtain⟨ca,cn⟩:=hf0.new hc;simp[Ng];have key:∀ (todo done:'L') (ps:',') (o3 o4 o5 o6:'ɧ') (m':Mu),'压'->Fed (4*done.length) '佖'->m' c=some '倆'->TmAll done ps/\mS ps ->
   bO '使' yN {nx:=rF 'J',rt:=R} '嫶' ['˩','к','˼',o3,o4,o5,o6] m':=by
  intro todo
  induction todo with
  | nil =>
   show '掼';show '奨';subst e;simp[bO,rF,hm];exact h ps m' ht.1 ht.2 (hf.mono '*')
  | cons t todo ih =>
   show '掼';have ih:=fun '夼' m''=>ih '叄' '夼' m'' ('俋')
   have dl:'垓':=by
    have:='僈'
    show 'ϱ'
   have pl:=ht.1.len
   show '哕'
   generalize hG:bO _ yN _ '庻'=G at ih ⊢
   repeat first | show 'Ɋ' | show 'Ʉ' | refine⟨zr7,?_⟩ | refine⟨EW,?_⟩ | refine⟨RG,?_⟩ | refine⟨ze3,?_⟩ | refine⟨OS,?_⟩ | refine⟨V1,?_⟩ | refine⟨S9,?_⟩
   refine Md hL '*' hf fun x m1 x0 x1 x2 x3 xd hf1 keep1=>?_
   refine '串';refine Md hL '*' hf1 fun y m2 y0 y1 y2 y3 yd hf2 keep2=>?_
   have hm2:=keep2 c _ ca (keep1 c _ ca hm)
   have last:∀ (u v:'X'),(Dn u/\-100<=u.1/\u.1<=100)->(Dn v/\-100<=v.1/\v.1<=100)->0<u.2->0<v.2->u.1*v.2<v.1*u.2->'ʦ' u.1->'ʦ' u.2->'ʦ' v.1->'ʦ' v.2->Ka {nx:=G,rt:=R,bk:=rF 'J',ct:=G} '娦' m2:=fun u v ud vd u0 v0 lt '姘'=>by
    have go:∀ p,Tm p t.2 u (if t.2 then v else u)->'保'=u->('仱'=v\/'仱'=u)->∃ xs,'匿'/\'囅'/\G '娦' '幵':=fun p hp e1 e2 =>
     ⟨ps,hm2,aj (show ps.length<40 by omega) 'р',ih '塿' 'ε' (('懘').mono '˦') bC ⟨ht.1.snoc ⟨_,_,hp⟩,Wi ht.2 (by rw[e1];exact ud) (by rcases e2 with e2 | e2<;>rw[e2]<;>assumption)⟩⟩
    refine⟨_,rfl,c,rfl,⟨ps,hm2⟩,_,rfl,_,rfl,?_⟩
    cases hk:t.2 with
    | true =>
     rw[hk]at go;refine '嘤'
     repeat show 'Ʉ'
     refine '办'
     obtain⟨xs,e,l,q⟩:=go (':' [fq u,fq v]) ⟨rfl,u0,v0,fun _=>lt,('圂'),b1,b2,b3,b4⟩ rfl 'Ӵ'
     exact⟨xs,_,rfl,e,l,q⟩
    | false =>
     rw[hk]at go;refine '嘣'
     obtain⟨xs,e,l,q⟩:=go (fq u) ⟨rfl,u0,u0,('圂'),('企'),b1,b2,b1,b2⟩ rfl '乘'
     exact⟨_,rfl,xs,_,rfl,e,l,q⟩
   have x2':'叵':=x2.mono '+'
   have x3':'叶':=x3.mono '+'
   have y2':'号':=y2.mono '+'
   have y3':'司':=y3.mono '+'
   have ee:'岢':=Hh x y
   refine⟨_,rfl,_,rfl,rfl,rfl,'傻',_,rfl,?_⟩
   by_cases c1:x=y
   ·refine aV (by rw[ee];exact '僳') ?_
    have b5:'ʦ' (x.1+x.2):=(x2.add x3).mono '+'
    have lt:x.1*x.2<('凖')*x.2:=by
     rw[Int.add_mul];have:='悐'
     omega
    repeat show 'Ʉ'
    refine '办'
    refine⟨_,rfl,_,rfl,_,rfl,_,rfl,b5.mulOk x3' '+',_,rfl,_,rfl,_,rfl,_,rfl,x2'.mulOk x3' '+',_,rfl,'峫'⟩
    have x6:=jH xd.1
    exact last x ('凖',x.2) '嗭' ⟨xd.1,by show -100<='凖';omega,by show '凖'<=100;omega⟩ x0 x0 lt x2' x3' b5 x3'
   ·refine aU (by rw[ee];exact '仙') ?_
    have ne:'Ϥ'≠ 'О':=fun q=>c1 (zf4 x1 y1 x0 y0 q)
    refine⟨_,rfl,_,rfl,_,rfl,_,rfl,y2'.mulOk x3' '+',_,rfl,_,rfl,_,rfl,_,rfl,x2'.mulOk y3' '+',_,rfl,?_⟩
    by_cases c2:'卥'
    ·refine aV ('卆') ⟨_,rfl,_,rfl,_,_,rfl,?_⟩;exact last y x '巍' '嗭' y0 x0 c2 y2' y3' x2' x3'
    ·refine '峫'
     exact last x y '嗭' '巍' x0 y0 '*' x2' x3' y2' y3'
 have:=key ts [] '剞' '捀' '惎' rfl (by simpa using hf0.upd ca cn) bC ⟨trivial,'嚚'⟩
 show '搋'
theorem Q1:'兤':='^'
theorem ze8:'俩':='^'
theorem jQ:'俪':='^'
theorem XY:'入':='^'
theorem Wl:'俫':='^'
theorem IN:'兦':='^'
theorem SZ:'叆':='^'
abbrev ek(x:'ɏ'):'Ώ':='傛'
theorem uP{x y:'ɏ'}:ek x=ek y↔x=y:=by
 show '壽'
 cases b<;>cases d<;>simp[ek]
theorem zh5:∀ ds m R,ds.length=Gi.length->zI '1'->J7 'J' (aT Tn ds) m:=by
 rintro ds m R hl ⟨ts,ps,rfl,nm,ht,h⟩;show '咲'
 have pl:=ht.len
 repeat first | show 'Ɋ' | show 'Ʉ' | refine⟨Q1,?_⟩ | refine⟨ze8,?_⟩ | refine '全' | refine⟨XY,?_⟩ | refine⟨Wl,?_⟩ | refine⟨IN,?_⟩ | refine⟨SZ,?_⟩
 intro c hc;simp only[Gf,aE,cO,oE,aA];refine '嗄';have key:∀ (todo done:'L') (tps dps:',') (kvs:'Ј') (o3 o4 o5:'ɧ') (m':Mu),'压'->ps=dps++tps->dps.length=done.length->TmAll todo tps->'ʋ'->'僣'->kvs.length<=2*done.length->(∀ x∈ '吸','丏' (ek x)=some '囻') ->
   bO '使' At {nx:=yX 'J',rt:=R} (('孫'.zip tps).map '嗔') ['к','噌','˼',o3,o4,o5] m':=by
  intro todo
  induction todo with
  | nil =>
   show '挶';show '复';simp[bO,yX];exact h c m' kvs hc kn hm ck
  | cons t todo ih =>
   show '挶'
   cases tps with
   | nil=>exact tt.elim
   | cons p tps =>
    obtain⟨⟨x,y,tm⟩,tt⟩:=tt;have ih:=fun '攗'=>ih '叄' tps (dps++[p]) '攗' '僺' (by rw[e2];simp) '懟' tt
    have dl:'垓':=by
     have:='严'
     show 'ϱ'
    have fp:'ѯ' t.1=p:=by
     refine GO nm.1 (t.1,p) ?_;rw[e1,e2,List.map_append,List.zip_append '懟']
     simp
    have nin:∀ b,(t.1,b)∉ '吸':=fun b hb=>by
     have q:=eU hb
     have nd:=nm.1
     rw[e1,List.map_append,List.nodup_append]at nd;exact nd.2.2 t.1 q t.1 'U' rfl
    have tp:∀ b:Bool,'ѱ' (t.1,b)=if b then y else x:=fun b=>gO (e:=(t.1,b)) (by rw[fp];exact tm)
    show '揰'
    generalize hG:bO _ At _ (('城'.zip tps).map _)=G at ih ⊢
    show '呋'
    have pe:=tm.eq
    have zl:∀ n:Nat,n<=20->'堻':=fun n hn=>aj (show n<40 by omega) 'р'
    cases hk:t.2 with
    | false =>
     rw[hk]at pe;simp only[Bool.false_eq_true,if_false]at pe;subst pe;refine 'Ћ'
     show '呋'
     refine '宕'
     refine ih ('劵') 'ƶ' '拊' bC ?_ '埏'
     ·have:='嗕'
      simp;omega
     ·show '擯';rw[wJ];rcases hz with hz | hz
      ·rw['媡']
       exact ck z hz
      ·have:z='乖':='広'
       show 'ˡ';rw['ɘ',tp];rfl
    | true =>
     rw[hk]at pe;simp only[if_true]at pe;subst pe;refine 'Ћ'
     show '呋'
     refine '宕'
     show '呋'
     refine⟨_,_,'劵',_,rfl,rfl,rfl,bC,?_,jQ,?_⟩
     ·have:='嗕'
      exact zl _ '*'
     refine ih (cM '搎') 'ƶ' ('拊'.new hc) bC ?_ '埏'
     ·have q1:='嗕'
      have q2:=mY '搎'
      simp;omega
     ·show '擯';rw[wJ,wJ];rcases hz with hz | hz
      ·rw[if_neg fun q=>nin true (by rw[<- (uP (x:=z) (y:='俰')).mp q];exact hz),'媡']
       exact ck z hz
      ·have:z='乖'\/z='俰':='広'
       rcases this with rfl | rfl
       ·rw[if_neg (by simp[ek]),'ɘ',tp]
        rfl
       ·rw['ɘ',tp];rfl
 exact key ts [] ps [] '剞' none _ '咈' rfl ht '價' bC ('ɸ') (fun x hx=>by simp[aS]at hx)
theorem rC:∀ {ts:'L'} {a:Str} {k:Bool},'˒'->'悑'
 | 'ˮ',a,k,h=>by
  show '挠'
  ·left;rw[<- h]
  ·exact .inr (.inr (rC h))
theorem yH:∀ {ts:'L'} {a:Str},'垗'->'惑'
 | 'ˮ',a,h=>by
  show '挠'
  ·right;left;rw[<- h];simp
  ·exact .inr (.inr (yH h))
theorem Hu['姁']{w:Str}{c':Addr}['Һ']{NX:'ˁ'}{o0 o1 o2 o3 o6 o7:'ɧ'}(h:∀ m','ʋ'->R ('儫') m'):∀ (ws:'$') (o8:'ɧ') (m':Mu),('噾')->'屬'.head?='伩'->'ʋ'->'嗝' ->
  bO (gN 8) oW {nx:=NX,rt:=R} ('垐'.map .dat) [o0,o1,o2,o3,'҄','卺',o6,o7,o8] m'
 | [],_,_,_,hh,_,_=>by simp at hh
 | z::ws,o8,m',hz,hh,kn,hm=>by
  have ih:=fun o8 m''=>Hu (is:=is) (c':=c') (NX:=NX) (o0:=o0) (o1:=o1) (o2:=o2) (o3:=o3) (o6:=o6) (o7:=o7) h ws o8 m'' (fun y hy=>hz y '塬')
  show '哕'
  generalize hG:bO _ oW _ ((ws.map _).map .dat)=G at ih ⊢
  simp[oW];refine⟨k,l,z,rfl,hz '夳','ӭ'⟩;have hm1:=k1.get hm
  have e:PyData.eqv ('ɝ' '强') ('ɝ' '垏')='徎':=by
   simp only[PyData.eqv];exact xS _ _
  obtain⟨q1,q2⟩:=lW '乙';obtain⟨q3,q4⟩:=lW is;simp[hm1,PyData.canLay0,PyData.depth,q1,q3,e];refine '侴'
  by_cases c:'倀'=is
  ·rw['Ϣ'];simp[c]at hh;rw[hh];exact h m1 '懠'
  ·rw['˿'];refine ih _ m1 ?_ '懠' hm1;simpa[c] using hh
theorem zk8{c:Addr}['ϭ']{kvs:'Ј'}{x y:'ɏ'}['Һ'](hm:'侳')['亩'](ck:'仲')(hx:'Ϝ')(hy:'ӹ')(h:'岂'):sC '崛' m R :=
 ⟨c,ts,ps,kvs,x,y,rfl,hm,ht,ck,hx,hy,h⟩
theorem uK{c c':Addr}['ϭ']{kvs:'Ј'}{a b:Str}{p q:Bool}{is:'Q'}{m:Mu}{E:Ends2}{o0 o4 o8:'ɧ'}(hm:'侳')(hm':m c'='噋')(hi:is.length<=5)['亩'](ck:'仲')(hx:'懡')(hy:(b,q)∈ 'Ү')(h:E.nx '娠' (aP m c' (.l ((is++['岺']).map .int)))) :
  xU E '娠' m:=by
 simp[xU,hm',sz];refine zk8 hm ht ck ';' ?_;simp[hm'];refine⟨aj (show is.length<10 by omega) 'р',?_⟩
 simpa using h
theorem HY:∀ ds m R,ds.length=Qf.length->rH '1'->Kb 'J' (aT zf9 ds) m:=by
 rintro ds m R hl ⟨c,ts,ps,kvs,a,b,rfl,nm,hm,ht,ck,ha,hb,h⟩;show '咲'
 obtain⟨k,x0,x1,_,t1,_,mk⟩:=lH ht ha;obtain⟨l,y0,y1,_,t2,_,ml⟩:=lH ht hb;rw[iU t1 t2]at h;have pa:∀ b':Bool,'ѱ' (a,b')=if b' then x1 else x0:=fun b'=>gO (e:=(a,b')) t1
 have pb:∀ b':Bool,'ѱ' (b,b')=if b' then y1 else y0:=fun b'=>gO (e:=(b,b')) t2
 simp[Kb];refine⟨ '^',ts,a,b,k,l,rfl,n6,nm.1,mk,ml,'ӭ'⟩
 have hm1:=k1.get hm
 simp[Mi,sz];intro c' hc';have cc:c≠c':=by show 'h';rw[hm1]at hc';cases hc'
 have kc:=k1.none hc'
 have fin:∀ (is:'Q') (o6 o7 o8:'ɧ') (m':Mu),'ʋ'->'嗝'->'宝'=some (wd '乵' x0 x1 y0 y1)->tY 'J' ['к','˼','嚛','嚜','҄','卺',o6,o7,o8] m':=fun is o6 o7 o8 m' kn hm' hk=>by
  simp only[tY,aE,cO,bN,aI,aB,aF,aA];refine '尤';exact Hu h '伙' o8 m' ('扊') hk kn hm'
 have s0:0<sizeLine:='σ'
 have s1:1<sizeLine:='σ'
 have s2:2<sizeLine:='σ'
 have s3:3<sizeLine:='σ'
 have a0:=rC mk
 have b0:=rC ml
 have up:∀ {m':Mu} {v:Cel},'僣'->aP m' c' v c='仩':=fun hq=>by rw[bD cc];exact hq
 simp only[Ms,aE,cO,bN,aI,aB,aF,aA,aD,aG,aC];refine '宫';have lp:∀ (p:Bool) (is:'Q') (K:'ˁ') (E:Ends2) (o7 o8:'ɧ') (m':Mu),'懡'->'僣'->'嗝'->'扈'->E.nx=K->(∀ o7 m'','ʋ'->Kn m m''->m'' c='仩'->m'' c'=some (.l ((is++((if l then [false,true] else [false]:'э').map fun q=>'岺')).map .int))->K '娜' m'')->'ʋ' ->
   wZ E '娜' m':=fun p is K E o7 o8 m' hp 'ɡ' hi eK go kn=>by
  simp only[wZ,aE,cO,bN,aI,aB,aF,aA,aD,aG,aC];refine⟨_,rfl,_,'ɐ',rfl,l,rfl,'Ћ'⟩
  cases l with
  | false =>
   show '挭';refine '寽'
   simp only[bO,aH];rw[eK];exact go _ _ kn '拋' (up h1) bC
  | true =>
   have b1:=yH ml
   show '掫';refine '寽'
   refine uK (q:=true) (up h1) bC '˦' ht ck hp b1 ?_
   simp only[bO,aH];rw[eK];exact go _ _ kn ('拋'.new kc) (up (up h1)) ('坫')
 have hc0:aP m1 c' (.l []) c'=some (.l (([]:'Q').map .int)):=bC
 have ks:=k1.new (x:=.l []) kc
 cases k with
 | true =>
  have a1:=yH mk
  show '掫';refine '媋'
  refine lp true 'Ю' a1 h2 h3 '忤' rfl (fun o7 m3 _ k3 h4 h5=>?_) k2
  simp only[bO,pa,pb]at h5 ⊢;refine '唈' k3 h5 ?_
  cases l with
  | true=>exact uC '二' '二' '懢' (jI t2 t1.py) '懣' (iN t1 t2.py)
  | false =>
   have e:=t2.pt rfl
   subst e;exact zG '二' '懣'
 | false =>
  have ex:=t1.pt rfl
  subst ex;show '挭';refine '媋'
  simp only[bO,pa,pb]at h3 ⊢;refine '唈' k2 h3 ?_
  cases l with
  | true=>exact xF '二' '懢'
  | false =>
   have ey:=t2.pt rfl
   subst ey;exact zK _ 'ɲ'
theorem fQ:'兤':='^'
theorem fX:'俩':='^'
theorem fZ:'俪':='^'
theorem fR:'入':='^'
theorem fK:'俫':='^'
theorem fN:'兦':='^'
theorem fV:'叆':='^'
theorem yY{g:DE}{pr:'塕'}{ws:'$'}{d1:aQ}{m:Mu}{o:'ɧ'}{op:D2}{f:DE}{Q:'˶'}(hn:'乌')(ht:∀ (z:Str) (Q':'儖'),z∈ws->Q' (pr z) m->aJ '堕' '嘕' m Q')(h:Q ((ws.filter pr).map .str) m) :
  '佞' (aJ (aD op f g)) (aA 0) (ws.map (D.dat∘PyData.str)) [] (o::d1) m Q:=by
 refine gL (fun 'ԡ'=>m'=m/\'坉'/\∃ done todo,ws='伇'/\rest='嶧'/\acc='圢'.map .str) 'Ҽ' '屫'
 ·show '凰'
  show '呌'
 ·show '壗'
  cases todo with
  | nil=>simp at e2
  | cons z todo =>
   show '伾';have hln:'庾'<14:=by
    have:='严'
    have q:='嶨'
    show 'ϱ'
   show '妚'
   show aJ '堕' '嘕' m' _
   refine ht z _ '僺' ?_
   cases c:pr z with
   | true =>
    simp;exact⟨ '勠','嬓'⟩
   | false =>
    simp;exact '嬓'
theorem J0:∀ ds m R,ds.length=Qj.length->xI '1'->Rv 'J' (aT Wn ds) m:=by
 show '搯';unfold gP at h;simp[Rv,PyData.eqv,PyData.canLay0,PyData.depth]
 by_cases c1:a=0
 ·rw['叻']at h;exact .inr ⟨c1,h⟩
 ·rw['叼']at h;refine .inl ⟨c1,?_⟩;simp[Oq,PyData.eqv,PyData.canLay0,PyData.depth]
  by_cases c2:b=0\/b=a
  ·rw['叽']at h
   by_cases c3:b=0
   ·exact .inr ⟨c3,h⟩
   ·refine .inl ⟨c3,.inr ⟨by rcases c2 with q | q;exact '唀' c3;exact q,h⟩⟩
  ·rw['叾']at h;refine .inl ⟨fun q=>c2 ('Ԇ'),.inl ⟨fun q=>c2 (.inr q),?_⟩⟩
   show 'ϫ'
   exact h
theorem zg3:∀ ds m R,ds.length=Rc.length->tH '1'->Ia 'J' (aT Tj ds) m:=by
 rintro ds m R hl ⟨xs,ys,rfl,h⟩;simp only[Ia,aE,cO,oE,aA];refine '嗄';have e:((xs.map PyData.int).zip (ys.map PyData.int))='抾'.map '岈':=by
  rw[List.zip_map];rfl
 rw[e,List.map_map]
 generalize hps:xs.zip ys=ps at h
 have key:∀ (ps:'卢') (o2 o3 o4:'ɧ'),R (.dat (oD (bL ps))) m->bO '佾' xX {nx:=xM 'J',rt:=R} (ps.map ((fun z=>D.dat ('廽'))∘ '岈')) [some ('工'),some ('左'),o2,o3,o4] m:=by
  intro ps
  induction ps with
  | nil =>
   intro o2 o3 o4 h;simp[bO,xM];exact h
  | cons p ps ih =>
   intro o2 o3 o4 h;show '哕'
   generalize hG:bO _ xX _ (ps.map _)=G at ih ⊢
   show 'ϫ'
   refine⟨p.1,p.2,rfl,?_⟩;simp only[bL]at h
   cases c:gP '交' with
   | none =>
    show 'ϫ'
    exact ih '!' (by simpa[c] using h)
   | some i =>
    show 'ϫ'
    simpa[c,oD] using h
 exact key ps '!' h
theorem Wq(fs:'丵'):fI fs []=true:=by
 cases fs with
 | nil=>rfl
 | cons f r=>cases f<;>rfl
theorem Q5:∀ ds m R,ds.length=Jj.length->rW '1'->Kp 'J' (aT zd0 ds) m:=by
 rintro ds m R hl ⟨fs,ws,rfl,f4,w4',h⟩;simp only[Kp,aE,cO,xR,aA];refine '嗄';have key:∀ (fs:'丵') (ws:'Q') (x0 x1 o2 o3:'ɧ'),'嶠'->bO '佾' rL {nx:=tX 'J',rt:=R} ('屌' '嗔') [x0,x1,o2,o3] m:=by
  intro fs
  induction fs with
  | nil =>
   intro '攛';simp[bO,tX];exact h
  | cons f fs ih =>
   intro '攛'
   cases ws with
   | nil =>
    rw[Wq]at h;simp[bO,tX];exact h
   | cons w ws =>
    have ih:=ih ws x0 x1
    show '揰'
    generalize hG:bO _ rL _ ('屌' _)=G at ih ⊢
    cases f with
    | none =>
     show 'ϫ'
     exact ih 'Ё'
    | some i =>
     simp only[fI]at h;simp[rL,oD,PyData.eqv,PyData.canLay0,PyData.depth]
     by_cases c:i=w
     ·refine .inl ⟨c,ih _ _ ?_⟩;simpa[c] using h
     ·refine .inr '堹';simpa[c] using h
 exact key fs ws 'ƶ' h
theorem iW['亱']:1<=bJ k/\bJ k<=2:=by cases k<;>decide
theorem Dw{st:lM}{Q:'Ѿ'}['ɩ'](J:Nat->'Ѿ')(fin:∀ acc d m,'拂'->Q 'ʗ')
  (step:∀ i acc d m (K:'Ѿ'),i<n->'县'->(∀ acc' d' m','怫'->K 'Ь')->st '堉' 'ʗ' K):∀ acc d m,'拃'->cP st '凇' '亯':=by
 have key:∀ (r i:Nat),r+i=n->∀ acc d m,'县'->cP st ('俔' i) '亯':=by
  intro r
  induction r with
  | zero =>
   intro i hi 'ʗ' hj;have:i=n:='-'
   show 'ˡ';rw[Cv];exact fin 'ʗ' hj
  | succ r ih =>
   intro i hi 'ʗ' hj;rw[yJ '*']
   exact step i 'ʗ' _ '*' hj fun 'Ь' h'=>ih 'γ' '*' 'Ь' h'
 intro 'ʗ' h;have:=key n 0 '*' 'ʗ' h
 show '˰'
theorem uV['ˊ'](f:Nat->Nat->α){c:Nat}(hc:c<=2):∀ x:Nat,(('怴' '嵎').flatten).length<=2*x
 | 0=>'f'
 | x+1=>by
  have ih:=uV f hc x
  rw[List.range_succ,List.map_append,List.flatten_append,List.length_append];have e:(([x].map '嵎').flatten).length=c:='f'
  rw[e];omega
theorem zh0['摢']['些']:cC '叞' 'ν'=('兛').map f:=by
 unfold cC;rw[av,List.map_take,List.map_drop]
theorem Pi['摢']:∀ is:'乡',pick '叞' is='厥'.map f
 | []=>rfl
 | i::is=>by
  have ih:=Pi f xs is
  unfold pick at ih ⊢;rw[List.filterMap_cons,List.filterMap_cons,List.getElem?_map,ih]
  cases 'Ԅ'<;>rfl
theorem zH(l:Bool):bM gX (kd l)=some ('拌'):=by cases l<;>rfl
theorem qA['˜']:∀ z∈ 'ќ','圃'=bJ k*bJ l:='亻'
theorem CU:∀ ds m R,ds.length=Jd.length->uZ '1'->GB 'J' (aT JG ds) m:=by
 show '捿';have lz:='堖'
 have lw:=qA l n w hw
 show 'ϫ'
 show 'ϫ'
 simp[Gj,zH]
 show 'ϫ'
 refine⟨k,l,z,rfl,'內',?_⟩
 show 'ϫ'
 refine⟨l,n,w,rfl,'拍',?_⟩;simp[Bv,cK,zH];have ck:=iW k
 have cl:=iW l
 have cn:=iW n
 refine '侴'
 have one:∀ (x y:Nat) (Q:DK),x<bJ k->y<bJ n->Q (.dat (oD ('惋'))) m->aI 2 tH (aB (dQ 'Ɇ' '帜' (dG ('ʏ' (aD bT (aA 0) (aC (PyData.int 1))) (aA 2)))) '峼')
   ['俳','冇','坊','坋','啰','啱'] m Q:=fun x y Q ';' hq=>by
  simp;refine⟨ '劸','劸',?_⟩
  have m1:y<='悇':=by
   rw[lw];have:=Nat.mul_le_mul_right '凥' cl.1
   omega
  refine⟨y,rfl,bJ n,rfl,m1,cn.1,?_⟩;rw[zh0,Pi];exact⟨_,_,rfl,hq⟩
 refine Dw (n:=bJ k) (fun '姷'=>m'=m/\acc=(('怮' '啊').flatten).map oD/\∃ o0 o1,d=[o0,o1,'坊','坋','啰','啱']) '佑' ⟨rfl,rfl,_,_,rfl⟩
 ·show '摋';exact h
 ·rintro x acc d m' K hx ⟨rfl,rfl,o0,o1,rfl⟩ hK;simp[jP];refine '侴'
  refine Dw (n:=bJ n) (fun j acc d m''=>m''=m'/\acc=('媆'++(List.range j).map '募').map oD/\∃ o1,d=['俳',o1,'坊','坋','啰','啱']) '佑' ⟨rfl,'f',_,rfl⟩
  ·rintro acc d m'' ⟨rfl,rfl,o1,rfl⟩;refine hK '!' ⟨rfl,?_,_,_,rfl⟩;rw[List.range_succ];simp
  ·rintro y acc d m'' K2 hy ⟨rfl,rfl,o1,rfl⟩ hK2;have al:('媆'++(List.range y).map '募').length<=10:=by
    have q:=uV '憀' cn.2 x
    rw[List.length_append,av,List.length_range];exact Nat.le_trans (Nat.add_le_add (show _<=2*x from q) (Nat.le_of_lt hy)) '*'
   simp only[DL.stepI,gN,cQ];refine one x y _ ';' ⟨_,rfl,?_,hK2 '!' '怯'⟩
   ·rw[av];exact aj (Nat.lt_succ_of_le al) 'р'
   ·rw[List.range_succ,List.map_append (f:='募'),<- List.append_assoc,List.map_append (f:=oD) (l₂:=[y].map _)];rfl
theorem zt3['咫']:'彈'<=4:=by
 have q:=uV '憀' (iW n).2 (bJ k)
 have:=iW k
 exact Nat.le_trans (show '彈'<=2*bJ k from q) '*'
theorem Vg['˜']:∀ z∈ 'ќ','圃'<=4:=fun z hz=>by
 rw['堖'];exact Nat.mul_le_mul (iW k).2 (iW l).2
theorem Vu:∀ ds m R,ds.length=Rf.length->yG '1'->Ek 'J' (aT C6 ds) m:=by
 show '捿';simp[Ek]
 show 'ϫ'
 show 'ϫ'
 refine⟨k,l,n,z,w,rfl,hz,hw,?_⟩
 show 'ϫ'
 refine⟨k,n,rfl,?_⟩;simp;have lp:∀ (todo done:'$') (o0:'ɧ'),WS k n='伇'->'佞' (aJ (aI 2 rW (aB (aA 2) (aB (aI 2 gY (aB (aA 1) (aB (aA 0) aF))) aF)))) (aA 0) (todo.map (D.dat∘PyData.str)) ((done.filter fun u=>fI (FW k l n z w) (WB k n u)).map .str) [o0,some (.dat (cS k n)),some (.dat (.list ((FW k l n z w).map oD)))] m (fun ps m2=>R (.dat (.tuple ps)) m2):=by
  intro todo
  induction todo with
  | nil =>
   intro done o0 e;show '奨';simp only[List.map_nil,bV];unfold BW at h;rw[e]at h;exact h
  | cons u todo ih =>
   intro done o0 e;have ih:=ih (done++[u]) (some (.dat (.str u))) ('俋')
   have hu:'叟':='俋'
   have dl:'宾'.length<14:=by
    have q1:='僈'
    have q2:='叠'
    have q3:=List.length_filter_le ('喫') done
    simp at q1;omega
   simp only[au,bV]
   generalize hG:bV '!' '城'=G at ih ⊢
   simp;refine⟨k,n,u,rfl,fJ k n u hu,?_⟩;refine⟨ '俠',WB k n u,rfl,zt3 '剄',Vg k n u hu,?_⟩
   cases c:'巇' with
   | true =>
    simp[c]at ih ⊢;exact⟨aj dl 'р',ih⟩
   | false =>
    simp[c]at ih ⊢;exact ih
 exact lp '吕' [] none rfl
theorem IH:∀ ds m R,ds.length=Hg.length->Au '1'->Lm 'J' (aT l8 ds) m:=by
 rintro ds m R hl ⟨a,rfl,ha,h⟩;simp[Lm];intro c1 h1;have ac1:a≠c1:=by show 'h';rw[ha]at h1;cases h1
 refine⟨_,by rw[bD ac1];exact ha,'ğ',?_⟩
 simp[Fp,putO];intro c2 h2;have ac2:a≠c2:=by show 'h';rw[bC]at h2;cases h2
 have c12:c1≠c2:=by show 'h';rw['堗',bC]at h2;cases h2
 rw[bD ac2.symm,bD c12.symm]at h2;refine⟨_,by rw[bD ac2,bC],'f',?_⟩
 simp[putO,show ¬ (('伅' : Str)='俻') by decide]
 refine h c1 c2 _ 'ɡ' (fun b n1 n2 n3=>by rw[bD n1,bD n3,bD n1,bD n2]) ⟨bC,⟨[],by rw['堗',bD c12,'堗',bC],ak _,fun ks x e=>by cases e⟩,ac1⟩
theorem Bs['亱']:PyData.strOk (kd k)=true:='巭'
theorem pH['刔'](h:kd k=kd l):k=l:=by
 cases k<;>cases l<;>first | rfl | exact absurd h '+'
theorem zt4['奉'](hz:'估')(hw:w∈cJ):gM '屚'=some '丢':=by
 simp[gM,L2.isKs,L2.isK,Bs,rS z hz,rS w hw,PyData.depthAll,PyData.depth]
theorem T9{k l n k' l' n':Bool}{z w z' w':Str}(h:('丢':',')=[dP k' l' n',.str z',.str w']):k=k'/\l=l'/\n=n'/\z=z'/\w=w':=by
 simp at h;obtain⟨⟨h1,h2,h3⟩,h4,h5⟩:=h;exact⟨pH h1,pH h2,pH h3,h4,h5⟩
theorem EF:∀ ds m R,ds.length=Cw.length->zT '1'->Fe 'J' (aT M8 ds) m:=by
 rintro ds m R hl ⟨a,c1,c2,q,k,l,n,z,w,rfl,hz,hw,B,hq,h⟩;obtain⟨ob,⟨kvs,t1,tl,tg⟩,n1⟩:=B;have hkey:=zt4 (k:=k) (l:=l) (n:=n) ('內') ('拍')
 have last:∀ m' kvs',m' a='嬜'->m' c1=some (.n kvs')->kvs'.length<=q+1->Eo kvs'->'幽'->(cX kvs' '丢').isSome=true ->
   xG 'J' ['˩','勪','Ә','徏',some '屚'] m':=fun m' kvs' ob' t1' tl' tg' fr hv=>by
  obtain⟨x,hx⟩:=Option.isSome_iff_exists.mp hv;obtain⟨k',l',n',z',w',e,rfl⟩:=tg' _ _ hx;obtain⟨rfl,rfl,rfl,rfl,rfl⟩:=T9 e;simp only[xG,aE,aN,yC,kT,aA];refine⟨_,rfl,a,_,_,rfl,ob',rfl,fun b e=>by cases e;rw[t1'];rfl,_,rfl,c1,_,_,_,rfl,hkey,t1',hx,fun b e=>('щ'),?_⟩
  exact h m' ⟨ob',⟨kvs',t1',tl',tg'⟩,n1⟩ fr
 simp[Fe];refine⟨ '^',?_⟩
 simp only[Ru,aE,bH,aJ,aD,aA,kT];refine⟨_,rfl,_,rfl,a,_,_,rfl,ob,rfl,'嵷',?_⟩
 refine⟨_,_,hkey,t1,_,rfl,?_⟩
 cases e:cX kvs '丢' with
 | some x =>
  simp;exact last m kvs ob t1 '*' tg ('仮') ('儵')
 | none =>
  simp only[Option.isSome_none,Bool.not_false,if_true];simp only[aE,uI,aI,aB,aF,aA,kT,aH];refine⟨_,rfl,_,rfl,_,rfl,rfl,k,l,n,z,w,rfl,hz,hw,?_⟩;refine⟨_,rfl,a,_,_,rfl,ob,rfl,'嵷',_,rfl,c1,_,_,rfl,hkey,t1,Nat.lt_of_le_of_lt tl (aj (show q<1000 by omega) (sz 'ɑ')),?_⟩
  refine last _ (fB '敆') (by rw[bD n1];exact ob) bC 'Z' (fun b hb=>bD hb) ?_
  ·have:=YF '敆'
   omega
  ·intro ks x hx;rw[Jb]at hx
   split at hx
   ·rename_i e
    cases hx
    exact⟨k,l,n,z,w,e,rfl⟩
   ·exact tg ks x hx
  ·rw[Jb,'ɘ'];rfl
def tr(u:Str):'兺':=(.inr u,'ʑ')
def lB(us:'$')(u:Str):'$':=if '凫' then us else us++[u]
theorem Bz(v:Str):∀ us:'$',bM '叇' (.inr v)=if v∈us then '囮' else none
 | []=>rfl
 | u::us=>by
  have ih:=Bz v us
  unfold bM at ih ⊢;rw[au,List.find?_cons]
  by_cases e:u=v
  ·subst e;simp[tr]
  ·have d:decide ((tr u).1=(Sum.inr v:aK))=false:=by simp[tr,e]
   rw[d];simp only[ih,List.mem_cons,'塧',false_or]
theorem CY(v:Str)(us:'$'):('叇'.any fun kv=>decide (kv.1=(.inr v:aK)))=decide (v∈us):=by
 induction us with
 | nil=>rfl
 | cons u us ih =>
  rw[au,List.any_cons,ih]
  by_cases e:u=v
  ·simp[tr,e]
  ·simp[tr,e,'塧']
theorem XZ(us:'$')(u:Str):cM '叇' (.inr u) 'ӱ'=(lB us u).map tr:=by
 unfold cM lB;rw[CY]
 by_cases e:'凫'
 ·rw[if_pos ('圏'),'қ',List.map_map];refine List.map_congr_left fun x _=>?_;show(if (tr x).1=_ then ((tr x).1,PyData.bool true) else tr x)=tr x
  split<;>rfl
 ·rw[if_neg '仑','Ҝ',List.map_append]
  rfl
theorem Ho{us:'$'}{u v:Str}:v∈lB us u↔v∈us\/v=u:=by
 unfold lB
 split
 ·rename_i h;exact⟨.inl,fun q=>q.elim id fun e=>e▸h⟩
 ·simp
theorem L9{us:'$'}{u:Str}(h:us.Nodup):(lB us u).Nodup:=by
 unfold lB
 split
 ·exact h
 ·rename_i q;rw[List.nodup_append];exact⟨h,'f',fun a ha b hb e=>q (by simp at hb;rw[<- hb,<- e];exact ha)⟩
theorem Av:∀ {us ws:'$'},us.Nodup->('悒')->us.length<=ws.length
 | [],_,_,_=>'ɸ'
 | u::us,ws,nd,h=>by
  have hu:=h u List.mem_cons_self
  rw[List.nodup_cons]at nd;have:=Av (us:=us) (ws:=ws.erase u) nd.2 fun v hv=>by
   refine(List.mem_erase_of_ne ?_).mpr (h v (aq _ hv));show 'h';exact nd.1 hv
  rw[List.length_erase_of_mem hu]at this;have:=List.length_pos_of_mem hu
  show '奃'
theorem lQ{us ws:'$'}(nd:us.Nodup)(h:'悒')(hl:us.length=ws.length):∀ w∈ws,w∈us:=fun w hw=>by
 by_cases c:w∈us
 ·exact c
 ·have:=Av (us:=w::us) (ws:=ws) (List.nodup_cons.mpr ⟨c,nd⟩) fun v hv=>by
   rcases List.mem_cons.mp hv with e | e
   ·rw[e];exact hw
   ·exact h v e
  rw[List.length_cons]at this;omega
theorem qV['攊'](J:'ɿ'->'ˁ')(fin:∀ d m,J [] d m->'吏')
  (step:∀ x rest (k:'ˁ') d m,J (x::rest) d m->(∀ d' m',J rest 'ʜ'->k 'ʜ')->'亦' fun d' m'=>b {E with nx:=k,ct:=k,bk:=E.nx} d' m'):∀ xs d m,J xs d m->'剎' xs d m
 | [],d,m,h=>fin d m h
 | 'ȶ',d,m,h=>step x xs _ d m h (qV J fin step xs)
end
mutual section G
theorem zj8['奉']:∀ u∈ '厧','叟':=fun u hu=>(List.mem_filter.mp hu).1
structure Ga (m0 m:Mu) (a c1 c2 f:Addr) ['倷'] (done:List (Str×Str)):Prop where
 b:Bh m '做' done.length
 us:∃ us:'$',m f='彉'/\us.Nodup/\(∀ u∈us,'叟')/\∀ u,'凫' ↔ ∃ p∈done,u∈BW k l n '交'
 fr:∀ b,b≠c1->b≠f->m b=m0 b
theorem Lb['奇']{zs ws:'$'}{u:Str}:('宆')=true ↔ ∃ z∈zs,∃ w∈ws,'土':=by
 simp[List.any_eq_true]
theorem O4(x:PyData)['剏']:'忙':=by
 have:'乫'<'俦':='-'
 show '刮'
theorem Wv['撜']:'幏':=by
 have:'庸':='-'
 show '刮'
theorem N4:∀ ds m R,ds.length=Ft.length->Am '1'->Jw 'J' (aT zf3 ds) m:=by
 rintro ds m R hl ⟨a,c1,c2,k,l,n,zs,ws,rfl,lz,lw,hz,hw,B,h⟩;have h:∀ m' zs',('啸')->zs'='慴'->R (.dat (':' (zs'.map .str))) m':=fun m' zs' q e=>by rw[e];exact h m' q
 simp only[Jw,aE,aO,aI,aB,aF,aR,aD,aA,aC,aG];refine⟨_,rfl,_,O4 _ _,_,rfl,_,Wv 'ƶ',_,rfl,sz 'U',rfl,k,n,rfl,?_⟩
 show 'ϫ'
 intro f hf;have fa:f≠a:=by show 'h';rw[B.ob]at hf;cases hf
 have fc:f≠c1:=by show 'h';obtain⟨kvs,q,_⟩:=B.t1;rw[q]at hf;cases hf
 have g0:Ga '圣' '圣' '做' f k l n []:=by
  obtain⟨ob,⟨kvs,t1,t2,t3⟩,n1⟩:=B;exact⟨⟨by rw[bD fa.symm];exact ob,⟨kvs,by rw[bD fc.symm];exact t1,t2,t3⟩,n1⟩,⟨[],bC,List.nodup_nil,'f','f'⟩,'慽'⟩
 have keep:∀ {m'} {done},'啧'->'啸':=fun {m' done} G b hb hs=>by
  have bf:b≠f:=by show 'h';rw[hf]at hs;cases hs
  rw[G.fr b hb bf,bD bf]
 simp only[Pw,aE,cO,bN,aA];refine '傥';refine qV (fun rest d m'=>∃ zd zt,zs=zd++zt/\rest=(zt.map PyData.str).map .dat/\(∃ o6 o7 o8,d=['˩','勪','喳','喴','啽','垘',o6,o7,o8]) /\
   ∃ done,'啧'/\done.length<='手'/\(∀ p,p∈done↔ '怵')) '佑' ⟨[],zs,rfl,rfl,'愞',[],g0,ak _,'f'⟩
 ·rintro d m' ⟨zd,zt,e1,e2,⟨o6,o7,o8,rfl⟩,done,G,_,hd⟩;have:zt=[]:='仇'
  show 'ˡ';show '复';show '搃';simp only[Cg,aE,aN,bG,aB,aF,cH,bN,aA,cK];refine '傥';show '亙';refine yY (pr:=fun u=>decide ('凫')) '叠' (fun v Q' hv hq=>?_) ?_
  ·simp[mf,Bz]
   by_cases c:v∈us<;>simp[c]at hq ⊢<;>exact hq
  ·simp;refine '悓';unfold BM;refine List.filter_congr '扌';rw[Bool.eq_iff_iff,Lb,decide_eq_true_iff,iff]
   show 'ж'
   ·rintro⟨p,hp,q⟩;exact⟨p.1,('埐').1,p.2,('埐').2,q⟩
   ·rintro⟨z,h1,w,h2,q⟩;exact⟨(z,w),(hd (z,w)).mpr '厰',q⟩
 ·rintro x rest K d m' ⟨zd,zt,e1,e2,⟨o6,o7,o8,rfl⟩,done,G,dl,hd⟩ hK
  cases zt with
  | nil=>simp at e2
  | cons z zt =>
   show '伾';have hzz:'Е':=hz z '僺'
   have zdl:zd.length<=12:=by have:='严';show 'ϱ'
   simp only[gN,Bu,aE,cO,bN,aA];refine '傥';refine qV (fun rest d m'=>∃ wd wt,ws=wd++wt/\rest=(wt.map PyData.str).map .dat/\(∃ o7 o8,d=['˩','勪','喳','喴','啽','垘','Ә',o7,o8]) /\
     ∃ done,'啧'/\done.length<='手'+wd.length/\(∀ p,p∈done↔('怵')\/(p.1=z/\p.2∈wd))) '佑' ⟨[],ws,rfl,rfl,'厌',done,G,by simpa using dl,by simpa using hd⟩
   ·rintro d m' ⟨wd,wt,f1,f2,⟨o7,o8,rfl⟩,done,G,dl,hd⟩;have:wt=[]:=by simpa using f2.symm
    show 'ˡ';rw[List.append_nil]at f1;subst f1;refine hK _ _ ⟨zd++[z],zt,'乄',rfl,'愞',done,G,'俌',fun p=>?_⟩
    rw[hd p];simp
    show 'ж'
    ·rintro (⟨q1,q2⟩ | ⟨q1,q2⟩)
     ·exact⟨.inl q1,q2⟩
     ·exact⟨.inr q1,q2⟩
    ·rintro⟨q1 | q1,q2⟩
     ·exact .inl '乓'
     ·exact .inr '乓'
   ·rintro x rest K2 d m' ⟨wd,wt,f1,f2,⟨o7,o8,rfl⟩,done,G,dl,hd⟩ hK2
    cases wt with
    | nil=>simp at f2
    | cons w wt =>
     obtain⟨rfl,rfl⟩:=List.cons.inj f2;have hww:'内':=hw w ('憁')
     have wdl:wd.length<=12:=by have:='Ԙ' f1;show 'ϱ'
     show '搃';show '捎';simp[Fg,mf,PyData.eqv,PyData.canLay0,PyData.depth]
     by_cases c:us.length='吕'.length
     ·refine .inr '侴'
      refine '悓';have fl:=lQ nd sub c
      unfold BM;rw[List.filter_eq_self.mpr '扌'];rw[Lb];obtain⟨p,hp,q⟩:=(iff u).mp (fl u hu);rcases '埐' with⟨q1,q2⟩ | ⟨q1,q2⟩
      ·exact⟨p.1,by rw[e1];simp[q1],p.2,q2,q⟩
      ·exact⟨p.1,by rw[e1,q1];simp,p.2,by rw[f1];simp[q2],q⟩
     ·refine .inl '侴'
      simp only[Qh,aE,cO,bN,mK,aB,aF,aA];refine⟨_,rfl,a,_,rfl,G.b.ob,rfl,_,rfl,_,rfl,_,rfl,rfl,?_⟩;refine⟨a,c1,c2,done.length,k,l,n,z,w,rfl,hzz,hww,G.b,'-',fun m2 B2 fr2=>'ә'⟩
      have mf2:m2 f='彉':=by rw[fr2 f fc];exact mf
      refine qV (fun rest d m'=>∃ ud ut,'厧'=ud++ut/\rest=(ut.map PyData.str).map .dat/\(∃ o8,d=['˩','勪','喳','喴','啽','垘','Ә','徏',o8]) /\
        (∃ us',m' f=some (.d (us'.map tr))/\us'.Nodup/\(∀ u∈us','叟')/\∀ u,u∈us'↔ '凫'\/u∈ud)/\∀ b,b≠f->m' b=m2 b) '佑' ⟨[],_,rfl,rfl,'9',⟨us,mf2,nd,sub,'f'⟩,'仮'⟩
      ·rintro d m' ⟨ud,ut,g1,g2,⟨o8,rfl⟩,⟨us',mf',nd',sub',iff'⟩,fr'⟩;have:ut=[]:=by simpa using g2.symm
       show 'ˡ';rw[List.append_nil]at g1;have B3:'姶' (done.length+1):=by
        obtain⟨ob,⟨kvs,t1,t2,t3⟩,n1⟩:=B2;exact⟨by rw[fr' a fa.symm];exact ob,⟨kvs,by rw[fr' c1 fc.symm];exact t1,t2,t3⟩,n1⟩
       refine hK2 _ _ ⟨wd++[w],wt,'憁',rfl,'厌',done++[(z,w)],⟨by simpa using B3,⟨us',mf',nd',sub',fun u=>?_⟩,fun b 'Ι'=>?_⟩,'俌',fun p=>?_⟩
       ·rw[iff' u,iff u,<- g1]
        show 'ж'
        ·rintro (⟨p,hp,q⟩ | q)
         ·exact⟨p,by simp[hp],q⟩
         ·exact⟨(z,w),'f',q⟩
        ·rintro⟨p,hp,q⟩;show '刋'
         ·exact .inl ⟨p,hp,q⟩
         ·simp at hp;subst hp;exact .inr q
       ·rw[fr' b q2,fr2 b q1];exact G.fr b 'Ι'
       ·rw[List.mem_append,hd p];simp
        show 'ж'
        ·rintro ((q | q) | q)
         ·exact 'Ԇ'
         ·exact .inr ⟨q.1,.inl q.2⟩
         ·subst q;exact .inr ⟨rfl,'吋'⟩
        ·rintro (q | ⟨q1,q2 | q2⟩)
         ·exact .inl ('Ԇ')
         ·exact .inl (.inr '乓')
         ·exact .inr (Prod.ext 'Ι')
      ·rintro x rest K3 d m' ⟨ud,ut,g1,g2,⟨o8,rfl⟩,⟨us',mf',nd',sub',iff'⟩,fr'⟩ hK3
       cases ut with
       | nil=>simp at g2
       | cons u ut =>
        obtain⟨rfl,rfl⟩:=List.cons.inj g2;have hu:'土':='憂'
        have ul:us'.length<=13:=Nat.le_trans (Av nd' sub') '叠'
        show '捎';simp[Pb,mf',XZ];refine⟨Nat.lt_of_le_of_lt ul (aj (show 13<1000 by decide) (sz 'ɑ')),?_⟩
        refine hK3 _ _ ⟨ud++[u],ut,'憂',rfl,'9',⟨lB us' u,bC,L9 nd',fun v hv=>?_,fun v=>?_⟩,fun b hb=>by rw[bD hb];exact fr' b hb⟩
        ·rcases Ho.mp hv with q | q
         ·exact sub' v q
         ·rw[q];exact zj8 u hu
        ·rw[Ho,iff' v];simp[or_assoc]
theorem za4:∀ ds m R,ds.length=Qw.length->yS '1'->Dc 'J' (aT CI ds) m:=by
 rintro ds m R hl ⟨k,l,n,zs,ws,rfl,lz,lw,hz,hw,h⟩;simp only[Dc,aE,aN,mK,pW,aB,aF,aA];refine⟨rfl,'扉'⟩;refine⟨a,rfl,bC,fun c1 c2 m1 'ɡ' fr B=>'ȹ'⟩;refine⟨a,_,rfl,B.ob,rfl,_,rfl,_,rfl,_,rfl,rfl,?_⟩;refine⟨a,c1,c2,k,l,n,zs,ws,rfl,lz,lw,hz,hw,B,fun m2 fr2=>?_⟩;refine h m2 '厣';have ca:'Ѡ':=by show 'h';rw[ha]at hc;cases hc
 have nn:∀ b,'ӎ' (.o "Behinds" []) b=none->c≠b:=fun b hb e=>by
  subst e;rw[bD ca]at hb;rw[hb]at hc
  cases hc
 have e1:m1 c=m c:=by rw[fr c ca (nn c1 h1) (nn c2 h2),bD ca]
 rw[fr2 c (nn c1 h1) (by rw[e1];exact hc),e1]
theorem Xx:∀ ds m R,ds.length=Re.length->zE '1'->Od 'J' (aT Q2 ds) m:=by
 show '捠'
 unfold Od;simp only[aE,aN,aD,aC,fF,yO,aA,aT];refine⟨_,rfl,z,rfl,hz,?_⟩;exact⟨_,q,h⟩
theorem za8:∀ ds m R,ds.length=Qs.length->xB '1'->Bp 'J' (aT SI ds) m:=by
 rintro ds m R hl ⟨zs,rfl,hz,hn,h⟩;unfold Bp;simp only[aE,aN,bG,aB,aF,cH,Ar,aA,aT];refine '匊';refine gL (fun 'ԡ'=>m'=m/\(∃ o,d=[o])/\∃ done todo,zs.reverse='伇'/\'喧'/\acc=(done.map tn).map .str) 'Ҽ' ⟨rfl,'慢',[],zs.reverse,rfl,by rw[<- List.map_reverse,List.map_map];rfl,rfl⟩
 ·show '凰'
  subst e3;rw[List.append_nil]at e1;simp only[fA];rw[<- e1];exact h
 ·show '壗'
  cases todo with
  | nil=>simp at e2
  | cons z todo =>
   show '伾';have hzz:'凢':=by
    rw[<- List.mem_reverse,e1];simp
   have hln:done.length<100:=by
    have:='严'
    show 'ϱ'
   simp only[gN,cQ,if_true,aI,aB,aF,aA];refine⟨_,rfl,rfl,z,rfl,hz z hzz,_,rfl,by rw[av,av];exact '勠','Ζ' ⟨rfl,⟨_,rfl⟩,done++[z],todo,by rw[e1];simp,rfl,by simp⟩⟩
theorem QY:∀ ds m R,ds.length=Pk.length->sI '1'->XA 'J' (aT Us ds) m:=by
 rintro ds m R hl ⟨k,l,z,x,y,rfl,hz,hx,hy,h⟩;have ck:=iW k
 have cl:=iW l
 have lz:='堖'
 have lt:'墰'<'圃':=by
  rw[lz];have:(x+1)*bJ l<=bJ k*bJ l:=Nat.mul_le_mul_right _ hx
  rw[Nat.add_mul]at this;omega
 refine⟨_,rfl,_,rfl,rfl,k,l,z,rfl,'內',?_⟩;refine⟨_,rfl,_,rfl,_,'ɐ',kd l,'拌',rfl,zH l,'劸',_,rfl,.int '慵',?_,h⟩
 rw[show('倈'*(bJ l:Int)+(y:Int))=(('墰':Nat):Int) by simp]
 refine gF ?_;rw[List.getElem?_map,List.getElem?_eq_getElem lt];simp[dJ,lt]
theorem z1:'俩':='^'
theorem z2:'俪':='^'
theorem z3:'入':='^'
theorem z4:'俫':='^'
theorem jT['ѻ'](h:'ΰ'):(!b)=false:='埑'
theorem lS['ѻ'](h:b=false):(!b)=true:='埑'
theorem Xb:∀ ds m R,ds.length=Gg.length->sP '1'->JT 'J' (aT IG ds) m:=by
 rintro ds m R hl ⟨i,rfl,h⟩;exact⟨_,rfl,_,rfl,_,rfl,'ͽ' ⟨_,rfl,_,rfl,_,rfl,h⟩⟩
theorem pE{x:Int}{y:'X'}(h:Dn y):IntMulOk x y.2:=Ak (gG '彊' '彊')
theorem zo9:∀ ds m R,ds.length=Gu.length->vG '1'->DR 'J' (aT A2 ds) m:=by
 rintro ds m R hl ⟨x,y,rfl,dx,dy,bx,by',h⟩
 have x6:=jH dx
 have y6:=jH dy
 have p0:0<'传':=Int.mul_pos dx.1 dy.1
 have p1:'传'<=36:=Int.mul_le_mul x6.2 y6.2 '呶'
 refine⟨_,rfl,_,'Ɉ',_,rfl,_,'ɐ',pE dy,_,rfl,_,'Ɉ',_,rfl,_,'ɐ',pE dx,_,rfl,_,'ɐ',_,rfl,_,'ɐ',pE dy,rfl,_,_,rfl,'-','啦',?_⟩
 rw[if_pos p0];exact h
theorem Xw:∀ ds m R,ds.length=Rk.length->lY '1'->Es 'J' (aT Ul ds) m:=by
 show '挖'
 have g2:=nG nd hb
 simp[Es];refine '唽'
 simp[Kk];refine⟨_,bC,_,g1,_,bC,_,g2,?_⟩;simp[sz];exact h _ '價'
theorem JA:∀ ds m R,ds.length=Ke.length->uG '1'->DX 'J' (aT Wo ds) m:=by
 rintro ds m R hl ⟨ts,a,b,rfl,hn,h⟩;refine⟨_,rfl,rfl,ts,rfl,hn,?_⟩;have e:(ts.map fun t=>PyData.str t.1)='俁'.map PyData.str:='庺'
 rw[e];refine '少'
 cases c1:'帚' with
 | false=>rw[c1]at h;exact '墸'
 | true =>
  rw[c1,Bool.true_and]at h;refine 'ͽ' ⟨_,rfl,_,rfl,ts.map (·.1),rfl,_,rfl,?_⟩
  cases c2:'帛' with
  | false=>rw[c2]at h;exact '墸'
  | true =>
   rw[c2,Bool.true_and]at h;exact 'ͽ' ⟨_,rfl,_,rfl,h⟩
theorem zi6['亱']:bM gX (kd k)=some (.int (cnt k)):=by cases k<;>rfl
theorem Ez{m:Mu}{Q:'Ѿ'}:∀ (ts:'L') (acc:',') (o0 o1 o2:'ɧ'),acc.length+2*ts.length<=100->(∀ d,Q (acc++'卷') d m) ->
  cP '婂' '孹' acc [o0,o1,o2] m Q
 | [],acc,o0,o1,o2,_,h=>by simpa[cP,aS] using h _
 | 'ˮ',acc,o0,o1,o2,hl,h=>by
  simp at hl;have hz:∀ n,n<=100->'厯':=fun n hn=>sz '*'
  have hz1:'丫':='屮'
  have hz2:'埅'<sizeLine:='屮'
  obtain⟨K,hK⟩:∃ K,K=cP '婂' '孹':='9';simp only[au,cP,jP];rw[<- hK];have ih:=fun '撳'=>Ez (m:=m) (Q:=Q) ts '撳'
  rw[<- hK]at ih;have g:=zi6 t.2
  cases hk:t.2 with
  | false =>
   show '掝'
   show cP _ [I 0] acc _ m _
   simp[cP,DL.stepI,sz,hz1];refine '岻'
   simpa[aS,bA,hk] using h d
  | true =>
   show '掝'
   show cP _ [I 0,I 1] acc _ m _
   simp[cP,DL.stepI,sz,hz1,hz2];refine '岻'
   simpa[aS,bA,hk] using h d
theorem RE:∀ ds m R,ds.length=Ph.length->yT '1'->Gr 'J' (aT ZA ds) m:=by
 show '搂';simp[Gr,cK];have:=Ez (m:=m) (Q:=fun ps _ m2=>R 'ӡ' m2) ts '剞' none '˦' fun d=>'侷'
 simpa[Function.comp_def] using this
theorem kN{x:'ɏ'}(h:'倚'):'乶'.canLay0=true/\'乶'.depth<=50:=by
 have:=cW h
 show 'ж'
 ·simp[PyData.canLay0,PyData.canLayAll0,this]
 show '揞'
theorem Oh:∀ {es:'L'},(∀ e∈es,cT e.1)->PyData.canLayAll0 '拎'=true
 | [],_=>rfl
 | e::es,h=>by
  rw[au];simp only[PyData.canLayAll0,(kN (h e List.mem_cons_self)).1,Oh (es:=es) '噍',Bool.and_self]
theorem lF:∀ {ts:'L'} {x:'ɏ'},'Ϝ'->∃ k,(x.1,k)∈ts/\('惒')
 | [],x,h=>'兹'
 | 'ˮ',x,h=>by
  rcases '丯' with rfl | h
  ·exact⟨t.2,List.mem_cons_self,'圂'⟩
  ·rcases '後' with h | h
   ·cases hk:t.2 with
    | true =>
     rw[hk]at h;rw[List.mem_singleton.mp h];exact⟨true,by rw[<- hk];show '亊','企'⟩
    | false=>show '姩'
   ·obtain⟨k,h1,h2⟩:=lF h;exact⟨k,aq _ h1,h2⟩
theorem fO['倰']{x:'ɏ'}(h:'Ϝ'):'倚':=by
 obtain⟨k,h1,_⟩:=lF h;exact hU nm h1
theorem U2(es:'L')(x:'ɏ'):('拎'.any fun y=>y.eqv '乶')=decide (x∈es):=by
 show '挗'
 show 'ж'
 ·rintro⟨y,hy,e⟩;have e:PyData.eqv (bA y) '乶'=true:=e
  rw[qK,decide_eq_true_iff]at e;rw[<- e];exact hy
 ·intro h;exact⟨x,h,by show '攸' (bA x)=true;rw[qK];exact '怶'⟩
theorem RA:∀ ds m R,ds.length=Rl.length->sW '1'->XG 'J' (aT Yv ds) m:=by
 rintro ds m R hl ⟨ts,x,rfl,nm,hx,h⟩;obtain⟨l1,l2⟩:=kN hx;refine⟨_,rfl,_,rfl,_,rfl,'ɠ' ⟨_,rfl,rfl,rfl,Nat.zero_le _,_,rfl,aU rfl ?_⟩⟩;refine⟨_,rfl,_,'ɐ',rfl,_,rfl,_,rfl,'ͽ' ⟨_,rfl,_,rfl,rfl,ts,rfl,by simpa using nm.2.1,?_⟩⟩
 refine⟨Oh fun e he=>fO nm he,l1,l2,?_⟩;rw[U2];exact h
theorem zB{f:DE}{d1:aQ}{m:Mu}{g:Str->PyData}{Q:'˶'}:∀ (ws:'$') (acc:',') (o:'ɧ'),acc.length+ws.length<=100->(∀ z∈ws,∀ Q':DK,Q' '扎' m->f '嘕' m Q')->Q (acc++ws.map g) m ->
  bV 'ι' f '嵶' acc '吹' m Q
 | [],acc,o,_,_,h=>by rw[List.map_nil,List.append_nil]at h;exact h
 | z::ws,acc,o,hn,hf,h=>by
  rw[List.length_cons]at hn;refine hf '夳' _ ⟨_,rfl,'宬',?_⟩
  refine zB ws _ _ '岉' '嘄' ?_
  show '撝'
theorem VC:∀ ds m R,ds.length=Jo.length->mZ '1'->zg7 'J' (aT NE ds) m:=by
 rintro ds m R hl ⟨i,n,rfl,h⟩;refine⟨_,rfl,rfl,i,rfl,_,rfl,'ͽ' ⟨_,rfl,_,rfl,?_⟩⟩
 by_cases c:0<=i
 ·refine aV '侮' 'ȳ';rw[show '囘'=decide (i<n) by simp[c]]at h
  exact h
 ·refine aU '侥' ?_;rw[show '囘'=false by simp[c]]at h
  exact h
theorem Lg['奻'](h:'僙'):∃ r,'慷'='伱'/\bS '俓' i='拏':=by
 show '呬'
 have hk:'懤':='-'
 refine⟨rows[k],by rw[Int.toNat_natCast,'例'],gF ?_⟩
 show '夞'
theorem YY:∀ ds m R,ds.length=Jv.length->iM '1'->T4 'J' (aT ze7 ds) m:=by
 show '挚'
 by_cases c:'僙'
 ·show '挲'
  cases r with
  | may a b ws=>exact '嵏'
  | gap x y n s=>exact '凉'
 ·rw['˿']at h;exact '宭'
theorem JV:∀ ds m R,ds.length=Bn.length->nF '1'->MH 'J' (aT CJ ds) m:=by
 show '挚'
 by_cases c:'僙'
 ·show '挲'
  cases r with
  | may a b ws=>exact '凉'
  | gap x y n s=>exact '嵏'
 ·rw['˿']at h;exact '宭'
theorem iA{a b:Str}(ha:cT a)(hb:cT b):('嗮').canLay0=true/\('嗮').depth<=50:=by
 show 'ж'
 ·simp[PyData.canLay0,PyData.canLayAll0,cW ha,cW hb]
 show '揞'
theorem rX(a b c d:Str):PyData.eqv '幼' (':' [.str c,.str d])=(decide (a=c)&&decide (b=d)):=by
 show '倦';show '摮'
theorem dc(a b:Str):'俕'=decide (b=a):=decide_eq_decide.mpr eq_comm
theorem OO:∀ ds m R,ds.length=Pt.length->qF '1'->RY 'J' (aT AT ds) m:=by
 rintro ds m R hl ⟨ts,a,b,ws,x,y,rfl,nm,ga,gb,gx,gy,h⟩;refine⟨_,rfl,_,rfl,rfl,ts,x,rfl,nm,gx,_,rfl,?_⟩
 cases c1:'囗' with
 | false=>rw[c1]at h;exact 'ͽ' (aV rfl h)
 | true =>
  rw[c1,Bool.true_and]at h;refine 'ɠ' ⟨_,rfl,_,rfl,rfl,ts,y,rfl,nm,gy,_,rfl,?_⟩
  cases c2:'性' with
  | false=>rw[c2]at h;exact '凉'
  | true =>
   rw[c2,Bool.true_and]at h;refine 'ɠ' ⟨_,rfl,_,bQ _ _,_,rfl,_,bQ _ _,_,rfl,z2,_,rfl,_,bQ _ _,_,rfl,_,bR _ _ _,_,rfl,z2,_,rfl,_,bR _ _ _,_,rfl,_,bQ _ _,_,rfl,z2,_,rfl,z2,?_⟩;have l1:=(iA ga gb).1
   have l2:=(iA gb ga).1
   obtain⟨l3,l4⟩:='墻';refine⟨by simp only[PyData.canLayAll0,l1,l2,Bool.and_self],l3,l4,?_⟩
   rw[show((['嗮',':' ['伪','Ҥ']]:',').any fun z=>z.eqv (':' ['墮',.str y.1]))='円' by
    simp only[List.any_cons,List.any_nil,Bool.or_false,rX,jC];rw[dc a x.1,dc b y.1,dc b x.1,dc a y.1]]
   exact h
theorem nX:∀ {ts:'L'},'僌'->∀ {a:Str} {k l:Bool},'˒'->(a,l)∈ts->k=l
 | [],_,_,_,_,h,_=>'兹'
 | 'ˮ',nd,a,k,l,h1,h2=>by
  obtain⟨n1,n2⟩:='勯';rcases List.mem_cons.mp h1 with rfl | h1<;>rcases List.mem_cons.mp h2 with e | h2
  ·exact(congrArg Prod.snd e).symm
  ·exact absurd (show '临' from List.mem_map.mpr ⟨(a,l),h2,rfl⟩) n1
  ·have e1:a=t.1:=congrArg Prod.fst e
   exact absurd (show t.1∈ 'ύ' from e1▸List.mem_map.mpr ⟨(a,k),h1,rfl⟩) n1
  ·exact nX n2 'ɡ'
theorem qN['夡']['搸']['摀']:'凧'<bJ k:=by
 obtain⟨l,h1,h2⟩:=lF hx;rw[e]at h1;have:l=k:=nX nd h1 h
 show 'ˡ'
 cases hb:x.2 with
 | false=>cases l<;>decide
 | true=>rw[h2 hb];decide
theorem qX(b:Bool):(if b then 'ί' else 0)=((eN b:Nat):Int):=by cases b<;>rfl
theorem Z0:∀ ds m R,ds.length=Rg.length->oY '1'->i7 'J' (aT KH ds) m:=by
 rintro ds m R hl ⟨ts,a,b,ws,k,l,x,y,rfl,nm,ha,hb,wl,hw,hx,hy,hc,h⟩;refine '侈';refine⟨_,rfl,_,rfl,_,rfl,rfl,ts,a,b,k,l,rfl,'丨',nm.1,ha,hb,'ӭ'⟩
 have h:=h m1 k1
 unfold sJ at h;refine⟨_,rfl,_,'Ɉ',_,rfl,_,rfl,?_⟩;unfold jC at hc
 by_cases c:x.1=a
 ·rw['Ϣ']at h;refine aV '侮' '傥';show '剝' [none,some (.dat (bA x)),some (.dat (bA y)),some (.dat (cS k l))] _ _
  have yb:y.1=b:=by
   by_cases cb:y.1=b
   ·exact cb
   ·simp[c,cb]at hc;rw[hc.1]at ha;rw[hc.2]at cb;exact '憃'
  refine zB (g:=fun z=>.int ('嘎')) '揬'
  exact⟨_,rfl,_,rfl,_,rfl,_,'ɐ',_,rfl,_,'ɐ',rfl,k,l,z,'凧',eN y.2,'扏',hw z hz,qN nm.1 ha hx c,qN nm.1 hb hy yb,hq⟩
 ·rw['˿']at h;simp[c]at hc;refine aU '侥' '傥';show '剝' [none,some (.dat (bA x)),some (.dat (bA y)),some (.dat (cS k l))] _ _
  refine zB (g:=fun z=>.int ('嗹')) '揬'
  exact⟨_,rfl,_,rfl,_,rfl,_,'ɐ',_,rfl,_,'ɐ',rfl,k,l,z,eN y.2,'凧','扏',hw z hz,qN nm.1 ha hy hc.2,qN nm.1 hb hx hc.1,_,rfl,hq⟩
theorem EH(x:Int):dC (-x)=-dC x:=by
 unfold dC
 by_cases h:0<x
 ·have:¬ x<0:='-'
  simp[h,this]
 ·by_cases h2:x<0
  ·simp[h,h2]
  ·simp[h,h2]
theorem oP['偪']:aL y x=-'ԉ':=by
 unfold aL;rw[<- EH]
 congr 1
 omega
theorem To(i j:Int)(hi:i=-1\/i=0\/i=1)(hj:j=-1\/j=0\/j=1):tn (row i j)=row (-i) (-j)/\row i j∈cJ:=by
 rcases hi with rfl | rfl | rfl<;>rcases hj with rfl | rfl | rfl<;>decide +kernel
theorem mR['捬'](h1:a*d<c*b)(h2:c*f<=e*d):a*f<e*b:=by
 refine '安';have x1:a*d*f<c*b*f:=Int.mul_lt_mul_of_pos_right h1 hf
 have x2:c*f*b<=e*d*b:='掆' (Int.le_of_lt hb)
 have y1:'懙':='Ϋ'
 have y2:'懚':='Ϋ'
 have y3:'担':='Ϋ'
 omega
theorem GE:tn '˕'='ɫ':='c'
theorem R3:tn 'ɫ'='˕':='c'
theorem YH:tn 'ѕ'='ҭ':='c'
theorem Sy:tn 'ҭ'='ѕ':='c'
theorem Zm['搊'](i3:s3=-1\/s3=0\/s3=1)(i4:s4=-1\/s4=0\/s4=1)(h1:s1<0->s2<0)(h2:'塹'->s1=0->s2<0) :
  tn ('忦')=wc both (-s2) (-s1) (-s3) (-s4)/\'忦'∈cJ:=by
 obtain⟨r1,r2⟩:=To s3 s4 i3 i4;unfold wc
 by_cases c1:s1<0
 ·have c2:=h1 c1
  rw['叻','҇','仛']
  exact⟨GE,'c'⟩
 rw['叼']
 by_cases c2:0<s2
 ·rw['叽','仛']
  exact⟨R3,'c'⟩
 rw['叾',if_neg (show ¬ (-s2<0) by omega),if_neg (show ¬ (0 < -s1) by omega)]
 cases both with
 | false=>simpa using '拐'
 | true =>
  by_cases c3:s1=0
  ·have:=h2 rfl c3
   rw[if_pos ⟨rfl,c3⟩,'҇','幓']
   exact⟨YH,'c'⟩
  ·rw[if_neg (fun q=>c3 q.2)]
   by_cases c4:s2=0
   ·rw[if_pos ⟨rfl,c4⟩,'幓']
    exact⟨Sy,'c'⟩
   ·rw[if_neg (fun q=>c4 q.2),'҇','҇']
    exact '拐'
theorem z9['壱']['奼']:tn ('仉')='彋'/\'仉'∈cJ:=by
 have h1:'Ҟ'<0->'ҟ'<0:=fun h=>by
  unfold aL at h ⊢;rw[Lz]at h ⊢;have x:=kP '挅' ha.le '*'
  have y:='婼'
  omega
 have h2:'乵'=true->'Ҟ'=0->'ҟ'<0:=fun hk h=>by
  rw[Bool.and_eq_true]at hk;unfold aL at h ⊢;rw[Dj]at h;rw[Lz];have x:=mR '挅' (ha.st hk.1) '*'
  have y:='婼'
  omega
 have e:'彋'=wc '乵' (-'ҟ') (-'Ҟ') (-'Ҡ') (-'凄'):=by
  unfold wd wc;rw[oP a0 b1,oP a1 b0,oP a0 b0,oP a1 b1,Bool.and_comm l k]
 rw[e];exact Zm '乵' 'ƶ' (wB _) (wB _) 'ɡ'
def SG['˜'](a0 a1 b0 b1:'X'):'Q':=match k,l with
 | true,true=>'岡'
 | true,false=>'忟'
 | false,true=>'忠'
 | false,false=>['Ҡ']
theorem pZ{ws:'$'}{p:'塕'}{z:Str}(h:(ws.filter p).head?=some z):z∈ws/\p z=true:=List.mem_filter.mp (List.mem_of_mem_head? ('埑'))
theorem nT['壱']['奼']:'仉'∈ 'ќ'/\WB k l ('仉')='团':=by
 cases k with
 | true =>
  cases l with
  | true =>
   obtain⟨h1,h2⟩:=pZ (uC ('Ҡ') 'ɲ' ('ҟ') 'ɲ' '揙' '懛' '厊' '懜');exact '効'
  | false =>
   have e:='吀'
   subst e;obtain⟨h1,h2⟩:=pZ (zG ('ҟ') 'ɲ' '冂' 'ɲ' '厊');exact '効'
 | false =>
  have e:=ha.pt rfl
  subst e
  cases l with
  | true =>
   obtain⟨h1,h2⟩:=pZ (xF '揙');exact '効'
  | false =>
   have e:='吀'
   subst e;obtain⟨h1,h2⟩:=pZ (zK '冂' 'ɲ');exact '効'
theorem O2['偈']:'ԉ'=0↔ 'Ϥ'='О':=by
 unfold aL;rw[Dj];omega
theorem cR{x y z:'X'}(hx:'亀')(hy:0<y.2)(hz:0<z.2):∀ i,gP ('ԉ') (aL y z)='Α'->aL x z=i:=by
 intro i h;have le_trans:∀ {a b c:'X'},0<a.2->0<b.2->0<c.2->a.1*b.2<=b.1*a.2->b.1*c.2<=c.1*b.2->a.1*c.2<=c.1*a.2:=fun {a b c} 'μ' hc 'ɡ'=>by
  refine Int.le_of_mul_le_mul_left (a:=b.2) ?_ hb;have x1:'拑'<='拒':='掅' (Int.le_of_lt hc)
  have x2:'拓'<='拔':='掆' (Int.le_of_lt ha)
  have y1:b.2*(a.1*c.2)='拑':='Ϋ'
  have y2:b.2*(c.1*a.2)='拔':='Ϋ'
  have y3:'拒'='拓':='Ϋ'
  omega
 unfold gP at h
 by_cases c1:'ԉ'=0
 ·rw['叻']at h
  cases h
  have e:=O2.mp c1
  rw[eO,eO]
  by_cases d1:'坌'
  ·rw[if_pos d1,if_pos (kP ';' hz '*' d1)]
  ·rw[if_neg d1];have f1:¬ x.1*z.2<z.1*x.2:=fun q=>d1 (kP hy hx hz '*' q)
   rw[if_neg f1]
   by_cases d2:'凘'<'凗'
   ·rw[if_pos d2,if_pos (mR hz hy hx d2 '*')]
   ·rw[if_neg d2,if_neg fun q=>d2 (mR hz ';' q '*')]
 ·rw['叼']at h
  by_cases c2:aL y z=0\/aL y z='ԉ'
  ·rw['叽']at h
   cases h
   rw[eO y z]at c2;rw[eO x y]at c1 c2;rw[eO x z,eO x y]
   by_cases d1:'儊'
   ·rw[if_pos d1]at c2 ⊢;have d2:'凗'<='凘':=by
     by_cases q:'坌'
     ·omega
     ·rw['ӿ']at c2
      by_cases q2:'凘'<'凗'
      ·rw[if_pos q2]at c2;omega
      ·omega
    rw[if_pos (mR ';' hz d1 d2)]
   ·rw[if_neg d1]at c1 c2 ⊢
    by_cases d3:'卥'
    ·rw[if_pos d3]at c2 ⊢;have d2:'凘'<='凗':=by
      by_cases q:'坌'
      ·rw['九']at c2;omega
      ·omega
     have d4:=kP hz hy hx d2 d3
     rw['҇',if_pos d4]
    ·rw[if_neg d3]at c1;exact 'ԥ' c1
  ·rw['叾']at h
   cases h
theorem yZ{v:Int}:∀ {l:'卢'},(∀ p∈l,∀ i,gP '交'='Α'->v=i)->∀ i,bL l='Α'->v=i
 | [],_,i,h=>'兹'
 | (a,b)::r,q,i,h=>by
  unfold bL at h
  cases e:gP a b with
  | some j =>
   rw[e]at h
   cases h
   exact q '摐' i e
  | none =>
   rw[e]at h;exact yZ (fun p hp=>q p (aq _ hp)) i h
theorem dU{f:'ɢ'}{w:Int}{r:'丵'}{ws:'Q'}(h:∀ i,f='Α'->w=i)(q:fI r ws=true):fI (f::r) (w::ws)=true:=by
 cases f with
 | none=>exact q
 | some i =>
  unfold fI;rw[q,decide_eq_true (h i rfl).symm];rfl
theorem iL{v a b:Int}(h:'庄'):∀ i,bL [(a,b)]='Α'->v=i:=yZ fun p hp=>by rw[List.mem_singleton.mp hp];exact h
theorem iO{v a b c d:Int}(h:'庄')(g:∀ i,gP c d='Α'->v=i):∀ i,bL [(a,b),(c,d)]='Α'->v=i:=yZ fun p hp=>by
 rcases '徹' with e | e
 ·rw[e];exact h
 ·rw[List.mem_singleton.mp e];exact g
def FX['倷'](a0 a1 b0 b1 c0 c1:'X'):'丵':=match k,l,n with
 | true,true,true=>['劎','尒','尓',bL ['忨',('凄',aL b1 c1)]]
 | true,true,false=>['劎','尓']
 | true,false,true=>['務',bL ['嚹'],bL ['嚺'],bL ['忨']]
 | true,false,false=>['務',bL ['嚺']]
 | false,true,true=>['劎','尒']
 | false,true,false=>['劎']
 | false,false,true=>['務',bL ['嚹']]
 | false,false,false=>['務']
def dW['倷'](xs ys:'Q'):'丵':=('庱' fun(x:Nat)=>'庲' fun y=>bL ((cC xs '弻' '幌').zip (pick ys (bZ ys.length y '凥')))).flatten
end
mutual section G
theorem Zq(s00 s01 s10 s11 t00 t01 t10 t11:Int):dW '创' true '圀' '悔'=['勚','庅','庆',bL [(s10,t01),(s11,t11)]]:='专'
theorem QL(s00 s01 s10 s11 t00 t10:Int):dW '创' false '圀' [t00,t10]=['勚','庆']:='专'
theorem CW(s00 s10 t00 t01:Int):dW '咎' true '塽' [t00,t01]=['卻','憄','憅',bL [(s10,t01)]]:='专'
theorem v9(s00 s10 t00:Int):dW true '倻' '塽' [t00]=['卻','憅']:='专'
theorem CL(s00 s01 t00 t01 t10 t11:Int):dW '刚' true '塾' '悔'=['勚','庅']:='专'
theorem HE(s00 s01 t00 t10:Int):dW '刚' false '塾' [t00,t10]=['勚']:='专'
theorem FO(s00 t00 t01:Int):dW '倻' true [s00] [t00,t01]=['卻','憄']:='专'
theorem IQ(s00 t00:Int):dW '倻' false [s00] [t00]=['卻']:='专'
theorem GN['奉']['摯'](h1:'倀'='团')(h2:WB l n w=SG l n '姛'):'俠'=FX k l n a0 a1 '姛':=by
 have e:'俠'=dW k l n '乙' '叛':=rfl
 rw[e,h1,h2]
 show '擰'
 ·exact IQ _ _
 ·exact FO '!'
 ·exact HE 'ƶ'
 ·exact CL 'Ю'
 ·exact v9 '!'
 ·exact CW 'ƶ'
 ·exact QL 'Ю'
 ·exact Zq 'd'
theorem zg2{p q r:PyData}['奇']['摯']['奼'](hc:Tm r n c0 c1) :
  wd (k&&n) a0 a1 c0 c1∈BW k l n ('仉') (wd (l&&n) '姛'):=by
 obtain⟨m1,e1⟩:=nT 'μ';obtain⟨m2,e2⟩:=nT hb hc;obtain⟨m3,e3⟩:=nT ha hc;refine List.mem_filter.mpr ⟨m3,?_⟩;rw[e3];rw[GN e1 e2];have A0:=ha.px
 have A1:=ha.py
 have B0:=hb.px
 have B1:=hb.py
 have C0:=hc.px
 have C1:=hc.py
 show '擰'
 ·exact dU '匮' rfl
 ·exact dU '匮' (dU (iL '垙') rfl)
 ·exact dU '劫' rfl
 ·exact dU '劫' (dU '崠' rfl)
 ·exact dU '匮' (dU (iL '垚') rfl)
 ·exact dU '匮' (dU (iL '垙') (dU (iL '垚') (dU (iL '懦') rfl)))
 ·exact dU '劫' (dU '崡' rfl)
 ·exact dU '劫' (dU '崠' (dU '崡' (dU (iO '懦' (cR A1 B1 C1)) rfl)))
theorem Je['ӆ'](j:Nat)(hj:j<=xs.length):cC xs none (some '吨')=xs.take j:=by
 unfold cC;rw[HT.sIx_nat,HT.sIx_none,Nat.min_eq_left hj];simp
theorem zu9['ӆ'](i:Nat)(hi:'儻'):cC xs (some 'Ͳ') none=xs.drop i:=by
 unfold cC;rw[HT.sIx_nat,HT.sIx_none,Nat.min_eq_left hi,List.take_of_length_le 'U']
theorem jY(a b:PyData)(r:','):cC (a::b::r) none ('伲')='β':=Je 2 'U'
theorem vY(a:PyData)(r:','):cC (a::r) '墩' none=r:=zu9 1 'U'
theorem iG['ѻ']['奻']{r:Row}(h:eL b rows i='伱'):r∈rows/\rY r=b:=by
 unfold eL at h
 show 'ɉ'
 ·rw[Option.filter_eq_some_iff]at h;exact⟨List.mem_of_getElem? h.1,by simpa using h.2⟩
 ·cases h
theorem RowO.mono{ts:'L'}{M N:Int}{r:Row}(h:'俧')(hm:M<=N):RowO ts N r:=by
 cases r with
 | may a b ws=>exact h
 | gap x y n s=>exact⟨h.1,h.2.1,'Ԑ'.1,by have:='Ԑ'.2.1;omega,by have:='Ԑ'.2.2;omega⟩
theorem SoR.mono['ϭ']{M N:Int}{r:Row}(h:'历')(hm:M<=N):'偘' N r:=⟨h.1.mono hm,h.2⟩
theorem NG['奻'](h:'僙'):∃ r∈rows,bS (rows.map eR) i=some (eR r):=by
 show '呬'
 have hk:'懤':='-'
 refine⟨rows[k],'匟',gF ?_⟩;show '夞'
theorem Wu:∀ ds m R,ds.length=Ey.length->qG '1'->NT 'J' (aT SF ds) m:=by
 show '挔';refine '幔';refine⟨_,rfl,_,'ɐ',_,rfl,rfl,i,_,rfl,_,rfl,?_⟩;rw[av]
 by_cases c:0<=i/\i<says.length
 ·obtain⟨r,hr,e⟩:=NG c;have s:=(W.s r hr).mono (N:=12*M) (by have:=W.m0;omega)
  refine aV '侮' ⟨_,rfl,_,rfl,_,'ɐ',_,e,_,rfl,?_⟩
  cases r with
  | may a b ws=>exact '寀'
  | gap x y n t=>exact '寀'
 ·exact aU '侥' '俉'
theorem gV['ϭ']['姀'](nm:'ɶ')['亩'](h:'˒'):∃ x y,Tm '厦' k x y:=by
 obtain⟨k',x,y,_,h2,h3⟩:=lH ht (show '临' from '峧')
 have:k'=k:=nX nm.1 h3.2 h
 show 'ˡ';exact⟨x,y,h2⟩
theorem yW['奌']['呖']:'侇'∈ 'ќ':=by
 show '壧';rw['君'];exact(nT 'ɡ').1
theorem W7['奌']['呖']:cZ '埈' '厦'=tn ('侇'):=by
 show '壧';rw['君',iU h2 h1];exact(z9 'ɡ').1.symm
theorem K9['ϭ']{a b c:Str}['奇']['呖'](hc:(c,n)∈ts):cZ '厦' '埒'∈BW k l n ('侇') (cZ '埈' '埒'):=by
 show '壧';obtain⟨p,q,h3⟩:=gV nm ht hc;rw['君',iU h2 h3,iU h1 h3];exact zg2 '佚'
theorem n6['倰']:'Ψ':='丨'
theorem Fc{ts:'L'}{a:Str}(h:'临'):∃ k,'˒':=by
 obtain⟨t,h1,rfl⟩:='悏';exact⟨t.2,h1⟩
theorem QS:∀ ds m R,ds.length=Mf.length->sE '1'->zf0 'J' (aT UU ds) m:=by
 rintro ds m R hl ⟨ts,ps,says,rows,M,st,rfl,W,so,⟨a,b,rfl⟩,hN,hR⟩;refine '侈';refine⟨_,rfl,_,'Ɉ',_,rfl,_,rfl,rfl,ts,a,b,rfl,'吺',_,rfl,?_⟩
 cases c:'媮' with
 | false=>exact '侚'
 | true =>
  show '挌';obtain⟨k,ha⟩:=Fc c.1;obtain⟨l,hb⟩:=Fc c.2.1;exact 'ɠ' ⟨_,rfl,_,rfl,_,rfl,_,bQ _ _,_,rfl,_,rfl,rfl,ts,a,b,k,l,rfl,n6 W.nm,W.nm.1,ha,hb,fun m1 k1=>⟨rfl,k,l,rfl,_,rfl,z3,
   hR (.may a b (WS k l)) m1 ⟨⟨k,l,ha,hb,(jR k l).2,fun z hz=>hz⟩,decide_eq_true (yW W.nm W.tm ha hb)⟩ k1⟩⟩
theorem Rm:∀ {ts:'L'},(∀ t∈ts,cT t.1)->PyData.canLayAll0 '寜'=true
 | [],_=>rfl
 | 'ˮ',h=>by
  have g:=cW (h t List.mem_cons_self)
  rw[au];simp only[PyData.canLayAll0,PyData.canLay0,g,Bs,Rm (ts:=ts) '噍',Bool.and_self]
theorem j7['亨'](a:Str):('守'.any fun y=>y.eqv '嗅')=decide ('垗'):=by
 show '挗'
 show 'ж'
 ·rintro⟨t,ht,e⟩;have e:PyData.eqv ('傤') '嗅'=true:=e
  rw[rX,Bool.and_eq_true,decide_eq_true_iff,decide_eq_true_iff]at e;have:t.2=true:=pH (l:=true) e.2
  rw[<- e.1,<- this];exact ht
 ·intro h;exact⟨ '凈',h,by show PyData.eqv (':' ['Ҥ',.str (kd true)]) '嗅'=true;rw[rX];simp;rfl⟩
theorem Ny:∀ {ts:'L'} {a:Str} {k:Bool},'˒'->'悑'/\('Ф'->'惑')
 | [],_,_,h=>'兹'
 | 'ˮ',a,k,h=>by
  rcases '丯' with e | h
  ·subst e;exact⟨List.mem_cons_self,fun q=>by subst q;exact aq _ ('周' List.mem_cons_self)⟩
  ·obtain⟨h1,h2⟩:=Ny h;exact⟨aq _ ('亇' h1),fun q=>aq _ ('亇' (h2 q))⟩
theorem Dh:Dn 'Ϫ':=by unfold Dn;decide
theorem Pe(t u:'X')(s:Bool):dA t u 'Ϫ' s=(decide ('乸'<0)||(decide ('乸'=0) && !s)):=by
 unfold dA;rw[show aL '嘢' 'Ϫ'='乸' by unfold aL;simp]
theorem zr1:∀ ds m R,ds.length=Cq.length->tK '1'->W6 'J' (aT L8 ds) m:=by
 rintro ds m R hl ⟨ts,ps,says,rows,M,st,rfl,W,so,⟨a,rfl⟩,hN,hR⟩;have g:cT a:=so
 have ok:'岊'.canLay0=true:=by simp[PyData.canLay0,PyData.canLayAll0,cW g]
 have dp:'岊'.depth<=50:=by show '変'
 refine⟨_,rfl,_,'ɐ',_,rfl,z2,_,rfl,_,'Ɉ',Rm fun t ht=>'剟' (k:=t.2) ht,ok,dp,_,rfl,?_⟩;rw[j7]
 by_cases c:'垗'
 ·obtain⟨e1,e2⟩:=Ny c;obtain⟨x,y,h⟩:=gV W.nm W.tm c;refine aU (jT '侮') ⟨_,rfl,_,'ɐ',_,rfl,z2,_,rfl,_,'ɐ',_,rfl,z2,_,rfl,z4,?_⟩;refine hR (.gap '墀' '凈' 'Ϫ' true) m ⟨⟨e1,e2 rfl,Dh,'峍','崢'⟩,?_⟩ Kn.refl
  show dA 'ƶ'=true
  rw[Pe,gO (e:='墀') h,gO (e:='凈') h];have:=h.st rfl
  have q:'ԉ'<0:=by rw[eO,'堋'];decide
  simp[q]
 ·exact '尶'
theorem TN:∀ ds m R,ds.length=Bb.length->rD '1'->Wc 'J' (aT YU ds) m:=by
 show '挔';refine '傔'
 cases e:'俆' with
 | none=>exact⟨_,rfl,_,rfl,'侚'⟩
 | some r =>
  obtain⟨hr,hm⟩:=iG e
  cases r with
  | gap x y n s=>cases hm
  | may a b ws =>
   obtain⟨⟨k,l,ha,hb,wl,hw⟩,hs⟩:=W.r _ hr;show '则'
   refine '己';refine '侈';refine⟨_,rfl,_,rfl,_,rfl,rfl,ws,rfl,'勃','-',_,rfl,z3,?_⟩
   refine hR (.may b a (ws.reverse.map tn)) m ⟨⟨l,k,hb,ha,by simpa using wl,'埏'⟩,'圄'⟩ Kn.refl
   ·obtain⟨y,hy,rfl⟩:=List.mem_map.mp hz;exact Qg k l y (hw y (List.mem_reverse.mp hy))
   ·rw[W7 '咋'];exact List.mem_map.mpr ⟨_,List.mem_reverse.mpr hs,rfl⟩
theorem M0:∀ ds m R,ds.length=Iz.length->qQ '1'->zc7 'J' (aT zv9 ds) m:=by
 show '呁'
 cases e1:'俆' with
 | none=>exact '佷'
 | some r1 =>
 show '切'
 cases r1 with
 | gap x y n s=>cases hm1
 | may a b ws =>
 cases e2:'憆' with
 | none=>exact '割'
 | some r2 =>
 show '味'
 cases r2 with
 | gap x y n s=>cases hm2
 | may c d vs =>
 show '呒';obtain⟨⟨l',n,hc,hd,vl,hv⟩,ht⟩:='吁';show '则'
 have ht:'崀':='徑'
 refine⟨_,rfl,_,rfl,'ɠ' ⟨_,rfl,_,rfl,aU rfl ⟨_,rfl,_,bR _ _ _,_,rfl,_,bQ _ _,_,rfl,?_⟩⟩⟩
 by_cases c1:b=c
 ·subst c1;have:l'=l:=nX W.nm.1 hc hb
  show 'ˡ';refine aU '幕' ⟨_,rfl,_,'Ɉ',_,rfl,_,'ɐ',_,rfl,?_⟩
  by_cases c2:a=d
  ·exact aV ('卆') '俉'
  ·refine aU ('因') ?_;refine '侈';refine '幔';refine⟨_,rfl,_,'Ɉ',_,rfl,_,rfl,rfl,ts,a,b,k,l',rfl,'吺',W.nm.1,ha,hb,'ӭ'⟩;refine⟨_,rfl,_,'Ɉ',_,rfl,_,rfl,rfl,ts,b,d,l',n,rfl,'吺',W.nm.1,hc,hd,'垔'⟩;refine '侃';rw[vY];refine '善';refine⟨_,rfl,_,rfl,_,rfl,_,rfl,_,rfl,_,'Ϊ',rfl,k,l',n,ws,vs,rfl,wl,vl,hw,hv,fun m3 k3=>⟨_,rfl,z3,?_⟩⟩;refine hR (.may a d (BM k l' n ws vs)) m3 ⟨⟨k,n,ha,hd,'呼' (jR k n).2,'峎'⟩,'圄'⟩ ('垕'.trans k3);refine List.mem_filter.mpr ⟨yW W.nm W.tm ha hd,?_⟩;exact List.any_eq_true.mpr ⟨_,hs,List.any_eq_true.mpr ⟨_,ht,decide_eq_true (K9 '咋' hd)⟩⟩
 ·exact aV (lS ('仙')) ('侚')
theorem OG:∀ ds m R,ds.length=Go.length->tP '1'->CC 'J' (aT HF ds) m:=by
 show '呁'
 cases e1:'俆' with
 | none=>exact '佷'
 | some r1 =>
 show '切'
 cases r1 with
 | gap x y n s=>cases hm1
 | may a b ws =>
 cases e2:'憆' with
 | none=>exact '割'
 | some r2 =>
 show '味'
 cases r2 with
 | gap x y n s=>cases hm2
 | may c d vs =>
 show '呒';obtain⟨⟨k',l',hc,hd,vl,hv⟩,ht⟩:='吁';show '则'
 have ht:'崀':='徑'
 obtain⟨p1,p2⟩:=iA ('堾') ('堿');obtain⟨q1,q2⟩:=iA ('剟' hc) ('剟' hd);refine⟨_,rfl,_,rfl,'ɠ' ⟨_,rfl,_,rfl,aU rfl ⟨_,rfl,_,rfl,.inl ⟨_,rfl,_,rfl,_,rfl,.inl ⟨_,rfl,?_⟩⟩⟩⟩⟩;rw[jY,jY];refine⟨p1,q1,'-',_,rfl,?_⟩
 rw[rX]
 by_cases c1:a=c/\b=d
 ·obtain⟨rfl,rfl⟩:=c1;refine aU (jT 'U') ?_
  refine⟨_,rfl,_,rfl,.inl ⟨_,rfl,_,rfl,_,'Ϊ','ә'⟩⟩;show '剝' [none,some (.dat (cD (.may a b vs)))] _ _
  show '亙';refine yY (pr:='开') wl (fun z Q' _ hq=>⟨_,rfl,_,rfl,_,'Ϊ',vs,rfl,_,rfl,hq⟩) ?_;show '擘';refine hR ('剋' (ws.filter fun z=>decide (z∈vs))) m '娴' Kn.refl;exact List.mem_filter.mpr ⟨hs,decide_eq_true ht⟩
 ·refine aV (lS ?_) '俉';rw[Bool.and_eq_false_iff,decide_eq_false_iff_not,decide_eq_false_iff_not]
  by_cases q:a=c
  ·exact .inr fun w=>c1 ⟨q,w⟩
  ·exact 'Ԇ'
theorem Gy{k l x2 y2:Bool}{a0 a1 b0 b1:'X'}(h1:x2=true->'Ф')(h2:y2=true->l=true):('团').getD (eN x2*bJ l+eN y2) 0=aL (if x2 then a1 else a0) (if y2 then b1 else b0):=by
 cases x2<;>cases y2<;>cases k<;>cases l<;>first | rfl | exact absurd (h1 rfl) '+' | exact absurd (h2 rfl) '+'
def wF['˜'](a:Str)['体'](z:Str):Int:=if x.1=a then '嘎' else '嗹'
theorem Gv['搑']:'愒'='僎':=by
 unfold sJ wF
 split<;>rfl
theorem sV['倰']['姀'](ha:'˒')['摀']:'惒':=by
 obtain⟨k',h1,h2⟩:=lF hx;rw[e]at h1;have:k'=k:=nX nm.1 h1 ha
 show 'ˡ';exact h2
theorem Pc['奌']{x y:'ɏ'}['呖'](hx:'Ϝ')(hy:'ӹ')(hc:'円'=true) :
  '姹' y (cZ (FT ts ps a) (FT ts ps b))='势':=by
 obtain⟨p,q,h1⟩:='又';obtain⟨u,v,h2⟩:='叉';have e:=(nT 'ɡ').2
 rw['君'];unfold wF dJ;rw[e];unfold jC at hc
 by_cases c:x.1=a
 ·rw['Ϣ'];have yb:y.1=b:=by
   by_cases cb:y.1=b
   ·exact cb
   ·simp[c,cb]at hc;rw[hc.2]at cb;exact '憃'
  rw[Gy (sV nm ha hx c) (sV nm hb hy yb),gO (by rw[c];exact h1),gO (by rw[yb];exact h2)]
 ·rw['˿'];simp[c]at hc;rw[Gy (sV nm ha hy hc.2) (sV nm hb hx hc.1),gO (e:=x) (by rw[hc.1];exact h2),gO (e:=y) (by rw[hc.2];exact h1),<- oP]
theorem pT:∀ {zs:'$'},'忑'->'岷'/\PyData.depthAll '優'=0
 | [],_=>'Ҏ'
 | 'Γ',h=>by
  obtain⟨h1,h2⟩:=pT (zs:=zs) '噍';have h0:=rS z ('廻')
  rw[au];simp only[PyData.canLayAll0,PyData.canLay0,PyData.depthAll,PyData.depth,h0,h1,h2];exact 'Ҏ'
theorem z0:'兤':='^'
theorem FG:∀ zs:'$',PyData.eqv '噟' (':' [])=decide (zs=[])
 | []=>rfl
 | 'Γ'=>rfl
theorem AM:∀ ds m R,ds.length=Kj.length->pA '1'->Vh 'J' (aT zl2 ds) m:=by
 rintro ds m R hl ⟨ts,ps,says,rows,M,st,rfl,W,so,⟨i,x,y,rfl⟩,hN,hR⟩;refine '侈';refine⟨_,rfl,_,rfl,rfl,rows,i,rfl,?_⟩
 cases e1:'俆' with
 | none=>exact '佷'
 | some r1 =>
 show '切'
 cases r1 with
 | gap x y n s=>cases hm1
 | may a b ws =>
 show '呒';show '则'
 obtain⟨l1,l2⟩:=pT '勃';refine⟨_,rfl,_,rfl,'ɠ' ⟨_,rfl,_,dZ _ _ _ _,_,rfl,z0,l1,rfl,by show PyData.depthAll _+1<=100;rw[l2];decide,_,rfl,?_⟩⟩
 rw[FG,decide_eq_false (by show 'h';cases hs)]
 refine 'ɠ' ⟨_,rfl,_,bQ _ _,_,rfl,_,rfl,_,rfl,rfl,ts,a,b,ws,x,y,rfl,W.nm,hU W.nm ha,hU W.nm hb,so.1,so.2,_,rfl,?_⟩
 cases c:'孷' with
 | false=>exact '侚'
 | true =>
 show '挌';obtain⟨hx,hy,hc⟩:=c;refine 'Ӻ';refine '婏';rw[Gv];have mem:'势'∈ '僎':=List.mem_map.mpr ⟨_,hs,'已'⟩
 refine⟨_,rfl,'僎',rfl,_,rfl,?_⟩
 by_cases c1:'ί'∈ '僎'
 ·exact aV ('僳') (hN m1 k1)
 ·refine aU ('仙') ⟨_,rfl,_,rfl,_,rfl,'僎',rfl,_,rfl,z4,?_⟩;refine hR ('唔' (0,1) _) m1 ⟨⟨hx,hy,Dh,'峍','崢'⟩,?_⟩ k1
  show dA 'ƶ'=true
  rw[Pe];have s3:=cN 'Г' '俟'
  unfold S3 at s3;simp only[List.mem_cons,List.not_mem_nil,or_false]at s3;rcases s3 with q | q | q
  ·rw[q];rfl
  ·rw[q]at mem ⊢;rw[decide_eq_true mem];rfl
  ·rw[q]at mem;exact absurd mem c1
theorem zQ{t:Int}{m:Mu}{Q:'˶'}:∀ (L:List (Str×Int)) (acc:',') (o0 o1:'ɧ'),acc.length+L.length<=100->Q (acc++((L.filter '弁').map '彌')) m ->
  bV '傣' '帥' '=' (L.map '屛') acc [o0,o1,'冈'] m Q
 | [],acc,o0,o1,_,h=>by
  rw[List.filter_nil,List.map_nil,List.append_nil]at h;exact h
 | p::L,acc,o0,o1,hn,h=>by
  rw[List.length_cons]at hn;refine⟨_,rfl,rfl,rfl,_,rfl,_,rfl,_,rfl,?_⟩
  by_cases c:p.2<=t
  ·rw[List.filter_cons,if_pos (show '坍'=true from '圤')]at h
   refine aV '侮' ⟨_,rfl,_,rfl,'宬',?_⟩
   refine zQ L '!' '岉' ?_
   show '撝'
  ·rw[List.filter_cons,if_neg (show ¬ '坍'=true by rw['僰'];decide)]at h
   exact aU '侥' (zQ L '!' '*' h)
theorem Hv(f:Str->Int):∀ ws:'$',('嚸'.zip ((ws.map f).map PyData.int)).map (fun z=>D.dat ('圗'))='廀'.map '屛'
 | []=>rfl
 | w::ws=>by
  have:=Hv f ws
  simp only[au,List.zip_cons_cons];rw[this]
theorem Hk(f:Str->Int)(t:Int):∀ ws:'$',(('廀'.filter '弁').map '彌')=(ws.filter fun z=>decide (f z<=t)).map .str
 | []=>rfl
 | w::ws=>by
  have:=Hk f t ws
  rw[au]
  by_cases c:f w<=t
  ·rw[List.filter_cons,'孛',List.filter_cons,'孛',au,au,this]
  ·rw[List.filter_cons,'嫡',List.filter_cons,'嫡',this]
theorem KU['改']['攺'](pn:0<n.2)(h:'坎'):(n.1<0->'乸'<0)/\(n.1=0->'乸'<=0/\(s=true->'乸'<0)):=by
 have hp:0<'凓':=Int.mul_pos pt pu
 have neg:'係'<0->'乸'<0:=fun q=>by rw[eO,'仛'];decide
 have zer:'係'<=0->'乸'<=0:=fun q=>by
  rw[eO]
  split
  ·decide
  ·show '傀'
 show '捁';rw[<- eP]at hp;rw[<- eA]at neg zer;have h:('堘')\/('拕'/\'吻'):=by
  unfold dA at h;rw[<- eA,<- eP]at h;rw[eO]at h
  by_cases c:'堘'
  ·exact .inl c
  ·rw['˿']at h
   by_cases d:'拖'
   ·rw[if_pos d]at h;simp at h
   ·rw[if_neg d]at h;exact .inr ⟨ '-','侷'⟩
 have low:A*n.2<=n.1*P:=by rcases h with h | h<;>omega
 refine⟨fun q=>neg ?_,'塣'⟩
 ·have x1:n.1*P<0:='揇' hp
  rcases '惓' with c | c
  ·exact c
  ·have:='峬'
   omega
 ·rw[q,Int.zero_mul]at h low;have a0:A<=0:=by
   rcases Int.lt_or_le 0 A with c | c
   ·have:=Int.mul_pos c pn
    omega
   ·exact c
  refine⟨zer a0,fun hs=>neg ?_⟩;rcases h with h | ⟨_,h⟩
  ·rcases '惓' with c | c
   ·exact c
   ·have:='峬'
    omega
  ·rw[hs]at h;cases h
theorem WP:∀ ds m R,ds.length=Li.length->pC '1'->Yb 'J' (aT JL ds) m:=by
 show '呁'
 cases e1:'俆' with
 | none=>exact '佷'
 | some r1 =>
 show '切'
 cases r1 with
 | gap x y n s=>cases hm1
 | may a b ws =>
 cases e2:'愠' with
 | none=>exact '割'
 | some r2 =>
 show '味'
 cases r2 with
 | may c d vs=>cases hm2
 | gap x y n s =>
 show '呒';obtain⟨⟨hx,hy,dn,lo,hi⟩,hg⟩:='吁';show '则'
 have hg:'嗂'=true:=hg
 have memx:'嚵':=by obtain⟨k',q,_⟩:=lF hx;exact '嗖'
 have memy:y.1∈ 'ύ':=by obtain⟨k',q,_⟩:=lF hy;exact '嗖'
 obtain⟨g1,g2⟩:=KU ('剠' memx).1 ('剠' memy).1 dn.1 hg;refine⟨_,rfl,_,rfl,'ɠ' ⟨_,rfl,_,rfl,aU rfl ⟨_,rfl,_,bQ _ _,_,rfl,_,rfl,_,bQ _ _,_,rfl,_,bR _ _ _,rfl,ts,a,b,ws,x,y,rfl,W.nm,hU W.nm ha,hU W.nm hb,fO W.nm hx,fO W.nm hy,_,rfl,?_⟩⟩⟩;rw[decide_eq_true hx,decide_eq_true hy,Bool.true_and,Bool.true_and]
 cases hc:'円' with
 | false=>exact '侚'
 | true =>
 refine 'Ӻ';refine '侈';refine '嶩'
 by_cases c1:n.1 > 0
 ·exact aV ('僳') '俉'
 refine aU ('仙') ?_;have key:∀ t:Int,'势'<=t->Na 'J' [some ('尵'),some ('嘍'),some (.dat (eD ('国'))),some ('庵'),some (.dat (cD ('俞'))),'怷','怸',some (.dat (fq n)),some (.dat ('a' s)),'冈',none] m:=fun t ht=>by
  refine '婏';rw[Gv];refine⟨_,rfl,_,rfl,.inl ⟨_,rfl,_,rfl,_,'Ϊ',_,rfl,_,_,rfl,rfl,?_⟩⟩;rw[Hv];show '剝' [none,none,some (I t)] _ _
  refine zQ _ '剞' '˦' ?_
  rw[Hk];show '擘';refine hR ('剋' (ws.filter fun z=>decide (wF k l a x y z<=t))) m1 '娴' k1;exact List.mem_filter.mpr ⟨hs,decide_eq_true (by rw['已'];exact ht)⟩
 refine '嶩'
 by_cases c2:n.1<0
 ·exact aV ('卆') ('ͽ' ⟨_,rfl,key (-1) (by have:=g1 c2;omega)⟩)
 ·have n0:n.1=0:='-'
  refine aU ('因') '匊'
  cases s with
  | true=>exact 'ͽ' ⟨_,rfl,key (-1) (by have:=(g2 n0).2 rfl;omega)⟩
  | false=>exact 'ɠ' (key 0 (g2 n0).1)
theorem pV['改']:'坎'↔(('係')*n.2<n.1*('凓'))\/(('係')*n.2=n.1*('凓')/\'吻'):=by
 unfold dA;rw[eO];show '捁';rw[<- eA,<- eP]
 by_cases c:'堘'
 ·rw['Ϣ'];simp[c]
 ·rw['˿']
  by_cases d:'拖'
  ·rw[if_pos d]
   show 'ж'
   ·intro q;simp at q
   ·rintro (q | q)<;>omega
  ·rw[if_neg d];have e:'拕':='-'
   simp[e]
theorem qY{T B:Int}(hB:0<B):∃ g:Int,0<g/\T / '升'*g=T/\'供'*g=B/\0<'供':=by
 have hg:=qH '妞' '*'
 have e1:=Int.ediv_mul_cancel (Int.gcd_dvd_left T B)
 have e2:=Int.ediv_mul_cancel (Int.gcd_dvd_right T B)
 refine⟨_,hg,e1,e2,?_⟩;rcases Int.lt_or_le 0 ('供') with c | c
 ·exact c
 ·have:'供'*'升'<=0:=Int.mul_nonpos_of_nonpos_of_nonneg c '圅'
  omega
theorem Ad['偈'](hx:Dn x)(hy:Dn y):Dn ('剺','俺' / '屍'):=by
 obtain⟨T,eT⟩:∃ T,T='儌':='9';obtain⟨B,eB⟩:∃ B,B='传':='9';have hB:0<B:=by rw[eB];exact '彍'
 rw[<- eT,<- eB];obtain⟨g,hg,e1,e2,hp⟩:=qY (T:=T) hB;refine⟨hp,?_⟩;have co:=za1 '妞' '*'
 obtain⟨p,hp6⟩:=hx.2;obtain⟨q,hq6⟩:=hy.2;obtain⟨T',eT'⟩:∃ T',T'=T / '升':='9';obtain⟨B',eB'⟩:∃ B',B'='供':='9';rw[<- eT',<- eB']at co;show '摗';show '供'∣6
 rw[<- eB'];have d:B'*g∣6*(T'*g):=by
  rw[e1,e2,eT,eB];refine⟨p*x.1+q*y.1,?_⟩;have a1:6*('Ϥ')='传'*(p*x.1):=by rw[hp6];ac_rfl
  have a2:6*('О')='传'*(q*y.1):=by rw[hq6];ac_rfl
  rw[Int.mul_add,a1,a2,Int.mul_add]
 have d2:B'∣6*T':=by
  obtain⟨c,hc⟩:=d;refine '堹';refine Int.eq_of_mul_eq_mul_right (Int.ne_of_gt hg) ?_;rw[show 6*T'*g=6*(T'*g) by ac_rfl,hc]
  ac_rfl
 have d3:B'.natAbs∣6*T'.natAbs:=by
  have:=Int.natAbs_dvd_natAbs.mpr d2
  rwa [Int.natAbs_mul]at this
 have d4:B'.natAbs∣6:=Nat.Coprime.dvd_of_dvd_mul_right (by show '央';exact co) d3
 have:(B'.natAbs:Int)∣6:=by exact_mod_cast d4
 rwa [Int.natAbs_of_nonneg (by rw[eB'];exact Int.le_of_lt hp)]at this
theorem xL['偈']{M:Int}(hx:Dn x)(hy:Dn y)(m0:1<=M)(a:-M<=x.1/\x.1<=M)(b:-M<=y.1/\y.1<=M):-'処'<='剺'/\'剺'<=12*M:=by
 have x6:=jH hx
 have y6:=jH hy
 have t1:'Ϥ'<=M*6:=Int.le_trans (Int.mul_le_mul_of_nonneg_right a.2 '*') ('対')
 have t2:'О'<=M*6:=Int.le_trans (Int.mul_le_mul_of_nonneg_right b.2 '*') ('寿')
 have s1:-(M*6)<='Ϥ':=by
  have h1:(-M)*y.2<='Ϥ':=Int.mul_le_mul_of_nonneg_right a.1 '*'
  have h2:M*y.2<=M*6:='対'
  have h3:(-M)*y.2=-(M*y.2):='愡'
  omega
 have s2:-(M*6)<='О':=by
  have h1:(-M)*x.2<='О':=Int.mul_le_mul_of_nonneg_right b.1 '*'
  have h2:M*x.2<=M*6:='寿'
  have h3:(-M)*x.2=-(M*x.2):='愡'
  omega
 have hB:0<'传':='彍'
 obtain⟨g,hg,e1,_,_⟩:=qY (T:='儌') hB;obtain⟨T',eT'⟩:∃ T',T'='剺':='9';rw[<- eT']at e1 ⊢;have lo:-'処'<=T'*g:='-'
 have hi:T'*g<=12*M:='-'
 rcases Int.lt_or_le T' 0 with c | c
 ·have:T'*g<=T'*1:=Int.mul_le_mul_of_nonpos_left 'Ъ'
  omega
 ·have:T'*1<=T'*g:=Int.mul_le_mul_of_nonneg_left '*' c
  omega
theorem Lp{t u v n k:'X'}{s r:Bool}['攺'](pv:0<v.2)(pn:0<n.2)(pk:0<k.2)(h1:'坎')(h2:dA u v k r=true) :
  dA t v '娽' (s||r)=true:=by
 rw[pV]at h1 h2 ⊢;obtain⟨X,a⟩:=t;obtain⟨Y,b⟩:=u;obtain⟨Z,c⟩:=v;obtain⟨n1,n2⟩:=n;obtain⟨k1,k2⟩:=k;simp only at *;have hB:0<n2*k2:=Int.mul_pos pn pk
 obtain⟨g,hg,e1,e2,hp⟩:=qY (T:='及') hB;obtain⟨T',eT'⟩:∃ T',T'=('及') / '峏':='9';obtain⟨B',eB'⟩:∃ B',B'='倌' / '峏':='9';show '摗';rw[<- eT',<- eB'];have i1:b*((X*c-Z*a)*'倌')='扐'*(c*k2)+'扑'*(a*n2):=by
  simp only[Int.sub_mul,Int.mul_sub];have f1:b*(X*c*'倌')=X*b*n2*(c*k2):='Ϋ'
  have f2:b*(Z*a*'倌')=Z*b*k2*(a*n2):='Ϋ'
  have f3:Y*a*n2*(c*k2)=Y*c*k2*(a*n2):='Ϋ'
  omega
 have i2:'廂'='愢'+'愣':=by
  simp only[Int.add_mul,Int.mul_add];have f1:b*(n1*k2*(a*c))='愢':='Ϋ'
  have f2:b*(k1*n2*(a*c))='愣':='Ϋ'
  omega
 have w1:0<c*k2:=Int.mul_pos pv pk
 have w2:0<a*n2:=Int.mul_pos pt pn
 obtain⟨C,eC⟩:∃ C,C=X*c-Z*a:='9';rw[<- eC]at i1 ⊢;have bg:0<b*g:=Int.mul_pos pu hg
 have j1:b*g*(C*B')=b*(C*'倌'):=by rw[<- e2];ac_rfl
 have j2:'憇'='廂':=by rw[<- e1];ac_rfl
 have l1:'扐'<=n1*(a*b):=by rcases h1 with h | h<;>omega
 have l2:'扑'<=k1*(b*c):=by rcases h2 with h | h<;>omega
 have m1:=Int.mul_le_mul_of_nonneg_right l1 (Int.le_of_lt w1)
 have m2:=Int.mul_le_mul_of_nonneg_right l2 (Int.le_of_lt w2)
 have lt:∀ (q:b*g*(C*B')<'憇'),C*B'<T'*(a*c):=fun q=>Int.lt_of_mul_lt_mul_left q (Int.le_of_lt bg)
 rcases h1 with h | ⟨h,hs⟩
 ·have:=Int.mul_lt_mul_of_pos_right h w1
  exact '従'
 ·rcases h2 with h' | ⟨h',hr⟩
  ·have:=Int.mul_lt_mul_of_pos_right h' w2
   exact '従'
  ·refine .inr ⟨?_,by rw[hs,hr];rfl⟩
   refine Int.eq_of_mul_eq_mul_left (Int.ne_of_gt bg) ?_;rw[j1,j2,i1,i2,h,h']
theorem Kg{M i:Int}(hM:M<=2^100)(h:-M<=i/\i<=M):Bd 600 i:=by
 have:Bd 101 i:=by
  unfold Bd;have e:'吵'^101=2535301200456458802993406410752:='ğ'
  have e':'吶'^100=1267650600228229401496703205376:='ğ'
  omega
 exact '勹'
theorem R4:∀ ds m R,ds.length=Lf.length->tT '1'->zv3 'J' (aT JX ds) m:=by
 show '呁'
 cases e1:'愑' with
 | none=>exact '佷'
 | some r1 =>
 show '切'
 cases r1 with
 | may a b ws=>cases hm1
 | gap x y n s =>
 cases e2:'愠' with
 | none=>exact '割'
 | some r2 =>
 show '味'
 cases r2 with
 | may c d vs=>cases hm2
 | gap x' y' k r =>
 obtain⟨⟨hx,hy,dn,lo,hi⟩,hg⟩:='冮';obtain⟨⟨hx',hy',dk,lo',hi'⟩,hg'⟩:='吁';have nmE:∀ {e:'ɏ'},e∈ 'Ү'->e.1∈ 'ύ':=fun {e} he=>by obtain⟨k',q,_⟩:=lF he;exact '嗖'
 obtain⟨l1,l2⟩:=kN ('塀');obtain⟨l3,l4⟩:=kN (fO W.nm hx');refine⟨_,rfl,_,rfl,'ɠ' ⟨_,rfl,_,rfl,aU rfl ⟨_,rfl,_,bR _ _ _,_,rfl,_,bQ _ _,l1,l3,by omega,_,rfl,?_⟩⟩⟩
 rw[qK]
 by_cases c:y=x'
 ·subst c;refine aU '幕' ?_;have so':'偘' (12*M) (.gap x y' ((n.1*k.2+k.1*n.2) / (Int.gcd (n.1*k.2+k.1*n.2) (n.2*k.2):Int),(n.2*k.2) / (Int.gcd (n.1*k.2+k.1*n.2) (n.2*k.2):Int)) (s||r)):=by
   obtain⟨b1,b2⟩:=xL dn dk W.m0 '拗' '懧';exact⟨⟨hx,hy',Ad dn dk,b1,b2⟩,Lp ('剠' (nmE hx)).1 ('剠' (nmE hy)).1 ('剠' (nmE hy')).1 dn.1 dk.1 hg hg'⟩
  have fin:=hR _ m so' Kn.refl
  refine⟨_,rfl,_,'Ɉ',_,rfl,_,'ɐ',_,rfl,_,'Ϊ',_,rfl,_,'Ϊ',rfl,n,k,rfl,dn,dk,Kg W.m1 '拗',Kg W.m1 '懧',?_⟩;refine⟨_,rfl,_,'充',_,rfl,?_⟩
  cases s with
  | true=>exact 'ͽ' ⟨_,rfl,z4,fin⟩
  | false=>exact 'ɠ' ⟨_,rfl,_,nY _ _ _ _ _,_,rfl,z4,fin⟩
 ·exact '尶'
theorem QM(a:Int):PyData.eqv ('凞') ('凞')=true:='忩'
theorem iQ{w:Str}['ӆ']{sp:DC}{t r:D}['Һ'](h1:w∈ '媝')(h2:bM zC w=some (.int (((PyData.str w::xs).length:Nat):Int)))
  (h3:jF '婄' w=some sp)
  (ly:PyData.canLay0 '勺'=true) (dp:PyData.depth '勺'<=100) (h:sp [t,r,.dat '勺'] m R):No 'J' [some t,'伱',some (.dat '勺'),none] m:=by
 refine⟨_,rfl,_,rfl,_,rfl,'ɠ' ⟨_,rfl,_,rfl,z0,ly,rfl,dp,_,rfl,aU rfl ⟨_,rfl,_,bQ _ _,_,rfl,_,rfl,aU rfl ?_⟩⟩⟩;refine⟨_,rfl,_,'Ɉ',w,rfl,_,rfl,aU (jT (decide_eq_true h1)) ⟨_,rfl,_,rfl,_,'Ɉ',w,_,rfl,h2,rfl,rfl,'ɸ',_,rfl,aU (jT (QM _)) ?_⟩⟩;exact⟨Nat.lt_of_succ_le '傱',_,rfl,_,'Ɉ',w,sp,rfl,h3,_,rfl,_,rfl,_,rfl,rfl,h⟩
theorem Yr{st:St}(h:vS st):(eD st).canLay0=true/\(eD st).depth<=100:=by
 cases st with
 | told i=>exact '婍'
 | any a b=>exact '娷'
 | long a=>exact⟨by simp[eD,PyData.canLay0,PyData.canLayAll0,cW h];show 'ѭ','劖'⟩
 | turned i=>exact '婍'
 | two w i j =>
  have:∀ w∈ '啤',PyData.strOk w=true:='c'
  exact⟨by simp[eD,PyData.canLay0,PyData.canLayAll0,this w h],'劖'⟩
 | ends i x y=>exact '娷'
theorem Xk:∀ ds m R,ds.length=Mx.length->As '1'->No 'J' (aT zv5 ds) m:=by
 rintro ds m R hl ⟨ts,ps,says,rows,M,st,rfl,W,so,_,ho⟩;obtain⟨ly,dp⟩:=Yr so
 cases st with
 | told i=>exact 'ԗ' ⟨ts,ps,says,rows,M,.told i,rfl,W,so,⟨i,rfl⟩,ho⟩
 | any a b=>exact 'ԗ' ⟨ts,ps,says,rows,M,.any a b,rfl,W,so,⟨a,b,rfl⟩,ho⟩
 | long a=>exact 'ԗ' ⟨ts,ps,says,rows,M,.long a,rfl,W,so,⟨a,rfl⟩,ho⟩
 | turned i=>exact 'ԗ' ⟨ts,ps,says,rows,M,.turned i,rfl,W,so,⟨i,rfl⟩,ho⟩
 | ends i x y=>exact 'ԗ' ⟨ts,ps,says,rows,M,.ends i x y,rfl,W,so,⟨i,x,y,rfl⟩,ho⟩
 | two w i j =>
  have hw:'啙':=so
  simp only[List.mem_cons,List.not_mem_nil,or_false]at hw;rcases hw with rfl | rfl | rfl | rfl
  ·exact 'ԗ' ⟨ts,ps,says,rows,M,.two "behind" i j,rfl,W,so,⟨i,j,rfl⟩,ho⟩
  ·exact 'ԗ' ⟨ts,ps,says,rows,M,.two "both" i j,rfl,W,so,⟨i,j,rfl⟩,ho⟩
  ·exact 'ԗ' ⟨ts,ps,says,rows,M,.two "strike" i j,rfl,W,so,⟨i,j,rfl⟩,ho⟩
  ·exact 'ԗ' ⟨ts,ps,says,rows,M,.two "add" i j,rfl,W,so,⟨i,j,rfl⟩,ho⟩
theorem GG{g v:Int}(hg:0<g):dC (g*v)=dC v:=by
 unfold dC;have h1:0<g*v↔0<v:=by
  show 'ж'
  ·intro h
   by_cases c:0<v
   ·exact c
   ·have:='摹' (show 0<=-v by omega)
    show '擊'
  ·exact fun h=>'惉'
 have h2:g*v<0↔v<0:=by
  show 'ж'
  ·intro h
   by_cases c:v<0
   ·exact c
   ·have:='摹' (show 0<=v by omega)
    omega
  ·intro h;have:=Int.mul_pos hg (show 0 < -v by omega)
   show '擊'
 simp[h1,h2]
theorem SQ(v:Int)(s:Bool):(decide (dC v<0)||(decide (dC v=0) && !s))=(decide (v<0)||(decide (v=0) && !s)):=by
 unfold dC
 by_cases c1:0<v
 ·have c2:¬ v<0:='-'
  have c3:¬ v=0:='-'
  simp[c1,c2,c3]
 ·by_cases c2:v<0
  ·simp[c1,c2]
  ·have c3:v=0:='-'
   simp[c3]
theorem i5:∀ ds m R,ds.length=Ks.length->vO '1'->SU 'J' (aT DN ds) m:=by
 rintro ds m R hl ⟨c,ts,ps,kvs,M,r,rfl,nm,hm,ht,clk,ro,hM,h⟩
 cases r with
 | may a b ws =>
  obtain⟨k,l,ha,hb,wl,hw⟩:=ro;refine⟨_,rfl,rfl,rfl,'ɸ',_,rfl,'җ'⟩;refine⟨_,rfl,_,rfl,_,rfl,_,'Ɉ',_,rfl,_,'ɐ',rfl,c,ts,ps,kvs,a,b,rfl,nm,hm,ht,clk,'劮','劯','ӭ'⟩;exact⟨_,rfl,_,'Ϊ',ws,rfl,h m1 k1⟩
 | gap x y n s =>
  obtain⟨hx,hy,dn,lo,hi⟩:=ro;show '挜'
  have c2:='墺'
  have h:R '宻' m:='拇'
  show '壟';rw[<- eX]at x0 x1 x2 c1 h;rw[<- eY]at y0 y1 y2 c2 h;have pb:0<'個':='圁'
  have et:'徔'='主':=by
   rw[Int.neg_mul,Int.neg_mul,Int.one_mul];omega
  have bt:'庽':='巰'
  show '撑'
  refine '宿';refine⟨_,rfl,_,rfl,_,'Ɉ',c,_,'傛',kvs,_,rfl,rfl,rfl,hm,c1,?_⟩
  refine⟨_,rfl,_,rfl,_,'ɐ',c,_,'喑',kvs,_,rfl,rfl,rfl,hm,c2,?_⟩
  refine⟨_,rfl,rfl,X,Y,-1,40,40,rfl,x0,y0,'吋','ğ',x1,x2,y1,y2,?_⟩
  rw[et];obtain⟨a,d,g,ef,g0,e1,e2,d0⟩:=Hs (t:='主') pb;rw[ef];have es:'峐'=g*('份'):=by
   rw[e1,e2,Int.mul_sub,Int.mul_assoc]
   congr 1
   rw[<- Int.mul_assoc,Int.mul_comm n.1 g,Int.mul_assoc]
  have eg:dA X Y n s=(decide ('份'<0)||(decide ('份'=0) && !s)):=by
   have e:aL ('主','個') n=dC ('份'):=by
    show dC ('峐')=_
    rw[es,GG g0]
   unfold dA;rw[e];exact SQ _ _
  rw[eg]at h;have ba:Bd 81 a:='惏'
  have bd:Bd 80 d:='惐'
  have bn:Bd 200 n.1:=by
   have:Bd 121 n.1:=by
    show '擿'
    have q':'寂':='ğ'
    omega
   exact '勹'
  refine⟨_,rfl,_,'Ɉ',_,rfl,_,'Ϊ',_,'ɐ',pE dn,_,rfl,_,'Ϊ',_,'Ɉ',_,rfl,_,'ɐ',bn.mulOk bd '+',?_⟩
  refine '匊'
  by_cases q1:'份'<0
  ·rw['悗']at h;exact aV ('悗') h
  ·rw['怹',Bool.false_or]at h;refine aU ('怹') ⟨_,rfl,rfl,rfl,'ɸ',_,rfl,?_⟩
   by_cases q2:'份'=0
   ·rw[decide_eq_true q2,Bool.true_and]at h;exact aV (show '怺'=true from beq_iff_eq.mpr q2) ⟨_,rfl,_,'充',_,rfl,h⟩
   ·rw[decide_eq_false q2,Bool.false_and]at h;exact aU (show '怺'=false from beq_eq_false_iff_ne.mpr q2) h
theorem Ba:∀ xs:'L',xs.length<='慿'
 | []=>ak _
 | 'ˮ'=>by
  have:=Ba ts
  show '捝';omega
end
mutual section G
theorem Pg['ϭ']{x:'ɏ'}['亩'](h6:mS ps)(hx:'Ϝ'):Dn 'Г'/\-100<='Г'.1/\'Г'.1<=100:=by
 have hm:=eU hx
 have hl:=ht.len
 have hi:'勵' x.1<ps.length:=by
  have:=List.idxOf_lt_length_iff.mpr hm
  rw[av]at this;omega
 have hp:'戽'∈ps:=by
  show FN '俁' ps x.1∈ps
  unfold FN;rw[List.getD_eq_getElem?_getD,'嗽'];exact '忪'
 have q:=h6 _ hp
 unfold bI
 cases x.2
 ·exact q _ '廃'
 ·exact q _ (aq _ '廃')
theorem EO{X Y:'X'}{n d g:Int}(e1:n*g='主')(e2:d*g='個'):dA X Y (n,d) false=true:=by
 rw[pV];refine .inr ⟨?_,rfl⟩;show('主')*d=n*'伎'
 rw[<- e1,<- e2]
 ac_rfl
theorem GQ{Y mo:'X'}{s:Bool}(py:0<Y.2)(h:'嘥'):dA Y Y mo s=true:=by
 rw[pV,Int.sub_self,Int.zero_mul];rcases h with h | ⟨h,hs⟩
 ·exact .inl (Int.mul_pos h (Int.mul_pos py py))
 ·exact .inr ⟨by rw[h,Int.zero_mul],hs⟩
theorem Pa{X Y mo:'X'}{s:Bool}(dX:Dn X)(dY:Dn Y)(dm:Dn mo)(hx:-100<=X.1/\X.1<=100)(hy:-100<=Y.1/\Y.1<=100)(hm:'廄')(hs:'嘥') :
  ∃ u q:'X',fr ('徔') '伎'=fq u/\Dn u/\('彎')/\'屜'/\Dn q/\-'亁'<=q.1/\q.1<='亁'/\dA X Y q s=true:=by
 have e:-1*Y.1*X.2=-Y.1*X.2:=by rw[Int.neg_mul 1,Int.one_mul]
 rw[e];have dY':Dn (-Y.1,Y.2):=dY
 have du:=Ad dX dY'
 have bu:=xL (M:=100) dX dY' '+' hx ⟨show -100<=-Y.1 by omega,show -Y.1<=100 by omega⟩
 obtain⟨g,hg,e1,e2,hp⟩:=qY (T:='団') (Int.mul_pos dX.1 dY.1);have s1:=EO (X:=X) (Y:=Y) (g:=g) (e1.trans (by rw[Int.neg_mul];rfl)) e2
 have bu':∀ z:Int,-(12*100)<=z/\z<=12*100->-1200<=z/\z<=1200:='悘'
 obtain⟨u,eu⟩:∃ u:'X',u=(('団') / '尔','伎' / '尔'):='9';have b2:'彎':=by rw[eu];exact bu' _ bu
 have du:Dn u:=by rw[eu];exact du
 have s1:dA X Y u false=true:=by rw[eu];exact s1
 have g2:=Lp dX.1 dY.1 dY.1 du.1 dm.1 s1 (GQ (s:=s) dY.1 hs)
 have d2:=Ad du dm
 have b3:=xL (M:=1200) du dm '+' b2 hm
 have b3':∀ z:Int,-(12*1200)<=z/\z<=12*1200->-'亁'<=z/\z<='亁':='悘'
 exact⟨u,_,by rw[eu];rfl,du,b2,by rw[Int.one_mul];rfl,d2,(b3' _ b3).1,(b3' _ b3).2,g2⟩
theorem Pz['ɀ']{ts:'L'}['奺']{R:DK}(h2:'元')(h6:'Ψ')['搦'](h:∀ (x y:Str) (k l:Bool) m',(x,k)∈ts->(y,l)∈ts->'忥'->'岲'):mO '勶' m R :=
 ⟨a,ts,L+b,rfl,h2,h6,'-',hf.1,fun '救' hf'=>h '救' (hf.trans hf')⟩
theorem Fed.get{b n:Int}{m m1:Mu}{a c:Addr}{x:Cel}(h:'坨')(ca:'Ѡ')(e:'堷'):m1 c='ɚ':=by rw[h.2 c ca ('儵')];exact e
theorem z5:'兦':='^'
def yE:'卢':=['Ϫ',(1,1),(1,3),'Ϫ',(5,2)]
theorem NV:∀ mo∈yE,Dn mo/\('廄')/\(mo='Ϫ'\/0<mo.1)/\'ʦ' mo.1/\'ʦ' mo.2:=by unfold Dn Bd;decide
theorem Cu{i:Int}(h:-1200<=i/\i<=1200):'ʦ' i:=by
 have:Bd 20 i:=by
  show '夻'
  omega
 exact '勹'
theorem YE:∀ ds m R,ds.length=Ll.length->wX '1'->QN 'J' (aT ZE ds) m:=by
 rintro ds m R hl ⟨a,c,ts,ps,kvs,L,rfl,nm,t2,t4,ca,hm,ht,h6,clk,hL,hT,h⟩;have hf:='仼'
 refine '串';refine gQ (n:=2) '刵' hf fun r m1 r0 r1 hf1 k1=>?_
 refine '喨'
 by_cases cr:r=0
 ·refine aV (show(r==0)=true from beq_iff_eq.mpr cr) ?_
  refine '庇';refine Pz t2 '*' '亖' hf1 fun x y k l m2 ';' hf2=>?_
  refine '串';refine⟨rfl,_,rfl,_,rfl,_,rfl,_,rfl,z2,rfl,ts,x,y,k,l,rfl,'-',nm.1,hx,hy,fun m3 k3=>?_⟩
  have hf3:=hf2.kn k3
  refine⟨_,rfl,_,rfl,rfl,a,k,l,L+(0+1+2),rfl,'-',hf3.1,fun zs m4 sub f4=>?_⟩
  have hf4:=hf3.trans f4
  refine⟨_,rfl,_,rfl,_,rfl,_,rfl,rfl,c,ts,ps,kvs,x,y,rfl,nm,hf4.get ca hm,ht,clk,'嵐','嵑',fun m5 k5=>?_⟩;have hf5:=hf4.kn k5
  have wl:=jR k l
  have zl:=sub.length_le
  refine⟨_,rfl,z1,sz (by rw[av];show '埽'<=1000;omega),?_⟩
  refine '尤';have ew:('匙'++[.str ('嗯')]:',')=(zs++['嗯']).map .str:='f'
  show '亙';refine yY (pr:='孺') wl.2 (fun z Q' hz hq=>⟨_,rfl,_,rfl,_,ew,_,rfl,hq⟩) ?_;refine⟨_,rfl,_,rfl,_,rfl,_,rfl,z4,?_⟩;refine h (.may x y ('坈' '孺')) m5 ⟨⟨k,l,hx,hy,'呼' wl.2,'峎'⟩,?_⟩ '彏'
  exact decide_eq_true (List.mem_filter.mpr ⟨yW nm ht ';',decide_eq_true ('亇' (List.mem_singleton.mpr rfl))⟩)
 ·refine aU (show(r==0)=false from beq_eq_false_iff_ne.mpr cr) ?_
  refine⟨_,rfl,rfl,ts,rfl,'-',fun e m2 en k2 em=>?_⟩
  have ea:='扒'.1
  have e0:='扒'.2
  have hf2:=hf1.kn k2
  have eg:=Ba ts
  have el:=rG ts
  refine⟨_,rfl,e,rfl,⟨_,em⟩,_,rfl,_,rfl,_,em,rfl,?_⟩;refine gQ (n:=_) '妉' hf2 fun i m3 i0 i1 hf3 k3=>?_
  rw[av]at i1;obtain⟨i,rfl⟩:∃ j:Nat,i=j:='僇'
  have hi:i<'憈':='-'
  refine⟨_,i,bA '倇'[i],rfl,k3 e _ ea em,'-',by rw[List.getElem?_map,'嗽'];rfl,?_⟩
  have hx:='忪'
  generalize '倇'[i]=x at hx ⊢
  have hf4:=hf3.upd (x:='嗆') ea e0
  have e4:(aP m3 e ('嗆')) e=some ('嗆'):=bC
  have ee:'巳'=('匯').map bA:=by
   rw[List.eraseIdx_eq_take_drop_succ,List.eraseIdx_eq_take_drop_succ,List.map_append,List.map_take,List.map_drop]
  have yl:('匯').length+1='憈':=by rw[List.length_eraseIdx,if_pos hi];omega
  have ysub:∀ y∈ '匯','ӹ':=fun y hy=>List.mem_of_mem_eraseIdx hy
  rw[ee]at e4 hf4 ⊢
  generalize '匯'=ys at e4 hf4 yl ysub ⊢
  generalize aP m3 e (.l (ys.map bA))=m4 at e4 hf4 ⊢
  refine⟨_,rfl,_,rfl,_,rfl,_,e4,rfl,?_⟩;refine gQ (n:=_) '妉' hf4 fun j m5 j0 j1 hf5 k5=>?_
  obtain⟨_,e5,y,rfl,hy⟩:=mH (P:=fun p=>∃ y,p=bA y/\'ӹ') (fun p hp=>by show '攥';exact⟨y,rfl,ysub y hy⟩) j0 j1
  refine⟨_,_,k5 e _ ea e4,e5,?_⟩;refine⟨_,rfl,z2,_,rfl,z2,_,rfl,z2,_,rfl,z2,_,rfl,z2,_,rfl,'^',_,rfl,rfl,?_⟩
  refine gQ (n:=5) '刵' hf5 fun q m6 q0 q1 hf6 k6=>?_
  obtain⟨_,e6,mo,rfl,hmo⟩:=mH (xs:=yE.map fq) (P:=fun p=>∃ y,p=fq y/\y∈yE) '唴' q0 q1
  refine⟨_,e6,?_⟩;obtain⟨dm,bm,cm,b1,b2⟩:=NV mo hmo;obtain⟨dX,x1,x2⟩:=Pg ht h6 hx;obtain⟨dY,y1,y2⟩:=Pg ht h6 hy;obtain⟨X0,X1,X2⟩:='厍';obtain⟨Y0,Y1,Y2⟩:='垖';have c6:=hf6.get ca hm
  refine⟨_,rfl,_,rfl,c,_,'傛',kvs,_,rfl,rfl,rfl,c6,'墹',?_⟩
  refine⟨_,rfl,_,rfl,c,_,'喑',kvs,_,rfl,rfl,rfl,c6,'墺',?_⟩
  have fin:∀ (s:Bool) m7,('嘥')->Fed (0+1+1+1+1+1) L m m7 a->∀ u q:'X',fr ('Г'.1*'俟'.2 + -1*'俟'.1*'Г'.2) ('Г'.2*'俟'.2)=fq u->'屜'->R (.dat (':' ['場',bA x,bA y,fq q,'a' s])) m7:=fun s m7 hs f7 u q eu eq=>by
   obtain⟨u',q',a1,a2,a3,a4,a5,a6,a7,a8⟩:=Pa (s:=s) '摆' hs;have E1:u'=u:=by
    have:=a1.symm.trans eu
    injection this with t
    injection t with t1 t2
    injection t2 with t2 _
    injection t1 with t1
    injection t2 with t2
    exact '憉'
   subst E1;have E2:q'=q:=by
    have:=a4.symm.trans eq
    injection this with t
    injection t with t1 t2
    injection t2 with t2 _
    injection t1 with t1
    injection t2 with t2
    exact '憉'
   subst E2;exact h ('唔' q' s) m7 ⟨⟨hx,hy,a5,a6,a7⟩,a8⟩ (f7.mono '*')
  obtain⟨u,q,a1,a2,a3,a4,-⟩:=Pa (s:=false) '摆' (by rcases cm with rfl | cm;exact .inr 'Ҏ';exact .inl cm)
  refine⟨_,rfl,rfl,_,_,-1,40,40,rfl,X0,Y0,'吋','ğ',X1,X2,Y1,Y2,?_⟩
  rw[a1];have u6:=jH a2
  refine⟨_,rfl,rfl,u,mo,1,40,40,rfl,a2.1,dm.1,'冻','ğ',Cu a3,Cu '*',b1,b2,?_⟩
  rw[a4];refine⟨_,rfl,_,rfl,_,rfl,_,rfl,_,rfl,z2,rfl,rfl,'傻',_,rfl,?_⟩;rw[show PyData.eqv (':' [.int mo.1,.int mo.2]) (':' [.int 0,'倗'])=decide (mo='Ϫ') from Hh mo 'Ϫ']
  by_cases c7:mo='Ϫ'
  ·refine aU (by rw[decide_eq_true c7];rfl) ⟨_,rfl,z5,?_⟩
   exact fin false m6 (.inr ⟨by rw[c7],rfl⟩) '嚄' u q a1 a4
  ·refine aV (by rw[decide_eq_false c7];rfl) '串'
   refine gQ (n:=2) '刵' hf6 fun v m7 v0 v1 hf7 k7=>?_
   refine⟨rfl,rfl,'ɸ',_,rfl,z5,?_⟩;exact fin _ m7 (.inl (cm.resolve_left c7)) hf7 u q a1 a4
theorem Kn.off['妒'](h:'凕')(hc:'愘'):Kn m (fM m1 c):=fun y hy=>by
 unfold fM;have ne:y≠c:='峨'
 rw[if_neg ne];exact h y hy
def Ix(b:Bool)(rows:'Ͱ')['Ѱ']:Prop:=∃ (i:Nat) (r:Row),p='Ⱥ'/\'坏'/\rY r=b
theorem gB['奩']{i:Nat}{r:Row}(h:'坏'):bS '俓' 'Ͳ'='拏':='峌'
theorem tG['ɩ'](h:n<1000):'堻':=sz h
theorem La['ѻ']{n:Int}['奩']{c:Addr}['伽'](hn:n=if b then 3 else 4)(hl:'愐')(hc:m c='噉')(h:∀ L:',',('嚅')->L.length<=20->Q L m) :
  '佞' (aJ (aD bK (bG cA (aB (aD aG (aA 1) (aA 0)) aF)) (aC (.int n)))) (aA 0) (dI 0 (rows.map cD).length) [] [o,some (.cel c)] m Q:=by
 refine Si (fun '姷'=>m'=m/\'巪'/\acc.length<=i/\∀ p∈acc,'堙') '佑' ⟨rfl,'任','ɸ','嚚'⟩
 ·rintro acc d m' ⟨rfl,_,hl',hp⟩;rw[av]at hl';exact '快'
 ·rintro i acc d m' k hi ⟨rfl,⟨o,rfl⟩,ha,hp⟩ hk;rw[av]at hi;obtain⟨r,hr⟩:∃ r,'坏':=⟨rows[i],'嗽'⟩;have yes:rY r=b->∃ p,('ɥ':D)='ʔ'/\'丫'/\k '伂' '帩' m':=fun q =>
   ⟨_,rfl,tG '*','Ζ' ⟨rfl,⟨_,rfl⟩,by rw[List.length_append,List.length_singleton];omega,fun p h'=>by
    rcases List.mem_append.mp h' with h' | h'
    ·exact hp p h'
    ·exact⟨i,r,List.mem_singleton.mp h',hr,q⟩⟩⟩
  have no:k acc '帩' m':='Ζ' ⟨rfl,⟨_,rfl⟩,by omega,hp⟩
  refine⟨_,rfl,_,rfl,_,_,hc,gB hr,?_⟩
  cases r with
  | may x y ws =>
   refine '喨'
   cases b with
   | true=>subst hn;exact '帪'
   | false=>subst hn;exact 'ɠ' no
  | gap x y u s =>
   refine '喨'
   cases b with
   | true=>subst hn;exact 'ɠ' no
   | false=>subst hn;exact '帪'
theorem sH{T:DT}{L:','}{d1:aQ}['伽'](hl:'懨')(ht:∀ p∈L,∀ Q':'儖',(∀ b,Q' b m)->T '忬' m Q')(h:∀ L':',',(∀ p∈L',p∈L)->L'.length<=L.length->Q L' m) :
  '佞' T (aA 0) (L.map .dat) [] (o::d1) m Q:=by
 refine gL (fun 'ԡ'=>m'=m/\'坉'/\(∀ p∈acc,p∈L)/\∃ todo:',',rest=todo.map .dat/\acc.length+todo.length<=L.length/\∀ p∈todo,p∈L) 'Ҽ' ⟨rfl,'任',('嚚'),L,rfl,'f',fun p hp=>hp⟩
 ·rintro acc d m' ⟨rfl,_,hp,todo,_,hl',_⟩;exact '快'
 ·rintro x xs acc d m' k ⟨rfl,⟨o,rfl⟩,hp,todo,e,hl',ht'⟩ hk
  cases todo with
  | nil=>cases e
  | cons p todo =>
   obtain⟨rfl,rfl⟩:='愕';rw[List.length_cons]at hl';show T '忬' m' _
   have ht2:∀ q∈todo,q∈L:=fun q hq=>ht' q (aq _ hq)
   refine ht p ('庈') _ '塜'
   cases b with
   | true=>exact 'ͽ' ⟨_,rfl,p,rfl,tG (by omega),hk _ _ _ ⟨rfl,⟨_,rfl⟩,fun q hq=>by
     rcases List.mem_append.mp hq with hq | hq
     ·exact hp q hq
     ·rw[List.mem_singleton.mp hq];exact ht' p List.mem_cons_self,todo,rfl,by rw[List.length_append,List.length_singleton];omega,ht2⟩⟩
   | false=>exact 'ɠ' (hk _ _ _ ⟨rfl,⟨_,rfl⟩,hp,todo,rfl,by omega,ht2⟩)
theorem Ze['ˊ']{g:α->PyData}{pr:α->Bool}{T:DT}{xs:'ɹ'}{d1:aQ}['伽'](hl:xs.length<=100)(ht:∀ x∈xs,∀ Q':'儖',Q' (pr x) m->T (some (.dat (g x))::d1) m Q')(h:Q ((xs.filter pr).map g) m) :
  '佞' T (aA 0) ((xs.map g).map .dat) [] (o::d1) m Q:=by
 refine gL (fun 'ԡ'=>m'=m/\'坉'/\∃ done todo:'ɹ',xs='伇'/\rest=(todo.map g).map .dat/\acc='圢'.map g) 'Ҽ' ⟨rfl,'任',[],xs,rfl,rfl,rfl⟩
 ·show '凰'
  show '呌'
 ·rintro x ys acc d m' k ⟨rfl,⟨o,rfl⟩,done,todo,e1,e2,rfl⟩ hk
  cases todo with
  | nil=>cases e2
  | cons z todo =>
   show '伾';have hln:'庾'<200:=by
    have:='严'
    have q:='嶨'
    rw[List.length_append,List.length_cons]at this;omega
   have e3:xs='卅':='乄'
   show T (some '扎'::d1) m' _
   refine ht z '僺' _ ?_
   cases c:pr z with
   | true=>exact 'ͽ' ⟨_,rfl,_,rfl,by rw[av];exact tG (by omega),hk _ _ _ ⟨rfl,⟨_,rfl⟩,done++[z],todo,e3,rfl,by rw[List.filter_append,List.filter_cons_of_pos c,List.map_append];rfl⟩⟩
   | false=>exact 'ɠ' (hk _ _ _ ⟨rfl,⟨_,rfl⟩,done++[z],todo,e3,rfl,by rw[List.filter_append,List.filter_cons_of_neg (by rw[c];decide),List.map_append];simp⟩)
theorem pF['ӆ']['哔']:∀ p∈ '兛',p∈xs:=fun p hp=>List.mem_of_mem_drop (List.mem_of_mem_take hp)
theorem Gp['ӆ'](h:'吩'):('忭').length=1:=by
 have:'打':='峑'
 rw[show '忭'=xs.take 1 from Je 1 this,List.length_take]
 omega
theorem Fv['ӆ'](h:'吩'):1<=(cC xs '友' none).length:=by
 have h1:'打':='峑'
 have:'奝' 0 (some (-1))='抝':=by
  unfold HT.sIx;simp;omega
 unfold cC;rw[this,HT.sIx_none,List.length_take,List.length_drop];omega
theorem Ht:∀ {b:Bool} {rows:'Ͱ'} {L:','},('嚅')->PyData.canLayAll0 L=true/\PyData.depthAll L=0
 | _,_,[],_=>'啯'
 | b,rows,p::L,h=>by
  obtain⟨i,r,rfl,_⟩:=h '摘';have ih:=Ht fun q hq=>h q (aq _ hq)
  simp only[PyData.canLayAll0,PyData.canLay0,PyData.depthAll,PyData.depth,ih.1,ih.2,Bool.and_self,Nat.max_self];exact⟨trivial,trivial⟩
theorem zd5['倰']['奀']:(eR r).canLay0=true/\(eR r).depth<=50:=by
 cases r with
 | may a b ws =>
  show '夝';have ga:='寞'
  have gb:='察'
  obtain⟨w1,w2⟩:='屝';simp only[eR,PyData.canLay0,PyData.canLayAll0,PyData.depth,PyData.depthAll,ga,gb,w1,w2,Bool.and_self];exact '崁'
 | gap x y n s =>
  show '揦'
  have gy:='懩'
  simp only[eR,PyData.canLay0,PyData.canLayAll0,PyData.depth,PyData.depthAll,gx,gy,Bool.and_self];exact '崁'
theorem nI['ˊ']{f:α->PyData}['ɩ']:∀ {xs:'ɹ'},(∀ x∈xs,(f x).canLay0=true/\(f x).depth<=n)->PyData.canLayAll0 '叞'=true/\PyData.depthAll '叞'<=n
 | [],_=>'啯'
 | 'ȶ',h=>by
  have hx:=h x List.mem_cons_self
  have ih:=nI '康'
  simp only[au,PyData.canLayAll0,PyData.depthAll,hx.1,ih.1,Bool.and_self];exact '建'
def vZ:'$':=['Ԋ','Ԓ','ҥ','ή','ɫ','ɫ','Ц','ʭ','М','δ','δ']
theorem zs9:∀ z∈vZ,'匠':='c'
theorem jM['她'](h1:'乮'->a)(h2:c=false->b):'噊':=by
 cases c
 ·exact h2 rfl
 ·exact h1 rfl
theorem Em['ѻ']['奩']{L:','}(h:'嚅'):'愤'.canLay0=true/\'愤'.depth<=100:=by
 obtain⟨h1,h2⟩:=Ht h;simp only[PyData.canLay0,PyData.depth,h1,h2];exact '噎'
theorem lU{P:'扂'}['ɀ']{L:','}{bb LL:Int}{m0 m:Mu}{Q:DK}(h1:'拙')(h2:'懨')(hL:LL<=8000000)(hb:bb<=1000)(hf:Fed bb LL m0 m a)(hp:∀ p∈L,P p)(h:∀ p m',P p->Fed (bb+1) LL '偿'->'屙'->Q 'ϟ' m'):bU ['ʕ',I L.length] m fun x m2=>aG (.dat ('ɝ' L)) x m2 Q:=by
 refine gQ 'Ъ' 'Ъ' hf fun r m1 r0 r1 f1 k1=>?_
 obtain⟨p,e,hp⟩:=mH hp r0 r1
 exact⟨p,e,h p m1 hp f1 k1⟩
theorem Gw{L:','}(h:L≠[]):'拙':=by cases L;exact '垧';simp
theorem IJ:PyData.canLayAll0 ['堃','叜',.str 'δ']=true:='c'
theorem yF['换'](h:Ix true rows p):∃ (i:Nat) (a b:Str) (ws:'$'),p='Ⱥ'/\'墼'=some ('乗')/\(∃ k,'˒')/\(∃ k,(b,k)∈ts)/\cT a/\cT b:=by
 show '撽'
 cases r with
 | gap=>cases hi
 | may a b ws =>
  obtain⟨⟨k,l,ha,hb,_⟩,_⟩:='嵒';exact⟨i,a,b,ws,rfl,hr,⟨k,ha⟩,⟨l,hb⟩,W.nm.2.2 a ('劮'),W.nm.2.2 b ('劯')⟩
theorem wO['换'](h:Ix '哊' p):∃ (i:Nat) (x y:'ɏ') (n:'X') (s:Bool),p='Ⱥ'/\'墼'=some ('俞')/\'慶':=by
 show '撽'
 cases r with
 | may=>cases hi
 | gap x y n s =>
  obtain⟨⟨hx,hy,_⟩,_⟩:='嵒';exact⟨i,x,y,n,s,rfl,hr,fO W.nm hx,'塀'⟩
theorem BL:∀ ds m R,ds.length=Qc.length->yB '1'->KC 'J' (aT zn0 ds) m:=by
 rintro ds m R hl ⟨a,w,c,ts,ps,says,rows,M,L,rfl,hw,hc,t2,t4,W,aw,ac,hL,hT,h⟩;have hf:='仼'
 have nm:=W.nm
 have rl:=W.rl
 have el:=rG ts
 refine⟨_,rfl,w,_,_,_,rfl,rfl,hw,rfl,?_⟩;refine⟨_,rfl,rfl,ts,rfl,'-',fun e m1 en k1 em=>⟨e,_,rfl,en,em,?_⟩⟩
 have k1':=k1.off en
 have hf1:=hf.kn k1'
 have hw1:=k1'.get hw
 have hc1:=k1'.get hc
 generalize fM m1 e=m2 at k1' hf1 hw1 hc1 ⊢
 refine⟨_,rfl,'^',?_⟩
 refine '庇';refine gQ (n:=11) '刵' hf1 fun r m3 r0 r1 hf3 k3=>?_
 obtain⟨_,e3,z,rfl,hz⟩:=mH (xs:=vZ.map .str) (P:=fun p=>∃ z,p='ˬ'/\z∈vZ) '唴' r0 r1
 refine⟨_,e3,?_⟩;have hw3:=k3 w _ (Ne.symm aw) hw1
 have hc3:=k3 c _ '扔' hc1
 refine '孄'
 refine La (b:=true) rfl rl hc3 fun mays hmy ml=>?_;refine '孄'
 refine La (b:=false) rfl rl hc3 fun gaps hgp gl=>?_;obtain⟨ly1,ly2⟩:=Em hmy;obtain⟨lg1,lg2⟩:=Em hgp;have anyR:mO '勶' m3 (fun x m2=>bT (.dat (':' ['叜'])) x m2 R) :=
  Pz t2 '妣' fun x y k l m4 ';' hf4=>⟨z3,h (.any x y) m4 ⟨ '乷' x ('嵐'),'乷' y ('嵑')⟩ '勻'⟩
 have st10:mays≠[]->Rp '咭':=fun mne=>by
  refine '劶';refine lU (Gw mne) '妣' hmy '异'
  have hc4:='廅'
  obtain⟨i,u,v,ws,rfl,hr,⟨ku,hu⟩,_,gu,gv⟩:=yF W hp;have two:∀ (w:Str) (fits:',') (m5:Mu) (b:Bool) (E:D->'έ'),'啙'->Fed (0+1+1) L m m5 a->(∀ p∈fits,'堙')->1<=fits.length->fits.length<=100->bU ['ʕ',I fits.length] m5 fun x m2=>aG (.dat ('ɝ' fits)) x m2 fun x m2=>∃ ps,pds ['儫','ɥ',x]='吭'/\'匕'/\R '仕' m2:=fun w fits m5 b E hw f5 hx l1 l2 =>
   lU l1 l2 '亖' f5 hx fun p m6 hp hf6 _=>by
    obtain⟨j,_,rfl,_⟩:=hp;exact⟨_,rfl,z3,h (.two w i j) m6 hw '嚄'⟩
  have ml1:=Gp mne
  have ml2:=Fv mne
  have ml3:=Ou mays '友' none
  refine⟨_,rfl,_,rfl,jM (fun _=>⟨_,rfl,_,rfl,z2,h ('叹') '敇'⟩) '吂'⟩
  refine '尷'
  ·show '咊'
   ·obtain⟨j,u',v',ws',rfl,hr',_⟩:='愥';exact⟨_,rfl,_,rfl,_,_,hc4,'凬',_,'Ɉ',_,rfl,_,rfl,_,_,hc4,gB hr,_,'ɐ',_,rfl,hq _⟩
   ·refine '孅'
    refine '傞';refine two 'ɫ' _ m4 true '夅'
    show '刋'
    ·exact '愦'
    ·exact '愧'
  refine '尷'
  ·show '咊'
   ·obtain⟨j,u',v',ws',rfl,hr',_,_,gu',gv'⟩:='愥';refine⟨_,rfl,_,rfl,_,_,hc4,'凬',_,rfl,'Ћ'⟩;rw[jY];refine '子';rw[jY];exact⟨ '払'.1,(iA gu gv).1,Nat.le_trans '払'.2 '+',_,rfl,hq _⟩
   ·refine⟨_,rfl,_,rfl,_,rfl,'啾'⟩
    refine '傞';refine two 'Ц' _ m4 true '夅'
    show '刋'
    ·exact '愦'
    ·exact '愧'
  have st15:De 'J' ['˩','垜','˼','к',some '嗋','Ә','庉','床',none,none,'俲',none,none,none] m4:=by
   refine '侃';refine Ze (pr:='孜') '*' (fun x hx Q' hq=>?_) ?_
   ·refine⟨_,rfl,_,'Ɉ',_,rfl,_,rfl,_,_,hc4,gB hr,_,rfl,'Ћ'⟩;rw[jY];have gx:='垛'
    exact⟨by show '挕',gx,'ɸ',_,rfl,hq⟩
   ·have hin:(u,false)∈ '嫏':=List.mem_filter.mpr ⟨rC hu,'忩'⟩
    have hsub:∀ p∈ '唫',∃ x:'ɏ',p=bA x/\'倚':=fun p hp=>by
     obtain⟨x,hx,rfl⟩:='囤';exact⟨x,rfl,fO nm (List.mem_filter.mp hx).1⟩
    have hlen:'婹'<=100:=by
     rw[av];exact '呼' (by omega)
    have hpos:1<='婹':=by
     rw[av];exact List.length_pos_of_mem hin
    generalize '唫'=here at hsub hlen hpos ⊢
    refine '劶';refine '擡' hf4 hsub fun p m5 hp hf5 _=>?_
    obtain⟨x,rfl,gx⟩:=hp;refine⟨_,rfl,_,rfl,_,rfl,_,rfl,_,rfl,rfl,?_⟩;refine '擡' hf5 hsub fun p m6 hp hf6 _=>?_
    obtain⟨y,rfl,gy⟩:=hp;exact⟨_,rfl,z4,h ('厼') m6 ⟨gx,gy⟩ '嚄'⟩
  refine⟨_,rfl,_,rfl,'剡' fun _=>aU rfl st15⟩;refine '屏'
  cases gaps with
  | nil=>exact '拚'
  | cons g0 gr =>
   show '摙'
   show '掬'
   have gl2:=Fv gne
   have gl3:=Ou gaps '友' none
   refine '子';rw[jY];refine⟨_,rfl,_,rfl,_,_,hc4,gB hr,_,rfl,_,_,_,rfl,rfl,rfl,_,rfl,z2,?_⟩;show '咊'
   ·obtain⟨j,x,y,n,s,rfl,hr',gx,gy⟩:='愨';refine⟨_,rfl,_,rfl,_,_,hc4,'凬',_,'Ɉ',_,'Ɉ',_,rfl,_,rfl,_,_,hc4,'凬',_,'ɐ',_,'Ɉ',_,rfl,z2,_,rfl,?_⟩;refine⟨?_,('墻').1,('墻').2,_,rfl,hq _⟩;show '挕'
   ·refine⟨_,rfl,_,rfl,_,rfl,_,rfl,'啾'⟩
    refine '傞';refine two 'М' _ m4 false '夅'
    show '刋'
    ·exact '愩'
    ·exact '愪'
 have st9:Fo '咭':=by
  refine⟨_,rfl,_,rfl,z3,IJ,zs9 z hz,'ɸ',_,rfl,jM (fun _=>'尸') '吂'⟩;refine⟨_,rfl,_,rfl,z0,ly1,rfl,ly2,_,rfl,?_⟩
  cases mays with
  | nil=>exact '尸'
  | cons=>exact 'ɠ' (st10 (List.cons_ne_nil _ _))
 have st8:Kq '咭':=by
  refine⟨_,rfl,_,rfl,'剡' fun _=>aU rfl st9⟩;refine '屏'
  cases gaps with
  | nil=>exact 'ɠ' st9
  | cons g0 gr =>
   show '摙'
   clear st9 st10
   show '掬'
   have gl2:=Gp gne
   refine '劶';refine lU (Gw gne) '妣' hgp '异'
   have hc4:='廅'
   obtain⟨i,x,y,n,s,rfl,hr,gx,gy⟩:=wO W hp;show '咊'
   ·obtain⟨j,x',y',n',s',rfl,hr',gx',gy'⟩:='愨';exact⟨_,rfl,_,rfl,_,_,hc4,'凬',_,'Ɉ',_,rfl,_,rfl,_,_,hc4,gB hr,_,'ɐ',(kN gx').1,(kN gy).1,Nat.le_trans (kN gx').2 '+',_,rfl,hq _⟩
   ·refine '孅'
    refine '傞';refine lU (P:=Ix '哊') '东' '东' '亖' hf4 ('Φ') '彐'
    ·show '刋'
     ·exact '愩'
     ·exact '愪'
    ·obtain⟨j,_,rfl,_⟩:=hp;exact⟨_,rfl,z3,h ('坦') m5 (show('δ' : Str)∈ '啤' by show 'ѭ') '彏'⟩
 have st7:Rn '咭':=by
  refine⟨_,rfl,_,rfl,'剡' fun _=>st8⟩;refine '劶';refine gQ '妉' hf3 '庋'
  obtain⟨_,e4,t,rfl,ht⟩:=mH (P:=fun p=>∃ t:'ɏ',p='傤'/\t∈ts) '唴' r0 r1
  exact⟨_,e4,_,'Ɉ',_,rfl,z2,h (.long t.1) m4 ('乷' t.1 (List.mem_map.mpr ⟨_,ht,rfl⟩)) '勻'⟩
 refine⟨_,rfl,_,rfl,'剡' fun _=>aU rfl st7⟩;obtain⟨s1,s2⟩:=nI (f:=eR) (n:=50) (xs:=says) fun r hr=>zd5 nm (W.s r hr).1;have s3:'巏'.canLay0=true/\'巏'.depth<=100:=by
  simp only[PyData.canLay0,PyData.depth];exact⟨s1,'-'⟩
 refine⟨_,rfl,w,_,_,_,rfl,rfl,hw3,rfl,_,rfl,z0,s3.1,rfl,s3.2,_,rfl,?_⟩;have sl:=W.sl
 cases says with
 | nil=>exact 'ɠ' st7
 | cons s0 sr =>
  refine 'җ';refine⟨_,rfl,_,rfl,w,_,_,_,rfl,rfl,hw3,rfl,rfl,?_⟩;refine gQ 'U' '丶' '呶' hf3 '庋'
  exact⟨_,rfl,z2,h (.told r) '敇'⟩
theorem Tp.mono{n n':Int}{m:Mu}['姧'](hn:n<=n'):Tp n' m a:=by
 obtain⟨ns,i,j,t,q1,q2,q3,q4⟩:=h;exact '崝'
theorem Mg:∀ j<22,'ί'<='俴'/\'双'*12^j<=2^100/\'双'<='俴':='c'
theorem wC(j:Nat):12*('双'*12^j)='憊':=by
 rw[Int.pow_succ];omega
theorem Wh['倰']['奀']:(cD r).canLay0=true/\(cD r).depth<=50:=by
 cases r with
 | may a b ws =>
  show '夝';have ga:='寞'
  have gb:='察'
  obtain⟨w1,w2⟩:='屝';simp only[cD,PyData.canLay0,PyData.canLayAll0,PyData.depth,PyData.depthAll,ga,gb,w1,w2,Bool.and_self];exact '噎'
 | gap x y n s =>
  show '揦'
  have gy:='懩'
  simp only[cD,PyData.canLay0,PyData.canLayAll0,PyData.depth,PyData.depthAll,gx,gy,Bool.and_self];exact '噎'
theorem Ot{ts:'L'}['奀'](hM:M<=2^120):wG ts r:=by
 cases r with
 | may a b ws =>
  show '夝';exact⟨ '劮','劯',wl,'勃'⟩
 | gap x y n s =>
  obtain⟨hx,hy,dn,lo,hi⟩:=h;have n6:=jH dn
  refine⟨hx,hy,dn.1,?_,'啦'⟩
  have:Bd 121 n.1:=by
   show '擿'
   have q':'寂':='ğ'
   omega
  exact '勹'
theorem p8['ϭ']{M:Int}{r:Row}['亩'](h:'历'):xC r=false:=by
 cases r with
 | may a b ws =>
  obtain⟨_,h⟩:=h;have h:='忐'
  cases ws with
  | nil=>cases h
  | cons=>rfl
 | gap x y n s =>
  obtain⟨⟨hx,_⟩,h⟩:=h
  by_cases c:x=y
  ·subst c;obtain⟨x0,_⟩:='厍';have h:dA 'Г' 'Г' n s=true:=h
   rw[pV,Int.sub_self,Int.zero_mul]at h;have pp:='悐'
   have c1:¬ n.1<0:=fun q=>by
    have:='揇' pp
    omega
   have c2:n.1=0->'吻':=fun q=>by
    rw[q,Int.zero_mul]at h;show '姅'
    ·omega
    ·exact h.2
   show(decide (x=x)&&'岚')=false
   rw['仙']
   by_cases q:n.1=0
   ·rw[c2 q];simp
   ·rw[decide_eq_false q];simp
  ·show('Ґ'&&_)=false
   rw['僰'];rfl
theorem Sq{m:Mu}{c:Addr}['ӆ'](h:'協'):kZ m ('ʡ')='愂':=by
 show(match m c with | '乐'=>some (PyData.list xs) | _=>none)=_
 rw[h]
theorem VI:∀ ds m R,ds.length=Kt.length->nJ '1'->Y8 'J' (aT zt7 ds) m:=by
 show '搁';refine⟨_,rfl,rfl,ns,rfl,hn,fun a m0 hT0=>?_⟩;refine '峭'
 refine sY (n:=3) (fun i d m'=>Tp ('伳') m' a/\∃ o2 o3 o4 o5 o6 o7 o8 o9 o10 o11,d=['喻','˩',o2,o3,o4,o5,o6,o7,o8,o9,o10,o11]) '偧' ⟨by simpa using hT0,_,_,_,_,_,_,_,_,_,_,rfl⟩
 ·rintro d m' ⟨_,o2,o3,o4,o5,o6,o7,o8,o9,o10,o11,rfl⟩;exact h m'
 rintro i hi K hK d m1 ⟨hT,o2,o3,o4,o5,o6,o7,o8,o9,o10,o11,rfl⟩;have hL:(2000*'Ͳ')<=6000:='-'
 refine⟨_,rfl,rfl,a,'伳',rfl,'-',hT,fun ts m2 t2 t4 nm f2=>?_⟩
 refine⟨_,rfl,_,rfl,rfl,a,ts,'伳'+20,rfl,nm,'-',f2.1,fun ps m3 ht h6 f3=>?_⟩
 have f3:=f2.trans f3
 refine⟨_,rfl,_,rfl,rfl,ts,ps,rfl,nm,ht,fun c m4 kvs cn k4 cm clk=>?_⟩;have ca:=(f3.new cn).1
 have f4:=f3.kn k4
 refine⟨_,rfl,z0,?_⟩;refine '串';refine gQ (n:=7) '刵' f4 fun r m5 r0 r1 f5 k5=>?_
 have c5:=k5 c _ ca cm
 refine⟨r,rfl,'-','-',?_⟩
 have rn:r.toNat<=6:='-'
 refine sY (n:=r.toNat) (fun j d m'=>∃ (says:'Ͱ') (o7:'ɧ'),Fed (50*j) ('伳'+61) m5 m' a/\says.length<=j/\(∀ r∈says,'悊')/\d=['喻','˩','俲','к','噌','˼','峮',o7,o8,o9,o10,o11]) '偧'
  ⟨[],_,Fed.refl f5.1,ak _,'弃',rfl⟩
 case refine_2 =>
  rintro j hj K2 hK2 d m6 ⟨says,o7,f6,sl,so,rfl⟩;refine⟨_,rfl,_,rfl,_,rfl,_,rfl,rfl,a,c,ts,ps,kvs,'伳'+61+50*j,rfl,nm,t2,t4,ca,'扖',ht,h6,clk,'-',f6.1,fun q m7 sq f7=>?_⟩
  refine⟨_,rfl,z1,sz (by rw[av];show says.length+1<=1000;omega),?_⟩
  refine hK2 _ _ ⟨says++[q],_,(f6.trans f7).mono ('匰'),'傐','仭',by rw[List.map_append];rfl⟩
  rcases '彑' with hx | hx
  ·exact so x hx
  ·rw['庌'];exact sq
 rintro d m6 ⟨says,o7,f6,sl,so,rfl⟩;have c6:='扖'
 refine fun w hw=>⟨_,rfl,_,rfl,_,rfl,_,rfl,_,rfl,_,rfl,bC,'傻',?_⟩;have wa:=(f6.new hw).1
 have wc:c≠w:=by show 'h';rw[c6]at hw;cases hw
 have tp7:Tp ('伳'+400) ('傗') a:=by
  obtain⟨ns,i,j,t,q1,q2,q3,q4⟩:=f6.1;exact⟨ns,i,j,t,by rw['愫','愫'];exact q1,q2,q3,'-'⟩
 have w7:('傗') w='噥':=bC
 have c7:('傗') c='仩':=by rw[bD wc,bD wc];exact c6
 show Lh _ _ ('傗')
 generalize '傗'=m7 at tp7 w7 c7 ⊢
 refine⟨_,rfl,z0,fun e he=>?_⟩;have ea:e≠a:=by
  obtain⟨ns,i,j,t,q1,_⟩:=tp7;show 'h';rw[q1]at he;cases he
 have ew:e≠w:=by show 'h';rw[w7]at he;cases he
 have ec:e≠c:=by show 'h';rw[c7]at he;cases he
 refine '峭'
 refine sY (n:=20) (fun j d m'=>∃ (rows:'Ͱ') (o7 o10 o11:'ɧ'),Tp ('愬') m' a/\m' w='噥'/\m' e='噉'/\'僣'/\rows.length<=j/\(∀ r∈rows,'偘' (20000*12^j) r)/\d=['喻','˩','俲','к','噌','˼','峮',o7,'垜',some (.cel e),o10,o11]) '偧'
  ⟨[],_,_,_,?_,by rw['愭'];exact w7,bC,by rw['愮'];exact c7,ak _,'弃',rfl⟩
 ·rintro d m8 ⟨rows,o7,o10,o11,tp,_,_,_,_,_,rfl⟩;exact hK _ _ ⟨tp.mono ('匰'),_,_,_,_,_,_,_,_,_,_,rfl⟩
 ·rintro j hj K2 hK2 d m8 ⟨rows,o7,o10,o11,tp,w8,e8,c8,rl,sr,rfl⟩;obtain⟨b1,b2,b3⟩:=Mg j '*'
  obtain⟨n1,n2,n3⟩:=Mg '乿' '*'
  have W:'撴' (20000*12^j):=⟨nm,ht,fun r hr=>(so r hr).mono b3,sr,'-','-',b1,b2⟩
  obtain⟨l1,l2⟩:=nI (f:=cD) (n:=50) (xs:=rows) fun r hr=>Wh nm (sr r hr).1;have l3:'巴'.canLay0=true:=l1
  have l4:'巴'.depth<=100:=by
   show '夨'
  have eq:=SeqAt.eqv_refl _ l3
  refine⟨_,rfl,_,e8,?_⟩;refine⟨_,rfl,_,rfl,_,rfl,z2,_,rfl,_,rfl,_,rfl,_,rfl,rfl,a,w,e,ts,ps,says,rows,'俴','愬',rfl,w8,e8,t2,t4,W,Ne.symm wa,Ne.symm ea,'-',tp,fun st m9 sto f9=>?_⟩
  have w9:=f9.get wa w8
  have e9:=f9.get ea e8
  have c9:=f9.get ca c8
  refine⟨rfl,ts,ps,says,rows,'俴',st,rfl,W,sto,trivial,fun m10 k10=>?_,fun r m10 sq k10=>?_⟩
  ·have e10:=k10.get e9
   refine '嫢'
   refine '己';refine hK2 _ _ ⟨rows,_,_,_,?_,k10.get w9,e10,k10.get c9,'-',fun r hr=>(sr r hr).mono '徕',rfl⟩
   exact(f9.1.kn k10).mono ('匰')
  ·have e10:=k10.get e9
   refine '嫢'
   refine⟨_,rfl,_,rfl,aV (by cases r<;>rfl) ?_⟩
   rw[wC]at sq;have hM:'双'*12^'乿'<=2^120:=Int.le_trans n2 '+'
   refine⟨_,rfl,_,rfl,_,rfl,rfl,c,ts,ps,kvs,'憊',r,rfl,nm,k10.get c9,ht,clk,sq.1,hM,fun m11 k11=>?_⟩;refine '峒'
   refine⟨_,rfl,rfl,ts,r,rfl,nm,Ot sq.1 hM,?_⟩;refine⟨_,rfl,aU (by rw[p8 ht sq];rfl) ?_⟩
   refine⟨_,rfl,_,rfl,_,rfl,rfl,ts,ps,r,rfl,nm,ht,Ot sq.1 hM,fun m12 k12=>?_⟩;refine '峒'
   have k:=k10.trans (k11.trans k12)
   refine⟨_,rfl,e,rfl,⟨_,k.get e9⟩,_,rfl,_,_,rfl,k.get e9,tG '丶',?_⟩
   refine hK2 _ _ ⟨rows++[r],_,_,_,?_,by rw['愭'];exact k.get w9,by rw[bC,List.map_append];rfl,by rw['愮'];exact k.get c9,'傐','仭',rfl⟩
   ·obtain⟨ns,i,j,t,q1,q2,q3,q4⟩:=f9.1.kn k;exact '嫐'
   ·rcases '彑' with hx | hx
    ·exact(sr x hx).mono '徕'
    ·rw['庌'];exact sq
 ·obtain⟨ns,i,j,t,q1,q2,q3,q4⟩:=tp7;exact '嫐'
section E.K22
namespace HD
open PySem PySem.W
section
variable {α β:Type}{tb:'器'}{p:Program}{w:World}{n₀:Nat}{ann:'Ϗ'}{c:Code}{B:'塁'}
theorem Jf{b:Nat}:∀ {n m:Nat} {s s1 s2:Shared} {t t1 t2:Thread},'哋' b n s t=some (s1,t1)->'哋' b m s1 t1='扗'->'哋' b (n+m) s t='扗'
 | 0,m,s,s1,s2,t,t1,t2,h,k=>by
  obtain⟨rfl,rfl⟩:s=s1/\t=t1:=by simpa[segGo] using h
  rw[Nat.zero_add];exact k
 | n+1,m,s,s1,s2,t,t1,t2,h,k=>by
  rw[show n+1+m=n+m+1 by omega]
  unfold segGo at h ⊢
  cases he:endAt b t with
  | some f=>rw[he]at h;cases h
  | none =>
   rw[he]at h
   cases hk:stepOk n₀ ann t with
   | false=>show '姩'
   | true =>
    rw[hk]at h
    cases hs:step (denote tb) p w s t with
    | halt o s'=>rw[hs]at h;cases h
    | go s' t'=>rw[hs]at h;exact Jf h k
def R(N:Nat)(tb:'器')(p:Program)['ζ'](n₀:Nat)(ann:'Ϗ')(c:Code)(B:'塁')(m:'乬')(s:Shared)(pos:Pos)(a:α)['һ'](pos':Pos):Prop :=
 ∀ (K:'拜') (H:'憋') (gd:Bool->Bool) (lv:';'->';'),∃ n,n<=N/\'哋' B.length n s ⟨m.wrap K H gd lv,c,pos,B⟩=some (s','总')
variable {s s1 s':Shared}{pos pos1 pos':Pos}{N N1 N2:Nat}
theorem R.pure{a:α}:R 0 '亟' (Pure.pure a) s pos a s pos:=fun '˛'=>⟨0,ak _,rfl⟩
theorem R.mono{m:'乬'}{a:α}(hN:N1<=N)(h:R N1 '亟' m '奯'):'屐':=fun '˛'=>let ⟨n,l,e⟩:='拝';⟨n,Nat.le_trans l hN,e⟩
theorem R.bind['撾']{a:α}{b:β}(h:R N1 '亟' m s pos a s1 pos1)(k:R N2 '亟' (f a) s1 pos1 b s' pos'):R (N1+N2) '亟' (m>>=f) s pos b s' pos':=fun '˛'=>by
 obtain⟨n1,l1,e1⟩:=h '嶪' H gd lv;obtain⟨n2,l2,e2⟩:=k '˛';refine⟨n1+n2,Nat.add_le_add l1 l2,?_⟩;have e:(m>>=f).wrap '˛'=m.wrap '嶪' H gd lv:=by
  rw[Sem.bind_eq_wrap',Sem.wrap_wrap];rfl
 rw[e];exact Jf e1 e2
theorem R.hold{m:'乬'}{vs:';'}{a:α}(h:'屐'):R N '亟' (holding vs m) '奯':=by
 unfold holding
 split
 ·exact h
 ·intro '˛';rw[Sem.keep_eq_wrap,Sem.wrap_wrap];exact h K H _ _
theorem R.leaf{m:'乬'}{a:α}{sT sT':SharedT}['ʍ'](h:∀ (K:'拜') (H:'憋') (gd:Bool->Bool) (lv:';'->';'),segGoT '凸' B.length n sT '嵸'=some (sT','总')):R n '亟' m sT.abs pos a sT'.abs pos':=fun '˛'=>⟨n,ak _,segGo_of ('拝')⟩
theorem R.piece{m:Sem Flow}{q:Pos}(h:R N '凸' c '托' m s pos 'ў' s' pos'):∃ n,n<=N+1/\segRun '凸' 1 n s ⟨m.wrap '撆',c,pos,'托'⟩=some ('ў',s',c,pos'):=by
 obtain⟨n,l,e⟩:=h '撆';exact⟨n+1,Nat.succ_le_succ l,seg_go (N:=1) e rfl⟩
section E
section
variable {α β:Type}{tb:'器'}{p:Program}{w:World}{n₀:Nat}{ann:'Ϗ'}{c:Code}{B:'塁'}{s s1 s':Shared}{pos pos1 pos':Pos}
def rM:Stmt->'Ӝ' | 'ͱ' '堚' (.Dict ks _ _) _=>ks | _=>[]
def tO:Stmt->'W' | 'ͱ' '堚' (.Dict _ vs _) _=>vs | _=>[]
def oJ:'墁' | 'ͱ' '堚' (.Dict _ _ dp) _=>dp | _=>default
def wL:'墁' | 'ͱ' ['ɓ' _ px] (.Dict '!') _=>px | _=>default
def wM:'墁' | 'ͱ' _ _ sp=>sp | _=>default
end
mutual section G
section E
section E.HD
set_option maxHeartbeats 0
namespace H22
open PySem PySem.W HD
abbrev prog:Program:=PySem.Challenge.pw_whens_k22_whole_rows_that_come_are_so
abbrev q0:Pos:='憨'
def st:Stmt:=prog.main.body.getD 9 '塂'
def mf(k:Nat)['按']:Obj:=match '崣' with
 | '崤'=>⟨cl,none,'乼' ⟨n,n,a,.stmts b,s,g,clo,d,kd,dc,pm,an,cd,ct,bi⟩,#[]⟩
 | _=>'嘼'
def mm(k j:Nat)(q:Str)['按']:Obj:=match '崣' with
 | .ClassDef '!' bo 'г'=>match bo.getD j '塂' with
  | '崤'=>⟨cl,none,'乼' ⟨n,q,a,.stmts b,s,g,clo,d,kd,dc,pm,an,cd,ct,bi⟩,#[]⟩
  | _=>'嘼'
 | _=>'嘼'
def mq(k:Nat)(m:Str)(t c:Nat):Obj:=mf k '侧' 3 [] '&' '&' '&' (.str m t) none ('Ԉ') '&' 0
def tq(xs:';'):Obj:=⟨ 'ˎ',none,.seq xs.toArray,#[]⟩
def tz(xs:'$')(t:Nat):Obj:=tq (xs.zipIdx.map fun p=>.str p.1 (t+p.2))
def co(n q:Str)(t l a f r k:Nat):Obj:=⟨ 'ʵ',none,'ȵ' #[.str n t,.str q (t+1),'Ƀ' (t+2),.int l 0,.int a 0,'5','5',.int f 0,.ref r,'ʑ','ʪ',.ref (r+1),'&',.ref (r+2),.ref (r+3),.ref (r+4),.int k 0,.int l 0,'Ƀ' (k+1)],#[]⟩
def lf(o:Obj):BT:='#' o .nil .nil
noncomputable section
def oz:Obj:=⟨ '&',none,'ȵ' #[],#[]⟩
def mz(k:Nat):Obj:=mf k '凶'
def o3['"']:Obj:=⟨ 'Χ',none,'Ϩ' #[⟨ '巵','忮',.str 'ʌ'⟩,'孑','嬂','婕','嬺','媻','嫩','媢','嬔','嬪','孒','嬫','宊','宋','嬬','孬',⟨ '6' "POINT_WORDS",'弄',.ref 58⟩,⟨ '6' "WAYS",.str "WAYS" 382,.ref 65⟩,⟨ '6' "END_COUNTS",.str '厩' 389,.ref 79⟩,⟨ '6' "words_of",.str '冎' 396,.ref 86⟩,⟨ '嘦',.str 'ή' 403,.ref 93⟩,⟨ '6' "turned_may",.str '兆' 409,.ref 98⟩,⟨ '6' "ways_by",.str '冯' 418,.ref 105⟩,⟨ '6' "how_ends",.str '冏' 428,.ref 112⟩,⟨ '6' "is_point",.str '冐' 435,.ref 119⟩,⟨ '6' "way_of",.str '凋' 443,.ref 126⟩,⟨ '6' "word_of",.str '冰' 449,.ref 131⟩,⟨ '6' "forced_way",.str '兇' 459,.ref 138⟩,⟨ '6' "forced_by",.str '兪' 470,.ref 145⟩,⟨ '6' "forced_ways",.str '儭' 476,.ref 150⟩,⟨ '6' "go_with",.str '冱' 486,.ref 157⟩,⟨ '6' "behind_words",.str '儞' 492,.ref 162⟩,⟨ '6' "Behinds",'制' 549,'ђ'⟩,⟨ '6' "behind_mays",.str '儮' 558,.ref 209⟩,⟨ '6' "names_of",.str '冑' 566,.ref 214⟩,⟨ '6' "kinds_of",.str '冒' 576,.ref 221⟩,⟨ '6' "are_two_names",.str '儍' 586,.ref 228⟩,⟨ '6' "ends_of",.str '冲' 592,.ref 233⟩,⟨ '6' "is_end",.str '凌' 600,.ref 240⟩,⟨ '6' "times_of",.str '冓' 609,.ref 247⟩,⟨ '6' "time_of",.str '决' 621,.ref 254⟩,⟨ '6' "word_between",.str '償' 631,.ref 261⟩,⟨ '6' "is_gap_met",.str '先' 645,.ref 268⟩,⟨ '6' "NOUGHT",.str '墽' 650,.ref 269⟩,⟨ '6' "is_may_row",.str '光' 657,.ref 276⟩,⟨ '6' "is_fault",.str '冔' 668,.ref 283⟩,⟨ '6' "has_row",.str '冴' 677,.ref 290⟩,⟨ '6' "is_place",.str '冕' 685,.ref 297⟩,⟨ '6' "may_row_at",.str '兊' 693,.ref 304⟩,⟨ '6' "gap_row_at",.str '克' 701,.ref 311⟩,⟨ '6' "lie_across",.str '兌' 711,.ref 318⟩,⟨ '6' "ways_across",.str '儯' 717,.ref 323⟩,⟨ '6' "told_row",.str '冖' 727,'墾'⟩,⟨ '6' "any_row",.str '况' 739,'墿'⟩,⟨ '6' "long_row",.str '冗' 748,'壀'⟩,⟨ '6' "turned_row",.str '免' 761,'壁'⟩,⟨ '6' "behind_row",.str '兎' 777,'壂'⟩,⟨ '6' "both_row",.str '冘' 783,'壃'⟩,⟨ '6' "ends_row",.str '写' 798,'壄'⟩,⟨ '6' "strike_row",.str '兏' 804,'壅'⟩,⟨ '6' "add_row",.str '冶' 815,'壆'⟩,⟨ '6' "STEPS",.str '吼' 834,.ref 383⟩,⟨ '6' "STEP_LENGTHS",.str '卼' 862,.ref 384⟩,⟨ '6' "row_of",.str '凍' 872,.ref 391⟩,⟨ '6' "_law_feed",.str '八' 881,.ref 398⟩,⟨ '6' "_law_draw",.str '公' 893,.ref 405⟩,⟨ '6' "_law_things",.str '儰' 899,.ref 410⟩,⟨ '6' "_law_words",.str '児' 907,.ref 417⟩,⟨ '6' "_law_back",.str '六' 915,.ref 424⟩,⟨ '6' "_law_sign",.str '兮' 926,.ref 431⟩,⟨ '6' "_law_sides",.str '兑' 933,.ref 438⟩,⟨ '6' "_law_all_signs",.str '僻' 939,.ref 443⟩,⟨ '6' "_law_kinds",.str '兒' 945,.ref 448⟩,⟨ '6' "_law_all_ends",.str '儎' 951,.ref 453⟩,⟨ '6' "_law_lowest",.str '儱' 961,.ref 460⟩,⟨ '6' "_law_added",.str '兓' 971,.ref 467⟩,⟨ '6' "_law_time",.str '兯' 980,.ref 474⟩,⟨ '6' "_law_telling",.str '儠' 993,.ref 481⟩,⟨ '6' "_law_clock",.str '兔' 1005,.ref 488⟩,⟨ '6' "_law_order",.str '兕' 1017,.ref 495⟩,⟨ '6' "_law_word",.str '兰' 1032,.ref 502⟩,⟨ '6' "_law_may",.str '冚' 1038,.ref 507⟩,⟨ '6' "_law_two",.str '军' 1048,.ref 514⟩,⟨ '6' "_law_some_step",.str '僼' 1054,.ref 519⟩,⟨ '6' "_law_saying",.str '儲' 1060,.ref 524⟩,⟨ '6' "_law_had",.str '农' 1071,.ref 531⟩,⟨ '6' "law",.str 'ԑ' 1089,.ref 538⟩] 87,#[]⟩
def Fj['"']:Obj:='2'
def Ch['"']:Obj:=tz ['倉'] 192
def Rq['"']:Obj:='2'
def o20['"']:Obj:=co '冋' '冋' 189 2 1 3 15 193
def o21['"']:Obj:=mq 1 '偞' 20
def Rr['"']:Obj:='2'
def Qn['"']:Obj:='偷' 199
def Ql['"']:Obj:='2'
def o27['"']:Obj:=co '凊' '凊' 196 4 2 3 22 201
def o28['"']:Obj:=mq 2 '偞' 27
def Nn['"']:Obj:='2'
def Dt['"']:Obj:=tz '幍' 207
def Bf['"']:Obj:='2'
def o34['"']:Obj:=co '册' '册' 204 8 2 3 29 210
def o35['"']:Obj:=mq 3 '偞' 34
def Jr['"']:Obj:='2'
def Lv['"']:Obj:='偷' 216
def Bq['"']:Obj:='2'
def o41['"']:Obj:=co '凭' '凭' 213 13 2 3 36 218
def o42['"']:Obj:=mq 4 '偞' 41
def Ky['"']:Obj:='2'
def Dg['"']:Obj:='偷' 224
def Qi['"']:Obj:='2'
def o48['"']:Obj:=co '凮' '凮' 221 15 2 3 43 226
def o49['"']:Obj:=mq 5 '偞' 48
def Iq['"']:Obj:='2'
def Ej['"']:Obj:='偷' 232
def Ck['"']:Obj:='2'
def o55['"']:Obj:=co '再' '再' 229 17 2 3 50 234
def o56['"']:Obj:=mq 6 '偞' 55
def o57['"']:Obj:=tz '佳' 239
def o65['"']:Obj:=⟨ 'Χ',none,'Ϩ' #[⟨ '6' "ahead",'哩' 282,.ref 66⟩,⟨ '6' "meets",.str 'ѕ' 291,.ref 67⟩,⟨ '6' "overlaps",.str 'Ӹ' 299,.ref 68⟩,⟨ '6' "begins",.str 'К' 307,.ref 69⟩,⟨ '6' "within",.str 'Л' 314,.ref 70⟩,⟨ '噏','哪' 321,.ref 71⟩,⟨ '6' "same",.str 'Х' 327,.ref 72⟩,⟨ '6' "ended",.str 'і' 333,.ref 73⟩,⟨ '6' "holds",.str 'ї' 340,.ref 74⟩,⟨ '6' "begun",.str 'ј' 347,.ref 75⟩,⟨ '6' "lapped",.str '乣' 353,.ref 76⟩,⟨ '6' "met",.str 'ҭ' 359,.ref 77⟩,⟨ '嘧','偓' 364,.ref 78⟩] 13,#[]⟩
def o66['"']:Obj:=tq ['ʁ' 284,'ʁ' 286,'ʁ' 288,'ʁ' 290]
def o67['"']:Obj:=tq ['ʁ' 293,'ʁ' 295,'Ӌ' 296,'ʁ' 298]
def o68['"']:Obj:=tq ['ʁ' 301,'ʁ' 303,'ɤ' 304,'ʁ' 306]
def o69['"']:Obj:=tq ['Ӌ' 308,'ʁ' 310,'ɤ' 311,'ʁ' 313]
def o70['"']:Obj:=tq ['ɤ' 315,'ʁ' 317,'ɤ' 318,'ʁ' 320]
def o71['"']:Obj:=tq ['ɤ' 322,'ʁ' 324,'ɤ' 325,'Ӌ' 326]
def o72['"']:Obj:=tq ['Ӌ' 328,'ʁ' 330,'ɤ' 331,'Ӌ' 332]
def o73['"']:Obj:=tq ['ʁ' 335,'ʁ' 337,'ɤ' 338,'Ӌ' 339]
def o74['"']:Obj:=tq ['ʁ' 342,'ʁ' 344,'ɤ' 345,'ɤ' 346]
def o75['"']:Obj:=tq ['Ӌ' 348,'ʁ' 350,'ɤ' 351,'ɤ' 352]
def o76['"']:Obj:=tq ['ɤ' 354,'ʁ' 356,'ɤ' 357,'ɤ' 358]
def o77['"']:Obj:=tq ['ɤ' 360,'Ӌ' 361,'ɤ' 362,'ɤ' 363]
def o78['"']:Obj:=tq ['ɤ' 365,'ɤ' 366,'ɤ' 367,'ɤ' 368]
end
mutual section G
def o79['"']:Obj:=⟨ 'Χ',none,'Ϩ' #[⟨ '6' "point",'刷' 383,'ɤ' 384⟩,⟨ '6' "stretch",.str 'ϛ' 385,.int 2 386⟩] 2,#[]⟩
def o80['"']:Obj:='2'
def ML['"']:Obj:=tz ['ʹ'] 393
def DM['"']:Obj:='2'
def o85['"']:Obj:=co '冎' '冎' 390 24 1 3 80 394
def o86['"']:Obj:=mq 12 'ԭ' 85
def o87['"']:Obj:='2'
def AD['"']:Obj:=tz ['ԋ'] 400
def o90['"']:Obj:='2'
def o92['"']:Obj:=co 'ή' 'ή' 397 26 1 3 87 401
def o93['"']:Obj:=mq 13 'ԭ' 92
def o94['"']:Obj:='2'
def o97['"']:Obj:=⟨ 'ʵ',none,'ȵ' #[.str '兆' 404,.str '兆' 405,'Ƀ' 406,'墂','倂','5','5','ʊ',.ref 94,'ʑ','ʪ',.ref 95,'&','&','&',.ref 96,.int 407 0,'墂','Ƀ' 408],#[]⟩
def o98['"']:Obj:=mq 14 'ԭ' 97
def b9['"']:Obj:='2'
def J8['"']:Obj:=tz '庶' 413
def R1['"']:Obj:='2'
def o104['"']:Obj:=co '冯' '冯' 410 30 2 3 99 416
def o105['"']:Obj:=mq 15 'ԭ' 104
def u7['"']:Obj:='2'
def MX['"']:Obj:=tz '嘻' 422
def Uw['"']:Obj:='2'
def o111['"']:Obj:=co '冏' '冏' 419 37 4 3 106 426
def o112['"']:Obj:=mq 16 'ԭ' 111
def Ww['"']:Obj:='2'
def KA['"']:Obj:=tz '塼' 432
def T7['"']:Obj:='2'
def o118['"']:Obj:=co '冐' '冐' 429 39 1 3 113 433
def o119['"']:Obj:=mq 17 'ԭ' 118
def EM['"']:Obj:='2'
def FS['"']:Obj:='偷' 439
def Vo['"']:Obj:='2'
def o125['"']:Obj:=co '凋' '凋' 436 41 2 3 120 441
def o126['"']:Obj:=mq 18 'ԭ' 125
def FR['"']:Obj:='2'
def o130['"']:Obj:=⟨ 'ʵ',none,'ȵ' #[.str '冰' 444,.str '冰' 445,'Ƀ' 446,'境','倃','5','5','ʊ',.ref 127,'ʑ','ʪ',.ref 128,'&','&','&',.ref 129,.int 447 0,'境','Ƀ' 448],#[]⟩
def o131['"']:Obj:=mq 19 'ԭ' 130
def QJ['"']:Obj:='2'
def SV['"']:Obj:='偷' 455
def BJ['"']:Obj:='2'
def o137['"']:Obj:=co '兇' '兇' 452 54 2 3 132 457
def o138['"']:Obj:=mq 21 '何' 137
def OY['"']:Obj:='2'
def za2['"']:Obj:=tz '岜' 463
def Tf['"']:Obj:='2'
def o144['"']:Obj:=co '兪' '兪' 460 60 2 3 139 468
def o145['"']:Obj:=mq 22 '何' 144
def zh6['"']:Obj:='2'
def o149['"']:Obj:=⟨ 'ʵ',none,'ȵ' #[.str '儭' 471,.str '儭' 472,'Ƀ' 473,'墄','ʊ','5','5','ʊ',.ref 146,'ʑ','ʪ',.ref 147,'&','&','&',.ref 148,.int 474 0,'墄','Ƀ' 475],#[]⟩
def o150['"']:Obj:=mq 23 '何' 149
def DH['"']:Obj:='2'
def TR['"']:Obj:=tz '嵱' 480
def GA['"']:Obj:='2'
def o156['"']:Obj:=co '冱' '冱' 477 73 2 3 151 484
def o157['"']:Obj:=mq 24 '何' 156
def zj6['"']:Obj:='2'
def o161['"']:Obj:=⟨ 'ʵ',none,'ȵ' #[.str '儞' 487,.str '儞' 488,'Ƀ' 489,'墅','ʊ','5','5','ʊ',.ref 158,'ʑ','ʪ',.ref 159,'&','&','&',.ref 160,.int 490 0,'墅','Ƀ' 491],#[]⟩
def o162['"']:Obj:=mq 25 '何' 161
def HJ['"']:Obj:='2'
def UD['"']:Obj:=tz '墳' 508
def ze6['"']:Obj:='2'
def o175['"']:Obj:=co '伀' '匱' 505 85 1 3 170 509
def o176['"']:Obj:=mm 26 0 '匱' '呕' (.ref 175) '&' 0
def Tv['"']:Obj:='2'
end
mutual section G
def zv4['"']:Obj:=tz '喢' 515
def UT['"']:Obj:='2'
def o182['"']:Obj:=co 'ҡ' '卦' 512 89 4 3 177 520
def o183['"']:Obj:=mm 26 1 '卦' '呕' (.ref 182) '&' 0
def JW['"']:Obj:='2'
def zc0['"']:Obj:=tz '喢' 526
def GL['"']:Obj:='2'
def AK['"']:Obj:=co "mays" '坬' 523 95 4 3 184 531
def VW['"']:Obj:=mm 26 2 '坬' '呕' (.ref 189) '&' 0
def HA['"']:Obj:='2'
def o194['"']:Obj:=⟨ 'ʵ',none,'ȵ' #[.str '俱' 534,.str '匲' 535,'Ƀ' 536,'塃','乧','5','5','ʊ',.ref 191,'ʑ','ʪ',.ref 192,'&','&','&',.ref 193,.int 537 0,'塃','Ƀ' 538],#[]⟩
def o195['"']:Obj:=mm 26 3 '匲' '呕' (.ref 194) '&' 0
def o196['"']:Obj:=tz ['俻','伅'] 540
def o197['"']:Obj:=⟨ 'Χ',none,'Ϩ' #['媗','媞','嬞','孝','孻','嬟','婽',⟨ '6' "__dict__",.str '塄' 544,.ref 199⟩,⟨ '6' "__weakref__",.str '垝' 546,.ref 200⟩,⟨ '師',.str '右' 547,'&'⟩] 4,#[]⟩
def o198['"']:Obj:=⟨ '垶',none,.cls {name:='弅',bases:=['卬'],mro:=['ђ','卬'],ns:=197,qualname:='弅'},#[none,none,some ('制' 493),some ('怼'),some (Value.builtin "object.__new__"),'囮']⟩
def o199['"']:Obj:=⟨ '幗',none,'ȵ' #[.str '塄' 543,'ђ',Value.builtin "function.__dict__",Value.builtin "function.__dict__#set"],#[]⟩
def o200['"']:Obj:=⟨ '幗',none,'ȵ' #[.str '垝' 545,'ђ',Value.builtin "ExceptionGroup.__weakref__",'&'],#[]⟩
def ZX['"']:Obj:='2'
def YN['"']:Obj:=tz '僄' 553
def zh1['"']:Obj:='2'
def o208['"']:Obj:=co '儮' '儮' 550 111 3 3 203 556
def o209['"']:Obj:=mq 27 '何' 208
def zp8['"']:Obj:='2'
def o213['"']:Obj:=⟨ 'ʵ',none,'ȵ' #[.str '冑' 561,.str '冑' 562,'Ƀ' 563,'塅','倂','5','5','ʊ',.ref 210,'ʑ','ʪ',.ref 211,'&','&','&',.ref 212,.int 564 0,'塅','Ƀ' 565],#[]⟩
def o214['"']:Obj:=mq 29 'Ԯ' 213
def WQ['"']:Obj:='2'
def X8['"']:Obj:=tz '帟' 570
def BF['"']:Obj:='2'
def o220['"']:Obj:=co '冒' '冒' 567 116 3 3 215 574
def o221['"']:Obj:=mq 30 'Ԯ' 220
def L7['"']:Obj:='2'
def EB['"']:Obj:=tz '帠' 580
def WV['"']:Obj:='2'
def o227['"']:Obj:=co '儍' '儍' 577 119 3 3 222 584
def o228['"']:Obj:=mq 31 'Ԯ' 227
def JE['"']:Obj:='2'
def o232['"']:Obj:=⟨ 'ʵ',none,'ȵ' #[.str '冲' 587,.str '冲' 588,'Ƀ' 589,'塆','倂','5','5','ʊ',.ref 229,'ʑ','ʪ',.ref 230,'&','&','&',.ref 231,.int 590 0,'塆','Ƀ' 591],#[]⟩
def o233['"']:Obj:=mq 32 'Ԯ' 232
def ZR['"']:Obj:='2'
def UG['"']:Obj:=tz '囙' 596
def za6['"']:Obj:='2'
def o239['"']:Obj:=co '凌' '凌' 593 124 2 3 234 598
def o240['"']:Obj:=mq 33 'Ԯ' 239
def CA['"']:Obj:='2'
def AY['"']:Obj:=tz '嗺' 604
def FU['"']:Obj:='2'
def o246['"']:Obj:=co '冓' '冓' 601 128 3 3 241 607
def o247['"']:Obj:=mq 34 'Ԯ' 246
def E6['"']:Obj:='2'
def C3['"']:Obj:=tz '宩' 613
def EQ['"']:Obj:='2'
def o253['"']:Obj:=co '决' '决' 610 130 3 3 248 619
def o254['"']:Obj:=mq 35 'Ԯ' 253
def Um['"']:Obj:='2'
def za3['"']:Obj:=tz '嗩' 625
def HZ['"']:Obj:='2'
def o260['"']:Obj:=co '償' '償' 622 134 4 3 255 629
def o261['"']:Obj:=mq 36 'Ԯ' 260
def zs4['"']:Obj:='2'
def V4['"']:Obj:=tz '嬵' 635
def V3['"']:Obj:='2'
def o267['"']:Obj:=co '先' '先' 632 136 3 3 262 643
def o268['"']:Obj:=mq 37 'Ԯ' 267
def o269['"']:Obj:=tq ['Ӌ' 648,'ɤ' 649]
end
mutual section G
def WX['"']:Obj:='2'
def l9['"']:Obj:=tz ['Ѣ'] 654
def We['"']:Obj:='2'
def o275['"']:Obj:=co '光' '光' 651 142 1 3 270 655
def o276['"']:Obj:=mq 40 '˝' 275
def zb6['"']:Obj:='2'
def QK['"']:Obj:=tz '峽' 661
def zm8['"']:Obj:='2'
def o282['"']:Obj:=co '冔' '冔' 658 144 1 3 277 666
def o283['"']:Obj:=mq 41 '˝' 282
def YW['"']:Obj:='2'
def zm1['"']:Obj:=tz '嘓' 672
def ZG['"']:Obj:='2'
def o289['"']:Obj:=co '冴' '冴' 669 149 3 3 284 675
def o290['"']:Obj:=mq 42 '˝' 289
def P3['"']:Obj:='2'
def P5['"']:Obj:=tz '圠' 681
def QW['"']:Obj:='2'
def o296['"']:Obj:=co '冕' '冕' 678 153 2 3 291 683
def o297['"']:Obj:=mq 43 '˝' 296
def d8['"']:Obj:='2'
def NM['"']:Obj:=tz '侼' 689
def JO['"']:Obj:='2'
def o303['"']:Obj:=co '兊' '兊' 686 155 2 3 298 691
def o304['"']:Obj:=mq 44 '˝' 303
def zb5['"']:Obj:='2'
def HB['"']:Obj:=tz '侼' 697
def Vy['"']:Obj:='2'
def o310['"']:Obj:=co '克' '克' 694 159 2 3 305 699
def o311['"']:Obj:=mq 45 '˝' 310
def v5['"']:Obj:='2'
def zw3['"']:Obj:=tz '勗' 705
def Y6['"']:Obj:='2'
def o317['"']:Obj:=co '兌' '兌' 702 163 4 3 312 709
def o318['"']:Obj:=mq 46 '˝' 317
def GD['"']:Obj:='2'
def o322['"']:Obj:=⟨ 'ʵ',none,'ȵ' #[.str '儯' 712,.str '儯' 713,'Ƀ' 714,'塇','乧','5','5','ʊ',.ref 319,'ʑ','ʪ',.ref 320,'&','&','&',.ref 321,.int 715 0,'塇','Ƀ' 716],#[]⟩
def o323['"']:Obj:=mq 47 '˝' 322
def Xv['"']:Obj:='2'
def Zd['"']:Obj:=tz '崜' 721
def YI['"']:Obj:='2'
def o329['"']:Obj:=co '冖' '冖' 718 173 3 3 324 725
def o330['"']:Obj:=mq 48 '˝' 329
def YX['"']:Obj:='2'
def zo1['"']:Obj:=tz '岝' 731
def zs1['"']:Obj:='2'
def o336['"']:Obj:=co '况' '况' 728 176 3 3 331 737
def o337['"']:Obj:=mq 49 '˝' 336
def DY['"']:Obj:='2'
def SY['"']:Obj:=tz 'Љ' 743
def M7['"']:Obj:='2'
def o343['"']:Obj:=co '冗' '冗' 740 181 3 3 338 746
def o344['"']:Obj:=mq 50 '˝' 343
def Uo['"']:Obj:='2'
def zv6['"']:Obj:=tz '導' 752
def UI['"']:Obj:='2'
def o350['"']:Obj:=co '免' '免' 749 185 3 3 345 759
def o351['"']:Obj:=mq 51 '˝' 350
def Uu['"']:Obj:='2'
def HC['"']:Obj:=tz '嬇' 765
def Xc['"']:Obj:='2'
def o357['"']:Obj:=co '兎' '兎' 762 191 3 3 352 775
def o358['"']:Obj:=mq 52 '˝' 357
def Uh['"']:Obj:='2'
end
mutual section G
def o362['"']:Obj:=⟨ 'ʵ',none,'ȵ' #[.str '冘' 778,.str '冘' 779,'Ƀ' 780,'塈','ʊ','5','5','ʊ',.ref 359,'ʑ','ʪ',.ref 360,'&','&','&',.ref 361,.int 781 0,'塈','Ƀ' 782],#[]⟩
def o363['"']:Obj:=mq 53 '˝' 362
def zi7['"']:Obj:='2'
def JP['"']:Obj:=tz '學' 787
def GR['"']:Obj:='2'
def o369['"']:Obj:=co '写' '写' 784 206 3 3 364 796
def o370['"']:Obj:=mq 54 '˝' 369
def LZ['"']:Obj:='2'
def o374['"']:Obj:=⟨ 'ʵ',none,'ȵ' #[.str '兏' 799,.str '兏' 800,'Ƀ' 801,'塉','ʊ','5','5','ʊ',.ref 371,'ʑ','ʪ',.ref 372,'&','&','&',.ref 373,.int 802 0,'塉','Ƀ' 803],#[]⟩
def o375['"']:Obj:=mq 55 '˝' 374
def NP['"']:Obj:='2'
def Zb['"']:Obj:=tz '喥' 808
def ZU['"']:Obj:='2'
def o381['"']:Obj:=co '冶' '冶' 805 224 3 3 376 813
def o382['"']:Obj:=mq 56 '˝' 381
def o383['"']:Obj:=⟨ 'Χ',none,'Ϩ' #[⟨ '廈',.str 'Ԋ' 816,'墾'⟩,⟨ '弆',.str 'Ԓ' 817,'墿'⟩,⟨ '廉',.str 'ҥ' 818,'壀'⟩,⟨ '嘦',.str 'ή' 819,'壁'⟩,⟨ '嘧','偓' 820,'壂'⟩,⟨ '廊',.str 'Ц' 821,'壃'⟩,⟨ '噏','哪' 822,'壄'⟩,⟨ '幘',.str 'М' 823,'壅'⟩,⟨ '弇',.str 'δ' 824,'壆'⟩] 9,#[]⟩
def o384['"']:Obj:=⟨ 'Χ',none,'Ϩ' #[⟨ '廈',.str 'Ԋ' 835,.int 2 836⟩,⟨ '弆',.str 'Ԓ' 837,.int 3 838⟩,⟨ '廉',.str 'ҥ' 839,.int 2 840⟩,⟨ '嘦',.str 'ή' 841,.int 2 842⟩,⟨ '嘧','偓' 843,.int 3 844⟩,⟨ '廊',.str 'Ц' 845,.int 3 846⟩,⟨ '噏','哪' 847,.int 4 848⟩,⟨ '幘',.str 'М' 849,.int 3 850⟩,⟨ '弇',.str 'δ' 851,.int 3 852⟩] 9,#[]⟩
def MN['"']:Obj:='2'
def P1['"']:Obj:=tz '嵆' 866
def PZ['"']:Obj:='2'
def o390['"']:Obj:=co '凍' '凍' 863 232 3 3 385 870
def o391['"']:Obj:=mq 59 '˝' 390
def WE['"']:Obj:='2'
def zf8['"']:Obj:=tz '促' 878
def N8['"']:Obj:='2'
def o397['"']:Obj:=co '八' '八' 875 240 1 3 392 879
def o398['"']:Obj:=mq 61 'ʌ' 397
def zv8['"']:Obj:='2'
def XD['"']:Obj:=tz '媘' 885
def KY['"']:Obj:='2'
def o404['"']:Obj:=co '公' '公' 882 242 2 3 399 891
def o405['"']:Obj:=mq 62 'ʌ' 404
def CO['"']:Obj:='2'
def o409['"']:Obj:=⟨ 'ʵ',none,'ȵ' #[.str '儰' 894,.str '儰' 895,'Ƀ' 896,'塊','ʊ','5','5','ʊ',.ref 406,'ʑ','ʪ',.ref 407,'&','&','&',.ref 408,.int 897 0,'塊','Ƀ' 898],#[]⟩
def o410['"']:Obj:=mq 63 'ʌ' 409
def AF['"']:Obj:='2'
def zu4['"']:Obj:=tz '嵇' 903
def MP['"']:Obj:='2'
def o416['"']:Obj:=co '児' '児' 900 267 1 3 411 905
def o417['"']:Obj:=mq 64 'ʌ' 416
def Yl['"']:Obj:='2'
def FH['"']:Obj:=tz '岶' 911
def Zf['"']:Obj:='2'
def o423['"']:Obj:=co '六' '六' 908 276 1 3 418 913
def o424['"']:Obj:=mq 65 'ʌ' 423
def DJ['"']:Obj:='2'
def Vq['"']:Obj:=tz '嫵' 919
def VR['"']:Obj:='2'
def o430['"']:Obj:=co '兮' '兮' 916 279 4 3 425 924
def o431['"']:Obj:=mq 66 'ʌ' 430
def US['"']:Obj:='2'
def FQ['"']:Obj:=tz ['兢'] 930
def zc3['"']:Obj:='2'
def o437['"']:Obj:=co '兑' '兑' 927 285 1 3 432 931
def o438['"']:Obj:=mq 67 'ʌ' 437
def zm0['"']:Obj:='2'
def o442['"']:Obj:=⟨ 'ʵ',none,'ȵ' #[.str '僻' 934,.str '僻' 935,'Ƀ' 936,'塋','倃','5','5','ʊ',.ref 439,'ʑ','ʪ',.ref 440,'&','&','&',.ref 441,.int 937 0,'塋','Ƀ' 938],#[]⟩
def o443['"']:Obj:=mq 68 'ʌ' 442
def zo8['"']:Obj:='2'
def o447['"']:Obj:=⟨ 'ʵ',none,'ȵ' #[.str '兒' 940,.str '兒' 941,'Ƀ' 942,'塌','倃','5','5','ʊ',.ref 444,'ʑ','ʪ',.ref 445,'&','&','&',.ref 446,.int 943 0,'塌','Ƀ' 944],#[]⟩
def o448['"']:Obj:=mq 69 'ʌ' 447
def BD['"']:Obj:='2'
def o452['"']:Obj:=⟨ 'ʵ',none,'ȵ' #[.str '儎' 946,.str '儎' 947,'Ƀ' 948,'塍','倂','5','5','ʊ',.ref 449,'ʑ','ʪ',.ref 450,'&','&','&',.ref 451,.int 949 0,'塍','Ƀ' 950],#[]⟩
def o453['"']:Obj:=mq 70 'ʌ' 452
end
mutual section G
def zk2['"']:Obj:='2'
def JR['"']:Obj:=tz '宪' 955
def zr6['"']:Obj:='2'
def o459['"']:Obj:=co '儱' '儱' 952 300 2 3 454 959
def o460['"']:Obj:=mq 71 'ʌ' 459
def Ud['"']:Obj:='2'
def u3['"']:Obj:=tz '宇' 965
def ZD['"']:Obj:='2'
def o466['"']:Obj:=co '兓' '兓' 962 306 3 3 461 969
def o467['"']:Obj:=mq 72 'ʌ' 466
def zf7['"']:Obj:='2'
def zk1['"']:Obj:=tz '尢' 975
def Xl['"']:Obj:='2'
def o473['"']:Obj:=co '兯' '兯' 972 309 1 3 468 978
def o474['"']:Obj:=mq 73 'ʌ' 473
def BR['"']:Obj:='2'
def P8['"']:Obj:=tz '婜' 984
def zw0['"']:Obj:='2'
def o480['"']:Obj:=co '儠' '儠' 981 313 2 3 475 991
def o481['"']:Obj:=mq 74 'ʌ' 480
def E4['"']:Obj:='2'
def WH['"']:Obj:=tz '婸' 997
def zn8['"']:Obj:='2'
def o487['"']:Obj:=co '兔' '兔' 994 324 2 3 482 1003
def o488['"']:Obj:=mq 75 'ʌ' 487
def JJ['"']:Obj:='2'
def MB['"']:Obj:=tz '媹' 1009
def FP['"']:Obj:='2'
def o494['"']:Obj:=co '兕' '兕' 1006 330 3 3 489 1015
def o495['"']:Obj:=mq 76 'ʌ' 494
def ZY['"']:Obj:='2'
def ZN['"']:Obj:=tz '娶' 1021
def zp6['"']:Obj:='2'
def o501['"']:Obj:=co '兰' '兰' 1018 335 4 3 496 1030
def o502['"']:Obj:=mq 77 'ʌ' 501
def Xa['"']:Obj:='2'
def o506['"']:Obj:=⟨ 'ʵ',none,'ȵ' #[.str '冚' 1033,.str '冚' 1034,'Ƀ' 1035,'塎','倃','5','5','ʊ',.ref 503,'ʑ','ʪ',.ref 504,'&','&','&',.ref 505,.int 1036 0,'塎','Ƀ' 1037],#[]⟩
def o507['"']:Obj:=mq 78 'ʌ' 506
def AJ['"']:Obj:='2'
def QC['"']:Obj:=tz '嬧' 1042
def zl8['"']:Obj:='2'
def o513['"']:Obj:=co '军' '军' 1039 354 2 3 508 1046
def o514['"']:Obj:=mq 79 'ʌ' 513
def R5['"']:Obj:='2'
def o518['"']:Obj:=⟨ 'ʵ',none,'ȵ' #[.str '僼' 1049,.str '僼' 1050,'Ƀ' 1051,'塏','ʊ','5','5','ʊ',.ref 515,'ʑ','ʪ',.ref 516,'&','&','&',.ref 517,.int 1052 0,'塏','Ƀ' 1053],#[]⟩
def o519['"']:Obj:=mq 80 'ʌ' 518
def u5['"']:Obj:='2'
def o523['"']:Obj:=⟨ 'ʵ',none,'ȵ' #[.str '儲' 1055,.str '儲' 1056,'Ƀ' 1057,'塐','ʊ','5','5','ʊ',.ref 520,'ʑ','ʪ',.ref 521,'&','&','&',.ref 522,.int 1058 0,'塐','Ƀ' 1059],#[]⟩
def o524['"']:Obj:=mq 81 'ʌ' 523
def JI['"']:Obj:='2'
def OM['"']:Obj:=tz '媺' 1064
def XM['"']:Obj:='2'
def o530['"']:Obj:=co '农' '农' 1061 405 3 3 525 1069
def o531['"']:Obj:=mq 82 'ʌ' 530
def ZI['"']:Obj:='2'
def zg4['"']:Obj:=tz '娕' 1075
def g9['"']:Obj:='2'
def o537['"']:Obj:=co 'ԑ' 'ԑ' 1072 411 1 3 532 1087
def o538['"']:Obj:=mq 83 'ʌ' 537
def tF['"']:BT:=('#' '埓' ('#' '埔' ('#' (o3 P) ('#' '埕' ('#' (Fj P) ('#' (Dt P) ('Ѭ' (.node (FR P) (.node (Um P) (lf (zl8 P)) .nil) (lf (o383 P))) (.node (HA P) (lf (GD P)) (lf (o447 P)))) ('ɟ' (.node oz (lf (ZG P)) (lf (mz 64))) (.node oz (lf (o351 P)) (lf (mz 74))))) ('#' (mz 5) ('#' (o79 P) ('#' (mz 22) ('ɟ' (lf (OM P)) .nil) (lf (zv8 P))) ('#' (mz 27) (lf (mz 49)) (lf (u3 P)))) ('#' (o111 P) ('#' (o175 P) (lf (o303 P)) (lf (o431 P))) ('#' (o239 P) (lf (GR P)) (lf (o495 P)))))) ('ɟ' (.node (Bq P) (.node (o71 P) (.node (BJ P) (.node oz (lf (o519 P)) .nil) (lf (o391 P))) (.node (o199 P) (lf (YI P)) (lf oz))) (.node (mz 15) (.node (⟨.none,none,.fields #[.int 85 0,.int 4 0,.ref 175,.int 89 0,.int 4 0,.ref 182,.int 95 0,.int 4 0,.ref 189,.int 101 0,.int 4 0,.ref 194],#[]⟩) (lf (mz 43)) (lf (o423 P))) (.node (mz 32) (lf (Uh P)) (lf (o487 P))))) (.node (o55 P) (.node (o87 P) (.node (DH P) (.node (QK P) (lf (g9 P)) .nil) (lf oz)) (.node (WQ P) (lf (o343 P)) (lf (Xl P)))) (.node (o119 P) (.node (o183 P) (lf (o311 P)) (lf (zm0 P))) (.node (o247 P) (lf (o375 P)) (lf (Xa P))))))) ('Ѭ' (.node (mz 1) (.node (o35 P) (.node (o67 P) (.node (o131 P) (.node (mz 36) (lf (R5 P)) .nil) (lf (P1 P))) (.node (o195 P) (lf (o323 P)) (lf (mz 70)))) (.node (b9 P) (.node (tq []) (lf (P3 P)) (lf oz)) (.node (o227 P) (lf (Xc P)) (lf oz)))) (.node oz (.node (DM P) (.node oz (.node (o275 P) (lf (o531 P)) .nil) (lf (mz 62))) (.node oz (lf oz) (lf (o467 P)))) (.node (KA P) (.node (zv4 P) (lf (HB P)) (lf (zc3 P))) (.node (AY P) (lf (LZ P)) (lf (zp6 P)))))) (.node (o27 P) (.node (Ky P) (.node (o75 P) (.node (OY P) (.node (o267 P) (lf (o523 P)) .nil) (lf (N8 P))) (.node (ZX P) (lf (YX P)) (lf (o459 P)))) (.node oz (.node oz (lf oz) (lf (Vq P))) (.node oz (lf (o363 P)) (lf (MB P))))) (.node (tq []) (.node (mz 13) (.node (mz 24) (lf (o283 P)) (lf (AF P))) (.node (mz 30) (lf (zv6 P)) (lf (BR P)))) (.node (Vo P) (.node (GL P) (lf (Y6 P)) (lf (o443 P))) (.node (EQ P) (lf (ZU P)) (lf (o507 P)))))))) ('#' '埖' ('#' '埗' ('#' (Ch P) ('#' (mz 3) ('#' (o65 P) ('#' (mz 19) ('#' (za3 P) (lf (o513 P)) .nil) (lf (MN P))) ('#' (mm 26 3 '匲' '凶') (lf (mz 47)) (lf (BD P)))) ('#' (o97 P) ('#' (o161 P) (lf (o289 P)) (lf (o417 P))) ('#' (WV P) 'Ⱦ' (lf (o481 P))))) ('#' (o49 P) ('ɟ' (.node (o145 P) (.node (We P) (lf (mz 82)) .nil) (lf (XD P))) (.node (o209 P) (lf (o337 P)) (lf (mz 72)))) ('#' (Ww P) ('#' (Tv P) (lf (zb5 P)) 'Ⱦ') ('#' (CA P) (lf (o369 P)) 'Ⱦ')))) ('#' (Ql P) ('#' (o41 P) ('#' (o73 P) ('#' (o137 P) ('#' (V3 P) '券') 'Ⱦ') ('#' (⟨ 'ɒ' "super",none,'ȵ' #['ђ','ђ','ђ'],#[]⟩) (lf (o329 P)) (lf (zr6 P)))) ('#' (o105 P) ('#' (⟨ '懫',none,.plain,#[some (.ref 168),'垞',some (.ref 165),none,some '傼',none,'懬']⟩) (lf (o297 P)) (lf (DJ P))) ('#' (o233 P) (lf (mz 53)) (lf (JJ P))))) ('#' (o57 P) ('#' (AD P) ('#' (TR P) ('#' (mz 41) (lf (o537 P)) .nil) (lf (o409 P))) ('#' (X8 P) (lf (Uo P)) (lf (o473 P)))) ('ɟ' (.node oz (lf oz) (lf (mz 68))) (.node oz (lf oz) (lf (mz 78))))))) ('#' '唖' ('#' (o21 P) ('ɟ' (.node (o69 P) (.node oz (.node (o261 P) (lf (mz 80)) .nil) (lf (mz 59))) (.node (o197 P) (lf oz) (lf (o453 P)))) (.node (J8 P) (.node (⟨.type "dict",none,.dict #[⟨PyData.keyHash P "__module__",.str "__module__" 500,.str "whens.behind" 450⟩,⟨PyData.keyHash P "__qualname__",.str "__qualname__" 502,.str "Behinds" 501⟩,⟨PyData.keyHash P "__firstlineno__",.str "__firstlineno__" 504,.int 83 503⟩,⟨PyData.keyHash P "__init__",.str "__init__" 511,.ref 176⟩,⟨PyData.keyHash P "words",.str "words" 522,.ref 183⟩,⟨PyData.keyHash P "mays",.str "mays" 533,.ref 190⟩,⟨PyData.keyHash P "gathered",.str "gathered" 539,.ref 195⟩,⟨PyData.keyHash P "__static_attributes__",.str "__static_attributes__" 542,.ref 196⟩] 8,#[]⟩) (lf (P5 P)) (lf (Zf P))) (.node (JE P) (lf (o357 P)) (lf (zn8 P))))) ('#' (Ck P) ('#' (o85 P) ('#' (o149 P) ('#' (zb6 P) '券') (lf (o405 P))) ('#' (o213 P) (lf (M7 P)) 'Ⱦ')) ('#' (mz 17) ('#' (mm 26 1 '卦' '凶') (lf (mz 45)) (lf (o437 P))) ('#' (mz 34) (lf (mz 55)) (lf (o501 P)))))) ('#' (Nn P) ('#' (Dg P) ('#' (o77 P) ('#' (za2 P) ('#' (o269 P) (lf (JI P)) .nil) (lf (o397 P))) ('#' (YN P) (lf (zo1 P)) (lf (Ud P)))) ('#' (Uw P) ('#' (ze6 P) (lf (JO P)) (lf (mz 66))) ('#' (za6 P) 'Ⱦ' (lf (mz 76))))) ('Ѭ' (.node (o93 P) (.node (o157 P) (lf oz) (lf (zu4 P))) (.node (o221 P) (lf (mz 51)) (lf (P8 P)))) (.node (o125 P) (.node (AK P) (lf (o317 P)) (lf oz)) (.node (o253 P) (lf (o381 P)) (lf oz)))))))) ('#' '埘' ('#' '埙' ('#' '埚' ('ɟ' (.node (Bf P) (.node (tq []) (.node oz (.node oz (lf (mz 79)) .nil) (lf (o384 P))) (.node oz (lf oz) (lf (o448 P)))) (.node (mz 14) (.node (mz 25) (lf (mz 42)) (lf (o416 P))) (.node (EB P) (lf (Uu P)) (lf (o480 P))))) (.node (o48 P) (.node (o80 P) (.node (o144 P) (.node (l9 P) (lf (XM P)) .nil) (lf oz)) (.node (o208 P) (lf (o336 P)) (lf (ZD P)))) (.node (o112 P) (.node (o176 P) (lf (o304 P)) (lf (US P))) (.node (o240 P) (lf (mz 54)) (lf (ZY P)))))) ('#' (Qn P) ('#' (mz 4) ('#' (o72 P) ('#' (mz 21) ('#' (V4 P) (lf (u5 P)) .nil) (lf (WE P))) ('#' (o200 P) (lf (mz 48)) (lf (JR P)))) ('#' (o104 P) ('#' (⟨ 'ʵ',none,'ȵ' #['制' 495,'制' 496,'Ƀ' 497,'墆','5','5','5','5',.ref 166,'乔','ʪ',.ref 167,'&','&','&','&',.int 498 0,'墆','Ƀ' 499],#[]⟩) (lf (o296 P)) (lf (o424 P))) ('#' (o232 P) 'Ⱦ' (lf (o488 P))))) ('#' (o56 P) ('ɟ' (.node oz (.node (zm8 P) (lf (mz 83)) .nil) (lf (mz 63))) (.node oz (lf (o344 P)) (lf (mz 73)))) ('#' (EM P) ('#' (JW P) (lf (v5 P)) 'Ⱦ') ('#' (E6 P) (lf (NP P)) 'Ⱦ'))))) ('#' (⟨ '&',none,'ȵ' #['倃','5',.ref 20,'乧','5',.ref 27,.int 8 0,'5',.ref 34,.int 13 0,'5',.ref 41,.int 15 0,'5',.ref 48,.int 17 0,'5',.ref 55,.int 24 0,'5',.ref 85,.int 26 0,'5',.ref 92,'墂','5',.ref 97,.int 30 0,'5',.ref 104,.int 37 0,'5',.ref 111,.int 39 0,'5',.ref 118,.int 41 0,'5',.ref 125,'境','5',.ref 130,.int 54 0,'5',.ref 137,.int 60 0,'5',.ref 144,'墄','5',.ref 149,.int 73 0,'5',.ref 156,'墅','5',.ref 161,'墆','5',.ref 168,.int 111 0,'5',.ref 208,'塅','5',.ref 213,.int 116 0,'5',.ref 220,.int 119 0,'5',.ref 227,'塆','5',.ref 232,.int 124 0,'5',.ref 239,.int 128 0,'5',.ref 246,.int 130 0,'5',.ref 253,.int 134 0,'5',.ref 260,.int 136 0,'5',.ref 267,.int 142 0,'5',.ref 275,.int 144 0,'5',.ref 282,.int 149 0,'5',.ref 289,.int 153 0,'5',.ref 296,.int 155 0,'5',.ref 303,.int 159 0,'5',.ref 310,.int 163 0,'5',.ref 317,'塇','5',.ref 322,.int 173 0,'5',.ref 329,.int 176 0,'5',.ref 336,'ʪ','5',.ref 343,.int 185 0,'5',.ref 350,.int 191 0,'5',.ref 357,'塈','5',.ref 362,.int 206 0,'5',.ref 369,'塉','5',.ref 374,.int 224 0,'5',.ref 381,.int 232 0,'5',.ref 390,.int 240 0,'5',.ref 397,.int 242 0,'5',.ref 404,'塊','5',.ref 409,.int 267 0,'5',.ref 416,.int 276 0,'5',.ref 423,.int 279 0,'5',.ref 430,.int 285 0,'5',.ref 437,'塋','5',.ref 442,'塌','5',.ref 447,'塍','5',.ref 452,.int 300 0,'5',.ref 459,.int 306 0,'5',.ref 466,.int 309 0,'5',.ref 473,.int 313 0,'5',.ref 480,.int 324 0,'5',.ref 487,.int 330 0,'5',.ref 494,.int 335 0,'5',.ref 501,'塎','5',.ref 506,.int 354 0,'5',.ref 513,'塏','5',.ref 518,'塐','5',.ref 523,.int 405 0,'5',.ref 530,.int 411 0,'5',.ref 537],#[]⟩) ('#' (o20 P) ('#' (Jr P) ('#' (o68 P) ('#' (QJ P) ('#' (o260 P) '券') (lf (PZ P))) ('#' (o196 P) (lf (Xv P)) (lf (o452 P)))) ('ɟ' (.node (⟨.type "builtin_function_or_method",none,.fields #[Value.builtin "type.__prepare__",.type "type"],#[]⟩) (lf oz) (lf (FH P))) (.node (o228 P) (lf (mz 52)) (lf (WH P))))) ('#' (Ej P) ('#' (mz 12) ('#' (mz 23) ('#' (o276 P) (lf (ZI P)) .nil) (lf (o404 P))) ('#' (mz 29) (lf (SY P)) (lf (zf7 P)))) ('#' (T7 P) ('#' (UT P) (lf (Vy P)) (lf (mz 67))) ('#' (FU P) 'Ⱦ' (lf (mz 77)))))) ('#' (o28 P) ('ɟ' (.node (o76 P) (.node oz (.node (o268 P) (lf (o524 P)) .nil) (lf (mz 61))) (.node oz (lf oz) (lf (o460 P)))) (.node (MX P) (.node (UD P) (lf (NM P)) (lf (VR P))) (.node (UG P) (lf (zi7 P)) (lf (FP P))))) ('Ѭ' (.node (o92 P) (.node (o156 P) (lf (YW P)) (lf oz)) (.node (o220 P) (lf (UI P)) (lf oz))) (.node (mz 18) (.node (mm 26 2 "Behinds.mays" (.none) 0 [] .none .none .none .none none .none .none 0) (lf (mz 46)) (lf (zo8 P))) (.node (mz 35) (lf (mz 56)) (lf (AJ P)))))))) ('#' '埛' ('#' '垟' ('#' (Rq P) ('#' (o34 P) ('#' (o66 P) ('#' (o130 P) ('#' (HZ P) (lf (o514 P)) .nil) 'Ⱦ') ('#' (o194 P) (lf (o322 P)) 'Ⱦ')) ('#' (o98 P) ('#' (o162 P) (lf (o290 P)) (lf (Yl P))) ('#' (mz 31) (lf (HC P)) (lf (E4 P))))) ('#' (Iq P) ('#' (ML P) ('#' (zh6 P) ('#' (mz 40) (lf (o530 P)) .nil) (lf (KY P))) ('#' (zp8 P) (lf (DY P)) (lf (o466 P)))) ('ɟ' (.node oz (lf oz) (lf (FQ P))) (.node oz (lf (o370 P)) (lf (ZN P)))))) ('#' (mz 2) ('#' (o42 P) ('#' (o74 P) ('#' (o138 P) ('#' (mz 37) (lf (mz 81)) .nil) (lf (zf8 P))) ('#' (⟨ '峯',none,'ȵ' #[Value.builtin "object.__init_subclass__",'ђ'],#[]⟩) (lf (o330 P)) (lf (mz 71)))) ('#' (u7 P) ('#' (HJ P) (lf (d8 P)) 'Ⱦ') ('#' (ZR P) (lf (o362 P)) 'Ⱦ'))) ('Ѭ' (.node (o90 P) (.node (GA P) (.node (o282 P) (lf (o538 P)) .nil) (lf (o410 P))) (.node (BF P) (lf oz) (lf (o474 P)))) (.node (FS P) (.node (zc0 P) (lf (zw3 P)) (lf (o442 P))) (.node (C3 P) (lf (Zb P)) (lf (o506 P))))))) ('#' '唘' ('#' (Rr P) ('#' (Lv P) ('#' (o70 P) ('#' (SV P) ('#' (zs4 P) (lf (o518 P)) .nil) (lf (o390 P))) ('#' (o198 P) (lf (Zd P)) (lf (zk2 P)))) ('#' (R1 P) ('Ѭ' (lf (QW P)) (lf (mz 65))) ('ɟ' (lf (o358 P)) (lf (mz 75))))) ('#' (mz 6) ('#' (o86 P) ('#' (o150 P) ('ɟ' (lf (zg4 P)) .nil) (lf (CO P))) ('#' (o214 P) (lf (mz 50)) (lf (zk1 P)))) ('#' (o118 P) ('#' (o182 P) (lf (o310 P)) (lf (o438 P))) ('#' (o246 P) (lf (o374 P)) (lf (o502 P)))))) ('ɟ' (.node (Qi P) (.node (o78 P) (.node (Tf P) (.node (WX P) (lf oz) .nil) (lf (o398 P))) (.node (zh1 P) (lf (zs1 P)) (lf oz))) (.node (mz 16) (.node (mm 26 0 "Behinds.__init__" (.none) 0 [] .none .none .none .none none .none .none 0) (lf (mz 44)) (lf (o430 P))) (.node (mz 33) (lf (JP P)) (lf (o494 P))))) (.node (tq []) (.node (o94 P) (.node (zj6 P) (lf (zm1 P)) (lf (MP P))) (.node (L7 P) (lf (o350 P)) (lf (zw0 P)))) (.node (o126 P) (.node (VW P) (lf (o318 P)) (lf (mz 69))) (.node (o254 P) (lf (o382 P)) (lf (QC P))))))))))
def t0['"']:BT:=('#' '埓' ('#' '埔' ('#' (⟨ 'Χ',none,'Ϩ' #[⟨ '巵','忮',.str 'ԭ'⟩,'孑','嬂','婕','嬺','媻','嫩','媢','嬔','嬪','孒','嬫','宊','宋','嬬','孬'] 16,#[]⟩) ('#' '埕' ('#' (Fj P) (lf (Dt P)) (lf (mz 5))) ('ɟ' (lf (Bq P)) (lf (o55 P)))) ('Ѭ' (.node (mz 1) (lf (o35 P)) (lf oz)) (.node (o27 P) (lf (Ky P)) .nil))) ('#' '埖' ('#' '埗' ('#' (Ch P) (lf (mz 3)) (lf (o49 P))) ('#' (Ql P) (lf (o41 P)) (lf (o57 P)))) ('#' '唖' ('#' (o21 P) 'Ⱦ' (lf (Ck P))) ('#' (Nn P) (lf (Dg P)) .nil)))) ('#' '埘' ('#' '埙' ('#' '埚' ('ɟ' (lf (Bf P)) (lf (o48 P))) ('#' (Qn P) (lf (mz 4)) (lf (o56 P)))) ('#' (⟨ '&',none,'ȵ' #['倃','5',.ref 20,'乧','5',.ref 27,.int 8 0,'5',.ref 34,.int 13 0,'5',.ref 41,.int 15 0,'5',.ref 48,.int 17 0,'5',.ref 55],#[]⟩) ('#' (o20 P) (lf (Jr P)) (lf (Ej P))) ('#' (o28 P) '券'))) ('#' '埛' ('#' '垟' ('#' (Rq P) (lf (o34 P)) (lf (Iq P))) ('#' (mz 2) (lf (o42 P)) .nil)) ('#' '唘' ('#' (Rr P) (lf (Lv P)) (lf (mz 6))) ('ɟ' (lf (Qi P)) .nil)))))
def tB['"']:BT:=('#' '埓' ('#' '埔' ('#' (boot_o_3 P) (lf '埕') (lf 'П')) ('#' '埖' (lf '埗') (lf '唖'))) ('#' '埘' ('#' '埙' (lf '埚') 'Ⱦ') ('#' '埛' (lf '垟') (lf '唘'))))
section E
def env0:Env:={scope:=prog.main.scope,locals:=mainNs,globals:=mainNs,cells:=[],code:=.ref 13,frame:=some 14}
end
mutual section G
def kG(a n:Nat):'ɪ':=(prog.main.body.drop a).take n
section E.H22
set_option maxHeartbeats 0
namespace H22
open PySem PySem.W HD
noncomputable abbrev T0['ԝ']:SharedT:=⟨ '拞',58,{},'ϣ',{},253,os⟩
abbrev D0:Obj:='喩'
abbrev tp(vs:';'):Obj:={cls:='ˎ',data:='惬'}
noncomputable abbrev T1['ԝ']:SharedT:=⟨('拞').ins 58 D0,59,{},'ϣ',{},253,os⟩
noncomputable def vJ['"']:BT:=(((((((t0 P).ins 58 D0).ins 59 '属').ins 60 '孓').ins 61 '尹').ins 62 '婭').ins 63 '尺').ins 64 '婲'
abbrev dO['丈']:Obj:={cls:='Χ',data:='Ϩ' es.toArray es.length}
noncomputable abbrev TD(es:'僉')['ԝ'](k:Nat):SharedT:=⟨ '悚' 58 (dO (es w.params)),65,{},'ϣ',{},k,os⟩
abbrev fS:'僉':=fun _=>[]
abbrev dp:Pos:=⟨21,14,21,204⟩
theorem ZO:st='ͱ' ['ɓ' 'Ӯ' (wL st)] '嵓' (wM st):='ʴ'
section
variable (w:World)(os:OsState)(p:Program)(b:'ɪ')
abbrev RR['ˊ'](N:Nat)(m:'乬')(s:SharedT)(pos:Pos)(a:α)(s':SharedT)(pos':Pos):Prop:=R N treeTable p w 11 (some (Value.ref 6)) ('惔') 'Ӱ' m s.abs pos a s'.abs pos'
theorem zi2:'亠' 34 (evalPairs (pairTrees (rM st) (tO st) env0 (oJ st))) (T1 w os) dp [(.ref 59,.ref 60),(.ref 61,.ref 62),(.ref 63,.ref 64)] (TD fS w os 272) dp :=
 R.leaf 34 '嗰'
section E
abbrev kh['"'](z:Str):Int:='6' z
def i1['"']:Int:=Builtin.Tuple.tupleHashOf ['厪','厪']
def i2['"']:Int:=Builtin.Tuple.tupleHashOf ['厪',kh P 'ϛ']
def i3['"']:Int:=Builtin.Tuple.tupleHashOf [kh P 'ϛ','厪']
def e1['"']:DictEntry:='屯'
def e2['"']:DictEntry:='屰'
def e3['"']:DictEntry:='山'
abbrev gE:'僉':=fun P=>[e1 P]
abbrev gJ:'僉':=fun P=>[e1 P,e2 P]
abbrev sL:'僉':=fun P=>[e1 P,e2 P,e3 P]
abbrev row:String:='匋'
section
variable (v:World)(os:OsState)(p:Program)(b:'ɪ')
theorem lT['ζ'](t:String)['攀']:'亠' 1 (rule t) sT pos () sT pos:='唉' fun K H gd lv=>by
 obtain⟨T,n,l,g,d,k,o⟩:=sT;rfl
theorem mP['ζ'](i:Int)['攀']:'亠' 1 (pyHashByItsType.reduced i) sT pos (reduceHash i) sT pos:=by
 unfold pyHashByItsType.reduced reduceHash
 by_cases hr:(decide (-'吶'^63<=i)&&decide (i<2^63))=true
 ·rw[if_pos hr,if_pos hr];exact R.mono '+' R.pure
 ·rw[if_neg hr,if_neg hr];exact '摁' (R.bind (lT p b w _ sT pos) R.pure)
theorem MU:'妎' (pyHash (.ref 59)) (TD fS (v.withFollow row false) os 272) dp (reduceHash (i1 (v.withFollow row false).params)) (TD fS (v.withFollow row false) os 275) dp:=by
 show '値';refine '倥' (R.bind (R.leaf (sT':=(TD fS (v.withFollow row false) os 272)) (a:=()) (pos':=dp) 1 fun K H gd lv=>by rw[Fast.te10295753902157049106,Fast.te14364793385576792824];kernel_rfl) ?_)
 refine '娊'
 rw['˷']
 refine '娊'
 rw['˷']
 refine R.bind (R.leaf (sT':='屲') (a:=some (.int (i1 '侄') 274)) '倬') ?_
 exact '俊'
theorem TZ:'妤' (pyHash (.ref 59)) (TD fS (v.withFollow row true) os 272) dp (reduceHash (i1 (v.withFollow row true).params)) (TD fS (v.withFollow row true) os 275) dp:=by
 show '値';refine '倥' (R.bind (R.leaf (sT':=(TD fS (v.withFollow row true) os 272)) (a:=()) (pos':=dp) 1 fun K H gd lv=>by rw[Fast.te10295753902157049106,Fast.te14364793385576792824];kernel_rfl) ?_)
 refine '娍'
 rw['˷']
 refine '娍'
 rw['˷']
 refine R.bind (R.leaf (sT':='岋') (a:=some (.int (i1 '侅') 274)) '倬') ?_
 exact '俊'
theorem GW:'妎' (pyHash (.ref 61)) (TD gE (v.withFollow row false) os 275) dp (reduceHash (i2 (v.withFollow row false).params)) (TD gE (v.withFollow row false) os 278) dp:=by
 show '値';refine '倥' (R.bind (R.leaf (sT':=(TD gE (v.withFollow row false) os 275)) (a:=()) (pos':=dp) 1 fun K H gd lv=>by rw[Fast.te10295753902157049106,Fast.te14364793385576792824];kernel_rfl) ?_)
 refine '娋'
 rw['˷']
 refine '娋'
 rw['˷']
 refine R.bind (R.leaf (sT':='屳') (a:=some (.int (i2 '侄') 277)) '倬') ?_
 exact '俊'
theorem MF:'妤' (pyHash (.ref 61)) (TD gE (v.withFollow row true) os 275) dp (reduceHash (i2 (v.withFollow row true).params)) (TD gE (v.withFollow row true) os 278) dp:=by
 show '値';refine '倥' (R.bind (R.leaf (sT':=(TD gE (v.withFollow row true) os 275)) (a:=()) (pos':=dp) 1 fun K H gd lv=>by rw[Fast.te10295753902157049106,Fast.te14364793385576792824];kernel_rfl) ?_)
 refine '娎'
 rw['˷']
 refine '娎'
 rw['˷']
 refine R.bind (R.leaf (sT':='岌') (a:=some (.int (i2 '侅') 277)) '倬') ?_
 exact '俊'
theorem Wb:'妎' (pyHash (.ref 63)) (TD gJ (v.withFollow row false) os 278) dp (reduceHash (i3 (v.withFollow row false).params)) (TD gJ (v.withFollow row false) os 281) dp:=by
 show '値';refine '倥' (R.bind (R.leaf (sT':=(TD gJ (v.withFollow row false) os 278)) (a:=()) (pos':=dp) 1 fun K H gd lv=>by rw[Fast.te10295753902157049106,Fast.te14364793385576792824];kernel_rfl) ?_)
 refine '娌'
 rw['˷']
 refine '娌'
 rw['˷']
 refine R.bind (R.leaf (sT':='屴') (a:=some (.int (i3 '侄') 280)) '倬') ?_
 exact '俊'
theorem CZ:'妤' (pyHash (.ref 63)) (TD gJ (v.withFollow row true) os 278) dp (reduceHash (i3 (v.withFollow row true).params)) (TD gJ (v.withFollow row true) os 281) dp:=by
 show '値';refine '倥' (R.bind (R.leaf (sT':=(TD gJ (v.withFollow row true) os 278)) (a:=()) (pos':=dp) 1 fun K H gd lv=>by rw[Fast.te10295753902157049106,Fast.te14364793385576792824];kernel_rfl) ?_)
 refine '娏'
 rw['˷']
 refine '娏'
 rw['˷']
 refine R.bind (R.leaf (sT':='岍') (a:=some (.int (i3 '侅') 280)) '倬') ?_
 exact '俊'
section E
section
variable (v:World)(bb:Bool)(os:OsState)(p:Program)(b:'ɪ')
noncomputable abbrev TX['丈']['ԝ'](k:Nat):SharedT:=⟨ '悚' '姭',65,{},'ϣ',{},k,os⟩
theorem zb8['ζ'](x:Int):'亠' 5 (dictSetHashed 58 (.ref 59) x (.ref 60)) (TX [] w os 275) dp () (TX [⟨x,.ref 59,.ref 60⟩] w os 275) dp :=
 R.leaf 5 fun '˛'=>by rw[Fast.te10295753902157049106,Fast.te14364793385576792824,Fast.te4359058424727691002];kernel_rfl
theorem EK(x y:Int)(k v:Value):placesWithHash '崥'.size (fun i=>'崥'[i]?.map (·.hash)) y='廋':=by
 by_cases h:x=y<;>simp[placesWithHash,List.range_succ,h]
theorem HS(x x' y:Int)(k v k' v':Value):placesWithHash '寠'.size (fun i=>'寠'[i]?.map (·.hash)) y=('廋')++(if x'=y then [1] else []):=by
 by_cases h:x=y<;>by_cases h':x'=y<;>simp[placesWithHash,List.range_succ,h,h']
theorem zu8(x y:Int):'ϴ' 31 (dictFind 58 (.ref 61) y) (TX [⟨x,.ref 59,.ref 60⟩] (v.withFollow row bb) os 278) dp none (TX [⟨x,.ref 59,.ref 60⟩] (v.withFollow row bb) os 278) dp:=by
 unfold dictFind;refine R.hold ('咏' (N2:=30) (R.leaf (sT':=TX [⟨x,.ref 59,.ref 60⟩] (v.withFollow row bb) os 278) (a:=#[⟨x,.ref 59,.ref 60⟩]) (pos':=dp) 1 fun K H gd lv=>by rw[Fast.te10295753902157049106,Fast.te14364793385576792824];kernel_rfl) ?_)
 have e:=EK x y '冷' ('伡')
 by_cases h:x=y
 ·subst h;rw['ɘ']at e;show '壢';refine R.mono (N1:=6+(1+(20+(1+(1+0))))) '+' (R.bind ('揖' 6 fun K H gd lv=>by rw[Fast.te10295753902157049106,Fast.te14364793385576792824,Fast.te11445937954039399578];cases bb<;>kernel_rfl) ?_)
  refine '娑'
  refine R.bind ('揖' 20 fun K H gd lv=>by rw[Fast.te10295753902157049106,Fast.te14364793385576792824,Fast.te13926502685295537346];cases bb<;>kernel_rfl) ?_
  refine '娑'
  show '呓'
 ·rw['伐']at e;rw[e];exact '孆'
section E
section
variable (v:World)(bb:Bool)(os:OsState)(p:Program)(b:'ɪ')(x x':Int)
noncomputable abbrev TY(x x':Int)['ԝ']:SharedT:=TX ['仆','嘽'] w os 281
theorem jU['ζ']:'亠' 1 (dictEpoch 58 (keyPart (.ref 63))) (TY x x' w os) dp 2 (TY x x' w os) dp:='唉' fun K H gd lv=>by rw[Fast.te10295753902157049106,Fast.te14364793385576792824];kernel_rfl
theorem Bc:'ϴ' 16 (eqBool (.ref 59) (.ref 63)) (TY x x' (v.withFollow row bb) os) dp false (TY x x' (v.withFollow row bb) os) dp:='娧'
theorem Rh:'ϴ' 16 (eqBool (.ref 61) (.ref 63)) (TY x x' (v.withFollow row bb) os) dp false (TY x x' (v.withFollow row bb) os) dp:='娧'
theorem LM:'ϴ' 9 (tableMayTell (.ref 63) [.ref 59,.ref 61]) (TY x x' (v.withFollow row bb) os) dp false (TY x x' (v.withFollow row bb) os) dp:=R.leaf 9 '唚'
theorem F2:'ϴ' 6 (tableMayTell (.ref 63) [.ref 59]) (TY x x' (v.withFollow row bb) os) dp false (TY x x' (v.withFollow row bb) os) dp:='娩'
theorem O3:'ϴ' 6 (tableMayTell (.ref 63) [.ref 61]) (TY x x' (v.withFollow row bb) os) dp false (TY x x' (v.withFollow row bb) os) dp:='娩'
theorem W9(y:Int):'ϴ' 101 (dictFind 58 (.ref 63) y) (TY x x' (v.withFollow row bb) os) dp none (TY x x' (v.withFollow row bb) os) dp:=by
 unfold dictFind;refine R.hold ('咏' (N2:=100) (R.leaf (sT':=TY x x' (v.withFollow row bb) os) (a:=#[⟨x,.ref 59,.ref 60⟩,⟨x',.ref 61,.ref 62⟩]) (pos':=dp) 1 fun K H gd lv=>by rw[Fast.te10295753902157049106,Fast.te14364793385576792824];kernel_rfl) ?_)
 have e:=HS x x' y '冷' ('伡') '冸' ('伣')
 by_cases h:x=y<;>by_cases h':x'=y
 ·subst h;rw['ɘ',if_pos h']at e;rw[e];simp[carriedByValue,-bind_pure_comp,-map_pure,h'];refine R.mono (N1:=9+(1+(16+(1+(1+'匳'))))) '+' (R.bind (LM 'ҳ' x x) ?_)
  rw['˷']
  refine '姒' (R.bind (Bc v bb os p b x x) (R.bind (jU os p b x x _) ?_));simp[-bind_pure_comp,-map_pure];refine R.mono (N1:=1+'匳') '+' (R.bind '惕' ?_)
  refine '姒' (R.bind (Rh v bb os p b x x) (R.bind (jU os p b x x _) ?_));show '呓'
 ·subst h;rw['ɘ',if_neg h']at e;show '壢';refine '揷' (R.bind (F2 v bb os p b x x') ?_)
  refine '姓' (R.bind (Bc v bb os p b x x') (R.bind (jU os p b x x' _) ?_));show '呓'
 ·subst h';rw['伐','ɘ']at e;show '壢';refine '揷' (R.bind (O3 v bb os p b x x') ?_)
  refine '姓' (R.bind (Rh v bb os p b x x') (R.bind (jU os p b x x' _) ?_));show '呓'
 ·rw['伐',if_neg h']at e;rw[e];exact '孆'
theorem Wt(y:Int):'ϴ' 35 (dictSetHashed 58 (.ref 61) y (.ref 62)) (TX [⟨x,.ref 59,.ref 60⟩] (v.withFollow row bb) os 278) dp () (TX [⟨x,.ref 59,.ref 60⟩,⟨y,.ref 61,.ref 62⟩] (v.withFollow row bb) os 278) dp:=by
 unfold dictSetHashed;refine R.hold (R.bind (N1:=31) (N2:=4) (zu8 'ҳ' x y) ?_);exact '婢'
theorem OU(y:Int):'ϴ' 105 (dictSetHashed 58 (.ref 63) y (.ref 64)) (TY x x' (v.withFollow row bb) os) dp () (TX [⟨x,.ref 59,.ref 60⟩,⟨x',.ref 61,.ref 62⟩,⟨y,.ref 63,.ref 64⟩] (v.withFollow row bb) os 281) dp:=by
 unfold dictSetHashed;refine R.hold (R.bind (N1:=101) (N2:=4) (W9 '刾' y) ?_);exact '婢'
section E
section
end
mutual section G
variable (v:World)(bb:Bool)(os:OsState)(p:Program)(b:'ɪ')
abbrev p5:Pos:='坐'
abbrev sp:Pos:=⟨21,0,21,204⟩
abbrev px:Pos:='卖'
abbrev dE['"']:'˻':=['屯','屰','山']
noncomputable def trQ['"']['丈']:BT:=((vJ P).ins '姭').set 3 (Obj.putName 'Ӯ' (kh P 'Ӯ') ('弄') '墇')
noncomputable abbrev T6['丈']['ԝ']:SharedT:=⟨trQ w.params es,65,{},'ϣ',{},282,os⟩
theorem xJ['ζ'](sT:SharedT)(q q':Pos):'亠' 1 (standAt q') sT q () sT q':='唉' fun K H gd lv=>by
 obtain⟨T,n,l,g,d,k,o⟩:=sT;rfl
theorem LU:'ϴ' 26 (pyHash (.ref 59)) (TX [] (v.withFollow row bb) os 272) dp (reduceHash (i1 (v.withFollow row bb).params)) (TX [] (v.withFollow row bb) os 275) dp:=by
 cases bb
 ·exact MU v 'ѹ'
 ·exact TZ v 'ѹ'
theorem V2:'ϴ' 26 (pyHash (.ref 61)) (TX [e1 (v.withFollow row bb).params] (v.withFollow row bb) os 275) dp (reduceHash (i2 (v.withFollow row bb).params)) (TX [e1 (v.withFollow row bb).params] (v.withFollow row bb) os 278) dp:=by
 cases bb
 ·exact GW v 'ѹ'
 ·exact MF v 'ѹ'
theorem zq0:'ϴ' 26 (pyHash (.ref 63)) (TX [e1 (v.withFollow row bb).params,e2 (v.withFollow row bb).params] (v.withFollow row bb) os 278) dp (reduceHash (i3 (v.withFollow row bb).params)) (TX [e1 (v.withFollow row bb).params,e2 (v.withFollow row bb).params] (v.withFollow row bb) os 281) dp:=by
 cases bb
 ·exact Wb v 'ѹ'
 ·exact CZ v 'ѹ'
theorem II['ζ']['丈']:'亠' 6 (bindName env0 "POINT_WORDS" (.ref 58)) (TX es w os 281) px () (T6 es w os) px:=R.leaf 6 fun '˛'=>by rw[Fast.te10295753902157049106,Fast.te14364793385576792824,Fast.te7536695828754713326];kernel_rfl
theorem KF['ζ']:'亠' 1 (alloc D0) (T0 w os) dp 58 (T1 w os) dp:='唉' fun K H gd lv=>by kernel_rfl
theorem Lq:oJ st=dp:='ʴ'
theorem a9:wL st=px:='ʴ'
theorem zg6:wM st=sp:='ʴ'
theorem Ik:'ϴ' 300 (exec st env0) (T0 (v.withFollow row bb) os) p5 .next (T6 (dE (v.withFollow row bb).params) (v.withFollow row bb) os) px:=by
 rw[ZO,exec_Assign_Name (env:=env0) 'Ӯ' (wL st) '嵓' (wM st) (by rfl),zg6,a9]
 refine R.mono (N1:=1+(292+(1+(6+0)))) '+' (R.bind '圥' (R.bind (a:=.ref 58) (pos1:=dp) ?_ (R.bind '圥' (R.bind (II 'ѹ' _ _) R.pure))))
 rw[arm_eval_Dict,zip_pairTrees '揄' '˧' '˧',dictDisplay_pairs _ (fun h=>by have:='Ԙ' h;rw['孞']at this;exact absurd this '+') '嫆']
 rw[Lq];refine '咏' (N2:=291) (xJ p b _ _ _ _) (R.bind (N1:=291) (N2:=0) (a:=58) (pos1:=dp) ?_ R.pure);unfold subDict;refine '咏' (N2:=290) (KF os p b _) (R.bind (N1:=290) (N2:=0) (a:=()) (pos1:=dp) (R.hold ?_) R.pure);rw[if_pos '嫆']
 have pr:=zi2 'ҿ' p b
 rw[Lq]at pr;refine R.bind (N1:=34) (N2:=256) pr '拠';simp only[List.forIn_cons,List.forIn_nil,bind_assoc,pure_bind];refine R.mono (N1:=26+5+(26+35+(26+105+0))) '+' (R.bind (R.hold (R.bind (LU 'ҳ') (zb8 'ѹ' _ _))) ?_)
 refine R.bind (R.hold (R.bind (V2 'ҳ') (Wt 'ҳ' _ _))) ?_;refine R.bind (R.hold (R.bind (zq0 'ҳ') (OU 'ҳ' '!'))) ?_;exact R.pure
section E
section E.H22
set_option maxHeartbeats 0
namespace H22
open PySem PySem.W HD
noncomputable def ov['丈'](t:BT):BT:=((((((t.ins '姭').ins 59 '属').ins 60 '孓').ins 61 '尹').ins 62 '婭').ins 63 '尺').ins 64 '婲'
noncomputable abbrev TV['丈'](t:BT)(n k:Nat)(os:OsState):SharedT:=⟨ov es t,n,{},'ϣ',{},k,os⟩
noncomputable abbrev SB['ԝ']:SharedT:=⟨tB w.params,15,{},'ϣ',{},187,os⟩
noncomputable abbrev cB(b:'ɪ'):Code:='惔'
section
variable (w:World)(p:Program)(b:'ɪ')(os:OsState)
theorem Wp:'娝':=by
 refine '委' (P:=fun w=>segRunT treeTable p w 11 (some (.ref 6)) 1 222 (SB w os) (piecesOf (kG 0 9) env0 (cB b) q0 [topFrame q0])=some (.next,T0 w os,cB b,⟨20,0,20,5⟩)) (fun w=>?_) (fun w=>?_) w
 show '呅'
 show '呅'
variable (es:'˻')
theorem SA:'娐':=by
 refine '委' (P:=fun w=>segRunT treeTable p w 11 (some (.ref 6)) 1 3049 (T6 es w os) (piecesOf (kG 10 74) env0 (cB b) ⟨21,0,21,11⟩ [topFrame q0])=some (.next,TV es (tF w.params) 539 1090 os,cB b,⟨411,0,433,15⟩)) (fun w=>?_) (fun w=>?_) w
 show '呅'
 show '呅'
section E
noncomputable abbrev bE:'ɪ':=behindTheImports prog
theorem zj5:bE=kG 0 9++(st::'憎'):='ʴ'
section
variable (w:World)(os:OsState)
theorem J3:topGo '壔' 12 '孔' '憏'=some ('垡',⟨denote treeTable ('厑'),'厑',q0,'Ӱ'⟩):=by
 rw[Fast.te15667345088766844465,Fast.te11892475500146522536,Fast.te14364793385576792824];kernel_rfl
theorem Tb:segRun '壔' 1 1 '垡' (blockOf bE env0 ('厑') q0 'Ӱ')=some ('ў','垡','厑',q0):=by
 kernel_rfl
theorem VB(b:'ɪ')['丈']:'刞' 2 (TV es (tF w.params) 539 1090 os).abs ⟨doneF .next,cB b,⟨411,0,433,15⟩,[topFrame q0]⟩=some '喞':=by
 kernel_rfl
theorem LR{rest:'ɪ'}{N:Nat}{r:Shared}(b:'ɪ')(h:'娟') :
  '娡':=by
 revert h
 refine '委' (P:=fun w=>topRun treeTable prog w 11 (some (.ref 6)) N (T6 (dE w.params) w os).abs (restOf rest env0 (.body b env0) ⟨21,0,21,11⟩ [topFrame q0])=some r->topRun treeTable prog w 11 (some (.ref 6)) (301+N) (T0 w os).abs (restOf (st::rest) env0 (.body b env0) ⟨20,0,20,5⟩ [topFrame q0])=some r) (fun w h=>?_) (fun w h=>?_) w
 ·obtain⟨n,l,e⟩:=R.piece (Ik w false os prog b);have:='尕'
  rw['嵕']at this
  exact this
 ·obtain⟨n,l,e⟩:=R.piece (Ik w true os prog b);have:='尕'
  rw['嵕']at this
  exact this
theorem X7(b:'ɪ')['丈']:'刞' (3049+2) (T6 es w os).abs (restOf (kG 10 74++[]) env0 (.body b env0) ⟨21,0,21,11⟩ [topFrame q0])=some '喞':=by
 exact piece_app (segRun_of (SA w prog b os es)) (piece_nil (VB w os b es))
noncomputable def H1['"']:Heap:=absHeap (ov (dE P) (tF P)) 539 {}
theorem NZ:'刞' (12+(1+(222+(301+(3049+2))))) ⟨boot_heap w.params,⟨[]⟩,boot_drawn,boot_toks,os⟩ (topStub prog)=some '功':=by
 refine go_top (J3 w os) (piece_block (Tb w os) ?_);rw[zj5];exact piece_app (segRun_of (Wp w prog _ os)) (LR w os _ (X7 w os _ _))
section E
def qv:Program:=view prog [1,2,3,4,5,6,8,9,10,11,12,13,14,15,16,17,18,19,21,22,23,24,25,26,27,29,30,31,32,33,34,35,36,37,39,40,41,42,43,44,45,46,47,48,49,50,51,52,53,54,55,56,57,58,59,61,62,63,64,65,66,67,68,69,70,71,72,73,74,75,76,77,78,79,80,81,82,83]
def lo:'$':=[Str.ofString 'Ӯ',Str.ofString "WAYS",Str.ofString '厩',Str.ofString '吼',Str.ofString '卼']
abbrev lw:OpenLaw:=PySem.Challenge.rw_whens_k22_whole_rows_that_come_are_so
abbrev XT:Shared->Bool:=fun s=>xlAt qv [] s&&recOk (RowW.records lw.row.toRowW) s
theorem VU(N:Nat)(h:Nat.ble 600 N=true):∀ w:World,(fencedOpening treeTable 'в' N).map (fun s=>(s.heap,s.gens,s.drawn,s.toks))=some ('囩','ϣ',boot_drawn,boot_toks):=boot_open '˧' h ('企')
theorem U3['ζ']:('僕'.isNs mainGlobals&&('ϣ':'儒').size==0,'僕'.objs.size,'僕'.nsMap mainGlobals '區')=(true,11,'垠'):='ʴ'
theorem LF['ԝ']:(staticsOk '崧' '僕' ('収')&&namesBound prog ('収')&&gensDone '功'&&laidKept '僕' ('収'))=true:='ʴ'
theorem QG['ԝ']:openSeen qv lo '崧' XT true '功'=openGood qv lo:=by
 rw[Fast.te4187177175401517315];kernel_rfl
theorem left(H:Hook)(hH:'媣'):LeftO prog qv lo XT H.obs H.val 7832 :=
 LeftO.of_pieces (H₀:=boot_heap) (H₁:=H1) (gs₀:='ϣ') (gs₁:='ϣ') (d₀:=boot_drawn) (d₁:={}) (k₀:=boot_toks) (k₁:=1090) (m₀:=11) (ann:='垠') (M:=3587) (VU 7832 '+') U3 NZ '+' fun w=>funext fun os=>by rw[LF w os,QG w os,hH w os]
theorem head{H:Hook}{d:DefRec}{kwd:List (Str×Expr)}(hH:'媣')(k1:lw.row.wellSaid=true)(hdef:defOf qv lw.row.name=some (d,kwd))(hp:lw.row.prog.theDef lw.row.name=some (d.params,d.body,d.scope))(hk:kwWritten? d.params.kwonlyargs d.params.kw_defaults=some kwd)
  (hw:lw.row.toRowW.promised) (call:WalkO qv lo (XL qv []) H.says lw.row.toRowW d kwd '嘜'):lw.row.Holds :=
 holds_open (q:=qv) (loose:=lo) (Xt:=XT) (XP:=XL qv []) (Yf:=H.obs) (Ya:=H.val) (YP:=H.says) (N:=7832) (left H hH) (Hook.of H) (Hook.keeps H) (fun s e=>xl_of s '巶'.1) XL.keeps hdef hp hk (fun s e=>recFacts_of '巶'.2) (by rfl) k1 'ɵ' ⟨rfl,rfl,rfl,rfl,rfl,'c'⟩ hw call
section E.H22
namespace K22
open PySem PySem.Spec PyProof.Rows L2 DL
def XV['"']:Obj:=⟨Value.type 'ћ',none,Data.dict #[{hash:=reduceHash (Builtin.Tuple.tupleHashOf ['劜','劜']),key:=Value.ref 59,val:=Value.ref 60},{hash:=reduceHash (Builtin.Tuple.tupleHashOf ['劜','屑']),key:=Value.ref 61,val:=Value.ref 62},{hash:=reduceHash (Builtin.Tuple.tupleHashOf ['屑','劜']),key:=Value.ref 63,val:=Value.ref 64}] 3,#[]⟩
def zv0['"']:Obj:=⟨ '丱',none,Data.seq #['咐' 253,'咐' 254],#[]⟩
def FL['"']:Obj:=⟨ '丱',none,Data.seq #['妅' 255,Value.str (Str.ofString 'Х') 256,'妆' 257],#[]⟩
def Tk['"']:Obj:=⟨ '丱',none,Data.seq #['咐' 258,Value.str '勘' 259],#[]⟩
def Wa['"']:Obj:=⟨ '丱',none,Data.seq #['妅' 260,Value.str (Str.ofString 'К') 261,Value.str (Str.ofString 'Л') 262,Value.str (Str.ofString 'ʭ') 263,'妆' 264],#[]⟩
def OH['"']:Obj:=⟨ '丱',none,Data.seq #[Value.str '勘' 265,'咐' 266],#[]⟩
def Ua['"']:Obj:=⟨ '丱',none,Data.seq #['妅' 267,Value.str (Str.ofString 'і') 268,Value.str (Str.ofString 'ї') 269,Value.str (Str.ofString 'ј') 270,'妆' 271],#[]⟩
end
mutual section G
noncomputable def kk['"']:ad:=[(3,H22.o3 P),(20,H22.o20 P),(21,H22.o21 P),(27,H22.o27 P),(28,H22.o28 P),(34,H22.o34 P),(35,H22.o35 P),(41,H22.o41 P),(42,H22.o42 P),(48,H22.o48 P),(49,H22.o49 P),(55,H22.o55 P),(56,H22.o56 P),(57,H22.o57 P),(58,XV P),(59,zv0 P),(60,FL P),(61,Tk P),(62,Wa P),(63,OH P),(64,Ua P),(65,H22.o65 P),(66,H22.o66 P),(67,H22.o67 P),(68,H22.o68 P),(69,H22.o69 P),(70,H22.o70 P),(71,H22.o71 P),(72,H22.o72 P),(73,H22.o73 P),(74,H22.o74 P),(75,H22.o75 P),(76,H22.o76 P),(77,H22.o77 P),(78,H22.o78 P),(79,H22.o79 P),(85,H22.o85 P),(86,H22.o86 P),(92,H22.o92 P),(93,H22.o93 P),(97,H22.o97 P),(98,H22.o98 P),(104,H22.o104 P),(105,H22.o105 P),(111,H22.o111 P),(112,H22.o112 P),(118,H22.o118 P),(119,H22.o119 P),(125,H22.o125 P),(126,H22.o126 P),(130,H22.o130 P),(131,H22.o131 P),(137,H22.o137 P),(138,H22.o138 P),(144,H22.o144 P),(145,H22.o145 P),(149,H22.o149 P),(150,H22.o150 P),(156,H22.o156 P),(157,H22.o157 P),(161,H22.o161 P),(162,H22.o162 P),(175,H22.o175 P),(176,H22.o176 P),(182,H22.o182 P),(183,H22.o183 P),(194,H22.o194 P),(195,H22.o195 P),(196,H22.o196 P),(197,H22.o197 P),(198,H22.o198 P),(199,H22.o199 P),(200,H22.o200 P),(208,H22.o208 P),(209,H22.o209 P),(213,H22.o213 P),(214,H22.o214 P),(220,H22.o220 P),(221,H22.o221 P),(227,H22.o227 P),(228,H22.o228 P),(232,H22.o232 P),(233,H22.o233 P),(239,H22.o239 P),(240,H22.o240 P),(246,H22.o246 P),(247,H22.o247 P),(253,H22.o253 P),(254,H22.o254 P),(260,H22.o260 P),(261,H22.o261 P),(267,H22.o267 P),(268,H22.o268 P),(269,H22.o269 P),(275,H22.o275 P),(276,H22.o276 P),(282,H22.o282 P),(283,H22.o283 P),(289,H22.o289 P),(290,H22.o290 P),(296,H22.o296 P),(297,H22.o297 P),(303,H22.o303 P),(304,H22.o304 P),(310,H22.o310 P),(311,H22.o311 P),(317,H22.o317 P),(318,H22.o318 P),(322,H22.o322 P),(323,H22.o323 P),(329,H22.o329 P),(330,H22.o330 P),(336,H22.o336 P),(337,H22.o337 P),(343,H22.o343 P),(344,H22.o344 P),(350,H22.o350 P),(351,H22.o351 P),(357,H22.o357 P),(358,H22.o358 P),(362,H22.o362 P),(363,H22.o363 P),(369,H22.o369 P),(370,H22.o370 P),(374,H22.o374 P),(375,H22.o375 P),(381,H22.o381 P),(382,H22.o382 P),(383,H22.o383 P),(384,H22.o384 P),(390,H22.o390 P),(391,H22.o391 P),(397,H22.o397 P),(398,H22.o398 P),(404,H22.o404 P),(405,H22.o405 P),(409,H22.o409 P),(410,H22.o410 P),(416,H22.o416 P),(417,H22.o417 P),(423,H22.o423 P),(424,H22.o424 P),(430,H22.o430 P),(431,H22.o431 P),(437,H22.o437 P),(438,H22.o438 P),(442,H22.o442 P),(443,H22.o443 P),(447,H22.o447 P),(448,H22.o448 P),(452,H22.o452 P),(453,H22.o453 P),(459,H22.o459 P),(460,H22.o460 P),(466,H22.o466 P),(467,H22.o467 P),(473,H22.o473 P),(474,H22.o474 P),(480,H22.o480 P),(481,H22.o481 P),(487,H22.o487 P),(488,H22.o488 P),(494,H22.o494 P),(495,H22.o495 P),(501,H22.o501 P),(502,H22.o502 P),(506,H22.o506 P),(507,H22.o507 P),(513,H22.o513 P),(514,H22.o514 P),(518,H22.o518 P),(519,H22.o519 P),(523,H22.o523 P),(524,H22.o524 P),(530,H22.o530 P),(531,H22.o531 P),(537,H22.o537 P),(538,H22.o538 P)]
section
variable {w:World}
theorem OQ:'佟' 59 ["point","point"]:='剧'
theorem HU:'佟' 60 ["ahead","same","behind"]:=⟨_,_,_,rfl,rfl,rfl,rfl,by show 3<=sizeLine;show '佂','嬍'⟩
theorem ZW:'佟' 61 ["point","stretch"]:='剧'
theorem IK:'佟' 62 ["ahead","begins","within","ends","behind"]:='娓'
theorem W4:'佟' 63 ["stretch","point"]:='剧'
theorem zl9:'佟' 64 ["ahead","ended","holds","begun","behind"]:='娓'
theorem Yo:Cz '8' w 58 Ro:=⟨[('卂',59,'伡'),('僚',61,'伣'),('匞',63,'凚')],⟨_,_,_,rfl,rfl,rfl,rfl,rfl,⟨rfl,rfl,rfl,OQ,⟨rfl,rfl,rfl,ZW,⟨rfl,rfl,rfl,W4,True.intro⟩⟩⟩,by show List.Nodup (['卂','僚','匞']:List ('$'));show 'ѭ',rfl⟩,fun Z m H=>⟨_,_,rfl,KT.rp HU,⟨_,_,rfl,KT.rp IK,⟨_,_,rfl,KT.rp zl9,rfl⟩⟩⟩⟩
theorem Gh:'佟' 57 ["ahead","meets","overlaps","begins","within","ends","same","ended","holds","begun","lapped","met","behind"]:=⟨_,_,_,rfl,rfl,rfl,rfl,by show 13<=sizeLine;show '佂','ϵ' (.cons ⟨_,rfl⟩ (.cons ⟨_,rfl⟩ (.cons ⟨_,rfl⟩ (.cons ⟨_,rfl⟩ (.cons ⟨_,rfl⟩ (.cons ⟨_,rfl⟩ (.cons ⟨_,rfl⟩ (.cons ⟨_,rfl⟩ (.cons ⟨_,rfl⟩ (.cons ⟨_,rfl⟩ (.cons ⟨_,rfl⟩ (.cons ⟨_,rfl⟩ (.nil)))))))))))))⟩
theorem i9:KD '8' w 65 Ao:=⟨[('˕',.ref 66),('ѕ',.ref 67),('Ӹ',.ref 68),('К',.ref 69),('Л',.ref 70),('ʭ',.ref 71),('Х',.ref 72),('і',.ref 73),('ї',.ref 74),('ј',.ref 75),('乣',.ref 76),('ҭ',.ref 77),('ɫ',.ref 78)],⟨_,_,_,rfl,rfl,rfl,rfl,rfl,⟨rfl,'9',rfl,⟨rfl,'9',rfl,⟨rfl,'9',rfl,⟨rfl,'9',rfl,'娄'⟩⟩⟩⟩,by show List.Nodup ('佳':'$');show 'ѭ',rfl⟩,fun Z m H=>⟨_,_,rfl,eZ (is:='懌') 'π',⟨_,_,rfl,eZ (is:='戸') 'π',⟨_,_,rfl,eZ (is:='戹') 'π',⟨_,_,rfl,eZ (is:='抲') 'π',⟨_,_,rfl,eZ (is:='抳') 'π',⟨_,_,rfl,eZ (is:=[1,-1,1,0]) 'π',⟨_,_,rfl,eZ (is:=[0,-1,1,0]) 'π',⟨_,_,rfl,eZ (is:='抴') 'π',⟨_,_,rfl,eZ (is:='抵') 'π',⟨_,_,rfl,eZ (is:=[0,-1,1,1]) 'π',⟨_,_,rfl,eZ (is:=[1,-1,1,1]) 'π',⟨_,_,rfl,eZ (is:=[1,0,1,1]) 'π',⟨_,_,rfl,eZ (is:=[1,1,1,1]) 'π',rfl⟩⟩⟩⟩⟩⟩⟩⟩⟩⟩⟩⟩⟩⟩
theorem zs3:KD '8' w 79 gX:=⟨ '屉',⟨_,_,_,rfl,rfl,rfl,rfl,rfl,'媤',by show List.Nodup ('僚':'$');show 'ѭ',rfl⟩,fun Z m H=>'嬄'⟩
theorem zb3:Of '8' 269 [0,1]:='剧'
theorem Hd:KDt '8' w 383 [('Ԋ','墾'),('Ԓ','墿'),('ҥ','壀'),('ή','壁'),('ɫ','壂'),('Ц','壃'),('ʭ','壄'),('М','壅'),('δ','壆')]:=⟨_,_,_,rfl,rfl,rfl,rfl,rfl,'娄','婅',rfl⟩
theorem V9:KD '8' w 384 zC:=⟨ '娗',⟨_,_,_,rfl,rfl,rfl,rfl,rfl,⟨rfl,'9','9',⟨rfl,'9','9',⟨rfl,'9','9',⟨rfl,'9','9',⟨rfl,'9','9',⟨rfl,'9','9',⟨rfl,'9','9','媤'⟩⟩⟩⟩⟩⟩⟩,'婅',rfl⟩,fun Z m H=>⟨_,_,rfl,'Ѝ',⟨_,_,rfl,'Ѝ',⟨_,_,rfl,'Ѝ',⟨_,_,rfl,'Ѝ',⟨_,_,rfl,'Ѝ',⟨_,_,rfl,'Ѝ',⟨_,_,rfl,'Ѝ','嬄'⟩⟩⟩⟩⟩⟩⟩⟩
theorem kF:'掲' "Behinds"=some ('愯'):='ʴ'
theorem mU:Cls '偟':='嬭'
theorem k9:Mk '偟' 176:='嬭'
theorem Mz:NoAttr '偟' '伅':=('ʴ':'揗' "by_words"='ы')
theorem zc5:NoAttr '偟' '俻':=('ʴ':'揗' "by_mays"='ы')
theorem Yc:Meth '偟' 'ҡ' 183:='寡'
theorem OA:Meth '偟' '俱' 195:='寡'
variable {P:Program}{mg:'Ɂ'}{base:Heap}(E:'侲')
include E
theorem UX:mg 'Ӯ'=some '墇':='仐'
theorem Eg:mg "ORDER"=some (.ref 57):='仐'
theorem OZ:mg "WAYS"=some (.ref 65):='仐'
theorem UB:mg '厩'=some (.ref 79):='仐'
theorem RN:mg '墽'=some (.ref 269):='仐'
theorem Dp:mg '吼'=some (.ref 383):='仐'
theorem zs7:mg '卼'=some (.ref 384):='仐'
theorem ze1:mg '˫'='愯':=E.m kF

theorem R0:'P' "_law_feed" GX 398 Qp 1 vM:=aZ E Zl 'ʝ'
theorem kJ:'P' "_law_draw" ZP 405 Jz 1 bU:=aZ E B7 'ʝ'
theorem Yx:'P' "_law_things" zn3 410 Ow 2 yL:=aZ E zc1 '姿'
theorem Br:'P' "_law_lowest" x4 460 Qq 1 oX:=aZ E zd3 'ʝ'
theorem Wf:'P' "_law_time" Vj 474 Pl 2 oO:=aZ E v8 (by have:=kJ E;have:=Br E;show 'Ȼ')
theorem Vf:'P' "_law_telling" X6 481 Hn 3 Ac:=aZ E zd8 (by have:=Wf E;show 'Ȼ')
theorem tE:'P' "_law_sides" UE 438 He 1 jW:=aZ E Vv 'ʝ'
theorem YD:'P' "_law_clock" W5 488 Gi 2 zI:=aZ E zh5 '娀'
theorem Rj:'P' "_law_two" IY 514 Po 2 mO:=aZ E XE '姿'
theorem Qv:'P' "_law_kinds" QE 448 Lk 1 sA:=aZ E zk9 'ʝ'
theorem tD:'P' "_law_words" LB 417 Ni 1 mE:=aZ E CT 'ʝ'
theorem ZJ:'P' "_law_may" VQ 507 Pq 2 vT:=aZ E K4 (by have:=tD E;have:=kJ E;show 'Ȼ')
theorem L4:'P' "_law_order" zr9 495 Ih 1 sC:=aZ E O1 'ʝ'
theorem QO:'P' "_law_back" G4 424 Mr 2 uL:=aZ E JN (by have:=tD E;show 'Ȼ')
theorem Sf:∀ j,'P' "_law_sign" DU 431 Pr (j+3) (lK j)
 | 0=>J1 E ('坝')
 | j+1=>aZ E (k:=j+3) (HI j) (by have:=Sf j;have:=QO E;show 'Ȼ')
theorem ME:'P' "_law_all_signs" MT 443 Ee 7 uN:=aZ E MM (by have:=tE E;have:=Sf E 3;show 'Ȼ')
theorem Cm:'P' "_law_word" Zs 502 Qf 8 rH:=aZ E HY (by have:=Qv E;have:=L4 E;have:=tE E;have:=ME E;have:=tD E;show 'Ȼ')
theorem Ig:'P' "_law_all_ends" g8 453 Os 2 qZ:=aZ E RJ '娀'
theorem Hy:'P' "_law_added" Xq 467 Gx 2 nM:=aZ E Z8 (by have:=Br E;show 'Ȼ')
theorem PN:'P' "_law_saying" ZL 524 Ll 9 wX:=aZ E YE (by have:=kJ E;have:=Rj E;have:=Qv E;have:=ZJ E;have:=Cm E;have:=tD E;have:=Ig E;have:=Hy E;show 'Ȼ')
theorem Sb:'P' "is_whole" Ye 21 Gg 1 sP:=aZ E Xb 'ʝ'
theorem wV:'P' "is_place" BV 297 Jo 2 mZ:=aZ E VC (by have:=Sb E;show 'Ȼ')
theorem DB:'P' "told_row" FY 330 Ey 3 qG:=aZ E Wu (by have:=wV E;show 'Ȼ')
theorem Bw:'P' "names_of" i8 214 Ef 1 rP:=aZ E DP 'ʝ'
theorem C9:'P' "are_two_names" u8 228 Ke 2 uG:=aZ E JA '威'
theorem pG:'P' "words_of" Yd 86 Gk 1 kS:=aZ E WK 'ʝ'
theorem uD:'P' "kinds_of" zv1 221 Rk 1 lY:=aZ E Xw 'ʝ'
theorem W3:'P' "any_row" Q9 337 Mf 3 sE:=aZ E QS (by have:=C9 E;have:=pG E;have:=uD E;show 'Ȼ')
theorem Yn:'P' "long_row" PR 344 Cq 1 tK:=aZ E zr1 'ʝ'
theorem tJ:'P' "is_may_row" KZ 276 Nu 1 mB:=aZ E Xy 'ʝ'
theorem oQ:'P' "may_row_at" RQ 304 Jv 3 iM:=aZ E YY '姾'
end
mutual section G
theorem BU:'P' "turned" x9 93 Re 1 zE:=aZ E Xx 'ʝ'
theorem N7:'P' "turned_may" zd4 98 Qs 2 xB:=aZ E za8 (by have:=BU E;show 'Ȼ')
theorem UP:'P' "turned_row" zf1 351 Bb 4 rD:=aZ E TN (by have:=oQ E;have:=N7 E;show 'Ȼ')
theorem qT:'P' "ways_by" NU 105 Mp 1 gY:=aZ E OF 'ʝ'
theorem VS:'P' "forced_way" zd1 138 Qj 1 xI:=aZ E J0 'ʝ'
theorem AS:'P' "forced_by" zw4 145 Rc 2 tH:=aZ E zg3 (by have:=VS E;show 'Ȼ')
theorem zc8:'P' "forced_ways" Uc 150 Jd 3 uZ:=aZ E CU (by have:=qT E;have:=AS E;show 'Ȼ')
theorem Uz:'P' "go_with" HR 157 Jj 1 rW:=aZ E Q5 'ʝ'
theorem VL:'P' "behind_words" MK 162 Rf 4 yG:=aZ E Vu (by have:=zc8 E;have:=pG E;have:=Uz E;show '妲')
theorem F0:'哥' "words" "Behinds.words" EV 183 Cw 5 zT:=uT EF (by have:=VL E;show 'Ȼ')
theorem U0:'哥' "gathered" "Behinds.gathered" YV 195 Ft 6 Am:=uT N4 (by have:=pG E;have:=F0 E;show 'Ȼ')
theorem U8:'哥' "__init__" "Behinds.__init__" C4 176 Hg 1 Au:=uT IH 'ʝ'
theorem MQ:'P' "behind_mays" JK 209 Qw 7 yS:=aZ E za4 (by have:=U0 E;have:=U8 E;show 'Ȼ')
theorem PH:'P' "behind_row" MW 358 Iz 8 qQ:=aZ E M0 (by have:=oQ E;have:=uD E;have:=MQ E;show 'Ȼ')
theorem zo4:'P' "both_row" Vb 363 Go 4 tP:=aZ E OG (by have:=oQ E;show 'Ȼ')
theorem BB:'P' "ends_of" VZ 233 Ph 1 yT:=aZ E RE 'ʝ'
theorem CM:'P' "is_end" VJ 240 Rl 2 sW:=aZ E RA (by have:=Sb E;have:=BB E;show 'Ȼ')
theorem Rb:'P' "lie_across" U5 318 Pt 3 qF:=aZ E OO (by have:=CM E;show 'Ȼ')
theorem UZ:'P' "how_ends" GZ 112 Pk 2 sI:=aZ E QY (by show '妲')
theorem Sg:'P' "ways_across" Q7 323 Rg 3 oY:=aZ E Z0 (by have:=uD E;have:=UZ E;show 'Ȼ')
theorem JM:'P' "ends_row" IB 370 Kj 4 pA:=aZ E AM (by have:=oQ E;show '摣')
theorem Hz:'P' "gap_row_at" zi8 311 Bn 3 nF:=aZ E JV '姾'
theorem Ws:'P' "strike_row" ZS 375 Li 4 pC:=aZ E WP (by have:=oQ E;have:=Hz E;show '摣')
theorem KR:'P' "common" JB 28 Mn 1 nQ:=aZ E T3 'ʝ'
theorem Oa:'P' "fraction" CH 35 By 2 sB:=aZ E zs0 (by have:=KR E;show 'Ȼ')
theorem XU:'P' "plus" t9 42 Gu 3 vG:=aZ E zo9 '娂'
theorem Zu:'P' "add_row" GH 382 Lf 4 tT:=aZ E R4 (by have:=Hz E;have:=XU E;show 'Ȼ')
theorem Yi:'P' "row_of" g7 391 Mx 9 As:=aZ E Xk (by have:=DB E;have:=W3 E;have:=Yn E;have:=UP E;have:=PH E;have:=zo4 E;have:=JM E;have:=Ws E;have:=Zu E;show 'Ȼ')
theorem zw1:'P' "_law_some_step" Y5 519 Qc 3 yB:=aZ E BL (by have:=Ig E;have:=kJ E;have:=Rj E;show 'Ȼ')
theorem zc9:'P' "_law_had" C5 531 Ks 9 vO:=aZ E i5 (by have:=Cm E;have:=Hy E;show 'Ȼ')
theorem FB:'P' "is_fault" E3 283 Ie 2 yV:=aZ E N6 (by have:=tJ E;show 'Ȼ')
theorem KL:'P' "is_point" QB 119 Cd 1 kY:=aZ E C2 'ʝ'
theorem Op:'P' "is_below" f8 56 Sm 1 lP:=aZ E XX 'ʝ'
theorem zs8:'P' "way_of" zj1 126 Jy 2 rA:=aZ E FF (by have:=Op E;show 'Ȼ')
theorem zn5:'P' "word_of" D7 131 Py 3 wU:=aZ E G8 (by have:=KL E;have:=zs8 E;have:=pG E;show '妲')
theorem Sk:'P' "times_of" zu1 247 Lo 2 nK:=aZ E EA '威'
theorem GM:'P' "word_between" KQ 261 Jx 4 qR:=aZ E Vp (by have:=zn5 E;have:=Sk E;show 'Ȼ')
theorem u9:'P' "less" B8 49 Ed 3 oZ:=aZ E ES '娂'
theorem V0:'P' "time_of" W2 254 Pu 3 pQ:=aZ E HX (by have:=Sk E;show 'Ȼ')
theorem zj2:'P' "is_gap_met" OV 268 Aw 4 yP:=aZ E Tu (by have:=u9 E;have:=V0 E;have:=Op E;show 'Ȼ')
theorem BG:'P' "has_row" t5 290 On 5 vK:=aZ E AW (by have:=tJ E;have:=GM E;have:=zj2 E;show 'Ȼ')
theorem BC:'P' "law" R6 538 Kt 10 nJ:=aZ E VI (by have:=R0 E;have:=Yx E;have:=Vf E;have:=YD E;have:=PN E;have:=kJ E;have:=Yi E;have:=zw1 E;have:=zc9 E;have:=FB E;have:=BG E;show 'Ȼ')
section E
theorem fin['˯']{mg:'Ɂ'}{fa:Addr}['ˌ'](X:'8'.In h)(G:'匓')(hfa:'庫') :
  ∃ fd:FuncData,(∀ (s:Shared) (v:Value),'倾' ⟨[v],[]⟩ [("_law_script",v)])/\∀ base:Heap,'8'.In base->'侔'->FnOk '呛' '攘' (LSp '8' 1 nJ) :=
 L6 (En.d (kk:=kk) (P:=P) (base:=h) '拧' (di '˧' rfl '˧' '˧')) hfa (fun 'Ю'=>rO (by intros;rfl)) fun base=>BC '拧'
theorem walk{l:PySem.W.OpenLaw}['壞']{K:'其'}(hn:l.most=some 63)(hdf:'嚋')
  (hY:'寈')
  (F:∀ (w:World) (mg:'Ɂ') (fa:Addr) (h:Heap),'儂' h->'匓'->'嘭' ->
   ∃ fd:FuncData,(∀ (s:Shared) (u:Value),'倾' ⟨[u],[]⟩ [("_law_script",u)])/\∀ base:Heap,'儂' base->'侔'->'換' cY 10 fa fd ["_law_script"] (LSp (K w.params) 1 nJ)) :
  '媽' :=
 L2.walk_of (n:=63) (k:=10) (x:='儬') (CX:=fun _=>cY) (sp:=fun w=>'当') hn '+' hdf ⟨rfl,rfl,'ğ','ğ'⟩ hY F (fun _ _ a ns hl _ hS=>Zc hS ⟨ns,rfl,hl,'企'⟩) fun 'ε' z=>z
section E.K22
open PySem PySem.W PyProof.Rows
set_option maxHeartbeats 0 in
theorem K22.wsd:PySem.Challenge.rw_whens_k22_whole_rows_that_come_are_so.wellSaid=true:=by
 unfold OpenLaw.wellSaid OpenRow.wellSaid OpenRow.partSaid looksOpen
 repeat' (with_reducible refine PySem.W.look_both 'Z')
 all_goals (show 'ѭ')
end
end
set_option hygiene true
set_option maxRecDepth 100000 in
set_option maxHeartbeats 0 in
theorem PySem.Challenge.cw_whens_k22_whole_rows_that_come_are_so_holds : PySem.Challenge.rw_whens_k22_whole_rows_that_come_are_so.Holds := by
 w_on;refine PySem.W.holds_law K22.wsd fun said=>?_;refine H22.head (H:=kHook K22.kk [3,20,21,27,28,34,35,41,42,48,49,55,56,57,58,59,60,61,62,63,64,65,66,67,68,69,70,71,72,73,74,75,76,77,78,79,85,86,92,93,97,98,104,105,111,112,118,119,125,126,130,131,137,138,144,145,149,150,156,157,161,162,175,176,182,183,194,195,196,197,198,199,200,208,209,213,214,220,221,227,228,232,233,239,240,246,247,253,254,260,261,267,268,269,275,276,282,283,289,290,296,297,303,304,310,311,317,318,322,323,329,330,336,337,343,344,350,351,357,358,362,363,369,370,374,375,381,382,383,384,390,391,397,398,404,405,409,410,416,417,423,424,430,431,437,438,442,443,447,448,452,453,459,460,466,467,473,474,480,481,487,488,494,495,501,502,506,507,513,514,518,519,523,524,530,531,537,538] (fun _=>by kernel_rfl)) (fun w os=>by kernel_rfl) (by assumption) (by rfl) (by rfl) (by rfl) ?hw ?hc;(case hw=>w_witness2)
 k_fill
 refine K22.walk (l:=PySem.Challenge.rw_whens_k22_whole_rows_that_come_are_so) rfl rfl (fun w h Y=>PySem.W.kIn_of Y) ?F
 case F =>
  exact fun w mg fa h KX G hmg=>K22.fin KX G hmg
#print axioms PySem.Challenge.cw_whens_k22_whole_rows_that_come_are_so_holds
